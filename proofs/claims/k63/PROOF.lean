import PyProof.Rows.All
import Wide.All
import OpenK.AllK
import Lean
import PySem.Challenge.RW_nearenough_k63_whole_all_points
open Option renaming some→Qs,none→Qn
open Bool renaming true→Qt,false→Qf
noncomputable section
open List.Perm renaming refl→QU,cons_inv→Su,cons→Sy,swap→To,nil_eq→Ub
open PySem.F renaming slot_dict_keyiterator_next→Qw,plainAttrs_list→QB,slot_list_append→QM,type_list_append→Q5,args_dict_keyiterator_next_1→Ro,entry_dict_keyiterator_next→Rr,slot_list_clear→Rz,plain_list_iadd→RA,type_list_clear→SH,slot_dict_iter→SO,slot_int_rmul→SV,slot_list_lt→Ta
open Option.some renaming inj→Qp
open PySem.NameKind renaming free→Qb,cell→Rq
open Array renaming getElem?_toList→P9,perm_iff_toList_perm→QG,toList_append→Tq,length_toList→Tr,size_zip→Tv,forIn_toList→TF,toList_map→Uc,size_map→UP,getD→U7
open PyProof.Rows renaming pendingOf→P4,arrOf→Qi,wpS_bind→Qv,SortSt→QY,wpS_pure→QZ,Keyed→Q7
open ForInStep renaming yield→P1,done→QV
open Int renaming toNat_of_nonneg→PV,eq_ofNat_of_zero_le→PY,le_refl→QD,le_of_lt→QL,fmod_nonneg_of_pos→QW,fmod_lt_of_pos→Rf,lt_of_le_of_lt→RC,mul_le_mul_of_nonneg_right→RN,mul_le_mul_of_nonneg_left→RX,mul_assoc→Sg,sub_mul→Sw,add_zero→SA,le_trans→S6,lt_trans→Tb,toNat_natCast→TU,add_assoc→Vb,mul_comm→Vy
open Classical renaming byContradiction→PB
open List.Sublist renaming refl→Pp,append→Qr
open PySem.Value renaming ref→Ph,none→Sr,type→Te,isStrOf→UZ,isInt→VI,bool→Wn,int→Xc,str→Xd
open Nat renaming le_refl→O5,lt_of_lt_of_le→O9,ne_of_lt→Py,le_trans→PJ,lt_of_le_of_lt→PR,lt_succ_self→Qa,pow_le_pow_right→QC,zero_le→QR,lt_irrefl→Q4,gcd→Rb,mul_div_mul_right→Rg,le_of_lt→Rm,zero_add→Rn,lt_succ_of_lt→RL,gcd_mul_right→RP,ne_of_gt→R6,gcd_pos_of_pos_right→SD,le_add_right→SJ,le_succ→SS,sub_self→S8,gcd_comm→Tc,mul_le_mul_right→Td,add_le_add_left→Tj,mul_le_mul→Tn,pow_le_pow_left→Tx,lt_trichotomy→TV,le_of_eq→T7,mul_comm→T9,lt_trans→Ua,gcd_le_right→Ui,log2_lt→VP,gcd_rec→V0
open Bool renaming false_ne_true→O3,and_eq_true→O6,and_eq_true_iff→Po,false_eq_true→PU,or_true→QE,true_or→R8,eq_iff_iff→SX,or_eq_true→S4,true_and→TQ
open Option renaming bind_some→OY,map_some→QO,isSome_some→TC,isSome_map→TR,getD_none→T8,none→VO
open PySem renaming wpAny_bind→OX,wpAny_pure→O8,starEach→Pc,Shared→Pf,Value→Pl,sizeLine→PD,Program→Qz,Around→QP,NameKind→QX,backTo→Rc,FuncData→Ru,World→RZ,Keyword→Tg,Scope→U0,Addr→XW,Heap→XX,Expr→XY,Stmt→XZ
open PySem.Heap renaming get?_push_of_some→OV,get?_push_size→Pb,lt_size→Pd,get?_update_other→Pz,get?_update_self→RQ,size_push→RU
open PySem.W renaming Frag→OQ,mg_none_of→P7,keepIn→Qh,fnOf→Qk,nsIn→Qu,findIn→QF,kia_one→QN,emptyDict→Q8,instObj→Rh,kla_obj→Rk,plainGet→Rt,codeIn→Rv,kat_cons→Ry,tabIn→RH,hasDictIn→RJ,CodeHd→RV,plainGet_of→Sd,makesIn→Sh,kat_yes→Sj,kas_rev→Sk,callWith_K→Ss,lookIn→Sx,KasT→Sz,plainOver→SE,kitx_dict→SF,cellsFrom_some→SI,methodCall_KW→SU,takerIn→SY,isFn→S5,kat_lt→Tt,kat_no→Tu,mg_of→TN,kas_count→TX,kas_place→TY,handedIn→T6,kat_kind→Ud,kas_sort→Uh,OpenLaw→Uo,kat_nil→Ur,KatTups→Us,kas_bin→Ut,kas_ask→Uu,kla_fn→UK,kat_go→UO,WalkO→U4
open List renaming mem_append_right→OP,mem_append_left→OR,mem_cons_of_mem→OS,mem_append→OT,mem_cons_self→OU,mem_cons→OZ,length_map→O0,mem_singleton→O1,getElem?_eq_getElem→O2,nodup_append→O4,nodup_cons→O7,map_cons→Pa,map_map→Pe,size_toArray→Pg,mem_map→Pj,replicate→Pk,getElem?_set_ne→Pm,length_append→Pq,getElem?_map→Pr,getElem?_eq_some_iff→Pu,pairwise_cons→Pw,mem_filter→Px,take_append_drop→PF,append_nil→PH,length_cons→PM,nodup_nil→PN,getElem?_append_right→PX,append_assoc→PZ,range→P0,getElem?_set_self→P2,all_eq_true→P5,lookup_cons→P6,length_singleton→P8,zip_cons_cons→Qc,map_congr_left→Qd,pairwise_singleton→Qe,map_append→Qg,pairwise_map→Qj,drop_eq_getElem_cons→Qm,mem_range→Qq,length_filter_le→Qy,all_cons→QA,filter_cons→QH,getElem?_append_left→QI,getElem?_range→QJ,pairwise_iff_getElem→QK,drop_length→QQ,ext_getElem?→QS,sublist_cons_self→QT,length_take→Q0,sublist_append_right→Q2,cons_append→Q3,pairwise_append→Q6,find?_cons→Q9,getElem?_cons_succ→Ra,length_set→Ri,nil_append→Rj,getD_eq_getElem?_getD→Rl,any_cons→Rp,length_drop→Rw,ext_getElem→Rx,mem_filterMap→RB,of_mem_zip→RD,foldl_cons→RE,take_of_length_le→RF,zipWith_cons_cons→RG,pairwise_lt_range→RI,reverse_cons→RK,length_range→RM,filter_congr→RO,mem_iff_getElem?→RT,range'→RY,mem_of_getElem?→R7,not_mem_nil→R9,mem_reverse→Sb,replicate_succ→Se,mem_map_of_mem→Sf,length_zip→Si,perm_ext_iff_of_nodup→So,getElem?_drop→Sv,getElem?_replicate→SG,length_pos_of_mem→SK,getElem_mem→SM,take_length→SQ,getElem?_eq_none→SW,mem_of_mem_drop→S7,set_set→S9,filterMap_cons→Tf,length_reverse→Tp,getElem_of_mem→Tw,lookup→Tz,set_cons_zero→TH,ne_nil_of_mem→TK,map_id→TL,set_comm→TM,getElem?_set→T3,map_set→Ue,nodup_range→Ug,map_reverse→Uj,map_const'→Uv,filter_map→Uw,length_nil→Uy,drop_drop→UM,sum_cons→Va,zipWith→Vq,map_nil→Vz,foldl→Wx
open PySem PyProof.Rows
universe u0
abbrev Ql(α:Type u0):=List α
abbrev Qo(α:Type u0):=Option α
set_option Elab.async false
set_option linter.all false
set_option maxRecDepth 100000
universe u v
theorem Vm{c:Prop}[d:Decidable c]{α:Type u}{x:Qo α}{b:α}(h:(if c then x else Qn)=Qs b):c/\x=Qs b:=by by_cases k:c<;>simp_all
theorem T4{c:Prop}[h:Decidable c](k:c){α:Sort u}{a b:α}:ite c a b=a:=if_pos k
theorem Um{c:Prop}[h:Decidable c](k:¬c){α:Sort u}{a b:α}:ite c a b=b:=if_neg k
theorem UN{p:Prop}[h:Decidable p](k:p):decide p=Qt:=decide_eq_true k
theorem VN{p:Prop}[h:Decidable p](k:¬p):decide p=Qf:=decide_eq_false k
abbrev Vf(x:Str):Prop:=(x=="__debug__")=Qf
abbrev VX(x:Str):Prop:=(x=="__classdict__")=Qf
theorem VH{p:Prop}[h:Decidable p]:(decide p=Qt)=p:=decide_eq_true_eq
theorem qzA(h:True:=by first|exact Or.inl rfl|exact Or.inr (Or.inl rfl)|exact Or.inr (Or.inr rfl)):True:=h
theorem qzB(h:True:=by first|exact .inl rfl|exact .inr rfl|assumption):True:=h
namespace L2
open PySem.Spec
abbrev bh:=Sum Int Str
def j8:bh->Pl->Bool
 |.inl k,v=>VI k v
 |.inr x,v=>UZ x v
def Mw(w:RZ):bh->Int
 |.inl k=>hashInt k
 |.inr x=>hashStr w x
def iE:∀{k:bh}{v:Pl},j8 k v=Qt->(∃i t,k=Sum.inl i/\v=Xc i t)\/(∃x t,k=Sum.inr x/\v=Xd x t)
 |.inl i,v,h=>by obtain⟨t,e⟩:=Value.isInt_shape h;exact .inl ⟨i,t,rfl,e⟩
 |.inr x,v,h=>by obtain⟨t,e⟩:=Value.isStrOf_shape h;exact .inr ⟨x,t,rfl,e⟩
def Mu(i:Int)(t:Tok):j8 (.inl i) (.int i t)=Qt:=by simp[j8,VI]
def Mt(x:Str)(t:Tok):j8 (.inr x) (.str x t)=Qt:=by simp[j8,UZ]
def Ms(a b:Int):decide ((Sum.inl a:bh)=Sum.inl b)=(a==b):=by lia
def Mn(a b:Str):decide ((Sum.inr a:bh)=Sum.inr b)=decide (a=b):=by lia
def Mr(a:Int)(b:Str):decide ((Sum.inl a:bh)=Sum.inr b)=Qf:=VN (λq=>nomatch q)
def Mp(a:Str)(b:Int):decide ((Sum.inr a:bh)=Sum.inl b)=Qf:=VN (λq=>nomatch q)
def fz(prog:Qz)(w:RZ):PySem.KeyKind prog w bh where
 is:=j8
 hash:=Mw w
 inj:=λv a b ha hb=>by
  rcases iE ha with⟨i,t,rfl,rfl⟩|⟨x,t,rfl,rfl⟩
  .rcases iE hb with⟨j,u,rfl,e⟩|⟨y,u,rfl,e⟩
   .injection e with e1 _;rw[e1]
   .exact nomatch e
  .rcases iE hb with⟨j,u,rfl,e⟩|⟨y,u,rfl,e⟩
   .exact nomatch e
   .injection e with e1 _;rw[e1]
 byValue:=λk v h=>by rcases iE h with⟨i,t,rfl,rfl⟩|⟨x,t,rfl,rfl⟩<;>rfl
 pyHash:=λhv h=>by
  rcases iE hv with⟨i,t,rfl,rfl⟩|⟨x,t,rfl,rfl⟩
  .exact wpAny_pyHash_int h
  .exact wpAny_pyHash_str h
 eqBool:=λhu hv h=>by
  rcases iE hu with⟨i,t,rfl,rfl⟩|⟨x,t,rfl,rfl⟩
  .rcases iE hv with⟨j,u,rfl,rfl⟩|⟨y,u,rfl,rfl⟩
   .rw[Ms]at h;exact wpAny_eqBool_int h
   .rw[Mr]at h;exact SeqAt.EqAt.int_str i t y u _ _ _ _ h
  .rcases iE hv with⟨j,u,rfl,rfl⟩|⟨y,u,rfl,rfl⟩
   .rw[Mp]at h;exact SeqAt.EqAt.str_int x t j u _ _ _ _ h
   .rw[Mn]at h;exact wpAny_eqBool_str h
 «strs»:=λk x t v h=>by
  rcases iE h with⟨i,u,rfl,e⟩|⟨y,u,rfl,e⟩
  .exact nomatch e
  .injection e with e1 _
   subst e1;cases v<;>rfl
def Ly(prog:Qz)(w:RZ)(k:bh)(v:Pl):(fz prog w).is k v=j8 k v:=rfl
def Lz(prog:Qz)(w:RZ)(i:Int)(t:Tok):(fz prog w).is (.inl i) (.int i t)=Qt:=Mu i t
def Lx(prog:Qz)(w:RZ)(x:Str)(t:Tok):(fz prog w).is (.inr x) (.str x t)=Qt:=Mt x t
inductive V where
 |Uz|bl (b:Bool)|int (i:Int)|str (x:Str)|Xb (b:Array UInt8)|Y5 (b:UInt64)|ref (a:XW)|ty (n:String)
 deriving DecidableEq
def RelV:V->Pl->Prop
 |.Uz,u=>u=Sr
 |.bl b,u=>u=Wn b
 |.int i,u=>∃t,u=Xc i t
 |.str x,u=>∃t,u=Xd x t
 |.Xb b,u=>∃t,u=Value.bytes b t
 |.Y5 b,u=>∃t,u=Value.float b t
 |.ref a,u=>u=Ph a
 |.ty n,u=>u=Te n
abbrev Vals:Ql V->Ql Pl->Prop:=Paired RelV
theorem Vals.length(r:Vals xs us):xs.length=us.length:=Paired.length r
theorem Vals.get:∀{xs:Ql V}{us:Ql Pl}{i:Nat}{x:V},Vals xs us->xs[i]?=Qs x->∃u,us[i]?=Qs u/\RelV x u
 |_,_,_,_,.nil,e=>by simp at e
 |_,_,0,_,.cons r _,e=>by simp_all
 |_,_,i+1,x,.cons _ t,e=>by obtain⟨u,h1,h2⟩:=Vals.get t (e);exact⟨u,h1,h2⟩
theorem Vals.set(r:RelV x u):∀{xs:Ql V}{us:Ql Pl} (i:Nat),Vals xs us->Vals (xs.set i x) (us.set i u)
 |_,_,_,.nil=>.nil
 |_,_,0,.cons _ t=>.cons r t
 |_,_,i+1,.cons q t=>.cons q (Vals.set r i t)
theorem Vals.append:∀{xs ys:Ql V}{us ws:Ql Pl},Vals xs us->Vals ys ws->Vals (xs++ys) (us++ws)
 |_,_,_,_,.nil,s=>s
 |_,_,_,_,.cons r t,s=>.cons r (Vals.append t s)
theorem Vals.take:∀{xs:Ql V}{us:Ql Pl} (n:Nat),Vals xs us->Vals (xs.take n) (us.take n)
 |_,_,0,_=>.nil
 |_,_,_+1,.nil=>.nil
 |_,_,n+1,.cons r t=>.cons r (Vals.take n t)
theorem Vals.drop:∀{xs:Ql V}{us:Ql Pl} (n:Nat),Vals xs us->Vals (xs.drop n) (us.drop n)
 |_,_,0,r=>r
 |_,_,_+1,.nil=>.nil
 |_,_,n+1,.cons _ t=>Vals.drop n t
def Xk:Qo V->Qo Pl->Prop
 |some v,Qs u=>RelV v u
 |none,Qn=>True
 |_,_=>False
def KV{κ:Type}:Ql (κ×V)->Ql (κ×Pl)->Prop:=Paired λ(p:κ×V) (q:κ×Pl)=>p.1=q.1/\RelV p.2 q.2
def kV:bh->V
 |.inl i=>.int i
 |.inr x=>.str x
inductive HO where
 /-- a list -/
 |lst (xs:List V)
 /-- a tuple (never changes) -/
 |tup (xs:List V)
 /-- a dict zfL keys are ints and texts;one zfL keys are tuples of ints and texts (Wm empty one is both) -/
 |dK (UA:List (bh×V)) |dT (UA:List (List bh×V))
 /-- a set of ints: T5 members,T5 size -/
 |set (S:Int->Bool) (n:Nat)
 /-- an instance of Wm class at C,T5 dict at dx,T5 attributes -/
 |ins (C dx:XW) (fs:List (Str×V))
 /-- Wm dict of Wm instance at x -/
 |own (x:XW)
 /-- Wm dict of an exception -/
 |xd (fs:List (Str×V))
 /-- a bound method,f of x -/
 |met (f x:XW)
 /-- a range object lo,lo+1,.. below hi -/
 |Xt (lo hi:Int)
 /-- a zfW zfX is known to Wm object (Wm zle;a dict while a loop walks it): read,never written while it is so -/
 |UW (o:Obj) (u:HO)
 /-- a code zll table -/
 |Wi (q:Str)
 /-- any other zfW,by zdl is Qt of T5 one object (a def of zlk own: zlN a S n:=HO.ext λh=>..) -/
 |ext (φ:XX->Prop)
abbrev Hp:=XW->Qo HO
def upd(H:Hp)(a:XW)(o:HO):Hp:=λb=>if b=a then Qs o else H b
def aM:upd H a o a=Qs o:=by unfold upd;simp
def aC(h:b≠a):upd H a o b=H b:=by unfold upd;rw[Um h]
def Gk:upd (upd H a o) a u=upd H a u:=by funext b;unfold upd;split<;>rfl
def rS{H:Hp}(h:H a=Qs o)(h':H b=Qs u)(d:o≠u):a≠b:=by lia
def mz{H:Hp}(h:H a=Qs o)(h':H b=Qn):a≠b:=by lia
section
variable (P:Qz)(w:RZ)
def VQ(H:Hp)(h:XX)(a:XW):HO->Prop
 |.lst xs=>xs.length<=PD/\∃(T5:Ql Pl) (n:Nat),Vals xs T5/\h.get? a=Qs {cls:=.type "list",data:=.seq T5.toArray n}
 |.tup xs=>xs.length<=PD/\∃T5:Ql Pl,Vals xs T5/\IsTup h a T5.toArray
 |.dK UA=>UA.length<=PD/\(a==sysModules)=Qf/\∃vs,KV UA vs/\h.DictOf (fz P w) a vs
 |.dT UA=>UA.length<=PD/\(a==sysModules)=Qf/\∃xs:Ql (Ql bh×XW×Pl),Paired (λ(p:Ql bh×V) (q:Ql bh×XW×Pl)=>p.1=q.1/\H q.2.1=Qs (.tup (p.1.map kV))/\RelV p.2 q.2.2) UA xs/\∃o es ep,h.get? a=Qs o/\o.ExactDict/\o.data=.dict es ep/\es.toList=xs.map (entryOfKey (tupleKind (fz P w)))/\(xs.map (·.1)).Nodup
 |.set S n=>h.SetOf (intKind P w) a S n
 |.ins C dx fs=>H dx=Qs (.own a)/\fs.length<=1000/\dx≠a/\h.get? a=Qs (Rh C dx)/\∃mA,h.Ns1 dx mA/\(∀f,Xk (fs.lookup f) (mA f))/\PySem.Within mA (fs.map (·.1))
 |.own _=>∃o,h.get? a=Qs o
 |.xd fs=>∃mA,h.Ns1 a mA/\∀f,Xk (fs.lookup f) (mA f)
 |.Xt lo hi=>∃t u v,h.get? a=Qs {cls:=.type "range",data:=.fields #[.int lo t,.int hi u,.int 1 v]}
 |.UW o u=>h.get? a=Qs o/\VQ H h a u
 |.Wi q=>∃ps:Array Pl,h.get? a=Qs {cls:=.none,data:=.fields ps}/\TriplesOk ps.toList/\∀pos cv,codeAmong pos ps.toList=Qs cv->∃(c:XW) (oc:Obj) (vs:Array Pl) (tk:Tok),cv=.ref c/\H c=Qs (.UW oc (.own 0))/\oc.data=.fields vs/\vs[1]?=Qs (.str q tk)
 |.met f x=>h.get? a=Qs (PySem.W.methodObj (.ref f) (.ref x))
 |.ext φ=>φ h/\(∃o,h.get? a=Qs o)/\∀h1 h2:XX,φ h1->(∀o,h1.get? a=Qs o->h2.get? a=Qs o)->φ h2
def Vx(H:Hp)(h:XX):Prop:=∀a o,H a=Qs o->VQ P w H h a o
end
section
variable {P:Qz}{w:RZ}{H H':Hp}{h h':XX}{a:XW}{o:HO}
theorem VQ.lt(x:VQ P w H h a o):a<h.objs.size:=by
 cases o with
 |lst xs=>obtain⟨_,_,_,_,e⟩:=x;exact Pd e
 |tup xs=>obtain⟨_,_,_,p⟩:=x;exact p.lt
 |dK UA=>obtain⟨_,_,_,_,o,_,_,e,_⟩:=x;exact Pd e
 |dT UA=>obtain⟨_,_,_,_,o,_,_,e,_⟩:=x;exact Pd e
 |set S n=>obtain⟨o,_,_,_,e,_⟩:=x;exact Pd e
 |ins C dx fs=>obtain⟨_,_,_,e,_⟩:=x;exact Pd e
 |own y=>obtain⟨_,e⟩:=x;exact Pd e
 |xd fs=>obtain⟨_,⟨_,_,_,e,_⟩,_⟩:=x;exact Pd e
 |Xt lo hi=>obtain⟨_,_,_,e⟩:=x;exact Pd e
 |UW ob u=>obtain⟨e,_⟩:=x;exact Pd e
 |Wi q=>obtain⟨_,e,_⟩:=x;exact Pd e
 |met f y=>exact Pd (x)
 |ext φ=>obtain⟨_,⟨_,e⟩,_⟩:=x;exact Pd e
theorem Paired.zch:∀{l₁:Ql α}{l₂:Ql β},Paired F l₁ l₂->(∀a b,F a b->G a b)->Paired G l₁ l₂
 |_,_,.nil,_=>.nil
 |_,_,.cons r t,f=>.cons (f _ _ r) (Paired.zch t f)
def VQ.XD(x:VQ P w H h a o)(k:∀b u,(b=a\/H b=Qs (.own a))->h.get? b=Qs u->h'.get? b=Qs u) (ho:∀b,H b=Qs (.own a)->H' b=Qs (.own a)) (ht:∀b xs,H b=Qs (.tup xs)->H' b=Qs (.tup xs)) (hz:∀b o u,H b=Qs (.UW o u)->H' b=Qs (.UW o u)):VQ P w H' h' a o:=by
 induction o with
 |lst xs=>obtain⟨z,T5,n,r,e⟩:=x;exact⟨z,T5,n,r,k _ _ (.inl rfl) e⟩
 |tup xs=>obtain⟨z,T5,r,ob,e,c⟩:=x;exact⟨z,T5,r,ob,k _ _ (.inl rfl) e,c⟩
 |dK UA=>obtain⟨z,y,vs,r,ob,es,ep,e,c⟩:=x;exact⟨z,y,vs,r,ob,es,ep,k _ _ (.inl rfl) e,c⟩
 |dT UA=>obtain⟨z,y,xs,r,ob,es,ep,e,c⟩:=x;exact⟨z,y,xs,Paired.zch r λp q z=>⟨z.1,ht _ _ z.2.1,z.2.2⟩,ob,es,ep,k _ _ (.inl rfl) e,c⟩
 |set S n=>obtain⟨ob,es,ep,t,e,c⟩:=x;exact⟨ob,es,ep,t,k _ _ (.inl rfl) e,c⟩
 |ins C dx fs=>obtain⟨d,z,ne,e,mA,⟨od,es,ep,e2,c⟩,r⟩:=x;exact⟨ho _ d,z,ne,k _ _ (.inl rfl) e,mA,⟨od,es,ep,k _ _ (.inr d) e2,c⟩,r⟩
 |own y=>obtain⟨ob,e⟩:=x;exact⟨ob,k _ _ (.inl rfl) e⟩
 |xd fs=>obtain⟨mA,⟨od,es,ep,e,c⟩,r⟩:=x;exact⟨mA,⟨od,es,ep,k _ _ (.inl rfl) e,c⟩,r⟩
 |Xt lo hi=>obtain⟨t,u,v,e⟩:=x;exact⟨t,u,v,k _ _ (.inl rfl) e⟩
 |UW ob u ih=>obtain⟨e,q⟩:=x;exact⟨k _ _ (.inl rfl) e,ih q⟩
 |Wi q=>obtain⟨ps,e,t,r⟩:=x;exact⟨ps,k _ _ (.inl rfl) e,t,λpos cv z=>let ⟨c,oc,vs,tk,a1,a2,a3⟩:=r _ _ z;⟨c,oc,vs,tk,a1,hz _ _ _ a2,a3⟩⟩
 |met f y=>exact k a _ (.inl rfl) x
 |ext φ=>obtain⟨p,⟨o,e⟩,st⟩:=x;exact⟨st _ _ p λo q=>k _ _ (.inl rfl) q,⟨o,k _ _ (.inl rfl) e⟩,st⟩
theorem Vx.lt(x:Vx P w H h)(e:H a=Qs o):a<h.objs.size:=(x a o e).lt
def Vx.fresh(x:Vx P w H h)(e:h.objs.size<=a):H a=Qn:=by
 cases q:H a with
 |none=>rfl
 |some u=>exact absurd (O9 (x.lt q) e) (Q4 _)
def Vx.kept(x:Vx P w H h)(k:∀b u,h.get? b=Qs u->h'.get? b=Qs u):Vx P w H h':=λa o e=>
 (x a o e).XD (λb u _ q=>k b u q) (λ_ q=>q) (λ_ _ q=>q) λ_ _ _ q=>q
def Vx.laid(x:Vx P w H h)(k:∀b u,h.get? b=Qs u->h'.get? b=Qs u)(hp:h.objs.size<=a)(new:VQ P w (upd H a o) h' a o):Vx P w (upd H a o) h':=λb u e=>by
 have hn:=x.fresh hp;by_cases hb:b=a
 .subst hb;rw[aM]at e;lia
 .rw[aC hb]at e;exact(x b u e).XD (λc v _ q=>k c v q) (λc q=>by rw[aC (mz q hn)];assumption) (λc xs q=>by rw[aC (mz q hn)];assumption) λc o u q=>by rw[aC (mz q hn)];assumption
end
def Rd(H:Hp)(a:XW)(u:HO):Prop:=H a=Qs u\/∃o,H a=Qs (.UW o u)
def Rd.ok(r:Rd H a u)(x:Vx P w H h):VQ P w H h a u:=by
 rcases r with r|⟨o,r⟩
 .exact x a u r
 .obtain⟨_,q⟩:=x a _ r;assumption
def pO:Qo HO->Prop
 |some (.lst _)=>True
 |some (.dK _)=>True
 |some (.dT _)=>True
 |some (.set _ _)=>True
 |some (.ins _ _ _)=>True
 |some (.ext _)=>True
 |_=>False
section
variable {P:Qz}{w:RZ}{H:Hp}{h h':XX}{x e:XW}{o':HO}
def Vx.write(ok:Vx P w H h)(mu:pO (H x))(he:e=x\/H e=Qs (.own x))(k:∀b u,b≠e->h.get? b=Qs u->h'.get? b=Qs u)(Zp:∃u,h'.get? e=Qs u) (new:VQ P w (upd H x o') h' x o'):Vx P w (upd H x o') h':=λb u q=>by
 have zgI:∀c y,H c=Qs (.own y)->c≠x:=λc y r z=>by subst z;rw[r]at mu;assumption
 have zgH:∀c xs,H c=Qs (.tup xs)->c≠x:=λc xs r z=>by subst z;rw[r]at mu;assumption
 by_cases hb:b=x
 .subst hb;rw[aM]at q;lia
 .rw[aC hb]at q;by_cases hbe:b=e
  .have q':H b=Qs (.own x):=by lia
   rw[q]at q';cases q';obtain⟨v,hv⟩:=Zp;exact⟨v,by lia⟩
  .refine(ok b u q).XD (λc v hc r=>k c v ?_ r) (λc r=>by rw[aC (zgI c b r)];assumption) (λc xs r=>by rw[aC (zgH c _ r)];assumption) λc o u r=>by rw[aC (λz=>by subst z;rw[r]at mu;assumption)];assumption
   rcases hc with rfl|hc
   .assumption
   .grind
end
structure Un(fs ex:List XW)(H H':Hp)(h h':XX):Prop where
 keep:∀b o,h.get? b=Qs o->H b=Qn->b∉fs->b∉ex->h'.get? b=Qs o
 slot:∀b o,h.get? b=Qs o->H b=Qn->b∈fs->b∉ex->∃sl,h'.get? b=Qs {o with slots:=sl}
 free:∀b o,h.get? b=Qs o->H b=Qn->b∉ex->H' b=Qn
 there:∀b o,h.get? b=Qs o->b∉ex->∃o',h'.get? b=Qs o'
 Yk:∀b xs,H b=Qs (.tup xs)->H' b=Qs (.tup xs)
 Yd:∀b o u,H b=Qs (.UW o u)->H' b=Qs (.UW o u)
 WY:∀b q,H b=Qs (.Wi q)->H' b=Qs (.Wi q)
section
variable {fs Z6 ex ex':Ql XW}{H H1 H2:Hp}{h h1 h2 h':XX}{a x e:XW}{o:HO}
def Un.any(u:Un fs ex H H1 h h1)(q:h.get? b=Qs ob)(n:H b=Qn)(hx:b∉ex):∃sl,h1.get? b=Qs {ob with slots:=sl}:=by
 by_cases hb:b∈fs
 .exact u.slot b _ q n hb hx
 .exact⟨_,u.keep b _ q n hb hx⟩
def Un.kept(k:∀b u,h.get? b=Qs u->h'.get? b=Qs u):Un fs ex H H h h':=⟨λb ob q _ _ _=>k b _ q,λb ob q _ _ _=>⟨_,k b _ q⟩,λ_ _ _ n _=>n,λb ob q _=>⟨ob,k b _ q⟩,λ_ _ q=>q,λ_ _ _ q=>q,λ_ _ q=>q⟩
def Un.refl:Un fs ex H H h h:=Un.kept λ_ _ q=>q
def Un.laid(k:∀b u,h.get? b=Qs u->h'.get? b=Qs u)(hp:h.objs.size<=a)(hn:H a=Qn):Un fs ex H (upd H a o) h h' where
 keep:=λb u q _ _ _=>k b u q
 slot:=λb u q _ _ _=>⟨_,k b u q⟩
 free:=λb u q n _=>by rw[aC (Py (O9 (Pd q) hp))];assumption
 there:=λb u q _=>⟨u,k b u q⟩
 Yk:=λb xs q=>by rw[aC (mz q hn)];assumption
 Yd:=λb u xs q=>by rw[aC (mz q hn)];assumption
 WY:=λb ps q=>by rw[aC (mz q hn)];assumption
def Un.write(mu:pO (H x))(he:e=x\/H e=Qs (.own x))(k:∀b u,b≠e->h.get? b=Qs u->h'.get? b=Qs u)(Zp:∃u,h'.get? e=Qs u):Un fs ex H (upd H x o) h h':=by
 have hx:∀b,H b=Qn->b≠x:=λb n z=>by subst z;rw[n]at mu;assumption
 have hb:∀b,H b=Qn->b≠e:=λb n z=>by lia
 have hm:∀b u,H b=Qs u->¬pO (Qs u)->b≠x:=λb u q nm z=>by lia
 refine⟨λb u q n _ _=>k b u (hb b n) q,λb u q n _ _=>⟨_,k b u (hb b n) q⟩,λb u q n _=>by rw[aC (hx b n)];assumption,λb u q _=>?_,λb xs q=>by rw[aC (hm b _ q λz=>z)];assumption,λb u xs q=>by rw[aC (hm b _ q λz=>z)];assumption,λb ps q=>by rw[aC (hm b _ q λz=>z)];assumption⟩
 grind
end
def GF(h:XX)(H:Hp):Ql XW:=(P0 h.objs.size).filter λa=>(H a).isSome
def iI(h:XX)(H:Hp):XX:=PySem.W.hideAll h (GF h H)
def MX(h:XX)(H:Hp):(iI h H).objs.size=h.objs.size:=PySem.W.hideAll_size _ _
def sL(e:h.get? b=Qs o)(n:H b=Qn):(iI h H).get? b=Qs o:=PySem.W.hideAll_get _ e λhm=>by have q:=(Px.mp hm).2;rw[n]at q;simp at q
def K9(e:(iI h H).get? b=Qs o):h.get? b=Qs o/\H b=Qn:=by
 have e':=PySem.W.of_hideAll _ e;refine⟨e',?_⟩;cases q:H b with
 |none=>rfl
 |some x=>have z:(iI h H).get? b=Qn:=PySem.W.hideAll_none _ (Px.mpr ⟨Qq.mpr (Pd e'),by simp[q]⟩);lia
end L2
section QZ
variable{K:OQ}{pos:Pos}{H:L2.Hp}{π:Q7->Int}{M:Model}{kd:SortKind}{H':L2.Hp}{H0:L2.Hp}{lo:Nat}{apos:Pos}{UR:Pos}{H1:L2.Hp}{V3:Pos}{pos':Pos}{H2:L2.Hp}{nr:Nat}{VE:QY}{Good:Ql XW->L2.Hp->Prop}{ar:Array Q7}{py:Pos}{name:Str}{T:String}{N':Ql Str}{qual:Str}{B':Ql XW}{x0:Str}{params:Arguments}{hi:Nat}{YR:Pos}
namespace L2
open PySem.Spec
structure Wh extends XX where
 tabs:List (XW×Str)
instance:Coe Wh XX:=⟨Wh.toHeap⟩
structure Mod(K:OQ)(mg:Str->Option Pl)(base:Wh):Prop where
 kin:K.In base
 glob:base.Ns mainGlobals mg
 blt:∃mb,base.Ns builtinsNs mb/\∀x:Str,x≠"__name__"->mb x=bootBuiltins x
 nolimit:base.NoLimit
 bm:∃(bm:XW) (ob:Obj),mg "__builtins__"=Qs (.ref bm)/\bm≠builtinsNs/\base.get? bm=Qs ob/\ob.cls=.type "module"/\ob.dict=Qs builtinsNs/\ob.data=.plain
structure Cx where
 prog:Qz
 w:RZ
 K:OQ
 mg:Str->Option Pl
 base:Wh
 A:QP
 N:List Str
 s₀:Pf
 H₀:Hp
 env:Env
 outer:List Env
 stack:List Env
 ex:List XW
 fn:Str->Bool
 calm:Bool
 pn:List (XW×Obj)
 xe:Pl->Pf->Prop
def iJ(l:Ql Env):Ql XW:=l.filterMap (·.frame)
abbrev Cx.fs(X:Cx):Ql XW:=iJ X.outer
def cJ(sc:U0)(x:Str):Prop:=sc.names.lookup x=Qs .local\/sc.names.lookup x=Qs .cell\/sc.names.lookup x=Qs .free
def Loc(sc:U0)(x:Str):Prop:=sc.names.lookup x=Qs .local\/sc.names.lookup x=Qs .cell
def OI(env:Env)(h:XX)(m:Str->Qo Pl)(x:Str)(u:Pl):Prop:=(env.kindOf x=Qs .local/\m x=Qs u)\/((env.kindOf x=Qs .cell\/env.kindOf x=Qs .free)/\∃c,env.cells.lookup x=Qs c/\h.IsCell c (Qs u))
structure Cx.Ok(X:Cx):Prop where
 mod:Mod X.K X.mg X.base
 kind:X.env.scope.kind=.function
 glob:X.env.globals=mainGlobals
 blt:X.env.builtins=builtinsNs
 above:X.s₀.heap.objs.size<=X.env.locals
 inj:∀x y c,X.env.cells.lookup x=Qs c->X.env.cells.lookup y=Qs c->x=y
 has:∀x,(X.env.kindOf x=Qs .cell\/X.env.kindOf x=Qs .free)->∃c,X.env.cells.lookup x=Qs c
 ZA:∀x c,X.fn x=Qt->X.env.cells.lookup x=Qs c->X.s₀.heap.objs.size<=c
 hd:X.calm=Qt->X.A.handled=Qn
 frames:X.A.frames=Qs X.stack
 ZM:X.stack=X.outer\/(X.stack=X.env::X.outer/\X.env.frame=Qs X.env.locals)
 exf:∀b∈X.ex,b≠X.env.locals/\∀x c,X.env.cells.lookup x=Qs c->c≠b
 bs:∀b o,X.base.get? b=Qs o->X.s₀.heap.get? b=Qs o/\X.H₀ b=Qn
 XA:X.base.objs.size<=X.s₀.heap.objs.size
 Zi:∀b o,X.base.get? b=Qs o->b∉X.ex
 Z7:∀b∈X.ex,b∉X.fs
 Xa:X.s₀.heap.FunFrames X.base X.outer
 YE:∀b∈X.fs,X.H₀ b=Qn
 tabs:∀p∈X.base.tabs,X.H₀ p.1=Qs (.Wi p.2)
structure Inv(X:Cx)(pins:List (XW×Obj))(σ:List (Option V))(H:Hp)(s:Pf):Prop where
 ok:X.Ok
 os:s.os=X.s₀.os
 bare:AllBare s.gens
 base:Un X.fs X.ex X.H₀ H X.s₀.heap s.heap
 loc:∃m,s.heap.Ns X.env.locals m/\∀(i:Nat) (x:Str) (v:V),X.N[i]?=Qs x->σ[i]?=Qs (Qs v)->cJ X.env.scope x->∃u,RelV v u/\OI X.env s.heap m x u
 cell:∀x c,X.env.cells.lookup x=Qs c->∃v,s.heap.IsCell c v
 free:H X.env.locals=Qn
 Xj:∀x c,X.env.cells.lookup x=Qs c->H c=Qn
 pin:∀p∈X.pn++pins,s.heap.get? p.1=Qs p.2/\H p.1=Qn/\p.1≠X.env.locals/\p.1∉X.fs/\∀v,p.2.data≠.cell v
 UB:Vx X.prog X.w H s.heap
 len:σ.length=X.N.length
section
variable {X:Cx}{pins:Ql (XW×Obj)}{σ:Ql (Qo V)}{s:Pf}{h':XX}
def Cx.Ok.zgM(ok:X.Ok)(e:X.base.get? b=Qs o):b∉X.fs:=λhb=>by have:=(ok.Xa.mem hb).1;lia
theorem Inv.bs(I:Inv X pins σ H s):∀b o,X.base.get? b=Qs o->s.heap.get? b=Qs o/\H b=Qn:=λb o e=>
 ⟨I.base.keep b o (I.ok.bs b o e).1 (I.ok.bs b o e).2 (I.ok.zgM e) (I.ok.Zi b o e),I.base.free b o (I.ok.bs b o e).1 (I.ok.bs b o e).2 (I.ok.Zi b o e)⟩
def Inv.bk(I:Inv X pins σ H s):∀b o,X.base.get? b=Qs o->s.heap.get? b=Qs o:=λb o e=>(I.bs b o e).1
theorem Inv.mod(I:Inv X pins σ H s):Mod X.K X.mg X.base:=I.ok.mod
def Inv.Vr(I:Inv X pins σ H s):X.K.In s.heap:=I.ok.mod.kin.keeps I.bk
theorem Inv.nolimit(I:Inv X pins σ H s):s.heap.NoLimit:=I.ok.mod.nolimit.keeps I.bk
theorem Inv.lt(I:Inv X pins σ H s):X.env.locals<s.heap.objs.size:=let ⟨_,hn,_⟩:=I.loc;hn.lt
def Inv.sz(I:Inv X pins σ H s):X.s₀.heap.objs.size<=s.heap.objs.size:=PJ I.ok.above (Rm I.lt)
def Inv.zgK(I:Inv X pins σ H s){a:XW}(h:s.heap.objs.size<=a):a∉X.fs:=λhb=>by obtain⟨_,o,ho,_⟩:=I.ok.Xa.mem hb;exact absurd (O9 (Pd ho) (PJ I.sz h)) (Q4 _)
def Inv.Zz(I:Inv X pins σ H s):∀x c,X.env.cells.lookup x=Qs c->c≠X.env.locals:=λx c e z=>by obtain⟨v,o,ho,hd⟩:=I.cell x c e;obtain⟨m,⟨o',es,ep,ZZ,Yb,_⟩,_⟩:=I.loc;lia
theorem Inv.Xa(I:Inv X pins σ H s):s.heap.FunFrames X.base X.outer:=by
 have all:∀l,(∀b∈iJ l,b∈X.fs)->X.s₀.heap.FunFrames X.base l->s.heap.FunFrames X.base l:=by
  intro l
  induction l with
  |nil=>intro _ _;trivial
  |cons env r ih=>intro hs hl;obtain⟨hk,⟨L,o,hf,hn,ho,hd⟩,hr⟩:=hl;have hL:=hs L (by unfold iJ;simp_all);obtain⟨sl,e⟩:=I.base.slot L o ho (I.ok.YE L hL) hL λz=>I.ok.Z7 L z hL;exact⟨hk,⟨L,_,hf,hn,e,hd⟩,ih (λb hb=>hs b (by unfold iJ;rw[Tf,hf];exact OS _ hb)) hr⟩
 exact all _ (λ_ hb=>hb) I.ok.Xa
theorem Inv.stack(I:Inv X pins σ H s):s.heap.FunFrames X.base X.stack:=by
 rcases I.ok.ZM with e|⟨e,hf⟩
 .rw[e];exact I.Xa
 .rw[e];obtain⟨m,hn,_⟩:=I.loc;refine .cons (by rw[I.ok.kind];decide) hf hn ?_ I.Xa;exact Heap.get?_none_of_le (PJ I.ok.XA I.ok.above)
def Inv.zaj(I:Inv X pins σ H s):∀b∈iJ X.stack,b∈X.env.locals::X.fs:=λb hb=>by
 rcases I.ok.ZM with e|⟨e,hf⟩
 .simp_all
 .rw[e]at hb;unfold iJ at hb;rw[Tf,hf]at hb;assumption
def Inv.zbV(I:Inv X pins σ H s):∀b∈iJ X.stack,H b=Qn:=λb hb=>by
 rcases OZ.mp (I.zaj b hb) with e|hb
 .rw[e];exact I.free
 .obtain⟨_,o,ho,_⟩:=I.ok.Xa.mem hb;exact I.base.free b o ho (I.ok.YE b hb) λz=>I.ok.Z7 b z hb
def Inv.step{ch:Ql XW}(I:Inv X pins σ H s) (Y1:∀b∈ch,(b∈X.ex\/X.s₀.heap.objs.size<=b)/\b≠X.env.locals/\(∀x c,X.env.cells.lookup x=Qs c->c≠b)/\∀p∈X.pn++pins,p.1≠b) (keep:∀b o,b≠X.env.locals->b∉X.fs->b∉ch->s.heap.get? b=Qs o->H b=Qn->h'.get? b=Qs o) (slot:∀b o,b≠X.env.locals->b∈X.fs->b∉ch->s.heap.get? b=Qs o->H b=Qn->∃sl,h'.get? b=Qs {o with slots:=sl}) (free:∀b o,b∉ch->s.heap.get? b=Qs o->H b=Qn->H' b=Qn) (there:∀b o,b∉ch->s.heap.get? b=Qs o->∃o',h'.get? b=Qs o') (Yk:∀b xs,H b=Qs (.tup xs)->H' b=Qs (.tup xs)) (Yd:∀b o u,H b=Qs (.UW o u)->H' b=Qs (.UW o u)) (WY:∀b q,H b=Qs (.Wi q)->H' b=Qs (.Wi q)) (ns:∀m,s.heap.Ns X.env.locals m->h'.Ns X.env.locals m) (UB:Vx X.prog X.w H' h') (hg:AllBare g'):Inv X pins σ H' {s with heap:=h',gens:=g',drawn:=d',toks:=t'}:=by
 have neL:∀b o,X.s₀.heap.get? b=Qs o->b≠X.env.locals:=λb o e=>Py (O9 (Pd e) I.ok.above);have neC:∀b o,X.s₀.heap.get? b=Qs o->b∉X.ex->b∉ch:=λb o e hx hb=>by
  rcases(Y1 b hb).1 with z|z
  .exact hx z
  .exact absurd (O9 (Pd e) z) (Q4 _)
 have cellK:∀x c,X.env.cells.lookup x=Qs c->∀v,s.heap.IsCell c v->h'.IsCell c v:=λx c e v ⟨o,ho,hd⟩=>by
  have nch:c∉ch:=λz=>(Y1 c z).2.2.1 x c e rfl;by_cases hc:c∈X.fs
  .obtain⟨sl,q⟩:=slot c o (I.Zz x c e) hc nch ho (I.Xj x c e);exact⟨_,q,hd⟩
  .exact⟨o,keep c o (I.Zz x c e) hc nch ho (I.Xj x c e),hd⟩
 refine⟨I.ok,I.os,hg,⟨λb o e n hb hx=>?_,λb o e n hb hx=>?_,λb o e n hx=>?_,λb o e hx=>?_,λb xs e=>Yk b xs (I.base.Yk b xs e),λb o xs e=>Yd b o xs (I.base.Yd b o xs e),λb ps e=>?_⟩,?_,λx c e=>?_,?_,λx c e=>?_,λp hp=>?_,UB,I.len⟩
 .exact keep b o (neL b o e) hb (neC b o e hx) (I.base.keep b o e n hb hx) (I.base.free b o e n hx)
 .obtain⟨sl,e1⟩:=I.base.slot b o e n hb hx;obtain⟨sl',e2⟩:=slot b _ (neL b o e) hb (neC b o e hx) e1 (I.base.free b o e n hx);exact⟨sl',e2⟩
 .obtain⟨o',e1⟩:=I.base.there b o e hx;exact free b _ (neC b o e hx) e1 (I.base.free b o e n hx)
 .obtain⟨o',e1⟩:=I.base.there b o e hx;exact there b _ (neC b o e hx) e1
 .exact WY b _ (I.base.WY b _ e)
 .obtain⟨m,hn,hl⟩:=I.loc;refine⟨m,ns m hn,λi x v e1 e2 e3=>?_⟩;obtain⟨u,r,l⟩:=hl i x v e1 e2 e3;refine⟨u,r,?_⟩;rcases l with l|⟨k,c,e,z⟩
  .exact .inl l
  .exact .inr ⟨k,c,e,cellK x c e _ z⟩
 .obtain⟨v,z⟩:=I.cell x c e;exact⟨v,cellK x c e v z⟩
 .obtain⟨m,⟨o,_,_,ho,_⟩,_⟩:=I.loc;exact free _ o (λz=>(Y1 _ z).2.1 rfl) ho I.free
 .obtain⟨v,o,ho,hd⟩:=I.cell x c e;exact free c o (λz=>(Y1 c z).2.2.1 x c e rfl) ho (I.Xj x c e)
 .obtain⟨e,n,ne,nf,d⟩:=I.pin p hp;have nch:=λz=>(Y1 _ z).2.2.2 p hp rfl;exact⟨keep _ _ ne nf nch e n,free _ _ nch e n,ne,nf,d⟩
def Inv.un(I:Inv X pins σ H s)(u:Un X.fs [] H H' s.heap h')(UB:Vx X.prog X.w H' h'):Inv X pins σ H' {s with heap:=h',toks:=t'}:=by
 obtain⟨m,⟨o,es,ep,ho,r⟩,_⟩:=id I.loc;obtain⟨sl,hL⟩:=u.any ho I.free (by simp);exact I.step (ch:=[]) (λ_ z=>nomatch z) (λb o _ hb _ e n=>u.keep b o e n hb (by assumption)) (λb o _ hb _ e n=>u.slot b o e n hb (by assumption)) (λb o _ e n=>u.free b o e n (by assumption)) (λb o _ e=>u.there b o e (by assumption)) u.Yk u.Yd u.WY (λm' hm=>by
  obtain⟨o',Vd,ep',ZZ,r'⟩:=hm;rw[ho]at ZZ;cases ZZ;exact⟨_,Vd,ep',hL,r'⟩) UB I.bare
def Inv.call(I:Inv X pins σ H s)(u:Un (iJ X.stack) ch H H' s.heap h')(UB:Vx X.prog X.w H' h')(hg:AllBare g') (Y1:∀b∈ch,(b∈X.ex\/X.s₀.heap.objs.size<=b)/\b≠X.env.locals/\(∀x c,X.env.cells.lookup x=Qs c->c≠b)/\∀p∈X.pn++pins,p.1≠b):Inv X pins σ H' {s with heap:=h',gens:=g',drawn:=d',toks:=t'}:=by
 obtain⟨m,⟨o,es,ep,ho,r⟩,_⟩:=id I.loc;obtain⟨sl,hL⟩:=u.any ho I.free λz=>(Y1 _ z).2.1 rfl;exact I.step Y1 (λb o hL hb hc e n=>u.keep b o e n (λz=>(OZ.mp (I.zaj b z)).elim hL hb) hc) (λb o _ _ hc e n=>u.any e n hc) (λb o hc e n=>u.free b o e n hc) (λb o hc e=>u.there b o e hc) u.Yk u.Yd u.WY (λm' hm=>by
  obtain⟨o',Vd,ep',ZZ,r'⟩:=hm;rw[ho]at ZZ;cases ZZ;exact⟨_,Vd,ep',hL,r'⟩) UB hg
def Inv.turned(I:Inv X pins σ H s)(k:∀b o,b≠it->s.heap.get? b=Qs o->h'.get? b=Qs o)(hn:H it=Qn)(hL:it≠X.env.locals) (h1:it∈X.ex\/X.s₀.heap.objs.size<=it) (h2:∀x c,X.env.cells.lookup x=Qs c->c≠it) (h3:∀p∈X.pn++pins,p.1≠it):Inv X pins σ H {s with heap:=h',toks:=t'}:=by
 have nit:∀b u,H b=Qs u->b≠it:=λb u e z=>by lia
 refine I.step (g':=s.gens) (d':=s.drawn) (ch:=[it]) (λb hb=>?_) (λb o _ _ hc e _=>k b o (λz=>hc (by simp[z])) e) (λb o _ _ hc e _=>⟨o.slots,k b o (λz=>hc (by simp[z])) e⟩) (λ_ _ _ _ n=>n) (λb o hc e=>⟨o,k b o (λz=>hc (by simp[z])) e⟩) (λ_ _ e=>e) (λ_ _ _ e=>e) (λ_ _ e=>e) (λm hm=>?_) (λb u e=>?_) I.bare
 .have e:=by simpa using hb
  subst e;exact⟨h1,hL,h2,h3⟩
 .obtain⟨o,es,ep,ho,r⟩:=hm;exact⟨o,es,ep,k _ o (Ne.symm hL) ho,r⟩
 .refine(I.UB b u e).XD (λc v hc q=>k c v ?_ q) (λ_ q=>q) (λ_ _ q=>q) λ_ _ _ q=>q;lia
def Inv.tok(I:Inv X pins σ H s)(t:Nat):Inv X pins σ H {s with toks:=t}:=I.un Un.refl I.UB
theorem Inv.kept(I:Inv X pins σ H s)(k:∀b u,s.heap.get? b=Qs u->h'.get? b=Qs u):Inv X pins σ H {s with heap:=h',toks:=t'}:=I.un (Un.kept k) (I.UB.kept k)
theorem Inv.laid{a:XW}(I:Inv X pins σ H s)(k:∀b u,s.heap.get? b=Qs u->h'.get? b=Qs u)(hp:s.heap.objs.size<=a)(new:VQ X.prog X.w (upd H a o) h' a o) :Inv X pins σ (upd H a o) { s with heap:=h',toks:=t' }:=I.un (Un.laid k hp (I.UB.fresh hp)) (I.UB.laid k hp new)
theorem Inv.write(I:Inv X pins σ H s)(mu:pO (H x))(he:e=x\/H e=Qs (.own x))(k:∀b u,b≠e->s.heap.get? b=Qs u->h'.get? b=Qs u)(Zp:∃u,h'.get? e=Qs u)
  (new:VQ X.prog X.w (upd H x o) h' x o):Inv X pins σ (upd H x o) { s with heap:=h',toks:=t' }:=I.un (Un.write mu he k Zp) (I.UB.write mu he k Zp new)
def Inv.zdS(I:Inv X pins σ H s)(h:∀p∈X0,s.heap.get? p.1=Qs p.2/\H p.1=Qn/\p.1≠X.env.locals/\p.1∉X.fs/\∀v,p.2.data≠.cell v):Inv X X0 σ H s:=⟨I.ok,I.os,I.bare,I.base,I.loc,I.cell,I.free,I.Xj,λp hp=>(OT.mp hp).elim (λz=>I.pin p (OR _ z)) (h p),I.UB,I.len⟩
def Ci{N:Ql Str}(hN:N.Nodup){i j:Nat}(a:N[i]?=Qs x)(b:N[j]?=Qs x):i=j:=by obtain⟨h1,e1⟩:=Pu.mp a;obtain⟨h2,e2⟩:=Pu.mp b;exact(List.getElem_inj hN).mp (e1.trans e2.symm)
def Au(I:Inv X pins σ H s)(hN:X.N.Nodup)(hi:X.N[i]?=Qs x)(hx:Loc X.env.scope x)(r:RelV v u) (h:∀s',Inv X pins (σ.set i (Qs v)) H s'->(∃a,Heap.SameBut a s.heap s'.heap/\(a=X.env.locals\/X.env.cells.lookup x=Qs a))->Q () s') (hf:autoParam (X.fn x=Qt\/X.env.scope.names.lookup x=Qs .local) qzB._auto_1):wpAny M A (storeName X.env x u) Q E s:=by
 obtain⟨m,hn,hl⟩:=id I.loc;have ziu:(X.env.scope.kind==.class||(X.env.scope.kind==.module&&X.env.locals !=X.env.globals))=Qf:=by rw[I.ok.kind];rfl
 have hiσ:i<σ.length:=by rw[I.len];exact(Pu.mp hi).1
 have Zz:=I.Zz;have tracked:∀{a:XW}{h':XX},(∃o,s.heap.get? a=Qs o/\H a=Qn)->Heap.SameBut a s.heap h'->Vx X.prog X.w H h':=λ{a h'} ha hs b ob e=>by refine(I.UB b _ e).XD (λc w' hc q=>(hs.2 c ?_).trans q) (λ_ q=>q) (λ_ _ q=>q) λ_ _ _ q=>q;lia
 rcases hx with hk|hk
 .refine wpAny_storeName_local hk hn (λh' hn' hs=>?_) ziu;obtain⟨oL,_,_,hoL,_⟩:=id hn;refine h _ ⟨I.ok,I.os,I.bare,⟨λb o e n hb hx=>?_,λb o e n hb hx=>?_,I.base.free,λb o e hx=>?_,I.base.Yk,I.base.Yd,I.base.WY⟩,⟨_,hn',λj y v' e1 e2 e3=>?_⟩,λy c e=>?_,I.free,I.Xj,λp hp=>?_,tracked ⟨oL,hoL,I.free⟩ hs,by simpa using I.len⟩ ⟨_,hs,.inl rfl⟩
  .exact(hs.2 b (Py (O9 (Pd e) I.ok.above))).trans (I.base.keep b o e n hb hx)
  .obtain⟨sl,e1⟩:=I.base.slot b o e n hb hx;exact⟨sl,(hs.2 b (Py (O9 (Pd e) I.ok.above))).trans e1⟩
  .obtain⟨o',e1⟩:=I.base.there b o e hx;exact⟨o',(hs.2 b (Py (O9 (Pd e) I.ok.above))).trans e1⟩
  .by_cases hj:j=i
   .subst hj;rw[hi]at e1;cases e1;rw[P2 hiσ]at e2;cases e2;exact⟨u,r,.inl ⟨hk,by simp⟩⟩
   .rw[Pm (Ne.symm hj)]at e2;obtain⟨u',r',q⟩:=hl j y v' e1 e2 e3;refine⟨u',r',?_⟩;rcases q with⟨k,e⟩|⟨k,c,e,z⟩
    .refine .inl ⟨k,?_⟩;have:y≠x:=λe=>hj (Ci hN e1 (e▸hi));simp[this,e]
    .exact .inr ⟨k,c,e,z.sameBut hs (Zz y c e)⟩
  .obtain⟨w',z⟩:=I.cell y c e;exact⟨w',z.sameBut hs (Zz y c e)⟩
  .obtain⟨e,n,ne,nf,d⟩:=I.pin p hp;exact⟨(hs.2 _ ne).trans e,n,ne,nf,d⟩
 .have hfn:X.fn x=Qt:=by lia
  obtain⟨c,hc⟩:=I.ok.has x (.inl hk);obtain⟨w',z⟩:=I.cell x c hc;refine wpAny_storeName_cell I.ok.kind hk hc z (λh' WC hs=>?_);obtain⟨oc,hoc,zly⟩:=id z;refine h {s with heap:=h'} ⟨I.ok,I.os,I.bare,⟨λb o e n hb hx=>?_,λb o e n hb hx=>?_,I.base.free,λb o e hx=>?_,I.base.Yk,I.base.Yd,I.base.WY⟩,⟨m,hn.sameBut hs (Ne.symm (Zz x c hc)),λj y v' e1 e2 e3=>?_⟩,λy c' e=>?_,I.free,I.Xj,λp hp=>?_,tracked ⟨oc,hoc,I.Xj x c hc⟩ hs,by simpa using I.len⟩ ⟨c,hs,.inr hc⟩
  .exact(hs.2 b (Py (O9 (Pd e) (I.ok.ZA x c hfn hc)))).trans (I.base.keep b o e n hb hx)
  .obtain⟨sl,e1⟩:=I.base.slot b o e n hb hx;exact⟨sl,(hs.2 b (Py (O9 (Pd e) (I.ok.ZA x c hfn hc)))).trans e1⟩
  .obtain⟨o',e1⟩:=I.base.there b o e hx;exact⟨o',(hs.2 b (Py (O9 (Pd e) (I.ok.ZA x c hfn hc)))).trans e1⟩
  .by_cases hj:j=i
   .subst hj;rw[hi]at e1;cases e1;rw[P2 hiσ]at e2;cases e2;exact⟨u,r,.inr ⟨.inl hk,c,hc,WC⟩⟩
   .rw[Pm (Ne.symm hj)]at e2;obtain⟨u',r',q⟩:=hl j y v' e1 e2 e3;refine⟨u',r',?_⟩;rcases q with q|⟨k,c',e,z'⟩
    .exact .inl q
    .refine .inr ⟨k,c',e,z'.sameBut hs ?_⟩;rintro rfl;exact hj (Ci hN e1 (I.ok.inj _ _ _ e hc▸hi))
  .by_cases Y2:c'=c
   .subst Y2;exact⟨_,WC⟩
   .obtain⟨w2,z2⟩:=I.cell y _ e;exact⟨w2,z2.sameBut hs Y2⟩
  .obtain⟨e,n,ne,nf,d⟩:=I.pin p hp;refine⟨(hs.2 _ ?_).trans e,n,ne,nf,d⟩;intro q
   simp_all
def qz(I:Inv X pins σ H s)(hN:X.N.Nodup)(hi:X.N[i]?=Qs x)(hx:Loc X.env.scope x)(r:RelV v u) (h:∀s',Inv X pins (σ.set i (Qs v)) H s'->Q () s') (hf:autoParam (X.fn x=Qt\/X.env.scope.names.lookup x=Qs .local) qzB._auto_1):wpAny M A (storeName X.env x u) Q E s:=Au I hN hi hx r (λs' I' _=>h _ I') hf
end
abbrev XK:=Pl->Qo XW->Hp->Prop
abbrev St:=Ql (Qo V)
abbrev VK:=V->Hp->Prop
abbrev TE:=St->Hp->VK->Prop
abbrev TT:=St->Hp->(Bool->Hp->Prop)->Prop
abbrev TA:=St->Hp->(Ql V->Hp->Prop)->Prop
structure Ends where
 nx:St->Hp->Prop
 rt:VK
 bk:St->Hp->Prop:=λ_ _=>False
 ct:St->Hp->Prop:=λ_ _=>False
abbrev TS:=Ends->St->Hp->Prop
inductive EP(X:Cx)(pins:List (XW×Obj))(σ:St)(Q:VK)(u:Pl)(s':Pf):Prop
 |mk (v H':_) (_:Inv X pins σ H' s') (_:RelV v u) (_:Q v H')
inductive TP(X:Cx)(pins:List (XW×Obj))(σ:St)(Q:Bool->Hp->Prop)(b:Bool)(s':Pf):Prop
 |mk (H':_) (_:Inv X pins σ H' s') (_:Q b H')
inductive AP(X:Cx)(pins:List (XW×Obj))(σ:St)(Q:List V->Hp->Prop)(us:List Pl)(s':Pf):Prop
 |mk (vs H':_) (_:Inv X pins σ H' s') (_:Vals vs us) (_:Q vs H')
inductive SN(X:Cx)(pins:List (XW×Obj))(N:St->Hp->Prop)(s':Pf):Prop
 |mk (σ':St) (H':Hp) (_:Inv X pins σ' H' s') (_:N σ' H')
inductive SR(X:Cx)(pins:List (XW×Obj))(N:VK)(u:Pl)(s':Pf):Prop
 |mk (v:V) (σ':St) (H':Hp) (_:Inv X pins σ' H' s') (_:RelV v u) (_:N v H')
def SP(X:Cx)(pins:Ql (XW×Obj))(D:Ends)(f:Flow)(s':Pf):Prop:=match f with
 |.next=>SN X pins D.nx s'
 |.brk=>SN X pins D.bk s'
 |.cont=>SN X pins D.ct s'
 |.ret u=>SR X pins D.rt u s'
def PE(X:Cx)(e:XY)(t:TE):Prop:=∀(pins:Ql (XW×Obj)) (s:Pf) (σ:St) (H:Hp) (Q:VK),Inv X pins σ H s->t σ H Q->wpAny (model X.prog X.w) X.A (eval e X.env) (EP X pins σ Q) X.xe s
def PT(X:Cx)(e:XY)(t:TT):Prop:=∀(pins:Ql (XW×Obj)) (s:Pf) (σ:St) (H:Hp) (Q:Bool->Hp->Prop),Inv X pins σ H s->t σ H Q->wpAny (model X.prog X.w) X.A (isTrue e X.env (eval e X.env)) (TP X pins σ Q) X.xe s
def PW(X:Cx)(e:XY)(t:TT):Prop:=∀(whole:Sem Pl) (pins:Ql (XW×Obj)) (s:Pf) (σ:St) (H:Hp) (Q:Bool->Hp->Prop),Inv X pins σ H s->t σ H Q->wpAny (model X.prog X.w) X.A (isTrue e X.env whole) (TP X pins σ Q) X.xe s
def PW.pt(h:PW X e t):PT X e t:=h _
def PA(X:Cx)(es:Ql XY)(t:TA):Prop:=∀(pos:Pos) (pins:Ql (XW×Obj)) (s:Pf) (σ:St) (H:Hp) (Q:Ql V->Hp->Prop),Inv X pins σ H s->t σ H Q->wpAny (model X.prog X.w) X.A (spliced (Rc pos (Pc es X.env))) (AP X pins σ Q) X.xe s
def PS(X:Cx)(st:XZ)(t:TS):Prop:=∀(pins:Ql (XW×Obj)) (s:Pf) (σ:St) (H:Hp) (D:Ends),Inv X pins σ H s->t D σ H->wpAny (model X.prog X.w) X.A (exec st X.env) (SP X pins D) X.xe s
def UL(X:Cx)(st:Ql XZ)(t:TS):Prop:=∀(pins:Ql (XW×Obj)) (s:Pf) (σ:St) (H:Hp) (D:Ends),Inv X pins σ H s->t D σ H->wpAny (model X.prog X.w) X.A (execs st X.env) (SP X pins D) X.xe s
def aA{A:QP}{E:Pl->Pf->Prop}{s:Pf}(h:wpAny M A t Q E s)(hQ:∀a s,Q a s->Q' a s):wpAny M A t Q' E s:=wpAny_mono h hQ λ_ _ x=>x
end L2
variable{te:L2.TE}
namespace L2
open PySem.Spec
section
variable {X:Cx}
def ub(ha:PE X a ta)(hb:PE X b tb){σ:St}{R:V->V->Hp->Prop}(I:Inv X pins σ H s)(h:ta σ H λx H1=>tb σ H1 λy H2=>R x y H2){f:Pl->Pl->Sem α} (hf:∀v u s2 x y H2,Inv X pins σ H2 s2->RelV x v->RelV y u->R x y H2->wpAny (model X.prog X.w) X.A (f v u) Q X.xe s2):wpAny (model X.prog X.w) X.A (eval a X.env) (λv s₁=>wpAny (model X.prog X.w) X.A (eval b X.env) (λu s₂=>wpAny (model X.prog X.w) X.A (f v u) Q X.xe s₂) X.xe s₁) X.xe s:=by refine aA (ha _ s σ H _ I h) λv s1 ⟨x,H1,I1,r1,q1⟩=>?_;refine aA (hb _ _ σ _ _ I1 q1) λu s2 ⟨y,H2,I2,r2,q2⟩=>?_;exact hf v u _ x y _ I2 r1 r2 q2
def uH(i:Nat):TE:=λσ H Q=>∃v,σ[i]?=Qs (Qs v)/\Q v H
def tC(v:V):TE:=λ_ H Q=>Q v H
def dg (hN:X.N[i]?=Qs x)(hv:cJ X.env.scope x)(hd:Vf x:=by decide)(UY:VX x:=by decide):PE X (.Name x pos) (uH i):=by
 intro pins s σ H Q I h;obtain⟨v,e,h⟩:=h;obtain⟨m,hn,hl⟩:=I.loc;obtain⟨u,r,l⟩:=hl i x v hN e hv;have fin:EP X pins σ Q u s:=⟨v,H,I,r,h⟩;rcases l with⟨hk,hm⟩|⟨hk,c,hc,zeA⟩
 .exact wpAny_Name (wpAny_loadName_local I.ok.kind hk hn hm fin) hd
 .rcases hk with hk|hk
  .exact wpAny_Name (wpAny_loadName_cell I.ok.kind hk hc zeA fin) hd
  .exact wpAny_Name (wpAny_loadName_free I.ok.kind hk hc zeA fin UY) hd
def wJ:PE X (.Constant (.int i) j pos) (tC (.int i)):=λ_ _ _ H _ I h=>wpAny_Constant_int ⟨.int i,H,I.tok _,⟨_,rfl⟩,h⟩
def J9:PE X (.Constant (.bool b) j pos) (tC (.bl b)):=λ_ _ _ H _ I h=>Constant_bool ⟨.bl b,H,I,rfl,h⟩
def J1:PE X (.Constant .none j pos) (tC .Uz):=λ_ _ _ H _ I h=>Constant_none ⟨.Uz,H,I,rfl,h⟩
def Gl(X:Cx)(x:Str):Prop:=X.env.kindOf x=Qs .globalImplicit
def Dj{σ:St}(I:Inv X pins σ H s)(hg:Gl X x)(hm:X.mg x=Qs u)(h:Q u s) (hd:Vf x:=by decide):wpAny (model X.prog X.w) X.A (eval (.Name x pos) X.env) Q E s:=Calls.Name_function_global I.ok.kind hg (Calls.loadGlobal_global (by rw[I.ok.glob];exact I.mod.glob.keeps I.bk) hm h) hd
def hZ{E:Pl->Pf->Prop}{σ:St}(I:Inv X pins σ H s)(hg:Gl X x)(hm:X.mg x=Qn)(hv:bootBuiltins x=Qs u)(h:Q u s) (hn:x≠"__name__":=by decide) (hd:Vf x:=by decide):wpAny (model X.prog X.w) X.A (eval (.Name x pos) X.env) Q E s:=by obtain⟨mb,h1,h2⟩:=I.mod.blt;exact Calls.Name_function_global I.ok.kind hg (Calls.loadGlobal_builtin (by rw[I.ok.glob];exact I.mod.glob.keeps I.bk) hm (by rw[I.ok.blt];exact h1.keeps I.bk) ((h2 x hn).trans hv) h) hd
def J8 (hg:Gl X x)(hm:X.mg x=Qn)(hv:bootBuiltins x=Qs u)(r:RelV v u)(hn:x≠"__name__":=by decide)(hd:Vf x:=by decide):PE X (.Name x pos) (tC v):=λ_ _ _ H _ I h=>hZ I hg hm hv ⟨v,H,I,r,h⟩ hn hd
variable {a b:XY}{ta tb:TE}
variable {tA tB':TT}
def zdu(t u:TT):TT:=λσ H Q=>t σ H λc H1=>if c=Qt then u σ H1 Q else Q Qf H1
def YO(t u:TT):TT:=λσ H Q=>t σ H λc H1=>if c=Qt then Q Qt H1 else u σ H1 Q
def zdt(t:TT):TT:=λσ H Q=>t σ H λc H1=>Q (!c) H1
def Bb(ha:PT X a tA):PW X (.BoolOp .And [a] pos) tA:=by
 intro wh pins s σ H Q I h;refine isTrue_and (aA (ha _ s σ H Q I h) λc s1 e=>?_);cases c with
 |true=>exact isTrue_and_nil e
 |false=>assumption
def A9(ha:PT X a tA):PW X (.BoolOp .Or [a] pos) tA:=by
 intro wh pins s σ H Q I h;refine isTrue_or (aA (ha _ s σ H Q I h) λc s1 e=>?_);cases c with
 |false=>exact isTrue_or_nil e
 |true=>assumption
def IJ(ha:PT X a tA)(hb:PW X (.BoolOp .And (b::rest) pos) tB'):PW X (.BoolOp .And (a::b::rest) pos) (zdu tA tB'):=by
 intro wh pins s σ H Q I h;refine isTrue_and (aA (ha _ s σ H _ I h) λc s1 ⟨H1,I1,q1⟩=>?_);cases c with
 |true=>exact hb _ _ _ σ _ Q I1 q1
 |false=>exact⟨H1,I1,q1⟩
def Ba(ha:PT X a tA)(hb:PW X (.BoolOp .Or (b::rest) pos) tB'):PW X (.BoolOp .Or (a::b::rest) pos) (YO tA tB'):=by
 intro wh pins s σ H Q I h;refine isTrue_or (aA (ha _ s σ H _ I h) λc s1 ⟨H1,I1,q1⟩=>?_);cases c with
 |true=>exact⟨H1,I1,q1⟩
 |false=>exact hb _ _ _ σ _ Q I1 q1
def IX(ha:PT X a tA):PT X (.UnaryOp .Not a pos) (zdt tA):=by intro pins s σ H Q I h;exact isTrue_not (aA (ha _ s σ H _ I h) λc s1 ⟨H1,I1,q1⟩=>⟨H1,I1,q1⟩)
def G6(t:TT)(ta tb:TE):TE:=λσ H Q=>t σ H λc H1=>if c=Qt then ta σ H1 Q else tb σ H1 Q
def J5(hc:PT X c tA)(ha:PE X a ta)(hb:PE X b tb):PE X (.IfExp c a b pos) (G6 tA ta tb):=by
 intro pins s σ H Q I h;refine wpAny_IfExp (aA (hc _ s σ H _ I h) λd s1 ⟨H1,I1,q1⟩=>?_);cases d with
 |true=>exact ha _ _ σ _ Q I1 q1
 |false=>exact hb _ _ σ _ Q I1 q1
end
def Ux(K:OQ)(H:Hp)(a:XW)(xs:Ql V):Prop:=Rd H a (.lst xs) \/
  ∃(o:Obj) (T5:Array Pl) (n:Nat),K.lookup a=Qs o/\o.cls=.type "list"/\o.dict=Qn/\o.data=.seq T5 n/\T5.size<=PD/\Vals xs T5.toList
def UJ(K:OQ)(H:Hp)(a:XW)(xs:Ql V):Prop:=H a=Qs (.tup xs)
noncomputable def OF:Pl->Qo V
 |.none=>Qs .Uz
 |.bool b=>Qs (.bl b)
 |.int i _=>Qs (.int i)
 |.str x _=>Qs (.str x)
 |.bytes b _=>Qs (.Xb b)
 |.float b _=>Qs (.Y5 b)
 |.ref a=>Qs (.ref a)
 |.type n=>Qs (.ty n)
 |_=>Qn
def RelV.abs(r:RelV x u):OF u=Qs x:=by
 cases x with
 |Uz=>cases r;rfl
 |bl _=>cases r;rfl
 |int _=>obtain⟨t,rfl⟩:=r;rfl
 |str _=>obtain⟨t,rfl⟩:=r;rfl
 |Xb _=>obtain⟨t,rfl⟩:=r;rfl
 |Y5 _=>obtain⟨t,rfl⟩:=r;rfl
 |ref _=>cases r;rfl
 |ty _=>cases r;rfl
def RelV.inj(r:RelV x u)(q:RelV y u):x=y:=Qp (r.abs.symm.trans q.abs)
theorem Vals.inj:∀{xs ys:Ql V}{us:Ql Pl},Vals xs us->Vals ys us->xs=ys
 |_,_,_,.nil,.nil=>rfl
 |_,_,_,.cons r t,.cons r' t'=>by rw[r.inj r',Vals.inj t t']
section
variable {X:Cx}{pins:Ql (XW×Obj)}{σ:St}{s:Pf}{a:XW}{xs ys:Ql V}
def Ux.of (h:H a=Qs (.lst xs)):Ux K H a xs:=.inl (.inl h)
def UJ.of (h:H a=Qs (.tup xs)):UJ K H a xs:=h
def Inv.list(I:Inv X pins σ H s)(h:Ux X.K H a xs):∃T5:Ql Pl,Vals xs T5/\PlainL s.heap a T5.toArray/\xs.length<=PD:=by
 rcases h with h|⟨o,T5,n,hk,hc,hd,hs,hz,r⟩
 .obtain⟨z,T5,n,r,e⟩:=h.ok I.UB;exact⟨T5,r,⟨_,n,e,rfl,rfl,rfl⟩,z⟩
 .refine⟨_,r,⟨o,n,I.Vr a o hk,hc,hd,hs⟩,?_⟩;have e:=r.length
  simp_all
def Inv.tuple(I:Inv X pins σ H s)(h:UJ X.K H a xs):∃T5:Ql Pl,Vals xs T5/\IsTup s.heap a T5.toArray/\xs.length<=PD:=by obtain⟨z,T5,r,p⟩:=((I.UB a _ h));exact⟨T5,r,p,z⟩
def Inv.zco(I:Inv X pins σ H s)(h:Ux X.K H a xs)(h':Ux X.K H a ys):xs=ys:=by
 obtain⟨T5,r,⟨o,n,e,_,_,d⟩,_⟩:=I.list h;obtain⟨VM,r',⟨o',n',e',_,_,d'⟩,_⟩:=I.list h';rw[e]at e';cases e';rw[d]at d';have:T5=VM:=by lia
 subst this;exact r.inj r'
def Inv.zdp(I:Inv X pins σ H s)(h:UJ X.K H a xs)(h':UJ X.K H a ys):xs=ys:=by
 obtain⟨T5,r,⟨o,e,_,n,d⟩,_⟩:=I.tuple h;obtain⟨VM,r',⟨o',e',_,n',d'⟩,_⟩:=I.tuple h';rw[e]at e';cases e';rw[d]at d';have:T5=VM:=by lia
 subst this;exact r.inj r'
end
noncomputable abbrev Cx.XU(X:Cx)(E:Pl->Pf->Prop):Cx:={X with xe:=E}
abbrev Cx.W4(X:Cx):Cx:=X.XU λ_ _=>False
theorem Cx.Ok.XU{X:Cx}(ok:X.Ok)(E:Pl->Pf->Prop):(X.XU E).Ok:=⟨ok.mod,ok.kind,ok.glob,ok.blt,ok.above,ok.inj,ok.has,ok.ZA,ok.hd,ok.frames,ok.ZM,ok.exf,ok.bs,ok.XA,ok.Zi,ok.Z7,ok.Xa,ok.YE,ok.tabs⟩
def Cx.Ok.YM{X:Cx}(ok:(X.XU E).Ok):X.Ok:=⟨ok.mod,ok.kind,ok.glob,ok.blt,ok.above,ok.inj,ok.has,ok.ZA,ok.hd,ok.frames,ok.ZM,ok.exf,ok.bs,ok.XA,ok.Zi,ok.Z7,ok.Xa,ok.YE,ok.tabs⟩
section
variable {X:Cx}{pins:Ql (XW×Obj)}{σ:St}{s:Pf}{E:Pl->Pf->Prop}
theorem Inv.XU(I:Inv X pins σ H s)(E:Pl->Pf->Prop):Inv (X.XU E) pins σ H s:=⟨I.ok.XU E,I.os,I.bare,I.base,I.loc,I.cell,I.free,I.Xj,I.pin,I.UB,I.len⟩
theorem Inv.YM(I:Inv (X.XU E) pins σ H s):Inv X pins σ H s:=⟨I.ok.YM,I.os,I.bare,I.base,I.loc,I.cell,I.free,I.Xj,I.pin,I.UB,I.len⟩
theorem SP.YM(h:SP (X.XU E) pins D f s'):SP X pins D f s':=by
 cases f with
 |next=>obtain⟨σ',H',I,q⟩:=h;exact⟨σ',H',I.YM,q⟩
 |brk=>obtain⟨σ',H',I,q⟩:=h;exact⟨σ',H',I.YM,q⟩
 |cont=>obtain⟨σ',H',I,q⟩:=h;exact⟨σ',H',I.YM,q⟩
 |ret u=>obtain⟨v,σ',H',I,r,q⟩:=h;exact⟨v,σ',H',I.YM,r,q⟩
theorem UL.W4{st:Ql XZ}(h:UL X.W4 st t):UL X st t:=λpins s σ H D I hw=>
 wpAny_mono (h _ s σ H D (I.XU _) hw) (λ_ _ q=>q.YM) λ_ _ z=>False.elim z
end
section
variable {X:Cx}{st:XZ}{t u:TS}{e:XY}
def G2:TS:=λD σ H=>D.nx σ H
def GU(t u:TS):TS:=λD σ H=>t {D with nx:=u D} σ H
def Bl:UL X [] G2:=λ_ _ σ H _ I h=>wpAny_execs_nil ⟨σ,H,I,h⟩
def vY(h1:PS X st t)(h2:UL X rest u):UL X (st::rest) (GU t u):=by
 intro pins s σ H D I h;refine wpAny_execs_cons (aA (h1 _ s σ H _ I h) λf s1 q=>?_);cases f with
 |next=>obtain⟨σ',H',I',q⟩:=q;exact h2 _ _ _ _ D I' q
 |ret v=>assumption
 |brk=>assumption
 |cont=>assumption
def nT(h1:PS X st t):UL X [st] t:=by
 intro pins s σ H D I h;refine wpAny_execs_cons (aA (h1 _ s σ H D I h) λf s1 q=>?_);cases f with
 |next=>exact wpAny_execs_nil q
 |ret v=>assumption
 |brk=>assumption
 |cont=>assumption
def Inv.quiet{σ:St}(I:Inv X pins σ H s):interactive X.env=Qf:=by simp[interactive,I.ok.kind]
def G9(te:TE):TS:=λD σ H=>te σ H λ_ H1=>D.nx σ H1
def jW(he:PE X e te)(hs:swapsWith e Qn pos.line X.env=pure Qf:=by rfl):PS X (.Expr e pos) (G9 te):=by intro pins s σ H D I h;exact wpAny_Expr_any (aA (he _ s σ H _ I h) λv s1 ⟨x,H1,I1,r1,q1⟩=>⟨σ,H1,I1,q1⟩) I.quiet hs
def GV(te:TE):TS:=λD σ H=>te σ H D.rt
def q8(he:PE X e te):PS X (.Return (Qs e) pos) (GV te):=by intro pins s σ H D I h;exact wpAny_Return_some (aA (he _ s σ H _ I h) λv s1 ⟨x,H1,I1,r1,q1⟩=>⟨x,σ,H1,I1,r1,q1⟩)
def G5(c:TT)(t u:TS):TS:=λD σ H=>c σ H λb H1=>if b=Qt then t D σ H1 else u D σ H1
def Bo(hc:PT X c tc)(ha:UL X a t)(hb:UL X b u):PS X (.If c a b pos) (G5 tc t u):=by
 intro pins s σ H D I h;refine wpAny_If (aA (hc _ s σ H _ I h) λd s1 ⟨H1,I1,q1⟩=>?_);cases d with
 |true=>exact ha _ _ σ _ D I1 q1
 |false=>exact hb _ _ σ _ D I1 q1
end
abbrev TG:=V->St->Hp->(St->Hp->Prop)->Prop
abbrev ku:=Ql V->St->Hp->(St->Hp->Prop)->Prop
def PG(X:Cx)(target:XY)(t:TG):Prop:=∀(pins:Ql (XW×Obj)) (s:Pf) (σ:St) (H:Hp) (v:V) (u:Pl) (Q:St->Hp->Prop),Inv X pins σ H s->RelV v u->t v σ H Q->wpAny (model X.prog X.w) X.A (assign target X.env u) (λ_ s'=>∃σ' H',Inv X pins σ' H' s'/\Q σ' H') X.xe s
def pN(X:Cx)(ts:Ql XY)(t:ku):Prop:=∀(pins:Ql (XW×Obj)) (s:Pf) (σ:St) (H:Hp) (vs:Ql V) (us:Ql Pl) (Q:St->Hp->Prop),Inv X pins σ H s->Vals vs us->t vs σ H Q->wpAny (model X.prog X.w) X.A (assignInOrder ((assignEach ts X.env).map (·.2)) us) (λ_ s'=>∃σ' H',Inv X pins σ' H' s'/\Q σ' H') X.xe s
abbrev zw:=V->V->V->Hp->(Hp->Prop)->Prop
def uf(X:Cx)(t:zw):Prop:=∀(pins:Ql (XW×Obj)) (s:Pf) (σ:St) (H:Hp) (o i v:V) (ov iv u:Pl) (Q:Hp->Prop),Inv X pins σ H s->RelV o ov->RelV i iv->RelV v u->t o i v H Q->wpAny (model X.prog X.w) X.A (setItem ov iv u) (λ_ s'=>∃H',Inv X pins σ H' s'/\Q H') X.xe s
abbrev zx:=V->V->Hp->VK->Prop
def zB(X:Cx)(op:Operator)(t:zx):Prop:=∀(pins:Ql (XW×Obj)) (s:Pf) (σ:St) (H:Hp) (x y:V) (v u:Pl) (Q:VK),Inv X pins σ H s->RelV x v->RelV y u->t x y H Q->wpAny (model X.prog X.w) X.A (inplaceOp op v u) (EP X pins σ Q) X.xe s
section
variable {X:Cx}
def d7(i:Nat):TG:=λv σ H Q=>Q (σ.set i (Qs v)) H
def kP(hN:X.N.Nodup)(hi:X.N[i]?=Qs x)(hx:Loc X.env.scope x)(hf:autoParam (X.fn x=Qt\/X.env.scope.names.lookup x=Qs .local) qzB._auto_1):PG X (.Name x pos) (d7 i):=by intro pins s σ H v u Q I r h;exact wpAny_assign_Name (qz I hN hi hx r (λs' I'=>⟨_,H,I',h⟩) hf)
def kj:ku:=λvs σ H Q=>vs=[]/\Q σ H
def gi(t:TG)(u:ku):ku:=λvs σ H Q=>∃v r,vs=v::r/\t v σ H λσ' H'=>u r σ' H' Q
def wB:pN X [] kj:=by intro pins s σ H vs us Q I r h;obtain⟨e,h⟩:=h;subst e;exact assignInOrder_nil ⟨σ,H,I,h⟩
def mh(h1:PG X e t)(h2:pN X es u) (hs:(assignEach (e::es) X.env).map (·.2)=assign e X.env::(assignEach es X.env).map (·.2):=by rfl):pN X (e::es) (gi t u):=by
 intro pins s σ H vs us Q I r h;obtain⟨v,vr,e1,h⟩:=h;subst e1;cases r with
 |cons r rr=>rw[hs];refine assignInOrder_cons (aA (h1 _ s σ H _ _ _ I r h) λ_ s1 ⟨σ1,H1,I1,q1⟩=>?_);exact h2 _ _ _ _ _ _ Q I1 rr q1
def mP(K:OQ)(n:Nat)(t:ku):TG:=λv σ H Q=>∃a xs,v=.ref a/\UJ K H a xs/\xs.length=n/\t xs σ H Q
def BH{k:Nat}(hc:X.calm=Qt)(h:pN X es t) (hn:(assignEach es X.env).length=n:=by rfl) (U6:(assignEach es X.env).findIdx? (·.1)=Qn:=by rfl):PG X (.Tuple es k pos) (mP X.K n t):=by intro pins s σ H v u Q I r hw;obtain⟨a,xs,e1,hq,hl,hw⟩:=hw;subst e1;cases r;obtain⟨T5,rv,ht,hz⟩:=I.tuple hq;refine assign_Tuple_tuple (I.ok.hd hc) ht (by simp[hn,<-hl,rv.length]) U6 λh' hx=>?_;exact h _ _ σ H _ _ Q (I.kept (t':=s.toks) λb o e=>hx b o (Py (Pd e)) e) (rv) hw
def yg(to ti:TE)(t:zw):TG:=λv σ H Q=>to σ H λo H1=>ti σ H1 λi H2=>t o i v H2 λH3=>Q σ H3
def wC(ho:PE X o to)(hi:PE X i ti)(hs:uf X t) (ha:∀v,assign (.Subscript o i pos) X.env v=(do
   let ov<-holding [v] (eval o X.env)
   let iv<-holding [v,ov] (eval i X.env)
   standAt pos
   holding [v,ov,iv] (setItem ov iv v)
   release [v,ov,iv] []):=by intro _;rfl):PG X (.Subscript o i pos) (yg to ti t):=by intro pins s σ H v u Q I r h;refine OX (wpAny_holding (aA (ho _ s σ H _ I h) λov s1 ⟨x,H1,I1,r1,q1⟩=>?_));refine OX (wpAny_holding (aA (hi _ _ σ _ _ I1 q1) λiv s2 ⟨y,H2,I2,r2,q2⟩=>?_));refine OX (wpAny_standAt (OX (wpAny_holding (aA (hs _ _ σ _ x y v _ _ u _ I2 r1 r2 r q2) λ_ s3 ⟨H3,I3,q3⟩=>?_))));exact wpAny_release ⟨σ,H3,I3,q3⟩
def Ar(te:TE)(g:TG):TS:=λD σ H=>te σ H λx H1=>g x σ H1 D.nx
def q9(he:PE X e te)(hg:PG X tg g)(hs:swapsWithSole [tg] e pos.line X.env=pure Qf:=by rfl)(hw:swappedStores [tg] e X.env=pure Qn:=by rfl) (h1:(assignEach [tg] X.env).map (·.2)=[assign tg X.env]:=by rfl):PS X (.Assign [tg] e pos) (Ar te g):=by intro pins s σ H D I h;refine wpAny_Assign_stores (aA (he _ s σ H _ I h) λv s1 ⟨x,H1,I1,r1,q1⟩=>?_) hs hw;rw[h1];exact aA (hg _ _ σ _ x v _ I1 r1 q1) λ_ s2 ⟨σ',H',I',q⟩=>⟨σ',H',I',q⟩
def wk(hN:X.N.Nodup)(hi:X.N[i]?=Qs x)(hx:Loc X.env.scope x)(he:PE X e te)(hs:swapsWith e (Qs (.Name x pos')) pos.line X.env=pure Qf:=by rfl)(hf:autoParam (X.fn x=Qt\/X.env.scope.names.lookup x=Qs .local) qzB._auto_1):PS X (.Assign [.Name x pos'] e pos) (Ar te (d7 i)):=by intro pins s σ H D I h;refine wpAny_Assign_Name (aA (he _ s σ H _ I h) λv s1 ⟨y,H1,I1,r1,q1⟩=>?_) hs;exact qz I1 hN hi hx r1 (λs2 I2=>⟨_,H1,I2,q1⟩) hf
def GX(i j:Nat)(ta:TA):TS:=λD σ H=>ta σ H λvs H1=>∃v w,vs=[v,w]/\D.nx ((σ.set i (Qs v)).set j (Qs w)) H1
def Jl(hc:X.calm=Qt)(hN:X.N.Nodup)(hi:X.N[i]?=Qs x)(hj:X.N[j]?=Qs y)(Y0:i≠j) (hx:X.env.scope.names.lookup x=Qs .local) (hy:X.env.scope.names.lookup y=Qs .local) (ha:PA X [a,b] ta) (hw:swappedStores [.Tuple [.Name x px,.Name y py] kt pt] (.Tuple [a,b] k2 XE) X.env=pure (Qs [x,y])) (hs:swapsWithSole [.Tuple [.Name x px,.Name y py] kt pt] (.Tuple [a,b] k2 XE) pos.line X.env=pure Qf:=by rfl):PS X (.Assign [.Tuple [.Name x px,.Name y py] kt pt] (.Tuple [a,b] k2 XE) pos) (GX i j ta):=by
 intro pins s σ H D I h;refine OX (wpAny_standAt ?_);refine OX (O8 ?_);refine OX (Tuple_ (aA (ha _ _ s σ H _ I h) λus s1 ⟨vs,H1,I1,r1,q1⟩=>?_));obtain⟨v,w,e1,q1⟩:=q1;subst e1;obtain⟨u1,u2,rfl,rv,Xs⟩:∃u1 u2,us=[u1,u2]/\RelV v u1/\RelV w u2:=by
  cases r1 with
  |cons p q=>
   cases q with
   |cons p' q'=>cases q';exact⟨_,_,rfl,p,p'⟩
 refine wpAny_newObj_type ?_ (by show 2<=PD;decide);rw[hw];show wpAny _ _ (do rule _;let items<-unpackItems _ 2 _;assignInOrder _ _;pure _) _ _ _;refine OX (wpAny_rule (OX (unpackItems_tuple (items:=#[u1,u2]) (I.ok.hd hc) (IsTup.new _ _) λh' hx'=>?_)));refine OX (assignInOrder_cons (wpAny_bindName (qz ((I1.kept (t':=s1.toks) λb o e=>OV _ e).kept (h':=h') (t':=s1.toks) λb o e=>hx' b o (Py (Pd e)) e) hN hj (.inl hy) Xs (λs2 I4=>?_) (.inr hy))));refine assignInOrder_cons (wpAny_bindName (qz I4 hN hi (.inl hx) rv (λs3 I5=>assignInOrder_nil (O8 ?_)) (.inr hx)));rw[TM _ _ (Ne.symm Y0)]at I5;exact⟨_,H1,I5,q1⟩
def Hl(to ti te:TE)(zbR:V->V->Hp->VK->Prop)(tip:zx)(zbP:zw):TS:=λD σ H=>to σ H λo H1=>ti σ H1 λi H2=>zbR o i H2 λx H3=>te σ H3 λy H4=>tip x y H4 λz H5=>zbP o i z H5 λH6=>D.nx σ H6
def FK(X:Cx)(t:V->V->Hp->VK->Prop):Prop:=∀(pins:Ql (XW×Obj)) (s:Pf) (σ:St) (H:Hp) (o i:V) (ov iv:Pl) (Q:VK),Inv X pins σ H s->RelV o ov->RelV i iv->t o i H Q->wpAny (model X.prog X.w) X.A (getItem ov iv) (EP X pins σ Q) X.xe s
def Bs(ho:PE X o to)(hi:PE X i ti)(hg:FK X zbR)(he:PE X e te)(hp:zB X op tip)(hs:uf X zbP) (ha:∀ov iv new,augStore i ov iv new=(do holding [new,ov,iv] (setItem ov iv new);release [new,ov,iv] [];pure .next):=by intros;rfl):PS X (.AugAssign (.Subscript o i V3) op e pos) (Hl to ti te zbR tip zbP):=by intro pins s σ H D I h;refine wpAny_AugAssign_SubscriptAny (aA (ho _ s σ H _ I h) λov s1 ⟨x1,H1,I1,r1,q1⟩=>?_) ha;refine aA (hi _ _ σ _ _ I1 q1) λiv s2 ⟨x2,H2,I2,r2,q2⟩=>?_;refine aA (hg _ _ σ _ _ _ _ _ _ I2 r1 r2 q2) λold s3 ⟨x3,H3,I3,r3,q3⟩=>?_;refine aA (he _ _ σ _ _ I3 q3) λv s4 ⟨x4,H4,I4,r4,q4⟩=>?_;refine aA (hp _ _ σ _ _ _ _ v _ I4 r3 r4 q4) λnew s5 ⟨x5,H5,I5,r5,q5⟩=>?_;exact aA (hs _ _ σ _ _ _ _ _ _ _ _ I5 r1 r2 r5 q5) λ_ s6 ⟨H6,I6,q6⟩=>⟨σ,H6,I6,q6⟩
def DP(f:Int->Int->Int):zx:=λx y H Q=>∃i j,x=.int i/\y=.int j/\Q (.int (f i j)) H
def xO:zB X .Add (DP λi j=>i+j):=by intro pins s σ H x y v u Q I r1 r2 h;obtain⟨i,j,e1,e2,q⟩:=h;subst e1;subst e2;obtain⟨t,rfl⟩:=r1;obtain⟨t',rfl⟩:=r2;exact iadd_int ⟨.int _,H,I.tok _,⟨_,rfl⟩,q⟩
end
section
variable {X:Cx}
def GP(c:TT)(tb:TS):TS:=λD σ H=>∃W:Nat->St->Hp->Prop,(∃m,W m σ H)/\∀m σ H,W m σ H->c σ H λb H1=>if b=Qt then ∃N:St->Hp->Prop,(∀σ' H',N σ' H'->∃m',m'<m/\W m' σ' H')/\tb {D with nx:=N,ct:=N,bk:=D.nx} σ H1 else D.nx σ H1
def Jk(hp:PassesOwn (model X.prog X.w) X.A X.env X.xe)(hc:PT X c tc)(hb:UL X body tb):PS X (.While c body [] pos) (GP tc tb):=by
 intro pins s σ H D I h;obtain⟨W,⟨m0,w0⟩,turn⟩:=h;refine wpAny_While (codeAny_whileLoop (λn s'=>∃σ' H',Inv X _ σ' H' s'/\W n σ' H') ?_ _ ⟨σ,H,I,w0⟩);rintro n s1 ⟨σ1,H1,I1,w1⟩;refine wpAny_passesOwn hp (aA (hc _ _ _ _ _ I1 (turn n _ _ w1)) λb s2 ⟨H2,I2,q2⟩=>?_);cases b with
 |true=>
  obtain⟨N,hN,q2⟩:=q2;refine wpAny_passesOwn hp (aA (hb _ _ _ _ _ I2 q2) λf s3 q3=>?_);cases f with
  |next=>obtain⟨σ3,H3,I3,n3⟩:=q3;obtain⟨m',hm,w3⟩:=hN _ _ n3;exact⟨m',hm,σ3,H3,I3,w3⟩
  |cont=>obtain⟨σ3,H3,I3,n3⟩:=q3;obtain⟨m',hm,w3⟩:=hN _ _ n3;exact⟨m',hm,σ3,H3,I3,w3⟩
  |brk=>assumption
  |ret v=>assumption
 |false=>exact wpAny_execs_nil ⟨σ1,H2,I2,q2⟩
end
structure It where
 go:Nat->Hp->Prop
 VT:Nat->Hp->V->Hp->Prop
 stop:Nat->Hp->Prop
def d4(X:Cx)(pins:Ql (XW×Obj))(H:Hp)(b:XW):Prop:=H b=Qn/\b≠X.env.locals/\b∉X.fs/\(b∈X.ex\/X.s₀.heap.objs.size<=b)/\(∀x c,X.env.cells.lookup x=Qs c->c≠b)/\∀p∈X.pn++pins,p.1≠b
def Inv.Yf{σ:St}{b:XW}(I:Inv X pins σ H s)(hb:s.heap.objs.size<=b)(hn:H' b=Qn):d4 X pins H' b:=by
 refine⟨hn,R6 (O9 I.lt hb),I.zgK hb,.inr (PJ I.sz hb),λx c e z=>?_,λp hp z=>?_⟩
 .obtain⟨v,q⟩:=I.cell x c e;exact absurd (O9 q.lt (by lia)) (Q4 _)
 .exact absurd (O9 (Pd (I.pin p hp).1) (by lia)) (Q4 _)
structure Turn(P:Qz)(w:RZ)(K:OQ)(tg:XY)(J:It)(fp:List XW)(it:XW)(tn:Nat->XX->Prop):Prop where
 mem:it∈fp
 obj:∀i h,tn i h->∀b∈fp,∃o,h.get? b=Qs o/\∀v,o.data≠.cell v
 keep:∀i h h',tn i h->(∀b∈fp,∀o,h.get? b=Qs o->h'.get? b=Qs o)->tn i h'
 item:∀(X:Cx),X.prog=P->X.w=w->X.K=K->X.calm=Qt->∀(i:Nat) (pins:List (XW×Obj)) (s:Pf) (σ:St) (H:Hp) (E:Pl->Pf->Prop),Inv X pins σ H s->(∀b∈fp,d4 X pins H b)->tn i s.heap->J.go i H->wpAny (model P w) X.A (pyNext (.ref it)) (λr s1=>∃u,r=Qs u/\wpAny (model P w) X.A (letOwnedTupleGo tg (.ref it) u) (λ_ s2=>∃x H',Inv X pins σ H' s2/\RelV x u/\J.VT i H x H'/\tn (i+1) s2.heap/\∀b∈fp,H' b=Qn) E s1) E s
 done:∀(X:Cx),X.prog=P->X.w=w->X.K=K->X.calm=Qt->∀(i:Nat) (pins:List (XW×Obj)) (s:Pf) (σ:St) (H:Hp) (E:Pl->Pf->Prop),Inv X pins σ H s->(∀b∈fp,d4 X pins H b)->tn i s.heap->J.stop i H->wpAny (model P w) X.A (pyNext (.ref it)) (λr s1=>r=Qn/\Inv X pins σ H s1) E s
 self:∀(A:QP) (i:Nat) (s:Pf) (Q:Pl->Pf->Prop) (E:Pl->Pf->Prop),tn i s.heap->Q (.ref it) s->wpAny (model P w) A (pyIter (.ref it)) Q E s
abbrev TI:=St->Hp->(It->Hp->Prop)->Prop
def zC(X:Cx)(pins:Ql (XW×Obj))(σ:St)(tg:XY)(R:It->Hp->Prop)(ZV:Pl)(s2:Pf):Prop:=∃(it:XW) (fp:Ql XW) (tn:Nat->XX->Prop) (J:It) (H':Hp),ZV=.ref it/\Inv X pins σ H' s2/\Turn X.prog X.w X.K tg J fp it tn/\tn 0 s2.heap/\(∀b∈fp,d4 X pins H' b)/\R J H'
def PI(X:Cx)(tg iter:XY)(wi:TI):Prop:=∀(pins:Ql (XW×Obj)) (s:Pf) (σ:St) (H:Hp) (R:It->Hp->Prop),Inv X pins σ H s->wi σ H R->wpAny (model X.prog X.w) X.A (eval iter X.env) (λv s1=>wpAny (model X.prog X.w) X.A (pyIter v) (zC X pins σ tg R) X.xe s1) X.xe s
def sO(ho:s.heap.get? it=Qs o)(hc:o.cls=.type n)(hd:o.data=.fields vs) (hn:["enumerate","zip","dict_itemiterator","dict_reverseitemiterator","odict_iterator","itertools.zip_longest","itertools.pairwise"].contains n=Qf) (hQ:Q () s):wpAny M A (letOwnedTupleGo tg (.ref it) u) Q E s:=by
 cases tg<;>first
  |exact O8 _
  |(cases u<;>first
    |exact O8 hQ
    |(refine OX (wpAny_load ho ?_)
      rw[hc,hd];show wpAny M A (if(["enumerate","zip","dict_itemiterator","dict_reverseitemiterator","odict_iterator","itertools.zip_longest","itertools.pairwise"].contains n&&vs[0]?==Qs _)=Qt then _ else _) Q E s;rw[Um (by lia)];exact O8 hQ))
def zE(K:OQ)(a:XW):It:=⟨λi H=>∃xs x,Ux K H a xs/\xs[i]?=Qs x,λi H x H'=>H'=H/\∀xs,Ux K H a xs->xs[i]?=Qs x,λi H=>∃xs,Ux K H a xs/\xs.length<=i⟩
def zD(K:OQ)(a:XW):It:=⟨λi H=>∃xs x,UJ K H a xs/\xs[i]?=Qs x,λi H x H'=>H'=H/\∀xs,UJ K H a xs->xs[i]?=Qs x,λi H=>∃xs,UJ K H a xs/\xs.length<=i⟩
def kB(lo:Int)(n:Nat):It:=⟨λi _=>i<n,λi H x H'=>H'=H/\x=.int (lo+i),λi _=>n<=i⟩
def Gw (a it:XW):Turn P w K tg (zE K a) [it] it (λi h=>h.IsListIter it a i) where
 mem:=by simp
 obj:=λi h st b hb=>by
  have e:=by simpa using hb
  subst e;obtain⟨o,e,c,d⟩:=st
  simp_all
 keep:=λi h h' st k=>st.at λo e=>k _ (by simp) o e
 item:=by intro X hP hw hK hc i pins s σ H E I hf st hg;subst hP hw hK;obtain⟨xs,x,hq,hx⟩:=hg;obtain⟨T5,rv,p,hz⟩:=I.list hq;obtain⟨u,hu,ru⟩:=rv.get hx;obtain⟨f0,f1,f2,f3,f4,f5⟩:=hf it (by simp);refine wpAny_pyNext_list_item st p.isList (by simpa using hu) λh' Uk sb=>?_;obtain⟨o,e,c,d⟩:=id Uk;exact⟨u,rfl,sO e c d (rfl) ⟨x,H,(I.turned (t':=s.toks) (λb o hb e=>(sb.2 b hb).trans e) f0 f1 f3 f4 f5),ru,⟨rfl,λys hy=>by rw[I.zco hy hq];assumption⟩,Uk,λb hb=>(hf b hb).1⟩⟩
 done:=by intro X hP hw hK hc i pins s σ H E I hf st hg;subst hP hw hK;obtain⟨xs,hq,hx⟩:=hg;obtain⟨T5,rv,p,hz⟩:=I.list hq;obtain⟨f0,f1,f2,f3,f4,f5⟩:=hf it (by simp);have hl:=rv.length;exact wpAny_pyNext_list_end (I.ok.hd hc) st p.isList (by simp;lia) λh' eb=>⟨rfl,I.turned (λb o hb e=>eb b o hb e) f0 f1 f3 f4 f5⟩
 self:=λ_ _ _ _ _ st h=>wpAny_pyIter_listiter st h
def Gu (a it:XW):Turn P w K tg (zD K a) [it] it (λi h=>h.IsTupleIter it a i) where
 mem:=by simp
 obj:=λi h st b hb=>by
  have e:=by simpa using hb
  subst e;obtain⟨o,e,c,d⟩:=st
  simp_all
 keep:=λi h h' st k=>st.at λo e=>k _ (by simp) o e
 item:=by intro X hP hw hK hc i pins s σ H E I hf st hg;obtain⟨xs,x,hq,hx⟩:=hg;obtain⟨T5,rv,p,hz⟩:=I.tuple hq;obtain⟨u,hu,ru⟩:=rv.get hx;obtain⟨f0,f1,f2,f3,f4,f5⟩:=hf it (by simp);refine wpAny_pyNext_tuple_item st (p) (by simpa using hu) λh' Uk sb=>?_;obtain⟨o,e,c,d⟩:=id Uk;exact⟨u,rfl,sO e c d (rfl) ⟨x,H,(I.turned (t':=s.toks) (λb o hb e=>(sb.2 b hb).trans e) f0 f1 f3 f4 f5),ru,⟨rfl,λys hy=>by rw[I.zdp hy hq];assumption⟩,Uk,λb hb=>(hf b hb).1⟩⟩
 done:=by intro X hP hw hK hc i pins s σ H E I hf st hg;obtain⟨xs,hq,hx⟩:=hg;obtain⟨T5,rv,p,hz⟩:=I.tuple hq;obtain⟨f0,f1,f2,f3,f4,f5⟩:=hf it (by simp);have hl:=rv.length;exact wpAny_pyNext_tuple_end (I.ok.hd hc) st (p) (by simp;lia) λh' eb=>⟨rfl,I.turned (λb o hb e=>eb b o hb e) f0 f1 f3 f4 f5⟩
 self:=λ_ _ _ _ _ st h=>wpAny_pyIter_tupleiter st h
def Gv (it:XW)(lo:Int)(n:Nat):Turn P w K tg (kB lo n) [it] it (λi h=>IsRangeIter h it (lo+(i:Nat)*1) ((n:Int)-(i:Nat)) 1) where
 mem:=by simp
 obj:=λi h st b hb=>by
  simp_all
 keep:=λi h h' st k=>k _ (by simp) _ st
 item:=by intro X hP hw hK hc i pins s σ H E I hf st hg;subst hP hw hK;obtain⟨f0,f1,f2,f3,f4,f5⟩:=hf it (by simp);refine(Walks.range (prog:=X.prog) (w:=X.w) (I.ok.hd hc) it lo 1 n).item i s _ _ hg st λv h' tk hv Uk kk=>?_;obtain⟨t,rfl⟩:=hv;refine⟨_,rfl,sO Uk rfl rfl (rfl) ⟨.int _,H,(I.turned (λb o hb e=>kk b o (by simpa using hb) e) f0 f1 f3 f4 f5),⟨t,?_⟩,⟨rfl,rfl⟩,Uk,λb hb=>(hf b hb).1⟩⟩;rw[Int.mul_one]
 done:=by intro X hP hw hK hc i pins s σ H E I hf st hg;obtain⟨f0,f1,f2,f3,f4,f5⟩:=hf it (by simp);exact wpAny_pyNext_range_end (I.ok.hd hc) st (by have:n<=i:=hg;lia) λh' eb=>⟨rfl,I.turned (λb o hb e=>eb b o hb e) f0 f1 f3 f4 f5⟩
 self:=λ_ _ _ _ _ st h=>wpAny_pyIter_rangeiter st h
end L2
variable{gt:L2.TG}
namespace L2
open PySem.Spec
section
variable {X:Cx}{tg:XY}
def MS(K:OQ)(tl:TE):TI:=λσ H R=>tl σ H λx H1=>∃a,x=.ref a/\(∃xs,Ux K H1 a xs)/\R (zE K a) H1
def MP(K:OQ)(tl:TE):TI:=λσ H R=>tl σ H λx H1=>∃a,x=.ref a/\(∃xs,UJ K H1 a xs)/\R (zD K a) H1
def nX(hl:PE X l tl):PI X tg l (MS X.K tl):=by
 intro pins s σ H R I h;refine aA (hl _ s σ H _ I h) λv s1 ⟨x,H1,I1,r1,q1⟩=>?_;obtain⟨a,e,⟨xs,hq⟩,q⟩:=q1;subst e;cases r1;obtain⟨T5,rv,p,hz⟩:=I1.list hq;refine wpAny_pyIter_list p.isList ?_;refine⟨_,_,_,_,H1,rfl,I1.kept λb o e=>OV _ e,Gw a _,⟨_,Pb _ rfl,rfl,rfl⟩,λb hb=>?_,q⟩;have e:=by simpa using hb
 subst e;exact I1.Yf (O5 _) (I1.UB.fresh (O5 _))
def JJ(hl:PE X l tl):PI X tg l (MP X.K tl):=by
 intro pins s σ H R I h;refine aA (hl _ s σ H _ I h) λv s1 ⟨x,H1,I1,r1,q1⟩=>?_;obtain⟨a,e,⟨xs,hq⟩,q⟩:=q1;subst e;cases r1;obtain⟨T5,rv,p,hz⟩:=I1.tuple hq;refine wpAny_pyIter_tuple (p) ?_;refine⟨_,_,_,_,H1,rfl,I1.kept λb o e=>OV _ e,Gu a _,⟨_,Pb _ rfl,rfl,rfl⟩,λb hb=>?_,q⟩;have e:=by simpa using hb
 subst e;exact I1.Yf (O5 _) (I1.UB.fresh (O5 _))
def AU{σ:St}{lo hi:Int}(I:Inv X pins σ H s)(h1:-(2^62)<=lo)(h2:lo<2^62)(h3:-(2^62)<=hi)(h4:hi<2^62) (q:R (kB lo (hi-lo).toNat) H):wpAny (model X.prog X.w) X.A (pyIter (.ref s.heap.objs.size)) (zC X pins σ tg R) E {s with heap:=s.heap.push {cls:=.type "range",data:=.fields #[.int lo t,.int hi u,.int 1 v]},toks:=tk}:=by
 refine wpAny_pyIter_range (IsRange.new ..) (small_one h1 h2 h3 h4) ?_;have I1:Inv X pins σ H {s with heap:=s.heap.push {cls:=.type "range",data:=.fields #[.int lo t,.int hi u,.int 1 v]},toks:=tk}:=I.kept λb o e=>OV _ e;refine⟨(s.heap.push {cls:=.type "range",data:=.fields #[.int lo t,.int hi u,.int 1 v]}).objs.size,[(s.heap.push {cls:=.type "range",data:=.fields #[.int lo t,.int hi u,.int 1 v]}).objs.size],_,_,H,rfl,I1.kept (t':=tk) λb o e=>OV _ e,Gv _ lo (hi-lo).toNat,?_,λb hb=>?_,q⟩
 .have e1:lo+((0:Nat))*1=lo:=by simp
  have e2:(((hi-lo).toNat):Int)-((0:Nat))=Builtin.Range.rangeSize lo hi 1:=by rw[rangeSize_one];split<;>lia
  rw[e1,e2];exact Pb _ rfl
 .have e:b=(s.heap.push {cls:=.type "range",data:=.fields #[.int lo t,.int hi u,.int 1 v]}).objs.size:=by simpa using hb
  subst e;exact I1.Yf (O5 _) (I1.UB.fresh (O5 _))
def MR(ta:TA):TI:=λσ H R=>ta σ H λvs H1=>∃j:Int,vs=[.int j]/\-(2^62)<=j/\j<2^62/\R (kB 0 j.toNat) H1
def MQ(ta:TA):TI:=λσ H R=>ta σ H λvs H1=>∃i j:Int,vs=[.int i,.int j]/\(-(2^62)<=i/\i<2^62/\-(2^62)<=j/\j<2^62)/\R (kB i (j-i).toNat) H1
def BF(hg:Gl X "range")(hm:X.mg "range"=Qn)(ha:PA X [a] ta)(hs:Pc [a] X.env=[(Qf,eval a X.env)]:=by rfl):PI X tg (.Call (.Name "range" p) [a] [] pos) (MR ta):=by
 intro pins s σ H R I h;refine Call_ (hZ I hg hm boot_range (PyProof.Rows.callWith_type1 (aA (ha _ _ s σ H _ I h) λus s1 ⟨vs,H1,I1,r1,q1⟩=>?_) hs rfl));obtain⟨j,e,q1,q2,q⟩:=q1;subst e;cases r1 with
 |cons r rr=>cases rr;obtain⟨t,rfl⟩:=r;exact call_range_1 (AU I1 (by lia) (by lia) q1 q2 (by lia))
def JK{p:Pos}(hg:Gl X "range")(hm:X.mg "range"=Qn)(ha:PA X [a,b] ta)(hs:Pc [a,b] X.env=[(Qf,eval a X.env),(Qf,eval b X.env)]:=by rfl)(X8:Pc [b] X.env=[(Qf,eval b X.env)]:=by rfl):PI X tg (.Call (.Name "range" p) [a,b] [] pos) (MQ ta):=by
 intro pins s σ H R I h;refine Call_ (hZ I hg hm boot_range (PyProof.Rows.callWith_type1 (aA (ha _ _ s σ H _ I h) λus s1 ⟨vs,H1,I1,r1,q1⟩=>?_) (by lia) (by rw[X8];rfl)));obtain⟨i,j,e,⟨q1,q2,q3,q4⟩,q⟩:=q1;subst e;cases r1 with
 |cons r rr=>
  cases rr with
  |cons r' rr=>cases rr;obtain⟨t,rfl⟩:=r;obtain⟨t',rfl⟩:=r';exact call_range_2 (AU I1 q1 q2 q3 q4 q)
def G7(wi:TI)(g:TG)(tb:TS):TS:=λD σ H=>wi σ H λJ H1=>∃W:Nat->Nat->St->Hp->Prop,(∃m,W 0 m σ H1)/\∀i m σ H,W i m σ H->(J.stop i H/\D.nx σ H)\/(J.go i H/\∃N:St->Hp->Prop,(∀σ' H',N σ' H'->∃m',m'<m/\W (i+1) m' σ' H')/\∀x H',J.VT i H x H'->g x σ H' λσ2 H2=>tb {D with nx:=N,ct:=N,bk:=D.nx} σ2 H2)
def nW(fp:Ql XW)(h:XX):Ql (XW×Obj):=fp.filterMap λb=>(h.get? b).map λo=>(b,o)
def kZ(hb:b∈fp)(e:h.get? b=Qs o):(b,o)∈nW fp h:=RB.mpr ⟨b,hb,by rw[e];rfl⟩
def K8(hp:p∈nW fp h):p.1∈fp/\h.get? p.1=Qs p.2:=by
 obtain⟨b,hb,e⟩:=RB.mp hp;rcases q:h.get? b with _|o
 .rw[q]at e;cases e
 grind
def Inv.pinned{σ:St}(I:Inv X pins σ H s)(hf:∀b∈fp,d4 X pins H b)(ho:∀b∈fp,∃o,s.heap.get? b=Qs o/\∀v,o.data≠.cell v):Inv X (pins++nW fp s.heap) σ H s:=I.zdS λp hp=>(OT.mp hp).elim (λz=>I.pin p (OP _ z)) λz=>by
  obtain⟨hb,e⟩:=K8 z;obtain⟨f0,f1,f2,_⟩:=hf _ hb
  grind
def Inv.ZK{σ:St}(I:Inv X (pins++pl) σ H s):Inv X pins σ H s:=I.zdS λp hp=>I.pin p (OP _ (OR _ hp))
def jV(hp:PassesOwn (model X.prog X.w) X.A X.env X.xe)(hc:X.calm=Qt)(hi:PI X tg iter wi)(hg:PG X tg g)(hb:UL X body tb) (hs:∀x,foldedSetIterable iter X.env x=pure x:=by intro _;rfl):PS X (.For tg iter body [] pos) (G7 wi g tb):=by
 intro pins s σ H D I h;refine wpAny_For (aA (hi pins s σ H _ I h) λv s1 h1=>aA h1 λZV s2 h2=>?_) hs;obtain⟨it,fp,tn,J,H2,e,I2,T,Vc,f2,W,⟨m0,w0⟩,turn⟩:=h2;subst e
 -- zdl stays Qt of Wm zlr objects through Wm loop
 have Ze:∀{H':Hp},(∀b∈fp,H' b=Qn)->∀b∈fp,d4 X pins H' b:=λhn b hb=>⟨hn b hb,(f2 b hb).2⟩;refine codeAny_forLoop_any (λn s'=>∃i σ' H',Inv X pins σ' H' s'/\tn i s'.heap/\(∀b∈fp,H' b=Qn)/\W i n σ' H') ?_ m0 ⟨0,σ,H2,I2,Vc,λb hb=>(f2 b hb).1,w0⟩;rintro n s3 ⟨i,σ3,H3,I3,Wo,fr3,w3⟩;rcases turn i n σ3 H3 w3 with⟨stop,qn⟩|⟨go,N,hN,step⟩
 .refine wpAny_passesOwn hp (aA (T.done X rfl rfl rfl hc i _ _ _ _ _ I3 (Ze fr3) Wo stop) λr s4 ⟨hr,I4⟩=>?_);subst hr;exact wpAny_execs_nil ⟨σ3,H3,I4,qn⟩
 .refine wpAny_passesOwn hp (aA (T.item X rfl rfl rfl hc i _ _ _ _ _ I3 (Ze fr3) Wo go) λr s4 ⟨u,hr,h4⟩=>?_);subst hr;refine wpAny_passesOwn hp (aA h4 λ_ s5 ⟨x,H5,I5,r5,y5,Zf,fr5⟩=>?_);refine wpAny_passesOwn hp (aA (hg _ _ _ _ x u _ (I5.pinned (Ze fr5) (T.obj _ _ Zf)) r5 (step x _ y5)) λ_ s6 ⟨σ6,H6,I6,q6⟩=>?_);refine wpAny_passesOwn hp (aA (hb _ _ _ _ _ I6 q6) λf s7 q7=>?_);have again:∀{σ7:St}{H7:Hp},Inv X _ _ _ s7->N _ _->∃m,m<n/\∃i σ' H',Inv X pins σ' H' _/\tn i _/\(∀b∈fp,H' b=Qn)/\W i m σ' H':=λ{σ7 H7} I7 n7=>by obtain⟨m',hm,w7⟩:=hN _ _ n7;refine⟨m',hm,_,σ7,H7,I7.ZK,T.keep _ _ _ Zf λb hb o e=>(I7.pin _ (OP _ (OP _ (kZ hb e)))).1,λb hb=>?_,w7⟩;obtain⟨o,e,d⟩:=T.obj _ _ Zf b hb;exact(I7.pin _ (OP _ (OP _ (kZ hb e)))).2.1
  cases f with
  |next=>obtain⟨σ7,H7,I7,n7⟩:=q7;exact again I7 n7
  |cont=>obtain⟨σ7,H7,I7,n7⟩:=q7;exact again I7 n7
  |brk=>obtain⟨σ7,H7,I7,q7⟩:=q7;exact⟨σ7,H7,I7.ZK,q7⟩
  |ret v=>obtain⟨x7,σ7,H7,I7,r7,q7⟩:=q7;exact⟨x7,σ7,H7,I7.ZK,r7,q7⟩
end
abbrev R2:=V->V->Hp->VK->Prop
def dJ(X:Cx)(f:Pl->Pl->Sem Pl)(r:R2):Prop:=∀(pins:Ql (XW×Obj)) (s:Pf) (σ:St) (H:Hp) (x y:V) (v u:Pl) (Q:VK),Inv X pins σ H s->RelV x v->RelV y u->r x y H Q->wpAny (model X.prog X.w) X.A (f v u) (EP X pins σ Q) X.xe s
def zt(X:Cx)(f:Pl->Sem Pl)(r:V->Hp->VK->Prop):Prop:=∀(pins:Ql (XW×Obj)) (s:Pf) (σ:St) (H:Hp) (x:V) (v:Pl) (Q:VK),Inv X pins σ H s->RelV x v->r x H Q->wpAny (model X.prog X.w) X.A (f v) (EP X pins σ Q) X.xe s
def gq(X:Cx)(f:Pl)(r:Ql V->Hp->VK->Prop):Prop:=∀(pins:Ql (XW×Obj)) (s:Pf) (σ:St) (H:Hp) (xs:Ql V) (us:Ql Pl) (Q:VK),Inv X pins σ H s->Vals xs us->r xs H Q->wpAny (model X.prog X.w) X.A (call f us) (EP X pins σ Q) X.xe s
def OH(X:Cx)(r:V->Hp->(Bool->Hp->Prop)->Prop):Prop:=∀(pins:Ql (XW×Obj)) (s:Pf) (σ:St) (H:Hp) (x:V) (v:Pl) (Q:Bool->Hp->Prop),Inv X pins σ H s->RelV x v->r x H Q->wpAny (model X.prog X.w) X.A (truthy v) (TP X pins σ Q) X.xe s
def G0(r:R2)(ta tb:TE):TE:=λσ H Q=>ta σ H λx H1=>tb σ H1 λy H2=>r x y H2 Q
def GQ(r:V->Hp->VK->Prop)(ta:TE):TE:=λσ H Q=>ta σ H λx H1=>r x H1 Q
def rI(C:Int->Int->Prop)(g:Int->Int->V):R2:=λx y H Q=>∃i j,x=.int i/\y=.int j/\C i j/\Q (g i j) H
def jT(g:Int->Int->V):R2:=λx y H Q=>∃i j,x=.int i/\y=.int j/\Q (g i j) H
def rU(g:Int->V):V->Hp->VK->Prop:=λx H Q=>∃i,x=.int i/\Q (g i) H
section
variable {X:Cx}{a b c:XY}{ta tb tc:TE}
def Ov(ha:PE X a ta)(hb:PE X b tb){σ:St}{R:V->V->Hp->Prop}(I:Inv X pins σ H s) (h:ta σ H λx H1=>tb σ H1 λy H2=>R x y H2){f:Pl->Pl->Sem Pl} (hf:∀v u s2 x y H2,Inv X pins σ H2 s2->RelV x v->RelV y u->R x y H2->wpAny (model X.prog X.w) X.A (f v u) Q X.xe s2):wpAny (model X.prog X.w) X.A (eval a X.env) (λv s₁=>wpAny (model X.prog X.w) X.A (eval b X.env) (λu s₂=>wpAny (model X.prog X.w) X.A (f v u) Q X.xe s₂) X.xe s₁) X.xe s:=by refine aA (ha _ s σ H _ I h) λv s1 ⟨x,H1,I1,r1,q1⟩=>?_;refine aA (hb _ _ σ _ _ I1 q1) λu s2 ⟨y,H2,I2,r2,q2⟩=>?_;exact hf v u _ x y _ I2 r1 r2 q2
def J0(ho:zt X (unaryOp op) r)(ha:PE X a ta):PE X (.UnaryOp op a pos) (GQ r ta):=by intro pins s σ H Q I h;exact UnaryOp_ (aA (ha _ s σ H _ I h) λv s1 ⟨x,H1,I1,r1,q1⟩=>ho _ _ σ _ x v Q I1 r1 q1)
def n8{g:Int->Int->Int}
  (rule:∀(i j:Int) (t u:Tok) (s:Pf) (Q:Pl->Pf->Prop) (E:Pl->Pf->Prop),C i j->Q (.int (g i j) s.toks) { s with toks:=s.toks+1 }->wpAny (model X.prog X.w) X.A (f (.int i t) (.int j u)) Q E s) :dJ X f (rI C λi j=>.int (g i j)):=by intro pins s σ H x y v u Q I rx ry h;obtain⟨i,j,rfl,rfl,hc,q⟩:=h;obtain⟨t,rfl⟩:=rx;obtain⟨t',rfl⟩:=ry;exact rule i j t _ s _ _ hc ⟨.int _,H,I.tok _,⟨_,rfl⟩,q⟩
def B5{g:Int->Int->Int}
  (rule:∀(i j:Int) (t u:Tok) (s:Pf) (Q:Pl->Pf->Prop) (E:Pl->Pf->Prop),Q (.int (g i j) s.toks) { s with toks:=s.toks+1 }->wpAny (model X.prog X.w) X.A (f (.int i t) (.int j u)) Q E s) :dJ X f (jT λi j=>.int (g i j)):=by intro pins s σ H x y v u Q I rx ry h;obtain⟨i,j,rfl,rfl,q⟩:=h;obtain⟨t,rfl⟩:=rx;obtain⟨t',rfl⟩:=ry;exact rule i j t _ s _ _ ⟨.int _,H,I.tok _,⟨_,rfl⟩,q⟩
def wN{g:Int->Int->Bool} (rule:∀(i j:Int) (t u:Tok) (s:Pf) (Q:Pl->Pf->Prop) (E:Pl->Pf->Prop),Q (.bool (g i j)) s->wpAny (model X.prog X.w) X.A (f (.int i t) (.int j u)) Q E s):dJ X f (jT λi j=>.bl (g i j)):=by intro pins s σ H x y v u Q I rx ry h;obtain⟨i,j,rfl,rfl,q⟩:=h;obtain⟨t,rfl⟩:=rx;obtain⟨t',rfl⟩:=ry;exact rule i j t _ s _ _ ⟨.bl _,H,I,rfl,q⟩
def OM(i j:Int):Prop:=0<=j/\j<=1000000/\i.natAbs<2^64
def zdg(i j:Int):Prop:=(-(2^64)<i/\i<2^64)\/(-(2^64)<j/\j<2^64)
def zdg.ok(h:zdg i j):IntMulOk i j:=by
 rcases h with⟨h1,h2⟩|⟨h1,h2⟩
 .exact .of_left (intBits_le_64 h1 h2)
 .exact .of_right (intBits_le_64 h1 h2)
def Ko:dJ X (binaryOp .Add) (jT λi j=>.int (i+j)):=B5 λ_ _ _ _ _ _ _ q=>add_int q
def Kd:dJ X (binaryOp .Sub) (jT λi j=>.int (i-j)):=B5 λ_ _ _ _ _ _ _ q=>sub_int q
def Ki:dJ X (binaryOp .Mod) (rI (λ_ j=>j≠0) λi j=>.int (i.fmod j)):=n8 λ_ _ _ _ _ _ _ hc q=>mod_int' hc q
def Kf:dJ X (binaryOp .Pow) (rI OM λi j=>.int (i^j.toNat)):=n8 λ_ _ _ _ _ _ _ hc q=>pow_int_small hc.1 hc.2.1 hc.2.2 q
def MF:dJ X (inplaceOp .Mult) (rI zdg λi j=>.int (i*j)):=n8 λ_ _ _ _ _ _ _ hc q=>imul_int q hc.ok
def Gq{g:Int->Int}
  (rule:∀(i:Int) (t:Tok) (s:Pf) (Q:Pl->Pf->Prop) (E:Pl->Pf->Prop),Q (.int (g i) s.toks) { s with toks:=s.toks+1 }->wpAny (model X.prog X.w) X.A (f (.int i t)) Q E s) :zt X f (rU λi=>.int (g i)):=by intro pins s σ H x v Q I rx h;obtain⟨i,rfl,q⟩:=h;obtain⟨t,rfl⟩:=rx;exact rule i t s _ _ ⟨.int _,H,I.tok _,⟨_,rfl⟩,q⟩
def Gp:zt X (unaryOp .USub) (rU λi=>.int (-i)):=Gq λ_ _ _ _ _ q=>neg_int q
end
noncomputable def jM(x y:V):Bool:=match x with
 |.Uz=>(match y with|.Uz=>Qt|.int _=>Qt|.bl _=>Qt|.str _=>Qt|_=>Qf)
 |.bl _=>(match y with|.Uz=>Qt|.bl _=>Qt|.str _=>Qt|_=>Qf)
 |.int _=>(match y with|.Uz=>Qt|.int _=>Qt|.str _=>Qt|_=>Qf)
 |.str _=>(match y with|.Uz=>Qt|.int _=>Qt|.bl _=>Qt|.str _=>Qt|_=>Qf)
 |.Xb _=>(match y with|.Xb _=>Qt|_=>Qf)
 |_=>Qf
def Iy:R2:=λx y H Q=>jM x y=Qt/\Q (.bl (decide (x=y))) H
def Iw:R2:=λx y H Q=>jM x y=Qt/\Q (.bl (!decide (x=y))) H
def ET:decide (V.int i=V.int j)=(i==j):=by lia
def EV:decide (V.bl i=V.bl j)=(i==j):=by lia
def ES:decide (V.str i=V.str j)=(i==j):=by lia
def EU:decide (V.Xb i=V.Xb j)=(i.toList==j.toList):=by rw[SX];simp
section
variable {X:Cx}{a b c:XY}{ta tb tc:TE}
def bV{σ:St}(I:Inv X pins σ H s)(q:Q (.bl k) H)(e:k=k'):EP X pins σ Q (.bool k') s:=by subst e;exact⟨.bl k,H,I,rfl,q⟩
def Kn:dJ X (compareOp .Eq) Iy:=by
 intro pins s σ H x y v u Q I rx ry h;obtain⟨hs,q⟩:=h;cases x with
 |Uz=>
  cases rx;cases y with
  |Uz=>cases ry;exact PySem.EqNone.eq_none_none (bV I q (by rfl))
  |bl j=>cases ry;exact PySem.EqNone.eq_none_bool (bV I q (by rfl))
  |int j=>obtain⟨t',rfl⟩:=ry;exact PySem.EqNone.eq_none_int (bV I q (by rfl))
  |str j=>obtain⟨t',rfl⟩:=ry;exact PySem.EqNone.eq_none_str (bV I q (by rfl))
  |_=>exact absurd (hs) O3
 |bl i=>
  cases rx;cases y with
  |Uz=>cases ry;exact PySem.EqNone.eq_bool_none (bV I q (by rfl))
  |bl j=>cases ry;exact eq_bool (bV I q EV)
  |str j=>obtain⟨t',rfl⟩:=ry;exact PySem.EqMixed.eq_bool_str (bV I q (by simp))
  |_=>exact absurd (hs) O3
 |int i=>
  obtain⟨t,rfl⟩:=rx;cases y with
  |Uz=>cases ry;exact PySem.EqNone.eq_int_none (bV I q (by rfl))
  |int j=>obtain⟨t',rfl⟩:=ry;exact eq_int (bV I q ET)
  |str j=>obtain⟨t',rfl⟩:=ry;exact PySem.EqMixed.eq_int_str (bV I q (by simp))
  |_=>exact absurd (hs) O3
 |str i=>
  obtain⟨t,rfl⟩:=rx;cases y with
  |Uz=>cases ry;exact PySem.EqNone.eq_str_none (bV I q (by rfl))
  |bl j=>cases ry;exact PySem.EqMixed.eq_str_bool (bV I q (by simp))
  |int j=>obtain⟨t',rfl⟩:=ry;exact PySem.EqMixed.eq_str_int (bV I q (by simp))
  |str j=>obtain⟨t',rfl⟩:=ry;exact eq_str (bV I q ES)
  |_=>exact absurd (show Qf=Qt from hs) O3
 |Xb i=>
  obtain⟨t,rfl⟩:=rx;cases y with
  |Xb j=>obtain⟨t',rfl⟩:=ry;exact PySem.W.eq_bytes (bV I q EU)
  |_=>exact absurd (show Qf=Qt from hs) O3
 |_=>cases y<;>exact absurd (show Qf=Qt from hs) O3
def Kh:dJ X (compareOp .NotEq) Iw:=by
 intro pins s σ H x y v u Q I rx ry h;obtain⟨hs,q⟩:=h;cases x with
 |Uz=>
  cases rx;cases y with
  |Uz=>cases ry;exact PySem.EqNone.ne_none_none (bV I q (by rfl))
  |bl j=>cases ry;exact PySem.EqNone.ne_none_bool (bV I q (by assumption))
  |int j=>obtain⟨t',rfl⟩:=ry;exact PySem.EqNone.ne_none_int (bV I q (by assumption))
  |str j=>obtain⟨t',rfl⟩:=ry;exact PySem.EqNone.ne_none_str (bV I q (by assumption))
  |_=>exact absurd (hs) O3
 |bl i=>
  cases rx;cases y with
  |Uz=>cases ry;exact PySem.EqNone.ne_bool_none (bV I q (by assumption))
  |bl j=>cases ry;exact ne_bool (bV I q (congrArg _ EV))
  |str j=>obtain⟨t',rfl⟩:=ry;exact PySem.EqMixed.ne_bool_str (bV I q (by assumption))
  |_=>exact absurd (hs) O3
 |int i=>
  obtain⟨t,rfl⟩:=rx;cases y with
  |Uz=>cases ry;exact PySem.EqNone.ne_int_none (bV I q (by assumption))
  |int j=>obtain⟨t',rfl⟩:=ry;exact ne_int (bV I q (congrArg _ ET))
  |str j=>obtain⟨t',rfl⟩:=ry;exact PySem.EqMixed.ne_int_str (bV I q (by assumption))
  |_=>exact absurd (hs) O3
 |str i=>
  obtain⟨t,rfl⟩:=rx;cases y with
  |Uz=>cases ry;exact PySem.EqNone.ne_str_none (bV I q (by assumption))
  |bl j=>cases ry;exact PySem.EqMixed.ne_str_bool (bV I q (by assumption))
  |int j=>obtain⟨t',rfl⟩:=ry;exact PySem.EqMixed.ne_str_int (bV I q (by simp))
  |str j=>obtain⟨t',rfl⟩:=ry;exact ne_str (bV I q (congrArg not ES))
  |_=>exact absurd (show Qf=Qt from hs) O3
 |Xb i=>
  obtain⟨t,rfl⟩:=rx;cases y with
  |Xb j=>obtain⟨t',rfl⟩:=ry;exact PySem.W.ne_bytes (bV I q (congrArg not EU))
  |_=>exact absurd (show Qf=Qt from hs) O3
 |_=>cases y<;>exact absurd (show Qf=Qt from hs) O3
def Kj:dJ X (compareOp .Lt) (jT λi j=>.bl (decide (i<j))):=wN λ_ _ _ _ _ _ _ q=>lt_int q
def Kk:dJ X (compareOp .LtE) (jT λi j=>.bl (decide (i<=j))):=wN λ_ _ _ _ _ _ _ q=>le_int q
def Km:dJ X (compareOp .Gt) (jT λi j=>.bl (decide (j<i))):=wN λ_ _ _ _ _ _ _ q=>gt_int q
def Kl:dJ X (compareOp .Is) (λx y H Q=>y=.Uz/\Q (.bl (decide (x=.Uz))) H):=by
 intro pins s σ H x y v u Q I rx ry h;obtain⟨rfl,q⟩:=h;cases ry;refine is_none_gen (bV I q ?_);cases x<;>first
  |(cases rx;rfl)
  |(obtain⟨t,rfl⟩:=rx;rfl)
def Kg:dJ X (compareOp .IsNot) (λx y H Q=>y=.Uz/\Q (.bl (!decide (x=.Uz))) H):=by
 intro pins s σ H x y v u Q I rx ry h;obtain⟨rfl,q⟩:=h;cases ry;refine isnot_none_gen (bV I q ?_);cases x<;>first
  |(cases rx;rfl)
  |(obtain⟨t,rfl⟩:=rx;rfl)
def Cg(b:XY)(h:op≠.In:=by decide)(h2:op≠.NotIn:=by decide):behindInMarks op b=Qf:=by
 have e1:(op==CmpOp.In)=Qf:=by lia
 have e2:(op==CmpOp.NotIn)=Qf:=by lia
 cases b<;>simp[behindInMarks,e1,e2]
def zu(K:OQ)(x:V)(H:Hp)(k:Bool):Prop:=match x with
 |.Uz=>k=Qf
 |.bl b=>k=b
 |.int i=>k=(i !=0)
 |.str y=>y.length<=PD/\k=((y.length:Int) !=0)
 |.Xb y=>y.size<=PD/\k=((y.size:Int) !=0)
 |.ref p=>(∃xs,Ux K H p xs/\k=!xs.isEmpty)\/(∃xs,UJ K H p xs/\k=!xs.isEmpty)\/∃UA,H p=Qs (.dK UA)/\k=!UA.isEmpty
 |_=>False
def DK(r:KV UA vs):(!vs.isEmpty)=!UA.isEmpty:=by cases r<;>rfl
def DJ(r:Vals xs T5):(!T5.toArray.isEmpty)=!xs.isEmpty:=by cases r<;>simp
def mC:(PD:Nat)<2^63:=by decide
def GC:OH X (λx H Q=>∃k,zu X.K x H k/\Q k H):=by
 intro pins s σ H x v Q I rx h;obtain⟨k,e,q⟩:=h;have hs:=sizeLine_eq;cases x with
 |Uz=>cases rx;subst e;exact truthy_none ⟨H,I,q⟩
 |bl b=>cases rx;subst e;exact wpAny_truthy_bool ⟨H,I,q⟩
 |int i=>obtain⟨t,rfl⟩:=rx;subst e;exact PySem.P.truthy_int ⟨H,I,q⟩
 |str y=>obtain⟨t,rfl⟩:=rx;obtain⟨hy,e'⟩:y.length<=PD/\k=((y.length:Int) !=0):=e;subst e';exact PySem.P.truthy_str (by lia) ⟨H,I.tok _,q⟩
 |Xb y=>obtain⟨t,rfl⟩:=rx;obtain⟨hy,e'⟩:y.size<=PD/\k=((y.size:Int) !=0):=e;subst e';exact PySem.W.truthy_bytes (by lia) ⟨H,I.tok _,q⟩
 |ref p=>
  cases rx;have e':=e;rcases e' with⟨xs,hx,e'⟩|⟨xs,hx,e'⟩|⟨UA,hx,e'⟩
  .subst e';obtain⟨T5,r,pl,hz⟩:=I.list hx;have hlen:=r.length;exact wpAny_truthy_list pl.isList (by simp;lia) ⟨H,I.tok _,by rw[DJ r];assumption⟩
  .subst e';obtain⟨T5,r,pl,hz⟩:=I.tuple hx;have hlen:=r.length;exact truthy_tuple pl (by simp;lia) ⟨H,I.tok _,by rw[DJ r];assumption⟩
  .subst e';obtain⟨hz,hS,vs,r,m⟩:UA.length<=PD/\(p==sysModules)=Qf/\∃vs,KV _ _/\s.heap.DictOf _ p _:=I.UB p _ hx;have hlen:=Paired.length r;exact wpAny_truthy_dict hS m (by lia) ⟨H,I.tok _,by rw[DK r];assumption⟩
 |_=>exact(show False from e).elim
def IW(ha:PE X a ta)(he:∀whole,isTrue a X.env whole=(do let v<-whole;standAt a.pos;holding [v] (truthy v))):PT X a (λσ H Q=>ta σ H λx H'=>∃k,zu X.K x H' k/\Q k H'):=by intro pins s σ H Q I h;exact isTrue_plain (aA (ha _ s σ H _ I h) λv s1 ⟨x,H1,I1,r1,q1⟩=>GC _ _ σ _ x v Q I1 r1 q1) (he _)
def lU(r:Vals [x] us):∃u,us=[u]/\RelV x u:=by
 cases r with
 |cons r1 r2=>cases r2;exact⟨_,rfl,r1⟩
def uy(r:Vals [x,y] us):∃u w',us=[u,w']/\RelV x u/\RelV y w':=by
 cases r with
 |cons r1 r2=>
  cases r2 with
  |cons r3 r4=>cases r4;exact⟨_,_,rfl,r1,r3⟩
def Of:gq X (.builtin "abs") (λxs H Q=>∃i,xs=[.int i]/\Q (.int (if i<0 then-i else i)) H):=by intro pins s σ H xs us Q I r h;obtain⟨i,rfl,q⟩:=h;obtain⟨u,rfl,t,rfl⟩:=lU r;exact call_abs_int λu tk=>⟨.int _,H,I.tok _,⟨_,rfl⟩,q⟩
def Oc(hc:X.calm=Qt):gq X (.builtin "max") (λxs H Q=>∃i j,xs=[.int i,.int j]/\Q (.int (if j>i then j else i)) H):=by
 intro pins s σ H xs us Q I r h;obtain⟨i,j,rfl,q⟩:=h;obtain⟨u,w',rfl,⟨t,rfl⟩,⟨t',rfl⟩⟩:=uy r;refine max_two_ints (I.ok.hd hc) λh' tk k=>⟨_,H,I.kept k,?_,q⟩;by_cases hj:j>i
 .rw[T4 hj,T4 hj];exact⟨_,rfl⟩
 .rw[Um hj,Um hj];exact⟨_,rfl⟩
def Ob(hc:X.calm=Qt):gq X (.builtin "min") (λxs H Q=>∃i j,xs=[.int i,.int j]/\Q (.int (if j<i then j else i)) H):=by
 intro pins s σ H xs us Q I r h;obtain⟨i,j,rfl,q⟩:=h;obtain⟨u,w',rfl,⟨t,rfl⟩,⟨t',rfl⟩⟩:=uy r;refine min_two_ints (I.ok.hd hc) λh' tk k=>⟨_,H,I.kept k,?_,q⟩;by_cases hj:j<i
 .rw[T4 hj,T4 hj];exact⟨_,rfl⟩
 .rw[Um hj,Um hj];exact⟨_,rfl⟩
end
structure ZC(h:XX)(x dx C:XW)(mA:Str->Option Pl):Prop where
 obj:h.get? x=Qs (Rh C dx)
 ns:h.Ns1 dx mA
 ne:dx≠x
def LQ{h:XX}(n:h.Ns1 dx mA):∃od,h.get? dx=Qs od/\∀name,Sx name od=Qs (mA name):=by
 obtain⟨o,es,ep,ho,hd,hk,_,hm⟩:=n;refine⟨o,ho,λname=>?_⟩;have e:=hm name;unfold nsFind findBy at e;rw[<-Array.find?_toList]at e;unfold Sx;rw[hd];dsimp only;split
 .simp_all
 .rename_i q;rw[q]at e;have a:es.toList.any (·.refKey)=Qf:=by rw[List.any_eq_false];intro y hy;obtain⟨z,t,zib⟩:=hk y (Array.mem_toList_iff.mp hy);simp[DictEntry.refKey,zib]
  simp_all
def ZC.look(I:ZC h x dx C mA):∃od,PySem.W.InstAt h x (Rh C dx) C (Qs od)/\∀name,Sx name od=Qs (mA name):=let ⟨od,ho,hl⟩:=LQ I.ns
 ⟨od,⟨I.obj,rfl,rfl,ho⟩,hl⟩
section
variable {prog:Qz}{w:RZ}{A:QP}{E:Pl->Pf->Prop}{s:Pf}{x dx C f:XW}{mA:Str->Qo Pl}{v:Pl}
def get_map(X:K.In s.heap)(I:ZC s.heap x dx C mA)(hg:Rt K C name=Qt)(hh:RJ K C=Qt) (ha:QF K (.ref C) name=Qs Qn) (hv:mA name=Qs v) (ZX:T6 v=Qt) (h:Q v {s with toks:=s.toks+1}):wpAny (model prog w) A (getAttr (.ref x) name expr) Q E s:=by obtain⟨od,J,hl⟩:=I.look;exact PySem.W.get_value X J (Sd hg).1 (PySem.W.findObj_own hh ha rfl (by rw[hl,hv])) ZX h
def M5(X:K.In s.heap)(I:ZC s.heap x dx C mA)(hg:Rt K C name=Qt) (hf:QF K (.ref C) name=Qs (Qs (.ref f))) (ht:S5 K (.ref f)=Qt) (hv:mA name=Qn) (h:Q (.ref f,[.ref x]) s):wpAny (model prog w) A (getMethod (.ref x) name pl) Q E s:=by obtain⟨od,J,hl⟩:=I.look;exact PySem.W.method_fn X J (Sd hg).1 (Sd hg).2 hf (beq_iff_eq.mp ht) (by show(Sx _ _).map _=Qs _;rw[hl,hv];rfl) h
def HH(X:K.In s.heap)(I:ZC s.heap x dx C mA)
  (hs:QF K (.ref C) "__setattr__"=Qs (Qs (.builtin "object.__setattr__"))) (hp:SE K C=Qt) (ht:SY K C name=Qs Qn) (hh:RJ K C=Qt)
  (hw:PySem.Within mA ns) (hsz:ns.length<=PD)
  (h:∀h',ZC h' x dx C (λy=>if y=name then Qs v else mA y)->Heap.SameBut dx s.heap h'->Q () { s with heap:=h',toks:=s.toks+2 }) :wpAny (model prog w) A (setAttr (.ref x) name v) Q E s:=by obtain⟨od,J,hl⟩:=I.look;refine PySem.W.set_plain X J hs (PySem.W.osa_open X J hp ht λb=>?_);obtain⟨cd,hc,Yb⟩:=PySem.W.any_some hh;refine OX (O8 (OX (OX (wpAny_loadPart I.obj (OX (PySem.W.Looks.here (PySem.W.looks_clsIn X hc) ?_))))));rw[Yb];refine O8 (OX (O8 (OX ?_)));refine wpAny_nsSet1 I.ns λh' Z1 X8=>?_;obtain⟨oD,esD,epD,hoD,hdD,hcD⟩:=Z1.count (PySem.Within.cons _ v hw);refine OX (wpAny_lookBehind hoD (by rw[hdD];exact pastItsLine_dict (PJ hcD (by rw[PM];lia))) ?_);exact O8 (h _ ⟨(X8.2 _ (Ne.symm I.ne)).trans I.obj,Z1,I.ne⟩ X8)
def LF(X:K.In s.heap)(hm:Sh K C=Qt) (hi:QF K (.ref C) "__init__"=Qs (Qs (.ref f))) (hf:PySem.W.typeIn K (.ref f)=Qs (.type "function")) (h:codeAny (model prog w) (A.under (.builtin "type.__call__" ⟨.ref C::vs,kw⟩)) (.call (.ref f) ⟨.ref (s.heap.objs.size+1)::vs,kw⟩) (PySem.W.InitBack (s.heap.objs.size+1) R)
   {s with heap:=(s.heap.push Q8).push (Rh C s.heap.objs.size)}):codeAny (model prog w) A (.call (.ref C) ⟨vs,kw⟩) R s:=by exact PySem.W.make_core (PySem.W.makes_of X hm) (PySem.W.looks_findIn X hi) (λself=>PySem.W.bind_fn X _ hf) (.inl rfl) h
end
def cO(f:Str)(v:V):Ql (Str×V)->Ql (Str×V)
 |[]=>[(f,v)]
 |(g,x)::r=>if g=f then(g,v)::r else(g,x)::cO f v r
theorem C5(f g:Str)(v:V):∀fs:Ql (Str×V),(cO f v fs).lookup g=if g=f then Qs v else fs.lookup g
 |[]=>by
  show Tz g [(f,v)]=_;by_cases h:g=f
  .simp_all
  .simp_all
 |(k,x)::r=>by
  have ih:=C5 f g v r;rw[show cO f v ((k,x)::r)=(if k=f then(k,v)::r else(k,x)::cO f v r) from rfl];by_cases hk:k=f
  .by_cases h:g=k
   .simp_all
   .grind
  .rw[Um hk];by_cases h:g=k
   .simp_all
   .simp only[Tz,(beq_eq_false_iff_ne.mpr h)];assumption
theorem xx(f:Str)(v:V):∀fs:Ql (Str×V),f∈(cO f v fs).map (·.1)/\∀g,g∈fs.map (·.1)->g∈(cO f v fs).map (·.1)
 |[]=>⟨by simp[cO],λg h=>by simp at h⟩
 |(k,x)::r=>by
  obtain⟨i1,i2⟩:=xx f v r;rw[show cO f v ((k,x)::r)=(if k=f then(k,v)::r else(k,x)::cO f v r) from rfl];by_cases hk:k=f
  .rw[T4 hk];subst hk;exact⟨by simp,λg h=>h⟩
  .grind
theorem De(f:Str)(v:V):∀fs:Ql (Str×V),(cO f v fs).length<=fs.length+1
 |[]=>by simp[cO]
 |(k,x)::r=>by
  have ih:=De f v r;rw[show cO f v _=(if k=f then(k,v)::r else(k,x)::cO f v r) from rfl];by_cases hk:k=f
  .simp_all
  .simp_all
def Xk.some_of(r:Xk (Qs v) o):∃u,o=Qs u/\RelV v u:=by
 cases o with
 |none=>exact(r).elim
 |some u=>exact⟨u,rfl,r⟩
def Xk.none_of(r:Xk Qn o):o=Qn:=by
 cases o with
 |none=>rfl
 |some u=>exact(r).elim
def MY(r:RelV v u):T6 u=Qt:=by
 cases v with
 |Uz=>cases(r);rfl
 |bl b=>cases(r);rfl
 |int i=>obtain⟨t,e⟩:=(r);cases e;rfl
 |str x=>obtain⟨t,e⟩:=(r);cases e;rfl
 |Xb b=>obtain⟨t,e⟩:=(r);cases e;rfl
 |Y5 b=>obtain⟨t,e⟩:=(r);cases e;rfl
 |ref a=>cases(r);rfl
 |ty n=>cases(r);rfl
section
variable {P:Qz}{w:RZ}{h h':XX}{a C dx:XW}{fs Z6:Ql (Str×V)}
def xS(UB:Vx P w H h)(e:H a=Qs (.ins C dx fs)):∃mA,ZC h a dx C mA/\(∀f,Xk (fs.lookup f) (mA f))/\PySem.Within mA (fs.map (·.1))/\fs.length<=1000/\H dx=Qs (.own a):=by obtain⟨d,z,ne,ob,mA,n,r,q⟩:=((UB a _ e));exact⟨mA,⟨ob,n,ne⟩,r,q,z,d⟩
end
structure Vh(K:OQ)(C:XW):Prop where
 pg:Rt K C Str.empty=Qt
 hd:RJ K C=Qt
 po:SE K C=Qt
 sa:QF K (.ref C) "__setattr__"=Qs (Qs (.builtin "object.__setattr__"))
def Vh.get (c:Vh K C)(f:Str):Rt K C f=Qt:=c.pg
def UH(K:OQ)(C:XW)(f:Str):Prop:=QF K (.ref C) f=Qs Qn
def UH.zfY (n:UH K C f):SY K C f=Qs Qn:=by unfold SY;rw[n];rfl
structure Meth(K:OQ)(C:XW)(m:Str)(f:XW):Prop where
 at_:QF K (.ref C) m=Qs (Qs (.ref f))
 fn:S5 K (.ref f)=Qt
 kp:Qh K (.ref f)=Qt
section
variable {X:Cx}{pins:Ql (XW×Obj)}{σ:St}{s:Pf}{a C dx:XW}{fs:Ql (Str×V)}{f:Str}{v:V}{A:QP}{E:Pl->Pf->Prop}
def D6(I:Inv X pins σ H s)(e:H a=Qs (.ins C dx fs))(c:Vh X.K C)(n:UH X.K C f)(l:fs.lookup f=Qs v) (h:∀u s',Inv X pins σ H s'->RelV v u->Q u s'):wpAny (model X.prog X.w) A (getAttr (.ref a) f b) Q E s:=by obtain⟨mA,O,r,_,_,_⟩:=xS I.UB e;obtain⟨u,hu,ru⟩:=Xk.some_of (by rw[<-l];exact r f);exact get_map I.Vr O (c.get f) c.hd n hu (MY ru) (h u _ (I.tok _) ru)
def D5(I:Inv X pins σ H s)(e:H a=Qs (.ins C dx fs))(c:Vh X.K C)(k:Meth X.K C m g)(l:fs.lookup m=Qn) (h:Q (.ref g,[.ref a]) s):wpAny (model X.prog X.w) A (getMethod (.ref a) m pl) Q E s:=by obtain⟨mA,O,r,_,_,_⟩:=xS I.UB e;exact M5 I.Vr O (c.get m) k.at_ k.fn (Xk.none_of (by rw[<-l];exact r m)) h
def AG(I:Inv X pins σ H s)(e:H a=Qs (.ins C dx fs))(c:Vh X.K C)(n:UH X.K C f)(hl:fs.length<1000)(ry:RelV y u) (h:∀s',Inv X pins σ (upd H a (.ins C dx (cO f y fs))) s'->Q () s'):wpAny (model X.prog X.w) A (setAttr (.ref a) f u) Q E s:=by
 obtain⟨mA,O,r,wi,_,ho⟩:=xS I.UB e;have hz:(fs.map (·.1)).length<=PD:=by rw[O0,sizeLine_eq];lia
 refine HH I.Vr O c.sa c.po n.zfY c.hd wi hz λh' O' sb=>h _ ?_;have hd:∃o,h'.get? dx=Qs o:=let ⟨o,_,_,e',_⟩:=O'.ns;⟨o,e'⟩
 refine I.write (x:=a) (e:=dx) (by rw[e];exact True.intro) (.inr ho) (λb q hb z=>(sb.2 b hb).trans z) hd ?_;refine⟨by rw[aC O.ne];assumption,?_,O.ne,O'.obj,_,O'.ns,λg=>?_,λg hg=>?_⟩
 .have:=De f y fs;lia
 .rw[C5];by_cases q:g=f
  .rw[T4 q,T4 q];assumption
  .rw[Um q,Um q];exact r g
 .by_cases q:g=f
  .rw[q];exact(xx f y _).1
  .refine(xx f y _).2 g (wi g λz=>hg ?_);lia
def Inv.made(I:Inv X pins σ H s):Inv X pins σ (upd (upd H s.heap.objs.size (.own (s.heap.objs.size+1))) (s.heap.objs.size+1) (.ins C s.heap.objs.size []))
  {s with heap:=(s.heap.push Q8).push (Rh C s.heap.objs.size)}:=by
 have e1:(s.heap.push _).get? _=Qs Q8:=Pb _ rfl;refine(I.laid (a:=s.heap.objs.size) (o:=.own (s.heap.objs.size+1)) (h':=s.heap.push Q8) (t':=s.toks) (λb u q=>OV _ q) (O5 _) ⟨_,e1⟩).laid (λb u q=>OV _ q) (T7 (RU _ _)) ?_;have ne:s.heap.objs.size≠s.heap.objs.size+1:=Py (Qa _);refine⟨by rw[aC ne,aM],QR _,ne,(by
  have:=Pb (s.heap.push Q8) (o:=Rh C s.heap.objs.size) rfl
  rwa [RU]at this),_,(Heap.Ns1.of_empty (⟨Q8,#[],_,e1,rfl,(λe he=>absurd he (by simp)),λ_=>rfl⟩)).at λo q=>OV _ q,λ_=>True.intro,λy hy=>absurd rfl hy⟩
def Ox(hb:attributeBase e f env (eval e env)=eval e env) (h:wpAny (model prog w) A (eval e env) (λo s₁=>wpAny (model prog w) A (getAttr o f Qt) Q E s₁) E s):wpAny (model prog w) A (eval (.Attribute e f pos) env) Q E s:=Attribute_any_ h (by rw[arm_eval_Attribute,hb])
end
def G8(K:OQ)(ta:TE)(f:Str):TE:=λσ H Q=>ta σ H λx H1=>∃a C dx fs v,x=.ref a/\H1 a=Qs (.ins C dx fs)/\Vh K C/\UH K C f/\fs.lookup f=Qs v/\Q v H1
def HV(K:OQ)(ta tv:TE)(f:Str):TS:=λD σ H=>tv σ H λy H1=>ta σ H1 λx H2=>∃a C dx fs,x=.ref a/\H2 a=Qs (.ins C dx fs)/\Vh K C/\UH K C f/\fs.length<1000/\D.nx σ (upd H2 a (.ins C dx (cO f y fs)))
def FR(X:Cx)(op:Operator)(rd:V->V->Hp->VK->Prop):Prop:=∀(pins:Ql (XW×Obj)) (s:Pf) (σ:St) (H:Hp) (x y:V) (u v:Pl) (Q:VK),Inv X pins σ H s->RelV x u->RelV y v->rd x y H Q->wpAny (model X.prog X.w) X.A (inplaceOp op u v) (EP X pins σ Q) X.xe s
def HU(K:OQ)(ta tv:TE)(rd:V->V->Hp->VK->Prop)(f:Str):TS:=λD σ H=>ta σ H λx H1=>∃a C dx fs v,x=.ref a/\H1 a=Qs (.ins C dx fs)/\Vh K C/\UH K C f/\fs.lookup f=Qs v/\tv σ H1 λy H2=>rd v y H2 λz H3=>∃dx' Z6,H3 a=Qs (.ins C dx' Z6)/\Z6.length<1000/\D.nx σ (upd H3 a (.ins C dx' (cO f z Z6)))
section
variable {X:Cx}{o e value:XY}{f:Str}{ta tv:TE}
def kR(he:PE X e ta)(hb:attributeBase e f X.env (eval e X.env)=eval e X.env):PE X (.Attribute e f pos) (G8 X.K ta f):=by intro pins s σ H Q I h;refine Ox hb (aA (he _ s σ H _ I h) λu s1 ⟨x,H1,I1,rx,a,C,dx,fs,v,ex,ea,c,n,l,q⟩=>?_);subst ex;obtain rfl:u=Ph a:=rx;exact D6 I1 ea c n l λu' s2 I2 ru=>⟨v,H1,I2,ru,q⟩
def Jn(ha:PE X o ta)(hv:PE X value tv)(hs:swapsWith value (Qs (.Attribute o f pos')) pos.line X.env=pure Qf):PS X (.Assign [.Attribute o f pos'] value pos) (HV X.K ta tv f):=by intro pins s σ H D I h;refine plainObj_wpAny_Assign_Attribute (aA (hv _ s σ H _ I h) λu s1 ⟨y,H1,I1,ry,q⟩=>aA (ha _ _ σ _ _ I1 q) λov s2 ⟨x,H2,I2,rx,a,C,dx,fs,ex,ea,c,n,l,q2⟩=>?_) hs;subst ex;obtain rfl:ov=Ph a:=rx;exact AG I2 ea c n l ry λs3 I3=>⟨σ,_,I3,q2⟩
def Jm(ha:PE X o ta)(hv:PE X value tv)(hop:FR X op rd):PS X (.AugAssign (.Attribute o f V3) op value pos) (HU X.K ta tv rd f):=by intro pins s σ H D I h;refine wpAny_AugAssign_AttributeAny (aA (ha _ s σ H _ I h) λov s1 ⟨x,H1,I1,rx,a,C,dx,fs,v,ex,ea,c,n,l,q⟩=>?_);subst ex;obtain rfl:ov=Ph a:=rx;refine D6 I1 ea c n l λu s2 I2 ru=>aA (hv _ _ σ _ _ I2 q) λw3 s3 ⟨y,H2,I3,ry,q3⟩=>aA (hop _ _ σ _ v y u _ _ I3 ru ry q3) λw4 s4 ⟨z,H3,I4,rz,dx',Z6,ea',l',q4⟩=>?_;exact AG I4 ea' c n l' rz λs5 I5=>⟨σ,_,I5,q4⟩
end
structure UU(k:Nat)(A:QP):Prop where
 hd:A.handled=Qn
 dp:A.depth+3*k+5<recursionLimit
 un:A.units+16*k+200<cLine
def UU.mono(r:UU k A)(h:j<=k:=by decide):UU j A:=⟨r.hd,by have:=r.dp;lia,by have:=r.un;lia⟩
theorem UU.deeper(r:UU (k+1) A)(env:Env):UU k (A.deeper env):=⟨r.hd,by have:=r.dp;show A.depth+1+3*k+5<_;lia,by have:=r.un;show A.units+3+16*k+200<_;lia⟩
theorem UU.in1(r:UU (k+1) A):UU k A.in1:=⟨r.hd,by have:=r.dp;show A.depth+3*k+5<_;lia,by have:=r.un;show A.units+1+16*k+200<_;lia⟩
def LG{A:QP}:(A.under (.builtin "type.__call__" ⟨.ref C::us,kw⟩)).depth=A.depth+1:=rfl
def LD{A:QP}:(A.under (.builtin "type.__call__" ⟨.ref C::us,kw⟩)).units=A.units+1:=rfl
def UU.make(r:UU (k+1) A)(C:XW)(us:Ql Pl)(kw:Ql (Str×Pl)):UU k (A.under (.builtin "type.__call__" ⟨.ref C::us,kw⟩)):=⟨r.hd,by have:=r.dp;rw[LG];lia,by have:=r.un;rw[LD];lia⟩
theorem UU.depth(r:UU k A):A.depth<recursionLimit:=by have:=r.dp;lia
theorem UU.units(r:UU k A):A.units+64<cLine:=by have:=r.un;lia
def Aq:TA:=λ_ H Q=>Q [] H
def Hf(ta:TE)(tr:TA):TA:=λσ H Q=>ta σ H λx H1=>tr σ H1 λxs H2=>Q (x::xs) H2
section
variable {X:Cx}{e:XY}{es:Ql XY}{t:TA}
def fJ:PA X [] Aq:=λ_ _ _ _ H Q I h=>Calls.spliced_nil ⟨[],H,I,.nil,h⟩
def fj(ha:PE X e te)(hr:PA X es t)(hs:Pc (e::es) X.env=(Qf,eval e X.env)::Pc es X.env:=by rfl):PA X (e::es) (Hf te t):=by intro pos pins s σ H Q I h;rw[hs];refine Calls.spliced_cons (aA (ha _ s σ H _ I h) λu s1 ⟨x,H1,I1,r1,q1⟩=>?_);exact aA (hr _ _ _ σ _ _ I1 q1) λus s2 ⟨xs,H2,I2,r2,q2⟩=>⟨_,H2,I2,.cons r1 r2,q2⟩
def GR(t:TA):TE:=λσ H Q=>t σ H λxs H1=>xs.length<=PD/\∀p,H1 p=Qn->Q (.ref p) (upd H1 p (.tup xs))
def G4(t:TA):TE:=λσ H Q=>t σ H λxs H1=>xs.length<=PD/\∀p,H1 p=Qn->Q (.ref p) (upd H1 p (.lst xs))
def rG(h:PA X es t):PE X (.Tuple es x1 pos) (GR t):=by intro pins s σ H Q I hq;refine wpAny_Tuple_spliced (aA (h _ _ s σ H _ I hq) λus s1 ⟨xs,H1,I1,r,z,q⟩=>⟨by rw[<-r.length];assumption,?_⟩);refine⟨.ref _,_,I1.laid (λb u e=>OV _ e) (O5 _) ?_,rfl,q _ (I1.UB.fresh (O5 _))⟩;exact⟨z,us,r,⟨_,Pb _ rfl,rfl,_,rfl⟩⟩
def J4(h:PA X es t):PE X (.List es pos) (G4 t):=by intro pins s σ H Q I hq;refine wpAny_List_spliced (aA (h _ _ s σ H _ I hq) λus s1 ⟨xs,H1,I1,r,z,q⟩=>⟨by rw[<-r.length];assumption,?_⟩);refine⟨.ref _,_,I1.laid (λb u e=>OV _ e) (O5 _) ?_,rfl,q _ (I1.UB.fresh (O5 _))⟩;exact⟨z,us,0,r,Pb _ rfl⟩
end
abbrev Sp:=Ql V->Hp->VK->XK->Prop
abbrev lR:=Ql Env->Hp->Pf->XK->Pl->Pf->Prop
structure ZH(P:Qz)(w:RZ)(K:OQ)(mg:Str->Option Pl)(base:Wh)(A:QP)(outer:List Env)(s:Pf)(H:Hp):Prop where
 frames:A.frames=Qs outer
 mod:Mod K mg base
 bs:∀b o,base.get? b=Qs o->s.heap.get? b=Qs o/\H b=Qn
 XA:base.objs.size<=s.heap.objs.size
 Xa:s.heap.FunFrames base outer
 YE:∀b∈iJ outer,H b=Qn
 UB:Vx P w H s.heap
 bare:AllBare s.gens
 tabs:∀p∈base.tabs,H p.1=Qs (.Wi p.2)
inductive CE(outer:List Env)(P:Qz)(w:RZ)(H:Hp)(s:Pf)(Q:VK)(u:Pl)(s':Pf):Prop
 |mk (v:V) (H':Hp) (_:s'.os=s.os) (_:AllBare s'.gens) (_:Un (iJ outer) [] H H' s.heap s'.heap) (_:Vx P w H' s'.heap) (_:RelV v u) (_:Q v H')
def CR(CX:lR)(outer:Ql Env)(P:Qz)(w:RZ)(H:Hp)(s:Pf)(Q:VK)(E:XK)(r:Result)(s':Pf):Prop:=match r with
 |.ok (.ret u)=>CE outer P w H s Q u s'
 |.ok _=>False
 |.error e=>CX outer H s E e s'
structure Vn(P:Qz)(w:RZ)(K:OQ)(mg:Str->Option Pl)(base:Wh)(CX:lR)(k:Nat)(f:XW)(fd:Ru)(ps:List Str)(sp:Sp):Prop where
 len:∀vs H Q E,sp vs H Q E->vs.length=ps.length
 run:∀(A:QP) (outer:List Env) (s:Pf) (H:Hp) (args:Args) (us:List Pl) (vs:List V) (Q:VK) (E:XK),UU k A->ZH P w K mg base A outer s H->BindsTo s fd args (ps.zip us)->Vals vs us->sp vs H Q E->codeAny (model P w) A (.call (.ref f) args) (CR CX outer P w H s Q E) s
def Vn.imp (F:Vn P w K mg base CX k f fd ps sp) (h:∀vs H Q E,sp' vs H Q E->sp vs H Q E):Vn P w K mg base CX k f fd ps sp':=⟨λvs H Q E q=>F.len _ H Q E (h _ _ _ _ q),λA outer s H args us vs Q E hr he hb hv hs=>F.run A _ s H _ _ _ Q E hr he hb hv (h _ _ _ _ hs)⟩
def ZH.make (e:ZH P w K mg base A outer s H)(C:XW)(us:Ql Pl)(kw:Ql (Str×Pl)):ZH P w K mg base (A.under (.builtin "type.__call__" ⟨.ref C::us,kw⟩)) outer s H:=⟨by first|exact e.frames|(simpa[pushEnvs] using e.frames),e.mod,e.bs,e.XA,e.Xa,e.YE,e.UB,e.bare,e.tabs⟩
section
variable {X:Cx}{pins:Ql (XW×Obj)}{σ:St}{s s':Pf}
def Inv.zeY(I:Inv X pins σ H s):ZH X.prog X.w X.K X.mg X.base X.A X.stack s H:=⟨I.ok.frames,I.ok.mod,I.bs,PJ I.ok.XA I.sz,I.stack,I.zbV,I.UB,I.bare,λp hp=>I.base.WY _ _ (I.ok.tabs p hp)⟩
def Inv.after(I:Inv X pins σ H s)(h:CE X.stack X.prog X.w H s Q u s'):EP X pins σ Q u s':=by obtain⟨v,H',os,bare,un,UB,r,q⟩:=h;obtain⟨hh,g,d,t,os'⟩:=s';obtain rfl:os'=s.os:=os;exact⟨v,H',I.call un UB bare (λb z=>absurd z (by simp)),r,q⟩
end
def Hg(sp:Sp)(Wf:Ql V)(E:XK)(t:TA):TE:=λσ H Q=>t σ H λvs H1=>sp (vs++Wf) H1 Q E
def qt(C:XW)(m:Str)(sp:Sp)(Wf:Ql V)(E:XK)(ta:TE)(t:TA):TE:=λσ H Q=>ta σ H λx H1=>∃a dx fs,x=.ref a/\H1 a=Qs (.ins C dx fs)/\fs.lookup m=Qn/\t σ H1 λvs H2=>sp (x::(vs++Wf)) H2 Q E
def G3(C:XW)(sp:Sp)(Wf:Ql V)(E:XK)(t:TA):TE:=λσ H Q=>t σ H λvs H1=>∀x dx,H1 x=Qn->H1 dx=Qn->dx≠x->sp (.ref x::(vs++Wf)) (upd (upd H1 dx (.own x)) x (.ins C dx [])) (λv H2=>v=.Uz/\Q (.ref x) H2) E
def Binds(K:OQ)(fd:Ru)(ps:Ql Str)(ds:Ql Pl):Prop:=∀(s:Pf) (us:Ql Pl),K.In s.heap->(us++ds).length=ps.length->BindsTo s fd ⟨us,[]⟩ (ps.zip (us++ds))
def Binds.all (h:∀us:Ql Pl,us.length=ps.length->bindArgs fd ⟨us,[]⟩=pure (ps.zip us)):Binds K fd ps []:=λs us _ hl=>by rw[PH]at hl ⊢;exact .of_eq (h _ hl)
def lL(CX:lR)(X:Cx)(E:XK):Prop:=∀(pins:Ql (XW×Obj)) (σ:St) (H:Hp) (s:Pf) (e:Pl) (s':Pf),Inv X pins σ H s->CX X.stack H s E e s'->X.xe e s'
section
variable {X:Cx}{CX:lR}{k:Nat}{f C:XW}{fd:Ru}{ps:Ql Str}{sp:Sp}{Wf:Ql V}{ds:Ql Pl}{E:XK}{x m:Str}{p:Pos}{e o:XY}{es:Ql XY}{ta:TE}{t:TA}
def vJ{σ:St}(F:Vn X.prog X.w X.K X.mg X.base CX k f fd ps sp)(hr:UU k X.A)(hb:Binds X.K fd ps ds)(hd:Vals Wf ds)(hx:lL CX X E) (I:Inv X pins σ H s) (r:Vals vs us) (h:sp (vs++Wf) H Q E):wpAny (model X.prog X.w) X.A (call (.ref f) us) (EP X pins σ Q) X.xe s:=by
 have r2:=r.append hd;refine wpAny_call (codeAny_mono (F.run _ _ s H _ _ _ Q E hr I.zeY (hb s _ I.Vr (by rw[<-r2.length];exact F.len _ _ _ _ h)) r2 h) λr s' hq=>?_);cases r with
 |error e=>exact hx _ σ H s e _ I hq
 |ok fl=>
  cases fl with
  |ret u=>exact I.after hq
  |next=>assumption
  |brk=>assumption
  |cont=>assumption
def BR(F:Vn X.prog X.w X.K X.mg X.base CX k f fd ps sp)(hr:UU k X.A)(hg:Gl X x)(hm:X.mg x=Qs (.ref f))(hk:Qh X.K (.ref f)=Qt)(hb:Binds X.K fd ps ds)(hd:Vals Wf ds)(hx:lL CX X E) (ha:PA X (e::es) t) (Ws:Vf x:=by decide) (he:Pc (e::es) X.env=(Qf,eval e X.env)::Pc es X.env:=by rfl) (Vu:(Rc pos (Pc es X.env)).any (·.1)=Qf:=by rfl):PE X (.Call (.Name x p) (e::es) [] pos) (Hg sp Wf E t):=by intro pins s σ H Q I h;refine wpAny_Call_Name_kw (Dj I hg hm ?_ Ws);refine Ss I.ok.mod.kin hk (aA (ha _ _ s σ H _ I h) λus s1 ⟨vs,H1,I1,r,q⟩=>⟨I1.Vr,?_⟩) he Vu;exact vJ F hr hb hd hx I1 r q
def BP{pl:Sem Bool}(he:PE X o ta)(c:Vh X.K C)(hm:Meth X.K C m f)(F:Vn X.prog X.w X.K X.mg X.base CX k f fd ps sp)(hr:UU k X.A)(hb:Binds X.K fd ps ds)(hd:Vals Wf ds)(hx:lL CX X E)(ha:PA X (e::es) t) (U6:Pc (e::es) X.env=(Qf,eval e X.env)::Pc es X.env:=by rfl) (Vu:(Rc pos (Pc es X.env)).any (·.1)=Qf:=by rfl) (ht:eval (.Call (.Attribute o m apos) (e::es) [] pos) X.env=(do
   let ov<-eval o X.env
   standAt apos.atName
   let (f,first)<-holding [ov] (getMethod ov m pl)
   callWith pos f first (Rc pos (Pc (e::es) X.env)) (backToKw pos (keywordEach [] X.env))):=by rfl):PE X (.Call (.Attribute o m apos) (e::es) [] pos) (qt C m sp Wf E ta t):=by intro pins s σ H Q I h;refine SU (aA (he _ s σ H _ I h) λu s1 ⟨x,H1,I1,rx,a,dx,fs,ex,ea,l,q⟩=>?_) ht;subst ex;obtain rfl:u=Ph a:=rx;refine D5 I1 ea c hm l ?_;refine Ss I.ok.mod.kin hm.kp (aA (ha _ _ _ σ _ _ I1 q) λus s2 ⟨vs,H2,I2,r,q2⟩=>⟨I2.Vr,?_⟩) U6 Vu;exact vJ (vs:=.ref a::vs) F hr hb hd hx I2 (.cons rfl r) q2
def BO(he:PE X o ta)(c:Vh X.K C)(hm:Meth X.K C m f)(F:Vn X.prog X.w X.K X.mg X.base CX k f fd ps sp)(hr:UU k X.A)(hb:Binds X.K fd ps ds)(hd:Vals Wf ds)(hx:lL CX X E) (ht:eval (.Call (.Attribute o m apos) [] [] pos) X.env=(do
   let ov<-eval o X.env
   standAt apos.atName
   let (f,first)<-holding [ov] (getMethod ov m pl)
   callWith pos f first (Rc pos (Pc [] X.env)) (backToKw pos (keywordEach [] X.env))):=by rfl):PE X (.Call (.Attribute o m apos) [] [] pos) (qt C m sp Wf E ta Aq):=by intro pins s σ H Q I h;refine SU (aA (he _ s σ H _ I h) λu s1 ⟨x,H1,I1,rx,a,dx,fs,ex,ea,l,q⟩=>?_) ht;subst ex;obtain rfl:u=Ph a:=rx;refine D5 I1 ea c hm l ?_;exact PySem.W.callWith_K0 I1.Vr hm.kp (vJ (vs:=[.ref a]) F hr hb hd hx I1 (.cons rfl .nil) q)
structure Mk(K:OQ)(C f:XW):Prop where
 makes:Sh K C=Qt
 init:QF K (.ref C) "__init__"=Qs (Qs (.ref f))
 fn:S5 K (.ref f)=Qt
 kp:Qh K (.ref C)=Qt
def HX{σ:St}(M:Mk X.K C f)(F:Vn X.prog X.w X.K X.mg X.base CX k f fd ps sp)(hr:UU (k+1) X.A)(hb:Binds X.K fd ps ds)(hd:Vals Wf ds) (hx:lL CX X E) (I:Inv X pins σ H s) (r:Vals vs us) (h:∀x dx,H x=Qn->H dx=Qn->dx≠x->sp (.ref x::(vs++Wf)) (upd (upd H dx (.own x)) x (.ins C dx [])) (λv H2=>v=.Uz/\Q (.ref x) H2) E):wpAny (model X.prog X.w) X.A (call (.ref C) us) (EP X pins σ Q) X.xe s:=by
 have hq:=h _ _ (I.UB.fresh (SS _)) (I.UB.fresh (O5 _)) (Py (Qa _));have I2:=Inv.made (C:=C) I;have r2:Vals (V.ref (s.heap.objs.size+1)::(vs++Wf)) _:=.cons rfl (r.append hd);refine wpAny_call (LF I.Vr M.makes M.init (beq_iff_eq.mp M.fn) (codeAny_mono (F.run _ _ _ _ _ _ _ _ E (hr.make C _ _) (I2.zeY.make C _ _) (hb _ _ I2.Vr (by
  have e:=r2.length;rw[F.len _ _ _ _ hq]at e;exact e.symm)) r2 hq) λr s' hq'=>?_))
 cases r with
 |error e=>exact hx _ σ _ _ e _ I2 hq'
 |ok fl=>
  cases fl with
  |ret u=>obtain⟨v,H',I3,rv,ev,q3⟩:=I2.after hq';subst ev;exact⟨rv,⟨V.ref _,H',I3,rfl,q3⟩⟩
  |next=>assumption
  |brk=>assumption
  |cont=>assumption
def J3(M:Mk X.K C f)(F:Vn X.prog X.w X.K X.mg X.base CX k f fd ps sp)(hr:UU (k+1) X.A)(hg:Gl X x)(hm:X.mg x=Qs (.ref C))(hb:Binds X.K fd ps ds)(hd:Vals Wf ds)(hx:lL CX X E) (ha:PA X (e::es) t) (Ws:Vf x:=by decide) (he:Pc (e::es) X.env=(Qf,eval e X.env)::Pc es X.env:=by rfl) (Vu:(Rc pos (Pc es X.env)).any (·.1)=Qf:=by rfl):PE X (.Call (.Name x p) (e::es) [] pos) (G3 C sp Wf E t):=by intro pins s σ H Q I h;refine wpAny_Call_Name_kw (Dj I hg hm ?_ Ws);refine Ss I.ok.mod.kin M.kp (aA (ha _ _ s σ H _ I h) λus s1 ⟨vs,H1,I1,r,q⟩=>⟨I1.Vr,?_⟩) he Vu;exact HX M F hr hb hd hx I1 r q
end
structure U9(N P:List Str)(sc:U0):Prop where
 kind:sc.kind=.function
 co:sc.isCoroutine=Qf
 gen:sc.isGenerator=Qf
 nd:N.Nodup
 pre:N.take P.length=P
 par:∀x∈P,sc.names.lookup x=Qs .local\/sc.names.lookup x=Qs .cell
 zgL:∀y∈sc.names,y.2≠.free
theorem Fv{kindOf:Str->Qo QX}:∀{binds:Ql (Str×Pl)}{m:Str->Qo Pl},(∀v,(x,v)∉binds)->bindL kindOf binds m x=m x
 |[],_,_=>rfl
 |(n,v)::r,m,h=>by
  unfold bindL;rw[Fv λw hw=>h w (OS _ hw)];split
  .grind
  rfl
theorem Fy{kindOf:Str->Qo QX}:∀{binds:Ql (Str×Pl)}{m:Str->Qo Pl},(∀v,(x,v)∉binds)->bindC kindOf binds m x=m x
 |[],_,_=>rfl
 |(n,v)::r,m,h=>by
  unfold bindC;rw[Fy λw hw=>h w (OS _ hw)];split
  .rfl
  .grind
theorem Fw{kindOf:Str->Qo QX}:∀{P:Ql Str}{vs:Ql Pl}{i:Nat}{m:Str->Qo Pl},P.Nodup->P[i]?=Qs x->vs[i]?=Qs v->kindOf x=Qs .local->bindL kindOf (P.zip vs) m x=Qs v
 |[],_,_,_,_,h,_,_=>by simp at h
 |_::_,[],_,_,_,_,h,_=>by simp at h
 |p::P,w::vs,0,m,nd,h1,h2,hk=>by simp at h1 h2;subst h1;subst h2;show bindL _ ((p,w)::P.zip _) m p=_;unfold bindL;rw[Fv λv hv=>(O7.mp nd).1 (RD hv).1,T4 hk];simp
 |p::P,w::vs,i+1,m,nd,h1,h2,hk=>by unfold bindL;exact Fw (O7.mp nd).2 (h1) (h2) hk
theorem Fz{kindOf:Str->Qo QX}:∀{P:Ql Str}{vs:Ql Pl}{i:Nat}{m:Str->Qo Pl},P.Nodup->P[i]?=Qs x->vs[i]?=Qs v->kindOf x≠Qs .local->bindC kindOf (P.zip vs) m x=Qs v
 |[],_,_,_,_,h,_,_=>by simp at h
 |_::_,[],_,_,_,_,h,_=>by simp at h
 |p::P,w::vs,0,m,nd,h1,h2,hk=>by simp at h1 h2;subst h1;subst h2;show bindC _ ((p,w)::P.zip _) m p=_;unfold bindC;rw[Fy λv hv=>(O7.mp nd).1 (RD hv).1,Um hk];simp
 |p::P,w::vs,i+1,m,nd,h1,h2,hk=>by unfold bindC;exact Fz (O7.mp nd).2 (h1) (h2) hk
def start(N:Ql Str)(vs:Ql V):St:=vs.map Qs++Pk (N.length-vs.length) Qn
def fR(CX:lR)(P:Qz)(w:RZ)(K:OQ)(mg:Str->Qo Pl)(base:Wh)(N:Ql Str)(qual:Str)(scope:U0)(f:XW)(cd:Pl)(A:QP)(outer:Ql Env)(s:Pf)(H:Hp)(E:XK):Cx where
 prog:=P
 w:=w
 K:=K
 mg:=mg
 base:=base
 A:=A.deeper (envOfC qual scope s.heap.objs.size f cd)
 N:=N
 s₀:=s
 H₀:=H
 env:=envOfC qual scope s.heap.objs.size f cd
 outer:=outer
 stack:=envOfC qual scope s.heap.objs.size f cd::outer
 ex:=[]
 calm:=Qt
 fn:=λ_=>Qt
 pn:=[]
 xe:=λe s'=>wpAny (model P w) (A.deeper (envOfC qual scope s.heap.objs.size f cd)) (leaving (envOfC qual scope s.heap.objs.size f cd) e) (λ_ s''=>CX outer H s E e s'') (λe' s''=>CX outer H s E e' s'') s'
def Fi{sc:U0}(h:sc.names.lookup x=Qs .cell):∃c,(cellsFrom n sc.names []).lookup x=Qs c:=by exact Option.isSome_iff_exists.mp (SI sc.names n [] (.inl h))
def MG 
  (S:U9 N ps scope) (hd:A.handled=Qn) (e0:ZH P w K mg base A outer s H) (hl:vs.length=ps.length) (r:Vals vs us) (x:InCallC s s.heap.objs.size (bindL (envOfC qual scope s.heap.objs.size f cd).kindOf (ps.zip us) λ_=>Qn) (cellsFrom (s.heap.objs.size+1) scope.names []) (bindC (envOfC qual scope s.heap.objs.size f cd).kindOf (ps.zip us) λ_=>Qn) s1):Inv (fR CX P w K mg base N qual scope f cd A outer s H E) [] (start N vs) H s1:=by
 have Vu:ps.length<=N.length:=by have:=congrArg List.length S.pre;rw[Q0]at this;lia
 obtain⟨h1,tk,rfl,hk⟩:=x.done;have noA:∀b:XW,b∉(fR CX P w K mg base N qual scope f cd A outer s H E).ex:=λb z=>absurd (show b∈([]:Ql XW) from z) (by simp);refine⟨⟨e0.mod,S.kind,rfl,rfl,O5 _,λy z c h1 h2=>?_,λy hy=>?_,λy c _ h=>?_,λ_=>hd,Around.frames_deeper e0.frames,.inr ⟨rfl,rfl⟩,λb z=>absurd z (noA b),e0.bs,e0.XA,λb _ _=>noA b,λb z=>absurd z (noA b),e0.Xa,e0.YE,e0.tabs⟩,rfl,e0.bare,Un.kept hk,⟨_,x.toInCall.ns,λi y v h1 h2 h3=>?_⟩,λy c h=>⟨_,x.cell y c h⟩,e0.UB.fresh (O5 _),λy c h=>?_,λp hp=>absurd (show p∈([]:Ql (XW×Obj)) from hp) (by simp),e0.UB.kept hk,?_⟩
 .exact name_of_addr x.apart (PySem.mem_of_lookup h1) (PySem.mem_of_lookup h2)
 .rcases hy with hy|hy
  .exact Fi hy
  .exact absurd rfl (S.zgL _ (PySem.mem_of_lookup hy))
 .exact Rm (x.above y c (PySem.mem_of_lookup h))
 .have hi:i<vs.length:=by
   unfold start at h2;by_cases hi:i<vs.length
   .assumption
   .rw[PX (by simpa using hi)]at h2;rw[SG]at h2;split at h2<;>cases h2
  have ha:vs[i]?=Qs v:=by
   unfold start at h2;rw[QI (by simpa using hi),Pr]at h2
   simp_all
  obtain⟨u,hu,rv⟩:=r.get ha;have hp:ps[i]?=Qs y:=by rw[<-S.pre,List.getElem?_take_of_lt (by lia)];assumption
  have ndP:ps.Nodup:=by rw[<-S.pre];exact S.nd.sublist (List.take_sublist _ _)
  refine⟨u,rv,?_⟩;rcases S.par y (R7 hp) with k|k
  .exact .inl ⟨k,Fw ndP hp hu k⟩
  .obtain⟨c,e⟩:=Fi (n:=s.heap.objs.size+1) k;refine .inr ⟨.inl k,c,e,?_⟩;have q:=x.cell y c e;rw[Fz ndP hp hu (by show scope.names.lookup y≠_;lia)]at q;assumption
 .exact e0.UB.fresh (Rm (x.above y c (PySem.mem_of_lookup h)))
 .unfold start;show _=N.length
  simp_all
def EB{dV kV doc pm UG ct oc:Pl}(lk:K.lookup f=Qs ⟨oc,od,.func (Qk name qual params body scope dV kV doc pm an UG ct),X2⟩)(UY:Rv K UG qual=Qt)(S:U9 N ps scope) (len:∀vs H Q E,sp vs H Q E->vs.length=ps.length) (WO:∀(A:QP) (outer:Ql Env) (s:Pf) (H:Hp) (vs:Ql V) (Q:VK) (E:XK),UU k (A.deeper (envOfC qual scope s.heap.objs.size f UG))->sp vs H Q E->∃t,UL (fR CX P w K mg base N qual scope f UG A outer s H E) body t/\t {nx:=λ_ H'=>Q .Uz H',rt:=Q} (start N vs) H):Vn P w K mg base CX (k+1) f (Qk name qual params body scope dV kV doc pm an UG ct) ps sp:=by
 refine⟨len,λA outer s H args us vs Q E hr e0 hb r X7=>?_⟩;have KX:=e0.mod.kin.keeps λb o e=>(e0.bs b o e).1;refine codeAny_call_function hr.depth (KX _ _ lk) rfl S.co S.gen rfl (PySem.W.codeRec_of KX UY) (hb _ _ _ _ ?_);refine wpAny_newFunctionEnv_cells S.kind (λ⟨n,v⟩ hy=>by
  rcases S.par n (RD hy).1 with q|q
  .exact .inl q
  .exact .inr ⟨q,SI _ _ _ (.inl q)⟩) λenv he s1 x=>?_
 subst he;refine⟨(e0.mod.nolimit.keeps λb o e=>(e0.bs b o e).1).keeps x.toInCall.keep,codeAny_func ?_⟩;obtain⟨t,ht,hq⟩:=WO A outer s H _ Q E (hr.deeper _) X7;refine wpAny_mono (ht _ _ _ H _ (MG S hr.hd e0 (len _ _ _ _ X7) r x) hq) (λfl s' hs=>?_) λe s' hs=>hs;have fin:∀{σ':St}{H':Hp}{v:V}{u:Pl},Inv (fR CX P w K mg base N qual scope f UG A _ s H E) [] σ' _ s'->RelV v u->Q v _->CE outer P w H s Q u _:=λ{σ' H' v u} J rv q=>⟨v,H',J.os,J.bare,J.base,J.UB,rv,q⟩
 cases fl with
 |ret u=>obtain⟨v,σ',H',J,rv,q⟩:=hs;exact fin J rv q
 |next=>obtain⟨σ',H',J,q⟩:=hs;exact fin (v:=V.Uz) J rfl q
 |brk=>obtain⟨_,_,_,q⟩:=hs;exact False.elim q
 |cont=>obtain⟨_,_,_,q⟩:=hs;exact False.elim q
section
variable {X:Cx}{x:Str}{p:Pos}{e:XY}{es:Ql XY}{t:TA}{id:String}{r:Ql V->Hp->VK->Prop}
def Hh(r:Ql V->Hp->VK->Prop)(t:TA):TE:=λσ H Q=>t σ H λvs H1=>r vs H1 Q
def J7(hc:gq X (.builtin id) r)(hg:Gl X x)(hm:X.mg x=Qn)(hv:bootBuiltins x=Qs (.builtin id))(ha:PA X (e::es) t)(hn:x≠"__name__":=by decide)(Ws:Vf x:=by decide) (he:Pc (e::es) X.env=(Qf,eval e X.env)::Pc es X.env:=by rfl) (Vu:(Rc pos (Pc es X.env)).any (·.1)=Qf:=by rfl):PE X (.Call (.Name x p) (e::es) [] pos) (Hh r t):=by intro pins s σ H Q I h;refine wpAny_Call_Name_kw (hZ I hg hm hv ?_ hn Ws);exact PyProof.Rows.callWith_builtin1 (aA (ha _ _ s σ H _ I h) λus s1 ⟨vs,H1,I1,r1,q1⟩=>hc _ _ σ _ _ _ Q I1 r1 q1) he Vu
end
end L2
namespace HT
section
variable {prog:Qz}{w:RZ}{A:QP}{E:Pl->Pf->Prop}{s:Pf}
def Ww(n d:Nat):Qo Int->Nat
 |none=>d
 |some v=>if v<0 then(v+(n:Int)).toNat else min v.toNat n
theorem zgc(n d:Nat):Ww n d Qn=d:=rfl
theorem zdI(n d k:Nat):Ww n d (Qs (k:Int))=min k n:=rfl
end
end HT
namespace L2
open PySem.Spec
abbrev TO:=St->Hp->(Qo Int->Hp->Prop)->Prop
def PO(X:Cx)(e:Qo XY)(t:TO):Prop:=∀(pins:Ql (XW×Obj)) (s:Pf) (σ:St) (H:Hp) (Q:Qo Int->Hp->Prop),Inv X pins σ H s->t σ H Q->wpAny (model X.prog X.w) X.A (evalPart e X.env) (λu s'=>∃o H',Inv X pins σ H' s'/\IsPart u o/\Q o H') X.xe s
def G1:TO:=λ_ H Q=>Q Qn H
def GW(t:TE):TO:=λσ H Q=>t σ H λx H1=>∃i,x=.int i/\Q (Qs i) H1
def xR:∀{us:Ql Pl},Vals (ns.map V.int) us->IntsAre us ns:=by
 induction ns with
 |nil=>intro us r;cases r;exact .nil
 |cons n ns ih=>
  intro us r;cases r with
  |cons r1 r2=>obtain⟨t,e⟩:=r1;subst e;exact .cons n t (ih r2)
section
variable {X:Cx}{e:XY}{lo hi:Qo XY}{tl th:TO}{p2:Pos}
def By:PO X Qn G1:=by intro pins s σ H Q I h;exact O8 ⟨Qn,H,I,.none,h⟩
def Bx(h:PE X e te):PO X (Qs e) (GW te):=by intro pins s σ H Q I hw;refine aA (h _ s σ H _ I hw) λu s1 ⟨x,H1,I1,r1,q1⟩=>?_;obtain⟨i,rfl,q⟩:=q1;obtain⟨t,rfl⟩:=r1;exact⟨_,H1,I1,.int i t,q⟩
def FJ(X:Cx)(r:V->Qo Int->Qo Int->Hp->VK->Prop):Prop:=∀(pins:Ql (XW×Obj)) (s:Pf) (σ:St) (H:Hp) (x:V) (v vl vu:Pl) (lo hi:Qo Int) (sl:XW) (Q:VK),Inv X pins σ H s->RelV x v->s.heap.IsSliceOf sl vl vu .none->IsPart vl lo->IsPart vu hi->r x lo hi H Q->∃T id,typeLookup (.type T) "__getitem__"=pure (Qs (.builtin id))/\s.TypeIs v T/\wpAny (model X.prog X.w) X.A (getItem v (.ref sl)) (EP X pins σ Q) X.xe s
def GS(r:V->Qo Int->Qo Int->Hp->VK->Prop)(te:TE)(tl th:TO):TE:=λσ H Q=>te σ H λx H1=>tl σ H1 λl H2=>th σ H2 λu H3=>r x l u H3 Q
def BN(hr:FJ X r)(he:PE X e te)(hl:PO X lo tl)(hu:PO X hi th):PE X (.Subscript e (.Slice lo hi Qn p2) pos) (GS r te tl th):=by intro pins s σ H Q I h;refine Subscript_ (aA (he _ s σ H _ I h) λv s1 ⟨x,H1,I1,r1,q1⟩=>?_);refine wpAny_Slice (aA (hl _ _ σ _ _ I1 q1) λvl s2 ⟨l,H2,I2,pl,q2⟩=>aA (hu _ _ σ _ _ I2 q2) λvu s3 ⟨u,H3,I3,pu,q3⟩=>?_);refine O8 ?_;obtain⟨T,id,hT,ht,hg⟩:=hr _ _ σ _ x v _ _ l u _ Q (I3.kept (t':=s3.toks) λb ob q=>OV _ q) r1 (Heap.IsSliceOf.new ..) pl pu q3;exact tail_any ht hT hg (rfl)
def lH(xs:Ql V)(lo hi:Qo Int):Ql V:=(xs.drop (HT.Ww xs.length 0 lo)).take (HT.Ww xs.length xs.length hi-HT.Ww xs.length 0 lo)
def NM(xs:Ql V)(lo hi:Qo Int):(lH xs lo hi).length<=xs.length:=by unfold lH;rw[Q0,Rw];lia
end
noncomputable def Vt(n:Nat)(i:Int):Qo Nat:=if 0<=i then(if i<n then Qs i.toNat else Qn) else if-(n:Int)<=i then Qs (i+n).toNat else Qn
def U2{α:Type}(xs:Ql α)(i:Int):Qo α:=(Vt xs.length i).bind λj=>xs[j]?
def DG(h:Vt n i=Qs j):seqIndex? i n=Qs j/\j<n/\-(n:Int)<=i/\i<n:=by
 unfold Vt at h;by_cases h0:0<=i
 .rw[T4 h0]at h;by_cases h1:i<n
  .rw[T4 h1]at h;have e:=Qp h;exact⟨by rw[seqIndex_of h0 h1,e],by lia,by lia,h1⟩
  .rw[Um h1]at h;cases h
 .rw[Um h0]at h;by_cases h1:-(n:Int)<=i
  .rw[T4 h1]at h;have e:=Qp h;exact⟨by rw[seqIndex_neg (by lia) h1,e],by lia,h1,by lia⟩
  .rw[Um h1]at h;cases h
def zl(h:U2 xs i=Qs v):∃j,seqIndex? i xs.length=Qs j/\xs[j]?=Qs v/\j<xs.length/\-(xs.length:Int)<=i/\i<xs.length:=by
 unfold U2 at h;rcases e:Vt _ i with _|j
 .rw[e]at h;cases h
 rw[e]at h;obtain⟨h1,h2,h3,h4⟩:=DG e;exact⟨j,h1,h,h2,h3,h4⟩
def pL(b:XY):Prop:=∀o i,subscripted b Qf o i=operate [o,i] (getItem o i)
def ZF(X:Cx)(r:R2):Prop:=∀(value slice:XY) (pins:Ql (XW×Obj)) (s:Pf) (σ:St) (H:Hp) (x y:V) (v u:Pl) (Q:VK),Inv X pins σ H s->RelV x v->RelV y u->r x y H Q->subscripted slice Qf v u=operate [v,u] (getItem v u)->wpAny (model X.prog X.w) X.A (subscriptTail value slice v u) (EP X pins σ Q) X.xe s
def FN(X:Cx)(id:String)(r:V->Ql V->Hp->VK->Prop):Prop:=∀(pins:Ql (XW×Obj)) (s:Pf) (σ:St) (H:Hp) (x:V) (xs:Ql V) (v:Pl) (us:Ql Pl) (Q:VK),Inv X pins σ H s->RelV x v->Vals xs us->r x xs H Q->wpAny (model X.prog X.w) X.A (call (.builtin id) (v::us)) (EP X pins σ Q) X.xe s
section
variable {X:Cx}{a b:XY}{ta tb:TE}
def ZF.or(h:ZF X r)(h':ZF X r'):ZF X (λx y H Q=>r x y H Q\/r' x y H Q):=by
 intro value slice pins s σ H x y v u Q I rx ry q hs;rcases q with q|q
 .exact h _ _ _ s σ H x y v u Q I rx ry q hs
 .exact h' _ _ _ s σ H x y v u Q I rx ry q hs
def rH(hr:ZF X r)(ha:PE X a ta)(hb:PE X b tb)(hs:pL b):PE X (.Subscript a b pos) (G0 r ta tb):=by intro pins s σ H Q I h;exact Subscript_ (Ov ha hb I h λv u s2 x y H2 I2 rx ry q=>hr a b _ _ σ _ x y v u Q I2 rx ry q (hs _ _))
def vR(K:OQ):R2:=λx y H Q=>∃p xs i v,x=.ref p/\y=.int i/\Ux K H p xs/\U2 xs i=Qs v/\Q v H
def AV(K:OQ):R2:=λx y H Q=>∃p xs i v,x=.ref p/\y=.int i/\UJ K H p xs/\U2 xs i=Qs v/\Q v H
def zbn:ZF X (vR X.K):=by
 intro value slice pins s σ H x y v u Q I rx ry h hs;obtain⟨p,xs,i,z,rfl,rfl,hq,he,q⟩:=h;cases rx;obtain⟨t,rfl⟩:=ry;obtain⟨T5,r,pl,hz⟩:=I.list hq;obtain⟨j,h1,h2,h3,h4,h5⟩:=zl he;obtain⟨w,ew,Xs⟩:=r.get h2;have hl:=r.length;have hn:=mC;have fin:EP X pins σ Q w s:=⟨z,H,I,Xs,q⟩;by_cases h0:0<=i
 .have hj:=by rw[seqIndex_of h0 h5]at h1;exact Qp h1
  exact item_listR pl.isList h0 (by lia) (by rw[hj];simpa using ew) fin hs
 .have hj:(i+T5.toArray.size).toNat=j:=by
   rw[seqIndex_neg (by lia) h4]at h1
   simp_all
  exact subscriptTail_builtinR pl.isList.typeIs slot_list_getitem.lookup (wpAny_getItem_list_neg pl.isList (by lia) (by rw[Pg]<;>lia) (by lia) (by rw[hj];simpa using ew) ⟨rfl,fin⟩) hs
def xK:ZF X (AV X.K):=by
 intro value slice pins s σ H x y v u Q I rx ry h hs;obtain⟨p,xs,i,z,rfl,rfl,hq,he,q⟩:=h;cases rx;obtain⟨t,rfl⟩:=ry;obtain⟨T5,r,pl,hz⟩:=I.tuple hq;obtain⟨j,h1,h2,h3,h4,h5⟩:=zl he;obtain⟨w,ew,Xs⟩:=r.get h2;have hn:=mC;exact subscriptTail_builtinR pl.typeIs slot_tuple_getitem.lookup (getItem_tuple pl (by lia) (by lia) (by rw[Pg,<-r.length];assumption) (by simpa using ew) ⟨rfl,(⟨z,H,I,Xs,q⟩)⟩) hs
def LC(T5:Ql Pl)(n j:Nat)(u:Pl):Obj.mapSeq (·.setIfInBounds j u) { cls:=.type "list",data:=.seq T5.toArray n }={ cls:=.type "list",data:=.seq (T5.set j u).toArray n }:=by simp[Obj.mapSeq]
theorem Inv.lst{σ:St}{H:Hp}{s:Pf}{p:XW}{xs:Ql V}(I:Inv X pins σ H s)(h:H p=Qs (.lst xs)):∃(T5:Ql Pl) (n:Nat),Vals xs T5/\s.heap.get? p=Qs {cls:=.type "list",data:=.seq T5.toArray n}/\xs.length<=PD:=by obtain⟨z,T5,n,r,e⟩:=I.UB p _ h;exact⟨T5,n,r,e,z⟩
def Inv.zha{σ:St}{T5 VM:Ql Pl}(I:Inv X pins σ H s)(h:H p=Qs (.lst xs))
  (ho:s.heap.get? p=Qs { cls:=.type "list",data:=.seq T5.toArray n }) (hf:f { cls:=.type "list",data:=.seq T5.toArray n }={ cls:=.type "list",data:=.seq VM.toArray n' }) (r:Vals ys VM) (hz:ys.length<=PD) (t:Nat) :Inv X pins σ (upd H p (.lst ys)) { s with heap:=s.heap.update p f,toks:=t }:=by
 have e:(s.heap.update p f).get? p=Qs { cls:=.type "list",data:=.seq VM.toArray n' }:=by rw[RQ f ho (by rw[hf]<;>rfl),hf]
 refine I.write (by rw[h];trivial) (.inl rfl) (λb u hb q=>(Pz _ _ (Ne.symm hb)).trans q) ⟨_,e⟩ ?_;exact⟨hz,VM,n',r,e⟩
def Iu:V->V->V->Hp->(Hp->Prop)->Prop:=λo i v H Q=>∃p xs k j,o=.ref p/\i=.int k/\H p=Qs (.lst xs)/\Vt xs.length k=Qs j/\Q (upd H p (.lst (xs.set j v)))
def qI:uf X Iu:=by
 intro pins s σ H o i v ov iv u Q I ro ri rv h;obtain⟨p,xs,k,j,rfl,rfl,hp,hj,q⟩:=h;cases ro;obtain⟨t,rfl⟩:=ri;obtain⟨T5,n,r,ho,hz⟩:=I.lst hp;obtain⟨h1,h2,h3,h4⟩:=DG hj;have hl:=r.length;have hn:=mC;have I':Inv X pins σ (upd H p (.lst (xs.set j v))) { s with heap:=s.heap.update p (Obj.mapSeq (·.setIfInBounds j u)) } :=I.zha hp ho (LC T5 n j u) (r.set rv j) (by rw[Ri];assumption) s.toks
 by_cases h0:0<=k
 .have hk:=by rw[seqIndex_of h0 h4]at h1;exact Qp h1
  exact PySem.W.ki_setAt ho h0 (by lia) (by rw[Pg, <-hl];assumption) (by rw[hk];exact⟨_,I',q⟩)
 .have hk:(k+T5.toArray.size).toNat=j:=by
   rw[seqIndex_neg (by lia) h3]at h1
   simp_all
  exact PySem.W.ki_setBack ho (by lia) (by rw[Pg, <-hl];assumption) (by lia) (by rw[hk];exact⟨_,I',q⟩)
def HD(lo hi:Qo Int)(n:Nat):(sliceBounds lo hi Qn n).1=((HT.Ww n 0 lo:Nat):Int)/\(sliceBounds lo hi Qn n).2.1=((HT.Ww n n hi:Nat):Int)/\(sliceBounds lo hi Qn n).2.2=1:=by
 refine⟨?_,?_,rfl⟩
 .cases lo with
  |none=>rfl
  |some i=>simp only[sliceBounds,HT.Ww,T8,show 1>0 by decide,if_true];lia
 .cases hi with
  |none=>rfl
  |some i=>simp only[sliceBounds,HT.Ww,T8,show 1>0 by decide,if_true];lia
def HE(T5:Ql Pl)(lo hi:Qo Int):slicePick T5.toArray lo hi Qn=((T5.drop (HT.Ww T5.length 0 lo)).take (HT.Ww T5.length T5.length hi-HT.Ww T5.length 0 lo)).toArray:=by obtain⟨h1,h2,h3⟩:=HD lo hi T5.toArray.size;unfold slicePick;rw[h1,h2,h3];simp only[sliceRange_one,pick_run,Pg]<;>rfl
def Iq(K:OQ):V->Qo Int->Qo Int->Hp->VK->Prop:=λx lo hi H Q=>∃a xs,x=.ref a/\Ux K H a xs/\∀p,H p=Qn->Q (.ref p) (upd H p (.lst (lH xs lo hi)))
def AE:FJ X (Iq X.K):=by intro pins s σ H x v vl vu lo hi sl Q I rx hs pl pu h;obtain⟨a,xs,rfl,hx,q⟩:=h;cases rx;obtain⟨T5,r,ht,hz⟩:=I.list hx;have hlen:=r.length;refine⟨_,_,slot_list_getitem.lookup,ht.isList.typeIs,?_⟩;refine wpAny_getItem_list_slice ht.isList hs pl pu .none (by simp) ?_ (by rw[Pg]<;>lia);rw[HE,<-hlen];refine⟨.ref _,_,I.laid (λb ob q=>OV _ q) (O5 _) ?_,rfl,q _ (I.UB.fresh (O5 _))⟩;exact⟨PJ (NM _ _ _) hz,_,0,(r.drop _).take _,Pb _ rfl⟩
def dk:V->Bool
 |.Uz=>Qt
 |.bl _=>Qt
 |.int _=>Qt
 |.str _=>Qt
 |_=>Qf
noncomputable def fP(x y:V):Bool:=match x with
 |.Uz=>(match y with|.Uz=>Qt|_=>Qf)
 |.bl a=>(match y with|.bl b=>a==b|.int b=>(if a then 1 else 0)==b|_=>Qf)
 |.int a=>(match y with|.bl b=>a==(if b then 1 else 0)|.int b=>a==b|_=>Qf)
 |.str a=>(match y with|.str b=>a==b|_=>Qf)
 |_=>Qf
def yu(ry:RelV y u)(rx:RelV x v)(fy:dk y=Qt)(fx:dk x=Qt):SeqAt.EqAt A s u v (fP y x):=by
 cases y with
 |Uz=>
  cases ry;cases x with
  |Uz=>cases rx;exact SeqAt.EqAt.same _
  |bl b=>cases rx;exact SeqAt.EqAt.none_bool b
  |int b=>obtain⟨t,rfl⟩:=rx;exact SeqAt.EqAt.none_int b t
  |str b=>obtain⟨t,rfl⟩:=rx;exact SeqAt.EqAt.none_str b t
  |_=>exact absurd (fx) O3
 |bl a=>
  cases ry;cases x with
  |Uz=>cases rx;exact SeqAt.EqAt.bool_none a
  |bl b=>cases rx;exact SeqAt.EqAt.bool_bool a b
  |int b=>obtain⟨t,rfl⟩:=rx;exact SeqAt.EqAt.bool_int a b t
  |str b=>obtain⟨t,rfl⟩:=rx;exact SeqAt.EqAt.bool_str a b t
  |_=>exact absurd (fx) O3
 |int a=>
  obtain⟨t',rfl⟩:=ry;cases x with
  |Uz=>cases rx;exact SeqAt.EqAt.int_none a _
  |bl b=>cases rx;exact SeqAt.EqAt.int_bool a _ b
  |int b=>obtain⟨t,rfl⟩:=rx;exact SeqAt.EqAt.int_int a _ b t
  |str b=>obtain⟨t,rfl⟩:=rx;exact SeqAt.EqAt.int_str a _ b t
  |_=>exact absurd (fx) O3
 |str a=>
  obtain⟨t',rfl⟩:=ry;cases x with
  |Uz=>cases rx;exact SeqAt.EqAt.str_none a _
  |bl b=>cases rx;exact SeqAt.EqAt.str_bool a _ b
  |int b=>obtain⟨t,rfl⟩:=rx;exact SeqAt.EqAt.str_int a _ b t
  |str b=>obtain⟨t,rfl⟩:=rx;exact SeqAt.EqAt.str_str a _ b t
  |_=>exact absurd (fx) O3
 |_=>exact absurd (fy) O3
def lq(x:V)(u:Pl):Bool:=match u with
 |.none=>fP .Uz x
 |.bool b=>fP (.bl b) x
 |.int i _=>fP (.int i) x
 |.str z _=>fP (.str z) x
 |_=>Qf
def EK(r:RelV y u)(f:dk y=Qt):lq x u=fP y x:=by
 cases y with
 |Uz=>cases r;rfl
 |bl b=>cases r;rfl
 |int i=>obtain⟨t,rfl⟩:=r;rfl
 |str z=>obtain⟨t,rfl⟩:=r;rfl
 |_=>exact absurd (f) O3
theorem pG:∀{xs:Ql V}{us:Ql Pl},Vals xs us->xs.all dk=Qt->us.any (lq x)=xs.any λy=>fP y x
 |_,_,.nil,_=>rfl
 |y::xs,u::us,.cons r t,f=>by rw[QA,O6]at f;rw[Rp,Rp,EK r f.1,pG t f.2]
theorem oq(rx:RelV x v)(fx:dk x=Qt):∀{xs:Ql V}{us:Ql Pl},Vals xs us->xs.all dk=Qt->∀u∈us,SeqAt.EqAt A s u v (lq x u)
 |_,_,.nil,_=>λu hu=>by cases hu
 |y::xs,u::us,.cons r t,f=>λu' hu=>by
  rw[QA,O6]at f;rcases OZ.mp hu with rfl|hu
  .rw[EK r f.1];exact yu r rx f.1 fx
  .exact oq rx fx t f.2 _ hu
def jf(x:V)(xs:Ql V):Bool:=xs.any λy=>fP y x
def AW(K:OQ)(neg:Bool):R2:=λx y H Q=>∃p xs,y=.ref p/\(Ux K H p xs\/UJ K H p xs)/\dk x=Qt/\xs.all dk=Qt/\Q (.bl (if neg then !jf x xs else jf x xs)) H
def BZ:dJ X (compareOp .In) (AW X.K Qf):=by
 intro pins s σ H x y v u Q I rx ry h;obtain⟨p,xs,rfl,hq,fx,fs,q⟩:=h;cases ry;rcases hq with hq|hq
 .obtain⟨T5,r,pl,hz⟩:=I.list hq;refine SeqAt.in_listAt _ pl.isList (λw hw=>oq rx fx r fs w (by simpa using hw)) ⟨.bl _,H,I,rfl,?_⟩;rw[show T5.toArray.any _=T5.any (lq x) by simp,pG r fs];assumption
 .obtain⟨T5,r,pl,hz⟩:=I.tuple hq;refine SeqAt.in_tupleAt _ pl (λw hw=>oq rx fx r fs w (by simpa using hw)) ⟨.bl _,H,I,rfl,?_⟩;rw[show T5.toArray.any _=T5.any (lq x) by simp,pG r fs];assumption
def BY:dJ X (compareOp .NotIn) (AW X.K Qt):=by
 intro pins s σ H x y v u Q I rx ry h;obtain⟨p,xs,rfl,hq,fx,fs,q⟩:=h;cases ry;rcases hq with hq|hq
 .obtain⟨T5,r,pl,hz⟩:=I.list hq;refine SeqAt.notIn_listAt _ pl.isList (λw hw=>oq rx fx r fs w (by simpa using hw)) ⟨.bl _,H,I,rfl,?_⟩;rw[show T5.toArray.any _=T5.any (lq x) by simp,pG r fs];assumption
 .obtain⟨T5,r,pl,hz⟩:=I.tuple hq;refine SeqAt.notIn_tupleAt _ pl (λw hw=>oq rx fx r fs w (by simpa using hw)) ⟨.bl _,H,I,rfl,?_⟩;rw[show T5.toArray.any _=T5.any (lq x) by simp,pG r fs];assumption
def Oe:gq X (.builtin "len") (λxs H Q=>∃p ys,xs=[.ref p]/\(Ux X.K H p ys\/UJ X.K H p ys)/\Q (.int ys.length) H):=by
 intro pins s σ H xs us Q I r h;obtain⟨p,ys,rfl,hq,q⟩:=h;obtain⟨u,rfl,rx⟩:=lU r;cases rx;have hn:=mC;rcases hq with hq|hq
 .obtain⟨T5,r',pl,hz⟩:=I.list hq;have hlen:=r'.length;exact Calls.call_len_list pl.isList (by simp<;>lia) ⟨.int _,H,I.tok _,⟨_,by rw[Pg,hlen]⟩,q⟩
 .obtain⟨T5,r',pl,hz⟩:=I.tuple hq;have hlen:=r'.length;exact len_tuple pl (by simp<;>lia) ⟨.int _,H,I.tok _,⟨_,by rw[Pg,hlen]⟩,q⟩
def Od:gq X (.type "list") (λxs H Q => ∃p ys,xs=[.ref p]/\(Ux X.K H p ys\/UJ X.K H p ys)/\∀l,H l=Qn->Q (.ref l) (upd H l (.lst ys))):=by
 intro pins s σ H xs us Q I r h;obtain⟨p,ys,rfl,hq,q⟩:=h;obtain⟨u,rfl,rx⟩:=lU r;cases rx;have fin:∀(T5:Ql Pl),Vals ys T5->ys.length<=PD->∀(h':XX) (c':Nat),(∀b o',s.heap.get? b=Qs o'->h'.get? b=Qs o') ->h'.get? s.heap.objs.size=Qs { cls:=.type "list",dict:=Qn,data:=.seq T5.toArray c',slots := #[] }->EP X pins σ Q (.ref s.heap.objs.size) { s with heap:=h' }:=λT5 r' hz h' c' kp e =>
  ⟨.ref s.heap.objs.size,_,I.laid (t':=s.toks) kp (O5 _) (show VQ X.prog X.w _ h' _ (.lst ys) from⟨hz,T5,c',r',e⟩),rfl,q _ (I.UB.fresh (O5 _))⟩
 rcases hq with hq | hq
 .obtain⟨T5,r',pl,hz⟩:=I.list hq;have hlen:=r'.length;obtain⟨o,ho,hc,n,hd⟩:=pl.isList;exact call_list_seq p (.inl rfl) ho hc hd (λh' c' kp e=>fin _ r' hz _ _ kp e) (by simp_all)
 .obtain⟨T5,r',pl,hz⟩:=I.tuple hq;have hlen:=r'.length;obtain⟨o,ho,hc,n,hd⟩:=pl;exact call_list_seq p (.inr rfl) ho hc hd (λh' c' kp e=>fin _ r' hz _ _ kp e) (by simp_all)
def uB(K:OQ)(T:String)(x:V)(H:Hp):Prop:=match x with
 |.str _=>T= "str"
 |.int _=>T= "int"
 |.ref p=>(T= "list"/\∃xs,Ux K H p xs)\/(T= "tuple"/\∃o,K.lookup p=Qs o/\o.cls=.type "tuple"/\o.dict=Qn) \/ (T= "dict"/\((∃UA,H p=Qs (.dK UA))\/∃UA,H p=Qs (.dT UA)))\/(T= "set"/\∃S n,H p=Qs (.set S n))
 |_=>False
def Ae{σ:St}(I:Inv X pins σ H s)(r:RelV x v)(ty:uB X.K T x H):s.TypeIs v T/\∀a,v=.ref a->∃ob,s.heap.get? a=Qs ob/\ob.dict=Qn:=by
 cases x with
 |str z=>obtain⟨t,rfl⟩:=r;cases(ty);exact⟨typeIs_str s z t,λ_ e=>nomatch e⟩
 |int i=>obtain⟨t,rfl⟩:=r;cases(ty);exact⟨typeIs_int s i t,λ_ e=>nomatch e⟩
 |ref p=>
  cases r;rcases ty with⟨rfl,xs,hq⟩|⟨rfl,o,hk,hc,hd⟩|⟨rfl,hk⟩|⟨rfl,S,n,hk⟩
  .obtain⟨T5,_,pl,_⟩:=I.list hq;refine⟨pl.isList.typeIs,λa e=>?_⟩;cases e;obtain⟨o,n,e,c,hd,_⟩:=pl;exact⟨o,e,hd⟩
  .refine⟨⟨o,I.Vr p o hk,hc⟩,λa e=>?_⟩;cases e;exact⟨o,I.Vr _ o hk,hd⟩
  .have z:∃o,s.heap.get? p=Qs o/\o.ExactDict:=by
    rcases hk with⟨UA,hk⟩|⟨UA,hk⟩
    .obtain⟨_,_,_,_,o,_,_,e,ex,_⟩:=I.UB p _ hk;exact⟨o,e,ex⟩
    .obtain⟨_,_,_,_,o,_,_,e,ex,_⟩:=I.UB p _ hk;exact⟨o,e,ex⟩
   obtain⟨o,e,ex⟩:=z;refine⟨⟨o,e,ex.1⟩,λa e2=>?_⟩;cases e2;exact⟨o,e,ex.2.1⟩
  .obtain⟨o,_,_,_,e,ex,_⟩:=I.UB p _ hk;refine⟨⟨o,e,ex.1⟩,λa e2=>?_⟩;cases e2;exact⟨o,e,ex.2.1⟩
 |_=>exact False.elim ty
def Hj(K:OQ)(T:String)(r:V->Ql V->Hp->VK->Prop)(to:TE):TE:=λσ H Q=>to σ H λx H1=>uB K T x H1/\r x [] H1 Q
def Hk(K:OQ)(T:String)(r:V->Ql V->Hp->VK->Prop)(to:TE)(t:TA):TE:=λσ H Q=>to σ H λx H1=>uB K T x H1/\t σ H1 λxs H2=>r x xs H2 Q
variable {o e:XY}{es:Ql XY}{to:TE}{t:TA}{id:String}{r:V->Ql V->Hp->VK->Prop}
def BS(pa:PlainAttrs T)(slot:Slot T name id)(hty:typeOf (.builtin id)=pure (.type "method_descriptor"))(hm:FN X id r)(ho:PE X o to) (WQ:attributeBase o name X.env (eval o X.env)=eval o X.env:=by rfl) (WM:(apos.endLine==UR.line)=Qt:=by rfl):PE X (.Call (.Attribute o name apos) [] [] UR) (Hj X.K T r to):=by intro pins s σ H Q I h;refine wpAny_Call_method0_late WQ WM (aA (ho _ s σ H _ I h) λv s1 ⟨x,H1,I1,r1,ty,q1⟩=>?_);obtain⟨h1,h2⟩:=Ae I1 r1 ty;exact⟨T,id,pa,slot,hty,h1,h2,Calls.callWith_builtin rfl (PySem.evalArgs_none (hm _ _ σ _ x _ v _ Q I1 r1 .nil q1))⟩
def rL(pa:PlainAttrs T)(slot:Slot T name id)(hty:typeOf (.builtin id)=pure (.type "method_descriptor"))(hm:FN X id r)(ho:PE X o to)(ha:PA X (e::es) t) (WQ:attributeBase o name X.env (eval o X.env)=eval o X.env:=by rfl) (Yz:((Rc UR (Pc (e::es) X.env)).all (λx=>!x.1)&&(backToKw UR (keywordEach [] X.env)).all (λx=>x.1.isSome)
   && decide ((e::es).length+([]:Ql Tg).length+(if([]:Ql Tg).isEmpty then 0 else 1)<30))=Qt:=by rfl) (WM:(apos.endLine==UR.line)=Qt:=by rfl) (hs:Pc (e::es) X.env=(Qf,eval e X.env)::Pc es X.env:=by rfl) (X9:(Rc UR (Pc es X.env)).any (·.1)=Qf:=by rfl):PE X (.Call (.Attribute o name apos) (e::es) [] UR) (Hk X.K T r to t):=by intro pins s σ H Q I h;refine wpAny_Call_method_late WQ Yz WM rfl (aA (ho _ s σ H _ I h) λv s1 ⟨x,H1,I1,r1,ty,q1⟩=>?_);obtain⟨h1,h2⟩:=Ae I1 r1 ty;refine⟨T,id,pa,slot,hty,h1,h2,?_⟩;have hA:=ha UR _ _ σ _ _ I1 q1;rw[hs]at hA ⊢;refine Calls.callWith_builtin (‹_›) (Calls.evalArgs_plain ?_);exact aA hA λus s2 ⟨vs,H2,I2,r2,q2⟩=>hm _ _ σ _ x _ v _ Q I2 r1 r2 q2
end
def FO(X:Cx)(id:String)(r:V->Ql V->Hp->VK->Prop):Prop:=∀(pins:Ql (XW×Obj)) (s:Pf) (σ:St) (H:Hp) (x:V) (xs:Ql V) (v:Pl) (us:Ql Pl) (Q:VK),Inv X pins σ H s->RelV x v->Vals xs us->r x xs H Q->wpAny (model X.prog X.w) X.A (call (.builtin id) (v::us)) (EP X pins σ Q) X.xe s
def Vals.one:∀{x:V}{us:Ql Pl},Vals [x] us->∃u,us=[u]/\RelV x u
 |_,_,.cons r .nil=>⟨_,rfl,r⟩
def Vals.two:∀{x y:V}{us:Ql Pl},Vals [x,y] us->∃u v,us=[u,v]/\RelV x u/\RelV y v
 |_,_,_,.cons r (.cons q .nil)=>⟨_,_,rfl,r,q⟩
def Vals.zero:∀{us:Ql Pl},Vals [] us->us=[]
 |_,.nil=>rfl
theorem Vals.reverse(h:Vals xs us):Vals xs.reverse us.reverse:=by
 induction h with
 |nil=>exact .nil
 |cons r t ih=>rw[RK,RK];exact Vals.append ih (.cons r .nil)
theorem Vals.rep(h:Vals xs us):∀k:Nat,Vals (Pk k xs).flatten (Pk k us).flatten
 |0=>.nil
 |k+1=>by exact Vals.append h (Vals.rep h k)
theorem EA(T5:Ql Pl):∀(k:Nat) (acc:Ql Pl),Wx (λx1 x2=>x1++x2) acc.toArray (Pk k T5.toArray)=(acc++(Pk k T5).flatten).toArray
 |0,acc=>by simp
 |k+1,acc=>by
  have e:acc.toArray++T5.toArray=(acc++T5).toArray:=by simp
  have e2:(acc++T5)++(Pk k T5).flatten=acc++(Pk (k+1) T5).flatten:=by rw[Se,List.flatten_cons,PZ]
  rw[<-e2,<-EA _ k _,<-e,Se,RE]
section
variable {X:Cx}{pins:Ql (XW×Obj)}{σ:St}{s:Pf}{l b:XW}{xs ys zs:Ql V}
def Inv.zed{T5 VM:Ql Pl}(I:Inv X pins σ H s)(hH:H l=Qs (.lst xs))
  (e:s.heap.get? l=Qs { cls:=.type "list",data:=.seq T5.toArray n }) (hf:f T5.toArray=VM.toArray) (hv:Vals ys VM) (hz:ys.length<=PD) :Inv X pins σ (upd H l (.lst ys)) { s with heap:=s.heap.update l (Obj.mapSeq f),toks:=t' }:=by have q:=PySem.IsL.update e f;rw[hf]at q;refine I.write (by rw[hH];exact trivial) (.inl rfl) (λb' u hb hu=>(Pz _ _ (Ne.symm hb)).trans hu) ⟨_,q⟩ ?_;exact⟨hz,VM,_,hv,q⟩
def Inv.zcn(I:Inv X pins σ H s)(hv:Vals ys T5)(hz:ys.length<=PD) :Inv X pins σ (upd H s.heap.objs.size (.lst ys)) { s with heap:=s.heap.push { cls:=.type "list",data:=.seq T5.toArray },toks:=t' } :=I.laid (λ_ _ q=>OV _ q) (O5 _) ⟨hz,T5,0,hv,Pb _ rfl⟩
theorem Inv.fresh(I:Inv X pins σ H s):H s.heap.objs.size=Qn:=I.UB.fresh (O5 _)
def Inv.zcl(I:Inv X pins σ H s)(hH:H l=Qs (.lst xs)):xs.length<=PD/\∃(T5:Ql Pl) (n:Nat),Vals xs T5/\xs.length=T5.length/\s.heap.get? l=Qs {cls:=.type "list",data:=.seq T5.toArray n}:=by obtain⟨z,T5,n,r,e⟩:=I.UB l _ hH;exact⟨z,T5,n,r,r.length,e⟩
def Li(h:n<=PD):Builtin.List.listTooLong n=Qf:=by exact VN (by lia)
end
section
variable {X:Cx}
def IA:V->Ql V->Hp->VK->Prop:=λx vs H Q=>∃l xs y,x=.ref l/\vs=[y]/\H l=Qs (.lst xs)/\xs.length<PD/\Q .Uz (upd H l (.lst (xs++[y])))
def oh:FO X "list.append" IA:=by intro pins s σ H x vs v us Q I rx rv h;obtain⟨l,xs,y,rfl,rfl,hH,hz,q⟩:=h;cases rx;obtain⟨u,rfl,ru⟩:=rv.one;obtain⟨z,T5,n,r,hl,e⟩:=I.zcl hH;refine call_meets QM ⟨_,e,rfl⟩ PySem.F.entry_list_append (PySem.F.args_list_append_2 _ _) (PySem.list_append l _ n u (by rw[Pg];lia)) ⟨e,?_⟩;refine⟨.Uz,_,I.zed hH e (by simp) (r.append (.cons ru .nil)) ?_,rfl,q⟩;rw[Pq,P8];assumption
def Iz:V->Ql V->Hp->VK->Prop:=λx vs H Q=>∃l xs,x=.ref l/\vs=[]/\H l=Qs (.lst xs)/\Q .Uz (upd H l (.lst []))
def Cz:FO X "list.clear" Iz:=by intro pins s σ H x vs v us Q I rx rv h;obtain⟨l,xs,rfl,rfl,hH,q⟩:=h;cases rx;have hus:=rv.zero;subst hus;obtain⟨z,T5,n,r,hl,e⟩:=I.zcl hH;refine call_meets Rz ⟨_,e,rfl⟩ PySem.F.entry_list_clear (PySem.F.args_list_clear_1 _) (AutoSeq1.list_clear_list_0 l _ n (by rw[Pg];lia)) ⟨e,?_⟩;exact⟨.Uz,_,I.zed hH e rfl .nil (QR _),rfl,q⟩
def Iv:R2:=λx y H Q=>∃l k xs,x=.ref l/\y=.int k/\H l=Qs (.lst xs)/\-(2^63)<=k/\k<2^63/\xs.length*k.toNat<=PD/\∀p,H p=Qn->Q (.ref p) (upd H p (.lst (Pk k.toNat xs).flatten))
def LZ{α:Type}(xs:Ql α)(k:Nat):(Pk k xs).flatten.length=k*xs.length:=by simp
def Ke:dJ X (binaryOp .Mult) Iv:=by
 intro pins s σ H x y v u Q I rx ry h;obtain⟨l,k,xs,rfl,rfl,hH,h1,h2,hz,q⟩:=h;cases rx;obtain⟨t,rfl⟩:=ry;obtain⟨z,T5,n,r,hl,e⟩:=I.zcl hH;have hlen:T5.toArray.size*k.toNat<=PD:=by rw[Pg,<-hl];assumption
 have zhY:Wx (λx1 x2=>x1++x2) #[] (Pk (if T5.toArray.isEmpty=Qt then 0 else k.toNat) T5.toArray)=(Pk k.toNat T5).flatten.toArray:=by
  have f0:=λm=>by have:=EA T5 m [];assumption
  rw[f0];cases T5 with
  |nil=>simp
  |cons a r'=>rfl
 refine wpAny_binaryOp_repeat_ref (rfl) ⟨_,e,rfl⟩ (λs'=>typeIs_int _ k t) noFill_list_mul PySem.F.fills_int_mul SV repeat_list PySem.F.slot_int_index.lookup (call_meets SV (typeIs_int s k t) PySem.F.entry_int_rmul (PySem.F.args_int_rmul_2 _ _) (int___rmul___int_list k t l _ n)
   ⟨e,rfl,⟨_,e,rfl⟩,call_meets PySem.F.slot_list_mul ⟨_,e,rfl⟩ PySem.F.entry_list_mul (PySem.F.args_list_mul_2 _ _) (AutoListH.list___mul___list_int_3 l _ n k t (by
  rw[fitsIndex_both h1 h2];lia) (by
  have:PD<=(2^63-1)/8:=by decide
  lia) (by
  rw[Li hlen];simp)) ⟨e,?_⟩⟩)
 rw[zhY];exact⟨.ref _,_,I.zcn (r.rep _) (by rw[LZ,T9];assumption),rfl,q _ I.fresh⟩
end
end L2
namespace Att
open PySem.W PySem.Calls
theorem MH:∀(ns:Ql Int) (vs:Ql Pl),WellAll P h vs (ns.map WData.int)->IntsAre vs ns:=by
 intro ns
 induction ns with
 |nil=>intro vs w;cases w;exact .nil
 |cons n ns ih=>
  intro vs w;cases w with
  |cons a b=>cases a;exact .cons _ _ (ih _ b)
theorem zga{l:OpenLaw}(hn:l.most=Qs n) (zbs:l.row.toRowW.claim.pre args=Qt) (ZW:WellAll P h vals args):∃a vs ns,vals=[Ph a]/\args=[WData.list (ns.map WData.int)]/\h.get? a=Qs {cls:=.type "list",data:=.seq vs.toArray}/\IntsAre vs ns/\ns.length<=n:=by
 have hc:=(pre_splitW zbs).2;obtain⟨d,r,rfl,h1,h2⟩:=hasAllW_cons ((pre_splitW zbs).1);obtain rfl:=hasAllW_nil h2;obtain⟨xs,rfl,h3⟩:=hasW_list h1;obtain⟨ns,rfl⟩:=items_int h3;cases ZW with
 |cons w1 w2=>
  cases w2;cases w1 with
  |list ho Y3=>exact⟨_,_,ns,rfl,rfl,ho,MH _ _ Y3,(by
  have h5:=condW_of (by
   have h4:=(holds_andW hc).1;rw[hn]at h4;assumption) (w_not (w_lt w_lit (w_len_list (w_arg rfl))))
  simp_all)⟩
theorem zgt(l:OpenLaw)(args:Ql WData):l.row.toRowW.claim.post args (.bool Qt) args=Qt:=postW_of (show WShape.has _ _ _=Qt by rfl) ((w_eq_bool (w_res rfl) w_lit)) rfl
end Att
namespace L2
open PySem.Spec
theorem qi:∀{vs:Ql Pl}{ns:Ql Int},IntsAre vs ns->Vals (ns.map V.int) vs
 |_,_,.nil=>.nil
 |_,_,.cons n t h=>.cons ⟨t,rfl⟩ (qi h)
def fQ(s:XZ):Arguments:=match s with
 |.FunctionDef _ a _ _ _ _ _ _ _ _=>a
 |_=>{posonlyargs:=[],args:=[],vararg:=Qn,kwonlyargs:=[],kw_defaults:=[],kwarg:=Qn,defaults:=[]}
def cZ(s:XZ):Ql XZ:=match s with
 |.FunctionDef _ _ b _ _ _ _ _ _ _=>b
 |_=>[]
def aK(s:XZ):U0:=match s with
 |.FunctionDef _ _ _ _ _ _ sc _ _ _=>sc
 |_=>{kind:=.function,names:=[],isGenerator:=Qf,isCoroutine:=Qf}
abbrev bT:lR:=λ_ _ _ _ _ _=>False
abbrev E0:XK:=λ_ _ _=>False
def kT:lL bT X E0:=λ_ _ _ _ _ _ _ h=>h.elim
structure UX(K:OQ)(x qual:Str)(st:XZ)(f:XW)(fd:Ru):Prop where
 ex:∃(oc:Pl) (od:Option XW) (kV doc pm:Pl) (an:Option XW) (UG ct:Pl) (X2:Array (Option Pl)),fd=Qk x qual (fQ st) (cZ st) (aK st) .none kV doc pm an UG ct/\K.lookup f=Qs ⟨oc,od,.func fd,X2⟩/\Rv K UG qual=Qt
 kp:Qh K (.ref f)=Qt
section
variable {P:Qz}{w:RZ}{mg:Str->Qo Pl}{base:Wh}
def UX.ok{st:XZ}(F:UX K x qual st f fd)(S:U9 N ps (aK st))(len:∀vs H Q E,sp vs H Q E->vs.length=ps.length) (WO:∀(UG:Pl) (A:QP) (outer:Ql Env) (s:Pf) (H:Hp) (vs:Ql V) (Q:VK) (E:XK),UU k (A.deeper (envOfC qual (aK st) s.heap.objs.size f UG))->sp vs H Q E->∃t,UL (fR bT P w K mg base N qual (aK st) f UG A outer s H E).W4 (cZ st) t/\t {nx:=λ_ H'=>Q .Uz H',rt:=Q} (start N vs) H):Vn P w K mg base bT (k+1) f fd ps sp:=by obtain⟨oc,od,kV,doc,pm,an,UG,ct,X2,rfl,lk,UY⟩:=F.ex;refine EB lk UY S len λA outer s H vs Q E hr X7=>?_;obtain⟨t,h,q⟩:=WO _ A outer s H _ Q E hr X7;exact⟨t,h.W4,q⟩
def UX.binds{st:XZ}(F:UX K x qual st f fd) (h:∀(kV doc pm:Pl) (an:Qo XW) (UG ct:Pl) (us:Ql Pl),us.length=ps.length->bindArgs (Qk x qual (fQ st) (cZ st) (aK st) .none kV doc pm an UG ct) ⟨us,[]⟩=pure (ps.zip us)):Binds K fd ps []:=by obtain⟨oc,od,kV,doc,pm,an,UG,ct,X2,rfl,lk,UY⟩:=F.ex;exact .all (h _ _ _ _ _ _)
def sT{st:XZ}{kV doc pm UG ct:Pl}(l:K.lookup f=Qs ⟨oc,od,.func (Qk x qual (fQ st) (cZ st) (aK st) .none kV doc pm an UG ct),X2⟩) (c:Rv K UG qual=Qt) (k:Qh K (.ref f)=Qt):UX K x qual st f (Qk x qual (fQ st) (cZ st) (aK st) .none kV doc pm an UG ct):=⟨⟨oc,od,kV,doc,pm,an,UG,ct,X2,rfl,l,c⟩,k⟩
end
def oI{A B:Prop}(h:B):if Qf=Qt then A else B:=‹_›
def oH{A B:Prop}(h:A):if Qt=Qt then A else B:=‹_›
def TJ(H H':Hp):Prop:=∀b o,H b=Qs o->H' b=Qs o
def TJ.refl(H:Hp):TJ H H:=λ_ _ h=>h
def TJ.trans(a:TJ H H1)(b:TJ H1 H2):TJ H H2:=λc o h=>b c o (a c o h)
def TJ.free(e:TJ H H')(h:H' l=VO):H l=VO:=by
 cases q:H l with
 |none=>rfl
 |some o=>rw[e l o q]at h;assumption
def TJ.seq (e:TJ H H')(h:Ux K H a xs):Ux K H' a xs:=by
 rcases h with(h|⟨o,h⟩)|h
 .exact .inl (.inl (e _ _ h))
 .exact .inl (.inr ⟨o,e _ _ h⟩)
 .exact .inr h
end L2
set_option maxHeartbeats 4000000
namespace L2
open PySem.Spec
section
variable {κ:Type}[DecidableEq κ]
def gw(UA:Ql (κ×V))(k:κ):Qo V:=(UA.find? λkv=>decide (kv.1=k)).map (·.2)
def g8(UA:Ql (κ×V))(k:κ)(v:V):Ql (κ×V):=if(UA.any λkv=>decide (kv.1=k))=Qt then UA.map (λkv=>if kv.1=k then(kv.1,v) else kv) else UA++[(k,v)]
def nF{k:κ}(e:p.1=k):gw (p::r) k=Qs p.2:=by simp[gw,Q9,e]
def nH{k:κ}(e:¬p.1=k):gw (p::r) k=gw r k:=by simp[gw,Q9,e]
theorem uz(k:κ):∀UA:Ql (κ×V),(UA.any λkv=>decide (kv.1=k))=(gw UA k).isSome
 |[]=>rfl
 |p::r=>by
  rw[Rp];by_cases e:p.1=k
  .simp only[nF e,UN e,R8,TC]
  .rw[nH e,VN e];exact uz k r
def Dd(UA:Ql (κ×V))(k:κ)(v:V):(g8 UA k v).length<=UA.length+1:=by
 unfold g8;split
 .simp
 .simp
def Xk.zcq(r:Xk o u):o.isSome=u.isSome:=by
 cases o with
 |none=>cases u with
  |none=>rfl
  |some _=>exact(r).elim
 |some _=>cases u with
  |none=>exact(r).elim
  |some _=>rfl
def KV.val(r:KV UA vs)(k:κ):Xk (gw UA k) (valueAt vs k):=by
 induction r with
 |nil=>exact True.intro
 |@cons p q ps qs h t ih=>
  obtain⟨h1,h2⟩:=h;by_cases e:p.1=k
  .have b:valueAt (q::qs) k=Qs q.2:=by simp[valueAt,Q9,(h1.symm.trans e)]
   rw[nF e,b];assumption
  .have e':¬q.1=k:=λz=>e (h1.trans z);have b:valueAt (q::qs) k=valueAt qs k:=by simp[valueAt,Q9,e']
   rw[nH e,b];assumption
theorem KV.any(r:KV UA vs)(k:κ):(UA.any λkv=>decide (kv.1=k))=vs.any λkv=>decide (kv.1=k):=by
 induction r with
 |nil=>rfl
 |cons h t ih=>rw[Rp,Rp,ih,h.1]
def KV.zb5(r:KV UA vs)(k:κ)(ry:RelV y u):KV (UA.map λkv=>if kv.1=k then(kv.1,y) else kv) (vs.map λkv=>if kv.1=k then(kv.1,u) else kv):=by
 induction r with
 |nil=>exact .nil
 |@cons p q ps qs h t ih=>refine .cons ?_ ih;lia
def KV.put(r:KV UA vs)(k:κ)(ry:RelV y u):KV (g8 UA k y) (stored vs k u):=by
 unfold g8 stored;rw[r.any k];by_cases e:(vs.any λkv=>decide (kv.1=k))=Qt
 .rw[T4 e,T4 e];exact r.zb5 k ry
 .rw[Um e,Um e];exact Paired.snoc r ⟨rfl,ry⟩
theorem KV.length{vs:Ql (κ×Pl)}(r:KV UA vs):UA.length=vs.length:=Paired.length r
end
def xD(r:RelV (kV k) u):(fz P w).is k u=Qt:=by
 cases k with
 |inl i=>obtain⟨t,e⟩:=(r);subst e;exact Lz P w i t
 |inr x=>obtain⟨t,e⟩:=(r);subst e;exact Lx P w x t
theorem DH:∀{ks:Ql bh}{us:Ql Pl},Vals (ks.map kV) us->ItemsAre (fz P w) ks us
 |[],_,r=>by cases r;exact .nil
 |k::ks,_,r=>by
  cases r with
  |cons h t=>exact .cons (xD h) (DH t)
abbrev KT(H:Hp):Ql (Ql bh×V)->Ql (Ql bh×XW×Pl)->Prop:=Paired λp q=>p.1=q.1/\H q.2.1=Qs (.tup (p.1.map kV))/\RelV p.2 q.2.2
def KT.val(r:KT H UA xs)(k:Ql bh):Xk (gw UA k) ((atKey xs k).map (·.2)):=by
 induction r with
 |nil=>exact True.intro
 |@cons p q ps qs h t ih=>
  obtain⟨h1,_,h2⟩:=h;by_cases e:p.1=k
  .have b:atKey (q::qs) k=Qs q.2:=by simp[atKey,Q9,(h1.symm.trans e)]
   rw[nF e,b];assumption
  .have e':¬q.1=k:=λz=>e (h1.trans z);have b:atKey (q::qs) k=atKey qs k:=by simp[atKey,Q9,e']
   rw[nH e,b];assumption
def KT.zb5(r:KT H UA xs)(k:Ql bh)(ry:RelV y u):KT H (UA.map λkv=>if kv.1=k then(kv.1,y) else kv) (xs.map (putAt k u)):=by
 induction r with
 |nil=>exact .nil
 |@cons p q ps qs h t ih=>
  refine .cons ?_ ih;unfold putAt;by_cases e:p.1=k
  .simp_all
  .simp_all
def KT.put(r:KT H UA xs)(k:Ql bh)(hb:H b=Qs (.tup (k.map kV)))(ry:RelV y u):KT H (g8 UA k y) (storedH xs k b u):=by
 have e:(UA.any λkv=>decide (kv.1=k))=(atKey xs k).isSome:=by rw[uz,(r.val k).zcq,TR]
 unfold g8 storedH;rw[e];by_cases q:(atKey xs k).isSome=Qt
 .rw[T4 q,T4 q];exact r.zb5 k ry
 .rw[Um q,Um q];exact Paired.snoc r ⟨rfl,hb,ry⟩
def KT.keeps(r:KT H UA xs)(ht:∀b ys,H b=Qs (.tup ys)->H' b=Qs (.tup ys)):KT H' UA xs:=Paired.zch r λ_ _ z=>⟨z.1,ht _ _ z.2.1,z.2.2⟩
section
variable {P:Qz}{w:RZ}{h:XX}{a:XW}
def AS(ok:Vx P w H h)(e:Rd H a u):VQ P w H h a u:=e.ok ok
def yH(ok:Vx P w H h)(e:Rd H a (.dK UA)):UA.length<=PD/\(a==sysModules)=Qf/\∃vs,KV UA vs/\h.DictOf (fz P w) a vs:=(AS ok e)
def ND(ok:Vx P w H h)(e:H a=Qs (.dK UA)):UA.length<=PD/\(a==sysModules)=Qf/\∃vs,KV UA vs/\h.DictOf (fz P w) a vs:=yH ok (.inl e)
def xA(ok:Vx P w H h)(e:H a=Qs (.tup (ks.map kV))):(tupleKind (fz P w)).is h ks a:=by obtain⟨_,T5,r,o,h1,h2,n,h3⟩:=((ok a _ e));exact⟨o,_,n,h1,h2,h3,(DH r)⟩
def EN(ok:Vx P w H h)(e:Rd H a (.dT UA)):UA.length<=PD/\(a==sysModules)=Qf/\∃xs,KT H UA xs/\h.DictOfH (tupleKind (fz P w)) a xs:=by
 obtain⟨z,y,xs,r,o,es,ep,h1,h2,h3,h4,h5⟩:=((AS ok e));refine⟨z,y,xs,r,o,es,ep,h1,h2,h3,h4,λx hx=>?_,h5⟩;have all:∀{l:Ql _}{m:Ql _},KT H l m->∀x∈m,(tupleKind (fz P w)).is h x.1 x.2.1:=by
  intro l m q
  induction q with
  |nil=>simp
  |@cons p q ps qs hq t ih=>
   intro x hx;rcases OZ.mp hx with e|hx
   .subst e;exact xA ok (by lia)
   .exact ih x hx
 exact all r x hx
def NC(ok:Vx P w H h)(e:H a=Qs (.dT UA)):UA.length<=PD/\(a==sysModules)=Qf/\∃xs,KT H UA xs/\h.DictOfH (tupleKind (fz P w)) a xs:=EN ok (.inl e)
end
def OL(H:Hp)(a:XW)(y:V)(r:Qo V):Prop:=(∃UA k,Rd H a (.dK UA)/\y=kV k/\r=gw UA k)\/∃UA k b,Rd H a (.dT UA)/\y=.ref b/\H b=Qs (.tup (k.map kV))/\r=gw UA k
def zaX(H:Hp)(a:XW)(y v:V)(H':Hp):Prop:=(∃UA k,H a=Qs (.dK UA)/\y=kV k/\UA.length<PD/\H'=upd H a (.dK (g8 UA k v))) \/
 ∃UA k b,H a=Qs (.dT UA)/\y=.ref b/\H b=Qs (.tup (k.map kV))/\UA.length<PD/\H'=upd H a (.dT (g8 UA k v))
theorem zaX.k{k:bh}(e:H a=Qs (.dK UA))(hl:UA.length<PD):zaX H a (kV k) v (upd H a (.dK (g8 UA k v))):=.inl ⟨UA,k,e,rfl,hl,rfl⟩
section
variable {X:Cx}{pins:Ql (XW×Obj)}{σ:St}{s:Pf}{a:XW}{y v:V}{u r:Pl}{o:Qo V}{A:QP}{E:Pl->Pf->Prop}
def Inv.big(I:Inv X pins σ H s):sysModules<s.heap.objs.size:=by exact Ua (by decide) ((I.mod.glob.keeps I.bk).lt)
def NK(hu:A.units+1<cLine)(I:Inv X pins σ H s)(g:OL H a y o)(ry:RelV y u)(h:∀s',Inv X pins σ H s'->Q (.bool o.isSome) s'):wpAny (model X.prog X.w) A (compareOp .In u (.ref a)) Q E s:=by
 rcases g with⟨UA,k,e,ey,l⟩|⟨UA,k,b,e,ey,eb,l⟩
 .subst ey;obtain⟨z,hd,vs,rel,dd⟩:=yH I.UB e;refine wpAny_in_of (xD ry) hd dd.mapOf ?_;rw[<-(rel.val k).zcq,<-l];exact h _ (I.tok _)
 .subst ey;cases(ry);obtain⟨z,hd,xs,rel,dd⟩:=EN I.UB e;refine wpAny_in_heap (tupleKind_room_in1 hu) (xA I.UB eb) hd dd ?_;have q:=(rel.val k).zcq;rw[TR]at q;rw[<-q,<-l];exact h _ (I.tok _)
def EW(I:Inv X pins σ H s)(mu:pO (H a))(hs:Heap.SameBut a s.heap h')(he:∃q,h'.get? a=Qs q)(new:VQ X.prog X.w (upd H a ob) h' a ob) :Inv X pins σ (upd H a ob) { s with heap:=h',toks:=t' } :=I.write mu (.inl rfl) (λb q hb z=>(hs.2 b hb).trans z) he new
def NF(z:UA.length<=PD)(hd:(a==sysModules)=Qf)(rel:KV UA vs)(dd:h'.DictOf (fz P w) a vs):VQ P w H' h' a (.dK UA):=⟨z,hd,vs,rel,dd⟩
def NJ(hu:A.units+1<cLine)(I:Inv X pins σ H s)(g:zaX H a y v H')(ry:RelV y u)(rv:RelV v r)(h:∀s',Inv X pins σ H' s'->Q () s'):wpAny (model X.prog X.w) A (setItem (.ref a) u r) Q E s:=by
 rcases g with⟨UA,k,e,ey,l,eH⟩|⟨UA,k,b,e,ey,eb,l,eH⟩
 .subst ey eH;obtain⟨z,hd,vs,rel,dd⟩:=ND I.UB e;refine wpAny_setItem_pairs (hsz:=(by rw[<-rel.length];assumption)) (xD ry) dd λh' dd' hs=>h _ ?_;exact EW I (by rw[e];exact True.intro) hs (let ⟨q,_,_,hq,_⟩:=dd';⟨q,hq⟩) (NF (by have:=Dd UA k v;lia) hd (rel.put k rv) dd')
 .subst ey eH;cases(ry);obtain⟨z,hd,xs,rel,dd⟩:=NC I.UB e;refine wpAny_setItem_heap (hsz:=(by rw[<-Paired.length rel];assumption)) (tupleKind_room_in1 hu) (xA I.UB eb) dd λh' dd' hs=>h _ ?_;obtain⟨q,es,ep,hq,h2,h3,h4,_,h5⟩:=dd';refine EW I (by rw[e];exact True.intro) hs ⟨q,hq⟩ ⟨(by have:=Dd UA k v;lia),hd,_,(rel.put k eb rv).keeps λc ys ec=>?_,q,es,ep,hq,h2,h3,h4,h5⟩;rw[aC (rS ec e (λz=>nomatch z))];assumption
end
def NG(h:XX)(hb:sysModules<h.objs.size):VQ P w H (h.push {cls:=.type "dict",data:=.dict #[]}) h.objs.size (.dK []):=⟨QR _,beq_eq_false_iff_ne.mpr (Ne.symm (Py hb)),[],.nil,Heap.DictOf.new h⟩
def He:TE:=λ_ H Q=>∀p,H p=Qn->Q (.ref p) (upd H p (.dK []))
section
variable {X:Cx}
def J6:PE X (.Dict [] [] pos) He:=λpins s σ H Q I h=>
 wpAny_Dict_empty ⟨.ref _,_,I.laid (λ_ _ q=>OV _ q) (O5 _) (NG _ I.big),rfl,h _ (I.UB.fresh (O5 _))⟩
end
end L2
namespace DL
open PySem.Spec L2
def aq{α β:Type}{x:Qo α}{f:α->Qo β}{r:β}{G:Prop}(e:x.bind f=Qs r)(h:∀a,x=Qs a->f a=Qs r->G):G:=by
 cases x with
 |none=>cases e
 |some a=>exact h a rfl e
def bJ[Decidable c]{β:Type}{x:Qo β}{r:β}{G:Prop}(e:(if c then x else Qn)=Qs r)(h:c->x=Qs r->G):G:=by lia
inductive D where
 |Uz|bl (b:Bool)|int (i:Int)|str (x:Str)|tup (xs:List D)|lst (xs:List D)|U1 (ks:List bh) (ds:List D)|Vp (ps:List (List Int×Int))|We (ps:List (List Int×Int))|adr (p:XW)|obj (C:XW) (ns:List Str) (ds:List D)|UI (ks:List Int)
def d5(ks:Ql bh)(vs:Ql V):Ql (bh×V):=ks.zip vs
def wz(ps:Ql (Ql Int×Int)):Ql (Ql bh×V):=ps.map λq=>(q.1.map Sum.inl,V.int q.2)
def W7(ks:Ql Int):Ql (bh×V):=ks.map λk=>(Sum.inl k,V.bl Qt)
mutual
inductive Rep(K:OQ)(H:Hp):D->V->Prop
 |Uz:Rep K H .Uz .Uz
 |bl (b:Bool):Rep K H (.bl b) (.bl b)
 |int (i:Int):Rep K H (.int i) (.int i)
 |str (x:Str):Rep K H (.str x) (.str x)
 |tup {ds:List D}{p:XW}{vs:List V}:UJ K H p vs->TZ K H ds vs->Rep K H (.tup ds) (.ref p)
 |lst {ds:List D}{p:XW}{vs:List V}:Ux K H p vs->TZ K H ds vs->Rep K H (.lst ds) (.ref p)
 |U1 {ks:List bh}{ds:List D}{p:XW}{vs:List V}:ks.length=vs.length->H p=Qs (.dK (d5 ks vs))->TZ K H ds vs->Rep K H (.U1 ks ds) (.ref p)
 |Vp {ps:List (List Int×Int)}{p:XW}:H p=Qs (.dT (wz ps))->Rep K H (.Vp ps) (.ref p)
 |We {ps:List (List Int×Int)}{p:XW}{o:Obj}:H p=Qs (.UW o (.dT (wz ps)))->Rep K H (.We ps) (.ref p)
 |adr (p:XW):Rep K H (.adr p) (.ref p)
 |UI {ks:List Int}{p:XW}{o:Obj}:H p=Qs (.UW o (.dK (W7 ks)))->Rep K H (.UI ks) (.ref p)
 |obj {C dx:XW}{ns:List Str}{ds:List D}{p:XW}{vs:List V}:ns.length=vs.length->H p=Qs (.ins C dx (ns.zip vs))->TZ K H ds vs->Rep K H (.obj C ns ds) (.ref p)
inductive TZ(K:OQ)(H:Hp):List D->List V->Prop
 |nil:TZ K H [] []
 |cons {d:D}{v:V}{ds:List D}{vs:List V}:Rep K H d v->TZ K H ds vs->TZ K H (d::ds) (v::vs)
end
def Ux.mono (e:TJ H H')(h:Ux K H a xs):Ux K H' a xs:=e.seq h
def UJ.mono (e:TJ H H')(h:UJ K H a xs):UJ K H' a xs:=by exact e _ _ h
mutual
theorem Rep.mono{K:OQ}{H H':Hp}(e:TJ H H'):∀{d:D}{v:V},Rep K H d v->Rep K H' d v
 |_,_,.Uz=>.Uz
 |_,_,.bl b=>.bl b
 |_,_,.int i=>.int i
 |_,_,.str x=>.str x
 |_,_,.tup h r=>.tup (UJ.mono e h) (TZ.mono e r)
 |_,_,.lst h r=>.lst (Ux.mono e h) (TZ.mono e r)
 |_,_,.U1 l h r=>.U1 l (e _ _ h) (TZ.mono e r)
 |_,_,.Vp h=>.Vp (e _ _ h)
 |_,_,.We h=>.We (e _ _ h)
 |_,_,.adr p=>.adr p
 |_,_,.UI h=>.UI (e _ _ h)
 |_,_,.obj l h r=>.obj l (e _ _ h) (TZ.mono e r)
theorem TZ.mono{K:OQ}{H H':Hp}(e:TJ H H'):∀{ds:List D}{vs:List V},TZ K H ds vs->TZ K H' ds vs
 |_,_,.nil=>.nil
 |_,_,.cons h r=>.cons (Rep.mono e h) (TZ.mono e r)
end
theorem TZ.length{K:OQ}:∀{ds:Ql D}{vs:Ql V},TZ K H ds vs->vs.length=ds.length
 |_,_,.nil=>rfl
 |_,_,.cons _ r=>by simp[TZ.length r]
theorem TZ.get{K:OQ}:∀{ds:Ql D}{vs:Ql V},TZ K H ds vs->∀{i:Nat}{d:D},ds[i]?=Qs d->∃v,vs[i]?=Qs v/\Rep K H d v
 |_,_,.nil,i,d,e=>by simp at e
 |_,_,.cons h r,0,d,e=>by simp_all
 |_,_,.cons h r,i+1,d,e=>by obtain⟨v,a,b⟩:=TZ.get r (e);exact⟨v,a,b⟩
theorem TZ.XJ{K:OQ}:∀{ds:Ql D}{vs:Ql V},TZ K H ds vs->∀{i:Nat}{v:V},vs[i]?=Qs v->∃d,ds[i]?=Qs d/\Rep K H d v
 |_,_,.nil,i,d,e=>by simp at e
 |_,_,.cons h r,0,v,e=>by simp_all
 |_,_,.cons h r,i+1,v,e=>by obtain⟨d,a,b⟩:=TZ.XJ r (e);exact⟨d,a,b⟩
theorem TZ.app{K:OQ}:∀{ds:Ql D}{vs:Ql V}{es:Ql D}{us:Ql V},TZ K H ds vs->TZ K H es us->TZ K H (ds++es) (vs++us)
 |_,_,_,_,.nil,r=>r
 |_,_,_,_,.cons h r,q=>.cons h (TZ.app r q)
theorem TZ.set{K:OQ}(h:Rep K H d v):∀{ds:Ql D}{vs:Ql V} (i:Nat),TZ K H ds vs->TZ K H (ds.set i d) (vs.set i v)
 |_,_,_,.nil=>.nil
 |_,_,0,.cons _ r=>.cons h r
 |_,_,i+1,.cons q r=>.cons q (TZ.set h i r)
theorem TZ.take{K:OQ}:∀{ds:Ql D}{vs:Ql V} (n:Nat),TZ K H ds vs->TZ K H (ds.take n) (vs.take n)
 |_,_,0,_=>by exact .nil
 |_,_,n+1,.nil=>by exact .nil
 |_,_,n+1,.cons h r=>(.cons h (TZ.take n r))
theorem TZ.drop{K:OQ}:∀{ds:Ql D}{vs:Ql V} (n:Nat),TZ K H ds vs->TZ K H (ds.drop n) (vs.drop n)
 |_,_,0,r=>r
 |_,_,n+1,.nil=>by exact .nil
 |_,_,n+1,.cons h r=>(TZ.drop n r)
def TZ.one (h:Rep K H d v):TZ K H [d] [v]:=.cons h .nil
theorem TZ.ints{K:OQ}:∀ns:Ql Int,TZ K H (ns.map D.int) (ns.map V.int)
 |[]=>.nil
 |n::ns=>.cons (.int n) (TZ.ints _)
mutual
noncomputable def flat:D->Bool
 |.lst _=>Qf
 |.U1 _ _=>Qf
 |.Vp _=>Qf
 |.obj _ _ _=>Qf
 |.tup xs=>UD xs
 |_=>Qt
noncomputable def UD:List D->Bool
 |[]=>Qt
 |d::ds=>flat d&&UD ds
end
def ag(P:Ql XW)(H:Hp):Hp:=λa=>if a∈P then Qn else H a
def aR(P:Ql XW)(H:Hp):TJ (ag P H) H:=λb o e=>by unfold ag at e;lia
def aU(h:H a=Qs o)(n:a∉P):ag P H a=Qs o:=by unfold ag;rw[Um n];assumption
def bN(h:ag P H a=Qs o):a∉P/\H a=Qs o:=by unfold ag at h;lia
def MW(H:Hp):ag [] H=H:=rfl
def aS(H:Hp)(h:∀a∈P',a∈P):TJ (ag P H) (ag P' H):=λb o e=>by obtain⟨n,e⟩:=bN e;exact aU e λz=>n (h b z)
def Cw:HO->Bool
 |.lst _=>Qt
 |.dK _=>Qt
 |.dT _=>Qt
 |.ins _ _ _=>Qt
 |.own _=>Qt
 |_=>Qf
abbrev MO:={o:HO//Cw o=Qt}
def mL(vs:Ql V):MO:=⟨.lst vs,rfl⟩
def mD(UA:Ql (bh×V)):MO:=⟨.dK UA,rfl⟩
def mI(C dx:XW)(fs:Ql (Str×V)):MO:=⟨.ins C dx fs,rfl⟩
def mT(UA:Ql (Ql bh×V)):MO:=⟨.dT UA,rfl⟩
def US(H:Hp)(P:Ql XW):Prop:=∀p∈P,∃o:MO,H p=Qs o.1
def US.mono(h:US H P)(e:TJ H H'):US H' P:=λp hp=>let ⟨vs,q⟩:=h p hp;⟨vs,e _ _ q⟩
def UJ.U8 (m:US H P)(h:UJ K H a xs):UJ K (ag P H) a xs:=by have h:H a=Qs _:=h;exact aU h λz=>by obtain⟨⟨vs,w⟩,q⟩:=m _ z;rw[q]at h;cases h;cases w
mutual
theorem Rep.U8{K:OQ}{H:Hp}{P:List XW}(m:US H P):∀{d:D}{v:V},flat d=Qt->Rep K H d v->Rep K (ag P H) d v
 |_,_,_,.Uz=>.Uz
 |_,_,_,.bl b=>.bl b
 |_,_,_,.int i=>.int i
 |_,_,_,.str x=>.str x
 |_,_,f,.tup h r=>.tup (UJ.U8 m h) (TZ.U8 m (by assumption) r)
 |_,_,f,.lst h r=>by simp[flat]at f
 |_,_,f,.U1 _ h r=>by simp[flat]at f
 |_,_,f,.Vp h=>by simp[flat]at f
 |_,_,f,.obj _ h r=>by simp[flat]at f
 |_,_,_,.adr p=>.adr p
 |_,_,_,.UI h=>.UI (aU h λz=>by obtain⟨⟨vs,w⟩,q⟩:=m _ z;rw[q]at h;cases h;cases w)
 |_,_,_,.We h=>.We (aU h λz=>by obtain⟨⟨vs,w⟩,q⟩:=m _ z;rw[q]at h;cases h;cases w)
theorem TZ.U8{K:OQ}{H:Hp}{P:List XW}(m:US H P):∀{ds:List D}{vs:List V},UD ds=Qt->TZ K H ds vs->TZ K (ag P H) ds vs
 |_,_,_,.nil=>.nil
 |_,_,f,.cons h r=>by simp[UD]at f;exact .cons (Rep.U8 m f.1 h) (TZ.U8 m f.2 r)
end
mutual
inductive UC(K:OQ)(H0 H:Hp):D->V->List XW->Prop
 |flat {d:D}{v:V}:flat d=Qt->Rep K H0 d v->UC K H0 H d v []
 |tup {ds:List D}{p:XW}{vs:List V}{B:List XW}:UJ K H0 p vs->Uq K H0 H ds vs B->UC K H0 H (.tup ds) (.ref p) B
 |lst {ds:List D}{p:XW}{vs:List V}{B:List XW}:H p=Qs (.lst vs)->Uq K H0 H ds vs B->UC K H0 H (.lst ds) (.ref p) (p::B)
 |U1 {ks:List bh}{ds:List D}{p:XW}{vs:List V}{B:List XW}:ks.length=vs.length->H p=Qs (.dK (d5 ks vs))->Uq K H0 H ds vs B->UC K H0 H (.U1 ks ds) (.ref p) (p::B)
 |Vp {ps:List (List Int×Int)}{p:XW}:H p=Qs (.dT (wz ps))->UC K H0 H (.Vp ps) (.ref p) [p]
 |obj {C dx:XW}{ns:List Str}{ds:List D}{p:XW}{vs:List V}{B:List XW}:ns.length=vs.length->H p=Qs (.ins C dx (ns.zip vs))->Uq K H0 H ds vs B->UC K H0 H (.obj C ns ds) (.ref p) (p::B)
inductive Uq(K:OQ)(H0 H:Hp):List D->List V->List XW->Prop
 |nil:Uq K H0 H [] [] []
 |cons {d:D}{v:V}{ds:List D}{vs:List V}{B C:List XW}:UC K H0 H d v B->Uq K H0 H ds vs C->Uq K H0 H (d::ds) (v::vs) (B++C)
end
mutual
theorem UC.mono{K:OQ}{H0 H U3 H':Hp}(e:TJ H0 U3):∀{d:D}{v:V}{B:List XW},UC K H0 H d v B->(∀p∈B,∀o,H p=Qs o->H' p=Qs o)->UC K U3 H' d v B
 |_,_,_,.flat f r,_=>.flat f (Rep.mono e r)
 |_,_,_,.tup h r,k=>.tup (UJ.mono e h) (Uq.mono e r k)
 |_,_,_,.lst h r,k=>.lst (k _ (OU ..) _ h) (Uq.mono e r λp hp=>k p (OS _ hp))
 |_,_,_,.U1 l h r,k=>.U1 l (k _ (OU ..) _ h) (Uq.mono e r λp hp=>k p (OS _ hp))
 |_,_,_,.obj l h r,k=>.obj l (k _ (OU ..) _ h) (Uq.mono e r λp hp=>k p (OS _ hp))
 |_,_,_,.Vp h,k=>.Vp (k _ (OU ..) _ h)
theorem Uq.mono{K:OQ}{H0 H U3 H':Hp}(e:TJ H0 U3):∀{ds:List D}{vs:List V}{B:List XW},Uq K H0 H ds vs B->(∀p∈B,∀o,H p=Qs o->H' p=Qs o)->Uq K U3 H' ds vs B
 |_,_,_,.nil,_=>.nil
 |_,_,_,.cons h r,k=>.cons (UC.mono e h λp hp=>k p (OR _ hp)) (Uq.mono e r λp hp=>k p (OP _ hp))
end
mutual
theorem UC.rep{K:OQ}{H0 H H1:Hp}(e:TJ H0 H1):∀{d:D}{v:V}{B:List XW},UC K H0 H d v B->(∀p∈B,∀o,H p=Qs o->H1 p=Qs o)->Rep K H1 d v
 |_,_,_,.flat f r,_=>Rep.mono e r
 |_,_,_,.tup h r,k=>.tup (UJ.mono e h) (Uq.rep e r k)
 |_,_,_,.lst h r,k=>.lst (Ux.of (k _ (OU ..) _ h)) (Uq.rep e r λp hp=>k p (OS _ hp))
 |_,_,_,.U1 l h r,k=>.U1 l (k _ (OU ..) _ h) (Uq.rep e r λp hp=>k p (OS _ hp))
 |_,_,_,.obj l h r,k=>.obj l (k _ (OU ..) _ h) (Uq.rep e r λp hp=>k p (OS _ hp))
 |_,_,_,.Vp h,k=>.Vp (k _ (OU ..) _ h)
theorem Uq.rep{K:OQ}{H0 H H1:Hp}(e:TJ H0 H1):∀{ds:List D}{vs:List V}{B:List XW},Uq K H0 H ds vs B->(∀p∈B,∀o,H p=Qs o->H1 p=Qs o)->TZ K H1 ds vs
 |_,_,_,.nil,_=>.nil
 |_,_,_,.cons h r,k=>.cons (UC.rep e h λp hp=>k p (OR _ hp)) (Uq.rep e r λp hp=>k p (OP _ hp))
end
mutual
theorem UC.lists{K:OQ}{H0 H:Hp}:∀{d:D}{v:V}{B:List XW},UC K H0 H d v B->US H B
 |_,_,_,.flat f r=>λp hp=>by cases hp
 |_,_,_,.tup h r=>Uq.lists r
 |_,_,_,.lst h r=>λp hp=>by
  rcases OZ.mp hp with rfl|hp
  .exact⟨mL _,h⟩
  .exact Uq.lists r p hp
 |_,_,_,.obj _ h r=>λp hp=>by
  rcases OZ.mp hp with rfl|hp
  .exact⟨mI _ _ _,h⟩
  .exact Uq.lists r p hp
 |_,_,_,.U1 _ h r=>λp hp=>by
  rcases OZ.mp hp with rfl|hp
  .exact⟨mD _,h⟩
  .exact Uq.lists r p hp
 |_,_,_,.Vp h=>λp hp=>by rw[O1]at hp;subst hp;exact⟨mT _,h⟩
theorem Uq.lists{K:OQ}{H0 H:Hp}:∀{ds:List D}{vs:List V}{B:List XW},Uq K H0 H ds vs B->US H B
 |_,_,_,.nil=>λp hp=>by cases hp
 |_,_,_,.cons h r=>λp hp=>(OT.mp hp).elim (UC.lists h p) (Uq.lists r p)
end
mutual
theorem UC.U8{K:OQ}{H0 H:Hp}{P:List XW}(m:US H P)(e:TJ H0 H):∀{d:D}{v:V}{B:List XW},UC K H0 H d v B->UC K (ag P H) H d v B
 |_,_,_,.flat f r=>.flat f (Rep.U8 m f (Rep.mono e r))
 |_,_,_,.tup h r=>.tup (UJ.U8 m (UJ.mono e h)) (Uq.U8 m e r)
 |_,_,_,.lst h r=>.lst h (Uq.U8 m e r)
 |_,_,_,.U1 l h r=>.U1 l h (Uq.U8 m e r)
 |_,_,_,.obj l h r=>.obj l h (Uq.U8 m e r)
 |_,_,_,.Vp h=>.Vp h
theorem Uq.U8{K:OQ}{H0 H:Hp}{P:List XW}(m:US H P)(e:TJ H0 H):∀{ds:List D}{vs:List V}{B:List XW},Uq K H0 H ds vs B->Uq K (ag P H) H ds vs B
 |_,_,_,.nil=>.nil
 |_,_,_,.cons h r=>.cons (UC.U8 m e h) (Uq.U8 m e r)
end
theorem Uq.zar{K:OQ}:∀{ds:Ql D}{vs:Ql V},UD ds=Qt->TZ K H0 ds vs->Uq K H0 H ds vs []
 |_,_,_,.nil=>.nil
 |_,_,f,.cons h r=>by simp[UD]at f;exact .cons (.flat f.1 h) (Uq.zar f.2 r)
def US.app(h:US H P)(k:US H Q):US H (P++Q):=λp hp=>(OT.mp hp).elim (h p) (k p)
inductive Ev where
 |cl (d:D)|tm (d:D)|nw (xs:List D)|dn (d:D)
def Ev.d:Ev->D
 |.cl d=>d
 |.tm d=>d
 |.nw xs=>.lst xs
 |.dn d=>d
inductive zkd(K:OQ)(F A:List XW)(H H':Hp)(xs:List D)(v:V):Prop
 |mk (p:XW) (vs:List V) (_:v=.ref p) (_:H p=Qn) (_:H' p=Qs (.lst vs)) (_:TZ K (ag (p::(A++F)) H') xs vs)
inductive zkf(K:OQ)(F A:List XW)(H H':Hp)(d:D)(v:V):Prop
 |mk (B:List XW) (_:B.Nodup) (_:∀b∈B,H b=Qn) (_:UC K (ag (B++(A++F)) H') H' d v B)
def UE(K:OQ)(F A:Ql XW)(H H':Hp):Ev->V->Prop
 |.cl d,v=>Rep K (ag (A++F) H') d v
 |.tm d,v=>Rep K (ag F H') d v
 |.nw xs,v=>zkd K F A H H' xs v
 |.dn d,v=>zkf K F A H H' d v
def ck(e:TJ H H'):TJ (ag P H) (ag P H'):=λb o h=>by obtain⟨n,h⟩:=bN h;exact aU (e _ _ h) n
theorem UE.mono{K:OQ}(h:UE K F A H H1 r v)(e:TJ H1 H2):UE K F A H H2 r v:=by
 cases r with
 |cl d=>exact Rep.mono (ck e) h
 |tm d=>exact Rep.mono (ck e) h
 |nw xs=>obtain⟨p,vs,rfl,h1,h2,h3⟩:=h;exact⟨p,vs,rfl,h1,e _ _ h2,TZ.mono (ck e) h3⟩
 |dn d=>obtain⟨B,h1,h2,h3⟩:=h;exact⟨B,h1,h2,UC.mono (ck e) h3 λp _ o q=>e _ _ q⟩
def UE.back (h:UE K F A H H1 r v)(e:TJ H0 H):UE K F A H0 H1 r v:=by
 cases r with
 |cl d=>assumption
 |tm d=>assumption
 |nw xs=>
  obtain⟨p,vs,rfl,h1,h2,h3⟩:=h;refine⟨p,vs,rfl,?_,h2,h3⟩;cases q:H0 p with
  |none=>rfl
  |some o=>rw[e _ _ q]at h1;assumption
 |dn d=>obtain⟨B,h1,h2,h3⟩:=h;exact⟨B,h1,λb hb=>TJ.free e (h2 b hb),h3⟩
def UE.full (h:UE K F A H H' r v):Rep K H' r.d v:=by
 cases r with
 |cl d=>exact Rep.mono (aR _ _) h
 |tm d=>exact Rep.mono (aR _ _) h
 |nw xs=>obtain⟨p,vs,rfl,h1,h2,h3⟩:=h;exact .lst (Ux.of h2) (TZ.mono (aR _ _) h3)
 |dn d=>obtain⟨B,h1,h2,h3⟩:=h;exact h3.rep (aR _ _) λ_ _ _ q=>q
def dQ(m:US H P)(h:H p=Qn):p∉P:=λz=>by obtain⟨vs,q⟩:=m _ z;lia
def UE.Xz (m:US H (A++F))(h:UE K F A H H' r v):Rep K (ag F H') r.d v:=by
 cases r with
 |cl d=>exact Rep.mono (aS _ λa z=>OP _ z) h
 |tm d=>assumption
 |nw xs=>obtain⟨p,vs,rfl,h1,h2,h3⟩:=h;exact .lst (Ux.of (aU h2 (λz=>dQ m h1 (OP _ z)))) (TZ.mono (aS _ λa z=>OS _ (OP _ z)) h3)
 |dn d=>obtain⟨B,h1,h2,h3⟩:=h;refine h3.rep (aS _ λa z=>OP _ (OP _ z)) λb hb o q=>aU q λz=>?_;exact dQ m (h2 b hb) (OP _ z)
def Ev.ok:Ev->Bool
 |.cl _=>Qt
 |.tm d=>flat d
 |.nw _=>Qt
 |.dn _=>Qt
def UE.clean (m:US H (A++F))(e:TJ H H')(h:UE K F A H H' r v)(c:r.ok=Qt):Rep K (ag (A++F) H') r.d v:=by
 cases r with
 |cl d=>assumption
 |tm d=>exact Rep.U8 (m.mono e) c (Rep.mono (aR _ _) h)
 |nw xs=>obtain⟨p,vs,rfl,h1,h2,h3⟩:=h;exact .lst (Ux.of (aU h2 (dQ m h1))) (TZ.mono (aS _ λa z=>OS _ z) h3)
 |dn d=>obtain⟨B,h1,h2,h3⟩:=h;exact h3.rep (aS _ λa z=>OP _ z) λb hb o q=>aU q λz=>dQ m (h2 b hb) z
inductive Sl where
 |no|val (d:D)|own (xs:List D)|dp (d:D)
abbrev Th:=Ql Sl
inductive Ul(K:OQ)(H0 H:Hp):Th->L2.St->List XW->Prop
 |nil:Ul K H0 H [] [] []
 |no {x:Option V}{t:Th}{σ:L2.St}{A:List XW}:Ul K H0 H t σ A->Ul K H0 H (.no::t) (x::σ) A
 |val {d:D}{v:V}{t:Th}{σ:L2.St}{A:List XW}:Rep K H0 d v->Ul K H0 H t σ A->Ul K H0 H (.val d::t) (Qs v::σ) A
 |own {p:XW}{vs:List V}{ds:List D}{t:Th}{σ:L2.St}{A:List XW}:H p=Qs (.lst vs)->TZ K H0 ds vs->Ul K H0 H t σ A->Ul K H0 H (.own ds::t) (Qs (.ref p)::σ) (p::A)
 |dp {d:D}{v:V}{B:List XW}{t:Th}{σ:L2.St}{A:List XW}:UC K H0 H d v B->Ul K H0 H t σ A->Ul K H0 H (.dp d::t) (Qs v::σ) (B++A)
structure RS(K:OQ)(F:List XW)(H:Hp)(A:List XW)(t:Th)(σ:L2.St):Prop where
 mu:US H (A++F)
 nd:A.Nodup
 dj:∀p∈A,p∉F
 rel:Ul K (ag (A++F) H) H t σ A
theorem Ul.mono{K:OQ}(e0:TJ H0 U3):∀{t:Th}{σ:L2.St}{A:Ql XW},Ul K H0 H t σ A->(∀p∈A,∀o,H p=Qs o->H' p=Qs o)->Ul K U3 H' t σ A:=by
 intro _ _ _ h
 induction h with
 |nil=>intro w0;exact .nil
 |@no _ _ _ _ r ih=>intro e;exact .no (ih e)
 |@val _ _ _ _ _ h r ih=>intro e;exact .val (Rep.mono e0 h) (ih e)
 |@own _ _ _ _ _ _ h1 h2 r ih=>intro e;exact .own (e _ (OU ..) _ h1) (TZ.mono e0 h2) (ih λp hp=>e p (OS _ hp))
 |@dp _ _ _ _ _ _ h r ih=>intro e;exact .dp (UC.mono e0 h λp hp=>e p (OR _ hp)) (ih λp hp=>e p (OP _ hp))
def RS.grow (h:RS K F H A t σ)(e:TJ H H'):RS K F H' A t σ:=⟨h.mu.mono e,h.nd,h.dj,h.rel.mono (ck e) λp _ o q=>e _ _ q⟩
def Ul.len:∀{t:Th}{σ:L2.St}{A:Ql XW},Ul K H0 H t σ A->σ.length=t.length:=by
 intro _ _ _ h
 induction h with
 |nil=>rfl
 |@no _ _ _ _ r ih=>simp[ih]
 |@val _ _ _ _ _ _ r ih=>simp[ih]
 |@own _ _ _ _ _ _ _ _ r ih=>simp[ih]
 |@dp _ _ _ _ _ _ _ r ih=>simp[ih]
def Ul.Zu:∀{t:Th}{σ:L2.St}{A:Ql XW},Ul K H0 H t σ A->∀{i:Nat}{d:D},t[i]?=Qs (.val d)->∃v,σ[i]?=Qs (Qs v)/\Rep K H0 d v:=by
 intro _ _ _ h
 induction h with
 |nil=>intro i d e;simp at e
 |@no _ _ _ _ r ih=>
  intro i d e;cases i with
  |zero=>simp at e
  |succ i=>
   simp_all
 |@val _ v _ _ _ h r ih=>
  intro i d e;cases i with
  |zero=>
   simp_all
  |succ i=>
   simp_all
 |@own _ _ _ _ _ _ _ _ r ih=>
  intro i d e;cases i with
  |zero=>simp at e
  |succ i=>
   simp_all
 |@dp _ _ _ _ _ _ _ r ih=>
  intro i d e;cases i with
  |zero=>simp at e
  |succ i=>
   simp_all
inductive zks(K:OQ)(H0 H:Hp)(σ:L2.St)(A:List XW)(i:Nat)(ds:List D):Prop
 |mk (p vs:_) (_:σ[i]?=Qs (Qs (.ref p))) (_:p∈A) (_:H p=Qs (.lst vs)) (_:TZ K H0 ds vs)
def Ul.WV:∀{t:Th}{σ:L2.St}{A:Ql XW},Ul K H0 H t σ A->∀{i:Nat}{ds:Ql D},t[i]?=Qs (.own ds)->zks K H0 H σ A i ds:=by
 intro _ _ _ h
 induction h with
 |nil=>simp
 |@no _ _ _ _ r ih=>
  intro i d e;cases i with
  |zero=>simp at e
  |succ i=>obtain⟨p,vs,a,b,c,f⟩:=ih (e);exact⟨p,vs,a,b,c,f⟩
 |@val _ v _ _ _ h r ih=>
  intro i d e;cases i with
  |zero=>simp at e
  |succ i=>obtain⟨p,vs,a,b,c,f⟩:=ih (e);exact⟨p,vs,a,b,c,f⟩
 |@own p vs _ _ _ _ h1 h2 r ih=>
  intro i d e;cases i with
  |zero=>simp at e;subst e;exact⟨p,vs,rfl,OU ..,h1,h2⟩
  |succ i=>obtain⟨p,vs,a,b,c,f⟩:=ih (e);exact⟨p,vs,a,OS _ b,c,f⟩
 |@dp _ _ _ _ _ _ _ r ih=>
  intro i d e;cases i with
  |zero=>simp at e
  |succ i=>obtain⟨p,vs,a,b,c,f⟩:=ih (e);exact⟨p,vs,a,OP _ b,c,f⟩
inductive GDp(K:OQ)(H0 H:Hp)(σ:L2.St)(A:List XW)(i:Nat)(d:D):Prop
 |mk (v B:_) (_:σ[i]?=Qs (Qs v)) (_:(∀b∈B,b∈A)) (_:B.Nodup) (_:UC K H0 H d v B)
def Ul.zcP:∀{t:Th}{σ:L2.St}{A:Ql XW},Ul K H0 H t σ A->A.Nodup->∀{i:Nat}{d:D},t[i]?=Qs (.dp d)->GDp K H0 H σ A i d:=by
 intro _ _ _ h
 induction h with
 |nil=>simp
 |@no _ _ _ _ r ih=>
  intro n i d e;cases i with
  |zero=>simp at e
  |succ i=>obtain⟨v,B,a,b,n',c⟩:=ih n (e);exact⟨v,B,a,b,n',c⟩
 |@val _ v _ _ _ h r ih=>
  intro n i d e;cases i with
  |zero=>simp at e
  |succ i=>obtain⟨v,B,a,b,n',c⟩:=ih n (e);exact⟨v,B,a,b,n',c⟩
 |@own _ _ _ _ _ _ _ _ r ih=>
  intro n i d e;cases i with
  |zero=>simp at e
  |succ i=>obtain⟨v,B,a,b,n',c⟩:=ih (O7.mp n).2 (e);exact⟨v,B,a,λx hx=>OS _ (b x hx),n',c⟩
 |@dp _ v B _ _ _ h r ih=>
  intro n i d e;cases i with
  |zero=>simp at e;subst e;exact⟨v,B,rfl,λx hx=>OR _ hx,(O4.mp n).1,h⟩
  |succ i=>obtain⟨v,B,a,b,n',c⟩:=ih (O4.mp n).2.1 (e);exact⟨v,B,a,λx hx=>OP _ (b x hx),n',c⟩
structure Gr(A:List XW)(H:Hp)(A':List XW)(H':Hp):Prop where
 kp:∀b o,b∉A->H b=Qs o->H' b=Qs o
 al:∀b∈A,H' b≠Qn
 nw:∀b∈A',b∈A\/H b=Qn
def Gr.refl(m:US H A):Gr A H A H:=⟨λ_ _ _ h=>h,λb hb=>by obtain⟨vs,q⟩:=m b hb;rw[q];simp,λb h=>.inl h⟩
def Gr.of_same(m:US H A)(e:TJ H H'):Gr A H A H':=⟨λ_ _ _ h=>e _ _ h,λb hb=>by obtain⟨vs,q⟩:=m b hb;rw[e _ _ q];simp,λb h=>.inl h⟩
def Gr.trans(a:Gr A H A1 H1)(b:Gr A1 H1 A2 H2):Gr A H A2 H2 where
 kp:=λx o n h=>b.kp x o (λz=>by rcases a.nw x z with q|q;exact n q;lia) (a.kp x o n h)
 al:=λx hx=>by
  by_cases z:x∈A1
  .exact b.al x z
  .have:=a.al x hx;cases q:H1 x with
   |none=>exact absurd q this
   |some o=>rw[b.kp x o z q];simp
 nw:=λx hx=>by
  rcases b.nw x hx with q|q
  .exact a.nw x q
  .by_cases z:x∈A
   .exact .inl z
   .refine .inr ?_;cases w:H x with
    |none=>rfl
    |some o=>rw[a.kp x o z w]at q;assumption
def Gr.same(g:Gr A H A' H'):TJ (ag (A++F) H) (ag (A'++F) H'):=λb o h=>by
 obtain⟨n,h⟩:=bN h;have n1:b∉A:=λz=>n (OR _ z);refine aU (g.kp b o n1 h) λz=>?_;rcases OT.mp z with z|z
 .rcases g.nw b z with q|q
  .exact n1 q
  lia
 .exact n (OP _ z)
end DL
variable{kt:DL.D->DL.Th->Qo DL.Th}
namespace DL
open PySem.Spec L2
abbrev DE:=Th->Qo Ev
inductive dE(K:OQ)(F:List XW)(f:DE)(σ:L2.St)(H:Hp)(Q:VK):Prop
 |mk (A t r:_) (_:RS K F H A t σ) (_:f t=Qs r) (_:∀v H',TJ H H'->UE K F A H H' r v->Q v H')
def PE.imp(h:PE X e t)(i:∀σ H Q,t' σ H Q->t σ H Q):PE X e t':=λpins s σ H Q I q=>h _ s σ H Q I (i σ H Q q)
section
variable {X:Cx}{F:Ql XW}{a b c:XY}{fa fb fc:DE}
def af(i:Nat):DE:=λt=>match t[i]? with
 |some (.val d)=>Qs (.cl d)
 |some (.own xs)=>Qs (.tm (.lst xs))
 |some (.dp d)=>Qs (.tm d)
 |_=>Qn
def aa(i:Nat)(hN:X.N[i]?=Qs x:=by rfl)(hv:autoParam (cJ X.env.scope x) qzA._auto_1)(hd:Vf x:=by decide) (UY:VX x:=by decide):PE X (.Name x pos) (dE X.K F (af i)):=by
 refine PE.imp (dg (i:=i) hN hv hd UY) ?_;rintro σ H Q ⟨A,t,r,R,e,h⟩;unfold af at e;split at e
 .rename_i d q;cases e;obtain⟨v,h1,h2⟩:=R.rel.Zu q;exact⟨v,h1,h v H (TJ.refl H) h2⟩
 .rename_i ds q;cases e;obtain⟨p,vs,h1,h2,h3,h4⟩:=R.rel.WV q;refine⟨_,h1,h _ H (TJ.refl H) ?_⟩;exact .lst (Ux.of (aU h3 (R.dj p h2))) (TZ.mono (aS H λa z=>OP _ z) h4)
 .rename_i d q;cases e;obtain⟨v,B,h1,h2,h0,h3⟩:=R.rel.zcP R.nd q;refine⟨_,h1,h _ H (TJ.refl H) ?_⟩;exact h3.rep (aS H λa z=>OP _ z) λb hb o w=>aU w (R.dj b (h2 b hb))
 .cases e
def dC(d:D):DE:=λ_=>Qs (.cl d)
def aJ:PE X (.Constant (.int i) j pos) (dE X.K F (dC (.int i))):=PE.imp wJ λσ H Q ⟨A,t,r,R,e,h⟩=>by cases e;exact h _ H (TJ.refl H) (.int i)
def rF{b j pos}:PE X (.Constant (.bool b) j pos) (dE X.K F (dC (.bl b))):=PE.imp J9 λσ H Q ⟨A,t,r,R,e,h⟩=>by cases e;exact h _ H (TJ.refl H) (.bl b)
def nY:PE X (.Constant .none j pos) (dE X.K F (dC .Uz)):=PE.imp J1 λσ H Q ⟨A,t,r,R,e,h⟩=>by cases e;exact h _ H (TJ.refl H) .Uz
def VC(X:Cx)(F:Ql XW)(f:Pl->Pl->Sem Pl)(k:Ev->Ev->Qo Ev):Prop:=∀(pins:Ql (XW×Obj)) (s:Pf) (σ:L2.St) (H0 H:Hp) (A:Ql XW) (x y:V) (v u:Pl) (Q:VK) (r1 r2 r:Ev),Inv X pins σ H s->US H0 (A++F)->TJ H0 H->RelV x v->RelV y u->UE X.K F A H0 H r1 x->UE X.K F A H0 H r2 y->k r1 r2=Qs r->(∀z H',TJ H H'->UE X.K F A H0 H' r z->Q z H')->wpAny (model X.prog X.w) X.A (f v u) (EP X pins σ Q) X.xe s
def d2(k:Ev->Ev->Qo Ev)(fa fb:DE):DE:=λt=>(fa t).bind λr1=>(fb t).bind λr2=>k r1 r2
inductive Two(X:Cx)(F:List XW)(fa fb:DE)(k:Ev->Ev->Option Ev)(σ:L2.St)(H:Hp)(Q:VK):Prop
 |mk (A t r1 r2 r:_) (_:RS X.K F H A t σ) (_:fa t=Qs r1) (_:fb t=Qs r2) (_:k r1 r2=Qs r) (_:(∀v H',TJ H H'->UE X.K F A H H' r v->Q v H')) (_:dE X.K F fa σ H λx H1=>dE X.K F fb σ H1 λy H2=>TJ H H2/\UE X.K F A H H2 r1 x/\UE X.K F A H H2 r2 y)
def two(h:dE X.K F (d2 k fa fb) σ H Q):Two X F fa fb k σ H Q:=by obtain⟨A,t,r,R,e,h⟩:=h;refine aq e λr1 e1 e=>?_;refine aq e λr2 e2 e=>?_;exact⟨A,t,r1,r2,r,R,e1,e2,e,h,A,t,r1,R,e1,λx H1 g1 q1=>⟨A,t,r2,R.grow g1,e2,λy H2 g2 q2=>⟨g1.trans g2,q1.mono g2,q2.back g1⟩⟩⟩
def bG(ho:VC X F (binaryOp op) k)(ha:PE X a (dE X.K F fa))(hb:PE X b (dE X.K F fb)):PE X (.BinOp a op b pos) (dE X.K F (d2 k fa fb)):=by intro pins s σ H Q I h;obtain⟨A,t,r1,r2,r,R,e1,e2,e,h,w⟩:=two h;refine wpAny_BinOp (ub ha hb I w λv u s2 x y H2 I2 rx ry q=>?_);obtain⟨g,q1,q2⟩:=q;exact ho _ _ σ H _ A x y v u Q _ _ r I2 R.mu g rx ry q1 q2 e λz H' g'=>h z _ (g.trans g')
def kI(C:Int->Int->Bool)(g:Int->Int->D):Ev->Ev->Qo Ev:=λr1 r2=>match r1.d,r2.d with
 |.int i,.int j=>if C i j then Qs (.cl (g i j)) else Qn
 |_,_=>Qn
def bX (h:Rep K H (.int i) v):v=.int i:=by cases h;rfl
def ja(h:dJ X f (rI C g))(hc:∀i j,C' i j=Qt->C i j) (hg:∀H i j,Rep X.K H (g' i j) (g i j)):VC X F f (kI C' g'):=by
 intro pins s σ H0 H A x y v u Q r1 r2 r I m g0 rx ry q1 q2 e hq;have p1:=q1.full;have p2:=q2.full;unfold kI at e;split at e
 .rename_i i j d1 d2;split at e
  .rename_i c;cases e;rw[d1]at p1;rw[d2]at p2;cases bX p1;cases bX p2;exact h _ s σ H _ _ v u Q I rx ry ⟨i,j,rfl,rfl,hc i j c,hq _ H (TJ.refl H) (hg _ i j)⟩
  .cases e
 .cases e
def nR(h:dJ X f (jT g)):dJ X f (rI (λ_ _=>True) g):=λpins s σ H x y v u Q I rx ry ⟨i,j,e1,e2,_,q⟩=>h _ s σ H x y v u Q I rx ry ⟨i,j,e1,e2,q⟩
def gz:Int->Int->Bool:=λ_ _=>Qt
def Wy:VC X F (binaryOp .Add) (kI gz λi j=>.int (i+j)):=ja (nR Ko) (λ_ _ _=>trivial) λ_ _ _=>.int _
def wO:VC X F (binaryOp .Sub) (kI gz λi j=>.int (i-j)):=ja (nR Kd) (λ_ _ _=>trivial) λ_ _ _=>.int _
def Ve:Nat:=2^4096
def sm(i:Int):Bool:=decide (i.natAbs<Ve)
def XQ(i j:Int):Bool:=sm i&&sm j
def Yh(_ j:Int):Bool:=sm j&&decide (j≠0)
def C7(h:n<2^k):n.log2<=k:=by
 by_cases z:n=0
 .subst z;simp
 .exact Rm ((VP z).mpr h)
def XQ.ok(h:XQ i j=Qt):IntMulOk i j:=by
 simp only[XQ,sm,O6,VH]at h;refine mulOk_of_bits (m:=4097) (n:=4097) ?_ ?_ (by decide)
 .exact intBits_le (O9 h.1 (by exact QC (by decide) (by decide)))
 .exact intBits_le (O9 h.2 (by exact QC (by decide) (by decide)))
def Xu:VC X F (binaryOp .Mult) (kI XQ λi j=>.int (i*j)):=ja (C:=IntMulOk) (n8 λ_ _ _ _ _ _ _ hc q=>mul_int q hc) (λ_ _ h=>XQ.ok h) λ_ _ _=>.int _
def Yh.ok(h:Yh i j=Qt):j≠0/\j.natAbs.log2<9000:=by simp only[Yh,sm,O6,VH]at h;have:=C7 h.1;exact⟨h.2,by lia⟩
def kW:VC X F (binaryOp .FloorDiv) (kI Yh λi j=>.int (i.fdiv j)):=ja (C:=λ_ j=>j≠0/\j.natAbs.log2<9000) (n8 λ_ _ _ _ _ _ _ hc q=>floordiv_int hc.1 q (.inl (PyProof.noPylong_of_log2 hc.2))) (λ_ _ h=>Yh.ok h) λ_ _ _=>.int _
def lI(_ j:Int):Bool:=decide (j≠0)
def jb:VC X F (binaryOp .Mod) (kI lI λi j=>.int (i.fmod j)):=ja Ki (λi j h=>by simpa[lI] using h) λ_ _ _=>.int _
def pf(i j:Int):Bool:=decide (0<=j/\j<=1000/\i.natAbs<18446744073709551616)
def wQ:VC X F (binaryOp .Pow) (kI pf λi j=>.int (i^j.toNat)):=ja Kf (λi j h=>by
 simp only[pf,VH]at h;exact⟨h.1,by lia,by lia⟩) λ_ _ _=>.int _
def rP:VC X F (compareOp .Lt) (kI gz λi j=>.bl (decide (i<j))):=ja (nR Kj) (λ_ _ _=>trivial) λ_ _ _=>.bl _
def La:VC X F (compareOp .LtE) (kI gz λi j=>.bl (decide (i<=j))):=ja (nR Kk) (λ_ _ _=>trivial) λ_ _ _=>.bl _
def mq:VC X F (compareOp .Gt) (kI gz λi j=>.bl (decide (j<i))):=ja (nR Km) (λ_ _ _=>trivial) λ_ _ _=>.bl _
def k6(k k':Ev->Ev->Qo Ev):Ev->Ev->Qo Ev:=λr1 r2=>match k r1 r2 with
 |some r=>Qs r
 |none=>k' r1 r2
def VC.or(h:VC X F f k)(h':VC X F f k'):VC X F f (k6 k k'):=by
 intro pins s σ H0 H A x y v u Q r1 r2 r I m g0 rx ry q1 q2 e hq;unfold k6 at e;split at e
 .rename_i z;cases e;exact h _ s σ _ H A x y v u Q _ _ _ I m g0 rx ry q1 q2 z hq
 .exact h' _ s σ _ H A x y v u Q _ _ _ I m g0 rx ry q1 q2 e hq
def d1(k:Ev->Qo Ev)(fa:DE):DE:=λt=>(fa t).bind k
def sv:Ev->Qo Ev:=λr=>match r.d with
 |.int i=>Qs (.cl (.int (-i)))
 |_=>Qn
def BL(ha:PE X a (dE X.K F fa)):PE X (.UnaryOp .USub a pos) (dE X.K F (d1 sv fa)):=by
 refine PE.imp (J0 Gp ha) ?_;rintro σ H Q ⟨A,t,r,R,e,h⟩;unfold d1 at e;refine aq e λr1 e1 e=>?_;refine⟨A,t,r1,R,e1,λx H1 g1 q1=>?_⟩;have e:sv r1=Qs r:=e;unfold sv at e;split at e
 .rename_i i z;cases e;have p:=q1.full;rw[z]at p;exact⟨i,bX p,h _ _ g1 (.int _)⟩
 .cases e
end
end DL
variable{fb:DL.DE}{fc:DL.DE}{fo:DL.DE}
namespace DL
open PySem.Spec L2
inductive Vj(K:OQ)(F A:List XW)(H H':Hp):List Ev->List V->Prop
 |nil:Vj K F A H H' [] []
 |cons {r:Ev}{v:V}{rs:List Ev}{vs:List V}:UE K F A H H' r v->Vj K F A H H' rs vs->Vj K F A H H' (r::rs) (v::vs)
theorem Vj.back{K:OQ}(e:TJ H0 H):∀{rs:Ql Ev}{vs:Ql V},Vj K F A H H1 rs vs->Vj K F A H0 H1 rs vs
 |_,_,.nil=>.nil
 |_,_,.cons h r=>.cons (h.back e) (Vj.back e r)
theorem Vj.full{K:OQ}:∀{rs:Ql Ev}{vs:Ql V},Vj K F A H H' rs vs->TZ K H' (rs.map Ev.d) vs
 |_,_,.nil=>.nil
 |_,_,.cons h r=>.cons h.full (Vj.full r)
theorem Vj.Xz{K:OQ}(m:US H (A++F)):∀{rs:Ql Ev}{vs:Ql V},Vj K F A H H' rs vs->TZ K (ag F H') (rs.map Ev.d) vs
 |_,_,.nil=>.nil
 |_,_,.cons h r=>.cons (h.Xz m) (Vj.Xz m r)
theorem Vj.clean{K:OQ}(m:US H (A++F))(e:TJ H H'):∀{rs:Ql Ev}{vs:Ql V},Vj K F A H H' rs vs->rs.all Ev.ok=Qt->TZ K (ag (A++F) H') (rs.map Ev.d) vs
 |_,_,.nil,_=>.nil
 |_,_,.cons h r,c=>by simp only[QA,O6]at c;exact .cons (h.clean m e c.1) (Vj.clean m e r c.2)
abbrev DA:=Th->Qo (Ql Ev)
inductive dA(K:OQ)(F:List XW)(f:DA)(σ:L2.St)(H:Hp)(Q:List V->Hp->Prop):Prop
 |mk (A t rs:_) (_:RS K F H A t σ) (_:f t=Qs rs) (_:∀vs H',TJ H H'->Vj K F A H H' rs vs->Q vs H')
def PA.imp(h:PA X e t)(i:∀σ H Q,t' σ H Q->t σ H Q):PA X e t':=λpos pins s σ H Q I q=>h _ _ s σ H Q I (i σ H Q q)
def ao:DA:=λ_=>Qs []
def ae(f:DE)(g:DA):DA:=λt=>(f t).bind λr=>(g t).bind λrs=>Qs (r::rs)
section
variable {X:Cx}{F:Ql XW}{a b c:XY}{es:Ql XY}{fa:DE}{g:DA}
def aD:PA X [] (dA X.K F ao):=PA.imp fJ λσ H Q ⟨A,t,rs,R,e,h⟩=>by cases e;exact h _ H (TJ.refl H) .nil
def au(ha:PE X a (dE X.K F fa))(hr:PA X es (dA X.K F g))(hs:Pc (a::es) X.env=(Qf,eval a X.env)::Pc es X.env:=by rfl):PA X (a::es) (dA X.K F (ae fa g)):=by refine PA.imp (fj ha hr hs) ?_;rintro σ H Q ⟨A,t,rs,R,e,h⟩;refine aq e λr1 e1 e=>?_;refine aq e λrs2 e2 e=>?_;cases e;exact⟨A,t,r1,R,e1,λx H1 g1 q1=>⟨A,t,rs2,R.grow g1,e2,λxs H2 g2 q2=>h _ _ (g1.trans g2) (.cons (q1.mono g2) (q2.back g1))⟩⟩
def dW:Ql Ev->Qo Ev:=λrs=>if rs.length<=1000 then(if rs.all Ev.ok then Qs (.cl (.tup (rs.map Ev.d))) else Qs (.tm (.tup (rs.map Ev.d)))) else Qn
def ai(k:Ql Ev->Qo Ev)(g:DA):DE:=λt=>(g t).bind k
theorem Vj.length{K:OQ}:∀{rs:Ql Ev}{vs:Ql V},Vj K F A H H' rs vs->vs.length=rs.length
 |_,_,.nil=>rfl
 |_,_,.cons _ r=>by simp[Vj.length r]
def X4(h:n<=100000):n<=PD:=PJ h (by decide)
def du(h:H p=Qn):TJ H (upd H p o):=λb u e=>by rw[aC (λz=>by lia)];assumption
def jZ(h:PA X es (dA X.K F g)):PE X (.Tuple es x1 pos) (dE X.K F (ai dW g)):=by
 refine PE.imp (rG h) ?_;rintro σ H Q ⟨A,t,r,R,e,h⟩;unfold ai at e;refine aq e λrs e1 e=>?_;have e:dW rs=Qs r:=e;unfold dW at e;refine bJ e λhl e=>?_;refine⟨A,t,rs,R,e1,λvs H1 g1 q1=>⟨by rw[q1.length];exact X4 (by lia),λp hp=>?_⟩⟩;have s1:=du (o:=HO.tup vs) hp;refine h _ _ (g1.trans s1) ?_;have np:p∉A++F:=dQ (R.mu.mono g1) hp;split at e
 .rename_i c;cases e;exact .tup (UJ.of (aU aM np)) (TZ.mono (ck s1) (q1.clean R.mu g1 c))
 .cases e;exact .tup (UJ.of (aU aM λz=>np (OP _ z))) (TZ.mono (ck s1) (q1.Xz R.mu))
def cT:Ql Ev->Qo Ev:=λrs=>if rs.length<=1000/\rs.all Ev.ok then Qs (.nw (rs.map Ev.d)) else Qn
def ie(h:H p=Qn):TJ (ag P H) (ag (p::P) (upd H p o)):=λb u e=>by
 obtain⟨n,e⟩:=bN e;have nb:b≠p:=λz=>by lia
 refine aU (by rw[aC nb];assumption) λz=>?_
 simp_all
def fh(h:PA X es (dA X.K F g)):PE X (.List es pos) (dE X.K F (ai cT g)):=by refine PE.imp (J4 h) ?_;rintro σ H Q ⟨A,t,r,R,e,h⟩;refine aq e λrs e1 e=>?_;refine bJ e λhl e=>?_;cases e;refine⟨A,t,rs,R,e1,λvs H1 g1 q1=>⟨by rw[q1.length];exact X4 (by lia),λp hp=>?_⟩⟩;refine h _ _ (g1.trans (du (o:=HO.lst vs) hp)) ⟨p,vs,rfl,?_,aM,TZ.mono (ie hp) (q1.clean R.mu g1 hl.2)⟩;exact TJ.free g1 hp
inductive Xr(K:OQ)(G:List D->Option Ev)(vs:List V)(H:Hp)(Q:VK)(x_:XK):Prop
 |mk (Fo ds r:_) (_:US H Fo) (_:TZ K (ag Fo H) ds vs) (_:G ds=Qs r) (_:∀v H',TJ H H'->UE K Fo [] H H' r v->Q v H')
def iV(ok:Bool)(r:Ev):Ev:=if ok then(match r with
  |.cl d=>.cl d
  |.tm d=>.cl d
  |.nw xs=>.nw xs
  |.dn d=>.dn d) else match r with
  |.cl d=>if flat d then .cl d else .tm d
  |.tm d=>if flat d then .cl d else .tm d
  |.nw xs=>if UD xs then .nw xs else .tm (.lst xs)
  |.dn d=>.dn d
def aX(G:Ql D->Qo Ev):Ql Ev->Qo Ev:=λrs=>(G (rs.map Ev.d)).map (iV (rs.all Ev.ok))
def Fq (m:US H0 (A++F))(g:TJ H0 H)(q:Vj K F A H0 H rs vs)(e:aX G rs=Qs r) (h:∀v H',TJ H H'->UE K F A H0 H' r v->Q v H'):Xr K G vs H Q E:=by
 unfold aX at e;rcases e1:G _ with _|r0
 .rw[e1]at e;cases e
 rw[e1]at e;have e:=by simpa using e
 have mH:=m.mono g;by_cases c:rs.all Ev.ok=Qt
 .refine⟨_,_,r0,mH,q.clean m g c,e1,λv H' g' w=>h v _ g' ?_⟩;rw[c]at e;subst e;cases r0 with
  |cl d=>assumption
  |tm d=>assumption
  |nw xs=>obtain⟨p,us,rfl,h1,h2,h3⟩:=w;exact⟨p,us,rfl,TJ.free g h1,h2,h3⟩
  |dn d=>obtain⟨B,h1,h2,h3⟩:=w;exact⟨B,h1,λb hb=>TJ.free g (h2 b hb),h3⟩
 .refine⟨F,_,r0,λp hp=>mH p (OP _ hp),q.Xz m,e1,λv H' g' w=>h v _ g' ?_⟩;have c:rs.all Ev.ok=Qf:=by lia
  rw[c]at e;subst e;have m':=mH.mono g';cases r0 with
  |cl d=>
   show UE K F A _ _ (if flat d then .cl d else .tm d) v;split
   .rename_i f;exact Rep.U8 m' f (Rep.mono (aR _ _) w)
   assumption
  |tm d=>
   show UE K F A _ _ (if flat d then .cl d else .tm d) v;split
   .rename_i f;exact Rep.U8 m' f (Rep.mono (aR _ _) w)
   assumption
  |nw xs=>
   obtain⟨p,us,rfl,h1,h2,h3⟩:=w;have np:=dQ mH h1;show UE K F A _ _ (if UD _ then .nw _ else .tm _) _;split
   .rename_i f;refine⟨p,us,rfl,TJ.free g h1,h2,TZ.U8 (λb hb=>?_) f (TZ.mono (aR _ _) h3)⟩;rcases OZ.mp hb with rfl|hb
    .exact⟨mL _,h2⟩
    .exact m' b hb
   .exact .lst (Ux.of (aU h2 λz=>np (OP _ z))) (TZ.mono (aS _ λb z=>OS _ z) h3)
  |dn d=>obtain⟨B,h1,h2,h3⟩:=w;exact⟨B,h1,λb hb=>TJ.free g (h2 b hb),h3.U8 (h3.lists.app m') (aR _ _)⟩
def JZ{p:Pos}(Fn:Vn X.prog X.w X.K X.mg X.base bT k f fd ps (Xr X.K G))(hr:UU k X.A)(hg:Gl X x)(hm:X.mg x=Qs (.ref f))(hk:Qh X.K (.ref f)=Qt) (hb:Binds X.K fd ps []) (ha:PA X (a::es) (dA X.K F g)) (Ws:Vf x:=by decide) (he:Pc (a::es) X.env=(Qf,eval a X.env)::Pc es X.env:=by rfl) (Vu:(Rc pos (Pc es X.env)).any (·.1)=Qf:=by rfl):PE X (.Call (.Name x p) (a::es) [] pos) (dE X.K F (ai (aX G) g)):=by refine PE.imp (BR Fn hr hg hm hk hb .nil kT ha Ws he Vu) ?_;rintro σ H Q ⟨A,t,r,R,e,h⟩;refine aq e λrs e1 e=>?_;refine⟨A,t,rs,R,e1,λvs H1 g1 q1=>?_⟩;rw[PH];exact Fq R.mu g1 q1 e λv H' g' w=>h v _ (g1.trans g') w
def VY(X:Cx)(F:Ql XW)(f:Pl)(k:Ql Ev->Qo Ev):Prop:=∀(pins:Ql (XW×Obj)) (s:Pf) (σ:L2.St) (H0 H:Hp) (A:Ql XW) (xs:Ql V) (us:Ql Pl) (Q:VK) (rs:Ql Ev) (r:Ev),Inv X pins σ H s->US H0 (A++F)->TJ H0 H->Vals xs us->Vj X.K F A H0 H rs xs->k rs=Qs r-> (∀z H',TJ H H'->UE X.K F A H0 H' r z->Q z H')->wpAny (model X.prog X.w) X.A (call f us) (EP X pins σ Q) X.xe s
def PA.run(ha:PA X es (dA X.K F g))(hc:VY X F f k){σ:L2.St}(p:Pos)(I:Inv X pins σ H s)(h:dE X.K F (ai k g) σ H Q):wpAny (model X.prog X.w) X.A (spliced (Rc p (Pc es X.env))) (λus s1=>wpAny (model X.prog X.w) X.A (call f us) (EP X pins σ Q) X.xe s1) X.xe s:=by obtain⟨A,t,r,R,e,h⟩:=h;refine aq e λrs e1 e=>?_;refine aA (ha p _ s σ H (λvs H1=>TJ H _/\Vj _ F A H _ _ _) I ⟨A,t,rs,R,e1,λvs H1 g1 q1=>⟨g1,q1⟩⟩) λus s1 ⟨vs,H1,I1,r1,g1,q1⟩=>?_;exact hc _ _ σ H _ A _ _ Q _ r I1 R.mu g1 r1 q1 e λz H' g'=>h z _ (g1.trans g')
def cQ{p:Pos}{id:String}(hc:VY X F (.builtin id) k)(hg:Gl X x)(hm:X.mg x=Qn)(hv:bootBuiltins x=Qs (.builtin id))(ha:PA X (a::es) (dA X.K F g))(hn:x≠"__name__":=by decide)(Ws:Vf x:=by decide) (he:Pc (a::es) X.env=(Qf,eval a X.env)::Pc es X.env:=by rfl) (Vu:(Rc pos (Pc es X.env)).any (·.1)=Qf:=by rfl):PE X (.Call (.Name x p) (a::es) [] pos) (dE X.K F (ai k g)):=by intro pins s σ H Q I h;refine wpAny_Call_Name_kw (hZ I hg hm hv ?_ hn Ws);exact PyProof.Rows.callWith_builtin1 (PA.run ha hc _ I h) he Vu
def rE{p:Pos}(hc:VY X F (.type T) k)(hg:Gl X x)(hm:X.mg x=Qn)(hv:bootBuiltins x=Qs (.type T))(ha:PA X (a::es) (dA X.K F g))(hn:x≠"__name__":=by decide)(Ws:Vf x:=by decide) (he:Pc (a::es) X.env=(Qf,eval a X.env)::Pc es X.env:=by rfl) (Vu:(Rc pos (Pc es X.env)).any (·.1)=Qf:=by rfl):PE X (.Call (.Name x p) (a::es) [] pos) (dE X.K F (ai k g)):=by intro pins s σ H Q I h;refine wpAny_Call_Name_kw (hZ I hg hm hv ?_ hn Ws);exact PyProof.Rows.callWith_type1 (PA.run ha hc _ I h) he Vu
def VY.of(h:gq X f r) (i:∀(H0 H:Hp) (A:Ql XW) (xs:Ql V) (rs:Ql Ev) (e:Ev) (Q:VK),US H0 (A++F)->TJ H0 H->Vj X.K F A H0 H rs xs->k rs=Qs e->(∀z H',TJ H H'->UE X.K F A H0 H' e z->Q z H')->r xs H Q):VY X F f k:=λpins s σ H0 H A xs us Q rs e I m g v q ek hq=>h _ s σ H _ _ Q I v (i _ H A _ _ e Q m g q ek hq)
def oG:Ql Ev->Qo Ev:=λrs=>match rs with
 |[r]=>(match r.d with
  |.int i=>Qs (.cl (.int (if i<0 then-i else i)))
  |_=>Qn)
 |_=>Qn
def Fj:VY X F (.builtin "abs") oG:=VY.of Of λH0 H A xs rs e Q m g q ek hq=>by
 unfold oG at ek;split at ek
 .rename_i r;split at ek
  .rename_i i z;cases ek;cases q with
   |cons q1 q2=>cases q2;have p:=q1.full;rw[z]at p;cases bX p;exact⟨i,rfl,hq _ H (TJ.refl H) (.int _)⟩
  .cases ek
 .cases ek
def bI:Ql Ev->Qo Ev:=λrs=>match rs with
 |[r]=>(match r.d with
  |.lst xs=>Qs (.cl (.int xs.length))
  |.tup xs=>Qs (.cl (.int xs.length))
  |_=>Qn)
 |_=>Qn
def gn:VY X F (.builtin "len") bI:=VY.of Oe λH0 H A xs rs e Q m g q ek hq=>by
 unfold bI at ek;split at ek
 .cases q with
  |cons q1 q2=>
   cases q2;have p:=q1.full;split at ek
   .rename_i ds z;cases ek;rw[z]at p;cases p with
    |lst h1 h2=>exact⟨_,_,rfl,.inl h1,by rw[h2.length];exact hq _ H (TJ.refl H) (.int _)⟩
   .rename_i ds z;cases ek;rw[z]at p;cases p with
    |tup h1 h2=>exact⟨_,_,rfl,.inr h1,by rw[h2.length];exact hq _ H (TJ.refl H) (.int _)⟩
   .cases ek
 .cases ek
end
end DL
variable{ga:DL.DA}
namespace DL
open PySem.Spec L2
abbrev DT:=Th->Qo Bool
inductive dT(K:OQ)(F:List XW)(f:DT)(σ:L2.St)(H:Hp)(Q:Bool->Hp->Prop):Prop
 |mk (A t b:_) (_:RS K F H A t σ) (_:f t=Qs b) (_:∀H',TJ H H'->Q b H')
def PT.imp(h:PT X e t)(i:∀σ H Q,t' σ H Q->t σ H Q):PT X e t':=λpins s σ H Q I q=>h _ s σ H Q I (i σ H Q q)
def PW.imp(h:PW X e t)(i:∀σ H Q,t' σ H Q->t σ H Q):PW X e t':=λw pins s σ H Q I q=>h w _ s σ H Q I (i σ H Q q)
noncomputable def uD:D->Qo Bool
 |.Uz=>Qs Qf
 |.bl b=>Qs b
 |.int i=>Qs (i !=0)
 |.tup xs=>Qs (!xs.isEmpty)
 |.lst xs=>Qs (!xs.isEmpty)
 |.U1 ks _=>Qs (!ks.isEmpty)
 |.Vp _=>Qn
 |.We _=>Qn
 |.adr _=>Qn
 |.UI _=>Qn
 |.obj _ _ _=>Qn
 |.str y=>if y.length<=100000 then Qs ((y.length:Int) !=0) else Qn
def xN{α β:Type}{xs:Ql α}{ys:Ql β}(h:xs.length=ys.length):xs.isEmpty=ys.isEmpty:=by cases xs<;>cases ys<;>simp_all
def GD (r:Rep K H d v)(e:uD d=Qs b):zu K v H b:=by
 cases r with
 |Uz=>cases e;rfl
 |bl b=>cases e;rfl
 |int i=>cases e;rfl
 |str x=>
  simp only[uD]at e;split at e
  .cases e;exact⟨X4 (‹_›),rfl⟩
  .cases e
 |tup h1 h2=>cases e;exact .inr (.inl ⟨_,h1,by rw[xN h2.length]⟩)
 |lst h1 h2=>cases e;exact .inl ⟨_,h1,by rw[xN h2.length]⟩
 |@U1 ks ds p vs l h1 h2=>
  cases e;have e1:(d5 ks vs).length=ks.length:=by unfold d5;rw[Si];lia
  exact .inr (.inr ⟨_,h1,by rw[xN e1]⟩)
 |Vp h=>cases e
 |We h=>cases e
 |adr _=>cases e
 |UI _=>cases e
 |obj _ _ _=>cases e
def tu(f:DE):DT:=λt=>(f t).bind λr=>uD r.d
def aH(f:DE):DT:=λt=>(f t).bind λr=>match r.d with
 |.bl b=>Qs b
 |_=>Qn
def tG(c:DT)(fa fb:DE):DE:=λt=>(c t).bind λb=>if b then fa t else fb t
def o6(f g:DT):DT:=λt=>(f t).bind λb=>if b then g t else Qs Qf
def lE(f g:DT):DT:=λt=>(f t).bind λb=>if b then Qs Qt else g t
def EX(f:DT):DT:=λt=>(f t).bind λb=>Qs (!b)
section
variable {X:Cx}{F:Ql XW}{a b c:XY}{es:Ql XY}{fa:DE}{g g':DA}{ft fu:DT}
def vU(ha:PE X a (dE X.K F fa))(he:∀whole,isTrue a X.env whole=(do let v<-whole;standAt a.pos;holding [v] (truthy v)):=by intro _;rfl):PT X a (dT X.K F (tu fa)):=by refine PT.imp (IW ha he) ?_;rintro σ H Q ⟨A,t,r,R,e,h⟩;refine aq e λr1 e1 e=>?_;exact⟨A,t,r1,R,e1,λv H' g' q=>⟨r,GD q.full e,h _ g'⟩⟩
def cb(ho:VC X F (compareOp op) k)(ha:PE X a (dE X.K F fa))(hb:PE X b (dE X.K F fb))(hm:behindInMarks op b=Qf:=by first|exact Cg _|(with_unfolding_all rfl)):PT X (.Compare a [op] [b] pos) (dT X.K F (aH (d2 k fa fb))):=by
 intro pins s σ H Q I h;obtain⟨A,t,b',R,e,h⟩:=h;unfold aH at e;refine aq e λr0 e1 e=>?_;have w0:dE X.K F (d2 k fa fb) σ H (λz H'=>TJ H H'/\Rep X.K H' r0.d z):=⟨A,t,r0,R,e1,λv H' g q=>⟨g,q.full⟩⟩;obtain⟨A2,t2,r1,r2,r,R2,Y6,e2',e3,h3,w⟩:=two w0;refine wpAny_isTrue_Compare1 (ub ha hb I w λv u s2 x y H2 I2 rx ry q=>?_) hm;obtain⟨g,q1,q2⟩:=q;refine aA (ho pins s2 σ H H2 A2 x y v u (λz H'=>TJ H H'/\Rep X.K H' r0.d z) r1 r2 r I2 R2.mu g rx ry q1 q2 e3 λz H' g'=>h3 z H' (g.trans g')) λcc s3 ⟨z,H3,I3,r3,g3,q3⟩=>?_;have e:(match r0.d with|.bl b=>Qs b|_=>Qn)=Qs b':=e;split at e
 .rename_i b2 z2;cases e;rw[z2]at q3;cases q3;cases r3;exact wpAny_truthy_bool ⟨H3,I3,h _ g3⟩
 .cases e
def IH(ha:PT X a (dT X.K F ft)):PW X (.BoolOp .And [a] pos) (dT X.K F ft):=Bb ha
def A8(ha:PT X a (dT X.K F ft)):PW X (.BoolOp .Or [a] pos) (dT X.K F ft):=A9 ha
def II(ha:PT X a (dT X.K F ft))(hb:PW X (.BoolOp .And (b::rest) pos) (dT X.K F fu)):PW X (.BoolOp .And (a::b::rest) pos) (dT X.K F (o6 ft fu)):=by
 refine PW.imp (IJ ha hb) ?_;rintro σ H Q ⟨A,t,r,R,e,h⟩;refine aq e λr1 e1 e=>?_;refine⟨A,t,r1,R,e1,λH1 g1=>?_⟩;cases r1 with
 |true=>exact⟨A,t,r,R.grow g1,e,λH2 g2=>h _ (g1.trans g2)⟩
 |false=>cases e;exact h _ g1
def vS(ha:PT X a (dT X.K F ft))(hb:PW X (.BoolOp .Or (b::rest) pos) (dT X.K F fu)):PW X (.BoolOp .Or (a::b::rest) pos) (dT X.K F (lE ft fu)):=by
 refine PW.imp (Ba ha hb) ?_;rintro σ H Q ⟨A,t,r,R,e,h⟩;refine aq e λr1 e1 e=>?_;refine⟨A,t,r1,R,e1,λH1 g1=>?_⟩;cases r1 with
 |true=>cases e;exact h _ g1
 |false=>exact⟨A,t,r,R.grow g1,e,λH2 g2=>h _ (g1.trans g2)⟩
def IU(ha:PT X a (dT X.K F ft)):PT X (.UnaryOp .Not a pos) (dT X.K F (EX ft)):=by refine PT.imp (IX ha) ?_;rintro σ H Q ⟨A,t,r,R,e,h⟩;refine aq e λr1 e1 e=>?_;cases e;exact⟨A,t,r1,R,e1,λH1 g1=>h _ g1⟩
def JW(hc:PT X c (dT X.K F ft))(ha:PE X a (dE X.K F fa))(hb:PE X b (dE X.K F fb)):PE X (.IfExp c a b pos) (dE X.K F (tG ft fa fb)):=by
 refine PE.imp (J5 hc ha hb) ?_;rintro σ H Q ⟨A,t,r,R,e,h⟩;refine aq e λr1 e1 e=>?_;refine⟨A,t,r1,R,e1,λH1 g1=>?_⟩;cases r1 with
 |true=>exact⟨A,t,r,R.grow g1,e,λv2 H2 g2 q2=>h _ _ (g1.trans g2) (q2.back g1)⟩
 |false=>exact⟨A,t,r,R.grow g1,e,λv2 H2 g2 q2=>h _ _ (g1.trans g2) (q2.back g1)⟩
end
inductive Out where
 |nx (t:Th)|rt (r:Ev)|bk (t:Th)|ct (t:Th)
abbrev DS:=Th->Qo Out
def After(K:OQ)(F A:Ql XW)(H:Hp)(N:L2.St->Hp->Prop)(t:Th):Prop:=∀σ' H' A',Gr A H A' H'->RS K F H' A' t σ'->N σ' H'
inductive zka(K:OQ)(F A:List XW)(H H':Hp)(xs:List D)(v:V):Prop
 |mk (p:XW) (vs:List V) (_:v=.ref p) (_:p∈A\/H p=Qn) (_:p∉F) (_:H' p=Qs (.lst vs)) (_:TZ K (ag (p::F) H') xs vs)
inductive zkb(K:OQ)(F A:List XW)(H H':Hp)(d:D)(v:V):Prop
 |mk (B:List XW) (_:B.Nodup) (_:∀b∈B,(b∈A\/H b=Qn)/\b∉F) (_:UC K (ag (B++F) H') H' d v B)
def WX(K:OQ)(F A:Ql XW)(H H':Hp):Ev->V->Prop
 |.cl d,v=>Rep K (ag F H') d v
 |.tm d,v=>Rep K (ag F H') d v
 |.nw xs,v=>zka K F A H H' xs v
 |.dn d,v=>zkb K F A H H' d v
def Back(K:OQ)(F A:Ql XW)(H:Hp)(N:VK)(r:Ev):Prop:=∀v H' A',Gr A H A' H'->WX K F A H H' r v->N v H'
inductive dS(K:OQ)(F:List XW)(g:DS)(E:Ends)(σ:L2.St)(H:Hp):Prop
 |mk (A:List XW) (t:Th) (o:Out) (_:RS K F H A t σ) (_:g t=Qs o) (_:match o with
 |.nx t'=>After K F A H E.nx t'
 |.bk t'=>After K F A H E.bk t'
 |.ct t'=>After K F A H E.ct t'
 |.rt r=>Back K F A H E.rt r)
end DL
variable{fu:DL.DT}
namespace DL
open PySem.Spec L2
def WX.back (g:Gr A H A1 H1)(h:WX K F A1 H1 H' r v):WX K F A H H' r v:=by
 cases r with
 |cl d=>assumption
 |tm d=>assumption
 |nw xs=>
  obtain⟨p,vs,rfl,h1,h2,h3,h4⟩:=h;refine⟨p,vs,rfl,?_,h2,h3,h4⟩;rcases h1 with h1|h1
  .exact g.nw p h1
  .by_cases z:p∈A
   .exact .inl z
   .refine .inr ?_;cases w:H p with
    |none=>rfl
    |some o=>rw[g.kp p o z w]at h1;assumption
 |dn d=>
  obtain⟨B,h0,h1,h2⟩:=h;refine⟨B,h0,λp hp=>⟨?_,(h1 p hp).2⟩,h2⟩;rcases(h1 p hp).1 with h1|h1
  .exact g.nw p h1
  .by_cases z:p∈A
   .exact .inl z
   .refine .inr ?_;cases w:H p with
    |none=>rfl
    |some o=>rw[g.kp p o z w]at h1;assumption
def After.back (h:After K F A H N t)(g:Gr A H A1 H1):After K F A1 H1 N t:=λσ' H' A' g' R=>h _ _ _ (g.trans g') R
theorem Back.back{K:OQ}(h:Back K F A H N r)(g:Gr A H A1 H1):Back K F A1 H1 N r:=λv H' A' g' R=>h v _ _ (g.trans g') (R.back g)
def PS.imp(h:PS X e t)(i:∀E σ H,t' E σ H->t E σ H):PS X e t':=λpins s σ H D I q=>h _ s σ H D I (i D σ H q)
def UL.imp(h:UL X e t)(i:∀E σ H,t' E σ H->t E σ H):UL X e t':=λpins s σ H D I q=>h _ s σ H D I (i D σ H q)
def US.left(h:US H (A++F)):US H A:=λp hp=>h p (OR _ hp)
def dm:DS:=λt=>Qs (.nx t)
def aB(g1 g2:DS):DS:=λt=>(g1 t).bind λo=>match o with
 |.nx t'=>g2 t'
 |.rt r=>Qs (.rt r)
 |.bk t'=>Qs (.bk t')
 |.ct t'=>Qs (.ct t')
section
variable {X:Cx}{F:Ql XW}{a b c:XY}{es:Ql XY}{fa:DE}{g g1 g2:DS}{ft:DT}{st:XZ}
def fH:UL X [] (dS X.K F dm):=UL.imp Bl λE σ H ⟨A,t,o,R,e,h⟩=>by cases e;exact h σ H A (Gr.refl R.mu.left) R
def aY(h1:PS X st (dS X.K F g1))(h2:UL X rest (dS X.K F g2)):UL X (st::rest) (dS X.K F (aB g1 g2)):=by
 refine UL.imp (vY h1 h2) ?_;rintro E σ H ⟨A,t,o,R,e,h⟩;refine aq e λo1 e1 e=>?_;refine⟨A,t,o1,R,e1,?_⟩;cases o1 with
 |nx t'=>
  intro σ' H' A' g' R';refine⟨A',t',o,R',e,?_⟩;cases o with
  |nx t2=>exact After.back h g'
  |bk t2=>exact After.back h g'
  |ct t2=>exact After.back h g'
  |rt r=>exact Back.back h g'
 |rt r=>cases e;assumption
 |bk t2=>cases e;assumption
 |ct t2=>cases e;assumption
def bo(h1:PS X st (dS X.K F g1)):UL X [st] (dS X.K F g1):=nT h1
def bZ(c:DT)(g1 g2:DS):DS:=λt=>(c t).bind λb=>if b then g1 t else g2 t
def fg(hc:PT X c (dT X.K F ft))(ha:UL X s1 (dS X.K F g1))(hb:UL X s2 (dS X.K F g2)):PS X (.If c s1 s2 pos) (dS X.K F (bZ ft g1 g2)):=by
 refine PS.imp (Bo hc ha hb) ?_;rintro E σ H ⟨A,t,o,R,e,h⟩;refine aq e λr1 e1 e=>?_;refine⟨A,t,r1,R,e1,λH1 gs=>?_⟩;have gr:=Gr.of_same R.mu.left gs;cases r1 with
 |true=>
  refine⟨A,t,o,R.grow gs,e,?_⟩;cases o with
  |nx t2=>exact After.back h gr
  |bk t2=>exact After.back h gr
  |ct t2=>exact After.back h gr
  |rt r=>exact Back.back h gr
 |false=>
  refine⟨A,t,o,R.grow gs,e,?_⟩;cases o with
  |nx t2=>exact After.back h gr
  |bk t2=>exact After.back h gr
  |ct t2=>exact After.back h gr
  |rt r=>exact Back.back h gr
def cU(f:DE):DS:=λt=>(f t).bind λr=>Qs (.rt r)
def WX.of (m:US H (A++F))(h:UE K F A H H' r v):WX K F A H H' r v:=by
 cases r with
 |cl d=>exact Rep.mono (aS _ λa z=>OP _ z) h
 |tm d=>assumption
 |nw xs=>
  obtain⟨p,vs,rfl,h1,h2,h3⟩:=h;refine⟨p,vs,rfl,.inr h1,λz=>(dQ m h1) (OP _ z),h2,TZ.mono (aS _ λa z=>?_) h3⟩
  grind
 |dn d=>
  obtain⟨B,h1,h2,h3⟩:=h;refine⟨B,h1,λb hb=>⟨.inr (h2 b hb),λz=>dQ m (h2 b hb) (OP _ z)⟩,UC.mono (aS _ λa z=>?_) h3 λ_ _ _ q=>q⟩
  grind
def eD(ha:PE X a (dE X.K F fa)):PS X (.Return (Qs a) pos) (dS X.K F (cU fa)):=by refine PS.imp (q8 ha) ?_;rintro E σ H ⟨A,t,o,R,e,h⟩;refine aq e λr1 e1 e=>?_;cases e;exact⟨A,t,r1,R,e1,λv H' gs q=>h v _ A (Gr.of_same R.mu.left gs) (WX.of R.mu q)⟩
def gU(i:Nat):DS:=λt=>match t[i]? with
 |some (.own xs)=>Qs (.rt (.nw xs))
 |some (.val d)=>Qs (.rt (.cl d))
 |some (.dp d)=>Qs (.rt (.dn d))
 |_=>Qn
def me(i:Nat) (hN:X.N[i]?=Qs x:=by rfl)(hv:autoParam (cJ X.env.scope x) qzA._auto_1)(hd:Vf x:=by decide) (UY:VX x:=by decide):PS X (.Return (Qs (.Name x pos')) pos) (dS X.K F (gU i)):=by
 refine PS.imp (q8 (dg (i:=i) hN hv hd UY)) ?_;rintro E σ H ⟨A,t,o,R,e,h⟩;unfold gU at e;split at e
 .rename_i ds q;cases e;obtain⟨p,vs,h1,h2,h3,h4⟩:=R.rel.WV q;refine⟨_,h1,h _ H A (Gr.refl R.mu.left) ⟨p,vs,rfl,.inl h2,R.dj p h2,h3,TZ.mono (aS H λa z=>?_) h4⟩⟩;rcases OZ.mp z with z|z
  .rw[z];exact OR _ h2
  .exact OP _ z
 .rename_i d q;cases e;obtain⟨v,h1,h2⟩:=R.rel.Zu q;exact⟨v,h1,h v H A (Gr.refl R.mu.left) (Rep.mono (aS H λa z=>OP _ z) h2)⟩
 .rename_i d q;cases e;obtain⟨v,B,h1,h2,h0,h3⟩:=R.rel.zcP R.nd q;refine⟨v,h1,h v H A (Gr.refl R.mu.left) ⟨B,h0,λb hb=>⟨.inl (h2 b hb),R.dj b (h2 b hb)⟩,UC.mono (aS H λa z=>?_) h3 λ_ _ _ q=>q⟩⟩;rcases OT.mp z with z|z
  .exact OR _ (h2 a z)
  .exact OP _ z
 .cases e
end
theorem Ul.zal{K:OQ}(h:Rep K H0 d v):∀{t:Th}{σ:L2.St}{A:Ql XW} (i:Nat),Ul K H0 H t σ A->i<t.length->∃A',Ul K H0 H (t.set i (.val d)) (σ.set i (Qs v)) A'/\List.Sublist A' A
 |_,_,_,_,.nil,l=>by simp at l
 |_,_,_,0,.no r,_=>⟨_,.val h r,Pp _⟩
 |_,_,_,0,.val _ r,_=>⟨_,.val h r,Pp _⟩
 |_,_,_,0,.own _ _ r,_=>⟨_,.val h r,QT _ _⟩
 |_,_,_,0,.dp _ r,_=>⟨_,.val h r,Q2 _ _⟩
 |_,_,_,i+1,.no r,l=>let ⟨A',a,b⟩:=Ul.zal h i r (by simpa using l);⟨A',.no a,b⟩
 |_,_,_,i+1,.val q r,l=>let ⟨A',a,b⟩:=Ul.zal h i r (by simpa using l);⟨A',.val q a,b⟩
 |_,_,_,i+1,.own q1 q2 r,l=>let ⟨A',a,b⟩:=Ul.zal h i r (by simpa using l);⟨_,.own q1 q2 a,b.cons₂ _⟩
 |_,_,_,i+1,.dp q r,l=>let ⟨A',a,b⟩:=Ul.zal h i r (by simpa using l);⟨_,.dp q a,Qr (Pp _) b⟩
theorem Ul.ZO{K:OQ}(h:∀{t:Th}{σ:L2.St}{A:Ql XW},Ul K H0 H t σ A->Ul K H0 H (s::t) (Qs v::σ) (B++A)):∀{t:Th}{σ:L2.St}{A:Ql XW} (i:Nat),Ul K H0 H t σ A->i<t.length->∃A',Ul K H0 H (t.set i s) (σ.set i (Qs v)) A'/\(∀x∈A',x∈B\/x∈A)/\(A.Nodup->B.Nodup->(∀b∈B,b∉A)->A'.Nodup)
 |_,_,_,_,.nil,l=>by simp at l
 |_,_,A,0,.no r,_=>⟨_,h r,λx hx=>OT.mp hx,λn1 n2 d=>O4.mpr ⟨n2,n1,λa ha b hb e=>d a ha (e▸hb)⟩⟩
 |_,_,A,0,.val _ r,_=>⟨_,h r,λx hx=>OT.mp hx,λn1 n2 d=>O4.mpr ⟨n2,n1,λa ha b hb e=>d a ha (e▸hb)⟩⟩
 |_,_,_,0,.own _ _ r,_=>⟨_,h r,λx hx=>(OT.mp hx).imp id (OS _),λn1 n2 d=>O4.mpr ⟨n2,(O7.mp n1).2,λa ha b hb e=>d a ha (e▸OS _ hb)⟩⟩
 |_,_,_,0,.dp _ r,_=>⟨_,h r,λx hx=>(OT.mp hx).imp id (OP _),λn1 n2 d=>O4.mpr ⟨n2,(O4.mp n1).2.1,λa ha b hb e=>d a ha (e▸OP _ hb)⟩⟩
 |_,_,_,i+1,.no r,l=>let ⟨A',a,b,c⟩:=Ul.ZO h i r (by simpa using l);⟨A',.no a,b,c⟩
 |_,_,_,i+1,.val q r,l=>let ⟨A',a,b,c⟩:=Ul.ZO h i r (by simpa using l);⟨A',.val q a,b,c⟩
 |_,_,_,i+1,.own (p:=p2) q1 q2 r,l=>by
  obtain⟨A',a,b,c⟩:=Ul.ZO h i r (by simpa using l);refine⟨_,.own q1 q2 a,λx hx=>?_,λnd nb np=>?_⟩
  .grind
  .grind
 |_,_,_,i+1,.dp (B:=C) q r,l=>by
  obtain⟨A',a,b,c⟩:=Ul.ZO h i r (by simpa using l);refine⟨_,.dp q a,λx hx=>?_,λnd nb np=>?_⟩
  .grind
  .grind
def RS.zdP (R:RS K F H A t σ)(g:TJ H H')(fr:∀b∈B,H b=Qn)(nb:B.Nodup)(lb:US H' B) (mk:∀{t:Th}{σ:L2.St}{A':Ql XW},Ul K (ag (B++(A++F)) H') H' t σ A'->Ul K (ag (B++(A++F)) H') H' (s::t) (Qs v::σ) (B++A')) (hi:i<t.length):∃A',Gr A H A' H'/\RS K F H' A' (t.set i s) (σ.set i (Qs v)):=by
 have R':=R.grow g;have np:∀b∈B,b∉A++F:=λb hb=>dQ R.mu (fr b hb);have r0:Ul K (ag (B++(A++F)) H') H' t σ A:=Ul.mono (λb o h=>by
  obtain⟨n,h⟩:=bN h;refine aU (g _ _ h) λz=>?_
  simp_all) R.rel λb _ o h=>g _ _ h
 obtain⟨A',r1,sub,nd⟩:=Ul.ZO mk i r0 hi;refine⟨A',⟨λb o _ h=>g b o h,λb hb=>by obtain⟨ws,z⟩:=R.mu b (OR _ hb);rw[g _ _ z];simp,λb hb=>?_⟩,?_,nd R.nd nb λb hb z=>np b hb (OR _ z),λb hb=>?_,?_⟩
 .grind
 .intro b hb;rcases OT.mp hb with z|z
  .rcases sub b z with z|z
   .exact lb b z
   .exact R'.mu b (OR _ z)
  .exact R'.mu b (OP _ z)
 .rcases sub b hb with z|z
  .simp_all
  .exact R.dj b z
 .refine Ul.mono (aS _ λb z=>?_) r1 λ_ _ _ h=>h
  grind
def c9(t:Th)(i:Nat)(r:Ev):Qo Th:=if i<t.length then(match r with
 |.cl d=>Qs (t.set i (.val d))
 |.tm d=>if flat d then Qs (t.set i (.val d)) else Qn
 |.nw xs=>Qs (t.set i (.own xs))
 |.dn d=>Qs (t.set i (.dp d))) else Qn
def RS.put (R:RS K F H A t σ)(g:TJ H H')(q:UE K F A H H' r v)(e:c9 t i r=Qs t'):∃A',Gr A H A' H'/\RS K F H' A' t' (σ.set i (Qs v)):=by
 have R':=R.grow g;have val:∀d,Rep K _ d v->i<t.length->∃A',Gr A H _ _/\RS K F _ _ _ _:=λd hd hi=>by
  obtain⟨A',r1,sub⟩:=Ul.zal hd i R'.rel hi;have zbT:∀x∈A',x∈A:=λx hx=>sub.subset hx;refine⟨A',⟨λb o _ h=>g b o h,λb hb=>by obtain⟨vs,z⟩:=R.mu b (OR _ hb);rw[g _ _ z];simp,λb hb=>.inl (zbT b hb)⟩,?_,R.nd.sublist sub,λp hp=>R.dj p (zbT p hp),?_⟩
  .intro p hp;rcases OT.mp hp with z|z
   .exact R'.mu p (OR _ (zbT p z))
   .exact R'.mu p (OP _ z)
  .refine Ul.mono (aS _ λa z=>?_) r1 λ_ _ _ h=>h
   grind
 refine bJ e λhi e=>?_;cases r with
 |cl d=>cases e;exact val d q hi
 |tm d=>
  simp only at e;split at e
  .rename_i f;cases e;exact val d (Rep.U8 R'.mu f (Rep.mono (aR _ _) q)) hi
  .cases e
 |nw xs=>cases e;obtain⟨p,vs,rfl,h1,h2,h3⟩:=q;exact R.zdP (B:=[p]) g (λb hb=>by simp_all) (by simp) (λb hb=>by simp at hb;subst hb;exact⟨mL _,h2⟩) (λr=>.own h2 h3 r) hi
 |dn d=>cases e;obtain⟨B,h1,h2,h3⟩:=q;exact R.zdP g h2 h1 h3.lists (λr=>.dp h3 r) hi
section
variable {X:Cx}{F:Ql XW}{a b c:XY}{es:Ql XY}{fa:DE}{g g1 g2:DS}{ft:DT}{st:XZ}
def aL(i:Nat)(f:DE):DS:=λt=>(f t).bind λr=>(c9 t i r).map Out.nx
def I0(hN:X.N.Nodup)(hi:X.N[i]?=Qs x)(hx:Loc X.env.scope x)(he:PE X a (dE X.K F fa))(hs:swapsWith a (Qs (.Name x pos')) pos.line X.env=pure Qf:=by rfl)(hf:autoParam (X.fn x=Qt\/X.env.scope.names.lookup x=Qs .local) qzB._auto_1):PS X (.Assign [.Name x pos'] a pos) (dS X.K F (aL i fa)):=by
 refine PS.imp (wk hN hi hx he hs hf) ?_;rintro E σ H ⟨A,t,o,R,e,h⟩;refine aq e λr1 e1 e=>?_;rcases e2:c9 t i _ with _|t'
 .rw[e2]at e;cases e
 rw[e2]at e;cases e;refine⟨A,t,r1,R,e1,λv H' gs q=>?_⟩;obtain⟨A',g',R'⟩:=R.put gs q e2;exact h _ _ _ g' R'
end
def cC(K:OQ)(F:Ql XW)(g:TG)(k:D->Th->Qo Th):Prop:=∀σ H A t t' d x (Q:L2.St->Hp->Prop),RS K F H A t σ->Rep K (ag (A++F) H) d x->k d t=Qs t'->(∀σ2 A2,Gr A H A2 H->RS K F H A2 t' σ2->Q σ2 H)->g x σ H Q
def pI(K:OQ)(F:Ql XW)(g:ku)(k:Ql D->Th->Qo Th):Prop:=∀σ H A t t' ds xs (Q:L2.St->Hp->Prop),RS K F H A t σ->TZ K (ag (A++F) H) ds xs->k ds t=Qs t'->(∀σ2 A2,Gr A H A2 H->RS K F H A2 t' σ2->Q σ2 H)->g xs σ H Q
def aP(i:Nat):D->Th->Qo Th:=λd t=>c9 t i (.cl d)
def eV:Ql D->Th->Qo Th:=λds t=>match ds with
 |[]=>Qs t
 |_=>Qn
def bK(k:D->Th->Qo Th)(k':Ql D->Th->Qo Th):Ql D->Th->Qo Th:=λds t=>match ds with
 |d::r=>(k d t).bind (k' r)
 |[]=>Qn
def di(n:Nat)(k:Ql D->Th->Qo Th):D->Th->Qo Th:=λd t=>match d with
 |.tup ds=>if ds.length=n then k ds t else Qn
 |_=>Qn
def cD (i:Nat):cC K F (d7 i) (aP i):=by intro σ H A t t' d x Q R r e h;obtain⟨A',g,R'⟩:=R.put (r:=.cl d) (TJ.refl H) r e;exact h _ _ g R'
def uE:pI K F kj eV:=by
 intro σ H A t t' ds xs Q R r e h;cases r with
 |nil=>cases e;exact⟨rfl,h σ A (Gr.refl R.mu.left) R⟩
 |cons _ _=>cases e
def lW (h1:cC K F g k)(h2:pI K F g' k'):pI K F (gi g g') (bK k k'):=by
 intro σ H A t t' ds xs Q R r e h;cases r with
 |nil=>cases e
 |@cons d v ds vs r1 r2=>
  unfold bK at e;cases e1:k d t with
  |none=>simp only[e1]at e;cases e
  |some t1=>simp only[e1]at e;refine⟨v,vs,rfl,h1 σ H A t _ d v _ R r1 e1 λσ2 A2 g2 R2=>?_⟩;exact h2 _ H _ _ _ _ _ Q R2 (TZ.mono g2.same r2) e λσ3 A3 g3 R3=>h _ _ (g2.trans g3) R3
def Ao (h2:pI K F g' k'):cC K F (mP K n g') (di n k'):=by
 intro σ H A t t' d x Q R r e h;unfold di at e;split at e
 .split at e
  .cases r with
   |@tup _ p vs h1 hr=>exact⟨p,vs,rfl,UJ.mono (aR _ _) h1,by rw[hr.length];assumption,h2 σ H A t _ _ _ Q R hr e h⟩
  .cases e
 .cases e
def dG(k:D->Th->Qo Th)(f:DE):DS:=λt=>(f t).bind λr=>if r.ok then(k r.d t).map Out.nx else Qn
section
variable {X:Cx}{F:Ql XW}{a b c:XY}{es:Ql XY}{fa:DE}{g g1 g2:DS}{ft:DT}{st:XZ}{tg:XY}
def nV(he:PE X a (dE X.K F fa))(hg:PG X tg gt)(ht:cC X.K F gt kt)(hs:swapsWithSole [tg] a pos.line X.env=pure Qf:=by rfl)(hw:swappedStores [tg] a X.env=pure Qn:=by rfl) (h1:(assignEach [tg] X.env).map (·.2)=[assign tg X.env]:=by rfl):PS X (.Assign [tg] a pos) (dS X.K F (dG kt fa)):=by
 refine PS.imp (q9 he hg hs hw h1) ?_;rintro E σ H ⟨A,t,o,R,e,h⟩;refine aq e λr1 e1 e=>?_;refine bJ e λok e=>?_;rcases e2:kt _ t with _|t'
 .rw[e2]at e;cases e
 rw[e2]at e;cases e;refine⟨A,t,r1,R,e1,λv H' gs q=>?_⟩;exact ht σ _ A t _ _ v _ (R.grow gs) (q.clean R.mu gs ok) e2 λσ2 A2 g2 R2=>h _ _ _ ((Gr.of_same R.mu.left gs).trans g2) R2
def xF(t:Th)(i j:Nat):Ql Ev->Qo Out
 |[r1,r2]=>if r1.ok&&r2.ok then((c9 t i (.cl r1.d)).bind λt1=>c9 t1 j (.cl r2.d)).map Out.nx else Qn
 |_=>Qn
def iM(i j:Nat)(f:DA):DS:=λt=>(f t).bind (xF t i j)
def wg{kt k2 XE}(hc:X.calm=Qt)(hN:X.N.Nodup)(hi:X.N[i]?=Qs x)(hj:X.N[j]?=Qs y)(Y0:i≠j) (hx:X.env.scope.names.lookup x=Qs .local) (hy:X.env.scope.names.lookup y=Qs .local) (ha:PA X [a,b] (dA X.K F ga)) (hw:swappedStores [.Tuple [.Name x px,.Name y py] kt pt] (.Tuple [a,b] k2 XE) X.env=pure (Qs [x,y])) (hs:swapsWithSole [.Tuple [.Name x px,.Name y py] kt pt] (.Tuple [a,b] k2 XE) pos.line X.env=pure Qf:=by rfl):PS X (.Assign [.Tuple [.Name x px,.Name y py] kt pt] (.Tuple [a,b] k2 XE) pos) (dS X.K F (iM i j ga)):=by
 refine PS.imp (Jl hc hN hi hj Y0 hx hy ha hw hs) ?_;rintro E σ H ⟨A,t,o,R,e,h⟩;unfold iM at e;rcases e1:ga t with _|rs
 .rw[e1]at e;cases e
 rw[e1]at e;refine⟨A,t,rs,R,e1,λvs H' gs q=>?_⟩;have e:xF t i j _=Qs o:=e;cases q with
 |nil=>cases e
 |@cons r1 _ _ _ q1 q'=>
  cases q' with
  |nil=>cases e
  |@cons r2 _ _ _ q2 q3=>
  cases q3 with
  |cons _ _=>cases e
  |nil=>
   simp only[xF]at e;replace e:=Vm e;obtain⟨ok,e⟩:=e;simp at ok;refine⟨_,_,rfl,?_⟩;rcases e2:c9 t i _ with _|t1
   .rw[e2]at e;cases e
   rw[e2]at e;have e:(c9 _ j (.cl _)).map _=Qs o:=e;rcases e3:c9 _ j _ with _|t2
   .rw[e3]at e;cases e
   rw[e3]at e;cases e;obtain⟨A1,g1,R1⟩:=(R.grow gs).put (r:=.cl _) (TJ.refl _) (q1.clean R.mu gs ok.1) e2;obtain⟨A2,g2,R2⟩:=R1.put (r:=.cl _) (TJ.refl _) (Rep.mono g1.same (q2.clean R.mu gs ok.2)) e3;exact h _ _ _ (((Gr.of_same R.mu.left gs).trans g1).trans g2) R2
end
def bL(k:D->Th->Qo Th)(body:DS):Ql D->Th->Qo Out
 |[],t=>Qs (.nx t)
 |d::ds,t=>(k d t).bind λt1=>(body t1).bind λo=>match o with
  |.nx t'=>bL k body ds t'
  |.ct t'=>bL k body ds t'
  |.bk t'=>Qs (.nx t')
  |.rt r=>Qs (.rt r)
noncomputable def fF(c:DT)(body:DS):Nat->Th->Qo Out
 |0,_=>Qn
 |n+1,t=>(c t).bind λb=>if b then(body t).bind λo=>match o with
  |.nx t'=>fF c body n t'
  |.ct t'=>fF c body n t'
  |.bk t'=>Qs (.nx t')
  |.rt r=>Qs (.rt r) else Qs (.nx t)
def lC(fu:Th->Nat)(c:DT)(body:DS):DS:=λt=>fF c body (fu t) t
def XR(K:OQ)(F A:Ql XW)(H:Hp)(E:Ends):Out->Prop
 |.nx t'=>After K F A H E.nx t'
 |.bk t'=>After K F A H E.bk t'
 |.ct t'=>After K F A H E.ct t'
 |.rt r=>Back K F A H E.rt r
theorem XR.back{K:OQ}(h:XR K F A H E o)(g:Gr A H A1 H1):XR K F A1 H1 E o:=by
 cases o with
 |nx t2=>exact After.back h g
 |bk t2=>exact After.back h g
 |ct t2=>exact After.back h g
 |rt r=>exact Back.back h g
def jo (R:RS K F H A t σ)(e:g t=Qs o)(p:XR K F A H E o):dS K F g E σ H:=⟨A,t,o,R,e,by cases o<;>exact p⟩
def jm (h:dS K F g E σ H):∃A t o,RS K F H A t σ/\g t=Qs o/\XR K F A H E o:=by obtain⟨A,t,o,R,e,h⟩:=h;exact⟨A,t,o,R,e,by cases o<;>exact h⟩
section
variable {X:Cx}{F:Ql XW}{a b c:XY}{es:Ql XY}{fa:DE}{g g1 g2:DS}{ft:DT}{st:XZ}{tg:XY}
def vZ(m:Th->Nat)(hp:PassesOwn (model X.prog X.w) X.A X.env X.xe)(hc:PT X c (dT X.K F ft))(hb:UL X body (dS X.K F g)):PS X (.While c body [] pos) (dS X.K F (lC m ft g)):=by
 refine PS.imp (Jk hp hc hb) ?_;intro E σ H hh;obtain⟨A,t,o,R,e,h⟩:=jm hh;refine⟨λn σ H=>∃A t o,fF ft g n t=Qs o/\RS X.K F H A t σ/\XR X.K F A H E o,⟨m t,A,t,o,e,R,h⟩,?_⟩;rintro n σ H ⟨A,t,o,e,R,h⟩;cases n with
 |zero=>cases e
 |succ n=>
  simp only[fF]at e;refine aq e λb e1 e=>?_;refine⟨A,t,b,R,e1,λH1 gs=>?_⟩;have gr:Gr A H A H1:=Gr.of_same R.mu.left gs;cases b with
  |false=>have e:Qs (Out.nx t)=Qs o:=e;cases e;exact oI (h σ H1 A gr (R.grow gs))
  |true=>
   have e:((g t).bind λo=>match o with
    |.nx t'=>fF ft g n t'
    |.ct t'=>fF ft g n t'
    |.bk t'=>Qs (.nx t')
    |.rt r=>Qs (.rt r))=Qs o:=e
   refine oH ⟨λσ' H'=>∃A t o,fF ft g n t=Qs o/\RS X.K F H' A t σ'/\XR X.K F A H' E o,λσ' H' q=>⟨n,Qa n,q⟩,?_⟩;refine aq e λo2 e2 e=>?_;refine jo (R.grow gs) e2 ?_;cases o2 with
   |nx t'=>exact λσ' H' A' g' R'=>⟨A',t',o,e,R',h.back (gr.trans g')⟩
   |ct t'=>exact λσ' H' A' g' R'=>⟨A',t',o,e,R',h.back (gr.trans g')⟩
   |bk t'=>cases e;exact λσ' H' A' g' R'=>h σ' H' A' (gr.trans g') R'
   |rt r=>cases e;exact Back.back h gr
def yk{J:It}(Good:Ql XW->Hp->Prop)(ht:cC K F gt kt)(R:RS K F H A t σ)(e:bL kt g ds t=Qs o)(h:XR K F A H E o)(g0:Good A H) (keep:∀A H A' H',Good A H->Gr A H A' H'->Good A' H') (stop:∀A H,Good A H->J.stop ds.length H) (go:∀A H i,Good A H->i<ds.length->J.go i H) (VT:∀A H i x H',Good A H->US H (A++F)->J.VT i H x H'->i<ds.length->TJ H H'/\∃d,ds[i]?=Qs d/\Rep K (ag (A++F) H') d x):∃W:Nat->Nat->L2.St->Hp->Prop,(∃m,W 0 m σ H)/\∀i m σ H,W i m σ H-> (J.stop i H/\E.nx σ H)\/(J.go i H/\∃N:L2.St->Hp->Prop,(∀σ' H',N σ' H'->∃m',m'<m/\W (i+1) m' σ' H')/\∀x H',J.VT i H x H'->gt x σ H' λσ2 H2=>dS K F g {E with nx:=N,ct:=N,bk:=E.nx} σ2 H2):=by
 refine⟨λi m σ H=>i+m=ds.length/\∃A t o,bL kt g (ds.drop i) t=Qs o/\RS K F H A t σ/\XR K F A H E o/\Good A H,⟨ds.length,by lia,A,t,o,by simpa using e,R,h,g0⟩,?_⟩;rintro i m σ H ⟨hm,A,t,o,e,R,h,gd⟩;cases m with
 |zero=>
  have z:i=ds.length:=by lia
  subst z;rw[QQ]at e;cases e;exact .inl ⟨stop A H gd,h σ H A (Gr.refl R.mu.left) R⟩
 |succ m=>
  have hi:i<ds.length:=by lia
  refine .inr ⟨go A H i gd hi,λσ' H'=>i+1+m=ds.length/\∃A t o,bL kt g (ds.drop (i+1)) t=Qs o/\RS K F H' A t σ'/\XR K F A H' E o/\Good A H',λσ' H' q=>⟨m,Qa m,q⟩,λx H' y=>?_⟩;obtain⟨gs,d,hd,rd⟩:=VT A H i x H' gd R.mu y hi;have ed:ds.drop i=d::ds.drop (i+1):=by
   have Yb:ds[i]=d:=by rw[O2 hi]at hd;exact Qp hd
   rw[<-Yb];exact Qm hi
  rw[ed]at e;simp only[bL]at e;refine aq e λt1 e1 e=>?_;refine ht σ H' A t t1 d x _ (R.grow gs) rd e1 λσ2 A2 Xi R2=>?_;have VZ:Gr A H A2 H':=(Gr.of_same R.mu.left gs).trans Xi;have e:((g t1).bind λo=>match o with
    |.nx t'=>bL kt g (ds.drop (i+1)) t'
    |.ct t'=>bL kt g (ds.drop (i+1)) t'
    |.bk t'=>Qs (.nx t')
    |.rt r=>Qs (.rt r))=Qs o:=e
  refine aq e λo2 e2 e=>?_;refine jo R2 e2 ?_;cases o2 with
  |nx t'=>exact λσ' H' A' g' R'=>⟨by lia,A',t',o,e,R',h.back (VZ.trans g'),keep _ _ _ _ gd (VZ.trans g')⟩
  |ct t'=>exact λσ' H' A' g' R'=>⟨by lia,A',t',o,e,R',h.back (VZ.trans g'),keep _ _ _ _ gd (VZ.trans g')⟩
  |bk t'=>cases e;exact λσ' H' A' g' R'=>h σ' H' A' (VZ.trans g') R'
  |rt r=>cases e;exact Back.back h VZ
def fD(k:D->Th->Qo Th)(f:DE)(body:DS):DS:=λt=>(f t).bind λr=>match r.d with
 |.lst ds=>if r.ok then bL k body ds t else Qn
 |_=>Qn
def nU(hp:PassesOwn (model X.prog X.w) X.A X.env X.xe)(hc:X.calm=Qt)(hl:PE X a (dE X.K F fa))(hg:PG X tg gt)(ht:cC X.K F gt kt)(hb:UL X body (dS X.K F g)) (hs:∀x,foldedSetIterable a X.env x=pure x:=by intro _;rfl):PS X (.For tg a body [] pos) (dS X.K F (fD kt fa g)):=by
 refine PS.imp (jV hp hc (nX hl) hg hb hs) ?_;intro E σ H hh;obtain⟨A,t,o,R,e,h⟩:=jm hh;refine aq e λr e1 e=>?_;refine⟨A,t,r,R,e1,λv H1 gs q=>?_⟩;split at e
 case h_2=>cases e
 rename_i ds z;refine bJ e λok e=>?_;have cl:=q.clean R.mu gs ok;rw[z]at cl;cases cl with
 |@lst _ p vs h1 h2=>
  refine⟨p,rfl,⟨vs,Ux.mono (aR _ _) h1⟩,?_⟩;refine yk (λA H=>Ux _ (ag (A++F) H) p _/\TZ _ (ag (A++F) H) _ _) ht (R.grow gs) e (h.back (Gr.of_same R.mu.left gs)) ⟨h1,h2⟩ (λA H A' H' q gr=>⟨Ux.mono gr.same q.1,TZ.mono gr.same q.2⟩) (λA H q=>⟨vs,Ux.mono (aR _ _) q.1,by rw[h2.length];simp⟩) (λA H i q hi=>?_) (λA H i x H' q _ y hi=>?_)
  .have XG:i<vs.length:=by rw[h2.length];assumption
   exact⟨vs,_,Ux.mono (aR _ _) q.1,O2 XG⟩
  .obtain⟨e1,e2⟩:=y;subst e1;exact⟨TJ.refl _,q.2.XJ (e2 vs (Ux.mono (aR _ _) q.1))⟩
def eA(lo:Int)(n:Nat):Ql D:=(P0 n).map λ(i:Nat)=>D.int (lo+(i:Int))
def eG(i:Int):Bool:=decide (-1000000000000<=i/\i<=1000000000000)
def mY(k:D->Th->Qo Th)(f:DE)(body:DS):DS:=λt=>(f t).bind λr=>match r.d with
 |.int n=>if eG n then bL k body (eA 0 n.toNat) t else Qn
 |_=>Qn
def l9(lo:Int)(n:Nat):(eA lo n).length=n:=by simp[eA]
def HZ{lo:Int}(ht:cC K F gt kt)(R:RS K F H A t σ)(e:bL kt g (eA lo n) t=Qs o)(h:XR K F A H E o):∃W:Nat->Nat->L2.St->Hp->Prop,(∃m,W 0 m σ H)/\∀i m σ H,W i m σ H-> ((kB lo n).stop i H/\E.nx σ H)\/((kB lo n).go i H/\∃N:L2.St->Hp->Prop,(∀σ' H',N σ' H'->∃m',m'<m/\W (i+1) m' σ' H')/\∀x H',(kB lo n).VT i H x H'->gt x σ H' λσ2 H2=>dS K F g {E with nx:=N,ct:=N,bk:=E.nx} σ2 H2):=by
 refine yk (λ_ _=>True) ht R e h trivial (λ_ _ _ _ _ _=>trivial) (λA H _=>?_) (λA H i _ hi=>?_) (λA H i x H' _ _ y hi=>?_)
 .rw[l9];exact O5 n
 .rw[l9]at hi;assumption
 .rw[l9]at hi;obtain⟨e1,e2⟩:=y;subst e1;refine⟨TJ.refl _,.int (lo+i),by simp[eA,hi],?_⟩;rw[e2];exact .int _
def Bm{p1 p2:Pos}(hp:PassesOwn (model X.prog X.w) X.A X.env X.xe)(hc:X.calm=Qt)(Yy:Gl X "range")(hm:X.mg "range"=Qn)(ha:PE X a (dE X.K F fa))(hg:PG X tg gt)(ht:cC X.K F gt kt)(hb:UL X body (dS X.K F g)) (U6:Pc [a] X.env=[(Qf,eval a X.env)]:=by rfl) (hs:∀x,foldedSetIterable (.Call (.Name "range" p1) [a] [] p2) X.env x=pure x:=by intro _;rfl):PS X (.For tg (.Call (.Name "range" p1) [a] [] p2) body [] pos) (dS X.K F (mY kt fa g)):=by
 refine PS.imp (jV hp hc (BF Yy hm (fj ha fJ U6) U6) hg hb hs) ?_;intro E σ H hh;obtain⟨A,t,o,R,e,h⟩:=jm hh;refine aq e λr e1 e=>?_;refine⟨A,t,r,R,e1,λv H1 gs q=>?_⟩;split at e
 case h_2=>cases e
 rename_i n z;refine bJ e λok e=>?_;simp only[eG,VH]at ok;have p:=q.full;rw[z]at p;cases bX p;exact⟨n,rfl,by lia,by lia,HZ ht (R.grow gs) e (h.back (Gr.of_same R.mu.left gs))⟩
end
theorem Ul.upd{K:OQ}(hp:H' p=Qs (.lst ws))(he:TZ K H0 es ws):∀{t:Th}{σ:L2.St}{A:Ql XW} (i:Nat),Ul K H0 H t σ A->A.Nodup->t[i]?=Qs (.own ds)->σ[i]?=Qs (Qs (.ref p))-> (∀q∈A,q≠p->H' q=H q)->Ul K H0 H' (t.set i (.own es)) σ A
 |_,_,_,i,.nil,_,e,_,_=>by simp at e
 |_,_,_,0,.no r,_,e,_,_=>by simp at e
 |_,_,_,0,.val _ r,_,e,_,_=>by simp at e
 |_,_,_,0,.dp _ r,_,e,_,_=>by simp at e
 |_,_,_,i+1,.dp h1 r,nd,e,e2,k=>by
  have n:=O4.mp nd;obtain⟨p3,vs3,a1,a2,_⟩:=Ul.WV r (e);have:=by simpa[a1] using e2
  subst this;refine .dp (UC.mono (TJ.refl _) h1 λq hq o w=>?_) (Ul.upd hp he i r n.2.1 (e) (e2) λq hq=>k q (OP _ hq))
  simp_all
 |_,_,_,0,.own _ _ r,nd,e,e2,k=>by
  simp at e2;subst e2;exact .own hp he (Ul.mono (TJ.refl _) r λq hq o h=>by
   grind)
 |_,_,_,i+1,.no r,nd,e,e2,k=>.no (Ul.upd hp he i r nd (e) (e2) k)
 |_,_,_,i+1,.val h r,nd,e,e2,k=>.val h (Ul.upd hp he i r nd (e) (e2) k)
 |_,_,_,i+1,.own (p:=p2) _ h2 r,nd,e,e2,k=>by
  have n:=O7.mp nd;obtain⟨p3,vs3,a1,a2,_⟩:=Ul.WV r (e);have:=by simpa[a1] using e2
  have np:p2≠p3:=λz=>n.1 (z▸a2);refine .own (by simp_all) h2 (Ul.upd hp he i r n.2 (e) (e2) λq hq=>k q (OS _ hq))
def RS.write (R:RS K F H A t σ)(e:t[i]?=Qs (.own ds))(e2:σ[i]?=Qs (Qs (.ref p)))(h:TZ K (ag (A++F) H) es ws):RS K F (L2.upd H p (.lst ws)) A (t.set i (.own es)) σ/\Gr A H A (L2.upd H p (.lst ws)):=by
 obtain⟨p',vs,a1,a2,a3,a4⟩:=R.rel.WV e;have:p'=p:=by lia
 subst this;have hh:TJ (ag (A++F) H) (ag (A++F) (L2.upd H p' (.lst ws))):=λb o q=>by obtain⟨n,q⟩:=bN q;have nb:b≠p':=λz=>n (OR _ (z▸a2));exact aU (by rw[aC nb];assumption) n
 have mu:US (L2.upd H p' (.lst ws)) (A++F):=λq hq=>by
  by_cases z:q=p'
  .exact⟨mL _,by rw[z];exact aM⟩
  .obtain⟨us,w⟩:=R.mu q hq;exact⟨us,by rw[aC z];assumption⟩
 refine⟨⟨mu,R.nd,R.dj,Ul.upd aM (TZ.mono hh h) i (Ul.mono hh R.rel (H':=H) λ_ _ _ h=>h) R.nd e e2 λq _ n=>aC n⟩,?_⟩;refine⟨λb o n q=>?_,λb hb=>?_,λb hb=>.inl hb⟩
 .rw[aC (λz=>n (by lia))];assumption
 .obtain⟨us,w⟩:=mu b (OR _ hb);rw[w];simp
def sC(t:Th)(i:Nat)(r:Ev):Qo Out:=match t[i]? with
 |some (.own xs)=>if r.ok&&decide (xs.length<100000) then Qs (.nx (t.set i (.own (xs++[r.d])))) else Qn
 |_=>Qn
def gW(i:Nat)(f:DE):DS:=λt=>(f t).bind (sC t i)
section
variable {X:Cx}{F:Ql XW}{a b c:XY}{es:Ql XY}{fa:DE}{g g1 g2:DS}{ft:DT}{st:XZ}{tg:XY}
def wj(i:Nat){p0:Pos}(he:PE X a (dE X.K F fa))(hN:X.N[i]?=Qs x:=by rfl)(hv:autoParam (cJ X.env.scope x) qzA._auto_1)(hd:Vf x:=by decide) (UY:VX x:=by decide) (U6:Pc [a] X.env=[(Qf,eval a X.env)]:=by rfl) (WQ:attributeBase (.Name x p0) "append" X.env (eval (.Name x p0) X.env)=eval (.Name x p0) X.env:=by rfl) (Yz:((Rc UR (Pc [a] X.env)).all (λx=>!x.1)&&(backToKw UR (keywordEach [] X.env)).all (λx=>x.1.isSome)
   && decide ([a].length+([]:Ql Tg).length+(if([]:Ql Tg).isEmpty then 0 else 1)<30))=Qt:=by rfl) (WM:(apos.endLine==UR.line)=Qt:=by rfl) (X9:(Rc UR (Pc [] X.env)).any (·.1)=Qf:=by rfl) (VW:swapsWith (.Call (.Attribute (.Name x p0) "append" apos) [a] [] UR) Qn pos.line X.env=pure Qf:=by rfl):PS X (.Expr (.Call (.Attribute (.Name x p0) "append" apos) [a] [] UR) pos) (dS X.K F (gW i fa)):=by
 refine PS.imp (jW (rL QB QM Q5 oh (dg (i:=i) hN hv hd UY) (fj he fJ U6) WQ Yz WM U6 X9) VW) ?_;rintro E σ H ⟨A,t,o,R,e,h⟩;unfold gW at e;refine aq e λr e1 e=>?_;have e:sC t i r=Qs o:=e;unfold sC at e;split at e
 case h_2=>cases e
 rename_i xs z;refine bJ e λok e=>?_;simp only[O6,VH]at ok;cases e;obtain⟨p,vs,a1,a2,a3,a4⟩:=R.rel.WV z;refine⟨_,a1,.inl ⟨rfl,vs,Ux.of a3⟩,A,t,r,R,e1,λy H1 gs q=>⟨p,vs,y,rfl,rfl,gs _ _ a3,?_,?_⟩⟩
 .have:vs.length<100000:=by rw[a4.length];exact ok.2
  exact O9 this (by decide)
 .obtain⟨R',g'⟩:=(R.grow gs).write z a1 ((TZ.mono (ck gs) a4).app (TZ.one (q.clean R.mu gs ok.1)));exact h _ _ _ ((Gr.of_same R.mu.left gs).trans g') R'
def av:Ev->Ev->Qo Ev:=λr1 r2=>match r1.d,r2.d with
 |.lst ds,.int i=>(U2 ds i).map λd=>if r1.ok||flat d then .cl d else .tm d
 |.tup ds,.int i=>(U2 ds i).map λd=>if r1.ok||flat d then .cl d else .tm d
 |_,_=>Qn
theorem TZ.U2{K:OQ}(r:TZ K H ds vs)(e:L2.U2 ds i=Qs d):∃v,L2.U2 vs i=Qs v/\Rep K H d v:=by
 unfold L2.U2 at e ⊢;rw[r.length];cases e1:Vt _ i with
 |none=>rw[e1]at e;cases e
 |some j=>rw[e1]at e;exact r.get e
def bg(ha:PE X a (dE X.K F fa))(hb:PE X b (dE X.K F fb))(hs:pL b:=by intro _ _;rfl):PE X (.Subscript a b pos) (dE X.K F (d2 av fa fb)):=by
 refine PE.imp (rH (zbn.or xK) ha hb hs) ?_;intro σ H Q h;obtain⟨A,t,r1,r2,r,R,e1,e2,e,h,w⟩:=two h;refine⟨A,t,r1,R,e1,λx H1 V5 q1=>⟨A,t,r2,R.grow V5,e2,λy H2 UT q2=>?_⟩⟩;have q1:=q1.mono UT;have gs:=V5.trans UT;have p2:=q2.full;have m2:=R.mu.mono gs;have key:∀(P:Ql XW),Rep X.K (ag P H2) r1.d x->(∀d v,Rep X.K (ag P H2) d v->UE X.K F A H H2 (if r1.ok||flat d then Ev.cl d else Ev.tm d) v)->vR X.K x y H2 Q\/AV X.K x y H2 Q:=λP hP fin=>by
  unfold av at e;split at e
  .rename_i ds i z1 z2;rw[z2]at p2;cases bX p2;rw[z1]at hP;cases hP with
   |@lst _ p vs h1 h2=>
    rcases e4:U2 _ i with _|d
    .rw[e4]at e;cases e
    rw[e4]at e;have e:(if r1.ok||flat d then Ev.cl d else Ev.tm d)=r:=by simpa using e
    obtain⟨v,e5,rv⟩:=TZ.U2 h2 e4;exact .inl ⟨p,vs,i,v,rfl,rfl,Ux.mono (aR _ _) h1,e5,h v _ gs (e▸fin d v rv)⟩
  .rename_i ds i z1 z2;rw[z2]at p2;cases bX p2;rw[z1]at hP;cases hP with
   |@tup _ p vs h1 h2=>
    rcases e4:U2 _ i with _|d
    .rw[e4]at e;cases e
    rw[e4]at e;have e:(if r1.ok||flat d then Ev.cl d else Ev.tm d)=r:=by simpa using e
    obtain⟨v,e5,rv⟩:=TZ.U2 h2 e4;exact .inr ⟨p,vs,i,v,rfl,rfl,UJ.mono (aR _ _) h1,e5,h v _ gs (e▸fin d v rv)⟩
  .cases e
 by_cases c:r1.ok=Qt
 .refine key _ (q1.clean R.mu gs c) λd v rv=>?_;rw[c,R8];assumption
 .refine key F (q1.Xz R.mu) λd v rv=>?_;have c:=by simpa using c
  rw[c];split
  .rename_i f;exact Rep.U8 m2 f (Rep.mono (aR _ _) rv)
  assumption
def iF:Ev->Ev->Qo Ev:=λr1 r2=>match r1.d,r2.d with
 |.lst ds,.lst es=>if(r1.ok||UD ds)&&(r2.ok||UD es)&&decide (ds.length+es.length<=100000) then Qs (.nw (ds++es)) else Qn
 |_,_=>Qn
def UE.items (m:US H (A++F))(gs:TJ H H')(q:UE K F A H H' r v)(z:r.d=.lst ds)(c:(r.ok||UD ds)=Qt):∃p vs,v=.ref p/\Ux K H' p vs/\TZ K (ag (A++F) H') ds vs:=by
 rcases S4 _ _▸c with c|c
 .have w:=q.clean m gs c;rw[z]at w;cases w with
  |@lst _ p vs h1 h2=>exact⟨p,vs,rfl,Ux.mono (aR _ _) h1,h2⟩
 .have w:=q.full;rw[z]at w;cases w with
  |@lst _ p vs h1 h2=>exact⟨p,vs,rfl,h1,TZ.U8 (m.mono gs) c h2⟩
def N6{l b:XW}{vs ws:Ql Pl}(hl:PlainL s.heap l vs.toArray)(hb:PlainL s.heap b ws.toArray)
  (h:Q (.ref s.heap.objs.size) { s with heap:=s.heap.push { cls:=.type "list",data:=.seq (vs++ws).toArray } }) (hsz:vs.length+ws.length<=PD) :wpAny (model prog w) A (binaryOp .Add (.ref l) (.ref b)) Q E s:=by
 obtain⟨⟨cls,dd,data,sl⟩,n,ho,hc,hdd,hd⟩:=id hl;obtain⟨⟨zjG,dd2,data2,ZN⟩,n2,Yw,XH,zlD,hd2⟩:=id hb;subst hc hd XH hd2;have e:vs.toArray++ws.toArray=(vs++ws).toArray:=by simp
 refine concat_meets ⟨_,ho,rfl⟩ ⟨_,Yw,rfl⟩ noFill_list_add seq_list_add PySem.F.slot_list_add PySem.F.entry_list_add (PySem.F.args_list_add_2 _ _) (list_addW l b _ _ n _ _ _ _ _ (hsz)) ⟨ho,Yw,?_⟩;rw[e];assumption
def eR:VC X F (binaryOp .Add) iF:=by
 intro pins s σ H0 H A x y v u Q r1 r2 r I m g0 rx ry q1 q2 e hq;unfold iF at e;split at e
 case h_2=>cases e
 rename_i ds Vd z1 z2;refine bJ e λc e=>?_;simp only[O6,VH]at c;cases e;obtain⟨p,vs,rfl,h1,h2⟩:=q1.items m g0 z1 c.1.1;obtain⟨p',ws,rfl,WR,Vv⟩:=q2.items m g0 z2 c.1.2;cases rx;cases ry;obtain⟨T5,w1,w2,w3⟩:=I.list h1;obtain⟨VM,VJ,Wu,w3'⟩:=I.list WR;have l1:=h2.length;have l2:=Vv.length;have l3:=w1.length;have l4:=VJ.length;have hz:vs.length+ws.length<=PD:=X4 (by lia);refine N6 w2 Wu ⟨.ref _,_,I.zcn (w1.append VJ) (by rw[Pq];assumption),rfl,?_⟩ (by lia);refine hq _ _ (du I.fresh) ⟨_,_,rfl,TJ.free g0 I.fresh,aM,TZ.mono (ie I.fresh) (h2.app Vv)⟩
mutual
noncomputable def cg:D->D->Bool
 |.Uz,e=>(match e with|.Uz=>Qt|_=>Qf)
 |.bl a,e=>(match e with|.bl b=>decide (a=b)|_=>Qf)
 |.int a,e=>(match e with|.int b=>decide (a=b)|_=>Qf)
 |.str a,e=>(match e with|.str b=>decide (a=b)|_=>Qf)
 |.tup a,e=>(match e with|.tup b=>XM a b|_=>Qf)
 |.lst a,e=>(match e with|.lst b=>XM a b|_=>Qf)
 |.U1 ks a,e=>(match e with|.U1 ks' b=>decide (ks=ks')&&XM a b|_=>Qf)
 |.Vp a,e=>(match e with|.Vp b=>decide (a=b)|_=>Qf)
 |.We a,e=>(match e with|.We b=>decide (a=b)|_=>Qf)
 |.adr a,e=>(match e with|.adr b=>decide (a=b)|_=>Qf)
 |.UI a,e=>(match e with|.UI b=>decide (a=b)|_=>Qf)
 |.obj C ks a,e=>(match e with|.obj C' ks' b=>decide (C=C')&&(decide (ks=ks')&&XM a b)|_=>Qf)
noncomputable def XM:List D->List D->Bool
 |[],e=>(match e with|[]=>Qt|_=>Qf)
 |a::as,e=>(match e with|b::bs=>cg a b&&XM as bs|_=>Qf)
end
def aQ(d:D):Bool:=match d with
 |.Uz=>Qt
 |.bl _=>Qt
 |.int _=>Qt
 |.str _=>Qt
 |_=>Qf
noncomputable def B6(d e:D):Bool:=match d with
 |.bl _=>(match e with|.int _=>Qf|.str _=>Qf|_=>Qt)
 |.int _=>(match e with|.bl _=>Qf|_=>Qt)
 |.str _=>(match e with|.bl _=>Qf|_=>Qt)
 |_=>Qt
@[simp] def okS (d e:D):Bool:=aQ d&&(aQ e&&B6 d e)
def bC:Nat->D->D->Bool
 |0,d,e=>okS d e
 |n+1,d,e=>(match d with
  |.tup xs=>(match e with|.tup ys=>(xs.zip ys).all λp=>bC n p.1 p.2|_=>Qf)
  |.lst xs=>(match e with|.lst ys=>(xs.zip ys).all λp=>bC n p.1 p.2|_=>Qf)
  |d=>okS d e)
def g6{P:D->Prop}(s:aQ d=Qt)(a:P .Uz)(b:∀x,P (.bl x))(c:∀x,P (.int x))(f:∀x,P (.str x)):P d:=by
 cases d with
 |Uz=>assumption
 |bl x=>exact b x
 |int x=>exact c x
 |str x=>exact f x
 |_=>exact absurd (s) O3
def dV:D->V
 |.bl b=>.bl b
 |.int i=>.int i
 |.str x=>.str x
 |_=>.Uz
def vD:V->D
 |.bl b=>.bl b
 |.int i=>.int i
 |.str x=>.str x
 |_=>.Uz
def gT (s:aQ d=Qt)(r:Rep K H d v):v=dV d:=by cases r<;>first|rfl|exact absurd (s) O3
def lV(s:aQ d=Qt):vD (dV d)=d:=g6 (P:=λd=>vD _=d) s rfl (λ_=>rfl) (λ_=>rfl) λ_=>rfl
inductive Okv(n:Nat)(d e:D):Prop
 |sc (a:aQ d=Qt) (b:aQ e=Qt)
 |tp (m:Nat) (xs ys:List D) (h:n=m+1) (a:d=.tup xs) (b:e=.tup ys) (k:((xs.zip ys).all λp=>bC m p.1 p.2)=Qt)
 |ls (m:Nat) (xs ys:List D) (h:n=m+1) (a:d=.lst xs) (b:e=.lst ys) (k:((xs.zip ys).all λp=>bC m p.1 p.2)=Qt)
def rM(h:okS d e=Qt):aQ d=Qt/\aQ e=Qt:=⟨(Po.mp h).1,(Po.mp (Po.mp h).2).1⟩
def mn(ok:bC n d e=Qt):Okv n d e:=by
 cases n with
 |zero=>exact .sc (rM ok).1 (rM ok).2
 |succ m=>
  cases d with
  |tup xs=>
   cases e with
   |tup ys=>exact .tp m _ _ rfl rfl rfl ok
   |_=>exact absurd (ok) O3
  |lst xs=>
   cases e with
   |lst ys=>exact .ls m _ _ rfl rfl rfl ok
   |_=>exact absurd (ok) O3
  |_=>exact .sc (rM ok).1 (rM ok).2
inductive zkc(K:OQ)(H:Hp)(xs:List D)(v:V):Prop
 |mk (p:XW) (vs:List V) (a:v=.ref p) (b:UJ K H p vs) (c:TZ K H xs vs)
inductive zke(K:OQ)(H:Hp)(xs:List D)(v:V):Prop
 |mk (p:XW) (vs:List V) (a:v=.ref p) (b:Ux K H p vs) (c:TZ K H xs vs)
def Rep.Yl (r:Rep K H (.tup xs) v):zkc K H xs v:=by
 cases r with
 |tup a b=>exact⟨_,_,rfl,a,b⟩
def Rep.Ys (r:Rep K H (.lst xs) v):zke K H xs v:=by
 cases r with
 |lst a b=>exact⟨_,_,rfl,a,b⟩
def NH{σ:L2.St}(I:Inv X pins σ H s)(h:H p=Qs (.dK UA)):∃o,s.heap.get? p=Qs o/\o.cls=.type "dict":=by obtain⟨_,_,vs,_,m⟩:UA.length<=PD/\(p==sysModules)=Qf/\∃vs,KV _ _/\s.heap.DictOf _ p _:=I.UB p _ h;exact m.typeIs
def Ka{σ:L2.St}(I:Inv X pins σ H s)(h:H p=Qs (.dT UA)):∃o,s.heap.get? p=Qs o/\o.cls=.type "dict":=by obtain⟨_,_,xs,_,o,es,ep,h1,h2,_⟩:=((I.UB p _ h));exact⟨o,h1,h2.1⟩
def Nq{σ:L2.St}(I:Inv X pins σ H s)(h:H p=Qs (.UW o' (.dT UA))):∃o,s.heap.get? p=Qs o/\o.cls=.type "dict":=by obtain⟨_,_,_,xs,_,o,es,ep,h1,h2,_⟩:=((I.UB p _ h));exact⟨o,h1,h2.1⟩
theorem vN(h:∀(d e:D) (v:V),bC n d e=Qt->Rep X.K H d v->Rep X.K H e v->d=e):∀{ds es:Ql D}{vs:Ql V},((ds.zip es).all λp=>bC n p.1 p.2)=Qt->TZ X.K H ds vs->TZ X.K H es vs->ds=es
 |_,_,_,_,.nil,.nil=>rfl
 |_,_,_,ok,.cons a r,.cons b q=>by simp only[Qc,QA,O6]at ok;rw[h _ _ _ ok.1 a b,vN h ok.2 r q]
def Rep.inj{σ:L2.St}(I:Inv X pins σ H s):∀(n:Nat) (d e:D) (v:V),bC n d e=Qt->Rep X.K H d v->Rep X.K H e v->d=e:=by
 intro n
 induction n with
 |zero=>
  intro d e v ok r q;cases mn ok with
  |sc a b=>rw[<-lV a,<-lV b,<-gT a r,<-gT b q]
  |tp _ _ _ h=>cases h
  |ls _ _ _ h=>cases h
 |succ n ih=>
  intro d e v ok r q;cases mn ok with
  |sc a b=>rw[<-lV a,<-lV b,<-gT a r,<-gT b q]
  |tp m xs ys h a b k=>cases h;subst a b;obtain⟨p,vs,rfl,h1,r1⟩:=r.Yl;obtain⟨p',Vs,z,h2,r2⟩:=q.Yl;cases z;have ev:=I.zdp h1 h2;subst ev;rw[vN ih k r1 r2]
  |ls m xs ys h a b k=>cases h;subst a b;obtain⟨p,vs,rfl,h1,r1⟩:=r.Ys;obtain⟨p',Vs,z,h2,r2⟩:=q.Ys;cases z;have ev:=I.zco h1 h2;subst ev;rw[vN ih k r1 r2]
mutual
theorem EM:∀{a b:D},cg a b=Qt->a=b
 |.Uz,b=>by cases b<;>intro h<;>first|rfl|exact absurd (h) O3
 |.bl x,b=>by cases b<;>intro h<;>first|exact congrArg _ (of_decide_eq_true h)|exact absurd (h) O3
 |.int x,b=>by cases b<;>intro h<;>first|exact congrArg _ (of_decide_eq_true h)|exact absurd (h) O3
 |.str x,b=>by cases b<;>intro h<;>first|exact congrArg _ (of_decide_eq_true h)|exact absurd (h) O3
 |.Vp x,b=>by cases b<;>intro h<;>first|exact congrArg _ (of_decide_eq_true h)|exact absurd (h) O3
 |.We x,b=>by cases b<;>intro h<;>first|exact congrArg _ (of_decide_eq_true h)|exact absurd (h) O3
 |.adr x,b=>by cases b<;>intro h<;>first|exact congrArg _ (of_decide_eq_true h)|exact absurd (h) O3
 |.UI x,b=>by cases b<;>intro h<;>first|exact congrArg _ (of_decide_eq_true h)|exact absurd (h) O3
 |.tup xs,b=>by cases b<;>intro h<;>first|exact congrArg _ (zaa h)|exact absurd (h) O3
 |.lst xs,b=>by cases b<;>intro h<;>first|exact congrArg _ (zaa h)|exact absurd (h) O3
 |.U1 ks xs,b=>by cases b<;>intro h<;>first|(rw[of_decide_eq_true (Po.mp h).1,zaa (Po.mp h).2])|exact absurd (h) O3
 |.obj C ks xs,b=>by cases b<;>intro h<;>first|(rw[of_decide_eq_true (Po.mp h).1,of_decide_eq_true (Po.mp (Po.mp h).2).1,zaa (Po.mp (Po.mp h).2).2])|exact absurd (h) O3
theorem zaa:∀{a b:List D},XM a b=Qt->a=b
 |[],b=>by cases b<;>intro h<;>first|rfl|exact absurd (h) O3
 |x::xs,b=>by cases b<;>intro h<;>first|(rw[EM (Po.mp h).1,zaa (Po.mp h).2])|exact absurd (h) O3
end
mutual
theorem EL:∀a:D,cg a a=Qt
 |.Uz=>rfl
 |.bl _=>UN rfl
 |.int _=>UN rfl
 |.str _=>UN rfl
 |.Vp _=>UN rfl
 |.We _=>UN rfl
 |.adr _=>UN rfl
 |.UI _=>UN rfl
 |.tup xs=>Z9 xs
 |.lst xs=>Z9 xs
 |.U1 _ xs=>Po.mpr ⟨UN rfl,Z9 xs⟩
 |.obj _ _ xs=>Po.mpr ⟨UN rfl,Po.mpr ⟨UN rfl,Z9 xs⟩⟩
theorem Z9:∀a:List D,XM a a=Qt
 |[]=>rfl
 |x::xs=>Po.mpr ⟨EL x,Z9 xs⟩
end
def Nw{a b:D}:cg a b=Qt↔a=b:=⟨EM,λe=>e▸EL a⟩
def zjx{a b:Ql D}:XM a b=Qt↔a=b:=⟨zaa,λe=>e▸Z9 a⟩
def YG{a b:D}:cg a b=Qt↔a=b:=Nw
def zeX{a b:D}:cg a b=Qf↔¬a=b:=by rw[<-YG];simp
def jj(xs ys:Ql D)(j:Nat):Bool:=match xs[j]?,ys[j]? with
 |some a,Qs b=>cg a b
 |_,_=>Qt
end
def PlainL.Wa(p:PlainL h a T5):h.IsList a T5:=by obtain⟨o,n,e,c,_,d⟩:=p;exact⟨o,e,c,n,d⟩
section
variable {X:Cx}{F:Ql XW}{a b c:XY}{es:Ql XY}{fa:DE}{g g1 g2:DS}{ft:DT}{st:XZ}{tg:XY}
def yr (r:Rep K H d v)(q:Rep K H e u)(s1:aQ d=Qt)(s2:aQ e=Qt)(ok:bC n d e=Qt):dk v=Qt/\dk u=Qt/\fP v u=cg d e:=by
 rw[gT s1 r,gT s2 q];revert s2 ok;refine g6 (P:=λd=>aQ e=Qt->bC n d e=Qt->dk _=Qt/\dk _=Qt/\fP _ _=cg d e) s1 ?_ ?_ ?_ ?_
 .exact λs2 _=>g6 (P:=λe=>dk _=Qt/\dk _=Qt/\fP _ _=cg _ e) s2 ⟨rfl,rfl,rfl⟩ (λ_=>⟨rfl,rfl,rfl⟩) (λ_=>⟨rfl,rfl,rfl⟩) λ_=>⟨rfl,rfl,rfl⟩
 .exact λx s2=>g6 (P:=λe=>bC n _ e=Qt->dk _=Qt/\dk _=Qt/\fP _ _=cg _ e) s2 (λ_=>⟨rfl,rfl,rfl⟩) (λ_ _=>⟨rfl,rfl,rfl⟩) (λ_ z=>absurd ((by cases n<;>exact z)) O3) λ_ _=>⟨rfl,rfl,rfl⟩
 .exact λx s2=>g6 (P:=λe=>bC n _ e=Qt->dk _=Qt/\dk _=Qt/\fP _ _=cg _ e) s2 (λ_=>⟨rfl,rfl,rfl⟩) (λ_ z=>absurd ((by cases n<;>exact z)) O3) (λ_ _=>⟨rfl,rfl,rfl⟩) λ_ _=>⟨rfl,rfl,rfl⟩
 .exact λx s2 _=>g6 (P:=λe=>dk _=Qt/\dk _=Qt/\fP _ _=cg _ e) s2 ⟨rfl,rfl,rfl⟩ (λ_=>⟨rfl,rfl,rfl⟩) (λ_=>⟨rfl,rfl,rfl⟩) λ_=>⟨rfl,rfl,rfl⟩
def ue(h:xs.length=ys.length):(P0 xs.length).all (jj xs ys)=cg (.lst xs) (.lst ys):=by
 rw[SX,YG,P5];constructor
 .intro hh;congr 1;apply Rx h;intro i h1 h2;have:=hh i (Qq.mpr h1);simp only[jj,O2 h1,O2 h2]at this;exact YG.mp this
 .intro hh i hi;injection hh with hh
  subst hh;simp only[jj];split
  .rename_i a b z1 z2;rw[z1]at z2;cases z2;exact YG.mpr rfl
  .rfl
def zp:((P0 (min xs.length ys.length)).all (jj xs ys)&&xs.length==ys.length)=cg (.tup xs) (.tup ys):=by
 by_cases h:xs.length=ys.length
 .have e:min xs.length ys.length=xs.length:=by lia
  rw[e,ue h,beq_iff_eq.mpr h,Bool.and_true];rfl
 .have e:(xs.length==ys.length)=Qf:=by lia
  rw[e,Bool.and_false];symm;rw[zeX];lia
def zS{xs ys:Ql D}(h:((xs.zip ys).all λp=>bC n p.1 p.2)=Qt){j:Nat}(hx:xs[j]?=Qs x)(hy:ys[j]?=Qs y):bC n x y=Qt:=by rw[P5]at h;refine h (x,y) (R7 (i:=j) ?_);rw[List.getElem?_zip_eq_some];exact⟨hx,hy⟩
def Vals.getL(h:Vals vs us)(hj:j<us.toArray.size):∃v,vs[j]?=Qs v/\RelV v us.toArray[j]:=by
 have Z3:j<vs.length:=by rw[h.length];assumption
 obtain⟨u,e,r⟩:=Vals.get h (O2 Z3);refine⟨_,O2 Z3,?_⟩;have:us.toArray[j]=u:=by
  have hj2:=hj
  simp_all
 rw[this];assumption
def gA (w:Vals vs T5)(h:TZ K H xs vs):T5.toArray.size=xs.length:=by rw[Pg,<-w.length,h.length]
def wY(h:¬xs.length=ys.length):cg (.lst xs) (.lst ys)=Qf:=zeX.mpr λz=>h (by lia)
def Ny{σ:L2.St}(I:Inv X pins σ H s):∀(n:Nat) (A:QP) (d e:D) (v u:V) (y z:Pl),A.units+n<cLine->bC n d e=Qt->Rep X.K H d v->Rep X.K H e u->RelV v y->RelV u z->SeqAt.EqAt A s y z (cg d e):=by
 intro n
 induction n with
 |zero=>
  intro A d e v u y z hu ok r q ry rz;cases mn ok with
  |sc s1 s2=>obtain⟨f1,f2,ee⟩:=yr r q s1 s2 ok;rw[<-ee];exact yu ry rz f1 f2
  |tp _ _ _ h=>cases h
  |ls _ _ _ h=>cases h
 |succ n ih=>
  intro A d e v u y z hu ok r q ry rz;have hu':A.in1.units+n<cLine:=PR (by lia) hu;have XF:=PR (SJ _ _) hu;have itm:∀{xs ys:Ql D}{vs ws:Ql V}{T5 VM:Ql _},((xs.zip _).all _)=Qt->TZ _ H _ _->TZ _ H _ _->Vals vs T5->Vals ws _->∀j g1 (g2:j<VM.toArray.size),SeqAt.EqAt _ s _ _ (jj xs ys j):=λk h2 Vv w1 VJ j g1 g2=>by obtain⟨v1,a1,a2⟩:=Vals.getL w1 g1;obtain⟨v2,b1,b2⟩:=Vals.getL VJ g2;obtain⟨x1,c1,c2⟩:=h2.XJ a1;obtain⟨x2,d1,d2⟩:=Vv.XJ b1;unfold jj;rw[c1,d1];exact(ih A.in1 x1 x2 v1 v2 _ _ hu' (zS k c1 d1) c2 d2 a2 b2)
  cases mn ok with
  |sc s1 s2=>obtain⟨f1,f2,ee⟩:=yr r q s1 s2 ok;rw[<-ee];exact yu ry rz f1 f2
  |tp m xs ys h a b k=>
   cases h;subst a b;by_cases z:v=u
   .subst z;rw[YG.mpr (Rep.inj I _ _ _ _ ok r q)];obtain⟨p,vs,rfl,_,_⟩:=r.Yl;cases ry;cases rz;exact SeqAt.EqAt.same _
   .obtain⟨p,vs,rfl,h1,h2⟩:=r.Yl;obtain⟨p',ws,rfl,WR,Vv⟩:=q.Yl;cases ry;cases rz;obtain⟨T5,w1,w2,_⟩:=I.tuple h1;obtain⟨VM,VJ,Wu,_⟩:=I.tuple WR;refine SeqAt.EqAt.of_refs (λy=>z (by rw[y])) ?_;have k:=SeqAt.RcAt.tuples w2 Wu XF (itm k h2 Vv w1 VJ);rw[gA w1 h2,gA VJ Vv,zp]at k;assumption
  |ls m xs ys h a b k=>
   cases h;subst a b;by_cases z:v=u
   .subst z;rw[YG.mpr (Rep.inj I _ _ _ _ ok r q)];obtain⟨p,vs,rfl,_,_⟩:=r.Ys;cases ry;cases rz;exact SeqAt.EqAt.same _
   .obtain⟨p,vs,rfl,h1,h2⟩:=r.Ys;obtain⟨p',ws,rfl,WR,Vv⟩:=q.Ys;cases ry;cases rz;obtain⟨T5,w1,w2,_⟩:=I.list h1;obtain⟨VM,VJ,Wu,_⟩:=I.list WR;refine SeqAt.EqAt.of_refs (λy=>z (by rw[y])) ?_;have l1:=gA w1 h2;have l2:=gA VJ Vv;by_cases hl:xs.length=ys.length
    .have k:=SeqAt.RcAt.lists (PlainL.Wa w2) (PlainL.Wa Wu) (by lia) XF (itm k h2 Vv w1 VJ);rw[l1,ue hl]at k;assumption
    .rw[wY hl];exact SeqAt.RcAt.lists_lengths (PlainL.Wa w2) (PlainL.Wa Wu) (by lia) XF
def qJ{σ:L2.St}(I:Inv X pins σ H s){A:QP}(hu:A.units+n+1<cLine)(ok:((xs.zip ys).all λp=>bC n p.1 p.2)=Qt) (h2:TZ X.K H xs vs) (Vv:TZ X.K H ys ws) (w1:Vals vs T5) (VJ:Vals ws VM):∀j (g1:j<T5.toArray.size) (g2:j<VM.toArray.size),SeqAt.EqAt A.in1 s T5.toArray[j] VM.toArray[j] (jj xs ys j):=λj g1 g2=>by
 obtain⟨v1,a1,a2⟩:=Vals.getL w1 g1;obtain⟨v2,b1,b2⟩:=Vals.getL VJ g2;obtain⟨x1,c1,c2⟩:=h2.XJ a1;obtain⟨x2,d1,d2⟩:=Vv.XJ b1;have:=Ny I n A.in1 _ _ _ _ _ _ (by lia) (zS ok c1 d1) c2 d2 a2 b2;have ee:jj xs ys j=cg x1 x2:=by simp only[jj,c1,d1]
 rw[ee];assumption
def gh:Ev->Ev->Qo Ev:=λr1 r2=>if bC 6 r1.d r2.d then Qs (.cl (.bl (cg r1.d r2.d))) else Qn
def eU:Ev->Ev->Qo Ev:=λr1 r2=>if bC 6 r1.d r2.d then Qs (.cl (.bl (!cg r1.d r2.d))) else Qn
def AH (r:Rep K H d v)(q:Rep K H e u)(s1:aQ d=Qt)(s2:aQ e=Qt)(ok:bC n d e=Qt):jM v u=Qt/\decide (v=u)=cg d e:=by
 refine⟨?_,?_⟩
 .rw[gT s1 r,gT s2 q];revert s2 ok;refine g6 (P:=λd=>aQ e=Qt->bC n d e=Qt->jM _ _=Qt) s1 ?_ ?_ ?_ ?_
  .exact λs2 _=>g6 (P:=λe=>jM V.Uz _=Qt) s2 rfl (λ_=>rfl) (λ_=>rfl) λ_=>rfl
  .exact λx s2=>g6 (P:=λe=>bC n _ e=Qt->jM _ _=Qt) s2 (λ_=>rfl) (λ_ _=>rfl) (λ_ z=>absurd ((by cases n<;>exact z)) O3) λ_ _=>rfl
  .exact λx s2=>g6 (P:=λe=>bC n _ e=Qt->jM _ _=Qt) s2 (λ_=>rfl) (λ_ z=>absurd ((by cases n<;>exact z)) O3) (λ_ _=>rfl) λ_ _=>rfl
  .exact λx s2=>g6 (P:=λe=>bC n _ e=Qt->jM _ _=Qt) s2 (λ_=>rfl) (λ_ z=>absurd ((by cases n<;>exact z)) O3) (λ_ _=>rfl) λ_ _=>rfl
 .rw[SX,YG];refine decide_eq_true_iff.trans ⟨λz=>?_,λz=>?_⟩
  .rw[<-lV s1,<-lV s2,<-gT s1 r,<-gT s2 q,z]
  .rw[gT s1 r,gT s2 q,z]
def mv(hu:X.A.units+64<cLine):VC X F (compareOp .Eq) gh:=by
 intro pins s σ H0 H A x y v u Q r1 r2 r I m g0 rx ry q1 q2 e hq;refine bJ e λok e=>?_;cases e;have p1:=q1.full;have p2:=q2.full;have XF:=PR (SJ _ _) hu;have hu5:=PR (Tj (by decide:6<=64) _) hu;cases mn ok with
 |sc s1 s2=>obtain⟨a1,a2⟩:=AH p1 p2 s1 s2 ok;exact Kn _ s σ H x y v u Q I rx ry ⟨a1,by rw[a2];exact hq _ H (TJ.refl H) (.bl _)⟩
 |tp m' xs ys h a b k=>cases h;rw[a]at p1 hq;rw[b]at p2 hq;obtain⟨p,vs,rfl,h1,h2⟩:=p1.Yl;obtain⟨p',ws,rfl,WR,Vv⟩:=p2.Yl;cases rx;cases ry;obtain⟨T5,w1,w2,_⟩:=I.tuple h1;obtain⟨VM,VJ,Wu,_⟩:=I.tuple WR;refine SeqAt.eq_tupleAt w2 Wu XF (qJ I hu5 k h2 Vv w1 VJ) ?_;rw[gA w1 h2,gA VJ Vv,zp];exact⟨.bl _,H,I,rfl,hq _ H (TJ.refl H) (.bl _)⟩
 |ls m' xs ys h a b k=>
  cases h;rw[a]at p1 hq;rw[b]at p2 hq;obtain⟨p,vs,rfl,h1,h2⟩:=p1.Ys;obtain⟨p',ws,rfl,WR,Vv⟩:=p2.Ys;cases rx;cases ry;obtain⟨T5,w1,w2,_⟩:=I.list h1;obtain⟨VM,VJ,Wu,_⟩:=I.list WR;have l1:=gA w1 h2;have l2:=gA VJ Vv;by_cases hl:xs.length=ys.length
  .refine SeqAt.eq_listAt (PlainL.Wa w2) (PlainL.Wa Wu) (by lia) XF (qJ I hu5 k h2 Vv w1 VJ) ?_;rw[l1,ue hl];exact⟨.bl _,H,I,rfl,hq _ H (TJ.refl H) (.bl _)⟩
  .rw[wY hl]at hq;exact SeqAt.eq_list_lengthsAt (PlainL.Wa w2) (PlainL.Wa Wu) (by lia) XF ⟨.bl _,H,I,rfl,hq _ H (TJ.refl H) (.bl _)⟩
def kU(hu:X.A.units+64<cLine):VC X F (compareOp .NotEq) eU:=by
 intro pins s σ H0 H A x y v u Q r1 r2 r I m g0 rx ry q1 q2 e hq;refine bJ e λok e=>?_;cases e;have p1:=q1.full;have p2:=q2.full;have XF:=PR (SJ _ _) hu;have hu5:=PR (Tj (by decide:6<=64) _) hu;cases mn ok with
 |sc s1 s2=>obtain⟨a1,a2⟩:=AH p1 p2 s1 s2 ok;exact Kh _ s σ H x y v u Q I rx ry ⟨a1,by rw[a2];exact hq _ H (TJ.refl H) (.bl _)⟩
 |tp m' xs ys h a b k=>cases h;rw[a]at p1 hq;rw[b]at p2 hq;obtain⟨p,vs,rfl,h1,h2⟩:=p1.Yl;obtain⟨p',ws,rfl,WR,Vv⟩:=p2.Yl;cases rx;cases ry;obtain⟨T5,w1,w2,_⟩:=I.tuple h1;obtain⟨VM,VJ,Wu,_⟩:=I.tuple WR;have k:=SeqAt.RcNeAt.tuples w2 Wu XF (qJ I hu5 k h2 Vv w1 VJ);rw[gA w1 h2,gA VJ Vv,zp]at k;exact k _ _ _ _ ⟨.bl _,H,I,rfl,hq _ H (TJ.refl H) (.bl _)⟩
 |ls m' xs ys h a b k=>
  cases h;rw[a]at p1 hq;rw[b]at p2 hq;obtain⟨p,vs,rfl,h1,h2⟩:=p1.Ys;obtain⟨p',ws,rfl,WR,Vv⟩:=p2.Ys;cases rx;cases ry;obtain⟨T5,w1,w2,_⟩:=I.list h1;obtain⟨VM,VJ,Wu,_⟩:=I.list WR;have l1:=gA w1 h2;have l2:=gA VJ Vv;by_cases hl:xs.length=ys.length
  .have k:=SeqAt.RcNeAt.lists (PlainL.Wa w2) (PlainL.Wa Wu) (by lia) XF (qJ I hu5 k h2 Vv w1 VJ);rw[l1,ue hl]at k;exact k _ _ _ _ ⟨.bl _,H,I,rfl,hq _ H (TJ.refl H) (.bl _)⟩
  .rw[wY hl]at hq;exact SeqAt.RcNeAt.lists_lengths (PlainL.Wa w2) (PlainL.Wa Wu) (by lia) XF _ _ _ _ ⟨.bl _,H,I,rfl,hq _ H (TJ.refl H) (.bl _)⟩
noncomputable def uC:D->String
 |.Uz=> "NoneType"
 |.bl _=> "bool"
 |.int _=> "int"
 |.str _=> "str"
 |.tup _=> "tuple"
 |.lst _=> "list"
 |.U1 _ _=> "dict"
 |.Vp _=> "dict"
 |.We _=> "dict"
 |.adr _=> "NoneType"
 |.UI _=> "NoneType"
 |.obj _ _ _=> "NoneType"
def xM(d:D)(T:String):Bool:=uC d==T||(uC d== "bool"&&T== "int")
def DO:D->Bool
 |.adr _=>Qt
 |.UI _=>Qt
 |.obj _ _ _=>Qt
 |_=>Qf
def tF(T:String)(f:DE):DE:=λt=>(f t).bind λr=>if DO r.d then Qn else Qs (.cl (.bl (xM r.d T)))
def zF(K:OQ)(T:String):Prop:=∀d:D,PySem.W.kitOne K (.type (uC d)) (.type T)=Qs (xM d T)
def BM{p p2:Pos}(ok:zF X.K T)(ha:PE X a (dE X.K F fa))(hg:Gl X "isinstance")(hm:X.mg "isinstance"=Qn)(hgT:Gl X x)(hmT:X.mg x=Qn)(hvT:bootBuiltins x=Qs (.type T))(hnT:x≠"__name__":=by decide)(hdT:Vf x:=by decide) (he:Pc (a::[Expr.Name x p2]) X.env=(Qf,eval a X.env)::Pc [.Name x p2] X.env:=by rfl) (he2:Pc [Expr.Name x p2] X.env=[(Qf,eval (.Name x p2) X.env)]:=by rfl) (Vu:(Rc pos (Pc [Expr.Name x p2] X.env)).any (·.1)=Qf:=by rfl):PE X (.Call (.Name "isinstance" p) [a,.Name x p2] [] pos) (dE X.K F (tF T fa)):=by
 have rule:gq X (.builtin "isinstance") (λxs H Q=>∃v d,xs=[v,.ty T]/\DO d=Qf/\Rep X.K H d v/\Q (.bl (xM d T)) H):=by
  intro pins s σ H xs us Q I r h;obtain⟨v,d,rfl,na,rp,hq⟩:=h;obtain⟨u,w',rfl,r1,r2⟩:=uy r;cases(r2);have fin:∀tk,EP X _ σ Q _ _:=λtk=>⟨.bl _,H,I.tok tk,rfl,hq⟩;have e:=ok d;cases rp with
  |Uz=>cases(r1);exact QN PySem.W.kitx_none I.Vr True.intro e (λz=>nomatch z) fin
  |bl y=>cases(r1);exact QN PySem.W.kitx_bool I.Vr True.intro e (λz=>nomatch z) fin
  |int i=>obtain⟨t,q⟩:=(r1);cases q;exact QN PySem.W.kitx_int I.Vr True.intro e (λz=>nomatch z) fin
  |str y=>obtain⟨t,q⟩:=(r1);cases q;exact QN PySem.W.kitx_str I.Vr True.intro e (λz=>nomatch z) fin
  |@tup _ p _ h1 h2=>cases(r1);obtain⟨T5,_,⟨o,e1,c1,_⟩,_⟩:=I.tuple h1;exact QN PySem.W.kitx_tuple I.Vr ⟨o,e1,c1⟩ e (λz=>nomatch z) fin
  |@lst _ p _ h1 h2=>cases(r1);obtain⟨T5,_,⟨o,n,e1,c1,_⟩,_⟩:=I.list h1;exact QN PySem.W.kitx_list I.Vr ⟨o,e1,c1⟩ e (λz=>nomatch z) fin
  |@U1 _ _ p _ _ h1 h2=>cases(r1);exact QN SF I.Vr (NH I h1) e (λz=>nomatch z) fin
  |@Vp _ p h1=>cases(r1);exact QN SF I.Vr (Ka I h1) e (λz=>nomatch z) fin
  |@We _ p _ h1=>cases(r1);exact QN SF I.Vr (Nq I h1) e (λz=>nomatch z) fin
  |adr _=>cases na
  |UI _=>cases na
  |obj _ _ _=>cases na
 refine PE.imp (J7 rule hg hm boot_isinstance (fj ha (fj (J8 (v:=.ty T) hgT hmT hvT rfl hnT hdT) fJ he2) he) (by decide) (‹_›) he Vu) ?_;rintro σ H Q ⟨A,t,r,R,e,h⟩;unfold tF at e;rcases e1:fa t with _|r1
 .rw[e1]at e;cases e
 rw[e1]at e;simp only[OY]at e;split at e
 case isTrue=>cases e
 cases e;exact⟨A,t,r1,R,e1,λv H' gs q=>⟨v,r1.d,rfl,by lia,q.full,h _ _ gs (.bl _)⟩⟩
end
def jK(N:Ql Str)(ds:Ql D):Th:=ds.map Sl.val++Pk (N.length-ds.length) Sl.no
theorem Ul.zat{K:OQ}:∀n,Ul K H0 H (Pk n Sl.no) (Pk n Qn) []
 |0=>.nil
 |n+1=>.no (Ul.zat n)
theorem Ul.start{K:OQ}(r0:Ul K H0 H t σ []):∀{ds:Ql D}{vs:Ql V},TZ K H0 ds vs->Ul K H0 H (ds.map Sl.val++t) (vs.map Qs++σ) []
 |_,_,.nil=>r0
 |_,_,.cons h r=>.val h (Ul.start r0 r)
def gG:Out->Qo Ev
 |.rt r=>Qs r
 |.nx _=>Qs (.cl .Uz)
 |_=>Qn
def Nb{st:XZ}(Fn:L2.UX K x qual st f fd)(S:U9 N ps (aK st)) (hlen:∀ds r,G ds=Qs r->ds.length=ps.length) (g:DS) (hG:∀ds r,G ds=Qs r->∃o,g (jK N ds)=Qs o/\gG o=Qs r) (WO:∀(UG:Pl) (A:QP) (outer:Ql Env) (s:Pf) (H:Hp) (E:XK) (F:Ql XW),UU k (A.deeper (envOfC qual (aK st) s.heap.objs.size f UG))->UL (fR bT P w K mg base N qual (aK st) f UG A outer s H E).W4 (cZ st) (dS K F g)):Vn P w K mg base bT (k+1) f fd ps (Xr K G):=by
 refine Fn.ok S (λvs H Q E h=>?_) (λUG A outer s H vs Q E hr h=>?_)
 .obtain⟨Fo,ds,r,_,hr,hg,_⟩:=h;rw[hr.length];exact hlen _ r hg
 .obtain⟨Fo,ds,r,hl,Yu,hg,cont⟩:=h;obtain⟨o,ho,Yv⟩:=hG ds r hg;refine⟨_,WO UG A outer s H E Fo hr,jo (A:=[]) (t:=jK N ds) ⟨hl,PN,λp hp=>(by cases hp),?_⟩ ho ?_⟩
  .unfold jK L2.start;rw[Yu.length];exact Ul.start (Ul.zat _) Yu
  .have sm:∀{A' H'},Gr [] H A' _->TJ H H':=λg b o q=>g.kp b o (by simp) q;cases o with
   |nx t'=>cases Yv;exact λσ' H' A' g' R'=>cont _ _ (sm g') .Uz
   |bk t'=>cases Yv
   |ct t'=>cases Yv
   |rt r'=>
    cases Yv;intro v H' A' g' q;refine cont v _ (sm g') ?_;cases r with
    |cl d=>assumption
    |tm d=>assumption
    |nw xs=>
     obtain⟨p,Vs,rfl,h1,h2,h3,h4⟩:=q;rcases h1 with h1|h1
     .cases h1
     .exact⟨p,Vs,rfl,h1,h3,h4⟩
    |dn d=>obtain⟨B,h1,h2,h3⟩:=q;exact⟨B,h1,λb hb=>by simp_all,h3⟩
structure Xn(P:Qz)(w:RZ)(K:OQ)(mg:Str->Option Pl)(base:Wh)(x:Str)(k:Nat)(G:List D->Option Ev):Prop where
 ex:∃(a:XW) (fd:Ru) (ps:List Str),mg x=Qs (.ref a)/\Qh K (.ref a)=Qt/\L2.Binds K fd ps []/\Vn P w K mg base bT k a fd ps (Xr K G)
section
variable {X:Cx}{F:Ql XW}{a b c:XY}{es:Ql XY}{fa:DE}
def fX{p:Pos}(c:Xn X.prog X.w X.K X.mg X.base x k G)(hr:UU k X.A)(ha:PA X (a::es) (dA X.K F ga))(hg:Gl X x:=by rfl)(Ws:Vf x:=by decide) (he:Pc (a::es) X.env=(Qf,eval a X.env)::Pc es X.env:=by rfl) (Vu:(Rc pos (Pc es X.env)).any (·.1)=Qf:=by rfl):PE X (.Call (.Name x p) (a::es) [] pos) (dE X.K F (ai (aX G) ga)):=by obtain⟨f,fd,ps,h1,h2,h3,h4⟩:=c.ex;exact JZ h4 hr hg h1 h2 h3 ha Ws he Vu
end
structure Df(K:OQ)(mg:Str->Option Pl)(x:Str)(st:XZ)(ps:List Str)(a:XW)(fd:Ru):Prop where
 fn:L2.UX K x x st a fd
 mgx:mg x=Qs (.ref a)
 bd:L2.Binds K fd ps []
def Df.XN{st:XZ}(d:Df K mg x st ps a fd)(h:Vn P w K mg base bT k a fd ps (Xr K G)):Xn P w K mg base x k G:=⟨a,fd,ps,d.mgx,d.fn.kp,d.bd,h⟩
def ME:zF K "bool":=λd=>by cases d<;>rfl
def MD:zF K "tuple":=λd=>by cases d<;>rfl
def Oj:bootBuiltins "bool"=Qs (.type "bool"):=rfl
def Oh:bootBuiltins "tuple"=Qs (.type "tuple"):=rfl
def t9:bootBuiltins "list"=Qs (.type "list"):=rfl
def Ft:bootBuiltins "abs"=Qs (.builtin "abs"):=by rfl
def m5:∀{us:Ql Pl},us.length=n+1->∃a t,us=a::t/\t.length=n
 |a::t,h=>⟨a,t,rfl,Nat.succ.inj h⟩
def za{st:XZ}(F:L2.UX K x qual st f fd)(h:∀(kV doc pm:Pl) (an:Qo XW) (UG ct:Pl),∀a0:Pl,bindArgs (Qk x qual (fQ st) (cZ st) (aK st) .none kV doc pm an UG ct) ⟨[a0],[]⟩=pure [(p0,a0)]):Binds K fd [p0] []:=F.binds λkV doc pm an UG ct u0 h0=>by
  obtain⟨a0,u1,rfl,h1⟩:=m5 h0
  simp_all
def m9{st:XZ}(F:L2.UX K x qual st f fd)(h:∀(kV doc pm:Pl) (an:Qo XW) (UG ct:Pl),∀a0 a1:Pl,bindArgs (Qk x qual (fQ st) (cZ st) (aK st) .none kV doc pm an UG ct) ⟨[a0,a1],[]⟩=pure [(p0,a0),(p1,a1)]):Binds K fd [p0,p1] []:=F.binds λkV doc pm an UG ct u0 h0=>by
  obtain⟨a0,u1,rfl,h1⟩:=m5 h0;obtain⟨a1,u2,rfl,h2⟩:=m5 h1
  simp_all
def ua{st:XZ}(F:L2.UX K x qual st f fd)(h:∀(kV doc pm:Pl) (an:Qo XW) (UG ct:Pl),∀a0 a1 a2:Pl,bindArgs (Qk x qual (fQ st) (cZ st) (aK st) .none kV doc pm an UG ct) ⟨[a0,a1,a2],[]⟩=pure [(p0,a0),(p1,a1),(p2,a2)]):Binds K fd [p0,p1,p2] []:=F.binds λkV doc pm an UG ct u0 h0=>by
  obtain⟨a0,u1,rfl,h1⟩:=m5 h0;obtain⟨a1,u2,rfl,h2⟩:=m5 h1;obtain⟨a2,u3,rfl,h3⟩:=m5 h2
  simp_all
inductive Hv(K:OQ)(x:Str)(st:XZ)(f:XW):Prop
 |mk {od an:Option XW}{sl:Array (Option Pl)}{oc kV dc pm cd ct:Pl} (a:Qu K mainGlobals x=Qs (Qs (.ref f))) (l:K.lookup f=Qs ⟨oc,od,.func (Qk x x (fQ st) (cZ st) (aK st) .none kV dc pm an cd ct),sl⟩) (c:Rv K cd x=Qt) (k:Qh K (.ref f)=Qt):Hv K x st f
def Hv.fn{st:XZ}(h:Hv K x st f):∃fd,L2.UX K x x st f fd:=by
 cases h with
 |mk a l c k=>exact⟨_,sT l c k⟩
theorem Hv.mg{K:OQ}{st:XZ}{mg:Str->Qo Pl}(h:Hv K x st f)(X:K.In hp)(G:hp.Ns mainGlobals mg):mg x=Qs (.ref f):=by
 cases h with
 |mk a l c k=>exact TN X G a
def HM(h1:sc.kind=.function)(h2:sc.isCoroutine=Qf)(h3:sc.isGenerator=Qf)(h5:N.take P.length=P)(h:(decide N.Nodup&&(decide (∀x∈P,sc.names.lookup x=Qs .local\/sc.names.lookup x=Qs .cell)&&decide (∀y∈sc.names,y.2≠.free)))=Qt):U9 N P sc:=by rw[O6,O6,VH,VH,VH]at h;exact⟨h1,h2,h3,h.1,h5,h.2.1,h.2.2⟩
def Hv.bt{st:XZ}(F:L2.UX K x x st f fd)(h:∀(kV doc pm:Pl) (an:Qo XW) (UG ct:Pl) (v:Pl),bindArgs (Qk x x (fQ st) (cZ st) (aK st) .none kV doc pm an UG ct) ⟨[v],[]⟩=pure [(p,v)])(s:Pf)(v:Pl):BindsTo s fd ⟨[v],[]⟩ [(p,v)]:=by obtain⟨oc,od,kV,doc,pm,an,UG,ct,X2,rfl,lk,UY⟩:=F.ex;exact .of_eq (h ..)
def C8(sc:U0)(x:Str):Bool:=match sc.names.lookup x with
 |some .local=>Qt
 |some .cell=>Qt
 |_=>Qf
def iD(h:C8 sc x=Qt):L2.Loc sc x:=by
 unfold C8 at h;unfold L2.Loc;cases e:sc.names.lookup x with
 |none=>rw[e]at h;cases h
 |some k=>rw[e]at h;cases k<;>first|exact .inl rfl|exact .inr rfl|cases h
end DL
namespace L2
open PySem.Spec
section
variable {X:Cx}{pins:Ql (XW×Obj)}{σ:L2.St}{s:Pf}{h':XX}
def Inv.zfQ{fp:Ql XW}{a:XW}(I:Inv X pins σ H s)(k:∀b u,b∉fp->s.heap.get? b=Qs u->h'.get? b=Qs u)(hf:∀b∈fp,d4 X pins H b)(hp:s.heap.objs.size<=a)
  (new:VQ X.prog X.w (upd H a o) h' a o):Inv X pins σ (upd H a o) { s with heap:=h',toks:=t' }:=by
 have ha:H a=Qn:=I.UB.fresh hp;have sm:∀b u,H b=Qs u->upd H a o b=Qs u:=λb u e=>by rw[aC (λz=>by lia)];assumption
 have nfp:∀b u,H b=Qs u->b∉fp:=λb u e z=>by rw[(hf b z).1]at e;cases e
 refine I.step (g':=s.gens) (d':=s.drawn) (ch:=fp) (λb hb=>?_) (λb u _ _ hc e _=>k b u hc e) (λb u _ _ hc e _=>⟨u.slots,k b u hc e⟩) (λb u _ e n=>?_)
  (λb u hc e=>⟨u,k b u hc e⟩) (λb xs e=>sm b _ e) (λb q u e=>sm b _ e) (λb ps e=>sm b _ e) (λm hm=>?_) (λb u e=>?_) I.bare
 .obtain⟨f0,f1,f2,f3,f4,f5⟩:=hf b hb;exact⟨f3,f1,f4,f5⟩
 .rw[aC (Py (O9 (Pd e) hp))];assumption
 .obtain⟨q,es,ep,ho,r⟩:=hm;exact⟨q,es,ep,k _ q (λz=>(hf _ z).2.1 rfl) ho,r⟩
 .by_cases z:b=a
  .subst z;rw[aM]at e;lia
  .rw[aC z]at e;refine(I.UB b u e).XD (λc v hc q=>k c v ?_ q) (λc q=>sm c _ q) (λc xs q=>sm c _ q) λc o u q=>sm c _ q
   grind
def Inv.zfR{fp:Ql XW}(I:Inv X pins σ H s)(k:∀b u,b∉fp->s.heap.get? b=Qs u->h'.get? b=Qs u)(hf:∀b∈fp,d4 X pins H b):Inv X pins σ H {s with heap:=h',toks:=t'}:=by
 have nfp:∀b u,H b=Qs u->b∉fp:=λb u e z=>by rw[(hf b z).1]at e;cases e
 refine I.step (g':=s.gens) (d':=s.drawn) (ch:=fp) (λb hb=>?_) (λb u _ _ hc e _=>k b u hc e) (λb u _ _ hc e _=>⟨u.slots,k b u hc e⟩) (λb u _ e n=>n) (λb u hc e=>⟨u,k b u hc e⟩) (λb xs e=>e) (λb q u e=>e) (λb ps e=>e) (λm hm=>?_) (λb u e=>?_) I.bare
 .obtain⟨f0,f1,f2,f3,f4,f5⟩:=hf b hb;exact⟨f3,f1,f4,f5⟩
 .obtain⟨q,es,ep,ho,r⟩:=hm;exact⟨q,es,ep,k _ q (λz=>(hf _ z).2.1 rfl) ho,r⟩
 .refine(I.UB b u e).XD (λc v hc q=>k c v ?_ q) (λc q=>q) (λc xs q=>q) λc o u q=>q
  grind
end
def uh(K:OQ)(a:XW):It:=⟨λi H=>∃xs x,Ux K H a xs/\xs[i]?=Qs x,λi H x H'=>∃p v,H p=Qn/\x=.ref p/\H'=upd H p (.tup [.int i,v])/\∀xs,Ux K H a xs->xs[i]?=Qs v,λi H=>∃xs,Ux K H a xs/\xs.length<=i⟩
def OK(e it a:XW)(i:Nat)(h:XX):Prop:=(∃old,IsEnum h e it (i:Int) old)/\h.IsListIter it a i/\e≠it
def Gx (a e it:XW):Turn P w K (.Tuple elts k pos) (uh K a) [e,it] e (OK e it a) where
 mem:=by simp
 obj:=λi h st b hb=>by
  obtain⟨⟨old,h1⟩,h2,_⟩:=st;rcases(by simpa using hb:b=e\/b=it) with rfl | rfl
  .simp_all
  .obtain⟨o,e1,c,d⟩:=h2
   simp_all
 keep:=λi h h' st kk=>by obtain⟨⟨old,h1⟩,h2,ne⟩:=st;exact⟨⟨old,kk e (by simp) _ h1⟩,h2.at λo q=>kk _ (by simp) o q,ne⟩
 item:=by
  intro X hP hw hK hc i pins s σ H E I hf st hg;subst hP hw hK;obtain⟨xs,x,hq,hx⟩:=hg;obtain⟨T5,rv,p,hz⟩:=I.list hq;obtain⟨u,hu,ru⟩:=rv.get hx;obtain⟨⟨old,h1⟩,h2,ne⟩:=st;refine wpAny_pyNext_enum_item h1 h2 p.isList (x:=u) (by simpa using hu) ne λWR Zp zid ht1 hz1 hk1=>?_;refine⟨_,rfl,wpAny_letOwnedTupleGo_enum Zp λVv he2 X8=>?_⟩;replace X8:Heap.SameBut e WR Vv:=X8;have es:e<s.heap.objs.size:=Pd h1;have kp:∀b o,b∉[e,it]->s.heap.get? b=Qs o->Vv.get? b=Qs o:=λb o nb q=>by have n1:b≠e:=λz=>nb (by simp[z]);exact(X8.2 b n1).trans (hk1 b o n1 (λz=>nb (by simp[z])) q)
  have ht2:Vv.get? s.heap.objs.size=Qs { cls:=.type "tuple",data:=.seq #[.int i s.toks,u] }:=(X8.2 _ (R6 es)).trans ht1;have I2:Inv X pins σ (upd H s.heap.objs.size (.tup [.int i,x])) { s with heap:=Vv,toks:=s.toks+1 }:=I.zfQ (t':=s.toks+1) kp hf (O5 _)
   ⟨by show 2<=PD;decide,[.int i s.toks,u],.cons ⟨_,rfl⟩ (.cons ru .nil),⟨_,ht2,rfl,_,rfl⟩⟩
  refine⟨.ref s.heap.objs.size,_,I2,rfl,⟨s.heap.objs.size,x,I.UB.fresh (O5 _),rfl,rfl,λys hy=>by rw[I.zco hy hq];assumption⟩,⟨⟨u,?_⟩,?_,ne⟩,λb hb=>?_⟩
  .assumption
  .exact zid.extBut X8.extBut (Ne.symm ne)
  .rw[aC (λz=>?_)]
   .exact(hf b hb).1
   .rcases(by simpa using hb:b=e\/b=it) with w' |w'
    .lia
    .obtain⟨o,e1,_⟩:=h2;have:=Pd e1;lia
 done:=by intro X hP hw hK hc i pins s σ H E I hf st hg;subst hP hw hK;obtain⟨xs,hq,hx⟩:=hg;obtain⟨T5,rv,p,hz⟩:=I.list hq;obtain⟨⟨old,h1⟩,h2,ne⟩:=st;have hl:=rv.length;refine wpAny_pyNext_enum_end (I.ok.hd hc) h1 h2 p.isList (by simp;lia) λh' eb=>⟨rfl,I.zfR (λb o nb q=>eb b o (λz=>nb (by simp[z])) q) hf⟩
 self:=λ_ _ _ _ _ st h=>by obtain⟨⟨old,h1⟩,_,_⟩:=st;exact wpAny_pyIter_enum h1 h
def MT(K:OQ)(tl:TE):TI:=λσ H R=>tl σ H λx H1=>∃a,x=.ref a/\(∃xs,Ux K H1 a xs)/\R (uh K a) H1
def Oi:bootBuiltins "enumerate"=Qs (.type "enumerate"):=by rfl
def BG(hg:Gl X "enumerate")(hm:X.mg "enumerate"=Qn)(hl:PE X l tl)(hs:Pc [l] X.env=[(Qf,eval l X.env)]:=by rfl):PI X (.Tuple elts k tp) (.Call (.Name "enumerate" p) [l] [] pos) (MT X.K tl):=by
 intro pins s σ H R I h;refine Call_ (hZ I hg hm Oi (PyProof.Rows.callWith_type1 (aA ((fj hl fJ hs) _ _ s σ H (λvs H1=>match vs with|[x]=>∃a,x=.ref a/\(∃xs,Ux _ H1 a xs)/\R (uh _ a) H1|_=>False) I h) λus s1 ⟨vs,H1,I1,r1,q1⟩=>?_) hs rfl));cases r1 with
 |nil=>exact q1.elim
 |@cons x u xr ur ru rr=>
  cases rr with
  |cons _ _=>exact q1.elim
  |nil=>
  obtain⟨a,rfl,⟨xs,hq⟩,q⟩:=q1;cases ru;obtain⟨T5,rv,p,hz⟩:=I1.list hq;refine call_enumerate_list p.isList λh' he hit hz' hk=>?_;refine wpAny_pyIter_enum he ?_;refine⟨_,_,_,_,H1,rfl,(I1.kept (t':=s1.toks) hk),Gx a _ _,⟨⟨_,he⟩,hit,Nat.succ_ne_self _⟩,λb hb=>?_,q⟩;rcases(by simpa using hb) with rfl|rfl
  .exact I1.Yf (SS _) (I1.UB.fresh (SS _))
  .exact I1.Yf (O5 _) (I1.UB.fresh (O5 _))
end L2
namespace DL
open PySem.Spec L2
def d8(i:Nat):Ql D->Ql D
 |[]=>[]
 |d::ds=>.tup [.int i,d]::d8 (i+1) ds
theorem lr:∀(i:Nat) (ds:Ql D),(d8 i ds).length=ds.length
 |_,[]=>rfl
 |i,d::ds=>by simp[d8,lr _ _]
theorem yv:∀(i:Nat) (ds:Ql D) (j:Nat) (d:D),ds[j]?=Qs d->(d8 i ds)[j]?=Qs (.tup [.int ((i+j:Nat):Int),d])
 |_,[],j,d,h=>by simp at h
 |i,e::ds,0,d,h=>by simp at h;subst h;rfl
 |i,e::ds,j+1,d,h=>by have:=yv (i+1) _ j d (h);simp only[d8,Ra,this];rw[show i+1+j=i+(j+1) by lia]
def tN(k:D->Th->Qo Th)(f:DE)(body:DS):DS:=λt=>(f t).bind λr=>match r.d with
 |.lst ds=>if r.ok then bL k body (d8 0 ds) t else Qn
 |_=>Qn
section
variable {X:Cx}{F:Ql XW}{a b c:XY}{es:Ql XY}{fa:DE}{g g1 g2:DS}
def Jf{tp p1 p2:Pos}(hp:PassesOwn (model X.prog X.w) X.A X.env X.xe)(hc:X.calm=Qt)(W8:Gl X "enumerate")(hm:X.mg "enumerate"=Qn)(hl:PE X a (dE X.K F fa))(hg:PG X (.Tuple elts kk tp) gt)(ht:cC X.K F gt kt)(hb:UL X body (dS X.K F g)) (U6:Pc [a] X.env=[(Qf,eval a X.env)]:=by rfl) (hs:∀x,foldedSetIterable (.Call (.Name "enumerate" p1) [a] [] p2) X.env x=pure x:=by intro _;rfl):PS X (.For (.Tuple elts kk tp) (.Call (.Name "enumerate" p1) [a] [] p2) body [] pos) (dS X.K F (tN kt fa g)):=by
 refine PS.imp (jV hp hc (BG W8 hm hl U6) hg hb hs) ?_;intro E σ H hh;obtain⟨A,t,o,R,e,h⟩:=jm hh;refine aq e λr e1 e=>?_;refine⟨A,t,r,R,e1,λv H1 gs q=>?_⟩;split at e
 case h_2=>cases e
 rename_i ds z;refine bJ e λok e=>?_;have cl:=q.clean R.mu gs ok;rw[z]at cl;cases cl with
 |@lst _ p vs h1 h2=>
  refine⟨p,rfl,⟨vs,Ux.mono (aR _ _) h1⟩,?_⟩;refine yk (λA H=>Ux _ (ag (A++F) H) p _/\TZ _ (ag (A++F) H) _ _) ht (R.grow gs) e (h.back (Gr.of_same R.mu.left gs)) ⟨h1,h2⟩ (λA H A' H' q gr=>⟨Ux.mono gr.same q.1,TZ.mono gr.same q.2⟩) (λA H q=>⟨vs,Ux.mono (aR _ _) q.1,by rw[h2.length,lr];simp⟩) (λA H i q hi=>?_) (λA H i x H' q mu y hi=>?_)
  .have XG:i<vs.length:=by rw[h2.length];rw[lr]at hi;assumption
   exact⟨vs,_,Ux.mono (aR _ _) q.1,O2 XG⟩
  .obtain⟨l,v,Yx,rfl,rfl,hv⟩:=y;obtain⟨d,hd,rd⟩:=q.2.XJ (hv vs (Ux.mono (aR _ _) q.1));have sm:=du (o:=HO.tup [.int i,v]) Yx;refine⟨sm,_,yv 0 _ i d hd,?_⟩;rw[Rn];exact .tup (UJ.of (aU aM (dQ mu Yx))) (.cons (.int _) (.cons (Rep.mono (ck sm) rd) .nil))
end
end DL
namespace L2
open PySem.Spec
noncomputable def cz(cells:Ql (Str×XW)):Ql (Str×QX)->Ql (Str×XW)->Ql (Str×XW)
 |[],acc=>acc
 |(n,k)::r,acc=>if k==.free then cz cells r ((n,(cells.lookup n).getD 0)::acc) else cz cells r acc
theorem yS:∀{names:Ql (Str×QX)}{acc:Ql (Str×XW)}{x:Str}{c:XW},(∀y∈names,y.2=.free->∃c,cells.lookup y.1=Qs c)->(cz cells names acc).lookup x=Qs c->acc.lookup x=Qs c\/cells.lookup x=Qs c
 |[],acc,x,c,_,h=>.inl h
 |(n,k)::r,acc,x,c,hy,h=>by
  unfold cz at h;have hr:∀y∈r,y.2=.free->∃c,cells.lookup y.1=Qs c:=λy h1=>hy y (OS _ h1);split at h
  .rename_i hk;rcases yS hr h with z|z
   .rw[P6]at z;split at z
    .rename_i e;have e:x=n:=by lia
     obtain⟨c',WC⟩:=hy _ (OU ..) (by lia)
     simp_all
    .exact .inl z
   .exact .inr z
  .exact yS hr h
theorem yR:∀{names:Ql (Str×QX)}{acc:Ql (Str×XW)}{x:Str},(∃c,acc.lookup x=Qs c)->∃c,(cz cells names acc).lookup x=Qs c
 |[],acc,x,h=>h
 |(n,k)::r,acc,x,h=>by
  unfold cz;split
  .refine yR ?_;rw[P6];split
   .simp
   assumption
  .exact yR h
theorem m6:∀{names:Ql (Str×QX)}{acc:Ql (Str×XW)}{x:Str},(x,Qb)∈names->∃c,(cz cells names acc).lookup x=Qs c
 |(n,k)::r,acc,x,h=>by
  unfold cz;rcases OZ.mp h with z|z
  .cases z;refine yR ⟨(cells.lookup n).getD 0,?_⟩;simp[P6]
  .split
   .exact m6 z
   .exact m6 z
def tW(h:∀y∈scope.names,y.2=.free->∃c,env.cells.lookup y.1=Qs c):closureFor scope env=pure (cz env.cells scope.names []):=by
 unfold closureFor;have key:∀names acc,(∀y∈names,y.2=.free->∃c,env.cells.lookup y.1=Qs c)-> (forIn names acc λx cs=>(do
    if x.2==.free then
     let a<-cellOf env x.1
     pure (P1 ((x.1,a)::cs))
    else pure (P1 cs):Sem _))=pure (cz env.cells names acc):=by
  intro names
  induction names with
  |nil=>intro acc _;rfl
  |cons y r ih=>
   intro acc hy;obtain⟨n,k⟩:=y;have hr:=λy h1=>hy y (OS _ h1);rw[List.forIn_cons];unfold cz;by_cases hk:(k==Qb)=Qt
   .obtain⟨c,hc⟩:=hy _ (OU ..) (by lia);have WC:cellOf env n=pure c:=by unfold cellOf;rw[hc]
    simp only[hk,if_true,WC];rw[<-ih _ hr];simp only[hc,Option.getD_some];rfl
   .simp_all
 have:=key _ [] h
 simp_all
theorem nO{env:Env}:∀{names:Ql (Str×QX)}{x:Str}{k':QX},(names.map λ(n,k)=>if(k==Qb&&env.scope.kind==.function&&env.kindOf n==Qs .cell) then(n,Rq) else(n,k)).lookup x=Qs k'->∃k,(x,k)∈names/\(k'=k\/(k=.free/\k'=.cell))
 |[],x,k',h=>by simp at h
 |(n,k)::r,x,k',h=>by
  rw[Pa]at h;by_cases hc:(k==Qb&&env.scope.kind==.function&&env.kindOf n==Qs .cell)=Qt
  .simp only[hc,if_true,P6]at h;split at h
   .simp_all
   .obtain⟨q,a,b⟩:=nO h;exact⟨q,OS _ a,b⟩
  .have WC:(k==Qb&&env.scope.kind==.function&&env.kindOf n==Qs .cell)=Qf:=by simpa using hc
   simp only[WC,PU,if_false,P6]at h;split at h
   .simp_all
   .obtain⟨q,a,b⟩:=nO h;exact⟨q,OS _ a,b⟩
def NR(I:Nat->Pf->Prop) (turn:∀n s,I n s->wpAny (model prog w) A (pyNext it) (λr s₁=>match r with
   |none=>R (.ok .next) s₁
   |some v=>wpAny (model prog w) A (letOwnedTupleGo target it v) (λ_ s₁'=>wpAny (model prog w) A (assign target env v) (λ_ s₂=>
     wpAny (model prog w) A (forIn ifs Qt λc r=>if r=Qt then do let ok<-isTrue c env (eval c env);pure (P1 ok) else pure (P1 r)) (λok s₃=>
      if ok=Qt then wpAny (model prog w) A (eval elt env) (λx s₄=>
       wpAny (model prog w) A (call (.builtin "list.append") [acc,x]) (λ_ s₅=>∃m,m<n/\I m s₅) (λ_ _=>False) s₄) (λ_ _=>False) s₃
      else ∃m,m<n/\I m s₃) (λ_ _=>False) s₂) (λ_ _=>False) s₁') (λ_ _=>False) s₁) (λ_ _=>False) s) (n:Nat) (h:I n s):codeAny (model prog w) A (.compLoop (.ListComp elt [⟨target,iter,ifs,0⟩] scope pos) 0 it acc env) R s:=by
 refine codeAny_loop rfl I (λn s hI=>?_) n h;refine wpAny_noted ?_;refine OX (wpAny_standAt (OX (wpAny_mono (turn n s hI) (λr s₁ h₁=>?_) λ_ _ h'=>h'.elim)));cases r with
 |none=>exact O8 h₁
 |some v=>
  refine OX (wpAny_mono h₁ (λ_ s₁' h₁'=>?_) λ_ _ h'=>h'.elim);refine OX (wpAny_mono h₁' (λ_ s₂ h₂=>OX (wpAny_mono h₂ (λok s₃ h₃=>?_) λ_ _ h'=>h'.elim)) λ_ _ h'=>h'.elim);cases ok with
  |false=>exact O8 ⟨rfl,h₃⟩
  |true=>exact OX (OX (wpAny_mono h₃ (λx s₄ h₄=>OX (wpAny_mono h₄ (λ_ s₅ h₅=>O8 (O8 ⟨rfl,h₅⟩)) λ_ _ h'=>h'.elim)) λ_ _ h'=>h'.elim))
theorem y7:∀{names:Ql (Str×QX)}{n:Nat}{acc:Ql (Str×XW)},(cellsFrom n names acc).lookup x=Qs c->acc.lookup x=Qs c\/n<=c
 |[],n,acc,h=>.inl h
 |(y,k)::r,n,acc,h=>by
  unfold cellsFrom at h;split at h
  .rcases y7 h with z|z
   .rw[P6]at z;split at z
    .simp_all
    .exact .inl z
   .exact .inr (by lia)
  .exact y7 h
theorem tX:∀{names:Ql (Str×QX)}{n:Nat}{acc:Ql (Str×XW)},(∃c,acc.lookup x=Qs c)->∃c,(cellsFrom n names acc).lookup x=Qs c
 |[],n,acc,h=>h
 |(y,k)::r,n,acc,h=>by
  unfold cellsFrom;split
  .refine tX ?_;rw[P6];split
   .lia
   assumption
  .exact tX h
theorem yU:∀{names:Ql (Str×QX)}{n:Nat}{acc:Ql (Str×XW)},(x,Rq)∈names->∃c,(cellsFrom n names acc).lookup x=Qs c
 |(y,k)::r,n,acc,h=>by
  unfold cellsFrom;rcases OZ.mp h with z|z
  .cases z;exact tX ⟨n,by simp⟩
  .split
   .exact yU z
   .exact yU z
theorem yY{lo:Nat}:∀{names:Ql (Str×QX)}{n:Nat}{acc:Ql (Str×XW)},lo<=n->(∀c,acc.lookup x=Qs c->lo<=c)->(cellsFrom n names acc).lookup x=Qs c->lo<=c
 |[],n,acc,_,ha,h=>ha c h
 |(y,k)::r,n,acc,hn,ha,h=>by
  unfold cellsFrom at h;split at h
  .refine yY (by lia) (λc' h'=>?_) h;rw[P6]at h';split at h'
   .cases h';assumption
   .exact ha _ h'
  .exact yY hn ha h
theorem yW:∀{names:Ql (Str×QX)}{n:Nat}{acc:Ql (Str×XW)},(x,Rq)∈names->(cellsFrom n names acc).lookup x=Qs c->n<=c
 |(y,k)::r,n,acc,hm,h=>by
  unfold cellsFrom at h;rcases OZ.mp hm with z|z
  .cases z;refine yY (by lia) (λc' h'=>?_) h
   simp_all
  .split at h
   .have:=yW z h;lia
   .exact yW z h
theorem yV:∀{names:Ql (Str×QX)}{n:Nat}{acc:Ql (Str×XW)},(x,Rq)∉names->(cellsFrom n names acc).lookup x=acc.lookup x
 |[],n,acc,_=>rfl
 |(y,k)::r,n,acc,h=>by
  have hr:(x,Rq)∉r:=λz=>h (OS _ z);unfold cellsFrom;split
  .rw[yV hr,P6];split
   .simp_all
   rfl
  .exact yV hr
theorem yX:∀{names:Ql (Str×QX)}{n:Nat}{acc:Ql (Str×XW)},(∀x c,acc.lookup x=Qs c->c<n)->(∀x y c,acc.lookup x=Qs c->acc.lookup y=Qs c->x=y)->∀x y c,(cellsFrom n names acc).lookup x=Qs c->(cellsFrom n names acc).lookup y=Qs c->x=y
 |[],n,acc,_,hi=>hi
 |(z,k)::r,n,acc,hb,hi=>by
  unfold cellsFrom;split
  .refine yX (n:=n+1) (λx c h=>?_) (λx y c h1 h2=>?_)
   .rw[P6]at h;split at h
    .cases h;simp
    .exact RL (hb x c h)
   .rw[P6]at h1 h2;split at h1
    .grind
    .split at h2
     .cases h2;exact absurd (hb x _ h1) (Q4 _)
     .exact hi x y c h1 h2
  .exact yX hb hi
theorem yZ:∀{names:Ql (Str×QX)}{h:XX}{acc:Ql (Str×XW)},(∀c,acc.lookup x=Qs c->∃v,h.IsCell c v)->(cellsFrom h.objs.size names acc).lookup x=Qs c->∃v,(pushCells h names).IsCell c v
 |[],h,acc,ha,e=>ha c e
 |(y,k)::r,h,acc,ha,e=>by
  unfold cellsFrom at e;unfold pushCells;split at e
  .rename_i hk;rw[T4 hk];rw[show h.objs.size+1=(h.push {cls:=.type "cell",data:=.cell Qn}).objs.size from(RU ..).symm]at e;refine yZ (λc' e'=>?_) e;rw[P6]at e';split at e'
   .cases e';exact⟨Qn,_,Pb _ rfl,rfl⟩
   .obtain⟨v,z⟩:=ha _ e';exact⟨v,z.keeps λb o q=>OV _ q⟩
  .rename_i hk;rw[Um hk];exact yZ ha e
def Gf{code:Pl}
  (hQ:∀h',h'.Ns s.heap.objs.size (λ_=>Qn)->(∀b o,s.heap.get? b=Qs o->h'.get? b=Qs o)->(∀x c,(∀c,cl.lookup x=Qs c->∃v,s.heap.IsCell c v)->(cellsFrom (s.heap.objs.size+1) scope.names cl).lookup x=Qs c->∃v,h'.IsCell c v) ->Q (newEnv scope s.heap.objs.size globals (cellsFrom (s.heap.objs.size+1) scope.names cl) qual func code (Qs env) builtins) { s with heap:=h',toks:=s.toks }) :wpAny M A (newFunctionEnv scope globals cl [] qual func code (Qs env) builtins) Q E s:=by simp only[newFunctionEnv,TC,if_true];refine OX (wpAny_alloc ?_);refine OX (wpAny_layCells _ (λname kind cells=>rfl) _ _ _ _ ?_);have sz:(s.heap.push { cls:=.type "dict",data:=.dict #[] }).objs.size=s.heap.objs.size+1:=RU ..;rw[sz];refine OX (O8 (O8 ?_));refine hQ _ ((Heap.Ns.new _ _).keeps (pushCells_keeps _ _)) (λb o e=>pushCells_keeps _ _ b o (OV _ e)) λx c ha e=>?_;rw[<-sz]at e;exact yZ (λc' e'=>let ⟨v,z⟩:=ha _ e';⟨v,z.keeps λb o q=>OV _ q⟩) e
abbrev bw(X:Cx)(N':Ql Str)(scope:U0)(C:XW)(s₃:Pf)(H₃:Hp)(fp:Ql XW)(pins:Ql (XW×Obj)):Cx:={X with N:=N',s₀:=s₃,H₀:=H₃,env:=compEnvC scope (cellsFrom (C+1) scope.names (cz X.env.cells scope.names [])) C X.env,outer:=X.stack,stack:=X.stack,ex:=fp,fn:=λx=>scope.names.lookup x==Qs .cell,calm:=Qt,pn:=X.pn++pins,xe:=λ_ _=>False}
structure V2(X:Cx)(scope:U0):Prop where
 kind:scope.kind=.function
 free:∀y∈scope.names,y.2=.free->X.env.kindOf y.1=Qs .cell\/X.env.kindOf y.1=Qs .free
 names:∀y∈scope.names,scope.names.lookup y.1=Qs y.2
section
variable {X:Cx}{pins:Ql (XW×Obj)}{σ:L2.St}{s:Pf}{scope:U0}{fp:Ql XW}
def V2.frees(S:V2 X scope)(ok:X.Ok):∀y∈scope.names,y.2=.free->∃c,X.env.cells.lookup y.1=Qs c:=λy hy hf=>ok.has _ (S.free y hy hf)
theorem V2.cells(S:V2 X scope)(ok:X.Ok)(h:(cz X.env.cells scope.names []).lookup x=Qs c):X.env.cells.lookup x=Qs c:=by
 rcases yS (S.frees ok) h with z|z
 .simp at z
 assumption
def V2.nc(S:V2 X scope)(h:(x,Qb)∈scope.names):(x,Rq)∉scope.names:=λz=>by have w2:=S.names _ z;rw[(S.names _ h)]at w2;cases w2
def V2.cls(S:V2 X scope)(I:Inv X pins σ H s)(h:(cz X.env.cells scope.names []).lookup x=Qs c):c<s.heap.objs.size:=by obtain⟨v,o,ho,_⟩:=I.cell x c (S.cells I.ok h);exact Pd ho
def V2.old(S:V2 X scope)(I:Inv X pins σ H s)(h:(cellsFrom (s.heap.objs.size+1) scope.names (cz X.env.cells scope.names [])).lookup x=Qs c):X.env.cells.lookup x=Qs c\/s.heap.objs.size<c:=by
 rcases y7 h with z|z
 .exact .inl (S.cells I.ok z)
 .exact .inr z
def Ot(I:Inv X pins σ H s)(S:V2 X scope)(hc:X.calm=Qt)(hf:∀b∈fp,d4 X pins H b)(Xf:∀b∈fp,b<s.heap.objs.size):(bw X N' scope s.heap.objs.size s H fp pins).Ok where
 mod:=I.ok.mod
 kind:=S.kind
 glob:=I.ok.glob
 blt:=I.ok.blt
 above:=O5 _
 inj:=yX (λx c h=>RL (S.cls I h)) λx y c h1 h2=>I.ok.inj x y c (S.cells I.ok h1) (S.cells I.ok h2)
 has:=λx hx=>by
  have:(x,Qb)∈scope.names\/(x,Rq)∈scope.names:=by
   rcases hx with hx|hx
   .obtain⟨k,a,b⟩:=nO hx;lia
   .obtain⟨k,a,b⟩:=nO hx;lia
  rcases this with z|z
  .exact tX (m6 z)
  .exact yU z
 ZA:=λx c h e=>by exact Nat.le_of_succ_le (yW (PySem.mem_of_lookup (by simpa using h)) e)
 hd:=λ_=>I.ok.hd hc
 frames:=I.ok.frames
 ZM:=.inl rfl
 exf:=λb hb=>⟨Py (Xf b hb),λx c h=>by
  rcases S.old I h with z|z
  .exact(hf b hb).2.2.2.2.1 x c z
  .exact R6 (Ua (Xf b hb) z)⟩
 bs:=λb o e=>I.bs b o e
 XA:=PJ I.ok.XA I.sz
 Zi:=λb o e hb=>by
  rcases(hf b hb).2.2.2.1 with z|z
  .exact I.ok.Zi b o e z
  .exact absurd (O9 (Pd e) (PJ I.ok.XA z)) (Q4 _)
 Z7:=λb hb z=>(OZ.mp (I.zaj b z)).elim (hf b hb).2.1 (hf b hb).2.2.1
 Xa:=I.stack
 YE:=I.zbV
 tabs:=λp hp=>I.base.WY _ _ (I.ok.tabs p hp)
def Ou(I:Inv X pins σ H s)(S:V2 X scope)(hc:X.calm=Qt)(hf:∀b∈fp,d4 X pins H b)(Xf:∀b∈fp,b<s.heap.objs.size){σ':L2.St} (WB:h1.Ns s.heap.objs.size m) (hk:∀b o,s.heap.get? b=Qs o->h1.get? b=Qs o) (hcl:∀x c,(∀c,(cz X.env.cells scope.names []).lookup x=Qs c->∃v,s.heap.IsCell c v)->(cellsFrom (s.heap.objs.size+1) scope.names (cz X.env.cells scope.names [])).lookup x=Qs c->∃v,h1.IsCell c v) (hl:σ'.length=N'.length) (cap:∀(i:Nat) (x:Str) (v:V),N'[i]?=Qs x->σ'[i]?=Qs (Qs v)->(x,Qb)∈scope.names/\∃j:Nat,X.N[j]?=Qs x/\σ[j]?=Qs (Qs v)):Inv (bw X N' scope s.heap.objs.size s H fp pins) [] σ' H {s with heap:=h1,toks:=t1} where
 ok:=Ot I S hc hf Xf
 os:=rfl
 bare:=I.bare
 base:=Un.kept hk
 loc:=⟨m,WB,λi x v e1 e2 vs=>by
  obtain⟨Ya,j,j1,j2⟩:=cap i x v e1 e2;obtain⟨m0,hn0,Yx⟩:=I.loc;have vis:cJ X.env.scope x:=by
   rcases S.free _ Ya rfl with z|z
   .exact .inr (.inl z)
   .exact .inr (.inr z)
  obtain⟨u,r,l⟩:=Yx j x v j1 j2 vis;refine⟨u,r,?_⟩;rcases l with⟨k,_⟩|⟨k,c,e,z⟩
  .rcases S.free _ Ya rfl with q|q
   .lia
   .lia
  .obtain⟨c',WC⟩:=m6 (cells:=X.env.cells) (acc:=[]) Ya;have e':=S.cells I.ok WC;rw[e]at e';cases e';refine .inr ⟨?_,c,by rw[show(bw X _ _ _ s H _ _).env.cells.lookup x=_ from yV (S.nc Ya)];assumption,?_⟩
   .have vs:(relabel scope X.env).names.lookup x=Qs .local\/(relabel scope X.env).names.lookup x=Qs .cell\/(relabel scope X.env).names.lookup x=Qs .free:=vs;rcases vs with q|q
    .obtain⟨k2,a,b⟩:=nO q;rcases b with b|b
     .rw[<-b]at a;have w1:=S.names _ a;rw[(S.names _ Ya)]at w1;cases w1
     .cases b.2
    .assumption
   .obtain⟨o,ho,hd⟩:=z;exact⟨o,hk _ _ ho,hd⟩⟩
 cell:=λx c h=>hcl x c (λc' h'=>I.cell x _ (S.cells I.ok h')) h
 free:=I.UB.fresh (O5 _)
 Xj:=λx c h=>by
  rcases S.old I h with z|z
  .exact I.Xj x c z
  .exact I.UB.fresh (Rm z)
 pin:=λp hp=>by rw[PH]at hp;obtain⟨a,b,c,d,e⟩:=I.pin p hp;exact⟨hk _ _ a,b,Py (Pd a),λz=>(OZ.mp (I.zaj _ z)).elim c d,e⟩
 UB:=I.UB.kept hk
 len:=hl
def Fu{σ':L2.St}{C:XW}(I:Inv X pins σ H3 s)(hf:∀b∈fp,d4 X pins H3 b)(hC:C=s.heap.objs.size)(I':Inv (bw X N' scope C s H3 fp pins) X0 σ' H' s')(hb:Heap.SameBut C s'.heap h''):Inv X pins σ H' {s' with heap:=h''}:=by
 subst hC;have bs:=I'.base;have nC:∀b o,s.heap.get? b=Qs o->b≠s.heap.objs.size:=λb o e=>Py (Pd e);have tr:=λb n=>hb.2 b n;have cf:H' s.heap.objs.size=Qn:=I'.free;obtain⟨h0,g0,d0,t0,o0⟩:=s';have e:=I'.os;subst e;exact I.call (⟨λb o e n h1 h2=>(tr b (nC b o e)).trans (bs.keep b o e n h1 h2),λb o e n h1 h2=>by obtain⟨sl,q⟩:=bs.slot b o e n h1 h2;exact⟨sl,(tr b (nC b o e)).trans q⟩,bs.free,λb o e h1=>by obtain⟨o',q⟩:=bs.there b o e h1;simp_all,bs.Yk,bs.Yd,bs.WY⟩) (λb o e=>by
  have nb:b≠s.heap.objs.size:=λz=>by lia
  refine(I'.UB b o e).XD (λc v hc q=>(tr c ?_).trans q) (λ_ q=>q) (λ_ _ q=>q) λ_ _ _ q=>q;lia) I'.bare λb XI=>by obtain⟨f0,f1,f2,f3,f4,f5⟩:=hf b XI;exact⟨f3,f1,f4,f5⟩
end
def V8(Y:Cx)(ifs:Ql XY)(t:TT):Prop:=∀(pins:Ql (XW×Obj)) (s:Pf) (σ:L2.St) (H:Hp) (Q:Bool->Hp->Prop),Inv Y pins σ H s->t σ H Q->wpAny (model Y.prog Y.w) Y.A (forIn ifs Qt λc r=>if r=Qt then do let ok<-isTrue c Y.env (eval c Y.env);pure (P1 ok) else pure (P1 r)) (TP Y pins σ Q) Y.xe s
def Bh:V8 Y [] (λ_ H Q=>Q Qt H):=λpins s σ H Q I h=>wpAny_tests_nil ⟨H,I,h⟩
def IQ(h:PT Y c t):V8 Y [c] t:=λpins s σ H Q I q=>wpAny_tests_one (h _ s σ H Q I q)
def kr(n:Nat)(cap:Ql Nat)(σ:L2.St):L2.St:=Pk n Qn++cap.map λj=>(σ[j]?).getD Qn
def lX(n:Nat)(cap:Ql Nat)(wi:TI)(g:TG)(tt:TT)(te:TE):TE:=λσ H Q=>wi σ H λJ H1=>∀D,H1 D=Qn->∃W:Nat->Nat->L2.St->Hp->Prop,(∃m,W 0 m (kr n cap σ) (upd H1 D (.lst [])))/\∀i m σ' H',W i m σ' H'->(J.stop i H'/\Q (.ref D) H')\/(J.go i H'/\∃N:L2.St->Hp->Prop,(∀ZI YJ,N ZI YJ->∃m',m'<m/\W (i+1) m' ZI YJ)/\∀x H2,J.VT i H' x H2->g x σ' H2 λσ2 H3=>tt σ2 H3 λb H4=>
  if b=Qt then te σ2 H4 λv H5=>∃vs,H5 D=Qs (.lst vs)/\vs.length<PD/\N σ2 (upd H5 D (.lst (vs++[v]))) else N σ2 H4)
def Fb{σ:L2.St}{Q:VK}(S:V2 X scope)(hc:X.calm=Qt)
  (hN:N'.length=n+cap.length) (VG:∀(k:Nat) (j:Nat),cap[k]?=Qs j->∃x,N'[n+k]?=Qs x/\X.N[j]?=Qs x/\(x,Qb)∈scope.names)
  (hg:∀C s₃ H₃ fp pins,PG (bw X N' scope C s₃ H₃ fp pins) tg g) (ht:∀C s₃ H₃ fp pins,V8 (bw X N' scope C s₃ H₃ fp pins) ifs tt) (he:∀C s₃ H₃ fp pins,PE (bw X N' scope C s₃ H₃ fp pins) elt te)
  (fin:∀(C:XW) (s3:Pf) (H3:Hp) (fp:Ql XW) (D:XW) (σ4:L2.St) (H4:Hp) (s4:Pf) (f:Flow),Inv X pins σ H3 s3->(∀b∈fp,d4 X pins H3 b)->C=s3.heap.objs.size->Inv (bw X N' scope C s3 H3 fp pins) [] σ4 H4 s4->Q (.ref D) H4->compPost (model X.prog X.w) X.A X.xe use PQ (.ref D) C (.ok f) s4)
  (h2:zC X pins σ tg (λJ H1 => ∀D,H1 D=Qn->∃W:Nat->Nat->L2.St->Hp->Prop,(∃m,W 0 m (kr n cap σ) (upd H1 D (.lst [])))/\∀i m σ' H',W i m σ' H' ->(J.stop i H'/\Q (.ref D) H')\/(J.go i H'/\∃N:L2.St->Hp->Prop,(∀ZI YJ,N ZI YJ->∃m',m' < m/\W (i+1) m' ZI YJ)/\∀x H2,J.VT i H' x H2->g x σ' H2 λσ2 H3=>tt σ2 H3 λb H4 =>
  if b=Qt then te σ2 H4 λv H5 => ∃vs,H5 D=Qs (.lst vs)/\vs.length<PD/\N σ2 (upd H5 D (.lst (vs++[v]))) else N σ2 H4)) ZV s2) :wpAny (model X.prog X.w) X.A (newList []) (λacc s₃=>wpAny (model X.prog X.w) X.A (newFunctionEnv scope X.env.globals (cz X.env.cells scope.names []) [] X.env.qual Qn .none (Qs X.env)) (λzfg s₄ =>
   codeAny (model X.prog X.w) X.A (.compStart (.ListComp elt [⟨tg,iter,ifs,0⟩] scope pos) 0 ZV acc { zfg with scope:=relabel scope X.env }) (compPost (model X.prog X.w) X.A X.xe use PQ acc zfg.locals) s₄) X.xe s₃) X.xe s2:=by
 obtain⟨it,fp,tn,J,H2,e,I2,T,Vc,f2,R⟩:=h2;subst e;have lt2:∀b∈fp,b<s2.heap.objs.size:=λb hb=>by obtain⟨o,e,_⟩:=T.obj _ _ Vc b hb;exact Pd e
 have hD:H2 s2.heap.objs.size=Qn:=I2.fresh;obtain⟨W,⟨m0,w0⟩,turn⟩:=R s2.heap.objs.size hD;have I3:Inv X pins σ (upd H2 s2.heap.objs.size (.lst [])) { s2 with heap:=s2.heap.push { cls:=.type "list",data:=.seq ([]:Ql Pl).toArray },toks:=s2.toks }:=I2.zcn (t':=s2.toks) .nil (by simp);have f3:∀b∈fp,d4 X pins (upd H2 s2.heap.objs.size (.lst [])) b:=λb hb=>⟨by rw[aC (Py (lt2 b hb))];exact(f2 b hb).1,(f2 b hb).2⟩;refine wpAny_newObj_type (Gf λh₁ zhX hk zit=>?_);have lt3:∀b∈fp,b<(s2.heap.push { cls:=.type "list",data:=.seq ([]:Ql Pl).toArray }).objs.size:=λb hb=>by rw[RU];exact RL (lt2 b hb)
 have I4:Inv (bw X N' scope (s2.heap.push { cls:=.type "list",data:=.seq ([]:Ql Pl).toArray }).objs.size { s2 with heap:=s2.heap.push { cls:=.type "list",data:=.seq ([]:Ql Pl).toArray },toks:=s2.toks } (upd H2 s2.heap.objs.size (.lst [])) fp pins) [] (kr n cap σ) (upd H2 s2.heap.objs.size (.lst [])) { s2 with heap:=h₁,toks:=s2.toks } :=Ou I3 S hc f3 lt3 (t1:=s2.toks) zhX hk zit (by simp[kr,hN]) (λi x v e1 e2=>by
   unfold kr at e2;by_cases hi:i<n
   .rw[QI (by simpa using hi),SG]at e2;lia
   .rw[PX (by simpa using hi),List.length_replicate,Pr]at e2;rcases ej:cap[i - n]? with _|j
    .rw[ej]at e2;cases e2
    rw[ej]at e2;obtain⟨x',a1,a2,a3⟩:=VG _ j ej;have:n+(i - n)=i:=by lia
    rw[this,e1]at a1;cases a1;refine⟨a3,j,a2,?_⟩;have e2:=by simpa using e2
    cases q:σ[j]? with
    |none=>rw[q]at e2;cases e2
    |some z=>simp_all)
 have loop:codeAny (model X.prog X.w) X.A (.compLoop (.ListComp elt [⟨tg,iter,ifs,0⟩] scope pos) 0 (.ref it) (.ref s2.heap.objs.size) (compEnvC scope (cellsFrom ((s2.heap.push { cls:=.type "list",data:=.seq ([]:Ql Pl).toArray }).objs.size+1) scope.names (cz X.env.cells scope.names [])) (s2.heap.push { cls:=.type "list",data:=.seq ([]:Ql Pl).toArray }).objs.size X.env))
   (compPost (model X.prog X.w) X.A X.xe use PQ (.ref s2.heap.objs.size) (s2.heap.push { cls:=.type "list",data:=.seq ([]:Ql Pl).toArray }).objs.size) { s2 with heap:=h₁,toks:=s2.toks }:=by
  generalize hY:(bw X N' scope (s2.heap.push { cls:=.type "list",data:=.seq ([]:Ql Pl).toArray }).objs.size { s2 with heap:=s2.heap.push { cls:=.type "list",data:=.seq ([]:Ql Pl).toArray },toks:=s2.toks } (upd H2 s2.heap.objs.size (.lst [])) fp pins)=Y at I4;have st4:tn 0 h₁:=T.keep _ _ _ Vc λb hb o e=>hk b o (OV _ e);have Ze:∀{H':Hp},(∀b∈fp,H' b=Qn)->∀b∈fp,d4 Y [] H' b:=λhn b hb=>by
   subst hY;obtain⟨f0,f1,f2',f3',f4,f5⟩:=f3 b hb;exact⟨hn b hb,Py (lt3 b hb),λz=>(OZ.mp (I3.zaj b z)).elim f1 f2',.inl hb,λx c e=>(by
    rcases S.old I3 e with z | z
    .exact f4 x c z
    .exact R6 (Ua (lt3 b hb) z)),λp hp=>f5 p (by simpa using hp)⟩
  have hgY:PG Y tg g:=hY ▸ hg _ _ _ _ _;have htY:V8 Y ifs tt:=hY ▸ ht _ _ _ _ _;have heY:PE Y elt te:=hY ▸ he _ _ _ _ _;have yp:Y.prog=X.prog:=by subst hY;rfl
  have yw:Y.w=X.w:=by subst hY;rfl
  have yK:Y.K=X.K:=by subst hY;rfl
  have yA:Y.A=X.A:=by subst hY;rfl
  have yc:Y.calm=Qt:=by subst hY;rfl
  have yx:Y.xe=λ_ _=>False:=by subst hY;rfl
  have ye:Y.env=compEnvC scope (cellsFrom ((s2.heap.push { cls:=.type "list",data:=.seq ([]:Ql Pl).toArray }).objs.size+1) scope.names (cz X.env.cells scope.names [])) (s2.heap.push { cls:=.type "list",data:=.seq ([]:Ql Pl).toArray }).objs.size X.env:=by subst hY;rfl
  rw[<-ye];refine NR (λn s' => ∃i σ' H',Inv Y [] σ' H' s'/\tn i s'.heap/\(∀b∈fp,H' b=Qn)/\W i n σ' H') ?_ m0 ⟨0,_,_,I4,st4,λb hb=>(f3 b hb).1,w0⟩;rintro n s3 ⟨i,σ3,H3,I5,Wo,fr3,w3⟩;rcases turn i n σ3 H3 w3 with⟨stop,qn⟩ | ⟨go,N,hNN,step⟩
  .have d:=T.done Y yp yw yK yc i [] s3 σ3 H3 (λ_ _=>False) I5 (Ze fr3) Wo stop;rw[yA]at d;refine aA d λr s4 ⟨hr,I6⟩=>?_;subst hr;subst hY;exact fin _ _ _ _ _ _ _ _ _ I3 f3 rfl I6 qn
  .have d:=T.item Y yp yw yK yc i [] s3 σ3 H3 (λ_ _=>False) I5 (Ze fr3) Wo go;rw[yA]at d;refine aA d λr s4 ⟨u,hr,h4⟩=>?_;subst hr;refine aA h4 λ_ s5 ⟨x,H5,I6,r5,y5,Zf,fr5⟩=>?_;have I6':=I6.pinned (Ze fr5) (T.obj _ _ Zf);have a:=hgY _ s5 σ3 H5 x u _ I6' r5 (step x H5 y5);rw[yp,yw,yA,yx]at a;refine aA a λ_ s6 ⟨σ6,H6,I7,q6⟩=>?_;have b:=htY _ s6 σ6 H6 _ I7 q6;rw[yp,yw,yA,yx]at b;refine aA b λok s7 ⟨H7,I8,q7⟩=>?_;have again:∀{s9:Pf}{H9:Hp},Inv Y ([]++nW fp s5.heap) σ6 H9 s9->N σ6 H9->∃m,m<n/\∃i σ' H',Inv Y [] σ' H' s9/\tn i s9.heap/\(∀b∈fp,H' b=Qn)/\W i m σ' H':=λ{s9 H9} I9 n9=>by obtain⟨m',hm,w9⟩:=hNN σ6 H9 n9;refine⟨m',hm,i+1,σ6,H9,I9.ZK,T.keep _ _ _ Zf λb hb o e=>(I9.pin (b,o) (OP _ (OP _ (kZ hb e)))).1,λb hb=>?_,w9⟩;obtain⟨o,e,d⟩:=T.obj _ _ Zf b hb;exact(I9.pin (b,o) (OP _ (OP _ (kZ hb e)))).2.1
   cases ok with
   |false=>exact oI (again I8 (by simpa using q7))
   |true =>rw[T4 rfl]at q7;refine oH ?_;have c:=heY _ s7 σ6 H7 _ I8 q7;rw[yp,yw,yA,yx]at c;refine aA c λz s8 ⟨vz,H8,I9,r9,vs,hv,hl,n9⟩=>?_;have ap:=oh (X:=Y) ([]++nW fp s5.heap) s8 σ6 H8 (.ref s2.heap.objs.size) [vz] (.ref s2.heap.objs.size) [z] (λ_ H9=>N σ6 H9) I9 rfl (.cons r9 .nil) ⟨_,vs,vz,rfl,rfl,hv,hl,n9⟩;rw[yp,yw,yA,yx]at ap;exact aA ap λ_ s9 ⟨_,H9,I10,_,n10⟩=>again I10 n10
 exact codeAny_compStart_list loop (T.self _ 0 _ _ _ (T.keep _ _ _ Vc λb hb o e=>hk b o (OV _ e)) loop)
def BQ(S:V2 X scope)(hc:X.calm=Qt)(hi:PI X tg iter wi) (hN:N'.length=n+cap.length) (VG:∀(k:Nat) (j:Nat),cap[k]?=Qs j->∃x,N'[n+k]?=Qs x/\X.N[j]?=Qs x/\(x,Qb)∈scope.names) (hg:∀C s₃ H₃ fp pins,PG (bw X N' scope C s₃ H₃ fp pins) tg g) (ht:∀C s₃ H₃ fp pins,V8 (bw X N' scope C s₃ H₃ fp pins) ifs tt) (he:∀C s₃ H₃ fp pins,PE (bw X N' scope C s₃ H₃ fp pins) elt te) (hs:∀x,foldedSetIterable iter X.env x=pure x:=by intro _;rfl):PE X (.ListComp elt [⟨tg,iter,ifs,0⟩] scope pos) (lX n cap wi g tt te):=by intro pins s σ H Q I h;refine wpAny_comprehension_free rfl hs (tW (S.frees I.ok)) S.kind (λx hx hl=>by rw[S.names x hx,hl]) (aA (hi _ s σ H _ I h) λv s1 h1=>aA h1 λZV s2 h2=>Fb S hc hN VG hg ht he (λC s3 H3 fp D σ4 H4 s4 f I3 f3 hC I6 qn=>?_) h2);obtain⟨m,hm,_⟩:=I6.loc;exact⟨m,hm,λh' hb=>⟨.ref D,H4,Fu I3 f3 hC I6 hb,rfl,qn⟩⟩
def Bp(S:V2 X scope)(hc:X.calm=Qt)(hi:PI X tg iter wi) (hN:N'.length=n+cap.length) (VG:∀(k:Nat) (j:Nat),cap[k]?=Qs j->∃x,N'[n+k]?=Qs x/\X.N[j]?=Qs x/\(x,Qb)∈scope.names) (hg:∀C s₃ H₃ fp pins,PG (bw X N' scope C s₃ H₃ fp pins) tg g) (ht:∀C s₃ H₃ fp pins,V8 (bw X N' scope C s₃ H₃ fp pins) ifs tt) (he:∀C s₃ H₃ fp pins,PE (bw X N' scope C s₃ H₃ fp pins) elt te) (Zt:X.N.Nodup) (Zn:X.N[i₀]?=Qs y₀) (hy:Loc X.env.scope y₀) (VW:swapsWith (.ListComp elt [⟨tg,iter,ifs,0⟩] scope pos) (Qs (.Name y₀ py)) YR.line X.env=pure Qt) (hf:X.fn y₀=Qt\/X.env.scope.names.lookup y₀=Qs .local) (hs:∀x,foldedSetIterable iter X.env x=pure x:=by intro _;rfl):PS X (.Assign [.Name y₀ py] (.ListComp elt [⟨tg,iter,ifs,0⟩] scope pos) YR) (λD σ H=>lX n cap wi g tt te σ H λv H1=>D.nx (σ.set i₀ (Qs v)) H1):=by
 intro pins s σ H Ed I h;rw[exec_Assign_Name_used _ _ _ _ VW];refine OX (wpAny_standAt (OX ?_));refine OX (aA ?_ λ_ s' hq=>O8 (O8 hq));refine wpAny_comprehension_free rfl hs (tW (S.frees I.ok)) S.kind (λx hx hl=>by rw[S.names x hx,hl]) (aA (hi _ s σ H _ I h) λv s1 h1=>aA h1 λZV s2 h2=>Fb (Q:=λv H1=>Ed.nx (σ.set _ (Qs v)) H1) S hc hN VG hg ht he (λC s3 H3 fp D σ4 H4 s4 f I3 f3 hC I6 qn=>?_) h2);obtain⟨m,hm,_⟩:=I6.loc;have fC:d4 X _ _ C:=I3.Yf (by lia) I6.free;obtain⟨c0,c1,c2,c3,c4,c5⟩:=fC;refine wpAny_assign_Name (Au (Fu I3 f3 hC I6 (h'':=s4.heap) ⟨rfl,λ_ _=>rfl⟩) Zt Zn hy (v:=.ref D) rfl (λs5 I7 ⟨a,sb,ha⟩=>?_) hf);have na:a≠C:=by
  rcases ha with z|z
  .lia
  .exact c4 _ _ z
 refine⟨m,hm.sameBut sb (Ne.symm na),λh' hb=>⟨_,H4,?_,qn⟩⟩;exact I7.turned (λb o n e=>(hb.2 b n).trans e) c0 c1 c3 c4 c5
end L2
namespace DL
open PySem.Spec L2
structure Src(K:OQ)(ds:List D)(J:It)(Good:List XW->Hp->Prop):Prop where
 keep:∀P H P' H',Good P H->TJ (ag P H) (ag P' H')->Good P' H'
 stop:∀P H,Good P H->J.stop ds.length H
 go:∀P H i,Good P H->i<ds.length->J.go i H
 VT:∀P H i x H',Good P H->US H P->J.VT i H x H'->i<ds.length->TJ H H'/\∃d,ds[i]?=Qs d/\Rep K (ag P H') d x
abbrev DI:=Th->Qo (Bool×Ql D)
def VB(b:Bool)(A F:Ql XW):Ql XW:=if b then A++F else F
inductive dI(K:OQ)(F:List XW)(fs:DI)(σ:L2.St)(H:Hp)(R:It->Hp->Prop):Prop
 |mk (A t b ds:_) (_:RS K F H A t σ) (_:fs t=Qs (b,ds)) (_:∀J H1 Good,TJ H H1->Src K ds J Good->Good (VB b A F) H1->R J H1)
def PI.imp(h:PI X tg iter t)(i:∀σ H R,t' σ H R->t σ H R):PI X tg iter t':=λpins s σ H R I q=>h _ s σ H R I (i σ H R q)
def dX(f:DE):DI:=λt=>(f t).bind λr=>match r.d with
 |.lst ds=>Qs (r.ok,ds)
 |_=>Qn
def lh(f:DE):DI:=λt=>(f t).bind λr=>match r.d with
 |.lst ds=>Qs (r.ok,d8 0 ds)
 |_=>Qn
def cX(f:DE):DI:=λt=>(f t).bind λr=>match r.d with
 |.int n=>if eG n then Qs (Qt,eA 0 n.toNat) else Qn
 |_=>Qn
def mS(f f':DE):DI:=λt=>(f t).bind λr=>(f' t).bind λr'=>match r.d,r'.d with
 |.int lo,.int n=>if eG n&&eG lo then Qs (Qt,eA lo (n-lo).toNat) else Qn
 |_,_=>Qn
def Hs (hl:vs.length=ds.length):Src K ds (zE K p) (λP H=>Ux K (ag P H) p vs/\TZ K (ag P H) ds vs) where
 keep:=λP H P' H' q s=>⟨Ux.mono s q.1,TZ.mono s q.2⟩
 stop:=λP H q=>⟨vs,Ux.mono (aR _ _) q.1,by lia⟩
 go:=λP H i q hi=>⟨vs,_,Ux.mono (aR _ _) q.1,O2 (by lia)⟩
 VT:=λP H i x H' q mu y hi=>by obtain⟨e1,e2⟩:=y;subst e1;exact⟨TJ.refl _,q.2.XJ (e2 _ (Ux.mono (aR _ _) q.1))⟩
def Ht (hl:vs.length=ds.length):Src K (d8 0 ds) (uh K p) (λP H=>Ux K (ag P H) p vs/\TZ K (ag P H) ds vs) where
 keep:=λP H P' H' q s=>⟨Ux.mono s q.1,TZ.mono s q.2⟩
 stop:=λP H q=>⟨vs,Ux.mono (aR _ _) q.1,by rw[lr];lia⟩
 go:=λP H i q hi=>by rw[lr]at hi;exact⟨vs,_,Ux.mono (aR _ _) q.1,O2 (by lia)⟩
 VT:=λP H i x H' q mu y hi=>by obtain⟨l,v,Yx,rfl,rfl,hv⟩:=y;obtain⟨d,hd,rd⟩:=q.2.XJ (hv _ (Ux.mono (aR _ _) q.1));have sm:=du (o:=HO.tup [.int i,v]) Yx;refine⟨sm,_,yv 0 _ i d hd,?_⟩;rw[Rn];exact .tup (UJ.of (aU aM (dQ mu Yx))) (.cons (.int _) (.cons (Rep.mono (ck sm) rd) .nil))
def Ax{lo:Int}:Src K (eA lo n) (kB lo n) (λ_ _=>True) where
 keep:=λ_ _ _ _ _ _=>trivial
 stop:=λP H _=>by rw[l9];exact O5 n
 go:=λP H i _ hi=>by rw[l9]at hi;assumption
 VT:=λP H i x H' _ _ y hi=>by rw[l9]at hi;obtain⟨e1,e2⟩:=y;subst e1;refine⟨TJ.refl _,.int (lo+i),by simp[eA,hi],?_⟩;rw[e2];exact .int _
theorem UE.VB{K:OQ}(m:US H (A++F))(gs:TJ H H')(q:UE K F A H H' r v):Rep K (ag (DL.VB r.ok A F) H') r.d v:=by
 unfold DL.VB;split
 .rename_i c;exact q.clean m gs c
 .exact q.Xz m
section
variable {X:Cx}{F:Ql XW}{a b c:XY}{es:Ql XY}{fa:DE}{tg:XY}
def jY(hl:PE X a (dE X.K F fa)):PI X tg a (dI X.K F (dX fa)):=by
 refine PI.imp (nX hl) ?_;rintro σ H R ⟨A,t,b,ds,RR,e,h⟩;refine aq e λr e1 e=>?_;refine⟨A,t,r,RR,e1,λv H1 gs q=>?_⟩;split at e
 case h_2=>cases e
 rename_i ds' z;cases e;have cl:=UE.VB RR.mu gs q;rw[z]at cl;cases cl with
 |@lst _ p vs h1 h2=>exact⟨p,rfl,⟨vs,Ux.mono (aR _ _) h1⟩,h _ _ _ gs (Hs h2.length) ⟨h1,h2⟩⟩
def BE(W8:Gl X "enumerate")(hm:X.mg "enumerate"=Qn)(hl:PE X a (dE X.K F fa))(U6:Pc [a] X.env=[(Qf,eval a X.env)]:=by rfl):PI X (.Tuple elts kk tp) (.Call (.Name "enumerate" p1) [a] [] p2) (dI X.K F (lh fa)):=by
 refine PI.imp (BG W8 hm hl U6) ?_;rintro σ H R ⟨A,t,b,ds,RR,e,h⟩;refine aq e λr e1 e=>?_;refine⟨A,t,r,RR,e1,λv H1 gs q=>?_⟩;split at e
 case h_2=>cases e
 rename_i ds' z;cases e;have cl:=UE.VB RR.mu gs q;rw[z]at cl;cases cl with
 |@lst _ p vs h1 h2=>exact⟨p,rfl,⟨vs,Ux.mono (aR _ _) h1⟩,h _ _ _ gs (Ht h2.length) ⟨h1,h2⟩⟩
def jX(Yy:Gl X "range")(hm:X.mg "range"=Qn)(ha:PE X a (dE X.K F fa))(U6:Pc [a] X.env=[(Qf,eval a X.env)]:=by rfl):PI X tg (.Call (.Name "range" p1) [a] [] p2) (dI X.K F (cX fa)):=by
 refine PI.imp (BF Yy hm (fj ha fJ U6) U6) ?_;rintro σ H R ⟨A,t,b,ds,RR,e,h⟩;refine aq e λr e1 e=>?_;refine⟨A,t,r,RR,e1,λv H1 gs q=>?_⟩;split at e
 case h_2=>cases e
 rename_i n z;refine bJ e λok e=>?_;simp only[eG,VH]at ok;cases e;have p:=q.full;rw[z]at p;cases bX p;exact⟨n,rfl,by lia,by lia,h _ _ _ gs Ax trivial⟩
def BD{p1 p2:Pos}(Yy:Gl X "range")(hm:X.mg "range"=Qn)(ha:PE X a (dE X.K F fa))(hb:PE X b (dE X.K F fb))(U6:Pc [a,b] X.env=[(Qf,eval a X.env),(Qf,eval b X.env)]:=by rfl)(ZY:Pc [b] X.env=[(Qf,eval b X.env)]:=by rfl):PI X tg (.Call (.Name "range" p1) [a,b] [] p2) (dI X.K F (mS fa fb)):=by
 refine PI.imp (JK Yy hm (fj ha (fj hb fJ ZY) (by lia)) U6 ZY) ?_;rintro σ H R ⟨A,t,b,ds,RR,e,h⟩;unfold mS at e;rcases e1:fa t with _|r
 .rw[e1]at e;cases e
 rcases e2:fb t with _|r'
 .rw[e1,e2]at e;cases e
 rw[e1,e2]at e;refine⟨A,t,r,RR,e1,λv H1 gs q=>⟨A,t,r',RR.grow gs,e2,λv2 H2 UT q2=>?_⟩⟩;have e:(match r.d,r'.d with
  |.int _,.int n=>if eG n&&eG _ then Qs _ else Qn
  |_,_=>Qn)=Qs _:=e
 split at e
 case h_2=>cases e
 rename_i lo n z1 z2;replace e:=Vm e;obtain⟨ok,e⟩:=e;simp only[eG,O6,VH]at ok;cases e;have p:=q.full;rw[z1]at p;cases bX p;have p':=q2.full;rw[z2]at p';cases bX p';exact⟨lo,n,rfl,⟨by lia,by lia,by lia,by lia⟩,h _ _ _ (gs.trans UT) Ax trivial⟩
end
noncomputable def dH(t:Th):Ql Nat->Qo (Bool×Ql D)
 |[]=>Qs (Qt,[])
 |j::js=>(dH t js).bind λq=>match t[j]? with
  |some (.val d)=>Qs (q.1,d::q.2)
  |some (.own xs)=>Qs (Qf,.lst xs::q.2)
  |some (.dp d)=>Qs (Qf,d::q.2)
  |_=>Qn
theorem pe{K:OQ}(R:RS K F H A t σ):∀{cap:Ql Nat}{b:Bool}{ds:Ql D},dH t cap=Qs (b,ds)->∃vs:Ql V,(cap.map λj=>(σ[j]?).getD Qn)=vs.map Qs/\TZ K (ag (VB b A F) H) ds vs
 |[],b,ds,e=>by cases e;exact⟨[],rfl,.nil⟩
 |j::js,b,ds,e=>by
  unfold dH at e;rcases e1:dH t _ with _|q
  .rw[e1]at e;cases e
  obtain⟨b',ds'⟩:=q;rw[e1]at e;obtain⟨vs,h1,h2⟩:=pe R e1;have e:=e;have less:∀c,TJ _ (ag (VB c A F) H):=λc=>aS H λx z=>by
   cases c with
   |true=>assumption
   |false=>exact OP _ z
  split at e
  .rename_i d z;cases e;obtain⟨v,a1,a2⟩:=R.rel.Zu z;exact⟨_,by simp[a1,h1],.cons (Rep.mono (less _) a2) h2⟩
  .rename_i xs z;cases e;obtain⟨p,us,a1,a2,a3,a4⟩:=R.rel.WV z;refine⟨_,by simp[a1,h1],.cons (.lst (Ux.of (aU a3 (R.dj p a2))) (TZ.mono (less _) a4)) (TZ.mono (aS H λx z=>?_) h2)⟩;cases b' with
   |true=>exact OP _ z
   |false=>assumption
  .rename_i d z;cases e;obtain⟨v,B,a1,a2,a3,a4⟩:=R.rel.zcP R.nd z;refine⟨_,by simp[a1,h1],.cons (a4.rep (less _) λb hb o w=>aU w (R.dj b (a2 b hb))) (TZ.mono (aS H λx z=>?_) h2)⟩;cases b' with
   |true=>exact OP _ z
   |false=>assumption
  .cases e
noncomputable def bH(k:D->Th->Qo Th)(ft:DT)(fe:DE):Ql D->Th->Qo (Ql D)
 |[],_=>Qs []
 |d::ds,t=>(k d t).bind λt1=>(ft t1).bind λb=>if b then(fe t1).bind λr=>(bH k ft fe ds t1).map λxs=>r.d::xs else bH k ft fe ds t1
def ba(n:Nat)(cap:Ql Nat)(fs:DI)(k:D->Th->Qo Th)(ft:DT)(fe:DE):DE:=λt=>(fs t).bind λq=>(dH t cap).bind λc=>if q.2.length<=50000 then(bH k ft fe q.2 (Pk n Sl.no++c.2.map Sl.val)).bind λxs=>if(q.1&&c.1)||UD xs then Qs (.nw xs) else Qn else Qn
theorem yQ:∀{ds:Ql D}{t:Th}{xs:Ql D},bH k ft fe ds t=Qs xs->xs.length<=ds.length
 |[],t,xs,e=>by cases e;simp
 |d::ds,t,xs,e=>by
  unfold bH at e;refine aq e λt1 e1 e=>?_;have e:((ft t1).bind λb=>if b then(fe t1).bind λr=>(bH k ft fe ds t1).map λxs=>r.d::xs else bH k ft fe ds t1)=Qs xs:=e;refine aq e λb e2 e=>?_;cases b with
  |false=>have:=yQ (ds:=ds) (t:=t1) e;simp;lia
  |true=>
   have e:((fe t1).bind λr=>(bH k ft fe ds t1).map λxs=>r.d::xs)=Qs xs:=e;refine aq e λr e3 e=>?_;have e:((bH k ft fe ds t1).map λxs=>r.d::xs)=Qs xs:=e;cases e4:bH k ft fe ds t1 with
   |none=>rw[e4]at e;cases e
   |some ys=>rw[e4]at e;cases e;have:=yQ e4;simp;lia
theorem Ul.zca{K:OQ}(r:TZ K H0 ds vs):∀n,Ul K H0 H (Pk n Sl.no++ds.map Sl.val) (Pk n Qn++vs.map Qs) []
 |0=>by simpa using Ul.start .nil r
 |n+1=>.no (Ul.zca r n)
def sJ(hp:p∈P):TJ (ag P H) (ag P (upd H p o)):=λb u e=>by obtain⟨n,e⟩:=bN e;exact aU (by rw[aC (λz=>n (by lia))];assumption) n
def RS.zag (R:RS K P H [] t σ)(hp:p∈P):RS K P (upd H p (.lst ws)) [] t σ where
 mu:=λq hq=>by
  by_cases z:q=p
  .exact⟨mL _,by rw[z];exact aM⟩
  .obtain⟨us,w⟩:=R.mu q hq;exact⟨us,by rw[aC z];assumption⟩
 nd:=PN
 dj:=λp hp=>by cases hp
 rel:=Ul.mono (sJ hp) R.rel λq hq=>by cases hq
def wV (R:RS K P H A t σ)(g:Gr [] H A H):A=[]:=by
 cases A with
 |nil=>rfl
 |cons a r=>
  rcases g.nw a (OU ..) with z|z
  .cases z
  .obtain⟨vs,q⟩:=R.mu a (OR _ (OU ..));lia
def bS:DT:=λ_=>Qs Qt
def V8.imp(h:V8 Y ifs t)(i:∀σ H Q,t' σ H Q->t σ H Q):V8 Y ifs t':=λpins s σ H Q I q=>h _ s σ H Q I (i σ H Q q)
def nS:V8 Y [] (dT Y.K F bS):=V8.imp Bh λσ H Q ⟨A,t,b,R,e,h⟩=>by cases e;exact h H (TJ.refl H)
def jU(h:PT Y c (dT Y.K F ft)):V8 Y [c] (dT Y.K F ft):=IQ h
def yG{α:Type}{ds:Ql α}{d:α}(Xg:i<ds.length)(hd:ds[i]?=Qs d):ds.drop i=d::ds.drop (i+1):=by rw[O2 Xg]at hd;rw[<-Qp hd];simp
def sM:∀x∈VB b A F,x∈A++F:=by
 cases b with
 |true=>exact λx hx=>hx
 |false=>exact λx hx=>OP _ hx
def sN:∀x∈F,x∈VB b A F:=by
 cases b with
 |true=>exact λx hx=>OP _ hx
 |false=>exact λx hx=>hx
def DZ:∀x∈VB (b&&c) A F,x∈VB b A F:=by
 cases b with
 |true=>cases c with
  |true=>simp
  |false=>exact sN
 |false=>simp
def DY:∀x∈VB (b&&c) A F,x∈VB c A F:=by
 cases b with
 |true=>simp
 |false=>exact sN
def rZ{α β:Type}{x:Qo α}{f:α->β}{r:β}{G:Prop}(e:x.map f=Qs r)(h:∀a,x=Qs a->f a=r->G):G:=by
 cases x with
 |none=>cases e
 |some a=>simp_all
def LI(h:n<50000):n<PD:=O9 h (by decide)
def zq{α β:Type}{acc ys xs:Ql α}{y:α}{vs:Ql β}(l:vs.length=acc.length)(ex:acc++y::ys=xs)(hx:xs.length<=50000):vs.length<PD:=by refine LI ?_;rw[<-ex,Pq,PM]at hx;lia
def AK(hn:H1 p=Qn)(sm:TJ H1 H)(s:TJ H H'):TJ H1 (upd H' p o):=λb u z=>by rw[aC (λw=>by lia)];exact s _ _ (sm _ _ z)
inductive CI(K:OQ)(kt:D->Th->Option Th)(ft:DT)(fe:DE)(ds xs:List D)(H1:Hp)(P:List XW)(p:XW)(Good:List XW->Hp->Prop)(i m:Nat)(σ:L2.St)(H:Hp):Prop
 |mk (th:Th) (acc rest:List D) (vs:List V) (hm:i+m=ds.length) (R:RS K P H [] th σ) (ec:bH kt ft fe (ds.drop i) th=Qs rest) (ex:acc++rest=xs) (hv:H p=Qs (.lst vs)) (hr:TZ K (ag P H) acc vs) (sm:TJ H1 H) (gg:Good P H)
def CI.step (src:Src K ds J Good)(hk:cC K P g kt)(hp:p∈P)(hn:H1 p=Qn)(hx:xs.length<=50000) (c:CI K kt ft fe ds xs H1 P p Good i (m+1) σ H):J.go i H/\∃N:L2.St->Hp->Prop,(∀σ2 H2,N σ2 H2->∃m',m'<m+1/\CI K kt ft fe ds xs H1 P p Good (i+1) m' σ2 H2)/\∀x H2,J.VT i H x H2->g x σ H2 λσ2 H3=>∃F',dT K F' ft σ2 H3 λb H4=>
   if b=Qt then ∃F',dE K F' fe σ2 H4 λv H5=>∃vs,H5 p=Qs (.lst vs)/\vs.length<PD/\N σ2 (upd H5 p (.lst (vs++[v]))) else N σ2 H4:=by
 obtain⟨th,acc,rest,vs,hm,R,ec,ex,hv,hr,sm,gg⟩:=c;have Xg:i<ds.length:=by lia
 have YZ:i+1+m=ds.length:=by lia
 refine⟨src.go _ _ i gg Xg,_,λ_ _ q=>⟨m,Qa m,q⟩,λx H2 y=>?_⟩;obtain⟨UT,d,hd,rd⟩:=src.VT _ _ i x _ gg R.mu y Xg;rw[yG Xg hd]at ec;refine aq ec λt1 k1 ec=>?_;refine aq ec λbb k2 ec=>?_;refine hk σ _ _ _ _ d x _ (R.grow UT) rd k1 λσ2 A2 VZ R2=>?_;cases wV R2 VZ;refine⟨P,[],t1,bb,R2,k2,λH3 gs3=>?_⟩;have s3:=UT.trans gs3;have R3:=R2.grow gs3;cases bb with
 |false=>exact oI ⟨t1,acc,rest,vs,YZ,R3,ec,ex,s3 _ _ hv,TZ.mono (ck s3) hr,sm.trans s3,src.keep _ _ _ _ gg (ck s3)⟩
 |true=>refine aq (ec) λre k3 ec=>?_;refine rZ ec λys k4 ec=>?_;subst ec;refine oH ⟨P,[],t1,re,R3,k3,λv H4 YA q4=>⟨vs,YA _ _ (s3 _ _ hv),zq hr.length ex hx,?_⟩⟩;have s4:=s3.trans YA;have hu:TJ _ (ag P (upd H4 p (.lst (vs++[v])))):=sJ hp;have s5:=(ck s4).trans hu;exact⟨t1,_,ys,_,YZ,RS.zag (R3.grow YA) hp,k4,by rw[PZ];assumption,aM,(TZ.mono s5 hr).app (TZ.one (Rep.mono hu (q4.Xz R3.mu))),AK hn sm s4,src.keep _ _ _ _ gg s5⟩
def RS.block (ZG:US H1 (A++F))(hp:H1 p=Qn)(sF:∀x∈F',x∈A++F)(lc:∀x∈F',x∈VB c A F)(gs:TJ H H1)(Zy:cap.map (λj=>(σ[j]?).getD Qn)=cvs.map Qs)(Zx:TZ K (ag (VB c A F) H) zbH cvs):RS K (p::F') (upd H1 p (.lst [])) [] (Pk n Sl.no++zbH.map Sl.val) (kr n cap σ):=by
 refine⟨λq hq=>?_,PN,λp hp=>(by cases hp),?_⟩
 .rcases OZ.mp hq with z|z
  .exact⟨mL _,by rw[z];exact aM⟩
  .obtain⟨us,w⟩:=ZG q (sF q z);exact⟨us,(du hp) _ _ w⟩
 .unfold kr;rw[Zy];exact Ul.zca (TZ.mono (((ck gs).trans (aS _ lc)).trans (ie hp)) Zx) n
def Ap{X:Cx}(hk:∀F',cC X.K F' g kt)(h:dE X.K F (ba n cap fs kt ft fe) σ H Q):lX n cap (dI X.K F fs) g (λσ H Q=>∃F',dT X.K F' ft σ H Q) (λσ H Q=>∃F',dE X.K F' fe σ H Q) σ H Q:=by
 obtain⟨A,t,r,R,e,h⟩:=h;refine aq e λq e1 e=>?_;refine aq e λc e2 e=>?_;obtain⟨b,ds⟩:=q;obtain⟨c,zbH⟩:=c;refine bJ e λhlen e=>?_;refine aq e λxs e3 e=>?_;refine bJ e λok e=>?_;cases e;obtain⟨cvs,Zy,Zx⟩:=pe R e2;refine⟨A,t,b,ds,R,e1,λJ H1 Good gs src gd p hD=>?_⟩;have ZG:=R.mu.mono gs;refine⟨CI _ _ _ _ _ _ _ _ p _,⟨_,⟨_,[],xs,[],Rn _,RS.block ZG hD sM DY gs Zy Zx,e3,rfl,aM,.nil,du hD,src.keep _ _ _ _ gd ((aS _ DZ).trans (ie hD))⟩⟩,λi m σ' H' c'=>?_⟩;cases m with
 |succ m=>exact .inr (c'.step src (hk _) (OU ..) hD (PJ (yQ e3) hlen))
 |zero=>
  obtain⟨th,acc,rest,vs,hm,_,ec,ex,hv,hr,sm,gg⟩:=c';cases hm;rw[QQ]at ec;cases ec;rw[PH]at ex;subst ex;refine .inl ⟨src.stop _ _ gg,h _ _ (gs.trans sm) ⟨p,vs,rfl,TJ.free gs hD,hv,?_⟩⟩;rcases S4 _ _▸ok with k|k
  .rw[k]at hr;assumption
  .refine TZ.U8 (λq hq=>?_) k (TZ.mono (aR _ _) hr);rcases OZ.mp hq with z|z
   .exact⟨mL _,by rw[z];assumption⟩
   .obtain⟨us,w⟩:=ZG q z;exact⟨us,sm _ _ w⟩
def JY(S:V2 X scope)(hc:X.calm=Qt)(hi:PI X tg iter (dI X.K F fs)) (hN:N'.length=n+cap.length) (VG:∀(k:Nat) (j:Nat),cap[k]?=Qs j->∃x,N'[n+k]?=Qs x/\X.N[j]?=Qs x/\(x,Qb)∈scope.names) (hg:∀C s₃ H₃ fp pins,PG (bw X N' scope C s₃ H₃ fp pins) tg g) (hk:∀F',cC X.K F' g kt) (ht:∀C s₃ H₃ fp pins F',V8 (bw X N' scope C s₃ H₃ fp pins) ifs (dT X.K F' ft)) (he:∀C s₃ H₃ fp pins F',PE (bw X N' scope C s₃ H₃ fp pins) elt (dE X.K F' fe)) (hs:∀x,foldedSetIterable iter X.env x=pure x:=by intro _;rfl):PE X (.ListComp elt [⟨tg,iter,ifs,0⟩] scope pos) (dE X.K F (ba n cap fs kt ft fe)):=PE.imp (BQ S hc hi hN VG hg (λC s₃ H₃ fp pins X0 s σ H Q I ⟨F',q⟩=>ht C _ _ _ _ _ _ s σ H Q I q) (λC s₃ H₃ fp pins X0 s σ H Q I ⟨F',q⟩=>he C _ _ _ _ _ _ s σ H Q I q) hs) λ_ _ _ h=>Ap hk h
def kq(names:Ql (Str×QX))(kind:Str->Qo QX):Bool:=names.all λy=>(y.2 !=.free||kind y.1==Qs .cell||kind y.1==Qs .free)&&(names.lookup y.1==Qs y.2)
def o7{X:Cx}{scope:U0}(hk:scope.kind=.function:=by rfl)(h:kq scope.names X.env.kindOf=Qt:=by rfl):V2 X scope:=by
 have h':=P5.mp h;refine⟨hk,λy hy hf=>?_,λy hy=>?_⟩
 .grind
 .have:=h' y hy;simp at this;exact this.2
noncomputable def iO(N' N:Ql Str)(n:Nat)(names:Ql (Str×QX)):Nat->Ql Nat->Bool
 |_,[]=>Qt
 |k,j::js=>(match N'[n+k]?,N[j]? with
  |some x,Qs y=>x==y&&names.any λz=>z.1==x&&z.2==.free
  |_,_=>Qf)&&iO N' N n names (k+1) js
theorem m7:∀{cap:Ql Nat}{k0:Nat},iO N' N n names k0 cap=Qt->∀(k j:Nat),cap[k]?=Qs j->∃x,N'[n+(k0+k)]?=Qs x/\N[j]?=Qs x/\(x,Qb)∈names
 |[],k0,_,k,j,e=>by simp at e
 |i::js,k0,h,k,j,e=>by
  unfold iO at h;rw[O6]at h;cases k with
  |zero=>
   simp at e;subst e;have h1:=h.1;split at h1
   .rename_i x y z1 z2;rw[O6,beq_iff_eq]at h1
    simp_all
   .cases h1
  |succ k=>obtain⟨x,a,b,c⟩:=m7 h.2 k j (e);exact⟨x,by lia,b,c⟩
def kQ (n:Nat)(cap:Ql Nat)(N':Ql Str)(hc:X.calm=Qt)(hi:PI X tg iter (dI X.K F fs)) (hg:∀C s₃ H₃ fp pins,PG (bw X N' scope C s₃ H₃ fp pins) tg g) (hk:∀F',cC X.K F' g kt) (ht:∀C s₃ H₃ fp pins F',V8 (bw X N' scope C s₃ H₃ fp pins) ifs (dT X.K F' ft)) (he:∀C s₃ H₃ fp pins F',PE (bw X N' scope C s₃ H₃ fp pins) elt (dE X.K F' fe)) (WN:scope.kind=.function:=by rfl) (Xh:kq scope.names X.env.kindOf=Qt:=by rfl) (hN:N'.length=n+cap.length:=by rfl) (VG:iO N' X.N n scope.names 0 cap=Qt:=by rfl) (hs:∀x,foldedSetIterable iter X.env x=pure x:=by intro _;rfl):PE X (.ListComp elt [⟨tg,iter,ifs,0⟩] scope pos) (dE X.K F (ba n cap fs kt ft fe)):=JY (o7 WN Xh) hc hi hN (λk j e=>by simpa using m7 VG k j e) hg hk ht he hs
def Vr:Ev->Ev->Qo Ev:=λr1 r2=>match r2.d with
 |.lst ds=>if aQ r1.d&&ds.all (λd=>aQ d&&bC 0 d r1.d) then Qs (.cl (.bl (ds.any λd=>cg d r1.d))) else Qn
 |.tup ds=>if aQ r1.d&&ds.all (λd=>aQ d&&bC 0 d r1.d) then Qs (.cl (.bl (ds.any λd=>cg d r1.d))) else Qn
 |_=>Qn
theorem oM{K:OQ}(q:Rep K H e u)(se:aQ e=Qt):∀{ds:Ql D}{vs:Ql V},TZ K H ds vs->ds.all (λd=>aQ d&&bC 0 d e)=Qt->vs.all dk=Qt/\jf u vs=ds.any λd=>cg d e
 |_,_,.nil,_=>⟨rfl,rfl⟩
 |_,_,.cons h r,k=>by
  simp only[QA,O6]at k;obtain⟨f1,f2,e1⟩:=yr h q k.1.1 se k.1.2;obtain⟨a,b⟩:=oM q se r (k.2);unfold jf at b ⊢
  simp_all
def qK (q:Rep K H e u)(se:aQ e=Qt):dk u=Qt:=by cases q<;>simp_all [aQ,dk]
def B9:VC X F (compareOp .In) Vr:=by
 intro pins s σ H0 H A x y v u Q r1 r2 r I m g0 rx ry q1 q2 e hq;unfold Vr at e;have p1:=q1.full;have p2:=q2.full;split at e
 .rename_i ds z;rw[z]at p2;refine bJ e λc e=>?_;rw[O6]at c;cases e;cases p2 with
  |@lst _ p vs h1 h2=>
   obtain⟨a,b⟩:=oM p1 c.1 h2 c.2;exact BZ _ s σ H x _ v u Q I rx ry ⟨p,vs,rfl,.inl h1,qK p1 c.1,a,by
    rw[b];exact hq _ H (TJ.refl H) (.bl _)⟩
 .rename_i ds z;rw[z]at p2;refine bJ e λc e=>?_;rw[O6]at c;cases e;cases p2 with
  |@tup _ p vs h1 h2=>
   obtain⟨a,b⟩:=oM p1 c.1 h2 c.2;exact BZ _ s σ H x _ v u Q I rx ry ⟨p,vs,rfl,.inr h1,qK p1 c.1,a,by
    rw[b];exact hq _ H (TJ.refl H) (.bl _)⟩
 .cases e
section
variable {X:Cx}{F:Ql XW}{a b c:XY}{es:Ql XY}{fa:DE}
def fN:Ql Ev->Qo Ev:=λrs=>match rs with
 |[r]=>(match r.d with
  |.lst ds=>if r.ok||UD ds then Qs (.nw ds) else Qn
  |_=>Qn)
 |_=>Qn
def tZ:VY X F (.type "list") fN:=VY.of Od λH0 H A xs rs e Q m g q ek hq=>by
 unfold fN at ek;split at ek
 .cases q with
  |cons q1 q2=>
   cases q2;split at ek
   .rename_i ds z;refine bJ ek λc ek=>?_;cases ek;obtain⟨p,vs,rfl,h1,h2⟩:=q1.items m g z c;exact⟨p,vs,rfl,.inl h1,λl hl=>hq _ _ (du hl) ⟨l,vs,rfl,TJ.free g hl,aM,TZ.mono (ie hl) h2⟩⟩
   .cases ek
 .cases ek
def ke(f:Int->Int->Int):Ql Ev->Qo Ev:=λrs=>match rs with
 |[r1,r2]=>(match r1.d,r2.d with
  |.int i,.int j=>Qs (.cl (.int (f i j)))
  |_,_=>Qn)
 |_=>Qn
def Fl(h:gq X v (λxs H Q=>∃i j,xs=[.int i,.int j]/\Q (.int (f i j)) H)):VY X F v (ke f):=VY.of h λH0 H A xs rs e Q m g q ek hq=>by
 unfold ke at ek;split at ek
 .cases q with
  |cons q1 q'=>
   cases q' with
   |cons q2 q3=>
    cases q3;split at ek
    .rename_i i j z1 z2;cases ek;have p1:=q1.full;have p2:=q2.full;rw[z1]at p1;rw[z2]at p2;cases bX p1;cases bX p2;exact⟨i,j,rfl,hq _ H (TJ.refl H) (.int _)⟩
    .cases ek
 .cases ek
def N3(hc:X.calm=Qt):VY X F (.builtin "min") (ke λi j=>if j<i then j else i):=Fl (Ob hc)
def N4(hc:X.calm=Qt):VY X F (.builtin "max") (ke λi j=>if j>i then j else i):=Fl (Oc hc)
def sE:D->Bool
 |.Uz=>Qt
 |_=>Qf
def mJ:Ev->Ev->Qo Ev:=λr1 r2=>match r2.d with
 |.Uz=>Qs (.cl (.bl (sE r1.d)))
 |_=>Qn
def sy:Ev->Ev->Qo Ev:=λr1 r2=>match r2.d with
 |.Uz=>Qs (.cl (.bl (! sE r1.d)))
 |_=>Qn
def AQ (h:Rep K H d v):decide (v=.Uz)=sE d:=by cases h<;>simp[sE]
def B8:VC X F (compareOp .Is) mJ:=by
 intro pins s σ H0 H A x y v u Q r1 r2 r I m g0 rx ry q1 q2 e hq;unfold mJ at e;split at e
 .rename_i z;cases e;have p2:=q2.full;rw[z]at p2;cases p2;exact Kl _ s σ H x _ v u Q I rx ry ⟨rfl,by rw[AQ q1.full];exact hq _ H (TJ.refl H) (.bl _)⟩
 .cases e
def Lb:VC X F (compareOp .IsNot) sy:=by
 intro pins s σ H0 H A x y v u Q r1 r2 r I m g0 rx ry q1 q2 e hq;unfold sy at e;split at e
 .rename_i z;cases e;have p2:=q2.full;rw[z]at p2;cases p2;exact Kg _ s σ H x _ v u Q I rx ry ⟨rfl,by rw[AQ q1.full];exact hq _ H (TJ.refl H) (.bl _)⟩
 .cases e
def tx(lo:DE)(f:DE):DE:=λt=>(f t).bind λr=>(lo t).bind λl=>match r.d,l.d with
 |.lst ds,.int i=>if r.ok||UD ds then Qs (.nw (ds.drop (HT.Ww ds.length 0 (Qs i)))) else Qn
 |_,_=>Qn
def JR(ha:PE X a (dE X.K F fa))(hb:PE X b (dE X.K F fb)):PE X (.Subscript a (.Slice (Qs b) Qn Qn p2) pos) (dE X.K F (tx fb fa)):=by
 refine PE.imp (BN AE ha (Bx hb) By) ?_;rintro σ H Q ⟨A,t,r,R,e,h⟩;refine aq e λr1 e1 e=>?_;refine aq e λr2 e2 e=>?_;refine⟨A,t,r1,R,e1,λx H1 V5 q1=>⟨A,t,r2,R.grow V5,e2,λy H2 UT q2=>?_⟩⟩;split at e
 case h_2=>cases e
 rename_i ds i z1 z2;refine bJ e λc e=>?_;cases e;have YU:=q2.full;rw[z2]at YU;cases bX YU;have gs:=V5.trans UT;obtain⟨p,vs,rfl,h1,h2⟩:=(q1.mono UT).items R.mu gs z1 c;refine⟨i,rfl,p,vs,rfl,h1,λl hl=>h _ _ (gs.trans (du hl)) ⟨l,_,rfl,TJ.free gs hl,aM,TZ.mono (ie hl) ?_⟩⟩;have e:lH vs (Qs i) Qn=vs.drop (HT.Ww ds.length 0 (Qs i)):=by unfold lH;rw[h2.length];apply RF;rw[Rw,h2.length];exact O5 _
 rw[e];exact h2.drop _
def tw(hi:DE)(f:DE):DE:=λt=>(f t).bind λr=>(hi t).bind λl=>match r.d,l.d with
 |.lst ds,.int i=>if r.ok||UD ds then Qs (.nw (ds.take (HT.Ww ds.length ds.length (Qs i)))) else Qn
 |_,_=>Qn
def JQ(ha:PE X a (dE X.K F fa))(hb:PE X b (dE X.K F fb)):PE X (.Subscript a (.Slice Qn (Qs b) Qn p2) pos) (dE X.K F (tw fb fa)):=by
 refine PE.imp (BN AE ha By (Bx hb)) ?_;rintro σ H Q ⟨A,t,r,R,e,h⟩;refine aq e λr1 e1 e=>?_;refine aq e λr2 e2 e=>?_;refine⟨A,t,r1,R,e1,λx H1 V5 q1=>⟨A,t,r2,R.grow V5,e2,λy H2 UT q2=>?_⟩⟩;split at e
 case h_2=>cases e
 rename_i ds i z1 z2;refine bJ e λc e=>?_;cases e;have YU:=q2.full;rw[z2]at YU;cases bX YU;have gs:=V5.trans UT;obtain⟨p,vs,rfl,h1,h2⟩:=(q1.mono UT).items R.mu gs z1 c;refine⟨i,rfl,p,vs,rfl,h1,λl hl=>h _ _ (gs.trans (du hl)) ⟨l,_,rfl,TJ.free gs hl,aM,TZ.mono (ie hl) ?_⟩⟩;have e:lH vs Qn (Qs i)=vs.take (HT.Ww ds.length ds.length (Qs i)):=by unfold lH;rw[h2.length,HT.zgc];simp
 rw[e];exact h2.take _
end
noncomputable def d6:Ql D->Qo (Ql Int)
 |[]=>Qs []
 |.int i::r=>(d6 r).map λns=>i::ns
 |_::_=>Qn
theorem k7:∀{ds:Ql D}{ns:Ql Int},d6 ds=Qs ns->ds=ns.map D.int
 |[],ns,e=>by cases e;rfl
 |.int i::r,ns,e=>by
  unfold d6 at e;cases e1:d6 r with
  |none=>rw[e1]at e;cases e
  |some m=>rw[e1]at e;cases e;rw[k7 e1];rfl
 |.Uz::r,ns,e=>by cases e
 |.bl _::r,ns,e=>by cases e
 |.str _::r,ns,e=>by cases e
 |.tup _::r,ns,e=>by cases e
 |.lst _::r,ns,e=>by cases e
def xQ(ns:Ql Int):d6 (ns.map D.int)=Qs ns:=by
 induction ns with
 |nil=>rfl
 |cons n r ih=>simp[d6,ih]
theorem iz{K:OQ}:∀{ns:Ql Int}{vs:Ql V},TZ K H (ns.map D.int) vs->vs=ns.map V.int
 |[],_,.nil=>rfl
 |n::r,_,.cons h q=>by cases bX h;rw[iz q];rfl
def Nv(i j:Int):cg (.int i) (.int j)=decide (i=j):=rfl
def zf6:sm i=Qt↔i.natAbs<Ve:=by simp[sm]
def Wq(h:i.natAbs<2^256):sm i=Qt:=zf6.mpr (O9 h (by exact QC (by decide) (by decide)))
def jL(h1:-10000000000000000000000000000000000000000000000000000000000000000000000000000<i)(h2:i<10000000000000000000000000000000000000000000000000000000000000000000000000000):sm i=Qt:=by apply Wq;lia
def Nu(d:D):cg d d=Qt:=YG.mpr rfl
def aE(h:g1 t=Qs (.nx t')):aB g1 g2 t=g2 t':=by simp[aB,h]
theorem Uq.length{K:OQ}:∀{ds:Ql D}{vs:Ql V}{B:Ql XW},Uq K H0 H ds vs B->vs.length=ds.length
 |_,_,_,.nil=>rfl
 |_,_,_,.cons _ r=>by simp[Uq.length r]
inductive Fcs(K:OQ)(H0 H:Hp)(ds:List D)(vs:List V)(B:List XW)(j:Nat)(d:D):Prop
 |mk (v B1:_) (_:vs[j]?=Qs v) (_:UC K H0 H d v B1) (_:(∀b∈B1,b∈B)) (_:(B.Nodup->B1.Nodup)) (_:∀U3 H' d2 B2,TJ H0 U3->UC K U3 H' d2 v B2->B2.Sublist B1->(∀q∈B,q∉B1->∀o,H q=Qs o->H' q=Qs o)->B.Nodup->∃B',Uq K U3 H' (ds.set j d2) vs B'/\B'.Sublist B)
theorem Uq.focus{K:OQ}:∀{ds:Ql D}{vs:Ql V}{B:Ql XW},Uq K H0 H ds vs B->∀{j:Nat}{d:D},ds[j]?=Qs d->Fcs K H0 H ds vs B j d
 |_,_,_,.nil,j,d,e=>by simp at e
 |_,_,_,.cons (v:=v) (B:=B) h r,0,d,e=>by
  simp at e;subst e;refine⟨v,B,rfl,h,λb hb=>OR _ hb,λn=>(O4.mp n).1,λU3 H' d2 B2 s q sb k nd=>⟨_,.cons q (Uq.mono s r λp hp o w=>?_),Qr sb (Pp _)⟩⟩
  grind
 |_,_,_,.cons h r,j+1,d,e=>by obtain⟨v1,B1,a1,a2,a3,a5,a4⟩:=Uq.focus r (e);refine⟨v1,B1,a1,a2,λb hb=>OP _ (a3 b hb),λn=>a5 (O4.mp n).2.1,λU3 H' d2 B2 s q sb k nd=>?_⟩;have n:=O4.mp nd;obtain⟨B',b1,b2⟩:=a4 _ _ _ _ s q sb (λq hq=>k q (OP _ hq)) n.2.1;refine⟨_,.cons (UC.mono s h λp hp o w=>k p (OR _ hp) (λz=>n.2.2 p hp p (a3 p z) rfl) o w) b1,Qr (Pp _) b2⟩
def gQ:D->Ql Int->Qo D
 |d,[]=>Qs d
 |.tup ds,n::ns=>(U2 ds n).bind λx=>gQ x ns
 |.lst ds,n::ns=>(U2 ds n).bind λx=>gQ x ns
 |_,_::_=>Qn
def iA:D->Ql Int->D->Qo D
 |_,[],e=>Qs e
 |.tup ds,n::ns,e=>(Vt ds.length n).bind λj=>(ds[j]?).bind λx=>(iA x ns e).map λy=>.tup (ds.set j y)
 |.lst ds,n::ns,e=>(Vt ds.length n).bind λj=>(ds[j]?).bind λx=>(iA x ns e).map λy=>.lst (ds.set j y)
 |_,_::_,_=>Qn
def Reach(K:OQ)(H:Hp):V->Ql Int->V->Prop
 |v,[],w=>v=w
 |v,n::ns,w=>∃p vs x,v=.ref p/\(Ux K H p vs\/UJ K H p vs)/\U2 vs n=Qs x/\Reach K H x ns w
theorem ED:∀{ds:Ql D}{j:Nat}{d:D},UD ds=Qt->ds[j]?=Qs d->flat d=Qt
 |[],j,d,_,e=>by simp at e
 |x::xs,0,d,f,e=>by simp[UD]at f;simp_all
 |x::xs,j+1,d,f,e=>by simp[UD]at f;exact ED f.2 (e)
def Nk(f:UD ds=Qt)(e:U2 ds n=Qs d):flat d=Qt:=by
 unfold L2.U2 at e;cases e1:Vt _ n with
 |none=>rw[e1]at e;cases e
 |some j=>rw[e1]at e;exact ED f e
theorem EE:∀(ns:Ql Int){d d1:D},flat d=Qt->gQ d ns=Qs d1->flat d1=Qt
 |[],d,d1,f,e=>by cases e;assumption
 |n::ns,.tup _,d1,f,e=>by
  simp only[gQ]at e;cases e1:U2 _ n with
  |none=>rw[e1]at e;cases e
  |some x=>rw[e1]at e;exact EE _ (Nk (‹_›) e1) e
 |n::ns,.lst _,d1,f,e=>by simp[flat]at f
 |n::ns,.Uz,d1,f,e=>by cases e
 |n::ns,.bl _,d1,f,e=>by cases e
 |n::ns,.int _,d1,f,e=>by cases e
 |n::ns,.str _,d1,f,e=>by cases e
def Fin(K:OQ)(H0 H:Hp)(d:D)(v:V)(B:Ql XW)(ns:Ql Int)(p:XW)(B1:Ql XW):Prop:=∀U3 H' es ws B2 d2,TJ H0 U3->H' p=Qs (.lst ws)->Uq K U3 H' es ws B2->B2.Sublist B1->iA d ns (.lst es)=Qs d2->(∀q∈B,q≠p->∀o,H q=Qs o->H' q=Qs o)->B.Nodup->∃B',UC K U3 H' d2 v B'/\B'.Sublist B
def zh(e:U2 xs n=Qs x):∃j,Vt xs.length n=Qs j/\xs[j]?=Qs x:=by
 unfold L2.U2 at e;cases e1:Vt _ n with
 |none=>rw[e1]at e;cases e
 |some j=>simp_all
theorem UC.focus{K:OQ}(hs:TJ H0 H):∀(ns:Ql Int){d:D}{v:V}{B:Ql XW}{Y7:Ql D},UC K H0 H d v B->B.Nodup->gQ d ns=Qs (.lst Y7)->∃p Wv B1,Reach K H v ns (.ref p)/\H p=Qs (.lst Wv)/\Uq K H0 H Y7 Wv B1/\p∈B/\(∀b∈B1,b∈B)/\p∉B1/\Fin K H0 H d v B ns p B1
 |[],d,v,B,Y7,h,nd,e=>by
  cases e;cases h with
  |flat f r=>simp[DL.flat]at f
  |@lst _ p vs C h r=>refine⟨p,vs,C,rfl,h,r,OU ..,λb hb=>OS _ hb,(O7.mp nd).1,λU3 H' es ws B2 d2 s e1 e2 sb e3 k nd=>?_⟩;cases e3;exact⟨_,.lst e1 e2,sb.cons₂ _⟩
 |n::ns,d,v,B,Y7,h,nd,e=>by
  cases h with
  |flat f r=>exact absurd (EE _ f e) (by simp[DL.flat])
  |U1 _ h r=>simp[gQ]at e
  |Vp h=>simp[gQ]at e
  |obj _ h r=>simp[gQ]at e
  |@tup ds p0 vs C h r=>
   simp only[gQ]at e;rcases e1:U2 _ n with _|x
   .rw[e1]at e;cases e
   rw[e1]at e;obtain⟨j,j1,j2⟩:=zh e1;obtain⟨v1,B1,a1,a2,a3,a5,a4⟩:=r.focus j2;obtain⟨p,Wv,B2,b1,b2,b3,b4,b5,b6,b7⟩:=UC.focus hs _ a2 (a5 nd) e;refine⟨p,Wv,B2,⟨p0,vs,v1,rfl,.inr (UJ.mono hs h),(by unfold L2.U2;rw[r.length,j1];assumption),b1⟩,b2,b3,a3 p b4,λb hb=>a3 b (b5 b hb),b6,λU3 H' es ws B3 d2 s Y6 e2 sb e3 k nd'=>?_⟩;simp only[iA,j1,OY,j2]at e3;rcases e4:iA x _ _ with _|y
   .rw[e4]at e3;cases e3
   rw[e4]at e3;cases e3;obtain⟨B',c1,c2⟩:=b7 _ _ _ _ _ y s Y6 e2 sb e4 (λq hq=>k q (a3 q hq)) (a5 nd');obtain⟨B'',c3,c4⟩:=a4 _ _ y _ s c1 c2 (λq hq nq=>k q hq λz=>nq (z▸b4)) nd';exact⟨B'',.tup (UJ.mono s h) c3,c4⟩
  |@lst ds p0 vs C h r=>
   simp only[gQ]at e;have n0:=O7.mp nd;rcases e1:U2 _ n with _|x
   .rw[e1]at e;cases e
   rw[e1]at e;obtain⟨j,j1,j2⟩:=zh e1;obtain⟨v1,B1,a1,a2,a3,a5,a4⟩:=r.focus j2;obtain⟨p,Wv,B2,b1,b2,b3,b4,b5,b6,b7⟩:=UC.focus hs _ a2 (a5 n0.2) e;refine⟨p,Wv,B2,⟨p0,vs,v1,rfl,.inl (Ux.of h),(by unfold L2.U2;rw[r.length,j1];assumption),b1⟩,b2,b3,OS _ (a3 p b4),λb hb=>OS _ (a3 b (b5 b hb)),b6,λU3 H' es ws B3 d2 s Y6 e2 sb e3 k nd'=>?_⟩;simp only[iA,j1,OY,j2]at e3;rcases e4:iA x _ _ with _|y
   .rw[e4]at e3;cases e3
   rw[e4]at e3;cases e3;obtain⟨B',c1,c2⟩:=b7 _ _ _ _ _ y s Y6 e2 sb e4 (λq hq=>k q (OS _ (a3 q hq))) (a5 n0.2);obtain⟨B'',c3,c4⟩:=a4 _ _ y _ s c1 c2 (λq hq nq=>k q (OS _ hq) λz=>nq (z▸b4)) n0.2;exact⟨_,.lst (k _ (OU ..) (λz=>n0.1 (z▸a3 p b4)) _ h) c3,c4.cons₂ _⟩
inductive FDp(K:OQ)(H0 H:Hp)(t:Th)(σ:L2.St)(A:List XW)(i:Nat)(d:D):Prop
 |mk (v B:_) (_:σ[i]?=Qs (Qs v)) (_:(∀b∈B,b∈A)) (_:B.Nodup) (_:UC K H0 H d v B) (_:∀U3 H' d2 B2,TJ H0 U3->UC K U3 H' d2 v B2->B2.Sublist B->(∀q∈A,q∉B->∀o,H q=Qs o->H' q=Qs o)->∃A2,Ul K U3 H' (t.set i (.dp d2)) σ A2/\A2.Sublist A)
def Ul.zbz:∀{t:Th}{σ:L2.St}{A:Ql XW},Ul K H0 H t σ A->A.Nodup->∀{i:Nat}{d:D},t[i]?=Qs (.dp d)->FDp K H0 H t σ A i d:=by
 intro _ _ _ h
 induction h with
 |nil=>simp
 |@no _ _ _ _ r ih=>
  intro n i d e;cases i with
  |zero=>simp at e
  |succ i=>obtain⟨v,B,a,b,n',c,k⟩:=ih n (e);refine⟨v,B,a,b,n',c,λU3 H' d2 B2 s q sb w=>?_⟩;obtain⟨A2,x,y⟩:=k _ _ _ _ s q sb w;exact⟨A2,.no x,y⟩
 |@val _ v _ _ _ h r ih=>
  intro n i d e;cases i with
  |zero=>simp at e
  |succ i=>obtain⟨v,B,a,b,n',c,k⟩:=ih n (e);refine⟨v,B,a,b,n',c,λU3 H' d2 B2 s q sb w=>?_⟩;obtain⟨A2,x,y⟩:=k _ _ _ _ s q sb w;exact⟨A2,.val (Rep.mono s h) x,y⟩
 |@own p _ _ _ _ _ h1 h2 r ih=>
  intro n i d e;cases i with
  |zero=>simp at e
  |succ i=>have n0:=O7.mp n;obtain⟨v,B,a,b,n',c,k⟩:=ih n0.2 (e);refine⟨v,B,a,λx hx=>OS _ (b x hx),n',c,λU3 H' d2 B2 s q sb w=>?_⟩;obtain⟨A2,x,y⟩:=k _ _ _ _ s q sb (λq hq=>w q (OS _ hq));exact⟨_,.own (w p (OU ..) (λz=>n0.1 (b p z)) _ h1) (TZ.mono s h2) x,y.cons₂ _⟩
 |@dp _ v C _ _ _ h r ih=>
  intro n i d e;cases i with
  |zero=>simp at e;subst e;have n0:=O4.mp n;refine⟨v,C,rfl,λx hx=>OR _ hx,n0.1,h,λU3 H' d2 B2 s q sb w=>?_⟩;exact⟨_,.dp q (Ul.mono s r λp hp=>w p (OP _ hp) λz=>n0.2.2 p z p hp rfl),Qr sb (Pp _)⟩
  |succ i=>have n0:=O4.mp n;obtain⟨v,B,a,b,n',c,k⟩:=ih n0.2.1 (e);refine⟨v,B,a,λx hx=>OP _ (b x hx),n',c,λU3 H' d2 B2 s q sb w=>?_⟩;obtain⟨A2,x,y⟩:=k _ _ _ _ s q sb (λq hq=>w q (OP _ hq));exact⟨_,.dp (UC.mono s h λp hp=>w p (OR _ hp) λz=>n0.2.2 p hp p (b p z) rfl) x,Qr (Pp _) y⟩
inductive Plc(K:OQ)(F A:List XW)(H:Hp)(t:Th)(σ:L2.St)(i:Nat)(d:D)(ns:List Int)(Y7:List D):Prop
 |mk (v p Wv B1:_) (_:σ[i]?=Qs (Qs v)) (_:Reach K H v ns (.ref p)) (_:H p=Qs (.lst Wv)) (_:Uq K (ag (A++F) H) H Y7 Wv B1) (_:p∉B1) (_:p∈A) (_:∀H1 es ws B2 d2,TJ H H1->(∀H',(∀q,q≠p->H' q=H1 q)->TJ (ag (A++F) H) (ag (A++F) H')->Uq K (ag (A++F) H') H' es ws B2)->B2.Sublist B1->iA d ns (.lst es)=Qs d2->∃A2,RS K F (L2.upd H1 p (.lst ws)) A2 (t.set i (.dp d2)) σ/\Gr A H A2 (L2.upd H1 p (.lst ws)))
def RS.place (R:RS K F H A t σ)(e:t[i]?=Qs (.dp d))(e1:gQ d ns=Qs (.lst Y7)):Plc K F A H t σ i d ns Y7:=by
 obtain⟨v,B,a1,a2,a3,a4,a5⟩:=R.rel.zbz R.nd e;obtain⟨p,Wv,B1,b1,b2,b3,b4,b5,b6,b7⟩:=a4.focus (aR _ _) ns a3 e1;refine⟨v,p,Wv,B1,a1,b1,b2,b3,b6,a2 p b4,λH1 es ws B2 d2 gs mk sb ep=>?_⟩;have pA:p∈A:=a2 p b4;have hh:TJ (ag (A++F) H) (ag (A++F) (L2.upd H1 p (.lst ws))):=λb o q=>by obtain⟨n,q⟩:=bN q;have nb:b≠p:=λz=>n (OR _ (z▸pA));exact aU (by rw[aC nb];exact gs _ _ q) n
 have kp:∀q∈A,q≠p->∀o,H q=Qs o->L2.upd H1 p (.lst ws) q=Qs o:=λq _ n o h=>by rw[aC n];exact gs _ _ h
 obtain⟨B',c1,c2⟩:=b7 (ag (A++F) (L2.upd H1 p (.lst ws))) (L2.upd H1 p (.lst ws)) es ws B2 d2 hh aM (mk _ (λq n=>aC n) hh) sb ep (λq hq=>kp q (a2 q hq)) a3;obtain⟨A2,d1,d3⟩:=a5 _ _ d2 B' hh c1 c2 (λq hq nq=>kp q hq λz=>nq (z▸b4));have sub:∀x∈A2,x∈A:=λx hx=>d3.subset hx;have mu:US (L2.upd H1 p (.lst ws)) (A++F):=λq hq=>by
  by_cases z:q=p
  .exact⟨mL _,by rw[z];exact aM⟩
  .obtain⟨us,w⟩:=R.mu q hq;exact⟨us,by rw[aC z];exact gs _ _ w⟩
 refine⟨A2,⟨λq hq=>mu q ?_,R.nd.sublist d3,λq hq=>R.dj q (sub q hq),Ul.mono (aS _ λa z=>?_) d1 λ_ _ _ h=>h⟩,λb o n h=>?_,λb hb=>?_,λb hb=>.inl (sub b hb)⟩
 .exact(OT.mp hq).elim (λz=>OR _ (sub q z)) (λz=>OP _ z)
 .exact(OT.mp z).elim (λz=>OR _ (sub a z)) (λz=>OP _ z)
 .rw[aC (λz=>n (by lia))];exact gs _ _ h
 .obtain⟨us,w⟩:=mu b (OR _ hb);rw[w];simp
def g9:Ql DE->Th->Qo (Ql Int)
 |[],_=>Qs []
 |f::fs,t=>(f t).bind λr=>match r.d with
  |.int n=>(g9 fs t).map (n::·)
  |_=>Qn
theorem Bi:∀{fs:Ql DE}{ns':Ql Int},g9 (fs++[f]) t=Qs ns'->∃ns n r,g9 fs t=Qs ns/\f t=Qs r/\r.d=.int n/\ns'=ns++[n]
 |[],ns',e=>by
  simp only[Rj,g9]at e;rcases e1:f t with _|r
  .rw[e1]at e;cases e
  rw[e1]at e;simp at e;split at e
  .rename_i n z;cases e;exact⟨[],n,r,rfl,rfl,z,rfl⟩
  .cases e
 |g::fs,ns',e=>by
  simp only[Q3,g9]at e;rcases e1:g t with _|r
  .rw[e1]at e;cases e
  rw[e1]at e;simp at e;split at e
  .rename_i n z;rcases e2:g9 (fs++[f]) t with _|ms
   .rw[e2]at e;cases e
   rw[e2]at e;cases e;obtain⟨ns,m,r',a1,a2,a3,a4⟩:=Bi e2;refine⟨n::ns,m,r',?_,a2,a3,by rw[a4];rfl⟩;simp only[g9,e1,OY,z,a1];rfl
  .cases e
theorem Reach.snoc{K:OQ}{H:Hp}{n:Int}{w:V}:∀{ns:Ql Int}{v:V},Reach K H v (ns++[n]) w->∃p vs,Reach K H v ns (.ref p)/\(Ux K H p vs\/UJ K H p vs)/\U2 vs n=Qs w
 |[],v,h=>by obtain⟨p,vs,x,rfl,h1,h2,h3⟩:=h;cases h3;exact⟨p,vs,rfl,h1,h2⟩
 |m::ns,v,h=>by obtain⟨p,vs,x,rfl,h1,h2,h3⟩:=h;obtain⟨p',Vs,a1,a2,a3⟩:=Reach.snoc h3;exact⟨p',Vs,⟨p,vs,x,rfl,h1,h2,a1⟩,a2,a3⟩
inductive ZT(K:OQ)(F:List XW)(i:Nat)(fs:List DE)(σ:L2.St)(H:Hp)(Q:VK):Prop
 |mk (A t v ns w:_) (_:RS K F H A t σ) (_:g9 fs t=Qs ns) (_:σ[i]?=Qs (Qs v)) (_:Reach K H v ns w) (_:∀H',TJ H H'->Q w H')
section
variable {X:Cx}{F:Ql XW}{a b c o:XY}{es:Ql XY}{fa:DE}{fs:Ql DE}{g g1 g2:DS}{ft:DT}{st:XZ}{tg:XY}
def wx(i:Nat)(hN:X.N[i]?=Qs x:=by rfl)(hv:autoParam (cJ X.env.scope x) qzA._auto_1)(hd:Vf x:=by decide) (UY:VX x:=by decide):PE X (.Name x pos) (ZT X.K F i []):=by refine PE.imp (dg hN hv hd UY) ?_;rintro σ H Q ⟨A,t,v,ns,w,R,e,h1,h2,h⟩;cases e;cases h2;exact⟨v,h1,h H (TJ.refl H)⟩
def wy(ha:PE X a (ZT X.K F i fs))(hb:PE X b (dE X.K F fb))(hs:pL b:=by intro _ _;rfl):PE X (.Subscript a b pos) (ZT X.K F i (fs++[fb])):=by
 refine PE.imp (rH (zbn.or xK) ha hb hs) ?_;rintro σ H Q ⟨A,t,v,ns,w,R,e,h1,h2,h⟩;obtain⟨ms,n,r,a1,a2,a3,rfl⟩:=Bi e;obtain⟨p,vs,b1,b2,b3⟩:=h2.snoc;refine⟨A,t,v,ms,_,R,a1,h1,b1,λH1 gs=>⟨A,t,r,R.grow gs,a2,λy H2 UT q=>?_⟩⟩;have p2:=q.full;rw[a3]at p2;cases bX p2;rcases b2 with b2|b2
 .exact .inl ⟨p,vs,n,w,rfl,rfl,Ux.mono (gs.trans UT) b2,b3,h _ (gs.trans UT)⟩
 .exact .inr ⟨p,vs,n,w,rfl,rfl,UJ.mono (gs.trans UT) b2,b3,h _ (gs.trans UT)⟩
def xI(t:Th)(i:Nat)(ns:Ql Int):Qo Out:=match t[i]? with
 |some (.dp d)=>match gQ d ns with
  |some (.lst _)=>(iA d ns (.lst [])).map λd2=>.nx (t.set i (.dp d2))
  |_=>Qn
 |_=>Qn
def tO(i:Nat)(fs:Ql DE):DS:=λt=>(g9 fs t).bind (xI t i)
def Jg(i:Nat) (ho:PE X o (ZT X.K F i fs)) (WQ:attributeBase o "clear" X.env (eval o X.env)=eval o X.env:=by rfl) (WM:(apos.endLine==UR.line)=Qt:=by rfl) (VW:swapsWith (.Call (.Attribute o "clear" apos) [] [] UR) Qn pos.line X.env=pure Qf:=by rfl):PS X (.Expr (.Call (.Attribute o "clear" apos) [] [] UR) pos) (dS X.K F (tO i fs)):=by
 refine PS.imp (jW (BS QB Rz SH Cz ho WQ WM) VW) ?_;rintro E σ H ⟨A,t,o,R,e,h⟩;unfold tO at e;rcases e0:g9 _ t with _|ns
 .rw[e0]at e;cases e
 rw[e0]at e;have e:xI t i _=Qs o:=e;unfold xI at e;split at e
 case h_2=>cases e
 rename_i d z;split at e
 case h_2=>cases e
 rename_i ds z1;rcases e3:iA d _ _ with _|d2
 .rw[e3]at e;cases e
 rw[e3]at e;cases e;obtain⟨v,p,Wv,B1,a1,a2,a3,a4,a5,a6,a7⟩:=R.place z z1;refine⟨A,t,v,ns,_,R,e0,a1,a2,λH1 gs=>⟨.inl ⟨rfl,Wv,Ux.of (gs _ _ a3)⟩,p,Wv,rfl,rfl,gs _ _ a3,?_⟩⟩;obtain⟨A2,R2,gr⟩:=a7 _ _ _ _ _ gs (λH' k hh=>.nil) (List.nil_sublist _) e3;exact h _ _ _ gr R2
end
def toDn:Ev->Qo D
 |.cl d=>if flat d then Qs d else Qn
 |.tm d=>if flat d then Qs d else Qn
 |.nw xs=>if UD xs then Qs (.lst xs) else Qn
 |.dn d=>Qs d
theorem UE.toDn{K:OQ}(m:US H (A++F))(g:TJ H H')(h:UE K F A H H' r v)(e:toDn r=Qs d):UE K F A H H' (.dn d) v:=by
 cases r with
 |cl d0=>
  simp only[DL.toDn]at e;split at e
  .rename_i f;cases e;exact⟨[],PN,λb hb=>(by cases hb),.flat f h⟩
  .cases e
 |tm d0=>
  simp only[DL.toDn]at e;split at e
  .rename_i f;cases e;exact⟨[],PN,λb hb=>(by cases hb),.flat f (Rep.U8 (m.mono g) f (Rep.mono (aR _ _) h))⟩
  .cases e
 |nw xs=>
  simp only[DL.toDn]at e;split at e
  .rename_i f;cases e;obtain⟨p,vs,rfl,h1,h2,h3⟩:=h;exact⟨[p],by simp,λb hb=>by simp_all,.lst h2 (Uq.zar f h3)⟩
  .cases e
 |dn d0=>cases e;assumption
abbrev DN:=Th->Qo (D×Ql Nat)
abbrev nu:=Th->Qo (Ql D×Ql Nat)
def FU(H:Hp)(t:Th)(σ:L2.St)(I:Ql Nat)(b:XW):Prop:=H b=Qn\/∃i∈I,∃xs,t[i]?=Qs (.own xs)/\σ[i]?=Qs (Qs (.ref b))
inductive dN(K:OQ)(F:List XW)(f:DN)(σ:L2.St)(H:Hp)(Q:VK):Prop
 |mk (A t d I:_) (_:RS K F H A t σ) (_:f t=Qs (d,I)) (_:∀v H' B,TJ H H'->B.Nodup->(∀b∈B,FU H t σ I b)->UC K (ag (B++(A++F)) H') H' d v B->Q v H')
inductive dNs(K:OQ)(F:List XW)(f:nu)(σ:L2.St)(H:Hp)(Q:List V->Hp->Prop):Prop
 |mk (A t ds I:_) (_:RS K F H A t σ) (_:f t=Qs (ds,I)) (_:∀vs H' B,TJ H H'->B.Nodup->(∀b∈B,FU H t σ I b)->Uq K (ag (B++(A++F)) H') H' ds vs B->Q vs H')
def Ul.zgz:∀{t:Th}{σ:L2.St}{A:Ql XW},Ul K H0 H t σ A->A.Nodup->∀{i j:Nat}{xs ys:Ql D},t[i]?=Qs (.own xs)->t[j]?=Qs (.own ys)->σ[i]?=Qs (Qs (.ref b))->σ[j]?=Qs (Qs (.ref b))->i=j:=by
 intro _ _ _ h
 induction h with
 |nil=>intro w0 i j xs ys e1 e2 s1 s2;simp at e1
 |@no _ _ _ _ r ih=>
  intro n i j xs ys e1 e2 s1 s2;cases i with
  |zero=>simp at e1
  |succ i=>
   cases j with
   |zero=>simp at e2
   |succ j=>exact congrArg _ (ih n (e1) (e2) (s1) (s2))
 |@val _ _ _ _ _ _ r ih=>
  intro n i j xs ys e1 e2 s1 s2;cases i with
  |zero=>simp at e1
  |succ i=>
   cases j with
   |zero=>simp at e2
   |succ j=>exact congrArg _ (ih n (e1) (e2) (s1) (s2))
 |@own _ _ _ _ _ _ _ _ r ih=>
  intro n i j xs ys e1 e2 s1 s2;cases i with
  |zero=>
   cases j with
   |zero=>rfl
   |succ j=>
    obtain⟨p,vs,a1,a2,_⟩:=r.WV (e2)
    simp_all
  |succ i=>
   cases j with
   |zero=>
    obtain⟨p,vs,a1,a2,_⟩:=r.WV (e1)
    simp_all
   |succ j=>exact congrArg _ (ih (O7.mp n).2 (e1) (e2) (s1) (s2))
 |@dp _ _ _ _ _ _ _ r ih=>
  intro n i j xs ys e1 e2 s1 s2;cases i with
  |zero=>simp at e1
  |succ i=>
   cases j with
   |zero=>simp at e2
   |succ j=>exact congrArg (·+1) (ih (O4.mp n).2.1 (i:=i) (j:=j) (xs:=xs) (ys:=ys) (by simpa using e1) (by simpa using e2) (by simpa using s1) (by simpa using s2))
section
variable {X:Cx}{F:Ql XW}{a b c o:XY}{es:Ql XY}{fa:DE}{fs:Ql DE}{fn:DN}{fns:nu}
def fK(f:DE):DN:=λt=>(f t).bind λr=>(toDn r).map λd=>(d,[])
def BA(he:PE X a (dE X.K F fa)):PE X a (dN X.K F (fK fa)):=by
 refine PE.imp he ?_;rintro σ H Q ⟨A,t,d,I,R,e,h⟩;unfold fK at e;rcases e1:fa t with _|r
 .rw[e1]at e;cases e
 rw[e1]at e;simp only[OY]at e;rcases e2:toDn r with _|d0
 .rw[e2]at e;cases e
 rw[e2]at e;cases e;refine⟨A,t,r,R,e1,λv H' gs q=>?_⟩;obtain⟨B,b1,b2,b3⟩:=q.toDn R.mu gs e2;exact h v _ B gs b1 (λb hb=>.inl (b2 b hb)) b3
def oe:nu:=λ_=>Qs ([],[])
def gI(f:DN)(g:nu):nu:=λt=>(f t).bind λq=>(g t).bind λw=>if q.2.all (λi=>!w.2.contains i) then Qs (q.1::w.1,q.2++w.2) else Qn
def JF:PA X [] (dNs X.K F oe):=PA.imp fJ λσ H Q ⟨A,t,rs,I,R,e,h⟩=>by cases e;exact h _ H _ (TJ.refl H) PN (λb hb=>by cases hb) .nil
def Bz(ha:PE X a (dN X.K F fn))(hr:PA X es (dNs X.K F fns))(hs:Pc (a::es) X.env=(Qf,eval a X.env)::Pc es X.env:=by rfl):PA X (a::es) (dNs X.K F (gI fn fns)):=by
 refine PA.imp (fj ha hr hs) ?_;rintro σ H Q ⟨A,t,ds,I,R,e,h⟩;unfold gI at e;rcases e1:fn t with _|q1
 .rw[e1]at e;cases e
 rcases e2:fns t with _|q2
 .rw[e1,e2]at e;cases e
 obtain⟨d1,I1⟩:=q1;obtain⟨WD,I2⟩:=q2;rw[e1,e2]at e;simp only[OY]at e;replace e:=Vm e;obtain⟨dj,e⟩:=e;cases e;have dj:∀i∈I1,i∉I2:=λi hi=>by
  simp_all
 refine⟨A,t,d1,I1,R,e1,λv H1 B1 g1 n1 f1 r1=>⟨A,t,WD,I2,R.grow g1,e2,λvs H2 B2 g2 n2 f2 r2=>?_⟩⟩;have g:=g1.trans g2;have l1:=r1.lists;have l1':=l1.mono g2;have l2:=r2.lists;have lA:=R.mu.mono g;refine h _ _ _ g (O4.mpr ⟨n1,n2,λx hx y hy e=>?_⟩) (λb hb=>?_) (.cons (UC.U8 ((l1'.app l2).app lA) (aR _ _) (UC.mono (ck g2) r1 λ_ _ _ w=>g2 _ _ w)) (Uq.U8 ((l1'.app l2).app lA) (aR _ _) r2))
 .subst e;obtain⟨ws,hw⟩:=l1 x hx;rcases f2 x hy with z|⟨j,hj,ys,j1,j2⟩
  .lia
  .rcases f1 x hx with z|⟨i,hi,xs,i1,i2⟩
   .obtain⟨p,us,a1,_,a3,_⟩:=R.rel.WV j1;lia
   .have:=R.rel.zgz R.nd i1 j1 i2 j2;subst this;exact dj i hi hj
 .rcases OT.mp hb with z|z
  .rcases f1 b z with w|⟨i,hi,w⟩
   .exact .inl w
   .exact .inr ⟨i,OR _ hi,w⟩
  .rcases f2 b z with w|⟨i,hi,w⟩
   .exact .inl (TJ.free g1 w)
   .exact .inr ⟨i,OP _ hi,w⟩
end
theorem Uq.zfn{K:OQ}(q:UC K H0 H d v C):∀{ds:Ql D}{vs:Ql V}{B:Ql XW},Uq K H0 H ds vs B->Uq K H0 H (ds++[d]) (vs++[v]) (B++C)
 |_,_,_,.nil=>by have:=Uq.cons q .nil;simpa using this
 |_,_,_,.cons h r=>by have:=Uq.cons h (Uq.zfn q r);simpa[PZ] using this
noncomputable def eN(k:D->Th->Qo Th)(ft:DT)(fe:DE):Ql D->Th->Qo (Ql D)
 |[],_=>Qs []
 |d::ds,t=>(k d t).bind λt1=>(ft t1).bind λb=>if b then(fe t1).bind λr=>(toDn r).bind λd=>(eN k ft fe ds t1).map λxs=>d::xs else eN k ft fe ds t1
def gV(n:Nat)(cap:Ql Nat)(fs:DI)(k:D->Th->Qo Th)(ft:DT)(fe:DE):DE:=λt=>(fs t).bind λq=>(dH t cap).bind λc=>if q.2.length<=50000 then(eN k ft fe q.2 (Pk n Sl.no++c.2.map Sl.val)).map λxs=>.dn (.lst xs) else Qn
theorem yP:∀{ds:Ql D}{t:Th}{xs:Ql D},eN k ft fe ds t=Qs xs->xs.length<=ds.length
 |[],t,xs,e=>by cases e;simp
 |d::ds,t,xs,e=>by
  unfold eN at e;refine aq e λt1 e1 e=>?_;have e:((ft t1).bind λb=>if b then(fe t1).bind λr=>(toDn r).bind λd=>(eN k ft fe ds t1).map λxs=>d::xs else eN k ft fe ds t1)=Qs xs:=e;refine aq e λb e2 e=>?_;cases b with
  |false=>have:=yP (ds:=ds) (t:=t1) e;simp;lia
  |true=>
   have e:((fe t1).bind λr=>(toDn r).bind λd=>(eN k ft fe ds t1).map λxs=>d::xs)=Qs xs:=e;refine aq e λr e3 e=>?_;have e:((toDn r).bind λd=>(eN k ft fe ds t1).map λxs=>d::xs)=Qs xs:=e;refine aq e λd0 e5 e=>?_;have e:((eN k ft fe ds t1).map λxs=>d0::xs)=Qs xs:=e;cases e4:eN k ft fe ds t1 with
   |none=>rw[e4]at e;cases e
   |some ys=>rw[e4]at e;cases e;have:=yP e4;simp;lia
inductive CN(K:OQ)(kt:D->Th->Option Th)(ft:DT)(fe:DE)(ds xs:List D)(H1:Hp)(P:List XW)(p:XW)(Good:List XW->Hp->Prop)(i m:Nat)(σ:L2.St)(H:Hp):Prop
 |mk (th:Th) (acc rest:List D) (vs:List V) (B:List XW) (hm:i+m=ds.length) (R:RS K P H [] th σ) (ec:eN kt ft fe (ds.drop i) th=Qs rest) (ex:acc++rest=xs) (hv:H p=Qs (.lst vs)) (hr:Uq K (ag P H) H acc vs B) (nd:B.Nodup) (np:p∉B) (fr:∀b∈B,H1 b=Qn) (sm:TJ H1 H) (gg:Good P H)
def CN.step (src:Src K ds J Good)(hk:cC K P g kt)(hp:p∈P)(hn:H1 p=Qn)(hx:xs.length<=50000) (c:CN K kt ft fe ds xs H1 P p Good i (m+1) σ H):J.go i H/\∃N:L2.St->Hp->Prop,(∀σ2 H2,N σ2 H2->∃m',m'<m+1/\CN K kt ft fe ds xs H1 P p Good (i+1) m' σ2 H2)/\∀x H2,J.VT i H x H2->g x σ H2 λσ2 H3=>∃F',dT K F' ft σ2 H3 λb H4=>
   if b=Qt then ∃F',dE K F' fe σ2 H4 λv H5=>∃vs,H5 p=Qs (.lst vs)/\vs.length<PD/\N σ2 (upd H5 p (.lst (vs++[v]))) else N σ2 H4:=by
 obtain⟨th,acc,rest,vs,B,hm,R,ec,ex,hv,hr,nd,np,fr,sm,gg⟩:=c;have Xg:i<ds.length:=by lia
 have YZ:i+1+m=ds.length:=by lia
 refine⟨src.go _ _ i gg Xg,_,λ_ _ q=>⟨m,Qa m,q⟩,λx H2 y=>?_⟩;obtain⟨UT,d,hd,rd⟩:=src.VT _ _ i x _ gg R.mu y Xg;rw[yG Xg hd]at ec;refine aq ec λt1 k1 ec=>?_;refine aq ec λbb k2 ec=>?_;refine hk σ _ _ _ _ d x _ (R.grow UT) rd k1 λσ2 A2 VZ R2=>?_;cases wV R2 VZ;refine⟨P,[],t1,bb,R2,k2,λH3 gs3=>?_⟩;have s3:=UT.trans gs3;have R3:=R2.grow gs3;cases bb with
 |false=>exact oI ⟨t1,acc,rest,vs,B,YZ,R3,ec,ex,s3 _ _ hv,Uq.mono (ck s3) hr λp _ o w=>s3 _ _ w,nd,np,fr,sm.trans s3,src.keep _ _ _ _ gg (ck s3)⟩
 |true=>
  refine aq (ec) λre k3 ec=>?_;refine aq ec λde k5 ec=>?_;refine rZ ec λys k4 ec=>?_;subst ec;refine oH ⟨P,[],t1,re,R3,k3,λv H4 YA q4=>⟨vs,YA _ _ (s3 _ _ hv),zq hr.length ex hx,?_⟩⟩;have s4:=s3.trans YA;have hu:TJ _ (ag P (upd H4 p (.lst (vs++[v])))):=sJ hp;have s5:=(ck s4).trans hu;obtain⟨B4,n4,f4,r4⟩:=q4.toDn R3.mu YA k5;have nD4:p∉B4:=λz=>by cases(f4 _ z).symm.trans (s3 _ _ hv)
  refine⟨t1,acc++[de],ys,_,B++B4,YZ,RS.zag (R3.grow YA) hp,k4,by rw[PZ];assumption,aM,?_,?_,?_,?_,AK hn sm s4,src.keep _ _ _ _ gg s5⟩
  .refine Uq.zfn (UC.mono hu (UC.U8 (R3.mu.mono YA) (aR _ _) r4) λb hb o w=>?_) (Uq.mono s5 hr λb hb o w=>?_)
   .rw[aC (λz:b=p=>nD4 (z▸hb))];assumption
   .rw[aC (λz:b=p=>np (z▸hb))];exact s4 _ _ w
  .refine O4.mpr ⟨nd,n4,λx hx y hy e=>?_⟩;subst e;obtain⟨us,w⟩:=hr.lists x hx;have:=s3 _ _ w;rw[f4 x hy]at this;cases this
  .simp_all
  .exact λb hb=>(OT.mp hb).elim (fr b) λz=>TJ.free (sm.trans s3) (f4 b z)
def GK{X:Cx}(hk:∀F',cC X.K F' g kt)(h:dE X.K F (gV n cap fs kt ft fe) σ H Q):lX n cap (dI X.K F fs) g (λσ H Q=>∃F',dT X.K F' ft σ H Q) (λσ H Q=>∃F',dE X.K F' fe σ H Q) σ H Q:=by
 obtain⟨A,t,r,R,e,h⟩:=h;refine aq e λq e1 e=>?_;refine aq e λc e2 e=>?_;obtain⟨b,ds⟩:=q;obtain⟨c,zbH⟩:=c;refine bJ e λhlen e=>?_;refine rZ e λxs e3 e=>?_;subst e;obtain⟨cvs,Zy,Zx⟩:=pe R e2;refine⟨A,t,b,ds,R,e1,λJ H1 Good gs src gd p hD=>?_⟩;have ZG:=R.mu.mono gs;refine⟨CN _ _ _ _ _ _ _ _ p _,⟨_,⟨_,[],xs,[],[],Rn _,RS.block ZG hD sM DY gs Zy Zx,e3,rfl,aM,.nil,PN,R9,λ_ z=>(R9 z).elim,du hD,src.keep _ _ _ _ gd ((aS _ DZ).trans (ie hD))⟩⟩,λi m σ' H' c'=>?_⟩;cases m with
 |succ m=>exact .inr (c'.step src (hk _) (OU ..) hD (PJ (yP e3) hlen))
 |zero=>
  obtain⟨th,acc,rest,vs,B,hm,_,ec,ex,hv,hr,nd,np,fr,sm,gg⟩:=c';cases hm;rw[QQ]at ec;cases ec;rw[PH]at ex;subst ex;refine .inl ⟨src.stop _ _ gg,h _ _ (gs.trans sm) ⟨_,O7.mpr ⟨np,nd⟩,λx hx=>?_,.lst hv (Uq.U8 (λq hq=>?_) (aR _ _) hr)⟩⟩
  .rcases OZ.mp hx with rfl|z
   .exact TJ.free gs hD
   .exact TJ.free gs (fr x z)
  .rcases OT.mp hq with z|z
   .rcases OZ.mp z with rfl|z
    .exact⟨mL _,hv⟩
    .exact hr.lists q z
   .obtain⟨us,w⟩:=ZG q z;exact⟨us,sm _ _ w⟩
def JX(S:V2 X scope)(hc:X.calm=Qt)(hi:PI X tg iter (dI X.K F fs)) (hN:N'.length=n+cap.length) (VG:∀(k:Nat) (j:Nat),cap[k]?=Qs j->∃x,N'[n+k]?=Qs x/\X.N[j]?=Qs x/\(x,Qb)∈scope.names) (hg:∀C s₃ H₃ fp pins,PG (bw X N' scope C s₃ H₃ fp pins) tg g) (hk:∀F',cC X.K F' g kt) (ht:∀C s₃ H₃ fp pins F',V8 (bw X N' scope C s₃ H₃ fp pins) ifs (dT X.K F' ft)) (he:∀C s₃ H₃ fp pins F',PE (bw X N' scope C s₃ H₃ fp pins) elt (dE X.K F' fe)) (hs:∀x,foldedSetIterable iter X.env x=pure x:=by intro _;rfl):PE X (.ListComp elt [⟨tg,iter,ifs,0⟩] scope pos) (dE X.K F (gV n cap fs kt ft fe)):=PE.imp (BQ S hc hi hN VG hg (λC s₃ H₃ fp pins X0 s σ H Q I ⟨F',q⟩=>ht C _ _ _ _ _ _ s σ H Q I q) (λC s₃ H₃ fp pins X0 s σ H Q I ⟨F',q⟩=>he C _ _ _ _ _ _ s σ H Q I q) hs) λ_ _ _ h=>GK hk h
def wH (n:Nat)(cap:Ql Nat)(N':Ql Str)(hc:X.calm=Qt)(hi:PI X tg iter (dI X.K F fs)) (hg:∀C s₃ H₃ fp pins,PG (bw X N' scope C s₃ H₃ fp pins) tg g) (hk:∀F',cC X.K F' g kt) (ht:∀C s₃ H₃ fp pins F',V8 (bw X N' scope C s₃ H₃ fp pins) ifs (dT X.K F' ft)) (he:∀C s₃ H₃ fp pins F',PE (bw X N' scope C s₃ H₃ fp pins) elt (dE X.K F' fe)) (WN:scope.kind=.function:=by rfl) (Xh:kq scope.names X.env.kindOf=Qt:=by rfl) (hN:N'.length=n+cap.length:=by rfl) (VG:iO N' X.N n scope.names 0 cap=Qt:=by rfl) (hs:∀x,foldedSetIterable iter X.env x=pure x:=by intro _;rfl):PE X (.ListComp elt [⟨tg,iter,ifs,0⟩] scope pos) (dE X.K F (gV n cap fs kt ft fe)):=JX (o7 WN Xh) hc hi hN (λk j e=>by simpa using m7 VG k j e) hg hk ht he hs
section
variable {X:Cx}{F:Ql XW}{a b c o:XY}{es:Ql XY}{fa:DE}{fs:Ql DE}{g g1 g2:DS}{ft:DT}{st:XZ}{tg:XY}
def xE:Ev->Ev->Qo Ev:=λr1 r2=>match r1,r2.d with
 |.nw xs,.int k=>if xs.length<=100&&decide (-1000000<=k/\k<=1000) then Qs (.nw (Pk k.toNat xs).flatten) else Qn
 |_,_=>Qn
theorem TZ.rep{K:OQ}(r:TZ K H ds vs):∀k:Nat,TZ K H (Pk k ds).flatten (Pk k vs).flatten
 |0=>.nil
 |k+1=>by simpa[Se] using r.app (TZ.rep r k)
def gH:VC X F (binaryOp .Mult) xE:=by
 intro pins s σ H0 H A x y v u Q r1 r2 r I m g0 rx ry q1 q2 e hq;unfold xE at e;split at e
 .rename_i xs k z;split at e
  .rename_i ok;simp at ok;cases e;have p2:=q2.full;rw[z]at p2;cases bX p2;obtain⟨p,vs,rfl,h1,h2,h3⟩:=q1;refine Ke _ s σ H _ _ v u Q I rx ry ⟨p,k,vs,rfl,rfl,h2,by lia,by lia,?_,λl hl=>hq _ _ (du hl) ⟨l,_,rfl,TJ.free g0 hl,aM,TZ.mono (ie hl) (TZ.rep (TZ.mono (aS H λa z=>OS _ z) h3) _)⟩⟩;rw[h3.length];have h5:k.toNat<=1000:=by lia
   exact PJ (Tn ok.1 h5) (by decide)
  .cases e
 .cases e
end
noncomputable def md(a b c:Int):Bool:=Builtin.Range.small a b c&&decide (c≠0/\c.natAbs<1000000/\0<=Builtin.Range.rangeSize a b c)
def qT(a b c:Int):Ql D:=(P0 (Builtin.Range.rangeSize a b c).toNat).map λi=>.int (a+(i:Nat)*c)
def dy(k:Nat)(N:Ql Str)(g:DS):Ql D->Qo Ev:=λds=>if ds.length=k then(g (jK N ds)).bind gG else Qn
def CL(e:dy k N g ds=Qs r):ds.length=k:=by unfold dy at e;lia
def CK(e:dy k N g ds=Qs r):∃o,g (jK N ds)=Qs o/\gG o=Qs r:=by
 unfold dy at e;split at e
 .cases e1:g _ with
  |none=>rw[e1]at e;cases e
  |some o=>simp_all
 .cases e
section
variable {X:Cx}{F:Ql XW}{elt tg iter:XY}{ifs:Ql XY}{scope:U0}{fs:DI}{g:TG}{ft:DT}{fe:DE}{i:Nat}{y:Str}
def NO(up:∀{σ:L2.St}{H:Hp}{Q:VK},dE X.K F fc σ H Q->lX n cap (dI X.K F fs) g (λσ H Q=>∃F',dT X.K F' ft σ H Q) (λσ H Q=>∃F',dE X.K F' fe σ H Q) σ H Q)(hc:X.calm=Qt)(hi:PI X tg iter (dI X.K F fs)) (hg:∀C s₃ H₃ fp pins,PG (bw X N' scope C s₃ H₃ fp pins) tg g) (ht:∀C s₃ H₃ fp pins F',V8 (bw X N' scope C s₃ H₃ fp pins) ifs (dT X.K F' ft)) (he:∀C s₃ H₃ fp pins F',PE (bw X N' scope C s₃ H₃ fp pins) elt (dE X.K F' fe)) (Zt:X.N.Nodup) (Zn:X.N[i]?=Qs y) (hy:Loc X.env.scope y) (VW:swapsWith (.ListComp elt [⟨tg,iter,ifs,0⟩] scope pos) (Qs (.Name y py)) YR.line X.env=pure Qt) (hf:X.fn y=Qt\/X.env.scope.names.lookup y=Qs .local) (WN:scope.kind=.function) (Xh:kq scope.names X.env.kindOf=Qt) (hN:N'.length=n+cap.length) (VG:iO N' X.N n scope.names 0 cap=Qt) (hs:∀x,foldedSetIterable iter X.env x=pure x):PS X (.Assign [.Name y py] (.ListComp elt [⟨tg,iter,ifs,0⟩] scope pos) YR) (dS X.K F (aL i fc)):=by
 refine PS.imp (Bp (tt:=λσ H Q=>∃F',dT _ _ _ σ H Q) (te:=λσ H Q=>∃F',dE _ _ _ σ H Q) (o7 WN Xh) hc hi hN (λk j e=>by simpa using m7 VG k j e) hg (λC s₃ H₃ fp pins X0 s σ H Q I ⟨F',q⟩=>ht C _ _ _ _ F' _ s σ H Q I q) (λC s₃ H₃ fp pins X0 s σ H Q I ⟨F',q⟩=>he C _ _ _ _ F' _ s σ H Q I q) Zt Zn hy VW hf hs) ?_;rintro E σ H ⟨A,t,o,R,e,h⟩;refine aq e λr1 e1 e=>?_;rcases e2:c9 t i _ with _|t'
 .rw[e2]at e;cases e
 rw[e2]at e;cases e;refine up ⟨A,t,r1,R,e1,λv H' gs q=>?_⟩;obtain⟨A',g',R'⟩:=R.put gs q e2;exact h _ _ _ g' R'
def wb(n:Nat)(cap:Ql Nat)(N':Ql Str)(Zt:X.N.Nodup)(Zn:X.N[i]?=Qs y)(hy:Loc X.env.scope y)(hc:X.calm=Qt)(hi:PI X tg iter (dI X.K F fs)) (hg:∀C s₃ H₃ fp pins,PG (bw X N' scope C s₃ H₃ fp pins) tg g) (hk:∀F',cC X.K F' g kt) (ht:∀C s₃ H₃ fp pins F',V8 (bw X N' scope C s₃ H₃ fp pins) ifs (dT X.K F' ft)) (he:∀C s₃ H₃ fp pins F',PE (bw X N' scope C s₃ H₃ fp pins) elt (dE X.K F' fe)) (VW:swapsWith (.ListComp elt [⟨tg,iter,ifs,0⟩] scope pos) (Qs (.Name y py)) YR.line X.env=pure Qt:=by rfl) (hf:X.fn y=Qt\/X.env.scope.names.lookup y=Qs .local:=by first|exact .inl rfl|exact .inr rfl) (WN:scope.kind=.function:=by rfl) (Xh:kq scope.names X.env.kindOf=Qt:=by rfl) (hN:N'.length=n+cap.length:=by rfl) (VG:iO N' X.N n scope.names 0 cap=Qt:=by rfl) (hs:∀x,foldedSetIterable iter X.env x=pure x:=by intro _;rfl):PS X (.Assign [.Name y py] (.ListComp elt [⟨tg,iter,ifs,0⟩] scope pos) YR) (dS X.K F (aL i (ba n cap fs kt ft fe))):=NO (λh=>Ap hk h) hc hi hg ht he Zt Zn hy VW hf WN Xh hN VG hs
end
section
variable {X:Cx}{F:Ql XW}{a b c o:XY}{es:Ql XY}{fa:DE}{fs:Ql DE}{g g1 g2:DS}{ft:DT}{st:XZ}{tg:XY}
def j9:Ev->Ev->Qo Ev:=λr1 r2=>match r2.d with
 |.lst ds=>if aQ r1.d&&ds.all (λd=>aQ d&&bC 0 d r1.d) then Qs (.cl (.bl (!ds.any λd=>cg d r1.d))) else Qn
 |.tup ds=>if aQ r1.d&&ds.all (λd=>aQ d&&bC 0 d r1.d) then Qs (.cl (.bl (!ds.any λd=>cg d r1.d))) else Qn
 |_=>Qn
def B7:VC X F (compareOp .NotIn) j9:=by
 intro pins s σ H0 H A x y v u Q r1 r2 r I m g0 rx ry q1 q2 e hq;unfold j9 at e;have p1:=q1.full;have p2:=q2.full;split at e
 .rename_i ds z;rw[z]at p2;refine bJ e λc e=>?_;rw[O6]at c;cases e;cases p2 with
  |@lst _ p vs h1 h2=>
   obtain⟨a,b⟩:=oM p1 c.1 h2 c.2;exact BY _ s σ H x _ v u Q I rx ry ⟨p,vs,rfl,.inl h1,qK p1 c.1,a,by
    rw[b];exact hq _ H (TJ.refl H) (.bl _)⟩
 .rename_i ds z;rw[z]at p2;refine bJ e λc e=>?_;rw[O6]at c;cases e;cases p2 with
  |@tup _ p vs h1 h2=>
   obtain⟨a,b⟩:=oM p1 c.1 h2 c.2;exact BY _ s σ H x _ v u Q I rx ry ⟨p,vs,rfl,.inr h1,qK p1 c.1,a,by
    rw[b];exact hq _ H (TJ.refl H) (.bl _)⟩
 .cases e
def dR:Int->Ql Int->Int
 |m,[]=>m
 |m,n::r=>dR (if n<m then n else m) r
theorem xo:∀(r:Ql Int) (m:Int),dR m r∈m::r/\∀a∈m::r,dR m r<=a
 |[],m=>⟨by simp[dR],by simp[dR]⟩
 |n::r,m=>by
  obtain⟨h1,h2⟩:=xo r (if n<m then n else m);have h3:=h2 (if n<m then n else m) (OU ..);have k1:(if n<m then n else m)<=m:=by split<;>lia
  have k2:(if n<m then n else m)<=n:=by split<;>lia
  refine⟨?_,λa ha=>?_⟩
  .show dR _ r∈m::n::r;rcases OZ.mp h1 with z|z
   .rw[z];split<;>simp
   .simp[z]
  .show dR _ r<=a;rcases OZ.mp ha with z|z
   .lia
   .grind
def Lh(hj:j<ys.size):numAt ys j∈ys.toList.map (·.1):=by rw[numAt_eq];exact getD_mem (by simpa using hj)
def Oa(hc:X.calm=Qt):gq X (.builtin "min") (λxs H Q=>∃(p:XW) (ns:Ql Int) (M:Int),xs=[.ref p]/\Ux X.K H p (ns.map V.int)/\M∈ns/\(∀a∈ns,M<=a)/\Q (.int M) H):=by
 intro pins s σ H xs us Q I r h;obtain⟨p,ns,M,rfl,hs,hm,hle,q⟩:=h;obtain⟨u,rfl,ru⟩:=lU r;cases ru;obtain⟨T5,rv,pl,_⟩:=I.list hs;have hi:=xR rv;obtain⟨ys,e⟩:=hi.allInts.items;have WB:ys.toList.map (·.1)=ns:=by rw[<-nums_intItems];exact(by rw[<-e];exact hi.numsOf)
 have hsz:=by have:=SK hm;rw[<-WB]at this;simpa using this
 refine min_intList (I.ok.hd hc) (by rw[<-e];exact PlainL.Wa pl) hsz λv h' tk hv hk=>?_;obtain⟨t,rfl⟩:=intItems_at hv;obtain⟨h1,h2⟩:=argBest_lt (numAt ys) (ys.size-1);refine⟨.int M,H,I.kept hk,⟨t,?_⟩,q⟩;have a1:=hle _ (WB▸Lh (j:=argBest (λi j=>decide (numAt ys i<numAt ys j)) (ys.size-1)) (by lia));rw[<-WB]at hm;obtain⟨j,hj,ej⟩:=mem_getD hm;have Z3:=by simpa using hj
 have a2:=h2 j (by lia);rw[numAt_eq _ j]at a2;congr 1;lia
end
section
variable {X:Cx}{F:Ql XW}{a b c o:XY}{es:Ql XY}{fa:DE}{fs:Ql DE}{g g1 g2:DS}{ft:DT}{st:XZ}{tg:XY}
def mO(f:Int->Ql Int->Int):Ql Ev->Qo Ev:=λrs=>match rs with
 |[r]=>(match r.d with
  |.lst ds=>(match d6 ds with
   |some (n::ns)=>Qs (.cl (.int (f n ns)))
   |_=>Qn)
  |_=>Qn)
 |_=>Qn
def N5(h:∀n ns,gq X (.builtin id') (λxs H Q=>∃p:XW,xs=[.ref p]/\Ux X.K H p ((n::ns).map V.int)/\Q (.int (f n ns)) H)):VY X F (.builtin id') (mO f):=by
 intro pins s σ H0 H A xs us Q rs r I m g v q ek hq;unfold mO at ek;split at ek
 case h_2=>cases ek
 cases q with
 |@cons _ y _ ys q1 q2=>
  cases q2;split at ek
  case h_2=>cases ek
  rename_i ds z;split at ek
  case h_2=>cases ek
  rename_i n ns z2;cases ek;have p:=q1.full;rw[z,k7 z2]at p;cases p with
  |@lst _ l ws h1 h2=>rw[iz h2]at h1;exact h n _ _ s σ H _ _ Q I v ⟨l,rfl,h1,hq _ H (TJ.refl H) (.int _)⟩
def N2(hc:X.calm=Qt):VY X F (.builtin "min") (mO dR):=N5 λn ns pins s σ H xs us Q I v ⟨p,e,h1,q⟩=>Oa hc _ s σ H _ _ Q I v ⟨p,_,_,e,h1,(xo _ n).1,(xo _ n).2,q⟩
def Ol:bootBuiltins "list"=Qs (.type "list"):=by rfl
theorem z9:∀{xs:Ql V}{us:Ql Pl},xs.length=us.length->(∀(i:Nat) (x:V) (u:Pl),xs[i]?=Qs x->us[i]?=Qs u->RelV x u)->Vals xs us
 |[],[],_,_=>.nil
 |[],_::_,h,_=>by simp at h
 |_::_,[],h,_=>by simp at h
 |x::xs,u::us,h,k=>.cons (k 0 x u rfl rfl) (z9 (by simpa using h) λi y w e1 e2=>k (i+1) y w (e1) (e2))
def MC{lo k:Int}(h:ItemsOf (λi v=>∃t,v=.int (lo+i*k) t) acc n):Vals ((P0 n).map λi=>V.int (lo+(i:Nat)*k)) acc.toList:=by
 refine z9 (by simp[h.1]) λi x u e1 e2=>?_;obtain⟨t,rfl⟩:=h.2 i u (by simpa using e2);rw[Pr,QJ (by
  cases Nat.lt_or_ge i n with
  |inl z=>assumption
  |inr z=>simp_all)]at e1
 simp at e1;subst e1;exact⟨t,rfl⟩
def xl{σ:L2.St}{lo hi k:Int}(hc:X.calm=Qt)(I:L2.Inv X pins σ H s)(ok:md lo hi k=Qt)(sz:Builtin.Range.rangeSize lo hi k<=50000) (q:∀p,H p=Qn->Q (.ref p) (upd H p (.lst ((P0 (Builtin.Range.rangeSize lo hi k).toNat).map λi=>V.int (lo+(i:Nat)*k))))):wpAny (model X.prog X.w) X.A (call (.type "list") [.ref s.heap.objs.size]) (EP X pins σ Q) X.xe {s with heap:=s.heap.push {cls:=.type "range",data:=.fields #[.int lo t,.int hi u,.int k v]},toks:=tk}:=by
 simp only[md,O6,VH]at ok;have I1:L2.Inv X _ σ H {s with heap:=s.heap.push {cls:=.type "range",data:=.fields #[.int lo t,.int hi u,.int k v]},toks:=tk}:=I.kept λb o e=>OV _ e;have en:Builtin.Range.rangeSize lo hi k=(((Builtin.Range.rangeSize lo hi k).toNat:Nat)):=by lia
 refine call_list_range (I.ok.hd hc) (IsRange.new ..) ok.1 en (by lia) λh' tk' acc c' hk hS Zr=>?_;refine⟨.ref _,_,I1.laid (o:=HO.lst _) hk (O5 _) ⟨?_,_,c',MC Zr,hS⟩,rfl,q _ I1.fresh⟩;refine X4 ?_;rw[O0,RM];lia
noncomputable def qX:Ql D->Qo (Int×Int×Int)
 |[.int n]=>Qs (0,n,1)
 |[.int i,.int j]=>Qs (i,j,1)
 |[.int i,.int j,.int k]=>Qs (i,j,k)
 |_=>Qn
def jq(g:DA):DE:=λt=>(g t).bind λrs=>(qX (rs.map Ev.d)).bind λq=>if md q.1 q.2.1 q.2.2&&decide (Builtin.Range.rangeSize q.1 q.2.1 q.2.2<=50000) then Qs (.nw (qT q.1 q.2.1 q.2.2)) else Qn
def wG{p0 p1 p2:Pos}(hc:X.calm=Qt)(hgl:Gl X "list")(hml:X.mg "list"=Qn)(Yy:Gl X "range")(Z2:X.mg "range"=Qn)(ha:PA X (a::es) (dA X.K F ga)) (U6:Pc [.Call (.Name "range" p1) (a::es) [] p2] X.env=[(Qf,eval (.Call (.Name "range" p1) (a::es) [] p2) X.env)]:=by rfl) (zhJ:Pc (a::es) X.env=(Qf,eval a X.env)::Pc es X.env:=by rfl) (ZY:(Rc p2 (Pc es X.env)).any (·.1)=Qf:=by rfl):PE X (.Call (.Name "list" p0) [.Call (.Name "range" p1) (a::es) [] p2] [] pos) (dE X.K F (jq ga)):=by
 intro pins s σ H Q I h;obtain⟨A,t,r,R,e,h⟩:=h;unfold jq at e;rcases e1:ga t with _|rs
 .rw[e1]at e;cases e
 rw[e1]at e;simp only[OY]at e;rcases e2:qX _ with _|q
 .rw[e2]at e;cases e
 rw[e2]at e;simp only[OY]at e;replace e:=Vm e;obtain⟨ok,e⟩:=e;simp at ok;cases e;have mk:∀H1,TJ H _->∀p,H1 p=Qn->Q _ (upd H1 p (.lst ((P0 _).map _))):=λH1 g1 p hp=>by
  refine h _ _ (g1.trans (du hp)) ⟨p,_,rfl,TJ.free g1 hp,aM,?_⟩;have e3:qT q.1 q.2.1 q.2.2=((P0 (Builtin.Range.rangeSize q.1 q.2.1 q.2.2).toNat).map λi=>q.1+(i:Nat)*q.2.2).map D.int:=by simp[qT]
  have e4:((P0 (Builtin.Range.rangeSize q.1 q.2.1 q.2.2).toNat).map λi=>V.int (q.1+(i:Nat)*q.2.2))=((P0 (Builtin.Range.rangeSize q.1 q.2.1 q.2.2).toNat).map λi=>q.1+(i:Nat)*q.2.2).map V.int:=by simp
  rw[e3,e4];exact TZ.ints _
 refine wpAny_Call_Name_kw (hZ I hgl hml Ol (PyProof.Rows.callWith_type1 ?_ (rfl) rfl));rw[U6];show wpAny _ _ _ _ _ s;refine Calls.spliced_cons (Call_ (hZ I Yy Z2 boot_range (PyProof.Rows.callWith_type1 (aA (ha _ _ s σ H (λvs H1=>TJ H _/\Vj _ F A H _ _ _) I ⟨A,t,rs,R,e1,λvs H1 g1 q1=>⟨g1,q1⟩⟩) λus s1 ⟨vs,H1,I1,r1,g1,q1⟩=>?_) zhJ ZY)));have full:=q1.full;obtain⟨q0,qh,qk⟩:=q;unfold qX at e2;split at e2
 .rename_i n z;cases e2;rw[z]at full;have ev:=iz (ns:=[qh]) full;subst ev;obtain⟨u,rfl,ru⟩:=r1.one;obtain⟨t1,rfl⟩:=ru;exact call_range_1 (Calls.spliced_nil (xl hc I1 ok.1 ok.2 (mk _ g1)))
 .rename_i i j z;cases e2;rw[z]at full;have ev:=iz (ns:=[q0,qh]) full;subst ev;obtain⟨u,w,rfl,ru,Xs⟩:=r1.two;obtain⟨t1,rfl⟩:=ru;obtain⟨t2,rfl⟩:=Xs;exact call_range_2 (Calls.spliced_nil (xl hc I1 ok.1 ok.2 (mk _ g1)))
 .rename_i i j k z;cases e2;rw[z]at full;have ev:=iz (ns:=[q0,qh,qk]) full;subst ev;cases r1 with
  |cons r rr=>
   cases rr with
   |cons r' rr=>
    cases rr with
    |cons r'' rr=>cases rr;obtain⟨t1,rfl⟩:=r;obtain⟨t2,rfl⟩:=r';obtain⟨t3,rfl⟩:=r'';have ok':=ok.1;simp only[md,O6,VH]at ok';exact call_range_3 ok'.2.1 (Calls.spliced_nil (xl hc I1 ok.1 ok.2 (mk _ g1))) (.inl (PyProof.noPylong_of_log2 (PR (C7 (k:=20) (by lia)) (by decide))))
 .cases e2
end
section
variable {X:Cx}{F:Ql XW}{a b c o:XY}{es:Ql XY}{fa:DE}{fs:Ql DE}{g g1 g2:DS}{ft:DT}{st:XZ}{tg:XY}
def D7:FK X (vR X.K):=by
 intro pins s σ H o i ov iv Q I ro ri h;obtain⟨p,xs,k,z,rfl,rfl,hq,he,q⟩:=h;cases ro;obtain⟨t,rfl⟩:=ri;obtain⟨T5,r,pl,hz⟩:=I.list hq;obtain⟨j,h1,h2,h3,h4,h5⟩:=zl he;obtain⟨w,ew,Xs⟩:=r.get h2;have hl:=r.length;have hn:=mC;have fin:EP X _ σ Q w s:=⟨z,H,I,Xs,q⟩;cases Int.lt_or_le k 0 with
 |inr h0=>have hj:k.toNat=j:=Qp (by rw[<-seqIndex_of h0 h5];assumption);exact wpAny_getItem_list (PlainL.Wa pl) h0 (by lia) (by rw[hj];simpa using ew) fin
 |inl h0=>
  have hj:(k+T5.toArray.size).toNat=j:=by rw[Pg,<-hl];exact Qp (by rw[<-seqIndex_neg h0 h4];assumption)
  exact wpAny_getItem_list_neg (PlainL.Wa pl) h0 (by rw[Pg];lia) (by lia) (by rw[hj];simpa using ew) fin
end
def oU:Sl->Sl
 |.own xs=>.val (.lst xs)
 |.dp d=>.val d
 |s=>s
def lj(t:Th)(i:Nat):Th:=match t[i]? with
 |some s=>t.set i (oU s)
 |none=>t
def sU(s:Sl)(t:Th)(i:Nat):lj (s::t) (i+1)=s::lj t i:=by unfold lj;simp;cases t[i]?<;>simp
theorem Ul.give{K:OQ}:∀{t:Th}{σ:L2.St}{A:Ql XW} (i:Nat),Ul K H0 H t σ A->A.Nodup->∃(B A':Ql XW),A'.Sublist A/\(∀b∈B,b∈A/\b∉A')/\∀H1,TJ H0 H1->(∀b∈B,∀o,H b=Qs o->H1 b=Qs o)->Ul K H1 H (lj t i) σ A'
 |_,_,_,i,.nil,_=>⟨[],[],Pp _,λb hb=>(by cases hb),λH1 e _=>by simpa[lj] using Ul.nil⟩
 |_,_,A,0,.no r,n=>⟨[],A,Pp _,λb hb=>(by cases hb),λH1 e _=>.no (Ul.mono e r λ_ _ _ h=>h)⟩
 |_,_,A,0,.val h r,n=>⟨[],A,Pp _,λb hb=>(by cases hb),λH1 e _=>.val (Rep.mono e h) (Ul.mono e r λ_ _ _ h=>h)⟩
 |_,_,_,0,.own (p:=p) (A:=A) h1 h2 r,n=>by
  refine⟨[p],A,QT _ _,λb hb=>?_,λH1 e k=>?_⟩
  .simp_all
  .exact .val (.lst (Ux.of (k p (by simp) _ h1)) (TZ.mono e h2)) (Ul.mono e r λ_ _ _ h=>h)
 |_,_,_,0,.dp (B:=B) (A:=A) h r,n=>by refine⟨B,A,Q2 _ _,λb hb=>⟨OR _ hb,λz=>(O4.mp n).2.2 b hb b z rfl⟩,λH1 e k=>?_⟩;exact .val (h.rep e k) (Ul.mono e r λ_ _ _ h=>h)
 |_,_,_,i+1,.no r,n=>by obtain⟨B,A',a1,a2,a3⟩:=Ul.give i r n;refine⟨B,A',a1,a2,λH1 e k=>?_⟩;rw[sU];exact .no (a3 _ e k)
 |_,_,_,i+1,.val h r,n=>by obtain⟨B,A',a1,a2,a3⟩:=Ul.give i r n;refine⟨B,A',a1,a2,λH1 e k=>?_⟩;rw[sU];exact .val (Rep.mono e h) (a3 _ e k)
 |_,_,_,i+1,.own h1 h2 r,n=>by
  have n0:=O7.mp n;obtain⟨B,A',a1,a2,a3⟩:=Ul.give i r n0.2;refine⟨B,_,a1.cons₂ _,λb hb=>⟨OS _ (a2 b hb).1,λz=>?_⟩,λH1 e k=>?_⟩
  .simp_all
  .rw[sU];exact .own h1 (TZ.mono e h2) (a3 _ e k)
 |_,_,_,i+1,.dp h r,n=>by
  have n0:=O4.mp n;obtain⟨B,A',a1,a2,a3⟩:=Ul.give i r n0.2.1;refine⟨B,_,Qr (Pp _) a1,λb hb=>⟨OP _ (a2 b hb).1,λz=>?_⟩,λH1 e k=>?_⟩
  .grind
  .rw[sU];exact .dp (UC.mono e h λ_ _ _ w=>w) (a3 _ e k)
theorem RS.give{K:OQ}(R:RS K F H A t σ)(i:Nat):∃A',RS K F H A' (lj t i) σ/\Gr A H A' H:=by
 obtain⟨B,A',a1,a2,a3⟩:=R.rel.give i R.nd;have sub:∀x∈A',x∈A:=λx hx=>a1.subset hx;refine⟨A',⟨λq hq=>R.mu q ((OT.mp hq).elim (λz=>OR _ (sub q z)) λz=>OP _ z),R.nd.sublist a1,λp hp=>R.dj p (sub p hp),a3 _ (aS H λa z=>(OT.mp z).elim (λz=>OR _ (sub a z)) λz=>OP _ z) λb hb o h=>aU h λz=>?_⟩,⟨λ_ _ _ h=>h,λb hb=>?_,λb hb=>.inl (sub b hb)⟩⟩
 .rcases OT.mp z with w|w
  .exact(a2 b hb).2 w
  .exact R.dj b (a2 b hb).1 w
 .obtain⟨vs,q⟩:=R.mu b (OR _ hb);rw[q];simp
def eZ(i:Nat)(g:DS):DS:=λt=>g (lj t i)
def NL (h:dS K F (eZ i g) E σ H):dS K F g E σ H:=by obtain⟨A,t,o,R,e,p⟩:=jm h;obtain⟨A',R',gr⟩:=R.give i;exact jo R' e (p.back gr)
def kO{st:XZ}(i:Nat)(h:PS X st (dS X.K F g)):PS X st (dS X.K F (eZ i g)):=PS.imp h λ_ _ _ q=>NL q
section
variable {X:Cx}{F:Ql XW}{a b c o:XY}{es:Ql XY}{fa:DE}{fs:Ql DE}{g g1 g2:DS}{ft:DT}{st:XZ}{tg:XY}
def je(n:Int):Ql Int->Ql Int
 |[]=>[n]
 |m::r=>if n<=m then n::m::r else m::je n r
noncomputable def dD:Ql Int->Ql Int
 |[]=>[]
 |n::r=>je n (dD r)
theorem xV(n:Int):∀r:Ql Int,(je n r).Perm (n::r)
 |[]=>QU _
 |m::r=>by
  unfold je;split
  .rfl
  .exact(Sy m (xV n r)).trans (To n m r)
theorem iZ:∀r:Ql Int,(dD r).Perm r
 |[]=>QU _
 |n::r=>(xV n _).trans (Sy n (iZ r))
theorem DW(n:Int):∀r:Ql Int,r.Pairwise (·<=·)->(je n r).Pairwise (·<=·)
 |[],_=>by simp[je]
 |m::r,h=>by
  unfold je;have hc:=Pw.mp h;split
  .rename_i hle;refine Pw.mpr ⟨λx hx=>?_,h⟩;rcases OZ.mp hx with rfl|z
   .assumption
   .exact S6 hle (hc.1 x z)
  .refine Pw.mpr ⟨λx hx=>?_,DW n r hc.2⟩;rcases OZ.mp ((xV n r).mem_iff.mp hx) with rfl|z
   .lia
   .exact hc.1 x z
theorem nK:∀r:Ql Int,(dD r).Pairwise (·<=·)
 |[]=>List.Pairwise.nil
 |n::r=>DW n _ (nK r)
theorem uP:∀{xs ys:Ql Int},xs.Perm ys->xs.Pairwise (·<=·)->ys.Pairwise (·<=·)->xs=ys
 |[],ys,p,_,_=>(Ub p)
 |x::xs,[],p,_,_=>absurd p.length_eq (by simp)
 |x::xs,y::ys,p,h1,h2=>by
  have c1:=Pw.mp h1;have c2:=Pw.mp h2;have e:x=y:=by
   have l1:y<=x:=by rcases OZ.mp (p.mem_iff.mp (OU ..)) with z|z;lia;exact c2.1 x z
   have l2:x<=y:=by rcases OZ.mp (p.mem_iff.mpr (OU ..)) with z|z;lia;exact c1.1 y z
   lia
  subst e;rw[uP (Su p) c1.2 c2.2]
def N9:gq X (.builtin "sorted") (λxs H Q=>∃(p:XW) (ns:Ql Int),xs=[.ref p]/\Ux X.K H p (ns.map V.int)/\ns.length<64/\∀l,H l=Qn->Q (.ref l) (upd H l (.lst ((dD ns).map V.int)))):=by intro pins s σ H xs us Q I r h;obtain⟨p,ns,rfl,hs,h64,q⟩:=h;obtain⟨u,rfl,ru⟩:=lU r;cases ru;obtain⟨T5,rv,pl,_⟩:=I.list hs;have hi:=xR rv;have hl:=hi.length;refine sorted_ints (PlainL.Wa pl) hi (by lia) λout ns' hI hp ho=>?_;have e:=uP (hp.trans (iZ _).symm) ho (nK _);subst e;obtain⟨k,ek⟩:=sortedAll_at s.heap T5 out;have fr:s.heap.objs.size<=s.heap.objs.size+1:=SS _;refine⟨.ref _,_,I.laid (o:=HO.lst _) (λb o e=>sortedAll_old e) fr ⟨?_,_,k,qi hI,‹_›⟩,rfl,q _ (I.UB.fresh fr)⟩;refine X4 ?_;rw[O0,(iZ _).length_eq];lia
def gb:Ql Ev->Qo Ev:=λrs=>match rs with
 |[r]=>(match r.d with
  |.lst ds=>(d6 ds).bind λns=>if ns.length<64 then Qs (.nw ((dD ns).map D.int)) else Qn
  |_=>Qn)
 |_=>Qn
def o9:VY X F (.builtin "sorted") gb:=VY.of N9 λH0 H A xs rs e Q m g q ek hq=>by
 unfold gb at ek;split at ek
 case h_2=>cases ek
 cases q with
 |cons q1 q2=>
  cases q2;split at ek
  case h_2=>cases ek
  rename_i ds z;rcases e1:d6 _ with _|ns
  .rw[e1]at ek;cases ek
  rw[e1]at ek;simp only[OY]at ek;replace ek:=Vm ek;obtain⟨c,ek⟩:=ek;cases ek;have p:=q1.full;rw[z,k7 e1]at p;cases p with
  |lst h1 h2=>rw[iz h2]at h1;exact⟨_,ns,rfl,h1,c,λl hl=>hq _ _ (du hl) ⟨l,_,rfl,TJ.free g hl,aM,TZ.ints _⟩⟩
end
section
variable {X:Cx}{F:Ql XW}{a b c o:XY}{es:Ql XY}{fa:DE}
def jd:Ev->Qo Ev:=λr=>match r.d with
 |.lst ds=>if r.ok||UD ds then Qs (.nw ds.reverse) else Qn
 |_=>Qn
theorem TZ.rev{K:OQ}:∀{ds:Ql D}{vs:Ql V},TZ K H ds vs->TZ K H ds.reverse vs.reverse
 |_,_,.nil=>.nil
 |_,_,.cons h r=>by rw[RK,RK];exact(TZ.rev r).app (TZ.one h)
def BK(ha:PE X a (dE X.K F fa)):PE X (.Subscript a (.Slice Qn Qn (Qs (.UnaryOp .USub (.Constant (.int 1) j p3) p4)) p2) pos) (dE X.K F (d1 jd fa)):=by
 intro pins s σ H Q I h;obtain⟨A,t,r,R,e,h⟩:=h;unfold d1 at e;refine aq e λr1 e1 e=>?_;have e:jd r1=Qs r:=e;unfold jd at e;split at e
 case h_2=>cases e
 rename_i ds z;refine bJ e λok e=>?_;cases e;refine Subscript_ (aA (ha pins s σ H (λx H1=>TJ H H1/\UE X.K F A H H1 r1 x) I ⟨A,t,r1,R,e1,λx H1 gs q=>⟨gs,q⟩⟩) λv s1 ⟨x,H1,I1,rx,gs,q⟩=>?_);obtain⟨p,vs,rfl,h1,h2⟩:=q.items R.mu gs z ok;cases rx;refine wpAny_Slice ?_;rw[evalPart_none];refine O8 (O8 ?_);rw[evalPart_some];refine aA ((BL (F:=F) (aJ (i:=1))) pins s1 σ H1 (λy H2=>y=.int (-1)/\H2=H1\/(y=.int (-1)/\TJ H1 H2)) I1 ⟨A,t,.cl (.int (-1)),R.grow gs,rfl,λy H2 UT q2=>.inr ⟨bX q2.full,UT⟩⟩) λu s2 ⟨y,H2,I2,ry,qy⟩=>?_;have UT:TJ H1 H2:=by rcases qy with⟨_,e⟩|⟨_,e⟩;rw[e];exact TJ.refl _;assumption
 have ey:y=.int (-1):=by lia
 subst ey;obtain⟨tk,rfl⟩:=ry;obtain⟨T5,rv,pl,hz⟩:=I2.list (Ux.mono UT h1);have I3:L2.Inv X pins σ H2 {s2 with heap:=s2.heap.push {cls:=.type "slice",data:=.fields #[.none,.none,.int (-1) tk]}}:=I2.kept (t':=s2.toks) λb ob q=>OV _ q;have hl:=PlainL.Wa pl;show wpAny (model X.prog X.w) X.A (subscriptTail a (.Slice Qn Qn (Qs (.UnaryOp .USub (.Constant (.int 1) j p3) p4)) p2) (.ref p) (.ref s2.heap.objs.size)) (EP X pins σ Q) X.xe {s2 with heap:=s2.heap.push {cls:=.type "slice",data:=.fields #[.none,.none,.int (-1) tk]}};refine tail_any (ops:=[.ref p,.ref s2.heap.objs.size]) (hl.push _).typeIs slot_list_getitem.lookup (wpAny_getItem_list_slice (hl.push _) (Heap.IsSliceOf.new ..) .none .none (.int (-1) tk) (by simp) ?_ ?_) (by with_unfolding_all rfl)
 .have hn:=I3.fresh;refine⟨.ref _,_,?_,rfl,h _ _ ((gs.trans UT).trans (du hn)) ⟨_,_,rfl,TJ.free (gs.trans UT) hn,aM,TZ.mono (ie hn) (TZ.mono (ck UT) h2).rev⟩⟩;refine I3.laid (λb ob q=>OV _ q) (O5 _) ⟨by rw[Tp];assumption,_,0,rv.reverse,?_⟩;rw[PySem.W.krv_pick];exact Pb _ rfl
 .rw[Pg,<-rv.length];assumption
end
end DL
namespace L2
open PySem.W
def y9:Nat:=2^1048576
theorem zZ:∀{ns:Ql Int}{n:Int},n∈ns->WData.weight (.int n)<=WData.weightAll (ns.map WData.int)
 |m::r,n,h=>by
  rw[Pa];unfold WData.weightAll;rcases OZ.mp h with rfl|z
  .lia
  .have:=zZ z;lia
def Om{ns:Ql Int}(h:WData.layableAll [WData.list (ns.map WData.int)]=Qt):∀n∈ns,n.natAbs<y9:=λn hn=>by
 have h1:WData.layable (WData.list (ns.map WData.int))=Qt:=by simpa[WData.layableAll] using h
 have h2:WData.weight (WData.list (ns.map WData.int))<=2^20:=by
  unfold WData.layable at h1
  simp_all
 have h3:WData.weight (.int n)<=2^20:=by refine PJ (zZ hn) ?_;assumption
 by_cases z:n=0
 .subst z;exact Nat.pow_pos (by decide)
 .have h4:n.natAbs.log2+1<=2^20:=by
   have:WData.weight (.int n)=n.natAbs.log2+1:=by simp[WData.weight,z]
   rw[<-this];assumption
  exact(VP (by lia)).mp (by assumption)
end L2
namespace DL
open PySem.Spec L2
theorem Ul.zax{K:OQ}:∀{t:Th}{σ:L2.St}{A:Ql XW} (i:Nat),Ul K H0 H t σ A->A.Nodup->t[i]?=Qs (.own xs)->σ[i]?=Qs (Qs (.ref p))->∃A':Ql XW,A'.Sublist A/\p∉A'/\∀U3 H1,TJ H0 U3->(∀b∈A',∀o,H b=Qs o->H1 b=Qs o)->Ul K U3 H1 (t.set i .no) σ A'
 |_,_,_,i,.nil,_,e,_=>by simp at e
 |_,_,_,0,.no r,_,e,_=>by simp at e
 |_,_,_,0,.val h r,_,e,_=>by simp at e
 |_,_,_,0,.dp h r,_,e,_=>by simp at e
 |_,_,_,0,.own (p:=q) (A:=A) h1 h2 r,n,e,f=>by
  have:=by simpa using f
  subst this;exact⟨A,QT _ _,(O7.mp n).1,λU3 H1 s k=>.no (Ul.mono s r k)⟩
 |_,_,_,i+1,.no r,n,e,f=>by obtain⟨A',a1,a2,a3⟩:=Ul.zax i r n (e) (f);exact⟨A',a1,a2,λU3 H1 s k=>.no (a3 _ _ s k)⟩
 |_,_,_,i+1,.val h r,n,e,f=>by obtain⟨A',a1,a2,a3⟩:=Ul.zax i r n (e) (f);exact⟨A',a1,a2,λU3 H1 s k=>.val (Rep.mono s h) (a3 _ _ s k)⟩
 |_,_,_,i+1,.own (p:=q) h1 h2 r,n,e,f=>by
  have n0:=O7.mp n;obtain⟨_,_,b1,b2,_,_⟩:=r.WV (e);have f':=f;rw[Ra,b1]at f';cases f';obtain⟨A',a1,a2,a3⟩:=Ul.zax i r n0.2 (e) (f);refine⟨_,a1.cons₂ _,λz=>?_,λU3 H1 s k=>.own (k q (by simp) _ h1) (TZ.mono s h2) (a3 _ _ s λb hb=>k b (OS _ hb))⟩
  simp_all
 |_,_,_,i+1,.dp (B:=C) h r,n,e,f=>by
  have n0:=O4.mp n;obtain⟨_,_,b1,b2,_,_⟩:=r.WV (e);have f':=f;rw[Ra,b1]at f';cases f';obtain⟨A',a1,a2,a3⟩:=Ul.zax i r n0.2.1 (e) (f);refine⟨_,Qr (Pp _) a1,λz=>?_,λU3 H1 s k=>.dp (UC.mono s h λb hb=>k b (OR _ hb)) (a3 _ _ s λb hb=>k b (OP _ hb))⟩;rcases OT.mp z with w|w
  .exact n0.2.2 p w p b2 rfl
  .exact a2 w
def Ik (r:Rep K H d v)(s:aQ d=Qt):∀Hx,Rep K Hx d v:=λHx=>by
 cases r with
 |Uz=>exact .Uz
 |bl b=>exact .bl b
 |int i=>exact .int i
 |str x=>exact .str x
 |tup _ _=>cases s
 |lst _ _=>cases s
 |U1 _ _ _=>cases s
 |Vp _=>cases s
 |We _=>cases s
 |adr _=>cases s
 |UI _=>cases s
 |obj _ _ _=>cases s
def sV:D->V
 |.bl b=>.bl b
 |.int i=>.int i
 |.str x=>.str x
 |_=>.Uz
def xB:D->Qo bh
 |.int i=>Qs (Sum.inl i)
 |.str x=>Qs (Sum.inr x)
 |_=>Qn
def vP (r:Rep K H d v)(s:aQ d=Qt):v=sV d:=by
 cases r with
 |Uz=>rfl
 |bl b=>rfl
 |int i=>rfl
 |str x=>rfl
 |tup _ _=>cases s
 |lst _ _=>cases s
 |U1 _ _ _=>cases s
 |Vp _=>cases s
 |We _=>cases s
 |adr _=>cases s
 |UI _=>cases s
 |obj _ _ _=>cases s
def HL:∀{d:D},aQ d=Qt->Rep K H d (sV d)
 |.Uz,_=>.Uz
 |.bl b,_=>.bl b
 |.int i,_=>.int i
 |.str x,_=>.str x
 |.tup _,s=>by cases s
 |.lst _,s=>by cases s
 |.U1 _ _,s=>by cases s
 |.Vp _,s=>by cases s
 |.We _,s=>by cases s
 |.adr _,s=>by cases s
 |.UI _,s=>by cases s
 |.obj _ _ _,s=>by cases s
def HQ:∀{d:D},aQ d=Qt->flat d=Qt
 |.Uz,_=>rfl
 |.bl b,_=>rfl
 |.int i,_=>rfl
 |.str x,_=>rfl
 |.tup _,s=>by cases s
 |.lst _,s=>‹_›
 |.U1 _ _,s=>‹_›
 |.Vp _,s=>‹_›
 |.We _,s=>rfl
 |.adr _,s=>rfl
 |.UI _,s=>rfl
 |.obj _ _ _,s=>‹_›
theorem vM{K:OQ}:∀{ds:Ql D}{vs:Ql V},TZ K H ds vs->ds.all aQ=Qt->vs=ds.map sV
 |_,_,.nil,_=>rfl
 |_,_,.cons h r,s=>by simp only[QA,O6]at s;rw[vP h s.1,vM r s.2];rfl
theorem vO{K:OQ}:∀{ds:Ql D}{vs:Ql V}{B:Ql XW},Uq K H0 H ds vs B->ds.all aQ=Qt->vs=ds.map sV/\B=[]
 |_,_,_,.nil,_=>⟨rfl,rfl⟩
 |_,_,_,.cons h r,s=>by
  simp only[QA,O6]at s;obtain⟨a,b⟩:=vO r s.2;subst a b;cases h with
  |flat f q=>rw[vP q s.1];simp
  |tup _ _=>exact absurd s.1 (by simp[aQ])
  |lst _ _=>exact absurd s.1 (by simp[aQ])
  |U1 _ _ _=>exact absurd s.1 (by simp[aQ])
  |Vp _=>exact absurd s.1 (by simp[aQ])
  |obj _ _ _=>exact absurd s.1 (by simp[aQ])
theorem AI{K:OQ}:∀{ds:Ql D},ds.all aQ=Qt->Uq K H0 H ds (ds.map sV) []
 |[],_=>.nil
 |d::ds,s=>by simp only[QA,O6]at s;exact .cons (.flat (HQ s.1) (HL s.1)) (AI s.2)
def RS.zgv (R:RS K F H A t σ)(e:t[i]?=Qs (.dp (.U1 ks ds)))(sc:ds.all aQ=Qt):∃p,σ[i]?=Qs (Qs (.ref p))/\p∈A/\ks.length=ds.length/\H p=Qs (.dK (d5 ks (ds.map sV)))/\∀H1 Zl WD,TJ H H1->Zl.length=WD.length->WD.all aQ=Qt->∃A2,RS K F (L2.upd H1 p (.dK (d5 Zl (WD.map sV)))) A2 (t.set i (.dp (.U1 Zl WD))) σ/\Gr A H A2 (L2.upd H1 p (.dK (d5 Zl (WD.map sV)))):=by
 obtain⟨v,B,a1,a2,a3,a4,a5⟩:=R.rel.zbz R.nd e;cases a4 with
 |flat f _=>simp[flat]at f
 |@U1 _ _ p vs B' l h r=>
  obtain⟨rfl,rfl⟩:=vO r sc;have pA:=a2 p (by simp);refine⟨p,a1,pA,by simpa using l,h,λH1 Zl WD gs l2 sc2=>?_⟩;have hh:TJ (ag (A++F) H) (ag _ (L2.upd _ p (.dK (d5 Zl (WD.map sV))))):=λb o q=>by obtain⟨n,q⟩:=bN q;have nb:b≠p:=λz=>n (OR _ (z▸pA));exact aU (by rw[aC nb];exact gs _ _ q) n
  obtain⟨A2,d1,d3⟩:=a5 _ _ _ _ hh (.U1 (by simpa using l2) aM (AI sc2)) (Pp _) (λq hq nq o w=>by rw[aC (by simpa using nq)];exact gs _ _ w);have sub:∀x∈A2,x∈A:=λx hx=>d3.subset hx;have mu:US (L2.upd H1 p (.dK (d5 Zl (WD.map sV)))) _:=λq hq=>by
   by_cases z:q=p
   .exact⟨mD _,by rw[z];exact aM⟩
   .obtain⟨us,w⟩:=R.mu q hq;exact⟨us,by rw[aC z];exact gs _ _ w⟩
  refine⟨A2,⟨λq hq=>mu q ?_,R.nd.sublist d3,λq hq=>R.dj q (sub q hq),Ul.mono (aS _ λa z=>?_) d1 λ_ _ _ h=>h⟩,λb o n h=>?_,λb hb=>?_,λb hb=>.inl (sub b hb)⟩
  .exact(OT.mp hq).elim (λz=>OR _ (sub q z)) (λz=>OP _ z)
  .exact(OT.mp z).elim (λz=>OR _ (sub a z)) (λz=>OP _ z)
  .rw[aC (λz=>n (by lia))];exact gs _ _ h
  .obtain⟨us,w⟩:=mu b (OR _ hb);rw[w];simp
def k9(ks:Ql bh)(k:bh):Bool:=ks.any λk'=>decide (k'=k)
def g7(ks:Ql bh)(ds:Ql D)(k:bh)(d:D):Ql bh×Ql D:=if k9 ks k then(ks,Vq (λk' d'=>if k'=k then d else d') ks ds) else(ks++[k],ds++[d])
theorem D2(k:bh):∀{ks:Ql bh}{vs:Ql V},ks.length=vs.length->(gw (d5 ks vs) k).isSome=k9 ks k
 |[],[],_=>rfl
 |k'::ks,d::ds,h=>by
  have i:=D2 k (by simpa using h);unfold d5 k9 at i ⊢;simp;by_cases e:k'=k
  .rw[nF e,UN e];rfl
  .rw[nH e,VN e,i];rfl
 |[],_::_,h=>rfl
 |_::_,[],h=>by simp at h
section
variable {X:Cx}{F:Ql XW}{a b c o:XY}{es:Ql XY}{fa:DE}
def tE:DE:=λ_=>Qs (.dn (.U1 [] []))
def JT:PE X (.Dict [] [] pos) (dE X.K F tE):=by refine PE.imp J6 ?_;rintro σ H Q ⟨A,t,r,R,e,h⟩;cases e;intro p hp;refine h _ _ (du hp) ⟨[p],by simp,λb hb=>by simp_all,.U1 rfl aM .nil⟩
def Mq (r:Rep K H d v)(e:xB d=Qs k):v=kV k:=by cases r<;>cases e<;>rfl
def IK(k:bh)(d:D)(h:ks.length=ds.length):g8 (d5 ks (ds.map sV)) k (sV d)=d5 (g7 ks ds k d).1 ((g7 ks ds k d).2.map sV)/\(g7 ks ds k d).1.length=(g7 ks ds k d).2.length:=by
 have ha:(d5 ks (ds.map sV)).any (λkv=>decide (kv.1=k))=k9 ks k:=by rw[uz,D2 k (by simpa using h)]
 unfold g8 g7;rw[ha];by_cases hc:k9 ks k=Qt
 .rw[T4 hc,T4 hc];refine⟨?_,by simp;lia⟩;clear hc ha;unfold d5
  induction ks generalizing ds with
  |nil=>simp
  |cons k' ks ih=>
   cases ds with
   |nil=>simp at h
   |cons d' ds=>simp only[Pa,Qc,RG,(ih (ds:=ds) (by simpa using h))];lia
 .rw[Um hc,Um hc];refine⟨?_,by simp;assumption⟩;unfold d5;rw[Qg,List.zip_append (by simpa using h)];rfl
def IM(sd:aQ d=Qt):∀{ds:Ql D},ds.all aQ=Qt->(g7 ks ds k d).2.all aQ=Qt:=λ{ds} s=>by
 unfold g7;split
 .rename_i hc;clear hc
  induction ks generalizing ds with
  |nil=>simp
  |cons k' ks ih=>
   cases ds with
   |nil=>assumption
   |cons d' ds=>simp only[QA,O6]at s;simp only[RG,QA,O6];refine⟨?_,ih s.2⟩;lia
 .simp_all
def oF(t:Th)(i:Nat)(r k:Ev):Qo Out:=match t[i]?,xB k.d with
 |some (.dp (.U1 ks ds)),Qs kk=>if ds.all aQ&&aQ r.d&&decide (ks.length<100000) then Qs (.nx (t.set i (.dp (.U1 (g7 ks ds kk r.d).1 (g7 ks ds kk r.d).2)))) else Qn
 |_,_=>Qn
def o5(i:Nat)(fk fv:DE):DS:=λt=>(fv t).bind λr=>(fk t).bind λk=>oF t i r k
end
end DL
namespace PySem.SeqAt
open PySem.Spec
def FL(op:CmpOp)(A:QP)(s:Pf)(a b:Pl)(k:Bool):Prop:=∀(prog:Qz) (w:RZ) (E:Pl->Pf->Prop) (Q:Pl->Pf->Prop),Q (.bool k) s->wpAny (model prog w) A (richCompare op a b) Q E s
end PySem.SeqAt
namespace L2
open PySem.Spec
section
variable {X:Cx}{pins:Ql (XW×Obj)}{σ:L2.St}{s:Pf}{h':XX}
theorem Inv.tabs(I:Inv X pins σ H s){p:XW×Str}(hp:p∈X.base.tabs):H p.1=Qs (.Wi p.2):=I.base.WY _ _ (I.ok.tabs p hp)
def Inv.coded{t':Nat}{P c f:XW}{q:Str}{oc fo:Obj}(I:Inv X pins σ H s)(hP:H P=Qs (.Wi q))(hx:∀b o,b≠P->s.heap.get? b=Qs o->h'.get? b=Qs o)
  (hc:h'.get? c=Qs oc) (hf:h'.get? f=Qs fo) (nc:H c=Qn\/H c=Qs (.UW oc (.own 0))) (lc:H c=Qn->s.heap.objs.size<=c) (lf:s.heap.objs.size<=f) (hcf:c≠f)
  (new:VQ X.prog X.w (upd (upd H c (.UW oc (.own 0))) f (.UW fo (.own 0))) h' P (.Wi q)) :Inv X pins σ (upd (upd H c (.UW oc (.own 0))) f (.UW fo (.own 0))) { s with heap:=h',toks:=t' }:=by
 have hfn:H f=Qn:=I.UB.fresh lf;have sm:∀b u,H b=Qs u->upd (upd H c (.UW oc (.own 0))) f (.UW fo (.own 0)) b=Qs u:=λb u e=>by
  have nf:b≠f:=λz=>by rw[z,hfn]at e;cases e
  rw[aC nf];by_cases z:b=c
  .subst z;rcases nc with n | n
   .rw[n]at e;cases e
   .rw[n]at e;cases e;rw[aM]
  .rw[aC z];exact e
 have nP:∀b,H b=Qn->b≠P:=λb n z=>by rw[z,hP]at n;cases n
 have zgJ:∀b o,s.heap.get? b=Qs o->H b=Qn->upd (upd H c (.UW oc (.own 0))) f (.UW fo (.own 0)) b=Qn:=λb o e n=>by
  have nf:b≠f:=λz=>Q4 _ (O9 (Pd (z ▸ e)) lf);have ncb:b≠c:=λz=>by
   rcases nc with w | w
   .exact Q4 _ (O9 (Pd (z ▸ e)) (lc w))
   .rw[<-z,n]at w;cases w
  rw[aC nf,aC ncb];exact n
 have hPs:∃o',h'.get? P=Qs o':=by obtain⟨ps,e,_⟩:=new;exact⟨_,e⟩
 refine I.step (g':=s.gens) (d':=s.drawn) (ch:=[]) (λ_ z=>nomatch z) (λb o _ _ _ e n=>hx b o (nP b n) e) (λb o _ _ _ e n=>⟨o.slots,hx b o (nP b n) e⟩) (λb o _ e n=>zgJ b o e n)
  (λb o _ e=>?_) (λb xs e=>sm b _ e) (λb o u e=>sm b _ e) (λb q e=>sm b _ e) (λm hm=>?_) (λb u e=>?_) I.bare
 .by_cases z:b=P
  .subst z;exact hPs
  .exact⟨o,hx b o z e⟩
 .obtain⟨o,es,ep,ho,r⟩:=hm;exact⟨o,es,ep,hx _ o (nP _ I.free) ho,r⟩
 .by_cases zf:b=f
  .subst zf;rw[aM]at e;cases e;exact⟨hf,fo,hf⟩
  .by_cases zc:b=c
   .subst zc;rw[aC hcf,aM]at e;cases e;exact⟨hc,oc,hc⟩
   .rw[aC zf,aC zc]at e;by_cases zP:b=P
    .subst zP;rw[hP]at e;cases e;exact new
    .refine(I.UB b u e).XD (λc' v WC w=>hx c' v ?_ w) (λc' w=>sm c' _ w) (λc' xs w=>sm c' _ w) λc' o u' w=>sm c' _ w;rcases WC with w | w
     .rw[w];exact zP
     .exact λz=>by rw[z,hP]at w;cases w
end
abbrev xp(X:Cx)(qual:Str)(scope:U0)(L f:XW)(cd:Pl):Env:=PySem.W.envX qual scope L f cd (cz X.env.cells scope.names [])
abbrev mE(X:Cx)(N':Ql Str)(qual:Str)(scope:U0)(A':QP)(L f:XW)(cd:Pl)(s₃:Pf)(H₃:Hp):Cx:={X with N:=N',s₀:=s₃,H₀:=H₃,A:=A'.deeper (xp X qual scope L f cd),env:=xp X qual scope L f cd,outer:=X.stack,stack:=xp X qual scope L f cd::X.stack,ex:=[],fn:=(λ_=>Qf),calm:=Qt,pn:=[],xe:=(λ_ _=>False)}
section
variable {X:Cx}{pins:Ql (XW×Obj)}{σ:L2.St}{s:Pf}{scope:U0}{A':QP}{f:XW}{cd:Pl}
def Ma(I:Inv X pins σ H s)(S:V2 X scope)(S0:∀y∈scope.names,y.2≠.cell)(hA:A'.handled=Qn)(hfr:A'.frames=X.A.frames):(mE X N' qual scope A' s.heap.objs.size f cd s H).Ok where
 mod:=I.ok.mod
 kind:=S.kind
 glob:=rfl
 blt:=rfl
 above:=O5 _
 inj:=λx y c h1 h2=>I.ok.inj x y c (S.cells I.ok h1) (S.cells I.ok h2)
 has:=λx hx=>by
  have hx:scope.names.lookup x=Qs .cell\/scope.names.lookup x=Qs .free:=hx;rcases hx with hx|hx
  .exact absurd rfl (S0 _ (PySem.mem_of_lookup hx))
  .exact m6 (PySem.mem_of_lookup hx)
 ZA:=λx c h _=>by cases h
 hd:=λ_=>hA
 frames:=Around.frames_deeper (by rw[hfr];exact I.ok.frames)
 ZM:=.inr ⟨rfl,rfl⟩
 exf:=λb hb=>absurd (show b∈([]:Ql XW) from hb) (by simp)
 bs:=λb o e=>I.bs b o e
 XA:=PJ I.ok.XA I.sz
 Zi:=λb o e hb=>absurd (show b∈([]:Ql XW) from hb) (by simp)
 Z7:=λb hb=>absurd (show b∈([]:Ql XW) from hb) (by simp)
 Xa:=I.stack
 YE:=I.zbV
 tabs:=λp hp=>I.tabs hp
def Mc(I:Inv X pins σ H s)(S:V2 X scope)(S0:∀y∈scope.names,y.2≠.cell)(hA:A'.handled=Qn)(hfr:A'.frames=X.A.frames){h1:XX}{t1:Nat}{u0:Pl}{v0:V}{cs:L2.St} (WB:h1.Ns s.heap.objs.size (λx=>[(x0,u0)].reverse.lookup x)) (hk:∀b o,s.heap.get? b=Qs o->h1.get? b=Qs o) (r0:RelV v0 u0) (h0:N'[0]?=Qs x0) (Zm:scope.names.lookup x0=Qs .local) (hl:cs.length+1=N'.length) (cap:∀(i:Nat) (x:Str) (v:V),N'[i+1]?=Qs x->cs[i]?=Qs (Qs v)->(x,Qb)∈scope.names/\∃j:Nat,X.N[j]?=Qs x/\σ[j]?=Qs (Qs v)):Inv (mE X N' qual scope A' s.heap.objs.size f cd s H) [] (Qs v0::cs) H {s with heap:=h1,toks:=t1} where
 ok:=Ma I S S0 hA hfr
 os:=rfl
 bare:=I.bare
 base:=Un.kept hk
 loc:=⟨_,WB,λi x v e1 e2 vs=>by
  cases i with
  |zero=>rw[show(mE X N' qual scope A' s.heap.objs.size f cd s H).N=N' from rfl,h0]at e1;cases e1;cases e2;exact⟨u0,r0,.inl ⟨Zm,by simp⟩⟩
  |succ i=>
   obtain⟨Ya,j,j1,j2⟩:=cap i x v e1 e2;obtain⟨m0,hn0,Yx⟩:=I.loc;have vis:cJ X.env.scope x:=by
    rcases S.free _ Ya rfl with z|z
    .exact .inr (.inl z)
    .exact .inr (.inr z)
   obtain⟨u,r,l⟩:=Yx j x v j1 j2 vis;refine⟨u,r,?_⟩;rcases l with⟨k,_⟩|⟨k,c,e,z⟩
   .exfalso;rcases S.free _ Ya rfl with q|q
    .rw[k]at q;cases q
    .rw[k]at q;cases q
   .obtain⟨c',WC⟩:=m6 (cells:=X.env.cells) (acc:=[]) Ya;have e':=S.cells I.ok WC;rw[e]at e';cases e';refine .inr ⟨.inr (S.names _ Ya),c,WC,?_⟩;obtain⟨o,ho,hd⟩:=z;exact⟨o,hk _ _ ho,hd⟩⟩
 cell:=λx c h=>by obtain⟨v,o,ho,hd⟩:=I.cell x c (S.cells I.ok h);exact⟨v,o,hk _ _ ho,hd⟩
 free:=I.UB.fresh (O5 _)
 Xj:=λx c h=>I.Xj x c (S.cells I.ok h)
 pin:=λp hp=>absurd (show p∈([]:Ql (XW×Obj)) from hp) (by simp)
 UB:=I.UB.kept hk
 len:=by simpa using hl
def L9{Q:VK}{body:XY}{pm WW:Pl}{c:XW}{oc:Obj}{vsc:Array Pl}{tq:Tok}{u0:Pl}{v0:V}{cap:Ql Nat}{E:Pl->Pf->Prop} (I:Inv X pins σ H s) (S:V2 X scope) (S0:∀y∈scope.names,y.2≠.cell) (hA:A'.handled=Qn) (hfr:A'.frames=X.A.frames) (hdp:A'.depth<recursionLimit) (hf:H f=Qs (.UW (Rk "<lambda>" qual params body scope (cz X.env.cells scope.names []) pm c WW) (.own 0))) (hc:H c=Qs (.UW oc (.own 0))) (hod:oc.data=.fields vsc) (hq:vsc[1]?=Qs (.str qual tq)) (hco:scope.isCoroutine=Qf) (zcG:scope.isGenerator=Qf) (zaL:bindArgs (UK "<lambda>" qual params body scope (cz X.env.cells scope.names []) pm (.ref c) WW) ⟨[u0],[]⟩=pure [(x0,u0)]) (r0:RelV v0 u0) (h0:N'[0]?=Qs x0) (Zm:scope.names.lookup x0=Qs .local) (hl:N'.length=1+cap.length) (VG:∀(k:Nat) (j:Nat),cap[k]?=Qs j->∃x,N'[1+k]?=Qs x/\X.N[j]?=Qs x/\(x,Qb)∈scope.names) (he:∀L s₃ H₃,PE (mE X N' qual scope A' L f (.ref c) s₃ H₃) body te) (h:te (Qs v0::cap.map λj=>(σ[j]?).getD Qn) H Q):wpAny (model X.prog X.w) A' (call (.ref f) [u0]) (EP X pins σ Q) E s:=by
 obtain⟨gf,_⟩:=I.UB f _ hf;obtain⟨gc,_⟩:=I.UB c _ hc;refine wpAny_call (PySem.W.kla_callFunE hdp gf rfl hco zcG rfl ⟨c,oc,vsc,tq,rfl,gc,hod,hq⟩ ?_);rw[zaL];refine O8 (wpAny_newFunctionEnv S0 (λy hy=>?_) (λh₁ WB hsb=>⟨I.nolimit.fresh _ hsb,?_⟩) S.kind)
 .have:y=(x0,u0):=by simpa using hy
  rw[this];exact Zm
 .have hk:∀b o,s.heap.get? b=Qs o->h₁.get? b=Qs o:=λb o e=>hsb.extBut b o (Py (Pd e)) (OV _ e);have J:=Mc (N':=N') (qual:=qual) (f:=f) (cd:=.ref c) (t1:=s.toks+[(x0,u0)].length) (cs:=cap.map λj=>(σ[j]?).getD Qn) I S S0 hA hfr WB hk r0 h0 Zm (by simp[hl];lia) (λi x v e1 e2=>by
   rw[Pr]at e2;rcases ej:cap[i]? with _|j
   .rw[ej]at e2;cases e2
   rw[ej]at e2;obtain⟨x',a1,a2,a3⟩:=VG i j ej;rw[Nat.add_comm 1 i,e1]at a1;cases a1;refine⟨a3,j,a2,?_⟩;have e2:(σ[j]?).getD Qn=Qs v:=by simpa using e2
   cases q:σ[j]? with
   |none=>rw[q]at e2;cases e2
   |some z=>rw[q]at e2;have:z=Qs v:=e2;rw[this])
  refine PySem.W.kla_codeExpr (wpAny_mono (he _ _ _ [] _ _ H Q J h) (λv s' hs=>?_) λe s' hF=>False.elim hF);obtain⟨v',H',K,rv,q⟩:=hs;exact I.after ⟨v',H',K.os,K.bare,K.base,K.UB,rv,q⟩
def Mb{E:Pl->Pf->Prop}{Q:Pl->Pf->Prop}{body:XY}{c P:XW}{q:Str} (I:Inv X pins σ H s) (S:V2 X scope) (zbw:X.env.code=.ref c) (C:RV X.base c P) (hP:(P,q)∈X.base.tabs) (hq:X.env.qual++"<lambda>"=q) (zcK:defaultsOf params X.env=([],[])) (h:∀f c' oc vs tk pm WW s',Inv X pins σ (upd (upd H c' (.UW oc (.own 0))) f (.UW (Rk "<lambda>" q params body scope (cz X.env.cells scope.names []) pm c' WW) (.own 0))) s'-> (H c'=Qn\/H c'=Qs (.UW oc (.own 0)))->H f=Qn->c'≠f->oc.data=.fields vs->vs[1]?=Qs (.str q tk)->Q (.ref f) s'):wpAny (model X.prog X.w) X.A (eval (.Lambda params body scope pos) X.env) Q E s:=by
 have hPt:=I.tabs hP;obtain⟨ps,gP,tr,cod⟩:=I.UB P _ hPt;have Ck:=C.keeps I.bk;have WB:s.heap.Ns mainGlobals X.mg:=I.mod.glob.keeps I.bk;obtain⟨bm,ob,b1,b2,b3,b4,b5,b6⟩:=I.mod.bm;have hgP:mainGlobals≠P:=λz=>by obtain⟨o,es,ep,e,hd,_⟩:=WB;rw[z,gP]at e;cases e;cases hd
 have hbP:bm≠P:=λz=>by have e:=I.bk _ _ b3;rw[z,gP]at e;cases e;cases b4
 have hbG:bm≠mainGlobals:=λz=>by obtain⟨o,es,ep,e,hd,_⟩:=I.mod.glob;rw[z,e]at b3;cases b3;rw[hd]at b6;cases b6
 subst hq;refine PySem.W.kla_eval zcK ?_;cases hf:codeAmong pos ps.toList with
 |none=>
  refine PySem.W.kla_makeFunction (mg:=X.mg) (tW (S.frees I.ok)) I.ok.glob WB zbw Ck gP tr hf hgP ⟨bm,ob,b1,b2,hbG,hbP,I.bk _ _ b3,b4,b5,b6⟩ λc' WW h' tk hx W8 Xf zaF htb=>?_;obtain⟨c₂,oc,vs,t,e2,hoc,hd,hv⟩:=zaF;cases e2;have nc:H c'=Qn:=I.UB.fresh W8;have lf:s.heap.objs.size<=h'.objs.size:=Rm (PR W8 Xf);have nf:H h'.objs.size=Qn:=I.UB.fresh lf;refine h h'.objs.size c' oc vs t _ WW _ (I.coded hPt (λb o n e=>OV _ (hx b o n e)) (OV _ hoc) (Pb _ rfl) (.inl nc) (λ_=>W8) lf (Py Xf) ?_) (.inl nc) nf (Py Xf) hd hv;refine⟨_,OV _ htb,?_,λpos' cv e=>?_⟩
  .rw[Tq];exact TriplesOk_snoc _ _ _ _ tr
  .have key:∀l:Ql Pl,TriplesOk l->codeAmong pos' (l++[rawInt pos.line,rawInt pos.col,.ref c'])=Qs cv->codeAmong pos' l=Qs cv\/cv=.ref c':=by
    intro l
    fun_induction TriplesOk l
    .intro _ e;simp only[Rj,codeAmong,rawInt]at e;split at e
     .cases e;exact .inr rfl
     .cases e
    .rename_i a t b u x rest ih;intro hr e;simp only[Q3,codeAmong]at e ⊢;split at e
     .rename_i w;rw[T4 w];exact .inl e
     .rename_i w;rw[Um w];exact ih hr e
    .intro h;exact h.elim
   rw[Tq]at e;have sm:∀b u,H b=Qs u->upd (upd H c' (.UW oc (.own 0))) h'.objs.size (.UW (Rk "<lambda>" (X.env.qual++"<lambda>") params body scope (cz X.env.cells scope.names []) ((X.mg "__name__").getD .none) c' WW) (.own 0)) b=Qs u:=λb u e=>by rw[aC (λz=>by rw[z,nf]at e;cases e),aC (λz=>by rw[z,nc]at e;cases e)];exact e
   rcases key _ tr e with w|w
   .obtain⟨c3,oc3,vs3,t3,a1,a2,a3⟩:=cod pos' cv w;exact⟨c3,oc3,vs3,t3,a1,sm _ _ a2,a3⟩
   .exact⟨c',oc,vs,t,w,by rw[aC (Py Xf),aM],hd,hv⟩
 |some cv=>
  obtain⟨c',oc,vs,t,rfl,Zq,hd,hv⟩:=cod pos cv hf;refine PySem.W.kla_makeFunctionHit (mg:=X.mg) (tW (S.frees I.ok)) I.ok.glob WB zbw Ck gP tr hf ⟨bm,ob,b1,b2,hbG,hbP,I.bk _ _ b3,b4,b5,b6⟩ λWW h' tk hk hsz=>?_;have lf:s.heap.objs.size<=h'.objs.size:=hsz;have nf:H h'.objs.size=Qn:=I.UB.fresh lf;obtain⟨gc,_⟩:=I.UB c' _ Zq;have ne:c'≠h'.objs.size:=λz=>by rw[z,nf]at Zq;cases Zq
  have sm:∀b u,H b=Qs u->upd (upd H c' (.UW oc (.own 0))) h'.objs.size (.UW (Rk "<lambda>" (X.env.qual++"<lambda>") params body scope (cz X.env.cells scope.names []) ((X.mg "__name__").getD .none) c' WW) (.own 0)) b=Qs u:=λb u e=>by
   rw[aC (λz=>by rw[z,nf]at e;cases e)];by_cases z:b=c'
   .subst z;rw[Zq]at e;cases e;rw[aM]
   .rw[aC z];exact e
  refine h h'.objs.size c' oc vs t _ WW _ (I.coded hPt (λb o n e=>OV _ (hk b o e)) (OV _ (hk _ _ gc)) (Pb _ rfl) (.inr Zq) (λn=>by rw[Zq]at n;cases n) lf ne ?_) (.inr Zq) nf ne hd hv;refine⟨ps,OV _ (hk _ _ gP),tr,λpos' cv e=>?_⟩;obtain⟨c3,oc3,vs3,t3,a1,a2,a3⟩:=cod pos' cv e;exact⟨c3,oc3,vs3,t3,a1,sm _ _ a2,a3⟩
end
end L2
namespace DL
open PySem.Spec L2
def Fe(mx:Bool)(i j:Int):Bool:=if mx then decide (i>j) else decide (i<j)
def Dc(mx:Bool):Ql Int->Ql Int->Bool
 |i::r,j::q=>if decide (i=j) then Dc mx r q else Fe mx i j
 |_,_=>Qf
def Ff(mx:Bool):D->D->Qo Bool
 |.int i,.int j=>Qs (Fe mx i j)
 |.tup xs,.tup ys=>(d6 xs).bind λis=>(d6 ys).bind λjs=>if is.length=js.length then Qs (Dc mx is js) else Qn
 |_,_=>Qn
def pD(K:OQ)(mx:Bool):V->V->Hp->Bool->Prop:=λy z H c=>∃d e,Rep K H d y/\Rep K H e z/\Ff mx d e=Qs c
def FC(mx:Bool)(fb:DE)(cs:Ql D):D->D->Ql D->Qo D
 |b,_,[]=>Qs b
 |b,k,d::ds=>(fb (.val d::cs.map Sl.val)).bind λr=>if flat r.d then(Ff mx r.d k).bind λc=>if c then FC mx fb cs d r.d ds else FC mx fb cs b k ds else Qn
end DL
namespace L2
open PySem.Spec PySem.W
def si(x:Str):Str:=x++".<locals>."++"<lambda>"
theorem CO{β:Type}:∀{l:Ql (Nat×β)}{a:Nat}{o:β},l.lookup a=Qs o->(a,o)∈l
 |[],_,_,e=>by cases e
 |(b,x)::r,a,o,e=>by
  rw[P6]at e;cases hb:a==b with
  |true=>simp_all
  |false=>rw[hb]at e;exact .tail _ (CO e)
def cE(K:Frag)(names:Ql Str):Ql (XW×Str):=names.filterMap λx=>(tabIn K x).map λq=>(q.2,si x)
def LB{K:Frag}(hx:x∈names)(h:tabIn K x=Qs (c,P)):(P,si x)∈cE K names:=RB.mpr ⟨x,hx,by rw[h];rfl⟩
def K7{K:Frag}(h:p∈cE K names):∃x∈names,∃c,tabIn K x=Qs (c,p.1):=by
 obtain⟨x,hx,e⟩:=RB.mp h;cases q:tabIn K x with
 |none=>rw[q]at e;cases e
 |some r=>rw[q]at e;cases e;exact⟨x,hx,r.1,q⟩
def pJ(K:Frag)(names:Ql Str):Prop:=∀p∈cE K names,(cE K names).lookup p.1=Qs p.2/\K.lookup p.1=Qn
def GN{K:Frag}(h:tabIn K x=Qs (c,P))(n:K.lookup P=Qn):pJ K [x]:=λp hp=>by
 have e:cE K [x]=[(P,si x)]:=by simp[cE,h]
 rw[e]at hp ⊢;rw[O1.mp hp];exact⟨by simp,n⟩
def L5{K:Frag} (KX:K.In s₁.heap) (WB:s₁.heap.Ns mainGlobals mg) (hb:s₁.heap.Ns builtinsNs mb) (hbb:∀x:Str,x≠"__name__"->mb x=bootBuiltins x) (zh6:s₁.heap.NoLimit) (hbm:∃(bm:XW) (ob:Obj),mg "__builtins__"=Qs (.ref bm)/\bm≠builtinsNs/\s₁.heap.get? bm=Qs ob/\ob.cls=.type "module"/\ob.dict=Qs builtinsNs/\ob.data=.plain) (hg:s₁.gens=#[]) (ha:s₁.heap.get? a=Qs {cls:=.type "list",data:=.seq vs.toArray}) (hi:IntsAre vs ns) (hl:ns.length<=PD) (hr:UU k callerA) (hT:∀x∈names,∀c P,tabIn K x=Qs (c,P)->CodeHd s₁.heap c P/\s₁.heap.get? P=Qs (tabObj #[])) (hn:pJ K names) (F:∀base:Wh,base.tabs=cE K names->K.In base->base.Ns mainGlobals mg->(∀x∈names,∀c P,tabIn K x=Qs (c,P)->CodeHd base c P)->Vn P w K mg base CX k fa fd [x] sp) (zaL:∀(s:Pf) (u:Pl),BindsTo s fd ⟨[u],[]⟩ [(x,u)]) (X7:∀H:Hp,Ux K H a (ns.map V.int)->sp [.ref a] H (λv _=>v=.bl Qt) λ_ _ _=>False) (hCX:∀H e s',CX [] H s₁ (λ_ _ _=>False) e s'->False):codeAny (model P w) callerA (.call (.ref fa) ⟨[.ref a],[]⟩) (λr s'=>r=.ok (.ret (.bool Qt))/\OldK s₁.heap s'.heap/\s'.os=s₁.os/\AllBare s'.gens) s₁:=by
 have rv:=qi hi;have zhi:=hi.length;have zbS:∀p∈cE K names,∃c,CodeHd s₁.heap c p.1/\s₁.heap.get? p.1=Qs (tabObj #[]):=λp hp=>by obtain⟨y,hy,c,e⟩:=K7 hp;exact⟨c,hT y hy c _ e⟩
 have core:∀H:Hp,Ux K H a (ns.map V.int)->Vx P w H s₁.heap->(∀p∈cE K names,H p.1=Qs (.Wi p.2))-> (∀b o,H b=Qs o->(b=a/\K.lookup a=Qn/\∃ob xs,o=.UW ob (.lst xs))\/∃q,o=.Wi q/\(b,q)∈cE K names)->codeAny (model P w) callerA (.call (.ref fa) ⟨[.ref a],[]⟩) (λr s'=>r=.ok (.ret (.bool Qt))/\OldK s₁.heap s'.heap/\s'.os=s₁.os/\AllBare s'.gens) s₁:=by
  intro H hS UB hTB hH;have free:∀{b:XW}{o:Obj},s₁.heap.get? b=Qs o->(o.cls=.type "list"->False)->o≠tabObj #[]->H b=Qn:=λ{b o} e n1 n2=>by
   cases q:H b with
   |none=>rfl
   |some u=>
    grind
  have nsK:∀{b:XW}{m:Str->Qo Pl},s₁.heap.Ns b m->(iI s₁.heap H).Ns b m:=λ{b m} ⟨o,es,ep,e,d,r⟩=>⟨o,es,ep,sL e (by
   cases q:H b with
   |none=>rfl
   |some u=>
    grind),d,r⟩
  have hKb:K.In (iI s₁.heap H):=λb o e=>sL (KX b o e) (by
   cases q:H b with
   |none=>rfl
   |some u=>
    rcases hH b u q with⟨rfl,n,_⟩|⟨qq,rfl,hm⟩
    .lia
    .rw[((hn _ hm).2)]at e;cases e)
  have hM:Mod K mg ⟨iI s₁.heap H,cE K names⟩:=⟨hKb,nsK WB,⟨mb,nsK hb,hbb⟩,let ⟨mc,h1,h2⟩:=zh6;⟨mc,nsK h1,h2⟩,by
   obtain⟨bm,ob,b1,b2,b3,b4,b5,b6⟩:=hbm;exact⟨bm,ob,b1,b2,sL b3 (free b3 (λz=>by lia) λz=>by lia),b4,b5,b6⟩⟩
  have hCd:∀x∈names,∀c P,tabIn K x=Qs (c,P)->CodeHd (iI s₁.heap H) c P:=λx hx c P e=>by obtain⟨⟨o,vs,file,tf,flags,tg,inF,text,tt,e1,r1,r⟩,_⟩:=hT x hx c P e;exact⟨o,vs,file,tf,_,tg,inF,text,tt,sL e1 (free e1 (λz=>by lia) λz=>by lia),r1,r⟩
  have e0:ZH P w K mg ⟨iI s₁.heap H,cE K names⟩ callerA [] s₁ H:=⟨rfl,hM,λb o e=>K9 e,T7 (MX _ _),trivial,λb hb=>absurd (show b∈([]:Ql XW) from hb) (by simp),UB,.of_eq hg,hTB⟩;refine codeAny_mono ((F ⟨iI s₁.heap H,cE K names⟩ rfl hKb (nsK WB) hCd).run callerA [] s₁ H ⟨[.ref a],[]⟩ [.ref a] [.ref a] _ _ hr e0 (zaL s₁ (.ref a)) (.cons rfl .nil) (X7 H hS)) λr s' h=>?_;cases r with
  |error e=>exact(hCX H e _ h).elim
  |ok fl=>
   cases fl with
   |next=>exact False.elim h
   |brk=>exact False.elim h
   |cont=>exact False.elim h
   |ret u=>
    obtain⟨v,H',os,bare,un,zcy,r',q⟩:=h;have q':=q;subst q';obtain rfl:u=Wn Qt:=r';have kp:∀b o,s₁.heap.get? b=Qs o->s'.heap.get? b=Qs o\/∃qq,H b=Qs (.Wi qq):=λb o e=>by
     cases q:H b with
     |none=>exact .inl (un.keep b o e q (by intro z;exact absurd (show b∈([]) from z) (by simp)) (by simp))
     |some u=>
      rcases hH b u q with⟨rfl,_,ob,xs,rfl⟩|⟨qq,rfl,hm⟩
      .obtain⟨e1,_⟩:=UB b _ q;obtain⟨e2,_⟩:=zcy b _ (un.Yd b _ _ q);lia
      .simp
    refine⟨rfl,⟨λb o e=>?_,λb o e=>?_⟩,os,bare⟩
    .rcases kp b o e with z|⟨qq,z⟩
     .exact .inl z
     .rcases hH b _ z with⟨_,_,ob,xs,z2⟩|⟨q2,z2,hm⟩
      .cases z2
      .obtain⟨c,C,e2⟩:=zbS _ hm;rw[e]at e2;cases e2;obtain⟨ps,e3,_⟩:=zcy b _ (un.WY b _ z);exact .inr (.inl ⟨(C.tab e).isCodeTable,rfl,#[],ps,rfl,by simpa using e3⟩)
    .rcases kp b o e with z|⟨qq,z⟩
     .exact⟨o,z⟩
     .obtain⟨ps,e3,_⟩:=zcy b _ (un.WY b _ z);exact⟨_,e3⟩
 have zds:∀(H:Hp) (p:XW×Str),p∈cE K names->VQ P w H s₁.heap p.1 (.Wi p.2):=λH p hp=>by obtain⟨c,_,e⟩:=zbS p hp;exact⟨#[],e,trivial,λpos cv z=>by cases z⟩
 have lk:∀b q,(cE K names).lookup b=Qs q->(b,q)∈cE K names:=λb q e=>CO e;have aT:∀q,(a,q)∈cE K names->False:=λq hm=>by obtain⟨c,_,e⟩:=zbS _ hm;have e:s₁.heap.get? a=Qs (tabObj #[]):=e;rw[ha]at e;cases e
 cases hk:K.lookup a with
 |some o=>
  have e:=KX a o hk;rw[ha]at e;cases e;refine core (λb=>((cE K names).lookup b).map HO.Wi) (.inr ⟨_,vs.toArray,_,hk,rfl,rfl,rfl,by rw[Pg,zhi];exact hl,by simpa using rv⟩) (λb u z=>?_) (λp hp=>by simp only[(hn p hp).1,QO]) λb u z=>?_
  .cases q:(cE K names).lookup b with
   |none=>simp only[q]at z;cases z
   |some qq=>simp only[q]at z;cases z;exact zds _ _ (lk b qq q)
  .cases q:(cE K names).lookup b with
   |none=>simp only[q]at z;cases z
   |some qq=>simp only[q]at z;cases z;exact .inr ⟨qq,rfl,lk b qq q⟩
 |none=>
  refine core (λb=>if b=a then Qs (.UW {cls:=.type "list",data:=.seq vs.toArray} (.lst (ns.map V.int))) else((cE K names).lookup b).map HO.Wi) (.inl (.inr ⟨{cls:=.type "list",data:=.seq vs.toArray},T4 rfl⟩)) (λb u z=>?_) (λp hp=>?_) λb u z=>?_
  .by_cases hb:b=a
   .have z':=(T4 hb).symm.trans z;cases z';subst hb;exact⟨ha,by rw[O0];exact hl,vs,_,rv,ha⟩
   .have z':=(Um hb).symm.trans z;cases q:(cE K names).lookup b with
    |none=>simp only[q]at z';cases z'
    |some qq=>simp only[q]at z';cases z';exact zds _ _ (lk b qq q)
  .have:p.1≠a:=λe=>aT p.2 (by rw[<-e];exact hp);simp only[this,if_false,(hn p hp).1,QO]
  .by_cases hb:b=a
   .have z':=(T4 hb).symm.trans z;cases z';exact .inl ⟨hb,hk,_,_,rfl⟩
   .have z':=(Um hb).symm.trans z;cases q:(cE K names).lookup b with
    |none=>simp only[q]at z';cases z'
    |some qq=>simp only[q]at z';cases z';exact .inr ⟨qq,rfl,lk b qq q⟩
open PySem.W
def zfM{l:Uo}{K:Params->OQ}{CX:RZ->lR}{sp:RZ->Sp} (hn:l.most=Qs n) (Z1:n<=PD) (hdf:d.params.defaults=[]) (hr:UU k callerA) (hY:∀(w:RZ) (h:XX),YP w h->(K w.params).In h) (zaF:∀x∈names,∃dr,(recsOf q).find? (λe=>e.name==x)=Qs dr) (F:∀(w:RZ) (mg:Str->Qo Pl) (fa:XW) (h:XX),(K w.params).In h->h.Ns mainGlobals mg->mg d.name=Qs (.ref fa)->pJ (K w.params) names/\∃fd:Ru,(∀(s:Pf) (u:Pl),BindsTo s fd ⟨[u],[]⟩ [(x,u)])/\∀base:Wh,base.tabs=cE (K w.params) names->(K w.params).In base->base.Ns mainGlobals mg->(∀x∈names,∀c P,tabIn (K w.params) x=Qs (c,P)->CodeHd base c P)->Vn l.prog w (K w.params) mg base (CX w) k fa fd [x] (sp w)) (X7:∀(w:RZ) (H:Hp) (a:XW) (ns:Ql Int),ns.length<=n->(∀i∈ns,i.natAbs<y9)->Ux (K w.params) H a (ns.map V.int)->sp w [.ref a] H (λv _=>v=.bl Qt) λ_ _ _=>False) (hCX:∀(w:RZ) (H:Hp) (s:Pf) (e:Pl) (s':Pf),CX w [] H s (λ_ _ _=>False) e s'->False):U4 q loose XP YP l.row.toRowW d [] (λf vs=>PySem.call f vs):=by
 intro w s₀ s₁ mg mb G Y fa o pm cd doc dV kV ho hd UY hD hmg hg args vals as zbs zh8 hrd ZW hlo;obtain⟨a,vs,ns,rfl,rfl,zhU,hints,hlen⟩:=Att.zga hn zbs ZW;have KX:=hY w _ Y;obtain⟨UB,fd,hbd,hF⟩:=F w _ _ _ KX G.T.g hmg;refine enter_call (codeAny_mono (L5 KX G.T.g G.T.b G.T.builtins G.T.nolimit G.T.bmain hg zhU hints (PJ hlen Z1) hr (λx hx c P e=>by
  obtain⟨dr,h⟩:=zaF x hx;exact tab_of G.T KX h e) UB hF hbd (λH hS=>X7 w H a _ hlen (Om zh8) hS) λH e s'=>hCX w H _ e _) λr s' hq=>?_)
 obtain⟨rfl,h2,h3,h4⟩:=hq;exact⟨.inl ⟨_,_,[],rfl,λ_=>rfl,.bool _,Att.zgt l _,λ_=>⟨List.Pairwise.nil,λ_ hm=>(nomatch hm)⟩⟩,h2,h3,h4⟩
end L2
namespace DL
open PySem.Spec L2
def _root_.L2.UU.dep(r:UU k A):A.depth<recursionLimit:=by have:=r.dp;lia
section
variable {X:Cx}{F:Ql XW}{a body:XY}{fa:DE}{scope:U0}
def Dk(names:Ql (Str×QX)):Bool:=names.all λy=>y.2 !=.cell
def Md(h:Dk names=Qt):∀y∈names,y.2≠.cell:=λy hy=>by have:=P5.mp h y hy;simpa using this
end
def _root_.L2.UX.okC{st:XZ}(F:L2.UX K x qual st f fd)(S:U9 N ps (aK st))(len:∀vs H Q E,sp vs H Q E->vs.length=ps.length) (WO:∀(A:QP) (outer:Ql Env) (s:Pf) (H:Hp) (vs:Ql V) (Q:VK) (E:XK),UU k (A.deeper (envOfC qual (aK st) s.heap.objs.size f fd.code))->sp vs H Q E->∃t,UL (fR bT P w K mg base N qual (aK st) f fd.code A outer s H E).W4 (cZ st) t/\t {nx:=λ_ H'=>Q .Uz H',rt:=Q} (start N vs) H):Vn P w K mg base bT (k+1) f fd ps sp:=by obtain⟨oc,od,kV,doc,pm,an,UG,ct,X2,rfl,lk,UY⟩:=F.ex;refine EB lk UY S len λA outer s H vs Q E hr X7=>?_;obtain⟨t,h,q⟩:=WO A outer s H _ Q E hr X7;exact⟨t,h.W4,q⟩
def Na{st:XZ}(Fn:L2.UX K x qual st f fd)(S:U9 N ps (aK st)) (hlen:∀ds r,G ds=Qs r->ds.length=ps.length) (g:DS) (hG:∀ds r,G ds=Qs r->∃o,g (jK N ds)=Qs o/\gG o=Qs r) (WO:∀(A:QP) (outer:Ql Env) (s:Pf) (H:Hp) (E:XK) (F:Ql XW),UU k (A.deeper (envOfC qual (aK st) s.heap.objs.size f fd.code))->UL (fR bT P w K mg base N qual (aK st) f fd.code A outer s H E).W4 (cZ st) (dS K F g)):Vn P w K mg base bT (k+1) f fd ps (Xr K G):=by
 refine Fn.okC S (λvs H Q E h=>?_) (λA outer s H vs Q E hr h=>?_)
 .obtain⟨Fo,ds,r,_,hr,hg,_⟩:=h;rw[hr.length];exact hlen _ r hg
 .obtain⟨Fo,ds,r,hl,Yu,hg,cont⟩:=h;obtain⟨o,ho,Yv⟩:=hG ds r hg;refine⟨_,WO A outer s H E Fo hr,jo (A:=[]) (t:=jK N ds) ⟨hl,PN,λp hp=>(by cases hp),?_⟩ ho ?_⟩
  .unfold jK L2.start;rw[Yu.length];exact Ul.start (Ul.zat _) Yu
  .have sm:∀{A' H'},Gr [] H A' _->TJ H H':=λg b o q=>g.kp b o (by simp) q;cases o with
   |nx t'=>cases Yv;exact λσ' H' A' g' R'=>cont _ _ (sm g') .Uz
   |bk t'=>cases Yv
   |ct t'=>cases Yv
   |rt r'=>
    cases Yv;intro v H' A' g' q;refine cont v _ (sm g') ?_;cases r with
    |cl d=>assumption
    |tm d=>assumption
    |nw xs=>
     obtain⟨p,Vs,rfl,h1,h2,h3,h4⟩:=q;rcases h1 with h1|h1
     .cases h1
     .exact⟨p,Vs,rfl,h1,h3,h4⟩
    |dn d=>obtain⟨B,h1,h2,h3⟩:=q;exact⟨B,h1,λb hb=>by simp_all,h3⟩
def NV (h:RH K x=Qs (c,P))(ha:Qu K mainGlobals x=Qs (Qs (.ref f)))(hl:K.lookup f=Qs ⟨oc,od,.func fd,sl⟩):fd.code=.ref c:=by
 unfold RH at h;rw[ha]at h;simp only[hl]at h;split at h
 .rename_i c' hc;split at h
  .split at h
   .lia
   .cases h
  .cases h
 .cases h
def RS.zgr (R:RS K (B++F) H A t σ)(nb:B.Nodup)(dj:∀b∈B,b∉F)(r:UC K (ag (A++(B++F)) H) H d v B)(hi:i<t.length):∃A',(∀x∈A',x∈B\/x∈A)/\RS K F H A' (t.set i (.dp d)) (σ.set i (Qs v)):=by
 have lb:=r.lists;obtain⟨A2,r2,YQ,nd2⟩:=Ul.ZO (s:=.dp d) (v:=v) (B:=B) (λq=>.dp r q) i R.rel hi;refine⟨A2,YQ,⟨λp hp=>?_,nd2 R.nd nb (λb hb z=>R.dj b z (OR _ hb)),λp hp=>?_,Ul.mono (aS H λx hx=>?_) r2 λ_ _ _ w=>w⟩⟩
 .rcases OT.mp hp with z|z
  .rcases YQ p z with w|w
   .exact lb p w
   .exact R.mu p (OR _ w)
  .exact R.mu p (OP _ (OP _ z))
 .rcases YQ p hp with w|w
  .exact dj p w
  .exact λz=>R.dj p w (OP _ z)
 .grind
def RS.less (R:RS K F H A t σ)(h:∀b∈F',b∈F):RS K F' H A t σ:=⟨λp hp=>R.mu p ((OT.mp hp).elim (OR _) λz=>OP _ (h p z)),R.nd,λp hp z=>R.dj p hp (h p z),Ul.mono (aS H λx hx=>(OT.mp hx).elim (OR _) λz=>OP _ (h x z)) R.rel λ_ _ _ w=>w⟩
inductive LDp(K:OQ)(H0 H:Hp)(t:Th)(σ:L2.St)(A:List XW)(i:Nat)(d:D):Prop
 |mk (v B A':_) (_:σ[i]?=Qs (Qs v)) (_:UC K H0 H d v B) (_:Ul K H0 H (t.set i .no) σ A') (_:(∀x∈A',x∈A)) (_:(∀x∈B,x∈A)) (_:(∀x∈A,x∈B\/x∈A')) (_:B.Nodup) (_:A'.Nodup) (_:(∀x∈A',x∉B))
def Ul.zhf:∀{t:Th}{σ:L2.St}{A:Ql XW},Ul K H0 H t σ A->A.Nodup->∀{i:Nat}{d:D},t[i]?=Qs (.dp d)->LDp K H0 H t σ A i d:=by
 intro _ _ _ h
 induction h with
 |nil=>simp
 |@no _ _ _ _ r ih=>
  intro n i d e;cases i with
  |zero=>simp at e
  |succ i=>obtain⟨v,B,A',a1,a2,a3,a4,a5,a6,a7,a8,a9⟩:=ih n (e);exact⟨v,B,A',a1,a2,.no a3,a4,a5,a6,a7,a8,a9⟩
 |@val _ _ _ _ _ h r ih=>
  intro n i d e;cases i with
  |zero=>simp at e
  |succ i=>obtain⟨v,B,A',a1,a2,a3,a4,a5,a6,a7,a8,a9⟩:=ih n (e);exact⟨v,B,A',a1,a2,.val h a3,a4,a5,a6,a7,a8,a9⟩
 |@own p _ _ _ _ _ h1 h2 r ih=>
  intro n i d e;cases i with
  |zero=>simp at e
  |succ i=>
   have n0:=O7.mp n;obtain⟨v,B,A',a1,a2,a3,a4,a5,a6,a7,a8,a9⟩:=ih n0.2 (e);refine⟨v,B,_,a1,a2,.own h1 h2 a3,λx hx=>?_,λx hx=>OS _ (a5 x hx),λx hx=>?_,a7,O7.mpr ⟨λz=>n0.1 (a4 p z),a8⟩,λx hx z=>?_⟩
   .rcases OZ.mp hx with w|w
    .rw[w];simp
    .exact OS _ (a4 x w)
   .rcases OZ.mp hx with w|w
    .simp_all
    .exact(a6 x w).imp id (OS _)
   .rcases OZ.mp hx with w|w
    .exact n0.1 (w▸a5 x z)
    .exact a9 x w z
 |@dp _ v C _ _ A h r ih=>
  intro n i d e;cases i with
  |zero=>simp at e;subst e;have n0:=O4.mp n;exact⟨v,C,A,rfl,h,.no r,λx hx=>OP _ hx,λx hx=>OR _ hx,λx hx=>OT.mp hx,n0.1,n0.2.1,λx hx z=>n0.2.2 x z x hx rfl⟩
  |succ i=>
   have n0:=O4.mp n;obtain⟨v,B,A',a1,a2,a3,a4,a5,a6,a7,a8,a9⟩:=ih n0.2.1 (e);refine⟨v,B,_,a1,a2,.dp h a3,λx hx=>?_,λx hx=>OP _ (a5 x hx),λx hx=>?_,a7,O4.mpr ⟨n0.1,a8,λx hx y hy e=>n0.2.2 x hx y (a4 y hy) e⟩,λx hx z=>?_⟩
   .rcases OT.mp hx with w|w
    .exact OR _ w
    .exact OP _ (a4 x w)
   .rcases OT.mp hx with w|w
    .exact .inr (OR _ w)
    .exact(a6 x w).imp id (OP _)
   .rcases OT.mp hx with w|w
    .exact n0.2.2 x w x (a5 x z) rfl
    .exact a9 x w z
def RS.zfm (R:RS K F H A t σ)(g:TJ H H')(fr:∀b∈B,H b=Qn)(lb:US H' B):RS K (B++F) H' A t σ:=by
 have np:∀b∈B,b∉A++F:=λb hb=>dQ R.mu (fr b hb);refine⟨λp hp=>?_,R.nd,λp hp z=>?_,Ul.mono (λb o h=>?_) R.rel λb _ o h=>g _ _ h⟩
 .rcases OT.mp hp with z|z
  .exact(R.mu.mono g) p (OR _ z)
  .rcases OT.mp z with z|z
   .exact lb p z
   .exact(R.mu.mono g) p (OP _ z)
 .rcases OT.mp z with z|z
  .exact np p z (OR _ hp)
  .exact R.dj p hp z
 .obtain⟨n,h⟩:=bN h;refine aU (g _ _ h) λz=>?_
  simp_all
abbrev DM:=Th->Qo (D×Th)
abbrev nv:=Th->Qo (Ql D×Th)
structure Mv(K:OQ)(F A:List XW)(H H':Hp)(B A':List XW)(t':Th)(σ:L2.St):Prop where
 sm:TJ H H'
 nd:B.Nodup
 dj:∀b∈B,b∉F
 rs:RS K (B++F) H' A' t' σ
 fr:∀b∈B,b∈A\/H b=Qn
 sb:∀b∈A',b∈A
inductive dM(K:OQ)(F:List XW)(f:DM)(σ:L2.St)(H:Hp)(Q:VK):Prop
 |mk (A t d t':_) (_:RS K F H A t σ) (_:f t=Qs (d,t')) (_:∀v H' B A',Mv K F A H H' B A' t' σ->UC K (ag (A'++(B++F)) H') H' d v B->Q v H')
inductive dMs(K:OQ)(F:List XW)(f:nv)(σ:L2.St)(H:Hp)(Q:List V->Hp->Prop):Prop
 |mk (A t ds t':_) (_:RS K F H A t σ) (_:f t=Qs (ds,t')) (_:∀vs H' B A',Mv K F A H H' B A' t' σ->Uq K (ag (A'++(B++F)) H') H' ds vs B->Q vs H')
inductive zkn(K:OQ)(H0 H:Hp)(t:Th)(σ:L2.St)(A:List XW)(i:Nat)(ds:List D):Prop
 |mk (p vs A':_) (_:σ[i]?=Qs (Qs (.ref p))) (_:H p=Qs (.lst vs)) (_:TZ K H0 ds vs) (_:Ul K H0 H (t.set i .no) σ A') (_:(∀x∈A',x∈A)) (_:p∈A) (_:(∀x∈A,x=p\/x∈A')) (_:A'.Nodup) (_:p∉A')
def Ul.zhe:∀{t:Th}{σ:L2.St}{A:Ql XW},Ul K H0 H t σ A->A.Nodup->∀{i:Nat}{ds:Ql D},t[i]?=Qs (.own ds)->zkn K H0 H t σ A i ds:=by
 intro _ _ _ h
 induction h with
 |nil=>simp
 |@no _ _ _ _ r ih=>
  intro n i d e;cases i with
  |zero=>simp at e
  |succ i=>obtain⟨v,B,A',a1,a2,YH,a3,a4,a5,a6,a7,a8⟩:=ih n (e);exact⟨v,B,A',a1,a2,YH,.no a3,a4,a5,a6,a7,a8⟩
 |@val _ _ _ _ _ h r ih=>
  intro n i d e;cases i with
  |zero=>simp at e
  |succ i=>obtain⟨v,B,A',a1,a2,YH,a3,a4,a5,a6,a7,a8⟩:=ih n (e);exact⟨v,B,A',a1,a2,YH,.val h a3,a4,a5,a6,a7,a8⟩
 |@own q vs _ _ _ A h1 h2 r ih=>
  intro n i d e;cases i with
  |zero=>simp at e;subst e;have n0:=O7.mp n;exact⟨q,vs,A,rfl,h1,h2,.no r,λx hx=>OS _ hx,OU ..,λx hx=>OZ.mp hx,n0.2,n0.1⟩
  |succ i=>
   have n0:=O7.mp n;obtain⟨p,vs,A',a1,a2,YH,a3,a4,a5,a6,a7,a8⟩:=ih n0.2 (e);refine⟨p,vs,_,a1,a2,YH,.own h1 h2 a3,λx hx=>?_,OS _ a5,λx hx=>?_,O7.mpr ⟨λz=>n0.1 (a4 q z),a7⟩,λz=>?_⟩
   .rcases OZ.mp hx with w|w
    .rw[w];simp
    .exact OS _ (a4 x w)
   .rcases OZ.mp hx with w|w
    .simp_all
    .exact(a6 x w).imp id (OS _)
   .simp_all
 |@dp _ _ C _ _ _ h r ih=>
  intro n i d e;cases i with
  |zero=>simp at e
  |succ i=>
   have n0:=O4.mp n;obtain⟨p,vs,A',a1,a2,YH,a3,a4,a5,a6,a7,a8⟩:=ih n0.2.1 (e);refine⟨p,vs,_,a1,a2,YH,.dp h a3,λx hx=>?_,OP _ a5,λx hx=>?_,O4.mpr ⟨n0.1,a7,λx hx y hy e=>n0.2.2 x hx y (a4 y hy) e⟩,λz=>?_⟩
   .rcases OT.mp hx with w|w
    .exact OR _ w
    .exact OP _ (a4 x w)
   .rcases OT.mp hx with w|w
    .exact .inr (OR _ w)
    .exact(a6 x w).imp id (OP _)
   .rcases OT.mp z with w|w
    .exact n0.2.2 p w p a5 rfl
    .exact a8 w
inductive zj8(K:OQ)(F A:List XW)(H:Hp)(t:Th)(σ:L2.St)(i:Nat)(ds:List D):Prop
 |mk (p vs A':_) (_:σ[i]?=Qs (Qs (.ref p))) (_:RS K ([p]++F) H A' (t.set i .no) σ) (_:p∉F) (_:H p=Qs (.lst vs)) (_:TZ K (ag (A'++([p]++F)) H) ds vs) (_:(∀x∈A',x∈A)) (_:p∈A)
def RS.zfZ (R:RS K F H A t σ)(e:t[i]?=Qs (.own ds)):zj8 K F A H t σ i ds:=by
 obtain⟨p,vs,A',a1,a2,YH,a3,a4,a5,a6,a7,a8⟩:=R.rel.zhe R.nd e;have s:TJ (ag (A++F) H) (ag (A'++([p]++F)) H):=aS H λx hx=>by
  rcases OT.mp hx with z|z
  .exact OR _ (a4 x z)
  .rcases OT.mp z with z|z
   .simp_all
   .exact OP _ z
 refine⟨p,vs,A',a1,⟨λq hp=>?_,a7,λq hp z=>?_,Ul.mono s a3 λ_ _ _ w=>w⟩,R.dj p a5,a2,TZ.mono s YH,a4,a5⟩
 .rcases OT.mp hp with z|z
  .exact R.mu q (OR _ (a4 q z))
  .rcases OT.mp z with z|z
   .rw[O1.mp z];exact R.mu p (OR _ a5)
   .exact R.mu q (OP _ z)
 .rcases OT.mp z with z|z
  .simp_all
  .exact R.dj q (a4 q hp) z
section
variable {X:Cx}{F:Ql XW}{a b c o:XY}{es:Ql XY}{fa:DE}{fn:DM}{fns:nv}
def eF(f:DE):DM:=λt=>(f t).bind λr=>(toDn r).map λd=>(d,t)
def MV:TJ (ag (B++(A++F)) H) (ag (A++(B++F)) H):=aS H λx hx=>by
 grind
def BC(he:PE X a (dE X.K F fa)):PE X a (dM X.K F (eF fa)):=by
 refine PE.imp he ?_;rintro σ H Q ⟨A,t,d,t',R,e,h⟩;unfold eF at e;rcases e1:fa t with _|r
 .rw[e1]at e;cases e
 rw[e1]at e;simp only[OY]at e;rcases e2:toDn r with _|d0
 .rw[e2]at e;cases e
 rw[e2]at e;cases e;refine⟨A,t,r,R,e1,λv H' gs q=>?_⟩;obtain⟨B,b1,b2,b3⟩:=q.toDn R.mu gs e2;exact h v _ B A ⟨gs,b1,λb hb z=>dQ R.mu (b2 b hb) (OP _ z),R.zfm gs b2 b3.lists,λb hb=>.inr (b2 b hb),λb hb=>hb⟩ (UC.mono MV b3 λ_ _ _ w=>w)
def j7:nv:=λt=>Qs ([],t)
def fM(f:DM)(g:nv):nv:=λt=>(f t).bind λq=>(g q.2).bind λw=>Qs (q.1::w.1,w.2)
def JG:PA X [] (dMs X.K F j7):=PA.imp fJ λσ H Q ⟨A,t,ds,t',R,e,h⟩=>by cases e;exact h _ H _ A ⟨TJ.refl H,PN,λb hb=>(by cases hb),R,λb hb=>(by cases hb),λb hb=>hb⟩ .nil
def BB(ha:∀F,PE X a (dM X.K F fn))(hr:∀F,PA X es (dMs X.K F fns))(hs:Pc (a::es) X.env=(Qf,eval a X.env)::Pc es X.env:=by rfl):PA X (a::es) (dMs X.K F (fM fn fns)):=by
 intro p pins s σ H Q I h;obtain⟨A,t,ds,t',R,e,h⟩:=h;unfold fM at e;rcases e1:fn t with _|q1
 .rw[e1]at e;cases e
 obtain⟨d1,t1⟩:=q1;rw[e1]at e;simp at e;rcases e2:fns _ with _|q2
 .rw[e2]at e;cases e
 obtain⟨WD,t2⟩:=q2;rw[e2]at e;cases e;rw[hs];show wpAny _ _ _ _ _ s;refine Calls.spliced_cons (aA (ha F _ s σ H (λv H1=>∃B1 A1,Mv _ F A H _ _ _ _ σ/\UC _ _ _ _ v _) I ⟨A,t,d1,t1,R,e1,λv H1 B1 A1 m1 r1=>⟨B1,A1,m1,r1⟩⟩) λu s1 ⟨x,H1,I1,rx,B1,A1,m1,r1⟩=>?_);refine aA (hr _ p _ _ σ _ _ I1 ⟨A1,t1,WD,t2,m1.rs,e2,λvs H2 B2 A2 m2 r2=>?_⟩) λus s2 ⟨xs,H2,I2,rx2,q2⟩=>⟨_,H2,I2,.cons rx rx2,q2⟩;have l1:=r1.lists.mono m2.sm;have d21:=λb hb z=>m2.dj b hb (OR _ z);have mem:∀x,x∈A2++((B1++B2)++F)->x∈A2++(B2++(B1++F)):=λx hx=>by
  grind
 have zg4:∀x,x∈(B1++B2)++F->x∈B2++(B1++F):=λx hx=>by
  grind
 refine h _ _ _ _ ⟨m1.sm.trans m2.sm,O4.mpr ⟨m1.nd,m2.nd,λy hy z hz e=>d21 z hz (e▸hy)⟩,λb hb=>?_,m2.rs.less zg4,λb hb=>?_,λb hb=>m1.sb b (m2.sb b hb)⟩ (.cons (UC.U8 (λy hy=>m2.rs.mu y (mem y hy)) (aR _ _) (UC.mono (U3:=ag B1 _) (λb o w=>?_) r1 λ_ _ _ w=>m2.sm _ _ w)) (Uq.mono (aS _ mem) r2 λ_ _ _ w=>w))
 .rcases OT.mp hb with z|z
  .exact m1.dj b z
  .exact λw=>m2.dj b z (OP _ w)
 .rcases OT.mp hb with z|z
  .exact m1.fr b z
  .rcases m2.fr b z with w|w
   .exact .inl (m1.sb b w)
   .exact .inr (TJ.free m1.sm w)
 .obtain⟨n,w⟩:=bN w;exact aU (m2.sm _ _ w) λz=>n (OP _ (OR _ z))
def ot(g:nv):DM:=λt=>(g t).bind λq=>if q.1.length<=1000 then Qs (.tup q.1,q.2) else Qn
def JI(h:PA X es (dMs X.K F fns)):PE X (.Tuple es x1 pos) (dM X.K F (ot fns)):=by
 refine PE.imp (rG h) ?_;rintro σ H Q ⟨A,t,d,t',R,e,h⟩;unfold ot at e;rcases e1:fns t with _|q
 .rw[e1]at e;cases e
 obtain⟨ds,t2⟩:=q;rw[e1]at e;simp only[OY]at e;refine bJ e λhl e=>?_;cases e;refine⟨A,t,ds,t',R,e1,λvs H1 B A1 m1 r1=>⟨by rw[r1.length];exact X4 (by lia),λp hp=>?_⟩⟩;have s1:=du (o:=HO.tup vs) hp;exact h _ _ B _ ⟨m1.sm.trans s1,m1.nd,m1.dj,m1.rs.grow s1,m1.fr,m1.sb⟩ (.tup (UJ.of (aU aM (dQ m1.rs.mu hp))) (Uq.mono (ck s1) r1 λ_ _ _ w=>s1 _ _ w))
def tD(f:DM):DS:=λt=>(f t).bind λq=>Qs (.rt (.dn q.1))
def Ja(ha:PE X a (dM X.K F fn)):PS X (.Return (Qs a) pos) (dS X.K F (tD fn)):=by refine PS.imp (q8 ha) ?_;rintro E σ H ⟨A,t,o,R,e,h⟩;refine aq e λq e1 e=>?_;cases e;refine⟨A,t,q.1,q.2,R,e1,λv H' B A' m r1=>h v _ A (Gr.of_same R.mu.left m.sm) ⟨B,m.nd,λb hb=>⟨m.fr b hb,m.dj b hb⟩,UC.mono (aS _ λa z=>OP _ z) r1 λ_ _ _ w=>w⟩⟩
end
def uG(K:OQ)(x:Str):Bool:=match RH K x with
 |some q=>(K.lookup q.2).isNone
 |none=>Qf
def GO{x:Str}(h:uG K x=Qt):∃c P,RH K x=Qs (c,P)/\K.lookup P=Qn:=by
 unfold uG at h;split at h
 .rename_i q e;exact⟨q.1,q.2,e,by simpa using h⟩
 .cases h
end DL
namespace TS
section
variable (κ π:Q7->Int)
def rk(x:Q7):Int:=κ x*1048576+π x
def kx(l:Ql Q7):Prop:=l.Pairwise λa b=>rk κ π a<=rk κ π b
variable {κ π}
variable {X Y out:Ql Q7}{i j:Nat}
end
structure XT(M:Model)(A:QP)(E:Pl->Pf->Prop)(s:Pf)(κ π:Q7->Int)(a₀:Array Q7)(kd:SortKind):Prop where
 lt:∀(st:QY) (x y:Q7) (Q:Option Bool->QY->Prop),kindOf st=kd->x∈a₀.toList->y∈a₀.toList->Q (Qs (decide (κ x<κ y))) st->wpS M A E s (lt' x y) Q st
 pi:∀x∈a₀.toList,0<=π x/\π x<1048576
section
variable {A:QP}{E:Pl->Pf->Prop}{s:Pf}{κ:Q7->Int}{a₀:Array Q7}(C:XT M A E s κ π a₀ kd)
def zW{i:Nat}{z:Q7}{Q:Q7->QY->Prop}{st:QY}(hz:ar[i]?=Qs z)(h:Q z st):wpS M A E s (elem' ar i) Q st:=by rw[elem'_eq,hz];exact QZ h
end
section
variable {A:QP}{E:Pl->Pf->Prop}{s:Pf}{κ:Q7->Int}{a₀:Array Q7}(C:XT M A E s κ π a₀ kd)
def nL(π:Q7->Int)(l m:Ql Q7):Prop:=∀a∈l,∀b∈m,π a<=π b
end
def kA(f:Q7->Int)(xs:Array Q7)(i:Nat):Int:=match xs[i]? with
 |some p=>f p
 |none=>0
def kc(h:xs[i]?=Qs z):kA f xs i=f z:=by unfold kA;rw[h]
def fO(h:xs[i]?=ys[j]?):kA f xs i=kA f ys j:=by unfold kA;rw[h]
structure VS(xs zs:Array Q7)(lo hi:Nat):Prop where
 pm:zs.Perm xs
 out:∀i,i<lo\/hi<=i->zs[i]?=xs[i]?
 ins:∀i,lo<=i->i<hi->∃j,lo<=j/\j<hi/\zs[i]?=xs[j]?
theorem VS.refl(xs:Array Q7)(lo hi:Nat):VS xs xs lo hi:=⟨Array.Perm.refl _,λ_ _=>rfl,λi h1 h2=>⟨i,h1,h2,rfl⟩⟩
theorem VS.size{lo hi:Nat}(h:VS xs zs lo hi):zs.size=xs.size:=h.pm.size_eq
def VS.wide{XG:Nat}(h:VS xs zs lo hi)(g:hi<=XG):VS xs zs lo XG where
 pm:=h.pm
 out:=λi Zo=>h.out i (by lia)
 ins:=λi h1 h2=>by
  by_cases z:i<hi
  .obtain⟨j,a,b,c⟩:=h.ins i h1 z;exact⟨j,a,by lia,c⟩
  .exact⟨i,h1,h2,h.out i (by lia)⟩
def VS.mir{i0 j0:Nat}(h:VS xs zs lo hi)(h1:lo<=i0)(h2:j0<=hi)(h3:j0<=zs.size):VS xs (mirror zs i0 j0 ((j0-i0)/2)) lo hi where
 pm:=(mirror_perm _ _ _ _).trans h.pm
 out:=λi Zo=>by rw[getElem?_mirror_all h3,Um (by lia)];exact h.out i Zo
 ins:=λi a b=>by
  rw[getElem?_mirror_all h3];split
  .exact h.ins _ (by lia) (by lia)
  .exact h.ins i a b
def ic(h3:j0<=zs.size)(k:Nat):kA f (mirror zs i0 j0 ((j0-i0)/2)) k=if i0<=k/\k<j0 then kA f zs (i0+j0-1-k) else kA f zs k:=by
 have e:=getElem?_mirror_all (i:=i0) h3 k;by_cases h1:i0<=k/\k<j0
 .rw[T4 h1]at e ⊢;exact fO e
 .rw[Um h1]at e ⊢;exact fO e
section
variable {A:QP}{E:Pl->Pf->Prop}{s:Pf}{κ:Q7->Int}{a₀:Array Q7}(C:XT M A E s κ π a₀ kd)
def rA(κ π:Q7->Int)(xs:Array Q7)(i:Nat):Int:=kA κ xs i*1048576+kA π xs i
def pK(κ π:Q7->Int)(xs:Array Q7)(lo hi:Nat):Prop:=∀i j,lo<=i->i<=j->j<hi->rA κ π xs i<=rA κ π xs j
def iR(π:Q7->Int)(xs:Array Q7)(m:Nat):Prop:=∀i j,i<=j->m<=j->j<xs.size->kA π xs i<=kA π xs j
structure TB(a₀:Array Q7)(kd:SortKind)(st:QY):Prop where
 pm:(Qi st).Perm a₀
 kind:kindOf st=kd
 fld:failedOf st=Qn
theorem TB.size{st:QY}(h:TB a₀ kd st):(Qi st).size=a₀.size:=h.pm.size_eq
def xb{a₀ xs:Array Q7}(h:xs.Perm a₀)(hi:i<xs.size):∃z,xs[i]?=Qs z/\z∈a₀.toList:=⟨xs[i],by simp[hi],(QG.mp h).mem_iff.mp (by simp)⟩
include C in
def fU(h:xs.Perm a₀)(hi:i<xs.size):0<=kA π xs i/\kA π xs i<1048576:=by obtain⟨z,z1,z2⟩:=xb h hi;rw[kc z1];exact C.pi z z2
include C in
def nE{st:QY}(hB:TB a₀ kd st)(hi:i<a₀.size)(hj:j<a₀.size)(h:Q (Qs (decide (kA κ (Qi st) i<kA κ (Qi st) j))) st):wpS M A E s (ltAt' i j) Q st:=by obtain⟨x,x1,x2⟩:=xb hB.pm (i:=i) (by rw[hB.size];assumption);obtain⟨y,y1,y2⟩:=xb hB.pm (by rw[hB.size];assumption);refine Qv (wpS_get ?_);refine Qv (zW x1 (Qv (zW y1 (C.lt _ x y Q hB.kind x2 y2 ?_))));rw[kc x1,kc y1]at h;assumption
def ir(κ π:Q7->Int)(a₀:Array Q7)(kd:SortKind)(st:QY)(lo hi:Nat)(Uk:QY):Prop:=TB a₀ kd Uk/\P4 Uk=P4 st/\VS (Qi st) (Qi Uk) lo hi/\pK κ π (Qi Uk) lo hi
def pE(lo n nr:Nat):StateT QY Sem (Qo (Qo Nat)×Nat):=forIn [n:nr] ((Qn,n):Qo (Qo Nat)×Nat) λ_ r=>do
  let x<-ltAt' (lo+r.snd) (lo+r.snd-1)
  match x with
  |some sm=>if sm=Qt then pure (QV (Qn,r.snd)) else pure (P1 (Qn,r.snd+1))
  |_=>pure (QV (Qs Qn,r.snd))
include C in
def zY{st:QY}{n:Nat}(hB:TB a₀ kd st)(hn:1<=n)(Z0:n<=nr)(hs:lo+nr<=a₀.size)(fr:iR π xs lo)(ch:VS xs (Qi st) lo (lo+n))(hr:pK κ π (Qi st) lo (lo+n)) (h:∀m,n<=m->m<=nr->pK κ π (Qi st) lo (lo+m)->(m=nr\/kA κ (Qi st) (lo+m)<kA κ (Qi st) (lo+m-1))->Q (Qn,m) st):wpS M A E s (pE lo n nr) Q st:=by
 unfold pE;refine wpS_forRange (I:=λx c Uk=>Uk=st/\c=(Qn,x)/\pK κ π (Qi st) lo (lo+x)) ?_ ?_ ⟨rfl,rfl,hr⟩
 .rintro x c Uk hx1 hx2 ⟨rfl,rfl,Yu⟩;dsimp only;refine Qv (nE C hB (by lia) (by lia) ?_);by_cases hl:kA κ (Qi Uk) (lo+x)<kA κ (Qi Uk) (lo+x-1)
  .simp only[hl,decide_true,if_true];exact QZ (h x hx1 (by lia) Yu (.inr hl))
  .simp only[hl,decide_false,PU,if_false];refine QZ ⟨rfl,rfl,λi j a1 a2 a3=>?_⟩;by_cases z:j<lo+x
   .exact Yu i j a1 a2 z
   .have ej:j=lo+x:=by lia
    subst ej;by_cases zi:i=lo+x
    .subst zi;simp
    .have sz:=hB.size;have szx:=ch.size;have q:=Yu i (lo+x-1) a1 (by lia) (by lia);have p1:=fU C hB.pm (i:=i) (by lia);have p2:=fU C hB.pm (i:=lo+x-1) (by lia);have fx:kA π (Qi Uk) i<=kA π (Qi Uk) (lo+x):=by obtain⟨k,k1,k2,k3⟩:=(ch.wide (show lo+n<=lo+x by lia)).ins i a1 (by lia);rw[fO k3,fO (ch.out _ (by lia))];exact fr k _ (by lia) (by lia) (by lia)
     unfold rA at q ⊢;lia
 .simp_all
def qm(lo n nr:Nat):StateT QY Sem (Qo Nat):=do
 reverseSlice' lo (lo+n)
 let r<-pE lo n nr
 match r.fst with
 |some a=>pure a
 |none=>pure (Qs r.snd)
def p9{st:QY}(h:Q () (setArr st (mirror (Qi st) i j ((j-i)/2)))):wpS M A E s (reverseSlice' i j) Q st:=by exact wpS_modify h
def TB.set{st:QY}(h:TB a₀ kd st)(hp:zs.Perm (Qi st)):TB a₀ kd (setArr st zs):=⟨hp.trans h.pm,h.kind,h.fld⟩
include C in
def zV{st:QY}{n:Nat}(hB:TB a₀ kd st)(hp:P4 st=P4 VE)(hn:1<=n)(Z0:n<=nr)(hs:lo+nr<=a₀.size)(fr:iR π (Qi VE) lo)(ch:VS (Qi VE) (Qi st) lo (lo+n)) (hf:∀i j,lo<=i->i<=j->j<lo+n->rA κ π (Qi st) j<=rA κ π (Qi st) i) (h:∀m Uk,1<=m->m<=nr->ir κ π a₀ kd VE lo (lo+m) Uk->Q (Qs m) Uk):wpS M A E s (qm lo n nr) Q st:=by
 have sz:lo+n<=(Qi st).size:=by rw[hB.size];lia
 refine Qv (p9 ?_);have hB':TB _ _ (setArr _ (mirror _ lo (lo+n) ((lo+n-lo)/2))):=hB.set (mirror_perm _ _ _ _);have ch':=ch.mir (O5 _) (O5 _) sz;refine Qv (zY C hB' hn Z0 hs fr ch' (λi j a1 a2 a3=>?_) λm m1 m2 m3 _=>QZ (h m _ (by lia) m2 ⟨hB',hp,ch'.wide (by lia),m3⟩));unfold rA;rw[ic sz,ic sz,ic sz,ic sz,T4 (by lia),T4 (by lia),T4 (by lia),T4 (by lia)];exact hf _ _ (by lia) (by lia) (by lia)
end
section
variable {A:QP}{E:Pl->Pf->Prop}{s:Pf}{κ:Q7->Int}{a₀:Array Q7}(C:XT M A E s κ π a₀ kd)
structure Dn(κ π:Q7->Int)(a₀:Array Q7)(kd:SortKind)(VE:QY)(lo x q:Nat)(st:QY):Prop where
 tb:TB a₀ kd st
 pd:P4 st=P4 VE
 ch:VS (Qi VE) (Qi st) lo (lo+x)
 le:q+1<=x
 un:∀i,lo+x-(q+1)<=i->(Qi st)[i]?=(Qi VE)[i]?
 eq:∀i,lo+x-(q+1)<=i->i<lo+x->kA κ (Qi st) i=kA κ (Qi st) (lo+x-1)
 fl:∀i j,lo<=i->i<=j->j<lo+x-(q+1)->rA κ π (Qi st) j<=rA κ π (Qi st) i
 gt:∀i,lo<=i->i<lo+x-(q+1)->kA κ (Qi st) (lo+x-1)<kA κ (Qi st) i
def zN(κ π:Q7->Int)(zs:Array Q7)(lo hi:Nat):Prop:=∀i j,lo<=i->i<=j->j<hi->rA κ π zs j<=rA κ π zs i
include C in
def Dn.zeT{st:QY}{x q:Nat}(h:Dn κ π a₀ kd VE lo x q st)(fr:iR π (Qi VE) lo)(hs:lo+x<=a₀.size):zN κ π (mirror (Qi st) (lo+x-(q+1)) (lo+x) ((lo+x-(lo+x-(q+1)))/2)) lo (lo+x):=by
 intro i j a1 a2 a3;have sz:lo+x<=(Qi st).size:=by rw[h.tb.size];lia
 have sz0:(Qi VE).size=(Qi st).size:=h.ch.size.symm;have le:=h.le;unfold rA;rw[ic sz,ic sz,ic sz,ic sz];by_cases zi:lo+x-(q+1)<=i
 .rw[T4 (by lia),T4 (by lia),T4 (by lia),T4 (by lia),h.eq _ (by lia) (by lia),h.eq (lo+x-(q+1)+(lo+x)-1-i) (by lia) (by lia),fO (h.un (lo+x-(q+1)+(lo+x)-1-j) (by lia)),fO (h.un (lo+x-(q+1)+(lo+x)-1-i) (by lia))];have:=fr (lo+x-(q+1)+(lo+x)-1-j) (lo+x-(q+1)+(lo+x)-1-i) (by lia) (by lia) (by lia);lia
 .rw[Um (c:=_/\i<_) (by lia),Um (c:=_/\i<_) (by lia)];by_cases zj:lo+x-(q+1)<=j
  .rw[T4 (by lia),T4 (by lia),h.eq _ (by lia) (by lia)];have g:=h.gt i a1 (by lia);have p1:=fU C h.tb.pm (i:=lo+x-(q+1)+(lo+x)-1-j) (by lia);have p2:=fU C h.tb.pm (i:=i) (by lia);lia
  .rw[Um (by lia),Um (by lia)];exact h.fl i j a1 a2 (by lia)
include C in
def Dn.zeS{st:QY}{x:Nat}(h:Dn κ π a₀ kd VE lo x 0 st)(hs:lo+x<=a₀.size):zN κ π (Qi st) lo (lo+x):=by
 intro i j a1 a2 a3;have sz:lo+x<=(Qi st).size:=by rw[h.tb.size];lia
 have le:=h.le;by_cases zj:j<lo+x-(0+1)
 .exact h.fl i j a1 a2 zj
 .have ej:j=lo+x-1:=by lia
  by_cases zi:i=j
  .subst zi;exact QD _
  .have g:=h.gt i a1 (by lia);have p1:=fU C h.tb.pm (i:=lo+x-1) (by lia);have p2:=fU C h.tb.pm (i:=i) (by lia);unfold rA;rw[ej];lia
def tj(lo n nr:Nat):StateT QY Sem (Qo (Qo Nat)×Nat×Nat):=forIn [n:nr] ((Qn,n,0):Qo (Qo Nat)×Nat×Nat) λ_ r=>do
  let x<-ltAt' (lo+r.snd.fst) (lo+r.snd.fst-1)
  match x with
  |some sm=>
   if sm=Qt then
    if r.snd.snd>0 then do
     reverseSlice' (lo+r.snd.fst-(r.snd.snd+1)) (lo+r.snd.fst)
     pure (P1 (Qn,r.snd.fst+1,0))
    else pure (P1 (Qn,r.snd.fst+1,0))
   else do
    let y<-ltAt' (lo+r.snd.fst-1) (lo+r.snd.fst)
    match y with
    |some lg=>if lg=Qt then pure (QV (Qn,r.snd.fst,r.snd.snd)) else pure (P1 (Qn,r.snd.fst+1,r.snd.snd+1))
    |_=>pure (QV (Qs Qn,r.snd.fst,r.snd.snd))
  |_=>pure (QV (Qs Qn,r.snd.fst,r.snd.snd))
include C in
def Gb{st:QY}{n:Nat}{Q:Qo (Qo Nat)×Nat×Nat->QY->Prop}(fr:iR π (Qi VE) lo)(hn:1<=n)(Z0:n<=nr)(hs:lo+nr<=a₀.size)(D0:Dn κ π a₀ kd VE lo n 0 st) (h:∀m q Uk,n<=m->m<=nr->Dn κ π a₀ kd VE lo m q Uk->Q (Qn,m,q) Uk):wpS M A E s (tj lo n nr) Q st:=by
 unfold tj;refine wpS_forRange (I:=λx c Uk=>∃q,c=(Qn,x,q)/\Dn κ π a₀ kd VE lo x q Uk) ?_ ?_ ⟨0,rfl,D0⟩
 .rintro x c Uk hx1 hx2 ⟨q,rfl,D⟩;dsimp only;have le:=D.le;have sz:lo+x<=(Qi Uk).size:=by rw[D.tb.size];lia
  have zlv:=D.tb.size;refine Qv (nE C D.tb (by lia) (by lia) ?_);by_cases hl:kA κ (Qi Uk) (lo+x)<kA κ (Qi Uk) (lo+x-1)
  .simp only[hl,decide_true,if_true];have mk:∀zs:Array Q7,zs.Perm (Qi Uk)->VS (Qi VE) zs lo (lo+x)->zN κ π zs lo (lo+x)->(∀i,lo<=i->i<lo+x->∃j,lo<=j/\j<lo+x/\zs[i]?=(Qi Uk)[j]?)->zs[lo+x]?=(Qi Uk)[lo+x]?->(∀i,lo+x<=i->zs[i]?=(Qi VE)[i]?)->Dn κ π a₀ kd VE lo (x+1) 0 (setArr Uk zs):=λzs hp hc hf hin hx hun=>by
     refine{tb:=D.tb.set hp,pd:=D.pd,ch:=hc.wide (by lia),le:=by lia,un:=λi hi=>hun i (by lia),eq:=λi a b=>by congr 1;lia,fl:=λi j a b c=>hf i j a b (by lia),gt:=λi a b=>?_};show kA κ zs (lo+(x+1)-1)<kA κ zs i;obtain⟨j,j1,j2,j3⟩:=hin i a (by lia);rw[show lo+(x+1)-1=lo+x by lia,fO hx,fO j3];by_cases z:j<lo+x-(q+1)
     .have:=D.gt j j1 z;lia
     .rw[D.eq j (by lia) j2];exact hl
   by_cases hq:q>0
   .rw[T4 hq];refine Qv (p9 (QZ ⟨0,rfl,mk _ (mirror_perm _ _ _ _) (D.ch.mir (by lia) (O5 _) sz) (D.zeT C fr (by lia)) (λi a b=>?_) ?_ (λi a=>?_)⟩))
    .rw[getElem?_mirror_all sz];split
     .exact⟨_,by lia,by lia,rfl⟩
     .exact⟨i,a,b,rfl⟩
    .rw[getElem?_mirror_all sz,Um (by lia)]
    .rw[getElem?_mirror_all sz,Um (by lia)];exact D.un i (by lia)
   .rw[Um hq];have:q=0:=by lia
    subst this;have D1:=mk (Qi Uk) (Array.Perm.refl _) D.ch (D.zeS C (by lia)) (λi a b=>⟨i,a,b,rfl⟩) rfl (λi a=>D.un i (by lia));exact QZ ⟨0,rfl,⟨⟨D1.tb.pm,D1.tb.kind,D1.tb.fld⟩,D1.pd,D1.ch,D1.le,D1.un,D1.eq,D1.fl,D1.gt⟩⟩
  .simp only[hl,decide_false,PU,if_false];refine Qv (nE C D.tb (by lia) (by lia) ?_);by_cases hg:kA κ (Qi Uk) (lo+x-1)<kA κ (Qi Uk) (lo+x)
   .simp only[hg,decide_true,if_true];exact QZ (h x q Uk hx1 (by lia) D)
   .simp only[hg,decide_false,PU,if_false];have ee:kA κ (Qi Uk) (lo+x)=kA κ (Qi Uk) (lo+x-1):=by lia
    refine QZ ⟨q+1,rfl,⟨D.tb,D.pd,D.ch.wide (by lia),by lia,λi a=>D.un i (by lia),λi a b=>?_,λi j a b c=>D.fl i j a b (by lia),λi a b=>?_⟩⟩
    .rw[show lo+(x+1)-1=lo+x by lia];by_cases z:i=lo+x
     .rw[z]
     .rw[ee];exact D.eq i (by lia) (by lia)
    .rw[show lo+(x+1)-1=lo+x by lia,ee];exact D.gt i a (by lia)
 .rintro c Uk ⟨q,rfl,D⟩;rw[show max n nr=nr by lia]at D ⊢;exact h nr q Uk Z0 (O5 _) D
def oY(lo n nr:Nat):StateT QY Sem (Qo Nat):=do
 liftM (rule "list.sort.descending-run")
 let r<-tj lo (n+1) nr
 match r.fst with
 |some a=>pure a
 |none=>
  if r.snd.snd>0 then do
   reverseSlice' (lo+r.snd.fst-(r.snd.snd+1)) (lo+r.snd.fst)
   qm lo r.snd.fst nr
  else qm lo r.snd.fst nr
include C in
def zX{st:QY}{n:Nat}{Q:Qo Nat->QY->Prop}(fr:iR π (Qi VE) lo)(Z0:n+1<=nr)(hs:lo+nr<=a₀.size)(D0:Dn κ π a₀ kd VE lo (n+1) 0 st) (h:∀m Uk,1<=m->m<=nr->ir κ π a₀ kd VE lo (lo+m) Uk->Q (Qs m) Uk):wpS M A E s (oY lo n nr) Q st:=by
 unfold oY;refine Qv (wpS_lift (wpAny_rule ⟨rfl,?_⟩));refine Qv (Gb C fr (by lia) Z0 hs D0 λm q Uk h1 h2 D=>?_);dsimp only;have sz:lo+m<=(Qi Uk).size:=by rw[D.tb.size];lia
 have le:=D.le;by_cases hq:q>0
 .rw[T4 hq];exact Qv (p9 (zV C (D.tb.set (mirror_perm _ _ _ _)) D.pd (by lia) h2 hs fr (D.ch.mir (by lia) (O5 _) sz) (D.zeT C fr (by lia)) h))
 .rw[Um hq];have:q=0:=by lia
  subst this;exact zV C D.tb D.pd (by lia) h2 hs fr D.ch (D.zeS C (by lia)) h
def NW(lo nr:Nat):countRun' lo nr=(do
  let r<-pE lo 1 nr
  match r.fst with
  |some a=>pure a
  |none=>
   if(r.snd==nr)=Qt then pure (Qs r.snd)
   else if r.snd>1 then do
    let x<-ltAt' lo (lo+r.snd-1)
    match x with
    |some rs=>if rs=Qt then pure (Qs r.snd) else do
      reverseSlice' lo (lo+r.snd)
      oY lo r.snd nr
    |_=>pure Qn
   else oY lo r.snd nr):=by
 rw[countRun'_eq];dsimp only;unfold oY qm tj pE;congr 1;funext r;obtain⟨r,n⟩:=r;cases r with
 |some r=>rfl
 |none=>
  dsimp only;split
  .rfl
  .split
   .congr 1;funext x;cases x with
    |none=>rfl
    |some rs=>
     dsimp only;split
     .rfl
     .congr 1;funext _u;congr 1;funext _v;congr 1;congr 1;funext r2;obtain⟨r2,n2,q2⟩:=r2;cases r2 with
      |some r2=>rfl
      |none=>
       dsimp only;split
       .congr 1;funext _w;congr 1;funext _z;congr 1;funext r3;obtain⟨r3,n3⟩:=r3;cases r3<;>rfl
       .congr 1;funext _z;congr 1;funext r3;obtain⟨r3,n3⟩:=r3;cases r3<;>rfl
   .congr 1;funext _v;congr 1;congr 1;funext r2;obtain⟨r2,n2,q2⟩:=r2;cases r2 with
    |some r2=>rfl
    |none=>
     dsimp only;split
     .congr 1;funext _w;congr 1;funext _z;congr 1;funext r3;obtain⟨r3,n3⟩:=r3;cases r3<;>rfl
     .congr 1;funext _z;congr 1;funext r3;obtain⟨r3,n3⟩:=r3;cases r3<;>rfl
include C in
def Gd{st:QY}{Q:Qo Nat->QY->Prop}(hB:TB a₀ kd st)(fr:iR π (Qi st) lo)(h1:1<=nr)(hs:lo+nr<=a₀.size) (h:∀m Uk,1<=m->m<=nr->ir κ π a₀ kd st lo (lo+m) Uk->Q (Qs m) Uk):wpS M A E s (countRun' lo nr) Q st:=by
 rw[NW];have sz:=hB.size;refine Qv (zY C (xs:=Qi st) hB (O5 1) h1 hs fr (VS.refl _ _ _) (λi j a b c=>by rw[show i=j by lia];exact QD _) λn n1 n2 hr hor=>?_);dsimp only;by_cases hn:n=nr
 .rw[T4 (by simpa using hn)];exact QZ (h n st n1 n2 ⟨hB,rfl,VS.refl _ _ _,hr⟩)
 rw[Um (by simpa using hn)];have hl:=hor.resolve_left hn;by_cases hg:n>1
 .rw[T4 hg];refine Qv (nE C hB (by lia) (by lia) ?_);by_cases hro:kA κ (Qi st) lo<kA κ (Qi st) (lo+n-1)
  .simp only[hro,decide_true,if_true];exact QZ (h n st n1 n2 ⟨hB,rfl,VS.refl _ _ _,hr⟩)
  .simp only[hro,decide_false,PU,if_false];have szn:lo+n<=(Qi st).size:=by lia
   have all:∀i,lo<=i->i<lo+n->kA κ (Qi st) i=kA κ (Qi st) (lo+n-1):=λi a b=>by have q1:=hr lo i (O5 _) a b;have q2:=hr i (lo+n-1) a (by lia) (by lia);have p1:=fU C hB.pm (i:=lo) (by lia);have p2:=fU C hB.pm (i:=i) (by lia);have p3:=fU C hB.pm (i:=lo+n-1) (by lia);unfold rA at q1 q2;lia
   have keys:∀i,lo<=i->i<lo+n->kA κ (mirror (Qi st) lo (lo+n) ((lo+n-lo)/2)) i=kA κ (Qi st) (lo+n-1):=λi a b=>by rw[ic szn,T4 (by lia)];exact all _ (by lia) (by lia)
   have outs:∀i,lo+n<=i->(mirror (Qi st) lo (lo+n) ((lo+n-lo)/2))[i]?=(Qi st)[i]?:=λi a=>by rw[getElem?_mirror_all szn,Um (by lia)]
   refine Qv (p9 (zX C fr (by lia) hs ⟨hB.set (mirror_perm _ _ _ _),rfl,((VS.refl _ _ _).mir (O5 _) (O5 _) szn).wide (by lia),by lia,λi a=>outs i (by lia),λi a b=>by congr 1;lia,λi j a b c=>?_,λi a b=>?_⟩ h))
   .show rA κ π (mirror (Qi st) _ _ _) j<=rA κ π (mirror (Qi st) _ _ _) i;unfold rA;rw[keys i a (by lia),keys j (by lia) (by lia),ic szn,ic szn,T4 (by lia),T4 (by lia)];have:=fr (lo+(lo+n)-1-j) (lo+(lo+n)-1-i) (by lia) (by lia) (by lia);lia
   .show kA κ (mirror (Qi st) _ _ _) _<kA κ (mirror (Qi st) _ _ _) _;rw[keys i a (by lia),show lo+(n+1)-1=lo+n by lia,fO (outs (lo+n) (O5 _))];exact hl
 .rw[Um hg];have:n=1:=by lia
  subst this;refine zX C fr (by lia) hs ⟨hB,rfl,VS.refl _ _ _,by lia,λi a=>rfl,λi a b=>by congr 1;lia,λi j a b c=>?_,λi a b=>?_⟩ h
  .have:i=j:=by lia
   subst this;exact QD _
  .have:i=lo:=by lia
   subst this;rw[Nat.add_sub_cancel]at hl;exact hl
end
def Dz{f:Q7->Int}{xs:Array Q7}{src d:Nat}(hs:src<xs.size)(hd:d<=src)(k:Nat):kA f (bubble xs src d) k=if k=src-d then kA f xs src else if src-d<k/\k<=src then kA f xs (k-1) else kA f xs k:=by
 have e:=getElem?_bubble hs d hd k;by_cases h1:k=src-d
 .rw[T4 h1]at e ⊢;exact fO e
 .rw[Um h1]at e ⊢;by_cases h2:src-d<k/\k<=src
  .rw[T4 h2]at e ⊢;exact fO e
  .rw[Um h2]at e ⊢;exact fO e
def VS.bub{xs zs:Array Q7}{src d:Nat}(h:VS xs zs lo src)(h1:lo<=src-d)(hd:d<=src)(h3:src<zs.size):VS xs (bubble zs src d) lo (src+1) where
 pm:=(bubble_perm _ _ _).trans h.pm
 out:=λi hi=>by rw[getElem?_bubble h3 d hd,Um (by lia),Um (by lia)];exact h.out i (by lia)
 ins:=λi a b=>by
  rw[getElem?_bubble h3 d hd];split
  .exact⟨src,by lia,by lia,h.out src (by lia)⟩
  .split
   .obtain⟨j,j1,j2,j3⟩:=h.ins (i-1) (by lia) (by lia);exact⟨j,j1,by lia,j3⟩
   .obtain⟨j,j1,j2,j3⟩:=h.ins i a (by lia);exact⟨j,j1,by lia,j3⟩
def ID{κ:Q7->Int}{i j:Nat}(q:rA κ π ar i<=rA κ π ar j)(p1:0<=kA π ar i/\kA π ar i<1048576)(p2:0<=kA π ar j/\kA π ar j<1048576):kA κ ar i<=kA κ ar j:=by unfold rA at q;lia
def IB{κ:Q7->Int}{i j:Nat}(q:kA κ ar i<=kA κ ar j)(p:kA π ar i<=kA π ar j):rA κ π ar i<=rA κ π ar j:=by unfold rA;lia
def IC{κ:Q7->Int}{i j:Nat}(q:kA κ ar i<kA κ ar j)(p1:0<=kA π ar i/\kA π ar i<1048576)(p2:0<=kA π ar j/\kA π ar j<1048576):rA κ π ar i<=rA κ π ar j:=by unfold rA;lia
section
variable {A:QP}{E:Pl->Pf->Prop}{s:Pf}{κ:Q7->Int}{a₀:Array Q7}(C:XT M A E s κ π a₀ kd)
include C in
def Ge{st:QY}{n ok:Nat}{Q:Bool->QY->Prop}(hB:TB a₀ kd st)(UB:1<=ok)(hn:ok<=n)(hs:lo+n<=a₀.size)(fr:iR π (Qi st) (lo+ok))(hr:pK κ π (Qi st) lo (lo+ok)) (h:∀Uk,ir κ π a₀ kd st lo (lo+n) Uk->Q Qt Uk):wpS M A E s (binarySort' lo n ok) Q st:=by
 rw[binarySort'_eq];refine Qv (wpS_mono (wpS_forRange (I:=λk c Uk=>c=(Qn,())/\ir κ π a₀ kd st lo (lo+min k n) Uk) (Q:=λc Uk=>c=(Qn,())/\ir κ π a₀ kd st lo (lo+n) Uk) ?_ ?_ ?_) ?_)
 .rintro k c Uk k1 k2 ⟨rfl,tb,pd,ch,rs⟩;rw[show min k n=k by lia]at ch rs;have sz:=tb.size;have szx:=ch.size;refine Qv (wpS_mono (wpS_forRange (I:=λx c Vc=>Vc=Uk/\∃l r,c=(Qn,l,r)/\l<=r/\r<=k/\r-l<=k-x/\(∀i,i<l->kA κ (Qi Uk) (lo+i)<=kA κ (Qi Uk) (lo+k))/\(∀i,r<=i->i<k->kA κ (Qi Uk) (lo+k)<kA κ (Qi Uk) (lo+i))) (Q:=λc Vc=>Vc=Uk/\∃l r,c=(Qn,l,r)/\l<=k/\(∀i,i<l->kA κ (Qi Uk) (lo+i)<=kA κ (Qi Uk) (lo+k))/\(∀i,l<=i->i<k->kA κ (Qi Uk) (lo+k)<kA κ (Qi Uk) (lo+i))) ?_ ?_ ⟨rfl,0,k,rfl,by lia,by lia,by lia,λi hi=>by lia,λi a b=>by lia⟩) ?_)
  .rintro x c Vc _ x2 ⟨rfl,l,r,rfl,a1,a2,a3,a4,a5⟩;dsimp only;by_cases W8:l≥r
   .rw[T4 W8];have:l=r:=by lia
    subst this;exact QZ ⟨rfl,l,l,rfl,a2,a4,a5⟩
   .rw[Um W8];refine Qv (nE C tb (by lia) (by lia) ?_);have up:∀i j,i<=j->j<k->kA κ (Qi Vc) (lo+i)<=kA κ (Qi Vc) (lo+j):=λi j q1 q2=>by have q:=rs (lo+i) (lo+j) (by lia) (by lia) (by lia);have p1:=fU C tb.pm (i:=lo+i) (by lia);have p2:=fU C tb.pm (i:=lo+j) (by lia);exact ID q p1 p2
    by_cases hl:kA κ (Qi Vc) (lo+k)<kA κ (Qi Vc) (lo+(l+r)/2)
    .simp only[hl,decide_true,if_true];refine QZ ⟨rfl,l,(l+r)/2,rfl,by lia,by lia,by lia,a4,λi q1 q2=>?_⟩;exact Int.lt_of_lt_of_le hl (up ((l+r)/2) i q1 q2)
    .simp only[hl,decide_false,PU,if_false];refine QZ ⟨rfl,(l+r)/2+1,r,rfl,by lia,by lia,by lia,λi q1=>?_,a5⟩;exact S6 (up i ((l+r)/2) (Nat.le_of_lt_succ q1) (by lia)) (Int.not_lt.mp hl)
  .rintro c Vc ⟨rfl,l,r,rfl,a1,a2,a3,a4,a5⟩;have:l=r:=by lia
   subst this;exact⟨rfl,l,l,rfl,a2,a4,a5⟩
  .rintro c Vc ⟨rfl,l,r,rfl,a1,a4,a5⟩;show wpS _ _ _ _ (do moveDown' (lo+k) (lo+l);pure (P1 (Qn,()))) _ _;rw[moveDown'_eq];have hk:lo+k<(Qi Vc).size:=by lia
   refine Qv (wpS_modify (QZ ⟨rfl,tb.set (bubble_perm _ _ _),pd,?_,?_⟩))
   .rw[show min (k+1) n=k+1 by lia];exact ch.bub (by lia) (by lia) hk
   .rw[show min (k+1) n=k+1 by lia];intro i j b1 b2 b3;show rA κ π (bubble (Qi Vc) (lo+k) (lo+k-(lo+l))) i<=rA κ π (bubble (Qi Vc) (lo+k) (lo+k-(lo+l))) j;have pk:=fU C tb.pm hk;have frk:∀i,lo<=i->i<lo+k->kA π (Qi Vc) i<=kA π (Qi Vc) (lo+k):=λi q1 q2=>by obtain⟨m,m1,m2,m3⟩:=ch.ins i q1 q2;rw[fO m3,fO (ch.out (lo+k) (by lia))];exact fr m (lo+k) (by lia) (by lia) (by lia)
    have zhc:∀i,lo<=i->i<lo+l->rA κ π (Qi Vc) i<=rA κ π (Qi Vc) (lo+k):=λi q1 q2=>by have q:=a4 (i-lo) (by lia);rw[show lo+(i-lo)=i by lia]at q;exact IB q (frk i q1 (by lia))
    have upA:∀i,lo+l<=i->i<lo+k->rA κ π (Qi Vc) (lo+k)<=rA κ π (Qi Vc) i:=λi q1 q2=>by have q:=a5 (i-lo) (by lia) (by lia);rw[show lo+(i-lo)=i by lia]at q;exact IC q pk (fU C tb.pm (i:=i) (by lia))
    have rb:∀i,rA κ π (bubble (Qi Vc) (lo+k) (lo+k-(lo+l))) i=if i=lo+l then rA κ π (Qi Vc) (lo+k) else if lo+l<i/\i<=lo+k then rA κ π (Qi Vc) (i-1) else rA κ π (Qi Vc) i:=λi=>by
     unfold rA;rw[Dz hk (by lia),Dz hk (by lia),show lo+k-(lo+k-(lo+l))=lo+l by lia];split
     .rfl
     .split<;>rfl
    rw[rb,rb];by_cases z1:i=lo+l
    .rw[T4 z1];by_cases z2:j=lo+l
     .rw[T4 z2];exact QD _
     .rw[Um z2,T4 (by lia)];exact upA _ (by lia) (by lia)
    .rw[Um z1];by_cases z3:lo+l<i/\i<=lo+k
     .rw[T4 z3,Um (by lia),T4 (by lia)];exact rs _ _ (by lia) (by lia) (by lia)
     .rw[Um z3];by_cases z2:j=lo+l
      .rw[T4 z2];exact zhc _ b1 (by lia)
      .rw[Um z2];by_cases z4:lo+l<j/\j<=lo+k
       .rw[T4 z4];exact rs _ _ b1 (by lia) (by lia)
       .rw[Um z4];exact rs _ _ b1 b2 (by lia)
 .rintro c Uk ⟨hc,tb,pd,ch,rs⟩;rw[show min (max (max ok 1) n) n=n by lia]at ch rs;exact⟨hc,tb,pd,ch,rs⟩
 .refine⟨rfl,hB,rfl,VS.refl _ _ _,?_⟩;rw[show min (max ok 1) n=ok by lia];exact hr
 .rintro c Uk ⟨rfl,q⟩;exact QZ (h Uk q)
end
def ZD:Nat->Ql (Ql Q7)->Ql (Nat×Nat×Nat)->Prop
 |_,[],[]=>True
 |lo,L::Ls,q::ps=>q.1=lo/\q.2.1=L.length/\ZD (lo+L.length) Ls ps
 |_,_,_=>False
theorem ZD.app:∀{Ls:Ql (Ql Q7)}{lo:Nat}{N:Ql Q7}{ps:Ql (Nat×Nat×Nat)}{pw:Nat},ZD lo Ls ps->ZD lo (Ls++[N]) (ps++[(lo+Ls.flatten.length,N.length,pw)])
 |[],lo,N,[],pw,_=>⟨by simp,rfl,trivial⟩
 |L::Ls,lo,N,q::ps,pw,h=>⟨h.1,h.2.1,by have:=ZD.app (N:=N) (pw:=pw) h.2.2;simpa[Nat.add_assoc] using this⟩
 |[],_,_,_::_,_,h=>h.elim
 |_::_,_,_,[],_,h=>h.elim
section
variable {A:QP}{E:Pl->Pf->Prop}{s:Pf}{κ:Q7->Int}{a₀:Array Q7}(C:XT M A E s κ π a₀ kd)
structure Runs(κ π:Q7->Int)(a₀:Array Q7)(kd:SortKind)(st:QY)(Ls:List (List Q7))(post:List Q7):Prop where
 tb:TB a₀ kd st
 ar:(Qi st).toList=Ls.flatten++post
 mt:ZD 0 Ls (P4 st).toList
 ok:∀L∈Ls,kx κ π L/\L≠[]
 sp:Ls.Pairwise (nL π)
def Ex{xs:Array Q7}{F rest:Ql Q7}(e:xs.toList=F++rest)(h1:nL π F rest)(h2:rest.Pairwise λa b=>π a<=π b):iR π xs F.length:=by
 intro i j Y0 hm hj;have hl:xs.size=F.length+rest.length:=by have:=congrArg List.length e;simpa using this
 have ej:xs[j]?=Qs (rest[j-F.length]'(by lia)):=by rw[<-P9,e,PX hm,O2]
 rw[kc ej];by_cases z:i<F.length
 .have ei:xs[i]?=Qs (F[i]'z):=by rw[<-P9,e,QI z,O2 z]
  rw[kc ei];exact h1 _ (SM _) _ (SM _)
 .have ei:xs[i]?=Qs (rest[i-F.length]'(by lia)):=by rw[<-P9,e,PX (by lia),O2]
  rw[kc ei];by_cases w:i=j
  .subst w;exact QD _
  .exact QK.mp h2 _ _ (by lia) (by lia) (by lia)
def AX{xs:Array Q7}{i:Nat}{z:Q7}(h:xs[i]?=Qs z):rA κ π xs i=rk κ π z:=by unfold rA rk;rw[kc h,kc h]
def Fd{st Uk:QY}{F rest:Ql Q7}{m:Nat}(e:(Qi st).toList=F++rest)(hm:m<=rest.length)(c:ir κ π a₀ kd st F.length (F.length+m) Uk):∃N,(Qi Uk).toList=F++N++rest.drop m/\N.Perm (rest.take m)/\kx κ π N/\N.length=m:=by
 obtain⟨tb,pd,ch,rs⟩:=c;have hl:(Qi st).size=F.length+rest.length:=by have:=congrArg List.length e;simpa using this
 have hl':=ch.size;have t1:(Qi Uk).toList.take F.length=F:=by
  apply QS;intro i;rw[List.getElem?_take];split
  .rename_i hi;have:=ch.out i (.inl hi);rw[P9,this,<-P9,e,QI hi]
  .rename_i hi;rw[SW (by lia)]
 have t2:(Qi Uk).toList.drop (F.length+m)=rest.drop m:=by apply QS;intro i;rw[Sv,Sv,P9,ch.out _ (.inr (by lia)),<-P9,e,PX (by lia)];congr 1;lia
 refine⟨((Qi Uk).toList.drop F.length).take m,?_,?_,?_,?_⟩
 .have q:=PF F.length (Qi Uk).toList;have q2:=PF m ((Qi Uk).toList.drop F.length);rw[UM,t2]at q2;rw[t1,<-q2]at q;rw[PZ];exact q.symm
 .have q:=QG.mp ch.pm;have q0:=PF F.length (Qi Uk).toList;have q2:=PF m ((Qi Uk).toList.drop F.length);rw[UM,t2]at q2;rw[t1,<-q2]at q0;rw[<-q0,e]at q;have q3:=(List.perm_append_left_iff _).mp q;rw[<-PF m rest]at q3;simp only[List.drop_append_of_le_length,PF]at q3;have:rest=rest.take m++rest.drop m:=(PF m rest).symm;rw[this]at q3;have e4:(rest.take m++rest.drop m).drop m=rest.drop m:=by rw[PF]
  rw[e4]at q3;exact(List.perm_append_right_iff _).mp q3
 .unfold kx;rw[QK];intro i j hi hj Y0;simp only[List.getElem_take,List.getElem_drop];have Z3:j<m:=by simp at hj;lia
  have a1:(Qi Uk)[F.length+i]?=Qs ((Qi Uk).toList[F.length+i]'(by simp;lia)):=by rw[<-P9];exact O2 _
  have a2:(Qi Uk)[F.length+j]?=Qs ((Qi Uk).toList[F.length+j]'(by simp;lia)):=by rw[<-P9];exact O2 _
  have:=rs (F.length+i) (F.length+j) (by lia) (by lia) (by lia);rw[AX a1,AX a2]at this;exact this
 .simp;lia
end
section
variable {A:QP}{E:Pl->Pf->Prop}{s:Pf}{κ:Q7->Int}{a₀:Array Q7}(C:XT M A E s κ π a₀ kd)
structure Btw(κ π:Q7->Int)(a₀:Array Q7)(kd:SortKind)(lo:Nat)(st:QY)(Ls:List (List Q7))(rest:List Q7):Prop where
 rn:Runs κ π a₀ kd st Ls rest
 ln:Ls.flatten.length=lo
 sp:nL π Ls.flatten rest
 up:rest.Pairwise λa b=>π a<=π b
def qY(sz lo n:Nat):StateT QY Sem (ForInStep (Qo Unit×Nat)):=do
 let q<-get
 match (P4 q).back? with
 |some (s1,n1,_)=>do
  let r<-forIn [0:sz] ((Qn,()):Qo Unit×Unit) λ_ _=>do
   let q<-get
   match (if(P4 q).size>1 then(P4 q)[(P4 q).size-2]? else Qn) with
   |some (_,_,zgB)=>
    if zgB<=power' sz (2*s1+n1) (2*s1+n1+n1+n) sz then pure (QV (Qn,()))
    else do
     let b<-mergeAt' ((P4 q).size-2)
     if(!b)=Qt then pure (QV (Qs (),())) else pure (P1 (Qn,()))
   |_=>pure (QV (Qn,()))
  match r.fst with
  |some a=>pure (QV (Qs a,lo))
  |none=>do
   modify λq=>setPending q ((P4 q).modify ((P4 q).size-1) λx=>(x.fst,x.2.fst,power' sz (2*s1+n1) (2*s1+n1+n1+n) sz))
   modify λq=>setPending q ((P4 q).push (lo,n,0))
   pure (P1 (Qn,lo+n))
 |_=>do
  modify λq=>setPending q ((P4 q).push (lo,n,0))
  pure (P1 (Qn,lo+n))
def Og{st:QY}{Ls:Ql (Ql Q7)}{N rest:Ql Q7}{n:Nat}(R:Runs κ π a₀ kd st Ls (N++rest))(hl:Ls.flatten.length=lo)(hn:N.length=n)(rN:kx κ π N)(nN:N≠[])(s1:nL π Ls.flatten N)(s2:nL π (Ls.flatten++N) rest)(hu:rest.Pairwise λa b=>π a<=π b):Btw κ π a₀ kd (lo+n) (setPending st ((P4 st).push (lo,n,0))) (Ls++[N]) rest:=by
 refine⟨⟨⟨R.tb.pm,R.tb.kind,R.tb.fld⟩,?_,?_,λL hL=>?_,?_⟩,?_,?_,hu⟩
 .show(Qi st).toList=_;rw[R.ar];simp
 .show ZD 0 (Ls++[N]) ((P4 st).push (lo,n,0)).toList;have:=R.mt.app (N:=N) (pw:=0);rw[Array.toList_push];simpa[hl,hn] using this
 .rcases OT.mp hL with z|z
  .exact R.ok L z
  .rw[O1.mp z];exact⟨rN,nN⟩
 .refine Q6.mpr ⟨R.sp,Qe _ _,λL hL L2 hL2=>?_⟩;rw[O1.mp hL2];exact λa ha b hb=>s1 a (List.mem_flatten.mpr ⟨L,hL,ha⟩) b hb
 .simp[hl,hn]
 .simpa using s2
def yy(sz:Nat):StateT QY Sem Unit:=do
 for _ in [0:sz] do
  let p:=P4 (<-get)
  if p.size<=1 then break
  let i:=p.size-2
  let bf:=if i>0 then p[i-1]?.map (·.2.1) else Qn
  let i:=if bf.any (·<(p[i+1]?.elim 0 (·.2.1))) then i-1 else i
  if !(<-mergeAt' i) then return
def Al{α:Type}{m m':StateT QY Sem α}{Q Q':α->QY->Prop}{st:QY}(h:wpS M A E s m' Q' st)(e:m=m')(g:∀r Uk,Q' r Uk->Q r Uk):wpS M A E s m Q st:=by subst e;exact wpS_mono h g
end
def LA{f n r:Nat}(h:n<64):minRun' (f+1) n r=n+r:=by rw[minRun'_succ,T4 h]
section
variable {A:QP}{E:Pl->Pf->Prop}{s:Pf}{κ:Q7->Int}{a₀:Array Q7}(C:XT M A E s κ π a₀ kd)
def Ga{st:QY}{sz:Nat}{Q:Unit->QY->Prop}(hs:(P4 st).size<=1)(h:Q () st):wpS M A E s (yy sz) Q st:=by
 unfold yy;dsimp only;refine Qv (wpS_mono (wpS_forRange (I:=λx c Uk=>c=(Qn,())/\Uk=st) (Q:=λc Uk=>c=(Qn,())/\Uk=st) ?_ ?_ ⟨rfl,rfl⟩) ?_)
 .rintro x c Vc _ hx ⟨rfl,rfl⟩;refine Qv (wpS_get ?_);rw[T4 hs];exact QZ ⟨rfl,rfl⟩
 .rintro c Vc ⟨rfl,rfl⟩;exact⟨rfl,rfl⟩
 .rintro c Vc ⟨rfl,rfl⟩;exact QZ h
include C in
def FZ{st:QY}{Q:Unit->QY->Prop}(hB:TB a₀ kd st)(hp:P4 st=#[])(ha:Qi st=a₀)(hu:a₀.toList.Pairwise λa b=>π a<=π b)(h2:2<=a₀.size)(h64:a₀.size<64) (h:∀Uk,TB a₀ kd Uk->kx κ π (Qi Uk).toList->Q () Uk):wpS M A E s sortRuns' Q st:=by
 rw[sortRuns'_eq];refine Qv (wpS_get ?_);dsimp only;rw[hB.size];have fin:∀Uk Ls,Runs κ π a₀ kd Uk Ls []->Ls.length<=1->Q () Uk:=λUk Ls R hl=>by
  refine h Uk R.tb ?_;rw[R.ar,PH]
  match Ls,hl,R with
  |[],_,_=>exact List.Pairwise.nil
  |[L],_,R=>simpa using(R.ok L (by simp)).1
 have zee:∀{lo Uk Ls rest},Btw κ π a₀ kd lo Uk Ls rest->lo+rest.length=a₀.size:=λ{lo Uk Ls rest} B=>by have e:=congrArg List.length B.rn.ar;simp only[Tr,Pq,B.ln]at e;rw[B.rn.tb.size]at e;lia
 have mr:minRun' a₀.size a₀.size 0=a₀.size:=by
  obtain⟨f,hf⟩:∃f,a₀.size=f+1:=⟨a₀.size-1,by lia⟩;rw[hf,LA (by lia)]
  try lia
 have last:∀{lo Uk Ls rest},Btw κ π a₀ kd lo Uk Ls rest->a₀.size<=lo->(P4 Uk).size<=1->Ls.length<=1->wpS M A E s (yy a₀.size) Q Uk:=λ{lo Uk Ls rest} B hlo hp1 hl1=>by have e:=zee B;have:rest=[]:=List.length_eq_zero_iff.mp (by lia);subst this;exact Ga hp1 (fin Uk Ls B.rn hl1)
 refine Qv (wpS_forRange (I:=λx c Uk=>∃Ls rest lo,c=(Qn,lo)/\Btw κ π a₀ kd lo Uk Ls rest/\x<=lo/\(lo=0/\Ls=[]/\P4 Uk=#[]\/lo=a₀.size/\(P4 Uk).size<=1/\Ls.length<=1)) ?_ ?_ ?_)
 .rintro x c Xq _ hx ⟨Ls,rest,lo,rfl,B,hxl,dj⟩;dsimp only;have eln:=zee B;by_cases W8:lo≥a₀.size
  .rw[T4 W8];rcases dj with⟨d1,_,_⟩|⟨_,d2,d3⟩
   .lia
   .exact QZ (last B W8 d2 d3)
  rw[Um W8];obtain⟨lo0,ls0,pe0⟩:lo=0/\Ls=[]/\P4 Xq=#[]:=by
   rcases dj with d|⟨d,_⟩
   .exact d
   .lia
  have fr:iR π (Qi Xq) lo:=by
   have:=Ex B.rn.ar B.sp B.up
   rwa [B.ln]at this
  refine Qv (Gd C B.rn.tb fr (by lia) (by lia) λm Vc m1 m2 cn=>?_);have push:∀(n:Nat) (Wo:QY),n=a₀.size->1<=n->n<=rest.length->ir κ π a₀ kd Xq lo (lo+n) Wo->wpS M A E s (qY a₀.size lo n) (λr Uk=>∃Ls rest lo,r=P1 (Qn,lo)/\Btw κ π a₀ kd lo Uk Ls rest/\x+1<=lo/\(lo=0/\Ls=[]/\P4 Uk=#[]\/lo=a₀.size/\(P4 Uk).size<=1/\Ls.length<=1)) Wo:=λn Wo n0 n1 n2 cn=>by
   have cn':ir κ π a₀ kd Xq Ls.flatten.length (Ls.flatten.length+n) Wo:=by rw[B.ln];exact cn
   obtain⟨N,e1,e2,e3,e4⟩:=Fd B.rn.ar n2 cn';have up:=Q6.mp ((PF n rest).symm▸B.up);have pe3:P4 Wo=#[]:=cn.2.1.trans pe0;have bt:=Og (κ:=κ) (π:=π) (a₀:=a₀) (kd:=kd) (st:=Wo) (Ls:=Ls) (N:=N) (rest:=rest.drop n) (lo:=lo) (n:=n) ⟨cn.1,by rw[e1];simp,by rw[cn.2.1];exact B.rn.mt,B.rn.ok,B.rn.sp⟩ B.ln e4 e3 (λz=>by rw[z]at e4;simp at e4;lia) (λa hA b hB=>B.sp a hA b (List.mem_of_mem_take (e2.mem_iff.mp hB))) (by
    intro a hA b hB;rcases OT.mp hA with z|z
    .exact B.sp a z b (S7 hB)
    .exact up.2.2 a (e2.mem_iff.mp z) b hB) up.2.1
   unfold qY;refine Qv (wpS_get ?_);rw[show(P4 Wo).back?=Qn by rw[pe3];rfl];refine Qv (wpS_modify (QZ ⟨_,_,_,rfl,bt,by lia,.inr ⟨by lia,?_,?_⟩⟩))
   .show((P4 Wo).push (lo,n,0)).size<=1;rw[pe3];simp
   .rw[ls0];simp
  dsimp only;by_cases Z2:m<minRun' a₀.size a₀.size 0
  .rw[T4 Z2];refine Qv (wpS_lift (wpAny_rule ⟨rfl,?_⟩));have fr2:iR π (Qi Vc) (lo+m):=by
    have cn':ir κ π a₀ kd Xq Ls.flatten.length (Ls.flatten.length+m) Vc:=by rw[B.ln];exact cn
    obtain⟨N,e1,e2,e3,e4⟩:=Fd B.rn.ar (by lia) cn';have up:=Q6.mp ((PF m rest).symm▸B.up);have:=Ex (F:=Ls.flatten++N) e1 (λa hA b hB=>?_) up.2.1
    .rwa [Pq,B.ln,e4]at this
    .rcases OT.mp hA with z|z
     .exact B.sp a z b (S7 hB)
     .exact up.2.2 a (e2.mem_iff.mp z) b hB
   refine Qv (Ge C cn.1 m1 (by lia) (by lia) fr2 cn.2.2.2 λWo c3=>?_);have hf:ir κ π a₀ kd Xq lo (lo+min (a₀.size-lo) (minRun' a₀.size a₀.size 0)) Wo:=by
    refine⟨c3.1,c3.2.1.trans cn.2.1,?_,c3.2.2.2⟩;have w1:=cn.2.2.1.wide (show lo+m<=lo+min (a₀.size-lo) (minRun' a₀.size a₀.size 0) by lia);have w2:=c3.2.2.1;exact⟨w2.pm.trans w1.pm,λi hi=>(w2.out i hi).trans (w1.out i hi),λi a b=>by
     obtain⟨j,j1,j2,j3⟩:=w2.ins i a b;obtain⟨k,k1,k2,k3⟩:=w1.ins j j1 j2;exact⟨k,k1,k2,j3.trans k3⟩⟩
   rw[Um (by decide)];refine Al (push _ Wo (by lia) (by lia) (by lia) hf) ?_ λr Uk hq=>?_
   .unfold qY;congr 1;funext q;cases(P4 q).back? with
    |none=>rfl
    |some z=>obtain⟨a,b,c⟩:=z;dsimp only;congr 1;funext r;obtain⟨r,_⟩:=r;cases r<;>rfl
   .obtain⟨Ls',zb4,lo',rfl,b1,b2,b3⟩:=hq;exact⟨Ls',zb4,lo',rfl,b1,b2,b3⟩
  .rw[Um Z2];refine Al (push m Vc (by lia) m1 (by lia) cn) ?_ λr Uk hq=>?_
   .unfold qY;congr 1;funext q;cases(P4 q).back? with
    |none=>rfl
    |some z=>obtain⟨a,b,c⟩:=z;dsimp only;congr 1;funext r;obtain⟨r,_⟩:=r;cases r<;>rfl
   .obtain⟨Ls',zb4,lo',rfl,b1,b2,b3⟩:=hq;exact⟨Ls',zb4,lo',rfl,b1,b2,b3⟩
 .rintro c Xq ⟨Ls,rest,lo,rfl,B,hxl,dj⟩;rcases dj with⟨d1,_,_⟩|⟨_,d2,d3⟩
  .lia
  .exact last B (by lia) d2 d3
 .refine⟨[],a₀.toList,0,rfl,⟨⟨hB,by rw[ha];simp,?_,λL hL=>(by cases hL),List.Pairwise.nil⟩,rfl,λa hA=>(by cases hA),hu⟩,O5 _,.inl ⟨rfl,rfl,hp⟩⟩;rw[hp];trivial
end
def aV(p:Int×Int):Int:=p.1*1048576+p.2
def k8(p:Int×Int):Ql (Int×Int)->Ql (Int×Int)
 |[]=>[p]
 |q::r=>if aV p<=aV q then p::q::r else q::k8 p r
def gB:Ql (Int×Int)->Ql (Int×Int)
 |[]=>[]
 |p::r=>k8 p (gB r)
theorem xT(p:Int×Int):∀r:Ql (Int×Int),(k8 p r).Perm (p::r)
 |[]=>QU _
 |q::r=>by
  unfold k8;split
  .exact QU _
  .exact(Sy q (xT p r)).trans (To p q r)
theorem l5:∀r:Ql (Int×Int),(gB r).Perm r
 |[]=>QU _
 |p::r=>(xT p _).trans (Sy p (l5 r))
theorem DR(p:Int×Int):∀r:Ql (Int×Int),r.Pairwise (λa b=>aV a<=aV b)->(k8 p r).Pairwise (λa b=>aV a<=aV b)
 |[],_=>by simp[k8]
 |q::r,h=>by
  unfold k8;have hc:=Pw.mp h;split
  .rename_i hle;refine Pw.mpr ⟨λx hx=>?_,h⟩;rcases OZ.mp hx with z|z
   .rw[z];exact hle
   .exact S6 hle (hc.1 x z)
  .rename_i hle;refine Pw.mpr ⟨λx hx=>?_,DR p r hc.2⟩;rcases OZ.mp ((xT p r).mem_iff.mp hx) with z|z
   .rw[z];lia
   .exact hc.1 x z
theorem uQ:∀r:Ql (Int×Int),(gB r).Pairwise (λa b=>aV a<=aV b)
 |[]=>List.Pairwise.nil
 |p::r=>DR p _ (uQ r)
def Ic{p q:Int×Int}(h1:0<=p.2/\p.2<1048576)(h2:0<=q.2/\q.2<1048576)(h:aV p=aV q):p=q:=by
 unfold aV at h;have:p.1=q.1:=by lia
 have:p.2=q.2:=by lia
 exact Prod.ext ‹_› ‹_›
theorem Ad:∀{xs ys:Ql (Int×Int)},(∀p∈xs,0<=p.2/\p.2<1048576)->xs.Perm ys->xs.Pairwise (λa b=>aV a<=aV b)->ys.Pairwise (λa b=>aV a<=aV b)->xs=ys
 |[],ys,_,p,_,_=>(Ub p)
 |x::xs,[],_,p,_,_=>absurd p.length_eq (by simp)
 |x::xs,y::ys,hb,p,h1,h2=>by
  have c1:=Pw.mp h1;have c2:=Pw.mp h2;have m1:x∈y::ys:=p.mem_iff.mp (OU ..);have m2:y∈x::xs:=p.mem_iff.mpr (OU ..);have e:x=y:=by
   refine Ic (hb x (OU ..)) (hb y m2) ?_;have l1:aV y<=aV x:=by rcases OZ.mp m1 with z|z;rw[z];exact QD _;exact c2.1 x z
   have l2:aV x<=aV y:=by rcases OZ.mp m2 with z|z;rw[z];exact QD _;exact c1.1 y z
   lia
  subst e;rw[Ad (λq hq=>hb q (OS _ hq)) (Su p) c1.2 c2.2]
section
variable {prog:Qz}{w:RZ}{A:QP}{E:Pl->Pf->Prop}{s:Pf}
def nP(z:Q7):Int×Int:=(numOf z.1,numOf z.2)
end
end TS
namespace L2
open PySem.Spec TS
section
variable {X:Cx}{pins:Ql (XW×Obj)}{σ:L2.St}{s:Pf}{h':XX}
def Inv.adopt(I:Inv X pins σ H s)(fp:d4 X pins H a)(k:∀b u,b≠a->s.heap.get? b=Qs u->h'.get? b=Qs u)(new:VQ X.prog X.w (upd H a o) h' a o):Inv X pins σ (upd H a o) { s with heap:=h',toks:=t' }:=by
 have ha:H a=Qn:=fp.1;have sm:∀b u,H b=Qs u->upd H a o b=Qs u:=λb u e=>by rw[aC (λz=>by lia)];assumption
 refine I.step (g':=s.gens) (d':=s.drawn) (ch:=[a]) (λb hb=>?_) (λb u _ _ hc e _=>k b u (λz=>hc (by simp[z])) e) (λb u _ _ hc e _=>⟨u.slots,k b u (λz=>hc (by simp[z])) e⟩) (λb u hc e n=>?_)
  (λb u hc e=>⟨u,k b u (λz=>hc (by simp[z])) e⟩) (λb xs e=>sm b _ e) (λb q u e=>sm b _ e) (λb ps e=>sm b _ e) (λm hm=>?_) (λb u e=>?_) I.bare
 .rw[O1.mp hb];exact⟨fp.2.2.2.1,fp.2.1,fp.2.2.2.2.1,fp.2.2.2.2.2⟩
 .rw[aC (λz=>hc (by simp[z]))];assumption
 .obtain⟨q,es,ep,ho,r⟩:=hm;exact⟨q,es,ep,k _ q (Ne.symm fp.2.1) ho,r⟩
 .by_cases z:b=a
  .subst z;rw[aM]at e;lia
  .rw[aC z]at e;refine(I.UB b u e).XD (λc v hc q=>k c v ?_ q) (λc q=>sm c _ q) (λc xs q=>sm c _ q) λc o u q=>sm c _ q;lia
end
section
variable {prog:Qz}{w:RZ}{A:QP}{E:Pl->Pf->Prop}{s:Pf}
def Az{P:Ql Pl->Prop}(ha1:argsOk "sorted" ⟨[u],kw⟩)(ha2:∀x,argsOk "list.sort" ⟨[.ref x],kw⟩) (col:∀R:Ql Pl->Pf->Prop,(∀(h':XX) (tk:Nat) (us:Ql Pl),(∀b o,s.heap.get? b=Qs o->h'.get? b=Qs o)->s.heap.objs.size<=h'.objs.size->P us->us.length<=100000->R us {s with heap:=h',toks:=tk})->wpAny (model prog w) A.in1 (collect u) R E s) (WZ:∀(h':XX) (tk:Nat) (us:Ql Pl),(∀b o,s.heap.get? b=Qs o->h'.get? b=Qs o)->s.heap.objs.size<=h'.objs.size->P us->us.length<=100000->wpAny (model prog w) A.in1.in1 (Builtin.«list.sort» ⟨[.ref h'.objs.size],kw⟩) (λfin s'=>fin=.done (.ret .none)/\Q (.ref h'.objs.size) s') E {s with heap:=h'.push (seqObj "list" us.toArray 0),toks:=tk}):wpAny (model prog w) A (call (.builtin "sorted") [u] kw) Q E s:=by refine call_function_entry_kw kind_sorted plain_sorted entry_sorted ha1 ?_;refine OX (O8 ?_);refine OX (col _ λh' tk us hk hz hp hl=>?_);refine OX (wpAny_newList ?_ (by rw[sizeLine_eq];lia));refine OX (wpAny_holding (wpAny_call_entry_kw slot_list_sort ⟨_,(Pb _ rfl),rfl⟩ entry_list_sort ?_ (ha2 _)));refine wpAny_mono (WZ _ _ _ hk hz hp hl) (λfin s' hq=>?_) λ_ _ e=>e;obtain⟨rfl,hq⟩:=hq;exact⟨_,rfl,O8 ⟨_,rfl,hq⟩⟩
def NT{n:Nat}(hh:A.handled=Qn)(hr:IsRange s.heap r a b c t u v)(zhK:Builtin.Range.small a b c=Qt)(hn:Builtin.Range.rangeSize a b c=n)(hlen:n<=100000) (h:∀(h':XX) (tk:Nat) (us:Ql Pl),(∀b o,s.heap.get? b=Qs o->h'.get? b=Qs o)->s.heap.objs.size<=h'.objs.size->ItemsOf (λi v=>∃t,v=.int (a+i*c) t) us.toArray n->R us {s with heap:=h',toks:=tk}):wpAny (model prog w) A (collect (.ref r)) R E s:=by
 refine OX (wpAny_runValue (codeAny_builtin entry_proto_collect' ?_));refine OX (wpAny_newObj_type ?_);refine O8 ⟨plainId_quiet RA _,codeAny_builtin entry_list_iadd' ?_⟩;have hS₁:(s.heap.push {cls:=.type "list",data:=.seq ([]:Ql Pl).toArray}).get? s.heap.objs.size=Qs {cls:=.type "list",data:=.seq #[]}:=Pb _ rfl;have key:=wpAny_extend_range (A:=A) (s:={s with heap:=s.heap.push {cls:=.type "list",data:=.seq ([]:Ql Pl).toArray}}) (prog:=prog) (w:=w) (R:=λ(q:Result) (s':Pf)=>∃(h':XX) (tk:Nat) (zac:Array Pl) (c':Nat),q=.ok (.ret (.ref s.heap.objs.size))/\s'={s with heap:=h',toks:=tk}/\ (∀b o,s.heap.get? b=Qs o->h'.get? b=Qs o)/\s.heap.objs.size<=h'.objs.size/\h'.get? s.heap.objs.size=Qs {cls:=.type "list",dict:=Qn,data:=.seq zac c',slots:=#[]}/\ItemsOf (λi v=>∃t,v=.int (a+i*c) t) zac n)
  hh (OV _ hr) zhK hn (by lia) s.heap.objs.size (.ref s.heap.objs.size) 0 hS₁ (λh' tk zac c' hk Yc Zr=>⟨h',tk,zac,c',rfl,rfl,λb o e=>hk b o (Py (Pd e)) (OV _ e),Rm (Pd Yc),Yc,Zr⟩)
 show wpAny _ A.in1 (Builtin.List.listExtendWith (.ref s.heap.objs.size) (.ref r) (.ref s.heap.objs.size)) _ _ _;refine wpAny_mono key (λfin s' x=>?_) λe s' x=>?_
 .cases fin with
  |done f=>obtain⟨h',tk,zac,c',e,rfl,hk,hz,Yc,Zr⟩:=x;cases e;refine OX (wpAny_load Yc ?_);exact O8 (h _ _ _ hk hz (Zr))
  |again c₁=>refine⟨x.1,codeAny_mono x.2 λq s₂ y=>?_⟩;obtain⟨h',tk,zac,c',rfl,rfl,hk,hz,Yc,Zr⟩:=y;refine OX (wpAny_load Yc ?_);exact O8 (h _ _ _ hk hz (Zr))
 .simp_all
end
end L2
namespace DL
open PySem.Spec L2 TS
noncomputable def ah(n:Nat):Ql Int:=(P0 n).map λ(i:Nat)=>(i:Int)
def rW(n:Nat):(ah n).length=n:=by simp[ah]
def Cv{n i:Nat}(h:(ah n)[i]?=Qs x):x=(i:Int)/\i<n:=by
 unfold ah at h;rw[Pr]at h;rcases e:(P0 n)[i]? with _|j
 .rw[e]at h;cases h
 rw[e]at h;obtain⟨h1,h2⟩:=Pu.mp e;simp at h1 h2
 simp_all
def Lk(n:Nat):(ah n).Pairwise (·<=·):=by unfold ah;rw[Qj];exact(RI).imp λ{a b} h=>by lia
def Lm(n:Nat)(h:n<=100000):∀x∈ah n,0<=x/\x<1048576:=λx hx=>by obtain⟨i,hi⟩:=RT.mp hx;obtain⟨e,l⟩:=Cv hi;lia
def MI(h:ItemsOf (λi v=>∃t,v=.int ((0:Int)+i*1) t) us.toArray n):IntsAre us (ah n):=by
 have l:us.length=n:=h.1;have q:=intsAre_map _ λv hv=>by obtain⟨i,hi⟩:=RT.mp hv;obtain⟨t,e⟩:=h.2 i v (by simpa using hi);exact⟨_,t,e⟩
 have e:us.map numOf=ah n:=by
  apply QS;intro i;rw[Pr];unfold ah;rw[Pr];by_cases hi:i<n
  .have hu:us[i]?=Qs _:=O2 (by lia);obtain⟨t,e⟩:=h.2 i (us[i]'(by lia)) (by simp);rw[hu,e,QJ hi];simp[numOf]
  .simp_all
 lia
def C6(h0:0<=i)(h1:i<=100000):Builtin.Range.rangeFitsLong i=Qt:=by unfold Builtin.Range.rangeFitsLong;have e:(2:Int)^63=9223372036854775808:=rfl;simp;lia
def AA(h0:0<=n)(h1:n<=100000):Builtin.Range.small 0 n 1=Qt:=by
 have rs:Builtin.Range.rangeSize 0 n 1=n:=by simp only[Builtin.Range.rangeSize];lia
 unfold Builtin.Range.small;rw[rs,C6 h0 h1,T4 (by lia),C6 (i:=n+(1-1)) (by lia) (by lia),QE];rfl
def My(a v:Pl):argsOk "sorted" ⟨[a],[(Str.ofString "key",v)]⟩:=ksk_s1 a v
def Mz(a v:Pl):argsOk "list.sort" ⟨[a],[(Str.ofString "key",v)]⟩:=ksk_l1 a v
def _root_.L2.UU.zhj(r:UU (k+3) A)(env:Env):UU k (A.in1.in1.deeper env):=r.in1.in1.deeper _
open PySem.Spec L2
def oS(i:Nat):Th->Nat:=λt=>match t[i]? with
 |some (.val (.int n))=>n.natAbs+1
 |_=>0
end DL
namespace TS
def zaW(h:XX)(d:XW)(es:Array DictEntry)(ep:Nat):Prop:=∃o,h.get? d=Qs o/\o.ExactDict/\o.data=.dict es ep
def zaW.ty{s:Pf}(x:zaW s.heap d es ep):s.TypeIs (.ref d) "dict":=let ⟨o,a,r,_⟩:=x;⟨o,a,r.1⟩
section
variable {prog:Qz}{w:RZ}{A:QP}{E:Pl->Pf->Prop}{s:Pf}
def Im(nm:(d == sysModules)=Qf)(x:zaW s.heap d es ep)
  (q:Q (.ref s.heap.objs.size) { s with heap:=s.heap.push { cls:=.type "dict_keyiterator",data:=.fields #[.ref d,.int 0 0,.int es.size 0,.int ep 0] } }):wpAny (model prog w) A (pyIter (.ref d)) Q E s:=by have ty:=x.ty;obtain⟨o,a,r,dd⟩:=x;refine wpAny_pyIter_slot ty SO (wpAny_call_entry SO ty PySem.F.entry_dict_iter ?_ (PySem.F.args_dict_iter_1 _));refine OX (OX (wpAny_notOrdered_dict ty ?_));refine O8 ?_;show wpAny _ _ (Builtin.Dict.showsAll d >>= _) _ _ s;unfold Builtin.Dict.showsAll;rw[Um (by lia)];refine OX (O8 (OX (wpAny_dictEntries a dd (OX (wpAny_dictEpoch a dd ?_)))));exact OX (wpAny_newObj_type (O8 ⟨_,rfl,_,_,⟨_,Pb _ rfl,rfl⟩,PySem.F.slot_dict_keyiterator_next.lookup, ‹_›⟩))
def Io{it d:XW}{i ep:Nat}{es:Array DictEntry}{Q:Qo Pl->Pf->Prop}(ki:s.heap.IsKeyIter it d i es.size ep)(x:zaW s.heap d es ep)(hi:i<es.size)
  (q:∀h',h'.IsKeyIter it d (i+1) es.size ep->Heap.SameBut it s.heap h'->Q (Qs es[i].key) { s with heap:=h' }):wpAny (model prog w) A (pyNext (.ref it)) Q E s:=by
 have ty:=ki.typeIs;obtain⟨o,ho,hc,hd⟩:=ki;obtain⟨od,a,r,dd⟩:=x;have ow:Builtin.Dict_items.ownsTuple "dict_keyiterator"=Qf:=by decide
 have nn : ¬ ((Ph d == Sr)=Qt):=O3;unfold pyNext;refine OX (wpAny_attempt (wpAny_callSpecial?_slot (name:=Str.ofString "__next__") ty Qw (wpAny_call_entry Qw ty Rr ?_ (Ro _))));refine OX (O8 (OX (OX ?_)))
 first | refine OX (wpAny_typeNameOfWhole_keyiter ty (O8 (OX (wpAny_fieldsOf ho hd ?_)))) |refine OX (wpAny_typeNameOf_keyiter ty (O8 (OX (wpAny_fieldsOf ho hd ?_))))
 simp only[ow,PU,if_false];show wpAny _ _ (if(Ph d == Sr)=Qt then _ else _) _ _ s;rw[Um nn];refine OX (O8 (OX (wpAny_dictEntries a dd ?_)));rw[Um (by simp)];refine OX (O8 (OX (wpAny_dictEpoch a dd ?_)));rw[Um (by simp)];refine O8 ?_;have ng : ¬ ((i:Int)<0):=by lia
 simp only[ng,if_false,TU,Array.getElem?_eq_getElem hi];refine OX ?_
 first | refine OX (wpAny_typeNameOfWhole_keyiter ty (O8 (OX (wpAny_isOneOf_keyiter ty ?_)))) |refine OX (wpAny_typeNameOf_keyiter ty (O8 (OX (wpAny_isOneOf_keyiter ty ?_))))
 show wpAny _ _ (setField (.ref it) 1 (rawInt ((i:Int)+1)) >>= _) _ _ s;refine OX (wpAny_setField ho hd (by simp) ?_);have k2:(s.heap.update it (Obj.mapFields (·.setIfInBounds 1 (rawInt ((i:Int)+1))))).IsKeyIter it d (i+1) es.size ep:=⟨_,RQ _ ho (Obj.isFreed_of_fields (Obj.data_mapFields hd _)),(Obj.cls_mapFields ..).trans hc,by rw[Obj.data_mapFields hd];simp[rawInt]⟩;refine OX (wpAny_holding (OX (wpAny_isOneOf_keyiter (s:={ s with heap:=s.heap.update it (Obj.mapFields (·.setIfInBounds 1 (rawInt ((i:Int)+1)))) }) k2.typeIs ?_)));show wpAny _ _ (pure es[i].key) _ _ _;exact O8 (O8 ⟨_,rfl,O8 (q _ k2 (Heap.SameBut.update ..))⟩)
def Ip(hh:A.handled=Qn)(ki:s.heap.IsKeyIter it d es.size es.size ep)(x:zaW s.heap d es ep) (q:∀h',Heap.ExtBut it s.heap h'->Q Qn {s with heap:=h'}):wpAny (model prog w) A (pyNext (.ref it)) Q E s:=by
 have ty:=ki.typeIs;obtain⟨o,ho,hc,hd⟩:=ki;obtain⟨od,a,r,dd⟩:=x;have ow:Builtin.Dict_items.ownsTuple "dict_keyiterator"=Qf:=rfl;have nn:¬((Ph d==Sr)=Qt):=O3;refine OX (wpAny_attempt (wpAny_callSpecial?_slot ty Qw (wpAny_call_entry Qw ty Rr ?_ (Ro _))));refine OX (O8 (OX (OX ?_)))
 first|refine OX (wpAny_typeNameOfWhole_keyiter ty (O8 (OX (wpAny_fieldsOf ho hd ?_))))|refine OX _
 show wpAny _ _ (if(Ph d==Sr)=Qt then _ else _) _ _ s;refine OX (O8 (OX (wpAny_dictEntries a dd ?_)));rw[Um (by simp)];refine OX (O8 (OX (wpAny_dictEpoch a dd ?_)));rw[Um (by simp)];refine O8 ?_;simp;refine OX ?_
 first|refine OX (wpAny_typeNameOfWhole_keyiter ty (O8 ?_))|refine OX (wpAny_typeNameOf_keyiter ty (O8 ?_))
 show wpAny _ _ (setField (.ref it) 0 .none>>=_) _ _ s;refine OX (wpAny_setField ho hd (by simp) ?_);show wpAny _ _ (newExc (.type "StopIteration") []>>=_) _ _ _;refine OX ?_;simp only[newExc,newTuple];refine OX (wpAny_newObj_type (OX (m:=firstArgMember _ _) (wpAny_of_eq (a:=Sr) (by rfl) ?_)) (by size_fits));refine wpAny_newObj_type ?_ (by size_fits);simp only[raiseNew];refine OX (wpAny_handled ?_);rw[show A.in1.handled=Qn from hh];refine OX (O8 (wpAny_throw ?_));refine OX (wpAny_isInstance (T:= "StopIteration") (b:=Qt) ⟨_,Pb _ rfl,rfl⟩ isSubtype_stop ?_);exact O8 (q _ (((Heap.SameBut.update ..).extBut.push _).push _))
end
def lK(h:XX)(a:XW)(p:Int×Int):Prop:=∃o t1 t2 n,h.get? a=Qs o/\o.cls=.type "tuple"/\o.data=.seq #[.int p.1 t1,.int p.2 t2] n
def adr:Pl->XW
 |.ref a=>a
 |_=>0
section
variable {prog:Qz}{w:RZ}{A:QP}{E:Pl->Pf->Prop}{s:Pf}
def NY{f:XW->Int×Int}(hk:∀z∈a₀.toList,∃a,z.1=.ref a/\lK s.heap a (f a)/\0<=(f a).2/\(f a).2<1048576):XT (model prog w) A E s (λz=>aV (f (adr z.1))) (λ_=>0) a₀ (tuples' Qt) where
 lt:=λst x y Q WN mx my h=>by
  obtain⟨a,ea,⟨o,t1,t2,n,g,c,d⟩,l1,l2⟩:=hk x mx;obtain⟨b,eb,⟨o',u1,u2,n',g',c',d'⟩,m1,m2⟩:=hk y my;have ex:aV (f (adr x.1))=(f a).1*1048576+(f a).2:=by rw[ea];rfl
  have ey:aV (f (adr y.1))=(f b).1*1048576+(f b).2:=by rw[eb];rfl
  rw[lt'_eq];refine Qv (wpS_get ?_);rw[WN,ea,eb];refine Qv (wpS_lift (wpAny_attempt (Tt g d g' d' (Ry (wpAny_eqBool_int (UO (λe=>?_) λe=>?_))))))
  .have e:(f a).1=(f b).1:=of_decide_eq_true e;refine Sj (Ry (wpAny_eqBool_int (UO (λe2=>?_) λe2=>?_)))
   .refine Sj (Ur ⟨rfl,?_⟩);rw[show aV _=aV (f (adr y.1)) by rw[ex,ey,e,(of_decide_eq_true e2)]]at h;simpa using QZ h
   .refine Tu (PySem.W.kat_one _ _ (lt_int ?_));refine⟨rfl,?_⟩;rw[show decide _=decide ((f a).2<(f b).2) by simp_all]at h;exact QZ h
  .refine Tu (oneLt_int ⟨rfl,?_⟩);rw[show decide _=decide ((f a).1<(f b).1) by lia]at h;exact QZ h
 pi:=λx _=>⟨QD _,by decide⟩
def Js{α:Type}{R:α->α->Prop}:∀{l:Ql α},l.length<=1->l.Pairwise R
 |[],_=>List.Pairwise.nil
 |[z],_=>Qe _ _
theorem Bt{f:XW->Int×Int}:∀{bs:Ql XW},(∀b∈bs,lK h b (f b))->∃fs:Ql Pl,Us h (bs.map Ph) fs/\fs.length=bs.length/\∀v∈fs,∃n t,v=.int n t
 |[],_=>⟨[],.nil,rfl,λv hv=>by cases hv⟩
 |b::bs,ht=>by
  obtain⟨fs,k,l,r⟩:=Bt λx hx=>ht x (OS _ hx);obtain⟨o,t1,t2,n,e,c,d⟩:=ht b (OU ..);refine⟨_,.cons e c d rfl k,by simp[l],λv hv=>?_⟩;rcases OZ.mp hv with z|z
  .exact⟨_,_,z⟩
  .exact r v z
end
end TS
namespace DL
open PySem.Spec L2
def Pn(I:Ql Nat)(σ σ':L2.St):Prop:=∀i∈I,σ'[i]?=σ[i]?
inductive dP(K:OQ)(F:List XW)(I:List Nat)(g:DS)(E:Ends)(σ:L2.St)(H:Hp):Prop
 |mk (A t t':_) (_:RS K F H A t σ) (_:g t=Qs (.nx t')) (_:∀σ' H' A',Gr A H A' H'->RS K F H' A' t' σ'->Pn I σ σ'->E.nx σ' H')
def kz(g:DS):Prop:=∀t o,g t=Qs o->∃t',o=.nx t'
section
variable {X:Cx}{F:Ql XW}{I:Ql Nat}{a b c:XY}{es:Ql XY}{fa:DE}{g g1 g2:DS}{ft:DT}{st:XZ}
def dO(h1:PS X st (dP X.K F I g1))(h2:UL X rest (dP X.K F I g2)):UL X (st::rest) (dP X.K F I (aB g1 g2)):=by
 refine UL.imp (vY h1 h2) ?_;rintro E σ H ⟨A,t,t2,R,e,h⟩;refine aq e λo1 e1 e=>?_;cases o1 with
 |nx t'=>exact⟨A,t,t',R,e1,λσ' H' A' g' R' n'=>⟨A',t',t2,R',e,λZI YJ A'' g'' R'' n''=>h _ _ _ (g'.trans g'') R'' λi hi=>(n'' i hi).trans (n' i hi)⟩⟩
 |rt r=>cases e
 |bk t2=>cases e
 |ct t2=>cases e
def mf(h1:PS X st (dP X.K F I g1)):UL X [st] (dP X.K F I g1):=nT h1
end
end DL
namespace L2
open PySem.Spec
section
variable {X:Cx}
def Hn(te:TE)(g1 g2:TG):TS:=λD σ H=>te σ H λx H1=>g1 x σ H1 λσ2 H2=>g2 x σ2 H2 D.nx
def Jo(he:PE X e te)(hg1:PG X t1 g1)(hg2:PG X t2 g2)(hs:swapsWithSole [t1,t2] e pos.line X.env=pure Qf:=by rfl)(hw:swappedStores [t1,t2] e X.env=pure Qn:=by rfl) (h1:(assignEach [t1,t2] X.env).map (·.2)=[assign t1 X.env,assign t2 X.env]:=by rfl):PS X (.Assign [t1,t2] e pos) (Hn te g1 g2):=by intro pins s σ H D I h;refine wpAny_Assign_stores (aA (he _ s σ H _ I h) λv s1 ⟨x,H1,I1,r1,q1⟩=>?_) hs hw;rw[h1];refine OX (wpAny_holding (aA (hg1 _ _ σ _ x v _ I1 r1 q1) λ_ s2 q=>?_));obtain⟨σ2,H2,I2,q2⟩:=q;exact aA (hg2 _ _ _ _ x v _ I2 r1 q2) λ_ s3 ⟨σ',H',I',q⟩=>⟨σ',H',I',q⟩
def vQ:V->V->V->Hp->(Hp->Prop)->Prop:=λo i v H Q=>∃p H',o=.ref p/\zaX H p i v H'/\Q H'
def HI(hu:X.A.units+1<cLine):uf X vQ:=by intro pins s σ H o i v ov iv u Q I ro ri rv h;obtain⟨p,H',rfl,g,q⟩:=h;cases ro;exact NJ hu I g ri rv λs' I'=>⟨H',I',q⟩
end
end L2
namespace DL
open PySem.Spec L2
def zv(K:OQ)(F:Ql XW)(g:TG)(k:D->Th->Qo Th):Prop:=∀σ H A t t' d (Q:L2.St->Hp->Prop),RS K F H A t σ->aQ d=Qt->k d t=Qs t'->After K F A H Q t'->g (sV d) σ H Q
section
variable {X:Cx}{F:Ql XW}{a b c:XY}{es:Ql XY}{fa:DE}{g g1 g2:DS}{gt2:TG}{kt2:D->Th->Qo Th}
def gO(i:Nat)(fk:DE):D->Th->Qo Th:=λd t=>match o5 i fk (dC d) t with
 |some (.nx t')=>Qs t'
 |_=>Qn
def An:zv X.K F (yg (uH i) (dE X.K F fb) vQ) (gO i fb):=by
 intro σ H A t t' d Q R sd e h;unfold gO o5 at e;simp only[dC,OY]at e;rcases e2:fb t with _|kk
 .rw[e2]at e;cases e
 rw[e2]at e;simp at e;rcases eo:oF t i _ _ with _|o
 .rw[eo]at e;cases e
 rw[eo]at e;unfold oF at eo;split at eo
 case h_2=>cases eo
 rename_i ks ds k z ek;replace eo:=Vm eo;obtain⟨ok,eo⟩:=eo;simp only[O6,VH]at ok;cases eo;cases e;obtain⟨p,a1,a2,l,hp,mk⟩:=R.zgv z ok.1.1;refine⟨_,a1,A,t,kk,R,e2,λy H2 gs q2=>?_⟩;have ey:=Mq q2.full ek;subst ey;obtain⟨pz,pl⟩:=IK k d l;obtain⟨A2,R',g'⟩:=mk _ _ _ gs pl (IM sd ok.1.1);refine⟨p,_,rfl,zaX.k (gs _ _ hp) (by
  unfold d5;rw[Si];exact PR (Nat.min_le_left _ _) (O9 ok.2 (by decide))),?_⟩
 rw[pz];exact h _ _ _ g' R'
def tR(k1 k2:D->Th->Qo Th)(f:DE):DS:=λt=>(f t).bind λr=>if aQ r.d then(k1 r.d t).bind λt1=>(k2 r.d t1).map Out.nx else Qn
def Ji(he:PE X a (dE X.K F fa))(hg1:PG X t1 gt)(hg2:PG X t2 gt2)(h1:zv X.K F gt kt)(h2:zv X.K F gt2 kt2)(hs:swapsWithSole [t1,t2] a pos.line X.env=pure Qf:=by rfl)(hw:swappedStores [t1,t2] a X.env=pure Qn:=by rfl) (hh:(assignEach [t1,t2] X.env).map (·.2)=[assign t1 X.env,assign t2 X.env]:=by rfl):PS X (.Assign [t1,t2] a pos) (dS X.K F (tR kt kt2 fa)):=by
 refine PS.imp (Jo he hg1 hg2 hs hw hh) ?_;rintro E σ H ⟨A,t,o,R,e,h⟩;unfold tR at e;rcases e1:fa t with _|r
 .rw[e1]at e;cases e
 rw[e1]at e;simp only[OY]at e;replace e:=Vm e;obtain⟨sd,e⟩:=e;rcases e3:kt _ t with _|ta
 .rw[e3]at e;cases e
 rw[e3]at e;simp only[OY]at e;rcases e4:kt2 _ _ with _|tb
 .rw[e4]at e;cases e
 rw[e4]at e;cases e;refine⟨A,t,r,R,e1,λv H1 gs q=>?_⟩;have ev:=vP q.full sd;subst ev;refine h1 σ _ A t _ _ _ (R.grow gs) sd e3 λσ2 H2 A2 VZ R2=>?_;refine h2 _ _ _ _ _ _ _ R2 sd e4 λσ3 H3 A3 Xi R3=>?_;exact h _ _ _ (((Gr.of_same R.mu.left gs).trans VZ).trans Xi) R3
def BI(i:Nat){p0:Pos}(hu:X.A.units+64<cLine)(hb:PE X b (dE X.K F fb))(hN:X.N[i]?=Qs x:=by rfl)(hv:autoParam (cJ X.env.scope x) qzA._auto_1)(hd:Vf x:=by decide) (UY:VX x:=by decide) (ha:∀v,assign (.Subscript (.Name x p0) b V3) X.env v=(do
   let ov<-holding [v] (eval (.Name x p0) X.env)
   let iv<-holding [v,ov] (eval b X.env)
   standAt V3
   holding [v,ov,iv] (setItem ov iv v)
   release [v,ov,iv] []):=by intro _;rfl):PG X (.Subscript (.Name x p0) b V3) (yg (uH i) (dE X.K F fb) vQ):=wC (dg hN hv hd UY) hb (HI (by lia)) ha
end
end DL
namespace TS
section
variable {prog:Qz}{w:RZ}{A:QP}{E:Pl->Pf->Prop}{s:Pf}
theorem EO{items:Array Pl}{St:Nat->XX->Prop}(W:Walks prog w A I fp [I] items.size (λi v=>items[i]?=Qs v) St):∀(n i:Nat) (s:Pf) (Q:Ql Pl->Pf->Prop),St i s.heap->i+n<=items.size ->(∀h' tk,St (i+n) h'->(∀b o,b≠I->s.heap.get? b=Qs o->h'.get? b=Qs o)->Q ((items.toList.drop i).take n) { s with heap:=h',toks:=tk })->wpAny (model prog w) A (draw (.ref I) n) Q E s
 |0,i,s,Q,st,_,hQ=>by exact O8 (by simp_all)
 |n+1,i,s,Q,st,hle,hQ=>by
  have lt:i<items.size:=by lia
  refine OX (W.item i s _ _ lt st λv h1 tk p Xq k1=>?_);have ev:v=items[i]:=by
   simp_all
  subst ev;refine OX (wpAny_holding (EO W n _ _ _ Xq (by lia) λh2 tk2 Vc k2=>O8 ?_));have hd:items.toList.drop i=items[i]::items.toList.drop (i+1):=by simp[Qm,lt]
  grind
def Gn(hh:A.handled=Qn)(hl:s.heap.IsList l items)(hn:targets.length=items.size)(hs:targets.findIdx? (·.1)=Qn) (h:∀h' tk,(∀b o,s.heap.get? b=Qs o->h'.get? b=Qs o)->wpAny (model prog w) A (assignInOrder (targets.map (·.2)) items.toList) Q E {s with heap:=h',toks:=tk}):wpAny (model prog w) A (unpack (.ref l) targets) Q E s:=by
 unfold unpack;rw[hn,hs];refine OX (wpAny_holding ?_);refine OX ?_;refine OX (wpAny_specialOf hl.typeIs PySem.F.slot_list_iter.lookup ?_);refine O8 ?_;refine OX (wpAny_holding (wpAny_pyIter_list hl ?_));have W:=Walks.list (prog:=prog) (w:=w) hh _ l (Py (by obtain⟨o,g,_⟩:=hl;exact Pd g)) items;refine OX (wpAny_holding (EO W _ 0 _ _ ⟨⟨_,Pb _ rfl,rfl,rfl⟩,hl.push _⟩ (by lia) λh1 tk Xq k1=>?_));have Y3:List.take items.size (List.drop 0 items.toList)=items.toList:=by exact RF (by simp)
 rw[Y3,Um (by simp)];rw[Rn]at Xq;refine OX (wpAny_holding (W.done _ _ _ Xq λh2 tk2 k2=>?_));refine O8 (h _ _ λb o e=>k2 b o (λz=>absurd (Pd e) (by simp_all)) (k1 b o (Py (Pd e)) (OV _ e)))
end
end TS
namespace L2
open PySem.Spec TS
section
variable {X:Cx}
def oQ(K:OQ)(n:Nat)(t:ku):TG:=λv σ H Q=>∃a xs,v=.ref a/\Ux K H a xs/\xs.length=n/\t xs σ H Q
def JN{k:Nat}(hc:X.calm=Qt)(h:pN X es t)(hn:(assignEach es X.env).length=n:=by rfl)(U6:(assignEach es X.env).findIdx? (·.1)=Qn:=by rfl):PG X (.Tuple es k pos) (oQ X.K n t):=by intro pins s σ H v u Q I r hw;obtain⟨a,xs,e1,hq,hl,hw⟩:=hw;subst e1;cases r;obtain⟨T5,rv,pl,hz⟩:=I.list hq;refine OX (wpAny_standAt (Gn (I.ok.hd hc) (DL.PlainL.Wa pl) (by simp[hn,<-hl,rv.length]) U6 λh' tk hk=>?_));exact h _ _ σ H _ _ Q (I.kept hk) (rv) hw
end
end L2
namespace DL
open PySem.Spec L2
def jg(n:Nat)(k:Ql D->Th->Qo Th):D->Th->Qo Th:=λd t=>match d with
 |.lst ds=>if ds.length=n then k ds t else Qn
 |_=>Qn
def GJ (h2:pI K F g' k'):cC K F (oQ K n g') (jg n k'):=by
 intro σ H A t t' d x Q R r e h;unfold jg at e;split at e
 .split at e
  .cases r with
   |@lst _ p vs h1 hr=>exact⟨p,vs,rfl,Ux.mono (aR _ _) h1,by rw[hr.length];assumption,h2 σ H A t _ _ _ Q R hr e h⟩
  .cases e
 .cases e
end DL
namespace L2
open PySem.Spec
def Il(h:j8 k v=Qt):RelV (kV k) v:=by
 rcases iE h with⟨i,t,rfl,rfl⟩|⟨x,t,rfl,rfl⟩
 .exact⟨t,rfl⟩
 .exact⟨t,rfl⟩
end L2
namespace TS
section
variable {prog:Qz}{w:RZ}{A:QP}{E:Pl->Pf->Prop}{s:Pf}
def NX{a₀:Array Q7}{f:XW->Int×Int}(hk:∀z∈a₀.toList,∃a,z.1=.ref a/\lK s.heap a (f a)/\0<=(f a).2/\(f a).2<1048576)(π:Q7->Int)(hp:∀z∈a₀.toList,0<=π z/\π z<1048576):XT (model prog w) A E s (λz=>aV (f (adr z.1))) π a₀ (tuples' Qt) where
 lt:=(NY hk).lt
 pi:=hp
def nQ(f:XW->Int×Int)(z:Q7):Int×Int:=(aV (f (adr z.1)),numOf z.2)
end
end TS
namespace L2
open PySem.Spec TS
def jG(h:XX)(b:XW):Int×Int:=match h.get? b with
 |some o=>(match o.data with
  |.seq a _=>(match a.toList with
   |[.int x _,.int y _]=>(x,y)
   |_=>(0,0))
  |_=>(0,0))
 |none=>(0,0)
def Ai{h:XX}{b:XW}{p:Int×Int}(x:lK h b p):jG h b=p:=by obtain⟨o,t1,t2,n,e,c,d⟩:=x;unfold jG;rw[e];simp only[d]
def Ay{X:Cx}{pins:Ql (XW×Obj)}{s:Pf}{σ:L2.St}(I:Inv X pins σ H s){b:XW}{p:Int×Int}(h:UJ X.K H b [.int p.1,.int p.2]):lK s.heap b p:=by obtain⟨T5,rv,it,_⟩:=I.tuple h;obtain⟨o,e,c,n,d⟩:=it;obtain⟨u,v,rfl,r1,r2⟩:=rv.two;obtain⟨t1,rfl⟩:=r1;obtain⟨t2,rfl⟩:=r2;exact⟨o,t1,t2,n,e,c,d⟩
end L2
namespace DL
open PySem.Spec L2 TS
def gN(fb:DE)(cs:Ql D):Ql Int->Qo (Ql (Int×Int))
 |[]=>Qs []
 |x::r=>(fb (.val (.int x)::cs.map Sl.val)).bind λe=>match e.d with
  |.tup [.int k,.int l]=>if 0<=l/\l<1048576 then(gN fb cs r).map ((k,l)::·) else Qn
  |_=>Qn
theorem Du{fb:DE}{cs:Ql D}:∀{ns:Ql Int}{ks:Ql (Int×Int)},gN fb cs ns=Qs ks->ks.length=ns.length
 |[],ks,e=>by cases e;rfl
 |x::r,ks,e=>by
  unfold gN at e;rcases e1:fb (.val (.int x)::cs.map Sl.val) with _|q
  .rw[e1]at e;cases e
  rw[e1]at e;simp only[OY]at e;split at e
  case h_2=>cases e
  rename_i k l z;replace e:=Vm e;obtain⟨_,e⟩:=e;rcases e2:gN fb cs r with _|ks'
  .rw[e2]at e;cases e
  rw[e2]at e;cases e;simp[Du e2]
theorem Dv{fb:DE}{cs:Ql D}:∀{ns:Ql Int}{ks:Ql (Int×Int)}{i:Nat}{x:Int},gN fb cs ns=Qs ks->ns[i]?=Qs x->∃rr m,fb (.val (.int x)::cs.map Sl.val)=Qs rr/\rr.d=.tup [.int m.1,.int m.2]/\ks[i]?=Qs m/\0<=m.2/\m.2<1048576
 |[],ks,i,x,_,h=>by simp at h
 |y::r,ks,i,x,e,h=>by
  unfold gN at e;rcases e1:fb (.val (.int y)::cs.map Sl.val) with _|q
  .rw[e1]at e;cases e
  rw[e1]at e;simp only[OY]at e;split at e
  case h_2=>cases e
  rename_i k l z;replace e:=Vm e;obtain⟨hb,e⟩:=e;rcases e2:gN fb cs r with _|ks'
  .rw[e2]at e;cases e
  rw[e2]at e;cases e;cases i with
  |zero=>simp at h;subst h;exact⟨q,(k,l),e1,z,rfl,hb⟩
  |succ i=>obtain⟨rr,m,a1,a2,a3,a4⟩:=Dv e2 (by simpa using h);exact⟨rr,m,a1,a2,by simpa using a3,a4⟩
def Ig{d1 d2:D}{vs:Ql V}(h:TZ K H [d1,d2] vs):∃v1 v2,vs=[v1,v2]/\Rep K H d1 v1/\Rep K H d2 v2:=by
 cases h with
 |cons a r=>
  cases r with
  |cons b r=>cases r;exact⟨_,_,rfl,a,b⟩
end DL
namespace TS
section
variable {prog:Qz}{w:RZ}{A:QP}{E:Pl->Pf->Prop}{s:Pf}
def HW{α:Type}{cont:QY->Sem α}{P:α->Pf->Prop}{f:XW->Int×Int}{bs:Ql XW}{vs:Ql Pl}{ns:Ql Int}(ht:∀b∈bs,lK s.heap b (f b))(hb:∀b∈bs,0<=(f b).2/\(f b).2<1048576)(hv:IntsAre vs ns)(hl:bs.length=ns.length)(h64:vs.length<64)(hn:∀n∈ns,0<=n/\n<1048576)(hu:ns.Pairwise (·<=·)) (h:∀Uk,(Qi Uk).size=vs.length->failedOf Uk=Qn->IntsAre ((Qi Uk).map (·.2)).toList ((gB ((bs.map λb=>aV (f b)).zip ns)).map (·.2))->wpAny (model prog w) A (cont Uk) P E s):wpAny (model prog w) A (do
   let kind<-if vs.toArray.size<2 then pure general' else keyKind' (bs.map Ph).toArray
   let ((),st)<-(if vs.toArray.size<2 then pure () else sortRuns').run (SortSt.mk' kind ((bs.map Ph).toArray.zip vs.toArray) #[] 7 Qn)
   cont st) P E s:=by
 have lv:vs.length=ns.length:=hv.length;have ez:((bs.map Ph).toArray.zip vs.toArray).toList=(bs.map Ph).zip vs:=by rw[ksk_zip]
 have key:∀z∈((bs.map Ph).toArray.zip vs.toArray).toList,(∃b∈bs,z.1=.ref b)/\∃n t,z.2=.int n t/\n∈ns:=λz hz=>by rw[ez]at hz;obtain⟨z1,z2⟩:=z;have m:=RD hz;obtain⟨n,t,e⟩:=hv.all _ m.2;obtain⟨b,mb,eb⟩:=Pj.mp m.1;refine⟨⟨b,mb,eb.symm⟩,n,t,e,?_⟩;rw[<-hv.nums];exact Pj.mpr ⟨z2,m.2,by rw[e];rfl⟩
 have npz:((bs.map Ph).zip vs).map (nQ f)=(bs.map λb=>aV (f b)).zip ns:=by
  have e1:(bs.map λb=>aV (f b))=(bs.map Ph).map λv=>aV (f (adr v)):=by rw[Pe];rfl
  rw[<-hv.nums,e1,List.zip_map];rfl
 have out:∀arr:Array Q7,arr.Perm ((bs.map Ph).toArray.zip vs.toArray)->kx (λz=>aV (f (adr z.1))) (λz=>numOf z.2) arr.toList->arr.size=vs.length/\IntsAre (arr.map (·.2)).toList ((gB ((bs.map λb=>aV (f b)).zip ns)).map (·.2)):=λarr hp hr=>by
  have Vu:=QG.mp hp;have p1:(arr.toList.map (nQ f)).Perm ((bs.map λb=>aV (f b)).zip ns):=by rw[<-npz,<-ez];exact Vu.map (nQ f)
  have p2:(arr.toList.map (nQ f)).Pairwise (λa b=>aV a<=aV b):=Qj.mpr hr;have e:arr.toList.map (nQ f)=gB ((bs.map λb=>aV (f b)).zip ns):=Ad (λp YX=>by
   obtain⟨k,n⟩:=p;have:=p1.mem_iff.mp YX;exact hn n (RD this).2) (p1.trans (l5 _).symm) p2 (uQ _)
  refine⟨by rw[hp.size_eq,Tv,Pg,Pg,O0];lia,?_⟩;have q:=intsAre_map (arr.map (·.2)).toList (λv ZX=>by
   rw[Uc]at ZX;obtain⟨z,hz,rfl⟩:=Pj.mp ZX;obtain⟨_,n,t,e,_⟩:=key z (Vu.mem_iff.mp hz);exact⟨n,t,e⟩)
  have e2:(arr.map (·.2)).toList.map numOf=(gB ((bs.map λb=>aV (f b)).zip ns)).map (·.2):=by rw[<-e,Uc,Pe,Pe];rfl
  rw[e2]at q;exact q
 by_cases h2:vs.toArray.size<2
 .rw[T4 h2,T4 h2];refine OX (O8 ?_);dsimp only;rw[StateT.run_pure];refine OX (O8 ?_);dsimp only;obtain⟨o1,o2⟩:=out ((bs.map Ph).toArray.zip vs.toArray) (Array.Perm.refl _) (by
   unfold kx;rw[ez];have hz:((bs.map Ph).zip vs).length<=1:=by
    rw[Si];have:vs.toArray.size=vs.length:=by simp
    lia
   exact Js hz)
  exact h (SortSt.mk' general' ((bs.map Ph).toArray.zip vs.toArray) #[] 7 Qn) o1 rfl o2
 .rw[Um h2,Um h2];have hv2:vs.toArray.size=vs.length:=by simp
  obtain⟨fs,kt,fl,fi⟩:=Bt ht;refine OX (Ud (T:=.type "int") kt (by lia) (λv hv=>?_) (by decide) ?_)
  .obtain⟨n,t,rfl⟩:=fi v hv;exact .now
  rw[show(Te "int" !=Te "tuple")=Qt by decide];have C:XT (model prog w) A E s (λz=>aV (f (adr z.1))) (λz=>numOf z.2) ((bs.map Ph).toArray.zip vs.toArray) (tuples' Qt):=NX (λz hz=>by
   obtain⟨⟨b,mb,eb⟩,_⟩:=key z hz;exact⟨b,eb,ht b mb,hb b mb⟩) _ λz hz=>by obtain⟨_,n,t,e,m⟩:=key z hz;rw[e];exact hn n m
  have hup:((bs.map Ph).toArray.zip vs.toArray).toList.Pairwise λa b=>numOf a.2<=numOf b.2:=by
   rw[ez];have q:(((bs.map Ph).zip vs).map λz=>numOf z.2)=ns:=by
    have:(((bs.map Ph).zip vs).map λz=>numOf z.2)=(((bs.map Ph).zip vs).map (nQ f)).map (·.2):=by rw[Pe];rfl
    rw[this,npz,List.map_snd_zip (by rw[O0];lia)]
   have q2:(((bs.map Ph).zip vs).map λz=>numOf z.2).Pairwise (·<=·):=by rw[q];exact hu
   exact Qj.mp q2
  dsimp only;refine OX (wpAny_mono (FZ C (st:=SortSt.mk' (tuples' Qt) ((bs.map Ph).toArray.zip vs.toArray) #[] 7 Qn) (Q:=λ_ Uk=>TB ((bs.map Ph).toArray.zip vs.toArray) (tuples' Qt) Uk/\kx (λz=>aV (f (adr z.1))) (λz=>numOf z.2) (Qi Uk).toList) ⟨Array.Perm.refl _,rfl,rfl⟩ rfl rfl hup (by rw[Tv,Pg,Pg,O0];lia) (by rw[Tv,Pg,Pg,O0];lia) λUk a b=>⟨a,b⟩) ?_ λ_ _ e=>e);rintro⟨⟨⟩,Uk⟩ s' ⟨rfl,tb,rs⟩;obtain⟨o1,o2⟩:=out (Qi Uk) tb.pm rs;exact h Uk o1 tb.fld o2
end
end TS
namespace L2
open PySem.Spec TS
section
variable {X:Cx}{pins:Ql (XW×Obj)}{σ:L2.St}{a f:XW}{us:Ql Pl}{ns:Ql Int}{KT:Int->Hp->VK->Prop}{W:Nat->Ql (Int×Int)->Hp->Prop}
def LK{A':QP}{s:Pf}{n:Nat}{E:Pl->Pf->Prop}{P:PySem.Fin->Pf->Prop}(I:Inv X pins σ H s)(Y4:d4 X pins H a)(ho:s.heap.get? a=Qs (seqObj "list" us.toArray n))(hi:IntsAre us ns)(hz:us.length<64) (hn:∀n∈ns,0<=n/\n<1048576) (hu:ns.Pairwise (·<=·)) (turn:∀(x:Int) (H1:Hp) (s1:Pf) (zdT:Ql (XW×Obj)) (Q1:VK) (u:Pl),Inv X zdT σ H1 s1->RelV (.int x) u->KT x H1 Q1->wpAny (model X.prog X.w) A' (call (.ref f) [u]) (EP X zdT σ Q1) (λ_ _=>False) s1) (w0:W 0 [] H) (stp:∀i ks H1 x,W i ks H1->ns[i]?=Qs x->KT x H1 λk H2=>∃b,∃m:Int×Int,k=.ref b/\UJ X.K H2 b [.int m.1,.int m.2]/\0<=m.2/\m.2<1048576/\TJ H1 H2/\W (i+1) (ks++[m]) H2) (fin:∀ks H1 s',W ns.length ks H1->ks.length=ns.length->Inv X pins σ (upd H1 a (.lst (((gB ((ks.map aV).zip ns)).map (·.2)).map V.int))) s'->P (.done (.ret .none)) s'):wpAny (model X.prog X.w) A' (Builtin.«list.sort» ⟨[.ref a],[(Str.ofString "key",.ref f)]⟩) P E s:=by
 rw[ksk_t1];have ha:a<s.heap.objs.size:=Pd ho;have lz:us.length=ns.length:=hi.length;obtain⟨e1,ho1⟩:∃e1,(s.heap.update a (Obj.mapSeq λ_=>(#[]:Array Pl))).get? a=Qs (seqObj "list" #[] e1):=⟨_,get?_update_seq ho λ_=>#[]⟩;unfold ksk_tree;refine OX (listItems_at ho rfl ?_);refine OX (listUpdate_at ho rfl ?_ (by rw[Pg,sizeLine_eq];lia) (QR _));refine OX (seqEpoch_at ho1 rfl ?_);refine OX (wpAny_newTuple ?_ (by show us.length<=_;rw[sizeLine_eq];lia));refine OX (wpAny_newList ?_ (QR _));refine wpAny_holding ?_;have hkS:((s.heap.update a (Obj.mapSeq λ_=>(#[]:Array Pl))).push (seqObj "tuple" us.toArray 0)).objs.size=s.heap.objs.size+1:=by rw[size_push',Heap.size_update]
 show wpAny _ A' (ksk_rest a (.ref f) Qf us.toArray e1 (.ref ((s.heap.update a (Obj.mapSeq λ_=>(#[]:Array Pl))).push (seqObj "tuple" us.toArray 0)).objs.size)) P E {s with heap:=((s.heap.update a (Obj.mapSeq λ_=>(#[]:Array Pl))).push (seqObj "tuple" us.toArray 0)).push (seqObj "list" #[] 0)};generalize hh1:s.heap.update a (Obj.mapSeq λ_=>(#[]:Array Pl))=h1 at*
 have I1:Inv X pins σ H {s with heap:=h1,toks:=s.toks}:=I.turned (t':=s.toks) (λb o nb e=>by rw[<-hh1];exact(Pz _ _ (Ne.symm nb)).trans e) Y4.1 Y4.2.1 Y4.2.2.2.1 Y4.2.2.2.2.1 Y4.2.2.2.2.2;have I2:Inv X pins σ H {s with heap:=(h1.push (seqObj "tuple" us.toArray 0)).push (seqObj "list" #[] 0),toks:=s.toks}:=I1.kept λb o e=>OV _ (OV _ e);generalize hS:(h1.push (seqObj "tuple" us.toArray 0)).objs.size=kS at hkS ⊢;have hka:a≠kS:=Py (by rw[hkS];exact RL ha);have zes:s.heap.objs.size<=kS:=by rw[hkS];exact SS _
 have Ye:d4 X pins H kS:=I.Yf zes (I.UB.fresh zes);have gk:((h1.push (seqObj "tuple" us.toArray 0)).push (seqObj "list" #[] 0)).get? kS=Qs (seqObj "list" #[] 0):=by rw[<-hS];exact Pb _ rfl
 have ga:((h1.push (seqObj "tuple" us.toArray 0)).push (seqObj "list" #[] 0)).get? a=Qs (seqObj "list" #[] e1):=OV _ (OV _ ho1);unfold ksk_rest;refine OX (wpAny_rule ?_)
 first
  |rw[List.forIn_toArray]
  |(rw[<-TF];simp only[List.toList_toArray])
  |rw[<-TF]
 refine OX (ksk_fold (λi s'=>∃H1 bs ks e,Inv X pins σ H1 s'/\W i ks H1/\ks.length=i/\bs.length=i/\s'.heap.get? kS=Qs (seqObj "list" (bs.map Ph).toArray e)/\(∀(q:Nat) (b:XW) (p:Int×Int),bs[q]?=Qs b->ks[q]?=Qs p->UJ X.K H1 b [.int p.1,.int p.2]/\0<=p.2/\p.2<1048576)/\s'.heap.get? a=Qs (seqObj "list" #[] e1)/\H1 a=Qn/\H1 kS=Qn) us 0 _
  ⟨H,[],[],0,I2,w0,rfl,rfl,gk,(λq b p hb _=>by simp at hb),ga,Y4.1,Ye.1⟩ ?_ ?_)
 .rintro j x s' hx ⟨H1,bs,ks,e,I3,w3,lk2,lks,gk3,hk3,ga3,na,nk⟩;simp only[Rn]at lks lk2 w3 ⊢;have hj:j<us.length:=(Pu.mp hx).1;obtain⟨m,hm⟩:∃m,ns[j]?=Qs m:=⟨_,O2 (by lia)⟩;obtain⟨t,ht⟩:=hi.get j m hm;rw[ht]at hx;cases hx;have I4:=I3.pinned (fp:=[a,kS]) (λc hc=>by
   rcases OZ.mp hc with z|z
   .rw[z];exact⟨na,Y4.2⟩
   .rw[O1.mp z];exact⟨nk,Ye.2⟩) (λc hc=>by
   rcases OZ.mp hc with z|z
   .rw[z];exact⟨_,ga3,λv q=>by cases q⟩
   .rw[O1.mp z];exact⟨_,gk3,λv q=>by cases q⟩)
  refine OX (wpAny_attempt (wpAny_mono (turn m H1 _ _ _ _ I4 ⟨t,rfl⟩ (stp j _ H1 m w3 hm)) (λv s3 hs3=>?_) λ_ _ hF=>hF.elim));obtain⟨y,H2,I5,ry,nb,m2,ey,hm2,mb0,mb1,sm,w5⟩:=hs3;subst ey;cases ry;have pa:=I5.pin (a,seqObj "list" #[] e1) (OP _ (OP _ (kZ (by simp) ga3)));have pk:=I5.pin (kS,seqObj "list" (bs.map Ph).toArray e) (OP _ (OP _ (kZ (by simp) gk3)));have sk:(bs.map Ph).toArray.size=j:=by simp;lia
  have I6:=I5.ZK;obtain⟨c2,XH⟩:∃c2,(s3.heap.update kS (Obj.mapSeq (·.push (.ref nb)))).get? kS=Qs (seqObj "list" ((bs.map Ph).toArray.push (.ref nb)) c2):=⟨_,get?_update_seq pk.1 (·.push (.ref nb))⟩;refine OX (listUpdate_at pk.1 rfl ?_ (by rw[sizeLine_eq];lia) (PJ (T7 (Array.size_push ..)) (by rw[sizeLine_eq];lia)));have I7:Inv X pins σ H2 {s3 with heap:=s3.heap.update kS (Obj.mapSeq (·.push (.ref nb))),toks:=s3.toks}:=I6.turned (t':=s3.toks) (λb o nb e=>(Pz _ _ (Ne.symm nb)).trans e) pk.2.1 Ye.2.1 Ye.2.2.2.1 Ye.2.2.2.2.1 Ye.2.2.2.2.2;have ea:(bs.map Ph).toArray.push (Ph nb)=((bs++[nb]).map Ph).toArray:=by simp
  rw[ea]at XH;refine O8 ⟨rfl,H2,bs++[nb],ks++[m2],c2,I7,w5,by simp[lk2],by simp[lks],XH,λq b p hb hp=>?_,?_,pa.2.1,pk.2.1⟩
  .by_cases z:q<j
   .rw[QI (by lia)]at hb hp;obtain⟨q1,q2⟩:=hk3 q b p hb hp;exact⟨DL.UJ.mono sm q1,q2⟩
   .have z2:q=j:=by have:=(Pu.mp hb).1;rw[Pq,P8]at this;lia
    subst z2;rw[PX (by lia),lks,S8]at hb;rw[PX (by lia),lk2,S8]at hp;cases hb;cases hp;exact⟨hm2,mb0,mb1⟩
  .exact(Pz _ _ (Ne.symm hka)).trans pa.1
 .rintro s' ⟨H1,bs,ks,e,I3,w3,lk2,lks,gk3,hk3,ga3,na,nk⟩;simp only[Rn]at lks lk2 w3;refine OX (listItems_at gk3 rfl ?_);unfold ksk_end;simp only[PU,if_false];have all:∀b∈bs,lK s'.heap b (jG s'.heap b)/\0<=(jG s'.heap b).2/\(jG s'.heap b).2<1048576:=λb hb=>by obtain⟨q,hq,rfl⟩:=Tw hb;obtain⟨p,hp⟩:∃p,ks[q]?=Qs p:=⟨_,O2 (by lia)⟩;obtain⟨q1,q2⟩:=hk3 q _ p (O2 hq) hp;have:=Ay I3 q1;rw[Ai this];exact⟨this,q2⟩
  have ek:bs.map (jG s'.heap)=ks:=Rx (by rw[O0];lia) λq h1 h2=>by rw[List.getElem_map];rw[O0]at h1;exact Ai (Ay I3 (hk3 q _ _ (O2 h1) (O2 h2)).1)
  refine HW (A:=A') (cont:=λst=>ksk_tail a Qf e1 (.ref kS) st) (f:=jG s'.heap) (λb hb=>(all b hb).1) (λb hb=>(all b hb).2) hi (by lia) hz hn hu λUk hsz hfl zcx=>?_;unfold ksk_tail;have skA:(bs.map Ph).toArray.size<=100000:=by simp;lia
  rw[show(bs.map λb=>aV (jG s'.heap b))=ks.map aV by rw[<-ek,Pe];rfl]at zcx;refine OX (listUpdate_at gk3 rfl ?_ (by rw[sizeLine_eq];lia) (QR _));refine OX (wpAny_letGo ?_);have ga4:(s'.heap.update kS (Obj.mapSeq λ_=>(#[]:Array Pl))).get? a=Qs (seqObj "list" #[] e1):=(Pz _ _ (Ne.symm hka)).trans ga3;refine OX (seqEpoch_at ga4 rfl ?_);refine OX (listUpdate_at ga4 rfl ?_ (QR _) (by
   show((Qi Uk).map (·.2)).size<=_;rw[UP,hsz,sizeLine_eq];lia))
  rw[hfl];simp only[bne_self_eq_false,PU,if_false];have I4:Inv X pins σ H1 {s' with heap:=s'.heap.update kS (Obj.mapSeq λ_=>(#[]:Array Pl)),toks:=s'.toks}:=I3.turned (t':=s'.toks) (λb o nb e=>(Pz _ _ (Ne.symm nb)).trans e) nk Ye.2.1 Ye.2.2.2.1 Ye.2.2.2.2.1 Ye.2.2.2.2.2;obtain⟨c2,XH⟩:∃c2,((s'.heap.update kS (Obj.mapSeq λ_=>(#[]:Array Pl))).update a (Obj.mapSeq λ_=>(Qi Uk).map (·.2))).get? a=Qs (seqObj "list" ((Qi Uk).map (·.2)) c2):=⟨_,get?_update_seq ga4 λ_=>(Qi Uk).map (·.2)⟩;refine O8 (fin _ H1 _ (by rw[<-lz];exact w3) (by lia) (I4.adopt (t':=s'.toks) (o:=.lst (((gB ((ks.map aV).zip ns)).map (·.2)).map V.int)) ⟨na,Y4.2⟩ (λb u nb e=>(Pz _ _ (Ne.symm nb)).trans e) ⟨?_,((Qi Uk).map (·.2)).toList,c2,qi zcx,by rw[Array.toArray_toList];exact XH⟩));have:=zcx.length;rw[Tr,UP,hsz]at this;rw[O0,<-this,sizeLine_eq];lia
end
end L2
namespace DL
open PySem.Spec L2 TS
def mX(cap:Ql Nat)(fa fb:DE):DE:=λt=>(fa t).bind λr=>(dH t cap).bind λc=>match r.d with
 |.int n=>if 0<=n/\n<64 then(gN fb c.2 (ah n.toNat)).map λks=>.nw (((gB ((ks.map aV).zip (ah n.toNat))).map (·.2)).map D.int) else Qn
 |_=>Qn
section
variable {X:Cx}{F:Ql XW}{a body:XY}{fa:DE}{p2:Pos}{scope:U0}
def JP{p0 p1 kp lp:Pos}{q:Str}{c P:XW}(cap:Ql Nat)(N':Ql Str)(kl:Nat)(hrl:UU (kl+3) X.A)(hcm:X.calm=Qt)(hu:X.A.units+64<cLine)(hdp:X.A.depth<recursionLimit)(zbw:X.env.code=.ref c)(C:RV X.base c P)(hP:(P,q)∈X.base.tabs)(hg:Gl X "sorted")(hm:X.mg "sorted"=Qn)(Yy:Gl X "range")(Z2:X.mg "range"=Qn) (ha:PE X a (dE X.K F fa)) (hb:∀F' L f c' s₃ H₃,UU kl (mE X N' q scope X.A.in1.in1 L f (.ref c') s₃ H₃).A->PE (mE X N' q scope X.A.in1.in1 L f (.ref c') s₃ H₃) body (dE X.K F' fb)) (WN:scope.kind=.function:=by rfl) (Xh:kq scope.names X.env.kindOf=Qt:=by rfl) (hln:Dk scope.names=Qt:=by rfl) (hl:N'.length=1+cap.length:=by rfl) (h0:N'[0]?=Qs x0:=by rfl) (Zm:scope.names.lookup x0=Qs .local:=by rfl) (VG:iO N' X.N 1 scope.names 0 cap=Qt:=by rfl) (hq:X.env.qual++"<lambda>"=q:=by rfl) (hco:scope.isCoroutine=Qf:=by rfl) (zcG:scope.isGenerator=Qf:=by rfl) (zcK:defaultsOf params X.env=([],[]):=by rfl) (zaL:∀cl pm c' WW u0,bindArgs (UK "<lambda>" q params body scope cl pm (.ref c') WW) ⟨[u0],[]⟩=pure [(x0,u0)]:=by intros;rfl) (U6:Pc [a] X.env=[(Qf,eval a X.env)]:=by rfl) (ZY:(Rc p2 (Pc [] X.env)).any (·.1)=Qf:=by rfl) (he:Rc pos (Pc [.Call (.Name "range" p1) [a] [] p2] X.env)=(Qf,eval (.Call (.Name "range" p1) [a] [] p2) X.env)::Rc pos (Pc [] X.env):=by rfl) (X9:(Rc pos (Pc [.Call (.Name "range" p1) [a] [] p2] X.env)).any (·.1)=Qf:=by rfl) (Y3:(backToKw pos (keywordEach [⟨Qs "key",.Lambda params body scope lp,kp⟩] X.env)).all (·.1.isSome)=Qt:=by rfl) (hkw:(backToKw pos (keywordEach [⟨Qs "key",.Lambda params body scope lp,kp⟩] X.env)).any (·.1.isNone)=Qf:=by rfl):PE X (.Call (.Name "sorted" p0) [.Call (.Name "range" p1) [a] [] p2] [⟨Qs "key",.Lambda params body scope lp,kp⟩] pos) (dE X.K F (mX cap fa fb)):=by
 have S:=o7 WN Xh;have S0:=Md hln;intro pins s σ H Q I h;obtain⟨A,t,r,R,e,h⟩:=h;unfold mX at e;rcases e1:fa t with _|r1
 .rw[e1]at e;cases e
 rcases e2:dH t cap with _|cc
 .rw[e1,e2]at e;cases e
 obtain⟨bb,cs⟩:=cc;rw[e1,e2]at e;simp only[OY]at e;split at e
 case h_2=>cases e
 rename_i n z;replace e:=Vm e;obtain⟨hn,e⟩:=e;rcases e3:gN fb cs (ah n.toNat) with _|KS
 .rw[e3]at e;cases e
 rw[e3]at e;cases e;refine wpAny_Call_Name_kw (hZ I hg hm boot_sorted (callWith_kw (env:=X.env) ?_ he X9 Y3 hkw));rw[he];refine Calls.spliced_cons (Call_ (hZ I Yy Z2 boot_range (PyProof.Rows.callWith_type1 (aA ((fj ha fJ U6) p2 pins s σ H (λvs H1=>∃x,vs=[x]/\TJ H H1/\UE X.K F A H H1 r1 x) I ⟨A,t,r1,R,e1,λx H1 gs q=>⟨x,rfl,gs,q⟩⟩) λus s1 ⟨vs,H1,I1,rv,x,ex,gs,q1⟩=>?_) U6 ZY)));subst ex;obtain⟨u,rfl,ru⟩:=rv.one;have p:=q1.full;rw[z]at p;cases bX p;obtain⟨t1,rfl⟩:=ru;refine call_range_1 (Calls.spliced_nil ?_);have Ir:Inv X pins σ H1 {s1 with heap:=s1.heap.push {cls:=.type "range",data:=.fields #[.int 0 s1.toks,.int n t1,.int 1 (s1.toks+1)]},toks:=s1.toks+1+1}:=I1.kept λb o e=>OV _ e;have gr:(s1.heap.push {cls:=.type "range",data:=.fields #[.int 0 s1.toks,.int n t1,.int 1 (s1.toks+1)]}).get? s1.heap.objs.size=Qs {cls:=.type "range",data:=.fields #[.int 0 s1.toks,.int n t1,.int 1 (s1.toks+1)]}:=Pb _ rfl;have fpr:d4 X pins H1 s1.heap.objs.size:=I1.Yf (O5 _) I1.fresh;have Irp:=Ir.pinned (fp:=[s1.heap.objs.size]) (λc hc=>by rw[O1.mp hc];exact fpr) (λc hc=>by rw[O1.mp hc];exact⟨_,gr,λv q=>by cases q⟩);refine kws_cons (Mb Irp S zbw C hP hq zcK λf c' oc vs tk pm WW s3 I3 WC nf ncf hod hv=>kws_nil ?_);have pr:=I3.pin (s1.heap.objs.size,{cls:=.type "range",data:=.fields #[.int 0 s1.toks,.int n t1,.int 1 (s1.toks+1)]}) (OP _ (OP _ (kZ (by simp) gr)));have Xi:IsRange s3.heap s1.heap.objs.size 0 n 1 s1.toks t1 (s1.toks+1):=pr.1;replace I3:=I3.ZK;generalize Z5:upd (upd H1 c' (.UW oc (.own 0))) f (.UW (Rk "<lambda>" q params body scope (cz X.env.cells scope.names []) pm c' WW) (.own 0))=H3 at I3;have g13:TJ H1 H3:=λb o w=>by
  subst Z5;rw[aC (λz=>by rw[z,nf]at w;cases w)];by_cases zc:b=c'
  .subst zc;rcases WC with n|n
   .rw[n]at w;cases w
   .rw[n]at w;cases w;rw[aM]
  .rw[aC zc];exact w
 have ff:H3 f=Qs (.UW (Rk "<lambda>" q params body scope (cz X.env.cells scope.names []) pm c' WW) (.own 0)):=by subst Z5;rw[aM]
 have fc:H3 c'=Qs (.UW oc (.own 0)):=by subst Z5;rw[aC ncf,aM]
 have g03:TJ H H3:=gs.trans g13;have R3:=R.grow g03;obtain⟨cvs,ecv,rcs⟩:=pe R3 e2;have muF:US H3 (VB bb A F):=λp hp=>R3.mu p (by
  unfold VB at hp;split at hp
  .exact hp
  .exact OP _ hp)
 let KT:Int->Hp->VK->Prop:=λx Hx Qx=>TJ H3 Hx/\dE X.K (VB bb A F) fb (Qs (.int x)::cap.map λj=>(σ[j]?).getD Qn) Hx Qx
 have turn:∀(x:Int) (Hx:Hp) (sx:Pf) (px:Ql (XW×Obj)) (Qx:VK) (u:Pl),Inv X px σ Hx sx->RelV (.int x) u->KT x Hx Qx->wpAny (model X.prog X.w) X.A.in1.in1 (call (.ref f) [u]) (EP X px σ Qx) (λ_ _=>False) sx:=λx Hx sx px Qx u Ix rx hk=>L9 (N':=N') (cap:=cap) (A':=X.A.in1.in1) Ix S S0 (I.ok.hd hcm) rfl hdp (hk.1 _ _ ff) (hk.1 _ _ fc) hod hv hco zcG (zaL _ _ _ _ _) rx h0 Zm hl (λk j e=>by simpa using m7 VG k j e) (λL s₃ H₃=>hb _ L f c' s₃ H₃ (hrl.zhj _)) hk.2
 have mk:∀{n:Int}{Hx:Hp}{rr:Ev}{Qx:VK},TJ H3 Hx->fb (.val (.int n)::cs.map Sl.val)=Qs rr->(∀v Hy,TJ Hx Hy->Rep X.K Hy rr.d v->Qx v Hy)->KT n Hx Qx:=λ{n Hx rr Qx} gx er hq=>by refine⟨gx,[],_,rr,⟨by simpa using muF.mono gx,PN,λp hp=>(by cases hp),?_⟩,er,λv Hy gy qy=>hq v Hy gy qy.full⟩;rw[Rj,ecv];refine .val (.int n) ?_;have:=Ul.start (K:=X.K) (H:=Hx) (t:=[]) (σ:=[]) .nil (TZ.mono (ck gx) rcs);simpa using this
 have rsz:Builtin.Range.rangeSize 0 n 1=(n.toNat:Int):=by have:=hn.1;simp only[Builtin.Range.rangeSize];lia
 have sml:Builtin.Range.small 0 n 1=Qt:=by exact AA hn.1 (by lia)
 have lKS:=Du e3;rw[rW]at lKS;refine Az (P:=λus=>IntsAre us (ah n.toNat)) (My _ _) (λ_=>Mz _ _) (λR' hR=>NT (n:=n.toNat) (I.ok.hd hcm) Xi sml rsz (by lia) λh' tk us hk hz hit=>hR h' tk us hk hz (MI hit) (by have:=hit.1;simp at this;lia)) (λh' tk us hk hz hi hlu=>?_);have I4:Inv X pins σ H3 {s3 with heap:=h'.push (seqObj "list" us.toArray 0),toks:=tk}:=I3.kept λb o e=>OV _ (hk b o e);have fa4:d4 X pins H3 h'.objs.size:=I3.Yf hz (I3.UB.fresh hz);refine LK (KT:=KT) (W:=λi ks Hx=>TJ H3 Hx/\ks=KS.take i) (ns:=ah n.toNat) I4 fa4 (Pb _ rfl) hi (by have:=hi.length;rw[rW]at this;lia) (Lm _ (by lia)) (Lk _) turn ⟨TJ.refl _,by simp⟩ (λi ks Hx x w hx=>?_) λks Hx s' w lk Is=>⟨rfl,?_⟩
 .obtain⟨gx,rfl⟩:=w;obtain⟨rr,m,a1,a2,a3,a4⟩:=Dv e3 hx;refine mk gx a1 λv Hy gy ry=>?_;rw[a2]at ry;cases ry with
  |@tup _ p vs h1 h2=>obtain⟨v1,v2,rfl,q1,q2⟩:=Ig h2;cases bX q1;cases bX q2;exact⟨p,m,rfl,h1,a4.1,a4.2,gy,gx.trans gy,by rw[List.take_add_one,a3];rfl⟩
 .obtain⟨gx,rfl⟩:=w;rw[rW,RF (by lia)]at Is;have na:H h'.objs.size=Qn:=TJ.free g03 fa4.1;refine⟨.ref _,_,Is,rfl,h _ _ (λb o w=>?_) ⟨_,_,rfl,na,aM,TZ.ints _⟩⟩;rw[aC (λz=>by rw[z,na]at w;cases w)];exact gx _ _ (g03 _ _ w)
end
open PySem.Spec L2
def RS.za4 (R:RS K F H A t σ)(e:t[i]?=Qs (.dp d)):∃v B A',σ[i]?=Qs (Qs v)/\RS K (B++F) H A' (t.set i .no) σ/\B.Nodup/\(∀b∈B,b∉F)/\UC K (ag (A++F) H) H d v B/\(∀x∈A',x∈A)/\(∀x∈B,x∈A):=by
 obtain⟨v,B,A',a1,a2,a3,a4,a5,a6,a7,a8,a9⟩:=R.rel.zhf R.nd e;have s:TJ (ag (A++F) H) (ag (A'++(B++F)) H):=aS H λx hx=>by
  rcases OT.mp hx with z|z
  .exact OR _ (a4 x z)
  .rcases OT.mp z with z|z
   .exact OR _ (a5 x z)
   .exact OP _ z
 refine⟨v,B,A',a1,⟨λp hp=>?_,a8,λp hp z=>?_,Ul.mono s a3 λ_ _ _ w=>w⟩,a7,λb hb=>R.dj b (a5 b hb),a2,a4,a5⟩
 .rcases OT.mp hp with z|z
  .exact R.mu p (OR _ (a4 p z))
  .rcases OT.mp z with z|z
   .exact R.mu p (OR _ (a5 p z))
   .exact R.mu p (OP _ z)
 .rcases OT.mp z with z|z
  .exact a9 p hp z
  .exact R.dj p (a4 p hp) z
section
variable {X:Cx}{F:Ql XW}{I:Ql Nat}{a b c:XY}{es:Ql XY}{fa:DE}{g g1 g2:DS}{ft:DT}{st:XZ}
def Ju(hJ:i∉I)(hN:X.N.Nodup)(hi:X.N[i]?=Qs x)(hx:Loc X.env.scope x)(he:PE X a (dE X.K F fa))(hs:swapsWith a (Qs (.Name x pos')) pos.line X.env=pure Qf:=by rfl)(hf:autoParam (X.fn x=Qt\/X.env.scope.names.lookup x=Qs .local) qzB._auto_1):PS X (.Assign [.Name x pos'] a pos) (dP X.K F I (aL i fa)):=by
 refine PS.imp (wk hN hi hx he hs hf) ?_;rintro E σ H ⟨A,t,t',R,e,h⟩;unfold aL at e;rcases e1:fa t with _|r1
 .rw[e1]at e;cases e
 rw[e1]at e;have e:(c9 t i _).map _=Qs _:=e;rcases e2:c9 t i _ with _|t2
 .rw[e2]at e;cases e
 rw[e2]at e;cases e;refine⟨A,t,r1,R,e1,λv H' gs q=>?_⟩;obtain⟨A',g',R'⟩:=R.put gs q e2;exact h _ _ _ g' R' λk hk=>Pm (λ(z:i=k)=>hJ (z▸hk))
end
def gj(f:DE):DI:=λt=>(f t).bind λr=>match r.d with
 |.tup ds=>Qs (r.ok,ds)
 |_=>Qn
def Hr (hl:vs.length=ds.length):Src K ds (zD K p) (λP H=>UJ K (ag P H) p vs/\TZ K (ag P H) ds vs) where
 keep:=λP H P' H' q s=>⟨UJ.mono s q.1,TZ.mono s q.2⟩
 stop:=λP H q=>⟨vs,UJ.mono (aR _ _) q.1,by lia⟩
 go:=λP H i q hi=>⟨vs,_,UJ.mono (aR _ _) q.1,O2 (by lia)⟩
 VT:=λP H i x H' q mu y hi=>by obtain⟨e1,e2⟩:=y;subst e1;exact⟨TJ.refl _,q.2.XJ (e2 _ (UJ.mono (aR _ _) q.1))⟩
section
variable {X:Cx}{F:Ql XW}{a:XY}{fa:DE}{tg:XY}
def rB(hl:PE X a (dE X.K F fa)):PI X tg a (dI X.K F (gj fa)):=by
 refine PI.imp (JJ hl) ?_;rintro σ H R ⟨A,t,b,ds,RR,e,h⟩;refine aq e λr e1 e=>?_;refine⟨A,t,r,RR,e1,λv H1 gs q=>?_⟩;split at e
 case h_2=>cases e
 rename_i ds' z;cases e;have cl:=UE.VB RR.mu gs q;rw[z]at cl;cases cl with
 |@tup _ p vs h1 h2=>exact⟨p,rfl,⟨vs,UJ.mono (aR _ _) h1⟩,h _ _ _ gs (Hr h2.length) ⟨h1,h2⟩⟩
end
mutual
theorem UC.fl{K:OQ}{H0 H:Hp}:∀{d:D}{v:V}{B:List XW},UC K H0 H d v B->flat d=Qt->Rep K H0 d v/\B=[]
 |_,_,_,.flat _ r,_=>⟨r,rfl⟩
 |_,_,_,.tup h r,f=>⟨.tup h (Uq.fl r (by assumption)).1,(Uq.fl r (by assumption)).2⟩
 |_,_,_,.lst _ _,f=>by simp[flat]at f
 |_,_,_,.U1 _ _ _,f=>by simp[flat]at f
 |_,_,_,.Vp _,f=>by simp[flat]at f
 |_,_,_,.obj _ _ _,f=>by simp[flat]at f
theorem Uq.fl{K:OQ}{H0 H:Hp}:∀{ds:List D}{vs:List V}{B:List XW},Uq K H0 H ds vs B->UD ds=Qt->TZ K H0 ds vs/\B=[]
 |_,_,_,.nil,_=>⟨.nil,rfl⟩
 |_,_,_,.cons h r,f=>by simp only[UD,O6]at f;obtain⟨a1,a2⟩:=UC.fl h f.1;obtain⟨b1,b2⟩:=Uq.fl r f.2;exact⟨.cons a1 b1,by rw[a2,b2];rfl⟩
end
def yL:DS:=λ_=>Qn
def Jb{st:XZ}:PS X st (dS X.K F yL):=by intro E pins s σ H I h;obtain⟨A,t,o,R,e,h⟩:=h;cases e
def Ul.zbj{v:V}:∀{t:Th}{σ:L2.St}{A:Ql XW},Ul K H0 H t σ A->∀{j:Nat},t[j]?=Qs .no->Ul K H0 H t (σ.set j (Qs v)) A:=by
 intro _ _ _ h
 induction h with
 |nil=>intro j e;simp at e
 |no r ih=>
  intro j e;cases j with
  |zero=>exact .no r
  |succ j=>exact .no (ih (by simpa using e))
 |val h r ih=>
  intro j e;cases j with
  |zero=>simp at e
  |succ j=>exact .val h (ih (by simpa using e))
 |own h1 h2 r ih=>
  intro j e;cases j with
  |zero=>simp at e
  |succ j=>exact .own h1 h2 (ih (by simpa using e))
 |dp h r ih=>
  intro j e;cases j with
  |zero=>simp at e
  |succ j=>exact .dp h (ih (by simpa using e))
def Ul.forget:∀{t:Th}{σ:L2.St}{A:Ql XW},Ul K H0 H t σ A->∀j,∃A',A'.Sublist A/\Ul K H0 H (t.set j .no) σ A':=by
 intro _ _ _ h
 induction h with
 |nil=>intro j;exact⟨[],Pp _,.nil⟩
 |@no _ _ _ A r ih=>
  intro j;cases j with
  |zero=>exact⟨A,Pp _,.no r⟩
  |succ j=>obtain⟨A',s,q⟩:=ih j;exact⟨A',s,.no q⟩
 |@val _ _ _ _ A h r ih=>
  intro j;cases j with
  |zero=>exact⟨A,Pp _,.no r⟩
  |succ j=>obtain⟨A',s,q⟩:=ih j;exact⟨A',s,.val h q⟩
 |@own p _ _ _ _ A h1 h2 r ih=>
  intro j;cases j with
  |zero=>exact⟨A,QT ..,.no r⟩
  |succ j=>obtain⟨A',s,q⟩:=ih j;exact⟨p::A',s.cons₂ _,.own h1 h2 q⟩
 |@dp _ _ B _ _ A h r ih=>
  intro j;cases j with
  |zero=>exact⟨A,Q2 ..,.no r⟩
  |succ j=>obtain⟨A',s,q⟩:=ih j;exact⟨B++A',(Pp _).append s,.dp h q⟩
theorem RS.forget{K:OQ}{F A:Ql XW}{H:Hp}{t:Th}{σ:L2.St}(R:RS K F H A t σ)(j:Nat):∃A',(∀x∈A',x∈A)/\RS K F H A' (t.set j .no) σ:=by obtain⟨A',s,r⟩:=R.rel.forget j;have sub:∀x∈A',x∈A:=λx hx=>s.subset hx;have YQ:∀x∈A'++F,x∈A++F:=λx hx=>(OT.mp hx).elim (λz=>OR _ (sub x z)) (OP _);exact⟨A',sub,⟨λp hp=>R.mu p (YQ p hp),R.nd.sublist s,λp hp=>R.dj p (sub p hp),Ul.mono (aS H YQ) r λ_ _ _ w=>w⟩⟩
theorem Vk:∀ns:Ql Int,UD (ns.map D.int)=Qt
 |[]=>rfl
 |n::ns=>by simp[UD,flat,Vk _]
structure Res where
 γ:Type
 rel:OQ->Hp->XW->γ->List XW->Prop
 mono:∀{K:OQ}{H H':Hp}{p:XW}{w:γ}{B:List XW},rel K H p w B->(∀b o,H b=Qs o->(Cw o=Qf\/b∈B)->H' b=Qs o)->rel K H' p w B
 lists:∀{K:OQ}{H:Hp}{p:XW}{w:γ}{B:List XW},rel K H p w B->US H B
structure RW(ρ:Res)(K:OQ)(F:List XW)(H:Hp)(A:List XW)(t:Th)(σ:L2.St)(p:XW)(w:ρ.γ)(B:List XW):Prop where
 rs:RS K (B++F) H A t σ
 rel:ρ.rel K H p w B
 nd:B.Nodup
 dj:∀b∈B,b∉F
def Ch(B:Ql XW)(H H':Hp):Prop:=∀b o,b∉B->H b=Qs o->H' b=Qs o
def Ch.refl:Ch B H H:=λ_ _ _ h=>h
def Ch.of(g:TJ H H'):Ch B H H':=λb o _ h=>g b o h
def Ch.trans(a:Ch B H H1)(b:Ch B H1 H2):Ch B H H2:=λx o n h=>b x o n (a x o n h)
def gL(B:Ql XW)(H H':Hp):Hp:=λb=>if b∈B then H' b else H b
def xa(h:b∈B):gL B H H' b=H' b:=T4 h
def kY(h:b∉B):gL B H H' b=H b:=Um h
def om(c:Ch B H H'):TJ (gL B H H') H':=λb o h=>by
 by_cases z:b∈B
 .rwa [xa z]at h
 .rw[kY z]at h;exact c b o z h
section
variable {ρ:Res}{F A A' B:Ql XW}{t t':Th}{σ σ':L2.St}{p:XW}{w w':ρ.γ}{r:Ev}{v:V}
theorem RW.grow(R:RW ρ K F H A t σ p w B)(g:TJ H H'):RW ρ K F H' A t σ p w B:=⟨R.rs.grow g,ρ.mono R.rel λb o h _=>g b o h,R.nd,R.dj⟩
def RW.Zh(R:RW ρ K F H A t σ p w B)(hb:b∈B):b∉A:=λz=>R.rs.dj b z (OR _ hb)
def RW.step(R:RW ρ K F H A t σ p w B)(g:Gr A H A' H')(R':RS K (B++F) H' A' t' σ'):RW ρ K F H' A' t' σ' p w B:=⟨R',ρ.mono R.rel λb o h k=>g.kp b o (λz=>by
  rcases k with k|k
  .obtain⟨⟨u,m⟩,e⟩:=R.rs.mu b (OR _ z);lia
  .exact R.Zh k z) h,R.nd,R.dj⟩
def RW.chg(R:RW ρ K F H A t σ p w B)(c:Ch B H H')(q:ρ.rel K H' p w' B):RW ρ K F H' A t σ p w' B:=by
 have hs:TJ (ag (A++(B++F)) H) (ag (A++(B++F)) H'):=λb o h=>by obtain⟨n,h⟩:=bN h;exact aU (c b o (λz=>n (OP _ (OR _ z))) h) n
 refine⟨⟨λb hb=>?_,R.rs.nd,R.rs.dj,Ul.mono hs R.rs.rel λb hb o h=>c b o (λz=>R.Zh z hb) h⟩,q,R.nd,R.dj⟩;by_cases z:b∈B
 .exact ρ.lists q b z
 .obtain⟨o,e⟩:=R.rs.mu b hb;exact⟨o,c b _ z e⟩
def RW.al(R:RW ρ K F H A t σ p w B)(hb:b∈B):H b≠Qn:=by obtain⟨o,e⟩:=ρ.lists R.rel b hb;rw[e];simp
def RW.Zk(R:RW ρ K F H A t σ p w B)(R':RW ρ K F H' A t σ p w' B):US (gL B H H') (A++(B++F)):=λb hb=>by
 by_cases z:b∈B
 .rw[xa z];exact ρ.lists R'.rel b z
 .rw[kY z];exact R.rs.mu b hb
def RW.zg2(R:RW ρ K F H A t σ p w B)(R':RW ρ K F H' A t σ p w' B):RS K (B++F) (gL B H H') A t σ:=by refine⟨R.Zk R',R.rs.nd,R.rs.dj,Ul.mono (λb o h=>?_) R.rs.rel λb hb o h=>by rw[kY λz=>R.Zh z hb];assumption⟩;obtain⟨n,h⟩:=bN h;exact aU (by rw[kY λz=>n (OP _ (OR _ z))];assumption) n
def UE.Xw(R:RW ρ K F H A t σ p w B)(h:UE K (B++F) A H H2 r v):UE K (B++F) A (gL B H H1) H2 r v:=by
 have fr:∀{b:XW},H b=Qn->gL B H H1 b=Qn:=λ{b} e=>by rw[kY λz=>R.al z e];assumption
 cases r with
 |cl d=>assumption
 |tm d=>assumption
 |nw xs=>obtain⟨q,vs,rfl,h1,h2,h3⟩:=h;exact⟨q,vs,rfl,fr h1,h2,h3⟩
 |dn d=>obtain⟨C,h1,h2,h3⟩:=h;exact⟨C,h1,λb hb=>fr (h2 b hb),h3⟩
def UE.zg3(R':RW ρ K F H1 A t σ p w' B)(h:UE K (B++F) A (gL B H H1) H2 r v):UE K (B++F) A H H2 r v:=by
 have fr:∀{b:XW},gL B H _ b=Qn->H b=Qn:=λ{b} e=>by
  by_cases z:b∈B
  .rw[xa z]at e;exact absurd e (R'.al z)
  .rwa [kY z]at e
 cases r with
 |cl d=>assumption
 |tm d=>assumption
 |nw xs=>obtain⟨q,vs,rfl,h1,h2,h3⟩:=h;exact⟨q,vs,rfl,fr h1,h2,h3⟩
 |dn d=>obtain⟨C,h1,h2,h3⟩:=h;exact⟨C,h1,λb hb=>fr (h2 b hb),h3⟩
def UE.zdx(R:RW ρ K F H A t σ p w B)(h:UE K (B++F) A H H1 r v)(c:Ch B H1 H2):UE K (B++F) A H H2 r v:=by
 have hs:∀P,(∀b∈B,b∈P)->TJ _ _:=λP hP b o h=>by obtain⟨n,h⟩:=bN h;exact aU (c b o (λz=>n (hP b z)) h) n
 cases r with
 |cl d=>exact Rep.mono (hs (A++(B++F)) λb hb=>OP _ (OR _ hb)) h
 |tm d=>exact Rep.mono (hs _ λb hb=>OR _ hb) h
 |nw xs=>obtain⟨q,vs,rfl,h1,h2,h3⟩:=h;exact⟨q,vs,rfl,h1,c q _ (λz=>R.al z h1) h2,TZ.mono (hs _ λb hb=>OS _ (OP _ (OR _ hb))) h3⟩
 |dn d=>obtain⟨C,h1,h2,h3⟩:=h;exact⟨C,h1,h2,UC.mono (hs _ λb hb=>OP _ (OP _ (OR _ hb))) h3 λb hb o e=>c b o (λz=>R.al z (h2 b hb)) e⟩
def UE.early(R1:RW ρ K F H1 A t σ p w B)(c:Ch B H H1)(h:UE K (B++F) A H1 H2 r v):UE K (B++F) A H H2 r v:=by
 have fr:∀{b:XW},H1 b=Qn->H b=Qn:=λ{b} e=>by
  cases z:H b with
  |none=>rfl
  |some o=>
   by_cases y:b∈B
   .exact absurd e (R1.al y)
   .rw[c b o y z]at e;assumption
 cases r with
 |cl d=>assumption
 |tm d=>assumption
 |nw xs=>obtain⟨q,vs,rfl,h1,h2,h3⟩:=h;exact⟨q,vs,rfl,fr h1,h2,h3⟩
 |dn d=>obtain⟨C,h1,h2,h3⟩:=h;exact⟨C,h1,λb hb=>fr (h2 b hb),h3⟩
theorem Vj.early(R1:RW ρ K F H1 A t σ p w B)(c:Ch B H H1):∀{rs:Ql Ev}{vs:Ql V},Vj K (B++F) A H1 H2 rs vs->Vj K (B++F) A H H2 rs vs
 |_,_,.nil=>.nil
 |_,_,.cons h r=>.cons (h.early R1 c) (Vj.early R1 c r)
theorem Vj.Xw(R:RW ρ K F H A t σ p w B):∀{rs:Ql Ev}{vs:Ql V},Vj K (B++F) A H H2 rs vs->Vj K (B++F) A (gL B H H1) H2 rs vs
 |_,_,.nil=>.nil
 |_,_,.cons h r=>.cons (h.Xw R) (Vj.Xw R r)
end
abbrev WE(ρ:Res):=Th->ρ.γ->Qo (Ev×ρ.γ)
abbrev WA(ρ:Res):=Th->ρ.γ->Qo (Ql Ev×ρ.γ)
abbrev WT(ρ:Res):=Th->ρ.γ->Qo (Bool×ρ.γ)
inductive wE(ρ:Res)(K:OQ)(F:List XW)(p:XW)(f:WE ρ)(σ:L2.St)(H:Hp)(Q:VK):Prop
 |mk (A B t w r w':_) (_:RW ρ K F H A t σ p w B) (_:f t w=Qs (r,w')) (_:∀v H',Ch B H H'->RW ρ K F H' A t σ p w' B->UE K (B++F) A H H' r v->Q v H')
inductive wA(ρ:Res)(K:OQ)(F:List XW)(p:XW)(f:WA ρ)(σ:L2.St)(H:Hp)(Q:List V->Hp->Prop):Prop
 |mk (A B t w rs w':_) (_:RW ρ K F H A t σ p w B) (_:f t w=Qs (rs,w')) (_:∀vs H',Ch B H H'->RW ρ K F H' A t σ p w' B->Vj K (B++F) A H H' rs vs->Q vs H')
inductive wT(ρ:Res)(K:OQ)(F:List XW)(p:XW)(f:WT ρ)(σ:L2.St)(H:Hp)(Q:Bool->Hp->Prop):Prop
 |mk (A B t w b w':_) (_:RW ρ K F H A t σ p w B) (_:f t w=Qs (b,w')) (_:∀H',Ch B H H'->RW ρ K F H' A t σ p w' B->Q b H')
def bW(ρ:Res)(f:DE):WE ρ:=λt w=>(f t).map λr=>(r,w)
def kK(ρ:Res)(f:DT):WT ρ:=λt w=>(f t).map λr=>(r,w)
def eK{ρ:Res}(k:Ev->Qo Ev)(fa:WE ρ):WE ρ:=λt w=>(fa t w).bind λq=>(k q.1).map λr=>(r,q.2)
def dz{ρ:Res}(k:Ev->Ev->Qo Ev)(fa fb:WE ρ):WE ρ:=λt w=>(fa t w).bind λq1=>(fb t q1.2).bind λq2=>(k q1.1 q2.1).map λr=>(r,q2.2)
def Wg{ρ:Res}:WA ρ:=λ_ w=>Qs ([],w)
def bO{ρ:Res}(f:WE ρ)(g:WA ρ):WA ρ:=λt w=>(f t w).bind λq1=>(g t q1.2).bind λq2=>Qs (q1.1::q2.1,q2.2)
def mW{ρ:Res}(k:Ql Ev->Qo Ev)(g:WA ρ):WE ρ:=λt w=>(g t w).bind λq=>(k q.1).map λr=>(r,q.2)
def lY{ρ:Res}(f:WE ρ):WT ρ:=λt w=>(f t w).bind λq=>match q.1.d with
 |.bl b=>Qs (b,q.2)
 |_=>Qn
def zdt{ρ:Res}(f:WT ρ):WT ρ:=λt w=>(f t w).map λq=>(!q.1,q.2)
def YO{ρ:Res}(f g:WT ρ):WT ρ:=λt w=>(f t w).bind λq=>if q.1 then Qs q else g t q.2
def zdu{ρ:Res}(f g:WT ρ):WT ρ:=λt w=>(f t w).bind λq=>if q.1 then g t q.2 else Qs q
section
variable {ρ:Res}{X:Cx}{F:Ql XW}{p:XW}{a b c:XY}{fa fb fc:WE ρ}{g:WA ρ}{ft fu:WT ρ}
def bF(h:∀F',PE X a (dE X.K F' f)):PE X a (wE ρ X.K F p (bW ρ f)):=by
 rintro pins s σ H Q I ⟨A,B,t,w,r,w',R,e,k⟩;unfold bW at e;rcases e1:f t with _|r1
 .rw[e1]at e;cases e
 rw[e1]at e;cases e;exact h _ _ s σ H Q I ⟨A,t,_,R.rs,e1,λv H' gs q=>k v _ (Ch.of gs) (R.grow gs) q⟩
def Bf(h:∀F',PT X a (dT X.K F' f)):PT X a (wT ρ X.K F p (kK ρ f)):=by
 rintro pins s σ H Q I ⟨A,B,t,w,r,w',R,e,k⟩;unfold kK at e;rcases e1:f t with _|r1
 .rw[e1]at e;cases e
 rw[e1]at e;cases e;exact h _ _ s σ H Q I ⟨A,t,_,R.rs,e1,λH' gs=>k _ (Ch.of gs) (R.grow gs)⟩
inductive zj6(ρ:Res)(X:Cx)(F:List XW)(p:XW)(fa fb:WE ρ)(k:Ev->Ev->Option Ev)(σ:L2.St)(H:Hp)(Q:VK):Prop
 |mk (A B t w r1 r2 r w':_) (_:RW ρ X.K F H A t σ p w B) (_:k r1 r2=Qs r) (_:(∀v H',Ch B H H'->RW ρ X.K F H' A t σ p w' B->UE X.K (B++F) A H H' r v->Q v H')) (_:wE ρ X.K F p fa σ H λx H1=>wE ρ X.K F p fb σ H1 λy H2=>Ch B H H2/\RW ρ X.K F H2 A t σ p w' B/\UE X.K (B++F) A H H2 r1 x/\UE X.K (B++F) A H H2 r2 y)
def Ah(h:wE ρ X.K F p (dz k fa fb) σ H Q):zj6 ρ X F p fa fb k σ H Q:=by
 obtain⟨A,B,t,w,r,w',R,e,h⟩:=h;unfold dz at e;rcases e1:fa t w with _|q1
 .rw[e1]at e;cases e
 rw[e1]at e;have e:((fb t _).bind _)=Qs _:=e;rcases e2:fb t _ with _|q2
 .rw[e2]at e;cases e
 rw[e2]at e;have e:((k _ _).map _)=Qs _:=e;rcases e3:k _ _ with _|r0
 .rw[e3]at e;cases e
 rw[e3]at e;cases e;exact⟨A,B,t,w,q1.1,q2.1,_,_,R,e3,h,A,B,t,w,q1.1,q1.2,R,e1,λx H1 c1 R1 v1=>⟨A,B,t,q1.2,q2.1,q2.2,R1,e2,λy H2 c2 R2 v2=>⟨c1.trans c2,R2,v1.zdx R c2,v2.early R1 c1⟩⟩⟩
def yq{Q:VK}(R:RW ρ X.K F H A t σ p w B)(R2:RW ρ X.K F H2 A t σ p w' B)(c:Ch B H H2)(gs:TJ H2 H3)(q:UE X.K (B++F) A (gL B H H2) H3 r z) (h:∀v H',Ch B H H'->RW ρ X.K F H' A t σ p w' B->UE X.K (B++F) A H H' r v->Q v H'):Q z H3:=h z _ (c.trans (Ch.of gs)) (R2.grow gs) (q.zg3 R2)
def fW(ho:∀F',VC X F' (binaryOp op) k)(ha:PE X a (wE ρ X.K F p fa))(hb:PE X b (wE ρ X.K F p fb)):PE X (.BinOp a op b pos) (wE ρ X.K F p (dz k fa fb)):=by intro pins s σ H Q I h;obtain⟨A,B,t,w,r1,r2,r,w',R,e,h,k⟩:=Ah h;refine wpAny_BinOp (ub ha hb I k λv u s2 x y H2 I2 rx ry q=>?_);obtain⟨c,R2,q1,q2⟩:=q;exact ho _ _ _ σ _ _ A x y v u Q _ _ r I2 (R.Zk R2) (om c) rx ry (q1.Xw R) (q2.Xw R) e λz H' g' q'=>yq R R2 c g' q' h
def Bg(ho:∀F',VC X F' (compareOp op) k)(ha:PE X a (wE ρ X.K F p fa))(hb:PE X b (wE ρ X.K F p fb))(hm:behindInMarks op b=Qf:=by first|exact Cg _|(with_unfolding_all rfl)):PT X (.Compare a [op] [b] pos) (wT ρ X.K F p (lY (dz k fa fb))):=by
 rintro pins s σ H Q I ⟨A0,B0,t0,w0,b',w0',R0,e0,h0⟩;unfold lY at e0;refine aq e0 λq0 e1 e0=>?_;have e0:(match q0.1.d with|.bl b=>Qs (b,q0.2)|_=>Qn)=Qs (b',w0'):=e0;have w1:wE ρ X.K F p (dz k fa fb) σ H (λz H'=>Ch B0 H H'/\RW ρ X.K F H' A0 t0 σ p q0.2 B0/\Rep X.K H' q0.1.d z):=⟨A0,B0,t0,w0,q0.1,q0.2,R0,e1,λv H' c R q=>⟨c,R,q.full⟩⟩;obtain⟨A,B,t,w,r1,r2,r,w',R,e,h,k⟩:=Ah w1;refine wpAny_isTrue_Compare1 (ub ha hb I k λv u s2 x y H2 I2 rx ry q=>?_) hm;obtain⟨c,R2,q1,q2⟩:=q;refine aA (ho (B++F) pins s2 σ (gL B H H2) H2 A x y v u (λz H'=>Ch B0 H H'/\RW ρ X.K F H' A0 t0 σ p q0.2 B0/\Rep X.K H' q0.1.d z) r1 r2 r I2 (R.Zk R2) (om c) rx ry (q1.Xw R) (q2.Xw R) e λz H' g' q'=>yq R R2 c g' q' h) λcc s3 ⟨z,H3,I3,r3,c3,R3,q3⟩=>?_;split at e0
 .rename_i b2 z2;cases e0;rw[z2]at q3;cases q3;cases r3;exact wpAny_truthy_bool ⟨H3,I3,h0 _ c3 R3⟩
 .cases e0
def IG(ha:PT X a (wT ρ X.K F p ft)):PW X (.BoolOp op [a] pos) (wT ρ X.K F p ft):=by
 cases op with
 |And=>exact Bb ha
 |Or=>exact A9 ha
def IF(ha:PT X a (wT ρ X.K F p ft))(hb:PW X (.BoolOp .Or (b::rest) pos) (wT ρ X.K F p fu)):PW X (.BoolOp .Or (a::b::rest) pos) (wT ρ X.K F p (YO ft fu)):=by
 refine PW.imp (Ba ha hb) ?_;rintro σ H Q ⟨A,B,t,w,r,w',R,e,h⟩;refine aq e λq e1 e=>?_;obtain⟨q1,q2⟩:=q;refine⟨A,B,t,w,q1,q2,R,e1,λH1 c1 R1=>?_⟩;cases q1 with
 |true=>cases e;exact h _ c1 R1
 |false=>exact⟨A,B,t,q2,r,w',R1,e,λH2 c2 R2=>h _ (c1.trans c2) R2⟩
def fY:PA X [] (wA ρ X.K F p Wg):=PA.imp fJ λσ H Q ⟨A,B,t,w,rs,w',R,e,h⟩=>by cases e;exact h _ H Ch.refl R .nil
def cR(ha:PE X a (wE ρ X.K F p fa))(hr:PA X es (wA ρ X.K F p g))(hs:Pc (a::es) X.env=(Qf,eval a X.env)::Pc es X.env:=by rfl):PA X (a::es) (wA ρ X.K F p (bO fa g)):=by refine PA.imp (fj ha hr hs) ?_;rintro σ H Q ⟨A,B,t,w,rs,w',R,e,h⟩;refine aq e λq1 e1 e=>?_;refine aq e λq2 e2 e=>?_;cases e;exact⟨A,B,t,w,q1.1,q1.2,R,e1,λx H1 c1 R1 v1=>⟨A,B,t,q1.2,q2.1,q2.2,R1,e2,λxs H2 c2 R2 v2=>h _ _ (c1.trans c2) R2 (.cons (v1.zdx R c2) (v2.early R1 c1))⟩⟩
inductive zkk(ρ:Res)(X:Cx)(F:List XW)(p:XW)(g:WA ρ)(k:List Ev->Option Ev)(σ:L2.St)(H:Hp)(Q:VK):Prop
 |mk (A B t w rs r w':_) (_:RW ρ X.K F H A t σ p w B) (_:g t w=Qs (rs,w')) (_:k rs=Qs r) (_:(∀v H',Ch B H H'->RW ρ X.K F H' A t σ p w' B->UE X.K (B++F) A H H' r v->Q v H'))
def Kp(h:wE ρ X.K F p (mW k g) σ H Q):zkk ρ X F p g k σ H Q:=by
 obtain⟨A,B,t,w,r,w',R,e,h⟩:=h;unfold mW at e;rcases e1:g t w with _|q1
 .rw[e1]at e;cases e
 rw[e1]at e;have e:((k _).map _)=Qs _:=e;rcases e2:k _ with _|r0
 .rw[e2]at e;cases e
 rw[e2]at e;cases e;exact⟨A,B,t,w,q1.1,_,_,R,e1,e2,h⟩
def JO(ha:PA X es (wA ρ X.K F p g)):PE X (.Tuple es x1 pos) (wE ρ X.K F p (mW dW g)):=by
 refine PE.imp (rG ha) ?_;intro σ H Q h;obtain⟨A,B,t,w,rs,r,w',R,e1,e,h⟩:=Kp h;unfold dW at e;refine bJ e λhl e=>?_;refine⟨A,B,t,w,rs,w',R,e1,λvs H1 c R1 q1=>⟨by rw[q1.length];exact X4 (by lia),λq hq=>?_⟩⟩;have s1:=du (o:=HO.tup vs) hq;have np:q∉A++(B++F):=dQ R1.rs.mu hq;refine yq R R1 c s1 ?_ h;split at e
 .rename_i k;cases e;exact .tup (UJ.of (aU aM np)) (TZ.mono (ck s1) ((q1.Xw R).clean (R.Zk R1) (om c) k))
 .cases e;exact .tup (UJ.of (aU aM λz=>np (OP _ z))) (TZ.mono (ck s1) ((q1.Xw R).Xz (R.Zk R1)))
end
end DL
variable{ρ:DL.Res}
namespace DL
open PySem.Spec L2
inductive OW(γ:Type) where
 |nx (t:Th) (w:γ)|rt (r:Ev) (w:γ)|bk (t:Th) (w:γ)|ct (t:Th) (w:γ)
abbrev WS(ρ:Res):=Th->ρ.γ->Qo (OW ρ.γ)
def uo(ρ:Res)(K:OQ)(F:Ql XW)(p:XW)(A B:Ql XW)(H:Hp)(N:L2.St->Hp->Prop)(t:Th)(w:ρ.γ):Prop:=∀σ' H' A' B',Gr (A++B) H (A'++B') H'->RW ρ K F H' A' t σ' p w B'->N σ' H'
def ON(ρ:Res)(K:OQ)(F:Ql XW)(p:XW)(A B:Ql XW)(H:Hp)(N:VK)(r:Ev)(w:ρ.γ):Prop:=∀v H' A' B',Gr (A++B) H (A'++B') H'->ρ.rel K H' p w B'->B'.Nodup->(∀b∈B',b∉F)->WX K (B'++F) (A++B) H H' r v->N v H'
def Zb(ρ:Res)(K:OQ)(F:Ql XW)(p:XW)(A B:Ql XW)(H:Hp)(E:Ends):OW ρ.γ->Prop
 |.nx t w=>uo ρ K F p A B H E.nx t w
 |.bk t w=>uo ρ K F p A B H E.bk t w
 |.ct t w=>uo ρ K F p A B H E.ct t w
 |.rt r w=>ON ρ K F p A B H E.rt r w
inductive wS(ρ:Res)(K:OQ)(F:List XW)(p:XW)(g:WS ρ)(E:Ends)(σ:L2.St)(H:Hp):Prop
 |mk (A B t w o:_) (_:RW ρ K F H A t σ p w B) (_:g t w=Qs o) (_:Zb ρ K F p A B H E o)
theorem Zb.back{K:OQ}(h:Zb ρ K F p A B H E o)(g:Gr (A++B) H (A1++B1) H1):Zb ρ K F p A1 B1 H1 E o:=by
 cases o with
 |nx t w=>exact λσ' H' A' B' g' R=>h _ _ _ _ (g.trans g') R
 |bk t w=>exact λσ' H' A' B' g' R=>h _ _ _ _ (g.trans g') R
 |ct t w=>exact λσ' H' A' B' g' R=>h _ _ _ _ (g.trans g') R
 |rt r w=>exact λv H' A' B' g' q n d R=>h v _ _ _ (g.trans g') q n d (R.back g)
section
variable {F A A' B:Ql XW}{t t':Th}{σ σ':L2.St}{p:XW}{w w':ρ.γ}{r:Ev}{v:V}
def RW.grA(R:RW ρ K F H A t σ p w B)(g:Gr A H A' H'):Gr (A++B) H (A'++B) H' where
 kp:=λb o n h=>g.kp b o (λz=>n (OR _ z)) h
 al:=λb hb=>by
  rcases OT.mp hb with z|z
  .exact g.al b z
  .obtain⟨o,e⟩:=ρ.lists R.rel b z;rw[g.kp b _ (R.Zh z) e];simp
 nw:=λb hb=>by
  rcases OT.mp hb with z|z
  .exact(g.nw b z).imp (OR _) id
  .exact .inl (OP _ z)
def RW.YC(c:Ch B H H')(R':RW ρ K F H' A t σ p w' B):Gr (A++B) H (A++B) H' where
 kp:=λb o n h=>c b o (λz=>n (OP _ z)) h
 al:=λb hb=>by
  rcases OT.mp hb with z|z
  .obtain⟨o,e⟩:=R'.rs.mu b (OR _ z);rw[e];simp
  .exact R'.al z
 nw:=λb hb=>.inl hb
def WX.weak(h:WX K F A H H' r v)(s:∀b∈A,b∈A'):WX K F A' H H' r v:=by
 cases r with
 |cl d=>assumption
 |tm d=>assumption
 |nw xs=>obtain⟨q,vs,rfl,h1,h2,h3,h4⟩:=h;exact⟨q,vs,rfl,h1.imp (s q) id,h2,h3,h4⟩
 |dn d=>obtain⟨C,h0,h1,h2⟩:=h;exact⟨C,h0,λb hb=>⟨(h1 b hb).1.imp (s b) id,(h1 b hb).2⟩,h2⟩
theorem RW.put(R:RW ρ K F H A t σ p w B)(c:Ch B H H')(R':RW ρ K F H' A t σ p w' B)(q:UE K (B++F) A H H' r v)(e:c9 t i r=Qs t'):∃A',Gr (A++B) H (A'++B) H'/\RW ρ K F H' A' t' (σ.set i (Qs v)) p w' B:=by
 obtain⟨A',g,RR⟩:=(R.zg2 R').put (om c) (q.Xw (H1:=H') R) e;refine⟨A',⟨λb o n h=>c b o (λz=>n (OP _ z)) h,λb hb=>?_,λb hb=>?_⟩,RR,R'.rel,R'.nd,R'.dj⟩
 .rcases OT.mp hb with z|z
  .exact g.al b z
  .exact R'.al z
 .rcases OT.mp hb with z|z
  .rcases g.nw b z with y|y
   .exact .inl (OR _ y)
   .by_cases x:b∈B
    .exact .inl (OP _ x)
    .rw[kY x]at y;exact .inr y
  .exact .inl (OP _ z)
end
def oL{γ:Type}(w:γ):Out->OW γ
 |.nx t=>.nx t w
 |.rt r=>.rt r w
 |.bk t=>.bk t w
 |.ct t=>.ct t w
def dv(ρ:Res)(g:DS):WS ρ:=λt w=>(g t).map (oL w)
def qN{ρ:Res}:WS ρ:=λt w=>Qs (.nx t w)
def cq{ρ:Res}(g1 g2:WS ρ):WS ρ:=λt w=>(g1 t w).bind λo=>match o with
 |.nx t' w'=>g2 t' w'
 |.rt r w'=>Qs (.rt r w')
 |.bk t' w'=>Qs (.bk t' w')
 |.ct t' w'=>Qs (.ct t' w')
def jQ{ρ:Res}(c:WT ρ)(g1 g2:WS ρ):WS ρ:=λt w=>(c t w).bind λq=>if q.1 then g1 t q.2 else g2 t q.2
def jO{ρ:Res}(f:WE ρ):WS ρ:=λt w=>(f t w).map λq=>.rt q.1 q.2
def eQ{ρ:Res}(i:Nat)(f:WE ρ):WS ρ:=λt w=>(f t w).bind λq=>(c9 t i q.1).map λt'=>.nx t' q.2
noncomputable def eW{ρ:Res}(k:D->Th->Qo Th)(body:WS ρ):Ql D->Th->ρ.γ->Qo (OW ρ.γ)
 |[],t,w=>Qs (.nx t w)
 |d::ds,t,w=>(k d t).bind λt1=>(body t1 w).bind λo=>match o with
  |.nx t' w'=>eW k body ds t' w'
  |.ct t' w'=>eW k body ds t' w'
  |.bk t' w'=>Qs (.nx t' w')
  |.rt r w'=>Qs (.rt r w')
section
variable {X:Cx}{F:Ql XW}{p:XW}{a b c:XY}{fa fb fc:WE ρ}{g g1 g2:WS ρ}{ft fu:WT ρ}{st:XZ}{Ym:Ql XZ}{tg:XY}
def e9(h:∀F',PS X st (dS X.K F' f)):PS X st (wS ρ X.K F p (dv ρ f)):=by
 rintro pins s σ H E I ⟨A,B,t,w,o,R,e,k⟩;unfold dv at e;rcases e1:f t with _|o1
 .rw[e1]at e;cases e
 rw[e1]at e;have e:=by simpa using e
 subst e;refine h _ _ s σ H E I (jo R.rs e1 ?_);cases o1 with
 |nx t'=>exact λσ' H' A' g' R'=>k _ _ _ B (R.grA g') (R.step g' R')
 |bk t'=>exact λσ' H' A' g' R'=>k _ _ _ B (R.grA g') (R.step g' R')
 |ct t'=>exact λσ' H' A' g' R'=>k _ _ _ B (R.grA g') (R.step g' R')
 |rt r=>
  refine λv H' A' g' q=>k v _ _ B (R.grA g') (ρ.mono R.rel λb o h y=>g'.kp b o (λz=>?_) h) R.nd R.dj (q.weak λb hb=>OR _ hb);rcases y with y|y
  .obtain⟨⟨u,m⟩,e⟩:=R.rs.mu b (OR _ z);lia
  .exact R.Zh y z
def vV:UL X [] (wS ρ X.K F p qN):=by
 refine UL.imp Bl ?_;rintro E σ H ⟨A,B,t,w,o,R,e,h⟩;cases e;refine h σ H A B (Gr.refl λb hb=>?_) R;rcases OT.mp hb with z|z
 .exact R.rs.mu b (OR _ z)
 .exact ρ.lists R.rel b z
def df(h1:PS X st (wS ρ X.K F p g1))(h2:UL X Ym (wS ρ X.K F p g2)):UL X (st::Ym) (wS ρ X.K F p (cq g1 g2)):=by
 refine UL.imp (vY h1 h2) ?_;rintro E σ H ⟨A,B,t,w,o,R,e,h⟩;refine aq e λo1 e1 e=>?_;refine⟨A,B,t,w,o1,R,e1,?_⟩;cases o1 with
 |nx t' w'=>exact λσ' H' A' B' g' R'=>⟨A',B',t',w',o,R',e,h.back g'⟩
 |rt r w'=>cases e;assumption
 |bk t2 w'=>cases e;assumption
 |ct t2 w'=>cases e;assumption
def gD(h1:PS X st (wS ρ X.K F p g1)):UL X [st] (wS ρ X.K F p g1):=nT h1
def vW(hc:PT X c (wT ρ X.K F p ft))(ha:UL X s1 (wS ρ X.K F p g1))(hb:UL X s2 (wS ρ X.K F p g2)):PS X (.If c s1 s2 pos) (wS ρ X.K F p (jQ ft g1 g2)):=by
 refine PS.imp (Bo hc ha hb) ?_;rintro E σ H ⟨A,B,t,w,o,R,e,h⟩;refine aq e λq e1 e=>?_;obtain⟨r1,w1⟩:=q;refine⟨A,B,t,w,r1,w1,R,e1,λH1 c1 R1=>?_⟩;cases r1 with
 |true=>exact⟨A,B,t,w1,o,R1,e,h.back (RW.YC c1 R1)⟩
 |false=>exact⟨A,B,t,w1,o,R1,e,h.back (RW.YC c1 R1)⟩
def qZ(ha:PE X a (wE ρ X.K F p fa)):PS X (.Return (Qs a) pos) (wS ρ X.K F p (jO fa)):=by
 refine PS.imp (q8 ha) ?_;rintro E σ H ⟨A,B,t,w,o,R,e,h⟩;unfold jO at e;rcases e1:fa t w with _|q
 .rw[e1]at e;cases e
 rw[e1]at e;cases e;exact⟨A,B,t,w,q.1,q.2,R,e1,λv H' c R' y=>h v _ A B (RW.YC c R') R'.rel R'.nd R'.dj ((WX.of R.rs.mu y).weak λb hb=>OR _ hb)⟩
def IZ(hN:X.N.Nodup)(hi:X.N[i]?=Qs x)(hx:Loc X.env.scope x)(he:PE X a (wE ρ X.K F p fa))(hs:swapsWith a (Qs (.Name x pos')) pos.line X.env=pure Qf:=by rfl)(hf:autoParam (X.fn x=Qt\/X.env.scope.names.lookup x=Qs .local) qzB._auto_1):PS X (.Assign [.Name x pos'] a pos) (wS ρ X.K F p (eQ i fa)):=by
 refine PS.imp (wk hN hi hx he hs hf) ?_;rintro E σ H ⟨A,B,t,w,o,R,e,h⟩;refine aq e λq e1 e=>?_;rcases e2:c9 t i _ with _|t'
 .rw[e2]at e;cases e
 rw[e2]at e;cases e;refine⟨A,B,t,w,q.1,q.2,R,e1,λv H' c R' y=>?_⟩;obtain⟨A',g',RR⟩:=R.put c R' y e2;exact h _ _ _ _ g' RR
def Ni (S:Src K ds J Good)(ht:∀F',cC K F' gt kt)(R:RW ρ K F H A t σ p w B)(e:eW kt g ds t w=Qs o)(h:Zb ρ K F p A B H E o)(g0:Good (A++(B++F)) H):∃W:Nat->Nat->L2.St->Hp->Prop,(∃m,W 0 m σ H)/\∀i m σ H,W i m σ H-> (J.stop i H/\E.nx σ H)\/(J.go i H/\∃N:L2.St->Hp->Prop,(∀σ' H',N σ' H'->∃m',m'<m/\W (i+1) m' σ' H')/\∀x H',J.VT i H x H'->gt x σ H' λσ2 H2=>wS ρ K F p g {E with nx:=N,ct:=N,bk:=E.nx} σ2 H2):=by
 have same:∀{A B A' B':Ql XW}{H H':Hp},Gr (A++B) H (A'++B') H'->TJ (ag (A++(B++F)) H) (ag (A'++(B'++F)) H'):=λ{A B A' B' H H'} g=>by
  have:=g.same (F:=F)
  rwa [PZ,PZ]at this
 refine⟨λi m σ H=>i+m=ds.length/\∃A B t w o,eW kt g (ds.drop i) t w=Qs o/\RW ρ K F H A t σ p w B/\Zb ρ K F p A B H E o/\Good (A++(B++F)) H,⟨ds.length,by lia,A,B,t,w,o,by simpa using e,R,h,g0⟩,?_⟩;rintro i m σ H ⟨hm,A,B,t,w,o,e,R,h,gd⟩;cases m with
 |zero=>
  have z:i=ds.length:=by lia
  subst z;rw[QQ]at e;cases e;refine .inl ⟨S.stop _ _ gd,h σ H A B (Gr.refl λb hb=>?_) R⟩;rcases OT.mp hb with z|z
  .exact R.rs.mu b (OR _ z)
  .exact ρ.lists R.rel b z
 |succ m=>
  have hi:i<ds.length:=by lia
  refine .inr ⟨S.go _ _ i gd hi,λσ' H'=>i+1+m=ds.length/\∃A B t w o,eW kt g (ds.drop (i+1)) t w=Qs o/\RW ρ K F H' A t σ' p w B/\Zb ρ K F p A B H' E o/\Good (A++(B++F)) H',λσ' H' q=>⟨m,Qa m,q⟩,λx H' y=>?_⟩;obtain⟨gs,d,hd,rd⟩:=S.VT _ _ i x H' gd R.rs.mu y hi;have ed:ds.drop i=d::ds.drop (i+1):=by
   have Yb:ds[i]=d:=by rw[O2 hi]at hd;exact Qp hd
   rw[<-Yb];exact Qm hi
  rw[ed]at e;simp only[eW]at e;refine aq e λt1 e1 e=>?_;have R0:=R.grow gs;refine ht (B++F) σ H' A t t1 d x _ R0.rs rd e1 λσ2 A2 Xi R2=>?_;have RW2:=R0.step Xi R2;have VZ:Gr (A++B) H (A2++B) H':=(RW.YC (Ch.of gs) R0).trans (R0.grA Xi);have e:((g t1 w).bind λo=>match o with
    |.nx t' w'=>eW kt g (ds.drop (i+1)) t' w'
    |.ct t' w'=>eW kt g (ds.drop (i+1)) t' w'
    |.bk t' w'=>Qs (.nx t' w')
    |.rt r w'=>Qs (.rt r w'))=Qs o:=e
  refine aq e λo2 e2 e=>?_;refine⟨A2,B,t1,w,o2,RW2,e2,?_⟩;cases o2 with
  |nx t' w'=>exact λσ' H' A' B' g' R'=>⟨by lia,A',B',t',w',o,e,R',h.back (VZ.trans g'),S.keep _ _ _ _ gd (same (VZ.trans g'))⟩
  |ct t' w'=>exact λσ' H' A' B' g' R'=>⟨by lia,A',B',t',w',o,e,R',h.back (VZ.trans g'),S.keep _ _ _ _ gd (same (VZ.trans g'))⟩
  |bk t' w'=>cases e;exact λσ' H' A' B' g' R'=>h σ' H' A' B' (VZ.trans g') R'
  |rt r w'=>cases e;exact Zb.back (o:=.rt r w') h VZ
end
def qD(N:Ql Str)(p:XW)(ds:Ql D):Th:=.val (.adr p)::(ds.map Sl.val++Pk (N.length-1-ds.length) Sl.no)
def BV{γ:Type}:OW γ->Qo (Ev×γ)
 |.rt r w=>Qs (r,w)
 |.nx _ w=>Qs (.cl .Uz,w)
 |_=>Qn
def l8{ρ:Res}(N:Ql Str)(g:XW->WS ρ)(p:XW)(w:ρ.γ)(ds:Ql D):Qo (Ev×ρ.γ):=(g p (qD N p ds) w).bind BV
open Classical in
noncomputable def gK{ρ:Res}(k:Nat)(N:Ql Str)(g:XW->WS ρ):ρ.γ->Ql D->Qo (Ev×ρ.γ):=λw ds=>
 if ds.length+1=k then(if h:∃o,∀p,l8 N g p w ds=Qs o then Qs h.choose else Qn) else Qn
def Lw{g:XW->WS ρ}(hl:ds.length+1=k)(h:∀p,l8 N g p w ds=Qs o):gK k N g w ds=Qs o:=by unfold gK;have hx:∃o,∀p,l8 N g p w _=Qs o:=⟨o,h⟩;rw[T4 hl,dif_pos hx];have:=hx.choose_spec 0;rw[h 0]at this;exact this.symm
def CJ{g:XW->WS ρ}(h:gK k N g w ds=Qs o):ds.length+1=k/\∀p,l8 N g p w ds=Qs o:=by
 unfold gK at h;split at h
 case isFalse=>cases h
 rename_i hl;split at h
 case isFalse=>cases h
 rename_i hx;cases h;exact⟨hl,hx.choose_spec⟩
inductive spX(ρ:Res)(K:OQ)(G:ρ.γ->List D->Option (Ev×ρ.γ))(vs:List V)(H:Hp)(Q:VK)(x_:XK):Prop
 |mk (Fo:List XW) (p:XW) (B:List XW) (w:ρ.γ) (ds:List D) (r:Ev) (w':ρ.γ) (Vs:List V) (_:vs=.ref p::Vs) (_:US H (B++Fo)) (_:B.Nodup) (_:(∀b∈B,b∉Fo)) (_:ρ.rel K H p w B) (_:TZ K (ag (B++Fo) H) ds Vs) (_:G w ds=Qs (r,w')) (_:∀v H',Ch B H H'->ρ.rel K H' p w' B->UE K (B++Fo) [] H H' r v->Q v H')
def FV(ρ:Res):Prop:=∀{K:OQ}{H H':Hp}{p:XW}{w w':ρ.γ}{B B':Ql XW},ρ.rel K H p w B->ρ.rel K H' p w' B'->B'=B
def M7(fx:FV ρ){st:XZ}(Fn:L2.UX K x qual st f fd)(S:U9 N ps (aK st))(hm:ps.length=m)(g:XW->WS ρ) (WO:∀(UG:Pl) (A:QP) (outer:Ql Env) (s:Pf) (H:Hp) (E:XK) (F:Ql XW) (p:XW),UU k (A.deeper (envOfC qual (aK st) s.heap.objs.size f UG))->UL (fR bT P w K mg base N qual (aK st) f UG A outer s H E).W4 (cZ st) (wS ρ K F p (g p))):Vn P w K mg base bT (k+1) f fd ps (spX ρ K (gK m N g)):=by
 refine Fn.ok S (λvs H Q E h=>?_) (λUG A outer s H vs Q E hr h=>?_)
 .obtain⟨Fo,p,B,w,ds,r,w',Vs,rfl,_,_,_,_,h2,hg,_⟩:=h;have:=(CJ hg).1;rw[PM,h2.length,hm];assumption
 .obtain⟨Fo,p,B,w,ds,r,w',Vs,rfl,hl,nd,dj,rel,h2,hg,cont⟩:=h;have Yt:=(CJ hg).2 p;unfold l8 at Yt;refine aq Yt λo ho Yt=>?_;have Yt:BV o=Qs (r,w'):=Yt;refine⟨_,WO UG A outer s H E Fo p hr,[],B,qD N p ds,w,o,⟨⟨hl,PN,λq hq=>(by cases hq),?_⟩,rel,nd,dj⟩,ho,?_⟩
  .unfold qD L2.start;simp only[Pa,Q3,PM,h2.length];refine .val (.adr p) ?_;have:=Ul.start (H:=H) (Ul.zat (N.length-(ds.length+1))) h2
   grind
  .have ch:∀{A' B' H'},Gr _ H (A'++B') H'->Ch B H _:=λg b o n q=>g.kp b o n q;cases o with
   |nx t' w1=>cases Yt;exact λσ' H' A' B' g' R'=>cont _ _ (ch g') (fx rel R'.rel▸R'.rel) .Uz
   |bk t' w1=>cases Yt
   |ct t' w1=>cases Yt
   |rt r' w1=>
    cases Yt;intro v H' A' B' g' q n d y;have eB:=fx rel q;subst eB;refine cont v _ (ch g') q ?_;have fr:∀{b:XW},(b∈[]++B'\/H b=Qn)->b∉B'++Fo->H b=Qn:=λh n=>by
     simp_all
    cases r with
    |cl d=>assumption
    |tm d=>assumption
    |nw xs=>obtain⟨q,Vs,rfl,h1,h2,h3,h4⟩:=y;exact⟨q,Vs,rfl,fr h1 h2,h3,h4⟩
    |dn d=>obtain⟨C,h1,h2,h3⟩:=y;exact⟨C,h1,λb hb=>fr (h2 b hb).1 (h2 b hb).2,h3⟩
structure Yi(ρ:Res)(P:Qz)(w:RZ)(K:OQ)(mg:Str->Option Pl)(base:Wh)(x:Str)(k:Nat)(G:ρ.γ->List D->Option (Ev×ρ.γ)):Prop where
 ex:∃(a:XW) (fd:Ru) (ps:List Str),mg x=Qs (.ref a)/\Qh K (.ref a)=Qt/\L2.Binds K fd ps []/\Vn P w K mg base bT k a fd ps (spX ρ K G)
def Df.Za{st:XZ}(d:Df K mg x st ps a fd)(h:Vn P w K mg base bT k a fd ps (spX ρ K G)):Yi ρ P w K mg base x k G:=⟨a,fd,ps,d.mgx,d.fn.kp,d.bd,h⟩
def eX{ρ:Res}(p:XW)(G:ρ.γ->Ql D->Qo (Ev×ρ.γ))(ga:WA ρ):WE ρ:=λt w=>(ga t w).bind λq=>match q.1 with
 |.cl (.adr q0)::rs=>if q0=p then(G q.2 (rs.map Ev.d)).map λz=>(iV (rs.all Ev.ok) z.1,z.2) else Qn
 |_=>Qn
def Gm{ok:Bool}(m1:US H1 (A++(B++F)))(m':US H' (A++(B++F)))(fr:∀b,H1 b=Qn->H b=Qn)(w:UE K (B++(if ok then A++F else F)) [] H1 H' r v):UE K (B++F) A H H' (iV ok r) v:=by
 cases ok with
 |true=>
  have le:∀P,TJ (ag (P++([]++(B++(A++F)))) _) (ag (P++(A++(B++F))) H'):=λP=>aS _ λb hb=>by
   grind
  cases r with
  |cl d=>exact Rep.mono (le _) w
  |tm d=>
   refine Rep.mono (aS _ λb hb=>?_) w
   grind
  |nw xs=>obtain⟨q,us,rfl,h1,h2,h3⟩:=w;exact⟨q,us,rfl,fr _ h1,h2,TZ.mono (le [q]) h3⟩
  |dn d=>obtain⟨C,h1,h2,h3⟩:=w;exact⟨C,h1,λb hb=>fr _ (h2 b hb),UC.mono (le C) h3 λ_ _ _ q=>q⟩
 |false=>
  cases r with
  |cl d=>
   show UE K _ A H _ (if flat d then .cl d else .tm d) v;split
   .rename_i f;exact Rep.U8 m' f (Rep.mono (aR _ _) w)
   assumption
  |tm d=>
   show UE K _ A H _ (if flat d then .cl d else .tm d) v;split
   .rename_i f;exact Rep.U8 m' f (Rep.mono (aR _ _) w)
   assumption
  |nw xs=>
   obtain⟨q,us,rfl,h1,h2,h3⟩:=w;have np:=dQ m1 h1;show UE K _ A H _ (if UD _ then .nw _ else .tm _) _;split
   .rename_i f;refine⟨q,us,rfl,fr _ h1,h2,TZ.U8 (λb hb=>?_) f (TZ.mono (aR _ _) h3)⟩;rcases OZ.mp hb with rfl|hb
    .exact⟨mL _,h2⟩
    .exact m' b hb
   .exact .lst (Ux.of (aU h2 λz=>np (OP _ z))) (TZ.mono (aS _ λb z=>OS _ z) h3)
  |dn d=>obtain⟨C,h1,h2,h3⟩:=w;exact⟨C,h1,λb hb=>fr _ (h2 b hb),h3.U8 (h3.lists.app m') (aR _ _)⟩
section
variable {X:Cx}{F:Ql XW}{p:XW}{a b c:XY}{fa fb fc:WE ρ}{ga:WA ρ}{st:XZ}{Ym:Ql XZ}
def gF{q:Pos}(c:Yi ρ X.prog X.w X.K X.mg X.base x k G)(hr:UU k X.A)(ha:PA X (a::es) (wA ρ X.K F p ga))(hg:Gl X x:=by rfl)(Ws:Vf x:=by decide) (he:Pc (a::es) X.env=(Qf,eval a X.env)::Pc es X.env:=by rfl) (Vu:(Rc pos (Pc es X.env)).any (·.1)=Qf:=by rfl):PE X (.Call (.Name x q) (a::es) [] pos) (wE ρ X.K F p (eX p G ga)):=by
 obtain⟨f,fd,ps,h1,h2,h3,h4⟩:=c.ex;refine PE.imp (BR h4 hr hg h1 h2 h3 .nil kT ha Ws he Vu) ?_;rintro σ H Q ⟨A,B,t,w,r,w',R,e,h⟩;unfold eX at e;rcases e1:ga t w with _|q1
 .rw[e1]at e;cases e
 rw[e1]at e;obtain⟨rs0,w1⟩:=q1;refine⟨A,B,t,w,rs0,w1,R,e1,λvs H1 c R1 y=>?_⟩;rw[PH];simp at e;split at e
 case h_2=>cases e
 rename_i q0 rs;replace e:=Vm e;obtain⟨eq0,e⟩:=e;subst eq0;cases y with
 |@cons _ v0 _ Vs y1 y2=>
  cases y1;rcases e2:G _ _ with _|z
  .rw[e2]at e;cases e
  rw[e2]at e;obtain⟨r0,w0⟩:=z;have e:Qs (iV _ _,w0)=Qs _:=e;cases e;have fr:∀b,H1 b=Qn->H b=Qn:=λb e=>by
   cases z:H b with
   |none=>rfl
   |some o=>
    by_cases y:b∈B
    .exact absurd e (R1.al y)
    .rw[c b o y z]at e;assumption
  refine⟨if rs.all Ev.ok then A++F else F,q0,B,w1,_,r0,w',Vs,rfl,λb hb=>?_,R1.nd,λb hb z=>?_,R1.rel,?_,e2,λv H' c' zdM w2=>?_⟩
  .refine R1.rs.mu b ?_;split at hb<;>simp at hb ⊢
   .lia
   .lia
  .split at z
   .rcases OT.mp z with z|z
    .exact R1.Zh hb z
    .exact R1.dj b hb z
   .exact R1.dj b hb z
  .by_cases ok:rs.all Ev.ok=Qt
   .rw[T4 ok];refine TZ.mono (aS _ λb hb=>?_) ((y2.Xw R).clean (R.Zk R1) (om c) ok)
    grind
   .rw[Um ok];exact(y2.Xw R).Xz (R.Zk R1)
  .have R2:=R1.chg c' zdM;exact h v _ (c.trans c') R2 (Gm R1.rs.mu R2.rs.mu fr w2)
end
noncomputable def aj:Res where
 γ:=Int×Int
 rel:=λK H p w B=>B=[p]/\H p=Qs (.lst [.int w.1,.int w.2])
 mono:=λ{K H H' p w B} ⟨e,h⟩ k=>⟨e,k p _ h (.inr (by rw[e];exact O1.mpr rfl))⟩
 lists:=λ{K H p w B} ⟨e,h⟩ b hb=>by subst e;rw[O1.mp hb];exact⟨mL _,h⟩
def JE:FV aj:=λ{K H H' p w w' B B'} h h'=>h'.1.trans h.1.symm
def gS(p:XW)(i:Nat)(k:Int):WE aj:=λt w=>match t[i]? with
 |some (.val (.adr q))=>if q=p then(if k=0 then Qs (.cl (.int w.1),w) else if k=1 then Qs (.cl (.int w.2),w) else Qn) else Qn
 |_=>Qn
def jP(p:XW)(i:Nat)(k:Int)(f:WE aj):WS aj:=λt w=>(f t w).bind λq=>match t[i]?,q.1.d with
 |some (.val (.adr q0)),.int n=>if q0=p then(if k=0 then Qs (.nx t (n,q.2.2)) else if k=1 then Qs (.nx t (q.2.1,n)) else Qn) else Qn
 |_,_=>Qn
section
variable {X:Cx}{F:Ql XW}{p:XW}{a b c:XY}{fa fb fc:WE aj}{ga:WA aj}{st:XZ}{Ym:Ql XZ}
def mi(i:Nat){k:Int}{j:Nat}{p1 p2:Pos}(hN:X.N[i]?=Qs x:=by rfl)(hv:autoParam (cJ X.env.scope x) qzA._auto_1)(hd:Vf x:=by decide) (UY:VX x:=by decide) (hs:pL (.Constant (.int k) j p2):=by intro _ _;rfl):PE X (.Subscript (.Name x p1) (.Constant (.int k) j p2) pos) (wE aj X.K F p (gS p i k)):=by
 refine PE.imp (rH (zbn.or xK) (dg (i:=i) hN hv hd UY) wJ hs) ?_;rintro σ H Q ⟨A,B,t,w,r,w',R,e,h⟩;unfold gS at e;split at e
 case h_2=>cases e
 rename_i q z;replace e:=Vm e;obtain⟨eq0,e⟩:=e;subst eq0;obtain⟨v,h1,h2⟩:=R.rs.rel.Zu z;cases h2;have hp:=R.rel.2;refine⟨_,h1,.inl ?_⟩;by_cases k0:k=0
 .subst k0;cases e;exact⟨q,_,0,_,rfl,rfl,Ux.of hp,rfl,h _ H Ch.refl R (.int _)⟩
 .rw[Um k0]at e;by_cases k1:k=1
  .subst k1;cases e;exact⟨q,_,1,_,rfl,rfl,Ux.of hp,rfl,h _ H Ch.refl R (.int _)⟩
  .lia
def Bk(i:Nat){k:Int}{j:Nat}{p0 p2:Pos}(he:PE X a (wE aj X.K F p fa))(hN:X.N[i]?=Qs x:=by rfl)(hv:autoParam (cJ X.env.scope x) qzA._auto_1)(hd:Vf x:=by decide) (UY:VX x:=by decide) (ha:∀v,assign (.Subscript (.Name x p0) (.Constant (.int k) j p2) V3) X.env v=(do
   let ov<-holding [v] (eval (.Name x p0) X.env)
   let iv<-holding [v,ov] (eval (.Constant (.int k) j p2) X.env)
   standAt V3
   holding [v,ov,iv] (setItem ov iv v)
   release [v,ov,iv] []):=by intro _;rfl) (hs:swapsWithSole [.Subscript (.Name x p0) (.Constant (.int k) j p2) V3] a pos.line X.env=pure Qf:=by rfl) (hw:swappedStores [.Subscript (.Name x p0) (.Constant (.int k) j p2) V3] a X.env=pure Qn:=by rfl) (h1:(assignEach [.Subscript (.Name x p0) (.Constant (.int k) j p2) V3] X.env).map (·.2)=[assign (.Subscript (.Name x p0) (.Constant (.int k) j p2) V3) X.env]:=by rfl):PS X (.Assign [.Subscript (.Name x p0) (.Constant (.int k) j p2) V3] a pos) (wS aj X.K F p (jP p i k fa)):=by
 refine PS.imp (q9 he (wC (dg hN hv hd UY) wJ qI ha) hs hw h1) ?_;rintro E σ H ⟨A,B,t,w,o,R,e,h⟩;unfold jP at e;rcases e1:fa t w with _|q1
 .rw[e1]at e;cases e
 rw[e1]at e;obtain⟨r1,w1⟩:=q1;simp at e;split at e
 case h_2=>cases e
 rename_i q0 n z1 z2;replace e:=Vm e;obtain⟨eq0,e⟩:=e;subst eq0;refine⟨A,B,t,w,r1,w1,R,e1,λv H1 c R1 y=>?_⟩;obtain⟨u,s1,s2⟩:=R1.rs.rel.Zu z1;cases s2;have y:=y.full;rw[z2]at y;cases bX y;have hp:=R1.rel.2;have eB:=R1.rel.1;have fin:∀w2,Ch B _ _/\RW aj _ F _ A t σ _ w2 B:=λw2=>by
  have cc:Ch B _ (upd H1 q0 (.lst [.int w2.1,.int w2.2])):=λb o nb hb=>by rw[aC (λz=>nb (by simp_all))];assumption
  exact⟨cc,R1.chg cc ⟨eB,aM⟩⟩
 refine⟨_,s1,?_⟩;by_cases k0:k=0
 .subst k0;cases e;obtain⟨cc,RR⟩:=fin (n,w1.2);exact⟨q0,_,0,0,rfl,rfl,hp,rfl,h _ _ _ _ ((RW.YC c R1).trans (RW.YC cc RR)) RR⟩
 .rw[Um k0]at e;by_cases k1:k=1
  .subst k1;cases e;obtain⟨cc,RR⟩:=fin (w1.1,n);exact⟨q0,_,1,1,rfl,rfl,hp,rfl,h _ _ _ _ ((RW.YC c R1).trans (RW.YC cc RR)) RR⟩
  .lia
end
abbrev WI(ρ:Res):=Th->ρ.γ->Qo ((Bool×Ql D)×ρ.γ)
inductive wI(ρ:Res)(K:OQ)(F:List XW)(p:XW)(fs:WI ρ)(σ:L2.St)(H:Hp)(R:It->Hp->Prop):Prop
 |mk (A B t w b ds w':_) (_:RW ρ K F H A t σ p w B) (_:fs t w=Qs ((b,ds),w')) (_:∀J H1 Good,Ch B H H1->RW ρ K F H1 A t σ p w' B->Src K ds J Good->Good (VB b A (B++F)) H1->R J H1)
def kh(ρ:Res)(fs:DI):WI ρ:=λt w=>(fs t).map λq=>(q,w)
noncomputable def e8{ρ:Res}(k:D->Th->Qo Th)(ft:WT ρ)(fe:WE ρ):Ql D->Th->ρ.γ->Qo (Ql D×ρ.γ)
 |[],_,w=>Qs ([],w)
 |d::ds,t,w=>(k d t).bind λt1=>(ft t1 w).bind λq=>if q.1 then(fe t1 q.2).bind λz=>(e8 k ft fe ds t1 z.2).map λys=>(z.1.d::ys.1,ys.2) else e8 k ft fe ds t1 q.2
def oW{ρ:Res}(n:Nat)(cap:Ql Nat)(fs:WI ρ)(k:D->Th->Qo Th)(ft:WT ρ)(fe:WE ρ):WE ρ:=λt w=>(fs t w).bind λq=>(dH t cap).bind λc=>if q.1.2.length<=50000 then(e8 k ft fe q.1.2 (Pk n Sl.no++c.2.map Sl.val) q.2).bind λys=>if(q.1.1&&c.1)||UD ys.1 then Qs (.nw ys.1,ys.2) else Qn else Qn
theorem yO{fe:WE ρ}:∀{ds:Ql D}{t:Th}{w:ρ.γ}{ys:Ql D×ρ.γ},e8 k ft fe ds t w=Qs ys->ys.1.length<=ds.length
 |[],t,w,ys,e=>by cases e;simp
 |d::ds,t,w,ys,e=>by
  unfold e8 at e;refine aq e λt1 e1 e=>?_;have e:((ft t1 w).bind λq=>if q.1 then(fe t1 q.2).bind λz=>(e8 k ft fe ds t1 z.2).map λys=>(z.1.d::ys.1,ys.2) else e8 k ft fe ds t1 q.2)=Qs ys:=e;refine aq e λq e2 e=>?_;obtain⟨b,w1⟩:=q;cases b with
  |false=>have:=yO (ds:=ds) (t:=t1) e;simp;lia
  |true=>
   have e:((fe t1 w1).bind λz=>(e8 k ft fe ds t1 z.2).map λys=>(z.1.d::ys.1,ys.2))=Qs ys:=e;refine aq e λz e3 e=>?_;have e:((e8 k ft fe ds t1 z.2).map λys=>(z.1.d::ys.1,ys.2))=Qs ys:=e;cases e4:e8 k ft fe ds t1 z.2 with
   |none=>rw[e4]at e;cases e
   |some us=>rw[e4]at e;cases e;have:=yO e4;simp;lia
theorem RW.zag{K:OQ}(R:RW ρ K P H [] t σ p w B)(hd:d∈P)(e:H d=Qs (.lst vs)):RW ρ K P (upd H d (.lst ws)) [] t σ p w B:=⟨RS.zag R.rs (OP _ hd),ρ.mono R.rel λb o h k=>by
  rw[aC]
  .assumption
  .intro z;subst z;rcases k with k|k
   .rw[e]at h;cases h;cases k
   .exact R.dj _ k hd,R.nd,R.dj⟩
def yT(c:Ch B Ha Hb):TJ (ag (B++P) Ha) (ag (B++P) Hb):=λx o z=>by obtain⟨nx,z⟩:=bN z;exact aU (c x o (λy=>nx (OR _ y)) z) nx
def NZ(hn:H1 d=Qn)(sm:Ch B H1 H)(s:Ch B H H'):Ch B H1 (upd H' d o):=λb u nx z=>by rw[aC (λw=>by lia)];exact s _ _ nx (sm _ _ nx z)
def xX(hd:d=Qt->b=Qt):∀x∈B++VB d A F,x∈VB b A (B++F):=λx hx=>by
 rcases OT.mp hx with y|y
 .exact sN x (OR _ y)
 .cases d with
  |false=>exact sN x (OP _ y)
  |true=>rw[hd rfl];exact(OT.mp y).elim (λz=>OR _ z) λz=>OP _ (OP _ z)
inductive CW(ρ:Res)(K:OQ)(kt:D->Th->Option Th)(ft:WT ρ)(fe:WE ρ)(ds xs:List D)(wf:ρ.γ)(H1:Hp)(P B:List XW)(p d:XW)(Good:List XW->Hp->Prop)(i m:Nat)(σ:L2.St)(H:Hp):Prop
 |mk (th:Th) (wn:ρ.γ) (acc rest:List D) (vs:List V) (hm:i+m=ds.length) (R:RW ρ K P H [] th σ p wn B) (ec:e8 kt ft fe (ds.drop i) th wn=Qs (rest,wf)) (ex:acc++rest=xs) (hv:H d=Qs (.lst vs)) (hr:TZ K (ag (B++P) H) acc vs) (sm:Ch B H1 H) (gg:Good (B++P) H)
theorem CW.step{K:OQ}{Good:Ql XW->Hp->Prop}(src:Src K ds J Good)(hk:cC K (B++P) g kt)(hp:d∈P)(nB:d∉B)(hn:H1 d=Qn)(hx:xs.length<=50000) (c:CW ρ K kt ft fe ds xs wf H1 P B p d Good i (m+1) σ H):J.go i H/\∃N:L2.St->Hp->Prop,(∀σ2 H2,N σ2 H2->∃m',m'<m+1/\CW ρ K kt ft fe ds xs wf H1 P B p d Good (i+1) m' σ2 H2)/\∀x H2,J.VT i H x H2->g x σ H2 λσ2 H3=>∃F',wT ρ K F' p ft σ2 H3 λb H4=>
   if b=Qt then ∃F',wE ρ K F' p fe σ2 H4 λv H5=>∃vs,H5 d=Qs (.lst vs)/\vs.length<PD/\N σ2 (upd H5 d (.lst (vs++[v]))) else N σ2 H4:=by
 obtain⟨th,wn,acc,rest,vs,hm,R,ec,ex,hv,hr,sm,gg⟩:=c;have Xg:i<ds.length:=by lia
 have YZ:i+1+m=ds.length:=by lia
 refine⟨src.go _ _ i gg Xg,_,λ_ _ q=>⟨m,Qa m,q⟩,λx H2 y=>?_⟩;obtain⟨UT,d',hd,rd⟩:=src.VT _ _ i x _ gg R.rs.mu y Xg;rw[yG Xg hd]at ec;refine aq ec λt1 k1 ec=>?_;refine aq ec λq k2 ec=>?_;obtain⟨bb,w2⟩:=q;have R0:=R.grow UT;refine hk σ _ _ _ _ _ x _ R0.rs rd k1 λσ2 A2 VZ R2=>?_;have A20:=wV R2 VZ;subst A20;refine⟨P,[],B,t1,wn,bb,w2,R0.step VZ R2,k2,λH3 c3 R3=>?_⟩;have c23:=(Ch.of UT).trans c3;cases bb with
 |false=>exact oI ⟨t1,w2,acc,rest,vs,YZ,R3,ec,ex,c23 _ _ nB hv,TZ.mono (yT c23) hr,sm.trans c23,src.keep _ _ _ _ gg (yT c23)⟩
 |true=>refine aq (ec) λz k3 ec=>?_;obtain⟨re,w3⟩:=z;refine rZ ec λys k4 ec=>?_;obtain⟨ys,w4⟩:=ys;cases ec;refine oH ⟨P,[],B,t1,w2,re,w3,R3,k3,λv H4 c4 R4 q4=>?_⟩;have c24:=c23.trans c4;have hv4:=c24 _ _ nB hv;have hu:TJ _ (ag (B++P) (upd H4 d (.lst (vs++[v])))):=sJ (OP _ hp);have s5:=(yT c24).trans hu;exact⟨vs,hv4,zq hr.length ex hx,t1,w3,_,ys,_,YZ,R4.zag hp hv4,k4,by rw[PZ];assumption,aM,(TZ.mono s5 hr).app (TZ.one (Rep.mono hu (q4.Xz R3.rs.mu))),NZ hn sm c24,src.keep _ _ _ _ gg s5⟩
def GL{X:Cx}(hk:∀F',cC X.K F' g kt)(h:wE ρ X.K F p (oW n cap fs kt ft fe) σ H Q):lX n cap (wI ρ X.K F p fs) g (λσ H Q=>∃F',wT ρ X.K F' p ft σ H Q) (λσ H Q=>∃F',wE ρ X.K F' p fe σ H Q) σ H Q:=by
 obtain⟨A,B,t,w,r,w',R,e,h⟩:=h;refine aq e λq e1 e=>?_;refine aq e λc e2 e=>?_;obtain⟨⟨b,ds⟩,w1⟩:=q;obtain⟨c,zbH⟩:=c;refine bJ e λhlen e=>?_;refine aq e λys e3 e=>?_;obtain⟨xs,wf⟩:=ys;refine bJ e λok e=>?_;cases e;refine⟨A,B,t,w,b,ds,w1,R,e1,λJ H1 Good ch R1 src gd d hD=>?_⟩;obtain⟨cvs,Zy,Zx⟩:=pe R1.rs e2;have nB:d∉B:=λz=>R1.al z hD;have hb:(b&&c)=Qt->b=Qt:=λz=>(Po.mp z).1;have hc:(b&&c)=Qt->c=Qt:=λz=>(Po.mp z).2;have VE:TJ (ag (B++VB (b&&c) A F) H1) (ag (B++(d::VB (b&&c) A F)) (upd H1 d (.lst []))):=λx o z=>by
  obtain⟨nx,z⟩:=bN z;have nd:x≠d:=λy=>by lia
  refine aU (by rw[aC nd];assumption) λy=>?_
  simp_all
 have mu0:∀x∈B++VB (b&&c) A F,x∈A++(B++F):=λx hx=>sM x (xX hb x hx);refine⟨CW ρ X.K kt ft fe ds xs wf H1 (d::VB (b&&c) A F) B p d Good,⟨ds.length,⟨_,w1,[],xs,[],Rn _,⟨⟨λq hq=>?_,PN,λp hp=>(by cases hp),?_⟩,ρ.mono R1.rel λx o z _=>by rw[aC (λy=>by lia)];assumption,R1.nd,λx hx z=>?_⟩,e3,rfl,aM,.nil,Ch.of (du hD),src.keep _ _ _ _ gd ((aS H1 (xX hb)).trans VE)⟩⟩,λi m σ' H' c'=>?_⟩
 .have hq:q∈B++(d::VB (b&&c) A F):=hq;by_cases z:q=d
  .exact⟨mL _,by rw[z];exact aM⟩
  .have y:=(OT.mp hq).elim (λy=>OR _ y) λy=>(OZ.mp y).elim (λy=>absurd y z) λy=>OP _ y;obtain⟨us,y⟩:=R1.rs.mu q (mu0 q y);exact⟨us,by rw[aC z];assumption⟩
 .unfold kr;rw[Zy];exact Ul.zca (TZ.mono ((aS _ (xX hc)).trans VE) Zx) n
 .rcases OZ.mp z with y|y
  .lia
  .rcases OT.mp (sM x y) with u|u
   .exact R1.Zh hx u
   .exact R1.dj x hx u
 cases m with
 |succ m=>exact .inr (c'.step src (hk _) (OU ..) nB hD (PJ (yO e3) hlen))
 |zero=>
  obtain⟨th,wn,acc,rest,vs,hm,RR,ec,ex,hv,hr,sm,gg⟩:=c';cases hm;rw[QQ]at ec;cases ec;rw[PH]at ex;subst ex;have R2:=R1.chg sm RR.rel;have fr:H d=Qn:=by
   cases z:H d with
   |none=>rfl
   |some o=>rw[ch d o nB z]at hD;assumption
  refine .inl ⟨src.stop _ _ gg,h _ H' (ch.trans sm) R2 ⟨d,vs,rfl,fr,hv,?_⟩⟩;rcases S4 _ _▸ok with k|k
  .refine TZ.mono (aS _ λx hx=>?_) hr;rw[k];show x∈B++(d::(A++F))
   grind
  .refine TZ.U8 (λq hq=>?_) k (TZ.mono (aR _ _) hr);rcases OZ.mp hq with z|z
   .exact⟨mL _,by rw[z];assumption⟩
   .exact R2.rs.mu q z
section
variable {X:Cx}{F:Ql XW}{p:XW}{a b c:XY}{fa fb fc:WE ρ}{ga:WA ρ}{st:XZ}{Ym:Ql XZ}{tg:XY}
def qo{ρ:Res}:WT ρ:=λ_ w=>Qs (Qt,w)
def IP:V8 Y [] (wT ρ Y.K F p qo):=V8.imp Bh λσ H Q ⟨A,B,t,w,b,w',R,e,h⟩=>by cases e;exact h H Ch.refl R
def rm(h:∀F',PI X tg a (dI X.K F' fs)):PI X tg a (wI ρ X.K F p (kh ρ fs)):=by
 rintro pins s σ H R I ⟨A,B,t,w,b,ds,w',RR,e,k⟩;unfold kh at e;rcases e1:fs t with _|q
 .rw[e1]at e;cases e
 rw[e1]at e;cases e;exact h _ _ s σ H R I ⟨A,t,b,ds,RR.rs,e1,λJ H1 Good gs S gd=>k J _ _ (Ch.of gs) (RR.grow gs) S gd⟩
def l6{ρ:Res}(k:D->Th->Qo Th)(fs:WI ρ)(body:WS ρ):WS ρ:=λt w=>(fs t w).bind λq=>if q.1.1 then eW k body q.1.2 t q.2 else Qn
def vX(hp:PassesOwn (model X.prog X.w) X.A X.env X.xe)(hc:X.calm=Qt)(hi:PI X tg a (wI ρ X.K F p fs))(hg:PG X tg gt)(ht:∀F',cC X.K F' gt kt)(hb:UL X body (wS ρ X.K F p g)) (hs:∀x,foldedSetIterable a X.env x=pure x:=by intro _;rfl):PS X (.For tg a body [] pos) (wS ρ X.K F p (l6 kt fs g)):=by
 rintro pins s σ H E I ⟨A,B,t,w,o,R,e,h⟩;refine aq e λq e1 e=>?_;obtain⟨⟨bb,ds⟩,w1⟩:=q;cases bb with
 |false=>cases e
 |true=>refine jV hp hc hi hg hb hs _ s σ H E I ⟨A,B,t,w,Qt,ds,w1,R,e1,λJ H1 Good c R1 S gd=>?_⟩;exact Ni S ht R1 e (h.back (RW.YC c R1)) gd
end
def Ul.zd2 (hr:Rep K H0 d v)(h:Ul K H0 H t σ A):∀i:Nat,t[i]?=Qs .no->σ[i]?=Qs (Qs v)->Ul K H0 H (t.set i (.val d)) σ A:=by
 induction h with
 |nil=>simp
 |no r ih=>
  intro i e f;cases i with
  |zero=>simp at f;subst f;exact .val hr r
  |succ i=>exact .no (ih i (e) (f))
 |val h r ih=>
  intro i e f;cases i with
  |zero=>simp at e
  |succ i=>exact .val h (ih i (e) (f))
 |own h1 h2 r ih=>
  intro i e f;cases i with
  |zero=>simp at e
  |succ i=>exact .own h1 h2 (ih i (e) (f))
 |dp h r ih=>
  intro i e f;cases i with
  |zero=>simp at e
  |succ i=>exact .dp h (ih i (e) (f))
def Ul.fgt (h:Ul K H0 H t σ A):∀i:Nat,∃A',A'.Sublist A/\Ul K H0 H (t.set i .no) σ A':=by
 induction h with
 |nil=>intro i;exact⟨[],Pp _,.nil⟩
 |no r ih=>
  intro i;cases i with
  |zero=>exact⟨_,Pp _,.no r⟩
  |succ i=>obtain⟨A',s,q⟩:=ih i;exact⟨A',s,.no q⟩
 |val h r ih=>
  intro i;cases i with
  |zero=>exact⟨_,Pp _,.no r⟩
  |succ i=>obtain⟨A',s,q⟩:=ih i;exact⟨A',s,.val h q⟩
 |own h1 h2 r ih=>
  intro i;cases i with
  |zero=>exact⟨_,QT _ _,.no r⟩
  |succ i=>obtain⟨A',s,q⟩:=ih i;exact⟨_,s.cons₂ _,.own h1 h2 q⟩
 |dp h r ih=>
  intro i;cases i with
  |zero=>exact⟨_,Q2 _ _,.no r⟩
  |succ i=>obtain⟨A',s,q⟩:=ih i;exact⟨_,Qr (Pp _) s,.dp h q⟩
def WX.zhh (h:WX K (B++F) A H H' r v):WX K F A H H' r v:=by
 have le:∀P,TJ (ag (P++(B++F)) _) (ag (P++F) H'):=λP=>aS _ λb hb=>by
  grind
 cases r with
 |cl d=>exact Rep.mono (le []) h
 |tm d=>exact Rep.mono (le []) h
 |nw xs=>obtain⟨q,vs,rfl,h1,h2,h3,h4⟩:=h;exact⟨q,vs,rfl,h1,λz=>h2 (OP _ z),h3,TZ.mono (le [q]) h4⟩
 |dn d=>obtain⟨C,h0,h1,h2⟩:=h;exact⟨C,h0,λb hb=>⟨(h1 b hb).1,λz=>(h1 b hb).2 (OP _ z)⟩,UC.mono (le C) h2 λ_ _ _ q=>q⟩
def qu{γ:Type}(i:Nat):OW γ->Out
 |.nx t _=>.nx (t.set i .no)
 |.rt r _=>.rt r
 |.bk t _=>.bk (t.set i .no)
 |.ct t _=>.ct (t.set i .no)
open Classical in
noncomputable def mZ(i:Nat)(g:XW->WS aj):DS:=λt=>match t[i]? with
 |some (.own [.int c,.int n])=>if h:∃o,∀p,(g p (t.set i (.val (.adr p))) (c,n)).map (qu i)=Qs o then Qs h.choose else Qn
 |_=>Qn
open Classical in
def MN(e:t[i]?=Qs (.own [.int c,.int n]))(h:∀p,(g p (t.set i (.val (.adr p))) (c,n)).map (qu i)=Qs o):mZ i g t=Qs o:=by unfold mZ;have hx:∃o,∀p,(g p (t.set i (.val (.adr p))) _).map _=Qs o:=⟨o,h⟩;rw[e];show(if h:∃o,∀p,(g p _ _).map _=Qs o then Qs _ else Qn)=Qs o;rw[dif_pos hx];have:=hx.choose_spec 0;rw[h 0]at this;exact this.symm
section
variable {X:Cx}{F:Ql XW}{a b c:XY}{es:Ql XY}{fa:DE}{st:XZ}{Ym:Ql XZ}
def Jc(i:Nat)(h:∀p,UL X Ym (wS aj X.K F p (g p))):UL X Ym (dS X.K F (mZ i g)):=by
 intro pins s σ H E I q;obtain⟨A,t,o,R,e,post⟩:=jm q;unfold mZ at e;split at e
 case h_2=>cases e
 rename_i c n z;split at e
 case isFalse=>cases e
 rename_i hx;have Y3:=hx.choose_spec;have eo:hx.choose=o:=by simpa using e
 rw[eo]at Y3;obtain⟨p,vs,b1,b2,b3,b4⟩:=R.rel.WV z;have ev:vs=[.int c,.int n]:=by
  cases b4 with
  |cons r1 r'=>
   cases r' with
   |cons r2 r3=>cases r3;cases r1;cases r2;rfl
 subst ev;obtain⟨A',sub,pn,mk⟩:=R.rel.zax i R.nd z b1;have zai:∀b∈A',b∈A:=λb hb=>sub.subset hb;have hs:TJ (ag (A++F) H) (ag (A'++([p]++F)) H):=aS H λb hb=>by
  rcases OT.mp hb with y|y
  .exact OR _ (zai b y)
  .rcases OT.mp y with y|y
   .simp_all
   .exact OP _ y
 have hi:i<t.length:=(Pu.mp z).1;have rel:Ul X.K (ag (A'++([p]++F)) H) H (t.set i (.val (.adr p))) σ A':=by
  have:=Ul.zd2 (.adr p) (mk _ H hs λ_ _ _ w=>w) i (by simp[hi]) b1
  rwa [S9]at this
 have RWp:RW aj X.K F H A' (t.set i (.val (.adr p))) σ p (c,n) [p]:=⟨⟨λb hb=>?_,R.nd.sublist sub,λb hb w=>?_,rel⟩,⟨rfl,b3⟩,(by simp),λb hb=>?_⟩
 .have hp:=Y3 p;rcases ho:g p (t.set i (.val (.adr p))) (c,n) with _|ow
  .rw[ho]at hp;cases hp
  rw[ho]at hp;have hp:=by simpa using hp
  refine h p _ s σ H E I ⟨A',[p],_,_,ow,RWp,ho,?_⟩;have gr:∀{A2 B2 A3:Ql _}{H':Hp},Gr _ H (A2++B2) H'->(∀b∈A3,b∈A2)->Gr A H _ _:=λ{A2 B2 A3 H'} g s3=>by
   have nA:∀b,b∉A->b∉A'++[p]:=λb nb w=>by
    rcases OT.mp w with w|w
    .exact nb (zai b w)
    .simp_all
   refine⟨λb o' nb w=>g.kp b _ (nA b nb) w,λb hb=>?_,λb hb=>?_⟩
   .by_cases w:b∈A'++[p]
    .exact g.al b w
    .obtain⟨u,y⟩:=R.mu b (OR _ hb);rw[g.kp b _ w y];simp
   .rcases g.nw b (OR _ (s3 b hb)) with w|w
    .by_cases y:b∈A
     .exact .inl y
     .exact absurd w (nA b y)
    .exact .inr w
  have after:∀{N:L2.St->Hp->Prop}{t':Th}{w':Int×Int},After X.K F A H N (t'.set i .no)->uo aj X.K F p A' [p] H N t' w':=λ{N t' w'} k σ' H' A2 B2 g R2=>by
   obtain⟨A3,s3,q3⟩:=R2.rs.rel.fgt i;have m3:∀b∈A3,b∈A2:=λb hb=>s3.subset hb;refine k σ' H' A3 (gr g m3) ⟨λb hb=>R2.rs.mu b ?_,R2.rs.nd.sublist s3,λb hb w=>R2.rs.dj b (m3 b hb) (OP _ w),Ul.mono (aS H' λb hb=>?_) q3 λ_ _ _ w=>w⟩
   .rcases OT.mp hb with w|w
    .exact OR _ (m3 b w)
    .exact OP _ (OP _ w)
   .rcases OT.mp hb with w|w
    .exact OR _ (m3 b w)
    .exact OP _ (OP _ w)
  cases ow with
  |nx t' w'=>subst hp;exact after post
  |bk t' w'=>subst hp;exact after post
  |ct t' w'=>subst hp;exact after post
  |rt r w'=>
   subst hp;intro v H' A2 B2 g zdM nd dj y;refine post v _ [] (gr g λb hb=>nomatch hb) (y.zhh.weak λb hb=>?_);rcases OT.mp hb with w|w
   .exact zai b w
   .rw[O1.mp w];assumption
 .rcases OT.mp hb with w|w
  .exact R.mu b (OR _ (zai b w))
  .rcases OT.mp w with w|w
   .rw[O1.mp w];exact⟨mL _,b3⟩
   .exact R.mu b (OP _ w)
 .rcases OT.mp w with w|w
  .rw[O1.mp w]at hb;exact pn hb
  .exact R.dj b (zai b hb) w
 .rw[O1.mp hb];exact R.dj p b2
end
section
variable {X:Cx}{F:Ql XW}{p:XW}{a b c:XY}{fa fb fc:WE ρ}{ga:WA ρ}{st:XZ}{Ym:Ql XZ}{tg:XY}
def IY (n:Nat)(cap:Ql Nat)(N':Ql Str)(Zt:X.N.Nodup)(Zn:X.N[i]?=Qs y)(hy:Loc X.env.scope y)(hc:X.calm=Qt)(hi:PI X tg iter (wI ρ X.K F p fs)) (hg:∀C s₃ H₃ fp pins,PG (bw X N' scope C s₃ H₃ fp pins) tg g) (hk:∀F',cC X.K F' g kt) (ht:∀C s₃ H₃ fp pins F',V8 (bw X N' scope C s₃ H₃ fp pins) ifs (wT ρ X.K F' p ft)) (he:∀C s₃ H₃ fp pins F',PE (bw X N' scope C s₃ H₃ fp pins) elt (wE ρ X.K F' p fe)) (VW:swapsWith (.ListComp elt [⟨tg,iter,ifs,0⟩] scope pos) (Qs (.Name y py)) YR.line X.env=pure Qt:=by rfl) (hf:X.fn y=Qt\/X.env.scope.names.lookup y=Qs .local:=by first|exact .inl rfl|exact .inr rfl) (WN:scope.kind=.function:=by rfl) (Xh:kq scope.names X.env.kindOf=Qt:=by rfl) (hN:N'.length=n+cap.length:=by rfl) (VG:iO N' X.N n scope.names 0 cap=Qt:=by rfl) (hs:∀x,foldedSetIterable iter X.env x=pure x:=by intro _;rfl):PS X (.Assign [.Name y py] (.ListComp elt [⟨tg,iter,ifs,0⟩] scope pos) YR) (wS ρ X.K F p (eQ i (oW n cap fs kt ft fe))):=by
 refine PS.imp (Bp (tt:=λσ H Q=>∃F',wT ρ _ _ p _ σ H Q) (te:=λσ H Q=>∃F',wE ρ _ _ p _ σ H Q) (o7 WN Xh) hc hi hN (λk j e=>by simpa using m7 VG k j e) hg (λC s₃ H₃ fp pins X0 s σ H Q I ⟨F',q⟩=>ht C _ _ _ _ F' _ s σ H Q I q) (λC s₃ H₃ fp pins X0 s σ H Q I ⟨F',q⟩=>he C _ _ _ _ F' _ s σ H Q I q) Zt Zn hy VW hf hs) ?_;rintro E σ H ⟨A,B,t,w,o,R,e,h⟩;refine GL hk ?_;refine aq e λq e1 e=>?_;rcases e2:c9 t i _ with _|t'
 .rw[e2]at e;cases e
 rw[e2]at e;cases e;refine⟨A,B,t,w,q.1,q.2,R,e1,λv H' c R' y=>?_⟩;obtain⟨A',g',RR⟩:=R.put c R' y e2;exact h _ _ _ _ g' RR
def PW.ptw(h:PW X a (wT ρ X.K F p ft)):PT X a (wT ρ X.K F p ft):=λpins s σ H Q I q=>h _ _ s σ H Q I q
end
noncomputable def aW(f:Str):Ql Str->Qo Nat
 |[]=>Qn
 |n::ns=>if n=f then Qs 0 else(aW f ns).map (·+1)
theorem mB{α:Type}:∀{ns:Ql Str}{vs:Ql α}{j:Nat}{v:α},aW f ns=Qs j->vs[j]?=Qs v->(ns.zip vs).lookup f=Qs v
 |[],_,_,_,e,_=>by cases e
 |n::ns,[],j,v,e,h=>‹_›
 |n::ns,x::vs,j,v,e,h=>by
  simp only[aW]at e;by_cases z:n=f
  .rw[T4 z]at e;cases e
   simp_all
  .rw[Um z]at e;simp only[Qc,Tz,(beq_eq_false_iff_ne.mpr λw=>z w.symm)];rcases e1:aW f _ with _|k
   .rw[e1]at e;cases e
   rw[e1]at e;cases e;exact mB e1 (h)
theorem xi{α:Type}:∀{ns:Ql Str}{vs:Ql α},aW f ns=Qn->(ns.zip vs).lookup f=Qn
 |[],_,_=>by simp
 |n::ns,[],_=>by simp
 |n::ns,x::vs,e=>by
  simp only[aW]at e;by_cases z:n=f
  .lia
  .simp only[Qc,Tz,(beq_eq_false_iff_ne.mpr λw=>z w.symm)];exact xi (by simp_all)
theorem Be:∀{ns:Ql Str}{vs:Ql V}{j:Nat},aW f ns=Qs j->ns.length=vs.length->cO f v (ns.zip vs)=ns.zip (vs.set j v)
 |[],_,_,e,_=>by cases e
 |n::ns,[],j,e,h=>by simp at h
 |n::ns,x::vs,j,e,h=>by
  simp only[aW]at e;by_cases z:n=f
  .rw[T4 z]at e;cases e;simp only[Qc,cO,T4 z,TH]
  .rw[Um z]at e;rcases e1:aW f _ with _|k
   .rw[e1]at e;cases e
   rw[e1]at e;cases e;simp only[Qc,cO,Um z,List.set_cons_succ];rw[Be e1 (by simpa using h)]
theorem Bc:∀{ns:Ql Str}{vs:Ql V},aW f ns=Qn->ns.length=vs.length->cO f v (ns.zip vs)=(ns++[f]).zip (vs++[v])
 |[],[],_,_=>rfl
 |[],_::_,_,h=>by simp at h
 |n::ns,[],e,h=>by simp at h
 |n::ns,x::vs,e,h=>by
  simp only[aW]at e;by_cases z:n=f
  .lia
  .simp only[Qc,cO,Um z,Q3];rw[Bc (by simp_all) (by simpa using h)]
theorem EJ:∀{ns:Ql Str}{j:Nat},aW f ns=Qs j->j<ns.length
 |[],_,e=>by cases e
 |n::ns,j,e=>by
  simp only[aW]at e;split at e
  .cases e;simp
  .rcases e1:aW f _ with _|k
   .rw[e1]at e;cases e
   rw[e1]at e;cases e;have:=EJ e1;simp;assumption
section
variable {X:Cx}{F:Ql XW}{a b c o:XY}{es:Ql XY}{fa:DE}{g g1 g2:DS}{ft:DT}{st:XZ}{C:XW}{f m:Str}
def aG(C:XW)(f:Str):Ev->Qo Ev:=λr=>match r.d with
 |.obj C' ns ds=>if C'=C then(aW f ns).bind λj=>(ds[j]?).map λd=>if r.ok||flat d then .cl d else .tm d else Qn
 |_=>Qn
def cI(c:Vh X.K C)(n:UH X.K C f)(ha:PE X a (dE X.K F fa))(hb:attributeBase a f X.env (eval a X.env)=eval a X.env:=by rfl):PE X (.Attribute a f pos) (dE X.K F (d1 (aG C f) fa)):=by
 refine PE.imp (kR ha hb) ?_;rintro σ H Q ⟨A,t,r,R,e,h⟩;unfold d1 at e;rcases e1:fa t with _|r1
 .rw[e1]at e;cases e
 rw[e1]at e;replace e:aG C f _=Qs r:=e;refine⟨A,t,r1,R,e1,λv H1 gs q=>?_⟩;have m:=R.mu;have m2:=m.mono gs;have key:∀P,Rep X.K (ag P H1) r1.d v->(∀d v,Rep X.K (ag P H1) d v->UE X.K F A H H1 (if r1.ok||flat d then Ev.cl d else Ev.tm d) v)->∃a C dx fs v',v=.ref a/\H1 a=Qs (.ins C dx fs)/\Vh X.K C/\UH X.K C f/\fs.lookup f=Qs v'/\Q v' H1:=λP hP fin=>by
  unfold aG at e;split at e
  case h_2=>cases e
  rename_i C' ns ds z1;replace e:=Vm e;obtain⟨ec,e⟩:=e;subst ec;rw[z1]at hP;cases hP with
  |@obj _ dx _ _ p vs l h1 h2=>
   rcases e4:aW f _ with _|j
   .rw[e4]at e;cases e
   rw[e4]at e;simp only[OY]at e;rcases e5:ds[j]? with _|d
   .rw[e5]at e;cases e
   rw[e5]at e;have e:(if r1.ok||flat d then Ev.cl d else Ev.tm d)=r:=by simpa using e
   obtain⟨v',e6,rv⟩:=h2.get e5;exact⟨p,C',dx,_,v',rfl,(bN h1).2,c,n,mB e4 e6,h _ _ gs (e▸fin d _ rv)⟩
 by_cases k:r1.ok=Qt
 .refine key _ (q.clean m gs k) λd v rv=>?_;rw[k,R8];assumption
 .refine key F (q.Xz m) λd v rv=>?_;have k:=by simpa using k
  rw[k];split
  .rename_i f;exact Rep.U8 m2 f (Rep.mono (aR _ _) rv)
  assumption
structure YK(P:Qz)(w:RZ)(K:OQ)(mg:Str->Option Pl)(base:Wh)(C:XW)(m:Str)(k:Nat)(G:List D->Option Ev):Prop where
 ex:∃(f:XW) (fd:Ru) (ps:List Str),Meth K C m f/\L2.Binds K fd ps []/\Vn P w K mg base bT k f fd ps (Xr K G)
def cj(C:XW)(m:Str)(G:Ql D->Qo Ev)(fo:DE)(ga:DA):DE:=λt=>(fo t).bind λr0=>match r0.d with
 |.obj C' ns _=>if C'=C/\aW m ns=Qn then(ga t).bind λrs=>aX G (r0::rs) else Qn
 |_=>Qn
def Cy{k:Nat}(hq:dE X.K F (cj C m G fo ga) σ H Q):qt C m (Xr X.K G) [] E (dE X.K F fo) (dA X.K F ga) σ H Q:=by
 obtain⟨A,t,r,R,e,h⟩:=hq;unfold cj at e;rcases e1:fo t with _|r0
 .rw[e1]at e;cases e
 rw[e1]at e;simp at e;split at e
 case h_2=>cases e
 rename_i C' ns ds z1;replace e:=Vm e;obtain⟨ec,e⟩:=e;obtain⟨rfl,ec⟩:=ec;rcases e2:ga t with _|rs
 .rw[e2]at e;cases e
 rw[e2]at e;refine⟨A,t,r0,R,e1,λx H1 V5 q1=>?_⟩;have q1f:=q1.full;rw[z1]at q1f;cases q1f with
 |@obj _ dx _ _ p vs l h1 h2=>refine⟨p,dx,_,rfl,h1,xi ec,A,t,rs,R.grow V5,e2,λus H2 UT q2=>?_⟩;rw[PH];exact Fq R.mu (V5.trans UT) (.cons (q1.mono UT) (Vj.back V5 q2)) e λv H' g' q'=>h v _ ((V5.trans UT).trans g') q'
def mm{pl:Sem Bool}(cl:Vh X.K C)(cm:YK X.prog X.w X.K X.mg X.base C m k G)(hr:UU k X.A)(ho:PE X o (dE X.K F fo))(ha:PA X (a::es) (dA X.K F ga)) (U6:Pc (a::es) X.env=(Qf,eval a X.env)::Pc es X.env:=by rfl) (Vu:(Rc pos (Pc es X.env)).any (·.1)=Qf:=by rfl) (ht:eval (.Call (.Attribute o m apos) (a::es) [] pos) X.env=(do
   let ov<-eval o X.env
   standAt apos.atName
   let (f,first)<-holding [ov] (getMethod ov m pl)
   callWith pos f first (Rc pos (Pc (a::es) X.env)) (backToKw pos (keywordEach [] X.env))):=by rfl):PE X (.Call (.Attribute o m apos) (a::es) [] pos) (dE X.K F (cj C m G fo ga)):=by obtain⟨f,fd,ps,h1,h2,h3⟩:=cm.ex;exact PE.imp (BP ho cl h1 h3 hr h2 .nil kT ha U6 Vu ht) λσ H Q hq=>Cy (k:=k) hq
def JV(cl:Vh X.K C)(cm:YK X.prog X.w X.K X.mg X.base C m k G)(hr:UU k X.A)(ho:PE X o (dE X.K F fo)) (ht:eval (.Call (.Attribute o m apos) [] [] pos) X.env=(do
   let ov<-eval o X.env
   standAt apos.atName
   let (f,first)<-holding [ov] (getMethod ov m pl)
   callWith pos f first (Rc pos (Pc [] X.env)) (backToKw pos (keywordEach [] X.env))):=by rfl):PE X (.Call (.Attribute o m apos) [] [] pos) (dE X.K F (cj C m G fo ao)):=by obtain⟨f,fd,ps,h1,h2,h3⟩:=cm.ex;refine PE.imp (BO ho cl h1 h3 hr h2 .nil kT ht) λσ H Q hq=>?_;obtain⟨A,t,r,R,e,h⟩:=Cy (k:=k) (E:=E0) hq;refine⟨A,t,r,R,e,λx H1 gs q=>?_⟩;obtain⟨p,dx,fs,e1,e2,e3,A2,t2,rs,R2,e4,h4⟩:=h x _ gs q;cases e4;exact⟨p,dx,fs,e1,e2,e3,h4 _ _ (TJ.refl _) .nil⟩
end
inductive Swp(K:OQ)(H0 H:Hp)(ds:List D)(vs:List V)(C:List XW)(j:Nat)(d:D):Prop
 |mk (v B1:_) (_:vs[j]?=Qs v) (_:UC K H0 H d v B1) (_:(∀b∈B1,b∈C)) (_:B1.Nodup) (_:∀U3 H' y v2 B2,TJ H0 U3->UC K U3 H' y v2 B2->B2.Nodup->(∀b∈B2,b∈B1\/b∉C)->(∀q∈C,q∉B1->∀o,H q=Qs o->H' q=Qs o)->∃C',Uq K U3 H' (ds.set j y) (vs.set j v2) C'/\C'.Nodup/\∀b∈C',b∈B2\/(b∈C/\b∉B1))
theorem Uq.swap{K:OQ}{H0 H:Hp}:∀{ds:Ql D}{vs:Ql V}{C:Ql XW},Uq K H0 H ds vs C->C.Nodup->∀{j:Nat}{d:D},ds[j]?=Qs d->Swp K H0 H ds vs C j d
 |_,_,_,.nil,nd,j,d,e=>by simp at e
 |_,_,_,.cons (v:=v) (B:=B) h r,nd,0,d,e=>by
  simp at e;subst e;have n:=O4.mp nd;refine⟨v,B,rfl,h,λb hb=>OR _ hb,n.1,λU3 H' y v2 B2 s q n2 sb k=>⟨_,.cons q (Uq.mono s r λp hp o w=>?_),O4.mpr ⟨n2,n.2.1,λx hx z hz e=>?_⟩,λb hb=>?_⟩⟩
  .exact k p (OP _ hp) (λz=>n.2.2 p z p hp rfl) o w
  .grind
  .grind
 |_,_,_,.cons (B:=B) h r,nd,j+1,d,e=>by
  have n:=O4.mp nd;obtain⟨v1,B1,a1,a2,a3,a5,a4⟩:=Uq.swap r n.2.1 (j:=j) (d:=d) (by assumption);refine⟨v1,B1,by assumption,a2,λb hb=>OP _ (a3 b hb),a5,λU3 H' y v2 B2 s q n2 sb k=>?_⟩;obtain⟨C',b1,b2,b3⟩:=a4 U3 H' y v2 B2 s q n2 (λb hb=>(sb b hb).imp id λz w=>z (OP _ w)) (λq hq=>k q (OP _ hq));refine⟨B++C',.cons (UC.mono s h λp hp o w=>k p (OR _ hp) (λz=>n.2.2 p hp p (a3 p z) rfl) o w) b1,O4.mpr ⟨n.1,b2,λx hx z hz e=>?_⟩,λb hb=>?_⟩
  .subst e;rcases b3 x hz with w|w
   .rcases sb x w with u|u
    .exact n.2.2 x hx x (a3 x u) rfl
    .exact u (OR _ hx)
   .exact n.2.2 x hx x w.1 rfl
  .rcases OT.mp hb with w|w
   .exact .inr ⟨OR _ w,λz=>n.2.2 b w b (a3 b z) rfl⟩
   .rcases b3 b w with u|u
    .exact .inl u
    .simp_all
theorem Uq.snoc{K:OQ}{H0 H:Hp}{d:D}{v:V}{B:Ql XW}(q:UC K H0 H d v B):∀{ds:Ql D}{vs:Ql V}{C:Ql XW},Uq K H0 H ds vs C->Uq K H0 H (ds++[d]) (vs++[v]) (C++B)
 |_,_,_,.nil=>by have:Uq K _ H _ _ _:=.cons q .nil;rw[PH]at this;assumption
 |_,_,_,.cons h r=>by rw[PZ];exact .cons h (Uq.snoc q r)
def HG{σ:L2.St}(h:σ[i]?=Qs (Qs v)):σ.set i (Qs v)=σ:=by
 apply QS;intro k;by_cases z:i=k
 .subst z;rw[P2 ((Pu.mp h).1),h]
 .rw[Pm z]
def RS.zdd (R:RS K (Z++F) H A t σ)(zf:∀z∈Z,z∉F)(e:t[i]?=Qs (.dp d)):∃v B A',σ[i]?=Qs (Qs v)/\B.Nodup/\(∀b∈B,b∈A)/\(∀b∈A',b∈A)/\(∀b∈B,b∉A'++(Z++F))/\UC K (ag (A'++(B++(Z++F))) H) H d v B/\UC K (ag (A++(Z++F)) H) H d v B/\∀H1 d2 B2,(∀b o,b∉B->b∉Z->H b=Qs o->H1 b=Qs o)->B2.Nodup->(∀b∈B2,b∈B\/b∈Z\/H b=Qn)->UC K (ag (A'++(B2++F)) H1) H1 d2 v B2->∃A2,RS K F H1 A2 (t.set i (.dp d2)) σ/\∀b∈A2,b∈A\/b∈Z\/H b=Qn:=by
 obtain⟨v,B,A',a1,R',nb,dj,YT,sub,WL⟩:=R.za4 e;have hi:i<t.length:=(Pu.mp e).1;have le:TJ (ag (A++(Z++F)) H) (ag (A'++(B++(Z++F))) H):=aS H λx hx=>by
  rcases OT.mp hx with z|z
  .exact OR _ (sub x z)
  .rcases OT.mp z with z|z
   .exact OR _ (WL x z)
   .exact OP _ z
 refine⟨v,B,A',a1,nb,WL,sub,λb hb z=>(OT.mp z).elim (λw=>R'.dj b w (OR _ hb)) (dj b hb),UC.mono le YT λ_ _ _ w=>w,YT,λH1 d2 B2 kp nb2 new rd=>?_⟩;have up:∀b,b∈A'++F->b∈A'++(B++(Z++F)):=λb hb=>by
  rcases OT.mp hb with w|w
  .exact OR _ w
  .simp_all
 have out:∀b,b∈A'++F->b∉B:=λb hb z=>by
  rcases OT.mp hb with w|w
  .exact R'.dj b w (OR _ z)
  .exact dj b z (OP _ w)
 have zb7:∀b,b∈A'++F->b∉Z:=λb hb z=>by
  rcases OT.mp hb with w|w
  .exact R'.dj b w (OP _ (OR _ z))
  .exact zf b z w
 have zdX:∀b,b∈A'++F->b∉B2:=λb hb z=>by
  rcases new b z with w|w|w
  .exact out b hb w
  .exact zb7 b hb w
  .obtain⟨o,q⟩:=R'.mu b (up b hb);lia
 have mu2:US H1 (A'++(B2++F)):=λb hb=>by
  have other:b∈A'++F->∃o:MO,H1 b=Qs o.1:=λz=>by obtain⟨o,q⟩:=R'.mu b (up b z);exact⟨o,kp b _ (out b z) (zb7 b z) q⟩
  rcases OT.mp hb with z|z
  .exact other (OR _ z)
  .rcases OT.mp z with z|z
   .exact rd.lists b z
   .exact other (OP _ z)
 have R2:RS K (B2++F) H1 A' (t.set i .no) σ:=by
  refine⟨mu2,R'.nd,λb hb z=>?_,Ul.mono (λb o h=>?_) R'.rel λb hb o h=>kp b o (out b (OR _ hb)) (zb7 b (OR _ hb)) h⟩
  .rcases OT.mp z with w|w
   .exact zdX b (OR _ hb) w
   .exact R'.dj b hb (OP _ (OP _ w))
  .obtain⟨n,h⟩:=bN h;have nB:b∉B:=λz=>n (OP _ (OR _ z));have nZ:b∉Z:=λz=>n (OP _ (OP _ (OR _ z)));refine aU (kp b o nB nZ h) λz=>?_;rcases OT.mp z with w|w
   .exact n (OR _ w)
   .rcases OT.mp w with w|w
    .rcases new b w with u|u|u
     .exact nB u
     .exact nZ u
     .lia
    .simp_all
 obtain⟨A2,s2,RR⟩:=R2.zgr (i:=i) nb2 (λb hb z=>zdX b (OP _ z) hb) rd (by rw[Ri];assumption);rw[S9,HG a1]at RR;refine⟨A2,RR,λb hb=>?_⟩;rcases s2 b hb with z|z
 .rcases new b z with w|w|w
  .exact .inl (WL b w)
  .exact .inr (.inl w)
  .exact .inr (.inr w)
 .exact .inl (sub b z)
inductive zku(K:OQ)(F Z A:List XW)(H:Hp)(t:Th)(σ:L2.St)(i:Nat)(C:XW)(ns:List Str)(ds:List D):Prop
 |mk (p dx vs C0:_) (_:σ[i]?=Qs (Qs (.ref p))) (_:H p=Qs (.ins C dx (ns.zip vs))) (_:ns.length=vs.length) (_:p∈A) (_:p∉C0) (_:p∉Z) (_:C0.Nodup) (_:(∀b∈C0,b∈A/\b∉Z)) (_:Uq K (ag (A++(Z++F)) H) H ds vs C0) (_:∀H1 ns2 YL WD C2,(∀b o,b≠p->b∉C0->b∉Z->H b=Qs o->H1 b=Qs o)->H1 p=Qs (.ins C dx (ns2.zip YL))->ns2.length=YL.length->C2.Nodup->p∉C2->(∀b∈C2,b∈C0\/b∈Z\/H b=Qn)->Uq K (ag ((p::(C0++C2))++(A++(Z++F))) H1) H1 WD YL C2->∃A2,RS K F H1 A2 (t.set i (.dp (.obj C ns2 WD))) σ/\∀b∈A2,b∈A\/b∈Z\/H b=Qn)
def RS.zcT (R:RS K (Z++F) H A t σ)(zf:∀z∈Z,z∉F)(e:t[i]?=Qs (.dp (.obj C ns ds))):zku K F Z A H t σ i C ns ds:=by
 obtain⟨v,B,A',a1,nb,WL,sub,nz,rdA,YT,fin⟩:=R.zdd zf e;cases YT with
 |flat f r=>simp[flat]at f
 |@obj _ dx _ _ p vs C0 l h r=>
  have n0:=O7.mp nb;refine⟨p,dx,vs,C0,a1,h,l,WL p (OU ..),n0.1,λz=>nz p (OU ..) (OP _ (OR _ z)),n0.2,λb hb=>⟨WL b (OS _ hb),λz=>nz b (OS _ hb) (OP _ (OR _ z))⟩,r,λH1 ns2 YL WD C2 kp hp l2 n2 np new rd=>?_⟩;refine fin _ _ _ (λb o nB nZ w=>kp b o (λz=>nB (z▸OU ..)) (λz=>nB (OS _ z)) nZ w) (O7.mpr ⟨np,n2⟩) (λb hb=>?_) (.obj l2 hp (Uq.mono (aS _ λb hb=>?_) rd λ_ _ _ w=>w))
  .rcases OZ.mp hb with z|z
   .exact .inl (z▸OU ..)
   .exact(new b z).imp (OS _) id
  .rcases OT.mp hb with z|z
   .exact OP _ (OR _ (sub b z))
   .rcases OT.mp z with z|z
    .refine OR _ ?_;rcases OZ.mp z with z|z
     .exact z▸OU ..
     .exact OS _ (OP _ z)
    .exact OP _ (OP _ (OP _ z))
def kn:Ev->Qo D
 |.cl d=>if flat d then Qs d else Qn
 |.tm d=>if flat d then Qs d else Qn
 |.nw xs=>if UD xs then Qs (.lst xs) else Qn
 |.dn d=>Qs d
def UE.owned (m:US H (A++F))(gs:TJ H H1)(q:UE K F A H H1 r v)(e:kn r=Qs y):∃Bn:Ql XW,Bn.Nodup/\(∀b∈Bn,H b=Qn)/\UC K (ag (Bn++(A++F)) H1) H1 y v Bn:=by
 cases r with
 |cl d=>simp only[kn]at e;replace e:=Vm e;obtain⟨f,e⟩:=e;cases e;exact⟨[],PN,(λb hb=>nomatch hb),.flat f q⟩
 |tm d=>simp only[kn]at e;replace e:=Vm e;obtain⟨f,e⟩:=e;cases e;exact⟨[],PN,(λb hb=>nomatch hb),.flat f (Rep.U8 (m.mono gs) f (Rep.mono (aR _ _) q))⟩
 |nw xs=>simp only[kn]at e;replace e:=Vm e;obtain⟨f,e⟩:=e;cases e;obtain⟨p,vs,rfl,h1,h2,h3⟩:=q;exact⟨[p],by simp,λb hb=>by rw[O1.mp hb];assumption,.lst h2 (Uq.zar f h3)⟩
 |dn d=>cases e;obtain⟨B,h1,h2,h3⟩:=q;exact⟨B,h1,h2,h3⟩
def Yn(C:XW)(ns:Ql Str)(ds:Ql D)(f:Str)(y:D):D:=match aW f ns with
 |some j=>.obj C ns (ds.set j y)
 |none=>.obj C (ns++[f]) (ds++[y])
theorem RS.Yn{K:OQ}(R:RS K F H A t σ)(e:t[i]?=Qs (.dp (.obj C ns ds))):∃p dx vs,σ[i]?=Qs (Qs (.ref p))/\H p=Qs (.ins C dx (ns.zip vs))/\ns.length=vs.length/\TZ K H ds vs/\∀f H1 y w Bn,TJ H H1->Bn.Nodup->(∀b∈Bn,H b=Qn)->UC K (ag (Bn++(A++F)) H1) H1 y w Bn->∃A2,RS K F (L2.upd H1 p (.ins C dx (cO f w (ns.zip vs)))) A2 (t.set i (.dp (DL.Yn C ns ds f y))) σ/\Gr A H A2 (L2.upd H1 p (.ins C dx (cO f w (ns.zip vs)))):=by
 obtain⟨p,dx,vs,C0,a1,hp,hl,pA,pC,_,nC,VA,rd,fin⟩:=RS.zcT (Z:=[]) R (λz hz=>nomatch hz) e;have rd:Uq K (ag (A++F) H) H ds vs C0:=rd;refine⟨p,dx,vs,a1,hp,hl,Uq.rep (aR _ _) rd λ_ _ _ w=>w,λf H1 y w Bn gs nB fr rdy=>?_⟩;have hpn:∀b,H b=Qn->b≠p:=λb h z=>by lia
 have alA:∀b∈A,H b≠Qn:=λb hb z=>by obtain⟨o,q⟩:=R.mu b (OR _ hb);lia
 have hu:∀o b,b≠p->L2.upd H1 p o b=H1 b:=λo b n=>aC n;generalize W9:L2.upd H1 p (.ins C dx (cO f w (ns.zip vs)))=H2;have u1:∀b,b≠p->H2 b=H1 b:=λb n=>by rw[<-W9];exact aC n
 have u2:H2 p=Qs (.ins C dx (cO f w (ns.zip vs))):=by rw[<-W9];exact aM
 have S1:TJ (ag (A++F) H) (ag (Bn++(A++F)) H2):=λb o h=>by
  obtain⟨n,h⟩:=bN h;refine aU (by rw[u1 b (λz=>n (z▸OR _ pA))];exact gs b o h) λz=>?_
  simp_all
 have S2:TJ (ag (Bn++(A++F)) H1) (ag (Bn++(A++F)) H2):=λb o h=>by obtain⟨n,h⟩:=bN h;exact aU (by rw[u1 b (λz=>n (z▸OP _ (OR _ pA)))];assumption) n
 have ry:UC K (ag (Bn++(A++F)) H2) H2 y w Bn:=UC.mono S2 rdy λb hb o h=>by rw[u1 b (hpn b (fr b hb))];assumption
 have kC:∀q∈C0,∀o,H q=Qs o->H2 q=Qs o:=λq hq o h=>by rw[u1 q (λz=>pC (z▸hq))];exact gs q o h
 have gr:∀A2:Ql XW,(∀b∈A2,b∈A\/b∈([]:Ql XW)\/H b=Qn)->Gr A H A2 H2:=λA2 h=>by
  refine⟨λb o n q=>by rw[u1 b (λz=>n (z▸pA))];exact gs b o q,λb hb=>?_,λb hb=>?_⟩
  .by_cases z:b=p
   .lia
   .obtain⟨o,q⟩:=R.mu b (OR _ hb);rw[u1 b z,gs b _ q];simp
  .simp_all
 have kp:∀b o,b≠p->b∉C0->b∉([]:Ql XW)->H b=Qs o->H2 b=Qs o:=λb o n _ _ h=>by rw[u1 b n];exact gs b o h
 have sub:∀C2:Ql XW,(∀b∈C2,b∈Bn\/b∈C0)->TJ (ag (Bn++(A++F)) H2) (ag ((p::(C0++C2))++(A++([]++F))) H2):=λC2 h=>aS H2 λb hb=>by
  have c0:b∈C0->b∈Bn++(A++F):=λz=>OP _ (OR _ (VA b z).1);rcases OT.mp hb with z|z
  .rcases OZ.mp z with z|z
   .simp_all
   .rcases OT.mp z with z|z
    .exact c0 z
    .rcases h b z with z|z
     .exact OR _ z
     .exact c0 z
  .exact OP _ z
 unfold DL.Yn;cases ef:aW f ns with
 |some j=>
  have hj:j<ds.length:=by have:=EJ ef;have l2:=rd.length;lia
  obtain⟨v1,B1,b1,b2,b3,b4,b5⟩:=rd.swap nC (O2 hj);obtain⟨C',c1,c2,c3⟩:=b5 _ _ y w _ S1 ry nB (λb hb=>.inr λz=>alA b (VA b z).1 (fr b hb)) (λq hq _=>kC q hq);have VU:=λb hb=>(c3 b hb).imp id λz=>z.1;obtain⟨A2,d1,d2⟩:=fin _ _ _ _ _ kp (by rw[u2,Be ef hl]) (by rw[Ri];assumption) c2 (λz=>(VU p z).elim (λz=>hpn p (fr p z) rfl) pC) (λb hb=>(VU b hb).elim (λz=>.inr (.inr (fr b z))) .inl) (Uq.mono (sub _ VU) c1 λ_ _ _ w=>w);exact⟨A2,d1,gr _ d2⟩
 |none=>have c1:Uq K (ag (Bn++(A++F)) H2) H2 (ds++[y]) (vs++[w]) (C0++Bn):=Uq.snoc ry (Uq.mono S1 rd kC);have VU:∀b∈C0++Bn,b∈Bn\/b∈C0:=λb hb=>(OT.mp hb).elim .inr .inl;obtain⟨A2,d1,d2⟩:=fin H2 (ns++[f]) (vs++[w]) (ds++[y]) (C0++Bn) kp (by rw[u2,Bc ef hl]) (by simp[hl]) (O4.mpr ⟨nC,nB,λx hx z hz e=>by subst e;exact alA x (VA x hx).1 (fr x hz)⟩) (λz=>(VU p z).elim (λz=>hpn p (fr p z) rfl) pC) (λb hb=>(VU b hb).elim (λz=>.inr (.inr (fr b z))) .inl) (Uq.mono (sub _ VU) c1 λ_ _ _ w=>w);exact⟨A2,d1,gr A2 d2⟩
section
variable {X:Cx}{F:Ql XW}{a b c o:XY}{es:Ql XY}{fa:DE}{C:XW}{f m:Str}
def mN(t:Th)(i:Nat)(C:XW)(f:Str)(r:Ev):Qo Out:=match t[i]?,kn r with
 |some (.dp (.obj C' ns ds)),Qs y=>if C'=C/\ns.length<900 then Qs (.nx (t.set i (.dp (DL.Yn C ns ds f y)))) else Qn
 |_,_=>Qn
def eJ(i:Nat)(C:XW)(f:Str)(fe:DE):DS:=λt=>(fe t).bind (mN t i C f)
def zR{ns:Ql Str}{vs:Ql V}(h:ns.length<900):(ns.zip vs).length<1000:=by rw[Si];lia
end
def qH{α:Type}{xs:Ql α}{x:α}(h:xs[j]?=Qs x):xs.set j x=xs:=by
 apply QS;intro k;by_cases z:j=k
 .subst z;rw[P2 ((Pu.mp h).1),h]
 .rw[Pm z]
inductive zkv(K:OQ)(F A:List XW)(H:Hp)(t:Th)(σ:L2.St)(i j:Nat)(C:XW)(ns:List Str)(ds es:List D)(f:Str):Prop
 |mk (p dx vs q ws:_) (_:σ[i]?=Qs (Qs (.ref p))) (_:H p=Qs (.ins C dx (ns.zip vs))) (_:(ns.zip vs).lookup f=Qs (.ref q)) (_:H q=Qs (.lst ws)) (_:TZ K (ag (A++F) H) es ws) (_:ns.length=vs.length) (_:vs[j]?=Qs (.ref q)) (_:(∃C0,Uq K (ag (A++F) H) H ds vs C0/\C0.Nodup)) (_:∀H1 Vd Wb,TJ H H1->UD Vd=Qt->TZ K (ag (A++F) H1) Vd Wb->∃A2,RS K F (L2.upd H1 q (.lst Wb)) A2 (t.set i (.dp (.obj C ns (ds.set j (.lst Vd))))) σ/\Gr A H A2 (L2.upd H1 q (.lst Wb)))
def RS.zeO (R:RS K F H A t σ)(e:t[i]?=Qs (.dp (.obj C ns ds)))(ef:aW f ns=Qs j)(ed:ds[j]?=Qs (.lst es))(fl:UD es=Qt):zkv K F A H t σ i j C ns ds es f:=by
 obtain⟨p,dx,vs,C0,a1,hp,hl,pA,pC,_,nC,VA,rd,fin⟩:=RS.zcT (Z:=[]) R (λz hz=>nomatch hz) e;obtain⟨v1,B1,b1,b2,b3,b4,b5⟩:=rd.swap nC ed;cases b2 with
 |flat f' r=>simp[flat]at f'
 |@lst _ q ws Bq hq rq=>
  obtain⟨rs,eB⟩:=Uq.fl rq fl;subst eB;have qC:q∈C0:=b3 q (OU ..);have qA:q∈A:=(VA q qC).1;have qp:p≠q:=λz=>pC (z▸qC);refine⟨p,dx,vs,q,ws,a1,hp,mB ef b1,hq,rs,hl,b1,⟨C0,rd,nC⟩,λH1 Vd Wb gs YF rs'=>?_⟩;generalize W9:L2.upd H1 q (.lst Wb)=H2;have u1:∀b,b≠q->H2 b=H1 b:=λb n=>by rw[<-W9];exact aC n
  have u2:H2 q=Qs (.lst Wb):=by rw[<-W9];exact aM
  have S1:TJ (ag (A++F) H) (ag (A++F) H2):=λb o h=>by obtain⟨n,h⟩:=bN h;exact aU (by rw[u1 b λz=>n (z▸OR _ qA)];exact gs b o h) n
  have S2:TJ (ag (A++F) H1) (ag (A++F) H2):=λb o h=>by obtain⟨n,h⟩:=bN h;exact aU (by rw[u1 b λz=>n (z▸OR _ qA)];assumption) n
  obtain⟨C',c1,c2,c3⟩:=b5 _ H2 (.lst Vd) (.ref q) [q] S1 (.lst u2 (Uq.zar YF (TZ.mono S2 rs'))) (by assumption) (λb hb=>.inl (by lia)) (λb hb n o h=>by rw[u1 b λz=>n (by rw[z];simp)];exact gs b o h);rw[qH b1]at c1;have VU:∀b∈C',b∈C0:=λb hb=>by
   rcases c3 b hb with z|z
   .rw[O1.mp z];assumption
   .exact z.1
  have sub:TJ (ag (A++F) H2) (ag ((p::(C0++C'))++(A++([]++F))) H2):=aS H2 λb hb=>by
   rcases OT.mp hb with z|z
   .refine OR _ ?_;rcases OZ.mp z with z|z
    .rw[z];assumption
    .rcases OT.mp z with z|z
     .exact(VA b z).1
     .exact(VA b (VU b z)).1
   .assumption
  obtain⟨A2,d1,d2⟩:=fin H2 ns vs (ds.set j (.lst Vd)) C' (λb o n nC' _ h=>by rw[u1 b λz=>nC' (z▸qC)];exact gs b o h) (by rw[u1 p qp];exact gs p _ hp) hl c2 (λz=>pC (VU p z)) (λb hb=>.inl (VU b hb)) (Uq.mono sub c1 λ_ _ _ w=>w);refine⟨A2,d1,λb o n h=>by rw[u1 b λz=>n (z▸qA)];exact gs b o h,λb hb=>?_,λb hb=>?_⟩
  .by_cases z:b=q
   .lia
   .obtain⟨o,w⟩:=R.mu b (OR _ hb);rw[u1 b z,gs b _ w];simp
  .simp_all
inductive zkw(K:OQ)(F A:List XW)(H:Hp)(t:Th)(σ:L2.St)(i j:Nat)(C:XW)(ns:List Str)(ds es:List D)(f:Str):Prop
 |mk (p dx vs q ws:_) (_:σ[i]?=Qs (Qs (.ref p))) (_:H p=Qs (.ins C dx (ns.zip vs))) (_:(ns.zip vs).lookup f=Qs (.ref q)) (_:H q=Qs (.lst ws)) (_:TZ K (ag (A++F) H) es ws) (_:∀H1 Vd Wb,TJ H H1->UD Vd=Qt->TZ K (ag (A++F) H1) Vd Wb->∃A2,RS K F (L2.upd H1 q (.lst Wb)) A2 (t.set i (.dp (.obj C ns (ds.set j (.lst Vd))))) σ/\Gr A H A2 (L2.upd H1 q (.lst Wb)))
def RS.zcU (R:RS K F H A t σ)(e:t[i]?=Qs (.dp (.obj C ns ds)))(ef:aW f ns=Qs j)(ed:ds[j]?=Qs (.lst es))(fl:UD es=Qt):zkw K F A H t σ i j C ns ds es f:=by obtain⟨p,dx,vs,q,ws,a1,a2,a3,a4,a5,_,_,_,a6⟩:=R.zeO e ef ed fl;exact⟨p,dx,vs,q,ws,a1,a2,a3,a4,a5,a6⟩
section
variable {X:Cx}{F:Ql XW}{a b c o:XY}{es:Ql XY}{fa:DE}{C:XW}{f m:Str}
def kb(t:Th)(i:Nat)(C:XW)(f:Str)(k:Ql D->Qo (Ql D)):Qo Out:=match t[i]? with
 |some (.dp (.obj C' ns ds))=>if C'=C then(aW f ns).bind λj=>match ds[j]? with
  |some (.lst es)=>if UD es then(k es).bind λVd=>if UD Vd then Qs (.nx (t.set i (.dp (.obj C ns (ds.set j (.lst Vd)))))) else Qn else Qn
  |_=>Qn else Qn
 |_=>Qn
def sA{o:Out}(e:kb t i C f k=Qs o):∃ns ds j es Vd,t[i]?=Qs (.dp (.obj C ns ds))/\aW f ns=Qs j/\ds[j]?=Qs (.lst es)/\UD es=Qt/\k es=Qs Vd/\UD Vd=Qt/\o=.nx (t.set i (.dp (.obj C ns (ds.set j (.lst Vd))))):=by
 unfold kb at e;split at e
 case h_2=>cases e
 rename_i C' ns ds z1;replace e:=Vm e;obtain⟨ec,e⟩:=e;subst ec;rcases e1:aW f _ with _|j
 .rw[e1]at e;cases e
 rw[e1]at e;simp at e;split at e
 case h_2=>cases e
 rename_i es z2;replace e:=Vm e;obtain⟨fl,e⟩:=e;rcases e2:k _ with _|Vd
 .rw[e2]at e;cases e
 rw[e2]at e;simp only[OY]at e;split at e
 case isFalse=>cases e
 rename_i YF;cases e;exact⟨ns,ds,j,es,Vd,z1,e1,z2,fl,e2,YF,rfl⟩
def Dx(r k:Ev)(es:Ql D):Qo (Ql D):=match k.d with
 |.int n=>if flat r.d then(Vt es.length n).map λl=>es.set l r.d else Qn
 |_=>Qn
def m4(i:Nat)(C:XW)(f:Str)(fk fe:DE):DS:=λt=>(fe t).bind λr=>(fk t).bind λk=>kb t i C f (Dx r k)
def Dy(g:Int->Int->Int)(k r:Ev)(es:Ql D):Qo (Ql D):=match k.d,r.d with
 |.int n,.int m=>(Vt es.length n).bind λl=>match es[l]? with
  |some (.int v)=>Qs (es.set l (.int (g v m)))
  |_=>Qn
 |_,_=>Qn
def jt(g:Int->Int->Int)(i:Nat)(C:XW)(f:Str)(fk fe:DE):DS:=λt=>(fk t).bind λk=>(fe t).bind λr=>kb t i C f (Dy g k r)
def xH(r:Ev)(es:Ql D):Qo (Ql D):=if flat r.d&&decide (es.length<100000) then Qs (es++[r.d]) else Qn
def lG(i:Nat)(C:XW)(f:Str)(fe:DE):DS:=λt=>(fe t).bind λr=>kb t i C f (xH r)
def xG(t:Th)(i:Nat)(C:XW)(f:Str)(r:Ev):Qo Out:=match t[i]?,r.d with
 |some (.dp (.obj C' ns ds)),.int m=>if C'=C/\ns.length<900/\m.natAbs<=1000 then(aW f ns).bind λj=>match ds[j]? with
  |some (.int v)=>Qs (.nx (t.set i (.dp (DL.Yn C ns ds f (.int (v*m))))))
  |_=>Qn else Qn
 |_,_=>Qn
def tM(i:Nat)(C:XW)(f:Str)(fe:DE):DS:=λt=>(fe t).bind (xG t i C f)
def MK:FR X .Mult (λx y H Q=>∃i j:Int,x=.int i/\y=.int j/\j.natAbs<=1000/\Q (.int (i*j)) H):=by rintro pins s σ H x y u v Q I rx ry ⟨i,j,rfl,rfl,hj,q⟩;refine MF _ s σ H _ _ u v Q I rx ry ⟨i,j,rfl,rfl,.inr ⟨?_,?_⟩,q⟩<;>lia
end
section
variable {X:Cx}{F:Ql XW}{I:Ql Nat}{a b c o:XY}{es:Ql XY}{fa:DE}{g:DS}{C:XW}{f m:Str}
def gE(i:Nat){p0:Pos}(c:Vh X.K C)(n:UH X.K C f)(he:PE X a (dE X.K F fa))(hN:X.N[i]?=Qs x:=by rfl)(hv:autoParam (cJ X.env.scope x) qzA._auto_1)(hd:Vf x:=by decide) (UY:VX x:=by decide) (hs:swapsWith a (Qs (.Attribute (.Name x p0) f pos')) pos.line X.env=pure Qf:=by rfl):PS X (.Assign [.Attribute (.Name x p0) f pos'] a pos) (dP X.K F I (eJ i C f fa)):=by
 refine PS.imp (Jn (dg hN hv hd UY) he hs) ?_;rintro E σ H ⟨A,t,t2,R,e,h⟩;refine aq e λr e1 e=>?_;unfold mN at e;split at e
 case h_2=>cases e
 rename_i C' ns ds y z1 z2;refine bJ e λok e=>?_;obtain⟨rfl,hl⟩:=ok;cases e;obtain⟨p,dx,vs,a1,a2,a3,_,a4⟩:=R.Yn z1;refine⟨A,t,r,R,e1,λw H1 gs q=>⟨_,a1,p,C',dx,_,rfl,gs _ _ a2,c,n,zR hl,?_⟩⟩;obtain⟨Bn,b1,b2,b3⟩:=q.owned R.mu gs z2;obtain⟨A2,c1,c2⟩:=a4 f _ y w _ gs b1 b2 b3;exact h _ _ _ c2 c1 λ_ _=>rfl
def Jx(i:Nat){p0 p1:Pos}(c:Vh X.K C)(n:UH X.K C f)(hb:PE X b (dE X.K F fb))(he:PE X a (dE X.K F fa))(hN:X.N[i]?=Qs x:=by rfl)(hv:autoParam (cJ X.env.scope x) qzA._auto_1)(hd:Vf x:=by decide) (UY:VX x:=by decide) (Zs:attributeBase (.Name x p0) f X.env (eval (.Name x p0) X.env)=eval (.Name x p0) X.env:=by rfl) (ha:∀v,assign (.Subscript (.Attribute (.Name x p0) f p1) b V3) X.env v=(do
   let ov<-holding [v] (eval (.Attribute (.Name x p0) f p1) X.env)
   let iv<-holding [v,ov] (eval b X.env)
   standAt V3
   holding [v,ov,iv] (setItem ov iv v)
   release [v,ov,iv] []):=by intro _;rfl) (hs:swapsWithSole [.Subscript (.Attribute (.Name x p0) f p1) b V3] a pos.line X.env=pure Qf:=by rfl) (hw:swappedStores [.Subscript (.Attribute (.Name x p0) f p1) b V3] a X.env=pure Qn:=by rfl) (h1:(assignEach [.Subscript (.Attribute (.Name x p0) f p1) b V3] X.env).map (·.2)=[assign (.Subscript (.Attribute (.Name x p0) f p1) b V3) X.env]:=by rfl):PS X (.Assign [.Subscript (.Attribute (.Name x p0) f p1) b V3] a pos) (dP X.K F I (m4 i C f fb fa)):=by
 refine PS.imp (q9 he (wC (kR (dg hN hv hd UY) Zs) hb qI ha) hs hw h1) ?_;rintro E σ H ⟨A,t,t2,R,e,h⟩;unfold m4 at e;rcases e1:fa t with _|r
 .rw[e1]at e;cases e
 rcases e2:fb t with _|kk
 .rw[e1,e2]at e;cases e
 rw[e1,e2]at e;obtain⟨ns,ds,j,es,Vd,z1,z2,z3,fl,ek,YF,eo⟩:=sA e;cases eo;unfold Dx at ek;split at ek
 case h_2=>cases ek
 rename_i n' zk;replace ek:=Vm ek;obtain⟨fr,ek⟩:=ek;rcases e4:Vt _ _ with _|l
 .rw[e4]at ek;cases ek
 rw[e4]at ek;have ek:=by simpa using ek
 subst ek;obtain⟨p,dx,vs,q,ws,a1,a2,a3,a4,a5,a6⟩:=R.zcU z1 z2 z3 fl;refine⟨A,t,r,R,e1,λy H1 V5 q1=>⟨_,a1,p,C,dx,_,_,rfl,V5 _ _ a2,c,n,a3,A,t,kk,R.grow V5,e2,λw H2 UT q2=>?_⟩⟩;have p2:=q2.full;rw[zk]at p2;cases bX p2;have gs:=V5.trans UT;refine⟨q,ws,n',l,rfl,rfl,gs _ _ a4,by rw[a5.length];assumption,?_⟩;obtain⟨A2,c1,c2⟩:=a6 _ _ _ gs YF (TZ.set (Rep.U8 (R.mu.mono gs) fr (q1.mono UT).full) l (TZ.mono (ck gs) a5));exact h _ _ _ c2 c1 λ_ _=>rfl
def Bv{g:Int->Int->Int}(i:Nat){p0 p1:Pos}(c:Vh X.K C)(n:UH X.K C f)(ho:zB X op (DP g))(hb:PE X b (dE X.K F fb))(he:PE X a (dE X.K F fa))(hN:X.N[i]?=Qs x:=by rfl)(hv:autoParam (cJ X.env.scope x) qzA._auto_1)(hd:Vf x:=by decide) (UY:VX x:=by decide) (Zs:attributeBase (.Name x p0) f X.env (eval (.Name x p0) X.env)=eval (.Name x p0) X.env:=by rfl) (ha:∀ov iv new,augStore b ov iv new=(do holding [new,ov,iv] (setItem ov iv new);release [new,ov,iv] [];pure .next):=by intros;rfl):PS X (.AugAssign (.Subscript (.Attribute (.Name x p0) f p1) b V3) op a pos) (dP X.K F I (jt g i C f fb fa)):=by
 refine PS.imp (Bs (kR (dg hN hv hd UY) Zs) hb D7 he ho qI ha) ?_;rintro E σ H ⟨A,t,t2,R,e,h⟩;unfold jt at e;rcases e1:fb t with _|kk
 .rw[e1]at e;cases e
 rcases e2:fa t with _|r
 .rw[e1,e2]at e;cases e
 rw[e1,e2]at e;obtain⟨ns,ds,j,es,Vd,z1,z2,z3,fl,ek,YF,eo⟩:=sA e;cases eo;unfold Dy at ek;split at ek
 case h_2=>cases ek
 rename_i n' m' zk zr;rcases e4:Vt _ _ with _|l
 .rw[e4]at ek;cases ek
 rw[e4]at ek;simp at ek;split at ek
 case h_2=>cases ek
 rename_i v z4;cases ek;obtain⟨p,dx,vs,q,ws,a1,a2,a3,a4,a5,a6⟩:=R.zcU z1 z2 z3 fl;obtain⟨v0,b1,b2⟩:=a5.get z4;cases bX b2;refine⟨_,a1,p,C,dx,_,_,rfl,a2,c,n,a3,A,t,kk,R,e1,λw H1 V5 q1=>?_⟩;have p1:=q1.full;rw[zk]at p1;cases bX p1;refine⟨q,ws,n',_,rfl,rfl,Ux.of (V5 _ _ a4),(by unfold L2.U2;rw[a5.length,e4];assumption),A,t,r,R.grow V5,e2,λy H2 UT q2=>?_⟩;have p2:=q2.full;rw[zr]at p2;cases bX p2;have gs:=V5.trans UT;refine⟨v,m',rfl,rfl,q,ws,n',l,rfl,rfl,gs _ _ a4,by rw[a5.length];assumption,?_⟩;obtain⟨A2,c1,c2⟩:=a6 _ _ _ gs YF (TZ.set (.int _) l (TZ.mono (ck gs) a5));exact h _ _ _ c2 c1 λ_ _=>rfl
def wm(i:Nat){p0 p1:Pos}(c:Vh X.K C)(n:UH X.K C f)(he:PE X a (dE X.K F fa))(hN:X.N[i]?=Qs x:=by rfl)(hv:autoParam (cJ X.env.scope x) qzA._auto_1)(hd:Vf x:=by decide) (UY:VX x:=by decide) (Zs:attributeBase (.Name x p0) f X.env (eval (.Name x p0) X.env)=eval (.Name x p0) X.env:=by rfl) (U6:Pc [a] X.env=[(Qf,eval a X.env)]:=by rfl) (WQ:attributeBase (.Attribute (.Name x p0) f p1) "append" X.env (eval (.Attribute (.Name x p0) f p1) X.env)=eval (.Attribute (.Name x p0) f p1) X.env:=by rfl) (Yz:((Rc UR (Pc [a] X.env)).all (λx=>!x.1)&&(backToKw UR (keywordEach [] X.env)).all (λx=>x.1.isSome)
   && decide ([a].length+([]:Ql Tg).length+(if([]:Ql Tg).isEmpty then 0 else 1)<30))=Qt:=by rfl) (WM:(apos.endLine==UR.line)=Qt:=by rfl) (X9:(Rc UR (Pc [] X.env)).any (·.1)=Qf:=by rfl) (VW:swapsWith (.Call (.Attribute (.Attribute (.Name x p0) f p1) "append" apos) [a] [] UR) Qn pos.line X.env=pure Qf:=by rfl):PS X (.Expr (.Call (.Attribute (.Attribute (.Name x p0) f p1) "append" apos) [a] [] UR) pos) (dP X.K F I (lG i C f fa)):=by
 refine PS.imp (jW (rL QB QM Q5 oh (kR (dg (i:=i) hN hv hd UY) Zs) (fj he fJ U6) WQ Yz WM U6 X9) VW) ?_;rintro E σ H ⟨A,t,t2,R,e,h⟩;unfold lG at e;refine aq e λr e1 e=>?_;replace e:kb t i C f (xH r)=Qs (.nx t2):=e;obtain⟨ns,ds,j,es,Vd,z1,z2,z3,fl,ek,YF,eo⟩:=sA e;cases eo;unfold xH at ek;refine bJ ek λok ek=>?_;simp only[O6,VH]at ok;cases ek;obtain⟨p,dx,vs,q,ws,a1,a2,a3,a4,a5,a6⟩:=R.zcU z1 z2 z3 fl;refine⟨_,a1,p,C,dx,_,_,rfl,a2,c,n,a3,.inl ⟨rfl,ws,Ux.of a4⟩,A,t,r,R,e1,λy H1 gs qy=>⟨q,ws,y,rfl,rfl,gs _ _ a4,?_,?_⟩⟩
 .have:ws.length<100000:=by rw[a5.length];exact ok.2
  exact O9 this (by decide)
 .obtain⟨A2,c1,c2⟩:=a6 _ _ _ gs YF ((TZ.mono (ck gs) a5).app (TZ.one (Rep.U8 (R.mu.mono gs) ok.1 qy.full)));exact h _ _ _ c2 c1 λ_ _=>rfl
def JB(i:Nat){p0:Pos}(c:Vh X.K C)(n:UH X.K C f)(he:PE X a (dE X.K F fa))(hN:X.N[i]?=Qs x:=by rfl)(hv:autoParam (cJ X.env.scope x) qzA._auto_1)(hd:Vf x:=by decide) (UY:VX x:=by decide):PS X (.AugAssign (.Attribute (.Name x p0) f V3) .Mult a pos) (dP X.K F I (tM i C f fa)):=by
 refine PS.imp (Jm (dg hN hv hd UY) he MK) ?_;rintro E σ H ⟨A,t,t2,R,e,h⟩;unfold tM at e;rcases e1:fa t with _|r
 .rw[e1]at e;cases e
 rw[e1]at e;replace e:xG t i C f r=Qs _:=e;unfold xG at e;split at e
 case h_2=>cases e
 rename_i C' ns ds m z1 z2;replace e:=Vm e;obtain⟨ok,e⟩:=e;obtain⟨rfl,hl,hm⟩:=ok;rcases e2:aW f _ with _|j
 .rw[e2]at e;cases e
 rw[e2]at e;simp at e;split at e
 case h_2=>cases e
 rename_i v z3;cases e;obtain⟨p,dx,vs,a1,a2,a3,a5,a4⟩:=R.Yn z1;obtain⟨v0,b1,b2⟩:=a5.get z3;cases bX b2;refine⟨_,a1,p,C',dx,_,_,rfl,a2,c,n,mB e2 b1,A,t,r,R,e1,λy H1 gs q=>?_⟩;have p1:=q.full;rw[z2]at p1;cases bX p1;obtain⟨A2,c1,c2⟩:=a4 f _ _ _ _ gs PN (λb hb=>nomatch hb) (.flat rfl (.int _));exact⟨v,m,rfl,rfl,hm,dx,_,gs _ _ a2,zR hl,h _ _ _ c2 c1 λ_ _=>rfl⟩
end
noncomputable def rR:Out->Qo D
 |.nx t=>match t[0]? with
  |some (Sl.dp d)=>Qs d
  |_=>Qn
 |_=>Qn
def Av(N:Ql Str)(d:D)(ds:Ql D):Th:=.dp d::(ds.map Sl.val++Pk (N.length-1-ds.length) Sl.no)
def kX(k:Nat)(N:Ql Str)(g:DS):Ql D->Qo D:=λds=>match ds with
 |d::ds=>if ds.length+1=k then(g (Av N d ds)).bind rR else Qn
 |[]=>Qn
inductive spO(K:OQ)(G:List D->Option D)(vs:List V)(H:Hp)(Q:VK)(x_:XK):Prop
 |mk (Fo:List XW) (B:List XW) (p:XW) (d:D) (d2:D) (ds:List D) (Vs:List V) (_:vs=.ref p::Vs) (_:US H (B++Fo)) (_:B.Nodup) (_:(∀b∈B,b∉Fo)) (_:UC K (ag (B++Fo) H) H d (.ref p) B) (_:TZ K (ag (B++Fo) H) ds Vs) (_:G (d::ds)=Qs d2) (_:∀H' B2,Gr B H B2 H'->B2.Nodup->(∀b∈B2,b∉Fo)->UC K (ag (B2++Fo) H') H' d2 (.ref p) B2->Q .Uz H')
def M9{st:XZ}(Fn:L2.UX K x qual st f fd)(S:U9 N ps (aK st))(hm:ps.length=m)(g:DS) (WO:∀(UG:Pl) (A:QP) (outer:Ql Env) (s:Pf) (H:Hp) (E:XK) (F:Ql XW),UU k (A.deeper (envOfC qual (aK st) s.heap.objs.size f UG))->UL (fR bT P w K mg base N qual (aK st) f UG A outer s H E).W4 (cZ st) (dP K F [0] g)):Vn P w K mg base bT (k+1) f fd ps (spO K (kX m N g)):=by
 refine Fn.ok S (λvs H Q E h=>?_) (λUG A outer s H vs Q E hr h=>?_)
 .obtain⟨Fo,B,p,d,d2,ds,Vs,rfl,_,_,_,_,h2,hg,_⟩:=h;refine bJ hg λhl hg=>?_;rw[PM,h2.length,hm];assumption
 .obtain⟨Fo,B,p,d,d2,ds,Vs,rfl,hl,nd,dj,rd,h2,hg,cont⟩:=h;simp only[kX]at hg;replace hg:=Vm hg;obtain⟨_,hg⟩:=hg;refine aq hg λo ho hg=>?_;cases o with
  |bk t'=>cases hg
  |ct t'=>cases hg
  |rt r'=>cases hg
  |nx t'=>
   simp only[rR]at hg;split at hg
   case h_2=>cases hg
   rename_i d0 z;cases hg;refine⟨_,WO _ A _ s H E _ hr,B,_,t',(by
    refine⟨hl,nd,dj,?_⟩;unfold Av L2.start;simp only[Pa,Q3,PM,h2.length];have e:N.length-1-ds.length=N.length-(ds.length+1):=by lia
    rw[e];have:=Ul.dp rd (Ul.start (Ul.zat (N.length-(ds.length+1))) h2);rw[(PH B)]at this;assumption),ho,λσ' H' A' g' R' n'=>?_⟩
   obtain⟨v,B2,A2,a1,_,nb,_,rd2,_,WL⟩:=R'.za4 z;have e0:=n' 0 (O1.mpr rfl);have es:(L2.start N (.ref p::Vs))[0]?=Qs _:=rfl;rw[a1]at e0;cases e0;refine cont _ _ ⟨g'.kp,g'.al,λb hb=>g'.nw b (WL b hb)⟩ nb (λb hb=>R'.dj b (WL b hb)) (UC.mono (aS _ λb hb=>?_) rd2 λ_ _ _ w=>w)
   grind
structure zaY(P:Qz)(w:RZ)(K:OQ)(mg:Str->Option Pl)(base:Wh)(C:XW)(m:Str)(k:Nat)(G:List D->Option D):Prop where
 ex:∃(f:XW) (fd:Ru) (ps:List Str),Meth K C m f/\L2.Binds K fd ps []/\Vn P w K mg base bT k f fd ps (spO K G)
structure zfv(P:Qz)(w:RZ)(K:OQ)(mg:Str->Option Pl)(base:Wh)(x:Str)(C:XW)(k:Nat)(G:List D->Option D):Prop where
 ex:∃(f:XW) (fd:Ru) (ps:List Str),mg x=Qs (.ref C)/\Mk K C f/\L2.Binds K fd ps []/\Vn P w K mg base bT k f fd ps (spO K G)
section
variable {X:Cx}{F:Ql XW}{I:Ql Nat}{a b c o:XY}{es:Ql XY}{fa:DE}{g:DS}{C:XW}{f m:Str}
def mG(t:Th)(i:Nat)(C:XW)(m:Str)(G:Ql D->Qo D)(rs:Ql Ev):Qo Out:=match t[i]? with
 |some (.dp (.obj C' ns ds))=>if C'=C/\aW m ns=Qn/\UD (rs.map Ev.d)=Qt then(G (.obj C ns ds::rs.map Ev.d)).map λd2=>.nx (t.set i (.dp d2)) else Qn
 |_=>Qn
def iN(i:Nat)(C:XW)(m:Str)(G:Ql D->Qo D)(ga:DA):DS:=λt=>(ga t).bind (mG t i C m G)
def CA{E:Ends}(R:RS X.K F H A t σ)(e:iN i C m G ga t=Qs (.nx t2))(h:∀H' A',Gr A H A' H'->RS X.K F H' A' t2 σ->E.nx σ H'):qt C m (spO X.K G) [] E' (λσ H Q=>∃v,σ[i]?=Qs (Qs v)/\Q v H) (dA X.K F ga) σ H λ_ H'=>E.nx σ H':=by
 unfold iN at e;rcases e1:ga t with _|rs
 .rw[e1]at e;cases e
 rw[e1]at e;replace e:mG t i C m G rs=Qs (.nx t2):=e;unfold mG at e;split at e
 case h_2=>cases e
 rename_i C' ns ds z;replace e:=Vm e;obtain⟨ok,e⟩:=e;obtain⟨rfl,hm,fl⟩:=ok;rcases e2:G (.obj C' ns ds::rs.map Ev.d) with _|d2
 .rw[e2]at e;cases e
 rw[e2]at e;cases e;obtain⟨v,B,A',a1,nb,WL,sub,dj,rdA,YT,fin⟩:=RS.zdd (Z:=[]) R (λz hz=>nomatch hz) z;have perm:∀Q H',TJ (ag (A'++(Q++F)) H') (ag (Q++(A'++F)) _):=λQ H'=>aS _ λb hb=>by simp at hb ⊢;lia
 have zgw:∀Q H',TJ (ag (Q++(A'++F)) H') (ag (A'++(Q++F)) _):=λQ H'=>aS _ λb hb=>by simp at hb ⊢;lia
 cases YT with
 |flat f' r=>simp[flat]at f'
 |@obj _ dx _ _ p vs C0 l hp r=>
  refine⟨_,a1,p,dx,_,rfl,hp,xi hm,A,t,rs,R,e1,λus H2 gs q=>?_⟩;have mA:=λb hb=>R.mu.mono gs b (by
   rcases OT.mp hb with w|w
   .exact OR _ (WL b w)
   .rcases OT.mp w with w|w
    .exact OR _ (sub b w)
    .exact OP _ w)
  refine⟨_,_,p,_,d2,_,_,rfl,mA,nb,dj,UC.mono ((perm _ H).trans (ck gs)) rdA λb _ o w=>gs b o w,?_,e2,λH' B2 gr nb2 dj2 rd2=>?_⟩
  .rw[PH];exact TZ.U8 mA fl q.full
  .have kp:=λb o n w=>gr.kp b o n (gs b o w);have nw:∀b∈B2,b∈p::C0\/b∈([])\/H b=Qn:=λb hb=>(gr.nw b hb).imp id λw=>.inr (TJ.free gs w);obtain⟨A2,c1,c2⟩:=fin H' d2 B2 (λb o n _ w=>kp b o n w) nb2 nw (UC.mono (zgw _ H') rd2 λ_ _ _ w=>w);refine h H' A2 ⟨λb o n w=>kp b o (λz=>n (WL b z)) w,λb hb=>?_,λb hb=>?_⟩ c1
   .by_cases w:b∈p::C0
    .exact gr.al b w
    .obtain⟨o,u⟩:=R.mu b (OR _ hb);rw[kp b _ w u];simp
   .simp_all
def Bu{pl:Sem Bool}{p0:Pos}(i:Nat)(cl:Vh X.K C)(cm:zaY X.prog X.w X.K X.mg X.base C m k G)(hr:UU k X.A)(ha:PA X (a::es) (dA X.K F ga))(hN:X.N[i]?=Qs x:=by rfl)(hv:autoParam (cJ X.env.scope x) qzA._auto_1)(hd:Vf x:=by decide) (UY:VX x:=by decide) (U6:Pc (a::es) X.env=(Qf,eval a X.env)::Pc es X.env:=by rfl) (Vu:(Rc UR (Pc es X.env)).any (·.1)=Qf:=by rfl) (ht:eval (.Call (.Attribute (.Name x p0) m apos) (a::es) [] UR) X.env=(do
   let ov<-eval (.Name x p0) X.env
   standAt apos.atName
   let (f,first)<-holding [ov] (getMethod ov m pl)
   callWith UR f first (Rc UR (Pc (a::es) X.env)) (backToKw UR (keywordEach [] X.env))):=by rfl) (VW:swapsWith (.Call (.Attribute (.Name x p0) m apos) (a::es) [] UR) Qn pos.line X.env=pure Qf:=by rfl):PS X (.Expr (.Call (.Attribute (.Name x p0) m apos) (a::es) [] UR) pos) (dP X.K F I (iN i C m G ga)):=by obtain⟨f,fd,ps,h1,h2,h3⟩:=cm.ex;refine PS.imp (jW (BP (dg hN hv hd UY) cl h1 h3 hr h2 .nil kT ha U6 Vu ht) VW) ?_;rintro E σ H ⟨A,t,t2,R,e,h⟩;exact CA R e λH' A' gr R'=>h σ _ _ gr R' λ_ _=>rfl
def Jv{pl:Sem Bool}{p0:Pos}(i:Nat)(cl:Vh X.K C)(cm:zaY X.prog X.w X.K X.mg X.base C m k G)(hr:UU k X.A)(hN:X.N[i]?=Qs x:=by rfl)(hv:autoParam (cJ X.env.scope x) qzA._auto_1)(hd:Vf x:=by decide) (UY:VX x:=by decide) (ht:eval (.Call (.Attribute (.Name x p0) m apos) [] [] UR) X.env=(do
   let ov<-eval (.Name x p0) X.env
   standAt apos.atName
   let (f,first)<-holding [ov] (getMethod ov m pl)
   callWith UR f first (Rc UR (Pc [] X.env)) (backToKw UR (keywordEach [] X.env))):=by rfl) (VW:swapsWith (.Call (.Attribute (.Name x p0) m apos) [] [] UR) Qn pos.line X.env=pure Qf:=by rfl):PS X (.Expr (.Call (.Attribute (.Name x p0) m apos) [] [] UR) pos) (dP X.K F I (iN i C m G ao)):=by obtain⟨f,fd,ps,h1,h2,h3⟩:=cm.ex;refine PS.imp (jW (BO (dg hN hv hd UY) cl h1 h3 hr h2 .nil kT ht) VW) ?_;rintro E σ H ⟨A,t,t2,R,e,h⟩;obtain⟨v,a1,p,dx,fs,e1,e2,e3,A2,t3,rs,R2,e4,h4⟩:=CA (E':=E0) R e λH' A' gr R'=>h σ _ _ gr R' λ_ _=>rfl;cases e4;exact⟨v,a1,p,dx,fs,e1,e2,e3,h4 _ H (TJ.refl H) .nil⟩
def we{st:XZ}(hx:kz g)(h:PS X st (dP X.K F [] g)):PS X st (dS X.K F g):=by refine PS.imp h ?_;rintro E σ H ⟨A,t,o,R,e,k⟩;obtain⟨t2,rfl⟩:=hx t o e;exact⟨A,t,t2,R,e,λσ' H' A' gr R' _=>k _ _ _ gr R'⟩
def wU:kz (iN i C m G ga):=λt o e=>by
 refine aq e λrs e1 e=>?_;unfold mG at e;split at e
 case h_2=>cases e
 split at e
 case isFalse=>cases e
 rename_i C' ns ds z ok;cases e2:G _ with
 |none=>rw[e2]at e;cases e
 |some d2=>rw[e2]at e;cases e;lia
def oC(C:XW)(G:Ql D->Qo D):Ql Ev->Qo Ev:=λrs=>if rs.all Ev.ok then(G (.obj C [] []::rs.map Ev.d)).map Ev.dn else Qn
def JU{q:Pos}(cn:zfv X.prog X.w X.K X.mg X.base x C k G)(hr:UU (k+1) X.A)(ha:PA X (a::es) (dA X.K F ga))(hg:Gl X x:=by rfl)(Ws:Vf x:=by decide) (he:Pc (a::es) X.env=(Qf,eval a X.env)::Pc es X.env:=by rfl) (Vu:(Rc pos (Pc es X.env)).any (·.1)=Qf:=by rfl):PE X (.Call (.Name x q) (a::es) [] pos) (dE X.K F (ai (oC C G) ga)):=by
 obtain⟨f,fd,ps,h1,h2,h3,h4⟩:=cn.ex;refine PE.imp (J3 h2 h4 hr hg h1 h3 .nil (E:=E0) kT ha Ws he Vu) ?_;rintro σ H Q ⟨A,t,r,R,e,h⟩;unfold ai at e;rcases e1:ga t with _|rs
 .rw[e1]at e;cases e
 rw[e1]at e;replace e:oC C G _=Qs r:=e;unfold oC at e;replace e:=Vm e;obtain⟨ok,e⟩:=e;rcases e2:G (.obj C [] []::rs.map Ev.d) with _|d2
 .rw[e2]at e;cases e
 rw[e2]at e;cases e;refine⟨A,t,rs,R,e1,λvs H1 gs q x dx hx hdx ne=>?_⟩;generalize W9:L2.upd _ x _=H2;have u0:H2 x=Qs (.ins C dx []):=by rw[<-W9];exact aM
 have u1:∀b,b≠x->b≠dx->H2 b=H1 b:=λb n n2=>by rw[<-W9,aC n,aC n2]
 have UT:TJ H1 H2:=λb o w=>by rw[u1 b (λz=>by lia) (λz=>by lia)];assumption
 have g12:=gs.trans UT;have m1:=R.mu.mono gs;have nx:=dQ m1 hx;have Zm:=TJ.free gs hx;have nA:TJ (ag (A++F) _) (ag ([x]++(A++F)) _):=λb o w=>by
  obtain⟨n,w⟩:=bN w;refine aU (UT b o w) λz=>?_
  simp_all
 refine⟨_,[x],x,_,d2,_,_,rfl,(λb hb=>by
  rcases OT.mp hb with w|w
  .rw[O1.mp w];exact⟨mI C _ _,u0⟩
  .exact m1.mono UT b w),(by simp),λb hb=>by rw[O1.mp hb];assumption,.obj rfl u0 .nil,by rw[PH];exact TZ.mono nA (q.clean R.mu gs ok),e2,λH' B2 gr nb2 dj2 rd2=>⟨rfl,?_⟩⟩
 refine h _ _ (λb o w=>gr.kp b o (λz=>by simp_all) (g12 b o w)) ⟨B2,nb2,λb hb=>?_,rd2⟩;rcases gr.nw b hb with w|w
 .rw[O1.mp w];assumption
 .exact TJ.free g12 w
end
end DL
namespace L2
open PySem.Spec TS
def FQ(d:XW)(o:Obj)(ks:Ql Int):It:=⟨λi H=>(∃u,H d=Qs (.UW o u))/\i<ks.length,λi H x H'=>H'=H/\∃b,ks[i]?=Qs b/\x=.int b,λi H=>(∃u,H d=Qs (.UW o u))/\ks.length=i⟩
def Gy (d it:XW)(ex:o.ExactDict)(dd:o.data=.dict es ep)(hsz:es.size=ks.length)(hk:∀(i:Nat) (h:i<es.size) (h':i<ks.length),∃t,es[i].key=.int ks[i] t):Turn P w K tg (FQ d o ks) [it] it (λi h=>h.IsKeyIter it d i es.size ep) where
 mem:=by simp
 obj:=λi h st b hb=>by
  have e:=by simpa using hb
  subst e;obtain⟨o,e,c,d⟩:=st
  simp_all
 keep:=λi h h' st k=>Heap.IsKeyIter.at st λo e=>k _ (by simp) o e
 item:=by intro X hP hw hK hc i pins s σ H E I hf st hg;obtain⟨⟨u,hd⟩,hi⟩:=hg;obtain⟨f0,f1,f2,f3,f4,f5⟩:=hf it (by simp);refine Io st ⟨o,((show VQ X.prog X.w H s.heap d (.UW o u) from I.UB d _ hd).1),ex,dd⟩ (by lia) λh' Uk sb=>?_;obtain⟨oi,e,c,d⟩:=id Uk;obtain⟨tk,ek⟩:=hk i (by lia) hi;exact⟨_,rfl,sO e c d (rfl) ⟨_,H,(I.turned (t':=s.toks) (λb o hb e=>(sb.2 b hb).trans e) f0 f1 f3 f4 f5),by rw[ek];exact⟨tk,rfl⟩,⟨rfl,_,O2 _,rfl⟩,Uk,λb hb=>(hf b hb).1⟩⟩
 done:=by
  intro X hP hw hK hc i pins s σ H E I hf st hg;obtain⟨⟨u,hd⟩,hi⟩:=hg;obtain⟨f0,f1,f2,f3,f4,f5⟩:=hf it (by simp);have ei:i=es.size:=by lia
  subst ei;exact Ip (I.ok.hd hc) st ⟨o,((show VQ X.prog X.w H s.heap d (.UW o u) from I.UB d _ hd).1),ex,dd⟩ λh' eb=>⟨rfl,I.turned (λb o hb e=>eb b o hb e) f0 f1 f3 f4 f5⟩
 self:=λ_ _ _ _ _ st h=>wpAny_pyIter_keyiter st h
theorem DX:∀{ks:Ql Int}{vs:Ql (bh×Pl)}{es:Ql DictEntry},KV (DL.W7 ks) vs->Pairs (fz P w) es vs->es.length=ks.length/\∀(i:Nat) (h:i<es.length) (h':i<ks.length),∃t,es[i].key=.int ks[i] t
 |[],_,_,.nil,.nil=>⟨rfl,λi h=>by simp at h⟩
 |k::ks,_,_,.cons h r,.cons h1 _ r2=>by
  obtain⟨a,b⟩:=DX r r2;refine⟨by simp[a],λi hi XG=>?_⟩;cases i with
  |zero=>rw[<-h.1,Ly]at h1;have:=Il h1;assumption
  |succ i=>exact b i _ _
def MU(tl:TE):TI:=λσ H R=>tl σ H λx H1=>∃a o ks,x=.ref a/\H1 a=Qs (.UW o (.dK (DL.W7 ks)))/\R (FQ a o ks) H1
def JM(hl:PE X l tl):PI X tg l (MU tl):=by
 intro pins s σ H R I h;refine aA (hl pins s σ H _ I h) λv s1 ⟨x,H1,I1,r1,q1⟩=>?_;obtain⟨a,o,ks,e,hq,q⟩:=q1;subst e;cases r1;obtain⟨e0,_,nm,vs,kv,o',es,ep,e1,ex,d,ko,pr,_⟩:=(show VQ X.prog X.w H1 s1.heap a (.UW o (.dK (DL.W7 ks))) from I1.UB a _ hq);rw[e0]at e1;cases e1;obtain⟨sz,ky⟩:=DX kv pr;refine Im nm ⟨o,e0,ex,d⟩ ?_;refine⟨s1.heap.objs.size,[s1.heap.objs.size],_,_,H1,rfl,I1.kept (t':=s1.toks) λb o e=>OV _ e,Gy a _ (ks:=ks) ex d (by assumption) (λi h h'=>?_),⟨_,Pb _ rfl,rfl,rfl⟩,λb hb=>?_,q⟩
 .simp_all
 .have e:=by simpa using hb
  subst e;exact I1.Yf (O5 _) (I1.UB.fresh (O5 _))
end L2
namespace DL
open PySem.Spec L2
section
variable {X:Cx}{F:Ql XW}{a b:XY}{fa:DE}{g:DS}{tg:XY}{st:XZ}{I:Ql Nat}
def tK(k:D->Th->Qo Th)(f:DE)(body:DS):DS:=λt=>(f t).bind λr=>match r.d with
 |.UI ks=>bL k body (ks.map D.int) t
 |_=>Qn
def yJ(f:DE):DT:=λt=>(f t).bind λr=>match r.d with
 |.UI ks=>Qs (!ks.isEmpty)
 |_=>Qn
def IS(ha:PE X a (dE X.K F fa))(he:∀whole,isTrue a X.env whole=(do let v<-whole;standAt a.pos;holding [v] (truthy v)):=by intro _;rfl):PT X a (dT X.K F (yJ fa)):=by
 rintro pins s σ H Q I ⟨A,t,k,R,e,h⟩;unfold yJ at e;rcases e1:fa t with _|r
 .rw[e1]at e;cases e
 rw[e1]at e;simp at e;split at e
 case h_2=>cases e
 rename_i ks z;cases e;refine isTrue_plain (aA (ha _ s σ H (λv H1=>TJ H _/\Rep _ _ _ v) I ⟨A,t,r,R,e1,λv H1 gs q=>⟨gs,z▸q.full⟩⟩) λv s1 ⟨x,H1,I1,r1,gs,rp⟩=>?_) (he _);cases rp with
 |@UI _ p o h1=>
  cases r1;obtain⟨hz,hS,vs,r,m⟩:=yH I1.UB (.inr ⟨o,h1⟩);have hlen:=Paired.length r;have hl:=mC;refine wpAny_truthy_dict hS m (by lia) ⟨H1,I1.tok _,?_⟩;rw[DK r];have:(!(W7 ks).isEmpty)=!ks.isEmpty:=by cases ks<;>rfl
  rw[this];exact h _ gs
theorem Aa(n:Int):∀ks:Ql Int,(gw (W7 ks) (Sum.inl n)).isSome=ks.contains n
 |[]=>rfl
 |k::ks=>by
  have i:=Aa n ks;unfold W7 at i ⊢;simp only[Pa,List.contains_cons];by_cases e:k=n
  .rw[nF (congrArg Sum.inl e)];simp[e]
  .rw[nH (λz=>e (Sum.inl.inj z)),i];lia
def oE(neg:Bool):Ev->Ev->Qo Ev:=λr1 r2=>match r2.d,r1.d with
 |.UI ks,.int n=>Qs (.cl (.bl (if neg then !ks.contains n else ks.contains n)))
 |_,_=>Qn
def Lc(hu:X.A.units+64<cLine):VC X F (compareOp .In) (oE Qf):=by
 intro pins s σ H0 H A x y v u Q r1 r2 r I m g0 rx ry q1 q2 e hq;unfold oE at e;split at e
 case h_2=>cases e
 rename_i ks n z1 z2;cases e;have p1:=q1.full;rw[z2]at p1;have p2:=q2.full;rw[z1]at p2;cases bX p1;cases p2 with
 |@UI _ p o h1=>cases(ry);refine NK (by lia) I ((.inl ⟨_,Sum.inl n,.inr ⟨o,h1⟩,rfl,rfl⟩)) rx λs' I'=>?_;rw[Aa];exact⟨.bl _,H,I',rfl,hq _ H (TJ.refl H) (.bl _)⟩
noncomputable def iX:Ql bh->Ql D->Qo (Ql Int)
 |[],[]=>Qs []
 |.inl k::ks,.bl Qt::ds=>(iX ks ds).map (k::·)
 |_,_=>Qn
theorem Ak:∀{ks:Ql bh}{ds:Ql D}{is:Ql Int},iX ks ds=Qs is->ks=is.map Sum.inl/\ds=is.map λ_=>D.bl Qt
 |[],[],is,e=>by cases e;simp
 |.inl k::ks,.bl Qt::ds,is,e=>by
  simp only[iX]at e;rcases e1:iX _ _ with _|js
  .rw[e1]at e;cases e
  rw[e1]at e;cases e;obtain⟨a,b⟩:=Ak e1;rw[a,b];simp
 |[],_::_,_,e=>by cases e
 |.inl _::_,[],_,e=>by cases e
 |.inr _::_,_,_,e=>by cases e
 |.inl _::_,.bl Qf::_,_,e=>by cases e
 |.inl _::_,.Uz::_,_,e=>by cases e
 |.inl _::_,.int _::_,_,e=>by cases e
 |.inl _::_,.str _::_,_,e=>by cases e
 |.inl _::_,.tup _::_,_,e=>by cases e
 |.inl _::_,.lst _::_,_,e=>by cases e
 |.inl _::_,.U1 _ _::_,_,e=>by cases e
 |.inl _::_,.Vp _::_,_,e=>by cases e
 |.inl _::_,.We _::_,_,e=>by cases e
 |.inl _::_,.adr _::_,_,e=>by cases e
 |.inl _::_,.obj _ _ _::_,_,e=>by cases e
 |.inl _::_,.UI _::_,_,e=>by cases e
def tH(i:Nat)(g:DS):DS:=λt=>match t[i]? with
 |some (.dp (.U1 ks ds))=>(iX ks ds).bind λis=>g (t.set i (.val (.UI is)))
 |_=>Qn
def RS.toK (R:RS K F H A t σ)(e:t[i]?=Qs (.dp (.U1 ks ds)))(et:iX ks ds=Qs is):∃p,H p=Qs (.dK (W7 is))/\∀o,∃A2,RS K F (L2.upd H p (.UW o (.dK (W7 is)))) A2 (t.set i (.val (.UI is))) σ/\Gr A H A2 (L2.upd H p (.UW o (.dK (W7 is)))):=by
 obtain⟨rfl,rfl⟩:=Ak et;obtain⟨v,B,A',a1,R',nb,dj,rd,sub,WL⟩:=R.za4 e;cases rd with
 |flat f r=>simp[flat]at f
 |@U1 _ _ p vs C l h r=>
  have sc:(is.map λ_=>D.bl Qt).all aQ=Qt:=by simp[aQ]
  obtain⟨ev,eC⟩:=vO r sc;subst eC;have ek:d5 (is.map Sum.inl) vs=W7 is:=by rw[ev];unfold d5 W7;rw[Pe,List.zip_map',];rfl
  rw[ek]at h;have pA:=WL p (OU ..);have pA':=λz=>R'.dj p z (OR _ (OU ..));have pF:p∉F:=dj p (OU ..);refine⟨p,h,λo=>?_⟩;generalize W9:L2.upd H p _=H2;have u1:∀b,b≠p->H2 b=H b:=λb n=>by rw[<-W9];exact aC n
  have u2:H2 p=Qs (.UW o (.dK (W7 is))):=by rw[<-W9];exact aM
  have S:TJ (ag (A'++([p]++F)) H) (ag (A'++F) H2):=λb o' w=>by
   obtain⟨n,w⟩:=bN w;refine aU (by rw[u1 b (λz=>n (by rw[z];simp))];assumption) λz=>n ?_
   simp_all
  have rel:Ul K _ H2 _ σ A':=Ul.mono S R'.rel λb hb o' w=>by rw[u1 b λz=>pA' (z▸hb)];assumption
  have rp:Rep K _ _ (.ref p):=.UI (aU u2 λz=>(OT.mp z).elim pA' pF);have zdL:=Ul.zd2 rp rel i (by simp[((Pu.mp e).1)]) a1;rw[S9]at zdL;refine⟨A',⟨λb hb=>?_,R'.nd,λb hb z=>R'.dj b hb (OP _ z),zdL⟩,λb o' n w=>by rw[u1 b λz=>n (z▸pA)];assumption,λb hb=>?_,λb hb=>.inl (sub b hb)⟩
  .have np:b≠p:=λz=>by simp_all
   obtain⟨us,w⟩:=R'.mu b (by simp_all);exact⟨us,by rw[u1 b np];assumption⟩
  .by_cases z:b=p
   .lia
   .obtain⟨us,w⟩:=R.mu b (OR _ hb);rw[u1 b z,w];simp
def Je(i:Nat)(h:PS X st (dS X.K F g)):PS X st (dS X.K F (tH i g)):=by
 intro pins s σ H D I q;obtain⟨A,t,o,R,e,p⟩:=jm q;unfold tH at e;split at e
 case h_2=>cases e
 rename_i ks ds z;refine aq e λis et e=>?_;obtain⟨a,h1,k⟩:=R.toK z et;have ok:=((I.UB a _ h1));obtain⟨ob,ho⟩:∃ob,s.heap.get? a=Qs _:=by obtain⟨_,_,_,_,ob,_,_,e1,_⟩:=id ok;exact⟨ob,e1⟩
 obtain⟨A2,R2,gr⟩:=k ob;have I2:Inv X _ σ (L2.upd H a (.UW _ _)) { s with heap:=s.heap,toks:=s.toks }:=I.write (by rw[h1];exact True.intro) (.inl rfl) (λ_ _ _ w=>w) ⟨ob,ho⟩ ⟨ho,ok.XD (λ_ _ _ w=>w) (λb w=>by rw[aC (rS w h1 λz=>nomatch z)];assumption) (λb xs w=>by rw[aC (rS w h1 λz=>nomatch z)];assumption) λb o' u w=>by rw[aC (rS w h1 λz=>nomatch z)];assumption⟩;exact h _ s σ _ D I2 (jo R2 e (p.back gr))
end
def pP(I:Ql Nat)(g:TG):Prop:=∀x σ H (Q Q':L2.St->Hp->Prop),(∀σ' H',Pn I σ σ'->Q σ' H'->Q' σ' H')->g x σ H Q->g x σ H Q'
def pQ(I:Ql Nat)(g:ku):Prop:=∀xs σ H (Q Q':L2.St->Hp->Prop),(∀σ' H',Pn I σ σ'->Q σ' H'->Q' σ' H')->g xs σ H Q->g xs σ H Q'
def sq(h:i∉I):pP I (d7 i):=λx σ H Q Q' k q=>k _ _ (λj hj=>Pm λ(z:i=j)=>h (z▸hj)) q
def Dr:pQ I kj:=λxs σ H Q Q' k q=>⟨q.1,k _ _ (λ_ _=>rfl) q.2⟩
def sr(h1:pP I g)(h2:pQ I u):pQ I (gi g u):=λxs σ H Q Q' k q=>by obtain⟨v,r,e,q⟩:=q;exact⟨v,r,e,h1 v σ H _ _ (λσ1 H1 p1 q1=>h2 r _ _ Q _ (λσ2 H2 p2 q2=>k _ _ (λj hj=>(p2 j hj).trans (p1 j hj)) q2) q1) q⟩
def Mj (h2:pQ I u):pP I (mP K n u):=λx σ H Q Q' k q=>by obtain⟨a,xs,e1,e2,e3,q⟩:=q;exact⟨a,xs,e1,e2,e3,h2 _ σ H Q _ k q⟩
def Mm (h2:pQ I u):pP I (oQ K n u):=λx σ H Q Q' k q=>by obtain⟨a,xs,e1,e2,e3,q⟩:=q;exact⟨a,xs,e1,e2,e3,h2 _ σ H Q _ k q⟩
section
variable {X:Cx}{F:Ql XW}{I:Ql Nat}{a b c o:XY}{es:Ql XY}{fa:DE}{g:DS}{C:XW}{f m:Str}{tg:XY}
def Bw(he:PE X a (dE X.K F fa))(hg:PG X tg gt)(ht:cC X.K F gt kt)(hk:pP I gt)(hs:swapsWithSole [tg] a pos.line X.env=pure Qf:=by rfl)(hw:swappedStores [tg] a X.env=pure Qn:=by rfl) (h1:(assignEach [tg] X.env).map (·.2)=[assign tg X.env]:=by rfl):PS X (.Assign [tg] a pos) (dP X.K F I (dG kt fa)):=by
 refine PS.imp (q9 he hg hs hw h1) ?_;rintro E σ H ⟨A,t,t2,R,e,h⟩;refine aq e λr1 e1 e=>?_;refine bJ e λok e=>?_;rcases e2:kt _ t with _|t'
 .rw[e2]at e;cases e
 rw[e2]at e;cases e;refine⟨A,t,r1,R,e1,λv H1 gs q=>?_⟩;refine hk v σ _ (λσ2 H2=>∃A2,Gr A H _ _/\RS _ F _ _ _ _) _ (λσ2 H2 pn ⟨A2,g2,R2⟩=>h _ _ A2 g2 R2 pn) ?_;exact ht σ _ A t _ _ v _ (R.grow gs) (q.clean R.mu gs ok) e2 λσ2 A2 g2 R2=>⟨A2,(Gr.of_same R.mu.left gs).trans g2,R2⟩
def Jz(hk:k∉I)(hx:kz g)(hp:PassesOwn (model X.prog X.w) X.A X.env X.xe)(hc:X.calm=Qt)(hl:PE X a (dE X.K F fa))(hg:PG X tg (d7 k))(hb:UL X body (dP X.K F I g)) (hs:∀x,foldedSetIterable a X.env x=pure x:=by intro _;rfl):PS X (.For tg a body [] pos) (dP X.K F I (tK (aP k) fa g)):=by
 refine PS.imp (jV hp hc (JM hl) hg hb hs) ?_;rintro E σ0 H ⟨A,t,t2,R,e,h⟩;refine aq e λr e1 e=>?_;refine⟨A,t,r,R,e1,λv H1 gs q=>?_⟩;split at e
 case h_2=>cases e
 rename_i ks z;have cl:=q.full;rw[z]at cl;have cl:=Rep.U8 (R.mu.mono gs) (show flat (.UI ks)=Qt from rfl) cl;cases cl with
 |@UI _ p ob h1=>
  refine⟨p,ob,ks,rfl,(bN h1).2,?_⟩;have hln:(ks.map D.int).length=ks.length:=by simp
  let W:=λi m σ H'=>i+m=ks.length/\∃A' t',bL (aP k) g ((ks.map D.int).drop i) t'=Qs (.nx t2)/\RS X.K F H' A' t' σ/\Gr A H A' H'/\Pn I σ0 σ/\ag (A'++F) H' p=Qs (.UW ob (.dK (W7 ks)))
  refine⟨W,⟨ks.length,by lia,A,t,e,R.grow gs,(Gr.of_same R.mu.left gs),λ_ _=>rfl,h1⟩,?_⟩;rintro i m σ H' ⟨hm,A',t',e',R',gr,pn,s1⟩;cases m with
  |zero=>
   have zi:i=(ks.map D.int).length:=by lia
   rw[zi,QQ]at e';cases e';exact .inl ⟨⟨⟨_,(bN s1).2⟩,by lia⟩,h σ _ _ gr R' pn⟩
  |succ m=>
   have hi:i<ks.length:=by lia
   refine .inr ⟨⟨⟨_,(bN s1).2⟩,hi⟩,_,λσ' H' q=>⟨m,Qa m,q⟩,λx YJ y=>?_⟩;obtain⟨y1,n,y2,y3⟩:=y;subst y1 y3;have ed:(ks.map D.int).drop i=.int n::(ks.map D.int).drop (i+1):=by
    rw[Qm (by lia)]
    simp_all
   rw[ed]at e';simp only[bL]at e';rcases e2:aP k _ _ with _|t1
   .rw[e2]at e';cases e'
   rw[e2]at e';simp at e';obtain⟨A2,Xi,R2⟩:=R'.put (r:=.cl _) (TJ.refl _) (.int n) e2;rcases e3:g _ with _|o2
   .rw[e3]at e';cases e'
   obtain⟨t4,rfl⟩:=hx _ _ e3;rw[e3]at e';refine⟨A2,t1,t4,R2,e3,λσ5 H5 A5 g5 R5 n5=>⟨by lia,A5,t4,e',R5,(gr.trans Xi).trans g5,λj hj=>?_,?_⟩⟩
   .rw[n5 j hj,Pm (λw=>hk (by lia)),pn j hj]
   .exact(Xi.trans g5).same _ _ s1
noncomputable def jh(j:Nat)(xs0:Ql D)(k:Nat)(g:DS):Ql D->Th->Qo Th
 |[],t=>Qs t
 |d::ds,t=>(aP k d t).bind λt1=>match g t1 with
  |some (.nx t')=>(match t'[j]? with
   |some (.own xs)=>if XM xs xs0 then jh j xs0 k g ds t' else Qn
   |_=>Qn)
  |_=>Qn
def tJ(j k:Nat)(g:DS):DS:=λt=>match t[j]? with
 |some (.own xs)=>if xs.all aQ then(jh j xs k g xs t).map Out.nx else Qn
 |_=>Qn
def Jy{p0:Pos}(hj:j∈I)(hk:k∉I)(hp:PassesOwn (model X.prog X.w) X.A X.env X.xe)(hc:X.calm=Qt)(hg:PG X tg (d7 k))(hb:UL X body (dP X.K F I g)) (hN:X.N[j]?=Qs y:=by rfl) (hv:autoParam (cJ X.env.scope y) qzA._auto_1) (hd:Vf y:=by decide) (UY:VX y:=by decide) (hs:∀x,foldedSetIterable (.Name y p0) X.env x=pure x:=by intro _;rfl):PS X (.For tg (.Name y p0) body [] pos) (dP X.K F I (tJ j k g)):=by
 refine PS.imp (jV hp hc (nX (dg (i:=j) hN hv hd UY)) hg hb hs) ?_;rintro E σ0 H ⟨A,t,t2,R,e,h⟩;unfold tJ at e;split at e
 case h_2=>cases e
 rename_i xs z;replace e:=Vm e;obtain⟨sc,e⟩:=e;rcases ef:jh j xs k g xs t with _|t3
 .rw[ef]at e;cases e
 rw[ef]at e;cases e;obtain⟨p,vs,a1,a2,a3,a4⟩:=R.rel.WV z;refine⟨_,a1,p,rfl,⟨vs,Ux.of a3⟩,?_⟩;have st:∀{σ H' A' t'},RS X.K F H' A' _ σ->Pn I σ0 σ->t'[j]?=Qs _->H' p=Qs (.lst vs):=λ{σ H' A' t'} R' pn z'=>by obtain⟨p',Vs,b1,b2,b3,b4⟩:=R'.rel.WV z';have:=pn j hj;rw[b1,a1]at this;cases this;rw[b3,vM b4 sc,(vM a4 sc)]
 have hl:=a4.length;let W:=λi m σ H'=>i+m=xs.length/\∃A' t',jh j xs k g (xs.drop i) t'=Qs t2/\t'[j]?=Qs (.own xs)/\RS X.K F H' A' t' σ/\Gr A H A' H'/\Pn I σ0 σ
 refine⟨W,⟨xs.length,by lia,A,t,ef,z,R,Gr.refl R.mu.left,λ_ _=>rfl⟩,?_⟩;rintro i m σ H' ⟨hm,A',t',e',zj,R',gr,pn⟩;have YX:=st R' pn zj;cases m with
 |zero=>subst (by assumption);rw[QQ]at e';cases e';exact .inl ⟨⟨vs,Ux.of YX,by lia⟩,h σ _ _ gr R' pn⟩
 |succ m=>
  have hi:i<xs.length:=by lia
  refine .inr ⟨⟨vs,_,Ux.of YX,O2 (by lia)⟩,_,λσ' H' q=>⟨m,Qa m,q⟩,λx YJ y=>?_⟩;obtain⟨y1,y2⟩:=y;subst y1;obtain⟨d,Yb,rd⟩:=a4.XJ (y2 vs (Ux.of YX));have ed:xs.drop i=d::xs.drop (i+1):=by
   have hd2:xs[i]=d:=by
    simp_all
   rw[<-hd2];simp
  rw[ed]at e';simp only[jh]at e';rcases e2:aP k d _ with _|t1
  .rw[e2]at e';cases e'
  rw[e2]at e';simp at e';obtain⟨A2,Xi,R2⟩:=R'.put (r:=.cl d) (TJ.refl _) (Ik rd (P5.mp sc d (R7 Yb)) _) e2;split at e'
  case h_2=>cases e'
  rename_i t4 e3;split at e'
  case h_2=>cases e'
  rename_i xs' z4;split at e'
  case isFalse=>cases e'
  rename_i eq;have eq:=zjx.mp eq;subst eq;refine⟨A2,t1,t4,R2,e3,λσ5 H5 A5 g5 R5 n5=>⟨by lia,A5,t4,e',z4,R5,(gr.trans Xi).trans g5,λl hl'=>?_⟩⟩;rw[n5 l hl',Pm (λw=>hk (by lia)),pn l hl']
end
inductive Apt(K:OQ)(H0 H:Hp)(vs:List V)(C:List XW)(j1 j2:Nat)(d1 d2:D):Prop
 |mk (v1 v2 B1 B2:_) (_:vs[j1]?=Qs v1) (_:vs[j2]?=Qs v2) (_:UC K H0 H d1 v1 B1) (_:UC K H0 H d2 v2 B2) (_:(∀b∈B1,b∈C)) (_:(∀b∈B2,b∈C)) (_:∀b∈B1,b∉B2)
theorem Uq.apart{K:OQ}:∀{ds:Ql D}{vs:Ql V}{C:Ql XW},Uq K H0 H ds vs C->C.Nodup->∀{j1 j2:Nat}{d1 d2:D},j1≠j2->ds[j1]?=Qs d1->ds[j2]?=Qs d2->Apt K H0 H vs C j1 j2 d1 d2
 |_,_,_,.nil,nd,j1,j2,d1,d2,ne,e1,e2=>by simp at e1
 |_,_,_,.cons h r,nd,0,0,d1,d2,ne,e1,e2=>absurd rfl ne
 |_,_,_,.cons (v:=v) (B:=B) h r,nd,0,j2+1,d1,d2,ne,e1,e2=>by simp at e1;subst e1;obtain⟨v1,B1,a1,a2,a3,_⟩:=Uq.focus r (e2);exact⟨v,v1,B,B1,rfl,a1,h,a2,λb hb=>OR _ hb,λb hb=>OP _ (a3 b hb),λb hb z=>(O4.mp nd).2.2 b hb b (a3 b z) rfl⟩
 |_,_,_,.cons (v:=v) (B:=B) h r,nd,j1+1,0,d1,d2,ne,e1,e2=>by simp at e2;subst e2;obtain⟨v1,B1,a1,a2,a3,_⟩:=Uq.focus r (e1);exact⟨v1,v,B1,B,a1,rfl,a2,h,λb hb=>OP _ (a3 b hb),λb hb=>OR _ hb,λb hb z=>(O4.mp nd).2.2 b z b (a3 b hb) rfl⟩
 |_,_,_,.cons h r,nd,j1+1,j2+1,d1,d2,ne,e1,e2=>by obtain⟨v1,v2,B1,B2,a1,a2,a3,a4,a5,a6,a7⟩:=Uq.apart r (O4.mp nd).2.1 (λz=>ne (by rw[z])) (e1) (e2);exact⟨v1,v2,B1,B2,a1,a2,a3,a4,λb hb=>OP _ (a5 b hb),λb hb=>OP _ (a6 b hb),a7⟩
def fS(m:Int):Ql Int->Ql Int->Qo (Ql Int)
 |[],ws=>Qs ws
 |z::zs,ws=>(Vt ws.length z).bind λl=>(ws[l]?).bind λv=>fS m zs (ws.set l (v+m))
def ib(σ:L2.St)(k:Nat)(zs:Ql Int):L2.St:=match zs.getLast? with
 |none=>σ
 |some z=>σ.set k (Qs (.int z))
def L7(h:k≠j):(ib σ k zs)[j]?=σ[j]?:=by
 unfold ib;split
 .rfl
 .exact Pm h
def L8:(ib σ k zs).length=σ.length:=by
 unfold ib;split
 .rfl
 .simp
def L6:(ib σ k zs).set k (Qs (.int z))=ib σ k (zs++[z]):=by
 unfold ib;rw[List.getLast?_append];simp;split
 .rfl
 simp
theorem FG:∀{zs:Ql Int}{z:Int}{ws us ts:Ql Int},fS m (zs++[z]) ws=Qs ts->fS m zs ws=Qs us->∃l v,Vt us.length z=Qs l/\us[l]?=Qs v/\ts=us.set l (v+m)
 |[],z,ws,us,ts,e,e2=>by
  cases e2;simp only[Rj,fS]at e;rcases e1:Vt _ z with _|l
  .rw[e1]at e;cases e
  grind
 |y::zs,z,ws,us,ts,e,e2=>by
  simp only[Q3,fS]at e e2;rcases e1:Vt _ y with _|l
  .rw[e1]at e;cases e
  rw[e1]at e e2;simp at e e2;rcases e3:ws[l]? with _|v
  .rw[e3]at e;cases e
  rw[e3]at e e2;exact FG e e2
theorem FF:∀{zs ys:Ql Int}{ws ts:Ql Int},fS m (zs++ys) ws=Qs ts->∃us,fS m zs ws=Qs us
 |[],ys,ws,ts,e=>⟨ws,rfl⟩
 |y::zs,ys,ws,ts,e=>by
  simp only[Q3,fS]at e ⊢;rcases e1:Vt _ y with _|l
  .rw[e1]at e;cases e
  rw[e1]at e;simp at e ⊢;rcases e3:ws[l]? with _|v
  .rw[e3]at e;cases e
  rw[e3]at e;exact FF e
section
variable {X:Cx}{F:Ql XW}{I:Ql Nat}{a b c o:XY}{es:Ql XY}{fa:DE}{g:DS}{C:XW}{f f1 f2 m:Str}{tg:XY}
def sS(t:Th)(i:Nat):Qo (XW×Ql Str×Ql D):=match t[i]? with
 |some (.dp (.obj C ns ds))=>Qs (C,ns,ds)
 |_=>Qn
def oR(t:Th)(a:Nat):Qo Int:=match t[a]? with
 |some (.val (.int n))=>Qs n
 |_=>Qn
def mQ(d:Qo D):Qo (Ql D):=match d with
 |some (.lst xs)=>Qs xs
 |_=>Qn
def M6(e:sS t i=Qs (C,ns,ds)):t[i]?=Qs (.dp (.obj C ns ds)):=by
 unfold sS at e;split at e
 .lia
 .cases e
def Ep{a:Nat}(e:oR t a=Qs n):t[a]?=Qs (.val (.int n)):=by
 unfold oR at e;split at e
 .lia
 .cases e
def yh(e:mQ d=Qs xs):d=Qs (.lst xs):=by
 unfold mQ at e;split at e
 .cases e;rfl
 .cases e
def xY(t:Th)(k:Nat)(z:Qo Int):Qo Out:=match z with
 |none=>Qs (.nx t)
 |some z=>(c9 t k (.cl (.int z))).map Out.nx
def lF(i a k s:Nat)(C:XW)(f1 f2:Str):DS:=λt=>(sS t i).bind λq=>(oR t a).bind λn=>(oR t s).bind λm=>if q.1=C/\k≠i/\k≠a/\k≠s/\k<t.length then (aW f1 q.2.1).bind λj1=>(aW f2 q.2.1).bind λj2=>(mQ q.2.2[j1]?).bind λrows=>(mQ q.2.2[j2]?).bind λes=>(mQ (U2 rows n)).bind λxs=>(d6 xs).bind λzs=>(d6 es).bind λws=>
   if j1≠j2 then(fS m zs ws).bind λus=>xY (t.set i (.dp (.obj C q.2.1 (q.2.2.set j2 (.lst (us.map D.int)))))) k zs.getLast? else Qn else Qn
def Jw{x y1 y2 y3:Str}{p0 p1 p2 p3 p4 p5 p6 p7 p8:Pos}(i a k s:Nat)(c:Vh X.K C)(n1:UH X.K C f1)(n2:UH X.K C f2)(hk:k∉I)(hp:PassesOwn (model X.prog X.w) X.A X.env X.xe)(hc:X.calm=Qt)(hg:PG X tg (d7 k)) (hN0:X.N[i]?=Qs x:=by rfl) (hN1:X.N[a]?=Qs y1:=by rfl) (hN2:X.N[k]?=Qs y2:=by rfl) (hN3:X.N[s]?=Qs y3:=by rfl) (hv0:autoParam (cJ X.env.scope x) qzA._auto_1) (hv1:autoParam (cJ X.env.scope y1) qzA._auto_1) (hv2:autoParam (cJ X.env.scope y2) qzA._auto_1) (hv3:autoParam (cJ X.env.scope y3) qzA._auto_1) (hd0:Vf x:=by decide) (hd1:Vf y1:=by decide) (hd2:Vf y2:=by decide) (hd3:Vf y3:=by decide) (hc0:VX x:=by decide) (hc1:VX y1:=by decide) (XH:VX y2:=by decide) (hc3:VX y3:=by decide) (ziF:attributeBase (.Name x p0) f1 X.env (eval (.Name x p0) X.env)=eval (.Name x p0) X.env:=by rfl) (ziE:attributeBase (.Name x p4) f2 X.env (eval (.Name x p4) X.env)=eval (.Name x p4) X.env:=by rfl) (hpx:pL (.Name y1 p2):=by intro _ _;rfl) (ha:∀ov iv new,augStore (.Name y2 p6) ov iv new=(do holding [new,ov,iv] (setItem ov iv new);release [new,ov,iv] [];pure .next):=by intros;rfl) (hs:∀z,foldedSetIterable (.Subscript (.Attribute (.Name x p0) f1 p1) (.Name y1 p2) p3) X.env z=pure z:=by intro _;rfl):PS X (.For tg (.Subscript (.Attribute (.Name x p0) f1 p1) (.Name y1 p2) p3) [.AugAssign (.Subscript (.Attribute (.Name x p4) f2 p5) (.Name y2 p6) p7) .Add (.Name y3 p8) pos] [] pos') (dP X.K F I (lF i a k s C f1 f2)):=by
 refine PS.imp (jV hp hc (nX (rH zbn (kR (dg (i:=i) hN0 hv0 hd0 hc0) ziF) (dg (i:=a) hN1 hv1 hd1 hc1) hpx)) hg (nT (Bs (kR (dg (i:=i) hN0 hv0 hd0 hc0) ziE) (dg (i:=k) hN2 hv2 hd2 XH) D7 (dg (i:=s) hN3 hv3 hd3 hc3) xO qI ha)) hs) ?_;rintro E σ0 H ⟨A,t,t2,R,e,h⟩;refine aq e λq z1 e=>?_;obtain⟨C',ns,ds⟩:=q;refine aq e λn z2 e=>?_;refine aq e λm z3 e=>?_;refine bJ e λok e=>?_;obtain⟨rfl,ki,ka,ks,kt⟩:=ok;refine aq e λj1 ej1 e=>?_;refine aq e λj2 ej2 e=>?_;refine aq e λrows ed1 e=>?_;refine aq e λZ8 ed2 e=>?_;refine aq e λxs er e=>?_;refine aq e λzs ezs e=>?_;refine aq e λws0 ews e=>?_;refine bJ e λjne e=>?_;refine aq e λus eus e=>?_;have ef:=e
 repeat clear e
 have e:=ef;clear ef;replace z1:=M6 z1;replace z2:=Ep z2;replace z3:=Ep z3;replace ed1:=yh ed1;replace ed2:=yh ed2;replace er:=yh er;have exs:=k7 ezs;have ees:=k7 ews;subst exs ees;obtain⟨p,dx,vs,q,ws,a1,a2,a3,a4,a5,hl,hvj,⟨C0,rd,nC⟩,a6⟩:=R.zeO z1 ej2 ed2 (Vk _);have ew:=iz a5;obtain⟨v1,v2,B1,B2,b1,b2,b3,b4,b5,b6,b7⟩:=rd.apart nC jne ed1 ed2;rw[hvj]at b2;cases b2;have qB:q∈B2:=by
  cases b4 with
  |flat f' _=>simp[flat]at f'
  |lst _ _=>exact OU ..
 cases b3 with
 |flat f' _=>simp[flat]at f'
 |@lst _ q1 ZJ Cq hq1 rq1=>
 obtain⟨jr,jr1,jr2⟩:=zh er;obtain⟨vr,Br,c1,c2,c3,_⟩:=rq1.focus jr2;cases c2 with
 |flat f' _=>simp[flat]at f'
 |@lst _ qr wr Cr hqr rqr=>
 have q1q:q1≠q:=λz=>b7 q1 (OU ..) (z▸qB);have qrq:qr≠q:=λz=>b7 qr (OS _ (c3 qr (OU ..))) (z▸qB);have ewr:wr=zs.map V.int:=iz (Uq.fl rqr (Vk _)).1;subst ewr;have hat:U2 ZJ n=Qs (.ref qr):=by unfold L2.U2;rw[rq1.length,jr1];exact c1
 obtain⟨vn,hn1,Z1⟩:=R.rel.Zu z2;cases bX Z1;obtain⟨vm,hm1,hm2⟩:=R.rel.Zu z3;cases bX hm2;have pq:p≠q:=λz=>by rw[z,a4]at a2;cases a2
 refine⟨_,a1,p,C',dx,_,_,rfl,a2,c,n1,mB ej1 b1,_,hn1,q1,ZJ,n,.ref qr,rfl,rfl,Ux.of hq1,hat,qr,rfl,⟨_,Ux.of hqr⟩,?_⟩;let W:Nat->Nat->L2.St->Hp->Prop:=λi' m' σ H'=>i'+m'=zs.length/\∃Zd,fS m (zs.take i') ws0=Qs Zd/\H'=L2.upd H q (.lst (Zd.map V.int))/\σ=ib σ0 k (zs.take i')
 have hH0:L2.upd H q (.lst (ws0.map V.int))=H:=by
  funext b;by_cases z:b=q
  .rw[z,aM,a4,ew]
  .exact aC z
 refine⟨W,⟨zs.length,by lia,ws0,rfl,hH0.symm,rfl⟩,?_⟩;rintro i' m' σ H' ⟨hm,Zd,eu,rfl,rfl⟩;have zcv:L2.upd H q (.lst (Zd.map V.int)) qr=Qs (.lst (zs.map V.int)):=by rw[aC qrq];exact hqr
 cases m' with
 |zero=>
  have zi:i'=zs.length:=by lia
  subst zi;rw[SQ]at eu;rw[SQ];rw[eus]at eu;cases eu;refine .inl ⟨⟨_,Ux.of zcv,by simp⟩,?_⟩;obtain⟨A2,d1,d2⟩:=a6 H (us.map D.int) (us.map V.int) (TJ.refl H) (Vk _) (TZ.ints us);unfold ib;unfold xY at e;split at e
  .rename_i el
   try rw[el]
   cases e;exact h _ _ _ d2 d1 λ_ _=>rfl
  .rename_i z el
   try rw[el]
   rcases es2:c9 (t.set i (.dp (.obj C' ns (ds.set j2 (.lst (us.map D.int)))))) k (.cl (.int z)) with _|t5
   .rw[es2]at e;cases e
   rw[es2]at e;cases e;obtain⟨A3,g3,R3⟩:=d1.put (i:=k) (r:=.cl (.int z)) (TJ.refl _) (.int z) es2;exact h _ _ _ (d2.trans g3) R3 λj hj=>Pm λ(w:k=j)=>hk (w▸hj)
 |succ m'=>
  have hi:i'<zs.length:=by lia
  refine .inr ⟨⟨_,.int zs[i'],Ux.of zcv,by rw[Pr,O2 hi];rfl⟩,W (i'+1) m',λσ' H' q=>⟨m',Qa m',q⟩,λw YJ y=>?_⟩;obtain⟨y1,y2⟩:=y;have zz:=y2 _ (Ux.of zcv);subst y1;rw[Pr,O2 hi]at zz;cases zz;have et:zs.take (i'+1)=zs.take i'++[zs[i']]:=by rw[List.take_succ,O2 hi];rfl
  obtain⟨ts,ets⟩:∃ts,fS m (zs.take (i'+1)) ws0=Qs ts:=FF (ys:=zs.drop (i'+1)) (by rw[PF];exact eus);obtain⟨l,v,g1,g2,g3⟩:=FG (by rw[<-et];exact ets) eu;have s1:∀j,k≠j->((ib σ0 k (zs.take i')).set k (Qs (.int zs[i'])))[j]?=σ0[j]?:=λj hj=>by rw[Pm hj,L7 hj]
  have kl:k<(ib σ0 k (zs.take i')).length:=by rw[L8,R.rel.len];exact kt
  have hp2:L2.upd H q (.lst (Zd.map V.int)) p=Qs (.ins C' dx (ns.zip vs)):=by rw[aC pq];exact a2
  refine⟨_,by rw[s1 i ki];exact a1,p,C',dx,_,_,rfl,hp2,c,n2,a3,_,by rw[P2 kl],q,_,zs[i'],.int v,rfl,rfl,Ux.of aM,?_,_,by rw[s1 s ks];exact hm1,v,m,rfl,rfl,q,_,zs[i'],l,rfl,rfl,aM,?_,?_⟩
  .unfold L2.U2;rw[O0,g1];show(Zd.map V.int)[l]?=_;rw[Pr,g2];rfl
  .rw[O0];exact g1
  .refine⟨by lia,ts,ets,?_,?_⟩
   .rw[Gk,g3,Ue]
   .rw[L6,<-et]
end
def RS.zjb (R:RS K F H A t σ)(ne:k≠i)(e:t[i]?=Qs (.dp (.obj C ns ds)))(ek:t[k]?=Qs (.own xs))(fl:UD xs=Qt)(ef:aW f ns=Qs j)(ed:ds[j]?=Qs (.lst rows)):∃p dx vs q ws pj,σ[i]?=Qs (Qs (.ref p))/\σ[k]?=Qs (Qs (.ref pj))/\H p=Qs (.ins C dx (ns.zip vs))/\(ns.zip vs).lookup f=Qs (.ref q)/\H q=Qs (.lst ws)/\ws.length=rows.length/\∃A2,RS K F (L2.upd H q (.lst (ws++[.ref pj]))) A2 ((t.set k .no).set i (.dp (.obj C ns (ds.set j (.lst (rows++[.lst xs])))))) σ/\Gr A H A2 (L2.upd H q (.lst (ws++[.ref pj]))):=by
 obtain⟨pj,vj,A1,s1,R1,pF,hpj,rj,za7,pjA⟩:=R.zfZ ek;have zf:∀z∈[pj],z∉F:=λz hz=>by rw[O1.mp hz];assumption
 have e':(t.set k .no)[i]?=Qs (.dp (.obj C ns ds)):=by rw[Pm ne];assumption
 obtain⟨p,dx,vs,C0,a1,hp,hl,pA,pC,pZ,nC,VA,rd,fin⟩:=RS.zcT R1 zf e';obtain⟨v1,B1,b1,b2,b3,b4,b5⟩:=rd.swap nC ed;cases b2 with
 |flat f' r=>simp[flat]at f'
 |@lst _ q ws Bq hq rq=>
  have qC:q∈C0:=b3 q (OU ..);have qA:q∈A1:=(VA q qC).1;have qp:p≠q:=λz=>pC (z▸qC);have jC:pj∉C0:=λz=>(VA pj z).2 (O1.mpr rfl);have qj:pj≠q:=λz=>jC (z▸qC);refine⟨p,dx,vs,q,ws,pj,a1,s1,hp,mB ef b1,hq,rq.length,?_⟩;generalize W9:L2.upd H q (.lst (ws++[.ref pj]))=H2;have u1:∀b,b≠q->H2 b=H b:=λb n=>by rw[<-W9];exact aC n
  have u2:H2 q=Qs (.lst (ws++[.ref pj])):=by rw[<-W9];exact aM
  have S1:TJ (ag (A1++([pj]++F)) H) (ag (A1++([pj]++F)) H2):=λb o h=>by obtain⟨n,h⟩:=bN h;exact aU (by rw[u1 b λz=>n (z▸OR _ qA)];assumption) n
  have n1:=O7.mp b4;have rj2:UC K (ag (A1++([pj]++F)) H2) H2 (.lst xs) (.ref pj) [pj]:=.lst (by rw[u1 _ qj];assumption) (Uq.zar fl (TZ.mono S1 rj));have rq2:Uq K (ag (A1++([pj]++F)) H2) H2 rows ws Bq:=Uq.mono S1 rq λb hb o h=>by rw[u1 b λz=>n1.1 (z▸hb)];assumption
  obtain⟨C',c1,c2,c3⟩:=b5 _ H2 (.lst (rows++[.lst xs])) (.ref q) (q::(Bq++[pj])) S1 (.lst u2 (Uq.snoc rj2 rq2)) (O7.mpr ⟨λz=>(OT.mp z).elim n1.1 λw=>qj (O1.mp w).symm,O4.mpr ⟨n1.2,by simp,λx hx y hy e=>by
   simp_all⟩⟩) (λb hb=>by
    rcases OZ.mp hb with z|z
    .exact .inl (z▸OU ..)
    .rcases OT.mp z with z|z
     .exact .inl (OS _ z)
     .simp_all) (λb hb n o h=>by simp_all)
  rw[qH b1]at c1;have VU:∀b∈C',b∈C0\/b∈[pj]:=λb hb=>by
   rcases c3 b hb with z|z
   .rcases OZ.mp z with z|z
    .exact .inl (z▸qC)
    .rcases OT.mp z with z|z
     .exact .inl (b3 b (OS _ z))
     .exact .inr z
   .exact .inl z.1
  have sub:TJ (ag (A1++([pj]++F)) H2) (ag ((p::(C0++C'))++(A1++([pj]++F))) H2):=aS H2 λb hb=>by
   rcases OT.mp hb with z|z
   .rcases OZ.mp z with z|z
    .rw[z];exact OR _ pA
    .rcases OT.mp z with z|z
     .exact OR _ (VA b z).1
     .rcases VU b z with z|z
      .exact OR _ (VA b z).1
      .exact OP _ (OR _ z)
   .assumption
  obtain⟨A2,d1,d2⟩:=fin H2 ns vs (ds.set j (.lst (rows++[.lst xs]))) C' (λb o n nC' _ h=>by rw[u1 b λz=>nC' (z▸qC)];assumption) (by rw[u1 p qp];assumption) hl c2 (λz=>(VU p z).elim pC pZ) (λb hb=>(VU b hb).imp id .inl) (Uq.mono sub c1 λ_ _ _ w=>w);refine⟨A2,d1,λb o n h=>by rw[u1 b λz=>n (z▸za7 q qA)];assumption,λb hb=>?_,λb hb=>?_⟩
  .by_cases z:b=q
   .lia
   .obtain⟨o,w⟩:=R.mu b (OR _ hb);rw[u1 b z,w];simp
  .rcases d2 b hb with z|z|z
   .exact .inl (za7 b z)
   .simp_all
   .exact .inr z
section
variable {X:Cx}{F:Ql XW}{I:Ql Nat}{C:XW}{f:Str}
def tL(i k:Nat)(C:XW)(f:Str):DS:=λt=>match t[i]?,t[k]? with
 |some (.dp (.obj C' ns ds)),Qs (.own xs)=>if C'=C/\k≠i/\UD xs=Qt then(aW f ns).bind λj=>match ds[j]? with
  |some (.lst rows)=>if rows.length<100000 then Qs (.nx ((t.set k .no).set i (.dp (.obj C ns (ds.set j (.lst (rows++[.lst xs]))))))) else Qn
  |_=>Qn else Qn
 |_,_=>Qn
def JA(i k:Nat){x y:Str}{p0 p1 p2:Pos}(c:Vh X.K C)(n:UH X.K C f)(hN:X.N[i]?=Qs x:=by rfl)(hv:autoParam (cJ X.env.scope x) qzA._auto_1)(hd:Vf x:=by decide)(UY:VX x:=by decide) (hN':X.N[k]?=Qs y:=by rfl) (ZX:autoParam (cJ X.env.scope y) qzA._auto_1) (Yb:Vf y:=by decide) (zix:VX y:=by decide) (Zs:attributeBase (.Name x p0) f X.env (eval (.Name x p0) X.env)=eval (.Name x p0) X.env:=by rfl) (U6:Pc [.Name y p2] X.env=[(Qf,eval (.Name y p2) X.env)]:=by rfl) (WQ:attributeBase (.Attribute (.Name x p0) f p1) "append" X.env (eval (.Attribute (.Name x p0) f p1) X.env)=eval (.Attribute (.Name x p0) f p1) X.env:=by rfl) (Yz:((Rc UR (Pc [.Name y p2] X.env)).all (λx=>!x.1)&&(backToKw UR (keywordEach [] X.env)).all (λx=>x.1.isSome)
   && decide ([Expr.Name y p2].length+([]:Ql Tg).length+(if([]:Ql Tg).isEmpty then 0 else 1)<30))=Qt:=by rfl) (WM:(apos.endLine==UR.line)=Qt:=by rfl) (X9:(Rc UR (Pc [] X.env)).any (·.1)=Qf:=by rfl) (VW:swapsWith (.Call (.Attribute (.Attribute (.Name x p0) f p1) "append" apos) [.Name y p2] [] UR) Qn pos.line X.env=pure Qf:=by rfl):PS X (.Expr (.Call (.Attribute (.Attribute (.Name x p0) f p1) "append" apos) [.Name y p2] [] UR) pos) (dP X.K F I (tL i k C f)):=by
 refine PS.imp (jW (rL QB QM Q5 oh (kR (dg hN hv hd UY) Zs) (fj (dg hN' ZX Yb zix) fJ U6) WQ Yz WM U6 X9) VW) ?_;rintro E σ H ⟨A,t,t2,R,e,h⟩;unfold tL at e;split at e
 case h_2=>cases e
 rename_i C' ns ds xs z1 z2;replace e:=Vm e;obtain⟨ok,e⟩:=e;obtain⟨rfl,ne,fl⟩:=ok;rcases e2:aW f _ with _|j
 .rw[e2]at e;cases e
 rw[e2]at e;simp at e;split at e
 case h_2=>cases e
 rename_i rows z3;replace e:=Vm e;obtain⟨_,e⟩:=e;cases e;obtain⟨p,dx,vs,q,ws,pj,a1,a2,a3,a4,a5,a6,A2,b1,b2⟩:=R.zjb ne z1 z2 fl e2 z3;refine⟨_,a1,p,C',dx,_,_,rfl,a3,c,n,a4,.inl ⟨rfl,ws,Ux.of a5⟩,_,a2,q,ws,_,rfl,rfl,a5,?_,h _ _ _ b2 b1 λ_ _=>rfl⟩;exact O9 (show ws.length<100000 by lia) (by decide)
end
end DL
namespace PySem.SeqAt
open PySem.Spec
open MeetsSeq MeetsSeq2 MeetsSeq3
def YD(z:Bool)(e c:Nat->Bool):Ql Nat->Bool
 |[]=>z
 |j::r=>if e j then YD z e c r else c j
theorem LH(l b:XW)(items VF:Array Pl)(n n2:Nat)(dd dd2:Qo XW)(sl ZN:Array (Qo Pl))(e c:Nat->Bool)(k:Nat):∀i:Nat,min items.size VF.size-i=k->i<=min items.size VF.size->Meets (Builtin.«list.__eq__.loop» ⟨[.ref l,.ref b,rawInt i,rawInt 0],[]⟩) (λA R s=>s.heap.get? l=Qs {cls:=.type "list",dict:=dd,data:=.seq items n,slots:=sl}/\s.heap.get? b=Qs {cls:=.type "list",dict:=dd2,data:=.seq VF n2,slots:=ZN}/\ (∀j (h1:j<items.size) (h2:j<VF.size),EqAt A.in1 s items[j] VF[j] (e j))/\(∀j (h1:j<items.size) (h2:j<VF.size),e j=Qf->FL .Lt A.in1 s items[j] VF[j] (c j))/\R (.ok (.ret (.bool (YD (decide (items.size<VF.size)) e c ((P0 (min items.size VF.size)).drop i))))) s):=by
 induction k with
 |zero=>
  intro i hk hi prog w A R s h;obtain⟨hp,g,d,tk,os⟩:=s;obtain⟨hl,hb,he,Y2,h⟩:=h;have hd:(P0 (min items.size VF.size)).drop i=[]:=by simp;lia
  rw[hd]at h
  wp_walk using wpAny_loadPart' hl,wpAny_loadPart' hb
  by_cases h1:i<items.size
  .have Z4:items[(i:Int).toNat]?=Qs items[i]:=by simp[h1]
   have Zo:VF[(i:Int).toNat]?=Qn:=by simp;lia
   rw[Z4,Zo]
   wp_walk using wpAny_loadPart' _,wpAny_loadPart' _
   assumption
  .have Z4:items[(i:Int).toNat]?=Qn:=by simp;lia
   rw[Z4]
   wp_walk using wpAny_loadPart' _,wpAny_loadPart' _
   assumption
 |succ k ih=>
  intro i hk hi prog w A R s h;obtain⟨hp,g,d,tk,os⟩:=s;obtain⟨hl,hb,he,Y2,h⟩:=h
  wp_walk using wpAny_loadPart' hl,wpAny_loadPart' hb
  have hm:i<min items.size VF.size:=by lia
  have Xf:i<items.size:=by lia
  have zcD:i<VF.size:=by lia
  have Z4:items[((i:Nat):Int).toNat]?=Qs items[i]:=by simp[Xf]
  have Zo:VF[((i:Nat):Int).toNat]?=Qs VF[i]:=by simp[zcD]
  have hd:(P0 (min items.size VF.size)).drop i=i::(P0 (min items.size VF.size)).drop (i+1):=by simp[Qm,hm]
  have hc:((i:Int)+1)=((i+1:Nat):Int):=by push_cast;rfl
  rw[hd,YD]at h;rw[Z4,Zo];refine OX (he i Xf zcD prog w _ _ ?_);cases XI:e i with
  |true=>
   rw[XI]at h
   wp_walk
   rw[hc];exact⟨plainId_quiet plain_eq_loop _,codeAny_builtin entry_eq_loop (by
    rw[Around.under_plainId plain_eq_loop _];exact ih (i+1) (by lia) (by lia) prog w A R _ ⟨hl,hb,he,Y2,by simpa using h⟩)⟩
  |false=>
   rw[XI]at h
   wp_walk using wpAny_loadPart' hl,wpAny_loadPart' hb
   rw[Z4,Zo];refine OX (Y2 i Xf zcD XI prog w _ _ ?_)
   wp_walk
   simpa using h
theorem zhg(l b:XW)(items VF:Array Pl)(n n2:Nat)(dd dd2:Qo XW)(sl ZN:Array (Qo Pl))(e c:Nat->Bool):Meets (Builtin.«list.__lt__» ⟨[.ref l,.ref b],[]⟩) (λA R s=>s.heap.get? l=Qs {cls:=.type "list",dict:=dd,data:=.seq items n,slots:=sl}/\s.heap.get? b=Qs {cls:=.type "list",dict:=dd2,data:=.seq VF n2,slots:=ZN}/\ (∀j (h1:j<items.size) (h2:j<VF.size),EqAt A.in1 s items[j] VF[j] (e j))/\(∀j (h1:j<items.size) (h2:j<VF.size),e j=Qf->FL .Lt A.in1 s items[j] VF[j] (c j))/\R (.ok (.ret (.bool (YD (decide (items.size<VF.size)) e c (P0 (min items.size VF.size)))))) s):=by
 intro prog w A R s h;obtain⟨hl,hb,he,Y2,h⟩:=h;have f3:=AutoSeq1.sub_list_list
 wp_walk using wpAny_loadPart' hl,wpAny_loadPart' hb
 exact⟨plainId_quiet plain_eq_loop _,codeAny_builtin entry_eq_loop (by
  exact LH l b _ _ n _ _ _ _ _ e c _ 0 rfl (QR _) _ w A R _ ⟨hl,hb,he,Y2,h⟩)⟩
end PySem.SeqAt
namespace TS
noncomputable def bz:Ql Int->Ql Int->Bool
 |[],[]=>Qf
 |[],_::_=>Qt
 |_::_,[]=>Qf
 |a::as,b::bs=>if a=b then bz as bs else decide (a<b)
theorem oy:∀xs:Ql Int,bz xs xs=Qf
 |[]=>rfl
 |a::as=>by simp only[bz,if_true];exact oy _
theorem sg:∀{xs ys zs:Ql Int},bz xs ys=Qt->bz ys zs=Qt->bz xs zs=Qt
 |[],[],_,h,_=>‹_›
 |[],_::_,[],_,h=>‹_›
 |[],_::_,_::_,_,_=>rfl
 |_::_,[],_,h,_=>by cases h
 |_::_,_::_,[],_,h=>‹_›
 |a::as,b::bs,c::cs,h1,h2=>by
  simp only[bz]at h1 h2 ⊢;by_cases e1:a=b
  .subst e1;rw[T4 rfl]at h1;by_cases e2:a=c
   .subst e2;rw[T4 rfl]at h2 ⊢;exact sg h1 h2
   .rw[Um e2]at h2 ⊢;assumption
  .rw[Um e1]at h1;have l1:a<b:=of_decide_eq_true h1;by_cases e2:b=c
   .simp_all
   .rw[Um e2]at h2;have l2:=of_decide_eq_true h2;rw[Um (by lia)];exact UN (by lia)
theorem ox:∀{xs ys:Ql Int},xs≠ys->bz xs ys=Qf->bz ys xs=Qt
 |[],[],n,_=>absurd rfl n
 |[],_::_,_,h=>by cases h
 |_::_,[],_,_=>rfl
 |a::as,b::bs,n,h=>by
  simp only[bz]at h ⊢;by_cases e:a=b
  .subst e;rw[T4 rfl]at h ⊢;exact ox (λz=>n (by rw[z])) h
  .lia
def qW(ls:Ql (Ql Int))(x:Ql Int):Int:=((ls.filter λy=>bz y x).length:Nat)
theorem AN(h:∀z,bz z x=Qt->bz z y=Qt):∀ls:Ql (Ql Int),(ls.filter λz=>bz z x).length<=(ls.filter λz=>bz z y).length
 |[]=>O5 _
 |l::ls=>by
  have i:=AN h ls
  grind
theorem vL(YW:bz x y=Qt):∀{ls:Ql (Ql Int)},x∈ls->(ls.filter λz=>bz z x).length<(ls.filter λz=>bz z y).length
 |l::ls,m=>by
  have tr:∀z,bz z x=Qt->bz z y=Qt:=λz q=>sg q YW;simp only[QH];rcases OZ.mp m with e|m
  .subst e;have i:=AN tr ls;rw[oy,YW];simp;lia
  .have i:=vL YW m
   grind
def Ie(mx:x∈ls)(my:y∈ls):decide (qW ls x<qW ls y)=bz x y:=by
 unfold qW;cases e:bz x y with
 |true=>have:=vL e mx;exact UN (by lia)
 |false=>
  refine VN ?_;by_cases z:x=y
  .subst z;lia
  .have:=vL (ox z e) my;lia
theorem Et:∀l:Ql Nat,SeqAt.YD z e c (l.map f)=SeqAt.YD z (λj=>e (f j)) (λj=>c (f j)) l
 |[]=>rfl
 |j::l=>by simp only[Pa,SeqAt.YD,Et l]
theorem Eu:∀is js:Ql Int,SeqAt.YD (decide (is.length<js.length)) (λj=>decide (is.getD j 0=js.getD j 0)) (λj=>decide (is.getD j 0<js.getD j 0)) (P0 (min is.length js.length))=bz is js
 |[],[]=>rfl
 |[],_::_=>rfl
 |_::_,[]=>rfl
 |a::as,b::bs=>by
  have i:=Eu as bs;have hm:min (a::as).length (b::bs).length=min as.length bs.length+1:=by simp
  rw[hm,List.range_succ_eq_map];simp only[SeqAt.YD,Et,bz]
  simp_all
def lM(h:XX)(a:XW)(is:Ql Int):Prop:=∃T5:Ql Pl,h.IsList a T5.toArray/\IntsAre T5 is
theorem oK:∀{vs:Ql Pl}{ns:Ql Int},IntsAre vs ns->∀(j:Nat) (h:j<vs.length),∃t,vs[j]=.int (ns.getD j 0) t
 |_,_,.nil,j,h=>by simp at h
 |_,_,.cons n t r,0,h=>⟨t,rfl⟩
 |_,_,.cons n t r,j+1,h=>by obtain⟨t',e⟩:=oK r j (by simpa using h);exact⟨t',e⟩
theorem oJ:∀{vs:Ql Pl}{ns:Ql Int},IntsAre vs ns->vs.length=ns.length
 |_,_,.nil=>rfl
 |_,_,.cons n t r=>by simp[oJ r]
section
variable {prog:Qz}{w:RZ}{A:QP}{E:Pl->Pf->Prop}{s:Pf}
def Nx(hl:lM s.heap l is)(hb:lM s.heap b js)(ne:is≠js)(hu:A.units<cLine)(hlb:l≠b):SeqAt.EqAt A s (.ref l) (.ref b) Qf:=by
 obtain⟨v1,a1,a2⟩:=hl;obtain⟨v2,b1,b2⟩:=hb;have l1:=oJ a2;have l2:=oJ b2;refine SeqAt.EqAt.of_refs hlb ?_;by_cases hz:is.length=js.length
 .have k:=SeqAt.RcAt.lists (e:=λj=>decide _) a1 b1 (by simp;lia) hu (λj g1 g2=>by
   obtain⟨t1,e1⟩:=oK a2 j _;obtain⟨t2,e2⟩:=oK b2 j _;have Y6:v1.toArray[j]=.int _ _:=e1;have e2':v2.toArray[j]=.int _ _:=e2;rw[Y6,e2'];exact λprog w E Q h=>wpAny_eqBool_int h)
  have:((P0 v1.toArray.size).all λj=>decide (is.getD j 0=js.getD j 0))=Qf:=by
   cases q:(P0 _).all _ with
   |false=>rfl
   |true=>
    refine absurd (Rx hz λj h1 h2=>?_) ne
    simp_all
  rw[this]at k;assumption
 .exact SeqAt.RcAt.lists_lengths a1 b1 (by simp;lia) hu
def Kq(hl:lM s.heap l is)(hb:lM s.heap b js)(hu:A.units+2<cLine)(h:Q (bz is js) s):wpAny (model prog w) A (oneLt' Qt (.ref l) (.ref b)) Q E s:=by
 obtain⟨v1,a1,a2⟩:=hl;obtain⟨v2,b1,b2⟩:=hb;have l1:=oJ a2;have l2:=oJ b2;rw[<-Eu]at h;obtain⟨⟨cls,dd,data,sl⟩,ho,hc1,n,hd⟩:=id a1;obtain⟨⟨zjG,dd2,data2,ZN⟩,Yw,XH,n2,hd2⟩:=id b1;simp only at hc1 hd XH hd2;subst hc1 hd XH hd2;have at1:∀j (g1:j<v1.toArray.size),∃t,v1.toArray[j]=.int (is.getD j 0) t:=λj g1=>by obtain⟨t,e⟩:=oK a2 j (g1);exact⟨t,e⟩
 have at2:∀j (g1:j<v2.toArray.size),∃t,v2.toArray[j]=.int (js.getD j 0) t:=λj g1=>by obtain⟨t,e⟩:=oK b2 j (g1);exact⟨t,e⟩
 rw[oneLt'_eq];simp only[if_true];refine OX (wpAny_cRoomFor (by lia) ?_);refine OX (wpAny_callSpecialIfBound?_slot ⟨_,ho,rfl⟩ Ta (call_meets Ta ⟨_,ho,rfl⟩ PySem.F.entry_list_lt (PySem.F.args_list_lt_2 _ _) (SeqAt.zhg l b v1.toArray v2.toArray n n2 dd dd2 sl ZN (λj=>decide (is.getD j 0=js.getD j 0)) (λj=>decide (is.getD j 0<js.getD j 0))) ⟨ho,Yw,λj g1 g2=>?_,λj g1 g2 _=>?_,?_⟩))
 .obtain⟨t1,e1⟩:=at1 j g1;obtain⟨t2,e2⟩:=at2 j g2;rw[e1,e2];exact λprog w E Q h=>wpAny_eqBool_int h
 .obtain⟨t1,e1⟩:=at1 j g1;obtain⟨t2,e2⟩:=at2 j g2;rw[e1,e2];exact λprog w E Q h=>CmpOf.ints_lt (λn=>if n=0 then is.getD j 0 else js.getD j 0) (λ_ _ h=>h) 0 1 _ _ _ _ _ ⟨t1,rfl⟩ ⟨t2,rfl⟩ h
 .refine wpAny_truthy_bool ?_
  simp_all
end
def Vg(f:Nat->Int)(N:Nat){α:Type}(Q:α->Prop):Sz α->Prop
 |.ret a=>Q a
 |.ask i j k=>i<N/\j<N/\Vg f N Q (k (decide (f i<f j)))
section
variable {f:Nat->Int}{N:Nat}{α β:Type}{p:Array Nat}
theorem Vg.bind:∀{t:Sz α}{R:α->Prop},Vg f N R t->(∀a,R a->Vg f N Q (g a))->Vg f N Q (t.bind g)
 |.ret a,_,h,k=>k a h
 |.ask _ _ _,_,h,k=>⟨h.1,h.2.1,Vg.bind h.2.2 k⟩
theorem Vg.wp(hc:∀i j C,i<N->j<N->C (decide (f i<f j)) s->cmp i j C s)(hG:∀a,Q a->G a s):∀{t:Sz α},Vg f N Q t->t.kasWp cmp G s
 |.ret a,h=>hG a h
 |.ask i j k,h=>hc i j _ h.1 h.2.1 (Vg.wp hc hG h.2.2)
theorem Vg.ask{k:Bool->Sz α}(hi:i<N)(hj:j<N)(h1:f i<f j->Vg f N Q (k Qt))(h2:¬f i<f j->Vg f N Q (k Qf)):Vg f N Q (.ask i j k):=⟨hi,hj,by lia⟩
theorem Vg.mono(k:∀a,Q a->Q' a):∀{t:Sz α},Vg f N Q t->Vg f N Q' t
 |.ret a,h=>k a h
 |.ask _ _ _,h=>⟨h.1,h.2.1,Vg.mono k h.2.2⟩
def VR(N:Nat)(p:Array Nat):Prop:=p.toList.Perm (P0 N)
def VR.sz(h:VR N p):p.size=N:=by simpa using h.length_eq
def VR.lt(h:VR N p)(i:Nat)(hi:i<N):p.getD i 0<N:=by
 have XG:i<p.size:=by rw[h.sz];assumption
 refine Qq.mp (h.mem_iff.mp ?_);simp[U7,XG]
def VR.inj(h:VR N p)(i j:Nat)(hi:i<N)(hj:j<N)(e:p.getD i 0=p.getD j 0):i=j:=by
 have z:=h.sz;have nd:=QK.mp (h.nodup_iff.mpr Ug);simp only[U7,show i<p.size by lia,show j<p.size by lia,dite_true]at e;rcases TV i j with l|l|l
 .simp_all
 .assumption
 .exact absurd e.symm (nd j i _ _ l)
def bA(f:Nat->Int)(p:Array Nat)(i:Nat):Int:=f (p.getD i 0)
def Xl(f:Nat->Int)(p:Array Nat)(k:Nat):Prop:=∀i j,i<j->j<k->bA f p i<bA f p j
def ZE(f:Nat->Int)(p:Array Nat)(k:Nat):Prop:=∀i j,i<j->j<k->bA f p j<bA f p i
def VR.ne(h:VR N p)(hf:∀i j,i<N->j<N->f i=f j->i=j)(hi:i<N)(hj:j<N)(n:i≠j):bA f p i≠bA f p j:=λe=>n (h.inj i j hi hj (hf _ _ (h.lt i hi) (h.lt j hj) e))
def Xl.snoc(h:Xl f p n)(n1:1<=n)(l:bA f p (n-1)<bA f p n):Xl f p (n+1):=λi j a b=>by
 by_cases z:j=n
 .subst z;by_cases y:i=j-1
  .rw[y];assumption
  .have:=h i (j-1) (by lia) (by lia);lia
 .exact h i j a (by lia)
def ZE.snoc(h:ZE f p n)(n1:1<=n)(l:bA f p n<bA f p (n-1)):ZE f p (n+1):=λi j a b=>by
 by_cases z:j=n
 .subst z;by_cases y:i=j-1
  .rw[y];assumption
  .have:=h i (j-1) (by lia) (by lia);lia
 .exact h i j a (by lia)
theorem xt(hp:VR N p)(hf:∀i j,i<N->j<N->f i=f j->i=j):∀(fu n:Nat),1<=n->n+fu<=N->Xl f p n->Vg f N (λm=>n<=m/\m<=n+fu/\Xl f p m/\(m<n+fu->bA f p m<bA f p (m-1))) (PySem.W.kas_asc p fu n)
 |0,n,n1,h,u=>⟨O5 _,O5 _,u,λz=>absurd z (by lia)⟩
 |fu+1,n,n1,h,u=>by
  refine Vg.ask (hp.lt _ (by lia)) (hp.lt _ (by lia)) (λc=>?_) λc=>?_
  .exact⟨O5 _,by lia,u,λ_=>c⟩
  .have ne:bA f p n≠bA f p (n-1):=hp.ne hf (by lia) (by lia) (by lia);have r:=xt hp hf fu _ (by lia) (by lia) (u.snoc n1 (by have c:¬bA f p n<bA f p _:=c;lia));rw[show n+1+fu=n+(fu+1) by lia]at r;exact Vg.mono (λm q=>⟨by lia,q.2⟩) r
theorem Dp(hp:VR N p)(hf:∀i j,i<N->j<N->f i=f j->i=j):∀(fu n:Nat),1<=n->n+fu<=N->ZE f p n->Vg f N (λr=>r.1=p/\r.2.2=0/\n<=r.2.1/\r.2.1<=n+fu/\ZE f p r.2.1) (PySem.W.kas_desc fu p n 0)
 |0,n,n1,h,u=>⟨rfl,rfl,O5 _,O5 _,u⟩
 |fu+1,n,n1,h,u=>by
  refine Vg.ask (hp.lt _ (by lia)) (hp.lt _ (by lia)) (λc=>?_) λc=>?_
  .have r:=Dp hp hf fu _ (by lia) (by lia) (u.snoc n1 c);rw[show n+1+fu=n+(fu+1) by lia]at r;exact Vg.mono (λm q=>⟨q.1,q.2.1,by lia,q.2.2.2⟩) r
  .have ne:bA f p n≠bA f p (n-1):=hp.ne hf (by lia) (by lia) (by lia);refine Vg.ask (hp.lt _ (by lia)) (hp.lt _ (by lia)) (λ_=>⟨rfl,rfl,O5 _,by lia,u⟩) λd=>absurd ne ?_;have c:¬bA f p n<bA f p _:=c;have d:¬bA f p _<bA f p n:=d;lia
def sj{q:Array Nat}:q.getD i 0=(q[i]?).getD 0:=by simp
def Dm(hp:VR N p)(hn:n<=N)(i:Nat):(Sk p 0 n).getD i 0=p.getD (if i<n then n-1-i else i) 0:=by rw[sj,sj];unfold Sk;rw[getElem?_mirror_all (by rw[hp.sz];assumption)];lia
def Dl(hp:VR N p):VR N (Sk p 0 n):=(QG.mp (mirror_perm _ _ _ _)).trans hp
def Me(hp:VR N p)(hn:n<=N)(d:ZE f p n):Xl f (Sk p 0 n) n:=λi j a b=>by unfold bA;rw[Dm hp hn,Dm hp hn,T4 (by lia),T4 (by assumption)];exact d _ _ (by lia) (by lia)
def OJ(f:Nat->Int)(N:Nat)(r:Nat×Array Nat):Prop:=1<=r.1/\r.1<=N/\VR N r.2/\Xl f r.2 r.1
def Mh(hp:VR N p)(hf:∀i j,i<N->j<N->f i=f j->i=j)(h2:2<=N):Vg f N (OJ f N) (TX N p):=by
 unfold TX;refine Vg.bind (xt hp hf (N-1) 1 (by lia) (by lia) λi j a b=>absurd b (by lia)) λn ⟨n1,n2,u,st⟩=>?_;by_cases z:n=N
 .rw[z,beq_self_eq_true];exact⟨by lia,O5 _,hp,z▸u⟩
 .rw[Um (by simpa using z)];by_cases y:n>1
  .rw[T4 y];exact Vg.ask (hp.lt _ (by lia)) (hp.lt _ (by lia)) (λ_=>⟨n1,by lia,hp,u⟩) λc=>absurd (u 0 _ (by lia) (by lia)) c
  .have en:n=1:=by lia
   subst en;refine Vg.bind (Dp hp hf _ _ (by lia) (by lia) ((show ZE f p 1 from λi j a b=>absurd b (by lia)).snoc (by assumption) (st (by lia)))) ?_;rintro⟨p',m,q⟩ ⟨e1,e2,m1,m2,d⟩;simp only at e1 e2 m1 m2 d;subst e1 e2;have hm:m<=N:=by lia
   exact Vg.bind (xt (Dl hp) hf (N-m) m (by lia) (by lia) (Me hp hm d)) λk ⟨k1,k2,k3,_⟩=>⟨by lia,by lia,Dl hp,k3⟩
theorem xq(hp:VR N p)(hf:∀i j,i<N->j<N->f i=f j->i=j)(hk:k<N):∀(fu l r:Nat),l<=r->r<=k->r-l<=fu->(∀i,i<l->bA f p i<bA f p k)->(∀i,r<=i->i<k->bA f p k<bA f p i)->Xl f p k->Vg f N (λm=>m<=k/\(∀i,i<m->bA f p i<bA f p k)/\∀i,m<=i->i<k->bA f p k<bA f p i) (TY p k fu l r)
 |0,l,r,h1,h2,h3,a,b,u=>⟨by lia,a,λi x y=>b i (by lia) y⟩
 |fu+1,l,r,h1,h2,h3,a,b,u=>by
  unfold TY;by_cases z:l≥r
  .rw[T4 z];exact⟨by lia,a,λi x y=>b i (by lia) y⟩
  .rw[Um z];refine Vg.ask (hp.lt _ hk) (hp.lt _ (by lia)) (λc=>?_) λc=>?_
   .exact xq hp hf hk _ l _ (by lia) (by lia) (by lia) a (λi x y=>by
     have c:bA f p k<bA f p _:=c;by_cases w:i=(l+r)/2
     .rw[w];assumption
     .have:=u ((l+r)/2) i (by lia) y;lia) u
   .exact xq hp hf hk _ _ r (by lia) h2 (by lia) (λi x=>by
     have c:¬bA f p k<bA f p _:=c;have ne:bA f p k≠bA f p ((l+r)/2):=hp.ne hf hk (by lia) (by lia);by_cases w:i=(l+r)/2
     .rw[w];lia
     .have:=u i ((l+r)/2) (by lia) (by lia);lia) b u
def Mf(hp:VR N p)(hk:k<N)(hl:l<=k)(i:Nat):(bubble p k (k-l)).getD i 0=p.getD (if i=l then k else if l<i/\i<=k then i-1 else i) 0:=by
 rw[sj,sj,getElem?_bubble (by rw[hp.sz];assumption) _ (by lia),show k-(k-l)=l by lia];split
 .rfl
 .split<;>rfl
theorem Dq(hf:∀i j,i<N->j<N->f i=f j->i=j):∀(fu k:Nat){p:Array Nat},k+fu=N->VR N p->Xl f p k->Vg f N (λq=>VR N q/\Xl f q N) (Ut fu p k)
 |0,k,p,h,hp,u=>⟨hp,by lia⟩
 |fu+1,k,p,h,hp,u=>by
  unfold Ut;have hk:k<N:=by lia
  refine Vg.bind (xq hp hf hk k 0 k (by simp) (O5 _) (by lia) (λi z=>absurd z (by lia)) (λi z y=>absurd y (by lia)) u) λl ⟨hl,a,b⟩=>?_;have e:=λi=>Mf hp hk hl i;refine Dq hf fu (k+1) (by lia) ((QG.mp (bubble_perm _ _ _)).trans hp) λi j ij jk=>?_;unfold bA;rw[e i,e j];have a':=λi h=>(a i h:f (p.getD i 0)<f (p.getD k 0));have b':=λi h g=>(b i h g:f (p.getD k 0)<f (p.getD i 0));have u':=λi j h g=>(u i j h g:f (p.getD i 0)<f (p.getD j 0));by_cases i1:i=l
  .rw[T4 i1,Um (by lia),T4 (by lia)];exact b' _ (by lia) (by lia)
  .rw[Um i1];by_cases j1:j=l
   .rw[T4 j1,Um (by lia)];exact a' _ (by lia)
   .split<;>split
    .exact u' _ _ (by lia) (by lia)
    .lia
    .exact u' _ _ (by lia) (by lia)
    .exact u' _ _ (by assumption) (by lia)
def Mg(hf:∀i j,i<N->j<N->f i=f j->i=j)(h2:2<=N):Vg f N (λq=>VR N q/\Xl f q N) (Uh N):=by
 have hp:VR N (List.toArray (P0 N)):=QU _;unfold Uh;refine Vg.bind (Mh hp hf h2) ?_;rintro⟨n,q⟩ ⟨n1,n2,hq,u⟩;simp only at n1 n2 hq u;by_cases z:n<N
 .rw[T4 z,show max n 1=n by lia];exact Dq hf _ n (by lia) hq u
 .rw[Um z];have:n=N:=by lia
  exact⟨hq,this▸u⟩
end
end TS
namespace DL
open PySem.Spec L2 TS
def X6{α:Type}(x:Ql Int×α):Ql (Ql Int×α)->Ql (Ql Int×α)
 |[]=>[x]
 |y::ys=>if bz y.1 x.1 then y::X6 x ys else x::y::ys
def Vo{α:Type}:Ql (Ql Int×α)->Ql (Ql Int×α)
 |[]=>[]
 |x::xs=>X6 x (Vo xs)
theorem xU(x:Ql Int×α):∀ys:Ql (Ql Int×α),(X6 x ys).Perm (x::ys)
 |[]=>QU _
 |y::ys=>by
  unfold X6;split
  .exact((xU x _).cons y).trans (To x y _)
  .rfl
theorem W2:∀xs:Ql (Ql Int×α),(Vo xs).Perm xs
 |[]=>QU _
 |x::xs=>(xU x _).trans ((W2 _).cons x)
def zy{α:Type}(xs:Ql (Ql Int×α)):Prop:=xs.Pairwise λx y=>bz y.1 x.1=Qf
def LY(h:bz x y=Qt):bz y x=Qf:=by
 cases e:bz y x with
 |false=>rfl
 |true=>have:=sg h e;rw[oy]at this;cases this
def LX(h1:bz y x=Qf)(h2:bz z y=Qf):bz z x=Qf:=by
 cases e:bz z x with
 |false=>rfl
 |true=>
  by_cases q:x=y
  .lia
  .have:=ox (λw=>q w.symm) h1;rw[sg e this]at h2;assumption
theorem DU(x:Ql Int×α):∀{ys:Ql (Ql Int×α)},zy ys->zy (X6 x ys)
 |[],_=>Qe _ _
 |y::ys,h=>by
  have h':=Pw.mp h;unfold X6;split
  .rename_i c;refine Pw.mpr ⟨λz hz=>?_,DU x h'.2⟩;rcases OZ.mp ((xU x _).mem_iff.mp hz) with e|m
   .rw[e];exact LY c
   .exact h'.1 z m
  .rename_i c;have c:=by simpa using c
   refine Pw.mpr ⟨λz hz=>?_,h⟩;rcases OZ.mp hz with e|m
   .rw[e];assumption
   .exact LX c (h'.1 z m)
theorem zba:∀xs:Ql (Ql Int×α),zy (Vo xs)
 |[]=>List.Pairwise.nil
 |x::xs=>DU x (zba _)
theorem zb3{α:Type}{f:α->Ql Int}:∀{xs ys:Ql α},xs.Perm ys->(∀a∈xs,∀b∈xs,f a=f b->a=b)->(xs.Pairwise λx y=>bz (f y) (f x)=Qf)->(ys.Pairwise λx y=>bz (f y) (f x)=Qf)->xs=ys
 |[],ys,p,_,_,_=>by rw[List.nil_perm.mp p]
 |x::xs,[],p,_,_,_=>absurd p.length_eq (by simp)
 |x::xs,y::ys,p,inj,h1,h2=>by
  have c1:=Pw.mp h1;have c2:=Pw.mp h2;have m2:=p.mem_iff.mpr (OU ..);have e:=by
   have a1:bz (f x) (f y)=Qf:=by
    rcases OZ.mp (p.mem_iff.mp (OU ..)) with z|z
    .rw[z];exact oy _
    .exact c2.1 x z
   have a2:bz (f y) (f x)=Qf:=by
    grind
   refine inj x (OU ..) y m2 ?_;by_cases q:f x=f y
   .assumption
   .have:=ox q a1;lia
  subst e;rw[zb3 (Su p) (λa ha b hb=>inj a (OS _ ha) b (OS _ hb)) c1.2 c2.2]
theorem DV(g:α->β)(x:Ql Int×α):∀ys:Ql (Ql Int×α),X6 (x.1,g x.2) (ys.map λw=>(w.1,g w.2))=(X6 x ys).map λw=>(w.1,g w.2)
 |[]=>rfl
 |y::ys=>by
  simp only[Pa,X6];split
  .rw[DV g x _];rfl
  .rfl
theorem iY(g:α->β):∀xs:Ql (Ql Int×α),Vo (xs.map λw=>(w.1,g w.2))=(Vo xs).map λw=>(w.1,g w.2)
 |[]=>rfl
 |x::xs=>by simp only[Pa,Vo];rw[iY g _];exact DV g x _
theorem zd1{α β:Type}{g:α->β}:∀{xs:Ql α},(xs.map g).Nodup->∀a∈xs,∀b∈xs,g a=g b->a=b
 |[],_,a,ha,_,_,_=>nomatch ha
 |x::xs,h,a,ha,b,hb,e=>by
  have n:=O7.mp h;rcases OZ.mp ha with p|p
  .grind
  .rcases OZ.mp hb with q|q
   .simp_all
   .exact zd1 n.2 a p b q e
end DL
namespace TS
def XB(h:XX)(a:XW)(is:Ql Int):Prop:=∃o l v n,h.get? a=Qs o/\o.cls=.type "tuple"/\o.data=.seq #[.ref l,v] n/\lM h l is
theorem DQ:∀{vs:Ql Pl}{ns ms:Ql Int},IntsAre vs ns->IntsAre vs ms->ns=ms
 |_,_,_,.nil,.nil=>rfl
 |_,_,_,.cons n t r,.cons _ _ r'=>by rw[DQ r r']
def LU(a:lM h l is)(b:lM h l js):is=js:=by
 obtain⟨v1,⟨o,e,c,n,d⟩,a2⟩:=a;obtain⟨v2,⟨o',e',c',n',d'⟩,b2⟩:=b;rw[e]at e';cases e';rw[d]at d';have:v1=v2:=by lia
 subst this;exact DQ a2 b2
def XB.off{bs:Ql XW}(x:XB h b is)(ho:h.get? a=Qs (seqObj "list" (bs.map Ph).toArray n))(mb:b∈bs)(k:∀c o,c≠a->h.get? c=Qs o->h'.get? c=Qs o):XB h' b is:=by
 obtain⟨o,l,v,m,e,c,d,T5,⟨o2,e2,c2,n2,d2⟩,ia⟩:=x;exact⟨o,l,v,m,k b o (λz=>by
  lia) e,c,d,T5,⟨o2,k l _ (λz=>by
  rw[z,ho]at e2;cases Qp e2;have z1:bs.map Ph=T5:=by lia
  cases bs with
  |nil=>cases mb
  |cons b0 bs=>
   subst z1;cases ia) e2,c2,n2,d2⟩,ia⟩
section
variable {prog:Qz}{w:RZ}{A:QP}{E:Pl->Pf->Prop}{s:Pf}{zs:Ql (Ql Int×XW)}{i j:Nat}
def zA(zs:Ql (Ql Int×XW))(i:Nat):Ql Int×XW:=zs.getD i ([],0)
def jR(zs:Ql (Ql Int×XW))(i:Nat):Int:=qW (zs.map (·.1)) (zA zs i).1
def pW(h:i<zs.length):zA zs i∈zs:=by
 unfold zA
 simp_all
def qU(hi:i<zs.length)(hj:j<zs.length):decide (jR zs i<jR zs j)=bz (zA zs i).1 (zA zs j).1:=Ie (Sf (pW hi)) (Sf (pW hj))
def zT(nd:(zs.map (·.1)).Nodup)(hi:i<zs.length)(hj:j<zs.length)(e:(zA zs i).1=(zA zs j).1):i=j:=by
 have p:=QK.mp nd;unfold zA at e;rcases TV i j with l|l|l
 .simp_all
 .assumption
 .exact absurd (by simp_all) (p j i (by simpa using hj) (by simpa using hi) l)
def uq(h:i<zs.length):((zs.map (·.2)).map Ph).getD i Sr=.ref (zA zs i).2:=by unfold zA;simp[h]
def OA(nd:(zs.map (·.1)).Nodup)(hu:A.units+2<cLine)(hk:∀z∈zs,XB s.heap z.2 z.1)(i j:Nat)(C:Bool->Pf->Prop)(hi:i<zs.length)(hj:j<zs.length)(h:C (decide (jR zs i<jR zs j)) s):Uu prog w A (tuples' Qt) ((zs.map (·.2)).map Ph) i j C s:=by
 rw[qU hi hj]at h;obtain⟨o,l,v,n,g,c,d,la⟩:=hk _ (pW hi);unfold Uu;rw[uq hi,uq hj];by_cases z:i=j
 .subst z;rw[oy]at h;exact Tt g d g d (Ry (SeqAt.EqAt.same _ _ w _ _ (Sj (Ry (SeqAt.EqAt.same _ _ w _ _ (Sj (Ur (h))))))))
 .obtain⟨o',l',v',n',g',c',d',lb⟩:=hk _ (pW hj);have ne:=λe=>z (zT nd hi hj e);exact Tt g d g' d' (Ry (Nx la lb ne (by lia) (λq=>ne (LU la (q▸lb))) _ w _ _ (Tu (Kq la lb hu h))))
def Ib(nd:(zs.map (·.1)).Nodup)(i j:Nat)(hi:i<zs.length)(hj:j<zs.length)(e:jR zs i=jR zs j):i=j:=by have a:=qU hi hj;have b:=qU hj hi;rw[e]at a b;refine PB λn=>?_;have:=ox (λq=>n (zT nd hi hj q)) (by simp_all);lia
def FW(nd:(zs.map (·.1)).Nodup)(hp:VR zs.length p)(u:Xl (jR zs) p zs.length):p.toList.map (zA zs)=DL.Vo zs:=by
 have pz:(p.toList.map (zA zs)).Perm zs:=by
  have:=hp.map (zA zs);have e:(P0 zs.length).map (zA zs)=zs:=Rx (by simp) λi a b=>by simp[zA,b]
  lia
 refine DL.zb3 (pz.trans (DL.W2 _).symm) (λa ha b hb e=>DL.zd1 nd a (pz.mem_iff.mp ha) b (pz.mem_iff.mp hb) e) ?_ (DL.zba _);rw[Qj,QK];intro i j hi hj l;have sz:=hp.sz;have XG:i<p.size:=hi;have Z3:j<p.size:=hj;have k:=u i j l (by lia);unfold bA at k;have l1:=hp.lt i (by lia);have l2:=hp.lt j (by lia);simp only[U7,XG,Z3,dite_true]at k l1 l2;have q:=qU l2 l1;rw[VN (by lia)]at q;exact q.symm
theorem CH:∀{zs:Ql (Ql Int×XW)},(∀z∈zs,XB h z.2 z.1)->∃fs:Ql Pl,Us h ((zs.map (·.2)).map Ph) fs/\fs.length=zs.length/\∀v∈fs,∃l o,v=.ref l/\h.get? l=Qs o/\o.cls=.type "list"
 |[],_=>⟨[],.nil,rfl,λv hv=>by cases hv⟩
 |b::bs,ht=>by
  obtain⟨fs,k,l,r⟩:=CH λx hx=>ht x (OS _ hx);obtain⟨o,l1,v1,n,e,c,d,T5,⟨o2,e2,c2,_⟩,_⟩:=ht b (OU ..);refine⟨_,.cons e c d rfl k,by simp[l],λv hv=>?_⟩;rcases OZ.mp hv with z|z
  .exact⟨l1,o2,z,e2,c2⟩
  .exact r v z
def LJ(ho:s.heap.get? a=Qs (seqObj "list" ((zs.map (·.2)).map Ph).toArray n))(ht:∀z∈zs,XB s.heap z.2 z.1)(nd:(zs.map (·.1)).Nodup)(hu:A.units+2<cLine)(hz:zs.length<64)
  (h:P (.done (.ret .none)) { s with heap:=sortedHeap s.heap a ((zs.map (·.2)).map Ph) (((DL.Vo zs).map (·.2)).map Ph).toArray }):wpAny (model prog w) A (Builtin.«list.sort» ⟨[.ref a],[]⟩) P E s:=by
 obtain⟨V,hV⟩:∃V,V=(zs.map (·.2)).map Ph:=⟨_,rfl⟩;have lv:V.length=zs.length:=by rw[hV];simp
 obtain⟨e1,ho1⟩:∃e1,(s.heap.update a (Obj.mapSeq λ_=>(#[]:Array Pl))).get? a=Qs (seqObj "list" #[] e1):=⟨_,get?_update_seq ho λ_ => #[]⟩;rw[<-hV]at ho h;have Yw:(((s.heap.update a (Obj.mapSeq λ_=>(#[]:Array Pl))).push (seqObj "tuple" V.toArray 0)).push (seqObj "list" #[] 0)).get? a=Qs (seqObj "list" #[] e1):=OV _ (OV _ ho1);have ht2:∀z∈zs,XB (((s.heap.update a (Obj.mapSeq λ_=>(#[]:Array Pl))).push (seqObj "tuple" V.toArray 0)).push (seqObj "list" #[] 0)) z.2 z.1:=λz m=>(ht z m).off (bs:=zs.map (·.2)) (by rw[<-hV];assumption) (Sf m) λc o nc e=>OV _ (OV _ ((Pz _ _ (Ne.symm nc)).trans e));rw[list_sort_plain];refine OX (listItems_at ho rfl ?_);refine OX (listUpdate_at ho rfl ?_ (by rw[Pg,sizeLine_eq];lia) (QR _));refine OX (seqEpoch_at ho1 rfl ?_);refine OX (wpAny_newTuple ?_ (by show V.length<=_;rw[sizeLine_eq];lia));refine OX (wpAny_newList ?_ (QR _));refine wpAny_holding ?_;have hv2:V.toArray.size=zs.length:=by assumption
 have q0:((V.toArray.zip V.toArray).map (·.2)).size=zs.length:=by simp[lv]
 by_cases h2:V.toArray.size<2
 .rw[T4 h2,T4 h2];refine OX (O8 ?_);dsimp only;refine OX (O8 ?_);have q3:(V.toArray.zip V.toArray).map (·.2)=(((DL.Vo zs).map (·.2)).map Ph).toArray:=by
   subst hV;rcases zs with _ | ⟨z,_ | ⟨y,zs⟩⟩
   .simp[DL.Vo]
   .simp[DL.Vo,DL.X6]
   .exact absurd h2 (by simp)
  refine OX (seqEpoch_at Yw rfl ?_);refine OX (listUpdate_at Yw rfl ?_ (QR _) (by lia));simp only[bne_self_eq_false,PU,if_false];rw[<-q3]at h;exact O8 h
 .rw[Um h2,Um h2];obtain⟨fs,kt,fl,fi⟩:=CH ht2;rw[<-hV]at kt;refine OX (Ud (T:=.type "list") kt (by lia) (λv hv=>?_) (by rfl) ?_)
  .obtain⟨l,o,rfl,e1,e2⟩:=fi v hv;exact PySem.W.kitAt_ty _ _ ⟨o,e1,e2⟩
  rw[show(Te "list" != Te "tuple")=Qt by rfl];dsimp only;refine OX (wpAny_mono (PySem.W.kat_run (ks:=V) (vs:=V) (Q:=λUk s'=>s'={ s with heap:=((s.heap.update a (Obj.mapSeq λ_=>(#[]:Array Pl))).push (seqObj "tuple" V.toArray 0)).push (seqObj "list" #[] 0) }/\failedOf Uk=Qn/\(Qi Uk).map (·.2)=(((DL.Vo zs).map (·.2)).map Ph).toArray)
   (G:=λp s'=>s'={ s with heap:=((s.heap.update a (Obj.mapSeq λ_=>(#[]:Array Pl))).push (seqObj "tuple" V.toArray 0)).push (seqObj "list" #[] 0) }/\VR zs.length p/\Xl (jR zs) p zs.length) rfl (by lia) (by lia) (λp Uk s' sz ar fl g=>⟨g.1,fl,?_⟩) (by
    rw[lv];refine Vg.wp (λi j C hi hj hc=>?_) (λq hq=>⟨rfl,hq⟩) (Mg (Ib nd) (by lia));rw[hV];exact OA nd hu (by rw[hV]at ht2;assumption) i j C hi hj (by lia))) ?_ λ_ _ e=>e)
  .rw[PySem.W.kat_snds rfl ar, <-FW nd g.2.1 g.2.2,Pe,Pe];refine congrArg _ (Qd λi hi=>?_);rw[hV];exact uq (Qq.mp (g.2.1.mem_iff.mp hi))
  rintro⟨⟨⟩,Uk⟩ s' ⟨rfl,nf,q3⟩;dsimp only at nf q3 ⊢;refine OX (seqEpoch_at Yw rfl ?_);refine OX (listUpdate_at Yw rfl ?_ (QR _) (by
   rw[q3,Pg,O0,O0,(DL.W2 _).length_eq,sizeLine_eq];lia))
  rw[nf];simp only[bne_self_eq_false,PU,if_false];rw[<-q3]at h;exact O8 h
end
section
variable {prog:Qz}{w:RZ}{A:QP}{E:Pl->Pf->Prop}{s:Pf}
def NU(ho:s.heap.get? p=Qs o)(hc:o.cls=.type "list")(hd:o.data=.seq items n)(hsz:items.size<=PD) (h:∀(h':XX),(∀b o,s.heap.get? b=Qs o->h'.get? b=Qs o)->s.heap.objs.size<=h'.objs.size->R items.toList {s with heap:=h'}):wpAny (model prog w) A (collect (.ref p)) R E s:=by
 unfold collect;refine OX (wpAny_runValue (codeAny_builtin entry_proto_collect' ?_));rw[Around.under_plainId PySem.F.plain_proto_collect _];show wpAny _ A.in1 (newList []>>=λl=>again (.builtin "list.__iadd__" ⟨[l,.ref p],[]⟩)) _ _ s;refine OX (wpAny_newObj_type ?_);refine O8 ⟨plainId_quiet RA _,codeAny_builtin entry_list_iadd' ?_⟩;rw[Around.under_plainId RA _];have g0:(s.heap.push {cls:=.type "list",data:=.seq ([]:Ql Pl).toArray}).get? s.heap.objs.size=Qs {cls:=.type "list",data:=.seq #[] 0}:=Pb _ rfl;have g1:=RQ (Obj.mapSeq (·++items)) g0 rfl;have key:=wpAny_extend_seq (hsz:=hsz) (A:=A) (prog:=prog) (w:=w) (s:={s with heap:=s.heap.push {cls:=.type "list",data:=.seq ([]:Ql Pl).toArray}}) (R:=λ(q:Result) (s':Pf)=>∃(h':XX) (ob:Obj) (m:Nat),q=.ok (.ret (.ref s.heap.objs.size))/\s'={s with heap:=h'}/\ (∀b o,s.heap.get? b=Qs o->h'.get? b=Qs o)/\s.heap.objs.size<=h'.objs.size/\h'.get? s.heap.objs.size=Qs ob/\ob.data=.seq (#[]++items) m)
  s.heap.objs.size p (.ref s.heap.objs.size) 0 (.inl rfl) g0 (OV _ ho) hc hd
  ⟨_,_,_,rfl,rfl,λb o e=>(Pz _ _ (R6 (Pd e))).trans (OV _ e),Rm (Pd g1),g1,rfl⟩
 show wpAny _ A.in1 (Builtin.List.listExtendWith (.ref s.heap.objs.size) (.ref p) (.ref s.heap.objs.size)) _ _ _;have zeR:∀(h':XX) (ob:Obj) (m:Nat),(∀b o,s.heap.get? b=Qs o->h'.get? b=Qs o)->s.heap.objs.size<=h'.objs.size->h'.get? s.heap.objs.size=Qs ob->ob.data=.seq (#[]++items) m->wpAny (model prog w) A (load s.heap.objs.size>>=λo=>match o.data with
   |Data.seq xs _=>pure xs.toList
   |_=>unsupported "internal:collect") R E {s with heap:=h'}:=λh' ob m hk hz hS d=>by refine OX (wpAny_load hS ?_);rw[d];refine O8 ?_;have:=h _ hk hz;simpa using this
 refine wpAny_mono key (λfin s' y=>?_) λe s' y=>?_
 .cases fin with
  |done f=>obtain⟨h',ob,m,e,rfl,hk,hz',Yc,d⟩:=y;cases e;exact zeR _ _ m hk hz' Yc d
  |again c₁=>refine⟨y.1,codeAny_mono y.2 λq s₂ z=>?_⟩;obtain⟨h',ob,m,rfl,rfl,hk,hz',Yc,d⟩:=z;exact zeR _ _ m hk hz' Yc d
 .obtain⟨_,_,_,e',_⟩:=y;cases e'
end
end TS
namespace L2
open PySem.Spec TS
section
variable {X:Cx}
theorem AR:∀out:Ql XW,Vals (out.map V.ref) (out.map Ph)
 |[]=>.nil
 |a::out=>.cons rfl (AR _)
theorem z8:∀{bs:Ql XW}{us:Ql Pl},Vals (bs.map V.ref) us->us=bs.map Ph
 |[],_,.nil=>rfl
 |b::bs,_,.cons h r=>by cases h;rw[z8 r];rfl
def ug(K:OQ)(H:Hp)(b:XW)(is:Ql Int):Prop:=∃l v,H b=Qs (.tup [.ref l,v])/\Ux K H l (is.map V.int)
def Lr{σ:L2.St}(I:Inv X pins σ H s)(h:ug X.K H b is):XB s.heap b is:=by
 obtain⟨l,v,hb,hl⟩:=h;obtain⟨_,T5,rv,o,e,c,d⟩:=((I.UB b _ hb));obtain⟨zhq,rv2,pl,_⟩:=I.list hl;cases rv with
 |cons r1 rv=>
  cases rv with
  |cons r2 rv=>cases rv;cases r1;obtain⟨n,d⟩:=d;exact⟨o,l,_,n,e,c,d,zhq,DL.PlainL.Wa pl,xR rv2⟩
def XB.keep(x:XB h b is)(k:∀c o,h.get? c=Qs o->h'.get? c=Qs o):XB h' b is:=by obtain⟨o,l,v,m,e,c,d,T5,⟨o2,e2,c2⟩,ia⟩:=x;exact⟨o,l,v,m,k b o e,c,d,T5,⟨o2,k l _ e2,c2⟩,ia⟩
def Fs(hu:X.A.units+64<cLine)(hc:X.calm=Qt):gq X (.builtin "sorted") (λxs H Q=>∃(p:XW) (zs:Ql (Ql Int×XW)),xs=[.ref p]/\Ux X.K H p ((zs.map (·.2)).map V.ref)/\zs.length<64/\(∀z∈zs,ug X.K H z.2 z.1)/\(zs.map (·.1)).Nodup/\∀l,H l=Qn->Q (.ref l) (upd H l (.lst (((DL.Vo zs).map (·.2)).map V.ref)))):=by
 intro pins s σ H xs us Q I r h;obtain⟨p,zs,rfl,hp,hb,hm,hd,q⟩:=h;obtain⟨u,rfl,ru⟩:=lU r;cases ru;obtain⟨T5,rv,pl,_⟩:=I.list hp;have ei:=z8 rv;subst ei;have lz:((zs.map (·.2)).map Ph).length=zs.length:=by simp
 have lo:((DL.Vo zs).map (·.2)).length<64:=by rw[O0,(DL.W2 _).length_eq];assumption
 refine Az (P:=λus=>us=(zs.map (·.2)).map Ph) (args_sorted1 _) (λ_=>args_list_sort _) (λR hR=>?_) (λh' tk us hk hz hu' hlen=>?_)
 .obtain⟨o,e,c,n,d⟩:=DL.PlainL.Wa pl;refine NU e c d (by rw[Pg,sizeLine_eq];lia) (λh' hk hz=>?_);have:=hR _ s.toks _ hk hz rfl (by lia);lia
 .subst hu';refine LJ (s:={s with heap:=h'.push (seqObj "list" ((zs.map (·.2)).map Ph).toArray 0),toks:=tk}) (Pb _ rfl) (λb m=>XB.keep (Lr I (hm b m)) λc o z=>OV _ (hk c o z)) hd (by show X.A.units+1+1+2<cLine;lia) hb ⟨rfl,?_⟩;have fr:s.heap.objs.size<=h'.objs.size:=hz;obtain⟨out,ho⟩:∃out,out=(DL.Vo zs).map (·.2):=⟨_,rfl⟩;rw[<-ho]at lo ⊢;have g0:(h'.push (seqObj "list" ((zs.map (·.2)).map Ph).toArray 0)).get? h'.objs.size=Qs (seqObj "list" ((zs.map (·.2)).map Ph).toArray 0):=Pb _ rfl;obtain⟨e1,g1⟩:∃e1,((h'.push (seqObj "list" ((zs.map (·.2)).map Ph).toArray 0)).update h'.objs.size (Obj.mapSeq λ_=>(#[]:Array Pl))).get? h'.objs.size=Qs (seqObj "list" #[] e1):=⟨_,get?_update_seq g0 λ_=>#[]⟩;obtain⟨k,g2⟩:∃k,(sortedHeap (h'.push (seqObj "list" ((zs.map (·.2)).map Ph).toArray 0)) h'.objs.size ((zs.map (·.2)).map Ph) (out.map Ph).toArray).get? h'.objs.size=Qs (seqObj "list" (out.map Ph).toArray k):=⟨_,get?_update_seq (OV _ (OV _ g1)) λ_=>(out.map Ph).toArray⟩;refine⟨.ref _,_,I.laid (o:=HO.lst (out.map V.ref)) (λb o e=>?_) fr ⟨?_,out.map Ph,k,AR out,by lia⟩,rfl,ho▸q _ (I.UB.fresh fr)⟩
  .have e2:=hk b o e;have nb:=R6 (Pd e2);exact(Pz _ _ nb).trans (OV _ (OV _ ((Pz _ _ nb).trans (OV _ e2))))
  .refine DL.X4 ?_;rw[O0];lia
end
end L2
namespace DL
open PySem.Spec L2 TS
def Uq.perm{ps qs:Ql (D×V)}(p:ps.Perm qs):∀{C:Ql XW},Uq K H0 H (ps.map (·.1)) (ps.map (·.2)) C->∃C',C'.Perm C/\Uq K H0 H (qs.map (·.1)) (qs.map (·.2)) C':=by
 induction p with
 |nil=>intro C h;exact⟨C,QU _,h⟩
 |@cons x l1 l2 _ ih=>
  intro C h;cases h with
  |cons a r=>obtain⟨C',p',r'⟩:=ih r;exact⟨_,p'.append_left _,.cons a r'⟩
 |@swap x y l=>
  intro C h;cases h with
  |cons a r=>
   cases r with
   |cons b r=>refine⟨_,?_,.cons b (.cons a r)⟩;rw[<-PZ,<-PZ];exact List.perm_append_comm.append_right _
 |trans _ _ ih1 ih2=>
  grind
def iC:D->Qo (Ql Int)
 |.tup [.lst xs,_]=>d6 xs
 |_=>Qn
noncomputable def fL:Ql D->Qo (Ql (Ql Int×D))
 |[]=>Qs []
 |d::ds=>(iC d).bind λk=>(fL ds).map λr=>(k,d)::r
def iW:Ql (Ql Int×D)->Bool
 |[]=>Qt
 |x::xs=>xs.all (λy=>decide (y.1≠x.1))&&iW xs
def su:Ql Ev->Qo Ev:=λrs=>match rs with
 |[.dn (.lst ds)]=>(fL ds).bind λks=>if iW ks&&decide (ks.length<64) then Qs (.dn (.lst ((Vo ks).map (·.2)))) else Qn
 |_=>Qn
theorem w8:∀{ds:Ql D}{ks:Ql (Ql Int×D)},fL ds=Qs ks->ds=ks.map (·.2)/\∀x∈ks,iC x.2=Qs x.1
 |[],ks,e=>by cases e;simp
 |d::ds,ks,e=>by
  simp only[fL]at e;rcases e1:iC d with _|k
  .rw[e1]at e;cases e
  rw[e1]at e;rcases e2:fL _ with _|r
  .rw[e2]at e;cases e
  rw[e2]at e;cases e;obtain⟨a,b⟩:=w8 e2
  grind
theorem uA:∀{ks:Ql (Ql Int×D)},iW ks=Qt->(ks.map (·.1)).Nodup
 |[],_=>PN
 |x::xs,h=>by
  simp only[iW,O6,P5,VH]at h;exact O7.mpr ⟨λm=>by
   obtain⟨y,hy,e⟩:=Pj.mp m;exact h.1 y hy e,uA h.2⟩
theorem CC{K:OQ}(hs:TJ H0 H):∀{ks:Ql (Ql Int×D)}{vs:Ql V}{C:Ql XW},Uq K H0 H (ks.map (·.2)) vs C->(∀x∈ks,iC x.2=Qs x.1)->∃zs:Ql (Ql Int×(D×XW)),ks=zs.map (λz=>(z.1,z.2.1))/\vs=zs.map (λz=>V.ref z.2.2)/\∀z∈zs,ug K H z.2.2 z.1
 |[],_,_,.nil,_=>⟨[],rfl,rfl,λz hz=>nomatch hz⟩
 |k::ks,_,_,.cons h r,hk=>by
  obtain⟨zs,e1,e2,e3⟩:=CC hs r λx hx=>hk x (OS _ hx);have ek:=hk k (OU ..);obtain⟨kk,d⟩:=k;have ek:iC d=Qs kk:=ek;unfold iC at ek;split at ek
  case h_2=>cases ek
  have ei:=k7 ek;subst ei;cases h with
  |flat f _=>simp[flat,UD]at f
  |@tup _ p us _ h1 h2=>
   cases h2 with
   |@cons _ v1 _ Wv B1 C1 a1 a2=>
    cases a2 with
    |@cons _ v2 _ YL B2 C2 b1 b2=>
     cases b2;cases a1 with
     |flat f _=>simp[flat]at f
     |@lst _ l us2 Cl c1 c2=>
      have eu:=iz (Uq.fl c2 (Vk _)).1;subst eu;refine⟨(kk,(_,p))::zs,by rw[e1];rfl,by rw[e2];rfl,λz hz=>?_⟩;rcases OZ.mp hz with q|q
      .subst q;exact⟨l,v2,hs _ _ h1,Ux.of c1⟩
      .exact e3 z q
section
variable {X:Cx}{F:Ql XW}
def N0(hu:X.A.units+64<cLine)(hc:X.calm=Qt):VY X F (.builtin "sorted") su:=VY.of (Fs hu hc) λH0 H A xs rs e Q m g q ek hq=>by
 unfold su at ek;split at ek
 case h_2=>cases ek
 rename_i ds;cases q with
 |cons q1 q2=>
  cases q2;rcases e1:fL ds with _|ks
  .rw[e1]at ek;cases ek
  rw[e1]at ek;simp only[OY]at ek;replace ek:=Vm ek;obtain⟨ok,ek⟩:=ek;simp only[O6,VH]at ok;cases ek;obtain⟨eds,emk⟩:=w8 e1;subst eds;obtain⟨B,nb,fr,rd⟩:=q1;cases rd with
  |flat f _=>simp[flat]at f
  |@lst _ p vs C hp r=>
   obtain⟨zs,z1,z2,z3⟩:=CC (aR _ _) r emk;have nk:=uA ok.1;subst z1 z2;refine⟨p,zs.map λz=>(z.1,z.2.2),rfl,Ux.of (by simp_all),by simpa using ok.2,λz hz=>?_,by rw[Pe]at nk ⊢;assumption,λl hl=>?_⟩
   .obtain⟨y,hy,rfl⟩:=Pj.mp hz;exact z3 y hy
   .rw[iY _];rw[iY _]at hq;have pz:=W2 zs;generalize Vo _=zs2 at*
    have q1:∀Z:Ql (Ql Int×(D×XW)),(Z.map λz=>(z.2.1,V.ref z.2.2)).map (·.1)=(Z.map λz=>(z.1,z.2.1)).map (·.2):=λZ=>by simp
    have q2:∀Z:Ql (Ql Int×(D×XW)),(Z.map λz=>(z.2.1,V.ref z.2.2)).map (·.2)=((Z.map λz=>(z.1,z.2.2)).map (·.2)).map V.ref:=λZ=>by simp
    have q3:∀Z:Ql (Ql Int×(D×XW)),(Z.map λz=>V.ref z.2.2)=(Z.map λz=>(z.2.1,V.ref z.2.2)).map (·.2):=λZ=>by simp
    rw[<-q1,q3]at r;obtain⟨C',pC,r2⟩:=Uq.perm ((pz.map _).symm) r;rw[q1,q2]at r2;have nC:=O7.mp nb;have al:∀b∈C',H b≠Qn:=λb hb z=>by obtain⟨o,w⟩:=r2.lists b hb;lia
    have hlC:l∉C':=λz=>al l z hl;have S:TJ (ag ((p::C)++(A++F)) H) (ag ((l::C')++(A++F)) (L2.upd H l (.lst (((zs2.map λz=>(z.1,z.2.2)).map (·.2)).map V.ref)))):=λb o h=>by
     obtain⟨n,h⟩:=bN h;have bl:b≠l:=λz=>by lia
     refine aU (by rw[aC bl];assumption) λz=>?_
     grind
    have kp:∀b∈C',∀o,H b=Qs o->L2.upd H l (.lst (((zs2.map λz=>(z.1,z.2.2)).map (·.2)).map V.ref)) b=Qs o:=λb hb o h=>by rw[aC (show b≠l from λz=>hlC (z▸hb))];assumption
    refine hq _ _ (du hl) ⟨l::C',O7.mpr ⟨hlC,pC.nodup_iff.mpr nC.2⟩,λb hb=>?_,.lst aM (Uq.mono S r2 kp)⟩;rcases OZ.mp hb with z|z
    .rw[z];exact TJ.free g hl
    .exact fr b (OS _ (pC.mem_iff.mp z))
end
open PySem.Spec L2
def jc(st:XZ)(k:Nat):XZ:=match st with
 |.ClassDef _ _ _ body _ _ _ _ _ _ _=>body.getD k (.Pass ⟨0,0,0,0⟩)
 |_=>.Pass ⟨0,0,0,0⟩
inductive Hm(K:OQ)(C:XW)(x qual:Str)(st:XZ)(f:XW):Prop where
 |mk {oc:Pl}{od an:Option XW}{X2:Array (Option Pl)}{kV doc pm UG ct:Pl} (a:QF K (.ref C) x=Qs (Qs (.ref f))) (n:S5 K (.ref f)=Qt) (l:K.lookup f=Qs ⟨oc,od,.func (Qk x qual (fQ st) (cZ st) (aK st) .none kV doc pm an UG ct),X2⟩) (c:Rv K UG qual=Qt) (k:Qh K (.ref f)=Qt):Hm K C x qual st f
def Hm.fn{st:XZ}(h:Hm K C x qual st f):∃fd,L2.UX K x qual st f fd:=by
 cases h with
 |mk a n l c k=>exact⟨_,sT l c k⟩
def Hm.X3{st:XZ}(h:Hm K C x qual st f):Meth K C x f:=by
 cases h with
 |mk a n l c k=>exact⟨a,n,k⟩
def Hm.mk_{st:XZ}(h:Hm K C "__init__" qual st f)(m:Sh K C=Qt)(k:Qh K (.ref C)=Qt):Mk K C f:=by
 cases h with
 |mk a n l c k'=>exact⟨m,a,n,k⟩
structure Hc(K:OQ)(x:Str)(C:XW):Prop where
 a:Qu K mainGlobals x=Qs (Qs (.ref C))
 c1:Rt K C Str.empty=Qt
 c2:RJ K C=Qt
 c3:SE K C=Qt
 c4:QF K (.ref C) "__setattr__"=Qs (Qs (.builtin "object.__setattr__"))
 k1:Sh K C=Qt
 k2:Qh K (.ref C)=Qt
def Hc.cls (h:Hc K x C):Vh K C:=⟨h.c1,h.c2,h.c3,h.c4⟩
theorem Hc.mg{K:OQ}{mg:Str->Qo Pl}(h:Hc K x C)(X:K.In hp)(G:hp.Ns mainGlobals mg):mg x=Qs (.ref C):=TN X G h.a
section
variable {X:Cx}{F:Ql XW}{a b c o:XY}{es:Ql XY}{fa:DE}{g g1 g2:DS}{ft:DT}{st:XZ}{C:XW}{f m:Str}{I J:Ql Nat}
def Jt(h:PS X st (dP X.K F J g))(s:∀i∈I,i∈J:=by decide):PS X st (dP X.K F I g):=by refine PS.imp h ?_;rintro E σ H ⟨A,t,t',R,e,k⟩;exact⟨A,t,t',R,e,λσ' H' A' gr R' p=>k _ _ _ gr R' λi hi=>p i (s i hi)⟩
def o4(i:Nat)(g:DS):DS:=λt=>match t[i]? with
 |some (.dp (.U1 ks ds))=>tH i g t
 |some (.val (.UI _))=>g t
 |_=>Qn
def Jd(i:Nat)(h:PS X st (dS X.K F g)):PS X st (dS X.K F (o4 i g)):=by
 intro pins s σ H D I q;obtain⟨A,t,o,R,e,p⟩:=jm q;unfold o4 at e;split at e
 .exact Je i h _ s σ H D I (jo R e p)
 .exact h _ s σ H D I (jo R e p)
 .cases e
def lD(f:DE):DT:=λt=>(f t).bind λr=>match r.d with
 |.UI ks=>Qs (!ks.isEmpty)
 |.U1 ks _=>Qs (!ks.isEmpty)
 |_=>Qn
def IT(ha:PE X a (dE X.K F fa))(he:∀whole,isTrue a X.env whole=(do let v<-whole;standAt a.pos;holding [v] (truthy v)):=by intro _;rfl):PT X a (dT X.K F (lD fa)):=by
 rintro pins s σ H Q I ⟨A,t,k,R,e,h⟩;unfold lD at e;rcases e1:fa t with _|r
 .rw[e1]at e;cases e
 rw[e1]at e;simp at e;split at e
 .exact IS ha he _ s σ H Q I ⟨A,t,k,R,by unfold yJ;simp_all,h⟩
 .rename_i ks ds z;exact vU ha he _ s σ H Q I ⟨A,t,k,R,by unfold tu;rw[e1];simp only[OY,z];assumption,h⟩
 .cases e
def oZ(g:nu):DE:=λt=>(g t).bind λq=>if q.1.length<=1000&&q.2.isEmpty then Qs (.dn (.tup q.1)) else Qn
def JS(h:PA X es (dNs X.K F fns)):PE X (.Tuple es x1 pos) (dE X.K F (oZ fns)):=by
 refine PE.imp (rG h) ?_;rintro σ H Q ⟨A,t,r,R,e,h⟩;unfold oZ at e;rcases e1:fns t with _|q
 .rw[e1]at e;cases e
 obtain⟨ds,I⟩:=q;rw[e1]at e;refine bJ e λok e=>?_;cases e;simp at ok;obtain⟨hl,rfl⟩:=ok;refine⟨A,t,ds,[],R,e1,λvs H1 B g1 n1 f1 r1=>⟨by rw[r1.length];exact X4 (by lia),λp hp=>?_⟩⟩;have s1:=du (o:=HO.tup vs) hp;refine h _ _ (g1.trans s1) ⟨B,n1,λb hb=>?_,.tup (UJ.of (aU aM λz=>(OT.mp z).elim (dQ r1.lists hp) (dQ ((R.mu).mono g1) hp))) (Uq.mono (ck s1) r1 λb hb o w=>s1 _ _ w)⟩;rcases f1 b hb with w|⟨i,hi,_⟩
 .assumption
 .cases hi
def Ce(h1:kz g1)(h2:kz g2):kz (aB g1 g2):=λt o e=>by refine aq e λo1 e1 e=>?_;obtain⟨t1,rfl⟩:=h1 t _ e1;exact h2 _ o e
def Cf:kz (jt k i C f fa fb):=λt o e=>by refine aq e λr1 e1 e=>?_;refine aq e λr2 e2 e=>?_;obtain⟨_,_,_,_,_,_,_,_,_,_,_,h⟩:=sA (e);exact⟨_,h⟩
def Lg{i a k s:Nat}:kz (lF i a k s C f1 f2):=λt o e=>by
 refine aq e λq _ e=>?_;refine aq e λn _ e=>?_;refine aq e λm _ e=>?_;refine bJ e λ_ e=>?_;refine aq e λj1 _ e=>?_;refine aq e λj2 _ e=>?_;refine aq e λrows _ e=>?_;refine aq e λZ8 _ e=>?_;refine aq e λxs _ e=>?_;refine aq e λzs _ e=>?_;refine aq e λws0 _ e=>?_;refine bJ e λ_ e=>?_;refine aq e λus _ e=>?_;unfold xY at e;split at e
 .cases e;simp
 .obtain⟨t',_,rfl⟩:=Option.map_eq_some_iff.mp e;lia
end
theorem ym:∀{ds:Ql D}{n:Nat}{d:D},UD ds=Qt->ds[n]?=Qs d->flat d=Qt
 |d::ds,0,_,h,e=>by cases e;simp only[UD,O6]at h;exact h.1
 |d::ds,n+1,_,h,e=>by simp only[UD,O6]at h;exact ym h.2 (e)
def xJ(t:Th)(i n:Nat)(r:Ev):Qo Out:=match t[i]?,toDn r with
 |some (.dp (.tup ds)),Qs d=>match ds[n]? with
  |some (.lst rows)=>if rows.length<100000 then Qs (.nx (t.set i (.dp (.tup (ds.set n (.lst (rows++[d]))))))) else Qn
  |_=>Qn
 |_,_=>Qn
def tS(i:Nat)(fb:DE)(f:DE):DS:=λt=>(g9 [fb] t).bind λns=>(f t).bind λr=>match ns with
 |[n]=>if 0<=n then xJ t i n.toNat r else Qn
 |_=>Qn
section
variable {X:Cx}{F:Ql XW}{a o:XY}{fa:DE}
def Jj(i:Nat) (ho:PE X o (ZT X.K F i [fb]))(he:PE X a (dE X.K F fa))(U6:Pc [a] X.env=[(Qf,eval a X.env)]:=by rfl) (WQ:attributeBase o "append" X.env (eval o X.env)=eval o X.env:=by rfl) (Yz:((Rc UR (Pc [a] X.env)).all (λx=>!x.1)&&(backToKw UR (keywordEach [] X.env)).all (λx=>x.1.isSome)
   && decide ([a].length+([]:Ql Tg).length+(if([]:Ql Tg).isEmpty then 0 else 1)<30))=Qt:=by rfl) (WM:(apos.endLine==UR.line)=Qt:=by rfl) (X9:(Rc UR (Pc [] X.env)).any (·.1)=Qf:=by rfl) (VW:swapsWith (.Call (.Attribute o "append" apos) [a] [] UR) Qn pos.line X.env=pure Qf:=by rfl):PS X (.Expr (.Call (.Attribute o "append" apos) [a] [] UR) pos) (dS X.K F (tS i fb fa)):=by
 refine PS.imp (jW (rL QB QM Q5 oh ho (fj he fJ U6) WQ Yz WM U6 X9) VW) ?_;rintro E σ H ⟨A,t,o,R,e,h⟩;unfold tS at e;refine aq e λns e0 e=>?_;refine aq e λr e1 e=>?_;have ef:=e
 repeat clear e
 have e:=ef;clear ef;rcases ns with _|⟨n,_|⟨_,_⟩⟩
 .cases e
 case cons.cons=>cases e
 have e:(if 0<=n then xJ t i n.toNat r else Qn)=Qs o:=e;replace e:=Vm e;obtain⟨n0,e⟩:=e;unfold xJ at e;split at e
 case h_2=>cases e
 rename_i ds d z ed;split at e
 case h_2=>cases e
 rename_i rows z1;replace e:=Vm e;obtain⟨hl,e⟩:=e;cases e;obtain⟨v,B,A',a1,R',nb,dj,YT,sub,WL⟩:=R.za4 z;cases YT with
 |flat f _=>exact absurd (ym (‹_›) z1) (by simp[flat])
 |@tup _ p us _ hp rs=>
  obtain⟨v1,B1,b1,b2,b3,b4,b5⟩:=rs.swap nb z1;cases b2 with
  |flat f _=>simp[flat]at f
  |@lst _ q ws Bq hq rq=>
   have YX:H p=Qs (.tup us):=(bN hp).2;have hnl:n.toNat<us.length:=(Pu.mp b1).1;refine⟨A,t,_,[n],.ref q,R,e0,a1,⟨p,us,.ref q,rfl,.inr (UJ.of YX),?_,rfl⟩,λH1 gs=>⟨.inl ⟨rfl,ws,Ux.of (gs _ _ hq)⟩,A,t,r,R.grow gs,e1,λy H2 UT qv=>⟨q,ws,y,rfl,rfl,UT _ _ (gs _ _ hq),?_,?_⟩⟩⟩
   .unfold U2 Vt
    simp_all
   .have:ws.length<100000:=by rw[rq.length];assumption
    exact O9 this (by decide)
   .have g2:=gs.trans UT;obtain⟨C,nC,fC,rC⟩:=(qv.toDn (R.mu.mono gs) UT ed);have R2:RS X.K (C++F) H2 A t σ:=(R.grow gs).zfm UT fC rC.lists;have cA:∀b∈C,b∉A++F:=λb hb=>dQ (R.mu.mono gs) (fC b hb);have cF:∀b∈C,b∉F:=λb hb w=>cA b hb (OP _ w);have hq2:=g2 _ _ hq;have hp2:=g2 _ _ YX;obtain⟨v',B',A2',a1',nB',zbo,zf1,zlL,_,zgm,fin⟩:=R2.zdd cF z;rw[a1]at a1';cases a1';cases zgm with
    |flat f _=>exact absurd (ym (‹_›) z1) (by simp[flat])
    |@tup _ _ Zd _ hp3 rs'=>
     obtain⟨pn,hp3⟩:=bN hp3;rw[hp2]at hp3;cases hp3;obtain⟨v1',B1',b1',b2',b3',b4',b5'⟩:=rs'.swap nB' z1;rw[b1]at b1';cases b1';cases b2' with
     |flat f _=>simp[flat]at f
     |@lst _ _ Wb Bq' hq3 rq'=>
      rw[hq2]at hq3;cases hq3;have qA:q∈A:=zbo q (b3' q (OU ..));generalize Z5:L2.upd H2 q (.lst (ws++[y]))=H3;have u1:∀b,b≠q->H3 b=H2 b:=λb n=>by rw[<-Z5];exact aC n
      have u2:H3 q=Qs (.lst (ws++[y])):=by rw[<-Z5];exact aM
      have S1:TJ (ag (A++(C++F)) H2) (ag (A++(C++F)) H3):=λb o h=>by obtain⟨n,h⟩:=bN h;exact aU (by rw[u1 b λz=>n (z▸OR _ qA)];assumption) n
      have S2:TJ (ag (C++(A++F)) H2) (ag (A++(C++F)) H3):=λb o h=>by
       obtain⟨n,h⟩:=bN h;refine S1 b o (aU h λw=>?_)
       simp_all
      have n1:=O7.mp b4';have qC:q∉C:=λw=>cA q w (OR _ qA);have rC2:UC X.K (ag (A++(C++F)) H3) H3 d y C:=UC.mono S2 rC λb hb o w=>by rw[u1 b λz=>qC (z▸hb)];assumption
      have rq2:Uq X.K (ag (A++(C++F)) H3) H3 rows ws Bq':=Uq.mono S1 rq' λb hb o w=>by rw[u1 b λz=>n1.1 (z▸hb)];exact w
      obtain⟨C',c1,c2,c3⟩:=b5' _ H3 (.lst (rows++[d])) (.ref q) (q::(Bq'++C)) S1 (.lst u2 (Uq.snoc rC2 rq2)) (O7.mpr ⟨λw=>(OT.mp w).elim n1.1 qC,O4.mpr ⟨n1.2,nC,λx hx y hy e=>cA y hy (OR _ (zbo y (b3' y (OS _ (e▸hx)))))⟩⟩) (λb hb=>by
       rcases OZ.mp hb with w|w
       .exact .inl (w▸OU ..)
       .rcases OT.mp w with w|w
        .exact .inl (OS _ w)
        .exact .inr λu=>cA b w (OR _ (zbo b u))) (λb hb n o w=>by rw[u1 b λz=>n (by rw[z];exact OU ..)];exact w)
      rw[qH b1]at c1;have VU:∀b∈C',b∈B'\/b∈C:=λb hb=>by
       rcases c3 b hb with w|w
       .rcases OZ.mp w with w|w
        .exact .inl (b3' b (w▸OU ..))
        .rcases OT.mp w with w|w
         .exact .inl (b3' b (OS _ w))
         .exact .inr w
       .exact .inl w.1
      have sub:∀b∈A2'++(C'++F),b∈A++(C++F):=λb hb=>by
       rcases OT.mp hb with w|w
       .exact OR _ (zf1 b w)
       .rcases OT.mp w with w|w
        .rcases VU b w with w|w
         .exact OR _ (zbo b w)
         .exact OP _ (OR _ w)
        .exact OP _ (OP _ w)
      have pq:p≠q:=λw=>pn (w▸OR _ qA);obtain⟨A3,d1,d2⟩:=fin H3 (.tup (ds.set n.toNat (.lst (rows++[d])))) C' (λb o n _ h=>by rw[u1 b λz=>n (by rw[z];exact b3' q (OU ..))];exact h) c2 (λb hb=>(VU b hb).imp id .inl) (.tup (UJ.of (aU (by rw[u1 p pq];exact hp2) λw=>pn (sub p w))) (Uq.mono (aS H3 sub) c1 λ_ _ _ w=>w))
      refine h _ _ A3 ⟨λb o n w=>?_,λb hb=>?_,λb hb=>?_⟩ d1
      .rw[u1 b λz=>n (z▸qA)];exact g2 b o w
      .by_cases w:b=q
       .rw[w,u2];simp
       .obtain⟨us,k⟩:=R.mu b (OR _ hb);rw[u1 b w,g2 b _ k];simp
      .have none_of:∀{H':Hp},TJ H H'->H' b=Qn->H b=Qn:=λ{H'} s k=>by
        cases w:H b with
        |none=>rfl
        |some o=>rw[s b o w]at k;cases k
       rcases d2 b hb with w|w|w
       .exact .inl w
       .exact .inr (none_of gs (fC b w))
       .exact .inr (none_of g2 w)
end
section
variable {X:Cx}{F:Ql XW}{a:XY}{fa:DE}{x:Str}
def fV(hN:X.N.Nodup)(i:Nat)(hi:X.N[i]?=Qs x:=by rfl)(hx:Loc X.env.scope x:=by exact iD rfl)(hf:autoParam (X.fn x=Qt\/X.env.scope.names.lookup x=Qs .local) qzB._auto_1):PG X (.Name x pos) (d7 i):=kP hN hi hx hf
def bR(hN:X.N.Nodup)(i:Nat)(he:PE X a (dE X.K F fa))(hi:X.N[i]?=Qs x:=by rfl)(hx:Loc X.env.scope x:=by exact iD rfl)(hs:swapsWith a (Qs (.Name x pos')) pos.line X.env=pure Qf:=by rfl)(hf:autoParam (X.fn x=Qt\/X.env.scope.names.lookup x=Qs .local) qzB._auto_1):PS X (.Assign [.Name x pos'] a pos) (dS X.K F (aL i fa)):=I0 hN hi hx he hs hf
def kM(hN:X.N.Nodup)(i:Nat)(he:PE X a (wE ρ X.K F p fw))(hi:X.N[i]?=Qs x:=by rfl)(hx:Loc X.env.scope x:=by exact iD rfl)(hs:swapsWith a (Qs (.Name x pos')) pos.line X.env=pure Qf:=by rfl)(hf:autoParam (X.fn x=Qt\/X.env.scope.names.lookup x=Qs .local) qzB._auto_1):PS X (.Assign [.Name x pos'] a pos) (wS ρ X.K F p (eQ i fw)):=IZ hN hi hx he hs hf
def j4(cap:Ql Nat)(N':Ql Str)(hc:X.calm=Qt)(hi:PI X (.Name x pos') iter (dI X.K F fs))(he:∀C s₃ H₃ fp pins F',PE (bw X N' scope C s₃ H₃ fp pins) elt (dE X.K F' fe)) (hd:N'.Nodup:=by decide+kernel) (h0:N'[0]?=Qs x:=by rfl) (hl:∀C s₃ H₃ fp pins,Loc (bw X N' scope C s₃ H₃ fp pins).env.scope x:=by intros;exact iD rfl) (hf:∀C s₃ H₃ fp pins,(bw X N' scope C s₃ H₃ fp pins).fn x=Qt\/(bw X N' scope C s₃ H₃ fp pins).env.scope.names.lookup x=Qs .local:=by intros;first|exact .inl rfl|exact .inr rfl) (WN:scope.kind=.function:=by rfl) (Xh:kq scope.names X.env.kindOf=Qt:=by rfl) (hN:N'.length=1+cap.length:=by rfl) (VG:iO N' X.N 1 scope.names 0 cap=Qt:=by rfl) (hs:∀x,foldedSetIterable iter X.env x=pure x:=by intro _;rfl):PE X (.ListComp elt [⟨.Name x pos',iter,[],0⟩] scope pos) (dE X.K F (ba 1 cap fs (aP 0) bS fe)):=kQ 1 _ _ hc hi (λC s₃ H₃ fp pins=>kP hd h0 (hl C _ _ _ _) (hf C _ _ _ _)) (λ_=>cD 0) (λ_ _ _ _ _ _=>nS) he WN Xh hN VG hs
end
def cM{N P:Ql Str}{sc:U0}(h1:sc.kind=.function:=by rfl)(h2:sc.isCoroutine=Qf:=by rfl)(h3:sc.isGenerator=Qf:=by rfl)(h5:N.take P.length=P:=by rfl)(h:(decide N.Nodup&&(decide (∀x∈P,sc.names.lookup x=Qs .local\/sc.names.lookup x=Qs .cell)&&decide (∀y∈sc.names,y.2≠.free)))=Qt:=by decide+kernel):U9 N P sc:=HM h1 h2 h3 h5 h
def M8{st:XZ}(k:Nat)(Fn:L2.UX K x qual st f fd)(S:U9 N ps (aK st))(g:DS) (WO:∀(UG:Pl) (A:QP) (outer:Ql Env) (s:Pf) (H:Hp) (E:XK) (F:Ql XW),UU k (A.deeper (envOfC qual (aK st) s.heap.objs.size f UG))->UL (fR bT P w K mg base N qual (aK st) f UG A outer s H E).W4 (cZ st) (dS K F g)) (hm:ps.length=m:=by rfl):Vn P w K mg base bT (k+1) f fd ps (Xr K (dy m N g)):=Nb Fn S (λ_ _ e=>hm▸CL e) g (λ_ _ e=>CK e) WO
section
variable {x:Str}{st:XZ}{f:XW}{hp:XX}{mg:Str->Qo Pl}
def Hv.df1(h:Hv K x st f)(X:K.In hp)(G:hp.Ns mainGlobals mg)(p0:Str)(hb:∀(kV doc pm:Pl) (an:Qo XW) (UG ct:Pl),∀a0:Pl,bindArgs (Qk x x (fQ st) (cZ st) (aK st) .none kV doc pm an UG ct) ⟨[a0],[]⟩=pure [(p0,a0)]:=by intros;rfl):∃fd,Df K mg x st [p0] f fd:=let ⟨fd,u⟩:=h.fn
 ⟨fd,u,h.mg X G,za u hb⟩
def Hv.Yg(h:Hv K x st f)(X:K.In hp)(G:hp.Ns mainGlobals mg)(p0 p1:Str)(hb:∀(kV doc pm:Pl) (an:Qo XW) (UG ct:Pl),∀a0 a1:Pl,bindArgs (Qk x x (fQ st) (cZ st) (aK st) .none kV doc pm an UG ct) ⟨[a0,a1],[]⟩=pure [(p0,a0),(p1,a1)]:=by intros;rfl):∃fd,Df K mg x st [p0,p1] f fd:=let ⟨fd,u⟩:=h.fn
 ⟨fd,u,h.mg X G,m9 u hb⟩
def Hv.df3(h:Hv K x st f)(X:K.In hp)(G:hp.Ns mainGlobals mg)(p0 p1 p2:Str)(hb:∀(kV doc pm:Pl) (an:Qo XW) (UG ct:Pl),∀a0 a1 a2:Pl,bindArgs (Qk x x (fQ st) (cZ st) (aK st) .none kV doc pm an UG ct) ⟨[a0,a1,a2],[]⟩=pure [(p0,a0),(p1,a1),(p2,a2)]:=by intros;rfl):∃fd,Df K mg x st [p0,p1,p2] f fd:=let ⟨fd,u⟩:=h.fn
 ⟨fd,u,h.mg X G,ua u hb⟩
end
def oB:Ql Ev->Qo Ev:=λrs=>match rs with
 |[.cl (.lst ds)]=>(fL ds).bind λks=>if iW ks&&decide (ks.length<64) then Qs (.nw ((Vo ks).map (·.2))) else Qn
 |_=>Qn
theorem CB{K:OQ}{H:Hp}:∀{ks:Ql (Ql Int×D)}{vs:Ql V},TZ K H (ks.map (·.2)) vs->(∀x∈ks,iC x.2=Qs x.1)->∃zs:Ql (Ql Int×(D×XW)),ks=zs.map (λz=>(z.1,z.2.1))/\vs=zs.map (λz=>V.ref z.2.2)/\(∀z∈zs,ug K H z.2.2 z.1)/\∀z∈zs,Rep K H z.2.1 (.ref z.2.2)
 |[],_,.nil,_=>⟨[],rfl,rfl,λz hz=>(nomatch hz),λz hz=>nomatch hz⟩
 |k::ks,_,.cons (v:=v) h r,hk=>by
  obtain⟨zs,e1,e2,e3,e4⟩:=CB r λx hx=>hk x (OS _ hx);have ek:=hk k (OU ..);obtain⟨kk,d⟩:=k;have ek:iC d=Qs kk:=ek;have h:Rep K H d v:=h;unfold iC at ek;split at ek
  case h_2=>cases ek
  rename_i xs w;have ei:=k7 ek;subst ei;have h0:=h;cases h with
  |@tup _ p us h1 h2=>
   cases h2 with
   |@cons _ v1 _ Wv a1 a2=>
    cases a2 with
    |@cons _ v2 _ YL b1 b2=>
     cases b2;cases a1 with
     |@lst _ l us2 c1 c2=>
      have eu:=iz c2;subst eu;refine⟨(kk,(_,p))::zs,by rw[e1];rfl,by rw[e2];rfl,λz hz=>?_,λz hz=>?_⟩
      .rcases OZ.mp hz with q|q
       .subst q;exact⟨l,v2,h1,c1⟩
       .exact e3 z q
      .rcases OZ.mp hz with q|q
       .subst q;exact h0
       .exact e4 z q
theorem AO{K:OQ}{H:Hp}:∀{zs:Ql (Ql Int×(D×XW))},(∀z∈zs,Rep K H z.2.1 (.ref z.2.2))->TZ K H (zs.map λz=>z.2.1) (zs.map λz=>V.ref z.2.2)
 |[],_=>.nil
 |z::zs,h=>.cons (h z (OU ..)) (AO λx hx=>h x (OS _ hx))
section
variable {X:Cx}{F:Ql XW}
def N1(hu:X.A.units+64<cLine)(hc:X.calm=Qt):VY X F (.builtin "sorted") oB:=VY.of (Fs hu hc) λH0 H A xs rs e Q m g q ek hq=>by
 unfold oB at ek;split at ek
 case h_2=>cases ek
 rename_i ds;cases q with
 |cons q1 q2=>
  cases q2;rcases e1:fL ds with _|ks
  .rw[e1]at ek;cases ek
  rw[e1]at ek;simp only[OY]at ek;replace ek:=Vm ek;obtain⟨ok,ek⟩:=ek;simp only[O6,VH]at ok;cases ek;obtain⟨eds,emk⟩:=w8 e1;subst eds;have q1:Rep X.K (ag (A++F) H) (.lst (ks.map (·.2))) _:=q1;cases q1 with
  |@lst _ p vs hp r=>
   obtain⟨zs,z1,z2,z3,z4⟩:=CB r emk;have nk:=uA ok.1;subst z1 z2;have sh:=aR (A++F) H;refine⟨p,zs.map λz=>(z.1,z.2.2),rfl,by rw[Pe,Pe];exact Ux.mono sh hp,by simpa using ok.2,λz hz=>?_,by rw[Pe]at nk ⊢;exact nk,λl hl=>?_⟩
   .obtain⟨y,hy,rfl⟩:=Pj.mp hz;obtain⟨l,v,a,b⟩:=z3 y hy;exact⟨l,v,sh _ _ a,Ux.mono sh b⟩
   .rw[iY (λz:D×XW=>z.2)];rw[iY (λz:D×XW=>z.1)]at hq;have z5:∀z∈Vo zs,Rep X.K (ag (A++F) H) z.2.1 (.ref z.2.2):=λz hz=>z4 z ((W2 zs).mem_iff.mp hz);refine hq _ _ (du hl) ⟨l,_,rfl,TJ.free g hl,aM,?_⟩;rw[Pe,Pe,Pe];exact TZ.mono (ie hl) (AO z5)
end
def il:D->D
 |.tup [.lst _,w]=>.tup [.lst [],w]
 |d=>d
def sG:D->Bool
 |.tup [.lst _,_]=>Qt
 |_=>Qf
def tQ(i j1 j2:Nat):DS:=λt=>match t[i]? with
 |some (.dp (.tup [a,.lst ms]))=>if ms.all sG&&decide (i≠j1/\i≠j2/\j1≠j2/\j1<t.length/\j2<t.length) then Qs (.nx (((t.set i (.dp (.tup [a,.lst (ms.map il)]))).set j1 .no).set j2 .no)) else Qn
 |_=>Qn
theorem RS.zbj{K:OQ}{F A:Ql XW}{H:Hp}{t:Th}{σ:L2.St}(R:RS K F H A t σ){j:Nat}(h:t[j]?=Qs .no)(v:V):RS K F H A t (σ.set j (Qs v)):=⟨R.mu,R.nd,R.dj,R.rel.zbj h⟩
def RS.zfe{F A:Ql XW}{t:Th}{σ:L2.St}{i k:Nat}{a:D}{M Yp:Ql D}{wd:D}(R:RS K F H A t σ)(e:t[i]?=Qs (.dp (.tup [a,.lst M])))(ek:M[k]?=Qs (.tup [.lst Yp,wd])):∃p0 va p1 vs tp q vw qs,σ[i]?=Qs (Qs (.ref p0))/\H p0=Qs (.tup [va,.ref p1])/\H p1=Qs (.lst vs)/\vs[k]?=Qs (.ref tp)/\H tp=Qs (.tup [.ref q,vw])/\H q=Qs (.lst qs)/\∃A2,RS K F (L2.upd H q (.lst [])) A2 (t.set i (.dp (.tup [a,.lst (M.set k (.tup [.lst [],wd]))]))) σ/\Gr A H A2 (L2.upd H q (.lst [])):=by
 obtain⟨v,B,a1,a2,a3,a4,a5⟩:=R.rel.zbz R.nd e;have hs:=aR (A++F) H;cases a4 with
 |flat f _=>simp[flat,UD]at f
 |@tup _ p0 us _ b1 b2=>
  have lu:=b2.length;obtain⟨v1,B1,f1,f2,f3,f4,f5⟩:=b2.focus (j:=1) rfl;cases f2 with
  |flat f _=>simp[flat]at f
  |@lst _ p1 vs C e1 rs=>
   obtain⟨v2,B2,g1,g2,g3,g4,g5⟩:=rs.focus ek;cases g2 with
   |flat f _=>simp[flat,UD]at f
   |@tup _ tp us2 _ t1 ds=>
    have lu2:=ds.length;obtain⟨v3,B3,h1,h2,h3,h4,h5⟩:=ds.focus (j:=0) rfl;cases h2 with
    |flat f _=>simp[flat]at f
    |@lst _ q qs Cq q1 q2=>
     obtain⟨va,rfl⟩:∃va,us=[va,.ref p1]:=by
      match us,lu,f1 with
      |[x,y],_,f1=>exact⟨x,by cases f1;rfl⟩
     obtain⟨vw,rfl⟩:∃vw,us2=[.ref q,vw]:=by
      match us2,lu2,h1 with
      |[x,y],_,h1=>exact⟨y,by cases h1;rfl⟩
     have nB1:=O7.mp (f4 a3);have nB2:=g4 nB1.2;have q3:q∈q::Cq:=OU ..;have qC:=g3 q (h3 q q3);have qA:q∈A:=a2 q (f3 q (OS _ qC));refine⟨p0,va,p1,vs,tp,q,vw,qs,a1,hs _ _ b1,e1,g1,hs _ _ t1,q1,?_⟩;have hh:TJ (ag (A++F) H) (ag (A++F) (L2.upd H q (.lst []))):=λb o w=>by obtain⟨n,w⟩:=bN w;exact aU (by rw[aC (λ(z:b=q)=>n (OR _ (z▸qA)))];exact w) n
     have kp:∀x,x≠q->∀o,H x=Qs o->L2.upd H q (.lst []) x=Qs o:=λx n o w=>by rw[aC n];exact w
     obtain⟨B2',c1,c2⟩:=h5 _ _ (.lst []) [q] hh (.lst aM .nil) (List.singleton_sublist.mpr q3) (λx _ n=>kp x λz=>n (z▸q3)) nB2;obtain⟨C',c3,c4⟩:=g5 _ _ (.tup [.lst [],wd]) B2' hh (.tup (UJ.mono hh t1) c1) c2 (λx _ n=>kp x λz=>n (z▸h3 q q3)) nB1.2;obtain⟨B',c5,c6⟩:=f5 _ _ (.lst _) (p1::C') hh (.lst (kp p1 (λz=>nB1.1 (z▸qC)) _ e1) c3) (c4.cons₂ _) (λx _ n=>kp x λz=>n (z▸OS _ qC)) a3;obtain⟨A2,d1,d3⟩:=a5 _ _ _ B' hh (.tup (UJ.mono hh b1) c5) c6 λx _ n=>kp x λz=>n (z▸f3 q (OS _ qC));have sub:∀x∈A2,x∈A:=λx hx=>d3.subset hx;have mu:US (L2.upd H q (.lst [])) (A++F):=λx hx=>by
      by_cases z:x=q
      .exact⟨mL [],by rw[z];exact aM⟩
      .obtain⟨us,w⟩:=R.mu x hx;exact⟨us,kp x z _ w⟩
     refine⟨A2,⟨λx hx=>mu x ?_,R.nd.sublist d3,λx hx=>R.dj x (sub x hx),Ul.mono (aS _ λa z=>?_) d1 λ_ _ _ h=>h⟩,λb o n h=>kp b (λz=>n (z▸qA)) _ h,λb hb=>?_,λb hb=>.inl (sub b hb)⟩
     .exact(OT.mp hx).elim (λz=>OR _ (sub x z)) (λz=>OP _ z)
     .exact(OT.mp z).elim (λz=>OR _ (sub a z)) (λz=>OP _ z)
     .obtain⟨us,w⟩:=mu b (OR _ hb);rw[w];simp
section
variable {X:Cx}{F:Ql XW}{o:XY}
def Jh(i j1 j2:Nat){x1 x2:Str}{tl:Nat}{p1' YU tp pb:Pos}(hp:PassesOwn (model X.prog X.w) X.A X.env X.xe)(hc:X.calm=Qt)(ho:∀F,PE X o (ZT X.K F i [dC (.int 1)])) (hg:PG X (.Tuple [.Name x1 p1',.Name x2 YU] tl tp) (mP X.K 2 (gi (d7 j1) (gi (d7 j2) kj)))) (hN:X.N[j1]?=Qs x1:=by rfl) (hv:autoParam (cJ X.env.scope x1) qzA._auto_1) (hd:Vf x1:=by decide) (UY:VX x1:=by decide) (WQ:attributeBase (.Name x1 py) "clear" X.env (eval (.Name x1 py) X.env)=eval (.Name x1 py) X.env:=by rfl) (WM:(apos.endLine==UR.line)=Qt:=by rfl) (VW:swapsWith (.Call (.Attribute (.Name x1 py) "clear" apos) [] [] UR) Qn pb.line X.env=pure Qf:=by rfl) (hs:∀x,foldedSetIterable o X.env x=pure x:=by intro _;rfl):PS X (.For (.Tuple [.Name x1 p1',.Name x2 YU] tl tp) o [.Expr (.Call (.Attribute (.Name x1 py) "clear" apos) [] [] UR) pb] [] pos) (dS X.K F (tQ i j1 j2)):=by
 -- Wm body:Wm list zfX j1 names is emptied
 have body:UL X [.Expr (.Call (.Attribute (.Name x1 py) "clear" apos) [] [] UR) pb] (λE σ H=>∃q us,σ[j1]?=Qs (Qs (.ref q))/\H q=Qs (.lst us)/\E.nx σ (upd H q (.lst []))):=by refine nT (PS.imp (jW (BS QB Rz SH Cz (dg (i:=j1) hN hv hd UY) WQ WM) VW) ?_);rintro E σ H ⟨q,us,nm,hq,h⟩;exact⟨_,nm,.inl ⟨rfl,us,Ux.of hq⟩,q,us,rfl,rfl,hq,h⟩
 refine PS.imp (jV hp hc (nX (ho F)) hg body hs) ?_;intro E σ H hh;obtain⟨A,t,oo,R,e,h⟩:=jm hh;unfold tQ at e;split at e
 case h_2=>cases e
 rename_i a ms z;replace e:=Vm e;obtain⟨ok,e⟩:=e;simp only[O6,VH]at ok;obtain⟨okM,n1,n2,n12,l1,l2⟩:=ok;cases e
 -- Wm places of Wm tuple and of Wm list
 let T:Ql D->Th:=λms=>((t.set i (.dp (.tup [a,.lst ms]))).set j1 .no).set j2 .no
 have Ti:∀ms,(T ms)[i]?=Qs (.dp (.tup [a,.lst ms])):=λms=>by
  have li:i<t.length:=by refine PB λw=>?_;rw[SW (by lia)]at z;cases z
  show(((t.set i _).set j1 .no).set j2 .no)[i]?=_;rw[Pm (λw=>n2 w.symm),Pm (λw=>n1 w.symm),P2 li]
 have T1:∀ms,(T ms)[j1]?=Qs .no:=λms=>by show(((t.set i _).set j1 .no).set j2 .no)[j1]?=_;rw[Pm (λw=>n12 w.symm),P2 (by rw[Ri];exact l1)]
 have T2:∀ms,(T ms)[j2]?=Qs .no:=λms=>by show(((t.set i _).set j1 .no).set j2 .no)[j2]?=_;rw[P2 (by rw[Ri,Ri];exact l2)]
 have Ts:∀ms ms',(T ms).set i (.dp (.tup [a,.lst ms']))=T ms':=λms ms'=>by show(((t.set i _).set j1 .no).set j2 .no).set i _=((t.set i _).set j1 .no).set j2 .no;rw[TM _ _ (λw=>n2 w.symm),TM _ _ (λw=>n1 w.symm),S9]
 -- zdl a state with zk8 zln zld
 have look:∀{A H}{σ:L2.St}{ms:Ql D},RS X.K F H A (T ms) σ->∃p0 va p1 vs B,σ[i]?=Qs (Qs (.ref p0))/\H p0=Qs (.tup [va,.ref p1])/\H p1=Qs (.lst vs)/\Uq X.K (ag (A++F) H) H ms vs B:=λ{A H σ ms} R=>by
  obtain⟨v,B,a1,a2,a3,a4,_⟩:=R.rel.zbz R.nd (Ti ms);cases a4 with
  |flat f _=>simp[flat,UD]at f
  |@tup _ p0 us _ b1 b2=>
   cases b2 with
   |@cons _ va _ us1 B1 C1 c1 c2=>
    cases c2 with
    |@cons _ vl _ us2 B2 C2 d1 d2=>
     cases d2;cases d1 with
     |flat f _=>simp[flat]at f
     |@lst _ p1 vs Cl e1 e2=>exact⟨p0,va,p1,vs,Cl,a1,aR _ _ _ _ b1,e1,e2⟩
 -- Wm names go first
 obtain⟨A1,za7,R1⟩:=R.forget j1;obtain⟨A2,YQ,R2⟩:=R1.forget j2;have et:(t.set j1 .no).set j2 .no=T ms:=by show _=((t.set i (.dp (.tup [a,.lst ms]))).set j1 .no).set j2 .no;rw[qH z]
 rw[et]at R2;have sub:∀x∈A2,x∈A:=λx hx=>za7 x (YQ x hx);have g0:Gr A H A2 H:=⟨λ_ _ _ w=>w,λb hb=>by
  obtain⟨us,w⟩:=R.mu b (OR _ hb);rw[w];simp,λb hb=>.inl (sub b hb)⟩
 obtain⟨p0,va,p1,vs,B,s0,h0,h1,r0⟩:=look R2;refine⟨A2,T ms,.ref p0,[1],.ref p1,R2,rfl,s0,⟨p0,_,_,rfl,.inr h0,rfl,rfl⟩,λH1 gs=>⟨p1,rfl,⟨vs,Ux.of (gs _ _ h1)⟩,?_⟩⟩;have len:vs.length=ms.length:=r0.length;let M:Nat->Ql D:=λk=>(ms.take k).map il++ms.drop k
 have M0:M 0=ms:=rfl;have Ml:∀k,(M k).length=ms.length:=λk=>by show((ms.take k).map il++ms.drop k).length=_;rw[Pq,O0,Q0,Rw];lia
 have zkm:M ms.length=ms.map il:=by show(ms.take _).map il++ms.drop _=_;rw[SQ,QQ,PH]
 have Mk:∀k (hk:k<ms.length),(M k)[k]?=Qs ms[k]/\(M k).set k (il ms[k])=M (k+1):=λk hk=>by
  have l:((ms.take k).map il).length=k:=by rw[O0,Q0];lia
  constructor
  .show((ms.take k).map il++ms.drop k)[k]?=_;rw[PX (by lia),l,S8,Sv,Nat.add_zero,O2 hk]
  .show((ms.take k).map il++ms.drop k).set k _=(ms.take (k+1)).map il++ms.drop (k+1);rw[List.set_append_right _ _ (by lia),l,S8,Qm hk,TH,List.take_succ_eq_append_getElem hk,Qg,PZ];rfl
 refine⟨λk m σ1 H2=>k+m=ms.length/\∃A3,RS X.K F H2 A3 (T (M k)) σ1/\Gr A H A3 H2/\σ1[i]?=Qs (Qs (.ref p0))/\H2 p0=Qs (.tup [va,.ref p1]),⟨ms.length,by lia,A2,by rw[M0];exact R2.grow gs,g0.trans (Gr.of_same R2.mu.left gs),s0,gs _ _ h0⟩,?_⟩;rintro k m σ1 H2 ⟨hm,A3,R3,g3,s3,t3⟩;obtain⟨p0',va',p1',Vs,B',ZS,t3',l3,r3⟩:=look R3;rw[s3]at ZS;cases ZS;rw[t3]at t3';cases t3';have zlq:Vs.length=ms.length:=by rw[r3.length,Ml]
 cases m with
 |zero=>
  have:k=ms.length:=by lia
  subst this;rw[zkm]at R3;exact .inl ⟨⟨Vs,Ux.of l3,by lia⟩,h _ _ _ g3 R3⟩
 |succ m=>
  have hk:k<ms.length:=by lia
  have hk':k<Vs.length:=by lia
  refine .inr ⟨⟨Vs,Vs[k],Ux.of l3,O2 hk'⟩,λσ2 H3=>k+1+m=ms.length/\∃A4,RS X.K F H3 A4 (T (M (k+1))) σ2/\Gr A H A4 H3/\σ2[i]?=Qs (Qs (.ref p0))/\H3 p0=Qs (.tup [va,.ref p1]),λσ2 H3 w=>⟨m,Qa m,w⟩,λw H3 yl=>?_⟩;obtain⟨eh,ew⟩:=yl;subst eh;have hw:=ew Vs (Ux.of l3)
  -- Wm zlo
  obtain⟨Mk1,Mk2⟩:=Mk k hk;have im:sG ms[k]=Qt:=P5.mp okM _ (SM hk);obtain⟨Yp,wd,ek⟩:∃Yp wd,ms[k]=.tup [.lst Yp,wd]:=by
   generalize ms[k]=d at im;unfold sG at im;split at im
   .exact⟨_,_,rfl⟩
   .cases im
  rw[ek]at Mk1 Mk2;have R4:∀vq vw,RS X.K F H3 A3 (T (M k)) ((σ1.set j1 (Qs vq)).set j2 (Qs vw)):=λvq vw=>(R3.zbj (T1 _) vq).zbj (T2 _) vw;have s4:∀vq vw,((σ1.set j1 (Qs vq)).set j2 (Qs vw))[i]?=Qs (Qs (.ref p0)):=λvq vw=>by rw[Pm (λw=>n2 w.symm),Pm (λw=>n1 w.symm)];exact s3
  obtain⟨p0',va',p1',YL,tp,q,vw,qs,x1,x2,x3,x4,x5,x6,_⟩:=R3.zfe (Ti _) Mk1;rw[s3]at x1;cases x1;rw[t3]at x2;cases x2;rw[l3]at x3;cases x3;rw[hw]at x4;cases x4;refine⟨tp,[.ref q,vw],rfl,x5,rfl,_,_,rfl,_,_,rfl,rfl,q,qs,?_,x6,by lia,?_⟩
  .have sl:=R3.rel.len;have tl:(T (M k)).length=t.length:=by show(((t.set i _).set j1 _).set j2 _).length=_;simp
   rw[Pm (λw=>n12 w.symm),P2 (by lia)]
  .obtain⟨p0',va',p1',YL,tp',q',vw',qs',y1,y2,y3,y4,y5,y6,A4,R5,g5⟩:=(R4 (.ref q) vw).zfe (Ti _) Mk1;rw[s4]at y1;cases y1;rw[t3]at y2;cases y2;rw[l3]at y3;cases y3;rw[hw]at y4;cases y4;rw[x5]at y5;cases y5;rw[Ts,show(M k).set k (.tup [.lst [],wd])=M (k+1) from Mk2]at R5;refine⟨A4,R5,g3.trans g5,s4 _ _,?_⟩;rw[aC (λw=>by rw[w,x6]at t3;cases t3)];exact t3
end
section
variable {X:Cx}{p q:Pos}{x y:Str}{k:Nat}
def hU(i:Nat)(hN:X.N.Nodup:=by exact of_decide_eq_true rfl)(hi:X.N[i]?=Qs x:=by rfl)(hx:Loc X.env.scope x:=by exact iD rfl)(hf:autoParam (X.fn x=Qt\/X.env.scope.names.lookup x=Qs .local) qzB._auto_1):PG X (.Name x pos) (d7 i):=kP hN hi hx hf
def i9(hN:X.N.Nodup)(i j:Nat)(hc:X.calm=Qt:=by rfl)(hi:X.N[i]?=Qs x:=by rfl)(hj:X.N[j]?=Qs y:=by rfl)(hx:Loc X.env.scope x:=by exact iD rfl)(hy:Loc X.env.scope y:=by exact iD rfl) (hf:autoParam (X.fn x=Qt\/X.env.scope.names.lookup x=Qs .local) qzB._auto_1) (hg:autoParam (X.fn y=Qt\/X.env.scope.names.lookup y=Qs .local) qzB._auto_1) (hn:(assignEach [.Name x p,.Name y q] X.env).length=2:=by rfl) (U6:(assignEach [.Name x p,.Name y q] X.env).findIdx? (·.1)=Qn:=by rfl):PG X (.Tuple [.Name x p,.Name y q] k pos) (mP X.K 2 (gi (d7 i) (gi (d7 j) kj))):=BH hc (mh (kP hN hi hx hf) (mh (kP hN hj hy hg) wB)) hn U6
def wF(hN:X.N.Nodup)(i j:Nat)(hc:X.calm=Qt:=by rfl)(hi:X.N[i]?=Qs x:=by rfl)(hj:X.N[j]?=Qs y:=by rfl)(hx:Loc X.env.scope x:=by exact iD rfl)(hy:Loc X.env.scope y:=by exact iD rfl) (hf:autoParam (X.fn x=Qt\/X.env.scope.names.lookup x=Qs .local) qzB._auto_1) (hg:autoParam (X.fn y=Qt\/X.env.scope.names.lookup y=Qs .local) qzB._auto_1) (hn:(assignEach [.Name x p,.Name y q] X.env).length=2:=by rfl) (U6:(assignEach [.Name x p,.Name y q] X.env).findIdx? (·.1)=Qn:=by rfl):PG X (.Tuple [.Name x p,.Name y q] k pos) (oQ X.K 2 (gi (d7 i) (gi (d7 j) kj))):=JN hc (mh (kP hN hi hx hf) (mh (kP hN hj hy hg) wB)) hn U6
end
def jI{F:Ql XW}(i j:Nat):cC K F (mP K 2 (gi (d7 i) (gi (d7 j) kj))) (di 2 (bK (aP i) (bK (aP j) eV))):=Ao (lW (cD i) (lW (cD j) uE))
def uF{F:Ql XW}(i j:Nat):cC K F (oQ K 2 (gi (d7 i) (gi (d7 j) kj))) (jg 2 (bK (aP i) (bK (aP j) eV))):=GJ (lW (cD i) (lW (cD j) uE))
section
variable (P:Qz)(w:RZ)(base:Wh)(mg:Str->Qo Pl){x:Str}{st:XZ}{f:XW}{fd:Ru}{N ps:Ql Str}
def fq(k:Nat)(S:U9 N ps (aK st))(g:DS)(Fn:L2.UX K x qual st f fd) (b:∀{UG:Pl}{A:QP}{outer:Ql Env}{s:Pf}{H:Hp}{E:XK}{F:Ql XW},UU k (A.deeper (envOfC qual (aK st) s.heap.objs.size f UG))->UL (fR bT P w K mg base N qual (aK st) f UG A outer s H E).W4 (cZ st) (dS K F g)):Vn P w K mg base bT (k+1) f fd ps (Xr K (dy ps.length N g)):=M8 k Fn S g (λ_ _ _ _ _ _ _ hr=>b hr) rfl
def oa(k:Nat)(S:U9 N ps (aK st))(g:XW->WS aj)(Fn:L2.UX K x qual st f fd) (b:∀{UG:Pl}{A:QP}{outer:Ql Env}{s:Pf}{H:Hp}{E:XK}{F:Ql XW}{p:XW},UU k (A.deeper (envOfC qual (aK st) s.heap.objs.size f UG))->UL (fR bT P w K mg base N qual (aK st) f UG A outer s H E).W4 (cZ st) (wS aj K F p (g p))):Vn P w K mg base bT (k+1) f fd ps (spX aj K (gK ps.length N g)):=M7 JE Fn S rfl g λ_ _ _ _ _ _ _ _ hr=>b hr
def rO(k:Nat)(S:U9 N ps (aK st))(g:DS)(Fn:L2.UX K x qual st f fd) (b:∀{UG:Pl}{A:QP}{outer:Ql Env}{s:Pf}{H:Hp}{E:XK}{F:Ql XW},UU k (A.deeper (envOfC qual (aK st) s.heap.objs.size f UG))->UL (fR bT P w K mg base N qual (aK st) f UG A outer s H E).W4 (cZ st) (dP K F [0] g)):Vn P w K mg base bT (k+1) f fd ps (spO K (kX ps.length N g)):=M9 Fn S rfl g λ_ _ _ _ _ _ _ hr=>b hr
end
end DL
end QZ
variable{nt:Nat}{ts:Ql (Int×Int)}{wl:Ql Int}{cur:Ql Int}{dl:Ql Int}{st:Int}{K:Ql Int}{r1:DL.Ev}
namespace KX
open PySem.Spec L2 DL
abbrev cN:=k6 (kI gz λi j=>.int (i+j)) iF
abbrev qS:=kI gz λi j=>.int (i-j)
abbrev qM:=k6 (kI XQ λi j=>.int (i*j)) xE
abbrev qV:=kI Yh λi j=>.int (i.fdiv j)
abbrev qR:=kI lI λi j=>.int (i.fmod j)
abbrev qL:=kI gz λi j=>.bl (decide (i<j))
abbrev qG:=kI gz λi j=>.bl (decide (j<i))
abbrev qP:=kI pf λi j=>.int (i^j.toNat)
abbrev ak:=af 0
abbrev az:=af 1
abbrev aN:=af 2
abbrev bc:=af 3
abbrev bP:=af 4
abbrev cK:=af 5
abbrev dt:=af 6
abbrev iu:=af 9
abbrev bq:=dC (.int 0)
abbrev cV:=dC (.int 1)
abbrev iy:=dC (.int 2)
abbrev pY:=dC (.int 10)
abbrev iU:=dC .Uz
abbrev nD:=dC (.bl Qt)
abbrev br:=aP 0
abbrev eO:=ae aN ao
abbrev jF:=aP 3
abbrev iT:=aP 4
abbrev gY:=ae ak ao
abbrev gX:=ae cK ao
abbrev iw:=bW aj ak
abbrev uw:=ae az ao
abbrev iS:=ae bP ao
abbrev uu:=aP 1
abbrev jE:=ae bc ao
abbrev jD:=bW aj az
abbrev kJ:=ae ak uw
abbrev FY:=bK uu eV
abbrev FX:=bK iT eV
abbrev pX:=bK jF eV
abbrev kH:=bK br FY
abbrev ny:=bK jF FX
noncomputable def cL(i:Nat):XZ:=PySem.Challenge.pw_nearenough_k63_whole_all_points.main.body.getD i (.Pass ⟨0,0,0,0⟩)
abbrev vo:XZ:=cL 1
abbrev vi:XZ:=cL 2
abbrev uX:XZ:=cL 8
abbrev vE:XZ:=jc (cL 9) 0
abbrev vA:XZ:=jc (cL 9) 1
abbrev vx:XZ:=jc (cL 9) 2
abbrev vC:XZ:=jc (cL 9) 3
abbrev vp:XZ:=jc (cL 9) 4
abbrev vy:XZ:=jc (cL 9) 5
abbrev vt:XZ:=jc (cL 9) 6
abbrev vB:XZ:=jc (cL 9) 7
abbrev vv:XZ:=jc (cL 9) 8
abbrev vk:XZ:=cL 11
abbrev uV:XZ:=cL 12
abbrev uW:XZ:=cL 13
abbrev vh:XZ:=cL 14
abbrev ve:XZ:=cL 16
abbrev vd:XZ:=cL 17
abbrev uZ:XZ:=cL 18
abbrev vb:XZ:=cL 19
abbrev vc:XZ:=cL 20
abbrev vf:XZ:=cL 21
abbrev uY:XZ:=cL 22
abbrev jN:XZ:=cL 23
abbrev vg:XZ:=cL 24
structure VD(mg:Str->Option Pl):Prop where
 zd7:mg "abs"=Qn
 zgT:mg "bool"=Qn
 zcc:mg "enumerate"=Qn
 zd6:mg "isinstance"=Qn
 Xe:mg "len"=Qn
 Zj:mg "list"=Qn
 zgS:mg "max"=Qn
 zd5:mg "min"=Qn
 Wz:mg "range"=Qn
 YV:mg "sorted"=Qn
 zgR:mg "tuple"=Qn
noncomputable section
variable {P:Qz}{w:RZ}{K:OQ}{mg:Str->Qo Pl}{base:Wh}{ad:XW}{fd:Ru}
def zdB:U9 ["one","other"] ["one","other"] (aK vo):=cM
def o8:DS:=(iM 0 1 (ae az (ae (d2 qR ak az) ao)))
def Em:DS:=(aB (lC (oS 1) (aH (d2 eU az bq)) o8) (cU (ai oG gY)))
def zH:Ql D->Qo Ev:=dy 2 ["one","other"] Em
def KP(Fn:L2.UX K "common_factor" "common_factor" vo ad fd)(bu:VD mg):=fq P w base mg 0 zdB Em Fn λhr=>aY (vZ (oS 1) PassesOwn.never (cb (kU hr.units) (aa 1) aJ) (bo (wg (i:=0) (j:=1) rfl zdB.nd rfl rfl (by decide) rfl rfl (au (aa 1) (au (bG jb (aa 0) (aa 1)) aD)) rfl))) (bo (eD (cQ Fj rfl bu.zd7 Ft (au (aa 0) aD))))
def zbW:U9 ["top","bottom","factor"] ["top","bottom"] (aK vi):=cM
def Ek:DS:=(aB (aL 2 (ai (aX zH) kJ)) (aB (bZ (aH (d2 qL az bq)) (aL 2 (d1 sv aN)) dm) (cU (ai dW (ae (d2 qV ak aN) (ae (d2 qV az aN) ao))))))
def kF:Ql D->Qo Ev:=dy 2 ["top","bottom","factor"] Ek
def KN(Fn:L2.UX K "fraction" "fraction" vi ad fd)(bu:VD mg)(zjR:Xn P w K mg base "common_factor" 1 zH):=fq P w base mg 1 zbW Ek Fn λhr=>aY (bR zbW.nd 2 (fX zjR hr.mono (au (aa 0) (au (aa 1) aD)))) (aY (fg (cb rP (aa 1) aJ) (bo (bR zbW.nd 2 (BL (aa 2)))) fH) (bo (eD (jZ (au (bG kW (aa 0) (aa 2)) (au (bG kW (aa 1) (aa 2)) aD))))))
def ZP:U9 ["web","numbers","many","ties","least","at","low","high"] ["web","numbers"] (aK uX):=cM
def zd:DS:=(aB (dG (jg 2 (bK (aP 6) (bK (aP 7) eV))) (ai gb (ae (ba 1 [4] (gj (d2 av bc cK)) br bS (d2 av az ak)) ao))) (aL 4 (ba 1 [6,7] (dX bP) br bS (tG (aH (d2 gh ak aN)) az ak))))
def xZ:DS:=(aB (dG (di 2 (bK (aP 2) pX)) ak) (aB (aL 4 (jq eO)) (aB (fD (aP 5) az zd) (gU 4))))
def pR:Ql D->Qo Ev:=dy 2 ["web","numbers","many","ties","least","at","low","high"] xZ
def Ku(Fn:L2.UX K "least_led_to" "least_led_to" uX ad fd)(bu:VD mg):=fq P w base mg 0 ZP xZ Fn λhr=>aY (nV (aa 0) (i9 ZP.nd 2 3) (jI 2 3)) (aY (bR ZP.nd 4 (wG rfl rfl bu.Zj rfl bu.Wz (au (aa 2) aD))) (aY (nU PassesOwn.never rfl (aa 1) (fV ZP.nd 5) (cD 5) (aY (nV (cQ o9 rfl bu.YV boot_sorted (au (j4 [4] ["end","least"] rfl (rB (bg (aa 3) (aa 5))) (λ_ _ _ _ _ _=>(bg (aa 1) (aa 0)))) aD)) (wF ZP.nd 6 7) (uF 6 7)) (bo (bR ZP.nd 4 (j4 [6,7] ["own","low","high"] rfl (jY (aa 4)) (λ_ _ _ _ _ _=>(JW (cb (mv hr.units) (aa 0) (aa 2)) (aa 1) (aa 0)))))))) (bo (me 4))))
def zdH:U9 ["self","web","weights","many","ties"] ["self","web","weights"] (aK vE):=cM
def sR(C:XW):DS:=(aB (dG (di 2 ny) az) (aB (eJ 0 C "ties" (ai fN iS)) (aB (eJ 0 C "weights" (ai fN eO)) (aB (eJ 0 C "parts" cV) (aB (eJ 0 C "taken" (ai cT ao)) (aB (eJ 0 C "points" (gV 1 [] (cX bc) br bS (ai cT gY))) (aB (eJ 0 C "widths" (d2 qM (ai cT (ae bq ao)) bc)) (aB (eJ 0 C "paid" (d2 qM (ai cT (ae bq ao)) bc)) (aB (eJ 0 C "around" (d2 qM (ai cT (ae bq ao)) bc)) (eJ 0 C "piece_of" (jq jE)))))))))))
def pU(C:XW):Ql D->Qo D:=kX 3 ["self","web","weights","many","ties"] (sR C)
def K5{C:XW}(cl:Vh K C)(W6:UH K C "around")(WK:UH K C "paid")(Xv:UH K C "parts")(W5:UH K C "piece_of")(WJ:UH K C "points")(Yq:UH K C "taken")(Wk:UH K C "ties")(ZU:UH K C "weights")(Wr:UH K C "widths")(Fn:L2.UX K "__init__" "Pieces.__init__" vE ad fd)(bu:VD mg):=rO P w base mg 0 zdH (sR C) Fn λhr=>(dO (Bw (aa 1) (i9 zdH.nd 3 4) (jI 3 4) (Mj (sr (sq (by decide)) (sr (sq (by decide)) Dr)))) (dO (gE 0 cl Wk (rE tZ rfl bu.Zj t9 (au (aa 4) aD))) (dO (gE 0 cl ZU (rE tZ rfl bu.Zj t9 (au (aa 2) aD))) (dO (gE 0 cl Xv aJ) (dO (gE 0 cl Yq (fh aD)) (dO (gE 0 cl WJ (wH 1 [] ["point"] rfl (jX rfl bu.Wz (aa 3)) (λ_ _ _ _ _=>(hU 0)) (λ_=>(cD 0)) (λ_ _ _ _ _ _=>nS) (λ_ _ _ _ _ _=>(fh (au (aa 0) aD))))) (dO (gE 0 cl Wr (bG (Xu.or gH) (fh (au aJ aD)) (aa 3))) (dO (gE 0 cl WK (bG (Xu.or gH) (fh (au aJ aD)) (aa 3))) (dO (gE 0 cl W6 (bG (Xu.or gH) (fh (au aJ aD)) (aa 3))) (mf (gE 0 cl W5 (wG rfl rfl bu.Zj rfl bu.Wz (au (aa 3) aD)))))))))))))
def zdF:U9 ["self","at","growing","one","other"] ["self","at","growing"] (aK vA):=cM
def yf(C:XW):DS:=(aB (dG (jg 2 ny) (ba 1 [0] (gj (d2 av (d1 (aG C "ties") ak) az)) br bS (d2 av (d1 (aG C "piece_of") az) ak))) (aB (bZ (aH (d2 gh bc bP)) (cU bq) dm) (cU (ai bI (ae (ba 1 [2] (gj (ai dW (ae bc iS))) br (aH (d2 (oE Qf) ak az)) ak) ao)))))
def lQ(C:XW):Ql D->Qo Ev:=dy 3 ["self","at","growing","one","other"] (yf C)
def KZ{C:XW}(cl:Vh K C)(W5:UH K C "piece_of")(Wk:UH K C "ties")(Fn:L2.UX K "growing_beside" "Pieces.growing_beside" vA ad fd)(bu:VD mg):=fq P w base mg 0 zdF (yf C) Fn λhr=>aY (nV (j4 [0] ["end","self"] rfl (rB (bg (cI cl Wk (aa 0)) (aa 1))) (λ_ _ _ _ _ _=>(bg (cI cl W5 (aa 1)) (aa 0)))) (wF zdF.nd 3 4) (uF 3 4)) (aY (fg (cb (mv hr.units) (aa 3) (aa 4)) (bo (eD aJ)) fH) (bo (eD (cQ gn rfl bu.Xe PySem.boot_len (au (kQ 1 [2] ["piece","growing"] rfl (rB (jZ (au (aa 3) (au (aa 4) aD)))) (λ_ _ _ _ _=>(hU 0)) (λ_=>(cD 0)) (λ_ _ _ _ _ _=>(jU (cb (Lc hr.units) (aa 0) (aa 1)))) (λ_ _ _ _ _ _=>(aa 0))) aD)))))
def zdE:U9 ["self","at","one","other"] ["self","at"] (aK vx):=cM
def yd(C:XW):DS:=(aB (dG (di 2 (bK (aP 2) pX)) (d2 av (d1 (aG C "ties") ak) az)) (cU (d2 qS (d2 qS (d2 qM (d2 av (d1 (aG C "weights") ak) az) (d1 (aG C "parts") ak)) (d2 av (d1 (aG C "around") ak) aN)) (d2 av (d1 (aG C "around") ak) bc))))
def kG(C:XW):Ql D->Qo Ev:=dy 2 ["self","at","one","other"] (yd C)
def KW{C:XW}(cl:Vh K C)(W6:UH K C "around")(Xv:UH K C "parts")(Wk:UH K C "ties")(ZU:UH K C "weights")(Fn:L2.UX K "left_between" "Pieces.left_between" vx ad fd)(bu:VD mg):=fq P w base mg 0 zdE (yd C) Fn λhr=>aY (nV (bg (cI cl Wk (aa 0)) (aa 1)) (i9 zdE.nd 2 3) (jI 2 3)) (bo (eD (bG wO (bG wO (bG (Xu.or gH) (bg (cI cl ZU (aa 0)) (aa 1)) (cI cl Xv (aa 0))) (bg (cI cl W6 (aa 0)) (aa 2))) (bg (cI cl W6 (aa 0)) (aa 3)))))
def zdG:U9 ["self","growing","at"] ["self","growing"] (aK vC):=cM
def Eo(C:XW):DS:=(aB (mY (aP 2) (ai bI (ae (d1 (aG C "ties") ak) ao)) (bZ (o6 (aH (d2 qG (cj C "growing_beside" (lQ C) ak (ae aN uw)) bq)) (aH (d2 (kI gz λi j=>.bl (decide (i<=j))) (cj C "left_between" (kG C) ak eO) bq))) (gU 2) dm)) (cU iU))
def zM(C:XW):Ql D->Qo Ev:=dy 2 ["self","growing","at"] (Eo C)
def K4{C:XW}(cl:Vh K C)(Wk:UH K C "ties")(Fn:L2.UX K "first_full" "Pieces.first_full" vC ad fd)(bu:VD mg)(zdb:YK P w K mg base C "growing_beside" 1 (lQ C))(zda:YK P w K mg base C "left_between" 1 (kG C)):=fq P w base mg 1 zdG (Eo C) Fn λhr=>aY (Bm PassesOwn.never rfl rfl bu.Wz (cQ gn rfl bu.Xe PySem.boot_len (au (cI cl Wk (aa 0)) aD)) (fV zdG.nd 2) (cD 2) (bo (fg (L2.PW.pt (II (cb mq (mm cl zdb hr.mono (aa 0) (au (aa 2) (au (aa 1) aD))) aJ) (IH (cb La (mm cl zda hr.mono (aa 0) (au (aa 2) aD)) aJ)))) (bo (me 2)) fH))) (bo (eD nY))
def zbe:U9 ["self","at","one","other","joined","point"] ["self","at"] (aK vp):=cM
def sP(C:XW):DS:=(aB (dG (jg 2 (bK (aP 2) pX)) (ba 1 [0] (gj (d2 av (d1 (aG C "ties") ak) az)) br bS (d2 av (d1 (aG C "piece_of") az) ak))) (aB (aL 4 (ai gb (ae (d2 cN (d2 av (d1 (aG C "points") ak) aN) (d2 av (d1 (aG C "points") ak) bc)) ao))) (aB (tJ 4 5 (m4 0 C "piece_of" cK (ai bI (ae (d1 (aG C "points") ak) ao)))) (aB (tL 0 4 C "points") (aB (lG 0 C "widths" bq) (aB (lG 0 C "paid" (d2 cN (d2 av (d1 (aG C "paid") ak) aN) (d2 av (d1 (aG C "paid") ak) bc))) (lG 0 C "taken" az)))))))
def zI(C:XW):Ql D->Qo D:=kX 2 ["self","at","one","other","joined","point"] (sP C)
def KQ{C:XW}(cl:Vh K C)(WK:UH K C "paid")(W5:UH K C "piece_of")(WJ:UH K C "points")(Yq:UH K C "taken")(Wk:UH K C "ties")(Wr:UH K C "widths")(Fn:L2.UX K "take" "Pieces.take" vp ad fd)(bu:VD mg):=rO P w base mg 0 zbe (sP C) Fn λhr=>(dO (Bw (j4 [0] ["end","self"] rfl (rB (bg (cI cl Wk (aa 0)) (aa 1))) (λ_ _ _ _ _ _=>(bg (cI cl W5 (aa 1)) (aa 0)))) (wF zbe.nd 2 3) (uF 2 3) (Mm (sr (sq (by decide)) (sr (sq (by decide)) Dr)))) (dO (Ju (i:=4) (by decide) zbe.nd rfl (iD rfl) (cQ o9 rfl bu.YV boot_sorted (au (bG (Wy.or eR) (bg (cI cl WJ (aa 0)) (aa 2)) (bg (cI cl WJ (aa 0)) (aa 3))) aD))) (dO (Jt (J:=[0,4]) (Jy (by decide) (by decide) PassesOwn.never rfl (fV zbe.nd 5) (mf (Jx 0 cl W5 (aa 5) (cQ gn rfl bu.Xe PySem.boot_len (au (cI cl WJ (aa 0)) aD)))))) (dO (JA 0 4 cl WJ) (dO (wm 0 cl Wr aJ) (dO (wm 0 cl WK (bG (Wy.or eR) (bg (cI cl WK (aa 0)) (aa 2)) (bg (cI cl WK (aa 0)) (aa 3)))) (mf (wm 0 cl Yq (aa 1)))))))))
def HR:U9 ["self"] ["self"] (aK vy):=cM
def sQ(C:XW):DS:=(aB (tM 0 C "parts" iy) (aB (eJ 0 C "widths" (ba 1 [] (dX (d1 (aG C "widths") ak)) br bS (d2 qM iy ak))) (aB (eJ 0 C "paid" (ba 1 [] (dX (d1 (aG C "paid") ak)) br bS (d2 qM iy ak))) (eJ 0 C "around" (ba 1 [] (dX (d1 (aG C "around") ak)) br bS (d2 qM iy ak))))))
def zK(C:XW):Ql D->Qo D:=kX 1 ["self"] (sQ C)
def KY{C:XW}(cl:Vh K C)(W6:UH K C "around")(WK:UH K C "paid")(Xv:UH K C "parts")(Wr:UH K C "widths")(Fn:L2.UX K "halve_parts" "Pieces.halve_parts" vy ad fd)(bu:VD mg):=rO P w base mg 0 HR (sQ C) Fn λhr=>(dO (JB 0 cl Xv aJ) (dO (gE 0 cl Wr (j4 [] ["width"] rfl (jY (cI cl Wr (aa 0))) (λ_ _ _ _ _ _=>(bG (Xu.or gH) aJ (aa 0))))) (dO (gE 0 cl WK (j4 [] ["width"] rfl (jY (cI cl WK (aa 0))) (λ_ _ _ _ _ _=>(bG (Xu.or gH) aJ (aa 0))))) (mf (gE 0 cl W6 (j4 [] ["width"] rfl (jY (cI cl W6 (aa 0))) (λ_ _ _ _ _ _=>(bG (Xu.or gH) aJ (aa 0)))))))))
def zdC:U9 ["self","growing","beside"] ["self","growing"] (aK vt):=cM
def ya(C:XW):DS:=(aB (aL 2 (ba 1 [1,0] (cX (ai bI (ae (d1 (aG C "ties") ak) ao))) br bS (cj C "growing_beside" (lQ C) aN kJ))) (cU (ba 2 [0] (lh aN) (di 2 kH) (aH (d2 qG az bq)) (d2 qV (cj C "left_between" (kG C) aN gY) az))))
def zJ(C:XW):Ql D->Qo Ev:=dy 2 ["self","growing","beside"] (ya C)
def KR{C:XW}(cl:Vh K C)(Wk:UH K C "ties")(Fn:L2.UX K "steps_to_full" "Pieces.steps_to_full" vt ad fd)(bu:VD mg)(zdb:YK P w K mg base C "growing_beside" 1 (lQ C))(zda:YK P w K mg base C "left_between" 1 (kG C)):=fq P w base mg 1 zdC (ya C) Fn λhr=>aY (wb (i:=2) 1 [1,0] ["at","growing","self"] zdC.nd rfl (Or.inl rfl) rfl (jX rfl bu.Wz (cQ gn rfl bu.Xe PySem.boot_len (au (cI cl Wk (aa 0)) aD))) (λ_ _ _ _ _=>(hU 0)) (λ_=>(cD 0)) (λ_ _ _ _ _ _=>nS) (λ_ _ _ _ _ _=>(mm cl zdb hr.mono (aa 2) (au (aa 0) (au (aa 1) aD))))) (bo (eD (kQ 2 [0] ["at","many","self"] rfl (BE rfl bu.zcc (aa 2)) (λ_ _ _ _ _=>(i9 (of_decide_eq_true rfl) 0 1)) (λ_=>(jI 0 1)) (λ_ _ _ _ _ _=>(jU (cb mq (aa 1) aJ))) (λ_ _ _ _ _ _=>(bG kW (mm cl zda hr.mono (aa 2) (au (aa 0) aD)) (aa 1))))))
def zbX:U9 ["self","growing","step","piece","point"] ["self","growing","step"] (aK vB):=cM
def En(C:XW):DS:=(tK jF az (aB (jt (λi j=>i+j) 0 C "widths" bc aN) (aB (jt (λi j=>i+j) 0 C "paid" bc aN) (lF 0 3 4 2 C "points" "around"))))
def zL(C:XW):Ql D->Qo D:=kX 3 ["self","growing","step","piece","point"] (En C)
def K3{C:XW}(cl:Vh K C)(W6:UH K C "around")(WK:UH K C "paid")(WJ:UH K C "points")(Wr:UH K C "widths")(Fn:L2.UX K "grow" "Pieces.grow" vB ad fd)(bu:VD mg):=rO P w base mg 0 zbX (En C) Fn λhr=>(mf (Jz (by decide) (Ce Cf (Ce Cf Lg)) PassesOwn.never rfl (aa 1) (fV zbX.nd 3) (dO (Bv 0 cl Wr xO (aa 3) (aa 2)) (dO (Bv 0 cl WK xO (aa 3) (aa 2)) (mf (Jw 0 3 4 2 cl WJ W6 (by decide) PassesOwn.never rfl (fV zbX.nd 4)))))))
def zdD:U9 ["self","wide"] ["self"] (aK vv):=cM
def yb(C:XW):DS:=(aB (aL 1 (ba 2 [] (lh (d1 (aG C "widths") ak)) (di 2 kH) (aH (d2 qG az bq)) ak)) (cU (ai su (ae (gV 1 [0] (dX az) br bS (oZ (gI (fK (ai fN (ae (d2 av (d1 (aG C "points") az) ak) ao))) (gI (fK (ai (aX kF) (ae (d2 av (d1 (aG C "widths") az) ak) (ae (d1 (aG C "parts") az) ao)))) oe)))) ao))))
def iq(C:XW):Ql D->Qo Ev:=dy 1 ["self","wide"] (yb C)
def KU{C:XW}(cl:Vh K C)(Xv:UH K C "parts")(WJ:UH K C "points")(Wr:UH K C "widths")(Fn:L2.UX K "moats" "Pieces.moats" vv ad fd)(bu:VD mg)(zjQ:Xn P w K mg base "fraction" 2 kF):=fq P w base mg 2 zdD (yb C) Fn λhr=>aY (wb (i:=1) 2 [] ["piece","width"] zdD.nd rfl (Or.inl rfl) rfl (BE rfl bu.zcc (cI cl Wr (aa 0))) (λ_ _ _ _ _=>(i9 (of_decide_eq_true rfl) 0 1)) (λ_=>(jI 0 1)) (λ_ _ _ _ _ _=>(jU (cb mq (aa 1) aJ))) (λ_ _ _ _ _ _=>(aa 0))) (bo (eD (cQ (N0 hr.units rfl) rfl bu.YV boot_sorted (au (wH 1 [0] ["piece","self"] rfl (jY (aa 1)) (λ_ _ _ _ _=>(hU 0)) (λ_=>(cD 0)) (λ_ _ _ _ _ _=>nS) (λ_ _ _ _ _ _=>(JS (Bz (BA (rE tZ rfl bu.Zj t9 (au (bg (cI cl WJ (aa 1)) (aa 0)) aD))) (Bz (BA (fX zjQ hr.mono (au (bg (cI cl Wr (aa 1)) (aa 0)) (au (cI cl Xv (aa 1)) aD)))) JF))))) aD))))
def zbd:U9 ["web","wishes","numbers","least","wish","one","other"] ["web","wishes","numbers"] (aK vk):=cM
def El:DS:=(aB (aL 3 (ai (aX pR) (ae ak eO))) (aB (tN (di 2 (bK iT (bK (di 2 (bK (aP 5) (bK (aP 6) eV))) eV))) az (bZ (aH (d2 eU (d2 av bc cK) (d2 av bc dt))) (gU 4) dm)) (cU iU)))
def jB:Ql D->Qo Ev:=dy 3 ["web","wishes","numbers","least","wish","one","other"] El
def KO(Fn:L2.UX K "first_parted" "first_parted" vk ad fd)(bu:VD mg)(zjI:Xn P w K mg base "least_led_to" 1 pR):=fq P w base mg 1 zbd El Fn λhr=>aY (bR zbd.nd 3 (fX zjI hr.mono (au (aa 0) (au (aa 2) aD)))) (aY (Jf PassesOwn.never rfl rfl bu.zcc (aa 1) (BH rfl (mh (fV zbd.nd 4) (mh (i9 zbd.nd 5 6) wB))) (Ao (lW (cD 4) (lW (jI 5 6) uE))) (bo (fg (cb (kU hr.units) (bg (aa 3) (aa 5)) (bg (aa 3) (aa 6))) (bo (me 4)) fH))) (bo (eD nY)))
def zbb:U9 ["pieces","wishes","found","one","other","here","there"] ["pieces","wishes"] (aK uV):=cM
def D8(C:XW):DS:=(aB (aL 2 tE) (aB (fD (di 2 ny) az (aB (iM 5 6 (ae (d2 av (d1 (aG C "piece_of") ak) bc) (ae (d2 av (d1 (aG C "piece_of") ak) bP) ao))) (bZ (aH (d2 eU cK dt)) (tR (gO 2 cK) (gO 2 dt) nD) dm))) (gU 2)))
def kE(C:XW):Ql D->Qo Ev:=dy 2 ["pieces","wishes","found","one","other","here","there"] (D8 C)
def Kr{C:XW}(cl:Vh K C)(W5:UH K C "piece_of")(Fn:L2.UX K "wanting" "wanting" uV ad fd)(bu:VD mg):=fq P w base mg 0 zbb (D8 C) Fn λhr=>aY (bR zbb.nd 2 JT) (aY (nU PassesOwn.never rfl (aa 1) (i9 zbb.nd 3 4) (jI 3 4) (aY (wg (i:=5) (j:=6) rfl zbb.nd rfl rfl (by decide) rfl rfl (au (bg (cI cl W5 (aa 0)) (aa 3)) (au (bg (cI cl W5 (aa 0)) (aa 4)) aD)) rfl) (bo (fg (cb (kU hr.units) (aa 5) (aa 6)) (bo (Ji rF (BI 2 hr.units (aa 5)) (BI 2 hr.units (aa 6)) An An)) fH)))) (bo (me 2)))
def zam:U9 ["web","wishes","taken","kept","at","fewer"] ["web","wishes","taken"] (aK uW):=cM
def D9:DS:=(aB (aL 3 (ai fN eO)) (aB (fD iT (d1 jd aN) (aB (aL 5 (ba 1 [4] (dX bc) br (aH (d2 eU ak az)) ak)) (bZ (aH (d2 mJ (ai (aX jB) (ae ak (ae az gX))) iU)) (eZ 5 (aL 3 cK)) dm))) (cU (ai gb jE))))
def iQ:Ql D->Qo Ev:=dy 3 ["web","wishes","taken","kept","at","fewer"] D9
def Kt(Fn:L2.UX K "needed" "needed" uW ad fd)(bu:VD mg)(zc9:Xn P w K mg base "first_parted" 2 jB):=fq P w base mg 2 zam D9 Fn λhr=>aY (bR zam.nd 3 (rE tZ rfl bu.Zj t9 (au (aa 2) aD))) (aY (nU PassesOwn.never rfl (BK (aa 2)) (fV zam.nd 4) (cD 4) (aY (wb (i:=5) 1 [4] ["own","at"] zam.nd rfl (Or.inl rfl) rfl (jY (aa 3)) (λ_ _ _ _ _=>(hU 0)) (λ_=>(cD 0)) (λ_ _ _ _ _ _=>(jU (cb (kU hr.units) (aa 0) (aa 1)))) (λ_ _ _ _ _ _=>(aa 0))) (bo (fg (cb B8 (fX zc9 hr.mono (au (aa 0) (au (aa 1) (au (aa 5) aD)))) nY) (bo (kO 5 (bR zam.nd 3 (aa 5)))) fH)))) (bo (eD (cQ o9 rfl bu.YV boot_sorted (au (aa 3) aD)))))
def ZR:U9 ["web","weights","wishes","lost","pieces","growing","full"] ["web","weights","wishes"] (aK vh):=cM
def uc(C:XW):DS:=(aB (o4 5 (aL 6 (cj C "first_full" (zM C) bP gX))) (bZ (aH (d2 mJ dt iU)) (aB (iN 4 C "halve_parts" (zK C) ao) (iN 4 C "grow" (zL C) (ae cK (ae (ai (mO dR) (ae (cj C "steps_to_full" (zJ C) bP gX) ao)) ao)))) (aB (iN 4 C "take" (zI C) (ae dt ao)) (aL 5 (ai (aX (kE C)) (ae bP eO))))))
noncomputable def x9(C:XW):DS:=(aB (aL 3 (ai (aX jB) (ae ak (ae aN (ae (jq (ae (ai bI (ae (d2 av ak cV) ao)) ao)) ao))))) (aB (bZ (aH (d2 sy bc iU)) yL dm) (aB (aL 4 (ai (oC C (pU C)) kJ)) (aB (aL 5 (ai (aX (kE C)) (ae bP eO))) (aB (lC (λ_=>200) (lD cK) (uc C)) (tD (ot (fM (eF (ai (aX iQ) (ae ak (ae aN (ae (d1 (aG C "taken") bP) ao))))) (fM (eF (cj C "moats" (iq C) bP ao)) j7)))))))))
def lN(C:XW):Ql D->Qo Ev:=dy 3 ["web","weights","wishes","lost","pieces","growing","full"] (x9 C)
def KL{C:XW}(cl:Vh K C)(Yq:UH K C "taken")(Fn:L2.UX K "join_by_moats" "join_by_moats" vh ad fd)(bu:VD mg)(zc9:Xn P w K mg base "first_parted" 2 jB)(zjY:zfv P w K mg base "Pieces" C 1 (pU C))(zfi:Xn P w K mg base "wanting" 1 (kE C))(zjX:YK P w K mg base C "first_full" 2 (zM C))(zjV:zaY P w K mg base C "halve_parts" 1 (zK C))(zjW:zaY P w K mg base C "grow" 1 (zL C))(zjT:YK P w K mg base C "steps_to_full" 2 (zJ C))(zjS:zaY P w K mg base C "take" 1 (zI C))(zjU:YK P w K mg base C "moats" 3 (iq C))(zjH:Xn P w K mg base "needed" 3 iQ):=fq P w base mg 3 ZR (x9 C) Fn λhr=>aY (bR ZR.nd 3 (fX zc9 hr.mono (au (aa 0) (au (aa 2) (au (wG rfl rfl bu.Zj rfl bu.Wz (au (cQ gn rfl bu.Xe PySem.boot_len (au (bg (aa 0) aJ) aD)) aD)) aD))))) (aY (fg (cb Lb (aa 3) nY) (bo Jb) fH) (aY (bR ZR.nd 4 (JU zjY hr.mono (au (aa 0) (au (aa 1) aD)))) (aY (bR ZR.nd 5 (fX zfi hr.mono (au (aa 4) (au (aa 2) aD)))) (aY (vZ (λ_=>200) PassesOwn.never (IT (aa 5)) (aY (Jd 5 (bR ZR.nd 6 (mm cl zjX hr.mono (aa 4) (au (aa 5) aD)))) (bo (fg (cb B8 (aa 6) nY) (aY (we wU (Jv 4 cl zjV hr.mono)) (bo (we wU (Bu 4 cl zjW hr.mono (au (aa 5) (au (cQ (N2 rfl) rfl bu.zd5 (by decide+kernel) (au (mm cl zjT hr.mono (aa 4) (au (aa 5) aD)) aD)) aD)))))) (aY (we wU (Bu 4 cl zjS hr.mono (au (aa 6) aD))) (bo (bR ZR.nd 5 (fX zfi hr.mono (au (aa 4) (au (aa 2) aD)))))))))) (bo (Ja (JI (BB (λ_=>(BC (fX zjH hr.mono (au (aa 0) (au (aa 2) (au (cI cl Yq (aa 4)) aD)))))) (λ_=>(BB (λ_=>(BC (JV cl zjU hr.mono (aa 4)))) (λ_=>JG)))))))))))
def zao:U9 ["_law_script","_law_k","_law_cell","_law_number"] ["_law_script","_law_k"] (aK ve):=cM
def Eh:DS:=(aB (aL 2 bq) (aB (bZ (aH (d2 qL az (ai bI gY))) (aL 2 (d2 av ak az)) dm) (aB (aL 3 (d2 qR (d2 qP (d2 cN (d2 cN (d2 qR aN (dC (.int 2147483629))) (d2 qM (d2 qM (dC (.int 104729)) az) az)) (dC (.int 11))) (dC (.int 3))) (dC (.int 2147483647)))) (aB (bZ (aH (d2 qL aN (d2 qP pY (dC (.int 18))))) (aL 2 bq) dm) (cU (ai cT (ae aN jE)))))))
def uk:Ql D->Qo Ev:=dy 2 ["_law_script","_law_k","_law_cell","_law_number"] Eh
def KA(Fn:L2.UX K "_law_pool" "_law_pool" ve ad fd)(bu:VD mg):=fq P w base mg 0 zao Eh Fn λhr=>aY (bR zao.nd 2 aJ) (aY (fg (cb rP (aa 1) (cQ gn rfl bu.Xe PySem.boot_len (au (aa 0) aD))) (bo (bR zao.nd 2 (bg (aa 0) (aa 1)))) fH) (aY (bR zao.nd 3 (bG jb (bG wQ (bG (Wy.or eR) (bG (Wy.or eR) (bG jb (aa 2) aJ) (bG (Xu.or gH) (bG (Xu.or gH) aJ (aa 1)) (aa 1))) aJ) aJ) aJ)) (aY (fg (cb rP (aa 2) (bG wQ aJ aJ)) (bo (bR zao.nd 2 aJ)) fH) (bo (eD (fh (au (aa 2) (au (aa 3) aD))))))))
def zdA:U9 ["_law_pool_here","_law_many","_law_found"] ["_law_pool_here","_law_many"] (aK vd):=cM
def Ef(p:XW):WS aj:=(cq (jQ (lY (dz qG (gS p 0 0) (bW aj bq))) (cq (eQ 2 (dz qR (gS p 0 0) jD)) (cq (jP p 0 0 (dz qV (gS p 0 0) jD)) (dv aj (gU 2)))) qN) (cq (jP p 0 1 (dz qR (dz cN (dz qM (gS p 0 1) (bW aj (dC (.int 48271)))) (bW aj (dC (.int 11)))) (bW aj (dC (.int 2147483647))))) (jO (dz qR (dz qV (dz qR (dz qM (gS p 0 1) (gS p 0 1)) (bW aj (dC (.int 2147483629)))) (bW aj (dC (.int 64)))) jD))))
def fT:Int×Int->Ql D->Qo (Ev×(Int×Int)):=gK (ρ:=aj) 2 ["_law_pool_here","_law_many","_law_found"] Ef
def Kz(Fn:L2.UX K "_law_take" "_law_take" vd ad fd)(bu:VD mg):=oa P w base mg 0 zdA Ef Fn λhr=>df (vW (Bg (λ_=>mq) (mi 0) (bF λ_=>aJ)) (df (kM zdA.nd 2 (fW (λ_=>jb) (mi 0) (bF λ_=>(aa 1)))) (df (Bk 0 (fW (λ_=>kW) (mi 0) (bF λ_=>(aa 1)))) (gD (e9 λF=>(me 2))))) vV) (df (Bk 0 (fW (λ_=>jb) (fW (λ_=>(Wy.or eR)) (fW (λ_=>(Xu.or gH)) (mi 0) (bF λ_=>aJ)) (bF λ_=>aJ)) (bF λ_=>aJ))) (gD (qZ (fW (λ_=>jb) (fW (λ_=>kW) (fW (λ_=>jb) (fW (λ_=>(Xu.or gH)) (mi 0) (mi 0)) (bF λ_=>aJ)) (bF λ_=>aJ)) (bF λ_=>(aa 1))))))
def HN:U9 ["_law_pool_here","_law_many"] ["_law_pool_here","_law_many"] (aK uZ):=cM
def Eb(p:XW):WS aj:=(jO (dz qR (dz cN (dz qM (eX p fT (bO iw (bO (bW aj (dC (.int 1000003))) Wg))) (bW aj (dC (.int 1000003)))) (eX p fT (bO iw (bO (bW aj (dC (.int 1000003))) Wg)))) jD))
def zG:Int×Int->Ql D->Qo (Ev×(Int×Int)):=gK (ρ:=aj) 2 ["_law_pool_here","_law_many"] Eb
def Kw(Fn:L2.UX K "_law_wide" "_law_wide" uZ ad fd)(bu:VD mg)(XO:Yi aj P w K mg base "_law_take" 1 fT):=oa P w base mg 1 HN Eb Fn λhr=>gD (qZ (fW (λ_=>jb) (fW (λ_=>(Wy.or eR)) (fW (λ_=>(Xu.or gH)) (gF XO hr.mono (cR (bF λ_=>aa 0) (cR (bF λ_=>aJ) fY))) (bF λ_=>aJ)) (gF XO hr.mono (cR (bF λ_=>aa 0) (cR (bF λ_=>aJ) fY)))) (bF λ_=>(aa 1))))
def zdz:U9 ["_law_pool_here","_law_way"] ["_law_pool_here"] (aK vb):=cM
def Ec(p:XW):WS aj:=(cq (eQ 1 (eX p fT (bO iw (bO (bW aj (dC (.int 8))) Wg)))) (cq (dv aj (bZ (aH (d2 gh az bq)) (cU bq) dm)) (cq (jQ (kK aj (aH (d2 qL az (dC (.int 6))))) (jO (eX p fT (bO iw (bO (bW aj pY) Wg)))) qN) (jO (eX p zG (bO iw (bO (bW aj (d2 cN (d2 qP pY (dC (.int 12))) cV)) Wg)))))))
def pS:Int×Int->Ql D->Qo (Ev×(Int×Int)):=gK (ρ:=aj) 1 ["_law_pool_here","_law_way"] Ec
def Kx(Fn:L2.UX K "_law_weight" "_law_weight" vb ad fd)(bu:VD mg)(XO:Yi aj P w K mg base "_law_take" 1 fT)(zjK:Yi aj P w K mg base "_law_wide" 2 zG):=oa P w base mg 2 zdz Ec Fn λhr=>df (kM zdz.nd 1 (gF XO hr.mono (cR (bF λ_=>aa 0) (cR (bF λ_=>aJ) fY)))) (df (e9 λF=>(fg (cb (mv hr.units) (aa 1) aJ) (bo (eD aJ)) fH)) (df (vW (Bf λ_=>(cb rP (aa 1) aJ)) (gD (qZ (gF XO hr.mono (cR (bF λ_=>aa 0) (cR (bF λ_=>aJ) fY))))) vV) (gD (qZ (gF zjK hr.mono (cR (bF λ_=>aa 0) (cR (bF λ_=>(bG (Wy.or eR) (bG wQ aJ aJ) aJ)) fY)))))))
def zan:U9 ["_law_pool_here","_law_most","_law_many","_law_ties","_law_one","_law_other"] ["_law_pool_here","_law_most"] (aK vc):=cM
def A7:DT:=(aH (d2 gh cK (d2 cN bP cV)))
noncomputable def IE(p:XW):WE aj:=(dz gh (eX p fT (bO iw (bO (bW aj (dC (.int 3))) Wg))) (bW aj bq))
noncomputable def AY(p:XW):WT aj:=(YO (kK aj A7) (lY (IE p)))
noncomputable def FE(p:XW):WS aj:=(jQ (AY p) (dv aj (gW 3 (ai dW (ae bP gX)))) qN)
noncomputable def zb(p:XW):WS aj:=(l6 (aP 5) (kh aj (mS (d2 cN bP cV) aN)) (FE p))
noncomputable def Ee(p:XW):WS aj:=(cq (eQ 2 (dz cN (bW aj cV) (eX p fT (bO iw (bO jD Wg))))) (cq (dv aj (aL 3 (ai cT ao))) (cq (l6 iT (kh aj (cX aN)) (zb p)) (dv aj (eZ 3 (cU (ai dW (ae aN jE))))))))
def uj:Int×Int->Ql D->Qo (Ev×(Int×Int)):=gK (ρ:=aj) 2 ["_law_pool_here","_law_most","_law_many","_law_ties","_law_one","_law_other"] Ee
def Ky(Fn:L2.UX K "_law_web" "_law_web" vc ad fd)(bu:VD mg)(XO:Yi aj P w K mg base "_law_take" 1 fT):=oa P w base mg 1 zan Ee Fn λhr=>df (kM zan.nd 2 (fW (λ_=>(Wy.or eR)) (bF λ_=>aJ) (gF XO hr.mono (cR (bF λ_=>aa 0) (cR (bF λ_=>(aa 1)) fY))))) (df (e9 λF=>(bR zan.nd 3 (fh aD))) (df (vX PassesOwn.never rfl (rm λ_=>(jX rfl bu.Wz (aa 2))) (fV zan.nd 4) (λ_=>(cD 4)) (gD (vX PassesOwn.never rfl (rm λ_=>(BD rfl bu.Wz (bG (Wy.or eR) (aa 4) aJ) (aa 2))) (fV zan.nd 5) (λ_=>(cD 5)) (gD (vW (PW.ptw (IF (Bf λ_=>(cb (mv hr.units) (aa 5) (bG (Wy.or eR) (aa 4) aJ))) (IG (Bg (λ_=>(mv hr.units)) (gF XO hr.mono (cR (bF λ_=>aa 0) (cR (bF λ_=>aJ) fY))) (bF λ_=>aJ))))) (gD (e9 λF=>(wj 3 (jZ (au (aa 4) (au (aa 5) aD)))))) vV))))) (gD (e9 λF=>(kO 3 (eD (jZ (au (aa 2) (au (aa 3) aD)))))))))
def zbc:U9 ["_law_top","_law_bottom","_law_one","_law_other"] ["_law_top","_law_bottom"] (aK vf):=cM
def r6:DS:=(iM 2 3 (ae bc (ae (d2 qR aN bc) ao)))
def xc:DT:=(aH (d2 qG bc bq))
def Ei:DS:=(aB (aL 2 (ai oG gY)) (aB (aL 3 az) (aB (lC (oS 3) xc r6) (cU (ai dW (ae (d2 qV ak aN) (ae (d2 qV az aN) ao)))))))
def um:Ql D->Qo Ev:=dy 2 ["_law_top","_law_bottom","_law_one","_law_other"] Ei
def KC(Fn:L2.UX K "_law_low" "_law_low" vf ad fd)(bu:VD mg):=fq P w base mg 0 zbc Ei Fn λhr=>aY (bR zbc.nd 2 (cQ Fj rfl bu.zd7 Ft (au (aa 0) aD))) (aY (bR zbc.nd 3 (aa 1)) (aY (vZ (oS 3) PassesOwn.never (cb mq (aa 3) aJ) (bo (wg (i:=2) (j:=3) rfl zbc.nd rfl rfl (by decide) rfl rfl (au (aa 3) (au (bG jb (aa 2) (aa 3)) aD)) rfl))) (bo (eD (jZ (au (bG kW (aa 0) (aa 2)) (au (bG kW (aa 1) (aa 2)) aD)))))))
def ZQ:U9 ["_law_pool_here","_law_many","_law_wishes_here","_law_point","_law_wish","_law_at"] ["_law_pool_here","_law_many"] (aK uY):=cM
noncomputable def ze(p:XW):WS aj:=(cq (eQ 4 (mW dW (bO (eX p fT (bO iw (bO (bW aj bc) Wg))) (bO (bW aj bc) Wg)))) (cq (eQ 5 (eX p fT (bO iw (bO (bW aj (d2 cN (ai bI eO) cV)) Wg)))) (dv aj (aL 2 (d2 cN (d2 cN (tw cK aN) (ai cT iS)) (tx cK aN))))))
noncomputable def Ea(p:XW):WS aj:=(cq (dv aj (aL 2 (ai cT ao))) (cq (l6 jF (kh aj (mS cV az)) (ze p)) (dv aj (gU 2))))
def ui:Int×Int->Ql D->Qo (Ev×(Int×Int)):=gK (ρ:=aj) 2 ["_law_pool_here","_law_many","_law_wishes_here","_law_point","_law_wish","_law_at"] Ea
def Kv(Fn:L2.UX K "_law_wishes" "_law_wishes" uY ad fd)(bu:VD mg)(XO:Yi aj P w K mg base "_law_take" 1 fT):=oa P w base mg 1 ZQ Ea Fn λhr=>df (e9 λF=>(bR ZQ.nd 2 (fh aD))) (df (vX PassesOwn.never rfl (rm λ_=>(BD rfl bu.Wz aJ (aa 1))) (fV ZQ.nd 3) (λ_=>(cD 3)) (df (kM ZQ.nd 4 (JO (cR (gF XO hr.mono (cR (bF λ_=>aa 0) (cR (bF λ_=>(aa 3)) fY))) (cR (bF λ_=>(aa 3)) fY)))) (df (kM ZQ.nd 5 (gF XO hr.mono (cR (bF λ_=>aa 0) (cR (bF λ_=>(bG (Wy.or eR) (cQ gn rfl bu.Xe PySem.boot_len (au (aa 2) aD)) aJ)) fY)))) (gD (e9 λF=>(bR ZQ.nd 2 (bG (Wy.or eR) (bG (Wy.or eR) (JQ (aa 2) (aa 5)) (fh (au (aa 4) aD))) (JR (aa 2) (aa 5))))))))) (gD (e9 λF=>(me 2))))
def HP:U9 ["_law_web_here","_law_weights","_law_pieces","_law_came","_law_ties","_law_moats","_law_number","_law_one","_law_other","_law_both","_law_k","_law_joint"] ["_law_web_here","_law_weights"] (aK jN):=cM
def td:DS:=(bZ (aH (d2 qG (d2 av az dt) (d2 av bc (af 10)))) (gW 5 (ai dW (ae (d2 av aN (af 10)) (ae (ai (aX um) (ae (d2 qS (d2 av az dt) (d2 av bc (af 10))) (ae iy ao))) ao)))) dm)
def yC:DS:=aL 3 (d2 cN (ba 1 [9,3] (cX (ai bI jE)) br (aH (d2 j9 ak az)) (d2 av aN ak)) (ai cT (ae (d2 av az dt) ao)))
def yD:DS:=eZ 11 (aL 2 (d2 cN (ba 1 [9,2] (cX (ai bI eO)) br (aH (d2 j9 ak az)) (d2 av aN ak)) (ai cT (ae (af 11) ao))))
def yF:DS:=aL 9 (ba 1 [7,8,2] (cX (ai bI eO)) br (lE (aH (d2 Vr az (d2 av bc ak))) (aH (d2 Vr aN (d2 av bc ak)))) ak)
def yE:DS:=aL 11 (ai gb (ae (d2 cN (d2 av aN (d2 av iu bq)) (d2 av aN (d2 av iu cV))) ao))
def mF:DE:=(ai dW (ae (d2 av az ak) gY))
def Ej:DS:=(aB (aL 2 (gV 1 [] (cX (d2 av ak bq)) br bS (ai cT gY))) (aB (aL 3 (ba 1 [] (cX (d2 av ak bq)) br bS bq)) (aB (aL 4 (ai cT ao)) (aB (aL 5 (ai cT ao)) (aB (fD (aP 6) (mX [1] (ai bI (ae (d2 av ak cV) ao)) mF) (aB (eZ 2 (dG (di 2 (bK (aP 7) (bK (aP 8) eV))) (d2 av (d2 av ak cV) dt))) (aB (yF) (bZ (aH (d2 gh (ai bI (ae iu ao)) iy)) (aB (eZ 9 (gW 4 dt)) (aB (fD (aP 10) iu td) (aB (yE) (aB (yD) (yC))))) dm)))) (eZ 5 (cU (ai dW (ae (ai gb iS) (ae (ai oB gX) ao))))))))))
def pT:Ql D->Qo Ev:=dy 2 ["_law_web_here","_law_weights","_law_pieces","_law_came","_law_ties","_law_moats","_law_number","_law_one","_law_other","_law_both","_law_k","_law_joint"] Ej
def KG(Fn:L2.UX K "_law_due" "_law_due" jN ad fd)(bu:VD mg){lc lP:XW}(UY:fd.code=.ref lc)(hC:RV base lc lP)(hP:(lP,si "_law_due")∈base.tabs)(zjO:Xn P w K mg base "_law_low" 1 um):Vn P w K mg base bT 4 ad fd ["_law_web_here","_law_weights"] (Xr K pT):=by
 have SC:=HP;refine Na (k:=3) Fn SC (λ_ _ e=>CL e) Ej (λ_ _ e=>CK e) (λA outer s H E F hr=>?_);refine aY ?_ ?_
 .exact(bR SC.nd 2 (wH 1 [] ["_law_point"] rfl (jX rfl bu.Wz (bg (aa 0) aJ)) (λ_ _ _ _ _=>(hU 0)) (λ_=>(cD 0)) (λ_ _ _ _ _ _=>nS) (λ_ _ _ _ _ _=>(fh (au (aa 0) aD)))))
 refine aY ?_ ?_
 .exact(bR SC.nd 3 (j4 [] ["_law_point"] rfl (jX rfl bu.Wz (bg (aa 0) aJ)) (λ_ _ _ _ _ _=>aJ)))
 refine aY ?_ ?_
 .exact(bR SC.nd 4 (fh aD))
 refine aY ?_ ?_
 .exact(bR SC.nd 5 (fh aD))
 refine aY ?_ ?_
 .exact(nU PassesOwn.never rfl (JP [1] ["_law_k","_law_weights"] 0 hr.mono rfl hr.units hr.dep UY hC hP rfl bu.YV rfl bu.Wz (cQ gn rfl bu.Xe PySem.boot_len (au (bg (aa 0) aJ) aD)) (λ_ _ _ _ _ _ hr=>(jZ (au (bg (aa 1) (aa 0)) (au (aa 0) aD))))) (fV SC.nd 6) (cD 6) (aY (kO 2 (nV (bg (bg (aa 0) aJ) (aa 6)) (i9 SC.nd 7 8) (jI 7 8))) (aY (bR SC.nd 9 (kQ 1 [7,8,2] ["_law_k","_law_one","_law_other","_law_pieces"] rfl (jX rfl bu.Wz (cQ gn rfl bu.Xe PySem.boot_len (au (aa 2) aD))) (λ_ _ _ _ _=>(hU 0)) (λ_=>(cD 0)) (λ_ _ _ _ _ _=>(jU (L2.PW.pt (vS (cb B9 (aa 1) (bg (aa 3) (aa 0))) (A8 (cb B9 (aa 2) (bg (aa 3) (aa 0)))))))) (λ_ _ _ _ _ _=>(aa 0)))) (bo (fg (cb (mv hr.units) (cQ gn rfl bu.Xe PySem.boot_len (au (aa 9) aD)) aJ) (aY (kO 9 (wj 4 (aa 6))) (aY (nU PassesOwn.never rfl (aa 9) (fV SC.nd 10) (cD 10) (bo (fg (cb mq (bg (aa 1) (aa 6)) (bg (aa 3) (aa 10))) (bo (wj 5 (jZ (au (bg (aa 2) (aa 10)) (au (fX zjO hr.mono (au (bG wO (bg (aa 1) (aa 6)) (bg (aa 3) (aa 10))) (au aJ aD))) aD))))) fH))) (aY (bR SC.nd 11 (cQ o9 rfl bu.YV boot_sorted (au (bG (Wy.or eR) (bg (aa 2) (bg (aa 9) aJ)) (bg (aa 2) (bg (aa 9) aJ))) aD))) (aY (kO 11 (bR SC.nd 2 (bG (Wy.or eR) (kQ 1 [9,2] ["_law_k","_law_both","_law_pieces"] rfl (jX rfl bu.Wz (cQ gn rfl bu.Xe PySem.boot_len (au (aa 2) aD))) (λ_ _ _ _ _=>(hU 0)) (λ_=>(cD 0)) (λ_ _ _ _ _ _=>(jU (cb B7 (aa 0) (aa 1)))) (λ_ _ _ _ _ _=>(bg (aa 2) (aa 0)))) (fh (au (aa 11) aD))))) (bo (bR SC.nd 3 (bG (Wy.or eR) (kQ 1 [9,3] ["_law_k","_law_both","_law_came"] rfl (jX rfl bu.Wz (cQ gn rfl bu.Xe PySem.boot_len (au (aa 3) aD))) (λ_ _ _ _ _=>(hU 0)) (λ_=>(cD 0)) (λ_ _ _ _ _ _=>(jU (cb B7 (aa 0) (aa 1)))) (λ_ _ _ _ _ _=>(bg (aa 2) (aa 0)))) (fh (au (bg (aa 1) (aa 6)) aD))))))))) fH)))))
 exact bo (kO 5 (eD (jZ (au (cQ o9 rfl bu.YV boot_sorted (au (aa 4) aD)) (au (cQ (N1 hr.units rfl) rfl bu.YV boot_sorted (au (aa 5) aD)) aD)))))
def Yo:U9 ["_law_script","_law_k","_law_pool_here","_law_web_here","_law_weights","_law_wishes_here","_law_due_here","_law_found","_law_points","_law_width"] ["_law_script"] (aK vg):=cM
def A6:DS:=(bZ (lE (EX (tu (tF "tuple" (af 7)))) (lE (aH (d2 eU (af 7) dt)) (aH (d2 eU (ba 1 [] (dX (d2 av (af 7) bq)) br (tu (tF "bool" ak)) ak) (ai cT ao))))) (cU (dC (.bl Qf))) dm)
def AZ(C:XW):DS:=(bZ (aH (d2 eU (ai (aX (lN C)) (ae bc (ae bP (ae (d1 jd cK) ao)))) dt)) (cU (dC (.bl Qf))) dm)
noncomputable def ph(C p:XW):WS aj:=(cq (eQ 3 (eX p uj (bO (bW aj aN) (bO (bW aj (dC (.int 8))) Wg)))) (cq (eQ 4 (oW 1 [2] (kh aj (dX (d2 av bc cV))) br qo (eX p pS (bO jD Wg)))) (cq (eQ 5 (eX p ui (bO (bW aj aN) (bO (bW aj (d2 av bc bq)) Wg)))) (cq (dv aj (eZ 4 (aL 6 (ai (aX pT) (ae bc iS))))) (cq (dv aj (aL 7 (ai (aX (lN C)) (ae bc (ae bP gX))))) (cq (dv aj A6) (cq (dv aj (tQ 7 8 9)) (cq (dv aj (tO 7 [cV])) (cq (dv aj (tS 7 bq (dC (.int 7)))) (dv aj (AZ C)))))))))))
noncomputable def x8(C:XW):DS:=(aB (mY uu (ai (ke λi j=>if j>i then j else i) (ae cV (ae (ai (ke λi j=>if j<i then j else i) (ae (ai bI gY) (ae pY ao))) ao))) (aB (aL 2 (ai (aX uk) kJ)) (mZ 2 λp=>(ph C p)))) (cU nD))
def FT(C:XW):Ql D->Qo Ev:=dy 1 ["_law_script","_law_k","_law_pool_here","_law_web_here","_law_weights","_law_wishes_here","_law_due_here","_law_found","_law_points","_law_width"] (x8 C)
def KJ{C:XW}(cl:Vh K C) (Fn:L2.UX K "law" "law" vg ad fd)(bu:VD mg)(zjN:Xn P w K mg base "_law_pool" 1 uk)(zjM:Yi aj P w K mg base "_law_web" 2 uj)(zjL:Yi aj P w K mg base "_law_weight" 3 pS)(zjJ:Yi aj P w K mg base "_law_wishes" 2 ui)(zjP:Xn P w K mg base "_law_due" 4 pT)(zfj:Xn P w K mg base "join_by_moats" 4 (lN C)):=fq P w base mg 4 Yo (x8 C) Fn λhr=>aY (Bm PassesOwn.never rfl rfl bu.Wz (cQ (N4 rfl) rfl bu.zgS (by decide+kernel) (au aJ (au (cQ (N3 rfl) rfl bu.zd5 (by decide+kernel) (au (cQ gn rfl bu.Xe PySem.boot_len (au (aa 0) aD)) (au aJ aD))) aD))) (fV Yo.nd 1) (cD 1) (aY (bR Yo.nd 2 (fX zjN hr.mono (au (aa 0) (au (aa 1) aD)))) (Jc 2 λp=>(df (kM Yo.nd 3 (gF zjM hr.mono (cR (bF λ_=>aa 2) (cR (bF λ_=>aJ) fY)))) (df (IY (i:=4) 1 [2] ["_law_tie","_law_pool_here"] Yo.nd rfl (Or.inl rfl) rfl (rm λ_=>(jY (bg (aa 3) aJ))) (λ_ _ _ _ _=>(hU 0)) (λ_=>(cD 0)) (λ_ _ _ _ _ _=>IP) (λ_ _ _ _ _ _=>(gF zjL hr.mono (cR (bF λ_=>aa 1) fY)))) (df (kM Yo.nd 5 (gF zjJ hr.mono (cR (bF λ_=>aa 2) (cR (bF λ_=>(bg (aa 3) aJ)) fY)))) (df (e9 λF=>(kO 4 (bR Yo.nd 6 (fX zjP hr.mono (au (aa 3) (au (aa 4) aD)))))) (df (e9 λF=>(bR Yo.nd 7 (fX zfj hr.mono (au (aa 3) (au (aa 4) (au (aa 5) aD)))))) (df (e9 λF=>(fg (L2.PW.pt (vS (IU (vU (BM MD (aa 7) rfl bu.zd6 rfl bu.zgR Oh))) (vS (cb (kU hr.units) (aa 7) (aa 6)) (A8 (cb (kU hr.units) (kQ 1 [] ["_law_one"] rfl (jY (bg (aa 7) aJ)) (λ_ _ _ _ _=>(hU 0)) (λ_=>(cD 0)) (λ_ _ _ _ _ _=>(jU (vU (BM ME (aa 0) rfl bu.zd6 rfl bu.zgT Oj)))) (λ_ _ _ _ _ _=>(aa 0))) (fh aD)))))) (bo (eD rF)) fH)) (df (e9 λF=>(Jh 7 8 9 PassesOwn.never rfl (λ_=>wy (fs:=[]) (wx 7) aJ) (i9 Yo.nd 8 9))) (df (e9 λF=>(Jg 7 (wy (wx 7) aJ))) (df (e9 λF=>(Jj 7 (wy (wx 7) aJ) aJ)) (gD (e9 λF=>(fg (cb (kU hr.units) (fX zfj hr.mono (au (aa 3) (au (aa 4) (au (BK (aa 5)) aD)))) (aa 6)) (bo (eD rF)) fH))))))))))))))) (bo (eD rF))
end
def zm(t:Th)(hf:f t=Qs (.cl d))(hi:t[i]?=Qs (.own xs))(hl:xs.length<100000):gW i f t=Qs (.nx (t.set i (.own (xs++[d])))):=by unfold gW;rw[hf];simp only[OY,sC,hi,Ev.ok,Ev.d,hl,decide_true,Bool.and_self,if_true]
def OB(t:Th)(hf:f t=Qs (.cl d))(hi:i<t.length):aL i f t=Qs (.nx (t.set i (.val d))):=by unfold aL;rw[hf];simp only[OY,c9,hi,if_true,QO]
theorem Vk:∀xs:Ql Int,UD (xs.map D.int)=Qt
 |[]=>rfl
 |x::xs=>by have:=Vk xs;assumption
def eP(h1:fa t=Qs ra)(h2:fb t=Qs rb):ai k (ae fa (ae fb ao)) t=k [ra,rb]:=by simp[ai,ae,ao,h1,h2]
def cu(h1:fa t=Qs ra)(h2:fb t=Qs rb):d2 k fa fb t=k ra rb:=by simp[d2,h1,h2]
def nJ(h1:fa t=Qs ra)(h2:fb t=Qs rb)(h3:fc t=Qs rc):ai k (ae fa (ae fb (ae fc ao))) t=k [ra,rb,rc]:=by simp[ai,ae,ao,h1,h2,h3]
def fG(h1:fa t=Qs ra):ai k (ae fa ao) t=k [ra]:=by simp[ai,ae,ao,h1]
def jw(hf:f t=Qs (.cl d))(hi:i<t.length):aL i f t=Qs (.nx (t.set i (.val d))):=OB t hf hi
def fE(hf:f t=Qs (.nw xs))(hi:i<t.length):aL i f t=Qs (.nx (t.set i (.own xs))):=by unfold aL;rw[hf];simp only[OY,c9,hi,if_true,QO]
def sD(n b:Nat)(h:b<n):Vt n (b:Int)=Qs b:=by unfold Vt;simp_all
def get_map(L:Ql Int)(b:Nat)(h:b<L.length):(L.map D.int)[b]?=Qs (.int (L.getD b 0)):=by simp[Rl,h]
def Oy(L:Ql Int)(b:Nat)(h:b<L.length):U2 (L.map D.int) (b:Int)=Qs (.int (L.getD b 0)):=by unfold U2;rw[sD _ _ (by simpa using h)];exact get_map L b h
def MB(L:Ql Int)(b:Nat)(h:b<L.length)(h1:r1.d=.lst (L.map D.int))(h2:r2.d=.int (b:Int)):av r1 r2=Qs (.cl (.int (L.getD b 0))):=by unfold av;rw[h1,h2];show(U2 _ b).map _=_;rw[Oy L b h];simp[flat]
def xW{b:Bool}(h:c t=Qs b):bZ c g1 g2 t=if b then g1 t else g2 t:=by unfold bZ;rw[h];rfl
def iH(h:c t=Qs b)(hb:b=Qt):bZ c g1 g2 t=g1 t:=by rw[xW h,hb];rfl
def sH(h:c t=Qs b)(hb:b=Qf):bZ c g1 g2 t=g2 t:=by rw[xW h,hb];rfl
theorem E9{k:D->Th->Qo Th}{ext:Th}(hk:∀(s:Sl) (x:Int),k (.int x) (s::ext)=Qs (.val (.int x)::ext))(hf:∀x:Int,fe (.val (.int x)::ext)=Qs (.cl (.int (f x)))):∀(xs:Ql Int) (s:Sl),bH k bS fe (xs.map D.int) (s::ext)=Qs ((xs.map f).map D.int)
 |[],s=>rfl
 |x::xs,s=>by simp only[Pa,bH,hk,OY,bS,hf,if_true];rw[E9 hk hf _];rfl
theorem EZ{k:D->Th->Qo Th}{ext:Th}(hk:∀(s:Sl) (x:Int),k (.int x) (s::ext)=Qs (.val (.int x)::ext))(hf:∀x:Int,ft (.val (.int x)::ext)=Qs Qf):∀(xs:Ql Int) (s:Sl),bH k ft fe (xs.map D.int) (s::ext)=Qs []
 |[],s=>rfl
 |x::xs,s=>by simp only[Pa,bH,hk,OY,hf,PU,if_false];exact EZ hk hf _ _
def ML(p:Int)(K:Ql Int)(h1:r1.d=.int p)(h2:r2.d=.lst (K.map D.int)):Vr r1 r2=Qs (.cl (.bl (decide (p∈K)))):=by
 unfold Vr;rw[h1,h2];clear h2;have e1:(K.map D.int).all (λd=>aQ d&&bC 0 d (.int p))=Qt:=by rw[P5];intro d hd;obtain⟨k,_,rfl⟩:=Pj.mp hd;rfl
 have e2:(K.map D.int).any (λd=>cg d (.int p))=decide (p∈K):=by
  induction K with
  |nil=>rfl
  |cons k K ih=>
   have Y6:=‹_›;rw[Pa,Rp,ih Y6,Nv];by_cases h:k=p
   .subst h;simp
   .have:¬p=k:=λq=>h q.symm;simp[h,this]
 show(if aQ _&&(K.map _).all _ then Qs _ else Qn)=_;rw[e1,e2];rfl
def y8(p:Int)(K:Ql Int)(ha:fa t=Qs r1)(hb:fb t=Qs r2)(h1:r1.d=.int p)(h2:r2.d=.lst (K.map D.int)):aH (d2 Vr fa fb) t=Qs (decide (p∈K)):=by unfold aH;rw[cu ha hb,ML p K h1 h2];rfl
def OD(t:Th)(hf:f t=Qs (.cl (.int p)))(hi:t[i]?=Qs (.own (xs.map D.int)))(hl:xs.length<100000):gW i f t=Qs (.nx (t.set i (.own ((xs++[p]).map D.int)))):=by rw[zm t hf hi (by simpa using hl)];simp
def uU(h:g1 t=Qs (.rt r)):aB g1 g2 t=Qs (.rt r):=by simp[aB,h]
def ig(h:c t=Qs b)(hb:b=Qf):bZ c g dm t=Qs (.nx t):=(sH h hb).trans rfl
def Ve(h:g=Qs (.rt r)):g.bind gG=Qs r:=by rw[h];rfl
def ni(h1:fa t=Qs (.cl (.int a)))(h2:fb t=Qs (.cl (.int b))):(d2 cN fa fb) t=Qs (.cl (.int (a+b))):=(cu h1 h2).trans rfl
def uL(h1:fa t=Qs (.cl (.int a)))(h2:fb t=Qs (.cl (.int b))):(d2 qS fa fb) t=Qs (.cl (.int (a-b))):=(cu h1 h2).trans rfl
def CG(h1:fa t=Qs (.cl (.int a)))(h2:fb t=Qs (.cl (.int b)))(hb:b≠0):(d2 qR fa fb) t=Qs (.cl (.int (a.fmod b))):=by rw[cu h1 h2];show(if lI a b=Qt then _ else Qn)=_;rw[T4 (by exact UN hb)]
def oX(h1:fa t=Qs (.cl (.int a)))(h2:fb t=Qs (.cl (.int b)))(hb:b≠0)(hs:sm b=Qt):(d2 qV fa fb) t=Qs (.cl (.int (a.fdiv b))):=by rw[cu h1 h2];show(if Yh a b=Qt then _ else Qn)=_;rw[T4 (by unfold Yh;lia)]
def rX(h1:fa t=Qs (.cl (.int a)))(h2:fb t=Qs (.cl (.int b)))(ha:sm a=Qt)(hb:sm b=Qt):(d2 qM fa fb) t=Qs (.cl (.int (a*b))):=by
 rw[cu h1 h2];have:XQ a b=Qt:=by simp only[XQ];lia
 simp[k6,kI,Ev.d,this]
def r8(h1:fa t=Qs (.cl (.int a)))(h2:fb t=Qs (.cl (.int b))):aH (d2 qL fa fb) t=Qs (decide (a<b)):=by unfold aH;rw[cu h1 h2];rfl
def oN(h1:fa t=Qs (.cl (.int a)))(h2:fb t=Qs (.cl (.int b))):aH (d2 qG fa fb) t=Qs (decide (b<a)):=by unfold aH;rw[cu h1 h2];rfl
def oV(h1:fa t=Qs (.cl (.int a)))(h2:fb t=Qs (.cl (.int b))):aH (d2 gh fa fb) t=Qs (decide (a=b)):=by unfold aH;rw[cu h1 h2];rfl
def wZ(h1:fa t=Qs (.cl (.int a)))(h2:fb t=Qs (.cl (.int b))):aH (d2 eU fa fb) t=Qs (!decide (a=b)):=by unfold aH;rw[cu h1 h2];rfl
def Kc(h1:f t=Qs a)(h2:a=Qf->g t=Qs b):lE f g t=Qs (a||b):=by unfold lE;grind
def wM(h1:f t=Qs a)(h2:g t=Qs b):lE f g t=Qs (a||b):=Kc h1 λ_=>h2
def OE(h1:f t=Qs a)(h2:g t=Qs b):o6 f g t=Qs (a&&b):=by unfold o6;rw[h1];cases a<;>simp[h2]
def oz{xs:Ql Int}(h:f t=Qs r)(hr:r.d=.lst (xs.map D.int)):(ai bI (ae f ao)) t=Qs (.cl (.int (xs.length:Int))):=by rw[fG h];unfold bI;simp only[hr,O0]
def DF(L:Ql Int)(b:Nat)(ha:fa t=Qs r1)(hb:fb t=Qs r2)(h:b<L.length)(h1:r1.d=.lst (L.map D.int))(h2:r2.d=.int (b:Int)):(d2 av fa fb) t=Qs (.cl (.int (L.getD b 0))):=by rw[cu ha hb,MB L b h h1 h2]
def t8{xs:Ql Int}(h:G (rs.map Ev.d)=Qs (.nw (xs.map D.int))):aX G rs=Qs (.nw (xs.map D.int)):=by
 unfold aX;rw[h];simp only[QO,iV];split
 .rfl
 .simp[Vk]
def m8(h:G (rs.map Ev.d)=Qs (.cl d))(hf:flat d=Qt):aX G rs=Qs (.cl d):=by unfold aX;rw[h];simp only[QO,iV];lia
def tV(h1:f t=Qs r)(h2:g t=Qs rs):ae f g t=Qs (r::rs):=by unfold ae;rw[h1,h2];rfl
def jS(h:f t=Qs r):cU f t=Qs (.rt r):=by unfold cU;rw[h];rfl
def sW(h:f t=Qs r)(hd:r.d=.lst ds)(ho:r.ok=Qt):fD k f b t=bL k b ds t:=by
 unfold fD
 simp_all
def Ij(x:Int):∀m:Nat,(Pk m [D.int x]).flatten=(Pk m x).map D.int
 |0=>rfl
 |m+1=>by simp
def Ih(h1:fa t=Qs (.nw [.int x]))(h2:fb t=Qs (.cl (.int (m:Int))))(hm:m<=900):(d2 qM fa fb) t=Qs (.nw ((Pk m x).map D.int)):=by rw[cu h1 h2];show(if([D.int x].length<=100&&decide _)=Qt then Qs _ else Qn)=_;rw[T4 (by simp;lia),TU,Ij]
def uR(n:Nat):Builtin.Range.rangeSize 0 (n:Int) 1=(n:Int):=by
 unfold Builtin.Range.rangeSize
 simp_all
def Ks{n:Nat}(hn:n<=1000):md 0 (n:Int) 1=Qt:=by unfold md;rw[AA (by lia) (by lia),uR];rfl
def xf(h:f t=Qs (.cl (.int (n:Int))))(hn:n<=1000):(jq (ae f ao)) t=Qs (.nw ((ah n).map D.int)):=by
 have e:(ae f ao) t=Qs [.cl (.int n)]:=by simp[ae,ao,h]
 have e2:qX ([Ev.cl (.int n)].map Ev.d)=Qs _:=rfl;unfold jq;rw[e,OY,e2,OY,T4 (by
  rw[Ks hn,uR,UN (by lia)];rfl)]
 unfold qT ah;rw[uR];simp
def Ia(h:f t=Qs r)(hr:r.d=.int (n:Int))(hn:n<=100000):mY k0 f b t=bL k0 b ((ah n).map D.int) t:=by unfold mY;rw[h];simp only[OY,hr];rw[T4 (by exact UN (by lia))];congr 1;unfold eA ah;simp
def Ll(n:Nat):ah (n+1)=ah n++[(n:Int)]:=by unfold ah;rw[List.range_succ];simp
def NP(hf:f t=Qs (.cl (.int (n:Int))))(hn:n<=50000)(hc:dH t cap=Qs (b,c))(he:∀x:Int,fe (.val (.int x)::c.map Sl.val)=Qs (.cl (.int (g x)))): (ba 1 cap (cX f) br bS fe) t=Qs (.nw (((ah n).map g).map D.int)):=by
 unfold ba;have e1:cX f t=Qs (Qt,(ah n).map D.int):=by unfold cX;rw[hf];simp only[OY,Ev.d];rw[T4 (by exact UN (by lia))];unfold eA ah;simp
 rw[e1,hc];simp only[OY];rw[T4 (by simp[ah];assumption)];show(bH _ _ _ _ (Sl.no::c.map _)).bind _=_;rw[(E9 (λ_ _=>rfl) he _ _)];simp only[OY,Vk,QE,if_true]
def xm{xs:Ql Int}(h:f t=Qs r)(hr:r.d=.lst (xs.map D.int)):(ai fN (ae f ao)) t=Qs (.nw (xs.map D.int)):=by rw[fG h];unfold fN;simp only[hr,Vk,QE,if_true]
def lZ(h:f t=Qs r)(hr:r.d=.lst (xs.map D.int))(hl:xs.length<64):(ai gb (ae f ao)) t=Qs (.nw ((dD xs).map D.int)):=by rw[fG h];unfold gb;simp only[hr,xQ,OY];rw[T4 hl]
theorem yM{k:D->Th->Qo Th}{ext:Th}(hk:∀(s:Sl) (x:Int),k (.int x) (s::ext)=Qs (.val (.int x)::ext)):∀(xs:Ql Int) (s:Sl),(∀x∈xs,fe (.val (.int x)::ext)=Qs (.cl (.int (f x))))->bH k bS fe (xs.map D.int) (s::ext)=Qs ((xs.map f).map D.int)
 |[],s,_=>rfl
 |x::xs,s,hf=>by simp only[Pa,bH,hk,OY,bS,hf x (OU ..),if_true];rw[yM hk _ _ λy hy=>hf y (OS _ hy)];rfl
def Fc{xs:Ql Int}(hf:f t=Qs r)(hr:r.d=.lst (xs.map D.int))(hn:xs.length<=50000)(hc:dH t cap=Qs (b,c))(he:∀x∈xs,fe (.val (.int x)::c.map Sl.val)=Qs (.cl (.int (g x)))): (ba 1 cap (dX f) br bS fe) t=Qs (.nw ((xs.map g).map D.int)):=by
 unfold ba;have e1:dX f t=Qs (r.ok,xs.map D.int):=by
  unfold dX
  simp_all
 rw[e1,hc];simp only[OY];rw[T4 (by simpa using hn)];show(bH _ _ _ _ (Sl.no::c.map _)).bind _=_;rw[(yM (λ_ _=>rfl) _ _ he)];simp only[OY,Vk,QE,if_true]
end KX
set_option maxHeartbeats 1000000
namespace KX
open PySem.Spec L2 DL
section
variable {ρ:Res}{t t':Th}{w w1 w2:ρ.γ}{r r2:Ev}{rs:Ql Ev}{p:XW}
def yz(h:f t=Qs r):bW ρ f t w=Qs (r,w):=by simp[bW,h]
def eY(h1:fa t w=Qs (r1,w1))(h2:fb t w1=Qs (r2,w2))(hk:k r1 r2=Qs r):dz k fa fb t w=Qs (r,w2):=by simp[dz,h1,h2,hk]
def pH:(Wg:WA ρ) t w=Qs ([],w):=rfl
def jz(h1:f t w=Qs (r,w1))(h2:g t w1=Qs (rs,w2)):bO f g t w=Qs (r::rs,w2):=by simp[bO,h1,h2]
def Nz(h:g t w=Qs (rs,w1))(hk:k rs=Qs r):mW k g t w=Qs (r,w1):=by simp[mW,h,hk]
def sZ(h:ga t w=Qs (.cl (.adr p)::rs,w1))(hG:G w1 (rs.map Ev.d)=Qs (r,w2)):eX p G ga t w=Qs (iV (rs.all Ev.ok) r,w2):=by simp[eX,h,hG]
def uJ(h:f t w=Qs (.cl (.bl b),w1)):lY f t w=Qs (b,w1):=by simp[lY,h,Ev.d]
def uI(h:f t=Qs b):kK ρ f t w=Qs (b,w):=by simp[kK,h]
def GY(h:f t w=Qs (Qt,w1)):YO f g t w=Qs (Qt,w1):=by simp[DL.YO,h]
def GZ(h:f t w=Qs (Qf,w1)):YO f g t w=g t w1:=by simp[DL.YO,h]
def gC(h:g t=Qs (.nx t')):dv ρ g t w=Qs (.nx t' w):=by simp[dv,h,oL]
def AL(h:g t=Qs (.rt r)):dv ρ g t w=Qs (.rt r w):=by simp[dv,h,oL]
def cH(h:g1 t w=Qs (.nx t' w1)):cq g1 g2 t w=g2 t' w1:=by simp[cq,h]
def vF(h:g1 t w=Qs (.rt r w1)):cq g1 g2 t w=Qs (.rt r w1):=by simp[cq,h]
def vG(h:c t w=Qs (Qt,w1)):jQ c g1 g2 t w=g1 t w1:=by simp[jQ,h]
def vH(h:c t w=Qs (Qf,w1)):jQ c g1 g2 t w=g2 t w1:=by simp[jQ,h]
def qO(h:f t w=Qs (r,w1)):jO f t w=Qs (.rt r w1):=by simp[jO,h]
def l7(h:f t w=Qs (.cl d,w1))(hi:i<t.length):eQ i f t w=Qs (.nx (t.set i (.val d)) w1):=by simp[eQ,h,c9,hi]
def AM(h:f t w=Qs (.nw xs,w1))(hi:i<t.length):eQ i f t w=Qs (.nx (t.set i (.own xs)) w1):=by simp[eQ,h,c9,hi]
def vI(h:fs t w=Qs ((Qt,ds),w1)):l6 k fs b t w=eW k b ds t w1:=by simp[l6,h]
def sI(h:fs t=Qs q):kh ρ fs t w=Qs (q,w):=by simp[kh,h]
def sX(h1:k d t=Qs t1)(h2:b t1 w=Qs (.nx t2 w1)):eW k b (d::ds) t w=eW k b ds t2 w1:=by simp[eW,h1,h2]
def NN{ys:Ql D×ρ.γ}(h1:k d t=Qs t1)(h2:ft t1 w=Qs (Qt,w1))(h3:fe t1 w1=Qs (r,w2))(h4:e8 k ft fe ds t1 w2=Qs (ys.1,w3)):e8 k ft fe (d::ds) t w=Qs (r.d::ys.1,w3):=by simp[e8,h1,h2,h3,h4]
def NA(h1:fs t w=Qs ((b,ds),w1))(h2:dH t cap=Qs (c,cs))(hl:ds.length<=50000)(h3:e8 k ft fe ds (Pk n Sl.no++cs.map Sl.val) w1=Qs (ys,w2))(hf:UD ys=Qt):oW n cap fs k ft fe t w=Qs (.nw ys,w2):=by
 unfold oW
 simp_all
def j6(hl:ds.length+1=k)(h:∀p,g p (qD N p ds) w=Qs (.rt r w1)):gK k N g w ds=Qs (r,w1):=Lw hl λp=>by unfold l8;rw[h p];rfl
end
structure V7(w:Int×Int):Prop where
 c0:0<=w.1
 n0:0<=w.2
 n1:w.2<2147483647
def dZ{w:Int×Int}(h:f t=Qs r):bW aj f t w=Qs (r,w):=yz h
def jl{G:Int×Int->Ql D->Qo (Ev×(Int×Int))}(hi:t[i]?=Qs (.val (.adr p)))(hm:fm t=Qs (.cl (.int m)))(hG:G w [.int m]=Qs (.cl (.int r),w')):eX (ρ:=aj) p G (bO (bW aj (af i)) (bO (bW aj fm) Wg)) t w=Qs (.cl (.int r),w'):=by exact sZ (jz (yz (by unfold af;rw[hi])) (jz (ρ:=aj) (yz hm) pH)) hG
def rD{w:Int×Int}(hi:t[i]?=Qs (.val (.adr p))):gS p i 0 t w=Qs (.cl (.int w.1),w):=by simp[gS,hi];rfl
def BJ{w:Int×Int}(hi:t[i]?=Qs (.val (.adr p))):gS p i 1 t w=Qs (.cl (.int w.2),w):=by simp[gS,hi];rfl
def Jq{w w1:Int×Int}{f:WE aj}(hi:t[i]?=Qs (.val (.adr p)))(h:f t w=Qs (.cl (.int n),w1)):jP p i 0 f t w=Qs (.nx t (n,w1.2)):=by unfold jP;rw[h,hi];exact T4 rfl
def Jp{w w1:Int×Int}{f:WE aj}(hi:t[i]?=Qs (.val (.adr p)))(h:f t w=Qs (.cl (.int n),w1)):jP p i 1 f t w=Qs (.nx t (w1.1,n)):=by unfold jP;rw[h,hi];exact T4 rfl
def oA(h:b≠0):qR (.cl (.int a)) (.cl (.int b))=Qs (.cl (.int (a.fmod b))):=by show(if lI a b then Qs _ else Qn)=_;rw[T4 (by exact UN h)]
def Dw(h:b≠0)(hs:sm b=Qt):qV (.cl (.int a)) (.cl (.int b))=Qs (.cl (.int (a.fdiv b))):=by show(if Yh a b then Qs _ else Qn)=_;rw[T4 (by unfold Yh;lia)]
def xv(ha:sm a=Qt)(hs:sm b=Qt):qM (.cl (.int a)) (.cl (.int b))=Qs (.cl (.int (a*b))):=by
 (try unfold cN);(try unfold qM);unfold k6
 have:(kI XQ λi j=>.int (i*j)) (.cl (.int a)) (.cl (.int b))=Qs (.cl (.int (a*b))):=by show(if XQ a b then Qs _ else Qn)=_;rw[T4 (by unfold XQ;lia)]
 rw[this]
def xC:cN (.cl (.int a)) (.cl (.int b))=Qs (.cl (.int (a+b))):=rfl
def Mx:gh (.cl (.int a)) (.cl (.int b))=Qs (.cl (.bl (decide (a=b)))):=rfl
def Ds:qG (.cl (.int a)) (.cl (.int b))=Qs (.cl (.bl (decide (b<a)))):=rfl
def Wq(h0:0<=a)(h1:a<1000000000000000000):sm a=Qt:=jL (by lia) (by lia)
end KX
set_option maxHeartbeats 4000000
namespace KX
open PySem.Spec L2 DL
noncomputable def pD(p:Int×Int):D:=.tup [.int p.1,.int p.2]
theorem mU:∀ts:Ql (Int×Int),UD (ts.map pD)=Qt
 |[]=>rfl
 |p::ts=>by simp only[Pa,UD,mU _];rfl
def HC (ha:fa t=Qs r)(hb:fb t=Qs (.cl (.int (n:Int))))(hr:r.d=.lst (ts.map pD)):(tw fb fa) t=Qs (.nw ((ts.take n).map pD)):=by unfold tw;rw[ha,hb];simp only[OY,hr];show(if(r.ok||UD _)=Qt then Qs _ else Qn)=_;rw[mU,T4 (by simp),HT.zdI,O0,<-List.map_take];simp
def Fm{xs ys:Ql (Int×Int)}(ha:fa t=Qs (.nw (xs.map pD)))(hb:fb t=Qs (.nw (ys.map pD)))(hl:xs.length+ys.length<=100000):(d2 cN fa fb) t=Qs (.nw ((xs++ys).map pD)):=by
 rw[cu ha hb,Qg];show iF (.nw _) (.nw _)=_;unfold iF;simp only[Ev.d,Ev.ok,R8,TQ]
 simp_all
def LR (h:f t=Qs r)(hr:r.d=.lst (ts.map pD)):(ai fN (ae f ao)) t=Qs (.nw (ts.map pD)):=by rw[fG h];unfold fN;simp only[hr,mU,QE,if_true]
end KX
set_option maxHeartbeats 1000000
namespace KX
open PySem.Spec L2 DL
def wu(h1:fa t=Qs (.cl (.int a)))(h2:fb t=Qs (.cl (.int b)))(h:pf a b=Qt):(d2 qP fa fb) t=Qs (.cl (.int (a^b.toNat))):=by rw[cu h1 h2];show(if pf a b then Qs _ else Qn)=_;rw[T4 h]
def JC(ns:Ql Int)(hl:ns.length<=63){k:Nat}(hk:k<=100):∃c n:Int,V7 (c,n)/\uk [.lst (ns.map D.int),.int (k:Int)]=Qs (.nw [.int c,.int n]):=by
 let N:Sl:=.val (.lst (ns.map D.int))
 let K:Sl:=.val (.int k)
 have c1:=r8 (fa:=af 1) (t:=[N,K,.val (.int 0),.no]) rfl (oz (f:=af 0) rfl rfl);obtain⟨v,E2⟩:∃v:Int,(bZ _ (aL 2 _) _) _=Qs (.nx [N,K,.val _,.no]):=by
  by_cases h:(k:Int)<ns.length
  .exact⟨_,(iH c1 (UN h)).trans (jw (DF (fa:=af 0) (fb:=af 1) _ k rfl rfl (by lia) rfl rfl) (by simp))⟩
  .exact⟨0,ig c1 (VN h)⟩
 let t2:=[N,K,.val (.int v),.no]
 have f0:0<=v.fmod 2147483629:=QW _ (by simp);have f1:v.fmod _<2147483629:=Rf _ (by simp);have kk:k*k<=10000:=by have:=Tn hk hk;lia
 have m2:=rX (fb:=af 1) (rX (fa:=dC (.int 104729)) (fb:=af 1) (t:=t2) rfl rfl (jL (by decide) (by simp)) (jL (by lia) (by lia))) rfl (jL (by lia) (by lia)) (jL (by lia) (by lia));rw[(Sg _ _ _)]at m2;have n1:=CG (wu (ni (ni (CG (fa:=af 2) (fb:=dC (.int 2147483629)) rfl rfl (by decide)) m2) (rfl:dC (.int 11) _=Qs _)) (rfl:dC (.int 3) _=Qs _) ((UN (by lia)))) (rfl:dC (.int 2147483647) _=Qs _) (by decide);have g0:=QW ((v.fmod 2147483629+104729*(k*k)+11)^(3:Int).toNat) (show 0<2147483647 by simp);have g1:=Rf ((v.fmod 2147483629+104729*(k*k)+11)^(3:Int).toNat) (show 0<2147483647 by simp);generalize ((v.fmod _+104729*(k*k)+11)^(3:Int).toNat).fmod _=n at*
 let t3:=[N,K,.val (.int v),.val (.int n)]
 have c4:=r8 (fa:=af 2) rfl (wu (fa:=dC (.int 10)) (fb:=dC (.int 18)) (t:=t3) rfl rfl (by rfl));obtain⟨c,c0,E4⟩:∃c:Int,0<=c/\(bZ _ (aL 2 bq) _) _=Qs (.nx [N,K,.val _,.val _]):=by
  by_cases h:v<10^(18:Int).toNat
  .exact⟨0,QD _,(iH c4 (UN h)).trans rfl⟩
  .have:(0:Int)<=10^(18:Int).toNat:=by simp
   exact⟨v,by lia,ig c4 (VN h)⟩
 refine⟨c,n,⟨c0,g0,g1⟩,?_⟩;refine Ve ?_;exact(aE rfl).trans ((aE E2).trans ((aE (jw n1 (by simp[t2]))).trans ((aE E4).trans rfl)))
def jJ(hw:V7 w)(m0:0<m)(hs:sm m=Qt):∃(r:Int) (w':Int×Int),0<=r/\r<m/\V7 w'/\fT w [.int m]=Qs (.cl (.int r),w'):=by
 obtain⟨h0,h1,h2⟩:=hw;by_cases hc:0<w.1
 .refine⟨w.1.fmod m,(w.1.fdiv m,w.2),QW _ m0,Rf _ m0,⟨Int.fdiv_nonneg h0 (by lia),h1,h2⟩,j6 rfl λp=>?_⟩;let t0:Th:=[.val (.adr p),.val (.int m),.no]
  let t1:Th:=[.val (.adr p),.val (.int m),.val (.int (w.1.fmod m))]
  have e1:=uJ (eY (ρ:=aj) (rD (i:=0) (w:=w) rfl) (dZ (rfl:dC (.int 0) t0=Qs _)) Ds);rw[UN hc]at e1;refine vF ((vG e1).trans ((cH (l7 (eY (ρ:=aj) (rD (t:=t0) rfl) (dZ rfl) (oA (by lia))) (by simp[t0]))).trans ((cH (Jq rfl (eY (rD rfl) (dZ rfl) (Dw (by lia) hs)))).trans ?_)));rfl
 .obtain⟨n',hn'⟩:∃n',n'=(w.2*48271+11).fmod 2147483647:=⟨_,rfl⟩;have n0:0<=n':=by lia
  have n1:n'<2147483647:=by lia
  refine⟨(((n'*n').fmod 2147483629).fdiv 64).fmod m,(w.1,n'),QW _ m0,Rf _ m0,⟨h0,n0,n1⟩,j6 rfl λp=>?_⟩;let t0:Th:=[.val (.adr p),.val (.int m),.no]
  have e1:=uJ (eY (ρ:=aj) (rD (i:=0) (w:=w) rfl) (dZ (rfl:dC (.int 0) t0=Qs _)) Ds);rw[VN hc]at e1;have e2:=Jp (i:=0) rfl (eY (eY (eY (ρ:=aj) (BJ (i:=0) rfl) (dZ (rfl:dC (.int 48271) t0=Qs _)) (xv (Wq h1 (by lia)) (Wq (by simp) (by simp)))) (dZ (rfl:dC (.int 11) _=Qs _)) xC) (dZ (rfl:dC (.int 2147483647) _=Qs _)) (oA (by decide)));rw[<-hn']at e2;have g1:=BJ (i:=0) (t:=t0) (w:=(w.1,n')) rfl;exact(cH ((vH e1).trans rfl)).trans ((cH e2).trans (qO (eY (eY (eY (eY g1 g1 (xv (Wq n0 (by lia)) (Wq n0 (by lia)))) (dZ rfl) (oA (by decide))) (dZ rfl) (Dw (by decide) (Wq (by simp) (by simp)))) (dZ rfl) (oA (by lia)))))
def Gh(hw:V7 w)(m0:0<m):∃(r:Int) (w':Int×Int),0<=r/\r<m/\V7 w'/\zG w [.int m]=Qs (.cl (.int r),w'):=by
 obtain⟨a,w1,a0,a1,o1,e1⟩:=jJ hw (m:=1000003) (by simp) (Wq (by simp) (by simp));obtain⟨b,w2,b0,b1,o2,e2⟩:=jJ o1 (m:=1000003) (by simp) (Wq (by simp) (by simp));refine⟨(a*1000003+b).fmod m,w2,QW _ m0,Rf _ m0,o2,j6 rfl λp=>?_⟩;let t0:Th:=[.val (.adr p),.val (.int m)]
 exact qO (eY (eY (eY (jl rfl rfl e1) (dZ rfl) (xv (Wq a0 (by lia)) (Wq (by simp) (by simp)))) (jl rfl rfl e2) xC) (dZ rfl) (oA (by lia)))
def Gi(hw:V7 w):∃(r:Int) (w':Int×Int),0<=r/\r<=1000000000000/\V7 w'/\pS w []=Qs (.cl (.int r),w'):=by
 obtain⟨a,w1,a0,a1,o1,e1⟩:=jJ hw (m:=8) (by simp) (Wq (by simp) (by simp));have first:∀p,eQ 1 (eX p fT (bO iw (bO (bW aj (dC (.int 8))) Wg))) [.val (.adr p),.no] w=Qs (.nx [.val (.adr p),.val (.int a)] w1):=λp=>l7 (i:=1) (jl (i:=0) (t:=[.val (.adr p),.no]) (p:=p) rfl rfl e1) (by simp)
 have q:∀p:XW,aH (d2 gh az bq) [.val (.adr p),.val (.int a)]=Qs (decide (a=0)):=λp=>oV (fa:=af 1) (fb:=dC (.int 0)) (a:=a) (b:=0) rfl rfl;by_cases h0:a=0
 .refine⟨0,w1,QD _,by simp,o1,j6 rfl λp=>?_⟩;refine(cH (first p)).trans (vF (AL ((iH (q p) (UN h0)).trans rfl)))
 .have skip:∀p:XW,dv aj (bZ (aH (d2 gh az bq)) (cU bq) dm) [.val (.adr p),.val (.int a)] w1=Qs (.nx [.val (.adr p),.val (.int a)] w1):=λp=>gC (ig (q p) (VN h0));have q2:∀p:XW,kK aj (aH (d2 qL az (dC (.int 6)))) [.val (.adr p),.val (.int a)] w1=Qs (decide (a<6),w1):=λp=>uI (r8 (fa:=af 1) (fb:=dC (.int 6)) (a:=a) (b:=6) rfl rfl);by_cases h6:a<6
  .obtain⟨b,w2,b0,b1,o2,e2⟩:=jJ o1 (m:=10) (by simp) (Wq (by simp) (by simp));refine⟨b,w2,b0,by lia,o2,j6 rfl λp=>?_⟩;have z:=q2 p;rw[UN h6]at z;exact(cH (first p)).trans ((cH (skip p)).trans (vF ((vG z).trans (qO (jl rfl rfl e2)))))
  .obtain⟨b,w2,b0,b1,o2,e2⟩:=Gh o1 (m:=1000000000001) (by simp);refine⟨b,w2,b0,by lia,o2,j6 rfl λp=>?_⟩;have z:=q2 p;rw[VN h6]at z;exact(cH (first p)).trans ((cH (skip p)).trans ((cH ((vH z).trans rfl)).trans (qO (jl rfl (ni (wu rfl rfl (by rfl)) rfl) e2))))
structure Wt(M:Nat)(ts:List (Int×Int)):Prop where
 pos:0<M
 lt:∀e∈ts,0<=e.1/\e.1<e.2/\e.2<(M:Int)
def OC(h6:t[4]?=Qs (.val (.int a)))(h7:t[5]?=Qs (.val (.int b)))(h5:t[3]?=Qs (.own (ts.map pD)))(hl:ts.length<100000):gW 3 (ai dW (ae (af 4) (ae (af 5) ao))) t=Qs (.nx (t.set 3 (.own ((ts++[(a,b)]).map pD)))):=by
 have e6:af 4 t=Qs (.cl (.int a)):=by unfold af;rw[h6]
 have e7:af 5 t=Qs (.cl (.int b)):=by unfold af;rw[h7]
 have:=zm t ((eP (k:=dW) e6 e7).trans rfl) h5 (by rw[O0];assumption);rw[this,Qg];rfl
abbrev tI(p:XW)(s1:Sl)(M:Nat)(ts:Ql (Int×Int))(a:Int)(s5:Sl):Th:=[.val (.adr p),s1,.val (.int (M:Int)),.own (ts.map pD),.val (.int a),s5]
theorem xg{M:Nat}(a0:0<=a):∀(bs:Ql Int) (ts:Ql (Int×Int)) (w:Int×Int),V7 w->(∀b∈bs,a<b/\b<(M:Int))->ts.length+bs.length<100000->(∀e∈ts,0<=e.1/\e.1<e.2/\e.2<(M:Int))->∃(Wl:Ql (Int×Int)) (w':Int×Int),V7 w'/\Wl.length<=ts.length+bs.length/\(∀e∈Wl,0<=e.1/\e.1<e.2/\e.2<(M:Int))/\((∀e∈ts,e∈Wl)/\∀b∈bs,b=a+1->(a,b)∈Wl)/\∀(p:XW) (s1 s5:Sl),∃u5,eW (aP 5) (FE p) (bs.map D.int) (tI p s1 M ts a s5) w=Qs (.nx (tI p s1 M Wl a u5) w')
 |[],ts,w,ok,_,_,ht=>⟨ts,w,ok,by simp,ht,⟨λe h=>h,λb h=>nomatch h⟩,λp s1 s5=>⟨s5,rfl⟩⟩
 |b::bs,ts,w,ok,hb,hl,ht=>by
  rw[PM]at hl;have c2:∀p s1,A7 (tI p s1 M ts a (.val (.int b)))=Qs _:=λp s1=>oV rfl (ni rfl rfl);have test:∃(c:Bool) (w1:Int×Int),V7 w1/\(b=a+1->c=Qt)/\∀p s1,AY p (tI p s1 M ts a (.val (.int b))) w=Qs (c,w1):=by
   by_cases z:b=a+1
   .refine⟨Qt,w,ok,λ_=>rfl,λp s1=>?_⟩;have:=c2 p s1;rw[UN z]at this;exact GY (uI this)
   .obtain⟨r,w1,r0,r1,o1,e1⟩:=jJ ok (m:=3) (by simp) (Wq (by simp) (by simp));refine⟨decide (r=0),w1,o1,λq=>absurd q z,λp s1=>?_⟩;have:=c2 p s1;rw[VN z]at this;exact(GZ (uI this)).trans (uJ (eY (jl rfl rfl e1) (dZ rfl) Mx))
  obtain⟨c,w1,o1,hc,Xp⟩:=test;cases c with
  |true=>
   have el:(ts++[(a,b)]).length=ts.length+1:=by simp
   obtain⟨Wl,w',o',l',h',⟨YS,Zg⟩,run⟩:=xg a0 _ (ts++[(a,b)]) _ o1 (λb XI=>hb b (OS _ XI)) (by lia) (λe he=>by
    rcases OT.mp he with z|z
    .exact ht e z
    .simp_all)
   refine⟨Wl,w',o',by rw[PM];lia,h',⟨λe he=>YS e (OR _ he),λx hx q=>?_⟩,λp s1 s5=>?_⟩
   .rcases OZ.mp hx with z|z
    .simp_all
    .exact Zg x z q
   .obtain⟨u5,e⟩:=run p _ _;refine⟨u5,(sX rfl ((vG (Xp p _)).trans (gC (OC (t:=(tI p _ M _ a _)) rfl rfl rfl (by lia))))).trans e⟩
  |false=>
   obtain⟨Wl,w',o',l',h',⟨YS,Zg⟩,run⟩:=xg a0 _ _ _ o1 (λb XI=>hb b (OS _ XI)) (by lia) ht;refine⟨Wl,w',o',by rw[PM];lia,h',⟨YS,λx hx q=>?_⟩,λp s1 s5=>?_⟩
   .rcases OZ.mp hx with z|z
    .exact nomatch hc (z▸q)
    .exact Zg x z q
   .obtain⟨u5,e⟩:=run p _ _;exact⟨u5,(sX rfl ((vH (Xp p _)).trans rfl)).trans e⟩
def above(a:Int)(M:Nat):Ql Int:=(P0 ((M:Int)-(a+1)).toNat).map λ(i:Nat)=>a+1+(i:Int)
def OG:∀b∈above a M,a<b/\b<(M:Int):=λb hb=>by obtain⟨i,hi,rfl⟩:=Pj.mp hb;have:=Qq.mp hi;lia
theorem CU{M:Nat}(hM:M<=60):∀(as:Ql Int) (ts:Ql (Int×Int)) (w:Int×Int),V7 w->(∀a∈as,0<=a/\a<(M:Int))->ts.length+60*as.length<90000->(∀e∈ts,0<=e.1/\e.1<e.2/\e.2<(M:Int))->∃(Wl:Ql (Int×Int)) (w':Int×Int),V7 w'/\Wl.length<=ts.length+(as.map λa=>(above a M).length).sum/\(∀e∈Wl,0<=e.1/\e.1<e.2/\e.2<(M:Int))/\((∀e∈ts,e∈Wl)/\∀a∈as,a+1<(M:Int)->(a,a+1)∈Wl)/\∀(p:XW) (s1 s4 s5:Sl),∃u4 u5,eW iT (zb p) (as.map D.int) [.val (.adr p),s1,.val (.int (M:Int)),.own (ts.map pD),s4,s5] w=Qs (.nx [.val (.adr p),s1,.val (.int (M:Int)),.own (Wl.map pD),u4,u5] w')
 |[],ts,w,ok,_,_,ht=>⟨ts,w,ok,by simp,ht,⟨λe h=>h,λa h=>nomatch h⟩,λp s1 s6 s7=>⟨s6,s7,rfl⟩⟩
 |a::as,ts,w,ok,ha,hl,ht=>by
  rw[PM]at hl;obtain⟨a0,a1⟩:=ha a (OU ..);have al:(above a M).length<=60:=by unfold above;rw[O0,RM];lia
  obtain⟨ts1,w1,o1,l1,h1,⟨YS,Zg⟩,zb0⟩:=xg (M:=M) a0 (above a M) ts w ok OG (by lia) ht;obtain⟨Wl,w',o',l',h',⟨q1,q2⟩,run⟩:=CU hM as ts1 w1 o1 (λb hb=>ha b (OS _ hb)) (by lia) h1;refine⟨Wl,w',o',by rw[Pa,Va];lia,h',⟨λe he=>q1 e (YS e he),λx hx lt=>?_⟩,λp s1 s6 s7=>?_⟩
  .rcases OZ.mp hx with z|z
   .subst z;refine q1 _ (Zg _ ?_ rfl);exact Pj.mpr ⟨0,Qq.mpr (by lia),by lia⟩
   .exact q2 x z lt
  .obtain⟨v7,e1⟩:=zb0 p s1 s7;obtain⟨u6,u7,e⟩:=run p s1 (.val (.int a)) v7;refine⟨u6,u7,?_⟩;let t:=[.val (.adr p),s1,.val (.int M),.own (ts.map pD),.val (.int a),s7]
   exact(sX rfl ((vI (sI (by
    unfold mS;show(if eG M&&eG _ then Qs _ else Qn)=_;rw[T4 (by unfold eG;rw[UN (by lia),UN (by lia)];rfl)];unfold above eA;rw[Pe];rfl))).trans e1)).trans e
def Nn:∀M:Nat,M<=9->((ah M).map λa=>(above a M).length).sum<=36:=by intro M h;rcases(by lia:M=0\/M=1\/M=2\/M=3\/M=4\/M=5\/M=6\/M=7\/M=8\/M=9) with rfl|rfl|rfl|rfl|rfl|rfl|rfl|rfl|rfl|rfl<;>decide
def Gj(hw:V7 w)(m0:0<m)(m1:m<=60):∃(M:Nat) (ts:Ql (Int×Int)) (w':Int×Int),(Wt M ts/\∀a,0<=a->a+1<(M:Int)->(a,a+1)∈ts)/\(M:Int)<=m/\ts.length<=((ah M).map λa=>(above a M).length).sum/\V7 w'/\uj w [.int m]=Qs (.cl (.tup [.int (M:Int),.lst (ts.map pD)]),w'):=by
 obtain⟨a,w1,a0,a1,o1,e1⟩:=jJ hw m0 (Wq (by lia) (by lia));obtain⟨M,hM⟩:∃M:Nat,1+a=M:=⟨(1+a).toNat,by lia⟩;have inN:∀{x},x∈ah M->0<=x/\x<M:=λ{x} hx=>by obtain⟨i,hi,rfl⟩:=Pj.mp hx;have:=Qq.mp hi;lia
 obtain⟨ts,w',o',l',h',⟨_,q2⟩,run⟩:=CU (by lia) _ [] _ o1 (λx hx=>inN hx) (by unfold ah;simp;lia) (λe he=>by cases he);refine⟨M,ts,w',⟨⟨by lia,h'⟩,λx x0 x1=>q2 x ?_ x1⟩,by lia,by simp_all,o',j6 rfl λp=>?_⟩
 .exact Pj.mpr ⟨x.toNat,Qq.mpr (by lia),by lia⟩
 obtain⟨u6,u7,e⟩:=run p (.val (.int m)) .no .no;let t0:Th:=[.val (.adr p),.val (.int m),.no,.no,.no,.no]
 have E1:=l7 (i:=2) (eY (ρ:=aj) (dZ (rfl:dC (.int 1) _=Qs _)) (jl (i:=0) rfl (rfl:af 1 t0=Qs _) e1) xC) (by simp[t0]);rw[hM]at E1;let t4:Th:=[.val (.adr p),.val (.int m),.val (.int M),.own [],.no,.no]
 have rg:cX aN t4=Qs (Qt,(ah M).map D.int):=by show(if eG _ then Qs _ else Qn)=_;rw[T4 (by exact UN (by lia))];unfold eA ah;simp
 refine(cH E1).trans ((cH (gC rfl)).trans ((cH ((vI (ρ:=aj) (k:=aP 4) (b:=zb p) (sI (ρ:=aj) (w:=w1) rg)).trans e)).trans ?_));rfl
abbrev Eg:=Int×Int
inductive Eqv(es:List Eg):Int->Int->Prop
 |refl (u:Int):Eqv es u u
 |Xy {a b:Int}:(a,b)∈es->Eqv es a b
 |symm {u v:Int}:Eqv es u v->Eqv es v u
 |trans {u v w:Int}:Eqv es u v->Eqv es v w->Eqv es u w
def Eqv.mono(k:∀e∈es,e∈Vd)(h:Eqv es u v):Eqv Vd u v:=by
 induction h with
 |refl u=>exact .refl u
 |Xy h=>exact .Xy (k _ h)
 |symm _ ih=>exact .symm ih
 |trans _ _ i1 i2=>exact .trans i1 i2
def Eqv.pred{p:Int->Prop}(k:∀e∈es,(p e.1↔p e.2))(h:Eqv es u v):p u↔p v:=by
 induction h with
 |refl u=>rfl
 |Xy h=>exact k _ h
 |symm _ ih=>exact ih.symm
 |trans _ _ i1 i2=>exact i1.trans i2
noncomputable def i7(f:Int->Int)(a b:Int):Int->Int:=λv=>if f v=(if f a<f b then f b else f a) then(if f a<f b then f a else f b) else f v
def xj(f:Int->Int)(es:Ql Eg):Int->Int:=es.foldl (λf e=>i7 f e.1 e.2) f
structure LL(es:List Eg)(f:Int->Int):Prop where
 own:∀v,Eqv es v (f v)
 one:∀e∈es,f e.1=f e.2
 low:∀v,0<=v->0<=f v/\f v<=v
def LL.nil:LL [] id:=⟨λv=>.refl v,λe h=>(by cases h),λv h=>⟨h,QD _⟩⟩
def LL.step(h:LL es f)(a0:0<=e.1)(b0:0<=e.2):LL (es++[e]) (i7 f e.1 e.2):=by
 have mo:∀{u v},Eqv es u v->Eqv (es++[e]) u v:=λq=>q.mono λx hx=>OR _ hx;have ab:Eqv (es++[e]) (f e.1) (f e.2):=((mo (h.own e.1)).symm.trans (.Xy (OP _ (O1.mpr rfl)))).trans (mo (h.own e.2));refine⟨λv=>?_,λx hx=>?_,λv hv=>?_⟩
 .have o:=mo (h.own v);unfold i7;by_cases c:f e.1<f e.2
  .simp only[T4 c];split
   .rename_i z;rw[z]at o;exact o.trans ab.symm
   assumption
  .simp only[Um c];split
   .rename_i z;rw[z]at o;exact o.trans ab
   assumption
 .rcases OT.mp hx with z|z
  .unfold i7;rw[h.one x z]
  .rw[O1.mp z];unfold i7;lia
 .have l1:=h.low _ a0;have l2:=h.low _ b0;have l3:=h.low v hv;unfold i7;lia
theorem LL.run:∀(es Z8:Ql Eg){f:Int->Int},LL Z8 f->(∀e∈es,0<=e.1/\0<=e.2)->LL (Z8++es) (xj f es)
 |[],Z8,f,h,_=>by rw[PH];assumption
 |e::es,Z8,f,h,k=>by have:=LL.run _ _ (h.step (k e (OU ..)).1 (k e (OU ..)).2) λx hx=>k x (OS _ hx);rw[PZ]at this;assumption
def ll(es:Ql Eg):Int->Int:=xj id es
def xk(k:∀e∈es,0<=e.1/\0<=e.2):LL es (ll es):=LL.run _ _ LL.nil k
def LL.iff(h:LL es f)(u v:Int):f u=f v↔Eqv es u v:=by
 constructor
 .intro e;exact(h.own u).trans (e▸(h.own v).symm)
 .intro q
  induction q with
  |refl u=>rfl
  |Xy q=>exact h.one _ q
  |symm _ ih=>exact ih.symm
  |trans _ _ i1 i2=>lia
end KX
set_option maxHeartbeats 4000000
namespace KX
open PySem.Spec L2 DL
def bE(r:Ql Int):D:=.lst (r.map D.int)
def mD(M:Ql (Ql Int)):D:=.lst (M.map bE)
def Cj(p:Int)(K:Ql Int)(ha:fa t=Qs r1)(hb:fb t=Qs r2)(h1:r1.d=.int p)(h2:r2.d=.lst (K.map D.int)):aH (d2 j9 fa fb) t=Qs (!decide (p∈K)):=by
 have e:=y8 p K ha hb h1 h2;unfold aH at e ⊢;rw[cu ha hb]at e ⊢;unfold Vr at e;unfold j9;rw[h2]at e ⊢;simp only at e ⊢;split at e
 .rename_i c;rw[T4 c];simp only[OY,Ev.d,Option.some.injEq]at e ⊢;rw[e]
 .cases e
def ou(L:Ql Int):Int:=dR (L.headD 0) L.tail
def Nr(h:f t=Qs r)(hr:r.d=.lst (L.map D.int))(hl:0<L.length):(ai (mO dR) (ae f ao)) t=Qs (.cl (.int (ou L))):=by
 rw[fG h];unfold mO;simp only[hr,xQ];cases L with
 |nil=>simp at hl
 |cons x r=>rfl
theorem AJ:∀xs:Ql Int,(xs.map D.int).all aQ=Qt
 |[]=>rfl
 |x::xs=>by simp only[Pa,QA,AJ _];rfl
def cW(h:x∈ah n):0<=x/\x<(n:Int):=by obtain⟨i,hi⟩:=RT.mp h;obtain⟨q,l⟩:=Cv hi;lia
def hX{n:Nat}(h0:0<=x)(h1:x<(n:Int)):x∈ah n:=by exact Pj.mpr ⟨x.toNat,Qq.mpr (by lia),by lia⟩
theorem As:∀{l C:Ql Int},l.Nodup->(∀x∈l,x∈C)->l.length<=C.length
 |[],C,_,_=>QR _
 |x::l,C,nd,h=>by rw[O7]at nd;have hx:=h x (OU ..);have:=As (C:=C.erase x) nd.2 λy hy=>(List.mem_erase_of_ne (λe=>nd.1 (by lia))).mpr (h y (OS _ hy));rw[List.length_erase_of_mem hx]at this;have:=SK hx;simp;lia
def rT(n:Nat):(ah n).Nodup:=by refine Qj.mpr ?_;exact(Ug).imp λh e=>h (by lia)
end KX
set_option maxHeartbeats 1000000
namespace KX
abbrev Hd:=Ql (Int×Nat)
def OO(w:Nat->Nat)(hd:Hd)(s:Ql Int):Nat:=(hd.map λp=>if p.1∈s then w p.2 else 0).sum
open PySem.Spec L2 DL
def pB(hf:f t=Qs (.dn d))(hi:i<t.length):aL i f t=Qs (.nx (t.set i (.dp d))):=by unfold aL;rw[hf];simp only[OY,c9,hi,if_true,QO]
def iK(h1:k d t=Qs t1)(h2:b t1=Qs (.nx t2)):bL k b (d::ds) t=bL k b ds t2:=by simp[bL,h1,h2]
def Ez(h1:k d t=Qs t1)(h2:b t1=Qs (.rt r)):bL k b (d::ds) t=Qs (.rt r):=by simp[bL,h1,h2]
theorem tT{α:Type}{e:α->D}{p:α->Bool}{f:α->D}{ext:Th}:∀(xs:Ql α) (s:Sl),(∀x∈xs,ft (.val (e x)::ext)=Qs (p x))->(∀x∈xs,p x=Qt->∃r,fe (.val (e x)::ext)=Qs r/\r.d=f x)->bH br ft fe (xs.map e) (s::ext)=Qs ((xs.filter p).map f)
 |[],s,_,_=>rfl
 |x::l,s,h,h'=>by
  show((ft (.val _::ext)).bind λb=>if b then(fe _).bind λr=>(bH _ _ _ _ (.val _::ext)).map _ else bH _ _ _ _ (.val _::ext))=_;rw[(tT l _ (λy hy=>h y (OS _ hy)) (λy hy=>h' y (OS _ hy)))]
  grind
theorem tU{α:Type}{e:α->D}{f:α->D}{ext:Th}:∀(xs:Ql α) (s:Sl),(∀x∈xs,∃r,fe (.val (e x)::ext)=Qs r/\toDn r=Qs (f x))->eN br bS fe (xs.map e) (s::ext)=Qs (xs.map f)
 |[],s,_=>rfl
 |x::l,s,h'=>by
  obtain⟨r,e1,e2⟩:=h' x (OU ..);show((fe (.val _::ext)).bind λr=>(toDn r).bind λd=>(eN _ _ _ _ (.val _::ext)).map _)=_;rw[(tU l _ (λy hy=>h' y (OS _ hy)))]
  simp_all
def NI{α:Type}{e:α->D}{p:α->Bool}{g:α->D}{xs:Ql α}(hf:f t=Qs r)(hr:r.d=.lst (xs.map e))(hc:dH t cap=Qs (b,c))(hl:xs.length<=50000) (h1:∀x∈xs,ft (.val (e x)::c.map Sl.val)=Qs (p x)) (h2:∀x∈xs,p x=Qt->∃r,fe (.val (e x)::c.map Sl.val)=Qs r/\r.d=g x) (h3:UD ((xs.filter p).map g)=Qt\/(r.ok&&b)=Qt):ba 1 cap (dX f) br ft fe t=Qs (.nw ((xs.filter p).map g)):=by
 unfold ba;have e1:dX f t=Qs (r.ok,xs.map e):=by unfold dX;simp_all
 rw[e1,hc];simp only[OY];rw[T4 (by simpa using hl)];show(bH _ _ _ _ (Sl.no::c.map _)).bind _=_;rw[(tT _ _ h1 h2)]
 grind
def HY(n:Nat):eA 0 n=(ah n).map D.int:=by unfold eA ah;simp
def yI(hf:f t=Qs r)(hr:r.d=.int (n:Int))(hc:dH t cap=Qs (b,c))(hl:n<=50000) (h1:∀x∈ah n,ft (.val (.int x)::c.map Sl.val)=Qs (p x)) (h2:∀x∈ah n,p x=Qt->∃r,fe (.val (.int x)::c.map Sl.val)=Qs r/\r.d=g x) (h3:UD (((ah n).filter p).map g)=Qt\/b=Qt):ba 1 cap (cX f) br ft fe t=Qs (.nw (((ah n).filter p).map g)):=by
 unfold ba;have e1:cX f t=Qs (Qt,(ah n).map D.int):=by unfold cX;rw[hf];simp only[OY,hr];rw[T4 (by unfold eG;simp;lia),<-HY];rfl
 rw[e1,hc];simp only[OY];rw[T4 (by simpa[ah] using hl)];show(bH _ _ _ _ (Sl.no::c.map _)).bind _=_;rw[(tT _ _ h1 h2)]
 grind
def kN(n:Int):bh:=Sum.inl n
theorem D3(x:Int):∀ks:Ql Int,k9 (ks.map kN) (kN x)=decide (x∈ks)
 |[]=>rfl
 |k::ks=>by
  have i:=D3 x ks;unfold k9 at i ⊢;rw[Pa,Rp,i];by_cases h:k=x
  .subst h;simp
  .rw[VN (λz=>h (by cases z;rfl))]
   grind
def i8(ks:Ql Int)(x:Int):Ql Int:=if x∈ks then ks else ks++[x]
def jH(_:Int):D:=.bl Qt
theorem zO{ks:Ql Int}:∀ls:Ql Int,Vq (λk' d'=>if k'=kN x then D.bl Qt else d') (ls.map kN) (ls.map jH)=ls.map jH
 |[]=>rfl
 |l::ls=>by rw[Pa,Pa,RG,zO (ks:=ks) _];split<;>rfl
def IL(ks:Ql Int)(x:Int):g7 (ks.map kN) (ks.map jH) (kN x) (.bl Qt)=((i8 ks x).map kN,(i8 ks x).map jH):=by
 unfold g7 i8;rw[D3];by_cases h:x∈ks
 .rw[UN h,T4 rfl,T4 h,zO (ks:=ks) _]
 .rw[VN h,Um h];simp[kN,jH]
def wD(M:Nat)(ts:Ql (Int×Int)):D:=.tup [.int (M:Int),.lst (ts.map pD)]
def iG(L:Ql Int)(b:Int)(ha:fa t=Qs r1)(hb:fb t=Qs r2)(h0:0<=b)(h:b<(L.length:Int))(h1:r1.d=.lst (L.map D.int))(h2:r2.d=.int b):(d2 av fa fb) t=Qs (.cl (.int (L.getD b.toNat 0))):=DF L _ ha hb (by lia) h1 (by rw[h2,PV h0])
def aw(ts:Ql (Int×Int))(l:Int):Int×Int:=ts.getD l.toNat (0,0)
def lB(ts:Ql (Int×Int))(L:Ql Int):Ql Eg:=L.map (aw ts)
def nI(h0:0<=l)(h1:l<(ts.length:Int)):aw ts l∈ts:=by
 unfold aw
 simp_all
def ql(ha:fa t=Qs r1)(hb:fb t=Qs r2)(h1:r1.d=.lst (ts.map pD))(h2:r2.d=.int l)(h0:0<=l)(hl:l<(ts.length:Int)):(d2 av fa fb) t=Qs (.cl (pD (aw ts l))):=by
 rw[cu ha hb];unfold av;rw[h1,h2];show(U2 _ l).map _=_;have:U2 (ts.map pD) l=Qs (pD (aw ts l)):=by
  unfold L2.U2;have e:Vt (ts.map pD).length l=Qs l.toNat:=by rw[O0];unfold L2.Vt;lia
  rw[e];show(ts.map _)[l.toNat]?=_;unfold aw
  simp_all
 rw[this];show Qs (if r1.ok||flat _ then Ev.cl _ else Ev.tm _)=_;rw[show flat _=Qt from rfl,QE,T4 rfl]
def ux(h:t[i]?=Qs (.val (wD M ts))):(d2 av (af i) (dC (.int 1))) t=Qs (.cl (.lst (ts.map pD))):=by
 have:af i t=Qs (.cl (wD M ts)):=by unfold af;rw[h]
 rw[cu this rfl];rfl
def z6{M:Nat}(h:t[i]?=Qs (.val (wD M ts))):(d2 av (af i) (dC (.int 0))) t=Qs (.cl (.int (M:Int))):=by
 have:af i t=Qs (.cl (wD M ts)):=by unfold af;rw[h]
 rw[cu this rfl];rfl
def HB(x y:Int):dD [x,y]=[if x<y then x else y,if x<y then y else x]:=by
 show je x [y]=_;unfold je;by_cases h:x<y
 .rw[T4 (by lia),T4 h,T4 h]
 .by_cases e:x=y
  .subst e;simp
  .rw[Um (by lia),Um h,Um h];rfl
def Gz(s0 s1 s2 s6 s7:Sl)(hM:M<=1000)(hw:Wt M ts)(h0:0<=l)(h1:l<(ts.length:Int)):∃u6 u7,zd [s0,s1,s2,.val (.lst (ts.map pD)),.own (((ah M).map f).map D.int),.val (.int l),s6,s7]=Qs (.nx [s0,s1,s2,.val (.lst (ts.map pD)),.own (((ah M).map (i7 f (aw ts l).1 (aw ts l).2)).map D.int),.val (.int l),u6,u7]):=by
 obtain⟨a0,ab,bM⟩:=hw.lt _ (nI h0 h1);let e:=aw ts l
 let t:=[s0,s1,s2,.val (.lst (ts.map pD)),.own (((ah M).map f).map D.int),.val (.int l),s6,s7]
 have nl:(ah M).length=M:=by unfold ah;simp
 have gv:∀v:Int,0<=v->v<M->((ah M).map f).getD v.toNat 0=f v:=λv v0 v1=>by rw[Rl,Pr];unfold ah;rw[Pr,QJ (by lia)];show f v.toNat=f v;rw[PV v0]
 have ix:=λv v0 v1=>by have:=iG (fa:=af 1) (fb:=af 0) (t:=[.val _,.val _]) ((ah M).map f) v rfl rfl v0 (by rw[O0,nl];assumption) rfl rfl;rw[gv v v0 v1]at this;assumption
 have c1:(ba 1 [4] (gj (d2 av bc cK)) br bS (d2 av az ak)) t=Qs (.nw [.int (f e.1),.int (f e.2)]):=by
  unfold ba gj;rw[(ql rfl rfl rfl rfl h0 h1)];show((if[D.int e.1,D.int e.2].length<=50000 then(bH _ _ _ _ [.no,.val _]).bind _ else Qn))=_;have cc:bH br bS (d2 av az ak) [D.int e.1,D.int e.2] [.no,.val (.lst (((ah M).map f).map D.int))]=Qs [.int (f e.1),.int (f e.2)]:=by show((d2 _ _ _) [.val _,.val _]).bind (λr=>(((d2 _ _ _) [.val _,.val _]).bind _).map _)=_;rw[(ix _ a0 (Tb ab bM)),(ix _ (QL (RC a0 ab)) bM)];rfl
  rw[cc];rfl
 have c2:=lZ (xs:=[f e.1,f e.2]) c1 rfl (by simp);rw[HB]at c2;have E1:dG (jg 2 (bK (aP 6) (bK (aP 7) eV))) (ai gb (ae (ba 1 [4] (gj (d2 av bc cK)) br bS (d2 av az ak)) ao)) t=Qs (.nx [s0,s1,s2,.val (.lst (ts.map pD)),.own (((ah M).map f).map D.int),.val (.int l),.val (.int (if f e.1<f e.2 then f e.1 else f e.2)),.val (.int (if f e.1<f e.2 then f e.2 else f e.1))]):=by unfold dG;rw[c2];rfl
 let t1:Th:=[s0,s1,s2,.val (.lst (ts.map pD)),.own (((ah M).map f).map D.int),.val (.int l),.val (.int (if f e.1<f e.2 then f e.1 else f e.2)),.val (.int (if f e.1<f e.2 then f e.2 else f e.1))]
 have c3:=Fc (cap:=[6,7]) (f:=af 4) (t:=t1) (r:=.tm (.lst (((ah M).map f).map D.int))) (xs:=(ah M).map f) (g:=λx=>if x=(if f e.1<f e.2 then f e.2 else f e.1) then(if f e.1<f e.2 then f e.1 else f e.2) else x) (b:=Qt) (c:=[.int (if f e.1<f e.2 then f e.1 else f e.2),.int (if f e.1<f e.2 then f e.2 else f e.1)]) (fe:=(tG (aH (d2 gh ak aN)) az ak)) rfl rfl (by rw[O0];lia) rfl (λx _=>by
  unfold tG;rw[oV rfl rfl];by_cases z:x=(if f e.1<f e.2 then f e.2 else f e.1)
  .rw[UN z,T4 z];rfl
  .rw[VN z,Um z];rfl)
 have em:((ah M).map f).map (λx=>if x=(if f e.1<f e.2 then f e.2 else f e.1) then(if f e.1<f e.2 then f e.1 else f e.2) else x)=(ah M).map (i7 f e.1 e.2):=by rw[Pe];rfl
 rw[em]at c3;exact⟨_,_,(aE E1).trans (fE (i:=4) c3 (by simp[t1]))⟩
theorem CV(s0 s1 s2:Sl)(hM:M<=1000)(hw:Wt M ts):∀(L:Ql Int) (f:Int->Int) (s5 s6 s7:Sl),(∀l∈L,0<=l/\l<(ts.length:Int))->∃u5 u6 u7,bL (aP 5) zd (L.map D.int) [s0,s1,s2,.val (.lst (ts.map pD)),.own (((ah M).map f).map D.int),s5,s6,s7]=Qs (.nx [s0,s1,s2,.val (.lst (ts.map pD)),.own (((ah M).map (xj f (lB ts L))).map D.int),u5,u6,u7])
 |[],f,s5,s6,s7,_=>⟨s5,s6,s7,rfl⟩
 |l::L,f,s5,s6,s7,h=>by obtain⟨h0,h1⟩:=h l (OU ..);obtain⟨v6,v7,e⟩:=Gz s0 s1 s2 s6 s7 hM hw (f:=f) h0 h1;obtain⟨u5,u6,u7,ih⟩:=CV s0 s1 s2 hM hw L (i7 f (aw ts l).1 (aw ts l).2) (.val (.int l)) v6 v7 λl' hl'=>h _ (OS _ hl');exact⟨u5,u6,u7,(iK rfl e).trans ih⟩
def L1(hM:M<=1000)(hw:Wt M ts)(h:∀l∈L,0<=l/\l<(ts.length:Int)):pR [wD M ts,.lst (L.map D.int)]=Qs (.nw (((ah M).map (ll (lB ts L))).map D.int)):=by
 let W:Sl:=.val (wD M ts)
 let N:Sl:=.val (.lst (L.map D.int))
 have e0:(ah M).map D.int=((ah M).map id).map D.int:=by simp
 obtain⟨u5,u6,u7,e⟩:=CV W N (.val (.int M)) hM hw L id .no .no .no h;show(xZ [W,N,.no,.no,.no,.no,.no,.no]).bind gG=_;refine Ve ?_;exact(aE rfl).trans ((aE (fE (i:=4) (xf (f:=af 2) (t:=[W,N,.val (.int (M:Int)),.val (.lst (ts.map pD)),.no,.no,.no,.no]) (n:=M) rfl hM) (by simp))).trans ((aE (by
  rw[e0];assumption)).trans rfl))
structure PS where
 n:Nat
 pa:Int
 tk:List Int
 pt:Int->List Int
 wd:Int->Int
 pd:Int->Int
 ar:Int->Int
 po:Int->Int
def PS.new(M:Nat):PS:=⟨M,1,[],λp=>[p],λ_=>0,λ_=>0,λ_=>0,id⟩
noncomputable def jv(b:Bool):Int:=if b then 1 else 0
def bj(S:PS)(e:Int->Eg)(g:Int->Bool)(at':Int):Int:=if S.po (e at').1=S.po (e at').2 then 0 else jv (g (S.po (e at').1))+jv (g (S.po (e at').2))
def U5(S:PS)(e:Int->Eg)(w:Int->Int)(at':Int):Int:=w at'*S.pa-S.ar (e at').1-S.ar (e at').2
def km(S:PS)(e:Int->Eg)(w:Int->Int)(g:Int->Bool)(at':Int):Bool:=decide (0<bj S e g at')&&decide (U5 S e w at'<=0)
def dF(S:PS)(e:Int->Eg)(w:Int->Int)(g:Int->Bool)(nt:Nat):Qo Int:=(ah nt).find? (km S e w g)
def gZ(S:PS)(e:Int->Eg)(w:Int->Int)(g:Int->Bool)(nt:Nat):Ql Int:=((ah nt).filter λa=>decide (0<bj S e g a)).map λa=>(U5 S e w a).fdiv (bj S e g a)
def Vi(S:PS):PS:={S with pa:=S.pa*2,wd:=λp=>2*S.wd p,pd:=λp=>2*S.pd p,ar:=λv=>2*S.ar v}
noncomputable def V6(S:PS)(g:Int->Bool)(st:Int):PS:={S with wd:=λp=>S.wd p+(if g p then st else 0),pd:=λp=>S.pd p+(if g p then st else 0),ar:=λv=>S.ar v+(if g (S.po v) then st else 0)}
def bY(S:PS)(e:Int->Eg)(a:Int):Ql Int:=dD (S.pt (S.po (e a).1)++S.pt (S.po (e a).2))
def UQ(S:PS)(e:Int->Eg)(a:Int):PS:={S with
 n:=S.n+1,tk:=S.tk++[a]
 pt:=λp=>if p=(S.n:Int) then bY S e a else S.pt p
 wd:=λp=>if p=(S.n:Int) then 0 else S.wd p
 pd:=λp=>if p=(S.n:Int) then S.pd (S.po (e a).1)+S.pd (S.po (e a).2) else S.pd p
 po:=λv=>if v∈bY S e a then(S.n:Int) else S.po v}
def jy(ks:Ql Int)(x:Int):Ql Int:=if x∈ks then ks else ks++[x]
def gu(S:PS)(ks:Ql Int)(w:Eg):Ql Int:=if S.po w.1=S.po w.2 then ks else jy (jy ks (S.po w.1)) (S.po w.2)
def aO(S:PS)(ws:Ql Eg):Ql Int:=ws.foldl (gu S) []
def aI(G:Ql Int):Int->Bool:=λp=>decide (p∈G)
def bU(e:Int->Eg)(w:Int->Int)(nt:Nat)(ws:Ql Eg)(S:PS):PS:=match dF S e w (aI (aO S ws)) nt with
 |none=>V6 (Vi S) (aI (aO S ws)) (ou (gZ (Vi S) e w (aI (aO S ws)) nt))
 |some a=>UQ S e a
def bQ(e:Int->Eg)(w:Int->Int)(nt:Nat)(ws:Ql Eg):Nat->PS->PS
 |0,S=>S
 |k+1,S=>if aO S ws=[] then S else bQ e w nt ws k (bU e w nt ws S)
def CP:y∈jy ks x↔y∈ks\/y=x:=by
 unfold jy;split
 .lia
 .simp
theorem CM:∀{ws:Ql Eg}{ks:Ql Int},p∈ws.foldl (gu S) ks↔p∈ks\/∃w∈ws,S.po w.1≠S.po w.2/\(p=S.po w.1\/p=S.po w.2)
 |[],ks=>by simp
 |w::ws,ks=>by
  rw[RE,CM];have:p∈gu S ks w↔p∈ks\/(S.po w.1≠S.po w.2/\(p=S.po w.1\/p=S.po w.2)):=by
   unfold gu;split
   .lia
   .rename_i h;rw[CP,CP];simp only[ne_eq,h,not_false_eq_true,true_and,or_assoc]
  rw[this];simp only[OZ,exists_eq_or_imp,or_assoc]
def Yj:p∈aO S ws↔∃w∈ws,S.po w.1≠S.po w.2/\(p=S.po w.1\/p=S.po w.2):=by unfold aO;rw[CM];simp
def zdk:aO S ws=[]↔∀w∈ws,S.po w.1=S.po w.2:=by
 constructor
 .intro h w hw;by_cases z:S.po w.1=S.po w.2
  .assumption
  .have:=Yj.mpr ⟨w,hw,z,.inl rfl⟩;rw[h]at this;cases this
 .intro h;refine List.eq_nil_iff_forall_not_mem.mpr λp hp=>?_;obtain⟨w,hw,n,_⟩:=Yj.mp hp;exact n (h w hw)
def Cs(h:ks.Nodup):(jy ks x).Nodup:=by
 unfold jy;split
 .assumption
 .grind
theorem Cp:∀{ws:Ql Eg}{ks:Ql Int},ks.Nodup->(ws.foldl (gu S) ks).Nodup
 |[],ks,h=>h
 |w::ws,ks,h=>by
  rw[RE];refine Cp ?_;unfold gu;split
  .assumption
  .exact Cs (Cs h)
structure Ok(M:Nat)(e:Int->Eg)(w:Int->Int)(nt:Nat)(S:PS):Prop where
 X1:0<S.pa
 nM:S.n=M+S.tk.length
 Wj:∀v,0<=v->v<(M:Int)->0<=S.po v/\S.po v<(S.n:Int)
 cur:∀v,0<=v->v<(M:Int)->∀u,u∈S.pt (S.po v)↔(0<=u/\u<(M:Int)/\S.po u=S.po v)
 one:∀p,0<=p->p<(S.n:Int)->∀u∈S.pt p,∀v∈S.pt p,S.po u=S.po v
 inr:∀p,0<=p->p<(S.n:Int)->∀u∈S.pt p,0<=u/\u<(M:Int)
 WZ:∀p,0<=p->p<(S.n:Int)->(S.pt p).Pairwise (·< ·)
 ne:∀p,0<=p->p<(S.n:Int)->S.pt p≠[]
 Zv:∀p q,0<=p->p<(S.n:Int)->0<=q->q<(S.n:Int)->S.pt p=S.pt q->p=q
 pos:∀a,0<=a->a<(nt:Int)->S.po (e a).1≠S.po (e a).2->0<=U5 S e w a
 YN:∀a∈S.tk,0<=a/\a<(nt:Int)
def cB(M:Nat)(e:Int->Eg)(nt:Nat):Prop:=∀a,0<=a->a<(nt:Int)->(0<=(e a).1/\(e a).1<(M:Int))/\0<=(e a).2/\(e a).2<(M:Int)
theorem Ok.new{nt:Nat}(hw:∀a,0<=a->a<(nt:Int)->0<=w a):Ok M e w nt (PS.new M) where
 X1:=show 0<1 by simp
 nM:=rfl
 Wj:=λv h0 h1=>⟨h0,h1⟩
 cur:=λv h0 h1 u=>by show u∈[v]↔0<=u/\u<M/\u=v;rw[O1];exact⟨λz=>⟨z▸h0,z▸h1,z⟩,λz=>z.2.2⟩
 one:=λp _ _ u hu v hv=>by rw[O1.mp hu,O1.mp hv]
 inr:=λp h0 h1 u hu=>by rw[O1.mp hu];exact⟨h0,h1⟩
 WZ:=λp _ _=>Qe ..
 ne:=λp _ _=>by simp[PS.new]
 Zv:=λp q _ _ _ _ h=>by simpa[PS.new] using h
 pos:=λa h0 h1 _=>by show 0<=w a*1-0-0;have:=hw a h0 h1;lia
 YN:=λa h=>nomatch h
def Ok.nd(h:Ok M e w nt S)(h0:0<=p)(h1:p<(S.n:Int)):(S.pt p).Nodup:=(h.WZ p h0 h1).imp λz e=>by lia
def Yr:u∈bY S e a↔u∈S.pt (S.po (e a).1)\/u∈S.pt (S.po (e a).2):=by unfold bY;rw[(iZ _).mem_iff,OT]
theorem Ok.UQ(h:Ok M e w nt S)(hE:cB M e nt)(a0:0<=a)(a1:a<(nt:Int))(hn:S.po (e a).1≠S.po (e a).2):Ok M e w nt (UQ S e a):=by
 obtain⟨⟨x0,x1⟩,y0,y1⟩:=hE a a0 a1;have px:=h.Wj _ x0 x1;have py:=h.Wj _ y0 y1;have mj:∀u,u∈bY S e a↔(0<=u/\u<(M:Int)/\(S.po u=S.po (e a).1\/S.po u=S.po (e a).2)):=λu=>by
  rw[Yr,h.cur _ x0 x1,h.cur _ y0 y1];constructor
  .rintro(⟨a,b,c⟩|⟨a,b,c⟩)
   .exact⟨a,b,.inl c⟩
   .exact⟨a,b,.inr c⟩
  .simp_all
 have W3:∀v,(KX.UQ S e a).po v=if v∈bY S e a then(S.n:Int) else S.po v:=λv=>rfl
 have WH:∀p,(KX.UQ S e a).pt p=if p=(S.n:Int) then bY S e a else S.pt p:=λv=>rfl
 have same:∀u v,0<=u->u<(M:Int)->0<=v->v<(M:Int)->S.po u=S.po v->(KX.UQ S e a).po u=(KX.UQ S e a).po v:=λu v u0 u1 v0 v1 q=>by
  simp_all
 have old:∀p,0<=p->p<(S.n:Int)->S.pt p≠bY S e a:=λp p0 p1 q=>by exact hn (h.one p p0 p1 _ (by simp_all) _ (by simp_all))
 refine⟨h.X1,?_,?_,?_,?_,?_,?_,?_,?_,?_,?_⟩
 .show S.n+1=M+(S.tk++[a]).length;rw[Pq,h.nM];rfl
 .intro v v0 v1;rw[W3];show _/\_<((S.n+1):Int);have:=h.Wj v v0 v1;lia
 .intro v v0 v1 u;rw[W3 v];have pv:=h.Wj v v0 v1;by_cases z:v∈bY S e a
  .rw[T4 z,WH,T4 rfl,W3 u];constructor
   .simp_all
   .rintro⟨u0,u1,c⟩;by_cases k:u∈bY S e a
    .assumption
    .rw[Um k]at c;have:=h.Wj u u0 u1;lia
  .rw[Um z,WH,Um (by lia),h.cur v v0 v1,W3 u];constructor
   .simp_all
   lia
 .intro p p0 p1 u hu v hv;rw[WH]at hu hv;have p1:p<((S.n+1:Nat):Int):=p1;by_cases z:p=(S.n:Int)
  .rw[T4 z]at hu hv;rw[W3,W3,T4 hu,T4 hv]
  .rw[Um z]at hu hv;have p2:p<S.n:=by lia
   obtain⟨u0,u1⟩:=h.inr p p0 p2 u hu;obtain⟨v0,v1⟩:=h.inr p p0 p2 v hv;exact same u v u0 u1 v0 v1 (h.one p p0 p2 u hu v hv)
 .intro p p0 p1 u hu;rw[WH]at hu;have p1:p<((S.n+1:Nat):Int):=p1;by_cases z:p=(S.n:Int)
  .simp_all
  .rw[Um z]at hu;exact h.inr p p0 (by lia) u hu
 .intro p p0 p1;rw[WH];have p1:p<((S.n+1:Nat):Int):=p1;by_cases z:p=(S.n:Int)
  .rw[T4 z];exact((nK _).and (by
    refine(iZ _).nodup_iff.mpr (O4.mpr ⟨h.nd px.1 px.2,h.nd py.1 py.2,λu hu v hv q=>hn ?_⟩);subst q;rw[<-((h.cur _ x0 x1 u).mp hu).2.2,((h.cur _ y0 y1 u).mp hv).2.2])).imp λ{a b} k=>by lia
  .rw[Um z];exact h.WZ p p0 (by lia)
 .intro p p0 p1;rw[WH];have p1:p<((S.n+1:Nat):Int):=p1;by_cases z:p=(S.n:Int)
  .rw[T4 z];exact TK ((mj _).mpr ⟨x0,x1,.inl rfl⟩)
  .rw[Um z];exact h.ne p p0 (by lia)
 .intro p q p0 p1 q0 q1 k;rw[WH,WH]at k;have p1:p<((S.n+1:Nat):Int):=p1;have q1:q<((S.n+1:Nat):Int):=q1;by_cases z:p=(S.n:Int)
  .by_cases y:q=(S.n:Int)
   .rw[z,y]
   .rw[T4 z,Um y]at k;exact absurd k.symm (old q q0 (by lia))
  .by_cases y:q=(S.n:Int)
   .rw[Um z,T4 y]at k;exact absurd k (old p p0 (by lia))
   .rw[Um z,Um y]at k;exact h.Zv p q p0 (by lia) q0 (by lia) k
 .intro c c0 c1 k;obtain⟨⟨u0,u1⟩,v0,v1⟩:=hE c c0 c1;exact h.pos c c0 c1 λq=>k (same _ _ u0 u1 v0 v1 q)
 .intro c hc;rcases OT.mp hc with z|z
  .exact h.YN c z
  .simp_all
def ud(b:Bool):0<=jv b/\jv b<=1:=by cases b<;>decide
def nh(S:PS)(e:Int->Eg)(g:Int->Bool)(a:Int):0<=bj S e g a/\bj S e g a<=2:=by
 unfold bj;split
 .decide
 .have:=ud (g (S.po (e a).1));have:=ud (g (S.po (e a).2));lia
def lJ(h:0<bj S e g a):S.po (e a).1≠S.po (e a).2:=λz=>by
 unfold bj at h
 simp_all
theorem Ok.Vi(h:Ok M e w nt S):Ok M e w nt (Vi S):=by
 refine⟨?_,h.nM,h.Wj,h.cur,h.one,h.inr,h.WZ,h.ne,h.Zv,?_,h.YN⟩
 .show 0<S.pa*2;have:=h.X1;lia
 .intro a a0 a1 k;have:=h.pos a a0 a1 k;show 0<=w a*(S.pa*2)-2*S.ar _- 2*S.ar _;unfold U5 at this;have q:w a*(S.pa*2)=2*(w a*S.pa):=by lia
  lia
def sf(S:PS)(e:Int->Eg)(w:Int->Int)(a:Int):U5 (Vi S) e w a=2*U5 S e w a:=by unfold U5;show w a*(S.pa*2)-2*S.ar _- 2*S.ar _=_;lia
def LW(S:PS)(e:Int->Eg)(w:Int->Int)(g:Int->Bool)(st a:Int):U5 (V6 S g st) e w a=U5 S e w a-(if g (S.po (e a).1) then st else 0)-(if g (S.po (e a).2) then st else 0):=by unfold U5;show w a*S.pa-(S.ar _+(if g _ then st else 0))-(S.ar _+(if g _ then st else 0))=_;lia
def C9(S:PS)(e:Int->Eg)(w:Int->Int)(g:Int->Bool)(st a:Int)(hn:S.po (e a).1≠S.po (e a).2):U5 (V6 S g st) e w a=U5 S e w a-bj S e g a*st:=by rw[LW];unfold bj;rw[Um hn];cases g _<;>cases g _<;>simp[jv]<;>lia
theorem Ok.V6(h:Ok M e w nt S){st:Int}(hs:∀a,0<=a->a<(nt:Int)->0<bj S e g a->bj S e g a*st<=U5 S e w a):Ok M e w nt (V6 S g st):=by
 refine⟨h.X1,h.nM,h.Wj,h.cur,h.one,h.inr,h.WZ,h.ne,h.Zv,?_,h.YN⟩;intro a a0 a1 k;have k:S.po (e a).1≠S.po (e a).2:=k;rw[C9 S e w g st a k];have p:=h.pos a a0 a1 k;have b:=nh S e g a;by_cases z:0<bj S e g a
 .have:=hs a a0 a1 z;lia
 .have z:bj S e g a=0:=by lia
  rw[z];lia
def Er(h:dF S e w g nt=Qn):∀a,0<=a->a<(nt:Int)->0<bj S e g a->0<U5 S e w a:=λa a0 a1 b=>by
 have:=List.find?_eq_none.mp h a (hX a0 a1);unfold km at this
 simp_all
def mR(h:dF S e w g nt=Qs a):(0<=a/\a<(nt:Int))/\0<bj S e g a/\U5 S e w a<=0:=by have p:=List.find?_some h;unfold km at p;rw[O6,VH,VH]at p;exact⟨cW (List.mem_of_find?_eq_some h),p⟩
def LP:∀{L:Ql Int}{x:Int},x∈L->ou L<=x:=λ{L x} h=>by
 cases L with
 |nil=>cases h
 |cons a L=>
  have key:∀L b,dR b L<=b/\∀y∈L,dR b L<=y:=by
   intro L
   induction L with
   |nil=>exact λb=>⟨QD _,λy hy=>nomatch hy⟩
   |cons c L ih=>
    intro b;have:=ih (if c<b then c else b);refine⟨?_,λy hy=>?_⟩
    .show dR _ L<=b;have:=this.1;split at this<;>lia
    .show dR _ L<=y;rcases OZ.mp hy with rfl|z
     .have:=this.1;split at this<;>lia
     .exact this.2 y z
  have:=key L a;rcases OZ.mp h with rfl|z
  .exact this.1
  .exact this.2 x z
def LO:∀{L:Ql Int},L≠[]->ou L∈L:=λ{L} h=>by
 cases L with
 |nil=>lia
 |cons a L=>
  have key:∀L b,dR b L=b\/dR b L∈L:=by
   intro L
   induction L with
   |nil=>exact λb=>.inl rfl
   |cons c L ih=>
    intro b;rcases ih _ with z|z
    .show dR _ L=b\/dR _ L∈c::L;rw[z];split
     .simp
     .simp
    .exact .inr (OS _ z)
  rcases key L a with z|z
  .show dR a L∈a::L;rw[z];simp
  .exact OS _ z
def Ag{l b:Int}(h:b=1\/b=2):b*(2*l).fdiv b=2*l:=by lia
def zbU:x∈gZ S e w g nt↔∃a,(0<=a/\a<(nt:Int))/\0<bj S e g a/\x=(U5 S e w a).fdiv (bj S e g a):=by
 unfold gZ;rw[Pj];constructor
 .rintro⟨a,ha,rfl⟩;obtain⟨h1,h2⟩:=Px.mp ha;exact⟨a,cW h1,of_decide_eq_true h2,rfl⟩
 .rintro⟨a,h1,h2,rfl⟩;exact⟨a,Px.mpr ⟨hX h1.1 h1.2,UN h2⟩,rfl⟩
def d9(S:PS)(e:Int->Eg)(w:Int->Int)(g:Int->Bool)(nt:Nat):Int:=ou (gZ (Vi S) e w g nt)
def WU(S:PS)(e:Int->Eg)(w:Int->Int)(g:Int->Bool)(nt:Nat):PS:=V6 (Vi S) g (d9 S e w g nt)
def uM (a0:0<=a)(a1:a<(nt:Int))(b:0<bj S e g a):bj S e g a*d9 S e w g nt<=2*U5 S e w a:=by have m:(U5 _ e w a).fdiv _∈gZ (Vi S) e w g _:=zbU.mpr ⟨a,⟨a0,a1⟩,b,rfl⟩;have l:=LP m;rw[sf]at l;have bb:=nh S e g a;have t:=Ag (l:=U5 S e w a) (b:=bj S e g a) (by lia);have l:d9 S e w g _<=(2*U5 S e w a).fdiv (bj S e g a):=l;have:=RX l bb.1;lia
def qE (YY:∃a,(0<=a/\a<(nt:Int))/\0<bj S e g a):gZ (Vi S) e w g nt≠[]/\∃a,(0<=a/\a<(nt:Int))/\0<bj S e g a/\bj S e g a*d9 S e w g nt=2*U5 S e w a:=by obtain⟨c,c0,c1⟩:=YY;have ne:gZ (Vi S) e w g _≠[]:=TK (zbU.mpr ⟨c,c0,c1,rfl⟩);obtain⟨a,a0,a1,a2⟩:=zbU.mp (LO ne);refine⟨ne,a,a0,a1,?_⟩;have bb:=nh S e g a;have a1:0<bj S e g a:=a1;rw[sf]at a2;have a2:d9 S e w g _=(2*U5 S e w a).fdiv _:=a2;rw[a2];exact(Ag (by lia))
theorem Ok.WU(h:Ok M e w nt S):Ok M e w nt (WU S e w g nt):=by refine Ok.V6 h.Vi λa a0 a1 b=>?_;rw[sf];exact uM a0 a1 b
def Aw (YY:∃a,(0<=a/\a<(nt:Int))/\0<bj S e g a)(hf:dF S e w g nt=Qn):0<d9 S e w g nt:=by
 obtain⟨_,a,a0,a1,a2⟩:=qE (w:=w) YY;have l:=Er hf a a0.1 a0.2 a1;have bb:=nh S e g a;rcases(show bj S e g a=1\/bj S e g a=2 by lia) with z|z
 .rw[z]at a2;lia
 .rw[z]at a2;lia
def Es (YY:∃a,(0<=a/\a<(nt:Int))/\0<bj S e g a):dF (WU S e w g nt) e w g nt≠Qn:=by obtain⟨_,a,a0,a1,a2⟩:=qE (w:=w) YY;intro hf;have:=Er hf a a0.1 a0.2 a1;have q:U5 (WU S e w g _) e w a=U5 _ e w a-bj _ e g a*d9 S e w g nt:=C9 _ e w g _ a (lJ a1);rw[q,sf]at this;have a2:bj (KX.Vi S) e g a*d9 S e w g _=2*U5 S e w a:=a2;lia
def ip(e:Int->Eg)(nt:Nat):Ql Eg:=(ah nt).map e
def mV(h:Ok M e w nt S)(hE:cB M e nt)(hw:∀w∈ws,Eqv (ip e nt) w.1 w.2)(hn:aO S ws≠[]):∃a,(0<=a/\a<(nt:Int))/\0<bj S e (aI (aO S ws)) a:=by
 obtain⟨w',hw',n⟩:∃w∈ws,S.po _≠S.po _:=by refine PB λk=>hn (zdk.mpr λw hw=>PB λz=>k ⟨w,hw,z⟩)
 refine PB λk=>n ?_;exact(((hw _ hw').pred (p:=λv=>S.po v=S.po _) (λp hp=>by
  obtain⟨a,ha,rfl⟩:=Pj.mp hp;have ra:=cW ha;by_cases z:S.po (e a).1=S.po (e a).2
  .rw[z]
  .have b:¬0<bj S e _ a:=λq=>k ⟨a,ra,q⟩;unfold bj at b;rw[Um z]at b;have b1:=ud (aI (aO S ws) (S.po (e a).1));have b2:=ud (aI (aO S ws) (S.po (e a).2));have G:aI _ _=Qt:=UN (Yj.mpr ⟨w',hw',n,.inl rfl⟩);constructor
   .intro q;rw[q,G]at b;have:jv Qt=1:=rfl;lia
   .intro q;rw[q,G]at b;have:jv Qt=1:=rfl;lia)).mp rfl).symm
def rf(M:Nat):Ql Eg:=(ah M).flatMap λu=>((ah M).filter λv=>decide (u<v)).map λv=>(u,v)
def zcg:(u,v)∈rf M↔0<=u/\u<v/\v<(M:Int):=by
 unfold rf;rw[List.mem_flatMap];constructor
 .rintro⟨x,hx,h⟩;obtain⟨y,hy,q⟩:=Pj.mp h;cases q;obtain⟨y1,y2⟩:=Px.mp hy;have:=cW hx;have:=cW y1;have:=of_decide_eq_true y2;lia
 .rintro⟨a,b,c⟩;exact⟨u,hX a (by lia),Pj.mpr ⟨v,Px.mpr ⟨hX (by lia) c,UN b⟩,rfl⟩⟩
def Jr:∀M:Nat,M<=9->(rf M).length<=36:=by decide+kernel
def mu(M:Nat)(S:PS):Nat:=((rf M).filter λq=>decide (S.po q.1≠S.po q.2)).length
theorem EH{α:Type}{p q:α->Bool}:∀{V:Ql α},(∀x∈V,q x=Qt->p x=Qt)->(∃x∈V,p x=Qt/\q x=Qf)->(V.filter q).length+1<=(V.filter p).length
 |[],_,h=>by simp_all
 |y::V,h1,h2=>by
  have mono:∀V:Ql α,(∀x∈V,q x=Qt->p x=Qt)->(V.filter q).length<=(V.filter p).length:=by
   intro V
   induction V with
   |nil=>simp
   |cons z V ih=>
    grind
  rw[QH,QH];have hy:=h1 y (OU ..);have m:=mono V λx hx=>h1 x (OS _ hx);obtain⟨x,hx,px,qx⟩:=h2;rcases OZ.mp hx with rfl|z
  .simp_all
  .have ih:=EH (λx hx=>h1 x (OS _ hx)) ⟨x,z,px,qx⟩;cases e1:q y with
   |true=>simp_all
   |false=>cases p y<;>simp<;>lia
def Ln(h:Ok M e w nt S)(hE:cB M e nt)(a0:0<=a)(a1:a<(nt:Int))(hn:S.po (e a).1≠S.po (e a).2):mu M (KX.UQ S e a)+1<=mu M S:=by
 obtain⟨⟨x0,x1⟩,y0,y1⟩:=hE a a0 a1;have W3:∀v,(KX.UQ S e a).po v=if v∈bY S e a then(S.n:Int) else S.po v:=λv=>rfl
 have mj:∀u,u∈bY S e a↔(0<=u/\u<(M:Int)/\(S.po u=S.po (e a).1\/S.po u=S.po (e a).2)):=λu=>by
  rw[Yr,h.cur _ x0 x1,h.cur _ y0 y1];constructor
  .rintro(⟨a,b,c⟩|⟨a,b,c⟩)
   .exact⟨a,b,.inl c⟩
   .exact⟨a,b,.inr c⟩
  .simp_all
 have k1:(e a).1∈bY S e a:=(mj _).mpr ⟨x0,x1,.inl rfl⟩;have k2:(e a).2∈bY S e a:=(mj _).mpr ⟨y0,y1,.inr rfl⟩;refine EH (λq hq k=>?_) ?_
 .rw[VH]at k ⊢;intro z;obtain⟨u0,uv,v1⟩:=zcg.mp hq
  grind
 .have ne:(e a).1≠(e a).2:=λz=>hn (by rw[z]);rcases Int.lt_or_gt_of_ne ne with z|z
  .exact⟨_,zcg.mpr ⟨x0,z,y1⟩,UN hn,VN λk=>k (by rw[W3,W3,T4 k1,T4 k2])⟩
  .exact⟨_,zcg.mpr ⟨y0,z,x1⟩,UN λk=>hn k.symm,VN λk=>k (by rw[W3,W3,T4 k1,T4 k2])⟩
noncomputable def Wd:Ql Str:=["ties","weights","parts","taken","points","widths","paid","around","piece_of"]
def fl(n:Nat)(f:Int->Int):D:=.lst (((ah n).map f).map D.int)
def fp(n:Nat)(f:Int->Ql Int):D:=.lst ((ah n).map λp=>bE (f p))
def iL(l:Ql Int):D:=.lst (l.map D.int)
def oD(C:XW)(M:Nat)(ts:Ql (Int×Int))(wl:Ql Int)(S:PS):D:=.obj C Wd [.lst (ts.map pD),iL wl,.int S.pa,iL S.tk,fp S.n S.pt,fl S.n S.wd,fl S.n S.pd,fl M S.ar,fl M S.po]
def aF(wl:Ql Int)(a:Int):Int:=wl.getD a.toNat 0
def fZ(n:Nat):(ah n).length=n:=by unfold ah;simp
def Nl{n:Nat}{f:Int->Int}(v0:0<=v)(v1:v<(n:Int)):((ah n).map f).getD v.toNat 0=f v:=by rw[Rl,Pr];unfold ah;rw[Pr,QJ (by lia)];show f v.toNat=f v;rw[PV v0]
def ik(h:f t=Qs r)(hr:r.d=.obj C ns ds)(hx:aW x ns=Qs j)(hd:ds[j]?=Qs d):(d1 (aG C x) f) t=Qs (if r.ok||flat d then .cl d else .tm d):=by
 unfold d1;rw[h];unfold aG
 simp_all
def gR(r:Ev)(d:D):((if r.ok||flat d then Ev.cl d else Ev.tm d):Ev).d=d:=by split<;>rfl
def iP(ha:fa t=Qs r1)(hb:fb t=Qs r2)(h1:r1.d=fl n f)(h2:r2.d=.int v)(v0:0<=v)(v1:v<(n:Int)):(d2 av fa fb) t=Qs (.cl (.int (f v))):=by have:=iG _ v ha hb v0 (by rw[O0,fZ];assumption) h1 h2;rw[Nl v0 v1]at this;assumption
def Ey{n:Nat}{f:Int->Ql Int}(v0:0<=v)(v1:v<(n:Int)):U2 ((ah n).map λp=>bE (f p)) v=Qs (bE (f v)):=by
 unfold L2.U2;have e:Vt ((ah n).map λp=>bE (f p)).length v=Qs v.toNat:=by rw[O0,fZ];have:=sD n v.toNat (by lia);rw[PV v0]at this;assumption
 rw[e];show((ah n).map _)[v.toNat]?=_;unfold ah;rw[Pr,Pr,QJ (by lia)];show Qs (bE (f v.toNat))=_;rw[PV v0]
def zg(ha:fa t=Qs r1)(hb:fb t=Qs r2)(h1:r1.d=fp n f)(h2:r2.d=.int v)(v0:0<=v)(v1:v<(n:Int)):∃r,(d2 av fa fb) t=Qs r/\r.d=bE (f v):=by rw[cu ha hb];unfold av;rw[h1,h2];show ∃r,(U2 _ v).map _=Qs r/\_;rw[Ey v0 v1];exact⟨_,rfl,gR _ _⟩
def Oz(ha:fa t=Qs r1)(hb:fb t=Qs r2)(h1:r1.d=iL l)(h2:r2.d=.int v)(v0:0<=v)(v1:v<(l.length:Int)):(d2 av fa fb) t=Qs (.cl (.int (aF l v))):=iG l v ha hb v0 v1 h1 h2
section
variable {C:XW}{M:Nat}{S:PS}{f:DE}{t:Th}{r:Ev}
def rQ(h:f t=Qs r)(hr:r.d=oD C M ts wl S):∃q,(d1 (aG C "ties") f) t=Qs q/\q.d=.lst (ts.map pD):=⟨_,ik h hr (rfl) rfl,gR _ _⟩
def Ld(h:f t=Qs r)(hr:r.d=oD C M ts wl S):∃q,(d1 (aG C "weights") f) t=Qs q/\q.d=iL wl:=⟨_,ik h hr (rfl) rfl,gR _ _⟩
def Cc(h:f t=Qs r)(hr:r.d=oD C M ts wl S):(d1 (aG C "parts") f) t=Qs (.cl (.int S.pa)):=by have:=ik (x:= "parts") h hr (rfl) rfl;rw[this];rw[show flat _=Qt from rfl,QE];rfl
def Le(h:f t=Qs r)(hr:r.d=oD C M ts wl S):∃q,(d1 (aG C "taken") f) t=Qs q/\q.d=iL S.tk:=⟨_,ik h hr (rfl) rfl,gR _ _⟩
def Ca(h:f t=Qs r)(hr:r.d=oD C M ts wl S):∃q,(d1 (aG C "points") f) t=Qs q/\q.d=fp S.n S.pt:=⟨_,ik h hr (rfl) rfl,gR _ _⟩
def wR(h:f t=Qs r)(hr:r.d=oD C M ts wl S):∃q,(d1 (aG C "widths") f) t=Qs q/\q.d=fl S.n S.wd:=⟨_,ik h hr (rfl) rfl,gR _ _⟩
def Lf(h:f t=Qs r)(hr:r.d=oD C M ts wl S):∃q,(d1 (aG C "paid") f) t=Qs q/\q.d=fl S.n S.pd:=⟨_,ik h hr (rfl) rfl,gR _ _⟩
def Cd(h:f t=Qs r)(hr:r.d=oD C M ts wl S):∃q,(d1 (aG C "around") f) t=Qs q/\q.d=fl M S.ar:=⟨_,ik h hr (rfl) rfl,gR _ _⟩
def Cb(h:f t=Qs r)(hr:r.d=oD C M ts wl S):∃q,(d1 (aG C "piece_of") f) t=Qs q/\q.d=fl M S.po:=⟨_,ik h hr (rfl) rfl,gR _ _⟩
def og(h:f t=Qs r)(hr:r.d=oD C M ts wl S)(hm:aW m Wd=Qn)(hg:ga t=Qs rs)(hG:G (oD C M ts wl S::rs.map Ev.d)=Qs (.cl d))(hf:flat d=Qt):cj C m G f ga t=Qs (.cl d):=by unfold cj;rw[h];simp;rw[hr];unfold oD;simp only[hm,and_self,if_true];rw[hg];refine m8 ?_ hf;rw[Pa,hr];assumption
end
def Af(hw:Wt M ts){i j:Nat}(hi:t[0]?=Qs sl)(hsl:sl=.val (oD C M ts wl S)\/sl=.dp (oD C M ts wl S))(hj:t[1]?=Qs (.val (.int a)))(a0:0<=a)(a1:a<(ts.length:Int)): (ba 1 [0] (gj (d2 av (d1 (aG C "ties") (af 0)) (af 1))) (aP 0) bS (d2 av (d1 (aG C "piece_of") (af 1)) (af 0))) t=Qs (.nw [.int (S.po (aw ts a).1),.int (S.po (aw ts a).2)]):=by
 obtain⟨b0,bb,bM⟩:=hw.lt _ (nI a0 a1);obtain⟨r0,e0,d0⟩:∃r,af 0 t=Qs r/\r.d=oD C M _ _ S:=by
  unfold af;rw[hi];rcases hsl with z|z<;>subst z
  .exact⟨_,rfl,rfl⟩
  .exact⟨_,rfl,rfl⟩
 obtain⟨q,eq,dq⟩:=rQ e0 d0;obtain⟨b,ec⟩:∃b,dH t [0]=Qs (b,[oD C M _ _ S]):=by
  rcases hsl with z|z
  .subst z;exact⟨Qt,by unfold dH;rw[hi];rfl⟩
  .subst z;exact⟨_,by unfold dH;rw[hi];rfl⟩
 have ix:∀(v:Int),0<=v->v<M->(d2 _ _ (af 0)) _=Qs _:=λv v0 v1=>by obtain⟨q,e,dq⟩:=Cb (f:=af 1) (t:=[.val _,.val (oD C M ts wl S)]) rfl rfl;exact iP e rfl dq rfl v0 v1
 unfold ba gj;rw[(ql eq (by unfold af;rw[hj]) dq rfl a0 a1),ec];show((if[D.int (aw ts a).1,D.int (aw ts a).2].length<=50000 then(bH _ _ _ _ [.no,.val _]).bind _ else Qn))=_;have cc:bH (aP 0) bS (d2 av (d1 (aG C "piece_of") (af 1)) (af 0)) [D.int (aw ts a).1,D.int (aw ts a).2] [.no,.val (oD C M ts wl S)]=Qs [.int (S.po (aw ts a).1),.int (S.po (aw ts a).2)]:=by show((d2 _ _ _) [.val _,.val _]).bind (λr=>(((d2 _ _ _) [.val _,.val _]).bind _).map _)=_;rw[(ix _ b0 (Tb bb bM)),(ix _ (QL (RC b0 bb)) bM)];rfl
 rw[cc];show(if(_||UD _)=Qt then _ else Qn)=_;rw[show UD _=Qt from rfl,QE];rfl
def MM(ha:fa t=Qs (.cl (.int v)))(hb:fb t=Qs (.cl (.UI G))):aH (d2 (oE Qf) fa fb) t=Qs (aI G v):=by unfold aH;rw[cu ha hb];show Qs (G.contains v)=_;unfold aI;simp
def FD(hw:Wt M ts)(a0:0<=a)(a1:a<(ts.length:Int)):lQ C [oD C M ts wl S,.int a,.UI G]=Qs (.cl (.int (bj S (aw ts) (aI G) a))):=by
 let O:Sl:=.val (oD C M ts wl S)
 let t0:Th:=[O,.val (.int a),.val (.UI G),.no,.no]
 let x:=S.po (aw ts a).1
 let y:=S.po (aw ts a).2
 let t1:Th:=[O,.val (.int a),.val (.UI G),.val (.int x),.val (.int y)]
 have E1:(dG (jg 2 ny) (ba 1 [0] (gj (d2 av (d1 (aG C "ties") ak) az)) br bS (d2 av (d1 (aG C "piece_of") az) ak))) t0=Qs (.nx t1):=by unfold dG;rw[Af (i:=0) (j:=0) hw rfl (.inl rfl) rfl a0 a1];rfl
 have c:=oV (fa:=af 3) (fb:=af 4) (t:=t1) (a:=x) (b:=y) rfl rfl;show(yf C t0).bind gG=_;unfold bj;by_cases z:x=y
 .rw[T4 z];exact Ve ((aE E1).trans (uU ((iH c (UN z)).trans rfl)))
 .rw[Um z];have e3:(ba 1 [2] (gj (ai dW (ae bc iS))) br (aH (d2 (oE Qf) ak az)) ak) t1=Qs (.nw (([x,y].filter (aI G)).map D.int)):=by show(if[D.int x,D.int y].length<=50000 then(bH _ _ _ ([x,y].map _) [.no,.val _]).bind _ else Qn)=_;rw[(tT _ _ (λv _=>(λv=>MM rfl rfl) v) (λv _ _=>⟨_,rfl,rfl⟩))];rfl
  have e4:=oz e3 rfl;have el:(([x,y].filter (aI G)).length)=jv (aI G x)+jv (aI G y):=by rw[QH,QH];cases aI G x<;>cases aI G y<;>rfl
  rw[el]at e4;exact Ve ((aE E1).trans ((aE (ig c (VN z))).trans (jS e4)))
structure Sm(M:Nat)(S:PS)(B:Nat):Prop where
 pa:S.pa<(B:Int)
 wd:∀p,0<=p->p<(S.n:Int)->0<=S.wd p/\S.wd p<(B:Int)
 pd:∀p,0<=p->p<(S.n:Int)->0<=S.pd p/\S.pd p<(B:Int)
 ar:∀v,0<=v->v<(M:Int)->0<=S.ar v/\S.ar v<(B:Int)
def AD(hB:B<=DL.Ve)(h0:0<=i)(h1:i<(B:Int)):sm i=Qt:=by exact UN (by lia)
def Di(hw:Wt M ts)(hl:wl.length=ts.length)(h0:∀x∈wl,0<=x/\x<10^30)(hB:B<=DL.Ve)(hp:0<S.pa)(hS:Sm M S B)(a0:0<=a)(a1:a<(ts.length:Int)):kG C [oD C M ts wl S,.int a]=Qs (.cl (.int (U5 S (aw ts) (aF wl) a))):=by
 obtain⟨b0,bb,bM⟩:=hw.lt _ (nI a0 a1);let O:Sl:=.val (oD C M ts wl S)
 let x:=(aw ts a).1
 let y:=(aw ts a).2
 let t0:=[O,.val (.int a),.no,.no]
 let t1:=[O,.val (.int a),.val (.int x),.val (.int y)]
 obtain⟨q,eq,dq⟩:=rQ (f:=af 0) (t:=t0) rfl rfl;have o1:af 0 t1=Qs _:=rfl;obtain⟨qw,ew,dw⟩:=Ld o1 rfl;obtain⟨qa,ea,da⟩:=Cd o1 rfl;have hm:aF wl a∈wl:=by
  unfold aF
  simp_all
 show(yd C t0).bind _=_;exact Ve ((aE (by
  unfold dG;rw[(ql eq rfl dq rfl a0 a1)];rfl)).trans (jS (uL (uL (rX (Oz ew rfl dw rfl a0 (by lia)) (Cc o1 rfl) (jL (by have:=h0 _ hm;lia) (by have:=h0 _ hm;lia)) (AD hB (QL hp) hS.pa)) (iP ea rfl da rfl b0 (Tb bb bM))) (iP ea rfl da rfl (QL (RC b0 bb)) bM))))
def Nm(hw:Wt M ts)(hT:ts.length<=1000)(hl:wl.length=ts.length)(h0:∀x∈wl,0<=x/\x<10^30)(hB:B<=DL.Ve)(hp:0<S.pa)(hS:Sm M S B):zM C [oD C M ts wl S,.UI G]=Qs (.cl (match dF S (aw ts) (aF wl) (aI G) ts.length with|some a=>.int a|none=>.Uz)):=by
 let O:Sl:=.val (oD C M ts wl S)
 let t0:=[O,.val (.UI G),.no]
 let bd:=(bZ (o6 (aH (d2 qG (cj C "growing_beside" (lQ C) ak (ae aN uw)) bq)) (aH (d2 (kI gz λi j=>.bl (decide (i<=j))) (cj C "left_between" (kG C) ak eO) bq))) (gU 2) dm)
 have turn:∀a:Int,0<=a->a<ts.length->bd _=if km S _ _ _ a then Qs _ else Qs _:=λa a0 a1=>by
  let t:=[O,.val (.UI G),.val (.int a)]
  show bZ _ _ _ t=_;rw[xW (OE (oN (og rfl rfl (by rfl) rfl (FD hw a0 a1) rfl) rfl) (by
   unfold aH;rw[cu (og rfl rfl (by rfl) rfl (Di hw hl h0 hB hp hS a0 a1) rfl) rfl];rfl))]
  rfl
 have loop:∀(L:Ql Int) s,(∀a∈L,0<=a/\a<ts.length)->(match L.find? (km S (aw ts) (aF wl) (aI G)) with
   |some a=>bL (aP 2) bd (L.map D.int) [O,.val (.UI G),s]=Qs (.rt (.cl (.int a)))
   |none=>∃s',bL (aP 2) bd (L.map D.int) [O,.val (.UI G),s]=Qs (.nx [O,.val (.UI G),s'])):=by
  intro L
  induction L with
  |nil=>exact λs _=>⟨s,rfl⟩
  |cons a L ih=>
   intro s h;have ra:=h a (OU ..);have tn:=turn a ra.1 ra.2;rw[Q9];cases z:km S _ _ _ a with
   |true=>rw[z]at tn;exact Ez rfl tn
   |false=>
    rw[z]at tn;have st:=iK (k:=aP 2) (ds:=L.map D.int) (t:=[O,.val _,s]) rfl tn
    simp_all
 have lp:=loop _ .no λa ha=>cW ha;obtain⟨q,eq,dq⟩:=rQ (f:=af 0) (t:=t0) rfl rfl;have el:(ai bI (ae (d1 (aG C "ties") ak) ao)) t0=Qs (.cl (.int ts.length)):=by rw[fG eq];unfold bI;dsimp only;rw[dq];simp
 have er:=Ia (k0:=aP 2) (b:=bd) el rfl (by lia);unfold dF;cases z:(ah _).find? _ with
 |some a=>rw[z]at lp;exact Ve (uU (er.trans lp))
 |none=>rw[z]at lp;obtain⟨s',e⟩:=lp;exact Ve ((aE (er.trans e)).trans rfl)
end KX
set_option maxHeartbeats 4000000
namespace KX
open PySem.Spec L2 DL
def vK(hf:f t=Qs (.cl (.int (n:Int))))(hn:n<=50000):cX f t=Qs (Qt,(ah n).map D.int):=by unfold cX;rw[hf];simp only[OY,Ev.d];rw[T4 (by exact UN (by lia))];unfold eA ah;simp
def NQ(hf:f t=Qs (.cl (.int (n:Int))))(hn:n<=50000)(hc:dH t cap=Qs (b,c))(he:∀x∈ah n,fe (.val (.int x)::c.map Sl.val)=Qs (.cl (.int (g x)))): (ba 1 cap (cX f) br bS fe) t=Qs (.nw (((ah n).map g).map D.int)):=by unfold ba;rw[vK hf hn,hc];simp only[OY];rw[T4 (by rw[O0,rW];assumption)];show(bH _ _ _ _ (Sl.no::c.map _)).bind _=_;rw[(yM (λ_ _=>rfl) _ _ he)];simp only[OY,Vk,QE,if_true]
end KX
set_option maxHeartbeats 1000000
namespace KX
open PySem.Spec L2 DL
def rV(n:Nat):ah n=(RY 0 n).map λ(i:Nat)=>(i:Int):=by unfold ah;rw[List.range_eq_range']
theorem yN{b:Int->Int}{c:Ql D}:∀(k j:Nat) (s s':Sl),(∀i:Nat,i<j+k->ft (.val (.int (i:Int))::.val (.int (b i))::c.map Sl.val)=Qs (p i)/\(p i=Qt->fe (.val (.int (i:Int))::.val (.int (b i))::c.map Sl.val)=Qs (.cl (.int (f i)))))->bH (di 2 kH) ft fe (d8 j (((RY j k).map λ(i:Nat)=>(b (i:Int))).map D.int)) (s::s'::c.map Sl.val)=Qs (((((RY j k).map λ(i:Nat)=>(i:Int)).filter p).map f).map D.int)
 |0,j,s,s',_=>rfl
 |k+1,j,s,s',h=>by
  obtain⟨h1,h2⟩:=h j (by lia);have ih:=yN k (j+1) (.val (.int j)) (.val (.int (b j))) λi hi=>h i (by lia);rw[List.range'_succ,Pa,Pa,Pa];unfold d8 bH;have k1:di 2 kH (.tup [.int j,.int (b j)]) (s::s'::c.map Sl.val)=Qs (.val _::.val _::c.map _):=rfl;rw[k1];simp only[OY];rw[h1];simp only[OY];rw[QH];cases z:p _ with
  |true=>rw[h2 z,ih];rfl
  |false=>lia
def Ho(hw:Wt M ts)(hT:ts.length<=1000)(hl:wl.length=ts.length)(h0:∀x∈wl,0<=x/\x<10^30)(hB:B<=DL.Ve)(hp:0<S.pa)(hS:Sm M S B):zJ C [oD C M ts wl S,.UI G]=Qs (.nw ((gZ S (aw ts) (aF wl) (aI G) ts.length).map D.int)):=by
 let O:Sl:=.val (oD C M ts wl S)
 let t0:=[O,.val (.UI G),.no]
 obtain⟨q,eq,dq⟩:=rQ (f:=af 0) (t:=t0) (r:=.cl (oD C M ts wl S)) (M:=M) (ts:=ts) (wl:=wl) (S:=S) rfl rfl;have el:(ai bI (ae (d1 (aG C "ties") ak) ao)) t0=Qs (.cl (.int (ts.length:Int))):=by rw[fG eq];unfold bI;dsimp only;rw[dq];simp
 let bs:Int->Int:=bj S (aw ts) (aI G)
 have e1:=NQ (cap:=[1,0]) (t:=t0) (b:=Qt) (c:=[.UI G,oD C M ts wl S]) (fe:=cj C "growing_beside" (lQ C) aN kJ) (g:=bs) el (by lia) rfl λx hx=>by have rx:=cW hx;exact og rfl rfl (rfl) rfl (FD hw rx.1 rx.2) rfl
 have E1:=fE (i:=2) e1 (by simp[t0]);let t1:Th:=[O,.val (.UI G),.own (((ah ts.length).map bs).map D.int)]
 have e2:(ba 2 [0] (lh aN) (di 2 kH) (aH (d2 qG az bq)) (d2 qV (cj C "left_between" (kG C) aN gY) az)) t1=Qs (.nw ((gZ S (aw ts) (aF wl) (aI G) ts.length).map D.int)):=by
  have cc:=yN (p:=λa=>decide (0<bs a)) (f:=λa=>(U5 S _ _ a).fdiv _) (ft:=(aH (d2 _ az (dC _)))) (fe:=(d2 _ _ az)) (c:=[oD C M _ _ S]) ts.length 0 .no .no λi hi=>by
   let t:=[.val (.int i),.val (.int (bs i)),O]
   refine⟨oN rfl rfl,λz=>?_⟩;have bb:=nh S (aw ts) (aI G) i;have z:=of_decide_eq_true z;have bb:0<=bs i/\bs i<=2:=bb;exact oX (og (ga:=ae ak ao) (m:= "left_between") (f:=af 2) rfl rfl (by rfl) rfl (Di hw hl h0 hB hp hS (by lia) (by lia)) rfl) rfl (by lia) (jL (by lia) (by lia))
  have em:((ah ts.length).map bs).map D.int=((RY 0 ts.length).map λ(i:Nat)=>(bs i)).map D.int:=by rw[rV,Pe,Pe,Pe];rfl
  have es:lh aN t1=Qs _:=rfl;unfold ba;rw[es,em];show(if(d8 0 _).length<=50000 then(bH _ _ _ _ [.no,.no,O]).bind _ else Qn)=_;rw[T4 (by rw[lr];simp;lia)];have cc':bH (di 2 kH) (aH (d2 qG az bq)) (d2 qV (cj C "left_between" (kG C) aN gY) az) (d8 0 (((RY 0 ts.length).map λ(i:Nat)=>(bs i)).map D.int)) [.no,.no,O]=Qs ((gZ S (aw ts) (aF wl) (aI G) ts.length).map D.int):=by unfold gZ;rw[rV];assumption
  rw[cc'];simp only[OY,Vk,QE,if_true]
 show(ya C t0).bind gG=_;exact Ve ((aE E1).trans (jS e2))
def yi(h:t[0]?=Qs (.dp (.obj C ns ds)))(he:fe t=Qs r)(hy:kn r=Qs y)(hj:aW x ns=Qs j)(hn:ns.length<900):eJ 0 C x fe t=Qs (.nx (t.set 0 (.dp (.obj C ns (ds.set j y))))):=by unfold eJ;rw[he];show mN t 0 C x r=_;unfold mN;rw[h,hy];show(if C=C/\ns.length<900 then Qs _ else Qn)=_;rw[T4 ⟨rfl,hn⟩];unfold DL.Yn;rw[hj]
def ji(h:t[0]?=Qs (.dp (.obj C ns ds)))(he:fe t=Qs r)(hy:kn r=Qs y)(hj:aW x ns=Qn)(hn:ns.length<900):eJ 0 C x fe t=Qs (.nx (t.set 0 (.dp (.obj C (ns++[x]) (ds++[y]))))):=by unfold eJ;rw[he];show mN t 0 C x r=_;unfold mN;rw[h,hy];show(if C=C/\ns.length<900 then Qs _ else Qn)=_;rw[T4 ⟨rfl,hn⟩];unfold DL.Yn;rw[hj]
def xw(h:t[0]?=Qs (.dp (.obj C ns ds)))(hj:aW x ns=Qs j)(hd:ds[j]?=Qs (.lst es))(f1:UD es=Qt)(hk:k es=Qs Vd)(f2:UD Vd=Qt):kb t 0 C x k=Qs (.nx (t.set 0 (.dp (.obj C ns (ds.set j (.lst Vd)))))):=by
 unfold kb
 simp_all
def MZ(hM:M<=1000)(hn:S.n<=1000)(hB:B<=DL.Ve)(hS:Sm M S B):zK C [oD C M ts wl S]=Qs (oD C M ts wl (Vi S)):=by
 have dbl:∀{t:Th}{f:DE}{r:Ev}{n:Nat}{g:Int->Int},f t=Qs r->r.d=fl n g->n<=1000->(∀p,0<=p->p<(n:Int)->0<=g p/\g p<B)->(ba 1 _ _ _ _ _) t=Qs _:=λ{t f r n g} hf hr hn hg=>by
  have:=Fc (cap:=[]) (fe:=(d2 _ iy ak)) hf hr (by rw[O0,fZ];lia) rfl λx hx=>by obtain⟨p,hp,rfl⟩:=Pj.mp hx;have rp:=cW hp;have:=hg p rp.1 rp.2;exact rX rfl rfl (jL (by decide) (by simp)) (AD hB this.1 this.2)
  rw[Pe (f:=g)]at this;assumption
 let t0:Th:=[.dp (oD C M ts wl S)]
 let S1:={S with pa:=S.pa*2}
 let S2:={S1 with wd:=λp=>2*S.wd p}
 let S3:={S2 with pd:=λp=>2*S.pd p}
 have E1:tM 0 C "parts" iy t0=Qs (.nx [.dp (oD C M ts wl S1)]):=by show(if C=C/\Wd.length<900/\(2:Int).natAbs<=1000 then _ else Qn)=_;rw[T4 ⟨rfl,by decide,by decide⟩];rfl
 obtain⟨q2,a2,b2⟩:=wR (f:=af 0) (t:=[.dp _]) (C:=C) (M:=M) (ts:=ts) (wl:=wl) (S:=S1) rfl rfl;obtain⟨q3,a3,b3⟩:=Lf (f:=af 0) (t:=[.dp _]) (C:=C) (M:=M) (ts:=ts) (wl:=wl) (S:=S2) rfl rfl;obtain⟨q4,a4,b4⟩:=Cd (f:=af 0) (t:=[.dp _]) (C:=C) (M:=M) (ts:=ts) (wl:=wl) (S:=S3) rfl rfl;show(sQ C t0).bind _=_;have:=(aE E1).trans ((aE (yi (t:=[.dp (oD C M ts wl S1)]) (C:=C) (x:= "widths") (j:=5) (y:=fl S.n λp=>2*S.wd p) rfl (dbl a2 b2 hn hS.wd) (by show(if UD _ then Qs _ else Qn)=_;rw[Vk];rfl) (by rfl) (by decide))).trans ((aE (yi (t:=[.dp (oD C M ts wl S2)]) (C:=C) (x:= "paid") (j:=6) (y:=fl S.n λp=>2*S.pd p) rfl (dbl a3 b3 hn hS.pd) (by show(if UD _ then Qs _ else Qn)=_;rw[Vk];rfl) (by rfl) (by decide))).trans (yi (t:=[.dp (oD C M ts wl S3)]) (C:=C) (x:= "around") (j:=7) (y:=fl M λp=>2*S.ar p) rfl (dbl a4 b4 hM hS.ar) (by show(if UD _ then Qs _ else Qn)=_;rw[Vk];rfl) (by rfl) (by decide))));rw[show sQ C _=_ from this];rfl
def yn{n:Nat}{p v:Int}(p0:0<=p)(p1:p<(n:Int)):((ah n).map f).set p.toNat v=(ah n).map λq=>if q=p then v else f q:=by
 apply QS;intro i;rw[T3];unfold ah;simp only[Pr,O0,RM];by_cases h:i<n
 .rw[QJ h];by_cases z:p.toNat=i
  .rw[T4 z,T4 (by lia)];simp only[QO];rw[T4 (by lia)]
  .rw[Um z];simp only[QO];rw[Um (by lia)]
 .simp_all
def yo{n:Nat}{f:Int->Int}(p0:0<=p)(p1:p<(n:Int)):Vt ((ah n).map f).length p=Qs p.toNat/\((ah n).map f)[p.toNat]?=Qs (f p):=by
 constructor
 .rw[O0,fZ];have:=sD n p.toNat (by lia);rw[PV p0]at this;assumption
 .unfold ah;rw[Pr,Pr,QJ (by lia)];show Qs (f p.toNat)=_;rw[PV p0]
def xP(l:Ql Int):d6 (l.map D.int)=Qs l:=by
 induction l with
 |nil=>rfl
 |cons x l ih=>simp only[Pa,d6,ih];rfl
def FI(h:t[0]?=Qs (.dp (.obj C ns ds)))(hj:aW x ns=Qs j)(hd:ds[j]?=Qs (fl n f))(hk:fk t=Qs (.cl (.int p)))(he:fe t=Qs (.cl (.int v)))(p0:0<=p)(p1:p<(n:Int)):jt (λi j=>i+j) 0 C x fk fe t=Qs (.nx (t.set 0 (.dp (.obj C ns (ds.set j (fl n λq=>f q+if q=p then v else 0)))))):=by
 unfold jt;rw[hk,he];refine xw h hj hd (Vk _) ?_ (Vk _);show(Vt _ p).bind _=_;obtain⟨a,b⟩:=yo (f:=f) p0 p1;rw[O0,a];simp only[OY];rw[Pr,b];show Qs _=_;rw[<-Ue,yn p0 p1];congr 2;refine Qd λq _=>?_;by_cases z:q=p
 .rw[T4 z,T4 z,z]
 .rw[Um z,Um z,SA]
theorem FH{M:Nat}:∀(zs:Ql Int) (f:Int->Int),zs.Nodup->(∀z∈zs,0<=z/\z<(M:Int))->fS m zs ((ah M).map f)=Qs ((ah M).map λv=>f v+if v∈zs then m else 0)
 |[],f,_,_=>by show Qs _=_;simp
 |z::zs,f,nd,h=>by
  obtain⟨z0,z1⟩:=h z (OU ..);obtain⟨a,b⟩:=yo (f:=f) z0 z1;unfold fS;rw[a];simp only[OY];rw[b];simp;rw[yn z0 z1,FH _ _ (O7.mp nd).2 λy hy=>h y (OS _ hy)];congr 1;refine Qd λq _=>?_;by_cases y:q=z
  .simp_all
  .simp_all
def M4(i1:aW f1 ns=Qs j1)(i2:aW f2 ns=Qs j2)(h1:ds[j1]?=Qs (.lst rows))(h2:ds[j2]?=Qs (.lst es))(ha:U2 rows n=Qs (.lst xs))(hz:d6 xs=Qs zs)(hw:d6 es=Qs ws)(hj:j1≠j2)(hu:fS m zs ws=Qs us):∃WG,(lF 0 3 4 2 C f1 f2) [.dp (.obj C ns ds),s1,.val (.int m),.val (.int n),s4]=Qs (.nx [.dp (.obj C ns (ds.set j2 (.lst (us.map D.int)))),s1,.val (.int m),.val (.int n),WG]):=by
 unfold lF;simp only[sS,oR,mQ,List.getElem?_cons_zero,Ra,i1,i2,OY,h1,h2,ha,hz,hw,hu];rw[T4 hj];cases z:zs.getLast? with
 |none=>exact⟨s4,rfl⟩
 |some u=>exact⟨_,rfl⟩
def M3(hO:Ok M e w nt S)(nG:G.Nodup)(hG:∀p∈G,∃v,0<=v/\v<(M:Int)/\S.po v=p):zL C [oD C M ts wl S,.UI G,.int st]=Qs (oD C M ts wl (V6 S (aI G) st)):=by
 let T (P:Ql Int) (s3 s4:Sl):Th:=[.dp (oD C M ts wl (V6 S (aI P) st)),.val (.UI G),.val (.int st),s3,s4]
 let bd:DS:=(aB (jt (λi j=>i+j) 0 C "widths" bc aN) (aB (jt (λi j=>i+j) 0 C "paid" bc aN) (lF 0 3 4 2 C "points" "around")))
 have turn:∀(P:Ql Int) (p:Int) (s4:Sl),p∉P->(∃v,0<=v/\v<(M:Int)/\S.po v=p)->∃WG,bd (T P (.val (.int p)) s4)=Qs (.nx (T (P++[p]) (.val (.int p)) WG)):=by
  rintro P p s4 hp ⟨v,v0,v1,rfl⟩;have pr:=hO.Wj v v0 v1;let p:=S.po v
  let Sa:=V6 S (aI P) st
  let S1:={Sa with wd:=λq=>Sa.wd q+if q=p then st else 0}
  let S2:={S1 with pd:=λq=>Sa.pd q+if q=p then st else 0}
  have i1:aW "points" Wd=Qs 4:=rfl;have i2:aW "around" Wd=Qs 7:=rfl;have fin:oD C M ts wl (V6 S (aI (P++[p])) st)=.obj C Wd [.lst (ts.map pD),iL wl,.int S.pa,iL S.tk,fp S.n S.pt,fl S.n S2.wd,fl S.n S2.pd,.lst (((ah M).map λv=>Sa.ar v+if v∈S.pt p then st else 0).map D.int),fl M S.po]:=by
   have k:∀q,(if aI (P++[p]) q then st else 0)=(if aI P q then st else 0)+if q=p then st else 0:=λq=>by
    unfold aI;by_cases z:q=p
    .grind
    .simp_all
   have e1:(V6 S (aI (P++[p])) st).wd=S2.wd:=by
    funext q;show S.wd q+(if aI _ q then st else 0)=S.wd q+(if aI P q then st else 0)+if q=p then st else 0
    rw[k,Vb]
   have e2:(V6 S (aI (P++[p])) st).pd=S2.pd:=by
    funext q;show S.pd q+(if aI _ q then st else 0)=S.pd q+(if aI P q then st else 0)+if q=p then st else 0
    rw[k,Vb]
   have e3:(ah M).map (V6 S (aI (P++[p])) st).ar=(ah M).map λv=>Sa.ar v+if v∈S.pt p then st else 0:=by
    refine Qd λu hu=>?_;have ru:=cW hu;show S.ar u+(if aI _ _ then st else 0)=S.ar u+(if aI P _ then st else 0)+if u∈S.pt p then st else 0
    rw[k];have:(S.po u=p)↔u∈S.pt p:=by rw[hO.cur v v0 v1];exact⟨λz=>⟨ru.1,ru.2,z⟩,λz=>z.2.2⟩
    lia
   unfold oD fl;rw[e1,e2,e3];rfl
  have E3:∃WG,(lF 0 3 4 2 C "points" "around") [.dp (oD C M ts wl S2),.val (.UI G),.val (.int st),.val (.int p),s4]=Qs (.nx (T (P++[p]) (.val (.int p)) WG)):=by obtain⟨WG,q⟩:=M4 (ds:=[.lst _,iL _,.int _,iL _,fp _ _,fl _ _,fl _ _,fl M _,fl M _]) i1 i2 rfl rfl (Ey pr.1 pr.2) (xP _) (xP _) (by decide) (FH _ _ (hO.nd pr.1 pr.2) (hO.inr p pr.1 pr.2));refine⟨WG,q.trans ?_⟩;simp only[T,fin];rfl
  obtain⟨WG,E3⟩:=E3;exact⟨WG,(aE (FI (t:=T P _ _) (j:=5) rfl (by rfl) rfl rfl rfl pr.1 pr.2)).trans ((aE (FI (t:=[.dp _,.val _,.val _,.val _,s4]) (j:=6) rfl (by rfl) rfl rfl rfl pr.1 pr.2)).trans E3)⟩
 have loop:∀(L P:Ql Int) (s3 s4:Sl),(P++L).Nodup->(∀p∈L,∃v,0<=v/\v<(M:Int)/\S.po v=p)->∃ZS WG,bL jF bd (L.map D.int) (T P s3 s4)=Qs (.nx (T (P++L) ZS WG)):=by
  intro L
  induction L with
  |nil=>exact λP s3 s4 _ _=>⟨s3,s4,by rw[PH];rfl⟩
  |cons p L ih=>
   intro P s3 s4 nd h;obtain⟨WG,e⟩:=turn P p s4 (λz=>(O4.mp nd).2.2 p z p (OU ..) rfl) (h p (OU ..));obtain⟨a,b,e2⟩:=ih (P++[p]) (.val (.int p)) WG (by simpa using nd) λq hq=>h q (OS _ hq);have ea:P++p::L=(P++[p])++L:=by simp
   exact⟨a,b,by rw[ea];exact(iK rfl e).trans e2⟩
 obtain⟨ZS,WG,e⟩:=loop G [] .no .no (by simpa using nG) hG;have e0:oD C M ts wl (V6 S (aI []) st)=oD C M ts wl S:=by
  have:V6 S (aI []) st=S:=by unfold V6 aI;simp
  rw[this]
 show(tK jF az bd [.dp (oD C M ts wl S),.val (.UI G),.val (.int st),.no,.no]).bind rR=_;have es:tK jF az bd [.dp (oD C M ts wl S),.val (.UI G),.val (.int st),.no,.no]=Qs (.nx (T G ZS WG)):=by
  have q:T [] .no .no=[.dp (oD C M ts wl S),.val (.UI G),.val (.int st),.no,.no]:=by simp only[T,e0]
  rw[Rj,q]at e;exact e
 rw[es];rfl
end KX
set_option maxHeartbeats 4000000
namespace KX
open PySem.Spec L2 DL
def dV(P:Ql Int)(V:Int->Int):D:=.U1 (P.map Sum.inl) (P.map λp=>.int (V p))
def CT(n:Int):Nat->Ql Int->Int->Int
 |_,[],_=>n
 |i,x::xs,p=>if x=p then(i:Int) else CT n (i+1) xs p
def Fo(v:Int->Int)(p q:Int):Prop:=v q<v p\/(v q=v p/\p<=q)
def DI(n:Int)(P:Ql Int)(V:Int->Int)(i:Nat)(ps:Ql Int):Prop:=∀q,(if q∈P then V q else n)=CT n i (ps.drop i) q
end KX
set_option maxHeartbeats 1000000
namespace KX
open PySem.Spec L2 DL
def EC(a b:Nat)(h:0<b):(a:Int).fmod (b:Int)=((a % b:Nat):Int):=by lia
def tY:DT:=(aH (d2 eU az bq))
theorem Fh:∀(n a b:Nat),b<n->fF tY o8 n [.val (.int (a:Int)),.val (.int (b:Int))]=Qs (.nx [.val (.int (Rb a b:Int)),.val (.int 0)])
 |0,a,b,h=>by lia
 |n+1,a,b,h=>by
  have ec:tY [.val (.int (a:Int)),.val (.int (b:Int))]=Qs (!decide ((b:Int)=0)):=by simp[tY,aH,d2,af,dC,eU,bC,cg,Ev.d,aQ,B6]
  unfold fF;rw[ec];by_cases hb:b=0
  .subst hb;simp
  .have XI:¬((b:Int)=0):=by lia
   rw[VN XI];have eb:o8 [.val (.int (a:Int)),.val (.int (b:Int))]=Qs (.nx [.val (.int (b:Int)),.val (.int ((a % b:Nat):Int))]):=by
    unfold o8 iM;have:(ae (af 1) (ae (d2 qR (af 0) (af 1)) ao)) [.val (.int (a:Int)),.val (.int (b:Int))]=Qs [.cl (.int (b:Int)),.cl (.int ((a:Int).fmod (b:Int)))]:=by simp[ae,ao,d2,af,kI,lI,Ev.d,hb]
    rw[this,EC a b (by lia)];rfl
   simp only[OY,Bool.not_false,if_true,eb];rw[Fh n b (a % b) (by have:=Nat.mod_lt a (show 0<b by lia);lia),Tc b,<-V0,Tc b]
def NS(a b:Nat):zH [.int (a:Int),.int (b:Int)]=Qs (.cl (.int (Rb a b:Int))):=by show((aB (lC _ tY o8) _) [.val _,.val _]).bind _=_;have e':(lC (oS 1) _ _) [.val _,.val (.int b)]=Qs _:=(Fh (((b:Int).natAbs)+1) a b (by lia));rw[aE e'];rfl
def EI(a b:Nat):(a:Int).fdiv (b:Int)=((a/b:Nat):Int):=by lia
def AB(h:a<DL.Ve):sm (a:Int)=Qt:=by unfold sm;rw[VH];assumption
def Nc(s m:Nat)(h0:0<m)(h:m<DL.Ve):kF [.int (s:Int),.int (m:Int)]=Qs (.cl (.tup [.int ((s/Rb s m:Nat):Int),.int ((m/Rb s m:Nat):Int)])):=by
 have g0:0<Rb s m:=SD _ h0;have gs:sm (Rb s m)=Qt:=AB (PR (Ui _ h0) h);let t0:Th:=[.val (.int s),.val (.int m),.no]
 let t1:Th:=[.val (.int s),.val (.int m),.val (.int (Rb s m))]
 have d1:=oX (fa:=af 0) (fb:=af 2) (t:=t1) rfl rfl (by lia) gs;have Zw:=oX (fa:=af 1) (fb:=af 2) (t:=t1) rfl rfl (by lia) gs;rw[EI]at d1 Zw;exact Ve ((aE (jw ((eP rfl (rfl:af 1 t0=Qs _)).trans (m8 (NS s m) rfl)) (by simp[t0]))).trans ((aE (ig (r8 rfl rfl) (VN (by lia)))).trans (jS ((eP d1 Zw).trans rfl))))
def Ct(n:Nat):ah (n+1)=ah n++[(n:Int)]:=Ll n
def EF(n:Nat)(f:Int->Int)(v:Int):((ah n).map f++[v])=(ah (n+1)).map λp=>if p=(n:Int) then v else f p:=by
 rw[Ct,Qg];congr 1
 .refine Qd λp hp=>?_;have:=cW hp;rw[Um (by lia)]
 .simp
def Nh(n:Nat)(f:Int->Ql Int)(v:Ql Int):((ah n).map λp=>bE (f p))++[bE v]=(ah (n+1)).map λp=>bE (if p=(n:Int) then v else f p):=by
 rw[Ct,Qg];congr 1
 .refine Qd λp hp=>?_;have:=cW hp;rw[Um (by lia)]
 .simp
def zo(h:t[0]?=Qs (.dp (.obj C ns ds)))(hj:aW x ns=Qs j)(hd:ds[j]?=Qs (iL l))(he:fe t=Qs (.cl (.int v)))(hl:l.length<100000):lG 0 C x fe t=Qs (.nx (t.set 0 (.dp (.obj C ns (ds.set j (iL (l++[v]))))))):=by unfold lG;rw[he];refine xw h hj hd (Vk _) ?_ (Vk _);show(if(flat _&&decide _)=Qt then Qs _ else Qn)=_;rw[O0,UN hl,Qg];rfl
def L0(h:f t=Qs r)(hr:r.d=fp n g):(ai bI (ae f ao)) t=Qs (.cl (.int (n:Int))):=by rw[fG h];unfold bI;dsimp only;rw[hr];show Qs _=_;rw[O0,fZ]
def Bj(h:Ok M e w nt S)(p0:0<=p)(p1:p<(S.n:Int)):(S.pt p).length<=M:=by
 have:=As (h.nd p0 p1) λu hu=>by have:=h.inr p p0 p1 u hu;exact hX this.1 this.2
 rwa [fZ]at this
def Nt(l:Ql Int):XM (l.map D.int) (l.map D.int)=Qt:=by have:=Nu (.lst (l.map D.int));assumption
def IV(hw:Wt M ts)(hM:M<=30)(hn:S.n<=1000)(hO:Ok M (aw ts) w ts.length S)(hk:S.tk.length<=1000)(a0:0<=a)(a1:a<(ts.length:Int)):zI C [oD C M ts wl S,.int a]=Qs (oD C M ts wl (UQ S (aw ts) a)):=by
 obtain⟨b0,bb,bM⟩:=hw.lt _ (nI a0 a1);let x:=S.po (aw ts a).1
 let y:=S.po (aw ts a).2
 have px:=hO.Wj _ b0 (Tb bb bM);have py:=hO.Wj _ (QL (RC b0 bb)) bM;let J:=bY S (aw ts) a
 let A:Sl:=.val (.int a)
 let X:Sl:=.val (.int x)
 let Y:Sl:=.val (.int y)
 let t0:=[.dp (oD C M ts wl S),A,.no,.no,.no,.no]
 let t1:=[.dp (oD C M ts wl S),A,X,Y,.no,.no]
 have E1:(dG (jg 2 (bK (aP 2) pX)) (ba 1 [0] (gj (d2 av (d1 (aG C "ties") ak) az)) br bS (d2 av (d1 (aG C "piece_of") az) ak))) t0=Qs (.nx t1):=by unfold dG;rw[Af (i:=0) (j:=0) hw rfl (.inr rfl) rfl a0 a1];rfl
 obtain⟨q,eq,dq⟩:=Ca (f:=af 0) (t:=t1) rfl rfl;obtain⟨r1,k1,d1'⟩:=zg eq (rfl:af 2 t1=Qs _) dq rfl px.1 px.2;obtain⟨r2,k2,Zw⟩:=zg eq (rfl:af 3 t1=Qs _) dq rfl py.1 py.2;have lx:(S.pt x).length<=M:=Bj hO px.1 px.2;have ly:(S.pt y).length<=M:=Bj hO py.1 py.2;have ec:(d2 cN (d2 av (d1 (aG C "points") ak) aN) (d2 av (d1 (aG C "points") ak) bc)) t1=Qs (.nw ((S.pt x++S.pt y).map D.int)):=by
  rw[cu k1 k2];have:(kI gz λi j=>D.int (i+j)) r1 r2=Qn:=by(try unfold cN);(try unfold qS);(try unfold qM);(try unfold qV);(try unfold qR);(try unfold qL);(try unfold qG);(try unfold qP);unfold kI;rw[d1'];rfl
  (try unfold cN);(try unfold qM);unfold k6
  rw[this];unfold iF;rw[d1',Zw];show(if(r1.ok||UD _)&&(r2.ok||UD _)&&decide _ then Qs _ else Qn)=_;rw[Vk,Vk,QE,QE,UN (by rw[O0,O0];lia),T4 (by rfl),Qg]
 let oP (P:Ql Int):D:=.obj C Wd [.lst (ts.map pD),iL wl,.int S.pa,iL S.tk,fp S.n S.pt,fl S.n S.wd,fl S.n S.pd,fl M S.ar,fl M λv=>if v∈P then(S.n:Int) else S.po v]
 let T (P:Ql Int) (s5:Sl):Th:=[.dp (oP P),A,X,Y,.own (J.map D.int),s5]
 have rJ:∀z∈J,0<=z/\z<(M:Int):=λz hz=>by
  rcases Yr.mp hz with k | k
  .exact hO.inr x px.1 px.2 z k
  .exact hO.inr y py.1 py.2 z k
 let bd:DS:=(m4 0 C "piece_of" cK (ai bI (ae (d1 (aG C "points") ak) ao)))
 have turn:∀(P:Ql Int) (z:Int),0<=z->z<(M:Int)->bd (T P (.val (.int z)))=Qs (.nx (T (P++[z]) (.val (.int z)))):=λP z z0 z1=>by
  show m4 0 C _ _ _ _=_;unfold m4;rw[(L0 (ik rfl rfl (by rfl) rfl) (gR _ _))];exact xw (t:=T P _) (j:=8) rfl (by rfl) rfl (Vk _) (by
   show(if flat (D.int S.n) then(Vt _ z).map _ else Qn)=_;rw[O0,(yo z0 z1).1];show Qs ((((ah M).map _).map D.int).set _ (.int _))=_;rw[<-Ue,yn z0 z1]
   grind) (Vk _)
 have loop:∀(L P:Ql Int) (s5:Sl),(∀z∈L,0<=z/\z<(M:Int))->∃s5',jh 4 (J.map D.int) 5 bd (L.map D.int) (T P s5)=Qs (T (P++L) s5'):=by
  intro L
  induction L with
  |nil=>exact λP s5 _=>⟨s5,by rw[PH];rfl⟩
  |cons z L ih =>
   intro P s5 h;have rz:=h z (OU ..);obtain⟨s5',e⟩:=ih _ _ λu hu=>h u (OS _ hu);refine⟨s5',?_⟩;have ea:P++z::L=(P++[z])++L:=by simp
   rw[ea,Pa];unfold jh;rw[show aP 5 _ _=Qs (T P _) from rfl];simp only[OY];rw[turn P z rz.1 rz.2];show(if XM _ _ then jh 4 _ 5 _ _ _ else Qn)=_;rw[Nt];assumption
 obtain⟨s5,lp⟩:=loop J [] .no rJ;rw[Rj]at lp;have o0:oP []=oD C M ts wl S:=by rfl
 have E3:tJ 4 5 bd [.dp (oD C M ts wl S),A,X,Y,.own (J.map D.int),.no]=Qs (.nx (T J s5)):=by show(if(J.map _).all _ then(jh 4 _ 5 _ _ _).map _ else Qn)=_;rw[AJ];have q:T [] _=[.dp (oD C M _ _ S),A,X,Y,.own _,.no]:=rfl;rw[<-q,lp];rfl
 have i4:aW "points" Wd=Qs 4:=by rfl
 have i5:aW "widths" Wd=Qs 5:=by rfl
 have i6:aW "paid" Wd=Qs 6:=by rfl
 have i3:aW "taken" Wd=Qs 3:=by rfl
 let po2:Int->Int:=λv=>if v∈J then(S.n:Int) else S.po v
 let XE:Int->Ql Int:=λp=>if p=(S.n:Int) then J else S.pt p
 let wd2:Int->Int:=λp=>if p=(S.n:Int) then 0 else S.wd p
 let pd2:Int->Int:=λp=>if p=(S.n:Int) then S.pd x+S.pd y else S.pd p
 let t4:Th:=[.dp (.obj C Wd [.lst (ts.map pD),iL wl,.int S.pa,iL S.tk,fp (S.n+1) XE,fl S.n S.wd,fl S.n S.pd,fl M S.ar,fl M po2]),A,X,Y,.no,s5]
 have E4:tL 0 4 C "points" (T J s5)=Qs (.nx t4):=by show(if C=C/\4≠0/\UD _=Qt then(aW _ _).bind _ else Qn)=_;rw[T4 ⟨rfl,by decide,Vk _⟩];show(if((ah _).map _).length<100000 then Qs _ else Qn)=_;rw[T4 (by rw[O0,fZ];lia)];have:=Nh S.n S.pt J;show Qs (Out.nx [.dp (.obj C _ [.lst _,iL _,.int _,iL _,.lst (((ah _).map _)++[bE J]),fl _ _,fl _ _,fl M _,fl M _]),A,X,Y,.no,s5])=_;rw[this];rfl
 have E5:=zo (t:=t4) (C:=C) (x := "widths") (j:=5) (l:=(ah S.n).map S.wd) (v:=0) (fe:=dC (.int 0)) rfl i5 rfl rfl (by rw[O0,fZ];lia);rw[EF]at E5;let t5:Th:=[.dp (.obj C Wd [.lst (ts.map pD),iL wl,.int S.pa,iL S.tk,fp (S.n+1) XE,fl (S.n+1) wd2,fl S.n S.pd,fl M S.ar,fl M po2]),A,X,Y,.no,s5]
 have ep:=ik (f:=af 0) (t:=t5) (C:=C) (ns:=Wd) (x := "paid") (j:=6) (d:=fl S.n S.pd) (r:=.tm (.obj C Wd [.lst (ts.map pD),iL wl,.int S.pa,iL S.tk,fp (S.n+1) XE,fl (S.n+1) wd2,fl S.n S.pd,fl M S.ar,fl M po2])) rfl rfl i6 rfl;have p1:=iP ep (rfl:af 2 t5=Qs (.cl (.int x))) (gR _ _) rfl px.1 px.2;have p2:=iP ep (rfl:af 3 t5=Qs (.cl (.int y))) (gR _ _) rfl py.1 py.2;have E6:=zo (t:=t5) (C:=C) (x := "paid") (j:=6) (l:=(ah S.n).map S.pd) (v:=S.pd x+S.pd y) rfl i6 rfl (ni p1 p2) (by rw[O0,fZ];lia);rw[EF]at E6;let t6:Th:=[.dp (.obj C Wd [.lst (ts.map pD),iL wl,.int S.pa,iL S.tk,fp (S.n+1) XE,fl (S.n+1) wd2,fl (S.n+1) pd2,fl M S.ar,fl M po2]),A,X,Y,.no,s5]
 have E7:=zo (t:=t6) (C:=C) (x := "taken") (j:=3) (l:=S.tk) (v:=a) (fe:=af 1) rfl i3 rfl rfl (by lia);show(sP C t0).bind rR=_;have:=(aE E1).trans ((aE (fE (i:=4) (lZ (xs:=S.pt x++S.pt y) ec rfl (by rw[Pq];lia)) (by simp[t1]))).trans ((aE E3).trans ((aE E4).trans ((aE E5).trans ((aE E6).trans E7)))));rw[show sP C t0=_ from this];rfl
def Ii(M:Nat)(v:Int):Pk M v=(ah M).map λ_=>v:=by rw[Uv,fZ]
def MJ(hM:M<=900):pU C [.obj C [] [],wD M ts,iL wl]=Qs (oD C M ts wl (PS.new M)):=by
 let W:Sl:=.val (wD M ts)
 let V:Sl:=.val (iL wl)
 let A:Sl:=.val (.int M)
 let T:Sl:=.val (.lst (ts.map pD))
 let O ns ds:=[.dp (.obj C ns ds),W,V,A,T]
 have E0:(dG (di 2 (bK (aP 3) (bK (aP 4) eV))) (af 1)) [.dp (.obj C [] []),W,V,.no,.no]=Qs _:=rfl;have e1:∀ns ds,(ai _ (ae (af 4) _)) (O ns ds)=Qs _:=λns ds=>LR rfl rfl;have e2:∀ns ds,(ai _ (ae (af 2) _)) (O ns ds)=Qs _:=λns ds=>xm rfl rfl;have z0:∀ns ds,(d2 _ (ai cT (ae (dC (.int 0)) ao)) (af 3)) (O ns ds)=Qs (.nw (((ah M).map _).map _)):=λns ds=>by rw[<-Ii];exact Ih rfl rfl hM
 have ep:∀ns ds,(gV 1 [] (cX (af 3)) _ _ (ai cT (ae (af 0) ao))) (O ns ds)=Qs _:=λns ds=>by unfold gV;rw[vK rfl (by lia)];show(if((ah M).map _).length<=50000 then(eN _ _ _ _ [.no]).map _ else Qn)=_;rw[T4 (by rw[O0,fZ];lia),tU _ _ λx _=>⟨_,rfl,rfl⟩];rfl
 have eo:∀ns ds,(jq (ae (af 3) _)) (O ns ds)=Qs (.nw (((ah M).map id).map _)):=λns ds=>by rw[TL];exact xf rfl (by lia)
 have fi:∀l,kn (.nw _)=Qs (iL l):=λl=>by show(if UD _ then Qs _ else Qn)=_;rw[Vk];rfl
 show(sR C [.dp _,W,V,.no,.no]).bind _=_;have:=(aE E0).trans ((aE (ji (x:= "ties") rfl (e1 _ _) (by
  show(if UD _ then Qs _ else Qn)=_;rw[mU];rfl) (by rfl) (by simp))).trans ((aE (ji (x:= "weights") rfl (e2 _ _) (fi _) (by rfl) (by decide))).trans ((aE (ji (x:= "parts") (fe:=dC (.int 1)) rfl rfl rfl (by rfl) (by decide))).trans ((aE (ji (x:= "taken") (fe:=ai cT ao) rfl rfl rfl (by rfl) (by decide))).trans ((aE (ji (x:= "points") rfl (ep _ _) rfl (by rfl) (by decide))).trans ((aE (ji (x:= "widths") rfl (z0 _ _) (fi _) (by rfl) (by decide))).trans ((aE (ji (x:= "paid") rfl (z0 _ _) (fi _) (by rfl) (by decide))).trans ((aE (ji (x:= "around") rfl (z0 _ _) (fi _) (by rfl) (by decide))).trans (ji (x:= "piece_of") rfl (eo _ _) (fi _) (by rfl) (by decide))))))))))
 rw[show sR C [.dp (.obj C [] []),W,V,.no,.no]=_ from this];rfl
def fB(a b:Int):Int×Int:=(((a.toNat/Rb a.toNat b.toNat:Nat):Int),((b.toNat/Rb a.toNat b.toNat:Nat):Int))
def aZ(m:Ql Int×(Int×Int)):D:=.tup [bE m.1,pD m.2]
def wide(S:PS):Ql Int:=(ah S.n).filter λp=>decide (0<S.wd p)
def oj(S:PS):Ql (Ql Int×(Int×Int)):=Vo ((wide S).map λp=>(S.pt p,fB (S.wd p) S.pa))
def Ng(a0:0<=a)(b0:0<b)(h:b<(DL.Ve:Int)):kF [.int a,.int b]=Qs (.cl (pD (fB a b))):=by have:=Nc a.toNat b.toNat (by lia) (by lia);rw[PV a0,PV (QL b0)]at this;assumption
theorem CD:∀(l:Ql Int) (f:Int->Ql Int) (g:Int->Int×Int),fL (l.map λp=>aZ (f p,g p))=Qs (l.map λp=>(f p,aZ (f p,g p)))
 |[],_,_=>rfl
 |p::l,f,g=>by rw[Pa];unfold fL;rw[(CD l f g)];show(d6 _).bind _=_;rw[xP];rfl
theorem Ab:∀(l:Ql Int) (f:Int->Ql Int) (g:Int->D),l.Nodup->(∀p∈l,∀q∈l,f p=f q->p=q)->iW (l.map λp=>(f p,g p))=Qt
 |[],_,_,_,_=>rfl
 |p::l,f,g,nd,h=>by
  rw[Pa];unfold iW;rw[O6];refine⟨P5.mpr λy hy=>?_,Ab l f g (O7.mp nd).2 λa ha b hb=>h a (OS _ ha) b (OS _ hb)⟩
  grind
def Hz(l:Ql Int)(f:Int->Ql Int)(g:Int->Int×Int):(Vo (l.map λp=>(f p,aZ (f p,g p)))).map (·.2)=(Vo (l.map λp=>(f p,g p))).map aZ:=by
 let L:=l.map λp=>(f p,(f p,g p))
 have h1:=iY (λm=>aZ m) L;have h2:=iY (λm=>m.2) L;have e1:(L.map λw=>(w.1,aZ w.2))=l.map λp=>(f p,aZ (f p,g p)):=by rw[Pe];rfl
 have e2:(L.map λw=>(w.1,w.2.2))=l.map λp=>(f p,g p):=by rw[Pe];rfl
 rw[e1]at h1;rw[e2]at h2;rw[h1,h2,Pe,Pe];refine Qd λw hw=>?_;have:=(W2 L).mem_iff.mp hw;obtain⟨p,_,rfl⟩:=Pj.mp this;rfl
def Lu(hO:Ok M e w nt S)(hn:S.n<64)(hB:B<=DL.Ve)(hS:Sm M S B):iq C [oD C M ts wl S]=Qs (.dn (.lst ((oj S).map aZ))):=by
 let O:Sl:=.val (oD C M ts wl S)
 let t0:=[O,.no]
 obtain⟨q,eq,dq⟩:=wR (f:=af 0) (t:=t0) rfl rfl;let t1:=[O,.own ((wide S).map D.int)]
 have wr:∀p∈wide S,0<=p/\p<S.n:=λp hp=>cW (Px.mp hp).1;have e2:(gV 1 [0] (dX az) br bS (oZ (gI (fK (ai fN (ae (d2 av (d1 (aG C "points") az) ak) ao))) (gI (fK (ai (aX kF) (ae (d2 av (d1 (aG C "widths") az) ak) (ae (d1 (aG C "parts") az) ao)))) oe)))) t1=Qs (.dn (.lst ((wide S).map λp=>aZ (S.pt p,fB (S.wd p) S.pa)))):=by
  show(if((wide S).map _).length<=50000 then(eN _ _ _ _ [.no,O]).map _ else Qn)=_;have wl':(wide S).length<=S.n:=by
   have:=Qy (λp=>decide (0<S.wd p)) (ah S.n)
   rwa [fZ]at this
  rw[T4 (by rw[O0];lia),(tU _ _ (λp hp=>by
   obtain⟨p0,p1⟩:=wr p hp;let t:=[.val (.int p),O]
   have o1:af 1 t=Qs _:=rfl;obtain⟨q1,a1,b1⟩:=Ca o1 rfl;obtain⟨r1,a2,b2⟩:=zg a1 (rfl:af 0 t=Qs _) b1 rfl p0 p1;obtain⟨q3,a3,b3⟩:=wR o1 rfl;refine⟨.dn _,?_,rfl⟩;have n1:(fK (ai fN (ae (d2 av (d1 (aG C "points") az) ak) ao))) t=Qs (bE (S.pt p),[]):=by unfold fK;rw[(xm a2 b2)];show(if UD _ then Qs _ else Qn).map _=_;rw[Vk];rfl
   have n2:(fK (ai (aX kF) (ae (d2 av (d1 (aG C "widths") az) ak) (ae (d1 (aG C "parts") az) ao)))) t=Qs (pD (fB (S.wd p) S.pa),[]):=by unfold fK;rw[((eP (iP a3 rfl b3 rfl p0 p1) (Cc o1 rfl)).trans (m8 (Ng (hS.wd p p0 p1).1 hO.X1 (by have:=hS.pa;lia)) rfl))];rfl
   have n3:(gI (fK (ai fN (ae (d2 av (d1 (aG C "points") az) ak) ao))) (gI (fK (ai (aX kF) (ae (d2 av (d1 (aG C "widths") az) ak) (ae (d1 (aG C "parts") az) ao)))) oe)) t=Qs ([bE (S.pt p),pD (fB (S.wd p) S.pa)],[]):=by unfold gI;rw[n1];rw[n2];rfl
   show((gI _ _) t).bind _=_;rw[n3];rfl))]
  rfl
 have e3:(ai su (ae (gV 1 [0] (dX az) br bS (oZ (gI (fK (ai fN (ae (d2 av (d1 (aG C "points") az) ak) ao))) (gI (fK (ai (aX kF) (ae (d2 av (d1 (aG C "widths") az) ak) (ae (d1 (aG C "parts") az) ao)))) oe)))) ao)) t1=Qs (.dn (.lst ((oj S).map aZ))):=by
  rw[fG e2];show(fL _).bind _=_;rw[CD];simp only[OY];rw[(Ab (wide S) _ _ ((rT _).sublist List.filter_sublist) λp hp q hq z=>hO.Zv p q (wr p hp).1 (wr p hp).2 (wr q hq).1 (wr q hq).2 z)];have wl':(wide S).length<=S.n:=by
   have:=Qy (λp=>decide (0<S.wd p)) (ah S.n)
   rwa [fZ]at this
  rw[UN (by rw[O0];lia)];unfold oj;show Qs _=_;rw[Hz]
 show(yb C t0).bind _=_;exact Ve ((aE (fE (by
  have em:lh (d1 (aG C "widths") ak) t0=Qs (q.ok,d8 0 (((RY 0 S.n).map λ(i:Nat)=>(S.wd i)).map D.int)):=by unfold lh;rw[eq];simp only[OY];rw[dq];show Qs _=_;rw[rV,Pe,Pe,Pe];rfl
  unfold ba;rw[em];show(if(d8 0 _).length<=50000 then(bH _ _ _ _ [.no,.no]).bind _ else Qn)=_;rw[T4 (by rw[lr];simp;lia)];have cc':bH (di 2 kH) (aH (d2 qG az bq)) ak (d8 0 (((RY 0 S.n).map λ(i:Nat)=>(S.wd i)).map D.int)) [.no,.no]=Qs ((wide S).map D.int):=by unfold wide;rw[rV];have:=(yN (p:=λa=>decide (0<S.wd a)) (f:=id) (ft:=(aH (d2 _ az (dC _)))) (fe:=af 0) (c:=[]) S.n 0 .no .no λi hi=>⟨oN rfl rfl,λ_=>rfl⟩);rw[TL]at this;assumption
  rw[cc'];simp only[OY,Vk,QE,if_true]) (by simp[t0]))).trans (jS e3))
def gm(f:Int->Int):Nat->Ql Eg->Qo Nat
 |_,[]=>Qn
 |i,w::ws=>if f w.1=f w.2 then gm f (i+1) ws else Qs i
theorem yj:∀{ws:Ql Eg}{i:Nat},gm f i ws=Qn↔∀w∈ws,f w.1=f w.2
 |[],i=>by simp[gm]
 |w::ws,i=>by
  unfold gm;split
  .rename_i h;rw[yj];simp[h]
  .rename_i h;simp[h]
def jA(M:Nat)(ws:Ql Eg):Prop:=∀w∈ws,(0<=w.1/\w.1<(M:Int))/\0<=w.2/\w.2<(M:Int)
def BX:Qo Nat->D
 |some i=>.int (i:Int)
 |none=>.Uz
def Nj(o:Qo Nat):flat (BX o)=Qt:=by cases o<;>rfl
def BU(hM:M<=1000)(hw:Wt M ts)(hW:jA M ws)(hL:∀l∈L,0<=l/\l<(ts.length:Int)):jB [wD M ts,.lst (ws.map pD),iL L]=Qs (.cl (BX (gm (ll (lB ts L)) 0 ws))):=by
 let f:=ll (lB ts L)
 let W:Sl:=.val (wD M ts)
 let V:Sl:=.val (.lst (ws.map pD))
 let N:Sl:=.val (iL L)
 let t0:Th:=[W,V,N,.no,.no,.no,.no]
 have e1:(ai (aX pR) (ae ak eO)) t0=Qs (.nw (((ah M).map f).map D.int)):=by rw[eP rfl rfl];exact t8 (L1 hM hw hL)
 have E1:=fE (i:=3) e1 (by simp[t0]);let F:Sl:=.own (((ah M).map f).map D.int)
 let bd:DS:=(bZ (aH (d2 eU (d2 av bc cK) (d2 av bc dt))) (gU 4) dm)
 let kk:D->Th->Qo Th:=(di 2 (bK iT (bK (di 2 (bK (aP 5) (bK (aP 6) eV))) eV)))
 have loop:∀(vs:Ql Eg) (i:Nat) (s4 s5 s6:Sl),jA M vs->(match gm f i vs with
   |some j=>bL kk bd (d8 i (vs.map pD)) [W,V,N,F,s4,s5,s6]=Qs (.rt (.cl (.int (j:Int))))
   |none=>∃u4 u5 u6,bL kk bd (d8 i (vs.map pD)) [W,V,N,F,s4,s5,s6]=Qs (.nx [W,V,N,F,u4,u5,u6])):=by
  intro vs
  induction vs with
  |nil=>exact λi s4 s5 s6 _=>⟨s4,s5,s6,rfl⟩
  |cons w vs ih=>
   intro i s4 s5 s6 h;obtain⟨⟨a0,a1⟩,b0,b1⟩:=h w (OU ..);let t:=[W,V,N,F,.val (.int i),.val (.int w.1),.val (.int w.2)]
   have q1:=iP (fa:=af 3) (fb:=af 5) (t:=t) rfl rfl rfl rfl a0 a1;have q2:=iP (fa:=af 3) (fb:=af 6) (t:=t) rfl rfl rfl rfl b0 b1;have c:=wZ q1 q2;unfold gm;by_cases z:f w.1=f w.2
   .rw[T4 z];have:=ih (i+1) (.val (.int i)) (.val (.int w.1)) (.val (.int w.2)) λx hx=>h x (OS _ hx);have st:=iK (k:=kk) (ds:=d8 (i+1) (vs.map pD)) (d:=.tup [.int i,pD w]) (t:=[W,V,N,F,s4,s5,s6]) rfl (ig (g:=gU 4) c (by lia));cases y:gm f _ _ with
    |some j=>rw[y]at this;exact st.trans this
    |none=>rw[y]at this;obtain⟨u4,u5,u6,e⟩:=this;exact⟨u4,u5,u6,st.trans e⟩
   .rw[Um z];exact Ez rfl ((iH c (by lia)).trans rfl)
 have lp:=loop ws 0 .no .no .no hW;have eg:jB [wD M ts,.lst (ws.map pD),iL L]=(aB (aL 3 (ai (aX pR) (ae ak eO))) (aB (tN kk az bd) (cU iU)) t0).bind gG:=rfl;rw[eg];have ee:tN kk az bd [W,V,N,F,.no,.no,.no]=bL kk bd (d8 0 (ws.map pD)) [W,V,N,F,.no,.no,.no]:=rfl;have ef:ll (lB ts L)=f:=rfl;rw[ef];cases z:gm f 0 ws with
 |some j=>rw[z]at lp;exact Ve ((aE E1).trans (uU (ee.trans lp)))
 |none=>rw[z]at lp;obtain⟨u4,u5,u6,e⟩:=lp;exact Ve ((aE E1).trans ((aE (ee.trans e)).trans rfl))
def dT(G:Ql Int):D:=.U1 (G.map kN) (G.map jH)
theorem Aj:∀G:Ql Int,iX (G.map kN) (G.map jH)=Qs G
 |[]=>rfl
 |k::G=>by show(iX _ _).map _=_;rw[Aj G];rfl
def HK:∀G:Ql Int,(G.map jH).all aQ=Qt:=λG=>P5.mpr λd hd=>by obtain⟨_,_,rfl⟩:=Pj.mp hd;rfl
def ER(h:t[i]?=Qs (.dp (dT G)))(hk:fk t=Qs (.cl (.int x)))(hl:G.length<100000):o5 i fk nD t=Qs (.nx (t.set i (.dp (dT (i8 G x))))):=by
 have e0:o5 i fk nD t=oF t i (.cl (.bl Qt)) (.cl (.int x)):=by unfold o5;rw[hk];rfl
 rw[e0];unfold oF;rw[h];have ek:xB (Ev.cl (D.int x)).d=Qs (kN x):=rfl;rw[ek];unfold dT;dsimp only;rw[T4 (by
  rw[HK,O0,UN hl];rfl)]
 have b:(Ev.cl _).d=.bl Qt:=rfl;rw[b,IL]
def vT(G:Ql Int)(x:Int):(i8 G x).length<=G.length+1:=by unfold i8;split<;>simp
def z7(hW:jA M ws)(hl:ws.length<=1000){r:Ev}:kE C [oD C M ts wl S,.lst (ws.map pD)]=Qs (.dn (dT (aO S ws))):=by
 let O:Sl:=.val (oD C M ts wl S)
 let V:Sl:=.val (.lst (ws.map pD))
 let T G s3 s4 s5 s6:=[O,V,.dp (dT G),s3,s4,s5,s6]
 let kk:=(di 2 ny)
 let bd:=(aB (iM 5 6 (ae (d2 av (d1 (aG C "piece_of") ak) bc) (ae (d2 av (d1 (aG C "piece_of") ak) bP) ao))) (bZ (aH (d2 eU cK dt)) (tR (gO 2 cK) (gO 2 dt) nD) dm))
 have turn:∀G (w:Eg) s5 s6,G.length<90000->(0<=w.1/\w.1<M)->(0<=w.2/\w.2<M)->∃u5 u6,bd _=Qs (.nx (T (gu S G w) _ _ u5 u6)):=λG w s5 s6 hG ha hb=>by
  let t:=T G (.val (.int w.1)) (.val (.int w.2)) s5 s6
  obtain⟨q,eq,dq⟩:=Cb (f:=af 0) (t:=t) rfl rfl;have k1:=iP eq (rfl:af 3 t=Qs _) dq rfl ha.1 ha.2;have k2:=iP eq (rfl:af 4 t=Qs _) dq rfl hb.1 hb.2;let t2:=T G (.val (.int w.1)) (.val (.int w.2)) (.val (.int (S.po w.1))) (.val (.int (S.po w.2)))
  have E1:(iM 5 6 (ae (d2 av (d1 (aG C "piece_of") ak) bc) (ae (d2 av (d1 (aG C "piece_of") ak) bP) ao))) t=Qs (.nx t2):=by unfold iM;rw[tV k1 (tV k2 rfl)];rfl
  have c:=wZ (fa:=af 5) (fb:=af 6) (t:=t2) rfl rfl;refine⟨.val (.int (S.po w.1)),.val (.int (S.po w.2)),?_⟩;unfold gu;by_cases z:S.po w.1=S.po w.2
  .rw[T4 z];exact(aE E1).trans (ig c (by lia))
  .rw[Um z];let t3:=T (i8 G (S.po w.1)) (.val (.int w.1)) (.val (.int w.2)) (.val (.int (S.po w.1))) (.val (.int (S.po w.2)))
   have ln:=vT G (S.po w.1);exact(aE E1).trans ((iH c (by lia)).trans (by
    show(if aQ (D.bl Qt) then(gO 2 _ (.bl _) _).bind _ else Qn)=_;have h1:gO 2 cK (.bl Qt) t2=Qs t3:=by unfold gO;rw[(ER rfl rfl (by lia))];rfl
    have h2:gO 2 dt (.bl Qt) t3=Qs (T (i8 (i8 G (S.po w.1)) (S.po w.2)) (.val (.int w.1)) (.val (.int w.2)) (.val (.int (S.po w.1))) (.val (.int (S.po w.2)))):=by unfold gO;rw[(ER rfl rfl (by lia))];rfl
    rw[h1];show Option.map _ (gO 2 _ (D.bl _) _)=_;rw[h2];rfl))
 have loop:∀(vs:Ql Eg) (G:Ql Int) (s3 s4 s5 s6:Sl),G.length+2*vs.length<80000->jA M vs->∃u3 u4 u5 u6,bL kk bd (vs.map pD) (T G s3 s4 s5 s6)=Qs (.nx (T (vs.foldl (gu S) G) u3 u4 u5 u6)):=by
  intro vs
  induction vs with
  |nil=>exact λG s3 s4 s5 s6 _ _=>⟨s3,s4,s5,s6,rfl⟩
  |cons w vs ih=>
   intro G s3 s4 s5 s6 hG h;have Xs:=h w (OU ..);simp at hG;obtain⟨u5,u6,e⟩:=turn G w _ _ (by lia) Xs.1 Xs.2;have gl:(gu S G w).length<=G.length+2:=by
    unfold gu;split
    .lia
    .have a:(jy G (S.po w.1)).length<=G.length+1:=vT G _;have b:(jy _ (S.po w.2)).length<=(jy G (S.po w.1)).length+1:=vT _ _;lia
   obtain⟨a,b,c,d,e2⟩:=ih (gu S G w) _ _ _ _ (by lia) λx hx=>h x (OS _ hx);exact⟨a,b,c,d,(iK rfl e).trans e2⟩
 obtain⟨a,b,c,d,e⟩:=loop ws [] .no .no .no .no (by simp;lia) hW;have E0:aL 2 tE [O,V,.no,.no,.no,.no,.no]=Qs (.nx (T [] .no .no .no .no)):=rfl;have E1:fD kk az bd (T [] .no .no .no .no)=Qs (.nx (T (aO S ws) a b c d)):=(sW (r:=.cl (.lst (ws.map pD))) rfl rfl rfl).trans e;show(aB (aL 2 tE) (aB (fD kk az bd) (gU 2)) [O,V,.no,.no,.no,.no,.no]).bind gG=_;exact Ve ((aE E0).trans ((aE E1).trans rfl))
def iB(e:Int->Eg)(ws:Ql Eg)(L:Ql Int):Bool:=(ws.all λw=>decide (ll (L.map e) w.1=ll (L.map e) w.2))
def eE(e:Int->Eg)(ws:Ql Eg)(K:Ql Int)(a:Int):Ql Int:=if iB e ws (K.filter λx=>!decide (x=a)) then K.filter λx=>!decide (x=a) else K
def wX(e:Int->Eg)(ws:Ql Eg)(tk:Ql Int):Ql Int:=dD (tk.reverse.foldl (eE e ws) tk)
theorem Cn:∀{as K:Ql Int}{x:Int},x∈as.foldl (eE e ws) K->x∈K
 |[],K,x,h=>h
 |a::as,K,x,h=>by
  have:=Cn (as:=as) h;unfold eE at this;split at this
  .exact(Px.mp this).1
  assumption
theorem wW:∀{as K:Ql Int},(as.foldl (eE e ws) K).length<=K.length
 |[],K=>O5 _
 |a::as,K=>by
  refine PJ (wW (as:=as)) ?_;unfold eE;split
  .exact Qy ..
  simp
def zdZ:iB e ws L=Qt↔gm (ll (L.map e)) 0 ws=Qn:=by rw[yj];unfold iB;simp
def Lj(hM:M<=1000)(hw:Wt M ts)(hW:jA M ws)(ht:∀l∈tk,0<=l/\l<(ts.length:Int))(hk:tk.length<64){r:Ev}:iQ [wD M ts,.lst (ws.map pD),iL tk]=Qs (.nw ((wX (aw ts) ws tk).map D.int)):=by
 let W:Sl:=.val (wD M ts)
 let V:Sl:=.val (.lst (ws.map pD))
 let N:Sl:=.val (iL tk)
 let bd:DS:=(aB (aL 5 (ba 1 [4] (dX bc) br (aH (d2 eU ak az)) ak)) (bZ (aH (d2 mJ (ai (aX jB) (ae ak (ae az gX))) iU)) (eZ 5 (aL 3 cK)) dm))
 have turn:∀(K:Ql Int) (a:Int) (k3 s5:Sl),(k3=.own (K.map D.int)\/k3=.val (iL K))->K.length<=1000->(∀l∈K,0<=l/\l<(ts.length:Int))->∃Xx u5,(Xx=.own ((eE (aw ts) ws K a).map D.int)\/Xx=.val (iL (eE (aw ts) ws K a)))/\bd [W,V,N,k3,.val (.int a),s5]=Qs (.nx [W,V,N,Xx,.val (.int a),u5]):=λK a k3 s5 h3 hK hr=>by
  let t:=[W,V,N,k3,.val (.int a),s5]
  let K2:=K.filter λx=>!decide (x=a)
  obtain⟨r3,e3,d3⟩:∃r,af 3 t=Qs r/\r.d=iL K:=by
   rcases h3 with z|z<;>subst z
   .exact⟨_,rfl,rfl⟩
   .exact⟨_,rfl,rfl⟩
  have E1:=fE (i:=5) (NI (fe:=af 0) (cap:=[4]) e3 d3 rfl (by lia) (λx _=>wZ (fa:=af 0) (fb:=af 1) rfl rfl) (λx _ _=>⟨_,rfl,rfl⟩) (.inl (Vk _))) (by simp[t]);let t1:=[W,V,N,k3,.val (.int a),.own (K2.map D.int)]
  have cc:aH (d2 mJ (ai (aX jB) (ae ak (ae az gX))) iU) t1=Qs (iB (aw ts) ws K2):=by
   unfold aH;rw[cu (by
   rw[nJ rfl rfl rfl];exact m8 (BU hM hw hW (λl hl=>hr l (Px.mp hl).1)) (Nj _)) rfl]
   cases z:gm _ 0 _ with
   |none=>rw[zdZ.mpr z];rfl
   |some j=>
    have:iB (aw ts) ws K2=Qf:=Bool.eq_false_iff.mpr λk=>by have k2:gm (ll (lB _ _)) 0 _=Qn:=zdZ.mp k;lia
    rw[this];rfl
  unfold eE;cases z:iB (aw ts) ws K2 with
  |true=>rw[z]at cc;refine⟨_,.val (iL K2),.inr rfl,(aE E1).trans ((iH cc rfl).trans ?_)⟩;rfl
  |false=>rw[z]at cc;exact⟨k3,_,h3,(aE E1).trans (ig cc rfl)⟩
 have loop:∀(as K:Ql Int) (k3 s4 s5:Sl),(k3=.own (K.map D.int)\/k3=.val (iL K))->K.length<=1000->(∀l∈K,0<=l/\l<(ts.length:Int))->∃Xx u4 u5,(Xx=.own ((as.foldl (eE (aw ts) ws) K).map D.int)\/Xx=.val (iL (as.foldl (eE (aw ts) ws) K)))/\bL iT bd (as.map D.int) [W,V,N,k3,s4,s5]=Qs (.nx [W,V,N,Xx,u4,u5]):=by
  intro as
  induction as with
  |nil=>exact λK k3 s4 s5 h3 _ _=>⟨k3,s4,s5,h3,rfl⟩
  |cons a as ih=>intro K k3 s4 s5 h3 hK hr;obtain⟨Xx,u5,h3',e⟩:=turn K a k3 s5 h3 hK hr;have sub:∀x∈eE (aw ts) ws K a,x∈K:=λx hx=>Cn (as:=[a]) hx;have ln:(eE (aw ts) ws K a).length<=K.length:=wW (as:=[a]) (K:=K);obtain⟨zhm,u4,u5',ziS,e2⟩:=ih (eE (aw ts) ws K a) Xx (.val (.int a)) u5 h3' (by lia) λl hl=>hr l (sub l hl);exact⟨zhm,u4,u5',ziS,(iK (k:=aP 4) (d:=.int a) (t1:=[W,V,N,k3,.val (.int a),s5]) rfl e).trans e2⟩
 have E0:=fE (i:=3) (xm (f:=af 2) (t:=[W,V,N,.no,.no,.no]) (r:=.cl (iL tk)) (xs:=tk) rfl rfl) (by simp);obtain⟨Xx,u4,u5,h3,e⟩:=loop tk.reverse tk (.own (tk.map D.int)) .no .no (.inl rfl) (by lia) ht;have er:(d1 jd aN) [W,V,N,.own (tk.map D.int),.no,.no]=Qs (.nw (tk.reverse.map D.int)):=by show(if(Ev.cl (iL tk)).ok||UD (tk.map D.int) then Qs (Ev.nw (tk.map D.int).reverse) else Qn)=_;rw[Vk,QE,T4 (by rfl),Uj]
 have E1:fD iT (d1 jd aN) bd [W,V,N,.own (tk.map D.int),.no,.no]=Qs (.nx [W,V,N,Xx,u4,u5]):=(sW er rfl rfl).trans e;have ln:=wW (e:=aw ts) (ws:=ws) (as:=tk.reverse) (K:=tk);have e2:(ai gb jE) [W,V,N,Xx,u4,u5]=Qs (.nw ((wX (aw ts) ws tk).map D.int)):=by
  rcases h3 with z|z<;>subst z
  .exact lZ (r:=.tm (iL (tk.reverse.foldl (eE (aw ts) ws) tk))) rfl rfl (by lia)
  .exact lZ (r:=.cl (iL (tk.reverse.foldl (eE (aw ts) ws) tk))) rfl rfl (by lia)
 show(aB _ (aB (fD iT (d1 jd aN) bd) (cU (ai gb jE))) [W,V,N,.no,.no,.no]).bind gG=_;exact Ve ((aE E0).trans ((aE E1).trans (jS e2)))
def oT(o:Qo Int):Nat:=match o with
 |none=>1
 |some _=>0
def ms(M:Nat)(e:Int->Eg)(w:Int->Int)(nt:Nat)(ws:Ql Eg)(S:PS):Nat:=2*mu M S+oT (dF S e w (aI (aO S ws)) nt)
structure Run(M:Nat)(e:Int->Eg)(w:Int->Int)(nt:Nat)(ws:List Eg)(S:PS):Prop where
 ok:Ok M e w nt S
 Vw:S.tk.length+mu M S<=mu M (PS.new M)
def Run.step(h:Run M e w nt ws S)(hE:cB M e nt)(hw:∀w∈ws,Eqv (ip e nt) w.1 w.2)(hn:aO S ws≠[]):Run M e w nt ws (bU e w nt ws S)/\ms M e w nt ws (bU e w nt ws S)<ms M e w nt ws S:=by
 cases hf:dF S e w _ _ with
 |none=>
  have es:bU e w nt ws S=WU S e w (aI (aO S ws)) nt:=by unfold bU;rw[hf];rfl
  rw[es];refine⟨⟨h.ok.WU,h.Vw⟩,?_⟩;unfold ms;rw[hf];cases z:dF _ e w _ _ with
  |none=>exact absurd z (Es (mV h.ok hE hw hn))
  |some a=>show 2*mu M S+0<2*mu M S+1;lia
 |some a=>
  have es:bU e w nt ws S=UQ S e a:=by unfold bU;rw[hf]
  rw[es];obtain⟨⟨a0,a1⟩,b,_⟩:=mR hf;have ne:=lJ b;have m:=Ln h.ok hE a0 a1 ne;refine⟨⟨h.ok.UQ hE a0 a1 ne,?_⟩,?_⟩
  .show(S.tk++[a]).length+mu M _<=_;rw[Pq,P8];have:=h.Vw;lia
  .unfold ms;have:oT (dF (UQ S e a) e w (aI (aO (UQ S e a) ws)) nt)<=1:=by unfold oT;split<;>lia
   lia
theorem qQ(hE:cB M e nt)(hw:∀w∈ws,Eqv (ip e nt) w.1 w.2):∀(n:Nat) (S:PS),Run M e w nt ws S->ms M e w nt ws S<n->aO (bQ e w nt ws n S) ws=[]/\Run M e w nt ws (bQ e w nt ws n S)
 |0,S,_,h=>by lia
 |n+1,S,r,h=>by
  unfold bQ;by_cases z:aO S ws=[]
  .lia
  .rw[Um z];obtain⟨r2,m2⟩:=r.step hE hw z;exact qQ hE hw n _ r2 (by lia)
def rY(hM:M<=9):ms M e w nt ws (PS.new M)<=73/\mu M (PS.new M)<=36:=by
 have h1:mu M (PS.new M)<=36:=PJ (Qy _ _) (Jr M hM);have:oT (dF (PS.new M) e w (aI (aO (PS.new M) ws)) nt)<=1:=by unfold oT;split<;>lia
 unfold ms;lia
theorem Run.new{nt:Nat}(hw:∀a,0<=a->a<(nt:Int)->0<=w a):Run M e w nt ws (PS.new M):=⟨Ok.new hw,by show 0+_<=_;lia⟩
structure Bd(M:Nat)(W k:Nat)(S:PS):Prop where
 pa:0<S.pa/\S.pa<=(2^k:Nat)
 wd:∀p,0<=p->p<(S.n:Int)->0<=S.wd p/\S.wd p<=(8^k*W:Nat)
 pd:∀p,0<=p->p<(S.n:Int)->0<=S.pd p/\S.pd p<=(8^k*W:Nat)
 ar:∀v,0<=v->v<(M:Int)->0<=S.ar v/\S.ar v<=(8^k*W:Nat)
theorem Bd.new:Bd M W 0 (PS.new M) where
 pa:=⟨by show 0<1;decide,by show 1<=1;decide⟩
 wd:=λp _ _=>⟨QD _,by show 0<=_;lia⟩
 pd:=λp _ _=>⟨QD _,by show 0<=_;lia⟩
 ar:=λp _ _=>⟨QD _,by show 0<=_;lia⟩
def rh(k W:Nat):8^(k+1)*W=8*(8^k*W):=by rw[Nat.pow_succ,T9 _ 8,Nat.mul_assoc]
theorem Bd.Vi(h:Bd M W k S):(0<(Vi S).pa/\(Vi S).pa<=(2^(k+1):Nat))/\(∀p,0<=p->p<(S.n:Int)->0<=(Vi S).wd p/\(Vi S).wd p<=2*(8^k*W:Nat))/\(∀p,0<=p->p<(S.n:Int)->0<=(Vi S).pd p/\(Vi S).pd p<=2*(8^k*W:Nat))/\(∀v,0<=v->v<(M:Int)->0<=(Vi S).ar v/\(Vi S).ar v<=2*(8^k*W:Nat)):=by
 refine⟨⟨?_,?_⟩,λp p0 p1=>?_,λp p0 p1=>?_,λp p0 p1=>?_⟩
 .show 0<S.pa*2;have:=h.pa;lia
 .show S.pa*2<=((2^(k+1):Nat));have:=h.pa;lia
 .show 0<=2*S.wd p/\2*S.wd p<=_;have:=h.wd p p0 p1;lia
 .show 0<=2*S.pd p/\2*S.pd p<=_;have:=h.pd p p0 p1;lia
 .show 0<=2*S.ar p/\2*S.ar p<=_;have:=h.ar p p0 p1;lia
def Hq{M W k:Nat}{e:Int->Eg}{w:Int->Int}{S:PS}(hb:Bd M W k S)(hE:cB M e nt)(hw:∀a,0<=a->a<(nt:Int)->0<=w a/\w a<=(W:Int)){g:Int->Bool}(YY:∃a,(0<=a/\a<(nt:Int))/\0<bj S e g a)(hf:dF S e w g nt=Qn):0<d9 S e w g nt/\d9 S e w g nt<=2*(8^k*W:Nat):=by
 have p:=Aw YY hf;obtain⟨a,ra,b⟩:=YY;have le:=uM (S:=S) (e:=e) (w:=w) (g:=g) ra.1 ra.2 b;have bb:=nh S e g a;obtain⟨⟨x0,x1⟩,y0,y1⟩:=hE a ra.1 ra.2;have ax:=hb.ar _ x0 x1;have ay:=hb.ar _ y0 y1;have hwa:=hw a ra.1 ra.2;have m1:w a*S.pa<=(W:Int)*(2^k:Nat):=S6 (RN hwa.2 (QL hb.pa.1)) (RX hb.pa.2 (by lia));have m2:(W:Int)*(2^k:Nat)<=(8^k*W:Nat):=by
  have:2^k<=8^k:=Tx (by decide) k;have:=Td W this;rw[Vy];have e:((2^k:Nat):Int)*(W:Int)=((2^k*W:Nat):Int):=by push_cast;rfl
  rw[e];lia
 have l:U5 S e w a<=(8^k*W:Nat):=by unfold U5;lia
 refine⟨p,?_⟩;have:d9 S e w g nt<=bj S e g a*d9 S e w g nt:=by have:=RN (show 1<=bj S e g a by lia) (QL p);lia
 lia
def Bd.step(hb:Bd M W k S)(hr:Run M e w nt ws S)(hE:cB M e nt)(hw:∀a,0<=a->a<(nt:Int)->0<=w a/\w a<=(W:Int))(hq:∀w∈ws,Eqv (ip e nt) w.1 w.2)(hn:aO S ws≠[]):Bd M W (k+1) (bU e w nt ws S):=by
 have mono:(8^k*W)<=8^(k+1)*W:=by rw[rh];lia
 cases hf:dF S e w _ _ with
 |none=>
  have es:bU e w nt ws S=WU S e w (aI (aO S ws)) nt:=by unfold bU;rw[hf];rfl
  rw[es];have st:=Hq hb hE hw (mV hr.ok hE hq hn) hf;obtain⟨hp,hwd,hpd,har⟩:=hb.Vi;have one:∀(x:Int) (b:Bool),0<=x/\x<=2*(8^k*W)->0<=x+(if b then d9 S e w (aI (aO S ws)) nt else 0)/\x+(if b then d9 S e w (aI (aO S ws)) nt else 0)<=(8^(k+1)*W:Nat):=λx b h=>by rw[rh];lia
  exact⟨hp,λp p0 p1=>one _ _ (hwd p p0 p1),λp p0 p1=>one _ _ (hpd p p0 p1),λv v0 v1=>one _ _ (har v v0 v1)⟩
 |some a=>
  have es:bU e w nt ws S=UQ S e a:=by unfold bU;rw[hf]
  rw[es];obtain⟨⟨a0,a1⟩,b,_⟩:=mR hf;obtain⟨⟨x0,x1⟩,y0,y1⟩:=hE a a0 a1;have px:=hr.ok.Wj _ x0 x1;have py:=hr.ok.Wj _ y0 y1;refine⟨⟨hb.pa.1,?_⟩,λp p0 p1=>?_,λp p0 p1=>?_,λv v0 v1=>?_⟩
  .have:2^k<=2^(k+1):=QC (by decide) (by lia);have:=hb.pa.2;show S.pa<=_;lia
  .have p1:p<((S.n+1):Int):=p1;show 0<=(if p=S.n then 0 else S.wd p)/\(if p=S.n then 0 else S.wd p)<=_;by_cases z:p=S.n
   .lia
   .have:=hb.wd p p0 (by lia);lia
  .have p1:p<((S.n+1):Int):=p1;show 0<=(if p=S.n then S.pd _+S.pd _ else S.pd p)/\(if p=S.n then S.pd _+S.pd _ else S.pd p)<=_;by_cases z:p=S.n
   .have h1:=hb.pd _ px.1 px.2;have h2:=hb.pd _ py.1 py.2;rw[rh];lia
   .have:=hb.pd p p0 (by lia);lia
  .have:=hb.ar v v0 v1;show 0<=S.ar v/\S.ar v<=_;lia
def Oo:8^210*10^30<DL.Ve:=by decide+kernel
def FA(hk:k<=210)(hW:W<=10^30):8^k*W<DL.Ve/\2^k<DL.Ve:=by have h1:8^k<=8^210:=QC (by decide) hk;have:=Oo;exact⟨PR (Tn h1 hW) this,PR (PJ (Tx (by simp) k) (PJ h1 (Nat.le_mul_of_pos_right _ (by simp)))) this⟩
def Bd.up(h:Bd M W i S)(Y0:i<=j):Bd M W j S:=by
 have p1:2^i<=2^j:=QC (by decide) Y0;have p2:8^i*W<=8^j*W:=Td _ (QC (by decide) Y0);obtain⟨a,b,c,d⟩:=h;refine⟨⟨a.1,by lia⟩,λp p0 p1=>?_,λp p0 p1=>?_,λp p0 p1=>?_⟩
 .have:=b p p0 p1;lia
 .have:=c p p0 p1;lia
 .have:=d p p0 p1;lia
def Bd.sm(h:Bd M W k S)(hk:k<=200)(hW:W<=10^30):Sm M S DL.Ve/\Sm M (KX.Vi S) DL.Ve:=by
 have b1:=FA (k:=k) (W:=W) (by lia) hW;have b2:=FA (k:=k+1) (W:=W) (by lia) hW;rw[rh]at b2;obtain⟨hp,hwd,hpd,har⟩:=h.Vi;have q:=h.pa;generalize 8^k*W=N at b1 b2 hwd hpd har;refine⟨⟨by lia,λp p0 p1=>?_,λp p0 p1=>?_,λp p0 p1=>?_⟩,⟨by lia,λp p0 p1=>?_,λp p0 p1=>?_,λp p0 p1=>?_⟩⟩
 .have:=hwd p p0 p1;have e:(KX.Vi S).wd p=2*S.wd p:=rfl;lia
 .have:=hpd p p0 p1;have e:(KX.Vi S).pd p=2*S.pd p:=rfl;lia
 .have:=har p p0 p1;have e:(KX.Vi S).ar p=2*S.ar p:=rfl;lia
 .have:=hwd p p0 p1;lia
 .have:=hpd p p0 p1;lia
 .have:=har p p0 p1;lia
def Lp{xs:Ql Int}(h:f t=Qs r)(hr:r.d=oD C M ts wl S)(hm:aW m Wd=Qn)(hg:ga t=Qs rs)(hG:G (oD C M ts wl S::rs.map Ev.d)=Qs (.nw (xs.map D.int))):cj C m G f ga t=Qs (.nw (xs.map D.int)):=by unfold cj;rw[h];simp;rw[hr];unfold oD;simp only[hm,and_self,if_true];rw[hg];refine t8 ?_;rw[Pa,hr];assumption
def Lq(h:f t=Qs r)(hr:r.d=oD C M ts wl S)(hm:aW m Wd=Qn)(hg:ga t=Qs rs)(hG:G (oD C M ts wl S::rs.map Ev.d)=Qs (.dn d)):cj C m G f ga t=Qs (.dn d):=by unfold cj;rw[h];simp;rw[hr];unfold oD;simp only[hm,and_self,if_true];rw[hg];simp;unfold aX;rw[Pa,hr];rw[hG];unfold iV;split<;>rfl
def w6(h:t[i]?=Qs (.dp (oD C M ts wl S)))(hm:aW m Wd=Qn)(hg:ga t=Qs rs)(hf:UD (rs.map Ev.d)=Qt)(hG:G (oD C M ts wl S::rs.map Ev.d)=Qs (oD C M ts wl S')):iN i C m G ga t=Qs (.nx (t.set i (.dp (oD C M ts wl S')))):=by unfold iN;rw[hg];show mG t i C m G _=_;unfold mG;rw[h];unfold oD;simp only[hm,hf,and_self,if_true];have:G (.obj C _ _::rs.map _)=_:=hG;rw[this];rfl
def oO(G:Ql Int)(s:Sl):Prop:=s=.dp (dT G)\/s=.val (.UI G)
def GG(h:t[5]?=Qs s)(hs:oO G s):lD (af 5) t=Qs (!G.isEmpty):=by
 unfold lD af;rw[h];rcases hs with z|z<;>subst z
 .cases G<;>rfl
 .rfl
def Ew(h:t[5]?=Qs s)(hs:oO G s):o4 5 g t=g (t.set 5 (.val (.UI G))):=by
 unfold o4;rw[h];rcases hs with z|z<;>subst z
 .unfold tH;rw[h];show(iX _ _).bind _=_;rw[Aj];rfl
 .show g t=_;congr 1;apply QS;intro i;rw[T3];by_cases e:5=i
  .grind
  .rw[Um e]
def nj(hw:Wt M ts):cB M (aw ts) ts.length:=λa a0 a1=>by have:=hw.lt _ (nI a0 a1);lia
def zU{n:Nat}(hl:wl.length=n)(a0:0<=a)(a1:a<(n:Int)):aF wl a∈wl:=by
 unfold aF
 simp_all
structure XS(M:Nat)(ts:List (Int×Int))(wl:List Int)(ws:List Eg):Prop where
 Xo:Wt M ts
 Vw:M<=9/\ts.length<=1000/\ws.length<=1000
 zbK:wl.length=ts.length
 zbJ:∀x∈wl,0<=x/\x<=(10^20:Nat)
 X5:jA M ws
 all:∀w∈ws,Eqv (ip (aw ts) ts.length) w.1 w.2
def XS.wt(J:XS M ts wl ws):∀a,0<=a->a<(ts.length:Int)->0<=aF wl a/\aF wl a<=((10^20:Nat):Int):=λa a0 a1=>J.zbJ _ (zU J.zbK a0 a1)
def GA(J:XS M ts wl ws)(hk:k<=200)(hr:Run M (aw ts) (aF wl) ts.length ws S)(hb:Bd M (10^20) k S)(hn:aO S ws≠[])(s0 s1 s3 s6:Sl)(hg:oO (aO S ws) gs):∃YB u6,oO (aO (bU (aw ts) (aF wl) ts.length ws S) ws) YB/\uc C [s0,s1,.val (.lst (ws.map pD)),s3,.dp (oD C M ts wl S),gs,s6]=Qs (.nx [s0,s1,.val (.lst (ws.map pD)),s3,.dp (oD C M ts wl (bU (aw ts) (aF wl) ts.length ws S)),YB,u6]):=by
 have mu0:=(rY (e:=aw ts) (w:=aF wl) (nt:=ts.length) (ws:=ws) J.Vw.1).2;have tkl:S.tk.length<=36:=by have:=hr.Vw;lia
 have Sn:S.n<=45:=by have:=hr.ok.nM;have:=J.Vw.1;lia
 obtain⟨sm1,sm2⟩:=hb.sm hk (by simp);have w30:∀x∈wl,0<=x/\x<10^30:=λx hx=>by have:=J.zbJ x hx;lia
 let V:Sl:=.val (.lst (ws.map pD))
 let G:=aO S ws
 let t1:=[s0,s1,V,s3,.dp (oD C M ts wl S),.val (.UI G),s6]
 have ff:=og (ga:=ae cK ao) (m:= "first_full") (f:=af 4) (t:=t1) rfl rfl (rfl) rfl (Nm J.Xo J.Vw.2.1 J.zbK w30 (O5 _) hr.ok.X1 sm1) (by split<;>rfl);have hx:=mV hr.ok (nj J.Xo) J.all hn;cases hf:dF S _ _ (aI G) ts.length with
 |none=>
  rw[hf]at ff;let t2:=[s0,s1,V,s3,.dp (oD C M ts wl S),.val (.UI G),.val .Uz]
  have es:bU (aw ts) (aF wl) ts.length ws S=WU S (aw ts) (aF wl) (aI G) ts.length:=by unfold bU;have:=hf;rw[this];rfl
  rw[es];let t3:=[s0,s1,V,s3,.dp (oD C M ts wl (Vi S)),.val (.UI G),.val .Uz]
  have okh:=hr.ok.Vi;exact⟨_,_,.inr rfl,(aE (by
   rw[Ew rfl hg];exact jw ff (by simp))).trans ((iH rfl rfl).trans ((aE (w6 (t:=t2) rfl (by rfl) rfl rfl (MZ (by have:=J.Vw.1;lia) (by lia) (O5 _) sm1))).trans (w6 rfl (by rfl) (tV rfl (tV (Nr (Lp rfl rfl (by rfl) rfl (Ho J.Xo J.Vw.2.1 J.zbK w30 (O5 _) okh.X1 sm2)) rfl (List.length_pos_iff.mpr ((qE hx).1))) rfl)) rfl (M3 okh (Cp PN) (λp hp=>by
   obtain⟨w',hw',_,q⟩:=Yj.mp hp;obtain⟨⟨a0,a1⟩,b0,b1⟩:=J.X5 _ hw';rcases q with z|z
   .exact⟨w'.1,a0,a1,z.symm⟩
   .exact⟨w'.2,b0,b1,z.symm⟩)))))⟩
 |some a=>
  rw[hf]at ff;obtain⟨⟨a0,a1⟩,b,_⟩:=mR hf;let t2:=[s0,s1,V,s3,.dp (oD C M ts wl S),.val (.UI G),.val (.int a)]
  have es:bU (aw ts) (aF wl) ts.length ws S=UQ S (aw ts) a:=by unfold bU;have:=hf;rw[this]
  rw[es];let t3:=[s0,s1,V,s3,.dp (oD C M ts wl (UQ S (aw ts) a)),.val (.UI G),.val (.int a)]
  have wt:(ai (aX (kE C)) (ae bP eO)) t3=Qs (.dn (dT (aO (UQ S (aw ts) a) ws))):=by rw[eP rfl rfl];unfold aX;rw[show kE C ([Ev.tm (oD C M _ _ _),.cl _].map Ev.d)=_ from z7 J.X5 J.Vw.2.2 (r:=.nw [])];rfl
  have E3:=pB (i:=5) wt (by simp[t3]);exact⟨_,_,.inl rfl,(aE (by
   rw[Ew rfl hg];exact jw ff (by simp))).trans ((sH rfl rfl).trans ((aE (w6 (t:=t2) rfl (by rfl) rfl rfl (IV J.Xo (by have:=J.Vw.1;lia) (by lia) hr.ok (by lia) a0 a1))).trans E3))⟩
theorem CZ(J:XS M ts wl ws)(s0 s1 s3:Sl):∀(n k:Nat) (S:PS) (gs s6:Sl),k+n<=200->Run M (aw ts) (aF wl) ts.length ws S->Bd M (10^20) k S->ms M (aw ts) (aF wl) ts.length ws S<n->oO (aO S ws) gs->∃YB u6,fF (lD cK) (uc C) n [s0,s1,.val (.lst (ws.map pD)),s3,.dp (oD C M ts wl S),gs,s6]=Qs (.nx [s0,s1,.val (.lst (ws.map pD)),s3,.dp (oD C M ts wl (bQ (aw ts) (aF wl) ts.length ws n S)),YB,u6])/\Bd M (10^20) 200 (bQ (aw ts) (aF wl) ts.length ws n S)
 |0,k,S,gs,s6,_,_,_,h,_=>by lia
 |n+1,k,S,gs,s6,hk,hr,hb,hm,hg=>by
  have tr:=GG (t:=[s0,s1,.val (.lst (ws.map pD)),s3,.dp (oD C M ts wl S),gs,s6]) (s:=gs) rfl hg;unfold fF bQ;rw[tr];by_cases z:aO S ws=[]
  .rw[z];refine⟨gs,s6,rfl,?_⟩;exact hb.up (by lia)
  .rw[Um z];have ne:(!(aO S ws).isEmpty)=Qt:=by
    simp_all
   rw[ne];obtain⟨YB,u6,hg',e⟩:=GA (C:=C) J (by lia) hr hb z s0 s1 s3 s6 hg;obtain⟨r2,m2⟩:=hr.step (nj J.Xo) J.all z;obtain⟨UT,v6,e2,b3⟩:=CZ J s0 s1 s3 n (k+1) _ YB u6 (by lia) r2 (hb.step hr (nj J.Xo) J.wt J.all z) (by lia) hg';refine⟨UT,v6,?_,b3⟩;rw[e];assumption
def dY(M:Nat)(ts:Ql (Int×Int))(wl:Ql Int)(ws:Ql Eg):PS:=bQ (aw ts) (aF wl) ts.length ws 200 (PS.new M)
def kf(M:Nat)(ts:Ql (Int×Int))(wl:Ql Int)(ws:Ql Eg):Ql Int:=wX (aw ts) ws (dY M ts wl ws).tk
def kg(M:Nat)(ts:Ql (Int×Int))(wl:Ql Int)(ws:Ql Eg):Ql (Ql Int×(Int×Int)):=oj (dY M ts wl ws)
def DD(M:Nat)(ts:Ql (Int×Int))(wl:Ql Int)(ws:Ql Eg):D:=.tup [iL (kf M ts wl ws),.lst ((kg M ts wl ws).map aZ)]
def XS.zhd(J:XS M ts wl ws):gm (ll (lB ts (ah ts.length))) 0 ws=Qn:=by
 rw[yj];intro w hw;exact((xk (λe he=>by
  obtain⟨a,ha,rfl⟩:=Pj.mp he;have ra:=cW ha;have:=nj J.Xo a ra.1 ra.2;lia)).iff _ _).mpr ((J.all w hw))
def MA(J:XS M ts wl ws):lN C [wD M ts,iL wl,.lst (ws.map pD)]=Qs (.dn (DD M ts wl ws)):=by
 let W:Sl:=.val (wD M ts)
 let U:Sl:=.val (iL wl)
 let V:Sl:=.val (.lst (ws.map pD))
 let S:=dY M ts wl ws
 have hM:=J.Vw.1;have rN:∀l∈ah ts.length,0<=l/\l<(ts.length:Int):=λl hl=>cW hl;let t0:Th:=[W,U,V,.no,.no,.no,.no]
 have el:(ai bI (ae (d2 av ak cV) ao)) t0=Qs (.cl (.int (ts.length:Int))):=by rw[fG (ux rfl)];unfold bI;simp[Ev.d]
 have e1:(ai (aX jB) (ae ak (ae aN (ae (jq (ae (ai bI (ae (d2 av ak cV) ao)) ao)) ao)))) t0=Qs (.cl .Uz):=by rw[nJ rfl rfl (xf el J.Vw.2.1)];refine m8 ?_ rfl;have:=BU (by lia) J.Xo J.X5 rN;rw[J.zhd]at this;assumption
 have E1:=jw (i:=3) e1 (by simp[t0]);let t1:Th:=[W,U,V,.val .Uz,.no,.no,.no]
 have E2:(bZ (aH (d2 sy bc iU)) yL dm) t1=Qs (.nx t1):=ig (rfl:_=Qs Qf) rfl;have e3:(ai (oC C (pU C)) kJ) t1=Qs (.dn (oD C M ts wl (PS.new M))):=by show(if Qt=Qt then(pU C [.obj C _ _,wD M _,iL _]).map _ else Qn)=_;rw[MJ (by lia)];rfl
 have E3:=pB (i:=4) e3 (by simp[t1]);let t2:Th:=[W,U,V,.val .Uz,.dp (oD C M ts wl (PS.new M)),.no,.no]
 have e4:(ai (aX (kE C)) (ae bP eO)) t2=Qs (.dn (dT (aO (PS.new M) ws))):=by rw[eP rfl rfl];unfold aX;rw[show kE C ([Ev.tm (oD C M _ _ _),.cl _].map Ev.d)=_ from z7 J.X5 J.Vw.2.2 (r:=.nw [])];rfl
 have E4:=pB (i:=5) e4 (by simp[t2]);have zfJ:∀a,0<=a->a<(ts.length:Int)->0<=aF wl a:=λa a0 a1=>(J.wt a a0 a1).1;have r0:Run M (aw ts) (aF wl) ts.length ws (PS.new M):=Run.new zfJ;have m0:=(rY (M:=M) (e:=aw ts) (w:=aF wl) (nt:=ts.length) (ws:=ws) hM);obtain⟨YB,u6,e5,bd⟩:=CZ (C:=C) J W U (.val .Uz) 200 0 (PS.new M) (.dp (dT (aO (PS.new M) ws))) .no (by lia) r0 Bd.new (by lia) (.inl rfl);have E5:(lC (λ_=>200) (lD cK) (uc C)) [W,U,V,.val .Uz,.dp (oD C M ts wl (PS.new M)),.dp (dT (aO (PS.new M) ws)),.no]=Qs (.nx [W,U,V,.val .Uz,.dp (oD C M ts wl S),YB,u6]):=e5;obtain⟨_,re⟩:=qQ (nj J.Xo) J.all 200 (PS.new M) r0 (by lia);have tkl:S.tk.length<=36:=by have:S.tk.length+mu M S<=mu M _:=re.Vw;lia
 have Sn:S.n<=45:=by have:S.n=M+S.tk.length:=re.ok.nM;lia
 let t5:Th:=[W,U,V,.val .Uz,.dp (oD C M ts wl S),YB,u6]
 obtain⟨q,a1,b1⟩:=Le (f:=af 4) (t:=t5) (r:=.tm (oD C M ts wl S)) (M:=M) (ts:=ts) (wl:=wl) (S:=S) rfl rfl;have e6:(ai (aX iQ) (ae ak (ae aN (ae (d1 (aG C "taken") bP) ao)))) t5=Qs (.nw ((kf M ts wl ws).map D.int)):=by rw[nJ rfl rfl a1];refine t8 ?_;show iQ [wD M _,.lst _,q.d]=_;rw[b1];exact Lj (by lia) J.Xo J.X5 re.ok.YN (by lia) (r:=.nw [])
 have e7:=Lq (d:=.lst ((oj S).map aZ)) (rs:=[]) (ga:=ao) (m:= "moats") (G:=iq C) (f:=af 4) (t:=t5) (r:=.tm (oD C M ts wl S)) (M:=M) (ts:=ts) (wl:=wl) (S:=S) rfl rfl (by rfl) rfl (Lu re.ok (by lia) (O5 _) (bd.sm (O5 _) (by simp)).1);have E6:(tD (ot (fM (eF (ai (aX iQ) (ae ak (ae aN (ae (d1 (aG C "taken") bP) ao))))) (fM (eF (cj C "moats" (iq C) bP ao)) j7)))) t5=Qs (.rt (.dn (DD M ts wl ws))):=by
  have n1:(eF (ai (aX iQ) (ae ak (ae aN (ae (d1 (aG C "taken") bP) ao))))) t5=Qs (iL (kf M ts wl ws),t5):=by unfold eF;rw[e6];show(if UD ((kf M ts wl ws).map D.int) then Qs (D.lst ((kf M ts wl ws).map D.int)) else Qn).map _=_;rw[Vk];rfl
  have n2:(eF (cj C "moats" (iq C) bP ao)) t5=Qs (.lst ((kg M ts wl ws).map aZ),t5):=by unfold eF;rw[e7];rfl
  have n3:(fM (eF (cj C "moats" (iq C) bP ao)) j7) t5=Qs ([.lst ((kg M ts wl ws).map aZ)],t5):=by unfold fM;rw[n2];rfl
  have n4:(fM (eF (ai (aX iQ) (ae ak (ae aN (ae (d1 (aG C "taken") bP) ao))))) (fM (eF (cj C "moats" (iq C) bP ao)) j7)) t5=Qs ([iL (kf M ts wl ws),.lst ((kg M ts wl ws).map aZ)],t5):=by rw[show(fM (eF (ai (aX iQ) (ae ak (ae aN (ae (d1 (aG C "taken") bP) ao))))) (fM (eF (cj C "moats" (iq C) bP ao)) j7)) t5=((eF (ai (aX iQ) (ae ak (ae aN (ae (d1 (aG C "taken") bP) ao))))) t5).bind λq=>((fM (eF (cj C "moats" (iq C) bP ao)) j7) q.2).bind λw=>Qs (q.1::w.1,w.2) from rfl,n1];show((fM (eF (cj C "moats" (iq C) bP ao)) j7) t5).bind _=_;rw[n3];rfl
  unfold tD ot;rw[n4];rfl
 show(x9 C t0).bind gG=_;exact Ve ((aE E1).trans ((aE E2).trans ((aE E3).trans ((aE E4).trans ((aE E5).trans E6)))))
def cG(f:Int->Int):Nat->Int
 |0=>0
 |n+1=>cG f n+f n
theorem kL:∀{n:Nat},(∀p,0<=p->p<(n:Int)->f p=g p)->cG f n=cG g n
 |0,_=>rfl
 |n+1,h=>by show cG f n+f n=cG g n+g n;rw[kL λp p0 p1=>h p p0 (by lia),h n (by lia) (by lia)]
theorem uT(f g:Int->Int):∀n:Nat,cG (λp=>f p+g p) n=cG f n+cG g n
 |0=>rfl
 |n+1=>by show cG _ n+(f n+g n)=cG f n+f n+(cG g n+g n);rw[uT f g n];lia
theorem uS(c:Int)(f:Int->Int):∀n:Nat,cG (λp=>c*f p) n=c*cG f n
 |0=>(Int.mul_zero c).symm
 |n+1=>by show cG _ n+c*f n=c*(cG f n+f n);rw[uS c f n,Int.mul_add]
theorem qF:∀{n:Nat},(∀p,0<=p->p<(n:Int)->f p=0)->cG f n=0
 |0,_=>rfl
 |n+1,h=>by show cG f n+f n=0;rw[qF λp p0 p1=>h p p0 (by lia),h n (by lia) (by lia)];rfl
theorem AF:∀{n:Nat},0<=q->q<(n:Int)->(∀p,0<=p->p<(n:Int)->p≠q->f p=0)->cG f n=f q
 |0,_,h1,_=>by lia
 |n+1,h0,h1,h=>by
  show cG f n+f n=f q;by_cases z:q=n
  .rw[qF λp p0 p1=>h p p0 (by lia) (by lia),z];lia
  .rw[AF h0 (by lia) λp p0 p1 k=>h p p0 (by lia) k,h n (by lia) (by lia) (by lia)];lia
noncomputable def fA(P:Ql Int)(d:Eg):Bool:=decide (d.1∈P) !=decide (d.2∈P)
def zcj:fA P d=Qt↔¬(d.1∈P↔d.2∈P):=by unfold fA;lia
def zeb:fA P d=Qf↔(d.1∈P↔d.2∈P):=by unfold fA;lia
def eS(S:PS)(d:Eg):Int:=cG (λp=>if fA (S.pt p) d then S.wd p else 0) S.n
def jx(S:PS)(v:Int):Int:=cG (λp=>if v∈S.pt p then S.wd p else 0) S.n
def lS(P:Ql Int)(d:Eg):Bool:=decide (d.1∈P)&&decide (d.2∈P)
structure V1(M:Nat)(e:Int->Eg)(w:Int->Int)(nt:Nat)(ws:List Eg)(S:PS):Prop where
 ar:∀v,0<=v->v<(M:Int)->S.ar v=jx S v
 VU:∀a,0<=a->a<(nt:Int)->S.po (e a).1=S.po (e a).2->eS S (e a)<=w a*S.pa
 tgt:∀a∈S.tk,eS S (e a)=w a*S.pa
 ZL:∀a∈S.tk,S.po (e a).1=S.po (e a).2
 Yp:∀p,0<=p->p<(S.n:Int)->S.wd p≠0->∃x∈ws,fA (S.pt p) x=Qt
 wd0:∀p,0<=p->p<(S.n:Int)->0<=S.wd p
 lam:∀p q,0<=p->p<q->q<(S.n:Int)->(∀u∈S.pt p,u∈S.pt q)\/(∀u∈S.pt p,u∉S.pt q)
 con:∀p,0<=p->p<(S.n:Int)->∀u∈S.pt p,∀v∈S.pt p,Eqv ((S.tk.map e).filter (lS (S.pt p))) u v
theorem V1.new{nt:Nat}(hw:∀a,0<=a->a<(nt:Int)->0<=w a):V1 M e w nt ws (PS.new M) where
 ar:=λv v0 v1=>by show 0=_;unfold jx;rw[qF];intro p p0 p1;split<;>rfl
 VU:=λa a0 a1 k=>by
  have:eS (PS.new M) (e a)=0:=by unfold eS;rw[qF];intro p p0 p1;split<;>rfl
  rw[this];show 0<=w a*1;have:=hw a a0 a1;lia
 tgt:=λa h=>nomatch h
 ZL:=λa h=>nomatch h
 Yp:=λp _ _ h=>absurd rfl h
 wd0:=λp _ _=>QD _
 lam:=λp q _ h _=>.inr λu hu z=>by have:=O1.mp hu;have:=O1.mp z;lia
 con:=λp _ _ u hu v hv=>by rw[O1.mp hu,O1.mp hv];exact .refl _
def L3(h:Ok M e w nt S)(hn:S.po x≠S.po y):eS S (x,y)=jx S x+jx S y:=by
 unfold eS jx;rw[<-uT];refine kL λp p0 p1=>?_;by_cases a:x∈S.pt p
 .have b:=λb=>hn (h.one p p0 p1 _ a _ b);have:fA _ (x,y)=Qt:=zcj.mpr λz=>b (z.mp a)
  simp_all
 .by_cases b:y∈S.pt p
  .have:fA _ (x,y)=Qt:=zcj.mpr λz=>a (z.mpr b)
   simp_all
  .have:fA _ (x,y)=Qf:=zeb.mpr ⟨λz=>absurd z a,λz=>absurd z b⟩
   simp_all
theorem V1.U5(h:V1 M e w nt ws S)(hO:Ok M e w nt S)(hE:cB M e nt)(a0:0<=a)(a1:a<(nt:Int))(hn:S.po (e a).1≠S.po (e a).2):KX.U5 S e w a=w a*S.pa-eS S (e a):=by obtain⟨⟨x0,x1⟩,y0,y1⟩:=hE a a0 a1;have:=L3 hO hn;unfold KX.U5;rw[h.ar _ x0 x1,h.ar _ y0 y1];have e1:((e a).1,(e a).2)=e a:=rfl;rw[e1]at this;lia
def V1.fea(h:V1 M e w nt ws S)(hO:Ok M e w nt S)(hE:cB M e nt)(a0:0<=a)(a1:a<(nt:Int)):eS S (e a)<=w a*S.pa:=by
 by_cases z:S.po (e a).1=S.po (e a).2
 .exact h.VU a a0 a1 z
 .have:=h.U5 hO hE a0 a1 z;have:=hO.pos a a0 a1 z;lia
theorem V1.Vi(h:V1 M e w nt ws S):V1 M e w nt ws (Vi S):=by
 have l2:∀d,eS (KX.Vi S) d=2*eS S d:=λd=>by unfold eS;rw[<-uS];refine kL λp p0 p1=>?_;show(if fA (S.pt p) d then 2*S.wd p else 0)=_;split<;>lia
 have wq:∀a,w a*(S.pa*2)=2*(w a*S.pa):=λa=>by rw[<-Sg,Vy]
 refine⟨λv v0 v1=>?_,λa a0 a1 k=>?_,λa ha=>?_,h.ZL,λp p0 p1 k=>?_,λp p0 p1=>?_,h.lam,h.con⟩
 .show 2*S.ar v=jx _ v;rw[h.ar v v0 v1];unfold jx;rw[<-uS];refine kL λp p0 p1=>?_;show _=(if v∈S.pt p then 2*S.wd p else 0);split<;>lia
 .rw[l2];show _<=w a*(S.pa*2);rw[wq];have:=h.VU a a0 a1 k;lia
 .rw[l2];show _=w a*(S.pa*2);rw[wq,h.tgt a ha]
 .have k:2*S.wd p≠0:=k;exact h.Yp p p0 p1 (by lia)
 .have:=h.wd0 p p0 p1;show 0<=2*S.wd p;lia
structure Gr(M:Nat)(ws:List Eg)(S:PS)(g:Int->Bool):Prop where
 now:∀p,g p=Qt->∃u,(0<=u/\u<(M:Int))/\p=S.po u
 prt:∀p,g p=Qt->∃x∈ws,fA (S.pt p) x=Qt
def D4(hO:Ok M e w nt S)(hP:∀x∈ws,(0<=x.1/\x.1<(M:Int))/\0<=x.2/\x.2<(M:Int)):Gr M ws S (aI (aO S ws)):=by
 refine⟨λp hp=>?_,λp hp=>?_⟩
 .obtain⟨x,hx,ne,r⟩:=Yj.mp (of_decide_eq_true hp);obtain⟨a,b⟩:=hP x hx;rcases r with z|z
  .exact⟨x.1,a,z⟩
  .exact⟨x.2,b,z⟩
 .obtain⟨x,hx,ne,r⟩:=Yj.mp (of_decide_eq_true hp);obtain⟨⟨a0,a1⟩,b0,b1⟩:=hP x hx;refine⟨x,hx,zcj.mpr λk=>ne ?_⟩;rcases r with z|z
  .rw[z,hO.cur _ a0 a1,hO.cur _ a0 a1]at k
   simp_all
  .rw[z,hO.cur _ b0 b1,hO.cur _ b0 b1]at k
   simp_all
theorem V1.V6(h:V1 M e w nt ws S)(hO:Ok M e w nt S)(hE:cB M e nt)(hg:Gr M ws S g){st:Int}(s0:0<=st):V1 M e w nt ws (V6 S g st):=by
 have mem:∀p v,g p=Qt->0<=v->v<(M:Int)->(v∈S.pt p↔S.po v=p):=λp v gp v0 v1=>by
  obtain⟨u,⟨u0,u1⟩,rfl⟩:=hg.now p gp;rw[hO.cur u u0 u1]
  simp_all
 have ld:∀a,0<=a->a<(nt:Int)->S.po (e a).1=S.po (e a).2->eS (KX.V6 S g st) (e a)=eS S (e a):=λa a0 a1 k=>by
  obtain⟨⟨x0,x1⟩,y0,y1⟩:=hE a a0 a1;unfold eS;refine kL λp p0 p1=>?_;show(if fA (S.pt p) (e a) then S.wd p+(if g p then st else 0) else 0)=_;by_cases gp:g p=Qt
  .have:fA (S.pt p) (e a)=Qf:=zeb.mpr (by simp_all);lia
  .rw[Um gp,SA]
 refine⟨λv v0 v1=>?_,λa a0 a1 k=>?_,λa ha=>?_,h.ZL,λp p0 p1 k=>?_,λp p0 p1=>?_,h.lam,h.con⟩
 .show S.ar v+(if g _ then st else 0)=cG (λp=>if v∈S.pt p then S.wd p+(if g p then st else 0) else 0) S.n;have e1:cG (λp=>if v∈S.pt p then S.wd p+(if g p then st else 0) else 0) S.n=jx S v+cG (λp=>if v∈S.pt p then(if g p then st else 0) else 0) S.n:=by
   unfold jx;rw[<-uT]
   grind
  have pv:=hO.Wj v v0 v1;rw[e1,h.ar v v0 v1,AF pv.1 pv.2 _]
  .rw[T4 ((hO.cur v v0 v1 v).mpr ⟨v0,v1,rfl⟩)]
  .grind
 .rw[ld a a0 a1 k];exact h.VU a a0 a1 k
 .obtain⟨a0,a1⟩:=hO.YN a ha;rw[ld a a0 a1 (h.ZL a ha)];exact h.tgt a ha
 .have k:S.wd p+(if g p then st else 0)≠0:=k;by_cases gp:g p=Qt
  .exact hg.prt p gp
  .rw[Um gp,SA]at k;exact h.Yp p p0 p1 k
 .have:=h.wd0 p p0 p1;show 0<=S.wd p+(if g p then st else 0);split<;>lia
def EG{es Vd:Ql Eg}(h1:∀x∈es,x∈Vd)(h2:∀x,p x=Qt->q x=Qt):∀x∈es.filter p,x∈Vd.filter q:=λx hx=>by
 simp_all
theorem V1.UQ(h:V1 M e w nt ws S)(hO:Ok M e w nt S)(hE:cB M e nt)(a0:0<=a)(a1:a<(nt:Int))(hn:S.po (e a).1≠S.po (e a).2)(hf:KX.U5 S e w a<=0):V1 M e w nt ws (UQ S e a):=by
 obtain⟨⟨x0,x1⟩,y0,y1⟩:=hE a a0 a1;have px:=hO.Wj _ x0 x1;have py:=hO.Wj _ y0 y1;have WH:∀p,p≠(S.n:Int)->(KX.UQ S e a).pt p=S.pt p:=λp k=>Um k;have ptN:(KX.UQ S e a).pt (S.n:Int)=bY S e a:=T4 rfl;have wdT:∀p,p≠(S.n:Int)->(KX.UQ S e a).wd p=S.wd p:=λp k=>Um k;have wdN:(KX.UQ S e a).wd (S.n:Int)=0:=T4 rfl;have ld:∀d,eS (KX.UQ S e a) d=eS S d:=λd=>by
  show cG _ _+(if fA _ d then(KX.UQ S e a).wd _ else 0)=_;rw[wdN];have:(if fA ((KX.UQ S e a).pt S.n) d then(0:Int) else 0)=0:=by lia
  rw[this,SA];refine kL λp p0 p1=>?_;rw[WH p (by lia),wdT p (by lia)]
 have mj:∀u,u∈bY S e a↔(0<=u/\u<(M:Int)/\(S.po u=S.po (e a).1\/S.po u=S.po (e a).2)):=λu=>by
  rw[Yr,hO.cur _ x0 x1,hO.cur _ y0 y1];constructor
  .rintro(⟨a,b,c⟩|⟨a,b,c⟩)
   .exact⟨a,b,.inl c⟩
   .exact⟨a,b,.inr c⟩
  .simp_all
 have W3:∀v,(KX.UQ S e a).po v=if v∈bY S e a then(S.n:Int) else S.po v:=λv=>rfl
 have same:∀u v,0<=u->u<(M:Int)->0<=v->v<(M:Int)->S.po u=S.po v->(KX.UQ S e a).po u=(KX.UQ S e a).po v:=λu v u0 u1 v0 v1 q=>by
  simp_all
 have k1:(e a).1∈bY S e a:=(mj _).mpr ⟨x0,x1,.inl rfl⟩;have k2:(e a).2∈bY S e a:=(mj _).mpr ⟨y0,y1,.inr rfl⟩;have lf:=h.U5 hO hE a0 a1 hn;have l0:=hO.pos a a0 a1 hn;refine⟨λv v0 v1=>?_,λc c0 c1 k=>?_,λc hc=>?_,λc hc=>?_,λp p0 p1 k=>?_,λp p0 p1=>?_,λp q p0 pq q1=>?_,λp p0 p1 u hu v hv=>?_⟩
 .show S.ar v=cG _ _+(if v∈(KX.UQ S e a).pt _ then(KX.UQ S e a).wd _ else 0);rw[wdN];have:(if v∈(KX.UQ S e a).pt S.n then(0:Int) else 0)=0:=by lia
  rw[this,SA,h.ar v v0 v1];refine kL λp p0 p1=>?_;rw[WH p (by lia),wdT p (by lia)]
 .rw[ld];exact h.fea hO hE c0 c1
 .rw[ld];show _=w c*S.pa;rcases OT.mp hc with z|z
  .exact h.tgt c z
  .rw[O1.mp z];lia
 .rcases OT.mp hc with z|z
  .obtain⟨c0,c1⟩:=hO.YN c z;obtain⟨⟨u0,u1⟩,v0,v1⟩:=hE c c0 c1;exact same _ _ u0 u1 v0 v1 (h.ZL c z)
  .rw[O1.mp z,W3,W3,T4 k1,T4 k2]
 .have p1:p<((S.n+1:Nat):Int):=p1;by_cases z:p=(S.n:Int)
  .lia
  .rw[wdT p z]at k;rw[WH p z];exact h.Yp p p0 (by lia) k
 .have p1:p<((S.n+1:Nat):Int):=p1;by_cases z:p=(S.n:Int)
  .rw[z,wdN];simp
  .rw[wdT p z];exact h.wd0 p p0 (by lia)
 .have q1:q<((S.n+1:Nat):Int):=q1;rw[WH p (by lia)];by_cases z:q=(S.n:Int)
  .rw[z,ptN];by_cases y:∃u∈S.pt p,u∈bY S e a
   .obtain⟨u,hu,ju⟩:=y;refine .inl λv hv=>?_;obtain⟨v0,v1⟩:=hO.inr p p0 (by lia) v hv;exact(mj v).mpr ⟨v0,v1,(hO.one p p0 (by lia) u hu v hv)▸((mj u).mp ju).2.2⟩
   .lia
  .rw[WH q z];exact h.lam p q p0 pq (by lia)
 .have p1:p<((S.n+1:Nat):Int):=p1;have inT:∀x∈S.tk.map e,x∈(S.tk++[a]).map e:=λx hx=>by
   simp_all
  show Eqv (((S.tk++[a]).map e).filter (lS ((KX.UQ S e a).pt p))) u v;by_cases z:p=(S.n:Int)
  .rw[z,ptN]at hu hv ⊢;have part:∀z,(0<=z/\z<(M:Int))->(∀u∈S.pt (S.po z),u∈bY S e a)->∀u∈S.pt _,∀v∈S.pt _,Eqv (((S.tk++[a]).map e).filter (lS (bY S e a))) u v:=λz hz sub u hu v hv=>by
    have pz:=hO.Wj _ hz.1 hz.2;refine(h.con _ pz.1 pz.2 u hu v hv).mono (EG inT λx hx=>?_);unfold lS at hx ⊢
    simp_all
   have tie:Eqv (((S.tk++[a]).map e).filter (lS (bY S e a))) (e a).1 (e a).2:=by refine .Xy (Px.mpr ⟨Pj.mpr ⟨a,OP _ (O1.mpr rfl),rfl⟩,?_⟩);unfold lS;lia
   have to1:∀u∈bY S e a,Eqv _ u _:=λu hu=>by
    rcases Yr.mp hu with q|q
    .exact(part _ ⟨x0,x1⟩ λu hu=>Yr.mpr (.inl hu)) u q _ ((hO.cur _ x0 x1 _).mpr ⟨x0,x1,rfl⟩)
    .exact((part _ ⟨y0,y1⟩ λu hu=>Yr.mpr (.inr hu)) u q _ ((hO.cur _ y0 y1 _).mpr ⟨y0,y1,rfl⟩)).trans tie.symm
   exact(to1 u hu).trans (to1 v hv).symm
  .rw[WH p z]at hu hv ⊢;exact(h.con p p0 (by lia) u hu v hv).mono (EG inT λx hx=>hx)
def V1.step(h:V1 M e w nt ws S)(hO:Ok M e w nt S)(hE:cB M e nt)(hP:∀x∈ws,(0<=x.1/\x.1<(M:Int))/\0<=x.2/\x.2<(M:Int))(hw:∀w∈ws,Eqv (ip e nt) w.1 w.2)(hn:aO S ws≠[]):V1 M e w nt ws (bU e w nt ws S):=by
 cases hf:dF S e w _ _ with
 |none=>
  have es:bU e w nt ws S=WU S e w (aI (aO S ws)) nt:=by unfold bU;rw[hf];rfl
  rw[es];exact h.Vi.V6 hO.Vi hE ⟨(D4 hO hP).now,(D4 hO hP).prt⟩ (QL (Aw (mV hO hE hw hn) hf))
 |some a=>
  have es:bU e w nt ws S=KX.UQ S e a:=by unfold bU;rw[hf]
  rw[es];obtain⟨⟨a0,a1⟩,b,l⟩:=mR hf;exact h.UQ hO hE a0 a1 (lJ b) l
def Eqv.two(k:∀x∈Vd,x∈es\/x=d)(h:Eqv Vd u v):Eqv es u v\/(Eqv es u d.1/\Eqv es d.2 v)\/(Eqv es u d.2/\Eqv es d.1 v):=by
 induction h with
 |refl u=>exact .inl (.refl u)
 |Xy h=>
  rcases k _ h with z|z
  .exact .inl (.Xy z)
  .subst z;exact .inr (.inl ⟨.refl _,.refl _⟩)
 |symm _ ih=>
  rcases ih with z|⟨a,b⟩|⟨a,b⟩
  .exact .inl z.symm
  .exact .inr (.inr ⟨b.symm,a.symm⟩)
  .exact .inr (.inl ⟨b.symm,a.symm⟩)
 |trans _ _ i1 i2=>
  rcases i1 with z|⟨a,b⟩|⟨a,b⟩<;>rcases i2 with y|⟨c,f⟩|⟨c,f⟩
  .exact .inl (z.trans y)
  .exact .inr (.inl ⟨z.trans c,f⟩)
  .exact .inr (.inr ⟨z.trans c,f⟩)
  .exact .inr (.inl ⟨a,b.trans y⟩)
  .lia
  .exact .inl (a.trans f)
  .exact .inr (.inr ⟨a,b.trans y⟩)
  .exact .inl (a.trans f)
  lia
def wo(K:Ql Int)(a:Int):Ql Int:=K.filter λx=>!decide (x=a)
def zbm:x∈wo K a↔x∈K/\x≠a:=by unfold wo;simp
def Xm(e:Int->Eg)(tk:Ql Int):Prop:=tk.Nodup/\∀a∈tk,¬Eqv ((wo tk a).map e) (e a).1 (e a).2
def CQ{e:Int->Eg}{L:Ql Int}(h:∀x∈K,x∈L):∀x∈K.map e,x∈L.map e:=λx hx=>by
 grind
def Am (h:a∈K):Eqv (K.map e) (e a).1 (e a).2:=.Xy (Pj.mpr ⟨a,h,rfl⟩)
def Xm.nil(e:Int->Eg):Xm e []:=⟨PN,λa h=>nomatch h⟩
def Xm.add(h:Xm e tk)(hn:¬Eqv (tk.map e) (e a).1 (e a).2):Xm e (tk++[a]):=by
 have na:a∉tk:=λz=>hn (Am z);refine⟨O4.mpr ⟨h.1,by simp,λx hx y hy z=>na (by simp_all)⟩,λb hb=>?_⟩;rcases OT.mp hb with z|z
 .intro k;have k2:∀x∈(wo (tk++[a]) b).map e,x∈(wo _ b).map e\/x=e a:=λx hx=>by
   obtain⟨c,hc,rfl⟩:=Pj.mp hx;obtain⟨c1,c2⟩:=zbm.mp hc;rcases OT.mp c1 with y|y
   .exact .inl (Pj.mpr ⟨c,zbm.mpr ⟨y,c2⟩,rfl⟩)
   .simp_all
  have up:∀{u v},Eqv ((wo tk b).map e) u v->Eqv _ u v:=λq=>q.mono (CQ λx hx=>(zbm.mp hx).1);have tb:=Am (e:=e) z;rcases k.two k2 with y|⟨y,w⟩|⟨y,w⟩
  .exact h.2 b z y
  .exact hn ((up y).symm.trans (tb.trans (up w).symm))
  .exact hn ((up w).trans (tb.symm.trans (up y)))
 .rw[O1.mp z];intro k;refine hn (k.mono (CQ λx hx=>?_));obtain⟨c1,c2⟩:=zbm.mp hx
  simp_all
def V1.apart(h:V1 M e w nt ws S)(hn:S.po u≠S.po v):¬Eqv (S.tk.map e) u v:=λk=>by
 have:=k.pred (p:=λx=>S.po x=S.po u) λx hx=>by obtain⟨a,ha,rfl⟩:=Pj.mp hx;rw[h.ZL a ha]
 lia
theorem Xm.run(hE:cB M e nt)(hP:∀x∈ws,(0<=x.1/\x.1<(M:Int))/\0<=x.2/\x.2<(M:Int))(hw:∀w∈ws,Eqv (ip e nt) w.1 w.2):∀(n:Nat) (S:PS),Run M e w nt ws S->V1 M e w nt ws S->Xm e S.tk->Xm e (bQ e w nt ws n S).tk
 |0,S,_,_,h=>h
 |n+1,S,r,d,h=>by
  unfold bQ;by_cases z:aO S ws=[]
  .rw[T4 z];assumption
  .rw[Um z];refine Xm.run hE hP hw n _ (r.step hE hw z).1 (d.step r.ok hE hP hw z) ?_;cases hf:dF S e w _ _ with
   |none=>
    have es:bU e w nt ws S=WU S e w (aI (aO S ws)) nt:=by unfold bU;rw[hf];rfl
    rw[es];assumption
   |some a=>
    have es:bU e w nt ws S=KX.UQ S e a:=by unfold bU;rw[hf]
    rw[es];obtain⟨_,b,_⟩:=mR hf;exact h.add (d.apart (lJ b))
def K6(hE:cB M e nt)(hL:∀a∈L,0<=a/\a<(nt:Int)):iB e ws L=Qt↔∀x∈ws,Eqv (L.map e) x.1 x.2:=by
 have k:∀d∈L.map e,0<=d.1/\0<=d.2:=λd hd=>by obtain⟨a,ha,rfl⟩:=Pj.mp hd;have:=hE a (hL a ha).1 (hL a ha).2;lia
 unfold iB;rw[P5];constructor
 .intro h x hx;exact((xk k).iff _ _).mp (of_decide_eq_true (h x hx))
 .intro h x hx;exact UN (((xk k).iff _ _).mpr (h x hx))
open PySem.Spec L2 DL TS
def V9(e:Int->Eg)(a:Int)(x:Ql Int×Int):Bool:=decide ((e a).1∈x.1)||decide ((e a).2∈x.1)
def dU(f:Int->Int×Int)(wa:Int)(B:Ql (Ql Int×Int)):Ql (Ql Int×(Int×Int)):=(B.filter λx=>decide (x.2<wa)).map λx=>(x.1,f (wa-x.2))
structure YI where
 L:List (List Int×Int)
 T:List Int
 Mo:List (List Int×(Int×Int))
def dh(e:Int->Eg)(w:Int->Int)(f:Int->Int×Int)(K:YI)(a:Int):YI:=match K.L.filter (V9 e a) with
 |[x,y]=>⟨K.L.filter (λz=>!V9 e a z)++[(dD (x.1++y.1),w a)],K.T++[a],K.Mo++dU f (w a) [x,y]⟩
 |_=>K
structure Vl(M:Nat)(e:Int->Eg)(w:Int->Int)(nt:Nat)(S:PS)(b d:Int->Int)(W:Int)(cur dl:List Int):Prop where
 ok:Ok M e w nt S
 cP:∀p,p∈cur↔∃v,(0<=v/\v<(M:Int))/\S.po v=p
 cS:cur.Pairwise (·< ·)
 ar:∀v,0<=v->v<(M:Int)->2*S.ar v=W*S.pa
 lo:∀a,0<=a->a<(nt:Int)->S.po (e a).1≠S.po (e a).2->W<=w a
 wc:∀p∈cur,2*S.wd p=(W-b p)*S.pa
 wl:∀p∈dl,2*S.wd p=(d p-b p)*S.pa
 dN:dl.Nodup
 dP:∀p,p∈dl↔(0<=p/\p<(S.n:Int))/\p∉cur
 one:∀q,cur=[q]->b q=W
def uN{l m:Ql Int}(h1:l.Pairwise (·< ·))(h2:m.Pairwise (·< ·))(h:∀x,x∈l↔x∈m):l=m:=by exact((So (h1.imp λz e=>by lia) (h2.imp λz e=>by lia)).mpr h).eq_of_pairwise (λa b _ _ x y=>absurd x (by lia)) h1 h2
theorem Vl.new{nt:Nat}(hw:∀a,0<=a->a<(nt:Int)->0<=w a):Vl M e w nt (PS.new M) (λ_=>0) (λ_=>0) 0 (ah M) [] where
 ok:=Ok.new hw
 cP:=λp=>by
  constructor
  .exact λh=>⟨p,cW h,rfl⟩
  .rintro⟨v,h,rfl⟩;exact hX h.1 h.2
 cS:=by exact Qj.mpr (RI.imp λh=>by lia)
 ar:=λv _ _=>rfl
 lo:=λa a0 a1 _=>hw a a0 a1
 wc:=λp _=>rfl
 wl:=λp h=>nomatch h
 dN:=PN
 dP:=λp=>by
  constructor
  .simp
  .exact λh=>absurd (hX h.1.1 h.1.2) h.2
 one:=λq _=>rfl
section
variable {M:Nat}{e:Int->Eg}{w:Int->Int}{S:PS}{b d:Int->Int}{W:Int}{ws:Ql Eg}{a:Int}
def Vl.VA(h:Vl M e w nt S b d W cur dl)(v0:0<=v)(v1:v<(M:Int)):S.po v∈cur:=(h.cP _).mpr ⟨v,⟨v0,v1⟩,rfl⟩
def Vl.Xt(h:Vl M e w nt S b d W cur dl)(hp:p∈cur):0<=p/\p<(S.n:Int):=by obtain⟨v,⟨v0,v1⟩,rfl⟩:=(h.cP p).mp hp;exact h.ok.Wj v v0 v1
def Vl.want(h:Vl M e w nt S b d W cur dl)(hE:cB M e nt)(hc:∀u v,0<=u->u<(M:Int)->0<=v->v<(M:Int)->Eqv ws u v)(a0:0<=a)(a1:a<(nt:Int))(hn:S.po (e a).1≠S.po (e a).2)(hp:p∈cur):p∈aO S ws:=by
 obtain⟨v,⟨v0,v1⟩,rfl⟩:=(h.cP p).mp hp;obtain⟨⟨x0,x1⟩,y0,y1⟩:=hE a a0 a1;apply PB;intro z;have k:∀x∈ws,(S.po _=S.po v↔S.po _=S.po v):=λx hx=>by
  constructor
  .intro q;apply PB;intro q2;exact z (Yj.mpr ⟨x,hx,λr=>q2 (r▸q),.inl q.symm⟩)
  .intro q;apply PB;intro q2;exact z (Yj.mpr ⟨x,hx,λr=>q2 (r▸q),.inr q.symm⟩)
 exact hn ((((hc v _ v0 v1 x0 x1).pred (p:=λu=>S.po u=S.po v) k).mp rfl).trans (((hc v _ v0 v1 y0 y1).pred (p:=λu=>S.po u=S.po v) k).mp rfl).symm)
def Vl.zaU(h:Vl M e w nt S b d W cur dl)(hE:cB M e nt)(hc:∀u v,0<=u->u<(M:Int)->0<=v->v<(M:Int)->Eqv ws u v)(a0:0<=a)(a1:a<(nt:Int))(hn:S.po (e a).1≠S.po (e a).2):bj S e (aI (aO S ws)) a=2:=by obtain⟨⟨x0,x1⟩,y0,y1⟩:=hE a a0 a1;have g:∀{v},0<=v->v<(M:Int)->aI _ _=Qt:=λv0 v1=>UN (h.want hE hc a0 a1 hn (h.VA v0 v1));unfold bj;rw[Um hn,g x0 x1,g y0 y1];rfl
theorem Vl.U5(h:Vl M e w nt S b d W cur dl)(hE:cB M e nt)(a0:0<=a)(a1:a<(nt:Int)):U5 S e w a=(w a-W)*S.pa:=by obtain⟨⟨x0,x1⟩,y0,y1⟩:=hE a a0 a1;have q1:=h.ar _ x0 x1;have q2:=h.ar _ y0 y1;unfold KX.U5;rw[Sw];lia
def Vl.grow(h:Vl M e w nt S b d W cur dl)(hE:cB M e nt)(hW:∀x∈ws,(0<=x.1/\x.1<(M:Int))/\0<=x.2/\x.2<(M:Int))(hc:∀u v,0<=u->u<(M:Int)->0<=v->v<(M:Int)->Eqv ws u v)(a0:0<=a)(a1:a<(nt:Int))(hn:S.po (e a).1≠S.po (e a).2):∃W',Vl M e w nt (WU S e w (aI (aO S ws)) nt) b d W' cur dl:=by
 have pa:=h.ok.X1;have b2:=h.zaU hE hc a0 a1 hn;obtain⟨_,a',⟨r0,r1⟩,bp,eq⟩:=qE (w:=w) (S:=S) (e:=e) (g:=aI (aO S ws)) (nt:=nt) ⟨a,⟨a0,a1⟩,by lia⟩;have n':=lJ bp;rw[h.zaU hE hc r0 r1 n',h.U5 hE r0 r1]at eq;have eq:d9 S e w (aI (aO S ws)) nt=(w a'- W)*S.pa:=Int.eq_of_mul_eq_mul_left (by decide) eq;have gc:∀p∈cur,aI (aO S ws) p=Qt:=λp hp=>UN (h.want hE hc a0 a1 hn hp);have two:∀q,cur≠[q]:=λq z=>by
  obtain⟨⟨x0,x1⟩,y0,y1⟩:=hE a a0 a1;have c1:=h.VA x0 x1;have c2:=h.VA y0 y1
  simp_all
 refine⟨w a',h.ok.WU,h.cP,h.cS,λv v0 v1=>?_,λc c0 c1 cn=>?_,λp hp=>?_,λp hp=>?_,h.dN,h.dP,λq z=>absurd z (two q)⟩
 .show 2*(2*S.ar v+(if aI _ (S.po v) then d9 S e w _ _ else 0))=w _*(S.pa*2);rw[T4 (gc _ (h.VA v0 v1)),eq];have:=h.ar v v0 v1;rw[Sw,<-Sg];lia
 .have le:=uM (w:=w) c0 c1 (by rw[h.zaU hE hc c0 c1 cn];decide);rw[h.zaU hE hc c0 c1 cn,h.U5 hE c0 c1]at le
  simp_all
 .show 2*(2*S.wd p+(if aI _ p then d9 S e w _ _ else 0))=(w _- b p)*(S.pa*2);rw[T4 (gc p hp),eq];have:=h.wc p hp;rw[<-Sg];rw[Sw]at this;rw[Sw,Sw];lia
 .show 2*(2*S.wd p+(if aI _ p then d9 S e w _ _ else 0))=(d p-b p)*(S.pa*2);have ng:aI _ p=Qf:=VN λz=>(((h.dP p).mp hp).2) (by
   obtain⟨x,hx,_,q⟩:=Yj.mp z;obtain⟨⟨x0,x1⟩,y0,y1⟩:=hW x hx;rcases q with q|q
   .rw[q];exact h.VA x0 x1
   .rw[q];exact h.VA y0 y1)
  rw[ng];have:=h.wl p hp;rw[<-Sg];simp;lia
def Gs{l:Ql Int}(h:l.Pairwise (·< ·))(hx:x∈l)(hy:y∈l)(lt:x<y):l.filter (λp=>decide (p=x)||decide (p=y))=[x,y]:=by
 refine uN (h.filter _) (by simp[lt]) λp=>?_
 grind
def Vl.take(h:Vl M e w nt S b d W cur dl)(hE:cB M e nt)(a0:0<=a)(a1:a<(nt:Int))(hn:S.po (e a).1≠S.po (e a).2)(hw:w a=W)(YW:(x=S.po (e a).1/\y=S.po (e a).2)\/(x=S.po (e a).2/\y=S.po (e a).1)):Vl M e w nt (UQ S e a) (λp=>if p=(S.n:Int) then W else b p) (λp=>if p=x\/p=y then W else d p) W (cur.filter (λp=>!(decide (p=x)||decide (p=y)))++[(S.n:Int)]) (dl++[x,y]):=by
 obtain⟨⟨x0,x1⟩,y0,y1⟩:=hE a a0 a1;have ok':=h.ok.UQ hE a0 a1 hn;have px:=h.VA x0 x1;have py:=h.VA y0 y1;have mj:∀{v},0<=v->v<(M:Int)->(v∈bY S e a↔(S.po v=x\/S.po v=y)):=λ{v} v0 v1=>by rw[Yr,h.ok.cur _ x0 x1,h.ok.cur _ y0 y1];lia
 have cx:x∈cur/\y∈cur/\x≠y:=by lia
 obtain⟨cx,cy,nxy⟩:=cx;have rx:=h.Xt cx;have ry:=h.Xt cy;have po':∀v,(UQ S e a).po v=if v∈bY S e a then(S.n:Int) else S.po v:=λv=>rfl
 have wd':∀p,(UQ S e a).wd p=if p=(S.n:Int) then 0 else S.wd p:=λv=>rfl
 have inF:∀p,p∈cur.filter (λp=>!(decide (p=x)||decide (p=y)))++[(S.n:Int)]↔(p∈cur/\p≠x/\p≠y)\/p=(S.n:Int):=λp=>by simp
 refine⟨ok',λp=>?_,?_,h.ar,λc c0 c1 cn=>?_,λp hp=>?_,λp hp=>?_,?_,λp=>?_,λq hq=>?_⟩
 .rw[inF];constructor
  .rintro(⟨hp,n1,n2⟩|rfl)
   .obtain⟨v,⟨v0,v1⟩,rfl⟩:=(h.cP p).mp hp;refine⟨v,⟨v0,v1⟩,?_⟩
    simp_all
   .refine⟨_,⟨x0,x1⟩,?_⟩;rw[po',T4 ((mj x0 x1).mpr (by lia))]
  .rintro⟨v,⟨v0,v1⟩,rfl⟩;rw[po'];split
   .simp
   .rename_i z;rw[mj v0 v1,not_or]at z;exact .inl ⟨h.VA v0 v1,z.1,z.2⟩
 .refine Q6.mpr ⟨h.cS.filter _,Qe _ _,λp hp q hq=>?_⟩;rw[O1]at hq;subst hq;exact(h.Xt (Px.mp hp).1).2
 .refine h.lo c c0 c1 λz=>cn ?_;obtain⟨⟨u0,u1⟩,v0,v1⟩:=hE c c0 c1
  simp_all
 .rw[wd'];rcases(inF p).mp hp with⟨hp,_,_⟩|rfl
  .have:=h.Xt hp;have np:p≠S.n:=by lia
   rw[Um np,Um np];exact h.wc p hp
  .simp
 .show 2*(UQ S e a).wd p=((if p=x\/p=y then W else d p)-(if p=(S.n:Int) then W else b p))*S.pa;rw[wd'];rcases OT.mp hp with hp|hp
  .obtain⟨r,nc⟩:=(h.dP p).mp hp;have np:p≠S.n:=by lia
   rw[Um np,Um np,Um (by
    lia)]
   exact h.wl p hp
  .have hp:=by simpa using hp
   have:p∈cur:=by lia
   have np:p≠S.n:=by lia
   rw[Um np,Um np,T4 hp];exact h.wc p this
 .refine O4.mpr ⟨h.dN,by simp[nxy],λp hp q hq z=>?_⟩;subst z;have nc:=((h.dP p).mp hp).2;rcases(by simpa using hq) with rfl|rfl
  .exact nc cx
  lia
 .have en:((UQ S e a).n:Int)=(S.n:Int)+1:=by rfl
  rw[inF,OT,h.dP,en];simp only[OZ,R9,or_false];constructor
  .rintro(⟨r,nc⟩|z)
   .exact⟨⟨r.1,by lia⟩,by lia⟩
   .have r:0<=p/\p<S.n:=by lia
    refine⟨⟨r.1,by lia⟩,?_⟩;rintro(⟨_,q1,q2⟩|q)
    .lia
    .lia
  .lia
 .have:(S.n:Int)∈[q]:=by rw[<-hq];exact OP _ (O1.mpr rfl)
  simp_all
end
section
variable {M:Nat}{e:Int->Eg}{w:Int->Int}{S:PS}{b d:Int->Int}{W:Int}{ws:Ql Eg}{a:Int}{f:Int->Int×Int}
def gJ(f:Int->Int×Int)(S:PS)(b d:Int->Int)(dl:Ql Int):Ql (Ql Int×(Int×Int)):=(dl.filter λp=>decide (b p<d p)).map λp=>(S.pt p,f (d p-b p))
def eI(S:PS)(b:Int->Int)(cur:Ql Int):Ql (Ql Int×Int):=cur.map λp=>(S.pt p,b p)
theorem Vl.V9(h:Vl M e w nt S b d W cur dl)(hE:cB M e nt)(a0:0<=a)(a1:a<(nt:Int))(hp:p∈cur):V9 e a (S.pt p,b p)=(decide (p=S.po (e a).1)||decide (p=S.po (e a).2)):=by
 obtain⟨⟨x0,x1⟩,y0,y1⟩:=hE a a0 a1;obtain⟨v,⟨v0,v1⟩,rfl⟩:=(h.cP p).mp hp;have k:∀u,0<=u->u<(M:Int)->decide (u∈S.pt _)=decide (S.po v=S.po u):=λu u0 u1=>decide_eq_decide.mpr (by
  rw[h.ok.cur v v0 v1 u];lia)
 show(decide _||decide _)=_;rw[k _ x0 x1,k _ y0 y1]
def Vl.Y5(h:Vl M e w nt S b d W cur dl)(hE:cB M e nt)(a0:0<=a)(a1:a<(nt:Int))(n:Bool):(eI S b cur).filter (λz=>if n then KX.V9 e a z else !KX.V9 e a z)=eI S b (cur.filter λp=>if n then(decide (p=S.po (e a).1)||decide (p=S.po (e a).2)) else !(decide (p=S.po (e a).1)||decide (p=S.po (e a).2))):=by unfold eI;rw[Uw];congr 1;refine RO λp hp=>?_;show(if n then KX.V9 e a _ else !KX.V9 e a _)=_;rw[h.V9 hE a0 a1 hp]
def Vl.pass(h:Vl M e w nt S b d W cur dl)(hE:cB M e nt)(a0:0<=a)(a1:a<(nt:Int))(hn:S.po (e a).1=S.po (e a).2)(T:Ql Int)(Mo:Ql (Ql Int×(Int×Int))):dh e w f ⟨eI S b cur,T,Mo⟩ a=⟨eI S b cur,T,Mo⟩:=by
 obtain⟨⟨x0,x1⟩,_,_⟩:=hE a a0 a1;have k:=h.Y5 hE a0 a1 Qt;simp only[if_true]at k;have one:cur.filter (λp=>decide (p=S.po (e a).1)||decide (p=S.po (e a).2))=[S.po (e a).1]:=by refine uN (h.cS.filter _) (Qe _ _) λp=>?_;rw[<-hn];simp only[Px,Bool.or_self,VH,O1];exact⟨λq=>q.2,λq=>⟨q▸h.VA x0 x1,q⟩⟩
 rw[one]at k;unfold dh;rw[k];rfl
def Vl.zi5(h:Vl M e w nt S b d W cur dl)(hE:cB M e nt)(a0:0<=a)(a1:a<(nt:Int))(hn:S.po (e a).1≠S.po (e a).2)(hw:w a=W)(T:Ql Int):∃b' d' Y9 Y8,Vl M e w nt (UQ S e a) b' d' W Y9 Y8/\dh e w f ⟨eI S b cur,T,gJ f S b d dl⟩ a=⟨eI (UQ S e a) b' Y9,T++[a],gJ f (UQ S e a) b' d' Y8⟩:=by
 obtain⟨⟨x0,x1⟩,y0,y1⟩:=hE a a0 a1;obtain⟨x,y,YW,lt⟩:∃x y,((x=S.po _/\y=S.po _)\/(x=S.po _/\y=S.po _))/\x<y:=by
  rcases Int.lt_or_lt_of_ne hn with z|z
  .exact⟨_,_,.inl ⟨rfl,rfl⟩,z⟩
  .exact⟨_,_,.inr ⟨rfl,rfl⟩,z⟩
 refine⟨_,_,_,_,(h.take hE a0 a1 hn hw YW),?_⟩;have cx:x∈cur/\y∈cur:=by
  rcases YW with⟨rfl,rfl⟩|⟨rfl,rfl⟩
  .exact⟨h.VA x0 x1,h.VA y0 y1⟩
  .exact⟨h.VA y0 y1,h.VA x0 x1⟩
 have xy:∀p,(decide (p=S.po (e a).1)||decide (p=S.po (e a).2))=(decide (p=x)||decide (p=y)):=λp=>by lia
 have k1:=h.Y5 hE a0 a1 Qt;have k2:=h.Y5 hE a0 a1 Qf;simp only[if_true,PU,if_false,xy]at k1 k2;rw[Gs h.cS cx.1 cx.2 lt]at k1;unfold dh;rw[k1];show YI.mk _ _ (gJ f S b d _++dU f _ (eI S b [x,y]))=_;rw[k2];have nn:∀p∈cur,p≠S.n:=λp hp=>by have:=h.Xt hp;lia
 have jn:dD (S.pt x++S.pt y)=bY S e a:=by
  rcases YW with⟨rfl,rfl⟩|⟨rfl,rfl⟩
  .rfl
  .exact uP (((iZ _).trans List.perm_append_comm).trans (iZ _).symm) (nK _) (nK _)
 have pt':∀p,(UQ S e a).pt p=if p=S.n then bY S e a else S.pt p:=λp=>rfl
 have eL:eI S b (cur.filter λp=>!(decide (p=x)||decide (p=y)))++[(dD (S.pt x++S.pt y),w a)]=eI (UQ S e a) (λp=>if p=(S.n:Int) then W else b p) (cur.filter (λp=>!(decide (p=x)||decide (p=y)))++[(S.n:Int)]):=by
  unfold eI
  simp_all
 have eM:gJ f S b d dl++dU f (w a) (eI S b [x,y])=gJ f (UQ S e a) (λp=>if p=(S.n:Int) then W else b p) (λp=>if p=x\/p=y then W else d p) (dl++[x,y]):=by
  unfold gJ;rw[List.filter_append,Qg];have c1:∀p∈dl,p≠(S.n:Int)/\ ¬(p=x\/p=y):=λp hp=>by obtain⟨r,nc⟩:=(h.dP p).mp hp;lia
  congr 1
  .rw[show(dl.filter λp=>decide ((if p=(S.n:Int) then W else b p)<if p=x\/p=y then W else d p))=dl.filter λp=>decide (b p<d p) from RO λp hp=>by simp_all]
   simp_all
  .unfold dU eI
   grind
 rw[eL,eM]
def Vl.first(h:Vl M e w nt S b d W cur dl)(hE:cB M e nt)(hc:∀u v,0<=u->u<(M:Int)->0<=v->v<(M:Int)->Eqv ws u v)(a0:0<=a)(a1:a<(nt:Int))(hn:S.po (e a).1≠S.po (e a).2) (low:∀c,0<=c->c<(nt:Int)->S.po (e c).1≠S.po (e c).2->c=a\/w a<w c\/(w a=w c/\a<c)) (hf:dF S e w (aI (aO S ws)) nt=Qs c):c=a/\w a=W:=by
 have pa:=h.ok.X1;obtain⟨⟨c0,c1⟩,bp,lc⟩:=mR hf;have cn:=lJ bp;rw[h.U5 hE c0 c1]at lc;have wc:w c=W:=by
  have g:=h.lo c c0 c1 cn;have:(w c-W)*S.pa<=0*S.pa:=by lia
  have:=Int.le_of_mul_le_mul_right this pa;lia
 have wa:=h.lo a a0 a1 hn;rcases low c c0 c1 cn with z|z|z
 .lia
 .lia
 .exfalso;have fa:km S e w (aI (aO S ws)) a=Qt:=by unfold km;rw[h.zaU hE hc a0 a1 hn,h.U5 hE a0 a1,show w a-W=0 by lia,Int.zero_mul];rfl
  have:=List.find?_eq_some_iff_append.mp hf;obtain⟨_,as,bs,eq,no⟩:=this;have WZ:(ah nt).Pairwise (·< ·):=by exact Qj.mpr (RI.imp λh=>by lia)
  rw[eq]at WZ;have ma:a∈as++c::bs:=by rw[<-eq];exact hX a0 a1
  rcases OT.mp ma with m|m
  .simp_all
  .rcases OZ.mp m with m|m
   .lia
   .have:=(Pw.mp (Q6.mp WZ).2.1).1 a m;lia
end
section
variable {M:Nat}{e:Int->Eg}{w:Int->Int}{ws:Ql Eg}{f:Int->Int×Int}
theorem xu(hE:cB M e nt)(hW:∀x∈ws,(0<=x.1/\x.1<(M:Int))/\0<=x.2/\x.2<(M:Int))(hc:∀u v,0<=u->u<(M:Int)->0<=v->v<(M:Int)->Eqv ws u v)(hq:∀x∈ws,Eqv (ip e nt) x.1 x.2):∀(O:Ql Int) (n:Nat) (S:PS) (b d:Int->Int) (W:Int) (cur dl:Ql Int),Vl M e w nt S b d W cur dl->Run M e w nt ws S->ms M e w nt ws S<n->O.Pairwise (λa c=>w a<w c\/(w a=w c/\a<c))->(∀a∈O,0<=a/\a<(nt:Int))->(∀a,0<=a->a<(nt:Int)->S.po (e a).1≠S.po (e a).2->a∈O)->∃b' d' W' Y9 Y8,Vl M e w nt (bQ e w nt ws n S) b' d' W' Y9 Y8/\O.foldl (dh e w f) ⟨eI S b cur,S.tk,gJ f S b d dl⟩=⟨eI (bQ e w nt ws n S) b' Y9,(bQ e w nt ws n S).tk,gJ f (bQ e w nt ws n S) b' d' Y8⟩
 |[],n,S,b,d,W,cur,dl,K,R,hm,_,_,all=>by
  have:bQ e w nt ws n S=S:=by
   cases n with
   |zero=>rfl
   |succ n=>unfold bQ;rw[T4 (PB λz=>by
   obtain⟨a,⟨a0,a1⟩,bp⟩:=mV R.ok hE hq z;exact nomatch all a a0 a1 (lJ bp))]
  rw[this];exact⟨b,d,W,cur,dl,K,rfl⟩
 |a::O,n,S,b,d,W,cur,dl,K,R,hm,WZ,Xt,all=>by
  obtain⟨a0,a1⟩:=Xt a (OU ..);have za8:=Pw.mp WZ;have zdK:∀c∈O,0<=c/\c<(nt:Int):=λc hc=>Xt c (OS _ hc);rw[RE];by_cases hn:S.po (e a).1=S.po (e a).2
  .rw[K.pass hE a0 a1 hn];exact xu hE hW hc hq O n S b d W _ _ K R hm za8.2 zdK λc c0 c1 cn=>(OZ.mp (all c c0 c1 cn)).resolve_left λz=>cn (z▸hn)
  .have low:∀c,0<=c->c<(nt:Int)->S.po (e c).1≠S.po (e c).2->c=a\/w a<w c\/(w a=w c/\a<c):=λc c0 c1 cn=>(OZ.mp (all c c0 c1 cn)).imp id λm=>za8.1 c m;have hx:aO S ws≠[]:=λz=>by have:=K.want hE hc a0 a1 hn (K.VA (hE a a0 a1).1.1 (hE a a0 a1).1.2);rw[z]at this;exact nomatch this
   -- Wm zla itself,from any state in zk0 Wm first full tie is there
   have go:∀(n:Nat) (S:PS) (W:Int),Vl M e w nt S b d W cur dl->Run M e w nt ws S->ms M e w nt ws S<n->S.po (e a).1≠S.po (e a).2->aO S ws≠[]->(∀c,0<=c->c<(nt:Int)->S.po (e c).1≠S.po (e c).2->c=a\/c∈O)->(∃c,dF S e w (aI (aO S ws)) nt=Qs c)->∃b' d' W' Y9 Y8,Vl M e w nt (bQ e w nt ws n S) b' d' W' Y9 Y8/\O.foldl (dh e w f) (dh e w f ⟨eI S b cur,S.tk,gJ f S b d dl⟩ a)=⟨eI (bQ e w nt ws n S) b' Y9,(bQ e w nt ws n S).tk,gJ f (bQ e w nt ws n S) b' d' Y8⟩:=λn S W K R hm hn hx all ⟨c,hf⟩=>by
    obtain⟨rfl,hw⟩:=K.first hE hc a0 a1 hn (λc c0 c1 cn=>(all c c0 c1 cn).imp id λm=>za8.1 c m) hf;obtain⟨b1,d1,c1,l1,K1,e1⟩:=K.zi5 (f:=f) hE a0 a1 hn hw S.tk;rw[e1];obtain⟨R2,m2⟩:=R.step hE hq hx;have es:bU e w nt ws S=UQ S e c:=by unfold bU;rw[hf]
    rw[es]at R2 m2;cases n with
    |zero=>lia
    |succ n=>
     have:bQ e w nt ws (n+1) S=bQ e w nt ws n (UQ S e c):=by show(if aO S _=[] then S else bQ e w _ _ n _)=_;rw[Um hx,es]
     rw[this];refine xu hE hW hc hq O n _ _ _ W _ _ K1 R2 (by lia) za8.2 zdK λx x0 x1 xn=>?_;have po':∀v,(UQ S e c).po v=if v∈bY S e c then(S.n:Int) else S.po v:=λv=>rfl
     obtain⟨⟨p0,p1⟩,q0,q1⟩:=hE c a0 a1;obtain⟨⟨u0,u1⟩,v0,v1⟩:=hE x x0 x1;have mj:∀{v},0<=v->v<(M:Int)->(v∈bY S e c↔(S.po v=S.po (e c).1\/S.po v=S.po (e c).2)):=λ{v} v0 v1=>by rw[Yr,K.ok.cur _ p0 p1,K.ok.cur _ q0 q1];lia
     have xs:S.po (e x).1≠S.po (e x).2:=λz=>xn (by
      simp_all)
     rcases all x x0 x1 xs with z|z
     .simp_all
     .assumption
   have zfo:∀c,0<=c->c<(nt:Int)->S.po (e c).1≠S.po (e c).2->c=a\/c∈O:=λc c0 c1 cn=>OZ.mp (all c c0 c1 cn);cases hf:dF S e w (aI (aO S ws)) nt with
   |some c=>exact go n S W K R hm hn hx zfo ⟨c,hf⟩
   |none=>
    have hb:=mV R.ok hE hq hx;obtain⟨W',K'⟩:=K.grow (ws:=ws) hE hW hc a0 a1 hn;obtain⟨R2,m2⟩:=R.step hE hq hx;have es:bU e w nt ws S=WU S e w (aI (aO S ws)) nt:=by unfold bU;rw[hf];rfl
    rw[es]at R2 m2;cases n with
    |zero=>lia
    |succ n=>
     have:bQ e w nt ws (n+1) S=bQ e w nt ws n (WU S e w (aI (aO S ws)) nt):=by show(if aO S ws=[] then S else bQ e w nt ws n (bU e w nt ws S))=_;rw[Um hx,es]
     rw[this];refine go n _ W' K' R2 (by lia) hn hx zfo ?_;have:=Es (w:=w) hb;cases z:dF (WU S e w (aI (aO S ws)) nt) e w (aI (aO S ws)) nt with
     |none=>exact absurd z this
     |some c=>exact⟨c,z⟩
def Mi(hE:cB M e nt)(hM:0<M)(h9:M<=9)(hw:∀a,0<=a->a<(nt:Int)->0<=w a)(hW:∀x∈ws,(0<=x.1/\x.1<(M:Int))/\0<=x.2/\x.2<(M:Int))(hc:∀u v,0<=u->u<(M:Int)->0<=v->v<(M:Int)->Eqv ws u v)(hq:∀x∈ws,Eqv (ip e nt) x.1 x.2)
  {g:Int->Int->Int×Int} (hg:∀a b p,0<b->0<p->0<a->2*a=b*p->g a p=f b){O:Ql Int} (WZ:O.Pairwise (λa c=>w a<w c\/(w a=w c/\a<c))) (mem:∀a,a∈O↔0<=a/\a<(nt:Int)):∃L Mo,O.foldl (dh e w f) ⟨(ah M).map λp=>([p],0),[],[]⟩=⟨L,(bQ e w nt ws 200 (PS.new M)).tk,Mo⟩/\Vo Mo=Vo (((ah (bQ e w nt ws 200 (PS.new M)).n).filter λp=>decide (0<(bQ e w nt ws 200 (PS.new M)).wd p)).map λp=>((bQ e w nt ws 200 (PS.new M)).pt p,g ((bQ e w nt ws 200 (PS.new M)).wd p) (bQ e w nt ws 200 (PS.new M)).pa)):=by
 have r0:Run M e w nt ws (PS.new M):=Run.new hw;have m0:=(rY (e:=e) (w:=w) (nt:=nt) (ws:=ws) h9).1;obtain⟨b,d,W,cur,dl,K,eq⟩:=xu (f:=f) hE hW hc hq O 200 (PS.new M) _ _ _ _ _ (Vl.new hw) r0 (by lia) WZ (λa h=>(mem a).mp h) λa a0 a1 _=>(mem a).mpr ⟨a0,a1⟩;obtain⟨wn,_⟩:=qQ hE hq 200 (PS.new M) r0 (by lia);refine⟨_,_,eq,?_⟩;generalize bQ e w nt ws 200 (PS.new M)=E at K wn ⊢;have pa:=K.ok.X1
 -- one zlj is left
 have same:∀u v,0<=u->u<(M:Int)->0<=v->v<(M:Int)->E.po u=E.po v:=λu v u0 u1 v0 v1=> (((hc u v u0 u1 v0 v1).pred (p:=λz=>E.po z=E.po u) λx hx=>by rw[zdk.mp wn x hx]).mp rfl).symm
 have c0:cur=[E.po 0]:=by
  refine uN K.cS (Qe _ _) λp=>?_;rw[O1,K.cP];constructor
  .rintro⟨v,⟨v0,v1⟩,rfl⟩;exact same v 0 v0 v1 (by lia) (by lia)
  .rintro rfl;exact⟨0,⟨by lia,by lia⟩,rfl⟩
 have W0:=K.one _ c0;have wl0:E.wd (E.po 0)=0:=by have:=K.wc (E.po 0) (by simp_all);rw[W0,Int.sub_self]at this;lia
 have bd:∀p∈dl,(decide (b p<d p)=decide (0<E.wd p)):=λp hp=>by
  have:=K.wl p hp;refine decide_eq_decide.mpr ⟨λq=>?_,λq=>?_⟩
  .have:=Int.mul_pos (show 0<d p-b p by lia) pa;lia
  .apply PB;intro z;have:=Int.mul_nonneg (show 0<=b p-d p by lia) (QL pa);rw[Sw]at*
   lia
 have inj:∀p q,(0<=p/\p<(E.n:Int))->(0<=q/\q<(E.n:Int))->E.pt p=E.pt q->p=q:=λp q hp hq z=>K.ok.Zv p q hp.1 hp.2 hq.1 hq.2 z;let V:=(ah E.n).filter λp=>decide (0<E.wd p)
 have e1:gJ f E b d dl=(dl.filter λp=>decide (0<E.wd p)).map λp=>(E.pt p,g (E.wd p) E.pa):=by unfold gJ;rw[RO bd];refine Qd λp hp=>?_;obtain⟨h1,h2⟩:=Px.mp hp;have h2:=of_decide_eq_true h2;have h3:=of_decide_eq_true ((bd p h1).trans (UN h2));rw[hg (E.wd p) (d p-b p) E.pa (by lia) pa h2 (K.wl p h1)]
 have pm:(dl.filter λp=>decide (0<E.wd p)).Perm V:=by
  have nd:(ah E.n).Nodup:=rT E.n;refine(So (K.dN.filter _) (nd.filter _)).mpr λp=>?_;simp only[Px,VH];constructor
  .rintro⟨hp,h⟩;obtain⟨r,_⟩:=(K.dP p).mp hp;exact⟨hX r.1 r.2,h⟩
  .rintro⟨hp,h⟩;refine⟨(K.dP p).mpr ⟨cW hp,λz=>?_⟩,h⟩;rw[c0,O1]at z;subst z;lia
 rw[e1];refine zb3 (f:=Prod.fst) (((W2 _).trans (pm.map _)).trans (W2 _).symm) (λx hx y hy z=>?_) (zba _) (zba _);have hx:=(W2 _).mem_iff.mp hx;have hy:=(W2 _).mem_iff.mp hy;obtain⟨p,hp,rfl⟩:=Pj.mp hx;obtain⟨q,hq,rfl⟩:=Pj.mp hy;have:=inj p q ((K.dP p).mp (Px.mp hp).1).1 ((K.dP q).mp (Px.mp hq).1).1 z;rw[this]
end
theorem CS(s0 s1:Sl):∀(n a b:Nat),b<n->fF xc r6 n [s0,s1,.val (.int (a:Int)),.val (.int (b:Int))]=Qs (.nx [s0,s1,.val (.int (Rb a b:Int)),.val (.int 0)])
 |0,a,b,h=>by lia
 |n+1,a,b,h=>by
  have ec:xc [s0,s1,.val (.int (a:Int)),.val (.int (b:Int))]=Qs (decide ((0:Int)<(b:Int))):=oN (fa:=af 3) (fb:=dC (.int 0)) (a:=(b:Int)) (b:=0) rfl rfl;unfold fF;rw[ec];by_cases hb:b=0
  .subst hb;simp
  .rw[UN (by lia)];have eb:r6 [s0,s1,.val (.int a),.val (.int b)]=Qs (.nx [s0,s1,.val (.int b),.val (.int ((a % b:Nat)))]):=by
    unfold r6 iM;have:(ae (af 3) (ae (d2 qR (af 2) (af 3)) ao)) [s0,s1,.val (.int a),.val (.int b)]=Qs [.cl (.int b),.cl (.int ((a:Int).fmod b))]:=by simp[ae,ao,d2,af,kI,lI,Ev.d,hb]
    rw[this,EC a b (by lia)];rfl
   simp only[OY,if_true,eb];rw[CS _ _ n b _ (by have:=Nat.mod_lt a (show 0<b by lia);lia),Tc b,<-V0,Tc b]
def LM(s m:Nat)(h0:0<m)(h:m<DL.Ve):um [.int (s:Int),.int (m:Int)]=Qs (.cl (pD (fB (s:Int) (m:Int)))):=by
 have g0:0<Rb s m:=SD _ h0;have gs:sm (Rb s m)=Qt:=AB (PR (Ui _ h0) h);let A:Sl:=.val (.int s)
 let B:Sl:=.val (.int m)
 let t0:=[A,B,.no,.no]
 have c1:(ai oG (ae (af 0) ao)) t0=Qs _:=rfl;let t1:=[A,B,.val (.int s),.no]
 let t2:=[A,B,.val (.int s),.val (.int m)]
 let t3:=[A,B,.val (.int (Rb s m)),.val (.int 0)]
 have d1:=oX (fa:=af 0) (fb:=af 2) (t:=t3) rfl rfl (by lia) gs;have Zw:=oX (fa:=af 1) (fb:=af 2) (t:=t3) rfl rfl (by lia) gs;rw[EI]at d1 Zw;refine Ve ((aE (jw (i:=2) c1 (by simp[t0]))).trans ((aE (jw (i:=3) (rfl:af 1 t1=Qs (.cl (.int (m:Int)))) (by simp[t1]))).trans ((aE (CS A B (((m:Int).natAbs)+1) s m (by lia))).trans (jS ((eP (k:=dW) d1 Zw).trans rfl)))))
def LN(a0:0<=a)(b0:0<b)(h:b<(DL.Ve:Int)):um [.int a,.int b]=Qs (.cl (pD (fB a b))):=by obtain⟨A,rfl⟩:=PY a0;obtain⟨B,rfl⟩:=PY (QL b0);exact LM A B (by lia) (by lia)
def Nd{A B C E:Nat}(hB:0<B)(hE:0<E)(h:A*E=C*B):A/Rb A B=C/Rb C E/\B/Rb A B=E/Rb C E:=by
 have a1:A/Rb A B=A*E/Rb (A*E) (B*E):=by rw[RP,Rg _ _ hE]
 have a2:B/Rb A B=B*E/Rb (A*E) (B*E):=by rw[RP,Rg _ _ hE]
 have c1:C/Rb C E=C*B/Rb (C*B) (E*B):=by rw[RP,Rg _ _ hB]
 have c2:E/Rb C E=E*B/Rb (C*B) (E*B):=by rw[RP,Rg _ _ hB]
 rw[a1,a2,c1,c2,h,T9 B E];lia
def Nf(a0:0<=a)(b0:0<b)(c0:0<=c)(d0:0<d)(h:a*d=c*b):fB a b=fB c d:=by
 obtain⟨A,rfl⟩:=PY a0;obtain⟨B,rfl⟩:=PY (QL b0);obtain⟨C,rfl⟩:=PY c0;obtain⟨E,rfl⟩:=PY (QL d0);have k:=Nd (B:=B) (E:=E) (by lia) (by lia) (by exact_mod_cast h);unfold fB
 simp_all
def wL(wl:Ql Int)(n:Nat):Ql (Int×Int):=gB ((ah n).map λi=>(aV (aF wl i,i),i))
def j5(wl:Ql Int)(n:Nat):Ql Int:=(wL wl n).map (·.2)
theorem Dt:∀(l:Ql Int),(∀i∈l,(0<=i/\i<(wl.length:Int))/\i<1048576)->gN mF [iL wl] l=Qs (l.map λi=>(aF wl i,i))
 |[],_=>rfl
 |i::l,h=>by
  obtain⟨⟨i0,i1⟩,i2⟩:=h i (OU ..);have e:mF [.val (.int i),.val (iL wl)]=Qs (.cl (.tup [.int (aF wl i),.int i])):=by have:=iG (fa:=af 1) (fb:=af 0) (t:=[.val _,.val _]) _ i rfl rfl i0 i1 rfl rfl;exact(eP this rfl).trans rfl
  show(mF [.val _,.val _]).bind _=_;rw[e];show(if 0<=i/\i<1048576 then(gN _ _ l).map _ else Qn)=_;rw[T4 ⟨i0,i2⟩,(Dt l λx hx=>h x (OS _ hx))];rfl
theorem zQ(f:Int->Int):∀l:Ql Int,(l.map f).zip l=l.map λi=>(f i,i)
 |[]=>rfl
 |x::l=>by rw[Pa,Qc,zQ f l];rfl
def Hu(hf:f t=Qs (.cl (.int (n:Int))))(h1:t[1]?=Qs (.val (iL wl)))(hl:wl.length=n)(hn:n<64):mX [1] f mF t=Qs (.nw ((j5 wl n).map D.int)):=by
 unfold mX;rw[hf];have hc:dH t [1]=Qs (Qt,[iL wl]):=by unfold dH;rw[show dH t _=Qs _ from rfl];simp only[OY,h1]
 rw[hc];show(if 0<=(n:Int)/\(n:Int)<64 then(gN _ _ _).map _ else Qn)=_;rw[T4 ⟨by lia,by lia⟩,Dt _ λi hi=>by have:=cW hi;lia];show Qs (Ev.nw (((gB ((((ah n).map _).map _).zip (ah n))).map _).map _))=_;have:((((ah n).map λi=>(aF wl i,i)).map aV).zip (ah n))=(ah n).map λi=>(aV (aF wl i,i),i):=by rw[Pe];exact zQ _ _
 rw[this];rfl
def wK(h:p∈wL wl n):p.1=aV (aF wl p.2,p.2)/\0<=p.2/\p.2<(n:Int):=by have:=(l5 _).mem_iff.mp h;obtain⟨i,hi,rfl⟩:=Pj.mp this;exact⟨rfl,cW hi⟩
def BW(a:Int):a∈j5 wl n↔0<=a/\a<(n:Int):=by
 constructor
 .intro h;obtain⟨p,hp,rfl⟩:=Pj.mp h;exact(wK hp).2
 .intro h;exact Pj.mpr ⟨_,(l5 _).mem_iff.mpr (Pj.mpr ⟨a,hX h.1 h.2,rfl⟩),rfl⟩
def Kb(hn:n<64):(j5 wl n).Pairwise (λa c=>aF wl a<aF wl c\/(aF wl a=aF wl c/\a<c)):=by
 refine Qj.mpr (((uQ ((ah n).map λi=>(aV (aF wl i,i),i))).and (Qj.mp (by
  have:=by have:=(l5 ((ah n).map λi=>(aV (aF wl i,i),i))).map (·.2);rw[Pe,show((λp=>p.2) ∘ λi=>(aV _,i))=id from rfl,TL]at this;assumption
  exact this.nodup_iff.mpr (rT n)))).imp_of_mem λ{p q} hp hq h=>?_)
 obtain⟨e1,a0,a1⟩:=wK hp;obtain⟨e2,b0,b1⟩:=wK hq;obtain⟨h1,h2⟩:=h;have h1:p.1*1048576+p.2<=q.1*1048576+q.2:=h1;have e1:p.1=aF _ _*1048576+p.2:=e1;have e2:q.1=aF _ _*1048576+q.2:=e2;lia
def fI(L:Ql (Ql Int×Int)):D:=.lst (L.map λx=>bE x.1)
def cw(L:Ql (Ql Int×Int)):Ql Int:=L.map Prod.snd
def bB(L:Ql (Ql Int×Int))(k:Int):Ql Int×Int:=L.getD k.toNat ([],0)
def n6 (ha:fa t=Qs r1)(h1:r1.d=fI L)(hb:fb t=Qs (.cl (.int k)))(k0:0<=k)(k1:k<(L.length:Int)):(d2 av fa fb) t=Qs (if r1.ok then .cl (bE (bB L k).1) else .tm (bE (bB L k).1)):=by
 obtain⟨n,rfl⟩:=PY k0;rw[cu ha hb];unfold av;rw[h1];show(U2 _ _).map _=_;have e:U2 (L.map λx=>bE x.1) n=Qs (bE (bB L n).1):=by
  unfold L2.U2;rw[O0,sD _ n (by lia)];show(L.map _)[n]?=_;unfold bB
  simp_all
 rw[e];show Qs (if r1.ok||flat _ then Ev.cl _ else .tm _)=_;rw[show flat _=Qf from rfl,Bool.or_false]
def Cu{α:Type}(d:α)(p:α->Bool):∀(L:Ql α),((ah L.length).filter λk=>p (L.getD k.toNat d)).map (λk=>L.getD k.toNat d)=L.filter p:=by
 intro L;have:L=(ah L.length).map λk=>L.getD k.toNat d:=by
  unfold ah;rw[Pe];refine Rx (by simp) λi h1 h2=>?_
  simp_all
 conv=>rhs;rw[this]
 rw[Uw];rfl
def f2:Int->Int×Int:=λx=>fB x 2
def Fg(k0:0<=k)(k1:k<(L.length:Int)):(cw L).getD k.toNat 0=(bB L k).2:=by
 obtain⟨n,rfl⟩:=PY k0;unfold cw bB
 simp_all
section
variable {M:Nat}{L:Ql (Ql Int×Int)}{a:Int}
theorem xh(hl:wl.length=ts.length)(a0:0<=a)(a1:a<(ts.length:Int))(hc:∀x∈L,0<=x.2)(s0 s4 s7 s8 s9 V4:Sl):∀(bs:Ql Int) (Mo:Ql (Ql Int×(Int×Int))) (Wc:Sl),(∀k∈bs,0<=k/\k<(L.length:Int))->Mo.length+bs.length<90000->∃VL,bL (aP 10) td (bs.map D.int) [s0,.val (iL wl),.val (fI L),.own ((cw L).map D.int),s4,.own (Mo.map aZ),.val (.int a),s7,s8,s9,Wc,V4]=Qs (.nx [s0,.val (iL wl),.val (fI L),.own ((cw L).map D.int),s4,.own ((Mo++dU f2 (aF wl a) (bs.map (bB L))).map aZ),.val (.int a),s7,s8,s9,VL,V4])
 |[],Mo,Wc,_,_=>⟨Wc,by rw[show dU _ _ _=[] from rfl,PH];rfl⟩
 |k::bs,Mo,Wc,hb,hm=>by
  rw[PM]at hm;obtain⟨k0,k1⟩:=hb k (OU ..);let t1:Th:=[s0,.val (iL wl),.val (fI L),.own ((cw L).map D.int),s4,.own (Mo.map aZ),.val (.int a),s7,s8,s9,.val (.int k),V4]
  have lc:(cw L).length=L.length:=O0 _;have ew:(d2 av az dt) t1=Qs (.cl (.int (aF wl a))):=iG (fa:=af 1) (fb:=af 6) wl a rfl rfl a0 (by lia) rfl rfl;have ec:(d2 av bc (af 10)) t1=Qs (.cl (.int (bB L k).2)):=by have:=iG (fa:=af 3) (fb:=af 10) (t:=t1) _ k rfl rfl k0 (by lia) rfl rfl;rw[Fg k0 k1]at this;assumption
  have Xp:=oN ew ec;by_cases q:(bB L k).2<aF wl a
  .rw[UN q]at Xp;have e3:(ai dW (ae _ (ae (ai _ (ae _ (ae iy _))) _))) _=Qs _:=(eP (n6 (fa:=af 2) (fb:=af 10) (t:=t1) (r1:=.cl (fI L)) rfl rfl (rfl:af 10 t1=Qs (.cl (.int k))) k0 k1) (by
    rw[eP (uL ew ec) rfl];exact m8 (LN (by lia) (by simp) (by decide+kernel)) rfl)).trans rfl
   obtain⟨VL,e⟩:=xh hl a0 a1 hc s0 s4 s7 s8 s9 V4 _ (Mo++[((bB L k).1,f2 (aF wl a-(bB L k).2))]) (.val (.int k)) (λx hx=>hb x (OS _ hx)) (by rw[Pq,P8];lia);refine⟨VL,?_⟩;rw[Pa,Pa];refine(iK rfl ((iH Xp rfl).trans (zm t1 (i:=5) e3 rfl (by rw[O0];lia)))).trans ?_;rw[show dU _ _ _=((bB L k).1,f2 _)::dU _ _ (bs.map _) from by
    unfold dU;rw[QH,T4 (UN q)];rfl]
   rw[<-List.append_cons,Qg]at e;assumption
  .rw[VN q]at Xp;obtain⟨VL,e⟩:=xh hl a0 a1 hc s0 s4 s7 s8 s9 V4 _ Mo (.val (.int k)) (λx hx=>hb x (OS _ hx)) (by lia);refine⟨VL,?_⟩;rw[Pa,Pa];refine(iK rfl ((sH Xp rfl).trans rfl)).trans ?_;rw[show dU _ _ _=dU f2 (aF wl a) (bs.map (bB L)) from by
    unfold dU
    simp_all]
   assumption
structure Zc(n:Nat)(K:YI):Prop where
 Vw:K.L.length<=9
 sum:(K.L.map λx=>x.1.length).sum<=9
 low:∀x∈K.L,0<=x.2
 tl:K.T.length+n<=1000
 ml:K.Mo.length+2*n<=2000
theorem uK{α:Type}(f:α->Nat)(p:α->Bool):∀L:Ql α,((L.filter p).map f).sum+((L.filter λx=>!p x).map f).sum=(L.map f).sum
 |[]=>rfl
 |x::L=>by have ih:=uK f p L;cases h:p x<;>simp[QH,h]<;>lia
theorem Dg{α:Type}(p:α->Bool):∀L:Ql α,(L.filter p).length+(L.filter λx=>!p x).length=L.length
 |[]=>rfl
 |x::L=>by have ih:=Dg p L;cases h:p x<;>simp[QH,h]<;>lia
def Zc.step{K:YI}(h:Zc (n+1) K)(hw:0<=w a):Zc n (dh e w f K a):=by
 have tl:=h.tl;have ml:=h.ml;have same:Zc n K:=⟨h.Vw,h.sum,h.low,by lia,by lia⟩;unfold dh;split
 .rename_i x y q;have s1:=uK (λz:Ql Int×Int=>z.1.length) (V9 e a) K.L;have s2:=Dg (V9 e a) K.L;have s:=h.sum;have f':=h.Vw;rw[q]at s1 s2;simp only[Pa,Vz,Va,List.sum_nil,PM,Uy]at s1 s2;have sl:(dD (x.1++y.1)).length=x.1.length+y.1.length:=by rw[(iZ _).length_eq,Pq]
  refine⟨?_,?_,λz hz=>?_,?_,?_⟩
  .rw[Pq,P8];lia
  .grind
  .rcases OT.mp hz with m|m
   .exact h.low z (Px.mp m).1
   .rw[O1.mp m];assumption
  .rw[Pq,P8];lia
  .have:(dU f (w a) [x,y]).length<=2:=by unfold dU;rw[O0];exact Qy _ _
   rw[Pq];lia
 .assumption
end
def yB:DS:=(aB (eZ 2 (dG (di 2 (bK (aP 7) (bK (aP 8) eV))) (d2 av (d2 av ak cV) dt))) (aB yF (bZ (aH (d2 gh (ai bI (ae iu ao)) iy)) (aB (eZ 9 (gW 4 dt)) (aB (fD (aP 10) iu td) (aB yE (aB yD yC)))) dm)))
section
variable {M:Nat}{a:Int}
def Dh(h:f t=Qs r)(hr:r.d=fI L):(ai bI (ae f ao)) t=Qs (.cl (.int (L.length:Int))):=by rw[fG h];show(match r.d with|.lst _=>Qs _|.tup _=>Qs _|_=>Qn)=_;rw[hr];simp[fI]
def Fp(ha:fa t=Qs (.nw xs))(hb:fb t=Qs (.nw ys))(hl:xs.length+ys.length<=100000):(d2 cN fa fb) t=Qs (.nw (xs++ys)):=by rw[cu ha hb];show iF (.nw _) (.nw _)=_;unfold iF;simp only[Ev.d,Ev.ok,R8,TQ];rw[T4 (UN hl)]
def N7(ha:fa t=Qs (.cl (bE xs)))(hb:fb t=Qs (.cl (bE ys)))(hl:xs.length+ys.length<=100000):(d2 cN fa fb) t=Qs (.nw ((xs++ys).map D.int)):=by
 rw[cu ha hb,Qg];show iF (.cl (bE _)) (.cl (bE _))=_;unfold iF bE;simp only[Ev.d,Ev.ok,R8,TQ]
 simp_all
def GB(hw:Wt M ts)(hl:wl.length=ts.length){K:YI}(h:Zc (n+1) K)(a0:0<=a)(a1:a<(ts.length:Int))(s2 s7 s8 s9 Wc V4:Sl)(hs:oU s2=.val (fI K.L)):∃u2 u7 u8 u9 VL XC,oU u2=.val (fI (dh (aw ts) (aF wl) f2 K a).L)/\yB [.val (wD M ts),.val (iL wl),s2,.own ((cw K.L).map D.int),.own (K.T.map D.int),.own (K.Mo.map aZ),.val (.int a),s7,s8,s9,Wc,V4]=
   Qs (.nx [.val (wD M ts),.val (iL wl),u2,.own ((cw (dh (aw ts) (aF wl) f2 K a).L).map D.int),.own ((dh (aw ts) (aF wl) f2 K a).T.map D.int),.own ((dh (aw ts) (aF wl) f2 K a).Mo.map aZ),.val (.int a),u7,u8,u9,VL,XC]):=by
 let x:=(aw ts a).1
 let y:=(aw ts a).2
 let L:=K.L
 have Vw:L.length<=9:=h.Vw;let W:Sl:=.val (wD M ts)
 let U:Sl:=.val (iL wl)
 let C:Sl:=.own ((cw L).map D.int)
 let T:Sl:=.own (K.T.map D.int)
 let O:Sl:=.own (K.Mo.map aZ)
 let A:Sl:=.val (.int a)
 let P:Sl:=.val (fI L)
 let t1:Th:=[W,U,P,C,T,O,A,.val (.int x),.val (.int y),s9,Wc,V4]
 have E1:(eZ 2 (dG (di 2 (bK (aP 7) (bK (aP 8) eV))) (d2 av (d2 av ak cV) dt))) [W,U,s2,C,T,O,A,s7,s8,s9,Wc,V4]=Qs (.nx t1):=by show dG _ _ [W,U,oU _,C,T,O,A,s7,s8,s9,Wc,V4]=_;rw[hs];unfold dG;rw[ql (ux rfl) rfl rfl rfl a0 a1];rfl
 let p:Int->Bool:=λk=>V9 (aw ts) a (bB L k)
 let B:=(ah L.length).filter p
 have inB:∀k∈ah L.length,(decide (k∈B))=p k:=λk hk=>by
  grind
 have flB:B.map (bB L)=L.filter (V9 (aw ts) a):=Cu ([],0) (V9 (aw ts) a) L;have flN:((ah L.length).filter λk=>!p k).map (bB L)=L.filter λz=>!V9 (aw ts) a z:=Cu ([],0) (λz=>!V9 (aw ts) a z) L;let t2:Th:=[W,U,P,C,T,O,A,.val (.int x),.val (.int y),.own (B.map D.int),Wc,V4]
 have E2:yF t1=Qs (.nx t2):=by
  refine fE ?_ (by simp[t1]);refine yI (Dh rfl rfl) rfl rfl (by lia) (λk hk=>?_) (λk _ _=>⟨_,rfl,rfl⟩) (.inl (Vk _));have rk:=cW hk;let v:=[.val (.int k),.val (.int x),.val (.int y),P]
  have pk:=n6 (fa:=af 3) (fb:=af 0) (t:=v) rfl rfl rfl rk.1 rk.2;exact wM (y8 x _ rfl pk rfl rfl) (y8 y _ rfl pk rfl rfl)
 have Xp:=oV (fa:=(ai bI (ae iu ao))) (fb:=dC (.int 2)) (t:=t2) (b:=2) (oz (f:=af 9) (xs:=B) (t:=t2) rfl rfl) rfl;by_cases q:B.length=2
 .-- two pieces zlM one
  rw[UN (by lia)]at Xp;obtain⟨i,j,hB⟩:∃i j,B=[i,j]:=by
   match B,q with
   |[i,j],_=>lia
  have inR:∀k∈[i,j],0<=k/\k<L.length:=λk hk=>cW (Px.mp (show k∈(ah _).filter p by lia)).1;have ri:=inR i (by simp);have rj:=inR j (by simp);rw[hB]at flB;have fl2:L.filter _=[bB L i,bB L j]:=flB.symm;have sum:=h.sum;have s1:=uK (λz=>z.1.length) (V9 (aw ts) a) L;rw[fl2]at s1;have s1:((bB L i).1.length+((bB L j).1.length+0))+((L.filter _).map _).sum=(K.L.map _).sum:=s1;have eK:dh (aw ts) (aF wl) f2 K a=⟨L.filter (λz=>!V9 (aw ts) a z)++[(dD ((bB L i).1++(bB L j).1),aF wl a)],K.T++[a],K.Mo++dU f2 (aF wl a) [bB L i,bB L j]⟩:=by unfold dh;rw[fl2]
  rw[eK];have tl:=h.tl;have ml:=h.ml;let J:=dD ((bB L i).1++(bB L j).1)
  let Q:Sl:=.val (iL [i,j])
  let t4:Th:=[W,U,P,C,.own ((K.T++[a]).map D.int),O,A,.val (.int x),.val (.int y),Q,Wc,V4]
  have E4:(eZ 9 (gW 4 dt)) t2=Qs (.nx t4):=by show gW 4 _ [W,U,P,C,T,O,A,.val _,.val _,.val _,Wc,V4]=_;rw[hB];exact OD _ rfl rfl (by lia)
  obtain⟨VL,e5⟩:=xh (L:=L) hl a0 a1 h.low W (.own ((K.T++[a]).map D.int)) (.val (.int x)) (.val (.int y)) Q V4 [i,j] K.Mo Wc inR (by show K.Mo.length+2<90000;lia);let t5:Th:=[W,U,P,C,.own ((K.T++[a]).map D.int),.own ((K.Mo++dU f2 (aF wl a) [bB L i,bB L j]).map aZ),A,.val (.int x),.val (.int y),Q,VL,V4]
  have E5:(fD (aP 10) iu td) t4=Qs (.nx t5):=(sW (r:=.cl (iL [i,j])) rfl rfl rfl).trans e5;have k0:(d2 av iu bq) t5=Qs (.cl (.int i)):=iG (fa:=af 9) (fb:=dC (.int 0)) [i,j] 0 rfl rfl (by simp) (by simp) rfl rfl;have k1:(d2 av iu cV) t5=Qs (.cl (.int j)):=iG (fa:=af 9) (fb:=dC (.int 1)) [i,j] 1 rfl rfl (by simp) (by simp) rfl rfl;have p0:=n6 (fa:=af 2) (t:=t5) (r1:=.cl (fI L)) rfl rfl k0 ri.1 ri.2;have p1:=n6 (fa:=af 2) (t:=t5) (r1:=.cl (fI L)) rfl rfl k1 rj.1 rj.2;let t6:Th:=[W,U,P,C,.own ((K.T++[a]).map D.int),.own ((K.Mo++dU f2 (aF wl a) [bB L i,bB L j]).map aZ),A,.val (.int x),.val (.int y),Q,VL,.own (J.map D.int)]
  have E6:yE t5=Qs (.nx t6):=fE (i:=11) (lZ (N7 p0 p1 (by lia)) rfl (by rw[Pq];lia)) (by simp[t5]);let t6':Th:=[W,U,P,C,.own ((K.T++[a]).map D.int),.own ((K.Mo++dU f2 (aF wl a) [bB L i,bB L j]).map aZ),A,.val (.int x),.val (.int y),Q,VL,.val (bE J)]
  let L':=L.filter λz=>!V9 (aw ts) a z
  have pn:(ah L.length).filter (λk=>!decide (k∈[i,j]))=(ah L.length).filter λk=>!p k:=RO λk hk=>by rw[<-hB,inB k hk]
  have c7:(ba 1 [9,2] (cX (ai bI eO)) br (aH (d2 j9 ak az)) (d2 av aN ak)) t6'=Qs (.nw (L'.map λz=>bE z.1)):=by
   have:=yI (cap:=[9,2]) (t:=t6') (Dh (f:=af 2) rfl rfl) rfl rfl (by lia) (λk hk=>Cj (fa:=af 0) (fb:=af 1) k _ rfl rfl rfl rfl) (λk hk _=>⟨_,n6 (fa:=af 2) (fb:=af 0) rfl rfl rfl (cW hk).1 (cW hk).2,rfl⟩) (.inr rfl)
   rw[this,pn,show L'.map _=((((ah _).filter _).map _).map _) by rw[flN],Pe];rfl
  have ll:L'.length<=9:=PJ (Qy _ _) Vw;let t7:Th:=[W,U,.own ((L'++[(J,aF wl a)]).map λz=>bE z.1),C,.own ((K.T++[a]).map D.int),.own ((K.Mo++dU f2 (aF wl a) [bB L i,bB L j]).map aZ),A,.val (.int x),.val (.int y),Q,VL,.val (bE J)]
  have E7:yD t6=Qs (.nx t7):=by show aL 2 _ t6'=_;have:=Fp c7 (rfl:ai cT (ae (af 11) ao) _=Qs _) (by simp;lia);rw[(fE (i:=2) this (by simp[t6']))];show Qs _=Qs (Out.nx [W,U,.own _,C,_,_,A,_,_,Q,VL,_]);rw[Qg];rfl
  have ew:(d2 av az dt) t7=Qs (.cl (.int (aF wl a))):=iG (fa:=af 1) (fb:=af 6) wl a rfl rfl a0 (by lia) rfl rfl;have c8:(ba 1 [9,3] (cX (ai bI jE)) br (aH (d2 j9 ak az)) (d2 av aN ak)) t7=Qs (.nw ((cw L').map D.int)):=by
   have lc:(cw L).length=L.length:=O0 _;have le:=oz (f:=af 3) (t:=t7) rfl rfl;rw[lc]at le;have:=yI (cap:=[9,3]) le rfl rfl (by lia) (λk hk=>Cj (fa:=af 0) (fb:=af 1) k _ rfl rfl rfl rfl) (λk hk _=>⟨_,by
     have rk:=cW hk;have:=iG (fa:=af 2) (fb:=af 0) (t:=[.val _,Q,.val _]) (cw L) k rfl rfl rk.1 (by lia) rfl rfl;rw[Fg rk.1 rk.2]at this;assumption,rfl⟩) (.inl (by
     have:=Vk (((ah L.length).filter λk=>!decide (k∈[i,j])).map λk=>(bB L k).2);rw[Pe]at this;assumption))
   rw[this,pn,show(cw _).map _=((((ah _).filter _).map _).map _).map _ by rw[flN];rfl,Pe,Pe];rfl
  have E8:yC t7=Qs (.nx [W,U,.own ((L'++[(J,aF wl a)]).map λz=>bE z.1),.own ((cw (L'++[(J,aF wl a)])).map D.int),.own ((K.T++[a]).map D.int),.own ((K.Mo++dU f2 (aF wl a) [bB L i,bB L j]).map aZ),A,.val (.int x),.val (.int y),Q,VL,.val (bE J)]):=by have:=Fp c8 ((fG (k:=cT) ew).trans rfl) (by rw[O0,show(cw _).length=L'.length from O0 _];simp;lia);refine(fE (i:=3) this (by simp[t7])).trans ?_;rw[show(cw (L'++[(J,aF _ a)])).map _=(cw L').map D.int++[.int (aF wl a)] by unfold cw;simp];rfl
  exact⟨_,_,_,_,_,_,rfl,(aE E1).trans ((aE E2).trans ((iH Xp rfl).trans ((aE E4).trans ((aE E5).trans ((aE E6).trans ((aE E7).trans E8))))))⟩
 .rw[VN (by lia)]at Xp;have eK:dh (aw ts) (aF wl) f2 K a=K:=by
   have:(K.L.filter (V9 (aw ts) a)).length≠2:=λz=>q (by rw[<-O0 (f:=bB L),flB];exact z);unfold dh;split
   .rename_i u v w;rw[w]at this;exact absurd rfl this
   .rfl
  rw[eK];exact⟨_,_,_,_,_,_,rfl,(aE E1).trans ((aE E2).trans ((sH Xp rfl).trans rfl))⟩
end
section
variable {M:Nat}
theorem C4(hw:Wt M ts)(hl:wl.length=ts.length)(hx:∀x∈wl,0<=x)(s6:Sl):∀(O:Ql Int) (K:YI) (s2 s6 s7 s8 s9 Wc V4:Sl),Zc O.length K->(∀a∈O,0<=a/\a<(ts.length:Int))->oU s2=.val (fI K.L)->∃u2 u6 u7 u8 u9 VL XC,Zc 0 (O.foldl (dh (aw ts) (aF wl) f2) K)/\bL (aP 6) yB (O.map D.int) [.val (wD M ts),.val (iL wl),s2,.own ((cw K.L).map D.int),.own (K.T.map D.int),.own (K.Mo.map aZ),s6,s7,s8,s9,Wc,V4]=
   Qs (.nx [.val (wD M ts),.val (iL wl),u2,.own ((cw (O.foldl (dh (aw ts) (aF wl) f2) K).L).map D.int),.own ((O.foldl (dh (aw ts) (aF wl) f2) K).T.map D.int),.own ((O.foldl (dh (aw ts) (aF wl) f2) K).Mo.map aZ),u6,u7,u8,u9,VL,XC])
 |[],K,s2,s6,s7,s8,s9,Wc,V4,h,_,_=>⟨s2,s6,s7,s8,s9,Wc,V4,h,rfl⟩
 |a::O,K,s2,s6,s7,s8,s9,Wc,V4,h,hO,hs=>by obtain⟨a0,a1⟩:=hO a (OU ..);obtain⟨u2,u7,u8,u9,VL,XC,hs',e⟩:=GB hw hl h a0 a1 _ s7 s8 s9 Wc V4 hs;obtain⟨v2,v6,v7,v8,v9,v10,v11,k',e'⟩:=C4 hw hl hx s6 O _ _ (.val (.int a)) u7 u8 u9 VL XC (h.step (hx _ (zU hl a0 a1))) (λx hx=>hO x (OS _ hx)) hs';exact⟨v2,v6,v7,v8,v9,v10,v11,k',(iK rfl e).trans e'⟩
def cY(M:Nat)(ts:Ql (Int×Int))(wl:Ql Int):YI:=(j5 wl ts.length).foldl (dh (aw ts) (aF wl) f2) ⟨(ah M).map λp=>([p],0),[],[]⟩
theorem Ac:∀(l:Ql (Ql Int×(Int×Int))),(l.map Prod.fst).Nodup->iW (l.map λm=>(m.1,aZ m))=Qt
 |[],_=>rfl
 |x::l,nd=>by
  have nd':=O7.mp nd;rw[Pa];unfold iW;rw[O6];refine⟨P5.mpr λy hy=>?_,Ac l nd'.2⟩
  grind
theorem CF:∀(l:Ql (Ql Int×(Int×Int))),fL (l.map aZ)=Qs (l.map λm=>(m.1,aZ m))
 |[]=>rfl
 |x::l=>by rw[Pa];unfold fL;rw[show iC (aZ x)=Qs _ from xQ _,(CF l)];rfl
def HA(l:Ql (Ql Int×(Int×Int))):(Vo (l.map λm=>(m.1,aZ m))).map (·.2)=(Vo l).map aZ:=by
 let L:=l.map λm=>(m.1,m)
 have h1:=iY (λm=>aZ m) L;have h2:=iY (λm=>m.2) L;have e1:(L.map λw=>(w.1,aZ w.2))=l.map λm=>(m.1,aZ m):=by rw[Pe];rfl
 have e2:(L.map λw=>(w.1,w.2.2))=l:=by rw[Pe];exact TL _
 rw[e1]at h1;rw[e2]at h2;rw[h1,h2,Pe,Pe];refine Qd λw hw=>?_;have:=(W2 L).mem_iff.mp hw;obtain⟨p,_,rfl⟩:=Pj.mp this;rfl
def NB(hw:Wt M ts)(hM:M<=9)(hn:ts.length<64)(hl:wl.length=ts.length)(hx:∀x∈wl,0<=x)(nd:((cY M ts wl).Mo.map Prod.fst).Nodup)(Vw:(cY M ts wl).Mo.length<64)(ft:(cY M ts wl).T.length<64):pT [wD M ts,iL wl]=Qs (.cl (.tup [iL (dD (cY M ts wl).T),.lst ((Vo (cY M ts wl).Mo).map aZ)])):=by
 let K0:YI:=⟨(ah M).map λp=>([p],0),[],[]⟩
 let W:Sl:=.val (wD M ts)
 let U:Sl:=.val (iL wl)
 have nl:(ah M).length=M:=by unfold ah;simp
 let t0:=[W,U,.no,.no,.no,.no,.no,.no,.no,.no,.no,.no]
 have w0:∀t,t[0]?=Qs W->(d2 _ _ _) t=Qs _:=λt h=>z6 h;let t1:=[W,U,.dp (.lst ((ah M).map λp=>bE [p])),.no,.no,.no,.no,.no,.no,.no,.no,.no]
 have E1:aL 2 (gV 1 [] (cX (d2 av ak bq)) br bS (ai cT gY)) t0=Qs (.nx t1):=by refine pB ?_ (by simp[t0]);unfold gV;rw[vK (w0 _ rfl) (by lia)];show(if((ah M).map _).length<=50000 then(eN _ _ _ _ [.no]).map _ else Qn)=_;rw[T4 (by rw[O0];lia),tU _ _ λx _=>⟨_,rfl,rfl⟩];rfl
 let t2:Th:=[W,U,.dp (.lst ((ah M).map λp=>bE [p])),.own ((cw K0.L).map D.int),.no,.no,.no,.no,.no,.no,.no,.no]
 have E2:aL 3 (ba 1 [] (cX (d2 av ak bq)) br bS bq) t1=Qs (.nx t2):=by have:=NP (cap:=[]) (fe:=dC (.int 0)) (w0 t1 rfl) (by lia) rfl λx=>rfl;refine(fE (i:=3) this (by simp[t1])).trans ?_;show Qs (Out.nx [W,U,_,.own _,.no,.no,.no,.no,.no,.no,.no,.no])=Qs (Out.nx [W,U,_,.own _,.no,.no,.no,.no,.no,.no,.no,.no]);rw[show cw _=(ah M).map λ_=>0 by unfold cw;rw[Pe];rfl]
 let t4:Th:=[W,U,.dp (.lst ((ah M).map λp=>bE [p])),.own ((cw K0.L).map D.int),.own [],.own [],.no,.no,.no,.no,.no,.no]
 have E3:aL 4 (ai cT ao) t2=Qs (.nx [W,U,.dp (.lst ((ah M).map λp=>bE [p])),.own ((cw K0.L).map D.int),.own [],.no,.no,.no,.no,.no,.no,.no]):=rfl;have E4:aL 5 (ai cT ao) [W,U,.dp (.lst ((ah M).map λp=>bE [p])),.own ((cw K0.L).map D.int),.own [],.no,.no,.no,.no,.no,.no,.no]=Qs (.nx t4):=rfl;have el:(ai bI (ae (d2 av ak cV) ao)) t4=Qs (.cl (.int (ts.length:Int))):=by rw[fG (ux rfl)];unfold bI;simp[Ev.d]
 have lO:(j5 wl ts.length).length=ts.length:=by unfold j5 wL;rw[O0,(l5 _).length_eq];unfold ah;simp
 have k0:Zc (j5 wl ts.length).length K0:=by
  rw[lO];refine⟨by rw[O0,nl];assumption,?_,λx hx=>?_,by show 0+ts.length<=1000;lia,by show 0+2*ts.length<=2000;lia⟩
  .rw[Pe,show((λx=>x.1.length) ∘ λp=>([p],(0:Int)))=λ_=>1 from rfl,Uv,List.sum_replicate_nat];lia
  .obtain⟨p,_,rfl⟩:=Pj.mp hx;simp
 obtain⟨u2,u6,u7,u8,u9,VL,XC,_,e5⟩:=C4 hw hl hx .no (j5 wl ts.length) K0 (.dp (.lst ((ah M).map λp=>bE [p]))) .no .no .no .no .no .no k0 (λa ha=>(BW a).mp ha) (by
  unfold fI;rw[Pe];rfl)
 have E5:(fD (aP 6) (mX [1] (ai bI (ae (d2 av ak cV) ao)) mF) yB) t4=_:=(sW (Hu el rfl hl hn) rfl rfl).trans e5;have rt:eZ 5 (cU (ai dW (ae (ai gb iS) (ae (ai oB gX) ao)))) [W,U,u2,.own ((cw (cY M ts wl).L).map D.int),.own ((cY M ts wl).T.map D.int),.own ((cY M ts wl).Mo.map aZ),u6,u7,u8,u9,VL,XC]=Qs (.rt (.cl (.tup [iL (dD (cY M ts wl).T),.lst ((Vo (cY M ts wl).Mo).map aZ)]))):=by
  let t6:=[W,U,u2,.own ((cw (cY M ts wl).L).map D.int),.own ((cY M ts wl).T.map D.int),.val (.lst ((cY M ts wl).Mo.map aZ)),u6,u7,u8,u9,VL,XC]
  refine jS ?_;have s2:(ai oB gX) t6=Qs (.nw ((Vo (cY M ts wl).Mo).map aZ)):=by show((fL _).bind _)=_;rw[CF];simp only[OY];rw[Ac _ nd,T4 (by simpa using Vw)];rw[HA]
  exact(eP (lZ (f:=af 4) (t:=t6) (xs:=(cY M ts wl).T) rfl rfl ft) s2).trans rfl
 exact Ve ((aE E1).trans ((aE E2).trans ((aE E3).trans ((aE E4).trans ((aE E5).trans rt)))))
end
def Eqv.bind(h:∀x∈ws,Eqv es x.1 x.2)(k:Eqv ws u v):Eqv es u v:=by
 induction k with
 |refl u=>exact .refl u
 |Xy m=>exact h _ m
 |symm _ ih=>exact ih.symm
 |trans _ _ i1 i2=>exact i1.trans i2
theorem Cm(hE:cB M e nt)(hF:Xm e tk)(hr:∀a∈tk,0<=a/\a<(nt:Int))(hc:∀u v,0<=u->u<(M:Int)->0<=v->v<(M:Int)->Eqv ws u v):∀l:Ql Int,(∀a∈l,a∈tk)->l.foldl (eE e ws) tk=tk
 |[],_=>rfl
 |a::l,h=>by
  have ma:=h a (OU ..);obtain⟨⟨x0,x1⟩,y0,y1⟩:=hE a (hr a ma).1 (hr a ma).2;have no:iB e ws (tk.filter λx=>!decide (x=a))=Qf:=by
   cases q:iB e _ _ with
   |false=>rfl
   |true=>exact absurd ((hc _ _ x0 x1 y0 y1).bind ((K6 hE λb hb=>hr b (Px.mp hb).1).mp q)) (hF.2 a ma)
  rw[RE,show eE e _ _ a=tk by unfold eE;rw[no];rfl];exact Cm hE hF hr hc l λb hb=>h b (OS _ hb)
def DB(J:XS M ts wl ws)(hn:ts.length<64)(hc:∀u v,0<=u->u<(M:Int)->0<=v->v<(M:Int)->Eqv ws u v):kf M ts wl ws=dD (cY M ts wl).T/\kg M ts wl ws=Vo (cY M ts wl).Mo/\((cY M ts wl).Mo.map Prod.fst).Nodup/\(cY M ts wl).Mo.length<64/\(cY M ts wl).T.length<64:=by
 have hE:=nj J.Xo;have h0:∀a,0<=a->a<(ts.length:Int)->0<=aF wl a:=λa a0 a1=>(J.wt a a0 a1).1;have hP:∀x∈ws,(0<=x.1/\x.1<(M:Int))/\0<=x.2/\x.2<(M:Int):=J.X5;obtain⟨m1,m2⟩:=rY (M:=M) (e:=aw ts) (w:=aF wl) (nt:=ts.length) (ws:=ws) J.Vw.1;have r0:Run M (aw ts) (aF wl) ts.length ws (PS.new M):=Run.new h0;obtain⟨_,r⟩:=qQ hE J.all 200 _ r0 (by lia);have f:=Xm.run hE hP J.all 200 _ r0 (V1.new h0) (Xm.nil (aw ts));obtain⟨L,Mo,eq,sm⟩:=Mi (f:=f2) (g:=λa b=>fB a b) hE J.Xo.pos J.Vw.1 h0 hP hc J.all (λa b p b0 p0 a0 h=>Nf (by lia) p0 (by lia) (by simp) (by lia)) (Kb (wl:=wl) hn) BW;have eK:cY M ts wl=⟨L,(dY M ts wl ws).tk,Mo⟩:=eq;have eM:kg M ts wl ws=Vo Mo:=sm.symm;have rk:Run M (aw ts) (aF wl) ts.length ws (dY M ts wl ws):=r;have tl:(dY M ts wl ws).tk.length<=36:=by have:=rk.Vw;lia
 have nl:(dY M ts wl ws).n<=45:=by have:=rk.ok.nM;have:=J.Vw.1;lia
 let V:=wide (dY M ts wl ws)
 have pV:(kg M ts wl ws).Perm (V.map λp=>((dY M ts wl ws).pt p,fB ((dY M ts wl ws).wd p) (dY M ts wl ws).pa)):=W2 _;have pM:Mo.Perm (V.map λp=>((dY M ts wl ws).pt p,fB ((dY M ts wl ws).wd p) (dY M ts wl ws).pa)):=by have:=(W2 Mo).symm;rw[<-eM]at this;exact this.trans pV
 have jf:∀p∈V,0<=p/\p<((dY M ts wl ws).n:Int):=λp hp=>cW (Px.mp hp).1;rw[eK];refine⟨?_,eM,?_,?_,by lia⟩
 .show dD _=_;have f':Xm _ (dY M _ _ _).tk:=f;rw[Cm hE f' rk.ok.YN hc _ λa ha=>Sb.mp ha]
 .have:((V.map λp=>((dY M ts wl ws).pt p,fB ((dY M ts wl ws).wd p) (dY M ts wl ws).pa)).map Prod.fst).Nodup:=by rw[Pe];refine Qj.mpr (((rT _).filter _).imp_of_mem λ{p q} hp hq h z=>h ?_);exact rk.ok.Zv p q (jf p hp).1 (jf p hp).2 (jf q hq).1 (jf q hq).2 z
  exact((pM.map _).nodup_iff).mpr this
 .rw[pM.length_eq,O0];have:V.length<=(ah _).length:=Qy _ _;rw[show(ah _).length=(dY M ts wl ws).n by unfold ah;simp]at this;lia
def HF (ha:fa t=Qs r)(hb:fb t=Qs (.cl (.int (n:Int))))(hr:r.d=.lst (ts.map pD)):(tx fb fa) t=Qs (.nw ((ts.drop n).map pD)):=by unfold tx;rw[ha,hb];simp only[OY,hr];show(if(r.ok||UD _)=Qt then Qs _ else Qn)=_;rw[mU,T4 (by simp),HT.zdI,O0,<-List.map_drop];simp
theorem C3{M:Nat}:∀(ps:Ql Int) (ws:Ql Eg) (w:Int×Int),V7 w->(∀x∈ps,0<x/\x<(M:Int))->M<=1000->ws.length+ps.length<=1000->jA M ws->∃(Wb:Ql Eg) (w':Int×Int),V7 w'/\Wb.length<=ws.length+ps.length/\jA M Wb/\((∀x∈ws,x∈Wb)/\∀x∈ps,∃q,(0<=q/\q<x)/\(q,x)∈Wb)/\∀(p:XW) (s1 s3 s4 s5:Sl),∃u3 u4 u5,eW jF (ze p) (ps.map D.int) [.val (.adr p),s1,.own (ws.map pD),s3,s4,s5] w=Qs (.nx [.val (.adr p),s1,.own (Wb.map pD),u3,u4,u5] w')
 |[],ws,w,ok,_,_,_,hi=>⟨ws,w,ok,by simp,hi,⟨λx h=>h,λx h=>nomatch h⟩,λp s1 s3 s4 s5=>⟨s3,s4,s5,rfl⟩⟩
 |x::ps,ws,w,ok,hp,hM,hl,hi=>by
  rw[PM]at hl;obtain⟨x0,x1⟩:=hp x (OU ..);obtain⟨q,w1,q0,q1,o1,e1⟩:=jJ ok (m:=x) x0 (Wq (by lia) (by lia));obtain⟨k,w2,k0,k1,o2,e2⟩:=jJ o1 (m:=(ws.length:Int)+1) (by lia) (Wq (by lia) (by lia));obtain⟨n,rfl⟩:=PY k0;let ZJ:=ws.take n++[(q,x)]++ws.drop n
  have mw:∀y,y∈ZJ↔y∈ws\/y=(q,x):=λy=>by
   show y∈ws.take n++[(q,x)]++ws.drop n↔_;have:=PF n ws;constructor
   .grind
   .rintro(h|rfl)
    .grind
    .simp
  have l1:ZJ.length=ws.length+1:=by rw[Pq,Pq,Q0,Rw,P8];lia
  obtain⟨Wb,w',o',l',i',⟨YS,Zg⟩,run⟩:=C3 ps ZJ w2 o2 (λy hy=>hp y (OS _ hy)) hM (by lia) (λy hy=>by
   rcases(mw y).mp hy with h|rfl
   .exact hi y h
   .lia)
  refine⟨Wb,w',o',by rw[PM];lia,i',⟨λy hy=>YS y ((mw y).mpr (.inl hy)),λy hy=>?_⟩,λp s1 s3 s4 s5=>?_⟩
  .rcases OZ.mp hy with rfl|hy
   .exact⟨q,⟨q0,q1⟩,YS _ ((mw _).mpr (.inr rfl))⟩
   .exact Zg y hy
  .obtain⟨u3,u4,u5,e⟩:=run p s1 (.val (.int x)) (.val (pD (q,x))) (.val (.int n));refine⟨u3,u4,u5,?_⟩;let t1:=[.val (.adr p),s1,.own (ws.map pD),.val (.int x),s4,s5]
   let t2:=[.val (.adr p),s1,.own (ws.map pD),.val (.int x),.val (pD (q,x)),s5]
   let t3:=[.val (.adr p),s1,.own (ws.map pD),.val (.int x),.val (pD (q,x)),.val (.int n)]
   have E3:=fE (i:=2) (Fm (Fm (ys:=[(q,x)]) (HC (fa:=af 2) (fb:=af 5) (t:=t3) (r:=.tm (.lst (ws.map pD))) (ts:=ws) (n:=n) rfl rfl rfl) (rfl:ai cT iS t3=Qs (.nw [pD (q,x)])) (by rw[Q0,P8];lia)) (HF (fa:=af 2) (fb:=af 5) (t:=t3) (r:=.tm (.lst (ws.map pD))) (ts:=ws) (n:=n) rfl rfl rfl) (by rw[Pq,Q0,Rw,P8];lia)) (by simp[t3]);exact(sX rfl ((cH (l7 (ρ:=aj) (i:=4) (d:=pD (q,x)) (Nz (ρ:=aj) (jz (ρ:=aj) (jl (i:=0) (t:=t1) (p:=p) rfl (rfl:af 3 t1=Qs (.cl (.int x))) e1) (jz (ρ:=aj) (dZ rfl) (pH (ρ:=aj)))) rfl) (by simp[t1]))).trans ((cH (l7 (ρ:=aj) (i:=5) (jl (i:=0) (t:=t2) (p:=p) rfl (by
    refine ni ?_ rfl;rw[fG rfl];unfold bI;simp[Ev.d]) e2) (by simp[t2]))).trans (gC E3)))).trans e
def Gg(ok:V7 w)(pos:0<M)(hM:M<=9):∃(ws:Ql Eg) (w':Int×Int),V7 w'/\ws.length<=1000/\jA M ws/\(∀u v,0<=u->u<(M:Int)->0<=v->v<(M:Int)->Eqv ws u v)/\ui w [.int (M:Int)]=Qs (.nw (ws.map pD),w'):=by
 let ps:=(P0 ((M:Int)-1).toNat).map λ(i:Nat)=>1+(i:Int)
 have lp:ps.length<=9:=by rw[O0,RM];lia
 obtain⟨ws,w',o',l',i',⟨_,s2⟩,run⟩:=C3 (M:=M) ps [] w ok (λx hx=>by
  obtain⟨i,hi,rfl⟩:=Pj.mp hx;have:=Qq.mp hi;lia) (by lia) (by simp;lia) (λx h=>nomatch h)
 have zero:∀n v,v.toNat<=n->0<=v->v<(M:Int)->Eqv ws 0 v:=by
  intro n
  induction n with
  |zero=>intro v h v0 _;rw[show v=0 by lia];exact .refl 0
  |succ n ih=>
   intro v h v0 v1;by_cases z:v=0
   .rw[z];exact .refl 0
   .obtain⟨q,⟨q0,q1⟩,m⟩:=s2 v (Pj.mpr ⟨(v-1).toNat,Qq.mpr (by lia),by lia⟩);exact(ih q (by lia) q0 (by lia)).trans (.Xy m)
 refine⟨ws,w',o',by rw[Uy]at l';lia,i',λu v u0 u1 v0 v1=>(zero _ u (O5 _) u0 u1).symm.trans (zero _ v (O5 _) v0 v1),j6 rfl λp=>?_⟩;obtain⟨u3,u4,u5,e⟩:=run p (.val (.int M)) .no .no .no;let t1:Th:=[.val (.adr p),.val (.int M),.own [],.no,.no,.no]
 have rg:mS cV az t1=Qs (Qt,ps.map D.int):=by show(if eG _&&eG 1 then Qs _ else Qn)=_;rw[T4 (by unfold eG;rw[UN (by lia)];rfl)];rw[Pe];rfl
 exact(cH (gC rfl)).trans ((cH ((vI (ρ:=aj) (k:=aP 3) (b:=ze p) (sI (ρ:=aj) (w:=w) rg)).trans e)).trans (AL rfl))
theorem sY(n:Nat):∀xs ys:Ql Int,(((xs.map D.int).zip (ys.map D.int)).all λp=>bC n p.1 p.2)=Qt
 |[],_=>rfl
 |_::_,[]=>rfl
 |x::xs,y::ys=>by rw[Pa,Pa,Qc,QA,sY n _ _];cases n<;>rfl
def N8(h:G (rs.map Ev.d)=Qs (.cl d))(ho:rs.all Ev.ok=Qt):aX G rs=Qs (.cl d):=by unfold aX;rw[h,ho];rfl
def JD(T:Ql Int)(ms:Ql (Ql Int×(Int×Int))):D:=.tup [iL T,.lst (ms.map aZ)]
def Lv(n:Nat)(x:Ql Int×(Int×Int)):bC (n+2) (aZ x) (aZ x)=Qt:=by
 show(([bE _,pD _].zip _).all λp=>bC _ _ _)=Qt;simp;refine⟨?_,?_⟩
 .exact sY n _ _
 .exact sY n [x.2.1,x.2.2] [x.2.1,x.2.2]
theorem yt:∀L:Ql D,(∀d∈L,bC n d d=Qt)->((L.zip L).all λp=>bC n p.1 p.2)=Qt
 |[],_=>rfl
 |d::L,h=>by rw[Qc,QA,O6];exact⟨h d (OU ..),yt L λx hx=>h x (OS _ hx)⟩
def FP(n:Nat)(T:Ql Int)(ms:Ql (Ql Int×(Int×Int))):bC (n+4) (JD T ms) (JD T ms)=Qt:=by
 show(([iL T,D.lst (ms.map aZ)].zip [iL T,D.lst (ms.map aZ)]).all λp=>bC (n+3) p.1 p.2)=Qt;refine yt _ λd hd=>?_;simp only[OZ,R9,or_false]at hd;rcases hd with z|z
 .rw[z];exact sY _ T T
 .rw[z];refine yt _ λd hd=>?_;obtain⟨x,_,rfl⟩:=Pj.mp hd;exact Lv n x
def Co(ha:fa t=Qs r1)(hb:fb t=Qs r2)(h1:r1.d=d)(h2:r2.d=d)(ok:bC 6 d d=Qt):aH (d2 eU fa fb) t=Qs Qf:=by unfold aH;rw[cu ha hb];unfold eU;rw[h1,h2,T4 ok,YG.mpr rfl];rfl
theorem EY:∀(ts:Ql (Int×Int)) (w:Int×Int),V7 w->∃(ws:Ql Int) (w':Int×Int),V7 w'/\ws.length=ts.length/\(∀x∈ws,0<=x/\x<=1000000000000)/\∀(p:XW) (s:Sl),e8 (ρ:=aj) br qo (eX p pS (bO jD Wg)) (ts.map pD) [s,.val (.adr p)] w=Qs (ws.map D.int,w')
 |[],w,ok=>⟨[],w,ok,rfl,λf hf=>(by cases hf),λp s=>rfl⟩
 |x::xs,w,ok=>by
  obtain⟨a,w1,a0,a1,o1,e1⟩:=Gi ok;obtain⟨fs,w',o',l',h',run⟩:=EY xs w1 o1;refine⟨a::fs,w',o',by rw[PM,PM,l'],λf hf=>?_,λp s=>?_⟩
  .rcases OZ.mp hf with z|z
   .rw[z];exact⟨a0,a1⟩
   .exact h' f z
  .let t:Th:=[.val (pD x),.val (.adr p)]
   exact NN (ys:=(fs.map _,w')) rfl rfl (sZ (ρ:=aj) (rs:=[]) (jz (ρ:=aj) (dZ (rfl:af 1 t=Qs (.cl (.adr p)))) (pH (ρ:=aj))) e1) (run p _)
def DC(J:XS M ts wl ws){ms:Ql (Ql Int×(Int×Int))}(hT:kf M ts wl ws=T)(hm:kg M ts wl ws=ms)(h1:r1.d=wD M ts)(h2:r2.d=iL wl)(h3:r3.d=.lst (ws.map pD)):aX (lN C) [r1,r2,r3]=Qs (.dn (JD T ms)):=by unfold aX;rw[Pa,Pa,Pa,Vz,h1,h2,h3,MA J];subst hT;subst hm;unfold iV;split<;>rfl
def GH{x:Int×Int}(h:x∈ts):x∈ip (aw ts) ts.length:=by
 obtain⟨i,hi,e⟩:=Tw h;refine Pj.mpr ⟨i,hX (by lia) (by lia),?_⟩;show ts.getD _ _=x
 simp_all
def LV{M:Nat}(h:∀a,0<=a->a+1<(M:Int)->(a,a+1)∈ts)(u0:0<=u)(u1:u<(M:Int))(v0:0<=v)(v1:v<(M:Int)):Eqv (ip (aw ts) ts.length) u v:=by
 have up:∀n:Nat,(n:Int)<M->Eqv _ 0 n:=λn=>by
  induction n with
  |zero=>intro _;exact .refl _
  |succ n ih=>intro hn;have:=h n (by lia) (by assumption);exact(ih (by lia)).trans (.Xy (GH this))
 have eu:=up u.toNat (by lia);have ev:=up v.toNat (by lia);rw[PV u0]at eu;rw[PV v0]at ev;exact eu.symm.trans ev
def Np(ms:Ql (Ql Int×(Int×Int))):(ms.map aZ).all sG=Qt:=by rw[P5];intro d hd;obtain⟨x,_,rfl⟩:=Pj.mp hd;rfl
noncomputable def Ow(C:XW):DS:=(aB (aL 2 (ai (aX uk) kJ)) (mZ 2 λp=>ph C p))
def Oq(po:V7 (c,n))(N K s3 s4 s5 s6 s7 s8 s9:Sl):∃(u3 u4 u5 u6 u7 u8 u9:Sl),∀p:XW,(ph C p [N,K,.val (.adr p),s3,s4,s5,s6,s7,s8,s9] (c,n)).map (qu 2)=Qs (.nx [N,K,.no,u3,u4,u5,u6,u7,u8,u9]):=by
 obtain⟨M,ts,w1,⟨hw,ln⟩,mM,lts,o1,ew⟩:=Gj po (m:=8) (by simp) (by simp);have hM:M<=9:=by lia
 have ht:ts.length<=36:=PJ lts (Nn M hM);obtain⟨wl,w2,o2,lwl,ZW,zb0⟩:=EY ts w1 o1;obtain⟨ws,w3,o3,lws,X5,hc,e3⟩:=Gg o2 (M:=M) hw.pos hM;have big:((10^20:Nat):Int)=100000000000000000000:=by rfl
 have J:XS M ts wl ws:=⟨hw,⟨hM,by lia,lws⟩,lwl,λx hx=>by have:=ZW x hx;lia,X5,λx hx=>by
  have:=X5 x hx;exact LV ln this.1.1 this.1.2 this.2.1 this.2.2⟩
 have J2:XS M ts wl ws.reverse:=⟨hw,⟨hM,by lia,by rw[Tp];assumption⟩,lwl,J.zbJ,λx hx=>X5 x (Sb.mp hx),λx hx=>J.all x (Sb.mp hx)⟩;obtain⟨eT,eM,nd,Vw,ft⟩:=DB J (by lia) hc;obtain⟨eT2,eM2,_,_,_⟩:=DB J2 (by lia) λu v u0 u1 v0 v1=>(hc u v u0 u1 v0 v1).mono λe he=>Sb.mpr he;have due:=NB hw hM (by lia) lwl (λx hx=>(ZW x hx).1) nd Vw ft;have lT:(dD (cY M ts wl).T).length<64:=by rw[(iZ _).length_eq];assumption
 obtain⟨T,hT⟩:∃T,dD (cY M ts wl).T=T:=⟨_,rfl⟩;obtain⟨ms,hm⟩:∃ms,Vo (cY M ts wl).Mo=ms:=⟨_,rfl⟩;rw[hT]at eT eT2 due lT;rw[hm]at eM eM2 due;let d:D:=JD T ms
 let W:Sl:=.val (wD M ts)
 let A:Sl:=.val (iL wl)
 let V:Sl:=.own (ws.map pD)
 let da:D:=.tup [iL T,.lst ((ms.map aZ).map il)]
 let db:D:=.tup [iL T,.lst []]
 let dc:D:=.tup [.lst (T.map D.int++[.int 7]),.lst []]
 refine⟨W,A,V,.val d,.dp dc,.no,.no,λp=>?_⟩;let P:Sl:=.val (.adr p)
 let t0:Th:=[N,K,P,s3,s4,s5,s6,s7,s8,s9]
 have F0:=l7 (ρ:=aj) (i:=3) (t:=t0) (w:=(c,n)) (sZ (ρ:=aj) (p:=p) (G:=uj) (rs:=[.cl (.int 8)]) (jz (ρ:=aj) (dZ (rfl:af 2 t0=Qs (.cl (.adr p)))) (jz (ρ:=aj) (dZ (rfl:dC (.int 8) t0=Qs (.cl (.int 8)))) (pH (ρ:=aj)))) ew) (by simp[t0]);let t1:Th:=[N,K,P,W,s4,s5,s6,s7,s8,s9]
 have fl:dX (d2 av bc cV) t1=Qs (Qt,ts.map pD):=by rfl
 have F1:=AM (ρ:=aj) (i:=4) (NA (ρ:=aj) (n:=1) (cap:=[2]) (k:=aP 0) (ft:=qo) (fe:=eX p pS (bO jD Wg)) (t:=t1) (c:=Qt) (cs:=[.adr p]) (sI (ρ:=aj) (w:=w1) fl) rfl (by rw[O0];lia) (zb0 p .no) (Vk wl)) (by simp[t1]);let t2:Th:=[N,K,P,W,.own (wl.map D.int),s5,s6,s7,s8,s9]
 have F2:=AM (ρ:=aj) (i:=5) (t:=t2) (w:=w2) (w1:=w3) (xs:=ws.map pD) (sZ (ρ:=aj) (p:=p) (G:=ui) (rs:=[.cl (.int (M:Int))]) (jz (ρ:=aj) (dZ (rfl:af 2 t2=Qs (.cl (.adr p)))) (jz (ρ:=aj) (dZ (z6 (i:=3) (t:=t2) rfl)) (pH (ρ:=aj)))) e3) (by simp[t2]);let t3:Th:=[N,K,P,W,.own (wl.map D.int),V,s6,s7,s8,s9]
 let t4:Th:=[N,K,P,W,A,V,s6,s7,s8,s9]
 have F3:(eZ 4 (aL 6 (ai (aX pT) (ae bc iS)))) t3=Qs (.nx [N,K,P,W,A,V,.val d,s7,s8,s9]):=by exact jw (t:=t4) ((eP (rfl:af 3 t4=Qs _) (rfl:af 4 t4=Qs _)).trans (N8 due rfl)) (by simp[t4])
 let t5:Th:=[N,K,P,W,A,V,.val d,s7,s8,s9]
 have F4:=pB (i:=7) (f:=(ai (aX (lN C)) (ae bc (ae bP gX)))) (t:=t5) ((nJ (rfl:af 3 t5=Qs (.cl (wD M ts))) (rfl:af 4 t5=Qs (.cl (iL wl))) (rfl:af 5 t5=Qs (.tm (.lst (ws.map pD))))).trans (DC J eT eM rfl rfl rfl)) (by simp[t5]);let t6:Th:=[N,K,P,W,A,V,.val d,.dp d,s8,s9]
 have F5:A6 t6=Qs (.nx t6):=by
  exact ig (wM rfl (wM (Co (t:=t6) (d:=d) (rfl:af 7 t6=Qs (.tm d)) (rfl:af 6 t6=Qs (.cl d)) rfl rfl (FP 2 _ _)) (by
   unfold aH;rw[cu (by
   unfold ba;have e1:dX (d2 av (af 7) bq) t6=Qs _:=rfl;show(if(T.map _).length<=50000 then(bH _ _ _ _ [.no]).bind _ else Qn)=_;rw[T4 (by rw[O0];lia),(EZ (ext:=[]) (λ_ _=>rfl) (λ_=>rfl) T .no)];rfl) rfl]
   rfl))) rfl
 have F6:tQ 7 8 9 t6=Qs (.nx [N,K,P,W,A,V,.val d,.dp da,.no,.no]):=by show(if(ms.map _).all _&&decide _ then _ else Qn)=_;rw[Np];rfl
 have F7:tO 7 [cV] [N,K,P,W,A,V,.val d,.dp da,.no,.no]=Qs (.nx [N,K,P,W,A,V,.val d,.dp db,.no,.no]):=rfl;have F8:tS 7 bq (dC (.int 7)) [N,K,P,W,A,V,.val d,.dp db,.no,.no]=Qs (.nx [N,K,P,W,A,V,.val d,.dp dc,.no,.no]):=by show(if(T.map _).length<100000 then _ else Qn)=_;rw[T4 (by rw[O0];lia)];rfl
 let t7:Th:=[N,K,P,W,A,V,.val d,.dp dc,.no,.no]
 have F9:AZ C t7=Qs (.nx t7):=by
  have rv:(d1 jd cK) t7=Qs (.nw (ws.map pD).reverse):=by show(if(_||UD _)=Qt then _ else Qn)=_;rw[mU];rfl
  have c2:=(nJ (k:=aX (lN C)) (rfl:af 3 t7=Qs (.cl (wD M ts))) (rfl:af 4 t7=Qs (.cl (iL wl))) rv).trans (DC J2 eT2 eM2 rfl rfl (by rw[Uj];rfl));exact ig (Co (d:=d) c2 (rfl:af 6 t7=Qs (.cl d)) rfl rfl (FP 2 _ _)) rfl
 have run:ph C p t0 (c,n)=Qs (.nx t7 w3):= (cH (ρ:=aj) F0).trans ((cH (ρ:=aj) F1).trans ((cH (ρ:=aj) F2).trans ((cH (ρ:=aj) (gC (ρ:=aj) F3)).trans ((cH (ρ:=aj) (gC (ρ:=aj) F4)).trans ((cH (ρ:=aj) (gC (ρ:=aj) F5)).trans ((cH (ρ:=aj) (gC (ρ:=aj) F6)).trans ((cH (ρ:=aj) (gC (ρ:=aj) F7)).trans ((cH (ρ:=aj) (gC (ρ:=aj) F8)).trans (gC (ρ:=aj) F9)))))))))
 show(ph C p t0 (c,n)).map (qu 2)=_;rw[run];rfl
theorem CY(ns:Ql Int)(hl:ns.length<=63):∀(ks:Ql Nat) (s1 s2 s3 s4 s5 s6 s7 s8 s9:Sl),(∀k∈ks,k<=100)->∃(u1 u2 u3 u4 u5 u6 u7 u8 u9:Sl),bL uu (Ow C) (ks.map λ(k:Nat)=>D.int (k:Int)) [.val (.lst (ns.map D.int)),s1,s2,s3,s4,s5,s6,s7,s8,s9]=Qs (.nx [.val (.lst (ns.map D.int)),u1,u2,u3,u4,u5,u6,u7,u8,u9])
 |[],s1,s2,s3,s4,s5,s6,s7,s8,s9,_=>⟨s1,s2,s3,s4,s5,s6,s7,s8,s9,rfl⟩
 |k::ks,s1,s2,s3,s4,s5,s6,s7,s8,s9,hk=>by
  let N:Sl:=.val (.lst (ns.map D.int))
  let K:Sl:=.val (.int k)
  obtain⟨c,n,po,ep⟩:=JC _ hl (hk k (OU ..));obtain⟨v3,v4,v5,v6,v7,v8,v9,run⟩:=Oq (C:=C) po N K s3 s4 s5 s6 s7 s8 s9;obtain⟨u1,u2,u3,u4,u5,u6,u7,u8,u9,e⟩:=CY ns hl ks K .no v3 v4 v5 v6 v7 v8 v9 (λk hk'=>hk k (OS _ hk'));refine⟨u1,u2,u3,u4,u5,u6,u7,u8,u9,?_⟩;let t0:=[N,K,s2,s3,s4,s5,s6,s7,s8,s9]
  exact(iK rfl ((aE (fE (i:=2) (t:=t0) ((eP (rfl:af 0 t0=Qs (.cl (.lst (ns.map D.int)))) (rfl:af 1 t0=Qs (.cl (.int (k:Int))))).trans (t8 (xs:=[c,n]) ep)) (by simp[t0]))).trans (MN (c:=c) (n:=n) rfl run))).trans e
def L4(C:XW)(ns:Ql Int)(hl:ns.length<=63)(hb:∀n∈ns,n.natAbs<y9):FT C [.lst (ns.map D.int)]=Qs (.cl (.bl Qt)):=by
 let N:Sl:=.val (.lst (ns.map D.int))
 let t2:=[N,.no,.no,.no,.no,.no,.no,.no,.no,.no]
 obtain⟨m,m1,em⟩:∃m:Nat,m<=10/\(ai _ _) _=Qs (.cl (.int m)):=by
  have l0:=oz (f:=af 0) (t:=t2) rfl rfl;have m1:(ai (ke λi j=>if j<i then j else i) _) _=Qs (.cl (.int (if(10:Int)<ns.length then 10 else ns.length))):=(eP l0 (rfl:dC (.int _) _=Qs _)).trans rfl;obtain⟨q,q0,q1,eq⟩:∃q:Int,0<=q/\q<=10/\(if 10<(ns.length:Int) then 10 else(ns.length:Int))=q:=⟨_,by lia,by lia,rfl⟩;rw[eq]at m1;have m2:=eP (k:=ke λi j=>if j>i then j else i) (rfl:dC (.int 1) _=Qs _) m1;refine⟨(if q>1 then q else 1).toNat,?_,?_⟩
  .split<;>lia
  .rw[PV (by lia)];assumption
 obtain⟨u1,u2,u3,u4,u5,u6,u7,u8,u9,e⟩:=CY (C:=C) _ hl (P0 m) .no .no .no .no .no .no .no .no .no (λk hk=>by have:=Qq.mp hk;lia);show(x8 C t2).bind _=_;refine Ve ?_;exact(aE (by
  unfold mY;rw[em];show(if eG m then bL _ _ _ _ else Qn)=_;rw[T4 (by exact UN (by lia))];have er:eA 0 (m:Int).toNat=(P0 m).map λ(k:Nat)=>D.int k:=by unfold eA;simp
  rw[er];assumption)).trans rfl
end KX
set_option maxHeartbeats 4000000
namespace KX
open PySem.Spec L2 DL
def uO(K:OQ):Sp:=λvs H Q E=>∀C:XW,Xr K (FT C) vs H Q E
def all_mk{P:Qz}{w:RZ}{K:OQ}{h:XX}{mg:Str->Qo Pl}{fa:XW}(X:K.In h)(G:h.Ns mainGlobals mg)(hfa:mg "law"=Qs (.ref fa)){f0:XW}{f1:XW}{f2:XW}{f3:XW}{f4:XW}{f5:XW}{f6:XW}{f7:XW}{f8:XW}{f9:XW}{f10:XW}{f11:XW}{f12:XW}{f13:XW}{f14:XW}{f15:XW}{f16:XW}{f17:XW}{f18:XW}{f19:XW}{f20:XW}{f21:XW}{f22:XW}{f23:XW}{zgE zj5:Qo XW}{zf8:Array (Qo Pl)}{zgF zhl zjE zgu zfh zjF:Pl}{f24:XW}
  {C:XW} (hqc:Hc K "Pieces" C) (W6:UH K C "around") (WK:UH K C "paid") (Xv:UH K C "parts") (W5:UH K C "piece_of") (WJ:UH K C "points") (Yq:UH K C "taken") (Wk:UH K C "ties") (ZU:UH K C "weights") (Wr:UH K C "widths") (h0:Hv K "common_factor" vo f0) (h1:Hv K "fraction" vi f1) (h2:Hv K "least_led_to" uX f2) (h3:Hm K C "__init__" "Pieces.__init__" vE f3) (h4:Hm K C "growing_beside" "Pieces.growing_beside" vA f4) (h5:Hm K C "left_between" "Pieces.left_between" vx f5) (h6:Hm K C "first_full" "Pieces.first_full" vC f6) (h7:Hm K C "take" "Pieces.take" vp f7) (h8:Hm K C "halve_parts" "Pieces.halve_parts" vy f8) (h9:Hm K C "steps_to_full" "Pieces.steps_to_full" vt f9) (h10:Hm K C "grow" "Pieces.grow" vB f10) (h11:Hm K C "moats" "Pieces.moats" vv f11) (h12:Hv K "first_parted" vk f12) (h13:Hv K "wanting" uV f13) (h14:Hv K "needed" uW f14) (h15:Hv K "join_by_moats" vh f15) (h16:Hv K "_law_pool" ve f16) (h17:Hv K "_law_take" vd f17) (h18:Hv K "_law_wide" uZ f18) (h19:Hv K "_law_weight" vb f19) (h20:Hv K "_law_web" vc f20) (h21:Hv K "_law_low" vf f21) (h22:Hv K "_law_wishes" uY f22) (a23:Qu K mainGlobals "_law_due"=Qs (Qs (.ref f23))) (l23:K.lookup f23=Qs ⟨zgF,zgE,.func (Qk "_law_due" "_law_due" (fQ jN) (cZ jN) (aK jN) .none zhl zjE zgu zj5 zfh zjF),zf8⟩) (c23:Rv K zfh "_law_due"=Qt) (k23:Qh K (.ref f23)=Qt) (h24:Hv K "law" vg f24) (zfI:Qu K mainGlobals "abs"=Qs Qn) (zfH:Qu K mainGlobals "bool"=Qs Qn) (zfG:Qu K mainGlobals "enumerate"=Qs Qn) (zfF:Qu K mainGlobals "isinstance"=Qs Qn) (zfE:Qu K mainGlobals "len"=Qs Qn) (zfD:Qu K mainGlobals "list"=Qs Qn) (zfC:Qu K mainGlobals "max"=Qs Qn) (zfB:Qu K mainGlobals "min"=Qs Qn) (zfA:Qu K mainGlobals "range"=Qs Qn) (zfz:Qu K mainGlobals "sorted"=Qs Qn) (zfy:Qu K mainGlobals "tuple"=Qs Qn)  (tk23:uG K "_law_due"=Qt):pJ K ["_law_due"]/\∃fd:Ru,(∀(s:Pf) (v:Pl),BindsTo s fd ⟨[v],[]⟩ [("_law_script",v)])/\∀base:Wh,base.tabs=cE K ["_law_due"]->K.In base->base.Ns mainGlobals mg->(∀x∈(["_law_due"]:Ql Str),∀c P,RH K x=Qs (c,P)->RV base c P)->Vn P w K mg base bT 5 fa fd ["_law_script"] (uO K):=by have e:=hfa.symm.trans (h24.mg X G);cases e;have bu:VD mg:=⟨P7 X G zfI,P7 X G zfH,P7 X G zfG,P7 X G zfF,P7 X G zfE,P7 X G zfD,P7 X G zfC,P7 X G zfB,P7 X G zfA,P7 X G zfz,P7 X G zfy⟩;obtain⟨_,d0⟩:=h0.Yg X G "one" "other";obtain⟨_,d1⟩:=h1.Yg X G "top" "bottom";obtain⟨_,d2⟩:=h2.Yg X G "web" "numbers";obtain⟨_,u3⟩:=h3.fn;have b3:=ua (p0:= "self") (p1:= "web") (p2:= "weights") u3 λ_ _ _ _ _ _ _ _ _=>rfl;obtain⟨_,u4⟩:=h4.fn;have b4:=ua (p0:= "self") (p1:= "at") (p2:= "growing") u4 λ_ _ _ _ _ _ _ _ _=>rfl;obtain⟨_,u5⟩:=h5.fn;have b5:=m9 (p0:= "self") (p1:= "at") u5 λ_ _ _ _ _ _ _ _=>rfl;obtain⟨_,u6⟩:=h6.fn;have b6:=m9 (p0:= "self") (p1:= "growing") u6 λ_ _ _ _ _ _ _ _=>rfl;obtain⟨_,u7⟩:=h7.fn;have b7:=m9 (p0:= "self") (p1:= "at") u7 λ_ _ _ _ _ _ _ _=>rfl;obtain⟨_,u8⟩:=h8.fn;have b8:=za (p0:= "self") u8 λ_ _ _ _ _ _ _=>rfl;obtain⟨_,u9⟩:=h9.fn;have b9:=m9 (p0:= "self") (p1:= "growing") u9 λ_ _ _ _ _ _ _ _=>rfl;obtain⟨_,VL⟩:=h10.fn;have b10:=ua (p0:= "self") (p1:= "growing") (p2:= "step") VL λ_ _ _ _ _ _ _ _ _=>rfl;obtain⟨_,XC⟩:=h11.fn;have b11:=za (p0:= "self") XC λ_ _ _ _ _ _ _=>rfl;obtain⟨_,d12⟩:=h12.df3 X G "web" "wishes" "numbers";obtain⟨_,d13⟩:=h13.Yg X G "pieces" "wishes";obtain⟨_,d14⟩:=h14.df3 X G "web" "wishes" "taken";obtain⟨_,d15⟩:=h15.df3 X G "web" "weights" "wishes";obtain⟨_,d16⟩:=h16.Yg X G "_law_script" "_law_k";obtain⟨_,d17⟩:=h17.Yg X G "_law_pool_here" "_law_many";obtain⟨_,d18⟩:=h18.Yg X G "_law_pool_here" "_law_many";obtain⟨_,d19⟩:=h19.df1 X G "_law_pool_here";obtain⟨_,d20⟩:=h20.Yg X G "_law_pool_here" "_law_most";obtain⟨_,d21⟩:=h21.Yg X G "_law_top" "_law_bottom";obtain⟨_,d22⟩:=h22.Yg X G "_law_pool_here" "_law_many";have d23:Df K mg "_law_due" jN ["_law_web_here","_law_weights"] f23 _:=⟨sT (st:=jN) l23 c23 k23,TN X G a23,m9 (sT (st:=jN) l23 c23 k23) λ_ _ _ _ _ _ _ _=>rfl⟩;obtain⟨_,d24⟩:=h24.df1 X G "_law_script";obtain⟨zk9,zk5,za3,zfT⟩:=GO tk23;refine⟨GN za3 zfT,_,Hv.bt d24.fn λ_ _ _ _ _ _ _=>rfl,λbase ht _ _ hCd=>?_⟩;have zkL:=KP (P:=P) (w:=w) (base:=base) d0.fn bu;have zkK:=KN (P:=P) (w:=w) (base:=base) d1.fn bu (d0.XN zkL);have zkA:=Ku (P:=P) (w:=w) (base:=base) d2.fn bu;have zkS:=K5 (P:=P) (w:=w) (base:=base) hqc.cls W6 WK Xv W5 WJ Yq Wk ZU Wr u3 bu;have zfu:=KZ (P:=P) (w:=w) (base:=base) hqc.cls W5 Wk u4 bu;have zft:=KW (P:=P) (w:=w) (base:=base) hqc.cls W6 Xv Wk ZU u5 bu;have zkR:=K4 (P:=P) (w:=w) (base:=base) hqc.cls Wk u6 bu ⟨⟨_,_,_,h4.X3,b4,zfu⟩⟩ ⟨⟨_,_,_,h5.X3,b5,zft⟩⟩;have zkM:=KQ (P:=P) (w:=w) (base:=base) hqc.cls WK W5 WJ Yq Wk Wr u7 bu;have zkP:=KY (P:=P) (w:=w) (base:=base) hqc.cls W6 WK Xv Wr u8 bu;have zkN:=KR (P:=P) (w:=w) (base:=base) hqc.cls Wk u9 bu ⟨⟨_,_,_,h4.X3,b4,zfu⟩⟩ ⟨⟨_,_,_,h5.X3,b5,zft⟩⟩;have zkQ:=K3 (P:=P) (w:=w) (base:=base) hqc.cls W6 WK WJ Wr VL bu;have zkO:=KU (P:=P) (w:=w) (base:=base) hqc.cls Xv WJ Wr XC bu (d1.XN zkK);have zfs:=KO (P:=P) (w:=w) (base:=base) d12.fn bu (d2.XN zkA);have zky:=Kr (P:=P) (w:=w) (base:=base) hqc.cls W5 d13.fn bu;have zkz:=Kt (P:=P) (w:=w) (base:=base) d14.fn bu (d12.XN zfs);have zkJ:=KL (P:=P) (w:=w) (base:=base) hqc.cls Yq d15.fn bu (d12.XN zfs) ⟨⟨_,_,_,hqc.mg X G,h3.mk_ hqc.k1 hqc.k2,b3,zkS⟩⟩ (d13.XN zky) ⟨⟨_,_,_,h6.X3,b6,zkR⟩⟩ ⟨⟨_,_,_,h8.X3,b8,zkP⟩⟩ ⟨⟨_,_,_,h10.X3,b10,zkQ⟩⟩ ⟨⟨_,_,_,h9.X3,b9,zkN⟩⟩ ⟨⟨_,_,_,h7.X3,b7,zkM⟩⟩ ⟨⟨_,_,_,h11.X3,b11,zkO⟩⟩ (d14.XN zkz);have zkF:=KA (P:=P) (w:=w) (base:=base) d16.fn bu;have zbI:=Kz (P:=P) (w:=w) (base:=base) d17.fn bu;have zkC:=Kw (P:=P) (w:=w) (base:=base) d18.fn bu (d17.Za zbI);have zkD:=Kx (P:=P) (w:=w) (base:=base) d19.fn bu (d17.Za zbI) (d18.Za zkC);have zkE:=Ky (P:=P) (w:=w) (base:=base) d20.fn bu (d17.Za zbI);have zkG:=KC (P:=P) (w:=w) (base:=base) d21.fn bu;have zkB:=Kv (P:=P) (w:=w) (base:=base) d22.fn bu (d17.Za zbI);have zkH:=KG (P:=P) (w:=w) (base:=base) d23.fn bu (NV za3 a23 l23) (hCd "_law_due" (by simp) _ _ za3) (by rw[ht];exact LB (by simp) za3) (d21.XN zkG);have zkI:=KJ (P:=P) (w:=w) (base:=base) hqc.cls  d24.fn bu (d16.XN zkF) (d20.Za zkE) (d19.Za zkD) (d22.Za zkB) (d23.XN zkH) (d15.XN zkJ);exact zkI.imp λvs H Q E q=>q _
def walk{l:Uo}{q:Qz}{loose:Ql Str}{XP:(Str->Qo Pl)->XX->Prop}{YP:RZ->XX->Prop}{d:DefRec}{K:Params->OQ}(hn:l.most=Qs 63)(hdf:d.params.defaults=[]) (hY:∀(w:RZ) (h:XX),YP w h->(K w.params).In h) (zaF:∀x∈(["_law_due"]:Ql Str),∃dr,(recsOf q).find? (λe=>e.name==x)=Qs dr) (Fx:∀(w:RZ) (mg:Str->Qo Pl) (fa:XW) (h:XX),(K w.params).In h->h.Ns mainGlobals mg->mg d.name=Qs (.ref fa)->pJ (K w.params) ["_law_due"]/\∃fd:Ru,(∀(s:Pf) (u:Pl),BindsTo s fd ⟨[u],[]⟩ [("_law_script",u)])/\∀base:Wh,base.tabs=cE (K w.params) ["_law_due"]->(K w.params).In base->base.Ns mainGlobals mg->(∀x∈(["_law_due"]:Ql Str),∀c P,RH (K w.params) x=Qs (c,P)->RV base c P)->Vn l.prog w (K w.params) mg base bT 5 fa fd ["_law_script"] (uO (K w.params))):U4 q loose XP YP l.row.toRowW d [] (λf vs=>PySem.call f vs):=L2.zfM (n:=63) (k:=5) (x:= "_law_script") (names:=["_law_due"]) (CX:=λ_=>bT) (sp:=λw=>uO (K w.params)) hn (by decide) hdf ⟨rfl,by decide,by decide⟩ hY zaF Fx (λ_ H a ns hl hb hS=>λC=>⟨[],[.lst (ns.map .int)],.cl (.bl Qt),λp hp=>(by cases hp),.cons (.lst (by rw[MW];exact hS) (TZ.ints ns)) .nil,L4 C ns hl hb,λv H' _ q=>by cases q;rfl⟩) λ_ _ _ _ _ z=>z
end KX
open PySem PySem.W PyProof.Rows
namespace PySem.W.Fast
theorem tw3285765597512977562:True:=⟨⟩
theorem tw12753227253741261631:True:=⟨⟩
theorem tw12261442471249331981:True:=⟨⟩
theorem tw11734179199120790641:True:=⟨⟩
theorem tw16132143368818652991:True:=⟨⟩
theorem tw5634073430906686536:True:=⟨⟩
theorem tw2120447028770202605:True:=⟨⟩
theorem tw14996190965625587829:True:=⟨⟩
theorem tw3850235482941115723:True:=⟨⟩
theorem tw6399828891812670212:True:=⟨⟩
theorem tw11647674967465541858:True:=⟨⟩
theorem tw3120111145497349252:True:=⟨⟩
theorem tw18244687350255055919:True:=⟨⟩
theorem tw11944979667668086054:True:=⟨⟩
theorem tw16803437603783649992:True:=⟨⟩
theorem tw15605358658989719660:True:=⟨⟩
theorem tw15332729561671495794:True:=⟨⟩
theorem tw14343535611704642412:True:=⟨⟩
theorem tw10478961078333951138:True:=⟨⟩
theorem tw5215524177415726757:True:=⟨⟩
theorem tw2743076598417218114:True:=⟨⟩
theorem tw7814973574982265079:True:=⟨⟩
theorem tw5117231465771306882:True:=⟨⟩
theorem tw15916349182726285096:True:=⟨⟩
theorem tw13441666600485761917:True:=⟨⟩
theorem tw15721465660650095222:True:=⟨⟩
theorem tw7694988399919304171:True:=⟨⟩
theorem tw4713913335016913620:True:=⟨⟩
theorem tw4947465998716389298:True:=⟨⟩
theorem tw597665946449636281:True:=⟨⟩
theorem tw16947889199297903530:True:=⟨⟩
theorem tw14687431347445891321:True:=⟨⟩
theorem tw329474775796726479:True:=⟨⟩
theorem tw4179895507385242756:True:=⟨⟩
theorem tw8668433542719805839:True:=⟨⟩
theorem tw14478788751845186309:True:=⟨⟩
theorem tw209934501701069836:True:=⟨⟩
theorem tw6656711588142323382:True:=⟨⟩
theorem tw4890749792011229214:True:=⟨⟩
theorem tw5650306652658844975:True:=⟨⟩
theorem tw14292912697549269641:True:=⟨⟩
theorem tw3215526157907042471:True:=⟨⟩
theorem tw2610954180728490010:True:=⟨⟩
theorem tw12292772372221603560:True:=⟨⟩
theorem tw5428650083556744067:True:=⟨⟩
theorem tw8394489392747326507:True:=⟨⟩
theorem tw16012924338254932228:True:=⟨⟩
theorem tw13495277954946329283:True:=⟨⟩
theorem tw7733307595651273295:True:=⟨⟩
theorem tw17191911186468142335:True:=⟨⟩
theorem tw12055297258298599634:True:=⟨⟩
theorem tw5955547347934431633:True:=⟨⟩
theorem tw10772329695248568742:True:=⟨⟩
theorem tw2940153737778360614:True:=⟨⟩
theorem tw5490526240990162872:True:=⟨⟩
theorem tw15393027030022091306:True:=⟨⟩
theorem tw11377857172459132446:True:=⟨⟩
theorem tw706080893380059997:True:=⟨⟩
theorem tw463385786479481900:True:=⟨⟩
theorem tw1716503567666276269:True:=⟨⟩
theorem tw13033254071870890191:True:=⟨⟩
theorem tw2512419144885532503:True:=⟨⟩
theorem tw13722926751999299017:True:=⟨⟩
theorem tw16759612700015582581:True:=⟨⟩
theorem tw16317244325125427883:True:=⟨⟩
theorem tw5887744254096328576:True:=⟨⟩
theorem tw10584544524872866646:True:=⟨⟩
theorem tw16406000310490448397:True:=⟨⟩
theorem tw3665716841334384868:True:=⟨⟩
theorem tw4439097697457289400:True:=⟨⟩
theorem tw6797417556364775504:True:=⟨⟩
theorem tw8590216916969403898:True:=⟨⟩
theorem tw16710670255333383239:True:=⟨⟩
theorem tw6669632238574026190:True:=⟨⟩
theorem tw8520147307767108253:True:=⟨⟩
theorem tw2323651197485920642:True:=⟨⟩
theorem tw12626011362454368627:True:=⟨⟩
theorem tw1698635618861522836:True:=⟨⟩
theorem tw6215816477627094015:True:=⟨⟩
theorem tw10808581971447421587:True:=⟨⟩
theorem tw13361516269026170773:True:=⟨⟩
theorem tw1839128696846496967:True:=⟨⟩
theorem tw7559007999866233742:True:=⟨⟩
theorem tw16527493427551247960:True:=⟨⟩
theorem tw300800581364117034:True:=⟨⟩
theorem tw17434016091153683982:True:=⟨⟩
theorem tw18075224337617506087:True:=⟨⟩
theorem tw1880202153929357380:True:=⟨⟩
theorem tw5683512909085892775:True:=⟨⟩
theorem tw10735187605457579485:True:=⟨⟩
theorem tw15687455120136803640:True:=⟨⟩
theorem tw7544372616741623459:True:=⟨⟩
theorem tw6246546382919716658:True:=⟨⟩
theorem tw3095569515283551539:True:=⟨⟩
theorem tw14191503586854705481:True:=⟨⟩
theorem tw1491023882174466612:True:=⟨⟩
theorem tw10009089587486571764:True:=⟨⟩
theorem tw11817550990175033661:True:=⟨⟩
theorem tw1058191113084550209:True:=⟨⟩
theorem tw1722894463261530786:True:=⟨⟩
theorem tw9919163725156483535:True:=⟨⟩
theorem tw7572170451781658508:True:=⟨⟩
theorem tw5447067677896200836:True:=⟨⟩
theorem tw12274854357949064885:True:=⟨⟩
theorem tw8555072655107095359:True:=⟨⟩
theorem tw9527989880110805356:True:=⟨⟩
theorem tw10234589435979671238:True:=⟨⟩
theorem tw10925369009052691773:True:=⟨⟩
theorem tw4556916367785167008:True:=⟨⟩
theorem tw8110077426757670678:True:=⟨⟩
theorem tw16530456404900207513:True:=⟨⟩
theorem tw10000827024203879710:True:=⟨⟩
theorem tw18398764991999135086:True:=⟨⟩
theorem tw10637038409151837147:True:=⟨⟩
theorem tw17357358668394085672:True:=⟨⟩
theorem tw11780726267406915931:True:=⟨⟩
theorem tw11045701731376560046:True:=⟨⟩
theorem tw3457744557092141505:True:=⟨⟩
theorem tw7971310255979034307:True:=⟨⟩
theorem tw2196834405086719200:True:=⟨⟩
theorem tw1782764629300764849:True:=⟨⟩
theorem tw11013880755189173020:True:=⟨⟩
theorem tw5517627398635181060:True:=⟨⟩
theorem tw5894223725702713188:True:=⟨⟩
theorem tw4044756548035941237:True:=⟨⟩
theorem tw17537410926218606819:True:=⟨⟩
theorem tw15037885265406822361:True:=⟨⟩
theorem tw15422692018304229168:True:=⟨⟩
theorem tw8814576317588925672:True:=⟨⟩
theorem tw6598170450952979121:True:=⟨⟩
theorem tw8604550127857284455:True:=⟨⟩
theorem tw16387454381431803103:True:=⟨⟩
theorem tw13794846677179604368:True:=⟨⟩
theorem tw700080461418781388:True:=⟨⟩
theorem tw6699578104660029984:True:=⟨⟩
theorem tw18405275725190266416:True:=⟨⟩
theorem tw8840279211206105322:True:=⟨⟩
end PySem.W.Fast
set_option maxRecDepth 100000 in
set_option maxHeartbeats 0 in
theorem PySem.Challenge.cw_nearenough_k63_whole_all_points_holds : PySem.Challenge.rw_nearenough_k63_whole_all_points.Holds := by
 w_on;o_law;k_head;(case hw=>w_witness2)
 k_fill
 refine KX.walk (l:=PySem.Challenge.rw_nearenough_k63_whole_all_points) rfl rfl (λw h Y=>by first | exact PySem.W.kIn_of Y | exact PySem.W.km_in_of Y) (by intro x hx;simp at hx;subst hx;exact⟨_,rfl⟩) ?F
 case F =>
  intro w mg fa h KI G hmg;refine' KX.all_mk KI G hmg ?hqc ?_ ?_ ?_ ?_ ?_ ?_ ?_ ?_ ?_ ?_ ?_ ?_ ?_ ?_ ?_ ?_ ?_ ?_ ?_ ?_ ?_ ?_ ?_ ?_ ?_ ?_ ?_ ?_ ?_ ?_ ?_ ?_ ?a23 ?l23 ?c23 ?k23 ?_ ?_ ?_ ?_ ?_ ?_ ?_ ?_ ?_ ?_ ?_ ?_ ?tk23
  (case hqc=>refine' DL.Hc.mk ?qa ?qb ?qc ?qd ?qe ?qf ?qg;(case qa=>k_is);(case qb=>k_is);(case qc=>k_is);(case qd=>k_is);(case qe=>k_is);(case qf=>k_is);(case qg=>k_is))
  (case tk23=>kernel_rfl)
  (case a23=>k_is);(case l23=>k_is);(case c23=>k_is);(case k23=>k_is)
  all_goals try (refine' DL.Hm.mk ?ra ?rn ?rl ?rc ?rk;(case ra=>k_is);(case rn=>k_is);(case rl=>k_is);(case rc=>k_is);(case rk=>k_is))
  all_goals try (refine' DL.Hv.mk ?a ?l ?c ?k;(case a=>k_is);(case l=>k_is);(case c=>k_is);(case k=>k_is))
  all_goals try (show QF _ _ _=some none;k_is)
  all_goals try k_is

