import PyProof.Rows.All
import Wide.All
import OpenK.AllK
import Wide.FinOn
import PyProof.EqAt
import PyProof.EqKinds
import PyProof.NeKinds
import PyProof.TupleCall
import PyProof.EnumFor
import PyProof.EnumMake
import PyProof.CompFree
import PyProof.Rows.SumAny
import PyProof.Rows.Range3
import PyProof.CompUse
import KE.LcSums
import PyProof.ListRange
import PyProof.Rows.MinMaxN
import KE.KIntText
import PyProof.StrCalls2
import PyProof.StrBlockH
import PyProof.Rows.ZipForRows
import PyProof.Rows.SortRev
import KE.KRevSl
import KE.KMinKey
import PyProof.Rows.SetFrom
import PyProof.Rows.SeqMore2
import Lean
import PyProof.WalkInts
import KE.KLam
import KE.KNest
import PyProof.Rows.SortRuns
import KE.KSortKey
import PyProof.Conv_int_bool
import KE.KListMore
import PyProof.DictWalks
import KE.KSortTup
import KE.KDictList
import KE.KRevIter
import PyProof.SetKind
import PyProof.SetScanFacts
import PyProof.DictUpdate
import PySem.Challenge.RW_nearenough_k30_worst_choices
noncomputable section
open Array renaming length_toList→zbm6
open Int renaming natCast_mul→zbg3,toNat_natCast→zbg4,toNat_of_nonneg→zbi8,fmod_eq_emod_of_nonneg→zbj1
open PySem.F renaming plainAttrs_list→zbb3,slot_list_append→zbd1,type_list_append→zbd2,slot_dict_update→zbk2,slot_list_index→zbk6
open PySem renaming Shared→zaz0,starEach→zaz1,wpAny_bind→zaz2,wpAny_pure→zba5,backTo→zbd7
open Nat renaming lt_of_lt_of_le→zay8,le_trans→zaz4,le_refl→zba1,lt_of_le_of_lt→zba2,ne_of_lt→zba4,mul_le_mul_right→zbb8,le_mul_of_pos_left→zbb9,lt_succ_self→zbc5,pow_le_pow_right→zbd3,lt_irrefl→zbd6,mul_right_comm→zbe6,mul_assoc→zbe7,gcd→zbe8,mul_comm→zbe9,lt_succ_of_lt→zbf0,div_le_self→zbg2,add_mul→zbh3,mul_le_mul→zbi2,ne_of_gt→zbi3,lt_trans→zbi4,min_le_left→zbj3,eq_of_mul_eq_mul_right→zbj4,lt_or_eq_of_le→zbj7,div_mul_cancel→zbj8,le_of_lt→zbj9,gcd_pos_of_pos_right→zbk4,gcd_pos_of_pos_left→zbk7,mul_div_cancel_left→zbk8,le_mul_of_pos_right→zbk9,one_mul→zbl6,one_pos→zbl7,zero_add→zbm3,mul_le_mul_left→zbm9,zero_le→zbn0,dvd_trans→zbn5,gcd_dvd_right→zbn9,mul_left_comm→zbo0,succ_pos→zbp2
open PySem.Heap renaming get?_push_of_some→zay6,lt_size→zaz5,get?_push_size→zbb1,size_push→zbg9
open Bool renaming and_eq_true→zay4,false_ne_true→zaz7,eq_iff_iff→zbe0,false_eq_true→zbf6,false_and→zbi1,or_eq_true→zbj0,and_eq_false_iff→zbl8,false_or→zbn4,not_eq_true'→zbo1
open Option renaming bind_some→zay2,map_some→zbc0,isSome_iff_exists→zbg8,getD_some→zbl1,isSome_some→zbn1
open PySem.W renaming Frag→zax7,mg_none_of→zbb0,keepIn→zbc1,fnOf→zbc9,nsIn→zbd0,kia_one→zbe1,findIn→zbg7,codeIn→zbk0,methodObj→zbk5,cellsFrom_some→zbl0,instObj→zbl9,lookIn→zbm7,hasDictIn→zbn6,specialIn→zbn7,kitx_dict→zbn8,plainGet→zbo3,OpenLaw→zbp7,CodeHd→zbr4,WalkO→zbs6,tabIn→zbs9
open List renaming mem_append_right→zax6,mem_append_left→zax8,mem_cons_of_mem→zax9,mem_append→zay0,mem_cons_self→zay1,getElem?_eq_getElem→zay3,mem_cons→zay5,getD_eq_getElem?_getD→zay7,nodup_append→zay9,map_cons→zaz3,replicate→zaz6,nodup_cons→zaz8,mem_singleton→zaz9,size_toArray→zba0,mem_map→zba3,length_map→zba6,length_append→zba7,nodup_nil→zba8,lookup_cons→zba9,getElem?_map→zbb2,drop_eq_getElem_cons→zbb4,filter_eq_self→zbb5,range→zbb6,length_cons→zbb7,all_eq_true→zbc2,length_eq_zero_iff→zbc3,getElem?_append_right→zbc4,zipWith_cons_cons→zbc6,getElem?_eq_some_iff→zbc7,getElem?_append_left→zbc8,map_map→zbd4,getElem?_replicate→zbd5,replicate_succ→zbd8,mem_filter→zbd9,length_replicate→zbe2,length_singleton→zbe3,length_filter_le→zbe4,getElem_mem→zbe5,map_congr_left→zbf1,getElem?_set_self→zbf2,drop_length→zbf3,length_pos_of_mem→zbf4,sum_cons→zbf5,pairwise_cons→zbf7,getElem?_eq_none→zbf8,append_nil→zbf9,find?_cons→zbg0,length_zip→zbg1,getElem?_set_ne→zbg5,sublist_append_right→zbg6,filter_cons_of_pos→zbh0,filter_cons_of_neg→zbh1,zip_cons_cons→zbh2,foldl_cons→zbh4,all_cons→zbh5,sublist_cons_self→zbh6,reverse_cons→zbh7,flatten_cons→zbh8,append_assoc→zbh9,mem_range→zbi0,any_eq_true→zbi5,filterMap_cons→zbi6,any_cons→zbi7,map_eq_nil_iff→zbi9,map_append→zbj2,perm_ext_iff_of_nodup→zbj5,mem_filterMap→zbj6,zipWith→zbk1,length_erase_of_mem→zbk3,take_of_length_le→zbl2,find?_cons_of_pos→zbl3,find?_cons_of_neg→zbl4,filter_eq_nil_iff→zbl5,of_mem_zip→zbm0,nil_append→zbm1,mem_of_getElem?→zbm2,mem_erase_of_ne→zbm4,mem_iff_getElem→zbm5,getElem?_range→zbm8,getElem_idxOf→zbn2,map_nil→zbo4,filter_cons→zbo6,map_fst_zip→zbo7,map_snd_zip→zbo8,ext_getElem→zbo9,cons_append→zbp0,nodup_range→zbp1,foldl→zbs2
open PySem PyProof.Rows
set_option Elab.async false
set_option linter.all false
set_option maxRecDepth 100000
namespace L2
open PySem.Spec
abbrev Key:=Sum Int Str
def zan2:Key→Value→Bool
 |.inl k,v=>Value.isInt k v
 |.inr x,v=>Value.isStrOf x v
def keyH (w:World):Key→Int
 |.inl k=>hashInt k
 |.inr x=>hashStr w x
theorem zd9:∀ {k:Key}{v:Value},zan2 k v=true→(∃i t,k=Sum.inl i∧v=Value.int i t)∨(∃x t,k=Sum.inr x∧v=Value.str x t)
 |.inl i,v,h=>by
  obtain⟨t,e⟩:=Value.isInt_shape (k:=i) (v:=v) h
  exact .inl ⟨i,t,rfl,e⟩
 |.inr x,v,h=>by
  obtain⟨t,e⟩:=Value.isStrOf_shape (x:=x) (v:=v) h
  exact .inr ⟨x,t,rfl,e⟩
theorem zat9 (i:Int) (t:Tok):zan2 (.inl i) (.int i t)=true:=by simp [zan2,Value.isInt]
theorem zat8 (x:Str) (t:Tok):zan2 (.inr x) (.str x t)=true:=by simp [zan2,Value.isStrOf]
theorem key_ll (a b:Int):decide ((Sum.inl a:Key)=Sum.inl b)=(a == b):=by
 by_cases e:a=b
 ·subst e;simp
 ·have h : ¬ (Sum.inl a:Key)=Sum.inl b:=fun q=>e (Sum.inl.inj q)
  rw [decide_eq_false h]
  exact (beq_eq_false_iff_ne.mpr e).symm
theorem key_rr (a b:Str):decide ((Sum.inr a:Key)=Sum.inr b)=decide (a=b):=by
 by_cases e:a=b
 ·subst e;simp
 ·have h : ¬ (Sum.inr a:Key)=Sum.inr b:=fun q=>e (Sum.inr.inj q)
  rw [decide_eq_false h,decide_eq_false e]
theorem key_lr (a:Int) (b:Str):decide ((Sum.inl a:Key)=Sum.inr b)=false:=decide_eq_false (fun q=>nomatch q)
theorem key_rl (a:Str) (b:Int):decide ((Sum.inr a:Key)=Sum.inl b)=false:=decide_eq_false (fun q=>nomatch q)
noncomputable def zf2 (prog:Program) (w:World):PySem.KeyKind prog w Key where
 is:=zan2
 hash:=keyH w
 inj:=fun v a b ha hb=>by
  rcases zd9 ha with ⟨i,t,rfl,rfl⟩ | ⟨x,t,rfl,rfl⟩
  ·rcases zd9 hb with ⟨j,u,rfl,e⟩ | ⟨y,u,rfl,e⟩
   ·injection e with e1 _;rw [e1]
   ·exact nomatch e
  ·rcases zd9 hb with ⟨j,u,rfl,e⟩ | ⟨y,u,rfl,e⟩
   ·exact nomatch e
   ·injection e with e1 _;rw [e1]
 byValue:=fun k v h=>by
  rcases zd9 h with ⟨i,t,rfl,rfl⟩ | ⟨x,t,rfl,rfl⟩<;>rfl
 pyHash:=fun hv h=>by
  rcases zd9 hv with ⟨i,t,rfl,rfl⟩ | ⟨x,t,rfl,rfl⟩
  ·exact wpAny_pyHash_int h
  ·exact wpAny_pyHash_str h
 eqBool:=fun hu hv h=>by
  rcases zd9 hu with ⟨i,t,rfl,rfl⟩ | ⟨x,t,rfl,rfl⟩
  ·rcases zd9 hv with ⟨j,u,rfl,rfl⟩ | ⟨y,u,rfl,rfl⟩
   ·rw [key_ll]at h;exact wpAny_eqBool_int h
   ·rw [key_lr]at h;exact SeqAt.EqAt.int_str i t y u _ _ _ _ h
  ·rcases zd9 hv with ⟨j,u,rfl,rfl⟩ | ⟨y,u,rfl,rfl⟩
   ·rw [key_rl]at h;exact SeqAt.EqAt.str_int x t j u _ _ _ _ h
   ·rw [key_rr]at h;exact wpAny_eqBool_str h
 «strs»:=fun k x t v h=>by
  rcases zd9 h with ⟨i,u,rfl,e⟩ | ⟨y,u,rfl,e⟩
  ·exact nomatch e
  ·injection e with e1 _
   subst e1
   cases v<;>rfl
theorem zah9 (prog:Program) (w:World) (i:Int) (t:Tok):(zf2 prog w).is (.inl i) (.int i t)=true:=zat9 i t
theorem zah8 (prog:Program) (w:World) (x:Str) (t:Tok):(zf2 prog w).is (.inr x) (.str x t)=true:=zat8 x t
inductive V where
 |non | bl (b:Bool) |int (i:Int) |str (x:Str) |byt (b:Array UInt8) |flt (b:UInt64) |ref (a:Addr) |ty (n:String)
 deriving DecidableEq
noncomputable def RelV:V→Value→Prop
 |.non,u=>u=Value.none
 |.bl b,u=>u=Value.bool b
 |.int i,u => ∃t,u=Value.int i t
 |.str x,u => ∃t,u=Value.str x t
 |.byt b,u => ∃t,u=Value.bytes b t
 |.flt b,u => ∃t,u=Value.float b t
 |.ref a,u=>u=Value.ref a
 |.ty n,u=>u=Value.type n
abbrev Vals:List V→List Value→Prop:=Paired RelV
theorem Vals.length {xs:List V}{us:List Value} (r:Vals xs us):xs.length=us.length:=Paired.length r
theorem Vals.get:∀ {xs:List V}{us:List Value}{i:Nat}{x:V},Vals xs us→xs[i]?=some x→∃u,us[i]?=some u∧RelV x u
 |_,_,_,_,.nil,e=>by simp at e
 |_,_,0,_,.cons r _,e=>by simp at e;subst e;exact⟨_,rfl,r⟩
 |_,_,i+1,x,.cons _ t,e=>by
  obtain⟨u,h1,h2⟩:=Vals.get (i:=i) (x:=x) t (by simpa using e)
  exact⟨u,by simpa using h1,h2⟩
theorem Vals.append:∀ {xs ys:List V}{us ws:List Value},Vals xs us→Vals ys ws→Vals (xs++ys) (us++ws)
 |_,_,_,_,.nil,s=>s
 |_,_,_,_,.cons r t,s=>.cons r (Vals.append t s)
theorem Vals.drop:∀ {xs:List V}{us:List Value} (n:Nat),Vals xs us→Vals (xs.drop n) (us.drop n)
 |_,_,0,r=>r
 |_,_,_+1,.nil=>.nil
 |_,_,n+1,.cons _ t=>Vals.drop n t
def RelO:Option V→Option Value→Prop
 |some v,some u=>RelV v u
 |none,none=>True
 |_,_=>False
def KV {κ:Type}:List (κ×V)→List (κ×Value)→Prop:=Paired fun (p:κ×V) (q:κ×Value)=>p.1=q.1∧RelV p.2 q.2
def kV:Key→V
 |.inl i=>.int i
 |.inr x=>.str x
inductive HO where
 /-- a list -/
 |lst (xs:List V)
 /-- a tuple (never changes) -/
 |tup (xs:List V)
 /-- a dict whose keys are ints and texts;one whose keys are tuples of ints and texts (the empty one is both) -/
 |dK (kvs:List (Key×V)) |dT (kvs:List (List Key×V))
 /-- a set of ints: its members,its size -/
 |set (S:Int→Bool) (n:Nat)
 /-- an instance of the class at C,its dict at dx,its attributes -/
 |ins (C dx:Addr) (fs:List (Str×V))
 /-- the dict of the instance at x -/
 |own (x:Addr)
 /-- the dict of an exception -/
 |xd (fs:List (Str×V))
 /-- a bound method,f of x -/
 |met (f x:Addr)
 /-- a range object lo,lo+1,.. below hi -/
 |rng (lo hi:Int)
 /-- a thing that is known to the object (the script;a dict while a loop walks it): read,never written while it is so -/
 |frz (o:Obj) (u:HO)
 /-- a code object's table -/
 |tbl (q:Str)
 /-- any other thing,by what is true of its one object (a def of one's own: SetO a S n:=HO.ext fun h=>..) -/
 |ext (φ:Heap→Prop)
abbrev Hp:=Addr→Option HO
def upd (H:Hp) (a:Addr) (o:HO):Hp:=fun b=>if b=a then some o else H b
theorem za9 {H:Hp}{a:Addr}{o:HO}:upd H a o a=some o:=by unfold upd;rw [if_pos rfl]
theorem zb3 {H:Hp}{a b:Addr}{o:HO} (h:b≠a):upd H a o b=H b:=by unfold upd;rw [if_neg h]
theorem zi5 {H:Hp}{a b:Addr}{o:HO} (h:H a=some o) (h':H b=none):a≠b:=by
 intro e;subst e;rw [h]at h';cases h'
section
variable (P:Program) (w:World)
noncomputable def ObjOk (H:Hp) (h:Heap) (a:Addr):HO→Prop
 |.lst xs=>xs.length≤sizeLine∧∃(its:List Value) (n:Nat),Vals xs its∧h.get? a=some { cls:=.type "list",data:=.seq its.toArray n }
 |.tup xs=>xs.length≤sizeLine∧∃its:List Value,Vals xs its∧IsTup h a its.toArray
 |.dK kvs=>kvs.length≤sizeLine∧(a == sysModules)=false∧∃vs,KV kvs vs∧h.DictOf (zf2 P w) a vs
 |.dT kvs=>kvs.length≤sizeLine∧(a == sysModules)=false∧∃xs:List (List Key×Addr×Value),
   Paired (fun (p:List Key×V) (q:List Key×Addr×Value)=>p.1=q.1∧H q.2.1=some (.tup (p.1.map kV))∧RelV p.2 q.2.2) kvs xs ∧
   ∃o es ep,h.get? a=some o∧o.ExactDict∧o.data=.dict es ep∧es.toList=xs.map (entryOfKey (tupleKind (zf2 P w)))∧(xs.map (·.1)).Nodup
 |.set S n=>h.SetOf (intKind P w) a S n
 |.ins C dx fs=>H dx=some (.own a)∧fs.length≤1000∧dx≠a∧h.get? a=some (zbl9 C dx) ∧
   ∃mA,h.Ns1 dx mA∧(∀f,RelO (fs.lookup f) (mA f))∧PySem.Within mA (fs.map (·.1))
 |.own _ => ∃o,h.get? a=some o
 |.xd fs => ∃mA,h.Ns1 a mA∧∀f,RelO (fs.lookup f) (mA f)
 |.rng lo hi => ∃t u v,h.get? a=some { cls:=.type "range",data:=.fields #[.int lo t,.int hi u,.int 1 v] }
 |.frz o u=>h.get? a=some o∧ObjOk H h a u
 |.tbl q => ∃ps:Array Value,h.get? a=some { cls:=.none,data:=.fields ps }∧TriplesOk ps.toList∧∀pos cv,codeAmong pos ps.toList=some cv→∃(c:Addr) (oc:Obj) (vs:Array Value) (tk:Tok),cv=.ref c∧H c=some (.frz oc (.own 0))∧oc.data=.fields vs∧vs[1]?=some (.str q tk)
 |.met f x=>h.get? a=some (zbk5 (.ref f) (.ref x))
 |.ext φ=>φ h∧(∃o,h.get? a=some o)∧∀h1 h2:Heap,φ h1→(∀o,h1.get? a=some o→h2.get? a=some o)→φ h2
def HOk (H:Hp) (h:Heap):Prop := ∀a o,H a=some o→ObjOk P w H h a o
end
section
variable {P:Program}{w:World}{H H':Hp}{h h':Heap}{a:Addr}{o:HO}
theorem ObjOk.lt (x:ObjOk P w H h a o):a<h.objs.size:=by
 cases o with
 |lst xs=>obtain⟨_,_,_,_,e⟩:=x;exact zaz5 e
 |tup xs=>obtain⟨_,_,_,p⟩:=x;exact p.lt
 |dK kvs=>obtain⟨_,_,_,_,o,_,_,e,_⟩:=x;exact zaz5 e
 |dT kvs=>obtain⟨_,_,_,_,o,_,_,e,_⟩:=x;exact zaz5 e
 |set S n=>obtain⟨o,_,_,_,e,_⟩:=x;exact zaz5 e
 |ins C dx fs=>obtain⟨_,_,_,e,_⟩:=x;exact zaz5 e
 |own y=>obtain⟨_,e⟩:=x;exact zaz5 e
 |xd fs=>obtain⟨_,⟨_,_,_,e,_⟩,_⟩:=x;exact zaz5 e
 |rng lo hi=>obtain⟨_,_,_,e⟩:=x;exact zaz5 e
 |frz ob u=>obtain⟨e,_⟩:=x;exact zaz5 e
 |tbl q=>obtain⟨_,e,_⟩:=x;exact zaz5 e
 |met f y=>exact zaz5 (show h.get? a=some _ from x)
 |ext φ=>obtain⟨_,⟨_,e⟩,_⟩:=x;exact zaz5 e
theorem Paired.mapP {α β:Type}{F G:α→β→Prop}:∀ {l₁:List α}{l₂:List β},Paired F l₁ l₂→(∀a b,F a b→G a b)→Paired G l₁ l₂
 |_,_,.nil,_=>.nil
 |_,_,.cons r t,f=>.cons (f _ _ r) (Paired.mapP t f)
theorem ObjOk.stay (x:ObjOk P w H h a o) (k:∀b u,(b=a∨H b=some (.own a))→h.get? b=some u→h'.get? b=some u)
  (ho:∀b,H b=some (.own a)→H' b=some (.own a)) (ht:∀b xs,H b=some (.tup xs)→H' b=some (.tup xs)) (hz:∀b o u,H b=some (.frz o u)→H' b=some (.frz o u)):ObjOk P w H' h' a o:=by
 induction o with
 |lst xs=>obtain⟨z,its,n,r,e⟩:=x;exact⟨z,its,n,r,k _ _ (.inl rfl) e⟩
 |tup xs=>obtain⟨z,its,r,ob,e,c⟩:=x;exact⟨z,its,r,ob,k _ _ (.inl rfl) e,c⟩
 |dK kvs=>obtain⟨z,y,vs,r,ob,es,ep,e,c⟩:=x;exact⟨z,y,vs,r,ob,es,ep,k _ _ (.inl rfl) e,c⟩
 |dT kvs =>
  obtain⟨z,y,xs,r,ob,es,ep,e,c⟩:=x
  exact⟨z,y,xs,Paired.mapP r fun p q z=>⟨z.1,ht _ _ z.2.1,z.2.2⟩,ob,es,ep,k _ _ (.inl rfl) e,c⟩
 |set S n=>obtain⟨ob,es,ep,t,e,c⟩:=x;exact⟨ob,es,ep,t,k _ _ (.inl rfl) e,c⟩
 |ins C dx fs =>
  obtain⟨d,z,ne,e,mA,⟨od,es,ep,e2,c⟩,r⟩:=x
  exact⟨ho _ d,z,ne,k _ _ (.inl rfl) e,mA,⟨od,es,ep,k _ _ (.inr d) e2,c⟩,r⟩
 |own y=>obtain⟨ob,e⟩:=x;exact⟨ob,k _ _ (.inl rfl) e⟩
 |xd fs=>obtain⟨mA,⟨od,es,ep,e,c⟩,r⟩:=x;exact⟨mA,⟨od,es,ep,k _ _ (.inl rfl) e,c⟩,r⟩
 |rng lo hi=>obtain⟨t,u,v,e⟩:=x;exact⟨t,u,v,k _ _ (.inl rfl) e⟩
 |frz ob u ih=>obtain⟨e,q⟩:=x;exact⟨k _ _ (.inl rfl) e,ih q⟩
 |tbl q=>obtain⟨ps,e,t,r⟩:=x;exact⟨ps,k _ _ (.inl rfl) e,t,fun pos cv z=>let ⟨c,oc,vs,tk,a1,a2,a3⟩:=r pos cv z;⟨c,oc,vs,tk,a1,hz _ _ _ a2,a3⟩⟩
 |met f y =>
  have e:h.get? a=some (zbk5 (.ref f) (.ref y)):=x
  show h'.get? a=some (zbk5 (.ref f) (.ref y))
  exact k a _ (.inl rfl) e
 |ext φ=>obtain⟨p,⟨o,e⟩,st⟩:=x;exact⟨st _ _ p fun o q=>k _ _ (.inl rfl) q,⟨o,k _ _ (.inl rfl) e⟩,st⟩
theorem HOk.lt (x:HOk P w H h) (e:H a=some o):a<h.objs.size:=(x a o e).lt
theorem HOk.fresh (x:HOk P w H h) (e:h.objs.size≤a):H a=none:=by
 cases q:H a with
 |none=>rfl
 |some u=>exact absurd (zay8 (x.lt q) e) (zbd6 _)
theorem HOk.kept (x:HOk P w H h) (k:∀b u,h.get? b=some u→h'.get? b=some u):HOk P w H h':=fun a o e =>
 (x a o e).stay (fun b u _ q=>k b u q) (fun _ q=>q) (fun _ _ q=>q) fun _ _ _ q=>q
theorem HOk.laid (x:HOk P w H h) (k:∀b u,h.get? b=some u→h'.get? b=some u) (hp:h.objs.size≤a) (new:ObjOk P w (upd H a o) h' a o):HOk P w (upd H a o) h':=fun b u e=>by
 have hn:=x.fresh hp
 by_cases hb:b=a
 ·subst hb;rw [za9]at e;cases e;exact new
 ·rw [zb3 hb]at e
  exact (x b u e).stay (fun c v _ q=>k c v q) (fun c q=>by rw [zb3 (zi5 q hn)];exact q) (fun c xs q=>by rw [zb3 (zi5 q hn)];exact q) fun c o u q=>by rw [zb3 (zi5 q hn)];exact q
end
def Rd (H:Hp) (a:Addr) (u:HO):Prop:=H a=some u∨∃o,H a=some (.frz o u)
theorem Rd.ok {P:Program}{w:World}{H:Hp}{h:Heap}{a:Addr}{u:HO} (r:Rd H a u) (x:HOk P w H h):ObjOk P w H h a u:=by
 rcases r with r | ⟨o,r⟩
 ·exact x a u r
 ·obtain⟨_,q⟩:=x a _ r
  exact q
noncomputable def Mut:Option HO→Prop
 |some (.lst _)=>True
 |some (.dK _)=>True
 |some (.dT _)=>True
 |some (.set _ _)=>True
 |some (.ins _ _ _)=>True
 |some (.ext _)=>True
 |_=>False
section
variable {P:Program}{w:World}{H:Hp}{h h':Heap}{x e:Addr}{o':HO}
theorem HOk.write (ok:HOk P w H h) (mu:Mut (H x)) (he:e=x∨H e=some (.own x)) (k:∀b u,b≠e→h.get? b=some u→h'.get? b=some u) (heo:∃u,h'.get? e=some u)
  (new:ObjOk P w (upd H x o') h' x o'):HOk P w (upd H x o') h':=fun b u q=>by
 have nown:∀c y,H c=some (.own y)→c≠x:=fun c y r z=>by subst z;rw [r]at mu;exact mu
 have ntup:∀c xs,H c=some (.tup xs)→c≠x:=fun c xs r z=>by subst z;rw [r]at mu;exact mu
 by_cases hb:b=x
 ·subst hb;rw [za9]at q;cases q;exact new
 ·rw [zb3 hb]at q
  by_cases hbe:b=e
  ·have q':H b=some (.own x):=by
    rcases he with z | z
    ·exact absurd (hbe.trans z) hb
    ·rw [hbe];exact z
   rw [q]at q';cases q'
   obtain⟨v,hv⟩:=heo
   exact⟨v,by rw [hbe];exact hv⟩
  ·refine (ok b u q).stay (fun c v hc r=>k c v ?_ r) (fun c r=>by rw [zb3 (nown c b r)];exact r) (fun c xs r=>by rw [zb3 (ntup c xs r)];exact r) fun c o u r=>by rw [zb3 (fun z=>by subst z;rw [r]at mu;exact mu)];exact r
   rcases hc with rfl | hc
   ·exact hbe
   ·rintro rfl
    rcases he with z | z
    ·exact nown c b hc z
    ·rw [hc]at z;cases z;exact hb rfl
end
structure Un (fs ex:List Addr) (H H':Hp) (h h':Heap):Prop where
 keep:∀b o,h.get? b=some o→H b=none→b∉fs→b∉ex→h'.get? b=some o
 slot:∀b o,h.get? b=some o→H b=none→b∈fs→b∉ex→∃sl,h'.get? b=some { o with slots:=sl }
 free:∀b o,h.get? b=some o→H b=none→b∉ex→H' b=none
 there:∀b o,h.get? b=some o→b∉ex→∃o',h'.get? b=some o'
 tups:∀b xs,H b=some (.tup xs)→H' b=some (.tup xs)
 frzs:∀b o u,H b=some (.frz o u)→H' b=some (.frz o u)
 tbls:∀b q,H b=some (.tbl q)→H' b=some (.tbl q)
section
variable {fs fs' ex ex':List Addr}{H H1 H2:Hp}{h h1 h2 h':Heap}{a x e:Addr}{o:HO}
theorem Un.any (u:Un fs ex H H1 h h1) {b:Addr}{ob:Obj} (q:h.get? b=some ob) (n:H b=none) (hx:b∉ex):∃sl,h1.get? b=some { ob with slots:=sl }:=by
 by_cases hb:b∈fs
 ·exact u.slot b ob q n hb hx
 ·exact⟨ob.slots,u.keep b ob q n hb hx⟩
theorem Un.trans (a:Un fs ex H H1 h h1) (b:Un fs ex H1 H2 h1 h2):Un fs ex H H2 h h2 where
 keep:=fun c ob q n hc hx=>b.keep c ob (a.keep c ob q n hc hx) (a.free c ob q n hx) hc hx
 slot:=fun c ob q n hc hx=>by
  obtain⟨sl,e1⟩:=a.slot c ob q n hc hx
  obtain⟨sl',e2⟩:=b.slot c _ e1 (a.free c ob q n hx) hc hx
  exact⟨sl',e2⟩
 free:=fun c ob q n hx=>by
  obtain⟨o',e1⟩:=a.there c ob q hx
  exact b.free c o' e1 (a.free c ob q n hx) hx
 there:=fun c ob q hx=>by
  obtain⟨o',e1⟩:=a.there c ob q hx
  exact b.there c o' e1 hx
 tups:=fun c xs q=>b.tups c xs (a.tups c xs q)
 frzs:=fun c ob xs q=>b.frzs c ob xs (a.frzs c ob xs q)
 tbls:=fun c q e=>b.tbls c q (a.tbls c q e)
theorem Un.kept (k:∀b u,h.get? b=some u→h'.get? b=some u):Un fs ex H H h h' :=
 ⟨fun b ob q _ _ _=>k b ob q,fun b ob q _ _ _=>⟨ob.slots,k b ob q⟩,fun _ _ _ n _=>n,fun b ob q _=>⟨ob,k b ob q⟩,fun _ _ q=>q,fun _ _ _ q=>q,fun _ _ q=>q⟩
theorem Un.refl:Un fs ex H H h h:=Un.kept fun _ _ q=>q
theorem Un.laid (k:∀b u,h.get? b=some u→h'.get? b=some u) (hp:h.objs.size≤a) (hn:H a=none):Un fs ex H (upd H a o) h h' where
 keep:=fun b u q _ _ _=>k b u q
 slot:=fun b u q _ _ _=>⟨u.slots,k b u q⟩
 free:=fun b u q n _=>by rw [zb3 (zba4 (zay8 (zaz5 q) hp))];exact n
 there:=fun b u q _=>⟨u,k b u q⟩
 tups:=fun b xs q=>by rw [zb3 (zi5 q hn)];exact q
 frzs:=fun b u xs q=>by rw [zb3 (zi5 q hn)];exact q
 tbls:=fun b ps q=>by rw [zb3 (zi5 q hn)];exact q
theorem Un.write (mu:Mut (H x)) (he:e=x∨H e=some (.own x)) (k:∀b u,b≠e→h.get? b=some u→h'.get? b=some u) (heo:∃u,h'.get? e=some u):Un fs ex H (upd H x o) h h':=by
 have hx:∀b,H b=none→b≠x:=fun b n z=>by subst z;rw [n]at mu;exact mu
 have hb:∀b,H b=none→b≠e:=fun b n z=>by
  subst z
  rcases he with r | r
  ·exact hx b n r
  ·rw [n]at r;cases r
 have hm:∀b u,H b=some u → ¬ Mut (some u)→b≠x:=fun b u q nm z=>by subst z;rw [q]at mu;exact nm mu
 refine⟨fun b u q n _ _=>k b u (hb b n) q,fun b u q n _ _=>⟨u.slots,k b u (hb b n) q⟩,fun b u q n _=>by rw [zb3 (hx b n)];exact n,fun b u q _=>?_,
  fun b xs q=>by rw [zb3 (hm b _ q fun z=>z)];exact q,fun b u xs q=>by rw [zb3 (hm b _ q fun z=>z)];exact q,fun b ps q=>by rw [zb3 (hm b _ q fun z=>z)];exact q⟩
 by_cases hbe:b=e
 ·subst hbe;exact heo
 ·exact⟨u,k b u hbe q⟩
end
def trk (h:Heap) (H:Hp):List Addr:=(zbb6 h.objs.size).filter fun a=>(H a).isSome
def hidT (h:Heap) (H:Hp):Heap:=PySem.W.hideAll h (trk h H)
theorem zau4 (h:Heap) (H:Hp):(hidT h H).objs.size=h.objs.size:=PySem.W.hideAll_size _ _
theorem zt1 {h:Heap}{H:Hp}{b:Addr}{o:Obj} (e:h.get? b=some o) (n:H b=none):(hidT h H).get? b=some o :=
 PySem.W.hideAll_get _ e fun hm=>by
  have q:(H b).isSome=true:=(zbd9.mp hm).2
  rw [n]at q;simp at q
theorem of_hidT {h:Heap}{H:Hp}{b:Addr}{o:Obj} (e:(hidT h H).get? b=some o):h.get? b=some o∧H b=none:=by
 have e':h.get? b=some o:=PySem.W.of_hideAll (trk h H) e
 refine⟨e',?_⟩
 cases q:H b with
 |none=>rfl
 |some x =>
  have hm:b∈trk h H:=zbd9.mpr ⟨zbi0.mpr (zaz5 e'),by simp [q]⟩
  have z:(hidT h H).get? b=none:=PySem.W.hideAll_none (trk h H) hm
  rw [z]at e;cases e
noncomputable def allNews (g h:Heap) (L:Addr):List (Addr×Obj):=(zbb6 h.objs.size).filterMap fun a=>if a=L∨(g.get? a).isSome=true then none else (h.get? a).map fun o=>(a,o)
def rest (g h:Heap) (L d:Addr):List (Addr×Obj):=(allNews g h L).filter fun p=>decide (p.1≠d)
end L2
namespace L2
open PySem.Spec
structure BHeap extends Heap where
 tabs:List (Addr×Str)
instance:Coe BHeap Heap:=⟨BHeap.toHeap⟩
structure Mod (K:zax7) (mg:Str→Option Value) (base:BHeap):Prop where
 kin:K.In base
 glob:base.Ns mainGlobals mg
 blt:∃mb,base.Ns builtinsNs mb∧∀x:Str,x≠"__name__"→mb x=bootBuiltins x
 nolimit:base.NoLimit
 bm:∃(bm:Addr) (ob:Obj),mg "__builtins__"=some (.ref bm)∧bm≠builtinsNs∧base.get? bm=some ob∧ob.cls=.type "module"∧ob.dict=some builtinsNs∧ob.data=.plain
structure Cx where
 prog:Program
 w:World
 K:zax7
 mg:Str→Option Value
 base:BHeap
 A:Around
 N:List Str
 s₀:zaz0
 H₀:Hp
 env:Env
 outer:List Env
 stack:List Env
 ex:List Addr
 fn:Str→Bool
 calm:Bool
 pn:List (Addr×Obj)
 xe:Value→zaz0→Prop
def frs (l:List Env):List Addr:=l.filterMap (·.frame)
abbrev Cx.fs (X:Cx):List Addr:=frs X.outer
def Vis (sc:Scope) (x:Str):Prop:=sc.names.lookup x=some .local∨sc.names.lookup x=some .cell∨sc.names.lookup x=some .free
def Loc (sc:Scope) (x:Str):Prop:=sc.names.lookup x=some .local∨sc.names.lookup x=some .cell
noncomputable def Look (env:Env) (h:Heap) (m:Str→Option Value) (x:Str) (u:Value):Prop :=
 (env.kindOf x=some .local∧m x=some u)∨((env.kindOf x=some .cell∨env.kindOf x=some .free)∧∃c,env.cells.lookup x=some c∧h.IsCell c (some u))
structure Cx.Ok (X:Cx):Prop where
 mod:Mod X.K X.mg X.base
 kind:X.env.scope.kind=.function
 glob:X.env.globals=mainGlobals
 blt:X.env.builtins=builtinsNs
 above:X.s₀.heap.objs.size≤X.env.locals
 inj:∀x y c,X.env.cells.lookup x=some c→X.env.cells.lookup y=some c→x=y
 has:∀x,(X.env.kindOf x=some .cell∨X.env.kindOf x=some .free)→∃c,X.env.cells.lookup x=some c
 cab:∀x c,X.fn x=true→X.env.cells.lookup x=some c→X.s₀.heap.objs.size≤c
 hd:X.calm=true→X.A.handled=none
 frames:X.A.frames=some X.stack
 stk:X.stack=X.outer∨(X.stack=X.env::X.outer∧X.env.frame=some X.env.locals)
 exf:∀b∈X.ex,b≠X.env.locals∧∀x c,X.env.cells.lookup x=some c→c≠b
 bs:∀b o,X.base.get? b=some o→X.s₀.heap.get? b=some o∧X.H₀ b=none
 bsz:X.base.objs.size≤X.s₀.heap.objs.size
 noex:∀b o,X.base.get? b=some o→b∉X.ex
 exfs:∀b∈X.ex,b∉X.fs
 funs:X.s₀.heap.FunFrames X.base X.outer
 frf:∀b∈X.fs,X.H₀ b=none
 tabs:∀p∈X.base.tabs,X.H₀ p.1=some (.tbl p.2)
structure Inv (X:Cx) (pins:List (Addr×Obj)) (σ:List (Option V)) (H:Hp) (s:zaz0):Prop where
 ok:X.Ok
 os:s.os=X.s₀.os
 bare:AllBare s.gens
 base:Un X.fs X.ex X.H₀ H X.s₀.heap s.heap
 loc:∃m,s.heap.Ns X.env.locals m∧∀(i:Nat) (x:Str) (v:V),X.N[i]?=some x→σ[i]?=some (some v)→Vis X.env.scope x→∃u,RelV v u∧Look X.env s.heap m x u
 cell:∀x c,X.env.cells.lookup x=some c→∃v,s.heap.IsCell c v
 free:H X.env.locals=none
 freeC:∀x c,X.env.cells.lookup x=some c→H c=none
 pin:∀p∈X.pn++pins,s.heap.get? p.1=some p.2∧H p.1=none∧p.1≠X.env.locals∧p.1∉X.fs∧∀v,p.2.data≠.cell v
 hok:HOk X.prog X.w H s.heap
 len:σ.length=X.N.length
section
variable {X:Cx}{pins:List (Addr×Obj)}{σ:List (Option V)}{H H':Hp}{s:zaz0}{h':Heap}
theorem Cx.Ok.nofr (ok:X.Ok) {b:Addr}{o:Obj} (e:X.base.get? b=some o):b∉X.fs:=fun hb=>by
 have:=(ok.funs.mem hb).1
 rw [e]at this;cases this
theorem Inv.bs (I:Inv X pins σ H s):∀b o,X.base.get? b=some o→s.heap.get? b=some o∧H b=none:=fun b o e =>
 ⟨I.base.keep b o (I.ok.bs b o e).1 (I.ok.bs b o e).2 (I.ok.nofr e) (I.ok.noex b o e),I.base.free b o (I.ok.bs b o e).1 (I.ok.bs b o e).2 (I.ok.noex b o e)⟩
theorem Inv.bk (I:Inv X pins σ H s):∀b o,X.base.get? b=some o→s.heap.get? b=some o:=fun b o e=>(I.bs b o e).1
theorem Inv.mod (I:Inv X pins σ H s):Mod X.K X.mg X.base:=I.ok.mod
theorem Inv.kIn (I:Inv X pins σ H s):X.K.In s.heap:=I.ok.mod.kin.keeps I.bk
theorem Inv.lt (I:Inv X pins σ H s):X.env.locals<s.heap.objs.size:=let ⟨_,hn,_⟩:=I.loc;hn.lt
theorem Inv.sz (I:Inv X pins σ H s):X.s₀.heap.objs.size≤s.heap.objs.size:=zaz4 I.ok.above (zbj9 I.lt)
theorem Inv.nofs (I:Inv X pins σ H s) {a:Addr} (h:s.heap.objs.size≤a):a∉X.fs:=fun hb=>by
 obtain⟨_,o,ho,_⟩:=I.ok.funs.mem hb
 exact absurd (zay8 (zaz5 ho) (zaz4 I.sz h)) (zbd6 _)
theorem Inv.cne (I:Inv X pins σ H s):∀x c,X.env.cells.lookup x=some c→c≠X.env.locals:=fun x c e z=>by
 obtain⟨v,o,ho,hd⟩:=I.cell x c e
 obtain⟨m,⟨o',es,ep,ho',hd',_⟩,_⟩:=I.loc
 rw [z,ho']at ho;cases ho;rw [hd']at hd;cases hd
theorem Inv.funs (I:Inv X pins σ H s):s.heap.FunFrames X.base X.outer:=by
 have all:∀(l:List Env),(∀b∈frs l,b∈X.fs)→X.s₀.heap.FunFrames X.base l→s.heap.FunFrames X.base l:=by
  intro l
  induction l with
  |nil=>intro _ _;trivial
  |cons env r ih =>
   intro hs hl
   obtain⟨hk,⟨L,o,hf,hn,ho,hd⟩,hr⟩:=hl
   have hL:L∈X.fs:=hs L (by unfold frs;rw [zbi6,hf];exact zay1)
   obtain⟨sl,e⟩:=I.base.slot L o ho (I.ok.frf L hL) hL fun z=>I.ok.exfs L z hL
   exact⟨hk,⟨L,_,hf,hn,e,hd⟩,ih (fun b hb=>hs b (by unfold frs;rw [zbi6,hf];exact zax9 _ hb)) hr⟩
 exact all X.outer (fun _ hb=>hb) I.ok.funs
theorem Inv.stack (I:Inv X pins σ H s):s.heap.FunFrames X.base X.stack:=by
 rcases I.ok.stk with e | ⟨e,hf⟩
 ·rw [e];exact I.funs
 ·rw [e]
  obtain⟨m,hn,_⟩:=I.loc
  refine .cons (by rw [I.ok.kind];decide) hf hn ?_ I.funs
  exact Heap.get?_none_of_le (zaz4 I.ok.bsz I.ok.above)
theorem Inv.stkSub (I:Inv X pins σ H s):∀b∈frs X.stack,b∈X.env.locals::X.fs:=fun b hb=>by
 rcases I.ok.stk with e | ⟨e,hf⟩
 ·rw [e]at hb;exact zax9 _ hb
 ·rw [e]at hb
  unfold frs at hb
  rw [zbi6,hf]at hb
  exact hb
theorem Inv.stkFree (I:Inv X pins σ H s):∀b∈frs X.stack,H b=none:=fun b hb=>by
 rcases zay5.mp (I.stkSub b hb) with e | hb
 ·rw [e];exact I.free
 ·obtain⟨_,o,ho,_⟩:=I.ok.funs.mem hb
  exact I.base.free b o ho (I.ok.frf b hb) fun z=>I.ok.exfs b z hb
theorem Inv.step {g':Array GenState}{t':Nat}{d':Drawn}{ch:List Addr} (I:Inv X pins σ H s)
  (hch:∀b∈ch,(b∈X.ex∨X.s₀.heap.objs.size≤b)∧b≠X.env.locals∧(∀x c,X.env.cells.lookup x=some c→c≠b)∧∀p∈X.pn++pins,p.1≠b)
  (keep:∀b o,b≠X.env.locals→b∉X.fs→b∉ch→s.heap.get? b=some o→H b=none→h'.get? b=some o)
  (slot:∀b o,b≠X.env.locals→b∈X.fs→b∉ch→s.heap.get? b=some o→H b=none→∃sl,h'.get? b=some { o with slots:=sl }) (free:∀b o,b∉ch→s.heap.get? b=some o→H b=none→H' b=none)
  (there:∀b o,b∉ch→s.heap.get? b=some o→∃o',h'.get? b=some o')
  (tups:∀b xs,H b=some (.tup xs)→H' b=some (.tup xs)) (frzs:∀b o u,H b=some (.frz o u)→H' b=some (.frz o u)) (tbls:∀b q,H b=some (.tbl q)→H' b=some (.tbl q))
  (ns:∀m,s.heap.Ns X.env.locals m→h'.Ns X.env.locals m) (hok:HOk X.prog X.w H' h') (hg:AllBare g') :
  Inv X pins σ H' { s with heap:=h',gens:=g',drawn:=d',toks:=t' }:=by
 have neL:∀b o,X.s₀.heap.get? b=some o→b≠X.env.locals:=fun b o e=>zba4 (zay8 (zaz5 e) I.ok.above)
 have neC:∀b o,X.s₀.heap.get? b=some o→b∉X.ex→b∉ch:=fun b o e hx hb=>by
  rcases (hch b hb).1 with z | z
  ·exact hx z
  ·exact absurd (zay8 (zaz5 e) z) (zbd6 _)
 have cellK:∀x c,X.env.cells.lookup x=some c→∀v,s.heap.IsCell c v→h'.IsCell c v:=fun x c e v ⟨o,ho,hd⟩=>by
  have nch:c∉ch:=fun z=>(hch c z).2.2.1 x c e rfl
  by_cases hc:c∈X.fs
  ·obtain⟨sl,q⟩:=slot c o (I.cne x c e) hc nch ho (I.freeC x c e)
   exact⟨_,q,hd⟩
  ·exact⟨o,keep c o (I.cne x c e) hc nch ho (I.freeC x c e),hd⟩
 refine⟨I.ok,I.os,hg,⟨fun b o e n hb hx=>?_,fun b o e n hb hx=>?_,fun b o e n hx=>?_,fun b o e hx=>?_,fun b xs e=>tups b xs (I.base.tups b xs e),fun b o xs e=>frzs b o xs (I.base.frzs b o xs e),fun b ps e=>?_⟩,?_,fun x c e=>?_,?_,fun x c e=>?_,fun p hp=>?_,hok,I.len⟩
 ·exact keep b o (neL b o e) hb (neC b o e hx) (I.base.keep b o e n hb hx) (I.base.free b o e n hx)
 ·obtain⟨sl,e1⟩:=I.base.slot b o e n hb hx
  obtain⟨sl',e2⟩:=slot b _ (neL b o e) hb (neC b o e hx) e1 (I.base.free b o e n hx)
  exact⟨sl',e2⟩
 ·obtain⟨o',e1⟩:=I.base.there b o e hx
  exact free b o' (neC b o e hx) e1 (I.base.free b o e n hx)
 ·obtain⟨o',e1⟩:=I.base.there b o e hx
  exact there b o' (neC b o e hx) e1
 ·exact tbls b _ (I.base.tbls b ps e)
 ·obtain⟨m,hn,hl⟩:=I.loc
  refine⟨m,ns m hn,fun i x v e1 e2 e3=>?_⟩
  obtain⟨u,r,l⟩:=hl i x v e1 e2 e3
  refine⟨u,r,?_⟩
  rcases l with l | ⟨k,c,e,z⟩
  ·exact .inl l
  ·exact .inr ⟨k,c,e,cellK x c e _ z⟩
 ·obtain⟨v,z⟩:=I.cell x c e
  exact⟨v,cellK x c e v z⟩
 ·obtain⟨m,⟨o,_,_,ho,_⟩,_⟩:=I.loc
  exact free _ o (fun z=>(hch _ z).2.1 rfl) ho I.free
 ·obtain⟨v,o,ho,hd⟩:=I.cell x c e
  exact free c o (fun z=>(hch c z).2.2.1 x c e rfl) ho (I.freeC x c e)
 ·obtain⟨e,n,ne,nf,d⟩:=I.pin p hp
  have nch:p.1∉ch:=fun z=>(hch p.1 z).2.2.2 p hp rfl
  exact⟨keep p.1 p.2 ne nf nch e n,free p.1 p.2 nch e n,ne,nf,d⟩
theorem Inv.un {t':Nat} (I:Inv X pins σ H s) (u:Un X.fs [] H H' s.heap h') (hok:HOk X.prog X.w H' h'):Inv X pins σ H' { s with heap:=h',toks:=t' }:=by
 obtain⟨m,⟨o,es,ep,ho,r⟩,_⟩:=id I.loc
 obtain⟨sl,hL⟩:=u.any ho I.free (by simp)
 exact I.step (g':=s.gens) (d':=s.drawn) (ch:=[]) (fun _ z=>nomatch z) (fun b o _ hb _ e n=>u.keep b o e n hb (by simp)) (fun b o _ hb _ e n=>u.slot b o e n hb (by simp)) (fun b o _ e n=>u.free b o e n (by simp)) (fun b o _ e=>u.there b o e (by simp)) u.tups u.frzs u.tbls (fun m' hm=>by
  obtain⟨o',es',ep',ho',r'⟩:=hm
  rw [ho]at ho';cases ho'
  exact⟨_,es',ep',hL,r'⟩) hok I.bare
theorem Inv.call {g':Array GenState}{t':Nat}{d':Drawn}{ch:List Addr} (I:Inv X pins σ H s) (u:Un (frs X.stack) ch H H' s.heap h') (hok:HOk X.prog X.w H' h') (hg:AllBare g')
  (hch:∀b∈ch,(b∈X.ex∨X.s₀.heap.objs.size≤b)∧b≠X.env.locals∧(∀x c,X.env.cells.lookup x=some c→c≠b)∧∀p∈X.pn++pins,p.1≠b) :
  Inv X pins σ H' { s with heap:=h',gens:=g',drawn:=d',toks:=t' }:=by
 obtain⟨m,⟨o,es,ep,ho,r⟩,_⟩:=id I.loc
 obtain⟨sl,hL⟩:=u.any ho I.free fun z=>(hch _ z).2.1 rfl
 exact I.step (ch:=ch) hch (fun b o hL hb hc e n=>u.keep b o e n (fun z=>(zay5.mp (I.stkSub b z)).elim hL hb) hc) (fun b o _ _ hc e n=>u.any e n hc) (fun b o hc e n=>u.free b o e n hc) (fun b o hc e=>u.there b o e hc) u.tups u.frzs u.tbls (fun m' hm=>by
  obtain⟨o',es',ep',ho',r'⟩:=hm
  rw [ho]at ho';cases ho'
  exact⟨_,es',ep',hL,r'⟩) hok hg
theorem Inv.turned {t':Nat}{it:Addr} (I:Inv X pins σ H s) (k:∀b o,b≠it→s.heap.get? b=some o→h'.get? b=some o) (hn:H it=none) (hL:it≠X.env.locals)
  (h1:it∈X.ex∨X.s₀.heap.objs.size≤it) (h2:∀x c,X.env.cells.lookup x=some c→c≠it) (h3:∀p∈X.pn++pins,p.1≠it):Inv X pins σ H { s with heap:=h',toks:=t' }:=by
 have nit:∀b u,H b=some u→b≠it:=fun b u e z=>by rw [z,hn]at e;cases e
 refine I.step (g':=s.gens) (d':=s.drawn) (ch:=[it]) (fun b hb=>?_) (fun b o _ _ hc e _=>k b o (fun z=>hc (by simp [z])) e) (fun b o _ _ hc e _=>⟨o.slots,k b o (fun z=>hc (by simp [z])) e⟩) (fun _ _ _ _ n=>n)
  (fun b o hc e=>⟨o,k b o (fun z=>hc (by simp [z])) e⟩) (fun _ _ e=>e) (fun _ _ _ e=>e) (fun _ _ e=>e) (fun m hm=>?_) (fun b u e=>?_) I.bare
 ·have e:b=it:=by simpa using hb
  subst e
  exact⟨h1,hL,h2,h3⟩
 ·obtain⟨o,es,ep,ho,r⟩:=hm
  exact⟨o,es,ep,k _ o (Ne.symm hL) ho,r⟩
 ·refine (I.hok b u e).stay (fun c v hc q=>k c v ?_ q) (fun _ q=>q) (fun _ _ q=>q) fun _ _ _ q=>q
  rcases hc with z | z
  ·rw [z];exact nit b u e
  ·exact nit c _ z
theorem Inv.tok (I:Inv X pins σ H s) (t:Nat):Inv X pins σ H { s with toks:=t }:=I.un (h':=s.heap) (t':=t) Un.refl I.hok
theorem Inv.kept {t':Nat} (I:Inv X pins σ H s) (k:∀b u,s.heap.get? b=some u→h'.get? b=some u):Inv X pins σ H { s with heap:=h',toks:=t' }:=I.un (Un.kept k) (I.hok.kept k)
theorem Inv.laid {a:Addr}{o:HO}{t':Nat} (I:Inv X pins σ H s) (k:∀b u,s.heap.get? b=some u→h'.get? b=some u) (hp:s.heap.objs.size≤a) (new:ObjOk X.prog X.w (upd H a o) h' a o) :
  Inv X pins σ (upd H a o) { s with heap:=h',toks:=t' }:=I.un (Un.laid k hp (I.hok.fresh hp)) (I.hok.laid k hp new)
theorem Inv.write {x e:Addr}{o:HO}{t':Nat} (I:Inv X pins σ H s) (mu:Mut (H x)) (he:e=x∨H e=some (.own x)) (k:∀b u,b≠e→s.heap.get? b=some u→h'.get? b=some u) (heo:∃u,h'.get? e=some u)
  (new:ObjOk X.prog X.w (upd H x o) h' x o):Inv X pins σ (upd H x o) { s with heap:=h',toks:=t' }:=I.un (Un.write mu he k heo) (I.hok.write mu he k heo new)
theorem Inv.pins_of {pins':List (Addr×Obj)} (I:Inv X pins σ H s) (h:∀p∈pins',s.heap.get? p.1=some p.2∧H p.1=none∧p.1≠X.env.locals∧p.1∉X.fs∧∀v,p.2.data≠.cell v):Inv X pins' σ H s :=
 ⟨I.ok,I.os,I.bare,I.base,I.loc,I.cell,I.free,I.freeC,fun p hp=>(zay0.mp hp).elim (fun z=>I.pin p (zax8 _ z)) (h p),I.hok,I.len⟩
theorem zak8 {N:List Str} (hN:N.Nodup) {i j:Nat}{x:Str} (a:N[i]?=some x) (b:N[j]?=some x):i=j:=by
 obtain⟨h1,e1⟩:=zbc7.mp a
 obtain⟨h2,e2⟩:=zbc7.mp b
 exact (List.getElem_inj hN).mp (e1.trans e2.symm)
theorem zab3 {M:Model}{A:Around}{E:Value→zaz0→Prop}{i:Nat}{x:Str}{v:V}{u:Value}{Q:Unit→zaz0→Prop} (I:Inv X pins σ H s) (hN:X.N.Nodup) (hi:X.N[i]?=some x) (hx:Loc X.env.scope x) (r:RelV v u)
  (h:∀s',Inv X pins (σ.set i (some v)) H s'→(∃a,Heap.SameBut a s.heap s'.heap∧(a=X.env.locals∨X.env.cells.lookup x=some a))→Q () s') (hf:X.fn x=true∨X.env.scope.names.lookup x=some .local:=by first | exact .inl rfl | exact .inr rfl | assumption):wpAny M A (storeName X.env x u) Q E s:=by
 obtain⟨m,hn,hl⟩:=id I.loc
 have hcls:(X.env.scope.kind == .class||(X.env.scope.kind == .module&&X.env.locals != X.env.globals))=false:=by rw [I.ok.kind];rfl
 have hiσ:i<σ.length:=by rw [I.len];exact (zbc7.mp hi).1
 have cne:=I.cne
 have tracked:∀ {a:Addr}{h':Heap},(∃o,s.heap.get? a=some o∧H a=none)→Heap.SameBut a s.heap h'→HOk X.prog X.w H h':=fun {a h'} ha hs b ob e=>by
  obtain⟨_,_,hfree⟩:=ha
  refine (I.hok b ob e).stay (fun c w' hc q=>(hs.2 c ?_).trans q) (fun _ q=>q) (fun _ _ q=>q) fun _ _ _ q=>q
  rintro rfl
  rcases hc with rfl | hc
  ·rw [hfree]at e;cases e
  ·rw [hfree]at hc;cases hc
 rcases hx with hk | hk
 ·refine wpAny_storeName_local hk hn (fun h' hn' hs=>?_) hcls
  obtain⟨oL,_,_,hoL,_⟩:=id hn
  refine h _ ⟨I.ok,I.os,I.bare,⟨fun b o e n hb hx=>?_,fun b o e n hb hx=>?_,I.base.free,fun b o e hx=>?_,I.base.tups,I.base.frzs,I.base.tbls⟩,⟨_,hn',fun j y v' e1 e2 e3=>?_⟩,fun y c e=>?_,I.free,I.freeC,fun p hp=>?_,tracked ⟨oL,hoL,I.free⟩ hs,by simpa using I.len⟩ ⟨_,hs,.inl rfl⟩
  ·exact (hs.2 b (zba4 (zay8 (zaz5 e) I.ok.above))).trans (I.base.keep b o e n hb hx)
  ·obtain⟨sl,e1⟩:=I.base.slot b o e n hb hx
   exact⟨sl,(hs.2 b (zba4 (zay8 (zaz5 e) I.ok.above))).trans e1⟩
  ·obtain⟨o',e1⟩:=I.base.there b o e hx
   exact⟨o',(hs.2 b (zba4 (zay8 (zaz5 e) I.ok.above))).trans e1⟩
  ·by_cases hj:j=i
   ·subst hj
    rw [hi]at e1;cases e1
    rw [zbf2 hiσ]at e2
    cases e2
    exact⟨u,r,.inl ⟨hk,by simp⟩⟩
   ·rw [zbg5 (Ne.symm hj)]at e2
    obtain⟨u',r',q⟩:=hl j y v' e1 e2 e3
    refine⟨u',r',?_⟩
    rcases q with ⟨k,e⟩ | ⟨k,c,e,z⟩
    ·refine .inl ⟨k,?_⟩
     have:y≠x:=fun e=>hj (zak8 hN e1 (e ▸ hi))
     simp [this,e]
    ·exact .inr ⟨k,c,e,z.sameBut hs (cne y c e)⟩
  ·obtain⟨w',z⟩:=I.cell y c e
   exact⟨w',z.sameBut hs (cne y c e)⟩
  ·obtain⟨e,n,ne,nf,d⟩:=I.pin p hp
   exact⟨(hs.2 p.1 ne).trans e,n,ne,nf,d⟩
 ·have hfn:X.fn x=true:=by
   rcases hf with z | z
   ·exact z
   ·rw [z]at hk;cases hk
  obtain⟨c,hc⟩:=I.ok.has x (.inl hk)
  obtain⟨w',z⟩:=I.cell x c hc
  refine wpAny_storeName_cell I.ok.kind hk hc z (fun h' hc' hs=>?_)
  obtain⟨oc,hoc,hocd⟩:=id z
  refine h { s with heap:=h' } ⟨I.ok,I.os,I.bare,⟨fun b o e n hb hx=>?_,fun b o e n hb hx=>?_,I.base.free,fun b o e hx=>?_,I.base.tups,I.base.frzs,I.base.tbls⟩,⟨m,hn.sameBut hs (Ne.symm (cne x c hc)),fun j y v' e1 e2 e3=>?_⟩,fun y c' e=>?_,I.free,I.freeC,fun p hp=>?_,tracked ⟨oc,hoc,I.freeC x c hc⟩ hs,by simpa using I.len⟩ ⟨c,hs,.inr hc⟩
  ·exact (hs.2 b (zba4 (zay8 (zaz5 e) (I.ok.cab x c hfn hc)))).trans (I.base.keep b o e n hb hx)
  ·obtain⟨sl,e1⟩:=I.base.slot b o e n hb hx
   exact⟨sl,(hs.2 b (zba4 (zay8 (zaz5 e) (I.ok.cab x c hfn hc)))).trans e1⟩
  ·obtain⟨o',e1⟩:=I.base.there b o e hx
   exact⟨o',(hs.2 b (zba4 (zay8 (zaz5 e) (I.ok.cab x c hfn hc)))).trans e1⟩
  ·by_cases hj:j=i
   ·subst hj
    rw [hi]at e1;cases e1
    rw [zbf2 hiσ]at e2
    cases e2
    exact⟨u,r,.inr ⟨.inl hk,c,hc,hc'⟩⟩
   ·rw [zbg5 (Ne.symm hj)]at e2
    obtain⟨u',r',q⟩:=hl j y v' e1 e2 e3
    refine⟨u',r',?_⟩
    rcases q with q | ⟨k,c',e,z'⟩
    ·exact .inl q
    ·refine .inr ⟨k,c',e,z'.sameBut hs ?_⟩
     rintro rfl
     exact hj (zak8 hN e1 (I.ok.inj _ _ _ e hc ▸ hi))
  ·by_cases hcc:c'=c
   ·subst hcc;exact⟨_,hc'⟩
   ·obtain⟨w2,z2⟩:=I.cell y c' e
    exact⟨w2,z2.sameBut hs hcc⟩
  ·obtain⟨e,n,ne,nf,d⟩:=I.pin p hp
   refine⟨(hs.2 p.1 ?_).trans e,n,ne,nf,d⟩
   intro q
   rw [q,hoc]at e
   have q':oc=p.2:=Option.some.inj e
   exact d w' (by rw [← q'];exact hocd)
theorem zp5 {M:Model}{A:Around}{E:Value→zaz0→Prop}{i:Nat}{x:Str}{v:V}{u:Value}{Q:Unit→zaz0→Prop} (I:Inv X pins σ H s) (hN:X.N.Nodup) (hi:X.N[i]?=some x) (hx:Loc X.env.scope x) (r:RelV v u)
  (h:∀s',Inv X pins (σ.set i (some v)) H s'→Q () s') (hf:X.fn x=true∨X.env.scope.names.lookup x=some .local:=by first | exact .inl rfl | exact .inr rfl | assumption):wpAny M A (storeName X.env x u) Q E s :=
 zab3 I hN hi hx r (fun s' I' _=>h s' I') hf
end
abbrev XK:=Value→Option Addr→Hp→Prop
abbrev St:=List (Option V)
abbrev VK:=V→Hp→Prop
abbrev TE:=St→Hp→VK→Prop
abbrev TT:=St→Hp→(Bool→Hp→Prop)→Prop
abbrev TA:=St→Hp→(List V→Hp→Prop)→Prop
structure Ends where
 nx:St→Hp→Prop
 rt:VK
 bk:St→Hp→Prop:=fun _ _=>False
 ct:St→Hp→Prop:=fun _ _=>False
abbrev TS:=Ends→St→Hp→Prop
def EP (X:Cx) (pins:List (Addr×Obj)) (σ:St) (Q:VK) (u:Value) (s':zaz0):Prop := ∃v H',Inv X pins σ H' s'∧RelV v u∧Q v H'
def TP (X:Cx) (pins:List (Addr×Obj)) (σ:St) (Q:Bool→Hp→Prop) (b:Bool) (s':zaz0):Prop := ∃H',Inv X pins σ H' s'∧Q b H'
noncomputable def AP (X:Cx) (pins:List (Addr×Obj)) (σ:St) (Q:List V→Hp→Prop) (us:List Value) (s':zaz0):Prop := ∃vs H',Inv X pins σ H' s'∧Vals vs us∧Q vs H'
noncomputable def SP (X:Cx) (pins:List (Addr×Obj)) (D:Ends) (f:Flow) (s':zaz0):Prop :=
 match f with
 |.next => ∃σ' H',Inv X pins σ' H' s'∧D.nx σ' H'
 |.brk => ∃σ' H',Inv X pins σ' H' s'∧D.bk σ' H'
 |.cont => ∃σ' H',Inv X pins σ' H' s'∧D.ct σ' H'
 |.ret u => ∃v σ' H',Inv X pins σ' H' s'∧RelV v u∧D.rt v H'
noncomputable def PE (X:Cx) (e:Expr) (t:TE):Prop :=
 ∀(pins:List (Addr×Obj)) (s:zaz0) (σ:St) (H:Hp) (Q:VK),Inv X pins σ H s→t σ H Q→wpAny (model X.prog X.w) X.A (eval e X.env) (EP X pins σ Q) X.xe s
noncomputable def PT (X:Cx) (e:Expr) (t:TT):Prop :=
 ∀(pins:List (Addr×Obj)) (s:zaz0) (σ:St) (H:Hp) (Q:Bool→Hp→Prop),Inv X pins σ H s→t σ H Q→wpAny (model X.prog X.w) X.A (isTrue e X.env (eval e X.env)) (TP X pins σ Q) X.xe s
noncomputable def PW (X:Cx) (e:Expr) (t:TT):Prop :=
 ∀(whole:Sem Value) (pins:List (Addr×Obj)) (s:zaz0) (σ:St) (H:Hp) (Q:Bool→Hp→Prop),Inv X pins σ H s→t σ H Q→wpAny (model X.prog X.w) X.A (isTrue e X.env whole) (TP X pins σ Q) X.xe s
theorem PW.pt {X:Cx}{e:Expr}{t:TT} (h:PW X e t):PT X e t:=h _
noncomputable def PA (X:Cx) (es:List Expr) (t:TA):Prop :=
 ∀(pos:Pos) (pins:List (Addr×Obj)) (s:zaz0) (σ:St) (H:Hp) (Q:List V→Hp→Prop),Inv X pins σ H s→t σ H Q→wpAny (model X.prog X.w) X.A (spliced (zbd7 pos (zaz1 es X.env))) (AP X pins σ Q) X.xe s
noncomputable def PS (X:Cx) (st:Stmt) (t:TS):Prop :=
 ∀(pins:List (Addr×Obj)) (s:zaz0) (σ:St) (H:Hp) (D:Ends),Inv X pins σ H s→t D σ H→wpAny (model X.prog X.w) X.A (exec st X.env) (SP X pins D) X.xe s
noncomputable def PSs (X:Cx) (st:List Stmt) (t:TS):Prop :=
 ∀(pins:List (Addr×Obj)) (s:zaz0) (σ:St) (H:Hp) (D:Ends),Inv X pins σ H s→t D σ H→wpAny (model X.prog X.w) X.A (execs st X.env) (SP X pins D) X.xe s
theorem thn {α:Type}{t:Sem α}{Q Q':α→zaz0→Prop}{M:Model}{A:Around}{E:Value→zaz0→Prop}{s:zaz0} (h:wpAny M A t Q E s) (hQ:∀a s,Q a s→Q' a s):wpAny M A t Q' E s:=wpAny_mono h hQ fun _ _ x=>x
end L2
namespace L2
open PySem.Spec
section
variable {X:Cx}
theorem bin {a b:Expr}{ta tb:TE} (ha:PE X a ta) (hb:PE X b tb) {pins:List (Addr×Obj)}{s:zaz0}{σ:St}{H:Hp}{R:V→V→Hp→Prop} (I:Inv X pins σ H s) (h:ta σ H fun x H1=>tb σ H1 fun y H2=>R x y H2)
  {α:Type}{Q:α→zaz0→Prop}{f:Value→Value→Sem α}
  (hf:∀v u s2 x y H2,Inv X pins σ H2 s2→RelV x v→RelV y u→R x y H2→wpAny (model X.prog X.w) X.A (f v u) Q X.xe s2) :
  wpAny (model X.prog X.w) X.A (eval a X.env) (fun v s₁=>wpAny (model X.prog X.w) X.A (eval b X.env) (fun u s₂=>wpAny (model X.prog X.w) X.A (f v u) Q X.xe s₂) X.xe s₁) X.xe s:=by
 refine thn (ha pins s σ H _ I h) fun v s1 ⟨x,H1,I1,r1,q1⟩=>?_
 refine thn (hb pins s1 σ H1 _ I1 q1) fun u s2 ⟨y,H2,I2,r2,q2⟩=>?_
 exact hf v u s2 x y H2 I2 r1 r2 q2
def tVar (i:Nat):TE:=fun σ H Q => ∃v,σ[i]?=some (some v)∧Q v H
def tC (v:V):TE:=fun _ H Q=>Q v H
theorem zo1 {i:Nat}{x:Str}{pos:Pos} (hN:X.N[i]?=some x) (hv:Vis X.env.scope x) (hd:(x ==("__debug__":Str))=false:=by decide) (hcd:(x ==("__classdict__":Str))=false:=by decide):PE X (.Name x pos) (tVar i):=by
 intro pins s σ H Q I h
 obtain⟨v,e,h⟩:=h
 obtain⟨m,hn,hl⟩:=I.loc
 obtain⟨u,r,l⟩:=hl i x v hN e hv
 have fin:EP X pins σ Q u s:=⟨v,H,I,r,h⟩
 rcases l with ⟨hk,hm⟩ | ⟨hk,c,hc,hcell⟩
 ·exact wpAny_Name (wpAny_loadName_local I.ok.kind hk hn hm fin) hd
 ·rcases hk with hk | hk
  ·exact wpAny_Name (wpAny_loadName_cell I.ok.kind hk hc hcell fin) hd
  ·exact wpAny_Name (wpAny_loadName_free I.ok.kind hk hc hcell fin hcd) hd
theorem pe_int {i j pos}:PE X (.Constant (.int i) j pos) (tC (.int i)):=fun _ _ _ H _ I h=>wpAny_Constant_int ⟨.int i,H,I.tok _,⟨_,rfl⟩,h⟩
theorem pe_bl {b j pos}:PE X (.Constant (.bool b) j pos) (tC (.bl b)):=fun _ _ _ H _ I h=>Constant_bool ⟨.bl b,H,I,rfl,h⟩
def Gl (X:Cx) (x:Str):Prop:=X.env.kindOf x=some .globalImplicit
theorem zat4 {E:Value→zaz0→Prop}{pins:List (Addr×Obj)}{s:zaz0}{σ:St}{H:Hp}{x:Str}{u:Value}{pos:Pos}{Q:Value→zaz0→Prop} (I:Inv X pins σ H s) (hg:Gl X x) (hm:X.mg x=some u) (h:Q u s)
  (hd:(x ==("__debug__":Str))=false:=by decide):wpAny (model X.prog X.w) X.A (eval (.Name x pos) X.env) Q E s :=
 Calls.Name_function_global I.ok.kind hg (Calls.loadGlobal_global (by rw [I.ok.glob];exact I.mod.glob.keeps I.bk) hm h) hd
theorem zo3 {E:Value→zaz0→Prop}{pins:List (Addr×Obj)}{s:zaz0}{σ:St}{H:Hp}{x:Str}{u:Value}{pos:Pos}{Q:Value→zaz0→Prop} (I:Inv X pins σ H s) (hg:Gl X x) (hm:X.mg x=none) (hv:bootBuiltins x=some u) (h:Q u s)
  (hn:x≠"__name__":=by decide) (hd:(x ==("__debug__":Str))=false:=by decide):wpAny (model X.prog X.w) X.A (eval (.Name x pos) X.env) Q E s:=by
 obtain⟨mb,h1,h2⟩:=I.mod.blt
 exact Calls.Name_function_global I.ok.kind hg (Calls.loadGlobal_builtin (by rw [I.ok.glob];exact I.mod.glob.keeps I.bk) hm (by rw [I.ok.blt];exact h1.keeps I.bk) ((h2 x hn).trans hv) h) hd
theorem pe_bltn {x:Str}{v:V}{u:Value}{pos:Pos} (hg:Gl X x) (hm:X.mg x=none) (hv:bootBuiltins x=some u) (r:RelV v u) (hn:x≠"__name__":=by decide) (hd:(x ==("__debug__":Str))=false:=by decide):PE X (.Name x pos) (tC v) :=
 fun _ _ _ H _ I h=>zo3 I hg hm hv ⟨v,H,I,r,h⟩ hn hd
variable {a b:Expr}{ta tb:TE}{pos:Pos}
variable {tA tB':TT}{rest:List Expr}
def tOr (t u:TT):TT:=fun σ H Q=>t σ H fun c H1=>if c=true then Q true H1 else u σ H1 Q
def tNot (t:TT):TT:=fun σ H Q=>t σ H fun c H1=>Q (!c) H1
theorem pw_or1 (ha:PT X a tA):PW X (.BoolOp .Or [a] pos) tA:=by
 intro wh pins s σ H Q I h
 refine isTrue_or (thn (ha pins s σ H Q I h) fun c s1 e=>?_)
 cases c with
 |false=>exact isTrue_or_nil e
 |true=>exact e
theorem pw_or (ha:PT X a tA) (hb:PW X (.BoolOp .Or (b::rest) pos) tB'):PW X (.BoolOp .Or (a::b::rest) pos) (tOr tA tB'):=by
 intro wh pins s σ H Q I h
 refine isTrue_or (thn (ha pins s σ H _ I h) fun c s1 ⟨H1,I1,q1⟩=>?_)
 cases c with
 |true=>exact⟨H1,I1,q1⟩
 |false=>exact hb wh pins s1 σ H1 Q I1 q1
theorem pt_not (ha:PT X a tA):PT X (.UnaryOp .Not a pos) (tNot tA):=by
 intro pins s σ H Q I h
 exact isTrue_not (ha pins s σ H (fun c H1=>Q (!c) H1) I h)
def tAndV (ta tb:TE):TE:=fun σ H Q=>ta σ H fun x H1 => ∃c,x=.bl c∧if c=true then tb σ H1 Q else Q (.bl false) H1
theorem pe_one {op}{t:TE} (h:PE X a t):PE X (.BoolOp op [a] pos) t:=fun pins s σ H Q I hw=>BoolOp_one (h pins s σ H Q I hw)
theorem pe_and (ha:PE X a ta) (hb:PE X (.BoolOp .And (b::rest) pos) tb):PE X (.BoolOp .And (a::b::rest) pos) (tAndV ta tb):=by
 intro pins s σ H Q I h
 refine BoolOp_and (thn (ha pins s σ H _ I h) fun v s1 ⟨x,H1,I1,r1,q1⟩=>?_)
 obtain⟨c,rfl,q1⟩:=q1
 cases r1
 refine wpAny_truthy_bool ?_
 cases c with
 |true=>exact hb pins s1 σ H1 Q I1 q1
 |false=>exact⟨.bl false,H1,I1,rfl,q1⟩
end
end L2
namespace L2
open PySem.Spec
noncomputable def SqL (K:zax7) (H:Hp) (a:Addr) (xs:List V):Prop :=
 Rd H a (.lst xs) ∨
  ∃(o:Obj) (its:Array Value) (n:Nat),K.lookup a=some o∧o.cls=.type "list"∧o.dict=none∧o.data=.seq its n∧its.size≤sizeLine∧Vals xs its.toList
noncomputable def SqT (K:zax7) (H:Hp) (a:Addr) (xs:List V):Prop :=
 Rd H a (.tup xs) ∨
  ∃(o:Obj) (its:Array Value) (n:Nat),K.lookup a=some o∧o.cls=.type "tuple"∧o.data=.seq its n∧its.size≤sizeLine∧Vals xs its.toList
noncomputable def absV:Value→Option V
 |.none=>some .non
 |.bool b=>some (.bl b)
 |.int i _=>some (.int i)
 |.str x _=>some (.str x)
 |.bytes b _=>some (.byt b)
 |.float b _=>some (.flt b)
 |.ref a=>some (.ref a)
 |.type n=>some (.ty n)
 |_=>none
theorem RelV.abs {x:V}{u:Value} (r:RelV x u):absV u=some x:=by
 cases x with
 |non=>cases r;rfl
 |bl _=>cases r;rfl
 |int _=>obtain⟨t,rfl⟩:=r;rfl
 |str _=>obtain⟨t,rfl⟩:=r;rfl
 |byt _=>obtain⟨t,rfl⟩:=r;rfl
 |flt _=>obtain⟨t,rfl⟩:=r;rfl
 |ref _=>cases r;rfl
 |ty _=>cases r;rfl
theorem RelV.inj {x y:V}{u:Value} (r:RelV x u) (q:RelV y u):x=y:=Option.some.inj (r.abs.symm.trans q.abs)
theorem Vals.inj:∀ {xs ys:List V}{us:List Value},Vals xs us→Vals ys us→xs=ys
 |_,_,_,.nil,.nil=>rfl
 |_,_,_,.cons r t,.cons r' t'=>by rw [r.inj r',Vals.inj t t']
section
variable {X:Cx}{pins:List (Addr×Obj)}{σ:St}{H:Hp}{s:zaz0}{a:Addr}{xs ys:List V}
theorem SqL.of {K:zax7} (h:H a=some (.lst xs)):SqL K H a xs:=.inl (.inl h)
theorem SqT.of {K:zax7} (h:H a=some (.tup xs)):SqT K H a xs:=.inl (.inl h)
theorem Inv.list (I:Inv X pins σ H s) (h:SqL X.K H a xs):∃its:List Value,Vals xs its∧PlainL s.heap a its.toArray∧xs.length≤sizeLine:=by
 rcases h with h | ⟨o,its,n,hk,hc,hd,hs,hz,r⟩
 ·obtain⟨z,its,n,r,e⟩:=h.ok I.hok
  exact⟨its,r,⟨_,n,e,rfl,rfl,rfl⟩,z⟩
 ·refine⟨its.toList,r,⟨o,n,I.kIn a o hk,hc,hd,by simpa using hs⟩,?_⟩
  have e:=r.length
  simp only [zbm6]at e
  lia
theorem Inv.tuple (I:Inv X pins σ H s) (h:SqT X.K H a xs):∃its:List Value,Vals xs its∧IsTup s.heap a its.toArray∧xs.length≤sizeLine:=by
 rcases h with h | ⟨o,its,n,hk,hc,hs,hz,r⟩
 ·obtain⟨z,its,r,p⟩:=h.ok I.hok
  exact⟨its,r,p,z⟩
 ·refine⟨its.toList,r,⟨o,I.kIn a o hk,hc,n,by simpa using hs⟩,?_⟩
  have e:=r.length
  simp only [zbm6]at e
  lia
theorem Inv.list_inj (I:Inv X pins σ H s) (h:SqL X.K H a xs) (h':SqL X.K H a ys):xs=ys:=by
 obtain⟨its,r,⟨o,n,e,_,_,d⟩,_⟩:=I.list h
 obtain⟨its',r',⟨o',n',e',_,_,d'⟩,_⟩:=I.list h'
 rw [e]at e';cases e'
 rw [d]at d'
 injection d' with d1 _
 have:its=its':=by simpa using congrArg Array.toList d1
 subst this
 exact r.inj r'
theorem Inv.tuple_inj (I:Inv X pins σ H s) (h:SqT X.K H a xs) (h':SqT X.K H a ys):xs=ys:=by
 obtain⟨its,r,⟨o,e,_,n,d⟩,_⟩:=I.tuple h
 obtain⟨its',r',⟨o',e',_,n',d'⟩,_⟩:=I.tuple h'
 rw [e]at e';cases e'
 rw [d]at d'
 injection d' with d1 _
 have:its=its':=by simpa using congrArg Array.toList d1
 subst this
 exact r.inj r'
end
abbrev Cx.wish (X:Cx) (E:Value→zaz0→Prop):Cx:={ X with xe:=E }
abbrev Cx.nox (X:Cx):Cx:=X.wish fun _ _=>False
theorem Cx.Ok.wish {X:Cx} (ok:X.Ok) (E:Value→zaz0→Prop):(X.wish E).Ok :=
 ⟨ok.mod,ok.kind,ok.glob,ok.blt,ok.above,ok.inj,ok.has,ok.cab,ok.hd,ok.frames,ok.stk,ok.exf,ok.bs,ok.bsz,ok.noex,ok.exfs,ok.funs,ok.frf,ok.tabs⟩
theorem Cx.Ok.unwish {X:Cx}{E:Value→zaz0→Prop} (ok:(X.wish E).Ok):X.Ok :=
 ⟨ok.mod,ok.kind,ok.glob,ok.blt,ok.above,ok.inj,ok.has,ok.cab,ok.hd,ok.frames,ok.stk,ok.exf,ok.bs,ok.bsz,ok.noex,ok.exfs,ok.funs,ok.frf,ok.tabs⟩
section
variable {X:Cx}{pins:List (Addr×Obj)}{σ:St}{H:Hp}{s:zaz0}{E:Value→zaz0→Prop}
theorem Inv.wish (I:Inv X pins σ H s) (E:Value→zaz0→Prop):Inv (X.wish E) pins σ H s:=⟨I.ok.wish E,I.os,I.bare,I.base,I.loc,I.cell,I.free,I.freeC,I.pin,I.hok,I.len⟩
theorem Inv.unwish (I:Inv (X.wish E) pins σ H s):Inv X pins σ H s:=⟨I.ok.unwish,I.os,I.bare,I.base,I.loc,I.cell,I.free,I.freeC,I.pin,I.hok,I.len⟩
theorem SP.unwish {D:Ends}{f:Flow}{s':zaz0} (h:SP (X.wish E) pins D f s'):SP X pins D f s':=by
 cases f with
 |next=>obtain⟨σ',H',I,q⟩:=h;exact⟨σ',H',I.unwish,q⟩
 |brk=>obtain⟨σ',H',I,q⟩:=h;exact⟨σ',H',I.unwish,q⟩
 |cont=>obtain⟨σ',H',I,q⟩:=h;exact⟨σ',H',I.unwish,q⟩
 |ret u=>obtain⟨v,σ',H',I,r,q⟩:=h;exact⟨v,σ',H',I.unwish,r,q⟩
theorem PSs.nox {st:List Stmt}{t:TS} (h:PSs X.nox st t):PSs X st t:=fun pins s σ H D I hw =>
 wpAny_mono (h pins s σ H D (I.wish _) hw) (fun _ _ q=>q.unwish) fun _ _ z=>False.elim z
end
section
variable {X:Cx}{st:Stmt}{rest:List Stmt}{t u:TS}{e:Expr}{te:TE}{pos:Pos}
def tNext:TS:=fun D σ H=>D.nx σ H
def tSeq (t u:TS):TS:=fun D σ H=>t { D with nx:=u D } σ H
theorem pss_nil:PSs X [] tNext:=fun _ _ σ H _ I h=>wpAny_execs_nil ⟨σ,H,I,h⟩
theorem zs9 (h1:PS X st t) (h2:PSs X rest u):PSs X (st::rest) (tSeq t u):=by
 intro pins s σ H D I h
 refine wpAny_execs_cons (thn (h1 pins s σ H { D with nx:=u D } I h) fun f s1 q=>?_)
 cases f with
 |next =>
  obtain⟨σ',H',I',q⟩:=q
  exact h2 pins s1 σ' H' D I' q
 |ret v=>exact q
 |brk=>exact q
 |cont=>exact q
theorem zap4 (h1:PS X st t):PSs X [st] t:=by
 intro pins s σ H D I h
 refine wpAny_execs_cons (thn (h1 pins s σ H D I h) fun f s1 q=>?_)
 cases f with
 |next=>exact wpAny_execs_nil q
 |ret v=>exact q
 |brk=>exact q
 |cont=>exact q
theorem Inv.quiet {pins:List (Addr×Obj)}{σ:St}{H:Hp}{s:zaz0} (I:Inv X pins σ H s):interactive X.env=false:=by simp [interactive,I.ok.kind]
def tDrop (te:TE):TS:=fun D σ H=>te σ H fun _ H1=>D.nx σ H1
theorem zm4 (he:PE X e te) (hs:swapsWith e none pos.line X.env=pure false:=by rfl):PS X (.Expr e pos) (tDrop te):=by
 intro pins s σ H D I h
 exact wpAny_Expr_any (thn (he pins s σ H _ I h) fun v s1 ⟨x,H1,I1,r1,q1⟩=>⟨σ,H1,I1,q1⟩) I.quiet hs
def tRet (te:TE):TS:=fun D σ H=>te σ H D.rt
theorem zap9 (he:PE X e te):PS X (.Return (some e) pos) (tRet te):=by
 intro pins s σ H D I h
 exact wpAny_Return_some (thn (he pins s σ H _ I h) fun v s1 ⟨x,H1,I1,r1,q1⟩=>⟨x,σ,H1,I1,r1,q1⟩)
def tIfS (c:TT) (t u:TS):TS:=fun D σ H=>c σ H fun b H1=>if b=true then t D σ H1 else u D σ H1
theorem ps_if {c:Expr}{a b:List Stmt}{tc:TT} (hc:PT X c tc) (ha:PSs X a t) (hb:PSs X b u):PS X (.If c a b pos) (tIfS tc t u):=by
 intro pins s σ H D I h
 refine wpAny_If (thn (hc pins s σ H _ I h) fun d s1 ⟨H1,I1,q1⟩=>?_)
 cases d with
 |true=>exact ha pins s1 σ H1 D I1 q1
 |false=>exact hb pins s1 σ H1 D I1 q1
end
abbrev TG:=V→St→Hp→(St→Hp→Prop)→Prop
abbrev TGs:=List V→St→Hp→(St→Hp→Prop)→Prop
noncomputable def PG (X:Cx) (target:Expr) (t:TG):Prop :=
 ∀(pins:List (Addr×Obj)) (s:zaz0) (σ:St) (H:Hp) (v:V) (u:Value) (Q:St→Hp→Prop),Inv X pins σ H s→RelV v u→t v σ H Q →
  wpAny (model X.prog X.w) X.A (assign target X.env u) (fun _ s' => ∃σ' H',Inv X pins σ' H' s'∧Q σ' H') X.xe s
noncomputable def PGs (X:Cx) (ts:List Expr) (t:TGs):Prop :=
 ∀(pins:List (Addr×Obj)) (s:zaz0) (σ:St) (H:Hp) (vs:List V) (us:List Value) (Q:St→Hp→Prop),Inv X pins σ H s→Vals vs us→t vs σ H Q →
  wpAny (model X.prog X.w) X.A (assignInOrder ((assignEach ts X.env).map (·.2)) us) (fun _ s' => ∃σ' H',Inv X pins σ' H' s'∧Q σ' H') X.xe s
abbrev TIp:=V→V→Hp→VK→Prop
noncomputable def PIp (X:Cx) (op:Operator) (t:TIp):Prop :=
 ∀(pins:List (Addr×Obj)) (s:zaz0) (σ:St) (H:Hp) (x y:V) (v u:Value) (Q:VK),Inv X pins σ H s→RelV x v→RelV y u→t x y H Q →
  wpAny (model X.prog X.w) X.A (inplaceOp op v u) (EP X pins σ Q) X.xe s
section
variable {X:Cx}{pos:Pos}
def zau5 (i:Nat):TG:=fun v σ H Q=>Q (σ.set i (some v)) H
theorem zc1 {i:Nat}{x:Str} (hN:X.N.Nodup) (hi:X.N[i]?=some x) (hx:Loc X.env.scope x) (hf:X.fn x=true∨X.env.scope.names.lookup x=some .local:=by first | exact .inl rfl | exact .inr rfl | assumption):PG X (.Name x pos) (zau5 i):=by
 intro pins s σ H v u Q I r h
 exact wpAny_assign_Name (zp5 I hN hi hx r (fun s' I'=>⟨_,H,I',h⟩) hf)
def gNil:TGs:=fun vs σ H Q=>vs=[]∧Q σ H
def gCons (t:TG) (u:TGs):TGs:=fun vs σ H Q => ∃v r,vs=v::r∧t v σ H fun σ' H'=>u r σ' H' Q
theorem zz1:PGs X [] gNil:=by
 intro pins s σ H vs us Q I r h
 obtain⟨e,h⟩:=h
 subst e
 cases r
 exact assignInOrder_nil ⟨σ,H,I,h⟩
theorem zj6 {e:Expr}{es:List Expr}{t:TG}{u:TGs} (h1:PG X e t) (h2:PGs X es u)
  (hs:(assignEach (e::es) X.env).map (·.2)=assign e X.env ::(assignEach es X.env).map (·.2):=by rfl):PGs X (e::es) (gCons t u):=by
 intro pins s σ H vs us Q I r h
 obtain⟨v,vr,e1,h⟩:=h
 subst e1
 cases r with
 |cons r rr =>
  rw [hs]
  refine assignInOrder_cons (thn (h1 pins s σ H _ _ _ I r h) fun _ s1 ⟨σ1,H1,I1,q1⟩=>?_)
  exact h2 pins s1 σ1 H1 _ _ Q I1 rr q1
def gTup (K:zax7) (n:Nat) (t:TGs):TG:=fun v σ H Q => ∃a xs,v=.ref a∧SqT K H a xs∧xs.length=n∧t xs σ H Q
theorem zaq5 {es:List Expr}{k:Nat}{t:TGs}{n:Nat} (hc:X.calm=true) (h:PGs X es t)
  (hn:(assignEach es X.env).length=n:=by rfl) (hst:(assignEach es X.env).findIdx? (·.1)=none:=by rfl):PG X (.Tuple es k pos) (gTup X.K n t):=by
 intro pins s σ H v u Q I r hw
 obtain⟨a,xs,e1,hq,hl,hw⟩:=hw
 subst e1
 cases r
 obtain⟨its,rv,ht,hz⟩:=I.tuple hq
 refine assign_Tuple_tuple (I.ok.hd hc) ht (by simp [hn, ← hl,rv.length]) hst fun h' hx=>?_
 have I1:Inv X pins σ H { s with heap:=h' }:=I.kept (t':=s.toks) fun b o e=>hx b o (zba4 (zaz5 e)) e
 exact h pins _ σ H xs _ Q I1 (by simpa using rv) hw
def tAsg (te:TE) (g:TG):TS:=fun D σ H=>te σ H fun x H1=>g x σ H1 D.nx
theorem ps_asg {tg e:Expr}{te:TE}{g:TG} (he:PE X e te) (hg:PG X tg g) (hs:swapsWithSole [tg] e pos.line X.env=pure false:=by rfl) (hw:swappedStores [tg] e X.env=pure none:=by rfl)
  (h1:(assignEach [tg] X.env).map (·.2)=[assign tg X.env]:=by rfl):PS X (.Assign [tg] e pos) (tAsg te g):=by
 intro pins s σ H D I h
 refine wpAny_Assign_stores (thn (he pins s σ H _ I h) fun v s1 ⟨x,H1,I1,r1,q1⟩=>?_) hs hw
 rw [h1]
 exact thn (hg pins s1 σ H1 x v _ I1 r1 q1) fun _ s2 q=>q
theorem ps_set {i:Nat}{x:Str}{e:Expr}{te:TE}{pos':Pos} (hN:X.N.Nodup) (hi:X.N[i]?=some x) (hx:Loc X.env.scope x) (he:PE X e te) (hs:swapsWith e (some (.Name x pos')) pos.line X.env=pure false:=by rfl) (hf:X.fn x=true∨X.env.scope.names.lookup x=some .local:=by first | exact .inl rfl | exact .inr rfl | assumption) :
  PS X (.Assign [.Name x pos'] e pos) (tAsg te (zau5 i)):=by
 intro pins s σ H D I h
 refine wpAny_Assign_Name (thn (he pins s σ H _ I h) fun v s1 ⟨y,H1,I1,r1,q1⟩=>?_) hs
 exact zp5 I1 hN hi hx r1 (fun s2 I2=>⟨_,H1,I2,q1⟩) hf
def tPar (i j:Nat) (ta:TA):TS:=fun D σ H=>ta σ H fun vs H1 => ∃v w,vs=[v,w]∧D.nx ((σ.set i (some v)).set j (some w)) H1
theorem ps_par {i j:Nat}{x y:Str}{a b:Expr}{ta:TA}{px py pt:Pos}{kt k2 pt2} (hc:X.calm=true) (hN:X.N.Nodup) (hi:X.N[i]?=some x) (hj:X.N[j]?=some y) (hij:i≠j)
  (hx:X.env.scope.names.lookup x=some .local) (hy:X.env.scope.names.lookup y=some .local) (ha:PA X [a,b] ta)
  (hw:swappedStores [.Tuple [.Name x px,.Name y py] kt pt] (.Tuple [a,b] k2 pt2) X.env=pure (some [x,y]))
  (hs:swapsWithSole [.Tuple [.Name x px,.Name y py] kt pt] (.Tuple [a,b] k2 pt2) pos.line X.env=pure false:=by rfl) :
  PS X (.Assign [.Tuple [.Name x px,.Name y py] kt pt] (.Tuple [a,b] k2 pt2) pos) (tPar i j ta):=by
 intro pins s σ H D I h
 rw [exec_Assign_arm]
 refine zaz2 (wpAny_standAt ?_)
 rw [hs]
 refine zaz2 (zba5 ?_)
 rw [if_neg (by decide)]
 refine zaz2 (Tuple_ (thn (ha _ pins s σ H _ I h) fun us s1 ⟨vs,H1,I1,r1,q1⟩=>?_))
 obtain⟨v,w,e1,q1⟩:=q1
 subst e1
 obtain⟨u1,u2,rfl,rv,rw'⟩:∃u1 u2,us=[u1,u2]∧RelV v u1∧RelV w u2:=by
  cases r1 with
  |cons p q =>
   cases q with
   |cons p' q' =>
    cases q'
    exact⟨_,_,rfl,p,p'⟩
 refine wpAny_newObj_type ?_ (by show 2≤sizeLine;decide)
 have I2:Inv X pins σ H1 { s1 with heap:=s1.heap.push { cls:=.type "tuple",data:=.seq [u1,u2].toArray } }:=I1.kept (t':=s1.toks) fun b o e=>zay6 _ e
 rw [hw]
 refine zaz2 (zba5 ?_)
 show wpAny (model X.prog X.w) X.A (do rule "assign.swapped-stores";let items ← unpackItems (.ref s1.heap.objs.size) 2 none;assignInOrder [fun v=>bindName X.env y v,fun v=>bindName X.env x v] items.reverse;pure Flow.next) _ _ _
 refine zaz2 (wpAny_rule (zaz2 (unpackItems_tuple (items := #[u1,u2]) (I.ok.hd hc) (IsTup.new s1.heap _) fun h' hx'=>?_)))
 have I3:=I2.kept (h':=h') (t':=s1.toks) fun b o e=>hx' b o (zba4 (zaz5 e)) e
 show wpAny _ _ (assignInOrder [fun v=>bindName X.env y v,fun v=>bindName X.env x v] [u2,u1] >>= fun _=>pure Flow.next) _ _ _
 refine zaz2 (assignInOrder_cons (wpAny_bindName (zp5 I3 hN hj (.inl hy) rw' (fun s2 I4=>?_) (.inr hy))))
 refine assignInOrder_cons (wpAny_bindName (zp5 I4 hN hi (.inl hx) rv (fun s3 I5=>assignInOrder_nil (zba5 ?_)) (.inr hx)))
 rw [List.set_comm _ _ (Ne.symm hij)]at I5
 exact⟨_,H1,I5,q1⟩
noncomputable def tAug (i:Nat) (te:TE) (ti:TIp):TS:=fun D σ H => ∃x,σ[i]?=some (some x)∧te σ H fun y H1=>ti x y H1 fun z H2=>D.nx (σ.set i (some z)) H2
theorem ps_aug {i:Nat}{x:Str}{e:Expr}{te:TE}{op:Operator}{ti:TIp}{pos':Pos} (hN:X.N.Nodup) (hi:X.N[i]?=some x) (hx:Loc X.env.scope x) (he:PE X e te) (ho:PIp X op ti) (hf:X.fn x=true∨X.env.scope.names.lookup x=some .local:=by first | exact .inl rfl | exact .inr rfl | assumption) :
  PS X (.AugAssign (.Name x pos') op e pos) (tAug i te ti):=by
 intro pins s σ H D I h
 obtain⟨v,e1,h⟩:=h
 obtain⟨m,hn,hl⟩:=I.loc
 have vis:Vis X.env.scope x:=by rcases hx with k | k;exact .inl k;exact .inr (.inl k)
 obtain⟨u,r,l⟩:=hl i x v hi e1 vis
 refine wpAny_AugAssign_Name ?_
 have go:wpAny (model X.prog X.w) X.A (eval e X.env) (fun w s₂=>wpAny (model X.prog X.w) X.A (inplaceOp op u w) (fun r s₃=>wpAny (model X.prog X.w) X.A (storeName X.env x r) (fun _=>SP X pins D .next) X.xe s₃) X.xe s₂) X.xe s:=by
  refine thn (he pins s σ H _ I h) fun w s1 ⟨y,H1,I1,r1,q1⟩=>?_
  refine thn (ho pins s1 σ H1 v y u w _ I1 r r1 q1) fun z s2 ⟨zv,H2,I2,r2,q2⟩=>?_
  exact zp5 I2 hN hi hx r2 (fun s3 I3=>⟨_,H2,I3,q2⟩) hf
 rcases l with ⟨hk,hm⟩ | ⟨hk,c,hc,hcell⟩
 ·exact wpAny_loadName_local I.ok.kind hk hn hm go
 ·rcases hk with hk | hk
  ·exact wpAny_loadName_cell I.ok.kind hk hc hcell go
  ·rcases hx with k | k
   ·have:X.env.scope.names.lookup x=some .free:=hk
    rw [k]at this;cases this
   ·have:X.env.scope.names.lookup x=some .free:=hk
    rw [k]at this;cases this
def ipI (f:Int→Int→Int):TIp:=fun x y H Q => ∃i j,x=.int i∧y=.int j∧Q (.int (f i j)) H
theorem ip_add:PIp X .Add (ipI fun i j=>i+j):=by
 intro pins s σ H x y v u Q I r1 r2 h
 obtain⟨i,j,e1,e2,q⟩:=h
 subst e1;subst e2
 obtain⟨t,rfl⟩:=r1
 obtain⟨t',rfl⟩:=r2
 exact iadd_int ⟨.int _,H,I.tok _,⟨_,rfl⟩,q⟩
end
section
variable {X:Cx}{pos:Pos}
noncomputable def tWhile (c:TT) (tb:TS):TS:=fun D σ H => ∃W:Nat→St→Hp→Prop,(∃m,W m σ H)∧∀m σ H,W m σ H →
 c σ H fun b H1=>if b=true then ∃N:St→Hp→Prop,(∀σ' H',N σ' H'→∃m',m' < m∧W m' σ' H')∧tb { D with nx:=N,ct:=N,bk:=D.nx } σ H1 else D.nx σ H1
theorem ps_while {c:Expr}{body:List Stmt}{tc:TT}{tb:TS} (hp:PassesOwn (model X.prog X.w) X.A X.env X.xe) (hc:PT X c tc) (hb:PSs X body tb):PS X (.While c body [] pos) (tWhile tc tb):=by
 intro pins s σ H D I h
 obtain⟨W,⟨m0,w0⟩,turn⟩:=h
 refine wpAny_While (codeAny_whileLoop (fun n s' => ∃σ' H',Inv X pins σ' H' s'∧W n σ' H') ?_ m0 ⟨σ,H,I,w0⟩)
 rintro n s1 ⟨σ1,H1,I1,w1⟩
 refine wpAny_passesOwn hp (thn (hc pins s1 σ1 H1 _ I1 (turn n σ1 H1 w1)) fun b s2 ⟨H2,I2,q2⟩=>?_)
 cases b with
 |true =>
  obtain⟨N,hN,q2⟩:=q2
  rw [if_pos rfl]
  refine wpAny_passesOwn hp (thn (hb pins s2 σ1 H2 _ I2 q2) fun f s3 q3=>?_)
  cases f with
  |next =>
   obtain⟨σ3,H3,I3,n3⟩:=q3
   obtain⟨m',hm,w3⟩:=hN σ3 H3 n3
   exact⟨m',hm,σ3,H3,I3,w3⟩
  |cont =>
   obtain⟨σ3,H3,I3,n3⟩:=q3
   obtain⟨m',hm,w3⟩:=hN σ3 H3 n3
   exact⟨m',hm,σ3,H3,I3,w3⟩
  |brk=>exact q3
  |ret v=>exact q3
 |false =>
  rw [if_neg zaz7]
  exact wpAny_execs_nil ⟨σ1,H2,I2,q2⟩
end
structure It where
 go:Nat→Hp→Prop
 yld:Nat→Hp→V→Hp→Prop
 stop:Nat→Hp→Prop
noncomputable def FpOk (X:Cx) (pins:List (Addr×Obj)) (H:Hp) (b:Addr):Prop :=
 H b=none∧b≠X.env.locals∧b∉X.fs∧(b∈X.ex∨X.s₀.heap.objs.size≤b)∧(∀x c,X.env.cells.lookup x=some c→c≠b)∧∀p∈X.pn++pins,p.1≠b
theorem Inv.fpOk {X:Cx}{pins:List (Addr×Obj)}{σ:St}{H H':Hp}{s:zaz0}{b:Addr} (I:Inv X pins σ H s) (hb:s.heap.objs.size≤b) (hn:H' b=none):FpOk X pins H' b:=by
 refine⟨hn,zbi3 (zay8 I.lt hb),I.nofs hb,.inr (zaz4 I.sz hb),fun x c e z=>?_,fun p hp z=>?_⟩
 ·obtain⟨v,q⟩:=I.cell x c e
  exact absurd (zay8 q.lt (by rw [z];exact hb)) (zbd6 _)
 ·exact absurd (zay8 (zaz5 (I.pin p hp).1) (by rw [z];exact hb)) (zbd6 _)
structure Turn (P:Program) (w:World) (K:zax7) (tg:Expr) (J:It) (fp:List Addr) (it:Addr) (tn:Nat→Heap→Prop):Prop where
 mem:it∈fp
 obj:∀i h,tn i h→∀b∈fp,∃o,h.get? b=some o∧∀v,o.data≠.cell v
 keep:∀i h h',tn i h→(∀b∈fp,∀o,h.get? b=some o→h'.get? b=some o)→tn i h'
 item:∀(X:Cx),X.prog=P→X.w=w→X.K=K→X.calm=true→∀(i:Nat) (pins:List (Addr×Obj)) (s:zaz0) (σ:St) (H:Hp) (E:Value→zaz0→Prop),Inv X pins σ H s→(∀b∈fp,FpOk X pins H b)→tn i s.heap→J.go i H →
  wpAny (model P w) X.A (pyNext (.ref it)) (fun r s1 => ∃u,r=some u ∧
   wpAny (model P w) X.A (letOwnedTupleGo tg (.ref it) u) (fun _ s2 => ∃x H',Inv X pins σ H' s2∧RelV x u∧J.yld i H x H'∧tn (i+1) s2.heap∧∀b∈fp,H' b=none) E s1) E s
 done:∀(X:Cx),X.prog=P→X.w=w→X.K=K→X.calm=true→∀(i:Nat) (pins:List (Addr×Obj)) (s:zaz0) (σ:St) (H:Hp) (E:Value→zaz0→Prop),Inv X pins σ H s→(∀b∈fp,FpOk X pins H b)→tn i s.heap→J.stop i H →
  wpAny (model P w) X.A (pyNext (.ref it)) (fun r s1=>r=none∧Inv X pins σ H s1) E s
 self:∀(A:Around) (i:Nat) (s:zaz0) (Q:Value→zaz0→Prop) (E:Value→zaz0→Prop),tn i s.heap→Q (.ref it) s→wpAny (model P w) A (pyIter (.ref it)) Q E s
abbrev TI:=St→Hp→(It→Hp→Prop)→Prop
noncomputable def PIE (X:Cx) (pins:List (Addr×Obj)) (σ:St) (tg:Expr) (R:It→Hp→Prop) (itv:Value) (s2:zaz0):Prop :=
 ∃(it:Addr) (fp:List Addr) (tn:Nat→Heap→Prop) (J:It) (H':Hp),itv=.ref it∧Inv X pins σ H' s2∧Turn X.prog X.w X.K tg J fp it tn∧tn 0 s2.heap∧(∀b∈fp,FpOk X pins H' b)∧R J H'
noncomputable def PI (X:Cx) (tg iter:Expr) (wi:TI):Prop :=
 ∀(pins:List (Addr×Obj)) (s:zaz0) (σ:St) (H:Hp) (R:It→Hp→Prop),Inv X pins σ H s→wi σ H R →
  wpAny (model X.prog X.w) X.A (eval iter X.env) (fun v s1=>wpAny (model X.prog X.w) X.A (pyIter v) (PIE X pins σ tg R) X.xe s1) X.xe s
theorem go_of {M:Model}{A:Around}{E:Value→zaz0→Prop}{s:zaz0}{tg:Expr}{it:Addr}{u:Value}{o:Obj}{n:String}{vs:Array Value}{Q:Unit→zaz0→Prop} (ho:s.heap.get? it=some o) (hc:o.cls=.type n) (hd:o.data=.fields vs)
  (hn:["enumerate", "zip", "dict_itemiterator", "dict_reverseitemiterator", "odict_iterator", "itertools.zip_longest", "itertools.pairwise"].contains n=false) (hQ:Q () s):wpAny M A (letOwnedTupleGo tg (.ref it) u) Q E s:=by
 unfold letOwnedTupleGo
 cases tg<;>first
  |exact zba5 hQ
  |(cases u<;>first
    |exact zba5 hQ
    |(refine zaz2 (wpAny_load ho ?_)
      rw [hc,hd]
      show wpAny M A (if (["enumerate", "zip", "dict_itemiterator", "dict_reverseitemiterator", "odict_iterator", "itertools.zip_longest", "itertools.pairwise"].contains n&&vs[0]? == some (rawInt _))=true then _ else _) Q E s
      rw [if_neg (by intro h;rw [hn,zbi1]at h;cases h)]
      exact zba5 hQ))
noncomputable def Itl (K:zax7) (a:Addr):It :=
 ⟨fun i H => ∃xs x,SqL K H a xs∧xs[i]?=some x,fun i H x H'=>H'=H∧∀xs,SqL K H a xs→xs[i]?=some x,fun i H => ∃xs,SqL K H a xs∧xs.length≤i⟩
def Itr (lo:Int) (n:Nat):It:=⟨fun i _=>i<n,fun i H x H'=>H'=H∧x=.int (lo+i),fun i _=>n≤i⟩
theorem zao2 {P:Program}{w:World}{K:zax7}{tg:Expr} (a it:Addr):Turn P w K tg (Itl K a) [it] it (fun i h=>h.IsListIter it a i) where
 mem:=by simp
 obj:=fun i h st b hb=>by
  have e:b=it:=by simpa using hb
  subst e
  obtain⟨o,e,c,d⟩:=st
  exact⟨o,e,fun v z=>by rw [d]at z;cases z⟩
 keep:=fun i h h' st k=>st.at fun o e=>k it (by simp) o e
 item:=by
  intro X hP hw hK hc i pins s σ H E I hf st hg
  subst hP hw hK
  obtain⟨xs,x,hq,hx⟩:=hg
  obtain⟨its,rv,p,hz⟩:=I.list hq
  obtain⟨u,hu,ru⟩:=rv.get hx
  obtain⟨f0,f1,f2,f3,f4,f5⟩:=hf it (by simp)
  refine wpAny_pyNext_list_item st p.isList (x:=u) (by simpa using hu) fun h' st' sb=>?_
  have I1:Inv X pins σ H { s with heap:=h' }:=I.turned (t':=s.toks) (fun b o hb e=>(sb.2 b hb).trans e) f0 f1 f3 f4 f5
  obtain⟨o,e,c,d⟩:=id st'
  exact⟨u,rfl,go_of (s:={ s with heap:=h' }) e c d (by decide) ⟨x,H,I1,ru,⟨rfl,fun ys hy=>by rw [I.list_inj hy hq];exact hx⟩,st',fun b hb=>(hf b hb).1⟩⟩
 done:=by
  intro X hP hw hK hc i pins s σ H E I hf st hg
  subst hP hw hK
  obtain⟨xs,hq,hx⟩:=hg
  obtain⟨its,rv,p,hz⟩:=I.list hq
  obtain⟨f0,f1,f2,f3,f4,f5⟩:=hf it (by simp)
  have hl:=rv.length
  exact wpAny_pyNext_list_end (I.ok.hd hc) st p.isList (by simp;lia) fun h' eb=>⟨rfl,I.turned (t':=s.toks) (fun b o hb e=>eb b o hb e) f0 f1 f3 f4 f5⟩
 self:=fun _ _ _ _ _ st h=>wpAny_pyIter_listiter st h
theorem zam1 {P:Program}{w:World}{K:zax7}{tg:Expr} (it:Addr) (lo:Int) (n:Nat):Turn P w K tg (Itr lo n) [it] it (fun i h=>IsRangeIter h it (lo+(i:Nat)*1) ((n:Int) - (i:Nat)) 1) where
 mem:=by simp
 obj:=fun i h st b hb=>by
  have e:b=it:=by simpa using hb
  subst e
  exact⟨_,st,fun v z=>by
   have z':Data.fields _=Data.cell v:=z
   cases z'⟩
 keep:=fun i h h' st k=>k it (by simp) _ st
 item:=by
  intro X hP hw hK hc i pins s σ H E I hf st hg
  subst hP hw hK
  obtain⟨f0,f1,f2,f3,f4,f5⟩:=hf it (by simp)
  have W:=Walks.range (prog:=X.prog) (w:=X.w) (I.ok.hd hc) it lo 1 n
  refine W.item i s _ _ hg st fun v h' tk hv st' kk=>?_
  obtain⟨t,rfl⟩:=hv
  have I1:Inv X pins σ H { s with heap:=h',toks:=tk }:=I.turned (fun b o hb e=>kk b o (by simpa using hb) e) f0 f1 f3 f4 f5
  refine⟨_,rfl,go_of (s:={ s with heap:=h',toks:=tk }) (n := "range_iterator") st' rfl rfl (by decide) ⟨.int (lo+i),H,I1,⟨t,?_⟩,⟨rfl,rfl⟩,st',fun b hb=>(hf b hb).1⟩⟩
  rw [Int.mul_one]
 done:=by
  intro X hP hw hK hc i pins s σ H E I hf st hg
  subst hP hw hK
  obtain⟨f0,f1,f2,f3,f4,f5⟩:=hf it (by simp)
  exact wpAny_pyNext_range_end (I.ok.hd hc) st (by have:n≤i:=hg;lia) fun h' eb=>⟨rfl,I.turned (t':=s.toks) (fun b o hb e=>eb b o hb e) f0 f1 f3 f4 f5⟩
 self:=fun _ _ _ _ _ st h=>wpAny_pyIter_rangeiter st h
end L2
namespace L2
open PySem.Spec
section
variable {X:Cx}{tg:Expr}
def iList (K:zax7) (tl:TE):TI:=fun σ H R=>tl σ H fun x H1 => ∃a,x=.ref a∧(∃xs,SqL K H1 a xs)∧R (Itl K a) H1
theorem zah0 {l:Expr}{tl:TE} (hl:PE X l tl):PI X tg l (iList X.K tl):=by
 intro pins s σ H R I h
 refine thn (hl pins s σ H _ I h) fun v s1 ⟨x,H1,I1,r1,q1⟩=>?_
 obtain⟨a,e,⟨xs,hq⟩,q⟩:=q1
 subst e
 cases r1
 obtain⟨its,rv,p,hz⟩:=I1.list hq
 refine wpAny_pyIter_list p.isList ?_
 refine⟨s1.heap.objs.size,[s1.heap.objs.size],_,_,H1,rfl,I1.kept (t':=s1.toks) fun b o e=>zay6 _ e,zao2 a _,⟨_,zbb1 _ rfl,rfl,rfl⟩,fun b hb=>?_,q⟩
 have e:b=s1.heap.objs.size:=by simpa using hb
 subst e
 exact I1.fpOk (zba1 _) (I1.hok.fresh (zba1 _))
theorem zak0 {pins:List (Addr×Obj)}{σ:St}{H:Hp}{s:zaz0}{R:It→Hp→Prop}{E:Value→zaz0→Prop}{lo hi:Int}{t u v:Tok}{tk:Nat} (I:Inv X pins σ H s) (h1 : -(2 ^ 62)≤lo) (h2:lo<2 ^ 62) (h3 : -(2 ^ 62)≤hi) (h4:hi<2 ^ 62)
  (q:R (Itr lo (hi - lo).toNat) H):wpAny (model X.prog X.w) X.A (pyIter (.ref s.heap.objs.size)) (PIE X pins σ tg R) E { s with heap:=s.heap.push { cls:=.type "range",data:=.fields #[.int lo t,.int hi u,.int 1 v] },toks:=tk }:=by
 refine wpAny_pyIter_range (IsRange.new ..) (small_one h1 h2 h3 h4) ?_
 have I1:Inv X pins σ H { s with heap:=s.heap.push { cls:=.type "range",data:=.fields #[.int lo t,.int hi u,.int 1 v] },toks:=tk }:=I.kept fun b o e=>zay6 _ e
 refine⟨(s.heap.push { cls:=.type "range",data:=.fields #[.int lo t,.int hi u,.int 1 v] }).objs.size,[(s.heap.push { cls:=.type "range",data:=.fields #[.int lo t,.int hi u,.int 1 v] }).objs.size],_,_,H,rfl,
  I1.kept (t':=tk) fun b o e=>zay6 _ e,zam1 _ lo (hi - lo).toNat,?_,fun b hb=>?_,q⟩
 ·have e1:lo+((0:Nat):Int)*1=lo:=by simp
  have e2:(((hi - lo).toNat:Nat):Int) - ((0:Nat):Int)=Builtin.Range.rangeSize lo hi 1:=by rw [rangeSize_one];split<;>lia
  show IsRangeIter _ _ (lo+((0:Nat):Int)*1) ((((hi - lo).toNat:Nat):Int) - ((0:Nat):Int)) 1
  rw [e1,e2]
  exact zbb1 _ rfl
 ·have e:b=(s.heap.push { cls:=.type "range",data:=.fields #[.int lo t,.int hi u,.int 1 v] }).objs.size:=by simpa using hb
  subst e
  exact I1.fpOk (zba1 _) (I1.hok.fresh (zba1 _))
def iRng1 (ta:TA):TI:=fun σ H R=>ta σ H fun vs H1 => ∃j:Int,vs=[.int j] ∧ -(2 ^ 62)≤j∧j<2 ^ 62∧R (Itr 0 j.toNat) H1
noncomputable def iRng2 (ta:TA):TI:=fun σ H R=>ta σ H fun vs H1 => ∃i j:Int,vs=[.int i,.int j]∧(-(2 ^ 62)≤i∧i<2 ^ 62 ∧ -(2 ^ 62)≤j∧j<2 ^ 62)∧R (Itr i (j - i).toNat) H1
theorem zaq4 {a:Expr}{ta:TA}{p pos:Pos} (hg:Gl X "range") (hm:X.mg "range"=none) (ha:PA X [a] ta) (hs:zaz1 [a] X.env=[(false,eval a X.env)]:=by rfl):PI X tg (.Call (.Name "range" p) [a] [] pos) (iRng1 ta):=by
 intro pins s σ H R I h
 refine Call_ (zo3 I hg hm boot_range (PyProof.Rows.callWith_type1 (thn (ha pos pins s σ H _ I h) fun us s1 ⟨vs,H1,I1,r1,q1⟩=>?_) hs rfl))
 obtain⟨j,e,q1,q2,q⟩:=q1
 subst e
 cases r1 with
 |cons r rr =>
  cases rr
  obtain⟨t,rfl⟩:=r
  exact call_range_1 (zak0 I1 (by lia) (by lia) q1 q2 (by simpa using q))
theorem zaq3 {a b:Expr}{ta:TA}{p pos:Pos} (hg:Gl X "range") (hm:X.mg "range"=none) (ha:PA X [a,b] ta) (hs:zaz1 [a,b] X.env=[(false,eval a X.env),(false,eval b X.env)]:=by rfl) (hs2:zaz1 [b] X.env=[(false,eval b X.env)]:=by rfl) :
  PI X tg (.Call (.Name "range" p) [a,b] [] pos) (iRng2 ta):=by
 intro pins s σ H R I h
 refine Call_ (zo3 I hg hm boot_range (PyProof.Rows.callWith_type1 (thn (ha pos pins s σ H _ I h) fun us s1 ⟨vs,H1,I1,r1,q1⟩=>?_) (by rw [hs,hs2]) (by rw [hs2];rfl)))
 obtain⟨i,j,e,⟨q1,q2,q3,q4⟩,q⟩:=q1
 subst e
 cases r1 with
 |cons r rr =>
  cases rr with
  |cons r' rr =>
   cases rr
   obtain⟨t,rfl⟩:=r
   obtain⟨t',rfl⟩:=r'
   exact call_range_2 (zak0 I1 q1 q2 q3 q4 q)
noncomputable def tFor (wi:TI) (g:TG) (tb:TS):TS:=fun D σ H=>wi σ H fun J H1 => ∃W:Nat→Nat→St→Hp→Prop,(∃m,W 0 m σ H1)∧∀i m σ H,W i m σ H →
 (J.stop i H∧D.nx σ H)∨(J.go i H∧∃N:St→Hp→Prop,(∀σ' H',N σ' H'→∃m',m' < m∧W (i+1) m' σ' H')∧∀x H',J.yld i H x H'→g x σ H' fun σ2 H2=>tb { D with nx:=N,ct:=N,bk:=D.nx } σ2 H2)
def zm5 (fp:List Addr) (h:Heap):List (Addr×Obj):=fp.filterMap fun b=>(h.get? b).map fun o=>(b,o)
theorem zd5 {fp:List Addr}{h:Heap}{b:Addr}{o:Obj} (hb:b∈fp) (e:h.get? b=some o):(b,o)∈zm5 fp h:=zbj6.mpr ⟨b,hb,by rw [e];rfl⟩
theorem zar9 {fp:List Addr}{h:Heap}{p:Addr×Obj} (hp:p∈zm5 fp h):p.1∈fp∧h.get? p.1=some p.2:=by
 obtain⟨b,hb,e⟩:=zbj6.mp hp
 cases q:h.get? b with
 |none=>rw [q]at e;cases e
 |some o =>
  rw [q]at e
  have e':(b,o)=p:=Option.some.inj e
  subst e'
  exact⟨hb,q⟩
theorem Inv.pinned {pins:List (Addr×Obj)}{σ:St}{H:Hp}{s:zaz0}{fp:List Addr} (I:Inv X pins σ H s) (hf:∀b∈fp,FpOk X pins H b) (ho:∀b∈fp,∃o,s.heap.get? b=some o∧∀v,o.data≠.cell v):Inv X (pins++zm5 fp s.heap) σ H s :=
 I.pins_of fun p hp=>(zay0.mp hp).elim (fun z=>I.pin p (zax6 _ z)) fun z=>by
  obtain⟨hb,e⟩:=zar9 z
  obtain⟨f0,f1,f2,_⟩:=hf p.1 hb
  obtain⟨o,e',d⟩:=ho p.1 hb
  rw [e]at e';cases e'
  exact⟨e,f0,f1,f2,d⟩
theorem Inv.unpinned {pins pl:List (Addr×Obj)}{σ:St}{H:Hp}{s:zaz0} (I:Inv X (pins++pl) σ H s):Inv X pins σ H s:=I.pins_of fun p hp=>I.pin p (zax6 _ (zax8 _ hp))
theorem zak5 {iter:Expr}{body:List Stmt}{wi:TI}{g:TG}{tb:TS}{pos:Pos} (hp:PassesOwn (model X.prog X.w) X.A X.env X.xe) (hc:X.calm=true) (hi:PI X tg iter wi) (hg:PG X tg g) (hb:PSs X body tb)
  (hs:∀x,foldedSetIterable iter X.env x=pure x:=by intro _;rfl):PS X (.For tg iter body [] pos) (tFor wi g tb):=by
 intro pins s σ H D I h
 refine wpAny_For (thn (hi pins s σ H _ I h) fun v s1 h1=>thn h1 fun itv s2 h2=>?_) hs
 obtain⟨it,fp,tn,J,H2,e,I2,T,st2,f2,W,⟨m0,w0⟩,turn⟩:=h2
 subst e
 -- what stays true of the iterator's objects through the loop
 have stat:∀ {H':Hp},(∀b∈fp,H' b=none)→∀b∈fp,FpOk X pins H' b:=fun hn b hb=>⟨hn b hb,(f2 b hb).2⟩
 refine codeAny_forLoop_any (fun n s' => ∃i σ' H',Inv X pins σ' H' s'∧tn i s'.heap∧(∀b∈fp,H' b=none)∧W i n σ' H') ?_ m0 ⟨0,σ,H2,I2,st2,fun b hb=>(f2 b hb).1,w0⟩
 rintro n s3 ⟨i,σ3,H3,I3,st3,fr3,w3⟩
 rcases turn i n σ3 H3 w3 with ⟨stop,qn⟩ | ⟨go,N,hN,step⟩
 ·refine wpAny_passesOwn hp (thn (T.done X rfl rfl rfl hc i pins s3 σ3 H3 X.xe I3 (stat fr3) st3 stop) fun r s4 ⟨hr,I4⟩=>?_)
  subst hr
  exact wpAny_execs_nil ⟨σ3,H3,I4,qn⟩
 ·refine wpAny_passesOwn hp (thn (T.item X rfl rfl rfl hc i pins s3 σ3 H3 X.xe I3 (stat fr3) st3 go) fun r s4 ⟨u,hr,h4⟩=>?_)
  subst hr
  refine wpAny_passesOwn hp (thn h4 fun _ s5 ⟨x,H5,I5,r5,y5,st5,fr5⟩=>?_)
  have I5':=I5.pinned (stat fr5) (T.obj _ _ st5)
  refine wpAny_passesOwn hp (thn (hg _ s5 σ3 H5 x u _ I5' r5 (step x H5 y5)) fun _ s6 ⟨σ6,H6,I6,q6⟩=>?_)
  refine wpAny_passesOwn hp (thn (hb _ s6 σ6 H6 _ I6 q6) fun f s7 q7=>?_)
  have again:∀ {σ7:St}{H7:Hp},Inv X (pins++zm5 fp s5.heap) σ7 H7 s7→N σ7 H7→∃m,m<n∧∃i σ' H',Inv X pins σ' H' s7∧tn i s7.heap∧(∀b∈fp,H' b=none)∧W i m σ' H':=fun {σ7 H7} I7 n7=>by
   obtain⟨m',hm,w7⟩:=hN σ7 H7 n7
   refine⟨m',hm,i+1,σ7,H7,I7.unpinned,T.keep _ _ _ st5 fun b hb o e=>(I7.pin (b,o) (zax6 _ (zax6 _ (zd5 hb e)))).1,fun b hb=>?_,w7⟩
   obtain⟨o,e,d⟩:=T.obj _ _ st5 b hb
   exact (I7.pin (b,o) (zax6 _ (zax6 _ (zd5 hb e)))).2.1
  cases f with
  |next=>obtain⟨σ7,H7,I7,n7⟩:=q7;exact again I7 n7
  |cont=>obtain⟨σ7,H7,I7,n7⟩:=q7;exact again I7 n7
  |brk=>obtain⟨σ7,H7,I7,q7⟩:=q7;exact⟨σ7,H7,I7.unpinned,q7⟩
  |ret v=>obtain⟨x7,σ7,H7,I7,r7,q7⟩:=q7;exact⟨x7,σ7,H7,I7.unpinned,r7,q7⟩
end
end L2
namespace L2
open PySem.Spec
abbrev R2:=V→V→Hp→VK→Prop
noncomputable def OpR (X:Cx) (f:Value→Value→Sem Value) (r:R2):Prop :=
 ∀(pins:List (Addr×Obj)) (s:zaz0) (σ:St) (H:Hp) (x y:V) (v u:Value) (Q:VK),Inv X pins σ H s→RelV x v→RelV y u→r x y H Q →
  wpAny (model X.prog X.w) X.A (f v u) (EP X pins σ Q) X.xe s
noncomputable def UnR (X:Cx) (f:Value→Sem Value) (r:V→Hp→VK→Prop):Prop :=
 ∀(pins:List (Addr×Obj)) (s:zaz0) (σ:St) (H:Hp) (x:V) (v:Value) (Q:VK),Inv X pins σ H s→RelV x v→r x H Q →
  wpAny (model X.prog X.w) X.A (f v) (EP X pins σ Q) X.xe s
noncomputable def zn1 (X:Cx) (f:Value) (r:List V→Hp→VK→Prop):Prop :=
 ∀(pins:List (Addr×Obj)) (s:zaz0) (σ:St) (H:Hp) (xs:List V) (us:List Value) (Q:VK),Inv X pins σ H s→Vals xs us→r xs H Q →
  wpAny (model X.prog X.w) X.A (call f us) (EP X pins σ Q) X.xe s
noncomputable def TruR (X:Cx) (r:V→Hp→(Bool→Hp→Prop)→Prop):Prop :=
 ∀(pins:List (Addr×Obj)) (s:zaz0) (σ:St) (H:Hp) (x:V) (v:Value) (Q:Bool→Hp→Prop),Inv X pins σ H s→RelV x v→r x H Q →
  wpAny (model X.prog X.w) X.A (truthy v) (TP X pins σ Q) X.xe s
def tOp (r:R2) (ta tb:TE):TE:=fun σ H Q=>ta σ H fun x H1=>tb σ H1 fun y H2=>r x y H2 Q
def tUn (r:V→Hp→VK→Prop) (ta:TE):TE:=fun σ H Q=>ta σ H fun x H1=>r x H1 Q
def rI (C:Int→Int→Prop) (g:Int→Int→V):R2:=fun x y H Q => ∃i j,x=.int i∧y=.int j∧C i j∧Q (g i j) H
def rI0 (g:Int→Int→V):R2:=fun x y H Q => ∃i j,x=.int i∧y=.int j∧Q (g i j) H
def rU (g:Int→V):V→Hp→VK→Prop:=fun x H Q => ∃i,x=.int i∧Q (g i) H
section
variable {X:Cx}{a b c:Expr}{ta tb tc:TE}{pos:Pos}
theorem binT (ha:PE X a ta) (hb:PE X b tb) {pins:List (Addr×Obj)}{s:zaz0}{σ:St}{H:Hp}{R:V→V→Hp→Prop} (I:Inv X pins σ H s)
  (h:ta σ H fun x H1=>tb σ H1 fun y H2=>R x y H2) {Q:Value→zaz0→Prop}{f:Value→Value→Sem Value}
  (hf:∀v u s2 x y H2,Inv X pins σ H2 s2→RelV x v→RelV y u→R x y H2→wpAny (model X.prog X.w) X.A (f v u) Q X.xe s2) :
  wpAny (model X.prog X.w) X.A (eval a X.env) (fun v s₁=>wpAny (model X.prog X.w) X.A (eval b X.env) (fun u s₂=>wpAny (model X.prog X.w) X.A (f v u) Q X.xe s₂) X.xe s₁) X.xe s:=by
 refine thn (ha pins s σ H _ I h) fun v s1 ⟨x,H1,I1,r1,q1⟩=>?_
 refine thn (hb pins s1 σ H1 _ I1 q1) fun u s2 ⟨y,H2,I2,r2,q2⟩=>?_
 exact hf v u s2 x y H2 I2 r1 r2 q2
theorem pe_un {op:UnaryOp}{r:V→Hp→VK→Prop} (ho:UnR X (unaryOp op) r) (ha:PE X a ta):PE X (.UnaryOp op a pos) (tUn r ta):=by
 intro pins s σ H Q I h
 exact UnaryOp_ (thn (ha pins s σ H _ I h) fun v s1 ⟨x,H1,I1,r1,q1⟩=>ho pins s1 σ H1 x v Q I1 r1 q1)
theorem opI {f:Value→Value→Sem Value}{C:Int→Int→Prop}{g:Int→Int→Int}
  (rule:∀(i j:Int) (t u:Tok) (s:zaz0) (Q:Value→zaz0→Prop) (E:Value→zaz0→Prop),C i j→Q (.int (g i j) s.toks) { s with toks:=s.toks+1 }→wpAny (model X.prog X.w) X.A (f (.int i t) (.int j u)) Q E s) :
  OpR X f (rI C fun i j=>.int (g i j)):=by
 intro pins s σ H x y v u Q I rx ry h
 obtain⟨i,j,rfl,rfl,hc,q⟩:=h
 obtain⟨t,rfl⟩:=rx
 obtain⟨t',rfl⟩:=ry
 exact rule i j t t' s _ _ hc ⟨.int (g i j),H,I.tok _,⟨_,rfl⟩,q⟩
theorem opI0 {f:Value→Value→Sem Value}{g:Int→Int→Int}
  (rule:∀(i j:Int) (t u:Tok) (s:zaz0) (Q:Value→zaz0→Prop) (E:Value→zaz0→Prop),Q (.int (g i j) s.toks) { s with toks:=s.toks+1 }→wpAny (model X.prog X.w) X.A (f (.int i t) (.int j u)) Q E s) :
  OpR X f (rI0 fun i j=>.int (g i j)):=by
 intro pins s σ H x y v u Q I rx ry h
 obtain⟨i,j,rfl,rfl,q⟩:=h
 obtain⟨t,rfl⟩:=rx
 obtain⟨t',rfl⟩:=ry
 exact rule i j t t' s _ _ ⟨.int (g i j),H,I.tok _,⟨_,rfl⟩,q⟩
theorem opB0 {f:Value→Value→Sem Value}{g:Int→Int→Bool}
  (rule:∀(i j:Int) (t u:Tok) (s:zaz0) (Q:Value→zaz0→Prop) (E:Value→zaz0→Prop),Q (.bool (g i j)) s→wpAny (model X.prog X.w) X.A (f (.int i t) (.int j u)) Q E s) :
  OpR X f (rI0 fun i j=>.bl (g i j)):=by
 intro pins s σ H x y v u Q I rx ry h
 obtain⟨i,j,rfl,rfl,q⟩:=h
 obtain⟨t,rfl⟩:=rx
 obtain⟨t',rfl⟩:=ry
 exact rule i j t t' s _ _ ⟨.bl (g i j),H,I,rfl,q⟩
def CPow (i j:Int):Prop:=0≤j∧j≤1000000∧i.natAbs<2 ^ 64
theorem op_add:OpR X (binaryOp .Add) (rI0 fun i j=>.int (i+j)):=opI0 fun _ _ _ _ _ _ _ q=>add_int q
theorem op_modN:OpR X (binaryOp .Mod) (rI (fun _ j=>j≠0) fun i j=>.int (i.fmod j)):=opI fun _ _ _ _ _ _ _ hc q=>mod_int' hc q
theorem op_shl:OpR X (binaryOp .LShift) (rI CPow fun i j=>.int (i*2 ^ j.toNat)):=opI fun _ _ _ _ _ _ _ hc q=>lshift_int_small hc.1 hc.2.1 hc.2.2 q
theorem unI {f:Value→Sem Value}{g:Int→Int}
  (rule:∀(i:Int) (t:Tok) (s:zaz0) (Q:Value→zaz0→Prop) (E:Value→zaz0→Prop),Q (.int (g i) s.toks) { s with toks:=s.toks+1 }→wpAny (model X.prog X.w) X.A (f (.int i t)) Q E s) :
  UnR X f (rU fun i=>.int (g i)):=by
 intro pins s σ H x v Q I rx h
 obtain⟨i,rfl,q⟩:=h
 obtain⟨t,rfl⟩:=rx
 exact rule i t s _ _ ⟨.int (g i),H,I.tok _,⟨_,rfl⟩,q⟩
theorem un_neg:UnR X (unaryOp .USub) (rU fun i=>.int (-i)):=unI fun _ _ _ _ _ q=>neg_int q
end
noncomputable def scal:V→V→Bool
 |.non,.non=>true | .non,.int _=>true | .int _,.non=>true | .non,.bl _=>true | .bl _,.non=>true | .non,.str _=>true | .str _,.non=>true
 |.int _,.int _=>true | .bl _,.bl _=>true | .str _,.str _=>true | .byt _,.byt _=>true
 |.int _,.str _=>true | .str _,.int _=>true | .bl _,.str _=>true | .str _,.bl _=>true
 |_,_=>false
def rEq:R2:=fun x y H Q=>scal x y=true∧Q (.bl (decide (x=y))) H
def rNe:R2:=fun x y H Q=>scal x y=true∧Q (.bl (!decide (x=y))) H
theorem zav0 {i j:Int}:decide (V.int i=V.int j)=(i == j):=by
 rw [zbe0]
 simp
theorem dec_bl {i j:Bool}:decide (V.bl i=V.bl j)=(i == j):=by
 rw [zbe0]
 simp
theorem zau9 {i j:Str}:decide (V.str i=V.str j)=(i == j):=by
 rw [zbe0]
 simp
theorem zav1 {i j:Array UInt8}:decide (V.byt i=V.byt j)=(i.toList == j.toList):=by
 rw [zbe0]
 cases i
 cases j
 simp
section
variable {X:Cx}{a b c:Expr}{ta tb tc:TE}{pos:Pos}
theorem zd4 {pins:List (Addr×Obj)}{σ:St}{H:Hp}{s:zaz0}{Q:VK}{k k':Bool} (I:Inv X pins σ H s) (q:Q (.bl k) H) (e:k=k'):EP X pins σ Q (.bool k') s:=by
 subst e
 exact⟨.bl k,H,I,rfl,q⟩
theorem op_eq:OpR X (compareOp .Eq) rEq:=by
 intro pins s σ H x y v u Q I rx ry h
 obtain⟨hs,q⟩:=h
 cases x with
 |non =>
  cases rx
  cases y with
  |non=>cases ry;exact PySem.EqNone.eq_none_none (zd4 I q (by simp))
  |bl j=>cases ry;exact PySem.EqNone.eq_none_bool (zd4 I q (by simp))
  |int j=>obtain⟨t',rfl⟩:=ry;exact PySem.EqNone.eq_none_int (zd4 I q (by simp))
  |str j=>obtain⟨t',rfl⟩:=ry;exact PySem.EqNone.eq_none_str (zd4 I q (by simp))
  |_=>exact absurd (show false=true from hs) zaz7
 |bl i =>
  cases rx
  cases y with
  |non=>cases ry;exact PySem.EqNone.eq_bool_none (zd4 I q (by simp))
  |bl j=>cases ry;exact eq_bool (zd4 I q dec_bl)
  |str j=>obtain⟨t',rfl⟩:=ry;exact PySem.EqMixed.eq_bool_str (zd4 I q (by simp))
  |_=>exact absurd (show false=true from hs) zaz7
 |int i =>
  obtain⟨t,rfl⟩:=rx
  cases y with
  |non=>cases ry;exact PySem.EqNone.eq_int_none (zd4 I q (by simp))
  |int j=>obtain⟨t',rfl⟩:=ry;exact eq_int (zd4 I q zav0)
  |str j=>obtain⟨t',rfl⟩:=ry;exact PySem.EqMixed.eq_int_str (zd4 I q (by simp))
  |_=>exact absurd (show false=true from hs) zaz7
 |str i =>
  obtain⟨t,rfl⟩:=rx
  cases y with
  |non=>cases ry;exact PySem.EqNone.eq_str_none (zd4 I q (by simp))
  |bl j=>cases ry;exact PySem.EqMixed.eq_str_bool (zd4 I q (by simp))
  |int j=>obtain⟨t',rfl⟩:=ry;exact PySem.EqMixed.eq_str_int (zd4 I q (by simp))
  |str j=>obtain⟨t',rfl⟩:=ry;exact eq_str (zd4 I q zau9)
  |_=>exact absurd (show false=true from hs) zaz7
 |byt i =>
  obtain⟨t,rfl⟩:=rx
  cases y with
  |byt j=>obtain⟨t',rfl⟩:=ry;exact PySem.W.eq_bytes (zd4 I q zav1)
  |_=>exact absurd (show false=true from hs) zaz7
 |_=>cases y<;>exact absurd (show false=true from hs) zaz7
theorem op_ne:OpR X (compareOp .NotEq) rNe:=by
 intro pins s σ H x y v u Q I rx ry h
 obtain⟨hs,q⟩:=h
 cases x with
 |non =>
  cases rx
  cases y with
  |non=>cases ry;exact PySem.EqNone.ne_none_none (zd4 I q (by simp))
  |bl j=>cases ry;exact PySem.EqNone.ne_none_bool (zd4 I q (by simp))
  |int j=>obtain⟨t',rfl⟩:=ry;exact PySem.EqNone.ne_none_int (zd4 I q (by simp))
  |str j=>obtain⟨t',rfl⟩:=ry;exact PySem.EqNone.ne_none_str (zd4 I q (by simp))
  |_=>exact absurd (show false=true from hs) zaz7
 |bl i =>
  cases rx
  cases y with
  |non=>cases ry;exact PySem.EqNone.ne_bool_none (zd4 I q (by simp))
  |bl j=>cases ry;exact ne_bool (zd4 I q (congrArg not dec_bl))
  |str j=>obtain⟨t',rfl⟩:=ry;exact PySem.EqMixed.ne_bool_str (zd4 I q (by simp))
  |_=>exact absurd (show false=true from hs) zaz7
 |int i =>
  obtain⟨t,rfl⟩:=rx
  cases y with
  |non=>cases ry;exact PySem.EqNone.ne_int_none (zd4 I q (by simp))
  |int j=>obtain⟨t',rfl⟩:=ry;exact ne_int (zd4 I q (congrArg not zav0))
  |str j=>obtain⟨t',rfl⟩:=ry;exact PySem.EqMixed.ne_int_str (zd4 I q (by simp))
  |_=>exact absurd (show false=true from hs) zaz7
 |str i =>
  obtain⟨t,rfl⟩:=rx
  cases y with
  |non=>cases ry;exact PySem.EqNone.ne_str_none (zd4 I q (by simp))
  |bl j=>cases ry;exact PySem.EqMixed.ne_str_bool (zd4 I q (by simp))
  |int j=>obtain⟨t',rfl⟩:=ry;exact PySem.EqMixed.ne_str_int (zd4 I q (by simp))
  |str j=>obtain⟨t',rfl⟩:=ry;exact ne_str (zd4 I q (congrArg not zau9))
  |_=>exact absurd (show false=true from hs) zaz7
 |byt i =>
  obtain⟨t,rfl⟩:=rx
  cases y with
  |byt j=>obtain⟨t',rfl⟩:=ry;exact PySem.W.ne_bytes (zd4 I q (congrArg not zav1))
  |_=>exact absurd (show false=true from hs) zaz7
 |_=>cases y<;>exact absurd (show false=true from hs) zaz7
theorem op_lt:OpR X (compareOp .Lt) (rI0 fun i j=>.bl (decide (i<j))):=opB0 fun _ _ _ _ _ _ _ q=>lt_int q
theorem op_le:OpR X (compareOp .LtE) (rI0 fun i j=>.bl (decide (i≤j))):=opB0 fun _ _ _ _ _ _ _ q=>le_int q
theorem op_gt:OpR X (compareOp .Gt) (rI0 fun i j=>.bl (decide (j<i))):=opB0 fun _ _ _ _ _ _ _ q=>gt_int q
theorem nomark (b:Expr) {op:CmpOp} (h:op≠.In:=by decide) (h2:op≠.NotIn:=by decide):behindInMarks op b=false:=by
 have e1:(op == CmpOp.In)=false:=by cases op<;>first | rfl | exact absurd rfl h
 have e2:(op == CmpOp.NotIn)=false:=by cases op<;>first | rfl | exact absurd rfl h2
 cases b<;>simp [behindInMarks,e1,e2]
noncomputable def tChain (r r':R2) (ta tb tc:TE):TE:=fun σ H Q=>ta σ H fun x H1=>tb σ H1 fun y H2=>r x y H2 fun z H3 => ∃k,z=.bl k ∧
 (if k=true then tc σ H3 fun w' H4=>r' y w' H4 Q else Q (.bl false) H3)
theorem pe_chain {op op':CmpOp}{r r':R2} (ho:OpR X (compareOp op) r) (ho':OpR X (compareOp op') r') (ha:PE X a ta) (hb:PE X b tb) (hc:PE X c tc)
  (hm:lastMarks [op,op'] [b,c]=false:=by with_unfolding_all rfl):PE X (.Compare a [op,op'] [b,c] pos) (tChain r r' ta tb tc):=by
 intro pins s σ H Q I h
 refine Compare_chain (thn (ha pins s σ H _ I h) fun v s1 ⟨x,H1,I1,r1,q1⟩=>chain_link (thn (hb pins s1 σ H1 _ I1 q1) fun u s2 ⟨y,H2,I2,r2,q2⟩ =>
  thn (ho pins s2 σ H2 x y v u _ I2 r1 r2 q2) fun d s3 ⟨z,H3,I3,r3,k,e,q3⟩=>?_)) hm
 subst e
 cases r3
 refine wpAny_truthy_bool ?_
 cases k with
 |false=>exact ite_ff ⟨.bl false,H3,I3,rfl,q3⟩
 |true=>exact ite_tt (chain_last (thn (hc pins s3 σ H3 _ I3 q3) fun w' s4 ⟨z',H4,I4,r4,q4⟩=>ho' pins s4 σ H4 y z' u w' Q I4 r2 r4 q4))
noncomputable def TruV (K:zax7) (x:V) (H:Hp) (k:Bool):Prop :=
 match x with
 |.non=>k=false
 |.bl b=>k=b
 |.int i=>k=(i != 0)
 |.str y=>y.length≤sizeLine∧k=((y.length:Int) != 0)
 |.byt y=>y.size≤sizeLine∧k=((y.size:Int) != 0)
 |.ref p=>(∃xs,SqL K H p xs∧k=!xs.isEmpty)∨(∃xs,SqT K H p xs∧k=!xs.isEmpty)∨∃kvs,H p=some (.dK kvs)∧k=!kvs.isEmpty
 |_=>False
theorem zan5 {κ:Type}{kvs:List (κ×V)}{vs:List (κ×Value)} (r:KV kvs vs):(!vs.isEmpty)=!kvs.isEmpty:=by
 cases r<;>rfl
theorem zx9 {xs:List V}{its:List Value} (r:Vals xs its):(!its.toArray.isEmpty)=!xs.isEmpty:=by
 cases r<;>simp
theorem zak9:(sizeLine:Nat)<2 ^ 63:=by rw [sizeLine_eq];decide
theorem tru_ok:TruR X (fun x H Q => ∃k,TruV X.K x H k∧Q k H):=by
 intro pins s σ H x v Q I rx h
 obtain⟨k,e,q⟩:=h
 have hl:=zak9
 have hs:sizeLine=16777216:=sizeLine_eq
 cases x with
 |non =>
  cases rx
  have e':k=false:=e
  subst e'
  exact truthy_none ⟨H,I,q⟩
 |bl b =>
  cases rx
  have e':k=b:=e
  subst e'
  exact wpAny_truthy_bool ⟨H,I,q⟩
 |int i =>
  obtain⟨t,rfl⟩:=rx
  have e':k=(i != 0):=e
  subst e'
  exact PySem.P.truthy_int ⟨H,I,q⟩
 |str y =>
  obtain⟨t,rfl⟩:=rx
  obtain⟨hy,e'⟩:y.length≤sizeLine∧k=((y.length:Int) != 0):=e
  subst e'
  exact PySem.P.truthy_str (by lia) ⟨H,I.tok _,q⟩
 |byt y =>
  obtain⟨t,rfl⟩:=rx
  obtain⟨hy,e'⟩:y.size≤sizeLine∧k=((y.size:Int) != 0):=e
  subst e'
  exact PySem.W.truthy_bytes (by lia) ⟨H,I.tok _,q⟩
 |ref p =>
  cases rx
  have e':(∃xs,SqL X.K H p xs∧k=!xs.isEmpty)∨(∃xs,SqT X.K H p xs∧k=!xs.isEmpty)∨∃kvs,H p=some (.dK kvs)∧k=!kvs.isEmpty:=e
  rcases e' with ⟨xs,hx,e'⟩ | ⟨xs,hx,e'⟩ | ⟨kvs,hx,e'⟩
  ·subst e'
   obtain⟨its,r,pl,hz⟩:=I.list hx
   have hlen:=r.length
   exact wpAny_truthy_list pl.isList (by simp only [zba0];lia) ⟨H,I.tok _,by rw [zx9 r];exact q⟩
  ·subst e'
   obtain⟨its,r,pl,hz⟩:=I.tuple hx
   have hlen:=r.length
   exact truthy_tuple pl (by simp only [zba0];lia) ⟨H,I.tok _,by rw [zx9 r];exact q⟩
  ·subst e'
   obtain⟨hz,hS,vs,r,m⟩:kvs.length≤sizeLine∧(p == sysModules)=false∧∃vs,KV kvs vs∧s.heap.DictOf (zf2 X.prog X.w) p vs:=I.hok p _ hx
   have hlen:kvs.length=vs.length:=Paired.length r
   exact wpAny_truthy_dict hS m (by lia) ⟨H,I.tok _,by rw [zan5 r];exact q⟩
 |_=>exact (show False from e).elim
theorem pt_truth (ha:PE X a ta) (he:∀whole,isTrue a X.env whole=(do let v ← whole;standAt a.pos;holding [v] (truthy v))) :
  PT X a (fun σ H Q=>ta σ H fun x H' => ∃k,TruV X.K x H' k∧Q k H'):=by
 intro pins s σ H Q I h
 exact isTrue_plain (thn (ha pins s σ H _ I h) fun v s1 ⟨x,H1,I1,r1,q1⟩=>tru_ok pins s1 σ H1 x v Q I1 r1 q1) (he _)
theorem zt5 {x:V}{us:List Value} (r:Vals [x] us):∃u,us=[u]∧RelV x u:=by
 cases r with
 |cons r1 r2=>cases r2;exact⟨_,rfl,r1⟩
theorem vals2 {x y:V}{us:List Value} (r:Vals [x,y] us):∃u w',us=[u,w']∧RelV x u∧RelV y w':=by
 cases r with
 |cons r1 r2 =>
  cases r2 with
  |cons r3 r4=>cases r4;exact⟨_,_,rfl,r1,r3⟩
theorem call_abs:zn1 X (.builtin "abs") (fun xs H Q => ∃i,xs=[.int i]∧Q (.int (if i<0 then -i else i)) H):=by
 intro pins s σ H xs us Q I r h
 obtain⟨i,rfl,q⟩:=h
 obtain⟨u,rfl,t,rfl⟩:=zt5 r
 exact call_abs_int fun u tk=>⟨.int (if i<0 then -i else i),H,I.tok _,⟨_,rfl⟩,q⟩
end
end L2
namespace L2
open PySem.Spec
structure ObjM (h:Heap) (x dx C:Addr) (mA:Str→Option Value):Prop where
 obj:h.get? x=some (zbl9 C dx)
 ns:h.Ns1 dx mA
 ne:dx≠x
theorem zat1 {h:Heap}{dx:Addr}{mA:Str→Option Value} (n:h.Ns1 dx mA):∃od,h.get? dx=some od∧∀name,zbm7 name od=some (mA name):=by
 obtain⟨o,es,ep,ho,hd,hk,_,hm⟩:=n
 refine⟨o,ho,fun name=>?_⟩
 have e:=hm name
 unfold nsFind findBy at e
 rw [← Array.find?_toList]at e
 unfold zbm7
 rw [hd]
 dsimp only
 split
 ·rename_i y q
  rw [q]at e
  exact congrArg some e
 ·rename_i q
  rw [q]at e
  have a:es.toList.any (·.refKey)=false:=by
   rw [List.any_eq_false]
   intro y hy
   obtain⟨z,t,hkey⟩:=hk y (Array.mem_toList_iff.mp hy)
   simp [DictEntry.refKey,hkey]
  have a' : ¬ es.toList.any (·.refKey)=true:=by rw [a];exact zaz7
  rw [if_neg a']
  exact congrArg some e
theorem ObjM.look {h:Heap}{x dx C:Addr}{mA:Str→Option Value} (I:ObjM h x dx C mA):∃od,PySem.W.InstAt h x (zbl9 C dx) C (some od)∧∀name,zbm7 name od=some (mA name) :=
 let ⟨od,ho,hl⟩:=zat1 I.ns
 ⟨od,⟨I.obj,rfl,rfl,ho⟩,hl⟩
section
variable {prog:Program}{w:World}{A:Around}{E:Value→zaz0→Prop}{s:zaz0}{K:zax7}{x dx C f:Addr}{mA:Str→Option Value}{name:Str}{v:Value}
theorem get_map {expr:Bool}{Q:Value→zaz0→Prop} (X:K.In s.heap) (I:ObjM s.heap x dx C mA) (hg:zbo3 K C name=true) (hh:zbn6 K C=true)
  (ha:zbg7 K (.ref C) name=some none) (hv:mA name=some v) (hv':PySem.W.handedIn v=true) (h:Q v { s with toks:=s.toks+1 }) :
  wpAny (model prog w) A (getAttr (.ref x) name expr) Q E s:=by
 obtain⟨od,J,hl⟩:=I.look
 exact PySem.W.get_value X J (PySem.W.plainGet_of hg).1 (PySem.W.findObj_own hh ha rfl (by rw [hl,hv])) hv' h
end
theorem RelO.some_of {v:V}{o:Option Value} (r:RelO (some v) o):∃u,o=some u∧RelV v u:=by
 cases o with
 |none=>exact (show False from r).elim
 |some u=>exact⟨u,rfl,r⟩
structure Cls (K:zax7) (C:Addr):Prop where
 pg:zbo3 K C Str.empty=true
 hd:zbn6 K C=true
 po:PySem.W.plainOver K C=true
 sa:zbg7 K (.ref C) "__setattr__"=some (some (.builtin "object.__setattr__"))
structure Con (K:zax7) (C:Addr) (f:Str) (v:V) (u:Value):Prop where
 at_:zbg7 K (.ref C) f=some (some u)
 rel:RelV v u
 get:zbn7 K u "__get__"=some none
 cp:PySem.W.copiedNames.contains f=false
structure Meth (K:zax7) (C:Addr) (m:Str) (f:Addr):Prop where
 at_:zbg7 K (.ref C) m=some (some (.ref f))
 fn:PySem.W.isFn K (.ref f)=true
 kp:zbc1 K (.ref f)=true
section
variable {X:Cx}{pins:List (Addr×Obj)}{σ:St}{H:Hp}{s:zaz0}{A:Around}{E:Value→zaz0→Prop}{Q:Value→zaz0→Prop}{c:Value}{b:Bool}
inductive TyOf (K:zax7) (H:Hp):V→Value→Prop where
 |non:TyOf K H .non (.type "NoneType")
 |bl (x:Bool):TyOf K H (.bl x) (.type "bool")
 |int (i:Int):TyOf K H (.int i) (.type "int")
 |str (x:Str):TyOf K H (.str x) (.type "str")
 |flt (x:UInt64):TyOf K H (.flt x) (.type "float")
 |lst {a:Addr}{xs:List V} (e:H a=some (.lst xs)):TyOf K H (.ref a) (.type "list")
 |frz {a:Addr}{o:Obj}{xs:List V} (e:H a=some (.frz o (.lst xs))):TyOf K H (.ref a) (.type "list")
 |tup {a:Addr}{xs:List V} (e:H a=some (.tup xs)):TyOf K H (.ref a) (.type "tuple")
 |dK {a:Addr}{kvs:List (Key×V)} (e:H a=some (.dK kvs)):TyOf K H (.ref a) (.type "dict")
 |dT {a:Addr}{kvs:List (List Key×V)} (e:H a=some (.dT kvs)):TyOf K H (.ref a) (.type "dict")
 |ins {a C dx:Addr}{fs:List (Str×V)} (e:H a=some (.ins C dx fs)) (cl:Cls K C) (ha:zbg7 K (.ref C) "__class__"=some (some (.builtin "object.__class__")))
   (hn:zbn7 K (.builtin "object.__class__") "__get__"=some (some (.builtin "getset_descriptor.__get__"))) (htk:PySem.W.takesIn K (.builtin "object.__class__")=some true)
   (hm:PySem.W.mroIn K C (.type "object")=some true):TyOf K H (.ref a) (.ref C)
end
end L2
namespace L2
open PySem.Spec
structure Room (k:Nat) (A:Around):Prop where
 hd:A.handled=none
 dp:A.depth+3*k+5<recursionLimit
 un:A.units+16*k+200<cLine
theorem Room.mono {j k:Nat}{A:Around} (r:Room k A) (h:j≤k):Room j A:=⟨r.hd,by have:=r.dp;lia,by have:=r.un;lia⟩
theorem Room.deeper {k:Nat}{A:Around} (r:Room (k+1) A) (env:Env):Room k (A.deeper env) :=
 ⟨r.hd,by have:=r.dp;show A.depth+1+3*k+5<_;lia,by have:=r.un;show A.units+3+16*k+200<_;lia⟩
theorem Room.depth {k:Nat}{A:Around} (r:Room k A):A.depth<recursionLimit:=by have:=r.dp;lia
theorem Room.units {k:Nat}{A:Around} (r:Room k A):A.units+64<cLine:=by have:=r.un;lia
def tNil:TA:=fun _ H Q=>Q [] H
def tCons (ta:TE) (tr:TA):TA:=fun σ H Q=>ta σ H fun x H1=>tr σ H1 fun xs H2=>Q (x::xs) H2
section
variable {X:Cx}{e:Expr}{es:List Expr}{te:TE}{t:TA}{pos:Pos}
theorem zi8:PA X [] tNil:=fun _ _ _ _ H Q I h=>Calls.spliced_nil ⟨[],H,I,.nil,h⟩
theorem zf1 (ha:PE X e te) (hr:PA X es t) (hs:zaz1 (e::es) X.env=(false,eval e X.env)::zaz1 es X.env:=by rfl):PA X (e::es) (tCons te t):=by
 intro pos pins s σ H Q I h
 rw [hs]
 show wpAny _ _ (spliced ((false,eval e X.env)::zbd7 pos (zaz1 es X.env))) _ _ s
 refine Calls.spliced_cons (thn (ha pins s σ H _ I h) fun u s1 ⟨x,H1,I1,r1,q1⟩=>?_)
 exact thn (hr pos pins s1 σ H1 _ I1 q1) fun us s2 ⟨xs,H2,I2,r2,q2⟩=>⟨x::xs,H2,I2,.cons r1 r2,q2⟩
def tTup (t:TA):TE:=fun σ H Q=>t σ H fun xs H1=>xs.length≤sizeLine∧∀p,H1 p=none→Q (.ref p) (upd H1 p (.tup xs))
def tLst (t:TA):TE:=fun σ H Q=>t σ H fun xs H1=>xs.length≤sizeLine∧∀p,H1 p=none→Q (.ref p) (upd H1 p (.lst xs))
theorem pe_tup {x1} (h:PA X es t):PE X (.Tuple es x1 pos) (tTup t):=by
 intro pins s σ H Q I hq
 refine wpAny_Tuple_spliced (thn (h pos pins s σ H _ I hq) fun us s1 ⟨xs,H1,I1,r,z,q⟩=>⟨by rw [← r.length];exact z,?_⟩)
 have hf:H1 s1.heap.objs.size=none:=I1.hok.fresh (zba1 _)
 refine⟨.ref s1.heap.objs.size,upd H1 s1.heap.objs.size (.tup xs),I1.laid (t':=s1.toks) (fun b u e=>zay6 _ e) (zba1 _) ?_,rfl,q _ hf⟩
 exact⟨z,us,r,⟨_,zbb1 _ rfl,rfl,_,rfl⟩⟩
theorem pe_lst (h:PA X es t):PE X (.List es pos) (tLst t):=by
 intro pins s σ H Q I hq
 refine wpAny_List_spliced (thn (h pos pins s σ H _ I hq) fun us s1 ⟨xs,H1,I1,r,z,q⟩=>⟨by rw [← r.length];exact z,?_⟩)
 have hf:H1 s1.heap.objs.size=none:=I1.hok.fresh (zba1 _)
 refine⟨.ref s1.heap.objs.size,upd H1 s1.heap.objs.size (.lst xs),I1.laid (t':=s1.toks) (fun b u e=>zay6 _ e) (zba1 _) ?_,rfl,q _ hf⟩
 exact⟨z,us,0,r,zbb1 _ rfl⟩
end
abbrev Sp:=List V→Hp→VK→XK→Prop
abbrev CXT:=List Env→Hp→zaz0→XK→Value→zaz0→Prop
structure Env0 (P:Program) (w:World) (K:zax7) (mg:Str→Option Value) (base:BHeap) (A:Around) (outer:List Env) (s:zaz0) (H:Hp):Prop where
 frames:A.frames=some outer
 mod:Mod K mg base
 bs:∀b o,base.get? b=some o→s.heap.get? b=some o∧H b=none
 bsz:base.objs.size≤s.heap.objs.size
 funs:s.heap.FunFrames base outer
 frf:∀b∈frs outer,H b=none
 hok:HOk P w H s.heap
 bare:AllBare s.gens
 tabs:∀p∈base.tabs,H p.1=some (.tbl p.2)
noncomputable def CE (outer:List Env) (P:Program) (w:World) (H:Hp) (s:zaz0) (Q:VK) (u:Value) (s':zaz0):Prop :=
 ∃v H',s'.os=s.os∧AllBare s'.gens∧Un (frs outer) [] H H' s.heap s'.heap∧HOk P w H' s'.heap∧RelV v u∧Q v H'
noncomputable def CR (CX:CXT) (outer:List Env) (P:Program) (w:World) (H:Hp) (s:zaz0) (Q:VK) (E:XK) (r:Result) (s':zaz0):Prop :=
 match r with
 |.ok (.ret u)=>CE outer P w H s Q u s'
 |.ok _=>False
 |.error e=>CX outer H s E e s'
structure FnOk (P:Program) (w:World) (K:zax7) (mg:Str→Option Value) (base:BHeap) (CX:CXT) (k:Nat) (f:Addr) (fd:FuncData) (ps:List Str) (sp:Sp):Prop where
 len:∀vs H Q E,sp vs H Q E→vs.length=ps.length
 run:∀(A:Around) (outer:List Env) (s:zaz0) (H:Hp) (args:Args) (us:List Value) (vs:List V) (Q:VK) (E:XK),Room k A→Env0 P w K mg base A outer s H→BindsTo s fd args (ps.zip us)→Vals vs us→sp vs H Q E →
  codeAny (model P w) A (.call (.ref f) args) (CR CX outer P w H s Q E) s
section
variable {X:Cx}{pins:List (Addr×Obj)}{σ:St}{H:Hp}{s s':zaz0}
theorem Inv.env0 (I:Inv X pins σ H s):Env0 X.prog X.w X.K X.mg X.base X.A X.stack s H :=
 ⟨I.ok.frames,I.ok.mod,I.bs,zaz4 I.ok.bsz I.sz,I.stack,I.stkFree,I.hok,I.bare,fun p hp=>I.base.tbls _ _ (I.ok.tabs p hp)⟩
theorem Inv.after {Q:VK}{u:Value} (I:Inv X pins σ H s) (h:CE X.stack X.prog X.w H s Q u s'):EP X pins σ Q u s':=by
 obtain⟨v,H',os,bare,un,hok,r,q⟩:=h
 obtain⟨hh,g,d,t,os'⟩:=s'
 obtain rfl:os'=s.os:=os
 exact⟨v,H',I.call (h':=hh) (g':=g) (d':=d) (t':=t) (ch:=[]) un hok bare (fun b z=>absurd z (by simp)),r,q⟩
end
def tCall (sp:Sp) (dvs:List V) (E:XK) (t:TA):TE:=fun σ H Q=>t σ H fun vs H1=>sp (vs++dvs) H1 Q E
noncomputable def Binds (K:zax7) (fd:FuncData) (ps:List Str) (ds:List Value):Prop :=
 ∀(s:zaz0) (us:List Value),K.In s.heap→(us++ds).length=ps.length→BindsTo s fd ⟨us,[]⟩ (ps.zip (us++ds))
theorem Binds.all {K:zax7}{fd:FuncData}{ps:List Str} (h:∀us:List Value,us.length=ps.length→bindArgs fd ⟨us,[]⟩=pure (ps.zip us)):Binds K fd ps []:=fun s us _ hl=>by
 rw [zbf9]at hl ⊢
 exact .of_eq (h us hl)
noncomputable def zam0 (CX:CXT) (X:Cx) (E:XK):Prop := ∀(pins:List (Addr×Obj)) (σ:St) (H:Hp) (s:zaz0) (e:Value) (s':zaz0),Inv X pins σ H s→CX X.stack H s E e s'→X.xe e s'
section
variable {X:Cx}{CX:CXT}{k:Nat}{f C:Addr}{fd:FuncData}{ps:List Str}{sp:Sp}{dvs:List V}{ds:List Value}{E:XK}{x m:Str}{p pos apos:Pos}{e o:Expr}{es:List Expr}{ta:TE}{t:TA}
theorem run_fn {pins:List (Addr×Obj)}{σ:St}{H:Hp}{s:zaz0}{Q:VK}{us:List Value}{vs:List V} (F:FnOk X.prog X.w X.K X.mg X.base CX k f fd ps sp) (hr:Room k X.A) (hb:Binds X.K fd ps ds) (hd:Vals dvs ds) (hx:zam0 CX X E)
  (I:Inv X pins σ H s) (r:Vals vs us) (h:sp (vs++dvs) H Q E):wpAny (model X.prog X.w) X.A (call (.ref f) us) (EP X pins σ Q) X.xe s:=by
 have r2:Vals (vs++dvs) (us++ds):=r.append hd
 have hl:(us++ds).length=ps.length:=by rw [← r2.length];exact F.len _ _ _ _ h
 refine wpAny_call (codeAny_mono (F.run X.A X.stack s H ⟨us,[]⟩ (us++ds) (vs++dvs) Q E hr I.env0 (hb s us I.kIn hl) r2 h) fun r s' hq=>?_)
 cases r with
 |error e=>exact hx pins σ H s e s' I hq
 |ok fl =>
  cases fl with
  |ret u=>exact I.after hq
  |next=>exact False.elim hq
  |brk=>exact False.elim hq
  |cont=>exact False.elim hq
theorem pe_call (F:FnOk X.prog X.w X.K X.mg X.base CX k f fd ps sp) (hr:Room k X.A) (hg:Gl X x) (hm:X.mg x=some (.ref f)) (hk:zbc1 X.K (.ref f)=true) (hb:Binds X.K fd ps ds) (hd:Vals dvs ds) (hx:zam0 CX X E)
  (ha:PA X (e::es) t) (hdb:(x ==("__debug__":Str))=false:=by decide) (he:zaz1 (e::es) X.env=(false,eval e X.env)::zaz1 es X.env:=by rfl) (hpl:(zbd7 pos (zaz1 es X.env)).any (·.1)=false:=by rfl) :
  PE X (.Call (.Name x p) (e::es) [] pos) (tCall sp dvs E t):=by
 intro pins s σ H Q I h
 refine wpAny_Call_Name_kw (zat4 I hg hm ?_ hdb)
 refine PySem.W.callWith_K (h₀:=X.base) I.ok.mod.kin hk (thn (ha pos pins s σ H _ I h) fun us s1 ⟨vs,H1,I1,r,q⟩=>⟨I1.kIn,?_⟩) he hpl
 exact run_fn F hr hb hd hx I1 r q
theorem pe_call0 (F:FnOk X.prog X.w X.K X.mg X.base CX k f fd ps sp) (hr:Room k X.A) (hg:Gl X x) (hm:X.mg x=some (.ref f)) (hk:zbc1 X.K (.ref f)=true) (hb:Binds X.K fd ps ds) (hd:Vals dvs ds) (hx:zam0 CX X E)
  (hdb:(x ==("__debug__":Str))=false:=by decide):PE X (.Call (.Name x p) [] [] pos) (tCall sp dvs E tNil):=by
 intro pins s σ H Q I h
 refine wpAny_Call_Name_kw (zat4 I hg hm ?_ hdb)
 exact PySem.W.callWith_K0 I.kIn hk (run_fn (us:=[]) F hr hb hd hx I .nil h)
structure Mk (K:zax7) (C f:Addr):Prop where
 makes:PySem.W.makesIn K C=true
 init:zbg7 K (.ref C) "__init__"=some (some (.ref f))
 fn:PySem.W.isFn K (.ref f)=true
 kp:zbc1 K (.ref C)=true
end
section
variable {X:Cx}{CX:CXT}{k:Nat}{f C:Addr}{fd:FuncData}{ps ks:List Str}{sp:Sp}{E:XK}{x m:Str}{p pos apos kpos:Pos}{e o:Expr}{es:List Expr}{kws:List Keyword}{te ta:TE}{t tk:TA}{nm:Option Str}
structure KBinds (K:zax7) (fd:FuncData) (ps ks:List Str) (g:List Value→List Value→List Value) (gV:List V→List V→List V):Prop where
 to:∀(s:zaz0) (us ws:List Value),K.In s.heap→(g us ws).length=ps.length→BindsTo s fd ⟨us,ks.zip ws⟩ (ps.zip (g us ws))
 rel:∀ {vs:List V}{us:List Value}{zs:List V}{ws:List Value},Vals vs us→Vals zs ws→Vals (gV vs zs) (g us ws)
variable {g:List Value→List Value→List Value}{gV:List V→List V→List V}
end
structure FnScope (N P:List Str) (sc:Scope):Prop where
 kind:sc.kind=.function
 co:sc.isCoroutine=false
 gen:sc.isGenerator=false
 nd:N.Nodup
 pre:N.take P.length=P
 par:∀x∈P,sc.names.lookup x=some .local∨sc.names.lookup x=some .cell
 nofree:∀y∈sc.names,y.2≠.free
theorem zaf2 {kindOf:Str→Option NameKind}{x:Str}:∀ {binds:List (Str×Value)}{m:Str→Option Value},(∀v,(x,v)∉binds)→bindL kindOf binds m x=m x
 |[],_,_=>rfl
 |(n,v)::r,m,h=>by
  unfold bindL
  rw [zaf2 fun w hw=>h w (zax9 _ hw)]
  split
  ·have:x≠n:=by rintro rfl;exact h v zay1
   simp [this]
  ·rfl
theorem zaf4 {kindOf:Str→Option NameKind}{x:Str}:∀ {binds:List (Str×Value)}{m:Str→Option Value},(∀v,(x,v)∉binds)→bindC kindOf binds m x=m x
 |[],_,_=>rfl
 |(n,v)::r,m,h=>by
  unfold bindC
  rw [zaf4 fun w hw=>h w (zax9 _ hw)]
  split
  ·rfl
  ·have:x≠n:=by rintro rfl;exact h v zay1
   simp [this]
theorem zaf3 {kindOf:Str→Option NameKind}{x:Str}{v:Value}:∀ {P:List Str}{vs:List Value}{i:Nat}{m:Str→Option Value},P.Nodup→P[i]?=some x→vs[i]?=some v→kindOf x=some .local →
  bindL kindOf (P.zip vs) m x=some v
 |[],_,_,_,_,h,_,_=>by simp at h
 |_::_,[],_,_,_,_,h,_=>by simp at h
 |p::P,w::vs,0,m,nd,h1,h2,hk=>by
  simp at h1 h2;subst h1;subst h2
  show bindL kindOf ((p,w)::P.zip vs) m p=_
  unfold bindL
  rw [zaf2 fun v hv=>(zaz8.mp nd).1 (zbm0 hv).1,if_pos hk]
  simp
 |p::P,w::vs,i+1,m,nd,h1,h2,hk=>by
  show bindL kindOf ((p,w)::P.zip vs) m x=_
  unfold bindL
  exact zaf3 (i:=i) (zaz8.mp nd).2 (by simpa using h1) (by simpa using h2) hk
theorem zaf5 {kindOf:Str→Option NameKind}{x:Str}{v:Value}:∀ {P:List Str}{vs:List Value}{i:Nat}{m:Str→Option Value},P.Nodup→P[i]?=some x→vs[i]?=some v→kindOf x≠some .local →
  bindC kindOf (P.zip vs) m x=some v
 |[],_,_,_,_,h,_,_=>by simp at h
 |_::_,[],_,_,_,_,h,_=>by simp at h
 |p::P,w::vs,0,m,nd,h1,h2,hk=>by
  simp at h1 h2;subst h1;subst h2
  show bindC kindOf ((p,w)::P.zip vs) m p=_
  unfold bindC
  rw [zaf4 fun v hv=>(zaz8.mp nd).1 (zbm0 hv).1,if_neg hk]
  simp
 |p::P,w::vs,i+1,m,nd,h1,h2,hk=>by
  show bindC kindOf ((p,w)::P.zip vs) m x=_
  unfold bindC
  exact zaf5 (i:=i) (zaz8.mp nd).2 (by simpa using h1) (by simpa using h2) hk
def start (N:List Str) (vs:List V):St:=vs.map some++zaz6 (N.length - vs.length) none
noncomputable def cxOf (CX:CXT) (P:Program) (w:World) (K:zax7) (mg:Str→Option Value) (base:BHeap) (N:List Str) (qual:Str) (scope:Scope) (f:Addr) (cd:Value) (A:Around) (outer:List Env) (s:zaz0) (H:Hp) (E:XK):Cx where
 prog:=P
 w:=w
 K:=K
 mg:=mg
 base:=base
 A:=A.deeper (envOfC qual scope s.heap.objs.size f cd)
 N:=N
 s₀:=s
 H₀:=H
 env:=envOfC qual scope s.heap.objs.size f cd
 outer:=outer
 stack:=envOfC qual scope s.heap.objs.size f cd::outer
 ex:=[]
 calm:=true
 fn:=fun _=>true
 pn:=[]
 xe:=fun e s'=>wpAny (model P w) (A.deeper (envOfC qual scope s.heap.objs.size f cd)) (leaving (envOfC qual scope s.heap.objs.size f cd) e) (fun _ s''=>CX outer H s E e s'') (fun e' s''=>CX outer H s E e' s'') s'
theorem zal8 {sc:Scope}{n:Nat}{x:Str} (h:sc.names.lookup x=some .cell):∃c,(cellsFrom n sc.names []).lookup x=some c:=by
 have q:=zbl0 sc.names n [] (.inl h)
 exact zbg8.mp q
theorem zau2 {CX:CXT}{P:Program}{w:World}{K:zax7}{mg:Str→Option Value}{base:BHeap}{N ps:List Str}{qual:Str}{scope:Scope}{f:Addr}{cd:Value}{A:Around}{outer:List Env}{s s1:zaz0}{H:Hp}{E:XK}{us:List Value}{vs:List V}
  (S:FnScope N ps scope) (hd:A.handled=none) (e0:Env0 P w K mg base A outer s H) (hl:vs.length=ps.length) (r:Vals vs us)
  (x:InCallC s s.heap.objs.size (bindL (envOfC qual scope s.heap.objs.size f cd).kindOf (ps.zip us) fun _=>none) (cellsFrom (s.heap.objs.size+1) scope.names []) (bindC (envOfC qual scope s.heap.objs.size f cd).kindOf (ps.zip us) fun _=>none) s1) :
  Inv (cxOf CX P w K mg base N qual scope f cd A outer s H E) [] (start N vs) H s1:=by
 have hpl:ps.length≤N.length:=by have:=congrArg List.length S.pre;rw [List.length_take]at this;lia
 obtain⟨h1,tk,rfl,hk⟩:=x.done
 have noA:∀b:Addr,b∉(cxOf CX P w K mg base N qual scope f cd A outer s H E).ex:=fun b z=>absurd (show b∈([]:List Addr) from z) (by simp)
 refine⟨⟨e0.mod,S.kind,rfl,rfl,zba1 _,fun y z c h1 h2=>?_,fun y hy=>?_,fun y c _ h=>?_,fun _=>hd,Around.frames_deeper e0.frames,.inr ⟨rfl,rfl⟩,fun b z=>absurd z (noA b),e0.bs,e0.bsz,fun b _ _=>noA b,fun b z=>absurd z (noA b),e0.funs,e0.frf,e0.tabs⟩,
  rfl,e0.bare,Un.kept hk,⟨_,x.toInCall.ns,fun i y v h1 h2 h3=>?_⟩,fun y c h=>⟨_,x.cell y c h⟩,e0.hok.fresh (zba1 _),fun y c h=>?_,fun p hp=>absurd (show p∈([]:List (Addr×Obj)) from hp) (by simp),e0.hok.kept hk,?_⟩
 ·exact name_of_addr x.apart (PySem.mem_of_lookup h1) (PySem.mem_of_lookup h2)
 ·have hy:scope.names.lookup y=some .cell∨scope.names.lookup y=some .free:=hy
  rcases hy with hy | hy
  ·exact zal8 hy
  ·exact absurd rfl (S.nofree _ (PySem.mem_of_lookup hy))
 ·exact zbj9 (x.above y c (PySem.mem_of_lookup h))
 ·have hi:i<vs.length:=by
   unfold start at h2
   by_cases hi:i<vs.length
   ·exact hi
   ·rw [zbc4 (by simpa using hi)]at h2
    rw [zbd5]at h2
    split at h2<;>cases h2
  have ha:vs[i]?=some v:=by
   unfold start at h2
   rw [zbc8 (by simpa using hi),zbb2]at h2
   cases e:vs[i]? with
   |none=>rw [e]at h2;cases h2
   |some a=>rw [e]at h2;cases h2;rfl
  obtain⟨u,hu,rv⟩:=r.get ha
  have hp:ps[i]?=some y:=by
   rw [← S.pre,List.getElem?_take_of_lt (by lia)];exact h1
  have ndP:ps.Nodup:=by rw [← S.pre];exact S.nd.sublist (List.take_sublist _ _)
  refine⟨u,rv,?_⟩
  rcases S.par y (zbm2 hp) with k | k
  ·exact .inl ⟨k,zaf3 ndP hp hu k⟩
  ·obtain⟨c,e⟩:=zal8 (n:=s.heap.objs.size+1) k
   refine .inr ⟨.inl k,c,e,?_⟩
   have q:=x.cell y c e
   rw [zaf5 ndP hp hu (by show scope.names.lookup y≠_;rw [k];decide)]at q
   exact q
 ·exact e0.hok.fresh (zbj9 (x.above y c (PySem.mem_of_lookup h)))
 ·unfold start
  show _=N.length
  rw [zba7,zba6,zbe2]
  lia
theorem fn_of {CX:CXT}{P:Program}{w:World}{K:zax7}{mg:Str→Option Value}{base:BHeap}{k:Nat}{f:Addr}{name qual:Str}{params:Arguments}{body:List Stmt}{scope:Scope}{dV kV doc pm cdv ct oc:Value}{an od:Option Addr}
  {osl:Array (Option Value)}{N ps:List Str}{sp:Sp} (lk:K.lookup f=some ⟨oc,od,.func (zbc9 name qual params body scope dV kV doc pm an cdv ct),osl⟩) (hcd:zbk0 K cdv qual=true) (S:FnScope N ps scope)
  (len:∀vs H Q E,sp vs H Q E→vs.length=ps.length)
  (hbody:∀(A:Around) (outer:List Env) (s:zaz0) (H:Hp) (vs:List V) (Q:VK) (E:XK),Room k (A.deeper (envOfC qual scope s.heap.objs.size f cdv))→sp vs H Q E →
   ∃t,PSs (cxOf CX P w K mg base N qual scope f cdv A outer s H E) body t∧t { nx:=fun _ H'=>Q .non H',rt:=Q } (start N vs) H) :
  FnOk P w K mg base CX (k+1) f (zbc9 name qual params body scope dV kV doc pm an cdv ct) ps sp:=by
 refine⟨len,fun A outer s H args us vs Q E hr e0 hb r hsp=>?_⟩
 have hl:=len _ _ _ _ hsp
 have KX:K.In s.heap:=e0.mod.kin.keeps fun b o e=>(e0.bs b o e).1
 have lim:s.heap.NoLimit:=e0.mod.nolimit.keeps fun b o e=>(e0.bs b o e).1
 have hkind:∀y∈ps.zip us,scope.names.lookup y.1=some .local∨(scope.names.lookup y.1=some .cell∧((cellsFrom (s.heap.objs.size+1) scope.names []).lookup y.1).isSome=true):=fun ⟨n,v⟩ hy=>by
  rcases S.par n (zbm0 hy).1 with q | q
  ·exact .inl q
  ·exact .inr ⟨q,zbl0 _ _ _ (.inl q)⟩
 refine codeAny_call_function hr.depth (KX _ _ lk) rfl S.co S.gen rfl (PySem.W.codeRec_of KX hcd) (hb _ _ _ _ ?_)
 refine wpAny_newFunctionEnv_cells S.kind hkind fun env he s1 x=>?_
 subst he
 refine⟨lim.keeps x.toInCall.keep,codeAny_func ?_⟩
 obtain⟨t,ht,hq⟩:=hbody A outer s H vs Q E (hr.deeper _) hsp
 have I:Inv (cxOf CX P w K mg base N qual scope f cdv A outer s H E) [] (start N vs) H s1:=zau2 S hr.hd e0 hl r x
 refine wpAny_mono (ht [] s1 (start N vs) H _ I hq) (fun fl s' hs=>?_) fun e s' hs=>hs
 have fin:∀ {σ':St}{H':Hp}{v:V}{u:Value},Inv (cxOf CX P w K mg base N qual scope f cdv A outer s H E) [] σ' H' s'→RelV v u→Q v H'→CE outer P w H s Q u s' :=
  fun {σ' H' v u} J rv q=>⟨v,H',J.os,J.bare,J.base,J.hok,rv,q⟩
 cases fl with
 |ret u =>
  obtain⟨v,σ',H',J,rv,q⟩:=hs
  exact fin J rv q
 |next =>
  obtain⟨σ',H',J,q⟩:=hs
  exact fin (v:=V.non) (u:=Value.none) J rfl q
 |brk =>
  obtain⟨_,_,_,q⟩:=hs
  exact False.elim q
 |cont =>
  obtain⟨_,_,_,q⟩:=hs
  exact False.elim q
end L2
namespace L2
open PySem.Spec
section
variable {X:Cx}{x:Str}{p pos:Pos}{e:Expr}{es:List Expr}{t:TA}{id T:String}{r:List V→Hp→VK→Prop}
def tCB (r:List V→Hp→VK→Prop) (t:TA):TE:=fun σ H Q=>t σ H fun vs H1=>r vs H1 Q
theorem zak6 (hc:zn1 X (.builtin id) r) (hg:Gl X x) (hm:X.mg x=none) (hv:bootBuiltins x=some (.builtin id)) (ha:PA X (e::es) t) (hn:x≠"__name__":=by decide) (hdb:(x ==("__debug__":Str))=false:=by decide)
  (he:zaz1 (e::es) X.env=(false,eval e X.env)::zaz1 es X.env:=by rfl) (hpl:(zbd7 pos (zaz1 es X.env)).any (·.1)=false:=by rfl):PE X (.Call (.Name x p) (e::es) [] pos) (tCB r t):=by
 intro pins s σ H Q I h
 refine wpAny_Call_Name_kw (zo3 I hg hm hv ?_ hn hdb)
 exact PyProof.Rows.callWith_builtin1 (thn (ha pos pins s σ H _ I h) fun us s1 ⟨vs,H1,I1,r1,q1⟩=>hc pins s1 σ H1 vs us Q I1 r1 q1) he hpl
theorem zar6 (hc:zn1 X (.type T) r) (hg:Gl X x) (hm:X.mg x=none) (hv:bootBuiltins x=some (.type T)) (ha:PA X (e::es) t) (hn:x≠"__name__":=by decide) (hdb:(x ==("__debug__":Str))=false:=by decide)
  (he:zaz1 (e::es) X.env=(false,eval e X.env)::zaz1 es X.env:=by rfl) (hpl:(zbd7 pos (zaz1 es X.env)).any (·.1)=false:=by rfl):PE X (.Call (.Name x p) (e::es) [] pos) (tCB r t):=by
 intro pins s σ H Q I h
 refine wpAny_Call_Name_kw (zo3 I hg hm hv ?_ hn hdb)
 exact PyProof.Rows.callWith_type1 (thn (ha pos pins s σ H _ I h) fun us s1 ⟨vs,H1,I1,r1,q1⟩=>hc pins s1 σ H1 vs us Q I1 r1 q1) he hpl
end
end L2
namespace L2
open PySem.Spec
abbrev TO:=St→Hp→(Option Int→Hp→Prop)→Prop
theorem zk5 {ns:List Int}:∀ {us:List Value},Vals (ns.map V.int) us→IntsAre us ns:=by
 induction ns with
 |nil=>intro us r;rw [zbo4]at r;cases r;exact .nil
 |cons n ns ih =>
  intro us r
  rw [zaz3]at r
  cases r with
  |cons r1 r2 =>
   obtain⟨t,e⟩:=r1
   subst e
   exact .cons n t (ih r2)
noncomputable def ixN (n:Nat) (i:Int):Option Nat:=if 0≤i then (if i<n then some i.toNat else none) else if -(n:Int)≤i then some (i+n).toNat else none
def atI {α:Type} (xs:List α) (i:Int):Option α:=(ixN xs.length i).bind fun j=>xs[j]?
theorem zau0 {n:Nat}{i:Int}{j:Nat} (h:ixN n i=some j):seqIndex? i n=some j∧j<n ∧ -(n:Int)≤i∧i<n:=by
 unfold ixN at h
 by_cases h0:0≤i
 ·rw [if_pos h0]at h
  by_cases h1:i<n
  ·rw [if_pos h1]at h
   have e:i.toNat=j:=Option.some.inj h
   exact⟨by rw [seqIndex_of h0 h1,e],by lia,by lia,h1⟩
  ·rw [if_neg h1]at h;cases h
 ·rw [if_neg h0]at h
  by_cases h1 : -(n:Int)≤i
  ·rw [if_pos h1]at h
   have e:(i+n).toNat=j:=Option.some.inj h
   exact⟨by rw [seqIndex_neg (by lia) h1,e],by lia,h1,by lia⟩
  ·rw [if_neg h1]at h;cases h
theorem zax3 {α:Type}{xs:List α}{i:Int}{v:α} (h:atI xs i=some v):∃j,seqIndex? i xs.length=some j∧xs[j]?=some v∧j<xs.length ∧ -(xs.length:Int)≤i∧i<xs.length:=by
 unfold atI at h
 cases e:ixN xs.length i with
 |none=>rw [e]at h;cases h
 |some j =>
  rw [e]at h
  obtain⟨h1,h2,h3,h4⟩:=zau0 e
  exact⟨j,h1,h,h2,h3,h4⟩
def zaj4 (b:Expr):Prop := ∀o i,subscripted b false o i=operate [o,i] (getItem o i)
noncomputable def IxR (X:Cx) (r:R2):Prop :=
 ∀(value slice:Expr) (pins:List (Addr×Obj)) (s:zaz0) (σ:St) (H:Hp) (x y:V) (v u:Value) (Q:VK),Inv X pins σ H s→RelV x v→RelV y u→r x y H Q →
  subscripted slice false v u=operate [v,u] (getItem v u)→wpAny (model X.prog X.w) X.A (subscriptTail value slice v u) (EP X pins σ Q) X.xe s
noncomputable def MtR (X:Cx) (id:String) (r:V→List V→Hp→VK→Prop):Prop :=
 ∀(pins:List (Addr×Obj)) (s:zaz0) (σ:St) (H:Hp) (x:V) (xs:List V) (v:Value) (us:List Value) (Q:VK),Inv X pins σ H s→RelV x v→Vals xs us→r x xs H Q →
  wpAny (model X.prog X.w) X.A (call (.builtin id) (v::us)) (EP X pins σ Q) X.xe s
section
variable {X:Cx}{a b:Expr}{ta tb:TE}{pos:Pos}
theorem IxR.or {r r':R2} (h:IxR X r) (h':IxR X r'):IxR X (fun x y H Q=>r x y H Q∨r' x y H Q):=by
 intro value slice pins s σ H x y v u Q I rx ry q hs
 rcases q with q | q
 ·exact h value slice pins s σ H x y v u Q I rx ry q hs
 ·exact h' value slice pins s σ H x y v u Q I rx ry q hs
theorem pe_ix {r:R2} (hr:IxR X r) (ha:PE X a ta) (hb:PE X b tb) (hs:zaj4 b):PE X (.Subscript a b pos) (tOp r ta tb):=by
 intro pins s σ H Q I h
 exact Subscript_ (binT ha hb I h fun v u s2 x y H2 I2 rx ry q=>hr a b pins s2 σ H2 x y v u Q I2 rx ry q (hs _ _))
def rIxL (K:zax7):R2:=fun x y H Q => ∃p xs i v,x=.ref p∧y=.int i∧SqL K H p xs∧atI xs i=some v∧Q v H
def rIxT (K:zax7):R2:=fun x y H Q => ∃p xs i v,x=.ref p∧y=.int i∧SqT K H p xs∧atI xs i=some v∧Q v H
theorem ix_list:IxR X (rIxL X.K):=by
 intro value slice pins s σ H x y v u Q I rx ry h hs
 obtain⟨p,xs,i,z,rfl,rfl,hq,he,q⟩:=h
 cases rx
 obtain⟨t,rfl⟩:=ry
 obtain⟨its,r,pl,hz⟩:=I.list hq
 obtain⟨j,h1,h2,h3,h4,h5⟩:=zax3 he
 obtain⟨w,ew,rw'⟩:=r.get h2
 have hl:=r.length
 have hn:=zak9
 have fin:EP X pins σ Q w s:=⟨z,H,I,rw',q⟩
 by_cases h0:0≤i
 ·have hj:i.toNat=j:=by
   rw [seqIndex_of h0 h5]at h1
   exact Option.some.inj h1
  exact item_listR pl.isList h0 (by lia) (by rw [hj];simpa using ew) fin hs
 ·have hj:(i+(its.toArray.size:Int)).toNat=j:=by
   rw [seqIndex_neg (by lia) h4]at h1
   rw [zba0, ← hl]
   exact Option.some.inj h1
  exact subscriptTail_builtinR (x:=w) pl.isList.typeIs slot_list_getitem.lookup
   (wpAny_getItem_list_neg (Q:=fun r s'=>r=w∧EP X pins σ Q r s') pl.isList (by lia) (by rw [zba0]<;>lia) (by lia) (by rw [hj];simpa using ew) ⟨rfl,fin⟩) hs
theorem ix_tup:IxR X (rIxT X.K):=by
 intro value slice pins s σ H x y v u Q I rx ry h hs
 obtain⟨p,xs,i,z,rfl,rfl,hq,he,q⟩:=h
 cases rx
 obtain⟨t,rfl⟩:=ry
 obtain⟨its,r,pl,hz⟩:=I.tuple hq
 obtain⟨j,h1,h2,h3,h4,h5⟩:=zax3 he
 obtain⟨w,ew,rw'⟩:=r.get h2
 have hl:=r.length
 have hn:=zak9
 have fin:EP X pins σ Q w s:=⟨z,H,I,rw',q⟩
 exact subscriptTail_builtinR (x:=w) pl.typeIs slot_tuple_getitem.lookup
  (getItem_tuple (j:=j) (Q:=fun r s'=>r=w∧EP X pins σ Q r s') pl (by lia) (by lia) (by rw [zba0, ← hl];exact h1) (by simpa using ew) ⟨rfl,fin⟩) hs
theorem Inv.lst {pins:List (Addr×Obj)}{σ:St}{H:Hp}{s:zaz0}{p:Addr}{xs:List V} (I:Inv X pins σ H s) (h:H p=some (.lst xs)) :
  ∃(its:List Value) (n:Nat),Vals xs its∧s.heap.get? p=some { cls:=.type "list",data:=.seq its.toArray n }∧xs.length≤sizeLine:=by
 obtain⟨z,its,n,r,e⟩:=I.hok p _ h
 exact⟨its,n,r,e,z⟩
def zau6:V→Bool
 |.non=>true
 |.bl _=>true
 |.int _=>true
 |.str _=>true
 |_=>false
noncomputable def eqV:V→V→Bool
 |.non,.non=>true
 |.bl a,.bl b=>a == b
 |.bl a,.int b=>(if a then 1 else 0) == b
 |.int a,.bl b=>a ==(if b then 1 else 0)
 |.int a,.int b=>a == b
 |.str a,.str b=>a == b
 |_,_=>false
theorem eqAt_V {A:Around}{s:zaz0}{y x:V}{u v:Value} (ry:RelV y u) (rx:RelV x v) (fy:zau6 y=true) (fx:zau6 x=true):SeqAt.EqAt A s u v (eqV y x):=by
 cases y with
 |non =>
  cases ry
  cases x with
  |non=>cases rx;exact SeqAt.EqAt.same _
  |bl b=>cases rx;exact SeqAt.EqAt.none_bool b
  |int b=>obtain⟨t,rfl⟩:=rx;exact SeqAt.EqAt.none_int b t
  |str b=>obtain⟨t,rfl⟩:=rx;exact SeqAt.EqAt.none_str b t
  |_=>exact absurd (show false=true from fx) zaz7
 |bl a =>
  cases ry
  cases x with
  |non=>cases rx;exact SeqAt.EqAt.bool_none a
  |bl b=>cases rx;exact SeqAt.EqAt.bool_bool a b
  |int b=>obtain⟨t,rfl⟩:=rx;exact SeqAt.EqAt.bool_int a b t
  |str b=>obtain⟨t,rfl⟩:=rx;exact SeqAt.EqAt.bool_str a b t
  |_=>exact absurd (show false=true from fx) zaz7
 |int a =>
  obtain⟨t',rfl⟩:=ry
  cases x with
  |non=>cases rx;exact SeqAt.EqAt.int_none a t'
  |bl b=>cases rx;exact SeqAt.EqAt.int_bool a t' b
  |int b=>obtain⟨t,rfl⟩:=rx;exact SeqAt.EqAt.int_int a t' b t
  |str b=>obtain⟨t,rfl⟩:=rx;exact SeqAt.EqAt.int_str a t' b t
  |_=>exact absurd (show false=true from fx) zaz7
 |str a =>
  obtain⟨t',rfl⟩:=ry
  cases x with
  |non=>cases rx;exact SeqAt.EqAt.str_none a t'
  |bl b=>cases rx;exact SeqAt.EqAt.str_bool a t' b
  |int b=>obtain⟨t,rfl⟩:=rx;exact SeqAt.EqAt.str_int a t' b t
  |str b=>obtain⟨t,rfl⟩:=rx;exact SeqAt.EqAt.str_str a t' b t
  |_=>exact absurd (show false=true from fx) zaz7
 |_=>exact absurd (show false=true from fy) zaz7
theorem zaf0:zn1 X (.builtin "len") (fun xs H Q => ∃p ys,xs=[.ref p]∧(SqL X.K H p ys∨SqT X.K H p ys)∧Q (.int ys.length) H):=by
 intro pins s σ H xs us Q I r h
 obtain⟨p,ys,rfl,hq,q⟩:=h
 obtain⟨u,rfl,rx⟩:=zt5 r
 cases rx
 have hn:=zak9
 rcases hq with hq | hq
 ·obtain⟨its,r',pl,hz⟩:=I.list hq
  have hlen:=r'.length
  exact Calls.call_len_list pl.isList (by simp only [zba0]<;>lia) ⟨.int ys.length,H,I.tok _,⟨s.toks+1,by rw [zba0,hlen]⟩,q⟩
 ·obtain⟨its,r',pl,hz⟩:=I.tuple hq
  have hlen:=r'.length
  exact len_tuple pl (by simp only [zba0]<;>lia) ⟨.int ys.length,H,I.tok _,⟨s.toks+1,by rw [zba0,hlen]⟩,q⟩
theorem zae9:zn1 X (.type "list") (fun xs H Q => ∃p ys,xs=[.ref p]∧(SqL X.K H p ys∨SqT X.K H p ys)∧∀l,H l=none→Q (.ref l) (upd H l (.lst ys))):=by
 intro pins s σ H xs us Q I r h
 obtain⟨p,ys,rfl,hq,q⟩:=h
 obtain⟨u,rfl,rx⟩:=zt5 r
 cases rx
 have fin:∀(its:List Value),Vals ys its→ys.length≤sizeLine→∀(h':Heap) (c':Nat),(∀b o',s.heap.get? b=some o'→h'.get? b=some o') →
   h'.get? s.heap.objs.size=some { cls:=.type "list",dict:=none,data:=.seq its.toArray c',slots := #[] }→EP X pins σ Q (.ref s.heap.objs.size) { s with heap:=h' }:=fun its r' hz h' c' kp e =>
  ⟨.ref s.heap.objs.size,_,I.laid (t':=s.toks) kp (zba1 _) (show ObjOk X.prog X.w _ h' _ (.lst ys) from ⟨hz,its,c',r',e⟩),rfl,q _ (I.hok.fresh (zba1 _))⟩
 rcases hq with hq | hq
 ·obtain⟨its,r',pl,hz⟩:=I.list hq
  have hlen:=r'.length
  obtain⟨o,ho,hc,n,hd⟩:=pl.isList
  exact call_list_seq p (.inl rfl) ho hc hd (fun h' c' kp e=>fin its r' hz h' c' kp e) (by simp only [zba0]<;>lia)
 ·obtain⟨its,r',pl,hz⟩:=I.tuple hq
  have hlen:=r'.length
  obtain⟨o,ho,hc,n,hd⟩:=pl
  exact call_list_seq p (.inr rfl) ho hc hd (fun h' c' kp e=>fin its r' hz h' c' kp e) (by simp only [zba0]<;>lia)
noncomputable def tyV (K:zax7) (T:String) (x:V) (H:Hp):Prop:=match x with
 |.str _=>T = "str"
 |.int _=>T = "int"
 |.ref p=>(T = "list"∧∃xs,SqL K H p xs)∨(T = "tuple"∧∃o,K.lookup p=some o∧o.cls=.type "tuple"∧o.dict=none) ∨
   (T = "dict"∧((∃kvs,H p=some (.dK kvs))∨∃kvs,H p=some (.dT kvs)))∨(T = "set"∧∃S n,H p=some (.set S n))
 |_=>False
theorem tyV_is {pins:List (Addr×Obj)}{σ:St}{H:Hp}{s:zaz0}{T:String}{x:V}{v:Value} (I:Inv X pins σ H s) (r:RelV x v) (ty:tyV X.K T x H) :
  s.TypeIs v T∧∀a,v=.ref a→∃ob,s.heap.get? a=some ob∧ob.dict=none:=by
 cases x with
 |str z =>
  obtain⟨t,rfl⟩:=r
  cases (show T = "str" from ty)
  exact⟨typeIs_str s z t,fun _ e=>nomatch e⟩
 |int i =>
  obtain⟨t,rfl⟩:=r
  cases (show T = "int" from ty)
  exact⟨typeIs_int s i t,fun _ e=>nomatch e⟩
 |ref p =>
  cases r
  rcases ty with ⟨rfl,xs,hq⟩ | ⟨rfl,o,hk,hc,hd⟩ | ⟨rfl,hk⟩ | ⟨rfl,S,n,hk⟩
  ·obtain⟨its,_,pl,_⟩:=I.list hq
   refine⟨pl.isList.typeIs,fun a e=>?_⟩
   cases e
   obtain⟨o,n,e,c,hd,_⟩:=pl
   exact⟨o,e,hd⟩
  ·refine⟨⟨o,I.kIn p o hk,hc⟩,fun a e=>?_⟩
   cases e
   exact⟨o,I.kIn _ o hk,hd⟩
  ·have z:∃o,s.heap.get? p=some o∧o.ExactDict:=by
    rcases hk with ⟨kvs,hk⟩ | ⟨kvs,hk⟩
    ·obtain⟨_,_,_,_,o,_,_,e,ex,_⟩:=I.hok p _ hk
     exact⟨o,e,ex⟩
    ·obtain⟨_,_,_,_,o,_,_,e,ex,_⟩:=I.hok p _ hk
     exact⟨o,e,ex⟩
   obtain⟨o,e,ex⟩:=z
   refine⟨⟨o,e,ex.1⟩,fun a e2=>?_⟩
   cases e2
   exact⟨o,e,ex.2.1⟩
  ·obtain⟨o,_,_,_,e,ex,_⟩:=I.hok p _ hk
   refine⟨⟨o,e,ex.1⟩,fun a e2=>?_⟩
   cases e2
   exact⟨o,e,ex.2.1⟩
 |_=>exact False.elim ty
def tBM0 (K:zax7) (T:String) (r:V→List V→Hp→VK→Prop) (to:TE):TE:=fun σ H Q=>to σ H fun x H1=>tyV K T x H1∧r x [] H1 Q
noncomputable def tBM (K:zax7) (T:String) (r:V→List V→Hp→VK→Prop) (to:TE) (t:TA):TE:=fun σ H Q=>to σ H fun x H1=>tyV K T x H1∧t σ H1 fun xs H2=>r x xs H2 Q
variable {o e:Expr}{es:List Expr}{to:TE}{t:TA}{name:Str}{apos cpos:Pos}{T id:String}{r:V→List V→Hp→VK→Prop}
theorem pe_bm0 (pa:PlainAttrs T) (slot:Slot T name id) (hty:typeOf (.builtin id)=pure (.type "method_descriptor")) (hm:MtR X id r) (ho:PE X o to)
  (hbase:attributeBase o name X.env (eval o X.env)=eval o X.env:=by rfl) (hline:(apos.endLine == cpos.line)=true:=by rfl):PE X (.Call (.Attribute o name apos) [] [] cpos) (tBM0 X.K T r to):=by
 intro pins s σ H Q I h
 refine wpAny_Call_method0_late hbase hline (thn (ho pins s σ H _ I h) fun v s1 ⟨x,H1,I1,r1,ty,q1⟩=>?_)
 obtain⟨h1,h2⟩:=tyV_is I1 r1 ty
 exact⟨T,id,pa,slot,hty,h1,h2,Calls.callWith_builtin rfl (PySem.evalArgs_none (hm pins s1 σ H1 x [] v [] Q I1 r1 .nil q1))⟩
theorem zah3 (pa:PlainAttrs T) (slot:Slot T name id) (hty:typeOf (.builtin id)=pure (.type "method_descriptor")) (hm:MtR X id r) (ho:PE X o to) (ha:PA X (e::es) t)
  (hbase:attributeBase o name X.env (eval o X.env)=eval o X.env:=by rfl)
  (hfew:((zbd7 cpos (zaz1 (e::es) X.env)).all (fun x=>!x.1)&&(backToKw cpos (keywordEach [] X.env)).all (fun x=>x.1.isSome)
   && decide ((e::es).length+([]:List Keyword).length+(if ([]:List Keyword).isEmpty then 0 else 1)<30))=true:=by rfl)
  (hline:(apos.endLine == cpos.line)=true:=by rfl) (hs:zaz1 (e::es) X.env=(false,eval e X.env)::zaz1 es X.env:=by rfl) (hplain:(zbd7 cpos (zaz1 es X.env)).any (·.1)=false:=by rfl) :
  PE X (.Call (.Attribute o name apos) (e::es) [] cpos) (tBM X.K T r to t):=by
 intro pins s σ H Q I h
 refine wpAny_Call_method_late hbase hfew hline rfl (thn (ho pins s σ H _ I h) fun v s1 ⟨x,H1,I1,r1,ty,q1⟩=>?_)
 obtain⟨h1,h2⟩:=tyV_is I1 r1 ty
 refine⟨T,id,pa,slot,hty,h1,h2,?_⟩
 have hA:=ha cpos pins s1 σ H1 _ I1 q1
 rw [hs]at hA ⊢
 refine Calls.callWith_builtin (by show (false||(zbd7 cpos (zaz1 es X.env)).any (·.1))=false;rw [hplain]<;>rfl) (Calls.evalArgs_plain ?_)
 exact thn hA fun us s2 ⟨vs,H2,I2,r2,q2⟩=>hm pins s2 σ H2 x vs v us Q I2 r1 r2 q2
end
end L2
namespace L2
open PySem.Spec
noncomputable def MtM (X:Cx) (id:String) (r:V→List V→Hp→VK→Prop):Prop :=
 ∀(pins:List (Addr×Obj)) (s:zaz0) (σ:St) (H:Hp) (x:V) (xs:List V) (v:Value) (us:List Value) (Q:VK),Inv X pins σ H s→RelV x v→Vals xs us→r x xs H Q →
  wpAny (model X.prog X.w) X.A (call (.builtin id) (v::us)) (EP X pins σ Q) X.xe s
theorem Vals.one:∀ {x:V}{us:List Value},Vals [x] us→∃u,us=[u]∧RelV x u
 |_,_,.cons r .nil=>⟨_,rfl,r⟩
theorem Vals.two:∀ {x y:V}{us:List Value},Vals [x,y] us→∃u v,us=[u,v]∧RelV x u∧RelV y v
 |_,_,_,.cons r (.cons q .nil)=>⟨_,_,rfl,r,q⟩
theorem Vals.zero:∀ {us:List Value},Vals [] us→us=[]
 |_,.nil=>rfl
theorem Vals.eraseIdx:∀ {xs:List V}{us:List Value} (i:Nat),Vals xs us→Vals (xs.eraseIdx i) (us.eraseIdx i)
 |_,_,_,.nil=>.nil
 |_,_,0,.cons _ t=>t
 |_,_,i+1,.cons r t=>.cons r (Vals.eraseIdx i t)
theorem Vals.reverse {xs:List V}{us:List Value} (h:Vals xs us):Vals xs.reverse us.reverse:=by
 induction h with
 |nil=>exact .nil
 |cons r t ih=>rw [zbh7,zbh7];exact Vals.append ih (.cons r .nil)
theorem Vals.rep {xs:List V}{us:List Value} (h:Vals xs us):∀k:Nat,Vals (zaz6 k xs).flatten (zaz6 k us).flatten
 |0=>.nil
 |k+1=>by
  rw [zbd8,zbd8,zbh8,zbh8]
  exact Vals.append h (Vals.rep h k)
theorem zac8 {α:Type}:∀(l:List α) (i:Nat),(l.eraseIdx i).length≤l.length
 |[],_=>zba1 _
 |_::_,0=>Nat.le_succ _
 |_::r,i+1=>Nat.succ_le_succ (zac8 r i)
theorem zad6 (its:List Value):∀(k:Nat) (acc:List Value),
  zbs2 (fun x1 x2=>x1++x2) acc.toArray (zaz6 k its.toArray)=(acc++(zaz6 k its).flatten).toArray
 |0,acc=>by simp
 |k+1,acc=>by
  have e:acc.toArray++its.toArray=(acc++its).toArray:=by simp
  have e2:(acc++its)++(zaz6 k its).flatten=acc++(zaz6 (k+1) its).flatten:=by
   rw [zbd8,zbh8,zbh9]
  rw [← e2, ← zad6 its k (acc++its), ← e,zbd8,zbh4]
section
variable {X:Cx}{pins:List (Addr×Obj)}{σ:St}{H:Hp}{s:zaz0}{l b:Addr}{xs ys zs:List V}
theorem Inv.lset {its its':List Value}{n:Nat}{f:Array Value→Array Value}{t':Nat} (I:Inv X pins σ H s) (hH:H l=some (.lst xs))
  (e:s.heap.get? l=some { cls:=.type "list",data:=.seq its.toArray n }) (hf:f its.toArray=its'.toArray) (hv:Vals ys its') (hz:ys.length≤sizeLine) :
  Inv X pins σ (upd H l (.lst ys)) { s with heap:=s.heap.update l (Obj.mapSeq f),toks:=t' }:=by
 have q:=PySem.IsL.update e f
 rw [hf]at q
 refine I.write (x:=l) (e:=l) (by rw [hH];exact trivial) (.inl rfl) (fun b' u hb hu=>(Heap.get?_update_other s.heap (Obj.mapSeq f) (Ne.symm hb)).trans hu) ⟨_,q⟩ ?_
 exact⟨hz,its',_,hv,q⟩
theorem Inv.lnew {its:List Value}{t':Nat} (I:Inv X pins σ H s) (hv:Vals ys its) (hz:ys.length≤sizeLine) :
  Inv X pins σ (upd H s.heap.objs.size (.lst ys)) { s with heap:=s.heap.push { cls:=.type "list",data:=.seq its.toArray },toks:=t' } :=
 I.laid (fun _ _ q=>zay6 _ q) (zba1 _) ⟨hz,its,0,hv,zbb1 _ rfl⟩
theorem Inv.fresh (I:Inv X pins σ H s):H s.heap.objs.size=none:=I.hok.fresh (zba1 _)
theorem Inv.lstM (I:Inv X pins σ H s) (hH:H l=some (.lst xs)):xs.length≤sizeLine∧∃(its:List Value) (n:Nat),Vals xs its∧xs.length=its.length∧s.heap.get? l=some { cls:=.type "list",data:=.seq its.toArray n }:=by
 obtain⟨z,its,n,r,e⟩:=I.hok l _ hH
 exact⟨z,its,n,r,r.length,e⟩
theorem notLongL {n:Nat} (h:n≤sizeLine):Builtin.List.listTooLong n=false:=by
 unfold Builtin.List.listTooLong
 exact decide_eq_false (by lia)
end
section
variable {X:Cx}
noncomputable def rAppend:V→List V→Hp→VK→Prop:=fun x vs H Q => ∃l xs y,x=.ref l∧vs=[y]∧H l=some (.lst xs)∧xs.length<sizeLine∧Q .non (upd H l (.lst (xs++[y])))
theorem zj0:MtM X "list.append" rAppend:=by
 intro pins s σ H x vs v us Q I rx rv h
 obtain⟨l,xs,y,rfl,rfl,hH,hz,q⟩:=h
 cases rx
 obtain⟨u,rfl,ru⟩:=rv.one
 obtain⟨z,its,n,r,hl,e⟩:=I.lstM hH
 refine call_meets F.slot_list_append ⟨_,e,rfl⟩ F.entry_list_append (F.args_list_append_2 _ _) (PySem.list_append l its.toArray n u (by rw [zba0];lia)) ⟨e,?_⟩
 refine⟨.non,_,I.lset (its':=its++[u]) hH e (by simp) (r.append (.cons ru .nil)) ?_,rfl,q⟩
 rw [zba7,zbe3]
 lia
noncomputable def rPopAt:V→List V→Hp→VK→Prop:=fun x vs H Q => ∃l xs i k y,x=.ref l∧vs=[.int i]∧H l=some (.lst xs) ∧ -(2 ^ 63)≤i∧i<2 ^ 63∧seqIndex? i xs.length=some k∧xs[k]?=some y∧Q y (upd H l (.lst (xs.eraseIdx k)))
theorem mt_popAt:MtM X "list.pop" rPopAt:=by
 intro pins s σ H x vs v us Q I rx rv h
 obtain⟨l,xs,i,k,y,rfl,rfl,hH,h1,h2,hk,hy,q⟩:=h
 cases rx
 obtain⟨u,rfl,ru⟩:=rv.one
 obtain⟨t,rfl⟩:=ru
 obtain⟨z,its,n,r,hl,e⟩:=I.lstM hH
 obtain⟨w,hw,rw'⟩:=r.get hy
 refine call_meets F.slot_list_pop ⟨_,e,rfl⟩ F.entry_list_pop (F.args_list_pop_2 _ _)
  (MeetsSeq.list_pop_at l its.toArray n i t k w (fitsIndex_both h1 h2) (by rw [zba0, ← hl];exact hk) (by rw [← Array.getElem?_toList];exact hw) (by rw [zba0];lia)) ⟨e,?_⟩
 refine⟨y,_,I.lset (its':=its.eraseIdx k) hH e ?_ (r.eraseIdx k) ?_,rw',q⟩
 ·show its.toArray.eraseIdxIfInBounds k=(its.eraseIdx k).toArray
  rw [List.eraseIdxIfInBounds_toArray]
 ·have:=zac8 xs k
  lia
def rClear:V→List V→Hp→VK→Prop:=fun x vs H Q => ∃l xs,x=.ref l∧vs=[]∧H l=some (.lst xs)∧Q .non (upd H l (.lst []))
theorem mt_clear:MtM X "list.clear" rClear:=by
 intro pins s σ H x vs v us Q I rx rv h
 obtain⟨l,xs,rfl,rfl,hH,q⟩:=h
 cases rx
 have hus:=rv.zero
 subst hus
 obtain⟨z,its,n,r,hl,e⟩:=I.lstM hH
 refine call_meets F.slot_list_clear ⟨_,e,rfl⟩ F.entry_list_clear (F.args_list_clear_1 _) (AutoSeq1.list_clear_list_0 l its.toArray n (by rw [zba0];lia)) ⟨e,?_⟩
 exact⟨.non,_,I.lset (its':=[]) (ys:=[]) hH e rfl .nil (zbn0 _),rfl,q⟩
noncomputable def rRep:R2:=fun x y H Q => ∃l k xs,x=.ref l∧y=.int k∧H l=some (.lst xs) ∧ -(2 ^ 63)≤k∧k<2 ^ 63∧xs.length*k.toNat≤sizeLine ∧
 ∀p,H p=none→Q (.ref p) (upd H p (.lst (zaz6 k.toNat xs).flatten))
theorem len_rep {α:Type} (xs:List α) (k:Nat):(zaz6 k xs).flatten.length=k*xs.length:=by
 induction k with
 |zero=>simp
 |succ k ih=>rw [zbd8,zbh8,zba7,ih,Nat.succ_mul,Nat.add_comm]
theorem op_rep:OpR X (binaryOp .Mult) rRep:=by
 intro pins s σ H x y v u Q I rx ry h
 obtain⟨l,k,xs,rfl,rfl,hH,h1,h2,hz,q⟩:=h
 cases rx
 obtain⟨t,rfl⟩:=ry
 obtain⟨z,its,n,r,hl,e⟩:=I.lstM hH
 have hlen:its.toArray.size*k.toNat≤sizeLine:=by rw [zba0, ← hl];exact hz
 have hcap : ¬ its.toArray.size*k.toNat >(2 ^ 63 - 1) / 8:=by
  have:(sizeLine:Nat)≤(2 ^ 63 - 1) / 8:=by decide
  lia
 have hfit : ¬ (!Builtin.List.listFitsIndex k)=true:=by
  rw [fitsIndex_both h1 h2]
  exact zaz7
 have hlong : ¬ Builtin.List.listTooLong (its.toArray.size*k.toNat)=true:=by
  rw [notLongL hlen]
  exact zaz7
 have hnew:zbs2 (fun x1 x2=>x1++x2) #[] (zaz6 (if its.toArray.isEmpty=true then 0 else k.toNat) its.toArray)=(zaz6 k.toNat its).flatten.toArray:=by
  have f0:∀m:Nat,zbs2 (fun x1 x2=>x1++x2) #[] (zaz6 m its.toArray)=(zaz6 m its).flatten.toArray:=fun m=>by
   have:=zad6 its m []
   rw [zbm1]at this
   exact this
  rw [f0]
  cases its with
  |nil=>simp
  |cons a r'=>rw [if_neg (by simp)]
 refine wpAny_binaryOp_repeat_ref (T := "list") (U := "int") (by decide) ⟨_,e,rfl⟩ (fun s'=>typeIs_int s' k t) noFill_list_mul F.fills_int_mul F.slot_int_rmul repeat_list F.slot_int_index.lookup
  (call_meets F.slot_int_rmul (typeIs_int s k t) F.entry_int_rmul (F.args_int_rmul_2 _ _) (int___rmul___int_list k t l its.toArray n)
   ⟨e,rfl,⟨_,e,rfl⟩,call_meets F.slot_list_mul ⟨_,e,rfl⟩ F.entry_list_mul (F.args_list_mul_2 _ _) (AutoListH.list___mul___list_int_3 l its.toArray n k t hfit hcap hlong) ⟨e,?_⟩⟩)
 rw [hnew]
 exact⟨.ref _,_,I.lnew (t':=s.toks) (r.rep k.toNat) (by rw [len_rep,zbe9];exact hz),rfl,q _ I.fresh⟩
end
end L2
namespace Att
open PySem.W PySem.Calls
theorem zu9 {P:Params}{h:Heap}:∀(ns:List Int) (vs:List Value),WellAll P h vs (ns.map WData.int)→IntsAre vs ns:=by
 intro ns
 induction ns with
 |nil =>
  intro vs w
  rw [zbo4]at w
  cases w
  exact .nil
 |cons n ns ih =>
  intro vs w
  rw [zaz3]at w
  cases w with
  |cons a b =>
   cases a
   exact .cons _ _ (ih _ b)
theorem script_of {l:OpenLaw}{n:Nat} (hn:l.most=some n) {P:Params}{h:Heap}{args:List WData}{vals:List Value}
  (hpre:l.row.toRowW.claim.pre args=true) (hwl:WellAll P h vals args) :
  ∃a vs ns,vals=[Value.ref a]∧args=[WData.list (ns.map WData.int)]∧h.get? a=some { cls:=.type "list",data:=.seq vs.toArray }∧IntsAre vs ns∧ns.length≤n:=by
 have hsh:WShape.hasAll [] args [.list .int]=true:=(pre_splitW hpre).1
 have hc:l.pre.holds [] { args:=args }=true:=(pre_splitW hpre).2
 obtain⟨d,r,rfl,h1,h2⟩:=hasAllW_cons hsh
 obtain rfl:=hasAllW_nil h2
 obtain⟨xs,rfl,h3⟩:=hasW_list h1
 obtain⟨ns,rfl⟩:=items_int h3
 have hlen:ns.length≤n:=by
  unfold OpenLaw.pre at hc
  have h4:(WTm.not (.lt (.lit (.int (n:Int))) (.len (.arg 0)))).holds [] { args:=[.list (ns.map .int)] }=true:=by
   have h4:=(holds_andW hc).1
   rw [hn]at h4
   exact h4
  have h5:=condW_of h4 (w_not (w_lt w_lit (w_len_list (w_arg rfl))))
  rw [zba6]at h5
  refine Nat.le_of_not_lt fun q=>?_
  have q':(n:Int)<((ns.length:Nat):Int):=by lia
  first
   |(rw [decide_eq_true q']at h5;exact absurd h5 (by decide))
   |(simp at h5;lia)
 cases hwl with
 |cons w1 w2 =>
  cases w2
  cases w1 with
  |list ho hall=>exact⟨_,_,ns,rfl,rfl,ho,zu9 ns _ hall,hlen⟩
theorem post_true (l:OpenLaw) (args:List WData):l.row.toRowW.claim.post args (.bool true) args=true :=
 postW_of (r:=l.row.toRowW) (X:=(true == true))
  (show WShape.has [] (.bool true) .bool=true by first | rfl | decide | simp [WShape.has,WShape.arms,WShape.armsAll])
  (show (WTm.eq .res (.lit (.bool true))).value [] { args:=args,res:=some (.bool true),after:=args }=some (.bool (true == true)) from w_eq_bool (w_res rfl) w_lit) rfl
end Att
namespace L2
open PySem.Spec
theorem zt4:∀ {vs:List Value}{ns:List Int},IntsAre vs ns→Vals (ns.map V.int) vs
 |_,_,.nil=>.nil
 |_,_,.cons n t h=>.cons ⟨t,rfl⟩ (zt4 h)
noncomputable def zj1 (s:Stmt):Arguments:=match s with
 |.FunctionDef _ a _ _ _ _ _ _ _ _=>a
 |_=>{ posonlyargs:=[],args:=[],vararg:=none,kwonlyargs:=[],kw_defaults:=[],kwarg:=none,defaults:=[] }
def zg5 (s:Stmt):List Stmt:=match s with
 |.FunctionDef _ _ b _ _ _ _ _ _ _=>b
 |_=>[]
noncomputable def zb1 (s:Stmt):Scope:=match s with
 |.FunctionDef _ _ _ _ _ _ sc _ _ _=>sc
 |_=>{ kind:=.function,names:=[],isGenerator:=false,isCoroutine:=false }
abbrev CX0:CXT:=fun _ _ _ _ _ _=>False
abbrev E0:XK:=fun _ _ _=>False
theorem pass0 {X:Cx}:zam0 CX0 X E0:=fun _ _ _ _ _ _ _ h=>h.elim
structure Fun (K:zax7) (x qual:Str) (st:Stmt) (f:Addr) (fd:FuncData):Prop where
 ex:∃(oc:Value) (od:Option Addr) (kV doc pm:Value) (an:Option Addr) (cdv ct:Value) (osl:Array (Option Value)),
  fd=zbc9 x qual (zj1 st) (zg5 st) (zb1 st) .none kV doc pm an cdv ct∧K.lookup f=some ⟨oc,od,.func fd,osl⟩∧zbk0 K cdv qual=true
 kp:zbc1 K (.ref f)=true
section
variable {P:Program}{w:World}{K:zax7}{mg:Str→Option Value}{base:BHeap}
theorem Fun.ok {x qual:Str}{st:Stmt}{f:Addr}{fd:FuncData}{N ps:List Str}{k:Nat}{sp:Sp} (F:Fun K x qual st f fd) (S:FnScope N ps (zb1 st)) (len:∀vs H Q E,sp vs H Q E→vs.length=ps.length)
  (hbody:∀(cdv:Value) (A:Around) (outer:List Env) (s:zaz0) (H:Hp) (vs:List V) (Q:VK) (E:XK),Room k (A.deeper (envOfC qual (zb1 st) s.heap.objs.size f cdv))→sp vs H Q E →
   ∃t,PSs (cxOf CX0 P w K mg base N qual (zb1 st) f cdv A outer s H E).nox (zg5 st) t∧t { nx:=fun _ H'=>Q .non H',rt:=Q } (start N vs) H):FnOk P w K mg base CX0 (k+1) f fd ps sp:=by
 obtain⟨oc,od,kV,doc,pm,an,cdv,ct,osl,rfl,lk,hcd⟩:=F.ex
 refine fn_of lk hcd S len fun A outer s H vs Q E hr hsp=>?_
 obtain⟨t,h,q⟩:=hbody cdv A outer s H vs Q E hr hsp
 exact⟨t,h.nox,q⟩
theorem Fun.binds {x qual:Str}{st:Stmt}{f:Addr}{fd:FuncData}{ps:List Str} (F:Fun K x qual st f fd)
  (h:∀(kV doc pm:Value) (an:Option Addr) (cdv ct:Value) (us:List Value),us.length=ps.length→bindArgs (zbc9 x qual (zj1 st) (zg5 st) (zb1 st) .none kV doc pm an cdv ct) ⟨us,[]⟩=pure (ps.zip us)):Binds K fd ps []:=by
 obtain⟨oc,od,kV,doc,pm,an,cdv,ct,osl,rfl,lk,hcd⟩:=F.ex
 exact .all (h kV doc pm an cdv ct)
theorem fun_mk {x qual:Str}{st:Stmt}{f:Addr}{oc:Value}{od an:Option Addr}{osl:Array (Option Value)}{kV doc pm cdv ct:Value} (l:K.lookup f=some ⟨oc,od,.func (zbc9 x qual (zj1 st) (zg5 st) (zb1 st) .none kV doc pm an cdv ct),osl⟩)
  (c:zbk0 K cdv qual=true) (k:zbc1 K (.ref f)=true):Fun K x qual st f (zbc9 x qual (zj1 st) (zg5 st) (zb1 st) .none kV doc pm an cdv ct):=⟨⟨oc,od,kV,doc,pm,an,cdv,ct,osl,rfl,l,c⟩,k⟩
end
theorem iteF {A B:Prop} (h:B):if false=true then A else B:=by
 rw [if_neg zaz7]
 exact h
theorem iteT {A B:Prop} (h:A):if true=true then A else B:=by
 rw [if_pos rfl]
 exact h
def Same (H H':Hp):Prop := ∀b o,H b=some o→H' b=some o
theorem Same.refl (H:Hp):Same H H:=fun _ _ h=>h
theorem Same.trans {H H1 H2:Hp} (a:Same H H1) (b:Same H1 H2):Same H H2:=fun c o h=>b c o (a c o h)
theorem Same.free {H H':Hp} (e:Same H H') {l:Addr} (h:H' l=Option.none):H l=Option.none:=by
 cases q:H l with
 |none=>rfl
 |some o =>
  rw [e l o q]at h
  cases h
theorem Same.seq {K:zax7}{H H':Hp}{a:Addr}{xs:List V} (e:Same H H') (h:SqL K H a xs):SqL K H' a xs:=by
 rcases h with (h | ⟨o,h⟩) |h
 ·exact .inl (.inl (e _ _ h))
 ·exact .inl (.inr ⟨o,e _ _ h⟩)
 ·exact .inr h
end L2
set_option maxHeartbeats 4000000
namespace L2
open PySem.Spec
section
variable {κ:Type} [DecidableEq κ]
def valV (kvs:List (κ×V)) (k:κ):Option V:=(kvs.find? fun kv=>decide (kv.1=k)).map (·.2)
noncomputable def putK (kvs:List (κ×V)) (k:κ) (v:V):List (κ×V) :=
 if (kvs.any fun kv=>decide (kv.1=k))=true then kvs.map (fun kv=>if kv.1=k then (kv.1,v) else kv) else kvs++[(k,v)]
def dropK (kvs:List (κ×V)) (k:κ):List (κ×V):=kvs.filter fun kv=>decide (kv.1≠k)
theorem zp3 {p:κ×V}{r:List (κ×V)}{k:κ} (e:p.1=k):valV (p::r) k=some p.2:=by simp [valV,zbg0,e]
theorem zp4 {p:κ×V}{r:List (κ×V)}{k:κ} (e : ¬ p.1=k):valV (p::r) k=valV r k:=by simp [valV,zbg0,e]
theorem zy2 (k:κ):∀kvs:List (κ×V),(kvs.any fun kv=>decide (kv.1=k))=(valV kvs k).isSome
 |[]=>rfl
 |p::r=>by
  rw [zbi7]
  by_cases e:p.1=k
  ·simp only [zp3 e,decide_eq_true e,Bool.true_or,zbn1]
  ·rw [zp4 e,decide_eq_false e,zbn4];exact zy2 k r
theorem zu8 (kvs:List (κ×V)) (k:κ) (v:V):(putK kvs k v).length≤kvs.length+1:=by
 unfold putK
 split
 ·rw [zba6];lia
 ·rw [zba7,zbb7,List.length_nil];lia
theorem RelO.isSome_eq {o:Option V}{u:Option Value} (r:RelO o u):o.isSome=u.isSome:=by
 cases o with
 |none=>cases u with
  |none=>rfl
  |some _=>exact (show False from r).elim
 |some _=>cases u with
  |none=>exact (show False from r).elim
  |some _=>rfl
theorem KV.val {kvs:List (κ×V)}{vs:List (κ×Value)} (r:KV kvs vs) (k:κ):RelO (valV kvs k) (valueAt vs k):=by
 unfold KV at r
 induction r with
 |nil=>exact True.intro
 |@cons p q ps qs h t ih =>
  obtain⟨h1,h2⟩:=h
  by_cases e:p.1=k
  ·have e':q.1=k:=h1.symm.trans e
   have b:valueAt (q::qs) k=some q.2:=by simp [valueAt,zbg0,e']
   rw [zp3 e,b];exact h2
  ·have e' : ¬ q.1=k:=fun z=>e (h1.trans z)
   have b:valueAt (q::qs) k=valueAt qs k:=by simp [valueAt,zbg0,e']
   rw [zp4 e,b];exact ih
theorem KV.any {kvs:List (κ×V)}{vs:List (κ×Value)} (r:KV kvs vs) (k:κ):(kvs.any fun kv=>decide (kv.1=k))=vs.any fun kv=>decide (kv.1=k):=by
 unfold KV at r
 induction r with
 |nil=>rfl
 |cons h t ih=>rw [zbi7,zbi7,ih,h.1]
theorem KV.repl {kvs:List (κ×V)}{vs:List (κ×Value)} (r:KV kvs vs) (k:κ) {y:V}{u:Value} (ry:RelV y u) :
  KV (kvs.map fun kv=>if kv.1=k then (kv.1,y) else kv) (vs.map fun kv=>if kv.1=k then (kv.1,u) else kv):=by
 unfold KV at r ⊢
 induction r with
 |nil=>exact .nil
 |@cons p q ps qs h t ih =>
  rw [zaz3,zaz3]
  refine .cons ?_ ih
  obtain⟨h1,h2⟩:=h
  by_cases e:p.1=k
  ·rw [if_pos e,if_pos (h1.symm.trans e)];exact⟨h1,ry⟩
  ·rw [if_neg e,if_neg (fun z=>e (h1.trans z))];exact⟨h1,h2⟩
theorem KV.put {kvs:List (κ×V)}{vs:List (κ×Value)} (r:KV kvs vs) (k:κ) {y:V}{u:Value} (ry:RelV y u):KV (putK kvs k y) (stored vs k u):=by
 unfold putK stored
 rw [r.any k]
 by_cases e:(vs.any fun kv=>decide (kv.1=k))=true
 ·rw [if_pos e,if_pos e];exact r.repl k ry
 ·rw [if_neg e,if_neg e];exact Paired.snoc r ⟨rfl,ry⟩
theorem KV.drop {kvs:List (κ×V)}{vs:List (κ×Value)} (r:KV kvs vs) (k:κ):KV (dropK kvs k) (without vs k):=by
 unfold KV at r ⊢
 unfold dropK without
 induction r with
 |nil=>exact .nil
 |@cons p q ps qs h t ih =>
  obtain⟨h1,h2⟩:=h
  rw [zbo6,zbo6]
  by_cases e:p.1=k
  ·have a : ¬ decide (p.1≠k)=true:=by simp [e]
   have b : ¬ decide (q.1≠k)=true:=by simp [h1.symm.trans e]
   rw [if_neg a,if_neg b];exact ih
  ·have e' : ¬ q.1=k:=fun z=>e (h1.trans z)
   have a:decide (p.1≠k)=true:=by simp [e]
   have b:decide (q.1≠k)=true:=by simp [e']
   rw [if_pos a,if_pos b];exact .cons ⟨h1,h2⟩ ih
theorem KV.length {kvs:List (κ×V)}{vs:List (κ×Value)} (r:KV kvs vs):kvs.length=vs.length:=Paired.length r
end
theorem kV_is {P:Program}{w:World}{k:Key}{u:Value} (r:RelV (kV k) u):(zf2 P w).is k u=true:=by
 cases k with
 |inl i=>obtain⟨t,e⟩:=(show ∃t,u=Value.int i t from r);subst e;exact zah9 P w i t
 |inr x=>obtain⟨t,e⟩:=(show ∃t,u=Value.str x t from r);subst e;exact zah8 P w x t
theorem zad1 {P:Program}{w:World}:∀ {ks:List Key}{us:List Value},Vals (ks.map kV) us→ItemsAre (zf2 P w) ks us
 |[],_,r=>by rw [zbo4]at r;cases r;exact .nil
 |k::ks,_,r=>by
  rw [zaz3]at r
  cases r with
  |cons h t=>exact .cons (kV_is h) (zad1 t)
noncomputable abbrev KT (H:Hp):List (List Key×V)→List (List Key×Addr×Value)→Prop:=Paired fun p q=>p.1=q.1∧H q.2.1=some (.tup (p.1.map kV))∧RelV p.2 q.2.2
theorem KT.val {H:Hp}{kvs:List (List Key×V)}{xs:List (List Key×Addr×Value)} (r:KT H kvs xs) (k:List Key):RelO (valV kvs k) ((atKey xs k).map (·.2)):=by
 induction r with
 |nil=>exact True.intro
 |@cons p q ps qs h t ih =>
  obtain⟨h1,_,h2⟩:=h
  by_cases e:p.1=k
  ·have e':q.1=k:=h1.symm.trans e
   have b:atKey (q::qs) k=some q.2:=by simp [atKey,zbg0,e']
   rw [zp3 e,b];exact h2
  ·have e' : ¬ q.1=k:=fun z=>e (h1.trans z)
   have b:atKey (q::qs) k=atKey qs k:=by simp [atKey,zbg0,e']
   rw [zp4 e,b];exact ih
section
variable {P:Program}{w:World}{H:Hp}{h:Heap}{a:Addr}
theorem rd_of {u:HO} (ok:HOk P w H h) (e:Rd H a u):ObjOk P w H h a u:=e.ok ok
theorem zan6 {kvs:List (Key×V)} (ok:HOk P w H h) (e:Rd H a (.dK kvs)):kvs.length≤sizeLine∧(a == sysModules)=false∧∃vs,KV kvs vs∧h.DictOf (zf2 P w) a vs :=
 show ObjOk P w H h a (.dK kvs) from rd_of ok e
theorem dk_of {kvs:List (Key×V)} (ok:HOk P w H h) (e:H a=some (.dK kvs)):kvs.length≤sizeLine∧(a == sysModules)=false∧∃vs,KV kvs vs∧h.DictOf (zf2 P w) a vs:=zan6 ok (.inl e)
theorem key_of {ks:List Key} (ok:HOk P w H h) (e:H a=some (.tup (ks.map kV))):(tupleKind (zf2 P w)).is h ks a:=by
 obtain⟨_,its,r,o,h1,h2,n,h3⟩:=(show ObjOk P w H h a (.tup (ks.map kV)) from ok a _ e)
 exact⟨o,its.toArray,n,h1,h2,h3,by simpa using zad1 r⟩
theorem dt_rd {kvs:List (List Key×V)} (ok:HOk P w H h) (e:Rd H a (.dT kvs)):kvs.length≤sizeLine∧(a == sysModules)=false ∧
  ∃xs,KT H kvs xs∧h.DictOfH (tupleKind (zf2 P w)) a xs:=by
 obtain⟨z,y,xs,r,o,es,ep,h1,h2,h3,h4,h5⟩:=(show ObjOk P w H h a (.dT kvs) from rd_of ok e)
 refine⟨z,y,xs,r,o,es,ep,h1,h2,h3,h4,fun x hx=>?_,h5⟩
 have all:∀ {l:List (List Key×V)}{m:List (List Key×Addr×Value)},KT H l m→∀x∈m,(tupleKind (zf2 P w)).is h x.1 x.2.1:=by
  intro l m q
  induction q with
  |nil=>intro x hx;exact nomatch hx
  |@cons p q ps qs hq t ih =>
   intro x hx
   rcases zay5.mp hx with e | hx
   ·subst e
    exact key_of ok (by rw [← hq.1];exact hq.2.1)
   ·exact ih x hx
 exact all r x hx
end
noncomputable def DGet (H:Hp) (a:Addr) (y:V) (r:Option V):Prop :=
 (∃kvs k,Rd H a (.dK kvs)∧y=kV k∧r=valV kvs k)∨∃kvs k b,Rd H a (.dT kvs)∧y=.ref b∧H b=some (.tup (k.map kV))∧r=valV kvs k
theorem DGet.k {H:Hp}{a:Addr}{kvs:List (Key×V)}{k:Key} (e:H a=some (.dK kvs)):DGet H a (kV k) (valV kvs k):=.inl ⟨kvs,k,.inl e,rfl,rfl⟩
section
variable {X:Cx}{pins:List (Addr×Obj)}{σ:St}{H:Hp}{s:zaz0}{a:Addr}{y v:V}{u r:Value}{o:Option V}{A:Around}{E:Value→zaz0→Prop}
theorem Inv.big (I:Inv X pins σ H s):sysModules<s.heap.objs.size:=by
 have h:mainGlobals<s.heap.objs.size:=(I.mod.glob.keeps I.bk).lt
 exact zbi4 (by decide) h
theorem zav3 {Q:Value→zaz0→Prop} (hu:A.units+1<cLine) (I:Inv X pins σ H s) (g:DGet H a y (some v)) (ry:RelV y u) (h:∀w' s',Inv X pins σ H s'→RelV v w'→Q w' s') :
  wpAny (model X.prog X.w) A (getItem (.ref a) u) Q E s:=by
 rcases g with ⟨kvs,k,e,ey,l⟩ | ⟨kvs,k,b,e,ey,eb,l⟩
 ·subst ey
  obtain⟨z,hd,vs,rel,dd⟩:=zan6 I.hok e
  obtain⟨w',hw,rw'⟩:=RelO.some_of (v:=v) (o:=valueAt vs k) (by rw [l];exact rel.val k)
  exact wpAny_getItem_of (kV_is ry) dd.mapOf hw (h w' _ (I.tok _) rw')
 ·subst ey
  cases (show u=Value.ref b from ry)
  obtain⟨z,hd,xs,rel,dd⟩:=dt_rd I.hok e
  obtain⟨w',hw,rw'⟩:=RelO.some_of (v:=v) (o:=(atKey xs k).map (·.2)) (by rw [l];exact rel.val k)
  obtain⟨p,hp,hp2⟩:=Option.map_eq_some_iff.mp hw
  refine wpAny_getItem_heap (tupleKind_room_in1 hu) (key_of I.hok eb) dd hp ?_
  rw [hp2]
  exact h w' _ (I.tok _) rw'
theorem d_notIn {Q:Value→zaz0→Prop} (hu:A.units+1<cLine) (I:Inv X pins σ H s) (g:DGet H a y o) (ry:RelV y u) (h:∀s',Inv X pins σ H s'→Q (.bool (!o.isSome)) s') :
  wpAny (model X.prog X.w) A (compareOp .NotIn u (.ref a)) Q E s:=by
 rcases g with ⟨kvs,k,e,ey,l⟩ | ⟨kvs,k,b,e,ey,eb,l⟩
 ·subst ey
  obtain⟨z,hd,vs,rel,dd⟩:=zan6 I.hok e
  refine wpAny_notIn_of (kV_is ry) hd dd.mapOf ?_
  rw [← (rel.val k).isSome_eq, ← l]
  exact h _ (I.tok _)
 ·subst ey
  cases (show u=Value.ref b from ry)
  obtain⟨z,hd,xs,rel,dd⟩:=dt_rd I.hok e
  refine wpAny_notIn_heap (tupleKind_room_in1 hu) (key_of I.hok eb) hd dd ?_
  have q:=(rel.val k).isSome_eq
  rw [Option.isSome_map]at q
  rw [← q, ← l]
  exact h _ (I.tok _)
theorem zav2 {h':Heap}{t':Nat}{ob:HO} (I:Inv X pins σ H s) (mu:Mut (H a)) (hs:Heap.SameBut a s.heap h') (he:∃q,h'.get? a=some q) (new:ObjOk X.prog X.w (upd H a ob) h' a ob) :
  Inv X pins σ (upd H a ob) { s with heap:=h',toks:=t' } :=
 I.write (x:=a) (e:=a) mu (.inl rfl) (fun b q hb z=>(hs.2 b hb).trans z) he new
theorem dk_new {P:Program}{w:World}{H':Hp}{h':Heap}{kvs:List (Key×V)}{vs:List (Key×Value)} (z:kvs.length≤sizeLine) (hd:(a == sysModules)=false) (rel:KV kvs vs) (dd:h'.DictOf (zf2 P w) a vs) :
  ObjOk P w H' h' a (.dK kvs):=⟨z,hd,vs,rel,dd⟩
end
section
variable {X:Cx}{pins:List (Addr×Obj)}{σ:St}{H:Hp}{s:zaz0}{a:Addr}{kvs:List (Key×V)}{k:Key}{u:Value}{A:Around}{E:Value→zaz0→Prop}
theorem d_len {Q:Value→zaz0→Prop} (I:Inv X pins σ H s) (e:Rd H a (.dK kvs)) (h:∀t s',Inv X pins σ H s'→Q (.int kvs.length t) s'):wpAny (model X.prog X.w) A (call (.builtin "len") [.ref a]) Q E s:=by
 obtain⟨z,hd,vs,rel,dd⟩:=zan6 I.hok e
 refine call_len_dict hd dd (by rw [← rel.length];rw [sizeLine_eq]at z;lia) ?_
 rw [← rel.length]
 exact h _ _ (I.tok _)
end
def NoSl (i:Expr):Prop := ∀ov iv,subscripted i false ov iv=operate [ov,iv] (getItem ov iv)
theorem subD_of {prog:Program}{w:World}{A:Around}{E:Value→zaz0→Prop}{s:zaz0}{env:Env}{value slice:Expr}{pos:Pos}{T id:String}{Q:Value→zaz0→Prop}
  (hl:typeLookup (.type T) "__getitem__"=pure (some (.builtin id))) (hs:NoSl slice)
  (h:wpAny (model prog w) A (eval value env) (fun o s₁=>wpAny (model prog w) A (eval slice env) (fun i s₂=>s₂.TypeIs o T∧wpAny (model prog w) A (getItem o i) Q E s₂) E s₁) E s) :
  wpAny (model prog w) A (eval (.Subscript value slice pos) env) Q E s:=by
 refine Subscript_ (wpAny_mono h (fun o s₁ h₁=>wpAny_mono h₁ (fun i s₂ h₂=>?_) fun _ _ x=>x) fun _ _ x=>x)
 obtain⟨hT,h₂⟩:=h₂
 unfold subscriptTail
 refine zaz2 ?_
 rw [getitemInPython_of_ne hT.not_modules]
 refine zaz2 (wpAny_specialOf hT hl ?_)
 have fin:wpAny (model prog w) A (subscripted slice false o i) (fun r s₃=>wpAny (model prog w) A (letTemporaryGo value o r >>= fun _=>pure r) Q E s₃) E s₂:=by
  rw [hs o i]
  exact wpAny_operating (wpAny_mono h₂ (fun r s₃ h₃=>zaz2 (wpAny_letTemporaryGo (zba5 h₃))) fun _ _ x=>x)
 first
  |exact zba5 (zaz2 fin)
  |exact zaz2 (zba5 (zaz2 fin))
  |exact zaz2 fin
theorem zai8 {X:Cx}{pins:List (Addr×Obj)}{σ:St}{H:Hp}{s:zaz0}{a:Addr}{y:V}{o:Option V} (I:Inv X pins σ H s) (g:DGet H a y o):s.TypeIs (.ref a) "dict":=by
 rcases g with ⟨kvs,k,e,_,_⟩ | ⟨kvs,k,b,e,_,_,_⟩
 ·obtain⟨_,_,vs,_,dd⟩:=zan6 I.hok e
  exact dd.typeIs
 ·obtain⟨_,_,xs,_,dd⟩:=dt_rd I.hok e
  exact dd.typeIs
def tDGet (td ty:TE):TE:=fun σ H Q=>td σ H fun x H1=>ty σ H1 fun y H2 => ∃a v,x=.ref a∧DGet H2 a y (some v)∧Q v H2
section
variable {X:Cx}{o i e value:Expr}{pos pos' tpos:Pos}{td ty tv:TE}
theorem pe_dget (hu:X.A.units+1<cLine) (ho:PE X o td) (hi:PE X i ty) (hs:NoSl i):PE X (.Subscript o i pos) (tDGet td ty):=by
 intro pins s σ H Q I h
 refine subD_of PySem.F.slot_dict_getitem.lookup hs (thn (ho pins s σ H _ I h) fun u s1 ⟨x,H1,I1,rx,q1⟩=>thn (hi pins s1 σ H1 _ I1 q1) fun iv s2 ⟨y,H2,I2,ry,a,v,ex,g,q2⟩=>?_)
 subst ex
 obtain rfl:u=Value.ref a:=rx
 exact⟨zai8 I2 g,zav3 hu I2 g ry fun w' s3 I3 rw'=>⟨v,H2,I3,rw',q2⟩⟩
end
theorem zaa4 {P:Program}{w:World}{H:Hp} (h:Heap) (hb:sysModules<h.objs.size):ObjOk P w H (h.push { cls:=.type "dict",data:=.dict #[] }) h.objs.size (.dK []) :=
 ⟨zbn0 _,beq_eq_false_iff_ne.mpr (Ne.symm (zba4 hb)),[],.nil,Heap.DictOf.new h⟩
def tDNewK:TE:=fun _ H Q => ∀p,H p=none→Q (.ref p) (upd H p (.dK []))
section
variable {X:Cx}{pos:Pos}
theorem pe_dnewK:PE X (.Dict [] [] pos) tDNewK:=fun pins s σ H Q I h =>
 wpAny_Dict_empty ⟨.ref s.heap.objs.size,_,I.laid (a:=s.heap.objs.size) (o:=.dK []) (t':=s.toks) (fun _ _ q=>zay6 _ q) (zba1 _) (zaa4 s.heap I.big),rfl,h _ (I.hok.fresh (zba1 _))⟩
end
def zr9 (kvs more:List (Key×V)):List (Key×V):=more.foldl (fun acc kv=>putK acc kv.1 kv.2) kvs
theorem KV.merge:∀ {more:List (Key×V)}{rs:List (Key×Value)}{kvs:List (Key×V)}{vs:List (Key×Value)},KV more rs→KV kvs vs→KV (zr9 kvs more) (merged vs rs):=by
 intro more rs kvs vs r
 unfold KV at r
 induction r generalizing kvs vs with
 |nil=>intro q;exact q
 |@cons p q ps qs h t ih =>
  intro r0
  have e:KV (putK kvs p.1 p.2) (stored vs q.1 q.2):=by
   have:=r0.put p.1 h.2
   rw [← h.1];exact this
  exact ih e
theorem zq2:∀(more kvs:List (Key×V)),(zr9 kvs more).length≤kvs.length+more.length
 |[],kvs=>by show kvs.length≤kvs.length+0;lia
 |p::r,kvs=>by
  have h1:=zq2 r (putK kvs p.1 p.2)
  have h2:=zu8 kvs p.1 p.2
  show (zr9 (putK kvs p.1 p.2) r).length≤_
  rw [zbb7];lia
structure M1 (X:Cx) (o:Expr) (m:Str) (apos:Pos) (e:Expr) (cpos:Pos):Prop where
 base:attributeBase o m X.env (eval o X.env)=eval o X.env
 few:((zbd7 cpos (zaz1 [e] X.env)).all (fun x=>!x.1)&&(backToKw cpos (keywordEach [] X.env)).all (fun x=>x.1.isSome)
  && decide (([e]:List Expr).length+([]:List Keyword).length+(if ([]:List Keyword).isEmpty then 0 else 1)<30))=true
 line:(apos.endLine == cpos.line)=true
 trees:zbd7 cpos (zaz1 [e] X.env)=[(false,eval e X.env)]
structure M2 (X:Cx) (o:Expr) (m:Str) (apos:Pos) (e f:Expr) (cpos:Pos):Prop where
 base:attributeBase o m X.env (eval o X.env)=eval o X.env
 few:((zbd7 cpos (zaz1 [e,f] X.env)).all (fun x=>!x.1)&&(backToKw cpos (keywordEach [] X.env)).all (fun x=>x.1.isSome)
  && decide (([e,f]:List Expr).length+([]:List Keyword).length+(if ([]:List Keyword).isEmpty then 0 else 1)<30))=true
 line:(apos.endLine == cpos.line)=true
 trees:zbd7 cpos (zaz1 [e,f] X.env)=[(false,eval e X.env),(false,eval f X.env)]
def IsD (H:Hp) (a:Addr):Prop:=(∃kvs,Rd H a (.dK kvs))∨∃kvs,Rd H a (.dT kvs)
theorem isD_at {X:Cx}{pins:List (Addr×Obj)}{σ:St}{H:Hp}{s:zaz0}{a:Addr} (I:Inv X pins σ H s) (d:IsD H a) :
  s.TypeIs (.ref a) "dict"∧(∀b,Value.ref a=.ref b→∃ob,s.heap.get? b=some ob∧ob.dict=none)∧(a == sysModules)=false:=by
 rcases d with ⟨kvs,e⟩ | ⟨kvs,e⟩
 ·obtain⟨_,hd,vs,_,dd⟩:=zan6 I.hok e
  refine⟨dd.typeIs,fun b q=>?_,hd⟩
  cases q
  obtain⟨ob,_,_,h1,h2,_⟩:=dd
  exact⟨ob,h1,h2.2.1⟩
 ·obtain⟨_,hd,xs,_,dd⟩:=dt_rd I.hok e
  refine⟨dd.typeIs,fun b q=>?_,hd⟩
  cases q
  obtain⟨ob,_,_,h1,h2,_⟩:=dd
  exact⟨ob,h1,h2.2.1⟩
end L2
namespace L2
open PySem.Spec
section
variable {X:Cx}
theorem zaw8:zn1 X (.builtin "len") (fun xs H Q => ∃a kvs,xs=[V.ref a]∧H a=some (.dK kvs)∧Q (.int kvs.length) H):=by
 intro pins s σ H xs us Q I r h
 obtain⟨a,kvs,rfl,ha,q⟩:=h
 obtain⟨u,rfl,ru⟩:=zt5 r
 cases ru
 exact d_len I (.inl ha) fun t s' I'=>⟨.int kvs.length,H,I',⟨t,rfl⟩,q⟩
end
end L2
namespace DL
open PySem.Spec L2
inductive D where
 |non | bl (b:Bool) |int (i:Int) |str (x:Str) |tup (xs:List D) |lst (xs:List D) |dct (ks:List Key) (ds:List D) |pdc (ps:List (Int×Int))
def mkKV (ks:List Key) (vs:List V):List (Key×V):=ks.zip vs
def pkv (ps:List (Int×Int)):List (List Key×V):=ps.map fun q=>([Sum.inl q.1,Sum.inl q.2],V.bl true)
mutual
inductive Rep (K:zax7) (H:Hp):D→V→Prop
 |non:Rep K H .non .non
 |bl (b:Bool):Rep K H (.bl b) (.bl b)
 |int (i:Int):Rep K H (.int i) (.int i)
 |str (x:Str):Rep K H (.str x) (.str x)
 |tup {ds:List D}{p:Addr}{vs:List V}:SqT K H p vs→Reps K H ds vs→Rep K H (.tup ds) (.ref p)
 |lst {ds:List D}{p:Addr}{vs:List V}:SqL K H p vs→Reps K H ds vs→Rep K H (.lst ds) (.ref p)
 |dct {ks:List Key}{ds:List D}{p:Addr}{vs:List V}:ks.length=vs.length→H p=some (.dK (mkKV ks vs))→Reps K H ds vs→Rep K H (.dct ks ds) (.ref p)
 |pdc {ps:List (Int×Int)}{p:Addr}:H p=some (.dT (pkv ps))→Rep K H (.pdc ps) (.ref p)
inductive Reps (K:zax7) (H:Hp):List D→List V→Prop
 |nil:Reps K H [] []
 |cons {d:D}{v:V}{ds:List D}{vs:List V}:Rep K H d v→Reps K H ds vs→Reps K H (d::ds) (v::vs)
end
theorem SqL.mono {K:zax7}{H H':Hp}{a:Addr}{xs:List V} (e:Same H H') (h:SqL K H a xs):SqL K H' a xs:=e.seq h
theorem SqT.mono {K:zax7}{H H':Hp}{a:Addr}{xs:List V} (e:Same H H') (h:SqT K H a xs):SqT K H' a xs:=by
 rcases h with (h | ⟨o,h⟩) |h
 ·exact .inl (.inl (e _ _ h))
 ·exact .inl (.inr ⟨o,e _ _ h⟩)
 ·exact .inr h
mutual
theorem Rep.mono {K:zax7}{H H':Hp} (e:Same H H'):∀ {d:D}{v:V},Rep K H d v→Rep K H' d v
 |_,_,.non=>.non
 |_,_,.bl b=>.bl b
 |_,_,.int i=>.int i
 |_,_,.str x=>.str x
 |_,_,.tup h r=>.tup (SqT.mono e h) (Reps.mono e r)
 |_,_,.lst h r=>.lst (SqL.mono e h) (Reps.mono e r)
 |_,_,.dct l h r=>.dct l (e _ _ h) (Reps.mono e r)
 |_,_,.pdc h=>.pdc (e _ _ h)
theorem Reps.mono {K:zax7}{H H':Hp} (e:Same H H'):∀ {ds:List D}{vs:List V},Reps K H ds vs→Reps K H' ds vs
 |_,_,.nil=>.nil
 |_,_,.cons h r=>.cons (Rep.mono e h) (Reps.mono e r)
end
theorem Reps.length {K:zax7}{H:Hp}:∀ {ds:List D}{vs:List V},Reps K H ds vs→vs.length=ds.length
 |_,_,.nil=>rfl
 |_,_,.cons _ r=>by simp [Reps.length r]
theorem Reps.get {K:zax7}{H:Hp}:∀ {ds:List D}{vs:List V},Reps K H ds vs→∀ {i:Nat}{d:D},ds[i]?=some d→∃v,vs[i]?=some v∧Rep K H d v
 |_,_,.nil,i,d,e=>by simp at e
 |_,_,.cons (v:=v) h r,0,d,e=>by simp at e;subst e;exact⟨v,rfl,h⟩
 |_,_,.cons h r,i+1,d,e=>by
  obtain⟨v,a,b⟩:=Reps.get r (i:=i) (d:=d) (by simpa using e)
  exact⟨v,by simpa using a,b⟩
theorem Reps.getV {K:zax7}{H:Hp}:∀ {ds:List D}{vs:List V},Reps K H ds vs→∀ {i:Nat}{v:V},vs[i]?=some v→∃d,ds[i]?=some d∧Rep K H d v
 |_,_,.nil,i,d,e=>by simp at e
 |_,_,.cons (d:=d) h r,0,v,e=>by simp at e;subst e;exact⟨d,rfl,h⟩
 |_,_,.cons h r,i+1,v,e=>by
  obtain⟨d,a,b⟩:=Reps.getV r (i:=i) (v:=v) (by simpa using e)
  exact⟨d,by simpa using a,b⟩
theorem Reps.app {K:zax7}{H:Hp}:∀ {ds:List D}{vs:List V}{es:List D}{us:List V},Reps K H ds vs→Reps K H es us→Reps K H (ds++es) (vs++us)
 |_,_,_,_,.nil,r=>r
 |_,_,_,_,.cons h r,q=>.cons h (Reps.app r q)
theorem Reps.drop {K:zax7}{H:Hp}:∀ {ds:List D}{vs:List V} (n:Nat),Reps K H ds vs→Reps K H (ds.drop n) (vs.drop n)
 |_,_,0,r=>by simpa using r
 |_,_,n+1,.nil=>by simp;exact .nil
 |_,_,n+1,.cons h r=>by simpa using Reps.drop n r
theorem Reps.one {K:zax7}{H:Hp}{d:D}{v:V} (h:Rep K H d v):Reps K H [d] [v]:=.cons h .nil
theorem Reps.ints {K:zax7}{H:Hp}:∀ns:List Int,Reps K H (ns.map D.int) (ns.map V.int)
 |[]=>.nil
 |n::ns=>.cons (.int n) (Reps.ints ns)
mutual
def flat:D→Bool
 |.lst _=>false
 |.dct _ _=>false
 |.pdc _=>false
 |.tup xs=>flats xs
 |_=>true
def flats:List D→Bool
 |[]=>true
 |d::ds=>flat d&&flats ds
end
def hide (P:List Addr) (H:Hp):Hp:=fun a=>if a∈P then none else H a
theorem zb6 (P:List Addr) (H:Hp):Same (hide P H) H:=fun b o e=>by
 unfold hide at e
 split at e
 ·cases e
 ·exact e
theorem zb9 {P:List Addr}{H:Hp}{a:Addr}{o:HO} (h:H a=some o) (n:a∉P):hide P H a=some o:=by
 unfold hide;rw [if_neg n];exact h
theorem zh9 {P:List Addr}{H:Hp}{a:Addr}{o:HO} (h:hide P H a=some o):a∉P∧H a=some o:=by
 unfold hide at h
 split at h
 ·cases h
 ·exact⟨by assumption,h⟩
theorem hide_nil (H:Hp):hide [] H=H:=by funext a;simp [hide]
theorem za7 {P P':List Addr} (H:Hp) (h:∀a∈P',a∈P):Same (hide P H) (hide P' H):=fun b o e=>by
 obtain⟨n,e⟩:=zh9 e
 exact zb9 e fun z=>n (h b z)
def mutO:HO→Bool
 |.lst _=>true
 |.dK _=>true
 |.dT _=>true
 |_=>false
abbrev MO:={o:HO // mutO o=true}
def mL (vs:List V):MO:=⟨.lst vs,rfl⟩
def mD (kvs:List (Key×V)):MO:=⟨.dK kvs,rfl⟩
def mT (kvs:List (List Key×V)):MO:=⟨.dT kvs,rfl⟩
def Lists (H:Hp) (P:List Addr):Prop := ∀p∈P,∃o:MO,H p=some o.1
theorem Lists.mono {H H':Hp}{P:List Addr} (h:Lists H P) (e:Same H H'):Lists H' P:=fun p hp=>let ⟨vs,q⟩:=h p hp;⟨vs,e _ _ q⟩
theorem SqT.hid {K:zax7}{H:Hp}{P:List Addr}{a:Addr}{xs:List V} (m:Lists H P) (h:SqT K H a xs):SqT K (hide P H) a xs:=by
 rcases h with (h | ⟨o,h⟩) |h
 ·exact .inl (.inl (zb9 h fun z=>by obtain⟨⟨vs,w⟩,q⟩:=m _ z;rw [q]at h;cases h;cases w))
 ·exact .inl (.inr ⟨o,zb9 h fun z=>by obtain⟨⟨vs,w⟩,q⟩:=m _ z;rw [q]at h;cases h;cases w⟩)
 ·exact .inr h
mutual
theorem Rep.hid {K:zax7}{H:Hp}{P:List Addr} (m:Lists H P):∀ {d:D}{v:V},flat d=true→Rep K H d v→Rep K (hide P H) d v
 |_,_,_,.non=>.non
 |_,_,_,.bl b=>.bl b
 |_,_,_,.int i=>.int i
 |_,_,_,.str x=>.str x
 |_,_,f,.tup h r=>.tup (SqT.hid m h) (Reps.hid m (by simpa [flat] using f) r)
 |_,_,f,.lst h r=>by simp [flat]at f
 |_,_,f,.dct _ h r=>by simp [flat]at f
 |_,_,f,.pdc h=>by simp [flat]at f
theorem Reps.hid {K:zax7}{H:Hp}{P:List Addr} (m:Lists H P):∀ {ds:List D}{vs:List V},flats ds=true→Reps K H ds vs→Reps K (hide P H) ds vs
 |_,_,_,.nil=>.nil
 |_,_,f,.cons h r=>by
  simp [flats]at f
  exact .cons (Rep.hid m f.1 h) (Reps.hid m f.2 r)
end
mutual
inductive RepD (K:zax7) (H0 H:Hp):D→V→List Addr→Prop
 |flat {d:D}{v:V}:flat d=true→Rep K H0 d v→RepD K H0 H d v []
 |tup {ds:List D}{p:Addr}{vs:List V}{B:List Addr}:SqT K H0 p vs→RepDs K H0 H ds vs B→RepD K H0 H (.tup ds) (.ref p) B
 |lst {ds:List D}{p:Addr}{vs:List V}{B:List Addr}:H p=some (.lst vs)→RepDs K H0 H ds vs B→RepD K H0 H (.lst ds) (.ref p) (p::B)
 |dct {ks:List Key}{ds:List D}{p:Addr}{vs:List V}{B:List Addr}:ks.length=vs.length→H p=some (.dK (mkKV ks vs))→RepDs K H0 H ds vs B→RepD K H0 H (.dct ks ds) (.ref p) (p::B)
 |pdc {ps:List (Int×Int)}{p:Addr}:H p=some (.dT (pkv ps))→RepD K H0 H (.pdc ps) (.ref p) [p]
inductive RepDs (K:zax7) (H0 H:Hp):List D→List V→List Addr→Prop
 |nil:RepDs K H0 H [] [] []
 |cons {d:D}{v:V}{ds:List D}{vs:List V}{B C:List Addr}:RepD K H0 H d v B→RepDs K H0 H ds vs C→RepDs K H0 H (d::ds) (v::vs) (B++C)
end
mutual
theorem RepD.mono {K:zax7}{H0 H H0' H':Hp} (e:Same H0 H0'):∀ {d:D}{v:V}{B:List Addr},RepD K H0 H d v B→(∀p∈B,∀o,H p=some o→H' p=some o)→RepD K H0' H' d v B
 |_,_,_,.flat f r,_=>.flat f (Rep.mono e r)
 |_,_,_,.tup h r,k=>.tup (SqT.mono e h) (RepDs.mono e r k)
 |_,_,_,.lst h r,k=>.lst (k _ (zay1 ..) _ h) (RepDs.mono e r fun p hp=>k p (zax9 _ hp))
 |_,_,_,.dct l h r,k=>.dct l (k _ (zay1 ..) _ h) (RepDs.mono e r fun p hp=>k p (zax9 _ hp))
 |_,_,_,.pdc h,k=>.pdc (k _ (zay1 ..) _ h)
theorem RepDs.mono {K:zax7}{H0 H H0' H':Hp} (e:Same H0 H0'):∀ {ds:List D}{vs:List V}{B:List Addr},RepDs K H0 H ds vs B→(∀p∈B,∀o,H p=some o→H' p=some o)→RepDs K H0' H' ds vs B
 |_,_,_,.nil,_=>.nil
 |_,_,_,.cons h r,k=>.cons (RepD.mono e h fun p hp=>k p (zax8 _ hp)) (RepDs.mono e r fun p hp=>k p (zax6 _ hp))
end
mutual
theorem RepD.rep {K:zax7}{H0 H H1:Hp} (e:Same H0 H1):∀ {d:D}{v:V}{B:List Addr},RepD K H0 H d v B→(∀p∈B,∀o,H p=some o→H1 p=some o)→Rep K H1 d v
 |_,_,_,.flat f r,_=>Rep.mono e r
 |_,_,_,.tup h r,k=>.tup (SqT.mono e h) (RepDs.rep e r k)
 |_,_,_,.lst h r,k=>.lst (SqL.of (k _ (zay1 ..) _ h)) (RepDs.rep e r fun p hp=>k p (zax9 _ hp))
 |_,_,_,.dct l h r,k=>.dct l (k _ (zay1 ..) _ h) (RepDs.rep e r fun p hp=>k p (zax9 _ hp))
 |_,_,_,.pdc h,k=>.pdc (k _ (zay1 ..) _ h)
theorem RepDs.rep {K:zax7}{H0 H H1:Hp} (e:Same H0 H1):∀ {ds:List D}{vs:List V}{B:List Addr},RepDs K H0 H ds vs B→(∀p∈B,∀o,H p=some o→H1 p=some o)→Reps K H1 ds vs
 |_,_,_,.nil,_=>.nil
 |_,_,_,.cons h r,k=>.cons (RepD.rep e h fun p hp=>k p (zax8 _ hp)) (RepDs.rep e r fun p hp=>k p (zax6 _ hp))
end
mutual
theorem RepD.lists {K:zax7}{H0 H:Hp}:∀ {d:D}{v:V}{B:List Addr},RepD K H0 H d v B→Lists H B
 |_,_,_,.flat f r=>fun p hp=>by cases hp
 |_,_,_,.tup h r=>RepDs.lists r
 |_,_,_,.lst h r=>fun p hp=>by
  rcases zay5.mp hp with rfl | hp
  ·exact⟨mL _,h⟩
  ·exact RepDs.lists r p hp
 |_,_,_,.dct _ h r=>fun p hp=>by
  rcases zay5.mp hp with rfl | hp
  ·exact⟨mD _,h⟩
  ·exact RepDs.lists r p hp
 |_,_,_,.pdc h=>fun p hp=>by
  rw [zaz9]at hp
  subst hp
  exact⟨mT _,h⟩
theorem RepDs.lists {K:zax7}{H0 H:Hp}:∀ {ds:List D}{vs:List V}{B:List Addr},RepDs K H0 H ds vs B→Lists H B
 |_,_,_,.nil=>fun p hp=>by cases hp
 |_,_,_,.cons h r=>fun p hp=>(zay0.mp hp).elim (RepD.lists h p) (RepDs.lists r p)
end
mutual
theorem RepD.hid {K:zax7}{H0 H:Hp}{P:List Addr} (m:Lists H P) (e:Same H0 H):∀ {d:D}{v:V}{B:List Addr},RepD K H0 H d v B→RepD K (hide P H) H d v B
 |_,_,_,.flat f r=>.flat f (Rep.hid m f (Rep.mono e r))
 |_,_,_,.tup h r=>.tup (SqT.hid m (SqT.mono e h)) (RepDs.hid m e r)
 |_,_,_,.lst h r=>.lst h (RepDs.hid m e r)
 |_,_,_,.dct l h r=>.dct l h (RepDs.hid m e r)
 |_,_,_,.pdc h=>.pdc h
theorem RepDs.hid {K:zax7}{H0 H:Hp}{P:List Addr} (m:Lists H P) (e:Same H0 H):∀ {ds:List D}{vs:List V}{B:List Addr},RepDs K H0 H ds vs B→RepDs K (hide P H) H ds vs B
 |_,_,_,.nil=>.nil
 |_,_,_,.cons h r=>.cons (RepD.hid m e h) (RepDs.hid m e r)
end
theorem RepDs.of_flat {K:zax7}{H0 H:Hp}:∀ {ds:List D}{vs:List V},flats ds=true→Reps K H0 ds vs→RepDs K H0 H ds vs []
 |_,_,_,.nil=>.nil
 |_,_,f,.cons h r=>by
  simp [flats]at f
  exact .cons (B:=[]) (C:=[]) (.flat f.1 h) (RepDs.of_flat f.2 r)
theorem Lists.app {H:Hp}{P Q:List Addr} (h:Lists H P) (k:Lists H Q):Lists H (P++Q):=fun p hp=>(zay0.mp hp).elim (h p) (k p)
inductive Ev where
 |cl (d:D) |tm (d:D) |nw (xs:List D) |dn (d:D)
def Ev.d:Ev→D
 |.cl d=>d
 |.tm d=>d
 |.nw xs=>.lst xs
 |.dn d=>d
noncomputable def RepEv (K:zax7) (F A:List Addr) (H H':Hp):Ev→V→Prop
 |.cl d,v=>Rep K (hide (A++F) H') d v
 |.tm d,v=>Rep K (hide F H') d v
 |.nw xs,v => ∃p vs,v=.ref p∧H p=none∧H' p=some (.lst vs)∧Reps K (hide (p ::(A++F)) H') xs vs
 |.dn d,v => ∃B,B.Nodup∧(∀b∈B,H b=none)∧RepD K (hide (B++(A++F)) H') H' d v B
theorem za8 {P:List Addr}{H H':Hp} (e:Same H H'):Same (hide P H) (hide P H'):=fun b o h=>by
 obtain⟨n,h⟩:=zh9 h
 exact zb9 (e _ _ h) n
theorem RepEv.mono {K:zax7}{F A:List Addr}{H H1 H2:Hp}{r:Ev}{v:V} (h:RepEv K F A H H1 r v) (e:Same H1 H2):RepEv K F A H H2 r v:=by
 cases r with
 |cl d=>exact Rep.mono (za8 e) h
 |tm d=>exact Rep.mono (za8 e) h
 |nw xs =>
  obtain⟨p,vs,rfl,h1,h2,h3⟩:=h
  exact⟨p,vs,rfl,h1,e _ _ h2,Reps.mono (za8 e) h3⟩
 |dn d =>
  obtain⟨B,h1,h2,h3⟩:=h
  exact⟨B,h1,h2,RepD.mono (za8 e) h3 fun p _ o q=>e _ _ q⟩
theorem RepEv.back {K:zax7}{F A:List Addr}{H0 H H1:Hp}{r:Ev}{v:V} (h:RepEv K F A H H1 r v) (e:Same H0 H):RepEv K F A H0 H1 r v:=by
 cases r with
 |cl d=>exact h
 |tm d=>exact h
 |nw xs =>
  obtain⟨p,vs,rfl,h1,h2,h3⟩:=h
  refine⟨p,vs,rfl,?_,h2,h3⟩
  cases q:H0 p with
  |none=>rfl
  |some o=>rw [e _ _ q]at h1;cases h1
 |dn d =>
  obtain⟨B,h1,h2,h3⟩:=h
  exact⟨B,h1,fun b hb=>Same.free e (h2 b hb),h3⟩
theorem RepEv.full {K:zax7}{F A:List Addr}{H H':Hp}{r:Ev}{v:V} (h:RepEv K F A H H' r v):Rep K H' r.d v:=by
 cases r with
 |cl d=>exact Rep.mono (zb6 _ _) h
 |tm d=>exact Rep.mono (zb6 _ _) h
 |nw xs =>
  obtain⟨p,vs,rfl,h1,h2,h3⟩:=h
  exact .lst (SqL.of h2) (Reps.mono (zb6 _ _) h3)
 |dn d =>
  obtain⟨B,h1,h2,h3⟩:=h
  exact h3.rep (zb6 _ _) fun _ _ _ q=>q
theorem zc6 {H:Hp}{P:List Addr}{p:Addr} (m:Lists H P) (h:H p=none):p∉P:=fun z=>by
 obtain⟨vs,q⟩:=m _ z
 rw [q]at h;cases h
theorem RepEv.cleanF {K:zax7}{F A:List Addr}{H H':Hp}{r:Ev}{v:V} (m:Lists H (A++F)) (h:RepEv K F A H H' r v):Rep K (hide F H') r.d v:=by
 cases r with
 |cl d=>exact Rep.mono (za7 H' fun a z=>zax6 _ z) h
 |tm d=>exact h
 |nw xs =>
  obtain⟨p,vs,rfl,h1,h2,h3⟩:=h
  have n:p∉F:=fun z=>zc6 m h1 (zax6 _ z)
  exact .lst (SqL.of (zb9 h2 n)) (Reps.mono (za7 H' fun a z=>zax9 _ (zax6 _ z)) h3)
 |dn d =>
  obtain⟨B,h1,h2,h3⟩:=h
  refine h3.rep (za7 H' fun a z=>zax6 _ (zax6 _ z)) fun b hb o q=>zb9 q fun z=>?_
  exact zc6 m (h2 b hb) (zax6 _ z)
def Ev.ok:Ev→Bool
 |.cl _=>true
 |.tm d=>flat d
 |.nw _=>true
 |.dn _=>true
theorem RepEv.clean {K:zax7}{F A:List Addr}{H H':Hp}{r:Ev}{v:V} (m:Lists H (A++F)) (e:Same H H') (h:RepEv K F A H H' r v) (c:r.ok=true):Rep K (hide (A++F) H') r.d v:=by
 cases r with
 |cl d=>exact h
 |tm d =>
  have m':Lists H' (A++F):=m.mono e
  exact Rep.hid m' c (Rep.mono (zb6 _ _) h)
 |nw xs =>
  obtain⟨p,vs,rfl,h1,h2,h3⟩:=h
  have n:p∉A++F:=zc6 m h1
  exact .lst (SqL.of (zb9 h2 n)) (Reps.mono (za7 H' fun a z=>zax9 _ z) h3)
 |dn d =>
  obtain⟨B,h1,h2,h3⟩:=h
  exact h3.rep (za7 H' fun a z=>zax6 _ z) fun b hb o q=>zb9 q fun z=>zc6 m (h2 b hb) z
inductive Sl where
 |no | val (d:D) |own (xs:List D) |dp (d:D)
abbrev Th:=List Sl
inductive RSl (K:zax7) (H0 H:Hp):Th→L2.St→List Addr→Prop
 |nil:RSl K H0 H [] [] []
 |no {x:Option V}{t:Th}{σ:L2.St}{A:List Addr}:RSl K H0 H t σ A→RSl K H0 H (.no::t) (x::σ) A
 |val {d:D}{v:V}{t:Th}{σ:L2.St}{A:List Addr}:Rep K H0 d v→RSl K H0 H t σ A→RSl K H0 H (.val d::t) (some v::σ) A
 |own {p:Addr}{vs:List V}{ds:List D}{t:Th}{σ:L2.St}{A:List Addr}:H p=some (.lst vs)→Reps K H0 ds vs→RSl K H0 H t σ A→RSl K H0 H (.own ds::t) (some (.ref p)::σ) (p::A)
 |dp {d:D}{v:V}{B:List Addr}{t:Th}{σ:L2.St}{A:List Addr}:RepD K H0 H d v B→RSl K H0 H t σ A→RSl K H0 H (.dp d::t) (some v::σ) (B++A)
structure RS (K:zax7) (F:List Addr) (H:Hp) (A:List Addr) (t:Th) (σ:L2.St):Prop where
 mu:Lists H (A++F)
 nd:A.Nodup
 dj:∀p∈A,p∉F
 rel:RSl K (hide (A++F) H) H t σ A
theorem RSl.mono {K:zax7}{H0 H H0' H':Hp} (e0:Same H0 H0'):∀ {t:Th}{σ:L2.St}{A:List Addr},RSl K H0 H t σ A→(∀p∈A,∀o,H p=some o→H' p=some o)→RSl K H0' H' t σ A:=by
 intro _ _ _ h
 induction h with
 |nil =>
  intro w0
  exact .nil
 |@no _ _ _ _ r ih =>
  intro e
  exact .no (ih e)
 |@val _ _ _ _ _ h r ih =>
  intro e
  exact .val (Rep.mono e0 h) (ih e)
 |@own _ _ _ _ _ _ h1 h2 r ih =>
  intro e
  exact .own (e _ (zay1 ..) _ h1) (Reps.mono e0 h2) (ih fun p hp=>e p (zax9 _ hp))
 |@dp _ _ _ _ _ _ h r ih =>
  intro e
  exact .dp (RepD.mono e0 h fun p hp=>e p (zax8 _ hp)) (ih fun p hp=>e p (zax6 _ hp))
theorem RS.grow {K:zax7}{F A:List Addr}{H H':Hp}{t:Th}{σ:L2.St} (h:RS K F H A t σ) (e:Same H H'):RS K F H' A t σ :=
 ⟨h.mu.mono e,h.nd,h.dj,h.rel.mono (za8 e) fun p _ o q=>e _ _ q⟩
theorem RSl.len {K:zax7}{H0 H:Hp}:∀ {t:Th}{σ:L2.St}{A:List Addr},RSl K H0 H t σ A→σ.length=t.length:=by
 intro _ _ _ h
 induction h with
 |nil =>
  exact rfl
 |@no _ _ _ _ r ih =>
  simp [ih]
 |@val _ _ _ _ _ _ r ih =>
  simp [ih]
 |@own _ _ _ _ _ _ _ _ r ih =>
  simp [ih]
 |@dp _ _ _ _ _ _ _ r ih =>
  simp [ih]
theorem RSl.getVal {K:zax7}{H0 H:Hp}:∀ {t:Th}{σ:L2.St}{A:List Addr},RSl K H0 H t σ A→∀ {i:Nat}{d:D},t[i]?=some (.val d)→∃v,σ[i]?=some (some v)∧Rep K H0 d v:=by
 intro _ _ _ h
 induction h with
 |nil =>
  intro i d e
  simp at e
 |@no _ _ _ _ r ih =>
  intro i d e
  cases i with
  |zero =>
   simp at e
  |succ i =>
   simpa using ih (i:=i) (by simpa using e)
 |@val _ v _ _ _ h r ih =>
  intro i d e
  cases i with
  |zero =>
   simp at e;subst e;exact⟨v,rfl,h⟩
  |succ i =>
   simpa using ih (i:=i) (by simpa using e)
 |@own _ _ _ _ _ _ _ _ r ih =>
  intro i d e
  cases i with
  |zero =>
   simp at e
  |succ i =>
   simpa using ih (i:=i) (by simpa using e)
 |@dp _ _ _ _ _ _ _ r ih =>
  intro i d e
  cases i with
  |zero =>
   simp at e
  |succ i =>
   simpa using ih (i:=i) (by simpa using e)
theorem RSl.getOwn {K:zax7}{H0 H:Hp}:∀ {t:Th}{σ:L2.St}{A:List Addr},RSl K H0 H t σ A→∀ {i:Nat}{ds:List D},t[i]?=some (.own ds)→∃p vs,σ[i]?=some (some (.ref p))∧p∈A∧H p=some (.lst vs)∧Reps K H0 ds vs:=by
 intro _ _ _ h
 induction h with
 |nil =>
  intro i d e
  simp at e
 |@no _ _ _ _ r ih =>
  intro i d e
  cases i with
  |zero =>
   simp at e
  |succ i =>
   simpa using ih (i:=i) (by simpa using e)
 |@val _ v _ _ _ h r ih =>
  intro i d e
  cases i with
  |zero =>
   simp at e
  |succ i =>
   simpa using ih (i:=i) (by simpa using e)
 |@own p vs _ _ _ _ h1 h2 r ih =>
  intro i d e
  cases i with
  |zero =>
   simp at e;subst e;exact⟨p,vs,rfl,zay1 ..,h1,h2⟩
  |succ i =>
   obtain⟨p,vs,a,b,c,f⟩:=ih (i:=i) (ds:=d) (by simpa using e)
   exact⟨p,vs,by simpa using a,zax9 _ b,c,f⟩
 |@dp _ _ _ _ _ _ _ r ih =>
  intro i d e
  cases i with
  |zero =>
   simp at e
  |succ i =>
   obtain⟨p,vs,a,b,c,f⟩:=ih (i:=i) (ds:=d) (by simpa using e)
   exact⟨p,vs,by simpa using a,zax6 _ b,c,f⟩
theorem RSl.getDp {K:zax7}{H0 H:Hp}:∀ {t:Th}{σ:L2.St}{A:List Addr},RSl K H0 H t σ A→A.Nodup→∀ {i:Nat}{d:D},t[i]?=some (.dp d)→∃v B,σ[i]?=some (some v)∧(∀b∈B,b∈A)∧B.Nodup∧RepD K H0 H d v B:=by
 intro _ _ _ h
 induction h with
 |nil =>
  intro n i d e
  simp at e
 |@no _ _ _ _ r ih =>
  intro n i d e
  cases i with
  |zero =>
   simp at e
  |succ i =>
   simpa using ih n (i:=i) (by simpa using e)
 |@val _ v _ _ _ h r ih =>
  intro n i d e
  cases i with
  |zero =>
   simp at e
  |succ i =>
   simpa using ih n (i:=i) (by simpa using e)
 |@own _ _ _ _ _ _ _ _ r ih =>
  intro n i d e
  cases i with
  |zero =>
   simp at e
  |succ i =>
   obtain⟨v,B,a,b,n',c⟩:=ih (zaz8.mp n).2 (i:=i) (d:=d) (by simpa using e)
   exact⟨v,B,by simpa using a,fun x hx=>zax9 _ (b x hx),n',c⟩
 |@dp _ v B _ _ _ h r ih =>
  intro n i d e
  cases i with
  |zero =>
   simp at e;subst e;exact⟨v,B,rfl,fun x hx=>zax8 _ hx,(zay9.mp n).1,h⟩
  |succ i =>
   obtain⟨v,B,a,b,n',c⟩:=ih (zay9.mp n).2.1 (i:=i) (d:=d) (by simpa using e)
   exact⟨v,B,by simpa using a,fun x hx=>zax6 _ (b x hx),n',c⟩
structure Gr (A:List Addr) (H:Hp) (A':List Addr) (H':Hp):Prop where
 kp:∀b o,b∉A→H b=some o→H' b=some o
 al:∀b∈A,H' b≠none
 nw:∀b∈A',b∈A∨H b=none
theorem Gr.refl {A:List Addr}{H:Hp} (m:Lists H A):Gr A H A H:=⟨fun _ _ _ h=>h,fun b hb=>by obtain⟨vs,q⟩:=m b hb;rw [q];simp,fun b h=>.inl h⟩
theorem Gr.of_same {A:List Addr}{H H':Hp} (m:Lists H A) (e:Same H H'):Gr A H A H':=⟨fun _ _ _ h=>e _ _ h,fun b hb=>by obtain⟨vs,q⟩:=m b hb;rw [e _ _ q];simp,fun b h=>.inl h⟩
theorem Gr.trans {A A1 A2:List Addr}{H H1 H2:Hp} (a:Gr A H A1 H1) (b:Gr A1 H1 A2 H2):Gr A H A2 H2 where
 kp:=fun x o n h=>b.kp x o (fun z=>by rcases a.nw x z with q | q;exact n q;rw [q]at h;cases h) (a.kp x o n h)
 al:=fun x hx=>by
  by_cases z:x∈A1
  ·exact b.al x z
  ·have:=a.al x hx
   cases q:H1 x with
   |none=>exact absurd q this
   |some o=>rw [b.kp x o z q];simp
 nw:=fun x hx=>by
  rcases b.nw x hx with q | q
  ·exact a.nw x q
  ·by_cases z:x∈A
   ·exact .inl z
   ·refine .inr ?_
    cases w:H x with
    |none=>rfl
    |some o=>rw [a.kp x o z w]at q;cases q
theorem Gr.same {F A A':List Addr}{H H':Hp} (g:Gr A H A' H'):Same (hide (A++F) H) (hide (A'++F) H'):=fun b o h=>by
 obtain⟨n,h⟩:=zh9 h
 have n1:b∉A:=fun z=>n (zax8 _ z)
 refine zb9 (g.kp b o n1 h) fun z=>?_
 rcases zay0.mp z with z | z
 ·rcases g.nw b z with q | q
  ·exact n1 q
  ·rw [q]at h;cases h
 ·exact n (zax6 _ z)
end DL
namespace DL
open PySem.Spec L2
abbrev DE:=Th→Option Ev
noncomputable def dE (K:zax7) (F:List Addr) (f:DE):TE:=fun σ H Q => ∃A t r,RS K F H A t σ∧f t=some r∧∀v H',Same H H'→RepEv K F A H H' r v→Q v H'
theorem PE.imp {X:Cx}{e:Expr}{t t':TE} (h:PE X e t) (i:∀σ H Q,t' σ H Q→t σ H Q):PE X e t':=fun pins s σ H Q I q=>h pins s σ H Q I (i σ H Q q)
section
variable {X:Cx}{F:List Addr}{a b c:Expr}{fa fb fc:DE}{pos:Pos}
noncomputable def dVar (i:Nat):DE:=fun t=>match t[i]? with
 |some (.val d)=>some (.cl d)
 |some (.own xs)=>some (.tm (.lst xs))
 |some (.dp d)=>some (.tm d)
 |_=>none
theorem za0 (i:Nat) {x:Str} (hN:X.N[i]?=some x:=by rfl) (hv:Vis X.env.scope x:=by first | exact Or.inl rfl | exact Or.inr (Or.inl rfl) |exact Or.inr (Or.inr rfl)) (hd:(x ==("__debug__":Str))=false:=by decide)
  (hcd:(x ==("__classdict__":Str))=false:=by decide):PE X (.Name x pos) (dE X.K F (dVar i)):=by
 refine PE.imp (zo1 (i:=i) hN hv hd hcd) ?_
 rintro σ H Q ⟨A,t,r,R,e,h⟩
 unfold dVar at e
 split at e
 ·rename_i d q
  cases e
  obtain⟨v,h1,h2⟩:=R.rel.getVal q
  exact⟨v,h1,h v H (Same.refl H) h2⟩
 ·rename_i ds q
  cases e
  obtain⟨p,vs,h1,h2,h3,h4⟩:=R.rel.getOwn q
  refine⟨_,h1,h _ H (Same.refl H) ?_⟩
  exact .lst (SqL.of (zb9 h3 (R.dj p h2))) (Reps.mono (za7 H fun a z=>zax6 _ z) h4)
 ·rename_i d q
  cases e
  obtain⟨v,B,h1,h2,h0,h3⟩:=R.rel.getDp R.nd q
  refine⟨_,h1,h _ H (Same.refl H) ?_⟩
  exact h3.rep (za7 H fun a z=>zax6 _ z) fun b hb o w=>zb9 w (R.dj b (h2 b hb))
 ·cases e
def dC (d:D):DE:=fun _=>some (.cl d)
theorem za4 {i j pos}:PE X (.Constant (.int i) j pos) (dE X.K F (dC (.int i))):=PE.imp pe_int fun σ H Q ⟨A,t,r,R,e,h⟩=>by cases e;exact h _ H (Same.refl H) (.int i)
theorem zj7 {b j pos}:PE X (.Constant (.bool b) j pos) (dE X.K F (dC (.bl b))):=PE.imp pe_bl fun σ H Q ⟨A,t,r,R,e,h⟩=>by cases e;exact h _ H (Same.refl H) (.bl b)
noncomputable def OpD (X:Cx) (F:List Addr) (f:Value→Value→Sem Value) (k:Ev→Ev→Option Ev):Prop :=
 ∀(pins:List (Addr×Obj)) (s:zaz0) (σ:L2.St) (H0 H:Hp) (A:List Addr) (x y:V) (v u:Value) (Q:VK) (r1 r2 r:Ev),Inv X pins σ H s→Lists H0 (A++F)→Same H0 H→RelV x v→RelV y u →
  RepEv X.K F A H0 H r1 x→RepEv X.K F A H0 H r2 y→k r1 r2=some r→(∀z H',Same H H'→RepEv X.K F A H0 H' r z→Q z H')→wpAny (model X.prog X.w) X.A (f v u) (EP X pins σ Q) X.xe s
def d2 (k:Ev→Ev→Option Ev) (fa fb:DE):DE:=fun t=>(fa t).bind fun r1=>(fb t).bind fun r2=>k r1 r2
theorem two {k:Ev→Ev→Option Ev}{σ:L2.St}{H:Hp}{Q:VK} (h:dE X.K F (d2 k fa fb) σ H Q):∃A t r1 r2 r,RS X.K F H A t σ∧fa t=some r1∧fb t=some r2∧k r1 r2=some r ∧
  (∀v H',Same H H'→RepEv X.K F A H H' r v→Q v H')∧dE X.K F fa σ H fun x H1=>dE X.K F fb σ H1 fun y H2=>Same H H2∧RepEv X.K F A H H2 r1 x∧RepEv X.K F A H H2 r2 y:=by
 obtain⟨A,t,r,R,e,h⟩:=h
 unfold d2 at e
 cases e1:fa t with
 |none=>rw [e1]at e;cases e
 |some r1 =>
  cases e2:fb t with
  |none=>rw [e1,e2]at e;cases e
  |some r2 =>
   rw [e1,e2]at e
   exact⟨A,t,r1,r2,r,R,e1,e2,e,h,A,t,r1,R,e1,fun x H1 g1 q1=>⟨A,t,r2,R.grow g1,e2,fun y H2 g2 q2=>⟨g1.trans g2,q1.mono g2,q2.back g1⟩⟩⟩
theorem zb5 {op:Operator}{k:Ev→Ev→Option Ev} (ho:OpD X F (binaryOp op) k) (ha:PE X a (dE X.K F fa)) (hb:PE X b (dE X.K F fb)):PE X (.BinOp a op b pos) (dE X.K F (d2 k fa fb)):=by
 intro pins s σ H Q I h
 obtain⟨A,t,r1,r2,r,R,e1,e2,e,h,w⟩:=two h
 refine wpAny_BinOp (bin ha hb I w fun v u s2 x y H2 I2 rx ry q=>?_)
 obtain⟨g,q1,q2⟩:=q
 exact ho pins s2 σ H H2 A x y v u Q r1 r2 r I2 R.mu g rx ry q1 q2 e fun z H' g'=>h z H' (g.trans g')
theorem zu4 {op:CmpOp}{k:Ev→Ev→Option Ev} (ho:OpD X F (compareOp op) k) (ha:PE X a (dE X.K F fa)) (hb:PE X b (dE X.K F fb)) (hm:behindInMarks op b=false:=by first | exact nomark _ | (with_unfolding_all rfl)) :
  PE X (.Compare a [op] [b] pos) (dE X.K F (d2 k fa fb)):=by
 intro pins s σ H Q I h
 obtain⟨A,t,r1,r2,r,R,e1,e2,e,h,w⟩:=two h
 refine wpAny_Compare1 (bin ha hb I w fun v u s2 x y H2 I2 rx ry q=>?_) hm
 obtain⟨g,q1,q2⟩:=q
 exact ho pins s2 σ H H2 A x y v u Q r1 r2 r I2 R.mu g rx ry q1 q2 e fun z H' g'=>h z H' (g.trans g')
noncomputable def kI (C:Int→Int→Bool) (g:Int→Int→D):Ev→Ev→Option Ev:=fun r1 r2=>match r1.d,r2.d with
 |.int i,.int j=>if C i j then some (.cl (g i j)) else none
 |_,_=>none
theorem ze1 {K:zax7}{H:Hp}{i:Int}{v:V} (h:Rep K H (.int i) v):v=.int i:=by cases h;rfl
theorem zac1 {f:Value→Value→Sem Value}{C:Int→Int→Prop}{g:Int→Int→V}{C':Int→Int→Bool}{g':Int→Int→D} (h:OpR X f (rI C g)) (hc:∀i j,C' i j=true→C i j)
  (hg:∀H i j,Rep X.K H (g' i j) (g i j)):OpD X F f (kI C' g'):=by
 intro pins s σ H0 H A x y v u Q r1 r2 r I m g0 rx ry q1 q2 e hq
 have p1:=q1.full
 have p2:=q2.full
 unfold kI at e
 split at e
 ·rename_i i j d1 d2
  split at e
  ·rename_i c
   cases e
   rw [d1]at p1;rw [d2]at p2
   cases ze1 p1;cases ze1 p2
   exact h pins s σ H _ _ v u Q I rx ry ⟨i,j,rfl,rfl,hc i j c,hq _ H (Same.refl H) (hg _ i j)⟩
  ·cases e
 ·cases e
theorem rI_of {f:Value→Value→Sem Value}{g:Int→Int→V} (h:OpR X f (rI0 g)):OpR X f (rI (fun _ _=>True) g):=fun pins s σ H x y v u Q I rx ry ⟨i,j,e1,e2,_,q⟩=>h pins s σ H x y v u Q I rx ry ⟨i,j,e1,e2,q⟩
def tt2:Int→Int→Bool:=fun _ _=>true
theorem od_add:OpD X F (binaryOp .Add) (kI tt2 fun i j=>.int (i+j)):=zac1 (rI_of op_add) (fun _ _ _=>trivial) fun _ _ _=>.int _
def bnd:Nat:=2 ^ 4096
def sm (i:Int):Bool:=decide (i.natAbs<bnd)
def cMul (i j:Int):Bool:=sm i&&sm j
def cDiv (_ j:Int):Bool:=sm j&&decide (j≠0)
theorem zai0 {n k:Nat} (h:n<2 ^ k):n.log2≤k:=by
 by_cases z:n=0
 ·subst z;simp
 ·exact zbj9 ((Nat.log2_lt z).mpr h)
theorem cMul.ok {i j:Int} (h:cMul i j=true):IntMulOk i j:=by
 simp only [cMul,sm,zay4,decide_eq_true_eq]at h
 refine mulOk_of_bits (m:=4097) (n:=4097) ?_ ?_ (by decide)
 ·exact intBits_le (zay8 h.1 (by unfold bnd;exact zbd3 (by decide) (by decide)))
 ·exact intBits_le (zay8 h.2 (by unfold bnd;exact zbd3 (by decide) (by decide)))
theorem od_mul:OpD X F (binaryOp .Mult) (kI cMul fun i j=>.int (i*j)):=zac1 (C:=IntMulOk) (opI fun _ _ _ _ _ _ _ hc q=>mul_int q hc) (fun _ _ h=>cMul.ok h) fun _ _ _=>.int _
theorem cDiv.ok {i j:Int} (h:cDiv i j=true):j≠0∧j.natAbs.log2<9000:=by
 simp only [cDiv,sm,zay4,decide_eq_true_eq]at h
 have:=zai0 h.1
 exact⟨h.2,by lia⟩
theorem zr8:OpD X F (binaryOp .FloorDiv) (kI cDiv fun i j=>.int (i.fdiv j)):=zac1 (C:=fun _ j=>j≠0∧j.natAbs.log2<9000) (opI fun _ _ _ _ _ _ _ hc q=>floordiv_int hc.1 q (.inl (PyProof.noPylong_of_log2 hc.2))) (fun _ _ h=>cDiv.ok h) fun _ _ _=>.int _
def cMod (_ j:Int):Bool:=decide (j≠0)
theorem zo2:OpD X F (binaryOp .Mod) (kI cMod fun i j=>.int (i.fmod j)):=zac1 op_modN (fun i j h=>by simpa [cMod] using h) fun _ _ _=>.int _
def cPow (i j:Int):Bool:=decide (0≤j∧j≤1000∧i.natAbs<18446744073709551616)
theorem zan1:OpD X F (compareOp .Lt) (kI tt2 fun i j=>.bl (decide (i<j))):=zac1 (rI_of op_lt) (fun _ _ _=>trivial) fun _ _ _=>.bl _
theorem od_le:OpD X F (compareOp .LtE) (kI tt2 fun i j=>.bl (decide (i≤j))):=zac1 (rI_of op_le) (fun _ _ _=>trivial) fun _ _ _=>.bl _
theorem od_gt:OpD X F (compareOp .Gt) (kI tt2 fun i j=>.bl (decide (j<i))):=zac1 (rI_of op_gt) (fun _ _ _=>trivial) fun _ _ _=>.bl _
def kOr (k k':Ev→Ev→Option Ev):Ev→Ev→Option Ev:=fun r1 r2=>match k r1 r2 with
 |some r=>some r
 |none=>k' r1 r2
theorem OpD.or {f:Value→Value→Sem Value}{k k':Ev→Ev→Option Ev} (h:OpD X F f k) (h':OpD X F f k'):OpD X F f (kOr k k'):=by
 intro pins s σ H0 H A x y v u Q r1 r2 r I m g0 rx ry q1 q2 e hq
 unfold kOr at e
 split at e
 ·rename_i z
  cases e
  exact h pins s σ H0 H A x y v u Q r1 r2 _ I m g0 rx ry q1 q2 z hq
 ·exact h' pins s σ H0 H A x y v u Q r1 r2 _ I m g0 rx ry q1 q2 e hq
def d1 (k:Ev→Option Ev) (fa:DE):DE:=fun t=>(fa t).bind k
def kNeg:Ev→Option Ev:=fun r=>match r.d with
 |.int i=>some (.cl (.int (-i)))
 |_=>none
theorem zz2 (ha:PE X a (dE X.K F fa)):PE X (.UnaryOp .USub a pos) (dE X.K F (d1 kNeg fa)):=by
 refine PE.imp (pe_un un_neg ha) ?_
 rintro σ H Q ⟨A,t,r,R,e,h⟩
 unfold d1 at e
 cases e1:fa t with
 |none=>rw [e1]at e;cases e
 |some r1 =>
  rw [e1]at e
  refine⟨A,t,r1,R,e1,fun x H1 g1 q1=>?_⟩
  have e:kNeg r1=some r:=e
  unfold kNeg at e
  split at e
  ·rename_i i z
   cases e
   have p:=q1.full
   rw [z]at p
   exact⟨i,ze1 p,h _ H1 g1 (.int _)⟩
  ·cases e
end
end DL
namespace DL
open PySem.Spec L2
inductive RepEvs (K:zax7) (F A:List Addr) (H H':Hp):List Ev→List V→Prop
 |nil:RepEvs K F A H H' [] []
 |cons {r:Ev}{v:V}{rs:List Ev}{vs:List V}:RepEv K F A H H' r v→RepEvs K F A H H' rs vs→RepEvs K F A H H' (r::rs) (v::vs)
theorem RepEvs.back {K:zax7}{F A:List Addr}{H0 H H1:Hp} (e:Same H0 H):∀ {rs:List Ev}{vs:List V},RepEvs K F A H H1 rs vs→RepEvs K F A H0 H1 rs vs
 |_,_,.nil=>.nil
 |_,_,.cons h r=>.cons (h.back e) (RepEvs.back e r)
theorem RepEvs.full {K:zax7}{F A:List Addr}{H H':Hp}:∀ {rs:List Ev}{vs:List V},RepEvs K F A H H' rs vs→Reps K H' (rs.map Ev.d) vs
 |_,_,.nil=>.nil
 |_,_,.cons h r=>.cons h.full (RepEvs.full r)
theorem RepEvs.cleanF {K:zax7}{F A:List Addr}{H H':Hp} (m:Lists H (A++F)):∀ {rs:List Ev}{vs:List V},RepEvs K F A H H' rs vs→Reps K (hide F H') (rs.map Ev.d) vs
 |_,_,.nil=>.nil
 |_,_,.cons h r=>.cons (h.cleanF m) (RepEvs.cleanF m r)
theorem RepEvs.clean {K:zax7}{F A:List Addr}{H H':Hp} (m:Lists H (A++F)) (e:Same H H'):∀ {rs:List Ev}{vs:List V},RepEvs K F A H H' rs vs→rs.all Ev.ok=true→Reps K (hide (A++F) H') (rs.map Ev.d) vs
 |_,_,.nil,_=>.nil
 |_,_,.cons h r,c=>by
  simp only [zbh5,zay4]at c
  exact .cons (h.clean m e c.1) (RepEvs.clean m e r c.2)
abbrev DA:=Th→Option (List Ev)
noncomputable def dA (K:zax7) (F:List Addr) (f:DA):TA:=fun σ H Q => ∃A t rs,RS K F H A t σ∧f t=some rs∧∀vs H',Same H H'→RepEvs K F A H H' rs vs→Q vs H'
theorem PA.imp {X:Cx}{e:List Expr}{t t':TA} (h:PA X e t) (i:∀σ H Q,t' σ H Q→t σ H Q):PA X e t':=fun pos pins s σ H Q I q=>h pos pins s σ H Q I (i σ H Q q)
def dNil:DA:=fun _=>some []
def za2 (f:DE) (g:DA):DA:=fun t=>(f t).bind fun r=>(g t).bind fun rs=>some (r::rs)
section
variable {X:Cx}{F:List Addr}{a b c:Expr}{es:List Expr}{fa fb fc:DE}{g:DA}{pos:Pos}
theorem za5:PA X [] (dA X.K F dNil):=PA.imp zi8 fun σ H Q ⟨A,t,rs,R,e,h⟩=>by cases e;exact h [] H (Same.refl H) .nil
theorem za1 (ha:PE X a (dE X.K F fa)) (hr:PA X es (dA X.K F g)) (hs:zaz1 (a::es) X.env=(false,eval a X.env)::zaz1 es X.env:=by rfl):PA X (a::es) (dA X.K F (za2 fa g)):=by
 refine PA.imp (zf1 ha hr hs) ?_
 rintro σ H Q ⟨A,t,rs,R,e,h⟩
 unfold za2 at e
 cases e1:fa t with
 |none=>rw [e1]at e;cases e
 |some r1 =>
  cases e2:g t with
  |none=>rw [e1,e2]at e;cases e
  |some rs2 =>
   rw [e1,e2]at e
   cases e
   exact⟨A,t,r1,R,e1,fun x H1 g1 q1=>⟨A,t,rs2,R.grow g1,e2,fun xs H2 g2 q2=>h _ _ (g1.trans g2) (.cons (q1.mono g2) (q2.back g1))⟩⟩
noncomputable def kTup:List Ev→Option Ev:=fun rs=>if rs.length≤1000 then (if rs.all Ev.ok then some (.cl (.tup (rs.map Ev.d))) else some (.tm (.tup (rs.map Ev.d)))) else none
def dT1 (k:List Ev→Option Ev) (g:DA):DE:=fun t=>(g t).bind k
theorem RepEvs.length {K:zax7}{F A:List Addr}{H H':Hp}:∀ {rs:List Ev}{vs:List V},RepEvs K F A H H' rs vs→vs.length=rs.length
 |_,_,.nil=>rfl
 |_,_,.cons _ r=>by simp [RepEvs.length r]
theorem zl6 {n:Nat} (h:n≤100000):n≤sizeLine:=zaz4 h (by rw [sizeLine_eq];decide)
theorem zc5 {H:Hp}{p:Addr}{o:HO} (h:H p=none):Same H (upd H p o):=fun b u e=>by rw [zb3 (fun z=>by rw [z,h]at e;cases e)];exact e
theorem zr2 {x1} (h:PA X es (dA X.K F g)):PE X (.Tuple es x1 pos) (dE X.K F (dT1 kTup g)):=by
 refine PE.imp (pe_tup h) ?_
 rintro σ H Q ⟨A,t,r,R,e,h⟩
 unfold dT1 at e
 cases e1:g t with
 |none=>rw [e1]at e;cases e
 |some rs =>
  rw [e1]at e
  have e:kTup rs=some r:=e
  unfold kTup at e
  split at e
  case isFalse=>cases e
  rename_i hl
  refine⟨A,t,rs,R,e1,fun vs H1 g1 q1=>⟨by rw [q1.length];exact zl6 (by lia),fun p hp=>?_⟩⟩
  have s1:=zc5 (o:=HO.tup vs) hp
  refine h _ _ (g1.trans s1) ?_
  have np:p∉A++F:=zc6 (R.mu.mono g1) hp
  split at e
  ·rename_i c
   cases e
   exact .tup (SqT.of (zb9 za9 np)) (Reps.mono (za8 s1) (q1.clean R.mu g1 c))
  ·cases e
   exact .tup (SqT.of (zb9 za9 fun z=>np (zax6 _ z))) (Reps.mono (za8 s1) (q1.cleanF R.mu))
def kLst:List Ev→Option Ev:=fun rs=>if rs.length≤1000∧rs.all Ev.ok then some (.nw (rs.map Ev.d)) else none
theorem zh2 {P:List Addr}{H:Hp}{p:Addr}{o:HO} (h:H p=none):Same (hide P H) (hide (p::P) (upd H p o)):=fun b u e=>by
 obtain⟨n,e⟩:=zh9 e
 have nb:b≠p:=fun z=>by rw [z,h]at e;cases e
 refine zb9 (by rw [zb3 nb];exact e) fun z=>?_
 rcases zay5.mp z with z | z
 ·exact nb z
 ·exact n z
theorem zh8 (h:PA X es (dA X.K F g)):PE X (.List es pos) (dE X.K F (dT1 kLst g)):=by
 refine PE.imp (pe_lst h) ?_
 rintro σ H Q ⟨A,t,r,R,e,h⟩
 unfold dT1 at e
 cases e1:g t with
 |none=>rw [e1]at e;cases e
 |some rs =>
  rw [e1]at e
  have e:kLst rs=some r:=e
  unfold kLst at e
  split at e
  case isFalse=>cases e
  rename_i hl
  cases e
  refine⟨A,t,rs,R,e1,fun vs H1 g1 q1=>⟨by rw [q1.length];exact zl6 (by lia),fun p hp=>?_⟩⟩
  have s1:=zc5 (o:=HO.lst vs) hp
  refine h _ _ (g1.trans s1) ⟨p,vs,rfl,?_,za9,Reps.mono (zh2 hp) (q1.clean R.mu g1 hl.2)⟩
  exact Same.free g1 hp
noncomputable def spD (K:zax7) (G:List D→Option Ev):Sp:=fun vs H Q _ => ∃Fo ds r,Lists H Fo∧Reps K (hide Fo H) ds vs∧G ds=some r∧∀v H',Same H H'→RepEv K Fo [] H H' r v→Q v H'
noncomputable def upEv (ok:Bool) (r:Ev):Ev:=if ok then (match r with
  |.cl d=>.cl d
  |.tm d=>.cl d
  |.nw xs=>.nw xs
  |.dn d=>.dn d) else match r with
  |.cl d=>if flat d then .cl d else .tm d
  |.tm d=>if flat d then .cl d else .tm d
  |.nw xs=>if flats xs then .nw xs else .tm (.lst xs)
  |.dn d=>.dn d
def zd3 (G:List D→Option Ev):List Ev→Option Ev:=fun rs=>(G (rs.map Ev.d)).map (upEv (rs.all Ev.ok))
theorem zaw4 {K:zax7}{A:List Addr}{G:List D→Option Ev}{H0 H:Hp}{rs:List Ev}{r:Ev}{vs:List V}{Q:VK}{E:XK} (m:Lists H0 (A++F)) (g:Same H0 H) (q:RepEvs K F A H0 H rs vs) (e:zd3 G rs=some r)
  (h:∀v H',Same H H'→RepEv K F A H0 H' r v→Q v H'):spD K G vs H Q E:=by
 unfold zd3 at e
 cases e1:G (rs.map Ev.d) with
 |none=>rw [e1]at e;cases e
 |some r0 =>
  rw [e1]at e
  have e:upEv (rs.all Ev.ok) r0=r:=by simpa using e
  have mH:=m.mono g
  by_cases c:rs.all Ev.ok=true
  ·refine⟨A++F,rs.map Ev.d,r0,mH,q.clean m g c,e1,fun v H' g' w=>h v H' g' ?_⟩
   rw [c]at e
   subst e
   cases r0 with
   |cl d=>exact w
   |tm d=>exact w
   |nw xs =>
    obtain⟨p,us,rfl,h1,h2,h3⟩:=w
    exact⟨p,us,rfl,Same.free g h1,h2,h3⟩
   |dn d =>
    obtain⟨B,h1,h2,h3⟩:=w
    exact⟨B,h1,fun b hb=>Same.free g (h2 b hb),h3⟩
  ·refine⟨F,rs.map Ev.d,r0,fun p hp=>mH p (zax6 _ hp),q.cleanF m,e1,fun v H' g' w=>h v H' g' ?_⟩
   have c:rs.all Ev.ok=false:=by simpa using c
   rw [c]at e
   subst e
   have m':=mH.mono g'
   cases r0 with
   |cl d =>
    show RepEv K F A H0 H' (if flat d then .cl d else .tm d) v
    split
    ·rename_i f;exact Rep.hid m' f (Rep.mono (zb6 _ _) w)
    ·exact w
   |tm d =>
    show RepEv K F A H0 H' (if flat d then .cl d else .tm d) v
    split
    ·rename_i f;exact Rep.hid m' f (Rep.mono (zb6 _ _) w)
    ·exact w
   |nw xs =>
    obtain⟨p,us,rfl,h1,h2,h3⟩:=w
    have np:p∉A++F:=zc6 mH h1
    show RepEv K F A H0 H' (if flats xs then .nw xs else .tm (.lst xs)) _
    split
    ·rename_i f
     refine⟨p,us,rfl,Same.free g h1,h2,Reps.hid (P:=p ::(A++F)) (fun b hb=>?_) f (Reps.mono (zb6 _ _) h3)⟩
     rcases zay5.mp hb with rfl | hb
     ·exact⟨mL us,h2⟩
     ·exact m' b hb
    ·exact .lst (SqL.of (zb9 h2 fun z=>np (zax6 _ z))) (Reps.mono (za7 H' fun b z=>zax9 _ z) h3)
   |dn d =>
    obtain⟨B,h1,h2,h3⟩:=w
    exact⟨B,h1,fun b hb=>Same.free g (h2 b hb),h3.hid (h3.lists.app m') (zb6 _ _)⟩
theorem ped_call {k:Nat}{f:Addr}{fd:FuncData}{ps:List Str}{G:List D→Option Ev}{x:Str}{p:Pos} (Fn:FnOk X.prog X.w X.K X.mg X.base CX0 k f fd ps (spD X.K G)) (hr:Room k X.A) (hg:Gl X x) (hm:X.mg x=some (.ref f)) (hk:zbc1 X.K (.ref f)=true)
  (hb:Binds X.K fd ps []) (ha:PA X (a::es) (dA X.K F g)) (hdb:(x ==("__debug__":Str))=false:=by decide) (he:zaz1 (a::es) X.env=(false,eval a X.env)::zaz1 es X.env:=by rfl)
  (hpl:(zbd7 pos (zaz1 es X.env)).any (·.1)=false:=by rfl):PE X (.Call (.Name x p) (a::es) [] pos) (dE X.K F (dT1 (zd3 G) g)):=by
 refine PE.imp (pe_call Fn hr hg hm hk hb .nil (E:=E0) pass0 ha hdb he hpl) ?_
 rintro σ H Q ⟨A,t,r,R,e,h⟩
 unfold dT1 at e
 cases e1:g t with
 |none=>rw [e1]at e;cases e
 |some rs =>
  rw [e1]at e
  refine⟨A,t,rs,R,e1,fun vs H1 g1 q1=>?_⟩
  show spD X.K G (vs++[]) H1 Q E0
  rw [zbf9]
  exact zaw4 R.mu g1 q1 e fun v H' g' w=>h v H' (g1.trans g') w
noncomputable def CallD (X:Cx) (F:List Addr) (f:Value) (k:List Ev→Option Ev):Prop :=
 ∀(pins:List (Addr×Obj)) (s:zaz0) (σ:L2.St) (H0 H:Hp) (A:List Addr) (xs:List V) (us:List Value) (Q:VK) (rs:List Ev) (r:Ev),Inv X pins σ H s→Lists H0 (A++F)→Same H0 H→Vals xs us→RepEvs X.K F A H0 H rs xs→k rs=some r →
  (∀z H',Same H H'→RepEv X.K F A H0 H' r z→Q z H')→wpAny (model X.prog X.w) X.A (call f us) (EP X pins σ Q) X.xe s
theorem PA.run (ha:PA X es (dA X.K F g)) {k:List Ev→Option Ev}{f:Value} (hc:CallD X F f k) {pins:List (Addr×Obj)}{s:zaz0}{σ:L2.St}{H:Hp}{Q:VK} (p:Pos) (I:Inv X pins σ H s) (h:dE X.K F (dT1 k g) σ H Q) :
  wpAny (model X.prog X.w) X.A (spliced (zbd7 p (zaz1 es X.env))) (fun us s1=>wpAny (model X.prog X.w) X.A (call f us) (EP X pins σ Q) X.xe s1) X.xe s:=by
 obtain⟨A,t,r,R,e,h⟩:=h
 unfold dT1 at e
 cases e1:g t with
 |none=>rw [e1]at e;cases e
 |some rs =>
  rw [e1]at e
  refine thn (ha p pins s σ H (fun vs H1=>Same H H1∧RepEvs X.K F A H H1 rs vs) I ⟨A,t,rs,R,e1,fun vs H1 g1 q1=>⟨g1,q1⟩⟩) fun us s1 ⟨vs,H1,I1,r1,g1,q1⟩=>?_
  exact hc pins s1 σ H H1 A vs us Q rs r I1 R.mu g1 r1 q1 e fun z H' g'=>h z H' (g1.trans g')
theorem zc0 {k:List Ev→Option Ev}{x:Str}{p:Pos}{id:String} (hc:CallD X F (.builtin id) k) (hg:Gl X x) (hm:X.mg x=none) (hv:bootBuiltins x=some (.builtin id)) (ha:PA X (a::es) (dA X.K F g)) (hn:x≠"__name__":=by decide) (hdb:(x ==("__debug__":Str))=false:=by decide)
  (he:zaz1 (a::es) X.env=(false,eval a X.env)::zaz1 es X.env:=by rfl) (hpl:(zbd7 pos (zaz1 es X.env)).any (·.1)=false:=by rfl):PE X (.Call (.Name x p) (a::es) [] pos) (dE X.K F (dT1 k g)):=by
 intro pins s σ H Q I h
 refine wpAny_Call_Name_kw (zo3 I hg hm hv ?_ hn hdb)
 exact PyProof.Rows.callWith_builtin1 (PA.run ha hc pos I h) he hpl
theorem zac0 {k:List Ev→Option Ev}{x:Str}{p:Pos}{T:String} (hc:CallD X F (.type T) k) (hg:Gl X x) (hm:X.mg x=none) (hv:bootBuiltins x=some (.type T)) (ha:PA X (a::es) (dA X.K F g)) (hn:x≠"__name__":=by decide) (hdb:(x ==("__debug__":Str))=false:=by decide)
  (he:zaz1 (a::es) X.env=(false,eval a X.env)::zaz1 es X.env:=by rfl) (hpl:(zbd7 pos (zaz1 es X.env)).any (·.1)=false:=by rfl):PE X (.Call (.Name x p) (a::es) [] pos) (dE X.K F (dT1 k g)):=by
 intro pins s σ H Q I h
 refine wpAny_Call_Name_kw (zo3 I hg hm hv ?_ hn hdb)
 exact PyProof.Rows.callWith_type1 (PA.run ha hc pos I h) he hpl
theorem CallD.of {f:Value}{r:List V→Hp→VK→Prop}{k:List Ev→Option Ev} (h:zn1 X f r)
  (i:∀(H0 H:Hp) (A:List Addr) (xs:List V) (rs:List Ev) (e:Ev) (Q:VK),Lists H0 (A++F)→Same H0 H→RepEvs X.K F A H0 H rs xs→k rs=some e→(∀z H',Same H H'→RepEv X.K F A H0 H' e z→Q z H')→r xs H Q):CallD X F f k :=
 fun pins s σ H0 H A xs us Q rs e I m g v q ek hq=>h pins s σ H xs us Q I v (i H0 H A xs rs e Q m g q ek hq)
noncomputable def kAbs:List Ev→Option Ev:=fun rs=>match rs with
 |[r]=>(match r.d with
  |.int i=>some (.cl (.int (if i<0 then -i else i)))
  |_=>none)
 |_=>none
theorem cd_abs:CallD X F (.builtin "abs") kAbs:=CallD.of call_abs fun H0 H A xs rs e Q m g q ek hq=>by
 unfold kAbs at ek
 split at ek
 ·rename_i r
  split at ek
  ·rename_i i z
   cases ek
   cases q with
   |cons q1 q2 =>
    cases q2
    have p:=q1.full
    rw [z]at p
    cases ze1 p
    exact⟨i,rfl,hq _ H (Same.refl H) (.int _)⟩
  ·cases ek
 ·cases ek
noncomputable def kLen:List Ev→Option Ev:=fun rs=>match rs with
 |[r]=>(match r.d with
  |.lst xs=>some (.cl (.int xs.length))
  |.tup xs=>some (.cl (.int xs.length))
  |_=>none)
 |_=>none
theorem zk7:CallD X F (.builtin "len") kLen:=CallD.of zaf0 fun H0 H A xs rs e Q m g q ek hq=>by
 unfold kLen at ek
 split at ek
 ·rename_i r
  cases q with
  |cons q1 q2 =>
   cases q2
   have p:=q1.full
   split at ek
   ·rename_i ds z
    cases ek
    rw [z]at p
    cases p with
    |lst h1 h2=>exact⟨_,_,rfl,.inl h1,by rw [h2.length];exact hq _ H (Same.refl H) (.int _)⟩
   ·rename_i ds z
    cases ek
    rw [z]at p
    cases p with
    |tup h1 h2=>exact⟨_,_,rfl,.inr h1,by rw [h2.length];exact hq _ H (Same.refl H) (.int _)⟩
   ·cases ek
 ·cases ek
end
end DL
namespace DL
open PySem.Spec L2
abbrev DT:=Th→Option Bool
def dT (K:zax7) (F:List Addr) (f:DT):TT:=fun σ H Q => ∃A t b,RS K F H A t σ∧f t=some b∧∀H',Same H H'→Q b H'
theorem PT.imp {X:Cx}{e:Expr}{t t':TT} (h:PT X e t) (i:∀σ H Q,t' σ H Q→t σ H Q):PT X e t':=fun pins s σ H Q I q=>h pins s σ H Q I (i σ H Q q)
theorem PW.imp {X:Cx}{e:Expr}{t t':TT} (h:PW X e t) (i:∀σ H Q,t' σ H Q→t σ H Q):PW X e t':=fun w pins s σ H Q I q=>h w pins s σ H Q I (i σ H Q q)
noncomputable def truD:D→Option Bool
 |.non=>some false
 |.bl b=>some b
 |.int i=>some (i != 0)
 |.tup xs=>some (!xs.isEmpty)
 |.lst xs=>some (!xs.isEmpty)
 |.dct ks _=>some (!ks.isEmpty)
 |.pdc _=>none
 |.str y=>if y.length≤100000 then some ((y.length:Int) != 0) else none
theorem zo9 {α β:Type}{xs:List α}{ys:List β} (h:xs.length=ys.length):xs.isEmpty=ys.isEmpty:=by
 cases xs<;>cases ys<;>simp_all
theorem zao3 {K:zax7}{H:Hp}{d:D}{v:V}{b:Bool} (r:Rep K H d v) (e:truD d=some b):TruV K v H b:=by
 cases r with
 |non=>cases e;rfl
 |bl b=>cases e;rfl
 |int i=>cases e;rfl
 |str x =>
  simp only [truD]at e
  split at e
  ·cases e;exact⟨zl6 (by assumption),rfl⟩
  ·cases e
 |tup h1 h2=>cases e;exact .inr (.inl ⟨_,h1,by rw [zo9 h2.length]⟩)
 |lst h1 h2=>cases e;exact .inl ⟨_,h1,by rw [zo9 h2.length]⟩
 |@dct ks ds p vs l h1 h2 =>
  cases e
  have e1:(mkKV ks vs).length=ks.length:=by unfold mkKV;rw [zbg1];lia
  exact .inr (.inr ⟨_,h1,by rw [zo9 e1]⟩)
 |pdc h=>cases e
def dTr (f:DE):DT:=fun t=>(f t).bind fun r=>truD r.d
def dBo (f:DE):DT:=fun t=>(f t).bind fun r=>match r.d with
 |.bl b=>some b
 |_=>none
def dOr (f g:DT):DT:=fun t=>(f t).bind fun b=>if b then some true else g t
def dNot (f:DT):DT:=fun t=>(f t).bind fun b=>some (!b)
section
variable {X:Cx}{F:List Addr}{a b c:Expr}{es:List Expr}{fa fb fc:DE}{g g':DA}{ft fu:DT}{pos:Pos}{rest:List Expr}
theorem zm3 (ha:PE X a (dE X.K F fa)) (he:∀whole,isTrue a X.env whole=(do let v ← whole;standAt a.pos;holding [v] (truthy v)):=by intro _;rfl):PT X a (dT X.K F (dTr fa)):=by
 refine PT.imp (pt_truth ha he) ?_
 rintro σ H Q ⟨A,t,r,R,e,h⟩
 unfold dTr at e
 cases e1:fa t with
 |none=>rw [e1]at e;cases e
 |some r1 =>
  rw [e1]at e
  exact⟨A,t,r1,R,e1,fun v H' g' q=>⟨r,zao3 q.full e,h H' g'⟩⟩
theorem zd8 {op:CmpOp}{k:Ev→Ev→Option Ev} (ho:OpD X F (compareOp op) k) (ha:PE X a (dE X.K F fa)) (hb:PE X b (dE X.K F fb)) (hm:behindInMarks op b=false:=by first | exact nomark _ | (with_unfolding_all rfl)) :
  PT X (.Compare a [op] [b] pos) (dT X.K F (dBo (d2 k fa fb))):=by
 intro pins s σ H Q I h
 obtain⟨A,t,b',R,e,h⟩:=h
 unfold dBo at e
 cases e1:d2 k fa fb t with
 |none=>rw [e1]at e;cases e
 |some r0 =>
  rw [e1]at e
  have w0:dE X.K F (d2 k fa fb) σ H (fun z H'=>Same H H'∧Rep X.K H' r0.d z):=⟨A,t,r0,R,e1,fun v H' g q=>⟨g,q.full⟩⟩
  obtain⟨A2,t2,r1,r2,r,R2,e1',e2',e3,h3,w⟩:=two w0
  refine wpAny_isTrue_Compare1 (bin ha hb I w fun v u s2 x y H2 I2 rx ry q=>?_) hm
  obtain⟨g,q1,q2⟩:=q
  refine thn (ho pins s2 σ H H2 A2 x y v u (fun z H'=>Same H H'∧Rep X.K H' r0.d z) r1 r2 r I2 R2.mu g rx ry q1 q2 e3 fun z H' g'=>h3 z H' (g.trans g')) fun cc s3 ⟨z,H3,I3,r3,g3,q3⟩=>?_
  have e:(match r0.d with | .bl b=>some b | _=>none)=some b':=e
  split at e
  ·rename_i b2 z2
   cases e
   rw [z2]at q3
   cases q3
   cases r3
   exact wpAny_truthy_bool ⟨H3,I3,h H3 g3⟩
  ·cases e
theorem zu2 (ha:PT X a (dT X.K F ft)):PW X (.BoolOp .Or [a] pos) (dT X.K F ft):=pw_or1 ha
theorem zu3 (ha:PT X a (dT X.K F ft)) (hb:PW X (.BoolOp .Or (b::rest) pos) (dT X.K F fu)):PW X (.BoolOp .Or (a::b::rest) pos) (dT X.K F (dOr ft fu)):=by
 refine PW.imp (pw_or ha hb) ?_
 rintro σ H Q ⟨A,t,r,R,e,h⟩
 unfold dOr at e
 cases e1:ft t with
 |none=>rw [e1]at e;cases e
 |some r1 =>
  rw [e1]at e
  refine⟨A,t,r1,R,e1,fun H1 g1=>?_⟩
  cases r1 with
  |true=>cases e;exact h H1 g1
  |false=>exact⟨A,t,r,R.grow g1,e,fun H2 g2=>h H2 (g1.trans g2)⟩
theorem zr0 (ha:PT X a (dT X.K F ft)):PT X (.UnaryOp .Not a pos) (dT X.K F (dNot ft)):=by
 refine PT.imp (pt_not ha) ?_
 rintro σ H Q ⟨A,t,r,R,e,h⟩
 unfold dNot at e
 cases e1:ft t with
 |none=>rw [e1]at e;cases e
 |some r1 =>
  rw [e1]at e
  cases e
  exact⟨A,t,r1,R,e1,fun H1 g1=>h H1 g1⟩
def zan8 (f g:DE):DE:=fun t=>(f t).bind fun r=>match r.d with
 |.bl b=>if b then g t else some (.cl (.bl false))
 |_=>none
theorem zaq7 {op} (h:PE X a (dE X.K F fa)):PE X (.BoolOp op [a] pos) (dE X.K F fa):=pe_one h
theorem zar3 (ha:PE X a (dE X.K F fa)) (hb:PE X (.BoolOp .And (b::rest) pos) (dE X.K F fb)):PE X (.BoolOp .And (a::b::rest) pos) (dE X.K F (zan8 fa fb)):=by
 refine PE.imp (pe_and ha hb) ?_
 rintro σ H Q ⟨A,t,r,R,e,h⟩
 unfold zan8 at e
 cases e1:fa t with
 |none=>rw [e1]at e;cases e
 |some r1 =>
  rw [e1]at e
  refine⟨A,t,r1,R,e1,fun v H1 g1 q1=>?_⟩
  have p:=q1.full
  have e:(match r1.d with | .bl b=>if b then fb t else some (.cl (.bl false)) |_=>none)=some r:=e
  split at e
  ·rename_i b2 z
   rw [z]at p
   cases p
   refine⟨b2,rfl,?_⟩
   cases b2 with
   |true=>exact⟨A,t,r,R.grow g1,e,fun v2 H2 g2 q2=>h v2 H2 (g1.trans g2) (q2.back g1)⟩
   |false=>cases e;exact h _ H1 g1 (.bl false)
  ·cases e
end
inductive Out where
 |nx (t:Th) |rt (r:Ev) |bk (t:Th) |ct (t:Th)
abbrev DS:=Th→Option Out
def After (K:zax7) (F A:List Addr) (H:Hp) (N:L2.St→Hp→Prop) (t:Th):Prop := ∀σ' H' A',Gr A H A' H'→RS K F H' A' t σ'→N σ' H'
noncomputable def RetEv (K:zax7) (F A:List Addr) (H H':Hp):Ev→V→Prop
 |.cl d,v=>Rep K (hide F H') d v
 |.tm d,v=>Rep K (hide F H') d v
 |.nw xs,v => ∃p vs,v=.ref p∧(p∈A∨H p=none)∧p∉F∧H' p=some (.lst vs)∧Reps K (hide (p::F) H') xs vs
 |.dn d,v => ∃B,B.Nodup∧(∀b∈B,(b∈A∨H b=none)∧b∉F)∧RepD K (hide (B++F) H') H' d v B
def Back (K:zax7) (F A:List Addr) (H:Hp) (N:VK) (r:Ev):Prop := ∀v H' A',Gr A H A' H'→RetEv K F A H H' r v→N v H'
noncomputable def dS (K:zax7) (F:List Addr) (g:DS):TS:=fun E σ H => ∃A t o,RS K F H A t σ∧g t=some o∧match o with
 |.nx t'=>After K F A H E.nx t'
 |.bk t'=>After K F A H E.bk t'
 |.ct t'=>After K F A H E.ct t'
 |.rt r=>Back K F A H E.rt r
end DL
namespace DL
open PySem.Spec L2
theorem RetEv.back {K:zax7}{F A A1:List Addr}{H H1 H':Hp}{r:Ev}{v:V} (g:Gr A H A1 H1) (h:RetEv K F A1 H1 H' r v):RetEv K F A H H' r v:=by
 cases r with
 |cl d=>exact h
 |tm d=>exact h
 |nw xs =>
  obtain⟨p,vs,rfl,h1,h2,h3,h4⟩:=h
  refine⟨p,vs,rfl,?_,h2,h3,h4⟩
  rcases h1 with h1 | h1
  ·exact g.nw p h1
  ·by_cases z:p∈A
   ·exact .inl z
   ·refine .inr ?_
    cases w:H p with
    |none=>rfl
    |some o=>rw [g.kp p o z w]at h1;cases h1
 |dn d =>
  obtain⟨B,h0,h1,h2⟩:=h
  refine⟨B,h0,fun p hp=>⟨?_,(h1 p hp).2⟩,h2⟩
  rcases (h1 p hp).1 with h1 | h1
  ·exact g.nw p h1
  ·by_cases z:p∈A
   ·exact .inl z
   ·refine .inr ?_
    cases w:H p with
    |none=>rfl
    |some o=>rw [g.kp p o z w]at h1;cases h1
theorem After.back {K:zax7}{F A A1:List Addr}{H H1:Hp}{N:L2.St→Hp→Prop}{t:Th} (h:After K F A H N t) (g:Gr A H A1 H1):After K F A1 H1 N t:=fun σ' H' A' g' R=>h σ' H' A' (g.trans g') R
theorem Back.back {K:zax7}{F A A1:List Addr}{H H1:Hp}{N:VK}{r:Ev} (h:Back K F A H N r) (g:Gr A H A1 H1):Back K F A1 H1 N r:=fun v H' A' g' R=>h v H' A' (g.trans g') (R.back g)
theorem PS.imp {X:Cx}{e:Stmt}{t t':TS} (h:PS X e t) (i:∀E σ H,t' E σ H→t E σ H):PS X e t':=fun pins s σ H D I q=>h pins s σ H D I (i D σ H q)
theorem PSs.imp {X:Cx}{e:List Stmt}{t t':TS} (h:PSs X e t) (i:∀E σ H,t' E σ H→t E σ H):PSs X e t':=fun pins s σ H D I q=>h pins s σ H D I (i D σ H q)
theorem Lists.left {H:Hp}{A F:List Addr} (h:Lists H (A++F)):Lists H A:=fun p hp=>h p (zax8 _ hp)
def zi3:DS:=fun t=>some (.nx t)
noncomputable def dSeq (g1 g2:DS):DS:=fun t=>(g1 t).bind fun o=>match o with
 |.nx t'=>g2 t'
 |.rt r=>some (.rt r)
 |.bk t'=>some (.bk t')
 |.ct t'=>some (.ct t')
section
variable {X:Cx}{F:List Addr}{a b c:Expr}{es:List Expr}{fa fb fc:DE}{g g1 g2:DS}{ft fu:DT}{pos:Pos}{st:Stmt}{rest:List Stmt}
theorem zf8:PSs X [] (dS X.K F zi3):=PSs.imp pss_nil fun E σ H ⟨A,t,o,R,e,h⟩=>by cases e;exact h σ H A (Gr.refl R.mu.left) R
theorem za3 (h1:PS X st (dS X.K F g1)) (h2:PSs X rest (dS X.K F g2)):PSs X (st::rest) (dS X.K F (dSeq g1 g2)):=by
 refine PSs.imp (zs9 h1 h2) ?_
 rintro E σ H ⟨A,t,o,R,e,h⟩
 unfold dSeq at e
 cases e1:g1 t with
 |none=>rw [e1]at e;cases e
 |some o1 =>
  rw [e1]at e
  refine⟨A,t,o1,R,e1,?_⟩
  cases o1 with
  |nx t' =>
   intro σ' H' A' g' R'
   refine⟨A',t',o,R',e,?_⟩
   cases o with
   |nx t2=>exact After.back h g'
   |bk t2=>exact After.back h g'
   |ct t2=>exact After.back h g'
   |rt r=>exact Back.back h g'
  |rt r=>cases e;exact h
  |bk t2=>cases e;exact h
  |ct t2=>cases e;exact h
theorem zb4 (h1:PS X st (dS X.K F g1)):PSs X [st] (dS X.K F g1):=zap4 h1
def dIfS (c:DT) (g1 g2:DS):DS:=fun t=>(c t).bind fun b=>if b then g1 t else g2 t
theorem zj5 {s1 s2:List Stmt} (hc:PT X c (dT X.K F ft)) (ha:PSs X s1 (dS X.K F g1)) (hb:PSs X s2 (dS X.K F g2)):PS X (.If c s1 s2 pos) (dS X.K F (dIfS ft g1 g2)):=by
 refine PS.imp (ps_if hc ha hb) ?_
 rintro E σ H ⟨A,t,o,R,e,h⟩
 unfold dIfS at e
 cases e1:ft t with
 |none=>rw [e1]at e;cases e
 |some r1 =>
  rw [e1]at e
  refine⟨A,t,r1,R,e1,fun H1 gs=>?_⟩
  have gr:Gr A H A H1:=Gr.of_same R.mu.left gs
  cases r1 with
  |true =>
   refine⟨A,t,o,R.grow gs,e,?_⟩
   cases o with
   |nx t2=>exact After.back h gr
   |bk t2=>exact After.back h gr
   |ct t2=>exact After.back h gr
   |rt r=>exact Back.back h gr
  |false =>
   refine⟨A,t,o,R.grow gs,e,?_⟩
   cases o with
   |nx t2=>exact After.back h gr
   |bk t2=>exact After.back h gr
   |ct t2=>exact After.back h gr
   |rt r=>exact Back.back h gr
def dRet (f:DE):DS:=fun t=>(f t).bind fun r=>some (.rt r)
theorem RetEv.of {K:zax7}{F A:List Addr}{H H':Hp}{r:Ev}{v:V} (m:Lists H (A++F)) (h:RepEv K F A H H' r v):RetEv K F A H H' r v:=by
 cases r with
 |cl d=>exact Rep.mono (za7 H' fun a z=>zax6 _ z) h
 |tm d=>exact h
 |nw xs =>
  obtain⟨p,vs,rfl,h1,h2,h3⟩:=h
  have np:p∉A++F:=zc6 m h1
  refine⟨p,vs,rfl,.inr h1,fun z=>np (zax6 _ z),h2,Reps.mono (za7 H' fun a z=>?_) h3⟩
  rcases zay5.mp z with z | z
  ·rw [z];exact zay1 ..
  ·exact zax9 _ (zax6 _ z)
 |dn d =>
  obtain⟨B,h1,h2,h3⟩:=h
  refine⟨B,h1,fun b hb=>⟨.inr (h2 b hb),fun z=>zc6 m (h2 b hb) (zax6 _ z)⟩,RepD.mono (za7 H' fun a z=>?_) h3 fun _ _ _ q=>q⟩
  rcases zay0.mp z with z | z
  ·exact zax8 _ z
  ·exact zax6 _ (zax6 _ z)
theorem zd0 (ha:PE X a (dE X.K F fa)):PS X (.Return (some a) pos) (dS X.K F (dRet fa)):=by
 refine PS.imp (zap9 ha) ?_
 rintro E σ H ⟨A,t,o,R,e,h⟩
 unfold dRet at e
 cases e1:fa t with
 |none=>rw [e1]at e;cases e
 |some r1 =>
  rw [e1]at e
  cases e
  exact⟨A,t,r1,R,e1,fun v H' gs q=>h v H' A (Gr.of_same R.mu.left gs) (RetEv.of R.mu q)⟩
noncomputable def dRetO (i:Nat):DS:=fun t=>match t[i]? with
 |some (.own xs)=>some (.rt (.nw xs))
 |some (.val d)=>some (.rt (.cl d))
 |some (.dp d)=>some (.rt (.dn d))
 |_=>none
theorem psd_retO (i:Nat) {x:Str}{pos':Pos} (hN:X.N[i]?=some x:=by rfl) (hv:Vis X.env.scope x:=by first | exact Or.inl rfl | exact Or.inr (Or.inl rfl) |exact Or.inr (Or.inr rfl)) (hd:(x ==("__debug__":Str))=false:=by decide)
  (hcd:(x ==("__classdict__":Str))=false:=by decide):PS X (.Return (some (.Name x pos')) pos) (dS X.K F (dRetO i)):=by
 refine PS.imp (zap9 (zo1 (i:=i) hN hv hd hcd)) ?_
 rintro E σ H ⟨A,t,o,R,e,h⟩
 unfold dRetO at e
 split at e
 ·rename_i ds q
  cases e
  obtain⟨p,vs,h1,h2,h3,h4⟩:=R.rel.getOwn q
  refine⟨_,h1,h _ H A (Gr.refl R.mu.left) ⟨p,vs,rfl,.inl h2,R.dj p h2,h3,Reps.mono (za7 H fun a z=>?_) h4⟩⟩
  rcases zay5.mp z with z | z
  ·rw [z];exact zax8 _ h2
  ·exact zax6 _ z
 ·rename_i d q
  cases e
  obtain⟨v,h1,h2⟩:=R.rel.getVal q
  exact⟨v,h1,h v H A (Gr.refl R.mu.left) (Rep.mono (za7 H fun a z=>zax6 _ z) h2)⟩
 ·rename_i d q
  cases e
  obtain⟨v,B,h1,h2,h0,h3⟩:=R.rel.getDp R.nd q
  refine⟨v,h1,h v H A (Gr.refl R.mu.left) ⟨B,h0,fun b hb=>⟨.inl (h2 b hb),R.dj b (h2 b hb)⟩,RepD.mono (za7 H fun a z=>?_) h3 fun _ _ _ q=>q⟩⟩
  rcases zay0.mp z with z | z
  ·exact zax8 _ (h2 a z)
  ·exact zax6 _ z
 ·cases e
end
theorem RSl.setVal {K:zax7}{H0 H:Hp}{d:D}{v:V} (h:Rep K H0 d v):∀ {t:Th}{σ:L2.St}{A:List Addr} (i:Nat),RSl K H0 H t σ A→i<t.length→∃A',RSl K H0 H (t.set i (.val d)) (σ.set i (some v)) A'∧List.Sublist A' A
 |_,_,_,_,.nil,l=>by simp at l
 |_,_,_,0,.no r,_=>⟨_,.val h r,List.Sublist.refl _⟩
 |_,_,_,0,.val _ r,_=>⟨_,.val h r,List.Sublist.refl _⟩
 |_,_,_,0,.own _ _ r,_=>⟨_,.val h r,zbh6 _ _⟩
 |_,_,_,0,.dp _ r,_=>⟨_,.val h r,zbg6 _ _⟩
 |_,_,_,i+1,.no r,l=>let ⟨A',a,b⟩:=RSl.setVal h i r (by simpa using l);⟨A',.no a,b⟩
 |_,_,_,i+1,.val q r,l=>let ⟨A',a,b⟩:=RSl.setVal h i r (by simpa using l);⟨A',.val q a,b⟩
 |_,_,_,i+1,.own q1 q2 r,l=>let ⟨A',a,b⟩:=RSl.setVal h i r (by simpa using l);⟨_,.own q1 q2 a,b.cons₂ _⟩
 |_,_,_,i+1,.dp q r,l=>let ⟨A',a,b⟩:=RSl.setVal h i r (by simpa using l);⟨_,.dp q a,List.Sublist.append (List.Sublist.refl _) b⟩
theorem RSl.setAny {K:zax7}{H0 H:Hp}{s:Sl}{v:V}{B:List Addr} (h:∀ {t:Th}{σ:L2.St}{A:List Addr},RSl K H0 H t σ A→RSl K H0 H (s::t) (some v::σ) (B++A)):∀ {t:Th}{σ:L2.St}{A:List Addr} (i:Nat),RSl K H0 H t σ A→i<t.length →
  ∃A',RSl K H0 H (t.set i s) (σ.set i (some v)) A'∧(∀x∈A',x∈B∨x∈A)∧(A.Nodup→B.Nodup→(∀b∈B,b∉A)→A'.Nodup)
 |_,_,_,_,.nil,l=>by simp at l
 |_,_,A,0,.no r,_=>⟨_,h r,fun x hx=>zay0.mp hx,fun n1 n2 d=>zay9.mpr ⟨n2,n1,fun a ha b hb e=>d a ha (e ▸ hb)⟩⟩
 |_,_,A,0,.val _ r,_=>⟨_,h r,fun x hx=>zay0.mp hx,fun n1 n2 d=>zay9.mpr ⟨n2,n1,fun a ha b hb e=>d a ha (e ▸ hb)⟩⟩
 |_,_,_,0,.own _ _ r,_=>⟨_,h r,fun x hx=>(zay0.mp hx).imp id (zax9 _),fun n1 n2 d=>zay9.mpr ⟨n2,(zaz8.mp n1).2,fun a ha b hb e=>d a ha (e ▸ zax9 _ hb)⟩⟩
 |_,_,_,0,.dp _ r,_=>⟨_,h r,fun x hx=>(zay0.mp hx).imp id (zax6 _),fun n1 n2 d=>zay9.mpr ⟨n2,(zay9.mp n1).2.1,fun a ha b hb e=>d a ha (e ▸ zax6 _ hb)⟩⟩
 |_,_,_,i+1,.no r,l=>let ⟨A',a,b,c⟩:=RSl.setAny h i r (by simpa using l);⟨A',.no a,b,c⟩
 |_,_,_,i+1,.val q r,l=>let ⟨A',a,b,c⟩:=RSl.setAny h i r (by simpa using l);⟨A',.val q a,b,c⟩
 |_,_,_,i+1,.own (p:=p2) q1 q2 r,l=>by
  obtain⟨A',a,b,c⟩:=RSl.setAny h i r (by simpa using l)
  refine⟨_,.own q1 q2 a,fun x hx=>?_,fun nd nb np=>?_⟩
  ·rcases zay5.mp hx with z | z
   ·exact .inr (z ▸ zay1 ..)
   ·exact (b x z).imp id (zax9 _)
  ·have n1:=zaz8.mp nd
   refine zaz8.mpr ⟨fun z=>?_,c n1.2 nb fun x hx z=>np x hx (zax9 _ z)⟩
   rcases b _ z with z | z
   ·exact np _ z (zay1 ..)
   ·exact n1.1 z
 |_,_,_,i+1,.dp (B:=C) q r,l=>by
  obtain⟨A',a,b,c⟩:=RSl.setAny h i r (by simpa using l)
  refine⟨_,.dp q a,fun x hx=>?_,fun nd nb np=>?_⟩
  ·rcases zay0.mp hx with z | z
   ·exact .inr (zax8 _ z)
   ·exact (b x z).imp id (zax6 _)
  ·have n1:=zay9.mp nd
   refine zay9.mpr ⟨n1.1,c n1.2.1 nb fun x hx z=>np x hx (zax6 _ z),fun x hx y hy e=>?_⟩
   subst e
   rcases b _ hy with z | z
   ·exact np _ z (zax8 _ hx)
   ·exact n1.2.2 _ hx _ z rfl
theorem RS.putAny {K:zax7}{F A:List Addr}{H H':Hp}{t:Th}{σ:L2.St}{i:Nat}{s:Sl}{v:V}{B:List Addr} (R:RS K F H A t σ) (g:Same H H') (fr:∀b∈B,H b=none) (nb:B.Nodup) (lb:Lists H' B)
  (mk:∀ {t:Th}{σ:L2.St}{A':List Addr},RSl K (hide (B++(A++F)) H') H' t σ A'→RSl K (hide (B++(A++F)) H') H' (s::t) (some v::σ) (B++A')) (hi:i<t.length) :
  ∃A',Gr A H A' H'∧RS K F H' A' (t.set i s) (σ.set i (some v)):=by
 have R':=R.grow g
 have np:∀b∈B,b∉A++F:=fun b hb=>zc6 R.mu (fr b hb)
 have r0:RSl K (hide (B++(A++F)) H') H' t σ A:=RSl.mono (fun b o h=>by
  obtain⟨n,h⟩:=zh9 h
  refine zb9 (g _ _ h) fun z=>?_
  rcases zay0.mp z with z | z
  ·rw [fr b z]at h;cases h
  ·exact n z) R.rel fun b _ o h=>g _ _ h
 obtain⟨A',r1,sub,nd⟩:=RSl.setAny mk i r0 hi
 refine⟨A',⟨fun b o _ h=>g b o h,fun b hb=>by obtain⟨ws,z⟩:=R.mu b (zax8 _ hb);rw [g _ _ z];simp,fun b hb=>?_⟩,?_,nd R.nd nb fun b hb z=>np b hb (zax8 _ z),fun b hb=>?_,?_⟩
 ·rcases sub b hb with z | z
  ·exact .inr (fr b z)
  ·exact .inl z
 ·intro b hb
  rcases zay0.mp hb with z | z
  ·rcases sub b z with z | z
   ·exact lb b z
   ·exact R'.mu b (zax8 _ z)
  ·exact R'.mu b (zax6 _ z)
 ·rcases sub b hb with z | z
  ·exact fun w=>np b z (zax6 _ w)
  ·exact R.dj b z
 ·refine RSl.mono (za7 H' fun b z=>?_) r1 fun _ _ _ h=>h
  rcases zay0.mp z with z | z
  ·rcases sub b z with z | z
   ·exact zax8 _ z
   ·exact zax6 _ (zax8 _ z)
  ·exact zax6 _ (zax6 _ z)
noncomputable def zm1 (t:Th) (i:Nat) (r:Ev):Option Th:=if i<t.length then (match r with
 |.cl d=>some (t.set i (.val d))
 |.tm d=>if flat d then some (t.set i (.val d)) else none
 |.nw xs=>some (t.set i (.own xs))
 |.dn d=>some (t.set i (.dp d))) else none
theorem RS.put {K:zax7}{F A:List Addr}{H H':Hp}{t t':Th}{σ:L2.St}{i:Nat}{r:Ev}{v:V} (R:RS K F H A t σ) (g:Same H H') (q:RepEv K F A H H' r v) (e:zm1 t i r=some t') :
  ∃A',Gr A H A' H'∧RS K F H' A' t' (σ.set i (some v)):=by
 have R':=R.grow g
 have val:∀d,Rep K (hide (A++F) H') d v→i<t.length→∃A',Gr A H A' H'∧RS K F H' A' (t.set i (.val d)) (σ.set i (some v)):=fun d hd hi=>by
  obtain⟨A',r1,sub⟩:=RSl.setVal hd i R'.rel hi
  have sub':∀x∈A',x∈A:=fun x hx=>sub.subset hx
  refine⟨A',⟨fun b o _ h=>g b o h,fun b hb=>by obtain⟨vs,z⟩:=R.mu b (zax8 _ hb);rw [g _ _ z];simp,fun b hb=>.inl (sub' b hb)⟩,?_,R.nd.sublist sub,fun p hp=>R.dj p (sub' p hp),?_⟩
  ·intro p hp
   rcases zay0.mp hp with z | z
   ·exact R'.mu p (zax8 _ (sub' p z))
   ·exact R'.mu p (zax6 _ z)
  ·refine RSl.mono (za7 H' fun a z=>?_) r1 fun _ _ _ h=>h
   rcases zay0.mp z with z | z
   ·exact zax8 _ (sub' a z)
   ·exact zax6 _ z
 unfold zm1 at e
 split at e
 case isFalse=>cases e
 rename_i hi
 cases r with
 |cl d=>cases e;exact val d q hi
 |tm d =>
  simp only at e
  split at e
  ·rename_i f
   cases e
   exact val d (Rep.hid R'.mu f (Rep.mono (zb6 _ _) q)) hi
  ·cases e
 |nw xs =>
  cases e
  obtain⟨p,vs,rfl,h1,h2,h3⟩:=q
  exact R.putAny (B:=[p]) g (fun b hb=>by simp at hb;subst hb;exact h1) (by simp) (fun b hb=>by simp at hb;subst hb;exact⟨mL vs,h2⟩) (fun r=>.own h2 h3 r) hi
 |dn d =>
  cases e
  obtain⟨B,h1,h2,h3⟩:=q
  exact R.putAny (B:=B) g h2 h1 h3.lists (fun r=>.dp h3 r) hi
section
variable {X:Cx}{F:List Addr}{a b c:Expr}{es:List Expr}{fa fb fc:DE}{g g1 g2:DS}{ft fu:DT}{pos:Pos}{st:Stmt}{rest:List Stmt}
def dAsg (i:Nat) (f:DE):DS:=fun t=>(f t).bind fun r=>(zm1 t i r).map Out.nx
theorem zc4 {i:Nat}{x:Str}{pos':Pos} (hN:X.N.Nodup) (hi:X.N[i]?=some x) (hx:Loc X.env.scope x) (he:PE X a (dE X.K F fa)) (hs:swapsWith a (some (.Name x pos')) pos.line X.env=pure false:=by rfl) (hf:X.fn x=true∨X.env.scope.names.lookup x=some .local:=by first | exact .inl rfl | exact .inr rfl | assumption) :
  PS X (.Assign [.Name x pos'] a pos) (dS X.K F (dAsg i fa)):=by
 refine PS.imp (ps_set hN hi hx he hs hf) ?_
 rintro E σ H ⟨A,t,o,R,e,h⟩
 unfold dAsg at e
 cases e1:fa t with
 |none=>rw [e1]at e;cases e
 |some r1 =>
  rw [e1]at e
  have e:(zm1 t i r1).map Out.nx=some o:=e
  cases e2:zm1 t i r1 with
  |none=>rw [e2]at e;cases e
  |some t' =>
   rw [e2]at e
   cases e
   refine⟨A,t,r1,R,e1,fun v H' gs q=>?_⟩
   obtain⟨A',g',R'⟩:=R.put gs q e2
   exact h _ _ _ g' R'
def dDrop (f:DE):DS:=fun t=>(f t).bind fun _=>some (.nx t)
theorem psd_expr (he:PE X a (dE X.K F fa)) (hs:swapsWith a none pos.line X.env=pure false:=by rfl):PS X (.Expr a pos) (dS X.K F (dDrop fa)):=by
 refine PS.imp (zm4 he hs) ?_
 rintro E σ H ⟨A,t,o,R,e,h⟩
 unfold dDrop at e
 cases e1:fa t with
 |none=>rw [e1]at e;cases e
 |some r1 =>
  rw [e1]at e
  cases e
  exact⟨A,t,r1,R,e1,fun v H' gs q=>h σ H' A (Gr.of_same R.mu.left gs) (R.grow gs)⟩
end
end DL
namespace DL
open PySem.Spec L2
noncomputable def TgOk (K:zax7) (F:List Addr) (g:TG) (k:D→Th→Option Th):Prop :=
 ∀σ H A t t' d x (Q:L2.St→Hp→Prop),RS K F H A t σ→Rep K (hide (A++F) H) d x→k d t=some t'→(∀σ2 A2,Gr A H A2 H→RS K F H A2 t' σ2→Q σ2 H)→g x σ H Q
noncomputable def zax4 (K:zax7) (F:List Addr) (g:TGs) (k:List D→Th→Option Th):Prop :=
 ∀σ H A t t' ds xs (Q:L2.St→Hp→Prop),RS K F H A t σ→Reps K (hide (A++F) H) ds xs→k ds t=some t'→(∀σ2 A2,Gr A H A2 H→RS K F H A2 t' σ2→Q σ2 H)→g xs σ H Q
def za6 (i:Nat):D→Th→Option Th:=fun d t=>zm1 t i (.cl d)
def zai4:List D→Th→Option Th:=fun ds t=>match ds with
 |[]=>some t
 |_=>none
noncomputable def zj8 (k:D→Th→Option Th) (k':List D→Th→Option Th):List D→Th→Option Th:=fun ds t=>match ds with
 |d::r=>(k d t).bind (k' r)
 |[]=>none
noncomputable def zai3 (n:Nat) (k:List D→Th→Option Th):D→Th→Option Th:=fun d t=>match d with
 |.tup ds=>if ds.length=n then k ds t else none
 |_=>none
theorem zc2 {K:zax7}{F:List Addr} (i:Nat):TgOk K F (zau5 i) (za6 i):=by
 intro σ H A t t' d x Q R r e h
 obtain⟨A',g,R'⟩:=R.put (i:=i) (r:=.cl d) (Same.refl H) r e
 exact h _ _ g R'
theorem zy3 {K:zax7}{F:List Addr}:zax4 K F gNil zai4:=by
 intro σ H A t t' ds xs Q R r e h
 cases r with
 |nil=>cases e;exact⟨rfl,h σ A (Gr.refl R.mu.left) R⟩
 |cons _ _=>cases e
theorem zj4 {K:zax7}{F:List Addr}{g:TG}{g':TGs}{k:D→Th→Option Th}{k':List D→Th→Option Th} (h1:TgOk K F g k) (h2:zax4 K F g' k'):zax4 K F (gCons g g') (zj8 k k'):=by
 intro σ H A t t' ds xs Q R r e h
 cases r with
 |nil=>cases e
 |@cons d v ds vs r1 r2 =>
  unfold zj8 at e
  cases e1:k d t with
  |none=>simp only [e1]at e;cases e
  |some t1 =>
   simp only [e1]at e
   refine⟨v,vs,rfl,h1 σ H A t t1 d v _ R r1 e1 fun σ2 A2 g2 R2=>?_⟩
   exact h2 σ2 H A2 t1 t' ds vs Q R2 (Reps.mono g2.same r2) e fun σ3 A3 g3 R3=>h σ3 A3 (g2.trans g3) R3
theorem zao5 {K:zax7}{F:List Addr}{n:Nat}{g':TGs}{k':List D→Th→Option Th} (h2:zax4 K F g' k'):TgOk K F (gTup K n g') (zai3 n k'):=by
 intro σ H A t t' d x Q R r e h
 unfold zai3 at e
 split at e
 ·rename_i ds
  split at e
  ·rename_i hl
   cases r with
   |@tup _ p vs h1 hr=>exact⟨p,vs,rfl,SqT.mono (zb6 _ _) h1,by rw [hr.length];exact hl,h2 σ H A t t' ds vs Q R hr e h⟩
  ·cases e
 ·cases e
def zw8 (k:D→Th→Option Th) (f:DE):DS:=fun t=>(f t).bind fun r=>if r.ok then (k r.d t).map Out.nx else none
section
variable {X:Cx}{F:List Addr}{a b c:Expr}{es:List Expr}{fa fb fc:DE}{g g1 g2:DS}{ft fu:DT}{pos:Pos}{st:Stmt}{rest:List Stmt}{tg:Expr}{gt:TG}{kt:D→Th→Option Th}
theorem zy8 (he:PE X a (dE X.K F fa)) (hg:PG X tg gt) (ht:TgOk X.K F gt kt) (hs:swapsWithSole [tg] a pos.line X.env=pure false:=by rfl) (hw:swappedStores [tg] a X.env=pure none:=by rfl)
  (h1:(assignEach [tg] X.env).map (·.2)=[assign tg X.env]:=by rfl):PS X (.Assign [tg] a pos) (dS X.K F (zw8 kt fa)):=by
 refine PS.imp (ps_asg he hg hs hw h1) ?_
 rintro E σ H ⟨A,t,o,R,e,h⟩
 unfold zw8 at e
 cases e1:fa t with
 |none=>rw [e1]at e;cases e
 |some r1 =>
  rw [e1]at e
  have e:(if r1.ok then (kt r1.d t).map Out.nx else none)=some o:=e
  split at e
  case isFalse=>cases e
  rename_i ok
  cases e2:kt r1.d t with
  |none=>rw [e2]at e;cases e
  |some t' =>
   rw [e2]at e
   cases e
   refine⟨A,t,r1,R,e1,fun v H' gs q=>?_⟩
   exact ht σ H' A t t' r1.d v E.nx (R.grow gs) (q.clean R.mu gs ok) e2 fun σ2 A2 g2 R2=>h σ2 H' A2 ((Gr.of_same R.mu.left gs).trans g2) R2
noncomputable def kPar (t:Th) (i j:Nat):List Ev→Option Out
 |[r1,r2]=>if r1.ok&&r2.ok then ((zm1 t i (.cl r1.d)).bind fun t1=>zm1 t1 j (.cl r2.d)).map Out.nx else none
 |_=>none
def dPar (i j:Nat) (f:DA):DS:=fun t=>(f t).bind (kPar t i j)
theorem zap6 {i j:Nat}{x y:Str}{ga:DA}{px py pt:Pos}{kt k2 pt2} (hc:X.calm=true) (hN:X.N.Nodup) (hi:X.N[i]?=some x) (hj:X.N[j]?=some y) (hij:i≠j)
  (hx:X.env.scope.names.lookup x=some .local) (hy:X.env.scope.names.lookup y=some .local) (ha:PA X [a,b] (dA X.K F ga))
  (hw:swappedStores [.Tuple [.Name x px,.Name y py] kt pt] (.Tuple [a,b] k2 pt2) X.env=pure (some [x,y]))
  (hs:swapsWithSole [.Tuple [.Name x px,.Name y py] kt pt] (.Tuple [a,b] k2 pt2) pos.line X.env=pure false:=by rfl) :
  PS X (.Assign [.Tuple [.Name x px,.Name y py] kt pt] (.Tuple [a,b] k2 pt2) pos) (dS X.K F (dPar i j ga)):=by
 refine PS.imp (ps_par hc hN hi hj hij hx hy ha hw hs) ?_
 rintro E σ H ⟨A,t,o,R,e,h⟩
 unfold dPar at e
 cases e1:ga t with
 |none=>rw [e1]at e;cases e
 |some rs =>
  rw [e1]at e
  refine⟨A,t,rs,R,e1,fun vs H' gs q=>?_⟩
  have e:kPar t i j rs=some o:=e
  cases q with
  |nil=>cases e
  |@cons r1 _ _ _ q1 q' =>
   cases q' with
   |nil=>cases e
   |@cons r2 _ _ _ q2 q3 =>
   cases q3 with
   |cons _ _=>cases e
   |nil =>
    simp only [kPar]at e
    split at e
    case isFalse=>cases e
    rename_i ok
    simp only [zay4]at ok
    refine⟨_,_,rfl,?_⟩
    cases e2:zm1 t i (.cl r1.d) with
    |none=>rw [e2]at e;cases e
    |some t1 =>
     rw [e2]at e
     have e:(zm1 t1 j (.cl r2.d)).map Out.nx=some o:=e
     cases e3:zm1 t1 j (.cl r2.d) with
     |none=>rw [e3]at e;cases e
     |some t2 =>
      rw [e3]at e
      cases e
      have c2:=q2.clean R.mu gs ok.2
      obtain⟨A1,g1,R1⟩:=(R.grow gs).put (i:=i) (r:=.cl r1.d) (Same.refl H') (q1.clean R.mu gs ok.1) e2
      obtain⟨A2,g2,R2⟩:=R1.put (i:=j) (r:=.cl r2.d) (Same.refl H') (Rep.mono g1.same c2) e3
      exact h _ _ _ (((Gr.of_same R.mu.left gs).trans g1).trans g2) R2
end
noncomputable def forD (k:D→Th→Option Th) (body:DS):List D→Th→Option Out
 |[],t=>some (.nx t)
 |d::ds,t=>(k d t).bind fun t1=>(body t1).bind fun o=>match o with
  |.nx t'=>forD k body ds t'
  |.ct t'=>forD k body ds t'
  |.bk t'=>some (.nx t')
  |.rt r=>some (.rt r)
noncomputable def whD (c:DT) (body:DS):Nat→Th→Option Out
 |0,_=>none
 |n+1,t=>(c t).bind fun b=>if b then (body t).bind fun o=>match o with
  |.nx t'=>whD c body n t'
  |.ct t'=>whD c body n t'
  |.bk t'=>some (.nx t')
  |.rt r=>some (.rt r) else some (.nx t)
def zq5 (fu:Th→Nat) (c:DT) (body:DS):DS:=fun t=>whD c body (fu t) t
noncomputable def Post (K:zax7) (F A:List Addr) (H:Hp) (E:Ends):Out→Prop
 |.nx t'=>After K F A H E.nx t'
 |.bk t'=>After K F A H E.bk t'
 |.ct t'=>After K F A H E.ct t'
 |.rt r=>Back K F A H E.rt r
theorem Post.back {K:zax7}{F A A1:List Addr}{H H1:Hp}{E:Ends}{o:Out} (h:Post K F A H E o) (g:Gr A H A1 H1):Post K F A1 H1 E o:=by
 cases o with
 |nx t2=>exact After.back h g
 |bk t2=>exact After.back h g
 |ct t2=>exact After.back h g
 |rt r=>exact Back.back h g
theorem zav4 {K:zax7}{F A:List Addr}{g:DS}{E:Ends}{σ:L2.St}{H:Hp}{t:Th}{o:Out} (R:RS K F H A t σ) (e:g t=some o) (p:Post K F A H E o):dS K F g E σ H:=⟨A,t,o,R,e,by cases o<;>exact p⟩
theorem zan7 {K:zax7}{F:List Addr}{g:DS}{E:Ends}{σ:L2.St}{H:Hp} (h:dS K F g E σ H):∃A t o,RS K F H A t σ∧g t=some o∧Post K F A H E o:=by
 obtain⟨A,t,o,R,e,h⟩:=h
 exact⟨A,t,o,R,e,by cases o<;>exact h⟩
section
variable {X:Cx}{F:List Addr}{a b c:Expr}{es:List Expr}{fa fb fc:DE}{g g1 g2:DS}{ft fu:DT}{pos:Pos}{st:Stmt}{rest:List Stmt}{tg:Expr}{gt:TG}{kt:D→Th→Option Th}
theorem zp8 {body:List Stmt} (m:Th→Nat) (hp:PassesOwn (model X.prog X.w) X.A X.env X.xe) (hc:PT X c (dT X.K F ft)) (hb:PSs X body (dS X.K F g)):PS X (.While c body [] pos) (dS X.K F (zq5 m ft g)):=by
 refine PS.imp (ps_while hp hc hb) ?_
 intro E σ H hh
 obtain⟨A,t,o,R,e,h⟩:=zan7 hh
 refine⟨fun n σ H => ∃A t o,whD ft g n t=some o∧RS X.K F H A t σ∧Post X.K F A H E o,⟨m t,A,t,o,e,R,h⟩,?_⟩
 rintro n σ H ⟨A,t,o,e,R,h⟩
 cases n with
 |zero=>cases e
 |succ n =>
  simp only [whD]at e
  cases e1:ft t with
  |none=>rw [e1]at e;cases e
  |some b =>
   rw [e1]at e
   refine⟨A,t,b,R,e1,fun H1 gs=>?_⟩
   have gr:Gr A H A H1:=Gr.of_same R.mu.left gs
   cases b with
   |false =>
    have e:some (Out.nx t)=some o:=e
    cases e
    exact iteF (h σ H1 A gr (R.grow gs))
   |true =>
    have e:((g t).bind fun o=>match o with
     |.nx t'=>whD ft g n t'
     |.ct t'=>whD ft g n t'
     |.bk t'=>some (.nx t')
     |.rt r=>some (.rt r))=some o:=e
    refine iteT ⟨fun σ' H' => ∃A t o,whD ft g n t=some o∧RS X.K F H' A t σ'∧Post X.K F A H' E o,fun σ' H' q=>⟨n,zbc5 n,q⟩,?_⟩
    cases e2:g t with
    |none=>rw [e2]at e;cases e
    |some o2 =>
     rw [e2]at e
     refine zav4 (R.grow gs) e2 ?_
     cases o2 with
     |nx t'=>exact fun σ' H' A' g' R'=>⟨A',t',o,e,R',h.back (gr.trans g')⟩
     |ct t'=>exact fun σ' H' A' g' R'=>⟨A',t',o,e,R',h.back (gr.trans g')⟩
     |bk t'=>cases e;exact fun σ' H' A' g' R'=>h σ' H' A' (gr.trans g') R'
     |rt r=>cases e;exact Back.back h gr
theorem zaa0 {K:zax7}{J:It}{ds:List D}{E:Ends}{σ:L2.St}{H:Hp}{A:List Addr}{t:Th}{o:Out} (Good:List Addr→Hp→Prop) (ht:TgOk K F gt kt) (R:RS K F H A t σ) (e:forD kt g ds t=some o) (h:Post K F A H E o) (g0:Good A H)
  (keep:∀A H A' H',Good A H→Gr A H A' H'→Good A' H') (stop:∀A H,Good A H→J.stop ds.length H) (go:∀A H i,Good A H→i<ds.length→J.go i H)
  (yld:∀A H i x H',Good A H→Lists H (A++F)→J.yld i H x H'→i<ds.length→Same H H'∧∃d,ds[i]?=some d∧Rep K (hide (A++F) H') d x) :
  ∃W:Nat→Nat→L2.St→Hp→Prop,(∃m,W 0 m σ H)∧∀i m σ H,W i m σ H →
   (J.stop i H∧E.nx σ H)∨(J.go i H∧∃N:L2.St→Hp→Prop,(∀σ' H',N σ' H'→∃m',m' < m∧W (i+1) m' σ' H')∧∀x H',J.yld i H x H'→gt x σ H' fun σ2 H2=>dS K F g { E with nx:=N,ct:=N,bk:=E.nx } σ2 H2):=by
 refine⟨fun i m σ H=>i+m=ds.length∧∃A t o,forD kt g (ds.drop i) t=some o∧RS K F H A t σ∧Post K F A H E o∧Good A H,⟨ds.length,by lia,A,t,o,by simpa using e,R,h,g0⟩,?_⟩
 rintro i m σ H ⟨hm,A,t,o,e,R,h,gd⟩
 cases m with
 |zero =>
  have z:i=ds.length:=by lia
  subst z
  rw [zbf3]at e
  cases e
  exact .inl ⟨stop A H gd,h σ H A (Gr.refl R.mu.left) R⟩
 |succ m =>
  have hi:i<ds.length:=by lia
  refine .inr ⟨go A H i gd hi,fun σ' H'=>i+1+m=ds.length∧∃A t o,forD kt g (ds.drop (i+1)) t=some o∧RS K F H' A t σ'∧Post K F A H' E o∧Good A H',fun σ' H' q=>⟨m,zbc5 m,q⟩,fun x H' y=>?_⟩
  obtain⟨gs,d,hd,rd⟩:=yld A H i x H' gd R.mu y hi
  have ed:ds.drop i=d::ds.drop (i+1):=by
   have hd':ds[i]=d:=by
    rw [zay3 hi]at hd
    exact Option.some.inj hd
   rw [← hd']
   exact zbb4 hi
  rw [ed]at e
  simp only [forD]at e
  cases e1:kt d t with
  |none=>rw [e1]at e;cases e
  |some t1 =>
   rw [e1]at e
   refine ht σ H' A t t1 d x _ (R.grow gs) rd e1 fun σ2 A2 gr3 R2=>?_
   have gr2:Gr A H A2 H':=(Gr.of_same R.mu.left gs).trans gr3
   have e:((g t1).bind fun o=>match o with
     |.nx t'=>forD kt g (ds.drop (i+1)) t'
     |.ct t'=>forD kt g (ds.drop (i+1)) t'
     |.bk t'=>some (.nx t')
     |.rt r=>some (.rt r))=some o:=e
   cases e2:g t1 with
   |none=>rw [e2]at e;cases e
   |some o2 =>
    rw [e2]at e
    refine zav4 R2 e2 ?_
    cases o2 with
    |nx t'=>exact fun σ' H' A' g' R'=>⟨by lia,A',t',o,e,R',h.back (gr2.trans g'),keep _ _ _ _ gd (gr2.trans g')⟩
    |ct t'=>exact fun σ' H' A' g' R'=>⟨by lia,A',t',o,e,R',h.back (gr2.trans g'),keep _ _ _ _ gd (gr2.trans g')⟩
    |bk t'=>cases e;exact fun σ' H' A' g' R'=>h σ' H' A' (gr2.trans g') R'
    |rt r=>cases e;exact Back.back h gr2
noncomputable def dFor (k:D→Th→Option Th) (f:DE) (body:DS):DS:=fun t=>(f t).bind fun r=>match r.d with
 |.lst ds=>if r.ok then forD k body ds t else none
 |_=>none
theorem zag8 {body:List Stmt} (hp:PassesOwn (model X.prog X.w) X.A X.env X.xe) (hc:X.calm=true) (hl:PE X a (dE X.K F fa)) (hg:PG X tg gt) (ht:TgOk X.K F gt kt) (hb:PSs X body (dS X.K F g))
  (hs:∀x,foldedSetIterable a X.env x=pure x:=by intro _;rfl):PS X (.For tg a body [] pos) (dS X.K F (dFor kt fa g)):=by
 refine PS.imp (zak5 hp hc (zah0 hl) hg hb hs) ?_
 intro E σ H hh
 obtain⟨A,t,o,R,e,h⟩:=zan7 hh
 unfold dFor at e
 cases e1:fa t with
 |none=>rw [e1]at e;cases e
 |some r =>
  rw [e1]at e
  refine⟨A,t,r,R,e1,fun v H1 gs q=>?_⟩
  have e:(match r.d with
   |.lst ds=>if r.ok then forD kt g ds t else none
   |_=>none)=some o:=e
  split at e
  case h_2=>cases e
  rename_i ds z
  split at e
  case isFalse=>cases e
  rename_i ok
  have cl:=q.clean R.mu gs ok
  rw [z]at cl
  cases cl with
  |@lst _ p vs h1 h2 =>
   refine⟨p,rfl,⟨vs,SqL.mono (zb6 _ _) h1⟩,?_⟩
   refine zaa0 (fun A H=>SqL X.K (hide (A++F) H) p vs∧Reps X.K (hide (A++F) H) ds vs) ht (R.grow gs) e (h.back (Gr.of_same R.mu.left gs)) ⟨h1,h2⟩ (fun A H A' H' q gr=>⟨SqL.mono gr.same q.1,Reps.mono gr.same q.2⟩)
    (fun A H q=>⟨vs,SqL.mono (zb6 _ _) q.1,by rw [h2.length];exact zba1 _⟩) (fun A H i q hi=>?_) (fun A H i x H' q _ y hi=>?_)
   ·have hi':i<vs.length:=by rw [h2.length];exact hi
    exact⟨vs,vs[i],SqL.mono (zb6 _ _) q.1,zay3 hi'⟩
   ·obtain⟨e1,e2⟩:=y
    have z:=e2 vs (SqL.mono (zb6 _ _) q.1)
    subst e1
    exact⟨Same.refl _,q.2.getV z⟩
def rngD (lo:Int) (n:Nat):List D:=(zbb6 n).map fun (i:Nat)=>D.int (lo+(i:Int))
def bigI (i:Int):Bool:=decide (-1000000000000≤i∧i≤1000000000000)
noncomputable def zae0 (k:D→Th→Option Th) (f f':DE) (body:DS):DS:=fun t=>(f t).bind fun r=>(f' t).bind fun r'=>match r.d,r'.d with
 |.int lo,.int n=>if bigI n&&bigI lo then forD k body (rngD lo (n - lo).toNat) t else none
 |_,_=>none
theorem zq9 (lo:Int) (n:Nat):(rngD lo n).length=n:=by simp [rngD]
theorem rng_core {K:zax7}{lo:Int}{n:Nat}{E:Ends}{σ:L2.St}{H:Hp}{A:List Addr}{t:Th}{o:Out} (ht:TgOk K F gt kt) (R:RS K F H A t σ) (e:forD kt g (rngD lo n) t=some o) (h:Post K F A H E o) :
  ∃W:Nat→Nat→L2.St→Hp→Prop,(∃m,W 0 m σ H)∧∀i m σ H,W i m σ H →
   ((Itr lo n).stop i H∧E.nx σ H)∨((Itr lo n).go i H∧∃N:L2.St→Hp→Prop,(∀σ' H',N σ' H'→∃m',m' < m∧W (i+1) m' σ' H')∧∀x H',(Itr lo n).yld i H x H'→gt x σ H' fun σ2 H2=>dS K F g { E with nx:=N,ct:=N,bk:=E.nx } σ2 H2):=by
 refine zaa0 (fun _ _=>True) ht R e h trivial (fun _ _ _ _ _ _=>trivial) (fun A H _=>?_) (fun A H i _ hi=>?_) (fun A H i x H' _ _ y hi=>?_)
 ·rw [zq9];exact zba1 n
 ·rw [zq9]at hi;exact hi
 ·rw [zq9]at hi
  obtain⟨e1,e2⟩:=y
  subst e1
  refine⟨Same.refl _,.int (lo+i),by simp [rngD,hi],?_⟩
  rw [e2];exact .int _
theorem zak4 {body:List Stmt}{p1 p2:Pos} (hp:PassesOwn (model X.prog X.w) X.A X.env X.xe) (hc:X.calm=true) (hgr:Gl X "range") (hm:X.mg "range"=none) (ha:PE X a (dE X.K F fa)) (hb':PE X b (dE X.K F fb)) (hg:PG X tg gt) (ht:TgOk X.K F gt kt) (hb:PSs X body (dS X.K F g))
  (hst:zaz1 [a,b] X.env=[(false,eval a X.env),(false,eval b X.env)]:=by rfl) (hst2:zaz1 [b] X.env=[(false,eval b X.env)]:=by rfl) (hs:∀x,foldedSetIterable (.Call (.Name "range" p1) [a,b] [] p2) X.env x=pure x:=by intro _;rfl) :
  PS X (.For tg (.Call (.Name "range" p1) [a,b] [] p2) body [] pos) (dS X.K F (zae0 kt fa fb g)):=by
 refine PS.imp (zak5 hp hc (zaq3 hgr hm (zf1 ha (zf1 hb' zi8 hst2) (by rw [hst,hst2])) hst hst2) hg hb hs) ?_
 intro E σ H hh
 obtain⟨A,t,o,R,e,h⟩:=zan7 hh
 unfold zae0 at e
 cases e1:fa t with
 |none=>rw [e1]at e;cases e
 |some r =>
  cases e2:fb t with
  |none=>rw [e1,e2]at e;cases e
  |some r' =>
   rw [e1,e2]at e
   refine⟨A,t,r,R,e1,fun v H1 gs q=>⟨A,t,r',R.grow gs,e2,fun v2 H2 gs2 q2=>?_⟩⟩
   have e:(match r.d,r'.d with
    |.int lo,.int n=>if bigI n&&bigI lo then forD kt g (rngD lo (n - lo).toNat) t else none
    |_,_=>none)=some o:=e
   split at e
   case h_2=>cases e
   rename_i lo n z1 z2
   split at e
   case isFalse=>cases e
   rename_i ok
   simp only [bigI,zay4,decide_eq_true_eq]at ok
   have p:=q.full
   rw [z1]at p
   cases ze1 p
   have p':=q2.full
   rw [z2]at p'
   cases ze1 p'
   exact⟨lo,n,rfl,⟨by lia,by lia,by lia,by lia⟩,rng_core ht (R.grow (gs.trans gs2)) e (h.back (Gr.of_same R.mu.left (gs.trans gs2)))⟩
end
end DL
namespace DL
open PySem.Spec L2
theorem RSl.upd {K:zax7}{H0 H H':Hp}{ds es:List D}{ws:List V}{p:Addr} (hp:H' p=some (.lst ws)) (he:Reps K H0 es ws):∀ {t:Th}{σ:L2.St}{A:List Addr} (i:Nat),RSl K H0 H t σ A→A.Nodup→t[i]?=some (.own ds)→σ[i]?=some (some (.ref p)) →
  (∀q∈A,q≠p→H' q=H q)→RSl K H0 H' (t.set i (.own es)) σ A
 |_,_,_,i,.nil,_,e,_,_=>by simp at e
 |_,_,_,0,.no r,_,e,_,_=>by simp at e
 |_,_,_,0,.val _ r,_,e,_,_=>by simp at e
 |_,_,_,0,.dp _ r,_,e,_,_=>by simp at e
 |_,_,_,i+1,.dp (B:=B) h1 r,nd,e,e2,k=>by
  have n:=zay9.mp nd
  obtain⟨p3,vs3,a1,a2,_⟩:=RSl.getOwn r (i:=i) (ds:=ds) (by simpa using e)
  have:p3=p:=by simpa [a1] using e2
  subst this
  refine .dp (RepD.mono (Same.refl _) h1 fun q hq o w=>?_) (RSl.upd hp he i r n.2.1 (by simpa using e) (by simpa using e2) fun q hq=>k q (zax6 _ hq))
  rw [k q (zax8 _ hq) (fun z=>n.2.2 q hq p3 a2 z)];exact w
 |_,_,_,0,.own (p:=p2) (A:=A) h1 h2 r,nd,e,e2,k=>by
  simp at e2
  subst e2
  exact .own hp he (RSl.mono (Same.refl _) r fun q hq o h=>by
   have n:q≠p2:=fun z=>(zaz8.mp nd).1 (z ▸ hq)
   rw [k q (zax9 _ hq) n];exact h)
 |_,_,_,i+1,.no r,nd,e,e2,k=>.no (RSl.upd hp he i r nd (by simpa using e) (by simpa using e2) k)
 |_,_,_,i+1,.val h r,nd,e,e2,k=>.val h (RSl.upd hp he i r nd (by simpa using e) (by simpa using e2) k)
 |_,_,_,i+1,.own (p:=p2) h1 h2 r,nd,e,e2,k=>by
  have n:=zaz8.mp nd
  have e2':=(show _ from e2)
  obtain⟨p3,vs3,a1,a2,_⟩:=RSl.getOwn r (i:=i) (ds:=ds) (by simpa using e)
  have:p3=p:=by simpa [a1] using e2
  subst this
  have np:p2≠p3:=fun z=>n.1 (z ▸ a2)
  refine .own (by rw [k p2 (zay1 ..) np];exact h1) h2 (RSl.upd hp he i r n.2 (by simpa using e) (by simpa using e2) fun q hq=>k q (zax9 _ hq))
theorem RS.write {K:zax7}{F A:List Addr}{H:Hp}{t:Th}{σ:L2.St}{i:Nat}{ds es:List D}{ws:List V}{p:Addr} (R:RS K F H A t σ) (e:t[i]?=some (.own ds)) (e2:σ[i]?=some (some (.ref p))) (h:Reps K (hide (A++F) H) es ws) :
  RS K F (L2.upd H p (.lst ws)) A (t.set i (.own es)) σ∧Gr A H A (L2.upd H p (.lst ws)):=by
 obtain⟨p',vs,a1,a2,a3,a4⟩:=R.rel.getOwn e
 have:p'=p:=by simpa [a1] using e2
 subst this
 have hh:Same (hide (A++F) H) (hide (A++F) (L2.upd H p' (.lst ws))):=fun b o q=>by
  obtain⟨n,q⟩:=zh9 q
  have nb:b≠p':=fun z=>n (zax8 _ (z ▸ a2))
  exact zb9 (by rw [zb3 nb];exact q) n
 have mu:Lists (L2.upd H p' (.lst ws)) (A++F):=fun q hq=>by
  by_cases z:q=p'
  ·exact⟨mL ws,by rw [z];exact za9⟩
  ·obtain⟨us,w⟩:=R.mu q hq
   exact⟨us,by rw [zb3 z];exact w⟩
 refine⟨⟨mu,R.nd,R.dj,RSl.upd za9 (Reps.mono hh h) i (RSl.mono hh R.rel (H':=H) fun _ _ _ h=>h) R.nd e e2 fun q _ n=>zb3 n⟩,?_⟩
 refine⟨fun b o n q=>?_,fun b hb=>?_,fun b hb=>.inl hb⟩
 ·rw [zb3 (fun z=>n (by rw [z];exact a2))];exact q
 ·obtain⟨us,w⟩:=mu b (zax8 _ hb)
  rw [w];simp
noncomputable def kApp (t:Th) (i:Nat) (r:Ev):Option Out:=match t[i]? with
 |some (.own xs)=>if r.ok&&decide (xs.length<100000) then some (.nx (t.set i (.own (xs++[r.d])))) else none
 |_=>none
def dApp (i:Nat) (f:DE):DS:=fun t=>(f t).bind (kApp t i)
section
variable {X:Cx}{F:List Addr}{a b c:Expr}{es:List Expr}{fa fb fc:DE}{g g1 g2:DS}{ft fu:DT}{pos:Pos}{st:Stmt}{rest:List Stmt}{tg:Expr}{gt:TG}{kt:D→Th→Option Th}
theorem zag9 (i:Nat) {x:Str}{p0 apos cpos:Pos} (he:PE X a (dE X.K F fa)) (hN:X.N[i]?=some x:=by rfl) (hv:Vis X.env.scope x:=by first | exact Or.inl rfl | exact Or.inr (Or.inl rfl) |exact Or.inr (Or.inr rfl)) (hd:(x ==("__debug__":Str))=false:=by decide)
  (hcd:(x ==("__classdict__":Str))=false:=by decide) (hst:zaz1 [a] X.env=[(false,eval a X.env)]:=by rfl)
  (hbase:attributeBase (.Name x p0) "append" X.env (eval (.Name x p0) X.env)=eval (.Name x p0) X.env:=by rfl)
  (hfew:((zbd7 cpos (zaz1 [a] X.env)).all (fun x=>!x.1)&&(backToKw cpos (keywordEach [] X.env)).all (fun x=>x.1.isSome)
   && decide ([a].length+([]:List Keyword).length+(if ([]:List Keyword).isEmpty then 0 else 1)<30))=true:=by rfl)
  (hline:(apos.endLine == cpos.line)=true:=by rfl) (hplain:(zbd7 cpos (zaz1 [] X.env)).any (·.1)=false:=by rfl)
  (hsw:swapsWith (.Call (.Attribute (.Name x p0) "append" apos) [a] [] cpos) none pos.line X.env=pure false:=by rfl) :
  PS X (.Expr (.Call (.Attribute (.Name x p0) "append" apos) [a] [] cpos) pos) (dS X.K F (dApp i fa)):=by
 refine PS.imp (zm4 (zah3 zbb3 zbd1 zbd2 zj0 (zo1 (i:=i) hN hv hd hcd) (zf1 he zi8 hst) hbase hfew hline hst hplain) hsw) ?_
 rintro E σ H ⟨A,t,o,R,e,h⟩
 unfold dApp at e
 cases e1:fa t with
 |none=>rw [e1]at e;cases e
 |some r =>
  rw [e1]at e
  have e:kApp t i r=some o:=e
  unfold kApp at e
  split at e
  case h_2=>cases e
  rename_i xs z
  split at e
  case isFalse=>cases e
  rename_i ok
  simp only [zay4,decide_eq_true_eq]at ok
  cases e
  obtain⟨p,vs,a1,a2,a3,a4⟩:=R.rel.getOwn z
  refine⟨_,a1,.inl ⟨rfl,vs,SqL.of a3⟩,A,t,r,R,e1,fun y H1 gs q=>⟨p,vs,y,rfl,rfl,gs _ _ a3,?_,?_⟩⟩
  ·have:vs.length<100000:=by rw [a4.length];exact ok.2
   exact zay8 this (by rw [sizeLine_eq];decide)
  ·obtain⟨R',g'⟩:=(R.grow gs).write (es:=xs++[r.d]) (ws:=vs++[y]) z a1 ((Reps.mono (za8 gs) a4).app (Reps.one (q.clean R.mu gs ok.1)))
   exact h _ _ _ ((Gr.of_same R.mu.left gs).trans g') R'
noncomputable def kIx:Ev→Ev→Option Ev:=fun r1 r2=>match r1.d,r2.d with
 |.lst ds,.int i=>(atI ds i).map fun d=>if r1.ok||flat d then .cl d else .tm d
 |.tup ds,.int i=>(atI ds i).map fun d=>if r1.ok||flat d then .cl d else .tm d
 |_,_=>none
theorem Reps.atI {K:zax7}{H:Hp}{ds:List D}{vs:List V} (r:Reps K H ds vs) {i:Int}{d:D} (e:L2.atI ds i=some d):∃v,L2.atI vs i=some v∧Rep K H d v:=by
 unfold L2.atI at e ⊢
 rw [r.length]
 cases e1:ixN ds.length i with
 |none=>rw [e1]at e;cases e
 |some j=>rw [e1]at e;exact r.get e
theorem ze0 (ha:PE X a (dE X.K F fa)) (hb:PE X b (dE X.K F fb)) (hs:zaj4 b:=by intro _ _;rfl):PE X (.Subscript a b pos) (dE X.K F (d2 kIx fa fb)):=by
 refine PE.imp (pe_ix (ix_list.or ix_tup) ha hb hs) ?_
 intro σ H Q h
 obtain⟨A,t,r1,r2,r,R,e1,e2,e,h,w⟩:=two h
 refine⟨A,t,r1,R,e1,fun x H1 gs1 q1=>⟨A,t,r2,R.grow gs1,e2,fun y H2 gs2 q2=>?_⟩⟩
 have q1:=q1.mono gs2
 have gs:=gs1.trans gs2
 have p2:=q2.full
 have m2:=R.mu.mono gs
 have key:∀(P:List Addr),Rep X.K (hide P H2) r1.d x→(∀d v,Rep X.K (hide P H2) d v→RepEv X.K F A H H2 (if r1.ok||flat d then Ev.cl d else Ev.tm d) v)→rIxL X.K x y H2 Q∨rIxT X.K x y H2 Q:=fun P hP fin=>by
  unfold kIx at e
  split at e
  ·rename_i ds i z1 z2
   rw [z2]at p2
   cases ze1 p2
   rw [z1]at hP
   cases hP with
   |@lst _ p vs h1 h2 =>
    cases e4:atI ds i with
    |none=>rw [e4]at e;cases e
    |some d =>
     rw [e4]at e
     have e:(if r1.ok||flat d then Ev.cl d else Ev.tm d)=r:=by simpa using e
     obtain⟨v,e5,rv⟩:=Reps.atI h2 e4
     exact .inl ⟨p,vs,i,v,rfl,rfl,SqL.mono (zb6 _ _) h1,e5,h v H2 gs (e ▸ fin d v rv)⟩
  ·rename_i ds i z1 z2
   rw [z2]at p2
   cases ze1 p2
   rw [z1]at hP
   cases hP with
   |@tup _ p vs h1 h2 =>
    cases e4:atI ds i with
    |none=>rw [e4]at e;cases e
    |some d =>
     rw [e4]at e
     have e:(if r1.ok||flat d then Ev.cl d else Ev.tm d)=r:=by simpa using e
     obtain⟨v,e5,rv⟩:=Reps.atI h2 e4
     exact .inr ⟨p,vs,i,v,rfl,rfl,SqT.mono (zb6 _ _) h1,e5,h v H2 gs (e ▸ fin d v rv)⟩
  ·cases e
 by_cases c:r1.ok=true
 ·refine key (A++F) (q1.clean R.mu gs c) fun d v rv=>?_
  rw [c,Bool.true_or,if_pos rfl]
  exact rv
 ·refine key F (q1.cleanF R.mu) fun d v rv=>?_
  have c:r1.ok=false:=by simpa using c
  rw [c,zbn4]
  split
  ·rename_i f;exact Rep.hid m2 f (Rep.mono (zb6 _ _) rv)
  ·exact rv
noncomputable def kCat:Ev→Ev→Option Ev:=fun r1 r2=>match r1.d,r2.d with
 |.lst ds,.lst es=>if (r1.ok||flats ds)&&(r2.ok||flats es)&&decide (ds.length+es.length≤100000) then some (.nw (ds++es)) else none
 |_,_=>none
theorem RepEv.items {K:zax7}{F A:List Addr}{H H':Hp}{r:Ev}{v:V}{ds:List D} (m:Lists H (A++F)) (gs:Same H H') (q:RepEv K F A H H' r v) (z:r.d=.lst ds) (c:(r.ok||flats ds)=true) :
  ∃p vs,v=.ref p∧SqL K H' p vs∧Reps K (hide (A++F) H') ds vs:=by
 rcases zbj0 _ _ ▸ c with c | c
 ·have w:=q.clean m gs c
  rw [z]at w
  cases w with
  |@lst _ p vs h1 h2=>exact⟨p,vs,rfl,SqL.mono (zb6 _ _) h1,h2⟩
 ·have w:=q.full
  rw [z]at w
  cases w with
  |@lst _ p vs h1 h2=>exact⟨p,vs,rfl,h1,Reps.hid (m.mono gs) c h2⟩
theorem cat_any {E:Value→zaz0→Prop}{A:Around}{prog:Program}{w:World}{s:zaz0}{l b:Addr}{vs ws:List Value}{Q:Value→zaz0→Prop} (hl:PlainL s.heap l vs.toArray) (hb:PlainL s.heap b ws.toArray)
  (h:Q (.ref s.heap.objs.size) { s with heap:=s.heap.push { cls:=.type "list",data:=.seq (vs++ws).toArray } }) (hsz:vs.length+ws.length≤sizeLine) :
  wpAny (model prog w) A (binaryOp .Add (.ref l) (.ref b)) Q E s:=by
 obtain⟨⟨cls,dd,data,sl⟩,n,ho,hc,hdd,hd⟩:=id hl
 obtain⟨⟨cls2,dd2,data2,sl2⟩,n2,ho2,hc2,hdd2,hd2⟩:=id hb
 simp only at hc hd hc2 hd2
 subst hc hd hc2 hd2
 have e:vs.toArray++ws.toArray=(vs++ws).toArray:=by simp
 refine concat_meets ⟨_,ho,rfl⟩ ⟨_,ho2,rfl⟩ noFill_list_add seq_list_add PySem.F.slot_list_add PySem.F.entry_list_add (PySem.F.args_list_add_2 _ _) (list_addW l b vs.toArray ws.toArray n n2 dd dd2 sl sl2 (by simpa using hsz)) ⟨ho,ho2,?_⟩
 rw [e]
 exact h
theorem zh4:OpD X F (binaryOp .Add) kCat:=by
 intro pins s σ H0 H A x y v u Q r1 r2 r I m g0 rx ry q1 q2 e hq
 unfold kCat at e
 split at e
 case h_2=>cases e
 rename_i ds es' z1 z2
 split at e
 case isFalse=>cases e
 rename_i c
 simp only [zay4,decide_eq_true_eq]at c
 cases e
 obtain⟨p,vs,rfl,h1,h2⟩:=q1.items m g0 z1 c.1.1
 obtain⟨p',ws,rfl,h1',h2'⟩:=q2.items m g0 z2 c.1.2
 cases rx
 cases ry
 obtain⟨its,w1,w2,w3⟩:=I.list h1
 obtain⟨its',w1',w2',w3'⟩:=I.list h1'
 have l1:=h2.length
 have l2:=h2'.length
 have l3:=w1.length
 have l4:=w1'.length
 have hz:vs.length+ws.length≤sizeLine:=zl6 (by lia)
 refine cat_any w2 w2' ⟨.ref _,_,I.lnew (t':=s.toks) (w1.append w1') (by rw [zba7];exact hz),rfl,?_⟩ (by lia)
 refine hq _ _ (zc5 I.fresh) ⟨_,_,rfl,Same.free g0 I.fresh,za9,Reps.mono (zh2 I.fresh) (h2.app h2')⟩
mutual
def eqD:D→D→Bool
 |.non,.non=>true
 |.bl a,.bl b=>decide (a=b)
 |.int a,.int b=>decide (a=b)
 |.str a,.str b=>decide (a=b)
 |.tup a,.tup b=>eqDs a b
 |.lst a,.lst b=>eqDs a b
 |.dct ks a,.dct ks' b=>decide (ks=ks')&&eqDs a b
 |.pdc a,.pdc b=>decide (a=b)
 |_,_=>false
def eqDs:List D→List D→Bool
 |[],[]=>true
 |a::as,b::bs=>eqD a b&&eqDs as bs
 |_,_=>false
end
noncomputable def eqOk:Nat→D→D→Bool
 |_,.non,.non=>true
 |_,.bl _,.bl _=>true
 |_,.int _,.int _=>true
 |_,.str _,.str _=>true
 |_,.non,.int _=>true
 |_,.int _,.non=>true
 |_,.non,.str _=>true
 |_,.str _,.non=>true
 |_,.non,.bl _=>true
 |_,.bl _,.non=>true
 |_,.int _,.str _=>true
 |_,.str _,.int _=>true
 |n+1,.tup xs,.tup ys=>(xs.zip ys).all fun p=>eqOk n p.1 p.2
 |n+1,.lst xs,.lst ys=>(xs.zip ys).all fun p=>eqOk n p.1 p.2
 |_,_,_=>false
theorem zv4 {pins:List (Addr×Obj)}{s:zaz0}{σ:L2.St}{H:Hp}{p:Addr}{kvs:List (Key×V)} (I:Inv X pins σ H s) (h:H p=some (.dK kvs)):∃o,s.heap.get? p=some o∧o.cls=.type "dict":=by
 obtain⟨_,_,vs,_,m⟩:kvs.length≤sizeLine∧(p == sysModules)=false∧∃vs,KV kvs vs∧s.heap.DictOf (zf2 X.prog X.w) p vs:=I.hok p _ h
 exact m.typeIs
theorem zu5 {pins:List (Addr×Obj)}{s:zaz0}{σ:L2.St}{H:Hp}{p:Addr}{kvs:List (List Key×V)} (I:Inv X pins σ H s) (h:H p=some (.dT kvs)):∃o,s.heap.get? p=some o∧o.cls=.type "dict":=by
 obtain⟨_,_,xs,_,o,es,ep,h1,h2,_⟩:=(show ObjOk X.prog X.w H s.heap p (.dT kvs) from I.hok p _ h)
 exact⟨o,h1,h2.1⟩
theorem zaq1:∀ {a b:List (Int×Int)},pkv a=pkv b→a=b
 |[],[],_=>rfl
 |[],_::_,h=>by simp [pkv]at h
 |_::_,[],h=>by simp [pkv]at h
 |(x,y)::a,(z,w)::b,h=>by
  simp only [pkv,zaz3,List.cons.injEq,Prod.mk.injEq,Sum.inl.injEq,and_true]at h
  rw [h.1.1,h.1.2,zaq1 (a:=a) (b:=b) h.2]
theorem zip_inj {ks ks':List Key}{vs vs':List V} (l:ks.length=vs.length) (l':ks'.length=vs'.length) (h:mkKV ks vs=mkKV ks' vs'):ks=ks'∧vs=vs':=by
 unfold mkKV at h
 have h1:=congrArg (List.map Prod.fst) h
 have h2:=congrArg (List.map Prod.snd) h
 rw [zbo7 (by lia),zbo7 (by lia)]at h1
 rw [zbo8 (by lia),zbo8 (by lia)]at h2
 exact⟨h1,h2⟩
theorem Rep.injR {pins:List (Addr×Obj)}{s:zaz0}{σ:L2.St}{H:Hp} (I:Inv X pins σ H s):(∀ {d:D}{v:V},Rep X.K H d v→∀e,Rep X.K H e v→d=e)∧∀ {ds:List D}{vs:List V},Reps X.K H ds vs→∀es,Reps X.K H es vs→ds=es:=by
 have cl:∀ {p:Addr}{A B:String},(∃o,s.heap.get? p=some o∧o.cls=.type A)→(∃o,s.heap.get? p=some o∧o.cls=.type B)→A≠B→False:=fun ⟨o,e,c⟩ ⟨o',e',c'⟩ n=>by
  rw [e]at e';cases e'
  rw [c]at c';injection c' with c';exact n c'
 have ct:∀ {p:Addr}{vs:List V},SqT X.K H p vs→∃o,s.heap.get? p=some o∧o.cls=.type "tuple":=fun h=>by
  obtain⟨its,_,⟨o,e,c,_⟩,_⟩:=I.tuple h
  exact⟨o,e,c⟩
 have cL:∀ {p:Addr}{vs:List V},SqL X.K H p vs→∃o,s.heap.get? p=some o∧o.cls=.type "list":=fun h=>by
  obtain⟨its,_,⟨o,n,e,c,_⟩,_⟩:=I.list h
  exact⟨o,e,c⟩
 have key:∀ {d:D}{v:V},Rep X.K H d v→∀e,Rep X.K H e v→d=e:=fun h=>by
  refine Rep.rec (motive_1:=fun d v _ => ∀e,Rep X.K H e v→d=e) (motive_2:=fun ds vs _ => ∀es,Reps X.K H es vs→ds=es) ?_ ?_ ?_ ?_ ?_ ?_ ?_ ?_ ?_ ?_ h
  ·intro e h';cases h';rfl
  ·intro b e h';cases h';rfl
  ·intro b e h';cases h';rfl
  ·intro b e h';cases h';rfl
  ·intro ds p vs h1 r1 ih e h'
   cases h' with
   |tup h2 r2 =>
    have ev:=I.tuple_inj h1 h2
    subst ev
    rw [ih _ r2]
   |lst h2 r2=>exact (cl (ct h1) (cL h2) (by decide +kernel)).elim
   |dct _ h2 r2=>exact (cl (ct h1) (zv4 I h2) (by decide +kernel)).elim
   |pdc h2=>exact (cl (ct h1) (zu5 I h2) (by decide +kernel)).elim
  ·intro ds p vs h1 r1 ih e h'
   cases h' with
   |tup h2 r2=>exact (cl (cL h1) (ct h2) (by decide +kernel)).elim
   |lst h2 r2 =>
    have ev:=I.list_inj h1 h2
    subst ev
    rw [ih _ r2]
   |dct _ h2 r2=>exact (cl (cL h1) (zv4 I h2) (by decide +kernel)).elim
   |pdc h2=>exact (cl (cL h1) (zu5 I h2) (by decide +kernel)).elim
  ·intro ks ds p vs l1 h1 r1 ih e h'
   cases h' with
   |tup h2 r2=>exact (cl (zv4 I h1) (ct h2) (by decide +kernel)).elim
   |lst h2 r2=>exact (cl (zv4 I h1) (cL h2) (by decide +kernel)).elim
   |dct l2 h2 r2 =>
    rw [h1]at h2
    obtain⟨e1,e2⟩:=zip_inj l1 l2 (by injection h2 with h2;injection h2)
    subst e1 e2
    rw [ih _ r2]
   |pdc h2=>rw [h1]at h2;cases h2
  ·intro ps p h1 e h'
   cases h' with
   |tup h2 r2=>exact (cl (zu5 I h1) (ct h2) (by decide +kernel)).elim
   |lst h2 r2=>exact (cl (zu5 I h1) (cL h2) (by decide +kernel)).elim
   |dct _ h2 r2=>rw [h1]at h2;cases h2
   |pdc h2 =>
    rw [h1]at h2
    injection h2 with h2
    injection h2 with h2
    rw [zaq1 h2]
  ·intro es h';cases h';rfl
  ·intro d v ds vs h r ih1 ih2 es h'
   cases h' with
   |cons h' r'=>rw [ih1 _ h',ih2 _ r']
 refine⟨key,fun {ds vs} h=>?_⟩
 induction ds generalizing vs with
 |nil=>intro es h';cases h;cases h';rfl
 |cons d ds ih =>
  intro es h'
  cases h with
  |cons h r =>
   cases h' with
   |cons h' r'=>rw [key h _ h',ih r _ r']
theorem Rep.inj {pins:List (Addr×Obj)}{s:zaz0}{σ:L2.St}{H:Hp} (I:Inv X pins σ H s) {d e:D}{v:V} (h:Rep X.K H d v) (h':Rep X.K H e v):d=e:=(Rep.injR I).1 h e h'
mutual
theorem zau8:∀ {a b:D},eqD a b=true↔a=b
 |.non,b=>by cases b<;>simp [eqD]
 |.bl _,b=>by cases b<;>simp [eqD]
 |.int _,b=>by cases b<;>simp [eqD]
 |.str _,b=>by cases b<;>simp [eqD]
 |.tup xs,b=>by
  cases b with
  |tup ys=>simp only [eqD,D.tup.injEq];exact eqDs_iff
  |_=>simp [eqD]
 |.lst xs,b=>by
  cases b with
  |lst ys=>simp only [eqD,D.lst.injEq];exact eqDs_iff
  |_=>simp [eqD]
 |.dct ks xs,b=>by
  cases b with
  |dct ks' ys=>simp only [eqD,D.dct.injEq,zay4,decide_eq_true_eq];rw [eqDs_iff (a:=xs) (b:=ys)]
  |_=>simp [eqD]
 |.pdc a,b=>by cases b<;>simp [eqD]
theorem eqDs_iff:∀ {a b:List D},eqDs a b=true↔a=b
 |[],b=>by cases b<;>simp [eqDs]
 |x::xs,b=>by
  cases b with
  |nil=>simp [eqDs]
  |cons y ys =>
   simp only [eqDs,zay4,List.cons.injEq]
   rw [zau8 (a:=x) (b:=y),eqDs_iff (a:=xs) (b:=ys)]
end
theorem eqD_true {a b:D}:eqD a b=true↔a=b:=zau8
theorem eqD_false {a b:D}:eqD a b=false↔¬ a=b:=by rw [← eqD_true];simp
def eAt (xs ys:List D) (j:Nat):Bool:=match xs[j]?,ys[j]? with
 |some a,some b=>eqD a b
 |_,_=>true
end
end DL
namespace DL
open PySem.Spec L2
theorem PlainL.isL {h:Heap}{a:Addr}{its:Array Value} (p:PlainL h a its):h.IsList a its:=by
 obtain⟨o,n,e,c,_,d⟩:=p
 exact⟨o,e,c,n,d⟩
section
variable {X:Cx}{F:List Addr}{a b c:Expr}{es:List Expr}{fa fb fc:DE}{g g1 g2:DS}{ft fu:DT}{pos:Pos}{st:Stmt}{rest:List Stmt}{tg:Expr}{gt:TG}{kt:D→Th→Option Th}
def scD:D→Bool
 |.tup _=>false
 |.lst _=>false
 |.dct _ _=>false
 |.pdc _=>false
 |_=>true
theorem eqV_D {K:zax7}{H:Hp}{n:Nat}{d e:D}{v u:V} (r:Rep K H d v) (q:Rep K H e u) (s1:scD d=true) (s2:scD e=true) (ok:eqOk n d e=true):zau6 v=true∧zau6 u=true∧eqV v u=eqD d e:=by
 cases r<;>cases q<;>simp_all [scD,eqOk,zau6,eqV,eqD]
 all_goals (rw [zbe0];simp)
theorem zab0 {xs ys:List D} (h:xs.length=ys.length):(zbb6 xs.length).all (eAt xs ys)=eqD (.lst xs) (.lst ys):=by
 rw [zbe0,eqD_true,zbc2]
 constructor
 ·intro hh
  congr 1
  apply zbo9 h
  intro i h1 h2
  have:=hh i (zbi0.mpr h1)
  simp only [eAt,zay3 h1,zay3 h2]at this
  exact eqD_true.mp this
 ·intro hh i hi
  injection hh with hh
  subst hh
  simp only [eAt]
  split
  ·rename_i a b z1 z2
   rw [z1]at z2;cases z2
   exact eqD_true.mpr rfl
  ·rfl
theorem zaa9 {xs ys:List D}:((zbb6 (min xs.length ys.length)).all (eAt xs ys)&&xs.length == ys.length)=eqD (.tup xs) (.tup ys):=by
 by_cases h:xs.length=ys.length
 ·have e:min xs.length ys.length=xs.length:=by lia
  rw [e,zab0 h,beq_iff_eq.mpr h,Bool.and_true]
  rw [zbe0,eqD_true,eqD_true]
  simp
 ·have e:(xs.length == ys.length)=false:=by simpa using h
  rw [e,Bool.and_false]
  symm
  rw [eqD_false]
  intro z
  injection z with z
  exact h (by rw [z])
theorem zaf7 {n:Nat}{xs ys:List D} (h:((xs.zip ys).all fun p=>eqOk n p.1 p.2)=true) {j:Nat}{x y:D} (hx:xs[j]?=some x) (hy:ys[j]?=some y):eqOk n x y=true:=by
 rw [zbc2]at h
 refine h (x,y) (zbm2 (i:=j) ?_)
 rw [List.getElem?_zip_eq_some]
 exact⟨hx,hy⟩
theorem zad3 {A:Around}:A.in1.units=A.units+1:=rfl
theorem Vals.getL {vs:List V}{us:List Value} (h:Vals vs us) {j:Nat} (hj:j<us.toArray.size):∃v,vs[j]?=some v∧RelV v us.toArray[j]:=by
 have hj':j<vs.length:=by rw [h.length];simpa using hj
 obtain⟨u,e,r⟩:=Vals.get h (zay3 hj')
 refine⟨_,zay3 hj',?_⟩
 have:us.toArray[j]=u:=by
  have hj2:j<us.length:=by simpa using hj
  have:=zay3 hj2
  rw [e]at this
  simpa using (Option.some.inj this).symm
 rw [this];exact r
theorem eqAt_D {pins:List (Addr×Obj)}{s:zaz0}{σ:L2.St}{H:Hp} (I:Inv X pins σ H s):∀(n:Nat) (A:Around) (d e:D) (v u:V) (y z:Value),A.units+n<cLine→eqOk n d e=true→Rep X.K H d v→Rep X.K H e u→RelV v y→RelV u z→SeqAt.EqAt A s y z (eqD d e):=by
 intro n
 induction n with
 |zero =>
  intro A d e v u y z hu ok r q ry rz
  have s1:scD d=true:=by cases d<;>cases e<;>simp_all [scD,eqOk]
  have s2:scD e=true:=by cases d<;>cases e<;>simp_all [scD,eqOk]
  obtain⟨f1,f2,ee⟩:=eqV_D r q s1 s2 ok
  rw [← ee]
  exact eqAt_V ry rz f1 f2
 |succ n ih =>
  intro A d e v u y z hu ok r q ry rz
  by_cases s1:scD d=true
  ·have s2:scD e=true:=by cases d<;>cases e<;>simp_all [scD,eqOk]
   obtain⟨f1,f2,ee⟩:=eqV_D r q s1 s2 ok
   rw [← ee]
   exact eqAt_V ry rz f1 f2
  ·have hu':A.in1.units+n<cLine:=by rw [zad3];lia
   have hu0:A.units<cLine:=by lia
   cases r with
   |@tup xs p vs h1 h2 =>
    cases q with
    |@tup ys p' ws h1' h2' =>
     cases ry;cases rz
     by_cases z:p=p'
     ·subst z
      have e:=Rep.inj I (.tup h1 h2) (.tup h1' h2')
      rw [eqD_true.mpr e]
      exact SeqAt.EqAt.same _
     ·obtain⟨its,w1,w2,_⟩:=I.tuple h1
      obtain⟨its',w1',w2',_⟩:=I.tuple h1'
      refine SeqAt.EqAt.of_refs z ?_
      have k:=SeqAt.RcAt.tuples (A:=A) (e:=eAt xs ys) w2 w2' hu0 (fun j g1 g2=>by
       obtain⟨v1,a1,a2⟩:=Vals.getL w1 g1
       obtain⟨v2,b1,b2⟩:=Vals.getL w1' g2
       obtain⟨x1,c1,c2⟩:=h2.getV a1
       obtain⟨x2,d1,d2⟩:=h2'.getV b1
       have:=ih A.in1 x1 x2 v1 v2 _ _ hu' (zaf7 (by simpa [eqOk] using ok) c1 d1) c2 d2 a2 b2
       have ee:eAt xs ys j=eqD x1 x2:=by simp only [eAt,c1,d1]
       rw [ee];exact this)
      have l1:its.toArray.size=xs.length:=by have:=w1.length;have:=h2.length;simp;lia
      have l2:its'.toArray.size=ys.length:=by have:=w1'.length;have:=h2'.length;simp;lia
      rw [l1,l2,zaa9]at k
      exact k
    |_=>simp_all [eqOk]
   |@lst xs p vs h1 h2 =>
    cases q with
    |@lst ys p' ws h1' h2' =>
     cases ry;cases rz
     by_cases z:p=p'
     ·subst z
      have e:=Rep.inj I (.lst h1 h2) (.lst h1' h2')
      rw [eqD_true.mpr e]
      exact SeqAt.EqAt.same _
     ·obtain⟨its,w1,w2,_⟩:=I.list h1
      obtain⟨its',w1',w2',_⟩:=I.list h1'
      refine SeqAt.EqAt.of_refs z ?_
      have l1:its.toArray.size=xs.length:=by have:=w1.length;have:=h2.length;simp;lia
      have l2:its'.toArray.size=ys.length:=by have:=w1'.length;have:=h2'.length;simp;lia
      by_cases hl:xs.length=ys.length
      ·have k:=SeqAt.RcAt.lists (A:=A) (e:=eAt xs ys) (PlainL.isL w2) (PlainL.isL w2') (by rw [l1,l2];exact hl) hu0 (fun j g1 g2=>by
        obtain⟨v1,a1,a2⟩:=Vals.getL w1 g1
        obtain⟨v2,b1,b2⟩:=Vals.getL w1' g2
        obtain⟨x1,c1,c2⟩:=h2.getV a1
        obtain⟨x2,d1,d2⟩:=h2'.getV b1
        have:=ih A.in1 x1 x2 v1 v2 _ _ hu' (zaf7 (by simpa [eqOk] using ok) c1 d1) c2 d2 a2 b2
        have ee:eAt xs ys j=eqD x1 x2:=by simp only [eAt,c1,d1]
        rw [ee];exact this)
       rw [l1,zab0 hl]at k
       exact k
      ·have ee:eqD (.lst xs) (.lst ys)=false:=eqD_false.mpr fun z=>hl (by injection z with z;rw [z])
       rw [ee]
       exact SeqAt.RcAt.lists_lengths (PlainL.isL w2) (PlainL.isL w2') (by rw [l1,l2];simpa using hl) hu0
    |_=>simp_all [eqOk]
   |dct=>exact absurd ok (by cases e<;>simp [eqOk])
   |pdc=>exact absurd ok (by cases e<;>simp [eqOk])
   |_=>simp_all [scD]
theorem zaj6 {pins:List (Addr×Obj)}{s:zaz0}{σ:L2.St}{H:Hp} (I:Inv X pins σ H s) {n:Nat}{A:Around}{xs ys:List D}{vs ws:List V}{its its':List Value} (hu:A.units+n+1<cLine) (ok:((xs.zip ys).all fun p=>eqOk n p.1 p.2)=true)
  (h2:Reps X.K H xs vs) (h2':Reps X.K H ys ws) (w1:Vals vs its) (w1':Vals ws its'):∀j (g1:j<its.toArray.size) (g2:j<its'.toArray.size),SeqAt.EqAt A.in1 s its.toArray[j] its'.toArray[j] (eAt xs ys j):=fun j g1 g2=>by
 obtain⟨v1,a1,a2⟩:=Vals.getL w1 g1
 obtain⟨v2,b1,b2⟩:=Vals.getL w1' g2
 obtain⟨x1,c1,c2⟩:=h2.getV a1
 obtain⟨x2,d1,d2⟩:=h2'.getV b1
 have:=eqAt_D I n A.in1 x1 x2 v1 v2 _ _ (by rw [zad3];lia) (zaf7 ok c1 d1) c2 d2 a2 b2
 have ee:eAt xs ys j=eqD x1 x2:=by simp only [eAt,c1,d1]
 rw [ee];exact this
def kEq:Ev→Ev→Option Ev:=fun r1 r2=>if eqOk 6 r1.d r2.d then some (.cl (.bl (eqD r1.d r2.d))) else none
def kNe:Ev→Ev→Option Ev:=fun r1 r2=>if eqOk 6 r1.d r2.d then some (.cl (.bl (!eqD r1.d r2.d))) else none
theorem scal_D {K:zax7}{H:Hp}{n:Nat}{d e:D}{v u:V} (r:Rep K H d v) (q:Rep K H e u) (s1:scD d=true) (ok:eqOk n d e=true):scal v u=true∧decide (v=u)=eqD d e:=by
 cases r<;>cases q<;>simp_all [scD,eqOk,scal,eqD]
theorem od_eq (hu:X.A.units+64<cLine):OpD X F (compareOp .Eq) kEq:=by
 intro pins s σ H0 H A x y v u Q r1 r2 r I m g0 rx ry q1 q2 e hq
 unfold kEq at e
 split at e
 case isFalse=>cases e
 rename_i ok
 cases e
 have p1:=q1.full
 have p2:=q2.full
 by_cases s1:scD r1.d=true
 ·obtain⟨a1,a2⟩:=scal_D p1 p2 s1 ok
  exact op_eq pins s σ H x y v u Q I rx ry ⟨a1,by rw [a2];exact hq _ H (Same.refl H) (.bl _)⟩
 ·generalize r1.d=d1 at *
  generalize r2.d=d2 at *
  have hu0:X.A.units<cLine:=by lia
  cases p1 with
  |@tup xs p vs h1 h2 =>
   cases p2 with
   |@tup ys p' ws h1' h2' =>
    cases rx;cases ry
    obtain⟨its,w1,w2,_⟩:=I.tuple h1
    obtain⟨its',w1',w2',_⟩:=I.tuple h1'
    have l1:its.toArray.size=xs.length:=by have:=w1.length;have:=h2.length;simp;lia
    have l2:its'.toArray.size=ys.length:=by have:=w1'.length;have:=h2'.length;simp;lia
    refine SeqAt.eq_tupleAt w2 w2' hu0 (zaj6 I (n:=5) (by lia) (by simpa [eqOk] using ok) h2 h2' w1 w1') ?_
    rw [l1,l2,zaa9]
    exact⟨.bl _,H,I,rfl,hq _ H (Same.refl H) (.bl _)⟩
   |_=>simp_all [eqOk]
  |@lst xs p vs h1 h2 =>
   cases p2 with
   |@lst ys p' ws h1' h2' =>
    cases rx;cases ry
    obtain⟨its,w1,w2,_⟩:=I.list h1
    obtain⟨its',w1',w2',_⟩:=I.list h1'
    have l1:its.toArray.size=xs.length:=by have:=w1.length;have:=h2.length;simp;lia
    have l2:its'.toArray.size=ys.length:=by have:=w1'.length;have:=h2'.length;simp;lia
    by_cases hl:xs.length=ys.length
    ·refine SeqAt.eq_listAt (PlainL.isL w2) (PlainL.isL w2') (by rw [l1,l2];exact hl) hu0 (zaj6 I (n:=5) (by lia) (by simpa [eqOk] using ok) h2 h2' w1 w1') ?_
     rw [l1,zab0 hl]
     exact⟨.bl _,H,I,rfl,hq _ H (Same.refl H) (.bl _)⟩
    ·have ee:eqD (.lst xs) (.lst ys)=false:=eqD_false.mpr fun z=>hl (by injection z with z;rw [z])
     rw [ee]at hq
     exact SeqAt.eq_list_lengthsAt (PlainL.isL w2) (PlainL.isL w2') (by rw [l1,l2];simpa using hl) hu0 ⟨.bl _,H,I,rfl,hq _ H (Same.refl H) (.bl _)⟩
   |_=>simp_all [eqOk]
  |dct=>exact absurd ok (by cases d2<;>simp [eqOk])
  |pdc=>exact absurd ok (by cases d2<;>simp [eqOk])
  |_=>simp_all [scD]
theorem zw7 (hu:X.A.units+64<cLine):OpD X F (compareOp .NotEq) kNe:=by
 intro pins s σ H0 H A x y v u Q r1 r2 r I m g0 rx ry q1 q2 e hq
 unfold kNe at e
 split at e
 case isFalse=>cases e
 rename_i ok
 cases e
 have p1:=q1.full
 have p2:=q2.full
 by_cases s1:scD r1.d=true
 ·obtain⟨a1,a2⟩:=scal_D p1 p2 s1 ok
  exact op_ne pins s σ H x y v u Q I rx ry ⟨a1,by rw [a2];exact hq _ H (Same.refl H) (.bl _)⟩
 ·generalize r1.d=d1 at *
  generalize r2.d=d2 at *
  have hu0:X.A.units<cLine:=by lia
  cases p1 with
  |@tup xs p vs h1 h2 =>
   cases p2 with
   |@tup ys p' ws h1' h2' =>
    cases rx;cases ry
    obtain⟨its,w1,w2,_⟩:=I.tuple h1
    obtain⟨its',w1',w2',_⟩:=I.tuple h1'
    have l1:its.toArray.size=xs.length:=by have:=w1.length;have:=h2.length;simp;lia
    have l2:its'.toArray.size=ys.length:=by have:=w1'.length;have:=h2'.length;simp;lia
    have k:=SeqAt.RcNeAt.tuples (A:=X.A) w2 w2' hu0 (zaj6 I (n:=5) (by lia) (by simpa [eqOk] using ok) h2 h2' w1 w1')
    rw [l1,l2,zaa9]at k
    exact k _ _ _ _ ⟨.bl _,H,I,rfl,hq _ H (Same.refl H) (.bl _)⟩
   |_=>simp_all [eqOk]
  |@lst xs p vs h1 h2 =>
   cases p2 with
   |@lst ys p' ws h1' h2' =>
    cases rx;cases ry
    obtain⟨its,w1,w2,_⟩:=I.list h1
    obtain⟨its',w1',w2',_⟩:=I.list h1'
    have l1:its.toArray.size=xs.length:=by have:=w1.length;have:=h2.length;simp;lia
    have l2:its'.toArray.size=ys.length:=by have:=w1'.length;have:=h2'.length;simp;lia
    by_cases hl:xs.length=ys.length
    ·have k:=SeqAt.RcNeAt.lists (A:=X.A) (PlainL.isL w2) (PlainL.isL w2') (by rw [l1,l2];exact hl) hu0 (zaj6 I (n:=5) (by lia) (by simpa [eqOk] using ok) h2 h2' w1 w1')
     rw [l1,zab0 hl]at k
     exact k _ _ _ _ ⟨.bl _,H,I,rfl,hq _ H (Same.refl H) (.bl _)⟩
    ·have ee:eqD (.lst xs) (.lst ys)=false:=eqD_false.mpr fun z=>hl (by injection z with z;rw [z])
     rw [ee]at hq
     exact SeqAt.RcNeAt.lists_lengths (A:=X.A) (PlainL.isL w2) (PlainL.isL w2') (by rw [l1,l2];simpa using hl) hu0 _ _ _ _ ⟨.bl _,H,I,rfl,hq _ H (Same.refl H) (.bl _)⟩
   |_=>simp_all [eqOk]
  |dct=>exact absurd ok (by cases d2<;>simp [eqOk])
  |pdc=>exact absurd ok (by cases d2<;>simp [eqOk])
  |_=>simp_all [scD]
noncomputable def tyD:D→String
 |.non => "NoneType"
 |.bl _ => "bool"
 |.int _ => "int"
 |.str _ => "str"
 |.tup _ => "tuple"
 |.lst _ => "list"
 |.dct _ _ => "dict"
 |.pdc _ => "dict"
def isiT (d:D) (T:String):Bool:=tyD d == T||(tyD d == "bool"&&T == "int")
def dIsi (T:String) (f:DE):DE:=fun t=>(f t).bind fun r=>some (.cl (.bl (isiT r.d T)))
def IsiOk (K:zax7) (T:String):Prop := ∀d:D,PySem.W.kitOne K (.type (tyD d)) (.type T)=some (isiT d T)
theorem zaq8 {T:String}{x:Str}{p p2:Pos} (ok:IsiOk X.K T) (ha:PE X a (dE X.K F fa)) (hg:Gl X "isinstance") (hm:X.mg "isinstance"=none) (hgT:Gl X x) (hmT:X.mg x=none) (hvT:bootBuiltins x=some (.type T)) (hnT:x≠"__name__":=by decide) (hdT:(x ==("__debug__":Str))=false:=by decide)
  (he:zaz1 (a::[Expr.Name x p2]) X.env=(false,eval a X.env)::zaz1 [.Name x p2] X.env:=by rfl) (he2:zaz1 [Expr.Name x p2] X.env=[(false,eval (.Name x p2) X.env)]:=by rfl) (hpl:(zbd7 pos (zaz1 [Expr.Name x p2] X.env)).any (·.1)=false:=by rfl) :
  PE X (.Call (.Name "isinstance" p) [a,.Name x p2] [] pos) (dE X.K F (dIsi T fa)):=by
 have rule:zn1 X (.builtin "isinstance") (fun xs H Q => ∃v d,xs=[v,.ty T]∧Rep X.K H d v∧Q (.bl (isiT d T)) H):=by
  intro pins s σ H xs us Q I r h
  obtain⟨v,d,rfl,rp,hq⟩:=h
  obtain⟨u,w',rfl,r1,r2⟩:=vals2 r
  cases (show w'=Value.type T from r2)
  have fin:∀tk,EP X pins σ Q (.bool (isiT d T)) { s with toks:=tk }:=fun tk=>⟨.bl _,H,I.tok tk,rfl,hq⟩
  have e:=ok d
  cases rp with
  |non=>cases (show u=Value.none from r1);exact zbe1 PySem.W.kitx_none I.kIn True.intro e (fun z=>nomatch z) fin
  |bl y=>cases (show u=Value.bool y from r1);exact zbe1 PySem.W.kitx_bool I.kIn True.intro e (fun z=>nomatch z) fin
  |int i=>obtain⟨t,q⟩:=(show ∃t,u=Value.int i t from r1);cases q;exact zbe1 PySem.W.kitx_int I.kIn True.intro e (fun z=>nomatch z) fin
  |str y=>obtain⟨t,q⟩:=(show ∃t,u=Value.str y t from r1);cases q;exact zbe1 PySem.W.kitx_str I.kIn True.intro e (fun z=>nomatch z) fin
  |@tup _ p _ h1 h2 =>
   cases (show u=Value.ref p from r1)
   obtain⟨its,_,⟨o,e1,c1,_⟩,_⟩:=I.tuple h1
   exact zbe1 PySem.W.kitx_tuple I.kIn ⟨o,e1,c1⟩ e (fun z=>nomatch z) fin
  |@lst _ p _ h1 h2 =>
   cases (show u=Value.ref p from r1)
   obtain⟨its,_,⟨o,n,e1,c1,_⟩,_⟩:=I.list h1
   exact zbe1 PySem.W.kitx_list I.kIn ⟨o,e1,c1⟩ e (fun z=>nomatch z) fin
  |@dct _ _ p _ _ h1 h2 =>
   cases (show u=Value.ref p from r1)
   exact zbe1 zbn8 I.kIn (zv4 I h1) e (fun z=>nomatch z) fin
  |@pdc _ p h1 =>
   cases (show u=Value.ref p from r1)
   exact zbe1 zbn8 I.kIn (zu5 I h1) e (fun z=>nomatch z) fin
 refine PE.imp (zak6 rule hg hm boot_isinstance (zf1 ha (zf1 (pe_bltn (v:=.ty T) hgT hmT hvT rfl hnT hdT) zi8 he2) he) (by decide) (by decide) he hpl) ?_
 rintro σ H Q ⟨A,t,r,R,e,h⟩
 unfold dIsi at e
 cases e1:fa t with
 |none=>rw [e1]at e;cases e
 |some r1 =>
  rw [e1]at e
  cases e
  exact⟨A,t,r1,R,e1,fun v H' gs q=>⟨v,r1.d,rfl,q.full,h _ H' gs (.bl _)⟩⟩
end
def zx4 (N:List Str) (ds:List D):Th:=ds.map Sl.val++zaz6 (N.length - ds.length) Sl.no
theorem RSl.no_all {K:zax7}{H0 H:Hp}:∀n,RSl K H0 H (zaz6 n Sl.no) (zaz6 n none) []
 |0=>.nil
 |n+1=>.no (RSl.no_all n)
theorem RSl.start {K:zax7}{H0 H:Hp}{t:Th}{σ:L2.St} (r0:RSl K H0 H t σ []):∀ {ds:List D}{vs:List V},Reps K H0 ds vs→RSl K H0 H (ds.map Sl.val++t) (vs.map some++σ) []
 |_,_,.nil=>r0
 |_,_,.cons h r=>.val h (RSl.start r0 r)
def zm6:Out→Option Ev
 |.rt r=>some r
 |.nx _=>some (.cl .non)
 |_=>none
theorem zh6 {P:Program}{w:World}{K:zax7}{mg:Str→Option Value}{base:BHeap}{x qual:Str}{st:Stmt}{f:Addr}{fd:FuncData}{N ps:List Str}{k:Nat}{G:List D→Option Ev} (Fn:L2.Fun K x qual st f fd) (S:FnScope N ps (zb1 st))
  (hlen:∀ds r,G ds=some r→ds.length=ps.length) (g:DS) (hG:∀ds r,G ds=some r→∃o,g (zx4 N ds)=some o∧zm6 o=some r)
  (hbody:∀(cdv:Value) (A:Around) (outer:List Env) (s:zaz0) (H:Hp) (E:XK) (F:List Addr),Room k (A.deeper (envOfC qual (zb1 st) s.heap.objs.size f cdv)) →
   PSs (cxOf CX0 P w K mg base N qual (zb1 st) f cdv A outer s H E).nox (zg5 st) (dS K F g)):FnOk P w K mg base CX0 (k+1) f fd ps (spD K G):=by
 refine Fn.ok S (fun vs H Q E h=>?_) (fun cdv A outer s H vs Q E hr h=>?_)
 ·obtain⟨Fo,ds,r,_,hr,hg,_⟩:=h
  rw [hr.length];exact hlen ds r hg
 ·obtain⟨Fo,ds,r,hl,hr',hg,cont⟩:=h
  obtain⟨o,ho,hoe⟩:=hG ds r hg
  refine⟨_,hbody cdv A outer s H E Fo hr,zav4 (A:=[]) (t:=zx4 N ds) ⟨hl,zba8,fun p hp=>(by cases hp),?_⟩ ho ?_⟩
  ·unfold zx4 L2.start
   rw [hr'.length]
   exact RSl.start (RSl.no_all _) hr'
  ·have sm:∀ {A' H'},Gr [] H A' H'→Same H H':=fun g b o q=>g.kp b o (by simp) q
   cases o with
   |nx t' =>
    cases hoe
    exact fun σ' H' A' g' R'=>cont .non H' (sm g') .non
   |bk t'=>cases hoe
   |ct t'=>cases hoe
   |rt r' =>
    cases hoe
    intro v H' A' g' q
    refine cont v H' (sm g') ?_
    cases r with
    |cl d=>exact q
    |tm d=>exact q
    |nw xs =>
     obtain⟨p,vs',rfl,h1,h2,h3,h4⟩:=q
     rcases h1 with h1 | h1
     ·cases h1
     ·exact⟨p,vs',rfl,h1,h3,h4⟩
    |dn d =>
     obtain⟨B,h1,h2,h3⟩:=q
     exact⟨B,h1,fun b hb=>by rcases (h2 b hb).1 with z | z;cases z;exact z,h3⟩
end DL
namespace DL
open PySem.Spec L2
structure Cal (P:Program) (w:World) (K:zax7) (mg:Str→Option Value) (base:BHeap) (x:Str) (k:Nat) (G:List D→Option Ev):Prop where
 ex:∃(a:Addr) (fd:FuncData) (ps:List Str),mg x=some (.ref a)∧zbc1 K (.ref a)=true∧L2.Binds K fd ps []∧FnOk P w K mg base CX0 k a fd ps (spD K G)
section
variable {X:Cx}{F:List Addr}{a b c:Expr}{es:List Expr}{fa fb fc:DE}{ga:DA}{pos:Pos}
theorem zc3 {k:Nat}{G:List D→Option Ev}{x:Str}{p:Pos} (c:Cal X.prog X.w X.K X.mg X.base x k G) (hr:Room k X.A) (ha:PA X (a::es) (dA X.K F ga)) (hg:Gl X x:=by rfl) (hdb:(x ==("__debug__":Str))=false:=by decide)
  (he:zaz1 (a::es) X.env=(false,eval a X.env)::zaz1 es X.env:=by rfl) (hpl:(zbd7 pos (zaz1 es X.env)).any (·.1)=false:=by rfl):PE X (.Call (.Name x p) (a::es) [] pos) (dE X.K F (dT1 (zd3 G) ga)):=by
 obtain⟨f,fd,ps,h1,h2,h3,h4⟩:=c.ex
 exact ped_call h4 hr hg h1 h2 h3 ha hdb he hpl
end
structure Df (K:zax7) (mg:Str→Option Value) (x:Str) (st:Stmt) (ps:List Str) (a:Addr) (fd:FuncData):Prop where
 fn:L2.Fun K x x st a fd
 mgx:mg x=some (.ref a)
 bd:L2.Binds K fd ps []
theorem Df.cal {P:Program}{w:World}{K:zax7}{mg:Str→Option Value}{base:BHeap}{x:Str}{st:Stmt}{ps:List Str}{a:Addr}{fd:FuncData}{k:Nat}{G:List D→Option Ev} (d:Df K mg x st ps a fd) (h:FnOk P w K mg base CX0 k a fd ps (spD K G)):Cal P w K mg base x k G :=
 ⟨a,fd,ps,d.mgx,d.fn.kp,d.bd,h⟩
theorem zau1 {K:zax7}:IsiOk K "tuple":=fun d=>by cases d<;>rfl
theorem isi_list {K:zax7}:IsiOk K "list":=fun d=>by cases d<;>rfl
theorem bt_tuple:bootBuiltins "tuple"=some (.type "tuple"):=by decide +kernel
theorem zaj1:bootBuiltins "list"=some (.type "list"):=by decide +kernel
theorem bt_abs:bootBuiltins "abs"=some (.builtin "abs"):=by decide +kernel
end DL
namespace DL
open PySem.Spec L2
theorem cut1 {n:Nat}:∀ {us:List Value},us.length=n+1→∃a t,us=a::t∧t.length=n
 |a::t,h=>⟨a,t,rfl,Nat.succ.inj h⟩
theorem binds0 {K:zax7}{x qual:Str}{st:Stmt}{f:Addr}{fd:FuncData} (F:L2.Fun K x qual st f fd) (h:∀(kV doc pm:Value) (an:Option Addr) (cdv ct:Value),bindArgs (zbc9 x qual (zj1 st) (zg5 st) (zb1 st) .none kV doc pm an cdv ct) ⟨[],[]⟩=pure []):Binds K fd [] [] :=
 F.binds fun kV doc pm an cdv ct u0 h0=>by
  cases zbc3.mp h0
  exact h kV doc pm an cdv ct
theorem zaf1 {K:zax7}{x qual:Str}{st:Stmt}{f:Addr}{fd:FuncData}{p0:Str} (F:L2.Fun K x qual st f fd) (h:∀(kV doc pm:Value) (an:Option Addr) (cdv ct:Value),∀a0:Value,bindArgs (zbc9 x qual (zj1 st) (zg5 st) (zb1 st) .none kV doc pm an cdv ct) ⟨[a0],[]⟩=pure [(p0,a0)]):Binds K fd [p0] [] :=
 F.binds fun kV doc pm an cdv ct u0 h0=>by
  obtain⟨a0,u1,rfl,h1⟩:=cut1 h0
  cases zbc3.mp h1
  exact h kV doc pm an cdv ct a0
theorem zw1 {K:zax7}{x qual:Str}{st:Stmt}{f:Addr}{fd:FuncData}{p0 p1:Str} (F:L2.Fun K x qual st f fd) (h:∀(kV doc pm:Value) (an:Option Addr) (cdv ct:Value),∀a0 a1:Value,bindArgs (zbc9 x qual (zj1 st) (zg5 st) (zb1 st) .none kV doc pm an cdv ct) ⟨[a0,a1],[]⟩=pure [(p0,a0),(p1,a1)]):Binds K fd [p0,p1] [] :=
 F.binds fun kV doc pm an cdv ct u0 h0=>by
  obtain⟨a0,u1,rfl,h1⟩:=cut1 h0
  obtain⟨a1,u2,rfl,h2⟩:=cut1 h1
  cases zbc3.mp h2
  exact h kV doc pm an cdv ct a0 a1
theorem zax0 {K:zax7}{x qual:Str}{st:Stmt}{f:Addr}{fd:FuncData}{p0 p1 p2:Str} (F:L2.Fun K x qual st f fd) (h:∀(kV doc pm:Value) (an:Option Addr) (cdv ct:Value),∀a0 a1 a2:Value,bindArgs (zbc9 x qual (zj1 st) (zg5 st) (zb1 st) .none kV doc pm an cdv ct) ⟨[a0,a1,a2],[]⟩=pure [(p0,a0),(p1,a1),(p2,a2)]):Binds K fd [p0,p1,p2] [] :=
 F.binds fun kV doc pm an cdv ct u0 h0=>by
  obtain⟨a0,u1,rfl,h1⟩:=cut1 h0
  obtain⟨a1,u2,rfl,h2⟩:=cut1 h1
  obtain⟨a2,u3,rfl,h3⟩:=cut1 h2
  cases zbc3.mp h3
  exact h kV doc pm an cdv ct a0 a1 a2
theorem binds4 {K:zax7}{x qual:Str}{st:Stmt}{f:Addr}{fd:FuncData}{p0 p1 p2 p3:Str} (F:L2.Fun K x qual st f fd) (h:∀(kV doc pm:Value) (an:Option Addr) (cdv ct:Value),∀a0 a1 a2 a3:Value,bindArgs (zbc9 x qual (zj1 st) (zg5 st) (zb1 st) .none kV doc pm an cdv ct) ⟨[a0,a1,a2,a3],[]⟩=pure [(p0,a0),(p1,a1),(p2,a2),(p3,a3)]):Binds K fd [p0,p1,p2,p3] [] :=
 F.binds fun kV doc pm an cdv ct u0 h0=>by
  obtain⟨a0,u1,rfl,h1⟩:=cut1 h0
  obtain⟨a1,u2,rfl,h2⟩:=cut1 h1
  obtain⟨a2,u3,rfl,h3⟩:=cut1 h2
  obtain⟨a3,u4,rfl,h4⟩:=cut1 h3
  cases zbc3.mp h4
  exact h kV doc pm an cdv ct a0 a1 a2 a3
inductive Hv (K:zax7) (x:Str) (st:Stmt) (f:Addr):Prop
 |mk {od an:Option Addr}{sl:Array (Option Value)}{oc kV dc pm cd ct:Value} (a:zbd0 K mainGlobals x=some (some (.ref f))) (l:K.lookup f=some ⟨oc,od,.func (zbc9 x x (zj1 st) (zg5 st) (zb1 st) .none kV dc pm an cd ct),sl⟩) (c:zbk0 K cd x=true) (k:zbc1 K (.ref f)=true):Hv K x st f
theorem Hv.fn {K:zax7}{x:Str}{st:Stmt}{f:Addr} (h:Hv K x st f):∃fd,L2.Fun K x x st f fd:=by
 cases h with
 |mk a l c k=>exact⟨_,fun_mk l c k⟩
theorem Hv.mg {K:zax7}{x:Str}{st:Stmt}{f:Addr}{hp:Heap}{mg:Str→Option Value} (h:Hv K x st f) (X:K.In hp) (G:hp.Ns mainGlobals mg):mg x=some (.ref f):=by
 cases h with
 |mk a l c k=>exact PySem.W.mg_of X G a
theorem zm2 {N P:List Str}{sc:Scope} (h1:sc.kind=.function) (h2:sc.isCoroutine=false) (h3:sc.isGenerator=false) (h5:N.take P.length=P) (h:(decide N.Nodup&&(decide (∀x∈P,sc.names.lookup x=some .local∨sc.names.lookup x=some .cell)&&decide (∀y∈sc.names,y.2≠.free)))=true):FnScope N P sc:=by
 rw [zay4,zay4,decide_eq_true_eq,decide_eq_true_eq,decide_eq_true_eq]at h
 exact⟨h1,h2,h3,h.1,h5,h.2.1,h.2.2⟩
theorem Hv.bt {K:zax7}{x:Str}{st:Stmt}{f:Addr}{fd:FuncData}{p:Str} (F:L2.Fun K x x st f fd) (h:∀(kV doc pm:Value) (an:Option Addr) (cdv ct:Value) (v:Value),bindArgs (zbc9 x x (zj1 st) (zg5 st) (zb1 st) .none kV doc pm an cdv ct) ⟨[v],[]⟩=pure [(p,v)]) (s:zaz0) (v:Value):BindsTo s fd ⟨[v],[]⟩ [(p,v)]:=by
 obtain⟨oc,od,kV,doc,pm,an,cdv,ct,osl,rfl,lk,hcd⟩:=F.ex
 exact .of_eq (h ..)
def locB (sc:Scope) (x:Str):Bool:=match sc.names.lookup x with
 |some .local=>true
 |some .cell=>true
 |_=>false
theorem zb0 {sc:Scope}{x:Str} (h:locB sc x=true):L2.Loc sc x:=by
 unfold locB at h
 unfold L2.Loc
 cases e:sc.names.lookup x with
 |none=>rw [e]at h;cases h
 |some k=>rw [e]at h;cases k<;>first | exact .inl rfl | exact .inr rfl | cases h
end DL
namespace L2
open PySem.Spec
noncomputable def clOf (cells:List (Str×Addr)):List (Str×NameKind)→List (Str×Addr)→List (Str×Addr)
 |[],acc=>acc
 |(n,k)::r,acc=>if k == .free then clOf cells r ((n,(cells.lookup n).getD 0)::acc) else clOf cells r acc
theorem zp2 {cells:List (Str×Addr)}:∀ {names:List (Str×NameKind)}{acc:List (Str×Addr)}{x:Str}{c:Addr},(∀y∈names,y.2=.free→∃c,cells.lookup y.1=some c)→(clOf cells names acc).lookup x=some c→acc.lookup x=some c∨cells.lookup x=some c
 |[],acc,x,c,_,h=>.inl h
 |(n,k)::r,acc,x,c,hy,h=>by
  unfold clOf at h
  have hr:∀y∈r,y.2=.free→∃c,cells.lookup y.1=some c:=fun y h1=>hy y (zax9 _ h1)
  split at h
  ·rename_i hk
   rcases zp2 hr h with z | z
   ·rw [zba9]at z
    split at z
    ·rename_i e
     have e:x=n:=by simpa using e
     obtain⟨c',hc'⟩:=hy (n,k) (zay1 ..) (by simpa using hk)
     simp only [hc',zbl1]at z
     cases z
     rw [e];exact .inr hc'
    ·exact .inl z
   ·exact .inr z
  ·exact zp2 hr h
theorem zv9 {cells:List (Str×Addr)}:∀ {names:List (Str×NameKind)}{acc:List (Str×Addr)}{x:Str},(∃c,acc.lookup x=some c)→∃c,(clOf cells names acc).lookup x=some c
 |[],acc,x,h=>h
 |(n,k)::r,acc,x,h=>by
  unfold clOf
  split
  ·refine zv9 ?_
   rw [zba9]
   split
   ·exact⟨_,rfl⟩
   ·exact h
  ·exact zv9 h
theorem zt2 {cells:List (Str×Addr)}:∀ {names:List (Str×NameKind)}{acc:List (Str×Addr)}{x:Str},(x,NameKind.free)∈names→∃c,(clOf cells names acc).lookup x=some c
 |(n,k)::r,acc,x,h=>by
  unfold clOf
  rcases zay5.mp h with z | z
  ·cases z
   rw [if_pos (by rfl)]
   refine zv9 ⟨(cells.lookup n).getD 0,?_⟩
   simp [zba9]
  ·split
   ·exact zt2 z
   ·exact zt2 z
theorem zn8 {scope:Scope}{env:Env} (h:∀y∈scope.names,y.2=.free→∃c,env.cells.lookup y.1=some c):closureFor scope env=pure (clOf env.cells scope.names []):=by
 unfold closureFor
 have key:∀(names:List (Str×NameKind)) (acc:List (Str×Addr)),(∀y∈names,y.2=.free→∃c,env.cells.lookup y.1=some c) →
   (forIn names acc fun (x:Str×NameKind) (cs:List (Str×Addr))=>(do
    if x.2 == .free then
     let a ← cellOf env x.1
     pure (ForInStep.yield ((x.1,a)::cs))
    else pure (ForInStep.yield cs):Sem (ForInStep (List (Str×Addr)))))=pure (clOf env.cells names acc):=by
  intro names
  induction names with
  |nil=>intro acc _;rfl
  |cons y r ih =>
   intro acc hy
   obtain⟨n,k⟩:=y
   have hr:∀y∈r,y.2=.free→∃c,env.cells.lookup y.1=some c:=fun y h1=>hy y (zax9 _ h1)
   rw [List.forIn_cons]
   unfold clOf
   by_cases hk:(k == NameKind.free)=true
   ·obtain⟨c,hc⟩:=hy (n,k) (zay1 ..) (by simpa using hk)
    have hc':cellOf env n=pure c:=by unfold cellOf;rw [hc]
    simp only [hk,if_true,hc']
    rw [← ih _ hr]
    simp only [hc,zbl1]
    rfl
   ·have hk':(k == NameKind.free)=false:=by simpa using hk
    simp only [hk',zbf6,if_false]
    rw [← ih _ hr]
    rfl
 have:=key scope.names [] h
 simp only [bind_pure_comp]at this ⊢
 rw [this]
 rfl
theorem ze8 {env:Env}:∀ {names:List (Str×NameKind)}{x:Str}{k':NameKind},(names.map fun (n,k)=>if (k == NameKind.free&&env.scope.kind == .function&&env.kindOf n == some .cell) then (n,NameKind.cell) else (n,k)).lookup x=some k' →
  ∃k,(x,k)∈names∧(k'=k∨(k=.free∧k'=.cell))
 |[],x,k',h=>by simp at h
 |(n,k)::r,x,k',h=>by
  rw [zaz3]at h
  by_cases hc:(k == NameKind.free&&env.scope.kind == .function&&env.kindOf n == some .cell)=true
  ·simp only [hc,if_true,zba9]at h
   split at h
   ·rename_i e
    have e:x=n:=by simpa using e
    cases h
    simp only [zay4,beq_iff_eq]at hc
    have hk:k=.free:=by simpa using hc.1.1
    exact⟨k,by rw [e];exact zay1 ..,.inr ⟨hk,rfl⟩⟩
   ·obtain⟨q,a,b⟩:=ze8 h
    exact⟨q,zax9 _ a,b⟩
  ·have hc':(k == NameKind.free&&env.scope.kind == .function&&env.kindOf n == some .cell)=false:=by simpa using hc
   simp only [hc',zbf6,if_false,zba9]at h
   split at h
   ·rename_i e
    have e:x=n:=by simpa using e
    cases h
    exact⟨_,by rw [e];exact zay1 ..,.inl rfl⟩
   ·obtain⟨q,a,b⟩:=ze8 h
    exact⟨q,zax9 _ a,b⟩
theorem zs3 {prog:Program}{w:World}{A:Around}{R:Result→zaz0→Prop}{s:zaz0}{elt target iter:Expr}{ifs:List Expr}{scope:Scope}{pos:Pos}{it acc:Value}{env:Env} (I:Nat→zaz0→Prop)
  (turn:∀n s,I n s→wpAny (model prog w) A (pyNext it) (fun r s₁=>match r with
   |none=>R (.ok .next) s₁
   |some v=>wpAny (model prog w) A (letOwnedTupleGo target it v) (fun _ s₁'=>wpAny (model prog w) A (assign target env v) (fun _ s₂ =>
     wpAny (model prog w) A (forIn ifs true fun c r=>if r=true then do let ok ← isTrue c env (eval c env);pure (ForInStep.yield ok) else pure (ForInStep.yield r)) (fun ok s₃ =>
      if ok=true then wpAny (model prog w) A (eval elt env) (fun x s₄ =>
       wpAny (model prog w) A (call (.builtin "list.append") [acc,x]) (fun _ s₅ => ∃m,m<n∧I m s₅) (fun _ _=>False) s₄) (fun _ _=>False) s₃
      else ∃m,m<n∧I m s₃) (fun _ _=>False) s₂) (fun _ _=>False) s₁') (fun _ _=>False) s₁) (fun _ _=>False) s)
  (n:Nat) (h:I n s):codeAny (model prog w) A (.compLoop (.ListComp elt [⟨target,iter,ifs,0⟩] scope pos) 0 it acc env) R s:=by
 refine codeAny_loop rfl I (fun n s hI=>?_) n h
 show wpAny _ A ((compTurn (.ListComp elt [⟨target,iter,ifs,0⟩] scope pos) 0 it acc env).onRaise (fun x=>do noteFrame x env;theTreesLotGoes x)) _ _ s
 refine wpAny_noted ?_
 rw [compTurn_list]
 refine zaz2 (wpAny_standAt (zaz2 (wpAny_mono (turn n s hI) (fun r s₁ h₁=>?_) fun _ _ h'=>h'.elim)))
 cases r with
 |none=>exact zba5 h₁
 |some v =>
  refine zaz2 (wpAny_mono h₁ (fun _ s₁' h₁'=>?_) fun _ _ h'=>h'.elim)
  refine zaz2 (wpAny_mono h₁' (fun _ s₂ h₂=>zaz2 (wpAny_mono h₂ (fun ok s₃ h₃=>?_) fun _ _ h'=>h'.elim)) fun _ _ h'=>h'.elim)
  cases ok with
  |false=>exact zba5 ⟨rfl,h₃⟩
  |true =>
   exact zaz2 (zaz2 (wpAny_mono h₃ (fun x s₄ h₄=>zaz2 (wpAny_mono h₄ (fun _ s₅ h₅=>zba5 (zba5 ⟨rfl,h₅⟩)) fun _ _ h'=>h'.elim)) fun _ _ h'=>h'.elim))
theorem zaa5 {x:Str}{c:Addr}:∀ {names:List (Str×NameKind)}{n:Nat}{acc:List (Str×Addr)},(cellsFrom n names acc).lookup x=some c→acc.lookup x=some c∨n≤c
 |[],n,acc,h=>.inl h
 |(y,k)::r,n,acc,h=>by
  unfold cellsFrom at h
  split at h
  ·rcases zaa5 h with z | z
   ·rw [zba9]at z
    split at z
    ·cases z;exact .inr (zba1 _)
    ·exact .inl z
   ·exact .inr (by lia)
  ·exact zaa5 h
theorem zal7 {x:Str}:∀ {names:List (Str×NameKind)}{n:Nat}{acc:List (Str×Addr)},(∃c,acc.lookup x=some c)→∃c,(cellsFrom n names acc).lookup x=some c
 |[],n,acc,h=>h
 |(y,k)::r,n,acc,h=>by
  unfold cellsFrom
  split
  ·refine zal7 ?_
   rw [zba9]
   split
   ·exact⟨_,rfl⟩
   ·exact h
  ·exact zal7 h
theorem zai9 {x:Str}:∀ {names:List (Str×NameKind)}{n:Nat}{acc:List (Str×Addr)},(x,NameKind.cell)∈names→∃c,(cellsFrom n names acc).lookup x=some c
 |(y,k)::r,n,acc,h=>by
  unfold cellsFrom
  rcases zay5.mp h with z | z
  ·cases z
   rw [if_pos (by rfl)]
   exact zal7 ⟨n,by simp [zba9]⟩
  ·split
   ·exact zai9 z
   ·exact zai9 z
theorem cf_ge {x:Str}{c:Addr}{lo:Nat}:∀ {names:List (Str×NameKind)}{n:Nat}{acc:List (Str×Addr)},lo≤n→(∀c,acc.lookup x=some c→lo≤c)→(cellsFrom n names acc).lookup x=some c→lo≤c
 |[],n,acc,_,ha,h=>ha c h
 |(y,k)::r,n,acc,hn,ha,h=>by
  unfold cellsFrom at h
  split at h
  ·refine cf_ge (n:=n+1) (by lia) (fun c' h'=>?_) h
   rw [zba9]at h'
   split at h'
   ·cases h';exact hn
   ·exact ha c' h'
  ·exact cf_ge hn ha h
theorem zaw0 {x:Str}{c:Addr}:∀ {names:List (Str×NameKind)}{n:Nat}{acc:List (Str×Addr)},(x,NameKind.cell)∈names→(cellsFrom n names acc).lookup x=some c→n≤c
 |(y,k)::r,n,acc,hm,h=>by
  unfold cellsFrom at h
  rcases zay5.mp hm with z | z
  ·cases z
   rw [if_pos (by rfl)]at h
   refine cf_ge (lo:=n) (n:=n+1) (by lia) (fun c' h'=>?_) h
   rw [zba9,beq_self_eq_true]at h'
   cases h'
   exact zba1 _
  ·split at h
   ·have:=zaw0 z h;lia
   ·exact zaw0 z h
theorem zav9 {x:Str}:∀ {names:List (Str×NameKind)}{n:Nat}{acc:List (Str×Addr)},(x,NameKind.cell)∉names→(cellsFrom n names acc).lookup x=acc.lookup x
 |[],n,acc,_=>rfl
 |(y,k)::r,n,acc,h=>by
  have hr:(x,NameKind.cell)∉r:=fun z=>h (zax9 _ z)
  unfold cellsFrom
  split
  ·rename_i hk
   rw [zav9 hr,zba9]
   split
   ·rename_i e
    exact absurd (zay5.mpr (.inl (by rw [show x=y by simpa using e,show k=NameKind.cell by simpa using hk]))) h
   ·rfl
  ·exact zav9 hr
theorem zaw2:∀ {names:List (Str×NameKind)}{n:Nat}{acc:List (Str×Addr)},(∀x c,acc.lookup x=some c→c<n)→(∀x y c,acc.lookup x=some c→acc.lookup y=some c→x=y) →
  ∀x y c,(cellsFrom n names acc).lookup x=some c→(cellsFrom n names acc).lookup y=some c→x=y
 |[],n,acc,_,hi=>hi
 |(z,k)::r,n,acc,hb,hi=>by
  unfold cellsFrom
  split
  ·refine zaw2 (n:=n+1) (fun x c h=>?_) (fun x y c h1 h2=>?_)
   ·rw [zba9]at h
    split at h
    ·cases h;exact zbc5 _
    ·exact zbf0 (hb x c h)
   ·rw [zba9]at h1 h2
    split at h1
    ·rename_i e1
     cases h1
     split at h2
     ·rename_i e2;rw [show x=z by simpa using e1,show y=z by simpa using e2]
     ·exact absurd (hb y _ h2) (zbd6 _)
    ·split at h2
     ·cases h2;exact absurd (hb x _ h1) (zbd6 _)
     ·exact hi x y c h1 h2
  ·exact zaw2 hb hi
theorem zaj0 {x:Str}{c:Addr}:∀ {names:List (Str×NameKind)}{h:Heap}{acc:List (Str×Addr)},(∀c,acc.lookup x=some c→∃v,h.IsCell c v)→(cellsFrom h.objs.size names acc).lookup x=some c→∃v,(pushCells h names).IsCell c v
 |[],h,acc,ha,e=>ha c e
 |(y,k)::r,h,acc,ha,e=>by
  unfold cellsFrom at e
  unfold pushCells
  split at e
  ·rename_i hk
   rw [if_pos hk]
   rw [show h.objs.size+1=(h.push { cls:=.type "cell",data:=.cell none }).objs.size from (zbg9 ..).symm]at e
   refine zaj0 (fun c' e'=>?_) e
   rw [zba9]at e'
   split at e'
   ·cases e';exact⟨none,_,zbb1 _ rfl,rfl⟩
   ·obtain⟨v,z⟩:=ha c' e'
    exact⟨v,z.keeps fun b o q=>zay6 _ q⟩
  ·rename_i hk
   rw [if_neg hk]
   exact zaj0 ha e
theorem zg8 {M:Model}{A:Around}{E:Value→zaz0→Prop}{s:zaz0}{scope:Scope}{globals:Addr}{cl:List (Str×Addr)}{qual:Str}{func:Option Addr}{code:Value}{env:Env}{builtins:Addr}{Q:Env→zaz0→Prop}
  (hQ:∀h',h'.Ns s.heap.objs.size (fun _=>none)→(∀b o,s.heap.get? b=some o→h'.get? b=some o)→(∀x c,(∀c,cl.lookup x=some c→∃v,s.heap.IsCell c v)→(cellsFrom (s.heap.objs.size+1) scope.names cl).lookup x=some c→∃v,h'.IsCell c v) →
   Q (newEnv scope s.heap.objs.size globals (cellsFrom (s.heap.objs.size+1) scope.names cl) qual func code (some env) builtins) { s with heap:=h',toks:=s.toks }) :
  wpAny M A (newFunctionEnv scope globals cl [] qual func code (some env) builtins) Q E s:=by
 simp only [newFunctionEnv,zbn1,if_true]
 refine zaz2 (wpAny_alloc ?_)
 refine zaz2 (wpAny_layCells _ (fun name kind cells=>by cases hkc:kind == NameKind.cell<;>simp [hkc]) _ _ _ _ ?_)
 have sz:(s.heap.push { cls:=.type "dict",data:=.dict #[] }).objs.size=s.heap.objs.size+1:=zbg9 ..
 rw [show ({ s with heap:=s.heap.push { cls:=.type "dict",data:=.dict #[] } }:zaz0).heap.objs.size=s.heap.objs.size+1 from sz]
 rw [List.forIn_nil]
 refine zaz2 (zba5 (zba5 ?_))
 refine hQ _ ((Heap.Ns.new s.heap (.type "dict")).keeps (pushCells_keeps _ _)) (fun b o e=>pushCells_keeps _ _ b o (zay6 _ e)) fun x c ha e=>?_
 rw [← sz]at e
 exact zaj0 (fun c' e'=>let ⟨v,z⟩:=ha c' e';⟨v,z.keeps fun b o q=>zay6 _ q⟩) e
noncomputable abbrev blk (X:Cx) (N':List Str) (scope:Scope) (C:Addr) (s₃:zaz0) (H₃:Hp) (fp:List Addr) (pins:List (Addr×Obj)):Cx :=
 { X with N:=N',s₀:=s₃,H₀:=H₃,env:=compEnvC scope (cellsFrom (C+1) scope.names (clOf X.env.cells scope.names [])) C X.env,outer:=X.stack,stack:=X.stack,ex:=fp,fn:=fun x=>scope.names.lookup x == some .cell,calm:=true,pn:=X.pn++pins,xe:=fun _ _=>False }
structure CompSc (X:Cx) (scope:Scope):Prop where
 kind:scope.kind=.function
 free:∀y∈scope.names,y.2=.free→X.env.kindOf y.1=some .cell∨X.env.kindOf y.1=some .free
 names:∀y∈scope.names,scope.names.lookup y.1=some y.2
section
variable {X:Cx}{pins:List (Addr×Obj)}{σ:L2.St}{H:Hp}{s:zaz0}{scope:Scope}{N':List Str}{fp:List Addr}
theorem CompSc.frees (S:CompSc X scope) (ok:X.Ok):∀y∈scope.names,y.2=.free→∃c,X.env.cells.lookup y.1=some c:=fun y hy hf=>ok.has y.1 (S.free y hy hf)
theorem CompSc.cells (S:CompSc X scope) (ok:X.Ok) {x:Str}{c:Addr} (h:(clOf X.env.cells scope.names []).lookup x=some c):X.env.cells.lookup x=some c:=by
 rcases zp2 (S.frees ok) h with z | z
 ·simp at z
 ·exact z
theorem CompSc.nc (S:CompSc X scope) {x:Str} (h:(x,NameKind.free)∈scope.names):(x,NameKind.cell)∉scope.names:=fun z=>by
 have w1:=S.names _ h
 have w2:=S.names _ z
 rw [show (x,NameKind.cell).1=(x,NameKind.free).1 from rfl,w1]at w2
 cases w2
theorem CompSc.cls (S:CompSc X scope) (I:Inv X pins σ H s) {x:Str}{c:Addr} (h:(clOf X.env.cells scope.names []).lookup x=some c):c<s.heap.objs.size:=by
 obtain⟨v,o,ho,_⟩:=I.cell x c (S.cells I.ok h)
 exact zaz5 ho
theorem CompSc.old (S:CompSc X scope) (I:Inv X pins σ H s) {x:Str}{c:Addr} (h:(cellsFrom (s.heap.objs.size+1) scope.names (clOf X.env.cells scope.names [])).lookup x=some c):X.env.cells.lookup x=some c∨s.heap.objs.size<c:=by
 rcases zaa5 h with z | z
 ·exact .inl (S.cells I.ok z)
 ·exact .inr z
theorem blk_ok (I:Inv X pins σ H s) (S:CompSc X scope) (hc:X.calm=true) (hf:∀b∈fp,FpOk X pins H b) (hlt:∀b∈fp,b<s.heap.objs.size):(blk X N' scope s.heap.objs.size s H fp pins).Ok where
 mod:=I.ok.mod
 kind:=S.kind
 glob:=I.ok.glob
 blt:=I.ok.blt
 above:=zba1 _
 inj:=zaw2 (fun x c h=>zbf0 (S.cls I h)) fun x y c h1 h2=>I.ok.inj x y c (S.cells I.ok h1) (S.cells I.ok h2)
 has:=fun x hx=>by
  have hx:(relabel scope X.env).names.lookup x=some .cell∨(relabel scope X.env).names.lookup x=some .free:=hx
  have:(x,NameKind.free)∈scope.names∨(x,NameKind.cell)∈scope.names:=by
   rcases hx with hx | hx
   ·obtain⟨k,a,b⟩:=ze8 hx
    rcases b with b | b
    ·rw [← b]at a;exact .inr a
    ·rw [b.1]at a;exact .inl a
   ·obtain⟨k,a,b⟩:=ze8 hx
    rcases b with b | b
    ·rw [← b]at a;exact .inl a
    ·cases b.2
  rcases this with z | z
  ·exact zal7 (zt2 z)
  ·exact zai9 z
 cab:=fun x c h e=>by
  have h:(scope.names.lookup x == some NameKind.cell)=true:=h
  have h:scope.names.lookup x=some .cell:=by simpa using h
  exact Nat.le_of_succ_le (zaw0 (PySem.mem_of_lookup h) e)
 hd:=fun _=>I.ok.hd hc
 frames:=I.ok.frames
 stk:=.inl rfl
 exf:=fun b hb=>⟨zba4 (hlt b hb),fun x c h=>by
  rcases S.old I h with z | z
  ·exact (hf b hb).2.2.2.2.1 x c z
  ·exact zbi3 (zbi4 (hlt b hb) z)⟩
 bs:=fun b o e=>I.bs b o e
 bsz:=zaz4 I.ok.bsz I.sz
 noex:=fun b o e hb=>by
  rcases (hf b hb).2.2.2.1 with z | z
  ·exact I.ok.noex b o e z
  ·exact absurd (zay8 (zaz5 e) (zaz4 I.ok.bsz z)) (zbd6 _)
 exfs:=fun b hb z=>(zay5.mp (I.stkSub b z)).elim (hf b hb).2.1 (hf b hb).2.2.1
 funs:=I.stack
 frf:=I.stkFree
 tabs:=fun p hp=>I.base.tbls _ _ (I.ok.tabs p hp)
theorem zaa7 (I:Inv X pins σ H s) (S:CompSc X scope) (hc:X.calm=true) (hf:∀b∈fp,FpOk X pins H b) (hlt:∀b∈fp,b<s.heap.objs.size) {h1:Heap}{t1:Nat}{m:Str→Option Value}{σ':L2.St}
  (hns:h1.Ns s.heap.objs.size m) (hk:∀b o,s.heap.get? b=some o→h1.get? b=some o) (hcl:∀x c,(∀c,(clOf X.env.cells scope.names []).lookup x=some c→∃v,s.heap.IsCell c v)→(cellsFrom (s.heap.objs.size+1) scope.names (clOf X.env.cells scope.names [])).lookup x=some c→∃v,h1.IsCell c v) (hl:σ'.length=N'.length)
  (cap:∀(i:Nat) (x:Str) (v:V),N'[i]?=some x→σ'[i]?=some (some v)→(x,NameKind.free)∈scope.names∧∃j:Nat,X.N[j]?=some x∧σ[j]?=some (some v)) :
  Inv (blk X N' scope s.heap.objs.size s H fp pins) [] σ' H { s with heap:=h1,toks:=t1 } where
 ok:=blk_ok I S hc hf hlt
 os:=rfl
 bare:=I.bare
 base:=Un.kept hk
 loc:=⟨m,hns,fun i x v e1 e2 vs=>by
  obtain⟨hfree,j,j1,j2⟩:=cap i x v e1 e2
  obtain⟨m0,hn0,hl0⟩:=I.loc
  have vis:Vis X.env.scope x:=by
   rcases S.free _ hfree rfl with z | z
   ·exact .inr (.inl z)
   ·exact .inr (.inr z)
  obtain⟨u,r,l⟩:=hl0 j x v j1 j2 vis
  refine⟨u,r,?_⟩
  rcases l with ⟨k,_⟩ | ⟨k,c,e,z⟩
  ·exfalso
   rcases S.free _ hfree rfl with q | q
   ·rw [k]at q;cases q
   ·rw [k]at q;cases q
  ·obtain⟨c',hc'⟩:=zt2 (cells:=X.env.cells) (acc:=[]) hfree
   have e':=S.cells I.ok hc'
   rw [e]at e';cases e'
   refine .inr ⟨?_,c,by rw [show (blk X N' scope s.heap.objs.size s H fp pins).env.cells.lookup x=_ from zav9 (S.nc hfree)];exact hc',?_⟩
   ·have vs:(relabel scope X.env).names.lookup x=some .local∨(relabel scope X.env).names.lookup x=some .cell∨(relabel scope X.env).names.lookup x=some .free:=vs
    rcases vs with q | q
    ·obtain⟨k2,a,b⟩:=ze8 q
     rcases b with b | b
     ·rw [← b]at a
      have w1:=S.names _ a
      have w2:=S.names _ hfree
      rw [show (x,NameKind.local).1=(x,NameKind.free).1 from rfl,w2]at w1
      cases w1
     ·cases b.2
    ·exact q
   ·obtain⟨o,ho,hd⟩:=z
    exact⟨o,hk _ _ ho,hd⟩⟩
 cell:=fun x c h=>hcl x c (fun c' h'=>I.cell x c' (S.cells I.ok h')) h
 free:=I.hok.fresh (zba1 _)
 freeC:=fun x c h=>by
  rcases S.old I h with z | z
  ·exact I.freeC x c z
  ·exact I.hok.fresh (zbj9 z)
 pin:=fun p hp=>by
  have hp:p∈(X.pn++pins)++[]:=hp
  rw [zbf9]at hp
  obtain⟨a,b,c,d,e⟩:=I.pin p hp
  exact⟨hk _ _ a,b,zba4 (zaz5 a),fun z=>(zay5.mp (I.stkSub _ z)).elim c d,e⟩
 hok:=I.hok.kept hk
 len:=hl
theorem zt3 {H3 H':Hp}{s':zaz0}{h'':Heap}{σ':L2.St}{C:Addr}{pins':List (Addr×Obj)} (I:Inv X pins σ H3 s) (hf:∀b∈fp,FpOk X pins H3 b) (hC:C=s.heap.objs.size) (I':Inv (blk X N' scope C s H3 fp pins) pins' σ' H' s') (hb:Heap.SameBut C s'.heap h''):Inv X pins σ H' { s' with heap:=h'' }:=by
 subst hC
 have bs:Un (frs X.stack) fp H3 H' s.heap s'.heap:=I'.base
 have nC:∀b o,s.heap.get? b=some o→b≠s.heap.objs.size:=fun b o e=>zba4 (zaz5 e)
 have tr:∀b,b≠s.heap.objs.size→h''.get? b=s'.heap.get? b:=fun b n=>hb.2 b n
 have u:Un (frs X.stack) fp H3 H' s.heap h'' :=
  ⟨fun b o e n h1 h2=>(tr b (nC b o e)).trans (bs.keep b o e n h1 h2),fun b o e n h1 h2=>by obtain⟨sl,q⟩:=bs.slot b o e n h1 h2;exact⟨sl,(tr b (nC b o e)).trans q⟩,bs.free,
   fun b o e h1=>by obtain⟨o',q⟩:=bs.there b o e h1;exact⟨o',(tr b (nC b o e)).trans q⟩,bs.tups,bs.frzs,bs.tbls⟩
 have cf:H' s.heap.objs.size=none:=I'.free
 have hok:HOk X.prog X.w H' h'':=fun b o e=>by
  have nb:b≠s.heap.objs.size:=fun z=>by rw [z,cf]at e;cases e
  refine (I'.hok b o e).stay (fun c v hc q=>(tr c ?_).trans q) (fun _ q=>q) (fun _ _ q=>q) fun _ _ _ q=>q
  rcases hc with w | w
  ·rw [w];exact nb
  ·exact fun z=>by rw [z,cf]at w;cases w
 obtain⟨h0,g0,d0,t0,o0⟩:=s'
 have e:o0=s.os:=I'.os
 subst e
 exact I.call (g':=g0) (t':=t0) (d':=d0) u hok I'.bare fun b hb'=>by
  obtain⟨f0,f1,f2,f3,f4,f5⟩:=hf b hb'
  exact⟨f3,f1,f4,f5⟩
end
end L2
namespace L2
open PySem.Spec
noncomputable def PTs (Y:Cx) (ifs:List Expr) (t:TT):Prop :=
 ∀(pins:List (Addr×Obj)) (s:zaz0) (σ:L2.St) (H:Hp) (Q:Bool→Hp→Prop),Inv Y pins σ H s→t σ H Q →
  wpAny (model Y.prog Y.w) Y.A (forIn ifs true fun c r=>if r=true then do let ok ← isTrue c Y.env (eval c Y.env);pure (ForInStep.yield ok) else pure (ForInStep.yield r)) (TP Y pins σ Q) Y.xe s
theorem pts_nil {Y:Cx}:PTs Y [] (fun _ H Q=>Q true H):=fun pins s σ H Q I h=>wpAny_tests_nil ⟨H,I,h⟩
theorem pts_one {Y:Cx}{c:Expr}{t:TT} (h:PT Y c t):PTs Y [c] t:=fun pins s σ H Q I q=>wpAny_tests_one (h pins s σ H Q I q)
def capV (n:Nat) (cap:List Nat) (σ:L2.St):L2.St:=zaz6 n none++cap.map fun j=>(σ[j]?).getD none
noncomputable def zag0 (n:Nat) (cap:List Nat) (wi:TI) (g:TG) (tt:TT) (te:TE):TE:=fun σ H Q=>wi σ H fun J H1 => ∀D,H1 D=none→∃W:Nat→Nat→L2.St→Hp→Prop,(∃m,W 0 m (capV n cap σ) (upd H1 D (.lst [])))∧∀i m σ' H',W i m σ' H' →
 (J.stop i H'∧Q (.ref D) H')∨(J.go i H'∧∃N:L2.St→Hp→Prop,(∀σ'' H'',N σ'' H''→∃m',m' < m∧W (i+1) m' σ'' H'')∧∀x H2,J.yld i H' x H2→g x σ' H2 fun σ2 H3=>tt σ2 H3 fun b H4 =>
  if b=true then te σ2 H4 fun v H5 => ∃vs,H5 D=some (.lst vs)∧vs.length<sizeLine∧N σ2 (upd H5 D (.lst (vs++[v]))) else N σ2 H4)
theorem zar5 {X:Cx}{elt tg iter:Expr}{ifs:List Expr}{scope:Scope}{pos:Pos}{n:Nat}{cap:List Nat}{N':List Str}{wi:TI}{g:TG}{tt:TT}{te:TE} (S:CompSc X scope) (hc:X.calm=true) (hi:PI X tg iter wi)
  (hN:N'.length=n+cap.length) (hcap:∀(k:Nat) (j:Nat),cap[k]?=some j→∃x,N'[n+k]?=some x∧X.N[j]?=some x∧(x,NameKind.free)∈scope.names)
  (hg:∀C s₃ H₃ fp pins,PG (blk X N' scope C s₃ H₃ fp pins) tg g) (ht:∀C s₃ H₃ fp pins,PTs (blk X N' scope C s₃ H₃ fp pins) ifs tt) (he:∀C s₃ H₃ fp pins,PE (blk X N' scope C s₃ H₃ fp pins) elt te)
  (hs:∀x,foldedSetIterable iter X.env x=pure x:=by intro _;rfl):PE X (.ListComp elt [⟨tg,iter,ifs,0⟩] scope pos) (zag0 n cap wi g tt te):=by
 intro pins s σ H Q I h
 rw [eval_ListComp]
 refine wpAny_comprehension_free (use:=none) rfl hs (zn8 (S.frees I.ok)) S.kind (fun x hx hl=>by rw [S.names x hx,hl]) (thn (hi pins s σ H _ I h) fun v s1 h1=>thn h1 fun itv s2 h2=>?_)
 obtain⟨it,fp,tn,J,H2,e,I2,T,st2,f2,R⟩:=h2
 subst e
 have lt2:∀b∈fp,b<s2.heap.objs.size:=fun b hb=>by obtain⟨o,e,_⟩:=T.obj _ _ st2 b hb;exact zaz5 e
 have hD:H2 s2.heap.objs.size=none:=I2.fresh
 obtain⟨W,⟨m0,w0⟩,turn⟩:=R s2.heap.objs.size hD
 have I3:Inv X pins σ (upd H2 s2.heap.objs.size (.lst [])) { s2 with heap:=s2.heap.push { cls:=.type "list",data:=.seq ([]:List Value).toArray },toks:=s2.toks }:=I2.lnew (t':=s2.toks) .nil (by simp)
 have f3:∀b∈fp,FpOk X pins (upd H2 s2.heap.objs.size (.lst [])) b:=fun b hb=>⟨by rw [zb3 (zba4 (lt2 b hb))];exact (f2 b hb).1,(f2 b hb).2⟩
 refine wpAny_newObj_type (zg8 fun h₁ hns₁ hk hcl₁=>?_)
 have lt3:∀b∈fp,b<(s2.heap.push { cls:=.type "list",data:=.seq ([]:List Value).toArray }).objs.size:=fun b hb=>by rw [zbg9];exact zbf0 (lt2 b hb)
 have I4:Inv (blk X N' scope (s2.heap.push { cls:=.type "list",data:=.seq ([]:List Value).toArray }).objs.size { s2 with heap:=s2.heap.push { cls:=.type "list",data:=.seq ([]:List Value).toArray },toks:=s2.toks } (upd H2 s2.heap.objs.size (.lst [])) fp pins) [] (capV n cap σ) (upd H2 s2.heap.objs.size (.lst [])) { s2 with heap:=h₁,toks:=s2.toks } :=
  zaa7 I3 S hc f3 lt3 (t1:=s2.toks) hns₁ hk hcl₁ (by simp [capV,hN]) (fun i x v e1 e2=>by
   unfold capV at e2
   by_cases hi:i<n
   ·rw [zbc8 (by simpa using hi),zbd5]at e2
    split at e2<;>cases e2
   ·rw [zbc4 (by simpa using hi),zbe2,zbb2]at e2
    cases ej:cap[i - n]? with
    |none=>rw [ej]at e2;cases e2
    |some j =>
     rw [ej]at e2
     obtain⟨x',a1,a2,a3⟩:=hcap (i - n) j ej
     have:n+(i - n)=i:=by lia
     rw [this,e1]at a1
     cases a1
     refine⟨a3,j,a2,?_⟩
     have e2:(σ[j]?).getD none=some v:=by simpa using e2
     cases q:σ[j]? with
     |none=>rw [q]at e2;cases e2
     |some z=>rw [q]at e2;have:z=some v:=e2;rw [this])
 have loop:codeAny (model X.prog X.w) X.A (.compLoop (.ListComp elt [⟨tg,iter,ifs,0⟩] scope pos) 0 (.ref it) (.ref s2.heap.objs.size) (compEnvC scope (cellsFrom ((s2.heap.push { cls:=.type "list",data:=.seq ([]:List Value).toArray }).objs.size+1) scope.names (clOf X.env.cells scope.names [])) (s2.heap.push { cls:=.type "list",data:=.seq ([]:List Value).toArray }).objs.size X.env))
   (compPost (model X.prog X.w) X.A X.xe none (EP X pins σ Q) (.ref s2.heap.objs.size) (s2.heap.push { cls:=.type "list",data:=.seq ([]:List Value).toArray }).objs.size) { s2 with heap:=h₁,toks:=s2.toks }:=by
  generalize hY:(blk X N' scope (s2.heap.push { cls:=.type "list",data:=.seq ([]:List Value).toArray }).objs.size { s2 with heap:=s2.heap.push { cls:=.type "list",data:=.seq ([]:List Value).toArray },toks:=s2.toks } (upd H2 s2.heap.objs.size (.lst [])) fp pins)=Y at I4
  have st4:tn 0 h₁:=T.keep _ _ _ st2 fun b hb o e=>hk b o (zay6 _ e)
  have stat:∀ {H':Hp},(∀b∈fp,H' b=none)→∀b∈fp,FpOk Y [] H' b:=fun hn b hb=>by
   subst hY
   obtain⟨f0,f1,f2',f3',f4,f5⟩:=f3 b hb
   exact⟨hn b hb,zba4 (lt3 b hb),fun z=>(zay5.mp (I3.stkSub b z)).elim f1 f2',.inl hb,fun x c e=>(by
    rcases S.old I3 e with z | z
    ·exact f4 x c z
    ·exact zbi3 (zbi4 (lt3 b hb) z)),fun p hp=>f5 p (by simpa using hp)⟩
  have hgY:PG Y tg g:=hY ▸ hg _ _ _ _ _
  have htY:PTs Y ifs tt:=hY ▸ ht _ _ _ _ _
  have heY:PE Y elt te:=hY ▸ he _ _ _ _ _
  have yp:Y.prog=X.prog:=by subst hY;rfl
  have yw:Y.w=X.w:=by subst hY;rfl
  have yK:Y.K=X.K:=by subst hY;rfl
  have yA:Y.A=X.A:=by subst hY;rfl
  have yc:Y.calm=true:=by subst hY;rfl
  have yx:Y.xe=fun _ _=>False:=by subst hY;rfl
  have ye:Y.env=compEnvC scope (cellsFrom ((s2.heap.push { cls:=.type "list",data:=.seq ([]:List Value).toArray }).objs.size+1) scope.names (clOf X.env.cells scope.names [])) (s2.heap.push { cls:=.type "list",data:=.seq ([]:List Value).toArray }).objs.size X.env:=by subst hY;rfl
  rw [← ye]
  refine zs3 (fun n s' => ∃i σ' H',Inv Y [] σ' H' s'∧tn i s'.heap∧(∀b∈fp,H' b=none)∧W i n σ' H') ?_ m0 ⟨0,_,_,I4,st4,fun b hb=>(f3 b hb).1,w0⟩
  rintro n s3 ⟨i,σ3,H3,I5,st3,fr3,w3⟩
  rcases turn i n σ3 H3 w3 with ⟨stop,qn⟩ | ⟨go,N,hNN,step⟩
  ·have d:=T.done Y yp yw yK yc i [] s3 σ3 H3 (fun _ _=>False) I5 (stat fr3) st3 stop
   rw [yA]at d
   refine thn d fun r s4 ⟨hr,I6⟩=>?_
   subst hr
   obtain⟨m,hm,_⟩:=I6.loc
   rw [ye]at hm
   refine⟨m,hm,fun h' hb=>⟨.ref s2.heap.objs.size,H3,?_,rfl,qn⟩⟩
   subst hY
   exact zt3 I3 f3 rfl I6 hb
  ·have d:=T.item Y yp yw yK yc i [] s3 σ3 H3 (fun _ _=>False) I5 (stat fr3) st3 go
   rw [yA]at d
   refine thn d fun r s4 ⟨u,hr,h4⟩=>?_
   subst hr
   refine thn h4 fun _ s5 ⟨x,H5,I6,r5,y5,st5,fr5⟩=>?_
   have I6':=I6.pinned (stat fr5) (T.obj _ _ st5)
   have a:=hgY _ s5 σ3 H5 x u _ I6' r5 (step x H5 y5)
   rw [yp,yw,yA,yx]at a
   refine thn a fun _ s6 ⟨σ6,H6,I7,q6⟩=>?_
   have b:=htY _ s6 σ6 H6 _ I7 q6
   rw [yp,yw,yA,yx]at b
   refine thn b fun ok s7 ⟨H7,I8,q7⟩=>?_
   have again:∀ {s9:zaz0}{H9:Hp},Inv Y ([]++zm5 fp s5.heap) σ6 H9 s9→N σ6 H9→∃m,m<n∧∃i σ' H',Inv Y [] σ' H' s9∧tn i s9.heap∧(∀b∈fp,H' b=none)∧W i m σ' H':=fun {s9 H9} I9 n9=>by
    obtain⟨m',hm,w9⟩:=hNN σ6 H9 n9
    refine⟨m',hm,i+1,σ6,H9,I9.unpinned,T.keep _ _ _ st5 fun b hb o e=>(I9.pin (b,o) (zax6 _ (zax6 _ (zd5 hb e)))).1,fun b hb=>?_,w9⟩
    obtain⟨o,e,d⟩:=T.obj _ _ st5 b hb
    exact (I9.pin (b,o) (zax6 _ (zax6 _ (zd5 hb e)))).2.1
   cases ok with
   |false=>exact iteF (again I8 (by simpa using q7))
   |true =>
    rw [if_pos rfl]at q7
    refine iteT ?_
    have c:=heY _ s7 σ6 H7 _ I8 q7
    rw [yp,yw,yA,yx]at c
    refine thn c fun z s8 ⟨vz,H8,I9,r9,vs,hv,hl,n9⟩=>?_
    have ap:=zj0 (X:=Y) ([]++zm5 fp s5.heap) s8 σ6 H8 (.ref s2.heap.objs.size) [vz] (.ref s2.heap.objs.size) [z] (fun _ H9=>N σ6 H9) I9 rfl (.cons r9 .nil) ⟨_,vs,vz,rfl,rfl,hv,hl,n9⟩
    rw [yp,yw,yA,yx]at ap
    exact thn ap fun _ s9 ⟨_,H9,I10,_,n10⟩=>again I10 n10
 exact codeAny_compStart_list loop (T.self _ 0 _ _ _ (T.keep _ _ _ st2 fun b hb o e=>hk b o (zay6 _ e)) loop)
theorem ps_compU {X:Cx}{i₀:Nat}{y₀:Str}{py spos:Pos}{elt tg iter:Expr}{ifs:List Expr}{scope:Scope}{pos:Pos}{n:Nat}{cap:List Nat}{N':List Str}{wi:TI}{g:TG}{tt:TT}{te:TE} (S:CompSc X scope) (hc:X.calm=true) (hi:PI X tg iter wi)
  (hN:N'.length=n+cap.length) (hcap:∀(k:Nat) (j:Nat),cap[k]?=some j→∃x,N'[n+k]?=some x∧X.N[j]?=some x∧(x,NameKind.free)∈scope.names)
  (hg:∀C s₃ H₃ fp pins,PG (blk X N' scope C s₃ H₃ fp pins) tg g) (ht:∀C s₃ H₃ fp pins,PTs (blk X N' scope C s₃ H₃ fp pins) ifs tt) (he:∀C s₃ H₃ fp pins,PE (blk X N' scope C s₃ H₃ fp pins) elt te)
  (hNd:X.N.Nodup) (hi₀:X.N[i₀]?=some y₀) (hy:Loc X.env.scope y₀) (hsw:swapsWith (.ListComp elt [⟨tg,iter,ifs,0⟩] scope pos) (some (.Name y₀ py)) spos.line X.env=pure true) (hf:X.fn y₀=true∨X.env.scope.names.lookup y₀=some .local)
  (hs:∀x,foldedSetIterable iter X.env x=pure x:=by intro _;rfl):PS X (.Assign [.Name y₀ py] (.ListComp elt [⟨tg,iter,ifs,0⟩] scope pos) spos) (fun D σ H=>zag0 n cap wi g tt te σ H fun v H1=>D.nx (σ.set i₀ (some v)) H1):=by
 intro pins s σ H Ed I h
 rw [exec_Assign_Name_used y₀ py _ spos hsw]
 refine zaz2 (wpAny_standAt (zaz2 ?_))
 show wpAny (model X.prog X.w) X.A (comprehension (.ListComp elt [⟨tg,iter,ifs,0⟩] scope pos) scope X.env _ (newList []) false (eval iter X.env) (some (assign (.Name y₀ py) X.env)) >>= fun _=>pure ()) _ _ s
 refine zaz2 (thn (Q:=fun _ s'=>SP X pins Ed .next s') ?_ fun _ s' hq=>zba5 (zba5 hq))
 refine wpAny_comprehension_free (use:=some (assign (.Name y₀ py) X.env)) rfl hs (zn8 (S.frees I.ok)) S.kind (fun x hx hl=>by rw [S.names x hx,hl]) (thn (hi pins s σ H _ I h) fun v s1 h1=>thn h1 fun itv s2 h2=>?_)
 obtain⟨it,fp,tn,J,H2,e,I2,T,st2,f2,R⟩:=h2
 subst e
 have lt2:∀b∈fp,b<s2.heap.objs.size:=fun b hb=>by obtain⟨o,e,_⟩:=T.obj _ _ st2 b hb;exact zaz5 e
 have hD:H2 s2.heap.objs.size=none:=I2.fresh
 obtain⟨W,⟨m0,w0⟩,turn⟩:=R s2.heap.objs.size hD
 have I3:Inv X pins σ (upd H2 s2.heap.objs.size (.lst [])) { s2 with heap:=s2.heap.push { cls:=.type "list",data:=.seq ([]:List Value).toArray },toks:=s2.toks }:=I2.lnew (t':=s2.toks) .nil (by simp)
 have f3:∀b∈fp,FpOk X pins (upd H2 s2.heap.objs.size (.lst [])) b:=fun b hb=>⟨by rw [zb3 (zba4 (lt2 b hb))];exact (f2 b hb).1,(f2 b hb).2⟩
 refine wpAny_newObj_type (zg8 fun h₁ hns₁ hk hcl₁=>?_)
 have lt3:∀b∈fp,b<(s2.heap.push { cls:=.type "list",data:=.seq ([]:List Value).toArray }).objs.size:=fun b hb=>by rw [zbg9];exact zbf0 (lt2 b hb)
 have I4:Inv (blk X N' scope (s2.heap.push { cls:=.type "list",data:=.seq ([]:List Value).toArray }).objs.size { s2 with heap:=s2.heap.push { cls:=.type "list",data:=.seq ([]:List Value).toArray },toks:=s2.toks } (upd H2 s2.heap.objs.size (.lst [])) fp pins) [] (capV n cap σ) (upd H2 s2.heap.objs.size (.lst [])) { s2 with heap:=h₁,toks:=s2.toks } :=
  zaa7 I3 S hc f3 lt3 (t1:=s2.toks) hns₁ hk hcl₁ (by simp [capV,hN]) (fun i x v e1 e2=>by
   unfold capV at e2
   by_cases hi:i<n
   ·rw [zbc8 (by simpa using hi),zbd5]at e2
    split at e2<;>cases e2
   ·rw [zbc4 (by simpa using hi),zbe2,zbb2]at e2
    cases ej:cap[i - n]? with
    |none=>rw [ej]at e2;cases e2
    |some j =>
     rw [ej]at e2
     obtain⟨x',a1,a2,a3⟩:=hcap (i - n) j ej
     have:n+(i - n)=i:=by lia
     rw [this,e1]at a1
     cases a1
     refine⟨a3,j,a2,?_⟩
     have e2:(σ[j]?).getD none=some v:=by simpa using e2
     cases q:σ[j]? with
     |none=>rw [q]at e2;cases e2
     |some z=>rw [q]at e2;have:z=some v:=e2;rw [this])
 have loop:codeAny (model X.prog X.w) X.A (.compLoop (.ListComp elt [⟨tg,iter,ifs,0⟩] scope pos) 0 (.ref it) (.ref s2.heap.objs.size) (compEnvC scope (cellsFrom ((s2.heap.push { cls:=.type "list",data:=.seq ([]:List Value).toArray }).objs.size+1) scope.names (clOf X.env.cells scope.names [])) (s2.heap.push { cls:=.type "list",data:=.seq ([]:List Value).toArray }).objs.size X.env))
   (compPost (model X.prog X.w) X.A X.xe (some (assign (.Name y₀ py) X.env)) (fun _ s'=>SP X pins Ed .next s') (.ref s2.heap.objs.size) (s2.heap.push { cls:=.type "list",data:=.seq ([]:List Value).toArray }).objs.size) { s2 with heap:=h₁,toks:=s2.toks }:=by
  generalize hY:(blk X N' scope (s2.heap.push { cls:=.type "list",data:=.seq ([]:List Value).toArray }).objs.size { s2 with heap:=s2.heap.push { cls:=.type "list",data:=.seq ([]:List Value).toArray },toks:=s2.toks } (upd H2 s2.heap.objs.size (.lst [])) fp pins)=Y at I4
  have st4:tn 0 h₁:=T.keep _ _ _ st2 fun b hb o e=>hk b o (zay6 _ e)
  have stat:∀ {H':Hp},(∀b∈fp,H' b=none)→∀b∈fp,FpOk Y [] H' b:=fun hn b hb=>by
   subst hY
   obtain⟨f0,f1,f2',f3',f4,f5⟩:=f3 b hb
   exact⟨hn b hb,zba4 (lt3 b hb),fun z=>(zay5.mp (I3.stkSub b z)).elim f1 f2',.inl hb,fun x c e=>(by
    rcases S.old I3 e with z | z
    ·exact f4 x c z
    ·exact zbi3 (zbi4 (lt3 b hb) z)),fun p hp=>f5 p (by simpa using hp)⟩
  have hgY:PG Y tg g:=hY ▸ hg _ _ _ _ _
  have htY:PTs Y ifs tt:=hY ▸ ht _ _ _ _ _
  have heY:PE Y elt te:=hY ▸ he _ _ _ _ _
  have yp:Y.prog=X.prog:=by subst hY;rfl
  have yw:Y.w=X.w:=by subst hY;rfl
  have yK:Y.K=X.K:=by subst hY;rfl
  have yA:Y.A=X.A:=by subst hY;rfl
  have yc:Y.calm=true:=by subst hY;rfl
  have yx:Y.xe=fun _ _=>False:=by subst hY;rfl
  have ye:Y.env=compEnvC scope (cellsFrom ((s2.heap.push { cls:=.type "list",data:=.seq ([]:List Value).toArray }).objs.size+1) scope.names (clOf X.env.cells scope.names [])) (s2.heap.push { cls:=.type "list",data:=.seq ([]:List Value).toArray }).objs.size X.env:=by subst hY;rfl
  rw [← ye]
  refine zs3 (fun n s' => ∃i σ' H',Inv Y [] σ' H' s'∧tn i s'.heap∧(∀b∈fp,H' b=none)∧W i n σ' H') ?_ m0 ⟨0,_,_,I4,st4,fun b hb=>(f3 b hb).1,w0⟩
  rintro n s3 ⟨i,σ3,H3,I5,st3,fr3,w3⟩
  rcases turn i n σ3 H3 w3 with ⟨stop,qn⟩ | ⟨go,N,hNN,step⟩
  ·have d:=T.done Y yp yw yK yc i [] s3 σ3 H3 (fun _ _=>False) I5 (stat fr3) st3 stop
   rw [yA]at d
   refine thn d fun r s4 ⟨hr,I6⟩=>?_
   subst hr
   obtain⟨m,hm,_⟩:=I6.loc
   rw [ye]at hm
   subst hY
   have IX:=zt3 I3 f3 rfl I6 (h'':=s4.heap) ⟨rfl,fun _ _=>rfl⟩
   have cf:H3 (s2.heap.push { cls:=.type "list",data:=.seq ([]:List Value).toArray }).objs.size=none:=I6.free
   have fC:FpOk X pins H3 (s2.heap.push { cls:=.type "list",data:=.seq ([]:List Value).toArray }).objs.size:=I3.fpOk (zba1 _) cf
   obtain⟨c0,c1,c2,c3,c4,c5⟩:=fC
   refine wpAny_assign_Name (zab3 (s:=s4) IX hNd hi₀ hy (v:=.ref s2.heap.objs.size) rfl (fun s5 I7 ⟨a,sb,ha⟩=>?_) hf)
   have na:a≠(s2.heap.push { cls:=.type "list",data:=.seq ([]:List Value).toArray }).objs.size:=by
    rcases ha with z | z
    ·rw [z];exact fun w=>c1 w.symm
    ·exact c4 _ _ z
   refine⟨m,hm.sameBut sb (Ne.symm na),fun h' hb=>⟨_,H3,?_,qn⟩⟩
   exact I7.turned (t':=s5.toks) (fun b o n e=>(hb.2 b n).trans e) c0 c1 c3 c4 c5
  ·have d:=T.item Y yp yw yK yc i [] s3 σ3 H3 (fun _ _=>False) I5 (stat fr3) st3 go
   rw [yA]at d
   refine thn d fun r s4 ⟨u,hr,h4⟩=>?_
   subst hr
   refine thn h4 fun _ s5 ⟨x,H5,I6,r5,y5,st5,fr5⟩=>?_
   have I6':=I6.pinned (stat fr5) (T.obj _ _ st5)
   have a:=hgY _ s5 σ3 H5 x u _ I6' r5 (step x H5 y5)
   rw [yp,yw,yA,yx]at a
   refine thn a fun _ s6 ⟨σ6,H6,I7,q6⟩=>?_
   have b:=htY _ s6 σ6 H6 _ I7 q6
   rw [yp,yw,yA,yx]at b
   refine thn b fun ok s7 ⟨H7,I8,q7⟩=>?_
   have again:∀ {s9:zaz0}{H9:Hp},Inv Y ([]++zm5 fp s5.heap) σ6 H9 s9→N σ6 H9→∃m,m<n∧∃i σ' H',Inv Y [] σ' H' s9∧tn i s9.heap∧(∀b∈fp,H' b=none)∧W i m σ' H':=fun {s9 H9} I9 n9=>by
    obtain⟨m',hm,w9⟩:=hNN σ6 H9 n9
    refine⟨m',hm,i+1,σ6,H9,I9.unpinned,T.keep _ _ _ st5 fun b hb o e=>(I9.pin (b,o) (zax6 _ (zax6 _ (zd5 hb e)))).1,fun b hb=>?_,w9⟩
    obtain⟨o,e,d⟩:=T.obj _ _ st5 b hb
    exact (I9.pin (b,o) (zax6 _ (zax6 _ (zd5 hb e)))).2.1
   cases ok with
   |false=>exact iteF (again I8 (by simpa using q7))
   |true =>
    rw [if_pos rfl]at q7
    refine iteT ?_
    have c:=heY _ s7 σ6 H7 _ I8 q7
    rw [yp,yw,yA,yx]at c
    refine thn c fun z s8 ⟨vz,H8,I9,r9,vs,hv,hl,n9⟩=>?_
    have ap:=zj0 (X:=Y) ([]++zm5 fp s5.heap) s8 σ6 H8 (.ref s2.heap.objs.size) [vz] (.ref s2.heap.objs.size) [z] (fun _ H9=>N σ6 H9) I9 rfl (.cons r9 .nil) ⟨_,vs,vz,rfl,rfl,hv,hl,n9⟩
    rw [yp,yw,yA,yx]at ap
    exact thn ap fun _ s9 ⟨_,H9,I10,_,n10⟩=>again I10 n10
 exact codeAny_compStart_list loop (T.self _ 0 _ _ _ (T.keep _ _ _ st2 fun b hb o e=>hk b o (zay6 _ e)) loop)
end L2
namespace DL
open PySem.Spec L2
structure Src (K:zax7) (ds:List D) (J:It) (Good:List Addr→Hp→Prop):Prop where
 keep:∀P H P' H',Good P H→Same (hide P H) (hide P' H')→Good P' H'
 stop:∀P H,Good P H→J.stop ds.length H
 go:∀P H i,Good P H→i<ds.length→J.go i H
 yld:∀P H i x H',Good P H→Lists H P→J.yld i H x H'→i<ds.length→Same H H'∧∃d,ds[i]?=some d∧Rep K (hide P H') d x
abbrev DI:=Th→Option (Bool×List D)
def hidF (b:Bool) (A F:List Addr):List Addr:=if b then A++F else F
noncomputable def dI (K:zax7) (F:List Addr) (fs:DI):TI:=fun σ H R => ∃A t b ds,RS K F H A t σ∧fs t=some (b,ds)∧∀J H1 Good,Same H H1→Src K ds J Good→Good (hidF b A F) H1→R J H1
theorem PI.imp {X:Cx}{tg iter:Expr}{t t':TI} (h:PI X tg iter t) (i:∀σ H R,t' σ H R→t σ H R):PI X tg iter t':=fun pins s σ H R I q=>h pins s σ H R I (i σ H R q)
def fsL (f:DE):DI:=fun t=>(f t).bind fun r=>match r.d with
 |.lst ds=>some (r.ok,ds)
 |_=>none
noncomputable def fsR1 (f:DE):DI:=fun t=>(f t).bind fun r=>match r.d with
 |.int n=>if bigI n then some (true,rngD 0 n.toNat) else none
 |_=>none
theorem src_list {K:zax7}{p:Addr}{vs:List V}{ds:List D} (hl:vs.length=ds.length):Src K ds (Itl K p) (fun P H=>SqL K (hide P H) p vs∧Reps K (hide P H) ds vs) where
 keep:=fun P H P' H' q s=>⟨SqL.mono s q.1,Reps.mono s q.2⟩
 stop:=fun P H q=>⟨vs,SqL.mono (zb6 _ _) q.1,by lia⟩
 go:=fun P H i q hi=>⟨vs,vs[i]'(by lia),SqL.mono (zb6 _ _) q.1,zay3 (by lia)⟩
 yld:=fun P H i x H' q mu y hi=>by
  obtain⟨e1,e2⟩:=y
  subst e1
  exact⟨Same.refl _,q.2.getV (e2 vs (SqL.mono (zb6 _ _) q.1))⟩
theorem src_rng {K:zax7}{lo:Int}{n:Nat}:Src K (rngD lo n) (Itr lo n) (fun _ _=>True) where
 keep:=fun _ _ _ _ _ _=>trivial
 stop:=fun P H _=>by rw [zq9];exact zba1 n
 go:=fun P H i _ hi=>by rw [zq9]at hi;exact hi
 yld:=fun P H i x H' _ _ y hi=>by
  rw [zq9]at hi
  obtain⟨e1,e2⟩:=y
  subst e1
  refine⟨Same.refl _,.int (lo+i),by simp [rngD,hi],?_⟩
  rw [e2];exact .int _
theorem RepEv.hidF {K:zax7}{F A:List Addr}{H H':Hp}{r:Ev}{v:V} (m:Lists H (A++F)) (gs:Same H H') (q:RepEv K F A H H' r v):Rep K (hide (DL.hidF r.ok A F) H') r.d v:=by
 unfold DL.hidF
 split
 ·rename_i c;exact q.clean m gs c
 ·exact q.cleanF m
section
variable {X:Cx}{F:List Addr}{a b c:Expr}{es:List Expr}{fa fb fc:DE}{pos:Pos}{tg:Expr}
theorem ze5 (hl:PE X a (dE X.K F fa)):PI X tg a (dI X.K F (fsL fa)):=by
 refine PI.imp (zah0 hl) ?_
 rintro σ H R ⟨A,t,b,ds,RR,e,h⟩
 unfold fsL at e
 cases e1:fa t with
 |none=>rw [e1]at e;cases e
 |some r =>
  rw [e1]at e
  refine⟨A,t,r,RR,e1,fun v H1 gs q=>?_⟩
  have e:(match r.d with | .lst ds=>some (r.ok,ds) |_=>none)=some (b,ds):=e
  split at e
  case h_2=>cases e
  rename_i ds' z
  cases e
  have cl:=RepEv.hidF RR.mu gs q
  rw [z]at cl
  cases cl with
  |@lst _ p vs h1 h2=>exact⟨p,rfl,⟨vs,SqL.mono (zb6 _ _) h1⟩,h _ H1 _ gs (src_list h2.length) ⟨h1,h2⟩⟩
theorem zp9 {p1 p2:Pos} (hgr:Gl X "range") (hm:X.mg "range"=none) (ha:PE X a (dE X.K F fa)) (hst:zaz1 [a] X.env=[(false,eval a X.env)]:=by rfl):PI X tg (.Call (.Name "range" p1) [a] [] p2) (dI X.K F (fsR1 fa)):=by
 refine PI.imp (zaq4 hgr hm (zf1 ha zi8 hst) hst) ?_
 rintro σ H R ⟨A,t,b,ds,RR,e,h⟩
 unfold fsR1 at e
 cases e1:fa t with
 |none=>rw [e1]at e;cases e
 |some r =>
  rw [e1]at e
  refine⟨A,t,r,RR,e1,fun v H1 gs q=>?_⟩
  have e:(match r.d with | .int n=>if bigI n then some (true,rngD 0 n.toNat) else none | _=>none)=some (b,ds):=e
  split at e
  case h_2=>cases e
  rename_i n z
  split at e
  case isFalse=>cases e
  rename_i ok
  simp only [bigI,decide_eq_true_eq]at ok
  cases e
  have p:=q.full
  rw [z]at p
  cases ze1 p
  exact⟨n,rfl,by lia,by lia,h _ H1 _ gs src_rng trivial⟩
end
noncomputable def capD (t:Th):List Nat→Option (Bool×List D)
 |[]=>some (true,[])
 |j::js=>(capD t js).bind fun q=>match t[j]? with
  |some (.val d)=>some (q.1,d::q.2)
  |some (.own xs)=>some (false,.lst xs::q.2)
  |some (.dp d)=>some (false,d::q.2)
  |_=>none
theorem zq6 {K:zax7}{F A:List Addr}{H:Hp}{t:Th}{σ:L2.St} (R:RS K F H A t σ):∀ {cap:List Nat}{b:Bool}{ds:List D},capD t cap=some (b,ds)→∃vs:List V,(cap.map fun j=>(σ[j]?).getD none)=vs.map some∧Reps K (hide (hidF b A F) H) ds vs
 |[],b,ds,e=>by cases e;exact⟨[],rfl,.nil⟩
 |j::js,b,ds,e=>by
  unfold capD at e
  cases e1:capD t js with
  |none=>rw [e1]at e;cases e
  |some q =>
   obtain⟨b',ds'⟩:=q
   rw [e1]at e
   obtain⟨vs,h1,h2⟩:=zq6 R e1
   have e:(match t[j]? with
    |some (.val d)=>some (b',d::ds')
    |some (.own xs)=>some (false,.lst xs::ds')
    |some (.dp d)=>some (false,d::ds')
    |_=>none)=some (b,ds):=e
   have less:∀c:Bool,Same (hide (A++F) H) (hide (hidF c A F) H):=fun c=>za7 H fun x z=>by
    cases c with
    |true=>exact z
    |false=>exact zax6 _ z
   split at e
   ·rename_i d z
    cases e
    obtain⟨v,a1,a2⟩:=R.rel.getVal z
    exact⟨v::vs,by simp [a1,h1],.cons (Rep.mono (less _) a2) h2⟩
   ·rename_i xs z
    cases e
    obtain⟨p,us,a1,a2,a3,a4⟩:=R.rel.getOwn z
    refine⟨.ref p::vs,by simp [a1,h1],.cons (.lst (SqL.of (zb9 a3 (R.dj p a2))) (Reps.mono (less false) a4)) (Reps.mono (za7 H fun x z=>?_) h2)⟩
    cases b' with
    |true=>exact zax6 _ z
    |false=>exact z
   ·rename_i d z
    cases e
    obtain⟨v,B,a1,a2,a3,a4⟩:=R.rel.getDp R.nd z
    refine⟨v::vs,by simp [a1,h1],.cons (a4.rep (less false) fun b hb o w=>zb9 w (R.dj b (a2 b hb))) (Reps.mono (za7 H fun x z=>?_) h2)⟩
    cases b' with
    |true=>exact zax6 _ z
    |false=>exact z
   ·cases e
noncomputable def zg6 (k:D→Th→Option Th) (ft:DT) (fe:DE):List D→Th→Option (List D)
 |[],_=>some []
 |d::ds,t=>(k d t).bind fun t1=>(ft t1).bind fun b=>if b then (fe t1).bind fun r=>(zg6 k ft fe ds t1).map fun xs=>r.d::xs else zg6 k ft fe ds t1
noncomputable def ze6 (n:Nat) (cap:List Nat) (fs:DI) (k:D→Th→Option Th) (ft:DT) (fe:DE):DE:=fun t=>(fs t).bind fun q=>(capD t cap).bind fun c=>if q.2.length≤50000 then (zg6 k ft fe q.2 (zaz6 n Sl.no++c.2.map Sl.val)).bind fun xs=>if (q.1&&c.1)||flats xs then some (.nw xs) else none else none
theorem zv8 {k:D→Th→Option Th}{ft:DT}{fe:DE}:∀ {ds:List D}{t:Th}{xs:List D},zg6 k ft fe ds t=some xs→xs.length≤ds.length
 |[],t,xs,e=>by cases e;simp
 |d::ds,t,xs,e=>by
  unfold zg6 at e
  cases e1:k d t with
  |none=>rw [e1]at e;cases e
  |some t1 =>
   rw [e1]at e
   have e:((ft t1).bind fun b=>if b then (fe t1).bind fun r=>(zg6 k ft fe ds t1).map fun xs=>r.d::xs else zg6 k ft fe ds t1)=some xs:=e
   cases e2:ft t1 with
   |none=>rw [e2]at e;cases e
   |some b =>
    rw [e2]at e
    cases b with
    |false=>have:=zv8 (ds:=ds) (t:=t1) e;simp;lia
    |true =>
     have e:((fe t1).bind fun r=>(zg6 k ft fe ds t1).map fun xs=>r.d::xs)=some xs:=e
     cases e3:fe t1 with
     |none=>rw [e3]at e;cases e
     |some r =>
      rw [e3]at e
      have e:((zg6 k ft fe ds t1).map fun xs=>r.d::xs)=some xs:=e
      cases e4:zg6 k ft fe ds t1 with
      |none=>rw [e4]at e;cases e
      |some ys=>rw [e4]at e;cases e;have:=zv8 e4;simp;lia
end DL
namespace DL
open PySem.Spec L2
theorem RSl.noVals {K:zax7}{H0 H:Hp}{vs:List V}{ds:List D} (r:Reps K H0 ds vs):∀n,RSl K H0 H (zaz6 n Sl.no++ds.map Sl.val) (zaz6 n none++vs.map some) []
 |0=>by simpa using RSl.start (t:=[]) (σ:=[]) .nil r
 |n+1=>.no (RSl.noVals r n)
theorem zc9 {P:List Addr}{H:Hp}{p:Addr}{o:HO} (hp:p∈P):Same (hide P H) (hide P (upd H p o)):=fun b u e=>by
 obtain⟨n,e⟩:=zh9 e
 exact zb9 (by rw [zb3 (fun z=>n (by rw [z];exact hp))];exact e) n
theorem RS.updF {K:zax7}{P:List Addr}{H:Hp}{t:Th}{σ:L2.St}{p:Addr}{ws:List V} (R:RS K P H [] t σ) (hp:p∈P):RS K P (upd H p (.lst ws)) [] t σ where
 mu:=fun q hq=>by
  by_cases z:q=p
  ·exact⟨mL ws,by rw [z];exact za9⟩
  ·obtain⟨us,w⟩:=R.mu q hq
   exact⟨us,by rw [zb3 z];exact w⟩
 nd:=zba8
 dj:=fun p hp=>by cases hp
 rel:=RSl.mono (zc9 hp) R.rel fun q hq=>by cases hq
theorem zk3 {K:zax7}{P A:List Addr}{H:Hp}{t:Th}{σ:L2.St} (R:RS K P H A t σ) (g:Gr [] H A H):A=[]:=by
 cases A with
 |nil=>rfl
 |cons a r =>
  rcases g.nw a (zay1 ..) with z | z
  ·cases z
  ·obtain⟨vs,q⟩:=R.mu a (zax8 _ (zay1 ..))
   rw [q]at z;cases z
def zc7:DT:=fun _=>some true
theorem PTs.imp {Y:Cx}{ifs:List Expr}{t t':TT} (h:PTs Y ifs t) (i:∀σ H Q,t' σ H Q→t σ H Q):PTs Y ifs t':=fun pins s σ H Q I q=>h pins s σ H Q I (i σ H Q q)
theorem zd7 {Y:Cx}{F:List Addr}:PTs Y [] (dT Y.K F zc7):=PTs.imp pts_nil fun σ H Q ⟨A,t,b,R,e,h⟩=>by cases e;exact h H (Same.refl H)
theorem zak2 {Y:Cx}{F:List Addr}{c:Expr}{ft:DT} (h:PT Y c (dT Y.K F ft)):PTs Y [c] (dT Y.K F ft):=pts_one h
theorem zaj5 {X:Cx}{F:List Addr}{n:Nat}{cap:List Nat}{fs:DI}{g:TG}{kt:D→Th→Option Th}{ft:DT}{fe:DE} (hk:∀F',TgOk X.K F' g kt) {σ:L2.St}{H:Hp}{Q:VK} (h:dE X.K F (ze6 n cap fs kt ft fe) σ H Q) :
  zag0 n cap (dI X.K F fs) g (fun σ H Q => ∃F',dT X.K F' ft σ H Q) (fun σ H Q => ∃F',dE X.K F' fe σ H Q) σ H Q:=by
 obtain⟨A,t,r,R,e,h⟩:=h
 unfold ze6 at e
 cases e1:fs t with
 |none=>rw [e1]at e;cases e
 |some q =>
  obtain⟨b,ds⟩:=q
  cases e2:capD t cap with
  |none=>rw [e1,e2]at e;cases e
  |some q2 =>
   obtain⟨c,caps⟩:=q2
   rw [e1,e2]at e
   have e:(if ds.length≤50000 then (zg6 kt ft fe ds (zaz6 n Sl.no++caps.map Sl.val)).bind fun xs=>if (b&&c)||flats xs then some (Ev.nw xs) else none else none)=some r:=e
   split at e
   case isFalse=>cases e
   rename_i hlen
   cases e3:zg6 kt ft fe ds (zaz6 n Sl.no++caps.map Sl.val) with
   |none=>rw [e3]at e;cases e
   |some xs =>
    rw [e3]at e
    have e:(if (b&&c)||flats xs then some (Ev.nw xs) else none)=some r:=e
    split at e
    case isFalse=>cases e
    rename_i ok
    cases e
    have xl:=zv8 e3
    obtain⟨cvs,cv1,cv2⟩:=zq6 R e2
    -- what is hidden from the block,but its own list
    obtain⟨F',F'def⟩:∃F',F'=hidF (b&&c) A F:=⟨_,rfl⟩
    have subF:∀x∈F',x∈A++F:=fun x hx=>by
     rw [F'def]at hx
     unfold hidF at hx
     split at hx
     ·exact hx
     ·exact zax6 _ hx
    have lessB:∀H:Hp,Same (hide (hidF b A F) H) (hide F' H):=fun H=>za7 H fun x hx=>by
     rw [F'def]at hx
     cases b<;>cases c<;>simp [hidF]at hx ⊢<;>first | exact hx | exact .inr hx | (rcases hx with z | z<;>simp [z])
    have lessC:∀H:Hp,Same (hide (hidF c A F) H) (hide F' H):=fun H=>za7 H fun x hx=>by
     rw [F'def]at hx
     cases b<;>cases c<;>simp [hidF]at hx ⊢<;>first | exact hx | exact .inr hx | (rcases hx with z | z<;>simp [z])
    have wi:zag0 n cap (dI X.K F fs) g (fun σ H Q => ∃F',dT X.K F' ft σ H Q) (fun σ H Q => ∃F',dE X.K F' fe σ H Q) σ H Q:=by
     refine⟨A,t,b,ds,R,e1,fun J H1 Good gs src gd Dd hD=>?_⟩
     have H1A:Lists H1 (A++F):=R.mu.mono gs
     have st0:Same (hide F' H1) (hide (Dd::F') (upd H1 Dd (.lst []))):=zh2 hD
     refine⟨fun i m σ' H'=>i+m=ds.length∧∃th acc rest vs,RS X.K (Dd::F') H' [] th σ'∧zg6 kt ft fe (ds.drop i) th=some rest∧acc++rest=xs∧H' Dd=some (.lst vs)∧Reps X.K (hide (Dd::F') H') acc vs∧Same H1 H'∧Good (Dd::F') H',
      ⟨ds.length,by lia,_,[],xs,[],⟨?_,zba8,fun p hp=>(by cases hp),?_⟩,by simpa using e3,rfl,za9,.nil,zc5 hD,src.keep _ _ _ _ gd (fun b o z=>st0 _ _ (lessB _ _ _ z))⟩,?_⟩
     ·intro q hq
      have hq:q∈Dd::F':=hq
      rcases zay5.mp hq with z | z
      ·exact⟨mL [],by rw [z];exact za9⟩
      ·obtain⟨us,w⟩:=H1A q (subF q z)
       exact⟨us,(zc5 hD) _ _ w⟩
     ·unfold capV
      rw [cv1]
      exact RSl.noVals (Reps.mono (fun b o z=>st0 _ _ (lessC H1 _ _ (za8 gs _ _ z))) cv2) n
     ·rintro i m σ' H' ⟨hm,th,acc,rest,vs,RR,ec,ex,hv,hr,sm,gg⟩
      cases m with
      |zero =>
       have z:i=ds.length:=by lia
       subst z
       rw [zbf3]at ec
       cases ec
       rw [zbf9]at ex
       subst ex
       refine .inl ⟨src.stop _ _ gg,h _ H' (gs.trans sm) ⟨Dd,vs,rfl,Same.free gs hD,hv,?_⟩⟩
       rcases zbj0 _ _ ▸ ok with k | k
       ·have:F'=A++F:=by rw [F'def];unfold hidF;rw [k];rfl
        rw [← this];exact hr
       ·refine Reps.hid (P:=Dd ::(A++F)) (fun q hq=>?_) k (Reps.mono (zb6 _ _) hr)
        rcases zay5.mp hq with z | z
        ·exact⟨mL vs,by rw [z];exact hv⟩
        ·obtain⟨us,w⟩:=H1A q z
         exact⟨us,sm _ _ w⟩
      |succ m =>
       have hil:i<ds.length:=by lia
       refine .inr ⟨src.go _ _ i gg hil,fun σ' H'=>i+1+m=ds.length∧∃th acc rest vs,RS X.K (Dd::F') H' [] th σ'∧zg6 kt ft fe (ds.drop (i+1)) th=some rest∧acc++rest=xs∧H' Dd=some (.lst vs)∧Reps X.K (hide (Dd::F') H') acc vs∧Same H1 H'∧Good (Dd::F') H',
        fun σ' H' q=>⟨m,zbc5 m,q⟩,fun x H2 y=>?_⟩
       obtain⟨gs2,d,hd,rd⟩:=src.yld _ _ i x H2 gg RR.mu y hil
       have ed:ds.drop i=d::ds.drop (i+1):=by
        have hd':ds[i]=d:=by
         rw [zay3 hil]at hd
         exact Option.some.inj hd
        rw [← hd']
        exact zbb4 hil
       rw [ed]at ec
       unfold zg6 at ec
       cases k1:kt d th with
       |none=>rw [k1]at ec;cases ec
       |some t1 =>
        rw [k1]at ec
        have ec:((ft t1).bind fun b=>if b then (fe t1).bind fun r=>(zg6 kt ft fe (ds.drop (i+1)) t1).map fun xs=>r.d::xs else zg6 kt ft fe (ds.drop (i+1)) t1)=some rest:=ec
        refine hk (Dd::F') σ' H2 [] th t1 d x _ (RR.grow gs2) rd k1 fun σ2 A2 gr2 R2=>?_
        have A20:=zk3 R2 gr2
        subst A20
        cases k2:ft t1 with
        |none=>rw [k2]at ec;cases ec
        |some bb =>
         rw [k2]at ec
         refine⟨Dd::F',[],t1,bb,R2,k2,fun H3 gs3=>?_⟩
         cases bb with
         |false =>
          refine iteF ⟨by lia,t1,acc,rest,vs,R2.grow gs3,ec,ex,gs3 _ _ (gs2 _ _ hv),Reps.mono (za8 (gs2.trans gs3)) hr,(sm.trans gs2).trans gs3,src.keep _ _ _ _ gg (za8 (gs2.trans gs3))⟩
         |true =>
          have ec:((fe t1).bind fun r=>(zg6 kt ft fe (ds.drop (i+1)) t1).map fun xs=>r.d::xs)=some rest:=ec
          cases k3:fe t1 with
          |none=>rw [k3]at ec;cases ec
          |some re =>
           rw [k3]at ec
           have ec:((zg6 kt ft fe (ds.drop (i+1)) t1).map fun xs=>re.d::xs)=some rest:=ec
           cases k4:zg6 kt ft fe (ds.drop (i+1)) t1 with
           |none=>rw [k4]at ec;cases ec
           |some ys =>
            rw [k4]at ec
            cases ec
            refine iteT ⟨Dd::F',[],t1,re,R2.grow gs3,k3,fun v H4 gs4 q4=>⟨vs,gs4 _ _ (gs3 _ _ (gs2 _ _ hv)),?_,?_⟩⟩
            ·have l1:=hr.length
             have l2:acc.length+(ys.length+1)=xs.length:=by rw [← ex];simp
             exact zay8 (show vs.length<50000 by lia) (by rw [sizeLine_eq];decide)
            ·have s4:=(gs2.trans gs3).trans gs4
             have hu:Same (hide (Dd::F') H4) (hide (Dd::F') (upd H4 Dd (.lst (vs++[v])))):=zc9 (zay1 ..)
             have rv:=q4.cleanF ((R2.grow gs3).mu)
             refine⟨by lia,t1,acc++[re.d],ys,vs++[v],RS.updF ((R2.grow gs3).grow gs4) (zay1 ..),k4,by simpa using ex,za9,?_,?_,?_⟩
             ·exact (Reps.mono (fun b o z=>hu _ _ (za8 s4 _ _ z)) hr).app (Reps.one (Rep.mono hu rv))
             ·exact fun b o z=>by
               rw [zb3 (fun w=>by rw [w,hD]at z;cases z)]
               exact s4 _ _ (sm _ _ z)
             ·exact src.keep _ _ _ _ gg (fun b o z=>hu _ _ (za8 s4 _ _ z))
    exact wi
theorem ped_comp {X:Cx}{F:List Addr}{elt tg iter:Expr}{ifs:List Expr}{scope:Scope}{pos:Pos}{n:Nat}{cap:List Nat}{N':List Str}{fs:DI}{g:TG}{kt:D→Th→Option Th}{ft:DT}{fe:DE} (S:CompSc X scope) (hc:X.calm=true) (hi:PI X tg iter (dI X.K F fs))
  (hN:N'.length=n+cap.length) (hcap:∀(k:Nat) (j:Nat),cap[k]?=some j→∃x,N'[n+k]?=some x∧X.N[j]?=some x∧(x,NameKind.free)∈scope.names)
  (hg:∀C s₃ H₃ fp pins,PG (blk X N' scope C s₃ H₃ fp pins) tg g) (hk:∀F',TgOk X.K F' g kt) (ht:∀C s₃ H₃ fp pins F',PTs (blk X N' scope C s₃ H₃ fp pins) ifs (dT X.K F' ft)) (he:∀C s₃ H₃ fp pins F',PE (blk X N' scope C s₃ H₃ fp pins) elt (dE X.K F' fe))
  (hs:∀x,foldedSetIterable iter X.env x=pure x:=by intro _;rfl):PE X (.ListComp elt [⟨tg,iter,ifs,0⟩] scope pos) (dE X.K F (ze6 n cap fs kt ft fe)) :=
 PE.imp (zar5 (g:=g) S hc hi hN hcap hg (fun C s₃ H₃ fp pins pins' s σ H Q I ⟨F',q⟩=>ht C s₃ H₃ fp pins F' pins' s σ H Q I q) (fun C s₃ H₃ fp pins pins' s σ H Q I ⟨F',q⟩=>he C s₃ H₃ fp pins F' pins' s σ H Q I q) hs) fun _ _ _ h=>zaj5 hk h
noncomputable def zs2 (names:List (Str×NameKind)) (kind:Str→Option NameKind):Bool:=names.all fun y=>(y.2 != .free||kind y.1 == some .cell||kind y.1 == some .free)&&(names.lookup y.1 == some y.2)
theorem zae3 {X:Cx}{scope:Scope} (hk:scope.kind=.function:=by rfl) (h:zs2 scope.names X.env.kindOf=true:=by rfl):CompSc X scope:=by
 have h':=zbc2.mp h
 refine⟨hk,fun y hy hf=>?_,fun y hy=>?_⟩
 ·have:=h' y hy
  simp only [zay4,zbj0,bne_iff_ne,beq_iff_eq]at this
  rcases this.1 with (z | z) |z
  ·exact absurd hf z
  ·exact .inl z
  ·exact .inr z
 ·have:=h' y hy
  simp only [zay4,beq_iff_eq]at this
  exact this.2
noncomputable def zw9 (N' N:List Str) (n:Nat) (names:List (Str×NameKind)):Nat→List Nat→Bool
 |_,[]=>true
 |k,j::js=>(match N'[n+k]?,N[j]? with
  |some x,some y=>x == y&&names.any fun z=>z.1 == x&&z.2 == .free
  |_,_=>false)&&zw9 N' N n names (k+1) js
theorem zn9 {N' N:List Str}{n:Nat}{names:List (Str×NameKind)}:∀ {cap:List Nat}{k0:Nat},zw9 N' N n names k0 cap=true→∀(k j:Nat),cap[k]?=some j→∃x,N'[n+(k0+k)]?=some x∧N[j]?=some x∧(x,NameKind.free)∈names
 |[],k0,_,k,j,e=>by simp at e
 |i::js,k0,h,k,j,e=>by
  unfold zw9 at h
  rw [zay4]at h
  cases k with
  |zero =>
   simp at e
   subst e
   have h1:=h.1
   split at h1
   ·rename_i x y z1 z2
    rw [zay4,beq_iff_eq,zbi5]at h1
    obtain⟨e1,w,w1,w2⟩:=h1
    rw [zay4,beq_iff_eq,beq_iff_eq]at w2
    obtain⟨a,b⟩:=w
    simp only at w2
    rw [w2.1,w2.2]at w1
    exact⟨x,by simpa using z1,by rw [z2,e1],w1⟩
   ·cases h1
  |succ k =>
   obtain⟨x,a,b,c⟩:=zn9 h.2 k j (by simpa using e)
   exact⟨x,by rw [show k0+(k+1)=k0+1+k by lia];exact a,b,c⟩
theorem ze2 {X:Cx}{F:List Addr}{elt tg iter:Expr}{ifs:List Expr}{scope:Scope}{pos:Pos}{fs:DI}{g:TG}{kt:D→Th→Option Th}{ft:DT}{fe:DE} (n:Nat) (cap:List Nat) (N':List Str) (hc:X.calm=true) (hi:PI X tg iter (dI X.K F fs))
  (hg:∀C s₃ H₃ fp pins,PG (blk X N' scope C s₃ H₃ fp pins) tg g) (hk:∀F',TgOk X.K F' g kt) (ht:∀C s₃ H₃ fp pins F',PTs (blk X N' scope C s₃ H₃ fp pins) ifs (dT X.K F' ft)) (he:∀C s₃ H₃ fp pins F',PE (blk X N' scope C s₃ H₃ fp pins) elt (dE X.K F' fe))
  (hkd:scope.kind=.function:=by rfl) (hcs:zs2 scope.names X.env.kindOf=true:=by rfl) (hN:N'.length=n+cap.length:=by rfl) (hcap:zw9 N' X.N n scope.names 0 cap=true:=by rfl)
  (hs:∀x,foldedSetIterable iter X.env x=pure x:=by intro _;rfl):PE X (.ListComp elt [⟨tg,iter,ifs,0⟩] scope pos) (dE X.K F (ze6 n cap fs kt ft fe)) :=
 ped_comp (zae3 hkd hcs) hc hi hN (fun k j e=>by simpa using zn9 hcap k j e) hg hk ht he hs
end DL
namespace L2
open PySem.Spec
abbrev EMS:=Addr→L2.St→Hp→(L2.St→Hp→Prop)→Prop
noncomputable def emT (e:Expr) (g2:Comprehension) (acc:Value) (env:Env):Sem Unit:=do
 let x ← eval g2.iter env
 standAt g2.iter.pos
 let x ← foldedSetIterable g2.iter env x
 let _ ← runOwn (.compStart e 1 (← holding [x] (pyIter x)) acc env) env
noncomputable def PEm (Y:Cx) (tree:Sem Unit) (em:L2.St→Hp→(L2.St→Hp→Prop)→Prop):Prop :=
 ∀(pins:List (Addr×Obj)) (s:zaz0) (σ:L2.St) (H:Hp) (R:L2.St→Hp→Prop),Inv Y pins σ H s→em σ H R→wpAny (model Y.prog Y.w) Y.A tree (fun _ s' => ∃σ' H',Inv Y pins σ' H' s'∧R σ' H') Y.xe s
end L2
namespace DL
open PySem.Spec L2
section
variable {X:Cx}{F:List Addr}{a b c:Expr}{es:List Expr}{fa fb fc:DE}{pos:Pos}
noncomputable def kList:List Ev→Option Ev:=fun rs=>match rs with
 |[r]=>(match r.d with
  |.lst ds=>if r.ok||flats ds then some (.nw ds) else none
  |_=>none)
 |_=>none
theorem zaw3:CallD X F (.type "list") kList:=CallD.of zae9 fun H0 H A xs rs e Q m g q ek hq=>by
 unfold kList at ek
 split at ek
 ·rename_i r
  cases q with
  |cons q1 q2 =>
   cases q2
   split at ek
   ·rename_i ds z
    split at ek
    case isFalse=>cases ek
    rename_i c
    cases ek
    obtain⟨p,vs,rfl,h1,h2⟩:=q1.items m g z c
    exact⟨p,vs,rfl,.inl h1,fun l hl=>hq _ _ (zc5 hl) ⟨l,vs,rfl,Same.free g hl,za9,Reps.mono (zh2 hl) h2⟩⟩
   ·cases ek
 ·cases ek
end
end DL
namespace DL
open PySem.Spec L2
section
variable {X:Cx}{F:List Addr}{a b c:Expr}{es:List Expr}{fa fb fc:DE}{g:DS}{pos:Pos}{tg:Expr}{gt:TG}{kt:D→Th→Option Th}
noncomputable def kAug (f:Int→Int→Int) (t:Th) (i:Nat) (r:Ev):Option Out:=match t[i]?,r.d with
 |some (.val (.int m)),.int n=>some (.nx (t.set i (.val (.int (f m n)))))
 |_,_=>none
def dAug (f:Int→Int→Int) (i:Nat) (fe:DE):DS:=fun t=>(fe t).bind fun r=>kAug f t i r
theorem psd_aug {op:Operator}{f:Int→Int→Int} (i:Nat) {x:Str}{pos':Pos} (ho:PIp X op (ipI f)) (hN:X.N.Nodup) (hi:X.N[i]?=some x) (hx:Loc X.env.scope x) (he:PE X a (dE X.K F fa)) (hf:X.fn x=true∨X.env.scope.names.lookup x=some .local:=by first | exact .inl rfl | exact .inr rfl | assumption) :
  PS X (.AugAssign (.Name x pos') op a pos) (dS X.K F (dAug f i fa)):=by
 refine PS.imp (ps_aug hN hi hx he ho hf) ?_
 rintro E σ H ⟨A,t,o,R,e,h⟩
 unfold dAug at e
 cases e1:fa t with
 |none=>rw [e1]at e;cases e
 |some r =>
  rw [e1]at e
  have e:kAug f t i r=some o:=e
  unfold kAug at e
  split at e
  case h_2=>cases e
  rename_i m n z1 z2
  cases e
  obtain⟨v,a1,a2⟩:=R.rel.getVal z1
  cases ze1 a2
  refine⟨_,a1,A,t,r,R,e1,fun y H' gs q=>?_⟩
  have p:=q.full
  rw [z2]at p
  cases ze1 p
  have hlt:i<t.length:=(zbc7.mp z1).1
  obtain⟨A',g',R'⟩:=R.put (i:=i) (r:=.cl (.int (f m n))) gs (.int _) (t':=t.set i (.val (.int (f m n)))) (by unfold zm1;rw [if_pos hlt])
  exact⟨m,n,rfl,rfl,h _ _ _ g' R'⟩
noncomputable def dCh (k k':Ev→Ev→Option Ev) (fa fb fc:DE):DT:=fun t=>(fa t).bind fun r1=>(fb t).bind fun r2=>(k r1 r2).bind fun r=>match r.d with
 |.bl true=>(fc t).bind fun r3=>(k' r2 r3).bind fun r'=>match r'.d with
  |.bl z=>some z
  |_=>none
 |.bl false=>some false
 |_=>none
noncomputable def rK (X:Cx) (F:List Addr) (k:Ev→Ev→Option Ev) (A:List Addr) (H0:Hp):R2:=fun x y H Q=>Lists H0 (A++F)∧Same H0 H∧∃r1 r2 r,RepEv X.K F A H0 H r1 x∧RepEv X.K F A H0 H r2 y∧k r1 r2=some r∧∀z H',Same H H'→RepEv X.K F A H0 H' r z→Q z H'
theorem OpD.toR {f:Value→Value→Sem Value}{k:Ev→Ev→Option Ev} (h:OpD X F f k) (A:List Addr) (H0:Hp):OpR X f (rK X F k A H0) :=
 fun pins s σ H x y v u Q I rx ry ⟨m,gs,r1,r2,r,q1,q2,e,hq⟩=>h pins s σ H0 H A x y v u Q r1 r2 r I m gs rx ry q1 q2 e hq
end
end DL
namespace DL
open PySem.Spec L2
def zk4:List D→Option (List Int)
 |[]=>some []
 |.int i::r=>(zk4 r).map fun ns=>i::ns
 |_::_=>none
theorem zn6:∀ {ds:List D}{ns:List Int},zk4 ds=some ns→ds=ns.map D.int
 |[],ns,e=>by cases e;rfl
 |.int i::r,ns,e=>by
  unfold zk4 at e
  cases e1:zk4 r with
  |none=>rw [e1]at e;cases e
  |some m=>rw [e1]at e;cases e;rw [zn6 e1];rfl
 |.non::r,ns,e=>by cases e
 |.bl _::r,ns,e=>by cases e
 |.str _::r,ns,e=>by cases e
 |.tup _::r,ns,e=>by cases e
 |.lst _::r,ns,e=>by cases e
theorem zm8 (ns:List Int):zk4 (ns.map D.int)=some ns:=by
 induction ns with
 |nil=>rfl
 |cons n r ih=>simp [zk4,ih]
theorem ze7 {K:zax7}{H:Hp}:∀ {ns:List Int}{vs:List V},Reps K H (ns.map D.int) vs→vs=ns.map V.int
 |[],_,.nil=>rfl
 |n::r,_,.cons h q=>by cases ze1 h;rw [ze7 q];rfl
section
variable {X:Cx}{F:List Addr}{a b c:Expr}{es:List Expr}{fa fb fc:DE}{pos:Pos}
theorem call_sum (hc:X.calm=true):zn1 X (.builtin "sum") (fun xs H Q => ∃(p:Addr) (ns:List Int),xs=[.ref p]∧SqL X.K H p (ns.map V.int)∧Q (.int ns.sum) H):=by
 intro pins s σ H xs us Q I r h
 obtain⟨p,ns,rfl,hs,q⟩:=h
 obtain⟨u,rfl,ru⟩:=zt5 r
 cases ru
 obtain⟨its,rv,pl,_⟩:=I.list hs
 have hi:IntsAre its ns:=zk5 rv
 obtain⟨ys,e⟩:=hi.allInts.items
 have hl:s.heap.IsList p (intItems ys):=by rw [← e];exact PlainL.isL pl
 refine sum_intListG (I.ok.hd hc) hl fun h' tk t' hk=>⟨.int _,H,I.kept (t':=tk) hk,⟨t',rfl⟩,?_⟩
 have en:=nums_intItems ys
 rw [preSum_eq,zbl2 (by simp)]
 have e2:numsOf (intItems ys).toList=ns:=by rw [← e];exact hi.numsOf
 rw [← nums_intItems,e2]
 exact q
noncomputable def kSum:List Ev→Option Ev:=fun rs=>match rs with
 |[r]=>(match r.d with
  |.lst ds=>(zk4 ds).map fun ns=>.cl (.int ns.sum)
  |_=>none)
 |_=>none
theorem cd_sum (hc:X.calm=true):CallD X F (.builtin "sum") kSum:=CallD.of (call_sum hc) fun H0 H A xs rs e Q m g q ek hq=>by
 unfold kSum at ek
 split at ek
 ·rename_i r
  cases q with
  |cons q1 q2 =>
   cases q2
   split at ek
   ·rename_i ds z
    cases e1:zk4 ds with
    |none=>rw [e1]at ek;cases ek
    |some ns =>
     rw [e1]at ek
     cases ek
     have p:=q1.full
     rw [z,zn6 e1]at p
     cases p with
     |lst h1 h2 =>
      rw [ze7 h2]at h1
      exact⟨_,ns,rfl,h1,hq _ H (Same.refl H) (.int _)⟩
   ·cases ek
 ·cases ek
end
end DL
namespace DL
open PySem.Spec L2
theorem zau7 (i j:Int):eqD (.int i) (.int j)=decide (i=j):=by
 rw [zbe0,eqD_true];simp
theorem sm_iff {i:Int}:sm i=true↔i.natAbs<bnd:=by simp [sm]
theorem sm_lt {i:Int} (h:i.natAbs<2 ^ 256):sm i=true:=sm_iff.mpr (zay8 h (by unfold bnd;exact zbd3 (by decide) (by decide)))
theorem sm_of {i:Int} (h1 : -10000000000000000000000000000000000000000000000000000000000000000000000000000<i) (h2:i<10000000000000000000000000000000000000000000000000000000000000000000000000000):sm i=true:=by
 apply sm_lt
 have:(2:Nat) ^ 256=115792089237316195423570985008687907853269984665640564039457584007913129639936:=by decide
 lia
theorem fmod_pos {a b:Int} (h:0<b):0≤a.fmod b∧a.fmod b<b:=by
 rw [zbj1 a (by lia)]
 exact⟨Int.emod_nonneg a (by lia),Int.emod_lt_of_pos a h⟩
theorem zb8 {g1 g2:DS}{t t':Th} (h:g1 t=some (.nx t')):dSeq g1 g2 t=g2 t':=by simp [dSeq,h]
theorem seq_rt {g1 g2:DS}{t:Th}{r:Ev} (h:g1 t=some (.rt r)):dSeq g1 g2 t=some (.rt r):=by simp [dSeq,h]
theorem RepDs.length {K:zax7}{H0 H:Hp}:∀ {ds:List D}{vs:List V}{B:List Addr},RepDs K H0 H ds vs B→vs.length=ds.length
 |_,_,_,.nil=>rfl
 |_,_,_,.cons _ r=>by simp [RepDs.length r]
noncomputable def Reach (K:zax7) (H:Hp):V→List Int→V→Prop
 |v,[],w=>v=w
 |v,n::ns,w => ∃p vs x,v=.ref p∧(SqL K H p vs∨SqT K H p vs)∧atI vs n=some x∧Reach K H x ns w
theorem zad7:∀ {ds:List D}{j:Nat}{d:D},flats ds=true→ds[j]?=some d→flat d=true
 |[],j,d,_,e=>by simp at e
 |x::xs,0,d,f,e=>by simp [flats]at f;simp at e;subst e;exact f.1
 |x::xs,j+1,d,f,e=>by simp [flats]at f;exact zad7 f.2 (by simpa using e)
theorem flat_at {ds:List D}{n:Int}{d:D} (f:flats ds=true) (e:atI ds n=some d):flat d=true:=by
 unfold L2.atI at e
 cases e1:ixN ds.length n with
 |none=>rw [e1]at e;cases e
 |some j=>rw [e1]at e;exact zad7 f e
theorem atI_of {α:Type}{xs:List α}{n:Int}{x:α} (e:atI xs n=some x):∃j,ixN xs.length n=some j∧xs[j]?=some x:=by
 unfold L2.atI at e
 cases e1:ixN xs.length n with
 |none=>rw [e1]at e;cases e
 |some j=>rw [e1]at e;exact⟨j,rfl,e⟩
theorem RSl.focusDp {K:zax7}{H0 H:Hp}:∀ {t:Th}{σ:L2.St}{A:List Addr},RSl K H0 H t σ A→A.Nodup→∀ {i:Nat}{d:D},t[i]?=some (.dp d)→∃v B,σ[i]?=some (some v)∧(∀b∈B,b∈A)∧B.Nodup∧RepD K H0 H d v B ∧
  ∀H0' H' d2 B2,Same H0 H0'→RepD K H0' H' d2 v B2→B2.Sublist B→(∀q∈A,q∉B→∀o,H q=some o→H' q=some o)→∃A2,RSl K H0' H' (t.set i (.dp d2)) σ A2∧A2.Sublist A:=by
 intro _ _ _ h
 induction h with
 |nil =>
  intro n i d e
  simp at e
 |@no _ _ _ _ r ih =>
  intro n i d e
  cases i with
  |zero =>
   simp at e
  |succ i =>
   obtain⟨v,B,a,b,n',c,k⟩:=ih n (i:=i) (d:=d) (by simpa using e)
   refine⟨v,B,by simpa using a,b,n',c,fun H0' H' d2 B2 s q sb w=>?_⟩
   obtain⟨A2,x,y⟩:=k H0' H' d2 B2 s q sb w
   exact⟨A2,.no x,y⟩
 |@val _ v _ _ _ h r ih =>
  intro n i d e
  cases i with
  |zero =>
   simp at e
  |succ i =>
   obtain⟨v,B,a,b,n',c,k⟩:=ih n (i:=i) (d:=d) (by simpa using e)
   refine⟨v,B,by simpa using a,b,n',c,fun H0' H' d2 B2 s q sb w=>?_⟩
   obtain⟨A2,x,y⟩:=k H0' H' d2 B2 s q sb w
   exact⟨A2,.val (Rep.mono s h) x,y⟩
 |@own p _ _ _ _ _ h1 h2 r ih =>
  intro n i d e
  cases i with
  |zero =>
   simp at e
  |succ i =>
   have n0:=zaz8.mp n
   obtain⟨v,B,a,b,n',c,k⟩:=ih n0.2 (i:=i) (d:=d) (by simpa using e)
   refine⟨v,B,by simpa using a,fun x hx=>zax9 _ (b x hx),n',c,fun H0' H' d2 B2 s q sb w=>?_⟩
   obtain⟨A2,x,y⟩:=k H0' H' d2 B2 s q sb (fun q hq=>w q (zax9 _ hq))
   exact⟨p::A2,.own (w p (zay1 ..) (fun z=>n0.1 (b p z)) _ h1) (Reps.mono s h2) x,y.cons₂ _⟩
 |@dp _ v C _ _ _ h r ih =>
  intro n i d e
  cases i with
  |zero =>
   simp at e;subst e
   have n0:=zay9.mp n
   refine⟨v,C,rfl,fun x hx=>zax8 _ hx,n0.1,h,fun H0' H' d2 B2 s q sb w=>?_⟩
   exact⟨_,.dp q (RSl.mono s r fun p hp=>w p (zax6 _ hp) fun z=>n0.2.2 p z p hp rfl),List.Sublist.append sb (List.Sublist.refl _)⟩
  |succ i =>
   have n0:=zay9.mp n
   obtain⟨v,B,a,b,n',c,k⟩:=ih n0.2.1 (i:=i) (d:=d) (by simpa using e)
   refine⟨v,B,by simpa using a,fun x hx=>zax6 _ (b x hx),n',c,fun H0' H' d2 B2 s q sb w=>?_⟩
   obtain⟨A2,x,y⟩:=k H0' H' d2 B2 s q sb (fun q hq=>w q (zax6 _ hq))
   exact⟨C++A2,.dp (RepD.mono s h fun p hp=>w p (zax8 _ hp) fun z=>n0.2.2 p hp p (b p z) rfl) x,List.Sublist.append (List.Sublist.refl _) y⟩
noncomputable def pthD:List DE→Th→Option (List Int)
 |[],_=>some []
 |f::fs,t=>(f t).bind fun r=>match r.d with
  |.int n=>(pthD fs t).map (n::·)
  |_=>none
theorem zab9 {f:DE}{t:Th}:∀ {fs:List DE}{ns':List Int},pthD (fs++[f]) t=some ns'→∃ns n r,pthD fs t=some ns∧f t=some r∧r.d=.int n∧ns'=ns++[n]
 |[],ns',e=>by
  simp only [zbm1,pthD]at e
  cases e1:f t with
  |none=>rw [e1]at e;cases e
  |some r =>
   rw [e1]at e
   simp only [zay2]at e
   split at e
   ·rename_i n z;cases e;exact⟨[],n,r,rfl,rfl,z,rfl⟩
   ·cases e
 |g::fs,ns',e=>by
  simp only [zbp0,pthD]at e
  cases e1:g t with
  |none=>rw [e1]at e;cases e
  |some r =>
   rw [e1]at e
   simp only [zay2]at e
   split at e
   ·rename_i n z
    cases e2:pthD (fs++[f]) t with
    |none=>rw [e2]at e;cases e
    |some ms =>
     rw [e2]at e
     cases e
     obtain⟨ns,m,r',a1,a2,a3,a4⟩:=zab9 e2
     refine⟨n::ns,m,r',?_,a2,a3,by rw [a4];rfl⟩
     simp only [pthD,e1,zay2,z,a1];rfl
   ·cases e
theorem Reach.snoc {K:zax7}{H:Hp}{n:Int}{w:V}:∀ {ns:List Int}{v:V},Reach K H v (ns++[n]) w→∃p vs,Reach K H v ns (.ref p)∧(SqL K H p vs∨SqT K H p vs)∧atI vs n=some w
 |[],v,h=>by
  obtain⟨p,vs,x,rfl,h1,h2,h3⟩:=h
  cases h3
  exact⟨p,vs,rfl,h1,h2⟩
 |m::ns,v,h=>by
  obtain⟨p,vs,x,rfl,h1,h2,h3⟩:=h
  obtain⟨p',vs',a1,a2,a3⟩:=Reach.snoc h3
  exact⟨p',vs',⟨p,vs,x,rfl,h1,h2,a1⟩,a2,a3⟩
noncomputable def plE (K:zax7) (F:List Addr) (i:Nat) (fs:List DE):TE:=fun σ H Q => ∃A t v ns w,RS K F H A t σ∧pthD fs t=some ns∧σ[i]?=some (some v)∧Reach K H v ns w∧∀H',Same H H'→Q w H'
section
variable {X:Cx}{F:List Addr}{a b c o:Expr}{es:List Expr}{fa fb fc:DE}{fs:List DE}{g g1 g2:DS}{ft fu:DT}{pos:Pos}{st:Stmt}{rest:List Stmt}{tg:Expr}{gt:TG}{kt:D→Th→Option Th}
theorem zaq0 (i:Nat) {x:Str} (hN:X.N[i]?=some x:=by rfl) (hv:Vis X.env.scope x:=by first | exact Or.inl rfl | exact Or.inr (Or.inl rfl) |exact Or.inr (Or.inr rfl)) (hd:(x ==("__debug__":Str))=false:=by decide)
  (hcd:(x ==("__classdict__":Str))=false:=by decide):PE X (.Name x pos) (plE X.K F i []):=by
 refine PE.imp (zo1 (i:=i) hN hv hd hcd) ?_
 rintro σ H Q ⟨A,t,v,ns,w,R,e,h1,h2,h⟩
 cases e
 cases h2
 exact⟨v,h1,h H (Same.refl H)⟩
theorem pl_ix {i:Nat} (ha:PE X a (plE X.K F i fs)) (hb:PE X b (dE X.K F fb)) (hs:zaj4 b:=by intro _ _;rfl):PE X (.Subscript a b pos) (plE X.K F i (fs++[fb])):=by
 refine PE.imp (pe_ix (ix_list.or ix_tup) ha hb hs) ?_
 rintro σ H Q ⟨A,t,v,ns,w,R,e,h1,h2,h⟩
 obtain⟨ms,n,r,a1,a2,a3,rfl⟩:=zab9 e
 obtain⟨p,vs,b1,b2,b3⟩:=h2.snoc
 refine⟨A,t,v,ms,.ref p,R,a1,h1,b1,fun H1 gs=>⟨A,t,r,R.grow gs,a2,fun y H2 gs2 q=>?_⟩⟩
 have p2:=q.full
 rw [a3]at p2
 cases ze1 p2
 rcases b2 with b2 | b2
 ·exact .inl ⟨p,vs,n,w,rfl,rfl,SqL.mono (gs.trans gs2) b2,b3,h H2 (gs.trans gs2)⟩
 ·exact .inr ⟨p,vs,n,w,rfl,rfl,SqT.mono (gs.trans gs2) b2,b3,h H2 (gs.trans gs2)⟩
end
end DL
namespace DL
open PySem.Spec L2
noncomputable def toDn:Ev→Option D
 |.cl d=>if flat d then some d else none
 |.tm d=>if flat d then some d else none
 |.nw xs=>if flats xs then some (.lst xs) else none
 |.dn d=>some d
theorem RepEv.toDn {K:zax7}{F A:List Addr}{H H':Hp}{r:Ev}{v:V}{d:D} (m:Lists H (A++F)) (g:Same H H') (h:RepEv K F A H H' r v) (e:toDn r=some d):RepEv K F A H H' (.dn d) v:=by
 cases r with
 |cl d0 =>
  simp only [DL.toDn]at e
  split at e
  ·rename_i f;cases e
   exact⟨[],zba8,fun b hb=>(by cases hb),.flat f h⟩
  ·cases e
 |tm d0 =>
  simp only [DL.toDn]at e
  split at e
  ·rename_i f;cases e
   exact⟨[],zba8,fun b hb=>(by cases hb),.flat f (Rep.hid (m.mono g) f (Rep.mono (zb6 _ _) h))⟩
  ·cases e
 |nw xs =>
  simp only [DL.toDn]at e
  split at e
  ·rename_i f;cases e
   obtain⟨p,vs,rfl,h1,h2,h3⟩:=h
   exact⟨[p],by simp,fun b hb=>by simp at hb;subst hb;exact h1,.lst h2 (RepDs.of_flat f h3)⟩
  ·cases e
 |dn d0=>cases e;exact h
abbrev DN:=Th→Option (D×List Nat)
abbrev DNs:=Th→Option (List D×List Nat)
def FromN (H:Hp) (t:Th) (σ:L2.St) (I:List Nat) (b:Addr):Prop:=H b=none∨∃i∈I,∃xs,t[i]?=some (.own xs)∧σ[i]?=some (some (.ref b))
noncomputable def dNs (K:zax7) (F:List Addr) (f:DNs):TA:=fun σ H Q => ∃A t ds I,RS K F H A t σ∧f t=some (ds,I)∧∀vs H' B,Same H H'→B.Nodup→(∀b∈B,FromN H t σ I b)→RepDs K (hide (B++(A++F)) H') H' ds vs B→Q vs H'
section
variable {X:Cx}{F:List Addr}{a b c o:Expr}{es:List Expr}{fa fb fc:DE}{fs:List DE}{fn:DN}{fns:DNs}{pos:Pos}
def nNil:DNs:=fun _=>some ([],[])
theorem pns_nil:PA X [] (dNs X.K F nNil):=PA.imp zi8 fun σ H Q ⟨A,t,rs,I,R,e,h⟩=>by cases e;exact h [] H [] (Same.refl H) zba8 (fun b hb=>by cases hb) .nil
end
end DL
namespace DL
open PySem.Spec L2
theorem RepDs.appD {K:zax7}{H0 H:Hp}{d:D}{v:V}{C:List Addr} (q:RepD K H0 H d v C):∀ {ds:List D}{vs:List V}{B:List Addr},RepDs K H0 H ds vs B→RepDs K H0 H (ds++[d]) (vs++[v]) (B++C)
 |_,_,_,.nil=>by
  have:=RepDs.cons q .nil
  simpa using this
 |_,_,_,.cons h r=>by
  have:=RepDs.cons h (RepDs.appD q r)
  simpa [zbh9] using this
noncomputable def zh7 (k:D→Th→Option Th) (ft:DT) (fe:DE):List D→Th→Option (List D)
 |[],_=>some []
 |d::ds,t=>(k d t).bind fun t1=>(ft t1).bind fun b=>if b then (fe t1).bind fun r=>(toDn r).bind fun d=>(zh7 k ft fe ds t1).map fun xs=>d::xs else zh7 k ft fe ds t1
noncomputable def zo6 (n:Nat) (cap:List Nat) (fs:DI) (k:D→Th→Option Th) (ft:DT) (fe:DE):DE:=fun t=>(fs t).bind fun q=>(capD t cap).bind fun c=>if q.2.length≤50000 then (zh7 k ft fe q.2 (zaz6 n Sl.no++c.2.map Sl.val)).map fun xs=>.dn (.lst xs) else none
theorem zv7 {k:D→Th→Option Th}{ft:DT}{fe:DE}:∀ {ds:List D}{t:Th}{xs:List D},zh7 k ft fe ds t=some xs→xs.length≤ds.length
 |[],t,xs,e=>by cases e;simp
 |d::ds,t,xs,e=>by
  unfold zh7 at e
  cases e1:k d t with
  |none=>rw [e1]at e;cases e
  |some t1 =>
   rw [e1]at e
   have e:((ft t1).bind fun b=>if b then (fe t1).bind fun r=>(toDn r).bind fun d=>(zh7 k ft fe ds t1).map fun xs=>d::xs else zh7 k ft fe ds t1)=some xs:=e
   cases e2:ft t1 with
   |none=>rw [e2]at e;cases e
   |some b =>
    rw [e2]at e
    cases b with
    |false=>have:=zv7 (ds:=ds) (t:=t1) e;simp;lia
    |true =>
     have e:((fe t1).bind fun r=>(toDn r).bind fun d=>(zh7 k ft fe ds t1).map fun xs=>d::xs)=some xs:=e
     cases e3:fe t1 with
     |none=>rw [e3]at e;cases e
     |some r =>
      rw [e3]at e
      have e:((toDn r).bind fun d=>(zh7 k ft fe ds t1).map fun xs=>d::xs)=some xs:=e
      cases e5:toDn r with
      |none=>rw [e5]at e;cases e
      |some d0 =>
       rw [e5]at e
       have e:((zh7 k ft fe ds t1).map fun xs=>d0::xs)=some xs:=e
       cases e4:zh7 k ft fe ds t1 with
       |none=>rw [e4]at e;cases e
       |some ys=>rw [e4]at e;cases e;have:=zv7 e4;simp;lia
theorem zab1 {X:Cx}{F:List Addr}{n:Nat}{cap:List Nat}{fs:DI}{g:TG}{kt:D→Th→Option Th}{ft:DT}{fe:DE} (hk:∀F',TgOk X.K F' g kt) {σ:L2.St}{H:Hp}{Q:VK} (h:dE X.K F (zo6 n cap fs kt ft fe) σ H Q) :
  zag0 n cap (dI X.K F fs) g (fun σ H Q => ∃F',dT X.K F' ft σ H Q) (fun σ H Q => ∃F',dE X.K F' fe σ H Q) σ H Q:=by
 obtain⟨A,t,r,R,e,h⟩:=h
 unfold zo6 at e
 cases e1:fs t with
 |none=>rw [e1]at e;cases e
 |some q =>
  obtain⟨b,ds⟩:=q
  cases e2:capD t cap with
  |none=>rw [e1,e2]at e;cases e
  |some q2 =>
   obtain⟨c,caps⟩:=q2
   rw [e1,e2]at e
   have e:(if ds.length≤50000 then (zh7 kt ft fe ds (zaz6 n Sl.no++caps.map Sl.val)).map fun xs=>Ev.dn (.lst xs) else none)=some r:=e
   split at e
   case isFalse=>cases e
   rename_i hlen
   cases e3:zh7 kt ft fe ds (zaz6 n Sl.no++caps.map Sl.val) with
   |none=>rw [e3]at e;cases e
   |some xs =>
    rw [e3]at e
    cases e
    have xl:=zv7 e3
    obtain⟨cvs,cv1,cv2⟩:=zq6 R e2
    -- what is hidden from the block,but its own list
    obtain⟨F',F'def⟩:∃F',F'=hidF (b&&c) A F:=⟨_,rfl⟩
    have subF:∀x∈F',x∈A++F:=fun x hx=>by
     rw [F'def]at hx
     unfold hidF at hx
     split at hx
     ·exact hx
     ·exact zax6 _ hx
    have lessB:∀H:Hp,Same (hide (hidF b A F) H) (hide F' H):=fun H=>za7 H fun x hx=>by
     rw [F'def]at hx
     cases b<;>cases c<;>simp [hidF]at hx ⊢<;>first | exact hx | exact .inr hx | (rcases hx with z | z<;>simp [z])
    have lessC:∀H:Hp,Same (hide (hidF c A F) H) (hide F' H):=fun H=>za7 H fun x hx=>by
     rw [F'def]at hx
     cases b<;>cases c<;>simp [hidF]at hx ⊢<;>first | exact hx | exact .inr hx | (rcases hx with z | z<;>simp [z])
    have wi:zag0 n cap (dI X.K F fs) g (fun σ H Q => ∃F',dT X.K F' ft σ H Q) (fun σ H Q => ∃F',dE X.K F' fe σ H Q) σ H Q:=by
     refine⟨A,t,b,ds,R,e1,fun J H1 Good gs src gd Dd hD=>?_⟩
     have H1A:Lists H1 (A++F):=R.mu.mono gs
     have st0:Same (hide F' H1) (hide (Dd::F') (upd H1 Dd (.lst []))):=zh2 hD
     refine⟨fun i m σ' H'=>i+m=ds.length∧∃th acc rest vs B,RS X.K (Dd::F') H' [] th σ'∧zh7 kt ft fe (ds.drop i) th=some rest∧acc++rest=xs∧H' Dd=some (.lst vs)∧(RepDs X.K (hide (Dd::F') H') H' acc vs B∧B.Nodup∧Dd∉B∧∀b∈B,H1 b=none)∧Same H1 H'∧Good (Dd::F') H',
      ⟨ds.length,by lia,_,[],xs,[],[],⟨?_,zba8,fun p hp=>(by cases hp),?_⟩,by simpa using e3,rfl,za9,⟨.nil,zba8,by simp,by simp⟩,zc5 hD,src.keep _ _ _ _ gd (fun b o z=>st0 _ _ (lessB _ _ _ z))⟩,?_⟩
     ·intro q hq
      have hq:q∈Dd::F':=hq
      rcases zay5.mp hq with z | z
      ·exact⟨mL [],by rw [z];exact za9⟩
      ·obtain⟨us,w⟩:=H1A q (subF q z)
       exact⟨us,(zc5 hD) _ _ w⟩
     ·unfold capV
      rw [cv1]
      exact RSl.noVals (Reps.mono (fun b o z=>st0 _ _ (lessC H1 _ _ (za8 gs _ _ z))) cv2) n
     ·rintro i m σ' H' ⟨hm,th,acc,rest,vs,B,RR,ec,ex,hv,⟨hr,hnd,hDB,hfr⟩,sm,gg⟩
      cases m with
      |zero =>
       have z:i=ds.length:=by lia
       subst z
       rw [zbf3]at ec
       cases ec
       rw [zbf9]at ex
       subst ex
       refine .inl ⟨src.stop _ _ gg,h _ H' (gs.trans sm) ⟨Dd::B,zaz8.mpr ⟨hDB,hnd⟩,fun x hx=>?_,.lst hv (RepDs.hid (fun q hq=>?_) (zb6 _ _) hr)⟩⟩
       ·rcases zay5.mp hx with rfl | z
        ·exact Same.free gs hD
        ·exact Same.free gs (hfr x z)
       ·rcases zay0.mp hq with z | z
        ·rcases zay5.mp z with rfl | z
         ·exact⟨mL vs,hv⟩
         ·exact hr.lists q z
        ·obtain⟨us,w⟩:=H1A q z
         exact⟨us,sm _ _ w⟩
      |succ m =>
       have hil:i<ds.length:=by lia
       refine .inr ⟨src.go _ _ i gg hil,fun σ' H'=>i+1+m=ds.length∧∃th acc rest vs B,RS X.K (Dd::F') H' [] th σ'∧zh7 kt ft fe (ds.drop (i+1)) th=some rest∧acc++rest=xs∧H' Dd=some (.lst vs)∧(RepDs X.K (hide (Dd::F') H') H' acc vs B∧B.Nodup∧Dd∉B∧∀b∈B,H1 b=none)∧Same H1 H'∧Good (Dd::F') H',
        fun σ' H' q=>⟨m,zbc5 m,q⟩,fun x H2 y=>?_⟩
       obtain⟨gs2,d,hd,rd⟩:=src.yld _ _ i x H2 gg RR.mu y hil
       have ed:ds.drop i=d::ds.drop (i+1):=by
        have hd':ds[i]=d:=by
         rw [zay3 hil]at hd
         exact Option.some.inj hd
        rw [← hd']
        exact zbb4 hil
       rw [ed]at ec
       unfold zh7 at ec
       cases k1:kt d th with
       |none=>rw [k1]at ec;cases ec
       |some t1 =>
        rw [k1]at ec
        have ec:((ft t1).bind fun b=>if b then (fe t1).bind fun r=>(toDn r).bind fun d=>(zh7 kt ft fe (ds.drop (i+1)) t1).map fun xs=>d::xs else zh7 kt ft fe (ds.drop (i+1)) t1)=some rest:=ec
        refine hk (Dd::F') σ' H2 [] th t1 d x _ (RR.grow gs2) rd k1 fun σ2 A2 gr2 R2=>?_
        have A20:=zk3 R2 gr2
        subst A20
        cases k2:ft t1 with
        |none=>rw [k2]at ec;cases ec
        |some bb =>
         rw [k2]at ec
         refine⟨Dd::F',[],t1,bb,R2,k2,fun H3 gs3=>?_⟩
         cases bb with
         |false =>
          refine iteF ⟨by lia,t1,acc,rest,vs,B,R2.grow gs3,ec,ex,gs3 _ _ (gs2 _ _ hv),⟨RepDs.mono (za8 (gs2.trans gs3)) hr fun p _ o w=>gs3 _ _ (gs2 _ _ w),hnd,hDB,hfr⟩,(sm.trans gs2).trans gs3,src.keep _ _ _ _ gg (za8 (gs2.trans gs3))⟩
         |true =>
          have ec:((fe t1).bind fun r=>(toDn r).bind fun d=>(zh7 kt ft fe (ds.drop (i+1)) t1).map fun xs=>d::xs)=some rest:=ec
          cases k3:fe t1 with
          |none=>rw [k3]at ec;cases ec
          |some re =>
           rw [k3]at ec
           have ec:((toDn re).bind fun d=>(zh7 kt ft fe (ds.drop (i+1)) t1).map fun xs=>d::xs)=some rest:=ec
           cases k5:toDn re with
           |none=>rw [k5]at ec;cases ec
           |some de =>
           rw [k5]at ec
           have ec:((zh7 kt ft fe (ds.drop (i+1)) t1).map fun xs=>de::xs)=some rest:=ec
           cases k4:zh7 kt ft fe (ds.drop (i+1)) t1 with
           |none=>rw [k4]at ec;cases ec
           |some ys =>
            rw [k4]at ec
            cases ec
            refine iteT ⟨Dd::F',[],t1,re,R2.grow gs3,k3,fun v H4 gs4 q4=>⟨vs,gs4 _ _ (gs3 _ _ (gs2 _ _ hv)),?_,?_⟩⟩
            ·have l1:=hr.length
             have l2:acc.length+(ys.length+1)=xs.length:=by rw [← ex];simp
             exact zay8 (show vs.length<50000 by lia) (by rw [sizeLine_eq];decide)
            ·have s3:=gs2.trans gs3
             have s4:=s3.trans gs4
             have hu:Same (hide (Dd::F') H4) (hide (Dd::F') (upd H4 Dd (.lst (vs++[v])))):=zc9 (zay1 ..)
             have mu3:Lists H3 (Dd::F'):=(R2.grow gs3).mu
             obtain⟨B4,n4,f4,r4⟩:=q4.toDn (R2.grow gs3).mu gs4 k5
             have D3:H3 Dd=some (.lst vs):=s3 _ _ hv
             have nD4:Dd∉B4:=fun z=>by rw [f4 _ z]at D3;cases D3
             have off:∀b,b≠Dd→upd H4 Dd (.lst (vs++[v])) b=H4 b:=fun b n=>zb3 n
             refine⟨by lia,t1,acc++[de],ys,vs++[v],B++B4,RS.updF ((R2.grow gs3).grow gs4) (zay1 ..),k4,by simpa using ex,za9,⟨?_,?_,?_,?_⟩,?_,?_⟩
             ·refine RepDs.appD (RepD.mono hu (RepD.hid (mu3.mono gs4) (zb6 _ _) r4) fun b hb o w=>?_) (RepDs.mono (fun b o z=>hu _ _ (za8 s4 _ _ z)) hr fun b hb o w=>?_)
              ·rw [off b fun z=>nD4 (z ▸ hb)];exact w
              ·rw [off b fun z=>hDB (z ▸ hb)];exact s4 _ _ w
             ·refine zay9.mpr ⟨hnd,n4,fun x hx y hy e=>?_⟩
              subst e
              obtain⟨us,w⟩:=hr.lists x hx
              have:=s3 _ _ w
              rw [f4 x hy]at this;cases this
             ·intro z
              rcases zay0.mp z with z | z
              ·exact hDB z
              ·exact nD4 z
             ·intro b hb
              rcases zay0.mp hb with z | z
              ·exact hfr b z
              ·exact Same.free (sm.trans s3) (f4 b z)
             ·exact fun b o z=>by
               rw [zb3 (fun w=>by rw [w,hD]at z;cases z)]
               exact s4 _ _ (sm _ _ z)
             ·exact src.keep _ _ _ _ gg (fun b o z=>hu _ _ (za8 s4 _ _ z))
    exact wi
theorem zar1 {X:Cx}{F:List Addr}{elt tg iter:Expr}{ifs:List Expr}{scope:Scope}{pos:Pos}{n:Nat}{cap:List Nat}{N':List Str}{fs:DI}{g:TG}{kt:D→Th→Option Th}{ft:DT}{fe:DE} (S:CompSc X scope) (hc:X.calm=true) (hi:PI X tg iter (dI X.K F fs))
  (hN:N'.length=n+cap.length) (hcap:∀(k:Nat) (j:Nat),cap[k]?=some j→∃x,N'[n+k]?=some x∧X.N[j]?=some x∧(x,NameKind.free)∈scope.names)
  (hg:∀C s₃ H₃ fp pins,PG (blk X N' scope C s₃ H₃ fp pins) tg g) (hk:∀F',TgOk X.K F' g kt) (ht:∀C s₃ H₃ fp pins F',PTs (blk X N' scope C s₃ H₃ fp pins) ifs (dT X.K F' ft)) (he:∀C s₃ H₃ fp pins F',PE (blk X N' scope C s₃ H₃ fp pins) elt (dE X.K F' fe))
  (hs:∀x,foldedSetIterable iter X.env x=pure x:=by intro _;rfl):PE X (.ListComp elt [⟨tg,iter,ifs,0⟩] scope pos) (dE X.K F (zo6 n cap fs kt ft fe)) :=
 PE.imp (zar5 (g:=g) S hc hi hN hcap hg (fun C s₃ H₃ fp pins pins' s σ H Q I ⟨F',q⟩=>ht C s₃ H₃ fp pins F' pins' s σ H Q I q) (fun C s₃ H₃ fp pins pins' s σ H Q I ⟨F',q⟩=>he C s₃ H₃ fp pins F' pins' s σ H Q I q) hs) fun _ _ _ h=>zab1 hk h
theorem zam8 {X:Cx}{F:List Addr}{elt tg iter:Expr}{ifs:List Expr}{scope:Scope}{pos:Pos}{fs:DI}{g:TG}{kt:D→Th→Option Th}{ft:DT}{fe:DE} (n:Nat) (cap:List Nat) (N':List Str) (hc:X.calm=true) (hi:PI X tg iter (dI X.K F fs))
  (hg:∀C s₃ H₃ fp pins,PG (blk X N' scope C s₃ H₃ fp pins) tg g) (hk:∀F',TgOk X.K F' g kt) (ht:∀C s₃ H₃ fp pins F',PTs (blk X N' scope C s₃ H₃ fp pins) ifs (dT X.K F' ft)) (he:∀C s₃ H₃ fp pins F',PE (blk X N' scope C s₃ H₃ fp pins) elt (dE X.K F' fe))
  (hkd:scope.kind=.function:=by rfl) (hcs:zs2 scope.names X.env.kindOf=true:=by rfl) (hN:N'.length=n+cap.length:=by rfl) (hcap:zw9 N' X.N n scope.names 0 cap=true:=by rfl)
  (hs:∀x,foldedSetIterable iter X.env x=pure x:=by intro _;rfl):PE X (.ListComp elt [⟨tg,iter,ifs,0⟩] scope pos) (dE X.K F (zo6 n cap fs kt ft fe)) :=
 zar1 (zae3 hkd hcs) hc hi hN (fun k j e=>by simpa using zn9 hcap k j e) hg hk ht he hs
section
variable {X:Cx}{F:List Addr}{a b c o:Expr}{es:List Expr}{fa fb fc:DE}{fs:List DE}{ga:DA}{g g1 g2:DS}{ft fu:DT}{pos:Pos}{st:Stmt}{rest:List Stmt}{tg:Expr}{gt:TG}{kt:D→Th→Option Th}
theorem zap2 {K:zax7}{H:Hp}{p:Bool}{v:V} (h:Rep K H (.bl p) v):v=.bl p:=by cases h;rfl
noncomputable def kRep:Ev→Ev→Option Ev:=fun r1 r2=>match r1,r2.d with
 |.nw xs,.int k=>if xs.length≤100&&decide (-1000000≤k∧k≤1000) then some (.nw (zaz6 k.toNat xs).flatten) else none
 |_,_=>none
theorem Reps.rep {K:zax7}{H:Hp}{ds:List D}{vs:List V} (r:Reps K H ds vs):∀k:Nat,Reps K H (zaz6 k ds).flatten (zaz6 k vs).flatten
 |0=>by simpa using .nil
 |k+1=>by simpa [zbd8] using r.app (Reps.rep r k)
theorem zg2:OpD X F (binaryOp .Mult) kRep:=by
 intro pins s σ H0 H A x y v u Q r1 r2 r I m g0 rx ry q1 q2 e hq
 unfold kRep at e
 split at e
 ·rename_i xs k z
  split at e
  ·rename_i ok
   simp only [zay4,decide_eq_true_eq]at ok
   cases e
   have p2:=q2.full
   rw [z]at p2
   cases ze1 p2
   obtain⟨p,vs,rfl,h1,h2,h3⟩:=q1
   refine op_rep pins s σ H _ _ v u Q I rx ry ⟨p,k,vs,rfl,rfl,h2,by lia,by lia,?_,fun l hl=>hq _ _ (zc5 hl) ⟨l,_,rfl,Same.free g0 hl,za9,Reps.mono (zh2 hl) (Reps.rep (Reps.mono (za7 H fun a z=>zax9 _ z) h3) _)⟩⟩
   refine zl6 ?_
   rw [h3.length]
   have h5:k.toNat≤1000:=by lia
   exact zaz4 (zbi2 ok.1 h5) (by decide)
  ·cases e
 ·cases e
def blsD:List D→Option (List Bool)
 |[]=>some []
 |.bl i::r=>(blsD r).map fun ns=>i::ns
 |_::_=>none
theorem zaw9:∀ {ds:List D}{ns:List Bool},blsD ds=some ns→ds=ns.map D.bl
 |[],ns,e=>by cases e;rfl
 |.bl i::r,ns,e=>by
  unfold blsD at e
  cases e1:blsD r with
  |none=>rw [e1]at e;cases e
  |some m=>rw [e1]at e;cases e;rw [zaw9 e1];rfl
 |.non::r,ns,e=>by cases e
 |.int _::r,ns,e=>by cases e
 |.str _::r,ns,e=>by cases e
 |.tup _::r,ns,e=>by cases e
 |.lst _::r,ns,e=>by cases e
theorem zaj9 {K:zax7}{H:Hp}:∀ {ns:List Bool}{vs:List V},Reps K H (ns.map D.bl) vs→vs=ns.map V.bl
 |[],_,.nil=>rfl
 |n::r,_,.cons h q=>by cases zap2 h;rw [zaj9 q];rfl
theorem zaa6:∀ {bs:List Bool}{its:List Value},Vals (bs.map V.bl) its→LSm.BoolsAre its bs
 |[],its,h=>by cases h;exact .nil
 |b::bs,its,h=>by
  cases h with
  |cons r rr=>cases r;exact .cons b (zaa6 rr)
theorem zx2 (hc:X.calm=true):zn1 X (.builtin "all") (fun xs H Q => ∃(p:Addr) (bs:List Bool),xs=[.ref p]∧SqL X.K H p (bs.map V.bl)∧Q (.bl (bs.all id)) H):=by
 intro pins s σ H xs us Q I r h
 obtain⟨p,bs,rfl,hs,q⟩:=h
 obtain⟨u,rfl,ru⟩:=zt5 r
 cases ru
 obtain⟨its,rv,pl,_⟩:=I.list hs
 have hb:=zaa6 rv
 have hl:=PlainL.isL pl
 have hlt:p<s.heap.objs.size:=by obtain⟨_,e,_⟩:=hl;exact zaz5 e
 refine call_all_walk (wpAny_pyIter_list hl ⟨s.heap.objs.size,[s.heap.objs.size,p],[s.heap.objs.size],its.toArray.size,_,_,fun i=>(bs[i]?).getD true,rfl,
  Walks.list (A:=X.A.in1) (I.ok.hd hc) _ p (zba4 hlt) its.toArray,⟨⟨_,zbb1 _ rfl,rfl,rfl⟩,hl.push _⟩,fun i v s' Q' E' hP hQ=>?_,fun h' tk hk=>?_⟩)
 ·obtain⟨b,e,rfl⟩:=hb.get i v (by simpa using hP)
  have hQ:Q' ((bs[i]?).getD true) s':=hQ
  rw [e]at hQ
  exact wpAny_truthy_bool hQ
 ·have e:((zbb6 its.toArray.size).all fun i=>(bs[i]?).getD true)=bs.all id:=by
   rw [zba0,hb.length,LSm.range_all]
  refine⟨.bl _,H,I.kept (t':=tk) (LSm.kept_iter hk),rfl,?_⟩
  rw [e];exact q
theorem zx1 (hc:X.calm=true):zn1 X (.builtin "any") (fun xs H Q => ∃(p:Addr) (bs:List Bool),xs=[.ref p]∧SqL X.K H p (bs.map V.bl)∧Q (.bl (bs.any id)) H):=by
 intro pins s σ H xs us Q I r h
 obtain⟨p,bs,rfl,hs,q⟩:=h
 obtain⟨u,rfl,ru⟩:=zt5 r
 cases ru
 obtain⟨its,rv,pl,_⟩:=I.list hs
 have hb:=zaa6 rv
 have hl:=PlainL.isL pl
 have hlt:p<s.heap.objs.size:=by obtain⟨_,e,_⟩:=hl;exact zaz5 e
 refine call_any_walk (wpAny_pyIter_list hl ⟨s.heap.objs.size,[s.heap.objs.size,p],[s.heap.objs.size],its.toArray.size,_,_,fun i=>(bs[i]?).getD false,rfl,
  Walks.list (A:=X.A.in1) (I.ok.hd hc) _ p (zba4 hlt) its.toArray,⟨⟨_,zbb1 _ rfl,rfl,rfl⟩,hl.push _⟩,fun i v s' Q' E' hP hQ=>?_,fun h' tk hk=>?_⟩)
 ·obtain⟨b,e,rfl⟩:=hb.get i v (by simpa using hP)
  have hQ:Q' ((bs[i]?).getD false) s':=hQ
  rw [e]at hQ
  exact wpAny_truthy_bool hQ
 ·have e:((zbb6 its.toArray.size).any fun i=>(bs[i]?).getD false)=bs.any id:=by
   rw [zba0,hb.length,LSm.range_any]
  refine⟨.bl _,H,I.kept (t':=tk) (LSm.kept_iter hk),rfl,?_⟩
  rw [e];exact q
noncomputable def kBls (f:List Bool→Bool):List Ev→Option Ev:=fun rs=>match rs with
 |[r]=>(match r.d with
  |.lst ds=>(blsD ds).map fun bs=>.cl (.bl (f bs))
  |_=>none)
 |_=>none
theorem cd_bls {id':String}{f:List Bool→Bool} (h:zn1 X (.builtin id') (fun xs H Q => ∃(p:Addr) (bs:List Bool),xs=[.ref p]∧SqL X.K H p (bs.map V.bl)∧Q (.bl (f bs)) H)):CallD X F (.builtin id') (kBls f):=by
 refine CallD.of h fun H0 H A xs rs e Q m g q ek hq=>?_
 unfold kBls at ek
 split at ek
 case h_2=>cases ek
 rename_i r
 cases q with
 |@cons _ v _ vs q1 q2 =>
  cases q2
  split at ek
  case h_2=>cases ek
  rename_i ds z
  cases e1:blsD ds with
  |none=>rw [e1]at ek;cases ek
  |some bs =>
   rw [e1]at ek
   cases ek
   have p:=q1.full
   rw [z,zaw9 e1]at p
   cases p with
   |@lst _ l us h1 h2 =>
    have:=zaj9 h2
    subst this
    exact⟨l,bs,rfl,h1,hq _ H (Same.refl H) (.bl _)⟩
end
end DL
namespace DL
open PySem.Spec L2
def Itr3 (lo c:Int) (n:Nat):It:=⟨fun i _=>i<n,fun i H x H'=>H'=H∧x=.int (lo+i*c),fun i _=>n≤i⟩
theorem zaf9 {P:Program}{w:World}{K:zax7}{tg:Expr} (it:Addr) (lo c:Int) (n:Nat):Turn P w K tg (Itr3 lo c n) [it] it (fun i h=>IsRangeIter h it (lo+(i:Nat)*c) ((n:Int) - (i:Nat)) c) where
 mem:=zaz9.mpr rfl
 obj:=fun i h st b hb=>by
  cases zaz9.mp hb
  refine⟨_,st,fun v z=>?_⟩
  have z':Data.fields _=Data.cell v:=z
  cases z'
 keep:=fun i h h' st k=>k it (zaz9.mpr rfl) _ st
 item:=fun X hP hw hK hc i pins s σ H E I hf st hg=>by
  subst hP hw hK
  obtain⟨f0,f1,f2,f3,f4,f5⟩:=hf it (zaz9.mpr rfl)
  refine (Walks.range (prog:=X.prog) (w:=X.w) (I.ok.hd hc) it lo c n).item i s _ _ hg st fun v h' tk hv st' kk=>?_
  obtain⟨t,rfl⟩:=hv
  have I1:L2.Inv X pins σ H { s with heap:=h',toks:=tk }:=I.turned (fun b o hb e=>kk b o (fun z=>hb (zaz9.mp z)) e) f0 f1 f3 f4 f5
  exact⟨_,rfl,go_of (s:={ s with heap:=h',toks:=tk }) (n := "range_iterator") st' rfl rfl (by decide) ⟨.int (lo+i*c),H,I1,⟨t,rfl⟩,⟨rfl,rfl⟩,st',fun b hb=>(hf b hb).1⟩⟩
 done:=fun X hP hw hK hc i pins s σ H E I hf st hg=>by
  subst hP hw hK
  obtain⟨f0,f1,f2,f3,f4,f5⟩:=hf it (zaz9.mpr rfl)
  have hg':n≤i:=hg
  exact wpAny_pyNext_range_end (I.ok.hd hc) st (by lia) fun h' eb=>⟨rfl,I.turned (t':=s.toks) (fun b o hb e=>eb b o hb e) f0 f1 f3 f4 f5⟩
 self:=fun _ _ _ _ _ st h=>wpAny_pyIter_rangeiter st h
def zk2 (a b c:Int):Bool:=Builtin.Range.small a b c&&decide (c≠0∧c.natAbs<1000000∧0≤Builtin.Range.rangeSize a b c)
def rng3 (a b c:Int):List D:=(zbb6 (Builtin.Range.rangeSize a b c).toNat).map fun i=>.int (a+(i:Nat)*c)
section
variable {X:Cx}{F:List Addr}{a b c o:Expr}{es:List Expr}{fa fb fc:DE}{fs:List DE}{ga:DA}{g g1 g2:DS}{ft fu:DT}{pos:Pos}{st:Stmt}{rest:List Stmt}{tg:Expr}{gt:TG}{kt:D→Th→Option Th}
theorem zap3 {pins:List (Addr×Obj)}{σ:L2.St}{H:Hp}{s:zaz0}{R:It→Hp→Prop}{E:Value→zaz0→Prop}{lo hi k:Int}{t u v:Tok}{tk:Nat} (I:L2.Inv X pins σ H s) (ok:zk2 lo hi k=true)
  (q:R (Itr3 lo k (Builtin.Range.rangeSize lo hi k).toNat) H):wpAny (model X.prog X.w) X.A (pyIter (.ref s.heap.objs.size)) (PIE X pins σ tg R) E { s with heap:=s.heap.push { cls:=.type "range",data:=.fields #[.int lo t,.int hi u,.int k v] },toks:=tk }:=by
 simp only [zk2,zay4,decide_eq_true_eq]at ok
 have I1:L2.Inv X pins σ H { s with heap:=s.heap.push { cls:=.type "range",data:=.fields #[.int lo t,.int hi u,.int k v] },toks:=tk }:=I.kept fun b o e=>zay6 _ e
 refine wpAny_pyIter_range (IsRange.new ..) ok.1 ⟨_,[_],_,_,H,rfl,I1.kept (t':=tk) fun b o e=>zay6 _ e,zaf9 _ lo k _,?_,fun b hb=>?_,q⟩
 ·have e1:lo+((0:Nat):Int)*k=lo:=by simp
  have e2:(((Builtin.Range.rangeSize lo hi k).toNat:Nat):Int) - ((0:Nat):Int)=Builtin.Range.rangeSize lo hi k:=by lia
  show IsRangeIter _ _ (lo+((0:Nat):Int)*k) ((((Builtin.Range.rangeSize lo hi k).toNat:Nat):Int) - ((0:Nat):Int)) k
  rw [e1,e2]
  exact zbb1 _ rfl
 ·cases zaz9.mp hb
  exact I1.fpOk (zba1 _) (I1.hok.fresh (zba1 _))
noncomputable def iRng3 (ta:TA):TI:=fun σ H R=>ta σ H fun vs H1 => ∃i j k:Int,vs=[.int i,.int j,.int k]∧zk2 i j k=true∧R (Itr3 i k (Builtin.Range.rangeSize i j k).toNat) H1
theorem zaq2 {ta:TA}{p pos:Pos} (hg:Gl X "range") (hm:X.mg "range"=none) (ha:PA X [a,b,c] ta) (hs:zaz1 [a,b,c] X.env=(false,eval a X.env)::zaz1 [b,c] X.env:=by rfl) (hs2:(zbd7 pos (zaz1 [b,c] X.env)).any (·.1)=false:=by rfl) :
  PI X tg (.Call (.Name "range" p) [a,b,c] [] pos) (iRng3 ta):=by
 intro pins s σ H R I h
 refine Call_ (zo3 I hg hm boot_range (PyProof.Rows.callWith_type1 (thn (ha pos pins s σ H _ I h) fun us s1 ⟨vs,H1,I1,r1,q1⟩=>?_) hs hs2))
 obtain⟨i,j,k,e,ok,q⟩:=q1
 subst e
 cases r1 with
 |cons r rr =>
  cases rr with
  |cons r' rr =>
   cases rr with
   |cons r'' rr =>
    cases rr
    obtain⟨t,rfl⟩:=r
    obtain⟨t',rfl⟩:=r'
    obtain⟨t'',rfl⟩:=r''
    have ok':=ok
    simp only [zk2,zay4,decide_eq_true_eq]at ok'
    have lg:k.natAbs.log2<9000:=zba2 (zai0 (k:=20) (by have:=ok'.2.2.1;lia)) (by decide)
    exact call_range_3 ok'.2.1 (zap3 I1 ok q) (.inl (PyProof.noPylong_of_log2 lg))
theorem zy7 (a b c:Int):(rng3 a b c).length=(Builtin.Range.rangeSize a b c).toNat:=by simp [rng3]
noncomputable def in3 (g:DA):Th→Option (Int×Int×Int):=fun t=>(g t).bind fun rs=>match rs.map Ev.d with
 |[.int i,.int j,.int k]=>if zk2 i j k then some (i,j,k) else none
 |_=>none
theorem in3_run {t:Th}{q:Int×Int×Int} (e:in3 ga t=some q):∃rs,ga t=some rs∧rs.map Ev.d=[.int q.1,.int q.2.1,.int q.2.2]∧zk2 q.1 q.2.1 q.2.2=true:=by
 unfold in3 at e
 cases e1:ga t with
 |none=>rw [e1]at e;cases e
 |some rs =>
  rw [e1]at e
  simp only [zay2]at e
  split at e
  ·rename_i i j k z
   split at e
   ·rename_i ok;cases e;exact⟨rs,rfl,z,ok⟩
   ·cases e
  ·cases e
theorem evs3 {K:zax7}{A:List Addr}{H H':Hp}{rs:List Ev}{vs:List V}{i j k:Int} (q:RepEvs K F A H H' rs vs) (z:rs.map Ev.d=[.int i,.int j,.int k]):vs=[.int i,.int j,.int k]:=by
 have:=q.full
 rw [z]at this
 exact ze7 (ns:=[i,j,k]) this
def dRng3 (k:D→Th→Option Th) (f:DA) (body:DS):DS:=fun t=>(in3 f t).bind fun q=>forD k body (rng3 q.1 q.2.1 q.2.2) t
theorem psd_rng3 {body:List Stmt}{p1 p2:Pos} (hp:PassesOwn (model X.prog X.w) X.A X.env X.xe) (hc:X.calm=true) (hgr:Gl X "range") (hm:X.mg "range"=none) (ha:PA X [a,b,c] (dA X.K F ga)) (hg:PG X tg gt) (ht:TgOk X.K F gt kt) (hb:PSs X body (dS X.K F g))
  (hst:zaz1 [a,b,c] X.env=(false,eval a X.env)::zaz1 [b,c] X.env:=by rfl) (hst2:(zbd7 p2 (zaz1 [b,c] X.env)).any (·.1)=false:=by rfl) (hs:∀x,foldedSetIterable (.Call (.Name "range" p1) [a,b,c] [] p2) X.env x=pure x:=by intro _;rfl) :
  PS X (.For tg (.Call (.Name "range" p1) [a,b,c] [] p2) body [] pos) (dS X.K F (dRng3 kt ga g)):=by
 refine PS.imp (zak5 hp hc (zaq2 hgr hm ha hst hst2) hg hb hs) ?_
 intro E σ H hh
 obtain⟨A,t,o,R,e,h⟩:=zan7 hh
 unfold dRng3 at e
 cases e1:in3 ga t with
 |none=>rw [e1]at e;cases e
 |some q =>
  rw [e1]at e
  obtain⟨rs,w1,w2,w3⟩:=in3_run e1
  refine⟨A,t,rs,R,w1,fun vs H1 gs q1=>⟨_,_,_,evs3 q1 w2,w3,?_⟩⟩
  refine zaa0 (ds:=rng3 q.1 q.2.1 q.2.2) (fun _ _=>True) ht (R.grow gs) e (h.back (Gr.of_same R.mu.left gs)) trivial (fun _ _ _ _ _ _=>trivial) (fun A H _=>?_) (fun A H i _ hi=>?_) (fun A H i x H' _ _ y hi=>?_)
  ·rw [zy7];exact zba1 _
  ·rw [zy7]at hi;exact hi
  ·rw [zy7]at hi
   obtain⟨e1,e2⟩:=y
   subst e1
   refine⟨Same.refl _,.int (q.1+i*q.2.2),by simp [rng3,hi],?_⟩
   rw [e2];exact .int _
end
end DL
namespace DL
open PySem.Spec L2
def mkG (k:Nat) (N:List Str) (g:DS):List D→Option Ev:=fun ds=>if ds.length=k then (g (zx4 N ds)).bind zm6 else none
theorem ze3 {k:Nat}{N:List Str}{g:DS}{ds:List D}{r:Ev} (e:mkG k N g ds=some r):ds.length=k:=by
 unfold mkG at e
 split at e
 ·assumption
 ·cases e
theorem zh5 {k:Nat}{N:List Str}{g:DS}{ds:List D}{r:Ev} (e:mkG k N g ds=some r):∃o,g (zx4 N ds)=some o∧zm6 o=some r:=by
 unfold mkG at e
 split at e
 ·cases e1:g (zx4 N ds) with
  |none=>rw [e1]at e;cases e
  |some o=>rw [e1]at e;exact⟨o,rfl,e⟩
 ·cases e
section
variable {X:Cx}{F:List Addr}{elt tg iter:Expr}{ifs:List Expr}{scope:Scope}{pos spos py:Pos}{fs:DI}{g:TG}{kt:D→Th→Option Th}{ft:DT}{fe fc:DE}{i:Nat}{y:Str}
theorem compU {n:Nat}{cap:List Nat}{N':List Str} (up:∀ {σ:L2.St}{H:Hp}{Q:VK},dE X.K F fc σ H Q→zag0 n cap (dI X.K F fs) g (fun σ H Q => ∃F',dT X.K F' ft σ H Q) (fun σ H Q => ∃F',dE X.K F' fe σ H Q) σ H Q) (hc:X.calm=true) (hi:PI X tg iter (dI X.K F fs))
  (hg:∀C s₃ H₃ fp pins,PG (blk X N' scope C s₃ H₃ fp pins) tg g) (ht:∀C s₃ H₃ fp pins F',PTs (blk X N' scope C s₃ H₃ fp pins) ifs (dT X.K F' ft)) (he:∀C s₃ H₃ fp pins F',PE (blk X N' scope C s₃ H₃ fp pins) elt (dE X.K F' fe))
  (hNd:X.N.Nodup) (hi₀:X.N[i]?=some y) (hy:Loc X.env.scope y) (hsw:swapsWith (.ListComp elt [⟨tg,iter,ifs,0⟩] scope pos) (some (.Name y py)) spos.line X.env=pure true) (hf:X.fn y=true∨X.env.scope.names.lookup y=some .local)
  (hkd:scope.kind=.function) (hcs:zs2 scope.names X.env.kindOf=true) (hN:N'.length=n+cap.length) (hcap:zw9 N' X.N n scope.names 0 cap=true) (hs:∀x,foldedSetIterable iter X.env x=pure x) :
  PS X (.Assign [.Name y py] (.ListComp elt [⟨tg,iter,ifs,0⟩] scope pos) spos) (dS X.K F (dAsg i fc)):=by
 refine PS.imp (ps_compU (g:=g) (wi:=dI X.K F fs) (tt:=fun σ H Q => ∃F',dT X.K F' ft σ H Q) (te:=fun σ H Q => ∃F',dE X.K F' fe σ H Q) (zae3 hkd hcs) hc hi hN (fun k j e=>by simpa using zn9 hcap k j e) hg (fun C s₃ H₃ fp pins pins' s σ H Q I ⟨F',q⟩=>ht C s₃ H₃ fp pins F' pins' s σ H Q I q) (fun C s₃ H₃ fp pins pins' s σ H Q I ⟨F',q⟩=>he C s₃ H₃ fp pins F' pins' s σ H Q I q) hNd hi₀ hy hsw hf hs) ?_
 rintro E σ H ⟨A,t,o,R,e,h⟩
 unfold dAsg at e
 cases e1:fc t with
 |none=>rw [e1]at e;cases e
 |some r1 =>
  rw [e1]at e
  have e:(zm1 t i r1).map Out.nx=some o:=e
  cases e2:zm1 t i r1 with
  |none=>rw [e2]at e;cases e
  |some t' =>
   rw [e2]at e
   cases e
   refine up ⟨A,t,r1,R,e1,fun v H' gs q=>?_⟩
   obtain⟨A',g',R'⟩:=R.put gs q e2
   exact h _ _ _ g' R'
theorem zak3 (n:Nat) (cap:List Nat) (N':List Str) (hNd:X.N.Nodup) (hi₀:X.N[i]?=some y) (hy:Loc X.env.scope y) (hc:X.calm=true) (hi:PI X tg iter (dI X.K F fs))
  (hg:∀C s₃ H₃ fp pins,PG (blk X N' scope C s₃ H₃ fp pins) tg g) (hk:∀F',TgOk X.K F' g kt) (ht:∀C s₃ H₃ fp pins F',PTs (blk X N' scope C s₃ H₃ fp pins) ifs (dT X.K F' ft)) (he:∀C s₃ H₃ fp pins F',PE (blk X N' scope C s₃ H₃ fp pins) elt (dE X.K F' fe))
  (hsw:swapsWith (.ListComp elt [⟨tg,iter,ifs,0⟩] scope pos) (some (.Name y py)) spos.line X.env=pure true:=by rfl) (hf:X.fn y=true∨X.env.scope.names.lookup y=some .local:=by first | exact .inl rfl | exact .inr rfl)
  (hkd:scope.kind=.function:=by rfl) (hcs:zs2 scope.names X.env.kindOf=true:=by rfl) (hN:N'.length=n+cap.length:=by rfl) (hcap:zw9 N' X.N n scope.names 0 cap=true:=by rfl)
  (hs:∀x,foldedSetIterable iter X.env x=pure x:=by intro _;rfl):PS X (.Assign [.Name y py] (.ListComp elt [⟨tg,iter,ifs,0⟩] scope pos) spos) (dS X.K F (dAsg i (ze6 n cap fs kt ft fe))) :=
 compU (fun h=>zaj5 hk h) hc hi hg ht he hNd hi₀ hy hsw hf hkd hcs hN hcap hs
theorem zap5 (n:Nat) (cap:List Nat) (N':List Str) (hNd:X.N.Nodup) (hi₀:X.N[i]?=some y) (hy:Loc X.env.scope y) (hc:X.calm=true) (hi:PI X tg iter (dI X.K F fs))
  (hg:∀C s₃ H₃ fp pins,PG (blk X N' scope C s₃ H₃ fp pins) tg g) (hk:∀F',TgOk X.K F' g kt) (ht:∀C s₃ H₃ fp pins F',PTs (blk X N' scope C s₃ H₃ fp pins) ifs (dT X.K F' ft)) (he:∀C s₃ H₃ fp pins F',PE (blk X N' scope C s₃ H₃ fp pins) elt (dE X.K F' fe))
  (hsw:swapsWith (.ListComp elt [⟨tg,iter,ifs,0⟩] scope pos) (some (.Name y py)) spos.line X.env=pure true:=by rfl) (hf:X.fn y=true∨X.env.scope.names.lookup y=some .local:=by first | exact .inl rfl | exact .inr rfl)
  (hkd:scope.kind=.function:=by rfl) (hcs:zs2 scope.names X.env.kindOf=true:=by rfl) (hN:N'.length=n+cap.length:=by rfl) (hcap:zw9 N' X.N n scope.names 0 cap=true:=by rfl)
  (hs:∀x,foldedSetIterable iter X.env x=pure x:=by intro _;rfl):PS X (.Assign [.Name y py] (.ListComp elt [⟨tg,iter,ifs,0⟩] scope pos) spos) (dS X.K F (dAsg i (zo6 n cap fs kt ft fe))) :=
 compU (fun h=>zab1 hk h) hc hi hg ht he hNd hi₀ hy hsw hf hkd hcs hN hcap hs
end
end DL
namespace DL
open PySem.Spec L2
section
variable {X:Cx}{F:List Addr}{a b c o:Expr}{es:List Expr}{fa fb fc:DE}{fs:List DE}{ga:DA}{g g1 g2:DS}{ft fu:DT}{pos:Pos}{st:Stmt}{rest:List Stmt}{tg:Expr}{gt:TG}{kt:D→Th→Option Th}
def leastI:Int→List Int→Int
 |m,[]=>m
 |m,n::r=>leastI (if n<m then n else m) r
def zo8:Int→List Int→Int
 |m,[]=>m
 |m,n::r=>zo8 (if m<n then n else m) r
theorem zz5:∀(r:List Int) (m:Int),zo8 m r∈m::r∧∀a∈m::r,a≤zo8 m r
 |[],m=>⟨by simp [zo8],by simp [zo8]⟩
 |n::r,m=>by
  obtain⟨h1,h2⟩:=zz5 r (if m<n then n else m)
  have h3:=h2 (if m<n then n else m) (zay1 ..)
  have k1:m≤(if m<n then n else m):=by split<;>lia
  have k2:n≤(if m<n then n else m):=by split<;>lia
  refine⟨?_,fun a ha=>?_⟩
  ·show zo8 (if m<n then n else m) r∈m::n::r
   rcases zay5.mp h1 with z | z
   ·rw [z];split<;>simp
   ·simp [z]
  ·show a≤zo8 (if m<n then n else m) r
   rcases zay5.mp ha with z | z
   ·subst z;lia
   ·rcases zay5.mp z with w | w
    ·subst w;lia
    ·exact h2 a (zax9 _ w)
theorem zas1 {ys:Array (Int×Tok)}{j:Nat} (hj:j<ys.size):numAt ys j∈ys.toList.map (·.1):=by
 rw [numAt_eq];exact getD_mem (by simpa using hj)
theorem zaw6 (hc:X.calm=true):zn1 X (.builtin "max") (fun xs H Q => ∃(p:Addr) (ns:List Int) (M:Int),xs=[.ref p]∧SqL X.K H p (ns.map V.int)∧M∈ns∧(∀a∈ns,a≤M)∧Q (.int M) H):=by
 intro pins s σ H xs us Q I r h
 obtain⟨p,ns,M,rfl,hs,hm,hle,q⟩:=h
 obtain⟨u,rfl,ru⟩:=zt5 r
 cases ru
 obtain⟨its,rv,pl,_⟩:=I.list hs
 have hi:IntsAre its ns:=zk5 rv
 obtain⟨ys,e⟩:=hi.allInts.items
 have hl:s.heap.IsList p (intItems ys):=by rw [← e];exact PlainL.isL pl
 have hns:ys.toList.map (·.1)=ns:=by
  have e2:numsOf (intItems ys).toList=ns:=by rw [← e];exact hi.numsOf
  rw [← nums_intItems];exact e2
 have hsz:0<ys.size:=by
  have:0<ns.length:=zbf4 hm
  rw [← hns]at this;simpa using this
 refine max_intList (I.ok.hd hc) hl hsz fun v h' tk hv hk=>?_
 obtain⟨t,rfl⟩:=intItems_at hv
 obtain⟨h1,h2⟩:=argBest_gt (numAt ys) (ys.size - 1)
 refine⟨.int M,H,I.kept (t':=tk) hk,⟨t,?_⟩,q⟩
 have a1:=hle _ (hns ▸ zas1 (ys:=ys) (j:=argBest (fun i j=>decide (numAt ys i > numAt ys j)) (ys.size - 1)) (by lia))
 rw [← hns]at hm
 obtain⟨j,hj,ej⟩:=mem_getD hm
 have hj':j<ys.size:=by simpa using hj
 have a2:=h2 j (by lia)
 rw [numAt_eq ys j,ej]at a2
 congr 1
 lia
end
end DL
namespace DL
open PySem.Spec L2
section
variable {X:Cx}{F:List Addr}{a b c o:Expr}{es:List Expr}{fa fb fc:DE}{fs:List DE}{ga:DA}{g g1 g2:DS}{ft fu:DT}{pos:Pos}{st:Stmt}{rest:List Stmt}{tg:Expr}{gt:TG}{kt:D→Th→Option Th}
noncomputable def zan3 (f:Int→List Int→Int):List Ev→Option Ev:=fun rs=>match rs with
 |[r]=>(match r.d with
  |.lst ds=>(match zk4 ds with
   |some (n::ns)=>some (.cl (.int (f n ns)))
   |_=>none)
  |_=>none)
 |_=>none
theorem cd_extr {id':String}{f:Int→List Int→Int} (h:∀n ns,zn1 X (.builtin id') (fun xs H Q => ∃p:Addr,xs=[.ref p]∧SqL X.K H p ((n::ns).map V.int)∧Q (.int (f n ns)) H)):CallD X F (.builtin id') (zan3 f):=by
 intro pins s σ H0 H A xs us Q rs r I m g v q ek hq
 unfold zan3 at ek
 split at ek
 case h_2=>cases ek
 rename_i r0
 cases q with
 |@cons _ y _ ys q1 q2 =>
  cases q2
  split at ek
  case h_2=>cases ek
  rename_i ds z
  split at ek
  case h_2=>cases ek
  rename_i n ns z2
  cases ek
  have p:=q1.full
  rw [z,zn6 z2]at p
  cases p with
  |@lst _ l ws h1 h2 =>
   rw [ze7 h2]at h1
   exact h n ns pins s σ H _ us Q I v ⟨l,rfl,h1,hq _ H (Same.refl H) (.int _)⟩
theorem cd_maxL (hc:X.calm=true):CallD X F (.builtin "max") (zan3 zo8) :=
 cd_extr fun n ns pins s σ H xs us Q I v ⟨p,e,h1,q⟩=>zaw6 hc pins s σ H xs us Q I v ⟨p,n::ns,zo8 n ns,e,h1,(zz5 ns n).1,(zz5 ns n).2,q⟩
theorem zao0:bootBuiltins "list"=some (.type "list"):=by decide +kernel
theorem vals_get:∀ {xs:List V}{us:List Value},xs.length=us.length→(∀(i:Nat) (x:V) (u:Value),xs[i]?=some x→us[i]?=some u→RelV x u)→Vals xs us
 |[],[],_,_=>.nil
 |[],_::_,h,_=>by simp at h
 |_::_,[],h,_=>by simp at h
 |x::xs,u::us,h,k=>.cons (k 0 x u rfl rfl) (vals_get (by simpa using h) fun i y w e1 e2=>k (i+1) y w (by simpa using e1) (by simpa using e2))
theorem zan4 {lo k:Int}{n:Nat}{acc:Array Value} (h:ItemsOf (fun i v => ∃t,v=.int (lo+i*k) t) acc n):Vals ((zbb6 n).map fun i=>V.int (lo+(i:Nat)*k)) acc.toList:=by
 refine vals_get (by simp [h.1]) fun i x u e1 e2=>?_
 obtain⟨t,rfl⟩:=h.2 i u (by simpa using e2)
 have hi:i<n:=by
  cases Nat.lt_or_ge i n with
  |inl z=>exact z
  |inr z=>rw [zbb2,zbf8 (by simpa using z)]at e1;cases e1
 rw [zbb2,zbm8 hi]at e1
 simp at e1
 subst e1
 exact⟨t,rfl⟩
theorem zz6 {pins:List (Addr×Obj)}{σ:L2.St}{H:Hp}{s:zaz0}{Q:VK}{lo hi k:Int}{t u v:Tok}{tk:Nat} (hc:X.calm=true) (I:L2.Inv X pins σ H s) (ok:zk2 lo hi k=true) (sz:Builtin.Range.rangeSize lo hi k≤50000)
  (q:∀p,H p=none→Q (.ref p) (upd H p (.lst ((zbb6 (Builtin.Range.rangeSize lo hi k).toNat).map fun i=>V.int (lo+(i:Nat)*k))))) :
  wpAny (model X.prog X.w) X.A (call (.type "list") [.ref s.heap.objs.size]) (EP X pins σ Q) X.xe { s with heap:=s.heap.push { cls:=.type "range",data:=.fields #[.int lo t,.int hi u,.int k v] },toks:=tk }:=by
 simp only [zk2,zay4,decide_eq_true_eq]at ok
 have I1:L2.Inv X pins σ H { s with heap:=s.heap.push { cls:=.type "range",data:=.fields #[.int lo t,.int hi u,.int k v] },toks:=tk }:=I.kept fun b o e=>zay6 _ e
 have en:Builtin.Range.rangeSize lo hi k=(((Builtin.Range.rangeSize lo hi k).toNat:Nat):Int):=by lia
 refine call_list_range (I.ok.hd hc) (IsRange.new ..) ok.1 en (by lia) fun h' tk' acc c' hk hS hacc=>?_
 refine⟨.ref _,_,I1.laid (o:=HO.lst ((zbb6 (Builtin.Range.rangeSize lo hi k).toNat).map fun i=>V.int (lo+(i:Nat)*k))) (t':=tk') hk (zba1 _) ⟨?_,acc.toList,c',zan4 hacc,by simpa using hS⟩,rfl,q _ I1.fresh⟩
 refine zl6 ?_
 rw [zba6,List.length_range];lia
noncomputable def rArgs:List D→Option (Int×Int×Int)
 |[.int n]=>some (0,n,1)
 |[.int i,.int j]=>some (i,j,1)
 |[.int i,.int j,.int k]=>some (i,j,k)
 |_=>none
noncomputable def zk6 (g:DA):DE:=fun t=>(g t).bind fun rs=>(rArgs (rs.map Ev.d)).bind fun q=>if zk2 q.1 q.2.1 q.2.2&&decide (Builtin.Range.rangeSize q.1 q.2.1 q.2.2≤50000) then some (.nw (rng3 q.1 q.2.1 q.2.2)) else none
theorem zi7 {p0 p1 p2:Pos} (hc:X.calm=true) (hgl:Gl X "list") (hml:X.mg "list"=none) (hgr:Gl X "range") (hmr:X.mg "range"=none) (ha:PA X (a::es) (dA X.K F ga))
  (hst:zaz1 [.Call (.Name "range" p1) (a::es) [] p2] X.env=[(false,eval (.Call (.Name "range" p1) (a::es) [] p2) X.env)]:=by rfl)
  (hst1:zaz1 (a::es) X.env=(false,eval a X.env)::zaz1 es X.env:=by rfl) (hst2:(zbd7 p2 (zaz1 es X.env)).any (·.1)=false:=by rfl) :
  PE X (.Call (.Name "list" p0) [.Call (.Name "range" p1) (a::es) [] p2] [] pos) (dE X.K F (zk6 ga)):=by
 intro pins s σ H Q I h
 obtain⟨A,t,r,R,e,h⟩:=h
 unfold zk6 at e
 cases e1:ga t with
 |none=>rw [e1]at e;cases e
 |some rs =>
  rw [e1]at e
  simp only [zay2]at e
  cases e2:rArgs (rs.map Ev.d) with
  |none=>rw [e2]at e;cases e
  |some q =>
   rw [e2]at e
   simp only [zay2]at e
   split at e
   case isFalse=>cases e
   rename_i ok
   simp only [zay4,decide_eq_true_eq]at ok
   cases e
   have mk:∀(H1:Hp),Same H H1→∀p,H1 p=none→Q (.ref p) (upd H1 p (.lst ((zbb6 (Builtin.Range.rangeSize q.1 q.2.1 q.2.2).toNat).map fun i=>V.int (q.1+(i:Nat)*q.2.2)))):=fun H1 g1 p hp=>by
    refine h _ _ (g1.trans (zc5 hp)) ⟨p,_,rfl,Same.free g1 hp,za9,?_⟩
    have e3:rng3 q.1 q.2.1 q.2.2=((zbb6 (Builtin.Range.rangeSize q.1 q.2.1 q.2.2).toNat).map fun i=>q.1+(i:Nat)*q.2.2).map D.int:=by simp [rng3]
    have e4:((zbb6 (Builtin.Range.rangeSize q.1 q.2.1 q.2.2).toNat).map fun i=>V.int (q.1+(i:Nat)*q.2.2))=((zbb6 (Builtin.Range.rangeSize q.1 q.2.1 q.2.2).toNat).map fun i=>q.1+(i:Nat)*q.2.2).map V.int:=by simp
    rw [e3,e4]
    exact Reps.ints _
   refine wpAny_Call_Name_kw (zo3 I hgl hml zao0 (PyProof.Rows.callWith_type1 ?_ (by rw [hst];rfl) rfl))
   rw [hst]
   show wpAny _ _ (spliced ((false,eval (.Call (.Name "range" p1) (a::es) [] p2) X.env)::zbd7 pos (zaz1 [] X.env))) _ _ s
   refine Calls.spliced_cons (Call_ (zo3 I hgr hmr boot_range (PyProof.Rows.callWith_type1 (thn (ha p2 pins s σ H (fun vs H1=>Same H H1∧RepEvs X.K F A H H1 rs vs) I ⟨A,t,rs,R,e1,fun vs H1 g1 q1=>⟨g1,q1⟩⟩) fun us s1 ⟨vs,H1,I1,r1,g1,q1⟩=>?_) hst1 hst2)))
   have full:=q1.full
   obtain⟨q0,qh,qk⟩:=q
   unfold rArgs at e2
   split at e2
   ·rename_i n z
    cases e2
    rw [z]at full
    have ev:=ze7 (ns:=[qh]) full
    subst ev
    obtain⟨u,rfl,ru⟩:=r1.one
    obtain⟨t1,rfl⟩:=ru
    exact call_range_1 (Calls.spliced_nil (zz6 hc I1 ok.1 ok.2 (mk H1 g1)))
   ·rename_i i j z
    cases e2
    rw [z]at full
    have ev:=ze7 (ns:=[q0,qh]) full
    subst ev
    obtain⟨u,w,rfl,ru,rw'⟩:=r1.two
    obtain⟨t1,rfl⟩:=ru
    obtain⟨t2,rfl⟩:=rw'
    exact call_range_2 (Calls.spliced_nil (zz6 hc I1 ok.1 ok.2 (mk H1 g1)))
   ·rename_i i j k z
    cases e2
    rw [z]at full
    have ev:=ze7 (ns:=[q0,qh,qk]) full
    subst ev
    cases r1 with
    |cons r rr =>
     cases rr with
     |cons r' rr =>
      cases rr with
      |cons r'' rr =>
       cases rr
       obtain⟨t1,rfl⟩:=r
       obtain⟨t2,rfl⟩:=r'
       obtain⟨t3,rfl⟩:=r''
       have ok':=ok.1
       simp only [zk2,zay4,decide_eq_true_eq]at ok'
       have lg:qk.natAbs.log2<9000:=zba2 (zai0 (k:=20) (by have:=ok'.2.2.1;lia)) (by decide)
       exact call_range_3 ok'.2.1 (Calls.spliced_nil (zz6 hc I1 ok.1 ok.2 (mk H1 g1))) (.inl (PyProof.noPylong_of_log2 lg))
   ·cases e2
end
end DL
namespace DL
open PySem.Spec L2
def frzD:Sl→Sl
 |.own xs=>.val (.lst xs)
 |.dp d=>.val d
 |s=>s
def frzT (t:Th) (i:Nat):Th:=match t[i]? with
 |some s=>t.set i (frzD s)
 |none=>t
theorem zq4 (s:Sl) (t:Th) (i:Nat):frzT (s::t) (i+1)=s::frzT t i:=by
 unfold frzT
 simp only [List.getElem?_cons_succ]
 cases t[i]?<;>simp
theorem RSl.give {K:zax7}{H0 H:Hp}:∀ {t:Th}{σ:L2.St}{A:List Addr} (i:Nat),RSl K H0 H t σ A→A.Nodup→∃(B A':List Addr),A'.Sublist A∧(∀b∈B,b∈A∧b∉A')∧∀H1,Same H0 H1→(∀b∈B,∀o,H b=some o→H1 b=some o)→RSl K H1 H (frzT t i) σ A'
 |_,_,_,i,.nil,_=>⟨[],[],List.Sublist.refl _,fun b hb=>(by cases hb),fun H1 e _=>by simpa [frzT] using RSl.nil⟩
 |_,_,A,0,.no r,n=>⟨[],A,List.Sublist.refl _,fun b hb=>(by cases hb),fun H1 e _=>.no (RSl.mono e r fun _ _ _ h=>h)⟩
 |_,_,A,0,.val h r,n=>⟨[],A,List.Sublist.refl _,fun b hb=>(by cases hb),fun H1 e _=>.val (Rep.mono e h) (RSl.mono e r fun _ _ _ h=>h)⟩
 |_,_,_,0,.own (p:=p) (A:=A) h1 h2 r,n=>by
  have n0:=zaz8.mp n
  refine⟨[p],A,zbh6 _ _,fun b hb=>?_,fun H1 e k=>?_⟩
  ·simp at hb;subst hb;exact⟨zay1 ..,n0.1⟩
  ·exact .val (.lst (SqL.of (k p (by simp) _ h1)) (Reps.mono e h2)) (RSl.mono e r fun _ _ _ h=>h)
 |_,_,_,0,.dp (B:=B) (A:=A) h r,n=>by
  have n0:=zay9.mp n
  refine⟨B,A,zbg6 _ _,fun b hb=>⟨zax8 _ hb,fun z=>n0.2.2 b hb b z rfl⟩,fun H1 e k=>?_⟩
  exact .val (h.rep e k) (RSl.mono e r fun _ _ _ h=>h)
 |_,_,_,i+1,.no r,n=>by
  obtain⟨B,A',a1,a2,a3⟩:=RSl.give i r n
  refine⟨B,A',a1,a2,fun H1 e k=>?_⟩
  rw [zq4];exact .no (a3 H1 e k)
 |_,_,_,i+1,.val h r,n=>by
  obtain⟨B,A',a1,a2,a3⟩:=RSl.give i r n
  refine⟨B,A',a1,a2,fun H1 e k=>?_⟩
  rw [zq4];exact .val (Rep.mono e h) (a3 H1 e k)
 |_,_,_,i+1,.own (p:=p) h1 h2 r,n=>by
  have n0:=zaz8.mp n
  obtain⟨B,A',a1,a2,a3⟩:=RSl.give i r n0.2
  refine⟨B,p::A',a1.cons₂ _,fun b hb=>⟨zax9 _ (a2 b hb).1,fun z=>?_⟩,fun H1 e k=>?_⟩
  ·rcases zay5.mp z with w | w
   ·exact n0.1 (w ▸ (a2 b hb).1)
   ·exact (a2 b hb).2 w
  ·rw [zq4];exact .own h1 (Reps.mono e h2) (a3 H1 e k)
 |_,_,_,i+1,.dp (B:=C) h r,n=>by
  have n0:=zay9.mp n
  obtain⟨B,A',a1,a2,a3⟩:=RSl.give i r n0.2.1
  refine⟨B,C++A',List.Sublist.append (List.Sublist.refl _) a1,fun b hb=>⟨zax6 _ (a2 b hb).1,fun z=>?_⟩,fun H1 e k=>?_⟩
  ·rcases zay0.mp z with w | w
   ·exact n0.2.2 b w b (a2 b hb).1 rfl
   ·exact (a2 b hb).2 w
  ·rw [zq4];exact .dp (RepD.mono e h fun _ _ _ w=>w) (a3 H1 e k)
theorem RS.give {K:zax7}{F A:List Addr}{H:Hp}{t:Th}{σ:L2.St} (R:RS K F H A t σ) (i:Nat):∃A',RS K F H A' (frzT t i) σ∧Gr A H A' H:=by
 obtain⟨B,A',a1,a2,a3⟩:=R.rel.give i R.nd
 have sub:∀x∈A',x∈A:=fun x hx=>a1.subset hx
 refine⟨A',⟨fun q hq=>R.mu q ((zay0.mp hq).elim (fun z=>zax8 _ (sub q z)) fun z=>zax6 _ z),R.nd.sublist a1,fun p hp=>R.dj p (sub p hp),a3 _ (za7 H fun a z=>(zay0.mp z).elim (fun z=>zax8 _ (sub a z)) fun z=>zax6 _ z) fun b hb o h=>zb9 h fun z=>?_⟩,⟨fun _ _ _ h=>h,fun b hb=>?_,fun b hb=>.inl (sub b hb)⟩⟩
 ·rcases zay0.mp z with w | w
  ·exact (a2 b hb).2 w
  ·exact R.dj b (a2 b hb).1 w
 ·obtain⟨vs,q⟩:=R.mu b (zax8 _ hb)
  rw [q];simp
def dFrz (i:Nat) (g:DS):DS:=fun t=>g (frzT t i)
theorem dS_frz {K:zax7}{F:List Addr}{g:DS}{i:Nat}{E:Ends}{σ:L2.St}{H:Hp} (h:dS K F (dFrz i g) E σ H):dS K F g E σ H:=by
 obtain⟨A,t,o,R,e,p⟩:=zan7 h
 obtain⟨A',R',gr⟩:=R.give i
 exact zav4 R' e (p.back gr)
theorem zap8 {X:Cx}{F:List Addr}{g:DS}{st:Stmt} (i:Nat) (h:PS X st (dS X.K F g)):PS X st (dS X.K F (dFrz i g)):=PS.imp h fun _ _ _ q=>dS_frz q
section
variable {X:Cx}{F:List Addr}{a b c o:Expr}{es:List Expr}{fa fb fc:DE}{fs:List DE}{ga:DA}{g g1 g2:DS}{ft fu:DT}{pos:Pos}{st:Stmt}{rest:List Stmt}{tg:Expr}{gt:TG}{kt:D→Th→Option Th}
def insI (n:Int):List Int→List Int
 |[]=>[n]
 |m::r=>if n≤m then n::m::r else m::insI n r
def zt8:List Int→List Int
 |[]=>[]
 |n::r=>insI n (zt8 r)
theorem zv1 (n:Int):∀r:List Int,(insI n r).Perm (n::r)
 |[]=>List.Perm.refl _
 |m::r=>by
  unfold insI
  split
  ·exact List.Perm.refl _
  ·exact (List.Perm.cons m (zv1 n r)).trans (List.Perm.swap n m r)
theorem zo7:∀r:List Int,(zt8 r).Perm r
 |[]=>List.Perm.refl _
 |n::r=>(zv1 n _).trans (List.Perm.cons n (zo7 r))
theorem zv0 (n:Int):∀r:List Int,r.Pairwise (·≤·)→(insI n r).Pairwise (·≤·)
 |[],_=>by simp [insI]
 |m::r,h=>by
  unfold insI
  have hc:=zbf7.mp h
  split
  ·rename_i hle
   refine zbf7.mpr ⟨fun x hx=>?_,h⟩
   rcases zay5.mp hx with rfl | z
   ·exact hle
   ·exact Int.le_trans hle (hc.1 x z)
  ·rename_i hle
   refine zbf7.mpr ⟨fun x hx=>?_,zv0 n r hc.2⟩
   rcases zay5.mp ((zv1 n r).mem_iff.mp hx) with rfl | z
   ·lia
   ·exact hc.1 x z
theorem zp6:∀r:List Int,(zt8 r).Pairwise (·≤·)
 |[]=>List.Pairwise.nil
 |n::r=>zv0 n _ (zp6 r)
theorem zt7:∀ {xs ys:List Int},xs.Perm ys→xs.Pairwise (·≤·)→ys.Pairwise (·≤·)→xs=ys
 |[],ys,p,_,_=>(List.Perm.nil_eq p)
 |x::xs,[],p,_,_=>absurd p.length_eq (by simp)
 |x::xs,y::ys,p,h1,h2=>by
  have c1:=zbf7.mp h1
  have c2:=zbf7.mp h2
  have e:x=y:=by
   have m1:x∈y::ys:=p.mem_iff.mp (zay1 ..)
   have m2:y∈x::xs:=p.mem_iff.mpr (zay1 ..)
   have l1:y≤x:=by rcases zay5.mp m1 with z | z;lia;exact c2.1 x z
   have l2:x≤y:=by rcases zay5.mp m2 with z | z;lia;exact c1.1 y z
   lia
  subst e
  rw [zt7 (List.Perm.cons_inv p) c1.2 c2.2]
theorem zae8:zn1 X (.builtin "sorted") (fun xs H Q => ∃(p:Addr) (ns:List Int),xs=[.ref p]∧SqL X.K H p (ns.map V.int)∧ns.length<64∧∀l,H l=none→Q (.ref l) (upd H l (.lst ((zt8 ns).map V.int)))):=by
 intro pins s σ H xs us Q I r h
 obtain⟨p,ns,rfl,hs,h64,q⟩:=h
 obtain⟨u,rfl,ru⟩:=zt5 r
 cases ru
 obtain⟨its,rv,pl,_⟩:=I.list hs
 have hi:IntsAre its ns:=zk5 rv
 have hl:=hi.length
 refine sorted_ints (PlainL.isL pl) hi (by lia) fun out ns' hI hp ho=>?_
 have e:ns'=zt8 ns:=zt7 (hp.trans (zo7 ns).symm) ho (zp6 ns)
 subst e
 obtain⟨k,ek⟩:=sortedAll_at s.heap its out
 have fr:s.heap.objs.size≤s.heap.objs.size+1:=Nat.le_succ _
 refine⟨.ref _,_,I.laid (o:=HO.lst ((zt8 ns).map V.int)) (t':=s.toks) (fun b o e=>sortedAll_old e) fr ⟨?_,out.toList,k,zt4 hI,by simpa [seqObj] using ek⟩,rfl,q _ (I.hok.fresh fr)⟩
 refine zl6 ?_
 rw [zba6,(zo7 ns).length_eq];lia
noncomputable def zal2:List Ev→Option Ev:=fun rs=>match rs with
 |[r]=>(match r.d with
  |.lst ds=>(zk4 ds).bind fun ns=>if ns.length<64 then some (.nw ((zt8 ns).map D.int)) else none
  |_=>none)
 |_=>none
theorem zal9:CallD X F (.builtin "sorted") zal2:=CallD.of zae8 fun H0 H A xs rs e Q m g q ek hq=>by
 unfold zal2 at ek
 split at ek
 case h_2=>cases ek
 cases q with
 |cons q1 q2 =>
  cases q2
  split at ek
  case h_2=>cases ek
  rename_i ds z
  cases e1:zk4 ds with
  |none=>rw [e1]at ek;cases ek
  |some ns =>
   rw [e1]at ek
   simp only [zay2]at ek
   split at ek
   case isFalse=>cases ek
   rename_i c
   cases ek
   have p:=q1.full
   rw [z,zn6 e1]at p
   cases p with
   |lst h1 h2 =>
    rw [ze7 h2]at h1
    exact⟨_,ns,rfl,h1,c,fun l hl=>hq _ _ (zc5 hl) ⟨l,_,rfl,Same.free g hl,za9,Reps.ints _⟩⟩
end
end DL
namespace DL
open PySem.Spec L2
section
variable {X:Cx}{F:List Addr}{a b c o:Expr}{es:List Expr}{fa fb fc:DE}{ga:DA}{pos:Pos}
def kRev:Ev→Option Ev:=fun r=>match r.d with
 |.lst ds=>if r.ok||flats ds then some (.nw ds.reverse) else none
 |_=>none
theorem Reps.rev {K:zax7}{H:Hp}:∀ {ds:List D}{vs:List V},Reps K H ds vs→Reps K H ds.reverse vs.reverse
 |_,_,.nil=>.nil
 |_,_,.cons h r=>by rw [zbh7,zbh7];exact (Reps.rev r).app (Reps.one h)
theorem ped_rev {p2 p3 p4:Pos}{j} (ha:PE X a (dE X.K F fa)):PE X (.Subscript a (.Slice none none (some (.UnaryOp .USub (.Constant (.int 1) j p3) p4)) p2) pos) (dE X.K F (d1 kRev fa)):=by
 intro pins s σ H Q I h
 obtain⟨A,t,r,R,e,h⟩:=h
 unfold d1 at e
 cases e1:fa t with
 |none=>rw [e1]at e;cases e
 |some r1 =>
  rw [e1]at e
  have e:kRev r1=some r:=e
  unfold kRev at e
  split at e
  case h_2=>cases e
  rename_i ds z
  split at e
  case isFalse=>cases e
  rename_i ok
  cases e
  refine Subscript_ (thn (ha pins s σ H (fun x H1=>Same H H1∧RepEv X.K F A H H1 r1 x) I ⟨A,t,r1,R,e1,fun x H1 gs q=>⟨gs,q⟩⟩) fun v s1 ⟨x,H1,I1,rx,gs,q⟩=>?_)
  obtain⟨p,vs,rfl,h1,h2⟩:=q.items R.mu gs z ok
  cases rx
  refine wpAny_Slice ?_
  rw [evalPart_none]
  refine zba5 (zba5 ?_)
  rw [evalPart_some]
  refine thn ((zz2 (F:=F) (za4 (i:=1))) pins s1 σ H1 (fun y H2=>y=.int (-1)∧H2=H1∨(y=.int (-1)∧Same H1 H2)) I1 ⟨A,t,.cl (.int (-1)),R.grow gs,rfl,fun y H2 gs2 q2=>.inr ⟨ze1 q2.full,gs2⟩⟩) fun u s2 ⟨y,H2,I2,ry,qy⟩=>?_
  have gs2:Same H1 H2:=by rcases qy with ⟨_,e⟩ | ⟨_,e⟩;rw [e];exact Same.refl _;exact e
  have ey:y=.int (-1):=by rcases qy with ⟨e,_⟩ | ⟨e,_⟩<;>exact e
  subst ey
  obtain⟨tk,rfl⟩:=ry
  obtain⟨its,rv,pl,hz⟩:=I2.list (SqL.mono gs2 h1)
  have I3:L2.Inv X pins σ H2 { s2 with heap:=s2.heap.push { cls:=.type "slice",data:=.fields #[.none,.none,.int (-1) tk] } }:=I2.kept (t':=s2.toks) fun b ob q=>zay6 _ q
  have hl:=PlainL.isL pl
  show wpAny (model X.prog X.w) X.A (subscriptTail a (.Slice none none (some (.UnaryOp .USub (.Constant (.int 1) j p3) p4)) p2) (.ref p) (.ref s2.heap.objs.size)) (EP X pins σ Q) X.xe { s2 with heap:=s2.heap.push { cls:=.type "slice",data:=.fields #[.none,.none,.int (-1) tk] } }
  refine tail_any (ops:=[.ref p,.ref s2.heap.objs.size]) (hl.push _).typeIs slot_list_getitem.lookup (wpAny_getItem_list_slice (hl.push _) (Heap.IsSliceOf.new ..) .none .none (.int (-1) tk) (by simp) ?_ ?_) (by with_unfolding_all rfl)
  ·have l1:=rv.length
   have hn:=I3.fresh
   refine⟨.ref _,_,?_,rfl,h _ _ ((gs.trans gs2).trans (zc5 hn)) ⟨_,vs.reverse,rfl,Same.free (gs.trans gs2) hn,za9,Reps.mono (zh2 hn) (Reps.mono (za8 gs2) h2).rev⟩⟩
   refine I3.laid (o:=HO.lst vs.reverse) (t':=s2.toks) (fun b ob q=>zay6 _ q) (zba1 _) ⟨by rw [List.length_reverse];exact hz,its.reverse,0,rv.reverse,?_⟩
   rw [PySem.W.krv_pick]
   exact zbb1 _ rfl
  ·rw [zba0, ← rv.length];exact hz
end
end DL
namespace DL
open PySem.Spec L2
section
variable {X:Cx}{F:List Addr}{a b c o:Expr}{es:List Expr}{fa fb fc:DE}{ga:DA}{pos:Pos}
def dChV (k k':Ev→Ev→Option Ev) (fa fb fc:DE):DE:=fun t=>(dCh k k' fa fb fc t).map fun z=>.cl (.bl z)
theorem zar2 {op op':CmpOp}{k k':Ev→Ev→Option Ev} (ho:OpD X F (compareOp op) k) (ho':OpD X F (compareOp op') k') (ha:PE X a (dE X.K F fa)) (hb:PE X b (dE X.K F fb)) (hc:PE X c (dE X.K F fc))
  (hm:lastMarks [op,op'] [b,c]=false:=by with_unfolding_all rfl):PE X (.Compare a [op,op'] [b,c] pos) (dE X.K F (dChV k k' fa fb fc)):=by
 intro pins s σ H Q I h
 obtain⟨A,t,rr,R,e,h⟩:=h
 refine pe_chain (ho.toR A H) (ho'.toR A H) ha hb hc hm pins s σ H Q I ?_
 unfold dChV dCh at e
 cases e1:fa t with
 |none=>rw [e1]at e;cases e
 |some r1 =>
  cases e2:fb t with
  |none=>rw [e1,e2]at e;cases e
  |some r2 =>
   cases e3:k r1 r2 with
   |none=>rw [e1,e2]at e;simp only [zay2,e3]at e;cases e
   |some r =>
    rw [e1,e2]at e
    simp only [zay2,e3]at e
    refine⟨A,t,r1,R,e1,fun x H1 gs1 q1=>⟨A,t,r2,R.grow gs1,e2,fun y H2 gs2 q2=>?_⟩⟩
    have gs:=gs1.trans gs2
    refine⟨R.mu,gs,r1,r2,r,q1.mono gs2,q2.back gs1,e3,fun z H3 gs3 q3=>?_⟩
    have p:=q3.full
    split at e
    ·rename_i zz
     rw [zz]at p
     cases p
     refine⟨true,rfl,iteT ?_⟩
     cases e4:fc t with
     |none=>rw [e4]at e;cases e
     |some r3 =>
      rw [e4]at e
      simp only [zay2]at e
      cases e5:k' r2 r3 with
      |none=>rw [e5]at e;cases e
      |some r' =>
       rw [e5]at e
       simp only [zay2]at e
       refine⟨A,t,r3,(R.grow gs).grow gs3,e4,fun w H4 gs4 q4=>⟨R.mu,(gs.trans gs3).trans gs4,r2,r3,r',(q2.back gs1).mono (gs3.trans gs4),q4.back (gs.trans gs3),e5,fun z2 H5 gs5 q5=>?_⟩⟩
       have p5:=q5.full
       split at e
       ·rename_i z3 zz3
        cases e
        rw [zz3]at p5
        cases p5
        exact h _ H5 (((gs.trans gs3).trans gs4).trans gs5) (.bl _)
       ·cases e
    ·rename_i zz
     rw [zz]at p
     cases p
     cases e
     exact⟨false,rfl,iteF (h _ H3 (gs.trans gs3) (.bl _))⟩
    ·cases e
noncomputable def rIdx (K:zax7):V→List V→Hp→VK→Prop:=fun x vs H Q => ∃(l:Addr) (ns:List Int) (n:Int),x=.ref l∧vs=[.int n]∧SqL K H l (ns.map V.int)∧n∈ns∧ns.length≤100000∧Q (.int (ns.idxOf n:Nat)) H
theorem mt_index:MtR X "list.index" (rIdx X.K):=by
 intro pins s σ H x xs v us Q I rx rs h
 obtain⟨l,ns,n,rfl,rfl,hs,hn,hz,q⟩:=h
 cases rx
 obtain⟨u,rfl,ru⟩:=Vals.one rs
 obtain⟨t,rfl⟩:=ru
 obtain⟨its,rv,pl,_⟩:=I.list hs
 have hi:IntsAre its ns:=zk5 rv
 have hlen:=hi.length
 obtain⟨⟨cls,dd,data,sl⟩,ho,hc,m,hd⟩:=id (PlainL.isL pl)
 simp only at hc hd
 subst hc hd
 have hj:ns.idxOf n<ns.length:=List.idxOf_lt_length_iff.mpr hn
 refine call_meets zbk6 ⟨_,ho,rfl⟩ PySem.F.entry_list_index (PySem.F.args_list_index_2 _ _) (SeqAt.list_indexAt l its.toArray m dd sl (.int n t) (isInt n) (ns.idxOf n) (by simpa [hlen] using hj) (by lia) ?_ ?_)
  ⟨ho,fun y hy=>(eq_isInt n t hi y (by simpa using hy)).at _ _,⟨.int _,H,I.tok _,⟨_,rfl⟩,q⟩⟩
 ·show isInt n its[ns.idxOf n]=true
  rw [isInt_at n hi _ (by lia) hj]
  simpa using zbn2 hj
 ·intro j hjs hlt
  show isInt n its[j]=false
  rw [isInt_at n hi j (by simpa using hjs) (by lia)]
  exact ne_of_lt_idxOf hlt _
noncomputable def kIdx:Ev→Ev→Option Ev:=fun r1 r2=>match r1.d,r2.d with
 |.lst ds,.int n=>(zk4 ds).bind fun ns=>if ns.contains n&&decide (ns.length≤100000) then some (.cl (.int (ns.idxOf n:Nat))) else none
 |_,_=>none
theorem zaq9 {apos cpos:Pos} (ha:PE X a (dE X.K F fa)) (hb:PE X b (dE X.K F fb)) (hst:zaz1 [b] X.env=[(false,eval b X.env)]:=by rfl)
  (hbase:attributeBase a "index" X.env (eval a X.env)=eval a X.env:=by rfl)
  (hfew:((zbd7 cpos (zaz1 [b] X.env)).all (fun x=>!x.1)&&(backToKw cpos (keywordEach [] X.env)).all (fun x=>x.1.isSome)
   && decide ([b].length+([]:List Keyword).length+(if ([]:List Keyword).isEmpty then 0 else 1)<30))=true:=by rfl)
  (hline:(apos.endLine == cpos.line)=true:=by rfl) (hplain:(zbd7 cpos (zaz1 [] X.env)).any (·.1)=false:=by rfl):PE X (.Call (.Attribute a "index" apos) [b] [] cpos) (dE X.K F (d2 kIdx fa fb)):=by
 refine PE.imp (zah3 zbb3 zbk6 PySem.F.type_list_index mt_index ha (zf1 hb zi8 hst) hbase hfew hline hst hplain) ?_
 intro σ H Q h
 obtain⟨A,t,r1,r2,r,R,e1,e2,e,h,w⟩:=two h
 unfold kIdx at e
 split at e
 case h_2=>cases e
 rename_i ds n z1 z2
 cases e3:zk4 ds with
 |none=>rw [e3]at e;cases e
 |some ns =>
  rw [e3]at e
  simp only [zay2]at e
  split at e
  case isFalse=>cases e
  rename_i ok
  simp only [zay4,decide_eq_true_eq,List.contains_iff_mem]at ok
  cases e
  refine⟨A,t,r1,R,e1,fun u H1 gs q=>?_⟩
  have p:=q.full
  rw [z1,zn6 e3]at p
  cases p with
  |@lst _ l vs h1 h2 =>
   rw [ze7 h2]at h1
   refine⟨.inl ⟨rfl,_,h1⟩,A,t,r2,R.grow gs,e2,fun u2 H2 gs2 q2=>?_⟩
   have p2:=q2.full
   rw [z2]at p2
   cases ze1 p2
   exact⟨l,ns,n,rfl,rfl,SqL.mono gs2 h1,ok.1,ok.2,h _ H2 (gs.trans gs2) (.int _)⟩
end
end DL
namespace L2
open PySem.W
def bndS:Nat:=2 ^ 1048576
theorem zx3:∀ {ns:List Int}{n:Int},n∈ns→WData.weight (.int n)≤WData.weightAll (ns.map WData.int)
 |m::r,n,h=>by
  rw [zaz3]
  unfold WData.weightAll
  rcases zay5.mp h with rfl | z
  ·lia
  ·have:=zx3 z;lia
theorem bnd_of {ns:List Int} (h:WData.layableAll [WData.list (ns.map WData.int)]=true):∀n∈ns,n.natAbs<bndS:=fun n hn=>by
 have h1:WData.layable (WData.list (ns.map WData.int))=true:=by simpa [WData.layableAll] using h
 have h2:WData.weight (WData.list (ns.map WData.int))≤2 ^ 20:=by
  unfold WData.layable at h1
  simp only [zay4,decide_eq_true_eq]at h1
  exact h1.2
 have h3:WData.weight (.int n)≤2 ^ 20:=by
  refine zaz4 (zx3 hn) ?_
  have e:WData.weight (WData.list (ns.map WData.int))=WData.weightAll (ns.map WData.int):=by simp [WData.weight]
  rw [← e];exact h2
 by_cases z:n=0
 ·subst z;unfold bndS;exact Nat.pow_pos (by decide)
 ·have h4:n.natAbs.log2+1≤2 ^ 20:=by
   have:WData.weight (.int n)=n.natAbs.log2+1:=by simp [WData.weight,z]
   rw [← this];exact h3
  have h5:n.natAbs.log2<1048576:=by lia
  exact (Nat.log2_lt (by lia)).mp h5
end L2
namespace DL
open PySem.Spec L2
section
variable {X:Cx}{F:List Addr}{a b c o:Expr}{es:List Expr}{fa fb fc:DE}{ga:DA}{pos:Pos}
theorem zs0 {α β:Type} (f:α→β):∀(xs:List α) (k:Nat),(xs.map f).eraseIdx k=(xs.eraseIdx k).map f
 |[],_=>rfl
 |_::_,0=>rfl
 |x::xs,k+1=>by simp [zs0 f xs k]
theorem Reps.erase {K:zax7}{H:Hp}:∀ {ds:List D}{vs:List V} (j:Nat),Reps K H ds vs→Reps K H (ds.eraseIdx j) (vs.eraseIdx j)
 |_,_,_,.nil=>.nil
 |_,_,0,.cons _ rs=>rs
 |_,_,j+1,.cons r rs=>.cons r (Reps.erase j rs)
end
end DL
namespace DL
open PySem.Spec L2
noncomputable def spM (K:zax7) (G:List D→Option Ev):Sp:=fun vs H Q _ => ∃(Fo:List Addr) (p:Addr) (ws vs':List V) (xs ds:List D) (d:D),vs=.ref p::vs'∧Lists H (p::Fo)∧p∉Fo∧H p=some (.lst ws)∧Reps K (hide (p::Fo) H) xs ws∧Reps K (hide (p::Fo) H) ds vs'∧G (.lst xs::ds)=some (.cl d)∧scD d=true ∧
 ∀v H',(∀b o,b≠p→H b=some o→H' b=some o)→H' p≠none→(∀Hx,Rep K Hx d v)→Q v H'
structure CalM (P:Program) (w:World) (K:zax7) (mg:Str→Option Value) (base:BHeap) (x:Str) (k:Nat) (G:List D→Option Ev):Prop where
 ex:∃(a:Addr) (fd:FuncData) (ps:List Str),mg x=some (.ref a)∧zbc1 K (.ref a)=true∧L2.Binds K fd ps []∧FnOk P w K mg base CX0 k a fd ps (spM K G)
section
variable {X:Cx}{F:List Addr}{a b c o:Expr}{es:List Expr}{fa fb fc:DE}{ga:DA}{pos pos2:Pos}
def ddp (ns:List Int):List Int:=ns.foldl step_dedup []
theorem zad8 (ns:List Int):firstMet (fun i=>ns.getD i 0) ns.length=ddp ns:=by
 unfold firstMet ddp
 congr 1
 apply zbo9
 ·simp
 ·intro i h1 h2
  simp [zay7,h2]
theorem zaw5 (hc:X.calm=true):zn1 X (.type "set") (fun xs H Q => ∃(p:Addr) (ns:List Int),xs=[.ref p]∧SqL X.K H p (ns.map V.int)∧ns.length≤3000∧∀l,H l=none→Q (.ref l) (upd H l (.set (fun k=>(ddp ns).any (· == k)) (ddp ns).length))):=by
 intro pins s σ H xs us Q I r h
 obtain⟨p,ns,rfl,hs,hz,q⟩:=h
 obtain⟨u,rfl,ru⟩:=zt5 r
 cases ru
 obtain⟨its,rv,pl,_⟩:=I.list hs
 have hi:IntsAre its ns:=zk5 rv
 have hl:=hi.length
 refine call_set_list (ns:=ns) (I.ok.hd hc) (PlainL.isL pl) (by simpa using hi) (by rw [zba0];unfold scanBound;lia) fun h' tk hS hk=>?_
 have e0:its.toArray.size=ns.length:=by rw [zba0];exact hl
 rw [e0,zad8]at hS
 refine⟨.ref _,_,I.laid (o:=HO.set (fun k=>(ddp ns).any (· == k)) (ddp ns).length) (t':=tk) (fun b u e=>hk b u (zaz5 e) e) (zba1 _) hS,rfl,q _ (I.hok.fresh (zba1 _))⟩
theorem zaw7:zn1 X (.builtin "len") (fun xs H Q => ∃(p:Addr) (S:Int→Bool) (n:Nat),xs=[.ref p]∧H p=some (.set S n)∧n≤100000∧Q (.int n) H):=by
 intro pins s σ H xs us Q I r h
 obtain⟨p,S,n,rfl,hH,hn,q⟩:=h
 obtain⟨u,rfl,ru⟩:=zt5 r
 cases ru
 have hS:s.heap.SetOf (intKind X.prog X.w) p S n:=I.hok _ _ hH
 obtain⟨ob,ho,ex,el,ep,tb,hd,_,_,en,hf⟩:=hS.objOf
 subst en
 have hfit:(el.size:Int)<2 ^ 63:=Int.lt_of_le_of_lt (show (el.size:Int)≤100000 by lia) (by decide)
 exact call_len_set ho ex hd hf hfit ⟨.int el.size,H,I.tok _,⟨_,rfl⟩,q⟩
noncomputable def zr4:List Ev→Option Ev:=fun rs=>match rs with
 |[r]=>(match r.d with
  |.lst ds=>(zk4 ds).bind fun ns=>if ns.length≤3000 then some (.cl (.int (ddp ns).length)) else none
  |_=>none)
 |_=>none
theorem ddp_le (ns:List Int):(ddp ns).length≤ns.length:=by
 rw [← zad8]
 exact firstMet_length_le _ _
theorem bt_set:bootBuiltins "set"=some (.type "set"):=by decide +kernel
theorem zam7 {p1 p2:Pos} (hc:X.calm=true) (hg1:Gl X "len") (hm1:X.mg "len"=none) (hg2:Gl X "set") (hm2:X.mg "set"=none) (ha:PE X a (dE X.K F fa)) (hst:zaz1 [a] X.env=[(false,eval a X.env)]:=by rfl) (hst2:zaz1 [.Call (.Name "set" p2) [a] [] pos2] X.env=[(false,eval (.Call (.Name "set" p2) [a] [] pos2) X.env)]:=by rfl)
  (hpl:(zbd7 pos2 (zaz1 [] X.env)).any (·.1)=false:=by rfl) (hpl2:(zbd7 pos (zaz1 [] X.env)).any (·.1)=false:=by rfl) :
  PE X (.Call (.Name "len" p1) [.Call (.Name "set" p2) [a] [] pos2] [] pos) (dE X.K F (dT1 zr4 (za2 fa dNil))):=by
 refine PE.imp (zak6 zaw7 hg1 hm1 PySem.boot_len (zf1 (zar6 (zaw5 hc) hg2 hm2 bt_set (zf1 ha zi8 hst) (by decide) (by decide) hst hpl) zi8 hst2) (by decide) (by decide) hst2 hpl2) ?_
 rintro σ H Q ⟨A,t,r,R,e,h⟩
 unfold dT1 za2 dNil at e
 cases e1:fa t with
 |none=>rw [e1]at e;cases e
 |some r1 =>
  rw [e1]at e
  simp only [zay2]at e
  unfold zr4 at e
  simp only at e
  split at e
  case h_2=>cases e
  rename_i ds z
  cases e2:zk4 ds with
  |none=>rw [e2]at e;cases e
  |some ns =>
   rw [e2]at e
   simp only [zay2]at e
   split at e
   case isFalse=>cases e
   rename_i hz
   cases e
   refine⟨A,t,r1,R,e1,fun x H1 gs q=>?_⟩
   have p:=q.full
   rw [z,zn6 e2]at p
   cases p with
   |@lst _ l ws h1 h2 =>
    rw [ze7 h2]at h1
    refine⟨l,ns,rfl,h1,hz,fun l2 hl2=>?_⟩
    have:=ddp_le ns
    exact⟨l2,_,_,rfl,za9,by lia,h _ _ (gs.trans (zc5 hl2)) (.int _)⟩
end
end DL
namespace DL
open PySem.Spec L2
def sV:D→V
 |.bl b=>.bl b
 |.int i=>.int i
 |.str x=>.str x
 |_=>.non
def keyD:D→Option Key
 |.int i=>some (Sum.inl i)
 |.str x=>some (Sum.inr x)
 |_=>none
theorem rep_sc {K:zax7}{H:Hp}{d:D}{v:V} (r:Rep K H d v) (s:scD d=true):v=sV d:=by
 cases r with
 |non=>rfl
 |bl b=>rfl
 |int i=>rfl
 |str x=>rfl
 |tup _ _=>cases s
 |lst _ _=>cases s
 |dct _ _ _=>cases s
 |pdc _=>cases s
theorem sc_rep {K:zax7}{H:Hp}:∀ {d:D},scD d=true→Rep K H d (sV d)
 |.non,_=>.non
 |.bl b,_=>.bl b
 |.int i,_=>.int i
 |.str x,_=>.str x
 |.tup _,s=>by cases s
 |.lst _,s=>by cases s
 |.dct _ _,s=>by cases s
 |.pdc _,s=>by cases s
theorem sc_flatD:∀ {d:D},scD d=true→flat d=true
 |.non,_=>rfl
 |.bl b,_=>rfl
 |.int i,_=>rfl
 |.str x,_=>rfl
 |.tup _,s=>by cases s
 |.lst _,s=>by cases s
 |.dct _ _,s=>by cases s
 |.pdc _,s=>by cases s
theorem zaj7 {K:zax7}{H0 H:Hp}:∀ {ds:List D},ds.all scD=true→RepDs K H0 H ds (ds.map sV) []
 |[],_=>.nil
 |d::ds,s=>by
  simp only [zbh5,zay4]at s
  exact .cons (B:=[]) (C:=[]) (.flat (sc_flatD s.1) (sc_rep s.1)) (zaj7 s.2)
def zad5:List Key→List D→Key→Option D
 |k'::ks,d::ds,k=>if k'=k then some d else zad5 ks ds k
 |_,_,_=>none
def hasK (ks:List Key) (k:Key):Bool:=ks.any fun k'=>decide (k'=k)
noncomputable def zh3 (ks:List Key) (ds:List D) (k:Key) (d:D):List Key×List D :=
 if hasK ks k then (ks,zbk1 (fun k' d'=>if k'=k then d else d') ks ds) else (ks++[k],ds++[d])
theorem zz9 (k:Key):∀ {ks:List Key}{vs:List V},ks.length=vs.length→(valV (mkKV ks vs) k).isSome=hasK ks k
 |[],[],_=>rfl
 |k'::ks,d::ds,h=>by
  have i:=zz9 k (ks:=ks) (vs:=ds) (by simpa using h)
  unfold mkKV hasK at i ⊢
  simp only [zbh2,zbi7]
  by_cases e:k'=k
  ·rw [zp3 (p:=(k',d)) e,decide_eq_true e];rfl
  ·rw [zp4 (p:=(k',d)) e,decide_eq_false e,i];rfl
 |[],_::_,h=>by simp at h
 |_::_,[],h=>by simp at h
section
variable {X:Cx}{F:List Addr}{a b c o:Expr}{es:List Expr}{fa fb fc:DE}{ga:DA}{pos:Pos}
def dNewD:DE:=fun _=>some (.dn (.dct [] []))
theorem ped_newD:PE X (.Dict [] [] pos) (dE X.K F dNewD):=by
 refine PE.imp pe_dnewK ?_
 rintro σ H Q ⟨A,t,r,R,e,h⟩
 cases e
 intro p hp
 refine h _ _ (zc5 hp) ⟨[p],by simp,fun b hb=>by simp at hb;subst hb;exact hp,.dct (vs:=[]) rfl za9 .nil⟩
noncomputable def kInD (neg:Bool):Ev→Ev→Option Ev:=fun r1 r2=>match r2.d with
 |.dct ks ds=>(keyD r1.d).map fun k=>.cl (.bl (if neg then !hasK ks k else hasK ks k))
 |_=>none
theorem zz7 {K:zax7}{H:Hp}{d:D}{v:V}{k:Key} (r:Rep K H d v) (e:keyD d=some k):v=kV k:=by
 cases r<;>cases e<;>rfl
theorem zas0 (hu:X.A.units+64<cLine):OpD X F (compareOp .NotIn) (kInD true):=by
 intro pins s σ H0 H A x y v u Q r1 r2 r I m g0 rx ry q1 q2 e hq
 unfold kInD at e
 split at e
 case h_2=>cases e
 rename_i ks ds z
 cases ek:keyD r1.d with
 |none=>rw [ek]at e;cases e
 |some k =>
  rw [ek]at e
  cases e
  have p1:=zz7 q1.full ek
  have p2:=q2.full
  rw [z]at p2
  cases p2 with
  |@dct _ _ p vs l h1 h2 =>
   subst p1
   cases (show u=Value.ref p from ry)
   refine d_notIn (by lia) I (DGet.k h1) rx fun s' I'=>?_
   rw [zz9 k l]
   exact⟨.bl _,H,I',rfl,hq _ H (Same.refl H) (.bl _)⟩
noncomputable def kLenD:List Ev→Option Ev:=fun rs=>match rs with
 |[r]=>(match r.d with
  |.dct ks _=>some (.cl (.int ks.length))
  |_=>none)
 |_=>none
theorem cd_lenD:CallD X F (.builtin "len") kLenD:=CallD.of zaw8 fun H0 H A xs rs e Q m g q ek hq=>by
 unfold kLenD at ek
 split at ek
 case h_2=>cases ek
 rename_i r
 split at ek
 case h_2=>cases ek
 rename_i ks ds z
 cases ek
 cases q with
 |cons q1 q2 =>
  cases q2
  have p:=q1.full
  rw [z]at p
  cases p with
  |@dct _ _ p vs l h1 h2 =>
   refine⟨p,_,rfl,h1,?_⟩
   have:(mkKV ks vs).length=ks.length:=by unfold mkKV;rw [zbg1];lia
   rw [this]
   exact hq _ H (Same.refl H) (.int _)
theorem put_zip (k:Key) (d:D) {ks:List Key}{ds:List D} (h:ks.length=ds.length):putK (mkKV ks (ds.map sV)) k (sV d)=mkKV (zh3 ks ds k d).1 ((zh3 ks ds k d).2.map sV)∧(zh3 ks ds k d).1.length=(zh3 ks ds k d).2.length:=by
 have ha:(mkKV ks (ds.map sV)).any (fun kv=>decide (kv.1=k))=hasK ks k:=by
  rw [zy2,zz9 k (by simpa using h)]
 unfold putK zh3
 rw [ha]
 by_cases hc:hasK ks k=true
 ·rw [if_pos hc,if_pos hc]
  refine⟨?_,by simp;lia⟩
  clear hc ha
  unfold mkKV
  induction ks generalizing ds with
  |nil=>simp
  |cons k' ks ih =>
   cases ds with
   |nil=>simp at h
   |cons d' ds =>
    have i:=ih (ds:=ds) (by simpa using h)
    simp only [zaz3,zbh2,zbc6,i]
    by_cases e:k'=k
    ·simp [e]
    ·simp [e]
 ·rw [if_neg hc,if_neg hc]
  refine⟨?_,by simp;lia⟩
  unfold mkKV
  rw [zbj2,List.zip_append (by simpa using h)]
  rfl
theorem put_sc {ks:List Key}{k:Key}{d:D} (sd:scD d=true):∀ {ds:List D},ds.all scD=true→(zh3 ks ds k d).2.all scD=true:=fun {ds} s=>by
 unfold zh3
 split
 ·show (zbk1 _ ks ds).all scD=true
  rename_i hc
  clear hc
  induction ks generalizing ds with
  |nil=>simp
  |cons k' ks ih =>
   cases ds with
   |nil=>simp
   |cons d' ds =>
    simp only [zbh5,zay4]at s
    simp only [zbc6,zbh5,zay4]
    refine⟨?_,ih s.2⟩
    split
    ·exact sd
    ·exact s.1
 ·show (ds++[d]).all scD=true
  rw [List.all_append,s]
  simp [sd]
end
end DL
namespace DL
open PySem.Spec L2
section
variable {X:Cx}{F:List Addr}{a b c o:Expr}{es:List Expr}{fa fb fc:DE}{ga:DA}{pos:Pos}
def zal3:Ev→Ev→Option Ev:=fun r1 r2=>match r1.d,r2.d with
 |.bl p,.bl q=>some (.cl (.bl (!(p == q))))
 |_,_=>none
theorem od_isntB:OpD X F (compareOp .IsNot) zal3:=by
 intro pins s σ H0 H A x y v u Q r1 r2 r I m g0 rx ry q1 q2 e hq
 unfold zal3 at e
 split at e
 ·rename_i p q z1 z2
  cases e
  have p1:=q1.full
  have p2:=q2.full
  rw [z1]at p1;rw [z2]at p2
  cases zap2 p1;cases zap2 p2
  cases rx;cases ry
  refine PySem.wpAny_isNot_plain (by cases p<;>cases q<;>rfl) ⟨.bl (!(p == q)),H,I,?_,hq _ H (Same.refl H) (.bl _)⟩
  show Value.bool _=Value.bool _
  cases p<;>cases q<;>rfl
 ·cases e
end
end DL
namespace DL
open PySem.Spec L2
section
variable {X:Cx}{F:List Addr}{a b c o:Expr}{es:List Expr}{fa fb fc:DE}{ga:DA}{pos pos1:Pos}
noncomputable def spP (G:List (Int×Int)→List Int→Option (List (Int×Int))):Sp:=fun vs H Q _ => ∃(p:Addr) (ps ps':List (Int×Int)) (ns:List Int),vs=.ref p::ns.map V.int∧H p=some (.dT (pkv ps))∧G ps ns=some ps' ∧
 ∀H',(∀b o,b≠p→H b=some o→H' b=some o)→H' p=some (.dT (pkv ps'))→Q .non H'
structure CalP (P:Program) (w:World) (K:zax7) (mg:Str→Option Value) (base:BHeap) (x:Str) (k:Nat) (G:List (Int×Int)→List Int→Option (List (Int×Int))):Prop where
 ex:∃(a:Addr) (fd:FuncData) (ps:List Str),mg x=some (.ref a)∧zbc1 K (.ref a)=true∧L2.Binds K fd ps []∧FnOk P w K mg base CX0 k a fd ps (spP G)
end
end DL
namespace DL
open PySem.Spec L2
def cmpI (mx:Bool) (i j:Int):Bool:=if mx then decide (i > j) else decide (i<j)
def lexI (mx:Bool):List Int→List Int→Bool
 |i::r,j::q=>if decide (i=j) then lexI mx r q else cmpI mx i j
 |_,_=>false
noncomputable def cmpD (mx:Bool):D→D→Option Bool
 |.int i,.int j=>some (cmpI mx i j)
 |.tup xs,.tup ys=>(zk4 xs).bind fun is=>(zk4 ys).bind fun js=>if is.length=js.length then some (lexI mx is js) else none
 |_,_=>none
noncomputable def zax2 (mx:Bool) (fb:DE) (cs:List D):D→D→List D→Option D
 |b,_,[]=>some b
 |b,k,d::ds=>(fb (.val d::cs.map Sl.val)).bind fun r=>if flat r.d then (cmpD mx r.d k).bind fun c=>if c then zax2 mx fb cs d r.d ds else zax2 mx fb cs b k ds else none
noncomputable def dKey (mx:Bool) (cap:List Nat) (fa fb:DE):DE:=fun t=>(fa t).bind fun r=>(capD t cap).bind fun c=>match r.d with
 |.lst (d::ds)=>if (zk4 (d::ds)).isSome then (fb (.val d::c.2.map Sl.val)).bind fun k=>if flat k.d then (zax2 mx fb c.2 d k.d ds).map Ev.cl else none else none
 |_=>none
end DL
namespace L2
open PySem.Spec PySem.W
def lamOf (x:Str):Str:=x++".<locals>."++"<lambda>"
theorem zac6 {β:Type}:∀ {l:List (Nat×β)}{a:Nat}{o:β},l.lookup a=some o→(a,o)∈l
 |[],_,_,e=>by cases e
 |(b,x)::r,a,o,e=>by
  rw [zba9]at e
  cases hb:a == b with
  |true=>rw [hb]at e;cases e;rw [eq_of_beq hb];exact .head _
  |false=>rw [hb]at e;exact .tail _ (zac6 e)
def tbOf (K:Frag) (names:List Str):List (Addr×Str):=names.filterMap fun x=>(tabIn K x).map fun q=>(q.2,lamOf x)
theorem of_tbOf {K:Frag}{names:List Str}{p:Addr×Str} (h:p∈tbOf K names):∃x∈names,∃c,tabIn K x=some (c,p.1):=by
 obtain⟨x,hx,e⟩:=zbj6.mp h
 cases q:tabIn K x with
 |none=>rw [q]at e;cases e
 |some r=>rw [q]at e;cases e;exact⟨x,hx,r.1,q⟩
def TbOk (K:Frag) (names:List Str):Prop := ∀p∈tbOf K names,(tbOf K names).lookup p.1=some p.2∧K.lookup p.1=none
theorem tbOk_nil {K:Frag}:TbOk K []:=fun p hp=>by cases hp
theorem zat7 {P:Program}{w:World}{K:Frag}{mg mb:Str→Option Value}{CX:CXT}{k:Nat}{fa a:Addr}{fd:FuncData}{x:Str}{sp:Sp}{s₁:zaz0}{vs:List Value}{ns:List Int}{names:List Str}
  (KX:K.In s₁.heap) (hns:s₁.heap.Ns mainGlobals mg) (hb:s₁.heap.Ns builtinsNs mb) (hbb:∀x:Str,x≠"__name__"→mb x=bootBuiltins x) (hlim:s₁.heap.NoLimit)
  (hbm:∃(bm:Addr) (ob:Obj),mg "__builtins__"=some (.ref bm)∧bm≠builtinsNs∧s₁.heap.get? bm=some ob∧ob.cls=.type "module"∧ob.dict=some builtinsNs∧ob.data=.plain) (hg:s₁.gens = #[])
  (ha:s₁.heap.get? a=some { cls:=.type "list",data:=.seq vs.toArray }) (hi:IntsAre vs ns) (hl:ns.length≤sizeLine) (hr:Room k callerA)
  (hT:∀x∈names,∀c P,tabIn K x=some (c,P)→CodeHd s₁.heap c P∧s₁.heap.get? P=some (tabObj #[])) (hn:TbOk K names)
  (F:∀base:BHeap,base.tabs=tbOf K names→K.In base→base.Ns mainGlobals mg→(∀x∈names,∀c P,tabIn K x=some (c,P)→CodeHd base c P)→FnOk P w K mg base CX k fa fd [x] sp)
  (hbind:∀(s:zaz0) (u:Value),BindsTo s fd ⟨[u],[]⟩ [(x,u)]) (hsp:∀H:Hp,SqL K H a (ns.map V.int)→sp [.ref a] H (fun v _=>v=.bl true) fun _ _ _=>False)
  (hCX:∀H e s',CX [] H s₁ (fun _ _ _=>False) e s'→False) :
  codeAny (model P w) callerA (.call (.ref fa) ⟨[.ref a],[]⟩) (fun r s'=>r=.ok (.ret (.bool true))∧OldK s₁.heap s'.heap∧s'.os=s₁.os∧AllBare s'.gens) s₁:=by
 have rv:=zt4 hi
 have lenV:=hi.length
 have tabH:∀p∈tbOf K names,∃c,CodeHd s₁.heap c p.1∧s₁.heap.get? p.1=some (tabObj #[]):=fun p hp=>by
  obtain⟨y,hy,c,e⟩:=of_tbOf hp
  exact⟨c,hT y hy c p.1 e⟩
 have core:∀H:Hp,SqL K H a (ns.map V.int)→HOk P w H s₁.heap→(∀p∈tbOf K names,H p.1=some (.tbl p.2)) →
   (∀b o,H b=some o→(b=a∧K.lookup a=none∧∃ob xs,o=.frz ob (.lst xs))∨∃q,o=.tbl q∧(b,q)∈tbOf K names) →
   codeAny (model P w) callerA (.call (.ref fa) ⟨[.ref a],[]⟩) (fun r s'=>r=.ok (.ret (.bool true))∧OldK s₁.heap s'.heap∧s'.os=s₁.os∧AllBare s'.gens) s₁:=by
  intro H hS hok hTB hH
  have free:∀ {b:Addr}{o:Obj},s₁.heap.get? b=some o→(o.cls=.type "list"→False)→o≠tabObj #[]→H b=none:=fun {b o} e n1 n2=>by
   cases q:H b with
   |none=>rfl
   |some u =>
    rcases hH b u q with ⟨rfl,_⟩ | ⟨qq,rfl,hm⟩
    ·rw [ha]at e;cases e;exact (n1 rfl).elim
    ·obtain⟨c,_,e2⟩:=tabH _ hm
     have e2:s₁.heap.get? b=some (tabObj #[]):=e2
     rw [e]at e2;cases e2;exact (n2 rfl).elim
  have nsK:∀ {b:Addr}{m:Str→Option Value},s₁.heap.Ns b m→(hidT s₁.heap H).Ns b m:=fun {b m} ⟨o,es,ep,e,d,r⟩=>⟨o,es,ep,zt1 e (by
   cases q:H b with
   |none=>rfl
   |some u =>
    rcases hH b u q with ⟨rfl,_⟩ | ⟨qq,rfl,hm⟩
    ·rw [ha]at e;cases e;cases d
    ·obtain⟨c,_,e2⟩:=tabH _ hm
     have e2:s₁.heap.get? b=some (tabObj #[]):=e2
     rw [e]at e2;cases e2;cases d),d,r⟩
  have hKb:K.In (hidT s₁.heap H):=fun b o e=>zt1 (KX b o e) (by
   cases q:H b with
   |none=>rfl
   |some u =>
    rcases hH b u q with ⟨rfl,n,_⟩ | ⟨qq,rfl,hm⟩
    ·rw [n]at e;cases e
    ·have n:K.lookup b=none:=(hn _ hm).2
     rw [n]at e;cases e)
  have hM:Mod K mg ⟨hidT s₁.heap H,tbOf K names⟩:=⟨hKb,nsK hns,⟨mb,nsK hb,hbb⟩,let ⟨mc,h1,h2⟩:=hlim;⟨mc,nsK h1,h2⟩,by
   obtain⟨bm,ob,b1,b2,b3,b4,b5,b6⟩:=hbm
   exact⟨bm,ob,b1,b2,zt1 b3 (free b3 (fun z=>by rw [b4]at z;simp at z) fun z=>by rw [z]at b4;cases b4),b4,b5,b6⟩⟩
  have hCd:∀x∈names,∀c P,tabIn K x=some (c,P)→CodeHd (hidT s₁.heap H) c P:=fun x hx c P e=>by
   obtain⟨⟨o,vs,file,tf,flags,tg,inF,text,tt,e1,r1,r⟩,_⟩:=hT x hx c P e
   exact⟨o,vs,file,tf,flags,tg,inF,text,tt,zt1 e1 (free e1 (fun z=>by rw [r1]at z;simp at z) fun z=>by rw [z]at r1;cases r1),r1,r⟩
  have e0:Env0 P w K mg ⟨hidT s₁.heap H,tbOf K names⟩ callerA [] s₁ H:=⟨rfl,hM,fun b o e=>of_hidT e,Nat.le_of_eq (zau4 _ _),trivial,fun b hb=>absurd (show b∈([]:List Addr) from hb) (by simp),hok,.of_eq hg,hTB⟩
  refine codeAny_mono ((F ⟨hidT s₁.heap H,tbOf K names⟩ rfl hKb (nsK hns) hCd).run callerA [] s₁ H ⟨[.ref a],[]⟩ [.ref a] [.ref a] _ _ hr e0 (hbind s₁ (.ref a)) (.cons rfl .nil) (hsp H hS)) fun r s' h=>?_
  cases r with
  |error e=>exact (hCX H e s' h).elim
  |ok fl =>
   cases fl with
   |next=>exact False.elim h
   |brk=>exact False.elim h
   |cont=>exact False.elim h
   |ret u =>
    obtain⟨v,H',os,bare,un,hok',r',q⟩:=h
    have q':v=.bl true:=q
    subst q'
    obtain rfl:u=Value.bool true:=r'
    have kp:∀b o,s₁.heap.get? b=some o→s'.heap.get? b=some o∨∃qq,H b=some (.tbl qq):=fun b o e=>by
     cases q:H b with
     |none=>exact .inl (un.keep b o e q (by intro z;exact absurd (show b∈([]:List Addr) from z) (by simp)) (by simp))
     |some u =>
      rcases hH b u q with ⟨rfl,_,ob,xs,rfl⟩ | ⟨qq,rfl,hm⟩
      ·obtain⟨e1,_⟩:=hok b _ q
       obtain⟨e2,_⟩:=hok' b _ (un.frzs b ob _ q)
       rw [e]at e1;cases e1
       exact .inl e2
      ·exact .inr ⟨qq,rfl⟩
    refine⟨rfl,⟨fun b o e=>?_,fun b o e=>?_⟩,os,bare⟩
    ·rcases kp b o e with z | ⟨qq,z⟩
     ·exact .inl z
     ·rcases hH b _ z with ⟨_,_,ob,xs,z2⟩ | ⟨q2,z2,hm⟩
      ·cases z2
      ·obtain⟨c,C,e2⟩:=tabH _ hm
       have e2:s₁.heap.get? b=some (tabObj #[]):=e2
       rw [e]at e2
       cases e2
       obtain⟨ps,e3,_⟩:=hok' b _ (un.tbls b _ z)
       have C:CodeHd s₁.heap c b:=C
       exact .inr (.inl ⟨(C.tab e).isCodeTable,rfl, #[],ps,rfl,by simpa using e3⟩)
    ·rcases kp b o e with z | ⟨qq,z⟩
     ·exact⟨o,z⟩
     ·obtain⟨ps,e3,_⟩:=hok' b _ (un.tbls b _ z)
      exact⟨_,e3⟩
 have tabO:∀(H:Hp) (p:Addr×Str),p∈tbOf K names→ObjOk P w H s₁.heap p.1 (.tbl p.2):=fun H p hp=>by
  obtain⟨c,_,e⟩:=tabH p hp
  exact⟨#[],e,trivial,fun pos cv z=>by cases z⟩
 have lk:∀b q,(tbOf K names).lookup b=some q→(b,q)∈tbOf K names:=fun b q e=>zac6 e
 have aT:∀q,(a,q)∈tbOf K names→False:=fun q hm=>by
  obtain⟨c,_,e⟩:=tabH _ hm
  have e:s₁.heap.get? a=some (tabObj #[]):=e
  rw [ha]at e;cases e
 cases hk:K.lookup a with
 |some o =>
  have e:=KX a o hk
  rw [ha]at e
  cases e
  refine core (fun b=>((tbOf K names).lookup b).map HO.tbl) (.inr ⟨_,vs.toArray,_,hk,rfl,rfl,rfl,by rw [zba0,lenV];exact hl,by simpa using rv⟩) (fun b u z=>?_) (fun p hp=>by simp only [(hn p hp).1,zbc0]) fun b u z=>?_
  ·cases q:(tbOf K names).lookup b with
   |none=>simp only [q]at z;cases z
   |some qq=>simp only [q]at z;cases z;exact tabO _ _ (lk b qq q)
  ·cases q:(tbOf K names).lookup b with
   |none=>simp only [q]at z;cases z
   |some qq=>simp only [q]at z;cases z;exact .inr ⟨qq,rfl,lk b qq q⟩
 |none =>
  refine core (fun b=>if b=a then some (.frz { cls:=.type "list",data:=.seq vs.toArray } (.lst (ns.map V.int))) else ((tbOf K names).lookup b).map HO.tbl) (.inl (.inr ⟨{ cls:=.type "list",data:=.seq vs.toArray },if_pos rfl⟩)) (fun b u z=>?_) (fun p hp=>?_) fun b u z=>?_
  ·by_cases hb:b=a
   ·have z':=(if_pos hb).symm.trans z
    cases z'
    subst hb
    exact⟨ha,by rw [zba6];exact hl,vs,_,rv,ha⟩
   ·have z':=(if_neg hb).symm.trans z
    cases q:(tbOf K names).lookup b with
    |none=>simp only [q]at z';cases z'
    |some qq=>simp only [q]at z';cases z';exact tabO _ _ (lk b qq q)
  ·have:p.1≠a:=fun e=>aT p.2 (by rw [← e];exact hp)
   simp only [this,if_false,(hn p hp).1,zbc0]
  ·by_cases hb:b=a
   ·have z':=(if_pos hb).symm.trans z
    cases z'
    exact .inl ⟨hb,hk,_,_,rfl⟩
   ·have z':=(if_neg hb).symm.trans z
    cases q:(tbOf K names).lookup b with
    |none=>simp only [q]at z';cases z'
    |some qq=>simp only [q]at z';cases z';exact .inr ⟨qq,rfl,lk b qq q⟩
end L2
namespace L2
open PySem.W
theorem walk_ofT {l:zbp7}{n k:Nat}{q:Program}{loose:List Str}{XP:(Str→Option Value)→Heap→Prop}{YP:World→Heap→Prop}{d:DefRec}{K:Params→zax7}{CX:World→CXT}{sp:World→Sp}{x:Str}{names:List Str}
  (hn:l.most=some n) (hn2:n≤sizeLine) (hdf:d.params.defaults=[]) (hr:Room k callerA)
  (hY:∀(w:World) (h:Heap),YP w h→(K w.params).In h) (hrec:∀x∈names,∃dr,(recsOf q).find? (fun e=>e.name == x)=some dr)
  (F:∀(w:World) (mg:Str→Option Value) (fa:Addr) (h:Heap),(K w.params).In h→h.Ns mainGlobals mg→mg d.name=some (.ref fa) →
   TbOk (K w.params) names∧∃fd:FuncData,(∀(s:zaz0) (u:Value),BindsTo s fd ⟨[u],[]⟩ [(x,u)]) ∧
    ∀base:BHeap,base.tabs=tbOf (K w.params) names→(K w.params).In base→base.Ns mainGlobals mg→(∀x∈names,∀c P,tabIn (K w.params) x=some (c,P)→CodeHd base c P)→FnOk l.prog w (K w.params) mg base (CX w) k fa fd [x] (sp w))
  (hsp:∀(w:World) (H:Hp) (a:Addr) (ns:List Int),ns.length≤n→(∀i∈ns,i.natAbs<bndS)→SqL (K w.params) H a (ns.map V.int)→sp w [.ref a] H (fun v _=>v=.bl true) fun _ _ _=>False)
  (hCX:∀(w:World) (H:Hp) (s:zaz0) (e:Value) (s':zaz0),CX w [] H s (fun _ _ _=>False) e s'→False) :
  zbs6 q loose XP YP l.row.toRowW d [] (fun f vs=>PySem.call f vs):=by
 intro w s₀ s₁ mg mb G Y fa o pm cd doc dV kV ho hd hcd hD hmg hg args vals as hpre hlay hrd hwl hlo
 obtain rfl:dV=.none:=Dflts.none hD hdf
 obtain rfl:kV=.none:=Dflts.noKw hD
 obtain⟨a,vs,ns,rfl,rfl,hobj,hints,hlen⟩:=Att.script_of hn hpre hwl
 have hb:=bnd_of hlay
 have KX:=hY w _ Y
 obtain⟨hok,fd,hbd,hF⟩:=F w mg fa _ KX G.T.g hmg
 refine enter_call (codeAny_mono (zat7 KX G.T.g G.T.b G.T.builtins G.T.nolimit G.T.bmain hg hobj hints (zaz4 hlen hn2) hr (fun x hx c P e=>by
  obtain⟨dr,h⟩:=hrec x hx
  exact tab_of G.T KX h e) hok hF hbd (fun H hS=>hsp w H a ns hlen hb hS) fun H e s'=>hCX w H s₁ e s') fun r s' hq=>?_)
 obtain⟨rfl,h2,h3,h4⟩:=hq
 exact⟨.inl ⟨.bool true,.bool true,[],rfl,fun _=>rfl,.bool true,Att.post_true l _,fun _=>⟨List.Pairwise.nil,fun _ hm=>(nomatch hm)⟩⟩,h2,h3,h4⟩
end L2
namespace DL
open PySem.Spec L2
def isSt:Expr→Bool
 |.Starred _ _=>true
 |_=>false
theorem zy6 {a:Expr}{es:List Expr}{env:Env} (h:isSt a=false):zaz1 (a::es) env=(false,eval a env)::zaz1 es env:=by
 cases a<;>first | rfl | cases h
theorem RS.putOwned {K:zax7}{F A:List Addr}{H:Hp}{t:Th}{σ:L2.St}{i:Nat}{d:D}{v:V}{B:List Addr} (R:RS K (B++F) H A t σ) (nb:B.Nodup) (dj:∀b∈B,b∉F) (r:RepD K (hide (A++(B++F)) H) H d v B) (hi:i<t.length) :
  ∃A',(∀x∈A',x∈B∨x∈A)∧RS K F H A' (t.set i (.dp d)) (σ.set i (some v)):=by
 have lb:=r.lists
 obtain⟨A2,r2,sub2,nd2⟩:=RSl.setAny (s:=.dp d) (v:=v) (B:=B) (fun q=>.dp r q) i R.rel hi
 refine⟨A2,sub2,⟨fun p hp=>?_,nd2 R.nd nb (fun b hb z=>R.dj b z (zax8 _ hb)),fun p hp=>?_,RSl.mono (za7 H fun x hx=>?_) r2 fun _ _ _ w=>w⟩⟩
 ·rcases zay0.mp hp with z | z
  ·rcases sub2 p z with w | w
   ·exact lb p w
   ·exact R.mu p (zax8 _ w)
  ·exact R.mu p (zax6 _ (zax6 _ z))
 ·rcases sub2 p hp with w | w
  ·exact dj p w
  ·exact fun z=>R.dj p w (zax6 _ z)
 ·rcases zay0.mp hx with z | z
  ·rcases sub2 x z with w | w
   ·exact zax6 _ (zax8 _ w)
   ·exact zax8 _ w
  ·exact zax6 _ (zax6 _ z)
theorem RS.less {K:zax7}{F F' A:List Addr}{H:Hp}{t:Th}{σ:L2.St} (R:RS K F H A t σ) (h:∀b∈F',b∈F):RS K F' H A t σ :=
 ⟨fun p hp=>R.mu p ((zay0.mp hp).elim (zax8 _) fun z=>zax6 _ (h p z)),R.nd,fun p hp z=>R.dj p hp (h p z),
  RSl.mono (za7 H fun x hx=>(zay0.mp hx).elim (zax8 _) fun z=>zax6 _ (h x z)) R.rel fun _ _ _ w=>w⟩
theorem RSl.loseDp {K:zax7}{H0 H:Hp}:∀ {t:Th}{σ:L2.St}{A:List Addr},RSl K H0 H t σ A→A.Nodup→∀ {i:Nat}{d:D},t[i]?=some (.dp d)→∃v B A',σ[i]?=some (some v)∧RepD K H0 H d v B∧RSl K H0 H (t.set i .no) σ A'∧(∀x∈A',x∈A)∧(∀x∈B,x∈A)∧(∀x∈A,x∈B∨x∈A')∧B.Nodup∧A'.Nodup∧(∀x∈A',x∉B):=by
 intro _ _ _ h
 induction h with
 |nil =>
  intro n i d e
  simp at e
 |@no _ _ _ _ r ih =>
  intro n i d e
  cases i with
  |zero =>
   simp at e
  |succ i =>
   obtain⟨v,B,A',a1,a2,a3,a4⟩:=ih n (i:=i) (d:=d) (by simpa using e)
   exact⟨v,B,A',by simpa using a1,a2,.no a3,a4⟩
 |@val _ _ _ _ _ h r ih =>
  intro n i d e
  cases i with
  |zero =>
   simp at e
  |succ i =>
   obtain⟨v,B,A',a1,a2,a3,a4⟩:=ih n (i:=i) (d:=d) (by simpa using e)
   exact⟨v,B,A',by simpa using a1,a2,.val h a3,a4⟩
 |@own p _ _ _ _ _ h1 h2 r ih =>
  intro n i d e
  cases i with
  |zero =>
   simp at e
  |succ i =>
   have n0:=zaz8.mp n
   obtain⟨v,B,A',a1,a2,a3,a4,a5,a6,a7,a8,a9⟩:=ih n0.2 (i:=i) (d:=d) (by simpa using e)
   refine⟨v,B,p::A',by simpa using a1,a2,.own h1 h2 a3,fun x hx=>?_,fun x hx=>zax9 _ (a5 x hx),fun x hx=>?_,a7,zaz8.mpr ⟨fun z=>n0.1 (a4 p z),a8⟩,fun x hx z=>?_⟩
   ·rcases zay5.mp hx with w | w
    ·rw [w];exact zay1 ..
    ·exact zax9 _ (a4 x w)
   ·rcases zay5.mp hx with w | w
    ·rw [w];exact .inr (zay1 ..)
    ·exact (a6 x w).imp id (zax9 _)
   ·rcases zay5.mp hx with w | w
    ·exact n0.1 (w ▸ a5 x z)
    ·exact a9 x w z
 |@dp _ v C _ _ A h r ih =>
  intro n i d e
  cases i with
  |zero =>
   simp at e;subst e
   have n0:=zay9.mp n
   exact⟨v,C,A,rfl,h,.no r,fun x hx=>zax6 _ hx,fun x hx=>zax8 _ hx,fun x hx=>zay0.mp hx,n0.1,n0.2.1,fun x hx z=>n0.2.2 x z x hx rfl⟩
  |succ i =>
   have n0:=zay9.mp n
   obtain⟨v,B,A',a1,a2,a3,a4,a5,a6,a7,a8,a9⟩:=ih n0.2.1 (i:=i) (d:=d) (by simpa using e)
   refine⟨v,B,C++A',by simpa using a1,a2,.dp h a3,fun x hx=>?_,fun x hx=>zax6 _ (a5 x hx),fun x hx=>?_,a7,zay9.mpr ⟨n0.1,a8,fun x hx y hy e=>n0.2.2 x hx y (a4 y hy) e⟩,fun x hx z=>?_⟩
   ·rcases zay0.mp hx with w | w
    ·exact zax8 _ w
    ·exact zax6 _ (a4 x w)
   ·rcases zay0.mp hx with w | w
    ·exact .inr (zax8 _ w)
    ·exact (a6 x w).imp id (zax6 _)
   ·rcases zay0.mp hx with w | w
    ·exact n0.2.2 x w x (a5 x z) rfl
    ·exact a9 x w z
theorem RS.takeDp {K:zax7}{F A:List Addr}{H:Hp}{t:Th}{σ:L2.St}{i:Nat}{d:D} (R:RS K F H A t σ) (e:t[i]?=some (.dp d)) :
  ∃v B A',σ[i]?=some (some v)∧RS K (B++F) H A' (t.set i .no) σ∧B.Nodup∧(∀b∈B,b∉F)∧RepD K (hide (A'++(B++F)) H) H d v B∧(∀x∈A',x∈A)∧(∀x∈B,x∈A):=by
 obtain⟨v,B,A',a1,a2,a3,a4,a5,a6,a7,a8,a9⟩:=R.rel.loseDp R.nd e
 have s:Same (hide (A++F) H) (hide (A'++(B++F)) H):=za7 H fun x hx=>by
  rcases zay0.mp hx with z | z
  ·exact zax8 _ (a4 x z)
  ·rcases zay0.mp z with z | z
   ·exact zax8 _ (a5 x z)
   ·exact zax6 _ z
 refine⟨v,B,A',a1,⟨fun p hp=>?_,a8,fun p hp z=>?_,RSl.mono s a3 fun _ _ _ w=>w⟩,a7,fun b hb=>R.dj b (a5 b hb),RepD.mono s a2 fun _ _ _ w=>w,a4,a5⟩
 ·rcases zay0.mp hp with z | z
  ·exact R.mu p (zax8 _ (a4 p z))
  ·rcases zay0.mp z with z | z
   ·exact R.mu p (zax8 _ (a5 p z))
   ·exact R.mu p (zax6 _ z)
 ·rcases zay0.mp z with z | z
  ·exact a9 p hp z
  ·exact R.dj p (a4 p hp) z
theorem RS.aside {K:zax7}{F A:List Addr}{H H':Hp}{t:Th}{σ:L2.St}{B:List Addr} (R:RS K F H A t σ) (g:Same H H') (fr:∀b∈B,H b=none) (lb:Lists H' B):RS K (B++F) H' A t σ:=by
 have np:∀b∈B,b∉A++F:=fun b hb=>zc6 R.mu (fr b hb)
 refine⟨fun p hp=>?_,R.nd,fun p hp z=>?_,RSl.mono (fun b o h=>?_) R.rel fun b _ o h=>g _ _ h⟩
 ·rcases zay0.mp hp with z | z
  ·exact (R.mu.mono g) p (zax8 _ z)
  ·rcases zay0.mp z with z | z
   ·exact lb p z
   ·exact (R.mu.mono g) p (zax6 _ z)
 ·rcases zay0.mp z with z | z
  ·exact np p z (zax8 _ hp)
  ·exact R.dj p hp z
 ·obtain⟨n,h⟩:=zh9 h
  refine zb9 (g _ _ h) fun z=>?_
  rcases zay0.mp z with z | z
  ·exact n (zax8 _ z)
  ·rcases zay0.mp z with z | z
   ·rw [fr b z]at h;cases h
   ·exact n (zax6 _ z)
abbrev DM:=Th→Option (D×Th)
abbrev DMs:=Th→Option (List D×Th)
structure Mv (K:zax7) (F A:List Addr) (H H':Hp) (B A':List Addr) (t':Th) (σ:L2.St):Prop where
 sm:Same H H'
 nd:B.Nodup
 dj:∀b∈B,b∉F
 rs:RS K (B++F) H' A' t' σ
 fr:∀b∈B,b∈A∨H b=none
 sb:∀b∈A',b∈A
noncomputable def dM (K:zax7) (F:List Addr) (f:DM):TE:=fun σ H Q => ∃A t d t',RS K F H A t σ∧f t=some (d,t')∧∀v H' B A',Mv K F A H H' B A' t' σ→RepD K (hide (A'++(B++F)) H') H' d v B→Q v H'
noncomputable def dMs (K:zax7) (F:List Addr) (f:DMs):TA:=fun σ H Q => ∃A t ds t',RS K F H A t σ∧f t=some (ds,t')∧∀vs H' B A',Mv K F A H H' B A' t' σ→RepDs K (hide (A'++(B++F)) H') H' ds vs B→Q vs H'
theorem RSl.loseOwn {K:zax7}{H0 H:Hp}:∀ {t:Th}{σ:L2.St}{A:List Addr},RSl K H0 H t σ A→A.Nodup→∀ {i:Nat}{ds:List D},t[i]?=some (.own ds)→∃p vs A',σ[i]?=some (some (.ref p))∧H p=some (.lst vs)∧Reps K H0 ds vs∧RSl K H0 H (t.set i .no) σ A'∧(∀x∈A',x∈A)∧p∈A∧(∀x∈A,x=p∨x∈A')∧A'.Nodup∧p∉A':=by
 intro _ _ _ h
 induction h with
 |nil =>
  intro n i d e
  simp at e
 |@no _ _ _ _ r ih =>
  intro n i d e
  cases i with
  |zero =>
   simp at e
  |succ i =>
   obtain⟨v,B,A',a1,a2,a2',a3,a4⟩:=ih n (i:=i) (ds:=d) (by simpa using e)
   exact⟨v,B,A',by simpa using a1,a2,a2',.no a3,a4⟩
 |@val _ _ _ _ _ h r ih =>
  intro n i d e
  cases i with
  |zero =>
   simp at e
  |succ i =>
   obtain⟨v,B,A',a1,a2,a2',a3,a4⟩:=ih n (i:=i) (ds:=d) (by simpa using e)
   exact⟨v,B,A',by simpa using a1,a2,a2',.val h a3,a4⟩
 |@own q vs _ _ _ A h1 h2 r ih =>
  intro n i d e
  cases i with
  |zero =>
   simp at e;subst e
   have n0:=zaz8.mp n
   exact⟨q,vs,A,rfl,h1,h2,.no r,fun x hx=>zax9 _ hx,zay1 ..,fun x hx=>zay5.mp hx,n0.2,n0.1⟩
  |succ i =>
   have n0:=zaz8.mp n
   obtain⟨p,vs,A',a1,a2,a2',a3,a4,a5,a6,a7,a8⟩:=ih n0.2 (i:=i) (ds:=d) (by simpa using e)
   refine⟨p,vs,q::A',by simpa using a1,a2,a2',.own h1 h2 a3,fun x hx=>?_,zax9 _ a5,fun x hx=>?_,zaz8.mpr ⟨fun z=>n0.1 (a4 q z),a7⟩,fun z=>?_⟩
   ·rcases zay5.mp hx with w | w
    ·rw [w];exact zay1 ..
    ·exact zax9 _ (a4 x w)
   ·rcases zay5.mp hx with w | w
    ·rw [w];exact .inr (zay1 ..)
    ·exact (a6 x w).imp id (zax9 _)
   ·rcases zay5.mp z with w | w
    ·exact n0.1 (w ▸ a5)
    ·exact a8 w
 |@dp _ _ C _ _ _ h r ih =>
  intro n i d e
  cases i with
  |zero =>
   simp at e
  |succ i =>
   have n0:=zay9.mp n
   obtain⟨p,vs,A',a1,a2,a2',a3,a4,a5,a6,a7,a8⟩:=ih n0.2.1 (i:=i) (ds:=d) (by simpa using e)
   refine⟨p,vs,C++A',by simpa using a1,a2,a2',.dp h a3,fun x hx=>?_,zax6 _ a5,fun x hx=>?_,zay9.mpr ⟨n0.1,a7,fun x hx y hy e=>n0.2.2 x hx y (a4 y hy) e⟩,fun z=>?_⟩
   ·rcases zay0.mp hx with w | w
    ·exact zax8 _ w
    ·exact zax6 _ (a4 x w)
   ·rcases zay0.mp hx with w | w
    ·exact .inr (zax8 _ w)
    ·exact (a6 x w).imp id (zax6 _)
   ·rcases zay0.mp z with w | w
    ·exact n0.2.2 p w p a5 rfl
    ·exact a8 w
theorem RS.takeOwn {K:zax7}{F A:List Addr}{H:Hp}{t:Th}{σ:L2.St}{i:Nat}{ds:List D} (R:RS K F H A t σ) (e:t[i]?=some (.own ds)) :
  ∃p vs A',σ[i]?=some (some (.ref p))∧RS K ([p]++F) H A' (t.set i .no) σ∧p∉F∧H p=some (.lst vs)∧Reps K (hide (A'++([p]++F)) H) ds vs∧(∀x∈A',x∈A)∧p∈A:=by
 obtain⟨p,vs,A',a1,a2,a2',a3,a4,a5,a6,a7,a8⟩:=R.rel.loseOwn R.nd e
 have s:Same (hide (A++F) H) (hide (A'++([p]++F)) H):=za7 H fun x hx=>by
  rcases zay0.mp hx with z | z
  ·exact zax8 _ (a4 x z)
  ·rcases zay0.mp z with z | z
   ·rw [zaz9.mp z];exact zax8 _ a5
   ·exact zax6 _ z
 refine⟨p,vs,A',a1,⟨fun q hp=>?_,a7,fun q hp z=>?_,RSl.mono s a3 fun _ _ _ w=>w⟩,R.dj p a5,a2,Reps.mono s a2',a4,a5⟩
 ·rcases zay0.mp hp with z | z
  ·exact R.mu q (zax8 _ (a4 q z))
  ·rcases zay0.mp z with z | z
   ·rw [zaz9.mp z];exact R.mu p (zax8 _ a5)
   ·exact R.mu q (zax6 _ z)
 ·rcases zay0.mp z with z | z
  ·rw [zaz9.mp z]at hp;exact a8 hp
  ·exact R.dj q (a4 q hp) z
section
variable {X:Cx}{F:List Addr}{a b c o:Expr}{es:List Expr}{fa fb fc:DE}{fn:DM}{fns:DMs}{pos:Pos}
noncomputable def mOwn (i:Nat):DM:=fun t=>match t[i]? with
 |some (.own xs)=>if flats xs then some (.lst xs,t.set i .no) else none
 |some (.dp d)=>some (d,t.set i .no)
 |some (.val d)=>if flat d then some (d,t) else none
 |_=>none
theorem pm_own (i:Nat) {x:Str} (hN:X.N[i]?=some x:=by rfl) (hv:Vis X.env.scope x:=by first | exact Or.inl rfl | exact Or.inr (Or.inl rfl) |exact Or.inr (Or.inr rfl)) (hd:(x ==("__debug__":Str))=false:=by decide)
  (hcd:(x ==("__classdict__":Str))=false:=by decide):PE X (.Name x pos) (dM X.K F (mOwn i)):=by
 refine PE.imp (zo1 (i:=i) hN hv hd hcd) ?_
 rintro σ H Q ⟨A,t,d,t',R,e,h⟩
 unfold mOwn at e
 split at e
 ·rename_i xs q
  split at e
  case isFalse=>cases e
  rename_i f
  cases e
  obtain⟨p,vs,A',a1,R1,a3,a4,a5,a6,a7⟩:=R.takeOwn q
  exact⟨_,a1,h _ H [p] A' ⟨Same.refl H,by simp,fun b hb=>by rw [zaz9.mp hb];exact a3,R1,fun b hb=>by rw [zaz9.mp hb];exact .inl a7,a6⟩ (.lst a4 (RepDs.of_flat f a5))⟩
 ·rename_i d0 q
  cases e
  obtain⟨v,B,A',a1,R1,a3,a4,a5,a6,a7⟩:=R.takeDp q
  exact⟨v,a1,h v H B A' ⟨Same.refl H,a3,a4,R1,fun b hb=>.inl (a7 b hb),a6⟩ a5⟩
 ·rename_i d0 q
  split at e
  case isFalse=>cases e
  rename_i f
  cases e
  obtain⟨v,h1,h2⟩:=R.rel.getVal q
  exact⟨v,h1,h v H [] A ⟨Same.refl H,zba8,fun b hb=>(by cases hb),R,fun b hb=>(by cases hb),fun b hb=>hb⟩ (.flat f h2)⟩
 ·cases e
def mOf (f:DE):DM:=fun t=>(f t).bind fun r=>(toDn r).map fun d=>(d,t)
theorem zau3 {A B F:List Addr}{H:Hp}:Same (hide (B++(A++F)) H) (hide (A++(B++F)) H):=za7 H fun x hx=>by
 rcases zay0.mp hx with z | z
 ·exact zax6 _ (zax8 _ z)
 ·rcases zay0.mp z with z | z
  ·exact zax8 _ z
  ·exact zax6 _ (zax6 _ z)
theorem pm_of (he:PE X a (dE X.K F fa)):PE X a (dM X.K F (mOf fa)):=by
 refine PE.imp he ?_
 rintro σ H Q ⟨A,t,d,t',R,e,h⟩
 unfold mOf at e
 cases e1:fa t with
 |none=>rw [e1]at e;cases e
 |some r =>
  rw [e1]at e
  simp only [zay2]at e
  cases e2:toDn r with
  |none=>rw [e2]at e;cases e
  |some d0 =>
   rw [e2]at e
   cases e
   refine⟨A,t,r,R,e1,fun v H' gs q=>?_⟩
   obtain⟨B,b1,b2,b3⟩:=q.toDn R.mu gs e2
   exact h v H' B A ⟨gs,b1,fun b hb z=>zc6 R.mu (b2 b hb) (zax6 _ z),R.aside gs b2 b3.lists,fun b hb=>.inr (b2 b hb),fun b hb=>hb⟩ (RepD.mono zau3 b3 fun _ _ _ w=>w)
def mNil:DMs:=fun t=>some ([],t)
def zas7 (f:DM) (g:DMs):DMs:=fun t=>(f t).bind fun q=>(g q.2).bind fun w=>some (q.1::w.1,w.2)
theorem pms_nil:PA X [] (dMs X.K F mNil):=PA.imp zi8 fun σ H Q ⟨A,t,ds,t',R,e,h⟩=>by cases e;exact h [] H [] A ⟨Same.refl H,zba8,fun b hb=>(by cases hb),R,fun b hb=>(by cases hb),fun b hb=>hb⟩ .nil
theorem zz0 (ha:∀F,PE X a (dM X.K F fn)) (hr:∀F,PA X es (dMs X.K F fns)) (hs:zaz1 (a::es) X.env=(false,eval a X.env)::zaz1 es X.env:=by rfl):PA X (a::es) (dMs X.K F (zas7 fn fns)):=by
 intro p pins s σ H Q I h
 obtain⟨A,t,ds,t',R,e,h⟩:=h
 unfold zas7 at e
 cases e1:fn t with
 |none=>rw [e1]at e;cases e
 |some q1 =>
  obtain⟨d1,t1⟩:=q1
  rw [e1]at e
  simp only [zay2]at e
  cases e2:fns t1 with
  |none=>rw [e2]at e;cases e
  |some q2 =>
   obtain⟨ds2,t2⟩:=q2
   rw [e2]at e
   cases e
   rw [hs]
   show wpAny _ _ (spliced ((false,eval a X.env)::zbd7 p (zaz1 es X.env))) _ _ s
   refine Calls.spliced_cons (thn (ha F pins s σ H (fun v H1 => ∃B1 A1,Mv X.K F A H H1 B1 A1 t1 σ∧RepD X.K (hide (A1++(B1++F)) H1) H1 d1 v B1) I ⟨A,t,d1,t1,R,e1,fun v H1 B1 A1 m1 r1=>⟨B1,A1,m1,r1⟩⟩) fun u s1 ⟨x,H1,I1,rx,B1,A1,m1,r1⟩=>?_)
   refine thn (hr (B1++F) p pins s1 σ H1 (fun vs H2=>Q (x::vs) H2) I1 ⟨A1,t1,ds2,t2,m1.rs,e2,fun vs H2 B2 A2 m2 r2=>?_⟩) fun us s2 ⟨xs,H2,I2,rx2,q2⟩=>⟨x::xs,H2,I2,.cons rx rx2,q2⟩
   have l1:Lists H2 B1:=r1.lists.mono m2.sm
   have d21:∀b∈B2,b∉B1:=fun b hb z=>m2.dj b hb (zax8 _ z)
   have mem:∀x,x∈A2++((B1++B2)++F)→x∈A2++(B2++(B1++F)):=fun x hx=>by
    simp only [zay0]at hx ⊢
    rcases hx with z | (z | z) |z
    ·exact .inl z
    ·exact .inr (.inr (.inl z))
    ·exact .inr (.inl z)
    ·exact .inr (.inr (.inr z))
   have mem':∀x,x∈(B1++B2)++F→x∈B2++(B1++F):=fun x hx=>by
    simp only [zay0]at hx ⊢
    rcases hx with (z | z) |z
    ·exact .inr (.inl z)
    ·exact .inl z
    ·exact .inr (.inr z)
   refine h (x::vs) H2 (B1++B2) A2 ⟨m1.sm.trans m2.sm,zay9.mpr ⟨m1.nd,m2.nd,fun y hy z hz e=>d21 z hz (e ▸ hy)⟩,fun b hb=>?_,m2.rs.less mem',fun b hb=>?_,fun b hb=>m1.sb b (m2.sb b hb)⟩ (.cons (B:=B1) (C:=B2) (RepD.hid (fun y hy=>m2.rs.mu y (mem y hy)) (zb6 _ _) (RepD.mono (H0':=hide B1 H2) (fun b o w=>?_) r1 fun _ _ _ w=>m2.sm _ _ w)) (RepDs.mono (za7 H2 mem) r2 fun _ _ _ w=>w))
   ·rcases zay0.mp hb with z | z
    ·exact m1.dj b z
    ·exact fun w=>m2.dj b z (zax6 _ w)
   ·rcases zay0.mp hb with z | z
    ·exact m1.fr b z
    ·rcases m2.fr b z with w | w
     ·exact .inl (m1.sb b w)
     ·exact .inr (Same.free m1.sm w)
   ·obtain⟨n,w⟩:=zh9 w
    exact zb9 (m2.sm _ _ w) fun z=>n (zax6 _ (zax8 _ z))
def mTup (g:DMs):DM:=fun t=>(g t).bind fun q=>if q.1.length≤1000 then some (.tup q.1,q.2) else none
theorem pm_tup {x1} (h:PA X es (dMs X.K F fns)):PE X (.Tuple es x1 pos) (dM X.K F (mTup fns)):=by
 refine PE.imp (pe_tup h) ?_
 rintro σ H Q ⟨A,t,d,t',R,e,h⟩
 unfold mTup at e
 cases e1:fns t with
 |none=>rw [e1]at e;cases e
 |some q =>
  obtain⟨ds,t2⟩:=q
  rw [e1]at e
  simp only [zay2]at e
  split at e
  case isFalse=>cases e
  rename_i hl
  cases e
  refine⟨A,t,ds,t',R,e1,fun vs H1 B A1 m1 r1=>⟨by rw [r1.length];exact zl6 (by lia),fun p hp=>?_⟩⟩
  have s1:=zc5 (o:=HO.tup vs) hp
  have np:p∉A1++(B++F):=zc6 m1.rs.mu hp
  exact h _ _ B A1 ⟨m1.sm.trans s1,m1.nd,m1.dj,m1.rs.grow s1,m1.fr,m1.sb⟩ (.tup (SqT.of (zb9 za9 np)) (RepDs.mono (za8 s1) r1 fun _ _ _ w=>s1 _ _ w))
def dRetM (f:DM):DS:=fun t=>(f t).bind fun q=>some (.rt (.dn q.1))
theorem psd_retM (ha:PE X a (dM X.K F fn)):PS X (.Return (some a) pos) (dS X.K F (dRetM fn)):=by
 refine PS.imp (zap9 ha) ?_
 rintro E σ H ⟨A,t,o,R,e,h⟩
 unfold dRetM at e
 cases e1:fn t with
 |none=>rw [e1]at e;cases e
 |some q =>
  rw [e1]at e
  cases e
  refine⟨A,t,q.1,q.2,R,e1,fun v H' B A' m r1=>h v H' A (Gr.of_same R.mu.left m.sm) ⟨B,m.nd,fun b hb=>⟨m.fr b hb,m.dj b hb⟩,RepD.mono (za7 H' fun a z=>zax6 _ z) r1 fun _ _ _ w=>w⟩⟩
end
end DL
namespace TS
section
variable (κ π:Keyed→Int)
def rk (x:Keyed):Int:=κ x*1048576+π x
def Ris (l:List Keyed):Prop:=l.Pairwise fun a b=>rk κ π a≤rk κ π b
def Below (l m:List Keyed):Prop := ∀a∈l,∀b∈m,rk κ π a≤rk κ π b
variable {κ π}
structure Lo (X Y out:List Keyed) (i j:Nat):Prop where
 pm:out.Perm (X.take i++Y.take j)
 rs:Ris κ π out
 bx:Below κ π out (X.drop i)
 by':Below κ π out (Y.drop j)
variable {X Y out:List Keyed}{i j:Nat}
structure Hi (X Y out:List Keyed) (i j:Nat):Prop where
 pm:out.Perm (X.drop i++Y.drop j)
 rs:Ris κ π out.reverse
 bx:Below κ π (X.take i) out
 by':Below κ π (Y.take j) out
end
end TS
namespace TS
structure Cmp (M:Model) (A:Around) (E:Value→zaz0→Prop) (s:zaz0) (κ π:Keyed→Int) (a₀:Array Keyed) (kd:SortKind):Prop where
 lt:∀(st:SortSt) (x y:Keyed) (Q:Option Bool→SortSt→Prop),kindOf st=kd→x∈a₀.toList→y∈a₀.toList→Q (some (decide (κ x<κ y))) st→wpS M A E s (lt' x y) Q st
 pi:∀x∈a₀.toList,0≤π x∧π x<1048576
section
variable {M:Model}{A:Around}{E:Value→zaz0→Prop}{s:zaz0}{κ π:Keyed→Int}{a₀:Array Keyed}{kd:SortKind} (C:Cmp M A E s κ π a₀ kd)
structure SameS (st st':SortSt):Prop where
 arr:arrOf st'=arrOf st
 knd:kindOf st'=kindOf st
 pnd:pendingOf st'=pendingOf st
 fld:failedOf st'=failedOf st
theorem SameS.trans {a b c:SortSt} (h:SameS a b) (g:SameS b c):SameS a c:=⟨g.arr.trans h.arr,g.knd.trans h.knd,g.pnd.trans h.pnd,g.fld.trans h.fld⟩
structure Two (κ π:Keyed→Int) (a₀:Array Keyed) (xs ys:Array Keyed):Prop where
 mx:∀x∈xs.toList,x∈a₀.toList
 my:∀y∈ys.toList,y∈a₀.toList
 rx:Ris κ π xs.toList
 ry:Ris κ π ys.toList
 sep:∀x∈xs.toList,∀y∈ys.toList,π x≤π y
 px:0<xs.size
 py:0<ys.size
 first:∀x y,xs[0]?=some x→ys[0]?=some y→κ y<κ x
 last:∀x,xs[xs.size - 1]?=some x→∀y∈ys.toList,κ y<κ x
variable {xs ys:Array Keyed}{st:SortSt} (hk:kindOf st=kd) (T:Two κ π a₀ xs ys)
end
end TS
namespace TS
section
variable {M:Model}{A:Around}{E:Value→zaz0→Prop}{s:zaz0}{κ π:Keyed→Int}{a₀:Array Keyed}{kd:SortKind} (C:Cmp M A E s κ π a₀ kd)
def sepL (π:Keyed→Int) (l m:List Keyed):Prop := ∀a∈l,∀b∈m,π a≤π b
end
end TS
namespace TS
def kA (f:Keyed→Int) (xs:Array Keyed) (i:Nat):Int:=match xs[i]? with
 |some p=>f p
 |none=>0
structure Chg (xs zs:Array Keyed) (lo hi:Nat):Prop where
 pm:zs.Perm xs
 out:∀i,i<lo∨hi≤i→zs[i]?=xs[i]?
 ins:∀i,lo≤i→i<hi→∃j,lo≤j∧j<hi∧zs[i]?=xs[j]?
theorem Chg.size {xs zs:Array Keyed}{lo hi:Nat} (h:Chg xs zs lo hi):zs.size=xs.size:=h.pm.size_eq
section
variable {M:Model}{A:Around}{E:Value→zaz0→Prop}{s:zaz0}{κ π:Keyed→Int}{a₀:Array Keyed}{kd:SortKind} (C:Cmp M A E s κ π a₀ kd)
def rA (κ π:Keyed→Int) (xs:Array Keyed) (i:Nat):Int:=kA κ xs i*1048576+kA π xs i
structure TB (a₀:Array Keyed) (kd:SortKind) (st:SortSt):Prop where
 pm:(arrOf st).Perm a₀
 kind:kindOf st=kd
 fld:failedOf st=none
theorem TB.size {st:SortSt} (h:TB a₀ kd st):(arrOf st).size=a₀.size:=h.pm.size_eq
end
end TS
namespace TS
section
variable {M:Model}{A:Around}{E:Value→zaz0→Prop}{s:zaz0}{κ π:Keyed→Int}{a₀:Array Keyed}{kd:SortKind} (C:Cmp M A E s κ π a₀ kd)
structure Dn (κ π:Keyed→Int) (a₀:Array Keyed) (kd:SortKind) (st0:SortSt) (lo x q:Nat) (st:SortSt):Prop where
 tb:TB a₀ kd st
 pd:pendingOf st=pendingOf st0
 ch:Chg (arrOf st0) (arrOf st) lo (lo+x)
 le:q+1≤x
 un:∀i,lo+x - (q+1)≤i→(arrOf st)[i]?=(arrOf st0)[i]?
 eq:∀i,lo+x - (q+1)≤i→i<lo+x→kA κ (arrOf st) i=kA κ (arrOf st) (lo+x - 1)
 fl:∀i j,lo≤i→i≤j→j<lo+x - (q+1)→rA κ π (arrOf st) j≤rA κ π (arrOf st) i
 gt:∀i,lo≤i→i<lo+x - (q+1)→kA κ (arrOf st) (lo+x - 1)<kA κ (arrOf st) i
end
end TS
namespace TS
noncomputable def MatchP:Nat→List (List Keyed)→List (Nat×Nat×Nat)→Prop
 |_,[],[]=>True
 |lo,L::Ls,q::ps=>q.1=lo∧q.2.1=L.length∧MatchP (lo+L.length) Ls ps
 |_,_,_=>False
section
variable {M:Model}{A:Around}{E:Value→zaz0→Prop}{s:zaz0}{κ π:Keyed→Int}{a₀:Array Keyed}{kd:SortKind} (C:Cmp M A E s κ π a₀ kd)
structure Runs (κ π:Keyed→Int) (a₀:Array Keyed) (kd:SortKind) (st:SortSt) (Ls:List (List Keyed)) (post:List Keyed):Prop where
 tb:TB a₀ kd st
 ar:(arrOf st).toList=Ls.flatten++post
 mt:MatchP 0 Ls (pendingOf st).toList
 ok:∀L∈Ls,Ris κ π L∧L≠[]
 sp:Ls.Pairwise (sepL π)
end
end TS
namespace TS
section
variable {M:Model}{A:Around}{E:Value→zaz0→Prop}{s:zaz0}{κ π:Keyed→Int}{a₀:Array Keyed}{kd:SortKind} (C:Cmp M A E s κ π a₀ kd)
structure Btw (κ π:Keyed→Int) (a₀:Array Keyed) (kd:SortKind) (lo:Nat) (st:SortSt) (Ls:List (List Keyed)) (rest:List Keyed):Prop where
 rn:Runs κ π a₀ kd st Ls rest
 ln:Ls.flatten.length=lo
 sp:sepL π Ls.flatten rest
 up:rest.Pairwise fun a b=>π a≤π b
end
end TS
namespace DL
open PySem.Spec L2 TS
def zb7 (n:Nat):List Int:=(zbb6 n).map fun (i:Nat)=>(i:Int)
theorem zm7 (n:Nat):(zb7 n).length=n:=by simp [zb7]
theorem zas4 {n i:Nat}{x:Int} (h:(zb7 n)[i]?=some x):x=(i:Int)∧i<n:=by
 unfold zb7 at h
 rw [zbb2]at h
 cases e:(zbb6 n)[i]? with
 |none=>rw [e]at h;cases h
 |some j =>
  rw [e]at h
  obtain⟨h1,h2⟩:=zbc7.mp e
  simp at h1 h2
  cases h
  exact⟨by rw [h2],h1⟩
theorem zt0 {i:Int} (h0:0≤i) (h1:i≤100000):Builtin.Range.rangeFitsLong i=true:=by
 unfold Builtin.Range.rangeFitsLong
 have e:(2:Int) ^ 63=9223372036854775808:=by decide
 rw [e]
 simp only [zay4,decide_eq_true_eq]
 lia
theorem small_of {n:Int} (h0:0≤n) (h1:n≤100000):Builtin.Range.small 0 n 1=true:=by
 have rs:Builtin.Range.rangeSize 0 n 1=n:=by simp only [Builtin.Range.rangeSize];lia
 unfold Builtin.Range.small
 rw [rs,zt0 (i:=0) (by lia) (by lia),zt0 h0 h1,zt0 (i:=1) (by lia) (by lia),if_pos (by lia),zt0 (i:=n+(1 - 1)) (by lia) (by lia),Bool.or_true]
 rfl
end DL
namespace DL
open PySem.Spec L2
def fuelN (i:Nat):Th→Nat:=fun t=>match t[i]? with
 |some (.val (.int n))=>n.natAbs+1
 |_=>0
end DL
namespace TS
section
variable {prog:Program}{w:World}{A:Around}{E:Value→zaz0→Prop}{s:zaz0}
theorem zip_same {α:Type}:∀l:List α,l.zip l=l.map fun x=>(x,x)
 |[]=>rfl
 |x::l=>by rw [zbh2,zip_same l];rfl
end
end TS
namespace DL
open PySem.Spec L2
noncomputable def spT (K:zax7) (G:D→List D→List D→D→Option (List Int×List Int)):Sp:=fun vs H Q _ => ∃(v0 v3:V) (p q:Addr) (ws us:List V) (d0 d3:D) (xs ys:List D) (r:List Int×List Int),vs=[v0,.ref p,.ref q,v3]∧p≠q∧H p=some (.lst ws)∧H q=some (.lst us) ∧
 Rep K (hide [p,q] H) d0 v0∧Reps K (hide [p,q] H) xs ws∧Reps K (hide [p,q] H) ys us∧Rep K (hide [p,q] H) d3 v3∧G d0 xs ys d3=some r ∧
 ∀H',(∀b o,b≠p→b≠q→H b=some o→H' b=some o)→H' p=some (.lst (r.1.map V.int))→H' q=some (.lst (r.2.map V.int))→Q .non H'
structure CalT (P:Program) (w:World) (K:zax7) (mg:Str→Option Value) (base:BHeap) (x:Str) (k:Nat) (G:D→List D→List D→D→Option (List Int×List Int)):Prop where
 ex:∃(a:Addr) (fd:FuncData) (ps:List Str),mg x=some (.ref a)∧zbc1 K (.ref a)=true∧L2.Binds K fd ps []∧FnOk P w K mg base CX0 k a fd ps (spT K G)
section
variable {X:Cx}{F:List Addr}{a b c:Expr}{es:List Expr}{fa fb fc:DE}{pos:Pos}
noncomputable def zz8 (t:Th) (j i:Nat) (k:Ev):Option Out:=match t[i]?,t[j]?,k.d with
 |some (.own xs),some (.own ys),.int n=>if i=j then none else if decide (-1000000≤n∧n≤1000000∧ys.length<100000) then (ixN xs.length n).bind fun q=>(xs[q]?).map fun d=>.nx ((t.set i (.own (xs.eraseIdx q))).set j (.own (ys++[d]))) else none
 |_,_,_=>none
def zv6 (j i:Nat) (f:DE):DS:=fun t=>(f t).bind (zz8 t j i)
theorem zam5 (j i:Nat) {x y:Str}{p0 p1 apos cpos apos1 cpos1:Pos} (he:PE X a (dE X.K F fa)) (hN:X.N[i]?=some x:=by rfl) (hv:Vis X.env.scope x:=by first | exact Or.inl rfl | exact Or.inr (Or.inl rfl) |exact Or.inr (Or.inr rfl)) (hd:(x ==("__debug__":Str))=false:=by decide)
  (hcd:(x ==("__classdict__":Str))=false:=by decide) (hNy:X.N[j]?=some y:=by rfl) (hvy:Vis X.env.scope y:=by first | exact Or.inl rfl | exact Or.inr (Or.inl rfl) |exact Or.inr (Or.inr rfl)) (hdy:(y ==("__debug__":Str))=false:=by decide)
  (hcdy:(y ==("__classdict__":Str))=false:=by decide) (hst:zaz1 [a] X.env=[(false,eval a X.env)]:=by rfl)
  (hbase:attributeBase (.Name x p1) "pop" X.env (eval (.Name x p1) X.env)=eval (.Name x p1) X.env:=by rfl)
  (hfew:((zbd7 cpos1 (zaz1 [a] X.env)).all (fun x=>!x.1)&&(backToKw cpos1 (keywordEach [] X.env)).all (fun x=>x.1.isSome)
   && decide ([a].length+([]:List Keyword).length+(if ([]:List Keyword).isEmpty then 0 else 1)<30))=true:=by rfl)
  (hline:(apos1.endLine == cpos1.line)=true:=by rfl) (hplain:(zbd7 cpos1 (zaz1 [] X.env)).any (·.1)=false:=by rfl)
  (hst2:zaz1 [.Call (.Attribute (.Name x p1) "pop" apos1) [a] [] cpos1] X.env=[(false,eval (.Call (.Attribute (.Name x p1) "pop" apos1) [a] [] cpos1) X.env)]:=by rfl)
  (hbase2:attributeBase (.Name y p0) "append" X.env (eval (.Name y p0) X.env)=eval (.Name y p0) X.env:=by rfl)
  (hfew2:((zbd7 cpos (zaz1 [.Call (.Attribute (.Name x p1) "pop" apos1) [a] [] cpos1] X.env)).all (fun x=>!x.1)&&(backToKw cpos (keywordEach [] X.env)).all (fun x=>x.1.isSome)
   && decide ([Expr.Call (.Attribute (.Name x p1) "pop" apos1) [a] [] cpos1].length+([]:List Keyword).length+(if ([]:List Keyword).isEmpty then 0 else 1)<30))=true:=by rfl)
  (hline2:(apos.endLine == cpos.line)=true:=by rfl) (hplain2:(zbd7 cpos (zaz1 [] X.env)).any (·.1)=false:=by rfl)
  (hsw:swapsWith (.Call (.Attribute (.Name y p0) "append" apos) [.Call (.Attribute (.Name x p1) "pop" apos1) [a] [] cpos1] [] cpos) none pos.line X.env=pure false:=by rfl) :
  PS X (.Expr (.Call (.Attribute (.Name y p0) "append" apos) [.Call (.Attribute (.Name x p1) "pop" apos1) [a] [] cpos1] [] cpos) pos) (dS X.K F (zv6 j i fa)):=by
 refine PS.imp (zm4 (zah3 zbb3 zbd1 zbd2 zj0 (zo1 (i:=j) hNy hvy hdy hcdy) (zf1 (zah3 zbb3 PySem.F.slot_list_pop PySem.F.type_list_pop mt_popAt (zo1 (i:=i) hN hv hd hcd) (zf1 he zi8 hst) hbase hfew hline hst hplain) zi8 hst2) hbase2 hfew2 hline2 hst2 hplain2) hsw) ?_
 rintro E σ H ⟨A,t,o,R,e,h⟩
 unfold zv6 at e
 cases e1:fa t with
 |none=>rw [e1]at e;cases e
 |some r =>
  rw [e1]at e
  have e:zz8 t j i r=some o:=e
  unfold zz8 at e
  split at e
  case h_2=>cases e
  rename_i xs ys n z1 z2 zr
  split at e
  case isTrue=>cases e
  rename_i ne
  split at e
  case isFalse=>cases e
  rename_i ok
  simp only [decide_eq_true_eq]at ok
  cases e3:ixN xs.length n with
  |none=>rw [e3]at e;cases e
  |some q =>
   rw [e3]at e
   simp only [zay2]at e
   cases e4:xs[q]? with
   |none=>rw [e4]at e;cases e
   |some d =>
    rw [e4]at e
    cases e
    obtain⟨p,vs,a1,a2,a3,a4⟩:=R.rel.getOwn z1
    obtain⟨p',ws,b1,b2,b3,b4⟩:=R.rel.getOwn z2
    obtain⟨v,c1,c2⟩:=a4.get e4
    have hj:=zau0 (by rw [← a4.length]at e3;exact e3)
    refine⟨_,b1,.inl ⟨rfl,ws,SqL.of b3⟩,_,a1,.inl ⟨rfl,vs,SqL.of a3⟩,A,t,r,R,e1,fun w H1 gs q1=>?_⟩
    have pr:=q1.full
    rw [zr]at pr
    cases ze1 pr
    obtain⟨R1,g1⟩:=(R.grow gs).write (es:=xs.eraseIdx q) (ws:=vs.eraseIdx q) z1 a1 (Reps.erase q (Reps.mono (za8 gs) a4))
    have z2':(t.set i (.own (xs.eraseIdx q)))[j]?=some (.own ys):=by rw [zbg5 ne];exact z2
    obtain⟨p'',ws',b1',b2',b3',b4'⟩:=R1.rel.getOwn z2'
    rw [b1]at b1'
    cases b1'
    refine⟨p,vs,n,q,v,rfl,rfl,gs _ _ a3,by lia,by lia,hj.1,c1,p',ws',v,rfl,rfl,b3',?_,?_⟩
    ·have:ws'.length<100000:=by rw [b4'.length];exact ok.2.2
     exact zay8 this (by rw [sizeLine_eq];decide)
    ·obtain⟨R2,g2⟩:=R1.write (es:=ys++[d]) (ws:=ws'++[v]) z2' b1 (b4'.app (Reps.one (Rep.mono g1.same (Rep.mono (za8 gs) c2))))
     exact h _ _ _ (((Gr.of_same R.mu.left gs).trans g1).trans g2) R2
end
end DL
namespace TS
section
variable {prog:Program}{w:World}{A:Around}{E:Value→zaz0→Prop}{s:zaz0}
theorem zad9 {I:Addr}{fp:List Addr}{items:Array Value}{St:Nat→Heap→Prop} (W:Walks prog w A I fp [I] items.size (fun i v=>items[i]?=some v) St):∀(n i:Nat) (s:zaz0) (Q:List Value→zaz0→Prop),St i s.heap→i+n≤items.size →
  (∀h' tk,St (i+n) h'→(∀b o,b≠I→s.heap.get? b=some o→h'.get? b=some o)→Q ((items.toList.drop i).take n) { s with heap:=h',toks:=tk })→wpAny (model prog w) A (draw (.ref I) n) Q E s
 |0,i,s,Q,st,_,hQ=>by
  show wpAny _ _ (pure []) Q E s
  exact zba5 (by simpa using hQ s.heap s.toks st fun _ _ _ e=>e)
 |n+1,i,s,Q,st,hle,hQ=>by
  have lt:i<items.size:=by lia
  show wpAny _ _ (pyNext (.ref I) >>= _) Q E s
  refine zaz2 (W.item i s _ _ lt st fun v h1 tk p st1 k1=>?_)
  have ev:v=items[i]:=by
   rw [Array.getElem?_eq_getElem lt]at p
   exact (Option.some.inj p).symm
  subst ev
  refine zaz2 (wpAny_holding (zad9 W n (i+1) _ _ st1 (by lia) fun h2 tk2 st2 k2=>zba5 ?_))
  have hd:items.toList.drop i=items[i]::items.toList.drop (i+1):=by simp [zbb4,lt]
  have:=hQ h2 tk2 (by rw [show i+(n+1)=i+1+n by lia];exact st2) fun b o nb e=>k2 b o nb (k1 b o (by simpa using nb) e)
  rw [hd,List.take_succ_cons]at this
  exact this
theorem zaf8 {l:Addr}{items:Array Value}{targets:List (Bool×(Value→Sem Unit))}{Q:Unit→zaz0→Prop} (hh:A.handled=none) (hl:s.heap.IsList l items) (hn:targets.length=items.size) (hs:targets.findIdx? (·.1)=none)
  (h:∀h' tk,(∀b o,s.heap.get? b=some o→h'.get? b=some o)→wpAny (model prog w) A (assignInOrder (targets.map (·.2)) items.toList) Q E { s with heap:=h',toks:=tk }) :
  wpAny (model prog w) A (unpack (.ref l) targets) Q E s:=by
 have ll:l<s.heap.objs.size:=by obtain⟨o,g,_⟩:=hl;exact zaz5 g
 unfold unpack
 rw [hn,hs]
 refine zaz2 (wpAny_holding ?_)
 unfold unpackItems
 refine zaz2 ?_
 unfold notIterableAtAll
 refine zaz2 (wpAny_specialOf hl.typeIs F.slot_list_iter.lookup ?_)
 refine zba5 ?_
 simp only [zbf6,if_false]
 refine zaz2 (wpAny_holding (wpAny_pyIter_list hl ?_))
 have W:=Walks.list (prog:=prog) (w:=w) (A:=A) hh s.heap.objs.size l (zba4 ll) items
 refine zaz2 (wpAny_holding (zad9 W items.size 0 _ _ ⟨⟨_,zbb1 _ rfl,rfl,rfl⟩,hl.push _⟩ (by lia) fun h1 tk st1 k1=>?_))
 have hall:List.take items.size (List.drop 0 items.toList)=items.toList:=by
  rw [List.drop_zero];exact zbl2 (by simp)
 rw [hall,if_neg (by simp)]
 rw [zbm3]at st1
 refine zaz2 (wpAny_holding (W.done _ _ _ st1 fun h2 tk2 k2=>?_))
 simp only [Option.isSome_none,zbf6,if_false]
 refine zba5 (h h2 tk2 fun b o e=>k2 b o (fun z=>absurd (zaz5 e) (by rw [zaz9.mp z];exact zbd6 _)) (k1 b o (zba4 (zaz5 e)) (zay6 _ e)))
end
end TS
namespace L2
open PySem.Spec TS
section
variable {X:Cx}{pos:Pos}
def gLst (K:zax7) (n:Nat) (t:TGs):TG:=fun v σ H Q => ∃a xs,v=.ref a∧SqL K H a xs∧xs.length=n∧t xs σ H Q
theorem pg_lst {es:List Expr}{k:Nat}{t:TGs}{n:Nat} (hc:X.calm=true) (h:PGs X es t) (hn:(assignEach es X.env).length=n:=by rfl) (hst:(assignEach es X.env).findIdx? (·.1)=none:=by rfl):PG X (.Tuple es k pos) (gLst X.K n t):=by
 intro pins s σ H v u Q I r hw
 obtain⟨a,xs,e1,hq,hl,hw⟩:=hw
 subst e1
 cases r
 obtain⟨its,rv,pl,hz⟩:=I.list hq
 rw [arm_assign_Tuple]
 refine zaz2 (wpAny_standAt (zaf8 (I.ok.hd hc) (DL.PlainL.isL pl) (by simp [hn, ← hl,rv.length]) hst fun h' tk hk=>?_))
 exact h pins _ σ H xs _ Q (I.kept (t':=tk) hk) (by simpa using rv) hw
end
end L2
namespace DL
open PySem.Spec L2
noncomputable def gkLst (n:Nat) (k:List D→Th→Option Th):D→Th→Option Th:=fun d t=>match d with
 |.lst ds=>if ds.length=n then k ds t else none
 |_=>none
theorem tg_lst {K:zax7}{F:List Addr}{n:Nat}{g':TGs}{k':List D→Th→Option Th} (h2:zax4 K F g' k'):TgOk K F (gLst K n g') (gkLst n k'):=by
 intro σ H A t t' d x Q R r e h
 unfold gkLst at e
 split at e
 ·rename_i ds
  split at e
  ·rename_i hl
   cases r with
   |@lst _ p vs h1 hr=>exact⟨p,vs,rfl,SqL.mono (zb6 _ _) h1,by rw [hr.length];exact hl,h2 σ H A t t' ds vs Q R hr e h⟩
  ·cases e
 ·cases e
section
variable {X:Cx}{F:List Addr}
theorem od_shl:OpD X F (binaryOp .LShift) (kI cPow fun i j=>.int (i*2 ^ j.toNat)):=zac1 op_shl (fun i j h=>by
 simp only [cPow,decide_eq_true_eq]at h
 exact⟨h.1,by lia,by show i.natAbs<2 ^ 64;lia⟩) fun _ _ _=>.int _
end
end DL
namespace L2
open PySem.Spec
theorem vals_get:∀ {xs:List V}{us:List Value},xs.length=us.length→(∀(j:Nat) (a:V) (b:Value),xs[j]?=some a→us[j]?=some b→RelV a b)→Vals xs us
 |[],[],_,_=>.nil
 |[],_::_,h,_=>by simp at h
 |_::_,[],h,_=>by simp at h
 |x::xs,u::us,h,k=>.cons (k 0 x u rfl rfl) (vals_get (by simpa using h) fun j a b ha hb=>k (j+1) a b (by simpa using ha) (by simpa using hb))
end L2
namespace DL
open PySem.Spec L2
structure Lent (K:zax7) (F:List Addr) (ir jx:Nat) (ds:List D) (k:Nat) (A0:List Addr) (Hb:Hp) (p r:Addr) (C1 C2:List Addr) (A:List Addr) (H:Hp) (σ:L2.St):Prop where
 nd:(p ::(C1++r::C2)).Nodup
 dj:∀b∈p ::(C1++r::C2),b∉F
 s1:σ[ir]?=some (some (.ref p))
 s2:σ[jx]?=some (some (.ref r))
 gr:Gr A0 Hb (A++p ::(C1++C2)) H
 kp:∀b∈p ::(C1++C2),∀o,Hb b=some o→H b=some o
 re:∀(H01 H1:Hp) (xs':List D),xs'.all scD=true→H1 r=some (.lst (xs'.map sV))→(∀b∈p ::(C1++C2),∀o,Hb b=some o→H1 b=some o)→Same (hide (A0++F) Hb) H01→RepD K H01 H1 (.lst (ds.set k (.lst xs'))) (.ref p) (p ::(C1++r::C2))
section
variable {X:Cx}{F:List Addr}{es:List Expr}{fns:DNs}{pos:Pos}
def dNewL (g:DNs):DE:=fun t=>(g t).bind fun q=>if q.1.length≤1000&&q.2.isEmpty then some (.dn (.lst q.1)) else none
theorem ped_newL (h:PA X es (dNs X.K F fns)):PE X (.List es pos) (dE X.K F (dNewL fns)):=by
 refine PE.imp (pe_lst h) ?_
 rintro σ H Q ⟨A,t,r,R,e,h⟩
 unfold dNewL at e
 cases e1:fns t with
 |none=>rw [e1]at e;cases e
 |some q =>
  obtain⟨ds,I⟩:=q
  rw [e1]at e
  simp only [zay2]at e
  split at e
  case isFalse=>cases e
  rename_i ok
  cases e
  simp only [zay4,decide_eq_true_eq,List.isEmpty_iff]at ok
  obtain⟨hl,rfl⟩:=ok
  refine⟨A,t,ds,[],R,e1,fun vs H1 B g1 n1 f1 r1=>⟨by rw [r1.length];exact zl6 (by lia),fun p hp=>?_⟩⟩
  have s1:=zc5 (o:=HO.lst vs) hp
  have np:p∉B:=zc6 r1.lists hp
  refine h _ _ (g1.trans s1) ⟨p::B,zaz8.mpr ⟨np,n1⟩,fun b hb=>?_,.lst za9 (RepDs.mono (zh2 hp) r1 fun b hb o w=>s1 _ _ w)⟩
  rcases zay5.mp hb with z | z
  ·rw [z];exact Same.free g1 hp
  ·rcases f1 b z with w | ⟨i,hi,_⟩
   ·exact w
   ·cases hi
end
end DL
namespace DL
open PySem.Spec L2
mutual
theorem RepD.fl {K:zax7}{H0 H:Hp}:∀ {d:D}{v:V}{B:List Addr},RepD K H0 H d v B→flat d=true→Rep K H0 d v∧B=[]
 |_,_,_,.flat _ r,_=>⟨r,rfl⟩
 |_,_,_,.tup h r,f=>⟨.tup h (RepDs.fl r (by simpa [flat] using f)).1,(RepDs.fl r (by simpa [flat] using f)).2⟩
 |_,_,_,.lst _ _,f=>by simp [flat]at f
 |_,_,_,.dct _ _ _,f=>by simp [flat]at f
 |_,_,_,.pdc _,f=>by simp [flat]at f
theorem RepDs.fl {K:zax7}{H0 H:Hp}:∀ {ds:List D}{vs:List V}{B:List Addr},RepDs K H0 H ds vs B→flats ds=true→Reps K H0 ds vs∧B=[]
 |_,_,_,.nil,_=>⟨.nil,rfl⟩
 |_,_,_,.cons h r,f=>by
  simp only [flats,zay4]at f
  obtain⟨a1,a2⟩:=RepD.fl h f.1
  obtain⟨b1,b2⟩:=RepDs.fl r f.2
  exact⟨.cons a1 b1,by rw [a2,b2];rfl⟩
end
end DL
namespace L2
open PySem.Spec
theorem d_set {X:Cx}{pins:List (Addr×Obj)}{σ:L2.St}{H:Hp}{s:zaz0}{a:Addr}{kvs:List (Key×V)}{k:Key}{v:V}{u r:Value}{A:Around}{E:Value→zaz0→Prop}{Q:Unit→zaz0→Prop} (I:Inv X pins σ H s) (e:H a=some (.dK kvs)) (ry:RelV (kV k) u) (rv:RelV v r) (l:kvs.length<sizeLine) (h:∀s',Inv X pins σ (upd H a (.dK (putK kvs k v))) s'→Q () s') :
  wpAny (model X.prog X.w) A (dictSet a u r) Q E s:=by
 obtain⟨z,hd,vs,rel,dd⟩:=dk_of I.hok e
 have hz:vs.length≤sizeLine:=by rw [← rel.length];exact z
 have hl:(putK kvs k v).length≤sizeLine:=by have:=zu8 kvs k v;lia
 refine wpAny_dictSet_pairs (hsz:=hz) (kV_is ry) dd fun h' dd' hs=>h _ ?_
 have he:∃q,h'.get? a=some q:=let ⟨q,_,_,hq,_⟩:=dd';⟨q,hq⟩
 exact zav2 I (by rw [e];exact True.intro) hs he (dk_new hl hd (rel.put k rv) dd')
theorem zae2 {kx vx target iter:Expr}{ifs:List Expr}{g2:Comprehension}{scope:Scope}{pos:Pos}{it acc:Value}{env:Env} (h2:g2.is_async=0) :
  compTurn (.DictComp kx vx [⟨target,iter,ifs,0⟩,g2] scope pos) 0 it acc env=(do
   standAt iter.pos
   match ← pyNext it with
   |none=>pure (.done .next)
   |some v =>
    letOwnedTupleGo target it v
    assign target env v
    let mut ok:=true
    for c in ifs do
     if ok then ok ← isTrue c env (eval c env)
    if ok then emT (.DictComp kx vx [⟨target,iter,ifs,0⟩,g2] scope pos) g2 acc env
    again (.compLoop (.DictComp kx vx [⟨target,iter,ifs,0⟩,g2] scope pos) 0 it acc env)):=by
 obtain⟨t2,i2,f2,a2⟩:=g2
 have h2:a2=0:=h2
 subst h2
 simp only [emT,bind_assoc,pure_bind]
 rfl
theorem zae1 {kx vx iter:Expr}{ifs:List Expr}{g1:Comprehension}{target:Expr}{scope:Scope}{pos:Pos}{it:Value}{D:Addr}{env:Env} :
  compTurn (.DictComp kx vx [g1,⟨target,iter,ifs,0⟩] scope pos) 1 it (.ref D) env=(do
   standAt iter.pos
   match ← pyNext it with
   |none=>pure (.done .next)
   |some v =>
    letOwnedTupleGo target it v
    assign target env v
    let mut ok:=true
    for c in ifs do
     if ok then ok ← isTrue c env (eval c env)
    if ok then (do
      let kv ← eval kx env
      let vv ← holding [kv] (eval vx env)
      standAt { kx.pos with endLine:=vx.pos.endLine,endCol:=vx.pos.endCol }
      holding [kv,vv] (dictSet D kv vv))
    again (.compLoop (.DictComp kx vx [g1,⟨target,iter,ifs,0⟩] scope pos) 1 it (.ref D) env)):=by rfl
theorem zn0 {prog:Program}{w:World}{A:Around}{R:Result→zaz0→Prop}{s:zaz0}{kx vx target:Expr}{ip:Pos}{gens:List Comprehension}{depth:Nat}{ifs:List Expr}{scope:Scope}{pos:Pos}{it acc:Value}{env:Env} (em:Sem Unit)
  (heq:compTurn (.DictComp kx vx gens scope pos) depth it acc env=(do
   standAt ip
   match ← pyNext it with
   |none=>pure (.done .next)
   |some v =>
    letOwnedTupleGo target it v
    assign target env v
    let mut ok:=true
    for c in ifs do
     if ok then ok ← isTrue c env (eval c env)
    if ok then em
    again (.compLoop (.DictComp kx vx gens scope pos) depth it acc env))) (I:Nat→zaz0→Prop)
  (turn:∀n s,I n s→wpAny (model prog w) A (pyNext it) (fun r s₁=>match r with
   |none=>R (.ok .next) s₁
   |some v=>wpAny (model prog w) A (letOwnedTupleGo target it v) (fun _ s₁'=>wpAny (model prog w) A (assign target env v) (fun _ s₂ =>
     wpAny (model prog w) A (forIn ifs true fun c r=>if r=true then do let ok ← isTrue c env (eval c env);pure (ForInStep.yield ok) else pure (ForInStep.yield r)) (fun ok s₃ =>
      if ok=true then wpAny (model prog w) A em (fun _ s₅ => ∃m,m<n∧I m s₅) (fun _ _=>False) s₃
      else ∃m,m<n∧I m s₃) (fun _ _=>False) s₂) (fun _ _=>False) s₁') (fun _ _=>False) s₁) (fun _ _=>False) s)
  (n:Nat) (h:I n s):codeAny (model prog w) A (.compLoop (.DictComp kx vx gens scope pos) depth it acc env) R s:=by
 refine codeAny_loop rfl I (fun n s hI=>?_) n h
 show wpAny _ A ((compTurn (.DictComp kx vx gens scope pos) depth it acc env).onRaise (fun x=>do noteFrame x env;theTreesLotGoes x)) _ _ s
 refine wpAny_noted ?_
 rw [heq]
 refine zaz2 (wpAny_standAt (zaz2 (wpAny_mono (turn n s hI) (fun r s₁ h₁=>?_) fun _ _ h'=>h'.elim)))
 cases r with
 |none=>exact zba5 h₁
 |some v =>
  refine zaz2 (wpAny_mono h₁ (fun _ s₁' h₁'=>?_) fun _ _ h'=>h'.elim)
  refine zaz2 (wpAny_mono h₁' (fun _ s₂ h₂=>zaz2 (wpAny_mono h₂ (fun ok s₃ h₃=>?_) fun _ _ h'=>h'.elim)) fun _ _ h'=>h'.elim)
  cases ok with
  |false=>exact zba5 ⟨rfl,h₃⟩
  |true=>exact zaz2 (wpAny_mono h₃ (fun _ s₅ h₅=>zba5 ⟨rfl,h₅⟩) fun _ _ h'=>h'.elim)
theorem zo0 {prog:Program}{w:World}{A:Around}{R:Result→zaz0→Prop}{s:zaz0}{kx vx target iter ifs g1 scope pos it acc env}
  (h0:codeAny (model prog w) A (.compLoop (.DictComp kx vx [g1,⟨target,iter,ifs,0⟩] scope pos) 1 it acc env) R s)
  (h:wpAny (model prog w) A (pyIter it) (fun it' s'=>codeAny (model prog w) A (.compLoop (.DictComp kx vx [g1,⟨target,iter,ifs,0⟩] scope pos) 1 it' acc env) R s')
   (notedBy (model prog w) A env fun x s'=>R (.error x) s') s) :
  codeAny (model prog w) A (.compStart (.DictComp kx vx [g1,⟨target,iter,ifs,0⟩] scope pos) 1 it acc env) R s:=by
 refine codeAny_of_tree ?_
 show wpAny _ _ ((compStart (.DictComp kx vx [g1,⟨target,iter,ifs,0⟩] scope pos) 1 it acc env).onRaise (fun x=>do noteFrame x env;standAt theWindowsPlace)) _ _ s
 refine wpAny_notedAt ?_
 unfold compStart
 show wpAny _ _ (ask >>= _) _ _ s
 refine zaz2 (wpAny_askSetting (wpAny_ite ?_))
 split
 ·first
   |exact zaz2 (zba5 (zba5 (And.intro rfl h0)))
   |exact zba5 (And.intro rfl h0)
 ·first
   |exact zaz2 (wpAny_rule (zaz2 (wpAny_standAt (zaz2 (wpAny_mono h (fun it' s' h'=>zba5 (And.intro rfl h')) fun _ _ x=>x)))))
   |(refine zaz2 (wpAny_rule ?_);show wpAny _ _ (standAt iter.pos >>= _) _ _ s;exact zaz2 (wpAny_standAt (zaz2 (wpAny_mono h (fun it' s' h'=>zba5 (And.intro rfl h')) fun _ _ x=>x))))
noncomputable def zao7 (n:Nat) (cap:List Nat) (wi:TI) (g:TG) (tt:TT) (em:EMS):TE:=fun σ H Q=>wi σ H fun J H1 => ∀D,H1 D=none→∃W:Nat→Nat→L2.St→Hp→Prop,(∃m,W 0 m (capV n cap σ) (upd H1 D (.dK [])))∧∀i m σ' H',W i m σ' H' →
 (J.stop i H'∧Q (.ref D) H')∨(J.go i H'∧∃N:L2.St→Hp→Prop,(∀σ'' H'',N σ'' H''→∃m',m' < m∧W (i+1) m' σ'' H'')∧∀x H2,J.yld i H' x H2→g x σ' H2 fun σ2 H3=>tt σ2 H3 fun b H4 =>
  if b=true then em D σ2 H4 N else N σ2 H4)
noncomputable def zao6 (wi:TI) (g:TG) (tt:TT) (tk tv:TE):EMS:=fun D σ H R=>wi σ H fun J H1 => ∃W:Nat→Nat→L2.St→Hp→Prop,(∃m,W 0 m σ H1)∧∀i m σ' H',W i m σ' H' →
 (J.stop i H'∧R σ' H')∨(J.go i H'∧∃N:L2.St→Hp→Prop,(∀σ'' H'',N σ'' H''→∃m',m' < m∧W (i+1) m' σ'' H'')∧∀x H2,J.yld i H' x H2→g x σ' H2 fun σ2 H3=>tt σ2 H3 fun b H4 =>
  if b=true then tk σ2 H4 fun x H5=>tv σ2 H5 fun y H6 => ∃kvs k,x=kV k∧H6 D=some (.dK kvs)∧kvs.length<sizeLine∧N σ2 (upd H6 D (.dK (putK kvs k y))) else N σ2 H4)
theorem zam6 {Y:Cx}{kx vx tg iter:Expr}{ifs:List Expr}{g1:Comprehension}{scope:Scope}{pos:Pos}{wi:TI}{g:TG}{tt:TT}{tk tv:TE}{D:Addr} (yc:Y.calm=true) (yx:Y.xe=fun _ _=>False) (hi:PI Y tg iter wi) (hg:PG Y tg g) (ht:PTs Y ifs tt) (hk:PE Y kx tk) (hv:PE Y vx tv)
  (hs:∀x,foldedSetIterable iter Y.env x=pure x:=by intro _;rfl):PEm Y (emT (.DictComp kx vx [g1,⟨tg,iter,ifs,0⟩] scope pos) ⟨tg,iter,ifs,0⟩ (.ref D) Y.env) (zao6 wi g tt tk tv D):=by
 intro pins s σ H R I h
 unfold emT
 refine zaz2 (thn (hi pins s σ H _ I h) fun v s1 h1=>zaz2 (wpAny_standAt (zaz2 (wpAny_of_eq (hs v) (zaz2 (wpAny_holding (thn h1 fun itv s2 h2=>?_)))))))
 obtain⟨it,fp,tn,J,H2,e,I2,T,st2,f2,W,⟨m0,w0⟩,turn⟩:=h2
 subst e
 refine zaz2 (wpAny_runOwn ?_)
 have stat:∀ {H':Hp},(∀b∈fp,H' b=none)→∀b∈fp,FpOk Y pins H' b:=fun hn b hb=>⟨hn b hb,(f2 b hb).2⟩
 have loop:∀s2',Inv Y pins σ H2 s2'→tn 0 s2'.heap→codeAny (model Y.prog Y.w) Y.A (.compLoop (.DictComp kx vx [g1,⟨tg,iter,ifs,0⟩] scope pos) 1 (.ref it) (.ref D) Y.env)
   (fun r s'=>match r with | .ok f=>wpAny (model Y.prog Y.w) Y.A (pure ()) (fun _ s' => ∃σ' H',Inv Y pins σ' H' s'∧R σ' H') Y.xe s' | .error e=>cameBackBy (model Y.prog Y.w) Y.A Y.env Y.xe e s') s2':=by
  intro s2' I2' st2'
  refine zn0 (do
      let kv ← eval kx Y.env
      let vv ← holding [kv] (eval vx Y.env)
      standAt { kx.pos with endLine:=vx.pos.endLine,endCol:=vx.pos.endCol }
      holding [kv,vv] (dictSet D kv vv)) zae1 (fun n s' => ∃i σ' H',Inv Y pins σ' H' s'∧tn i s'.heap∧(∀b∈fp,H' b=none)∧W i n σ' H') ?_ m0 ⟨0,_,_,I2',st2',fun b hb=>(f2 b hb).1,w0⟩
  rintro n s3 ⟨i,σ3,H3,I5,st3,fr3,w3⟩
  rcases turn i n σ3 H3 w3 with ⟨stop,qn⟩ | ⟨go,N,hNN,step⟩
  ·refine thn (T.done Y rfl rfl rfl yc i pins s3 σ3 H3 (fun _ _=>False) I5 (stat fr3) st3 stop) fun r s4 ⟨hr,I6⟩=>?_
   subst hr
   exact zba5 ⟨σ3,H3,I6,qn⟩
  ·refine thn (T.item Y rfl rfl rfl yc i pins s3 σ3 H3 (fun _ _=>False) I5 (stat fr3) st3 go) fun r s4 ⟨u,hr,h4⟩=>?_
   subst hr
   refine thn h4 fun _ s5 ⟨x,H5,I6,r5,y5,st5,fr5⟩=>?_
   have I6':=I6.pinned (stat fr5) (T.obj _ _ st5)
   have a:=hg _ s5 σ3 H5 x u _ I6' r5 (step x H5 y5)
   rw [yx]at a
   refine thn a fun _ s6 ⟨σ6,H6,I7,q6⟩=>?_
   have b:=ht _ s6 σ6 H6 _ I7 q6
   rw [yx]at b
   refine thn b fun ok s7 ⟨H7,I8,q7⟩=>?_
   have again:∀ {s9:zaz0}{H9:Hp},Inv Y (pins++zm5 fp s5.heap) σ6 H9 s9→N σ6 H9→∃m,m<n∧∃i σ' H',Inv Y pins σ' H' s9∧tn i s9.heap∧(∀b∈fp,H' b=none)∧W i m σ' H':=fun {s9 H9} I9 n9=>by
    obtain⟨m',hm,w9⟩:=hNN σ6 H9 n9
    refine⟨m',hm,i+1,σ6,H9,I9.unpinned,T.keep _ _ _ st5 fun b hb o e=>(I9.pin (b,o) (zax6 _ (zax6 _ (zd5 hb e)))).1,fun b hb=>?_,w9⟩
    obtain⟨o,e,d⟩:=T.obj _ _ st5 b hb
    exact (I9.pin (b,o) (zax6 _ (zax6 _ (zd5 hb e)))).2.1
   cases ok with
   |false=>exact iteF (again I8 (by simpa using q7))
   |true =>
    rw [if_pos rfl]at q7
    refine iteT ?_
    have c:=hk _ s7 σ6 H7 _ I8 q7
    rw [yx]at c
    refine zaz2 (thn c fun kv s8 ⟨vk,H8,I9,rk,q9⟩=>zaz2 (wpAny_holding ?_))
    have d:=hv _ s8 σ6 H8 _ I9 q9
    rw [yx]at d
    refine thn d fun vv s9 ⟨vy,H9,I10,rv,kvs,kk,ek,hD,hl,n9⟩=>zaz2 (wpAny_standAt (wpAny_holding ?_))
    subst ek
    exact d_set I10 hD rk rv hl fun s' I11=>again I11 n9
 exact zo0 (loop s2 I2 st2) (T.self _ 0 _ _ _ st2 (loop s2 I2 st2))
theorem zar4 {X:Cx}{kx vx tg iter:Expr}{ifs:List Expr}{scope:Scope}{pos:Pos}{n:Nat}{cap:List Nat}{N':List Str}{wi:TI}{g:TG}{tt:TT}{em:EMS}{g2:Comprehension} (S:CompSc X scope) (hc:X.calm=true) (hi:PI X tg iter wi)
  (hN:N'.length=n+cap.length) (hcap:∀(k:Nat) (j:Nat),cap[k]?=some j→∃x,N'[n+k]?=some x∧X.N[j]?=some x∧(x,NameKind.free)∈scope.names)
  (hg:∀C s₃ H₃ fp pins,PG (blk X N' scope C s₃ H₃ fp pins) tg g) (ht:∀C s₃ H₃ fp pins,PTs (blk X N' scope C s₃ H₃ fp pins) ifs tt) (he:∀C s₃ H₃ fp pins D,PEm (blk X N' scope C s₃ H₃ fp pins) (emT (.DictComp kx vx [⟨tg,iter,ifs,0⟩,g2] scope pos) g2 (.ref D) (blk X N' scope C s₃ H₃ fp pins).env) (em D))
  (h2:g2.is_async=0) (hs:∀x,foldedSetIterable iter X.env x=pure x:=by intro _;rfl):PE X (.DictComp kx vx [⟨tg,iter,ifs,0⟩,g2] scope pos) (zao7 n cap wi g tt em):=by
 intro pins s σ H Q I h
 rw [arm_eval_DictComp]
 refine wpAny_comprehension_free (use:=none) rfl hs (zn8 (S.frees I.ok)) S.kind (fun x hx hl=>by rw [S.names x hx,hl]) (thn (hi pins s σ H _ I h) fun v s1 h1=>thn h1 fun itv s2 h2=>?_)
 obtain⟨it,fp,tn,J,H2,e,I2,T,st2,f2,R⟩:=h2
 subst e
 have lt2:∀b∈fp,b<s2.heap.objs.size:=fun b hb=>by obtain⟨o,e,_⟩:=T.obj _ _ st2 b hb;exact zaz5 e
 have hD:H2 s2.heap.objs.size=none:=I2.fresh
 obtain⟨W,⟨m0,w0⟩,turn⟩:=R s2.heap.objs.size hD
 have I3:Inv X pins σ (upd H2 s2.heap.objs.size (.dK [])) { s2 with heap:=s2.heap.push { cls:=.type "dict",data:=.dict #[] },toks:=s2.toks }:=I2.laid (a:=s2.heap.objs.size) (o:=.dK []) (t':=s2.toks) (fun _ _ q=>zay6 _ q) (zba1 _) (zaa4 s2.heap I2.big)
 have f3:∀b∈fp,FpOk X pins (upd H2 s2.heap.objs.size (.dK [])) b:=fun b hb=>⟨by rw [zb3 (zba4 (lt2 b hb))];exact (f2 b hb).1,(f2 b hb).2⟩
 refine wpAny_newObj_type (zg8 fun h₁ hns₁ hk hcl₁=>?_)
 have lt3:∀b∈fp,b<(s2.heap.push { cls:=.type "dict",data:=.dict #[] }).objs.size:=fun b hb=>by rw [zbg9];exact zbf0 (lt2 b hb)
 have I4:Inv (blk X N' scope (s2.heap.push { cls:=.type "dict",data:=.dict #[] }).objs.size { s2 with heap:=s2.heap.push { cls:=.type "dict",data:=.dict #[] },toks:=s2.toks } (upd H2 s2.heap.objs.size (.dK [])) fp pins) [] (capV n cap σ) (upd H2 s2.heap.objs.size (.dK [])) { s2 with heap:=h₁,toks:=s2.toks } :=
  zaa7 I3 S hc f3 lt3 (t1:=s2.toks) hns₁ hk hcl₁ (by simp [capV,hN]) (fun i x v e1 e2=>by
   unfold capV at e2
   by_cases hi:i<n
   ·rw [zbc8 (by simpa using hi),zbd5]at e2
    split at e2<;>cases e2
   ·rw [zbc4 (by simpa using hi),zbe2,zbb2]at e2
    cases ej:cap[i - n]? with
    |none=>rw [ej]at e2;cases e2
    |some j =>
     rw [ej]at e2
     obtain⟨x',a1,a2,a3⟩:=hcap (i - n) j ej
     have:n+(i - n)=i:=by lia
     rw [this,e1]at a1
     cases a1
     refine⟨a3,j,a2,?_⟩
     have e2:(σ[j]?).getD none=some v:=by simpa using e2
     cases q:σ[j]? with
     |none=>rw [q]at e2;cases e2
     |some z=>rw [q]at e2;have:z=some v:=e2;rw [this])
 have loop:codeAny (model X.prog X.w) X.A (.compLoop (.DictComp kx vx [⟨tg,iter,ifs,0⟩,g2] scope pos) 0 (.ref it) (.ref s2.heap.objs.size) (compEnvC scope (cellsFrom ((s2.heap.push { cls:=.type "dict",data:=.dict #[] }).objs.size+1) scope.names (clOf X.env.cells scope.names [])) (s2.heap.push { cls:=.type "dict",data:=.dict #[] }).objs.size X.env))
   (compPost (model X.prog X.w) X.A X.xe none (EP X pins σ Q) (.ref s2.heap.objs.size) (s2.heap.push { cls:=.type "dict",data:=.dict #[] }).objs.size) { s2 with heap:=h₁,toks:=s2.toks }:=by
  generalize hY:(blk X N' scope (s2.heap.push { cls:=.type "dict",data:=.dict #[] }).objs.size { s2 with heap:=s2.heap.push { cls:=.type "dict",data:=.dict #[] },toks:=s2.toks } (upd H2 s2.heap.objs.size (.dK [])) fp pins)=Y at I4
  have st4:tn 0 h₁:=T.keep _ _ _ st2 fun b hb o e=>hk b o (zay6 _ e)
  have stat:∀ {H':Hp},(∀b∈fp,H' b=none)→∀b∈fp,FpOk Y [] H' b:=fun hn b hb=>by
   subst hY
   obtain⟨f0,f1,f2',f3',f4,f5⟩:=f3 b hb
   exact⟨hn b hb,zba4 (lt3 b hb),fun z=>(zay5.mp (I3.stkSub b z)).elim f1 f2',.inl hb,fun x c e=>(by
    rcases S.old I3 e with z | z
    ·exact f4 x c z
    ·exact zbi3 (zbi4 (lt3 b hb) z)),fun p hp=>f5 p (by simpa using hp)⟩
  have hgY:PG Y tg g:=hY ▸ hg _ _ _ _ _
  have htY:PTs Y ifs tt:=hY ▸ ht _ _ _ _ _
  have heY:PEm Y (emT (.DictComp kx vx [⟨tg,iter,ifs,0⟩,g2] scope pos) g2 (.ref s2.heap.objs.size) Y.env) (em s2.heap.objs.size):=by subst hY;exact he _ _ _ _ _ _
  have yp:Y.prog=X.prog:=by subst hY;rfl
  have yw:Y.w=X.w:=by subst hY;rfl
  have yK:Y.K=X.K:=by subst hY;rfl
  have yA:Y.A=X.A:=by subst hY;rfl
  have yc:Y.calm=true:=by subst hY;rfl
  have yx:Y.xe=fun _ _=>False:=by subst hY;rfl
  have ye:Y.env=compEnvC scope (cellsFrom ((s2.heap.push { cls:=.type "dict",data:=.dict #[] }).objs.size+1) scope.names (clOf X.env.cells scope.names [])) (s2.heap.push { cls:=.type "dict",data:=.dict #[] }).objs.size X.env:=by subst hY;rfl
  rw [← ye]
  refine zn0 (emT (.DictComp kx vx [⟨tg,iter,ifs,0⟩,g2] scope pos) g2 (.ref s2.heap.objs.size) Y.env) (zae2 h2) (fun n s' => ∃i σ' H',Inv Y [] σ' H' s'∧tn i s'.heap∧(∀b∈fp,H' b=none)∧W i n σ' H') ?_ m0 ⟨0,_,_,I4,st4,fun b hb=>(f3 b hb).1,w0⟩
  rintro n s3 ⟨i,σ3,H3,I5,st3,fr3,w3⟩
  rcases turn i n σ3 H3 w3 with ⟨stop,qn⟩ | ⟨go,N,hNN,step⟩
  ·have d:=T.done Y yp yw yK yc i [] s3 σ3 H3 (fun _ _=>False) I5 (stat fr3) st3 stop
   rw [yA]at d
   refine thn d fun r s4 ⟨hr,I6⟩=>?_
   subst hr
   obtain⟨m,hm,_⟩:=I6.loc
   rw [ye]at hm
   refine⟨m,hm,fun h' hb=>⟨.ref s2.heap.objs.size,H3,?_,rfl,qn⟩⟩
   subst hY
   exact zt3 I3 f3 rfl I6 hb
  ·have d:=T.item Y yp yw yK yc i [] s3 σ3 H3 (fun _ _=>False) I5 (stat fr3) st3 go
   rw [yA]at d
   refine thn d fun r s4 ⟨u,hr,h4⟩=>?_
   subst hr
   refine thn h4 fun _ s5 ⟨x,H5,I6,r5,y5,st5,fr5⟩=>?_
   have I6':=I6.pinned (stat fr5) (T.obj _ _ st5)
   have a:=hgY _ s5 σ3 H5 x u _ I6' r5 (step x H5 y5)
   rw [yp,yw,yA,yx]at a
   refine thn a fun _ s6 ⟨σ6,H6,I7,q6⟩=>?_
   have b:=htY _ s6 σ6 H6 _ I7 q6
   rw [yp,yw,yA,yx]at b
   refine thn b fun ok s7 ⟨H7,I8,q7⟩=>?_
   have again:∀ {s9:zaz0}{σ9:L2.St}{H9:Hp},Inv Y ([]++zm5 fp s5.heap) σ9 H9 s9→N σ9 H9→∃m,m<n∧∃i σ' H',Inv Y [] σ' H' s9∧tn i s9.heap∧(∀b∈fp,H' b=none)∧W i m σ' H':=fun {s9 σ9 H9} I9 n9=>by
    obtain⟨m',hm,w9⟩:=hNN σ9 H9 n9
    refine⟨m',hm,i+1,σ9,H9,I9.unpinned,T.keep _ _ _ st5 fun b hb o e=>(I9.pin (b,o) (zax6 _ (zax6 _ (zd5 hb e)))).1,fun b hb=>?_,w9⟩
    obtain⟨o,e,d⟩:=T.obj _ _ st5 b hb
    exact (I9.pin (b,o) (zax6 _ (zax6 _ (zd5 hb e)))).2.1
   cases ok with
   |false=>exact iteF (again I8 (by simpa using q7))
   |true =>
    rw [if_pos rfl]at q7
    refine iteT ?_
    have c:=heY _ s7 σ6 H7 _ I8 q7
    rw [yp,yw,yA,yx]at c
    exact thn c fun _ s8 ⟨σ8,H8,I9,n9⟩=>again I9 n9
 exact codeAny_compStart_dict loop (T.self _ 0 _ _ _ (T.keep _ _ _ st2 fun b hb o e=>hk b o (zay6 _ e)) loop)
end L2
namespace DL
open PySem.Spec L2
abbrev KD:=List Key×List D
noncomputable def stKD (a:KD) (x y:Ev):Option KD:=match keyD x.d with
 |some kk=>if scD y.d&&decide (a.1.length<50000) then some (zh3 a.1 a.2 kk y.d) else none
 |none=>none
noncomputable def zj9 (k:D→Th→Option Th) (ft:DT) (fk fv:DE):List D→Th→KD→Option (KD×Th)
 |[],t,a=>some (a,t)
 |d::ds,t,a=>(k d t).bind fun t1=>(ft t1).bind fun b=>if b then (fk t1).bind fun x=>(fv t1).bind fun y=>(stKD a x y).bind fun a1=>zj9 k ft fk fv ds t1 a1 else zj9 k ft fk fv ds t1 a
noncomputable def zk0 (k:D→Th→Option Th) (ft:DT) (fs2:DI) (k2:D→Th→Option Th) (ft2:DT) (fk fv:DE):List D→Th→KD→Option KD
 |[],_,a=>some a
 |d::ds,t,a=>(k d t).bind fun t1=>(ft t1).bind fun b=>if b then (fs2 t1).bind fun q=>(zj9 k2 ft2 fk fv q.2 t1 a).bind fun p=>zk0 k ft fs2 k2 ft2 fk fv ds p.2 p.1 else zk0 k ft fs2 k2 ft2 fk fv ds t1 a
noncomputable def zv5 (n:Nat) (cap:List Nat) (fs:DI) (k:D→Th→Option Th) (ft:DT) (fs2:DI) (k2:D→Th→Option Th) (ft2:DT) (fk fv:DE):DE:=fun t=>(fs t).bind fun q=>(capD t cap).bind fun c =>
 (zk0 k ft fs2 k2 ft2 fk fv q.2 (zaz6 n Sl.no++c.2.map Sl.val) ([],[])).map fun a=>.dn (.dct a.1 a.2)
def mK (kvs:List (Key×V)):MO:=⟨.dK kvs,rfl⟩
theorem RS.updFK {K:zax7}{P:List Addr}{H:Hp}{t:Th}{σ:L2.St}{p:Addr}{kvs:List (Key×V)} (R:RS K P H [] t σ) (hp:p∈P):RS K P (upd H p (.dK kvs)) [] t σ where
 mu:=fun q hq=>by
  by_cases z:q=p
  ·exact⟨mK kvs,by rw [z];exact za9⟩
  ·obtain⟨us,w⟩:=R.mu q hq
   exact⟨us,by rw [zb3 z];exact w⟩
 nd:=zba8
 dj:=fun p hp=>by cases hp
 rel:=RSl.mono (zc9 hp) R.rel fun q hq=>by cases hq
def OkKD (a:KD):Prop:=a.1.length=a.2.length∧a.2.all scD=true
abbrev kvKD (a:KD):List (Key×V):=mkKV a.1 (a.2.map sV)
theorem zam3 {X:Cx}{F:List Addr}{n:Nat}{cap:List Nat}{fs fs2:DI}{g g2:TG}{kt kt2:D→Th→Option Th}{ft ft2:DT}{fk fv:DE} (hk:∀F',TgOk X.K F' g kt) (hk2:∀F',TgOk X.K F' g2 kt2) {σ:L2.St}{H:Hp}{Q:VK} (h:dE X.K F (zv5 n cap fs kt ft fs2 kt2 ft2 fk fv) σ H Q) :
  zao7 n cap (dI X.K F fs) g (fun σ H Q => ∃F',dT X.K F' ft σ H Q) (zao6 (fun σ H R => ∃F',dI X.K F' fs2 σ H R) g2 (fun σ H Q => ∃F',dT X.K F' ft2 σ H Q) (fun σ H Q => ∃F',dE X.K F' fk σ H Q) (fun σ H Q => ∃F',dE X.K F' fv σ H Q)) σ H Q:=by
 obtain⟨A,t,r,R,e,h⟩:=h
 unfold zv5 at e
 cases e1:fs t with
 |none=>rw [e1]at e;cases e
 |some q =>
  obtain⟨b,ds⟩:=q
  cases e2:capD t cap with
  |none=>rw [e1,e2]at e;cases e
  |some q2 =>
   obtain⟨c,caps⟩:=q2
   rw [e1,e2]at e
   simp only [zay2]at e
   cases e3:zk0 kt ft fs2 kt2 ft2 fk fv ds (zaz6 n Sl.no++caps.map Sl.val) ([],[]) with
   |none=>rw [e3]at e;cases e
   |some xs =>
    rw [e3]at e
    cases e
    obtain⟨cvs,cv1,cv2⟩:=zq6 R e2
    obtain⟨F',F'def⟩:∃F',F'=hidF (b&&c) A F:=⟨_,rfl⟩
    have subF:∀x∈F',x∈A++F:=fun x hx=>by
     rw [F'def]at hx
     unfold hidF at hx
     split at hx
     ·exact hx
     ·exact zax6 _ hx
    have lessB:∀H:Hp,Same (hide (hidF b A F) H) (hide F' H):=fun H=>za7 H fun x hx=>by
     rw [F'def]at hx
     cases b<;>cases c<;>simp [hidF]at hx ⊢<;>first | exact hx | exact .inr hx | (rcases hx with z | z<;>simp [z])
    have lessC:∀H:Hp,Same (hide (hidF c A F) H) (hide F' H):=fun H=>za7 H fun x hx=>by
     rw [F'def]at hx
     cases b<;>cases c<;>simp [hidF]at hx ⊢<;>first | exact hx | exact .inr hx | (rcases hx with z | z<;>simp [z])
    refine⟨A,t,b,ds,R,e1,fun J H1 Good gs src gd Dd hD=>?_⟩
    have H1A:Lists H1 (A++F):=R.mu.mono gs
    have st0:Same (hide F' H1) (hide (Dd::F') (upd H1 Dd (.dK []))):=zh2 hD
    refine⟨fun i m σ' H'=>i+m=ds.length∧∃th a,RS X.K (Dd::F') H' [] th σ'∧zk0 kt ft fs2 kt2 ft2 fk fv (ds.drop i) th a=some xs∧H' Dd=some (.dK (kvKD a))∧OkKD a∧Same H1 H'∧Good (Dd::F') H',
     ⟨ds.length,by lia,_,([],[]),⟨?_,zba8,fun p hp=>(by cases hp),?_⟩,by simpa using e3,za9,⟨rfl,rfl⟩,zc5 hD,src.keep _ _ _ _ gd (fun b o z=>st0 _ _ (lessB _ _ _ z))⟩,?_⟩
    ·intro q hq
     have hq:q∈Dd::F':=hq
     rcases zay5.mp hq with z | z
     ·exact⟨mK [],by rw [z];exact za9⟩
     ·obtain⟨us,w⟩:=H1A q (subF q z)
      exact⟨us,(zc5 hD) _ _ w⟩
    ·unfold capV
     rw [cv1]
     exact RSl.noVals (Reps.mono (fun b o z=>st0 _ _ (lessC H1 _ _ (za8 gs _ _ z))) cv2) n
    ·rintro i m σ' H' ⟨hm,th,a,RR,ec,hv,ok,sm,gg⟩
     cases m with
     |zero =>
      have z:i=ds.length:=by lia
      subst z
      rw [zbf3]at ec
      cases ec
      exact .inl ⟨src.stop _ _ gg,h _ H' (gs.trans sm) ⟨[Dd],by simp,fun b hb=>by simp at hb;subst hb;exact Same.free gs hD,.dct (vs:=xs.2.map sV) (by simpa using ok.1) hv (zaj7 ok.2)⟩⟩
     |succ m =>
      have hil:i<ds.length:=by lia
      refine .inr ⟨src.go _ _ i gg hil,fun σ' H'=>i+1+m=ds.length∧∃th a,RS X.K (Dd::F') H' [] th σ'∧zk0 kt ft fs2 kt2 ft2 fk fv (ds.drop (i+1)) th a=some xs∧H' Dd=some (.dK (kvKD a))∧OkKD a∧Same H1 H'∧Good (Dd::F') H',
       fun σ' H' q=>⟨m,zbc5 m,q⟩,fun x H2 y=>?_⟩
      obtain⟨gs2,d,hd,rd⟩:=src.yld _ _ i x H2 gg RR.mu y hil
      have ed:ds.drop i=d::ds.drop (i+1):=by
       have hd':ds[i]=d:=by
        rw [zay3 hil]at hd
        exact Option.some.inj hd
       rw [← hd']
       exact zbb4 hil
      rw [ed]at ec
      unfold zk0 at ec
      cases k1:kt d th with
      |none=>rw [k1]at ec;cases ec
      |some t1 =>
       rw [k1]at ec
       simp only [zay2]at ec
       refine hk (Dd::F') σ' H2 [] th t1 d x _ (RR.grow gs2) rd k1 fun σ2 A2 gr2 R2=>?_
       have A20:=zk3 R2 gr2
       subst A20
       cases k2:ft t1 with
       |none=>rw [k2]at ec;cases ec
       |some bb =>
        rw [k2]at ec
        simp only [zay2]at ec
        refine⟨Dd::F',[],t1,bb,R2,k2,fun H3 gs3=>?_⟩
        cases bb with
        |false =>
         refine iteF ⟨by lia,t1,a,R2.grow gs3,by simpa using ec,gs3 _ _ (gs2 _ _ hv),ok,(sm.trans gs2).trans gs3,src.keep _ _ _ _ gg (za8 (gs2.trans gs3))⟩
        |true =>
         simp only [if_true]at ec
         cases k3:fs2 t1 with
         |none=>rw [k3]at ec;cases ec
         |some q2 =>
          obtain⟨b2,ds2⟩:=q2
          rw [k3]at ec
          simp only [zay2]at ec
          cases k4:zj9 kt2 ft2 fk fv ds2 t1 a with
          |none=>rw [k4]at ec;cases ec
          |some pp =>
           obtain⟨aE,tE⟩:=pp
           rw [k4]at ec
           simp only [zay2]at ec
           have k5:=ec
           refine iteT ⟨Dd::F',[],t1,b2,ds2,R2.grow gs3,k3,fun J2 H4 Good2 gs4 src2 gd2=>?_⟩
           have gd2:Good2 (Dd::F') H4:=by
            have e9:hidF b2 [] (Dd::F')=Dd::F':=by unfold hidF;split<;>simp
            rw [e9]at gd2;exact gd2
           have s4:=(gs2.trans gs3).trans gs4
           refine⟨fun j k σj Hj=>j+k=ds2.length∧∃tj aj,RS X.K (Dd::F') Hj [] tj σj∧zj9 kt2 ft2 fk fv (ds2.drop j) tj aj=some (aE,tE)∧Hj Dd=some (.dK (kvKD aj))∧OkKD aj∧Same H1 Hj∧Good (Dd::F') Hj∧Good2 (Dd::F') Hj,
            ⟨ds2.length,by lia,t1,a,(R2.grow gs3).grow gs4,by simpa using k4,s4 _ _ hv,ok,sm.trans s4,src.keep _ _ _ _ gg (za8 s4),gd2⟩,?_⟩
           rintro j k σj Hj ⟨hjk,tj,aj,Rj,ej,hvj,okj,smj,ggj,gg2⟩
           cases k with
           |zero =>
            have z:j=ds2.length:=by lia
            subst z
            rw [zbf3]at ej
            cases ej
            exact .inl ⟨src2.stop _ _ gg2,by lia,_,_,Rj,k5,hvj,okj,smj,ggj⟩
           |succ k =>
            have hjl:j<ds2.length:=by lia
            refine .inr ⟨src2.go _ _ j gg2 hjl,fun σj Hj=>j+1+k=ds2.length∧∃tj aj,RS X.K (Dd::F') Hj [] tj σj∧zj9 kt2 ft2 fk fv (ds2.drop (j+1)) tj aj=some (aE,tE)∧Hj Dd=some (.dK (kvKD aj))∧OkKD aj∧Same H1 Hj∧Good (Dd::F') Hj∧Good2 (Dd::F') Hj,
             fun σ' H' q=>⟨k,zbc5 k,q⟩,fun xj H5 yj=>?_⟩
            obtain⟨gs5,dj,hdj,rdj⟩:=src2.yld _ _ j xj H5 gg2 Rj.mu yj hjl
            have edj:ds2.drop j=dj::ds2.drop (j+1):=by
             have hd':ds2[j]=dj:=by
              rw [zay3 hjl]at hdj
              exact Option.some.inj hdj
             rw [← hd']
             exact zbb4 hjl
            rw [edj]at ej
            unfold zj9 at ej
            cases w1:kt2 dj tj with
            |none=>rw [w1]at ej;cases ej
            |some t6 =>
             rw [w1]at ej
             simp only [zay2]at ej
             refine hk2 (Dd::F') σj H5 [] tj t6 dj xj _ (Rj.grow gs5) rdj w1 fun σ6 A6 gr6 R6=>?_
             have A60:=zk3 R6 gr6
             subst A60
             cases w2:ft2 t6 with
             |none=>rw [w2]at ej;cases ej
             |some b6 =>
              rw [w2]at ej
              simp only [zay2]at ej
              refine⟨Dd::F',[],t6,b6,R6,w2,fun H6 gs6=>?_⟩
              cases b6 with
              |false =>
               exact iteF ⟨by lia,t6,aj,R6.grow gs6,by simpa using ej,gs6 _ _ (gs5 _ _ hvj),okj,(smj.trans gs5).trans gs6,src.keep _ _ _ _ ggj (za8 (gs5.trans gs6)),src2.keep _ _ _ _ gg2 (za8 (gs5.trans gs6))⟩
              |true =>
               simp only [if_true]at ej
               cases w3:fk t6 with
               |none=>rw [w3]at ej;cases ej
               |some rk =>
                rw [w3]at ej
                simp only [zay2]at ej
                cases w4:fv t6 with
                |none=>rw [w4]at ej;cases ej
                |some rv =>
                 rw [w4]at ej
                 simp only [zay2]at ej
                 cases w5:stKD aj rk rv with
                 |none=>rw [w5]at ej;cases ej
                 |some a1 =>
                  rw [w5]at ej
                  simp only [zay2]at ej
                  unfold stKD at w5
                  split at w5
                  case h_2=>cases w5
                  rename_i kk ek
                  split at w5
                  case isFalse=>cases w5
                  rename_i c5
                  rw [zay4,decide_eq_true_eq]at c5
                  cases w5
                  refine iteT ⟨Dd::F',[],t6,rk,R6.grow gs6,w3,fun x H7 gs7 q7=>⟨Dd::F',[],t6,rv,(R6.grow gs6).grow gs7,w4,fun y H8 gs8 q8=>?_⟩⟩
                  have ex:=zz7 q7.full ek
                  have ey:=rep_sc q8.full c5.1
                  subst ex ey
                  have s8:=((gs5.trans gs6).trans gs7).trans gs8
                  obtain⟨pz,pl⟩:=put_zip kk rv.d okj.1
                  have hu:Same (hide (Dd::F') H8) (hide (Dd::F') (upd H8 Dd (.dK (putK (kvKD aj) kk (sV rv.d))))):=zc9 (zay1 ..)
                  refine⟨kvKD aj,kk,rfl,s8 _ _ hvj,?_,by lia,t6,zh3 aj.1 aj.2 kk rv.d,RS.updFK (((R6.grow gs6).grow gs7).grow gs8) (zay1 ..),ej,?_,⟨pl,put_sc c5.1 okj.2⟩,?_,?_,?_⟩
                  ·unfold kvKD mkKV
                   rw [zbg1]
                   exact zba2 (zbj3 _ _) (zay8 c5.2 (by rw [sizeLine_eq];decide))
                  ·rw [za9];exact congrArg (fun z=>some (HO.dK z)) pz
                  ·exact fun b o z=>by
                    rw [zb3 (fun w=>by rw [w,hD]at z;cases z)]
                    exact s8 _ _ (smj _ _ z)
                  ·exact src.keep _ _ _ _ ggj (fun b o z=>hu _ _ (za8 s8 _ _ z))
                  ·exact src2.keep _ _ _ _ gg2 (fun b o z=>hu _ _ (za8 s8 _ _ z))
theorem zah1 {X:Cx}{F:List Addr}{kx vx tg iter tg2 iter2:Expr}{ifs ifs2:List Expr}{scope:Scope}{pos:Pos}{fs fs2:DI}{g g2:TG}{kt kt2:D→Th→Option Th}{ft ft2:DT}{fk fv:DE} (n:Nat) (cap:List Nat) (N':List Str) (hc:X.calm=true) (hi:PI X tg iter (dI X.K F fs))
  (hg:∀C s₃ H₃ fp pins,PG (blk X N' scope C s₃ H₃ fp pins) tg g) (hk:∀F',TgOk X.K F' g kt) (ht:∀C s₃ H₃ fp pins F',PTs (blk X N' scope C s₃ H₃ fp pins) ifs (dT X.K F' ft))
  (hi2:∀C s₃ H₃ fp pins F',PI (blk X N' scope C s₃ H₃ fp pins) tg2 iter2 (dI X.K F' fs2)) (hg2:∀C s₃ H₃ fp pins,PG (blk X N' scope C s₃ H₃ fp pins) tg2 g2) (hk2:∀F',TgOk X.K F' g2 kt2) (ht2:∀C s₃ H₃ fp pins F',PTs (blk X N' scope C s₃ H₃ fp pins) ifs2 (dT X.K F' ft2))
  (hkx:∀C s₃ H₃ fp pins F',PE (blk X N' scope C s₃ H₃ fp pins) kx (dE X.K F' fk)) (hvx:∀C s₃ H₃ fp pins F',PE (blk X N' scope C s₃ H₃ fp pins) vx (dE X.K F' fv))
  (hkd:scope.kind=.function:=by rfl) (hcs:zs2 scope.names X.env.kindOf=true:=by rfl) (hN:N'.length=n+cap.length:=by rfl) (hcap:zw9 N' X.N n scope.names 0 cap=true:=by rfl)
  (hs:∀x,foldedSetIterable iter X.env x=pure x:=by intro _;rfl) (hs2:∀C s₃ H₃ fp pins x,foldedSetIterable iter2 (blk X N' scope C s₃ H₃ fp pins).env x=pure x:=by intros;rfl) :
  PE X (.DictComp kx vx [⟨tg,iter,ifs,0⟩,⟨tg2,iter2,ifs2,0⟩] scope pos) (dE X.K F (zv5 n cap fs kt ft fs2 kt2 ft2 fk fv)) :=
 PE.imp (zar4 (g:=g) (zae3 hkd hcs) hc hi hN (fun k j e=>by simpa using zn9 hcap k j e) hg (fun C s₃ H₃ fp pins pins' s σ H Q I ⟨F',q⟩=>ht C s₃ H₃ fp pins F' pins' s σ H Q I q)
  (fun C s₃ H₃ fp pins D=>zam6 rfl rfl (fun pins' s σ H R I ⟨F',q⟩=>hi2 C s₃ H₃ fp pins F' pins' s σ H R I q) (hg2 C s₃ H₃ fp pins) (fun pins' s σ H Q I ⟨F',q⟩=>ht2 C s₃ H₃ fp pins F' pins' s σ H Q I q) (fun pins' s σ H Q I ⟨F',q⟩=>hkx C s₃ H₃ fp pins F' pins' s σ H Q I q) (fun pins' s σ H Q I ⟨F',q⟩=>hvx C s₃ H₃ fp pins F' pins' s σ H Q I q) (hs2 C s₃ H₃ fp pins)) rfl hs) fun _ _ _ h=>zam3 hk hk2 h
def zav5:DS:=fun _=>none
theorem zap7 {X:Cx}{F:List Addr}{st:Stmt}:PS X st (dS X.K F zav5):=by
 intro E pins s σ H I h
 obtain⟨A,t,o,R,e,h⟩:=h
 cases e
end DL
namespace L2
open PySem.Spec
noncomputable def tCompD (n:Nat) (cap:List Nat) (wi:TI) (g:TG) (tt:TT) (tk tv:TE):TE:=fun σ H Q=>wi σ H fun J H1 => ∀D,H1 D=none→∃W:Nat→Nat→L2.St→Hp→Prop,(∃m,W 0 m (capV n cap σ) (upd H1 D (.dK [])))∧∀i m σ' H',W i m σ' H' →
 (J.stop i H'∧Q (.ref D) H')∨(J.go i H'∧∃N:L2.St→Hp→Prop,(∀σ'' H'',N σ'' H''→∃m',m' < m∧W (i+1) m' σ'' H'')∧∀x H2,J.yld i H' x H2→g x σ' H2 fun σ2 H3=>tt σ2 H3 fun b H4 =>
  if b=true then tk σ2 H4 fun x H5=>tv σ2 H5 fun y H6 => ∃kvs k,x=kV k∧H6 D=some (.dK kvs)∧kvs.length<sizeLine∧N σ2 (upd H6 D (.dK (putK kvs k y))) else N σ2 H4)
theorem pe_compD {X:Cx}{kx vx tg iter:Expr}{ifs:List Expr}{scope:Scope}{pos:Pos}{n:Nat}{cap:List Nat}{N':List Str}{wi:TI}{g:TG}{tt:TT}{tk tv:TE} (S:CompSc X scope) (hc:X.calm=true) (hi:PI X tg iter wi)
  (hN:N'.length=n+cap.length) (hcap:∀(k:Nat) (j:Nat),cap[k]?=some j→∃x,N'[n+k]?=some x∧X.N[j]?=some x∧(x,NameKind.free)∈scope.names)
  (hg:∀C s₃ H₃ fp pins,PG (blk X N' scope C s₃ H₃ fp pins) tg g) (ht:∀C s₃ H₃ fp pins,PTs (blk X N' scope C s₃ H₃ fp pins) ifs tt) (hkx:∀C s₃ H₃ fp pins,PE (blk X N' scope C s₃ H₃ fp pins) kx tk) (hvx:∀C s₃ H₃ fp pins,PE (blk X N' scope C s₃ H₃ fp pins) vx tv)
  (hs:∀x,foldedSetIterable iter X.env x=pure x:=by intro _;rfl):PE X (.DictComp kx vx [⟨tg,iter,ifs,0⟩] scope pos) (tCompD n cap wi g tt tk tv):=by
 intro pins s σ H Q I h
 rw [arm_eval_DictComp]
 refine wpAny_comprehension_free (use:=none) rfl hs (zn8 (S.frees I.ok)) S.kind (fun x hx hl=>by rw [S.names x hx,hl]) (thn (hi pins s σ H _ I h) fun v s1 h1=>thn h1 fun itv s2 h2=>?_)
 obtain⟨it,fp,tn,J,H2,e,I2,T,st2,f2,R⟩:=h2
 subst e
 have lt2:∀b∈fp,b<s2.heap.objs.size:=fun b hb=>by obtain⟨o,e,_⟩:=T.obj _ _ st2 b hb;exact zaz5 e
 have hD:H2 s2.heap.objs.size=none:=I2.fresh
 obtain⟨W,⟨m0,w0⟩,turn⟩:=R s2.heap.objs.size hD
 have I3:Inv X pins σ (upd H2 s2.heap.objs.size (.dK [])) { s2 with heap:=s2.heap.push { cls:=.type "dict",data:=.dict #[] },toks:=s2.toks }:=I2.laid (a:=s2.heap.objs.size) (o:=.dK []) (t':=s2.toks) (fun _ _ q=>zay6 _ q) (zba1 _) (zaa4 s2.heap I2.big)
 have f3:∀b∈fp,FpOk X pins (upd H2 s2.heap.objs.size (.dK [])) b:=fun b hb=>⟨by rw [zb3 (zba4 (lt2 b hb))];exact (f2 b hb).1,(f2 b hb).2⟩
 refine wpAny_newObj_type (zg8 fun h₁ hns₁ hk hcl₁=>?_)
 have lt3:∀b∈fp,b<(s2.heap.push { cls:=.type "dict",data:=.dict #[] }).objs.size:=fun b hb=>by rw [zbg9];exact zbf0 (lt2 b hb)
 have I4:Inv (blk X N' scope (s2.heap.push { cls:=.type "dict",data:=.dict #[] }).objs.size { s2 with heap:=s2.heap.push { cls:=.type "dict",data:=.dict #[] },toks:=s2.toks } (upd H2 s2.heap.objs.size (.dK [])) fp pins) [] (capV n cap σ) (upd H2 s2.heap.objs.size (.dK [])) { s2 with heap:=h₁,toks:=s2.toks } :=
  zaa7 I3 S hc f3 lt3 (t1:=s2.toks) hns₁ hk hcl₁ (by simp [capV,hN]) (fun i x v e1 e2=>by
   unfold capV at e2
   by_cases hi:i<n
   ·rw [zbc8 (by simpa using hi),zbd5]at e2
    split at e2<;>cases e2
   ·rw [zbc4 (by simpa using hi),zbe2,zbb2]at e2
    cases ej:cap[i - n]? with
    |none=>rw [ej]at e2;cases e2
    |some j =>
     rw [ej]at e2
     obtain⟨x',a1,a2,a3⟩:=hcap (i - n) j ej
     have:n+(i - n)=i:=by lia
     rw [this,e1]at a1
     cases a1
     refine⟨a3,j,a2,?_⟩
     have e2:(σ[j]?).getD none=some v:=by simpa using e2
     cases q:σ[j]? with
     |none=>rw [q]at e2;cases e2
     |some z=>rw [q]at e2;have:z=some v:=e2;rw [this])
 have loop:codeAny (model X.prog X.w) X.A (.compLoop (.DictComp kx vx [⟨tg,iter,ifs,0⟩] scope pos) 0 (.ref it) (.ref s2.heap.objs.size) (compEnvC scope (cellsFrom ((s2.heap.push { cls:=.type "dict",data:=.dict #[] }).objs.size+1) scope.names (clOf X.env.cells scope.names [])) (s2.heap.push { cls:=.type "dict",data:=.dict #[] }).objs.size X.env))
   (compPost (model X.prog X.w) X.A X.xe none (EP X pins σ Q) (.ref s2.heap.objs.size) (s2.heap.push { cls:=.type "dict",data:=.dict #[] }).objs.size) { s2 with heap:=h₁,toks:=s2.toks }:=by
  generalize hY:(blk X N' scope (s2.heap.push { cls:=.type "dict",data:=.dict #[] }).objs.size { s2 with heap:=s2.heap.push { cls:=.type "dict",data:=.dict #[] },toks:=s2.toks } (upd H2 s2.heap.objs.size (.dK [])) fp pins)=Y at I4
  have st4:tn 0 h₁:=T.keep _ _ _ st2 fun b hb o e=>hk b o (zay6 _ e)
  have stat:∀ {H':Hp},(∀b∈fp,H' b=none)→∀b∈fp,FpOk Y [] H' b:=fun hn b hb=>by
   subst hY
   obtain⟨f0,f1,f2',f3',f4,f5⟩:=f3 b hb
   exact⟨hn b hb,zba4 (lt3 b hb),fun z=>(zay5.mp (I3.stkSub b z)).elim f1 f2',.inl hb,fun x c e=>(by
    rcases S.old I3 e with z | z
    ·exact f4 x c z
    ·exact zbi3 (zbi4 (lt3 b hb) z)),fun p hp=>f5 p (by simpa using hp)⟩
  have hgY:PG Y tg g:=hY ▸ hg _ _ _ _ _
  have htY:PTs Y ifs tt:=hY ▸ ht _ _ _ _ _
  have hkY:PE Y kx tk:=hY ▸ hkx _ _ _ _ _
  have hvY:PE Y vx tv:=hY ▸ hvx _ _ _ _ _
  have yp:Y.prog=X.prog:=by subst hY;rfl
  have yw:Y.w=X.w:=by subst hY;rfl
  have yK:Y.K=X.K:=by subst hY;rfl
  have yA:Y.A=X.A:=by subst hY;rfl
  have yc:Y.calm=true:=by subst hY;rfl
  have yx:Y.xe=fun _ _=>False:=by subst hY;rfl
  have ye:Y.env=compEnvC scope (cellsFrom ((s2.heap.push { cls:=.type "dict",data:=.dict #[] }).objs.size+1) scope.names (clOf X.env.cells scope.names [])) (s2.heap.push { cls:=.type "dict",data:=.dict #[] }).objs.size X.env:=by subst hY;rfl
  rw [← ye]
  refine zn0 (do
      let kv ← eval kx Y.env
      let vv ← holding [kv] (eval vx Y.env)
      standAt { kx.pos with endLine:=vx.pos.endLine,endCol:=vx.pos.endCol }
      holding [kv,vv] (dictSet s2.heap.objs.size kv vv)) (compTurn_dict _ _ _ _ _ _ _ _ _ _) (fun n s' => ∃i σ' H',Inv Y [] σ' H' s'∧tn i s'.heap∧(∀b∈fp,H' b=none)∧W i n σ' H') ?_ m0 ⟨0,_,_,I4,st4,fun b hb=>(f3 b hb).1,w0⟩
  rintro n s3 ⟨i,σ3,H3,I5,st3,fr3,w3⟩
  rcases turn i n σ3 H3 w3 with ⟨stop,qn⟩ | ⟨go,N,hNN,step⟩
  ·have d:=T.done Y yp yw yK yc i [] s3 σ3 H3 (fun _ _=>False) I5 (stat fr3) st3 stop
   rw [yA]at d
   refine thn d fun r s4 ⟨hr,I6⟩=>?_
   subst hr
   obtain⟨m,hm,_⟩:=I6.loc
   rw [ye]at hm
   refine⟨m,hm,fun h' hb=>⟨.ref s2.heap.objs.size,H3,?_,rfl,qn⟩⟩
   subst hY
   exact zt3 I3 f3 rfl I6 hb
  ·have d:=T.item Y yp yw yK yc i [] s3 σ3 H3 (fun _ _=>False) I5 (stat fr3) st3 go
   rw [yA]at d
   refine thn d fun r s4 ⟨u,hr,h4⟩=>?_
   subst hr
   refine thn h4 fun _ s5 ⟨x,H5,I6,r5,y5,st5,fr5⟩=>?_
   have I6':=I6.pinned (stat fr5) (T.obj _ _ st5)
   have a:=hgY _ s5 σ3 H5 x u _ I6' r5 (step x H5 y5)
   rw [yp,yw,yA,yx]at a
   refine thn a fun _ s6 ⟨σ6,H6,I7,q6⟩=>?_
   have b:=htY _ s6 σ6 H6 _ I7 q6
   rw [yp,yw,yA,yx]at b
   refine thn b fun ok s7 ⟨H7,I8,q7⟩=>?_
   have again:∀ {s9:zaz0}{H9:Hp},Inv Y ([]++zm5 fp s5.heap) σ6 H9 s9→N σ6 H9→∃m,m<n∧∃i σ' H',Inv Y [] σ' H' s9∧tn i s9.heap∧(∀b∈fp,H' b=none)∧W i m σ' H':=fun {s9 H9} I9 n9=>by
    obtain⟨m',hm,w9⟩:=hNN σ6 H9 n9
    refine⟨m',hm,i+1,σ6,H9,I9.unpinned,T.keep _ _ _ st5 fun b hb o e=>(I9.pin (b,o) (zax6 _ (zax6 _ (zd5 hb e)))).1,fun b hb=>?_,w9⟩
    obtain⟨o,e,d⟩:=T.obj _ _ st5 b hb
    exact (I9.pin (b,o) (zax6 _ (zax6 _ (zd5 hb e)))).2.1
   cases ok with
   |false=>exact iteF (again I8 (by simpa using q7))
   |true =>
    rw [if_pos rfl]at q7
    refine iteT ?_
    have c:=hkY _ s7 σ6 H7 _ I8 q7
    rw [yp,yw,yA,yx]at c
    refine zaz2 (thn c fun kv s8 ⟨vk,H8,I9,rk,q9⟩=>zaz2 (wpAny_holding ?_))
    have d:=hvY _ s8 σ6 H8 _ I9 q9
    rw [yp,yw,yA,yx]at d
    refine thn d fun vv s9 ⟨vy,H9,I10,rv,kvs,kk,ek,hD',hl,n9⟩=>zaz2 (wpAny_standAt (wpAny_holding ?_))
    subst ek
    have e:=d_set (A:=Y.A) (E:=fun _ _=>False) (Q:=fun _ s' => ∃m,m<n∧∃i σ' H',Inv Y [] σ' H' s'∧tn i s'.heap∧(∀b∈fp,H' b=none)∧W i m σ' H') I10 hD' rk rv hl fun s' I11=>again I11 n9
    rw [yp,yw,yA]at e
    exact e
 exact codeAny_compStart_dict loop (T.self _ 0 _ _ _ (T.keep _ _ _ st2 fun b hb o e=>hk b o (zay6 _ e)) loop)
end L2
namespace DL
open PySem.Spec L2
theorem zak1 {K:zax7}{H:Hp} (k:Key) {d:D}{v:V} (rd:Rep K H d v) {ks:List Key}{ds:List D}{vs:List V} (l:ks.length=vs.length) (r:Reps K H ds vs) :
  ∃vs':List V,putK (mkKV ks vs) k v=mkKV (zh3 ks ds k d).1 vs'∧(zh3 ks ds k d).1.length=vs'.length∧Reps K H (zh3 ks ds k d).2 vs':=by
 have ha:(mkKV ks vs).any (fun kv=>decide (kv.1=k))=hasK ks k:=by
  rw [zy2,zz9 k l]
 unfold putK zh3
 rw [ha]
 by_cases hc:hasK ks k=true
 ·rw [if_pos hc,if_pos hc]
  refine⟨zbk1 (fun k' v'=>if k'=k then v else v') ks vs,?_,by simp;lia,?_⟩
  ·clear hc ha r
   unfold mkKV
   induction ks generalizing vs with
   |nil=>simp
   |cons k' ks ih =>
    cases vs with
    |nil=>simp at l
    |cons v' vs =>
     have i:=ih (vs:=vs) (by simpa using l)
     simp only [zbh2,zaz3,zbc6,i]
     by_cases e:k'=k
     ·simp [e]
     ·simp [e]
  ·clear hc ha
   induction ks generalizing vs ds with
   |nil=>exact .nil
   |cons k' ks ih =>
    cases vs with
    |nil=>simp at l
    |cons v' vs =>
     cases r with
     |cons r1 r2 =>
      have i:=ih (by simpa using l) r2
      simp only [zbc6]
      refine .cons ?_ i
      by_cases e:k'=k
      ·rw [if_pos e,if_pos e];exact rd
      ·rw [if_neg e,if_neg e];exact r1
 ·rw [if_neg hc,if_neg hc]
  refine⟨vs++[v],?_,by simp;lia,r.app (Reps.one rd)⟩
  unfold mkKV
  rw [List.zip_append l]
  rfl
theorem zab8 {ks:List Key}{k:Key}{d:D} (sd:flat d=true):∀ {ds:List D},flats ds=true→flats (zh3 ks ds k d).2=true:=fun {ds} s=>by
 have ap:∀l:List D,flats l=true→flats (l++[d])=true:=by
  intro l
  induction l with
  |nil=>intro _;simp [flats,sd]
  |cons a l ih =>
   intro h
   simp only [flats,zay4]at h
   simp only [zbp0,flats,zay4]
   exact⟨h.1,ih h.2⟩
 unfold zh3
 split
 ·show flats (zbk1 _ ks ds)=true
  rename_i hc
  clear hc
  induction ks generalizing ds with
  |nil=>simp [flats]
  |cons k' ks ih =>
   cases ds with
   |nil=>simp [flats]
   |cons d' ds =>
    simp only [flats,zay4]at s
    simp only [zbc6,flats,zay4]
    refine⟨?_,ih s.2⟩
    split
    ·exact sd
    ·exact s.1
 ·exact ap ds s
noncomputable def stKF (a:KD) (x y:Ev):Option KD:=match keyD x.d with
 |some kk=>if flat y.d&&decide (a.1.length<50000) then some (zh3 a.1 a.2 kk y.d) else none
 |none=>none
noncomputable def zi0 (k:D→Th→Option Th) (ft:DT) (fk fv:DE):List D→Th→KD→Option KD
 |[],_,a=>some a
 |d::ds,t,a=>(k d t).bind fun t1=>(ft t1).bind fun b=>if b then (fk t1).bind fun x=>(fv t1).bind fun y=>(stKF a x y).bind fun a1=>zi0 k ft fk fv ds t1 a1 else zi0 k ft fk fv ds t1 a
noncomputable def zr7 (n:Nat) (cap:List Nat) (fs:DI) (k:D→Th→Option Th) (ft:DT) (fk fv:DE):DE:=fun t=>(fs t).bind fun q=>(capD t cap).bind fun c =>
 (zi0 k ft fk fv q.2 (zaz6 n Sl.no++c.2.map Sl.val) ([],[])).map fun a=>.dn (.dct a.1 a.2)
theorem zam4 {X:Cx}{F:List Addr}{n:Nat}{cap:List Nat}{fs:DI}{g:TG}{kt:D→Th→Option Th}{ft:DT}{fk fv:DE} (hk:∀F',TgOk X.K F' g kt) {σ:L2.St}{H:Hp}{Q:VK} (h:dE X.K F (zr7 n cap fs kt ft fk fv) σ H Q) :
  tCompD n cap (dI X.K F fs) g (fun σ H Q => ∃F',dT X.K F' ft σ H Q) (fun σ H Q => ∃F',dE X.K F' fk σ H Q) (fun σ H Q => ∃F',dE X.K F' fv σ H Q) σ H Q:=by
 obtain⟨A,t,r,R,e,h⟩:=h
 unfold zr7 at e
 cases e1:fs t with
 |none=>rw [e1]at e;cases e
 |some q =>
  obtain⟨b,ds⟩:=q
  cases e2:capD t cap with
  |none=>rw [e1,e2]at e;cases e
  |some q2 =>
   obtain⟨c,caps⟩:=q2
   rw [e1,e2]at e
   simp only [zay2]at e
   cases e3:zi0 kt ft fk fv ds (zaz6 n Sl.no++caps.map Sl.val) ([],[]) with
   |none=>rw [e3]at e;cases e
   |some xs =>
    rw [e3]at e
    cases e
    obtain⟨cvs,cv1,cv2⟩:=zq6 R e2
    obtain⟨F',F'def⟩:∃F',F'=hidF (b&&c) A F:=⟨_,rfl⟩
    have subF:∀x∈F',x∈A++F:=fun x hx=>by
     rw [F'def]at hx
     unfold hidF at hx
     split at hx
     ·exact hx
     ·exact zax6 _ hx
    have lessB:∀H:Hp,Same (hide (hidF b A F) H) (hide F' H):=fun H=>za7 H fun x hx=>by
     rw [F'def]at hx
     cases b<;>cases c<;>simp [hidF]at hx ⊢<;>first | exact hx | exact .inr hx | (rcases hx with z | z<;>simp [z])
    have lessC:∀H:Hp,Same (hide (hidF c A F) H) (hide F' H):=fun H=>za7 H fun x hx=>by
     rw [F'def]at hx
     cases b<;>cases c<;>simp [hidF]at hx ⊢<;>first | exact hx | exact .inr hx | (rcases hx with z | z<;>simp [z])
    refine⟨A,t,b,ds,R,e1,fun J H1 Good gs src gd Dd hD=>?_⟩
    have H1A:Lists H1 (A++F):=R.mu.mono gs
    have st0:Same (hide F' H1) (hide (Dd::F') (upd H1 Dd (.dK []))):=zh2 hD
    refine⟨fun i m σ' H'=>i+m=ds.length∧∃th a vs,RS X.K (Dd::F') H' [] th σ'∧zi0 kt ft fk fv (ds.drop i) th a=some xs∧H' Dd=some (.dK (mkKV a.1 vs))∧a.1.length=vs.length∧Reps X.K (hide (Dd::F') H') a.2 vs∧flats a.2=true∧Same H1 H'∧Good (Dd::F') H',
     ⟨ds.length,by lia,_,([],[]),[],⟨?_,zba8,fun p hp=>(by cases hp),?_⟩,by simpa using e3,za9,rfl,.nil,rfl,zc5 hD,src.keep _ _ _ _ gd (fun b o z=>st0 _ _ (lessB _ _ _ z))⟩,?_⟩
    ·intro q hq
     have hq:q∈Dd::F':=hq
     rcases zay5.mp hq with z | z
     ·exact⟨mK [],by rw [z];exact za9⟩
     ·obtain⟨us,w⟩:=H1A q (subF q z)
      exact⟨us,(zc5 hD) _ _ w⟩
    ·unfold capV
     rw [cv1]
     exact RSl.noVals (Reps.mono (fun b o z=>st0 _ _ (lessC H1 _ _ (za8 gs _ _ z))) cv2) n
    ·rintro i m σ' H' ⟨hm,th,a,vs,RR,ec,hv,lv,hr,fl,sm,gg⟩
     cases m with
     |zero =>
      have z:i=ds.length:=by lia
      subst z
      rw [zbf3]at ec
      cases ec
      refine .inl ⟨src.stop _ _ gg,h _ H' (gs.trans sm) ⟨[Dd],by simp,fun b hb=>by simp at hb;subst hb;exact Same.free gs hD,.dct (vs:=vs) lv hv (RepDs.of_flat fl (Reps.hid (fun q hq=>?_) fl (Reps.mono (zb6 _ _) hr)))⟩⟩
      rcases zay0.mp hq with z | z
      ·exact⟨mK (mkKV xs.1 vs),by rw [zaz9.mp z];exact hv⟩
      ·obtain⟨us,w⟩:=H1A q z
       exact⟨us,sm _ _ w⟩
     |succ m =>
      have hil:i<ds.length:=by lia
      refine .inr ⟨src.go _ _ i gg hil,fun σ' H'=>i+1+m=ds.length∧∃th a vs,RS X.K (Dd::F') H' [] th σ'∧zi0 kt ft fk fv (ds.drop (i+1)) th a=some xs∧H' Dd=some (.dK (mkKV a.1 vs))∧a.1.length=vs.length∧Reps X.K (hide (Dd::F') H') a.2 vs∧flats a.2=true∧Same H1 H'∧Good (Dd::F') H',
       fun σ' H' q=>⟨m,zbc5 m,q⟩,fun x H2 y=>?_⟩
      obtain⟨gs2,d,hd,rd⟩:=src.yld _ _ i x H2 gg RR.mu y hil
      have ed:ds.drop i=d::ds.drop (i+1):=by
       have hd':ds[i]=d:=by
        rw [zay3 hil]at hd
        exact Option.some.inj hd
       rw [← hd']
       exact zbb4 hil
      rw [ed]at ec
      unfold zi0 at ec
      cases k1:kt d th with
      |none=>rw [k1]at ec;cases ec
      |some t1 =>
       rw [k1]at ec
       simp only [zay2]at ec
       refine hk (Dd::F') σ' H2 [] th t1 d x _ (RR.grow gs2) rd k1 fun σ2 A2 gr2 R2=>?_
       have A20:=zk3 R2 gr2
       subst A20
       cases k2:ft t1 with
       |none=>rw [k2]at ec;cases ec
       |some bb =>
        rw [k2]at ec
        simp only [zay2]at ec
        refine⟨Dd::F',[],t1,bb,R2,k2,fun H3 gs3=>?_⟩
        cases bb with
        |false =>
         refine iteF ⟨by lia,t1,a,vs,R2.grow gs3,by simpa using ec,gs3 _ _ (gs2 _ _ hv),lv,Reps.mono (za8 (gs2.trans gs3)) hr,fl,(sm.trans gs2).trans gs3,src.keep _ _ _ _ gg (za8 (gs2.trans gs3))⟩
        |true =>
         simp only [if_true]at ec
         cases w3:fk t1 with
         |none=>rw [w3]at ec;cases ec
         |some rk =>
          rw [w3]at ec
          simp only [zay2]at ec
          cases w4:fv t1 with
          |none=>rw [w4]at ec;cases ec
          |some rv =>
           rw [w4]at ec
           simp only [zay2]at ec
           cases w5:stKF a rk rv with
           |none=>rw [w5]at ec;cases ec
           |some a1 =>
            rw [w5]at ec
            simp only [zay2]at ec
            unfold stKF at w5
            split at w5
            case h_2=>cases w5
            rename_i kk ek
            split at w5
            case isFalse=>cases w5
            rename_i c5
            rw [zay4,decide_eq_true_eq]at c5
            cases w5
            refine iteT ⟨Dd::F',[],t1,rk,R2.grow gs3,w3,fun x' H7 gs7 q7=>⟨Dd::F',[],t1,rv,(R2.grow gs3).grow gs7,w4,fun y' H8 gs8 q8=>?_⟩⟩
            have ex:=zz7 q7.full ek
            subst ex
            have s8:=((gs2.trans gs3).trans gs7).trans gs8
            have cv:=q8.cleanF (((R2.grow gs3).grow gs7).mu)
            obtain⟨vs',pz,pl,pr⟩:=zak1 kk cv lv (Reps.mono (za8 s8) hr)
            have hu:Same (hide (Dd::F') H8) (hide (Dd::F') (upd H8 Dd (.dK (putK (mkKV a.1 vs) kk y')))):=zc9 (zay1 ..)
            refine⟨mkKV a.1 vs,kk,rfl,s8 _ _ hv,?_,by lia,t1,zh3 a.1 a.2 kk rv.d,vs',RS.updFK (((R2.grow gs3).grow gs7).grow gs8) (zay1 ..),ec,?_,pl,Reps.mono hu pr,zab8 c5.1 fl,?_,?_⟩
            ·unfold mkKV
             rw [zbg1]
             exact zba2 (zbj3 _ _) (zay8 c5.2 (by rw [sizeLine_eq];decide))
            ·rw [za9];exact congrArg (fun z=>some (HO.dK z)) pz
            ·exact fun b o z=>by
              rw [zb3 (fun w=>by rw [w,hD]at z;cases z)]
              exact s8 _ _ (sm _ _ z)
            ·exact src.keep _ _ _ _ gg (fun b o z=>hu _ _ (za8 s8 _ _ z))
theorem zah2 {X:Cx}{F:List Addr}{kx vx tg iter:Expr}{ifs:List Expr}{scope:Scope}{pos:Pos}{fs:DI}{g:TG}{kt:D→Th→Option Th}{ft:DT}{fk fv:DE} (n:Nat) (cap:List Nat) (N':List Str) (hc:X.calm=true) (hi:PI X tg iter (dI X.K F fs))
  (hg:∀C s₃ H₃ fp pins,PG (blk X N' scope C s₃ H₃ fp pins) tg g) (hk:∀F',TgOk X.K F' g kt) (ht:∀C s₃ H₃ fp pins F',PTs (blk X N' scope C s₃ H₃ fp pins) ifs (dT X.K F' ft)) (hkx:∀C s₃ H₃ fp pins F',PE (blk X N' scope C s₃ H₃ fp pins) kx (dE X.K F' fk)) (hvx:∀C s₃ H₃ fp pins F',PE (blk X N' scope C s₃ H₃ fp pins) vx (dE X.K F' fv))
  (hkd:scope.kind=.function:=by rfl) (hcs:zs2 scope.names X.env.kindOf=true:=by rfl) (hN:N'.length=n+cap.length:=by rfl) (hcap:zw9 N' X.N n scope.names 0 cap=true:=by rfl)
  (hs:∀x,foldedSetIterable iter X.env x=pure x:=by intro _;rfl):PE X (.DictComp kx vx [⟨tg,iter,ifs,0⟩] scope pos) (dE X.K F (zr7 n cap fs kt ft fk fv)) :=
 PE.imp (pe_compD (g:=g) (zae3 hkd hcs) hc hi hN (fun k j e=>by simpa using zn9 hcap k j e) hg (fun C s₃ H₃ fp pins pins' s σ H Q I ⟨F',q⟩=>ht C s₃ H₃ fp pins F' pins' s σ H Q I q)
  (fun C s₃ H₃ fp pins pins' s σ H Q I ⟨F',q⟩=>hkx C s₃ H₃ fp pins F' pins' s σ H Q I q) (fun C s₃ H₃ fp pins pins' s σ H Q I ⟨F',q⟩=>hvx C s₃ H₃ fp pins F' pins' s σ H Q I q) hs) fun _ _ _ h=>zam4 hk h
end DL
namespace L2
open PySem.Spec
theorem d_update {X:Cx}{pins:List (Addr×Obj)}{σ:L2.St}{H:Hp}{s:zaz0}{a b:Addr}{kvs more:List (Key×V)}{A:Around}{E:Value→zaz0→Prop}{Q:Value→zaz0→Prop} (I:Inv X pins σ H s) (ne:a≠b) (e:H a=some (.dK kvs)) (e2:H b=some (.dK more)) (l:kvs.length+more.length≤sizeLine)
  (h:∀s',Inv X pins σ (upd H a (.dK (zr9 kvs more))) s'→Q .none s'):wpAny (model X.prog X.w) A (call (.builtin "dict.update") [.ref a,.ref b]) Q E s:=by
 obtain⟨z,hd,vs,rel,dd⟩:=dk_of I.hok e
 obtain⟨z2,hd2,vs2,rel2,dd2⟩:=dk_of I.hok e2
 have hl:vs.length+vs2.length≤sizeLine:=by rw [← rel.length, ← rel2.length];exact l
 have hz:(zr9 kvs more).length≤sizeLine:=zaz4 (zq2 more kvs) l
 refine call_meetsIn zbk2 dd.typeIs PySem.F.entry_dict_update (PySem.F.args_dict_update_2 _ _) (meets_dict_update (zf2 X.prog X.w) a b ne hd2) ⟨vs,vs2,dd,dd2,hl,fun h' dd' _ hs=>h _ ?_⟩
 have he:∃q,h'.get? a=some q:=let ⟨q,_,_,hq,_⟩:=dd';⟨q,hq⟩
 exact zav2 (t':=s.toks) I (by rw [e];exact True.intro) hs he (dk_new hz hd (rel2.merge rel) dd')
end L2
namespace DL
open PySem.Spec L2
theorem RS.placeF {K:zax7}{F A:List Addr}{H:Hp}{t:Th}{σ:L2.St}{i:Nat}{ks:List Key}{ds:List D} (R:RS K F H A t σ) (e:t[i]?=some (.dp (.dct ks ds))) (fl:flats ds=true) :
  ∃p vs,σ[i]?=some (some (.ref p))∧p∈A∧ks.length=vs.length∧H p=some (.dK (mkKV ks vs))∧Reps K (hide (A++F) H) ds vs ∧
   ∀H1 ks2 ds2 vs2,Same H H1→ks2.length=vs2.length→flats ds2=true→Reps K (hide (A++F) H1) ds2 vs2 →
    ∃A2,RS K F (L2.upd H1 p (.dK (mkKV ks2 vs2))) A2 (t.set i (.dp (.dct ks2 ds2))) σ∧Gr A H A2 (L2.upd H1 p (.dK (mkKV ks2 vs2))):=by
 obtain⟨v,B,a1,a2,a3,a4,a5⟩:=R.rel.focusDp R.nd e
 cases a4 with
 |flat f _=>simp [flat]at f
 |@dct _ _ p vs B' l h r =>
  obtain⟨rr,rfl⟩:=RepDs.fl r fl
  have pA:p∈A:=a2 p (by simp)
  refine⟨p,vs,a1,pA,l,h,rr,fun H1 ks2 ds2 vs2 gs l2 fl2 r2=>?_⟩
  have hh:Same (hide (A++F) H) (hide (A++F) (L2.upd H1 p (.dK (mkKV ks2 vs2)))):=fun b o q=>by
   obtain⟨n,q⟩:=zh9 q
   have nb:b≠p:=fun z=>n (zax8 _ (z ▸ pA))
   exact zb9 (by rw [zb3 nb];exact gs _ _ q) n
  have h2:Same (hide (A++F) H1) (hide (A++F) (L2.upd H1 p (.dK (mkKV ks2 vs2)))):=zc9 (zax8 _ pA)
  obtain⟨A2,d1,d3⟩:=a5 _ _ (.dct ks2 ds2) [p] hh (.dct l2 za9 (RepDs.of_flat fl2 (Reps.mono h2 r2))) (List.Sublist.refl _) (fun q hq nq o w=>by rw [zb3 (by simpa using nq)];exact gs _ _ w)
  have sub:∀x∈A2,x∈A:=fun x hx=>d3.subset hx
  have mu:Lists (L2.upd H1 p (.dK (mkKV ks2 vs2))) (A++F):=fun q hq=>by
   by_cases z:q=p
   ·exact⟨mD _,by rw [z];exact za9⟩
   ·obtain⟨us,w⟩:=R.mu q hq
    exact⟨us,by rw [zb3 z];exact gs _ _ w⟩
  refine⟨A2,⟨fun q hq=>mu q ?_,R.nd.sublist d3,fun q hq=>R.dj q (sub q hq),RSl.mono (za7 _ fun a z=>?_) d1 fun _ _ _ h=>h⟩,fun b o n h=>?_,fun b hb=>?_,fun b hb=>.inl (sub b hb)⟩
  ·exact (zay0.mp hq).elim (fun z=>zax8 _ (sub q z)) (fun z=>zax6 _ z)
  ·exact (zay0.mp z).elim (fun z=>zax8 _ (sub a z)) (fun z=>zax6 _ z)
  ·rw [zb3 (fun z=>n (by rw [z];exact pA))];exact gs _ _ h
  ·obtain⟨us,w⟩:=mu b (zax8 _ hb)
   rw [w];simp
def mgKD:List Key→List D→KD→KD
 |k::ks,d::ds,a=>mgKD ks ds (zh3 a.1 a.2 k d)
 |_,_,a=>a
theorem zas6 {K:zax7}{H:Hp}:∀ {ks2:List Key}{ds2:List D}{vs2:List V}{a:KD}{vs:List V},ks2.length=vs2.length→Reps K H ds2 vs2→a.1.length=vs.length→Reps K H a.2 vs→flats ds2=true→flats a.2=true →
  ∃vs':List V,zr9 (mkKV a.1 vs) (mkKV ks2 vs2)=mkKV (mgKD ks2 ds2 a).1 vs'∧(mgKD ks2 ds2 a).1.length=vs'.length∧Reps K H (mgKD ks2 ds2 a).2 vs'∧flats (mgKD ks2 ds2 a).2=true
 |[],ds2,vs2,a,vs,l2,r2,l,r,_,f=>by
  cases vs2 with
  |nil=>cases r2;exact⟨vs,rfl,l,r,f⟩
  |cons _ _=>simp at l2
 |k::ks2,ds2,vs2,a,vs,l2,r2,l,r,f2,f=>by
  cases r2 with
  |nil=>simp at l2
  |@cons d v ds vs3 r1 rs =>
   simp only [flats,zay4]at f2
   obtain⟨vs1,e1,l1,r1'⟩:=zak1 k r1 l r
   obtain⟨vs',e',l',r',f'⟩:=zas6 (ks2:=ks2) (a:=zh3 a.1 a.2 k d) (by simpa using l2) rs l1 r1' f2.2 (zab8 f2.1 f)
   refine⟨vs',?_,l',r',f'⟩
   show zr9 (putK (mkKV a.1 vs) k v) (mkKV ks2 vs3)=_
   rw [e1]
   exact e'
end DL
namespace L2
open PySem.Spec
noncomputable def tDUpd (td ty:TE):TE:=fun σ H Q=>td σ H fun x H1 => ∃a,x=.ref a∧IsD H1 a∧ty σ H1 fun y H2 => ∃b kvs more,y=.ref b∧a≠b∧H2 a=some (.dK kvs)∧H2 b=some (.dK more)∧kvs.length+more.length≤sizeLine∧Q .non (upd H2 a (.dK (zr9 kvs more)))
theorem pe_dupd {X:Cx}{o e:Expr}{apos cpos:Pos}{td ty:TE} (ho:PE X o td) (he:PE X e ty) (m:M1 X o "update" apos e cpos):PE X (.Call (.Attribute o "update" apos) [e] [] cpos) (tDUpd td ty):=by
 intro pins s σ H Q I h
 refine wpAny_Call_method m.base m.few m.line PySem.F.plainAttrs_dict zbk2 PySem.F.type_dict_update (thn (ho pins s σ H _ I h) fun u s1 ⟨x,H1,I1,rx,a,ex,d,q1⟩=>?_)
 subst ex
 obtain rfl:u=Value.ref a:=rx
 obtain⟨t1,t2,_⟩:=isD_at I1 d
 refine⟨t1,t2,?_⟩
 rw [m.trees]
 refine Calls.callWith_builtin rfl (Calls.evalArgs_plain (Calls.spliced_cons (thn (he pins s1 σ H1 _ I1 q1) fun iv s2 ⟨y,H2,I2,ry,b,kvs,more,ey,ne,e1,e2,l,q2⟩=>Calls.spliced_nil ?_)))
 subst ey
 obtain rfl:iv=Value.ref b:=ry
 exact d_update I2 ne e1 e2 l fun s3 I3=>⟨.non,_,I3,rfl,q2⟩
end L2
namespace DL
open PySem.Spec L2
noncomputable def kUpd (t:Th) (i:Nat) (r:Ev):Option Out:=match t[i]?,r with
 |some (.dp (.dct ks ds)),.dn (.dct ks2 ds2)=>if (flats ds&&flats ds2)&&decide (ks.length+ks2.length≤50000) then some (.nx (t.set i (.dp (.dct (mgKD ks2 ds2 (ks,ds)).1 (mgKD ks2 ds2 (ks,ds)).2)))) else none
 |_,_=>none
def dUpd (i:Nat) (f:DE):DS:=fun t=>(f t).bind (kUpd t i)
section
variable {X:Cx}{F:List Addr}{a:Expr}{fa:DE}{pos:Pos}
theorem psd_upd (i:Nat) {x:Str}{p0 apos cpos:Pos} (he:PE X a (dE X.K F fa)) (hN:X.N[i]?=some x:=by rfl) (hv:Vis X.env.scope x:=by first | exact Or.inl rfl | exact Or.inr (Or.inl rfl) |exact Or.inr (Or.inr rfl)) (hd:(x ==("__debug__":Str))=false:=by decide)
  (hcd:(x ==("__classdict__":Str))=false:=by decide)
  (hbase:attributeBase (.Name x p0) "update" X.env (eval (.Name x p0) X.env)=eval (.Name x p0) X.env:=by rfl)
  (hfew:((zbd7 cpos (zaz1 [a] X.env)).all (fun x=>!x.1)&&(backToKw cpos (keywordEach [] X.env)).all (fun x=>x.1.isSome)
   && decide ([a].length+([]:List Keyword).length+(if ([]:List Keyword).isEmpty then 0 else 1)<30))=true:=by rfl)
  (hline:(apos.endLine == cpos.line)=true:=by rfl) (htr:zbd7 cpos (zaz1 [a] X.env)=[(false,eval a X.env)]:=by rfl)
  (hsw:swapsWith (.Call (.Attribute (.Name x p0) "update" apos) [a] [] cpos) none pos.line X.env=pure false:=by rfl) :
  PS X (.Expr (.Call (.Attribute (.Name x p0) "update" apos) [a] [] cpos) pos) (dS X.K F (dUpd i fa)):=by
 refine PS.imp (zm4 (pe_dupd (zo1 (i:=i) hN hv hd hcd) he ⟨hbase,hfew,hline,htr⟩) hsw) ?_
 rintro E σ H ⟨A,t,o,R,e,h⟩
 unfold dUpd at e
 cases e1:fa t with
 |none=>rw [e1]at e;cases e
 |some r =>
  rw [e1]at e
  have e:kUpd t i r=some o:=e
  unfold kUpd at e
  split at e
  case h_2=>cases e
  rename_i ks ds ks2 ds2 z _
  split at e
  case isFalse=>cases e
  rename_i ok
  simp only [zay4,decide_eq_true_eq]at ok
  cases e
  obtain⟨p,vs,a1,a2,l,hp,hr,mk⟩:=R.placeF z ok.1.1
  refine⟨_,a1,p,rfl,.inl ⟨_,.inl hp⟩,A,t,_,R,e1,fun y H1 gs q=>?_⟩
  obtain⟨B,nB,fB,rd⟩:=q
  cases rd with
  |flat f _=>simp [flat]at f
  |@dct _ _ b vs2 B' l2 hb r2 =>
   obtain⟨rr,rfl⟩:=RepDs.fl r2 ok.1.2
   have nb:p≠b:=fun w=>by
    have:=fB b (by simp)
    rw [← w,hp]at this
    cases this
   obtain⟨vs',e',l',r',f'⟩:=zas6 (a:=(ks,ds)) l2 (Reps.mono (za7 H1 fun x hx=>zax6 _ hx) rr) l (Reps.mono (za8 gs) hr) ok.1.2 ok.1.1
   refine⟨b,mkKV ks vs,mkKV ks2 vs2,rfl,nb,gs _ _ hp,hb,?_,?_⟩
   ·unfold mkKV
    rw [zbg1,zbg1,sizeLine_eq]
    have:=zbj3 ks.length vs.length
    have:=zbj3 ks2.length vs2.length
    lia
   ·obtain⟨A2,R',g'⟩:=mk H1 _ _ vs' gs l' f' r'
    rw [e']
    exact h _ _ _ g' R'
end
end DL
namespace DL
open PySem.Spec L2
theorem zal5 {K:zax7}{H:Hp}{k:Key}{d:D}:∀ {ks:List Key}{ds:List D}{vs:List V},ks.length=vs.length→Reps K H ds vs→zad5 ks ds k=some d→∃v,valV (mkKV ks vs) k=some v∧Rep K H d v
 |[],ds,vs,l,r,e=>by simp [zad5]at e
 |k'::ks,ds,vs,l,r,e=>by
  cases r with
  |nil=>simp at l
  |@cons d' v' ds vs r1 r2 =>
   unfold zad5 at e
   by_cases z:k'=k
   ·rw [if_pos z]at e
    cases e
    exact⟨v',zp3 (p:=(k',v')) z,r1⟩
   ·rw [if_neg z]at e
    obtain⟨v,e1,e2⟩:=zal5 (ks:=ks) (by simpa using l) r2 e
    exact⟨v,(zp4 (p:=(k',v')) z).trans e1,e2⟩
section
variable {X:Cx}{F:List Addr}{a b c o:Expr}{es:List Expr}{fa fb fc:DE}{ga:DA}{pos:Pos}
noncomputable def zx7:Ev→Ev→Option Ev:=fun r1 r2=>match r1.d,keyD r2.d with
 |.dct ks ds,some k=>(match zad5 ks ds k with
  |some d=>if flat d then some (.cl d) else none
  |none=>none)
 |_,_=>none
theorem zar0 (hu:X.A.units+64<cLine) (ha:PE X a (dE X.K F fa)) (hb:PE X b (dE X.K F fb)) (hs:NoSl b:=by intro _ _;rfl):PE X (.Subscript a b pos) (dE X.K F (d2 zx7 fa fb)):=by
 refine PE.imp (pe_dget (by lia) ha hb hs) ?_
 intro σ H Q h
 obtain⟨A,t,r1,r2,r,R,e1,e2,e,h,w⟩:=two h
 refine⟨A,t,r1,R,e1,fun x H1 gs1 q1=>⟨A,t,r2,R.grow gs1,e2,fun y H2 gs2 q2=>?_⟩⟩
 have gs:=gs1.trans gs2
 have p1:=(q1.mono gs2).full
 have p2:=q2.full
 unfold zx7 at e
 split at e
 case h_2=>cases e
 rename_i ks ds k z ek
 split at e
 case h_2=>cases e
 rename_i d eg
 split at e
 case isFalse=>cases e
 rename_i fl
 cases e
 rw [z]at p1
 cases p1 with
 |@dct _ _ p vs l h1 h2 =>
  have ey:=zz7 p2 ek
  subst ey
  obtain⟨v,hv,rv⟩:=zal5 l h2 eg
  refine⟨p,v,rfl,?_,h _ H2 gs (Rep.hid (R.mu.mono gs) fl rv)⟩
  have:=DGet.k (k:=k) h1
  rw [hv]at this
  exact this
theorem zam9 {k:Nat}{G:List D→Option Ev}{x:Str}{p:Pos} (c:Cal X.prog X.w X.K X.mg X.base x k G) (hr:Room k X.A) (hg:Gl X x:=by rfl) (hdb:(x ==("__debug__":Str))=false:=by decide):PE X (.Call (.Name x p) [] [] pos) (dE X.K F (dT1 (zd3 G) dNil)):=by
 obtain⟨f,fd,ps,h1,h2,h3,h4⟩:=c.ex
 refine PE.imp (pe_call0 h4 hr hg h1 h2 h3 .nil (E:=E0) pass0 hdb) ?_
 rintro σ H Q ⟨A,t,r,R,e,h⟩
 exact zaw4 (E:=E0) (rs:=[]) R.mu (Same.refl H) .nil e fun v H' g' w=>h v H' g' w
end
end DL
namespace DL
open PySem.Spec L2
section
variable {X:Cx}{F:List Addr}{J:List Nat}{a b:Expr}{fa fb:DE}{g:DS}{pos:Pos}
def zai1:Ev→Option Ev:=fun r=>(truD r.d).map fun b=>.cl (.bl (!b))
theorem ped_notT (ha:PE X a (dE X.K F fa)):PE X (.UnaryOp .Not a pos) (dE X.K F (d1 zai1 fa)):=by
 intro pins s σ H Q I h
 obtain⟨A,t,r,R,e,h⟩:=h
 unfold d1 at e
 cases e1:fa t with
 |none=>rw [e1]at e;cases e
 |some r1 =>
  rw [e1]at e
  have e:zai1 r1=some r:=e
  unfold zai1 at e
  cases e2:truD r1.d with
  |none=>rw [e2]at e;cases e
  |some b =>
   rw [e2]at e
   cases e
   refine UnaryOp_ (thn (ha pins s σ H (fun v H1=>Same H H1∧RepEv X.K F A H H1 r1 v) I ⟨A,t,r1,R,e1,fun v H1 g1 q1=>⟨g1,q1⟩⟩) fun v s1 ⟨x,H1,I1,rx,g1,q1⟩=>?_)
   refine not_of (thn (tru_ok pins s1 σ H1 x v (fun k H2=>k=b∧H2=H1) I1 rx ⟨b,zao3 q1.full e2,rfl,rfl⟩) fun k s2 ⟨H2,I2,ek,eh⟩=>?_)
   subst ek eh
   exact⟨.bl (!k),_,I2,rfl,h _ _ g1 (.bl _)⟩
end
end DL
namespace DL
open PySem.Spec L2
theorem RepDs.snoc {K:zax7}{H0 H:Hp}{d:D}{v:V}{C:List Addr} (q:RepD K H0 H d v C):∀ {ds:List D}{vs:List V}{B:List Addr},RepDs K H0 H ds vs B→RepDs K H0 H (ds++[d]) (vs++[v]) (B++C)
 |_,_,_,.nil=>by
  have:=RepDs.cons (K:=K) (H0:=H0) (H:=H) q .nil
  rw [zbf9]at this
  exact this
 |_,_,_,.cons h r=>by
  have:=RepDs.cons h (RepDs.snoc q r)
  rw [← zbh9]at this
  exact this
theorem RS.updL {K:zax7}{P A:List Addr}{H:Hp}{t:Th}{σ:L2.St}{p:Addr}{vs:List V} (R:RS K P H A t σ) (hp:p∈P):RS K P (upd H p (.lst vs)) A t σ where
 mu:=fun q hq=>by
  by_cases z:q=p
  ·exact⟨mL vs,by rw [z];exact za9⟩
  ·obtain⟨us,w⟩:=R.mu q hq
   exact⟨us,by rw [zb3 z];exact w⟩
 nd:=R.nd
 dj:=R.dj
 rel:=RSl.mono (zc9 (zax6 _ hp)) R.rel fun q hq o w=>by
  rw [zb3 (fun (z:q=p)=>R.dj q hq (by rw [z];exact hp))];exact w
noncomputable def kAppN (t:Th) (i:Nat) (r:Ev):Option Out:=match t[i]?,toDn r with
 |some (.dp (.lst ds)),some d=>if ds.length<100000 then some (.nx (t.set i (.dp (.lst (ds++[d]))))) else none
 |_,_=>none
def zav6 (i:Nat) (f:DE):DS:=fun t=>(f t).bind (kAppN t i)
section
variable {X:Cx}{F:List Addr}{a:Expr}{fa:DE}{pos:Pos}
theorem zy9 (i:Nat) {x:Str}{p0 apos cpos:Pos} (he:PE X a (dE X.K F fa)) (hN:X.N[i]?=some x:=by rfl) (hv:Vis X.env.scope x:=by first | exact Or.inl rfl | exact Or.inr (Or.inl rfl) |exact Or.inr (Or.inr rfl)) (hd:(x ==("__debug__":Str))=false:=by decide)
  (hcd:(x ==("__classdict__":Str))=false:=by decide) (hst:zaz1 [a] X.env=[(false,eval a X.env)]:=by rfl)
  (hbase:attributeBase (.Name x p0) "append" X.env (eval (.Name x p0) X.env)=eval (.Name x p0) X.env:=by rfl)
  (hfew:((zbd7 cpos (zaz1 [a] X.env)).all (fun x=>!x.1)&&(backToKw cpos (keywordEach [] X.env)).all (fun x=>x.1.isSome)
   && decide ([a].length+([]:List Keyword).length+(if ([]:List Keyword).isEmpty then 0 else 1)<30))=true:=by rfl)
  (hline:(apos.endLine == cpos.line)=true:=by rfl) (hplain:(zbd7 cpos (zaz1 [] X.env)).any (·.1)=false:=by rfl)
  (hsw:swapsWith (.Call (.Attribute (.Name x p0) "append" apos) [a] [] cpos) none pos.line X.env=pure false:=by rfl) :
  PS X (.Expr (.Call (.Attribute (.Name x p0) "append" apos) [a] [] cpos) pos) (dS X.K F (zav6 i fa)):=by
 refine PS.imp (zm4 (zah3 zbb3 zbd1 zbd2 zj0 (zo1 (i:=i) hN hv hd hcd) (zf1 he zi8 hst) hbase hfew hline hst hplain) hsw) ?_
 rintro E σ H ⟨A,t,o,R,e,h⟩
 unfold zav6 at e
 cases e1:fa t with
 |none=>rw [e1]at e;cases e
 |some r =>
  rw [e1]at e
  have e:kAppN t i r=some o:=e
  unfold kAppN at e
  split at e
  case h_2=>cases e
  rename_i ds d z ed
  split at e
  case isFalse=>cases e
  rename_i hl
  cases e
  obtain⟨v,B,A',a1,R1,nB,djB,rd,sA,sB⟩:=R.takeDp z
  cases rd with
  |flat f _=>simp [flat]at f
  |@lst _ p vs B0 hp rs =>
   have nB':=zaz8.mp nB
   have pA:p∈A:=sB p (zay1 ..)
   refine⟨_,a1,.inl ⟨rfl,vs,SqL.of hp⟩,A,t,r,R,e1,fun y H2 gs q=>⟨p,vs,y,rfl,rfl,gs _ _ hp,?_,?_⟩⟩
   ·have:vs.length<100000:=by rw [rs.length];exact hl
    exact zay8 this (by rw [sizeLine_eq];decide)
   ·obtain⟨C,nC,fC,rC⟩:=q.toDn R.mu gs ed
    have pC:p∉C:=fun w=>by rw [fC p w]at hp;cases hp
    have cA:∀b∈C,b∉A++F:=fun b hb=>zc6 R.mu (fC b hb)
    have R2:=(R1.aside gs fC rC.lists).updL (p:=p) (vs:=vs++[y]) (zax6 _ (zax8 _ (zay1 ..)))
    have R3:RS X.K ((p ::(B0++C))++F) (upd H2 p (.lst (vs++[y]))) A' (t.set i .no) σ:=R2.less fun b hb=>by
     rcases zay0.mp hb with w | w
     ·rcases zay5.mp w with w | w
      ·rw [w];exact zax6 _ (zax8 _ (zay1 ..))
      ·rcases zay0.mp w with w | w
       ·exact zax6 _ (zax8 _ (zax9 _ w))
       ·exact zax8 _ w
     ·exact zax6 _ (zax6 _ w)
    have s1:Same (hide (A'++((p::B0)++F)) H) (hide (A'++((p ::(B0++C))++F)) (upd H2 p (.lst (vs++[y])))):=fun b o w=>by
     obtain⟨n,w⟩:=zh9 w
     have nb:b≠p:=fun u=>n (zax6 _ (zax8 _ (u ▸ zay1 ..)))
     refine zb9 (by rw [zb3 nb];exact gs _ _ w) fun u=>?_
     rcases zay0.mp u with u | u
     ·exact n (zax8 _ u)
     ·rcases zay0.mp u with u | u
      ·rcases zay5.mp u with u | u
       ·exact nb u
       ·rcases zay0.mp u with u | u
        ·exact n (zax6 _ (zax8 _ (zax9 _ u)))
        ·rw [fC b u]at w;cases w
      ·exact n (zax6 _ (zax6 _ u))
    have s2:Same (hide (C++(A++F)) H2) (hide (A'++((p ::(B0++C))++F)) (upd H2 p (.lst (vs++[y])))):=fun b o w=>by
     obtain⟨n,w⟩:=zh9 w
     have nA:b∉A:=fun u=>n (zax6 _ (zax8 _ u))
     have nb:b≠p:=fun u=>nA (u ▸ pA)
     refine zb9 (by rw [zb3 nb];exact w) fun u=>?_
     rcases zay0.mp u with u | u
     ·exact nA (sA b u)
     ·rcases zay0.mp u with u | u
      ·rcases zay5.mp u with u | u
       ·exact nb u
       ·rcases zay0.mp u with u | u
        ·exact nA (sB b (zax9 _ u))
        ·exact n (zax8 _ u)
      ·exact n (zax6 _ (zax6 _ u))
    have rd2:RepD X.K (hide (A'++((p ::(B0++C))++F)) (upd H2 p (.lst (vs++[y])))) (upd H2 p (.lst (vs++[y]))) (.lst (ds++[d])) (.ref p) (p ::(B0++C)) :=
     .lst za9 (RepDs.snoc (RepD.mono s2 rC fun b hb o w=>by rw [zb3 (fun (u:b=p)=>pC (u ▸ hb))];exact w) (RepDs.mono s1 rs fun b hb o w=>by rw [zb3 (fun (u:b=p)=>nB'.1 (u ▸ hb))];exact gs _ _ w))
    have nd2:(p ::(B0++C)).Nodup:=zaz8.mpr ⟨fun w=>(zay0.mp w).elim nB'.1 pC,zay9.mpr ⟨nB'.2,nC,fun u hu w hw ew=>cA w hw (ew ▸ zax8 _ (sB u (zax9 _ hu)))⟩⟩
    have dj2:∀b∈p ::(B0++C),b∉F:=fun b hb=>by
     rcases zay5.mp hb with w | w
     ·exact djB b (w ▸ zay1 ..)
     ·rcases zay0.mp w with w | w
      ·exact djB b (zax9 _ w)
      ·exact fun u=>cA b w (zax6 _ u)
    have hil:i<t.length:=by
     refine Classical.byContradiction fun w=>?_
     rw [zbf8 (by lia)]at z;cases z
    obtain⟨A2,sub,R4⟩:=R3.putOwned nd2 dj2 rd2 (i:=i) (by rw [List.length_set];exact hil)
    have es:σ.set i (some (.ref p))=σ:=by
     apply List.ext_getElem?
     intro k
     rw [List.getElem?_set]
     split
     ·rename_i w
      subst w
      split
      ·exact a1.symm
      ·rename_i w2;rw [zbf8 (by lia)]at a1;cases a1
     ·rfl
    rw [es,List.set_set]at R4
    refine h _ _ A2 ⟨fun b o n w=>?_,fun b hb=>?_,fun b hb=>?_⟩ R4
    ·rw [zb3 (fun (u:b=p)=>n (u ▸ pA))];exact gs _ _ w
    ·by_cases u:b=p
     ·rw [u,za9];simp
     ·obtain⟨us,w⟩:=R.mu b (zax8 _ hb)
      rw [zb3 u,gs _ _ w];simp
    ·rcases sub b hb with w | w
     ·rcases zay5.mp w with w | w
      ·rw [w];exact .inl pA
      ·rcases zay0.mp w with w | w
       ·exact .inl (sB b (zax9 _ w))
       ·exact .inr (fC b w)
     ·exact .inl (sA b w)
end
end DL
namespace DL
open PySem.Spec L2
theorem RSl.noset {K:zax7}{H0 H:Hp}{v:V}:∀ {t:Th}{σ:L2.St}{A:List Addr},RSl K H0 H t σ A→∀ {j:Nat},t[j]?=some .no→RSl K H0 H t (σ.set j (some v)) A:=by
 intro _ _ _ h
 induction h with
 |nil=>intro j e;simp at e
 |no r ih =>
  intro j e
  cases j with
  |zero=>exact .no r
  |succ j=>exact .no (ih (by simpa using e))
 |val h r ih =>
  intro j e
  cases j with
  |zero=>simp at e
  |succ j=>exact .val h (ih (by simpa using e))
 |own h1 h2 r ih =>
  intro j e
  cases j with
  |zero=>simp at e
  |succ j=>exact .own h1 h2 (ih (by simpa using e))
 |dp h r ih =>
  intro j e
  cases j with
  |zero=>simp at e
  |succ j=>exact .dp h (ih (by simpa using e))
theorem RSl.forget {K:zax7}{H0 H:Hp}:∀ {t:Th}{σ:L2.St}{A:List Addr},RSl K H0 H t σ A→∀j,∃A',A'.Sublist A∧RSl K H0 H (t.set j .no) σ A':=by
 intro _ _ _ h
 induction h with
 |nil=>intro j;exact⟨[],List.Sublist.refl _,.nil⟩
 |@no _ _ _ A r ih =>
  intro j
  cases j with
  |zero=>exact⟨A,List.Sublist.refl _,.no r⟩
  |succ j=>obtain⟨A',s,q⟩:=ih j;exact⟨A',s,.no q⟩
 |@val _ _ _ _ A h r ih =>
  intro j
  cases j with
  |zero=>exact⟨A,List.Sublist.refl _,.no r⟩
  |succ j=>obtain⟨A',s,q⟩:=ih j;exact⟨A',s,.val h q⟩
 |@own p _ _ _ _ A h1 h2 r ih =>
  intro j
  cases j with
  |zero=>exact⟨A,zbh6 ..,.no r⟩
  |succ j=>obtain⟨A',s,q⟩:=ih j;exact⟨p::A',s.cons₂ _,.own h1 h2 q⟩
 |@dp _ _ B _ _ A h r ih =>
  intro j
  cases j with
  |zero=>exact⟨A,zbg6 ..,.no r⟩
  |succ j=>obtain⟨A',s,q⟩:=ih j;exact⟨B++A',(List.Sublist.refl _).append s,.dp h q⟩
theorem RS.forget {K:zax7}{F A:List Addr}{H:Hp}{t:Th}{σ:L2.St} (R:RS K F H A t σ) (j:Nat):∃A',(∀x∈A',x∈A)∧RS K F H A' (t.set j .no) σ:=by
 obtain⟨A',s,r⟩:=R.rel.forget j
 have sub:∀x∈A',x∈A:=fun x hx=>s.subset hx
 have sub2:∀x∈A'++F,x∈A++F:=fun x hx=>(zay0.mp hx).elim (fun z=>zax8 _ (sub x z)) (zax6 _)
 exact⟨A',sub,⟨fun p hp=>R.mu p (sub2 p hp),R.nd.sublist s,fun p hp=>R.dj p (sub p hp),RSl.mono (za7 H sub2) r fun _ _ _ w=>w⟩⟩
structure HJ (K:zax7) (F A0:List Addr) (H0:Hp) (B A':List Addr) (tt:Th) (i:Nat) (p0:Addr) (vs:List V) (p1:Addr) (vs1:List V) (L:List Addr) (n:Nat) (σ:L2.St) (H:Hp):Prop where
 rs:RS K (B++F) H A' tt σ
 nm:σ[i]?=some (some (.ref p0))
 tp:SqT K (hide (A'++(B++F)) H) p0 vs
 l1:H p1=some (.lst vs1)
 ll:∀b∈L,∃us:List V,H b=some (.lst us)∧us.length≤n
 gr:Gr A0 H0 A' H
section
variable {K:zax7}{F A0:List Addr}{H0:Hp}{B A':List Addr}{tt:Th}{i:Nat}{p0:Addr}{vs:List V}{p1:Addr}{vs1:List V}{L:List Addr}{n:Nat}{σ:L2.St}{H:Hp}
theorem HJ.grow (h:HJ K F A0 H0 B A' tt i p0 vs p1 vs1 L n σ H) {H':Hp} (g:Same H H') (sub:∀x∈A',x∈A0) (sb:∀b∈A0,H b≠none):HJ K F A0 H0 B A' tt i p0 vs p1 vs1 L n σ H' :=
 ⟨h.rs.grow g,h.nm,SqT.mono (za8 g) h.tp,g _ _ h.l1,fun b hb=>let ⟨us,a,c⟩:=h.ll b hb;⟨us,g _ _ a,c⟩,
  ⟨fun b o nb w=>g _ _ (h.gr.kp b o nb w),fun b hb=>by
   cases e:H b with
   |none=>exact absurd e (sb b hb)
   |some o=>rw [g _ _ e];simp,fun b hb=>.inl (sub b hb)⟩⟩
theorem HJ.upd (h:HJ K F A0 H0 B A' tt i p0 vs p1 vs1 L n σ H) {q:Addr} (hq:q∈B) (qA:q∈A0) (n1:q≠p1) {us:List V}{m:Nat} (hu:us.length≤m) (hn:n≤m):HJ K F A0 H0 B A' tt i p0 vs p1 vs1 L m σ (L2.upd H q (.lst us)):=by
 refine⟨h.rs.updL (zax8 _ hq),h.nm,SqT.mono (zc9 (zax6 _ (zax8 _ hq))) h.tp,by rw [zb3 fun z=>n1 z.symm];exact h.l1,fun b hb=>?_,⟨fun b o nb w=>?_,fun b hb=>?_,h.gr.nw⟩⟩
 ·by_cases z:b=q
  ·exact⟨us,by rw [z];exact za9,hu⟩
  ·obtain⟨ws,a,c⟩:=h.ll b hb
   exact⟨ws,by rw [zb3 z];exact a,by lia⟩
 ·rw [zb3 (fun (z:b=q)=>nb (z ▸ qA))];exact h.gr.kp b o nb w
 ·by_cases z:b=q
  ·rw [z,za9];simp
  ·rw [zb3 z];exact h.gr.al b hb
theorem HJ.name (h:HJ K F A0 H0 B A' tt i p0 vs p1 vs1 L n σ H) {j:Nat} (hj:tt[j]?=some .no) (ne:j≠i) (v:V):HJ K F A0 H0 B A' tt i p0 vs p1 vs1 L n (σ.set j (some v)) H :=
 ⟨⟨h.rs.mu,h.rs.nd,h.rs.dj,h.rs.rel.noset hj⟩,by rw [zbg5 ne];exact h.nm,h.tp,h.l1,h.ll,h.gr⟩
end
theorem HJ.reach {K:zax7}{F A0:List Addr}{H0:Hp}{B A':List Addr}{tt:Th}{i:Nat}{p0:Addr}{vs:List V}{p1:Addr}{vs1:List V}{L:List Addr}{n:Nat}{σ:L2.St}{H:Hp} (h:HJ K F A0 H0 B A' tt i p0 vs p1 vs1 L n σ H) {k:Int}{w:V} (e:atI vs k=some w):Reach K H (.ref p0) [k] w :=
 ⟨p0,vs,w,rfl,.inr (SqT.mono (zb6 _ _) h.tp),e,rfl⟩
section
variable {X:Cx}{F A0:List Addr}{H0:Hp}{B A':List Addr}{tt:Th}{i j:Nat}{p0:Addr}{vs:List V}{p1 p2:Addr}{vs1:List V}{L:List Addr}{pos:Pos}{o a:Expr}
theorem ps_spC {apos cpos:Pos}{k2:Int} (ho:PE X o (plE X.K (B++F) i [dC (.int k2)])) (e2:atI vs k2=some (.ref p2)) (h2L:p2∈L) (h2B:p2∈B) (h2A:p2∈A0) {n:Nat} (sub:∀x∈A',x∈A0)
  (hbase:attributeBase o "clear" X.env (eval o X.env)=eval o X.env:=by rfl) (hline:(apos.endLine == cpos.line)=true:=by rfl)
  (hsw:swapsWith (.Call (.Attribute o "clear" apos) [] [] cpos) none pos.line X.env=pure false:=by rfl) :
  PS X (.Expr (.Call (.Attribute o "clear" apos) [] [] cpos) pos) (fun E σ H=>(∃vs1,HJ X.K F A0 H0 B A' tt i p0 vs p1 vs1 L n σ H)∧∀σ' H',RS X.K (B++F) H' A' tt σ'→Gr A0 H0 A' H'→E.nx σ' H'):=by
 refine PS.imp (zm4 (pe_bm0 zbb3 PySem.F.slot_list_clear PySem.F.type_list_clear mt_clear ho hbase hline) hsw) ?_
 rintro E σ H ⟨⟨vs1,h⟩,q⟩
 obtain⟨us,a,c⟩:=h.ll p2 h2L
 refine⟨A',tt,.ref p0,[k2],.ref p2,h.rs,rfl,h.nm,h.reach e2,fun H1 gs=>⟨.inl ⟨rfl,us,SqL.of (gs _ _ a)⟩,p2,us,rfl,rfl,gs _ _ a,?_⟩⟩
 have h1:=h.grow gs sub h.gr.al
 refine q _ _ (h1.rs.updL (zax8 _ h2B)) ⟨fun b o nb w=>?_,fun b hb=>?_,h1.gr.nw⟩
 ·rw [zb3 (fun (z:b=p2)=>nb (z ▸ h2A))];exact h1.gr.kp b o nb w
 ·by_cases z:b=p2
  ·rw [z,za9];simp
  ·rw [zb3 z];exact h1.gr.al b hb
theorem ps_spA {apos cpos:Pos}{k1:Int}{fa:DE}{r:Ev} (ho:PE X o (plE X.K (B++F) i [dC (.int k1)])) (he:PE X a (dE X.K (B++F) fa)) (hr:fa tt=some r) (e1:atI vs k1=some (.ref p1)) (h1B:p1∈B) (h1A:p1∈A0) {n:Nat} (hn:n≤50000) (hv:vs1.length<n) (sub:∀x∈A',x∈A0) (hst:zaz1 [a] X.env=[(false,eval a X.env)]:=by rfl)
  (hbase:attributeBase o "append" X.env (eval o X.env)=eval o X.env:=by rfl)
  (hfew:((zbd7 cpos (zaz1 [a] X.env)).all (fun x=>!x.1)&&(backToKw cpos (keywordEach [] X.env)).all (fun x=>x.1.isSome)
   && decide ([a].length+([]:List Keyword).length+(if ([]:List Keyword).isEmpty then 0 else 1)<30))=true:=by rfl)
  (hline:(apos.endLine == cpos.line)=true:=by rfl) (hplain:(zbd7 cpos (zaz1 [] X.env)).any (·.1)=false:=by rfl)
  (hsw:swapsWith (.Call (.Attribute o "append" apos) [a] [] cpos) none pos.line X.env=pure false:=by rfl) :
  PS X (.Expr (.Call (.Attribute o "append" apos) [a] [] cpos) pos) (fun E σ H=>HJ X.K F A0 H0 B A' tt i p0 vs p1 vs1 L n σ H∧∀σ' H',(∃ws,HJ X.K F A0 H0 B A' tt i p0 vs p1 ws L n σ' H')→E.nx σ' H'):=by
 refine PS.imp (zm4 (zah3 zbb3 zbd1 zbd2 zj0 ho (zf1 he zi8 hst) hbase hfew hline hst hplain) hsw) ?_
 rintro E σ H ⟨h,q⟩
 refine⟨A',tt,.ref p0,[k1],.ref p1,h.rs,rfl,h.nm,h.reach e1,fun H1 gs=>⟨.inl ⟨rfl,vs1,SqL.of (gs _ _ h.l1)⟩,A',tt,r,h.rs.grow gs,hr,fun y H2 gs2 _=>⟨p1,vs1,y,rfl,rfl,gs2 _ _ (gs _ _ h.l1),zay8 (zay8 hv hn) (by rw [sizeLine_eq];decide),?_⟩⟩⟩
 have h1:=h.grow (gs.trans gs2) sub h.gr.al
 refine q _ _ ⟨vs1++[y],⟨h1.rs.updL (zax8 _ h1B),h1.nm,SqT.mono (zc9 (zax6 _ (zax8 _ h1B))) h1.tp,za9,fun b hb=>?_,⟨fun b o nb w=>?_,fun b hb=>?_,h1.gr.nw⟩⟩⟩
 ·by_cases z:b=p1
  ·exact⟨vs1++[y],by rw [z];exact za9,by rw [zba7,zbe3];lia⟩
  ·obtain⟨ws,a,c⟩:=h1.ll b hb
   exact⟨ws,by rw [zb3 z];exact a,c⟩
 ·rw [zb3 (fun (z:b=p1)=>nb (z ▸ h1A))];exact h1.gr.kp b o nb w
 ·by_cases z:b=p1
  ·rw [z,za9];simp
  ·rw [zb3 z];exact h1.gr.al b hb
theorem ps_spB {x:Str}{py apos cpos:Pos}{fa:DE}{r:Ev} (he:PE X a (dE X.K (B++F) fa)) (hr:fa tt=some r) (sub:∀x∈A',x∈A0) (hN:X.N[j]?=some x:=by rfl) (hv:Vis X.env.scope x:=by first | exact Or.inl rfl | exact Or.inr (Or.inl rfl) |exact Or.inr (Or.inr rfl)) (hd:(x ==("__debug__":Str))=false:=by decide)
  (hcd:(x ==("__classdict__":Str))=false:=by decide) (hst:zaz1 [a] X.env=[(false,eval a X.env)]:=by rfl)
  (hbase:attributeBase (.Name x py) "append" X.env (eval (.Name x py) X.env)=eval (.Name x py) X.env:=by rfl)
  (hfew:((zbd7 cpos (zaz1 [a] X.env)).all (fun x=>!x.1)&&(backToKw cpos (keywordEach [] X.env)).all (fun x=>x.1.isSome)
   && decide ([a].length+([]:List Keyword).length+(if ([]:List Keyword).isEmpty then 0 else 1)<30))=true:=by rfl)
  (hline:(apos.endLine == cpos.line)=true:=by rfl) (hplain:(zbd7 cpos (zaz1 [] X.env)).any (·.1)=false:=by rfl)
  (hsw:swapsWith (.Call (.Attribute (.Name x py) "append" apos) [a] [] cpos) none pos.line X.env=pure false:=by rfl) :
  PS X (.Expr (.Call (.Attribute (.Name x py) "append" apos) [a] [] cpos) pos) (fun E σ H => ∃q m,σ[j]?=some (some (.ref q))∧q∈L∧q∈B∧q∈A0∧q≠p1∧m<50000∧HJ X.K F A0 H0 B A' tt i p0 vs p1 vs1 L m σ H∧∀H',HJ X.K F A0 H0 B A' tt i p0 vs p1 vs1 L (m+1) σ H'→E.nx σ H'):=by
 refine PS.imp (zm4 (zah3 zbb3 zbd1 zbd2 zj0 (zo1 (i:=j) hN hv hd hcd) (zf1 he zi8 hst) hbase hfew hline hst hplain) hsw) ?_
 rintro E σ H ⟨q,m,nm,qL,qB,qA,q1,hm,h,k⟩
 obtain⟨us,a,c⟩:=h.ll q qL
 refine⟨_,nm,.inl ⟨rfl,us,SqL.of a⟩,A',tt,r,h.rs,hr,fun y H2 gs _=>⟨q,us,y,rfl,rfl,gs _ _ a,zba2 c (zay8 hm (by rw [sizeLine_eq];decide)),?_⟩⟩
 exact k _ ((h.grow gs sub h.gr.al).upd qB qA q1 (by rw [zba7,zbe3];lia) (by lia))
theorem ps_spF {x:Str}{pt:Pos}{k1:Int}{body:List Stmt} (hp:PassesOwn (model X.prog X.w) X.A X.env X.xe) (hc:X.calm=true) (ho:PE X o (plE X.K (B++F) i [dC (.int k1)])) (hg:PG X (.Name x pt) (zau5 j)) (e1:atI vs k1=some (.ref p1))
  (hb:PSs X body (fun E σ H => ∃q m,σ[j]?=some (some (.ref q))∧q∈L∧q∈B∧q∈A0∧q≠p1∧m<50000∧HJ X.K F A0 H0 B A' tt i p0 vs p1 vs1 L m σ H∧∀H',HJ X.K F A0 H0 B A' tt i p0 vs p1 vs1 L (m+1) σ H'→E.nx σ H'))
  (hq:∀v∈vs1,∃q,v=.ref q∧q∈L∧q∈B∧q∈A0∧q≠p1) (hj:tt[j]?=some .no) (ne:j≠i) {n:Nat} (hn:n+vs1.length<50000) (sub:∀x∈A',x∈A0)
  (hs:∀z,foldedSetIterable o X.env z=pure z:=by intro _;rfl) :
  PS X (.For (.Name x pt) o body [] pos) (fun E σ H=>HJ X.K F A0 H0 B A' tt i p0 vs p1 vs1 L n σ H∧∀σ' H',HJ X.K F A0 H0 B A' tt i p0 vs p1 vs1 L (n+vs1.length) σ' H'→E.nx σ' H'):=by
 refine PS.imp (zak5 hp hc (zah0 ho) hg hb hs) ?_
 rintro E σ H ⟨h,k⟩
 refine⟨A',tt,.ref p0,[k1],.ref p1,h.rs,rfl,h.nm,h.reach e1,fun H1 gs=>⟨p1,rfl,⟨vs1,SqL.of (gs _ _ h.l1)⟩,?_⟩⟩
 refine⟨fun a m σ1 H2=>a+m=vs1.length∧HJ X.K F A0 H0 B A' tt i p0 vs p1 vs1 L (n+a) σ1 H2,⟨vs1.length,by lia,h.grow gs sub h.gr.al⟩,?_⟩
 rintro a m σ1 H2 ⟨hm,h1⟩
 cases m with
 |zero =>
  have z:a=vs1.length:=by lia
  subst z
  exact .inl ⟨⟨vs1,SqL.of h1.l1,zba1 _⟩,k _ _ h1⟩
 |succ m =>
  have ha:a<vs1.length:=by lia
  refine .inr ⟨⟨vs1,vs1[a],SqL.of h1.l1,zay3 ha⟩,fun σ2 H3=>a+1+m=vs1.length∧HJ X.K F A0 H0 B A' tt i p0 vs p1 vs1 L (n+(a+1)) σ2 H3,fun σ2 H3 w=>⟨m,zbc5 m,w⟩,fun w H3 yl=>?_⟩
  obtain⟨ey,ew⟩:=yl
  subst ey
  have hw:=ew vs1 (SqL.of h1.l1)
  rw [zay3 ha]at hw
  cases hw
  obtain⟨q,eq,q1,q2,q3,q4⟩:=hq _ (zbe5 ha)
  have jlen:j<σ1.length:=by
   have:=h1.rs.rel.len
   refine Classical.byContradiction fun z=>?_
   rw [zbf8 (by lia)]at hj
   cases hj
  refine⟨q,n+a,?_,q1,q2,q3,q4,by lia,h1.name hj ne _,fun H' h'=>⟨by lia,h'⟩⟩
  rw [zbf2 jlen,eq]
end
end DL
namespace DL
open PySem.Spec L2
theorem RepDs.getB {K:zax7}{H0 H:Hp}:∀ {ds:List D}{vs:List V}{B:List Addr},RepDs K H0 H ds vs B→B.Nodup→∀ {k:Nat}{d:D},ds[k]?=some d→∃v C,vs[k]?=some v∧RepD K H0 H d v C∧(∀b∈C,b∈B)∧C.Nodup
 |_,_,_,.nil,_,k,d,e=>by simp at e
 |_,_,_,.cons (v:=v) (B:=B) h r,n,0,d,e=>by
  simp at e
  subst e
  exact⟨v,B,rfl,h,fun b hb=>zax8 _ hb,(zay9.mp n).1⟩
 |_,_,_,.cons h r,n,k+1,d,e=>by
  obtain⟨v,C,a,b,c,d'⟩:=RepDs.getB r (zay9.mp n).2.1 (k:=k) (by simpa using e)
  exact⟨v,C,by simpa using a,b,fun x hx=>zax6 _ (c x hx),d'⟩
theorem RepDs.atB {K:zax7}{H0 H:Hp}{ds:List D}{vs:List V}{B:List Addr} (r:RepDs K H0 H ds vs B) (n:B.Nodup) {k:Int}{d:D} (e:atI ds k=some d):∃v C,atI vs k=some v∧RepD K H0 H d v C∧(∀b∈C,b∈B)∧C.Nodup:=by
 obtain⟨j,e1,e2⟩:=atI_of e
 obtain⟨v,C,a,b⟩:=r.getB n e2
 refine⟨v,C,?_,b⟩
 unfold L2.atI
 rw [r.length,e1]
 exact a
def lenL:D→Bool
 |.lst xs=>decide (xs.length≤1000)
 |_=>false
theorem zap1 {K:zax7}{H0 H:Hp}:∀ {ds:List D}{vs:List V}{B:List Addr},RepDs K H0 H ds vs B→ds.all lenL=true→∃qs:List Addr,vs=qs.map V.ref∧∀q∈qs,q∈B∧∃us,H q=some (.lst us)∧us.length≤1000
 |_,_,_,.nil,_=>⟨[],rfl,fun q hq=>nomatch hq⟩
 |_,_,_,.cons (d:=d) h r,a=>by
  rw [zbh5,zay4]at a
  obtain⟨qs,e,k⟩:=zap1 r a.2
  cases h with
  |flat f _ =>
   cases d with
   |lst _=>simp [flat]at f
   |_=>simp [lenL]at a
  |tup _ _=>simp [lenL]at a
  |dct _ _ _=>simp [lenL]at a
  |pdc _=>simp [lenL]at a
  |@lst xs p us C hp rs =>
   have hl:xs.length≤1000:=by simpa [lenL] using a.1
   refine⟨p::qs,by rw [e];rfl,fun q hq=>?_⟩
   rcases zay5.mp hq with z | z
   ·subst z
    exact⟨zax8 _ (zay1 ..),us,hp,by rw [rs.length];exact hl⟩
   ·exact⟨zax6 _ (k q z).1,(k q z).2⟩
noncomputable def dHav (i j:Nat) (k1 k2:Int) (fa fb:DE) (g:DS):DS:=fun t=>match t[i]? with
 |some (.dp (.tup ds))=>(match atI ds k1,atI ds k2 with
  |some (.lst rows),some (.lst ws)=>if rows.all lenL&&decide (rows.length≤1000∧ws.length≤1000∧j<t.length)&&(fa ((t.set i .no).set j .no)).isSome&&(fb ((t.set i .no).set j .no)).isSome then g ((t.set i .no).set j .no) else none
  |_,_=>none)
 |_=>none
section
variable {X:Cx}{F:List Addr}{i j:Nat}{o1 o2 o3 a b:Expr}{fa fb:DE}{g:DS}{rest:List Stmt}
theorem psd_hav {x:Str}{k1 k2:Int}{py pt pos1 pos2 pos3 pb ap1 cp1 ap2 cp2 ap3 cp3:Pos} (ne:j≠i) (hp:PassesOwn (model X.prog X.w) X.A X.env X.xe) (hc:X.calm=true) (hg:PG X (.Name x pt) (zau5 j))
  (ho1:∀F,PE X o1 (plE X.K F i [dC (.int k1)])) (ho2:∀F,PE X o2 (plE X.K F i [dC (.int k1)])) (ho3:∀F,PE X o3 (plE X.K F i [dC (.int k2)])) (ha:∀F,PE X a (dE X.K F fa)) (hb:∀F,PE X b (dE X.K F fb)) (hr:PSs X rest (dS X.K F g))
  (hN:X.N[j]?=some x:=by rfl) (hv:Vis X.env.scope x:=by first | exact Or.inl rfl | exact Or.inr (Or.inl rfl) |exact Or.inr (Or.inr rfl)) (hd:(x ==("__debug__":Str))=false:=by decide) (hcd:(x ==("__classdict__":Str))=false:=by decide)
  (hs:∀z,foldedSetIterable o1 X.env z=pure z:=by intro _;rfl)
  (hst1:zaz1 [a] X.env=[(false,eval a X.env)]:=by rfl) (hbase1:attributeBase (.Name x py) "append" X.env (eval (.Name x py) X.env)=eval (.Name x py) X.env:=by rfl)
  (hfew1:((zbd7 cp1 (zaz1 [a] X.env)).all (fun x=>!x.1)&&(backToKw cp1 (keywordEach [] X.env)).all (fun x=>x.1.isSome)
   && decide ([a].length+([]:List Keyword).length+(if ([]:List Keyword).isEmpty then 0 else 1)<30))=true:=by rfl)
  (hline1:(ap1.endLine == cp1.line)=true:=by rfl) (hplain1:(zbd7 cp1 (zaz1 [] X.env)).any (·.1)=false:=by rfl) (hsw1:swapsWith (.Call (.Attribute (.Name x py) "append" ap1) [a] [] cp1) none pb.line X.env=pure false:=by rfl)
  (hst2:zaz1 [b] X.env=[(false,eval b X.env)]:=by rfl) (hbase2:attributeBase o2 "append" X.env (eval o2 X.env)=eval o2 X.env:=by rfl)
  (hfew2:((zbd7 cp2 (zaz1 [b] X.env)).all (fun x=>!x.1)&&(backToKw cp2 (keywordEach [] X.env)).all (fun x=>x.1.isSome)
   && decide ([b].length+([]:List Keyword).length+(if ([]:List Keyword).isEmpty then 0 else 1)<30))=true:=by rfl)
  (hline2:(ap2.endLine == cp2.line)=true:=by rfl) (hplain2:(zbd7 cp2 (zaz1 [] X.env)).any (·.1)=false:=by rfl) (hsw2:swapsWith (.Call (.Attribute o2 "append" ap2) [b] [] cp2) none pos2.line X.env=pure false:=by rfl)
  (hbase3:attributeBase o3 "clear" X.env (eval o3 X.env)=eval o3 X.env:=by rfl) (hline3:(ap3.endLine == cp3.line)=true:=by rfl) (hsw3:swapsWith (.Call (.Attribute o3 "clear" ap3) [] [] cp3) none pos3.line X.env=pure false:=by rfl) :
  PSs X (.For (.Name x pt) o1 [.Expr (.Call (.Attribute (.Name x py) "append" ap1) [a] [] cp1) pb] [] pos1::.Expr (.Call (.Attribute o2 "append" ap2) [b] [] cp2) pos2::.Expr (.Call (.Attribute o3 "clear" ap3) [] [] cp3) pos3::rest) (dS X.K F (dHav i j k1 k2 fa fb g)):=by
 intro pins s σ H E I h
 obtain⟨A,t,o,R,e,p⟩:=zan7 h
 unfold dHav at e
 split at e
 case h_2=>cases e
 rename_i ds z
 split at e
 case h_2=>cases e
 rename_i rows ws a1 a2
 split at e
 case isFalse=>cases e
 rename_i ok
 simp only [zay4,decide_eq_true_eq]at ok
 obtain⟨⟨⟨okL,okR,okW,okj⟩,okA⟩,okB⟩:=ok
 obtain⟨ra,era⟩:=zbg8.mp okA
 obtain⟨rb,erb⟩:=zbg8.mp okB
 obtain⟨v,B,A1,s1,R1,nB,djB,rd,sA1,sB⟩:=R.takeDp z
 cases rd with
 |flat f _ =>
  have:=flat_at (ds:=ds) (by simpa [flat] using f) a1
  simp [flat]at this
 |@tup _ p0 vs _ ht rs =>
  obtain⟨v1,C1,e1,r1,c1,n1⟩:=rs.atB nB a1
  obtain⟨v2,C2,e2,r2,c2,n2⟩:=rs.atB nB a2
  cases r1 with
  |flat f _=>simp [flat]at f
  |@lst _ p1 vs1 B1 hp1 rr =>
   cases r2 with
   |flat f _=>simp [flat]at f
   |@lst _ p2 vs2 B2 hp2 rr2 =>
    obtain⟨qs,eq,hq⟩:=zap1 rr okL
    obtain⟨A',sub,R2⟩:=R1.forget j
    have subA:∀x∈A',x∈A:=fun x hx=>sA1 x (sub x hx)
    have p1B:p1∈B:=c1 p1 (zay1 ..)
    have p2B:p2∈B:=c2 p2 (zay1 ..)
    have pn:p1∉B1:=(zaz8.mp n1).1
    have vl:vs1.length≤1000:=by rw [rr.length];exact okR
    have J0:HJ X.K F A H B A' ((t.set i .no).set j .no) i p0 vs p1 vs1 (p2::qs) 1000 σ H:=by
     refine⟨R2,s1,SqT.mono (za7 H fun x hx=>?_) ht,hp1,fun b hb=>?_,⟨fun _ _ _ w=>w,fun b hb=>?_,fun b hb=>.inl (subA b hb)⟩⟩
     ·exact (zay0.mp hx).elim (fun w=>zax8 _ (sub x w)) (zax6 _)
     ·rcases zay5.mp hb with w | w
      ·exact⟨vs2,by rw [w];exact hp2,by rw [rr2.length];exact okW⟩
      ·exact (hq b w).2
     ·obtain⟨us,w⟩:=R.mu b (zax8 _ hb)
      rw [w];simp
    have hqs:∀v∈vs1,∃q,v=.ref q∧q∈p2::qs∧q∈B∧q∈A∧q≠p1:=fun v hv'=>by
     rw [eq]at hv'
     obtain⟨q,hq',rfl⟩:=zba3.mp hv'
     have qb:=(hq q hq').1
     exact⟨q,rfl,zax9 _ hq',c1 q (zax9 _ qb),sB q (c1 q (zax9 _ qb)),fun w=>pn (w ▸ qb)⟩
    have hj:((t.set i .no).set j .no)[j]?=some .no:=by
     rw [zbf2 (by rw [List.length_set];exact okj)]
    have P1:=ps_spF (X:=X) (F:=F) (A0:=A) (H0:=H) (B:=B) (A':=A') (tt:=(t.set i .no).set j .no) (i:=i) (j:=j) (p0:=p0) (vs:=vs) (p1:=p1) (vs1:=vs1) (L:=p2::qs) (pos:=pos1) hp hc (ho1 (B++F)) hg e1 (zap4 (ps_spB (x:=x) (py:=py) (apos:=ap1) (cpos:=cp1) (pos:=pb) (ha (B++F)) era subA hN hv hd hcd hst1 hbase1 hfew1 hline1 hplain1 hsw1)) hqs hj ne (n:=1000) (by lia) subA hs
    have P2:=ps_spA (X:=X) (F:=F) (A0:=A) (H0:=H) (B:=B) (A':=A') (tt:=(t.set i .no).set j .no) (i:=i) (p0:=p0) (vs:=vs) (p1:=p1) (vs1:=vs1) (L:=p2::qs) (pos:=pos2) (apos:=ap2) (cpos:=cp2) (ho2 (B++F)) (hb (B++F)) erb e1 p1B (sB p1 p1B) (n:=1000+vs1.length+1) (by lia) (by lia) subA hst2 hbase2 hfew2 hline2 hplain2 hsw2
    have P3:=ps_spC (X:=X) (F:=F) (A0:=A) (H0:=H) (B:=B) (A':=A') (tt:=(t.set i .no).set j .no) (i:=i) (p0:=p0) (vs:=vs) (p1:=p1) (L:=p2::qs) (pos:=pos3) (apos:=ap3) (cpos:=cp3) (ho3 (B++F)) e2 (zay1 ..) p2B (sB p2 p2B) (n:=1000+vs1.length+1) subA hbase3 hline3 hsw3
    refine (zs9 P1 (zs9 P2 (zs9 P3 hr))) pins s σ H E I ?_
    refine⟨J0,fun σ1 H1 h1=>⟨⟨h1.rs,h1.nm,h1.tp,h1.l1,fun b hb'=>let ⟨us,x,y⟩:=h1.ll b hb';⟨us,x,by lia⟩,h1.gr⟩,fun σ2 H2 h2=>⟨h2,fun σ3 H3 R3 g3=>?_⟩⟩⟩
    exact zav4 (R3.less fun b hb'=>zax6 _ hb') e (p.back g3)
end
end DL
namespace KX
open PySem.Spec L2 DL
abbrev qA':=kOr (kI tt2 fun i j=>.int (i+j)) kCat
abbrev qM:=kOr (kI cMul fun i j=>.int (i*j)) kRep
abbrev qV:=kI cDiv fun i j=>.int (i.fdiv j)
abbrev qR:=kI cMod fun i j=>.int (i.fmod j)
abbrev qL':=kI tt2 fun i j=>.bl (decide (i<j))
abbrev qE:=kI tt2 fun i j=>.bl (decide (i≤j))
abbrev qG:=kI tt2 fun i j=>.bl (decide (j<i))
abbrev qU:=kBls fun bs=>bs.all id
theorem app_of (t:Th) {f:DE}{i:Nat}{xs:List D}{d:D} (hf:f t=some (.cl d)) (hi:t[i]?=some (.own xs)) (hl:xs.length<100000):dApp i f t=some (.nx (t.set i (.own (xs++[d])))):=by
 unfold dApp
 rw [hf]
 simp only [zay2,kApp,hi,Ev.ok,Ev.d,hl,decide_true,Bool.and_self,if_true]
theorem asg_of (t:Th) {f:DE}{i:Nat}{d:D} (hf:f t=some (.cl d)) (hi:i<t.length):dAsg i f t=some (.nx (t.set i (.val d))):=by
 unfold dAsg
 rw [hf]
 simp only [zay2,zm1,hi,if_true,zbc0]
theorem zg4:∀xs:List Int,flats (xs.map D.int)=true
 |[]=>rfl
 |x::xs=>by
  have:=zg4 xs
  simp [flats,flat,this]
theorem zq7 {k:List Ev→Option Ev}{fa fb:DE}{t:Th}{ra rb:Ev} (h1:fa t=some ra) (h2:fb t=some rb):dT1 k (za2 fa (za2 fb dNil)) t=k [ra,rb]:=by
 simp [dT1,za2,dNil,h1,h2]
theorem zi4 {k:Ev→Ev→Option Ev}{fa fb:DE}{t:Th}{ra rb:Ev} (h1:fa t=some ra) (h2:fb t=some rb):d2 k fa fb t=k ra rb:=by
 simp [d2,h1,h2]
theorem t4_of {k:List Ev→Option Ev}{fa fb fc fd:DE}{t:Th}{ra rb rc rd:Ev} (h1:fa t=some ra) (h2:fb t=some rb) (h3:fc t=some rc) (h4:fd t=some rd):dT1 k (za2 fa (za2 fb (za2 fc (za2 fd dNil)))) t=k [ra,rb,rc,rd]:=by
 simp [dT1,za2,dNil,h1,h2,h3,h4]
theorem t3_of {k:List Ev→Option Ev}{fa fb fc:DE}{t:Th}{ra rb rc:Ev} (h1:fa t=some ra) (h2:fb t=some rb) (h3:fc t=some rc):dT1 k (za2 fa (za2 fb (za2 fc dNil))) t=k [ra,rb,rc]:=by
 simp [dT1,za2,dNil,h1,h2,h3]
theorem zw2 {k:List Ev→Option Ev}{fa:DE}{t:Th}{ra:Ev} (h1:fa t=some ra):dT1 k (za2 fa dNil) t=k [ra]:=by
 simp [dT1,za2,dNil,h1]
theorem zm0 {t:Th}{f:DE}{i:Nat}{d:D} (hf:f t=some (.cl d)) (hi:i<t.length):dAsg i f t=some (.nx (t.set i (.val d))):=asg_of t hf hi
theorem zaf6 {t:Th}{f:DE}{i:Nat}{xs:List D} (hf:f t=some (.nw xs)) (hi:i<t.length):dAsg i f t=some (.nx (t.set i (.own xs))):=by
 unfold dAsg
 rw [hf]
 simp only [zay2,zm1,hi,if_true,zbc0]
theorem zad0 (n b:Nat) (h:b<n):ixN n (b:Int)=some b:=by unfold ixN;rw [if_pos (by lia),if_pos (by lia)];simp
theorem get_map (L:List Int) (b:Nat) (h:b<L.length):(L.map D.int)[b]?=some (.int (L.getD b 0)):=by simp [zay7,h]
theorem at_map (L:List Int) (b:Nat) (h:b<L.length):atI (L.map D.int) (b:Int)=some (.int (L.getD b 0)):=by
 unfold atI
 rw [zad0 _ _ (by simpa using h)]
 exact get_map L b h
theorem ixEv {r1 r2:Ev} (L:List Int) (b:Nat) (h:b<L.length) (h1:r1.d=.lst (L.map D.int)) (h2:r2.d=.int (b:Int)):kIx r1 r2=some (.cl (.int (L.getD b 0))):=by
 unfold kIx
 rw [h1,h2]
 show (atI (L.map D.int) (b:Int)).map _=_
 rw [at_map L b h]
 simp [flat]
theorem ifs_of {c:DT}{g1 g2:DS}{t:Th}{b:Bool} (h:c t=some b):dIfS c g1 g2 t=if b then g1 t else g2 t:=by
 unfold dIfS;rw [h];rfl
theorem ifs_t {c:DT}{g1 g2:DS}{t:Th}{b:Bool} (h:c t=some b) (hb:b=true):dIfS c g1 g2 t=g1 t:=by
 rw [ifs_of h,hb];rfl
theorem ifs_f {c:DT}{g1 g2:DS}{t:Th}{b:Bool} (h:c t=some b) (hb:b=false):dIfS c g1 g2 t=g2 t:=by
 rw [ifs_of h,hb];rfl
theorem app_map (t:Th) {f:DE}{i:Nat}{xs:List Int}{p:Int} (hf:f t=some (.cl (.int p))) (hi:t[i]?=some (.own (xs.map D.int))) (hl:xs.length<100000):dApp i f t=some (.nx (t.set i (.own ((xs++[p]).map D.int)))):=by
 rw [app_of t hf hi (by simpa using hl)]
 simp
theorem seq_rt {g1 g2:DS}{t:Th}{r:Ev} (h:g1 t=some (.rt r)):dSeq g1 g2 t=some (.rt r):=by simp [dSeq,h]
theorem grd {c:DT}{g:DS}{t:Th}{b:Bool} (h:c t=some b) (hb:b=false):dIfS c g zi3 t=some (.nx t):=(ifs_f h hb).trans rfl
theorem grd_t {c:DT}{g:DS}{t:Th}{b:Bool}{d:D} (h:c t=some b) (hb:b=true):dIfS c (dRet (dC d)) g t=some (.rt (.cl d)):=(ifs_t h hb).trans rfl
theorem bnd {g:Option Out}{r:Ev} (h:g=some (.rt r)):g.bind zm6=some r:=by rw [h];rfl
theorem zs4 {fa fb:DE}{t:Th}{a b:Int} (h1:fa t=some (.cl (.int a))) (h2:fb t=some (.cl (.int b))):(d2 qA' fa fb) t=some (.cl (.int (a+b))):=(zi4 h1 h2).trans rfl
theorem zq1 {fa fb:DE}{t:Th}{a b:Int} (h1:fa t=some (.cl (.int a))) (h2:fb t=some (.cl (.int b))) (hb:b≠0):(d2 qR fa fb) t=some (.cl (.int (a.fmod b))):=by
 rw [zi4 h1 h2]
 show (if cMod a b=true then _ else none)=_
 rw [if_pos (by unfold cMod;exact decide_eq_true hb)]
theorem zy0 {fa fb:DE}{t:Th}{a b:Int} (h1:fa t=some (.cl (.int a))) (h2:fb t=some (.cl (.int b))) (hb:b≠0) (hs:sm b=true):(d2 qV fa fb) t=some (.cl (.int (a.fdiv b))):=by
 rw [zi4 h1 h2]
 show (if cDiv a b=true then _ else none)=_
 rw [if_pos (by unfold cDiv;rw [hs];simp [hb])]
theorem zi9 {fa fb:DE}{t:Th}{a b:Int} (h1:fa t=some (.cl (.int a))) (h2:fb t=some (.cl (.int b))) (ha:sm a=true) (hb:sm b=true):(d2 qM fa fb) t=some (.cl (.int (a*b))):=by
 rw [zi4 h1 h2]
 have:cMul a b=true:=by simp only [cMul];rw [ha,hb];rfl
 simp [kOr,kI,Ev.d,this]
theorem zas8 {fa fb:DE}{t:Th}{a b:Int} (h1:fa t=some (.cl (.int a))) (h2:fb t=some (.cl (.int b))):dBo (d2 qL' fa fb) t=some (decide (a<b)):=by
 unfold dBo;rw [zi4 h1 h2];rfl
theorem gt_of {fa fb:DE}{t:Th}{a b:Int} (h1:fa t=some (.cl (.int a))) (h2:fb t=some (.cl (.int b))):dBo (d2 qG fa fb) t=some (decide (b<a)):=by
 unfold dBo;rw [zi4 h1 h2];rfl
theorem neI_of {fa fb:DE}{t:Th}{a b:Int} (h1:fa t=some (.cl (.int a))) (h2:fb t=some (.cl (.int b))):dBo (d2 kNe fa fb) t=some (!decide (a=b)):=by
 unfold dBo;rw [zi4 h1 h2]
 have:kNe (.cl (.int a)) (.cl (.int b))=some (.cl (.bl (!eqD (.int a) (.int b)))):=rfl
 rw [this,zau7];rfl
theorem or_of {f g:DT}{t:Th}{a b:Bool} (h1:f t=some a) (h2:a=false→g t=some b):dOr f g t=some (a||b):=by
 unfold dOr;rw [h1]
 cases a with
 |true=>rfl
 |false=>simp [h2 rfl]
theorem zar8 {f g:DT}{t:Th}{a b:Bool} (h1:f t=some a) (h2:g t=some b):dOr f g t=some (a||b):=or_of h1 fun _=>h2
theorem zx5 {t:Th}{f:DE}{r:Ev}{xs:List Int} (h:f t=some r) (hr:r.d=.lst (xs.map D.int)):(dT1 kLen (za2 f dNil)) t=some (.cl (.int (xs.length:Int))):=by
 rw [zw2 h]
 unfold kLen
 simp only [hr,zba6]
theorem zx8 {fa fb:DE}{t:Th}{r1 r2:Ev} (L:List Int) (b:Nat) (ha:fa t=some r1) (hb:fb t=some r2) (h:b<L.length) (h1:r1.d=.lst (L.map D.int)) (h2:r2.d=.int (b:Int)):(d2 kIx fa fb) t=some (.cl (.int (L.getD b 0))):=by
 rw [zi4 ha hb,ixEv L b h h1 h2]
theorem calln {G:List D→Option Ev}{rs:List Ev}{xs:List Int} (h:G (rs.map Ev.d)=some (.nw (xs.map D.int))):zd3 G rs=some (.nw (xs.map D.int)):=by
 unfold zd3
 rw [h]
 simp only [zbc0,upEv]
 split
 ·rfl
 ·simp [zg4]
theorem zx0 {G:List D→Option Ev}{rs:List Ev}{d:D} (h:G (rs.map Ev.d)=some (.cl d)) (hf:flat d=true):zd3 G rs=some (.cl d):=by
 unfold zd3
 rw [h]
 simp only [zbc0,upEv]
 split
 ·rfl
 ·simp [hf]
theorem cns {f:DE}{g:DA}{t:Th}{r:Ev}{rs:List Ev} (h1:f t=some r) (h2:g t=some rs):za2 f g t=some (r::rs):=by
 unfold za2;rw [h1,h2];rfl
theorem zam2 {f:DE}{t:Th}{b:Bool} (h:f t=some (.cl (.bl b))):dTr f t=some b:=by
 unfold dTr;rw [h];rfl
theorem not_of {f:DT}{t:Th}{b:Bool} (h:f t=some b):dNot f t=some (!b):=by
 unfold dNot;rw [h];rfl
theorem zu1 {f:DE}{t:Th}{r:Ev} (h:f t=some r):dRet f t=some (.rt r):=by
 unfold dRet;rw [h];rfl
theorem for_of {k:D→Th→Option Th}{f:DE}{b:DS}{t:Th}{r:Ev}{ds:List D} (h:f t=some r) (hd:r.d=.lst ds) (ho:r.ok=true):dFor k f b t=forD k b ds t:=by
 unfold dFor
 rw [h]
 simp only [zay2,hd,ho,if_true]
theorem zag2 (n:Nat):Builtin.Range.rangeSize 0 (n:Int) 1=(n:Int):=by
 unfold Builtin.Range.rangeSize
 rw [if_pos (by lia)]
 split<;>lia
theorem ok_of {n:Nat} (hn:n≤1000):zk2 0 (n:Int) 1=true:=by
 unfold zk2
 rw [small_of (by lia) (by lia),zag2,decide_eq_true (by lia)]
 rfl
theorem lr_of {f:DE}{t:Th}{n:Nat} (h:f t=some (.cl (.int (n:Int)))) (hn:n≤1000):(zk6 (za2 f dNil)) t=some (.nw ((zb7 n).map D.int)):=by
 have e:(za2 f dNil) t=some [.cl (.int (n:Int))]:=by simp [za2,dNil,h]
 have e2:rArgs ([Ev.cl (.int (n:Int))].map Ev.d)=some (0,(n:Int),1):=rfl
 have c:(zk2 0 (n:Int) 1&&decide (Builtin.Range.rangeSize 0 (n:Int) 1≤50000))=true:=by
  rw [ok_of hn,zag2,decide_eq_true (by lia)];rfl
 unfold zk6
 rw [e,zay2,e2,zay2,if_pos c]
 unfold rng3 zb7
 rw [zag2,zbg4]
 simp
theorem sum_of {f:DE}{t:Th}{r:Ev}{xs:List Int} (h:f t=some r) (hr:r.d=.lst (xs.map D.int)):(dT1 kSum (za2 f dNil)) t=some (.cl (.int xs.sum)):=by
 rw [zw2 h]
 unfold kSum
 simp only [hr,zm8]
 rfl
def stG (W:Int→Int) (b x:Int):Int:=if W b<W x then x else b
theorem zax1 {fb:DE}{W:Int→Int}{cs:List D}:∀(l:List Int) (b:Int),(∀x∈l,fb (.val (.int x)::cs.map Sl.val)=some (.cl (.int (W x))))→zax2 true fb cs (.int b) (.int (W b)) (l.map D.int)=some (.int (l.foldl (stG W) b))
 |[],b,_=>rfl
 |x::l,b,h=>by
  have e:=h x (zay1 ..)
  simp only [zaz3,zax2,e,zay2,Ev.d,flat,if_true,cmpD,cmpI,zbh4]
  have ih:=fun b=>zax1 l b fun y hy=>h y (zax9 _ hy)
  by_cases c:W b<W x
  ·rw [if_pos (decide_eq_true c),show stG W b x=x from if_pos c];exact ih x
  ·rw [if_neg (by simpa using c),show stG W b x=b from if_neg c];exact ih b
theorem key_of {fa fb:DE}{W:Int→Int}{cs:List D}{b:Bool}{cap:List Nat}{t:Th}{r:Ev}{x:Int}{l:List Int} (ha:fa t=some r) (hr:r.d=.lst ((x::l).map D.int)) (hc:capD t cap=some (b,cs)) (h:∀y∈x::l,fb (.val (.int y)::cs.map Sl.val)=some (.cl (.int (W y)))):dKey true cap fa fb t=some (.cl (.int (l.foldl (stG W) x))):=by
 unfold dKey
 rw [ha,hc]
 simp only [zay2,hr,zaz3]
 rw [show (zk4 (D.int x::l.map D.int)).isSome=true by rw [← zaz3 (f:=D.int),zm8];rfl,if_pos rfl,h x (zay1 ..)]
 simp only [zay2,Ev.d,flat,if_true]
 rw [zax1 l x fun y hy=>h y (zax9 _ hy)]
 rfl
def rwD (r:List Int):D:=.lst (r.map D.int)
def mD (M:List (List Int)):D:=.lst (M.map rwD)
structure Sq (n:Nat) (M:List (List Int)):Prop where
 len:M.length=n
 row:∀r∈M,r.length=n
theorem row_at {fa fb:DE}{t:Th}{r1:Ev}{M:List (List Int)}{i:Int} (ha:fa t=some r1) (h1:r1.d=mD M) (hb:fb t=some (.cl (.int i))) (i0:0≤i) (il:i<(M.length:Int)):∃r,(d2 kIx fa fb) t=some r∧r.d=rwD (M.getD i.toNat []):=by
 rw [zi4 ha hb]
 unfold kIx
 rw [h1]
 have hl:i.toNat<M.length:=by lia
 have e:atI (M.map rwD) i=some (rwD (M.getD i.toNat [])):=by
  unfold atI
  have:ixN (M.map rwD).length i=some i.toNat:=by
   have:=zad0 (M.map rwD).length i.toNat (by simpa using hl)
   rwa [zbi8 i0]at this
  rw [this]
  simp [zay7,hl]
 show ∃r,((atI (M.map rwD) i).map _)=some r∧_
 rw [e]
 refine⟨_,rfl,?_⟩
 dsimp only
 split<;>rfl
theorem zat3 {t:Th}{f:DE}{r:Ev}{M:List (List Int)} (h:f t=some r) (hr:r.d=mD M):(dT1 kLen (za2 f dNil)) t=some (.cl (.int (M.length:Int))):=by
 rw [zw2 h]
 unfold kLen
 simp only [hr,mD,zba6]
def topI' (L:List Int):Int:=zo8 (L.headD 0) L.tail
theorem extt_of {f:DE}{t:Th}{r:Ev}{L:List Int} (h:f t=some r) (hr:r.d=.lst (L.map D.int)) (hl:0<L.length):(dT1 (zan3 zo8) (za2 f dNil)) t=some (.cl (.int (topI' L))):=by
 rw [zw2 h]
 unfold zan3
 simp only [hr,zm8]
 cases L with
 |nil=>simp at hl
 |cons x r=>rfl
theorem zh1 {n:Nat}{x:Int} (h:x∈zb7 n):0≤x∧x<(n:Int):=by
 obtain⟨i,hi⟩:=List.mem_iff_getElem?.mp h
 obtain⟨q,l⟩:=zas4 hi
 lia
theorem zl5 {n:Nat}{x:Int} (h0:0≤x) (h1:x<(n:Int)):x∈zb7 n:=by
 unfold zb7
 exact zba3.mpr ⟨x.toNat,zbi0.mpr (by lia),by lia⟩
theorem zy5:∀ {l C:List Int},l.Nodup→(∀x∈l,x∈C)→l.length≤C.length
 |[],C,_,_=>zbn0 _
 |x::l,C,nd,h=>by
  rw [zaz8]at nd
  have hx:=h x (zay1 ..)
  have:=zy5 (l:=l) (C:=C.erase x) nd.2 fun y hy=>(zbm4 (fun e=>nd.1 (by rw [← e];exact hy))).mpr (h y (zax9 _ hy))
  rw [zbk3 hx]at this
  have:=zbf4 hx
  simp only [zbb7]
  lia
theorem zas3 (n:Nat):(zb7 n).Nodup:=by
 unfold zb7
 refine List.pairwise_map.mpr ?_
 exact (zbp1 (n:=n)).imp fun h e=>h (by lia)
structure CIn (n:Nat) (C:List Int):Prop where
 ne:0<C.length
 rg:∀x∈C,0≤x∧x<(n:Int)
def dV (P:List Int) (V:Int→Int):D:=.dct (P.map Sum.inl) (P.map fun p=>.int (V p))
def ltr (n:Int):Nat→List Int→Int→Int
 |_,[],_=>n
 |i,x::xs,p=>if x=p then (i:Int) else ltr n (i+1) xs p
def Fo (v:Int→Int) (p q:Int):Prop:=v q<v p∨(v q=v p∧p≤q)
theorem for_I {k:D→Th→Option Th}{b:DS}{f:Nat→D}{P:Nat→Th→Prop}{n:Nat} (hb:∀x,x<n→∀t,P x t→∃t1 t2,k (f x) t=some t1∧b t1=some (.nx t2)∧P (x+1) t2):∀(m i:Nat) (t:Th),i+m=n→P i t→∃t',forD k b ((List.range' i m).map f) t=some (.nx t')∧P n t'
 |0,i,t,e,h=>⟨t,rfl,by rw [← e];exact h⟩
 |m+1,i,t,e,h=>by
  obtain⟨t1,t2,e1,e2,h2⟩:=hb i (by lia) t h
  obtain⟨t',e3,h'⟩:=for_I hb m (i+1) t2 (by lia) h2
  refine⟨t',?_,h'⟩
  rw [List.range'_succ,zaz3]
  simp only [forD,e1,e2,zay2,e3]
theorem for_I0 {k:D→Th→Option Th}{b:DS}{f:Nat→D}{P:Nat→Th→Prop}{n:Nat} (hb:∀x,x<n→∀t,P x t→∃t1 t2,k (f x) t=some t1∧b t1=some (.nx t2)∧P (x+1) t2) (t:Th) (h:P 0 t):∃t',forD k b ((zbb6 n).map f) t=some (.nx t')∧P n t':=by
 have:=for_I hb n 0 t (by lia) h
 rwa [List.range_eq_range']
def DI (n:Int) (P:List Int) (V:Int→Int) (i:Nat) (ps:List Int):Prop := ∀q,(if q∈P then V q else n)=ltr n i (ps.drop i) q
end KX
set_option maxHeartbeats 1000000
namespace KX
theorem zal0:∀ {A B:List Int},A.Nodup→(∀x∈A,x∈B)→A.length≤B.length
 |[],B,_,_=>by simp
 |a::A,B,n,h=>by
  have ha:a∈B:=h a (by simp)
  have n':=zaz8.mp n
  have:=zal0 (A:=A) (B:=B.erase a) n'.2 fun x hx=>by
   have ne:x≠a:=fun z=>n'.1 (z ▸ hx)
   exact (zbm4 ne).mpr (h x (zax9 _ hx))
  rw [zbk3 ha]at this
  have:0<B.length:=zbf4 ha
  simp only [zbb7]
  lia
def mxL:List Nat→Nat
 |[]=>0
 |a::l=>max a (mxL l)
theorem zac9:∀ {l:List Nat}{a:Nat},a∈l→a≤mxL l
 |b::l,a,h=>by
  rcases zay5.mp h with rfl | h
  ·exact Nat.le_max_left _ _
  ·exact zaz4 (zac9 h) (Nat.le_max_right _ _)
theorem zz4:∀ {l:List Nat},l≠[]→mxL l∈l
 |[a],_=>by simp [mxL]
 |a::b::l,_=>by
  have:=zz4 (l:=b::l) (by simp)
  show max a (mxL (b::l))∈_
  by_cases h:a≤mxL (b::l)
  ·rw [Nat.max_eq_right h];exact zax9 _ this
  ·rw [Nat.max_eq_left (by lia)];exact zay1 ..
theorem mxL_le {l:List Nat}{n:Nat} (h:∀a∈l,a≤n):mxL l≤n:=by
 by_cases z:l=[]
 ·subst z;exact zbn0 _
 ·exact h _ (zz4 z)
abbrev Hd:=List (Int×Nat)
def nwS (hd:Hd) (s:List Int):List Int:=s.filter fun x=>decide (x∉hd.map Prod.fst)
def lnS (hd:Hd) (ss:List (List Int)):List Nat:=ss.map fun s=>(nwS hd s).length
def bst (hd:Hd) (ss:List (List Int)):Nat:=(lnS hd ss).idxOf (mxL (lnS hd ss))
def adS (hd:Hd) (ss:List (List Int)):Hd:=hd++(nwS hd (ss.getD (bst hd ss) [])).map fun x=>(x,mxL (lnS hd ss))
theorem zy1 {hd:Hd}{ss:List (List Int)} (h:ss≠[]):bst hd ss<ss.length:=by
 have e:(lnS hd ss).length=ss.length:=by simp [lnS]
 rw [← e]
 refine List.idxOf_lt_length_of_mem (zz4 fun z=>h ?_)
 rw [lnS,zbi9]at z
 exact z
theorem zaj2 {hd:Hd}{ss:List (List Int)} (h:ss≠[]):ss.getD (bst hd ss) []∈ss:=by
 have:=zy1 (hd:=hd) h
 rw [zay7,zay3 this]
 exact zbe5 _
theorem zw0 {hd:Hd}{ss:List (List Int)} (h:ss≠[]):(nwS hd (ss.getD (bst hd ss) [])).length=mxL (lnS hd ss):=by
 have l:=zy1 (hd:=hd) h
 have l':bst hd ss<(lnS hd ss).length:=by simpa [lnS] using l
 have e:(lnS hd ss)[bst hd ss]=mxL (lnS hd ss):=zbn2 l'
 rw [zay7,zay3 l]
 rw [← e]
 simp [lnS]
structure Pt (w:Nat→Nat) (L N:Nat):Prop where
 eq:∀m,1≤m→m≤N→m*w m=L
theorem Pt.anti {w:Nat→Nat}{L N:Nat} (p:Pt w L N) {a b:Nat} (ha:1≤a) (hab:a≤b) (hb:b≤N):w b≤w a:=by
 refine Nat.le_of_not_lt fun c=>?_
 have e1:=p.eq a ha (by lia)
 have e2:=p.eq b (by lia) hb
 have h1:a*w a<a*w b:=Nat.mul_lt_mul_of_pos_left c ha
 have h2:a*w b≤b*w b:=zbb8 _ hab
 lia
def Hw (w:Nat→Nat):Nat→Nat
 |0=>0
 |n+1=>Hw w n+w (n+1)
theorem zax5 (w:Nat→Nat) {a b:Nat} (h:a≤b):Hw w a≤Hw w b:=by
 induction b with
 |zero=>rw [Nat.le_zero.mp h];exact zba1 _
 |succ b ih =>
  rcases zbj7 h with h | h
  ·exact zaz4 (ih (by lia)) (Nat.le_add_right _ _)
  ·rw [h];exact zba1 _
theorem Hw_add {w:Nat→Nat}{L N m:Nat} (p:Pt w L N) (hm:m≤N) (r:Nat):∀c,r+c≤m→c*w m+Hw w r≤Hw w (r+c)
 |0,_=>by simp
 |c+1,h=>by
  have i:=Hw_add p hm r c (by lia)
  have a:=p.anti (a:=r+c+1) (b:=m) (by lia) (by lia) hm
  show (c+1)*w m+Hw w r≤Hw w (r+c)+w (r+c+1)
  rw [zbh3]
  lia
def paid (w:Nat→Nat) (hd:Hd) (s:List Int):Nat:=(hd.map fun p=>if p.1∈s then w p.2 else 0).sum
def totW (w:Nat→Nat) (hd:Hd):Nat:=(hd.map fun p=>w p.2).sum
theorem tot_app (w:Nat→Nat) (a b:Hd):totW w (a++b)=totW w a+totW w b:=by simp [totW]
theorem paid_app (w:Nat→Nat) (a b:Hd) (s:List Int):paid w (a++b) s=paid w a s+paid w b s:=by simp [paid]
theorem zao4 (w:Nat→Nat) (m:Nat):∀xs:List Int,totW w (xs.map fun x=>(x,m))=xs.length*w m
 |[]=>by simp [totW]
 |x::xs=>by
  have:=zao4 w m xs
  unfold totW at this ⊢
  simp only [zaz3,zbf5,zbb7,zbh3,this]
  lia
theorem zak7 (w:Nat→Nat) (m:Nat) (s:List Int):∀xs:List Int,paid w (xs.map fun x=>(x,m)) s=(xs.filter fun x=>decide (x∈s)).length*w m
 |[]=>by simp [paid]
 |x::xs=>by
  have:=zak7 w m s xs
  unfold paid at this ⊢
  by_cases h:x∈s
  ·simp only [zaz3,zbf5,h,if_true,this,zbh0,decide_true,zbb7,zbh3]
   lia
  ·simp only [zaz3,zbf5,h,if_false,this,decide_false,zbh1,zbf6,not_false_eq_true]
   lia
structure GI (ss:List (List Int)) (w:Nat→Nat) (L:Nat) (hd:Hd) (n:Nat):Prop where
 nd:(hd.map Prod.fst).Nodup
 tt:totW w hd=n*L
 pay:∀s∈ss,paid w hd s+Hw w (nwS hd s).length≤Hw w s.length
 sub:∀x∈hd.map Prod.fst,∃s∈ss,x∈s
theorem GI.nil (ss:List (List Int)) (w:Nat→Nat) (L:Nat):GI ss w L [] 0:=by
 refine⟨zba8,by simp [totW],fun s _=>?_,fun x hx=>nomatch hx⟩
 show 0+Hw w (nwS [] s).length≤_
 rw [zbm3]
 exact zax5 w (zbe4 _ _)
theorem mem_nwS {hd:Hd}{s:List Int}{x:Int}:x∈nwS hd s↔x∈s∧x∉hd.map Prod.fst:=by
 unfold nwS
 rw [zbd9,decide_eq_true_eq]
theorem zq3 (hd:Hd) (ss:List (List Int)):(adS hd ss).map Prod.fst=hd.map Prod.fst++nwS hd (ss.getD (bst hd ss) []):=by
 unfold adS
 rw [zbj2,zbd4]
 congr 1
 simp [Function.comp_def]
theorem GI.step {ss:List (List Int)}{w:Nat→Nat}{L N:Nat}{hd:Hd}{n:Nat} (p:Pt w L N) (h:GI ss w L hd n) (hs:∀s∈ss,s.Nodup∧s.length≤N) (h0:0<mxL (lnS hd ss)):GI ss w L (adS hd ss) (n+1):=by
 have ne:ss≠[]:=fun z=>by rw [z]at h0;simp [lnS,mxL]at h0
 have bl:=zw0 (hd:=hd) ne
 have bm:=zaj2 (hd:=hd) ne
 have nn:(nwS hd (ss.getD (bst hd ss) [])).Nodup:=(hs _ bm).1.filter _
 have mN:mxL (lnS hd ss)≤N:=by
  rw [← bl]
  exact zaz4 (zbe4 _ _) (hs _ bm).2
 refine⟨?_,?_,fun s hs'=>?_,fun x hx=>?_⟩
 ·rw [zq3]
  exact zay9.mpr ⟨h.nd,nn,fun a ha b hb e=>(mem_nwS.mp hb).2 (e ▸ ha)⟩
 ·show totW w (hd++_)=_
  rw [tot_app,zao4,h.tt,bl,p.eq _ h0 mN,zbh3,zbl6]
 ·have h1:=h.pay s hs'
  show paid w (hd++_) s+_≤_
  rw [paid_app,zak7]
  let c:=((nwS hd (ss.getD (bst hd ss) [])).filter fun x=>decide (x∈s)).length
  let r:=(nwS hd s).length
  let r':=(nwS (adS hd ss) s).length
  have hr:r≤mxL (lnS hd ss):=zac9 (zba3.mpr ⟨s,hs',rfl⟩)
  have hc:c+r'≤r:=by
   have:=zal0 (A:=((nwS hd (ss.getD (bst hd ss) [])).filter fun x=>decide (x∈s))++nwS (adS hd ss) s) (B:=nwS hd s) ?_ ?_
   ·rw [zba7]at this;exact this
   ·refine zay9.mpr ⟨nn.filter _,(hs s hs').1.filter _,fun a ha b hb e=>?_⟩
    subst e
    have:=(mem_nwS.mp hb).2
    rw [zq3]at this
    exact this (zax6 _ (zbd9.mp ha).1)
   ·intro x hx
    rcases zay0.mp hx with hx | hx
    ·obtain⟨a,b⟩:=zbd9.mp hx
     exact mem_nwS.mpr ⟨by simpa using b,(mem_nwS.mp a).2⟩
    ·obtain⟨a,b⟩:=mem_nwS.mp hx
     rw [zq3]at b
     exact mem_nwS.mpr ⟨a,fun z=>b (zax8 _ z)⟩
  have h2:=Hw_add p mN r' c (by lia)
  have h3:=zax5 w (a:=r' + c) (b:=r) (by lia)
  show paid w hd s+c*w (mxL (lnS hd ss))+Hw w r'≤Hw w s.length
  have h1:paid w hd s+Hw w r≤Hw w s.length:=h1
  lia
 ·rw [zq3]at hx
  rcases zay0.mp hx with hx | hx
  ·exact h.sub x hx
  ·exact⟨_,bm,(mem_nwS.mp hx).1⟩
end KX
namespace KX
open PySem.Spec L2 DL
theorem asg_dn {t:Th}{f:DE}{i:Nat}{d:D} (hf:f t=some (.dn d)) (hi:i<t.length):dAsg i f t=some (.nx (t.set i (.dp d))):=by
 unfold dAsg
 rw [hf]
 simp only [zay2,zm1,hi,if_true,zbc0]
theorem zai6 {k:D→Th→Option Th}{b:DS}{d:D}{ds:List D}{t t1 t2:Th} (h1:k d t=some t1) (h2:b t1=some (.nx t2)):forD k b (d::ds) t=forD k b ds t2:=by simp [forD,h1,h2]
theorem zaj8 {k0:D→Th→Option Th}{b:DS}{t:Th}{f f':DE}{lo n:Int}{k:Nat} (h1:f t=some (.cl (.int lo))) (h2:f' t=some (.cl (.int n))) (hk:(n - lo).toNat=k) (hb:(bigI n&&bigI lo)=true):zae0 k0 f f' b t=forD k0 b (rngD lo k) t:=by
 unfold zae0
 rw [h1,h2]
 show (if bigI n&&bigI lo then forD k0 b (rngD lo (n - lo).toNat) t else none)=_
 rw [if_pos hb,hk]
theorem forD_rt {k:D→Th→Option Th}{b:DS}{d:D}{ds:List D}{t t1:Th}{r:Ev} (h1:k d t=some t1) (h2:b t1=some (.rt r)):forD k b (d::ds) t=some (.rt r):=by simp [forD,h1,h2]
theorem zav7 {α:Type}{e:α→D}{ft:DT}{fe:DE}{p:α→Bool}{f:α→D}{ext:Th}:∀(xs:List α) (s:Sl),(∀x∈xs,ft (.val (e x)::ext)=some (p x))→(∀x∈xs,p x=true→∃r,fe (.val (e x)::ext)=some r∧r.d=f x)→zg6 (za6 0) ft fe (xs.map e) (s::ext)=some ((xs.filter p).map f)
 |[],s,_,_=>rfl
 |x::l,s,h,h'=>by
  have i:=zav7 (p:=p) (f:=f) l (.val (e x)) (fun y hy=>h y (zax9 _ hy)) (fun y hy=>h' y (zax9 _ hy))
  show ((ft (.val (e x)::ext)).bind fun b=>if b then (fe (.val (e x)::ext)).bind fun r=>(zg6 (za6 0) ft fe (l.map e) (.val (e x)::ext)).map fun xs=>r.d::xs else zg6 (za6 0) ft fe (l.map e) (.val (e x)::ext))=_
  rw [h x (zay1 ..),i]
  cases hp:p x with
  |false=>rw [zbh1 (by rw [hp];decide)];rfl
  |true =>
   obtain⟨r,e1,e2⟩:=h' x (zay1 ..) hp
   rw [e1,zbh0 hp,zaz3, ← e2]
   rfl
theorem zav8 {α:Type}{e:α→D}{fe:DE}{f:α→D}{ext:Th}:∀(xs:List α) (s:Sl),(∀x∈xs,∃r,fe (.val (e x)::ext)=some r∧toDn r=some (f x))→zh7 (za6 0) zc7 fe (xs.map e) (s::ext)=some (xs.map f)
 |[],s,_=>rfl
 |x::l,s,h'=>by
  have i:=zav8 (f:=f) l (.val (e x)) (fun y hy=>h' y (zax9 _ hy))
  obtain⟨r,e1,e2⟩:=h' x (zay1 ..)
  show ((fe (.val (e x)::ext)).bind fun r=>(toDn r).bind fun d=>(zh7 (za6 0) zc7 fe (l.map e) (.val (e x)::ext)).map fun xs=>d::xs)=_
  rw [e1,i]
  show ((toDn r).bind fun d=>_)=_
  rw [e2]
  rfl
theorem zs1 {α:Type}{e:α→D}{ft:DT}{fe f:DE}{p:α→Bool}{g:α→D}{cap:List Nat}{t:Th}{r:Ev}{xs:List α}{b:Bool}{c:List D} (hf:f t=some r) (hr:r.d=.lst (xs.map e)) (hc:capD t cap=some (b,c)) (hl:xs.length≤50000)
  (h1:∀x∈xs,ft (.val (e x)::c.map Sl.val)=some (p x)) (h2:∀x∈xs,p x=true→∃r,fe (.val (e x)::c.map Sl.val)=some r∧r.d=g x) (h3:flats ((xs.filter p).map g)=true∨(r.ok&&b)=true):ze6 1 cap (fsL f) (za6 0) ft fe t=some (.nw ((xs.filter p).map g)):=by
 unfold ze6
 have e1:fsL f t=some (r.ok,xs.map e):=by
  unfold fsL;rw [hf];simp only [zay2,hr]
 have e2:zg6 (za6 0) ft fe (xs.map e) (Sl.no::c.map Sl.val)=some ((xs.filter p).map g):=zav7 xs _ h1 h2
 rw [e1,hc]
 simp only [zay2]
 rw [if_pos (by simpa using hl)]
 show (zg6 (za6 0) ft fe (xs.map e) (Sl.no::c.map Sl.val)).bind _=_
 rw [e2]
 show (if ((r.ok&&b)||flats ((xs.filter p).map g))=true then _ else _)=_
 rw [if_pos (by rcases h3 with h | h<;>rw [h]<;>simp)]
theorem rng_nats (n:Nat):rngD 0 n=(zb7 n).map D.int:=by
 unfold rngD zb7
 rw [zbd4]
 refine zbf1 fun x _=>?_
 show D.int (0+(x:Int))=D.int (x:Int)
 rw [Int.zero_add]
theorem dcompR {ft:DT}{fe f:DE}{p:Int→Bool}{g:Int→D}{cap:List Nat}{t:Th}{r:Ev}{n:Nat}{b:Bool}{c:List D} (hf:f t=some r) (hr:r.d=.int (n:Int)) (hc:capD t cap=some (b,c)) (hl:n≤50000)
  (h1:∀x∈zb7 n,ft (.val (.int x)::c.map Sl.val)=some (p x)) (h2:∀x∈zb7 n,p x=true→∃r,fe (.val (.int x)::c.map Sl.val)=some r∧r.d=g x) (h3:flats (((zb7 n).filter p).map g)=true∨b=true):ze6 1 cap (fsR1 f) (za6 0) ft fe t=some (.nw (((zb7 n).filter p).map g)):=by
 unfold ze6
 have e1:fsR1 f t=some (true,(zb7 n).map D.int):=by
  unfold fsR1;rw [hf];simp only [zay2,hr]
  rw [if_pos (by unfold bigI;simp;lia), ← rng_nats]
  rfl
 have e2:zg6 (za6 0) ft fe ((zb7 n).map D.int) (Sl.no::c.map Sl.val)=some (((zb7 n).filter p).map g):=zav7 (zb7 n) _ h1 h2
 rw [e1,hc]
 simp only [zay2]
 rw [if_pos (by simpa [zb7] using hl)]
 show (zg6 (za6 0) ft fe ((zb7 n).map D.int) (Sl.no::c.map Sl.val)).bind _=_
 rw [e2]
 show (if ((true&&b)||flats (((zb7 n).filter p).map g))=true then _ else _)=_
 rw [if_pos (by rcases h3 with h | h<;>rw [h]<;>simp)]
theorem dcompNL {α:Type}{e:α→D}{fe f:DE}{g:α→D}{cap:List Nat}{t:Th}{r:Ev}{xs:List α}{b:Bool}{c:List D} (hf:f t=some r) (hr:r.d=.lst (xs.map e)) (hc:capD t cap=some (b,c)) (hl:xs.length≤50000)
  (h2:∀x∈xs,∃r,fe (.val (e x)::c.map Sl.val)=some r∧toDn r=some (g x)):zo6 1 cap (fsL f) (za6 0) zc7 fe t=some (.dn (.lst (xs.map g))):=by
 unfold zo6
 have e1:fsL f t=some (r.ok,xs.map e):=by
  unfold fsL;rw [hf];simp only [zay2,hr]
 have e2:zh7 (za6 0) zc7 fe (xs.map e) (Sl.no::c.map Sl.val)=some (xs.map g):=zav8 xs _ h2
 rw [e1,hc]
 simp only [zay2]
 rw [if_pos (by simpa using hl)]
 show (zh7 (za6 0) zc7 fe (xs.map e) (Sl.no::c.map Sl.val)).map _=_
 rw [e2]
 rfl
def kN (n:Int):Key:=Sum.inl n
def tP (m:Nat):D:=.tup [.int 1,.int (m:Int)]
def dctH (hd:Hd):D:=.dct ((hd.map Prod.fst).map kN) (hd.map fun p=>tP p.2)
theorem zad4 (x:Int):∀ks:List Int,hasK (ks.map kN) (kN x)=decide (x∈ks)
 |[]=>rfl
 |k::ks=>by
  have i:=zad4 x ks
  unfold hasK at i ⊢
  rw [zaz3,zbi7,i]
  by_cases h:k=x
  ·subst h;simp
  ·have h' : ¬ kN k=kN x:=fun z=>h (by cases z;rfl)
   rw [decide_eq_false h']
   have:(x∈k::ks)=(x∈ks):=by rw [zay5];simp [show ¬ x=k from fun z=>h z.symm]
   simp only [this,zbn4]
def putN (ks:List Int) (x:Int):List Int:=if x∈ks then ks else ks++[x]
def ttD (_:Int):D:=.bl true
theorem zip_same {ks:List Int}{x:Int}:∀ls:List Int,zbk1 (fun k' d'=>if k'=kN x then D.bl true else d') (ls.map kN) (ls.map ttD)=ls.map ttD
 |[]=>rfl
 |l::ls=>by
  rw [zaz3,zaz3,zbc6,zip_same (ks:=ks) ls]
  congr 1
  split<;>rfl
theorem put_tt (ks:List Int) (x:Int):zh3 (ks.map kN) (ks.map ttD) (kN x) (.bl true)=((putN ks x).map kN,(putN ks x).map ttD):=by
 unfold zh3 putN
 rw [zad4]
 by_cases h:x∈ks
 ·rw [decide_eq_true h,if_pos rfl,if_pos h,zip_same (ks:=ks) ks]
 ·rw [decide_eq_false h,if_neg (by decide),if_neg h]
  simp [kN,ttD]
structure AllK (M:Nat) (ks:List Int):Prop where
 nd:ks.Nodup
 lt:∀x∈ks,0≤x∧x<(M:Int)
theorem AllK.len {M:Nat}{ks:List Int} (h:AllK M ks):ks.length≤M:=by
 have:=zy5 (l:=ks) (C:=zb7 M) h.nd fun x hx=>zl5 (h.lt x hx).1 (h.lt x hx).2
 simpa [zb7] using this
theorem AllK.put {M:Nat}{ks:List Int}{x:Int} (h:AllK M ks) (h0:0≤x) (h1:x<(M:Int)):AllK M (putN ks x):=by
 unfold putN
 split
 ·exact h
 ·rename_i n
  refine⟨zay9.mpr ⟨h.nd,by simp,fun a ha b hb e=>?_⟩,fun y hy=>?_⟩
  ·rw [zaz9]at hb;subst hb;subst e;exact n ha
  ·rcases zay0.mp hy with z | z
   ·exact h.lt y z
   ·rw [zaz9]at z;subst z;exact⟨h0,h1⟩
theorem mem_putN {ks:List Int}{x y:Int}:y∈putN ks x↔y∈ks∨y=x:=by
 unfold putN
 split
 ·rename_i h
  exact⟨.inl,fun z=>z.elim id fun e=>e ▸ h⟩
 ·simp
theorem AllK.fold {M:Nat}:∀ {s ks:List Int},AllK M ks→(∀x∈s,0≤x∧x<(M:Int))→AllK M (s.foldl putN ks)
 |[],ks,h,_=>h
 |x::s,ks,h,hs=>AllK.fold (s:=s) (h.put (hs x (by simp)).1 (hs x (by simp)).2) fun y hy=>hs y (zax9 _ hy)
theorem zac7 {y:Int}:∀ {s ks:List Int},y∈s.foldl putN ks↔y∈ks∨y∈s
 |[],ks=>by simp
 |x::s,ks=>by
  rw [zbh4,zac7 (s:=s),mem_putN,zay5,or_assoc]
def hads (ss:List (List Int)) (ns:List Int):List Int:=ns.foldl (fun ks n=>(ss.getD n.toNat []).foldl putN ks) []
def kdT (ks:List Int):KD:=(ks.map kN,ks.map ttD)
theorem lk_in {M:Nat} (hM:M≤1000) {a S:Sl}:∀ {s:List Int}{ks:List Int}{u:Sl},AllK M ks→(∀x∈s,0≤x∧x<(M:Int))→∃u',zj9 (za6 1) zc7 (dVar 1) (dC (.bl true)) (s.map D.int) [a,u,S] (kdT ks)=some (kdT (s.foldl putN ks),[a,u',S])
 |[],ks,u,_,_=>⟨u,rfl⟩
 |x::s,ks,u,h,hs=>by
  have hx:=hs x (by simp)
  obtain⟨u',e⟩:=lk_in hM (a:=a) (S:=S) (s:=s) (u:=.val (.int x)) (h.put hx.1 hx.2) fun y hy=>hs y (zax9 _ hy)
  refine⟨u',?_⟩
  have st:stKD (kdT ks) (.cl (.int x)) (.cl (.bl true))=some (kdT (putN ks x)):=by
   unfold stKD
   show (if (true&&decide ((ks.map kN).length<50000))=true then some (zh3 (ks.map kN) (ks.map ttD) (kN x) (.bl true)) else none)=_
   have:=h.len
   rw [if_pos (by rw [decide_eq_true (by rw [zba6];lia)];rfl),put_tt]
   rfl
  show ((stKD (kdT ks) (.cl (.int x)) (.cl (.bl true))).bind fun a1=>zj9 (za6 1) zc7 (dVar 1) (dC (.bl true)) (s.map D.int) [a,.val (.int x),S] a1)=_
  rw [st]
  exact e
theorem lk_out {M:Nat} (hM:M≤1000) {ss:List (List Int)} (hs:∀s∈ss,∀x∈s,0≤x∧x<(M:Int)):∀ {ns ks:List Int}{u v:Sl},AllK M ks→(∀n∈ns,0≤n∧n<(ss.length:Int)) →
  zk0 (za6 0) zc7 (fsL (d2 kIx (dVar 2) (dVar 0))) (za6 1) zc7 (dVar 1) (dC (.bl true)) (ns.map D.int) [u,v,.val (mD ss)] (kdT ks)=some (kdT (ns.foldl (fun ks n=>(ss.getD n.toNat []).foldl putN ks) ks))
 |[],ks,u,v,_,_=>rfl
 |n::ns,ks,u,v,h,hn=>by
  have h0:=hn n (by simp)
  obtain⟨r,er,hr⟩:=row_at (fa:=dVar 2) (fb:=dVar 0) (t:=[.val (.int n),v,.val (mD ss)]) (i:=n) (M:=ss) (rfl:dVar 2 _=some (.cl (mD ss))) rfl rfl h0.1 h0.2
  have hm:ss.getD n.toNat []∈ss:=by
   rw [zay7,zay3 (by lia)]
   exact zbe5 _
  have hx:=hs _ hm
  obtain⟨u',e⟩:=lk_in hM (a:=.val (.int n)) (S:=.val (mD ss)) (u:=v) h hx
  have i:=lk_out hM hs (ns:=ns) (u:=.val (.int n)) (v:=u') (AllK.fold h hx) fun m hm=>hn m (zax9 _ hm)
  have ef:fsL (d2 kIx (dVar 2) (dVar 0)) [.val (.int n),v,.val (mD ss)]=some (r.ok,(ss.getD n.toNat []).map D.int):=by
   unfold fsL;rw [er];simp only [zay2,hr,rwD]
  show ((fsL (d2 kIx (dVar 2) (dVar 0)) [.val (.int n),v,.val (mD ss)]).bind fun q=>(zj9 (za6 1) zc7 (dVar 1) (dC (.bl true)) q.2 [.val (.int n),v,.val (mD ss)] (kdT ks)).bind fun p=>zk0 (za6 0) zc7 (fsL (d2 kIx (dVar 2) (dVar 0))) (za6 1) zc7 (dVar 1) (dC (.bl true)) (ns.map D.int) p.2 p.1)=_
  rw [ef]
  simp only [zay2]
  rw [e]
  exact i
theorem mem_hads {ss:List (List Int)}{y:Int}:∀ {ns ks:List Int},y∈ns.foldl (fun ks n=>(ss.getD n.toNat []).foldl putN ks) ks↔y∈ks∨∃n∈ns,y∈ss.getD n.toNat []
 |[],ks=>by simp
 |n::ns,ks=>by
  rw [zbh4,mem_hads (ns:=ns),zac7,or_assoc]
  simp
structure Cv (M:Nat) (ss:List (List Int)):Prop where
 nd:∀s∈ss,s.Nodup
 lt:∀s∈ss,∀x∈s,0≤x∧x<(M:Int)
 all:∀x:Int,0≤x→x<(M:Int)→∃s∈ss,x∈s
theorem Cv.ne {M:Nat}{ss:List (List Int)} (c:Cv M ss) (h:0<M):ss≠[]:=fun z=>by
 obtain⟨s,hs,_⟩:=c.all 0 (by lia) (by lia)
 rw [z]at hs;exact nomatch hs
theorem Cv.len {M:Nat}{ss:List (List Int)} (c:Cv M ss) {s:List Int} (h:s∈ss):s.length≤M:=AllK.len ⟨c.nd s h,c.lt s h⟩
structure HI (M:Nat) (ss:List (List Int)) (hd:Hd):Prop where
 ak:AllK M (hd.map Prod.fst)
 ps:∀p∈hd,0<p.2∧p.2≤M
theorem HI.nil (M:Nat) (ss:List (List Int)):HI M ss []:=⟨⟨zba8,fun x hx=>nomatch hx⟩,fun p hp=>nomatch hp⟩
theorem HI.some_new {M:Nat}{ss:List (List Int)}{hd:Hd} (c:Cv M ss) (h:HI M ss hd) (hl:hd.length<M):0<mxL (lnS hd ss):=by
 have:∃x∈zb7 M,x∉hd.map Prod.fst:=by
  refine Classical.byContradiction fun z=>?_
  have:=zy5 (l:=zb7 M) (C:=hd.map Prod.fst) (zas3 M) fun x hx=>Classical.byContradiction fun y=>z ⟨x,hx,y⟩
  simp [zb7]at this
  lia
 obtain⟨x,hx,nx⟩:=this
 obtain⟨x0,x1⟩:=zh1 hx
 obtain⟨s,hs,xs⟩:=c.all x x0 x1
 have:0<(nwS hd s).length:=zbf4 (mem_nwS.mpr ⟨xs,nx⟩)
 exact zay8 this (zac9 (zba3.mpr ⟨s,hs,rfl⟩))
theorem HI.step {M:Nat}{ss:List (List Int)}{hd:Hd} (c:Cv M ss) (h:HI M ss hd) (h0:0<mxL (lnS hd ss)):HI M ss (adS hd ss)∧hd.length<(adS hd ss).length:=by
 have ne:ss≠[]:=fun z=>by rw [z]at h0;simp [lnS,mxL]at h0
 have bm:=zaj2 (hd:=hd) ne
 have bl:=zw0 (hd:=hd) ne
 have nn:(nwS hd (ss.getD (bst hd ss) [])).Nodup:=(c.nd _ bm).filter _
 refine⟨⟨⟨?_,fun x hx=>?_⟩,fun p hp=>?_⟩,?_⟩
 ·rw [zq3]
  exact zay9.mpr ⟨h.ak.nd,nn,fun a ha b hb e=>(mem_nwS.mp hb).2 (e ▸ ha)⟩
 ·rw [zq3]at hx
  rcases zay0.mp hx with z | z
  ·exact h.ak.lt x z
  ·exact c.lt _ bm x (mem_nwS.mp z).1
 ·rcases zay0.mp hp with z | z
  ·exact h.ps p z
  ·obtain⟨x,_,rfl⟩:=zba3.mp z
   refine⟨h0,?_⟩
   show mxL (lnS hd ss)≤M
   rw [← bl]
   exact zaz4 (zbe4 _ _) (c.len bm)
 ·unfold adS
  rw [zba7,zba6,bl]
  lia
noncomputable def chs (M:Nat) (ss:List (List Int)):Nat→Hd→List Int→Hd×List Int
 |0,hd,ch=>(hd,ch)
 |n+1,hd,ch=>if hd.length<M then chs M ss n (adS hd ss) (ch++[(bst hd ss:Int)]) else (hd,ch)
def shr (hd:Hd) (x:Int):Nat:=((hd.find? fun p=>decide (p.1=x)).map Prod.snd).getD 0
theorem get_hd {x:Int}:∀ {hd:Hd},x∈hd.map Prod.fst→zad5 ((hd.map Prod.fst).map kN) (hd.map fun p=>tP p.2) (kN x)=some (tP (shr hd x))
 |[],h=>nomatch h
 |p::hd,h=>by
  rw [zaz3,zaz3,zaz3]
  unfold zad5
  by_cases e:p.1=x
  ·rw [if_pos (by rw [e]),shr,zbl3 (by simpa using e)]
   rfl
  ·rw [if_neg fun z=>e (by cases z;rfl)]
   rw [zaz3,zay5]at h
   have h':=h.resolve_left fun z=>e z.symm
   rw [get_hd h',shr,shr,zbl4 (by simpa using e)]
theorem zao9 {x:Int}{m:Nat}:∀ {hd:Hd},(hd.map Prod.fst).Nodup→(x,m)∈hd→shr hd x=m
 |[],_,h=>nomatch h
 |p::hd,n,h=>by
  rw [zaz3]at n
  have n':=zaz8.mp n
  rcases zay5.mp h with z | z
  ·subst z
   rw [shr,zbl3 (by simp)]
   rfl
  ·have e : ¬ p.1=x:=fun y=>n'.1 (by rw [y];exact zba3.mpr ⟨(x,m),z,rfl⟩)
   rw [shr,zbl4 (by simpa using e)]
   exact zao9 n'.2 z
theorem mg_new (m:Nat):∀(xs:List Int) (hd:Hd),xs.Nodup→(∀x∈xs,x∉hd.map Prod.fst)→mgKD (xs.map kN) (xs.map fun _=>tP m) ((hd.map Prod.fst).map kN,hd.map fun p=>tP p.2)=(((hd++xs.map fun x=>(x,m)).map Prod.fst).map kN,(hd++xs.map fun x=>(x,m)).map fun p=>tP p.2)
 |[],hd,_,_=>by simp [mgKD]
 |x::xs,hd,n,h=>by
  have n':=zaz8.mp n
  have i:=mg_new m xs (hd++[(x,m)]) n'.2 fun y hy z=>by
   rw [zbj2,zay0]at z
   rcases z with z | z
   ·exact h y (zax9 _ hy) z
   ·simp at z;exact n'.1 (z ▸ hy)
  rw [zaz3,zaz3]
  unfold mgKD
  have e:zh3 ((hd.map Prod.fst).map kN) (hd.map fun p=>tP p.2) (kN x) (tP m)=(((hd++[(x,m)]).map Prod.fst).map kN,(hd++[(x,m)]).map fun p=>tP p.2):=by
   unfold zh3
   rw [zad4,decide_eq_false (h x (by simp)),if_neg (by decide)]
   simp
  rw [e,i]
  simp
theorem zae4 {m:Nat}{fv:DE}{ext:Th} (hv:∀x:Int,∃r,fv (.val (.int x)::ext)=some r∧r.d=tP m):∀(xs:List Int) (ys:List Int) (s:Sl),(ys++xs).Nodup→(ys++xs).length≤50000 →
  zi0 (za6 0) zc7 (dVar 0) fv (xs.map D.int) (s::ext) (ys.map kN,ys.map fun _=>tP m)=some ((ys++xs).map kN,(ys++xs).map fun _=>tP m)
 |[],ys,s,_,_=>by simp [zi0]
 |x::xs,ys,s,n,hl=>by
  have i:=zae4 hv xs (ys++[x]) (.val (.int x)) (by simpa using n) (by simpa using hl)
  obtain⟨r,e1,e2⟩:=hv x
  have nx:x∉ys:=fun z=>(zay9.mp n).2.2 x z x (by simp) rfl
  have st:stKF (ys.map kN,ys.map fun _=>tP m) (.cl (.int x)) r=some ((ys++[x]).map kN,(ys++[x]).map fun _=>tP m):=by
   unfold stKF
   rw [e2]
   show (if (true&&decide ((ys.map kN).length<50000))=true then some (zh3 (ys.map kN) (ys.map fun _=>tP m) (kN x) (tP m)) else none)=_
   rw [if_pos (by rw [decide_eq_true (by rw [zba6];rw [zba7,zbb7]at hl;lia)];rfl)]
   unfold zh3
   rw [zad4,decide_eq_false nx,if_neg (by decide)]
   simp
  show ((fv (.val (.int x)::ext)).bind fun y=>(stKF (ys.map kN,ys.map fun _=>tP m) (.cl (.int x)) y).bind fun a1=>zi0 (za6 0) zc7 (dVar 0) fv (xs.map D.int) (.val (.int x)::ext) a1)=_
  rw [e1]
  simp only [zay2]
  rw [st]
  simp only [zay2]
  rw [i]
  simp
theorem zas5:∀(l:List Nat) (a:Nat),zo8 (a:Int) (l.map fun (n:Nat)=>(n:Int))=((max a (mxL l):Nat):Int)
 |[],a=>by simp [zo8,mxL]
 |b::l,a=>by
  rw [zaz3]
  unfold zo8
  have e:(if (a:Int)<(b:Int) then (b:Int) else (a:Int))=((max a b:Nat):Int):=by
   split<;>lia
  rw [e,zas5 l]
  show _=((max a (max b (mxL l)):Nat):Int)
  rw [Nat.max_assoc]
theorem top_mx {l:List Nat} (h:l≠[]):topI' (l.map fun (n:Nat)=>(n:Int))=(mxL l:Int):=by
 cases l with
 |nil=>exact absurd rfl h
 |cons a l=>exact zas5 l a
theorem zal4 (m:Nat):∀l:List Nat,(l.map fun (n:Nat)=>(n:Int)).idxOf (m:Int)=l.idxOf m
 |[]=>rfl
 |a::l=>by
  rw [zaz3,List.idxOf_cons,List.idxOf_cons,zal4 m l]
  have z:((a:Int) ==(m:Int))=(a == m):=by
   by_cases e:a=m
   ·subst e;rw [beq_self_eq_true,beq_self_eq_true]
   ·rw [beq_eq_false_iff_ne.mpr e,beq_eq_false_iff_ne.mpr (by lia)]
  rw [z]
theorem zaa1 (f:Int→Nat):∀xs:List Int,flats (xs.map fun x=>tP (f x))=true
 |[]=>rfl
 |x::xs=>by
  show (flat (tP (f x))&&flats (xs.map fun x=>tP (f x)))=true
  rw [zaa1 f xs]
  rfl
def finH (M:Nat) (ss:List (List Int)):Nat→Hd→Hd
 |0,hd=>hd
 |n+1,hd=>if hd.length<M then finH M ss n (adS hd ss) else hd
noncomputable def rstH (M:Nat) (ss:List (List Int)):Nat→Hd→List Int
 |0,_=>[]
 |n+1,hd=>if hd.length<M then (bst hd ss:Int)::rstH M ss n (adS hd ss) else []
theorem chs_eq (M:Nat) (ss:List (List Int)):∀(n:Nat) (hd:Hd) (ch:List Int),chs M ss n hd ch=(finH M ss n hd,ch++rstH M ss n hd)
 |0,hd,ch=>by simp [chs,finH,rstH]
 |n+1,hd,ch=>by
  unfold chs finH rstH
  split
  ·rw [chs_eq M ss n];simp
  ·simp
theorem zap0 {M:Nat}{ss:List (List Int)}{x:Int}:∀(n:Nat) (hd:Hd),x∈(finH M ss n hd).map Prod.fst→x∈hd.map Prod.fst∨∃k∈rstH M ss n hd,x∈ss.getD k.toNat []
 |0,hd,h=>.inl h
 |n+1,hd,h=>by
  unfold finH at h
  unfold rstH
  split at h
  ·rename_i c
   rw [if_pos c]
   rcases zap0 n _ h with z | ⟨k,hk,z⟩
   ·rw [zq3]at z
    rcases zay0.mp z with z | z
    ·exact .inl z
    ·exact .inr ⟨_,zay1 ..,(mem_nwS.mp z).1⟩
   ·exact .inr ⟨k,zax9 _ hk,z⟩
  ·exact .inl h
theorem zag7 {M:Nat}{ss:List (List Int)} (ne:ss≠[]):∀(n:Nat) (hd:Hd),∀k∈rstH M ss n hd,0≤k∧k<(ss.length:Int)
 |0,hd,k,h=>nomatch h
 |n+1,hd,k,h=>by
  unfold rstH at h
  split at h
  ·rcases zay5.mp h with z | z
   ·subst z
    have:=zy1 (hd:=hd) ne
    lia
   ·exact zag7 ne n _ k z
  ·exact nomatch h
theorem rst_nd {M:Nat}{ss:List (List Int)} (c:Cv M ss):∀(n:Nat) (hd:Hd),HI M ss hd→(rstH M ss n hd).Nodup∧∀k∈rstH M ss n hd,∃x,x∈nwS hd (ss.getD k.toNat [])
 |0,hd,h=>⟨zba8,fun k hk=>nomatch hk⟩
 |n+1,hd,h=>by
  unfold rstH
  split
  ·rename_i hl
   have h0:=h.some_new c hl
   have ne:ss≠[]:=fun z=>by rw [z]at h0;simp [lnS,mxL]at h0
   have bl:=zw0 (hd:=hd) ne
   obtain⟨h1,_⟩:=h.step c h0
   obtain⟨i1,i2⟩:=rst_nd c n (adS hd ss) h1
   refine⟨zaz8.mpr ⟨fun z=>?_,i1⟩,fun k hk=>?_⟩
   ·obtain⟨x,hx⟩:=i2 _ z
    obtain⟨a,b⟩:=mem_nwS.mp hx
    rw [zq3]at b
    exact b (zax6 _ (mem_nwS.mpr ⟨a,fun y=>b (zax8 _ y)⟩))
   ·rcases zay5.mp hk with z | z
    ·subst z
     show ∃x,x∈nwS hd (ss.getD (bst hd ss) [])
     exact List.exists_mem_of_length_pos (by lia)
    ·obtain⟨x,hx⟩:=i2 k z
     obtain⟨a,b⟩:=mem_nwS.mp hx
     rw [zq3]at b
     exact⟨x,mem_nwS.mpr ⟨a,fun y=>b (zax8 _ y)⟩⟩
  ·exact⟨zba8,fun k hk=>nomatch hk⟩
theorem fin_gi {M:Nat}{ss:List (List Int)} (c:Cv M ss) {w:Nat→Nat}{L:Nat} (p:Pt w L M):∀(n:Nat) (hd:Hd) (m:Nat),HI M ss hd→GI ss w L hd m→GI ss w L (finH M ss n hd) (m+(rstH M ss n hd).length)
 |0,hd,m,h,g=>g
 |n+1,hd,m,h,g=>by
  unfold finH rstH
  split
  ·rename_i hl
   have h0:=h.some_new c hl
   obtain⟨h1,_⟩:=h.step c h0
   have:=fin_gi c p n (adS hd ss) (m+1) h1 (g.step p (fun s hs=>⟨c.nd s hs,c.len hs⟩) h0)
   rw [zbb7]
   rw [show m+((rstH M ss n (adS hd ss)).length+1)=m+1+(rstH M ss n (adS hd ss)).length by lia]
   exact this
  ·exact g
def fct:Nat→Nat
 |0=>1
 |n+1=>(n+1)*fct n
def hmT:Nat→Nat
 |0=>0
 |n+1=>hmT n*(n+1)+fct n
theorem zv3:∀n,0<fct n
 |0=>zbl7
 |n+1=>Nat.mul_pos (zbp2 n) (zv3 n)
theorem zai7 {m:Nat} (h1:1≤m):∀ {N:Nat},m≤N→m ∣ fct N
 |0,h=>by lia
 |N+1,h=>by
  rcases zbj7 h with z | z
  ·exact zbn5 (zai7 h1 (N:=N) (by lia)) (Nat.dvd_mul_left _ _)
  ·rw [z];exact Nat.dvd_mul_right _ _
def wP (N m:Nat):Nat:=fct N / m
theorem pt_w (N:Nat):Pt (wP N) (fct N) N:=⟨fun m h1 h2=>Nat.mul_div_cancel' (zai7 h1 h2)⟩
theorem hm_eq {N:Nat}:∀ {n:Nat},n≤N→hmT n*fct N=fct n*Hw (wP N) n
 |0,_=>by simp [hmT,Hw]
 |n+1,h=>by
  have i:=hm_eq (N:=N) (n:=n) (by lia)
  have e:=(pt_w N).eq (n+1) (by lia) h
  show (hmT n*(n+1)+fct n)*fct N=(n+1)*fct n*(Hw (wP N) n+wP N (n+1))
  rw [zbh3,Nat.mul_add ((n+1)*fct n)]
  have e1:hmT n*(n+1)*fct N=(n+1)*fct n*Hw (wP N) n:=by
   rw [zbe7,zbe9 (n+1) (fct N), ← zbe7,i,zbe9 (n+1) (fct n),zbe7,zbe7,zbe9 (n+1)]
  have e2:fct n*fct N=(n+1)*fct n*wP N (n+1):=by
   rw [← e,zbe9 (n+1) (fct n),zbe7]
  rw [e1,e2]
theorem hm_le:∀n,hmT n≤n*fct n
 |0=>zba1 _
 |n+1=>by
  have:=hm_le n
  have h2:hmT n*(n+1)≤n*fct n*(n+1):=zbb8 _ this
  show hmT n*(n+1)+fct n≤(n+1)*((n+1)*fct n)
  have:(n+1)*((n+1)*fct n)=n*fct n*(n+1)+(n+1)*fct n:=by
   rw [zbh3 n 1,zbl6,zbe9 (n+1) (fct n), ← zbe7]
  have h3:fct n≤(n+1)*fct n:=zbb9 _ (zbp2 n)
  lia
theorem fct_mono {a b:Nat} (h:a≤b):fct a≤fct b:=by
 induction b with
 |zero=>rw [Nat.le_zero.mp h];exact zba1 _
 |succ b ih =>
  rcases zbj7 h with z | z
  ·exact zaz4 (ih (by lia)) (zbb9 _ (zbp2 b))
  ·rw [z];exact zba1 _
def hA (n:Nat):Nat:=hmT n / zbe8 (hmT n) (fct n)
def hB (n:Nat):Nat:=fct n / zbe8 (hmT n) (fct n)
theorem hAB {N n:Nat} (h:n≤N):hA n*fct N=hB n*Hw (wP N) n:=by
 have g0:0<zbe8 (hmT n) (fct n):=zbk4 _ (zv3 n)
 have e1:hA n*zbe8 (hmT n) (fct n)=hmT n:=zbj8 (Nat.gcd_dvd_left _ _)
 have e2:hB n*zbe8 (hmT n) (fct n)=fct n:=zbj8 (zbn9 _ _)
 have i:=hm_eq h
 refine zbj4 g0 ?_
 rw [zbe6,e1,i,zbe6,e2]
theorem zaj3:∀bs:List Bool,blsD (bs.map D.bl)=some bs
 |[]=>rfl
 |b::bs=>by
  show (blsD (bs.map D.bl)).map (b::·)=_
  rw [zaj3 bs]
  rfl
theorem allB_of {f:DE}{t:Th}{bs:List Bool} (h:f t=some (.nw (bs.map D.bl))):(dT1 qU (za2 f dNil)) t=some (.cl (.bl (bs.all id))):=by
 rw [zw2 h]
 (try unfold qU);unfold kBls
 simp only [Ev.d,zaj3,zbc0]
theorem anyB_of {f:DE}{t:Th}{bs:List Bool} (h:f t=some (.nw (bs.map D.bl))):(dT1 (kBls fun bs=>bs.any id) (za2 f dNil)) t=some (.cl (.bl (bs.any id))):=by
 rw [zw2 h]
 (try unfold qU);unfold kBls
 simp only [Ev.d,zaj3,zbc0]
theorem ch_of {fa fb fc:DE}{t:Th}{a b c:Int} (h1:fa t=some (.cl (.int a))) (h2:fb t=some (.cl (.int b))) (h3:fc t=some (.cl (.int c))):dCh qE qL' fa fb fc t=some (decide (a≤b)&&decide (b<c)):=by
 unfold dCh
 rw [h1,h2,h3]
 show (match D.bl (decide (a≤b)) with
  |.bl true=>some (decide (b<c))
  |.bl false=>some false
  |_=>none)=_
 cases decide (a≤b)<;>rfl
theorem chv_of {fa fb fc:DE}{t:Th}{a b c:Int} (h1:fa t=some (.cl (.int a))) (h2:fb t=some (.cl (.int b))) (h3:fc t=some (.cl (.int c))):dChV qE qL' fa fb fc t=some (.cl (.bl (decide (a≤b)&&decide (b<c)))):=by
 unfold dChV
 rw [ch_of h1 h2 h3]
 rfl
theorem lens_of {f:DE}{t:Th}{r:Ev}{xs:List Int} (h:f t=some r) (hr:r.d=.lst (xs.map D.int)) (hl:xs.length≤3000):(dT1 zr4 (za2 f dNil)) t=some (.cl (.int ((ddp xs).length:Int))):=by
 rw [zw2 h]
 unfold zr4
 simp only [hr,zm8,zay2]
 rw [if_pos hl]
theorem mem_ddp (P:List Int) (x:Int):x∈ddp P↔x∈P:=by
 have:∀(l acc:List Int),x∈l.foldl step_dedup acc↔x∈acc∨x∈l:=by
  intro l
  induction l with
  |nil=>intro acc;simp
  |cons y l ih =>
   intro acc
   simp only [zbh4,ih,zay5]
   unfold step_dedup
   split
   ·rename_i c
    obtain⟨z,hz,e⟩:=zbi5.mp c
    have e:z=y:=by simpa using e
    subst e
    constructor
    ·rintro (h | h)
     ·exact .inl h
     ·exact .inr (.inr h)
    ·rintro (h | h | h)
     ·exact .inl h
     ·subst h;exact .inl hz
     ·exact .inr h
   ·simp only [zay0,zaz9,or_assoc]
 have h:=this P []
 simpa [ddp] using h
theorem ddp_nd:∀(xs:List Int),xs.Nodup→(ddp xs).length=xs.length:=fun xs h=>by
 have h1:=zy5 h (C:=ddp xs) fun x hx=>(mem_ddp xs x).mpr hx
 have h2:=ddp_le xs
 lia
theorem callt {G:List D→Option Ev}{rs:List Ev}{d:D} (h:G (rs.map Ev.d)=some (.tm d)) (ho:rs.all Ev.ok=true):zd3 G rs=some (.cl d):=by
 unfold zd3
 rw [h,ho]
 rfl
theorem bo_of {f:DE}{t:Th}{b:Bool} (h:f t=some (.cl (.bl b))):dBo f t=some b:=by
 unfold dBo
 rw [h]
 rfl
theorem eqv_of {fa fb:DE}{t:Th}{a b:Int} (h1:fa t=some (.cl (.int a))) (h2:fb t=some (.cl (.int b))):(d2 kEq fa fb) t=some (.cl (.bl (decide (a=b)))):=by
 rw [zi4 h1 h2]
 have:kEq (.cl (.int a)) (.cl (.int b))=some (.cl (.bl (eqD (.int a) (.int b)))):=rfl
 rw [this,zau7]
theorem grd' {c:DT}{g:DS}{t:Th} (h:c t=some false):dIfS c g zi3 t=some (.nx t):=grd h rfl
def lcF (L b:Nat):Nat:=L / zbe8 L b*b
def lcQ (qs:List (Int×Nat)) (L:Nat):Nat:=qs.foldl (fun L q=>lcF L q.2) L
theorem zat6 {L b:Nat} (h:0<L) (h':0<b):0<lcF L b:=Nat.mul_pos (Nat.div_pos (Nat.gcd_le_left _ h) (zbk7 _ h)) h'
theorem lcF_dvd (L b:Nat):L ∣ lcF L b∧b ∣ lcF L b:=by
 refine⟨?_,Nat.dvd_mul_left _ _⟩
 obtain⟨k,hk⟩:=zbn9 L b
 have e:L / zbe8 L b*zbe8 L b=L:=zbj8 (Nat.gcd_dvd_left L b)
 refine⟨k,?_⟩
 show L / zbe8 L b*b=L*k
 calc L / zbe8 L b*b=L / zbe8 L b*(zbe8 L b*k):=by rw [← hk]
  _=L*k:=by rw [← zbe7,e]
theorem lcF_le (L b:Nat):lcF L b≤L*b:=zbb8 _ (zbg2 _ _)
structure Shs (qs:List (Int×Nat)):Prop where
 len:qs.length≤200
 bt:∀q∈qs,1≤q.2∧q.2≤1000
 tp:∀q∈qs,q.1.natAbs≤1000000000000000000
theorem zal1:∀(qs:List (Int×Nat)) (L:Nat),0<L→(∀q∈qs,1≤q.2∧q.2≤1000)→0<lcQ qs L∧L ∣ lcQ qs L∧(∀q∈qs,q.2 ∣ lcQ qs L)∧lcQ qs L≤L*1000 ^ qs.length
 |[],L,h,_=>⟨h,Nat.dvd_refl _,(fun q hq=>nomatch hq),by simp [lcQ]⟩
 |q::qs,L,h,hb=>by
  have b:=hb q (by simp)
  obtain⟨i1,i2,i3,i4⟩:=zal1 qs (lcF L q.2) (zat6 h b.1) fun x hx=>hb x (zax9 _ hx)
  obtain⟨d1,d2⟩:=lcF_dvd L q.2
  refine⟨i1,zbn5 d1 i2,fun x hx=>?_,?_⟩
  ·rcases zay5.mp hx with z | z
   ·subst z;exact zbn5 d2 i2
   ·exact i3 x z
  ·refine zaz4 i4 ?_
   rw [zbb7,Nat.pow_succ,zbe9 (1000 ^ qs.length), ← zbe7]
   exact zbb8 _ (zaz4 (lcF_le L q.2) (zbm9 _ b.2))
def qD (q:Int×Nat):D:=.tup [.int q.1,.int (q.2:Int)]
def lcL (qs:List (Int×Nat)):Nat:=lcQ qs 1
def tps (qs:List (Int×Nat)):List Int:=qs.map fun q=>q.1*((lcL qs / q.2:Nat):Int)
def bigT:Nat:=1000000000000000000*1000 ^ 200
theorem zaa8:1000*bigT<DL.bnd:=by decide +kernel
theorem zat5 {qs:List (Int×Nat)} (h:Shs qs):lcL qs≤1000 ^ 200:=by
 have:=(zal1 qs 1 zbl7 h.bt).2.2.2
 rw [zbl6]at this
 exact zaz4 this (zbd3 (by decide) h.len)
theorem lcL_pos {qs:List (Int×Nat)} (h:Shs qs):0<lcL qs:=(zal1 qs 1 zbl7 h.bt).1
theorem zr1:1000 ^ 200≤bigT:=zbb9 _ (by decide)
theorem tps_le {qs:List (Int×Nat)} (h:Shs qs):∀x∈tps qs,x.natAbs≤bigT:=fun x hx=>by
 obtain⟨q,hq,rfl⟩:=zba3.mp hx
 rw [Int.natAbs_mul,Int.natAbs_natCast]
 exact zbi2 (h.tp q hq) (zaz4 (zbg2 _ _) (zat5 h))
theorem zao8 {B:Nat}:∀ {l:List Int},(∀x∈l,x.natAbs≤B)→l.sum.natAbs≤l.length*B
 |[],_=>by simp
 |a::l,h=>by
  have i:=zao8 (l:=l) fun x hx=>h x (zax9 _ hx)
  have:=h a (by simp)
  rw [zbf5,zbb7,zbh3,zbl6]
  exact zaz4 (Int.natAbs_add_le _ _) (by lia)
theorem smA {i:Int} (h:i.natAbs<DL.bnd):sm i=true:=by
 unfold sm
 rw [decide_eq_true_eq]
 exact h
noncomputable def isCh (M:Nat) (ss:List (List Int)) (ch:List Int):Bool:=(ch.map fun c=>decide (0≤c)&&decide (c<(ss.length:Int))).all id&&(decide ((ddp ch).length=ch.length)&&((zb7 M).filter fun x=>decide (x∉hads ss ch)).isEmpty)
def sumS (T:List Int) (s:List Int):Int:=(s.map fun x=>T.getD x.toNat 0).sum
def payS (T:List Int) (L:Nat) (s:List Int):Bool:=!decide ((hA s.length:Int)*(L:Int)<sumS T s*(hB s.length:Int))
noncomputable def letsB (M:Nat) (ss:List (List Int)) (ch:List Int) (qs:List (Int×Nat)):Bool :=
 isCh M ss ch&&decide (qs.length=M)&&!((tps qs).map fun x=>decide (x<0)).any id&&decide ((tps qs).sum=(ch.length:Int)*(lcL qs:Int))&&ss.all (payS (tps qs) (lcL qs))
theorem all_id {α:Type}{p:α→Bool}{l:List α}:(l.map p).all id=true↔∀x∈l,p x=true:=by
 rw [zbc2]
 exact⟨fun h x hx=>h _ (zba3.mpr ⟨x,hx,rfl⟩),fun h y hy=>by
  obtain⟨x,hx,rfl⟩:=zba3.mp hy
  exact h x hx⟩
theorem any_id {α:Type}{p:α→Bool}{l:List α}:(l.map p).any id=true↔∃x∈l,p x=true:=by
 rw [zbi5]
 exact⟨fun ⟨y,hy,h⟩=>by
  obtain⟨x,hx,rfl⟩:=zba3.mp hy
  exact⟨x,hx,h⟩,fun ⟨x,hx,h⟩=>⟨_,zba3.mpr ⟨x,hx,rfl⟩,h⟩⟩
def ownQ (M:Nat) (H:Hd):List (Int×Nat):=(zb7 M).map fun x=>(1,shr H x)
structure Full (M:Nat) (ss:List (List Int)) (H:Hd):Prop where
 hi:HI M ss H
 ln:H.length=M
theorem Full.perm {M:Nat}{ss:List (List Int)}{H:Hd} (h:Full M ss H):(H.map Prod.fst).Perm (zb7 M):=by
 refine (zbj5 h.hi.ak.nd (zas3 M)).mpr fun x=>⟨fun hx=>zl5 (h.hi.ak.lt x hx).1 (h.hi.ak.lt x hx).2,fun hx=>?_⟩
 refine Classical.byContradiction fun z=>?_
 obtain⟨x0,x1⟩:=zh1 hx
 have ak:AllK M (H.map Prod.fst++[x]):=⟨zay9.mpr ⟨h.hi.ak.nd,by simp,fun a ha b hb e=>by rw [zaz9]at hb;subst hb;subst e;exact z ha⟩,fun y hy=>by
  rcases zay0.mp hy with q | q
  ·exact h.hi.ak.lt y q
  ·rw [zaz9]at q;subst q;exact⟨x0,x1⟩⟩
 have:=ak.len
 rw [zba7,zba6,h.ln,zbe3]at this
 lia
theorem Full.shr {M:Nat}{ss:List (List Int)}{H:Hd} (h:Full M ss H) {x:Int} (h0:0≤x) (h1:x<(M:Int)):0<shr H x∧shr H x≤M:=by
 have:x∈H.map Prod.fst:=h.perm.mem_iff.mpr (zl5 h0 h1)
 obtain⟨p,hp,rfl⟩:=zba3.mp this
 rw [zao9 (m:=p.2) h.hi.ak.nd hp]
 exact h.hi.ps p hp
theorem Full.shs {M:Nat}{ss:List (List Int)}{H:Hd} (h:Full M ss H) (hM:M≤200):Shs (ownQ M H):=by
 refine⟨by simp [ownQ,zb7];exact hM,fun q hq=>?_,fun q hq=>?_⟩
 ·obtain⟨x,hx,rfl⟩:=zba3.mp hq
  have:=h.shr (zh1 hx).1 (zh1 hx).2
  exact⟨this.1,by show KX.shr H x≤1000;lia⟩
 ·obtain⟨x,hx,rfl⟩:=zba3.mp hq
  show (1:Int).natAbs≤1000000000000000000
  decide
theorem zt6 {f:Nat→Nat}{H:Hd} (nd:(H.map Prod.fst).Nodup):∀l:Hd,(∀p∈l,p∈H)→((l.map Prod.fst).map fun x=>f (shr H x)).sum=(l.map fun p=>f p.2).sum
 |[],_=>rfl
 |p::l,h=>by
  simp only [zaz3,zbf5]
  rw [zt6 nd l fun q hq=>h q (zax9 _ hq),zao9 (m:=p.2) nd (h p (by simp))]
theorem zab2 {l m:List Nat} (h:l.Perm m):l.sum=m.sum:=by
 induction h with
 |nil=>rfl
 |cons x _ ih=>simp [ih]
 |swap x y l=>simp;lia
 |trans _ _ a b=>exact a.trans b
theorem paid_eq {w:Nat→Nat}{H:Hd}{s:List Int}:paid w H s=((H.filter fun p=>decide (p.1∈s)).map fun p=>w p.2).sum:=by
 unfold paid
 induction H with
 |nil=>rfl
 |cons p H ih =>
  rw [zaz3,zbf5,ih]
  by_cases h:p.1∈s
  ·rw [if_pos h,zbh0 (by simpa using h),zaz3,zbf5]
  ·rw [if_neg h,zbh1 (by simpa using h),zbm3]
theorem paid_sum {M:Nat}{ss:List (List Int)}{H:Hd} (h:Full M ss H) (w:Nat→Nat) {s:List Int} (nd:s.Nodup) (lt:∀x∈s,0≤x∧x<(M:Int)):(s.map fun x=>w (shr H x)).sum=paid w H s:=by
 rw [paid_eq, ← zt6 (f:=w) h.hi.ak.nd _ fun p hp=>(zbd9.mp hp).1]
 refine zab2 (List.Perm.map _ ?_)
 refine (zbj5 nd ?_).mpr fun x=>?_
 ·exact (h.hi.ak.nd).sublist (List.Sublist.map _ List.filter_sublist)
 ·constructor
  ·intro hx
   have:x∈H.map Prod.fst:=h.perm.mem_iff.mpr (zl5 (lt x hx).1 (lt x hx).2)
   obtain⟨p,hp,rfl⟩:=zba3.mp this
   exact zba3.mpr ⟨p,zbd9.mpr ⟨hp,by simpa using hx⟩,rfl⟩
  ·intro hx
   obtain⟨p,hp,rfl⟩:=zba3.mp hx
   simpa using (zbd9.mp hp).2
theorem tot_sum {M:Nat}{ss:List (List Int)}{H:Hd} (h:Full M ss H) (w:Nat→Nat):((zb7 M).map fun x=>w (shr H x)).sum=totW w H:=by
 unfold totW
 rw [← zt6 (f:=w) h.hi.ak.nd H fun p hp=>hp]
 exact zab2 (List.Perm.map _ h.perm.symm)
theorem two_bot {L F m:Nat} (h1:m ∣ L) (h2:m ∣ F):L / m*F=F / m*L:=by
 obtain⟨a,rfl⟩:=h1
 obtain⟨b,rfl⟩:=h2
 rcases Nat.eq_zero_or_pos m with z | z
 ·subst z;simp
 ·rw [zbk8 _ z,zbk8 _ z,zbo0,zbo0 b,zbe9 a b]
theorem zag1 {L F:Nat}{g:Int→Nat}:∀ {l:List Int},(∀x∈l,g x ∣ L∧g x ∣ F)→(l.map fun x=>L / g x).sum*F=(l.map fun x=>F / g x).sum*L
 |[],_=>by simp
 |a::l,h=>by
  have i:=zag1 (l:=l) fun x hx=>h x (zax9 _ hx)
  have:=h a (by simp)
  simp only [zaz3,zbf5,zbh3]
  rw [i,two_bot this.1 this.2]
theorem zy4:∀l:List Nat,((l.map fun (n:Nat)=>(n:Int)).sum)=((l.sum:Nat):Int)
 |[]=>rfl
 |a::l=>by simp [zy4 l]
theorem own_lets {M:Nat}{ss:List (List Int)}{H:Hd}{ch:List Int} (h:Full M ss H) (hM:M≤200) (c:Cv M ss) (g:GI ss (wP M) (fct M) H ch.length) (hi:isCh M ss ch=true):letsB M ss ch (ownQ M H)=true:=by
 have hq:=h.shs hM
 have Lp:=lcL_pos hq
 have dv:∀x:Int,0≤x→x<(M:Int)→shr H x ∣ lcL (ownQ M H)∧shr H x ∣ fct M:=fun x h0 h1=>by
  have:=h.shr h0 h1
  exact⟨(zal1 (ownQ M H) 1 zbl7 hq.bt).2.2.1 (1,shr H x) (zba3.mpr ⟨x,zl5 h0 h1,rfl⟩),zai7 this.1 this.2⟩
 have et:tps (ownQ M H)=((zb7 M).map fun x=>lcL (ownQ M H) / shr H x).map fun (n:Nat)=>(n:Int):=by
  unfold tps
  generalize lcL (ownQ M H)=L
  unfold ownQ
  rw [zbd4,zbd4]
  refine zbf1 fun x _=>?_
  show (1:Int)*((L / shr H x:Nat):Int)=_
  rw [Int.one_mul]
  rfl
 have el:(ownQ M H).length=M:=by simp [ownQ,zb7]
 have fp:=zv3 M
 unfold letsB
 rw [hi,decide_eq_true el]
 have e1:((tps (ownQ M H)).map fun x=>decide (x<0)).any id=false:=by
  cases z:((tps (ownQ M H)).map fun x=>decide (x<0)).any id with
  |false=>rfl
  |true =>
   obtain⟨x,hx,hx0⟩:=any_id.mp z
   rw [et]at hx
   obtain⟨n,_,rfl⟩:=zba3.mp hx
   simp at hx0
   lia
 have e2:(tps (ownQ M H)).sum=(ch.length:Int)*(lcL (ownQ M H):Int):=by
  rw [et,zy4]
  have s:=zag1 (L:=lcL (ownQ M H)) (F:=fct M) (g:=shr H) (l:=zb7 M) fun x hx=>dv x (zh1 hx).1 (zh1 hx).2
  have s2:((zb7 M).map fun x=>fct M / shr H x).sum=ch.length*fct M:=(tot_sum h (wP M)).trans g.tt
  rw [s2]at s
  have:((zb7 M).map fun x=>lcL (ownQ M H) / shr H x).sum=ch.length*lcL (ownQ M H):=zbj4 fp (by rw [s,zbe6])
  rw [this,zbg3]
 have e3:ss.all (payS (tps (ownQ M H)) (lcL (ownQ M H)))=true:=by
  rw [zbc2]
  intro s hs
  unfold payS
  rw [zbo1,decide_eq_false_iff_not,Int.not_lt]
  have es:sumS (tps (ownQ M H)) s=(((s.map fun x=>lcL (ownQ M H) / shr H x).sum:Nat):Int):=by
   unfold sumS
   rw [← zy4,zbd4]
   congr 1
   refine zbf1 fun x hx=>?_
   obtain⟨x0,x1⟩:=c.lt s hs x hx
   rw [et]
   have hx':x.toNat<M:=by lia
   simp only [zb7,zay7,zbb2,zbm8 hx',zbc0,zbl1,Function.comp]
   rw [zbi8 x0]
  rw [es]
  have s1:=zag1 (L:=lcL (ownQ M H)) (F:=fct M) (g:=shr H) (l:=s) fun x hx=>dv x (c.lt s hs x hx).1 (c.lt s hs x hx).2
  have s2:(s.map fun x=>fct M / shr H x).sum=paid (wP M) H s:=paid_sum h (wP M) (c.nd s hs) (c.lt s hs)
  have s3:=g.pay s hs
  have s4:=hAB (N:=M) (n:=s.length) (c.len hs)
  have key:(s.map fun x=>lcL (ownQ M H) / shr H x).sum*hB s.length≤hA s.length*lcL (ownQ M H):=by
   refine Nat.le_of_mul_le_mul_right (c:=fct M) ?_ fp
   calc (s.map fun x=>lcL (ownQ M H) / shr H x).sum*hB s.length*fct M=(s.map fun x=>lcL (ownQ M H) / shr H x).sum*fct M*hB s.length:=zbe6 _ _ _
    _=paid (wP M) H s*lcL (ownQ M H)*hB s.length:=by rw [s1,s2]
    _≤Hw (wP M) s.length*lcL (ownQ M H)*hB s.length:=zbb8 _ (zbb8 _ (by lia))
    _=hB s.length*Hw (wP M) s.length*lcL (ownQ M H):=by rw [zbe6,zbe9 (hB s.length)]
    _=hA s.length*lcL (ownQ M H)*fct M:=by rw [← s4,zbe6]
  have:=Int.ofNat_le.mpr key
  rw [zbg3,zbg3]at this
  exact this
 rw [e1,decide_eq_true e2,e3]
 rfl
theorem fin_hi {M:Nat}{ss:List (List Int)} (c:Cv M ss):∀(n:Nat) (hd:Hd),HI M ss hd→M<hd.length+n→HI M ss (finH M ss n hd)∧(finH M ss n hd).length=M
 |0,hd,h,hn=>by
  have:hd.length≤M:=by simpa using h.ak.len
  lia
 |n+1,hd,h,hn=>by
  unfold finH
  by_cases hl':hd.length<M
  ·rw [if_pos hl']
   obtain⟨h1,h2⟩:=h.step c (h.some_new c hl')
   exact fin_hi c n _ h1 (by lia)
  ·rw [if_neg hl']
   have:hd.length≤M:=by simpa using h.ak.len
   exact⟨h,show hd.length=M by lia⟩
theorem zal6 {M:Nat}{ss:List (List Int)} (c:Cv M ss) {n:Nat} (hn:M<n):Full M ss (finH M ss n []):=by
 have:=fin_hi c n [] (HI.nil M ss) (by simpa using hn)
 exact⟨this.1,this.2⟩
theorem own_isCh {M:Nat} (hM:M≤400) {ss:List (List Int)} (c:Cv M ss) (h0:0<M) {n:Nat} (hn:M<n):isCh M ss (rstH M ss n [])=true:=by
 have ne:=c.ne h0
 unfold isCh
 have e1:((rstH M ss n []).map fun k=>decide (0≤k)&&decide (k<(ss.length:Int))).all id=true:=all_id.mpr fun k hk=>by
  have:=zag7 (M:=M) (ss:=ss) ne n [] k hk
  rw [decide_eq_true this.1,decide_eq_true this.2]
  rfl
 have e2:(ddp (rstH M ss n [])).length=(rstH M ss n []).length:=ddp_nd _ (rst_nd c n [] (HI.nil M ss)).1
 have e3:(zb7 M).filter (fun x=>decide (x∉hads ss (rstH M ss n [])))=[]:=by
  refine zbl5.mpr fun x hx=>?_
  obtain⟨x0,x1⟩:=zh1 hx
  have hx':x∈(finH M ss n []).map Prod.fst:=by
   exact (zal6 c hn).perm.mem_iff.mpr hx
  rcases zap0 n [] hx' with z | ⟨k,hk,z⟩
  ·exact nomatch z
  ·have:x∈hads ss (rstH M ss n []):=mem_hads.mpr (.inr ⟨k,hk,z⟩)
   simpa using this
 rw [e1,decide_eq_true e2,e3]
 rfl
noncomputable def uniqS (hd:Hd) (ss:List (List Int)):Bool:=(zbb6 ss.length).all fun k=>k == bst hd ss||decide ((lnS hd ss).getD k 0<mxL (lnS hd ss))
noncomputable def uqR (M:Nat) (ss:List (List Int)):Nat→Hd→Bool
 |0,_=>true
 |n+1,hd=>if hd.length<M then uniqS hd ss&&uqR M ss n (adS hd ss) else true
def ordS (ss:List (List Int)) (o:List Int):List (List Int):=o.map fun k=>ss.getD k.toNat []
theorem lnS_ord {hd:Hd}{ss:List (List Int)}{o:List Int} (ho:∀k∈o,0≤k∧k<(ss.length:Int)):lnS hd (ordS ss o)=o.map fun k=>(lnS hd ss).getD k.toNat 0:=by
 unfold lnS ordS
 rw [zbd4]
 refine zbf1 fun k hk=>?_
 have:=ho k hk
 have hl:k.toNat<ss.length:=by lia
 show (nwS hd (ss.getD k.toNat [])).length=(ss.map fun s=>(nwS hd s).length).getD k.toNat 0
 rw [zay7,zay7,zbb2,zay3 hl]
 rfl
theorem zat2 {hd:Hd}{ss:List (List Int)}{k:Nat} (h:k<ss.length):(lnS hd ss).getD k 0=(nwS hd (ss.getD k [])).length:=by
 unfold lnS
 rw [zay7,zay7,zbb2,zay3 h]
 rfl
theorem ord_step {hd:Hd}{ss:List (List Int)}{o:List Int} (ne:ss≠[]) (ho:∀k∈o,0≤k∧k<(ss.length:Int)) (nd:o.Nodup) (all:∀k:Nat,k<ss.length→(k:Int)∈o) (u:uniqS hd ss=true) :
  mxL (lnS hd (ordS ss o))=mxL (lnS hd ss)∧o.getD (bst hd (ordS ss o)) 0=(bst hd ss:Int)∧bst hd (ordS ss o)<o.length∧adS hd (ordS ss o)=adS hd ss:=by
 have bl:=zy1 (hd:=hd) ne
 have ble:=zw0 (hd:=hd) ne
 have uq:∀k,k<ss.length→k≠bst hd ss→(lnS hd ss).getD k 0<mxL (lnS hd ss):=fun k hk n=>by
  have:=zbc2.mp u k (zbi0.mpr hk)
  rw [zbj0,beq_iff_eq,decide_eq_true_eq]at this
  exact this.resolve_left n
 have eb:(lnS hd ss).getD (bst hd ss) 0=mxL (lnS hd ss):=by rw [zat2 bl,ble]
 have bo:=all _ bl
 have lo:=lnS_ord (hd:=hd) (ss:=ss) (o:=o) ho
 have mx:mxL (lnS hd (ordS ss o))=mxL (lnS hd ss):=by
  refine Nat.le_antisymm (mxL_le fun a ha=>?_) ?_
  ·rw [lo]at ha
   obtain⟨k,hk,rfl⟩:=zba3.mp ha
   have h:=ho k hk
   have hl:k.toNat<(lnS hd ss).length:=by simp [lnS];lia
   refine zac9 ?_
   rw [zay7,zay3 hl]
   exact zbe5 _
  ·rw [← eb]
   refine zac9 ?_
   rw [lo]
   exact zba3.mpr ⟨(bst hd ss:Int),bo,by rw [zbg4]⟩
 have neo:ordS ss o≠[]:=fun z=>by
  have:o=[]:=by
   unfold ordS at z
   exact zbi9.mp z
  rw [this]at bo
  exact nomatch bo
 have bl2:=zy1 (hd:=hd) neo
 have ol:(ordS ss o).length=o.length:=by simp [ordS]
 have bl3:bst hd (ordS ss o)<o.length:=by lia
 have ble2:=zw0 (hd:=hd) neo
 have eo:(ordS ss o).getD (bst hd (ordS ss o)) []=ss.getD (o.getD (bst hd (ordS ss o)) 0).toNat []:=by
  show (o.map fun k=>ss.getD k.toNat []).getD (bst hd (ordS ss o)) []=_
  rw [zay7,zbb2,zay3 bl3,zay7 (l:=o),zay3 bl3]
  rfl
 have hk:o.getD (bst hd (ordS ss o)) 0∈o:=by
  rw [zay7,zay3 bl3]
  exact zbe5 _
 have hr:=ho _ hk
 have key:o.getD (bst hd (ordS ss o)) 0=(bst hd ss:Int):=by
  refine Classical.byContradiction fun n=>?_
  have lt:=uq (o.getD (bst hd (ordS ss o)) 0).toNat (by lia) (by lia)
  rw [zat2 (by lia), ← eo,ble2,mx]at lt
  exact zbd6 _ lt
 refine⟨mx,key,bl3,?_⟩
 unfold adS
 rw [mx,eo,key,zbg4]
theorem zar7 {M:Nat}{ss:List (List Int)}{o:List Int} (ne:ss≠[]) (ho:∀k∈o,0≤k∧k<(ss.length:Int)) (nd:o.Nodup) (all:∀k:Nat,k<ss.length→(k:Int)∈o):∀(n:Nat) (hd:Hd),uqR M ss n hd=true→(rstH M (ordS ss o) n hd).map (fun k=>o.getD k.toNat 0)=rstH M ss n hd
 |0,hd,_=>rfl
 |n+1,hd,u=>by
  unfold uqR at u
  unfold rstH
  split
  ·rename_i hl
   rw [if_pos hl,zay4]at u
   obtain⟨_,h2,_,h4⟩:=ord_step ne ho nd all u.1
   rw [zaz3,h4,zar7 ne ho nd all n _ u.2,zbg4,h2]
  ·rfl
theorem cv_ord {M:Nat}{ss:List (List Int)} (c:Cv M ss) {o:List Int} (ho:∀k∈o,0≤k∧k<(ss.length:Int)) (all:∀k:Nat,k<ss.length→(k:Int)∈o):Cv M (ordS ss o):=by
 have m:∀s∈ordS ss o,s∈ss:=fun s hs=>by
  obtain⟨k,hk,rfl⟩:=zba3.mp hs
  have:=ho k hk
  rw [zay7,zay3 (by lia)]
  exact zbe5 _
 refine⟨fun s hs=>c.nd s (m s hs),fun s hs=>c.lt s (m s hs),fun x h0 h1=>?_⟩
 obtain⟨s,hs,xs⟩:=c.all x h0 h1
 obtain⟨i,hi,e⟩:=zbm5.mp hs
 refine⟨s,zba3.mpr ⟨(i:Int),all i hi,?_⟩,xs⟩
 show ss.getD ((i:Int)).toNat []=s
 rw [zbg4,zay7,zay3 hi, ← e]
 rfl
def wM (n:Nat):Nat:=2 ^ (n+1) - 2
noncomputable def wS (n:Nat):List (List Int):=((zbb6 n).map fun k=>(zb7 (2 ^ (n - k))).map fun x=>x+((2 ^ (n+1) - 2 ^ (n - k+1):Nat):Int))++[(zb7 (wM n / 2)).map fun x=>2*x,(zb7 (wM n / 2)).map fun x=>2*x+1]
theorem w_run:∀k,k<4→rstH (wM (3+k)) (wS (3+k)) 500 []=zb7 (3+k):=by decide +kernel
theorem w_uq:∀k,k<4→uqR (wM (3+k)) (wS (3+k)) 500 []=true:=by decide +kernel
theorem w_cv:∀k,k<4→((wS (3+k)).all fun s=>decide s.Nodup&&s.all fun x=>decide (0≤x)&&decide (x<(wM (3+k):Int)))=true:=by decide +kernel
theorem w_all:∀k,k<4→((zb7 (wM (3+k))).all fun x=>(wS (3+k)).any fun s=>decide (x∈s))=true:=by decide +kernel
theorem cv_w {k:Nat} (hk:k<4):Cv (wM (3+k)) (wS (3+k)):=by
 have h1:=w_cv k hk
 have h2:=w_all k hk
 refine⟨fun s hs=>?_,fun s hs x hx=>?_,fun x h0 h1'=>?_⟩
 ·have:=zbc2.mp h1 s hs
  simp only [zay4,decide_eq_true_eq]at this
  exact this.1
 ·have:=zbc2.mp h1 s hs
  simp only [zay4,decide_eq_true_eq,zbc2]at this
  exact this.2 x hx
 ·have:=zbc2.mp h2 x (zl5 h0 h1')
  obtain⟨s,hs,e⟩:=zbi5.mp this
  exact⟨s,hs,by simpa using e⟩
end KX
set_option maxHeartbeats 4000000
namespace KX
open PySem.Spec L2 DL
def top (i:Nat):Stmt:=PySem.Challenge.pw_nearenough_k30_worst_choices.main.body.getD i (.Pass ⟨0,0,0,0⟩)
abbrev zf6:Stmt:=top 4
abbrev zn5:Stmt:=top 5
abbrev zn4:Stmt:=top 6
abbrev ze4:Stmt:=top 7
abbrev ze9:Stmt:=top 9
abbrev zf7:Stmt:=top 10
abbrev zl4:Stmt:=top 11
abbrev zi2:Stmt:=top 12
abbrev zi1:Stmt:=top 13
abbrev zg9:Stmt:=top 14
abbrev zn3:Stmt:=top 16
abbrev zl3:Stmt:=top 17
abbrev zl2:Stmt:=top 19
abbrev zh0:Stmt:=top 20
abbrev zn2:Stmt:=top 21
abbrev zl1:Stmt:=top 22
abbrev s_law:Stmt:=top 23
structure Blt (mg:Str→Option Value):Prop where
 n_abs:mg "abs"=none
 n_all:mg "all"=none
 n_any:mg "any"=none
 n_isinstance:mg "isinstance"=none
 n_len:mg "len"=none
 n_list:mg "list"=none
 n_max:mg "max"=none
 n_range:mg "range"=none
 n_set:mg "set"=none
 n_sorted:mg "sorted"=none
 n_sum:mg "sum"=none
 n_tuple:mg "tuple"=none
variable {P:Program}{w:World}{K:zax7}{mg:Str→Option Value}{base:BHeap}{ad:Addr}{fd:FuncData}
theorem zs5:FnScope ["one", "other"] ["one", "other"] (zb1 zf6):=zm2 rfl rfl rfl rfl (by decide +kernel)
def cfB:DS:=(dPar 0 1 (za2 (dVar 1) (za2 (d2 qR (dVar 0) (dVar 1)) dNil)))
def zm9:DS :=
 (dSeq (zq5 (fuelN 1) (dBo (d2 kNe (dVar 1) (dC (.int 0)))) cfB) (dRet (dT1 kAbs (za2 (dVar 0) dNil))))
def zd1:List D→Option Ev:=mkG 2 ["one", "other"] zm9
theorem zs7 (Fn:L2.Fun K "common_factor" "common_factor" zf6 ad fd) (bu:Blt mg) :FnOk P w K mg base CX0 1 ad fd ["one", "other"] (spD K zd1):=by
 have SC:=zs5
 refine zh6 (k:=0) Fn SC (fun _ _ e=>ze3 e) zm9 (fun _ _ e=>zh5 e) (fun cdv A outer s H E F hr=>?_)
 refine za3 ?_ ?_
 ·exact (zp8 (fuelN 1) PassesOwn.never (zd8 (zw7 hr.units) (za0 1) za4) (zb4 (zap6 (i:=0) (j:=1) rfl SC.nd rfl rfl (by decide) rfl rfl (za1 (za0 1) (za1 (zb5 zo2 (za0 0) (za0 1)) za5)) rfl)))
 exact zb4 (zd0 (zc0 cd_abs rfl bu.n_abs bt_abs (za1 (za0 0) za5)))
theorem zag6:FnScope ["top", "bottom", "factor"] ["top", "bottom"] (zb1 zn5):=zm2 rfl rfl rfl rfl (by decide +kernel)
noncomputable def zr6:DS :=
 (dSeq (dAsg 2 (dT1 (zd3 zd1) (za2 (dVar 0) (za2 (dVar 1) dNil)))) (dSeq (dIfS (dBo (d2 qL' (dVar 1) (dC (.int 0)))) (dAsg 2 (d1 kNeg (dVar 2))) zi3) (dRet (dT1 kTup (za2 (d2 qV (dVar 0) (dVar 2)) (za2 (d2 qV (dVar 1) (dVar 2)) dNil))))))
def zl0:List D→Option Ev:=mkG 2 ["top", "bottom", "factor"] zr6
theorem zah7 (Fn:L2.Fun K "fraction" "fraction" zn5 ad fd) (bu:Blt mg) (c_common_factor:Cal P w K mg base "common_factor" 1 zd1):FnOk P w K mg base CX0 2 ad fd ["top", "bottom"] (spD K zl0):=by
 have SC:=zag6
 refine zh6 (k:=1) Fn SC (fun _ _ e=>ze3 e) zr6 (fun _ _ e=>zh5 e) (fun cdv A outer s H E F hr=>?_)
 refine za3 ?_ ?_
 ·exact (zc4 (i:=2) SC.nd rfl (zb0 rfl) (zc3 c_common_factor (hr.mono (by decide)) (za1 (za0 0) (za1 (za0 1) za5))))
 refine za3 ?_ ?_
 ·exact (zj5 (zd8 zan1 (za0 1) za4) (zb4 (zc4 (i:=2) SC.nd rfl (zb0 rfl) (zz2 (za0 2)))) zf8)
 exact zb4 (zd0 (zr2 (za1 (zb5 zr8 (za0 0) (za0 2)) (za1 (zb5 zr8 (za0 1) (za0 2)) za5))))
theorem zag5:FnScope ["many", "top", "bottom", "step"] ["many"] (zb1 zn4):=zm2 rfl rfl rfl rfl (by decide +kernel)
def bdHm:DS:=(dPar 1 2 (za2 (d2 qA' (d2 qM (dVar 1) (dVar 3)) (dVar 2)) (za2 (d2 qM (dVar 2) (dVar 3)) dNil)))
noncomputable def zr5:DS :=
 (dSeq (zw8 (zai3 2 (zj8 (za6 1) (zj8 (za6 2) zai4))) (dT1 kTup (za2 (dC (.int 0)) (za2 (dC (.int 1)) dNil)))) (dSeq (zae0 (za6 3) (dC (.int 1)) (d2 qA' (dVar 0) (dC (.int 1))) bdHm) (dRet (dT1 (zd3 zl0) (za2 (dVar 1) (za2 (dVar 2) dNil))))))
def zk9:List D→Option Ev:=mkG 1 ["many", "top", "bottom", "step"] zr5
theorem zah6 (Fn:L2.Fun K "harmonic" "harmonic" zn4 ad fd) (bu:Blt mg) (c_fraction:Cal P w K mg base "fraction" 2 zl0):FnOk P w K mg base CX0 3 ad fd ["many"] (spD K zk9):=by
 have SC:=zag5
 refine zh6 (k:=2) Fn SC (fun _ _ e=>ze3 e) zr5 (fun _ _ e=>zh5 e) (fun cdv A outer s H E F hr=>?_)
 refine za3 ?_ ?_
 ·exact (zy8 (zr2 (za1 za4 (za1 za4 za5))) (zaq5 rfl (zj6 (zc1 (i:=1) SC.nd rfl (zb0 rfl)) (zj6 (zc1 (i:=2) SC.nd rfl (zb0 rfl)) zz1))) (zao5 (zj4 (zc2 1) (zj4 (zc2 2) zy3))))
 refine za3 ?_ ?_
 ·exact (zak4 PassesOwn.never rfl rfl bu.n_range za4 (zb5 (od_add.or zh4) (za0 0) za4) (zc1 (i:=3) SC.nd rfl (zb0 rfl)) (zc2 3) (zb4 (zap6 (i:=1) (j:=2) rfl SC.nd rfl rfl (by decide) rfl rfl (za1 (zb5 (od_add.or zh4) (zb5 (od_mul.or zg2) (za0 1) (za0 3)) (za0 2)) (za1 (zb5 (od_mul.or zg2) (za0 2) (za0 3)) za5)) rfl)))
 exact zb4 (zd0 (zc3 c_fraction (hr.mono (by decide)) (za1 (za0 1) (za1 (za0 2) za5))))
theorem zp7:FnScope ["parts", "bottom", "part"] ["parts"] (zb1 ze4):=zm2 rfl rfl rfl rfl (by decide +kernel)
noncomputable def bdB:DS:=(dAsg 1 (d2 qM (d2 qV (dVar 1) (dT1 (zd3 zd1) (za2 (dVar 1) (za2 (d2 kIx (dVar 2) (dC (.int 1))) dNil)))) (d2 kIx (dVar 2) (dC (.int 1)))))
noncomputable def zg3:DS :=
 (dSeq (dAsg 1 (dC (.int 1))) (dSeq (dFor (za6 2) (dVar 0) bdB) (dRet (dT1 kTup (za2 (ze6 1 [1] (fsL (dVar 0)) (za6 0) zc7 (d2 qM (d2 kIx (dVar 0) (dC (.int 0))) (d2 qV (dVar 1) (d2 kIx (dVar 0) (dC (.int 1)))))) (za2 (dVar 1) dNil))))))
def zc8:List D→Option Ev:=mkG 1 ["parts", "bottom", "part"] zg3
theorem zq0 (Fn:L2.Fun K "over_one_bottom" "over_one_bottom" ze4 ad fd) (bu:Blt mg) (c_common_factor:Cal P w K mg base "common_factor" 1 zd1):FnOk P w K mg base CX0 2 ad fd ["parts"] (spD K zc8):=by
 have SC:=zp7
 refine zh6 (k:=1) Fn SC (fun _ _ e=>ze3 e) zg3 (fun _ _ e=>zh5 e) (fun cdv A outer s H E F hr=>?_)
 refine za3 ?_ ?_
 ·exact (zc4 (i:=1) SC.nd rfl (zb0 rfl) za4)
 refine za3 ?_ ?_
 ·exact (zag8 PassesOwn.never rfl (za0 0) (zc1 (i:=2) SC.nd rfl (zb0 rfl)) (zc2 2) (zb4 (zc4 (i:=1) SC.nd rfl (zb0 rfl) (zb5 (od_mul.or zg2) (zb5 zr8 (za0 1) (zc3 c_common_factor (hr.mono (by decide)) (za1 (za0 1) (za1 (ze0 (za0 2) za4) za5)))) (ze0 (za0 2) za4)))))
 exact zb4 (zd0 (zr2 (za1 (ze2 1 [1] ["part", "bottom"] rfl (ze5 (za0 0)) (fun _ _ _ _ _=>(zc1 (i:=0) (show List.Nodup (["part", "bottom"]:List Str) by decide +kernel) rfl (zb0 rfl))) (fun _=>(zc2 0)) (fun _ _ _ _ _ _=>zd7) (fun _ _ _ _ _ _=>(zb5 (od_mul.or zg2) (ze0 (za0 0) za4) (zb5 zr8 (za0 1) (ze0 (za0 0) za4))))) (za1 (za0 1) za5))))
theorem zq8:FnScope ["many", "sets", "numbers", "had"] ["many", "sets", "numbers"] (zb1 ze9):=zm2 rfl rfl rfl rfl (by decide +kernel)
noncomputable def zf0:DS :=
 (dSeq (dAsg 3 (zv5 2 [1] (fsL (dVar 2)) (za6 0) zc7 (fsL (d2 kIx (dVar 2) (dVar 0))) (za6 1) zc7 (dVar 1) (dC (.bl true)))) (dRet (ze6 1 [3] (fsR1 (dVar 0)) (za6 0) (dBo (d2 (kInD true) (dVar 0) (dVar 1))) (dVar 0))))
def zb2:List D→Option Ev:=mkG 3 ["many", "sets", "numbers", "had"] zf0
theorem zr3 (Fn:L2.Fun K "lacking_things" "lacking_things" ze9 ad fd) (bu:Blt mg) :FnOk P w K mg base CX0 1 ad fd ["many", "sets", "numbers"] (spD K zb2):=by
 have SC:=zq8
 refine zh6 (k:=0) Fn SC (fun _ _ e=>ze3 e) zf0 (fun _ _ e=>zh5 e) (fun cdv A outer s H E F hr=>?_)
 refine za3 ?_ ?_
 ·exact (zc4 (i:=3) SC.nd rfl (zb0 rfl) (zah1 2 [1] ["number", "thing", "sets"] rfl (ze5 (za0 2)) (fun _ _ _ _ _=>(zc1 (i:=0) (show List.Nodup (["number", "thing", "sets"]:List Str) by decide +kernel) rfl (zb0 rfl))) (fun _=>(zc2 0)) (fun _ _ _ _ _ _=>zd7) (fun _ _ _ _ _ _=>(ze5 (ze0 (za0 2) (za0 0)))) (fun _ _ _ _ _=>(zc1 (i:=1) (show List.Nodup (["number", "thing", "sets"]:List Str) by decide +kernel) rfl (zb0 rfl))) (fun _=>(zc2 1)) (fun _ _ _ _ _ _=>zd7) (fun _ _ _ _ _ _=>(za0 1)) (fun _ _ _ _ _ _=>zj7)))
 exact zb4 (zd0 (ze2 1 [3] ["thing", "had"] rfl (zp9 rfl bu.n_range (za0 0)) (fun _ _ _ _ _=>(zc1 (i:=0) (show List.Nodup (["thing", "had"]:List Str) by decide +kernel) rfl (zb0 rfl))) (fun _=>(zc2 0)) (fun _ _ _ _ _ _=>(zak2 (zd8 (zas0 hr.units) (za0 0) (za0 1)))) (fun _ _ _ _ _ _=>(za0 0))))
theorem zs6:FnScope ["many", "sets", "lacking", "shares", "choice", "new", "lengths", "most", "best"] ["many", "sets"] (zb1 zf7):=zm2 rfl rfl rfl rfl (by decide +kernel)
noncomputable def bdN:DS:=(dSeq (dAsg 5 (zo6 1 [3] (fsL (dVar 1)) (za6 0) zc7 (ze6 1 [1] (fsL (dVar 0)) (za6 0) (dBo (d2 (kInD true) (dVar 0) (dVar 1))) (dVar 0))))
  (dSeq (dAsg 6 (ze6 1 [] (fsL (dVar 5)) (za6 0) zc7 (dT1 kLen (za2 (dVar 0) dNil))))
  (dSeq (dAsg 7 (dT1 (zan3 zo8) (za2 (dVar 6) dNil)))
  (dSeq (dAsg 8 (d2 kIdx (dVar 6) (dVar 7)))
  (dSeq (dApp 4 (dVar 8))
  (dUpd 3 (zr7 1 [7] (fsL (d2 kIx (dVar 5) (dVar 8))) (za6 0) zc7 (dVar 0) (dT1 kTup (za2 (dC (.int 1)) (za2 (dVar 1) dNil))))))))))
def cdN:DT:=(dBo (d2 qL' (dT1 kLenD (za2 (dVar 3) dNil)) (dVar 0)))
noncomputable def zf9:DS :=
 (dSeq (dAsg 2 (dT1 (zd3 zb2) (za2 (dVar 0) (za2 (dVar 1) (za2 (zk6 (za2 (dT1 kLen (za2 (dVar 1) dNil)) dNil)) dNil))))) (dSeq (dIfS (dTr (dVar 2)) zav5 zi3) (dSeq (dAsg 3 dNewD) (dSeq (dAsg 4 (dT1 kLst dNil)) (dSeq (zq5 (fun _=>500) cdN bdN) (dRet (dT1 kTup (za2 (dVar 4) (za2 (ze6 1 [3] (fsR1 (dVar 0)) (za6 0) zc7 (d2 zx7 (dVar 1) (dVar 0))) dNil)))))))))
def zd2:List D→Option Ev:=mkG 2 ["many", "sets", "lacking", "shares", "choice", "new", "lengths", "most", "best"] zf9
theorem zs8 (Fn:L2.Fun K "choose_by_new" "choose_by_new" zf7 ad fd) (bu:Blt mg) (c_lacking_things:Cal P w K mg base "lacking_things" 1 zb2):FnOk P w K mg base CX0 2 ad fd ["many", "sets"] (spD K zd2):=by
 have SC:=zs6
 refine zh6 (k:=1) Fn SC (fun _ _ e=>ze3 e) zf9 (fun _ _ e=>zh5 e) (fun cdv A outer s H E F hr=>?_)
 refine za3 ?_ ?_
 ·exact (zc4 (i:=2) SC.nd rfl (zb0 rfl) (zc3 c_lacking_things (hr.mono (by decide)) (za1 (za0 0) (za1 (za0 1) (za1 (zi7 rfl rfl bu.n_list rfl bu.n_range (za1 (zc0 zk7 rfl bu.n_len PySem.boot_len (za1 (za0 1) za5)) za5)) za5)))))
 refine za3 ?_ ?_
 ·exact (zj5 (zm3 (za0 2)) (zb4 zap7) zf8)
 refine za3 ?_ ?_
 ·exact (zc4 (i:=3) SC.nd rfl (zb0 rfl) ped_newD)
 refine za3 ?_ ?_
 ·exact (zc4 (i:=4) SC.nd rfl (zb0 rfl) (zh8 za5))
 refine za3 ?_ ?_
 ·exact (zp8 (fun _=>500) PassesOwn.never (zd8 zan1 (zc0 cd_lenD rfl bu.n_len PySem.boot_len (za1 (za0 3) za5)) (za0 0)) (za3 (zap5 (i:=5) 1 [3] ["things", "shares"] SC.nd rfl (Or.inl rfl) rfl (ze5 (za0 1)) (fun _ _ _ _ _=>(zc1 (i:=0) (show List.Nodup (["things", "shares"]:List Str) by decide +kernel) rfl (zb0 rfl))) (fun _=>(zc2 0)) (fun _ _ _ _ _ _=>zd7) (fun _ _ _ _ _ _=>(ze2 1 [1] ["thing", "shares"] rfl (ze5 (za0 0)) (fun _ _ _ _ _=>(zc1 (i:=0) (show List.Nodup (["thing", "shares"]:List Str) by decide +kernel) rfl (zb0 rfl))) (fun _=>(zc2 0)) (fun _ _ _ _ _ _=>(zak2 (zd8 (zas0 hr.units) (za0 0) (za0 1)))) (fun _ _ _ _ _ _=>(za0 0)))))
  (za3 (zak3 (i:=6) 1 [] ["things"] SC.nd rfl (Or.inl rfl) rfl (ze5 (za0 5)) (fun _ _ _ _ _=>(zc1 (i:=0) (show List.Nodup (["things"]:List Str) by decide +kernel) rfl (zb0 rfl))) (fun _=>(zc2 0)) (fun _ _ _ _ _ _=>zd7) (fun _ _ _ _ _ _=>(zc0 zk7 rfl bu.n_len PySem.boot_len (za1 (za0 0) za5))))
  (za3 (zc4 (i:=7) SC.nd rfl (zb0 rfl) (zc0 (cd_maxL rfl) rfl bu.n_max (by decide +kernel) (za1 (za0 6) za5)))
  (za3 (zc4 (i:=8) SC.nd rfl (zb0 rfl) (zaq9 (za0 6) (za0 7)))
  (za3 (zag9 4 (za0 8))
  (zb4 (psd_upd 3 (zah2 1 [7] ["thing", "most"] rfl (ze5 (ze0 (za0 5) (za0 8))) (fun _ _ _ _ _=>(zc1 (i:=0) (show List.Nodup (["thing", "most"]:List Str) by decide +kernel) rfl (zb0 rfl))) (fun _=>(zc2 0)) (fun _ _ _ _ _ _=>zd7) (fun _ _ _ _ _ _=>(za0 0)) (fun _ _ _ _ _ _=>(zr2 (za1 za4 (za1 (za0 1) za5)))))))))))))
 exact zb4 (zd0 (zr2 (za1 (za0 4) (za1 (ze2 1 [3] ["thing", "shares"] rfl (zp9 rfl bu.n_range (za0 0)) (fun _ _ _ _ _=>(zc1 (i:=0) (show List.Nodup (["thing", "shares"]:List Str) by decide +kernel) rfl (zb0 rfl))) (fun _=>(zc2 0)) (fun _ _ _ _ _ _=>zd7) (fun _ _ _ _ _ _=>(zar0 hr.units (za0 1) (za0 0)))) za5))))
theorem zab7:FnScope ["many", "sets", "numbers"] ["many", "sets", "numbers"] (zb1 zl4):=zm2 rfl rfl rfl rfl (by decide +kernel)
noncomputable def zp1:DS :=
 (dSeq (dIfS (dNot (dTr (dT1 qU (za2 (ze6 1 [1] (fsL (dVar 2)) (za6 0) zc7 (dChV qE qL' (dC (.int 0)) (dVar 0) (dT1 kLen (za2 (dVar 1) dNil)))) dNil)))) (dRet (dC (.bl false))) zi3) (dRet (zan8 (d2 kEq (dT1 zr4 (za2 (dVar 2) dNil)) (dT1 kLen (za2 (dVar 2) dNil))) (d1 zai1 (dT1 (zd3 zb2) (za2 (dVar 0) (za2 (dVar 1) (za2 (dVar 2) dNil))))))))
def zj3:List D→Option Ev:=mkG 3 ["many", "sets", "numbers"] zp1
theorem zac5 (Fn:L2.Fun K "is_choice" "is_choice" zl4 ad fd) (bu:Blt mg) (c_lacking_things:Cal P w K mg base "lacking_things" 1 zb2):FnOk P w K mg base CX0 2 ad fd ["many", "sets", "numbers"] (spD K zj3):=by
 have SC:=zab7
 refine zh6 (k:=1) Fn SC (fun _ _ e=>ze3 e) zp1 (fun _ _ e=>zh5 e) (fun cdv A outer s H E F hr=>?_)
 refine za3 ?_ ?_
 ·exact (zj5 (zr0 (zm3 (zc0 (cd_bls (zx2 rfl)) rfl bu.n_all (by decide +kernel) (za1 (ze2 1 [1] ["number", "sets"] rfl (ze5 (za0 2)) (fun _ _ _ _ _=>(zc1 (i:=0) (show List.Nodup (["number", "sets"]:List Str) by decide +kernel) rfl (zb0 rfl))) (fun _=>(zc2 0)) (fun _ _ _ _ _ _=>zd7) (fun _ _ _ _ _ _=>(zar2 od_le zan1 za4 (za0 0) (zc0 zk7 rfl bu.n_len PySem.boot_len (za1 (za0 1) za5))))) za5)))) (zb4 (zd0 zj7)) zf8)
 exact zb4 (zd0 (zar3 (zu4 (od_eq hr.units) (zam7 rfl rfl bu.n_len rfl bu.n_set (za0 2)) (zc0 zk7 rfl bu.n_len PySem.boot_len (za1 (za0 2) za5))) (zaq7 (ped_notT (zc3 c_lacking_things (hr.mono (by decide)) (za1 (za0 0) (za1 (za0 1) (za1 (za0 2) za5))))))))
theorem zw4:FnScope ["sets", "tops", "bottom", "things", "most"] ["sets", "tops", "bottom"] (zb1 zi2):=zm2 rfl rfl rfl rfl (by decide +kernel)
noncomputable def bdPy:DS:=(dSeq (dAsg 4 (dT1 (zd3 zk9) (za2 (dT1 kLen (za2 (dVar 3) dNil)) dNil)))
  (dIfS (dBo (d2 qG (d2 qM (dT1 kSum (za2 (ze6 1 [1] (fsL (dVar 3)) (za6 0) zc7 (d2 kIx (dVar 1) (dVar 0))) dNil)) (d2 kIx (dVar 4) (dC (.int 1)))) (d2 qM (d2 kIx (dVar 4) (dC (.int 0))) (dVar 2)))) (dRet (dC (.bl false))) zi3))
def zl9:DS :=
 (dSeq (dFor (za6 3) (dVar 0) bdPy) (dRet (dC (.bl true))))
def zg1:List D→Option Ev:=mkG 3 ["sets", "tops", "bottom", "things", "most"] zl9
theorem zw6 (Fn:L2.Fun K "are_payable" "are_payable" zi2 ad fd) (bu:Blt mg) (c_harmonic:Cal P w K mg base "harmonic" 3 zk9):FnOk P w K mg base CX0 4 ad fd ["sets", "tops", "bottom"] (spD K zg1):=by
 have SC:=zw4
 refine zh6 (k:=3) Fn SC (fun _ _ e=>ze3 e) zl9 (fun _ _ e=>zh5 e) (fun cdv A outer s H E F hr=>?_)
 refine za3 ?_ ?_
 ·exact (zag8 PassesOwn.never rfl (za0 0) (zc1 (i:=3) SC.nd rfl (zb0 rfl)) (zc2 3) (za3 (zc4 (i:=4) SC.nd rfl (zb0 rfl) (zc3 c_harmonic (hr.mono (by decide)) (za1 (zc0 zk7 rfl bu.n_len PySem.boot_len (za1 (za0 3) za5)) za5)))
  (zb4 (zj5 (zd8 od_gt (zb5 (od_mul.or zg2) (zc0 (cd_sum rfl) rfl bu.n_sum (by decide +kernel) (za1 (ze2 1 [1] ["thing", "tops"] rfl (ze5 (za0 3)) (fun _ _ _ _ _=>(zc1 (i:=0) (show List.Nodup (["thing", "tops"]:List Str) by decide +kernel) rfl (zb0 rfl))) (fun _=>(zc2 0)) (fun _ _ _ _ _ _=>zd7) (fun _ _ _ _ _ _=>(ze0 (za0 1) (za0 0)))) za5)) (ze0 (za0 4) za4)) (zb5 (od_mul.or zg2) (ze0 (za0 4) za4) (za0 2))) (zb4 (zd0 zj7)) zf8))))
 exact zb4 (zd0 zj7)
theorem zw3:FnScope ["many", "sets", "choice", "shares", "tops", "bottom"] ["many", "sets", "choice", "shares"] (zb1 zi1):=zm2 rfl rfl rfl rfl (by decide +kernel)
noncomputable def zl7:DS :=
 (dSeq (dIfS (dOr (dNot (dTr (dT1 (zd3 zj3) (za2 (dVar 0) (za2 (dVar 1) (za2 (dVar 2) dNil)))))) (dBo (d2 kNe (dT1 kLen (za2 (dVar 3) dNil)) (dVar 0)))) (dRet (dC (.bl false))) zi3) (dSeq (zw8 (zai3 2 (zj8 (za6 4) (zj8 (za6 5) zai4))) (dT1 (zd3 zc8) (za2 (dVar 3) dNil))) (dSeq (dIfS (dOr (dTr (dT1 (kBls fun bs=>bs.any id) (za2 (ze6 1 [] (fsL (dVar 4)) (za6 0) zc7 (d2 qL' (dVar 0) (dC (.int 0)))) dNil))) (dBo (d2 kNe (dT1 kSum (za2 (dVar 4) dNil)) (d2 qM (dT1 kLen (za2 (dVar 2) dNil)) (dVar 5))))) (dRet (dC (.bl false))) zi3) (dRet (dT1 (zd3 zg1) (za2 (dVar 1) (za2 (dVar 4) (za2 (dVar 5) dNil))))))))
def zg0:List D→Option Ev:=mkG 4 ["many", "sets", "choice", "shares", "tops", "bottom"] zl7
theorem zw5 (Fn:L2.Fun K "lets_choice" "lets_choice" zi1 ad fd) (bu:Blt mg) (c_is_choice:Cal P w K mg base "is_choice" 2 zj3) (c_over_one_bottom:Cal P w K mg base "over_one_bottom" 2 zc8) (c_are_payable:Cal P w K mg base "are_payable" 4 zg1):FnOk P w K mg base CX0 5 ad fd ["many", "sets", "choice", "shares"] (spD K zg0):=by
 have SC:=zw3
 refine zh6 (k:=4) Fn SC (fun _ _ e=>ze3 e) zl7 (fun _ _ e=>zh5 e) (fun cdv A outer s H E F hr=>?_)
 refine za3 ?_ ?_
 ·exact (zj5 (L2.PW.pt (zu3 (zr0 (zm3 (zc3 c_is_choice (hr.mono (by decide)) (za1 (za0 0) (za1 (za0 1) (za1 (za0 2) za5)))))) (zu2 (zd8 (zw7 hr.units) (zc0 zk7 rfl bu.n_len PySem.boot_len (za1 (za0 3) za5)) (za0 0))))) (zb4 (zd0 zj7)) zf8)
 refine za3 ?_ ?_
 ·exact (zy8 (zc3 c_over_one_bottom (hr.mono (by decide)) (za1 (za0 3) za5)) (zaq5 rfl (zj6 (zc1 (i:=4) SC.nd rfl (zb0 rfl)) (zj6 (zc1 (i:=5) SC.nd rfl (zb0 rfl)) zz1))) (zao5 (zj4 (zc2 4) (zj4 (zc2 5) zy3))))
 refine za3 ?_ ?_
 ·exact (zj5 (L2.PW.pt (zu3 (zm3 (zc0 (cd_bls (zx1 rfl)) rfl bu.n_any (by decide +kernel) (za1 (ze2 1 [] ["top"] rfl (ze5 (za0 4)) (fun _ _ _ _ _=>(zc1 (i:=0) (show List.Nodup (["top"]:List Str) by decide +kernel) rfl (zb0 rfl))) (fun _=>(zc2 0)) (fun _ _ _ _ _ _=>zd7) (fun _ _ _ _ _ _=>(zu4 zan1 (za0 0) za4))) za5))) (zu2 (zd8 (zw7 hr.units) (zc0 (cd_sum rfl) rfl bu.n_sum (by decide +kernel) (za1 (za0 4) za5)) (zb5 (od_mul.or zg2) (zc0 zk7 rfl bu.n_len PySem.boot_len (za1 (za0 2) za5)) (za0 5)))))) (zb4 (zd0 zj7)) zf8)
 exact zb4 (zd0 (zc3 c_are_payable (hr.mono (by decide)) (za1 (za0 1) (za1 (za0 4) (za1 (za0 5) za5)))))
theorem zt9:FnScope ["size", "lengths", "sets", "many", "length"] ["size"] (zb1 zg9):=zm2 rfl rfl rfl rfl (by decide +kernel)
noncomputable def zo4:DS :=
 (dSeq (dAsg 1 (dT1 kLst (za2 (dC (.int 2)) dNil))) (dSeq (zq5 (fun _=>500) (dBo (d2 qL' (dT1 kLen (za2 (dVar 1) dNil)) (dVar 0))) (dApp 1 (d2 qM (dC (.int 2)) (d2 kIx (dVar 1) (d1 kNeg (dC (.int 1))))))) (dSeq (dAsg 2 (dNewL nNil)) (dSeq (dAsg 3 (dC (.int 0))) (dSeq (dFor (za6 4) (d1 kRev (dVar 1)) (dSeq (zav6 2 (zk6 (za2 (dVar 3) (za2 (d2 qA' (dVar 3) (dVar 4)) dNil)))) (dAug (fun i j=>i+j) 3 (dVar 4)))) (dSeq (zav6 2 (zk6 (za2 (dC (.int 0)) (za2 (dVar 3) (za2 (dC (.int 2)) dNil))))) (dSeq (zav6 2 (zk6 (za2 (dC (.int 1)) (za2 (dVar 3) (za2 (dC (.int 2)) dNil))))) (dRetM (mTup (zas7 (mOwn 3) (zas7 (mOwn 2) (zas7 (mOf (dT1 kLst (za2 (dVar 0) (za2 (d2 qA' (dVar 0) (dC (.int 1))) dNil)))) mNil))))))))))))
def zd6:List D→Option Ev:=mkG 1 ["size", "lengths", "sets", "many", "length"] zo4
theorem zu6 (Fn:L2.Fun K "worst_choice" "worst_choice" zg9 ad fd) (bu:Blt mg) :FnOk P w K mg base CX0 1 ad fd ["size"] (spD K zd6):=by
 have SC:=zt9
 refine zh6 (k:=0) Fn SC (fun _ _ e=>ze3 e) zo4 (fun _ _ e=>zh5 e) (fun cdv A outer s H E F hr=>?_)
 refine za3 ?_ ?_
 ·exact (zc4 (i:=1) SC.nd rfl (zb0 rfl) (zh8 (za1 za4 za5)))
 refine za3 ?_ ?_
 ·exact (zp8 (fun _=>500) PassesOwn.never (zd8 zan1 (zc0 zk7 rfl bu.n_len PySem.boot_len (za1 (za0 1) za5)) (za0 0)) (zb4 (zag9 1 (zb5 (od_mul.or zg2) za4 (ze0 (za0 1) (zz2 za4))))))
 refine za3 ?_ ?_
 ·exact (zc4 (i:=2) SC.nd rfl (zb0 rfl) (ped_newL pns_nil))
 refine za3 ?_ ?_
 ·exact (zc4 (i:=3) SC.nd rfl (zb0 rfl) za4)
 refine za3 ?_ ?_
 ·exact (zag8 PassesOwn.never rfl (ped_rev (za0 1)) (zc1 (i:=4) SC.nd rfl (zb0 rfl)) (zc2 4) (za3 (zy9 2 (zi7 rfl rfl bu.n_list rfl bu.n_range (za1 (za0 3) (za1 (zb5 (od_add.or zh4) (za0 3) (za0 4)) za5))))
  (zb4 (psd_aug 3 ip_add SC.nd rfl (Or.inl rfl) (za0 4)))))
 refine za3 ?_ ?_
 ·exact (zy9 2 (zi7 rfl rfl bu.n_list rfl bu.n_range (za1 za4 (za1 (za0 3) (za1 za4 za5)))))
 refine za3 ?_ ?_
 ·exact (zy9 2 (zi7 rfl rfl bu.n_list rfl bu.n_range (za1 za4 (za1 (za0 3) (za1 za4 za5)))))
 exact zb4 (psd_retM (pm_tup (zz0 (fun _=>(pm_own 3)) (fun _=>(zz0 (fun _=>(pm_own 2)) (fun _=>(zz0 (fun _=>(pm_of (zh8 (za1 (za0 0) (za1 (zb5 (od_add.or zh4) (za0 0) za4) za5))))) (fun _=>pms_nil))))))))
theorem zag4:FnScope ["_law_script", "_law_k", "_law_number"] ["_law_script", "_law_k"] (zb1 zn3):=zm2 rfl rfl rfl rfl (by decide +kernel)
noncomputable def zf4:DS :=
 (dSeq (dIfS (dBo (d2 qL' (dVar 1) (dT1 kLen (za2 (dVar 0) dNil)))) (dRet (d2 kIx (dVar 0) (dVar 1))) zi3) (dSeq (dAsg 2 (d2 qA' (d2 qM (dVar 1) (dVar 1)) (dC (.int 7919)))) (dSeq (dIfS (dBo (d2 qG (dT1 kLen (za2 (dVar 0) dNil)) (dC (.int 0)))) (dAsg 2 (d2 qA' (dVar 2) (d2 qR (d2 kIx (dVar 0) (d2 qR (d2 qM (dVar 1) (dC (.int 7))) (dT1 kLen (za2 (dVar 0) dNil)))) (dC (.int 2147483629))))) zi3) (dRet (d2 qR (d2 qM (dVar 2) (dVar 2)) (dC (.int 2147483629)))))))
def zi6:List D→Option Ev:=mkG 2 ["_law_script", "_law_k", "_law_number"] zf4
theorem zah5 (Fn:L2.Fun K "_law_cell" "_law_cell" zn3 ad fd) (bu:Blt mg) :FnOk P w K mg base CX0 1 ad fd ["_law_script", "_law_k"] (spD K zi6):=by
 have SC:=zag4
 refine zh6 (k:=0) Fn SC (fun _ _ e=>ze3 e) zf4 (fun _ _ e=>zh5 e) (fun cdv A outer s H E F hr=>?_)
 refine za3 ?_ ?_
 ·exact (zj5 (zd8 zan1 (za0 1) (zc0 zk7 rfl bu.n_len PySem.boot_len (za1 (za0 0) za5))) (zb4 (zd0 (ze0 (za0 0) (za0 1)))) zf8)
 refine za3 ?_ ?_
 ·exact (zc4 (i:=2) SC.nd rfl (zb0 rfl) (zb5 (od_add.or zh4) (zb5 (od_mul.or zg2) (za0 1) (za0 1)) za4))
 refine za3 ?_ ?_
 ·exact (zj5 (zd8 od_gt (zc0 zk7 rfl bu.n_len PySem.boot_len (za1 (za0 0) za5)) za4) (zb4 (zc4 (i:=2) SC.nd rfl (zb0 rfl) (zb5 (od_add.or zh4) (za0 2) (zb5 zo2 (ze0 (za0 0) (zb5 zo2 (zb5 (od_mul.or zg2) (za0 1) za4) (zc0 zk7 rfl bu.n_len PySem.boot_len (za1 (za0 0) za5)))) za4)))) zf8)
 exact zb4 (zd0 (zb5 zo2 (zb5 (od_mul.or zg2) (za0 2) (za0 2)) za4))
theorem zab6:FnScope ["_law_cell_here", "_law_k", "_law_number"] ["_law_cell_here", "_law_k"] (zb1 zl3):=zm2 rfl rfl rfl rfl (by decide +kernel)
noncomputable def zl8:DS :=
 (dSeq (dAsg 2 (d2 qR (d2 qM (d2 qA' (d2 qA' (d2 qA' (d2 qR (dVar 0) (dC (.int 2147483629))) (d2 qM (d2 qM (dVar 1) (dVar 1)) (dC (.int 7919)))) (dVar 1)) (dC (.int 1))) (dC (.int 48271))) (dC (.int 2147483587)))) (dSeq (dAsg 2 (d2 qR (d2 qM (dVar 2) (dVar 2)) (dC (.int 2147483629)))) (dRet (d2 qR (d2 qM (d2 qA' (dVar 2) (dVar 1)) (dC (.int 69621))) (dC (.int 2147483563))))))
def zj2:List D→Option Ev:=mkG 2 ["_law_cell_here", "_law_k", "_law_number"] zl8
theorem zac4 (Fn:L2.Fun K "_law_mixed" "_law_mixed" zl3 ad fd) (bu:Blt mg) :FnOk P w K mg base CX0 1 ad fd ["_law_cell_here", "_law_k"] (spD K zj2):=by
 have SC:=zab6
 refine zh6 (k:=0) Fn SC (fun _ _ e=>ze3 e) zl8 (fun _ _ e=>zh5 e) (fun cdv A outer s H E F hr=>?_)
 refine za3 ?_ ?_
 ·exact (zc4 (i:=2) SC.nd rfl (zb0 rfl) (zb5 zo2 (zb5 (od_mul.or zg2) (zb5 (od_add.or zh4) (zb5 (od_add.or zh4) (zb5 (od_add.or zh4) (zb5 zo2 (za0 0) za4) (zb5 (od_mul.or zg2) (zb5 (od_mul.or zg2) (za0 1) (za0 1)) za4)) (za0 1)) za4) za4) za4))
 refine za3 ?_ ?_
 ·exact (zc4 (i:=2) SC.nd rfl (zb0 rfl) (zb5 zo2 (zb5 (od_mul.or zg2) (za0 2) (za0 2)) za4))
 exact zb4 (zd0 (zb5 zo2 (zb5 (od_mul.or zg2) (zb5 (od_add.or zh4) (za0 2) (za0 1)) za4) za4))
theorem zab5:FnScope ["_law_cell_here", "_law_many", "_law_left", "_law_found", "_law_size"] ["_law_cell_here", "_law_many"] (zb1 zl2):=zm2 rfl rfl rfl rfl (by decide +kernel)
noncomputable def bdO:DS:=(dSeq (dAsg 4 (dT1 kLen (za2 (dVar 2) dNil)))
  (dSeq (zv6 3 2 (d2 qR (dVar 0) (dVar 4)))
  (dAsg 0 (d2 qV (dVar 0) (dVar 4)))))
noncomputable def zp0:DS :=
 (dSeq (dAsg 2 (zk6 (za2 (dVar 1) dNil))) (dSeq (dAsg 3 (dT1 kLst dNil)) (dSeq (zq5 (fun _=>500) (dBo (d2 kNe (dVar 2) (dT1 kLst dNil))) bdO) (dRetO 3))))
def zg7:List D→Option Ev:=mkG 2 ["_law_cell_here", "_law_many", "_law_left", "_law_found", "_law_size"] zp0
theorem zac3 (Fn:L2.Fun K "_law_order" "_law_order" zl2 ad fd) (bu:Blt mg) :FnOk P w K mg base CX0 1 ad fd ["_law_cell_here", "_law_many"] (spD K zg7):=by
 have SC:=zab5
 refine zh6 (k:=0) Fn SC (fun _ _ e=>ze3 e) zp0 (fun _ _ e=>zh5 e) (fun cdv A outer s H E F hr=>?_)
 refine za3 ?_ ?_
 ·exact (zc4 (i:=2) SC.nd rfl (zb0 rfl) (zi7 rfl rfl bu.n_list rfl bu.n_range (za1 (za0 1) za5)))
 refine za3 ?_ ?_
 ·exact (zc4 (i:=3) SC.nd rfl (zb0 rfl) (zh8 za5))
 refine za3 ?_ ?_
 ·exact (zp8 (fun _=>500) PassesOwn.never (zd8 (zw7 hr.units) (za0 2) (zh8 za5)) (za3 (zc4 (i:=4) SC.nd rfl (zb0 rfl) (zc0 zk7 rfl bu.n_len PySem.boot_len (za1 (za0 2) za5)))
  (za3 (zam5 3 2 (zb5 zo2 (za0 0) (za0 4)))
  (zb4 (zc4 (i:=0) SC.nd rfl (zb0 rfl) (zb5 zr8 (za0 0) (za0 4)))))))
 exact zb4 (psd_retO 3)
theorem zu0:FnScope ["_law_size", "_law_sets", "_law_first", "_law_k"] ["_law_size"] (zb1 zh0):=zm2 rfl rfl rfl rfl (by decide +kernel)
noncomputable def zo5:DS :=
 (dSeq (dAsg 1 (dT1 kLst dNil)) (dSeq (dAsg 2 (dC (.int 0))) (dSeq (dRng3 (za6 3) (za2 (dVar 0) (za2 (dC (.int 0)) (za2 (d1 kNeg (dC (.int 1))) dNil))) (dSeq (dApp 1 (ze6 1 [2] (fsR1 (d2 (kI cPow fun i j=>.int (i*2 ^ j.toNat)) (dC (.int 1)) (dVar 3))) (za6 0) zc7 (d2 qA' (dVar 1) (dVar 0)))) (dAsg 2 (d2 qA' (dVar 2) (d2 (kI cPow fun i j=>.int (i*2 ^ j.toNat)) (dC (.int 1)) (dVar 3)))))) (dFrz 1 (dRet (dT1 kLst (za2 (dVar 2) (za2 (d2 qA' (dVar 1) (dT1 kLst (za2 (ze6 1 [] (fsR1 (d2 qV (dVar 2) (dC (.int 2)))) (za6 0) zc7 (d2 qM (dC (.int 2)) (dVar 0))) (za2 (ze6 1 [] (fsR1 (d2 qV (dVar 2) (dC (.int 2)))) (za6 0) zc7 (d2 qA' (d2 qM (dC (.int 2)) (dVar 0)) (dC (.int 1)))) dNil)))) dNil))))))))
def zk1:List D→Option Ev:=mkG 1 ["_law_size", "_law_sets", "_law_first", "_law_k"] zo5
theorem zu7 (Fn:L2.Fun K "_law_sets_due" "_law_sets_due" zh0 ad fd) (bu:Blt mg) :FnOk P w K mg base CX0 1 ad fd ["_law_size"] (spD K zk1):=by
 have SC:=zu0
 refine zh6 (k:=0) Fn SC (fun _ _ e=>ze3 e) zo5 (fun _ _ e=>zh5 e) (fun cdv A outer s H E F hr=>?_)
 refine za3 ?_ ?_
 ·exact (zc4 (i:=1) SC.nd rfl (zb0 rfl) (zh8 za5))
 refine za3 ?_ ?_
 ·exact (zc4 (i:=2) SC.nd rfl (zb0 rfl) za4)
 refine za3 ?_ ?_
 ·exact (psd_rng3 PassesOwn.never rfl rfl bu.n_range (za1 (za0 0) (za1 za4 (za1 (zz2 za4) za5))) (zc1 (i:=3) SC.nd rfl (zb0 rfl)) (zc2 3) (za3 (zag9 1 (ze2 1 [2] ["_law_thing", "_law_first"] rfl (zp9 rfl bu.n_range (zb5 od_shl za4 (za0 3))) (fun _ _ _ _ _=>(zc1 (i:=0) (show List.Nodup (["_law_thing", "_law_first"]:List Str) by decide +kernel) rfl (zb0 rfl))) (fun _=>(zc2 0)) (fun _ _ _ _ _ _=>zd7) (fun _ _ _ _ _ _=>(zb5 (od_add.or zh4) (za0 1) (za0 0)))))
  (zb4 (zc4 (i:=2) SC.nd rfl (zb0 rfl) (zb5 (od_add.or zh4) (za0 2) (zb5 od_shl za4 (za0 3)))))))
 exact zb4 (zap8 1 (zd0 (zh8 (za1 (za0 2) (za1 (zb5 (od_add.or zh4) (za0 1) (zh8 (za1 (ze2 1 [] ["_law_k"] rfl (zp9 rfl bu.n_range (zb5 zr8 (za0 2) za4)) (fun _ _ _ _ _=>(zc1 (i:=0) (show List.Nodup (["_law_k"]:List Str) by decide +kernel) rfl (zb0 rfl))) (fun _=>(zc2 0)) (fun _ _ _ _ _ _=>zd7) (fun _ _ _ _ _ _=>(zb5 (od_mul.or zg2) za4 (za0 0)))) (za1 (ze2 1 [] ["_law_k"] rfl (zp9 rfl bu.n_range (zb5 zr8 (za0 2) za4)) (fun _ _ _ _ _=>(zc1 (i:=0) (show List.Nodup (["_law_k"]:List Str) by decide +kernel) rfl (zb0 rfl))) (fun _=>(zc2 0)) (fun _ _ _ _ _ _=>zd7) (fun _ _ _ _ _ _=>(zb5 (od_add.or zh4) (zb5 (od_mul.or zg2) za4 (za0 0)) za4))) za5)))) za5)))))
theorem zag3:FnScope ["_law_size", "_law_cell_here", "_law_many", "_law_sets", "_law_found", "_law_choice", "_law_shares", "_law_order_here", "_law_other", "_law_some", "_law_again"] ["_law_size", "_law_cell_here"] (zb1 zn2):=zm2 rfl rfl rfl rfl (by decide +kernel)
noncomputable def pg9:DS:=(dHav 4 9 1 2 (dC (.int 0)) (dT1 kLst dNil) (dSeq (dAsg 10 (dT1 (zd3 zd6) (za2 (dVar 0) dNil)))
  (dRet (zan8 (d2 kEq (d2 kIx (dVar 10) (dC (.int 1))) (dVar 3)) (d2 kEq (dT1 zal2 (za2 (d2 kIx (dVar 10) (dC (.int 2))) dNil)) (dT1 kLst (za2 (dVar 0) (za2 (d2 qA' (dVar 0) (dC (.int 1))) dNil))))))))
noncomputable def pg3:DS:=(dIfS (dOr (dNot (dTr (dIsi "list" (d2 kIx (dVar 4) (dC (.int 2)))))) (dBo (d2 kNe (dT1 zal2 (za2 (d2 kIx (dVar 4) (dC (.int 2))) dNil)) (dT1 kLst (za2 (dVar 0) (za2 (d2 qA' (dVar 0) (dC (.int 1))) dNil)))))) (dRet (dC (.bl false))) zi3)
noncomputable def pg2:DS:=(dIfS (dOr (dNot (dTr (dIsi "tuple" (dVar 4)))) (dOr (dBo (d2 kNe (dT1 kLen (za2 (dVar 4) dNil)) (dC (.int 3)))) (dOr (dBo (d2 kNe (d2 kIx (dVar 4) (dC (.int 0))) (dVar 2))) (dBo (d2 kNe (d2 kIx (dVar 4) (dC (.int 1))) (dVar 3)))))) (dRet (dC (.bl false))) zi3)
noncomputable def pg8:DS:=(dIfS (dBo (d2 kNe (ze6 1 [7] (fsL (d2 kIx (dT1 (zd3 zd2) (za2 (dVar 2) (za2 (dVar 8) dNil))) (dC (.int 0)))) (za6 0) zc7 (d2 kIx (dVar 1) (dVar 0))) (zk6 (za2 (dVar 0) dNil)))) (dRet (dC (.bl false))) zi3)
noncomputable def pg5:DS:=(dIfS (dOr (dBo (d2 kNe (dVar 5) (zk6 (za2 (dVar 0) dNil)))) (dBo (d2 zal3 (dT1 (zd3 zg0) (za2 (dVar 2) (za2 (dVar 3) (za2 (dVar 5) (za2 (dVar 6) dNil))))) (dC (.bl true))))) (dRet (dC (.bl false))) zi3)
def pg6:DS:=(dAsg 7 (dT1 (zd3 zg7) (za2 (dVar 1) (za2 (d2 qA' (dVar 0) (dC (.int 2))) dNil))))
def pg4:DS:=(zw8 (zai3 2 (zj8 (za6 5) (zj8 (za6 6) zai4))) (dT1 (zd3 zd2) (za2 (dVar 2) (za2 (dVar 3) dNil))))
def pg0:DS:=(zw8 (gkLst 2 (zj8 (za6 2) (zj8 (za6 3) zai4))) (dT1 (zd3 zk1) (za2 (dVar 0) dNil)))
def pg7:DS:=(dFrz 7 (dAsg 8 (ze6 1 [3] (fsL (dVar 7)) (za6 0) zc7 (d2 kIx (dVar 1) (dVar 0)))))
def pg1:DS:=(dAsg 4 (dT1 (zd3 zd6) (za2 (dVar 0) dNil)))
def zn7:DS :=
 (dSeq pg0 (dSeq pg1 (dSeq pg2 (dSeq pg3 (dSeq pg4 (dSeq pg5 (dSeq pg6 (dSeq pg7 (dSeq pg8 pg9)))))))))
noncomputable def zk8:List D→Option Ev:=mkG 2 ["_law_size", "_law_cell_here", "_law_many", "_law_sets", "_law_found", "_law_choice", "_law_shares", "_law_order_here", "_law_other", "_law_some", "_law_again"] zn7
theorem zah4 (Fn:L2.Fun K "_law_good" "_law_good" zn2 ad fd) (bu:Blt mg) (c_law_sets_due:Cal P w K mg base "_law_sets_due" 1 zk1) (c_worst_choice:Cal P w K mg base "worst_choice" 1 zd6) (c_choose_by_new:Cal P w K mg base "choose_by_new" 2 zd2) (c_lets_choice:Cal P w K mg base "lets_choice" 5 zg0) (c_law_order:Cal P w K mg base "_law_order" 1 zg7):FnOk P w K mg base CX0 6 ad fd ["_law_size", "_law_cell_here"] (spD K zk8):=by
 have SC:=zag3
 refine zh6 (k:=5) Fn SC (fun _ _ e=>ze3 e) zn7 (fun _ _ e=>zh5 e) (fun cdv A outer s H E F hr=>?_)
 refine za3 ?_ ?_
 ·exact (zy8 (zc3 c_law_sets_due (hr.mono (by decide)) (za1 (za0 0) za5)) (pg_lst rfl (zj6 (zc1 (i:=2) SC.nd rfl (zb0 rfl)) (zj6 (zc1 (i:=3) SC.nd rfl (zb0 rfl)) zz1))) (tg_lst (zj4 (zc2 2) (zj4 (zc2 3) zy3))))
 refine za3 ?_ ?_
 ·exact (zc4 (i:=4) SC.nd rfl (zb0 rfl) (zc3 c_worst_choice (hr.mono (by decide)) (za1 (za0 0) za5)))
 refine za3 ?_ ?_
 ·exact (zj5 (L2.PW.pt (zu3 (zr0 (zm3 (zaq8 zau1 (za0 4) rfl bu.n_isinstance rfl bu.n_tuple bt_tuple))) (zu3 (zd8 (zw7 hr.units) (zc0 zk7 rfl bu.n_len PySem.boot_len (za1 (za0 4) za5)) za4) (zu3 (zd8 (zw7 hr.units) (ze0 (za0 4) za4) (za0 2)) (zu2 (zd8 (zw7 hr.units) (ze0 (za0 4) za4) (za0 3))))))) (zb4 (zd0 zj7)) zf8)
 refine za3 ?_ ?_
 ·exact (zj5 (L2.PW.pt (zu3 (zr0 (zm3 (zaq8 isi_list (ze0 (za0 4) za4) rfl bu.n_isinstance rfl bu.n_list zaj1))) (zu2 (zd8 (zw7 hr.units) (zc0 zal9 rfl bu.n_sorted boot_sorted (za1 (ze0 (za0 4) za4) za5)) (zh8 (za1 (za0 0) (za1 (zb5 (od_add.or zh4) (za0 0) za4) za5))))))) (zb4 (zd0 zj7)) zf8)
 refine za3 ?_ ?_
 ·exact (zy8 (zc3 c_choose_by_new (hr.mono (by decide)) (za1 (za0 2) (za1 (za0 3) za5))) (zaq5 rfl (zj6 (zc1 (i:=5) SC.nd rfl (zb0 rfl)) (zj6 (zc1 (i:=6) SC.nd rfl (zb0 rfl)) zz1))) (zao5 (zj4 (zc2 5) (zj4 (zc2 6) zy3))))
 refine za3 ?_ ?_
 ·exact (zj5 (L2.PW.pt (zu3 (zd8 (zw7 hr.units) (za0 5) (zi7 rfl rfl bu.n_list rfl bu.n_range (za1 (za0 0) za5))) (zu2 (zd8 od_isntB (zc3 c_lets_choice (hr.mono (by decide)) (by refine za1 ?_ ?_ ?_;exact (za0 2);exact (by refine za1 ?_ ?_ ?_;exact (za0 3);exact (by refine za1 ?_ ?_ ?_;exact (za0 5);exact (by refine za1 ?_ ?_ ?_;exact (za0 6);exact za5;exact (zy6 rfl));exact (zy6 rfl));exact (zy6 rfl));exact (zy6 rfl))) zj7)))) (zb4 (zd0 zj7)) zf8)
 refine za3 ?_ ?_
 ·exact (zc4 (i:=7) SC.nd rfl (zb0 rfl) (zc3 c_law_order (hr.mono (by decide)) (za1 (za0 1) (za1 (zb5 (od_add.or zh4) (za0 0) za4) za5))))
 refine za3 ?_ ?_
 ·exact (zap8 7 (zak3 (i:=8) 1 [3] ["_law_k", "_law_sets"] SC.nd rfl (Or.inl rfl) rfl (ze5 (za0 7)) (fun _ _ _ _ _=>(zc1 (i:=0) (show List.Nodup (["_law_k", "_law_sets"]:List Str) by decide +kernel) rfl (zb0 rfl))) (fun _=>(zc2 0)) (fun _ _ _ _ _ _=>zd7) (fun _ _ _ _ _ _=>(ze0 (za0 1) (za0 0)))))
 refine za3 ?_ ?_
 ·exact (zj5 (zd8 (zw7 hr.units) (ze2 1 [7] ["_law_k", "_law_order_here"] rfl (ze5 (ze0 (zc3 c_choose_by_new (hr.mono (by decide)) (za1 (za0 2) (za1 (za0 8) za5))) za4)) (fun _ _ _ _ _=>(zc1 (i:=0) (show List.Nodup (["_law_k", "_law_order_here"]:List Str) by decide +kernel) rfl (zb0 rfl))) (fun _=>(zc2 0)) (fun _ _ _ _ _ _=>zd7) (fun _ _ _ _ _ _=>(ze0 (za0 1) (za0 0)))) (zi7 rfl rfl bu.n_list rfl bu.n_range (za1 (za0 0) za5))) (zb4 (zd0 zj7)) zf8)
 exact (psd_hav (i:=4) (j:=9) (k1:=1) (k2:=2) (by decide) PassesOwn.never rfl (zc1 (i:=9) SC.nd rfl (zb0 rfl)) (fun _=>pl_ix (fs:=[]) (zaq0 4) za4) (fun _=>pl_ix (fs:=[]) (zaq0 4) za4) (fun _=>pl_ix (fs:=[]) (zaq0 4) za4) (fun _=>za4) (fun _=>(zh8 za5)) (za3 (zc4 (i:=10) SC.nd rfl (zb0 rfl) (zc3 c_worst_choice (hr.mono (by decide)) (za1 (za0 0) za5)))
  (zb4 (zd0 (zar3 (zu4 (od_eq hr.units) (ze0 (za0 10) za4) (za0 3)) (zaq7 (zu4 (od_eq hr.units) (zc0 zal9 rfl bu.n_sorted boot_sorted (za1 (ze0 (za0 10) za4) za5)) (zh8 (za1 (za0 0) (za1 (zb5 (od_add.or zh4) (za0 0) za4) za5))))))))))
theorem zab4:FnScope ["_law_held", "_law_kept"] [] (zb1 zl1):=zm2 rfl rfl rfl rfl (by decide +kernel)
noncomputable def zv2:DS :=
 (dSeq (dAsg 0 (dT1 (zd3 zd6) (za2 (dC (.int 3)) dNil))) (dSeq (dAsg 1 (dT1 kTup (za2 (d2 kIx (dVar 0) (dC (.int 0))) (za2 (zo6 1 [] (fsL (d2 kIx (dVar 0) (dC (.int 1)))) (za6 0) zc7 (dT1 kList (za2 (dVar 0) dNil))) (za2 (dT1 kList (za2 (d2 kIx (dVar 0) (dC (.int 2))) dNil)) dNil))))) (dSeq (dDrop (dT1 (zd3 zd6) (za2 (dC (.int 4)) dNil))) (dRet (d2 kEq (dVar 0) (dVar 1))))))
def zf3:List D→Option Ev:=mkG 0 ["_law_held", "_law_kept"] zv2
theorem zac2 (Fn:L2.Fun K "_law_stays" "_law_stays" zl1 ad fd) (bu:Blt mg) (c_worst_choice:Cal P w K mg base "worst_choice" 1 zd6):FnOk P w K mg base CX0 2 ad fd [] (spD K zf3):=by
 have SC:=zab4
 refine zh6 (k:=1) Fn SC (fun _ _ e=>ze3 e) zv2 (fun _ _ e=>zh5 e) (fun cdv A outer s H E F hr=>?_)
 refine za3 ?_ ?_
 ·exact (zc4 (i:=0) SC.nd rfl (zb0 rfl) (zc3 c_worst_choice (hr.mono (by decide)) (za1 za4 za5)))
 refine za3 ?_ ?_
 ·exact (zc4 (i:=1) SC.nd rfl (zb0 rfl) (zr2 (za1 (ze0 (za0 0) za4) (za1 (zam8 1 [] ["_law_some"] rfl (ze5 (ze0 (za0 0) za4)) (fun _ _ _ _ _=>(zc1 (i:=0) (show List.Nodup (["_law_some"]:List Str) by decide +kernel) rfl (zb0 rfl))) (fun _=>(zc2 0)) (fun _ _ _ _ _ _=>zd7) (fun _ _ _ _ _ _=>(zac0 zaw3 rfl bu.n_list zaj1 (za1 (za0 0) za5)))) (za1 (zac0 zaw3 rfl bu.n_list zaj1 (za1 (ze0 (za0 0) za4) za5)) za5)))))
 refine za3 ?_ ?_
 ·exact (psd_expr (zc3 c_worst_choice (hr.mono (by decide)) (za1 za4 za5)))
 exact zb4 (zd0 (zu4 (od_eq hr.units) (za0 0) (za0 1)))
theorem sc_law:FnScope ["_law_script", "_law_size", "_law_cell_here"] ["_law_script"] (zb1 s_law):=zm2 rfl rfl rfl rfl (by decide +kernel)
noncomputable def cnL:DE:=(d2 kIx (dT1 kLst (za2 (d2 qV (dVar 2) (dC (.int 2))) (za2 (dT1 (zd3 zj2) (za2 (dVar 2) (za2 (dVar 1) dNil))) dNil))) (d2 qR (dVar 2) (dC (.int 2))))
noncomputable def bdL:DS:=(dSeq (dAsg 2 (dT1 (zd3 zi6) (za2 (dVar 0) (za2 (dVar 1) dNil))))
  (dIfS (dNot (dTr (dT1 (zd3 zk8) (za2 (dVar 1) (za2 cnL dNil))))) (dRet (dC (.bl false))) zi3))
noncomputable def g_law:DS :=
 (dSeq (dIfS (dNot (dTr (dT1 (zd3 zf3) dNil))) (dRet (dC (.bl false))) zi3) (dSeq (zae0 (za6 1) (dC (.int 3)) (dC (.int 7)) bdL) (dRet (dC (.bl true)))))
def G_law:List D→Option Ev:=mkG 1 ["_law_script", "_law_size", "_law_cell_here"] g_law
theorem ok_law (Fn:L2.Fun K "law" "law" s_law ad fd) (bu:Blt mg) (c_law_stays:Cal P w K mg base "_law_stays" 2 zf3) (c_law_cell:Cal P w K mg base "_law_cell" 1 zi6) (c_law_mixed:Cal P w K mg base "_law_mixed" 1 zj2) (c_law_good:Cal P w K mg base "_law_good" 6 zk8):FnOk P w K mg base CX0 7 ad fd ["_law_script"] (spD K G_law):=by
 have SC:=sc_law
 refine zh6 (k:=6) Fn SC (fun _ _ e=>ze3 e) g_law (fun _ _ e=>zh5 e) (fun cdv A outer s H E F hr=>?_)
 refine za3 ?_ ?_
 ·exact (zj5 (zr0 (zm3 (zam9 c_law_stays (hr.mono (by decide))))) (zb4 (zd0 zj7)) zf8)
 refine za3 ?_ ?_
 ·exact (zak4 PassesOwn.never rfl rfl bu.n_range za4 za4 (zc1 (i:=1) SC.nd rfl (zb0 rfl)) (zc2 1) (za3 (zc4 (i:=2) SC.nd rfl (zb0 rfl) (zc3 c_law_cell (hr.mono (by decide)) (za1 (za0 0) (za1 (za0 1) za5))))
  (zb4 (zj5 (zr0 (zm3 (zc3 c_law_good (hr.mono (by decide)) (za1 (za0 1) (za1 (ze0 (zh8 (za1 (zb5 zr8 (za0 2) za4) (za1 (zc3 c_law_mixed (hr.mono (by decide)) (za1 (za0 2) (za1 (za0 1) za5))) za5))) (zb5 zo2 (za0 2) za4)) za5))))) (zb4 (zd0 zj7)) zf8))))
 exact zb4 (zd0 zj7)
end KX
namespace KX
open PySem.Spec L2 DL
theorem sm_of {i:Int} (h0 : -1000000000000000000000000000000≤i) (h1:i≤1000000000000000000000000000000):sm i=true:=by
 unfold sm
 refine decide_eq_true ?_
 have e:(2:Nat) ^ 100=1267650600228229401496703205376:=by decide
 have l:i.natAbs<2 ^ 100:=by rw [e];lia
 refine zay8 l ?_
 unfold DL.bnd
 exact zbd3 (by decide) (by decide)
theorem fm {a b:Int} (h:0<b):0≤a.fmod b∧a.fmod b<b:=fmod_pos h
theorem mixed_ok (c:Int) (k:Nat) (hk:k<100000):∃m:Int,zj2 [.int c,.int (k:Int)]=some (.cl (.int m))∧0≤m:=by
 have f1:=@fm c 2147483629 (by decide)
 have hkk:(k:Int)*(k:Int)<10000000000:=by
  have:k*k≤99999*99999:=zbi2 (by lia) (by lia)
  have e:((k*k:Nat):Int)=(k:Int)*(k:Int):=by simp
  rw [← e];lia
 have hkk0:0≤(k:Int)*(k:Int):=by
  have e:((k*k:Nat):Int)=(k:Int)*(k:Int):=by simp
  rw [← e];lia
 generalize hq:(k:Int)*(k:Int)=q at hkk hkk0
 have f2:=@fm ((c.fmod 2147483629+q*7919+(k:Int)+1)*48271) 2147483587 (by decide)
 generalize h2:((c.fmod 2147483629+q*7919+(k:Int)+1)*48271).fmod 2147483587=n2 at f2
 have f2b:n2*n2≤2147483587*2147483587:=Int.mul_le_mul (by lia) (by lia) (by lia) (by decide)
 have f3:=@fm (n2*n2) 2147483629 (by decide)
 generalize h3:(n2*n2).fmod 2147483629=n3 at f3
 have f4:=@fm ((n3+(k:Int))*69621) 2147483563 (by decide)
 refine⟨((n3+(k:Int))*69621).fmod 2147483563,?_,f4.1⟩
 refine bnd (g:=zl8 [.val (.int c),.val (.int (k:Int)),.no]) ?_
 unfold zl8
 rw [zb8 (zm0 (d:=.int n2) (by
  rw [← h2, ← hq]
  exact zq1 (zi9 (zs4 (zs4 (zs4 (zq1 rfl rfl (by decide)) (zi9 (zi9 rfl rfl (sm_of (by lia) (by lia)) (sm_of (by lia) (by lia))) rfl (by rw [hq];exact sm_of (by lia) (by lia)) (by decide +kernel))) rfl) rfl) rfl (by rw [hq];exact sm_of (by lia) (by lia)) (by decide +kernel)) rfl (by decide)) (by simp))]
 rw [zb8 (zm0 (d:=.int n3) (by
  rw [← h3]
  exact zq1 (zi9 rfl rfl (sm_of (by lia) (by lia)) (sm_of (by lia) (by lia))) rfl (by decide)) (by simp))]
 unfold dRet
 rw [zq1 (zi9 (zs4 (a:=n3) (b:=(k:Int)) rfl rfl) rfl (sm_of (by lia) (by lia)) (by decide +kernel)) rfl (by decide)]
 rfl
theorem cell_ok (ns:List Int) (hl:ns.length≤63) (k:Nat) (hk:k<100000):∃c:Int,zi6 [.lst (ns.map D.int),.int (k:Int)]=some (.cl (.int c)):=by
 have len:∀s2,(dT1 kLen (za2 (dVar 0) dNil)) [.val (.lst (ns.map D.int)),.val (.int (k:Int)),s2]=some (.cl (.int (ns.length:Int))):=fun s2=>zx5 (xs:=ns) rfl rfl
 by_cases h:k<ns.length
 ·refine⟨ns.getD k 0,bnd (g:=zf4 [.val (.lst (ns.map D.int)),.val (.int (k:Int)),.no]) ?_⟩
  unfold zf4
  refine seq_rt ?_
  rw [ifs_t (zas8 rfl (len .no)) (decide_eq_true (by lia))]
  unfold dRet
  rw [zx8 ns k rfl rfl h rfl rfl]
  rfl
 ·have hkk:(k:Int)*(k:Int)<10000000000:=by
   have:k*k≤99999*99999:=zbi2 (by lia) (by lia)
   have e:((k*k:Nat):Int)=(k:Int)*(k:Int):=by simp
   rw [← e];lia
  have hkk0:0≤(k:Int)*(k:Int):=by
   have e:((k*k:Nat):Int)=(k:Int)*(k:Int):=by simp
   rw [← e];lia
  generalize hq:(k:Int)*(k:Int)=q at hkk hkk0
  have fin:∀n:Int,0≤n→n≤100000000000→∀s0 s1,dRet (d2 qR (d2 qM (dVar 2) (dVar 2)) (dC (.int 2147483629))) [s0,s1,.val (.int n)]=some (.rt (.cl (.int ((n*n).fmod 2147483629)))):=fun n h0 h1 s0 s1=>by
   unfold dRet
   rw [zq1 (zi9 (a:=n) (b:=n) rfl rfl (sm_of (by lia) (by lia)) (sm_of (by lia) (by lia))) rfl (by decide)]
   rfl
  have a1:dAsg 2 (d2 qA' (d2 qM (dVar 1) (dVar 1)) (dC (.int 7919))) [.val (.lst (ns.map D.int)),.val (.int (k:Int)),.no]=some (.nx [.val (.lst (ns.map D.int)),.val (.int (k:Int)),.val (.int (q+7919))]):=by
   rw [← hq]
   exact zm0 (zs4 (zi9 rfl rfl (sm_of (by lia) (by lia)) (sm_of (by lia) (by lia))) rfl) (by simp)
  cases ns with
  |nil =>
   refine⟨((q+7919)*(q+7919)).fmod 2147483629,bnd (g:=zf4 [.val (.lst (([]:List Int).map D.int)),.val (.int (k:Int)),.no]) ?_⟩
   unfold zf4
   rw [zb8 (grd (zas8 rfl (len .no)) (decide_eq_false (by simp))),zb8 a1,zb8 (grd (gt_of (len _) rfl) (by simp))]
   exact fin _ (by lia) (by lia) _ _
  |cons n0 r0 =>
   have f0:=@fm ((k:Int)*7) ((n0::r0).length:Int) (by simp)
   obtain⟨m,hm⟩:=Int.eq_ofNat_of_zero_le f0.1
   have hml:m<(n0::r0).length:=by lia
   have f1:=@fm ((n0::r0).getD m 0) 2147483629 (by decide)
   refine⟨((q+7919+((n0::r0).getD m 0).fmod 2147483629)*(q+7919+((n0::r0).getD m 0).fmod 2147483629)).fmod 2147483629,bnd (g:=zf4 [.val (.lst ((n0::r0).map D.int)),.val (.int (k:Int)),.no]) ?_⟩
   unfold zf4
   rw [zb8 (grd (zas8 rfl (len .no)) (decide_eq_false (by lia))),zb8 a1]
   have a2:dAsg 2 (d2 qA' (dVar 2) (d2 qR (d2 kIx (dVar 0) (d2 qR (d2 qM (dVar 1) (dC (.int 7))) (dT1 kLen (za2 (dVar 0) dNil)))) (dC (.int 2147483629)))) [.val (.lst ((n0::r0).map D.int)),.val (.int (k:Int)),.val (.int (q+7919))]=some (.nx [.val (.lst ((n0::r0).map D.int)),.val (.int (k:Int)),.val (.int (q+7919+((n0::r0).getD m 0).fmod 2147483629))]):=by
    refine zm0 (zs4 rfl (zq1 (zx8 (r2:=.cl (.int (m:Int))) (n0::r0) m rfl ?_ hml rfl rfl) rfl (by decide))) (by simp)
    rw [← hm]
    exact zq1 (zi9 (a:=(k:Int)) (b:=7) rfl rfl (sm_of (by lia) (by lia)) (by decide +kernel)) (len _) (by simp;lia)
   have a3:(dIfS (dBo (d2 qG (dT1 kLen (za2 (dVar 0) dNil)) (dC (.int 0)))) (dAsg 2 (d2 qA' (dVar 2) (d2 qR (d2 kIx (dVar 0) (d2 qR (d2 qM (dVar 1) (dC (.int 7))) (dT1 kLen (za2 (dVar 0) dNil)))) (dC (.int 2147483629))))) zi3) [.val (.lst ((n0::r0).map D.int)),.val (.int (k:Int)),.val (.int (q+7919))]=some (.nx [.val (.lst ((n0::r0).map D.int)),.val (.int (k:Int)),.val (.int (q+7919+((n0::r0).getD m 0).fmod 2147483629))]):=by
    rw [ifs_t (gt_of (len _) rfl) (decide_eq_true (by simp))]
    exact a2
   rw [zb8 a3]
   exact fin _ (by lia) (by lia) _ _
end KX
set_option maxHeartbeats 1000000
namespace KX
open PySem.Spec L2 DL
theorem zas2 {ks:List Int}{ds:List D}{fa fb:DE}{t:Th}{r1 r2:Ev}{x:Int} (h1:fa t=some r1) (h2:fb t=some r2) (e1:r1.d=.int x) (e2:r2.d=.dct (ks.map kN) ds):dBo (d2 (kInD true) fa fb) t=some (decide (x∉ks)):=by
 unfold dBo
 rw [zi4 h1 h2]
 unfold kInD
 rw [e1,e2]
 show some (!hasK (ks.map kN) (kN x))=_
 rw [zad4]
 simp
theorem zx6 {M:Nat} (hM:M≤1000) {ss:List (List Int)} (hs:∀s∈ss,∀x∈s,0≤x∧x<(M:Int)) {ns:List Int} (hn:∀n∈ns,0≤n∧n<(ss.length:Int)) :
  zb2 [.int (M:Int),mD ss,.lst (ns.map D.int)]=some (.nw (((zb7 M).filter fun x=>decide (x∉hads ss ns)).map D.int)):=by
 let t0:Th:=[.val (.int (M:Int)),.val (mD ss),.val (.lst (ns.map D.int)),.no]
 show (zf0 t0).bind zm6=_
 have c2:(zv5 2 [1] (fsL (dVar 2)) (za6 0) zc7 (fsL (d2 kIx (dVar 2) (dVar 0))) (za6 1) zc7 (dVar 1) (dC (.bl true))) t0=some (.dn (.dct ((hads ss ns).map kN) ((hads ss ns).map ttD))):=by
  have e:=lk_out hM hs (ns:=ns) (ks:=[]) (u:=.no) (v:=.no) ⟨zba8,fun x hx=>nomatch hx⟩ hn
  show (zk0 (za6 0) zc7 (fsL (d2 kIx (dVar 2) (dVar 0))) (za6 1) zc7 (dVar 1) (dC (.bl true)) (ns.map D.int) [.no,.no,.val (mD ss)] (kdT [])).map _=_
  rw [e]
  rfl
 have E1:=asg_dn (i:=3) c2 (by simp [t0])
 let t1:Th:=[.val (.int (M:Int)),.val (mD ss),.val (.lst (ns.map D.int)),.dp (.dct ((hads ss ns).map kN) ((hads ss ns).map ttD))]
 have E2:(ze6 1 [3] (fsR1 (dVar 0)) (za6 0) (dBo (d2 (kInD true) (dVar 0) (dVar 1))) (dVar 0)) t1=_:=dcompR (p:=fun x=>decide (x∉hads ss ns)) (g:=D.int) (n:=M) (b:=false) (c:=[.dct ((hads ss ns).map kN) ((hads ss ns).map ttD)]) (rfl:dVar 0 t1=some (.cl (.int (M:Int)))) rfl rfl (by lia)
  (fun x _=>zas2 (ks:=hads ss ns) (rfl:dVar 0 _=some (.cl (.int x))) (rfl:dVar 1 _=some (.cl _)) rfl rfl) (fun x _ _=>⟨.cl (.int x),rfl,rfl⟩) (.inl (zg4 _))
 unfold zf0
 rw [zb8 E1]
 exact bnd (zu1 E2)
noncomputable def tC (M:Nat) (ss:List (List Int)) (s2:Sl) (hd:Hd) (ch:List Int) (s5 s6 s7 s8:Sl):Th:=[.val (.int (M:Int)),.val (mD ss),s2,.dp (dctH hd),.own (ch.map D.int),s5,s6,s7,s8]
theorem turn_N {M:Nat} (hM:M≤400) {ss:List (List Int)} (c:Cv M ss) (hl:ss.length≤400) {hd:Hd} (h:HI M ss hd) (h0:0<mxL (lnS hd ss)) {ch:List Int} (hc:ch.length<1000) (s2 s5 s6 s7 s8:Sl) :
  ∃u5 u6 u7 u8,bdN (tC M ss s2 hd ch s5 s6 s7 s8)=some (.nx (tC M ss s2 (adS hd ss) (ch++[(bst hd ss:Int)]) u5 u6 u7 u8)):=by
 have ne:ss≠[]:=fun z=>by rw [z]at h0;simp [lnS,mxL]at h0
 let xs:List (List Int):=ss.map (nwS hd)
 have lx:xs.length=ss.length:=by simp [xs]
 have xm:∀r∈xs,r.length≤400:=fun r hr=>by
  obtain⟨s,hs,rfl⟩:=zba3.mp hr
  exact zaz4 (zbe4 _ _) (zaz4 (c.len hs) hM)
 have a1:(zo6 1 [3] (fsL (dVar 1)) (za6 0) zc7 (ze6 1 [1] (fsL (dVar 0)) (za6 0) (dBo (d2 (kInD true) (dVar 0) (dVar 1))) (dVar 0))) (tC M ss s2 hd ch s5 s6 s7 s8)=some (.dn (mD xs)):=by
  have:=dcompNL (e:=rwD) (g:=fun s=>rwD (nwS hd s)) (fe:=(ze6 1 [1] (fsL (dVar 0)) (za6 0) (dBo (d2 (kInD true) (dVar 0) (dVar 1))) (dVar 0))) (t:=tC M ss s2 hd ch s5 s6 s7 s8) (f:=dVar 1) (r:=.cl (mD ss)) (xs:=ss) (cap:=[3]) (b:=false) (c:=[dctH hd]) rfl rfl rfl (by lia)
   (fun s hs=>⟨.nw ((nwS hd s).map D.int),zs1 (e:=D.int) (p:=fun x=>decide (x∉hd.map Prod.fst)) (g:=D.int) (xs:=s) (b:=true) (c:=[dctH hd]) (rfl:dVar 0 _=some (.cl (rwD s))) rfl rfl (by have:=c.len hs;lia)
    (fun x _=>zas2 (ks:=hd.map Prod.fst) (rfl:dVar 0 _=some (.cl (.int x))) (rfl:dVar 1 _=some (.cl (dctH hd))) rfl rfl) (fun x _ _=>⟨.cl (.int x),rfl,rfl⟩) (.inl (zg4 _)),
    by show (if flats ((nwS hd s).map D.int) then _ else _)=_;rw [zg4];rfl⟩)
  rw [this]
  show some (Ev.dn (.lst (ss.map fun s=>rwD (nwS hd s))))=some (Ev.dn (.lst ((ss.map (nwS hd)).map rwD)))
  rw [zbd4]
  rfl
 have E1:=asg_dn (i:=5) a1 (by simp [tC])
 let t1:Th:=tC M ss s2 hd ch (.dp (mD xs)) s6 s7 s8
 have a2:(ze6 1 [] (fsL (dVar 5)) (za6 0) zc7 (dT1 kLen (za2 (dVar 0) dNil))) t1=some (.nw (((lnS hd ss).map fun (n:Nat)=>(n:Int)).map D.int)):=by
  have:=zs1 (e:=rwD) (p:=fun _=>true) (g:=fun s=>D.int (s.length:Int)) (ft:=zc7) (fe:=dT1 kLen (za2 (dVar 0) dNil)) (t:=t1) (f:=dVar 5) (r:=.tm (mD xs)) (xs:=xs) (cap:=[]) (b:=true) (c:=[]) rfl rfl rfl (by lia)
   (fun _ _=>rfl) (fun s _ _=>⟨_,zx5 (xs:=s) (rfl:dVar 0 _=some (.cl (rwD s))) rfl,rfl⟩) (.inl (by rw [zbb5.mpr fun _ _=>rfl];exact (by rw [show (xs.map fun s=>D.int (s.length:Int))=(xs.map fun s=>(s.length:Int)).map D.int by simp];exact zg4 _)))
  rw [this,zbb5.mpr fun _ _=>rfl]
  simp [xs,lnS,Function.comp_def]
 have E2:=zaf6 (i:=6) a2 (by simp [t1,tC])
 let L:List Int:=(lnS hd ss).map fun (n:Nat)=>(n:Int)
 let m:=mxL (lnS hd ss)
 let t2:Th:=tC M ss s2 hd ch (.dp (mD xs)) (.own (L.map D.int)) s7 s8
 have ll:L.length=ss.length:=by simp [L,lnS]
 have nl:lnS hd ss≠[]:=fun z=>ne (by rw [lnS,zbi9]at z;exact z)
 have lp:0<L.length:=by rw [ll];exact List.length_pos_iff.mpr ne
 have a3:=extt_of (f:=dVar 6) (t:=t2) (r:=.tm (.lst (L.map D.int))) (L:=L) rfl rfl lp
 rw [show topI' L=(m:Int) from top_mx nl]at a3
 have E3:=zm0 (i:=7) a3 (by simp [t2,tC])
 let t3:Th:=tC M ss s2 hd ch (.dp (mD xs)) (.own (L.map D.int)) (.val (.int (m:Int))) s8
 have a4:(d2 kIdx (dVar 6) (dVar 7)) t3=some (.cl (.int (bst hd ss:Int))):=by
  rw [zi4 (rfl:dVar 6 t3=some (.tm (.lst (L.map D.int)))) (rfl:dVar 7 t3=some (.cl (.int (m:Int))))]
  unfold kIdx
  show ((zk4 (L.map D.int)).bind fun ns=>if ns.contains (m:Int)&&decide (ns.length≤100000) then some (Ev.cl (.int (ns.idxOf (m:Int):Nat))) else none)=_
  rw [zm8]
  simp only [zay2]
  have hm:(m:Int)∈L:=zba3.mpr ⟨m,zz4 nl,rfl⟩
  rw [if_pos (by rw [zay4];exact⟨by simpa using hm,by simp;lia⟩)]
  rw [show L.idxOf (m:Int)=bst hd ss from zal4 m _]
 have E4:=zm0 (i:=8) a4 (by simp [t3,tC])
 let t4:Th:=tC M ss s2 hd ch (.dp (mD xs)) (.own (L.map D.int)) (.val (.int (m:Int))) (.val (.int (bst hd ss:Int)))
 have E5:=app_map t4 (f:=dVar 8) (i:=4) (xs:=ch) (p:=(bst hd ss:Int)) rfl rfl (by lia)
 let t5:Th:=tC M ss s2 hd (ch++[(bst hd ss:Int)]) (.dp (mD xs)) (.own (L.map D.int)) (.val (.int (m:Int))) (.val (.int (bst hd ss:Int)))
 have bl:=zy1 (hd:=hd) ne
 obtain⟨r,er,hr⟩:=row_at (fa:=dVar 5) (fb:=dVar 8) (t:=t5) (i:=(bst hd ss:Int)) (M:=xs) (rfl:dVar 5 _=some (.tm (mD xs))) rfl rfl (by lia) (by rw [lx];lia)
 have gx:xs.getD (bst hd ss) []=nwS hd (ss.getD (bst hd ss) []):=by
  simp [xs,zay7,zay3 bl]
 rw [show ((bst hd ss:Int)).toNat=bst hd ss from rfl,gx]at hr
 let nw:=nwS hd (ss.getD (bst hd ss) [])
 have bm:=zaj2 (hd:=hd) ne
 have nn:nw.Nodup:=(c.nd _ bm).filter _
 have nl2:nw.length≤400:=zaz4 (zbe4 _ _) (zaz4 (c.len bm) hM)
 have a6:(zr7 1 [7] (fsL (d2 kIx (dVar 5) (dVar 8))) (za6 0) zc7 (dVar 0) (dT1 kTup (za2 (dC (.int 1)) (za2 (dVar 1) dNil)))) t5=some (.dn (.dct (nw.map kN) (nw.map fun _=>tP m))):=by
  have ef:fsL (d2 kIx (dVar 5) (dVar 8)) t5=some (r.ok,nw.map D.int):=by
   unfold fsL;rw [er];simp only [zay2,hr,rwD];rfl
  have ek:=zae4 (m:=m) (fv:=(dT1 kTup (za2 (dC (.int 1)) (za2 (dVar 1) dNil)))) (ext:=[.val (.int (m:Int))]) (fun x=>⟨_,rfl,rfl⟩) nw [] .no (by simpa using nn) (by simp;lia)
  show ((fsL (d2 kIx (dVar 5) (dVar 8)) t5).bind fun q=>(zi0 (za6 0) zc7 (dVar 0) (dT1 kTup (za2 (dC (.int 1)) (za2 (dVar 1) dNil))) q.2 [.no,.val (.int (m:Int))] ([],[])).map fun a=>Ev.dn (.dct a.1 a.2))=_
  rw [ef]
  simp only [zay2]
  have ek:zi0 (za6 0) zc7 (dVar 0) (dT1 kTup (za2 (dC (.int 1)) (za2 (dVar 1) dNil))) (nw.map D.int) [.no,.val (.int (m:Int))] ([],[])=some (nw.map kN,nw.map fun _=>tP m):=by simpa using ek
  rw [ek]
  rfl
 have hlen:hd.length≤M:=by simpa using h.ak.len
 have fl1:∀l:Hd,flats (l.map fun p=>tP p.2)=true:=fun l=>by
  induction l with
  |nil=>rfl
  |cons p l ih=>show (flat (tP p.2)&&flats (l.map fun p=>tP p.2))=true;rw [ih];rfl
 have E6:dUpd 3 (zr7 1 [7] (fsL (d2 kIx (dVar 5) (dVar 8))) (za6 0) zc7 (dVar 0) (dT1 kTup (za2 (dC (.int 1)) (za2 (dVar 1) dNil)))) t5=some (.nx (tC M ss s2 (adS hd ss) (ch++[(bst hd ss:Int)]) (.dp (mD xs)) (.own (L.map D.int)) (.val (.int (m:Int))) (.val (.int (bst hd ss:Int))))):=by
  unfold dUpd
  rw [a6]
  show (if (flats (hd.map fun p=>tP p.2)&&flats (nw.map fun _=>tP m))&&decide (((hd.map Prod.fst).map kN).length+(nw.map kN).length≤50000) then some (Out.nx (t5.set 3 (.dp (.dct (mgKD (nw.map kN) (nw.map fun _=>tP m) ((hd.map Prod.fst).map kN,hd.map fun p=>tP p.2)).1 (mgKD (nw.map kN) (nw.map fun _=>tP m) ((hd.map Prod.fst).map kN,hd.map fun p=>tP p.2)).2)))) else none)=_
  rw [fl1,zaa1 (fun _=>m),decide_eq_true (by simp;lia),if_pos (by rfl),mg_new m nw hd nn fun x hx=>(mem_nwS.mp hx).2]
  rfl
 exact⟨.dp (mD xs),.own (L.map D.int),.val (.int (m:Int)),.val (.int (bst hd ss:Int)),(zb8 E1).trans ((zb8 E2).trans ((zb8 E3).trans ((zb8 E4).trans ((zb8 E5).trans E6))))⟩
theorem cond_N {M:Nat}{ss:List (List Int)}{hd:Hd}{ch:List Int}{s2 s5 s6 s7 s8:Sl}:cdN (tC M ss s2 hd ch s5 s6 s7 s8)=some (decide (hd.length<M)):=by
 have a:(dT1 kLenD (za2 (dVar 3) dNil)) (tC M ss s2 hd ch s5 s6 s7 s8)=some (.cl (.int (hd.length:Int))):=by
  show some (Ev.cl (.int (((hd.map Prod.fst).map kN).length:Int)))=_
  simp
 have:=zas8 (fb:=dVar 0) (b:=(M:Int)) a rfl
 unfold cdN
 rw [this]
 congr 1
 simp
theorem loop_N {M:Nat} (hM:M≤400) {ss:List (List Int)} (c:Cv M ss) (hl:ss.length≤400) (s2:Sl):∀(n:Nat) (hd:Hd) (ch:List Int) (s5 s6 s7 s8:Sl),HI M ss hd→M<hd.length+n→ch.length≤hd.length →
  ∃u5 u6 u7 u8,whD cdN bdN n (tC M ss s2 hd ch s5 s6 s7 s8)=some (.nx (tC M ss s2 (chs M ss n hd ch).1 (chs M ss n hd ch).2 u5 u6 u7 u8))
 |0,hd,ch,s5,s6,s7,s8,h,hn,hc=>by
  have:hd.length≤M:=by simpa using h.ak.len
  lia
 |n+1,hd,ch,s5,s6,s7,s8,h,hn,hc=>by
  unfold whD chs
  rw [cond_N]
  by_cases hl':hd.length<M
  ·have h0:=h.some_new c hl'
   obtain⟨h1,h2⟩:=h.step c h0
   obtain⟨u5,u6,u7,u8,e⟩:=turn_N hM c hl h h0 (ch:=ch) (by lia) s2 s5 s6 s7 s8
   obtain⟨v5,v6,v7,v8,e'⟩:=loop_N hM c hl s2 n (adS hd ss) (ch++[(bst hd ss:Int)]) u5 u6 u7 u8 h1 (by lia) (by rw [zba7,zbe3];lia)
   refine⟨v5,v6,v7,v8,?_⟩
   rw [decide_eq_true hl',if_pos hl']
   show ((bdN (tC M ss s2 hd ch s5 s6 s7 s8)).bind _)=_
   rw [e]
   exact e'
  ·refine⟨s5,s6,s7,s8,?_⟩
   rw [decide_eq_false hl',if_neg hl']
   rfl
theorem chs_hi {M:Nat}{ss:List (List Int)} (c:Cv M ss):∀(n:Nat) (hd:Hd) (ch:List Int),HI M ss hd→M<hd.length+n→HI M ss (chs M ss n hd ch).1∧(chs M ss n hd ch).1.length=M
 |0,hd,ch,h,hn=>by
  have:hd.length≤M:=by simpa using h.ak.len
  lia
 |n+1,hd,ch,h,hn=>by
  unfold chs
  by_cases hl':hd.length<M
  ·rw [if_pos hl']
   obtain⟨h1,h2⟩:=h.step c (h.some_new c hl')
   exact chs_hi c n _ _ h1 (by lia)
  ·rw [if_neg hl']
   have:hd.length≤M:=by simpa using h.ak.len
   exact⟨h,show hd.length=M by lia⟩
def zf5 (M:Nat) (ss:List (List Int)):Hd×List Int:=chs M ss 500 [] []
theorem zan9 {M:Nat} (hM:M≤400) {ss:List (List Int)} (c:Cv M ss) (x:Int) (x0:0≤x) (x1:x<(M:Int)):x∈(zf5 M ss).1.map Prod.fst:=by
 obtain⟨h,l⟩:=chs_hi c 500 [] [] (HI.nil M ss) (by simp;lia)
 refine Classical.byContradiction fun z=>?_
 have ak:AllK M ((zf5 M ss).1.map Prod.fst++[x]):=⟨zay9.mpr ⟨h.ak.nd,by simp,fun a ha b hb e=>by rw [zaz9]at hb;subst hb;subst e;exact z ha⟩,fun y hy=>by
  rcases zay0.mp hy with q | q
  ·exact h.ak.lt y q
  ·rw [zaz9]at q;subst q;exact⟨x0,x1⟩⟩
 have:=ak.len
 rw [zba7,zba6]at this
 have l:(zf5 M ss).1.length=M:=l
 simp at this
 lia
theorem zae7 {M:Nat} (hM:M≤400) {ss:List (List Int)} (c:Cv M ss) (hl:ss.length≤400):zd2 [.int (M:Int),mD ss]=some (.tm (.tup [.lst ((zf5 M ss).2.map D.int),.lst ((zb7 M).map fun x=>tP (shr (zf5 M ss).1 x))])):=by
 let t0:Th:=[.val (.int (M:Int)),.val (mD ss),.no,.no,.no,.no,.no,.no,.no]
 show (zf9 t0).bind zm6=_
 unfold zf9
 have r0:=lr_of (f:=dT1 kLen (za2 (dVar 1) dNil)) (t:=t0) (n:=ss.length) (zat3 (f:=dVar 1) (r:=.cl (mD ss)) rfl rfl) (by lia)
 have la:zb2 [.int (M:Int),mD ss,.lst ((zb7 ss.length).map D.int)]=some (.nw (([]:List Int).map D.int)):=by
  rw [zx6 (by lia) c.lt fun n hn=>zh1 hn]
  have:(zb7 M).filter (fun x=>decide (x∉hads ss (zb7 ss.length)))=[]:=by
   refine zbl5.mpr fun x hx=>?_
   obtain⟨x0,x1⟩:=zh1 hx
   obtain⟨s,hs,xs⟩:=c.all x x0 x1
   obtain⟨i,hi,e⟩:=zbm5.mp hs
   have:x∈hads ss (zb7 ss.length):=mem_hads.mpr (.inr ⟨(i:Int),zl5 (by lia) (by lia),by
    show x∈ss.getD i []
    rw [zay7,zay3 hi,e]
    exact xs⟩)
   simpa using this
  rw [this]
 have a1:(dT1 (zd3 zb2) (za2 (dVar 0) (za2 (dVar 1) (za2 (zk6 (za2 (dT1 kLen (za2 (dVar 1) dNil)) dNil)) dNil)))) t0=some (.nw (([]:List Int).map D.int)):=(t3_of (rfl:dVar 0 t0=some (.cl (.int (M:Int)))) (rfl:dVar 1 t0=some (.cl (mD ss))) r0).trans (calln la)
 have E1:=zaf6 (i:=2) a1 (by simp [t0])
 let t1:Th:=[.val (.int (M:Int)),.val (mD ss),.own [],.no,.no,.no,.no,.no,.no]
 have E2:dIfS (dTr (dVar 2)) zav5 zi3 t1=some (.nx t1):=grd (b:=false) rfl rfl
 have E3:dAsg 3 dNewD t1=some (.nx [.val (.int (M:Int)),.val (mD ss),.own [],.dp (dctH []),.no,.no,.no,.no,.no]):=rfl
 have E4:dAsg 4 (dT1 kLst dNil) [.val (.int (M:Int)),.val (mD ss),.own [],.dp (dctH []),.no,.no,.no,.no,.no]=some (.nx (tC M ss (.own []) [] [] .no .no .no .no)):=rfl
 obtain⟨u5,u6,u7,u8,e5⟩:=loop_N hM c hl (.own []) 500 [] [] .no .no .no .no (HI.nil M ss) (by simp;lia) (by simp)
 have E5:zq5 (fun _=>500) cdN bdN (tC M ss (.own []) [] [] .no .no .no .no)=some (.nx (tC M ss (.own []) (zf5 M ss).1 (zf5 M ss).2 u5 u6 u7 u8)):=e5
 let t5:=tC M ss (.own []) (zf5 M ss).1 (zf5 M ss).2 u5 u6 u7 u8
 have a6:(ze6 1 [3] (fsR1 (dVar 0)) (za6 0) zc7 (d2 zx7 (dVar 1) (dVar 0))) t5=some (.nw ((zb7 M).map fun x=>tP (shr (zf5 M ss).1 x))):=by
  have:=dcompR (p:=fun _=>true) (g:=fun x=>tP (shr (zf5 M ss).1 x)) (ft:=zc7) (fe:=d2 zx7 (dVar 1) (dVar 0)) (t:=t5) (f:=dVar 0) (r:=.cl (.int (M:Int))) (n:=M) (b:=false) (cap:=[3]) (c:=[dctH (zf5 M ss).1]) rfl rfl rfl (by lia) (fun _ _=>rfl)
   (fun x hx _=>⟨.cl (tP (shr (zf5 M ss).1 x)),by
    obtain⟨x0,x1⟩:=zh1 hx
    rw [zi4 (rfl:dVar 1 _=some (.cl (dctH (zf5 M ss).1))) (rfl:dVar 0 _=some (.cl (.int x)))]
    show (match zad5 (((zf5 M ss).1.map Prod.fst).map kN) ((zf5 M ss).1.map fun p=>tP p.2) (kN x) with
     |some d=>if flat d then some (Ev.cl d) else none
     |none=>none)=_
    rw [get_hd (zan9 hM c x x0 x1)]
    rfl,rfl⟩) (.inl (zaa1 _ _))
  rw [this,zbb5.mpr fun _ _=>rfl]
 have a7:(dT1 kTup (za2 (dVar 4) (za2 (ze6 1 [3] (fsR1 (dVar 0)) (za6 0) zc7 (d2 zx7 (dVar 1) (dVar 0))) dNil))) t5=some (.tm (.tup [.lst ((zf5 M ss).2.map D.int),.lst ((zb7 M).map fun x=>tP (shr (zf5 M ss).1 x))])):=(zq7 (rfl:dVar 4 t5=some (.tm (.lst ((zf5 M ss).2.map D.int)))) a6).trans rfl
 exact bnd ((zb8 E1).trans ((zb8 E2).trans ((zb8 E3).trans ((zb8 E4).trans ((zb8 E5).trans (zu1 a7))))))
theorem fmod_nat (a b:Nat) (h:0<b):(a:Int).fmod (b:Int)=((a % b:Nat):Int):=by
 rw [zbj1 _ (by lia)];rfl
def cfC:DT:=(dBo (d2 kNe (dVar 1) (dC (.int 0))))
theorem zaw1:∀(n a b:Nat),b<n→whD cfC cfB n [.val (.int (a:Int)),.val (.int (b:Int))]=some (.nx [.val (.int (zbe8 a b:Int)),.val (.int 0)])
 |0,a,b,h=>by lia
 |n+1,a,b,h=>by
  have ec:cfC [.val (.int (a:Int)),.val (.int (b:Int))]=some (!decide ((b:Int)=0)):=by
   simp [cfC,dBo,d2,dVar,dC,kNe,eqOk,eqD,Ev.d]
  unfold whD
  rw [ec]
  by_cases hb:b=0
  ·subst hb
   simp
  ·have hb' : ¬ ((b:Int)=0):=by lia
   rw [decide_eq_false hb']
   have eb:cfB [.val (.int (a:Int)),.val (.int (b:Int))]=some (.nx [.val (.int (b:Int)),.val (.int ((a % b:Nat):Int))]):=by
    unfold cfB dPar
    have:(za2 (dVar 1) (za2 (d2 qR (dVar 0) (dVar 1)) dNil)) [.val (.int (a:Int)),.val (.int (b:Int))]=some [.cl (.int (b:Int)),.cl (.int ((a:Int).fmod (b:Int)))]:=by
     simp [za2,dNil,d2,dVar,kI,cMod,Ev.d,hb]
    rw [this,fmod_nat a b (by lia)]
    rfl
   simp only [zay2,Bool.not_false,if_true,eb]
   rw [zaw1 n b (a % b) (by have:=Nat.mod_lt a (show 0<b by lia);lia),Nat.gcd_comm b, ← Nat.gcd_rec,Nat.gcd_comm b]
theorem zae5 (a b:Nat):zd1 [.int (a:Int),.int (b:Int)]=some (.cl (.int (zbe8 a b:Int))):=by
 have e:=zaw1 (((b:Int).natAbs)+1) a b (by lia)
 show ((dSeq (zq5 (fuelN 1) cfC cfB) (dRet (dT1 kAbs (za2 (dVar 0) dNil)))) [.val (.int (a:Int)),.val (.int (b:Int))]).bind zm6=_
 have e':(zq5 (fuelN 1) cfC cfB) [.val (.int (a:Int)),.val (.int (b:Int))]=some (.nx [.val (.int (zbe8 a b:Int)),.val (.int 0)]):=e
 rw [zb8 e']
 have h : ¬ ((zbe8 a b:Int)<0):=by lia
 simp [dRet,dT1,za2,dNil,dVar,kAbs,Ev.d,zm6,h]
theorem zaa2 (a b:Nat):(a:Int).fdiv (b:Int)=((a / b:Nat):Int):=by
 rw [Int.fdiv_eq_ediv_of_nonneg _ (by lia)];rfl
theorem smN {a:Nat} (h:a<DL.bnd):sm (a:Int)=true:=by
 unfold sm
 rw [decide_eq_true_eq]
 exact h
theorem zai5 (s m:Nat) (h0:0<m) (h:m<DL.bnd):zl0 [.int (s:Int),.int (m:Int)]=some (.cl (.tup [.int ((s / zbe8 s m:Nat):Int),.int ((m / zbe8 s m:Nat):Int)])):=by
 have g0:0<zbe8 s m:=zbk4 _ h0
 have g1:zbe8 s m≤m:=Nat.gcd_le_right _ h0
 have gs:sm (zbe8 s m:Int)=true:=smN (zba2 g1 h)
 let t0:Th:=[.val (.int (s:Int)),.val (.int (m:Int)),.no]
 let t1:Th:=[.val (.int (s:Int)),.val (.int (m:Int)),.val (.int (zbe8 s m:Int))]
 have a1:(dT1 (zd3 zd1) (za2 (dVar 0) (za2 (dVar 1) dNil))) t0=some (.cl (.int (zbe8 s m:Int))):=(zq7 (rfl:dVar 0 t0=some (.cl (.int (s:Int)))) (rfl:dVar 1 t0=some (.cl (.int (m:Int))))).trans (zx0 (zae5 s m) rfl)
 have E1:=zm0 (i:=2) a1 (by simp [t0])
 have E2:(dIfS (dBo (d2 qL' (dVar 1) (dC (.int 0)))) (dAsg 2 (d1 kNeg (dVar 2))) zi3) t1=some (.nx t1):=grd (zas8 (fa:=dVar 1) (fb:=dC (.int 0)) (t:=t1) (a:=(m:Int)) (b:=0) rfl rfl) (decide_eq_false (by lia))
 have d1:=zy0 (fa:=dVar 0) (fb:=dVar 2) (t:=t1) (a:=(s:Int)) (b:=(zbe8 s m:Int)) rfl rfl (by lia) gs
 have d2':=zy0 (fa:=dVar 1) (fb:=dVar 2) (t:=t1) (a:=(m:Int)) (b:=(zbe8 s m:Int)) rfl rfl (by lia) gs
 rw [zaa2]at d1 d2'
 have a3:=(zq7 (k:=kTup) d1 d2').trans rfl
 show (zr6 t0).bind zm6=_
 exact bnd ((zb8 E1).trans ((zb8 E2).trans (zu1 a3)))
theorem zaa3 {n:Nat} (h:n≤400):n*fct n<DL.bnd∧fct n<DL.bnd:=by
 have h1:=fct_mono h
 have h2:n*fct n≤400*fct 400:=zbi2 h h1
 have h3:400*fct 400<DL.bnd:=by decide +kernel
 have h4:=zv3 400
 lia
theorem zas9 (s0:Sl) {n:Nat} (hn:n≤400):∀(m k:Nat) (s3:Sl),k+m=n→∃u3,forD (za6 3) bdHm ((zbb6 m).map fun (i:Nat)=>D.int (1+(k:Int)+(i:Int))) [s0,.val (.int (hmT k:Int)),.val (.int (fct k:Int)),s3]=some (.nx [s0,.val (.int (hmT n:Int)),.val (.int (fct n:Int)),u3])
 |0,k,s3,h=>by
  have:k=n:=by lia
  subst this
  exact⟨s3,rfl⟩
 |m+1,k,s3,h=>by
  obtain⟨u3,i⟩:=zas9 s0 hn m (k+1) (.val (.int (1+(k:Int)))) (by lia)
  have hk:=zaa3 (n:=k) (by lia)
  have hk1:=zaa3 (n:=k+1) (by lia)
  have hmk:sm (hmT k:Int)=true:=smN (zba2 (hm_le k) hk.1)
  have hfk:sm (fct k:Int)=true:=smN hk.2
  have hk2:sm (1+(k:Int))=true:=sm_of (by lia) (by lia)
  let t1:Th:=[s0,.val (.int (hmT k:Int)),.val (.int (fct k:Int)),.val (.int (1+(k:Int)))]
  have m1:=zi9 (fa:=dVar 1) (fb:=dVar 3) (t:=t1) (a:=(hmT k:Int)) (b:=1+(k:Int)) rfl rfl hmk hk2
  have m2:=zi9 (fa:=dVar 2) (fb:=dVar 3) (t:=t1) (a:=(fct k:Int)) (b:=1+(k:Int)) rfl rfl hfk hk2
  have m3:=zs4 (fb:=dVar 2) (b:=(fct k:Int)) m1 rfl
  have e1:(hmT k:Int)*(1+(k:Int))+(fct k:Int)=(hmT (k+1):Int):=by
   show _=((hmT k*(k+1)+fct k:Nat):Int)
   rw [Int.natCast_add,zbg3,show ((k+1:Nat):Int)=1+(k:Int) by lia]
  have e2:(fct k:Int)*(1+(k:Int))=(fct (k+1):Int):=by
   show _=(((k+1)*fct k:Nat):Int)
   rw [zbg3,show ((k+1:Nat):Int)=1+(k:Int) by lia,Int.mul_comm]
  rw [e1]at m3
  rw [e2]at m2
  have eb:bdHm t1=some (.nx [s0,.val (.int (hmT (k+1):Int)),.val (.int (fct (k+1):Int)),.val (.int (1+(k:Int)))]):=by
   unfold bdHm dPar
   rw [cns m3 (cns m2 (rfl:dNil t1=some []))]
   rfl
  refine⟨u3,?_⟩
  rw [List.range_succ_eq_map,zaz3,zbd4]
  have er:((fun (i:Nat)=>D.int (1+(k:Int)+(i:Int))) ∘ Nat.succ)=fun (i:Nat)=>D.int (1+((k+1:Nat):Int)+(i:Int)):=by
   funext i
   show D.int (1+(k:Int)+((i+1:Nat):Int))=D.int (1+((k+1:Nat):Int)+(i:Int))
   congr 1
   lia
  rw [er]
  have e0:D.int (1+(k:Int)+((0:Nat):Int))=D.int (1+(k:Int)):=by congr 1
  rw [e0]
  exact (zai6 (t1:=t1) rfl eb).trans i
theorem zai2 {n:Nat} (hn:n≤400):zk9 [.int (n:Int)]=some (.cl (.tup [.int (hA n:Int),.int (hB n:Int)])):=by
 let t0:Th:=[.val (.int (n:Int)),.no,.no,.no]
 obtain⟨u3,e⟩:=zas9 (.val (.int (n:Int))) hn n 0 .no (by lia)
 have E1:zw8 (zai3 2 (zj8 (za6 1) (zj8 (za6 2) zai4))) (dT1 kTup (za2 (dC (.int 0)) (za2 (dC (.int 1)) dNil))) t0=some (.nx [.val (.int (n:Int)),.val (.int 0),.val (.int 1),.no]):=rfl
 have ad:=zs4 (fa:=dVar 0) (fb:=dC (.int 1)) (t:=[.val (.int (n:Int)),.val (.int 0),.val (.int 1),.no]) (a:=(n:Int)) (b:=1) rfl rfl
 have E2:zae0 (za6 3) (dC (.int 1)) (d2 qA' (dVar 0) (dC (.int 1))) bdHm [.val (.int (n:Int)),.val (.int 0),.val (.int 1),.no]=some (.nx [.val (.int (n:Int)),.val (.int (hmT n:Int)),.val (.int (fct n:Int)),u3]):=by
  have er:rngD 1 n=(zbb6 n).map fun (i:Nat)=>D.int (1+((0:Nat):Int)+(i:Int)):=by
   unfold rngD
   refine zbf1 fun i _=>?_
   rw [Int.ofNat_zero,Int.add_zero]
  refine (zaj8 (k:=n) (rfl:dC (.int 1) _=some (.cl (.int 1))) ad (by lia) (by rw [zay4];unfold bigI;constructor <;>(simp;try lia))).trans ?_
  rw [er]
  exact e
 have fb:=zaa3 hn
 have a3:=zai5 (hmT n) (fct n) (zv3 n) fb.2
 have E3:dRet (dT1 (zd3 zl0) (za2 (dVar 1) (za2 (dVar 2) dNil))) [.val (.int (n:Int)),.val (.int (hmT n:Int)),.val (.int (fct n:Int)),u3]=some (.rt (.cl (.tup [.int (hA n:Int),.int (hB n:Int)]))):=zu1 ((zq7 (rfl:dVar 1 _=some (.cl (.int (hmT n:Int)))) (rfl:dVar 2 _=some (.cl (.int (fct n:Int))))).trans (zx0 a3 rfl))
 show (zr5 t0).bind zm6=_
 exact bnd ((zb8 E1).trans ((zb8 E2).trans E3))
theorem zad2 {M:Nat} (hM:M≤1000) {ss:List (List Int)} (hs:∀s∈ss,∀x∈s,0≤x∧x<(M:Int)) {ch:List Int} (hc:ch.length≤1000):zj3 [.int (M:Int),mD ss,.lst (ch.map D.int)]=some (.cl (.bl (isCh M ss ch))):=by
 let t0:Th:=[.val (.int (M:Int)),.val (mD ss),.val (.lst (ch.map D.int))]
 have a1:(ze6 1 [1] (fsL (dVar 2)) (za6 0) zc7 (dChV qE qL' (dC (.int 0)) (dVar 0) (dT1 kLen (za2 (dVar 1) dNil)))) t0=some (.nw ((ch.map fun c=>decide (0≤c)&&decide (c<(ss.length:Int))).map D.bl)):=by
  have:=zs1 (e:=D.int) (p:=fun _=>true) (g:=fun c=>D.bl (decide (0≤c)&&decide (c<(ss.length:Int)))) (ft:=zc7) (fe:=(dChV qE qL' (dC (.int 0)) (dVar 0) (dT1 kLen (za2 (dVar 1) dNil)))) (t:=t0) (f:=dVar 2) (r:=.cl (.lst (ch.map D.int))) (xs:=ch) (cap:=[1]) (b:=true) (c:=[mD ss]) rfl rfl rfl (by lia) (fun _ _=>rfl)
   (fun x _ _=>⟨_,chv_of (fa:=dC (.int 0)) (fb:=dVar 0) (a:=0) (b:=x) rfl rfl (zat3 (f:=dVar 1) (r:=.cl (mD ss)) rfl rfl),rfl⟩) (.inr rfl)
  rw [this,zbb5.mpr fun _ _=>rfl]
  simp [Function.comp_def]
 have a2:=allB_of a1
 show (zp1 t0).bind zm6=_
 unfold isCh
 by_cases h:(ch.map fun c=>decide (0≤c)&&decide (c<(ss.length:Int))).all id=true
 ·rw [h]at a2 ⊢
  have E1:dIfS (dNot (dTr (dT1 qU (za2 (ze6 1 [1] (fsL (dVar 2)) (za6 0) zc7 (dChV qE qL' (dC (.int 0)) (dVar 0) (dT1 kLen (za2 (dVar 1) dNil)))) dNil)))) (dRet (dC (.bl false))) zi3 t0=some (.nx t0):=grd (not_of (zam2 a2)) rfl
  have hr:∀n∈ch,0≤n∧n<(ss.length:Int):=fun n hn=>by
   have:=all_id.mp h n hn
   simpa using this
  have b1:=eqv_of (lens_of (f:=dVar 2) (t:=t0) (r:=.cl (.lst (ch.map D.int))) (xs:=ch) rfl rfl (by lia)) (zx5 (f:=dVar 2) (t:=t0) (r:=.cl (.lst (ch.map D.int))) (xs:=ch) rfl rfl)
  have b2:=(t3_of (rfl:dVar 0 t0=some (.cl (.int (M:Int)))) (rfl:dVar 1 t0=some (.cl (mD ss))) (rfl:dVar 2 t0=some (.cl (.lst (ch.map D.int))))).trans (calln (G:=zb2) (rs:=[.cl (.int (M:Int)),.cl (mD ss),.cl (.lst (ch.map D.int))]) (zx6 hM hs hr))
  have b3:(d1 zai1 (dT1 (zd3 zb2) (za2 (dVar 0) (za2 (dVar 1) (za2 (dVar 2) dNil))))) t0=some (.cl (.bl ((zb7 M).filter fun x=>decide (x∉hads ss ch)).isEmpty)):=by
   unfold d1
   rw [b2]
   show some (Ev.cl (.bl (!!(((zb7 M).filter fun x=>decide (x∉hads ss ch)).map D.int).isEmpty)))=_
   rw [Bool.not_not,List.isEmpty_map]
  have e0:decide (((ddp ch).length:Int)=(ch.length:Int))=decide ((ddp ch).length=ch.length):=decide_eq_decide.mpr (by lia)
  rw [e0]at b1
  have b4:(zan8 (d2 kEq (dT1 zr4 (za2 (dVar 2) dNil)) (dT1 kLen (za2 (dVar 2) dNil))) (d1 zai1 (dT1 (zd3 zb2) (za2 (dVar 0) (za2 (dVar 1) (za2 (dVar 2) dNil)))))) t0=some (.cl (.bl (decide ((ddp ch).length=ch.length)&&((zb7 M).filter fun x=>decide (x∉hads ss ch)).isEmpty))):=by
   unfold zan8
   rw [b1]
   cases decide ((ddp ch).length=ch.length) with
   |false=>rfl
   |true =>
    show (d1 zai1 (dT1 (zd3 zb2) (za2 (dVar 0) (za2 (dVar 1) (za2 (dVar 2) dNil))))) t0=_
    rw [b3]
    rfl
  exact bnd ((zb8 E1).trans (zu1 b4))
 ·have h:(ch.map fun c=>decide (0≤c)&&decide (c<(ss.length:Int))).all id=false:=by simpa using h
  rw [h]at a2 ⊢
  exact bnd (seq_rt (grd_t (not_of (zam2 a2)) rfl))
theorem ix_q {fa:DE}{t:Th}{q:Int×Nat} (h:fa t=some (.cl (qD q))):(d2 kIx fa (dC (.int 0))) t=some (.cl (.int q.1))∧(d2 kIx fa (dC (.int 1))) t=some (.cl (.int (q.2:Int))):=⟨(zi4 h (rfl:dC (.int 0) t=some (.cl (.int 0)))).trans rfl,(zi4 h (rfl:dC (.int 1) t=some (.cl (.int 1)))).trans rfl⟩
theorem loop_B (s0:Sl):∀(qs:List (Int×Nat)) (L:Nat) (s2:Sl),0<L→(∀q∈qs,1≤q.2∧q.2≤1000)→L*1000 ^ qs.length≤1000 ^ 200→∃u2,forD (za6 2) bdB (qs.map qD) [s0,.val (.int (L:Int)),s2]=some (.nx [s0,.val (.int (lcQ qs L:Int)),u2])
 |[],L,s2,_,_,_=>⟨s2,rfl⟩
 |q::qs,L,s2,h,hb,hl=>by
  have b:=hb q (by simp)
  have p1:1≤1000 ^ qs.length:=Nat.pow_pos (by decide)
  have hl':L*1000*1000 ^ qs.length≤1000 ^ 200:=by
   rw [zbb7,Nat.pow_succ,zbe9 (1000 ^ qs.length), ← zbe7]at hl
   exact hl
  have lf:=lcF_le L q.2
  have lf2:lcF L q.2≤L*1000:=zaz4 lf (zbm9 _ b.2)
  obtain⟨u2,i⟩:=loop_B s0 qs (lcF L q.2) (.val (qD q)) (zat6 h b.1) (fun x hx=>hb x (zax9 _ hx)) (zaz4 (zbb8 _ lf2) hl')
  have LB:L≤1000 ^ 200:=zaz4 (zaz4 (zbk9 _ (by decide:0<1000)) (zbk9 _ p1)) hl'
  have bd:∀n:Nat,n≤1000 ^ 200→sm (n:Int)=true:=fun n hn=>smN (zba2 (zaz4 hn zr1) (zba2 (zbb9 _ (by decide)) zaa8))
  let t1:Th:=[s0,.val (.int (L:Int)),.val (qD q)]
  obtain⟨x0,x1⟩:=ix_q (fa:=dVar 2) (t:=t1) (q:=q) rfl
  have g0:0<zbe8 L q.2:=zbk7 _ h
  have cf:=(zq7 (rfl:dVar 1 t1=some (.cl (.int (L:Int)))) x1).trans (zx0 (G:=zd1) (rs:=[.cl (.int (L:Int)),.cl (.int (q.2:Int))]) (zae5 L q.2) rfl)
  have gl:zbe8 L q.2≤L:=Nat.gcd_le_left _ h
  have d1:=zy0 (fa:=dVar 1) (t:=t1) (a:=(L:Int)) rfl cf (by lia) (bd _ (zaz4 gl LB))
  rw [zaa2]at d1
  have m1:=zi9 d1 x1 (bd _ (zaz4 (zbg2 _ _) LB)) (sm_of (by lia) (by lia))
  rw [← zbg3]at m1
  have eb:bdB t1=some (.nx [s0,.val (.int (lcF L q.2:Int)),.val (qD q)]):=zm0 (i:=1) m1 (by simp [t1])
  refine⟨u2,?_⟩
  rw [zaz3]
  exact (zai6 (t1:=t1) rfl eb).trans i
theorem over_is {qs:List (Int×Nat)} (h:Shs qs):zc8 [.lst (qs.map qD)]=some (.cl (.tup [.lst ((tps qs).map D.int),.int (lcL qs:Int)])):=by
 let t0:Th:=[.val (.lst (qs.map qD)),.no,.no]
 have E1:dAsg 1 (dC (.int 1)) t0=some (.nx [.val (.lst (qs.map qD)),.val (.int ((1:Nat):Int)),.no]):=rfl
 obtain⟨u2,e⟩:=loop_B (.val (.lst (qs.map qD))) qs 1 .no zbl7 h.bt (by rw [zbl6];exact zbd3 (by decide) h.len)
 have E2:dFor (za6 2) (dVar 0) bdB [.val (.lst (qs.map qD)),.val (.int ((1:Nat):Int)),.no]=some (.nx [.val (.lst (qs.map qD)),.val (.int (lcL qs:Int)),u2]):=(for_of (r:=.cl (.lst (qs.map qD))) rfl rfl rfl).trans e
 let t2:Th:=[.val (.lst (qs.map qD)),.val (.int (lcL qs:Int)),u2]
 have a3:(ze6 1 [1] (fsL (dVar 0)) (za6 0) zc7 (d2 qM (d2 kIx (dVar 0) (dC (.int 0))) (d2 qV (dVar 1) (d2 kIx (dVar 0) (dC (.int 1)))))) t2=some (.nw ((tps qs).map D.int)):=by
  have:=zs1 (e:=qD) (p:=fun _=>true) (g:=fun q=>D.int (q.1*((lcL qs / q.2:Nat):Int))) (ft:=zc7) (fe:=(d2 qM (d2 kIx (dVar 0) (dC (.int 0))) (d2 qV (dVar 1) (d2 kIx (dVar 0) (dC (.int 1)))))) (t:=t2) (f:=dVar 0) (r:=.cl (.lst (qs.map qD))) (xs:=qs) (cap:=[1]) (b:=true) (c:=[.int (lcL qs:Int)]) rfl rfl rfl (by have:=h.len;lia) (fun _ _=>rfl)
   (fun q hq _=>by
    have b:=h.bt q hq
    have tp:=h.tp q hq
    obtain⟨x0,x1⟩:=ix_q (fa:=dVar 0) (t:=[.val (qD q),.val (.int (lcL qs:Int))]) (q:=q) rfl
    have d1:=zy0 (fa:=dVar 1) (t:=[.val (qD q),.val (.int (lcL qs:Int))]) (a:=(lcL qs:Int)) rfl x1 (by lia) (sm_of (by lia) (by lia))
    rw [zaa2]at d1
    exact⟨_,zi9 x0 d1 (sm_of (by lia) (by lia)) (smN (zba2 (zaz4 (zaz4 (zbg2 _ _) (zat5 h)) zr1) (zba2 (zbb9 _ (by decide)) zaa8))),rfl⟩) (.inr rfl)
  rw [this,zbb5.mpr fun _ _=>rfl]
  simp [tps,Function.comp_def]
 have a4:=(zq7 (k:=kTup) a3 (rfl:dVar 1 t2=some (.cl (.int (lcL qs:Int))))).trans rfl
 show (zg3 t0).bind zm6=_
 exact bnd ((zb8 E1).trans ((zb8 E2).trans (zu1 a4)))
theorem turn_Py (s0 s4:Sl) {T:List Int} (hT:∀x∈T,x.natAbs≤bigT) {L:Nat} (hL:L≤bigT) {s:List Int} (hs:∀x∈s,0≤x∧x<(T.length:Int)) (hl:s.length≤400):∃u4,bdPy [s0,.val (.lst (T.map D.int)),.val (.int (L:Int)),.val (rwD s),s4]=some (if payS T L s then .nx [s0,.val (.lst (T.map D.int)),.val (.int (L:Int)),.val (rwD s),u4] else .rt (.cl (.bl false))):=by
 let t0:Th:=[s0,.val (.lst (T.map D.int)),.val (.int (L:Int)),.val (rwD s),s4]
 have a1:=(zw2 (zx5 (f:=dVar 3) (t:=t0) (r:=.cl (rwD s)) (xs:=s) rfl rfl)).trans (zx0 (G:=zk9) (rs:=[.cl (.int (s.length:Int))]) (zai2 hl) rfl)
 have E1:=zm0 (i:=4) a1 (by simp [t0])
 let u4:Sl:=.val (.tup [.int (hA s.length:Int),.int (hB s.length:Int)])
 let t1:Th:=[s0,.val (.lst (T.map D.int)),.val (.int (L:Int)),.val (rwD s),u4]
 have a2:(ze6 1 [1] (fsL (dVar 3)) (za6 0) zc7 (d2 kIx (dVar 1) (dVar 0))) t1=some (.nw ((s.map fun x=>T.getD x.toNat 0).map D.int)):=by
  have:=zs1 (e:=D.int) (p:=fun _=>true) (g:=fun x=>D.int (T.getD x.toNat 0)) (ft:=zc7) (fe:=d2 kIx (dVar 1) (dVar 0)) (t:=t1) (f:=dVar 3) (r:=.cl (rwD s)) (xs:=s) (cap:=[1]) (b:=true) (c:=[.lst (T.map D.int)]) rfl rfl rfl (by lia) (fun _ _=>rfl)
   (fun x hx _=>⟨_,zx8 (fa:=dVar 1) (fb:=dVar 0) (r1:=.cl (.lst (T.map D.int))) (r2:=.cl (.int x)) T x.toNat rfl rfl (by have:=hs x hx;lia) rfl (by show D.int x=D.int _;rw [zbi8 (hs x hx).1]),rfl⟩) (.inr rfl)
  rw [this,zbb5.mpr fun _ _=>rfl]
  simp [Function.comp_def]
 have a3:=sum_of a2 rfl
 have bb:=zaa8
 have fb:=zaa3 hl
 have sA:sm (hA s.length:Int)=true:=smN (zba2 (zaz4 (zbg2 _ _) (hm_le _)) fb.1)
 have sB:sm (hB s.length:Int)=true:=smN (zba2 (zbg2 _ _) fb.2)
 have gT:∀x∈s.map fun x=>T.getD x.toNat 0,x.natAbs≤bigT:=fun y hy=>by
  obtain⟨x,hx,rfl⟩:=zba3.mp hy
  have:=hs x hx
  refine hT _ ?_
  rw [zay7,zay3 (by lia)]
  exact zbe5 _
 have sS:sm (sumS T s)=true:=by
  refine smA ?_
  have:=zao8 gT
  rw [zba6]at this
  exact zba2 (zaz4 this (zbb8 _ (by lia:s.length≤1000))) bb
 have sL:sm (L:Int)=true:=smN (zba2 (zaz4 hL (zbb9 _ (by decide))) bb)
 have m1:=zi9 a3 ((zi4 (k:=kIx) (rfl:dVar 4 t1=some (.cl (.tup [.int (hA s.length:Int),.int (hB s.length:Int)]))) (rfl:dC (.int 1) t1=some (.cl (.int 1)))).trans (rfl:_=some (Ev.cl (.int (hB s.length:Int))))) sS sB
 have m2:=zi9 ((zi4 (k:=kIx) (rfl:dVar 4 t1=some (.cl (.tup [.int (hA s.length:Int),.int (hB s.length:Int)]))) (rfl:dC (.int 0) t1=some (.cl (.int 0)))).trans (rfl:_=some (Ev.cl (.int (hA s.length:Int))))) (rfl:dVar 2 t1=some (.cl (.int (L:Int)))) sA sL
 have g:=gt_of m1 m2
 refine⟨u4,(zb8 E1).trans ?_⟩
 have g:dBo _ t1=some (!payS T L s):=g.trans (by unfold payS;rw [Bool.not_not];rfl)
 cases hp:payS T L s with
 |true =>
  rw [hp]at g
  exact grd g rfl
 |false =>
  rw [hp]at g
  exact grd_t g rfl
theorem zat0 (s0:Sl) {T:List Int} (hT:∀x∈T,x.natAbs≤bigT) {L:Nat} (hL:L≤bigT):∀(ss:List (List Int)) (s3 s4:Sl),(∀s∈ss,(∀x∈s,0≤x∧x<(T.length:Int))∧s.length≤400)→∃u3 u4,forD (za6 3) bdPy (ss.map rwD) [s0,.val (.lst (T.map D.int)),.val (.int (L:Int)),s3,s4]=some (if ss.all (payS T L) then .nx [s0,.val (.lst (T.map D.int)),.val (.int (L:Int)),u3,u4] else .rt (.cl (.bl false)))
 |[],s3,s4,_=>⟨s3,s4,rfl⟩
 |s::ss,s3,s4,h=>by
  have hs:=h s (by simp)
  obtain⟨u4,e⟩:=turn_Py s0 s4 hT hL hs.1 hs.2
  obtain⟨v3,v4,i⟩:=zat0 s0 hT hL ss (.val (rwD s)) u4 fun x hx=>h x (zax9 _ hx)
  refine⟨v3,v4,?_⟩
  rw [zaz3,zbh5]
  cases hp:payS T L s with
  |true =>
   rw [hp]at e
   exact (zai6 (t1:=[s0,.val (.lst (T.map D.int)),.val (.int (L:Int)),.val (rwD s),s4]) rfl e).trans i
  |false =>
   rw [hp]at e
   exact forD_rt (t1:=[s0,.val (.lst (T.map D.int)),.val (.int (L:Int)),.val (rwD s),s4]) rfl e
theorem zan0 {T:List Int} (hT:∀x∈T,x.natAbs≤bigT) {L:Nat} (hL:L≤bigT) {ss:List (List Int)} (h:∀s∈ss,(∀x∈s,0≤x∧x<(T.length:Int))∧s.length≤400):zg1 [mD ss,.lst (T.map D.int),.int (L:Int)]=some (.cl (.bl (ss.all (payS T L)))):=by
 let t0:Th:=[.val (mD ss),.val (.lst (T.map D.int)),.val (.int (L:Int)),.no,.no]
 obtain⟨u3,u4,e⟩:=zat0 (.val (mD ss)) hT hL ss .no .no h
 have E1:dFor (za6 3) (dVar 0) bdPy t0=_:=(for_of (r:=.cl (mD ss)) rfl rfl rfl).trans e
 show (zl9 t0).bind zm6=_
 cases hp:ss.all (payS T L) with
 |true =>
  rw [hp]at E1
  exact bnd ((zb8 E1).trans rfl)
 |false =>
  rw [hp]at E1
  exact bnd (seq_rt E1)
theorem lets_is {M:Nat} (hM:M≤400) {ss:List (List Int)} (nd:∀s∈ss,s.Nodup) (hs:∀s∈ss,∀x∈s,0≤x∧x<(M:Int)) {ch:List Int} (hc:ch.length≤1000) {qs:List (Int×Nat)} (hq:Shs qs):zg0 [.int (M:Int),mD ss,.lst (ch.map D.int),.lst (qs.map qD)]=some (.cl (.bl (letsB M ss ch qs))):=by
 let t0:Th:=[.val (.int (M:Int)),.val (mD ss),.val (.lst (ch.map D.int)),.val (.lst (qs.map qD)),.no,.no]
 have c1:=not_of (zam2 ((t3_of (rfl:dVar 0 t0=some (.cl (.int (M:Int)))) (rfl:dVar 1 t0=some (.cl (mD ss))) (rfl:dVar 2 t0=some (.cl (.lst (ch.map D.int))))).trans (zx0 (G:=zj3) (rs:=[.cl (.int (M:Int)),.cl (mD ss),.cl (.lst (ch.map D.int))]) (zad2 (by lia) hs hc) rfl)))
 have l3:(dT1 kLen (za2 (dVar 3) dNil)) t0=some (.cl (.int (qs.length:Int))):=by
  rw [zw2 (rfl:dVar 3 t0=some (.cl (.lst (qs.map qD))))]
  show some (Ev.cl (.int ((qs.map qD).length:Int)))=_
  rw [zba6]
 have c2:=neI_of l3 (rfl:dVar 0 t0=some (.cl (.int (M:Int))))
 have c3:=zar8 c1 c2
 have e0:decide ((qs.length:Int)=(M:Int))=decide (qs.length=M):=decide_eq_decide.mpr (by lia)
 rw [e0]at c3
 show (zl7 t0).bind zm6=_
 unfold letsB
 by_cases h1:(isCh M ss ch&&decide (qs.length=M))=true
 ·rw [h1]
  have h1':=h1
  simp only [zay4,decide_eq_true_eq]at h1'
  have E1:=grd (g:=dRet (dC (.bl false))) c3 (by rw [h1'.1,decide_eq_true h1'.2];rfl)
  have a2:=(zw2 (rfl:dVar 3 t0=some (.cl (.lst (qs.map qD))))).trans (show zd3 zc8 [.cl (.lst (qs.map qD))]=some (.cl (.tup [.lst ((tps qs).map D.int),.int (lcL qs:Int)])) by
   unfold zd3
   rw [show zc8 ([Ev.cl (.lst (qs.map qD))].map Ev.d)=_ from over_is hq]
   rfl)
  let t2:Th:=[.val (.int (M:Int)),.val (mD ss),.val (.lst (ch.map D.int)),.val (.lst (qs.map qD)),.val (.lst ((tps qs).map D.int)),.val (.int (lcL qs:Int))]
  have E2:zw8 (zai3 2 (zj8 (za6 4) (zj8 (za6 5) zai4))) (dT1 (zd3 zc8) (za2 (dVar 3) dNil)) t0=some (.nx t2):=by
   unfold zw8
   rw [a2]
   rfl
  have tl:(tps qs).length=M:=by simp [tps,h1'.2]
  have a3:(ze6 1 [] (fsL (dVar 4)) (za6 0) zc7 (d2 qL' (dVar 0) (dC (.int 0)))) t2=some (.nw (((tps qs).map fun x=>decide (x<0)).map D.bl)):=by
   have:=zs1 (e:=D.int) (p:=fun _=>true) (g:=fun x=>D.bl (decide (x<0))) (ft:=zc7) (fe:=(d2 qL' (dVar 0) (dC (.int 0)))) (t:=t2) (f:=dVar 4) (r:=.cl (.lst ((tps qs).map D.int))) (xs:=tps qs) (cap:=[]) (b:=true) (c:=[]) rfl rfl rfl (by lia) (fun _ _=>rfl)
    (fun x _ _=>⟨_,(zi4 (rfl:dVar 0 _=some (.cl (.int x))) (rfl:dC (.int 0) _=some (.cl (.int 0)))).trans rfl,rfl⟩) (.inr rfl)
   rw [this,zbb5.mpr fun _ _=>rfl]
   simp [Function.comp_def]
  have c4:=zam2 (anyB_of a3)
  have LB:lcL qs≤bigT:=zaz4 (zat5 hq) zr1
  have m1:=zi9 (zx5 (f:=dVar 2) (t:=t2) (r:=.cl (.lst (ch.map D.int))) (xs:=ch) rfl rfl) (rfl:dVar 5 t2=some (.cl (.int (lcL qs:Int)))) (sm_of (by lia) (by lia)) (smN (zba2 (zaz4 LB (zbb9 _ (by decide))) zaa8))
  have c5:=neI_of (sum_of (f:=dVar 4) (t:=t2) (r:=.cl (.lst ((tps qs).map D.int))) (xs:=tps qs) rfl rfl) m1
  have c6:=zar8 c4 c5
  by_cases h2:(!((tps qs).map fun x=>decide (x<0)).any id&&decide ((tps qs).sum=(ch.length:Int)*(lcL qs:Int)))=true
  ·have h2':=h2
   simp only [zay4,decide_eq_true_eq,zbo1]at h2'
   rw [Bool.true_and,h2'.1,decide_eq_true h2'.2]
   have E3:=grd (g:=dRet (dC (.bl false))) c6 (by rw [h2'.1,decide_eq_true h2'.2];rfl)
   have a5:=(t3_of (rfl:dVar 1 t2=some (.cl (mD ss))) (rfl:dVar 4 t2=some (.cl (.lst ((tps qs).map D.int)))) (rfl:dVar 5 t2=some (.cl (.int (lcL qs:Int))))).trans (zx0 (G:=zg1) (rs:=[.cl (mD ss),.cl (.lst ((tps qs).map D.int)),.cl (.int (lcL qs:Int))]) (zan0 (tps_le hq) LB fun s hs'=>⟨fun x hx=>by rw [tl];exact hs s hs' x hx,zaz4 (AllK.len ⟨nd s hs',hs s hs'⟩) hM⟩) rfl)
   exact bnd ((zb8 E1).trans ((zb8 E2).trans ((zb8 E3).trans (zu1 a5))))
  ·have h2:(!((tps qs).map fun x=>decide (x<0)).any id&&decide ((tps qs).sum=(ch.length:Int)*(lcL qs:Int)))=false:=by simpa using h2
   rw [Bool.true_and,h2,zbi1]
   have E3:=grd_t (g:=zi3) (d:=.bl false) c6 (by
    rw [zbl8]at h2
    rcases h2 with z | z
    ·rw [Bool.not_eq_false']at z;rw [z];rfl
    ·rw [z];simp)
   exact bnd ((zb8 E1).trans ((zb8 E2).trans (seq_rt E3)))
 ·have h1:(isCh M ss ch&&decide (qs.length=M))=false:=by simpa using h1
  rw [h1,zbi1,zbi1,zbi1]
  have E1:=grd_t (g:=zi3) (d:=.bl false) c3 (by
   rw [zbl8]at h1
   rcases h1 with z | z
   ·rw [z];rfl
   ·rw [z];simp)
  exact bnd (seq_rt E1)
end KX
set_option maxHeartbeats 4000000
namespace KX
open PySem.Spec L2 DL
theorem nn_of {t:Th}{f:DE}{r:Ev}{L:List Int} (h:f t=some r) (hr:r.d=.lst (L.map D.int)):dBo (d2 kNe f (dT1 kLst dNil)) t=some (!decide (L=[])):=by
 have e:(dT1 kLst dNil) t=some (.nw []):=rfl
 unfold dBo
 rw [zi4 h e]
 unfold kNe
 rw [hr]
 cases L with
 |nil=>rfl
 |cons x L=>rfl
theorem zaq6:∀ {L:List Int}{k:Nat},k<L.length→(L.getD k 0::L.eraseIdx k).Perm L
 |[],_,h=>absurd h (by simp)
 |x::L,0,_=>.refl _
 |x::L,k+1,h=>by
  have ih:=zaq6 (L:=L) (k:=k) (by simpa using h)
  show (L.getD k 0::x::L.eraseIdx k).Perm (x::L)
  exact (List.Perm.swap _ _ _).trans (ih.cons x)
theorem perm_pop (F:List Int) {L:List Int}{k:Nat} (kl:k<L.length):((F++[L.getD k 0])++L.eraseIdx k).Perm (F++L):=by
 rw [zbh9]
 exact List.Perm.append_left F (zaq6 kl)
def cdO:DT:=(dBo (d2 kNe (dVar 2) (dT1 kLst dNil)))
theorem turn_O (c:Int) (s1 s4:Sl) {L F:List Int} (ne:L≠[]) (hl:L.length≤100) (hf:F.length≤100):∃(c':Int) (L' F':List Int) (u4:Sl),L'.length+1=L.length∧F'.length=F.length+1∧(F'++L').Perm (F++L)∧bdO [.val (.int c),s1,.own (L.map D.int),.own (F.map D.int),s4]=some (.nx [.val (.int c'),s1,.own (L'.map D.int),.own (F'.map D.int),u4]):=by
 have l0:0<L.length:=by cases L with | nil=>exact absurd rfl ne | cons x L=>simp
 have E1:=zm0 (i:=4) (zx5 (f:=dVar 2) (t:=[.val (.int c),s1,.own (L.map D.int),.own (F.map D.int),s4]) (r:=.tm (.lst (L.map D.int))) (xs:=L) rfl rfl) (by simp)
 let t1:Th:=[.val (.int c),s1,.own (L.map D.int),.own (F.map D.int),.val (.int (L.length:Int))]
 have m:=zq1 (fa:=dVar 0) (fb:=dVar 4) (t:=t1) (a:=c) (b:=(L.length:Int)) rfl rfl (by lia)
 have f:=fm (a:=c) (b:=(L.length:Int)) (by lia)
 obtain⟨k,hk⟩:∃k:Nat,c.fmod (L.length:Int)=(k:Int):=⟨(c.fmod (L.length:Int)).toNat,by lia⟩
 rw [hk]at m f
 have kl:k<L.length:=by lia
 have E2:zv6 3 2 (d2 qR (dVar 0) (dVar 4)) t1=some (.nx [.val (.int c),s1,.own ((L.eraseIdx k).map D.int),.own ((F++[L.getD k 0]).map D.int),.val (.int (L.length:Int))]):=by
  unfold zv6
  rw [m,zay2]
  unfold zz8
  show (if 2=3 then none else if decide (-1000000≤(k:Int)∧(k:Int)≤1000000∧(F.map D.int).length<100000)=true then (ixN (L.map D.int).length (k:Int)).bind _ else none)=_
  rw [if_neg (by decide),if_pos (decide_eq_true (by simp;lia)),zad0 _ k (by simpa using kl),zay2,get_map L k kl]
  simp only [zbc0,zbj2, ← zs0]
  rfl
 have E3:=zm0 (i:=0) (zy0 (fa:=dVar 0) (fb:=dVar 4) (t:=[.val (.int c),s1,.own ((L.eraseIdx k).map D.int),.own ((F++[L.getD k 0]).map D.int),.val (.int (L.length:Int))]) (a:=c) (b:=(L.length:Int)) rfl rfl (by lia) (sm_of (by lia) (by lia))) (by simp)
 exact⟨_,_,_,_,by rw [List.length_eraseIdx_of_lt kl];lia,by simp,perm_pop F kl,(zb8 E1).trans ((zb8 E2).trans E3)⟩
theorem zao1 (s1:Sl):∀(n f:Nat) (c:Int) (L F:List Int) (s4:Sl),L.length=n→n<f→L.length≤100→F.length+n≤100→∃(c':Int) (F':List Int) (u4:Sl),F'.Perm (F++L)∧whD cdO bdO f [.val (.int c),s1,.own (L.map D.int),.own (F.map D.int),s4]=some (.nx [.val (.int c'),s1,.own [],.own (F'.map D.int),u4])
 |0,f+1,c,L,F,s4,hn,hf,_,_=>by
  cases zbc3.mp hn
  refine⟨c,F,s4,by simp,?_⟩
  have cd:cdO [.val (.int c),s1,.own (([]:List Int).map D.int),.own (F.map D.int),s4]=some false:=nn_of (f:=dVar 2) (r:=.tm (.lst (([]:List Int).map D.int))) (L:=[]) rfl rfl
  unfold whD
  rw [cd]
  rfl
 |n+1,f+1,c,L,F,s4,hn,hf,h1,h2=>by
  have ne:L≠[]:=fun z=>by rw [z]at hn;simp at hn
  have cd:cdO [.val (.int c),s1,.own (L.map D.int),.own (F.map D.int),s4]=some true:=by
   have:=nn_of (f:=dVar 2) (t:=[.val (.int c),s1,.own (L.map D.int),.own (F.map D.int),s4]) (r:=.tm (.lst (L.map D.int))) (L:=L) rfl rfl
   rw [decide_eq_false ne]at this
   exact this
  obtain⟨c1,L1,F1,u4,l1,l2,p1,e1⟩:=turn_O c s1 s4 ne h1 (by lia:F.length≤100)
  obtain⟨c',F',v4,p2,ih⟩:=zao1 s1 n f c1 L1 F1 u4 (by lia) (by lia) (by lia) (by lia)
  refine⟨c',F',v4,p2.trans p1,?_⟩
  unfold whD
  rw [cd]
  simp only [zay2,if_true,e1]
  exact ih
theorem order_is (c:Int) {m:Nat} (hm:m≤60):∃xs:List Int,xs.Perm (zb7 m)∧zg7 [.int c,.int (m:Int)]=some (.nw (xs.map D.int)):=by
 let M:Sl:=.val (.int (m:Int))
 have E1:=zaf6 (i:=2) (lr_of (f:=dVar 1) (t:=[.val (.int c),M,.no,.no,.no]) (n:=m) rfl (by lia)) (by simp)
 have E2:dAsg 3 (dT1 kLst dNil) [.val (.int c),M,.own ((zb7 m).map D.int),.no,.no]=some (.nx [.val (.int c),M,.own ((zb7 m).map D.int),.own (([]:List Int).map D.int),.no]):=rfl
 obtain⟨c',F',u4,l,E3⟩:=zao1 M m 500 c (zb7 m) [] .no (zm7 m) (by lia) (by rw [zm7];lia) (by simp;lia)
 refine⟨F',by simpa using l,?_⟩
 show (zp0 [.val (.int c),M,.no,.no,.no]).bind zm6=_
 exact bnd ((zb8 E1).trans ((zb8 E2).trans ((zb8 (show zq5 (fun _=>500) cdO bdO _=_ from E3)).trans rfl)))
theorem natsI_mem {m:Nat}{x:Int}:x∈zb7 m↔0≤x∧x<(m:Int):=by
 unfold zb7
 simp only [zba3,zbi0]
 exact⟨fun ⟨a,h,e⟩=>by subst e;lia,fun h=>⟨x.toNat,by lia,by lia⟩⟩
theorem natsI_nd (m:Nat):(zb7 m).Nodup:=by
 unfold zb7
 refine List.Pairwise.map _ (fun a b h=>?_) zbp1
 intro z;apply h;lia
theorem ord_in {o:List Int}{m:Nat} (p:o.Perm (zb7 m)):(∀k∈o,0≤k∧k<(m:Int))∧o.Nodup∧(∀k:Nat,k<m→(k:Int)∈o) :=
 ⟨fun k h=>natsI_mem.mp (p.mem_iff.mp h),p.nodup_iff.mpr (natsI_nd m),fun k h=>p.mem_iff.mpr (natsI_mem.mpr ⟨by lia,by lia⟩)⟩
theorem stays_is:zf3 []=some (.cl (.bl true)):=by kernel_rfl
end KX
set_option maxHeartbeats 1000000
namespace KX
open PySem.Spec L2 DL
theorem good_eq:zn7=dSeq pg0 (dSeq pg1 (dSeq pg2 (dSeq pg3 (dSeq pg4 (dSeq pg5 (dSeq pg6 (dSeq pg7 (dSeq pg8 (pg9))))))))):=rfl
theorem pre_is:∀k,k<4→∀v:Int,pg0 [.val (.int ((3+k:Nat):Int)),.val (.int v),.no,.no,.no,.no,.no,.no,.no,.no,.no]=some (.nx [.val (.int ((3+k:Nat):Int)),.val (.int v),.val (.int (wM (3+k):Int)),.val (mD (wS (3+k))),.no,.no,.no,.no,.no,.no,.no])
 |0,_,_=>by kernel_rfl
 |1,_,_=>by kernel_rfl
 |2,_,_=>by kernel_rfl
 |3,_,_=>by kernel_rfl
 |k+4,h,_=>absurd h (by lia)
def fnd (n:Nat):D:=.tup [.int (wM n:Int),mD (wS n),.lst [.int (n:Int),.int ((n+1:Nat):Int)]]
noncomputable def tG (n:Nat) (v:Int) (s4 s5 s6 s7 s8:Sl):Th:=[.val (.int (n:Int)),.val (.int v),.val (.int (wM n:Int)),.val (mD (wS n)),s4,s5,s6,s7,s8,.no,.no]
theorem fnd_is:∀k,k<4→∀v:Int,pg1 (tG (3+k) v .no .no .no .no .no)=some (.nx (tG (3+k) v (.dp (fnd (3+k))) .no .no .no .no))
 |0,_,_=>by kernel_rfl
 |1,_,_=>by kernel_rfl
 |2,_,_=>by kernel_rfl
 |3,_,_=>by kernel_rfl
 |k+4,h,_=>absurd h (by lia)
theorem look_is:∀k,k<4→∀v:Int,pg2 (tG (3+k) v (.dp (fnd (3+k))) .no .no .no .no)=some (.nx (tG (3+k) v (.dp (fnd (3+k))) .no .no .no .no))
 |0,_,_=>by kernel_rfl
 |1,_,_=>by kernel_rfl
 |2,_,_=>by kernel_rfl
 |3,_,_=>by kernel_rfl
 |k+4,h,_=>absurd h (by lia)
theorem look2_is:∀k,k<4→∀v:Int,pg3 (tG (3+k) v (.dp (fnd (3+k))) .no .no .no .no)=some (.nx (tG (3+k) v (.dp (fnd (3+k))) .no .no .no .no))
 |0,_,_=>by kernel_rfl
 |1,_,_=>by kernel_rfl
 |2,_,_=>by kernel_rfl
 |3,_,_=>by kernel_rfl
 |k+4,h,_=>absurd h (by lia)
theorem last_is:∀k,k<4→∀(v:Int) (s5 s6 s7 s8:Sl),pg9 (tG (3+k) v (.dp (fnd (3+k))) s5 s6 s7 s8)=some (.rt (.cl (.bl true)))
 |0,_,_,_,_,_,_=>by kernel_rfl
 |1,_,_,_,_,_,_=>by kernel_rfl
 |2,_,_,_,_,_,_=>by kernel_rfl
 |3,_,_,_,_,_,_=>by kernel_rfl
 |k+4,h,_,_,_,_,_=>absurd h (by lia)
theorem neN:∀k,k<4→kNe (.cl (.lst ((zb7 (3+k)).map D.int))) (.nw ((zb7 (3+k)).map D.int))=some (.cl (.bl false))∧kNe (.nw ((zb7 (3+k)).map D.int)) (.nw ((zb7 (3+k)).map D.int))=some (.cl (.bl false))
 |0,_=>⟨by kernel_rfl,by kernel_rfl⟩
 |1,_=>⟨by kernel_rfl,by kernel_rfl⟩
 |2,_=>⟨by kernel_rfl,by kernel_rfl⟩
 |3,_=>⟨by kernel_rfl,by kernel_rfl⟩
 |k+4,h=>absurd h (by lia)
theorem w_sz:∀k,k<4→(wS (3+k)).length=3+k+2∧wM (3+k)≤126∧0<wM (3+k):=by decide +kernel
theorem ixRow {ss:List (List Int)}{k:Int} (h0:0≤k) (h1:k<(ss.length:Int)):kIx (.cl (mD ss)) (.cl (.int k))=some (.cl (rwD (ss.getD k.toNat []))):=by
 obtain⟨j,rfl⟩:∃j:Nat,k=(j:Int):=⟨k.toNat,by lia⟩
 have hj:j<ss.length:=by lia
 show (L2.atI (ss.map rwD) (j:Int)).map (fun d=>if (true||flat d)=true then Ev.cl d else .tm d)=_
 unfold L2.atI
 rw [zad0 _ j (by simpa using hj)]
 simp [zay3 hj]
theorem up_d (b:Bool) (d:D):(upEv b (.tm d)).d=d:=by
 unfold upEv
 cases b with
 |true=>rfl
 |false=>cases h:flat d<;>simp [h,Ev.d]
theorem ix_0 {r:Ev}{d:D}{ds:List D} (h:r.d=.tup (d::ds)):∃r',kIx r (.cl (.int 0))=some r'∧r'.d=d:=by
 refine⟨if r.ok||flat d then .cl d else .tm d,?_,by split<;>rfl⟩
 have e:L2.atI (d::ds) 0=some d:=by
  unfold L2.atI
  rw [show (0:Int)=((0:Nat):Int) from rfl,zad0 _ 0 (by simp)]
  rfl
 unfold kIx
 simp only [h]
 show (L2.atI (d::ds) 0).map _=_
 rw [e]
 rfl
theorem zae6 (M:Nat) (ss:List (List Int)):zf5 M ss=(finH M ss 500 [],rstH M ss 500 []):=by
 show chs M ss 500 [] []=_
 rw [chs_eq,zbm1]
theorem good_is {k:Nat} (hk:k<4) (v:Int):zk8 [.int ((3+k:Nat):Int),.int v]=some (.cl (.bl true)):=by
 have E0:=pre_is k hk v
 have E1:=fnd_is k hk v
 have E2:=look_is k hk v
 have E3:=look2_is k hk v
 have E9:=last_is k hk v
 have N:=neN k hk
 obtain⟨z1,z2,z3⟩:=w_sz k hk
 have cv:=cv_w hk
 have wr:=w_run k hk
 have wu:=w_uq k hk
 show (zn7 [.val (.int ((3+k:Nat):Int)),.val (.int v),.no,.no,.no,.no,.no,.no,.no,.no,.no]).bind zm6=_
 rw [good_eq]
 have lr:∀(s4 s5 s6 s7 s8:Sl),(zk6 (za2 (dVar 0) dNil)) (tG (3+k) v s4 s5 s6 s7 s8)=some (.nw ((zb7 (3+k)).map D.int)):=fun s4 s5 s6 s7 s8=>lr_of (f:=dVar 0) (n:=3+k) rfl (by lia)
 generalize hn:3+k=n at *
 have ne:=cv.ne z3
 have ci:=zae7 (M:=wM n) (by lia) cv (by lia)
 rw [zae6,wr]at ci
 have fu:=zal6 cv (n:=500) (by lia)
 have ic:=own_isCh (by lia) cv z3 (n:=500) (by lia)
 have gi:=fin_gi cv (pt_w (wM n)) 500 [] 0 (HI.nil (wM n) (wS n)) (GI.nil (wS n) (wP (wM n)) (fct (wM n)))
 rw [zbm3]at gi
 have ow:=own_lets fu (by lia) cv gi ic
 rw [wr]at ic ow
 have li:=lets_is (M:=wM n) (by lia) cv.nd cv.lt (ch:=zb7 n) (by rw [zm7];lia) (fu.shs (by lia))
 rw [ow]at li
 have eq1:((zb7 (wM n)).map fun x=>tP (shr (finH (wM n) (wS n) 500 []) x))=(ownQ (wM n) (finH (wM n) (wS n) 500 [])).map qD:=by
  unfold ownQ
  rw [zbd4]
  rfl
 rw [eq1]at ci
 generalize ownQ (wM n) (finH (wM n) (wS n) 500 [])=qs at ci li
 let S4:Sl:=.dp (fnd n)
 let S5:Sl:=.val (.lst ((zb7 n).map D.int))
 let S6:Sl:=.val (.lst (qs.map qD))
 have E4:pg4 (tG n v S4 .no .no .no .no)=some (.nx (tG n v S4 S5 S6 .no .no)):=by
  unfold pg4 zw8
  rw [(zq7 (rfl:dVar 2 (tG n v S4 .no .no .no .no)=some (.cl (.int (wM n:Int)))) (rfl:dVar 3 (tG n v S4 .no .no .no .no)=some (.cl (mD (wS n))))).trans (callt (G:=zd2) (rs:=[.cl (.int (wM n:Int)),.cl (mD (wS n))]) ci rfl)]
  rfl
 let t5:Th:=tG n v S4 S5 S6 .no .no
 have c1:=bo_of ((zi4 (rfl:dVar 5 t5=some (.cl (.lst ((zb7 n).map D.int)))) (lr S4 S5 S6 .no .no)).trans N.1)
 have c2:=bo_of ((zi4 ((t4_of (rfl:dVar 2 t5=some (.cl (.int (wM n:Int)))) (rfl:dVar 3 t5=some (.cl (mD (wS n)))) (rfl:dVar 5 t5=some (.cl (.lst ((zb7 n).map D.int)))) (rfl:dVar 6 t5=some (.cl (.lst (qs.map qD))))).trans (zx0 (G:=zg0) (rs:=[.cl (.int (wM n:Int)),.cl (mD (wS n)),.cl (.lst ((zb7 n).map D.int)),.cl (.lst (qs.map qD))]) li rfl)) (rfl:dC (.bl true) t5=some (.cl (.bl true)))).trans (show zal3 (.cl (.bl true)) (.cl (.bl true))=some (.cl (.bl false)) from rfl))
 have E5:pg5 t5=some (.nx t5):=grd' (zar8 c1 c2)
 obtain⟨o,po,eo⟩:=order_is v (m:=n+2) (by lia)
 obtain⟨oi,nd,oa⟩:=ord_in po
 have ol:o.length=n+2:=by rw [po.length_eq,zm7]
 let S7:Sl:=.own (o.map D.int)
 let S7':Sl:=.val (.lst (o.map D.int))
 have E6:pg6 t5=some (.nx (tG n v S4 S5 S6 S7 .no)):=by
  have a:=(zq7 (rfl:dVar 1 t5=some (.cl (.int v))) (show (d2 qA' (dVar 0) (dC (.int 2))) t5=some (.cl (.int ((n+2:Nat):Int))) from rfl)).trans (show zd3 zg7 [.cl (.int v),.cl (.int ((n+2:Nat):Int))]=some (.nw (o.map D.int)) by
   unfold zd3
   rw [show zg7 ([Ev.cl (.int v),.cl (.int ((n+2:Nat):Int))].map Ev.d)=_ from eo]
   rfl)
  exact zaf6 (i:=7) a (show 7<11 by decide)
 rw [← z1]at oi oa
 let S8:Sl:=.own ((ordS (wS n) o).map rwD)
 have E7:pg7 (tG n v S4 S5 S6 S7 .no)=some (.nx (tG n v S4 S5 S6 S7' S8)):=by
  have a:=zs1 (e:=D.int) (p:=fun _=>true) (g:=fun k=>rwD ((wS n).getD k.toNat [])) (ft:=zc7) (fe:=d2 kIx (dVar 1) (dVar 0)) (t:=tG n v S4 S5 S6 S7' .no) (f:=dVar 7) (r:=.cl (.lst (o.map D.int))) (xs:=o) (cap:=[3]) (b:=true) (c:=[mD (wS n)]) rfl rfl rfl (by lia) (fun _ _=>rfl)
   (fun x hx _=>⟨_,(zi4 (rfl:dVar 1 [.val (.int x),.val (mD (wS n))]=some (.cl (mD (wS n)))) (rfl:dVar 0 [.val (.int x),.val (mD (wS n))]=some (.cl (.int x)))).trans (ixRow (oi x hx).1 (oi x hx).2),rfl⟩) (.inr rfl)
  rw [zbb5.mpr fun _ _=>rfl]at a
  have e:(o.map fun k=>rwD ((wS n).getD k.toNat []))=(ordS (wS n) o).map rwD:=by
   unfold ordS
   rw [zbd4]
   rfl
  rw [e]at a
  exact zaf6 (i:=8) a (show 8<11 by decide)
 have cw:=cv_ord cv oi oa
 have ol2:(ordS (wS n) o).length=n+2:=by unfold ordS;rw [zba6,ol]
 have co:=zae7 (M:=wM n) (by lia) cw (by lia)
 rw [zae6]at co
 have mp:=zar7 ne oi nd oa 500 [] wu
 rw [wr]at mp
 have rg:=zag7 (M:=wM n) (cw.ne z3) 500 []
 rw [ol2]at rg
 generalize rstH (wM n) (ordS (wS n) o) 500 []=ch at co mp rg
 generalize ((zb7 (wM n)).map fun x=>tP (shr (finH (wM n) (ordS (wS n) o) 500 []) x))=sh at co
 let t8:Th:=tG n v S4 S5 S6 S7' S8
 have cl:ch.length=n:=by
  have:=congrArg List.length mp
  rwa [zba6,zm7]at this
 have E8:pg8 t8=some (.nx t8):=by
  have a1:=(zq7 (rfl:dVar 2 t8=some (.cl (.int (wM n:Int)))) (rfl:dVar 8 t8=some (.tm (mD (ordS (wS n) o))))).trans (show zd3 zd2 [.cl (.int (wM n:Int)),.tm (mD (ordS (wS n) o))]=some (upEv ([Ev.cl (.int (wM n:Int)),.tm (mD (ordS (wS n) o))].all Ev.ok) (.tm (.tup [.lst (ch.map D.int),.lst sh]))) by
   unfold zd3
   rw [show zd2 ([Ev.cl (.int (wM n:Int)),.tm (mD (ordS (wS n) o))].map Ev.d)=_ from co]
   rfl)
  obtain⟨r,hr,rd⟩:=ix_0 (up_d ([Ev.cl (.int (wM n:Int)),.tm (mD (ordS (wS n) o))].all Ev.ok) (.tup [.lst (ch.map D.int),.lst sh]))
  have a2:=(zi4 a1 (rfl:dC (.int 0) t8=some (.cl (.int 0)))).trans hr
  have a:=zs1 (e:=D.int) (p:=fun _=>true) (g:=fun k=>D.int (o.getD k.toNat 0)) (ft:=zc7) (fe:=d2 kIx (dVar 1) (dVar 0)) (t:=t8) (r:=r) (xs:=ch) (cap:=[7]) (b:=true) (c:=[.lst (o.map D.int)]) a2 rd rfl (by lia) (fun _ _=>rfl)
   (fun x hx _=>⟨_,zx8 o x.toNat (rfl:dVar 1 [.val (.int x),.val (.lst (o.map D.int))]=some (.cl (.lst (o.map D.int)))) (rfl:dVar 0 [.val (.int x),.val (.lst (o.map D.int))]=some (.cl (.int x))) (by have:=rg x hx;lia) rfl (show D.int x=D.int (x.toNat:Int) by have:=rg x hx;rw [show ((x.toNat:Nat):Int)=x by lia]),rfl⟩) (.inl (by
    rw [show (fun k:Int=>D.int (o.getD k.toNat 0))=D.int ∘ (fun k:Int=>o.getD k.toNat 0) from rfl, ← zbd4]
    exact zg4 _))
  rw [zbb5.mpr fun _ _=>rfl,show (fun k:Int=>D.int (o.getD k.toNat 0))=D.int ∘ (fun k:Int=>o.getD k.toNat 0) from rfl, ← zbd4,mp]at a
  exact grd' (bo_of ((zi4 a (lr S4 S5 S6 S7' S8)).trans N.2))
 exact bnd ((zb8 E0).trans ((zb8 E1).trans ((zb8 E2).trans ((zb8 E3).trans ((zb8 E4).trans ((zb8 E5).trans ((zb8 E6).trans ((zb8 E7).trans ((zb8 E8).trans (E9 S5 S6 S7' S8))))))))))
theorem cn_ok (s0:Sl) (c:Int) (k:Nat) (hk:k<100000):∃x:Int,cnL [s0,.val (.int (k:Int)),.val (.int c)]=some (.cl (.int x)):=by
 obtain⟨m,hm,_⟩:=mixed_ok c k hk
 have f3:=@fm c 2 (by decide)
 have hm':dT1 (zd3 zj2) (za2 (dVar 2) (za2 (dVar 1) dNil)) [s0,.val (.int (k:Int)),.val (.int c)]=some (.cl (.int m)):=(zq7 (ra:=.cl (.int c)) (rb:=.cl (.int (k:Int))) rfl rfl).trans (zx0 hm rfl)
 have hp:=zq7 (k:=kLst) (zy0 (t:=[s0,.val (.int (k:Int)),.val (.int c)]) (fa:=dVar 2) (fb:=dC (.int 2)) (a:=c) (b:=2) rfl rfl (by decide) (by decide +kernel)) hm'
 have hp':=hp.trans (show kLst [.cl (.int (c.fdiv 2)),.cl (.int m)]=some (.nw ([c.fdiv 2,m].map D.int)) from rfl)
 have hi:(d2 qR (dVar 2) (dC (.int 2))) [s0,.val (.int (k:Int)),.val (.int c)]=some (.cl (.int (c.fmod 2))):=zq1 rfl rfl (by decide)
 rcases (show c.fmod 2=0∨c.fmod 2=1 by lia) with z | z
 ·rw [z]at hi
  exact⟨_,zx8 [c.fdiv 2,m] 0 hp' hi (by simp) rfl rfl⟩
 ·rw [z]at hi
  exact⟨_,zx8 [c.fdiv 2,m] 1 hp' hi (by simp) rfl rfl⟩
theorem law_true (ns:List Int) (hl:ns.length≤63) (hb:∀n∈ns,n.natAbs<bndS):G_law [.lst (ns.map D.int)]=some (.cl (.bl true)):=by
 let N:Sl:=.val (.lst (ns.map D.int))
 let t0:Th:=[N,.no,.no]
 have E1:dIfS (dNot (dTr (dT1 (zd3 zf3) dNil))) (dRet (dC (.bl false))) zi3 t0=some (.nx t0):=by
  refine grd' (not_of (b:=true) (zam2 ?_))
  show zd3 zf3 []=_
  unfold zd3
  rw [show zf3 ([].map Ev.d)=_ from stays_is]
  rfl
 obtain⟨t',e',u1,u2,rfl⟩:=for_I0 (k:=za6 1) (b:=bdL) (n:=4) (f:=fun (j:Nat)=>D.int (3+(j:Int))) (P:=fun _ t => ∃(u1 u2:Sl),t=[N,u1,u2]) (fun j hj t ⟨u1,u2,et⟩=>by
  subst et
  have ej:(3:Int)+(j:Int)=((3+j:Nat):Int):=by lia
  rw [ej]
  obtain⟨c,ec⟩:=cell_ok ns hl (3+j) (by lia)
  let t1:Th:=[N,.val (.int ((3+j:Nat):Int)),u2]
  let t2:Th:=[N,.val (.int ((3+j:Nat):Int)),.val (.int c)]
  have F1:dAsg 2 (dT1 (zd3 zi6) (za2 (dVar 0) (za2 (dVar 1) dNil))) t1=some (.nx t2):=zm0 (i:=2) ((zq7 (rfl:dVar 0 t1=some (.cl (.lst (ns.map D.int)))) (rfl:dVar 1 t1=some (.cl (.int ((3+j:Nat):Int))))).trans (zx0 (G:=zi6) (rs:=[.cl (.lst (ns.map D.int)),.cl (.int ((3+j:Nat):Int))]) ec rfl)) (by simp [t1])
  obtain⟨x,hx⟩:=cn_ok N c (3+j) (by lia)
  have F2:=not_of (zam2 ((zq7 (rfl:dVar 1 t2=some (.cl (.int ((3+j:Nat):Int)))) hx).trans (zx0 (G:=zk8) (rs:=[.cl (.int ((3+j:Nat):Int)),.cl (.int x)]) (good_is hj x) rfl)))
  exact⟨t1,t2,rfl,(zb8 F1).trans (grd' F2),_,_,rfl⟩) t0 ⟨_,_,rfl⟩
 have E2:zae0 (za6 1) (dC (.int 3)) (dC (.int 7)) bdL t0=_:=(zaj8 (k:=4) (rfl:dC (.int 3) t0=some (.cl (.int 3))) (rfl:dC (.int 7) t0=some (.cl (.int 7))) (by decide) (by decide +kernel)).trans e'
 show (g_law t0).bind zm6=_
 exact bnd ((zb8 E1).trans ((zb8 E2).trans rfl))
end KX
set_option maxHeartbeats 4000000
namespace KX
open PySem.Spec L2 DL
def spLaw (K:zax7):Sp:=spD K G_law
theorem all_mk {P:Program}{w:World}{K:zax7}{h:Heap}{mg:Str→Option Value}{fa:Addr} (X:K.In h) (G:h.Ns mainGlobals mg) (hfa:mg "law"=some (.ref fa)) {f0:Addr}{f1:Addr}{f2:Addr}{f3:Addr}{f4:Addr}{f5:Addr}{f6:Addr}{f7:Addr}{f8:Addr}{f9:Addr}{f10:Addr}{f11:Addr}{f13:Addr}{f14:Addr}{f15:Addr}{f16:Addr}{f17:Addr}
  (h0:Hv K "common_factor" zf6 f0)
  (h1:Hv K "fraction" zn5 f1)
  (h2:Hv K "harmonic" zn4 f2)
  (h3:Hv K "over_one_bottom" ze4 f3)
  (h4:Hv K "lacking_things" ze9 f4)
  (h5:Hv K "choose_by_new" zf7 f5)
  (h6:Hv K "is_choice" zl4 f6)
  (h7:Hv K "are_payable" zi2 f7)
  (h8:Hv K "lets_choice" zi1 f8)
  (h9:Hv K "worst_choice" zg9 f9)
  (h10:Hv K "_law_cell" zn3 f10)
  (h11:Hv K "_law_mixed" zl3 f11)
  (h13:Hv K "_law_order" zl2 f13)
  (h14:Hv K "_law_sets_due" zh0 f14)
  (h15:Hv K "_law_good" zn2 f15)
  (h16:Hv K "_law_stays" zl1 f16)
  (h17:Hv K "law" s_law f17)
  (z_abs:zbd0 K mainGlobals "abs"=some none) (z_all:zbd0 K mainGlobals "all"=some none) (z_any:zbd0 K mainGlobals "any"=some none) (z_isinstance:zbd0 K mainGlobals "isinstance"=some none) (z_len:zbd0 K mainGlobals "len"=some none) (z_list:zbd0 K mainGlobals "list"=some none) (z_max:zbd0 K mainGlobals "max"=some none) (z_range:zbd0 K mainGlobals "range"=some none) (z_set:zbd0 K mainGlobals "set"=some none) (z_sorted:zbd0 K mainGlobals "sorted"=some none) (z_sum:zbd0 K mainGlobals "sum"=some none) (z_tuple:zbd0 K mainGlobals "tuple"=some none)   :
  TbOk K []∧∃fd:FuncData,(∀(s:zaz0) (v:Value),BindsTo s fd ⟨[v],[]⟩ [("_law_script",v)])∧∀base:BHeap,base.tabs=tbOf K []→K.In base→base.Ns mainGlobals mg→(∀x∈([]:List Str),∀c P,zbs9 K x=some (c,P)→zbr4 base c P)→FnOk P w K mg base CX0 7 fa fd ["_law_script"] (spLaw K):=by
 have e:=hfa.symm.trans (h17.mg X G)
 cases e
 have bu:Blt mg:=⟨zbb0 X G z_abs,zbb0 X G z_all,zbb0 X G z_any,zbb0 X G z_isinstance,zbb0 X G z_len,zbb0 X G z_list,zbb0 X G z_max,zbb0 X G z_range,zbb0 X G z_set,zbb0 X G z_sorted,zbb0 X G z_sum,zbb0 X G z_tuple⟩
 obtain⟨_,u0⟩:=h0.fn
 have d0:Df K mg "common_factor" zf6 ["one", "other"] f0 _:=⟨u0,h0.mg X G,zw1 u0 fun _ _ _ _ _ _ _ _=>rfl⟩
 obtain⟨_,u1⟩:=h1.fn
 have d1:Df K mg "fraction" zn5 ["top", "bottom"] f1 _:=⟨u1,h1.mg X G,zw1 u1 fun _ _ _ _ _ _ _ _=>rfl⟩
 obtain⟨_,u2⟩:=h2.fn
 have d2:Df K mg "harmonic" zn4 ["many"] f2 _:=⟨u2,h2.mg X G,zaf1 u2 fun _ _ _ _ _ _ _=>rfl⟩
 obtain⟨_,u3⟩:=h3.fn
 have d3:Df K mg "over_one_bottom" ze4 ["parts"] f3 _:=⟨u3,h3.mg X G,zaf1 u3 fun _ _ _ _ _ _ _=>rfl⟩
 obtain⟨_,u4⟩:=h4.fn
 have d4:Df K mg "lacking_things" ze9 ["many", "sets", "numbers"] f4 _:=⟨u4,h4.mg X G,zax0 u4 fun _ _ _ _ _ _ _ _ _=>rfl⟩
 obtain⟨_,u5⟩:=h5.fn
 have d5:Df K mg "choose_by_new" zf7 ["many", "sets"] f5 _:=⟨u5,h5.mg X G,zw1 u5 fun _ _ _ _ _ _ _ _=>rfl⟩
 obtain⟨_,u6⟩:=h6.fn
 have d6:Df K mg "is_choice" zl4 ["many", "sets", "numbers"] f6 _:=⟨u6,h6.mg X G,zax0 u6 fun _ _ _ _ _ _ _ _ _=>rfl⟩
 obtain⟨_,u7⟩:=h7.fn
 have d7:Df K mg "are_payable" zi2 ["sets", "tops", "bottom"] f7 _:=⟨u7,h7.mg X G,zax0 u7 fun _ _ _ _ _ _ _ _ _=>rfl⟩
 obtain⟨_,u8⟩:=h8.fn
 have d8:Df K mg "lets_choice" zi1 ["many", "sets", "choice", "shares"] f8 _:=⟨u8,h8.mg X G,binds4 u8 fun _ _ _ _ _ _ _ _ _ _=>rfl⟩
 obtain⟨_,u9⟩:=h9.fn
 have d9:Df K mg "worst_choice" zg9 ["size"] f9 _:=⟨u9,h9.mg X G,zaf1 u9 fun _ _ _ _ _ _ _=>rfl⟩
 obtain⟨_,u10⟩:=h10.fn
 have d10:Df K mg "_law_cell" zn3 ["_law_script", "_law_k"] f10 _:=⟨u10,h10.mg X G,zw1 u10 fun _ _ _ _ _ _ _ _=>rfl⟩
 obtain⟨_,u11⟩:=h11.fn
 have d11:Df K mg "_law_mixed" zl3 ["_law_cell_here", "_law_k"] f11 _:=⟨u11,h11.mg X G,zw1 u11 fun _ _ _ _ _ _ _ _=>rfl⟩
 obtain⟨_,u13⟩:=h13.fn
 have d13:Df K mg "_law_order" zl2 ["_law_cell_here", "_law_many"] f13 _:=⟨u13,h13.mg X G,zw1 u13 fun _ _ _ _ _ _ _ _=>rfl⟩
 obtain⟨_,u14⟩:=h14.fn
 have d14:Df K mg "_law_sets_due" zh0 ["_law_size"] f14 _:=⟨u14,h14.mg X G,zaf1 u14 fun _ _ _ _ _ _ _=>rfl⟩
 obtain⟨_,u15⟩:=h15.fn
 have d15:Df K mg "_law_good" zn2 ["_law_size", "_law_cell_here"] f15 _:=⟨u15,h15.mg X G,zw1 u15 fun _ _ _ _ _ _ _ _=>rfl⟩
 obtain⟨_,u16⟩:=h16.fn
 have d16:Df K mg "_law_stays" zl1 [] f16 _:=⟨u16,h16.mg X G,binds0 u16 fun _ _ _ _ _ _=>rfl⟩
 obtain⟨_,u17⟩:=h17.fn
 have d17:Df K mg "law" s_law ["_law_script"] fa _:=⟨u17,h17.mg X G,zaf1 u17 fun _ _ _ _ _ _ _=>rfl⟩
 refine⟨tbOk_nil,_,Hv.bt u17 fun _ _ _ _ _ _ _=>rfl,fun base ht _ _ hCd=>?_⟩
 have F_common_factor:=zs7 (P:=P) (w:=w) (base:=base) d0.fn bu
 have F_fraction:=zah7 (P:=P) (w:=w) (base:=base) d1.fn bu (d0.cal F_common_factor)
 have F_harmonic:=zah6 (P:=P) (w:=w) (base:=base) d2.fn bu (d1.cal F_fraction)
 have F_over_one_bottom:=zq0 (P:=P) (w:=w) (base:=base) d3.fn bu (d0.cal F_common_factor)
 have F_lacking_things:=zr3 (P:=P) (w:=w) (base:=base) d4.fn bu
 have F_choose_by_new:=zs8 (P:=P) (w:=w) (base:=base) d5.fn bu (d4.cal F_lacking_things)
 have F_is_choice:=zac5 (P:=P) (w:=w) (base:=base) d6.fn bu (d4.cal F_lacking_things)
 have F_are_payable:=zw6 (P:=P) (w:=w) (base:=base) d7.fn bu (d2.cal F_harmonic)
 have F_lets_choice:=zw5 (P:=P) (w:=w) (base:=base) d8.fn bu (d6.cal F_is_choice) (d3.cal F_over_one_bottom) (d7.cal F_are_payable)
 have F_worst_choice:=zu6 (P:=P) (w:=w) (base:=base) d9.fn bu
 have F_law_cell:=zah5 (P:=P) (w:=w) (base:=base) d10.fn bu
 have F_law_mixed:=zac4 (P:=P) (w:=w) (base:=base) d11.fn bu
 have F_law_order:=zac3 (P:=P) (w:=w) (base:=base) d13.fn bu
 have F_law_sets_due:=zu7 (P:=P) (w:=w) (base:=base) d14.fn bu
 have F_law_good:=zah4 (P:=P) (w:=w) (base:=base) d15.fn bu (d14.cal F_law_sets_due) (d9.cal F_worst_choice) (d5.cal F_choose_by_new) (d8.cal F_lets_choice) (d13.cal F_law_order)
 have F_law_stays:=zac2 (P:=P) (w:=w) (base:=base) d16.fn bu (d9.cal F_worst_choice)
 have F_law:=ok_law (P:=P) (w:=w) (base:=base) d17.fn bu (d16.cal F_law_stays) (d10.cal F_law_cell) (d11.cal F_law_mixed) (d15.cal F_law_good)
 exact F_law
theorem walk {l:zbp7}{q:Program}{loose:List Str}{XP:(Str→Option Value)→Heap→Prop}{YP:World→Heap→Prop}{d:DefRec}{K:Params→zax7} (hn:l.most=some 63) (hdf:d.params.defaults=[])
  (hY:∀(w:World) (h:Heap),YP w h→(K w.params).In h) (hrec:∀x∈([]:List Str),∃dr,(recsOf q).find? (fun e=>e.name == x)=some dr)
  (Fx:∀(w:World) (mg:Str→Option Value) (fa:Addr) (h:Heap),(K w.params).In h→h.Ns mainGlobals mg→mg d.name=some (.ref fa) →
   TbOk (K w.params) []∧∃fd:FuncData,(∀(s:zaz0) (u:Value),BindsTo s fd ⟨[u],[]⟩ [("_law_script",u)])∧∀base:BHeap,base.tabs=tbOf (K w.params) []→(K w.params).In base→base.Ns mainGlobals mg→(∀x∈([]:List Str),∀c P,zbs9 (K w.params) x=some (c,P)→zbr4 base c P)→FnOk l.prog w (K w.params) mg base CX0 7 fa fd ["_law_script"] (spLaw (K w.params))) :
  zbs6 q loose XP YP l.row.toRowW d [] (fun f vs=>PySem.call f vs) :=
 L2.walk_ofT (n:=63) (k:=7) (x := "_law_script") (names:=[]) (CX:=fun _=>CX0) (sp:=fun w=>spLaw (K w.params)) hn (by decide) hdf ⟨rfl,by decide,by decide⟩ hY hrec Fx
  (fun _ H a ns hl hb hS=>⟨[],[.lst (ns.map .int)],.cl (.bl true),fun p hp=>(by cases hp),.cons (.lst (by rw [hide_nil];exact hS) (Reps.ints ns)) .nil,law_true ns hl hb,fun v H' _ q=>by cases q;rfl⟩) fun _ _ _ _ _ z=>z
end KX
open PySem PySem.W PyProof.Rows
set_option maxRecDepth 100000 in
set_option maxHeartbeats 0 in
theorem PySem.Challenge.cw_nearenough_k30_worst_choices_holds : PySem.Challenge.rw_nearenough_k30_worst_choices.Holds := by
 w_on;o_law;k_head;(case hw=>w_witness2)
 k_fill
 refine KX.walk (l:=PySem.Challenge.rw_nearenough_k30_worst_choices) rfl rfl (fun w h Y=>by first | exact PySem.W.kIn_of Y | exact PySem.W.km_in_of Y) (by intro x hx;simp at hx) ?F
 case F =>
  intro w mg fa h KI G hmg
  refine' KX.all_mk KI G hmg ?h0 ?h1 ?h2 ?h3 ?h4 ?h5 ?h6 ?h7 ?h8 ?h9 ?h10 ?h11 ?h13 ?h14 ?h15 ?h16 ?h17 ?z_abs ?z_all ?z_any ?z_isinstance ?z_len ?z_list ?z_max ?z_range ?z_set ?z_sorted ?z_sum ?z_tuple
  all_goals try (refine' DL.Hv.mk ?a ?l ?c ?k;(case a=>k_is);(case l=>k_is);(case c=>k_is);(case k=>k_is))
  all_goals try k_is

