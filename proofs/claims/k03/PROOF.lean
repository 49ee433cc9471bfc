import PyProof.Rows.All
import Wide.All
import OpenK.AllK
import Wide.FinOn
import PyProof.EqAt
import PyProof.EqKinds
import PyProof.NeKinds
import PyProof.TupleCall
import PyProof.EnumFor
import PyProof.EnumMake
import PyProof.CompFree
import PyProof.Rows.SumAny
import PyProof.Rows.Range3
import PyProof.CompUse
import KE.LcSums
import PyProof.ListRange
import PyProof.Rows.MinMaxN
import KE.KIntText
import PyProof.StrCalls2
import PyProof.StrBlockH
import PyProof.Rows.ZipForRows
import PyProof.Rows.SortRev
import KE.KRevSl
import KE.KMinKey
import PyProof.Rows.SetFrom
import PyProof.Rows.SeqMore2
import Lean
import PyProof.WalkInts
import KE.KLam
import KE.KNest
import PyProof.Rows.SortRuns
import KE.KSortKey
import PyProof.Conv_int_bool
import KE.KListMore
import PyProof.DictWalks
import KE.KSortTup
import KE.KDictList
import KE.KRevIter
import PyProof.SetKind
import PyProof.SetScanFacts
import PyProof.DictUpdate
import PyProof.FString
import PyProof.StrLawsTight
import PyProof.StrLawsChain
import PyProof.Draws
import PySem.Challenge.RW_nearenough_k03_webs_shown_and_read
noncomputable section
open PySem.F renaming plainAttrs_str→zbi1,slot_list_append→zbk5,type_list_append→zbk6,plainAttrs_list→zbl1,plain_list_iadd→zbl3
open Int renaming le_refl→zbf8,toNat_natCast→zbi3,mul_le_mul_of_nonneg_right→zbi5,le_trans→zbj6,eq_ofNat_of_zero_le→zbl5
open Array renaming getElem?_toList→zba9,toList_append→zbb2,perm_iff_toList_perm→zbd2,toList_extract→zbe5,getElem?_eq_getElem→zbf3,length_toList→zbg1,getElem?_eq_none→zbi2,toList_inj→zbp6
open Bool renaming false_ne_true→zba1,and_eq_true→zba6,false_eq_true→zbb4,eq_iff_iff→zbe8,not_eq_true'→zbg9,or_eq_true→zbm5,or_false→zbn8,false_or→zbn9,and_true→zbo0,eq_false_iff→zbo6
open PyProof.Rows renaming wpS_bind→zaz8,wpS_pure→zba3
open Nat renaming le_refl→zaz7,lt_of_lt_of_le→zba5,ne_of_lt→zbb9,lt_irrefl→zbd1,add_sub_cancel_left→zbd6,le_trans→zbd7,pow_le_pow_right→zbh0,ne_of_gt→zbh5,lt_trans→zbh6,zero_le→zbh7,lt_succ_of_lt→zbi4,le_of_lt→zbj2,add_assoc→zbj9,zero_add→zbk7,lt_succ_self→zbl8,le_succ→zbn6,add_sub_cancel→zbn7
open Option renaming bind_some→zaz3,map_some→zbf7,isSome_some→zbn5,getD_none→zbo7,getD_some→zbp4,map→zbt2
open PySem renaming wpAny_bind→zay9,Shared→zaz5,wpAny_pure→zba0,starEach→zba7,backTo→zbf6
open PySem.Heap renaming get?_push_of_some→zay7,lt_size→zaz9,get?_push_size→zba8,get?_update_other→zbe1,get?_update_self→zbi7,size_push→zbi9
open List renaming mem_append_right→zay4,mem_cons_of_mem→zay5,mem_append_left→zay6,mem_append→zay8,mem_cons_self→zaz0,getElem?_eq_getElem→zaz1,mem_cons→zaz2,append_assoc→zaz4,take_append_drop→zaz6,map_cons→zba2,nodup_append→zba4,mem_singleton→zbb0,replicate→zbb1,size_toArray→zbb3,nodup_cons→zbb5,mem_of_mem_drop→zbb6,take_of_length_le→zbb7,getElem?_eq_some_iff→zbb8,lookup_cons→zbc0,getElem?_append_right→zbc1,mem_of_getElem?→zbc2,length_map→zbc4,pairwise_append→zbc5,getElem?_append_left→zbc6,drop_eq_getElem_cons→zbc7,drop_of_length_le→zbc8,mem_of_mem_take→zbc9,perm_append_comm→zbd0,length_append→zbd4,pairwise_cons→zbd5,mem_map→zbd8,append_nil→zbe0,length_cons→zbe2,getElem_mem→zbe3,nil_append→zbe4,flatten_cons→zbe6,replicate_succ→zbe7,map_map→zbf1,getD_eq_getElem?_getD→zbf2,nodup_nil→zbf4,range→zbf5,length_eq_zero_iff→zbf9,getElem?_cons_succ→zbg0,drop_append_of_le_length→zbg2,take_append_of_le_length→zbg3,any_cons→zbg4,all_eq_true→zbg5,find?_cons→zbg6,getElem?_map→zbg7,reverse_perm→zbg8,mem_iff_getElem→zbh1,pairwise_iff_getElem→zbh2,length_pos_iff→zbh3,getElem?_replicate→zbh4,getElem?_drop→zbh8,getElem?_set_self→zbh9,all_cons→zbi0,length_replicate→zbi6,drop_drop→zbj0,drop_take→zbj1,length_take→zbj3,length_drop→zbj4,cons_append→zbj5,extract→zbj7,filterMap_cons→zbj8,mem_filterMap→zbk0,sublist_append_right→zbk1,zip_cons_cons→zbk2,getElem?_take_of_lt→zbk3,take_sublist→zbk9,getElem_drop→zbl0,pairwise_singleton→zbl2,getElem?_cons_zero→zbl4,sublist_cons_self→zbl7,drop_append→zbm0,not_mem_nil→zbm1,concat_eq_append→zbm2,of_mem_zip→zbm3,foldl_cons→zbm4,map_append→zbm6,getElem?_set_ne→zbm7,map_nil→zbm8,reverse_reverse→zbm9,mem_range→zbn0,map_congr_left→zbn1,reverse_append→zbn2,flatten_append→zbn3,toList_toArray→zbn4,getElem_take→zbo3,ext_getElem?→zbo4,pairwise_map→zbo5,filter_cons→zbo8,drop_length→zbo9,map_fst_zip→zbp0,map_snd_zip→zbp1,ext_getElem→zbp2,foldl→zbs4
open PySem.W renaming Frag→zay3,mg_none_of→zbc3,nsIn→zbd3,keepIn→zbd9,fnOf→zbe9,kia_one→zbf0,findIn→zbi8,codeIn→zbk4,methodObj→zbk8,cellsFrom_some→zbl6,mg_of→zbl9,specialIn→zbo1,kitx_dict→zbo2,kat_cons→zbp5,instObj→zbp8,OpenLaw→zbq1,kat_yes→zbq4,kat_go→zbr2,kat_no→zbr3,CodeHd→zbr9,WalkO→zbs7,tabIn→zbt3
open PySem PyProof.Rows
set_option Elab.async false
set_option linter.all false
set_option maxRecDepth 100000
namespace L2
open PySem.Spec
abbrev Key:=Sum Int Str
def zan9:Key→Value→Bool
 |.inl k,v=>Value.isInt k v
 |.inr x,v=>Value.isStrOf x v
def keyH (w:World):Key→Int
 |.inl k=>hashInt k
 |.inr x=>hashStr w x
theorem zd3:∀ {k:Key}{v:Value},zan9 k v=true→(∃i t,k=Sum.inl i∧v=Value.int i t)∨(∃x t,k=Sum.inr x∧v=Value.str x t)
 |.inl i,v,h=>by
  obtain⟨t,e⟩:=Value.isInt_shape (k:=i) (v:=v) h
  exact .inl ⟨i,t,rfl,e⟩
 |.inr x,v,h=>by
  obtain⟨t,e⟩:=Value.isStrOf_shape (x:=x) (v:=v) h
  exact .inr ⟨x,t,rfl,e⟩
theorem zat7 (i:Int) (t:Tok):zan9 (.inl i) (.int i t)=true:=by simp [zan9,Value.isInt]
theorem zat6 (x:Str) (t:Tok):zan9 (.inr x) (.str x t)=true:=by simp [zan9,Value.isStrOf]
theorem key_ll (a b:Int):decide ((Sum.inl a:Key)=Sum.inl b)=(a == b):=by
 by_cases e:a=b
 ·subst e;simp
 ·have h : ¬ (Sum.inl a:Key)=Sum.inl b:=fun q=>e (Sum.inl.inj q)
  rw [decide_eq_false h]
  exact (beq_eq_false_iff_ne.mpr e).symm
theorem key_rr (a b:Str):decide ((Sum.inr a:Key)=Sum.inr b)=decide (a=b):=by
 by_cases e:a=b
 ·subst e;simp
 ·have h : ¬ (Sum.inr a:Key)=Sum.inr b:=fun q=>e (Sum.inr.inj q)
  rw [decide_eq_false h,decide_eq_false e]
theorem key_lr (a:Int) (b:Str):decide ((Sum.inl a:Key)=Sum.inr b)=false:=decide_eq_false (fun q=>nomatch q)
theorem key_rl (a:Str) (b:Int):decide ((Sum.inr a:Key)=Sum.inl b)=false:=decide_eq_false (fun q=>nomatch q)
noncomputable def zf5 (prog:Program) (w:World):PySem.KeyKind prog w Key where
 is:=zan9
 hash:=keyH w
 inj:=fun v a b ha hb=>by
  rcases zd3 ha with ⟨i,t,rfl,rfl⟩ | ⟨x,t,rfl,rfl⟩
  ·rcases zd3 hb with ⟨j,u,rfl,e⟩ | ⟨y,u,rfl,e⟩
   ·injection e with e1 _;rw [e1]
   ·exact nomatch e
  ·rcases zd3 hb with ⟨j,u,rfl,e⟩ | ⟨y,u,rfl,e⟩
   ·exact nomatch e
   ·injection e with e1 _;rw [e1]
 byValue:=fun k v h=>by
  rcases zd3 h with ⟨i,t,rfl,rfl⟩ | ⟨x,t,rfl,rfl⟩<;>rfl
 pyHash:=fun hv h=>by
  rcases zd3 hv with ⟨i,t,rfl,rfl⟩ | ⟨x,t,rfl,rfl⟩
  ·exact wpAny_pyHash_int h
  ·exact wpAny_pyHash_str h
 eqBool:=fun hu hv h=>by
  rcases zd3 hu with ⟨i,t,rfl,rfl⟩ | ⟨x,t,rfl,rfl⟩
  ·rcases zd3 hv with ⟨j,u,rfl,rfl⟩ | ⟨y,u,rfl,rfl⟩
   ·rw [key_ll]at h;exact wpAny_eqBool_int h
   ·rw [key_lr]at h;exact SeqAt.EqAt.int_str i t y u _ _ _ _ h
  ·rcases zd3 hv with ⟨j,u,rfl,rfl⟩ | ⟨y,u,rfl,rfl⟩
   ·rw [key_rl]at h;exact SeqAt.EqAt.str_int x t j u _ _ _ _ h
   ·rw [key_rr]at h;exact wpAny_eqBool_str h
 «strs»:=fun k x t v h=>by
  rcases zd3 h with ⟨i,u,rfl,e⟩ | ⟨y,u,rfl,e⟩
  ·exact nomatch e
  ·injection e with e1 _
   subst e1
   cases v<;>rfl
theorem zag7 (prog:Program) (w:World) (i:Int) (t:Tok):(zf5 prog w).is (.inl i) (.int i t)=true:=zat7 i t
theorem zag6 (prog:Program) (w:World) (x:Str) (t:Tok):(zf5 prog w).is (.inr x) (.str x t)=true:=zat6 x t
inductive V where
 |non | bl (b:Bool) |int (i:Int) |str (x:Str) |byt (b:Array UInt8) |flt (b:UInt64) |ref (a:Addr) |ty (n:String)
 deriving DecidableEq
noncomputable def RelV:V→Value→Prop
 |.non,u=>u=Value.none
 |.bl b,u=>u=Value.bool b
 |.int i,u => ∃t,u=Value.int i t
 |.str x,u => ∃t,u=Value.str x t
 |.byt b,u => ∃t,u=Value.bytes b t
 |.flt b,u => ∃t,u=Value.float b t
 |.ref a,u=>u=Value.ref a
 |.ty n,u=>u=Value.type n
abbrev Vals:List V→List Value→Prop:=Paired RelV
theorem Vals.length {xs:List V}{us:List Value} (r:Vals xs us):xs.length=us.length:=Paired.length r
theorem Vals.get:∀ {xs:List V}{us:List Value}{i:Nat}{x:V},Vals xs us→xs[i]?=some x→∃u,us[i]?=some u∧RelV x u
 |_,_,_,_,.nil,e=>by simp at e
 |_,_,0,_,.cons r _,e=>by simp at e;subst e;exact⟨_,rfl,r⟩
 |_,_,i+1,x,.cons _ t,e=>by
  obtain⟨u,h1,h2⟩:=Vals.get (i:=i) (x:=x) t (by simpa using e)
  exact⟨u,by simpa using h1,h2⟩
theorem Vals.append:∀ {xs ys:List V}{us ws:List Value},Vals xs us→Vals ys ws→Vals (xs++ys) (us++ws)
 |_,_,_,_,.nil,s=>s
 |_,_,_,_,.cons r t,s=>.cons r (Vals.append t s)
theorem Vals.take:∀ {xs:List V}{us:List Value} (n:Nat),Vals xs us→Vals (xs.take n) (us.take n)
 |_,_,0,_=>.nil
 |_,_,_+1,.nil=>.nil
 |_,_,n+1,.cons r t=>.cons r (Vals.take n t)
theorem Vals.drop:∀ {xs:List V}{us:List Value} (n:Nat),Vals xs us→Vals (xs.drop n) (us.drop n)
 |_,_,0,r=>r
 |_,_,_+1,.nil=>.nil
 |_,_,n+1,.cons _ t=>Vals.drop n t
def RelO:Option V→Option Value→Prop
 |some v,some u=>RelV v u
 |none,none=>True
 |_,_=>False
def KV {κ:Type}:List (κ×V)→List (κ×Value)→Prop:=Paired fun (p:κ×V) (q:κ×Value)=>p.1=q.1∧RelV p.2 q.2
def kV:Key→V
 |.inl i=>.int i
 |.inr x=>.str x
inductive HO where
 /-- a list -/
 |lst (xs:List V)
 /-- a tuple (never changes) -/
 |tup (xs:List V)
 /-- a dict whose keys are ints and texts;one whose keys are tuples of ints and texts (the empty one is both) -/
 |dK (kvs:List (Key×V)) |dT (kvs:List (List Key×V))
 /-- a set of ints: its members,its size -/
 |set (S:Int→Bool) (n:Nat)
 /-- an instance of the class at C,its dict at dx,its attributes -/
 |ins (C dx:Addr) (fs:List (Str×V))
 /-- the dict of the instance at x -/
 |own (x:Addr)
 /-- the dict of an exception -/
 |xd (fs:List (Str×V))
 /-- a bound method,f of x -/
 |met (f x:Addr)
 /-- a range object lo,lo+1,.. below hi -/
 |rng (lo hi:Int)
 /-- a thing that is known to the object (the script;a dict while a loop walks it): read,never written while it is so -/
 |frz (o:Obj) (u:HO)
 /-- a code object's table -/
 |tbl (q:Str)
 /-- any other thing,by what is true of its one object (a def of one's own: SetO a S n:=HO.ext fun h=>..) -/
 |ext (φ:Heap→Prop)
abbrev Hp:=Addr→Option HO
def upd (H:Hp) (a:Addr) (o:HO):Hp:=fun b=>if b=a then some o else H b
theorem zb3 {H:Hp}{a:Addr}{o:HO}:upd H a o a=some o:=by unfold upd;rw [if_pos rfl]
theorem zb5 {H:Hp}{a b:Addr}{o:HO} (h:b≠a):upd H a o b=H b:=by unfold upd;rw [if_neg h]
theorem ne_of {H:Hp}{a b:Addr}{o u:HO} (h:H a=some o) (h':H b=some u) (d:o≠u):a≠b:=by
 intro e;subst e;rw [h]at h';exact d (Option.some.inj h')
theorem zh1 {H:Hp}{a b:Addr}{o:HO} (h:H a=some o) (h':H b=none):a≠b:=by
 intro e;subst e;rw [h]at h';cases h'
section
variable (P:Program) (w:World)
noncomputable def ObjOk (H:Hp) (h:Heap) (a:Addr):HO→Prop
 |.lst xs=>xs.length≤sizeLine∧∃(its:List Value) (n:Nat),Vals xs its∧h.get? a=some { cls:=.type "list",data:=.seq its.toArray n }
 |.tup xs=>xs.length≤sizeLine∧∃its:List Value,Vals xs its∧IsTup h a its.toArray
 |.dK kvs=>kvs.length≤sizeLine∧(a == sysModules)=false∧∃vs,KV kvs vs∧h.DictOf (zf5 P w) a vs
 |.dT kvs=>kvs.length≤sizeLine∧(a == sysModules)=false∧∃xs:List (List Key×Addr×Value),
   Paired (fun (p:List Key×V) (q:List Key×Addr×Value)=>p.1=q.1∧H q.2.1=some (.tup (p.1.map kV))∧RelV p.2 q.2.2) kvs xs ∧
   ∃o es ep,h.get? a=some o∧o.ExactDict∧o.data=.dict es ep∧es.toList=xs.map (entryOfKey (tupleKind (zf5 P w)))∧(xs.map (·.1)).Nodup
 |.set S n=>h.SetOf (intKind P w) a S n
 |.ins C dx fs=>H dx=some (.own a)∧fs.length≤1000∧dx≠a∧h.get? a=some (zbp8 C dx) ∧
   ∃mA,h.Ns1 dx mA∧(∀f,RelO (fs.lookup f) (mA f))∧PySem.Within mA (fs.map (·.1))
 |.own _ => ∃o,h.get? a=some o
 |.xd fs => ∃mA,h.Ns1 a mA∧∀f,RelO (fs.lookup f) (mA f)
 |.rng lo hi => ∃t u v,h.get? a=some { cls:=.type "range",data:=.fields #[.int lo t,.int hi u,.int 1 v] }
 |.frz o u=>h.get? a=some o∧ObjOk H h a u
 |.tbl q => ∃ps:Array Value,h.get? a=some { cls:=.none,data:=.fields ps }∧TriplesOk ps.toList∧∀pos cv,codeAmong pos ps.toList=some cv→∃(c:Addr) (oc:Obj) (vs:Array Value) (tk:Tok),cv=.ref c∧H c=some (.frz oc (.own 0))∧oc.data=.fields vs∧vs[1]?=some (.str q tk)
 |.met f x=>h.get? a=some (zbk8 (.ref f) (.ref x))
 |.ext φ=>φ h∧(∃o,h.get? a=some o)∧∀h1 h2:Heap,φ h1→(∀o,h1.get? a=some o→h2.get? a=some o)→φ h2
def HOk (H:Hp) (h:Heap):Prop := ∀a o,H a=some o→ObjOk P w H h a o
end
section
variable {P:Program}{w:World}{H H':Hp}{h h':Heap}{a:Addr}{o:HO}
theorem ObjOk.lt (x:ObjOk P w H h a o):a<h.objs.size:=by
 cases o with
 |lst xs=>obtain⟨_,_,_,_,e⟩:=x;exact zaz9 e
 |tup xs=>obtain⟨_,_,_,p⟩:=x;exact p.lt
 |dK kvs=>obtain⟨_,_,_,_,o,_,_,e,_⟩:=x;exact zaz9 e
 |dT kvs=>obtain⟨_,_,_,_,o,_,_,e,_⟩:=x;exact zaz9 e
 |set S n=>obtain⟨o,_,_,_,e,_⟩:=x;exact zaz9 e
 |ins C dx fs=>obtain⟨_,_,_,e,_⟩:=x;exact zaz9 e
 |own y=>obtain⟨_,e⟩:=x;exact zaz9 e
 |xd fs=>obtain⟨_,⟨_,_,_,e,_⟩,_⟩:=x;exact zaz9 e
 |rng lo hi=>obtain⟨_,_,_,e⟩:=x;exact zaz9 e
 |frz ob u=>obtain⟨e,_⟩:=x;exact zaz9 e
 |tbl q=>obtain⟨_,e,_⟩:=x;exact zaz9 e
 |met f y=>exact zaz9 (show h.get? a=some _ from x)
 |ext φ=>obtain⟨_,⟨_,e⟩,_⟩:=x;exact zaz9 e
theorem Paired.mapP {α β:Type}{F G:α→β→Prop}:∀ {l₁:List α}{l₂:List β},Paired F l₁ l₂→(∀a b,F a b→G a b)→Paired G l₁ l₂
 |_,_,.nil,_=>.nil
 |_,_,.cons r t,f=>.cons (f _ _ r) (Paired.mapP t f)
theorem ObjOk.stay (x:ObjOk P w H h a o) (k:∀b u,(b=a∨H b=some (.own a))→h.get? b=some u→h'.get? b=some u)
  (ho:∀b,H b=some (.own a)→H' b=some (.own a)) (ht:∀b xs,H b=some (.tup xs)→H' b=some (.tup xs)) (hz:∀b o u,H b=some (.frz o u)→H' b=some (.frz o u)):ObjOk P w H' h' a o:=by
 induction o with
 |lst xs=>obtain⟨z,its,n,r,e⟩:=x;exact⟨z,its,n,r,k _ _ (.inl rfl) e⟩
 |tup xs=>obtain⟨z,its,r,ob,e,c⟩:=x;exact⟨z,its,r,ob,k _ _ (.inl rfl) e,c⟩
 |dK kvs=>obtain⟨z,y,vs,r,ob,es,ep,e,c⟩:=x;exact⟨z,y,vs,r,ob,es,ep,k _ _ (.inl rfl) e,c⟩
 |dT kvs =>
  obtain⟨z,y,xs,r,ob,es,ep,e,c⟩:=x
  exact⟨z,y,xs,Paired.mapP r fun p q z=>⟨z.1,ht _ _ z.2.1,z.2.2⟩,ob,es,ep,k _ _ (.inl rfl) e,c⟩
 |set S n=>obtain⟨ob,es,ep,t,e,c⟩:=x;exact⟨ob,es,ep,t,k _ _ (.inl rfl) e,c⟩
 |ins C dx fs =>
  obtain⟨d,z,ne,e,mA,⟨od,es,ep,e2,c⟩,r⟩:=x
  exact⟨ho _ d,z,ne,k _ _ (.inl rfl) e,mA,⟨od,es,ep,k _ _ (.inr d) e2,c⟩,r⟩
 |own y=>obtain⟨ob,e⟩:=x;exact⟨ob,k _ _ (.inl rfl) e⟩
 |xd fs=>obtain⟨mA,⟨od,es,ep,e,c⟩,r⟩:=x;exact⟨mA,⟨od,es,ep,k _ _ (.inl rfl) e,c⟩,r⟩
 |rng lo hi=>obtain⟨t,u,v,e⟩:=x;exact⟨t,u,v,k _ _ (.inl rfl) e⟩
 |frz ob u ih=>obtain⟨e,q⟩:=x;exact⟨k _ _ (.inl rfl) e,ih q⟩
 |tbl q=>obtain⟨ps,e,t,r⟩:=x;exact⟨ps,k _ _ (.inl rfl) e,t,fun pos cv z=>let ⟨c,oc,vs,tk,a1,a2,a3⟩:=r pos cv z;⟨c,oc,vs,tk,a1,hz _ _ _ a2,a3⟩⟩
 |met f y =>
  have e:h.get? a=some (zbk8 (.ref f) (.ref y)):=x
  show h'.get? a=some (zbk8 (.ref f) (.ref y))
  exact k a _ (.inl rfl) e
 |ext φ=>obtain⟨p,⟨o,e⟩,st⟩:=x;exact⟨st _ _ p fun o q=>k _ _ (.inl rfl) q,⟨o,k _ _ (.inl rfl) e⟩,st⟩
theorem HOk.lt (x:HOk P w H h) (e:H a=some o):a<h.objs.size:=(x a o e).lt
theorem HOk.fresh (x:HOk P w H h) (e:h.objs.size≤a):H a=none:=by
 cases q:H a with
 |none=>rfl
 |some u=>exact absurd (zba5 (x.lt q) e) (zbd1 _)
theorem HOk.kept (x:HOk P w H h) (k:∀b u,h.get? b=some u→h'.get? b=some u):HOk P w H h':=fun a o e =>
 (x a o e).stay (fun b u _ q=>k b u q) (fun _ q=>q) (fun _ _ q=>q) fun _ _ _ q=>q
theorem HOk.laid (x:HOk P w H h) (k:∀b u,h.get? b=some u→h'.get? b=some u) (hp:h.objs.size≤a) (new:ObjOk P w (upd H a o) h' a o):HOk P w (upd H a o) h':=fun b u e=>by
 have hn:=x.fresh hp
 by_cases hb:b=a
 ·subst hb;rw [zb3]at e;cases e;exact new
 ·rw [zb5 hb]at e
  exact (x b u e).stay (fun c v _ q=>k c v q) (fun c q=>by rw [zb5 (zh1 q hn)];exact q) (fun c xs q=>by rw [zb5 (zh1 q hn)];exact q) fun c o u q=>by rw [zb5 (zh1 q hn)];exact q
end
def Rd (H:Hp) (a:Addr) (u:HO):Prop:=H a=some u∨∃o,H a=some (.frz o u)
theorem Rd.ok {P:Program}{w:World}{H:Hp}{h:Heap}{a:Addr}{u:HO} (r:Rd H a u) (x:HOk P w H h):ObjOk P w H h a u:=by
 rcases r with r | ⟨o,r⟩
 ·exact x a u r
 ·obtain⟨_,q⟩:=x a _ r
  exact q
noncomputable def Mut:Option HO→Prop
 |some (.lst _)=>True
 |some (.dK _)=>True
 |some (.dT _)=>True
 |some (.set _ _)=>True
 |some (.ins _ _ _)=>True
 |some (.ext _)=>True
 |_=>False
section
variable {P:Program}{w:World}{H:Hp}{h h':Heap}{x e:Addr}{o':HO}
theorem HOk.write (ok:HOk P w H h) (mu:Mut (H x)) (he:e=x∨H e=some (.own x)) (k:∀b u,b≠e→h.get? b=some u→h'.get? b=some u) (heo:∃u,h'.get? e=some u)
  (new:ObjOk P w (upd H x o') h' x o'):HOk P w (upd H x o') h':=fun b u q=>by
 have nown:∀c y,H c=some (.own y)→c≠x:=fun c y r z=>by subst z;rw [r]at mu;exact mu
 have ntup:∀c xs,H c=some (.tup xs)→c≠x:=fun c xs r z=>by subst z;rw [r]at mu;exact mu
 by_cases hb:b=x
 ·subst hb;rw [zb3]at q;cases q;exact new
 ·rw [zb5 hb]at q
  by_cases hbe:b=e
  ·have q':H b=some (.own x):=by
    rcases he with z | z
    ·exact absurd (hbe.trans z) hb
    ·rw [hbe];exact z
   rw [q]at q';cases q'
   obtain⟨v,hv⟩:=heo
   exact⟨v,by rw [hbe];exact hv⟩
  ·refine (ok b u q).stay (fun c v hc r=>k c v ?_ r) (fun c r=>by rw [zb5 (nown c b r)];exact r) (fun c xs r=>by rw [zb5 (ntup c xs r)];exact r) fun c o u r=>by rw [zb5 (fun z=>by subst z;rw [r]at mu;exact mu)];exact r
   rcases hc with rfl | hc
   ·exact hbe
   ·rintro rfl
    rcases he with z | z
    ·exact nown c b hc z
    ·rw [hc]at z;cases z;exact hb rfl
end
structure Un (fs ex:List Addr) (H H':Hp) (h h':Heap):Prop where
 keep:∀b o,h.get? b=some o→H b=none→b∉fs→b∉ex→h'.get? b=some o
 slot:∀b o,h.get? b=some o→H b=none→b∈fs→b∉ex→∃sl,h'.get? b=some { o with slots:=sl }
 free:∀b o,h.get? b=some o→H b=none→b∉ex→H' b=none
 there:∀b o,h.get? b=some o→b∉ex→∃o',h'.get? b=some o'
 tups:∀b xs,H b=some (.tup xs)→H' b=some (.tup xs)
 frzs:∀b o u,H b=some (.frz o u)→H' b=some (.frz o u)
 tbls:∀b q,H b=some (.tbl q)→H' b=some (.tbl q)
section
variable {fs fs' ex ex':List Addr}{H H1 H2:Hp}{h h1 h2 h':Heap}{a x e:Addr}{o:HO}
theorem Un.any (u:Un fs ex H H1 h h1) {b:Addr}{ob:Obj} (q:h.get? b=some ob) (n:H b=none) (hx:b∉ex):∃sl,h1.get? b=some { ob with slots:=sl }:=by
 by_cases hb:b∈fs
 ·exact u.slot b ob q n hb hx
 ·exact⟨ob.slots,u.keep b ob q n hb hx⟩
theorem Un.trans (a:Un fs ex H H1 h h1) (b:Un fs ex H1 H2 h1 h2):Un fs ex H H2 h h2 where
 keep:=fun c ob q n hc hx=>b.keep c ob (a.keep c ob q n hc hx) (a.free c ob q n hx) hc hx
 slot:=fun c ob q n hc hx=>by
  obtain⟨sl,e1⟩:=a.slot c ob q n hc hx
  obtain⟨sl',e2⟩:=b.slot c _ e1 (a.free c ob q n hx) hc hx
  exact⟨sl',e2⟩
 free:=fun c ob q n hx=>by
  obtain⟨o',e1⟩:=a.there c ob q hx
  exact b.free c o' e1 (a.free c ob q n hx) hx
 there:=fun c ob q hx=>by
  obtain⟨o',e1⟩:=a.there c ob q hx
  exact b.there c o' e1 hx
 tups:=fun c xs q=>b.tups c xs (a.tups c xs q)
 frzs:=fun c ob xs q=>b.frzs c ob xs (a.frzs c ob xs q)
 tbls:=fun c q e=>b.tbls c q (a.tbls c q e)
theorem Un.kept (k:∀b u,h.get? b=some u→h'.get? b=some u):Un fs ex H H h h' :=
 ⟨fun b ob q _ _ _=>k b ob q,fun b ob q _ _ _=>⟨ob.slots,k b ob q⟩,fun _ _ _ n _=>n,fun b ob q _=>⟨ob,k b ob q⟩,fun _ _ q=>q,fun _ _ _ q=>q,fun _ _ q=>q⟩
theorem Un.refl:Un fs ex H H h h:=Un.kept fun _ _ q=>q
theorem Un.laid (k:∀b u,h.get? b=some u→h'.get? b=some u) (hp:h.objs.size≤a) (hn:H a=none):Un fs ex H (upd H a o) h h' where
 keep:=fun b u q _ _ _=>k b u q
 slot:=fun b u q _ _ _=>⟨u.slots,k b u q⟩
 free:=fun b u q n _=>by rw [zb5 (zbb9 (zba5 (zaz9 q) hp))];exact n
 there:=fun b u q _=>⟨u,k b u q⟩
 tups:=fun b xs q=>by rw [zb5 (zh1 q hn)];exact q
 frzs:=fun b u xs q=>by rw [zb5 (zh1 q hn)];exact q
 tbls:=fun b ps q=>by rw [zb5 (zh1 q hn)];exact q
theorem Un.write (mu:Mut (H x)) (he:e=x∨H e=some (.own x)) (k:∀b u,b≠e→h.get? b=some u→h'.get? b=some u) (heo:∃u,h'.get? e=some u):Un fs ex H (upd H x o) h h':=by
 have hx:∀b,H b=none→b≠x:=fun b n z=>by subst z;rw [n]at mu;exact mu
 have hb:∀b,H b=none→b≠e:=fun b n z=>by
  subst z
  rcases he with r | r
  ·exact hx b n r
  ·rw [n]at r;cases r
 have hm:∀b u,H b=some u → ¬ Mut (some u)→b≠x:=fun b u q nm z=>by subst z;rw [q]at mu;exact nm mu
 refine⟨fun b u q n _ _=>k b u (hb b n) q,fun b u q n _ _=>⟨u.slots,k b u (hb b n) q⟩,fun b u q n _=>by rw [zb5 (hx b n)];exact n,fun b u q _=>?_,
  fun b xs q=>by rw [zb5 (hm b _ q fun z=>z)];exact q,fun b u xs q=>by rw [zb5 (hm b _ q fun z=>z)];exact q,fun b ps q=>by rw [zb5 (hm b _ q fun z=>z)];exact q⟩
 by_cases hbe:b=e
 ·subst hbe;exact heo
 ·exact⟨u,k b u hbe q⟩
end
def trk (h:Heap) (H:Hp):List Addr:=(zbf5 h.objs.size).filter fun a=>(H a).isSome
def hidT (h:Heap) (H:Hp):Heap:=PySem.W.hideAll h (trk h H)
theorem zau5 (h:Heap) (H:Hp):(hidT h H).objs.size=h.objs.size:=PySem.W.hideAll_size _ _
theorem zq9 {h:Heap}{H:Hp}{b:Addr}{o:Obj} (e:h.get? b=some o) (n:H b=none):(hidT h H).get? b=some o :=
 PySem.W.hideAll_get _ e fun hm=>by
  have q:(H b).isSome=true:=(List.mem_filter.mp hm).2
  rw [n]at q;simp at q
theorem of_hidT {h:Heap}{H:Hp}{b:Addr}{o:Obj} (e:(hidT h H).get? b=some o):h.get? b=some o∧H b=none:=by
 have e':h.get? b=some o:=PySem.W.of_hideAll (trk h H) e
 refine⟨e',?_⟩
 cases q:H b with
 |none=>rfl
 |some x =>
  have hm:b∈trk h H:=List.mem_filter.mpr ⟨zbn0.mpr (zaz9 e'),by simp [q]⟩
  have z:(hidT h H).get? b=none:=PySem.W.hideAll_none (trk h H) hm
  rw [z]at e;cases e
noncomputable def allNews (g h:Heap) (L:Addr):List (Addr×Obj):=(zbf5 h.objs.size).filterMap fun a=>if a=L∨(g.get? a).isSome=true then none else (h.get? a).map fun o=>(a,o)
def rest (g h:Heap) (L d:Addr):List (Addr×Obj):=(allNews g h L).filter fun p=>decide (p.1≠d)
end L2
namespace L2
open PySem.Spec
structure BHeap extends Heap where
 tabs:List (Addr×Str)
instance:Coe BHeap Heap:=⟨BHeap.toHeap⟩
structure Mod (K:zay3) (mg:Str→Option Value) (base:BHeap):Prop where
 kin:K.In base
 glob:base.Ns mainGlobals mg
 blt:∃mb,base.Ns builtinsNs mb∧∀x:Str,x≠"__name__"→mb x=bootBuiltins x
 nolimit:base.NoLimit
 bm:∃(bm:Addr) (ob:Obj),mg "__builtins__"=some (.ref bm)∧bm≠builtinsNs∧base.get? bm=some ob∧ob.cls=.type "module"∧ob.dict=some builtinsNs∧ob.data=.plain
structure Cx where
 prog:Program
 w:World
 K:zay3
 mg:Str→Option Value
 base:BHeap
 A:Around
 N:List Str
 s₀:zaz5
 H₀:Hp
 env:Env
 outer:List Env
 stack:List Env
 ex:List Addr
 fn:Str→Bool
 calm:Bool
 pn:List (Addr×Obj)
 xe:Value→zaz5→Prop
def frs (l:List Env):List Addr:=l.filterMap (·.frame)
abbrev Cx.fs (X:Cx):List Addr:=frs X.outer
def Vis (sc:Scope) (x:Str):Prop:=sc.names.lookup x=some .local∨sc.names.lookup x=some .cell∨sc.names.lookup x=some .free
def Loc (sc:Scope) (x:Str):Prop:=sc.names.lookup x=some .local∨sc.names.lookup x=some .cell
noncomputable def Look (env:Env) (h:Heap) (m:Str→Option Value) (x:Str) (u:Value):Prop :=
 (env.kindOf x=some .local∧m x=some u)∨((env.kindOf x=some .cell∨env.kindOf x=some .free)∧∃c,env.cells.lookup x=some c∧h.IsCell c (some u))
structure Cx.Ok (X:Cx):Prop where
 mod:Mod X.K X.mg X.base
 kind:X.env.scope.kind=.function
 glob:X.env.globals=mainGlobals
 blt:X.env.builtins=builtinsNs
 above:X.s₀.heap.objs.size≤X.env.locals
 inj:∀x y c,X.env.cells.lookup x=some c→X.env.cells.lookup y=some c→x=y
 has:∀x,(X.env.kindOf x=some .cell∨X.env.kindOf x=some .free)→∃c,X.env.cells.lookup x=some c
 cab:∀x c,X.fn x=true→X.env.cells.lookup x=some c→X.s₀.heap.objs.size≤c
 hd:X.calm=true→X.A.handled=none
 frames:X.A.frames=some X.stack
 stk:X.stack=X.outer∨(X.stack=X.env::X.outer∧X.env.frame=some X.env.locals)
 exf:∀b∈X.ex,b≠X.env.locals∧∀x c,X.env.cells.lookup x=some c→c≠b
 bs:∀b o,X.base.get? b=some o→X.s₀.heap.get? b=some o∧X.H₀ b=none
 bsz:X.base.objs.size≤X.s₀.heap.objs.size
 noex:∀b o,X.base.get? b=some o→b∉X.ex
 exfs:∀b∈X.ex,b∉X.fs
 funs:X.s₀.heap.FunFrames X.base X.outer
 frf:∀b∈X.fs,X.H₀ b=none
 tabs:∀p∈X.base.tabs,X.H₀ p.1=some (.tbl p.2)
structure Inv (X:Cx) (pins:List (Addr×Obj)) (σ:List (Option V)) (H:Hp) (s:zaz5):Prop where
 ok:X.Ok
 os:s.os=X.s₀.os
 bare:AllBare s.gens
 base:Un X.fs X.ex X.H₀ H X.s₀.heap s.heap
 loc:∃m,s.heap.Ns X.env.locals m∧∀(i:Nat) (x:Str) (v:V),X.N[i]?=some x→σ[i]?=some (some v)→Vis X.env.scope x→∃u,RelV v u∧Look X.env s.heap m x u
 cell:∀x c,X.env.cells.lookup x=some c→∃v,s.heap.IsCell c v
 free:H X.env.locals=none
 freeC:∀x c,X.env.cells.lookup x=some c→H c=none
 pin:∀p∈X.pn++pins,s.heap.get? p.1=some p.2∧H p.1=none∧p.1≠X.env.locals∧p.1∉X.fs∧∀v,p.2.data≠.cell v
 hok:HOk X.prog X.w H s.heap
 len:σ.length=X.N.length
section
variable {X:Cx}{pins:List (Addr×Obj)}{σ:List (Option V)}{H H':Hp}{s:zaz5}{h':Heap}
theorem Cx.Ok.nofr (ok:X.Ok) {b:Addr}{o:Obj} (e:X.base.get? b=some o):b∉X.fs:=fun hb=>by
 have:=(ok.funs.mem hb).1
 rw [e]at this;cases this
theorem Inv.bs (I:Inv X pins σ H s):∀b o,X.base.get? b=some o→s.heap.get? b=some o∧H b=none:=fun b o e =>
 ⟨I.base.keep b o (I.ok.bs b o e).1 (I.ok.bs b o e).2 (I.ok.nofr e) (I.ok.noex b o e),I.base.free b o (I.ok.bs b o e).1 (I.ok.bs b o e).2 (I.ok.noex b o e)⟩
theorem Inv.bk (I:Inv X pins σ H s):∀b o,X.base.get? b=some o→s.heap.get? b=some o:=fun b o e=>(I.bs b o e).1
theorem Inv.mod (I:Inv X pins σ H s):Mod X.K X.mg X.base:=I.ok.mod
theorem Inv.kIn (I:Inv X pins σ H s):X.K.In s.heap:=I.ok.mod.kin.keeps I.bk
theorem Inv.lt (I:Inv X pins σ H s):X.env.locals<s.heap.objs.size:=let ⟨_,hn,_⟩:=I.loc;hn.lt
theorem Inv.sz (I:Inv X pins σ H s):X.s₀.heap.objs.size≤s.heap.objs.size:=zbd7 I.ok.above (zbj2 I.lt)
theorem Inv.nofs (I:Inv X pins σ H s) {a:Addr} (h:s.heap.objs.size≤a):a∉X.fs:=fun hb=>by
 obtain⟨_,o,ho,_⟩:=I.ok.funs.mem hb
 exact absurd (zba5 (zaz9 ho) (zbd7 I.sz h)) (zbd1 _)
theorem Inv.cne (I:Inv X pins σ H s):∀x c,X.env.cells.lookup x=some c→c≠X.env.locals:=fun x c e z=>by
 obtain⟨v,o,ho,hd⟩:=I.cell x c e
 obtain⟨m,⟨o',es,ep,ho',hd',_⟩,_⟩:=I.loc
 rw [z,ho']at ho;cases ho;rw [hd']at hd;cases hd
theorem Inv.funs (I:Inv X pins σ H s):s.heap.FunFrames X.base X.outer:=by
 have all:∀(l:List Env),(∀b∈frs l,b∈X.fs)→X.s₀.heap.FunFrames X.base l→s.heap.FunFrames X.base l:=by
  intro l
  induction l with
  |nil=>intro _ _;trivial
  |cons env r ih =>
   intro hs hl
   obtain⟨hk,⟨L,o,hf,hn,ho,hd⟩,hr⟩:=hl
   have hL:L∈X.fs:=hs L (by unfold frs;rw [zbj8,hf];exact zaz0)
   obtain⟨sl,e⟩:=I.base.slot L o ho (I.ok.frf L hL) hL fun z=>I.ok.exfs L z hL
   exact⟨hk,⟨L,_,hf,hn,e,hd⟩,ih (fun b hb=>hs b (by unfold frs;rw [zbj8,hf];exact zay5 _ hb)) hr⟩
 exact all X.outer (fun _ hb=>hb) I.ok.funs
theorem Inv.stack (I:Inv X pins σ H s):s.heap.FunFrames X.base X.stack:=by
 rcases I.ok.stk with e | ⟨e,hf⟩
 ·rw [e];exact I.funs
 ·rw [e]
  obtain⟨m,hn,_⟩:=I.loc
  refine .cons (by rw [I.ok.kind];decide) hf hn ?_ I.funs
  exact Heap.get?_none_of_le (zbd7 I.ok.bsz I.ok.above)
theorem Inv.stkSub (I:Inv X pins σ H s):∀b∈frs X.stack,b∈X.env.locals::X.fs:=fun b hb=>by
 rcases I.ok.stk with e | ⟨e,hf⟩
 ·rw [e]at hb;exact zay5 _ hb
 ·rw [e]at hb
  unfold frs at hb
  rw [zbj8,hf]at hb
  exact hb
theorem Inv.stkFree (I:Inv X pins σ H s):∀b∈frs X.stack,H b=none:=fun b hb=>by
 rcases zaz2.mp (I.stkSub b hb) with e | hb
 ·rw [e];exact I.free
 ·obtain⟨_,o,ho,_⟩:=I.ok.funs.mem hb
  exact I.base.free b o ho (I.ok.frf b hb) fun z=>I.ok.exfs b z hb
theorem Inv.step {g':Array GenState}{t':Nat}{d':Drawn}{ch:List Addr} (I:Inv X pins σ H s)
  (hch:∀b∈ch,(b∈X.ex∨X.s₀.heap.objs.size≤b)∧b≠X.env.locals∧(∀x c,X.env.cells.lookup x=some c→c≠b)∧∀p∈X.pn++pins,p.1≠b)
  (keep:∀b o,b≠X.env.locals→b∉X.fs→b∉ch→s.heap.get? b=some o→H b=none→h'.get? b=some o)
  (slot:∀b o,b≠X.env.locals→b∈X.fs→b∉ch→s.heap.get? b=some o→H b=none→∃sl,h'.get? b=some { o with slots:=sl }) (free:∀b o,b∉ch→s.heap.get? b=some o→H b=none→H' b=none)
  (there:∀b o,b∉ch→s.heap.get? b=some o→∃o',h'.get? b=some o')
  (tups:∀b xs,H b=some (.tup xs)→H' b=some (.tup xs)) (frzs:∀b o u,H b=some (.frz o u)→H' b=some (.frz o u)) (tbls:∀b q,H b=some (.tbl q)→H' b=some (.tbl q))
  (ns:∀m,s.heap.Ns X.env.locals m→h'.Ns X.env.locals m) (hok:HOk X.prog X.w H' h') (hg:AllBare g') :
  Inv X pins σ H' { s with heap:=h',gens:=g',drawn:=d',toks:=t' }:=by
 have neL:∀b o,X.s₀.heap.get? b=some o→b≠X.env.locals:=fun b o e=>zbb9 (zba5 (zaz9 e) I.ok.above)
 have neC:∀b o,X.s₀.heap.get? b=some o→b∉X.ex→b∉ch:=fun b o e hx hb=>by
  rcases (hch b hb).1 with z | z
  ·exact hx z
  ·exact absurd (zba5 (zaz9 e) z) (zbd1 _)
 have cellK:∀x c,X.env.cells.lookup x=some c→∀v,s.heap.IsCell c v→h'.IsCell c v:=fun x c e v ⟨o,ho,hd⟩=>by
  have nch:c∉ch:=fun z=>(hch c z).2.2.1 x c e rfl
  by_cases hc:c∈X.fs
  ·obtain⟨sl,q⟩:=slot c o (I.cne x c e) hc nch ho (I.freeC x c e)
   exact⟨_,q,hd⟩
  ·exact⟨o,keep c o (I.cne x c e) hc nch ho (I.freeC x c e),hd⟩
 refine⟨I.ok,I.os,hg,⟨fun b o e n hb hx=>?_,fun b o e n hb hx=>?_,fun b o e n hx=>?_,fun b o e hx=>?_,fun b xs e=>tups b xs (I.base.tups b xs e),fun b o xs e=>frzs b o xs (I.base.frzs b o xs e),fun b ps e=>?_⟩,?_,fun x c e=>?_,?_,fun x c e=>?_,fun p hp=>?_,hok,I.len⟩
 ·exact keep b o (neL b o e) hb (neC b o e hx) (I.base.keep b o e n hb hx) (I.base.free b o e n hx)
 ·obtain⟨sl,e1⟩:=I.base.slot b o e n hb hx
  obtain⟨sl',e2⟩:=slot b _ (neL b o e) hb (neC b o e hx) e1 (I.base.free b o e n hx)
  exact⟨sl',e2⟩
 ·obtain⟨o',e1⟩:=I.base.there b o e hx
  exact free b o' (neC b o e hx) e1 (I.base.free b o e n hx)
 ·obtain⟨o',e1⟩:=I.base.there b o e hx
  exact there b o' (neC b o e hx) e1
 ·exact tbls b _ (I.base.tbls b ps e)
 ·obtain⟨m,hn,hl⟩:=I.loc
  refine⟨m,ns m hn,fun i x v e1 e2 e3=>?_⟩
  obtain⟨u,r,l⟩:=hl i x v e1 e2 e3
  refine⟨u,r,?_⟩
  rcases l with l | ⟨k,c,e,z⟩
  ·exact .inl l
  ·exact .inr ⟨k,c,e,cellK x c e _ z⟩
 ·obtain⟨v,z⟩:=I.cell x c e
  exact⟨v,cellK x c e v z⟩
 ·obtain⟨m,⟨o,_,_,ho,_⟩,_⟩:=I.loc
  exact free _ o (fun z=>(hch _ z).2.1 rfl) ho I.free
 ·obtain⟨v,o,ho,hd⟩:=I.cell x c e
  exact free c o (fun z=>(hch c z).2.2.1 x c e rfl) ho (I.freeC x c e)
 ·obtain⟨e,n,ne,nf,d⟩:=I.pin p hp
  have nch:p.1∉ch:=fun z=>(hch p.1 z).2.2.2 p hp rfl
  exact⟨keep p.1 p.2 ne nf nch e n,free p.1 p.2 nch e n,ne,nf,d⟩
theorem Inv.un {t':Nat} (I:Inv X pins σ H s) (u:Un X.fs [] H H' s.heap h') (hok:HOk X.prog X.w H' h'):Inv X pins σ H' { s with heap:=h',toks:=t' }:=by
 obtain⟨m,⟨o,es,ep,ho,r⟩,_⟩:=id I.loc
 obtain⟨sl,hL⟩:=u.any ho I.free (by simp)
 exact I.step (g':=s.gens) (d':=s.drawn) (ch:=[]) (fun _ z=>nomatch z) (fun b o _ hb _ e n=>u.keep b o e n hb (by simp)) (fun b o _ hb _ e n=>u.slot b o e n hb (by simp)) (fun b o _ e n=>u.free b o e n (by simp)) (fun b o _ e=>u.there b o e (by simp)) u.tups u.frzs u.tbls (fun m' hm=>by
  obtain⟨o',es',ep',ho',r'⟩:=hm
  rw [ho]at ho';cases ho'
  exact⟨_,es',ep',hL,r'⟩) hok I.bare
theorem Inv.call {g':Array GenState}{t':Nat}{d':Drawn}{ch:List Addr} (I:Inv X pins σ H s) (u:Un (frs X.stack) ch H H' s.heap h') (hok:HOk X.prog X.w H' h') (hg:AllBare g')
  (hch:∀b∈ch,(b∈X.ex∨X.s₀.heap.objs.size≤b)∧b≠X.env.locals∧(∀x c,X.env.cells.lookup x=some c→c≠b)∧∀p∈X.pn++pins,p.1≠b) :
  Inv X pins σ H' { s with heap:=h',gens:=g',drawn:=d',toks:=t' }:=by
 obtain⟨m,⟨o,es,ep,ho,r⟩,_⟩:=id I.loc
 obtain⟨sl,hL⟩:=u.any ho I.free fun z=>(hch _ z).2.1 rfl
 exact I.step (ch:=ch) hch (fun b o hL hb hc e n=>u.keep b o e n (fun z=>(zaz2.mp (I.stkSub b z)).elim hL hb) hc) (fun b o _ _ hc e n=>u.any e n hc) (fun b o hc e n=>u.free b o e n hc) (fun b o hc e=>u.there b o e hc) u.tups u.frzs u.tbls (fun m' hm=>by
  obtain⟨o',es',ep',ho',r'⟩:=hm
  rw [ho]at ho';cases ho'
  exact⟨_,es',ep',hL,r'⟩) hok hg
theorem Inv.turned {t':Nat}{it:Addr} (I:Inv X pins σ H s) (k:∀b o,b≠it→s.heap.get? b=some o→h'.get? b=some o) (hn:H it=none) (hL:it≠X.env.locals)
  (h1:it∈X.ex∨X.s₀.heap.objs.size≤it) (h2:∀x c,X.env.cells.lookup x=some c→c≠it) (h3:∀p∈X.pn++pins,p.1≠it):Inv X pins σ H { s with heap:=h',toks:=t' }:=by
 have nit:∀b u,H b=some u→b≠it:=fun b u e z=>by rw [z,hn]at e;cases e
 refine I.step (g':=s.gens) (d':=s.drawn) (ch:=[it]) (fun b hb=>?_) (fun b o _ _ hc e _=>k b o (fun z=>hc (by simp [z])) e) (fun b o _ _ hc e _=>⟨o.slots,k b o (fun z=>hc (by simp [z])) e⟩) (fun _ _ _ _ n=>n)
  (fun b o hc e=>⟨o,k b o (fun z=>hc (by simp [z])) e⟩) (fun _ _ e=>e) (fun _ _ _ e=>e) (fun _ _ e=>e) (fun m hm=>?_) (fun b u e=>?_) I.bare
 ·have e:b=it:=by simpa using hb
  subst e
  exact⟨h1,hL,h2,h3⟩
 ·obtain⟨o,es,ep,ho,r⟩:=hm
  exact⟨o,es,ep,k _ o (Ne.symm hL) ho,r⟩
 ·refine (I.hok b u e).stay (fun c v hc q=>k c v ?_ q) (fun _ q=>q) (fun _ _ q=>q) fun _ _ _ q=>q
  rcases hc with z | z
  ·rw [z];exact nit b u e
  ·exact nit c _ z
theorem Inv.tok (I:Inv X pins σ H s) (t:Nat):Inv X pins σ H { s with toks:=t }:=I.un (h':=s.heap) (t':=t) Un.refl I.hok
theorem Inv.kept {t':Nat} (I:Inv X pins σ H s) (k:∀b u,s.heap.get? b=some u→h'.get? b=some u):Inv X pins σ H { s with heap:=h',toks:=t' }:=I.un (Un.kept k) (I.hok.kept k)
theorem Inv.laid {a:Addr}{o:HO}{t':Nat} (I:Inv X pins σ H s) (k:∀b u,s.heap.get? b=some u→h'.get? b=some u) (hp:s.heap.objs.size≤a) (new:ObjOk X.prog X.w (upd H a o) h' a o) :
  Inv X pins σ (upd H a o) { s with heap:=h',toks:=t' }:=I.un (Un.laid k hp (I.hok.fresh hp)) (I.hok.laid k hp new)
theorem Inv.write {x e:Addr}{o:HO}{t':Nat} (I:Inv X pins σ H s) (mu:Mut (H x)) (he:e=x∨H e=some (.own x)) (k:∀b u,b≠e→s.heap.get? b=some u→h'.get? b=some u) (heo:∃u,h'.get? e=some u)
  (new:ObjOk X.prog X.w (upd H x o) h' x o):Inv X pins σ (upd H x o) { s with heap:=h',toks:=t' }:=I.un (Un.write mu he k heo) (I.hok.write mu he k heo new)
theorem Inv.pins_of {pins':List (Addr×Obj)} (I:Inv X pins σ H s) (h:∀p∈pins',s.heap.get? p.1=some p.2∧H p.1=none∧p.1≠X.env.locals∧p.1∉X.fs∧∀v,p.2.data≠.cell v):Inv X pins' σ H s :=
 ⟨I.ok,I.os,I.bare,I.base,I.loc,I.cell,I.free,I.freeC,fun p hp=>(zay8.mp hp).elim (fun z=>I.pin p (zay6 _ z)) (h p),I.hok,I.len⟩
theorem zaj9 {N:List Str} (hN:N.Nodup) {i j:Nat}{x:Str} (a:N[i]?=some x) (b:N[j]?=some x):i=j:=by
 obtain⟨h1,e1⟩:=zbb8.mp a
 obtain⟨h2,e2⟩:=zbb8.mp b
 exact (List.getElem_inj hN).mp (e1.trans e2.symm)
theorem zz2 {M:Model}{A:Around}{E:Value→zaz5→Prop}{i:Nat}{x:Str}{v:V}{u:Value}{Q:Unit→zaz5→Prop} (I:Inv X pins σ H s) (hN:X.N.Nodup) (hi:X.N[i]?=some x) (hx:Loc X.env.scope x) (r:RelV v u)
  (h:∀s',Inv X pins (σ.set i (some v)) H s'→(∃a,Heap.SameBut a s.heap s'.heap∧(a=X.env.locals∨X.env.cells.lookup x=some a))→Q () s') (hf:X.fn x=true∨X.env.scope.names.lookup x=some .local:=by first | exact .inl rfl | exact .inr rfl | assumption):wpAny M A (storeName X.env x u) Q E s:=by
 obtain⟨m,hn,hl⟩:=id I.loc
 have hcls:(X.env.scope.kind == .class||(X.env.scope.kind == .module&&X.env.locals != X.env.globals))=false:=by rw [I.ok.kind];rfl
 have hiσ:i<σ.length:=by rw [I.len];exact (zbb8.mp hi).1
 have cne:=I.cne
 have tracked:∀ {a:Addr}{h':Heap},(∃o,s.heap.get? a=some o∧H a=none)→Heap.SameBut a s.heap h'→HOk X.prog X.w H h':=fun {a h'} ha hs b ob e=>by
  obtain⟨_,_,hfree⟩:=ha
  refine (I.hok b ob e).stay (fun c w' hc q=>(hs.2 c ?_).trans q) (fun _ q=>q) (fun _ _ q=>q) fun _ _ _ q=>q
  rintro rfl
  rcases hc with rfl | hc
  ·rw [hfree]at e;cases e
  ·rw [hfree]at hc;cases hc
 rcases hx with hk | hk
 ·refine wpAny_storeName_local hk hn (fun h' hn' hs=>?_) hcls
  obtain⟨oL,_,_,hoL,_⟩:=id hn
  refine h _ ⟨I.ok,I.os,I.bare,⟨fun b o e n hb hx=>?_,fun b o e n hb hx=>?_,I.base.free,fun b o e hx=>?_,I.base.tups,I.base.frzs,I.base.tbls⟩,⟨_,hn',fun j y v' e1 e2 e3=>?_⟩,fun y c e=>?_,I.free,I.freeC,fun p hp=>?_,tracked ⟨oL,hoL,I.free⟩ hs,by simpa using I.len⟩ ⟨_,hs,.inl rfl⟩
  ·exact (hs.2 b (zbb9 (zba5 (zaz9 e) I.ok.above))).trans (I.base.keep b o e n hb hx)
  ·obtain⟨sl,e1⟩:=I.base.slot b o e n hb hx
   exact⟨sl,(hs.2 b (zbb9 (zba5 (zaz9 e) I.ok.above))).trans e1⟩
  ·obtain⟨o',e1⟩:=I.base.there b o e hx
   exact⟨o',(hs.2 b (zbb9 (zba5 (zaz9 e) I.ok.above))).trans e1⟩
  ·by_cases hj:j=i
   ·subst hj
    rw [hi]at e1;cases e1
    rw [zbh9 hiσ]at e2
    cases e2
    exact⟨u,r,.inl ⟨hk,by simp⟩⟩
   ·rw [zbm7 (Ne.symm hj)]at e2
    obtain⟨u',r',q⟩:=hl j y v' e1 e2 e3
    refine⟨u',r',?_⟩
    rcases q with ⟨k,e⟩ | ⟨k,c,e,z⟩
    ·refine .inl ⟨k,?_⟩
     have:y≠x:=fun e=>hj (zaj9 hN e1 (e ▸ hi))
     simp [this,e]
    ·exact .inr ⟨k,c,e,z.sameBut hs (cne y c e)⟩
  ·obtain⟨w',z⟩:=I.cell y c e
   exact⟨w',z.sameBut hs (cne y c e)⟩
  ·obtain⟨e,n,ne,nf,d⟩:=I.pin p hp
   exact⟨(hs.2 p.1 ne).trans e,n,ne,nf,d⟩
 ·have hfn:X.fn x=true:=by
   rcases hf with z | z
   ·exact z
   ·rw [z]at hk;cases hk
  obtain⟨c,hc⟩:=I.ok.has x (.inl hk)
  obtain⟨w',z⟩:=I.cell x c hc
  refine wpAny_storeName_cell I.ok.kind hk hc z (fun h' hc' hs=>?_)
  obtain⟨oc,hoc,hocd⟩:=id z
  refine h { s with heap:=h' } ⟨I.ok,I.os,I.bare,⟨fun b o e n hb hx=>?_,fun b o e n hb hx=>?_,I.base.free,fun b o e hx=>?_,I.base.tups,I.base.frzs,I.base.tbls⟩,⟨m,hn.sameBut hs (Ne.symm (cne x c hc)),fun j y v' e1 e2 e3=>?_⟩,fun y c' e=>?_,I.free,I.freeC,fun p hp=>?_,tracked ⟨oc,hoc,I.freeC x c hc⟩ hs,by simpa using I.len⟩ ⟨c,hs,.inr hc⟩
  ·exact (hs.2 b (zbb9 (zba5 (zaz9 e) (I.ok.cab x c hfn hc)))).trans (I.base.keep b o e n hb hx)
  ·obtain⟨sl,e1⟩:=I.base.slot b o e n hb hx
   exact⟨sl,(hs.2 b (zbb9 (zba5 (zaz9 e) (I.ok.cab x c hfn hc)))).trans e1⟩
  ·obtain⟨o',e1⟩:=I.base.there b o e hx
   exact⟨o',(hs.2 b (zbb9 (zba5 (zaz9 e) (I.ok.cab x c hfn hc)))).trans e1⟩
  ·by_cases hj:j=i
   ·subst hj
    rw [hi]at e1;cases e1
    rw [zbh9 hiσ]at e2
    cases e2
    exact⟨u,r,.inr ⟨.inl hk,c,hc,hc'⟩⟩
   ·rw [zbm7 (Ne.symm hj)]at e2
    obtain⟨u',r',q⟩:=hl j y v' e1 e2 e3
    refine⟨u',r',?_⟩
    rcases q with q | ⟨k,c',e,z'⟩
    ·exact .inl q
    ·refine .inr ⟨k,c',e,z'.sameBut hs ?_⟩
     rintro rfl
     exact hj (zaj9 hN e1 (I.ok.inj _ _ _ e hc ▸ hi))
  ·by_cases hcc:c'=c
   ·subst hcc;exact⟨_,hc'⟩
   ·obtain⟨w2,z2⟩:=I.cell y c' e
    exact⟨w2,z2.sameBut hs hcc⟩
  ·obtain⟨e,n,ne,nf,d⟩:=I.pin p hp
   refine⟨(hs.2 p.1 ?_).trans e,n,ne,nf,d⟩
   intro q
   rw [q,hoc]at e
   have q':oc=p.2:=Option.some.inj e
   exact d w' (by rw [← q'];exact hocd)
theorem zai7 {M:Model}{A:Around}{E:Value→zaz5→Prop}{i:Nat}{x:Str}{v:V}{u:Value}{Q:Unit→zaz5→Prop} (I:Inv X pins σ H s) (hN:X.N.Nodup) (hi:X.N[i]?=some x) (hx:Loc X.env.scope x) (r:RelV v u)
  (h:∀s',Inv X pins (σ.set i (some v)) H s'→Q () s') (hf:X.fn x=true∨X.env.scope.names.lookup x=some .local:=by first | exact .inl rfl | exact .inr rfl | assumption):wpAny M A (storeName X.env x u) Q E s :=
 zz2 I hN hi hx r (fun s' I' _=>h s' I') hf
end
abbrev XK:=Value→Option Addr→Hp→Prop
abbrev St:=List (Option V)
abbrev VK:=V→Hp→Prop
abbrev TE:=St→Hp→VK→Prop
abbrev TT:=St→Hp→(Bool→Hp→Prop)→Prop
abbrev TA:=St→Hp→(List V→Hp→Prop)→Prop
structure Ends where
 nx:St→Hp→Prop
 rt:VK
 bk:St→Hp→Prop:=fun _ _=>False
 ct:St→Hp→Prop:=fun _ _=>False
abbrev TS:=Ends→St→Hp→Prop
def EP (X:Cx) (pins:List (Addr×Obj)) (σ:St) (Q:VK) (u:Value) (s':zaz5):Prop := ∃v H',Inv X pins σ H' s'∧RelV v u∧Q v H'
def TP (X:Cx) (pins:List (Addr×Obj)) (σ:St) (Q:Bool→Hp→Prop) (b:Bool) (s':zaz5):Prop := ∃H',Inv X pins σ H' s'∧Q b H'
noncomputable def AP (X:Cx) (pins:List (Addr×Obj)) (σ:St) (Q:List V→Hp→Prop) (us:List Value) (s':zaz5):Prop := ∃vs H',Inv X pins σ H' s'∧Vals vs us∧Q vs H'
noncomputable def SP (X:Cx) (pins:List (Addr×Obj)) (D:Ends) (f:Flow) (s':zaz5):Prop :=
 match f with
 |.next => ∃σ' H',Inv X pins σ' H' s'∧D.nx σ' H'
 |.brk => ∃σ' H',Inv X pins σ' H' s'∧D.bk σ' H'
 |.cont => ∃σ' H',Inv X pins σ' H' s'∧D.ct σ' H'
 |.ret u => ∃v σ' H',Inv X pins σ' H' s'∧RelV v u∧D.rt v H'
noncomputable def PE (X:Cx) (e:Expr) (t:TE):Prop :=
 ∀(pins:List (Addr×Obj)) (s:zaz5) (σ:St) (H:Hp) (Q:VK),Inv X pins σ H s→t σ H Q→wpAny (model X.prog X.w) X.A (eval e X.env) (EP X pins σ Q) X.xe s
noncomputable def PT (X:Cx) (e:Expr) (t:TT):Prop :=
 ∀(pins:List (Addr×Obj)) (s:zaz5) (σ:St) (H:Hp) (Q:Bool→Hp→Prop),Inv X pins σ H s→t σ H Q→wpAny (model X.prog X.w) X.A (isTrue e X.env (eval e X.env)) (TP X pins σ Q) X.xe s
noncomputable def PW (X:Cx) (e:Expr) (t:TT):Prop :=
 ∀(whole:Sem Value) (pins:List (Addr×Obj)) (s:zaz5) (σ:St) (H:Hp) (Q:Bool→Hp→Prop),Inv X pins σ H s→t σ H Q→wpAny (model X.prog X.w) X.A (isTrue e X.env whole) (TP X pins σ Q) X.xe s
theorem PW.pt {X:Cx}{e:Expr}{t:TT} (h:PW X e t):PT X e t:=h _
noncomputable def PA (X:Cx) (es:List Expr) (t:TA):Prop :=
 ∀(pos:Pos) (pins:List (Addr×Obj)) (s:zaz5) (σ:St) (H:Hp) (Q:List V→Hp→Prop),Inv X pins σ H s→t σ H Q→wpAny (model X.prog X.w) X.A (spliced (zbf6 pos (zba7 es X.env))) (AP X pins σ Q) X.xe s
noncomputable def PS (X:Cx) (st:Stmt) (t:TS):Prop :=
 ∀(pins:List (Addr×Obj)) (s:zaz5) (σ:St) (H:Hp) (D:Ends),Inv X pins σ H s→t D σ H→wpAny (model X.prog X.w) X.A (exec st X.env) (SP X pins D) X.xe s
noncomputable def PSs (X:Cx) (st:List Stmt) (t:TS):Prop :=
 ∀(pins:List (Addr×Obj)) (s:zaz5) (σ:St) (H:Hp) (D:Ends),Inv X pins σ H s→t D σ H→wpAny (model X.prog X.w) X.A (execs st X.env) (SP X pins D) X.xe s
theorem thn {α:Type}{t:Sem α}{Q Q':α→zaz5→Prop}{M:Model}{A:Around}{E:Value→zaz5→Prop}{s:zaz5} (h:wpAny M A t Q E s) (hQ:∀a s,Q a s→Q' a s):wpAny M A t Q' E s:=wpAny_mono h hQ fun _ _ x=>x
end L2
namespace L2
open PySem.Spec
section
variable {X:Cx}
theorem bin {a b:Expr}{ta tb:TE} (ha:PE X a ta) (hb:PE X b tb) {pins:List (Addr×Obj)}{s:zaz5}{σ:St}{H:Hp}{R:V→V→Hp→Prop} (I:Inv X pins σ H s) (h:ta σ H fun x H1=>tb σ H1 fun y H2=>R x y H2)
  {α:Type}{Q:α→zaz5→Prop}{f:Value→Value→Sem α}
  (hf:∀v u s2 x y H2,Inv X pins σ H2 s2→RelV x v→RelV y u→R x y H2→wpAny (model X.prog X.w) X.A (f v u) Q X.xe s2) :
  wpAny (model X.prog X.w) X.A (eval a X.env) (fun v s₁=>wpAny (model X.prog X.w) X.A (eval b X.env) (fun u s₂=>wpAny (model X.prog X.w) X.A (f v u) Q X.xe s₂) X.xe s₁) X.xe s:=by
 refine thn (ha pins s σ H _ I h) fun v s1 ⟨x,H1,I1,r1,q1⟩=>?_
 refine thn (hb pins s1 σ H1 _ I1 q1) fun u s2 ⟨y,H2,I2,r2,q2⟩=>?_
 exact hf v u s2 x y H2 I2 r1 r2 q2
def tVar (i:Nat):TE:=fun σ H Q => ∃v,σ[i]?=some (some v)∧Q v H
def tC (v:V):TE:=fun _ H Q=>Q v H
theorem zr8 {i:Nat}{x:Str}{pos:Pos} (hN:X.N[i]?=some x) (hv:Vis X.env.scope x) (hd:(x ==("__debug__":Str))=false:=by decide) (hcd:(x ==("__classdict__":Str))=false:=by decide):PE X (.Name x pos) (tVar i):=by
 intro pins s σ H Q I h
 obtain⟨v,e,h⟩:=h
 obtain⟨m,hn,hl⟩:=I.loc
 obtain⟨u,r,l⟩:=hl i x v hN e hv
 have fin:EP X pins σ Q u s:=⟨v,H,I,r,h⟩
 rcases l with ⟨hk,hm⟩ | ⟨hk,c,hc,hcell⟩
 ·exact wpAny_Name (wpAny_loadName_local I.ok.kind hk hn hm fin) hd
 ·rcases hk with hk | hk
  ·exact wpAny_Name (wpAny_loadName_cell I.ok.kind hk hc hcell fin) hd
  ·exact wpAny_Name (wpAny_loadName_free I.ok.kind hk hc hcell fin hcd) hd
theorem pe_int {i j pos}:PE X (.Constant (.int i) j pos) (tC (.int i)):=fun _ _ _ H _ I h=>wpAny_Constant_int ⟨.int i,H,I.tok _,⟨_,rfl⟩,h⟩
theorem pe_bl {b j pos}:PE X (.Constant (.bool b) j pos) (tC (.bl b)):=fun _ _ _ H _ I h=>Constant_bool ⟨.bl b,H,I,rfl,h⟩
theorem pe_non {j pos}:PE X (.Constant .none j pos) (tC .non):=fun _ _ _ H _ I h=>Constant_none ⟨.non,H,I,rfl,h⟩
theorem pe_str {x j pos}:PE X (.Constant (.str x) j pos) (tC (.str x)):=fun _ _ _ H _ I h=>Calls.Constant_str ⟨.str x,H,I.tok _,⟨_,rfl⟩,h⟩
def Gl (X:Cx) (x:Str):Prop:=X.env.kindOf x=some .globalImplicit
theorem zat4 {E:Value→zaz5→Prop}{pins:List (Addr×Obj)}{s:zaz5}{σ:St}{H:Hp}{x:Str}{u:Value}{pos:Pos}{Q:Value→zaz5→Prop} (I:Inv X pins σ H s) (hg:Gl X x) (hm:X.mg x=some u) (h:Q u s)
  (hd:(x ==("__debug__":Str))=false:=by decide):wpAny (model X.prog X.w) X.A (eval (.Name x pos) X.env) Q E s :=
 Calls.Name_function_global I.ok.kind hg (Calls.loadGlobal_global (by rw [I.ok.glob];exact I.mod.glob.keeps I.bk) hm h) hd
theorem zs2 {E:Value→zaz5→Prop}{pins:List (Addr×Obj)}{s:zaz5}{σ:St}{H:Hp}{x:Str}{u:Value}{pos:Pos}{Q:Value→zaz5→Prop} (I:Inv X pins σ H s) (hg:Gl X x) (hm:X.mg x=none) (hv:bootBuiltins x=some u) (h:Q u s)
  (hn:x≠"__name__":=by decide) (hd:(x ==("__debug__":Str))=false:=by decide):wpAny (model X.prog X.w) X.A (eval (.Name x pos) X.env) Q E s:=by
 obtain⟨mb,h1,h2⟩:=I.mod.blt
 exact Calls.Name_function_global I.ok.kind hg (Calls.loadGlobal_builtin (by rw [I.ok.glob];exact I.mod.glob.keeps I.bk) hm (by rw [I.ok.blt];exact h1.keeps I.bk) ((h2 x hn).trans hv) h) hd
theorem pe_glob {x:Str}{v:V}{u:Value}{pos:Pos} (hg:Gl X x) (hm:X.mg x=some u) (r:RelV v u) (hd:(x ==("__debug__":Str))=false:=by decide):PE X (.Name x pos) (tC v) :=
 fun _ _ _ H _ I h=>zat4 I hg hm ⟨v,H,I,r,h⟩ hd
theorem pe_bltn {x:Str}{v:V}{u:Value}{pos:Pos} (hg:Gl X x) (hm:X.mg x=none) (hv:bootBuiltins x=some u) (r:RelV v u) (hn:x≠"__name__":=by decide) (hd:(x ==("__debug__":Str))=false:=by decide):PE X (.Name x pos) (tC v) :=
 fun _ _ _ H _ I h=>zs2 I hg hm hv ⟨v,H,I,r,h⟩ hn hd
variable {a b:Expr}{ta tb:TE}{pos:Pos}
variable {tA tB':TT}{rest:List Expr}
def tAnd (t u:TT):TT:=fun σ H Q=>t σ H fun c H1=>if c=true then u σ H1 Q else Q false H1
def tOr (t u:TT):TT:=fun σ H Q=>t σ H fun c H1=>if c=true then Q true H1 else u σ H1 Q
def tNot (t:TT):TT:=fun σ H Q=>t σ H fun c H1=>Q (!c) H1
theorem pw_and1 (ha:PT X a tA):PW X (.BoolOp .And [a] pos) tA:=by
 intro wh pins s σ H Q I h
 refine isTrue_and (thn (ha pins s σ H Q I h) fun c s1 e=>?_)
 cases c with
 |true=>exact isTrue_and_nil e
 |false=>exact e
theorem pw_or1 (ha:PT X a tA):PW X (.BoolOp .Or [a] pos) tA:=by
 intro wh pins s σ H Q I h
 refine isTrue_or (thn (ha pins s σ H Q I h) fun c s1 e=>?_)
 cases c with
 |false=>exact isTrue_or_nil e
 |true=>exact e
theorem pw_and (ha:PT X a tA) (hb:PW X (.BoolOp .And (b::rest) pos) tB'):PW X (.BoolOp .And (a::b::rest) pos) (tAnd tA tB'):=by
 intro wh pins s σ H Q I h
 refine isTrue_and (thn (ha pins s σ H _ I h) fun c s1 ⟨H1,I1,q1⟩=>?_)
 cases c with
 |true=>exact hb wh pins s1 σ H1 Q I1 q1
 |false=>exact⟨H1,I1,q1⟩
theorem pw_or (ha:PT X a tA) (hb:PW X (.BoolOp .Or (b::rest) pos) tB'):PW X (.BoolOp .Or (a::b::rest) pos) (tOr tA tB'):=by
 intro wh pins s σ H Q I h
 refine isTrue_or (thn (ha pins s σ H _ I h) fun c s1 ⟨H1,I1,q1⟩=>?_)
 cases c with
 |true=>exact⟨H1,I1,q1⟩
 |false=>exact hb wh pins s1 σ H1 Q I1 q1
theorem pt_not (ha:PT X a tA):PT X (.UnaryOp .Not a pos) (tNot tA):=by
 intro pins s σ H Q I h
 exact isTrue_not (ha pins s σ H (fun c H1=>Q (!c) H1) I h)
def tAndV (ta tb:TE):TE:=fun σ H Q=>ta σ H fun x H1 => ∃c,x=.bl c∧if c=true then tb σ H1 Q else Q (.bl false) H1
def tOrV (ta tb:TE):TE:=fun σ H Q=>ta σ H fun x H1 => ∃c,x=.bl c∧if c=true then Q (.bl true) H1 else tb σ H1 Q
def tNotV (ta:TE):TE:=fun σ H Q=>ta σ H fun x H1 => ∃c,x=.bl c∧Q (.bl (!c)) H1
theorem pe_one {op}{t:TE} (h:PE X a t):PE X (.BoolOp op [a] pos) t:=fun pins s σ H Q I hw=>BoolOp_one (h pins s σ H Q I hw)
theorem pe_and (ha:PE X a ta) (hb:PE X (.BoolOp .And (b::rest) pos) tb):PE X (.BoolOp .And (a::b::rest) pos) (tAndV ta tb):=by
 intro pins s σ H Q I h
 refine BoolOp_and (thn (ha pins s σ H _ I h) fun v s1 ⟨x,H1,I1,r1,q1⟩=>?_)
 obtain⟨c,rfl,q1⟩:=q1
 cases r1
 refine wpAny_truthy_bool ?_
 cases c with
 |true=>exact hb pins s1 σ H1 Q I1 q1
 |false=>exact⟨.bl false,H1,I1,rfl,q1⟩
theorem pe_or (ha:PE X a ta) (hb:PE X (.BoolOp .Or (b::rest) pos) tb):PE X (.BoolOp .Or (a::b::rest) pos) (tOrV ta tb):=by
 intro pins s σ H Q I h
 refine BoolOp_or (thn (ha pins s σ H _ I h) fun v s1 ⟨x,H1,I1,r1,q1⟩=>?_)
 obtain⟨c,rfl,q1⟩:=q1
 cases r1
 refine wpAny_truthy_bool ?_
 cases c with
 |false=>exact hb pins s1 σ H1 Q I1 q1
 |true=>exact⟨.bl true,H1,I1,rfl,q1⟩
theorem pe_not (ha:PE X a ta):PE X (.UnaryOp .Not a pos) (tNotV ta):=by
 intro pins s σ H Q I h
 refine UnaryOp_ (thn (ha pins s σ H _ I h) fun v s1 ⟨x,H1,I1,r1,q1⟩=>?_)
 obtain⟨c,rfl,q1⟩:=q1
 cases r1
 exact not_of (wpAny_truthy_bool ⟨.bl (!c),H1,I1,rfl,q1⟩)
end
end L2
namespace L2
open PySem.Spec
noncomputable def SqL (K:zay3) (H:Hp) (a:Addr) (xs:List V):Prop :=
 Rd H a (.lst xs) ∨
  ∃(o:Obj) (its:Array Value) (n:Nat),K.lookup a=some o∧o.cls=.type "list"∧o.dict=none∧o.data=.seq its n∧its.size≤sizeLine∧Vals xs its.toList
noncomputable def SqT (K:zay3) (H:Hp) (a:Addr) (xs:List V):Prop :=
 Rd H a (.tup xs) ∨
  ∃(o:Obj) (its:Array Value) (n:Nat),K.lookup a=some o∧o.cls=.type "tuple"∧o.data=.seq its n∧its.size≤sizeLine∧Vals xs its.toList
noncomputable def absV:Value→Option V
 |.none=>some .non
 |.bool b=>some (.bl b)
 |.int i _=>some (.int i)
 |.str x _=>some (.str x)
 |.bytes b _=>some (.byt b)
 |.float b _=>some (.flt b)
 |.ref a=>some (.ref a)
 |.type n=>some (.ty n)
 |_=>none
theorem RelV.abs {x:V}{u:Value} (r:RelV x u):absV u=some x:=by
 cases x with
 |non=>cases r;rfl
 |bl _=>cases r;rfl
 |int _=>obtain⟨t,rfl⟩:=r;rfl
 |str _=>obtain⟨t,rfl⟩:=r;rfl
 |byt _=>obtain⟨t,rfl⟩:=r;rfl
 |flt _=>obtain⟨t,rfl⟩:=r;rfl
 |ref _=>cases r;rfl
 |ty _=>cases r;rfl
theorem RelV.inj {x y:V}{u:Value} (r:RelV x u) (q:RelV y u):x=y:=Option.some.inj (r.abs.symm.trans q.abs)
theorem Vals.inj:∀ {xs ys:List V}{us:List Value},Vals xs us→Vals ys us→xs=ys
 |_,_,_,.nil,.nil=>rfl
 |_,_,_,.cons r t,.cons r' t'=>by rw [r.inj r',Vals.inj t t']
section
variable {X:Cx}{pins:List (Addr×Obj)}{σ:St}{H:Hp}{s:zaz5}{a:Addr}{xs ys:List V}
theorem SqL.of {K:zay3} (h:H a=some (.lst xs)):SqL K H a xs:=.inl (.inl h)
theorem SqT.of {K:zay3} (h:H a=some (.tup xs)):SqT K H a xs:=.inl (.inl h)
theorem Inv.list (I:Inv X pins σ H s) (h:SqL X.K H a xs):∃its:List Value,Vals xs its∧PlainL s.heap a its.toArray∧xs.length≤sizeLine:=by
 rcases h with h | ⟨o,its,n,hk,hc,hd,hs,hz,r⟩
 ·obtain⟨z,its,n,r,e⟩:=h.ok I.hok
  exact⟨its,r,⟨_,n,e,rfl,rfl,rfl⟩,z⟩
 ·refine⟨its.toList,r,⟨o,n,I.kIn a o hk,hc,hd,by simpa using hs⟩,?_⟩
  have e:=r.length
  simp only [zbg1]at e
  lia
theorem Inv.tuple (I:Inv X pins σ H s) (h:SqT X.K H a xs):∃its:List Value,Vals xs its∧IsTup s.heap a its.toArray∧xs.length≤sizeLine:=by
 rcases h with h | ⟨o,its,n,hk,hc,hs,hz,r⟩
 ·obtain⟨z,its,r,p⟩:=h.ok I.hok
  exact⟨its,r,p,z⟩
 ·refine⟨its.toList,r,⟨o,I.kIn a o hk,hc,n,by simpa using hs⟩,?_⟩
  have e:=r.length
  simp only [zbg1]at e
  lia
theorem Inv.list_inj (I:Inv X pins σ H s) (h:SqL X.K H a xs) (h':SqL X.K H a ys):xs=ys:=by
 obtain⟨its,r,⟨o,n,e,_,_,d⟩,_⟩:=I.list h
 obtain⟨its',r',⟨o',n',e',_,_,d'⟩,_⟩:=I.list h'
 rw [e]at e';cases e'
 rw [d]at d'
 injection d' with d1 _
 have:its=its':=by simpa using congrArg Array.toList d1
 subst this
 exact r.inj r'
theorem Inv.tuple_inj (I:Inv X pins σ H s) (h:SqT X.K H a xs) (h':SqT X.K H a ys):xs=ys:=by
 obtain⟨its,r,⟨o,e,_,n,d⟩,_⟩:=I.tuple h
 obtain⟨its',r',⟨o',e',_,n',d'⟩,_⟩:=I.tuple h'
 rw [e]at e';cases e'
 rw [d]at d'
 injection d' with d1 _
 have:its=its':=by simpa using congrArg Array.toList d1
 subst this
 exact r.inj r'
end
abbrev Cx.wish (X:Cx) (E:Value→zaz5→Prop):Cx:={ X with xe:=E }
abbrev Cx.nox (X:Cx):Cx:=X.wish fun _ _=>False
theorem Cx.Ok.wish {X:Cx} (ok:X.Ok) (E:Value→zaz5→Prop):(X.wish E).Ok :=
 ⟨ok.mod,ok.kind,ok.glob,ok.blt,ok.above,ok.inj,ok.has,ok.cab,ok.hd,ok.frames,ok.stk,ok.exf,ok.bs,ok.bsz,ok.noex,ok.exfs,ok.funs,ok.frf,ok.tabs⟩
theorem Cx.Ok.unwish {X:Cx}{E:Value→zaz5→Prop} (ok:(X.wish E).Ok):X.Ok :=
 ⟨ok.mod,ok.kind,ok.glob,ok.blt,ok.above,ok.inj,ok.has,ok.cab,ok.hd,ok.frames,ok.stk,ok.exf,ok.bs,ok.bsz,ok.noex,ok.exfs,ok.funs,ok.frf,ok.tabs⟩
section
variable {X:Cx}{pins:List (Addr×Obj)}{σ:St}{H:Hp}{s:zaz5}{E:Value→zaz5→Prop}
theorem Inv.wish (I:Inv X pins σ H s) (E:Value→zaz5→Prop):Inv (X.wish E) pins σ H s:=⟨I.ok.wish E,I.os,I.bare,I.base,I.loc,I.cell,I.free,I.freeC,I.pin,I.hok,I.len⟩
theorem Inv.unwish (I:Inv (X.wish E) pins σ H s):Inv X pins σ H s:=⟨I.ok.unwish,I.os,I.bare,I.base,I.loc,I.cell,I.free,I.freeC,I.pin,I.hok,I.len⟩
theorem SP.unwish {D:Ends}{f:Flow}{s':zaz5} (h:SP (X.wish E) pins D f s'):SP X pins D f s':=by
 cases f with
 |next=>obtain⟨σ',H',I,q⟩:=h;exact⟨σ',H',I.unwish,q⟩
 |brk=>obtain⟨σ',H',I,q⟩:=h;exact⟨σ',H',I.unwish,q⟩
 |cont=>obtain⟨σ',H',I,q⟩:=h;exact⟨σ',H',I.unwish,q⟩
 |ret u=>obtain⟨v,σ',H',I,r,q⟩:=h;exact⟨v,σ',H',I.unwish,r,q⟩
theorem PSs.nox {st:List Stmt}{t:TS} (h:PSs X.nox st t):PSs X st t:=fun pins s σ H D I hw =>
 wpAny_mono (h pins s σ H D (I.wish _) hw) (fun _ _ q=>q.unwish) fun _ _ z=>False.elim z
end
section
variable {X:Cx}{st:Stmt}{rest:List Stmt}{t u:TS}{e:Expr}{te:TE}{pos:Pos}
def tNext:TS:=fun D σ H=>D.nx σ H
def tSeq (t u:TS):TS:=fun D σ H=>t { D with nx:=u D } σ H
theorem zar1:PSs X [] tNext:=fun _ _ σ H _ I h=>wpAny_execs_nil ⟨σ,H,I,h⟩
theorem zw5 (h1:PS X st t) (h2:PSs X rest u):PSs X (st::rest) (tSeq t u):=by
 intro pins s σ H D I h
 refine wpAny_execs_cons (thn (h1 pins s σ H { D with nx:=u D } I h) fun f s1 q=>?_)
 cases f with
 |next =>
  obtain⟨σ',H',I',q⟩:=q
  exact h2 pins s1 σ' H' D I' q
 |ret v=>exact q
 |brk=>exact q
 |cont=>exact q
theorem zaf3 (h1:PS X st t):PSs X [st] t:=by
 intro pins s σ H D I h
 refine wpAny_execs_cons (thn (h1 pins s σ H D I h) fun f s1 q=>?_)
 cases f with
 |next=>exact wpAny_execs_nil q
 |ret v=>exact q
 |brk=>exact q
 |cont=>exact q
theorem Inv.quiet {pins:List (Addr×Obj)}{σ:St}{H:Hp}{s:zaz5} (I:Inv X pins σ H s):interactive X.env=false:=by simp [interactive,I.ok.kind]
def tDrop (te:TE):TS:=fun D σ H=>te σ H fun _ H1=>D.nx σ H1
theorem zaf4 (he:PE X e te) (hs:swapsWith e none pos.line X.env=pure false:=by rfl):PS X (.Expr e pos) (tDrop te):=by
 intro pins s σ H D I h
 exact wpAny_Expr_any (thn (he pins s σ H _ I h) fun v s1 ⟨x,H1,I1,r1,q1⟩=>⟨σ,H1,I1,q1⟩) I.quiet hs
def tRet (te:TE):TS:=fun D σ H=>te σ H D.rt
theorem zar5 (he:PE X e te):PS X (.Return (some e) pos) (tRet te):=by
 intro pins s σ H D I h
 exact wpAny_Return_some (thn (he pins s σ H _ I h) fun v s1 ⟨x,H1,I1,r1,q1⟩=>⟨x,σ,H1,I1,r1,q1⟩)
def tIfS (c:TT) (t u:TS):TS:=fun D σ H=>c σ H fun b H1=>if b=true then t D σ H1 else u D σ H1
theorem ps_if {c:Expr}{a b:List Stmt}{tc:TT} (hc:PT X c tc) (ha:PSs X a t) (hb:PSs X b u):PS X (.If c a b pos) (tIfS tc t u):=by
 intro pins s σ H D I h
 refine wpAny_If (thn (hc pins s σ H _ I h) fun d s1 ⟨H1,I1,q1⟩=>?_)
 cases d with
 |true=>exact ha pins s1 σ H1 D I1 q1
 |false=>exact hb pins s1 σ H1 D I1 q1
end
abbrev TG:=V→St→Hp→(St→Hp→Prop)→Prop
abbrev TGs:=List V→St→Hp→(St→Hp→Prop)→Prop
noncomputable def PG (X:Cx) (target:Expr) (t:TG):Prop :=
 ∀(pins:List (Addr×Obj)) (s:zaz5) (σ:St) (H:Hp) (v:V) (u:Value) (Q:St→Hp→Prop),Inv X pins σ H s→RelV v u→t v σ H Q →
  wpAny (model X.prog X.w) X.A (assign target X.env u) (fun _ s' => ∃σ' H',Inv X pins σ' H' s'∧Q σ' H') X.xe s
noncomputable def PGs (X:Cx) (ts:List Expr) (t:TGs):Prop :=
 ∀(pins:List (Addr×Obj)) (s:zaz5) (σ:St) (H:Hp) (vs:List V) (us:List Value) (Q:St→Hp→Prop),Inv X pins σ H s→Vals vs us→t vs σ H Q →
  wpAny (model X.prog X.w) X.A (assignInOrder ((assignEach ts X.env).map (·.2)) us) (fun _ s' => ∃σ' H',Inv X pins σ' H' s'∧Q σ' H') X.xe s
section
variable {X:Cx}{pos:Pos}
def zau6 (i:Nat):TG:=fun v σ H Q=>Q (σ.set i (some v)) H
theorem ze5 {i:Nat}{x:Str} (hN:X.N.Nodup) (hi:X.N[i]?=some x) (hx:Loc X.env.scope x) (hf:X.fn x=true∨X.env.scope.names.lookup x=some .local:=by first | exact .inl rfl | exact .inr rfl | assumption):PG X (.Name x pos) (zau6 i):=by
 intro pins s σ H v u Q I r h
 exact wpAny_assign_Name (zai7 I hN hi hx r (fun s' I'=>⟨_,H,I',h⟩) hf)
def gNil:TGs:=fun vs σ H Q=>vs=[]∧Q σ H
def gCons (t:TG) (u:TGs):TGs:=fun vs σ H Q => ∃v r,vs=v::r∧t v σ H fun σ' H'=>u r σ' H' Q
theorem zp0:PGs X [] gNil:=by
 intro pins s σ H vs us Q I r h
 obtain⟨e,h⟩:=h
 subst e
 cases r
 exact assignInOrder_nil ⟨σ,H,I,h⟩
theorem zf1 {e:Expr}{es:List Expr}{t:TG}{u:TGs} (h1:PG X e t) (h2:PGs X es u)
  (hs:(assignEach (e::es) X.env).map (·.2)=assign e X.env ::(assignEach es X.env).map (·.2):=by rfl):PGs X (e::es) (gCons t u):=by
 intro pins s σ H vs us Q I r h
 obtain⟨v,vr,e1,h⟩:=h
 subst e1
 cases r with
 |cons r rr =>
  rw [hs]
  refine assignInOrder_cons (thn (h1 pins s σ H _ _ _ I r h) fun _ s1 ⟨σ1,H1,I1,q1⟩=>?_)
  exact h2 pins s1 σ1 H1 _ _ Q I1 rr q1
def gTup (K:zay3) (n:Nat) (t:TGs):TG:=fun v σ H Q => ∃a xs,v=.ref a∧SqT K H a xs∧xs.length=n∧t xs σ H Q
theorem zaa5 {es:List Expr}{k:Nat}{t:TGs}{n:Nat} (hc:X.calm=true) (h:PGs X es t)
  (hn:(assignEach es X.env).length=n:=by rfl) (hst:(assignEach es X.env).findIdx? (·.1)=none:=by rfl):PG X (.Tuple es k pos) (gTup X.K n t):=by
 intro pins s σ H v u Q I r hw
 obtain⟨a,xs,e1,hq,hl,hw⟩:=hw
 subst e1
 cases r
 obtain⟨its,rv,ht,hz⟩:=I.tuple hq
 refine assign_Tuple_tuple (I.ok.hd hc) ht (by simp [hn, ← hl,rv.length]) hst fun h' hx=>?_
 have I1:Inv X pins σ H { s with heap:=h' }:=I.kept (t':=s.toks) fun b o e=>hx b o (zbb9 (zaz9 e)) e
 exact h pins _ σ H xs _ Q I1 (by simpa using rv) hw
def tAsg (te:TE) (g:TG):TS:=fun D σ H=>te σ H fun x H1=>g x σ H1 D.nx
theorem ps_asg {tg e:Expr}{te:TE}{g:TG} (he:PE X e te) (hg:PG X tg g) (hs:swapsWithSole [tg] e pos.line X.env=pure false:=by rfl) (hw:swappedStores [tg] e X.env=pure none:=by rfl)
  (h1:(assignEach [tg] X.env).map (·.2)=[assign tg X.env]:=by rfl):PS X (.Assign [tg] e pos) (tAsg te g):=by
 intro pins s σ H D I h
 refine wpAny_Assign_stores (thn (he pins s σ H _ I h) fun v s1 ⟨x,H1,I1,r1,q1⟩=>?_) hs hw
 rw [h1]
 exact thn (hg pins s1 σ H1 x v _ I1 r1 q1) fun _ s2 q=>q
theorem zar4 {i:Nat}{x:Str}{e:Expr}{te:TE}{pos':Pos} (hN:X.N.Nodup) (hi:X.N[i]?=some x) (hx:Loc X.env.scope x) (he:PE X e te) (hs:swapsWith e (some (.Name x pos')) pos.line X.env=pure false:=by rfl) (hf:X.fn x=true∨X.env.scope.names.lookup x=some .local:=by first | exact .inl rfl | exact .inr rfl | assumption) :
  PS X (.Assign [.Name x pos'] e pos) (tAsg te (zau6 i)):=by
 intro pins s σ H D I h
 refine wpAny_Assign_Name (thn (he pins s σ H _ I h) fun v s1 ⟨y,H1,I1,r1,q1⟩=>?_) hs
 exact zai7 I1 hN hi hx r1 (fun s2 I2=>⟨_,H1,I2,q1⟩) hf
end
structure It where
 go:Nat→Hp→Prop
 yld:Nat→Hp→V→Hp→Prop
 stop:Nat→Hp→Prop
noncomputable def FpOk (X:Cx) (pins:List (Addr×Obj)) (H:Hp) (b:Addr):Prop :=
 H b=none∧b≠X.env.locals∧b∉X.fs∧(b∈X.ex∨X.s₀.heap.objs.size≤b)∧(∀x c,X.env.cells.lookup x=some c→c≠b)∧∀p∈X.pn++pins,p.1≠b
theorem Inv.fpOk {X:Cx}{pins:List (Addr×Obj)}{σ:St}{H H':Hp}{s:zaz5}{b:Addr} (I:Inv X pins σ H s) (hb:s.heap.objs.size≤b) (hn:H' b=none):FpOk X pins H' b:=by
 refine⟨hn,zbh5 (zba5 I.lt hb),I.nofs hb,.inr (zbd7 I.sz hb),fun x c e z=>?_,fun p hp z=>?_⟩
 ·obtain⟨v,q⟩:=I.cell x c e
  exact absurd (zba5 q.lt (by rw [z];exact hb)) (zbd1 _)
 ·exact absurd (zba5 (zaz9 (I.pin p hp).1) (by rw [z];exact hb)) (zbd1 _)
structure Turn (P:Program) (w:World) (K:zay3) (tg:Expr) (J:It) (fp:List Addr) (it:Addr) (tn:Nat→Heap→Prop):Prop where
 mem:it∈fp
 obj:∀i h,tn i h→∀b∈fp,∃o,h.get? b=some o∧∀v,o.data≠.cell v
 keep:∀i h h',tn i h→(∀b∈fp,∀o,h.get? b=some o→h'.get? b=some o)→tn i h'
 item:∀(X:Cx),X.prog=P→X.w=w→X.K=K→X.calm=true→∀(i:Nat) (pins:List (Addr×Obj)) (s:zaz5) (σ:St) (H:Hp) (E:Value→zaz5→Prop),Inv X pins σ H s→(∀b∈fp,FpOk X pins H b)→tn i s.heap→J.go i H →
  wpAny (model P w) X.A (pyNext (.ref it)) (fun r s1 => ∃u,r=some u ∧
   wpAny (model P w) X.A (letOwnedTupleGo tg (.ref it) u) (fun _ s2 => ∃x H',Inv X pins σ H' s2∧RelV x u∧J.yld i H x H'∧tn (i+1) s2.heap∧∀b∈fp,H' b=none) E s1) E s
 done:∀(X:Cx),X.prog=P→X.w=w→X.K=K→X.calm=true→∀(i:Nat) (pins:List (Addr×Obj)) (s:zaz5) (σ:St) (H:Hp) (E:Value→zaz5→Prop),Inv X pins σ H s→(∀b∈fp,FpOk X pins H b)→tn i s.heap→J.stop i H →
  wpAny (model P w) X.A (pyNext (.ref it)) (fun r s1=>r=none∧Inv X pins σ H s1) E s
 self:∀(A:Around) (i:Nat) (s:zaz5) (Q:Value→zaz5→Prop) (E:Value→zaz5→Prop),tn i s.heap→Q (.ref it) s→wpAny (model P w) A (pyIter (.ref it)) Q E s
abbrev TI:=St→Hp→(It→Hp→Prop)→Prop
noncomputable def PIE (X:Cx) (pins:List (Addr×Obj)) (σ:St) (tg:Expr) (R:It→Hp→Prop) (itv:Value) (s2:zaz5):Prop :=
 ∃(it:Addr) (fp:List Addr) (tn:Nat→Heap→Prop) (J:It) (H':Hp),itv=.ref it∧Inv X pins σ H' s2∧Turn X.prog X.w X.K tg J fp it tn∧tn 0 s2.heap∧(∀b∈fp,FpOk X pins H' b)∧R J H'
noncomputable def PI (X:Cx) (tg iter:Expr) (wi:TI):Prop :=
 ∀(pins:List (Addr×Obj)) (s:zaz5) (σ:St) (H:Hp) (R:It→Hp→Prop),Inv X pins σ H s→wi σ H R →
  wpAny (model X.prog X.w) X.A (eval iter X.env) (fun v s1=>wpAny (model X.prog X.w) X.A (pyIter v) (PIE X pins σ tg R) X.xe s1) X.xe s
theorem go_of {M:Model}{A:Around}{E:Value→zaz5→Prop}{s:zaz5}{tg:Expr}{it:Addr}{u:Value}{o:Obj}{n:String}{vs:Array Value}{Q:Unit→zaz5→Prop} (ho:s.heap.get? it=some o) (hc:o.cls=.type n) (hd:o.data=.fields vs)
  (hn:["enumerate", "zip", "dict_itemiterator", "dict_reverseitemiterator", "odict_iterator", "itertools.zip_longest", "itertools.pairwise"].contains n=false) (hQ:Q () s):wpAny M A (letOwnedTupleGo tg (.ref it) u) Q E s:=by
 unfold letOwnedTupleGo
 cases tg<;>first
  |exact zba0 hQ
  |(cases u<;>first
    |exact zba0 hQ
    |(refine zay9 (wpAny_load ho ?_)
      rw [hc,hd]
      show wpAny M A (if (["enumerate", "zip", "dict_itemiterator", "dict_reverseitemiterator", "odict_iterator", "itertools.zip_longest", "itertools.pairwise"].contains n&&vs[0]? == some (rawInt _))=true then _ else _) Q E s
      rw [if_neg (by intro h;rw [hn,Bool.false_and]at h;cases h)]
      exact zba0 hQ))
noncomputable def Itl (K:zay3) (a:Addr):It :=
 ⟨fun i H => ∃xs x,SqL K H a xs∧xs[i]?=some x,fun i H x H'=>H'=H∧∀xs,SqL K H a xs→xs[i]?=some x,fun i H => ∃xs,SqL K H a xs∧xs.length≤i⟩
def Itr (lo:Int) (n:Nat):It:=⟨fun i _=>i<n,fun i H x H'=>H'=H∧x=.int (lo+i),fun i _=>n≤i⟩
theorem zap0 {P:Program}{w:World}{K:zay3}{tg:Expr} (a it:Addr):Turn P w K tg (Itl K a) [it] it (fun i h=>h.IsListIter it a i) where
 mem:=by simp
 obj:=fun i h st b hb=>by
  have e:b=it:=by simpa using hb
  subst e
  obtain⟨o,e,c,d⟩:=st
  exact⟨o,e,fun v z=>by rw [d]at z;cases z⟩
 keep:=fun i h h' st k=>st.at fun o e=>k it (by simp) o e
 item:=by
  intro X hP hw hK hc i pins s σ H E I hf st hg
  subst hP hw hK
  obtain⟨xs,x,hq,hx⟩:=hg
  obtain⟨its,rv,p,hz⟩:=I.list hq
  obtain⟨u,hu,ru⟩:=rv.get hx
  obtain⟨f0,f1,f2,f3,f4,f5⟩:=hf it (by simp)
  refine wpAny_pyNext_list_item st p.isList (x:=u) (by simpa using hu) fun h' st' sb=>?_
  have I1:Inv X pins σ H { s with heap:=h' }:=I.turned (t':=s.toks) (fun b o hb e=>(sb.2 b hb).trans e) f0 f1 f3 f4 f5
  obtain⟨o,e,c,d⟩:=id st'
  exact⟨u,rfl,go_of (s:={ s with heap:=h' }) e c d (by decide) ⟨x,H,I1,ru,⟨rfl,fun ys hy=>by rw [I.list_inj hy hq];exact hx⟩,st',fun b hb=>(hf b hb).1⟩⟩
 done:=by
  intro X hP hw hK hc i pins s σ H E I hf st hg
  subst hP hw hK
  obtain⟨xs,hq,hx⟩:=hg
  obtain⟨its,rv,p,hz⟩:=I.list hq
  obtain⟨f0,f1,f2,f3,f4,f5⟩:=hf it (by simp)
  have hl:=rv.length
  exact wpAny_pyNext_list_end (I.ok.hd hc) st p.isList (by simp;lia) fun h' eb=>⟨rfl,I.turned (t':=s.toks) (fun b o hb e=>eb b o hb e) f0 f1 f3 f4 f5⟩
 self:=fun _ _ _ _ _ st h=>wpAny_pyIter_listiter st h
theorem zam3 {P:Program}{w:World}{K:zay3}{tg:Expr} (it:Addr) (lo:Int) (n:Nat):Turn P w K tg (Itr lo n) [it] it (fun i h=>IsRangeIter h it (lo+(i:Nat)*1) ((n:Int) - (i:Nat)) 1) where
 mem:=by simp
 obj:=fun i h st b hb=>by
  have e:b=it:=by simpa using hb
  subst e
  exact⟨_,st,fun v z=>by
   have z':Data.fields _=Data.cell v:=z
   cases z'⟩
 keep:=fun i h h' st k=>k it (by simp) _ st
 item:=by
  intro X hP hw hK hc i pins s σ H E I hf st hg
  subst hP hw hK
  obtain⟨f0,f1,f2,f3,f4,f5⟩:=hf it (by simp)
  have W:=Walks.range (prog:=X.prog) (w:=X.w) (I.ok.hd hc) it lo 1 n
  refine W.item i s _ _ hg st fun v h' tk hv st' kk=>?_
  obtain⟨t,rfl⟩:=hv
  have I1:Inv X pins σ H { s with heap:=h',toks:=tk }:=I.turned (fun b o hb e=>kk b o (by simpa using hb) e) f0 f1 f3 f4 f5
  refine⟨_,rfl,go_of (s:={ s with heap:=h',toks:=tk }) (n := "range_iterator") st' rfl rfl (by decide) ⟨.int (lo+i),H,I1,⟨t,?_⟩,⟨rfl,rfl⟩,st',fun b hb=>(hf b hb).1⟩⟩
  rw [Int.mul_one]
 done:=by
  intro X hP hw hK hc i pins s σ H E I hf st hg
  subst hP hw hK
  obtain⟨f0,f1,f2,f3,f4,f5⟩:=hf it (by simp)
  exact wpAny_pyNext_range_end (I.ok.hd hc) st (by have:n≤i:=hg;lia) fun h' eb=>⟨rfl,I.turned (t':=s.toks) (fun b o hb e=>eb b o hb e) f0 f1 f3 f4 f5⟩
 self:=fun _ _ _ _ _ st h=>wpAny_pyIter_rangeiter st h
end L2
namespace L2
open PySem.Spec
section
variable {X:Cx}{tg:Expr}
def iList (K:zay3) (tl:TE):TI:=fun σ H R=>tl σ H fun x H1 => ∃a,x=.ref a∧(∃xs,SqL K H1 a xs)∧R (Itl K a) H1
theorem zas4 {l:Expr}{tl:TE} (hl:PE X l tl):PI X tg l (iList X.K tl):=by
 intro pins s σ H R I h
 refine thn (hl pins s σ H _ I h) fun v s1 ⟨x,H1,I1,r1,q1⟩=>?_
 obtain⟨a,e,⟨xs,hq⟩,q⟩:=q1
 subst e
 cases r1
 obtain⟨its,rv,p,hz⟩:=I1.list hq
 refine wpAny_pyIter_list p.isList ?_
 refine⟨s1.heap.objs.size,[s1.heap.objs.size],_,_,H1,rfl,I1.kept (t':=s1.toks) fun b o e=>zay7 _ e,zap0 a _,⟨_,zba8 _ rfl,rfl,rfl⟩,fun b hb=>?_,q⟩
 have e:b=s1.heap.objs.size:=by simpa using hb
 subst e
 exact I1.fpOk (zaz7 _) (I1.hok.fresh (zaz7 _))
theorem range_it {pins:List (Addr×Obj)}{σ:St}{H:Hp}{s:zaz5}{R:It→Hp→Prop}{E:Value→zaz5→Prop}{lo hi:Int}{t u v:Tok}{tk:Nat} (I:Inv X pins σ H s) (h1 : -(2 ^ 62)≤lo) (h2:lo<2 ^ 62) (h3 : -(2 ^ 62)≤hi) (h4:hi<2 ^ 62)
  (q:R (Itr lo (hi - lo).toNat) H):wpAny (model X.prog X.w) X.A (pyIter (.ref s.heap.objs.size)) (PIE X pins σ tg R) E { s with heap:=s.heap.push { cls:=.type "range",data:=.fields #[.int lo t,.int hi u,.int 1 v] },toks:=tk }:=by
 refine wpAny_pyIter_range (IsRange.new ..) (small_one h1 h2 h3 h4) ?_
 have I1:Inv X pins σ H { s with heap:=s.heap.push { cls:=.type "range",data:=.fields #[.int lo t,.int hi u,.int 1 v] },toks:=tk }:=I.kept fun b o e=>zay7 _ e
 refine⟨(s.heap.push { cls:=.type "range",data:=.fields #[.int lo t,.int hi u,.int 1 v] }).objs.size,[(s.heap.push { cls:=.type "range",data:=.fields #[.int lo t,.int hi u,.int 1 v] }).objs.size],_,_,H,rfl,
  I1.kept (t':=tk) fun b o e=>zay7 _ e,zam3 _ lo (hi - lo).toNat,?_,fun b hb=>?_,q⟩
 ·have e1:lo+((0:Nat):Int)*1=lo:=by simp
  have e2:(((hi - lo).toNat:Nat):Int) - ((0:Nat):Int)=Builtin.Range.rangeSize lo hi 1:=by rw [rangeSize_one];split<;>lia
  show IsRangeIter _ _ (lo+((0:Nat):Int)*1) ((((hi - lo).toNat:Nat):Int) - ((0:Nat):Int)) 1
  rw [e1,e2]
  exact zba8 _ rfl
 ·have e:b=(s.heap.push { cls:=.type "range",data:=.fields #[.int lo t,.int hi u,.int 1 v] }).objs.size:=by simpa using hb
  subst e
  exact I1.fpOk (zaz7 _) (I1.hok.fresh (zaz7 _))
def iRng1 (ta:TA):TI:=fun σ H R=>ta σ H fun vs H1 => ∃j:Int,vs=[.int j] ∧ -(2 ^ 62)≤j∧j<2 ^ 62∧R (Itr 0 j.toNat) H1
theorem zas3 {a:Expr}{ta:TA}{p pos:Pos} (hg:Gl X "range") (hm:X.mg "range"=none) (ha:PA X [a] ta) (hs:zba7 [a] X.env=[(false,eval a X.env)]:=by rfl):PI X tg (.Call (.Name "range" p) [a] [] pos) (iRng1 ta):=by
 intro pins s σ H R I h
 refine Call_ (zs2 I hg hm boot_range (PyProof.Rows.callWith_type1 (thn (ha pos pins s σ H _ I h) fun us s1 ⟨vs,H1,I1,r1,q1⟩=>?_) hs rfl))
 obtain⟨j,e,q1,q2,q⟩:=q1
 subst e
 cases r1 with
 |cons r rr =>
  cases rr
  obtain⟨t,rfl⟩:=r
  exact call_range_1 (range_it I1 (by lia) (by lia) q1 q2 (by simpa using q))
noncomputable def tFor (wi:TI) (g:TG) (tb:TS):TS:=fun D σ H=>wi σ H fun J H1 => ∃W:Nat→Nat→St→Hp→Prop,(∃m,W 0 m σ H1)∧∀i m σ H,W i m σ H →
 (J.stop i H∧D.nx σ H)∨(J.go i H∧∃N:St→Hp→Prop,(∀σ' H',N σ' H'→∃m',m' < m∧W (i+1) m' σ' H')∧∀x H',J.yld i H x H'→g x σ H' fun σ2 H2=>tb { D with nx:=N,ct:=N,bk:=D.nx } σ2 H2)
def zq1 (fp:List Addr) (h:Heap):List (Addr×Obj):=fp.filterMap fun b=>(h.get? b).map fun o=>(b,o)
theorem zh2 {fp:List Addr}{h:Heap}{b:Addr}{o:Obj} (hb:b∈fp) (e:h.get? b=some o):(b,o)∈zq1 fp h:=zbk0.mpr ⟨b,hb,by rw [e];rfl⟩
theorem zat0 {fp:List Addr}{h:Heap}{p:Addr×Obj} (hp:p∈zq1 fp h):p.1∈fp∧h.get? p.1=some p.2:=by
 obtain⟨b,hb,e⟩:=zbk0.mp hp
 cases q:h.get? b with
 |none=>rw [q]at e;cases e
 |some o =>
  rw [q]at e
  have e':(b,o)=p:=Option.some.inj e
  subst e'
  exact⟨hb,q⟩
theorem Inv.pinned {pins:List (Addr×Obj)}{σ:St}{H:Hp}{s:zaz5}{fp:List Addr} (I:Inv X pins σ H s) (hf:∀b∈fp,FpOk X pins H b) (ho:∀b∈fp,∃o,s.heap.get? b=some o∧∀v,o.data≠.cell v):Inv X (pins++zq1 fp s.heap) σ H s :=
 I.pins_of fun p hp=>(zay8.mp hp).elim (fun z=>I.pin p (zay4 _ z)) fun z=>by
  obtain⟨hb,e⟩:=zat0 z
  obtain⟨f0,f1,f2,_⟩:=hf p.1 hb
  obtain⟨o,e',d⟩:=ho p.1 hb
  rw [e]at e';cases e'
  exact⟨e,f0,f1,f2,d⟩
theorem Inv.unpinned {pins pl:List (Addr×Obj)}{σ:St}{H:Hp}{s:zaz5} (I:Inv X (pins++pl) σ H s):Inv X pins σ H s:=I.pins_of fun p hp=>I.pin p (zay4 _ (zay6 _ hp))
theorem zaj6 {iter:Expr}{body:List Stmt}{wi:TI}{g:TG}{tb:TS}{pos:Pos} (hp:PassesOwn (model X.prog X.w) X.A X.env X.xe) (hc:X.calm=true) (hi:PI X tg iter wi) (hg:PG X tg g) (hb:PSs X body tb)
  (hs:∀x,foldedSetIterable iter X.env x=pure x:=by intro _;rfl):PS X (.For tg iter body [] pos) (tFor wi g tb):=by
 intro pins s σ H D I h
 refine wpAny_For (thn (hi pins s σ H _ I h) fun v s1 h1=>thn h1 fun itv s2 h2=>?_) hs
 obtain⟨it,fp,tn,J,H2,e,I2,T,st2,f2,W,⟨m0,w0⟩,turn⟩:=h2
 subst e
 -- what stays true of the iterator's objects through the loop
 have stat:∀ {H':Hp},(∀b∈fp,H' b=none)→∀b∈fp,FpOk X pins H' b:=fun hn b hb=>⟨hn b hb,(f2 b hb).2⟩
 refine codeAny_forLoop_any (fun n s' => ∃i σ' H',Inv X pins σ' H' s'∧tn i s'.heap∧(∀b∈fp,H' b=none)∧W i n σ' H') ?_ m0 ⟨0,σ,H2,I2,st2,fun b hb=>(f2 b hb).1,w0⟩
 rintro n s3 ⟨i,σ3,H3,I3,st3,fr3,w3⟩
 rcases turn i n σ3 H3 w3 with ⟨stop,qn⟩ | ⟨go,N,hN,step⟩
 ·refine wpAny_passesOwn hp (thn (T.done X rfl rfl rfl hc i pins s3 σ3 H3 X.xe I3 (stat fr3) st3 stop) fun r s4 ⟨hr,I4⟩=>?_)
  subst hr
  exact wpAny_execs_nil ⟨σ3,H3,I4,qn⟩
 ·refine wpAny_passesOwn hp (thn (T.item X rfl rfl rfl hc i pins s3 σ3 H3 X.xe I3 (stat fr3) st3 go) fun r s4 ⟨u,hr,h4⟩=>?_)
  subst hr
  refine wpAny_passesOwn hp (thn h4 fun _ s5 ⟨x,H5,I5,r5,y5,st5,fr5⟩=>?_)
  have I5':=I5.pinned (stat fr5) (T.obj _ _ st5)
  refine wpAny_passesOwn hp (thn (hg _ s5 σ3 H5 x u _ I5' r5 (step x H5 y5)) fun _ s6 ⟨σ6,H6,I6,q6⟩=>?_)
  refine wpAny_passesOwn hp (thn (hb _ s6 σ6 H6 _ I6 q6) fun f s7 q7=>?_)
  have again:∀ {σ7:St}{H7:Hp},Inv X (pins++zq1 fp s5.heap) σ7 H7 s7→N σ7 H7→∃m,m<n∧∃i σ' H',Inv X pins σ' H' s7∧tn i s7.heap∧(∀b∈fp,H' b=none)∧W i m σ' H':=fun {σ7 H7} I7 n7=>by
   obtain⟨m',hm,w7⟩:=hN σ7 H7 n7
   refine⟨m',hm,i+1,σ7,H7,I7.unpinned,T.keep _ _ _ st5 fun b hb o e=>(I7.pin (b,o) (zay4 _ (zay4 _ (zh2 hb e)))).1,fun b hb=>?_,w7⟩
   obtain⟨o,e,d⟩:=T.obj _ _ st5 b hb
   exact (I7.pin (b,o) (zay4 _ (zay4 _ (zh2 hb e)))).2.1
  cases f with
  |next=>obtain⟨σ7,H7,I7,n7⟩:=q7;exact again I7 n7
  |cont=>obtain⟨σ7,H7,I7,n7⟩:=q7;exact again I7 n7
  |brk=>obtain⟨σ7,H7,I7,q7⟩:=q7;exact⟨σ7,H7,I7.unpinned,q7⟩
  |ret v=>obtain⟨x7,σ7,H7,I7,r7,q7⟩:=q7;exact⟨x7,σ7,H7,I7.unpinned,r7,q7⟩
end
end L2
namespace L2
open PySem.Spec
abbrev R2:=V→V→Hp→VK→Prop
noncomputable def OpR (X:Cx) (f:Value→Value→Sem Value) (r:R2):Prop :=
 ∀(pins:List (Addr×Obj)) (s:zaz5) (σ:St) (H:Hp) (x y:V) (v u:Value) (Q:VK),Inv X pins σ H s→RelV x v→RelV y u→r x y H Q →
  wpAny (model X.prog X.w) X.A (f v u) (EP X pins σ Q) X.xe s
noncomputable def UnR (X:Cx) (f:Value→Sem Value) (r:V→Hp→VK→Prop):Prop :=
 ∀(pins:List (Addr×Obj)) (s:zaz5) (σ:St) (H:Hp) (x:V) (v:Value) (Q:VK),Inv X pins σ H s→RelV x v→r x H Q →
  wpAny (model X.prog X.w) X.A (f v) (EP X pins σ Q) X.xe s
noncomputable def zq7 (X:Cx) (f:Value) (r:List V→Hp→VK→Prop):Prop :=
 ∀(pins:List (Addr×Obj)) (s:zaz5) (σ:St) (H:Hp) (xs:List V) (us:List Value) (Q:VK),Inv X pins σ H s→Vals xs us→r xs H Q →
  wpAny (model X.prog X.w) X.A (call f us) (EP X pins σ Q) X.xe s
noncomputable def TruR (X:Cx) (r:V→Hp→(Bool→Hp→Prop)→Prop):Prop :=
 ∀(pins:List (Addr×Obj)) (s:zaz5) (σ:St) (H:Hp) (x:V) (v:Value) (Q:Bool→Hp→Prop),Inv X pins σ H s→RelV x v→r x H Q →
  wpAny (model X.prog X.w) X.A (truthy v) (TP X pins σ Q) X.xe s
def tOp (r:R2) (ta tb:TE):TE:=fun σ H Q=>ta σ H fun x H1=>tb σ H1 fun y H2=>r x y H2 Q
def tUn (r:V→Hp→VK→Prop) (ta:TE):TE:=fun σ H Q=>ta σ H fun x H1=>r x H1 Q
def rI (C:Int→Int→Prop) (g:Int→Int→V):R2:=fun x y H Q => ∃i j,x=.int i∧y=.int j∧C i j∧Q (g i j) H
def rI0 (g:Int→Int→V):R2:=fun x y H Q => ∃i j,x=.int i∧y=.int j∧Q (g i j) H
def rU (g:Int→V):V→Hp→VK→Prop:=fun x H Q => ∃i,x=.int i∧Q (g i) H
section
variable {X:Cx}{a b c:Expr}{ta tb tc:TE}{pos:Pos}
theorem binT (ha:PE X a ta) (hb:PE X b tb) {pins:List (Addr×Obj)}{s:zaz5}{σ:St}{H:Hp}{R:V→V→Hp→Prop} (I:Inv X pins σ H s)
  (h:ta σ H fun x H1=>tb σ H1 fun y H2=>R x y H2) {Q:Value→zaz5→Prop}{f:Value→Value→Sem Value}
  (hf:∀v u s2 x y H2,Inv X pins σ H2 s2→RelV x v→RelV y u→R x y H2→wpAny (model X.prog X.w) X.A (f v u) Q X.xe s2) :
  wpAny (model X.prog X.w) X.A (eval a X.env) (fun v s₁=>wpAny (model X.prog X.w) X.A (eval b X.env) (fun u s₂=>wpAny (model X.prog X.w) X.A (f v u) Q X.xe s₂) X.xe s₁) X.xe s:=by
 refine thn (ha pins s σ H _ I h) fun v s1 ⟨x,H1,I1,r1,q1⟩=>?_
 refine thn (hb pins s1 σ H1 _ I1 q1) fun u s2 ⟨y,H2,I2,r2,q2⟩=>?_
 exact hf v u s2 x y H2 I2 r1 r2 q2
theorem pe_un {op:UnaryOp}{r:V→Hp→VK→Prop} (ho:UnR X (unaryOp op) r) (ha:PE X a ta):PE X (.UnaryOp op a pos) (tUn r ta):=by
 intro pins s σ H Q I h
 exact UnaryOp_ (thn (ha pins s σ H _ I h) fun v s1 ⟨x,H1,I1,r1,q1⟩=>ho pins s1 σ H1 x v Q I1 r1 q1)
theorem opI {f:Value→Value→Sem Value}{C:Int→Int→Prop}{g:Int→Int→Int}
  (rule:∀(i j:Int) (t u:Tok) (s:zaz5) (Q:Value→zaz5→Prop) (E:Value→zaz5→Prop),C i j→Q (.int (g i j) s.toks) { s with toks:=s.toks+1 }→wpAny (model X.prog X.w) X.A (f (.int i t) (.int j u)) Q E s) :
  OpR X f (rI C fun i j=>.int (g i j)):=by
 intro pins s σ H x y v u Q I rx ry h
 obtain⟨i,j,rfl,rfl,hc,q⟩:=h
 obtain⟨t,rfl⟩:=rx
 obtain⟨t',rfl⟩:=ry
 exact rule i j t t' s _ _ hc ⟨.int (g i j),H,I.tok _,⟨_,rfl⟩,q⟩
theorem opI0 {f:Value→Value→Sem Value}{g:Int→Int→Int}
  (rule:∀(i j:Int) (t u:Tok) (s:zaz5) (Q:Value→zaz5→Prop) (E:Value→zaz5→Prop),Q (.int (g i j) s.toks) { s with toks:=s.toks+1 }→wpAny (model X.prog X.w) X.A (f (.int i t) (.int j u)) Q E s) :
  OpR X f (rI0 fun i j=>.int (g i j)):=by
 intro pins s σ H x y v u Q I rx ry h
 obtain⟨i,j,rfl,rfl,q⟩:=h
 obtain⟨t,rfl⟩:=rx
 obtain⟨t',rfl⟩:=ry
 exact rule i j t t' s _ _ ⟨.int (g i j),H,I.tok _,⟨_,rfl⟩,q⟩
theorem opB0 {f:Value→Value→Sem Value}{g:Int→Int→Bool}
  (rule:∀(i j:Int) (t u:Tok) (s:zaz5) (Q:Value→zaz5→Prop) (E:Value→zaz5→Prop),Q (.bool (g i j)) s→wpAny (model X.prog X.w) X.A (f (.int i t) (.int j u)) Q E s) :
  OpR X f (rI0 fun i j=>.bl (g i j)):=by
 intro pins s σ H x y v u Q I rx ry h
 obtain⟨i,j,rfl,rfl,q⟩:=h
 obtain⟨t,rfl⟩:=rx
 obtain⟨t',rfl⟩:=ry
 exact rule i j t t' s _ _ ⟨.bl (g i j),H,I,rfl,q⟩
theorem op_add:OpR X (binaryOp .Add) (rI0 fun i j=>.int (i+j)):=opI0 fun _ _ _ _ _ _ _ q=>add_int q
theorem op_modN:OpR X (binaryOp .Mod) (rI (fun _ j=>j≠0) fun i j=>.int (i.fmod j)):=opI fun _ _ _ _ _ _ _ hc q=>mod_int' hc q
theorem unI {f:Value→Sem Value}{g:Int→Int}
  (rule:∀(i:Int) (t:Tok) (s:zaz5) (Q:Value→zaz5→Prop) (E:Value→zaz5→Prop),Q (.int (g i) s.toks) { s with toks:=s.toks+1 }→wpAny (model X.prog X.w) X.A (f (.int i t)) Q E s) :
  UnR X f (rU fun i=>.int (g i)):=by
 intro pins s σ H x v Q I rx h
 obtain⟨i,rfl,q⟩:=h
 obtain⟨t,rfl⟩:=rx
 exact rule i t s _ _ ⟨.int (g i),H,I.tok _,⟨_,rfl⟩,q⟩
theorem un_neg:UnR X (unaryOp .USub) (rU fun i=>.int (-i)):=unI fun _ _ _ _ _ q=>neg_int q
end
noncomputable def scal:V→V→Bool
 |.non,.non=>true | .non,.int _=>true | .int _,.non=>true | .non,.bl _=>true | .bl _,.non=>true | .non,.str _=>true | .str _,.non=>true
 |.int _,.int _=>true | .bl _,.bl _=>true | .str _,.str _=>true | .byt _,.byt _=>true
 |.int _,.str _=>true | .str _,.int _=>true | .bl _,.str _=>true | .str _,.bl _=>true
 |_,_=>false
def rEq:R2:=fun x y H Q=>scal x y=true∧Q (.bl (decide (x=y))) H
def rNe:R2:=fun x y H Q=>scal x y=true∧Q (.bl (!decide (x=y))) H
theorem zav5 {i j:Int}:decide (V.int i=V.int j)=(i == j):=by
 rw [zbe8]
 simp
theorem dec_bl {i j:Bool}:decide (V.bl i=V.bl j)=(i == j):=by
 rw [zbe8]
 simp
theorem zav4 {i j:Str}:decide (V.str i=V.str j)=(i == j):=by
 rw [zbe8]
 simp
theorem zav6 {i j:Array UInt8}:decide (V.byt i=V.byt j)=(i.toList == j.toList):=by
 rw [zbe8]
 cases i
 cases j
 simp
section
variable {X:Cx}{a b c:Expr}{ta tb tc:TE}{pos:Pos}
theorem zc5 {pins:List (Addr×Obj)}{σ:St}{H:Hp}{s:zaz5}{Q:VK}{k k':Bool} (I:Inv X pins σ H s) (q:Q (.bl k) H) (e:k=k'):EP X pins σ Q (.bool k') s:=by
 subst e
 exact⟨.bl k,H,I,rfl,q⟩
theorem op_eq:OpR X (compareOp .Eq) rEq:=by
 intro pins s σ H x y v u Q I rx ry h
 obtain⟨hs,q⟩:=h
 cases x with
 |non =>
  cases rx
  cases y with
  |non=>cases ry;exact PySem.EqNone.eq_none_none (zc5 I q (by simp))
  |bl j=>cases ry;exact PySem.EqNone.eq_none_bool (zc5 I q (by simp))
  |int j=>obtain⟨t',rfl⟩:=ry;exact PySem.EqNone.eq_none_int (zc5 I q (by simp))
  |str j=>obtain⟨t',rfl⟩:=ry;exact PySem.EqNone.eq_none_str (zc5 I q (by simp))
  |_=>exact absurd (show false=true from hs) zba1
 |bl i =>
  cases rx
  cases y with
  |non=>cases ry;exact PySem.EqNone.eq_bool_none (zc5 I q (by simp))
  |bl j=>cases ry;exact eq_bool (zc5 I q dec_bl)
  |str j=>obtain⟨t',rfl⟩:=ry;exact PySem.EqMixed.eq_bool_str (zc5 I q (by simp))
  |_=>exact absurd (show false=true from hs) zba1
 |int i =>
  obtain⟨t,rfl⟩:=rx
  cases y with
  |non=>cases ry;exact PySem.EqNone.eq_int_none (zc5 I q (by simp))
  |int j=>obtain⟨t',rfl⟩:=ry;exact eq_int (zc5 I q zav5)
  |str j=>obtain⟨t',rfl⟩:=ry;exact PySem.EqMixed.eq_int_str (zc5 I q (by simp))
  |_=>exact absurd (show false=true from hs) zba1
 |str i =>
  obtain⟨t,rfl⟩:=rx
  cases y with
  |non=>cases ry;exact PySem.EqNone.eq_str_none (zc5 I q (by simp))
  |bl j=>cases ry;exact PySem.EqMixed.eq_str_bool (zc5 I q (by simp))
  |int j=>obtain⟨t',rfl⟩:=ry;exact PySem.EqMixed.eq_str_int (zc5 I q (by simp))
  |str j=>obtain⟨t',rfl⟩:=ry;exact eq_str (zc5 I q zav4)
  |_=>exact absurd (show false=true from hs) zba1
 |byt i =>
  obtain⟨t,rfl⟩:=rx
  cases y with
  |byt j=>obtain⟨t',rfl⟩:=ry;exact PySem.W.eq_bytes (zc5 I q zav6)
  |_=>exact absurd (show false=true from hs) zba1
 |_=>cases y<;>exact absurd (show false=true from hs) zba1
theorem op_ne:OpR X (compareOp .NotEq) rNe:=by
 intro pins s σ H x y v u Q I rx ry h
 obtain⟨hs,q⟩:=h
 cases x with
 |non =>
  cases rx
  cases y with
  |non=>cases ry;exact PySem.EqNone.ne_none_none (zc5 I q (by simp))
  |bl j=>cases ry;exact PySem.EqNone.ne_none_bool (zc5 I q (by simp))
  |int j=>obtain⟨t',rfl⟩:=ry;exact PySem.EqNone.ne_none_int (zc5 I q (by simp))
  |str j=>obtain⟨t',rfl⟩:=ry;exact PySem.EqNone.ne_none_str (zc5 I q (by simp))
  |_=>exact absurd (show false=true from hs) zba1
 |bl i =>
  cases rx
  cases y with
  |non=>cases ry;exact PySem.EqNone.ne_bool_none (zc5 I q (by simp))
  |bl j=>cases ry;exact ne_bool (zc5 I q (congrArg not dec_bl))
  |str j=>obtain⟨t',rfl⟩:=ry;exact PySem.EqMixed.ne_bool_str (zc5 I q (by simp))
  |_=>exact absurd (show false=true from hs) zba1
 |int i =>
  obtain⟨t,rfl⟩:=rx
  cases y with
  |non=>cases ry;exact PySem.EqNone.ne_int_none (zc5 I q (by simp))
  |int j=>obtain⟨t',rfl⟩:=ry;exact ne_int (zc5 I q (congrArg not zav5))
  |str j=>obtain⟨t',rfl⟩:=ry;exact PySem.EqMixed.ne_int_str (zc5 I q (by simp))
  |_=>exact absurd (show false=true from hs) zba1
 |str i =>
  obtain⟨t,rfl⟩:=rx
  cases y with
  |non=>cases ry;exact PySem.EqNone.ne_str_none (zc5 I q (by simp))
  |bl j=>cases ry;exact PySem.EqMixed.ne_str_bool (zc5 I q (by simp))
  |int j=>obtain⟨t',rfl⟩:=ry;exact PySem.EqMixed.ne_str_int (zc5 I q (by simp))
  |str j=>obtain⟨t',rfl⟩:=ry;exact ne_str (zc5 I q (congrArg not zav4))
  |_=>exact absurd (show false=true from hs) zba1
 |byt i =>
  obtain⟨t,rfl⟩:=rx
  cases y with
  |byt j=>obtain⟨t',rfl⟩:=ry;exact PySem.W.ne_bytes (zc5 I q (congrArg not zav6))
  |_=>exact absurd (show false=true from hs) zba1
 |_=>cases y<;>exact absurd (show false=true from hs) zba1
theorem op_lt:OpR X (compareOp .Lt) (rI0 fun i j=>.bl (decide (i<j))):=opB0 fun _ _ _ _ _ _ _ q=>lt_int q
theorem op_le:OpR X (compareOp .LtE) (rI0 fun i j=>.bl (decide (i≤j))):=opB0 fun _ _ _ _ _ _ _ q=>le_int q
theorem op_gt:OpR X (compareOp .Gt) (rI0 fun i j=>.bl (decide (j<i))):=opB0 fun _ _ _ _ _ _ _ q=>gt_int q
theorem op_ge:OpR X (compareOp .GtE) (rI0 fun i j=>.bl (decide (j≤i))):=opB0 fun _ _ _ _ _ _ _ q=>ge_int q
theorem op_isN:OpR X (compareOp .Is) (fun x y H Q=>y=.non∧Q (.bl (decide (x=.non))) H):=by
 intro pins s σ H x y v u Q I rx ry h
 obtain⟨rfl,q⟩:=h
 cases ry
 refine is_none_gen (zc5 I q ?_)
 cases x<;>first
  |(cases rx;rfl)
  |(obtain⟨t,rfl⟩:=rx;rfl)
theorem nomark (b:Expr) {op:CmpOp} (h:op≠.In:=by decide) (h2:op≠.NotIn:=by decide):behindInMarks op b=false:=by
 have e1:(op == CmpOp.In)=false:=by cases op<;>first | rfl | exact absurd rfl h
 have e2:(op == CmpOp.NotIn)=false:=by cases op<;>first | rfl | exact absurd rfl h2
 cases b<;>simp [behindInMarks,e1,e2]
def tTest (t:TE):TT:=fun σ H Q=>t σ H fun x H' => ∃k,x=.bl k∧Q k H'
noncomputable def tChain (r r':R2) (ta tb tc:TE):TE:=fun σ H Q=>ta σ H fun x H1=>tb σ H1 fun y H2=>r x y H2 fun z H3 => ∃k,z=.bl k ∧
 (if k=true then tc σ H3 fun w' H4=>r' y w' H4 Q else Q (.bl false) H3)
theorem pt_chain {op op':CmpOp}{r r':R2} (ho:OpR X (compareOp op) r) (ho':OpR X (compareOp op') r') (ha:PE X a ta) (hb:PE X b tb) (hc:PE X c tc)
  (hm:lastMarks [op,op'] [b,c]=false:=by with_unfolding_all rfl):PT X (.Compare a [op,op'] [b,c] pos) (tTest (tChain r r' ta tb tc)):=by
 intro pins s σ H Q I h
 refine isTrue_chain (thn (ha pins s σ H _ I h) fun v s1 ⟨x,H1,I1,r1,q1⟩=>test_link (thn (hb pins s1 σ H1 _ I1 q1) fun u s2 ⟨y,H2,I2,r2,q2⟩ =>
  thn (ho pins s2 σ H2 x y v u _ I2 r1 r2 q2) fun d s3 ⟨z,H3,I3,r3,k,e,q3⟩=>?_)) hm
 subst e
 cases r3
 refine wpAny_truthy_bool ?_
 cases k with
 |false =>
  obtain⟨k',e',q'⟩:=q3
  cases e'
  exact ite_ff ⟨H3,I3,q'⟩
 |true =>
  refine ite_tt (test_last (thn (hc pins s3 σ H3 _ I3 q3) fun w' s4 ⟨z',H4,I4,r4,q4⟩=>thn (ho' pins s4 σ H4 y z' u w' _ I4 r2 r4 q4) fun d' s5 ⟨z2,H5,I5,r5,k2,e2,q5⟩=>?_))
  subst e2
  cases r5
  exact wpAny_truthy_bool ⟨H5,I5,q5⟩
noncomputable def TruV (K:zay3) (x:V) (H:Hp) (k:Bool):Prop :=
 match x with
 |.non=>k=false
 |.bl b=>k=b
 |.int i=>k=(i != 0)
 |.str y=>y.length≤sizeLine∧k=((y.length:Int) != 0)
 |.byt y=>y.size≤sizeLine∧k=((y.size:Int) != 0)
 |.ref p=>(∃xs,SqL K H p xs∧k=!xs.isEmpty)∨(∃xs,SqT K H p xs∧k=!xs.isEmpty)∨∃kvs,H p=some (.dK kvs)∧k=!kvs.isEmpty
 |_=>False
theorem zao0 {κ:Type}{kvs:List (κ×V)}{vs:List (κ×Value)} (r:KV kvs vs):(!vs.isEmpty)=!kvs.isEmpty:=by
 cases r<;>rfl
theorem zv4 {xs:List V}{its:List Value} (r:Vals xs its):(!its.toArray.isEmpty)=!xs.isEmpty:=by
 cases r<;>simp
theorem zv0:(sizeLine:Nat)<2 ^ 63:=by rw [sizeLine_eq];decide
theorem tru_ok:TruR X (fun x H Q => ∃k,TruV X.K x H k∧Q k H):=by
 intro pins s σ H x v Q I rx h
 obtain⟨k,e,q⟩:=h
 have hl:=zv0
 have hs:sizeLine=16777216:=sizeLine_eq
 cases x with
 |non =>
  cases rx
  have e':k=false:=e
  subst e'
  exact truthy_none ⟨H,I,q⟩
 |bl b =>
  cases rx
  have e':k=b:=e
  subst e'
  exact wpAny_truthy_bool ⟨H,I,q⟩
 |int i =>
  obtain⟨t,rfl⟩:=rx
  have e':k=(i != 0):=e
  subst e'
  exact PySem.P.truthy_int ⟨H,I,q⟩
 |str y =>
  obtain⟨t,rfl⟩:=rx
  obtain⟨hy,e'⟩:y.length≤sizeLine∧k=((y.length:Int) != 0):=e
  subst e'
  exact PySem.P.truthy_str (by lia) ⟨H,I.tok _,q⟩
 |byt y =>
  obtain⟨t,rfl⟩:=rx
  obtain⟨hy,e'⟩:y.size≤sizeLine∧k=((y.size:Int) != 0):=e
  subst e'
  exact PySem.W.truthy_bytes (by lia) ⟨H,I.tok _,q⟩
 |ref p =>
  cases rx
  have e':(∃xs,SqL X.K H p xs∧k=!xs.isEmpty)∨(∃xs,SqT X.K H p xs∧k=!xs.isEmpty)∨∃kvs,H p=some (.dK kvs)∧k=!kvs.isEmpty:=e
  rcases e' with ⟨xs,hx,e'⟩ | ⟨xs,hx,e'⟩ | ⟨kvs,hx,e'⟩
  ·subst e'
   obtain⟨its,r,pl,hz⟩:=I.list hx
   have hlen:=r.length
   exact wpAny_truthy_list pl.isList (by simp only [zbb3];lia) ⟨H,I.tok _,by rw [zv4 r];exact q⟩
  ·subst e'
   obtain⟨its,r,pl,hz⟩:=I.tuple hx
   have hlen:=r.length
   exact truthy_tuple pl (by simp only [zbb3];lia) ⟨H,I.tok _,by rw [zv4 r];exact q⟩
  ·subst e'
   obtain⟨hz,hS,vs,r,m⟩:kvs.length≤sizeLine∧(p == sysModules)=false∧∃vs,KV kvs vs∧s.heap.DictOf (zf5 X.prog X.w) p vs:=I.hok p _ hx
   have hlen:kvs.length=vs.length:=Paired.length r
   exact wpAny_truthy_dict hS m (by lia) ⟨H,I.tok _,by rw [zao0 r];exact q⟩
 |_=>exact (show False from e).elim
theorem pt_truth (ha:PE X a ta) (he:∀whole,isTrue a X.env whole=(do let v ← whole;standAt a.pos;holding [v] (truthy v))) :
  PT X a (fun σ H Q=>ta σ H fun x H' => ∃k,TruV X.K x H' k∧Q k H'):=by
 intro pins s σ H Q I h
 exact isTrue_plain (thn (ha pins s σ H _ I h) fun v s1 ⟨x,H1,I1,r1,q1⟩=>tru_ok pins s1 σ H1 x v Q I1 r1 q1) (he _)
theorem zan2:OpR X (binaryOp .Add) (fun x y H Q => ∃i j,x=.str i∧y=.str j∧i.length+j.length≤sizeLine∧Q (.str (i++j)) H):=by
 intro pins s σ H x y v u Q I rx ry h
 obtain⟨i,j,rfl,rfl,hz,q⟩:=h
 obtain⟨t,rfl⟩:=rx
 obtain⟨t',rfl⟩:=ry
 exact add_str (fun t' tk=>⟨.str (i++j),H,I.tok _,⟨_,rfl⟩,q⟩) hz
theorem zam2 {x:V}{us:List Value} (r:Vals [x] us):∃u,us=[u]∧RelV x u:=by
 cases r with
 |cons r1 r2=>cases r2;exact⟨_,rfl,r1⟩
theorem vals2 {x y:V}{us:List Value} (r:Vals [x,y] us):∃u w',us=[u,w']∧RelV x u∧RelV y w':=by
 cases r with
 |cons r1 r2 =>
  cases r2 with
  |cons r3 r4=>cases r4;exact⟨_,_,rfl,r1,r3⟩
theorem zax0 (hc:X.calm=true):zq7 X (.builtin "max") (fun xs H Q => ∃i j,xs=[.int i,.int j]∧Q (.int (if j > i then j else i)) H):=by
 intro pins s σ H xs us Q I r h
 obtain⟨i,j,rfl,q⟩:=h
 obtain⟨u,w',rfl,⟨t,rfl⟩,⟨t',rfl⟩⟩:=vals2 r
 refine max_two_ints (I.ok.hd hc) fun h' tk k=>⟨_,H,I.kept k,?_,q⟩
 by_cases hj:j > i
 ·rw [if_pos hj,if_pos hj];exact⟨_,rfl⟩
 ·rw [if_neg hj,if_neg hj];exact⟨_,rfl⟩
theorem zaw9 (hc:X.calm=true):zq7 X (.builtin "min") (fun xs H Q => ∃i j,xs=[.int i,.int j]∧Q (.int (if j<i then j else i)) H):=by
 intro pins s σ H xs us Q I r h
 obtain⟨i,j,rfl,q⟩:=h
 obtain⟨u,w',rfl,⟨t,rfl⟩,⟨t',rfl⟩⟩:=vals2 r
 refine min_two_ints (I.ok.hd hc) fun h' tk k=>⟨_,H,I.kept k,?_,q⟩
 by_cases hj:j<i
 ·rw [if_pos hj,if_pos hj];exact⟨_,rfl⟩
 ·rw [if_neg hj,if_neg hj];exact⟨_,rfl⟩
theorem zad0:zq7 X (.type "str") (fun xs H Q => ∃i,xs=[.int i]∧i.natAbs.log2<1920∧Q (.str (toString i)) H):=by
 intro pins s σ H xs us Q I r h
 obtain⟨i,rfl,hz,q⟩:=h
 obtain⟨u,rfl,t,rfl⟩:=zam2 r
 exact PySem.P.str_of_int hz ⟨.str _,H,I.tok _,⟨_,rfl⟩,q⟩
end
end L2
namespace L2
open PySem.Spec
structure ObjM (h:Heap) (x dx C:Addr) (mA:Str→Option Value):Prop where
 obj:h.get? x=some (zbp8 C dx)
 ns:h.Ns1 dx mA
 ne:dx≠x
structure Cls (K:zay3) (C:Addr):Prop where
 pg:PySem.W.plainGet K C Str.empty=true
 hd:PySem.W.hasDictIn K C=true
 po:PySem.W.plainOver K C=true
 sa:zbi8 K (.ref C) "__setattr__"=some (some (.builtin "object.__setattr__"))
structure Con (K:zay3) (C:Addr) (f:Str) (v:V) (u:Value):Prop where
 at_:zbi8 K (.ref C) f=some (some u)
 rel:RelV v u
 get:zbo1 K u "__get__"=some none
 cp:PySem.W.copiedNames.contains f=false
structure Meth (K:zay3) (C:Addr) (m:Str) (f:Addr):Prop where
 at_:zbi8 K (.ref C) m=some (some (.ref f))
 fn:PySem.W.isFn K (.ref f)=true
 kp:zbd9 K (.ref f)=true
section
variable {X:Cx}{pins:List (Addr×Obj)}{σ:St}{H:Hp}{s:zaz5}{A:Around}{E:Value→zaz5→Prop}{Q:Value→zaz5→Prop}{c:Value}{b:Bool}
inductive TyOf (K:zay3) (H:Hp):V→Value→Prop where
 |non:TyOf K H .non (.type "NoneType")
 |bl (x:Bool):TyOf K H (.bl x) (.type "bool")
 |int (i:Int):TyOf K H (.int i) (.type "int")
 |str (x:Str):TyOf K H (.str x) (.type "str")
 |flt (x:UInt64):TyOf K H (.flt x) (.type "float")
 |lst {a:Addr}{xs:List V} (e:H a=some (.lst xs)):TyOf K H (.ref a) (.type "list")
 |frz {a:Addr}{o:Obj}{xs:List V} (e:H a=some (.frz o (.lst xs))):TyOf K H (.ref a) (.type "list")
 |tup {a:Addr}{xs:List V} (e:H a=some (.tup xs)):TyOf K H (.ref a) (.type "tuple")
 |dK {a:Addr}{kvs:List (Key×V)} (e:H a=some (.dK kvs)):TyOf K H (.ref a) (.type "dict")
 |dT {a:Addr}{kvs:List (List Key×V)} (e:H a=some (.dT kvs)):TyOf K H (.ref a) (.type "dict")
 |ins {a C dx:Addr}{fs:List (Str×V)} (e:H a=some (.ins C dx fs)) (cl:Cls K C) (ha:zbi8 K (.ref C) "__class__"=some (some (.builtin "object.__class__")))
   (hn:zbo1 K (.builtin "object.__class__") "__get__"=some (some (.builtin "getset_descriptor.__get__"))) (htk:PySem.W.takesIn K (.builtin "object.__class__")=some true)
   (hm:PySem.W.mroIn K C (.type "object")=some true):TyOf K H (.ref a) (.ref C)
end
end L2
namespace L2
open PySem.Spec
structure Room (k:Nat) (A:Around):Prop where
 hd:A.handled=none
 dp:A.depth+3*k+5<recursionLimit
 un:A.units+16*k+200<cLine
theorem Room.mono {j k:Nat}{A:Around} (r:Room k A) (h:j≤k):Room j A:=⟨r.hd,by have:=r.dp;lia,by have:=r.un;lia⟩
theorem Room.deeper {k:Nat}{A:Around} (r:Room (k+1) A) (env:Env):Room k (A.deeper env) :=
 ⟨r.hd,by have:=r.dp;show A.depth+1+3*k+5<_;lia,by have:=r.un;show A.units+3+16*k+200<_;lia⟩
theorem Room.depth {k:Nat}{A:Around} (r:Room k A):A.depth<recursionLimit:=by have:=r.dp;lia
theorem Room.units {k:Nat}{A:Around} (r:Room k A):A.units+64<cLine:=by have:=r.un;lia
def tNil:TA:=fun _ H Q=>Q [] H
def tCons (ta:TE) (tr:TA):TA:=fun σ H Q=>ta σ H fun x H1=>tr σ H1 fun xs H2=>Q (x::xs) H2
section
variable {X:Cx}{e:Expr}{es:List Expr}{te:TE}{t:TA}{pos:Pos}
theorem zm3:PA X [] tNil:=fun _ _ _ _ H Q I h=>Calls.spliced_nil ⟨[],H,I,.nil,h⟩
theorem zh4 (ha:PE X e te) (hr:PA X es t) (hs:zba7 (e::es) X.env=(false,eval e X.env)::zba7 es X.env:=by rfl):PA X (e::es) (tCons te t):=by
 intro pos pins s σ H Q I h
 rw [hs]
 show wpAny _ _ (spliced ((false,eval e X.env)::zbf6 pos (zba7 es X.env))) _ _ s
 refine Calls.spliced_cons (thn (ha pins s σ H _ I h) fun u s1 ⟨x,H1,I1,r1,q1⟩=>?_)
 exact thn (hr pos pins s1 σ H1 _ I1 q1) fun us s2 ⟨xs,H2,I2,r2,q2⟩=>⟨x::xs,H2,I2,.cons r1 r2,q2⟩
def tTup (t:TA):TE:=fun σ H Q=>t σ H fun xs H1=>xs.length≤sizeLine∧∀p,H1 p=none→Q (.ref p) (upd H1 p (.tup xs))
def tLst (t:TA):TE:=fun σ H Q=>t σ H fun xs H1=>xs.length≤sizeLine∧∀p,H1 p=none→Q (.ref p) (upd H1 p (.lst xs))
theorem zas8 {x1} (h:PA X es t):PE X (.Tuple es x1 pos) (tTup t):=by
 intro pins s σ H Q I hq
 refine wpAny_Tuple_spliced (thn (h pos pins s σ H _ I hq) fun us s1 ⟨xs,H1,I1,r,z,q⟩=>⟨by rw [← r.length];exact z,?_⟩)
 have hf:H1 s1.heap.objs.size=none:=I1.hok.fresh (zaz7 _)
 refine⟨.ref s1.heap.objs.size,upd H1 s1.heap.objs.size (.tup xs),I1.laid (t':=s1.toks) (fun b u e=>zay7 _ e) (zaz7 _) ?_,rfl,q _ hf⟩
 exact⟨z,us,r,⟨_,zba8 _ rfl,rfl,_,rfl⟩⟩
theorem pe_lst (h:PA X es t):PE X (.List es pos) (tLst t):=by
 intro pins s σ H Q I hq
 refine wpAny_List_spliced (thn (h pos pins s σ H _ I hq) fun us s1 ⟨xs,H1,I1,r,z,q⟩=>⟨by rw [← r.length];exact z,?_⟩)
 have hf:H1 s1.heap.objs.size=none:=I1.hok.fresh (zaz7 _)
 refine⟨.ref s1.heap.objs.size,upd H1 s1.heap.objs.size (.lst xs),I1.laid (t':=s1.toks) (fun b u e=>zay7 _ e) (zaz7 _) ?_,rfl,q _ hf⟩
 exact⟨z,us,0,r,zba8 _ rfl⟩
end
abbrev Sp:=List V→Hp→VK→XK→Prop
abbrev CXT:=List Env→Hp→zaz5→XK→Value→zaz5→Prop
structure Env0 (P:Program) (w:World) (K:zay3) (mg:Str→Option Value) (base:BHeap) (A:Around) (outer:List Env) (s:zaz5) (H:Hp):Prop where
 frames:A.frames=some outer
 mod:Mod K mg base
 bs:∀b o,base.get? b=some o→s.heap.get? b=some o∧H b=none
 bsz:base.objs.size≤s.heap.objs.size
 funs:s.heap.FunFrames base outer
 frf:∀b∈frs outer,H b=none
 hok:HOk P w H s.heap
 bare:AllBare s.gens
 tabs:∀p∈base.tabs,H p.1=some (.tbl p.2)
noncomputable def CE (outer:List Env) (P:Program) (w:World) (H:Hp) (s:zaz5) (Q:VK) (u:Value) (s':zaz5):Prop :=
 ∃v H',s'.os=s.os∧AllBare s'.gens∧Un (frs outer) [] H H' s.heap s'.heap∧HOk P w H' s'.heap∧RelV v u∧Q v H'
noncomputable def CR (CX:CXT) (outer:List Env) (P:Program) (w:World) (H:Hp) (s:zaz5) (Q:VK) (E:XK) (r:Result) (s':zaz5):Prop :=
 match r with
 |.ok (.ret u)=>CE outer P w H s Q u s'
 |.ok _=>False
 |.error e=>CX outer H s E e s'
structure FnOk (P:Program) (w:World) (K:zay3) (mg:Str→Option Value) (base:BHeap) (CX:CXT) (k:Nat) (f:Addr) (fd:FuncData) (ps:List Str) (sp:Sp):Prop where
 len:∀vs H Q E,sp vs H Q E→vs.length=ps.length
 run:∀(A:Around) (outer:List Env) (s:zaz5) (H:Hp) (args:Args) (us:List Value) (vs:List V) (Q:VK) (E:XK),Room k A→Env0 P w K mg base A outer s H→BindsTo s fd args (ps.zip us)→Vals vs us→sp vs H Q E →
  codeAny (model P w) A (.call (.ref f) args) (CR CX outer P w H s Q E) s
section
variable {X:Cx}{pins:List (Addr×Obj)}{σ:St}{H:Hp}{s s':zaz5}
theorem Inv.env0 (I:Inv X pins σ H s):Env0 X.prog X.w X.K X.mg X.base X.A X.stack s H :=
 ⟨I.ok.frames,I.ok.mod,I.bs,zbd7 I.ok.bsz I.sz,I.stack,I.stkFree,I.hok,I.bare,fun p hp=>I.base.tbls _ _ (I.ok.tabs p hp)⟩
theorem Inv.after {Q:VK}{u:Value} (I:Inv X pins σ H s) (h:CE X.stack X.prog X.w H s Q u s'):EP X pins σ Q u s':=by
 obtain⟨v,H',os,bare,un,hok,r,q⟩:=h
 obtain⟨hh,g,d,t,os'⟩:=s'
 obtain rfl:os'=s.os:=os
 exact⟨v,H',I.call (h':=hh) (g':=g) (d':=d) (t':=t) (ch:=[]) un hok bare (fun b z=>absurd z (by simp)),r,q⟩
end
def tCall (sp:Sp) (dvs:List V) (E:XK) (t:TA):TE:=fun σ H Q=>t σ H fun vs H1=>sp (vs++dvs) H1 Q E
noncomputable def Binds (K:zay3) (fd:FuncData) (ps:List Str) (ds:List Value):Prop :=
 ∀(s:zaz5) (us:List Value),K.In s.heap→(us++ds).length=ps.length→BindsTo s fd ⟨us,[]⟩ (ps.zip (us++ds))
theorem Binds.all {K:zay3}{fd:FuncData}{ps:List Str} (h:∀us:List Value,us.length=ps.length→bindArgs fd ⟨us,[]⟩=pure (ps.zip us)):Binds K fd ps []:=fun s us _ hl=>by
 rw [zbe0]at hl ⊢
 exact .of_eq (h us hl)
noncomputable def zay1 (CX:CXT) (X:Cx) (E:XK):Prop := ∀(pins:List (Addr×Obj)) (σ:St) (H:Hp) (s:zaz5) (e:Value) (s':zaz5),Inv X pins σ H s→CX X.stack H s E e s'→X.xe e s'
section
variable {X:Cx}{CX:CXT}{k:Nat}{f C:Addr}{fd:FuncData}{ps:List Str}{sp:Sp}{dvs:List V}{ds:List Value}{E:XK}{x m:Str}{p pos apos:Pos}{e o:Expr}{es:List Expr}{ta:TE}{t:TA}
theorem run_fn {pins:List (Addr×Obj)}{σ:St}{H:Hp}{s:zaz5}{Q:VK}{us:List Value}{vs:List V} (F:FnOk X.prog X.w X.K X.mg X.base CX k f fd ps sp) (hr:Room k X.A) (hb:Binds X.K fd ps ds) (hd:Vals dvs ds) (hx:zay1 CX X E)
  (I:Inv X pins σ H s) (r:Vals vs us) (h:sp (vs++dvs) H Q E):wpAny (model X.prog X.w) X.A (call (.ref f) us) (EP X pins σ Q) X.xe s:=by
 have r2:Vals (vs++dvs) (us++ds):=r.append hd
 have hl:(us++ds).length=ps.length:=by rw [← r2.length];exact F.len _ _ _ _ h
 refine wpAny_call (codeAny_mono (F.run X.A X.stack s H ⟨us,[]⟩ (us++ds) (vs++dvs) Q E hr I.env0 (hb s us I.kIn hl) r2 h) fun r s' hq=>?_)
 cases r with
 |error e=>exact hx pins σ H s e s' I hq
 |ok fl =>
  cases fl with
  |ret u=>exact I.after hq
  |next=>exact False.elim hq
  |brk=>exact False.elim hq
  |cont=>exact False.elim hq
theorem zas9 (F:FnOk X.prog X.w X.K X.mg X.base CX k f fd ps sp) (hr:Room k X.A) (hg:Gl X x) (hm:X.mg x=some (.ref f)) (hk:zbd9 X.K (.ref f)=true) (hb:Binds X.K fd ps ds) (hd:Vals dvs ds) (hx:zay1 CX X E)
  (ha:PA X (e::es) t) (hdb:(x ==("__debug__":Str))=false:=by decide) (he:zba7 (e::es) X.env=(false,eval e X.env)::zba7 es X.env:=by rfl) (hpl:(zbf6 pos (zba7 es X.env)).any (·.1)=false:=by rfl) :
  PE X (.Call (.Name x p) (e::es) [] pos) (tCall sp dvs E t):=by
 intro pins s σ H Q I h
 refine wpAny_Call_Name_kw (zat4 I hg hm ?_ hdb)
 refine PySem.W.callWith_K (h₀:=X.base) I.ok.mod.kin hk (thn (ha pos pins s σ H _ I h) fun us s1 ⟨vs,H1,I1,r,q⟩=>⟨I1.kIn,?_⟩) he hpl
 exact run_fn F hr hb hd hx I1 r q
structure Mk (K:zay3) (C f:Addr):Prop where
 makes:PySem.W.makesIn K C=true
 init:zbi8 K (.ref C) "__init__"=some (some (.ref f))
 fn:PySem.W.isFn K (.ref f)=true
 kp:zbd9 K (.ref C)=true
end
section
variable {X:Cx}{CX:CXT}{k:Nat}{f C:Addr}{fd:FuncData}{ps ks:List Str}{sp:Sp}{E:XK}{x m:Str}{p pos apos kpos:Pos}{e o:Expr}{es:List Expr}{kws:List Keyword}{te ta:TE}{t tk:TA}{nm:Option Str}
structure KBinds (K:zay3) (fd:FuncData) (ps ks:List Str) (g:List Value→List Value→List Value) (gV:List V→List V→List V):Prop where
 to:∀(s:zaz5) (us ws:List Value),K.In s.heap→(g us ws).length=ps.length→BindsTo s fd ⟨us,ks.zip ws⟩ (ps.zip (g us ws))
 rel:∀ {vs:List V}{us:List Value}{zs:List V}{ws:List Value},Vals vs us→Vals zs ws→Vals (gV vs zs) (g us ws)
variable {g:List Value→List Value→List Value}{gV:List V→List V→List V}
end
structure FnScope (N P:List Str) (sc:Scope):Prop where
 kind:sc.kind=.function
 co:sc.isCoroutine=false
 gen:sc.isGenerator=false
 nd:N.Nodup
 pre:N.take P.length=P
 par:∀x∈P,sc.names.lookup x=some .local∨sc.names.lookup x=some .cell
 nofree:∀y∈sc.names,y.2≠.free
theorem zad6 {kindOf:Str→Option NameKind}{x:Str}:∀ {binds:List (Str×Value)}{m:Str→Option Value},(∀v,(x,v)∉binds)→bindL kindOf binds m x=m x
 |[],_,_=>rfl
 |(n,v)::r,m,h=>by
  unfold bindL
  rw [zad6 fun w hw=>h w (zay5 _ hw)]
  split
  ·have:x≠n:=by rintro rfl;exact h v zaz0
   simp [this]
  ·rfl
theorem zad8 {kindOf:Str→Option NameKind}{x:Str}:∀ {binds:List (Str×Value)}{m:Str→Option Value},(∀v,(x,v)∉binds)→bindC kindOf binds m x=m x
 |[],_,_=>rfl
 |(n,v)::r,m,h=>by
  unfold bindC
  rw [zad8 fun w hw=>h w (zay5 _ hw)]
  split
  ·rfl
  ·have:x≠n:=by rintro rfl;exact h v zaz0
   simp [this]
theorem zad7 {kindOf:Str→Option NameKind}{x:Str}{v:Value}:∀ {P:List Str}{vs:List Value}{i:Nat}{m:Str→Option Value},P.Nodup→P[i]?=some x→vs[i]?=some v→kindOf x=some .local →
  bindL kindOf (P.zip vs) m x=some v
 |[],_,_,_,_,h,_,_=>by simp at h
 |_::_,[],_,_,_,_,h,_=>by simp at h
 |p::P,w::vs,0,m,nd,h1,h2,hk=>by
  simp at h1 h2;subst h1;subst h2
  show bindL kindOf ((p,w)::P.zip vs) m p=_
  unfold bindL
  rw [zad6 fun v hv=>(zbb5.mp nd).1 (zbm3 hv).1,if_pos hk]
  simp
 |p::P,w::vs,i+1,m,nd,h1,h2,hk=>by
  show bindL kindOf ((p,w)::P.zip vs) m x=_
  unfold bindL
  exact zad7 (i:=i) (zbb5.mp nd).2 (by simpa using h1) (by simpa using h2) hk
theorem zad9 {kindOf:Str→Option NameKind}{x:Str}{v:Value}:∀ {P:List Str}{vs:List Value}{i:Nat}{m:Str→Option Value},P.Nodup→P[i]?=some x→vs[i]?=some v→kindOf x≠some .local →
  bindC kindOf (P.zip vs) m x=some v
 |[],_,_,_,_,h,_,_=>by simp at h
 |_::_,[],_,_,_,_,h,_=>by simp at h
 |p::P,w::vs,0,m,nd,h1,h2,hk=>by
  simp at h1 h2;subst h1;subst h2
  show bindC kindOf ((p,w)::P.zip vs) m p=_
  unfold bindC
  rw [zad8 fun v hv=>(zbb5.mp nd).1 (zbm3 hv).1,if_neg hk]
  simp
 |p::P,w::vs,i+1,m,nd,h1,h2,hk=>by
  show bindC kindOf ((p,w)::P.zip vs) m x=_
  unfold bindC
  exact zad9 (i:=i) (zbb5.mp nd).2 (by simpa using h1) (by simpa using h2) hk
def start (N:List Str) (vs:List V):St:=vs.map some++zbb1 (N.length - vs.length) none
noncomputable def cxOf (CX:CXT) (P:Program) (w:World) (K:zay3) (mg:Str→Option Value) (base:BHeap) (N:List Str) (qual:Str) (scope:Scope) (f:Addr) (cd:Value) (A:Around) (outer:List Env) (s:zaz5) (H:Hp) (E:XK):Cx where
 prog:=P
 w:=w
 K:=K
 mg:=mg
 base:=base
 A:=A.deeper (envOfC qual scope s.heap.objs.size f cd)
 N:=N
 s₀:=s
 H₀:=H
 env:=envOfC qual scope s.heap.objs.size f cd
 outer:=outer
 stack:=envOfC qual scope s.heap.objs.size f cd::outer
 ex:=[]
 calm:=true
 fn:=fun _=>true
 pn:=[]
 xe:=fun e s'=>wpAny (model P w) (A.deeper (envOfC qual scope s.heap.objs.size f cd)) (leaving (envOfC qual scope s.heap.objs.size f cd) e) (fun _ s''=>CX outer H s E e s'') (fun e' s''=>CX outer H s E e' s'') s'
theorem zal4 {sc:Scope}{n:Nat}{x:Str} (h:sc.names.lookup x=some .cell):∃c,(cellsFrom n sc.names []).lookup x=some c:=by
 have q:=zbl6 sc.names n [] (.inl h)
 exact Option.isSome_iff_exists.mp q
theorem zau3 {CX:CXT}{P:Program}{w:World}{K:zay3}{mg:Str→Option Value}{base:BHeap}{N ps:List Str}{qual:Str}{scope:Scope}{f:Addr}{cd:Value}{A:Around}{outer:List Env}{s s1:zaz5}{H:Hp}{E:XK}{us:List Value}{vs:List V}
  (S:FnScope N ps scope) (hd:A.handled=none) (e0:Env0 P w K mg base A outer s H) (hl:vs.length=ps.length) (r:Vals vs us)
  (x:InCallC s s.heap.objs.size (bindL (envOfC qual scope s.heap.objs.size f cd).kindOf (ps.zip us) fun _=>none) (cellsFrom (s.heap.objs.size+1) scope.names []) (bindC (envOfC qual scope s.heap.objs.size f cd).kindOf (ps.zip us) fun _=>none) s1) :
  Inv (cxOf CX P w K mg base N qual scope f cd A outer s H E) [] (start N vs) H s1:=by
 have hpl:ps.length≤N.length:=by have:=congrArg List.length S.pre;rw [zbj3]at this;lia
 obtain⟨h1,tk,rfl,hk⟩:=x.done
 have noA:∀b:Addr,b∉(cxOf CX P w K mg base N qual scope f cd A outer s H E).ex:=fun b z=>absurd (show b∈([]:List Addr) from z) (by simp)
 refine⟨⟨e0.mod,S.kind,rfl,rfl,zaz7 _,fun y z c h1 h2=>?_,fun y hy=>?_,fun y c _ h=>?_,fun _=>hd,Around.frames_deeper e0.frames,.inr ⟨rfl,rfl⟩,fun b z=>absurd z (noA b),e0.bs,e0.bsz,fun b _ _=>noA b,fun b z=>absurd z (noA b),e0.funs,e0.frf,e0.tabs⟩,
  rfl,e0.bare,Un.kept hk,⟨_,x.toInCall.ns,fun i y v h1 h2 h3=>?_⟩,fun y c h=>⟨_,x.cell y c h⟩,e0.hok.fresh (zaz7 _),fun y c h=>?_,fun p hp=>absurd (show p∈([]:List (Addr×Obj)) from hp) (by simp),e0.hok.kept hk,?_⟩
 ·exact name_of_addr x.apart (PySem.mem_of_lookup h1) (PySem.mem_of_lookup h2)
 ·have hy:scope.names.lookup y=some .cell∨scope.names.lookup y=some .free:=hy
  rcases hy with hy | hy
  ·exact zal4 hy
  ·exact absurd rfl (S.nofree _ (PySem.mem_of_lookup hy))
 ·exact zbj2 (x.above y c (PySem.mem_of_lookup h))
 ·have hi:i<vs.length:=by
   unfold start at h2
   by_cases hi:i<vs.length
   ·exact hi
   ·rw [zbc1 (by simpa using hi)]at h2
    rw [zbh4]at h2
    split at h2<;>cases h2
  have ha:vs[i]?=some v:=by
   unfold start at h2
   rw [zbc6 (by simpa using hi),zbg7]at h2
   cases e:vs[i]? with
   |none=>rw [e]at h2;cases h2
   |some a=>rw [e]at h2;cases h2;rfl
  obtain⟨u,hu,rv⟩:=r.get ha
  have hp:ps[i]?=some y:=by
   rw [← S.pre,zbk3 (by lia)];exact h1
  have ndP:ps.Nodup:=by rw [← S.pre];exact S.nd.sublist (zbk9 _ _)
  refine⟨u,rv,?_⟩
  rcases S.par y (zbc2 hp) with k | k
  ·exact .inl ⟨k,zad7 ndP hp hu k⟩
  ·obtain⟨c,e⟩:=zal4 (n:=s.heap.objs.size+1) k
   refine .inr ⟨.inl k,c,e,?_⟩
   have q:=x.cell y c e
   rw [zad9 ndP hp hu (by show scope.names.lookup y≠_;rw [k];decide)]at q
   exact q
 ·exact e0.hok.fresh (zbj2 (x.above y c (PySem.mem_of_lookup h)))
 ·unfold start
  show _=N.length
  rw [zbd4,zbc4,zbi6]
  lia
theorem fn_of {CX:CXT}{P:Program}{w:World}{K:zay3}{mg:Str→Option Value}{base:BHeap}{k:Nat}{f:Addr}{name qual:Str}{params:Arguments}{body:List Stmt}{scope:Scope}{dV kV doc pm cdv ct oc:Value}{an od:Option Addr}
  {osl:Array (Option Value)}{N ps:List Str}{sp:Sp} (lk:K.lookup f=some ⟨oc,od,.func (zbe9 name qual params body scope dV kV doc pm an cdv ct),osl⟩) (hcd:zbk4 K cdv qual=true) (S:FnScope N ps scope)
  (len:∀vs H Q E,sp vs H Q E→vs.length=ps.length)
  (hbody:∀(A:Around) (outer:List Env) (s:zaz5) (H:Hp) (vs:List V) (Q:VK) (E:XK),Room k (A.deeper (envOfC qual scope s.heap.objs.size f cdv))→sp vs H Q E →
   ∃t,PSs (cxOf CX P w K mg base N qual scope f cdv A outer s H E) body t∧t { nx:=fun _ H'=>Q .non H',rt:=Q } (start N vs) H) :
  FnOk P w K mg base CX (k+1) f (zbe9 name qual params body scope dV kV doc pm an cdv ct) ps sp:=by
 refine⟨len,fun A outer s H args us vs Q E hr e0 hb r hsp=>?_⟩
 have hl:=len _ _ _ _ hsp
 have KX:K.In s.heap:=e0.mod.kin.keeps fun b o e=>(e0.bs b o e).1
 have lim:s.heap.NoLimit:=e0.mod.nolimit.keeps fun b o e=>(e0.bs b o e).1
 have hkind:∀y∈ps.zip us,scope.names.lookup y.1=some .local∨(scope.names.lookup y.1=some .cell∧((cellsFrom (s.heap.objs.size+1) scope.names []).lookup y.1).isSome=true):=fun ⟨n,v⟩ hy=>by
  rcases S.par n (zbm3 hy).1 with q | q
  ·exact .inl q
  ·exact .inr ⟨q,zbl6 _ _ _ (.inl q)⟩
 refine codeAny_call_function hr.depth (KX _ _ lk) rfl S.co S.gen rfl (PySem.W.codeRec_of KX hcd) (hb _ _ _ _ ?_)
 refine wpAny_newFunctionEnv_cells S.kind hkind fun env he s1 x=>?_
 subst he
 refine⟨lim.keeps x.toInCall.keep,codeAny_func ?_⟩
 obtain⟨t,ht,hq⟩:=hbody A outer s H vs Q E (hr.deeper _) hsp
 have I:Inv (cxOf CX P w K mg base N qual scope f cdv A outer s H E) [] (start N vs) H s1:=zau3 S hr.hd e0 hl r x
 refine wpAny_mono (ht [] s1 (start N vs) H _ I hq) (fun fl s' hs=>?_) fun e s' hs=>hs
 have fin:∀ {σ':St}{H':Hp}{v:V}{u:Value},Inv (cxOf CX P w K mg base N qual scope f cdv A outer s H E) [] σ' H' s'→RelV v u→Q v H'→CE outer P w H s Q u s' :=
  fun {σ' H' v u} J rv q=>⟨v,H',J.os,J.bare,J.base,J.hok,rv,q⟩
 cases fl with
 |ret u =>
  obtain⟨v,σ',H',J,rv,q⟩:=hs
  exact fin J rv q
 |next =>
  obtain⟨σ',H',J,q⟩:=hs
  exact fin (v:=V.non) (u:=Value.none) J rfl q
 |brk =>
  obtain⟨_,_,_,q⟩:=hs
  exact False.elim q
 |cont =>
  obtain⟨_,_,_,q⟩:=hs
  exact False.elim q
end L2
namespace L2
open PySem.Spec
section
variable {X:Cx}{x:Str}{p pos:Pos}{e:Expr}{es:List Expr}{t:TA}{id T:String}{r:List V→Hp→VK→Prop}
def tCB (r:List V→Hp→VK→Prop) (t:TA):TE:=fun σ H Q=>t σ H fun vs H1=>r vs H1 Q
theorem pe_callB (hc:zq7 X (.builtin id) r) (hg:Gl X x) (hm:X.mg x=none) (hv:bootBuiltins x=some (.builtin id)) (ha:PA X (e::es) t) (hn:x≠"__name__":=by decide) (hdb:(x ==("__debug__":Str))=false:=by decide)
  (he:zba7 (e::es) X.env=(false,eval e X.env)::zba7 es X.env:=by rfl) (hpl:(zbf6 pos (zba7 es X.env)).any (·.1)=false:=by rfl):PE X (.Call (.Name x p) (e::es) [] pos) (tCB r t):=by
 intro pins s σ H Q I h
 refine wpAny_Call_Name_kw (zs2 I hg hm hv ?_ hn hdb)
 exact PyProof.Rows.callWith_builtin1 (thn (ha pos pins s σ H _ I h) fun us s1 ⟨vs,H1,I1,r1,q1⟩=>hc pins s1 σ H1 vs us Q I1 r1 q1) he hpl
end
end L2
namespace HT
section
variable {prog:Program}{w:World}{A:Around}{E:Value→zaz5→Prop}{s:zaz5}
def sIx (n d:Nat):Option Int→Nat
 |none=>d
 |some v=>if v<0 then (v+(n:Int)).toNat else min v.toNat n
theorem sIx_none (n d:Nat):sIx n d none=d:=rfl
theorem sIx_nat (n d k:Nat):sIx n d (some (k:Int))=min k n:=by
 show (if (k:Int)<0 then ((k:Int)+(n:Int)).toNat else min (k:Int).toNat n)=min k n
 rw [if_neg (by lia),zbi3]
theorem sIx_le (n d:Nat) (hd:d≤n) (o:Option Int):sIx n d o≤n:=by
 cases o with
 |none=>exact hd
 |some v =>
  show (if v<0 then (v+(n:Int)).toNat else min v.toNat n)≤n
  by_cases hv:v<0
  ·rw [if_pos hv];lia
  ·rw [if_neg hv];exact Nat.min_le_right _ _
end
end HT
namespace L2
open PySem.Spec
abbrev TO:=St→Hp→(Option Int→Hp→Prop)→Prop
noncomputable def PO (X:Cx) (e:Option Expr) (t:TO):Prop :=
 ∀(pins:List (Addr×Obj)) (s:zaz5) (σ:St) (H:Hp) (Q:Option Int→Hp→Prop),Inv X pins σ H s→t σ H Q →
  wpAny (model X.prog X.w) X.A (evalPart e X.env) (fun u s' => ∃o H',Inv X pins σ H' s'∧IsPart u o∧Q o H') X.xe s
def tNoPart:TO:=fun _ H Q=>Q none H
def tPart (t:TE):TO:=fun σ H Q=>t σ H fun x H1 => ∃i,x=.int i∧Q (some i) H1
section
variable {X:Cx}{e:Expr}{te:TE}{lo hi:Option Expr}{tl th:TO}{pos p2:Pos}
theorem zar9:PO X none tNoPart:=by
 intro pins s σ H Q I h
 rw [evalPart_none]
 exact zba0 ⟨none,H,I,.none,h⟩
theorem zw6 (h:PE X e te):PO X (some e) (tPart te):=by
 intro pins s σ H Q I hw
 rw [evalPart_some]
 refine thn (h pins s σ H _ I hw) fun u s1 ⟨x,H1,I1,r1,q1⟩=>?_
 obtain⟨i,rfl,q⟩:=q1
 obtain⟨t,rfl⟩:=r1
 exact⟨some i,H1,I1,.int i t,q⟩
noncomputable def SlR (X:Cx) (r:V→Option Int→Option Int→Hp→VK→Prop):Prop :=
 ∀(pins:List (Addr×Obj)) (s:zaz5) (σ:St) (H:Hp) (x:V) (v vl vu:Value) (lo hi:Option Int) (sl:Addr) (Q:VK),Inv X pins σ H s→RelV x v→s.heap.IsSliceOf sl vl vu .none→IsPart vl lo→IsPart vu hi→r x lo hi H Q →
  ∃T id,typeLookup (.type T) "__getitem__"=pure (some (.builtin id))∧s.TypeIs v T∧wpAny (model X.prog X.w) X.A (getItem v (.ref sl)) (EP X pins σ Q) X.xe s
noncomputable def tSl (r:V→Option Int→Option Int→Hp→VK→Prop) (te:TE) (tl th:TO):TE:=fun σ H Q=>te σ H fun x H1=>tl σ H1 fun l H2=>th σ H2 fun u H3=>r x l u H3 Q
theorem zx0 {r:V→Option Int→Option Int→Hp→VK→Prop} (hr:SlR X r) (he:PE X e te) (hl:PO X lo tl) (hu:PO X hi th):PE X (.Subscript e (.Slice lo hi none p2) pos) (tSl r te tl th):=by
 intro pins s σ H Q I h
 refine Subscript_ (thn (he pins s σ H _ I h) fun v s1 ⟨x,H1,I1,r1,q1⟩=>?_)
 refine wpAny_Slice (thn (hl pins s1 σ H1 _ I1 q1) fun vl s2 ⟨l,H2,I2,pl,q2⟩=>thn (hu pins s2 σ H2 _ I2 q2) fun vu s3 ⟨u,H3,I3,pu,q3⟩=>?_)
 rw [evalPart_none]
 refine zba0 ?_
 have I4:Inv X pins σ H3 { s3 with heap:=s3.heap.push { cls:=.type "slice",data:=.fields #[vl,vu,.none] } }:=I3.kept (t':=s3.toks) fun b ob q=>zay7 _ q
 obtain⟨T,id,hT,ht,hg⟩:=hr pins { s3 with heap:=s3.heap.push { cls:=.type "slice",data:=.fields #[vl,vu,.none] } } σ H3 x v vl vu l u s3.heap.objs.size Q I4 r1 (Heap.IsSliceOf.new ..) pl pu q3
 show wpAny (model X.prog X.w) X.A (subscriptTail e (.Slice lo hi none p2) v (.ref s3.heap.objs.size)) (EP X pins σ Q) X.xe { s3 with heap:=s3.heap.push { cls:=.type "slice",data:=.fields #[vl,vu,.none] } }
 exact tail_any (ops:=[.ref s3.heap.objs.size,v]) ht hT hg (by with_unfolding_all rfl)
noncomputable def cutV (xs:List V) (lo hi:Option Int):List V:=(xs.drop (HT.sIx xs.length 0 lo)).take (HT.sIx xs.length xs.length hi - HT.sIx xs.length 0 lo)
theorem zah2 (xs:List V) (lo hi:Option Int):(cutV xs lo hi).length≤xs.length:=by
 unfold cutV
 rw [zbj3,zbj4]
 lia
end
end L2
namespace L2
open PySem.Spec
noncomputable def ixN (n:Nat) (i:Int):Option Nat:=if 0≤i then (if i<n then some i.toNat else none) else if -(n:Int)≤i then some (i+n).toNat else none
def atI {α:Type} (xs:List α) (i:Int):Option α:=(ixN xs.length i).bind fun j=>xs[j]?
theorem ixN_seq {n:Nat}{i:Int}{j:Nat} (h:ixN n i=some j):seqIndex? i n=some j∧j<n ∧ -(n:Int)≤i∧i<n:=by
 unfold ixN at h
 by_cases h0:0≤i
 ·rw [if_pos h0]at h
  by_cases h1:i<n
  ·rw [if_pos h1]at h
   have e:i.toNat=j:=Option.some.inj h
   exact⟨by rw [seqIndex_of h0 h1,e],by lia,by lia,h1⟩
  ·rw [if_neg h1]at h;cases h
 ·rw [if_neg h0]at h
  by_cases h1 : -(n:Int)≤i
  ·rw [if_pos h1]at h
   have e:(i+n).toNat=j:=Option.some.inj h
   exact⟨by rw [seqIndex_neg (by lia) h1,e],by lia,h1,by lia⟩
  ·rw [if_neg h1]at h;cases h
theorem zah7 {α:Type}{xs:List α}{i:Int}{v:α} (h:atI xs i=some v):∃j,seqIndex? i xs.length=some j∧xs[j]?=some v∧j<xs.length ∧ -(xs.length:Int)≤i∧i<xs.length:=by
 unfold atI at h
 cases e:ixN xs.length i with
 |none=>rw [e]at h;cases h
 |some j =>
  rw [e]at h
  obtain⟨h1,h2,h3,h4⟩:=ixN_seq e
  exact⟨j,h1,h,h2,h3,h4⟩
def zy5 (b:Expr):Prop := ∀o i,subscripted b false o i=operate [o,i] (getItem o i)
noncomputable def IxR (X:Cx) (r:R2):Prop :=
 ∀(value slice:Expr) (pins:List (Addr×Obj)) (s:zaz5) (σ:St) (H:Hp) (x y:V) (v u:Value) (Q:VK),Inv X pins σ H s→RelV x v→RelV y u→r x y H Q →
  subscripted slice false v u=operate [v,u] (getItem v u)→wpAny (model X.prog X.w) X.A (subscriptTail value slice v u) (EP X pins σ Q) X.xe s
noncomputable def MtR (X:Cx) (id:String) (r:V→List V→Hp→VK→Prop):Prop :=
 ∀(pins:List (Addr×Obj)) (s:zaz5) (σ:St) (H:Hp) (x:V) (xs:List V) (v:Value) (us:List Value) (Q:VK),Inv X pins σ H s→RelV x v→Vals xs us→r x xs H Q →
  wpAny (model X.prog X.w) X.A (call (.builtin id) (v::us)) (EP X pins σ Q) X.xe s
section
variable {X:Cx}{a b:Expr}{ta tb:TE}{pos:Pos}
theorem IxR.or {r r':R2} (h:IxR X r) (h':IxR X r'):IxR X (fun x y H Q=>r x y H Q∨r' x y H Q):=by
 intro value slice pins s σ H x y v u Q I rx ry q hs
 rcases q with q | q
 ·exact h value slice pins s σ H x y v u Q I rx ry q hs
 ·exact h' value slice pins s σ H x y v u Q I rx ry q hs
theorem pe_ix {r:R2} (hr:IxR X r) (ha:PE X a ta) (hb:PE X b tb) (hs:zy5 b):PE X (.Subscript a b pos) (tOp r ta tb):=by
 intro pins s σ H Q I h
 exact Subscript_ (binT ha hb I h fun v u s2 x y H2 I2 rx ry q=>hr a b pins s2 σ H2 x y v u Q I2 rx ry q (hs _ _))
def rIxL (K:zay3):R2:=fun x y H Q => ∃p xs i v,x=.ref p∧y=.int i∧SqL K H p xs∧atI xs i=some v∧Q v H
def rIxT (K:zay3):R2:=fun x y H Q => ∃p xs i v,x=.ref p∧y=.int i∧SqT K H p xs∧atI xs i=some v∧Q v H
def rIxS:R2:=fun x y H Q => ∃z i c,x=.str z∧y=.int i∧z.length≤sizeLine∧atI z.cps.toList i=some c∧Q (.str ⟨#[c]⟩) H
theorem ix_list:IxR X (rIxL X.K):=by
 intro value slice pins s σ H x y v u Q I rx ry h hs
 obtain⟨p,xs,i,z,rfl,rfl,hq,he,q⟩:=h
 cases rx
 obtain⟨t,rfl⟩:=ry
 obtain⟨its,r,pl,hz⟩:=I.list hq
 obtain⟨j,h1,h2,h3,h4,h5⟩:=zah7 he
 obtain⟨w,ew,rw'⟩:=r.get h2
 have hl:=r.length
 have hn:=zv0
 have fin:EP X pins σ Q w s:=⟨z,H,I,rw',q⟩
 by_cases h0:0≤i
 ·have hj:i.toNat=j:=by
   rw [seqIndex_of h0 h5]at h1
   exact Option.some.inj h1
  exact item_listR pl.isList h0 (by lia) (by rw [hj];simpa using ew) fin hs
 ·have hj:(i+(its.toArray.size:Int)).toNat=j:=by
   rw [seqIndex_neg (by lia) h4]at h1
   rw [zbb3, ← hl]
   exact Option.some.inj h1
  exact subscriptTail_builtinR (x:=w) pl.isList.typeIs slot_list_getitem.lookup
   (wpAny_getItem_list_neg (Q:=fun r s'=>r=w∧EP X pins σ Q r s') pl.isList (by lia) (by rw [zbb3]<;>lia) (by lia) (by rw [hj];simpa using ew) ⟨rfl,fin⟩) hs
theorem ix_tup:IxR X (rIxT X.K):=by
 intro value slice pins s σ H x y v u Q I rx ry h hs
 obtain⟨p,xs,i,z,rfl,rfl,hq,he,q⟩:=h
 cases rx
 obtain⟨t,rfl⟩:=ry
 obtain⟨its,r,pl,hz⟩:=I.tuple hq
 obtain⟨j,h1,h2,h3,h4,h5⟩:=zah7 he
 obtain⟨w,ew,rw'⟩:=r.get h2
 have hl:=r.length
 have hn:=zv0
 have fin:EP X pins σ Q w s:=⟨z,H,I,rw',q⟩
 exact subscriptTail_builtinR (x:=w) pl.typeIs slot_tuple_getitem.lookup
  (getItem_tuple (j:=j) (Q:=fun r s'=>r=w∧EP X pins σ Q r s') pl (by lia) (by lia) (by rw [zbb3, ← hl];exact h1) (by simpa using ew) ⟨rfl,fin⟩) hs
theorem ix_str:IxR X rIxS:=by
 intro value slice pins s σ H x y v u Q I rx ry h hs
 obtain⟨z,i,c,rfl,rfl,hz,he,q⟩:=h
 obtain⟨t,rfl⟩:=rx
 obtain⟨t',rfl⟩:=ry
 obtain⟨j,h1,h2,h3,h4,h5⟩:=zah7 he
 have hl:z.cps.toList.length=z.length:=by simp [Str.length]
 rw [hl]at h1 h4 h5
 have hn:=zv0
 exact tail_any (typeIs_str s z t) slot_str_getitem.lookup (getItem_str (c:=c) (by
  have e1:decide (i < -(2 ^ 63:Int))=false:=decide_eq_false (by lia)
  have e2:decide (i ≥ 2 ^ 63)=false:=decide_eq_false (by lia)
  rw [e1,e2,zbn8]) (by rw [h1];simpa using h2) ⟨.str ⟨#[c]⟩,H,I.tok _,⟨_,rfl⟩,q⟩) hs
theorem Inv.lst {pins:List (Addr×Obj)}{σ:St}{H:Hp}{s:zaz5}{p:Addr}{xs:List V} (I:Inv X pins σ H s) (h:H p=some (.lst xs)) :
  ∃(its:List Value) (n:Nat),Vals xs its∧s.heap.get? p=some { cls:=.type "list",data:=.seq its.toArray n }∧xs.length≤sizeLine:=by
 obtain⟨z,its,n,r,e⟩:=I.hok p _ h
 exact⟨its,n,r,e,z⟩
theorem zz4 (lo hi:Option Int) (n:Nat):(sliceBounds lo hi none n).1=((HT.sIx n 0 lo:Nat):Int)∧(sliceBounds lo hi none n).2.1=((HT.sIx n n hi:Nat):Int)∧(sliceBounds lo hi none n).2.2=1:=by
 refine⟨?_,?_,rfl⟩
 ·cases lo with
  |none=>simp [sliceBounds,HT.sIx]
  |some i =>
   simp only [sliceBounds,HT.sIx,zbo7,show (1:Int) > 0 by decide,if_true]
   by_cases h:i<0
   ·simp only [h,if_true]<;>lia
   ·simp only [h,if_false]<;>lia
 ·cases hi with
  |none=>simp [sliceBounds,HT.sIx]
  |some i =>
   simp only [sliceBounds,HT.sIx,zbo7,show (1:Int) > 0 by decide,if_true]
   by_cases h:i<0
   ·simp only [h,if_true]<;>lia
   ·simp only [h,if_false]<;>lia
theorem zw2 (its:List Value) (lo hi:Option Int):slicePick its.toArray lo hi none=((its.drop (HT.sIx its.length 0 lo)).take (HT.sIx its.length its.length hi - HT.sIx its.length 0 lo)).toArray:=by
 obtain⟨h1,h2,h3⟩:=zz4 lo hi its.toArray.size
 unfold slicePick
 rw [h1,h2,h3]
 simp only [sliceRange_one,pick_run,zbb3]<;>rfl
noncomputable def rSlL (K:zay3):V→Option Int→Option Int→Hp→VK→Prop:=fun x lo hi H Q => ∃a xs,x=.ref a∧SqL K H a xs∧∀p,H p=none→Q (.ref p) (upd H p (.lst (cutV xs lo hi)))
theorem zae6:SlR X (rSlL X.K):=by
 intro pins s σ H x v vl vu lo hi sl Q I rx hs pl pu h
 obtain⟨a,xs,rfl,hx,q⟩:=h
 cases rx
 obtain⟨its,r,ht,hz⟩:=I.list hx
 have hlen:=r.length
 refine⟨"list",_,slot_list_getitem.lookup,ht.isList.typeIs,?_⟩
 refine wpAny_getItem_list_slice ht.isList hs pl pu .none (by simp) ?_ (by rw [zbb3]<;>lia)
 rw [zw2, ← hlen]
 refine⟨.ref s.heap.objs.size,_,I.laid (t':=s.toks) (o:=.lst (cutV xs lo hi)) (fun b ob q=>zay7 _ q) (zaz7 _) ?_,rfl,q _ (I.hok.fresh (zaz7 _))⟩
 exact⟨zbd7 (zah2 xs lo hi) hz,_,0,(r.drop (HT.sIx xs.length 0 lo)).take (HT.sIx xs.length xs.length hi - HT.sIx xs.length 0 lo),zba8 _ rfl⟩
def zo4:V→Bool
 |.non=>true
 |.bl _=>true
 |.int _=>true
 |.str _=>true
 |_=>false
noncomputable def eqV:V→V→Bool
 |.non,.non=>true
 |.bl a,.bl b=>a == b
 |.bl a,.int b=>(if a then 1 else 0) == b
 |.int a,.bl b=>a ==(if b then 1 else 0)
 |.int a,.int b=>a == b
 |.str a,.str b=>a == b
 |_,_=>false
theorem zav2 {A:Around}{s:zaz5}{y x:V}{u v:Value} (ry:RelV y u) (rx:RelV x v) (fy:zo4 y=true) (fx:zo4 x=true):SeqAt.EqAt A s u v (eqV y x):=by
 cases y with
 |non =>
  cases ry
  cases x with
  |non=>cases rx;exact SeqAt.EqAt.same _
  |bl b=>cases rx;exact SeqAt.EqAt.none_bool b
  |int b=>obtain⟨t,rfl⟩:=rx;exact SeqAt.EqAt.none_int b t
  |str b=>obtain⟨t,rfl⟩:=rx;exact SeqAt.EqAt.none_str b t
  |_=>exact absurd (show false=true from fx) zba1
 |bl a =>
  cases ry
  cases x with
  |non=>cases rx;exact SeqAt.EqAt.bool_none a
  |bl b=>cases rx;exact SeqAt.EqAt.bool_bool a b
  |int b=>obtain⟨t,rfl⟩:=rx;exact SeqAt.EqAt.bool_int a b t
  |str b=>obtain⟨t,rfl⟩:=rx;exact SeqAt.EqAt.bool_str a b t
  |_=>exact absurd (show false=true from fx) zba1
 |int a =>
  obtain⟨t',rfl⟩:=ry
  cases x with
  |non=>cases rx;exact SeqAt.EqAt.int_none a t'
  |bl b=>cases rx;exact SeqAt.EqAt.int_bool a t' b
  |int b=>obtain⟨t,rfl⟩:=rx;exact SeqAt.EqAt.int_int a t' b t
  |str b=>obtain⟨t,rfl⟩:=rx;exact SeqAt.EqAt.int_str a t' b t
  |_=>exact absurd (show false=true from fx) zba1
 |str a =>
  obtain⟨t',rfl⟩:=ry
  cases x with
  |non=>cases rx;exact SeqAt.EqAt.str_none a t'
  |bl b=>cases rx;exact SeqAt.EqAt.str_bool a t' b
  |int b=>obtain⟨t,rfl⟩:=rx;exact SeqAt.EqAt.str_int a t' b t
  |str b=>obtain⟨t,rfl⟩:=rx;exact SeqAt.EqAt.str_str a t' b t
  |_=>exact absurd (show false=true from fx) zba1
 |_=>exact absurd (show false=true from fy) zba1
noncomputable def eqU (x:V) (u:Value):Bool:=match u with
 |.none=>eqV .non x
 |.bool b=>eqV (.bl b) x
 |.int i _=>eqV (.int i) x
 |.str z _=>eqV (.str z) x
 |_=>false
theorem eqU_of {x y:V}{u:Value} (r:RelV y u) (f:zo4 y=true):eqU x u=eqV y x:=by
 cases y with
 |non=>cases r;rfl
 |bl b=>cases r;rfl
 |int i=>obtain⟨t,rfl⟩:=r;rfl
 |str z=>obtain⟨t,rfl⟩:=r;rfl
 |_=>exact absurd (show false=true from f) zba1
theorem zah8 {x:V}:∀ {xs:List V}{us:List Value},Vals xs us→xs.all zo4=true→us.any (eqU x)=xs.any fun y=>eqV y x
 |_,_,.nil,_=>rfl
 |y::xs,u::us,.cons r t,f=>by
  rw [zbi0,zba6]at f
  rw [zbg4,zbg4,eqU_of r f.1,zah8 t f.2]
theorem zx2 {A:Around}{s:zaz5}{x:V}{v:Value} (rx:RelV x v) (fx:zo4 x=true):∀ {xs:List V}{us:List Value},Vals xs us→xs.all zo4=true→∀u∈us,SeqAt.EqAt A s u v (eqU x u)
 |_,_,.nil,_=>fun u hu=>by cases hu
 |y::xs,u::us,.cons r t,f=>fun u' hu=>by
  rw [zbi0,zba6]at f
  rcases zaz2.mp hu with rfl | hu
  ·rw [eqU_of r f.1];exact zav2 r rx f.1 fx
  ·exact zx2 rx fx t f.2 u' hu
def inV (x:V) (xs:List V):Bool:=xs.any fun y=>eqV y x
noncomputable def rIn (K:zay3) (neg:Bool):R2:=fun x y H Q => ∃p xs,y=.ref p∧(SqL K H p xs∨SqT K H p xs)∧zo4 x=true∧xs.all zo4=true∧Q (.bl (if neg then !inV x xs else inV x xs)) H
theorem zaa9:OpR X (compareOp .In) (rIn X.K false):=by
 intro pins s σ H x y v u Q I rx ry h
 obtain⟨p,xs,rfl,hq,fx,fs,q⟩:=h
 cases ry
 rcases hq with hq | hq
 ·obtain⟨its,r,pl,hz⟩:=I.list hq
  refine SeqAt.in_listAt (eqU x) pl.isList (fun w hw=>zx2 rx fx r fs w (by simpa using hw)) ⟨.bl _,H,I,rfl,?_⟩
  rw [show its.toArray.any (eqU x)=its.any (eqU x) by simp,zah8 r fs]
  exact q
 ·obtain⟨its,r,pl,hz⟩:=I.tuple hq
  refine SeqAt.in_tupleAt (eqU x) pl (fun w hw=>zx2 rx fx r fs w (by simpa using hw)) ⟨.bl _,H,I,rfl,?_⟩
  rw [show its.toArray.any (eqU x)=its.any (eqU x) by simp,zah8 r fs]
  exact q
theorem zad4:zq7 X (.builtin "len") (fun xs H Q => ∃p ys,xs=[.ref p]∧(SqL X.K H p ys∨SqT X.K H p ys)∧Q (.int ys.length) H):=by
 intro pins s σ H xs us Q I r h
 obtain⟨p,ys,rfl,hq,q⟩:=h
 obtain⟨u,rfl,rx⟩:=zam2 r
 cases rx
 have hn:=zv0
 rcases hq with hq | hq
 ·obtain⟨its,r',pl,hz⟩:=I.list hq
  have hlen:=r'.length
  exact Calls.call_len_list pl.isList (by simp only [zbb3]<;>lia) ⟨.int ys.length,H,I.tok _,⟨s.toks+1,by rw [zbb3,hlen]⟩,q⟩
 ·obtain⟨its,r',pl,hz⟩:=I.tuple hq
  have hlen:=r'.length
  exact len_tuple pl (by simp only [zbb3]<;>lia) ⟨.int ys.length,H,I.tok _,⟨s.toks+1,by rw [zbb3,hlen]⟩,q⟩
theorem zad3:zq7 X (.builtin "len") (fun xs H Q => ∃z,xs=[.str z]∧z.length≤sizeLine∧Q (.int z.length) H):=by
 intro pins s σ H xs us Q I r h
 obtain⟨z,rfl,hz,q⟩:=h
 obtain⟨u,rfl,t,rfl⟩:=zam2 r
 have hn:=zv0
 exact len_str (by lia) ⟨.int z.length,H,I.tok _,⟨_,rfl⟩,q⟩
theorem zad2:zq7 X (.type "list") (fun xs H Q => ∃p ys,xs=[.ref p]∧(SqL X.K H p ys∨SqT X.K H p ys)∧∀l,H l=none→Q (.ref l) (upd H l (.lst ys))):=by
 intro pins s σ H xs us Q I r h
 obtain⟨p,ys,rfl,hq,q⟩:=h
 obtain⟨u,rfl,rx⟩:=zam2 r
 cases rx
 have fin:∀(its:List Value),Vals ys its→ys.length≤sizeLine→∀(h':Heap) (c':Nat),(∀b o',s.heap.get? b=some o'→h'.get? b=some o') →
   h'.get? s.heap.objs.size=some { cls:=.type "list",dict:=none,data:=.seq its.toArray c',slots := #[] }→EP X pins σ Q (.ref s.heap.objs.size) { s with heap:=h' }:=fun its r' hz h' c' kp e =>
  ⟨.ref s.heap.objs.size,_,I.laid (t':=s.toks) kp (zaz7 _) (show ObjOk X.prog X.w _ h' _ (.lst ys) from ⟨hz,its,c',r',e⟩),rfl,q _ (I.hok.fresh (zaz7 _))⟩
 rcases hq with hq | hq
 ·obtain⟨its,r',pl,hz⟩:=I.list hq
  have hlen:=r'.length
  obtain⟨o,ho,hc,n,hd⟩:=pl.isList
  exact call_list_seq p (.inl rfl) ho hc hd (fun h' c' kp e=>fin its r' hz h' c' kp e) (by simp only [zbb3]<;>lia)
 ·obtain⟨its,r',pl,hz⟩:=I.tuple hq
  have hlen:=r'.length
  obtain⟨o,ho,hc,n,hd⟩:=pl
  exact call_list_seq p (.inr rfl) ho hc hd (fun h' c' kp e=>fin its r' hz h' c' kp e) (by simp only [zbb3]<;>lia)
noncomputable def tyV (K:zay3) (T:String) (x:V) (H:Hp):Prop:=match x with
 |.str _=>T = "str"
 |.int _=>T = "int"
 |.ref p=>(T = "list"∧∃xs,SqL K H p xs)∨(T = "tuple"∧∃o,K.lookup p=some o∧o.cls=.type "tuple"∧o.dict=none) ∨
   (T = "dict"∧((∃kvs,H p=some (.dK kvs))∨∃kvs,H p=some (.dT kvs)))∨(T = "set"∧∃S n,H p=some (.set S n))
 |_=>False
theorem tyV_is {pins:List (Addr×Obj)}{σ:St}{H:Hp}{s:zaz5}{T:String}{x:V}{v:Value} (I:Inv X pins σ H s) (r:RelV x v) (ty:tyV X.K T x H) :
  s.TypeIs v T∧∀a,v=.ref a→∃ob,s.heap.get? a=some ob∧ob.dict=none:=by
 cases x with
 |str z =>
  obtain⟨t,rfl⟩:=r
  cases (show T = "str" from ty)
  exact⟨typeIs_str s z t,fun _ e=>nomatch e⟩
 |int i =>
  obtain⟨t,rfl⟩:=r
  cases (show T = "int" from ty)
  exact⟨typeIs_int s i t,fun _ e=>nomatch e⟩
 |ref p =>
  cases r
  rcases ty with ⟨rfl,xs,hq⟩ | ⟨rfl,o,hk,hc,hd⟩ | ⟨rfl,hk⟩ | ⟨rfl,S,n,hk⟩
  ·obtain⟨its,_,pl,_⟩:=I.list hq
   refine⟨pl.isList.typeIs,fun a e=>?_⟩
   cases e
   obtain⟨o,n,e,c,hd,_⟩:=pl
   exact⟨o,e,hd⟩
  ·refine⟨⟨o,I.kIn p o hk,hc⟩,fun a e=>?_⟩
   cases e
   exact⟨o,I.kIn _ o hk,hd⟩
  ·have z:∃o,s.heap.get? p=some o∧o.ExactDict:=by
    rcases hk with ⟨kvs,hk⟩ | ⟨kvs,hk⟩
    ·obtain⟨_,_,_,_,o,_,_,e,ex,_⟩:=I.hok p _ hk
     exact⟨o,e,ex⟩
    ·obtain⟨_,_,_,_,o,_,_,e,ex,_⟩:=I.hok p _ hk
     exact⟨o,e,ex⟩
   obtain⟨o,e,ex⟩:=z
   refine⟨⟨o,e,ex.1⟩,fun a e2=>?_⟩
   cases e2
   exact⟨o,e,ex.2.1⟩
  ·obtain⟨o,_,_,_,e,ex,_⟩:=I.hok p _ hk
   refine⟨⟨o,e,ex.1⟩,fun a e2=>?_⟩
   cases e2
   exact⟨o,e,ex.2.1⟩
 |_=>exact False.elim ty
def tBM0 (K:zay3) (T:String) (r:V→List V→Hp→VK→Prop) (to:TE):TE:=fun σ H Q=>to σ H fun x H1=>tyV K T x H1∧r x [] H1 Q
noncomputable def tBM (K:zay3) (T:String) (r:V→List V→Hp→VK→Prop) (to:TE) (t:TA):TE:=fun σ H Q=>to σ H fun x H1=>tyV K T x H1∧t σ H1 fun xs H2=>r x xs H2 Q
variable {o e:Expr}{es:List Expr}{to:TE}{t:TA}{name:Str}{apos cpos:Pos}{T id:String}{r:V→List V→Hp→VK→Prop}
theorem pe_bm0 (pa:PlainAttrs T) (slot:Slot T name id) (hty:typeOf (.builtin id)=pure (.type "method_descriptor")) (hm:MtR X id r) (ho:PE X o to)
  (hbase:attributeBase o name X.env (eval o X.env)=eval o X.env:=by rfl) (hline:(apos.endLine == cpos.line)=true:=by rfl):PE X (.Call (.Attribute o name apos) [] [] cpos) (tBM0 X.K T r to):=by
 intro pins s σ H Q I h
 refine wpAny_Call_method0_late hbase hline (thn (ho pins s σ H _ I h) fun v s1 ⟨x,H1,I1,r1,ty,q1⟩=>?_)
 obtain⟨h1,h2⟩:=tyV_is I1 r1 ty
 exact⟨T,id,pa,slot,hty,h1,h2,Calls.callWith_builtin rfl (PySem.evalArgs_none (hm pins s1 σ H1 x [] v [] Q I1 r1 .nil q1))⟩
theorem pe_bm (pa:PlainAttrs T) (slot:Slot T name id) (hty:typeOf (.builtin id)=pure (.type "method_descriptor")) (hm:MtR X id r) (ho:PE X o to) (ha:PA X (e::es) t)
  (hbase:attributeBase o name X.env (eval o X.env)=eval o X.env:=by rfl)
  (hfew:((zbf6 cpos (zba7 (e::es) X.env)).all (fun x=>!x.1)&&(backToKw cpos (keywordEach [] X.env)).all (fun x=>x.1.isSome)
   && decide ((e::es).length+([]:List Keyword).length+(if ([]:List Keyword).isEmpty then 0 else 1)<30))=true:=by rfl)
  (hline:(apos.endLine == cpos.line)=true:=by rfl) (hs:zba7 (e::es) X.env=(false,eval e X.env)::zba7 es X.env:=by rfl) (hplain:(zbf6 cpos (zba7 es X.env)).any (·.1)=false:=by rfl) :
  PE X (.Call (.Attribute o name apos) (e::es) [] cpos) (tBM X.K T r to t):=by
 intro pins s σ H Q I h
 refine wpAny_Call_method_late hbase hfew hline rfl (thn (ho pins s σ H _ I h) fun v s1 ⟨x,H1,I1,r1,ty,q1⟩=>?_)
 obtain⟨h1,h2⟩:=tyV_is I1 r1 ty
 refine⟨T,id,pa,slot,hty,h1,h2,?_⟩
 have hA:=ha cpos pins s1 σ H1 _ I1 q1
 rw [hs]at hA ⊢
 refine Calls.callWith_builtin (by show (false||(zbf6 cpos (zba7 es X.env)).any (·.1))=false;rw [hplain]<;>rfl) (Calls.evalArgs_plain ?_)
 exact thn hA fun us s2 ⟨vs,H2,I2,r2,q2⟩=>hm pins s2 σ H2 x vs v us Q I2 r1 r2 q2
end
end L2
namespace L2
open PySem.Spec
noncomputable def MtM (X:Cx) (id:String) (r:V→List V→Hp→VK→Prop):Prop :=
 ∀(pins:List (Addr×Obj)) (s:zaz5) (σ:St) (H:Hp) (x:V) (xs:List V) (v:Value) (us:List Value) (Q:VK),Inv X pins σ H s→RelV x v→Vals xs us→r x xs H Q →
  wpAny (model X.prog X.w) X.A (call (.builtin id) (v::us)) (EP X pins σ Q) X.xe s
theorem Vals.one:∀ {x:V}{us:List Value},Vals [x] us→∃u,us=[u]∧RelV x u
 |_,_,.cons r .nil=>⟨_,rfl,r⟩
theorem Vals.zero:∀ {us:List Value},Vals [] us→us=[]
 |_,.nil=>rfl
theorem Vals.rep {xs:List V}{us:List Value} (h:Vals xs us):∀k:Nat,Vals (zbb1 k xs).flatten (zbb1 k us).flatten
 |0=>.nil
 |k+1=>by
  rw [zbe7,zbe7,zbe6,zbe6]
  exact Vals.append h (Vals.rep h k)
theorem zac4 (its:List Value):∀(k:Nat) (acc:List Value),
  zbs4 (fun x1 x2=>x1++x2) acc.toArray (zbb1 k its.toArray)=(acc++(zbb1 k its).flatten).toArray
 |0,acc=>by simp
 |k+1,acc=>by
  have e:acc.toArray++its.toArray=(acc++its).toArray:=by simp
  have e2:(acc++its)++(zbb1 k its).flatten=acc++(zbb1 (k+1) its).flatten:=by
   rw [zbe7,zbe6,zaz4]
  rw [← e2, ← zac4 its k (acc++its), ← e,zbe7,zbm4]
section
variable {X:Cx}{pins:List (Addr×Obj)}{σ:St}{H:Hp}{s:zaz5}{l b:Addr}{xs ys zs:List V}
theorem Inv.lset {its its':List Value}{n:Nat}{f:Array Value→Array Value}{t':Nat} (I:Inv X pins σ H s) (hH:H l=some (.lst xs))
  (e:s.heap.get? l=some { cls:=.type "list",data:=.seq its.toArray n }) (hf:f its.toArray=its'.toArray) (hv:Vals ys its') (hz:ys.length≤sizeLine) :
  Inv X pins σ (upd H l (.lst ys)) { s with heap:=s.heap.update l (Obj.mapSeq f),toks:=t' }:=by
 have q:=PySem.IsL.update e f
 rw [hf]at q
 refine I.write (x:=l) (e:=l) (by rw [hH];exact trivial) (.inl rfl) (fun b' u hb hu=>(zbe1 s.heap (Obj.mapSeq f) (Ne.symm hb)).trans hu) ⟨_,q⟩ ?_
 exact⟨hz,its',_,hv,q⟩
theorem Inv.lnew {its:List Value}{t':Nat} (I:Inv X pins σ H s) (hv:Vals ys its) (hz:ys.length≤sizeLine) :
  Inv X pins σ (upd H s.heap.objs.size (.lst ys)) { s with heap:=s.heap.push { cls:=.type "list",data:=.seq its.toArray },toks:=t' } :=
 I.laid (fun _ _ q=>zay7 _ q) (zaz7 _) ⟨hz,its,0,hv,zba8 _ rfl⟩
theorem Inv.fresh (I:Inv X pins σ H s):H s.heap.objs.size=none:=I.hok.fresh (zaz7 _)
theorem Inv.lstM (I:Inv X pins σ H s) (hH:H l=some (.lst xs)):xs.length≤sizeLine∧∃(its:List Value) (n:Nat),Vals xs its∧xs.length=its.length∧s.heap.get? l=some { cls:=.type "list",data:=.seq its.toArray n }:=by
 obtain⟨z,its,n,r,e⟩:=I.hok l _ hH
 exact⟨z,its,n,r,r.length,e⟩
theorem notLongL {n:Nat} (h:n≤sizeLine):Builtin.List.listTooLong n=false:=by
 unfold Builtin.List.listTooLong
 exact decide_eq_false (by lia)
end
section
variable {X:Cx}
noncomputable def rAppend:V→List V→Hp→VK→Prop:=fun x vs H Q => ∃l xs y,x=.ref l∧vs=[y]∧H l=some (.lst xs)∧xs.length<sizeLine∧Q .non (upd H l (.lst (xs++[y])))
theorem zn9:MtM X "list.append" rAppend:=by
 intro pins s σ H x vs v us Q I rx rv h
 obtain⟨l,xs,y,rfl,rfl,hH,hz,q⟩:=h
 cases rx
 obtain⟨u,rfl,ru⟩:=rv.one
 obtain⟨z,its,n,r,hl,e⟩:=I.lstM hH
 refine call_meets F.slot_list_append ⟨_,e,rfl⟩ F.entry_list_append (F.args_list_append_2 _ _) (PySem.list_append l its.toArray n u (by rw [zbb3];lia)) ⟨e,?_⟩
 refine⟨.non,_,I.lset (its':=its++[u]) hH e (by simp) (r.append (.cons ru .nil)) ?_,rfl,q⟩
 rw [zbd4,List.length_singleton]
 lia
noncomputable def rRep:R2:=fun x y H Q => ∃l k xs,x=.ref l∧y=.int k∧H l=some (.lst xs) ∧ -(2 ^ 63)≤k∧k<2 ^ 63∧xs.length*k.toNat≤sizeLine ∧
 ∀p,H p=none→Q (.ref p) (upd H p (.lst (zbb1 k.toNat xs).flatten))
theorem len_rep {α:Type} (xs:List α) (k:Nat):(zbb1 k xs).flatten.length=k*xs.length:=by
 induction k with
 |zero=>simp
 |succ k ih=>rw [zbe7,zbe6,zbd4,ih,Nat.succ_mul,Nat.add_comm]
theorem op_rep:OpR X (binaryOp .Mult) rRep:=by
 intro pins s σ H x y v u Q I rx ry h
 obtain⟨l,k,xs,rfl,rfl,hH,h1,h2,hz,q⟩:=h
 cases rx
 obtain⟨t,rfl⟩:=ry
 obtain⟨z,its,n,r,hl,e⟩:=I.lstM hH
 have hlen:its.toArray.size*k.toNat≤sizeLine:=by rw [zbb3, ← hl];exact hz
 have hcap : ¬ its.toArray.size*k.toNat >(2 ^ 63 - 1) / 8:=by
  have:(sizeLine:Nat)≤(2 ^ 63 - 1) / 8:=by decide
  lia
 have hfit : ¬ (!Builtin.List.listFitsIndex k)=true:=by
  rw [fitsIndex_both h1 h2]
  exact zba1
 have hlong : ¬ Builtin.List.listTooLong (its.toArray.size*k.toNat)=true:=by
  rw [notLongL hlen]
  exact zba1
 have hnew:zbs4 (fun x1 x2=>x1++x2) #[] (zbb1 (if its.toArray.isEmpty=true then 0 else k.toNat) its.toArray)=(zbb1 k.toNat its).flatten.toArray:=by
  have f0:∀m:Nat,zbs4 (fun x1 x2=>x1++x2) #[] (zbb1 m its.toArray)=(zbb1 m its).flatten.toArray:=fun m=>by
   have:=zac4 its m []
   rw [zbe4]at this
   exact this
  rw [f0]
  cases its with
  |nil=>simp
  |cons a r'=>rw [if_neg (by simp)]
 refine wpAny_binaryOp_repeat_ref (T := "list") (U := "int") (by decide) ⟨_,e,rfl⟩ (fun s'=>typeIs_int s' k t) noFill_list_mul F.fills_int_mul F.slot_int_rmul repeat_list F.slot_int_index.lookup
  (call_meets F.slot_int_rmul (typeIs_int s k t) F.entry_int_rmul (F.args_int_rmul_2 _ _) (int___rmul___int_list k t l its.toArray n)
   ⟨e,rfl,⟨_,e,rfl⟩,call_meets F.slot_list_mul ⟨_,e,rfl⟩ F.entry_list_mul (F.args_list_mul_2 _ _) (AutoListH.list___mul___list_int_3 l its.toArray n k t hfit hcap hlong) ⟨e,?_⟩⟩)
 rw [hnew]
 exact⟨.ref _,_,I.lnew (t':=s.toks) (r.rep k.toNat) (by rw [len_rep,Nat.mul_comm];exact hz),rfl,q _ I.fresh⟩
end
end L2
namespace Att
open PySem.W PySem.Calls
theorem zs3 {P:Params}{h:Heap}:∀(ns:List Int) (vs:List Value),WellAll P h vs (ns.map WData.int)→IntsAre vs ns:=by
 intro ns
 induction ns with
 |nil =>
  intro vs w
  rw [zbm8]at w
  cases w
  exact .nil
 |cons n ns ih =>
  intro vs w
  rw [zba2]at w
  cases w with
  |cons a b =>
   cases a
   exact .cons _ _ (ih _ b)
theorem script_of {l:OpenLaw}{n:Nat} (hn:l.most=some n) {P:Params}{h:Heap}{args:List WData}{vals:List Value}
  (hpre:l.row.toRowW.claim.pre args=true) (hwl:WellAll P h vals args) :
  ∃a vs ns,vals=[Value.ref a]∧args=[WData.list (ns.map WData.int)]∧h.get? a=some { cls:=.type "list",data:=.seq vs.toArray }∧IntsAre vs ns∧ns.length≤n:=by
 have hsh:WShape.hasAll [] args [.list .int]=true:=(pre_splitW hpre).1
 have hc:l.pre.holds [] { args:=args }=true:=(pre_splitW hpre).2
 obtain⟨d,r,rfl,h1,h2⟩:=hasAllW_cons hsh
 obtain rfl:=hasAllW_nil h2
 obtain⟨xs,rfl,h3⟩:=hasW_list h1
 obtain⟨ns,rfl⟩:=items_int h3
 have hlen:ns.length≤n:=by
  unfold OpenLaw.pre at hc
  have h4:(WTm.not (.lt (.lit (.int (n:Int))) (.len (.arg 0)))).holds [] { args:=[.list (ns.map .int)] }=true:=by
   have h4:=(holds_andW hc).1
   rw [hn]at h4
   exact h4
  have h5:=condW_of h4 (w_not (w_lt w_lit (w_len_list (w_arg rfl))))
  rw [zbc4]at h5
  refine Nat.le_of_not_lt fun q=>?_
  have q':(n:Int)<((ns.length:Nat):Int):=by lia
  first
   |(rw [decide_eq_true q']at h5;exact absurd h5 (by decide))
   |(simp at h5;lia)
 cases hwl with
 |cons w1 w2 =>
  cases w2
  cases w1 with
  |list ho hall=>exact⟨_,_,ns,rfl,rfl,ho,zs3 ns _ hall,hlen⟩
theorem post_true (l:OpenLaw) (args:List WData):l.row.toRowW.claim.post args (.bool true) args=true :=
 postW_of (r:=l.row.toRowW) (X:=(true == true))
  (show WShape.has [] (.bool true) .bool=true by first | rfl | decide | simp [WShape.has,WShape.arms,WShape.armsAll])
  (show (WTm.eq .res (.lit (.bool true))).value [] { args:=args,res:=some (.bool true),after:=args }=some (.bool (true == true)) from w_eq_bool (w_res rfl) w_lit) rfl
end Att
namespace L2
open PySem.Spec
theorem zy8:∀ {vs:List Value}{ns:List Int},IntsAre vs ns→Vals (ns.map V.int) vs
 |_,_,.nil=>.nil
 |_,_,.cons n t h=>.cons ⟨t,rfl⟩ (zy8 h)
noncomputable def zj9 (s:Stmt):Arguments:=match s with
 |.FunctionDef _ a _ _ _ _ _ _ _ _=>a
 |_=>{ posonlyargs:=[],args:=[],vararg:=none,kwonlyargs:=[],kw_defaults:=[],kwarg:=none,defaults:=[] }
def zh9 (s:Stmt):List Stmt:=match s with
 |.FunctionDef _ _ b _ _ _ _ _ _ _=>b
 |_=>[]
noncomputable def zb0 (s:Stmt):Scope:=match s with
 |.FunctionDef _ _ _ _ _ _ sc _ _ _=>sc
 |_=>{ kind:=.function,names:=[],isGenerator:=false,isCoroutine:=false }
abbrev CX0:CXT:=fun _ _ _ _ _ _=>False
abbrev E0:XK:=fun _ _ _=>False
theorem pass0 {X:Cx}:zay1 CX0 X E0:=fun _ _ _ _ _ _ _ h=>h.elim
structure Fun (K:zay3) (x qual:Str) (st:Stmt) (f:Addr) (fd:FuncData):Prop where
 ex:∃(oc:Value) (od:Option Addr) (kV doc pm:Value) (an:Option Addr) (cdv ct:Value) (osl:Array (Option Value)),
  fd=zbe9 x qual (zj9 st) (zh9 st) (zb0 st) .none kV doc pm an cdv ct∧K.lookup f=some ⟨oc,od,.func fd,osl⟩∧zbk4 K cdv qual=true
 kp:zbd9 K (.ref f)=true
section
variable {P:Program}{w:World}{K:zay3}{mg:Str→Option Value}{base:BHeap}
theorem Fun.ok {x qual:Str}{st:Stmt}{f:Addr}{fd:FuncData}{N ps:List Str}{k:Nat}{sp:Sp} (F:Fun K x qual st f fd) (S:FnScope N ps (zb0 st)) (len:∀vs H Q E,sp vs H Q E→vs.length=ps.length)
  (hbody:∀(cdv:Value) (A:Around) (outer:List Env) (s:zaz5) (H:Hp) (vs:List V) (Q:VK) (E:XK),Room k (A.deeper (envOfC qual (zb0 st) s.heap.objs.size f cdv))→sp vs H Q E →
   ∃t,PSs (cxOf CX0 P w K mg base N qual (zb0 st) f cdv A outer s H E).nox (zh9 st) t∧t { nx:=fun _ H'=>Q .non H',rt:=Q } (start N vs) H):FnOk P w K mg base CX0 (k+1) f fd ps sp:=by
 obtain⟨oc,od,kV,doc,pm,an,cdv,ct,osl,rfl,lk,hcd⟩:=F.ex
 refine fn_of lk hcd S len fun A outer s H vs Q E hr hsp=>?_
 obtain⟨t,h,q⟩:=hbody cdv A outer s H vs Q E hr hsp
 exact⟨t,h.nox,q⟩
theorem Fun.binds {x qual:Str}{st:Stmt}{f:Addr}{fd:FuncData}{ps:List Str} (F:Fun K x qual st f fd)
  (h:∀(kV doc pm:Value) (an:Option Addr) (cdv ct:Value) (us:List Value),us.length=ps.length→bindArgs (zbe9 x qual (zj9 st) (zh9 st) (zb0 st) .none kV doc pm an cdv ct) ⟨us,[]⟩=pure (ps.zip us)):Binds K fd ps []:=by
 obtain⟨oc,od,kV,doc,pm,an,cdv,ct,osl,rfl,lk,hcd⟩:=F.ex
 exact .all (h kV doc pm an cdv ct)
theorem fun_mk {x qual:Str}{st:Stmt}{f:Addr}{oc:Value}{od an:Option Addr}{osl:Array (Option Value)}{kV doc pm cdv ct:Value} (l:K.lookup f=some ⟨oc,od,.func (zbe9 x qual (zj9 st) (zh9 st) (zb0 st) .none kV doc pm an cdv ct),osl⟩)
  (c:zbk4 K cdv qual=true) (k:zbd9 K (.ref f)=true):Fun K x qual st f (zbe9 x qual (zj9 st) (zh9 st) (zb0 st) .none kV doc pm an cdv ct):=⟨⟨oc,od,kV,doc,pm,an,cdv,ct,osl,rfl,l,c⟩,k⟩
end
theorem iteF {A B:Prop} (h:B):if false=true then A else B:=by
 rw [if_neg zba1]
 exact h
theorem iteT {A B:Prop} (h:A):if true=true then A else B:=by
 rw [if_pos rfl]
 exact h
def Same (H H':Hp):Prop := ∀b o,H b=some o→H' b=some o
theorem Same.refl (H:Hp):Same H H:=fun _ _ h=>h
theorem Same.trans {H H1 H2:Hp} (a:Same H H1) (b:Same H1 H2):Same H H2:=fun c o h=>b c o (a c o h)
theorem Same.free {H H':Hp} (e:Same H H') {l:Addr} (h:H' l=Option.none):H l=Option.none:=by
 cases q:H l with
 |none=>rfl
 |some o =>
  rw [e l o q]at h
  cases h
theorem Same.seq {K:zay3}{H H':Hp}{a:Addr}{xs:List V} (e:Same H H') (h:SqL K H a xs):SqL K H' a xs:=by
 rcases h with (h | ⟨o,h⟩) |h
 ·exact .inl (.inl (e _ _ h))
 ·exact .inl (.inr ⟨o,e _ _ h⟩)
 ·exact .inr h
end L2
set_option maxHeartbeats 4000000
namespace L2
open PySem.Spec
section
variable {κ:Type} [DecidableEq κ]
def valV (kvs:List (κ×V)) (k:κ):Option V:=(kvs.find? fun kv=>decide (kv.1=k)).map (·.2)
noncomputable def putK (kvs:List (κ×V)) (k:κ) (v:V):List (κ×V) :=
 if (kvs.any fun kv=>decide (kv.1=k))=true then kvs.map (fun kv=>if kv.1=k then (kv.1,v) else kv) else kvs++[(k,v)]
def dropK (kvs:List (κ×V)) (k:κ):List (κ×V):=kvs.filter fun kv=>decide (kv.1≠k)
theorem zw0 {p:κ×V}{r:List (κ×V)}{k:κ} (e:p.1=k):valV (p::r) k=some p.2:=by simp [valV,zbg6,e]
theorem zw1 {p:κ×V}{r:List (κ×V)}{k:κ} (e : ¬ p.1=k):valV (p::r) k=valV r k:=by simp [valV,zbg6,e]
theorem zai3 (k:κ):∀kvs:List (κ×V),(kvs.any fun kv=>decide (kv.1=k))=(valV kvs k).isSome
 |[]=>rfl
 |p::r=>by
  rw [zbg4]
  by_cases e:p.1=k
  ·simp only [zw0 e,decide_eq_true e,Bool.true_or,zbn5]
  ·rw [zw1 e,decide_eq_false e,zbn9];exact zai3 k r
theorem zs1 (kvs:List (κ×V)) (k:κ) (v:V):(putK kvs k v).length≤kvs.length+1:=by
 unfold putK
 split
 ·rw [zbc4];lia
 ·rw [zbd4,zbe2,List.length_nil];lia
theorem RelO.isSome_eq {o:Option V}{u:Option Value} (r:RelO o u):o.isSome=u.isSome:=by
 cases o with
 |none=>cases u with
  |none=>rfl
  |some _=>exact (show False from r).elim
 |some _=>cases u with
  |none=>exact (show False from r).elim
  |some _=>rfl
theorem RelO.getD {o:Option V}{u:Option Value}{d:V}{d':Value} (r:RelO o u) (rd:RelV d d'):RelV (o.getD d) (u.getD d'):=by
 cases o with
 |none=>cases u with
  |none=>exact rd
  |some _=>exact (show False from r).elim
 |some _=>cases u with
  |none=>exact (show False from r).elim
  |some _=>exact r
theorem KV.val {kvs:List (κ×V)}{vs:List (κ×Value)} (r:KV kvs vs) (k:κ):RelO (valV kvs k) (valueAt vs k):=by
 unfold KV at r
 induction r with
 |nil=>exact True.intro
 |@cons p q ps qs h t ih =>
  obtain⟨h1,h2⟩:=h
  by_cases e:p.1=k
  ·have e':q.1=k:=h1.symm.trans e
   have b:valueAt (q::qs) k=some q.2:=by simp [valueAt,zbg6,e']
   rw [zw0 e,b];exact h2
  ·have e' : ¬ q.1=k:=fun z=>e (h1.trans z)
   have b:valueAt (q::qs) k=valueAt qs k:=by simp [valueAt,zbg6,e']
   rw [zw1 e,b];exact ih
theorem KV.any {kvs:List (κ×V)}{vs:List (κ×Value)} (r:KV kvs vs) (k:κ):(kvs.any fun kv=>decide (kv.1=k))=vs.any fun kv=>decide (kv.1=k):=by
 unfold KV at r
 induction r with
 |nil=>rfl
 |cons h t ih=>rw [zbg4,zbg4,ih,h.1]
theorem KV.repl {kvs:List (κ×V)}{vs:List (κ×Value)} (r:KV kvs vs) (k:κ) {y:V}{u:Value} (ry:RelV y u) :
  KV (kvs.map fun kv=>if kv.1=k then (kv.1,y) else kv) (vs.map fun kv=>if kv.1=k then (kv.1,u) else kv):=by
 unfold KV at r ⊢
 induction r with
 |nil=>exact .nil
 |@cons p q ps qs h t ih =>
  rw [zba2,zba2]
  refine .cons ?_ ih
  obtain⟨h1,h2⟩:=h
  by_cases e:p.1=k
  ·rw [if_pos e,if_pos (h1.symm.trans e)];exact⟨h1,ry⟩
  ·rw [if_neg e,if_neg (fun z=>e (h1.trans z))];exact⟨h1,h2⟩
theorem KV.put {kvs:List (κ×V)}{vs:List (κ×Value)} (r:KV kvs vs) (k:κ) {y:V}{u:Value} (ry:RelV y u):KV (putK kvs k y) (stored vs k u):=by
 unfold putK stored
 rw [r.any k]
 by_cases e:(vs.any fun kv=>decide (kv.1=k))=true
 ·rw [if_pos e,if_pos e];exact r.repl k ry
 ·rw [if_neg e,if_neg e];exact Paired.snoc r ⟨rfl,ry⟩
theorem KV.drop {kvs:List (κ×V)}{vs:List (κ×Value)} (r:KV kvs vs) (k:κ):KV (dropK kvs k) (without vs k):=by
 unfold KV at r ⊢
 unfold dropK without
 induction r with
 |nil=>exact .nil
 |@cons p q ps qs h t ih =>
  obtain⟨h1,h2⟩:=h
  rw [zbo8,zbo8]
  by_cases e:p.1=k
  ·have a : ¬ decide (p.1≠k)=true:=by simp [e]
   have b : ¬ decide (q.1≠k)=true:=by simp [h1.symm.trans e]
   rw [if_neg a,if_neg b];exact ih
  ·have e' : ¬ q.1=k:=fun z=>e (h1.trans z)
   have a:decide (p.1≠k)=true:=by simp [e]
   have b:decide (q.1≠k)=true:=by simp [e']
   rw [if_pos a,if_pos b];exact .cons ⟨h1,h2⟩ ih
theorem KV.length {kvs:List (κ×V)}{vs:List (κ×Value)} (r:KV kvs vs):kvs.length=vs.length:=Paired.length r
end
theorem kV_is {P:Program}{w:World}{k:Key}{u:Value} (r:RelV (kV k) u):(zf5 P w).is k u=true:=by
 cases k with
 |inl i=>obtain⟨t,e⟩:=(show ∃t,u=Value.int i t from r);subst e;exact zag7 P w i t
 |inr x=>obtain⟨t,e⟩:=(show ∃t,u=Value.str x t from r);subst e;exact zag6 P w x t
theorem zac0 {P:Program}{w:World}:∀ {ks:List Key}{us:List Value},Vals (ks.map kV) us→ItemsAre (zf5 P w) ks us
 |[],_,r=>by rw [zbm8]at r;cases r;exact .nil
 |k::ks,_,r=>by
  rw [zba2]at r
  cases r with
  |cons h t=>exact .cons (kV_is h) (zac0 t)
noncomputable abbrev KT (H:Hp):List (List Key×V)→List (List Key×Addr×Value)→Prop:=Paired fun p q=>p.1=q.1∧H q.2.1=some (.tup (p.1.map kV))∧RelV p.2 q.2.2
theorem KT.val {H:Hp}{kvs:List (List Key×V)}{xs:List (List Key×Addr×Value)} (r:KT H kvs xs) (k:List Key):RelO (valV kvs k) ((atKey xs k).map (·.2)):=by
 induction r with
 |nil=>exact True.intro
 |@cons p q ps qs h t ih =>
  obtain⟨h1,_,h2⟩:=h
  by_cases e:p.1=k
  ·have e':q.1=k:=h1.symm.trans e
   have b:atKey (q::qs) k=some q.2:=by simp [atKey,zbg6,e']
   rw [zw0 e,b];exact h2
  ·have e' : ¬ q.1=k:=fun z=>e (h1.trans z)
   have b:atKey (q::qs) k=atKey qs k:=by simp [atKey,zbg6,e']
   rw [zw1 e,b];exact ih
theorem KT.repl {H:Hp}{kvs:List (List Key×V)}{xs:List (List Key×Addr×Value)} (r:KT H kvs xs) (k:List Key) {y:V}{u:Value} (ry:RelV y u) :
  KT H (kvs.map fun kv=>if kv.1=k then (kv.1,y) else kv) (xs.map (putAt k u)):=by
 induction r with
 |nil=>exact .nil
 |@cons p q ps qs h t ih =>
  rw [zba2,zba2]
  refine .cons ?_ ih
  obtain⟨h1,h2,h3⟩:=h
  unfold putAt
  by_cases e:p.1=k
  ·rw [if_pos e,if_pos (h1.symm.trans e)];exact⟨h1,h2,ry⟩
  ·rw [if_neg e,if_neg (fun z=>e (h1.trans z))];exact⟨h1,h2,h3⟩
theorem KT.put {H:Hp}{kvs:List (List Key×V)}{xs:List (List Key×Addr×Value)} (r:KT H kvs xs) (k:List Key) {b:Addr}{y:V}{u:Value} (hb:H b=some (.tup (k.map kV))) (ry:RelV y u) :
  KT H (putK kvs k y) (storedH xs k b u):=by
 have e:(kvs.any fun kv=>decide (kv.1=k))=(atKey xs k).isSome:=by
  rw [zai3,(r.val k).isSome_eq,Option.isSome_map]
 unfold putK storedH
 rw [e]
 by_cases q:(atKey xs k).isSome=true
 ·rw [if_pos q,if_pos q];exact r.repl k ry
 ·rw [if_neg q,if_neg q];exact Paired.snoc r ⟨rfl,hb,ry⟩
theorem KT.keeps {H H':Hp}{kvs:List (List Key×V)}{xs:List (List Key×Addr×Value)} (r:KT H kvs xs) (ht:∀b ys,H b=some (.tup ys)→H' b=some (.tup ys)):KT H' kvs xs :=
 Paired.mapP r fun _ _ z=>⟨z.1,ht _ _ z.2.1,z.2.2⟩
section
variable {P:Program}{w:World}{H:Hp}{h:Heap}{a:Addr}
theorem rd_of {u:HO} (ok:HOk P w H h) (e:Rd H a u):ObjOk P w H h a u:=e.ok ok
theorem dk_rd {kvs:List (Key×V)} (ok:HOk P w H h) (e:Rd H a (.dK kvs)):kvs.length≤sizeLine∧(a == sysModules)=false∧∃vs,KV kvs vs∧h.DictOf (zf5 P w) a vs :=
 show ObjOk P w H h a (.dK kvs) from rd_of ok e
theorem dk_of {kvs:List (Key×V)} (ok:HOk P w H h) (e:H a=some (.dK kvs)):kvs.length≤sizeLine∧(a == sysModules)=false∧∃vs,KV kvs vs∧h.DictOf (zf5 P w) a vs:=dk_rd ok (.inl e)
theorem key_of {ks:List Key} (ok:HOk P w H h) (e:H a=some (.tup (ks.map kV))):(tupleKind (zf5 P w)).is h ks a:=by
 obtain⟨_,its,r,o,h1,h2,n,h3⟩:=(show ObjOk P w H h a (.tup (ks.map kV)) from ok a _ e)
 exact⟨o,its.toArray,n,h1,h2,h3,by simpa using zac0 r⟩
theorem dt_rd {kvs:List (List Key×V)} (ok:HOk P w H h) (e:Rd H a (.dT kvs)):kvs.length≤sizeLine∧(a == sysModules)=false ∧
  ∃xs,KT H kvs xs∧h.DictOfH (tupleKind (zf5 P w)) a xs:=by
 obtain⟨z,y,xs,r,o,es,ep,h1,h2,h3,h4,h5⟩:=(show ObjOk P w H h a (.dT kvs) from rd_of ok e)
 refine⟨z,y,xs,r,o,es,ep,h1,h2,h3,h4,fun x hx=>?_,h5⟩
 have all:∀ {l:List (List Key×V)}{m:List (List Key×Addr×Value)},KT H l m→∀x∈m,(tupleKind (zf5 P w)).is h x.1 x.2.1:=by
  intro l m q
  induction q with
  |nil=>intro x hx;exact nomatch hx
  |@cons p q ps qs hq t ih =>
   intro x hx
   rcases zaz2.mp hx with e | hx
   ·subst e
    exact key_of ok (by rw [← hq.1];exact hq.2.1)
   ·exact ih x hx
 exact all r x hx
theorem dt_of {kvs:List (List Key×V)} (ok:HOk P w H h) (e:H a=some (.dT kvs)):kvs.length≤sizeLine∧(a == sysModules)=false ∧
  ∃xs,KT H kvs xs∧h.DictOfH (tupleKind (zf5 P w)) a xs:=dt_rd ok (.inl e)
end
noncomputable def DPut (H:Hp) (a:Addr) (y v:V) (H':Hp):Prop :=
 (∃kvs k,H a=some (.dK kvs)∧y=kV k∧kvs.length<sizeLine∧H'=upd H a (.dK (putK kvs k v))) ∨
 ∃kvs k b,H a=some (.dT kvs)∧y=.ref b∧H b=some (.tup (k.map kV))∧kvs.length<sizeLine∧H'=upd H a (.dT (putK kvs k v))
theorem DPut.t {H:Hp}{a b:Addr}{kvs:List (List Key×V)}{k:List Key}{v:V} (e:H a=some (.dT kvs)) (eb:H b=some (.tup (k.map kV))) (hl:kvs.length<sizeLine) :
  DPut H a (.ref b) v (upd H a (.dT (putK kvs k v))):=.inr ⟨kvs,k,b,e,rfl,eb,hl,rfl⟩
section
variable {X:Cx}{pins:List (Addr×Obj)}{σ:St}{H:Hp}{s:zaz5}{a:Addr}{y v:V}{u r:Value}{o:Option V}{A:Around}{E:Value→zaz5→Prop}
theorem Inv.big (I:Inv X pins σ H s):sysModules<s.heap.objs.size:=by
 have h:mainGlobals<s.heap.objs.size:=(I.mod.glob.keeps I.bk).lt
 exact zbh6 (by decide) h
theorem zav7 {h':Heap}{t':Nat}{ob:HO} (I:Inv X pins σ H s) (mu:Mut (H a)) (hs:Heap.SameBut a s.heap h') (he:∃q,h'.get? a=some q) (new:ObjOk X.prog X.w (upd H a ob) h' a ob) :
  Inv X pins σ (upd H a ob) { s with heap:=h',toks:=t' } :=
 I.write (x:=a) (e:=a) mu (.inl rfl) (fun b q hb z=>(hs.2 b hb).trans z) he new
theorem dk_new {P:Program}{w:World}{H':Hp}{h':Heap}{kvs:List (Key×V)}{vs:List (Key×Value)} (z:kvs.length≤sizeLine) (hd:(a == sysModules)=false) (rel:KV kvs vs) (dd:h'.DictOf (zf5 P w) a vs) :
  ObjOk P w H' h' a (.dK kvs):=⟨z,hd,vs,rel,dd⟩
theorem zav8 {H':Hp}{Q:Unit→zaz5→Prop} (hu:A.units+1<cLine) (I:Inv X pins σ H s) (g:DPut H a y v H') (ry:RelV y u) (rv:RelV v r) (h:∀s',Inv X pins σ H' s'→Q () s') :
  wpAny (model X.prog X.w) A (setItem (.ref a) u r) Q E s:=by
 rcases g with ⟨kvs,k,e,ey,l,eH⟩ | ⟨kvs,k,b,e,ey,eb,l,eH⟩
 ·subst ey eH
  obtain⟨z,hd,vs,rel,dd⟩:=dk_of I.hok e
  have hz:vs.length≤sizeLine:=by rw [← rel.length];exact z
  have hl:(putK kvs k v).length≤sizeLine:=by have:=zs1 kvs k v;lia
  refine wpAny_setItem_pairs (hsz:=hz) (kV_is ry) dd fun h' dd' hs=>h _ ?_
  have he:∃q,h'.get? a=some q:=let ⟨q,_,_,hq,_⟩:=dd';⟨q,hq⟩
  exact zav7 I (by rw [e];exact True.intro) hs he (dk_new hl hd (rel.put k rv) dd')
 ·subst ey eH
  cases (show u=Value.ref b from ry)
  obtain⟨z,hd,xs,rel,dd⟩:=dt_of I.hok e
  have hz:xs.length≤sizeLine:=by rw [← Paired.length rel];exact z
  have hl:(putK kvs k v).length≤sizeLine:=by have:=zs1 kvs k v;lia
  refine wpAny_setItem_heap (hsz:=hz) (tupleKind_room_in1 hu) (key_of I.hok eb) dd fun h' dd' hs=>h _ ?_
  obtain⟨q,es,ep,hq,h2,h3,h4,_,h5⟩:=dd'
  refine zav7 I (by rw [e];exact True.intro) hs ⟨q,hq⟩ ⟨hl,hd,_,(rel.put k eb rv).keeps fun c ys ec=>?_,q,es,ep,hq,h2,h3,h4,h5⟩
  rw [zb5 (ne_of ec e (fun z=>nomatch z))]
  exact ec
end
noncomputable def sDPut (td ty tv:TE):TS:=fun D σ H=>tv σ H fun v H1=>td σ H1 fun x H2=>ty σ H2 fun y H3 => ∃a H4,x=.ref a∧DPut H3 a y v H4∧D.nx σ H4
section
variable {X:Cx}{o i e value:Expr}{pos pos' tpos:Pos}{td ty tv:TE}
theorem ps_dput (hu:X.A.units+1<cLine) (ho:PE X o td) (hi:PE X i ty) (hv:PE X value tv) (hs:swapsWith value (some (.Subscript o i pos')) pos.line X.env=pure false) :
  PS X (.Assign [.Subscript o i pos'] value pos) (sDPut td ty tv):=by
 intro pins s σ H D I h
 refine wpAny_Assign_Subscript (thn (hv pins s σ H _ I h) fun r s1 ⟨v,H1,I1,rv,q1⟩=>thn (ho pins s1 σ H1 _ I1 q1) fun u s2 ⟨x,H2,I2,rx,q2⟩=>thn (hi pins s2 σ H2 _ I2 q2) fun iv s3 ⟨y,H3,I3,ry,a,H4,ex,g,q3⟩=>?_) hs
 subst ex
 obtain rfl:u=Value.ref a:=rx
 exact zav8 hu I3 g ry rv fun s4 I4=>⟨σ,H4,I4,q3⟩
end
theorem dt_empty {P:Program}{w:World}{H:Hp} (h:Heap) (hb:sysModules<h.objs.size):ObjOk P w H (h.push { cls:=.type "dict",data:=.dict #[] }) h.objs.size (.dT []) :=
 ⟨zbh7 _,beq_eq_false_iff_ne.mpr (Ne.symm (zbb9 hb)),[],.nil,_, #[],0,zba8 _ rfl,⟨rfl,rfl,rfl⟩,rfl,rfl,zbf4⟩
def tDNewT:TE:=fun _ H Q => ∀p,H p=none→Q (.ref p) (upd H p (.dT []))
section
variable {X:Cx}{pos:Pos}
theorem pe_dnewT:PE X (.Dict [] [] pos) tDNewT:=fun pins s σ H Q I h =>
 wpAny_Dict_empty ⟨.ref s.heap.objs.size,_,I.laid (a:=s.heap.objs.size) (o:=.dT []) (t':=s.toks) (fun _ _ q=>zay7 _ q) (zaz7 _) (dt_empty s.heap I.big),rfl,h _ (I.hok.fresh (zaz7 _))⟩
end
structure M1 (X:Cx) (o:Expr) (m:Str) (apos:Pos) (e:Expr) (cpos:Pos):Prop where
 base:attributeBase o m X.env (eval o X.env)=eval o X.env
 few:((zbf6 cpos (zba7 [e] X.env)).all (fun x=>!x.1)&&(backToKw cpos (keywordEach [] X.env)).all (fun x=>x.1.isSome)
  && decide (([e]:List Expr).length+([]:List Keyword).length+(if ([]:List Keyword).isEmpty then 0 else 1)<30))=true
 line:(apos.endLine == cpos.line)=true
 trees:zbf6 cpos (zba7 [e] X.env)=[(false,eval e X.env)]
structure M2 (X:Cx) (o:Expr) (m:Str) (apos:Pos) (e f:Expr) (cpos:Pos):Prop where
 base:attributeBase o m X.env (eval o X.env)=eval o X.env
 few:((zbf6 cpos (zba7 [e,f] X.env)).all (fun x=>!x.1)&&(backToKw cpos (keywordEach [] X.env)).all (fun x=>x.1.isSome)
  && decide (([e,f]:List Expr).length+([]:List Keyword).length+(if ([]:List Keyword).isEmpty then 0 else 1)<30))=true
 line:(apos.endLine == cpos.line)=true
 trees:zbf6 cpos (zba7 [e,f] X.env)=[(false,eval e X.env),(false,eval f X.env)]
end L2
namespace DL
open PySem.Spec L2
inductive D where
 |non | bl (b:Bool) |int (i:Int) |str (x:Str) |tup (xs:List D) |lst (xs:List D) |dct (ks:List Key) (ds:List D) |pdc (ps:List (Int×Int))
def mkKV (ks:List Key) (vs:List V):List (Key×V):=ks.zip vs
def pkv (ps:List (Int×Int)):List (List Key×V):=ps.map fun q=>([Sum.inl q.1,Sum.inl q.2],V.bl true)
mutual
inductive Rep (K:zay3) (H:Hp):D→V→Prop
 |non:Rep K H .non .non
 |bl (b:Bool):Rep K H (.bl b) (.bl b)
 |int (i:Int):Rep K H (.int i) (.int i)
 |str (x:Str):Rep K H (.str x) (.str x)
 |tup {ds:List D}{p:Addr}{vs:List V}:SqT K H p vs→Reps K H ds vs→Rep K H (.tup ds) (.ref p)
 |lst {ds:List D}{p:Addr}{vs:List V}:SqL K H p vs→Reps K H ds vs→Rep K H (.lst ds) (.ref p)
 |dct {ks:List Key}{ds:List D}{p:Addr}{vs:List V}:ks.length=vs.length→H p=some (.dK (mkKV ks vs))→Reps K H ds vs→Rep K H (.dct ks ds) (.ref p)
 |pdc {ps:List (Int×Int)}{p:Addr}:H p=some (.dT (pkv ps))→Rep K H (.pdc ps) (.ref p)
inductive Reps (K:zay3) (H:Hp):List D→List V→Prop
 |nil:Reps K H [] []
 |cons {d:D}{v:V}{ds:List D}{vs:List V}:Rep K H d v→Reps K H ds vs→Reps K H (d::ds) (v::vs)
end
theorem SqL.mono {K:zay3}{H H':Hp}{a:Addr}{xs:List V} (e:Same H H') (h:SqL K H a xs):SqL K H' a xs:=e.seq h
theorem SqT.mono {K:zay3}{H H':Hp}{a:Addr}{xs:List V} (e:Same H H') (h:SqT K H a xs):SqT K H' a xs:=by
 rcases h with (h | ⟨o,h⟩) |h
 ·exact .inl (.inl (e _ _ h))
 ·exact .inl (.inr ⟨o,e _ _ h⟩)
 ·exact .inr h
mutual
theorem Rep.mono {K:zay3}{H H':Hp} (e:Same H H'):∀ {d:D}{v:V},Rep K H d v→Rep K H' d v
 |_,_,.non=>.non
 |_,_,.bl b=>.bl b
 |_,_,.int i=>.int i
 |_,_,.str x=>.str x
 |_,_,.tup h r=>.tup (SqT.mono e h) (Reps.mono e r)
 |_,_,.lst h r=>.lst (SqL.mono e h) (Reps.mono e r)
 |_,_,.dct l h r=>.dct l (e _ _ h) (Reps.mono e r)
 |_,_,.pdc h=>.pdc (e _ _ h)
theorem Reps.mono {K:zay3}{H H':Hp} (e:Same H H'):∀ {ds:List D}{vs:List V},Reps K H ds vs→Reps K H' ds vs
 |_,_,.nil=>.nil
 |_,_,.cons h r=>.cons (Rep.mono e h) (Reps.mono e r)
end
theorem Reps.length {K:zay3}{H:Hp}:∀ {ds:List D}{vs:List V},Reps K H ds vs→vs.length=ds.length
 |_,_,.nil=>rfl
 |_,_,.cons _ r=>by simp [Reps.length r]
theorem Reps.get {K:zay3}{H:Hp}:∀ {ds:List D}{vs:List V},Reps K H ds vs→∀ {i:Nat}{d:D},ds[i]?=some d→∃v,vs[i]?=some v∧Rep K H d v
 |_,_,.nil,i,d,e=>by simp at e
 |_,_,.cons (v:=v) h r,0,d,e=>by simp at e;subst e;exact⟨v,rfl,h⟩
 |_,_,.cons h r,i+1,d,e=>by
  obtain⟨v,a,b⟩:=Reps.get r (i:=i) (d:=d) (by simpa using e)
  exact⟨v,by simpa using a,b⟩
theorem Reps.getV {K:zay3}{H:Hp}:∀ {ds:List D}{vs:List V},Reps K H ds vs→∀ {i:Nat}{v:V},vs[i]?=some v→∃d,ds[i]?=some d∧Rep K H d v
 |_,_,.nil,i,d,e=>by simp at e
 |_,_,.cons (d:=d) h r,0,v,e=>by simp at e;subst e;exact⟨d,rfl,h⟩
 |_,_,.cons h r,i+1,v,e=>by
  obtain⟨d,a,b⟩:=Reps.getV r (i:=i) (v:=v) (by simpa using e)
  exact⟨d,by simpa using a,b⟩
theorem Reps.app {K:zay3}{H:Hp}:∀ {ds:List D}{vs:List V}{es:List D}{us:List V},Reps K H ds vs→Reps K H es us→Reps K H (ds++es) (vs++us)
 |_,_,_,_,.nil,r=>r
 |_,_,_,_,.cons h r,q=>.cons h (Reps.app r q)
theorem Reps.take {K:zay3}{H:Hp}:∀ {ds:List D}{vs:List V} (n:Nat),Reps K H ds vs→Reps K H (ds.take n) (vs.take n)
 |_,_,0,_=>by simp;exact .nil
 |_,_,n+1,.nil=>by simp;exact .nil
 |_,_,n+1,.cons h r=>by simpa using .cons h (Reps.take n r)
theorem Reps.drop {K:zay3}{H:Hp}:∀ {ds:List D}{vs:List V} (n:Nat),Reps K H ds vs→Reps K H (ds.drop n) (vs.drop n)
 |_,_,0,r=>by simpa using r
 |_,_,n+1,.nil=>by simp;exact .nil
 |_,_,n+1,.cons h r=>by simpa using Reps.drop n r
theorem Reps.one {K:zay3}{H:Hp}{d:D}{v:V} (h:Rep K H d v):Reps K H [d] [v]:=.cons h .nil
theorem Reps.ints {K:zay3}{H:Hp}:∀ns:List Int,Reps K H (ns.map D.int) (ns.map V.int)
 |[]=>.nil
 |n::ns=>.cons (.int n) (Reps.ints ns)
mutual
def flat:D→Bool
 |.lst _=>false
 |.dct _ _=>false
 |.pdc _=>false
 |.tup xs=>flats xs
 |_=>true
def flats:List D→Bool
 |[]=>true
 |d::ds=>flat d&&flats ds
end
def hide (P:List Addr) (H:Hp):Hp:=fun a=>if a∈P then none else H a
theorem za7 (P:List Addr) (H:Hp):Same (hide P H) H:=fun b o e=>by
 unfold hide at e
 split at e
 ·cases e
 ·exact e
theorem zb1 {P:List Addr}{H:Hp}{a:Addr}{o:HO} (h:H a=some o) (n:a∉P):hide P H a=some o:=by
 unfold hide;rw [if_neg n];exact h
theorem zh5 {P:List Addr}{H:Hp}{a:Addr}{o:HO} (h:hide P H a=some o):a∉P∧H a=some o:=by
 unfold hide at h
 split at h
 ·cases h
 ·exact⟨by assumption,h⟩
theorem hide_nil (H:Hp):hide [] H=H:=by funext a;simp [hide]
theorem za6 {P P':List Addr} (H:Hp) (h:∀a∈P',a∈P):Same (hide P H) (hide P' H):=fun b o e=>by
 obtain⟨n,e⟩:=zh5 e
 exact zb1 e fun z=>n (h b z)
def mutO:HO→Bool
 |.lst _=>true
 |.dK _=>true
 |.dT _=>true
 |_=>false
abbrev MO:={o:HO // mutO o=true}
def mL (vs:List V):MO:=⟨.lst vs,rfl⟩
def mD (kvs:List (Key×V)):MO:=⟨.dK kvs,rfl⟩
def mT (kvs:List (List Key×V)):MO:=⟨.dT kvs,rfl⟩
def Lists (H:Hp) (P:List Addr):Prop := ∀p∈P,∃o:MO,H p=some o.1
theorem Lists.mono {H H':Hp}{P:List Addr} (h:Lists H P) (e:Same H H'):Lists H' P:=fun p hp=>let ⟨vs,q⟩:=h p hp;⟨vs,e _ _ q⟩
theorem SqT.hid {K:zay3}{H:Hp}{P:List Addr}{a:Addr}{xs:List V} (m:Lists H P) (h:SqT K H a xs):SqT K (hide P H) a xs:=by
 rcases h with (h | ⟨o,h⟩) |h
 ·exact .inl (.inl (zb1 h fun z=>by obtain⟨⟨vs,w⟩,q⟩:=m _ z;rw [q]at h;cases h;cases w))
 ·exact .inl (.inr ⟨o,zb1 h fun z=>by obtain⟨⟨vs,w⟩,q⟩:=m _ z;rw [q]at h;cases h;cases w⟩)
 ·exact .inr h
mutual
theorem Rep.hid {K:zay3}{H:Hp}{P:List Addr} (m:Lists H P):∀ {d:D}{v:V},flat d=true→Rep K H d v→Rep K (hide P H) d v
 |_,_,_,.non=>.non
 |_,_,_,.bl b=>.bl b
 |_,_,_,.int i=>.int i
 |_,_,_,.str x=>.str x
 |_,_,f,.tup h r=>.tup (SqT.hid m h) (Reps.hid m (by simpa [flat] using f) r)
 |_,_,f,.lst h r=>by simp [flat]at f
 |_,_,f,.dct _ h r=>by simp [flat]at f
 |_,_,f,.pdc h=>by simp [flat]at f
theorem Reps.hid {K:zay3}{H:Hp}{P:List Addr} (m:Lists H P):∀ {ds:List D}{vs:List V},flats ds=true→Reps K H ds vs→Reps K (hide P H) ds vs
 |_,_,_,.nil=>.nil
 |_,_,f,.cons h r=>by
  simp [flats]at f
  exact .cons (Rep.hid m f.1 h) (Reps.hid m f.2 r)
end
mutual
inductive RepD (K:zay3) (H0 H:Hp):D→V→List Addr→Prop
 |flat {d:D}{v:V}:flat d=true→Rep K H0 d v→RepD K H0 H d v []
 |tup {ds:List D}{p:Addr}{vs:List V}{B:List Addr}:SqT K H0 p vs→RepDs K H0 H ds vs B→RepD K H0 H (.tup ds) (.ref p) B
 |lst {ds:List D}{p:Addr}{vs:List V}{B:List Addr}:H p=some (.lst vs)→RepDs K H0 H ds vs B→RepD K H0 H (.lst ds) (.ref p) (p::B)
 |dct {ks:List Key}{ds:List D}{p:Addr}{vs:List V}{B:List Addr}:ks.length=vs.length→H p=some (.dK (mkKV ks vs))→RepDs K H0 H ds vs B→RepD K H0 H (.dct ks ds) (.ref p) (p::B)
 |pdc {ps:List (Int×Int)}{p:Addr}:H p=some (.dT (pkv ps))→RepD K H0 H (.pdc ps) (.ref p) [p]
inductive RepDs (K:zay3) (H0 H:Hp):List D→List V→List Addr→Prop
 |nil:RepDs K H0 H [] [] []
 |cons {d:D}{v:V}{ds:List D}{vs:List V}{B C:List Addr}:RepD K H0 H d v B→RepDs K H0 H ds vs C→RepDs K H0 H (d::ds) (v::vs) (B++C)
end
mutual
theorem RepD.mono {K:zay3}{H0 H H0' H':Hp} (e:Same H0 H0'):∀ {d:D}{v:V}{B:List Addr},RepD K H0 H d v B→(∀p∈B,∀o,H p=some o→H' p=some o)→RepD K H0' H' d v B
 |_,_,_,.flat f r,_=>.flat f (Rep.mono e r)
 |_,_,_,.tup h r,k=>.tup (SqT.mono e h) (RepDs.mono e r k)
 |_,_,_,.lst h r,k=>.lst (k _ (zaz0 ..) _ h) (RepDs.mono e r fun p hp=>k p (zay5 _ hp))
 |_,_,_,.dct l h r,k=>.dct l (k _ (zaz0 ..) _ h) (RepDs.mono e r fun p hp=>k p (zay5 _ hp))
 |_,_,_,.pdc h,k=>.pdc (k _ (zaz0 ..) _ h)
theorem RepDs.mono {K:zay3}{H0 H H0' H':Hp} (e:Same H0 H0'):∀ {ds:List D}{vs:List V}{B:List Addr},RepDs K H0 H ds vs B→(∀p∈B,∀o,H p=some o→H' p=some o)→RepDs K H0' H' ds vs B
 |_,_,_,.nil,_=>.nil
 |_,_,_,.cons h r,k=>.cons (RepD.mono e h fun p hp=>k p (zay6 _ hp)) (RepDs.mono e r fun p hp=>k p (zay4 _ hp))
end
mutual
theorem RepD.rep {K:zay3}{H0 H H1:Hp} (e:Same H0 H1):∀ {d:D}{v:V}{B:List Addr},RepD K H0 H d v B→(∀p∈B,∀o,H p=some o→H1 p=some o)→Rep K H1 d v
 |_,_,_,.flat f r,_=>Rep.mono e r
 |_,_,_,.tup h r,k=>.tup (SqT.mono e h) (RepDs.rep e r k)
 |_,_,_,.lst h r,k=>.lst (SqL.of (k _ (zaz0 ..) _ h)) (RepDs.rep e r fun p hp=>k p (zay5 _ hp))
 |_,_,_,.dct l h r,k=>.dct l (k _ (zaz0 ..) _ h) (RepDs.rep e r fun p hp=>k p (zay5 _ hp))
 |_,_,_,.pdc h,k=>.pdc (k _ (zaz0 ..) _ h)
theorem RepDs.rep {K:zay3}{H0 H H1:Hp} (e:Same H0 H1):∀ {ds:List D}{vs:List V}{B:List Addr},RepDs K H0 H ds vs B→(∀p∈B,∀o,H p=some o→H1 p=some o)→Reps K H1 ds vs
 |_,_,_,.nil,_=>.nil
 |_,_,_,.cons h r,k=>.cons (RepD.rep e h fun p hp=>k p (zay6 _ hp)) (RepDs.rep e r fun p hp=>k p (zay4 _ hp))
end
mutual
theorem RepD.lists {K:zay3}{H0 H:Hp}:∀ {d:D}{v:V}{B:List Addr},RepD K H0 H d v B→Lists H B
 |_,_,_,.flat f r=>fun p hp=>by cases hp
 |_,_,_,.tup h r=>RepDs.lists r
 |_,_,_,.lst h r=>fun p hp=>by
  rcases zaz2.mp hp with rfl | hp
  ·exact⟨mL _,h⟩
  ·exact RepDs.lists r p hp
 |_,_,_,.dct _ h r=>fun p hp=>by
  rcases zaz2.mp hp with rfl | hp
  ·exact⟨mD _,h⟩
  ·exact RepDs.lists r p hp
 |_,_,_,.pdc h=>fun p hp=>by
  rw [zbb0]at hp
  subst hp
  exact⟨mT _,h⟩
theorem RepDs.lists {K:zay3}{H0 H:Hp}:∀ {ds:List D}{vs:List V}{B:List Addr},RepDs K H0 H ds vs B→Lists H B
 |_,_,_,.nil=>fun p hp=>by cases hp
 |_,_,_,.cons h r=>fun p hp=>(zay8.mp hp).elim (RepD.lists h p) (RepDs.lists r p)
end
mutual
theorem RepD.hid {K:zay3}{H0 H:Hp}{P:List Addr} (m:Lists H P) (e:Same H0 H):∀ {d:D}{v:V}{B:List Addr},RepD K H0 H d v B→RepD K (hide P H) H d v B
 |_,_,_,.flat f r=>.flat f (Rep.hid m f (Rep.mono e r))
 |_,_,_,.tup h r=>.tup (SqT.hid m (SqT.mono e h)) (RepDs.hid m e r)
 |_,_,_,.lst h r=>.lst h (RepDs.hid m e r)
 |_,_,_,.dct l h r=>.dct l h (RepDs.hid m e r)
 |_,_,_,.pdc h=>.pdc h
theorem RepDs.hid {K:zay3}{H0 H:Hp}{P:List Addr} (m:Lists H P) (e:Same H0 H):∀ {ds:List D}{vs:List V}{B:List Addr},RepDs K H0 H ds vs B→RepDs K (hide P H) H ds vs B
 |_,_,_,.nil=>.nil
 |_,_,_,.cons h r=>.cons (RepD.hid m e h) (RepDs.hid m e r)
end
theorem RepDs.of_flat {K:zay3}{H0 H:Hp}:∀ {ds:List D}{vs:List V},flats ds=true→Reps K H0 ds vs→RepDs K H0 H ds vs []
 |_,_,_,.nil=>.nil
 |_,_,f,.cons h r=>by
  simp [flats]at f
  exact .cons (B:=[]) (C:=[]) (.flat f.1 h) (RepDs.of_flat f.2 r)
theorem Lists.app {H:Hp}{P Q:List Addr} (h:Lists H P) (k:Lists H Q):Lists H (P++Q):=fun p hp=>(zay8.mp hp).elim (h p) (k p)
inductive Ev where
 |cl (d:D) |tm (d:D) |nw (xs:List D) |dn (d:D)
def Ev.d:Ev→D
 |.cl d=>d
 |.tm d=>d
 |.nw xs=>.lst xs
 |.dn d=>d
noncomputable def RepEv (K:zay3) (F A:List Addr) (H H':Hp):Ev→V→Prop
 |.cl d,v=>Rep K (hide (A++F) H') d v
 |.tm d,v=>Rep K (hide F H') d v
 |.nw xs,v => ∃p vs,v=.ref p∧H p=none∧H' p=some (.lst vs)∧Reps K (hide (p ::(A++F)) H') xs vs
 |.dn d,v => ∃B,B.Nodup∧(∀b∈B,H b=none)∧RepD K (hide (B++(A++F)) H') H' d v B
theorem zc3 {P:List Addr}{H H':Hp} (e:Same H H'):Same (hide P H) (hide P H'):=fun b o h=>by
 obtain⟨n,h⟩:=zh5 h
 exact zb1 (e _ _ h) n
theorem RepEv.mono {K:zay3}{F A:List Addr}{H H1 H2:Hp}{r:Ev}{v:V} (h:RepEv K F A H H1 r v) (e:Same H1 H2):RepEv K F A H H2 r v:=by
 cases r with
 |cl d=>exact Rep.mono (zc3 e) h
 |tm d=>exact Rep.mono (zc3 e) h
 |nw xs =>
  obtain⟨p,vs,rfl,h1,h2,h3⟩:=h
  exact⟨p,vs,rfl,h1,e _ _ h2,Reps.mono (zc3 e) h3⟩
 |dn d =>
  obtain⟨B,h1,h2,h3⟩:=h
  exact⟨B,h1,h2,RepD.mono (zc3 e) h3 fun p _ o q=>e _ _ q⟩
theorem RepEv.back {K:zay3}{F A:List Addr}{H0 H H1:Hp}{r:Ev}{v:V} (h:RepEv K F A H H1 r v) (e:Same H0 H):RepEv K F A H0 H1 r v:=by
 cases r with
 |cl d=>exact h
 |tm d=>exact h
 |nw xs =>
  obtain⟨p,vs,rfl,h1,h2,h3⟩:=h
  refine⟨p,vs,rfl,?_,h2,h3⟩
  cases q:H0 p with
  |none=>rfl
  |some o=>rw [e _ _ q]at h1;cases h1
 |dn d =>
  obtain⟨B,h1,h2,h3⟩:=h
  exact⟨B,h1,fun b hb=>Same.free e (h2 b hb),h3⟩
theorem RepEv.full {K:zay3}{F A:List Addr}{H H':Hp}{r:Ev}{v:V} (h:RepEv K F A H H' r v):Rep K H' r.d v:=by
 cases r with
 |cl d=>exact Rep.mono (za7 _ _) h
 |tm d=>exact Rep.mono (za7 _ _) h
 |nw xs =>
  obtain⟨p,vs,rfl,h1,h2,h3⟩:=h
  exact .lst (SqL.of h2) (Reps.mono (za7 _ _) h3)
 |dn d =>
  obtain⟨B,h1,h2,h3⟩:=h
  exact h3.rep (za7 _ _) fun _ _ _ q=>q
theorem zc1 {H:Hp}{P:List Addr}{p:Addr} (m:Lists H P) (h:H p=none):p∉P:=fun z=>by
 obtain⟨vs,q⟩:=m _ z
 rw [q]at h;cases h
theorem RepEv.cleanF {K:zay3}{F A:List Addr}{H H':Hp}{r:Ev}{v:V} (m:Lists H (A++F)) (h:RepEv K F A H H' r v):Rep K (hide F H') r.d v:=by
 cases r with
 |cl d=>exact Rep.mono (za6 H' fun a z=>zay4 _ z) h
 |tm d=>exact h
 |nw xs =>
  obtain⟨p,vs,rfl,h1,h2,h3⟩:=h
  have n:p∉F:=fun z=>zc1 m h1 (zay4 _ z)
  exact .lst (SqL.of (zb1 h2 n)) (Reps.mono (za6 H' fun a z=>zay5 _ (zay4 _ z)) h3)
 |dn d =>
  obtain⟨B,h1,h2,h3⟩:=h
  refine h3.rep (za6 H' fun a z=>zay4 _ (zay4 _ z)) fun b hb o q=>zb1 q fun z=>?_
  exact zc1 m (h2 b hb) (zay4 _ z)
def Ev.ok:Ev→Bool
 |.cl _=>true
 |.tm d=>flat d
 |.nw _=>true
 |.dn _=>true
theorem RepEv.clean {K:zay3}{F A:List Addr}{H H':Hp}{r:Ev}{v:V} (m:Lists H (A++F)) (e:Same H H') (h:RepEv K F A H H' r v) (c:r.ok=true):Rep K (hide (A++F) H') r.d v:=by
 cases r with
 |cl d=>exact h
 |tm d =>
  have m':Lists H' (A++F):=m.mono e
  exact Rep.hid m' c (Rep.mono (za7 _ _) h)
 |nw xs =>
  obtain⟨p,vs,rfl,h1,h2,h3⟩:=h
  have n:p∉A++F:=zc1 m h1
  exact .lst (SqL.of (zb1 h2 n)) (Reps.mono (za6 H' fun a z=>zay5 _ z) h3)
 |dn d =>
  obtain⟨B,h1,h2,h3⟩:=h
  exact h3.rep (za6 H' fun a z=>zay4 _ z) fun b hb o q=>zb1 q fun z=>zc1 m (h2 b hb) z
inductive Sl where
 |no | val (d:D) |own (xs:List D) |dp (d:D)
abbrev Th:=List Sl
inductive RSl (K:zay3) (H0 H:Hp):Th→L2.St→List Addr→Prop
 |nil:RSl K H0 H [] [] []
 |no {x:Option V}{t:Th}{σ:L2.St}{A:List Addr}:RSl K H0 H t σ A→RSl K H0 H (.no::t) (x::σ) A
 |val {d:D}{v:V}{t:Th}{σ:L2.St}{A:List Addr}:Rep K H0 d v→RSl K H0 H t σ A→RSl K H0 H (.val d::t) (some v::σ) A
 |own {p:Addr}{vs:List V}{ds:List D}{t:Th}{σ:L2.St}{A:List Addr}:H p=some (.lst vs)→Reps K H0 ds vs→RSl K H0 H t σ A→RSl K H0 H (.own ds::t) (some (.ref p)::σ) (p::A)
 |dp {d:D}{v:V}{B:List Addr}{t:Th}{σ:L2.St}{A:List Addr}:RepD K H0 H d v B→RSl K H0 H t σ A→RSl K H0 H (.dp d::t) (some v::σ) (B++A)
structure RS (K:zay3) (F:List Addr) (H:Hp) (A:List Addr) (t:Th) (σ:L2.St):Prop where
 mu:Lists H (A++F)
 nd:A.Nodup
 dj:∀p∈A,p∉F
 rel:RSl K (hide (A++F) H) H t σ A
theorem RSl.mono {K:zay3}{H0 H H0' H':Hp} (e0:Same H0 H0'):∀ {t:Th}{σ:L2.St}{A:List Addr},RSl K H0 H t σ A→(∀p∈A,∀o,H p=some o→H' p=some o)→RSl K H0' H' t σ A:=by
 intro _ _ _ h
 induction h with
 |nil =>
  intro w0
  exact .nil
 |@no _ _ _ _ r ih =>
  intro e
  exact .no (ih e)
 |@val _ _ _ _ _ h r ih =>
  intro e
  exact .val (Rep.mono e0 h) (ih e)
 |@own _ _ _ _ _ _ h1 h2 r ih =>
  intro e
  exact .own (e _ (zaz0 ..) _ h1) (Reps.mono e0 h2) (ih fun p hp=>e p (zay5 _ hp))
 |@dp _ _ _ _ _ _ h r ih =>
  intro e
  exact .dp (RepD.mono e0 h fun p hp=>e p (zay6 _ hp)) (ih fun p hp=>e p (zay4 _ hp))
theorem RS.grow {K:zay3}{F A:List Addr}{H H':Hp}{t:Th}{σ:L2.St} (h:RS K F H A t σ) (e:Same H H'):RS K F H' A t σ :=
 ⟨h.mu.mono e,h.nd,h.dj,h.rel.mono (zc3 e) fun p _ o q=>e _ _ q⟩
theorem RSl.getVal {K:zay3}{H0 H:Hp}:∀ {t:Th}{σ:L2.St}{A:List Addr},RSl K H0 H t σ A→∀ {i:Nat}{d:D},t[i]?=some (.val d)→∃v,σ[i]?=some (some v)∧Rep K H0 d v:=by
 intro _ _ _ h
 induction h with
 |nil =>
  intro i d e
  simp at e
 |@no _ _ _ _ r ih =>
  intro i d e
  cases i with
  |zero =>
   simp at e
  |succ i =>
   simpa using ih (i:=i) (by simpa using e)
 |@val _ v _ _ _ h r ih =>
  intro i d e
  cases i with
  |zero =>
   simp at e;subst e;exact⟨v,rfl,h⟩
  |succ i =>
   simpa using ih (i:=i) (by simpa using e)
 |@own _ _ _ _ _ _ _ _ r ih =>
  intro i d e
  cases i with
  |zero =>
   simp at e
  |succ i =>
   simpa using ih (i:=i) (by simpa using e)
 |@dp _ _ _ _ _ _ _ r ih =>
  intro i d e
  cases i with
  |zero =>
   simp at e
  |succ i =>
   simpa using ih (i:=i) (by simpa using e)
theorem RSl.getOwn {K:zay3}{H0 H:Hp}:∀ {t:Th}{σ:L2.St}{A:List Addr},RSl K H0 H t σ A→∀ {i:Nat}{ds:List D},t[i]?=some (.own ds)→∃p vs,σ[i]?=some (some (.ref p))∧p∈A∧H p=some (.lst vs)∧Reps K H0 ds vs:=by
 intro _ _ _ h
 induction h with
 |nil =>
  intro i d e
  simp at e
 |@no _ _ _ _ r ih =>
  intro i d e
  cases i with
  |zero =>
   simp at e
  |succ i =>
   simpa using ih (i:=i) (by simpa using e)
 |@val _ v _ _ _ h r ih =>
  intro i d e
  cases i with
  |zero =>
   simp at e
  |succ i =>
   simpa using ih (i:=i) (by simpa using e)
 |@own p vs _ _ _ _ h1 h2 r ih =>
  intro i d e
  cases i with
  |zero =>
   simp at e;subst e;exact⟨p,vs,rfl,zaz0 ..,h1,h2⟩
  |succ i =>
   obtain⟨p,vs,a,b,c,f⟩:=ih (i:=i) (ds:=d) (by simpa using e)
   exact⟨p,vs,by simpa using a,zay5 _ b,c,f⟩
 |@dp _ _ _ _ _ _ _ r ih =>
  intro i d e
  cases i with
  |zero =>
   simp at e
  |succ i =>
   obtain⟨p,vs,a,b,c,f⟩:=ih (i:=i) (ds:=d) (by simpa using e)
   exact⟨p,vs,by simpa using a,zay4 _ b,c,f⟩
theorem RSl.getDp {K:zay3}{H0 H:Hp}:∀ {t:Th}{σ:L2.St}{A:List Addr},RSl K H0 H t σ A→A.Nodup→∀ {i:Nat}{d:D},t[i]?=some (.dp d)→∃v B,σ[i]?=some (some v)∧(∀b∈B,b∈A)∧B.Nodup∧RepD K H0 H d v B:=by
 intro _ _ _ h
 induction h with
 |nil =>
  intro n i d e
  simp at e
 |@no _ _ _ _ r ih =>
  intro n i d e
  cases i with
  |zero =>
   simp at e
  |succ i =>
   simpa using ih n (i:=i) (by simpa using e)
 |@val _ v _ _ _ h r ih =>
  intro n i d e
  cases i with
  |zero =>
   simp at e
  |succ i =>
   simpa using ih n (i:=i) (by simpa using e)
 |@own _ _ _ _ _ _ _ _ r ih =>
  intro n i d e
  cases i with
  |zero =>
   simp at e
  |succ i =>
   obtain⟨v,B,a,b,n',c⟩:=ih (zbb5.mp n).2 (i:=i) (d:=d) (by simpa using e)
   exact⟨v,B,by simpa using a,fun x hx=>zay5 _ (b x hx),n',c⟩
 |@dp _ v B _ _ _ h r ih =>
  intro n i d e
  cases i with
  |zero =>
   simp at e;subst e;exact⟨v,B,rfl,fun x hx=>zay6 _ hx,(zba4.mp n).1,h⟩
  |succ i =>
   obtain⟨v,B,a,b,n',c⟩:=ih (zba4.mp n).2.1 (i:=i) (d:=d) (by simpa using e)
   exact⟨v,B,by simpa using a,fun x hx=>zay4 _ (b x hx),n',c⟩
structure Gr (A:List Addr) (H:Hp) (A':List Addr) (H':Hp):Prop where
 kp:∀b o,b∉A→H b=some o→H' b=some o
 al:∀b∈A,H' b≠none
 nw:∀b∈A',b∈A∨H b=none
theorem Gr.refl {A:List Addr}{H:Hp} (m:Lists H A):Gr A H A H:=⟨fun _ _ _ h=>h,fun b hb=>by obtain⟨vs,q⟩:=m b hb;rw [q];simp,fun b h=>.inl h⟩
theorem Gr.of_same {A:List Addr}{H H':Hp} (m:Lists H A) (e:Same H H'):Gr A H A H':=⟨fun _ _ _ h=>e _ _ h,fun b hb=>by obtain⟨vs,q⟩:=m b hb;rw [e _ _ q];simp,fun b h=>.inl h⟩
theorem Gr.trans {A A1 A2:List Addr}{H H1 H2:Hp} (a:Gr A H A1 H1) (b:Gr A1 H1 A2 H2):Gr A H A2 H2 where
 kp:=fun x o n h=>b.kp x o (fun z=>by rcases a.nw x z with q | q;exact n q;rw [q]at h;cases h) (a.kp x o n h)
 al:=fun x hx=>by
  by_cases z:x∈A1
  ·exact b.al x z
  ·have:=a.al x hx
   cases q:H1 x with
   |none=>exact absurd q this
   |some o=>rw [b.kp x o z q];simp
 nw:=fun x hx=>by
  rcases b.nw x hx with q | q
  ·exact a.nw x q
  ·by_cases z:x∈A
   ·exact .inl z
   ·refine .inr ?_
    cases w:H x with
    |none=>rfl
    |some o=>rw [a.kp x o z w]at q;cases q
theorem Gr.same {F A A':List Addr}{H H':Hp} (g:Gr A H A' H'):Same (hide (A++F) H) (hide (A'++F) H'):=fun b o h=>by
 obtain⟨n,h⟩:=zh5 h
 have n1:b∉A:=fun z=>n (zay6 _ z)
 refine zb1 (g.kp b o n1 h) fun z=>?_
 rcases zay8.mp z with z | z
 ·rcases g.nw b z with q | q
  ·exact n1 q
  ·rw [q]at h;cases h
 ·exact n (zay4 _ z)
end DL
namespace DL
open PySem.Spec L2
abbrev DE:=Th→Option Ev
noncomputable def dE (K:zay3) (F:List Addr) (f:DE):TE:=fun σ H Q => ∃A t r,RS K F H A t σ∧f t=some r∧∀v H',Same H H'→RepEv K F A H H' r v→Q v H'
theorem PE.imp {X:Cx}{e:Expr}{t t':TE} (h:PE X e t) (i:∀σ H Q,t' σ H Q→t σ H Q):PE X e t':=fun pins s σ H Q I q=>h pins s σ H Q I (i σ H Q q)
section
variable {X:Cx}{F:List Addr}{a b c:Expr}{fa fb fc:DE}{pos:Pos}
noncomputable def dVar (i:Nat):DE:=fun t=>match t[i]? with
 |some (.val d)=>some (.cl d)
 |some (.own xs)=>some (.tm (.lst xs))
 |some (.dp d)=>some (.tm d)
 |_=>none
theorem za0 (i:Nat) {x:Str} (hN:X.N[i]?=some x:=by rfl) (hv:Vis X.env.scope x:=by first | exact Or.inl rfl | exact Or.inr (Or.inl rfl) |exact Or.inr (Or.inr rfl)) (hd:(x ==("__debug__":Str))=false:=by decide)
  (hcd:(x ==("__classdict__":Str))=false:=by decide):PE X (.Name x pos) (dE X.K F (dVar i)):=by
 refine PE.imp (zr8 (i:=i) hN hv hd hcd) ?_
 rintro σ H Q ⟨A,t,r,R,e,h⟩
 unfold dVar at e
 split at e
 ·rename_i d q
  cases e
  obtain⟨v,h1,h2⟩:=R.rel.getVal q
  exact⟨v,h1,h v H (Same.refl H) h2⟩
 ·rename_i ds q
  cases e
  obtain⟨p,vs,h1,h2,h3,h4⟩:=R.rel.getOwn q
  refine⟨_,h1,h _ H (Same.refl H) ?_⟩
  exact .lst (SqL.of (zb1 h3 (R.dj p h2))) (Reps.mono (za6 H fun a z=>zay4 _ z) h4)
 ·rename_i d q
  cases e
  obtain⟨v,B,h1,h2,h0,h3⟩:=R.rel.getDp R.nd q
  refine⟨_,h1,h _ H (Same.refl H) ?_⟩
  exact h3.rep (za6 H fun a z=>zay4 _ z) fun b hb o w=>zb1 w (R.dj b (h2 b hb))
 ·cases e
def dC (d:D):DE:=fun _=>some (.cl d)
theorem za3 {i j pos}:PE X (.Constant (.int i) j pos) (dE X.K F (dC (.int i))):=PE.imp pe_int fun σ H Q ⟨A,t,r,R,e,h⟩=>by cases e;exact h _ H (Same.refl H) (.int i)
theorem zq2 {b j pos}:PE X (.Constant (.bool b) j pos) (dE X.K F (dC (.bl b))):=PE.imp pe_bl fun σ H Q ⟨A,t,r,R,e,h⟩=>by cases e;exact h _ H (Same.refl H) (.bl b)
theorem zg5 {j pos}:PE X (.Constant .none j pos) (dE X.K F (dC .non)):=PE.imp pe_non fun σ H Q ⟨A,t,r,R,e,h⟩=>by cases e;exact h _ H (Same.refl H) .non
theorem zf3 {x j pos}:PE X (.Constant (.str x) j pos) (dE X.K F (dC (.str x))):=PE.imp pe_str fun σ H Q ⟨A,t,r,R,e,h⟩=>by cases e;exact h _ H (Same.refl H) (.str x)
theorem zw9 {x:Str}{i:Int}{u:Value} (hg:Gl X x) (hm:X.mg x=some u) (r:RelV (.int i) u) (hd:(x ==("__debug__":Str))=false:=by decide):PE X (.Name x pos) (dE X.K F (dC (.int i))) :=
 PE.imp (pe_glob hg hm r hd) fun σ H Q ⟨A,t,r,R,e,h⟩=>by cases e;exact h _ H (Same.refl H) (.int i)
noncomputable def OpD (X:Cx) (F:List Addr) (f:Value→Value→Sem Value) (k:Ev→Ev→Option Ev):Prop :=
 ∀(pins:List (Addr×Obj)) (s:zaz5) (σ:L2.St) (H0 H:Hp) (A:List Addr) (x y:V) (v u:Value) (Q:VK) (r1 r2 r:Ev),Inv X pins σ H s→Lists H0 (A++F)→Same H0 H→RelV x v→RelV y u →
  RepEv X.K F A H0 H r1 x→RepEv X.K F A H0 H r2 y→k r1 r2=some r→(∀z H',Same H H'→RepEv X.K F A H0 H' r z→Q z H')→wpAny (model X.prog X.w) X.A (f v u) (EP X pins σ Q) X.xe s
def d2 (k:Ev→Ev→Option Ev) (fa fb:DE):DE:=fun t=>(fa t).bind fun r1=>(fb t).bind fun r2=>k r1 r2
theorem two {k:Ev→Ev→Option Ev}{σ:L2.St}{H:Hp}{Q:VK} (h:dE X.K F (d2 k fa fb) σ H Q):∃A t r1 r2 r,RS X.K F H A t σ∧fa t=some r1∧fb t=some r2∧k r1 r2=some r ∧
  (∀v H',Same H H'→RepEv X.K F A H H' r v→Q v H')∧dE X.K F fa σ H fun x H1=>dE X.K F fb σ H1 fun y H2=>Same H H2∧RepEv X.K F A H H2 r1 x∧RepEv X.K F A H H2 r2 y:=by
 obtain⟨A,t,r,R,e,h⟩:=h
 unfold d2 at e
 cases e1:fa t with
 |none=>rw [e1]at e;cases e
 |some r1 =>
  cases e2:fb t with
  |none=>rw [e1,e2]at e;cases e
  |some r2 =>
   rw [e1,e2]at e
   exact⟨A,t,r1,r2,r,R,e1,e2,e,h,A,t,r1,R,e1,fun x H1 g1 q1=>⟨A,t,r2,R.grow g1,e2,fun y H2 g2 q2=>⟨g1.trans g2,q1.mono g2,q2.back g1⟩⟩⟩
theorem zb6 {op:Operator}{k:Ev→Ev→Option Ev} (ho:OpD X F (binaryOp op) k) (ha:PE X a (dE X.K F fa)) (hb:PE X b (dE X.K F fb)):PE X (.BinOp a op b pos) (dE X.K F (d2 k fa fb)):=by
 intro pins s σ H Q I h
 obtain⟨A,t,r1,r2,r,R,e1,e2,e,h,w⟩:=two h
 refine wpAny_BinOp (bin ha hb I w fun v u s2 x y H2 I2 rx ry q=>?_)
 obtain⟨g,q1,q2⟩:=q
 exact ho pins s2 σ H H2 A x y v u Q r1 r2 r I2 R.mu g rx ry q1 q2 e fun z H' g'=>h z H' (g.trans g')
theorem zas6 {op:CmpOp}{k:Ev→Ev→Option Ev} (ho:OpD X F (compareOp op) k) (ha:PE X a (dE X.K F fa)) (hb:PE X b (dE X.K F fb)) (hm:behindInMarks op b=false:=by first | exact nomark _ | (with_unfolding_all rfl)) :
  PE X (.Compare a [op] [b] pos) (dE X.K F (d2 k fa fb)):=by
 intro pins s σ H Q I h
 obtain⟨A,t,r1,r2,r,R,e1,e2,e,h,w⟩:=two h
 refine wpAny_Compare1 (bin ha hb I w fun v u s2 x y H2 I2 rx ry q=>?_) hm
 obtain⟨g,q1,q2⟩:=q
 exact ho pins s2 σ H H2 A x y v u Q r1 r2 r I2 R.mu g rx ry q1 q2 e fun z H' g'=>h z H' (g.trans g')
noncomputable def kI (C:Int→Int→Bool) (g:Int→Int→D):Ev→Ev→Option Ev:=fun r1 r2=>match r1.d,r2.d with
 |.int i,.int j=>if C i j then some (.cl (g i j)) else none
 |_,_=>none
theorem zc8 {K:zay3}{H:Hp}{i:Int}{v:V} (h:Rep K H (.int i) v):v=.int i:=by cases h;rfl
theorem zaa8 {f:Value→Value→Sem Value}{C:Int→Int→Prop}{g:Int→Int→V}{C':Int→Int→Bool}{g':Int→Int→D} (h:OpR X f (rI C g)) (hc:∀i j,C' i j=true→C i j)
  (hg:∀H i j,Rep X.K H (g' i j) (g i j)):OpD X F f (kI C' g'):=by
 intro pins s σ H0 H A x y v u Q r1 r2 r I m g0 rx ry q1 q2 e hq
 have p1:=q1.full
 have p2:=q2.full
 unfold kI at e
 split at e
 ·rename_i i j d1 d2
  split at e
  ·rename_i c
   cases e
   rw [d1]at p1;rw [d2]at p2
   cases zc8 p1;cases zc8 p2
   exact h pins s σ H _ _ v u Q I rx ry ⟨i,j,rfl,rfl,hc i j c,hq _ H (Same.refl H) (hg _ i j)⟩
  ·cases e
 ·cases e
theorem zaq7 {f:Value→Value→Sem Value}{g:Int→Int→V} (h:OpR X f (rI0 g)):OpR X f (rI (fun _ _=>True) g):=fun pins s σ H x y v u Q I rx ry ⟨i,j,e1,e2,_,q⟩=>h pins s σ H x y v u Q I rx ry ⟨i,j,e1,e2,q⟩
def tt2:Int→Int→Bool:=fun _ _=>true
theorem od_add:OpD X F (binaryOp .Add) (kI tt2 fun i j=>.int (i+j)):=zaa8 (zaq7 op_add) (fun _ _ _=>trivial) fun _ _ _=>.int _
def bnd:Nat:=2 ^ 4096
def sm (i:Int):Bool:=decide (i.natAbs<bnd)
def cMul (i j:Int):Bool:=sm i&&sm j
def cDiv (_ j:Int):Bool:=sm j&&decide (j≠0)
theorem zag8 {n k:Nat} (h:n<2 ^ k):n.log2≤k:=by
 by_cases z:n=0
 ·subst z;simp
 ·exact zbj2 ((Nat.log2_lt z).mpr h)
theorem cMul.ok {i j:Int} (h:cMul i j=true):IntMulOk i j:=by
 simp only [cMul,sm,zba6,decide_eq_true_eq]at h
 refine mulOk_of_bits (m:=4097) (n:=4097) ?_ ?_ (by decide)
 ·exact intBits_le (zba5 h.1 (by unfold bnd;exact zbh0 (by decide) (by decide)))
 ·exact intBits_le (zba5 h.2 (by unfold bnd;exact zbh0 (by decide) (by decide)))
theorem od_mul:OpD X F (binaryOp .Mult) (kI cMul fun i j=>.int (i*j)):=zaa8 (C:=IntMulOk) (opI fun _ _ _ _ _ _ _ hc q=>mul_int q hc) (fun _ _ h=>cMul.ok h) fun _ _ _=>.int _
theorem cDiv.ok {i j:Int} (h:cDiv i j=true):j≠0∧j.natAbs.log2<9000:=by
 simp only [cDiv,sm,zba6,decide_eq_true_eq]at h
 have:=zag8 h.1
 exact⟨h.2,by lia⟩
theorem zab4:OpD X F (binaryOp .FloorDiv) (kI cDiv fun i j=>.int (i.fdiv j)):=zaa8 (C:=fun _ j=>j≠0∧j.natAbs.log2<9000) (opI fun _ _ _ _ _ _ _ hc q=>floordiv_int hc.1 q (.inl (PyProof.noPylong_of_log2 hc.2))) (fun _ _ h=>cDiv.ok h) fun _ _ _=>.int _
def cMod (_ j:Int):Bool:=decide (j≠0)
theorem zm4:OpD X F (binaryOp .Mod) (kI cMod fun i j=>.int (i.fmod j)):=zaa8 op_modN (fun i j h=>by simpa [cMod] using h) fun _ _ _=>.int _
theorem od_lt:OpD X F (compareOp .Lt) (kI tt2 fun i j=>.bl (decide (i<j))):=zaa8 (zaq7 op_lt) (fun _ _ _=>trivial) fun _ _ _=>.bl _
theorem od_le:OpD X F (compareOp .LtE) (kI tt2 fun i j=>.bl (decide (i≤j))):=zaa8 (zaq7 op_le) (fun _ _ _=>trivial) fun _ _ _=>.bl _
theorem od_gt:OpD X F (compareOp .Gt) (kI tt2 fun i j=>.bl (decide (j<i))):=zaa8 (zaq7 op_gt) (fun _ _ _=>trivial) fun _ _ _=>.bl _
theorem od_ge:OpD X F (compareOp .GtE) (kI tt2 fun i j=>.bl (decide (j≤i))):=zaa8 (zaq7 op_ge) (fun _ _ _=>trivial) fun _ _ _=>.bl _
def kOr (k k':Ev→Ev→Option Ev):Ev→Ev→Option Ev:=fun r1 r2=>match k r1 r2 with
 |some r=>some r
 |none=>k' r1 r2
theorem OpD.or {f:Value→Value→Sem Value}{k k':Ev→Ev→Option Ev} (h:OpD X F f k) (h':OpD X F f k'):OpD X F f (kOr k k'):=by
 intro pins s σ H0 H A x y v u Q r1 r2 r I m g0 rx ry q1 q2 e hq
 unfold kOr at e
 split at e
 ·rename_i z
  cases e
  exact h pins s σ H0 H A x y v u Q r1 r2 _ I m g0 rx ry q1 q2 z hq
 ·exact h' pins s σ H0 H A x y v u Q r1 r2 _ I m g0 rx ry q1 q2 e hq
def d1 (k:Ev→Option Ev) (fa:DE):DE:=fun t=>(fa t).bind k
def kNeg:Ev→Option Ev:=fun r=>match r.d with
 |.int i=>some (.cl (.int (-i)))
 |_=>none
theorem ped_neg (ha:PE X a (dE X.K F fa)):PE X (.UnaryOp .USub a pos) (dE X.K F (d1 kNeg fa)):=by
 refine PE.imp (pe_un un_neg ha) ?_
 rintro σ H Q ⟨A,t,r,R,e,h⟩
 unfold d1 at e
 cases e1:fa t with
 |none=>rw [e1]at e;cases e
 |some r1 =>
  rw [e1]at e
  refine⟨A,t,r1,R,e1,fun x H1 g1 q1=>?_⟩
  have e:kNeg r1=some r:=e
  unfold kNeg at e
  split at e
  ·rename_i i z
   cases e
   have p:=q1.full
   rw [z]at p
   exact⟨i,zc8 p,h _ H1 g1 (.int _)⟩
  ·cases e
end
end DL
namespace DL
open PySem.Spec L2
inductive RepEvs (K:zay3) (F A:List Addr) (H H':Hp):List Ev→List V→Prop
 |nil:RepEvs K F A H H' [] []
 |cons {r:Ev}{v:V}{rs:List Ev}{vs:List V}:RepEv K F A H H' r v→RepEvs K F A H H' rs vs→RepEvs K F A H H' (r::rs) (v::vs)
theorem RepEvs.back {K:zay3}{F A:List Addr}{H0 H H1:Hp} (e:Same H0 H):∀ {rs:List Ev}{vs:List V},RepEvs K F A H H1 rs vs→RepEvs K F A H0 H1 rs vs
 |_,_,.nil=>.nil
 |_,_,.cons h r=>.cons (h.back e) (RepEvs.back e r)
theorem RepEvs.cleanF {K:zay3}{F A:List Addr}{H H':Hp} (m:Lists H (A++F)):∀ {rs:List Ev}{vs:List V},RepEvs K F A H H' rs vs→Reps K (hide F H') (rs.map Ev.d) vs
 |_,_,.nil=>.nil
 |_,_,.cons h r=>.cons (h.cleanF m) (RepEvs.cleanF m r)
theorem RepEvs.clean {K:zay3}{F A:List Addr}{H H':Hp} (m:Lists H (A++F)) (e:Same H H'):∀ {rs:List Ev}{vs:List V},RepEvs K F A H H' rs vs→rs.all Ev.ok=true→Reps K (hide (A++F) H') (rs.map Ev.d) vs
 |_,_,.nil,_=>.nil
 |_,_,.cons h r,c=>by
  simp only [zbi0,zba6]at c
  exact .cons (h.clean m e c.1) (RepEvs.clean m e r c.2)
abbrev DA:=Th→Option (List Ev)
noncomputable def dA (K:zay3) (F:List Addr) (f:DA):TA:=fun σ H Q => ∃A t rs,RS K F H A t σ∧f t=some rs∧∀vs H',Same H H'→RepEvs K F A H H' rs vs→Q vs H'
theorem PA.imp {X:Cx}{e:List Expr}{t t':TA} (h:PA X e t) (i:∀σ H Q,t' σ H Q→t σ H Q):PA X e t':=fun pos pins s σ H Q I q=>h pos pins s σ H Q I (i σ H Q q)
def dNil:DA:=fun _=>some []
def za2 (f:DE) (g:DA):DA:=fun t=>(f t).bind fun r=>(g t).bind fun rs=>some (r::rs)
section
variable {X:Cx}{F:List Addr}{a b c:Expr}{es:List Expr}{fa fb fc:DE}{g:DA}{pos:Pos}
theorem za5:PA X [] (dA X.K F dNil):=PA.imp zm3 fun σ H Q ⟨A,t,rs,R,e,h⟩=>by cases e;exact h [] H (Same.refl H) .nil
theorem za1 (ha:PE X a (dE X.K F fa)) (hr:PA X es (dA X.K F g)) (hs:zba7 (a::es) X.env=(false,eval a X.env)::zba7 es X.env:=by rfl):PA X (a::es) (dA X.K F (za2 fa g)):=by
 refine PA.imp (zh4 ha hr hs) ?_
 rintro σ H Q ⟨A,t,rs,R,e,h⟩
 unfold za2 at e
 cases e1:fa t with
 |none=>rw [e1]at e;cases e
 |some r1 =>
  cases e2:g t with
  |none=>rw [e1,e2]at e;cases e
  |some rs2 =>
   rw [e1,e2]at e
   cases e
   exact⟨A,t,r1,R,e1,fun x H1 g1 q1=>⟨A,t,rs2,R.grow g1,e2,fun xs H2 g2 q2=>h _ _ (g1.trans g2) (.cons (q1.mono g2) (q2.back g1))⟩⟩
noncomputable def kTup:List Ev→Option Ev:=fun rs=>if rs.length≤1000 then (if rs.all Ev.ok then some (.cl (.tup (rs.map Ev.d))) else some (.tm (.tup (rs.map Ev.d)))) else none
def dT1 (k:List Ev→Option Ev) (g:DA):DE:=fun t=>(g t).bind k
theorem RepEvs.length {K:zay3}{F A:List Addr}{H H':Hp}:∀ {rs:List Ev}{vs:List V},RepEvs K F A H H' rs vs→vs.length=rs.length
 |_,_,.nil=>rfl
 |_,_,.cons _ r=>by simp [RepEvs.length r]
theorem le_line {n:Nat} (h:n≤100000):n≤sizeLine:=zbd7 h (by rw [sizeLine_eq];decide)
theorem zc2 {H:Hp}{p:Addr}{o:HO} (h:H p=none):Same H (upd H p o):=fun b u e=>by rw [zb5 (fun z=>by rw [z,h]at e;cases e)];exact e
theorem zr7 {x1} (h:PA X es (dA X.K F g)):PE X (.Tuple es x1 pos) (dE X.K F (dT1 kTup g)):=by
 refine PE.imp (zas8 h) ?_
 rintro σ H Q ⟨A,t,r,R,e,h⟩
 unfold dT1 at e
 cases e1:g t with
 |none=>rw [e1]at e;cases e
 |some rs =>
  rw [e1]at e
  have e:kTup rs=some r:=e
  unfold kTup at e
  split at e
  case isFalse=>cases e
  rename_i hl
  refine⟨A,t,rs,R,e1,fun vs H1 g1 q1=>⟨by rw [q1.length];exact le_line (by lia),fun p hp=>?_⟩⟩
  have s1:=zc2 (o:=HO.tup vs) hp
  refine h _ _ (g1.trans s1) ?_
  have np:p∉A++F:=zc1 (R.mu.mono g1) hp
  split at e
  ·rename_i c
   cases e
   exact .tup (SqT.of (zb1 zb3 np)) (Reps.mono (zc3 s1) (q1.clean R.mu g1 c))
  ·cases e
   exact .tup (SqT.of (zb1 zb3 fun z=>np (zay4 _ z))) (Reps.mono (zc3 s1) (q1.cleanF R.mu))
def kLst:List Ev→Option Ev:=fun rs=>if rs.length≤1000∧rs.all Ev.ok then some (.nw (rs.map Ev.d)) else none
theorem zi4 {P:List Addr}{H:Hp}{p:Addr}{o:HO} (h:H p=none):Same (hide P H) (hide (p::P) (upd H p o)):=fun b u e=>by
 obtain⟨n,e⟩:=zh5 e
 have nb:b≠p:=fun z=>by rw [z,h]at e;cases e
 refine zb1 (by rw [zb5 nb];exact e) fun z=>?_
 rcases zaz2.mp z with z | z
 ·exact nb z
 ·exact n z
theorem zaf7 (h:PA X es (dA X.K F g)):PE X (.List es pos) (dE X.K F (dT1 kLst g)):=by
 refine PE.imp (pe_lst h) ?_
 rintro σ H Q ⟨A,t,r,R,e,h⟩
 unfold dT1 at e
 cases e1:g t with
 |none=>rw [e1]at e;cases e
 |some rs =>
  rw [e1]at e
  have e:kLst rs=some r:=e
  unfold kLst at e
  split at e
  case isFalse=>cases e
  rename_i hl
  cases e
  refine⟨A,t,rs,R,e1,fun vs H1 g1 q1=>⟨by rw [q1.length];exact le_line (by lia),fun p hp=>?_⟩⟩
  have s1:=zc2 (o:=HO.lst vs) hp
  refine h _ _ (g1.trans s1) ⟨p,vs,rfl,?_,zb3,Reps.mono (zi4 hp) (q1.clean R.mu g1 hl.2)⟩
  exact Same.free g1 hp
noncomputable def spD (K:zay3) (G:List D→Option Ev):Sp:=fun vs H Q _ => ∃Fo ds r,Lists H Fo∧Reps K (hide Fo H) ds vs∧G ds=some r∧∀v H',Same H H'→RepEv K Fo [] H H' r v→Q v H'
noncomputable def upEv (ok:Bool) (r:Ev):Ev:=if ok then (match r with
  |.cl d=>.cl d
  |.tm d=>.cl d
  |.nw xs=>.nw xs
  |.dn d=>.dn d) else match r with
  |.cl d=>if flat d then .cl d else .tm d
  |.tm d=>if flat d then .cl d else .tm d
  |.nw xs=>if flats xs then .nw xs else .tm (.lst xs)
  |.dn d=>.dn d
def zb2 (G:List D→Option Ev):List Ev→Option Ev:=fun rs=>(G (rs.map Ev.d)).map (upEv (rs.all Ev.ok))
theorem call_up {K:zay3}{A:List Addr}{G:List D→Option Ev}{H0 H:Hp}{rs:List Ev}{r:Ev}{vs:List V}{Q:VK}{E:XK} (m:Lists H0 (A++F)) (g:Same H0 H) (q:RepEvs K F A H0 H rs vs) (e:zb2 G rs=some r)
  (h:∀v H',Same H H'→RepEv K F A H0 H' r v→Q v H'):spD K G vs H Q E:=by
 unfold zb2 at e
 cases e1:G (rs.map Ev.d) with
 |none=>rw [e1]at e;cases e
 |some r0 =>
  rw [e1]at e
  have e:upEv (rs.all Ev.ok) r0=r:=by simpa using e
  have mH:=m.mono g
  by_cases c:rs.all Ev.ok=true
  ·refine⟨A++F,rs.map Ev.d,r0,mH,q.clean m g c,e1,fun v H' g' w=>h v H' g' ?_⟩
   rw [c]at e
   subst e
   cases r0 with
   |cl d=>exact w
   |tm d=>exact w
   |nw xs =>
    obtain⟨p,us,rfl,h1,h2,h3⟩:=w
    exact⟨p,us,rfl,Same.free g h1,h2,h3⟩
   |dn d =>
    obtain⟨B,h1,h2,h3⟩:=w
    exact⟨B,h1,fun b hb=>Same.free g (h2 b hb),h3⟩
  ·refine⟨F,rs.map Ev.d,r0,fun p hp=>mH p (zay4 _ hp),q.cleanF m,e1,fun v H' g' w=>h v H' g' ?_⟩
   have c:rs.all Ev.ok=false:=by simpa using c
   rw [c]at e
   subst e
   have m':=mH.mono g'
   cases r0 with
   |cl d =>
    show RepEv K F A H0 H' (if flat d then .cl d else .tm d) v
    split
    ·rename_i f;exact Rep.hid m' f (Rep.mono (za7 _ _) w)
    ·exact w
   |tm d =>
    show RepEv K F A H0 H' (if flat d then .cl d else .tm d) v
    split
    ·rename_i f;exact Rep.hid m' f (Rep.mono (za7 _ _) w)
    ·exact w
   |nw xs =>
    obtain⟨p,us,rfl,h1,h2,h3⟩:=w
    have np:p∉A++F:=zc1 mH h1
    show RepEv K F A H0 H' (if flats xs then .nw xs else .tm (.lst xs)) _
    split
    ·rename_i f
     refine⟨p,us,rfl,Same.free g h1,h2,Reps.hid (P:=p ::(A++F)) (fun b hb=>?_) f (Reps.mono (za7 _ _) h3)⟩
     rcases zaz2.mp hb with rfl | hb
     ·exact⟨mL us,h2⟩
     ·exact m' b hb
    ·exact .lst (SqL.of (zb1 h2 fun z=>np (zay4 _ z))) (Reps.mono (za6 H' fun b z=>zay5 _ z) h3)
   |dn d =>
    obtain⟨B,h1,h2,h3⟩:=w
    exact⟨B,h1,fun b hb=>Same.free g (h2 b hb),h3.hid (h3.lists.app m') (za7 _ _)⟩
theorem ped_call {k:Nat}{f:Addr}{fd:FuncData}{ps:List Str}{G:List D→Option Ev}{x:Str}{p:Pos} (Fn:FnOk X.prog X.w X.K X.mg X.base CX0 k f fd ps (spD X.K G)) (hr:Room k X.A) (hg:Gl X x) (hm:X.mg x=some (.ref f)) (hk:zbd9 X.K (.ref f)=true)
  (hb:Binds X.K fd ps []) (ha:PA X (a::es) (dA X.K F g)) (hdb:(x ==("__debug__":Str))=false:=by decide) (he:zba7 (a::es) X.env=(false,eval a X.env)::zba7 es X.env:=by rfl)
  (hpl:(zbf6 pos (zba7 es X.env)).any (·.1)=false:=by rfl):PE X (.Call (.Name x p) (a::es) [] pos) (dE X.K F (dT1 (zb2 G) g)):=by
 refine PE.imp (zas9 Fn hr hg hm hk hb .nil (E:=E0) pass0 ha hdb he hpl) ?_
 rintro σ H Q ⟨A,t,r,R,e,h⟩
 unfold dT1 at e
 cases e1:g t with
 |none=>rw [e1]at e;cases e
 |some rs =>
  rw [e1]at e
  refine⟨A,t,rs,R,e1,fun vs H1 g1 q1=>?_⟩
  show spD X.K G (vs++[]) H1 Q E0
  rw [zbe0]
  exact call_up R.mu g1 q1 e fun v H' g' w=>h v H' (g1.trans g') w
noncomputable def CallD (X:Cx) (F:List Addr) (f:Value) (k:List Ev→Option Ev):Prop :=
 ∀(pins:List (Addr×Obj)) (s:zaz5) (σ:L2.St) (H0 H:Hp) (A:List Addr) (xs:List V) (us:List Value) (Q:VK) (rs:List Ev) (r:Ev),Inv X pins σ H s→Lists H0 (A++F)→Same H0 H→Vals xs us→RepEvs X.K F A H0 H rs xs→k rs=some r →
  (∀z H',Same H H'→RepEv X.K F A H0 H' r z→Q z H')→wpAny (model X.prog X.w) X.A (call f us) (EP X pins σ Q) X.xe s
theorem PA.run (ha:PA X es (dA X.K F g)) {k:List Ev→Option Ev}{f:Value} (hc:CallD X F f k) {pins:List (Addr×Obj)}{s:zaz5}{σ:L2.St}{H:Hp}{Q:VK} (p:Pos) (I:Inv X pins σ H s) (h:dE X.K F (dT1 k g) σ H Q) :
  wpAny (model X.prog X.w) X.A (spliced (zbf6 p (zba7 es X.env))) (fun us s1=>wpAny (model X.prog X.w) X.A (call f us) (EP X pins σ Q) X.xe s1) X.xe s:=by
 obtain⟨A,t,r,R,e,h⟩:=h
 unfold dT1 at e
 cases e1:g t with
 |none=>rw [e1]at e;cases e
 |some rs =>
  rw [e1]at e
  refine thn (ha p pins s σ H (fun vs H1=>Same H H1∧RepEvs X.K F A H H1 rs vs) I ⟨A,t,rs,R,e1,fun vs H1 g1 q1=>⟨g1,q1⟩⟩) fun us s1 ⟨vs,H1,I1,r1,g1,q1⟩=>?_
  exact hc pins s1 σ H H1 A vs us Q rs r I1 R.mu g1 r1 q1 e fun z H' g'=>h z H' (g1.trans g')
theorem zh3 {k:List Ev→Option Ev}{x:Str}{p:Pos}{id:String} (hc:CallD X F (.builtin id) k) (hg:Gl X x) (hm:X.mg x=none) (hv:bootBuiltins x=some (.builtin id)) (ha:PA X (a::es) (dA X.K F g)) (hn:x≠"__name__":=by decide) (hdb:(x ==("__debug__":Str))=false:=by decide)
  (he:zba7 (a::es) X.env=(false,eval a X.env)::zba7 es X.env:=by rfl) (hpl:(zbf6 pos (zba7 es X.env)).any (·.1)=false:=by rfl):PE X (.Call (.Name x p) (a::es) [] pos) (dE X.K F (dT1 k g)):=by
 intro pins s σ H Q I h
 refine wpAny_Call_Name_kw (zs2 I hg hm hv ?_ hn hdb)
 exact PyProof.Rows.callWith_builtin1 (PA.run ha hc pos I h) he hpl
theorem zk2 {k:List Ev→Option Ev}{x:Str}{p:Pos}{T:String} (hc:CallD X F (.type T) k) (hg:Gl X x) (hm:X.mg x=none) (hv:bootBuiltins x=some (.type T)) (ha:PA X (a::es) (dA X.K F g)) (hn:x≠"__name__":=by decide) (hdb:(x ==("__debug__":Str))=false:=by decide)
  (he:zba7 (a::es) X.env=(false,eval a X.env)::zba7 es X.env:=by rfl) (hpl:(zbf6 pos (zba7 es X.env)).any (·.1)=false:=by rfl):PE X (.Call (.Name x p) (a::es) [] pos) (dE X.K F (dT1 k g)):=by
 intro pins s σ H Q I h
 refine wpAny_Call_Name_kw (zs2 I hg hm hv ?_ hn hdb)
 exact PyProof.Rows.callWith_type1 (PA.run ha hc pos I h) he hpl
theorem CallD.of {f:Value}{r:List V→Hp→VK→Prop}{k:List Ev→Option Ev} (h:zq7 X f r)
  (i:∀(H0 H:Hp) (A:List Addr) (xs:List V) (rs:List Ev) (e:Ev) (Q:VK),Lists H0 (A++F)→Same H0 H→RepEvs X.K F A H0 H rs xs→k rs=some e→(∀z H',Same H H'→RepEv X.K F A H0 H' e z→Q z H')→r xs H Q):CallD X F f k :=
 fun pins s σ H0 H A xs us Q rs e I m g v q ek hq=>h pins s σ H xs us Q I v (i H0 H A xs rs e Q m g q ek hq)
noncomputable def kLen:List Ev→Option Ev:=fun rs=>match rs with
 |[r]=>(match r.d with
  |.lst xs=>some (.cl (.int xs.length))
  |.tup xs=>some (.cl (.int xs.length))
  |_=>none)
 |_=>none
theorem zaw8:CallD X F (.builtin "len") kLen:=CallD.of zad4 fun H0 H A xs rs e Q m g q ek hq=>by
 unfold kLen at ek
 split at ek
 ·rename_i r
  cases q with
  |cons q1 q2 =>
   cases q2
   have p:=q1.full
   split at ek
   ·rename_i ds z
    cases ek
    rw [z]at p
    cases p with
    |lst h1 h2=>exact⟨_,_,rfl,.inl h1,by rw [h2.length];exact hq _ H (Same.refl H) (.int _)⟩
   ·rename_i ds z
    cases ek
    rw [z]at p
    cases p with
    |tup h1 h2=>exact⟨_,_,rfl,.inr h1,by rw [h2.length];exact hq _ H (Same.refl H) (.int _)⟩
   ·cases ek
 ·cases ek
end
end DL
namespace DL
open PySem.Spec L2
abbrev DT:=Th→Option Bool
def dT (K:zay3) (F:List Addr) (f:DT):TT:=fun σ H Q => ∃A t b,RS K F H A t σ∧f t=some b∧∀H',Same H H'→Q b H'
theorem PT.imp {X:Cx}{e:Expr}{t t':TT} (h:PT X e t) (i:∀σ H Q,t' σ H Q→t σ H Q):PT X e t':=fun pins s σ H Q I q=>h pins s σ H Q I (i σ H Q q)
theorem PW.imp {X:Cx}{e:Expr}{t t':TT} (h:PW X e t) (i:∀σ H Q,t' σ H Q→t σ H Q):PW X e t':=fun w pins s σ H Q I q=>h w pins s σ H Q I (i σ H Q q)
noncomputable def truD:D→Option Bool
 |.non=>some false
 |.bl b=>some b
 |.int i=>some (i != 0)
 |.tup xs=>some (!xs.isEmpty)
 |.lst xs=>some (!xs.isEmpty)
 |.dct ks _=>some (!ks.isEmpty)
 |.pdc _=>none
 |.str y=>if y.length≤100000 then some ((y.length:Int) != 0) else none
theorem zm9 {α β:Type}{xs:List α}{ys:List β} (h:xs.length=ys.length):xs.isEmpty=ys.isEmpty:=by
 cases xs<;>cases ys<;>simp_all
theorem zap2 {K:zay3}{H:Hp}{d:D}{v:V}{b:Bool} (r:Rep K H d v) (e:truD d=some b):TruV K v H b:=by
 cases r with
 |non=>cases e;rfl
 |bl b=>cases e;rfl
 |int i=>cases e;rfl
 |str x =>
  simp only [truD]at e
  split at e
  ·cases e;exact⟨le_line (by assumption),rfl⟩
  ·cases e
 |tup h1 h2=>cases e;exact .inr (.inl ⟨_,h1,by rw [zm9 h2.length]⟩)
 |lst h1 h2=>cases e;exact .inl ⟨_,h1,by rw [zm9 h2.length]⟩
 |@dct ks ds p vs l h1 h2 =>
  cases e
  have e1:(mkKV ks vs).length=ks.length:=by unfold mkKV;rw [List.length_zip];lia
  exact .inr (.inr ⟨_,h1,by rw [zm9 e1]⟩)
 |pdc h=>cases e
def dTr (f:DE):DT:=fun t=>(f t).bind fun r=>truD r.d
def dBo (f:DE):DT:=fun t=>(f t).bind fun r=>match r.d with
 |.bl b=>some b
 |_=>none
def dAnd (f g:DT):DT:=fun t=>(f t).bind fun b=>if b then g t else some false
def dOr (f g:DT):DT:=fun t=>(f t).bind fun b=>if b then some true else g t
def dNot (f:DT):DT:=fun t=>(f t).bind fun b=>some (!b)
section
variable {X:Cx}{F:List Addr}{a b c:Expr}{es:List Expr}{fa fb fc:DE}{g g':DA}{ft fu:DT}{pos:Pos}{rest:List Expr}
theorem zg4 (ha:PE X a (dE X.K F fa)) (he:∀whole,isTrue a X.env whole=(do let v ← whole;standAt a.pos;holding [v] (truthy v)):=by intro _;rfl):PT X a (dT X.K F (dTr fa)):=by
 refine PT.imp (pt_truth ha he) ?_
 rintro σ H Q ⟨A,t,r,R,e,h⟩
 unfold dTr at e
 cases e1:fa t with
 |none=>rw [e1]at e;cases e
 |some r1 =>
  rw [e1]at e
  exact⟨A,t,r1,R,e1,fun v H' g' q=>⟨r,zap2 q.full e,h H' g'⟩⟩
theorem zd5 {op:CmpOp}{k:Ev→Ev→Option Ev} (ho:OpD X F (compareOp op) k) (ha:PE X a (dE X.K F fa)) (hb:PE X b (dE X.K F fb)) (hm:behindInMarks op b=false:=by first | exact nomark _ | (with_unfolding_all rfl)) :
  PT X (.Compare a [op] [b] pos) (dT X.K F (dBo (d2 k fa fb))):=by
 intro pins s σ H Q I h
 obtain⟨A,t,b',R,e,h⟩:=h
 unfold dBo at e
 cases e1:d2 k fa fb t with
 |none=>rw [e1]at e;cases e
 |some r0 =>
  rw [e1]at e
  have w0:dE X.K F (d2 k fa fb) σ H (fun z H'=>Same H H'∧Rep X.K H' r0.d z):=⟨A,t,r0,R,e1,fun v H' g q=>⟨g,q.full⟩⟩
  obtain⟨A2,t2,r1,r2,r,R2,e1',e2',e3,h3,w⟩:=two w0
  refine wpAny_isTrue_Compare1 (bin ha hb I w fun v u s2 x y H2 I2 rx ry q=>?_) hm
  obtain⟨g,q1,q2⟩:=q
  refine thn (ho pins s2 σ H H2 A2 x y v u (fun z H'=>Same H H'∧Rep X.K H' r0.d z) r1 r2 r I2 R2.mu g rx ry q1 q2 e3 fun z H' g'=>h3 z H' (g.trans g')) fun cc s3 ⟨z,H3,I3,r3,g3,q3⟩=>?_
  have e:(match r0.d with | .bl b=>some b | _=>none)=some b':=e
  split at e
  ·rename_i b2 z2
   cases e
   rw [z2]at q3
   cases q3
   cases r3
   exact wpAny_truthy_bool ⟨H3,I3,h H3 g3⟩
  ·cases e
theorem zaj4 (ha:PT X a (dT X.K F ft)):PW X (.BoolOp .And [a] pos) (dT X.K F ft):=pw_and1 ha
theorem zm7 (ha:PT X a (dT X.K F ft)):PW X (.BoolOp .Or [a] pos) (dT X.K F ft):=pw_or1 ha
theorem zaq8 (ha:PT X a (dT X.K F ft)) (hb:PW X (.BoolOp .And (b::rest) pos) (dT X.K F fu)):PW X (.BoolOp .And (a::b::rest) pos) (dT X.K F (dAnd ft fu)):=by
 refine PW.imp (pw_and ha hb) ?_
 rintro σ H Q ⟨A,t,r,R,e,h⟩
 unfold dAnd at e
 cases e1:ft t with
 |none=>rw [e1]at e;cases e
 |some r1 =>
  rw [e1]at e
  refine⟨A,t,r1,R,e1,fun H1 g1=>?_⟩
  cases r1 with
  |true=>exact⟨A,t,r,R.grow g1,e,fun H2 g2=>h H2 (g1.trans g2)⟩
  |false=>cases e;exact h H1 g1
theorem zk1 (ha:PT X a (dT X.K F ft)) (hb:PW X (.BoolOp .Or (b::rest) pos) (dT X.K F fu)):PW X (.BoolOp .Or (a::b::rest) pos) (dT X.K F (dOr ft fu)):=by
 refine PW.imp (pw_or ha hb) ?_
 rintro σ H Q ⟨A,t,r,R,e,h⟩
 unfold dOr at e
 cases e1:ft t with
 |none=>rw [e1]at e;cases e
 |some r1 =>
  rw [e1]at e
  refine⟨A,t,r1,R,e1,fun H1 g1=>?_⟩
  cases r1 with
  |true=>cases e;exact h H1 g1
  |false=>exact⟨A,t,r,R.grow g1,e,fun H2 g2=>h H2 (g1.trans g2)⟩
theorem zg0 (ha:PT X a (dT X.K F ft)):PT X (.UnaryOp .Not a pos) (dT X.K F (dNot ft)):=by
 refine PT.imp (pt_not ha) ?_
 rintro σ H Q ⟨A,t,r,R,e,h⟩
 unfold dNot at e
 cases e1:ft t with
 |none=>rw [e1]at e;cases e
 |some r1 =>
  rw [e1]at e
  cases e
  exact⟨A,t,r1,R,e1,fun H1 g1=>h H1 g1⟩
def zao4 (f g:DE):DE:=fun t=>(f t).bind fun r=>match r.d with
 |.bl b=>if b then g t else some (.cl (.bl false))
 |_=>none
def dOrV (f g:DE):DE:=fun t=>(f t).bind fun r=>match r.d with
 |.bl b=>if b then some (.cl (.bl true)) else g t
 |_=>none
def kNotV:Ev→Option Ev:=fun r=>match r.d with
 |.bl b=>some (.cl (.bl (!b)))
 |_=>none
theorem zaf6 {op} (h:PE X a (dE X.K F fa)):PE X (.BoolOp op [a] pos) (dE X.K F fa):=pe_one h
theorem zas7 (ha:PE X a (dE X.K F fa)) (hb:PE X (.BoolOp .And (b::rest) pos) (dE X.K F fb)):PE X (.BoolOp .And (a::b::rest) pos) (dE X.K F (zao4 fa fb)):=by
 refine PE.imp (pe_and ha hb) ?_
 rintro σ H Q ⟨A,t,r,R,e,h⟩
 unfold zao4 at e
 cases e1:fa t with
 |none=>rw [e1]at e;cases e
 |some r1 =>
  rw [e1]at e
  refine⟨A,t,r1,R,e1,fun v H1 g1 q1=>?_⟩
  have p:=q1.full
  have e:(match r1.d with | .bl b=>if b then fb t else some (.cl (.bl false)) |_=>none)=some r:=e
  split at e
  ·rename_i b2 z
   rw [z]at p
   cases p
   refine⟨b2,rfl,?_⟩
   cases b2 with
   |true=>exact⟨A,t,r,R.grow g1,e,fun v2 H2 g2 q2=>h v2 H2 (g1.trans g2) (q2.back g1)⟩
   |false=>cases e;exact h _ H1 g1 (.bl false)
  ·cases e
theorem ped_or (ha:PE X a (dE X.K F fa)) (hb:PE X (.BoolOp .Or (b::rest) pos) (dE X.K F fb)):PE X (.BoolOp .Or (a::b::rest) pos) (dE X.K F (dOrV fa fb)):=by
 refine PE.imp (pe_or ha hb) ?_
 rintro σ H Q ⟨A,t,r,R,e,h⟩
 unfold dOrV at e
 cases e1:fa t with
 |none=>rw [e1]at e;cases e
 |some r1 =>
  rw [e1]at e
  refine⟨A,t,r1,R,e1,fun v H1 g1 q1=>?_⟩
  have p:=q1.full
  have e:(match r1.d with | .bl b=>if b then some (.cl (.bl true)) else fb t | _=>none)=some r:=e
  split at e
  ·rename_i b2 z
   rw [z]at p
   cases p
   refine⟨b2,rfl,?_⟩
   cases b2 with
   |false=>exact⟨A,t,r,R.grow g1,e,fun v2 H2 g2 q2=>h v2 H2 (g1.trans g2) (q2.back g1)⟩
   |true=>cases e;exact h _ H1 g1 (.bl true)
  ·cases e
theorem ped_not (ha:PE X a (dE X.K F fa)):PE X (.UnaryOp .Not a pos) (dE X.K F (d1 kNotV fa)):=by
 refine PE.imp (pe_not ha) ?_
 rintro σ H Q ⟨A,t,r,R,e,h⟩
 unfold d1 at e
 cases e1:fa t with
 |none=>rw [e1]at e;cases e
 |some r1 =>
  rw [e1]at e
  refine⟨A,t,r1,R,e1,fun x H1 g1 q1=>?_⟩
  have e:kNotV r1=some r:=e
  unfold kNotV at e
  split at e
  ·rename_i i z
   cases e
   have p:=q1.full
   rw [z]at p
   cases p
   exact⟨i,rfl,h _ H1 g1 (.bl _)⟩
  ·cases e
end
inductive Out where
 |nx (t:Th) |rt (r:Ev) |bk (t:Th) |ct (t:Th)
abbrev DS:=Th→Option Out
def After (K:zay3) (F A:List Addr) (H:Hp) (N:L2.St→Hp→Prop) (t:Th):Prop := ∀σ' H' A',Gr A H A' H'→RS K F H' A' t σ'→N σ' H'
noncomputable def RetEv (K:zay3) (F A:List Addr) (H H':Hp):Ev→V→Prop
 |.cl d,v=>Rep K (hide F H') d v
 |.tm d,v=>Rep K (hide F H') d v
 |.nw xs,v => ∃p vs,v=.ref p∧(p∈A∨H p=none)∧p∉F∧H' p=some (.lst vs)∧Reps K (hide (p::F) H') xs vs
 |.dn d,v => ∃B,B.Nodup∧(∀b∈B,(b∈A∨H b=none)∧b∉F)∧RepD K (hide (B++F) H') H' d v B
def Back (K:zay3) (F A:List Addr) (H:Hp) (N:VK) (r:Ev):Prop := ∀v H' A',Gr A H A' H'→RetEv K F A H H' r v→N v H'
noncomputable def dS (K:zay3) (F:List Addr) (g:DS):TS:=fun E σ H => ∃A t o,RS K F H A t σ∧g t=some o∧match o with
 |.nx t'=>After K F A H E.nx t'
 |.bk t'=>After K F A H E.bk t'
 |.ct t'=>After K F A H E.ct t'
 |.rt r=>Back K F A H E.rt r
end DL
namespace DL
open PySem.Spec L2
theorem RetEv.back {K:zay3}{F A A1:List Addr}{H H1 H':Hp}{r:Ev}{v:V} (g:Gr A H A1 H1) (h:RetEv K F A1 H1 H' r v):RetEv K F A H H' r v:=by
 cases r with
 |cl d=>exact h
 |tm d=>exact h
 |nw xs =>
  obtain⟨p,vs,rfl,h1,h2,h3,h4⟩:=h
  refine⟨p,vs,rfl,?_,h2,h3,h4⟩
  rcases h1 with h1 | h1
  ·exact g.nw p h1
  ·by_cases z:p∈A
   ·exact .inl z
   ·refine .inr ?_
    cases w:H p with
    |none=>rfl
    |some o=>rw [g.kp p o z w]at h1;cases h1
 |dn d =>
  obtain⟨B,h0,h1,h2⟩:=h
  refine⟨B,h0,fun p hp=>⟨?_,(h1 p hp).2⟩,h2⟩
  rcases (h1 p hp).1 with h1 | h1
  ·exact g.nw p h1
  ·by_cases z:p∈A
   ·exact .inl z
   ·refine .inr ?_
    cases w:H p with
    |none=>rfl
    |some o=>rw [g.kp p o z w]at h1;cases h1
theorem After.back {K:zay3}{F A A1:List Addr}{H H1:Hp}{N:L2.St→Hp→Prop}{t:Th} (h:After K F A H N t) (g:Gr A H A1 H1):After K F A1 H1 N t:=fun σ' H' A' g' R=>h σ' H' A' (g.trans g') R
theorem Back.back {K:zay3}{F A A1:List Addr}{H H1:Hp}{N:VK}{r:Ev} (h:Back K F A H N r) (g:Gr A H A1 H1):Back K F A1 H1 N r:=fun v H' A' g' R=>h v H' A' (g.trans g') (R.back g)
theorem PS.imp {X:Cx}{e:Stmt}{t t':TS} (h:PS X e t) (i:∀E σ H,t' E σ H→t E σ H):PS X e t':=fun pins s σ H D I q=>h pins s σ H D I (i D σ H q)
theorem PSs.imp {X:Cx}{e:List Stmt}{t t':TS} (h:PSs X e t) (i:∀E σ H,t' E σ H→t E σ H):PSs X e t':=fun pins s σ H D I q=>h pins s σ H D I (i D σ H q)
theorem Lists.left {H:Hp}{A F:List Addr} (h:Lists H (A++F)):Lists H A:=fun p hp=>h p (zay6 _ hp)
def ze1:DS:=fun t=>some (.nx t)
noncomputable def dSeq (g1 g2:DS):DS:=fun t=>(g1 t).bind fun o=>match o with
 |.nx t'=>g2 t'
 |.rt r=>some (.rt r)
 |.bk t'=>some (.bk t')
 |.ct t'=>some (.ct t')
section
variable {X:Cx}{F:List Addr}{a b c:Expr}{es:List Expr}{fa fb fc:DE}{g g1 g2:DS}{ft fu:DT}{pos:Pos}{st:Stmt}{rest:List Stmt}
theorem zd6:PSs X [] (dS X.K F ze1):=PSs.imp zar1 fun E σ H ⟨A,t,o,R,e,h⟩=>by cases e;exact h σ H A (Gr.refl R.mu.left) R
theorem za4 (h1:PS X st (dS X.K F g1)) (h2:PSs X rest (dS X.K F g2)):PSs X (st::rest) (dS X.K F (dSeq g1 g2)):=by
 refine PSs.imp (zw5 h1 h2) ?_
 rintro E σ H ⟨A,t,o,R,e,h⟩
 unfold dSeq at e
 cases e1:g1 t with
 |none=>rw [e1]at e;cases e
 |some o1 =>
  rw [e1]at e
  refine⟨A,t,o1,R,e1,?_⟩
  cases o1 with
  |nx t' =>
   intro σ' H' A' g' R'
   refine⟨A',t',o,R',e,?_⟩
   cases o with
   |nx t2=>exact After.back h g'
   |bk t2=>exact After.back h g'
   |ct t2=>exact After.back h g'
   |rt r=>exact Back.back h g'
  |rt r=>cases e;exact h
  |bk t2=>cases e;exact h
  |ct t2=>cases e;exact h
theorem za9 (h1:PS X st (dS X.K F g1)):PSs X [st] (dS X.K F g1):=zaf3 h1
def dIfS (c:DT) (g1 g2:DS):DS:=fun t=>(c t).bind fun b=>if b then g1 t else g2 t
theorem zg1 {s1 s2:List Stmt} (hc:PT X c (dT X.K F ft)) (ha:PSs X s1 (dS X.K F g1)) (hb:PSs X s2 (dS X.K F g2)):PS X (.If c s1 s2 pos) (dS X.K F (dIfS ft g1 g2)):=by
 refine PS.imp (ps_if hc ha hb) ?_
 rintro E σ H ⟨A,t,o,R,e,h⟩
 unfold dIfS at e
 cases e1:ft t with
 |none=>rw [e1]at e;cases e
 |some r1 =>
  rw [e1]at e
  refine⟨A,t,r1,R,e1,fun H1 gs=>?_⟩
  have gr:Gr A H A H1:=Gr.of_same R.mu.left gs
  cases r1 with
  |true =>
   refine⟨A,t,o,R.grow gs,e,?_⟩
   cases o with
   |nx t2=>exact After.back h gr
   |bk t2=>exact After.back h gr
   |ct t2=>exact After.back h gr
   |rt r=>exact Back.back h gr
  |false =>
   refine⟨A,t,o,R.grow gs,e,?_⟩
   cases o with
   |nx t2=>exact After.back h gr
   |bk t2=>exact After.back h gr
   |ct t2=>exact After.back h gr
   |rt r=>exact Back.back h gr
def dRet (f:DE):DS:=fun t=>(f t).bind fun r=>some (.rt r)
theorem RetEv.of {K:zay3}{F A:List Addr}{H H':Hp}{r:Ev}{v:V} (m:Lists H (A++F)) (h:RepEv K F A H H' r v):RetEv K F A H H' r v:=by
 cases r with
 |cl d=>exact Rep.mono (za6 H' fun a z=>zay4 _ z) h
 |tm d=>exact h
 |nw xs =>
  obtain⟨p,vs,rfl,h1,h2,h3⟩:=h
  have np:p∉A++F:=zc1 m h1
  refine⟨p,vs,rfl,.inr h1,fun z=>np (zay4 _ z),h2,Reps.mono (za6 H' fun a z=>?_) h3⟩
  rcases zaz2.mp z with z | z
  ·rw [z];exact zaz0 ..
  ·exact zay5 _ (zay4 _ z)
 |dn d =>
  obtain⟨B,h1,h2,h3⟩:=h
  refine⟨B,h1,fun b hb=>⟨.inr (h2 b hb),fun z=>zc1 m (h2 b hb) (zay4 _ z)⟩,RepD.mono (za6 H' fun a z=>?_) h3 fun _ _ _ q=>q⟩
  rcases zay8.mp z with z | z
  ·exact zay6 _ z
  ·exact zay4 _ (zay4 _ z)
theorem zc0 (ha:PE X a (dE X.K F fa)):PS X (.Return (some a) pos) (dS X.K F (dRet fa)):=by
 refine PS.imp (zar5 ha) ?_
 rintro E σ H ⟨A,t,o,R,e,h⟩
 unfold dRet at e
 cases e1:fa t with
 |none=>rw [e1]at e;cases e
 |some r1 =>
  rw [e1]at e
  cases e
  exact⟨A,t,r1,R,e1,fun v H' gs q=>h v H' A (Gr.of_same R.mu.left gs) (RetEv.of R.mu q)⟩
noncomputable def dRetO (i:Nat):DS:=fun t=>match t[i]? with
 |some (.own xs)=>some (.rt (.nw xs))
 |some (.val d)=>some (.rt (.cl d))
 |some (.dp d)=>some (.rt (.dn d))
 |_=>none
theorem psd_retO (i:Nat) {x:Str}{pos':Pos} (hN:X.N[i]?=some x:=by rfl) (hv:Vis X.env.scope x:=by first | exact Or.inl rfl | exact Or.inr (Or.inl rfl) |exact Or.inr (Or.inr rfl)) (hd:(x ==("__debug__":Str))=false:=by decide)
  (hcd:(x ==("__classdict__":Str))=false:=by decide):PS X (.Return (some (.Name x pos')) pos) (dS X.K F (dRetO i)):=by
 refine PS.imp (zar5 (zr8 (i:=i) hN hv hd hcd)) ?_
 rintro E σ H ⟨A,t,o,R,e,h⟩
 unfold dRetO at e
 split at e
 ·rename_i ds q
  cases e
  obtain⟨p,vs,h1,h2,h3,h4⟩:=R.rel.getOwn q
  refine⟨_,h1,h _ H A (Gr.refl R.mu.left) ⟨p,vs,rfl,.inl h2,R.dj p h2,h3,Reps.mono (za6 H fun a z=>?_) h4⟩⟩
  rcases zaz2.mp z with z | z
  ·rw [z];exact zay6 _ h2
  ·exact zay4 _ z
 ·rename_i d q
  cases e
  obtain⟨v,h1,h2⟩:=R.rel.getVal q
  exact⟨v,h1,h v H A (Gr.refl R.mu.left) (Rep.mono (za6 H fun a z=>zay4 _ z) h2)⟩
 ·rename_i d q
  cases e
  obtain⟨v,B,h1,h2,h0,h3⟩:=R.rel.getDp R.nd q
  refine⟨v,h1,h v H A (Gr.refl R.mu.left) ⟨B,h0,fun b hb=>⟨.inl (h2 b hb),R.dj b (h2 b hb)⟩,RepD.mono (za6 H fun a z=>?_) h3 fun _ _ _ q=>q⟩⟩
  rcases zay8.mp z with z | z
  ·exact zay6 _ (h2 a z)
  ·exact zay4 _ z
 ·cases e
end
theorem RSl.setVal {K:zay3}{H0 H:Hp}{d:D}{v:V} (h:Rep K H0 d v):∀ {t:Th}{σ:L2.St}{A:List Addr} (i:Nat),RSl K H0 H t σ A→i<t.length→∃A',RSl K H0 H (t.set i (.val d)) (σ.set i (some v)) A'∧List.Sublist A' A
 |_,_,_,_,.nil,l=>by simp at l
 |_,_,_,0,.no r,_=>⟨_,.val h r,List.Sublist.refl _⟩
 |_,_,_,0,.val _ r,_=>⟨_,.val h r,List.Sublist.refl _⟩
 |_,_,_,0,.own _ _ r,_=>⟨_,.val h r,zbl7 _ _⟩
 |_,_,_,0,.dp _ r,_=>⟨_,.val h r,zbk1 _ _⟩
 |_,_,_,i+1,.no r,l=>let ⟨A',a,b⟩:=RSl.setVal h i r (by simpa using l);⟨A',.no a,b⟩
 |_,_,_,i+1,.val q r,l=>let ⟨A',a,b⟩:=RSl.setVal h i r (by simpa using l);⟨A',.val q a,b⟩
 |_,_,_,i+1,.own q1 q2 r,l=>let ⟨A',a,b⟩:=RSl.setVal h i r (by simpa using l);⟨_,.own q1 q2 a,b.cons₂ _⟩
 |_,_,_,i+1,.dp q r,l=>let ⟨A',a,b⟩:=RSl.setVal h i r (by simpa using l);⟨_,.dp q a,List.Sublist.append (List.Sublist.refl _) b⟩
theorem RSl.setAny {K:zay3}{H0 H:Hp}{s:Sl}{v:V}{B:List Addr} (h:∀ {t:Th}{σ:L2.St}{A:List Addr},RSl K H0 H t σ A→RSl K H0 H (s::t) (some v::σ) (B++A)):∀ {t:Th}{σ:L2.St}{A:List Addr} (i:Nat),RSl K H0 H t σ A→i<t.length →
  ∃A',RSl K H0 H (t.set i s) (σ.set i (some v)) A'∧(∀x∈A',x∈B∨x∈A)∧(A.Nodup→B.Nodup→(∀b∈B,b∉A)→A'.Nodup)
 |_,_,_,_,.nil,l=>by simp at l
 |_,_,A,0,.no r,_=>⟨_,h r,fun x hx=>zay8.mp hx,fun n1 n2 d=>zba4.mpr ⟨n2,n1,fun a ha b hb e=>d a ha (e ▸ hb)⟩⟩
 |_,_,A,0,.val _ r,_=>⟨_,h r,fun x hx=>zay8.mp hx,fun n1 n2 d=>zba4.mpr ⟨n2,n1,fun a ha b hb e=>d a ha (e ▸ hb)⟩⟩
 |_,_,_,0,.own _ _ r,_=>⟨_,h r,fun x hx=>(zay8.mp hx).imp id (zay5 _),fun n1 n2 d=>zba4.mpr ⟨n2,(zbb5.mp n1).2,fun a ha b hb e=>d a ha (e ▸ zay5 _ hb)⟩⟩
 |_,_,_,0,.dp _ r,_=>⟨_,h r,fun x hx=>(zay8.mp hx).imp id (zay4 _),fun n1 n2 d=>zba4.mpr ⟨n2,(zba4.mp n1).2.1,fun a ha b hb e=>d a ha (e ▸ zay4 _ hb)⟩⟩
 |_,_,_,i+1,.no r,l=>let ⟨A',a,b,c⟩:=RSl.setAny h i r (by simpa using l);⟨A',.no a,b,c⟩
 |_,_,_,i+1,.val q r,l=>let ⟨A',a,b,c⟩:=RSl.setAny h i r (by simpa using l);⟨A',.val q a,b,c⟩
 |_,_,_,i+1,.own (p:=p2) q1 q2 r,l=>by
  obtain⟨A',a,b,c⟩:=RSl.setAny h i r (by simpa using l)
  refine⟨_,.own q1 q2 a,fun x hx=>?_,fun nd nb np=>?_⟩
  ·rcases zaz2.mp hx with z | z
   ·exact .inr (z ▸ zaz0 ..)
   ·exact (b x z).imp id (zay5 _)
  ·have n1:=zbb5.mp nd
   refine zbb5.mpr ⟨fun z=>?_,c n1.2 nb fun x hx z=>np x hx (zay5 _ z)⟩
   rcases b _ z with z | z
   ·exact np _ z (zaz0 ..)
   ·exact n1.1 z
 |_,_,_,i+1,.dp (B:=C) q r,l=>by
  obtain⟨A',a,b,c⟩:=RSl.setAny h i r (by simpa using l)
  refine⟨_,.dp q a,fun x hx=>?_,fun nd nb np=>?_⟩
  ·rcases zay8.mp hx with z | z
   ·exact .inr (zay6 _ z)
   ·exact (b x z).imp id (zay4 _)
  ·have n1:=zba4.mp nd
   refine zba4.mpr ⟨n1.1,c n1.2.1 nb fun x hx z=>np x hx (zay4 _ z),fun x hx y hy e=>?_⟩
   subst e
   rcases b _ hy with z | z
   ·exact np _ z (zay6 _ hx)
   ·exact n1.2.2 _ hx _ z rfl
theorem RS.putAny {K:zay3}{F A:List Addr}{H H':Hp}{t:Th}{σ:L2.St}{i:Nat}{s:Sl}{v:V}{B:List Addr} (R:RS K F H A t σ) (g:Same H H') (fr:∀b∈B,H b=none) (nb:B.Nodup) (lb:Lists H' B)
  (mk:∀ {t:Th}{σ:L2.St}{A':List Addr},RSl K (hide (B++(A++F)) H') H' t σ A'→RSl K (hide (B++(A++F)) H') H' (s::t) (some v::σ) (B++A')) (hi:i<t.length) :
  ∃A',Gr A H A' H'∧RS K F H' A' (t.set i s) (σ.set i (some v)):=by
 have R':=R.grow g
 have np:∀b∈B,b∉A++F:=fun b hb=>zc1 R.mu (fr b hb)
 have r0:RSl K (hide (B++(A++F)) H') H' t σ A:=RSl.mono (fun b o h=>by
  obtain⟨n,h⟩:=zh5 h
  refine zb1 (g _ _ h) fun z=>?_
  rcases zay8.mp z with z | z
  ·rw [fr b z]at h;cases h
  ·exact n z) R.rel fun b _ o h=>g _ _ h
 obtain⟨A',r1,sub,nd⟩:=RSl.setAny mk i r0 hi
 refine⟨A',⟨fun b o _ h=>g b o h,fun b hb=>by obtain⟨ws,z⟩:=R.mu b (zay6 _ hb);rw [g _ _ z];simp,fun b hb=>?_⟩,?_,nd R.nd nb fun b hb z=>np b hb (zay6 _ z),fun b hb=>?_,?_⟩
 ·rcases sub b hb with z | z
  ·exact .inr (fr b z)
  ·exact .inl z
 ·intro b hb
  rcases zay8.mp hb with z | z
  ·rcases sub b z with z | z
   ·exact lb b z
   ·exact R'.mu b (zay6 _ z)
  ·exact R'.mu b (zay4 _ z)
 ·rcases sub b hb with z | z
  ·exact fun w=>np b z (zay4 _ w)
  ·exact R.dj b z
 ·refine RSl.mono (za6 H' fun b z=>?_) r1 fun _ _ _ h=>h
  rcases zay8.mp z with z | z
  ·rcases sub b z with z | z
   ·exact zay6 _ z
   ·exact zay4 _ (zay6 _ z)
  ·exact zay4 _ (zay4 _ z)
noncomputable def zr4 (t:Th) (i:Nat) (r:Ev):Option Th:=if i<t.length then (match r with
 |.cl d=>some (t.set i (.val d))
 |.tm d=>if flat d then some (t.set i (.val d)) else none
 |.nw xs=>some (t.set i (.own xs))
 |.dn d=>some (t.set i (.dp d))) else none
theorem RS.put {K:zay3}{F A:List Addr}{H H':Hp}{t t':Th}{σ:L2.St}{i:Nat}{r:Ev}{v:V} (R:RS K F H A t σ) (g:Same H H') (q:RepEv K F A H H' r v) (e:zr4 t i r=some t') :
  ∃A',Gr A H A' H'∧RS K F H' A' t' (σ.set i (some v)):=by
 have R':=R.grow g
 have val:∀d,Rep K (hide (A++F) H') d v→i<t.length→∃A',Gr A H A' H'∧RS K F H' A' (t.set i (.val d)) (σ.set i (some v)):=fun d hd hi=>by
  obtain⟨A',r1,sub⟩:=RSl.setVal hd i R'.rel hi
  have sub':∀x∈A',x∈A:=fun x hx=>sub.subset hx
  refine⟨A',⟨fun b o _ h=>g b o h,fun b hb=>by obtain⟨vs,z⟩:=R.mu b (zay6 _ hb);rw [g _ _ z];simp,fun b hb=>.inl (sub' b hb)⟩,?_,R.nd.sublist sub,fun p hp=>R.dj p (sub' p hp),?_⟩
  ·intro p hp
   rcases zay8.mp hp with z | z
   ·exact R'.mu p (zay6 _ (sub' p z))
   ·exact R'.mu p (zay4 _ z)
  ·refine RSl.mono (za6 H' fun a z=>?_) r1 fun _ _ _ h=>h
   rcases zay8.mp z with z | z
   ·exact zay6 _ (sub' a z)
   ·exact zay4 _ z
 unfold zr4 at e
 split at e
 case isFalse=>cases e
 rename_i hi
 cases r with
 |cl d=>cases e;exact val d q hi
 |tm d =>
  simp only at e
  split at e
  ·rename_i f
   cases e
   exact val d (Rep.hid R'.mu f (Rep.mono (za7 _ _) q)) hi
  ·cases e
 |nw xs =>
  cases e
  obtain⟨p,vs,rfl,h1,h2,h3⟩:=q
  exact R.putAny (B:=[p]) g (fun b hb=>by simp at hb;subst hb;exact h1) (by simp) (fun b hb=>by simp at hb;subst hb;exact⟨mL vs,h2⟩) (fun r=>.own h2 h3 r) hi
 |dn d =>
  cases e
  obtain⟨B,h1,h2,h3⟩:=q
  exact R.putAny (B:=B) g h2 h1 h3.lists (fun r=>.dp h3 r) hi
section
variable {X:Cx}{F:List Addr}{a b c:Expr}{es:List Expr}{fa fb fc:DE}{g g1 g2:DS}{ft fu:DT}{pos:Pos}{st:Stmt}{rest:List Stmt}
def dAsg (i:Nat) (f:DE):DS:=fun t=>(f t).bind fun r=>(zr4 t i r).map Out.nx
theorem zc9 {i:Nat}{x:Str}{pos':Pos} (hN:X.N.Nodup) (hi:X.N[i]?=some x) (hx:Loc X.env.scope x) (he:PE X a (dE X.K F fa)) (hs:swapsWith a (some (.Name x pos')) pos.line X.env=pure false:=by rfl) (hf:X.fn x=true∨X.env.scope.names.lookup x=some .local:=by first | exact .inl rfl | exact .inr rfl | assumption) :
  PS X (.Assign [.Name x pos'] a pos) (dS X.K F (dAsg i fa)):=by
 refine PS.imp (zar4 hN hi hx he hs hf) ?_
 rintro E σ H ⟨A,t,o,R,e,h⟩
 unfold dAsg at e
 cases e1:fa t with
 |none=>rw [e1]at e;cases e
 |some r1 =>
  rw [e1]at e
  have e:(zr4 t i r1).map Out.nx=some o:=e
  cases e2:zr4 t i r1 with
  |none=>rw [e2]at e;cases e
  |some t' =>
   rw [e2]at e
   cases e
   refine⟨A,t,r1,R,e1,fun v H' gs q=>?_⟩
   obtain⟨A',g',R'⟩:=R.put gs q e2
   exact h _ _ _ g' R'
end
end DL
namespace DL
open PySem.Spec L2
noncomputable def TgOk (K:zay3) (F:List Addr) (g:TG) (k:D→Th→Option Th):Prop :=
 ∀σ H A t t' d x (Q:L2.St→Hp→Prop),RS K F H A t σ→Rep K (hide (A++F) H) d x→k d t=some t'→(∀σ2 A2,Gr A H A2 H→RS K F H A2 t' σ2→Q σ2 H)→g x σ H Q
noncomputable def zay0 (K:zay3) (F:List Addr) (g:TGs) (k:List D→Th→Option Th):Prop :=
 ∀σ H A t t' ds xs (Q:L2.St→Hp→Prop),RS K F H A t σ→Reps K (hide (A++F) H) ds xs→k ds t=some t'→(∀σ2 A2,Gr A H A2 H→RS K F H A2 t' σ2→Q σ2 H)→g xs σ H Q
def zb8 (i:Nat):D→Th→Option Th:=fun d t=>zr4 t i (.cl d)
def zs6:List D→Th→Option Th:=fun ds t=>match ds with
 |[]=>some t
 |_=>none
noncomputable def ze2 (k:D→Th→Option Th) (k':List D→Th→Option Th):List D→Th→Option Th:=fun ds t=>match ds with
 |d::r=>(k d t).bind (k' r)
 |[]=>none
noncomputable def zu1 (n:Nat) (k:List D→Th→Option Th):D→Th→Option Th:=fun d t=>match d with
 |.tup ds=>if ds.length=n then k ds t else none
 |_=>none
theorem ze3 {K:zay3}{F:List Addr} (i:Nat):TgOk K F (zau6 i) (zb8 i):=by
 intro σ H A t t' d x Q R r e h
 obtain⟨A',g,R'⟩:=R.put (i:=i) (r:=.cl d) (Same.refl H) r e
 exact h _ _ g R'
theorem zo6 {K:zay3}{F:List Addr}:zay0 K F gNil zs6:=by
 intro σ H A t t' ds xs Q R r e h
 cases r with
 |nil=>cases e;exact⟨rfl,h σ A (Gr.refl R.mu.left) R⟩
 |cons _ _=>cases e
theorem ze8 {K:zay3}{F:List Addr}{g:TG}{g':TGs}{k:D→Th→Option Th}{k':List D→Th→Option Th} (h1:TgOk K F g k) (h2:zay0 K F g' k'):zay0 K F (gCons g g') (ze2 k k'):=by
 intro σ H A t t' ds xs Q R r e h
 cases r with
 |nil=>cases e
 |@cons d v ds vs r1 r2 =>
  unfold ze2 at e
  cases e1:k d t with
  |none=>simp only [e1]at e;cases e
  |some t1 =>
   simp only [e1]at e
   refine⟨v,vs,rfl,h1 σ H A t t1 d v _ R r1 e1 fun σ2 A2 g2 R2=>?_⟩
   exact h2 σ2 H A2 t1 t' ds vs Q R2 (Reps.mono g2.same r2) e fun σ3 A3 g3 R3=>h σ3 A3 (g2.trans g3) R3
theorem zy9 {K:zay3}{F:List Addr}{n:Nat}{g':TGs}{k':List D→Th→Option Th} (h2:zay0 K F g' k'):TgOk K F (gTup K n g') (zu1 n k'):=by
 intro σ H A t t' d x Q R r e h
 unfold zu1 at e
 split at e
 ·rename_i ds
  split at e
  ·rename_i hl
   cases r with
   |@tup _ p vs h1 hr=>exact⟨p,vs,rfl,SqT.mono (za7 _ _) h1,by rw [hr.length];exact hl,h2 σ H A t t' ds vs Q R hr e h⟩
  ·cases e
 ·cases e
def zao3 (k:D→Th→Option Th) (f:DE):DS:=fun t=>(f t).bind fun r=>if r.ok then (k r.d t).map Out.nx else none
section
variable {X:Cx}{F:List Addr}{a b c:Expr}{es:List Expr}{fa fb fc:DE}{g g1 g2:DS}{ft fu:DT}{pos:Pos}{st:Stmt}{rest:List Stmt}{tg:Expr}{gt:TG}{kt:D→Th→Option Th}
theorem zar3 (he:PE X a (dE X.K F fa)) (hg:PG X tg gt) (ht:TgOk X.K F gt kt) (hs:swapsWithSole [tg] a pos.line X.env=pure false:=by rfl) (hw:swappedStores [tg] a X.env=pure none:=by rfl)
  (h1:(assignEach [tg] X.env).map (·.2)=[assign tg X.env]:=by rfl):PS X (.Assign [tg] a pos) (dS X.K F (zao3 kt fa)):=by
 refine PS.imp (ps_asg he hg hs hw h1) ?_
 rintro E σ H ⟨A,t,o,R,e,h⟩
 unfold zao3 at e
 cases e1:fa t with
 |none=>rw [e1]at e;cases e
 |some r1 =>
  rw [e1]at e
  have e:(if r1.ok then (kt r1.d t).map Out.nx else none)=some o:=e
  split at e
  case isFalse=>cases e
  rename_i ok
  cases e2:kt r1.d t with
  |none=>rw [e2]at e;cases e
  |some t' =>
   rw [e2]at e
   cases e
   refine⟨A,t,r1,R,e1,fun v H' gs q=>?_⟩
   exact ht σ H' A t t' r1.d v E.nx (R.grow gs) (q.clean R.mu gs ok) e2 fun σ2 A2 g2 R2=>h σ2 H' A2 ((Gr.of_same R.mu.left gs).trans g2) R2
end
noncomputable def forD (k:D→Th→Option Th) (body:DS):List D→Th→Option Out
 |[],t=>some (.nx t)
 |d::ds,t=>(k d t).bind fun t1=>(body t1).bind fun o=>match o with
  |.nx t'=>forD k body ds t'
  |.ct t'=>forD k body ds t'
  |.bk t'=>some (.nx t')
  |.rt r=>some (.rt r)
noncomputable def Post (K:zay3) (F A:List Addr) (H:Hp) (E:Ends):Out→Prop
 |.nx t'=>After K F A H E.nx t'
 |.bk t'=>After K F A H E.bk t'
 |.ct t'=>After K F A H E.ct t'
 |.rt r=>Back K F A H E.rt r
theorem Post.back {K:zay3}{F A A1:List Addr}{H H1:Hp}{E:Ends}{o:Out} (h:Post K F A H E o) (g:Gr A H A1 H1):Post K F A1 H1 E o:=by
 cases o with
 |nx t2=>exact After.back h g
 |bk t2=>exact After.back h g
 |ct t2=>exact After.back h g
 |rt r=>exact Back.back h g
theorem dS_mk {K:zay3}{F A:List Addr}{g:DS}{E:Ends}{σ:L2.St}{H:Hp}{t:Th}{o:Out} (R:RS K F H A t σ) (e:g t=some o) (p:Post K F A H E o):dS K F g E σ H:=⟨A,t,o,R,e,by cases o<;>exact p⟩
theorem zav9 {K:zay3}{F:List Addr}{g:DS}{E:Ends}{σ:L2.St}{H:Hp} (h:dS K F g E σ H):∃A t o,RS K F H A t σ∧g t=some o∧Post K F A H E o:=by
 obtain⟨A,t,o,R,e,h⟩:=h
 exact⟨A,t,o,R,e,by cases o<;>exact h⟩
section
variable {X:Cx}{F:List Addr}{a b c:Expr}{es:List Expr}{fa fb fc:DE}{g g1 g2:DS}{ft fu:DT}{pos:Pos}{st:Stmt}{rest:List Stmt}{tg:Expr}{gt:TG}{kt:D→Th→Option Th}
theorem zr0 {K:zay3}{J:It}{ds:List D}{E:Ends}{σ:L2.St}{H:Hp}{A:List Addr}{t:Th}{o:Out} (Good:List Addr→Hp→Prop) (ht:TgOk K F gt kt) (R:RS K F H A t σ) (e:forD kt g ds t=some o) (h:Post K F A H E o) (g0:Good A H)
  (keep:∀A H A' H',Good A H→Gr A H A' H'→Good A' H') (stop:∀A H,Good A H→J.stop ds.length H) (go:∀A H i,Good A H→i<ds.length→J.go i H)
  (yld:∀A H i x H',Good A H→Lists H (A++F)→J.yld i H x H'→i<ds.length→Same H H'∧∃d,ds[i]?=some d∧Rep K (hide (A++F) H') d x) :
  ∃W:Nat→Nat→L2.St→Hp→Prop,(∃m,W 0 m σ H)∧∀i m σ H,W i m σ H →
   (J.stop i H∧E.nx σ H)∨(J.go i H∧∃N:L2.St→Hp→Prop,(∀σ' H',N σ' H'→∃m',m' < m∧W (i+1) m' σ' H')∧∀x H',J.yld i H x H'→gt x σ H' fun σ2 H2=>dS K F g { E with nx:=N,ct:=N,bk:=E.nx } σ2 H2):=by
 refine⟨fun i m σ H=>i+m=ds.length∧∃A t o,forD kt g (ds.drop i) t=some o∧RS K F H A t σ∧Post K F A H E o∧Good A H,⟨ds.length,by lia,A,t,o,by simpa using e,R,h,g0⟩,?_⟩
 rintro i m σ H ⟨hm,A,t,o,e,R,h,gd⟩
 cases m with
 |zero =>
  have z:i=ds.length:=by lia
  subst z
  rw [zbo9]at e
  cases e
  exact .inl ⟨stop A H gd,h σ H A (Gr.refl R.mu.left) R⟩
 |succ m =>
  have hi:i<ds.length:=by lia
  refine .inr ⟨go A H i gd hi,fun σ' H'=>i+1+m=ds.length∧∃A t o,forD kt g (ds.drop (i+1)) t=some o∧RS K F H' A t σ'∧Post K F A H' E o∧Good A H',fun σ' H' q=>⟨m,zbl8 m,q⟩,fun x H' y=>?_⟩
  obtain⟨gs,d,hd,rd⟩:=yld A H i x H' gd R.mu y hi
  have ed:ds.drop i=d::ds.drop (i+1):=by
   have hd':ds[i]=d:=by
    rw [zaz1 hi]at hd
    exact Option.some.inj hd
   rw [← hd']
   exact zbc7 hi
  rw [ed]at e
  simp only [forD]at e
  cases e1:kt d t with
  |none=>rw [e1]at e;cases e
  |some t1 =>
   rw [e1]at e
   refine ht σ H' A t t1 d x _ (R.grow gs) rd e1 fun σ2 A2 gr3 R2=>?_
   have gr2:Gr A H A2 H':=(Gr.of_same R.mu.left gs).trans gr3
   have e:((g t1).bind fun o=>match o with
     |.nx t'=>forD kt g (ds.drop (i+1)) t'
     |.ct t'=>forD kt g (ds.drop (i+1)) t'
     |.bk t'=>some (.nx t')
     |.rt r=>some (.rt r))=some o:=e
   cases e2:g t1 with
   |none=>rw [e2]at e;cases e
   |some o2 =>
    rw [e2]at e
    refine dS_mk R2 e2 ?_
    cases o2 with
    |nx t'=>exact fun σ' H' A' g' R'=>⟨by lia,A',t',o,e,R',h.back (gr2.trans g'),keep _ _ _ _ gd (gr2.trans g')⟩
    |ct t'=>exact fun σ' H' A' g' R'=>⟨by lia,A',t',o,e,R',h.back (gr2.trans g'),keep _ _ _ _ gd (gr2.trans g')⟩
    |bk t'=>cases e;exact fun σ' H' A' g' R'=>h σ' H' A' (gr2.trans g') R'
    |rt r=>cases e;exact Back.back h gr2
noncomputable def dFor (k:D→Th→Option Th) (f:DE) (body:DS):DS:=fun t=>(f t).bind fun r=>match r.d with
 |.lst ds=>if r.ok then forD k body ds t else none
 |_=>none
theorem psd_for {body:List Stmt} (hp:PassesOwn (model X.prog X.w) X.A X.env X.xe) (hc:X.calm=true) (hl:PE X a (dE X.K F fa)) (hg:PG X tg gt) (ht:TgOk X.K F gt kt) (hb:PSs X body (dS X.K F g))
  (hs:∀x,foldedSetIterable a X.env x=pure x:=by intro _;rfl):PS X (.For tg a body [] pos) (dS X.K F (dFor kt fa g)):=by
 refine PS.imp (zaj6 hp hc (zas4 hl) hg hb hs) ?_
 intro E σ H hh
 obtain⟨A,t,o,R,e,h⟩:=zav9 hh
 unfold dFor at e
 cases e1:fa t with
 |none=>rw [e1]at e;cases e
 |some r =>
  rw [e1]at e
  refine⟨A,t,r,R,e1,fun v H1 gs q=>?_⟩
  have e:(match r.d with
   |.lst ds=>if r.ok then forD kt g ds t else none
   |_=>none)=some o:=e
  split at e
  case h_2=>cases e
  rename_i ds z
  split at e
  case isFalse=>cases e
  rename_i ok
  have cl:=q.clean R.mu gs ok
  rw [z]at cl
  cases cl with
  |@lst _ p vs h1 h2 =>
   refine⟨p,rfl,⟨vs,SqL.mono (za7 _ _) h1⟩,?_⟩
   refine zr0 (fun A H=>SqL X.K (hide (A++F) H) p vs∧Reps X.K (hide (A++F) H) ds vs) ht (R.grow gs) e (h.back (Gr.of_same R.mu.left gs)) ⟨h1,h2⟩ (fun A H A' H' q gr=>⟨SqL.mono gr.same q.1,Reps.mono gr.same q.2⟩)
    (fun A H q=>⟨vs,SqL.mono (za7 _ _) q.1,by rw [h2.length];exact zaz7 _⟩) (fun A H i q hi=>?_) (fun A H i x H' q _ y hi=>?_)
   ·have hi':i<vs.length:=by rw [h2.length];exact hi
    exact⟨vs,vs[i],SqL.mono (za7 _ _) q.1,zaz1 hi'⟩
   ·obtain⟨e1,e2⟩:=y
    have z:=e2 vs (SqL.mono (za7 _ _) q.1)
    subst e1
    exact⟨Same.refl _,q.2.getV z⟩
def rngD (lo:Int) (n:Nat):List D:=(zbf5 n).map fun (i:Nat)=>D.int (lo+(i:Int))
def bigI (i:Int):Bool:=decide (-1000000000000≤i∧i≤1000000000000)
noncomputable def zao2 (k:D→Th→Option Th) (f:DE) (body:DS):DS:=fun t=>(f t).bind fun r=>match r.d with
 |.int n=>if bigI n then forD k body (rngD 0 n.toNat) t else none
 |_=>none
theorem zaf2 (lo:Int) (n:Nat):(rngD lo n).length=n:=by simp [rngD]
theorem rng_core {K:zay3}{lo:Int}{n:Nat}{E:Ends}{σ:L2.St}{H:Hp}{A:List Addr}{t:Th}{o:Out} (ht:TgOk K F gt kt) (R:RS K F H A t σ) (e:forD kt g (rngD lo n) t=some o) (h:Post K F A H E o) :
  ∃W:Nat→Nat→L2.St→Hp→Prop,(∃m,W 0 m σ H)∧∀i m σ H,W i m σ H →
   ((Itr lo n).stop i H∧E.nx σ H)∨((Itr lo n).go i H∧∃N:L2.St→Hp→Prop,(∀σ' H',N σ' H'→∃m',m' < m∧W (i+1) m' σ' H')∧∀x H',(Itr lo n).yld i H x H'→gt x σ H' fun σ2 H2=>dS K F g { E with nx:=N,ct:=N,bk:=E.nx } σ2 H2):=by
 refine zr0 (fun _ _=>True) ht R e h trivial (fun _ _ _ _ _ _=>trivial) (fun A H _=>?_) (fun A H i _ hi=>?_) (fun A H i x H' _ _ y hi=>?_)
 ·rw [zaf2];exact zaz7 n
 ·rw [zaf2]at hi;exact hi
 ·rw [zaf2]at hi
  obtain⟨e1,e2⟩:=y
  subst e1
  refine⟨Same.refl _,.int (lo+i),by simp [rngD,hi],?_⟩
  rw [e2];exact .int _
theorem zaj5 {body:List Stmt}{p1 p2:Pos} (hp:PassesOwn (model X.prog X.w) X.A X.env X.xe) (hc:X.calm=true) (hgr:Gl X "range") (hm:X.mg "range"=none) (ha:PE X a (dE X.K F fa)) (hg:PG X tg gt) (ht:TgOk X.K F gt kt) (hb:PSs X body (dS X.K F g))
  (hst:zba7 [a] X.env=[(false,eval a X.env)]:=by rfl) (hs:∀x,foldedSetIterable (.Call (.Name "range" p1) [a] [] p2) X.env x=pure x:=by intro _;rfl):PS X (.For tg (.Call (.Name "range" p1) [a] [] p2) body [] pos) (dS X.K F (zao2 kt fa g)):=by
 refine PS.imp (zaj6 hp hc (zas3 hgr hm (zh4 ha zm3 hst) hst) hg hb hs) ?_
 intro E σ H hh
 obtain⟨A,t,o,R,e,h⟩:=zav9 hh
 unfold zao2 at e
 cases e1:fa t with
 |none=>rw [e1]at e;cases e
 |some r =>
  rw [e1]at e
  refine⟨A,t,r,R,e1,fun v H1 gs q=>?_⟩
  have e:(match r.d with
   |.int n=>if bigI n then forD kt g (rngD 0 n.toNat) t else none
   |_=>none)=some o:=e
  split at e
  case h_2=>cases e
  rename_i n z
  split at e
  case isFalse=>cases e
  rename_i ok
  simp only [bigI,decide_eq_true_eq]at ok
  have p:=q.full
  rw [z]at p
  cases zc8 p
  exact⟨n,rfl,by lia,by lia,rng_core ht (R.grow gs) e (h.back (Gr.of_same R.mu.left gs))⟩
end
end DL
namespace DL
open PySem.Spec L2
theorem RSl.upd {K:zay3}{H0 H H':Hp}{ds es:List D}{ws:List V}{p:Addr} (hp:H' p=some (.lst ws)) (he:Reps K H0 es ws):∀ {t:Th}{σ:L2.St}{A:List Addr} (i:Nat),RSl K H0 H t σ A→A.Nodup→t[i]?=some (.own ds)→σ[i]?=some (some (.ref p)) →
  (∀q∈A,q≠p→H' q=H q)→RSl K H0 H' (t.set i (.own es)) σ A
 |_,_,_,i,.nil,_,e,_,_=>by simp at e
 |_,_,_,0,.no r,_,e,_,_=>by simp at e
 |_,_,_,0,.val _ r,_,e,_,_=>by simp at e
 |_,_,_,0,.dp _ r,_,e,_,_=>by simp at e
 |_,_,_,i+1,.dp (B:=B) h1 r,nd,e,e2,k=>by
  have n:=zba4.mp nd
  obtain⟨p3,vs3,a1,a2,_⟩:=RSl.getOwn r (i:=i) (ds:=ds) (by simpa using e)
  have:p3=p:=by simpa [a1] using e2
  subst this
  refine .dp (RepD.mono (Same.refl _) h1 fun q hq o w=>?_) (RSl.upd hp he i r n.2.1 (by simpa using e) (by simpa using e2) fun q hq=>k q (zay4 _ hq))
  rw [k q (zay6 _ hq) (fun z=>n.2.2 q hq p3 a2 z)];exact w
 |_,_,_,0,.own (p:=p2) (A:=A) h1 h2 r,nd,e,e2,k=>by
  simp at e2
  subst e2
  exact .own hp he (RSl.mono (Same.refl _) r fun q hq o h=>by
   have n:q≠p2:=fun z=>(zbb5.mp nd).1 (z ▸ hq)
   rw [k q (zay5 _ hq) n];exact h)
 |_,_,_,i+1,.no r,nd,e,e2,k=>.no (RSl.upd hp he i r nd (by simpa using e) (by simpa using e2) k)
 |_,_,_,i+1,.val h r,nd,e,e2,k=>.val h (RSl.upd hp he i r nd (by simpa using e) (by simpa using e2) k)
 |_,_,_,i+1,.own (p:=p2) h1 h2 r,nd,e,e2,k=>by
  have n:=zbb5.mp nd
  have e2':=(show _ from e2)
  obtain⟨p3,vs3,a1,a2,_⟩:=RSl.getOwn r (i:=i) (ds:=ds) (by simpa using e)
  have:p3=p:=by simpa [a1] using e2
  subst this
  have np:p2≠p3:=fun z=>n.1 (z ▸ a2)
  refine .own (by rw [k p2 (zaz0 ..) np];exact h1) h2 (RSl.upd hp he i r n.2 (by simpa using e) (by simpa using e2) fun q hq=>k q (zay5 _ hq))
theorem RS.write {K:zay3}{F A:List Addr}{H:Hp}{t:Th}{σ:L2.St}{i:Nat}{ds es:List D}{ws:List V}{p:Addr} (R:RS K F H A t σ) (e:t[i]?=some (.own ds)) (e2:σ[i]?=some (some (.ref p))) (h:Reps K (hide (A++F) H) es ws) :
  RS K F (L2.upd H p (.lst ws)) A (t.set i (.own es)) σ∧Gr A H A (L2.upd H p (.lst ws)):=by
 obtain⟨p',vs,a1,a2,a3,a4⟩:=R.rel.getOwn e
 have:p'=p:=by simpa [a1] using e2
 subst this
 have hh:Same (hide (A++F) H) (hide (A++F) (L2.upd H p' (.lst ws))):=fun b o q=>by
  obtain⟨n,q⟩:=zh5 q
  have nb:b≠p':=fun z=>n (zay6 _ (z ▸ a2))
  exact zb1 (by rw [zb5 nb];exact q) n
 have mu:Lists (L2.upd H p' (.lst ws)) (A++F):=fun q hq=>by
  by_cases z:q=p'
  ·exact⟨mL ws,by rw [z];exact zb3⟩
  ·obtain⟨us,w⟩:=R.mu q hq
   exact⟨us,by rw [zb5 z];exact w⟩
 refine⟨⟨mu,R.nd,R.dj,RSl.upd zb3 (Reps.mono hh h) i (RSl.mono hh R.rel (H':=H) fun _ _ _ h=>h) R.nd e e2 fun q _ n=>zb5 n⟩,?_⟩
 refine⟨fun b o n q=>?_,fun b hb=>?_,fun b hb=>.inl hb⟩
 ·rw [zb5 (fun z=>n (by rw [z];exact a2))];exact q
 ·obtain⟨us,w⟩:=mu b (zay6 _ hb)
  rw [w];simp
noncomputable def kApp (t:Th) (i:Nat) (r:Ev):Option Out:=match t[i]? with
 |some (.own xs)=>if r.ok&&decide (xs.length<100000) then some (.nx (t.set i (.own (xs++[r.d])))) else none
 |_=>none
def dApp (i:Nat) (f:DE):DS:=fun t=>(f t).bind (kApp t i)
section
variable {X:Cx}{F:List Addr}{a b c:Expr}{es:List Expr}{fa fb fc:DE}{g g1 g2:DS}{ft fu:DT}{pos:Pos}{st:Stmt}{rest:List Stmt}{tg:Expr}{gt:TG}{kt:D→Th→Option Th}
theorem psd_app (i:Nat) {x:Str}{p0 apos cpos:Pos} (he:PE X a (dE X.K F fa)) (hN:X.N[i]?=some x:=by rfl) (hv:Vis X.env.scope x:=by first | exact Or.inl rfl | exact Or.inr (Or.inl rfl) |exact Or.inr (Or.inr rfl)) (hd:(x ==("__debug__":Str))=false:=by decide)
  (hcd:(x ==("__classdict__":Str))=false:=by decide) (hst:zba7 [a] X.env=[(false,eval a X.env)]:=by rfl)
  (hbase:attributeBase (.Name x p0) "append" X.env (eval (.Name x p0) X.env)=eval (.Name x p0) X.env:=by rfl)
  (hfew:((zbf6 cpos (zba7 [a] X.env)).all (fun x=>!x.1)&&(backToKw cpos (keywordEach [] X.env)).all (fun x=>x.1.isSome)
   && decide ([a].length+([]:List Keyword).length+(if ([]:List Keyword).isEmpty then 0 else 1)<30))=true:=by rfl)
  (hline:(apos.endLine == cpos.line)=true:=by rfl) (hplain:(zbf6 cpos (zba7 [] X.env)).any (·.1)=false:=by rfl)
  (hsw:swapsWith (.Call (.Attribute (.Name x p0) "append" apos) [a] [] cpos) none pos.line X.env=pure false:=by rfl) :
  PS X (.Expr (.Call (.Attribute (.Name x p0) "append" apos) [a] [] cpos) pos) (dS X.K F (dApp i fa)):=by
 refine PS.imp (zaf4 (pe_bm zbl1 zbk5 zbk6 zn9 (zr8 (i:=i) hN hv hd hcd) (zh4 he zm3 hst) hbase hfew hline hst hplain) hsw) ?_
 rintro E σ H ⟨A,t,o,R,e,h⟩
 unfold dApp at e
 cases e1:fa t with
 |none=>rw [e1]at e;cases e
 |some r =>
  rw [e1]at e
  have e:kApp t i r=some o:=e
  unfold kApp at e
  split at e
  case h_2=>cases e
  rename_i xs z
  split at e
  case isFalse=>cases e
  rename_i ok
  simp only [zba6,decide_eq_true_eq]at ok
  cases e
  obtain⟨p,vs,a1,a2,a3,a4⟩:=R.rel.getOwn z
  refine⟨_,a1,.inl ⟨rfl,vs,SqL.of a3⟩,A,t,r,R,e1,fun y H1 gs q=>⟨p,vs,y,rfl,rfl,gs _ _ a3,?_,?_⟩⟩
  ·have:vs.length<100000:=by rw [a4.length];exact ok.2
   exact zba5 this (by rw [sizeLine_eq];decide)
  ·obtain⟨R',g'⟩:=(R.grow gs).write (es:=xs++[r.d]) (ws:=vs++[y]) z a1 ((Reps.mono (zc3 gs) a4).app (Reps.one (q.clean R.mu gs ok.1)))
   exact h _ _ _ ((Gr.of_same R.mu.left gs).trans g') R'
noncomputable def kIx:Ev→Ev→Option Ev:=fun r1 r2=>match r1.d,r2.d with
 |.lst ds,.int i=>(atI ds i).map fun d=>if r1.ok||flat d then .cl d else .tm d
 |.tup ds,.int i=>(atI ds i).map fun d=>if r1.ok||flat d then .cl d else .tm d
 |_,_=>none
theorem Reps.atI {K:zay3}{H:Hp}{ds:List D}{vs:List V} (r:Reps K H ds vs) {i:Int}{d:D} (e:L2.atI ds i=some d):∃v,L2.atI vs i=some v∧Rep K H d v:=by
 unfold L2.atI at e ⊢
 rw [r.length]
 cases e1:ixN ds.length i with
 |none=>rw [e1]at e;cases e
 |some j=>rw [e1]at e;exact r.get e
theorem zg7 (ha:PE X a (dE X.K F fa)) (hb:PE X b (dE X.K F fb)) (hs:zy5 b:=by intro _ _;rfl):PE X (.Subscript a b pos) (dE X.K F (d2 kIx fa fb)):=by
 refine PE.imp (pe_ix (ix_list.or ix_tup) ha hb hs) ?_
 intro σ H Q h
 obtain⟨A,t,r1,r2,r,R,e1,e2,e,h,w⟩:=two h
 refine⟨A,t,r1,R,e1,fun x H1 gs1 q1=>⟨A,t,r2,R.grow gs1,e2,fun y H2 gs2 q2=>?_⟩⟩
 have q1:=q1.mono gs2
 have gs:=gs1.trans gs2
 have p2:=q2.full
 have m2:=R.mu.mono gs
 have key:∀(P:List Addr),Rep X.K (hide P H2) r1.d x→(∀d v,Rep X.K (hide P H2) d v→RepEv X.K F A H H2 (if r1.ok||flat d then Ev.cl d else Ev.tm d) v)→rIxL X.K x y H2 Q∨rIxT X.K x y H2 Q:=fun P hP fin=>by
  unfold kIx at e
  split at e
  ·rename_i ds i z1 z2
   rw [z2]at p2
   cases zc8 p2
   rw [z1]at hP
   cases hP with
   |@lst _ p vs h1 h2 =>
    cases e4:atI ds i with
    |none=>rw [e4]at e;cases e
    |some d =>
     rw [e4]at e
     have e:(if r1.ok||flat d then Ev.cl d else Ev.tm d)=r:=by simpa using e
     obtain⟨v,e5,rv⟩:=Reps.atI h2 e4
     exact .inl ⟨p,vs,i,v,rfl,rfl,SqL.mono (za7 _ _) h1,e5,h v H2 gs (e ▸ fin d v rv)⟩
  ·rename_i ds i z1 z2
   rw [z2]at p2
   cases zc8 p2
   rw [z1]at hP
   cases hP with
   |@tup _ p vs h1 h2 =>
    cases e4:atI ds i with
    |none=>rw [e4]at e;cases e
    |some d =>
     rw [e4]at e
     have e:(if r1.ok||flat d then Ev.cl d else Ev.tm d)=r:=by simpa using e
     obtain⟨v,e5,rv⟩:=Reps.atI h2 e4
     exact .inr ⟨p,vs,i,v,rfl,rfl,SqT.mono (za7 _ _) h1,e5,h v H2 gs (e ▸ fin d v rv)⟩
  ·cases e
 by_cases c:r1.ok=true
 ·refine key (A++F) (q1.clean R.mu gs c) fun d v rv=>?_
  rw [c,Bool.true_or,if_pos rfl]
  exact rv
 ·refine key F (q1.cleanF R.mu) fun d v rv=>?_
  have c:r1.ok=false:=by simpa using c
  rw [c,zbn9]
  split
  ·rename_i f;exact Rep.hid m2 f (Rep.mono (za7 _ _) rv)
  ·exact rv
noncomputable def dSl (lo hi:DE) (f:DE):DE:=fun t=>(f t).bind fun r=>(lo t).bind fun l=>(hi t).bind fun h=>match r.d,l.d,h.d with
 |.lst ds,.int i,.int j=>if r.ok||flats ds then some (.nw ((ds.drop (HT.sIx ds.length 0 (some i))).take (HT.sIx ds.length ds.length (some j) - HT.sIx ds.length 0 (some i)))) else none
 |_,_,_=>none
noncomputable def kCat:Ev→Ev→Option Ev:=fun r1 r2=>match r1.d,r2.d with
 |.lst ds,.lst es=>if (r1.ok||flats ds)&&(r2.ok||flats es)&&decide (ds.length+es.length≤100000) then some (.nw (ds++es)) else none
 |_,_=>none
theorem RepEv.items {K:zay3}{F A:List Addr}{H H':Hp}{r:Ev}{v:V}{ds:List D} (m:Lists H (A++F)) (gs:Same H H') (q:RepEv K F A H H' r v) (z:r.d=.lst ds) (c:(r.ok||flats ds)=true) :
  ∃p vs,v=.ref p∧SqL K H' p vs∧Reps K (hide (A++F) H') ds vs:=by
 rcases zbm5 _ _ ▸ c with c | c
 ·have w:=q.clean m gs c
  rw [z]at w
  cases w with
  |@lst _ p vs h1 h2=>exact⟨p,vs,rfl,SqL.mono (za7 _ _) h1,h2⟩
 ·have w:=q.full
  rw [z]at w
  cases w with
  |@lst _ p vs h1 h2=>exact⟨p,vs,rfl,h1,Reps.hid (m.mono gs) c h2⟩
theorem zas5 {p2:Pos} (ha:PE X a (dE X.K F fa)) (hb:PE X b (dE X.K F fb)) (hc:PE X c (dE X.K F fc)):PE X (.Subscript a (.Slice (some b) (some c) none p2) pos) (dE X.K F (dSl fb fc fa)):=by
 refine PE.imp (zx0 zae6 ha (zw6 hb) (zw6 hc)) ?_
 rintro σ H Q ⟨A,t,r,R,e,h⟩
 unfold dSl at e
 cases e1:fa t with
 |none=>rw [e1]at e;cases e
 |some r1 =>
  cases e2:fb t with
  |none=>rw [e1,e2]at e;cases e
  |some r2 =>
   cases e3:fc t with
   |none=>rw [e1,e2,e3]at e;cases e
   |some r3 =>
    rw [e1,e2,e3]at e
    refine⟨A,t,r1,R,e1,fun x H1 gs1 q1=>⟨A,t,r2,R.grow gs1,e2,fun y H2 gs2 q2=>?_⟩⟩
    have e:(match r1.d,r2.d,r3.d with
     |.lst ds,.int i,.int j=>if r1.ok||flats ds then some (Ev.nw ((ds.drop (HT.sIx ds.length 0 (some i))).take (HT.sIx ds.length ds.length (some j) - HT.sIx ds.length 0 (some i)))) else none
     |_,_,_=>none)=some r:=e
    split at e
    case h_2=>cases e
    rename_i ds i j z1 z2 z3
    split at e
    case isFalse=>cases e
    rename_i c
    cases e
    have p2':=q2.full
    rw [z2]at p2'
    cases zc8 p2'
    refine⟨i,rfl,A,t,r3,(R.grow gs1).grow gs2,e3,fun w H3 gs3 q3=>?_⟩
    have p3':=q3.full
    rw [z3]at p3'
    cases zc8 p3'
    have gs:=(gs1.trans gs2).trans gs3
    obtain⟨p,vs,rfl,h1,h2⟩:=(q1.mono (gs2.trans gs3)).items R.mu gs z1 c
    refine⟨j,rfl,p,vs,rfl,h1,fun l hl=>h _ _ (gs.trans (zc2 hl)) ⟨l,_,rfl,Same.free gs hl,zb3,Reps.mono (zi4 hl) ?_⟩⟩
    unfold cutV
    rw [h2.length]
    exact (h2.drop _).take _
theorem cat_any {E:Value→zaz5→Prop}{A:Around}{prog:Program}{w:World}{s:zaz5}{l b:Addr}{vs ws:List Value}{Q:Value→zaz5→Prop} (hl:PlainL s.heap l vs.toArray) (hb:PlainL s.heap b ws.toArray)
  (h:Q (.ref s.heap.objs.size) { s with heap:=s.heap.push { cls:=.type "list",data:=.seq (vs++ws).toArray } }) (hsz:vs.length+ws.length≤sizeLine) :
  wpAny (model prog w) A (binaryOp .Add (.ref l) (.ref b)) Q E s:=by
 obtain⟨⟨cls,dd,data,sl⟩,n,ho,hc,hdd,hd⟩:=id hl
 obtain⟨⟨cls2,dd2,data2,sl2⟩,n2,ho2,hc2,hdd2,hd2⟩:=id hb
 simp only at hc hd hc2 hd2
 subst hc hd hc2 hd2
 have e:vs.toArray++ws.toArray=(vs++ws).toArray:=by simp
 refine concat_meets ⟨_,ho,rfl⟩ ⟨_,ho2,rfl⟩ noFill_list_add seq_list_add PySem.F.slot_list_add PySem.F.entry_list_add (PySem.F.args_list_add_2 _ _) (list_addW l b vs.toArray ws.toArray n n2 dd dd2 sl sl2 (by simpa using hsz)) ⟨ho,ho2,?_⟩
 rw [e]
 exact h
theorem od_cat:OpD X F (binaryOp .Add) kCat:=by
 intro pins s σ H0 H A x y v u Q r1 r2 r I m g0 rx ry q1 q2 e hq
 unfold kCat at e
 split at e
 case h_2=>cases e
 rename_i ds es' z1 z2
 split at e
 case isFalse=>cases e
 rename_i c
 simp only [zba6,decide_eq_true_eq]at c
 cases e
 obtain⟨p,vs,rfl,h1,h2⟩:=q1.items m g0 z1 c.1.1
 obtain⟨p',ws,rfl,h1',h2'⟩:=q2.items m g0 z2 c.1.2
 cases rx
 cases ry
 obtain⟨its,w1,w2,w3⟩:=I.list h1
 obtain⟨its',w1',w2',w3'⟩:=I.list h1'
 have l1:=h2.length
 have l2:=h2'.length
 have l3:=w1.length
 have l4:=w1'.length
 have hz:vs.length+ws.length≤sizeLine:=le_line (by lia)
 refine cat_any w2 w2' ⟨.ref _,_,I.lnew (t':=s.toks) (w1.append w1') (by rw [zbd4];exact hz),rfl,?_⟩ (by lia)
 refine hq _ _ (zc2 I.fresh) ⟨_,_,rfl,Same.free g0 I.fresh,zb3,Reps.mono (zi4 I.fresh) (h2.app h2')⟩
mutual
def eqD:D→D→Bool
 |.non,.non=>true
 |.bl a,.bl b=>decide (a=b)
 |.int a,.int b=>decide (a=b)
 |.str a,.str b=>decide (a=b)
 |.tup a,.tup b=>eqDs a b
 |.lst a,.lst b=>eqDs a b
 |.dct ks a,.dct ks' b=>decide (ks=ks')&&eqDs a b
 |.pdc a,.pdc b=>decide (a=b)
 |_,_=>false
def eqDs:List D→List D→Bool
 |[],[]=>true
 |a::as,b::bs=>eqD a b&&eqDs as bs
 |_,_=>false
end
noncomputable def eqOk:Nat→D→D→Bool
 |_,.non,.non=>true
 |_,.bl _,.bl _=>true
 |_,.int _,.int _=>true
 |_,.str _,.str _=>true
 |_,.non,.int _=>true
 |_,.int _,.non=>true
 |_,.non,.str _=>true
 |_,.str _,.non=>true
 |_,.non,.bl _=>true
 |_,.bl _,.non=>true
 |_,.int _,.str _=>true
 |_,.str _,.int _=>true
 |n+1,.tup xs,.tup ys=>(xs.zip ys).all fun p=>eqOk n p.1 p.2
 |n+1,.lst xs,.lst ys=>(xs.zip ys).all fun p=>eqOk n p.1 p.2
 |_,_,_=>false
theorem zt2 {pins:List (Addr×Obj)}{s:zaz5}{σ:L2.St}{H:Hp}{p:Addr}{kvs:List (Key×V)} (I:Inv X pins σ H s) (h:H p=some (.dK kvs)):∃o,s.heap.get? p=some o∧o.cls=.type "dict":=by
 obtain⟨_,_,vs,_,m⟩:kvs.length≤sizeLine∧(p == sysModules)=false∧∃vs,KV kvs vs∧s.heap.DictOf (zf5 X.prog X.w) p vs:=I.hok p _ h
 exact m.typeIs
theorem zr9 {pins:List (Addr×Obj)}{s:zaz5}{σ:L2.St}{H:Hp}{p:Addr}{kvs:List (List Key×V)} (I:Inv X pins σ H s) (h:H p=some (.dT kvs)):∃o,s.heap.get? p=some o∧o.cls=.type "dict":=by
 obtain⟨_,_,xs,_,o,es,ep,h1,h2,_⟩:=(show ObjOk X.prog X.w H s.heap p (.dT kvs) from I.hok p _ h)
 exact⟨o,h1,h2.1⟩
theorem zas1:∀ {a b:List (Int×Int)},pkv a=pkv b→a=b
 |[],[],_=>rfl
 |[],_::_,h=>by simp [pkv]at h
 |_::_,[],h=>by simp [pkv]at h
 |(x,y)::a,(z,w)::b,h=>by
  simp only [pkv,zba2,List.cons.injEq,Prod.mk.injEq,Sum.inl.injEq,and_true]at h
  rw [h.1.1,h.1.2,zas1 (a:=a) (b:=b) h.2]
theorem zip_inj {ks ks':List Key}{vs vs':List V} (l:ks.length=vs.length) (l':ks'.length=vs'.length) (h:mkKV ks vs=mkKV ks' vs'):ks=ks'∧vs=vs':=by
 unfold mkKV at h
 have h1:=congrArg (List.map Prod.fst) h
 have h2:=congrArg (List.map Prod.snd) h
 rw [zbp0 (by lia),zbp0 (by lia)]at h1
 rw [zbp1 (by lia),zbp1 (by lia)]at h2
 exact⟨h1,h2⟩
theorem Rep.injR {pins:List (Addr×Obj)}{s:zaz5}{σ:L2.St}{H:Hp} (I:Inv X pins σ H s):(∀ {d:D}{v:V},Rep X.K H d v→∀e,Rep X.K H e v→d=e)∧∀ {ds:List D}{vs:List V},Reps X.K H ds vs→∀es,Reps X.K H es vs→ds=es:=by
 have cl:∀ {p:Addr}{A B:String},(∃o,s.heap.get? p=some o∧o.cls=.type A)→(∃o,s.heap.get? p=some o∧o.cls=.type B)→A≠B→False:=fun ⟨o,e,c⟩ ⟨o',e',c'⟩ n=>by
  rw [e]at e';cases e'
  rw [c]at c';injection c' with c';exact n c'
 have ct:∀ {p:Addr}{vs:List V},SqT X.K H p vs→∃o,s.heap.get? p=some o∧o.cls=.type "tuple":=fun h=>by
  obtain⟨its,_,⟨o,e,c,_⟩,_⟩:=I.tuple h
  exact⟨o,e,c⟩
 have cL:∀ {p:Addr}{vs:List V},SqL X.K H p vs→∃o,s.heap.get? p=some o∧o.cls=.type "list":=fun h=>by
  obtain⟨its,_,⟨o,n,e,c,_⟩,_⟩:=I.list h
  exact⟨o,e,c⟩
 have key:∀ {d:D}{v:V},Rep X.K H d v→∀e,Rep X.K H e v→d=e:=fun h=>by
  refine Rep.rec (motive_1:=fun d v _ => ∀e,Rep X.K H e v→d=e) (motive_2:=fun ds vs _ => ∀es,Reps X.K H es vs→ds=es) ?_ ?_ ?_ ?_ ?_ ?_ ?_ ?_ ?_ ?_ h
  ·intro e h';cases h';rfl
  ·intro b e h';cases h';rfl
  ·intro b e h';cases h';rfl
  ·intro b e h';cases h';rfl
  ·intro ds p vs h1 r1 ih e h'
   cases h' with
   |tup h2 r2 =>
    have ev:=I.tuple_inj h1 h2
    subst ev
    rw [ih _ r2]
   |lst h2 r2=>exact (cl (ct h1) (cL h2) (by decide +kernel)).elim
   |dct _ h2 r2=>exact (cl (ct h1) (zt2 I h2) (by decide +kernel)).elim
   |pdc h2=>exact (cl (ct h1) (zr9 I h2) (by decide +kernel)).elim
  ·intro ds p vs h1 r1 ih e h'
   cases h' with
   |tup h2 r2=>exact (cl (cL h1) (ct h2) (by decide +kernel)).elim
   |lst h2 r2 =>
    have ev:=I.list_inj h1 h2
    subst ev
    rw [ih _ r2]
   |dct _ h2 r2=>exact (cl (cL h1) (zt2 I h2) (by decide +kernel)).elim
   |pdc h2=>exact (cl (cL h1) (zr9 I h2) (by decide +kernel)).elim
  ·intro ks ds p vs l1 h1 r1 ih e h'
   cases h' with
   |tup h2 r2=>exact (cl (zt2 I h1) (ct h2) (by decide +kernel)).elim
   |lst h2 r2=>exact (cl (zt2 I h1) (cL h2) (by decide +kernel)).elim
   |dct l2 h2 r2 =>
    rw [h1]at h2
    obtain⟨e1,e2⟩:=zip_inj l1 l2 (by injection h2 with h2;injection h2)
    subst e1 e2
    rw [ih _ r2]
   |pdc h2=>rw [h1]at h2;cases h2
  ·intro ps p h1 e h'
   cases h' with
   |tup h2 r2=>exact (cl (zr9 I h1) (ct h2) (by decide +kernel)).elim
   |lst h2 r2=>exact (cl (zr9 I h1) (cL h2) (by decide +kernel)).elim
   |dct _ h2 r2=>rw [h1]at h2;cases h2
   |pdc h2 =>
    rw [h1]at h2
    injection h2 with h2
    injection h2 with h2
    rw [zas1 h2]
  ·intro es h';cases h';rfl
  ·intro d v ds vs h r ih1 ih2 es h'
   cases h' with
   |cons h' r'=>rw [ih1 _ h',ih2 _ r']
 refine⟨key,fun {ds vs} h=>?_⟩
 induction ds generalizing vs with
 |nil=>intro es h';cases h;cases h';rfl
 |cons d ds ih =>
  intro es h'
  cases h with
  |cons h r =>
   cases h' with
   |cons h' r'=>rw [key h _ h',ih r _ r']
theorem Rep.inj {pins:List (Addr×Obj)}{s:zaz5}{σ:L2.St}{H:Hp} (I:Inv X pins σ H s) {d e:D}{v:V} (h:Rep X.K H d v) (h':Rep X.K H e v):d=e:=(Rep.injR I).1 h e h'
mutual
theorem zav1:∀ {a b:D},eqD a b=true↔a=b
 |.non,b=>by cases b<;>simp [eqD]
 |.bl _,b=>by cases b<;>simp [eqD]
 |.int _,b=>by cases b<;>simp [eqD]
 |.str _,b=>by cases b<;>simp [eqD]
 |.tup xs,b=>by
  cases b with
  |tup ys=>simp only [eqD,D.tup.injEq];exact eqDs_iff
  |_=>simp [eqD]
 |.lst xs,b=>by
  cases b with
  |lst ys=>simp only [eqD,D.lst.injEq];exact eqDs_iff
  |_=>simp [eqD]
 |.dct ks xs,b=>by
  cases b with
  |dct ks' ys=>simp only [eqD,D.dct.injEq,zba6,decide_eq_true_eq];rw [eqDs_iff (a:=xs) (b:=ys)]
  |_=>simp [eqD]
 |.pdc a,b=>by cases b<;>simp [eqD]
theorem eqDs_iff:∀ {a b:List D},eqDs a b=true↔a=b
 |[],b=>by cases b<;>simp [eqDs]
 |x::xs,b=>by
  cases b with
  |nil=>simp [eqDs]
  |cons y ys =>
   simp only [eqDs,zba6,List.cons.injEq]
   rw [zav1 (a:=x) (b:=y),eqDs_iff (a:=xs) (b:=ys)]
end
theorem eqD_true {a b:D}:eqD a b=true↔a=b:=zav1
theorem eqD_false {a b:D}:eqD a b=false↔¬ a=b:=by rw [← eqD_true];simp
def eAt (xs ys:List D) (j:Nat):Bool:=match xs[j]?,ys[j]? with
 |some a,some b=>eqD a b
 |_,_=>true
end
end DL
namespace DL
open PySem.Spec L2
theorem PlainL.isL {h:Heap}{a:Addr}{its:Array Value} (p:PlainL h a its):h.IsList a its:=by
 obtain⟨o,n,e,c,_,d⟩:=p
 exact⟨o,e,c,n,d⟩
section
variable {X:Cx}{F:List Addr}{a b c:Expr}{es:List Expr}{fa fb fc:DE}{g g1 g2:DS}{ft fu:DT}{pos:Pos}{st:Stmt}{rest:List Stmt}{tg:Expr}{gt:TG}{kt:D→Th→Option Th}
def scD:D→Bool
 |.tup _=>false
 |.lst _=>false
 |.dct _ _=>false
 |.pdc _=>false
 |_=>true
theorem eqV_D {K:zay3}{H:Hp}{n:Nat}{d e:D}{v u:V} (r:Rep K H d v) (q:Rep K H e u) (s1:scD d=true) (s2:scD e=true) (ok:eqOk n d e=true):zo4 v=true∧zo4 u=true∧eqV v u=eqD d e:=by
 cases r<;>cases q<;>simp_all [scD,eqOk,zo4,eqV,eqD]
 all_goals (rw [zbe8];simp)
theorem zy3 {xs ys:List D} (h:xs.length=ys.length):(zbf5 xs.length).all (eAt xs ys)=eqD (.lst xs) (.lst ys):=by
 rw [zbe8,eqD_true,zbg5]
 constructor
 ·intro hh
  congr 1
  apply zbp2 h
  intro i h1 h2
  have:=hh i (zbn0.mpr h1)
  simp only [eAt,zaz1 h1,zaz1 h2]at this
  exact eqD_true.mp this
 ·intro hh i hi
  injection hh with hh
  subst hh
  simp only [eAt]
  split
  ·rename_i a b z1 z2
   rw [z1]at z2;cases z2
   exact eqD_true.mpr rfl
  ·rfl
theorem zy2 {xs ys:List D}:((zbf5 (min xs.length ys.length)).all (eAt xs ys)&&xs.length == ys.length)=eqD (.tup xs) (.tup ys):=by
 by_cases h:xs.length=ys.length
 ·have e:min xs.length ys.length=xs.length:=by lia
  rw [e,zy3 h,beq_iff_eq.mpr h,zbo0]
  rw [zbe8,eqD_true,eqD_true]
  simp
 ·have e:(xs.length == ys.length)=false:=by simpa using h
  rw [e,Bool.and_false]
  symm
  rw [eqD_false]
  intro z
  injection z with z
  exact h (by rw [z])
theorem zae3 {n:Nat}{xs ys:List D} (h:((xs.zip ys).all fun p=>eqOk n p.1 p.2)=true) {j:Nat}{x y:D} (hx:xs[j]?=some x) (hy:ys[j]?=some y):eqOk n x y=true:=by
 rw [zbg5]at h
 refine h (x,y) (zbc2 (i:=j) ?_)
 rw [List.getElem?_zip_eq_some]
 exact⟨hx,hy⟩
theorem zac3 {A:Around}:A.in1.units=A.units+1:=rfl
theorem Vals.getL {vs:List V}{us:List Value} (h:Vals vs us) {j:Nat} (hj:j<us.toArray.size):∃v,vs[j]?=some v∧RelV v us.toArray[j]:=by
 have hj':j<vs.length:=by rw [h.length];simpa using hj
 obtain⟨u,e,r⟩:=Vals.get h (zaz1 hj')
 refine⟨_,zaz1 hj',?_⟩
 have:us.toArray[j]=u:=by
  have hj2:j<us.length:=by simpa using hj
  have:=zaz1 hj2
  rw [e]at this
  simpa using (Option.some.inj this).symm
 rw [this];exact r
theorem eqAt_D {pins:List (Addr×Obj)}{s:zaz5}{σ:L2.St}{H:Hp} (I:Inv X pins σ H s):∀(n:Nat) (A:Around) (d e:D) (v u:V) (y z:Value),A.units+n<cLine→eqOk n d e=true→Rep X.K H d v→Rep X.K H e u→RelV v y→RelV u z→SeqAt.EqAt A s y z (eqD d e):=by
 intro n
 induction n with
 |zero =>
  intro A d e v u y z hu ok r q ry rz
  have s1:scD d=true:=by cases d<;>cases e<;>simp_all [scD,eqOk]
  have s2:scD e=true:=by cases d<;>cases e<;>simp_all [scD,eqOk]
  obtain⟨f1,f2,ee⟩:=eqV_D r q s1 s2 ok
  rw [← ee]
  exact zav2 ry rz f1 f2
 |succ n ih =>
  intro A d e v u y z hu ok r q ry rz
  by_cases s1:scD d=true
  ·have s2:scD e=true:=by cases d<;>cases e<;>simp_all [scD,eqOk]
   obtain⟨f1,f2,ee⟩:=eqV_D r q s1 s2 ok
   rw [← ee]
   exact zav2 ry rz f1 f2
  ·have hu':A.in1.units+n<cLine:=by rw [zac3];lia
   have hu0:A.units<cLine:=by lia
   cases r with
   |@tup xs p vs h1 h2 =>
    cases q with
    |@tup ys p' ws h1' h2' =>
     cases ry;cases rz
     by_cases z:p=p'
     ·subst z
      have e:=Rep.inj I (.tup h1 h2) (.tup h1' h2')
      rw [eqD_true.mpr e]
      exact SeqAt.EqAt.same _
     ·obtain⟨its,w1,w2,_⟩:=I.tuple h1
      obtain⟨its',w1',w2',_⟩:=I.tuple h1'
      refine SeqAt.EqAt.of_refs z ?_
      have k:=SeqAt.RcAt.tuples (A:=A) (e:=eAt xs ys) w2 w2' hu0 (fun j g1 g2=>by
       obtain⟨v1,a1,a2⟩:=Vals.getL w1 g1
       obtain⟨v2,b1,b2⟩:=Vals.getL w1' g2
       obtain⟨x1,c1,c2⟩:=h2.getV a1
       obtain⟨x2,d1,d2⟩:=h2'.getV b1
       have:=ih A.in1 x1 x2 v1 v2 _ _ hu' (zae3 (by simpa [eqOk] using ok) c1 d1) c2 d2 a2 b2
       have ee:eAt xs ys j=eqD x1 x2:=by simp only [eAt,c1,d1]
       rw [ee];exact this)
      have l1:its.toArray.size=xs.length:=by have:=w1.length;have:=h2.length;simp;lia
      have l2:its'.toArray.size=ys.length:=by have:=w1'.length;have:=h2'.length;simp;lia
      rw [l1,l2,zy2]at k
      exact k
    |_=>simp_all [eqOk]
   |@lst xs p vs h1 h2 =>
    cases q with
    |@lst ys p' ws h1' h2' =>
     cases ry;cases rz
     by_cases z:p=p'
     ·subst z
      have e:=Rep.inj I (.lst h1 h2) (.lst h1' h2')
      rw [eqD_true.mpr e]
      exact SeqAt.EqAt.same _
     ·obtain⟨its,w1,w2,_⟩:=I.list h1
      obtain⟨its',w1',w2',_⟩:=I.list h1'
      refine SeqAt.EqAt.of_refs z ?_
      have l1:its.toArray.size=xs.length:=by have:=w1.length;have:=h2.length;simp;lia
      have l2:its'.toArray.size=ys.length:=by have:=w1'.length;have:=h2'.length;simp;lia
      by_cases hl:xs.length=ys.length
      ·have k:=SeqAt.RcAt.lists (A:=A) (e:=eAt xs ys) (PlainL.isL w2) (PlainL.isL w2') (by rw [l1,l2];exact hl) hu0 (fun j g1 g2=>by
        obtain⟨v1,a1,a2⟩:=Vals.getL w1 g1
        obtain⟨v2,b1,b2⟩:=Vals.getL w1' g2
        obtain⟨x1,c1,c2⟩:=h2.getV a1
        obtain⟨x2,d1,d2⟩:=h2'.getV b1
        have:=ih A.in1 x1 x2 v1 v2 _ _ hu' (zae3 (by simpa [eqOk] using ok) c1 d1) c2 d2 a2 b2
        have ee:eAt xs ys j=eqD x1 x2:=by simp only [eAt,c1,d1]
        rw [ee];exact this)
       rw [l1,zy3 hl]at k
       exact k
      ·have ee:eqD (.lst xs) (.lst ys)=false:=eqD_false.mpr fun z=>hl (by injection z with z;rw [z])
       rw [ee]
       exact SeqAt.RcAt.lists_lengths (PlainL.isL w2) (PlainL.isL w2') (by rw [l1,l2];simpa using hl) hu0
    |_=>simp_all [eqOk]
   |dct=>exact absurd ok (by cases e<;>simp [eqOk])
   |pdc=>exact absurd ok (by cases e<;>simp [eqOk])
   |_=>simp_all [scD]
theorem zai9 {pins:List (Addr×Obj)}{s:zaz5}{σ:L2.St}{H:Hp} (I:Inv X pins σ H s) {n:Nat}{A:Around}{xs ys:List D}{vs ws:List V}{its its':List Value} (hu:A.units+n+1<cLine) (ok:((xs.zip ys).all fun p=>eqOk n p.1 p.2)=true)
  (h2:Reps X.K H xs vs) (h2':Reps X.K H ys ws) (w1:Vals vs its) (w1':Vals ws its'):∀j (g1:j<its.toArray.size) (g2:j<its'.toArray.size),SeqAt.EqAt A.in1 s its.toArray[j] its'.toArray[j] (eAt xs ys j):=fun j g1 g2=>by
 obtain⟨v1,a1,a2⟩:=Vals.getL w1 g1
 obtain⟨v2,b1,b2⟩:=Vals.getL w1' g2
 obtain⟨x1,c1,c2⟩:=h2.getV a1
 obtain⟨x2,d1,d2⟩:=h2'.getV b1
 have:=eqAt_D I n A.in1 x1 x2 v1 v2 _ _ (by rw [zac3];lia) (zae3 ok c1 d1) c2 d2 a2 b2
 have ee:eAt xs ys j=eqD x1 x2:=by simp only [eAt,c1,d1]
 rw [ee];exact this
def kEq:Ev→Ev→Option Ev:=fun r1 r2=>if eqOk 6 r1.d r2.d then some (.cl (.bl (eqD r1.d r2.d))) else none
def kNe:Ev→Ev→Option Ev:=fun r1 r2=>if eqOk 6 r1.d r2.d then some (.cl (.bl (!eqD r1.d r2.d))) else none
theorem scal_D {K:zay3}{H:Hp}{n:Nat}{d e:D}{v u:V} (r:Rep K H d v) (q:Rep K H e u) (s1:scD d=true) (ok:eqOk n d e=true):scal v u=true∧decide (v=u)=eqD d e:=by
 cases r<;>cases q<;>simp_all [scD,eqOk,scal,eqD]
theorem od_eq (hu:X.A.units+64<cLine):OpD X F (compareOp .Eq) kEq:=by
 intro pins s σ H0 H A x y v u Q r1 r2 r I m g0 rx ry q1 q2 e hq
 unfold kEq at e
 split at e
 case isFalse=>cases e
 rename_i ok
 cases e
 have p1:=q1.full
 have p2:=q2.full
 by_cases s1:scD r1.d=true
 ·obtain⟨a1,a2⟩:=scal_D p1 p2 s1 ok
  exact op_eq pins s σ H x y v u Q I rx ry ⟨a1,by rw [a2];exact hq _ H (Same.refl H) (.bl _)⟩
 ·generalize r1.d=d1 at *
  generalize r2.d=d2 at *
  have hu0:X.A.units<cLine:=by lia
  cases p1 with
  |@tup xs p vs h1 h2 =>
   cases p2 with
   |@tup ys p' ws h1' h2' =>
    cases rx;cases ry
    obtain⟨its,w1,w2,_⟩:=I.tuple h1
    obtain⟨its',w1',w2',_⟩:=I.tuple h1'
    have l1:its.toArray.size=xs.length:=by have:=w1.length;have:=h2.length;simp;lia
    have l2:its'.toArray.size=ys.length:=by have:=w1'.length;have:=h2'.length;simp;lia
    refine SeqAt.eq_tupleAt w2 w2' hu0 (zai9 I (n:=5) (by lia) (by simpa [eqOk] using ok) h2 h2' w1 w1') ?_
    rw [l1,l2,zy2]
    exact⟨.bl _,H,I,rfl,hq _ H (Same.refl H) (.bl _)⟩
   |_=>simp_all [eqOk]
  |@lst xs p vs h1 h2 =>
   cases p2 with
   |@lst ys p' ws h1' h2' =>
    cases rx;cases ry
    obtain⟨its,w1,w2,_⟩:=I.list h1
    obtain⟨its',w1',w2',_⟩:=I.list h1'
    have l1:its.toArray.size=xs.length:=by have:=w1.length;have:=h2.length;simp;lia
    have l2:its'.toArray.size=ys.length:=by have:=w1'.length;have:=h2'.length;simp;lia
    by_cases hl:xs.length=ys.length
    ·refine SeqAt.eq_listAt (PlainL.isL w2) (PlainL.isL w2') (by rw [l1,l2];exact hl) hu0 (zai9 I (n:=5) (by lia) (by simpa [eqOk] using ok) h2 h2' w1 w1') ?_
     rw [l1,zy3 hl]
     exact⟨.bl _,H,I,rfl,hq _ H (Same.refl H) (.bl _)⟩
    ·have ee:eqD (.lst xs) (.lst ys)=false:=eqD_false.mpr fun z=>hl (by injection z with z;rw [z])
     rw [ee]at hq
     exact SeqAt.eq_list_lengthsAt (PlainL.isL w2) (PlainL.isL w2') (by rw [l1,l2];simpa using hl) hu0 ⟨.bl _,H,I,rfl,hq _ H (Same.refl H) (.bl _)⟩
   |_=>simp_all [eqOk]
  |dct=>exact absurd ok (by cases d2<;>simp [eqOk])
  |pdc=>exact absurd ok (by cases d2<;>simp [eqOk])
  |_=>simp_all [scD]
theorem zag5 (hu:X.A.units+64<cLine):OpD X F (compareOp .NotEq) kNe:=by
 intro pins s σ H0 H A x y v u Q r1 r2 r I m g0 rx ry q1 q2 e hq
 unfold kNe at e
 split at e
 case isFalse=>cases e
 rename_i ok
 cases e
 have p1:=q1.full
 have p2:=q2.full
 by_cases s1:scD r1.d=true
 ·obtain⟨a1,a2⟩:=scal_D p1 p2 s1 ok
  exact op_ne pins s σ H x y v u Q I rx ry ⟨a1,by rw [a2];exact hq _ H (Same.refl H) (.bl _)⟩
 ·generalize r1.d=d1 at *
  generalize r2.d=d2 at *
  have hu0:X.A.units<cLine:=by lia
  cases p1 with
  |@tup xs p vs h1 h2 =>
   cases p2 with
   |@tup ys p' ws h1' h2' =>
    cases rx;cases ry
    obtain⟨its,w1,w2,_⟩:=I.tuple h1
    obtain⟨its',w1',w2',_⟩:=I.tuple h1'
    have l1:its.toArray.size=xs.length:=by have:=w1.length;have:=h2.length;simp;lia
    have l2:its'.toArray.size=ys.length:=by have:=w1'.length;have:=h2'.length;simp;lia
    have k:=SeqAt.RcNeAt.tuples (A:=X.A) w2 w2' hu0 (zai9 I (n:=5) (by lia) (by simpa [eqOk] using ok) h2 h2' w1 w1')
    rw [l1,l2,zy2]at k
    exact k _ _ _ _ ⟨.bl _,H,I,rfl,hq _ H (Same.refl H) (.bl _)⟩
   |_=>simp_all [eqOk]
  |@lst xs p vs h1 h2 =>
   cases p2 with
   |@lst ys p' ws h1' h2' =>
    cases rx;cases ry
    obtain⟨its,w1,w2,_⟩:=I.list h1
    obtain⟨its',w1',w2',_⟩:=I.list h1'
    have l1:its.toArray.size=xs.length:=by have:=w1.length;have:=h2.length;simp;lia
    have l2:its'.toArray.size=ys.length:=by have:=w1'.length;have:=h2'.length;simp;lia
    by_cases hl:xs.length=ys.length
    ·have k:=SeqAt.RcNeAt.lists (A:=X.A) (PlainL.isL w2) (PlainL.isL w2') (by rw [l1,l2];exact hl) hu0 (zai9 I (n:=5) (by lia) (by simpa [eqOk] using ok) h2 h2' w1 w1')
     rw [l1,zy3 hl]at k
     exact k _ _ _ _ ⟨.bl _,H,I,rfl,hq _ H (Same.refl H) (.bl _)⟩
    ·have ee:eqD (.lst xs) (.lst ys)=false:=eqD_false.mpr fun z=>hl (by injection z with z;rw [z])
     rw [ee]at hq
     exact SeqAt.RcNeAt.lists_lengths (A:=X.A) (PlainL.isL w2) (PlainL.isL w2') (by rw [l1,l2];simpa using hl) hu0 _ _ _ _ ⟨.bl _,H,I,rfl,hq _ H (Same.refl H) (.bl _)⟩
   |_=>simp_all [eqOk]
  |dct=>exact absurd ok (by cases d2<;>simp [eqOk])
  |pdc=>exact absurd ok (by cases d2<;>simp [eqOk])
  |_=>simp_all [scD]
noncomputable def tyD:D→String
 |.non => "NoneType"
 |.bl _ => "bool"
 |.int _ => "int"
 |.str _ => "str"
 |.tup _ => "tuple"
 |.lst _ => "list"
 |.dct _ _ => "dict"
 |.pdc _ => "dict"
def isiT (d:D) (T:String):Bool:=tyD d == T||(tyD d == "bool"&&T == "int")
def dIsi (T:String) (f:DE):DE:=fun t=>(f t).bind fun r=>some (.cl (.bl (isiT r.d T)))
def zao6 (K:zay3) (T:String):Prop := ∀d:D,PySem.W.kitOne K (.type (tyD d)) (.type T)=some (isiT d T)
theorem zp2 {T:String}{x:Str}{p p2:Pos} (ok:zao6 X.K T) (ha:PE X a (dE X.K F fa)) (hg:Gl X "isinstance") (hm:X.mg "isinstance"=none) (hgT:Gl X x) (hmT:X.mg x=none) (hvT:bootBuiltins x=some (.type T)) (hnT:x≠"__name__":=by decide) (hdT:(x ==("__debug__":Str))=false:=by decide)
  (he:zba7 (a::[Expr.Name x p2]) X.env=(false,eval a X.env)::zba7 [.Name x p2] X.env:=by rfl) (he2:zba7 [Expr.Name x p2] X.env=[(false,eval (.Name x p2) X.env)]:=by rfl) (hpl:(zbf6 pos (zba7 [Expr.Name x p2] X.env)).any (·.1)=false:=by rfl) :
  PE X (.Call (.Name "isinstance" p) [a,.Name x p2] [] pos) (dE X.K F (dIsi T fa)):=by
 have rule:zq7 X (.builtin "isinstance") (fun xs H Q => ∃v d,xs=[v,.ty T]∧Rep X.K H d v∧Q (.bl (isiT d T)) H):=by
  intro pins s σ H xs us Q I r h
  obtain⟨v,d,rfl,rp,hq⟩:=h
  obtain⟨u,w',rfl,r1,r2⟩:=vals2 r
  cases (show w'=Value.type T from r2)
  have fin:∀tk,EP X pins σ Q (.bool (isiT d T)) { s with toks:=tk }:=fun tk=>⟨.bl _,H,I.tok tk,rfl,hq⟩
  have e:=ok d
  cases rp with
  |non=>cases (show u=Value.none from r1);exact zbf0 PySem.W.kitx_none I.kIn True.intro e (fun z=>nomatch z) fin
  |bl y=>cases (show u=Value.bool y from r1);exact zbf0 PySem.W.kitx_bool I.kIn True.intro e (fun z=>nomatch z) fin
  |int i=>obtain⟨t,q⟩:=(show ∃t,u=Value.int i t from r1);cases q;exact zbf0 PySem.W.kitx_int I.kIn True.intro e (fun z=>nomatch z) fin
  |str y=>obtain⟨t,q⟩:=(show ∃t,u=Value.str y t from r1);cases q;exact zbf0 PySem.W.kitx_str I.kIn True.intro e (fun z=>nomatch z) fin
  |@tup _ p _ h1 h2 =>
   cases (show u=Value.ref p from r1)
   obtain⟨its,_,⟨o,e1,c1,_⟩,_⟩:=I.tuple h1
   exact zbf0 PySem.W.kitx_tuple I.kIn ⟨o,e1,c1⟩ e (fun z=>nomatch z) fin
  |@lst _ p _ h1 h2 =>
   cases (show u=Value.ref p from r1)
   obtain⟨its,_,⟨o,n,e1,c1,_⟩,_⟩:=I.list h1
   exact zbf0 PySem.W.kitx_list I.kIn ⟨o,e1,c1⟩ e (fun z=>nomatch z) fin
  |@dct _ _ p _ _ h1 h2 =>
   cases (show u=Value.ref p from r1)
   exact zbf0 zbo2 I.kIn (zt2 I h1) e (fun z=>nomatch z) fin
  |@pdc _ p h1 =>
   cases (show u=Value.ref p from r1)
   exact zbf0 zbo2 I.kIn (zr9 I h1) e (fun z=>nomatch z) fin
 refine PE.imp (pe_callB rule hg hm boot_isinstance (zh4 ha (zh4 (pe_bltn (v:=.ty T) hgT hmT hvT rfl hnT hdT) zm3 he2) he) (by decide) (by decide) he hpl) ?_
 rintro σ H Q ⟨A,t,r,R,e,h⟩
 unfold dIsi at e
 cases e1:fa t with
 |none=>rw [e1]at e;cases e
 |some r1 =>
  rw [e1]at e
  cases e
  exact⟨A,t,r1,R,e1,fun v H' gs q=>⟨v,r1.d,rfl,q.full,h _ H' gs (.bl _)⟩⟩
end
def zu7 (N:List Str) (ds:List D):Th:=ds.map Sl.val++zbb1 (N.length - ds.length) Sl.no
theorem RSl.no_all {K:zay3}{H0 H:Hp}:∀n,RSl K H0 H (zbb1 n Sl.no) (zbb1 n none) []
 |0=>.nil
 |n+1=>.no (RSl.no_all n)
theorem RSl.start {K:zay3}{H0 H:Hp}{t:Th}{σ:L2.St} (r0:RSl K H0 H t σ []):∀ {ds:List D}{vs:List V},Reps K H0 ds vs→RSl K H0 H (ds.map Sl.val++t) (vs.map some++σ) []
 |_,_,.nil=>r0
 |_,_,.cons h r=>.val h (RSl.start r0 r)
def zi9:Out→Option Ev
 |.rt r=>some r
 |.nx _=>some (.cl .non)
 |_=>none
theorem zh7 {P:Program}{w:World}{K:zay3}{mg:Str→Option Value}{base:BHeap}{x qual:Str}{st:Stmt}{f:Addr}{fd:FuncData}{N ps:List Str}{k:Nat}{G:List D→Option Ev} (Fn:L2.Fun K x qual st f fd) (S:FnScope N ps (zb0 st))
  (hlen:∀ds r,G ds=some r→ds.length=ps.length) (g:DS) (hG:∀ds r,G ds=some r→∃o,g (zu7 N ds)=some o∧zi9 o=some r)
  (hbody:∀(cdv:Value) (A:Around) (outer:List Env) (s:zaz5) (H:Hp) (E:XK) (F:List Addr),Room k (A.deeper (envOfC qual (zb0 st) s.heap.objs.size f cdv)) →
   PSs (cxOf CX0 P w K mg base N qual (zb0 st) f cdv A outer s H E).nox (zh9 st) (dS K F g)):FnOk P w K mg base CX0 (k+1) f fd ps (spD K G):=by
 refine Fn.ok S (fun vs H Q E h=>?_) (fun cdv A outer s H vs Q E hr h=>?_)
 ·obtain⟨Fo,ds,r,_,hr,hg,_⟩:=h
  rw [hr.length];exact hlen ds r hg
 ·obtain⟨Fo,ds,r,hl,hr',hg,cont⟩:=h
  obtain⟨o,ho,hoe⟩:=hG ds r hg
  refine⟨_,hbody cdv A outer s H E Fo hr,dS_mk (A:=[]) (t:=zu7 N ds) ⟨hl,zbf4,fun p hp=>(by cases hp),?_⟩ ho ?_⟩
  ·unfold zu7 L2.start
   rw [hr'.length]
   exact RSl.start (RSl.no_all _) hr'
  ·have sm:∀ {A' H'},Gr [] H A' H'→Same H H':=fun g b o q=>g.kp b o (by simp) q
   cases o with
   |nx t' =>
    cases hoe
    exact fun σ' H' A' g' R'=>cont .non H' (sm g') .non
   |bk t'=>cases hoe
   |ct t'=>cases hoe
   |rt r' =>
    cases hoe
    intro v H' A' g' q
    refine cont v H' (sm g') ?_
    cases r with
    |cl d=>exact q
    |tm d=>exact q
    |nw xs =>
     obtain⟨p,vs',rfl,h1,h2,h3,h4⟩:=q
     rcases h1 with h1 | h1
     ·cases h1
     ·exact⟨p,vs',rfl,h1,h3,h4⟩
    |dn d =>
     obtain⟨B,h1,h2,h3⟩:=q
     exact⟨B,h1,fun b hb=>by rcases (h2 b hb).1 with z | z;cases z;exact z,h3⟩
end DL
namespace DL
open PySem.Spec L2
structure Cal (P:Program) (w:World) (K:zay3) (mg:Str→Option Value) (base:BHeap) (x:Str) (k:Nat) (G:List D→Option Ev):Prop where
 ex:∃(a:Addr) (fd:FuncData) (ps:List Str),mg x=some (.ref a)∧zbd9 K (.ref a)=true∧L2.Binds K fd ps []∧FnOk P w K mg base CX0 k a fd ps (spD K G)
section
variable {X:Cx}{F:List Addr}{a b c:Expr}{es:List Expr}{fa fb fc:DE}{ga:DA}{pos:Pos}
theorem za8 {k:Nat}{G:List D→Option Ev}{x:Str}{p:Pos} (c:Cal X.prog X.w X.K X.mg X.base x k G) (hr:Room k X.A) (ha:PA X (a::es) (dA X.K F ga)) (hg:Gl X x:=by rfl) (hdb:(x ==("__debug__":Str))=false:=by decide)
  (he:zba7 (a::es) X.env=(false,eval a X.env)::zba7 es X.env:=by rfl) (hpl:(zbf6 pos (zba7 es X.env)).any (·.1)=false:=by rfl):PE X (.Call (.Name x p) (a::es) [] pos) (dE X.K F (dT1 (zb2 G) ga)):=by
 obtain⟨f,fd,ps,h1,h2,h3,h4⟩:=c.ex
 exact ped_call h4 hr hg h1 h2 h3 ha hdb he hpl
end
structure Df (K:zay3) (mg:Str→Option Value) (x:Str) (st:Stmt) (ps:List Str) (a:Addr) (fd:FuncData):Prop where
 fn:L2.Fun K x x st a fd
 mgx:mg x=some (.ref a)
 bd:L2.Binds K fd ps []
theorem Df.cal {P:Program}{w:World}{K:zay3}{mg:Str→Option Value}{base:BHeap}{x:Str}{st:Stmt}{ps:List Str}{a:Addr}{fd:FuncData}{k:Nat}{G:List D→Option Ev} (d:Df K mg x st ps a fd) (h:FnOk P w K mg base CX0 k a fd ps (spD K G)):Cal P w K mg base x k G :=
 ⟨a,fd,ps,d.mgx,d.fn.kp,d.bd,h⟩
theorem isi_int {K:zay3}:zao6 K "int":=fun d=>by cases d<;>rfl
theorem isi_bool {K:zay3}:zao6 K "bool":=fun d=>by cases d<;>rfl
theorem zac1 {K:zay3}:zao6 K "tuple":=fun d=>by cases d<;>rfl
theorem isi_list {K:zay3}:zao6 K "list":=fun d=>by cases d<;>rfl
theorem isi_str {K:zay3}:zao6 K "str":=fun d=>by cases d<;>rfl
theorem bt_int:bootBuiltins "int"=some (.type "int"):=by decide +kernel
theorem bt_bool:bootBuiltins "bool"=some (.type "bool"):=by decide +kernel
theorem zal8:bootBuiltins "tuple"=some (.type "tuple"):=by decide +kernel
theorem zax3:bootBuiltins "list"=some (.type "list"):=by decide +kernel
theorem zal9:bootBuiltins "str"=some (.type "str"):=by decide +kernel
end DL
namespace DL
open PySem.Spec L2
theorem cut1 {n:Nat}:∀ {us:List Value},us.length=n+1→∃a t,us=a::t∧t.length=n
 |a::t,h=>⟨a,t,rfl,Nat.succ.inj h⟩
theorem zt6 {K:zay3}{x qual:Str}{st:Stmt}{f:Addr}{fd:FuncData}{p0:Str} (F:L2.Fun K x qual st f fd) (h:∀(kV doc pm:Value) (an:Option Addr) (cdv ct:Value),∀a0:Value,bindArgs (zbe9 x qual (zj9 st) (zh9 st) (zb0 st) .none kV doc pm an cdv ct) ⟨[a0],[]⟩=pure [(p0,a0)]):Binds K fd [p0] [] :=
 F.binds fun kV doc pm an cdv ct u0 h0=>by
  obtain⟨a0,u1,rfl,h1⟩:=cut1 h0
  cases zbf9.mp h1
  exact h kV doc pm an cdv ct a0
theorem zt5 {K:zay3}{x qual:Str}{st:Stmt}{f:Addr}{fd:FuncData}{p0 p1:Str} (F:L2.Fun K x qual st f fd) (h:∀(kV doc pm:Value) (an:Option Addr) (cdv ct:Value),∀a0 a1:Value,bindArgs (zbe9 x qual (zj9 st) (zh9 st) (zb0 st) .none kV doc pm an cdv ct) ⟨[a0,a1],[]⟩=pure [(p0,a0),(p1,a1)]):Binds K fd [p0,p1] [] :=
 F.binds fun kV doc pm an cdv ct u0 h0=>by
  obtain⟨a0,u1,rfl,h1⟩:=cut1 h0
  obtain⟨a1,u2,rfl,h2⟩:=cut1 h1
  cases zbf9.mp h2
  exact h kV doc pm an cdv ct a0 a1
theorem binds3 {K:zay3}{x qual:Str}{st:Stmt}{f:Addr}{fd:FuncData}{p0 p1 p2:Str} (F:L2.Fun K x qual st f fd) (h:∀(kV doc pm:Value) (an:Option Addr) (cdv ct:Value),∀a0 a1 a2:Value,bindArgs (zbe9 x qual (zj9 st) (zh9 st) (zb0 st) .none kV doc pm an cdv ct) ⟨[a0,a1,a2],[]⟩=pure [(p0,a0),(p1,a1),(p2,a2)]):Binds K fd [p0,p1,p2] [] :=
 F.binds fun kV doc pm an cdv ct u0 h0=>by
  obtain⟨a0,u1,rfl,h1⟩:=cut1 h0
  obtain⟨a1,u2,rfl,h2⟩:=cut1 h1
  obtain⟨a2,u3,rfl,h3⟩:=cut1 h2
  cases zbf9.mp h3
  exact h kV doc pm an cdv ct a0 a1 a2
inductive Hv (K:zay3) (x:Str) (st:Stmt) (f:Addr):Prop
 |mk {od an:Option Addr}{sl:Array (Option Value)}{oc kV dc pm cd ct:Value} (a:zbd3 K mainGlobals x=some (some (.ref f))) (l:K.lookup f=some ⟨oc,od,.func (zbe9 x x (zj9 st) (zh9 st) (zb0 st) .none kV dc pm an cd ct),sl⟩) (c:zbk4 K cd x=true) (k:zbd9 K (.ref f)=true):Hv K x st f
theorem Hv.fn {K:zay3}{x:Str}{st:Stmt}{f:Addr} (h:Hv K x st f):∃fd,L2.Fun K x x st f fd:=by
 cases h with
 |mk a l c k=>exact⟨_,fun_mk l c k⟩
theorem Hv.mg {K:zay3}{x:Str}{st:Stmt}{f:Addr}{hp:Heap}{mg:Str→Option Value} (h:Hv K x st f) (X:K.In hp) (G:hp.Ns mainGlobals mg):mg x=some (.ref f):=by
 cases h with
 |mk a l c k=>exact zbl9 X G a
theorem zl8 {N P:List Str}{sc:Scope} (h1:sc.kind=.function) (h2:sc.isCoroutine=false) (h3:sc.isGenerator=false) (h5:N.take P.length=P) (h:(decide N.Nodup&&(decide (∀x∈P,sc.names.lookup x=some .local∨sc.names.lookup x=some .cell)&&decide (∀y∈sc.names,y.2≠.free)))=true):FnScope N P sc:=by
 rw [zba6,zba6,decide_eq_true_eq,decide_eq_true_eq,decide_eq_true_eq]at h
 exact⟨h1,h2,h3,h.1,h5,h.2.1,h.2.2⟩
theorem Hv.bt {K:zay3}{x:Str}{st:Stmt}{f:Addr}{fd:FuncData}{p:Str} (F:L2.Fun K x x st f fd) (h:∀(kV doc pm:Value) (an:Option Addr) (cdv ct:Value) (v:Value),bindArgs (zbe9 x x (zj9 st) (zh9 st) (zb0 st) .none kV doc pm an cdv ct) ⟨[v],[]⟩=pure [(p,v)]) (s:zaz5) (v:Value):BindsTo s fd ⟨[v],[]⟩ [(p,v)]:=by
 obtain⟨oc,od,kV,doc,pm,an,cdv,ct,osl,rfl,lk,hcd⟩:=F.ex
 exact .of_eq (h ..)
def locB (sc:Scope) (x:Str):Bool:=match sc.names.lookup x with
 |some .local=>true
 |some .cell=>true
 |_=>false
theorem zb9 {sc:Scope}{x:Str} (h:locB sc x=true):L2.Loc sc x:=by
 unfold locB at h
 unfold L2.Loc
 cases e:sc.names.lookup x with
 |none=>rw [e]at h;cases h
 |some k=>rw [e]at h;cases k<;>first | exact .inl rfl | exact .inr rfl | cases h
end DL
namespace L2
open PySem.Spec
section
variable {X:Cx}{pins:List (Addr×Obj)}{σ:L2.St}{H:Hp}{s:zaz5}{h':Heap}
theorem Inv.turnedNew {t':Nat}{fp:List Addr}{a:Addr}{o:HO} (I:Inv X pins σ H s) (k:∀b u,b∉fp→s.heap.get? b=some u→h'.get? b=some u) (hf:∀b∈fp,FpOk X pins H b) (hp:s.heap.objs.size≤a)
  (new:ObjOk X.prog X.w (upd H a o) h' a o):Inv X pins σ (upd H a o) { s with heap:=h',toks:=t' }:=by
 have ha:H a=none:=I.hok.fresh hp
 have sm:∀b u,H b=some u→upd H a o b=some u:=fun b u e=>by rw [zb5 (fun z=>by rw [z,ha]at e;cases e)];exact e
 have nfp:∀b u,H b=some u→b∉fp:=fun b u e z=>by rw [(hf b z).1]at e;cases e
 refine I.step (g':=s.gens) (d':=s.drawn) (ch:=fp) (fun b hb=>?_) (fun b u _ _ hc e _=>k b u hc e) (fun b u _ _ hc e _=>⟨u.slots,k b u hc e⟩) (fun b u _ e n=>?_)
  (fun b u hc e=>⟨u,k b u hc e⟩) (fun b xs e=>sm b _ e) (fun b q u e=>sm b _ e) (fun b ps e=>sm b _ e) (fun m hm=>?_) (fun b u e=>?_) I.bare
 ·obtain⟨f0,f1,f2,f3,f4,f5⟩:=hf b hb
  exact⟨f3,f1,f4,f5⟩
 ·rw [zb5 (zbb9 (zba5 (zaz9 e) hp))];exact n
 ·obtain⟨q,es,ep,ho,r⟩:=hm
  exact⟨q,es,ep,k _ q (fun z=>(hf _ z).2.1 rfl) ho,r⟩
 ·by_cases z:b=a
  ·subst z
   rw [zb3]at e
   cases e
   exact new
  ·rw [zb5 z]at e
   refine (I.hok b u e).stay (fun c v hc q=>k c v ?_ q) (fun c q=>sm c _ q) (fun c xs q=>sm c _ q) fun c o u q=>sm c _ q
   rcases hc with w | w
   ·rw [w];exact nfp b u e
   ·exact nfp c _ w
theorem Inv.turnedL {t':Nat}{fp:List Addr} (I:Inv X pins σ H s) (k:∀b u,b∉fp→s.heap.get? b=some u→h'.get? b=some u) (hf:∀b∈fp,FpOk X pins H b):Inv X pins σ H { s with heap:=h',toks:=t' }:=by
 have nfp:∀b u,H b=some u→b∉fp:=fun b u e z=>by rw [(hf b z).1]at e;cases e
 refine I.step (g':=s.gens) (d':=s.drawn) (ch:=fp) (fun b hb=>?_) (fun b u _ _ hc e _=>k b u hc e) (fun b u _ _ hc e _=>⟨u.slots,k b u hc e⟩) (fun b u _ e n=>n)
  (fun b u hc e=>⟨u,k b u hc e⟩) (fun b xs e=>e) (fun b q u e=>e) (fun b ps e=>e) (fun m hm=>?_) (fun b u e=>?_) I.bare
 ·obtain⟨f0,f1,f2,f3,f4,f5⟩:=hf b hb
  exact⟨f3,f1,f4,f5⟩
 ·obtain⟨q,es,ep,ho,r⟩:=hm
  exact⟨q,es,ep,k _ q (fun z=>(hf _ z).2.1 rfl) ho,r⟩
 ·refine (I.hok b u e).stay (fun c v hc q=>k c v ?_ q) (fun c q=>q) (fun c xs q=>q) fun c o u q=>q
  rcases hc with w | w
  ·rw [w];exact nfp b u e
  ·exact nfp c _ w
end
noncomputable def Ite (K:zay3) (a:Addr):It :=
 ⟨fun i H => ∃xs x,SqL K H a xs∧xs[i]?=some x,fun i H x H' => ∃p v,H p=none∧x=.ref p∧H'=upd H p (.tup [.int i,v])∧∀xs,SqL K H a xs→xs[i]?=some v,fun i H => ∃xs,SqL K H a xs∧xs.length≤i⟩
def EnumAt (e it a:Addr) (i:Nat) (h:Heap):Prop:=(∃old,IsEnum h e it (i:Int) old)∧h.IsListIter it a i∧e≠it
theorem zap1 {P:Program}{w:World}{K:zay3}{elts:List Expr}{k:Nat}{pos:Pos} (a e it:Addr):Turn P w K (.Tuple elts k pos) (Ite K a) [e,it] e (EnumAt e it a) where
 mem:=by simp
 obj:=fun i h st b hb=>by
  obtain⟨⟨old,h1⟩,h2,_⟩:=st
  rcases (by simpa using hb:b=e∨b=it) with rfl | rfl
  ·exact⟨_,h1,fun v z=>by cases z⟩
  ·obtain⟨o,e1,c,d⟩:=h2
   exact⟨o,e1,fun v z=>by rw [d]at z;cases z⟩
 keep:=fun i h h' st kk=>by
  obtain⟨⟨old,h1⟩,h2,ne⟩:=st
  exact⟨⟨old,kk e (by simp) _ h1⟩,h2.at fun o q=>kk it (by simp) o q,ne⟩
 item:=by
  intro X hP hw hK hc i pins s σ H E I hf st hg
  subst hP hw hK
  obtain⟨xs,x,hq,hx⟩:=hg
  obtain⟨its,rv,p,hz⟩:=I.list hq
  obtain⟨u,hu,ru⟩:=rv.get hx
  obtain⟨⟨old,h1⟩,h2,ne⟩:=st
  refine wpAny_pyNext_enum_item h1 h2 p.isList (x:=u) (by simpa using hu) ne fun h1' heo hit1 ht1 hz1 hk1=>?_
  refine⟨_,rfl,wpAny_letOwnedTupleGo_enum heo fun h2' he2 hs2=>?_⟩
  replace hs2:Heap.SameBut e h1' h2':=hs2
  have es:e<s.heap.objs.size:=zaz9 h1
  have kp:∀b o,b∉[e,it]→s.heap.get? b=some o→h2'.get? b=some o:=fun b o nb q=>by
   have n1:b≠e:=fun z=>nb (by simp [z])
   have n2:b≠it:=fun z=>nb (by simp [z])
   exact (hs2.2 b n1).trans (hk1 b o n1 n2 q)
  have ht2:h2'.get? s.heap.objs.size=some { cls:=.type "tuple",data:=.seq #[.int i s.toks,u] }:=(hs2.2 _ (zbh5 es)).trans ht1
  have I2:Inv X pins σ (upd H s.heap.objs.size (.tup [.int i,x])) { s with heap:=h2',toks:=s.toks+1 }:=I.turnedNew (t':=s.toks+1) kp hf (zaz7 _)
   ⟨by show 2≤sizeLine;decide,[.int i s.toks,u],.cons ⟨_,rfl⟩ (.cons ru .nil),⟨_,ht2,rfl,_,rfl⟩⟩
  refine⟨.ref s.heap.objs.size,_,I2,rfl,⟨s.heap.objs.size,x,I.hok.fresh (zaz7 _),rfl,rfl,fun ys hy=>by rw [I.list_inj hy hq];exact hx⟩,⟨⟨u,?_⟩,?_,ne⟩,fun b hb=>?_⟩
  ·exact he2
  ·exact hit1.extBut hs2.extBut (Ne.symm ne)
  ·rw [zb5 (fun z=>?_)]
   ·exact (hf b hb).1
   ·rcases (by simpa using hb:b=e∨b=it) with w' |w'
    ·rw [← z,w']at es;exact absurd es (zbd1 _)
    ·obtain⟨o,e1,_⟩:=h2
     have:=zaz9 e1
     rw [← w',z]at this;exact absurd this (zbd1 _)
 done:=by
  intro X hP hw hK hc i pins s σ H E I hf st hg
  subst hP hw hK
  obtain⟨xs,hq,hx⟩:=hg
  obtain⟨its,rv,p,hz⟩:=I.list hq
  obtain⟨⟨old,h1⟩,h2,ne⟩:=st
  have hl:=rv.length
  refine wpAny_pyNext_enum_end (I.ok.hd hc) h1 h2 p.isList (by simp;lia) fun h' eb=>⟨rfl,I.turnedL (t':=s.toks) (fun b o nb q=>eb b o (fun z=>nb (by simp [z])) q) hf⟩
 self:=fun _ _ _ _ _ st h=>by
  obtain⟨⟨old,h1⟩,_,_⟩:=st
  exact wpAny_pyIter_enum h1 h
def iEnum (K:zay3) (tl:TE):TI:=fun σ H R=>tl σ H fun x H1 => ∃a,x=.ref a∧(∃xs,SqL K H1 a xs)∧R (Ite K a) H1
theorem zax4:bootBuiltins "enumerate"=some (.type "enumerate"):=by decide +kernel
theorem pi_enum {X:Cx}{l:Expr}{tl:TE}{elts:List Expr}{k:Nat}{tp p pos:Pos} (hg:Gl X "enumerate") (hm:X.mg "enumerate"=none) (hl:PE X l tl) (hs:zba7 [l] X.env=[(false,eval l X.env)]:=by rfl) :
  PI X (.Tuple elts k tp) (.Call (.Name "enumerate" p) [l] [] pos) (iEnum X.K tl):=by
 intro pins s σ H R I h
 refine Call_ (zs2 I hg hm zax4 (PyProof.Rows.callWith_type1 (thn ((zh4 hl zm3 hs) pos pins s σ H (fun vs H1=>match vs with | [x] => ∃a,x=.ref a∧(∃xs,SqL X.K H1 a xs)∧R (Ite X.K a) H1 | _=>False) I h) fun us s1 ⟨vs,H1,I1,r1,q1⟩=>?_) hs rfl))
 cases r1 with
 |nil=>exact q1.elim
 |@cons x u xr ur ru rr =>
  cases rr with
  |cons _ _=>exact q1.elim
  |nil =>
  obtain⟨a,rfl,⟨xs,hq⟩,q⟩:=q1
  cases ru
  obtain⟨its,rv,p,hz⟩:=I1.list hq
  refine call_enumerate_list p.isList fun h' he hit hz' hk=>?_
  have I2:Inv X pins σ H1 { s1 with heap:=h' }:=I1.kept (t':=s1.toks) hk
  refine wpAny_pyIter_enum he ?_
  refine⟨s1.heap.objs.size+1,[s1.heap.objs.size+1,s1.heap.objs.size],EnumAt (s1.heap.objs.size+1) s1.heap.objs.size a,Ite X.K a,H1,rfl,I2,zap1 a _ _,⟨⟨_,he⟩,hit,Nat.succ_ne_self _⟩,fun b hb=>?_,q⟩
  rcases (by simpa using hb:b=s1.heap.objs.size+1∨b=s1.heap.objs.size) with rfl | rfl
  ·exact I1.fpOk (zbn6 _) (I1.hok.fresh (zbn6 _))
  ·exact I1.fpOk (zaz7 _) (I1.hok.fresh (zaz7 _))
end L2
namespace DL
open PySem.Spec L2
def zp9 (i:Nat):List D→List D
 |[]=>[]
 |d::ds=>.tup [.int i,d]::zp9 (i+1) ds
theorem zh8:∀(i:Nat) (ds:List D),(zp9 i ds).length=ds.length
 |_,[]=>rfl
 |i,d::ds=>by simp [zp9,zh8 (i+1) ds]
theorem zt0:∀(i:Nat) (ds:List D) (j:Nat) (d:D),ds[j]?=some d→(zp9 i ds)[j]?=some (.tup [.int ((i+j:Nat):Int),d])
 |_,[],j,d,h=>by simp at h
 |i,e::ds,0,d,h=>by simp at h;subst h;simp [zp9]
 |i,e::ds,j+1,d,h=>by
  have:=zt0 (i+1) ds j d (by simpa using h)
  simp only [zp9,zbg0,this]
  rw [show i+1+j=i+(j+1) by lia]
noncomputable def zaw1 (k:D→Th→Option Th) (f:DE) (body:DS):DS:=fun t=>(f t).bind fun r=>match r.d with
 |.lst ds=>if r.ok then forD k body (zp9 0 ds) t else none
 |_=>none
section
variable {X:Cx}{F:List Addr}{a b c:Expr}{es:List Expr}{fa fb fc:DE}{g g1 g2:DS}{pos:Pos}{gt:TG}{kt:D→Th→Option Th}
theorem psd_enum {body:List Stmt}{elts:List Expr}{kk:Nat}{tp p1 p2:Pos} (hp:PassesOwn (model X.prog X.w) X.A X.env X.xe) (hc:X.calm=true) (hge:Gl X "enumerate") (hm:X.mg "enumerate"=none) (hl:PE X a (dE X.K F fa)) (hg:PG X (.Tuple elts kk tp) gt) (ht:TgOk X.K F gt kt) (hb:PSs X body (dS X.K F g))
  (hst:zba7 [a] X.env=[(false,eval a X.env)]:=by rfl) (hs:∀x,foldedSetIterable (.Call (.Name "enumerate" p1) [a] [] p2) X.env x=pure x:=by intro _;rfl):PS X (.For (.Tuple elts kk tp) (.Call (.Name "enumerate" p1) [a] [] p2) body [] pos) (dS X.K F (zaw1 kt fa g)):=by
 refine PS.imp (zaj6 hp hc (pi_enum hge hm hl hst) hg hb hs) ?_
 intro E σ H hh
 obtain⟨A,t,o,R,e,h⟩:=zav9 hh
 unfold zaw1 at e
 cases e1:fa t with
 |none=>rw [e1]at e;cases e
 |some r =>
  rw [e1]at e
  refine⟨A,t,r,R,e1,fun v H1 gs q=>?_⟩
  have e:(match r.d with
   |.lst ds=>if r.ok then forD kt g (zp9 0 ds) t else none
   |_=>none)=some o:=e
  split at e
  case h_2=>cases e
  rename_i ds z
  split at e
  case isFalse=>cases e
  rename_i ok
  have cl:=q.clean R.mu gs ok
  rw [z]at cl
  cases cl with
  |@lst _ p vs h1 h2 =>
   refine⟨p,rfl,⟨vs,SqL.mono (za7 _ _) h1⟩,?_⟩
   refine zr0 (fun A H=>SqL X.K (hide (A++F) H) p vs∧Reps X.K (hide (A++F) H) ds vs) ht (R.grow gs) e (h.back (Gr.of_same R.mu.left gs)) ⟨h1,h2⟩ (fun A H A' H' q gr=>⟨SqL.mono gr.same q.1,Reps.mono gr.same q.2⟩)
    (fun A H q=>⟨vs,SqL.mono (za7 _ _) q.1,by rw [h2.length,zh8];exact zaz7 _⟩) (fun A H i q hi=>?_) (fun A H i x H' q mu y hi=>?_)
   ·have hi':i<vs.length:=by rw [h2.length];rw [zh8]at hi;exact hi
    exact⟨vs,vs[i],SqL.mono (za7 _ _) q.1,zaz1 hi'⟩
   ·obtain⟨l,v,hl0,rfl,rfl,hv⟩:=y
    have zz:=hv vs (SqL.mono (za7 _ _) q.1)
    obtain⟨d,hd,rd⟩:=q.2.getV zz
    have sm:=zc2 (o:=HO.tup [.int i,v]) hl0
    refine⟨sm,_,zt0 0 ds i d hd,?_⟩
    rw [zbk7]
    exact .tup (SqT.of (zb1 zb3 (zc1 mu hl0))) (.cons (.int _) (.cons (Rep.mono (zc3 sm) rd) .nil))
end
end DL
namespace L2
open PySem.Spec
noncomputable def clOf (cells:List (Str×Addr)):List (Str×NameKind)→List (Str×Addr)→List (Str×Addr)
 |[],acc=>acc
 |(n,k)::r,acc=>if k == .free then clOf cells r ((n,(cells.lookup n).getD 0)::acc) else clOf cells r acc
theorem zn2 {cells:List (Str×Addr)}:∀ {names:List (Str×NameKind)}{acc:List (Str×Addr)}{x:Str}{c:Addr},(∀y∈names,y.2=.free→∃c,cells.lookup y.1=some c)→(clOf cells names acc).lookup x=some c→acc.lookup x=some c∨cells.lookup x=some c
 |[],acc,x,c,_,h=>.inl h
 |(n,k)::r,acc,x,c,hy,h=>by
  unfold clOf at h
  have hr:∀y∈r,y.2=.free→∃c,cells.lookup y.1=some c:=fun y h1=>hy y (zay5 _ h1)
  split at h
  ·rename_i hk
   rcases zn2 hr h with z | z
   ·rw [zbc0]at z
    split at z
    ·rename_i e
     have e:x=n:=by simpa using e
     obtain⟨c',hc'⟩:=hy (n,k) (zaz0 ..) (by simpa using hk)
     simp only [hc',zbp4]at z
     cases z
     rw [e];exact .inr hc'
    ·exact .inl z
   ·exact .inr z
  ·exact zn2 hr h
theorem zt4 {cells:List (Str×Addr)}:∀ {names:List (Str×NameKind)}{acc:List (Str×Addr)}{x:Str},(∃c,acc.lookup x=some c)→∃c,(clOf cells names acc).lookup x=some c
 |[],acc,x,h=>h
 |(n,k)::r,acc,x,h=>by
  unfold clOf
  split
  ·refine zt4 ?_
   rw [zbc0]
   split
   ·exact⟨_,rfl⟩
   ·exact h
  ·exact zt4 h
theorem zr2 {cells:List (Str×Addr)}:∀ {names:List (Str×NameKind)}{acc:List (Str×Addr)}{x:Str},(x,NameKind.free)∈names→∃c,(clOf cells names acc).lookup x=some c
 |(n,k)::r,acc,x,h=>by
  unfold clOf
  rcases zaz2.mp h with z | z
  ·cases z
   rw [if_pos (by rfl)]
   refine zt4 ⟨(cells.lookup n).getD 0,?_⟩
   simp [zbc0]
  ·split
   ·exact zr2 z
   ·exact zr2 z
theorem zv7 {scope:Scope}{env:Env} (h:∀y∈scope.names,y.2=.free→∃c,env.cells.lookup y.1=some c):closureFor scope env=pure (clOf env.cells scope.names []):=by
 unfold closureFor
 have key:∀(names:List (Str×NameKind)) (acc:List (Str×Addr)),(∀y∈names,y.2=.free→∃c,env.cells.lookup y.1=some c) →
   (forIn names acc fun (x:Str×NameKind) (cs:List (Str×Addr))=>(do
    if x.2 == .free then
     let a ← cellOf env x.1
     pure (ForInStep.yield ((x.1,a)::cs))
    else pure (ForInStep.yield cs):Sem (ForInStep (List (Str×Addr)))))=pure (clOf env.cells names acc):=by
  intro names
  induction names with
  |nil=>intro acc _;rfl
  |cons y r ih =>
   intro acc hy
   obtain⟨n,k⟩:=y
   have hr:∀y∈r,y.2=.free→∃c,env.cells.lookup y.1=some c:=fun y h1=>hy y (zay5 _ h1)
   rw [List.forIn_cons]
   unfold clOf
   by_cases hk:(k == NameKind.free)=true
   ·obtain⟨c,hc⟩:=hy (n,k) (zaz0 ..) (by simpa using hk)
    have hc':cellOf env n=pure c:=by unfold cellOf;rw [hc]
    simp only [hk,if_true,hc']
    rw [← ih _ hr]
    simp only [hc,zbp4]
    rfl
   ·have hk':(k == NameKind.free)=false:=by simpa using hk
    simp only [hk',zbb4,if_false]
    rw [← ih _ hr]
    rfl
 have:=key scope.names [] h
 simp only [bind_pure_comp]at this ⊢
 rw [this]
 rfl
theorem ze7 {env:Env}:∀ {names:List (Str×NameKind)}{x:Str}{k':NameKind},(names.map fun (n,k)=>if (k == NameKind.free&&env.scope.kind == .function&&env.kindOf n == some .cell) then (n,NameKind.cell) else (n,k)).lookup x=some k' →
  ∃k,(x,k)∈names∧(k'=k∨(k=.free∧k'=.cell))
 |[],x,k',h=>by simp at h
 |(n,k)::r,x,k',h=>by
  rw [zba2]at h
  by_cases hc:(k == NameKind.free&&env.scope.kind == .function&&env.kindOf n == some .cell)=true
  ·simp only [hc,if_true,zbc0]at h
   split at h
   ·rename_i e
    have e:x=n:=by simpa using e
    cases h
    simp only [zba6,beq_iff_eq]at hc
    have hk:k=.free:=by simpa using hc.1.1
    exact⟨k,by rw [e];exact zaz0 ..,.inr ⟨hk,rfl⟩⟩
   ·obtain⟨q,a,b⟩:=ze7 h
    exact⟨q,zay5 _ a,b⟩
  ·have hc':(k == NameKind.free&&env.scope.kind == .function&&env.kindOf n == some .cell)=false:=by simpa using hc
   simp only [hc',zbb4,if_false,zbc0]at h
   split at h
   ·rename_i e
    have e:x=n:=by simpa using e
    cases h
    exact⟨_,by rw [e];exact zaz0 ..,.inl rfl⟩
   ·obtain⟨q,a,b⟩:=ze7 h
    exact⟨q,zay5 _ a,b⟩
theorem zq6 {prog:Program}{w:World}{A:Around}{R:Result→zaz5→Prop}{s:zaz5}{elt target iter:Expr}{ifs:List Expr}{scope:Scope}{pos:Pos}{it acc:Value}{env:Env} (I:Nat→zaz5→Prop)
  (turn:∀n s,I n s→wpAny (model prog w) A (pyNext it) (fun r s₁=>match r with
   |none=>R (.ok .next) s₁
   |some v=>wpAny (model prog w) A (letOwnedTupleGo target it v) (fun _ s₁'=>wpAny (model prog w) A (assign target env v) (fun _ s₂ =>
     wpAny (model prog w) A (forIn ifs true fun c r=>if r=true then do let ok ← isTrue c env (eval c env);pure (ForInStep.yield ok) else pure (ForInStep.yield r)) (fun ok s₃ =>
      if ok=true then wpAny (model prog w) A (eval elt env) (fun x s₄ =>
       wpAny (model prog w) A (call (.builtin "list.append") [acc,x]) (fun _ s₅ => ∃m,m<n∧I m s₅) (fun _ _=>False) s₄) (fun _ _=>False) s₃
      else ∃m,m<n∧I m s₃) (fun _ _=>False) s₂) (fun _ _=>False) s₁') (fun _ _=>False) s₁) (fun _ _=>False) s)
  (n:Nat) (h:I n s):codeAny (model prog w) A (.compLoop (.ListComp elt [⟨target,iter,ifs,0⟩] scope pos) 0 it acc env) R s:=by
 refine codeAny_loop rfl I (fun n s hI=>?_) n h
 show wpAny _ A ((compTurn (.ListComp elt [⟨target,iter,ifs,0⟩] scope pos) 0 it acc env).onRaise (fun x=>do noteFrame x env;theTreesLotGoes x)) _ _ s
 refine wpAny_noted ?_
 rw [compTurn_list]
 refine zay9 (wpAny_standAt (zay9 (wpAny_mono (turn n s hI) (fun r s₁ h₁=>?_) fun _ _ h'=>h'.elim)))
 cases r with
 |none=>exact zba0 h₁
 |some v =>
  refine zay9 (wpAny_mono h₁ (fun _ s₁' h₁'=>?_) fun _ _ h'=>h'.elim)
  refine zay9 (wpAny_mono h₁' (fun _ s₂ h₂=>zay9 (wpAny_mono h₂ (fun ok s₃ h₃=>?_) fun _ _ h'=>h'.elim)) fun _ _ h'=>h'.elim)
  cases ok with
  |false=>exact zba0 ⟨rfl,h₃⟩
  |true =>
   exact zay9 (zay9 (wpAny_mono h₃ (fun x s₄ h₄=>zay9 (wpAny_mono h₄ (fun _ s₅ h₅=>zba0 (zba0 ⟨rfl,h₅⟩)) fun _ _ h'=>h'.elim)) fun _ _ h'=>h'.elim))
theorem zy0 {x:Str}{c:Addr}:∀ {names:List (Str×NameKind)}{n:Nat}{acc:List (Str×Addr)},(cellsFrom n names acc).lookup x=some c→acc.lookup x=some c∨n≤c
 |[],n,acc,h=>.inl h
 |(y,k)::r,n,acc,h=>by
  unfold cellsFrom at h
  split at h
  ·rcases zy0 h with z | z
   ·rw [zbc0]at z
    split at z
    ·cases z;exact .inr (zaz7 _)
    ·exact .inl z
   ·exact .inr (by lia)
  ·exact zy0 h
theorem zal2 {x:Str}:∀ {names:List (Str×NameKind)}{n:Nat}{acc:List (Str×Addr)},(∃c,acc.lookup x=some c)→∃c,(cellsFrom n names acc).lookup x=some c
 |[],n,acc,h=>h
 |(y,k)::r,n,acc,h=>by
  unfold cellsFrom
  split
  ·refine zal2 ?_
   rw [zbc0]
   split
   ·exact⟨_,rfl⟩
   ·exact h
  ·exact zal2 h
theorem zah4 {x:Str}:∀ {names:List (Str×NameKind)}{n:Nat}{acc:List (Str×Addr)},(x,NameKind.cell)∈names→∃c,(cellsFrom n names acc).lookup x=some c
 |(y,k)::r,n,acc,h=>by
  unfold cellsFrom
  rcases zaz2.mp h with z | z
  ·cases z
   rw [if_pos (by rfl)]
   exact zal2 ⟨n,by simp [zbc0]⟩
  ·split
   ·exact zah4 z
   ·exact zah4 z
theorem cf_ge {x:Str}{c:Addr}{lo:Nat}:∀ {names:List (Str×NameKind)}{n:Nat}{acc:List (Str×Addr)},lo≤n→(∀c,acc.lookup x=some c→lo≤c)→(cellsFrom n names acc).lookup x=some c→lo≤c
 |[],n,acc,_,ha,h=>ha c h
 |(y,k)::r,n,acc,hn,ha,h=>by
  unfold cellsFrom at h
  split at h
  ·refine cf_ge (n:=n+1) (by lia) (fun c' h'=>?_) h
   rw [zbc0]at h'
   split at h'
   ·cases h';exact hn
   ·exact ha c' h'
  ·exact cf_ge hn ha h
theorem zaw5 {x:Str}{c:Addr}:∀ {names:List (Str×NameKind)}{n:Nat}{acc:List (Str×Addr)},(x,NameKind.cell)∈names→(cellsFrom n names acc).lookup x=some c→n≤c
 |(y,k)::r,n,acc,hm,h=>by
  unfold cellsFrom at h
  rcases zaz2.mp hm with z | z
  ·cases z
   rw [if_pos (by rfl)]at h
   refine cf_ge (lo:=n) (n:=n+1) (by lia) (fun c' h'=>?_) h
   rw [zbc0,beq_self_eq_true]at h'
   cases h'
   exact zaz7 _
  ·split at h
   ·have:=zaw5 z h;lia
   ·exact zaw5 z h
theorem zaw4 {x:Str}:∀ {names:List (Str×NameKind)}{n:Nat}{acc:List (Str×Addr)},(x,NameKind.cell)∉names→(cellsFrom n names acc).lookup x=acc.lookup x
 |[],n,acc,_=>rfl
 |(y,k)::r,n,acc,h=>by
  have hr:(x,NameKind.cell)∉r:=fun z=>h (zay5 _ z)
  unfold cellsFrom
  split
  ·rename_i hk
   rw [zaw4 hr,zbc0]
   split
   ·rename_i e
    exact absurd (zaz2.mpr (.inl (by rw [show x=y by simpa using e,show k=NameKind.cell by simpa using hk]))) h
   ·rfl
  ·exact zaw4 hr
theorem zaw6:∀ {names:List (Str×NameKind)}{n:Nat}{acc:List (Str×Addr)},(∀x c,acc.lookup x=some c→c<n)→(∀x y c,acc.lookup x=some c→acc.lookup y=some c→x=y) →
  ∀x y c,(cellsFrom n names acc).lookup x=some c→(cellsFrom n names acc).lookup y=some c→x=y
 |[],n,acc,_,hi=>hi
 |(z,k)::r,n,acc,hb,hi=>by
  unfold cellsFrom
  split
  ·refine zaw6 (n:=n+1) (fun x c h=>?_) (fun x y c h1 h2=>?_)
   ·rw [zbc0]at h
    split at h
    ·cases h;exact zbl8 _
    ·exact zbi4 (hb x c h)
   ·rw [zbc0]at h1 h2
    split at h1
    ·rename_i e1
     cases h1
     split at h2
     ·rename_i e2;rw [show x=z by simpa using e1,show y=z by simpa using e2]
     ·exact absurd (hb y _ h2) (zbd1 _)
    ·split at h2
     ·cases h2;exact absurd (hb x _ h1) (zbd1 _)
     ·exact hi x y c h1 h2
  ·exact zaw6 hb hi
theorem zah5 {x:Str}{c:Addr}:∀ {names:List (Str×NameKind)}{h:Heap}{acc:List (Str×Addr)},(∀c,acc.lookup x=some c→∃v,h.IsCell c v)→(cellsFrom h.objs.size names acc).lookup x=some c→∃v,(pushCells h names).IsCell c v
 |[],h,acc,ha,e=>ha c e
 |(y,k)::r,h,acc,ha,e=>by
  unfold cellsFrom at e
  unfold pushCells
  split at e
  ·rename_i hk
   rw [if_pos hk]
   rw [show h.objs.size+1=(h.push { cls:=.type "cell",data:=.cell none }).objs.size from (zbi9 ..).symm]at e
   refine zah5 (fun c' e'=>?_) e
   rw [zbc0]at e'
   split at e'
   ·cases e';exact⟨none,_,zba8 _ rfl,rfl⟩
   ·obtain⟨v,z⟩:=ha c' e'
    exact⟨v,z.keeps fun b o q=>zay7 _ q⟩
  ·rename_i hk
   rw [if_neg hk]
   exact zah5 ha e
theorem zm1 {M:Model}{A:Around}{E:Value→zaz5→Prop}{s:zaz5}{scope:Scope}{globals:Addr}{cl:List (Str×Addr)}{qual:Str}{func:Option Addr}{code:Value}{env:Env}{builtins:Addr}{Q:Env→zaz5→Prop}
  (hQ:∀h',h'.Ns s.heap.objs.size (fun _=>none)→(∀b o,s.heap.get? b=some o→h'.get? b=some o)→(∀x c,(∀c,cl.lookup x=some c→∃v,s.heap.IsCell c v)→(cellsFrom (s.heap.objs.size+1) scope.names cl).lookup x=some c→∃v,h'.IsCell c v) →
   Q (newEnv scope s.heap.objs.size globals (cellsFrom (s.heap.objs.size+1) scope.names cl) qual func code (some env) builtins) { s with heap:=h',toks:=s.toks }) :
  wpAny M A (newFunctionEnv scope globals cl [] qual func code (some env) builtins) Q E s:=by
 simp only [newFunctionEnv,zbn5,if_true]
 refine zay9 (wpAny_alloc ?_)
 refine zay9 (wpAny_layCells _ (fun name kind cells=>by cases hkc:kind == NameKind.cell<;>simp [hkc]) _ _ _ _ ?_)
 have sz:(s.heap.push { cls:=.type "dict",data:=.dict #[] }).objs.size=s.heap.objs.size+1:=zbi9 ..
 rw [show ({ s with heap:=s.heap.push { cls:=.type "dict",data:=.dict #[] } }:zaz5).heap.objs.size=s.heap.objs.size+1 from sz]
 rw [List.forIn_nil]
 refine zay9 (zba0 (zba0 ?_))
 refine hQ _ ((Heap.Ns.new s.heap (.type "dict")).keeps (pushCells_keeps _ _)) (fun b o e=>pushCells_keeps _ _ b o (zay7 _ e)) fun x c ha e=>?_
 rw [← sz]at e
 exact zah5 (fun c' e'=>let ⟨v,z⟩:=ha c' e';⟨v,z.keeps fun b o q=>zay7 _ q⟩) e
noncomputable abbrev blk (X:Cx) (N':List Str) (scope:Scope) (C:Addr) (s₃:zaz5) (H₃:Hp) (fp:List Addr) (pins:List (Addr×Obj)):Cx :=
 { X with N:=N',s₀:=s₃,H₀:=H₃,env:=compEnvC scope (cellsFrom (C+1) scope.names (clOf X.env.cells scope.names [])) C X.env,outer:=X.stack,stack:=X.stack,ex:=fp,fn:=fun x=>scope.names.lookup x == some .cell,calm:=true,pn:=X.pn++pins,xe:=fun _ _=>False }
structure CompSc (X:Cx) (scope:Scope):Prop where
 kind:scope.kind=.function
 free:∀y∈scope.names,y.2=.free→X.env.kindOf y.1=some .cell∨X.env.kindOf y.1=some .free
 names:∀y∈scope.names,scope.names.lookup y.1=some y.2
section
variable {X:Cx}{pins:List (Addr×Obj)}{σ:L2.St}{H:Hp}{s:zaz5}{scope:Scope}{N':List Str}{fp:List Addr}
theorem CompSc.frees (S:CompSc X scope) (ok:X.Ok):∀y∈scope.names,y.2=.free→∃c,X.env.cells.lookup y.1=some c:=fun y hy hf=>ok.has y.1 (S.free y hy hf)
theorem CompSc.cells (S:CompSc X scope) (ok:X.Ok) {x:Str}{c:Addr} (h:(clOf X.env.cells scope.names []).lookup x=some c):X.env.cells.lookup x=some c:=by
 rcases zn2 (S.frees ok) h with z | z
 ·simp at z
 ·exact z
theorem CompSc.nc (S:CompSc X scope) {x:Str} (h:(x,NameKind.free)∈scope.names):(x,NameKind.cell)∉scope.names:=fun z=>by
 have w1:=S.names _ h
 have w2:=S.names _ z
 rw [show (x,NameKind.cell).1=(x,NameKind.free).1 from rfl,w1]at w2
 cases w2
theorem CompSc.cls (S:CompSc X scope) (I:Inv X pins σ H s) {x:Str}{c:Addr} (h:(clOf X.env.cells scope.names []).lookup x=some c):c<s.heap.objs.size:=by
 obtain⟨v,o,ho,_⟩:=I.cell x c (S.cells I.ok h)
 exact zaz9 ho
theorem CompSc.old (S:CompSc X scope) (I:Inv X pins σ H s) {x:Str}{c:Addr} (h:(cellsFrom (s.heap.objs.size+1) scope.names (clOf X.env.cells scope.names [])).lookup x=some c):X.env.cells.lookup x=some c∨s.heap.objs.size<c:=by
 rcases zy0 h with z | z
 ·exact .inl (S.cells I.ok z)
 ·exact .inr z
theorem blk_ok (I:Inv X pins σ H s) (S:CompSc X scope) (hc:X.calm=true) (hf:∀b∈fp,FpOk X pins H b) (hlt:∀b∈fp,b<s.heap.objs.size):(blk X N' scope s.heap.objs.size s H fp pins).Ok where
 mod:=I.ok.mod
 kind:=S.kind
 glob:=I.ok.glob
 blt:=I.ok.blt
 above:=zaz7 _
 inj:=zaw6 (fun x c h=>zbi4 (S.cls I h)) fun x y c h1 h2=>I.ok.inj x y c (S.cells I.ok h1) (S.cells I.ok h2)
 has:=fun x hx=>by
  have hx:(relabel scope X.env).names.lookup x=some .cell∨(relabel scope X.env).names.lookup x=some .free:=hx
  have:(x,NameKind.free)∈scope.names∨(x,NameKind.cell)∈scope.names:=by
   rcases hx with hx | hx
   ·obtain⟨k,a,b⟩:=ze7 hx
    rcases b with b | b
    ·rw [← b]at a;exact .inr a
    ·rw [b.1]at a;exact .inl a
   ·obtain⟨k,a,b⟩:=ze7 hx
    rcases b with b | b
    ·rw [← b]at a;exact .inl a
    ·cases b.2
  rcases this with z | z
  ·exact zal2 (zr2 z)
  ·exact zah4 z
 cab:=fun x c h e=>by
  have h:(scope.names.lookup x == some NameKind.cell)=true:=h
  have h:scope.names.lookup x=some .cell:=by simpa using h
  exact Nat.le_of_succ_le (zaw5 (PySem.mem_of_lookup h) e)
 hd:=fun _=>I.ok.hd hc
 frames:=I.ok.frames
 stk:=.inl rfl
 exf:=fun b hb=>⟨zbb9 (hlt b hb),fun x c h=>by
  rcases S.old I h with z | z
  ·exact (hf b hb).2.2.2.2.1 x c z
  ·exact zbh5 (zbh6 (hlt b hb) z)⟩
 bs:=fun b o e=>I.bs b o e
 bsz:=zbd7 I.ok.bsz I.sz
 noex:=fun b o e hb=>by
  rcases (hf b hb).2.2.2.1 with z | z
  ·exact I.ok.noex b o e z
  ·exact absurd (zba5 (zaz9 e) (zbd7 I.ok.bsz z)) (zbd1 _)
 exfs:=fun b hb z=>(zaz2.mp (I.stkSub b z)).elim (hf b hb).2.1 (hf b hb).2.2.1
 funs:=I.stack
 frf:=I.stkFree
 tabs:=fun p hp=>I.base.tbls _ _ (I.ok.tabs p hp)
theorem zax5 (I:Inv X pins σ H s) (S:CompSc X scope) (hc:X.calm=true) (hf:∀b∈fp,FpOk X pins H b) (hlt:∀b∈fp,b<s.heap.objs.size) {h1:Heap}{t1:Nat}{m:Str→Option Value}{σ':L2.St}
  (hns:h1.Ns s.heap.objs.size m) (hk:∀b o,s.heap.get? b=some o→h1.get? b=some o) (hcl:∀x c,(∀c,(clOf X.env.cells scope.names []).lookup x=some c→∃v,s.heap.IsCell c v)→(cellsFrom (s.heap.objs.size+1) scope.names (clOf X.env.cells scope.names [])).lookup x=some c→∃v,h1.IsCell c v) (hl:σ'.length=N'.length)
  (cap:∀(i:Nat) (x:Str) (v:V),N'[i]?=some x→σ'[i]?=some (some v)→(x,NameKind.free)∈scope.names∧∃j:Nat,X.N[j]?=some x∧σ[j]?=some (some v)) :
  Inv (blk X N' scope s.heap.objs.size s H fp pins) [] σ' H { s with heap:=h1,toks:=t1 } where
 ok:=blk_ok I S hc hf hlt
 os:=rfl
 bare:=I.bare
 base:=Un.kept hk
 loc:=⟨m,hns,fun i x v e1 e2 vs=>by
  obtain⟨hfree,j,j1,j2⟩:=cap i x v e1 e2
  obtain⟨m0,hn0,hl0⟩:=I.loc
  have vis:Vis X.env.scope x:=by
   rcases S.free _ hfree rfl with z | z
   ·exact .inr (.inl z)
   ·exact .inr (.inr z)
  obtain⟨u,r,l⟩:=hl0 j x v j1 j2 vis
  refine⟨u,r,?_⟩
  rcases l with ⟨k,_⟩ | ⟨k,c,e,z⟩
  ·exfalso
   rcases S.free _ hfree rfl with q | q
   ·rw [k]at q;cases q
   ·rw [k]at q;cases q
  ·obtain⟨c',hc'⟩:=zr2 (cells:=X.env.cells) (acc:=[]) hfree
   have e':=S.cells I.ok hc'
   rw [e]at e';cases e'
   refine .inr ⟨?_,c,by rw [show (blk X N' scope s.heap.objs.size s H fp pins).env.cells.lookup x=_ from zaw4 (S.nc hfree)];exact hc',?_⟩
   ·have vs:(relabel scope X.env).names.lookup x=some .local∨(relabel scope X.env).names.lookup x=some .cell∨(relabel scope X.env).names.lookup x=some .free:=vs
    rcases vs with q | q
    ·obtain⟨k2,a,b⟩:=ze7 q
     rcases b with b | b
     ·rw [← b]at a
      have w1:=S.names _ a
      have w2:=S.names _ hfree
      rw [show (x,NameKind.local).1=(x,NameKind.free).1 from rfl,w2]at w1
      cases w1
     ·cases b.2
    ·exact q
   ·obtain⟨o,ho,hd⟩:=z
    exact⟨o,hk _ _ ho,hd⟩⟩
 cell:=fun x c h=>hcl x c (fun c' h'=>I.cell x c' (S.cells I.ok h')) h
 free:=I.hok.fresh (zaz7 _)
 freeC:=fun x c h=>by
  rcases S.old I h with z | z
  ·exact I.freeC x c z
  ·exact I.hok.fresh (zbj2 z)
 pin:=fun p hp=>by
  have hp:p∈(X.pn++pins)++[]:=hp
  rw [zbe0]at hp
  obtain⟨a,b,c,d,e⟩:=I.pin p hp
  exact⟨hk _ _ a,b,zbb9 (zaz9 a),fun z=>(zaz2.mp (I.stkSub _ z)).elim c d,e⟩
 hok:=I.hok.kept hk
 len:=hl
theorem zam0 {H3 H':Hp}{s':zaz5}{h'':Heap}{σ':L2.St}{C:Addr}{pins':List (Addr×Obj)} (I:Inv X pins σ H3 s) (hf:∀b∈fp,FpOk X pins H3 b) (hC:C=s.heap.objs.size) (I':Inv (blk X N' scope C s H3 fp pins) pins' σ' H' s') (hb:Heap.SameBut C s'.heap h''):Inv X pins σ H' { s' with heap:=h'' }:=by
 subst hC
 have bs:Un (frs X.stack) fp H3 H' s.heap s'.heap:=I'.base
 have nC:∀b o,s.heap.get? b=some o→b≠s.heap.objs.size:=fun b o e=>zbb9 (zaz9 e)
 have tr:∀b,b≠s.heap.objs.size→h''.get? b=s'.heap.get? b:=fun b n=>hb.2 b n
 have u:Un (frs X.stack) fp H3 H' s.heap h'' :=
  ⟨fun b o e n h1 h2=>(tr b (nC b o e)).trans (bs.keep b o e n h1 h2),fun b o e n h1 h2=>by obtain⟨sl,q⟩:=bs.slot b o e n h1 h2;exact⟨sl,(tr b (nC b o e)).trans q⟩,bs.free,
   fun b o e h1=>by obtain⟨o',q⟩:=bs.there b o e h1;exact⟨o',(tr b (nC b o e)).trans q⟩,bs.tups,bs.frzs,bs.tbls⟩
 have cf:H' s.heap.objs.size=none:=I'.free
 have hok:HOk X.prog X.w H' h'':=fun b o e=>by
  have nb:b≠s.heap.objs.size:=fun z=>by rw [z,cf]at e;cases e
  refine (I'.hok b o e).stay (fun c v hc q=>(tr c ?_).trans q) (fun _ q=>q) (fun _ _ q=>q) fun _ _ _ q=>q
  rcases hc with w | w
  ·rw [w];exact nb
  ·exact fun z=>by rw [z,cf]at w;cases w
 obtain⟨h0,g0,d0,t0,o0⟩:=s'
 have e:o0=s.os:=I'.os
 subst e
 exact I.call (g':=g0) (t':=t0) (d':=d0) u hok I'.bare fun b hb'=>by
  obtain⟨f0,f1,f2,f3,f4,f5⟩:=hf b hb'
  exact⟨f3,f1,f4,f5⟩
end
end L2
namespace L2
open PySem.Spec
noncomputable def PTs (Y:Cx) (ifs:List Expr) (t:TT):Prop :=
 ∀(pins:List (Addr×Obj)) (s:zaz5) (σ:L2.St) (H:Hp) (Q:Bool→Hp→Prop),Inv Y pins σ H s→t σ H Q →
  wpAny (model Y.prog Y.w) Y.A (forIn ifs true fun c r=>if r=true then do let ok ← isTrue c Y.env (eval c Y.env);pure (ForInStep.yield ok) else pure (ForInStep.yield r)) (TP Y pins σ Q) Y.xe s
theorem pts_nil {Y:Cx}:PTs Y [] (fun _ H Q=>Q true H):=fun pins s σ H Q I h=>wpAny_tests_nil ⟨H,I,h⟩
def capV (n:Nat) (cap:List Nat) (σ:L2.St):L2.St:=zbb1 n none++cap.map fun j=>(σ[j]?).getD none
noncomputable def zap7 (n:Nat) (cap:List Nat) (wi:TI) (g:TG) (tt:TT) (te:TE):TE:=fun σ H Q=>wi σ H fun J H1 => ∀D,H1 D=none→∃W:Nat→Nat→L2.St→Hp→Prop,(∃m,W 0 m (capV n cap σ) (upd H1 D (.lst [])))∧∀i m σ' H',W i m σ' H' →
 (J.stop i H'∧Q (.ref D) H')∨(J.go i H'∧∃N:L2.St→Hp→Prop,(∀σ'' H'',N σ'' H''→∃m',m' < m∧W (i+1) m' σ'' H'')∧∀x H2,J.yld i H' x H2→g x σ' H2 fun σ2 H3=>tt σ2 H3 fun b H4 =>
  if b=true then te σ2 H4 fun v H5 => ∃vs,H5 D=some (.lst vs)∧vs.length<sizeLine∧N σ2 (upd H5 D (.lst (vs++[v]))) else N σ2 H4)
theorem pe_comp {X:Cx}{elt tg iter:Expr}{ifs:List Expr}{scope:Scope}{pos:Pos}{n:Nat}{cap:List Nat}{N':List Str}{wi:TI}{g:TG}{tt:TT}{te:TE} (S:CompSc X scope) (hc:X.calm=true) (hi:PI X tg iter wi)
  (hN:N'.length=n+cap.length) (hcap:∀(k:Nat) (j:Nat),cap[k]?=some j→∃x,N'[n+k]?=some x∧X.N[j]?=some x∧(x,NameKind.free)∈scope.names)
  (hg:∀C s₃ H₃ fp pins,PG (blk X N' scope C s₃ H₃ fp pins) tg g) (ht:∀C s₃ H₃ fp pins,PTs (blk X N' scope C s₃ H₃ fp pins) ifs tt) (he:∀C s₃ H₃ fp pins,PE (blk X N' scope C s₃ H₃ fp pins) elt te)
  (hs:∀x,foldedSetIterable iter X.env x=pure x:=by intro _;rfl):PE X (.ListComp elt [⟨tg,iter,ifs,0⟩] scope pos) (zap7 n cap wi g tt te):=by
 intro pins s σ H Q I h
 rw [eval_ListComp]
 refine wpAny_comprehension_free (use:=none) rfl hs (zv7 (S.frees I.ok)) S.kind (fun x hx hl=>by rw [S.names x hx,hl]) (thn (hi pins s σ H _ I h) fun v s1 h1=>thn h1 fun itv s2 h2=>?_)
 obtain⟨it,fp,tn,J,H2,e,I2,T,st2,f2,R⟩:=h2
 subst e
 have lt2:∀b∈fp,b<s2.heap.objs.size:=fun b hb=>by obtain⟨o,e,_⟩:=T.obj _ _ st2 b hb;exact zaz9 e
 have hD:H2 s2.heap.objs.size=none:=I2.fresh
 obtain⟨W,⟨m0,w0⟩,turn⟩:=R s2.heap.objs.size hD
 have I3:Inv X pins σ (upd H2 s2.heap.objs.size (.lst [])) { s2 with heap:=s2.heap.push { cls:=.type "list",data:=.seq ([]:List Value).toArray },toks:=s2.toks }:=I2.lnew (t':=s2.toks) .nil (by simp)
 have f3:∀b∈fp,FpOk X pins (upd H2 s2.heap.objs.size (.lst [])) b:=fun b hb=>⟨by rw [zb5 (zbb9 (lt2 b hb))];exact (f2 b hb).1,(f2 b hb).2⟩
 refine wpAny_newObj_type (zm1 fun h₁ hns₁ hk hcl₁=>?_)
 have lt3:∀b∈fp,b<(s2.heap.push { cls:=.type "list",data:=.seq ([]:List Value).toArray }).objs.size:=fun b hb=>by rw [zbi9];exact zbi4 (lt2 b hb)
 have I4:Inv (blk X N' scope (s2.heap.push { cls:=.type "list",data:=.seq ([]:List Value).toArray }).objs.size { s2 with heap:=s2.heap.push { cls:=.type "list",data:=.seq ([]:List Value).toArray },toks:=s2.toks } (upd H2 s2.heap.objs.size (.lst [])) fp pins) [] (capV n cap σ) (upd H2 s2.heap.objs.size (.lst [])) { s2 with heap:=h₁,toks:=s2.toks } :=
  zax5 I3 S hc f3 lt3 (t1:=s2.toks) hns₁ hk hcl₁ (by simp [capV,hN]) (fun i x v e1 e2=>by
   unfold capV at e2
   by_cases hi:i<n
   ·rw [zbc6 (by simpa using hi),zbh4]at e2
    split at e2<;>cases e2
   ·rw [zbc1 (by simpa using hi),zbi6,zbg7]at e2
    cases ej:cap[i - n]? with
    |none=>rw [ej]at e2;cases e2
    |some j =>
     rw [ej]at e2
     obtain⟨x',a1,a2,a3⟩:=hcap (i - n) j ej
     have:n+(i - n)=i:=by lia
     rw [this,e1]at a1
     cases a1
     refine⟨a3,j,a2,?_⟩
     have e2:(σ[j]?).getD none=some v:=by simpa using e2
     cases q:σ[j]? with
     |none=>rw [q]at e2;cases e2
     |some z=>rw [q]at e2;have:z=some v:=e2;rw [this])
 have loop:codeAny (model X.prog X.w) X.A (.compLoop (.ListComp elt [⟨tg,iter,ifs,0⟩] scope pos) 0 (.ref it) (.ref s2.heap.objs.size) (compEnvC scope (cellsFrom ((s2.heap.push { cls:=.type "list",data:=.seq ([]:List Value).toArray }).objs.size+1) scope.names (clOf X.env.cells scope.names [])) (s2.heap.push { cls:=.type "list",data:=.seq ([]:List Value).toArray }).objs.size X.env))
   (compPost (model X.prog X.w) X.A X.xe none (EP X pins σ Q) (.ref s2.heap.objs.size) (s2.heap.push { cls:=.type "list",data:=.seq ([]:List Value).toArray }).objs.size) { s2 with heap:=h₁,toks:=s2.toks }:=by
  generalize hY:(blk X N' scope (s2.heap.push { cls:=.type "list",data:=.seq ([]:List Value).toArray }).objs.size { s2 with heap:=s2.heap.push { cls:=.type "list",data:=.seq ([]:List Value).toArray },toks:=s2.toks } (upd H2 s2.heap.objs.size (.lst [])) fp pins)=Y at I4
  have st4:tn 0 h₁:=T.keep _ _ _ st2 fun b hb o e=>hk b o (zay7 _ e)
  have stat:∀ {H':Hp},(∀b∈fp,H' b=none)→∀b∈fp,FpOk Y [] H' b:=fun hn b hb=>by
   subst hY
   obtain⟨f0,f1,f2',f3',f4,f5⟩:=f3 b hb
   exact⟨hn b hb,zbb9 (lt3 b hb),fun z=>(zaz2.mp (I3.stkSub b z)).elim f1 f2',.inl hb,fun x c e=>(by
    rcases S.old I3 e with z | z
    ·exact f4 x c z
    ·exact zbh5 (zbh6 (lt3 b hb) z)),fun p hp=>f5 p (by simpa using hp)⟩
  have hgY:PG Y tg g:=hY ▸ hg _ _ _ _ _
  have htY:PTs Y ifs tt:=hY ▸ ht _ _ _ _ _
  have heY:PE Y elt te:=hY ▸ he _ _ _ _ _
  have yp:Y.prog=X.prog:=by subst hY;rfl
  have yw:Y.w=X.w:=by subst hY;rfl
  have yK:Y.K=X.K:=by subst hY;rfl
  have yA:Y.A=X.A:=by subst hY;rfl
  have yc:Y.calm=true:=by subst hY;rfl
  have yx:Y.xe=fun _ _=>False:=by subst hY;rfl
  have ye:Y.env=compEnvC scope (cellsFrom ((s2.heap.push { cls:=.type "list",data:=.seq ([]:List Value).toArray }).objs.size+1) scope.names (clOf X.env.cells scope.names [])) (s2.heap.push { cls:=.type "list",data:=.seq ([]:List Value).toArray }).objs.size X.env:=by subst hY;rfl
  rw [← ye]
  refine zq6 (fun n s' => ∃i σ' H',Inv Y [] σ' H' s'∧tn i s'.heap∧(∀b∈fp,H' b=none)∧W i n σ' H') ?_ m0 ⟨0,_,_,I4,st4,fun b hb=>(f3 b hb).1,w0⟩
  rintro n s3 ⟨i,σ3,H3,I5,st3,fr3,w3⟩
  rcases turn i n σ3 H3 w3 with ⟨stop,qn⟩ | ⟨go,N,hNN,step⟩
  ·have d:=T.done Y yp yw yK yc i [] s3 σ3 H3 (fun _ _=>False) I5 (stat fr3) st3 stop
   rw [yA]at d
   refine thn d fun r s4 ⟨hr,I6⟩=>?_
   subst hr
   obtain⟨m,hm,_⟩:=I6.loc
   rw [ye]at hm
   refine⟨m,hm,fun h' hb=>⟨.ref s2.heap.objs.size,H3,?_,rfl,qn⟩⟩
   subst hY
   exact zam0 I3 f3 rfl I6 hb
  ·have d:=T.item Y yp yw yK yc i [] s3 σ3 H3 (fun _ _=>False) I5 (stat fr3) st3 go
   rw [yA]at d
   refine thn d fun r s4 ⟨u,hr,h4⟩=>?_
   subst hr
   refine thn h4 fun _ s5 ⟨x,H5,I6,r5,y5,st5,fr5⟩=>?_
   have I6':=I6.pinned (stat fr5) (T.obj _ _ st5)
   have a:=hgY _ s5 σ3 H5 x u _ I6' r5 (step x H5 y5)
   rw [yp,yw,yA,yx]at a
   refine thn a fun _ s6 ⟨σ6,H6,I7,q6⟩=>?_
   have b:=htY _ s6 σ6 H6 _ I7 q6
   rw [yp,yw,yA,yx]at b
   refine thn b fun ok s7 ⟨H7,I8,q7⟩=>?_
   have again:∀ {s9:zaz5}{H9:Hp},Inv Y ([]++zq1 fp s5.heap) σ6 H9 s9→N σ6 H9→∃m,m<n∧∃i σ' H',Inv Y [] σ' H' s9∧tn i s9.heap∧(∀b∈fp,H' b=none)∧W i m σ' H':=fun {s9 H9} I9 n9=>by
    obtain⟨m',hm,w9⟩:=hNN σ6 H9 n9
    refine⟨m',hm,i+1,σ6,H9,I9.unpinned,T.keep _ _ _ st5 fun b hb o e=>(I9.pin (b,o) (zay4 _ (zay4 _ (zh2 hb e)))).1,fun b hb=>?_,w9⟩
    obtain⟨o,e,d⟩:=T.obj _ _ st5 b hb
    exact (I9.pin (b,o) (zay4 _ (zay4 _ (zh2 hb e)))).2.1
   cases ok with
   |false=>exact iteF (again I8 (by simpa using q7))
   |true =>
    rw [if_pos rfl]at q7
    refine iteT ?_
    have c:=heY _ s7 σ6 H7 _ I8 q7
    rw [yp,yw,yA,yx]at c
    refine thn c fun z s8 ⟨vz,H8,I9,r9,vs,hv,hl,n9⟩=>?_
    have ap:=zn9 (X:=Y) ([]++zq1 fp s5.heap) s8 σ6 H8 (.ref s2.heap.objs.size) [vz] (.ref s2.heap.objs.size) [z] (fun _ H9=>N σ6 H9) I9 rfl (.cons r9 .nil) ⟨_,vs,vz,rfl,rfl,hv,hl,n9⟩
    rw [yp,yw,yA,yx]at ap
    exact thn ap fun _ s9 ⟨_,H9,I10,_,n10⟩=>again I10 n10
 exact codeAny_compStart_list loop (T.self _ 0 _ _ _ (T.keep _ _ _ st2 fun b hb o e=>hk b o (zay7 _ e)) loop)
theorem ps_compU {X:Cx}{i₀:Nat}{y₀:Str}{py spos:Pos}{elt tg iter:Expr}{ifs:List Expr}{scope:Scope}{pos:Pos}{n:Nat}{cap:List Nat}{N':List Str}{wi:TI}{g:TG}{tt:TT}{te:TE} (S:CompSc X scope) (hc:X.calm=true) (hi:PI X tg iter wi)
  (hN:N'.length=n+cap.length) (hcap:∀(k:Nat) (j:Nat),cap[k]?=some j→∃x,N'[n+k]?=some x∧X.N[j]?=some x∧(x,NameKind.free)∈scope.names)
  (hg:∀C s₃ H₃ fp pins,PG (blk X N' scope C s₃ H₃ fp pins) tg g) (ht:∀C s₃ H₃ fp pins,PTs (blk X N' scope C s₃ H₃ fp pins) ifs tt) (he:∀C s₃ H₃ fp pins,PE (blk X N' scope C s₃ H₃ fp pins) elt te)
  (hNd:X.N.Nodup) (hi₀:X.N[i₀]?=some y₀) (hy:Loc X.env.scope y₀) (hsw:swapsWith (.ListComp elt [⟨tg,iter,ifs,0⟩] scope pos) (some (.Name y₀ py)) spos.line X.env=pure true) (hf:X.fn y₀=true∨X.env.scope.names.lookup y₀=some .local)
  (hs:∀x,foldedSetIterable iter X.env x=pure x:=by intro _;rfl):PS X (.Assign [.Name y₀ py] (.ListComp elt [⟨tg,iter,ifs,0⟩] scope pos) spos) (fun D σ H=>zap7 n cap wi g tt te σ H fun v H1=>D.nx (σ.set i₀ (some v)) H1):=by
 intro pins s σ H Ed I h
 rw [exec_Assign_Name_used y₀ py _ spos hsw]
 refine zay9 (wpAny_standAt (zay9 ?_))
 show wpAny (model X.prog X.w) X.A (comprehension (.ListComp elt [⟨tg,iter,ifs,0⟩] scope pos) scope X.env _ (newList []) false (eval iter X.env) (some (assign (.Name y₀ py) X.env)) >>= fun _=>pure ()) _ _ s
 refine zay9 (thn (Q:=fun _ s'=>SP X pins Ed .next s') ?_ fun _ s' hq=>zba0 (zba0 hq))
 refine wpAny_comprehension_free (use:=some (assign (.Name y₀ py) X.env)) rfl hs (zv7 (S.frees I.ok)) S.kind (fun x hx hl=>by rw [S.names x hx,hl]) (thn (hi pins s σ H _ I h) fun v s1 h1=>thn h1 fun itv s2 h2=>?_)
 obtain⟨it,fp,tn,J,H2,e,I2,T,st2,f2,R⟩:=h2
 subst e
 have lt2:∀b∈fp,b<s2.heap.objs.size:=fun b hb=>by obtain⟨o,e,_⟩:=T.obj _ _ st2 b hb;exact zaz9 e
 have hD:H2 s2.heap.objs.size=none:=I2.fresh
 obtain⟨W,⟨m0,w0⟩,turn⟩:=R s2.heap.objs.size hD
 have I3:Inv X pins σ (upd H2 s2.heap.objs.size (.lst [])) { s2 with heap:=s2.heap.push { cls:=.type "list",data:=.seq ([]:List Value).toArray },toks:=s2.toks }:=I2.lnew (t':=s2.toks) .nil (by simp)
 have f3:∀b∈fp,FpOk X pins (upd H2 s2.heap.objs.size (.lst [])) b:=fun b hb=>⟨by rw [zb5 (zbb9 (lt2 b hb))];exact (f2 b hb).1,(f2 b hb).2⟩
 refine wpAny_newObj_type (zm1 fun h₁ hns₁ hk hcl₁=>?_)
 have lt3:∀b∈fp,b<(s2.heap.push { cls:=.type "list",data:=.seq ([]:List Value).toArray }).objs.size:=fun b hb=>by rw [zbi9];exact zbi4 (lt2 b hb)
 have I4:Inv (blk X N' scope (s2.heap.push { cls:=.type "list",data:=.seq ([]:List Value).toArray }).objs.size { s2 with heap:=s2.heap.push { cls:=.type "list",data:=.seq ([]:List Value).toArray },toks:=s2.toks } (upd H2 s2.heap.objs.size (.lst [])) fp pins) [] (capV n cap σ) (upd H2 s2.heap.objs.size (.lst [])) { s2 with heap:=h₁,toks:=s2.toks } :=
  zax5 I3 S hc f3 lt3 (t1:=s2.toks) hns₁ hk hcl₁ (by simp [capV,hN]) (fun i x v e1 e2=>by
   unfold capV at e2
   by_cases hi:i<n
   ·rw [zbc6 (by simpa using hi),zbh4]at e2
    split at e2<;>cases e2
   ·rw [zbc1 (by simpa using hi),zbi6,zbg7]at e2
    cases ej:cap[i - n]? with
    |none=>rw [ej]at e2;cases e2
    |some j =>
     rw [ej]at e2
     obtain⟨x',a1,a2,a3⟩:=hcap (i - n) j ej
     have:n+(i - n)=i:=by lia
     rw [this,e1]at a1
     cases a1
     refine⟨a3,j,a2,?_⟩
     have e2:(σ[j]?).getD none=some v:=by simpa using e2
     cases q:σ[j]? with
     |none=>rw [q]at e2;cases e2
     |some z=>rw [q]at e2;have:z=some v:=e2;rw [this])
 have loop:codeAny (model X.prog X.w) X.A (.compLoop (.ListComp elt [⟨tg,iter,ifs,0⟩] scope pos) 0 (.ref it) (.ref s2.heap.objs.size) (compEnvC scope (cellsFrom ((s2.heap.push { cls:=.type "list",data:=.seq ([]:List Value).toArray }).objs.size+1) scope.names (clOf X.env.cells scope.names [])) (s2.heap.push { cls:=.type "list",data:=.seq ([]:List Value).toArray }).objs.size X.env))
   (compPost (model X.prog X.w) X.A X.xe (some (assign (.Name y₀ py) X.env)) (fun _ s'=>SP X pins Ed .next s') (.ref s2.heap.objs.size) (s2.heap.push { cls:=.type "list",data:=.seq ([]:List Value).toArray }).objs.size) { s2 with heap:=h₁,toks:=s2.toks }:=by
  generalize hY:(blk X N' scope (s2.heap.push { cls:=.type "list",data:=.seq ([]:List Value).toArray }).objs.size { s2 with heap:=s2.heap.push { cls:=.type "list",data:=.seq ([]:List Value).toArray },toks:=s2.toks } (upd H2 s2.heap.objs.size (.lst [])) fp pins)=Y at I4
  have st4:tn 0 h₁:=T.keep _ _ _ st2 fun b hb o e=>hk b o (zay7 _ e)
  have stat:∀ {H':Hp},(∀b∈fp,H' b=none)→∀b∈fp,FpOk Y [] H' b:=fun hn b hb=>by
   subst hY
   obtain⟨f0,f1,f2',f3',f4,f5⟩:=f3 b hb
   exact⟨hn b hb,zbb9 (lt3 b hb),fun z=>(zaz2.mp (I3.stkSub b z)).elim f1 f2',.inl hb,fun x c e=>(by
    rcases S.old I3 e with z | z
    ·exact f4 x c z
    ·exact zbh5 (zbh6 (lt3 b hb) z)),fun p hp=>f5 p (by simpa using hp)⟩
  have hgY:PG Y tg g:=hY ▸ hg _ _ _ _ _
  have htY:PTs Y ifs tt:=hY ▸ ht _ _ _ _ _
  have heY:PE Y elt te:=hY ▸ he _ _ _ _ _
  have yp:Y.prog=X.prog:=by subst hY;rfl
  have yw:Y.w=X.w:=by subst hY;rfl
  have yK:Y.K=X.K:=by subst hY;rfl
  have yA:Y.A=X.A:=by subst hY;rfl
  have yc:Y.calm=true:=by subst hY;rfl
  have yx:Y.xe=fun _ _=>False:=by subst hY;rfl
  have ye:Y.env=compEnvC scope (cellsFrom ((s2.heap.push { cls:=.type "list",data:=.seq ([]:List Value).toArray }).objs.size+1) scope.names (clOf X.env.cells scope.names [])) (s2.heap.push { cls:=.type "list",data:=.seq ([]:List Value).toArray }).objs.size X.env:=by subst hY;rfl
  rw [← ye]
  refine zq6 (fun n s' => ∃i σ' H',Inv Y [] σ' H' s'∧tn i s'.heap∧(∀b∈fp,H' b=none)∧W i n σ' H') ?_ m0 ⟨0,_,_,I4,st4,fun b hb=>(f3 b hb).1,w0⟩
  rintro n s3 ⟨i,σ3,H3,I5,st3,fr3,w3⟩
  rcases turn i n σ3 H3 w3 with ⟨stop,qn⟩ | ⟨go,N,hNN,step⟩
  ·have d:=T.done Y yp yw yK yc i [] s3 σ3 H3 (fun _ _=>False) I5 (stat fr3) st3 stop
   rw [yA]at d
   refine thn d fun r s4 ⟨hr,I6⟩=>?_
   subst hr
   obtain⟨m,hm,_⟩:=I6.loc
   rw [ye]at hm
   subst hY
   have IX:=zam0 I3 f3 rfl I6 (h'':=s4.heap) ⟨rfl,fun _ _=>rfl⟩
   have cf:H3 (s2.heap.push { cls:=.type "list",data:=.seq ([]:List Value).toArray }).objs.size=none:=I6.free
   have fC:FpOk X pins H3 (s2.heap.push { cls:=.type "list",data:=.seq ([]:List Value).toArray }).objs.size:=I3.fpOk (zaz7 _) cf
   obtain⟨c0,c1,c2,c3,c4,c5⟩:=fC
   refine wpAny_assign_Name (zz2 (s:=s4) IX hNd hi₀ hy (v:=.ref s2.heap.objs.size) rfl (fun s5 I7 ⟨a,sb,ha⟩=>?_) hf)
   have na:a≠(s2.heap.push { cls:=.type "list",data:=.seq ([]:List Value).toArray }).objs.size:=by
    rcases ha with z | z
    ·rw [z];exact fun w=>c1 w.symm
    ·exact c4 _ _ z
   refine⟨m,hm.sameBut sb (Ne.symm na),fun h' hb=>⟨_,H3,?_,qn⟩⟩
   exact I7.turned (t':=s5.toks) (fun b o n e=>(hb.2 b n).trans e) c0 c1 c3 c4 c5
  ·have d:=T.item Y yp yw yK yc i [] s3 σ3 H3 (fun _ _=>False) I5 (stat fr3) st3 go
   rw [yA]at d
   refine thn d fun r s4 ⟨u,hr,h4⟩=>?_
   subst hr
   refine thn h4 fun _ s5 ⟨x,H5,I6,r5,y5,st5,fr5⟩=>?_
   have I6':=I6.pinned (stat fr5) (T.obj _ _ st5)
   have a:=hgY _ s5 σ3 H5 x u _ I6' r5 (step x H5 y5)
   rw [yp,yw,yA,yx]at a
   refine thn a fun _ s6 ⟨σ6,H6,I7,q6⟩=>?_
   have b:=htY _ s6 σ6 H6 _ I7 q6
   rw [yp,yw,yA,yx]at b
   refine thn b fun ok s7 ⟨H7,I8,q7⟩=>?_
   have again:∀ {s9:zaz5}{H9:Hp},Inv Y ([]++zq1 fp s5.heap) σ6 H9 s9→N σ6 H9→∃m,m<n∧∃i σ' H',Inv Y [] σ' H' s9∧tn i s9.heap∧(∀b∈fp,H' b=none)∧W i m σ' H':=fun {s9 H9} I9 n9=>by
    obtain⟨m',hm,w9⟩:=hNN σ6 H9 n9
    refine⟨m',hm,i+1,σ6,H9,I9.unpinned,T.keep _ _ _ st5 fun b hb o e=>(I9.pin (b,o) (zay4 _ (zay4 _ (zh2 hb e)))).1,fun b hb=>?_,w9⟩
    obtain⟨o,e,d⟩:=T.obj _ _ st5 b hb
    exact (I9.pin (b,o) (zay4 _ (zay4 _ (zh2 hb e)))).2.1
   cases ok with
   |false=>exact iteF (again I8 (by simpa using q7))
   |true =>
    rw [if_pos rfl]at q7
    refine iteT ?_
    have c:=heY _ s7 σ6 H7 _ I8 q7
    rw [yp,yw,yA,yx]at c
    refine thn c fun z s8 ⟨vz,H8,I9,r9,vs,hv,hl,n9⟩=>?_
    have ap:=zn9 (X:=Y) ([]++zq1 fp s5.heap) s8 σ6 H8 (.ref s2.heap.objs.size) [vz] (.ref s2.heap.objs.size) [z] (fun _ H9=>N σ6 H9) I9 rfl (.cons r9 .nil) ⟨_,vs,vz,rfl,rfl,hv,hl,n9⟩
    rw [yp,yw,yA,yx]at ap
    exact thn ap fun _ s9 ⟨_,H9,I10,_,n10⟩=>again I10 n10
 exact codeAny_compStart_list loop (T.self _ 0 _ _ _ (T.keep _ _ _ st2 fun b hb o e=>hk b o (zay7 _ e)) loop)
end L2
namespace DL
open PySem.Spec L2
structure Src (K:zay3) (ds:List D) (J:It) (Good:List Addr→Hp→Prop):Prop where
 keep:∀P H P' H',Good P H→Same (hide P H) (hide P' H')→Good P' H'
 stop:∀P H,Good P H→J.stop ds.length H
 go:∀P H i,Good P H→i<ds.length→J.go i H
 yld:∀P H i x H',Good P H→Lists H P→J.yld i H x H'→i<ds.length→Same H H'∧∃d,ds[i]?=some d∧Rep K (hide P H') d x
abbrev DI:=Th→Option (Bool×List D)
def hidF (b:Bool) (A F:List Addr):List Addr:=if b then A++F else F
noncomputable def dI (K:zay3) (F:List Addr) (fs:DI):TI:=fun σ H R => ∃A t b ds,RS K F H A t σ∧fs t=some (b,ds)∧∀J H1 Good,Same H H1→Src K ds J Good→Good (hidF b A F) H1→R J H1
theorem PI.imp {X:Cx}{tg iter:Expr}{t t':TI} (h:PI X tg iter t) (i:∀σ H R,t' σ H R→t σ H R):PI X tg iter t':=fun pins s σ H R I q=>h pins s σ H R I (i σ H R q)
def fsL (f:DE):DI:=fun t=>(f t).bind fun r=>match r.d with
 |.lst ds=>some (r.ok,ds)
 |_=>none
theorem src_list {K:zay3}{p:Addr}{vs:List V}{ds:List D} (hl:vs.length=ds.length):Src K ds (Itl K p) (fun P H=>SqL K (hide P H) p vs∧Reps K (hide P H) ds vs) where
 keep:=fun P H P' H' q s=>⟨SqL.mono s q.1,Reps.mono s q.2⟩
 stop:=fun P H q=>⟨vs,SqL.mono (za7 _ _) q.1,by lia⟩
 go:=fun P H i q hi=>⟨vs,vs[i]'(by lia),SqL.mono (za7 _ _) q.1,zaz1 (by lia)⟩
 yld:=fun P H i x H' q mu y hi=>by
  obtain⟨e1,e2⟩:=y
  subst e1
  exact⟨Same.refl _,q.2.getV (e2 vs (SqL.mono (za7 _ _) q.1))⟩
theorem RepEv.hidF {K:zay3}{F A:List Addr}{H H':Hp}{r:Ev}{v:V} (m:Lists H (A++F)) (gs:Same H H') (q:RepEv K F A H H' r v):Rep K (hide (DL.hidF r.ok A F) H') r.d v:=by
 unfold DL.hidF
 split
 ·rename_i c;exact q.clean m gs c
 ·exact q.cleanF m
section
variable {X:Cx}{F:List Addr}{a b c:Expr}{es:List Expr}{fa fb fc:DE}{pos:Pos}{tg:Expr}
theorem zw7 (hl:PE X a (dE X.K F fa)):PI X tg a (dI X.K F (fsL fa)):=by
 refine PI.imp (zas4 hl) ?_
 rintro σ H R ⟨A,t,b,ds,RR,e,h⟩
 unfold fsL at e
 cases e1:fa t with
 |none=>rw [e1]at e;cases e
 |some r =>
  rw [e1]at e
  refine⟨A,t,r,RR,e1,fun v H1 gs q=>?_⟩
  have e:(match r.d with | .lst ds=>some (r.ok,ds) |_=>none)=some (b,ds):=e
  split at e
  case h_2=>cases e
  rename_i ds' z
  cases e
  have cl:=RepEv.hidF RR.mu gs q
  rw [z]at cl
  cases cl with
  |@lst _ p vs h1 h2=>exact⟨p,rfl,⟨vs,SqL.mono (za7 _ _) h1⟩,h _ H1 _ gs (src_list h2.length) ⟨h1,h2⟩⟩
end
noncomputable def capD (t:Th):List Nat→Option (Bool×List D)
 |[]=>some (true,[])
 |j::js=>(capD t js).bind fun q=>match t[j]? with
  |some (.val d)=>some (q.1,d::q.2)
  |some (.own xs)=>some (false,.lst xs::q.2)
  |some (.dp d)=>some (false,d::q.2)
  |_=>none
theorem zal5 {K:zay3}{F A:List Addr}{H:Hp}{t:Th}{σ:L2.St} (R:RS K F H A t σ):∀ {cap:List Nat}{b:Bool}{ds:List D},capD t cap=some (b,ds)→∃vs:List V,(cap.map fun j=>(σ[j]?).getD none)=vs.map some∧Reps K (hide (hidF b A F) H) ds vs
 |[],b,ds,e=>by cases e;exact⟨[],rfl,.nil⟩
 |j::js,b,ds,e=>by
  unfold capD at e
  cases e1:capD t js with
  |none=>rw [e1]at e;cases e
  |some q =>
   obtain⟨b',ds'⟩:=q
   rw [e1]at e
   obtain⟨vs,h1,h2⟩:=zal5 R e1
   have e:(match t[j]? with
    |some (.val d)=>some (b',d::ds')
    |some (.own xs)=>some (false,.lst xs::ds')
    |some (.dp d)=>some (false,d::ds')
    |_=>none)=some (b,ds):=e
   have less:∀c:Bool,Same (hide (A++F) H) (hide (hidF c A F) H):=fun c=>za6 H fun x z=>by
    cases c with
    |true=>exact z
    |false=>exact zay4 _ z
   split at e
   ·rename_i d z
    cases e
    obtain⟨v,a1,a2⟩:=R.rel.getVal z
    exact⟨v::vs,by simp [a1,h1],.cons (Rep.mono (less _) a2) h2⟩
   ·rename_i xs z
    cases e
    obtain⟨p,us,a1,a2,a3,a4⟩:=R.rel.getOwn z
    refine⟨.ref p::vs,by simp [a1,h1],.cons (.lst (SqL.of (zb1 a3 (R.dj p a2))) (Reps.mono (less false) a4)) (Reps.mono (za6 H fun x z=>?_) h2)⟩
    cases b' with
    |true=>exact zay4 _ z
    |false=>exact z
   ·rename_i d z
    cases e
    obtain⟨v,B,a1,a2,a3,a4⟩:=R.rel.getDp R.nd z
    refine⟨v::vs,by simp [a1,h1],.cons (a4.rep (less false) fun b hb o w=>zb1 w (R.dj b (a2 b hb))) (Reps.mono (za6 H fun x z=>?_) h2)⟩
    cases b' with
    |true=>exact zay4 _ z
    |false=>exact z
   ·cases e
noncomputable def zg3 (k:D→Th→Option Th) (ft:DT) (fe:DE):List D→Th→Option (List D)
 |[],_=>some []
 |d::ds,t=>(k d t).bind fun t1=>(ft t1).bind fun b=>if b then (fe t1).bind fun r=>(zg3 k ft fe ds t1).map fun xs=>r.d::xs else zg3 k ft fe ds t1
noncomputable def zq0 (n:Nat) (cap:List Nat) (fs:DI) (k:D→Th→Option Th) (ft:DT) (fe:DE):DE:=fun t=>(fs t).bind fun q=>(capD t cap).bind fun c=>if q.2.length≤50000 then (zg3 k ft fe q.2 (zbb1 n Sl.no++c.2.map Sl.val)).bind fun xs=>if (q.1&&c.1)||flats xs then some (.nw xs) else none else none
theorem zt3 {k:D→Th→Option Th}{ft:DT}{fe:DE}:∀ {ds:List D}{t:Th}{xs:List D},zg3 k ft fe ds t=some xs→xs.length≤ds.length
 |[],t,xs,e=>by cases e;simp
 |d::ds,t,xs,e=>by
  unfold zg3 at e
  cases e1:k d t with
  |none=>rw [e1]at e;cases e
  |some t1 =>
   rw [e1]at e
   have e:((ft t1).bind fun b=>if b then (fe t1).bind fun r=>(zg3 k ft fe ds t1).map fun xs=>r.d::xs else zg3 k ft fe ds t1)=some xs:=e
   cases e2:ft t1 with
   |none=>rw [e2]at e;cases e
   |some b =>
    rw [e2]at e
    cases b with
    |false=>have:=zt3 (ds:=ds) (t:=t1) e;simp;lia
    |true =>
     have e:((fe t1).bind fun r=>(zg3 k ft fe ds t1).map fun xs=>r.d::xs)=some xs:=e
     cases e3:fe t1 with
     |none=>rw [e3]at e;cases e
     |some r =>
      rw [e3]at e
      have e:((zg3 k ft fe ds t1).map fun xs=>r.d::xs)=some xs:=e
      cases e4:zg3 k ft fe ds t1 with
      |none=>rw [e4]at e;cases e
      |some ys=>rw [e4]at e;cases e;have:=zt3 e4;simp;lia
end DL
namespace DL
open PySem.Spec L2
theorem RSl.noVals {K:zay3}{H0 H:Hp}{vs:List V}{ds:List D} (r:Reps K H0 ds vs):∀n,RSl K H0 H (zbb1 n Sl.no++ds.map Sl.val) (zbb1 n none++vs.map some) []
 |0=>by simpa using RSl.start (t:=[]) (σ:=[]) .nil r
 |n+1=>.no (RSl.noVals r n)
theorem zo2 {P:List Addr}{H:Hp}{p:Addr}{o:HO} (hp:p∈P):Same (hide P H) (hide P (upd H p o)):=fun b u e=>by
 obtain⟨n,e⟩:=zh5 e
 exact zb1 (by rw [zb5 (fun z=>n (by rw [z];exact hp))];exact e) n
theorem RS.updF {K:zay3}{P:List Addr}{H:Hp}{t:Th}{σ:L2.St}{p:Addr}{ws:List V} (R:RS K P H [] t σ) (hp:p∈P):RS K P (upd H p (.lst ws)) [] t σ where
 mu:=fun q hq=>by
  by_cases z:q=p
  ·exact⟨mL ws,by rw [z];exact zb3⟩
  ·obtain⟨us,w⟩:=R.mu q hq
   exact⟨us,by rw [zb5 z];exact w⟩
 nd:=zbf4
 dj:=fun p hp=>by cases hp
 rel:=RSl.mono (zo2 hp) R.rel fun q hq=>by cases hq
theorem zan5 {K:zay3}{P A:List Addr}{H:Hp}{t:Th}{σ:L2.St} (R:RS K P H A t σ) (g:Gr [] H A H):A=[]:=by
 cases A with
 |nil=>rfl
 |cons a r =>
  rcases g.nw a (zaz0 ..) with z | z
  ·cases z
  ·obtain⟨vs,q⟩:=R.mu a (zay6 _ (zaz0 ..))
   rw [q]at z;cases z
def zu2:DT:=fun _=>some true
theorem PTs.imp {Y:Cx}{ifs:List Expr}{t t':TT} (h:PTs Y ifs t) (i:∀σ H Q,t' σ H Q→t σ H Q):PTs Y ifs t':=fun pins s σ H Q I q=>h pins s σ H Q I (i σ H Q q)
theorem zw4 {Y:Cx}{F:List Addr}:PTs Y [] (dT Y.K F zu2):=PTs.imp pts_nil fun σ H Q ⟨A,t,b,R,e,h⟩=>by cases e;exact h H (Same.refl H)
theorem zai4 {X:Cx}{F:List Addr}{n:Nat}{cap:List Nat}{fs:DI}{g:TG}{kt:D→Th→Option Th}{ft:DT}{fe:DE} (hk:∀F',TgOk X.K F' g kt) {σ:L2.St}{H:Hp}{Q:VK} (h:dE X.K F (zq0 n cap fs kt ft fe) σ H Q) :
  zap7 n cap (dI X.K F fs) g (fun σ H Q => ∃F',dT X.K F' ft σ H Q) (fun σ H Q => ∃F',dE X.K F' fe σ H Q) σ H Q:=by
 obtain⟨A,t,r,R,e,h⟩:=h
 unfold zq0 at e
 cases e1:fs t with
 |none=>rw [e1]at e;cases e
 |some q =>
  obtain⟨b,ds⟩:=q
  cases e2:capD t cap with
  |none=>rw [e1,e2]at e;cases e
  |some q2 =>
   obtain⟨c,caps⟩:=q2
   rw [e1,e2]at e
   have e:(if ds.length≤50000 then (zg3 kt ft fe ds (zbb1 n Sl.no++caps.map Sl.val)).bind fun xs=>if (b&&c)||flats xs then some (Ev.nw xs) else none else none)=some r:=e
   split at e
   case isFalse=>cases e
   rename_i hlen
   cases e3:zg3 kt ft fe ds (zbb1 n Sl.no++caps.map Sl.val) with
   |none=>rw [e3]at e;cases e
   |some xs =>
    rw [e3]at e
    have e:(if (b&&c)||flats xs then some (Ev.nw xs) else none)=some r:=e
    split at e
    case isFalse=>cases e
    rename_i ok
    cases e
    have xl:=zt3 e3
    obtain⟨cvs,cv1,cv2⟩:=zal5 R e2
    -- what is hidden from the block,but its own list
    obtain⟨F',F'def⟩:∃F',F'=hidF (b&&c) A F:=⟨_,rfl⟩
    have subF:∀x∈F',x∈A++F:=fun x hx=>by
     rw [F'def]at hx
     unfold hidF at hx
     split at hx
     ·exact hx
     ·exact zay4 _ hx
    have lessB:∀H:Hp,Same (hide (hidF b A F) H) (hide F' H):=fun H=>za6 H fun x hx=>by
     rw [F'def]at hx
     cases b<;>cases c<;>simp [hidF]at hx ⊢<;>first | exact hx | exact .inr hx | (rcases hx with z | z<;>simp [z])
    have lessC:∀H:Hp,Same (hide (hidF c A F) H) (hide F' H):=fun H=>za6 H fun x hx=>by
     rw [F'def]at hx
     cases b<;>cases c<;>simp [hidF]at hx ⊢<;>first | exact hx | exact .inr hx | (rcases hx with z | z<;>simp [z])
    have wi:zap7 n cap (dI X.K F fs) g (fun σ H Q => ∃F',dT X.K F' ft σ H Q) (fun σ H Q => ∃F',dE X.K F' fe σ H Q) σ H Q:=by
     refine⟨A,t,b,ds,R,e1,fun J H1 Good gs src gd Dd hD=>?_⟩
     have H1A:Lists H1 (A++F):=R.mu.mono gs
     have st0:Same (hide F' H1) (hide (Dd::F') (upd H1 Dd (.lst []))):=zi4 hD
     refine⟨fun i m σ' H'=>i+m=ds.length∧∃th acc rest vs,RS X.K (Dd::F') H' [] th σ'∧zg3 kt ft fe (ds.drop i) th=some rest∧acc++rest=xs∧H' Dd=some (.lst vs)∧Reps X.K (hide (Dd::F') H') acc vs∧Same H1 H'∧Good (Dd::F') H',
      ⟨ds.length,by lia,_,[],xs,[],⟨?_,zbf4,fun p hp=>(by cases hp),?_⟩,by simpa using e3,rfl,zb3,.nil,zc2 hD,src.keep _ _ _ _ gd (fun b o z=>st0 _ _ (lessB _ _ _ z))⟩,?_⟩
     ·intro q hq
      have hq:q∈Dd::F':=hq
      rcases zaz2.mp hq with z | z
      ·exact⟨mL [],by rw [z];exact zb3⟩
      ·obtain⟨us,w⟩:=H1A q (subF q z)
       exact⟨us,(zc2 hD) _ _ w⟩
     ·unfold capV
      rw [cv1]
      exact RSl.noVals (Reps.mono (fun b o z=>st0 _ _ (lessC H1 _ _ (zc3 gs _ _ z))) cv2) n
     ·rintro i m σ' H' ⟨hm,th,acc,rest,vs,RR,ec,ex,hv,hr,sm,gg⟩
      cases m with
      |zero =>
       have z:i=ds.length:=by lia
       subst z
       rw [zbo9]at ec
       cases ec
       rw [zbe0]at ex
       subst ex
       refine .inl ⟨src.stop _ _ gg,h _ H' (gs.trans sm) ⟨Dd,vs,rfl,Same.free gs hD,hv,?_⟩⟩
       rcases zbm5 _ _ ▸ ok with k | k
       ·have:F'=A++F:=by rw [F'def];unfold hidF;rw [k];rfl
        rw [← this];exact hr
       ·refine Reps.hid (P:=Dd ::(A++F)) (fun q hq=>?_) k (Reps.mono (za7 _ _) hr)
        rcases zaz2.mp hq with z | z
        ·exact⟨mL vs,by rw [z];exact hv⟩
        ·obtain⟨us,w⟩:=H1A q z
         exact⟨us,sm _ _ w⟩
      |succ m =>
       have hil:i<ds.length:=by lia
       refine .inr ⟨src.go _ _ i gg hil,fun σ' H'=>i+1+m=ds.length∧∃th acc rest vs,RS X.K (Dd::F') H' [] th σ'∧zg3 kt ft fe (ds.drop (i+1)) th=some rest∧acc++rest=xs∧H' Dd=some (.lst vs)∧Reps X.K (hide (Dd::F') H') acc vs∧Same H1 H'∧Good (Dd::F') H',
        fun σ' H' q=>⟨m,zbl8 m,q⟩,fun x H2 y=>?_⟩
       obtain⟨gs2,d,hd,rd⟩:=src.yld _ _ i x H2 gg RR.mu y hil
       have ed:ds.drop i=d::ds.drop (i+1):=by
        have hd':ds[i]=d:=by
         rw [zaz1 hil]at hd
         exact Option.some.inj hd
        rw [← hd']
        exact zbc7 hil
       rw [ed]at ec
       unfold zg3 at ec
       cases k1:kt d th with
       |none=>rw [k1]at ec;cases ec
       |some t1 =>
        rw [k1]at ec
        have ec:((ft t1).bind fun b=>if b then (fe t1).bind fun r=>(zg3 kt ft fe (ds.drop (i+1)) t1).map fun xs=>r.d::xs else zg3 kt ft fe (ds.drop (i+1)) t1)=some rest:=ec
        refine hk (Dd::F') σ' H2 [] th t1 d x _ (RR.grow gs2) rd k1 fun σ2 A2 gr2 R2=>?_
        have A20:=zan5 R2 gr2
        subst A20
        cases k2:ft t1 with
        |none=>rw [k2]at ec;cases ec
        |some bb =>
         rw [k2]at ec
         refine⟨Dd::F',[],t1,bb,R2,k2,fun H3 gs3=>?_⟩
         cases bb with
         |false =>
          refine iteF ⟨by lia,t1,acc,rest,vs,R2.grow gs3,ec,ex,gs3 _ _ (gs2 _ _ hv),Reps.mono (zc3 (gs2.trans gs3)) hr,(sm.trans gs2).trans gs3,src.keep _ _ _ _ gg (zc3 (gs2.trans gs3))⟩
         |true =>
          have ec:((fe t1).bind fun r=>(zg3 kt ft fe (ds.drop (i+1)) t1).map fun xs=>r.d::xs)=some rest:=ec
          cases k3:fe t1 with
          |none=>rw [k3]at ec;cases ec
          |some re =>
           rw [k3]at ec
           have ec:((zg3 kt ft fe (ds.drop (i+1)) t1).map fun xs=>re.d::xs)=some rest:=ec
           cases k4:zg3 kt ft fe (ds.drop (i+1)) t1 with
           |none=>rw [k4]at ec;cases ec
           |some ys =>
            rw [k4]at ec
            cases ec
            refine iteT ⟨Dd::F',[],t1,re,R2.grow gs3,k3,fun v H4 gs4 q4=>⟨vs,gs4 _ _ (gs3 _ _ (gs2 _ _ hv)),?_,?_⟩⟩
            ·have l1:=hr.length
             have l2:acc.length+(ys.length+1)=xs.length:=by rw [← ex];simp
             exact zba5 (show vs.length<50000 by lia) (by rw [sizeLine_eq];decide)
            ·have s4:=(gs2.trans gs3).trans gs4
             have hu:Same (hide (Dd::F') H4) (hide (Dd::F') (upd H4 Dd (.lst (vs++[v])))):=zo2 (zaz0 ..)
             have rv:=q4.cleanF ((R2.grow gs3).mu)
             refine⟨by lia,t1,acc++[re.d],ys,vs++[v],RS.updF ((R2.grow gs3).grow gs4) (zaz0 ..),k4,by simpa using ex,zb3,?_,?_,?_⟩
             ·exact (Reps.mono (fun b o z=>hu _ _ (zc3 s4 _ _ z)) hr).app (Reps.one (Rep.mono hu rv))
             ·exact fun b o z=>by
               rw [zb5 (fun w=>by rw [w,hD]at z;cases z)]
               exact s4 _ _ (sm _ _ z)
             ·exact src.keep _ _ _ _ gg (fun b o z=>hu _ _ (zc3 s4 _ _ z))
    exact wi
theorem ped_comp {X:Cx}{F:List Addr}{elt tg iter:Expr}{ifs:List Expr}{scope:Scope}{pos:Pos}{n:Nat}{cap:List Nat}{N':List Str}{fs:DI}{g:TG}{kt:D→Th→Option Th}{ft:DT}{fe:DE} (S:CompSc X scope) (hc:X.calm=true) (hi:PI X tg iter (dI X.K F fs))
  (hN:N'.length=n+cap.length) (hcap:∀(k:Nat) (j:Nat),cap[k]?=some j→∃x,N'[n+k]?=some x∧X.N[j]?=some x∧(x,NameKind.free)∈scope.names)
  (hg:∀C s₃ H₃ fp pins,PG (blk X N' scope C s₃ H₃ fp pins) tg g) (hk:∀F',TgOk X.K F' g kt) (ht:∀C s₃ H₃ fp pins F',PTs (blk X N' scope C s₃ H₃ fp pins) ifs (dT X.K F' ft)) (he:∀C s₃ H₃ fp pins F',PE (blk X N' scope C s₃ H₃ fp pins) elt (dE X.K F' fe))
  (hs:∀x,foldedSetIterable iter X.env x=pure x:=by intro _;rfl):PE X (.ListComp elt [⟨tg,iter,ifs,0⟩] scope pos) (dE X.K F (zq0 n cap fs kt ft fe)) :=
 PE.imp (pe_comp (g:=g) S hc hi hN hcap hg (fun C s₃ H₃ fp pins pins' s σ H Q I ⟨F',q⟩=>ht C s₃ H₃ fp pins F' pins' s σ H Q I q) (fun C s₃ H₃ fp pins pins' s σ H Q I ⟨F',q⟩=>he C s₃ H₃ fp pins F' pins' s σ H Q I q) hs) fun _ _ _ h=>zai4 hk h
noncomputable def zak9 (names:List (Str×NameKind)) (kind:Str→Option NameKind):Bool:=names.all fun y=>(y.2 != .free||kind y.1 == some .cell||kind y.1 == some .free)&&(names.lookup y.1 == some y.2)
theorem compSc {X:Cx}{scope:Scope} (hk:scope.kind=.function:=by rfl) (h:zak9 scope.names X.env.kindOf=true:=by rfl):CompSc X scope:=by
 have h':=zbg5.mp h
 refine⟨hk,fun y hy hf=>?_,fun y hy=>?_⟩
 ·have:=h' y hy
  simp only [zba6,zbm5,bne_iff_ne,beq_iff_eq]at this
  rcases this.1 with (z | z) |z
  ·exact absurd hf z
  ·exact .inl z
  ·exact .inr z
 ·have:=h' y hy
  simp only [zba6,beq_iff_eq]at this
  exact this.2
noncomputable def zao5 (N' N:List Str) (n:Nat) (names:List (Str×NameKind)):Nat→List Nat→Bool
 |_,[]=>true
 |k,j::js=>(match N'[n+k]?,N[j]? with
  |some x,some y=>x == y&&names.any fun z=>z.1 == x&&z.2 == .free
  |_,_=>false)&&zao5 N' N n names (k+1) js
theorem zy1 {N' N:List Str}{n:Nat}{names:List (Str×NameKind)}:∀ {cap:List Nat}{k0:Nat},zao5 N' N n names k0 cap=true→∀(k j:Nat),cap[k]?=some j→∃x,N'[n+(k0+k)]?=some x∧N[j]?=some x∧(x,NameKind.free)∈names
 |[],k0,_,k,j,e=>by simp at e
 |i::js,k0,h,k,j,e=>by
  unfold zao5 at h
  rw [zba6]at h
  cases k with
  |zero =>
   simp at e
   subst e
   have h1:=h.1
   split at h1
   ·rename_i x y z1 z2
    rw [zba6,beq_iff_eq,List.any_eq_true]at h1
    obtain⟨e1,w,w1,w2⟩:=h1
    rw [zba6,beq_iff_eq,beq_iff_eq]at w2
    obtain⟨a,b⟩:=w
    simp only at w2
    rw [w2.1,w2.2]at w1
    exact⟨x,by simpa using z1,by rw [z2,e1],w1⟩
   ·cases h1
  |succ k =>
   obtain⟨x,a,b,c⟩:=zy1 h.2 k j (by simpa using e)
   exact⟨x,by rw [show k0+(k+1)=k0+1+k by lia];exact a,b,c⟩
theorem zaa7 {X:Cx}{F:List Addr}{elt tg iter:Expr}{ifs:List Expr}{scope:Scope}{pos:Pos}{fs:DI}{g:TG}{kt:D→Th→Option Th}{ft:DT}{fe:DE} (n:Nat) (cap:List Nat) (N':List Str) (hc:X.calm=true) (hi:PI X tg iter (dI X.K F fs))
  (hg:∀C s₃ H₃ fp pins,PG (blk X N' scope C s₃ H₃ fp pins) tg g) (hk:∀F',TgOk X.K F' g kt) (ht:∀C s₃ H₃ fp pins F',PTs (blk X N' scope C s₃ H₃ fp pins) ifs (dT X.K F' ft)) (he:∀C s₃ H₃ fp pins F',PE (blk X N' scope C s₃ H₃ fp pins) elt (dE X.K F' fe))
  (hkd:scope.kind=.function:=by rfl) (hcs:zak9 scope.names X.env.kindOf=true:=by rfl) (hN:N'.length=n+cap.length:=by rfl) (hcap:zao5 N' X.N n scope.names 0 cap=true:=by rfl)
  (hs:∀x,foldedSetIterable iter X.env x=pure x:=by intro _;rfl):PE X (.ListComp elt [⟨tg,iter,ifs,0⟩] scope pos) (dE X.K F (zq0 n cap fs kt ft fe)) :=
 ped_comp (compSc hkd hcs) hc hi hN (fun k j e=>by simpa using zy1 hcap k j e) hg hk ht he hs
noncomputable def kIn:Ev→Ev→Option Ev:=fun r1 r2=>match r2.d with
 |.lst ds=>if scD r1.d&&ds.all (fun d=>scD d&&eqOk 0 d r1.d) then some (.cl (.bl (ds.any fun d=>eqD d r1.d))) else none
 |.tup ds=>if scD r1.d&&ds.all (fun d=>scD d&&eqOk 0 d r1.d) then some (.cl (.bl (ds.any fun d=>eqD d r1.d))) else none
 |_=>none
theorem in_D {K:zay3}{H:Hp}{e:D}{u:V} (q:Rep K H e u) (se:scD e=true):∀ {ds:List D}{vs:List V},Reps K H ds vs→ds.all (fun d=>scD d&&eqOk 0 d e)=true→vs.all zo4=true∧inV u vs=ds.any fun d=>eqD d e
 |_,_,.nil,_=>⟨rfl,rfl⟩
 |_,_,.cons h r,k=>by
  simp only [zbi0,zba6]at k
  obtain⟨f1,f2,e1⟩:=eqV_D h q k.1.1 se k.1.2
  obtain⟨a,b⟩:=in_D q se r (by simpa using k.2)
  unfold inV at b ⊢
  refine⟨by simp [f1,a],?_⟩
  rw [zbg4,zbg4,e1,b]
theorem zaq0 {K:zay3}{H:Hp}{e:D}{u:V} (q:Rep K H e u) (se:scD e=true):zo4 u=true:=by
 cases q<;>simp_all [scD,zo4]
theorem od_in {X:Cx}{F:List Addr}:OpD X F (compareOp .In) kIn:=by
 intro pins s σ H0 H A x y v u Q r1 r2 r I m g0 rx ry q1 q2 e hq
 unfold kIn at e
 have p1:=q1.full
 have p2:=q2.full
 split at e
 ·rename_i ds z
  rw [z]at p2
  split at e
  case isFalse=>cases e
  rename_i c
  rw [zba6]at c
  cases e
  cases p2 with
  |@lst _ p vs h1 h2 =>
   obtain⟨a,b⟩:=in_D p1 c.1 h2 c.2
   exact zaa9 pins s σ H x _ v u Q I rx ry ⟨p,vs,rfl,.inl h1,zaq0 p1 c.1,a,by
    show Q (.bl (inV x vs)) H
    rw [b];exact hq _ H (Same.refl H) (.bl _)⟩
 ·rename_i ds z
  rw [z]at p2
  split at e
  case isFalse=>cases e
  rename_i c
  rw [zba6]at c
  cases e
  cases p2 with
  |@tup _ p vs h1 h2 =>
   obtain⟨a,b⟩:=in_D p1 c.1 h2 c.2
   exact zaa9 pins s σ H x _ v u Q I rx ry ⟨p,vs,rfl,.inr h1,zaq0 p1 c.1,a,by
    show Q (.bl (inV x vs)) H
    rw [b];exact hq _ H (Same.refl H) (.bl _)⟩
 ·cases e
section
variable {X:Cx}{F:List Addr}{a b c:Expr}{es:List Expr}{fa fb fc:DE}{pos:Pos}
noncomputable def zah1:List Ev→Option Ev:=fun rs=>match rs with
 |[r]=>(match r.d with
  |.lst ds=>if r.ok||flats ds then some (.nw ds) else none
  |_=>none)
 |_=>none
theorem cd_list:CallD X F (.type "list") zah1:=CallD.of zad2 fun H0 H A xs rs e Q m g q ek hq=>by
 unfold zah1 at ek
 split at ek
 ·rename_i r
  cases q with
  |cons q1 q2 =>
   cases q2
   split at ek
   ·rename_i ds z
    split at ek
    case isFalse=>cases ek
    rename_i c
    cases ek
    obtain⟨p,vs,rfl,h1,h2⟩:=q1.items m g z c
    exact⟨p,vs,rfl,.inl h1,fun l hl=>hq _ _ (zc2 hl) ⟨l,vs,rfl,Same.free g hl,zb3,Reps.mono (zi4 hl) h2⟩⟩
   ·cases ek
 ·cases ek
noncomputable def k2I (f:Int→Int→Int):List Ev→Option Ev:=fun rs=>match rs with
 |[r1,r2]=>(match r1.d,r2.d with
  |.int i,.int j=>some (.cl (.int (f i j)))
  |_,_=>none)
 |_=>none
theorem cd_2I {v:Value}{f:Int→Int→Int} (h:zq7 X v (fun xs H Q => ∃i j,xs=[.int i,.int j]∧Q (.int (f i j)) H)):CallD X F v (k2I f):=CallD.of h fun H0 H A xs rs e Q m g q ek hq=>by
 unfold k2I at ek
 split at ek
 ·rename_i r1 r2
  cases q with
  |cons q1 q' =>
   cases q' with
   |cons q2 q3 =>
    cases q3
    split at ek
    ·rename_i i j z1 z2
     cases ek
     have p1:=q1.full
     have p2:=q2.full
     rw [z1]at p1;rw [z2]at p2
     cases zc8 p1;cases zc8 p2
     exact⟨i,j,rfl,hq _ H (Same.refl H) (.int _)⟩
    ·cases ek
 ·cases ek
theorem cd_min (hc:X.calm=true):CallD X F (.builtin "min") (k2I fun i j=>if j<i then j else i):=cd_2I (zaw9 hc)
theorem cd_max (hc:X.calm=true):CallD X F (.builtin "max") (k2I fun i j=>if j > i then j else i):=cd_2I (zax0 hc)
noncomputable def kStr:List Ev→Option Ev:=fun rs=>match rs with
 |[r]=>(match r.d with
  |.int i=>if i.natAbs<1000000000000000000000000 then some (.cl (.str (toString i))) else none
  |_=>none)
 |_=>none
theorem zaw7:CallD X F (.type "str") kStr:=CallD.of zad0 fun H0 H A xs rs e Q m g q ek hq=>by
 unfold kStr at ek
 split at ek
 ·rename_i r
  cases q with
  |cons q1 q2 =>
   cases q2
   split at ek
   ·rename_i i z
    split at ek
    case isFalse=>cases ek
    rename_i c
    cases ek
    have p:=q1.full
    rw [z]at p
    cases zc8 p
    refine⟨i,rfl,?_,hq _ H (Same.refl H) (.str _)⟩
    have:=zag8 (n:=i.natAbs) (k:=100) (zbh6 c (by decide))
    lia
   ·cases ek
 ·cases ek
noncomputable def zm0:Ev→Ev→Option Ev:=fun r1 r2=>match r1.d,r2.d with
 |.str x,.str y=>if x.length+y.length≤100000 then some (.cl (.str (x++y))) else none
 |_,_=>none
theorem zs0:OpD X F (binaryOp .Add) zm0:=by
 intro pins s σ H0 H A x y v u Q r1 r2 r I m g0 rx ry q1 q2 e hq
 have p1:=q1.full
 have p2:=q2.full
 unfold zm0 at e
 split at e
 ·rename_i i j d1 d2
  split at e
  case isFalse=>cases e
  rename_i c
  cases e
  rw [d1]at p1;rw [d2]at p2
  cases p1;cases p2
  exact zan2 pins s σ H _ _ v u Q I rx ry ⟨i,j,rfl,rfl,le_line c,hq _ H (Same.refl H) (.str _)⟩
 ·cases e
def zau2:D→Bool
 |.non=>true
 |_=>false
def kIs:Ev→Ev→Option Ev:=fun r1 r2=>match r2.d with
 |.non=>some (.cl (.bl (zau2 r1.d)))
 |_=>none
theorem rep_non {K:zay3}{H:Hp}{d:D}{v:V} (h:Rep K H d v):decide (v=.non)=zau2 d:=by
 cases h<;>simp [zau2]
theorem od_is:OpD X F (compareOp .Is) kIs:=by
 intro pins s σ H0 H A x y v u Q r1 r2 r I m g0 rx ry q1 q2 e hq
 unfold kIs at e
 split at e
 ·rename_i z
  cases e
  have p2:=q2.full
  rw [z]at p2
  cases p2
  exact op_isN pins s σ H x _ v u Q I rx ry ⟨rfl,by rw [rep_non q1.full];exact hq _ H (Same.refl H) (.bl _)⟩
 ·cases e
noncomputable def dSlF (lo:DE) (f:DE):DE:=fun t=>(f t).bind fun r=>(lo t).bind fun l=>match r.d,l.d with
 |.lst ds,.int i=>if r.ok||flats ds then some (.nw (ds.drop (HT.sIx ds.length 0 (some i)))) else none
 |_,_=>none
theorem zp1 {p2:Pos} (ha:PE X a (dE X.K F fa)) (hb:PE X b (dE X.K F fb)):PE X (.Subscript a (.Slice (some b) none none p2) pos) (dE X.K F (dSlF fb fa)):=by
 refine PE.imp (zx0 zae6 ha (zw6 hb) zar9) ?_
 rintro σ H Q ⟨A,t,r,R,e,h⟩
 unfold dSlF at e
 cases e1:fa t with
 |none=>rw [e1]at e;cases e
 |some r1 =>
  cases e2:fb t with
  |none=>rw [e1,e2]at e;cases e
  |some r2 =>
   rw [e1,e2]at e
   refine⟨A,t,r1,R,e1,fun x H1 gs1 q1=>⟨A,t,r2,R.grow gs1,e2,fun y H2 gs2 q2=>?_⟩⟩
   have e:(match r1.d,r2.d with
    |.lst ds,.int i=>if r1.ok||flats ds then some (Ev.nw (ds.drop (HT.sIx ds.length 0 (some i)))) else none
    |_,_=>none)=some r:=e
   split at e
   case h_2=>cases e
   rename_i ds i z1 z2
   split at e
   case isFalse=>cases e
   rename_i c
   cases e
   have p2':=q2.full
   rw [z2]at p2'
   cases zc8 p2'
   have gs:=gs1.trans gs2
   obtain⟨p,vs,rfl,h1,h2⟩:=(q1.mono gs2).items R.mu gs z1 c
   refine⟨i,rfl,p,vs,rfl,h1,fun l hl=>h _ _ (gs.trans (zc2 hl)) ⟨l,_,rfl,Same.free gs hl,zb3,Reps.mono (zi4 hl) ?_⟩⟩
   have hle:=HT.sIx_le ds.length 0 (by lia) (some i)
   have e:cutV vs (some i) none=vs.drop (HT.sIx ds.length 0 (some i)):=by
    unfold cutV
    rw [h2.length,HT.sIx_none]
    apply zbb7
    rw [zbj4,h2.length]
    exact zaz7 _
   rw [e]
   exact h2.drop _
noncomputable def dSlU (hi:DE) (f:DE):DE:=fun t=>(f t).bind fun r=>(hi t).bind fun l=>match r.d,l.d with
 |.lst ds,.int i=>if r.ok||flats ds then some (.nw (ds.take (HT.sIx ds.length ds.length (some i)))) else none
 |_,_=>none
theorem zan1 {p2:Pos} (ha:PE X a (dE X.K F fa)) (hb:PE X b (dE X.K F fb)):PE X (.Subscript a (.Slice none (some b) none p2) pos) (dE X.K F (dSlU fb fa)):=by
 refine PE.imp (zx0 zae6 ha zar9 (zw6 hb)) ?_
 rintro σ H Q ⟨A,t,r,R,e,h⟩
 unfold dSlU at e
 cases e1:fa t with
 |none=>rw [e1]at e;cases e
 |some r1 =>
  cases e2:fb t with
  |none=>rw [e1,e2]at e;cases e
  |some r2 =>
   rw [e1,e2]at e
   refine⟨A,t,r1,R,e1,fun x H1 gs1 q1=>⟨A,t,r2,R.grow gs1,e2,fun y H2 gs2 q2=>?_⟩⟩
   have e:(match r1.d,r2.d with
    |.lst ds,.int i=>if r1.ok||flats ds then some (Ev.nw (ds.take (HT.sIx ds.length ds.length (some i)))) else none
    |_,_=>none)=some r:=e
   split at e
   case h_2=>cases e
   rename_i ds i z1 z2
   split at e
   case isFalse=>cases e
   rename_i c
   cases e
   have p2':=q2.full
   rw [z2]at p2'
   cases zc8 p2'
   have gs:=gs1.trans gs2
   obtain⟨p,vs,rfl,h1,h2⟩:=(q1.mono gs2).items R.mu gs z1 c
   refine⟨i,rfl,p,vs,rfl,h1,fun l hl=>h _ _ (gs.trans (zc2 hl)) ⟨l,_,rfl,Same.free gs hl,zb3,Reps.mono (zi4 hl) ?_⟩⟩
   have e:cutV vs none (some i)=vs.take (HT.sIx ds.length ds.length (some i)):=by
    unfold cutV
    rw [h2.length,HT.sIx_none]
    simp
   rw [e]
   exact h2.take _
end
end DL
namespace DL
open PySem.Spec L2
section
variable {X:Cx}{F:List Addr}{a b c:Expr}{es:List Expr}{fa fb fc:DE}{g:DS}{pos:Pos}{tg:Expr}{gt:TG}{kt:D→Th→Option Th}
noncomputable def dCh (k k':Ev→Ev→Option Ev) (fa fb fc:DE):DT:=fun t=>(fa t).bind fun r1=>(fb t).bind fun r2=>(k r1 r2).bind fun r=>match r.d with
 |.bl true=>(fc t).bind fun r3=>(k' r2 r3).bind fun r'=>match r'.d with
  |.bl z=>some z
  |_=>none
 |.bl false=>some false
 |_=>none
noncomputable def rK (X:Cx) (F:List Addr) (k:Ev→Ev→Option Ev) (A:List Addr) (H0:Hp):R2:=fun x y H Q=>Lists H0 (A++F)∧Same H0 H∧∃r1 r2 r,RepEv X.K F A H0 H r1 x∧RepEv X.K F A H0 H r2 y∧k r1 r2=some r∧∀z H',Same H H'→RepEv X.K F A H0 H' r z→Q z H'
theorem OpD.toR {f:Value→Value→Sem Value}{k:Ev→Ev→Option Ev} (h:OpD X F f k) (A:List Addr) (H0:Hp):OpR X f (rK X F k A H0) :=
 fun pins s σ H x y v u Q I rx ry ⟨m,gs,r1,r2,r,q1,q2,e,hq⟩=>h pins s σ H0 H A x y v u Q r1 r2 r I m gs rx ry q1 q2 e hq
theorem zaa2 {op op':CmpOp}{k k':Ev→Ev→Option Ev} (ho:OpD X F (compareOp op) k) (ho':OpD X F (compareOp op') k') (ha:PE X a (dE X.K F fa)) (hb:PE X b (dE X.K F fb)) (hc:PE X c (dE X.K F fc))
  (hm:lastMarks [op,op'] [b,c]=false:=by with_unfolding_all rfl):PT X (.Compare a [op,op'] [b,c] pos) (dT X.K F (dCh k k' fa fb fc)):=by
 intro pins s σ H Q I h
 obtain⟨A,t,bb,R,e,h⟩:=h
 refine pt_chain (ho.toR A H) (ho'.toR A H) ha hb hc hm pins s σ H Q I ?_
 unfold dCh at e
 cases e1:fa t with
 |none=>rw [e1]at e;cases e
 |some r1 =>
  cases e2:fb t with
  |none=>rw [e1,e2]at e;cases e
  |some r2 =>
   cases e3:k r1 r2 with
   |none=>rw [e1,e2]at e;simp only [zaz3,e3]at e;cases e
   |some r =>
    rw [e1,e2]at e
    simp only [zaz3,e3]at e
    refine⟨A,t,r1,R,e1,fun x H1 gs1 q1=>⟨A,t,r2,R.grow gs1,e2,fun y H2 gs2 q2=>?_⟩⟩
    have gs:=gs1.trans gs2
    refine⟨R.mu,gs,r1,r2,r,q1.mono gs2,q2.back gs1,e3,fun z H3 gs3 q3=>?_⟩
    have p:=q3.full
    split at e
    ·rename_i zz
     rw [zz]at p
     cases p
     refine⟨true,rfl,iteT ?_⟩
     cases e4:fc t with
     |none=>rw [e4]at e;cases e
     |some r3 =>
      rw [e4]at e
      simp only [zaz3]at e
      cases e5:k' r2 r3 with
      |none=>rw [e5]at e;cases e
      |some r' =>
       rw [e5]at e
       simp only [zaz3]at e
       refine⟨A,t,r3,(R.grow gs).grow gs3,e4,fun w H4 gs4 q4=>⟨R.mu,(gs.trans gs3).trans gs4,r2,r3,r',(q2.back gs1).mono (gs3.trans gs4),q4.back (gs.trans gs3),e5,fun z2 H5 gs5 q5=>?_⟩⟩
       have p5:=q5.full
       split at e
       ·rename_i z3 zz3
        cases e
        rw [zz3]at p5
        cases p5
        exact⟨_,rfl,h H5 (((gs.trans gs3).trans gs4).trans gs5)⟩
       ·cases e
    ·rename_i zz
     rw [zz]at p
     cases p
     cases e
     exact⟨false,rfl,iteF ⟨false,rfl,h H3 (gs.trans gs3)⟩⟩
    ·cases e
end
end DL
namespace DL
open PySem.Spec L2
def zk6:List D→Option (List Int)
 |[]=>some []
 |.int i::r=>(zk6 r).map fun ns=>i::ns
 |_::_=>none
theorem zq8:∀ {ds:List D}{ns:List Int},zk6 ds=some ns→ds=ns.map D.int
 |[],ns,e=>by cases e;rfl
 |.int i::r,ns,e=>by
  unfold zk6 at e
  cases e1:zk6 r with
  |none=>rw [e1]at e;cases e
  |some m=>rw [e1]at e;cases e;rw [zq8 e1];rfl
 |.non::r,ns,e=>by cases e
 |.bl _::r,ns,e=>by cases e
 |.str _::r,ns,e=>by cases e
 |.tup _::r,ns,e=>by cases e
 |.lst _::r,ns,e=>by cases e
theorem zac2 (ns:List Int):zk6 (ns.map D.int)=some ns:=by
 induction ns with
 |nil=>rfl
 |cons n r ih=>simp [zk6,ih]
theorem zr6 {K:zay3}{H:Hp}:∀ {ns:List Int}{vs:List V},Reps K H (ns.map D.int) vs→vs=ns.map V.int
 |[],_,.nil=>rfl
 |n::r,_,.cons h q=>by cases zc8 h;rw [zr6 q];rfl
theorem zav0 (i j:Int):eqD (.int i) (.int j)=decide (i=j):=by
 rw [zbe8,eqD_true];simp
theorem sm_iff {i:Int}:sm i=true↔i.natAbs<bnd:=by simp [sm]
theorem sm_lt {i:Int} (h:i.natAbs<2 ^ 256):sm i=true:=sm_iff.mpr (zba5 h (by unfold bnd;exact zbh0 (by decide) (by decide)))
theorem zi5 {i:Int} (h1 : -10000000000000000000000000000000000000000000000000000000000000000000000000000<i) (h2:i<10000000000000000000000000000000000000000000000000000000000000000000000000000):sm i=true:=by
 apply sm_lt
 have:(2:Nat) ^ 256=115792089237316195423570985008687907853269984665640564039457584007913129639936:=by decide
 lia
theorem fmod_pos {a b:Int} (h:0<b):0≤a.fmod b∧a.fmod b<b:=by
 rw [Int.fmod_eq_emod_of_nonneg a (by lia)]
 exact⟨Int.emod_nonneg a (by lia),Int.emod_lt_of_pos a h⟩
theorem zx9 (d:D):eqD d d=true:=eqD_true.mpr rfl
theorem zb7 {g1 g2:DS}{t t':Th} (h:g1 t=some (.nx t')):dSeq g1 g2 t=g2 t':=by simp [dSeq,h]
theorem RepDs.length {K:zay3}{H0 H:Hp}:∀ {ds:List D}{vs:List V}{B:List Addr},RepDs K H0 H ds vs B→vs.length=ds.length
 |_,_,_,.nil=>rfl
 |_,_,_,.cons _ r=>by simp [RepDs.length r]
theorem RepDs.focus {K:zay3}{H0 H:Hp}:∀ {ds:List D}{vs:List V}{B:List Addr},RepDs K H0 H ds vs B→∀ {j:Nat}{d:D},ds[j]?=some d→∃v B1,vs[j]?=some v∧RepD K H0 H d v B1∧(∀b∈B1,b∈B)∧(B.Nodup→B1.Nodup) ∧
  ∀H0' H' d2 B2,Same H0 H0'→RepD K H0' H' d2 v B2→B2.Sublist B1→(∀q∈B,q∉B1→∀o,H q=some o→H' q=some o)→B.Nodup→∃B',RepDs K H0' H' (ds.set j d2) vs B'∧B'.Sublist B
 |_,_,_,.nil,j,d,e=>by simp at e
 |_,_,_,.cons (v:=v) (B:=B) (C:=C) h r,0,d,e=>by
  simp at e;subst e
  refine⟨v,B,rfl,h,fun b hb=>zay6 _ hb,fun n=>(zba4.mp n).1,fun H0' H' d2 B2 s q sb k nd=>⟨B2++C,.cons q (RepDs.mono s r fun p hp o w=>?_),List.Sublist.append sb (List.Sublist.refl _)⟩⟩
  exact k p (zay4 _ hp) (fun z=>(zba4.mp nd).2.2 p z p hp rfl) o w
 |_,_,_,.cons (v:=v) (B:=B) (C:=C) h r,j+1,d,e=>by
  obtain⟨v1,B1,a1,a2,a3,a5,a4⟩:=RepDs.focus r (j:=j) (d:=d) (by simpa using e)
  refine⟨v1,B1,by simpa using a1,a2,fun b hb=>zay4 _ (a3 b hb),fun n=>a5 (zba4.mp n).2.1,fun H0' H' d2 B2 s q sb k nd=>?_⟩
  have n:=zba4.mp nd
  obtain⟨B',b1,b2⟩:=a4 H0' H' d2 B2 s q sb (fun q hq=>k q (zay4 _ hq)) n.2.1
  refine⟨B++B',.cons (RepD.mono s h fun p hp o w=>k p (zay6 _ hp) (fun z=>n.2.2 p hp p (a3 p z) rfl) o w) b1,List.Sublist.append (List.Sublist.refl _) b2⟩
noncomputable def getP:D→List Int→Option D
 |d,[]=>some d
 |.tup ds,n::ns=>(atI ds n).bind fun x=>getP x ns
 |.lst ds,n::ns=>(atI ds n).bind fun x=>getP x ns
 |_,_::_=>none
noncomputable def putP:D→List Int→D→Option D
 |_,[],e=>some e
 |.tup ds,n::ns,e=>(ixN ds.length n).bind fun j=>(ds[j]?).bind fun x=>(putP x ns e).map fun y=>.tup (ds.set j y)
 |.lst ds,n::ns,e=>(ixN ds.length n).bind fun j=>(ds[j]?).bind fun x=>(putP x ns e).map fun y=>.lst (ds.set j y)
 |_,_::_,_=>none
noncomputable def Reach (K:zay3) (H:Hp):V→List Int→V→Prop
 |v,[],w=>v=w
 |v,n::ns,w => ∃p vs x,v=.ref p∧(SqL K H p vs∨SqT K H p vs)∧atI vs n=some x∧Reach K H x ns w
theorem zac5:∀ {ds:List D}{j:Nat}{d:D},flats ds=true→ds[j]?=some d→flat d=true
 |[],j,d,_,e=>by simp at e
 |x::xs,0,d,f,e=>by simp [flats]at f;simp at e;subst e;exact f.1
 |x::xs,j+1,d,f,e=>by simp [flats]at f;exact zac5 f.2 (by simpa using e)
theorem flat_at {ds:List D}{n:Int}{d:D} (f:flats ds=true) (e:atI ds n=some d):flat d=true:=by
 unfold L2.atI at e
 cases e1:ixN ds.length n with
 |none=>rw [e1]at e;cases e
 |some j=>rw [e1]at e;exact zac5 f e
theorem zac6:∀(ns:List Int) {d d1:D},flat d=true→getP d ns=some d1→flat d1=true
 |[],d,d1,f,e=>by cases e;exact f
 |n::ns,.tup ds,d1,f,e=>by
  simp only [getP]at e
  cases e1:atI ds n with
  |none=>rw [e1]at e;cases e
  |some x=>rw [e1]at e;exact zac6 ns (flat_at (by simpa [flat] using f) e1) e
 |n::ns,.lst ds,d1,f,e=>by simp [flat]at f
 |n::ns,.non,d1,f,e=>by cases e
 |n::ns,.bl _,d1,f,e=>by cases e
 |n::ns,.int _,d1,f,e=>by cases e
 |n::ns,.str _,d1,f,e=>by cases e
noncomputable def Fin (K:zay3) (H0 H:Hp) (d:D) (v:V) (B:List Addr) (ns:List Int) (p:Addr) (B1:List Addr):Prop :=
 ∀H0' H' es ws B2 d2,Same H0 H0'→H' p=some (.lst ws)→RepDs K H0' H' es ws B2→B2.Sublist B1→putP d ns (.lst es)=some d2→(∀q∈B,q≠p→∀o,H q=some o→H' q=some o)→B.Nodup→∃B',RepD K H0' H' d2 v B'∧B'.Sublist B
theorem atI_of {α:Type}{xs:List α}{n:Int}{x:α} (e:atI xs n=some x):∃j,ixN xs.length n=some j∧xs[j]?=some x:=by
 unfold L2.atI at e
 cases e1:ixN xs.length n with
 |none=>rw [e1]at e;cases e
 |some j=>rw [e1]at e;exact⟨j,rfl,e⟩
theorem RepD.focus {K:zay3}{H0 H:Hp} (hs:Same H0 H):∀(ns:List Int) {d:D}{v:V}{B:List Addr}{ds1:List D},RepD K H0 H d v B→B.Nodup→getP d ns=some (.lst ds1) →
  ∃p vs1 B1,Reach K H v ns (.ref p)∧H p=some (.lst vs1)∧RepDs K H0 H ds1 vs1 B1∧p∈B∧(∀b∈B1,b∈B)∧p∉B1∧Fin K H0 H d v B ns p B1
 |[],d,v,B,ds1,h,nd,e=>by
  cases e
  cases h with
  |flat f r=>simp [DL.flat]at f
  |@lst _ p vs C h r =>
   refine⟨p,vs,C,rfl,h,r,zaz0 ..,fun b hb=>zay5 _ hb,(zbb5.mp nd).1,fun H0' H' es ws B2 d2 s e1 e2 sb e3 k nd=>?_⟩
   cases e3
   exact⟨p::B2,.lst e1 e2,sb.cons₂ _⟩
 |n::ns,d,v,B,ds1,h,nd,e=>by
  cases h with
  |flat f r=>exact absurd (zac6 (n::ns) f e) (by simp [DL.flat])
  |dct _ h r=>simp [getP]at e
  |pdc h=>simp [getP]at e
  |@tup ds p0 vs C h r =>
   simp only [getP]at e
   cases e1:atI ds n with
   |none=>rw [e1]at e;cases e
   |some x =>
    rw [e1]at e
    obtain⟨j,j1,j2⟩:=atI_of e1
    obtain⟨v1,B1,a1,a2,a3,a5,a4⟩:=r.focus j2
    obtain⟨p,vs1,B2,b1,b2,b3,b4,b5,b6,b7⟩:=RepD.focus hs ns a2 (a5 nd) e
    have ea:atI vs n=some v1:=by unfold L2.atI;rw [r.length,j1];exact a1
    refine⟨p,vs1,B2,⟨p0,vs,v1,rfl,.inr (SqT.mono hs h),ea,b1⟩,b2,b3,a3 p b4,fun b hb=>a3 b (b5 b hb),b6,fun H0' H' es ws B3 d2 s e1' e2 sb e3 k nd'=>?_⟩
    simp only [putP,j1,zaz3,j2]at e3
    cases e4:putP x ns (.lst es) with
    |none=>rw [e4]at e3;cases e3
    |some y =>
     rw [e4]at e3
     cases e3
     obtain⟨B',c1,c2⟩:=b7 H0' H' es ws B3 y s e1' e2 sb e4 (fun q hq=>k q (a3 q hq)) (a5 nd')
     obtain⟨B'',c3,c4⟩:=a4 H0' H' y B' s c1 c2 (fun q hq nq=>k q hq fun z=>nq (z ▸ b4)) nd'
     exact⟨B'',.tup (SqT.mono s h) c3,c4⟩
  |@lst ds p0 vs C h r =>
   simp only [getP]at e
   have n0:=zbb5.mp nd
   cases e1:atI ds n with
   |none=>rw [e1]at e;cases e
   |some x =>
    rw [e1]at e
    obtain⟨j,j1,j2⟩:=atI_of e1
    obtain⟨v1,B1,a1,a2,a3,a5,a4⟩:=r.focus j2
    obtain⟨p,vs1,B2,b1,b2,b3,b4,b5,b6,b7⟩:=RepD.focus hs ns a2 (a5 n0.2) e
    have ea:atI vs n=some v1:=by unfold L2.atI;rw [r.length,j1];exact a1
    refine⟨p,vs1,B2,⟨p0,vs,v1,rfl,.inl (SqL.of h),ea,b1⟩,b2,b3,zay5 _ (a3 p b4),fun b hb=>zay5 _ (a3 b (b5 b hb)),b6,fun H0' H' es ws B3 d2 s e1' e2 sb e3 k nd'=>?_⟩
    simp only [putP,j1,zaz3,j2]at e3
    cases e4:putP x ns (.lst es) with
    |none=>rw [e4]at e3;cases e3
    |some y =>
     rw [e4]at e3
     cases e3
     obtain⟨B',c1,c2⟩:=b7 H0' H' es ws B3 y s e1' e2 sb e4 (fun q hq=>k q (zay5 _ (a3 q hq))) (a5 n0.2)
     obtain⟨B'',c3,c4⟩:=a4 H0' H' y B' s c1 c2 (fun q hq nq=>k q (zay5 _ hq) fun z=>nq (z ▸ b4)) n0.2
     exact⟨p0::B'',.lst (k p0 (zaz0 ..) (fun z=>n0.1 (z ▸ a3 p b4)) _ h) c3,c4.cons₂ _⟩
theorem RSl.focusDp {K:zay3}{H0 H:Hp}:∀ {t:Th}{σ:L2.St}{A:List Addr},RSl K H0 H t σ A→A.Nodup→∀ {i:Nat}{d:D},t[i]?=some (.dp d)→∃v B,σ[i]?=some (some v)∧(∀b∈B,b∈A)∧B.Nodup∧RepD K H0 H d v B ∧
  ∀H0' H' d2 B2,Same H0 H0'→RepD K H0' H' d2 v B2→B2.Sublist B→(∀q∈A,q∉B→∀o,H q=some o→H' q=some o)→∃A2,RSl K H0' H' (t.set i (.dp d2)) σ A2∧A2.Sublist A:=by
 intro _ _ _ h
 induction h with
 |nil =>
  intro n i d e
  simp at e
 |@no _ _ _ _ r ih =>
  intro n i d e
  cases i with
  |zero =>
   simp at e
  |succ i =>
   obtain⟨v,B,a,b,n',c,k⟩:=ih n (i:=i) (d:=d) (by simpa using e)
   refine⟨v,B,by simpa using a,b,n',c,fun H0' H' d2 B2 s q sb w=>?_⟩
   obtain⟨A2,x,y⟩:=k H0' H' d2 B2 s q sb w
   exact⟨A2,.no x,y⟩
 |@val _ v _ _ _ h r ih =>
  intro n i d e
  cases i with
  |zero =>
   simp at e
  |succ i =>
   obtain⟨v,B,a,b,n',c,k⟩:=ih n (i:=i) (d:=d) (by simpa using e)
   refine⟨v,B,by simpa using a,b,n',c,fun H0' H' d2 B2 s q sb w=>?_⟩
   obtain⟨A2,x,y⟩:=k H0' H' d2 B2 s q sb w
   exact⟨A2,.val (Rep.mono s h) x,y⟩
 |@own p _ _ _ _ _ h1 h2 r ih =>
  intro n i d e
  cases i with
  |zero =>
   simp at e
  |succ i =>
   have n0:=zbb5.mp n
   obtain⟨v,B,a,b,n',c,k⟩:=ih n0.2 (i:=i) (d:=d) (by simpa using e)
   refine⟨v,B,by simpa using a,fun x hx=>zay5 _ (b x hx),n',c,fun H0' H' d2 B2 s q sb w=>?_⟩
   obtain⟨A2,x,y⟩:=k H0' H' d2 B2 s q sb (fun q hq=>w q (zay5 _ hq))
   exact⟨p::A2,.own (w p (zaz0 ..) (fun z=>n0.1 (b p z)) _ h1) (Reps.mono s h2) x,y.cons₂ _⟩
 |@dp _ v C _ _ _ h r ih =>
  intro n i d e
  cases i with
  |zero =>
   simp at e;subst e
   have n0:=zba4.mp n
   refine⟨v,C,rfl,fun x hx=>zay6 _ hx,n0.1,h,fun H0' H' d2 B2 s q sb w=>?_⟩
   exact⟨_,.dp q (RSl.mono s r fun p hp=>w p (zay4 _ hp) fun z=>n0.2.2 p z p hp rfl),List.Sublist.append sb (List.Sublist.refl _)⟩
  |succ i =>
   have n0:=zba4.mp n
   obtain⟨v,B,a,b,n',c,k⟩:=ih n0.2.1 (i:=i) (d:=d) (by simpa using e)
   refine⟨v,B,by simpa using a,fun x hx=>zay4 _ (b x hx),n',c,fun H0' H' d2 B2 s q sb w=>?_⟩
   obtain⟨A2,x,y⟩:=k H0' H' d2 B2 s q sb (fun q hq=>w q (zay4 _ hq))
   exact⟨C++A2,.dp (RepD.mono s h fun p hp=>w p (zay6 _ hp) fun z=>n0.2.2 p hp p (b p z) rfl) x,List.Sublist.append (List.Sublist.refl _) y⟩
theorem RS.place {K:zay3}{F A:List Addr}{H:Hp}{t:Th}{σ:L2.St}{i:Nat}{d:D}{ns:List Int}{ds1:List D} (R:RS K F H A t σ) (e:t[i]?=some (.dp d)) (e1:getP d ns=some (.lst ds1)) :
  ∃v p vs1 B1,σ[i]?=some (some v)∧Reach K H v ns (.ref p)∧H p=some (.lst vs1)∧RepDs K (hide (A++F) H) H ds1 vs1 B1∧p∉B1∧p∈A ∧
   ∀H1 es ws B2 d2,Same H H1→(∀H',(∀q,q≠p→H' q=H1 q)→Same (hide (A++F) H) (hide (A++F) H')→RepDs K (hide (A++F) H') H' es ws B2)→B2.Sublist B1→putP d ns (.lst es)=some d2 →
    ∃A2,RS K F (L2.upd H1 p (.lst ws)) A2 (t.set i (.dp d2)) σ∧Gr A H A2 (L2.upd H1 p (.lst ws)):=by
 obtain⟨v,B,a1,a2,a3,a4,a5⟩:=R.rel.focusDp R.nd e
 obtain⟨p,vs1,B1,b1,b2,b3,b4,b5,b6,b7⟩:=a4.focus (za7 _ _) ns a3 e1
 refine⟨v,p,vs1,B1,a1,b1,b2,b3,b6,a2 p b4,fun H1 es ws B2 d2 gs mk sb ep=>?_⟩
 have pA:p∈A:=a2 p b4
 have hh:Same (hide (A++F) H) (hide (A++F) (L2.upd H1 p (.lst ws))):=fun b o q=>by
  obtain⟨n,q⟩:=zh5 q
  have nb:b≠p:=fun z=>n (zay6 _ (z ▸ pA))
  exact zb1 (by rw [zb5 nb];exact gs _ _ q) n
 have kp:∀q∈A,q≠p→∀o,H q=some o→L2.upd H1 p (.lst ws) q=some o:=fun q _ n o h=>by rw [zb5 n];exact gs _ _ h
 obtain⟨B',c1,c2⟩:=b7 (hide (A++F) (L2.upd H1 p (.lst ws))) (L2.upd H1 p (.lst ws)) es ws B2 d2 hh zb3 (mk _ (fun q n=>zb5 n) hh) sb ep (fun q hq=>kp q (a2 q hq)) a3
 obtain⟨A2,d1,d3⟩:=a5 _ _ d2 B' hh c1 c2 (fun q hq nq=>kp q hq fun z=>nq (z ▸ b4))
 have sub:∀x∈A2,x∈A:=fun x hx=>d3.subset hx
 have mu:Lists (L2.upd H1 p (.lst ws)) (A++F):=fun q hq=>by
  by_cases z:q=p
  ·exact⟨mL ws,by rw [z];exact zb3⟩
  ·obtain⟨us,w⟩:=R.mu q hq
   exact⟨us,by rw [zb5 z];exact gs _ _ w⟩
 refine⟨A2,⟨fun q hq=>mu q ?_,R.nd.sublist d3,fun q hq=>R.dj q (sub q hq),RSl.mono (za6 _ fun a z=>?_) d1 fun _ _ _ h=>h⟩,fun b o n h=>?_,fun b hb=>?_,fun b hb=>.inl (sub b hb)⟩
 ·exact (zay8.mp hq).elim (fun z=>zay6 _ (sub q z)) (fun z=>zay4 _ z)
 ·exact (zay8.mp z).elim (fun z=>zay6 _ (sub a z)) (fun z=>zay4 _ z)
 ·rw [zb5 (fun z=>n (by rw [z];exact pA))];exact gs _ _ h
 ·obtain⟨us,w⟩:=mu b (zay6 _ hb)
  rw [w];simp
noncomputable def pthD:List DE→Th→Option (List Int)
 |[],_=>some []
 |f::fs,t=>(f t).bind fun r=>match r.d with
  |.int n=>(pthD fs t).map (n::·)
  |_=>none
theorem zaa1 {f:DE}{t:Th}:∀ {fs:List DE}{ns':List Int},pthD (fs++[f]) t=some ns'→∃ns n r,pthD fs t=some ns∧f t=some r∧r.d=.int n∧ns'=ns++[n]
 |[],ns',e=>by
  simp only [zbe4,pthD]at e
  cases e1:f t with
  |none=>rw [e1]at e;cases e
  |some r =>
   rw [e1]at e
   simp only [zaz3]at e
   split at e
   ·rename_i n z;cases e;exact⟨[],n,r,rfl,rfl,z,rfl⟩
   ·cases e
 |g::fs,ns',e=>by
  simp only [zbj5,pthD]at e
  cases e1:g t with
  |none=>rw [e1]at e;cases e
  |some r =>
   rw [e1]at e
   simp only [zaz3]at e
   split at e
   ·rename_i n z
    cases e2:pthD (fs++[f]) t with
    |none=>rw [e2]at e;cases e
    |some ms =>
     rw [e2]at e
     cases e
     obtain⟨ns,m,r',a1,a2,a3,a4⟩:=zaa1 e2
     refine⟨n::ns,m,r',?_,a2,a3,by rw [a4];rfl⟩
     simp only [pthD,e1,zaz3,z,a1];rfl
   ·cases e
theorem Reach.snoc {K:zay3}{H:Hp}{n:Int}{w:V}:∀ {ns:List Int}{v:V},Reach K H v (ns++[n]) w→∃p vs,Reach K H v ns (.ref p)∧(SqL K H p vs∨SqT K H p vs)∧atI vs n=some w
 |[],v,h=>by
  obtain⟨p,vs,x,rfl,h1,h2,h3⟩:=h
  cases h3
  exact⟨p,vs,rfl,h1,h2⟩
 |m::ns,v,h=>by
  obtain⟨p,vs,x,rfl,h1,h2,h3⟩:=h
  obtain⟨p',vs',a1,a2,a3⟩:=Reach.snoc h3
  exact⟨p',vs',⟨p,vs,x,rfl,h1,h2,a1⟩,a2,a3⟩
noncomputable def plE (K:zay3) (F:List Addr) (i:Nat) (fs:List DE):TE:=fun σ H Q => ∃A t v ns w,RS K F H A t σ∧pthD fs t=some ns∧σ[i]?=some (some v)∧Reach K H v ns w∧∀H',Same H H'→Q w H'
section
variable {X:Cx}{F:List Addr}{a b c o:Expr}{es:List Expr}{fa fb fc:DE}{fs:List DE}{g g1 g2:DS}{ft fu:DT}{pos:Pos}{st:Stmt}{rest:List Stmt}{tg:Expr}{gt:TG}{kt:D→Th→Option Th}
theorem pl_var (i:Nat) {x:Str} (hN:X.N[i]?=some x:=by rfl) (hv:Vis X.env.scope x:=by first | exact Or.inl rfl | exact Or.inr (Or.inl rfl) |exact Or.inr (Or.inr rfl)) (hd:(x ==("__debug__":Str))=false:=by decide)
  (hcd:(x ==("__classdict__":Str))=false:=by decide):PE X (.Name x pos) (plE X.K F i []):=by
 refine PE.imp (zr8 (i:=i) hN hv hd hcd) ?_
 rintro σ H Q ⟨A,t,v,ns,w,R,e,h1,h2,h⟩
 cases e
 cases h2
 exact⟨v,h1,h H (Same.refl H)⟩
theorem pl_ix {i:Nat} (ha:PE X a (plE X.K F i fs)) (hb:PE X b (dE X.K F fb)) (hs:zy5 b:=by intro _ _;rfl):PE X (.Subscript a b pos) (plE X.K F i (fs++[fb])):=by
 refine PE.imp (pe_ix (ix_list.or ix_tup) ha hb hs) ?_
 rintro σ H Q ⟨A,t,v,ns,w,R,e,h1,h2,h⟩
 obtain⟨ms,n,r,a1,a2,a3,rfl⟩:=zaa1 e
 obtain⟨p,vs,b1,b2,b3⟩:=h2.snoc
 refine⟨A,t,v,ms,.ref p,R,a1,h1,b1,fun H1 gs=>⟨A,t,r,R.grow gs,a2,fun y H2 gs2 q=>?_⟩⟩
 have p2:=q.full
 rw [a3]at p2
 cases zc8 p2
 rcases b2 with b2 | b2
 ·exact .inl ⟨p,vs,n,w,rfl,rfl,SqL.mono (gs.trans gs2) b2,b3,h H2 (gs.trans gs2)⟩
 ·exact .inr ⟨p,vs,n,w,rfl,rfl,SqT.mono (gs.trans gs2) b2,b3,h H2 (gs.trans gs2)⟩
noncomputable def zat9 (t:Th) (i:Nat) (ns:List Int) (r:Ev):Option Out:=match t[i]? with
 |some (.dp d)=>match getP d ns with
  |some (.lst ds)=>if flat r.d&&decide (ds.length<100000) then (putP d ns (.lst (ds++[r.d]))).map fun d2=>.nx (t.set i (.dp d2)) else none
  |_=>none
 |_=>none
def zaw2 (i:Nat) (fs:List DE) (f:DE):DS:=fun t=>(pthD fs t).bind fun ns=>(f t).bind (zat9 t i ns)
theorem RepDs.app1 {K:zay3}{H0 H:Hp}{d:D}{v:V} (q:RepD K H0 H d v []):∀ {ds:List D}{vs:List V}{B:List Addr},RepDs K H0 H ds vs B→RepDs K H0 H (ds++[d]) (vs++[v]) B
 |_,_,_,.nil=>.cons (B:=[]) (C:=[]) q .nil
 |_,_,_,.cons h r=>.cons h (RepDs.app1 q r)
theorem Rep.off {K:zay3}{H1 H':Hp}{P:List Addr}{p:Addr}{d:D}{v:V}{vs:List V} (m:Lists H1 P) (hp:H1 p=some (.lst vs)) (k:∀q,q≠p→H' q=H1 q) (f:flat d=true) (r:Rep K H1 d v):Rep K (hide P H') d v:=by
 have:=Rep.hid (P:=p::P) (fun b hb=>by
  rcases zaz2.mp hb with rfl | hb
  ·exact⟨mL vs,hp⟩
  ·exact m b hb) f r
 refine Rep.mono (fun b o h=>?_) this
 obtain⟨n,h⟩:=zh5 h
 exact zb1 (by rw [k b fun z=>n (z ▸ zaz0 ..)];exact h) fun z=>n (zay5 _ z)
theorem psd_appP (i:Nat) {apos cpos:Pos} (ho:PE X o (plE X.K F i fs)) (he:PE X a (dE X.K F fa)) (hst:zba7 [a] X.env=[(false,eval a X.env)]:=by rfl)
  (hbase:attributeBase o "append" X.env (eval o X.env)=eval o X.env:=by rfl)
  (hfew:((zbf6 cpos (zba7 [a] X.env)).all (fun x=>!x.1)&&(backToKw cpos (keywordEach [] X.env)).all (fun x=>x.1.isSome)
   && decide ([a].length+([]:List Keyword).length+(if ([]:List Keyword).isEmpty then 0 else 1)<30))=true:=by rfl)
  (hline:(apos.endLine == cpos.line)=true:=by rfl) (hplain:(zbf6 cpos (zba7 [] X.env)).any (·.1)=false:=by rfl)
  (hsw:swapsWith (.Call (.Attribute o "append" apos) [a] [] cpos) none pos.line X.env=pure false:=by rfl) :
  PS X (.Expr (.Call (.Attribute o "append" apos) [a] [] cpos) pos) (dS X.K F (zaw2 i fs fa)):=by
 refine PS.imp (zaf4 (pe_bm zbl1 zbk5 zbk6 zn9 ho (zh4 he zm3 hst) hbase hfew hline hst hplain) hsw) ?_
 rintro E σ H ⟨A,t,o,R,e,h⟩
 unfold zaw2 at e
 cases e0:pthD fs t with
 |none=>rw [e0]at e;cases e
 |some ns =>
 cases e1:fa t with
 |none=>rw [e0,e1]at e;cases e
 |some r =>
  rw [e0,e1]at e
  have e:zat9 t i ns r=some o:=e
  unfold zat9 at e
  split at e
  case h_2=>cases e
  rename_i d z
  split at e
  case h_2=>cases e
  rename_i ds z1
  split at e
  case isFalse=>cases e
  rename_i ok
  simp only [zba6,decide_eq_true_eq]at ok
  cases e3:putP d ns (.lst (ds++[r.d])) with
  |none=>rw [e3]at e;cases e
  |some d2 =>
   rw [e3]at e
   cases e
   obtain⟨v,p,vs1,B1,a1,a2,a3,a4,a5,a6,a7⟩:=R.place z z1
   refine⟨A,t,v,ns,.ref p,R,e0,a1,a2,fun H1 gs=>⟨.inl ⟨rfl,vs1,SqL.of (gs _ _ a3)⟩,A,t,r,R.grow gs,e1,fun y H2 gs2 q=>⟨p,vs1,y,rfl,rfl,gs2 _ _ (gs _ _ a3),?_,?_⟩⟩⟩
   ·have:vs1.length<100000:=by rw [a4.length];exact ok.2
    exact zba5 this (by rw [sizeLine_eq];decide)
   ·have g2:=gs.trans gs2
    obtain⟨A2,R2,gr⟩:=a7 H2 (ds++[r.d]) (vs1++[y]) B1 d2 g2 (fun H' k hh=>by
     refine RepDs.app1 (.flat ok.1 (Rep.off (R.mu.mono g2) (g2 _ _ a3) k ok.1 q.full)) (RepDs.mono hh a4 fun b hb o w=>?_)
     rw [k b fun z=>a5 (z ▸ hb)]
     exact g2 _ _ w) (List.Sublist.refl _) e3
    exact h _ _ _ gr R2
end
end DL
namespace DL
open PySem.Spec L2
abbrev DN:=Th→Option (D×List Nat)
abbrev DNs:=Th→Option (List D×List Nat)
section
variable {X:Cx}{F:List Addr}{a b c o:Expr}{es:List Expr}{fa fb fc:DE}{fs:List DE}{ga:DA}{g g1 g2:DS}{ft fu:DT}{pos:Pos}{st:Stmt}{rest:List Stmt}{tg:Expr}{gt:TG}{kt:D→Th→Option Th}
noncomputable def kRep:Ev→Ev→Option Ev:=fun r1 r2=>match r1,r2.d with
 |.nw xs,.int k=>if xs.length≤100&&decide (-1000000≤k∧k≤1000) then some (.nw (zbb1 k.toNat xs).flatten) else none
 |_,_=>none
theorem Reps.rep {K:zay3}{H:Hp}{ds:List D}{vs:List V} (r:Reps K H ds vs):∀k:Nat,Reps K H (zbb1 k ds).flatten (zbb1 k vs).flatten
 |0=>by simpa using .nil
 |k+1=>by simpa [zbe7] using r.app (Reps.rep r k)
theorem zn8:OpD X F (binaryOp .Mult) kRep:=by
 intro pins s σ H0 H A x y v u Q r1 r2 r I m g0 rx ry q1 q2 e hq
 unfold kRep at e
 split at e
 ·rename_i xs k z
  split at e
  ·rename_i ok
   simp only [zba6,decide_eq_true_eq]at ok
   cases e
   have p2:=q2.full
   rw [z]at p2
   cases zc8 p2
   obtain⟨p,vs,rfl,h1,h2,h3⟩:=q1
   refine op_rep pins s σ H _ _ v u Q I rx ry ⟨p,k,vs,rfl,rfl,h2,by lia,by lia,?_,fun l hl=>hq _ _ (zc2 hl) ⟨l,_,rfl,Same.free g0 hl,zb3,Reps.mono (zi4 hl) (Reps.rep (Reps.mono (za6 H fun a z=>zay5 _ z) h3) _)⟩⟩
   refine le_line ?_
   rw [h3.length]
   have h5:k.toNat≤1000:=by lia
   exact zbd7 (Nat.mul_le_mul ok.1 h5) (by decide)
  ·cases e
 ·cases e
end
end DL
namespace DL
open PySem.Spec L2
def mkG (k:Nat) (N:List Str) (g:DS):List D→Option Ev:=fun ds=>if ds.length=k then (g (zu7 N ds)).bind zi9 else none
theorem zf4 {k:Nat}{N:List Str}{g:DS}{ds:List D}{r:Ev} (e:mkG k N g ds=some r):ds.length=k:=by
 unfold mkG at e
 split at e
 ·assumption
 ·cases e
theorem zh6 {k:Nat}{N:List Str}{g:DS}{ds:List D}{r:Ev} (e:mkG k N g ds=some r):∃o,g (zu7 N ds)=some o∧zi9 o=some r:=by
 unfold mkG at e
 split at e
 ·cases e1:g (zu7 N ds) with
  |none=>rw [e1]at e;cases e
  |some o=>rw [e1]at e;exact⟨o,rfl,e⟩
 ·cases e
section
variable {X:Cx}{F:List Addr}{elt tg iter:Expr}{ifs:List Expr}{scope:Scope}{pos spos py:Pos}{fs:DI}{g:TG}{kt:D→Th→Option Th}{ft:DT}{fe fc:DE}{i:Nat}{y:Str}
theorem compU {n:Nat}{cap:List Nat}{N':List Str} (up:∀ {σ:L2.St}{H:Hp}{Q:VK},dE X.K F fc σ H Q→zap7 n cap (dI X.K F fs) g (fun σ H Q => ∃F',dT X.K F' ft σ H Q) (fun σ H Q => ∃F',dE X.K F' fe σ H Q) σ H Q) (hc:X.calm=true) (hi:PI X tg iter (dI X.K F fs))
  (hg:∀C s₃ H₃ fp pins,PG (blk X N' scope C s₃ H₃ fp pins) tg g) (ht:∀C s₃ H₃ fp pins F',PTs (blk X N' scope C s₃ H₃ fp pins) ifs (dT X.K F' ft)) (he:∀C s₃ H₃ fp pins F',PE (blk X N' scope C s₃ H₃ fp pins) elt (dE X.K F' fe))
  (hNd:X.N.Nodup) (hi₀:X.N[i]?=some y) (hy:Loc X.env.scope y) (hsw:swapsWith (.ListComp elt [⟨tg,iter,ifs,0⟩] scope pos) (some (.Name y py)) spos.line X.env=pure true) (hf:X.fn y=true∨X.env.scope.names.lookup y=some .local)
  (hkd:scope.kind=.function) (hcs:zak9 scope.names X.env.kindOf=true) (hN:N'.length=n+cap.length) (hcap:zao5 N' X.N n scope.names 0 cap=true) (hs:∀x,foldedSetIterable iter X.env x=pure x) :
  PS X (.Assign [.Name y py] (.ListComp elt [⟨tg,iter,ifs,0⟩] scope pos) spos) (dS X.K F (dAsg i fc)):=by
 refine PS.imp (ps_compU (g:=g) (wi:=dI X.K F fs) (tt:=fun σ H Q => ∃F',dT X.K F' ft σ H Q) (te:=fun σ H Q => ∃F',dE X.K F' fe σ H Q) (compSc hkd hcs) hc hi hN (fun k j e=>by simpa using zy1 hcap k j e) hg (fun C s₃ H₃ fp pins pins' s σ H Q I ⟨F',q⟩=>ht C s₃ H₃ fp pins F' pins' s σ H Q I q) (fun C s₃ H₃ fp pins pins' s σ H Q I ⟨F',q⟩=>he C s₃ H₃ fp pins F' pins' s σ H Q I q) hNd hi₀ hy hsw hf hs) ?_
 rintro E σ H ⟨A,t,o,R,e,h⟩
 unfold dAsg at e
 cases e1:fc t with
 |none=>rw [e1]at e;cases e
 |some r1 =>
  rw [e1]at e
  have e:(zr4 t i r1).map Out.nx=some o:=e
  cases e2:zr4 t i r1 with
  |none=>rw [e2]at e;cases e
  |some t' =>
   rw [e2]at e
   cases e
   refine up ⟨A,t,r1,R,e1,fun v H' gs q=>?_⟩
   obtain⟨A',g',R'⟩:=R.put gs q e2
   exact h _ _ _ g' R'
theorem psd_setC (n:Nat) (cap:List Nat) (N':List Str) (hNd:X.N.Nodup) (hi₀:X.N[i]?=some y) (hy:Loc X.env.scope y) (hc:X.calm=true) (hi:PI X tg iter (dI X.K F fs))
  (hg:∀C s₃ H₃ fp pins,PG (blk X N' scope C s₃ H₃ fp pins) tg g) (hk:∀F',TgOk X.K F' g kt) (ht:∀C s₃ H₃ fp pins F',PTs (blk X N' scope C s₃ H₃ fp pins) ifs (dT X.K F' ft)) (he:∀C s₃ H₃ fp pins F',PE (blk X N' scope C s₃ H₃ fp pins) elt (dE X.K F' fe))
  (hsw:swapsWith (.ListComp elt [⟨tg,iter,ifs,0⟩] scope pos) (some (.Name y py)) spos.line X.env=pure true:=by rfl) (hf:X.fn y=true∨X.env.scope.names.lookup y=some .local:=by first | exact .inl rfl | exact .inr rfl)
  (hkd:scope.kind=.function:=by rfl) (hcs:zak9 scope.names X.env.kindOf=true:=by rfl) (hN:N'.length=n+cap.length:=by rfl) (hcap:zao5 N' X.N n scope.names 0 cap=true:=by rfl)
  (hs:∀x,foldedSetIterable iter X.env x=pure x:=by intro _;rfl):PS X (.Assign [.Name y py] (.ListComp elt [⟨tg,iter,ifs,0⟩] scope pos) spos) (dS X.K F (dAsg i (zq0 n cap fs kt ft fe))) :=
 compU (fun h=>zai4 hk h) hc hi hg ht he hNd hi₀ hy hsw hf hkd hcs hN hcap hs
end
end DL
namespace DL
open PySem.Spec L2
section
variable {X:Cx}{F:List Addr}{a b c o:Expr}{es:List Expr}{fa fb fc:DE}{fs:List DE}{ga:DA}{g g1 g2:DS}{ft fu:DT}{pos:Pos}{st:Stmt}{rest:List Stmt}{tg:Expr}{gt:TG}{kt:D→Th→Option Th}
def leastI:Int→List Int→Int
 |m,[]=>m
 |m,n::r=>leastI (if n<m then n else m) r
end
end DL
namespace DL
open PySem.Spec L2
def frzD:Sl→Sl
 |.own xs=>.val (.lst xs)
 |.dp d=>.val d
 |s=>s
def frzT (t:Th) (i:Nat):Th:=match t[i]? with
 |some s=>t.set i (frzD s)
 |none=>t
theorem zo3 (s:Sl) (t:Th) (i:Nat):frzT (s::t) (i+1)=s::frzT t i:=by
 unfold frzT
 simp only [zbg0]
 cases t[i]?<;>simp
theorem RSl.give {K:zay3}{H0 H:Hp}:∀ {t:Th}{σ:L2.St}{A:List Addr} (i:Nat),RSl K H0 H t σ A→A.Nodup→∃(B A':List Addr),A'.Sublist A∧(∀b∈B,b∈A∧b∉A')∧∀H1,Same H0 H1→(∀b∈B,∀o,H b=some o→H1 b=some o)→RSl K H1 H (frzT t i) σ A'
 |_,_,_,i,.nil,_=>⟨[],[],List.Sublist.refl _,fun b hb=>(by cases hb),fun H1 e _=>by simpa [frzT] using RSl.nil⟩
 |_,_,A,0,.no r,n=>⟨[],A,List.Sublist.refl _,fun b hb=>(by cases hb),fun H1 e _=>.no (RSl.mono e r fun _ _ _ h=>h)⟩
 |_,_,A,0,.val h r,n=>⟨[],A,List.Sublist.refl _,fun b hb=>(by cases hb),fun H1 e _=>.val (Rep.mono e h) (RSl.mono e r fun _ _ _ h=>h)⟩
 |_,_,_,0,.own (p:=p) (A:=A) h1 h2 r,n=>by
  have n0:=zbb5.mp n
  refine⟨[p],A,zbl7 _ _,fun b hb=>?_,fun H1 e k=>?_⟩
  ·simp at hb;subst hb;exact⟨zaz0 ..,n0.1⟩
  ·exact .val (.lst (SqL.of (k p (by simp) _ h1)) (Reps.mono e h2)) (RSl.mono e r fun _ _ _ h=>h)
 |_,_,_,0,.dp (B:=B) (A:=A) h r,n=>by
  have n0:=zba4.mp n
  refine⟨B,A,zbk1 _ _,fun b hb=>⟨zay6 _ hb,fun z=>n0.2.2 b hb b z rfl⟩,fun H1 e k=>?_⟩
  exact .val (h.rep e k) (RSl.mono e r fun _ _ _ h=>h)
 |_,_,_,i+1,.no r,n=>by
  obtain⟨B,A',a1,a2,a3⟩:=RSl.give i r n
  refine⟨B,A',a1,a2,fun H1 e k=>?_⟩
  rw [zo3];exact .no (a3 H1 e k)
 |_,_,_,i+1,.val h r,n=>by
  obtain⟨B,A',a1,a2,a3⟩:=RSl.give i r n
  refine⟨B,A',a1,a2,fun H1 e k=>?_⟩
  rw [zo3];exact .val (Rep.mono e h) (a3 H1 e k)
 |_,_,_,i+1,.own (p:=p) h1 h2 r,n=>by
  have n0:=zbb5.mp n
  obtain⟨B,A',a1,a2,a3⟩:=RSl.give i r n0.2
  refine⟨B,p::A',a1.cons₂ _,fun b hb=>⟨zay5 _ (a2 b hb).1,fun z=>?_⟩,fun H1 e k=>?_⟩
  ·rcases zaz2.mp z with w | w
   ·exact n0.1 (w ▸ (a2 b hb).1)
   ·exact (a2 b hb).2 w
  ·rw [zo3];exact .own h1 (Reps.mono e h2) (a3 H1 e k)
 |_,_,_,i+1,.dp (B:=C) h r,n=>by
  have n0:=zba4.mp n
  obtain⟨B,A',a1,a2,a3⟩:=RSl.give i r n0.2.1
  refine⟨B,C++A',List.Sublist.append (List.Sublist.refl _) a1,fun b hb=>⟨zay4 _ (a2 b hb).1,fun z=>?_⟩,fun H1 e k=>?_⟩
  ·rcases zay8.mp z with w | w
   ·exact n0.2.2 b w b (a2 b hb).1 rfl
   ·exact (a2 b hb).2 w
  ·rw [zo3];exact .dp (RepD.mono e h fun _ _ _ w=>w) (a3 H1 e k)
theorem RS.give {K:zay3}{F A:List Addr}{H:Hp}{t:Th}{σ:L2.St} (R:RS K F H A t σ) (i:Nat):∃A',RS K F H A' (frzT t i) σ∧Gr A H A' H:=by
 obtain⟨B,A',a1,a2,a3⟩:=R.rel.give i R.nd
 have sub:∀x∈A',x∈A:=fun x hx=>a1.subset hx
 refine⟨A',⟨fun q hq=>R.mu q ((zay8.mp hq).elim (fun z=>zay6 _ (sub q z)) fun z=>zay4 _ z),R.nd.sublist a1,fun p hp=>R.dj p (sub p hp),a3 _ (za6 H fun a z=>(zay8.mp z).elim (fun z=>zay6 _ (sub a z)) fun z=>zay4 _ z) fun b hb o h=>zb1 h fun z=>?_⟩,⟨fun _ _ _ h=>h,fun b hb=>?_,fun b hb=>.inl (sub b hb)⟩⟩
 ·rcases zay8.mp z with w | w
  ·exact (a2 b hb).2 w
  ·exact R.dj b (a2 b hb).1 w
 ·obtain⟨vs,q⟩:=R.mu b (zay6 _ hb)
  rw [q];simp
def dFrz (i:Nat) (g:DS):DS:=fun t=>g (frzT t i)
theorem dS_frz {K:zay3}{F:List Addr}{g:DS}{i:Nat}{E:Ends}{σ:L2.St}{H:Hp} (h:dS K F (dFrz i g) E σ H):dS K F g E σ H:=by
 obtain⟨A,t,o,R,e,p⟩:=zav9 h
 obtain⟨A',R',gr⟩:=R.give i
 exact dS_mk R' e (p.back gr)
theorem psd_frz {X:Cx}{F:List Addr}{g:DS}{st:Stmt} (i:Nat) (h:PS X st (dS X.K F g)):PS X st (dS X.K F (dFrz i g)):=PS.imp h fun _ _ _ q=>dS_frz q
section
variable {X:Cx}{F:List Addr}{a b c o:Expr}{es:List Expr}{fa fb fc:DE}{fs:List DE}{ga:DA}{g g1 g2:DS}{ft fu:DT}{pos:Pos}{st:Stmt}{rest:List Stmt}{tg:Expr}{gt:TG}{kt:D→Th→Option Th}
theorem zi6 {K:zay3}{H:Hp}{x:Str}{v:V} (h:Rep K H (.str x) v):v=.str x:=by cases h;rfl
def rB0 (f:Str→Bool):V→List V→Hp→VK→Prop:=fun x xs H Q => ∃y,x=.str y∧xs=[]∧Q (.bl (f y)) H
theorem zan6:MtR X "str.isdigit" (rB0 Txt.isdigit):=by
 intro pins s σ H x xs v us Q I rx rs h
 obtain⟨y,rfl,rfl,q⟩:=h
 obtain⟨t,rfl⟩:=rx
 cases Vals.zero rs
 exact SC.isdigit ⟨.bl _,H,I,rfl,q⟩
theorem zan7:MtR X "str.isascii" (rB0 Txt.isascii):=by
 intro pins s σ H x xs v us Q I rx rs h
 obtain⟨y,rfl,rfl,q⟩:=h
 obtain⟨t,rfl⟩:=rx
 cases Vals.zero rs
 exact SC.isascii ⟨.bl _,H,I,rfl,q⟩
def zat8 (f:Str→Bool):Ev→Option Ev:=fun r=>match r.d with
 |.str x=>some (.cl (.bl (f x)))
 |_=>none
theorem zaj8 {name:Str}{id:String}{f:Str→Bool}{apos cpos:Pos} (slot:Slot "str" name id) (hty:typeOf (.builtin id)=pure (.type "method_descriptor")) (hm:MtR X id (rB0 f)) (ha:PE X a (dE X.K F fa))
  (hbase:attributeBase a name X.env (eval a X.env)=eval a X.env:=by rfl) (hline:(apos.endLine == cpos.line)=true:=by rfl):PE X (.Call (.Attribute a name apos) [] [] cpos) (dE X.K F (d1 (zat8 f) fa)):=by
 refine PE.imp (pe_bm0 zbi1 slot hty hm ha hbase hline) ?_
 rintro σ H Q ⟨A,t,r,R,e,h⟩
 unfold d1 at e
 cases e1:fa t with
 |none=>rw [e1]at e;cases e
 |some r1 =>
  rw [e1]at e
  have e:zat8 f r1=some r:=e
  unfold zat8 at e
  split at e
  ·rename_i x z
   cases e
   refine⟨A,t,r1,R,e1,fun y H1 gs q=>?_⟩
   have p:=q.full
   rw [z]at p
   cases zi6 p
   exact⟨rfl,x,rfl,rfl,h _ H1 gs (.bl _)⟩
  ·cases e
def zz1:List D→Option (List Str)
 |[]=>some []
 |.str i::r=>(zz1 r).map fun ns=>i::ns
 |_::_=>none
theorem zai6:∀ {ds:List D}{ns:List Str},zz1 ds=some ns→ds=ns.map D.str
 |[],ns,e=>by cases e;rfl
 |.str i::r,ns,e=>by
  unfold zz1 at e
  cases e1:zz1 r with
  |none=>rw [e1]at e;cases e
  |some m=>rw [e1]at e;cases e;rw [zai6 e1];rfl
 |.non::r,ns,e=>by cases e
 |.int _::r,ns,e=>by cases e
 |.bl _::r,ns,e=>by cases e
 |.tup _::r,ns,e=>by cases e
 |.lst _::r,ns,e=>by cases e
theorem zz9 {K:zay3}{H:Hp}:∀ {ns:List Str}{vs:List V},Reps K H (ns.map D.str) vs→vs=ns.map V.str
 |[],_,.nil=>rfl
 |n::r,_,.cons h q=>by cases zi6 h;rw [zz9 q];rfl
theorem zy7:∀ {ns:List Str}{its:List Value},Vals (ns.map V.str) its→∃l:List (Str×Tok),its=strValues l∧l.map (·.1)=ns
 |[],its,h=>by cases h;exact⟨[],rfl,rfl⟩
 |n::r,its,h=>by
  cases h with
  |cons h1 h2 =>
   obtain⟨t,rfl⟩:=h1
   obtain⟨l,rfl,e⟩:=zy7 h2
   exact⟨(n,t)::l,rfl,by simp [e]⟩
noncomputable def rJoin (K:zay3):V→List V→Hp→VK→Prop:=fun x xs H Q => ∃y p ns,x=.str y∧xs=[.ref p]∧SqL K H p (ns.map V.str)∧JoinOk y ns=true∧Q (.str (Txt.join y ns)) H
theorem mt_join:MtR X "str.join" (rJoin X.K):=by
 intro pins s σ H x xs v us Q I rx rs h
 obtain⟨y,p,ns,rfl,rfl,hs,ok,q⟩:=h
 obtain⟨t,rfl⟩:=rx
 obtain⟨u,rfl,ru⟩:=Vals.one rs
 cases ru
 obtain⟨its,rv,pl,_⟩:=I.list hs
 obtain⟨l,rfl,e⟩:=zy7 rv
 exact SC.join (PlainL.isL pl) e ok fun t' k=>⟨.str _,H,I.tok k,⟨_,rfl⟩,q⟩
noncomputable def zx4:Ev→Ev→Option Ev:=fun r1 r2=>match r1.d,r2.d with
 |.str x,.lst ds=>(zz1 ds).bind fun ns=>if JoinOk x ns then some (.cl (.str (Txt.join x ns))) else none
 |_,_=>none
theorem zw8 {apos cpos:Pos} (ha:PE X a (dE X.K F fa)) (hb:PE X b (dE X.K F fb)) (hst:zba7 [b] X.env=[(false,eval b X.env)]:=by rfl)
  (hbase:attributeBase a "join" X.env (eval a X.env)=eval a X.env:=by rfl)
  (hfew:((zbf6 cpos (zba7 [b] X.env)).all (fun x=>!x.1)&&(backToKw cpos (keywordEach [] X.env)).all (fun x=>x.1.isSome)
   && decide ([b].length+([]:List Keyword).length+(if ([]:List Keyword).isEmpty then 0 else 1)<30))=true:=by rfl)
  (hline:(apos.endLine == cpos.line)=true:=by rfl) (hplain:(zbf6 cpos (zba7 [] X.env)).any (·.1)=false:=by rfl):PE X (.Call (.Attribute a "join" apos) [b] [] cpos) (dE X.K F (d2 zx4 fa fb)):=by
 refine PE.imp (pe_bm zbi1 PySem.F.slot_str_join PySem.F.type_str_join mt_join ha (zh4 hb zm3 hst) hbase hfew hline hst hplain) ?_
 intro σ H Q h
 obtain⟨A,t,r1,r2,r,R,e1,e2,e,h,w⟩:=two h
 unfold zx4 at e
 split at e
 ·rename_i x ds z1 z2
  cases e3:zz1 ds with
  |none=>rw [e3]at e;cases e
  |some ns =>
   rw [e3]at e
   simp only [zaz3]at e
   split at e
   case isFalse=>cases e
   rename_i ok
   cases e
   refine⟨A,t,r1,R,e1,fun u H1 gs q=>?_⟩
   have p:=q.full
   rw [z1]at p
   cases zi6 p
   refine⟨rfl,A,t,r2,R.grow gs,e2,fun u2 H2 gs2 q2=>?_⟩
   have p2:=q2.full
   rw [z2,zai6 e3]at p2
   cases p2 with
   |@lst _ l vs h1 h2 =>
    rw [zz9 h2]at h1
    exact⟨x,l,ns,rfl,rfl,h1,ok,h _ H2 (gs.trans gs2) (.str _)⟩
 ·cases e
noncomputable def kLenS:List Ev→Option Ev:=fun rs=>match rs with
 |[r]=>(match r.d with
  |.str x=>if x.length≤100000 then some (.cl (.int x.length)) else none
  |_=>none)
 |_=>none
theorem cd_lenS:CallD X F (.builtin "len") kLenS:=CallD.of zad3 fun H0 H A xs rs e Q m g q ek hq=>by
 unfold kLenS at ek
 split at ek
 case h_2=>cases ek
 cases q with
 |cons q1 q2 =>
  cases q2
  split at ek
  case h_2=>cases ek
  rename_i x z
  split at ek
  case isFalse=>cases ek
  rename_i c
  cases ek
  have p:=q1.full
  rw [z]at p
  cases zi6 p
  exact⟨x,rfl,le_line c,hq _ H (Same.refl H) (.int _)⟩
noncomputable def kIntS:List Ev→Option Ev:=fun rs=>match rs with
 |[r]=>(match r.d with
  |.str x=>if x.length≤640 then (PySem.intText? x).map fun n=>.cl (.int n) else none
  |_=>none)
 |_=>none
theorem zax1:zq7 X (.type "int") (fun xs H Q => ∃x n,xs=[.str x]∧PySem.intText? x=some n∧x.length≤640∧Q (.int n) H):=by
 intro pins s σ H xs us Q I r h
 obtain⟨x,n,rfl,h1,h2,q⟩:=h
 obtain⟨u,rfl,ru⟩:=zam2 r
 obtain⟨t,rfl⟩:=ru
 exact PySem.W.KIN.call_text h1 h2 ⟨.int n,H,I.tok _,⟨_,rfl⟩,q⟩
theorem cd_intS:CallD X F (.type "int") kIntS:=CallD.of zax1 fun H0 H A xs rs e Q m g q ek hq=>by
 unfold kIntS at ek
 split at ek
 case h_2=>cases ek
 cases q with
 |cons q1 q2 =>
  cases q2
  split at ek
  case h_2=>cases ek
  rename_i x z
  split at ek
  case isFalse=>cases ek
  rename_i c
  cases e1:PySem.intText? x with
  |none=>rw [e1]at ek;cases ek
  |some n =>
   rw [e1]at ek
   cases ek
   have p:=q1.full
   rw [z]at p
   cases zi6 p
   exact⟨x,n,rfl,e1,c,hq _ H (Same.refl H) (.int _)⟩
end
end DL
namespace DL
open PySem.Spec L2
section
variable {X:Cx}{F:List Addr}{a b c o:Expr}{es:List Expr}{fa fb fc:DE}{fs:List DE}{ga:DA}{g g1 g2:DS}{ft fu:DT}{pos:Pos}{st:Stmt}{rest:List Stmt}{tg:Expr}{gt:TG}{kt:D→Th→Option Th}
noncomputable def kIxS:Ev→Ev→Option Ev:=fun r1 r2=>match r1.d,r2.d with
 |.str x,.int i=>if x.length≤100000 then (atI x.cps.toList i).map fun c=>.cl (.str ⟨#[c]⟩) else none
 |_,_=>none
theorem ped_ixS (ha:PE X a (dE X.K F fa)) (hb:PE X b (dE X.K F fb)) (hs:zy5 b:=by intro _ _;rfl):PE X (.Subscript a b pos) (dE X.K F (d2 kIxS fa fb)):=by
 refine PE.imp (pe_ix ix_str ha hb hs) ?_
 intro σ H Q h
 obtain⟨A,t,r1,r2,r,R,e1,e2,e,h,w⟩:=two h
 unfold kIxS at e
 split at e
 case h_2=>cases e
 rename_i x i z1 z2
 split at e
 case isFalse=>cases e
 rename_i c
 cases e3:atI x.cps.toList i with
 |none=>rw [e3]at e;cases e
 |some k =>
  rw [e3]at e
  cases e
  refine⟨A,t,r1,R,e1,fun u H1 gs q=>⟨A,t,r2,R.grow gs,e2,fun u2 H2 gs2 q2=>?_⟩⟩
  have p:=q.full
  rw [z1]at p
  cases zi6 p
  have p2:=q2.full
  rw [z2]at p2
  cases zc8 p2
  exact⟨x,i,k,rfl,rfl,le_line c,e3,h _ H2 (gs.trans gs2) (.str _)⟩
end
end DL
namespace L2
open PySem.W
def bndS:Nat:=2 ^ 1048576
theorem zu5:∀ {ns:List Int}{n:Int},n∈ns→WData.weight (.int n)≤WData.weightAll (ns.map WData.int)
 |m::r,n,h=>by
  rw [zba2]
  unfold WData.weightAll
  rcases zaz2.mp h with rfl | z
  ·lia
  ·have:=zu5 z;lia
theorem bnd_of {ns:List Int} (h:WData.layableAll [WData.list (ns.map WData.int)]=true):∀n∈ns,n.natAbs<bndS:=fun n hn=>by
 have h1:WData.layable (WData.list (ns.map WData.int))=true:=by simpa [WData.layableAll] using h
 have h2:WData.weight (WData.list (ns.map WData.int))≤2 ^ 20:=by
  unfold WData.layable at h1
  simp only [zba6,decide_eq_true_eq]at h1
  exact h1.2
 have h3:WData.weight (.int n)≤2 ^ 20:=by
  refine zbd7 (zu5 hn) ?_
  have e:WData.weight (WData.list (ns.map WData.int))=WData.weightAll (ns.map WData.int):=by simp [WData.weight]
  rw [← e];exact h2
 by_cases z:n=0
 ·subst z;unfold bndS;exact Nat.pow_pos (by decide)
 ·have h4:n.natAbs.log2+1≤2 ^ 20:=by
   have:WData.weight (.int n)=n.natAbs.log2+1:=by simp [WData.weight,z]
   rw [← this];exact h3
  have h5:n.natAbs.log2<1048576:=by lia
  exact (Nat.log2_lt (by lia)).mp h5
end L2
namespace DL
open PySem.Spec L2
noncomputable def spM (K:zay3) (G:List D→Option Ev):Sp:=fun vs H Q _ => ∃(Fo:List Addr) (p:Addr) (ws vs':List V) (xs ds:List D) (d:D),vs=.ref p::vs'∧Lists H (p::Fo)∧p∉Fo∧H p=some (.lst ws)∧Reps K (hide (p::Fo) H) xs ws∧Reps K (hide (p::Fo) H) ds vs'∧G (.lst xs::ds)=some (.cl d)∧scD d=true ∧
 ∀v H',(∀b o,b≠p→H b=some o→H' b=some o)→H' p≠none→(∀Hx,Rep K Hx d v)→Q v H'
structure CalM (P:Program) (w:World) (K:zay3) (mg:Str→Option Value) (base:BHeap) (x:Str) (k:Nat) (G:List D→Option Ev):Prop where
 ex:∃(a:Addr) (fd:FuncData) (ps:List Str),mg x=some (.ref a)∧zbd9 K (.ref a)=true∧L2.Binds K fd ps []∧FnOk P w K mg base CX0 k a fd ps (spM K G)
def sV:D→V
 |.bl b=>.bl b
 |.int i=>.int i
 |.str x=>.str x
 |_=>.non
def zam9 (ps:List (Int×Int)) (q:Int×Int):List (Int×Int):=if q∈ps then ps else ps++[q]
theorem zas2 (q:Int×Int):∀ps:List (Int×Int),((pkv ps).any fun kv=>decide (kv.1=[Sum.inl q.1,Sum.inl q.2]))=decide (q∈ps)
 |[]=>rfl
 |p::ps=>by
  have ih:=zas2 q ps
  unfold pkv at ih ⊢
  simp only [zba2,zbg4,ih]
  by_cases e:p=q
  ·subst e;simp
  ·have : ¬ (([Sum.inl p.1,Sum.inl p.2]:List Key)=[Sum.inl q.1,Sum.inl q.2]):=fun z=>by
    simp only [List.cons.injEq,Sum.inl.injEq,and_true]at z
    exact e (Prod.ext z.1 z.2)
   rw [decide_eq_false this,zbn9]
   simp only [zaz2]
   by_cases m:q∈ps
   ·rw [decide_eq_true m,decide_eq_true (Or.inr m)]
   ·rw [decide_eq_false m,decide_eq_false (fun z=>z.elim (fun w=>e w.symm) m)]
theorem putK_pkv (ps:List (Int×Int)) (q:Int×Int):putK (pkv ps) [Sum.inl q.1,Sum.inl q.2] (V.bl true)=pkv (zam9 ps q):=by
 unfold putK zam9
 rw [zas2]
 by_cases m:q∈ps
 ·rw [if_pos (decide_eq_true m),if_pos m]
  unfold pkv
  rw [zbf1]
  refine zbn1 fun p _=>?_
  show (if _ then _ else _)=_
  split<;>rfl
 ·rw [if_neg (by simpa using m),if_neg m]
  unfold pkv
  rw [zbm6]
  rfl
theorem pkv_len (ps:List (Int×Int)):(pkv ps).length=ps.length:=by simp [pkv]
theorem RS.placeP {K:zay3}{F A:List Addr}{H:Hp}{t:Th}{σ:L2.St}{i:Nat}{ps:List (Int×Int)} (R:RS K F H A t σ) (e:t[i]?=some (.dp (.pdc ps))) :
  ∃p,σ[i]?=some (some (.ref p))∧p∈A∧H p=some (.dT (pkv ps)) ∧
   ∀H2 ps2,(∀b o,b≠p→H b=some o→H2 b=some o)→H2 p=some (.dT (pkv ps2))→∃A2,RS K F H2 A2 (t.set i (.dp (.pdc ps2))) σ∧Gr A H A2 H2:=by
 obtain⟨v,B,a1,a2,a3,a4,a5⟩:=R.rel.focusDp R.nd e
 cases a4 with
 |flat f _=>simp [flat]at f
 |@pdc _ p h =>
  have pA:p∈A:=a2 p (by simp)
  refine⟨p,a1,pA,h,fun H2 ps2 kp hp=>?_⟩
  have hh:Same (hide (A++F) H) (hide (A++F) H2):=fun b o q=>by
   obtain⟨n,q⟩:=zh5 q
   exact zb1 (kp b o (fun z=>n (zay6 _ (z ▸ pA))) q) n
  obtain⟨A2,d1,d3⟩:=a5 _ _ (.pdc ps2) [p] hh (.pdc hp) (List.Sublist.refl _) (fun q hq nq o w=>kp q o (by simpa using nq) w)
  have sub:∀x∈A2,x∈A:=fun x hx=>d3.subset hx
  have mu:Lists H2 (A++F):=fun q hq=>by
   by_cases z:q=p
   ·exact⟨mT _,by rw [z];exact hp⟩
   ·obtain⟨us,w⟩:=R.mu q hq
    exact⟨us,kp q _ z w⟩
  refine⟨A2,⟨fun q hq=>mu q ?_,R.nd.sublist d3,fun q hq=>R.dj q (sub q hq),RSl.mono (za6 _ fun a z=>?_) d1 fun _ _ _ h=>h⟩,fun b o n h=>?_,fun b hb=>?_,fun b hb=>.inl (sub b hb)⟩
  ·exact (zay8.mp hq).elim (fun z=>zay6 _ (sub q z)) (fun z=>zay4 _ z)
  ·exact (zay8.mp z).elim (fun z=>zay6 _ (sub a z)) (fun z=>zay4 _ z)
  ·exact kp b o (fun z=>n (z ▸ pA)) h
  ·obtain⟨us,w⟩:=mu b (zay6 _ hb)
   rw [w];simp
section
variable {X:Cx}{F:List Addr}{a b c o:Expr}{es:List Expr}{fa fb fc:DE}{ga:DA}{pos pos1:Pos}
def dNewP:DE:=fun _=>some (.dn (.pdc []))
theorem ped_newP:PE X (.Dict [] [] pos) (dE X.K F dNewP):=by
 refine PE.imp pe_dnewT ?_
 rintro σ H Q ⟨A,t,r,R,e,h⟩
 cases e
 intro p hp
 refine h _ _ (zc2 hp) ⟨[p],by simp,fun b hb=>by simp at hb;subst hb;exact hp,.pdc zb3⟩
noncomputable def spP (G:List (Int×Int)→List Int→Option (List (Int×Int))):Sp:=fun vs H Q _ => ∃(p:Addr) (ps ps':List (Int×Int)) (ns:List Int),vs=.ref p::ns.map V.int∧H p=some (.dT (pkv ps))∧G ps ns=some ps' ∧
 ∀H',(∀b o,b≠p→H b=some o→H' b=some o)→H' p=some (.dT (pkv ps'))→Q .non H'
structure CalP (P:Program) (w:World) (K:zay3) (mg:Str→Option Value) (base:BHeap) (x:Str) (k:Nat) (G:List (Int×Int)→List Int→Option (List (Int×Int))):Prop where
 ex:∃(a:Addr) (fd:FuncData) (ps:List Str),mg x=some (.ref a)∧zbd9 K (.ref a)=true∧L2.Binds K fd ps []∧FnOk P w K mg base CX0 k a fd ps (spP G)
theorem Df.calP {P:Program}{w:World}{K:zay3}{mg:Str→Option Value}{base:BHeap}{x:Str}{st:Stmt}{ps:List Str}{a:Addr}{fd:FuncData}{k:Nat}{G:List (Int×Int)→List Int→Option (List (Int×Int))} (d:Df K mg x st ps a fd) (h:FnOk P w K mg base CX0 k a fd ps (spP G)):CalP P w K mg base x k G :=
 ⟨a,fd,ps,d.mgx,d.fn.kp,d.bd,h⟩
noncomputable def zv6 (i:Nat) (G:List (Int×Int)→List Int→Option (List (Int×Int))) (ga:DA):DS:=fun t=>match t[i]? with
 |some (.dp (.pdc ps))=>(ga t).bind fun rs=>(zk6 (rs.map Ev.d)).bind fun ns=>(G ps ns).map fun ps'=>.nx (t.set i (.dp (.pdc ps')))
 |_=>none
theorem zx8 {K:zay3}{F A:List Addr}{H H':Hp}:∀ {rs:List Ev}{vs:List V}{ns:List Int},RepEvs K F A H H' rs vs→zk6 (rs.map Ev.d)=some ns→vs=ns.map V.int
 |_,_,ns,.nil,e=>by cases e;rfl
 |_,_,ns,.cons (r:=r) (rs:=rs) h q,e=>by
  have e':=zq8 e
  cases ns with
  |nil=>simp at e'
  |cons n ns =>
   simp only [zba2,List.cons.injEq]at e'
   have p:=h.full
   rw [e'.1]at p
   cases zc8 p
   rw [zx8 q (by rw [e'.2];exact zac2 ns)]
   rfl
theorem zaa4 {k:Nat}{G:List (Int×Int)→List Int→Option (List (Int×Int))}{x y:Str}{p py:Pos} (i:Nat) (c:CalP X.prog X.w X.K X.mg X.base x k G) (hr:Room k X.A) (ha:PA X es (dA X.K F ga)) (hN:X.N[i]?=some y:=by rfl) (hv:Vis X.env.scope y:=by first | exact Or.inl rfl | exact Or.inr (Or.inl rfl) |exact Or.inr (Or.inr rfl)) (hd:(y ==("__debug__":Str))=false:=by decide)
  (hcd:(y ==("__classdict__":Str))=false:=by decide) (hg:Gl X x:=by rfl) (hdb:(x ==("__debug__":Str))=false:=by decide)
  (he:zba7 (.Name y py::es) X.env=(false,eval (.Name y py) X.env)::zba7 es X.env:=by rfl) (hpl:(zbf6 pos1 (zba7 es X.env)).any (·.1)=false:=by rfl)
  (hs:swapsWith (.Call (.Name x p) (.Name y py::es) [] pos1) none pos.line X.env=pure false:=by rfl) :
  PS X (.Expr (.Call (.Name x p) (.Name y py::es) [] pos1) pos) (dS X.K F (zv6 i G ga)):=by
 obtain⟨f,fd,ps,h1,h2,h3,h4⟩:=c.ex
 refine PS.imp (zaf4 (zas9 h4 hr hg h1 h2 h3 .nil (E:=E0) pass0 (zh4 (zr8 (i:=i) hN hv hd hcd) ha he) hdb he hpl) hs) ?_
 rintro E σ H ⟨A,t,o,R,e,h⟩
 unfold zv6 at e
 split at e
 case h_2=>cases e
 rename_i pz z
 cases e1:ga t with
 |none=>rw [e1]at e;cases e
 |some rs =>
  rw [e1]at e
  simp only [zaz3]at e
  cases e2:zk6 (rs.map Ev.d) with
  |none=>rw [e2]at e;cases e
  |some ns =>
   rw [e2]at e
   simp only [zaz3]at e
   cases e3:G pz ns with
   |none=>rw [e3]at e;cases e
   |some pz' =>
    rw [e3]at e
    cases e
    obtain⟨q,a1,a2,a3,a4⟩:=R.placeP z
    refine⟨_,a1,A,t,rs,R,e1,fun vs H1 gs q1=>?_⟩
    show spP G ((.ref q::vs)++[]) H1 _ E0
    rw [zbe0,zx8 q1 e2]
    refine⟨q,pz,pz',ns,rfl,gs _ _ a3,e3,fun H' kp hp=>?_⟩
    obtain⟨A2,R2,gr⟩:=a4 H' pz' (fun b o n w=>kp b o n (gs _ _ w)) hp
    exact h _ _ _ gr R2
end
end DL
namespace DL
open PySem.Spec L2
noncomputable def zaf9 (m k:Int):Int×Int:=((if (k.fdiv m).fmod m<k.fmod m then (k.fdiv m).fmod m else k.fmod m),(if k.fmod m<(k.fdiv m).fmod m then (k.fdiv m).fmod m else k.fmod m))
noncomputable def putG (ps:List (Int×Int)) (ns:List Int):Option (List (Int×Int)):=match ns with
 |[m,k]=>if 0<m∧sm m=true∧ps.length<100000 then some (if k.fmod m=(k.fdiv m).fmod m then ps else zam9 ps (zaf9 m k)) else none
 |_=>none
section
variable {X:Cx}{F:List Addr}{e1 e2 c o ke kv:Expr}{pos:Pos}
noncomputable def tPutB (K:zay3) (f1 f2:DE) (ft:DT) (gk:DA) (fv:DE):TS:=tSeq (tAsg (dE K [] f1) (zau6 3)) (tSeq (tAsg (dE K [] f2) (zau6 4)) (tIfS (dT K [] ft) (sDPut (tVar 0) (tTup (dA K [] gk)) (dE K [] fv)) tNext))
theorem put_runs {K:zay3}{H:Hp}{Q:VK}{p:Addr}{ps ps':List (Int×Int)}{m k:Int}{f1 f2:DE}{ft:DT}{gk:DA}{fv:DE} (hp:H p=some (.dT (pkv ps))) (hg:putG ps [m,k]=some ps')
  (h1:∀s3 s4,f1 [.dp (.pdc ps),.val (.int m),.val (.int k),s3,s4]=some (.cl (.int (k.fmod m)))) (h2:∀s3 s4,f2 [.dp (.pdc ps),.val (.int m),.val (.int k),s3,s4]=some (.cl (.int ((k.fdiv m).fmod m))))
  (h3:∀a b:Int,ft [.dp (.pdc ps),.val (.int m),.val (.int k),.val (.int a),.val (.int b)]=some (!decide (a=b)))
  (h4:∀a b:Int,gk [.dp (.pdc ps),.val (.int m),.val (.int k),.val (.int a),.val (.int b)]=some [.cl (.int (if b<a then b else a)),.cl (.int (if a<b then b else a))])
  (h5:∀a b:Int,fv [.dp (.pdc ps),.val (.int m),.val (.int k),.val (.int a),.val (.int b)]=some (.cl (.bl true)))
  (cont:∀H',(∀b o,b≠p→H b=some o→H' b=some o)→H' p=some (.dT (pkv ps'))→Q .non H') :
  tPutB K f1 f2 ft gk fv { nx:=fun _ H'=>Q .non H',rt:=Q } [some (.ref p),some (.int m),some (.int k),none,none] H:=by
 unfold putG at hg
 simp only at hg
 split at hg
 case isFalse=>cases hg
 rename_i hm
 have hg:=Option.some.inj hg
 have rs:∀(H1:Hp) (t3:Th) (σ3:L2.St),H1 p=some (.dT (pkv ps))→RSl K (hide ([p]++[]) H1) H1 t3 σ3 []→RS K [] H1 [p] (.dp (.pdc ps)::.val (.int m)::.val (.int k)::t3) (some (.ref p)::some (.int m)::some (.int k)::σ3):=fun H1 t3 σ3 hq r =>
  ⟨fun q hq'=>by simp at hq';subst hq';exact⟨mT _,hq⟩,by simp,fun q _=>by simp,.dp (B:=[p]) (.pdc hq) (.val (.int m) (.val (.int k) r))⟩
 refine⟨[p],_,_,rs H [.no,.no] [none,none] hp (.no (.no .nil)),h1 _ _,fun v H1 g1 q1=>?_⟩
 have ev:=q1.full
 cases zc8 ev
 refine⟨[p],_,_,rs H1 [.val (.int (k.fmod m)),.no] [some (.int (k.fmod m)),none] (g1 _ _ hp) (.val (.int _) (.no .nil)),h2 _ _,fun v H2 g2 q2=>?_⟩
 have ev:=q2.full
 cases zc8 ev
 have hp2:H2 p=some (.dT (pkv ps)):=g2 _ _ (g1 _ _ hp)
 have R2:=fun H' (hq:H' p=some (.dT (pkv ps)))=>rs H' [.val (.int (k.fmod m)),.val (.int ((k.fdiv m).fmod m))] [some (.int (k.fmod m)),some (.int ((k.fdiv m).fmod m))] hq (.val (.int _) (.val (.int _) .nil))
 refine⟨[p],_,_,R2 H2 hp2,h3 _ _,fun H3 g3=>?_⟩
 have hp3:=g3 _ _ hp2
 have s3:∀b o,H b=some o→H3 b=some o:=fun b o w=>g3 _ _ (g2 _ _ (g1 _ _ w))
 by_cases z:k.fmod m=(k.fdiv m).fmod m
 ·rw [decide_eq_true z]
  refine iteF ?_
  rw [if_pos z]at hg
  subst hg
  exact cont H3 (fun b o _ w=>s3 b o w) hp3
 ·rw [decide_eq_false z]
  refine iteT ?_
  rw [if_neg z]at hg
  subst hg
  refine⟨[p],_,_,R2 H3 hp3,h5 _ _,fun v H4 g4 q4=>?_⟩
  have ev:=q4.full
  cases ev with
  |bl =>
   refine⟨_,rfl,[p],_,_,R2 H4 (g4 _ _ hp3),h4 _ _,fun vs H5 g5 q5=>?_⟩
   have evs:=zx8 q5 (ns:=[(zaf9 m k).1,(zaf9 m k).2]) rfl
   subst evs
   refine⟨by simp [sizeLine_eq],fun b hb=>?_⟩
   have hp5:=g5 _ _ (g4 _ _ hp3)
   have nb:p≠b:=fun w=>by rw [w,hb]at hp5;cases hp5
   refine⟨p,_,rfl,DPut.t (k:=[Sum.inl (zaf9 m k).1,Sum.inl (zaf9 m k).2]) (by rw [zb5 nb];exact hp5) zb3 (by rw [pkv_len];exact zba5 hm.2.2 (by rw [sizeLine_eq];decide)),?_⟩
   refine cont _ (fun b' o n w=>?_) (by rw [zb3,putK_pkv])
   rw [zb5 n]
   have w5:=g5 _ _ (g4 _ _ (s3 _ _ w))
   rw [zb5 (fun q=>by rw [q,hb]at w5;cases w5)]
   exact w5
theorem zaq9 {ps ps':List (Int×Int)}{ns:List Int} (h:putG ps ns=some ps'):∃m k,ns=[m,k]:=by
 unfold putG at h
 split at h
 ·exact⟨_,_,rfl⟩
 ·cases h
theorem put_len {p:Addr}{ps ps':List (Int×Int)}{ns:List Int} (h:putG ps ns=some ps'):(V.ref p::ns.map V.int).length=3:=by
 obtain⟨m,k,rfl⟩:=zaq9 h
 rfl
def fP1:DE:=(d2 (kI cMod fun i j=>.int (i.fmod j)) (dVar 2) (dVar 1))
def fP2:DE:=(d2 (kI cMod fun i j=>.int (i.fmod j)) (d2 (kI cDiv fun i j=>.int (i.fdiv j)) (dVar 2) (dVar 1)) (dVar 1))
def ftP:DT:=(dBo (d2 kNe (dVar 3) (dVar 4)))
noncomputable def gkP:DA:=(za2 (dT1 (k2I fun i j=>if j<i then j else i) (za2 (dVar 3) (za2 (dVar 4) dNil))) (za2 (dT1 (k2I fun i j=>if j > i then j else i) (za2 (dVar 3) (za2 (dVar 4) dNil))) dNil))
def fvP:DE:=dC (.bl true)
theorem put_law {K:zay3}{H:Hp}{Q:VK}{p:Addr}{ps ps':List (Int×Int)}{m k:Int} (hp:H p=some (.dT (pkv ps))) (hg:putG ps [m,k]=some ps')
  (cont:∀H',(∀b o,b≠p→H b=some o→H' b=some o)→H' p=some (.dT (pkv ps'))→Q .non H') :
  tPutB K fP1 fP2 ftP gkP fvP { nx:=fun _ H'=>Q .non H',rt:=Q } [some (.ref p),some (.int m),some (.int k),none,none] H:=by
 have hm:0<m∧sm m=true:=by
  unfold putG at hg
  simp only at hg
  split at hg
  ·rename_i h;exact⟨h.1,h.2.1⟩
  ·cases hg
 have m0 : ¬ m=0:=by lia
 have cm:∀a:Int,cMod a m=true:=fun a=>by simp [cMod,m0]
 have cd:∀a:Int,cDiv a m=true:=fun a=>by simp [cDiv,m0,hm.2]
 refine put_runs hp hg (fun _ _=>?_) (fun _ _=>?_) (fun a b=>?_) (fun a b=>rfl) (fun a b=>rfl) cont
 ·show kI cMod (fun i j=>.int (i.fmod j)) (.cl (.int k)) (.cl (.int m))=_
  simp [kI,Ev.d,cm]
 ·show Option.bind (kI cDiv (fun i j=>.int (i.fdiv j)) (.cl (.int k)) (.cl (.int m))) (fun r=>kI cMod (fun i j=>.int (i.fmod j)) r (.cl (.int m)))=_
  simp [kI,Ev.d,cm,cd]
 ·unfold ftP dBo
  rw [show d2 kNe (dVar 3) (dVar 4) [.dp (.pdc ps),.val (.int m),.val (.int k),.val (.int a),.val (.int b)]=some (.cl (.bl (!eqD (.int a) (.int b)))) from rfl]
  show some (!eqD (.int a) (.int b))=_
  simp [eqD]
end
end DL
namespace PySem.SeqAt
open PySem.Spec
def fstD (e c:Nat→Bool):List Nat→Bool
 |[]=>false
 |j::r=>if e j then fstD e c r else c j
noncomputable def OpAt (op:CmpOp) (A:Around) (s:zaz5) (a b:Value) (k:Bool):Prop := ∀(prog:Program) (w:World) (E:Value→zaz5→Prop) (Q:Value→zaz5→Prop),Q (.bool k) s→wpAny (model prog w) A (richCompare op a b) Q E s
theorem zam5 (l b:Addr) (items items2:Array Value) (n n2:Nat) (dd dd2:Option Addr) (sl sl2:Array (Option Value)) (e c:Nat→Bool) :
  Meets (Builtin.«tuple.__lt__» ⟨[.ref l,.ref b],[]⟩)
   (fun A R s=>s.heap.get? l=some { cls:=.type "tuple",dict:=dd,data:=.seq items n,slots:=sl }∧s.heap.get? b=some { cls:=.type "tuple",dict:=dd2,data:=.seq items2 n2,slots:=sl2 } ∧
    (∀j (h1:j<items.size) (h2:j<items2.size),EqAt A.in1 s items[j] items2[j] (e j))∧(∀j (h1:j<items.size) (h2:j<items2.size),e j=false→OpAt .Lt A.in1 s items[j] items2[j] (c j))∧items.size=items2.size ∧
    R (.ok (.ret (.bool (fstD e c (zbf5 items.size))))) s) :=
 .of_wp fun prog w A R s h=>by
  obtain⟨hp,g,d,tk,os⟩:=s;obtain⟨hl,hb,he,hcc,hsz,h⟩:=h
  have f2:=AutoSeq1.sub_tuple_tuple
  have hZ:(items.toList.zip items2.toList).length=items.size:=by simp [hsz]
  wp_walk using wpAny_loadPart' hl,wpAny_loadPart' hb,wpAny_forIn_list _ (fun rest b s'=>b.1=none∧s'=⟨hp,g,d,tk,os⟩∧∃i,rest=(items.toList.zip items2.toList).drop i ∧
   R (.ok (.ret (.bool (fstD e c ((zbf5 items.size).drop i))))) ⟨hp,g,d,tk,os⟩) _
  case turn =>
   rintro ⟨y,x⟩ rest b s' ⟨hb',rfl,i,hz,hR⟩
   have hlt:i<(items.toList.zip items2.toList).length:=by
    rcases Nat.lt_or_ge i (items.toList.zip items2.toList).length with h' |h'
    ·exact h'
    ·rw [zbc8 h']at hz;cases hz
   have h1:i<items.size:=hZ ▸ hlt
   have h2:i<items2.size:=hsz ▸ h1
   rw [zbc7 hlt]at hz
   injection hz with hyx hrest
   have hy:y=items[i]:=by have:=congrArg Prod.fst hyx;simpa using this
   have hx:x=items2[i]:=by have:=congrArg Prod.snd hyx;simpa using this
   subst hy hx
   have hd:(zbf5 items.size).drop i=i ::(zbf5 items.size).drop (i+1):=by simp [zbc7,h1]
   rw [hd,fstD]at hR
   refine zay9 (he i h1 h2 prog w _ _ ?_)
   cases hy:e i with
   |true =>
    rw [hy]at hR
    wp_walk
    exact⟨rfl,rfl,i+1,hrest,by simpa using hR⟩
   |false =>
    rw [hy]at hR
    simp only [Bool.not_false,if_true]
    refine zay9 (wpAny_rule (zay9 (hcc i h1 h2 hy prog w _ _ ?_)))
    wp_walk
    exact⟨_,rfl,by simpa using hR⟩
  case fin =>
   rintro ⟨b1,b2⟩ s' ⟨hb',rfl,i,hz,hR⟩
   simp only at hb'
   subst hb'
   have hge:items.size≤i:=by
    rcases Nat.lt_or_ge i (items.toList.zip items2.toList).length with h' |h'
    ·rw [zbc7 h']at hz;cases hz
    ·exact hZ ▸ h'
   rw [zbc8 (by simpa using hge)]at hR
   wp_walk
   exact⟨_,rfl,by simpa [Builtin.Tuple.tupleCompareSizes,hsz,fstD] using hR⟩
  case h =>
   exact⟨rfl,rfl,0,rfl,by simpa using h⟩
theorem OpAt.tuples_lt {A:Around}{s:zaz5}{l b:Addr}{items items2:Array Value}{e c:Nat→Bool} (hl:s.heap.IsTuple l items) (hb:s.heap.IsTuple b items2) (hu:A.units<cLine) (hsz:items.size=items2.size)
  (he:∀j (h1:j<items.size) (h2:j<items2.size),EqAt A.in1 s items[j] items2[j] (e j)) (hc:∀j (h1:j<items.size) (h2:j<items2.size),e j=false→OpAt .Lt A.in1 s items[j] items2[j] (c j)) :
  OpAt .Lt A s (.ref l) (.ref b) (fstD e c (zbf5 items.size)):=fun prog w E Q h=>by
 obtain⟨⟨cls,dd,data,sl⟩,ho,hc1,n,hd⟩:=id hl
 obtain⟨⟨cls2,dd2,data2,sl2⟩,ho2,hc2,n2,hd2⟩:=id hb
 simp only at hc1 hd hc2 hd2
 subst hc1 hd hc2 hd2
 exact richCompare_meets_room (op:=.Lt) ⟨_,ho,rfl⟩ ⟨_,ho2,rfl⟩ F.slot_tuple_lt F.entry_tuple_lt (F.args_tuple_lt_2 _ _) (zam5 l b items items2 n n2 dd dd2 sl sl2 e c)
  ⟨ho,ho2,he,hc,hsz,show Value.bool _≠Value.notImplemented∧Q (.bool (fstD e c (zbf5 items.size))) s from ⟨(fun x=>nomatch x),h⟩⟩ hu
end PySem.SeqAt
namespace DL
open PySem.Spec L2
def cmpI (mx:Bool) (i j:Int):Bool:=if mx then decide (i > j) else decide (i<j)
def lexI (mx:Bool):List Int→List Int→Bool
 |i::r,j::q=>if decide (i=j) then lexI mx r q else cmpI mx i j
 |_,_=>false
noncomputable def cmpD (mx:Bool):D→D→Option Bool
 |.int i,.int j=>some (cmpI mx i j)
 |.tup xs,.tup ys=>(zk6 xs).bind fun is=>(zk6 ys).bind fun js=>if is.length=js.length then some (lexI mx is js) else none
 |_,_=>none
theorem zau7 {mx:Bool}:∀ {is js:List Int}{e c:Nat→Bool},is.length=js.length→(∀j a b,is[j]?=some a→js[j]?=some b→e j=decide (a=b)∧c j=cmpI mx a b)→SeqAt.fstD e c (zbf5 is.length)=lexI mx is js
 |[],[],e,c,_,_=>rfl
 |i::r,j::q,e,c,hl,h=>by
  have h0:=h 0 i j rfl rfl
  have shift:∀l:List Nat,SeqAt.fstD e c (l.map Nat.succ)=SeqAt.fstD (fun k=>e (k+1)) (fun k=>c (k+1)) l:=by
   intro l
   induction l with
   |nil=>rfl
   |cons a l ih=>simp only [zba2,SeqAt.fstD,ih]
  rw [zbe2,List.range_succ_eq_map,SeqAt.fstD,shift,h0.1,h0.2,lexI,zau7 (mx:=mx) (is:=r) (js:=q) (by simpa using hl) fun k a b h1 h2=>h (k+1) a b (by simpa using h1) (by simpa using h2)]
 |[],_::_,_,_,hl,_=>by simp at hl
 |_::_,[],_,_,hl,_=>by simp at hl
def pD (K:zay3) (mx:Bool):V→V→Hp→Bool→Prop:=fun y z H c => ∃d e,Rep K H d y∧Rep K H e z∧cmpD mx d e=some c
noncomputable def zax7 (mx:Bool) (fb:DE) (cs:List D):D→D→List D→Option D
 |b,_,[]=>some b
 |b,k,d::ds=>(fb (.val d::cs.map Sl.val)).bind fun r=>if flat r.d then (cmpD mx r.d k).bind fun c=>if c then zax7 mx fb cs d r.d ds else zax7 mx fb cs b k ds else none
noncomputable def dKey (mx:Bool) (cap:List Nat) (fa fb:DE):DE:=fun t=>(fa t).bind fun r=>(capD t cap).bind fun c=>match r.d with
 |.lst (d::ds)=>if (zk6 (d::ds)).isSome then (fb (.val d::c.2.map Sl.val)).bind fun k=>if flat k.d then (zax7 mx fb c.2 d k.d ds).map Ev.cl else none else none
 |_=>none
end DL
namespace L2
open PySem.Spec PySem.W
def lamOf (x:Str):Str:=x++".<locals>."++"<lambda>"
theorem zab7 {β:Type}:∀ {l:List (Nat×β)}{a:Nat}{o:β},l.lookup a=some o→(a,o)∈l
 |[],_,_,e=>by cases e
 |(b,x)::r,a,o,e=>by
  rw [zbc0]at e
  cases hb:a == b with
  |true=>rw [hb]at e;cases e;rw [eq_of_beq hb];exact .head _
  |false=>rw [hb]at e;exact .tail _ (zab7 e)
def tbOf (K:Frag) (names:List Str):List (Addr×Str):=names.filterMap fun x=>(tabIn K x).map fun q=>(q.2,lamOf x)
theorem of_tbOf {K:Frag}{names:List Str}{p:Addr×Str} (h:p∈tbOf K names):∃x∈names,∃c,tabIn K x=some (c,p.1):=by
 obtain⟨x,hx,e⟩:=zbk0.mp h
 cases q:tabIn K x with
 |none=>rw [q]at e;cases e
 |some r=>rw [q]at e;cases e;exact⟨x,hx,r.1,q⟩
def TbOk (K:Frag) (names:List Str):Prop := ∀p∈tbOf K names,(tbOf K names).lookup p.1=some p.2∧K.lookup p.1=none
theorem tbOk_nil {K:Frag}:TbOk K []:=fun p hp=>by cases hp
theorem zat5 {P:Program}{w:World}{K:Frag}{mg mb:Str→Option Value}{CX:CXT}{k:Nat}{fa a:Addr}{fd:FuncData}{x:Str}{sp:Sp}{s₁:zaz5}{vs:List Value}{ns:List Int}{names:List Str}
  (KX:K.In s₁.heap) (hns:s₁.heap.Ns mainGlobals mg) (hb:s₁.heap.Ns builtinsNs mb) (hbb:∀x:Str,x≠"__name__"→mb x=bootBuiltins x) (hlim:s₁.heap.NoLimit)
  (hbm:∃(bm:Addr) (ob:Obj),mg "__builtins__"=some (.ref bm)∧bm≠builtinsNs∧s₁.heap.get? bm=some ob∧ob.cls=.type "module"∧ob.dict=some builtinsNs∧ob.data=.plain) (hg:s₁.gens = #[])
  (ha:s₁.heap.get? a=some { cls:=.type "list",data:=.seq vs.toArray }) (hi:IntsAre vs ns) (hl:ns.length≤sizeLine) (hr:Room k callerA)
  (hT:∀x∈names,∀c P,tabIn K x=some (c,P)→CodeHd s₁.heap c P∧s₁.heap.get? P=some (tabObj #[])) (hn:TbOk K names)
  (F:∀base:BHeap,base.tabs=tbOf K names→K.In base→base.Ns mainGlobals mg→(∀x∈names,∀c P,tabIn K x=some (c,P)→CodeHd base c P)→FnOk P w K mg base CX k fa fd [x] sp)
  (hbind:∀(s:zaz5) (u:Value),BindsTo s fd ⟨[u],[]⟩ [(x,u)]) (hsp:∀H:Hp,SqL K H a (ns.map V.int)→sp [.ref a] H (fun v _=>v=.bl true) fun _ _ _=>False)
  (hCX:∀H e s',CX [] H s₁ (fun _ _ _=>False) e s'→False) :
  codeAny (model P w) callerA (.call (.ref fa) ⟨[.ref a],[]⟩) (fun r s'=>r=.ok (.ret (.bool true))∧OldK s₁.heap s'.heap∧s'.os=s₁.os∧AllBare s'.gens) s₁:=by
 have rv:=zy8 hi
 have lenV:=hi.length
 have tabH:∀p∈tbOf K names,∃c,CodeHd s₁.heap c p.1∧s₁.heap.get? p.1=some (tabObj #[]):=fun p hp=>by
  obtain⟨y,hy,c,e⟩:=of_tbOf hp
  exact⟨c,hT y hy c p.1 e⟩
 have core:∀H:Hp,SqL K H a (ns.map V.int)→HOk P w H s₁.heap→(∀p∈tbOf K names,H p.1=some (.tbl p.2)) →
   (∀b o,H b=some o→(b=a∧K.lookup a=none∧∃ob xs,o=.frz ob (.lst xs))∨∃q,o=.tbl q∧(b,q)∈tbOf K names) →
   codeAny (model P w) callerA (.call (.ref fa) ⟨[.ref a],[]⟩) (fun r s'=>r=.ok (.ret (.bool true))∧OldK s₁.heap s'.heap∧s'.os=s₁.os∧AllBare s'.gens) s₁:=by
  intro H hS hok hTB hH
  have free:∀ {b:Addr}{o:Obj},s₁.heap.get? b=some o→(o.cls=.type "list"→False)→o≠tabObj #[]→H b=none:=fun {b o} e n1 n2=>by
   cases q:H b with
   |none=>rfl
   |some u =>
    rcases hH b u q with ⟨rfl,_⟩ | ⟨qq,rfl,hm⟩
    ·rw [ha]at e;cases e;exact (n1 rfl).elim
    ·obtain⟨c,_,e2⟩:=tabH _ hm
     have e2:s₁.heap.get? b=some (tabObj #[]):=e2
     rw [e]at e2;cases e2;exact (n2 rfl).elim
  have nsK:∀ {b:Addr}{m:Str→Option Value},s₁.heap.Ns b m→(hidT s₁.heap H).Ns b m:=fun {b m} ⟨o,es,ep,e,d,r⟩=>⟨o,es,ep,zq9 e (by
   cases q:H b with
   |none=>rfl
   |some u =>
    rcases hH b u q with ⟨rfl,_⟩ | ⟨qq,rfl,hm⟩
    ·rw [ha]at e;cases e;cases d
    ·obtain⟨c,_,e2⟩:=tabH _ hm
     have e2:s₁.heap.get? b=some (tabObj #[]):=e2
     rw [e]at e2;cases e2;cases d),d,r⟩
  have hKb:K.In (hidT s₁.heap H):=fun b o e=>zq9 (KX b o e) (by
   cases q:H b with
   |none=>rfl
   |some u =>
    rcases hH b u q with ⟨rfl,n,_⟩ | ⟨qq,rfl,hm⟩
    ·rw [n]at e;cases e
    ·have n:K.lookup b=none:=(hn _ hm).2
     rw [n]at e;cases e)
  have hM:Mod K mg ⟨hidT s₁.heap H,tbOf K names⟩:=⟨hKb,nsK hns,⟨mb,nsK hb,hbb⟩,let ⟨mc,h1,h2⟩:=hlim;⟨mc,nsK h1,h2⟩,by
   obtain⟨bm,ob,b1,b2,b3,b4,b5,b6⟩:=hbm
   exact⟨bm,ob,b1,b2,zq9 b3 (free b3 (fun z=>by rw [b4]at z;simp at z) fun z=>by rw [z]at b4;cases b4),b4,b5,b6⟩⟩
  have hCd:∀x∈names,∀c P,tabIn K x=some (c,P)→CodeHd (hidT s₁.heap H) c P:=fun x hx c P e=>by
   obtain⟨⟨o,vs,file,tf,flags,tg,inF,text,tt,e1,r1,r⟩,_⟩:=hT x hx c P e
   exact⟨o,vs,file,tf,flags,tg,inF,text,tt,zq9 e1 (free e1 (fun z=>by rw [r1]at z;simp at z) fun z=>by rw [z]at r1;cases r1),r1,r⟩
  have e0:Env0 P w K mg ⟨hidT s₁.heap H,tbOf K names⟩ callerA [] s₁ H:=⟨rfl,hM,fun b o e=>of_hidT e,Nat.le_of_eq (zau5 _ _),trivial,fun b hb=>absurd (show b∈([]:List Addr) from hb) (by simp),hok,.of_eq hg,hTB⟩
  refine codeAny_mono ((F ⟨hidT s₁.heap H,tbOf K names⟩ rfl hKb (nsK hns) hCd).run callerA [] s₁ H ⟨[.ref a],[]⟩ [.ref a] [.ref a] _ _ hr e0 (hbind s₁ (.ref a)) (.cons rfl .nil) (hsp H hS)) fun r s' h=>?_
  cases r with
  |error e=>exact (hCX H e s' h).elim
  |ok fl =>
   cases fl with
   |next=>exact False.elim h
   |brk=>exact False.elim h
   |cont=>exact False.elim h
   |ret u =>
    obtain⟨v,H',os,bare,un,hok',r',q⟩:=h
    have q':v=.bl true:=q
    subst q'
    obtain rfl:u=Value.bool true:=r'
    have kp:∀b o,s₁.heap.get? b=some o→s'.heap.get? b=some o∨∃qq,H b=some (.tbl qq):=fun b o e=>by
     cases q:H b with
     |none=>exact .inl (un.keep b o e q (by intro z;exact absurd (show b∈([]:List Addr) from z) (by simp)) (by simp))
     |some u =>
      rcases hH b u q with ⟨rfl,_,ob,xs,rfl⟩ | ⟨qq,rfl,hm⟩
      ·obtain⟨e1,_⟩:=hok b _ q
       obtain⟨e2,_⟩:=hok' b _ (un.frzs b ob _ q)
       rw [e]at e1;cases e1
       exact .inl e2
      ·exact .inr ⟨qq,rfl⟩
    refine⟨rfl,⟨fun b o e=>?_,fun b o e=>?_⟩,os,bare⟩
    ·rcases kp b o e with z | ⟨qq,z⟩
     ·exact .inl z
     ·rcases hH b _ z with ⟨_,_,ob,xs,z2⟩ | ⟨q2,z2,hm⟩
      ·cases z2
      ·obtain⟨c,C,e2⟩:=tabH _ hm
       have e2:s₁.heap.get? b=some (tabObj #[]):=e2
       rw [e]at e2
       cases e2
       obtain⟨ps,e3,_⟩:=hok' b _ (un.tbls b _ z)
       have C:CodeHd s₁.heap c b:=C
       exact .inr (.inl ⟨(C.tab e).isCodeTable,rfl, #[],ps,rfl,by simpa using e3⟩)
    ·rcases kp b o e with z | ⟨qq,z⟩
     ·exact⟨o,z⟩
     ·obtain⟨ps,e3,_⟩:=hok' b _ (un.tbls b _ z)
      exact⟨_,e3⟩
 have tabO:∀(H:Hp) (p:Addr×Str),p∈tbOf K names→ObjOk P w H s₁.heap p.1 (.tbl p.2):=fun H p hp=>by
  obtain⟨c,_,e⟩:=tabH p hp
  exact⟨#[],e,trivial,fun pos cv z=>by cases z⟩
 have lk:∀b q,(tbOf K names).lookup b=some q→(b,q)∈tbOf K names:=fun b q e=>zab7 e
 have aT:∀q,(a,q)∈tbOf K names→False:=fun q hm=>by
  obtain⟨c,_,e⟩:=tabH _ hm
  have e:s₁.heap.get? a=some (tabObj #[]):=e
  rw [ha]at e;cases e
 cases hk:K.lookup a with
 |some o =>
  have e:=KX a o hk
  rw [ha]at e
  cases e
  refine core (fun b=>((tbOf K names).lookup b).map HO.tbl) (.inr ⟨_,vs.toArray,_,hk,rfl,rfl,rfl,by rw [zbb3,lenV];exact hl,by simpa using rv⟩) (fun b u z=>?_) (fun p hp=>by simp only [(hn p hp).1,zbf7]) fun b u z=>?_
  ·cases q:(tbOf K names).lookup b with
   |none=>simp only [q]at z;cases z
   |some qq=>simp only [q]at z;cases z;exact tabO _ _ (lk b qq q)
  ·cases q:(tbOf K names).lookup b with
   |none=>simp only [q]at z;cases z
   |some qq=>simp only [q]at z;cases z;exact .inr ⟨qq,rfl,lk b qq q⟩
 |none =>
  refine core (fun b=>if b=a then some (.frz { cls:=.type "list",data:=.seq vs.toArray } (.lst (ns.map V.int))) else ((tbOf K names).lookup b).map HO.tbl) (.inl (.inr ⟨{ cls:=.type "list",data:=.seq vs.toArray },if_pos rfl⟩)) (fun b u z=>?_) (fun p hp=>?_) fun b u z=>?_
  ·by_cases hb:b=a
   ·have z':=(if_pos hb).symm.trans z
    cases z'
    subst hb
    exact⟨ha,by rw [zbc4];exact hl,vs,_,rv,ha⟩
   ·have z':=(if_neg hb).symm.trans z
    cases q:(tbOf K names).lookup b with
    |none=>simp only [q]at z';cases z'
    |some qq=>simp only [q]at z';cases z';exact tabO _ _ (lk b qq q)
  ·have:p.1≠a:=fun e=>aT p.2 (by rw [← e];exact hp)
   simp only [this,if_false,(hn p hp).1,zbf7]
  ·by_cases hb:b=a
   ·have z':=(if_pos hb).symm.trans z
    cases z'
    exact .inl ⟨hb,hk,_,_,rfl⟩
   ·have z':=(if_neg hb).symm.trans z
    cases q:(tbOf K names).lookup b with
    |none=>simp only [q]at z';cases z'
    |some qq=>simp only [q]at z';cases z';exact .inr ⟨qq,rfl,lk b qq q⟩
end L2
namespace L2
open PySem.W
theorem walk_ofT {l:zbq1}{n k:Nat}{q:Program}{loose:List Str}{XP:(Str→Option Value)→Heap→Prop}{YP:World→Heap→Prop}{d:DefRec}{K:Params→zay3}{CX:World→CXT}{sp:World→Sp}{x:Str}{names:List Str}
  (hn:l.most=some n) (hn2:n≤sizeLine) (hdf:d.params.defaults=[]) (hr:Room k callerA)
  (hY:∀(w:World) (h:Heap),YP w h→(K w.params).In h) (hrec:∀x∈names,∃dr,(recsOf q).find? (fun e=>e.name == x)=some dr)
  (F:∀(w:World) (mg:Str→Option Value) (fa:Addr) (h:Heap),(K w.params).In h→h.Ns mainGlobals mg→mg d.name=some (.ref fa) →
   TbOk (K w.params) names∧∃fd:FuncData,(∀(s:zaz5) (u:Value),BindsTo s fd ⟨[u],[]⟩ [(x,u)]) ∧
    ∀base:BHeap,base.tabs=tbOf (K w.params) names→(K w.params).In base→base.Ns mainGlobals mg→(∀x∈names,∀c P,tabIn (K w.params) x=some (c,P)→CodeHd base c P)→FnOk l.prog w (K w.params) mg base (CX w) k fa fd [x] (sp w))
  (hsp:∀(w:World) (H:Hp) (a:Addr) (ns:List Int),ns.length≤n→(∀i∈ns,i.natAbs<bndS)→SqL (K w.params) H a (ns.map V.int)→sp w [.ref a] H (fun v _=>v=.bl true) fun _ _ _=>False)
  (hCX:∀(w:World) (H:Hp) (s:zaz5) (e:Value) (s':zaz5),CX w [] H s (fun _ _ _=>False) e s'→False) :
  zbs7 q loose XP YP l.row.toRowW d [] (fun f vs=>PySem.call f vs):=by
 intro w s₀ s₁ mg mb G Y fa o pm cd doc dV kV ho hd hcd hD hmg hg args vals as hpre hlay hrd hwl hlo
 obtain rfl:dV=.none:=Dflts.none hD hdf
 obtain rfl:kV=.none:=Dflts.noKw hD
 obtain⟨a,vs,ns,rfl,rfl,hobj,hints,hlen⟩:=Att.script_of hn hpre hwl
 have hb:=bnd_of hlay
 have KX:=hY w _ Y
 obtain⟨hok,fd,hbd,hF⟩:=F w mg fa _ KX G.T.g hmg
 refine enter_call (codeAny_mono (zat5 KX G.T.g G.T.b G.T.builtins G.T.nolimit G.T.bmain hg hobj hints (zbd7 hlen hn2) hr (fun x hx c P e=>by
  obtain⟨dr,h⟩:=hrec x hx
  exact tab_of G.T KX h e) hok hF hbd (fun H hS=>hsp w H a ns hlen hb hS) fun H e s'=>hCX w H s₁ e s') fun r s' hq=>?_)
 obtain⟨rfl,h2,h3,h4⟩:=hq
 exact⟨.inl ⟨.bool true,.bool true,[],rfl,fun _=>rfl,.bool true,Att.post_true l _,fun _=>⟨List.Pairwise.nil,fun _ hm=>(nomatch hm)⟩⟩,h2,h3,h4⟩
end L2
namespace DL
open PySem.Spec L2
theorem RS.less {K:zay3}{F F' A:List Addr}{H:Hp}{t:Th}{σ:L2.St} (R:RS K F H A t σ) (h:∀b∈F',b∈F):RS K F' H A t σ :=
 ⟨fun p hp=>R.mu p ((zay8.mp hp).elim (zay6 _) fun z=>zay4 _ (h p z)),R.nd,fun p hp z=>R.dj p hp (h p z),
  RSl.mono (za6 H fun x hx=>(zay8.mp hx).elim (zay6 _) fun z=>zay4 _ (h x z)) R.rel fun _ _ _ w=>w⟩
theorem RSl.loseDp {K:zay3}{H0 H:Hp}:∀ {t:Th}{σ:L2.St}{A:List Addr},RSl K H0 H t σ A→A.Nodup→∀ {i:Nat}{d:D},t[i]?=some (.dp d)→∃v B A',σ[i]?=some (some v)∧RepD K H0 H d v B∧RSl K H0 H (t.set i .no) σ A'∧(∀x∈A',x∈A)∧(∀x∈B,x∈A)∧(∀x∈A,x∈B∨x∈A')∧B.Nodup∧A'.Nodup∧(∀x∈A',x∉B):=by
 intro _ _ _ h
 induction h with
 |nil =>
  intro n i d e
  simp at e
 |@no _ _ _ _ r ih =>
  intro n i d e
  cases i with
  |zero =>
   simp at e
  |succ i =>
   obtain⟨v,B,A',a1,a2,a3,a4⟩:=ih n (i:=i) (d:=d) (by simpa using e)
   exact⟨v,B,A',by simpa using a1,a2,.no a3,a4⟩
 |@val _ _ _ _ _ h r ih =>
  intro n i d e
  cases i with
  |zero =>
   simp at e
  |succ i =>
   obtain⟨v,B,A',a1,a2,a3,a4⟩:=ih n (i:=i) (d:=d) (by simpa using e)
   exact⟨v,B,A',by simpa using a1,a2,.val h a3,a4⟩
 |@own p _ _ _ _ _ h1 h2 r ih =>
  intro n i d e
  cases i with
  |zero =>
   simp at e
  |succ i =>
   have n0:=zbb5.mp n
   obtain⟨v,B,A',a1,a2,a3,a4,a5,a6,a7,a8,a9⟩:=ih n0.2 (i:=i) (d:=d) (by simpa using e)
   refine⟨v,B,p::A',by simpa using a1,a2,.own h1 h2 a3,fun x hx=>?_,fun x hx=>zay5 _ (a5 x hx),fun x hx=>?_,a7,zbb5.mpr ⟨fun z=>n0.1 (a4 p z),a8⟩,fun x hx z=>?_⟩
   ·rcases zaz2.mp hx with w | w
    ·rw [w];exact zaz0 ..
    ·exact zay5 _ (a4 x w)
   ·rcases zaz2.mp hx with w | w
    ·rw [w];exact .inr (zaz0 ..)
    ·exact (a6 x w).imp id (zay5 _)
   ·rcases zaz2.mp hx with w | w
    ·exact n0.1 (w ▸ a5 x z)
    ·exact a9 x w z
 |@dp _ v C _ _ A h r ih =>
  intro n i d e
  cases i with
  |zero =>
   simp at e;subst e
   have n0:=zba4.mp n
   exact⟨v,C,A,rfl,h,.no r,fun x hx=>zay4 _ hx,fun x hx=>zay6 _ hx,fun x hx=>zay8.mp hx,n0.1,n0.2.1,fun x hx z=>n0.2.2 x z x hx rfl⟩
  |succ i =>
   have n0:=zba4.mp n
   obtain⟨v,B,A',a1,a2,a3,a4,a5,a6,a7,a8,a9⟩:=ih n0.2.1 (i:=i) (d:=d) (by simpa using e)
   refine⟨v,B,C++A',by simpa using a1,a2,.dp h a3,fun x hx=>?_,fun x hx=>zay4 _ (a5 x hx),fun x hx=>?_,a7,zba4.mpr ⟨n0.1,a8,fun x hx y hy e=>n0.2.2 x hx y (a4 y hy) e⟩,fun x hx z=>?_⟩
   ·rcases zay8.mp hx with w | w
    ·exact zay6 _ w
    ·exact zay4 _ (a4 x w)
   ·rcases zay8.mp hx with w | w
    ·exact .inr (zay6 _ w)
    ·exact (a6 x w).imp id (zay4 _)
   ·rcases zay8.mp hx with w | w
    ·exact n0.2.2 x w x (a5 x z) rfl
    ·exact a9 x w z
theorem RS.takeDp {K:zay3}{F A:List Addr}{H:Hp}{t:Th}{σ:L2.St}{i:Nat}{d:D} (R:RS K F H A t σ) (e:t[i]?=some (.dp d)) :
  ∃v B A',σ[i]?=some (some v)∧RS K (B++F) H A' (t.set i .no) σ∧B.Nodup∧(∀b∈B,b∉F)∧RepD K (hide (A'++(B++F)) H) H d v B∧(∀x∈A',x∈A)∧(∀x∈B,x∈A):=by
 obtain⟨v,B,A',a1,a2,a3,a4,a5,a6,a7,a8,a9⟩:=R.rel.loseDp R.nd e
 have s:Same (hide (A++F) H) (hide (A'++(B++F)) H):=za6 H fun x hx=>by
  rcases zay8.mp hx with z | z
  ·exact zay6 _ (a4 x z)
  ·rcases zay8.mp z with z | z
   ·exact zay6 _ (a5 x z)
   ·exact zay4 _ z
 refine⟨v,B,A',a1,⟨fun p hp=>?_,a8,fun p hp z=>?_,RSl.mono s a3 fun _ _ _ w=>w⟩,a7,fun b hb=>R.dj b (a5 b hb),RepD.mono s a2 fun _ _ _ w=>w,a4,a5⟩
 ·rcases zay8.mp hp with z | z
  ·exact R.mu p (zay6 _ (a4 p z))
  ·rcases zay8.mp z with z | z
   ·exact R.mu p (zay6 _ (a5 p z))
   ·exact R.mu p (zay4 _ z)
 ·rcases zay8.mp z with z | z
  ·exact a9 p hp z
  ·exact R.dj p (a4 p hp) z
abbrev DM:=Th→Option (D×Th)
abbrev DMs:=Th→Option (List D×Th)
structure Mv (K:zay3) (F A:List Addr) (H H':Hp) (B A':List Addr) (t':Th) (σ:L2.St):Prop where
 sm:Same H H'
 nd:B.Nodup
 dj:∀b∈B,b∉F
 rs:RS K (B++F) H' A' t' σ
 fr:∀b∈B,b∈A∨H b=none
 sb:∀b∈A',b∈A
noncomputable def dM (K:zay3) (F:List Addr) (f:DM):TE:=fun σ H Q => ∃A t d t',RS K F H A t σ∧f t=some (d,t')∧∀v H' B A',Mv K F A H H' B A' t' σ→RepD K (hide (A'++(B++F)) H') H' d v B→Q v H'
noncomputable def dMs (K:zay3) (F:List Addr) (f:DMs):TA:=fun σ H Q => ∃A t ds t',RS K F H A t σ∧f t=some (ds,t')∧∀vs H' B A',Mv K F A H H' B A' t' σ→RepDs K (hide (A'++(B++F)) H') H' ds vs B→Q vs H'
theorem RSl.loseOwn {K:zay3}{H0 H:Hp}:∀ {t:Th}{σ:L2.St}{A:List Addr},RSl K H0 H t σ A→A.Nodup→∀ {i:Nat}{ds:List D},t[i]?=some (.own ds)→∃p vs A',σ[i]?=some (some (.ref p))∧H p=some (.lst vs)∧Reps K H0 ds vs∧RSl K H0 H (t.set i .no) σ A'∧(∀x∈A',x∈A)∧p∈A∧(∀x∈A,x=p∨x∈A')∧A'.Nodup∧p∉A':=by
 intro _ _ _ h
 induction h with
 |nil =>
  intro n i d e
  simp at e
 |@no _ _ _ _ r ih =>
  intro n i d e
  cases i with
  |zero =>
   simp at e
  |succ i =>
   obtain⟨v,B,A',a1,a2,a2',a3,a4⟩:=ih n (i:=i) (ds:=d) (by simpa using e)
   exact⟨v,B,A',by simpa using a1,a2,a2',.no a3,a4⟩
 |@val _ _ _ _ _ h r ih =>
  intro n i d e
  cases i with
  |zero =>
   simp at e
  |succ i =>
   obtain⟨v,B,A',a1,a2,a2',a3,a4⟩:=ih n (i:=i) (ds:=d) (by simpa using e)
   exact⟨v,B,A',by simpa using a1,a2,a2',.val h a3,a4⟩
 |@own q vs _ _ _ A h1 h2 r ih =>
  intro n i d e
  cases i with
  |zero =>
   simp at e;subst e
   have n0:=zbb5.mp n
   exact⟨q,vs,A,rfl,h1,h2,.no r,fun x hx=>zay5 _ hx,zaz0 ..,fun x hx=>zaz2.mp hx,n0.2,n0.1⟩
  |succ i =>
   have n0:=zbb5.mp n
   obtain⟨p,vs,A',a1,a2,a2',a3,a4,a5,a6,a7,a8⟩:=ih n0.2 (i:=i) (ds:=d) (by simpa using e)
   refine⟨p,vs,q::A',by simpa using a1,a2,a2',.own h1 h2 a3,fun x hx=>?_,zay5 _ a5,fun x hx=>?_,zbb5.mpr ⟨fun z=>n0.1 (a4 q z),a7⟩,fun z=>?_⟩
   ·rcases zaz2.mp hx with w | w
    ·rw [w];exact zaz0 ..
    ·exact zay5 _ (a4 x w)
   ·rcases zaz2.mp hx with w | w
    ·rw [w];exact .inr (zaz0 ..)
    ·exact (a6 x w).imp id (zay5 _)
   ·rcases zaz2.mp z with w | w
    ·exact n0.1 (w ▸ a5)
    ·exact a8 w
 |@dp _ _ C _ _ _ h r ih =>
  intro n i d e
  cases i with
  |zero =>
   simp at e
  |succ i =>
   have n0:=zba4.mp n
   obtain⟨p,vs,A',a1,a2,a2',a3,a4,a5,a6,a7,a8⟩:=ih n0.2.1 (i:=i) (ds:=d) (by simpa using e)
   refine⟨p,vs,C++A',by simpa using a1,a2,a2',.dp h a3,fun x hx=>?_,zay4 _ a5,fun x hx=>?_,zba4.mpr ⟨n0.1,a7,fun x hx y hy e=>n0.2.2 x hx y (a4 y hy) e⟩,fun z=>?_⟩
   ·rcases zay8.mp hx with w | w
    ·exact zay6 _ w
    ·exact zay4 _ (a4 x w)
   ·rcases zay8.mp hx with w | w
    ·exact .inr (zay6 _ w)
    ·exact (a6 x w).imp id (zay4 _)
   ·rcases zay8.mp z with w | w
    ·exact n0.2.2 p w p a5 rfl
    ·exact a8 w
theorem RS.takeOwn {K:zay3}{F A:List Addr}{H:Hp}{t:Th}{σ:L2.St}{i:Nat}{ds:List D} (R:RS K F H A t σ) (e:t[i]?=some (.own ds)) :
  ∃p vs A',σ[i]?=some (some (.ref p))∧RS K ([p]++F) H A' (t.set i .no) σ∧p∉F∧H p=some (.lst vs)∧Reps K (hide (A'++([p]++F)) H) ds vs∧(∀x∈A',x∈A)∧p∈A:=by
 obtain⟨p,vs,A',a1,a2,a2',a3,a4,a5,a6,a7,a8⟩:=R.rel.loseOwn R.nd e
 have s:Same (hide (A++F) H) (hide (A'++([p]++F)) H):=za6 H fun x hx=>by
  rcases zay8.mp hx with z | z
  ·exact zay6 _ (a4 x z)
  ·rcases zay8.mp z with z | z
   ·rw [zbb0.mp z];exact zay6 _ a5
   ·exact zay4 _ z
 refine⟨p,vs,A',a1,⟨fun q hp=>?_,a7,fun q hp z=>?_,RSl.mono s a3 fun _ _ _ w=>w⟩,R.dj p a5,a2,Reps.mono s a2',a4,a5⟩
 ·rcases zay8.mp hp with z | z
  ·exact R.mu q (zay6 _ (a4 q z))
  ·rcases zay8.mp z with z | z
   ·rw [zbb0.mp z];exact R.mu p (zay6 _ a5)
   ·exact R.mu q (zay4 _ z)
 ·rcases zay8.mp z with z | z
  ·rw [zbb0.mp z]at hp;exact a8 hp
  ·exact R.dj q (a4 q hp) z
section
variable {X:Cx}{F:List Addr}{a b c o:Expr}{es:List Expr}{fa fb fc:DE}{fn:DM}{fns:DMs}{pos:Pos}
noncomputable def mOwn (i:Nat):DM:=fun t=>match t[i]? with
 |some (.own xs)=>if flats xs then some (.lst xs,t.set i .no) else none
 |some (.dp d)=>some (d,t.set i .no)
 |some (.val d)=>if flat d then some (d,t) else none
 |_=>none
theorem pm_own (i:Nat) {x:Str} (hN:X.N[i]?=some x:=by rfl) (hv:Vis X.env.scope x:=by first | exact Or.inl rfl | exact Or.inr (Or.inl rfl) |exact Or.inr (Or.inr rfl)) (hd:(x ==("__debug__":Str))=false:=by decide)
  (hcd:(x ==("__classdict__":Str))=false:=by decide):PE X (.Name x pos) (dM X.K F (mOwn i)):=by
 refine PE.imp (zr8 (i:=i) hN hv hd hcd) ?_
 rintro σ H Q ⟨A,t,d,t',R,e,h⟩
 unfold mOwn at e
 split at e
 ·rename_i xs q
  split at e
  case isFalse=>cases e
  rename_i f
  cases e
  obtain⟨p,vs,A',a1,R1,a3,a4,a5,a6,a7⟩:=R.takeOwn q
  exact⟨_,a1,h _ H [p] A' ⟨Same.refl H,by simp,fun b hb=>by rw [zbb0.mp hb];exact a3,R1,fun b hb=>by rw [zbb0.mp hb];exact .inl a7,a6⟩ (.lst a4 (RepDs.of_flat f a5))⟩
 ·rename_i d0 q
  cases e
  obtain⟨v,B,A',a1,R1,a3,a4,a5,a6,a7⟩:=R.takeDp q
  exact⟨v,a1,h v H B A' ⟨Same.refl H,a3,a4,R1,fun b hb=>.inl (a7 b hb),a6⟩ a5⟩
 ·rename_i d0 q
  split at e
  case isFalse=>cases e
  rename_i f
  cases e
  obtain⟨v,h1,h2⟩:=R.rel.getVal q
  exact⟨v,h1,h v H [] A ⟨Same.refl H,zbf4,fun b hb=>(by cases hb),R,fun b hb=>(by cases hb),fun b hb=>hb⟩ (.flat f h2)⟩
 ·cases e
def mNil:DMs:=fun t=>some ([],t)
def zx3 (f:DM) (g:DMs):DMs:=fun t=>(f t).bind fun q=>(g q.2).bind fun w=>some (q.1::w.1,w.2)
theorem pms_nil:PA X [] (dMs X.K F mNil):=PA.imp zm3 fun σ H Q ⟨A,t,ds,t',R,e,h⟩=>by cases e;exact h [] H [] A ⟨Same.refl H,zbf4,fun b hb=>(by cases hb),R,fun b hb=>(by cases hb),fun b hb=>hb⟩ .nil
theorem zaj7 (ha:∀F,PE X a (dM X.K F fn)) (hr:∀F,PA X es (dMs X.K F fns)) (hs:zba7 (a::es) X.env=(false,eval a X.env)::zba7 es X.env:=by rfl):PA X (a::es) (dMs X.K F (zx3 fn fns)):=by
 intro p pins s σ H Q I h
 obtain⟨A,t,ds,t',R,e,h⟩:=h
 unfold zx3 at e
 cases e1:fn t with
 |none=>rw [e1]at e;cases e
 |some q1 =>
  obtain⟨d1,t1⟩:=q1
  rw [e1]at e
  simp only [zaz3]at e
  cases e2:fns t1 with
  |none=>rw [e2]at e;cases e
  |some q2 =>
   obtain⟨ds2,t2⟩:=q2
   rw [e2]at e
   cases e
   rw [hs]
   show wpAny _ _ (spliced ((false,eval a X.env)::zbf6 p (zba7 es X.env))) _ _ s
   refine Calls.spliced_cons (thn (ha F pins s σ H (fun v H1 => ∃B1 A1,Mv X.K F A H H1 B1 A1 t1 σ∧RepD X.K (hide (A1++(B1++F)) H1) H1 d1 v B1) I ⟨A,t,d1,t1,R,e1,fun v H1 B1 A1 m1 r1=>⟨B1,A1,m1,r1⟩⟩) fun u s1 ⟨x,H1,I1,rx,B1,A1,m1,r1⟩=>?_)
   refine thn (hr (B1++F) p pins s1 σ H1 (fun vs H2=>Q (x::vs) H2) I1 ⟨A1,t1,ds2,t2,m1.rs,e2,fun vs H2 B2 A2 m2 r2=>?_⟩) fun us s2 ⟨xs,H2,I2,rx2,q2⟩=>⟨x::xs,H2,I2,.cons rx rx2,q2⟩
   have l1:Lists H2 B1:=r1.lists.mono m2.sm
   have d21:∀b∈B2,b∉B1:=fun b hb z=>m2.dj b hb (zay6 _ z)
   have mem:∀x,x∈A2++((B1++B2)++F)→x∈A2++(B2++(B1++F)):=fun x hx=>by
    simp only [zay8]at hx ⊢
    rcases hx with z | (z | z) |z
    ·exact .inl z
    ·exact .inr (.inr (.inl z))
    ·exact .inr (.inl z)
    ·exact .inr (.inr (.inr z))
   have mem':∀x,x∈(B1++B2)++F→x∈B2++(B1++F):=fun x hx=>by
    simp only [zay8]at hx ⊢
    rcases hx with (z | z) |z
    ·exact .inr (.inl z)
    ·exact .inl z
    ·exact .inr (.inr z)
   refine h (x::vs) H2 (B1++B2) A2 ⟨m1.sm.trans m2.sm,zba4.mpr ⟨m1.nd,m2.nd,fun y hy z hz e=>d21 z hz (e ▸ hy)⟩,fun b hb=>?_,m2.rs.less mem',fun b hb=>?_,fun b hb=>m1.sb b (m2.sb b hb)⟩ (.cons (B:=B1) (C:=B2) (RepD.hid (fun y hy=>m2.rs.mu y (mem y hy)) (za7 _ _) (RepD.mono (H0':=hide B1 H2) (fun b o w=>?_) r1 fun _ _ _ w=>m2.sm _ _ w)) (RepDs.mono (za6 H2 mem) r2 fun _ _ _ w=>w))
   ·rcases zay8.mp hb with z | z
    ·exact m1.dj b z
    ·exact fun w=>m2.dj b z (zay4 _ w)
   ·rcases zay8.mp hb with z | z
    ·exact m1.fr b z
    ·rcases m2.fr b z with w | w
     ·exact .inl (m1.sb b w)
     ·exact .inr (Same.free m1.sm w)
   ·obtain⟨n,w⟩:=zh5 w
    exact zb1 (m2.sm _ _ w) fun z=>n (zay4 _ (zay6 _ z))
def mTup (g:DMs):DM:=fun t=>(g t).bind fun q=>if q.1.length≤1000 then some (.tup q.1,q.2) else none
theorem pm_tup {x1} (h:PA X es (dMs X.K F fns)):PE X (.Tuple es x1 pos) (dM X.K F (mTup fns)):=by
 refine PE.imp (zas8 h) ?_
 rintro σ H Q ⟨A,t,d,t',R,e,h⟩
 unfold mTup at e
 cases e1:fns t with
 |none=>rw [e1]at e;cases e
 |some q =>
  obtain⟨ds,t2⟩:=q
  rw [e1]at e
  simp only [zaz3]at e
  split at e
  case isFalse=>cases e
  rename_i hl
  cases e
  refine⟨A,t,ds,t',R,e1,fun vs H1 B A1 m1 r1=>⟨by rw [r1.length];exact le_line (by lia),fun p hp=>?_⟩⟩
  have s1:=zc2 (o:=HO.tup vs) hp
  have np:p∉A1++(B++F):=zc1 m1.rs.mu hp
  exact h _ _ B A1 ⟨m1.sm.trans s1,m1.nd,m1.dj,m1.rs.grow s1,m1.fr,m1.sb⟩ (.tup (SqT.of (zb1 zb3 np)) (RepDs.mono (zc3 s1) r1 fun _ _ _ w=>s1 _ _ w))
def zaw0 (f:DM):DS:=fun t=>(f t).bind fun q=>some (.rt (.dn q.1))
theorem psd_retM (ha:PE X a (dM X.K F fn)):PS X (.Return (some a) pos) (dS X.K F (zaw0 fn)):=by
 refine PS.imp (zar5 ha) ?_
 rintro E σ H ⟨A,t,o,R,e,h⟩
 unfold zaw0 at e
 cases e1:fn t with
 |none=>rw [e1]at e;cases e
 |some q =>
  rw [e1]at e
  cases e
  refine⟨A,t,q.1,q.2,R,e1,fun v H' B A' m r1=>h v H' A (Gr.of_same R.mu.left m.sm) ⟨B,m.nd,fun b hb=>⟨m.fr b hb,m.dj b hb⟩,RepD.mono (za6 H' fun a z=>zay4 _ z) r1 fun _ _ _ w=>w⟩⟩
end
end DL
namespace TS
section
variable (κ π:Keyed→Int)
def rk (x:Keyed):Int:=κ x*1048576+π x
def Ris (l:List Keyed):Prop:=l.Pairwise fun a b=>rk κ π a≤rk κ π b
def zd2 (l m:List Keyed):Prop := ∀a∈l,∀b∈m,rk κ π a≤rk κ π b
variable {κ π}
theorem ze4 {l m:List Keyed} (h1:Ris κ π l) (h2:Ris κ π m) (h:zd2 κ π l m):Ris κ π (l++m):=zbc5.mpr ⟨h1,h2,h⟩
theorem ris_left {l m:List Keyed} (h:Ris κ π (l++m)):Ris κ π l:=(zbc5.mp h).1
theorem zaq5 {l m:List Keyed} (h:Ris κ π (l++m)):Ris κ π m:=(zbc5.mp h).2.1
theorem zaq6 {l m:List Keyed} (h:Ris κ π (l++m)):zd2 κ π l m:=(zbc5.mp h).2.2
theorem zae0 {l:List Keyed}:zd2 κ π l []:=fun _ _ b hb=>by cases hb
theorem zab5 {l:List Keyed}:zd2 κ π [] l:=fun _ ha=>by cases ha
theorem zi1 {l m n:List Keyed} (h1:zd2 κ π l n) (h2:zd2 κ π m n):zd2 κ π (l++m) n:=fun a ha b hb=>(zay8.mp ha).elim (fun z=>h1 a z b hb) fun z=>h2 a z b hb
theorem zo5 {l m n:List Keyed} (h1:zd2 κ π l m) (h2:zd2 κ π l n):zd2 κ π l (m++n):=fun a ha b hb=>(zay8.mp hb).elim (fun z=>h1 a ha b z) fun z=>h2 a ha b z
theorem zk8 {l m n:List Keyed} (h:zd2 κ π l m) (hs:∀b∈n,b∈m):zd2 κ π l n:=fun a ha b hb=>h a ha b (hs b hb)
theorem zn4 {l m n:List Keyed} (h:zd2 κ π l m) (hs:∀a∈n,a∈l):zd2 κ π n m:=fun a ha b hb=>h a (hs a ha) b hb
theorem zd9 {l:List Keyed} (h:Ris κ π l) (n:Nat):Ris κ π (l.drop n):=by
 have:=zaz6 n l
 rw [← this]at h
 exact zaq5 h
theorem zf0 {l:List Keyed} (h:Ris κ π l) (n:Nat):Ris κ π (l.take n):=by
 have:=zaz6 n l
 rw [← this]at h
 exact ris_left h
theorem zd1 {l:List Keyed} (h:Ris κ π l) (n:Nat):zd2 κ π (l.take n) (l.drop n):=by
 have:=zaz6 n l
 rw [← this]at h
 exact zaq6 h
theorem zz0 {α:Type} (l:List α) (i k:Nat):l.take (i+k)=l.take i++(l.drop i).take k:=List.take_add
structure Lo (X Y out:List Keyed) (i j:Nat):Prop where
 pm:out.Perm (X.take i++Y.take j)
 rs:Ris κ π out
 bx:zd2 κ π out (X.drop i)
 by':zd2 κ π out (Y.drop j)
variable {X Y out:List Keyed}{i j:Nat}
theorem Lo.x (h:Lo (κ:=κ) (π:=π) X Y out i j) (hX:Ris κ π X) (k:Nat) (hk:zd2 κ π ((X.drop i).take k) (Y.drop j)):Lo (κ:=κ) (π:=π) X Y (out++(X.drop i).take k) (i+k) j where
 pm:=by
  rw [zz0]
  refine (List.Perm.append_right _ h.pm).trans ?_
  rw [zaz4,zaz4]
  exact List.Perm.append_left _ zbd0
 rs:=ze4 h.rs (zf0 (zd9 hX i) k) (zk8 h.bx fun b hb=>zbc9 hb)
 bx:=by
  rw [← zbj0]
  refine zi1 (zk8 h.bx fun b hb=>zbb6 hb) (zd1 (zd9 hX i) k)
 by':=zi1 h.by' hk
theorem Lo.y (h:Lo (κ:=κ) (π:=π) X Y out i j) (hY:Ris κ π Y) (k:Nat) (hk:zd2 κ π ((Y.drop j).take k) (X.drop i)):Lo (κ:=κ) (π:=π) X Y (out++(Y.drop j).take k) i (j+k) where
 pm:=by
  rw [zz0, ← zaz4]
  exact List.Perm.append_right _ h.pm
 rs:=ze4 h.rs (zf0 (zd9 hY j) k) (zk8 h.by' fun b hb=>zbc9 hb)
 by':=by
  rw [← zbj0]
  refine zi1 (zk8 h.by' fun b hb=>zbb6 hb) (zd1 (zd9 hY j) k)
 bx:=zi1 h.bx hk
theorem Lo.endX (h:Lo (κ:=κ) (π:=π) X Y out i j) (hX:Ris κ π X) (hj:Y.length≤j):Ris κ π (out++X.drop i)∧(out++X.drop i).Perm (X++Y):=by
 refine⟨ze4 h.rs (zd9 hX i) h.bx,?_⟩
 refine (List.Perm.append_right _ h.pm).trans ?_
 rw [zbb7 hj,zaz4]
 refine (List.Perm.append_left _ zbd0).trans ?_
 rw [← zaz4,zaz6]
theorem Lo.endY (h:Lo (κ:=κ) (π:=π) X Y out i j) (hY:Ris κ π Y) (hi:X.length≤i):Ris κ π (out++Y.drop j)∧(out++Y.drop j).Perm (X++Y):=by
 refine⟨ze4 h.rs (zd9 hY j) h.by',?_⟩
 refine (List.Perm.append_right _ h.pm).trans ?_
 rw [zbb7 hi,zaz4,zaz6]
theorem Lo.last (h:Lo (κ:=κ) (π:=π) X Y out i j) (hX:Ris κ π X) (hY:Ris κ π Y) (hl:zd2 κ π (Y.drop j) (X.drop i)):Ris κ π (out++Y.drop j++X.drop i)∧(out++Y.drop j++X.drop i).Perm (X++Y):=by
 refine⟨ze4 (ze4 h.rs (zd9 hY j) h.by') (zd9 hX i) (zi1 h.bx hl),?_⟩
 refine (List.Perm.append_right _ (List.Perm.append_right _ h.pm)).trans ?_
 rw [zaz4,zaz4, ← zaz4 (Y.take j),zaz6]
 refine (List.Perm.append_left _ zbd0).trans ?_
 rw [← zaz4,zaz6]
theorem zv5 {α:Type}{l:List α}{i k:Nat} (h:k≤i):l.drop k=(l.take i).drop k++l.drop i:=by
 have e:=zaz6 (i - k) (l.drop k)
 rw [zbj0,show k+(i - k)=i by lia]at e
 rw [zbj1,e]
structure Hi (X Y out:List Keyed) (i j:Nat):Prop where
 pm:out.Perm (X.drop i++Y.drop j)
 rs:Ris κ π out.reverse
 bx:zd2 κ π (X.take i) out
 by':zd2 κ π (Y.take j) out
theorem ze6 {l m:List Keyed} (h:zd2 κ π l m):zd2 κ π l m.reverse:=fun a ha b hb=>h a ha b (List.mem_reverse.mp hb)
theorem Hi.x (h:Hi (κ:=κ) (π:=π) X Y out i j) (hX:Ris κ π X) (k:Nat) (hki:k≤i) (hk:zd2 κ π (Y.take j) ((X.take i).drop k)):Hi (κ:=κ) (π:=π) X Y (out++((X.take i).drop k).reverse) k j where
 pm:=by
  rw [zv5 (l:=X) hki]
  refine (List.Perm.append h.pm (zbg8 _)).trans ?_
  refine zbd0.trans ?_
  rw [zaz4]
 rs:=by
  rw [zbn2,zbm9]
  refine ze4 (zd9 (zf0 hX i) k) h.rs (ze6 (zn4 h.bx fun a ha=>zbb6 ha))
 bx:=by
  have e:X.take k=(X.take i).take k:=by rw [List.take_take];congr 1;lia
  rw [e]
  refine zo5 (zn4 h.bx fun a ha=>zbc9 ha) (ze6 (zd1 (zf0 hX i) k))
 by':=zo5 h.by' (ze6 hk)
theorem Hi.y (h:Hi (κ:=κ) (π:=π) X Y out i j) (hY:Ris κ π Y) (k:Nat) (hkj:k≤j) (hk:zd2 κ π (X.take i) ((Y.take j).drop k)):Hi (κ:=κ) (π:=π) X Y (out++((Y.take j).drop k).reverse) i k where
 pm:=by
  rw [zv5 (l:=Y) hkj]
  refine (List.Perm.append h.pm (zbg8 _)).trans ?_
  rw [zaz4]
  exact List.Perm.append_left _ zbd0
 rs:=by
  rw [zbn2,zbm9]
  refine ze4 (zd9 (zf0 hY j) k) h.rs (ze6 (zn4 h.by' fun a ha=>zbb6 ha))
 by':=by
  have e:Y.take k=(Y.take j).take k:=by rw [List.take_take];congr 1;lia
  rw [e]
  refine zo5 (zn4 h.by' fun a ha=>zbc9 ha) (ze6 (zd1 (zf0 hY j) k))
 bx:=zo5 h.bx (ze6 hk)
theorem Hi.endY (h:Hi (κ:=κ) (π:=π) X Y out i j) (hY:Ris κ π Y) (hi:i=0):Ris κ π (Y.take j++out.reverse)∧(Y.take j++out.reverse).Perm (X++Y):=by
 subst hi
 refine⟨ze4 (zf0 hY j) h.rs (ze6 h.by'),?_⟩
 refine (List.Perm.append_left _ ((zbg8 _).trans h.pm)).trans ?_
 refine zbd0.trans ?_
 rw [zaz4]
 refine List.Perm.append_left _ (zbd0.trans ?_)
 rw [zaz6]
theorem Hi.endX (h:Hi (κ:=κ) (π:=π) X Y out i j) (hX:Ris κ π X) (hj:j=0):Ris κ π (X.take i++out.reverse)∧(X.take i++out.reverse).Perm (X++Y):=by
 subst hj
 refine⟨ze4 (zf0 hX i) h.rs (ze6 h.bx),?_⟩
 refine (List.Perm.append_left _ ((zbg8 _).trans h.pm)).trans ?_
 rw [← zaz4,zaz6]
 simp
theorem Hi.first (h:Hi (κ:=κ) (π:=π) X Y out i j) (hX:Ris κ π X) (hY:Ris κ π Y) (hl:zd2 κ π (Y.take j) (X.take i)):Ris κ π (Y.take j++X.take i++out.reverse)∧(Y.take j++X.take i++out.reverse).Perm (X++Y):=by
 refine⟨ze4 (ze4 (zf0 hY j) (zf0 hX i) hl) h.rs (zi1 (ze6 h.by') (ze6 h.bx)),?_⟩
 refine (List.Perm.append_left _ ((zbg8 _).trans h.pm)).trans ?_
 rw [zaz4, ← zaz4 (X.take i),zaz6, ← zaz4]
 refine (List.Perm.append_right _ zbd0).trans ?_
 rw [zaz4,zaz6]
end
end TS
namespace TS
def gal':Bool→Keyed→Array Keyed→Nat→Nat→Nat→StateT SortSt Sem (Option Nat):=sortPriv% PySem.Builtin.gallop
noncomputable def bey (lf:Bool) (ky:Keyed) (ar:Array Keyed) (bs i:Nat):StateT SortSt Sem (Option Bool):=do
 let z ← elem' ar (bs+i)
 if lf then lt' z ky else return (← lt' ky z).map (!·)
noncomputable def galEnd (lf:Bool) (ky:Keyed) (ar:Array Keyed) (bs m l0 u0:Nat):StateT SortSt Sem (Option Nat):=do
 let mut lw:=l0
 let mut up:=u0
 for _ in [0:m] do
  if lw ≥ up then break
  let md:=lw+(up - lw) / 2
  let some mr ← bey lf ky ar bs md | return none
  if mr then lw:=md+1 else up:=md
 return some up
theorem gal'_eq (lf:Bool) (ky:Keyed) (ar:Array Keyed) (bs m ht:Nat):gal' lf ky ar bs m ht=(do
 let mut la:=0
 let mut of1:=1
 let mut lw:=0
 let mut up:=0
 let some rt ← bey lf ky ar bs ht | return none
 if rt then
  let mx:=m - ht
  for _ in [0:m] do
   if of1 ≥ mx then break
   let some mr ← bey lf ky ar bs (ht+of1) |return none
   if !mr then break
   la:=of1
   of1:=2*of1+1
  lw:=ht+la+1
  up:=ht+min of1 mx
 else
  let mx:=ht+1
  for _ in [0:m] do
   if of1 ≥ mx then break
   let some fd ← bey lf ky ar bs (ht - of1) |return none
   if fd then break
   la:=of1
   of1:=2*of1+1
  lw:=ht+1 - min of1 mx
  up:=ht - la
 for _ in [0:m] do
  if lw ≥ up then break
  let md:=lw+(up - lw) / 2
  let some mr ← bey lf ky ar bs md | return none
  if mr then lw:=md+1 else up:=md
 return some up):=rfl
structure Cmp (M:Model) (A:Around) (E:Value→zaz5→Prop) (s:zaz5) (κ π:Keyed→Int) (a₀:Array Keyed) (kd:SortKind):Prop where
 lt:∀(st:SortSt) (x y:Keyed) (Q:Option Bool→SortSt→Prop),kindOf st=kd→x∈a₀.toList→y∈a₀.toList→Q (some (decide (κ x<κ y))) st→wpS M A E s (lt' x y) Q st
 pi:∀x∈a₀.toList,0≤π x∧π x<1048576
section
variable {M:Model}{A:Around}{E:Value→zaz5→Prop}{s:zaz5}{κ π:Keyed→Int}{a₀:Array Keyed}{kd:SortKind} (C:Cmp M A E s κ π a₀ kd)
theorem zc4 {ar:Array Keyed}{i:Nat}{z:Keyed}{Q:Keyed→SortSt→Prop}{st:SortSt} (hz:ar[i]?=some z) (h:Q z st):wpS M A E s (elem' ar i) Q st:=by
 rw [elem'_eq,hz];exact zba3 h
def bv (κ:Keyed→Int) (lf:Bool) (ky z:Keyed):Bool:=if lf then decide (κ z<κ ky) else !decide (κ ky<κ z)
include C in
theorem wp_bey {lf:Bool}{ky z:Keyed}{ar:Array Keyed}{bs i:Nat}{Q:Option Bool→SortSt→Prop}{st:SortSt} (hk:kindOf st=kd) (hz:ar[bs+i]?=some z) (mz:z∈a₀.toList) (mk:ky∈a₀.toList) (h:Q (some (bv κ lf ky z)) st) :
  wpS M A E s (bey lf ky ar bs i) Q st:=by
 unfold bey
 refine zaz8 (zc4 hz ?_)
 cases lf with
 |true=>exact C.lt st z ky Q hk mz mk h
 |false=>exact zaz8 (C.lt st ky z _ hk mk mz (zba3 h))
include C in
theorem zu4 {lf:Bool}{ky:Keyed}{ar:Array Keyed}{bs m ht:Nat}{Q:Option Nat→SortSt→Prop}{st:SortSt} (hk:kindOf st=kd) (f:Nat→Bool) (hz:∀i,i<m→∃z,ar[bs+i]?=some z∧z∈a₀.toList∧bv κ lf ky z=f i) (mk:ky∈a₀.toList)
  (mono:∀i j,i≤j→j<m→f j=true→f i=true) (hht:ht<m) (h:∀n,n≤m→(∀i,i<n→f i=true)→(∀i,n≤i→i<m→f i=false)→Q (some n) st) :
  wpS M A E s (gal' lf ky ar bs m ht) Q st:=by
 have by':∀i {Q':Option Bool→SortSt→Prop},i<m→Q' (some (f i)) st→wpS M A E s (bey lf ky ar bs i) Q' st:=fun i Q' hi hq=>by
  obtain⟨z,z1,z2,z3⟩:=hz i hi
  exact wp_bey C hk z1 z2 mk (by rw [z3];exact hq)
 have nf:∀i j,i≤j→j<m→f i=false→f j=false:=fun i j h1 h2 h3=>by
  cases e:f j with
  |false=>rfl
  |true=>rw [mono i j h1 h2 e]at h3;cases h3
 have fin:∀lw up,lw≤up→up≤m→(∀i,i<lw→f i=true)→(∀i,up≤i→i<m→f i=false) →
   wpS M A E s (galEnd lf ky ar bs m lw up) Q st:=fun lw up h1 h2 h3 h4=>by
  unfold galEnd
  refine zaz8 (wpS_forRange (I:=fun x c st'=>st'=st∧∃l u,c=(none,l,u)∧l≤u∧u≤m∧u - l≤m - x∧(∀i,i<l→f i=true)∧(∀i,u≤i→i<m→f i=false)) ?_ ?_ ⟨rfl,lw,up,rfl,h1,h2,by lia,h3,h4⟩)
  ·rintro x c st' _ hx ⟨rfl,l,u,rfl,a1,a2,a3,a4,a5⟩
   dsimp only
   by_cases hge:l ≥ u
   ·rw [if_pos hge]
    refine zba3 ?_
    have:l=u:=by lia
    subst this
    exact zba3 (h l a2 a4 a5)
   ·rw [if_neg hge]
    refine zaz8 (by' _ (by lia) ?_)
    cases e:f (l+(u - l) / 2) with
    |true=>exact zba3 ⟨rfl,_,_,rfl,by lia,a2,by lia,fun i hi=>mono i _ (by lia) (by lia) e,a5⟩
    |false=>exact zba3 ⟨rfl,_,_,rfl,by lia,by lia,by lia,a4,fun i h1 h2=>nf _ i h1 h2 e⟩
  ·rintro c st' ⟨rfl,l,u,rfl,a1,a2,a3,a4,a5⟩
   have:l=u:=by lia
   subst this
   exact zba3 (h l a2 a4 a5)
 rw [gal'_eq]
 refine zaz8 (by' ht hht ?_)
 cases e:f ht with
 |true =>
  dsimp only
  rw [if_pos rfl]
  refine zaz8 (wpS_forRange (I:=fun x c st'=>st'=st∧∃la o,c=(none,la,o)∧la<o∧x+1≤o∧ht+la<m∧f (ht+la)=true) ?_ ?_ ⟨rfl,0,1,rfl,by lia,by lia,by lia,e⟩)
  ·rintro x c st' _ hx ⟨rfl,la,o,rfl,a1,a2,a3,a4⟩
   dsimp only
   by_cases hge:o ≥ m - ht
   ·rw [if_pos hge]
    refine zba3 ?_
    exact fin (ht+la+1) (ht+min o (m - ht)) (by lia) (by lia) (fun i hi=>mono i _ (by lia) a3 a4) (fun i h1 h2=>by lia)
   ·rw [if_neg hge]
    refine zaz8 (by' _ (by lia) ?_)
    cases e2:f (ht+o) with
    |true=>exact zba3 ⟨rfl,_,_,rfl,by lia,by lia,by lia,e2⟩
    |false =>
     refine zba3 ?_
     exact fin (ht+la+1) (ht+min o (m - ht)) (by lia) (by lia) (fun i hi=>mono i _ (by lia) a3 a4) (fun i h1 h2=>nf _ i (by lia) h2 e2)
  ·rintro c st' ⟨rfl,la,o,rfl,a1,a2,a3,a4⟩
   exact fin (ht+la+1) (ht+min o (m - ht)) (by lia) (by lia) (fun i hi=>mono i _ (by lia) a3 a4) (fun i h1 h2=>by lia)
 |false =>
  dsimp only
  rw [if_neg (by decide)]
  refine zaz8 (wpS_forRange (I:=fun x c st'=>st'=st∧∃la o,c=(none,la,o)∧la<o∧x+1≤o∧la≤ht∧f (ht - la)=false) ?_ ?_ ⟨rfl,0,1,rfl,by lia,by lia,by lia,e⟩)
  ·rintro x c st' _ hx ⟨rfl,la,o,rfl,a1,a2,a3,a4⟩
   dsimp only
   by_cases hge:o ≥ ht+1
   ·rw [if_pos hge]
    refine zba3 ?_
    exact fin (ht+1 - min o (ht+1)) (ht - la) (by lia) (by lia) (fun i hi=>by lia) (fun i h1 h2=>nf _ i h1 h2 a4)
   ·rw [if_neg hge]
    refine zaz8 (by' _ (by lia) ?_)
    cases e2:f (ht - o) with
    |true =>
     refine zba3 ?_
     exact fin (ht+1 - min o (ht+1)) (ht - la) (by lia) (by lia) (fun i hi=>mono i _ (by lia) (by lia) e2) (fun i h1 h2=>nf _ i h1 h2 a4)
    |false=>exact zba3 ⟨rfl,_,_,rfl,by lia,by lia,by lia,e2⟩
  ·rintro c st' ⟨rfl,la,o,rfl,a1,a2,a3,a4⟩
   exact fin (ht+1 - min o (ht+1)) (ht - la) (by lia) (by lia) (fun i hi=>by lia) (fun i h1 h2=>nf _ i h1 h2 a4)
end
end TS
namespace TS
def mLo':Array Keyed→Array Keyed→StateT SortSt Sem (Array Keyed):=sortPriv% PySem.Builtin.mergeLo
def mHi':Array Keyed→Array Keyed→StateT SortSt Sem (Array Keyed):=sortPriv% PySem.Builtin.mergeHi
abbrev setG (st:SortSt) (g:Nat):SortSt:=SortSt.mk' (kindOf st) (arrOf st) (pendingOf st) g (failedOf st)
def smg (g:Nat):StateT SortSt Sem Unit:=modify fun q=>setG q g
theorem mLo'_eq (xs ys:Array Keyed):mLo' xs ys=(do
 rule "list.sort.merge-lo"
 let tot:=xs.size+ys.size
 let fin (o:Array Keyed) (i j:Nat):=o++xs.extract i xs.size++ys.extract j ys.size
 let lst (o:Array Keyed) (i j:Nat):=o++ys.extract j ys.size++xs.extract i xs.size
 let mut o:Array Keyed := #[← elem' ys 0]
 let mut i:=0
 let mut j:=1
 if j == ys.size then return fin o i j
 if i+1 == xs.size then return lst o i j
 let mut mg:=gallopOf (← get)
 for _ in [0:tot] do
  let mut ac:=0
  let mut bc:=0
  for _ in [0:tot] do
   let some bw ← lt' (← elem' ys j) (← elem' xs i) |return fin o i j
   if bw then
    o:=o.push (← elem' ys j);j:=j+1;bc:=bc+1;ac:=0
    if j == ys.size then return fin o i j
    if bc ≥ mg then break
   else
    o:=o.push (← elem' xs i);i:=i+1;ac:=ac+1;bc:=0
    if i+1 == xs.size then return lst o i j
    if ac ≥ mg then break
  rule "list.sort.gallop"
  mg:=mg+1
  for _ in [0:tot] do
   if mg > 1 then mg:=mg - 1
   smg mg
   let some k ← gal' false (← elem' ys j) xs i (xs.size - i) 0 | return fin o i j
   ac:=k
   if k > 0 then
    o:=o++xs.extract i (i+k);i:=i+k
    if i+1 == xs.size then return lst o i j
    if i == xs.size then return fin o i j
   o:=o.push (← elem' ys j);j:=j+1
   if j == ys.size then return fin o i j
   let some k ← gal' true (← elem' xs i) ys j (ys.size - j) 0 | return fin o i j
   bc:=k
   if k > 0 then
    o:=o++ys.extract j (j+k);j:=j+k
    if j == ys.size then return fin o i j
   o:=o.push (← elem' xs i);i:=i+1
   if i+1 == xs.size then return lst o i j
   if ac<7&&bc<7 then break
  mg:=mg+1
  smg mg
 unsupported "internal:list.sort.merge-bound"):=rfl
section
variable {κ π:Keyed→Int}
theorem rk_le {x y:Keyed} (h1:κ x≤κ y) (h2:π x≤π y):rk κ π x≤rk κ π y:=by unfold rk;lia
theorem rk_lt {a₀:Array Keyed} (hp:∀x∈a₀.toList,0≤π x∧π x<1048576) {x y:Keyed} (mx:x∈a₀.toList) (my:y∈a₀.toList) (h:κ x<κ y):rk κ π x≤rk κ π y:=by
 have a:=hp x mx
 have b:=hp y my
 unfold rk;lia
theorem zt1 {α:Type}{X:List α}{i:Nat}{x:α} (h:X[i]?=some x):X.drop i=x::X.drop (i+1):=by
 obtain⟨hi,e⟩:=zbb8.mp h
 rw [zbc7 hi,e]
theorem zi0 {X:List Keyed}{i:Nat}{x c:Keyed} (hX:Ris κ π X) (h:X[i]?=some x) (hc:rk κ π c≤rk κ π x):zd2 κ π [c] (X.drop i):=by
 intro a ha b hb
 rw [zbb0.mp ha]
 have e:=zt1 h
 rw [e]at hb
 rcases zaz2.mp hb with z | z
 ·rw [z];exact hc
 ·have r:=zd9 hX i
  rw [e]at r
  exact zbj6 hc ((zbd5.mp r).1 b z)
theorem zn3 {α:Type}{X:List α}{i:Nat}{x:α} (h:X[i]?=some x):(X.drop i).take 1=[x]:=by rw [zt1 h];rfl
theorem zk4 {α:Type}{X:List α}{i k:Nat}{c:α} (h:c∈(X.drop i).take k):∃n,n<k∧X[i+n]?=some c:=by
 obtain⟨n,hn,e⟩:=zbh1.mp h
 refine⟨n,by simp at hn;lia,?_⟩
 rw [zbo3,zbl0]at e
 rw [zbb8]
 exact⟨by simp at hn;lia,e⟩
end
section
variable {M:Model}{A:Around}{E:Value→zaz5→Prop}{s:zaz5}{κ π:Keyed→Int}{a₀:Array Keyed}{kd:SortKind} (C:Cmp M A E s κ π a₀ kd)
structure SameS (st st':SortSt):Prop where
 arr:arrOf st'=arrOf st
 knd:kindOf st'=kindOf st
 pnd:pendingOf st'=pendingOf st
 fld:failedOf st'=failedOf st
theorem SameS.refl (st:SortSt):SameS st st:=⟨rfl,rfl,rfl,rfl⟩
theorem SameS.trans {a b c:SortSt} (h:SameS a b) (g:SameS b c):SameS a c:=⟨g.arr.trans h.arr,g.knd.trans h.knd,g.pnd.trans h.pnd,g.fld.trans h.fld⟩
theorem zai0 {g:Nat}{Q:Unit→SortSt→Prop}{st:SortSt} (h:Q () (setG st g)):wpS M A E s (smg g) Q st:=wpS_modify h
theorem sameG {st st':SortSt}{g:Nat} (h:SameS st st'):SameS st (setG st' g):=⟨h.arr,h.knd,h.pnd,h.fld⟩
structure Two (κ π:Keyed→Int) (a₀:Array Keyed) (xs ys:Array Keyed):Prop where
 mx:∀x∈xs.toList,x∈a₀.toList
 my:∀y∈ys.toList,y∈a₀.toList
 rx:Ris κ π xs.toList
 ry:Ris κ π ys.toList
 sep:∀x∈xs.toList,∀y∈ys.toList,π x≤π y
 px:0<xs.size
 py:0<ys.size
 first:∀x y,xs[0]?=some x→ys[0]?=some y→κ y<κ x
 last:∀x,xs[xs.size - 1]?=some x→∀y∈ys.toList,κ y<κ x
noncomputable def Res (κ π:Keyed→Int) (xs ys:Array Keyed) (st:SortSt) (o:Array Keyed) (st':SortSt):Prop:=SameS st st'∧Ris κ π o.toList∧o.toList.Perm (xs.toList++ys.toList)
theorem zp8 {xs:Array Keyed}{i:Nat}:(xs.extract i xs.size).toList=xs.toList.drop i:=by
 rw [zbe5]
 have e:zbj7 xs.toList i xs.size=(xs.toList.drop i).take (xs.size - i):=by simp [zbj7]
 first
  |exact zbb7 (by simp)
  |(rw [e];exact zbb7 (by simp))
theorem res_y {xs ys o:Array Keyed}{i j:Nat}{st st':SortSt} (rx:Ris κ π xs.toList) (ss:SameS st st') (L:Lo (κ:=κ) (π:=π) xs.toList ys.toList o.toList i j) (hj:j=ys.size):Res κ π xs ys st (o++xs.extract i xs.size++ys.extract j ys.size) st':=by
 have e:(o++xs.extract i xs.size++ys.extract j ys.size).toList=o.toList++xs.toList.drop i:=by
  rw [zbb2,zbb2,zp8,zp8,hj,zbc8 (l:=ys.toList) (by simp),zbe0]
 unfold Res
 rw [e]
 exact⟨ss,L.endX rx (by simp [hj])⟩
theorem res_x {xs ys o:Array Keyed}{i j:Nat}{st st':SortSt} (ry:Ris κ π ys.toList) (ss:SameS st st') (L:Lo (κ:=κ) (π:=π) xs.toList ys.toList o.toList i j) (hi:i=xs.size):Res κ π xs ys st (o++xs.extract i xs.size++ys.extract j ys.size) st':=by
 have e:(o++xs.extract i xs.size++ys.extract j ys.size).toList=o.toList++ys.toList.drop j:=by
  rw [zbb2,zbb2,zp8,zp8,hi,zbc8 (l:=xs.toList) (by simp),zbe0]
 unfold Res
 rw [e]
 exact⟨ss,L.endY ry (by simp [hi])⟩
theorem res_l {a₀ xs ys o:Array Keyed}{i j:Nat}{st st':SortSt} (hp:∀x∈a₀.toList,0≤π x∧π x<1048576) (T:Two κ π a₀ xs ys) (ss:SameS st st') (L:Lo (κ:=κ) (π:=π) xs.toList ys.toList o.toList i j) (hi:i+1=xs.size):Res κ π xs ys st (o++ys.extract j ys.size++xs.extract i xs.size) st':=by
 have e:(o++ys.extract j ys.size++xs.extract i xs.size).toList=o.toList++ys.toList.drop j++xs.toList.drop i:=by
  rw [zbb2,zbb2,zp8,zp8]
 unfold Res
 rw [e]
 refine⟨ss,L.last T.rx T.ry fun a ha b hb=>?_⟩
 have hlt:i<xs.size:=by lia
 have ex:xs.toList[i]?=some xs[i]:=by simp [hlt]
 rw [zt1 ex,zbc8 (by simp;lia)]at hb
 have hb':=zbb0.mp hb
 have ma:a∈ys.toList:=zbb6 ha
 have q:=T.last xs[i] (by rw [show xs.size - 1=i by lia];simp [hlt]) a ma
 rw [hb']
 exact rk_lt hp (T.my a ma) (T.mx _ (by simp)) q
theorem zj7 {o:Array Keyed}{z:Keyed}:(o.push z).toList=o.toList++[z]:=by simp
theorem zax9 {o xs:Array Keyed}{i k:Nat}:(o++xs.extract i (i+k)).toList=o.toList++(xs.toList.drop i).take k:=by
 rw [zbb2,zbe5]
 simp
abbrev LS:=Option (Array Keyed)×Array Keyed×Nat×Nat×Nat×Nat×Nat
noncomputable def loC (xs ys o:Array Keyed) (i j mg k k1:Nat):StateT SortSt Sem (ForInStep LS):=do
 let z ← elem' xs i
 if (i+1+1 == xs.size)=true then pure (.done (some (o.push z++ys.extract j ys.size++xs.extract (i+1) xs.size),o.push z,i+1,j,mg,k,k1))
 else if (decide (k<7)&&decide (k1<7))=true then pure (.done (none,o.push z,i+1,j,mg,k,k1)) else pure (.yield (none,o.push z,i+1,j,mg,k,k1))
noncomputable def loB (xs ys o:Array Keyed) (i j mg k bc:Nat):StateT SortSt Sem (ForInStep LS):=do
 let z ← elem' ys j
 if (j+1 == ys.size)=true then pure (.done (some (o.push z++xs.extract i xs.size++ys.extract (j+1) ys.size),o.push z,i,j+1,mg,k,bc))
 else do
  let w ← elem' xs i
  let r ← gal' true w ys (j+1) (ys.size - (j+1)) 0
  match r with
  |some k1 =>
   if k1 > 0 then
    if (j+1+k1 == ys.size)=true then pure (.done (some ((o.push z++ys.extract (j+1) (j+1+k1))++xs.extract i xs.size++ys.extract (j+1+k1) ys.size),o.push z++ys.extract (j+1) (j+1+k1),i,j+1+k1,mg,k,k1))
    else loC xs ys (o.push z++ys.extract (j+1) (j+1+k1)) i (j+1+k1) mg k k1
   else loC xs ys (o.push z) i (j+1) mg k k1
  |_=>pure (.done (some (o.push z++xs.extract i xs.size++ys.extract (j+1) ys.size),o.push z,i,j+1,mg,k,bc))
noncomputable def loA (xs ys o:Array Keyed) (i j mg bc:Nat) (ac:Nat):StateT SortSt Sem (ForInStep LS):=do
 smg mg
 let w ← elem' ys j
 let r ← gal' false w xs i (xs.size - i) 0
 match r with
 |some k =>
  if k > 0 then
   if (i+k+1 == xs.size)=true then pure (.done (some ((o++xs.extract i (i+k))++ys.extract j ys.size++xs.extract (i+k) xs.size),o++xs.extract i (i+k),i+k,j,mg,k,bc))
   else if (i+k == xs.size)=true then pure (.done (some ((o++xs.extract i (i+k))++xs.extract (i+k) xs.size++ys.extract j ys.size),o++xs.extract i (i+k),i+k,j,mg,k,bc))
   else loB xs ys (o++xs.extract i (i+k)) (i+k) j mg k bc
  else loB xs ys o i j mg k bc
 |_=>pure (.done (some (o++xs.extract i xs.size++ys.extract j ys.size),o,i,j,mg,ac,bc))
noncomputable def JL (κ π:Keyed→Int) (xs ys:Array Keyed) (st:SortSt) (b:Nat) (o:Array Keyed) (i j:Nat) (st':SortSt):Prop :=
 SameS st st'∧Lo (κ:=κ) (π:=π) xs.toList ys.toList o.toList i j∧i+1<xs.size∧j<ys.size∧b≤i+j
noncomputable def PL1 (κ π:Keyed→Int) (xs ys:Array Keyed) (st:SortSt) (b:Nat) (c:LS) (st':SortSt):Prop:=(∃r,c.1=some r∧Res κ π xs ys st r st')∨(c.1=none∧JL κ π xs ys st b c.2.1 c.2.2.1 c.2.2.2.1 st')
noncomputable def PLo (κ π:Keyed→Int) (xs ys:Array Keyed) (st:SortSt) (b:Nat) (r:ForInStep LS) (st':SortSt):Prop:=match r with
 |.done c=>PL1 κ π xs ys st b c st'
 |.yield c=>c.1=none∧JL κ π xs ys st b c.2.1 c.2.2.1 c.2.2.2.1 st'
variable {xs ys:Array Keyed}{st:SortSt} (hk:kindOf st=kd) (T:Two κ π a₀ xs ys)
theorem zf6 {xs:Array Keyed}{i:Nat} (hi:i<xs.size):∃x,xs[i]?=some x∧xs.toList[i]?=some x∧x∈xs.toList:=⟨xs[i],by simp [hi],by simp [hi],by simp⟩
include T in
theorem push1 {o:Array Keyed}{i j:Nat}{x:Keyed} (L:Lo (κ:=κ) (π:=π) xs.toList ys.toList o.toList i j) (ex:xs.toList[i]?=some x) (hb:zd2 κ π [x] (ys.toList.drop j)):Lo (κ:=κ) (π:=π) xs.toList ys.toList (o.push x).toList (i+1) j:=by
 rw [zj7, ← zn3 ex]
 exact L.x T.rx 1 (by rw [zn3 ex];exact hb)
include T in
theorem push2 {o:Array Keyed}{i j:Nat}{y:Keyed} (L:Lo (κ:=κ) (π:=π) xs.toList ys.toList o.toList i j) (ex:ys.toList[j]?=some y) (hb:zd2 κ π [y] (xs.toList.drop i)):Lo (κ:=κ) (π:=π) xs.toList ys.toList (o.push y).toList i (j+1):=by
 rw [zj7, ← zn3 ex]
 exact L.y T.ry 1 (by rw [zn3 ex];exact hb)
include C T in
theorem wp_loC {o:Array Keyed}{i j mg k k1 b:Nat}{st':SortSt} (ss:SameS st st') (L:Lo (κ:=κ) (π:=π) xs.toList ys.toList o.toList i j) (hi:i+1<xs.size) (hj:j<ys.size) (hb:b≤i+j)
  (hle:∀x,xs.toList[i]?=some x→zd2 κ π [x] (ys.toList.drop j)):wpS M A E s (loC xs ys o i j mg k k1) (PLo κ π xs ys st b) st':=by
 unfold loC
 obtain⟨x,e1,e2,m⟩:=zf6 (xs:=xs) (i:=i) (by lia)
 refine zaz8 (zc4 e1 ?_)
 have L1:=push1 T L e2 (hle x e2)
 by_cases c1:i+1+1=xs.size
 ·rw [if_pos (by simpa using c1)]
  exact zba3 (.inl ⟨_,rfl,res_l C.pi T ss L1 c1⟩)
 ·rw [if_neg (by simpa using c1)]
  have J:JL κ π xs ys st b (o.push x) (i+1) j st':=⟨ss,L1,by lia,hj,by lia⟩
  split
  ·exact zba3 (.inr ⟨rfl,J⟩)
  ·exact zba3 ⟨rfl,J⟩
include C T in
theorem zan8 {x y:Keyed} (mx:x∈xs.toList) (my:y∈ys.toList) (h:κ x≤κ y):rk κ π x≤rk κ π y:=rk_le h (T.sep x mx y my)
include C T in
theorem zag9 {x y:Keyed} (mx:x∈xs.toList) (my:y∈ys.toList) (h:κ y<κ x):rk κ π y≤rk κ π x:=rk_lt C.pi (T.my y my) (T.mx x mx) h
theorem zm2 {l:List Keyed} (h:Ris κ π l) {i j:Nat}{a b:Keyed} (hij:i≤j) (h1:l[i]?=some a) (h2:l[j]?=some b):rk κ π a≤rk κ π b:=by
 obtain⟨hi,rfl⟩:=zbb8.mp h1
 obtain⟨hj,rfl⟩:=zbb8.mp h2
 by_cases z:i=j
 ·subst z;exact zbf8 _
 ·exact zbh2.mp h i j hi hj (by lia)
theorem zv1 (hp:∀x∈a₀.toList,0≤π x∧π x<1048576) {a b:Keyed} (ma:a∈a₀.toList) (mb:b∈a₀.toList) (h:rk κ π a≤rk κ π b):κ a≤κ b:=by
 have p:=hp a ma
 have q:=hp b mb
 unfold rk at h
 lia
include C T hk in
theorem wp_loB {o:Array Keyed}{i j mg k bc b:Nat}{st':SortSt} (ss:SameS st st') (L:Lo (κ:=κ) (π:=π) xs.toList ys.toList o.toList i j) (hi:i+1<xs.size) (hj:j<ys.size) (hb:b≤i+j)
  (hle:∀x y,xs.toList[i]?=some x→ys.toList[j]?=some y→κ y<κ x):wpS M A E s (loB xs ys o i j mg k bc) (PLo κ π xs ys st b) st':=by
 unfold loB
 obtain⟨x,ex,ex',mx⟩:=zf6 (xs:=xs) (i:=i) (by lia)
 obtain⟨y,ey,ey',my⟩:=zf6 (xs:=ys) (i:=j) (by lia)
 refine zaz8 (zc4 ey ?_)
 have L1:=push2 T L ey' (zi0 T.rx ex' (zag9 C T mx my (hle x y ex' ey')))
 by_cases c1:j+1=ys.size
 ·rw [if_pos (by simpa using c1)]
  exact zba3 (.inl ⟨_,rfl,res_y T.rx ss L1 c1⟩)
 rw [if_neg (by simpa using c1)]
 refine zaz8 (zc4 ex ?_)
 refine zaz8 (zu4 C (ss.knd.trans hk) (fun n=>match ys.toList[j+1+n]? with | some z=>decide (κ z<κ x) |none=>false) (fun n hn=>?_) (T.mx x mx) (fun n m hnm hm e=>?_) (by lia) fun k1 hk1 hlo hhi=>?_)
 ·obtain⟨z,z1,z2,z3⟩:=zf6 (xs:=ys) (i:=j+1+n) (by lia)
  exact⟨z,z1,T.my z z3,by rw [z2];rfl⟩
 ·obtain⟨z,z1,z2,z3⟩:=zf6 (xs:=ys) (i:=j+1+n) (by lia)
  obtain⟨w,w1,w2,w3⟩:=zf6 (xs:=ys) (i:=j+1+m) (by lia)
  rw [w2]at e
  rw [z2]
  have q:=zv1 C.pi (T.my z z3) (T.my w w3) (zm2 T.ry (show j+1+n≤j+1+m by lia) z2 w2)
  simp only [decide_eq_true_eq]at e ⊢
  lia
 ·have ch:∀n,n<k1→∀z,ys.toList[j+1+n]?=some z→κ z<κ x:=fun n hn z ez=>by
   have:=hlo n hn
   rw [ez]at this
   simpa using this
  have L2:Lo (κ:=κ) (π:=π) xs.toList ys.toList (o.push y++ys.extract (j+1) (j+1+k1)).toList i (j+1+k1):=by
   rw [zax9]
   refine L1.y T.ry k1 fun a ha=>?_
   obtain⟨n,hn,en⟩:=zk4 ha
   exact zi0 T.rx ex' (zag9 C T mx (zbc2 en) (ch n hn a en)) a (zbb0.mpr rfl)
  have nxt:∀n,j+1+k1=n→n<ys.size→∀z,xs.toList[i]?=some z→zd2 κ π [z] (ys.toList.drop n):=fun n en hn z ez=>by
   rw [ex']at ez
   cases ez
   obtain⟨w,w1,w2,w3⟩:=zf6 (xs:=ys) (i:=n) hn
   have:=hhi k1 (zaz7 _) (by lia)
   rw [en,w2]at this
   refine zi0 T.ry w2 (zan8 C T mx w3 ?_)
   simpa using this
  dsimp only
  by_cases k0:k1 > 0
  ·rw [if_pos k0]
   by_cases c2:j+1+k1=ys.size
   ·rw [if_pos (by simpa using c2)]
    exact zba3 (.inl ⟨_,rfl,res_y T.rx ss L2 c2⟩)
   ·rw [if_neg (by simpa using c2)]
    exact wp_loC C T ss L2 hi (by lia) (by lia) (nxt _ rfl (by lia))
  ·rw [if_neg k0]
   exact wp_loC C T ss L1 hi (by lia) (by lia) (nxt _ (by lia) (by lia))
include C T hk in
theorem wp_loA {o:Array Keyed}{i j mg bc ac b:Nat}{st':SortSt} (J:JL κ π xs ys st b o i j st'):wpS M A E s (loA xs ys o i j mg bc ac) (PLo κ π xs ys st b) st':=by
 obtain⟨ss,L,hi,hj,hb⟩:=J
 unfold loA
 refine zaz8 (zai0 ?_)
 have ss:=sameG (g:=mg) ss
 obtain⟨y,ey,ey',my⟩:=zf6 (xs:=ys) (i:=j) (by lia)
 refine zaz8 (zc4 ey ?_)
 refine zaz8 (zu4 C (ss.knd.trans hk) (fun n=>match xs.toList[i+n]? with | some z=>!decide (κ y<κ z) |none=>false) (fun n hn=>?_) (T.my y my) (fun n m hnm hm e=>?_) (by lia) fun k hk1 hlo hhi=>?_)
 ·obtain⟨z,z1,z2,z3⟩:=zf6 (xs:=xs) (i:=i+n) (by lia)
  exact⟨z,z1,T.mx z z3,by rw [z2];rfl⟩
 ·obtain⟨z,z1,z2,z3⟩:=zf6 (xs:=xs) (i:=i+n) (by lia)
  obtain⟨w,w1,w2,w3⟩:=zf6 (xs:=xs) (i:=i+m) (by lia)
  rw [w2]at e
  rw [z2]
  have q:=zv1 C.pi (T.mx z z3) (T.mx w w3) (zm2 T.rx (show i+n≤i+m by lia) z2 w2)
  simp only [zbg9,decide_eq_false_iff_not]at e ⊢
  lia
 ·have ch:∀n,n<k→∀z,xs.toList[i+n]?=some z→κ z≤κ y:=fun n hn z ez=>by
   have:=hlo n hn
   rw [ez]at this
   simpa using this
  have L2:Lo (κ:=κ) (π:=π) xs.toList ys.toList (o++xs.extract i (i+k)).toList (i+k) j:=by
   rw [zax9]
   refine L.x T.rx k fun a ha=>?_
   obtain⟨n,hn,en⟩:=zk4 ha
   exact zi0 T.ry ey' (zan8 C T (zbc2 en) my (ch n hn a en)) a (zbb0.mpr rfl)
  have nxt:∀n,i+k=n→n<xs.size→∀x z,xs.toList[n]?=some x→ys.toList[j]?=some z→κ z<κ x:=fun n en hn x z ex ez=>by
   rw [ey']at ez
   cases ez
   have:=hhi k (zaz7 _) (by lia)
   rw [en,ex]at this
   simpa using this
  dsimp only
  by_cases k0:k > 0
  ·rw [if_pos k0]
   by_cases c1:i+k+1=xs.size
   ·rw [if_pos (by simpa using c1)]
    exact zba3 (.inl ⟨_,rfl,res_l C.pi T ss L2 c1⟩)
   rw [if_neg (by simpa using c1)]
   by_cases c2:i+k=xs.size
   ·rw [if_pos (by simpa using c2)]
    exact zba3 (.inl ⟨_,rfl,res_x T.ry ss L2 c2⟩)
   rw [if_neg (by simpa using c2)]
   exact wp_loB C hk T ss L2 (by lia) hj (by lia) (nxt _ rfl (by lia))
  ·rw [if_neg k0]
   exact wp_loB C hk T ss L hi hj (by lia) (nxt _ (by lia) (by lia))
include C T hk in
theorem wp_mLo {Q:Array Keyed→SortSt→Prop} (h:∀o st',Res κ π xs ys st o st'→Q o st'):wpS M A E s (mLo' xs ys) Q st:=by
 rw [mLo'_eq]
 refine zaz8 (wpS_lift (wpAny_rule ⟨rfl,?_⟩))
 obtain⟨y0,ey0,ey0',my0⟩:=zf6 T.py
 obtain⟨x0,ex0,ex0',mx0⟩:=zf6 T.px
 refine zaz8 (zc4 ey0 ?_)
 have L0:Lo (κ:=κ) (π:=π) xs.toList ys.toList (#[y0]:Array Keyed).toList 0 1:=by
  have q:=push2 T (o := #[]) (i:=0) (j:=0) ⟨by simp,List.Pairwise.nil,zab5,zab5⟩ ey0' (zi0 T.rx ex0' (rk_lt C.pi (T.my _ my0) (T.mx _ mx0) (T.first _ _ ex0 ey0)))
  simpa using q
 dsimp only
 by_cases c1:1=ys.size
 ·rw [if_pos (by simpa using c1)]
  exact zba3 (h _ _ (res_y T.rx (SameS.refl st) L0 c1))
 rw [if_neg (by simpa using c1)]
 by_cases c2:0+1=xs.size
 ·rw [if_pos (by simpa using c2)]
  exact zba3 (h _ _ (res_l C.pi T (SameS.refl st) L0 c2))
 rw [if_neg (by simpa using c2)]
 refine zaz8 (wpS_get ?_)
 have sz:=T.px
 have sy:=T.py
 refine zaz8 (wpS_forRange (I:=fun x c st' => ∃o i j mg,c=(none,o,i,j,mg)∧JL κ π xs ys st (x+1) o i j st') ?_ ?_ ⟨_,_,_,_,rfl,SameS.refl st,L0,by lia,by lia,by lia⟩)
 ·rintro x c st' _ hx ⟨o,i,j,mg,rfl,ss,L,hi,hj,hp⟩
  dsimp only
  refine zaz8 (wpS_mono (wpS_forRange (I:=fun y c st' => ∃o i j ac bc,c=(none,o,i,j,ac,bc)∧JL κ π xs ys st (x+1+y) o i j st')
   (Q:=fun c st'=>(∃r,c.1=some r∧Res κ π xs ys st r st')∨(c.1=none∧JL κ π xs ys st (x+1+1) c.2.1 c.2.2.1 c.2.2.2.1 st')) ?_ ?_ ⟨_,_,_,_,_,rfl,ss,L,hi,hj,by lia⟩) ?_)
  ·rintro y c st2 _ hy ⟨o,i,j,ac,bc,rfl,ss,L,hi,hj,hp⟩
   dsimp only
   obtain⟨x1,ex,ex',mx⟩:=zf6 (xs:=xs) (i:=i) (by lia)
   obtain⟨y1,ey,ey',my⟩:=zf6 (xs:=ys) (i:=j) (by lia)
   refine zaz8 (zc4 ey (zaz8 (zc4 ex (zaz8 (C.lt _ _ _ _ (ss.knd.trans hk) (T.my _ my) (T.mx _ mx) ?_)))))
   by_cases hlt:κ y1<κ x1
   ·simp only [hlt,decide_true,if_true]
    refine zaz8 (zc4 ey ?_)
    have L1:=push2 T L ey' (zi0 T.rx ex' (zag9 C T mx my hlt))
    by_cases c3:j+1=ys.size
    ·rw [if_pos (by simpa using c3)]
     exact zba3 (.inl ⟨_,rfl,res_y T.rx ss L1 c3⟩)
    ·rw [if_neg (by simpa using c3)]
     split
     ·have J1:JL κ π xs ys st (x+1+1) (o.push y1) i (j+1) st2:=⟨ss,L1,hi,by lia,by lia⟩
      exact zba3 (.inr ⟨rfl,J1⟩)
     ·exact zba3 ⟨_,_,_,_,_,rfl,ss,L1,hi,by lia,by lia⟩
   ·simp only [hlt,decide_false,zbb4,if_false]
    refine zaz8 (zc4 ex ?_)
    have L1:=push1 T L ex' (zi0 T.ry ey' (zan8 C T mx my (by lia)))
    by_cases c3:i+1+1=xs.size
    ·rw [if_pos (by simpa using c3)]
     exact zba3 (.inl ⟨_,rfl,res_l C.pi T ss L1 c3⟩)
    ·rw [if_neg (by simpa using c3)]
     split
     ·have J1:JL κ π xs ys st (x+1+1) (o.push x1) (i+1) j st2:=⟨ss,L1,by lia,hj,by lia⟩
      exact zba3 (.inr ⟨rfl,J1⟩)
     ·exact zba3 ⟨_,_,_,_,_,rfl,ss,L1,by lia,hj,by lia⟩
  ·rintro c st2 ⟨o,i,j,ac,bc,rfl,ss,L,hi,hj,hp⟩
   have J1:JL κ π xs ys st (x+1+1) o i j st2:=⟨ss,L,hi,hj,by lia⟩
   exact .inr ⟨rfl,J1⟩
  ·rintro ⟨r0,o,i,j,ac,bc⟩ st2 hq
   rcases hq with ⟨r,e,R⟩ | ⟨e,J⟩
   ·have e:r0=some r:=e
    subst e
    exact zba3 (zba3 (h _ _ R))
   ·have e:r0=none:=e
    subst e
    have J:JL κ π xs ys st (x+1+1) o i j st2:=J
    refine zaz8 (wpS_lift (wpAny_rule ⟨rfl,?_⟩))
    refine zaz8 (wpS_mono (wpS_forRange (I:=fun y c st'=>c.1=none∧JL κ π xs ys st (x+1+1) c.2.1 c.2.2.1 c.2.2.2.1 st') (Q:=fun c st'=>PL1 κ π xs ys st (x+1+1) c st') ?_ ?_ ⟨rfl,J⟩) ?_)
    ·rintro y ⟨r0,o,i,j,mg2,ac,bc⟩ st3 _ hy ⟨e,J⟩
     have e:r0=none:=e
     subst e
     dsimp only at J
     refine wpS_mono (Q:=PLo κ π xs ys st (x+1+1)) ?_ (fun r st' hq=>by cases r<;>exact hq)
     have key:wpS M A E s (if mg2 > 1 then loA xs ys o i j (mg2 - 1) bc ac else loA xs ys o i j mg2 bc ac) (PLo κ π xs ys st (x+1+1)) st3:=by
      split
      ·exact wp_loA C hk T J
      ·exact wp_loA C hk T J
     exact key
    ·rintro c st3 ⟨e,J⟩
     exact .inr ⟨e,J⟩
    ·rintro ⟨r0,o,i,j,mg2,ac,bc⟩ st3 hq
     rcases hq with ⟨r,e,R⟩ | ⟨e,J⟩
     ·have e:r0=some r:=e
      subst e
      exact zba3 (zba3 (h _ _ R))
     ·have e:r0=none:=e
      subst e
      refine zaz8 (zai0 (zba3 ⟨_,_,_,_,rfl,?_⟩))
      obtain⟨ss,L,hi,hj,hp⟩:=J
      exact⟨sameG ss,L,hi,hj,hp⟩
 ·rintro c st' ⟨o,i,j,mg,rfl,ss,L,hi,hj,hp⟩
  lia
end
end TS
namespace TS
theorem mHi'_eq (xs ys:Array Keyed):mHi' xs ys=(do
 rule "list.sort.merge-hi"
 let tot:=xs.size+ys.size
 let fin (o:Array Keyed) (i j:Nat):=xs.extract 0 i++ys.extract 0 j++o.reverse
 let fst (o:Array Keyed) (i j:Nat):=ys.extract 0 j++xs.extract 0 i++o.reverse
 let mut i:=xs.size - 1
 let mut j:=ys.size
 let mut o:Array Keyed := #[← elem' xs i]
 if i == 0 then return fin o i j
 if j == 1 then return fst o i j
 let mut mg:=gallopOf (← get)
 for _ in [0:tot] do
  let mut ac:=0
  let mut bc:=0
  for _ in [0:tot] do
   let some aw ← lt' (← elem' ys (j - 1)) (← elem' xs (i - 1)) |return fin o i j
   if aw then
    i:=i - 1;o:=o.push (← elem' xs i);ac:=ac+1;bc:=0
    if i == 0 then return fin o i j
    if ac ≥ mg then break
   else
    j:=j - 1;o:=o.push (← elem' ys j);bc:=bc+1;ac:=0
    if j == 1 then return fst o i j
    if bc ≥ mg then break
  rule "list.sort.gallop"
  mg:=mg+1
  for _ in [0:tot] do
   if mg > 1 then mg:=mg - 1
   smg mg
   let some q ← gal' false (← elem' ys (j - 1)) xs 0 i (i - 1) |return fin o i j
   let k:=i - q
   ac:=k
   if k > 0 then
    o:=o++(xs.extract q i).reverse;i:=q
    if i == 0 then return fin o i j
   j:=j - 1;o:=o.push (← elem' ys j)
   if j == 1 then return fst o i j
   let some q ← gal' true (← elem' xs (i - 1)) ys 0 j (j - 1) |return fin o i j
   let k:=j - q
   bc:=k
   if k > 0 then
    o:=o++(ys.extract q j).reverse;j:=q
    if j == 1 then return fst o i j
    if j == 0 then return fin o i j
   i:=i - 1;o:=o.push (← elem' xs i)
   if i == 0 then return fin o i j
   if ac<7&&bc<7 then break
  mg:=mg+1
  smg mg
 unsupported "internal:list.sort.merge-bound"):=rfl
section
variable {M:Model}{A:Around}{E:Value→zaz5→Prop}{s:zaz5}{κ π:Keyed→Int}{a₀:Array Keyed}{kd:SortKind} (C:Cmp M A E s κ π a₀ kd)
theorem zao1 {xs:Array Keyed}{i:Nat}:(xs.extract 0 i).toList=xs.toList.take i:=by
 rw [zbe5];simp
theorem zo0 {α:Type}{Y:List α}{j:Nat}{a:α} (h:a∈Y.take j):∃n,n<j∧Y[n]?=some a:=by
 have:=zk4 (X:=Y) (i:=0) (k:=j) (c:=a) (by simpa using h)
 simpa using this
theorem zi2 {Y:List Keyed}{j:Nat}{y c:Keyed} (hY:Ris κ π Y) (h:Y[j - 1]?=some y) (hc:rk κ π y≤rk κ π c):zd2 κ π (Y.take j) [c]:=by
 intro a ha b hb
 rw [zbb0.mp hb]
 obtain⟨n,hn,e⟩:=zo0 ha
 exact zbj6 (zm2 hY (by lia) e h) hc
theorem zak6 {α:Type}{X:List α}{i:Nat}{x:α} (hi:0<i) (h:X[i - 1]?=some x):(X.take i).drop (i - 1)=[x]:=by
 obtain⟨hl,e⟩:=zbb8.mp h
 rw [zbj1,show i - (i - 1)=1 by lia,zn3 h]
variable {xs ys:Array Keyed}{st:SortSt}
theorem zl4 {o:Array Keyed}:o.reverse.toList=o.toList.reverse:=by simp
theorem zak1 {o:Array Keyed}{i j:Nat}{st':SortSt} (ry:Ris κ π ys.toList) (ss:SameS st st') (L:Hi (κ:=κ) (π:=π) xs.toList ys.toList o.toList i j) (hi:i=0):Res κ π xs ys st (xs.extract 0 i++ys.extract 0 j++o.reverse) st':=by
 have e:(xs.extract 0 i++ys.extract 0 j++o.reverse).toList=ys.toList.take j++o.toList.reverse:=by
  rw [zbb2,zbb2,zao1,zao1,zl4,hi,List.take_zero,zbe4]
 unfold Res
 rw [e]
 exact⟨ss,L.endY ry hi⟩
theorem hres_y {o:Array Keyed}{i j:Nat}{st':SortSt} (rx:Ris κ π xs.toList) (ss:SameS st st') (L:Hi (κ:=κ) (π:=π) xs.toList ys.toList o.toList i j) (hj:j=0):Res κ π xs ys st (xs.extract 0 i++ys.extract 0 j++o.reverse) st':=by
 have e:(xs.extract 0 i++ys.extract 0 j++o.reverse).toList=xs.toList.take i++o.toList.reverse:=by
  rw [zbb2,zbb2,zao1,zao1,zl4,hj,List.take_zero,zbe0]
 unfold Res
 rw [e]
 exact⟨ss,L.endX rx hj⟩
theorem zak2 {o:Array Keyed}{i j:Nat}{st':SortSt} (hp:∀x∈a₀.toList,0≤π x∧π x<1048576) (T:Two κ π a₀ xs ys) (ss:SameS st st') (L:Hi (κ:=κ) (π:=π) xs.toList ys.toList o.toList i j) (hj:j=1):Res κ π xs ys st (ys.extract 0 j++xs.extract 0 i++o.reverse) st':=by
 have e:(ys.extract 0 j++xs.extract 0 i++o.reverse).toList=ys.toList.take j++xs.toList.take i++o.toList.reverse:=by
  rw [zbb2,zbb2,zao1,zao1,zl4]
 unfold Res
 rw [e]
 refine⟨ss,L.first T.rx T.ry fun a ha b hb=>?_⟩
 obtain⟨n,hn,ea⟩:=zo0 ha
 obtain⟨m,hm,eb⟩:=zo0 hb
 have:n=0:=by lia
 subst this
 obtain⟨x0,ex0,ex0',mx0⟩:=zf6 T.px
 have q:=T.first x0 a ex0 (by simpa using ea)
 exact zbj6 (rk_lt hp (T.my a (zbc2 ea)) (T.mx _ mx0) q) (zm2 T.rx (zbh7 _) ex0' eb)
abbrev HS:=Option (Array Keyed)×Nat×Nat×Array Keyed×Nat×Nat×Nat
noncomputable def JH (κ π:Keyed→Int) (xs ys:Array Keyed) (st:SortSt) (b:Nat) (o:Array Keyed) (i j:Nat) (st':SortSt):Prop :=
 SameS st st'∧Hi (κ:=κ) (π:=π) xs.toList ys.toList o.toList i j∧0<i∧i≤xs.size∧1<j∧j≤ys.size∧i+j+b≤xs.size+ys.size
noncomputable def PH1 (κ π:Keyed→Int) (xs ys:Array Keyed) (st:SortSt) (b:Nat) (c:HS) (st':SortSt):Prop:=(∃r,c.1=some r∧Res κ π xs ys st r st')∨(c.1=none∧JH κ π xs ys st b c.2.2.2.1 c.2.1 c.2.2.1 st')
noncomputable def PHi (κ π:Keyed→Int) (xs ys:Array Keyed) (st:SortSt) (b:Nat) (r:ForInStep HS) (st':SortSt):Prop:=match r with
 |.done c=>PH1 κ π xs ys st b c st'
 |.yield c=>c.1=none∧JH κ π xs ys st b c.2.2.2.1 c.2.1 c.2.2.1 st'
noncomputable def hiC (xs ys o:Array Keyed) (i j mg k k1:Nat):StateT SortSt Sem (ForInStep HS):=do
 let z ← elem' xs (i - 1)
 if (i - 1 == 0)=true then pure (.done (some (xs.extract 0 (i - 1)++ys.extract 0 j++(o.push z).reverse),i - 1,j,o.push z,mg,k,k1))
 else if (decide (k<7)&&decide (k1<7))=true then pure (.done (none,i - 1,j,o.push z,mg,k,k1)) else pure (.yield (none,i - 1,j,o.push z,mg,k,k1))
noncomputable def hiB (xs ys o:Array Keyed) (i j mg k bc:Nat):StateT SortSt Sem (ForInStep HS):=do
 let z ← elem' ys (j - 1)
 if (j - 1 == 1)=true then pure (.done (some (ys.extract 0 (j - 1)++xs.extract 0 i++(o.push z).reverse),i,j - 1,o.push z,mg,k,bc))
 else do
  let w ← elem' xs (i - 1)
  let r ← gal' true w ys 0 (j - 1) (j - 1 - 1)
  match r with
  |some q =>
   if j - 1 - q > 0 then
    if (q == 1)=true then pure (.done (some (ys.extract 0 q++xs.extract 0 i++(o.push z++(ys.extract q (j - 1)).reverse).reverse),i,q,o.push z++(ys.extract q (j - 1)).reverse,mg,k,j - 1 - q))
    else if (q == 0)=true then pure (.done (some (xs.extract 0 i++ys.extract 0 q++(o.push z++(ys.extract q (j - 1)).reverse).reverse),i,q,o.push z++(ys.extract q (j - 1)).reverse,mg,k,j - 1 - q))
    else hiC xs ys (o.push z++(ys.extract q (j - 1)).reverse) i q mg k (j - 1 - q)
   else hiC xs ys (o.push z) i (j - 1) mg k (j - 1 - q)
  |_=>pure (.done (some (xs.extract 0 i++ys.extract 0 (j - 1)++(o.push z).reverse),i,j - 1,o.push z,mg,k,bc))
noncomputable def hiA (xs ys o:Array Keyed) (i j mg bc ac:Nat):StateT SortSt Sem (ForInStep HS):=do
 smg mg
 let w ← elem' ys (j - 1)
 let r ← gal' false w xs 0 i (i - 1)
 match r with
 |some q =>
  if i - q > 0 then
   if (q == 0)=true then pure (.done (some (xs.extract 0 q++ys.extract 0 j++(o++(xs.extract q i).reverse).reverse),q,j,o++(xs.extract q i).reverse,mg,i - q,bc))
   else hiB xs ys (o++(xs.extract q i).reverse) q j mg (i - q) bc
  else hiB xs ys o i j mg (i - q) bc
 |_=>pure (.done (some (xs.extract 0 i++ys.extract 0 j++o.reverse),i,j,o,mg,ac,bc))
variable (hk:kindOf st=kd) (T:Two κ π a₀ xs ys)
include T in
theorem zau4 {o:Array Keyed}{i j:Nat}{x:Keyed} (L:Hi (κ:=κ) (π:=π) xs.toList ys.toList o.toList i j) (hi:0<i) (ex:xs.toList[i - 1]?=some x) (hb:zd2 κ π (ys.toList.take j) [x]):Hi (κ:=κ) (π:=π) xs.toList ys.toList (o.push x).toList (i - 1) j:=by
 have e:=zak6 hi ex
 have q:=L.x T.rx (i - 1) (by lia) (by rw [e];exact hb)
 rw [e]at q
 rw [zj7]
 simpa using q
include T in
theorem hpush2 {o:Array Keyed}{i j:Nat}{y:Keyed} (L:Hi (κ:=κ) (π:=π) xs.toList ys.toList o.toList i j) (hj:0<j) (ex:ys.toList[j - 1]?=some y) (hb:zd2 κ π (xs.toList.take i) [y]):Hi (κ:=κ) (π:=π) xs.toList ys.toList (o.push y).toList i (j - 1):=by
 have e:=zak6 hj ex
 have q:=L.y T.ry (j - 1) (by lia) (by rw [e];exact hb)
 rw [e]at q
 rw [zj7]
 simpa using q
theorem zax8 {o xs:Array Keyed}{q i:Nat}:(o++(xs.extract q i).reverse).toList=o.toList++((xs.toList.take i).drop q).reverse:=by
 rw [zbb2,zl4,zbe5]
 congr 2
 rw [zbj1]
 try rfl
include C T in
theorem wp_hiC {o:Array Keyed}{i j mg k k1 b:Nat}{st':SortSt} (ss:SameS st st') (L:Hi (κ:=κ) (π:=π) xs.toList ys.toList o.toList i j) (hi:0<i) (hi2:i≤xs.size) (hj:1<j) (hj2:j≤ys.size) (hb:i+j+b≤xs.size+ys.size)
  (hle:∀x,xs.toList[i - 1]?=some x→zd2 κ π (ys.toList.take j) [x]):wpS M A E s (hiC xs ys o i j mg k k1) (PHi κ π xs ys st b) st':=by
 unfold hiC
 obtain⟨x,e1,e2,m⟩:=zf6 (xs:=xs) (i:=i - 1) (by lia)
 refine zaz8 (zc4 e1 ?_)
 have L1:=zau4 T L hi e2 (hle x e2)
 by_cases c1:i - 1=0
 ·rw [if_pos (by simpa using c1)]
  exact zba3 (.inl ⟨_,rfl,zak1 T.ry ss L1 c1⟩)
 ·rw [if_neg (by simpa using c1)]
  have J:JH κ π xs ys st b (o.push x) (i - 1) j st':=⟨ss,L1,by lia,by lia,hj,hj2,by lia⟩
  split
  ·exact zba3 (.inr ⟨rfl,J⟩)
  ·exact zba3 ⟨rfl,J⟩
include C T hk in
theorem wp_hiB {o:Array Keyed}{i j mg k bc b:Nat}{st':SortSt} (ss:SameS st st') (L:Hi (κ:=κ) (π:=π) xs.toList ys.toList o.toList i j) (hi:0<i) (hi2:i≤xs.size) (hj:1<j) (hj2:j≤ys.size) (hb:i+j+b≤xs.size+ys.size)
  (hle:∀x y,xs.toList[i - 1]?=some x→ys.toList[j - 1]?=some y→κ x≤κ y):wpS M A E s (hiB xs ys o i j mg k bc) (PHi κ π xs ys st b) st':=by
 unfold hiB
 obtain⟨x,ex,ex',mx⟩:=zf6 (xs:=xs) (i:=i - 1) (by lia)
 obtain⟨y,ey,ey',my⟩:=zf6 (xs:=ys) (i:=j - 1) (by lia)
 refine zaz8 (zc4 ey ?_)
 have L1:=hpush2 T L (by lia) ey' (zi2 T.rx ex' (zan8 C T mx my (hle x y ex' ey')))
 by_cases c1:j - 1=1
 ·rw [if_pos (by simpa using c1)]
  exact zba3 (.inl ⟨_,rfl,zak2 C.pi T ss L1 c1⟩)
 rw [if_neg (by simpa using c1)]
 refine zaz8 (zc4 ex ?_)
 refine zaz8 (zu4 C (ss.knd.trans hk) (fun n=>match ys.toList[n]? with | some z=>decide (κ z<κ x) |none=>false) (fun n hn=>?_) (T.mx x mx) (fun n m hnm hm e=>?_) (by lia) fun q hq hlo hhi=>?_)
 ·obtain⟨z,z1,z2,z3⟩:=zf6 (xs:=ys) (i:=n) (by lia)
  exact⟨z,by rw [zbk7];exact z1,T.my z z3,by rw [z2];rfl⟩
 ·obtain⟨z,z1,z2,z3⟩:=zf6 (xs:=ys) (i:=n) (by lia)
  obtain⟨w,w1,w2,w3⟩:=zf6 (xs:=ys) (i:=m) (by lia)
  rw [w2]at e
  rw [z2]
  have q:=zv1 C.pi (T.my z z3) (T.my w w3) (zm2 T.ry hnm z2 w2)
  simp only [decide_eq_true_eq]at e ⊢
  lia
 ·have L2:Hi (κ:=κ) (π:=π) xs.toList ys.toList (o.push y++(ys.extract q (j - 1)).reverse).toList i q:=by
   rw [zax8]
   refine L1.y T.ry q hq fun a ha b hb=>?_
   rw [zbj1]at hb
   obtain⟨n,hn,en⟩:=zk4 hb
   have:=hhi (q+n) (by lia) (by lia)
   rw [en]at this
   exact zi2 T.rx ex' (zan8 C T mx (zbc2 en) (by simpa using this)) a ha b (zbb0.mpr rfl)
  have nxt:∀n,q=n→0<n→∀z,xs.toList[i - 1]?=some z→zd2 κ π (ys.toList.take n) [z]:=fun n en hn z ez=>by
   rw [ex']at ez
   cases ez
   obtain⟨w,w1,w2,w3⟩:=zf6 (xs:=ys) (i:=n - 1) (by lia)
   have:=hlo (n - 1) (by lia)
   rw [w2]at this
   exact zi2 T.ry w2 (zag9 C T mx w3 (by simpa using this))
  dsimp only
  by_cases k0:j - 1 - q > 0
  ·rw [if_pos k0]
   by_cases c2:q=1
   ·rw [if_pos (by simpa using c2)]
    exact zba3 (.inl ⟨_,rfl,zak2 C.pi T ss L2 c2⟩)
   rw [if_neg (by simpa using c2)]
   by_cases c3:q=0
   ·rw [if_pos (by simpa using c3)]
    exact zba3 (.inl ⟨_,rfl,hres_y T.rx ss L2 c3⟩)
   rw [if_neg (by simpa using c3)]
   exact wp_hiC C T ss L2 hi hi2 (by lia) (by lia) (by lia) (nxt _ rfl (by lia))
  ·rw [if_neg k0]
   exact wp_hiC C T ss L1 hi hi2 (by lia) (by lia) (by lia) (nxt _ (by lia) (by lia))
include C T hk in
theorem wp_hiA {o:Array Keyed}{i j mg bc ac b:Nat}{st':SortSt} (J:JH κ π xs ys st b o i j st'):wpS M A E s (hiA xs ys o i j mg bc ac) (PHi κ π xs ys st b) st':=by
 obtain⟨ss,L,hi,hi2,hj,hj2,hb⟩:=J
 unfold hiA
 refine zaz8 (zai0 ?_)
 have ss:=sameG (g:=mg) ss
 obtain⟨y,ey,ey',my⟩:=zf6 (xs:=ys) (i:=j - 1) (by lia)
 refine zaz8 (zc4 ey ?_)
 refine zaz8 (zu4 C (ss.knd.trans hk) (fun n=>match xs.toList[n]? with | some z=>!decide (κ y<κ z) |none=>false) (fun n hn=>?_) (T.my y my) (fun n m hnm hm e=>?_) (by lia) fun q hq hlo hhi=>?_)
 ·obtain⟨z,z1,z2,z3⟩:=zf6 (xs:=xs) (i:=n) (by lia)
  exact⟨z,by rw [zbk7];exact z1,T.mx z z3,by rw [z2];rfl⟩
 ·obtain⟨z,z1,z2,z3⟩:=zf6 (xs:=xs) (i:=n) (by lia)
  obtain⟨w,w1,w2,w3⟩:=zf6 (xs:=xs) (i:=m) (by lia)
  rw [w2]at e
  rw [z2]
  have q:=zv1 C.pi (T.mx z z3) (T.mx w w3) (zm2 T.rx hnm z2 w2)
  simp only [zbg9,decide_eq_false_iff_not]at e ⊢
  lia
 ·have L2:Hi (κ:=κ) (π:=π) xs.toList ys.toList (o++(xs.extract q i).reverse).toList q j:=by
   rw [zax8]
   refine L.x T.rx q hq fun a ha b hb=>?_
   rw [zbj1]at hb
   obtain⟨n,hn,en⟩:=zk4 hb
   have:=hhi (q+n) (by lia) (by lia)
   rw [en]at this
   exact zi2 T.ry ey' (zag9 C T (zbc2 en) my (by simpa using this)) a ha b (zbb0.mpr rfl)
  have nxt:∀n,q=n→0<n→∀x z,xs.toList[n - 1]?=some x→ys.toList[j - 1]?=some z→κ x≤κ z:=fun n en hn x z ex ez=>by
   rw [ey']at ez
   cases ez
   have:=hlo (n - 1) (by lia)
   rw [ex]at this
   simpa using this
  dsimp only
  by_cases k0:i - q > 0
  ·rw [if_pos k0]
   by_cases c1:q=0
   ·rw [if_pos (by simpa using c1)]
    exact zba3 (.inl ⟨_,rfl,zak1 T.ry ss L2 c1⟩)
   rw [if_neg (by simpa using c1)]
   exact wp_hiB C hk T ss L2 (by lia) (by lia) hj hj2 (by lia) (nxt _ rfl (by lia))
  ·rw [if_neg k0]
   exact wp_hiB C hk T ss L hi hi2 hj hj2 hb (nxt _ (by lia) (by lia))
include C T hk in
theorem wp_mHi {Q:Array Keyed→SortSt→Prop} (h:∀o st',Res κ π xs ys st o st'→Q o st'):wpS M A E s (mHi' xs ys) Q st:=by
 rw [mHi'_eq]
 refine zaz8 (wpS_lift (wpAny_rule ⟨rfl,?_⟩))
 have sz:=T.px
 have sy:=T.py
 obtain⟨x0,ex0,ex0',mx0⟩:=zf6 (xs:=xs) (i:=xs.size - 1) (by lia)
 obtain⟨y0,ey0,ey0',my0⟩:=zf6 (xs:=ys) (i:=ys.size - 1) (by lia)
 refine zaz8 (zc4 ex0 ?_)
 have L0:Hi (κ:=κ) (π:=π) xs.toList ys.toList (#[x0]:Array Keyed).toList (xs.size - 1) ys.size:=by
  have q:=zau4 T (o := #[]) (i:=xs.size) (j:=ys.size) ⟨by simp,List.Pairwise.nil,zae0,zae0⟩ sz ex0' (zi2 T.ry ey0' (zag9 C T mx0 my0 (T.last _ ex0 _ my0)))
  simpa using q
 dsimp only
 by_cases c1:xs.size - 1=0
 ·rw [if_pos (by simpa using c1)]
  exact zba3 (h _ _ (zak1 T.ry (SameS.refl st) L0 c1))
 rw [if_neg (by simpa using c1)]
 by_cases c2:ys.size=1
 ·rw [if_pos (by simpa using c2)]
  exact zba3 (h _ _ (zak2 C.pi T (SameS.refl st) L0 c2))
 rw [if_neg (by simpa using c2)]
 refine zaz8 (wpS_get ?_)
 refine zaz8 (wpS_forRange (I:=fun x c st' => ∃i j o mg,c=(none,i,j,o,mg)∧JH κ π xs ys st (x+1) o i j st') ?_ ?_ ⟨_,_,_,_,rfl,SameS.refl st,L0,by lia,by lia,by lia,by lia,by lia⟩)
 ·rintro x c st' _ hx ⟨i,j,o,mg,rfl,ss,L,hi,hi2,hj,hj2,hp⟩
  dsimp only
  refine zaz8 (wpS_mono (wpS_forRange (I:=fun y c st' => ∃i j o ac bc,c=(none,i,j,o,ac,bc)∧JH κ π xs ys st (x+1+y) o i j st')
   (Q:=fun c st'=>(∃r,c.1=some r∧Res κ π xs ys st r st')∨(c.1=none∧JH κ π xs ys st (x+1+1) c.2.2.2.1 c.2.1 c.2.2.1 st')) ?_ ?_ ⟨_,_,_,_,_,rfl,ss,L,hi,hi2,hj,hj2,by lia⟩) ?_)
  ·rintro y c st2 _ hy ⟨i,j,o,ac,bc,rfl,ss,L,hi,hi2,hj,hj2,hp⟩
   dsimp only
   obtain⟨x1,ex,ex',mx⟩:=zf6 (xs:=xs) (i:=i - 1) (by lia)
   obtain⟨y1,ey,ey',my⟩:=zf6 (xs:=ys) (i:=j - 1) (by lia)
   refine zaz8 (zc4 ey (zaz8 (zc4 ex (zaz8 (C.lt _ _ _ _ (ss.knd.trans hk) (T.my _ my) (T.mx _ mx) ?_)))))
   by_cases hlt:κ y1<κ x1
   ·simp only [hlt,decide_true,if_true]
    refine zaz8 (zc4 ex ?_)
    have L1:=zau4 T L hi ex' (zi2 T.ry ey' (zag9 C T mx my hlt))
    by_cases c3:i - 1=0
    ·rw [if_pos (by simpa using c3)]
     exact zba3 (.inl ⟨_,rfl,zak1 T.ry ss L1 c3⟩)
    ·rw [if_neg (by simpa using c3)]
     split
     ·have J1:JH κ π xs ys st (x+1+1) (o.push x1) (i - 1) j st2:=⟨ss,L1,by lia,by lia,hj,hj2,by lia⟩
      exact zba3 (.inr ⟨rfl,J1⟩)
     ·exact zba3 ⟨_,_,_,_,_,rfl,ss,L1,by lia,by lia,hj,hj2,by lia⟩
   ·simp only [hlt,decide_false,zbb4,if_false]
    refine zaz8 (zc4 ey ?_)
    have L1:=hpush2 T L (by lia) ey' (zi2 T.rx ex' (zan8 C T mx my (by lia)))
    by_cases c3:j - 1=1
    ·rw [if_pos (by simpa using c3)]
     exact zba3 (.inl ⟨_,rfl,zak2 C.pi T ss L1 c3⟩)
    ·rw [if_neg (by simpa using c3)]
     split
     ·have J1:JH κ π xs ys st (x+1+1) (o.push y1) i (j - 1) st2:=⟨ss,L1,hi,hi2,by lia,by lia,by lia⟩
      exact zba3 (.inr ⟨rfl,J1⟩)
     ·exact zba3 ⟨_,_,_,_,_,rfl,ss,L1,hi,hi2,by lia,by lia,by lia⟩
  ·rintro c st2 ⟨i,j,o,ac,bc,rfl,ss,L,hi,hi2,hj,hj2,hp⟩
   have J1:JH κ π xs ys st (x+1+1) o i j st2:=⟨ss,L,hi,hi2,hj,hj2,by lia⟩
   exact .inr ⟨rfl,J1⟩
  ·rintro ⟨r0,i,j,o,ac,bc⟩ st2 hq
   rcases hq with ⟨r,e,R⟩ | ⟨e,J⟩
   ·have e:r0=some r:=e
    subst e
    exact zba3 (zba3 (h _ _ R))
   ·have e:r0=none:=e
    subst e
    have J:JH κ π xs ys st (x+1+1) o i j st2:=J
    refine zaz8 (wpS_lift (wpAny_rule ⟨rfl,?_⟩))
    refine zaz8 (wpS_mono (wpS_forRange (I:=fun y c st'=>c.1=none∧JH κ π xs ys st (x+1+1) c.2.2.2.1 c.2.1 c.2.2.1 st') (Q:=fun c st'=>PH1 κ π xs ys st (x+1+1) c st') ?_ ?_ ⟨rfl,J⟩) ?_)
    ·rintro y ⟨r0,i,j,o,mg2,ac,bc⟩ st3 _ hy ⟨e,J⟩
     have e:r0=none:=e
     subst e
     dsimp only at J
     refine wpS_mono (Q:=PHi κ π xs ys st (x+1+1)) ?_ (fun r st' hq=>by cases r<;>exact hq)
     have key:wpS M A E s (if mg2 > 1 then hiA xs ys o i j (mg2 - 1) bc ac else hiA xs ys o i j mg2 bc ac) (PHi κ π xs ys st (x+1+1)) st3:=by
      split
      ·exact wp_hiA C hk T J
      ·exact wp_hiA C hk T J
     exact key
    ·rintro c st3 ⟨e,J⟩
     exact .inr ⟨e,J⟩
    ·rintro ⟨r0,i,j,o,mg2,ac,bc⟩ st3 hq
     rcases hq with ⟨r,e,R⟩ | ⟨e,J⟩
     ·have e:r0=some r:=e
      subst e
      exact zba3 (zba3 (h _ _ R))
     ·have e:r0=none:=e
      subst e
      refine zaz8 (zai0 (zba3 ⟨_,_,_,_,rfl,?_⟩))
      obtain⟨ss,L,hi,hj,hp⟩:=J
      exact⟨sameG ss,L,hi,hj,hp⟩
 ·rintro c st' ⟨i,j,o,mg,rfl,ss,L,hi,hi2,hj,hj2,hp⟩
  lia
end
end TS
namespace TS
theorem mAt_eq (n:Nat):mergeAt' n=(do
 let q ← get
 let (some (sa,na,pw),some (sb,nb,_)):=((pendingOf q)[n]?,(pendingOf q)[n+1]?) |unsupported "internal:list.sort.pending"
 set (setPending q (((pendingOf q).setIfInBounds n (sa,na+nb,pw)).eraseIdxIfInBounds (n+1)))
 let some k ← gal' false (← elem' (arrOf q) sb) (arrOf q) sa na 0 | return false
 let (sa,na):=(sa+k,na - k)
 if na == 0 then return true
 let some nb ← gal' true (← elem' (arrOf q) (sa+na - 1)) (arrOf q) sb nb (nb - 1) |return false
 if nb == 0 then return true
 let x:=(arrOf q).extract sa sb
 let y:=(arrOf q).extract sb (sb+nb)
 let m ← if na≤nb then mLo' x y else mHi' x y
 modify fun q=>setArr q (m.toList.zipIdx.foldl (fun a (p,j)=>a.setIfInBounds (sa+j) p) (arrOf q))
 return (failedOf (← get)).isNone):=rfl
theorem zam1 {α:Type} (sa:Nat):∀(l:List α) (n:Nat) (xs:Array α),sa+n+l.length≤xs.size →
  ((l.zipIdx n).foldl (fun a (q:α×Nat)=>match q with | (p,j)=>a.setIfInBounds (sa+j) p) xs).toList=xs.toList.take (sa+n)++l++xs.toList.drop (sa+n+l.length)
 |[],n,xs,h=>by simp
 |p::l,n,xs,h=>by
  rw [List.zipIdx_cons,zbm4,zam1 sa l (n+1) _ (by simp at h ⊢;lia)]
  simp only [Array.toList_setIfInBounds,zbe2]at h ⊢
  have hlt:sa+n<xs.toList.length:=by simp;lia
  rw [show sa+(n+1)=sa+n+1 by lia]
  have e1:(xs.toList.set (sa+n) p).take (sa+n+1)=xs.toList.take (sa+n)++[p]:=by
   rw [List.take_succ,List.take_set_of_le (zaz7 _),zbh9 hlt];rfl
  have e2:(xs.toList.set (sa+n) p).drop (sa+n+1+l.length)=xs.toList.drop (sa+n+(l.length+1)):=by
   rw [List.drop_set_of_lt (by lia)]
   congr 1;lia
  rw [e1,e2]
  simp
theorem back_eq {α:Type} (sa:Nat) (l:List α) (xs:Array α) (h:sa+l.length≤xs.size) :
  (l.zipIdx.foldl (fun a (q:α×Nat)=>match q with | (p,j)=>a.setIfInBounds (sa+j) p) xs).toList=xs.toList.take sa++l++xs.toList.drop (sa+l.length):=by
 have:=zam1 sa l 0 xs (by simpa using h)
 simpa using this
section
variable {M:Model}{A:Around}{E:Value→zaz5→Prop}{s:zaz5}{κ π:Keyed→Int}{a₀:Array Keyed}{kd:SortKind} (C:Cmp M A E s κ π a₀ kd)
theorem wp_set {st st':SortSt}{Q:PUnit→SortSt→Prop} (h:Q ⟨⟩ st'):wpS M A E s (set st':StateT SortSt Sem PUnit) Q st:=by
 unfold wpS
 rw [StateT.run_set]
 exact zba0 ⟨rfl,h⟩
def sepL (π:Keyed→Int) (l m:List Keyed):Prop := ∀a∈l,∀b∈m,π a≤π b
include C in
theorem wp_mAt {n:Nat}{pre X Y post:List Keyed}{pw pw2:Nat}{st:SortSt}{Q:Bool→SortSt→Prop} (hk:kindOf st=kd) (hf:failedOf st=none) (ha:(arrOf st).toList=pre++X++Y++post) (hm:∀z∈(arrOf st).toList,z∈a₀.toList)
  (p1:(pendingOf st)[n]?=some (pre.length,X.length,pw)) (p2:(pendingOf st)[n+1]?=some (pre.length+X.length,Y.length,pw2)) (rX:Ris κ π X) (rY:Ris κ π Y) (nX:X≠[]) (nY:Y≠[]) (sp:sepL π X Y)
  (h:∀Z st',Ris κ π Z→Z.Perm (X++Y)→(arrOf st').toList=pre++Z++post→kindOf st'=kd→failedOf st'=none→pendingOf st'=((pendingOf st).setIfInBounds n (pre.length,X.length+Y.length,pw)).eraseIdxIfInBounds (n+1)→Q true st') :
  wpS M A E s (mergeAt' n) Q st:=by
 rw [mAt_eq]
 refine zaz8 (wpS_get ?_)
 rw [p1,p2]
 dsimp only
 refine zaz8 (wp_set ?_)
 have mX:∀z∈X,z∈a₀.toList:=fun z hz=>hm z (by rw [ha];simp [hz])
 have mY:∀z∈Y,z∈a₀.toList:=fun z hz=>hm z (by rw [ha];simp [hz])
 have lX:0<X.length:=zbh3.mpr nX
 have lY:0<Y.length:=zbh3.mpr nY
 have sz:(arrOf st).size=pre.length+X.length+Y.length+post.length:=by
  have:=congrArg List.length ha
  simpa [zbj9] using this
 have atX:∀i,i<X.length→(arrOf st)[pre.length+i]?=X[i]?:=fun i hi=>by
  rw [← zba9,ha,zaz4,zaz4,zbc1 (by lia),zbd6,zbc6 hi]
 have atY:∀i,i<Y.length→(arrOf st)[pre.length+X.length+i]?=Y[i]?:=fun i hi=>by
  rw [← zba9,ha,zaz4,zbc1 (by simp)]
  simp only [zbd4]
  rw [zbd6,zbc6 hi]
 obtain⟨y0,hy0⟩:∃y,Y[0]?=some y:=⟨Y[0],by simp⟩
 have my0:y0∈Y:=zbc2 hy0
 refine zaz8 (zc4 (z:=y0) (by have:=atY 0 lY;rw [Nat.add_zero]at this;rw [this];exact hy0) ?_)
 refine zaz8 (zu4 C hk (fun i=>match X[i]? with | some z=>!decide (κ y0<κ z) |none=>false) (fun i hi=>?_) (mY y0 my0) (fun i j hij hj e=>?_) lX fun k hkl hlo hhi=>?_)
 ·have e:X[i]?=some X[i]:=by simp [hi]
  exact⟨X[i],by rw [atX i hi];exact e,mX _ (zbe3 hi),by rw [e];rfl⟩
 ·have ei:X[i]?=some (X[i]'(by lia)):=zaz1 (by lia)
  have ej:X[j]?=some (X[j]'hj):=zaz1 hj
  rw [ej]at e
  rw [ei]
  have q:=zv1 C.pi (mX _ (zbe3 _)) (mX _ (zbe3 _)) (zm2 rX hij ei ej)
  simp only [zbg9,decide_eq_false_iff_not]at e ⊢
  lia
 dsimp only
 have pb:zd2 κ π (X.take k) Y:=fun a hA b hB=>by
  obtain⟨i,hi,ei⟩:=zo0 hA
  have:=hlo i hi
  rw [ei]at this
  have q:rk κ π a≤rk κ π y0:=rk_le (by simpa using this) (sp a (zbc2 ei) y0 my0)
  obtain⟨j,hj,ej⟩:=zbh1.mp hB
  exact zbj6 q (zm2 rY (zbh7 j) hy0 (by rw [← ej];exact zaz1 hj))
 have same:∀Z,Z=X++Y→Ris κ π Z→Q true (setPending st (((pendingOf st).setIfInBounds n (pre.length,X.length+Y.length,pw)).eraseIdxIfInBounds (n+1))):=fun Z e r=>by
  refine h Z _ r (by rw [e]) ?_ hk hf rfl
  show (arrOf st).toList=_
  rw [ha,e];simp
 by_cases c1:X.length - k=0
 ·rw [if_pos (by simpa using c1)]
  refine zba3 (same _ rfl (ze4 rX rY ?_))
  rw [zbb7 (by lia)]at pb
  exact pb
 rw [if_neg (by simpa using c1)]
 have eL:pre.length+k+(X.length - k) - 1=pre.length+(X.length - 1):=by lia
 obtain⟨xl,hxl⟩:∃x,X[X.length - 1]?=some x:=⟨X[X.length - 1],by simp [lX]⟩
 have mxl:xl∈X:=zbc2 hxl
 refine zaz8 (zc4 (z:=xl) (by rw [eL,atX _ (by lia)];exact hxl) ?_)
 refine zaz8 (zu4 C hk (fun i=>match Y[i]? with | some z=>decide (κ z<κ xl) |none=>false) (fun i hi=>?_) (mX xl mxl) (fun i j hij hj e=>?_) (by lia) fun m hml hlo2 hhi2=>?_)
 ·have e:Y[i]?=some Y[i]:=by simp [hi]
  exact⟨Y[i],by rw [atY i hi];exact e,mY _ (zbe3 hi),by rw [e];rfl⟩
 ·have ei:Y[i]?=some (Y[i]'(by lia)):=zaz1 (by lia)
  have ej:Y[j]?=some (Y[j]'hj):=zaz1 hj
  rw [ej]at e
  rw [ei]
  have q:=zv1 C.pi (mY _ (zbe3 _)) (mY _ (zbe3 _)) (zm2 rY hij ei ej)
  simp only [decide_eq_true_eq]at e ⊢
  lia
 dsimp only
 have xs_le:∀a∈X,rk κ π a≤rk κ π xl:=fun a hA=>by
  obtain⟨i,hi,ei⟩:=zbh1.mp hA
  exact zm2 rX (show i≤X.length - 1 by lia) (by rw [← ei];exact zaz1 hi) hxl
 have yb:zd2 κ π X (Y.drop m):=fun a hA b hB=>by
  obtain⟨i,hi,ei⟩:=zbh1.mp hB
  have hi':m+i<Y.length:=by simp at hi;lia
  have eb:Y[m+i]?=some b:=by rw [← ei,zbl0];exact zaz1 hi'
  have:=hhi2 (m+i) (by lia) hi'
  rw [eb]at this
  exact zbj6 (xs_le a hA) (rk_le (by simpa using this) (sp xl mxl b (zbc2 eb)))
 by_cases c2:m=0
 ·rw [if_pos (by simpa using c2)]
  subst c2
  exact zba3 (same _ rfl (ze4 rX rY (by simpa using yb)))
 rw [if_neg (by simpa using c2)]
 have ex:((arrOf st).extract (pre.length+k) (pre.length+X.length)).toList=X.drop k:=by
  rw [zbe5,ha]
  have e:zbj7 (pre++X++Y++post) (pre.length+k) (pre.length+X.length)=((pre++X++Y++post).drop (pre.length+k)).take (pre.length+X.length - (pre.length+k)):=by simp [zbj7]
  rw [e,zaz4,zaz4,zbm0,zbc8 (by lia),zbe4,zbd6,zbg2 (by lia),show pre.length+X.length - (pre.length+k)=X.length - k by lia,zbg3 (by simp)]
  exact zbb7 (by simp)
 have ey:((arrOf st).extract (pre.length+X.length) (pre.length+X.length+m)).toList=Y.take m:=by
  rw [zbe5,ha]
  have e:zbj7 (pre++X++Y++post) (pre.length+X.length) (pre.length+X.length+m)=((pre++X++Y++post).drop (pre.length+X.length)).take (pre.length+X.length+m - (pre.length+X.length)):=by simp [zbj7]
  rw [e,zaz4 (pre++X),zbm0,zbc8 (by simp),zbe4,show pre.length+X.length - (pre++X).length=0 by simp,List.drop_zero,zbd6,zbg3 (by lia)]
 generalize hx:(arrOf st).extract (pre.length+k) (pre.length+X.length)=x at ex
 generalize hy:(arrOf st).extract (pre.length+X.length) (pre.length+X.length+m)=y at ey
 have szx:x.size=X.length - k:=by rw [← zbg1,ex];simp
 have szy:y.size=m:=by rw [← zbg1,ey];simp;lia
 have T:Two κ π a₀ x y:={
  mx:=fun z hz=>by rw [ex]at hz;exact mX z (zbb6 hz)
  my:=fun z hz=>by rw [ey]at hz;exact mY z (zbc9 hz)
  rx:=by rw [ex];exact zd9 rX k
  ry:=by rw [ey];exact zf0 rY m
  sep:=fun a hA b hB=>by rw [ex]at hA;rw [ey]at hB;exact sp a (zbb6 hA) b (zbc9 hB)
  px:=by lia
  py:=by lia
  first:=fun a b e1 e2=>by
   rw [← zba9,ex,zbh8,Nat.add_zero]at e1
   rw [← zba9,ey,zbk3 (by lia),hy0]at e2
   cases e2
   have:=hhi k (zaz7 _) (by lia)
   rw [e1]at this
   simpa using this
  last:=fun a e1 b hB=>by
   rw [← zba9,ex,szx,zbh8,show k+(X.length - k - 1)=X.length - 1 by lia,hxl]at e1
   cases e1
   rw [ey]at hB
   obtain⟨i,hi,ei⟩:=zo0 hB
   have:=hlo2 i hi
   rw [ei]at this
   simpa using this }
 have fin:∀o st',Res κ π x y (setPending st (((pendingOf st).setIfInBounds n (pre.length,X.length+Y.length,pw)).eraseIdxIfInBounds (n+1))) o st'→wpS M A E s (do
   modify fun q=>setArr q (o.toList.zipIdx.foldl (fun a (p,j)=>a.setIfInBounds (pre.length+k+j) p) (arrOf q))
   return (failedOf (← get)).isNone) Q st':=fun o st' ⟨ss,ro,po⟩=>by
  refine zaz8 (wpS_modify (zaz8 (wpS_get (zba3 ?_))))
  have hfl:failedOf st'=none:=ss.fld.trans hf
  show Q (failedOf st').isNone _
  rw [hfl]
  have har:arrOf st'=arrOf st:=ss.arr
  have lo:o.toList.length=X.length - k+m:=by rw [po.length_eq];simp [ex,ey];lia
  rw [ex,ey]at po
  refine h (X.take k++o.toList++Y.drop m) _ ?_ ?_ ?_ (ss.knd.trans hk) hfl ss.pnd
  ·have b1:zd2 κ π (X.take k) o.toList:=fun a hA b hB=>by
    rcases zay8.mp (po.mem_iff.mp hB) with z | z
    ·exact zd1 rX k a hA b z
    ·exact pb a hA b (zbc9 z)
   have b2:zd2 κ π o.toList (Y.drop m):=fun a hA b hB=>by
    rcases zay8.mp (po.mem_iff.mp hA) with z | z
    ·exact yb a (zbb6 z) b hB
    ·exact zd1 rY m a z b hB
   exact ze4 (ze4 (zf0 rX k) ro b1) (zd9 rY m) (zi1 (zk8 pb fun b hb=>zbb6 hb) b2)
  ·refine (List.Perm.append_right _ (List.Perm.append_left _ po)).trans ?_
   rw [← zaz4,zaz6,zaz4,zaz6]
  ·show (o.toList.zipIdx.foldl (fun a (q:Keyed×Nat)=>match q with | (p,j)=>a.setIfInBounds (pre.length+k+j) p) (arrOf st')).toList=_
   rw [har,back_eq _ _ _ (by rw [lo,sz];lia),lo,ha]
   have e1:(pre++X++Y++post).take (pre.length+k)=pre++X.take k:=by
    rw [zaz4,zaz4,List.take_append,zbb7 (by lia),zbd6,zbg3 (by lia)]
   have e2:(pre++X++Y++post).drop (pre.length+k+(X.length - k+m))=Y.drop m++post:=by
    rw [show pre.length+k+(X.length - k+m)=(pre++X).length+m by simp;lia,zaz4 (pre++X),zbm0,zbc8 (by lia),zbe4,zbd6,zbg2 (by lia)]
   rw [e1,e2]
   simp
 by_cases c3:X.length - k≤m
 ·rw [if_pos c3]
  exact zaz8 (wp_mLo C (st:=setPending st (((pendingOf st).setIfInBounds n (pre.length,X.length+Y.length,pw)).eraseIdxIfInBounds (n+1))) hk T fin)
 ·rw [if_neg c3]
  exact zaz8 (wp_mHi C (st:=setPending st (((pendingOf st).setIfInBounds n (pre.length,X.length+Y.length,pw)).eraseIdxIfInBounds (n+1))) hk T fin)
end
end TS
namespace TS
def kA (f:Keyed→Int) (xs:Array Keyed) (i:Nat):Int:=match xs[i]? with
 |some p=>f p
 |none=>0
theorem zab9 {f:Keyed→Int}{xs:Array Keyed}{i:Nat}{z:Keyed} (h:xs[i]?=some z):kA f xs i=f z:=by unfold kA;rw [h]
theorem zo1 {f:Keyed→Int}{xs ys:Array Keyed}{i j:Nat} (h:xs[i]?=ys[j]?):kA f xs i=kA f ys j:=by unfold kA;rw [h]
structure Chg (xs zs:Array Keyed) (lo hi:Nat):Prop where
 pm:zs.Perm xs
 out:∀i,i<lo∨hi≤i→zs[i]?=xs[i]?
 ins:∀i,lo≤i→i<hi→∃j,lo≤j∧j<hi∧zs[i]?=xs[j]?
theorem Chg.refl (xs:Array Keyed) (lo hi:Nat):Chg xs xs lo hi:=⟨Array.Perm.refl _,fun _ _=>rfl,fun i h1 h2=>⟨i,h1,h2,rfl⟩⟩
theorem Chg.size {xs zs:Array Keyed}{lo hi:Nat} (h:Chg xs zs lo hi):zs.size=xs.size:=h.pm.size_eq
theorem Chg.wide {xs zs:Array Keyed}{lo hi hi':Nat} (h:Chg xs zs lo hi) (g:hi≤hi'):Chg xs zs lo hi' where
 pm:=h.pm
 out:=fun i hi2=>h.out i (by lia)
 ins:=fun i h1 h2=>by
  by_cases z:i<hi
  ·obtain⟨j,a,b,c⟩:=h.ins i h1 z
   exact⟨j,a,by lia,c⟩
  ·exact⟨i,h1,h2,h.out i (by lia)⟩
theorem Chg.mir {xs zs:Array Keyed}{lo hi i0 j0:Nat} (h:Chg xs zs lo hi) (h1:lo≤i0) (h2:j0≤hi) (h3:j0≤zs.size):Chg xs (mirror zs i0 j0 ((j0 - i0) / 2)) lo hi where
 pm:=(mirror_perm _ _ _ _).trans h.pm
 out:=fun i hi2=>by
  rw [getElem?_mirror_all h3,if_neg (by lia)]
  exact h.out i hi2
 ins:=fun i a b=>by
  rw [getElem?_mirror_all h3]
  split
  ·exact h.ins _ (by lia) (by lia)
  ·exact h.ins i a b
theorem zk5 {f:Keyed→Int}{zs:Array Keyed}{i0 j0:Nat} (h3:j0≤zs.size) (k:Nat):kA f (mirror zs i0 j0 ((j0 - i0) / 2)) k=if i0≤k∧k<j0 then kA f zs (i0+j0 - 1 - k) else kA f zs k:=by
 have e:=getElem?_mirror_all (i:=i0) h3 k
 by_cases h1:i0≤k∧k<j0
 ·rw [if_pos h1]at e ⊢;exact zo1 e
 ·rw [if_neg h1]at e ⊢;exact zo1 e
section
variable {M:Model}{A:Around}{E:Value→zaz5→Prop}{s:zaz5}{κ π:Keyed→Int}{a₀:Array Keyed}{kd:SortKind} (C:Cmp M A E s κ π a₀ kd)
def rA (κ π:Keyed→Int) (xs:Array Keyed) (i:Nat):Int:=kA κ xs i*1048576+kA π xs i
def RSeg (κ π:Keyed→Int) (xs:Array Keyed) (lo hi:Nat):Prop := ∀i j,lo≤i→i≤j→j<hi→rA κ π xs i≤rA κ π xs j
def zu3 (π:Keyed→Int) (xs:Array Keyed) (m:Nat):Prop := ∀i j,i≤j→m≤j→j<xs.size→kA π xs i≤kA π xs j
structure TB (a₀:Array Keyed) (kd:SortKind) (st:SortSt):Prop where
 pm:(arrOf st).Perm a₀
 kind:kindOf st=kd
 fld:failedOf st=none
theorem TB.size {st:SortSt} (h:TB a₀ kd st):(arrOf st).size=a₀.size:=h.pm.size_eq
theorem TB.mem {st:SortSt} (h:TB a₀ kd st):∀z∈(arrOf st).toList,z∈a₀.toList:=fun z hz=>(zbd2.mp h.pm).mem_iff.mp hz
theorem zat3 {a₀ xs:Array Keyed} (h:xs.Perm a₀) {i:Nat} (hi:i<xs.size):∃z,xs[i]?=some z∧z∈a₀.toList:=⟨xs[i],by simp [hi],(zbd2.mp h).mem_iff.mp (by simp)⟩
include C in
theorem zn7 {xs:Array Keyed} (h:xs.Perm a₀) {i:Nat} (hi:i<xs.size):0≤kA π xs i∧kA π xs i<1048576:=by
 obtain⟨z,z1,z2⟩:=zat3 h hi
 rw [zab9 z1]
 exact C.pi z z2
include C in
theorem zy6 {st:SortSt}{i j:Nat}{Q:Option Bool→SortSt→Prop} (hB:TB a₀ kd st) (hi:i<a₀.size) (hj:j<a₀.size) (h:Q (some (decide (kA κ (arrOf st) i<kA κ (arrOf st) j))) st):wpS M A E s (ltAt' i j) Q st:=by
 obtain⟨x,x1,x2⟩:=zat3 hB.pm (i:=i) (by rw [hB.size];exact hi)
 obtain⟨y,y1,y2⟩:=zat3 hB.pm (i:=j) (by rw [hB.size];exact hj)
 rw [ltAt'_eq]
 refine zaz8 (wpS_get ?_)
 refine zaz8 (zc4 x1 (zaz8 (zc4 y1 (C.lt st x y Q hB.kind x2 y2 ?_))))
 rw [zab9 x1,zab9 y1]at h
 exact h
noncomputable def Cnt (κ π:Keyed→Int) (a₀:Array Keyed) (kd:SortKind) (st:SortSt) (lo hi:Nat) (st':SortSt):Prop:=TB a₀ kd st'∧pendingOf st'=pendingOf st∧Chg (arrOf st) (arrOf st') lo hi∧RSeg κ π (arrOf st') lo hi
noncomputable def ascT (lo n nr:Nat):StateT SortSt Sem (Option (Option Nat)×Nat) :=
 forIn [n:nr] ((none,n):Option (Option Nat)×Nat) fun _ r=>do
  let x ← ltAt' (lo+r.snd) (lo+r.snd - 1)
  match x with
  |some sm=>if sm=true then pure (ForInStep.done (none,r.snd)) else pure (ForInStep.yield (none,r.snd+1))
  |_=>pure (ForInStep.done (some none,r.snd))
include C in
theorem zao8 {st:SortSt}{xs:Array Keyed}{lo n nr:Nat}{Q:Option (Option Nat)×Nat→SortSt→Prop} (hB:TB a₀ kd st) (hn:1≤n) (hnr:n≤nr) (hs:lo+nr≤a₀.size) (fr:zu3 π xs lo) (ch:Chg xs (arrOf st) lo (lo+n)) (hr:RSeg κ π (arrOf st) lo (lo+n))
  (h:∀m,n≤m→m≤nr→RSeg κ π (arrOf st) lo (lo+m)→(m=nr∨kA κ (arrOf st) (lo+m)<kA κ (arrOf st) (lo+m - 1))→Q (none,m) st):wpS M A E s (ascT lo n nr) Q st:=by
 unfold ascT
 refine wpS_forRange (I:=fun x c st'=>st'=st∧c=(none,x)∧RSeg κ π (arrOf st) lo (lo+x)) ?_ ?_ ⟨rfl,rfl,hr⟩
 ·rintro x c st' hx1 hx2 ⟨rfl,rfl,hr'⟩
  dsimp only
  refine zaz8 (zy6 C hB (by lia) (by lia) ?_)
  by_cases hl:kA κ (arrOf st') (lo+x)<kA κ (arrOf st') (lo+x - 1)
  ·simp only [hl,decide_true,if_true]
   exact zba3 (h x hx1 (by lia) hr' (.inr hl))
  ·simp only [hl,decide_false,zbb4,if_false]
   refine zba3 ⟨rfl,rfl,fun i j a1 a2 a3=>?_⟩
   by_cases z:j<lo+x
   ·exact hr' i j a1 a2 z
   ·have ej:j=lo+x:=by lia
    subst ej
    by_cases zi:i=lo+x
    ·subst zi;exact zbf8 _
    ·have sz:=hB.size
     have szx:=ch.size
     have q:=hr' i (lo+x - 1) a1 (by lia) (by lia)
     have p1:=zn7 C hB.pm (i:=i) (by lia)
     have p2:=zn7 C hB.pm (i:=lo+x - 1) (by lia)
     have p3:=zn7 C hB.pm (i:=lo+x) (by lia)
     have fx:kA π (arrOf st') i≤kA π (arrOf st') (lo+x):=by
      obtain⟨k,k1,k2,k3⟩:=(ch.wide (show lo+n≤lo+x by lia)).ins i a1 (by lia)
      rw [zo1 k3,zo1 (ch.out (lo+x) (by lia))]
      exact fr k (lo+x) (by lia) (by lia) (by lia)
     unfold rA at q ⊢
     lia
 ·rintro c st' ⟨rfl,rfl,hr'⟩
  rw [show max n nr=nr by lia]at hr' ⊢
  exact h nr hnr (zaz7 _) hr' (.inl rfl)
noncomputable def zap6 (lo n nr:Nat):StateT SortSt Sem (Option Nat):=do
 reverseSlice' lo (lo+n)
 let r ← ascT lo n nr
 match r.fst with
 |some a=>pure a
 |none=>pure (some r.snd)
theorem zai1 {st:SortSt}{i j:Nat}{Q:Unit→SortSt→Prop} (h:Q () (setArr st (mirror (arrOf st) i j ((j - i) / 2)))):wpS M A E s (reverseSlice' i j) Q st:=by
 rw [reverseSlice'_eq];exact wpS_modify h
theorem TB.set {st:SortSt} (h:TB a₀ kd st) {zs:Array Keyed} (hp:zs.Perm (arrOf st)):TB a₀ kd (setArr st zs):=⟨hp.trans h.pm,h.kind,h.fld⟩
include C in
theorem zah9 {st0 st:SortSt}{lo n nr:Nat}{Q:Option Nat→SortSt→Prop} (hB:TB a₀ kd st) (hp:pendingOf st=pendingOf st0) (hn:1≤n) (hnr:n≤nr) (hs:lo+nr≤a₀.size) (fr:zu3 π (arrOf st0) lo) (ch:Chg (arrOf st0) (arrOf st) lo (lo+n))
  (hf:∀i j,lo≤i→i≤j→j<lo+n→rA κ π (arrOf st) j≤rA κ π (arrOf st) i) (h:∀m st',1≤m→m≤nr→Cnt κ π a₀ kd st0 lo (lo+m) st'→Q (some m) st'):wpS M A E s (zap6 lo n nr) Q st:=by
 unfold zap6
 have sz:lo+n≤(arrOf st).size:=by rw [hB.size];lia
 refine zaz8 (zai1 ?_)
 have hB':TB a₀ kd (setArr st (mirror (arrOf st) lo (lo+n) ((lo+n - lo) / 2))):=hB.set (mirror_perm _ _ _ _)
 have ch':Chg (arrOf st0) (mirror (arrOf st) lo (lo+n) ((lo+n - lo) / 2)) lo (lo+n):=ch.mir (zaz7 _) (zaz7 _) sz
 refine zaz8 (zao8 C hB' hn hnr hs fr ch' (fun i j a1 a2 a3=>?_) fun m m1 m2 m3 _=>zba3 (h m _ (by lia) m2 ⟨hB',hp,ch'.wide (by lia),m3⟩))
 show rA κ π (mirror (arrOf st) _ _ _) i≤rA κ π (mirror (arrOf st) _ _ _) j
 unfold rA
 rw [zk5 sz,zk5 sz,zk5 sz,zk5 sz,if_pos (by lia),if_pos (by lia),if_pos (by lia),if_pos (by lia)]
 exact hf _ _ (by lia) (by lia) (by lia)
end
end TS
namespace TS
section
variable {M:Model}{A:Around}{E:Value→zaz5→Prop}{s:zaz5}{κ π:Keyed→Int}{a₀:Array Keyed}{kd:SortKind} (C:Cmp M A E s κ π a₀ kd)
structure Dn (κ π:Keyed→Int) (a₀:Array Keyed) (kd:SortKind) (st0:SortSt) (lo x q:Nat) (st:SortSt):Prop where
 tb:TB a₀ kd st
 pd:pendingOf st=pendingOf st0
 ch:Chg (arrOf st0) (arrOf st) lo (lo+x)
 le:q+1≤x
 un:∀i,lo+x - (q+1)≤i→(arrOf st)[i]?=(arrOf st0)[i]?
 eq:∀i,lo+x - (q+1)≤i→i<lo+x→kA κ (arrOf st) i=kA κ (arrOf st) (lo+x - 1)
 fl:∀i j,lo≤i→i≤j→j<lo+x - (q+1)→rA κ π (arrOf st) j≤rA κ π (arrOf st) i
 gt:∀i,lo≤i→i<lo+x - (q+1)→kA κ (arrOf st) (lo+x - 1)<kA κ (arrOf st) i
def Fall (κ π:Keyed→Int) (zs:Array Keyed) (lo hi:Nat):Prop := ∀i j,lo≤i→i≤j→j<hi→rA κ π zs j≤rA κ π zs i
include C in
theorem Dn.fall {st0 st:SortSt}{lo x q:Nat} (h:Dn κ π a₀ kd st0 lo x q st) (fr:zu3 π (arrOf st0) lo) (hs:lo+x≤a₀.size):Fall κ π (mirror (arrOf st) (lo+x - (q+1)) (lo+x) ((lo+x - (lo+x - (q+1))) / 2)) lo (lo+x):=by
 intro i j a1 a2 a3
 have sz:lo+x≤(arrOf st).size:=by rw [h.tb.size];lia
 have sz0:(arrOf st0).size=(arrOf st).size:=h.ch.size.symm
 have le:=h.le
 unfold rA
 rw [zk5 sz,zk5 sz,zk5 sz,zk5 sz]
 by_cases zi:lo+x - (q+1)≤i
 ·rw [if_pos (by lia),if_pos (by lia),if_pos (by lia),if_pos (by lia),h.eq _ (by lia) (by lia),h.eq (lo+x - (q+1)+(lo+x) - 1 - i) (by lia) (by lia),zo1 (h.un (lo+x - (q+1)+(lo+x) - 1 - j) (by lia)),zo1 (h.un (lo+x - (q+1)+(lo+x) - 1 - i) (by lia))]
  have:=fr (lo+x - (q+1)+(lo+x) - 1 - j) (lo+x - (q+1)+(lo+x) - 1 - i) (by lia) (by lia) (by lia)
  lia
 ·rw [if_neg (c:=_∧i<_) (by lia),if_neg (c:=_∧i<_) (by lia)]
  by_cases zj:lo+x - (q+1)≤j
  ·rw [if_pos (by lia),if_pos (by lia),h.eq _ (by lia) (by lia)]
   have g:=h.gt i a1 (by lia)
   have p1:=zn7 C h.tb.pm (i:=lo+x - (q+1)+(lo+x) - 1 - j) (by lia)
   have p2:=zn7 C h.tb.pm (i:=i) (by lia)
   lia
  ·rw [if_neg (by lia),if_neg (by lia)]
   exact h.fl i j a1 a2 (by lia)
include C in
theorem Dn.fall0 {st0 st:SortSt}{lo x:Nat} (h:Dn κ π a₀ kd st0 lo x 0 st) (hs:lo+x≤a₀.size):Fall κ π (arrOf st) lo (lo+x):=by
 intro i j a1 a2 a3
 have sz:lo+x≤(arrOf st).size:=by rw [h.tb.size];lia
 have le:=h.le
 by_cases zj:j<lo+x - (0+1)
 ·exact h.fl i j a1 a2 zj
 ·have ej:j=lo+x - 1:=by lia
  by_cases zi:i=j
  ·subst zi;exact zbf8 _
  ·have g:=h.gt i a1 (by lia)
   have p1:=zn7 C h.tb.pm (i:=lo+x - 1) (by lia)
   have p2:=zn7 C h.tb.pm (i:=i) (by lia)
   unfold rA
   rw [ej]
   lia
noncomputable def descT (lo n nr:Nat):StateT SortSt Sem (Option (Option Nat)×Nat×Nat) :=
 forIn [n:nr] ((none,n,0):Option (Option Nat)×Nat×Nat) fun _ r=>do
  let x ← ltAt' (lo+r.snd.fst) (lo+r.snd.fst - 1)
  match x with
  |some sm =>
   if sm=true then
    if r.snd.snd > 0 then do
     reverseSlice' (lo+r.snd.fst - (r.snd.snd+1)) (lo+r.snd.fst)
     pure (ForInStep.yield (none,r.snd.fst+1,0))
    else pure (ForInStep.yield (none,r.snd.fst+1,0))
   else do
    let y ← ltAt' (lo+r.snd.fst - 1) (lo+r.snd.fst)
    match y with
    |some lg=>if lg=true then pure (ForInStep.done (none,r.snd.fst,r.snd.snd)) else pure (ForInStep.yield (none,r.snd.fst+1,r.snd.snd+1))
    |_=>pure (ForInStep.done (some none,r.snd.fst,r.snd.snd))
  |_=>pure (ForInStep.done (some none,r.snd.fst,r.snd.snd))
include C in
theorem wp_descT {st0 st:SortSt}{lo n nr:Nat}{Q:Option (Option Nat)×Nat×Nat→SortSt→Prop} (fr:zu3 π (arrOf st0) lo) (hn:1≤n) (hnr:n≤nr) (hs:lo+nr≤a₀.size) (D0:Dn κ π a₀ kd st0 lo n 0 st)
  (h:∀m q st',n≤m→m≤nr→Dn κ π a₀ kd st0 lo m q st'→Q (none,m,q) st'):wpS M A E s (descT lo n nr) Q st:=by
 unfold descT
 refine wpS_forRange (I:=fun x c st' => ∃q,c=(none,x,q)∧Dn κ π a₀ kd st0 lo x q st') ?_ ?_ ⟨0,rfl,D0⟩
 ·rintro x c st' hx1 hx2 ⟨q,rfl,D⟩
  dsimp only
  have le:=D.le
  have sz:lo+x≤(arrOf st').size:=by rw [D.tb.size];lia
  have hszA:=D.tb.size
  refine zaz8 (zy6 C D.tb (by lia) (by lia) ?_)
  by_cases hl:kA κ (arrOf st') (lo+x)<kA κ (arrOf st') (lo+x - 1)
  ·simp only [hl,decide_true,if_true]
   have mk:∀zs:Array Keyed,zs.Perm (arrOf st')→Chg (arrOf st0) zs lo (lo+x)→Fall κ π zs lo (lo+x)→(∀i,lo≤i→i<lo+x→∃j,lo≤j∧j<lo+x∧zs[i]?=(arrOf st')[j]?)→zs[lo+x]?=(arrOf st')[lo+x]?→(∀i,lo+x≤i→zs[i]?=(arrOf st0)[i]?)→Dn κ π a₀ kd st0 lo (x+1) 0 (setArr st' zs):=fun zs hp hc hf hin hx hun=>{
    tb:=D.tb.set hp
    pd:=D.pd
    ch:=hc.wide (by lia)
    le:=by lia
    un:=fun i hi=>hun i (by lia)
    eq:=fun i a b=>by congr 1;lia
    fl:=fun i j a b c=>hf i j a b (by lia)
    gt:=fun i a b=>by
     show kA κ zs (lo+(x+1) - 1)<kA κ zs i
     obtain⟨j,j1,j2,j3⟩:=hin i a (by lia)
     rw [show lo+(x+1) - 1=lo+x by lia,zo1 hx,zo1 j3]
     by_cases z:j<lo+x - (q+1)
     ·have:=D.gt j j1 z
      lia
     ·rw [D.eq j (by lia) j2]
      exact hl }
   by_cases hq:q > 0
   ·rw [if_pos hq]
    refine zaz8 (zai1 (zba3 ⟨0,rfl,mk _ (mirror_perm _ _ _ _) (D.ch.mir (by lia) (zaz7 _) sz) (D.fall C fr (by lia)) (fun i a b=>?_) ?_ (fun i a=>?_)⟩))
    ·rw [getElem?_mirror_all sz]
     split
     ·exact⟨_,by lia,by lia,rfl⟩
     ·exact⟨i,a,b,rfl⟩
    ·rw [getElem?_mirror_all sz,if_neg (by lia)]
    ·rw [getElem?_mirror_all sz,if_neg (by lia)]
     exact D.un i (by lia)
   ·rw [if_neg hq]
    have:q=0:=by lia
    subst this
    have D1:=mk (arrOf st') (Array.Perm.refl _) D.ch (D.fall0 C (by lia)) (fun i a b=>⟨i,a,b,rfl⟩) rfl (fun i a=>D.un i (by lia))
    exact zba3 ⟨0,rfl,⟨⟨D1.tb.pm,D1.tb.kind,D1.tb.fld⟩,D1.pd,D1.ch,D1.le,D1.un,D1.eq,D1.fl,D1.gt⟩⟩
  ·simp only [hl,decide_false,zbb4,if_false]
   refine zaz8 (zy6 C D.tb (by lia) (by lia) ?_)
   by_cases hg:kA κ (arrOf st') (lo+x - 1)<kA κ (arrOf st') (lo+x)
   ·simp only [hg,decide_true,if_true]
    exact zba3 (h x q st' hx1 (by lia) D)
   ·simp only [hg,decide_false,zbb4,if_false]
    have ee:kA κ (arrOf st') (lo+x)=kA κ (arrOf st') (lo+x - 1):=by lia
    refine zba3 ⟨q+1,rfl,⟨D.tb,D.pd,D.ch.wide (by lia),by lia,fun i a=>D.un i (by lia),fun i a b=>?_,fun i j a b c=>D.fl i j a b (by lia),fun i a b=>?_⟩⟩
    ·rw [show lo+(x+1) - 1=lo+x by lia]
     by_cases z:i=lo+x
     ·rw [z]
     ·rw [ee];exact D.eq i (by lia) (by lia)
    ·rw [show lo+(x+1) - 1=lo+x by lia,ee]
     exact D.gt i a (by lia)
 ·rintro c st' ⟨q,rfl,D⟩
  rw [show max n nr=nr by lia]at D ⊢
  exact h nr q st' hnr (zaz7 _) D
noncomputable def zav3 (lo n nr:Nat):StateT SortSt Sem (Option Nat):=do
 liftM (rule "list.sort.descending-run")
 let r ← descT lo (n+1) nr
 match r.fst with
 |some a=>pure a
 |none =>
  if r.snd.snd > 0 then do
   reverseSlice' (lo+r.snd.fst - (r.snd.snd+1)) (lo+r.snd.fst)
   zap6 lo r.snd.fst nr
  else zap6 lo r.snd.fst nr
include C in
theorem zai2 {st0 st:SortSt}{lo n nr:Nat}{Q:Option Nat→SortSt→Prop} (fr:zu3 π (arrOf st0) lo) (hnr:n+1≤nr) (hs:lo+nr≤a₀.size) (D0:Dn κ π a₀ kd st0 lo (n+1) 0 st)
  (h:∀m st',1≤m→m≤nr→Cnt κ π a₀ kd st0 lo (lo+m) st'→Q (some m) st'):wpS M A E s (zav3 lo n nr) Q st:=by
 unfold zav3
 refine zaz8 (wpS_lift (wpAny_rule ⟨rfl,?_⟩))
 refine zaz8 (wp_descT C fr (by lia) hnr hs D0 fun m q st' h1 h2 D=>?_)
 dsimp only
 have sz:lo+m≤(arrOf st').size:=by rw [D.tb.size];lia
 have le:=D.le
 by_cases hq:q > 0
 ·rw [if_pos hq]
  exact zaz8 (zai1 (zah9 C (D.tb.set (mirror_perm _ _ _ _)) D.pd (by lia) h2 hs fr (D.ch.mir (by lia) (zaz7 _) sz) (D.fall C fr (by lia)) h))
 ·rw [if_neg hq]
  have:q=0:=by lia
  subst this
  exact zah9 C D.tb D.pd (by lia) h2 hs fr D.ch (D.fall0 C (by lia)) h
theorem cnt_eq (lo nr:Nat):countRun' lo nr=(do
  let r ← ascT lo 1 nr
  match r.fst with
  |some a=>pure a
  |none =>
   if (r.snd == nr)=true then pure (some r.snd)
   else if r.snd > 1 then do
    let x ← ltAt' lo (lo+r.snd - 1)
    match x with
    |some rs=>if rs=true then pure (some r.snd) else do
      reverseSlice' lo (lo+r.snd)
      zav3 lo r.snd nr
    |_=>pure none
   else zav3 lo r.snd nr):=by
 rw [countRun'_eq]
 dsimp only
 unfold zav3 zap6 descT ascT
 congr 1
 funext r
 obtain⟨r,n⟩:=r
 cases r with
 |some r=>rfl
 |none =>
  dsimp only
  split
  ·rfl
  ·split
   ·congr 1
    funext x
    cases x with
    |none=>rfl
    |some rs =>
     dsimp only
     split
     ·rfl
     ·congr 1
      funext _u
      congr 1
      funext _v
      congr 1
      congr 1
      funext r2
      obtain⟨r2,n2,q2⟩:=r2
      cases r2 with
      |some r2=>rfl
      |none =>
       dsimp only
       split
       ·congr 1
        funext _w
        congr 1
        funext _z
        congr 1
        funext r3
        obtain⟨r3,n3⟩:=r3
        cases r3<;>rfl
       ·congr 1
        funext _z
        congr 1
        funext r3
        obtain⟨r3,n3⟩:=r3
        cases r3<;>rfl
   ·congr 1
    funext _v
    congr 1
    congr 1
    funext r2
    obtain⟨r2,n2,q2⟩:=r2
    cases r2 with
    |some r2=>rfl
    |none =>
     dsimp only
     split
     ·congr 1
      funext _w
      congr 1
      funext _z
      congr 1
      funext r3
      obtain⟨r3,n3⟩:=r3
      cases r3<;>rfl
     ·congr 1
      funext _z
      congr 1
      funext r3
      obtain⟨r3,n3⟩:=r3
      cases r3<;>rfl
include C in
theorem wp_cnt {st:SortSt}{lo nr:Nat}{Q:Option Nat→SortSt→Prop} (hB:TB a₀ kd st) (fr:zu3 π (arrOf st) lo) (h1:1≤nr) (hs:lo+nr≤a₀.size)
  (h:∀m st',1≤m→m≤nr→Cnt κ π a₀ kd st lo (lo+m) st'→Q (some m) st'):wpS M A E s (countRun' lo nr) Q st:=by
 rw [cnt_eq]
 have sz:=hB.size
 refine zaz8 (zao8 C (xs:=arrOf st) hB (zaz7 1) h1 hs fr (Chg.refl _ _ _) (fun i j a b c=>by rw [show i=j by lia];exact zbf8 _) fun n n1 n2 hr hor=>?_)
 dsimp only
 by_cases hn:n=nr
 ·rw [if_pos (by simpa using hn)]
  exact zba3 (h n st n1 n2 ⟨hB,rfl,Chg.refl _ _ _,hr⟩)
 rw [if_neg (by simpa using hn)]
 have hl:=hor.resolve_left hn
 by_cases hg:n > 1
 ·rw [if_pos hg]
  refine zaz8 (zy6 C hB (by lia) (by lia) ?_)
  by_cases hro:kA κ (arrOf st) lo<kA κ (arrOf st) (lo+n - 1)
  ·simp only [hro,decide_true,if_true]
   exact zba3 (h n st n1 n2 ⟨hB,rfl,Chg.refl _ _ _,hr⟩)
  ·simp only [hro,decide_false,zbb4,if_false]
   have szn:lo+n≤(arrOf st).size:=by lia
   have all:∀i,lo≤i→i<lo+n→kA κ (arrOf st) i=kA κ (arrOf st) (lo+n - 1):=fun i a b=>by
    have q1:=hr lo i (zaz7 _) a b
    have q2:=hr i (lo+n - 1) a (by lia) (by lia)
    have p1:=zn7 C hB.pm (i:=lo) (by lia)
    have p2:=zn7 C hB.pm (i:=i) (by lia)
    have p3:=zn7 C hB.pm (i:=lo+n - 1) (by lia)
    unfold rA at q1 q2
    lia
   have keys:∀i,lo≤i→i<lo+n→kA κ (mirror (arrOf st) lo (lo+n) ((lo+n - lo) / 2)) i=kA κ (arrOf st) (lo+n - 1):=fun i a b=>by
    rw [zk5 szn,if_pos (by lia)]
    exact all _ (by lia) (by lia)
   have outs:∀i,lo+n≤i→(mirror (arrOf st) lo (lo+n) ((lo+n - lo) / 2))[i]?=(arrOf st)[i]?:=fun i a=>by rw [getElem?_mirror_all szn,if_neg (by lia)]
   refine zaz8 (zai1 (zai2 C fr (by lia) hs ⟨hB.set (mirror_perm _ _ _ _),rfl,((Chg.refl _ _ _).mir (zaz7 _) (zaz7 _) szn).wide (by lia),by lia,fun i a=>outs i (by lia),fun i a b=>by congr 1;lia,fun i j a b c=>?_,fun i a b=>?_⟩ h))
   ·show rA κ π (mirror (arrOf st) _ _ _) j≤rA κ π (mirror (arrOf st) _ _ _) i
    unfold rA
    rw [keys i a (by lia),keys j (by lia) (by lia),zk5 szn,zk5 szn,if_pos (by lia),if_pos (by lia)]
    have:=fr (lo+(lo+n) - 1 - j) (lo+(lo+n) - 1 - i) (by lia) (by lia) (by lia)
    lia
   ·show kA κ (mirror (arrOf st) _ _ _) _<kA κ (mirror (arrOf st) _ _ _) _
    rw [keys i a (by lia),show lo+(n+1) - 1=lo+n by lia,zo1 (outs (lo+n) (zaz7 _))]
    exact hl
 ·rw [if_neg hg]
  have:n=1:=by lia
  subst this
  refine zai2 C fr (by lia) hs ⟨hB,rfl,Chg.refl _ _ _,by lia,fun i a=>rfl,fun i a b=>by congr 1;lia,fun i j a b c=>?_,fun i a b=>?_⟩ h
  ·have:i=j:=by lia
   subst this;exact zbf8 _
  ·have:i=lo:=by lia
   subst this
   rw [zbn7]at hl
   exact hl
end
end TS
namespace TS
theorem kA_bub {f:Keyed→Int}{xs:Array Keyed}{src d:Nat} (hs:src<xs.size) (hd:d≤src) (k:Nat):kA f (bubble xs src d) k=if k=src - d then kA f xs src else if src - d<k∧k≤src then kA f xs (k - 1) else kA f xs k:=by
 have e:=getElem?_bubble hs d hd k
 by_cases h1:k=src - d
 ·rw [if_pos h1]at e ⊢;exact zo1 e
 ·rw [if_neg h1]at e ⊢
  by_cases h2:src - d<k∧k≤src
  ·rw [if_pos h2]at e ⊢;exact zo1 e
  ·rw [if_neg h2]at e ⊢;exact zo1 e
theorem Chg.bub {xs zs:Array Keyed}{lo src d:Nat} (h:Chg xs zs lo src) (h1:lo≤src - d) (hd:d≤src) (h3:src<zs.size):Chg xs (bubble zs src d) lo (src+1) where
 pm:=(bubble_perm _ _ _).trans h.pm
 out:=fun i hi=>by
  rw [getElem?_bubble h3 d hd,if_neg (by lia),if_neg (by lia)]
  exact h.out i (by lia)
 ins:=fun i a b=>by
  rw [getElem?_bubble h3 d hd]
  split
  ·exact⟨src,by lia,by lia,h.out src (by lia)⟩
  ·split
   ·obtain⟨j,j1,j2,j3⟩:=h.ins (i - 1) (by lia) (by lia)
    exact⟨j,j1,by lia,j3⟩
   ·obtain⟨j,j1,j2,j3⟩:=h.ins i a (by lia)
    exact⟨j,j1,by lia,j3⟩
section
variable {M:Model}{A:Around}{E:Value→zaz5→Prop}{s:zaz5}{κ π:Keyed→Int}{a₀:Array Keyed}{kd:SortKind} (C:Cmp M A E s κ π a₀ kd)
include C in
theorem wp_bin {st:SortSt}{lo n ok:Nat}{Q:Bool→SortSt→Prop} (hB:TB a₀ kd st) (hok:1≤ok) (hn:ok≤n) (hs:lo+n≤a₀.size) (fr:zu3 π (arrOf st) (lo+ok)) (hr:RSeg κ π (arrOf st) lo (lo+ok))
  (h:∀st',Cnt κ π a₀ kd st lo (lo+n) st'→Q true st'):wpS M A E s (binarySort' lo n ok) Q st:=by
 rw [binarySort'_eq]
 refine zaz8 (wpS_mono (wpS_forRange (I:=fun k c st'=>c=(none,())∧Cnt κ π a₀ kd st lo (lo+min k n) st') (Q:=fun c st'=>c=(none,())∧Cnt κ π a₀ kd st lo (lo+n) st') ?_ ?_ ?_) ?_)
 ·rintro k c st' k1 k2 ⟨rfl,tb,pd,ch,rs⟩
  rw [show min k n=k by lia]at ch rs
  have sz:=tb.size
  have szx:=ch.size
  refine zaz8 (wpS_mono (wpS_forRange (I:=fun x c st2=>st2=st'∧∃l r,c=(none,l,r)∧l≤r∧r≤k∧r - l≤k - x∧(∀i,i<l→kA κ (arrOf st') (lo+i)≤kA κ (arrOf st') (lo+k))∧(∀i,r≤i→i<k→kA κ (arrOf st') (lo+k)<kA κ (arrOf st') (lo+i)))
   (Q:=fun c st2=>st2=st'∧∃l r,c=(none,l,r)∧l≤k∧(∀i,i<l→kA κ (arrOf st') (lo+i)≤kA κ (arrOf st') (lo+k))∧(∀i,l≤i→i<k→kA κ (arrOf st') (lo+k)<kA κ (arrOf st') (lo+i))) ?_ ?_ ⟨rfl,0,k,rfl,by lia,by lia,by lia,fun i hi=>by lia,fun i a b=>by lia⟩) ?_)
  ·rintro x c st2 _ x2 ⟨rfl,l,r,rfl,a1,a2,a3,a4,a5⟩
   dsimp only
   by_cases hge:l ≥ r
   ·rw [if_pos hge]
    have:l=r:=by lia
    subst this
    exact zba3 ⟨rfl,l,l,rfl,a2,a4,a5⟩
   ·rw [if_neg hge]
    refine zaz8 (zy6 C tb (by lia) (by lia) ?_)
    have up:∀i j,i≤j→j<k→kA κ (arrOf st2) (lo+i)≤kA κ (arrOf st2) (lo+j):=fun i j q1 q2=>by
     have q:=rs (lo+i) (lo+j) (by lia) (by lia) (by lia)
     have p1:=zn7 C tb.pm (i:=lo+i) (by lia)
     have p2:=zn7 C tb.pm (i:=lo+j) (by lia)
     unfold rA at q
     lia
    by_cases hl:kA κ (arrOf st2) (lo+k)<kA κ (arrOf st2) (lo+(l+r) / 2)
    ·simp only [hl,decide_true,if_true]
     refine zba3 ⟨rfl,l,(l+r) / 2,rfl,by lia,by lia,by lia,a4,fun i q1 q2=>?_⟩
     have:=up ((l+r) / 2) i q1 q2
     lia
    ·simp only [hl,decide_false,zbb4,if_false]
     refine zba3 ⟨rfl,(l+r) / 2+1,r,rfl,by lia,by lia,by lia,fun i q1=>?_,a5⟩
     have:=up i ((l+r) / 2) (by lia) (by lia)
     lia
  ·rintro c st2 ⟨rfl,l,r,rfl,a1,a2,a3,a4,a5⟩
   have:l=r:=by lia
   subst this
   exact⟨rfl,l,l,rfl,a2,a4,a5⟩
  ·rintro c st2 ⟨rfl,l,r,rfl,a1,a4,a5⟩
   show wpS _ _ _ _ (do moveDown' (lo+k) (lo+l);pure (ForInStep.yield (none,()))) _ _
   rw [moveDown'_eq]
   have hk:lo+k<(arrOf st2).size:=by lia
   refine zaz8 (wpS_modify (zba3 ⟨rfl,tb.set (bubble_perm _ _ _),pd,?_,?_⟩))
   ·rw [show min (k+1) n=k+1 by lia]
    exact ch.bub (by lia) (by lia) hk
   ·rw [show min (k+1) n=k+1 by lia]
    intro i j b1 b2 b3
    show rA κ π (bubble (arrOf st2) (lo+k) (lo+k - (lo+l))) i≤rA κ π (bubble (arrOf st2) (lo+k) (lo+k - (lo+l))) j
    have pk:=zn7 C tb.pm hk
    have frk:∀i,lo≤i→i<lo+k→kA π (arrOf st2) i≤kA π (arrOf st2) (lo+k):=fun i q1 q2=>by
     obtain⟨m,m1,m2,m3⟩:=ch.ins i q1 q2
     rw [zo1 m3,zo1 (ch.out (lo+k) (by lia))]
     exact fr m (lo+k) (by lia) (by lia) (by lia)
    have lowA:∀i,lo≤i→i<lo+l→rA κ π (arrOf st2) i≤rA κ π (arrOf st2) (lo+k):=fun i q1 q2=>by
     have q:=a4 (i - lo) (by lia)
     rw [show lo+(i - lo)=i by lia]at q
     have p:=frk i q1 (by lia)
     unfold rA
     lia
    have upA:∀i,lo+l≤i→i<lo+k→rA κ π (arrOf st2) (lo+k)≤rA κ π (arrOf st2) i:=fun i q1 q2=>by
     have q:=a5 (i - lo) (by lia) (by lia)
     rw [show lo+(i - lo)=i by lia]at q
     have p:=zn7 C tb.pm (i:=i) (by lia)
     unfold rA
     lia
    have rb:∀i,rA κ π (bubble (arrOf st2) (lo+k) (lo+k - (lo+l))) i=if i=lo+l then rA κ π (arrOf st2) (lo+k) else if lo+l<i∧i≤lo+k then rA κ π (arrOf st2) (i - 1) else rA κ π (arrOf st2) i:=fun i=>by
     unfold rA
     rw [kA_bub hk (by lia),kA_bub hk (by lia),show lo+k - (lo+k - (lo+l))=lo+l by lia]
     split
     ·rfl
     ·split<;>rfl
    rw [rb,rb]
    by_cases z1:i=lo+l
    ·rw [if_pos z1]
     by_cases z2:j=lo+l
     ·rw [if_pos z2];exact zbf8 _
     ·rw [if_neg z2,if_pos (by lia)];exact upA _ (by lia) (by lia)
    ·rw [if_neg z1]
     by_cases z3:lo+l<i∧i≤lo+k
     ·rw [if_pos z3,if_neg (by lia),if_pos (by lia)];exact rs _ _ (by lia) (by lia) (by lia)
     ·rw [if_neg z3]
      by_cases z2:j=lo+l
      ·rw [if_pos z2];exact lowA _ b1 (by lia)
      ·rw [if_neg z2]
       by_cases z4:lo+l<j∧j≤lo+k
       ·rw [if_pos z4];exact rs _ _ b1 (by lia) (by lia)
       ·rw [if_neg z4];exact rs _ _ b1 b2 (by lia)
 ·rintro c st' ⟨hc,tb,pd,ch,rs⟩
  rw [show min (max (max ok 1) n) n=n by lia]at ch rs
  exact⟨hc,tb,pd,ch,rs⟩
 ·refine⟨rfl,hB,rfl,Chg.refl _ _ _,?_⟩
  rw [show min (max ok 1) n=ok by lia]
  exact hr
 ·rintro c st' ⟨rfl,q⟩
  exact zba3 (h st' q)
end
end TS
namespace TS
noncomputable def MatchP:Nat→List (List Keyed)→List (Nat×Nat×Nat)→Prop
 |_,[],[]=>True
 |lo,L::Ls,q::ps=>q.1=lo∧q.2.1=L.length∧MatchP (lo+L.length) Ls ps
 |_,_,_=>False
theorem MatchP.len:∀ {lo:Nat}{Ls:List (List Keyed)}{ps:List (Nat×Nat×Nat)},MatchP lo Ls ps→Ls.length=ps.length
 |_,[],[],_=>rfl
 |_,L::Ls,q::ps,h=>by simp [MatchP.len h.2.2]
 |_,[],_::_,h=>h.elim
 |_,_::_,[],h=>h.elim
theorem MatchP.at:∀ {As:List (List Keyed)}{lo:Nat}{X:List Keyed}{Bs:List (List Keyed)}{ps:List (Nat×Nat×Nat)},MatchP lo (As++X::Bs) ps→∃pw,ps[As.length]?=some (lo+As.flatten.length,X.length,pw)
 |[],lo,X,Bs,q::ps,h=>by
  obtain⟨a,b,pw⟩:=q
  obtain⟨h1,h2,_⟩:=h
  have h1:a=lo:=h1
  have h2:b=X.length:=h2
  subst h1 h2
  exact⟨pw,by simp⟩
 |[],lo,X,Bs,[],h=>h.elim
 |L::As,lo,X,Bs,q::ps,h=>by
  obtain⟨pw,e⟩:=MatchP.at (As:=As) h.2.2
  exact⟨pw,by simpa [zbj9] using e⟩
 |L::As,lo,X,Bs,[],h=>h.elim
theorem MatchP.app:∀ {Ls:List (List Keyed)}{lo:Nat}{N:List Keyed}{ps:List (Nat×Nat×Nat)}{pw:Nat},MatchP lo Ls ps→MatchP lo (Ls++[N]) (ps++[(lo+Ls.flatten.length,N.length,pw)])
 |[],lo,N,[],pw,_=>⟨by simp,rfl,trivial⟩
 |L::Ls,lo,N,q::ps,pw,h=>⟨h.1,h.2.1,by have:=MatchP.app (N:=N) (pw:=pw) h.2.2;simpa [zbj9] using this⟩
 |[],_,_,_::_,_,h=>h.elim
 |_::_,_,_,[],_,h=>h.elim
theorem MatchP.join:∀ {As:List (List Keyed)}{lo:Nat}{X Y Z:List Keyed}{Bs:List (List Keyed)}{ps:List (Nat×Nat×Nat)}{pw:Nat},MatchP lo (As++X::Y::Bs) ps→Z.length=X.length+Y.length →
  MatchP lo (As++Z::Bs) ((ps.set As.length (lo+As.flatten.length,X.length+Y.length,pw)).eraseIdx (As.length+1))
 |[],lo,X,Y,Z,Bs,q::q2::ps,pw,h,hz=>by
  refine⟨by simp,by simp [hz],?_⟩
  have:=h.2.2.2.2
  rw [hz]
  simpa [zbj9] using this
 |[],lo,X,Y,Z,Bs,[_],pw,h,hz=>h.2.2.elim
 |[],lo,X,Y,Z,Bs,[],pw,h,hz=>h.elim
 |L::As,lo,X,Y,Z,Bs,q::ps,pw,h,hz=>by
  have:=MatchP.join (As:=As) (pw:=pw) h.2.2 hz
  refine⟨h.1,h.2.1,?_⟩
  simpa [zbj9] using this
 |L::As,lo,X,Y,Z,Bs,[],pw,h,hz=>h.elim
theorem MatchP.pow:∀ {Ls:List (List Keyed)}{lo:Nat}{ps:List (Nat×Nat×Nat)} (i pw:Nat),MatchP lo Ls ps→MatchP lo Ls (ps.modify i fun q=>(q.1,q.2.1,pw))
 |[],lo,[],i,pw,h=>by simp;trivial
 |L::Ls,lo,q::ps,0,pw,h=>by simpa [MatchP] using h
 |L::Ls,lo,q::ps,i+1,pw,h=>⟨h.1,h.2.1,MatchP.pow i pw h.2.2⟩
 |[],_,_::_,_,_,h=>h.elim
 |_::_,_,[],_,_,h=>h.elim
theorem zai8 {α:Type}:∀(Ls:List α) (i:Nat),i+1<Ls.length→∃As X Y Bs,Ls=As++X::Y::Bs∧As.length=i
 |[],i,h=>by simp at h
 |[_],i,h=>by simp at h
 |X::Y::Bs,0,_=>⟨[],X,Y,Bs,rfl,rfl⟩
 |L::Ls,i+1,h=>by
  obtain⟨As,X,Y,Bs,e,l⟩:=zai8 Ls i (by simpa using h)
  exact⟨L::As,X,Y,Bs,by rw [e];rfl,by simp [l]⟩
section
variable {M:Model}{A:Around}{E:Value→zaz5→Prop}{s:zaz5}{κ π:Keyed→Int}{a₀:Array Keyed}{kd:SortKind} (C:Cmp M A E s κ π a₀ kd)
structure Runs (κ π:Keyed→Int) (a₀:Array Keyed) (kd:SortKind) (st:SortSt) (Ls:List (List Keyed)) (post:List Keyed):Prop where
 tb:TB a₀ kd st
 ar:(arrOf st).toList=Ls.flatten++post
 mt:MatchP 0 Ls (pendingOf st).toList
 ok:∀L∈Ls,Ris κ π L∧L≠[]
 sp:Ls.Pairwise (sepL π)
theorem perm_arr {xs zs:Array Keyed} (h:zs.toList.Perm xs.toList):zs.Perm xs:=zbd2.mpr h
include C in
theorem zao7 {st:SortSt}{Ls:List (List Keyed)}{post:List Keyed}{i:Nat}{Q:Bool→SortSt→Prop} (R:Runs κ π a₀ kd st Ls post) (hi:i+1<Ls.length)
  (h:∀Ls' st',Runs κ π a₀ kd st' Ls' post→Ls'.flatten.Perm Ls.flatten→Ls'.length+1=Ls.length→Q true st'):wpS M A E s (mergeAt' i) Q st:=by
 obtain⟨As,X,Y,Bs,rfl,rfl⟩:=zai8 Ls i hi
 obtain⟨pw,e1⟩:=R.mt.at
 have mt':MatchP 0 ((As++[X])++Y::Bs) (pendingOf st).toList:=by simpa using R.mt
 obtain⟨pw2,e2⟩:=mt'.at
 have sp:=zbc5.mp R.sp
 have sp2:=zbd5.mp sp.2.1
 have sp3:=zbd5.mp sp2.2
 refine wp_mAt C (pre:=As.flatten) (X:=X) (Y:=Y) (post:=Bs.flatten++post) (pw:=pw) (pw2:=pw2) R.tb.kind R.tb.fld (by rw [R.ar];simp) R.tb.mem ?_ ?_ (R.ok X (by simp)).1 (R.ok Y (by simp)).1 (R.ok X (by simp)).2 (R.ok Y (by simp)).2 (sp2.1 Y (by simp)) fun Z st' r1 r2 r3 r4 r5 r6=>?_
 ·rw [← zba9,e1];simp
 ·rw [← zba9]
  simpa using e2
 ·have zl:=r2.length_eq
  have memZ:∀z,z∈Z→z∈X∨z∈Y:=fun z hz=>zay8.mp (r2.mem_iff.mp hz)
  have fp:(As++Z::Bs).flatten.Perm (As++X::Y::Bs).flatten:=by
   simp only [zbn3,zbe6,zaz4]
   refine List.Perm.append_left _ ?_
   rw [← zaz4]
   exact List.Perm.append_right _ r2
  refine h (As++Z::Bs) st' ⟨⟨perm_arr ?_,r4,r5⟩,by rw [r3];simp,?_,fun L hL=>?_,?_⟩ fp (by simp;lia)
  ·rw [r3]
   have q:=zbd2.mp R.tb.pm
   rw [R.ar]at q
   refine List.Perm.trans ?_ q
   simp only [zbn3,zbe6,zaz4]
   refine List.Perm.append_left _ ?_
   rw [← zaz4 X Y]
   exact List.Perm.append_right _ r2
  ·rw [r6]
   have:=R.mt.join (Z:=Z) (pw:=pw) (by simpa using zl)
   simpa using this
  ·rcases zay8.mp hL with z | z
   ·exact R.ok L (by simp [z])
   ·rcases zaz2.mp z with z | z
    ·rw [z]
     exact⟨r1,fun e=>by rw [e]at zl;have:=zbh3.mpr (R.ok X (by simp)).2;simp at zl;lia⟩
    ·exact R.ok L (by simp [z])
  ·refine zbc5.mpr ⟨sp.1,zbd5.mpr ⟨fun L hL a ha b hb=>?_,sp3.2⟩,fun L hL L2 hL2=>?_⟩
   ·rcases memZ a ha with z | z
    ·exact sp2.1 L (by simp [hL]) a z b hb
    ·exact sp3.1 L hL a z b hb
   ·rcases zaz2.mp hL2 with z | z
    ·rw [z]
     intro a ha b hb
     rcases memZ b hb with w | w
     ·exact sp.2.2 L hL X (by simp) a ha b w
     ·exact sp.2.2 L hL Y (by simp) a ha b w
    ·exact sp.2.2 L hL L2 (by simp [z])
theorem zak3 {xs:Array Keyed}{F rest:List Keyed} (e:xs.toList=F++rest) (h1:sepL π F rest) (h2:rest.Pairwise fun a b=>π a≤π b):zu3 π xs F.length:=by
 intro i j hij hm hj
 have hl:xs.size=F.length+rest.length:=by
  have:=congrArg List.length e
  simpa using this
 have ej:xs[j]?=some (rest[j - F.length]'(by lia)):=by
  rw [← zba9,e,zbc1 hm,zaz1]
 rw [zab9 ej]
 by_cases z:i<F.length
 ·have ei:xs[i]?=some (F[i]'z):=by rw [← zba9,e,zbc6 z,zaz1 z]
  rw [zab9 ei]
  exact h1 _ (zbe3 _) _ (zbe3 _)
 ·have ei:xs[i]?=some (rest[i - F.length]'(by lia)):=by rw [← zba9,e,zbc1 (by lia),zaz1]
  rw [zab9 ei]
  by_cases w:i=j
  ·subst w;exact zbf8 _
  ·exact zbh2.mp h2 _ _ (by lia) (by lia) (by lia)
theorem rA_eq {xs:Array Keyed}{i:Nat}{z:Keyed} (h:xs[i]?=some z):rA κ π xs i=rk κ π z:=by unfold rA rk;rw [zab9 h,zab9 h]
theorem zal1 {st st':SortSt}{F rest:List Keyed}{m:Nat} (e:(arrOf st).toList=F++rest) (hm:m≤rest.length) (c:Cnt κ π a₀ kd st F.length (F.length+m) st') :
  ∃N,(arrOf st').toList=F++N++rest.drop m∧N.Perm (rest.take m)∧Ris κ π N∧N.length=m:=by
 obtain⟨tb,pd,ch,rs⟩:=c
 have hl:(arrOf st).size=F.length+rest.length:=by
  have:=congrArg List.length e
  simpa using this
 have hl':=ch.size
 have t1:(arrOf st').toList.take F.length=F:=by
  apply zbo4
  intro i
  rw [List.getElem?_take]
  split
  ·rename_i hi
   have:=ch.out i (.inl hi)
   rw [zba9,this, ← zba9,e,zbc6 hi]
  ·rename_i hi
   rw [List.getElem?_eq_none (by lia)]
 have t2:(arrOf st').toList.drop (F.length+m)=rest.drop m:=by
  apply zbo4
  intro i
  rw [zbh8,zbh8,zba9,ch.out _ (.inr (by lia)), ← zba9,e,zbc1 (by lia)]
  congr 1;lia
 refine⟨((arrOf st').toList.drop F.length).take m,?_,?_,?_,?_⟩
 ·have q:=zaz6 F.length (arrOf st').toList
  have q2:=zaz6 m ((arrOf st').toList.drop F.length)
  rw [zbj0,t2]at q2
  rw [t1, ← q2]at q
  rw [zaz4]
  exact q.symm
 ·have q:=zbd2.mp ch.pm
  have q0:=zaz6 F.length (arrOf st').toList
  have q2:=zaz6 m ((arrOf st').toList.drop F.length)
  rw [zbj0,t2]at q2
  rw [t1, ← q2]at q0
  rw [← q0,e]at q
  have q3:=(List.perm_append_left_iff _).mp q
  rw [← zaz6 m rest]at q3
  simp only [zbg2,zaz6]at q3
  have:rest=rest.take m++rest.drop m:=(zaz6 m rest).symm
  rw [this]at q3
  have e4:(rest.take m++rest.drop m).drop m=rest.drop m:=by rw [zaz6]
  rw [e4]at q3
  exact (List.perm_append_right_iff _).mp q3
 ·unfold Ris
  rw [zbh2]
  intro i j hi hj hij
  simp only [zbo3,zbl0]
  have hj':j<m:=by simp at hj;lia
  have a1:(arrOf st')[F.length+i]?=some ((arrOf st').toList[F.length+i]'(by simp;lia)):=by rw [← zba9];exact zaz1 _
  have a2:(arrOf st')[F.length+j]?=some ((arrOf st').toList[F.length+j]'(by simp;lia)):=by rw [← zba9];exact zaz1 _
  have:=rs (F.length+i) (F.length+j) (by lia) (by lia) (by lia)
  rw [rA_eq a1,rA_eq a2]at this
  exact this
 ·simp;lia
end
end TS
namespace TS
section
variable {M:Model}{A:Around}{E:Value→zaz5→Prop}{s:zaz5}{κ π:Keyed→Int}{a₀:Array Keyed}{kd:SortKind} (C:Cmp M A E s κ π a₀ kd)
structure Btw (κ π:Keyed→Int) (a₀:Array Keyed) (kd:SortKind) (lo:Nat) (st:SortSt) (Ls:List (List Keyed)) (rest:List Keyed):Prop where
 rn:Runs κ π a₀ kd st Ls rest
 ln:Ls.flatten.length=lo
 sp:sepL π Ls.flatten rest
 up:rest.Pairwise fun a b=>π a≤π b
theorem runs_len {Ls:List (List Keyed)} (h:∀L∈Ls,L≠[]):Ls.length≤Ls.flatten.length:=by
 induction Ls with
 |nil=>simp
 |cons L Ls ih =>
  have h1:=zbh3.mpr (h L (by simp))
  have h2:=ih fun L hL=>h L (by simp [hL])
  simp only [zbe2,zbe6,zbd4]
  lia
noncomputable def zar0 (sz lo n:Nat):StateT SortSt Sem (ForInStep (Option Unit×Nat)):=do
 let q ← get
 match (pendingOf q).back? with
 |some (s1,n1,_)=>do
  let r ← forIn [0:sz] ((none,()):Option Unit×Unit) fun _ _=>do
   let q ← get
   match (if (pendingOf q).size > 1 then (pendingOf q)[(pendingOf q).size - 2]? else none) with
   |some (_,_,older) =>
    if older≤power' sz (2*s1+n1) (2*s1+n1+n1+n) sz then pure (ForInStep.done (none,()))
    else do
     let b ← mergeAt' ((pendingOf q).size - 2)
     if (!b)=true then pure (ForInStep.done (some (),())) else pure (ForInStep.yield (none,()))
   |_=>pure (ForInStep.done (none,()))
  match r.fst with
  |some a=>pure (ForInStep.done (some a,lo))
  |none=>do
   modify fun q=>setPending q ((pendingOf q).modify ((pendingOf q).size - 1) fun x=>(x.fst,x.2.fst,power' sz (2*s1+n1) (2*s1+n1+n1+n) sz))
   modify fun q=>setPending q ((pendingOf q).push (lo,n,0))
   pure (ForInStep.yield (none,lo+n))
 |_=>do
  modify fun q=>setPending q ((pendingOf q).push (lo,n,0))
  pure (ForInStep.yield (none,lo+n))
theorem zaq1 {st:SortSt}{Ls:List (List Keyed)}{post:List Keyed}{p:Array (Nat×Nat×Nat)} (R:Runs κ π a₀ kd st Ls post) (h:MatchP 0 Ls p.toList):Runs κ π a₀ kd (setPending st p) Ls post :=
 ⟨⟨R.tb.pm,R.tb.kind,R.tb.fld⟩,R.ar,h,R.ok,R.sp⟩
theorem zaj0 {l l' m:List Keyed} (p:l'.Perm l) (h:sepL π l m):sepL π l' m:=fun a ha b hb=>h a (p.mem_iff.mp ha) b hb
theorem zal7 {st:SortSt}{Ls:List (List Keyed)}{N rest:List Keyed}{lo n:Nat} (R:Runs κ π a₀ kd st Ls (N++rest)) (hl:Ls.flatten.length=lo) (hn:N.length=n) (rN:Ris κ π N) (nN:N≠[]) (s1:sepL π Ls.flatten N) (s2:sepL π (Ls.flatten++N) rest) (hu:rest.Pairwise fun a b=>π a≤π b) :
  Btw κ π a₀ kd (lo+n) (setPending st ((pendingOf st).push (lo,n,0))) (Ls++[N]) rest:=by
 refine⟨⟨⟨R.tb.pm,R.tb.kind,R.tb.fld⟩,?_,?_,fun L hL=>?_,?_⟩,?_,?_,hu⟩
 ·show (arrOf st).toList=_
  rw [R.ar];simp
 ·show MatchP 0 (Ls++[N]) ((pendingOf st).push (lo,n,0)).toList
  have:=R.mt.app (N:=N) (pw:=0)
  rw [Array.toList_push]
  simpa [hl,hn] using this
 ·rcases zay8.mp hL with z | z
  ·exact R.ok L z
  ·rw [zbb0.mp z];exact⟨rN,nN⟩
 ·refine zbc5.mpr ⟨R.sp,zbl2 _ _,fun L hL L2 hL2=>?_⟩
  rw [zbb0.mp hL2]
  exact fun a ha b hb=>s1 a (List.mem_flatten.mpr ⟨L,hL,ha⟩) b hb
 ·simp [hl,hn]
 ·simpa using s2
include C in
theorem wp_pushR {st:SortSt}{Ls:List (List Keyed)}{N rest:List Keyed}{lo n:Nat}{Q:ForInStep (Option Unit×Nat)→SortSt→Prop} (R:Runs κ π a₀ kd st Ls (N++rest)) (hl:Ls.flatten.length=lo) (hn:N.length=n) (rN:Ris κ π N) (nN:N≠[]) (s1:sepL π Ls.flatten N) (s2:sepL π (Ls.flatten++N) rest) (hu:rest.Pairwise fun a b=>π a≤π b)
  (h:∀Ls' st',Btw κ π a₀ kd (lo+n) st' Ls' rest→Q (.yield (none,lo+n)) st'):wpS M A E s (zar0 a₀.size lo n) Q st:=by
 unfold zar0
 refine zaz8 (wpS_get ?_)
 cases hb:(pendingOf st).back? with
 |none=>exact zaz8 (wpS_modify (zba3 (h _ _ (zal7 R hl hn rN nN s1 s2 hu))))
 |some q =>
  obtain⟨st1,n1,pw1⟩:=q
  dsimp only
  refine zaz8 (wpS_mono (wpS_forRange (I:=fun _ c st'=>c=(none,())∧∃Ls',Runs κ π a₀ kd st' Ls' (N++rest)∧Ls'.flatten.Perm Ls.flatten) (Q:=fun c st'=>c=(none,())∧∃Ls',Runs κ π a₀ kd st' Ls' (N++rest)∧Ls'.flatten.Perm Ls.flatten) ?_ (fun _ _ q=>q) ⟨rfl,Ls,R,List.Perm.refl _⟩) ?_)
  ·rintro x c st2 _ _ ⟨rfl,Ls',R',p'⟩
   refine zaz8 (wpS_get ?_)
   by_cases hsz:(pendingOf st2).size > 1
   ·rw [if_pos hsz]
    have e:(pendingOf st2)[(pendingOf st2).size - 2]?=some ((pendingOf st2)[(pendingOf st2).size - 2]'(by lia)):=by simp [show (pendingOf st2).size - 2<(pendingOf st2).size by lia]
    rw [e]
    generalize (pendingOf st2)[(pendingOf st2).size - 2]'(by lia)=q
    obtain⟨a,b,older⟩:=q
    dsimp only
    split
    ·exact zba3 ⟨rfl,Ls',R',p'⟩
    ·have len:=R'.mt.len
     have len:Ls'.length=(pendingOf st2).size:=by simpa using len
     refine zaz8 (zao7 C R' (by lia) fun Ls2 st3 R2 p2 _=>?_)
     exact zba3 ⟨rfl,Ls2,R2,p2.trans p'⟩
   ·rw [if_neg hsz]
    exact zba3 ⟨rfl,Ls',R',p'⟩
  ·rintro c st2 ⟨rfl,Ls',R',p'⟩
   dsimp only
   refine zaz8 (wpS_modify (zaz8 (wpS_modify (zba3 (h _ _ (zal7 (st:=setPending st2 _) (zaq1 R' ?_) ?_ hn rN nN ?_ ?_ hu))))))
   ·have:=R'.mt.pow ((pendingOf st2).size - 1) (power' a₀.size (2*st1+n1) (2*st1+n1+n1+n) a₀.size)
    simpa using this
   ·rw [p'.length_eq];exact hl
   ·exact zaj0 p' s1
   ·exact zaj0 (List.Perm.append_right _ p') s2
noncomputable def endR (sz:Nat):StateT SortSt Sem Unit:=do
 for _ in [0:sz] do
  let p:=pendingOf (← get)
  if p.size≤1 then break
  let i:=p.size - 2
  let bf:=if i > 0 then p[i - 1]?.map (·.2.1) else none
  let i:=if bf.any (· < (p[i+1]?.elim 0 (·.2.1))) then i - 1 else i
  if !(← mergeAt' i) then return
include C in
theorem wp_endR {st:SortSt}{Ls:List (List Keyed)}{Q:Unit→SortSt→Prop} (R:Runs κ π a₀ kd st Ls []) (hl:Ls.length≤a₀.size) (h:∀st' Ls',Runs κ π a₀ kd st' Ls' []→Ls'.length≤1→Q () st'):wpS M A E s (endR a₀.size) Q st:=by
 unfold endR
 dsimp only
 refine zaz8 (wpS_mono (wpS_forRange (I:=fun x c st'=>c=(none,())∧∃Ls',Runs κ π a₀ kd st' Ls' []∧Ls'.length+x≤a₀.size+0) (Q:=fun c st'=>c=(none,())∧∃Ls',Runs κ π a₀ kd st' Ls' []∧Ls'.length≤1) ?_ ?_ ⟨rfl,Ls,R,by lia⟩) ?_)
 ·rintro x c st2 _ hx ⟨rfl,Ls',R',hl'⟩
  refine zaz8 (wpS_get ?_)
  have len:Ls'.length=(pendingOf st2).size:=by simpa using R'.mt.len
  by_cases hsz:(pendingOf st2).size≤1
  ·rw [if_pos hsz]
   exact zba3 ⟨rfl,Ls',R',by lia⟩
  ·rw [if_neg hsz]
   have le:∀b:Bool,(if b=true then (pendingOf st2).size - 2 - 1 else (pendingOf st2).size - 2)+1<Ls'.length:=fun b=>by cases b<;>simp<;>lia
   refine zaz8 (zao7 C R' (le _) fun Ls2 st3 R2 p2 l2=>?_)
   ·exact zba3 ⟨rfl,Ls2,R2,by lia⟩
 ·rintro c st2 ⟨rfl,Ls',R',hl'⟩
  exact⟨rfl,Ls',R',by lia⟩
 ·rintro c st2 ⟨rfl,Ls',R',hl'⟩
  exact zba3 (h _ _ R' hl')
theorem zap4 {α:Type}{m m':StateT SortSt Sem α}{Q Q':α→SortSt→Prop}{st:SortSt} (h:wpS M A E s m' Q' st) (e:m=m') (g:∀r st',Q' r st'→Q r st'):wpS M A E s m Q st:=by
 subst e
 exact wpS_mono h g
include C in
theorem wp_runs {st:SortSt}{Q:Unit→SortSt→Prop} (hB:TB a₀ kd st) (hp:pendingOf st = #[]) (ha:arrOf st=a₀) (hu:a₀.toList.Pairwise fun a b=>π a≤π b) (h2:2≤a₀.size)
  (h:∀st',TB a₀ kd st'→Ris κ π (arrOf st').toList→Q () st'):wpS M A E s sortRuns' Q st:=by
 rw [sortRuns'_eq]
 refine zaz8 (wpS_get ?_)
 dsimp only
 rw [hB.size]
 have fin:∀st' Ls,Runs κ π a₀ kd st' Ls []→Ls.length≤1→Q () st':=fun st' Ls R hl=>by
  refine h st' R.tb ?_
  rw [R.ar,zbe0]
  match Ls,hl,R with
  |[],_,_=>exact List.Pairwise.nil
  |[L],_,R=>simpa using (R.ok L (by simp)).1
 have lenB:∀ {lo st' Ls rest},Btw κ π a₀ kd lo st' Ls rest→lo+rest.length=a₀.size:=fun {lo st' Ls rest} B=>by
  have e:=congrArg List.length B.rn.ar
  simp only [zbg1,zbd4,B.ln]at e
  rw [B.rn.tb.size]at e
  lia
 have last:∀ {lo st' Ls rest},Btw κ π a₀ kd lo st' Ls rest→a₀.size≤lo→wpS M A E s (endR a₀.size) Q st':=fun {lo st' Ls rest} B hlo=>by
  have e:=lenB B
  have:rest=[]:=zbf9.mp (by lia)
  subst this
  exact wp_endR C B.rn (by have:=runs_len fun L hL=>(B.rn.ok L hL).2;rw [B.ln]at this;lia) fin
 refine zaz8 (wpS_forRange (I:=fun x c st' => ∃Ls rest lo,c=(none,lo)∧Btw κ π a₀ kd lo st' Ls rest∧x≤lo) ?_ ?_ ?_)
 ·rintro x c st1 _ hx ⟨Ls,rest,lo,rfl,B,hxl⟩
  dsimp only
  have eln:=lenB B
  by_cases hge:lo ≥ a₀.size
  ·rw [if_pos hge]
   exact zba3 (last B hge)
  rw [if_neg hge]
  have fr:zu3 π (arrOf st1) lo:=by
   have:=zak3 B.rn.ar B.sp B.up
   rwa [B.ln]at this
  refine zaz8 (wp_cnt C B.rn.tb fr (by lia) (by lia) fun m st2 m1 m2 cn=>?_)
  have push:∀(n:Nat) (st3:SortSt),1≤n→n≤rest.length→Cnt κ π a₀ kd st1 lo (lo+n) st3→wpS M A E s (zar0 a₀.size lo n) (fun r st' => ∃Ls rest lo,r=ForInStep.yield (none,lo)∧Btw κ π a₀ kd lo st' Ls rest∧x+1≤lo) st3:=fun n st3 n1 n2 cn=>by
   have cn':Cnt κ π a₀ kd st1 Ls.flatten.length (Ls.flatten.length+n) st3:=by rw [B.ln];exact cn
   obtain⟨N,e1,e2,e3,e4⟩:=zal1 B.rn.ar n2 cn'
   have up:=zbc5.mp ((zaz6 n rest).symm ▸ B.up)
   refine wp_pushR C (Ls:=Ls) (N:=N) (rest:=rest.drop n) ⟨cn.1,by rw [e1];simp,by rw [cn.2.1];exact B.rn.mt,B.rn.ok,B.rn.sp⟩ B.ln e4 e3 (fun z=>by rw [z]at e4;simp at e4;lia) ?_ ?_ up.2.1 fun Ls' st' B'=>⟨Ls',_,_,rfl,B',by lia⟩
   ·exact fun a hA b hB=>B.sp a hA b (zbc9 (e2.mem_iff.mp hB))
   ·intro a hA b hB
    rcases zay8.mp hA with z | z
    ·exact B.sp a z b (zbb6 hB)
    ·exact up.2.2 a (e2.mem_iff.mp z) b hB
  dsimp only
  by_cases hmr:m<minRun' a₀.size a₀.size 0
  ·rw [if_pos hmr]
   refine zaz8 (wpS_lift (wpAny_rule ⟨rfl,?_⟩))
   have fr2:zu3 π (arrOf st2) (lo+m):=by
    have cn':Cnt κ π a₀ kd st1 Ls.flatten.length (Ls.flatten.length+m) st2:=by rw [B.ln];exact cn
    obtain⟨N,e1,e2,e3,e4⟩:=zal1 B.rn.ar (by lia) cn'
    have up:=zbc5.mp ((zaz6 m rest).symm ▸ B.up)
    have:=zak3 (F:=Ls.flatten++N) e1 (fun a hA b hB=>?_) up.2.1
    ·rwa [zbd4,B.ln,e4]at this
    ·rcases zay8.mp hA with z | z
     ·exact B.sp a z b (zbb6 hB)
     ·exact up.2.2 a (e2.mem_iff.mp z) b hB
   refine zaz8 (wp_bin C cn.1 m1 (by lia) (by lia) fr2 cn.2.2.2 fun st3 c3=>?_)
   have hf:Cnt κ π a₀ kd st1 lo (lo+min (a₀.size - lo) (minRun' a₀.size a₀.size 0)) st3:=by
    refine⟨c3.1,c3.2.1.trans cn.2.1,?_,c3.2.2.2⟩
    have w1:=cn.2.2.1.wide (show lo+m≤lo+min (a₀.size - lo) (minRun' a₀.size a₀.size 0) by lia)
    have w2:=c3.2.2.1
    exact⟨w2.pm.trans w1.pm,fun i hi=>(w2.out i hi).trans (w1.out i hi),fun i a b=>by
     obtain⟨j,j1,j2,j3⟩:=w2.ins i a b
     obtain⟨k,k1,k2,k3⟩:=w1.ins j j1 j2
     exact⟨k,k1,k2,j3.trans k3⟩⟩
   rw [if_neg (by decide)]
   refine zap4 (push _ st3 (by lia) (by lia) hf) ?_ fun r st' hq=>?_
   ·unfold zar0
    congr 1
    funext q
    cases (pendingOf q).back? with
    |none=>rfl
    |some z =>
     obtain⟨a,b,c⟩:=z
     dsimp only
     congr 1
     funext r
     obtain⟨r,_⟩:=r
     cases r<;>rfl
   ·obtain⟨Ls',rest',lo',rfl,b1,b2⟩:=hq
    exact⟨Ls',rest',lo',rfl,b1,b2⟩
  ·rw [if_neg hmr]
   refine zap4 (push m st2 m1 (by lia) cn) ?_ fun r st' hq=>?_
   ·unfold zar0
    congr 1
    funext q
    cases (pendingOf q).back? with
    |none=>rfl
    |some z =>
     obtain⟨a,b,c⟩:=z
     dsimp only
     congr 1
     funext r
     obtain⟨r,_⟩:=r
     cases r<;>rfl
   ·obtain⟨Ls',rest',lo',rfl,b1,b2⟩:=hq
    exact⟨Ls',rest',lo',rfl,b1,b2⟩
 ·rintro c st1 ⟨Ls,rest,lo,rfl,B,hxl⟩
  exact last B (by lia)
 ·refine⟨[],a₀.toList,0,rfl,⟨⟨hB,by rw [ha];simp,?_,fun L hL=>(by cases hL),List.Pairwise.nil⟩,rfl,fun a hA=>(by cases hA),hu⟩,zaz7 _⟩
  rw [hp];trivial
end
end TS
namespace TS
def rkP (p:Int×Int):Int:=p.1*1048576+p.2
def insP (p:Int×Int):List (Int×Int)→List (Int×Int)
 |[]=>[p]
 |q::r=>if rkP p≤rkP q then p::q::r else q::insP p r
def sortP:List (Int×Int)→List (Int×Int)
 |[]=>[]
 |p::r=>insP p (sortP r)
theorem zs5 (p:Int×Int):∀r:List (Int×Int),(insP p r).Perm (p::r)
 |[]=>List.Perm.refl _
 |q::r=>by
  unfold insP
  split
  ·exact List.Perm.refl _
  ·exact (List.Perm.cons q (zs5 p r)).trans (List.Perm.swap p q r)
theorem sortP_perm:∀r:List (Int×Int),(sortP r).Perm r
 |[]=>List.Perm.refl _
 |p::r=>(zs5 p _).trans (List.Perm.cons p (sortP_perm r))
theorem zs4 (p:Int×Int):∀r:List (Int×Int),r.Pairwise (fun a b=>rkP a≤rkP b)→(insP p r).Pairwise (fun a b=>rkP a≤rkP b)
 |[],_=>by simp [insP]
 |q::r,h=>by
  unfold insP
  have hc:=zbd5.mp h
  split
  ·rename_i hle
   refine zbd5.mpr ⟨fun x hx=>?_,h⟩
   rcases zaz2.mp hx with z | z
   ·rw [z];exact hle
   ·exact zbj6 hle (hc.1 x z)
  ·rename_i hle
   refine zbd5.mpr ⟨fun x hx=>?_,zs4 p r hc.2⟩
   rcases zaz2.mp ((zs5 p r).mem_iff.mp hx) with z | z
   ·rw [z];lia
   ·exact hc.1 x z
theorem sortP_sorted:∀r:List (Int×Int),(sortP r).Pairwise (fun a b=>rkP a≤rkP b)
 |[]=>List.Pairwise.nil
 |p::r=>zs4 p _ (sortP_sorted r)
theorem rkP_inj {p q:Int×Int} (h1:0≤p.2∧p.2<1048576) (h2:0≤q.2∧q.2<1048576) (h:rkP p=rkP q):p=q:=by
 unfold rkP at h
 have:p.1=q.1:=by lia
 have:p.2=q.2:=by lia
 exact Prod.ext ‹_› ‹_›
theorem uniqP:∀ {xs ys:List (Int×Int)},(∀p∈xs,0≤p.2∧p.2<1048576)→xs.Perm ys→xs.Pairwise (fun a b=>rkP a≤rkP b)→ys.Pairwise (fun a b=>rkP a≤rkP b)→xs=ys
 |[],ys,_,p,_,_=>(List.Perm.nil_eq p)
 |x::xs,[],_,p,_,_=>absurd p.length_eq (by simp)
 |x::xs,y::ys,hb,p,h1,h2=>by
  have c1:=zbd5.mp h1
  have c2:=zbd5.mp h2
  have m1:x∈y::ys:=p.mem_iff.mp (zaz0 ..)
  have m2:y∈x::xs:=p.mem_iff.mpr (zaz0 ..)
  have e:x=y:=by
   refine rkP_inj (hb x (zaz0 ..)) (hb y m2) ?_
   have l1:rkP y≤rkP x:=by rcases zaz2.mp m1 with z | z;rw [z];exact zbf8 _;exact c2.1 x z
   have l2:rkP x≤rkP y:=by rcases zaz2.mp m2 with z | z;rw [z];exact zbf8 _;exact c1.1 y z
   lia
  subst e
  rw [uniqP (fun q hq=>hb q (zay5 _ hq)) (List.Perm.cons_inv p) c1.2 c2.2]
end TS
namespace L2
open PySem.Spec TS
section
variable {prog:Program}{w:World}{A:Around}{E:Value→zaz5→Prop}{s:zaz5}
theorem zap9 {u:Value}{kw:List (Str×Value)}{Q:Value→zaz5→Prop}{P:List Value→Prop} (ha1:argsOk "sorted" ⟨[u],kw⟩) (ha2:∀x,argsOk "list.sort" ⟨[.ref x],kw⟩)
  (col:∀R:List Value→zaz5→Prop,(∀(h':Heap) (tk:Nat) (us:List Value),(∀b o,s.heap.get? b=some o→h'.get? b=some o)→s.heap.objs.size≤h'.objs.size→P us→us.length≤100000→R us { s with heap:=h',toks:=tk })→wpAny (model prog w) A.in1 (collect u) R E s)
  (srt:∀(h':Heap) (tk:Nat) (us:List Value),(∀b o,s.heap.get? b=some o→h'.get? b=some o)→s.heap.objs.size≤h'.objs.size→P us→us.length≤100000 →
   wpAny (model prog w) A.in1.in1 (Builtin.«list.sort» ⟨[.ref h'.objs.size],kw⟩) (fun fin s'=>fin=.done (.ret .none)∧Q (.ref h'.objs.size) s') E { s with heap:=h'.push (seqObj "list" us.toArray 0),toks:=tk }) :
  wpAny (model prog w) A (call (.builtin "sorted") [u] kw) Q E s:=by
 refine call_function_entry_kw kind_sorted plain_sorted entry_sorted ha1 ?_
 unfold Builtin.«sorted»
 refine zay9 (m:=checkCount "sorted" 1 1 _) (zba0 ?_)
 refine zay9 (col _ fun h' tk us hk hz hp hl=>?_)
 refine zay9 (wpAny_newList ?_ (by rw [sizeLine_eq];lia))
 have hoL:(h'.push (seqObj "list" us.toArray 0)).get? h'.objs.size=some (seqObj "list" us.toArray 0):=zba8 _ rfl
 refine zay9 (wpAny_holding (wpAny_call_entry_kw slot_list_sort ⟨_,hoL,rfl⟩ entry_list_sort ?_ (ha2 _)))
 refine wpAny_mono (srt h' tk us hk hz hp hl) (fun fin s' hq=>?_) fun _ _ e=>e
 obtain⟨rfl,hq⟩:=hq
 exact⟨_,rfl,zba0 ⟨_,rfl,hq⟩⟩
end
end L2
namespace DL
open PySem.Spec L2 TS
def zab6 (n:Nat):List Int:=(zbf5 n).map fun (i:Nat)=>(i:Int)
end DL
namespace TS
section
variable {prog:Program}{w:World}{A:Around}{E:Value→zaz5→Prop}{s:zaz5}
theorem zip_same {α:Type}:∀l:List α,l.zip l=l.map fun x=>(x,x)
 |[]=>rfl
 |x::l=>by rw [zbk2,zip_same l];rfl
theorem zas0 (vs:List Value):(vs.toArray.zip vs.toArray).toList=vs.map fun x=>(x,x):=by
 have:=ksk_zip vs.toArray vs
 rw [this,zbn4,zip_same]
theorem zan0 (vs:List Value):(vs.toArray.zip vs.toArray).size=vs.length:=by rw [Array.size_zip,zbb3];lia
end
end TS
namespace TS
def RawD (h:Heap) (d:Addr) (es:Array DictEntry) (ep:Nat):Prop := ∃o,h.get? d=some o∧o.ExactDict∧o.data=.dict es ep
theorem RawD.at {h h':Heap}{d:Addr}{es:Array DictEntry}{ep:Nat} (x:RawD h d es ep) (k:∀o,h.get? d=some o→h'.get? d=some o):RawD h' d es ep:=let ⟨o,a,r⟩:=x;⟨o,k o a,r⟩
theorem RawD.ty {s:zaz5}{d:Addr}{es:Array DictEntry}{ep:Nat} (x:RawD s.heap d es ep):s.TypeIs (.ref d) "dict":=let ⟨o,a,r,_⟩:=x;⟨o,a,r.1⟩
section
variable {prog:Program}{w:World}{A:Around}{E:Value→zaz5→Prop}{s:zaz5}
theorem raw_iter {d:Addr}{es:Array DictEntry}{ep:Nat}{Q:Value→zaz5→Prop} (nm:(d == sysModules)=false) (x:RawD s.heap d es ep)
  (q:Q (.ref s.heap.objs.size) { s with heap:=s.heap.push { cls:=.type "dict_keyiterator",data:=.fields #[.ref d,.int 0 0,.int es.size 0,.int ep 0] } }):wpAny (model prog w) A (pyIter (.ref d)) Q E s:=by
 have ty:=x.ty
 obtain⟨o,a,r,dd⟩:=x
 refine wpAny_pyIter_slot ty F.slot_dict_iter (wpAny_call_entry F.slot_dict_iter ty F.entry_dict_iter ?_ (F.args_dict_iter_1 _))
 unfold Builtin.«dict.__iter__» Builtin.Dict.dictSlotNone
 refine zay9 (zay9 (wpAny_notOrdered_dict ty ?_))
 show wpAny _ _ (pure (Value.ref d)) _ _ s
 refine zba0 ?_
 show wpAny _ _ (Builtin.Dict.showsAll d >>= _) _ _ s
 unfold Builtin.Dict.showsAll
 rw [if_neg (by rw [nm];exact zba1)]
 refine zay9 (zba0 (zay9 (wpAny_dictEntries a dd (zay9 (wpAny_dictEpoch a dd ?_)))))
 exact zay9 (wpAny_newObj_type (zba0 ⟨_,rfl, "dict_keyiterator",_,⟨_,zba8 _ rfl,rfl⟩,F.slot_dict_keyiterator_next.lookup,by simpa [rawInt] using q⟩))
theorem raw_head {it d:Addr}{i ep:Nat}{es:Array DictEntry}{Q:Option Value→zaz5→Prop} (ki:s.heap.IsKeyIter it d i es.size ep) (x:RawD s.heap d es ep) (hi:i<es.size)
  (q:∀h',h'.IsKeyIter it d (i+1) es.size ep→Heap.SameBut it s.heap h'→Q (some es[i].key) { s with heap:=h' }):wpAny (model prog w) A (pyNext (.ref it)) Q E s:=by
 have ty:=ki.typeIs
 obtain⟨o,ho,hc,hd⟩:=ki
 obtain⟨od,a,r,dd⟩:=x
 have ow:Builtin.Dict_items.ownsTuple "dict_keyiterator"=false:=by decide
 have nn : ¬ ((Value.ref d == Value.none)=true):=zba1
 unfold pyNext
 refine zay9 (wpAny_attempt (wpAny_callSpecial?_slot (name:=Str.ofString "__next__") ty F.slot_dict_keyiterator_next (wpAny_call_entry F.slot_dict_keyiterator_next ty F.entry_dict_keyiterator_next ?_ (F.args_dict_keyiterator_next_1 _))))
 refine zay9 (zba0 (zay9 (zay9 ?_)))
 first | refine zay9 (wpAny_typeNameOfWhole_keyiter ty (zba0 (zay9 (wpAny_fieldsOf ho hd ?_)))) |refine zay9 (wpAny_typeNameOf_keyiter ty (zba0 (zay9 (wpAny_fieldsOf ho hd ?_))))
 simp only [ow,zbb4,if_false]
 show wpAny _ _ (if (Value.ref d == Value.none)=true then _ else _) _ _ s
 rw [if_neg nn]
 refine zay9 (zba0 (zay9 (wpAny_dictEntries a dd ?_)))
 rw [if_neg (by simp)]
 refine zay9 (zba0 (zay9 (wpAny_dictEpoch a dd ?_)))
 rw [if_neg (by simp)]
 refine zba0 ?_
 have ng : ¬ ((i:Int)<0):=by lia
 simp only [ng,if_false,zbi3,zbf3 hi]
 refine zay9 ?_
 first | refine zay9 (wpAny_typeNameOfWhole_keyiter ty (zba0 (zay9 (wpAny_isOneOf_keyiter ty ?_)))) |refine zay9 (wpAny_typeNameOf_keyiter ty (zba0 (zay9 (wpAny_isOneOf_keyiter ty ?_))))
 show wpAny _ _ (setField (.ref it) 1 (rawInt ((i:Int)+1)) >>= _) _ _ s
 refine zay9 (wpAny_setField ho hd (by simp) ?_)
 have k2:(s.heap.update it (Obj.mapFields (·.setIfInBounds 1 (rawInt ((i:Int)+1))))).IsKeyIter it d (i+1) es.size ep:=⟨_,zbi7 _ ho (Obj.isFreed_of_fields (Obj.data_mapFields hd _)),(Obj.cls_mapFields ..).trans hc,by rw [Obj.data_mapFields hd];simp [rawInt]⟩
 refine zay9 (wpAny_holding (zay9 (wpAny_isOneOf_keyiter (s:={ s with heap:=s.heap.update it (Obj.mapFields (·.setIfInBounds 1 (rawInt ((i:Int)+1)))) }) k2.typeIs ?_)))
 show wpAny _ _ (pure es[i].key) _ _ _
 exact zba0 (zba0 ⟨_,rfl,zba0 (q _ k2 (Heap.SameBut.update ..))⟩)
theorem raw_end {it d:Addr}{ep:Nat}{es:Array DictEntry}{Q:Option Value→zaz5→Prop} (hh:A.handled=none) (ki:s.heap.IsKeyIter it d es.size es.size ep) (x:RawD s.heap d es ep)
  (q:∀h',Heap.ExtBut it s.heap h'→Q none { s with heap:=h' }):wpAny (model prog w) A (pyNext (.ref it)) Q E s:=by
 have ty:=ki.typeIs
 obtain⟨o,ho,hc,hd⟩:=ki
 obtain⟨od,a,r,dd⟩:=x
 have ow:Builtin.Dict_items.ownsTuple "dict_keyiterator"=false:=by decide
 have nn : ¬ ((Value.ref d == Value.none)=true):=zba1
 unfold pyNext
 refine zay9 (wpAny_attempt (wpAny_callSpecial?_slot (name:=Str.ofString "__next__") ty F.slot_dict_keyiterator_next (wpAny_call_entry F.slot_dict_keyiterator_next ty F.entry_dict_keyiterator_next ?_ (F.args_dict_keyiterator_next_1 _))))
 refine zay9 (zba0 (zay9 (zay9 ?_)))
 first | refine zay9 (wpAny_typeNameOfWhole_keyiter ty (zba0 (zay9 (wpAny_fieldsOf ho hd ?_)))) |refine zay9 (wpAny_typeNameOf_keyiter ty (zba0 (zay9 (wpAny_fieldsOf ho hd ?_))))
 simp only [ow,zbb4,if_false]
 show wpAny _ _ (if (Value.ref d == Value.none)=true then _ else _) _ _ s
 rw [if_neg nn]
 refine zay9 (zba0 (zay9 (wpAny_dictEntries a dd ?_)))
 rw [if_neg (by simp)]
 refine zay9 (zba0 (zay9 (wpAny_dictEpoch a dd ?_)))
 rw [if_neg (by simp)]
 refine zba0 ?_
 have ng : ¬ ((es.size:Int)<0):=by lia
 simp only [ng,if_false,zbi3,zbi2 (zaz7 es.size)]
 refine zay9 ?_
 first | refine zay9 (wpAny_typeNameOfWhole_keyiter ty (zba0 ?_)) |refine zay9 (wpAny_typeNameOf_keyiter ty (zba0 ?_))
 show wpAny _ _ (setField (.ref it) 0 .none >>= _) _ _ s
 refine zay9 (wpAny_setField ho hd (by simp) ?_)
 show wpAny _ _ (newExc (.type "StopIteration") [] >>= _) _ _ _
 refine zay9 ?_
 simp only [newExc,newTuple]
 refine zay9 (wpAny_newObj_type (zay9 (m:=firstArgMember _ _) (wpAny_of_eq (a:=Value.none) (by first | rfl | (simp only [firstArgMember];rfl)) ?_)) (by size_fits))
 refine wpAny_newObj_type ?_ (by size_fits)
 simp only [raiseNew]
 refine zay9 (wpAny_handled ?_)
 rw [show A.in1.handled=none from hh]
 refine zay9 (zba0 (wpAny_throw ?_))
 refine zay9 (wpAny_isInstance (T := "StopIteration") (b:=true) ⟨_,zba8 _ rfl,rfl⟩ isSubtype_stop ?_)
 exact zba0 (q _ (((Heap.SameBut.update ..).extBut.push _).push _))
theorem zao9 (hh:A.handled=none) (I d:Addr) (hne:d≠I) (es:Array DictEntry) (ep:Nat):Walks prog w A I [I,d] [I] es.size (fun i v => ∃h:i<es.size,v=es[i].key) (fun i h=>h.IsKeyIter I d i es.size ep∧RawD h d es ep) where
 sub:=fun b hb=>by simp at hb;simp [hb]
 frame:=fun _ _ _ st hk=>⟨(let ⟨o,a,r⟩:=st.1;⟨o,hk I (by simp) o a,r⟩),st.2.at fun o e=>hk d (by simp) o e⟩
 item:=fun i s Q E hi st hQ=>raw_head st.1 st.2 hi fun h' k sb=>hQ _ h' s.toks ⟨hi,rfl⟩ ⟨k,st.2.at fun o e=>sb.extBut d o hne e⟩ fun b o hb e=>sb.extBut b o (fun z=>hb (by simp [z])) e
 done:=fun s Q E st hQ=>raw_end hh st.1 st.2 fun h' x=>hQ h' s.toks fun b o hb e=>x b o (fun z=>hb (by simp [z])) e
 self:=fun _ _ _ _ st hQ=>wpAny_pyIter_keyiter st.1 hQ
end
end TS
namespace TS
section
variable {prog:Program}{w:World}{A:Around}{E:Value→zaz5→Prop}{s:zaz5}
theorem ext_raw {R:Result→zaz5→Prop}{d:Addr}{es:Array DictEntry}{ep:Nat} (hh:A.handled=none) (nm:(d == sysModules)=false) (x:RawD s.heap d es ep) (hz:es.size≤100000) (S:Addr) (res:Value) (c₀:Nat) (hS:s.heap.get? S=some { cls:=.type "list",data:=.seq #[] c₀ })
  (hR:∀h' tk acc' c',(∀b o,b≠S→s.heap.get? b=some o→h'.get? b=some o)→h'.get? S=some { cls:=.type "list",dict:=none,data:=.seq acc' c',slots := #[] }→ItemsOf (fun i v => ∃h:i<es.size,v=es[i].key) acc' es.size→R (.ok (.ret res)) { s with heap:=h',toks:=tk }) :
  wpAny (model prog w) A.in1 (Builtin.List.listExtendWith (.ref S) (.ref d) res) (fun fin s'=>match fin with | .done f=>R (.ok f) s' | .again c'=>c'.quiet=true∧codeAny (model prog w) A c' R s') (fun e s'=>R (.error e) s') s:=by
 obtain⟨o,a,r,dd⟩:=id x
 have Sd:S≠d:=fun e=>by
  rw [e,a]at hS
  have:o.cls=.type "list":=by rw [Option.some.inj hS]
  rw [r.1]at this
  exact absurd this (by decide +kernel)
 have dI:d≠s.heap.objs.size:=zbb9 (zaz9 a)
 have SI:S≠s.heap.objs.size:=zbb9 (zaz9 hS)
 have W:=(zao9 (prog:=prog) (w:=w) (A:=A.in1) hh s.heap.objs.size d dI es ep).toS
 unfold Builtin.List.listExtendWith
 refine zay9 (wpAny_typeOf (T := "dict") x.ty ?_)
 have h1:Builtin.List.listSameRef (.ref S) (.ref d)=false:=by simp [Builtin.List.listSameRef,Sd]
 simp only [h1,show (Value.type "dict" == Value.type "list")=false by decide,show (Value.type "dict" == Value.type "tuple")=false by decide,zbn8,zbb4,if_false]
 refine zay9 (raw_iter nm x ?_)
 have x1:RawD (s.heap.push { cls:=.type "dict_keyiterator",data:=.fields #[.ref d,.int 0 0,.int es.size 0,.int ep 0] }) d es ep:=x.at fun o e=>zay7 _ e
 refine zay9 (wpAny_holding (PySem.W.kdl_hint_dict (RawD.ty (s:={ s with heap:=s.heap.push { cls:=.type "dict_keyiterator",data:=.fields #[.ref d,.int 0 0,.int es.size 0,.int ep 0] } }) x1) ?_))
 have kI:(s.heap.push { cls:=.type "dict_keyiterator",data:=.fields #[.ref d,.int 0 0,.int es.size 0,.int ep 0] }).IsKeyIter s.heap.objs.size d 0 es.size ep:=⟨_,zba8 _ rfl,rfl,rfl⟩
 have key:∀(h:Heap) (c₁ tk:Nat),h.IsKeyIter s.heap.objs.size d 0 es.size ep→RawD h d es ep→(∀b o,b≠S→s.heap.get? b=some o→h.get? b=some o)→h.get? S=some { cls:=.type "list",data:=.seq #[] c₁ } →
   codeAny (model prog w) A (.builtin "list.extend.loop" ⟨[.ref S,.ref s.heap.objs.size,res],[]⟩) R { s with heap:=h,toks:=tk }:=by
  intro h c₁ tk k1 x2 hk g1
  refine codeAny_extend_loopS W (by rw [sizeLine_eq];lia) S (fun hm=>?_) res es.size 0 _ #[] c₁ rfl (zbh7 _) ⟨k1,x2⟩ g1 (ItemsOf.nil _) fun s' acc' c' hm hS' hacc=>?_
  ·simp only [zaz2,zbm1,or_false]at hm
   exact hm.elim SI Sd
  ·rw [Moved.eq_with hm]
   refine hR s'.heap s'.toks acc' c' (fun b o hb e=>hm.heap b o (fun hmem=>?_) (hk b o hb e)) hS' hacc
   rcases zaz2.mp hmem with e' |hmem
   ·exact hb e'
   ·exact absurd (zaz9 e) (by rw [zbb0.mp hmem];exact zbd1 _)
 have g1:=zay7 { cls:=.type "dict_keyiterator",data:=.fields #[.ref d,.int 0 0,.int es.size 0,.int ep 0] } hS
 refine wpAny_ite_split (fun _=>?_) (fun _=>zba0 ⟨plainId_quiet F.plain_extend_loop _,key _ c₀ _ kI x1 (fun b o _ e=>zay7 _ e) g1⟩)
 refine zay9 (wpAny_rule (zay9 ?_))
 show wpAny _ _ (updateSeq S (·.push .none) >>= fun _=>updateSeq S (·.pop)) _ _ _
 refine zay9 (wpAny_updateSeq g1 rfl ?_)
 have g2:=zbi7 (Obj.mapSeq (·.push Value.none)) g1 rfl
 refine wpAny_updateSeq (hz:=by seq_fits) g2 rfl ?_
 have g3:=zbi7 (Obj.mapSeq (·.pop)) g2 rfl
 have ot:∀ {b:Addr}{o:Obj},b≠S→(s.heap.push { cls:=.type "dict_keyiterator",data:=.fields #[.ref d,.int 0 0,.int es.size 0,.int ep 0] }).get? b=some o→(((s.heap.push { cls:=.type "dict_keyiterator",data:=.fields #[.ref d,.int 0 0,.int es.size 0,.int ep 0] }).update S (Obj.mapSeq (·.push Value.none))).update S (Obj.mapSeq (·.pop))).get? b=some o:=fun {b o} hb e =>
  (zbe1 _ _ (Ne.symm hb)).trans ((zbe1 _ _ (Ne.symm hb)).trans e)
 exact zba0 ⟨plainId_quiet F.plain_extend_loop _,key _ _ _ (let ⟨o,e,r⟩:=kI;⟨o,ot (Ne.symm SI) e,r⟩) (x1.at fun o e=>ot (Ne.symm Sd) e) (fun b o hb e=>ot hb (zay7 _ e)) g3⟩
theorem zah3 {d:Addr}{es:Array DictEntry}{ep:Nat}{R:List Value→zaz5→Prop} (hh:A.handled=none) (nm:(d == sysModules)=false) (x:RawD s.heap d es ep) (hz:es.size≤100000)
  (h:∀(h':Heap) (tk:Nat) (us:List Value),(∀b o,s.heap.get? b=some o→h'.get? b=some o)→s.heap.objs.size≤h'.objs.size→ItemsOf (fun i v => ∃h:i<es.size,v=es[i].key) us.toArray es.size→R us { s with heap:=h',toks:=tk }) :
  wpAny (model prog w) A (collect (.ref d)) R E s:=by
 unfold collect
 refine zay9 (wpAny_runValue (codeAny_builtin entry_proto_collect' ?_))
 rw [Around.under_plainId PySem.F.plain_proto_collect _]
 show wpAny _ A.in1 (newList [] >>= fun l=>again (.builtin "list.__iadd__" ⟨[l,.ref d],[]⟩)) _ _ s
 refine zay9 (wpAny_newObj_type ?_)
 refine zba0 ⟨plainId_quiet zbl3 _,codeAny_builtin entry_list_iadd' ?_⟩
 rw [Around.under_plainId zbl3 _]
 have g0:(s.heap.push { cls:=.type "list",data:=.seq ([]:List Value).toArray }).get? s.heap.objs.size=some { cls:=.type "list",data:=.seq #[] }:=zba8 _ rfl
 have key:=ext_raw (A:=A) (s:={ s with heap:=s.heap.push { cls:=.type "list",data:=.seq ([]:List Value).toArray } }) (prog:=prog) (w:=w)
  (R:=fun (q:Result) (s':zaz5) => ∃(h':Heap) (tk:Nat) (acc':Array Value) (c':Nat),q=.ok (.ret (.ref s.heap.objs.size))∧s'={ s with heap:=h',toks:=tk } ∧
   (∀b o,s.heap.get? b=some o→h'.get? b=some o)∧s.heap.objs.size≤h'.objs.size∧h'.get? s.heap.objs.size=some { cls:=.type "list",dict:=none,data:=.seq acc' c',slots := #[] }∧ItemsOf (fun i v => ∃h:i<es.size,v=es[i].key) acc' es.size)
  hh nm (x.at fun o e=>zay7 _ e) hz s.heap.objs.size (.ref s.heap.objs.size) 0 g0
  (fun h' tk acc' c' hk hS' hacc=>⟨h',tk,acc',c',rfl,rfl,fun b o e=>hk b o (zbb9 (zaz9 e)) (zay7 _ e),zbj2 (zaz9 hS'),hS',hacc⟩)
 show wpAny _ A.in1 (Builtin.List.listExtendWith (.ref s.heap.objs.size) (.ref d) (.ref s.heap.objs.size)) _ _ _
 refine wpAny_mono key (fun fin s' y=>?_) fun e s' y=>?_
 ·cases fin with
  |done f =>
   obtain⟨h',tk,acc',c',e,rfl,hk,hz',hS',hacc⟩:=y
   cases e
   show wpAny _ A (load s.heap.objs.size >>= _) _ _ _
   exact zay9 (wpAny_load hS' (zba0 (h h' tk acc'.toList hk hz' (by simpa using hacc))))
  |again c₁ =>
   refine⟨y.1,codeAny_mono y.2 fun q s₂ z=>?_⟩
   obtain⟨h',tk,acc',c',rfl,rfl,hk,hz',hS',hacc⟩:=z
   show wpAny _ A (load s.heap.objs.size >>= _) _ _ _
   exact zay9 (wpAny_load hS' (zba0 (h h' tk acc'.toList hk hz' (by simpa using hacc))))
 ·obtain⟨_,_,_,_,e',_⟩:=y
  cases e'
theorem zv3 {es:Array DictEntry}{us:List Value} (h:ItemsOf (fun i v => ∃h:i<es.size,v=es[i].key) us.toArray es.size):us=es.toList.map (·.key):=by
 obtain⟨h1,h2⟩:=h
 have l:us.length=es.size:=by simpa using h1
 refine zbp2 (by simpa using l) fun i a b=>?_
 obtain⟨_,e⟩:=h2 i us[i] (by simp [a])
 rw [e]
 simp
end
end TS
namespace TS
noncomputable def TupAt (h:Heap) (a:Addr) (p:Int×Int):Prop := ∃o t1 t2 n,h.get? a=some o∧o.cls=.type "tuple"∧o.data=.seq #[.int p.1 t1,.int p.2 t2] n
theorem TupAt.at {h h':Heap}{a:Addr}{p:Int×Int} (x:TupAt h a p) (k:∀o,h.get? a=some o→h'.get? a=some o):TupAt h' a p:=let ⟨o,t1,t2,n,e,r⟩:=x;⟨o,t1,t2,n,k o e,r⟩
def adr:Value→Addr
 |.ref a=>a
 |_=>0
section
variable {prog:Program}{w:World}{A:Around}{E:Value→zaz5→Prop}{s:zaz5}
theorem zaw3 {a₀:Array Keyed}{f:Addr→Int×Int} (hk:∀z∈a₀.toList,∃a,z.1=.ref a∧TupAt s.heap a (f a)∧0≤(f a).2∧(f a).2<1048576):Cmp (model prog w) A E s (fun z=>rkP (f (adr z.1))) (fun _=>0) a₀ (tuples' true) where
 lt:=fun st x y Q hkd mx my h=>by
  obtain⟨a,ea,⟨o,t1,t2,n,g,c,d⟩,l1,l2⟩:=hk x mx
  obtain⟨b,eb,⟨o',u1,u2,n',g',c',d'⟩,m1,m2⟩:=hk y my
  have ex:rkP (f (adr x.1))=(f a).1*1048576+(f a).2:=by rw [ea];rfl
  have ey:rkP (f (adr y.1))=(f b).1*1048576+(f b).2:=by rw [eb];rfl
  rw [lt'_eq]
  refine zaz8 (wpS_get ?_)
  rw [hkd,ea,eb]
  refine zaz8 (wpS_lift (wpAny_attempt (PySem.W.kat_lt g d g' d' (zbp5 (wpAny_eqBool_int (zbr2 (fun e=>?_) fun e=>?_))))))
  ·have e:(f a).1=(f b).1:=of_decide_eq_true e
   refine zbq4 (zbp5 (wpAny_eqBool_int (zbr2 (fun e2=>?_) fun e2=>?_)))
   ·have e2:(f a).2=(f b).2:=of_decide_eq_true e2
    refine zbq4 (PySem.W.kat_nil ⟨rfl,?_⟩)
    rw [show rkP (f (adr x.1))=rkP (f (adr y.1)) by rw [ex,ey,e,e2]]at h
    simpa using zba3 h
   ·have e2 : ¬ (f a).2=(f b).2:=of_decide_eq_false e2
    refine zbr3 (PySem.W.kat_one _ _ (lt_int ?_))
    show s=s∧_
    refine⟨rfl,?_⟩
    rw [show decide (rkP (f (adr x.1))<rkP (f (adr y.1)))=decide ((f a).2<(f b).2) by rw [ex,ey,e];exact decide_eq_decide.mpr (by lia)]at h
    exact zba3 h
  ·have e : ¬ (f a).1=(f b).1:=of_decide_eq_false e
   refine zbr3 (oneLt_int ⟨rfl,?_⟩)
   rw [show decide (rkP (f (adr x.1))<rkP (f (adr y.1)))=decide ((f a).1<(f b).1) by rw [ex,ey];exact decide_eq_decide.mpr (by lia)]at h
   exact zba3 h
 pi:=fun x _=>⟨zbf8 _,by decide⟩
theorem zar6 (bs:List Addr):(((bs.map Value.ref).toArray.zip (bs.map Value.ref).toArray)).toList=bs.map fun b=>(Value.ref b,Value.ref b):=by
 rw [zas0,zbf1]
 rfl
theorem pr_out {bs:List Addr}{f:Addr→Int×Int} (hb:∀b∈bs,0≤(f b).2∧(f b).2<1048576) (arr:Array Keyed) (hp:arr.Perm ((bs.map Value.ref).toArray.zip (bs.map Value.ref).toArray)) (hr:Ris (fun z=>rkP (f (adr z.1))) (fun _=>0) arr.toList) :
  ∃out:List Addr,out.Perm bs∧out.map f=sortP (bs.map f)∧arr.map (·.2)=(out.map Value.ref).toArray:=by
 have hpl:=zbd2.mp hp
 rw [zar6]at hpl
 have p1:(arr.toList.map fun z=>adr z.2).Perm bs:=by
  have q:=hpl.map fun z=>adr z.2
  rw [zbf1]at q
  have e:bs.map ((fun z:Keyed=>adr z.2) ∘ fun b=>(Value.ref b,Value.ref b))=bs:=by
   rw [show ((fun z:Keyed=>adr z.2) ∘ fun b=>(Value.ref b,Value.ref b))=id from rfl,List.map_id]
  rw [e]at q
  exact q
 have each:∀z∈arr.toList,z.1=z.2∧z.2=Value.ref (adr z.2):=fun z hz=>by
  obtain⟨b,_,rfl⟩:=zbd8.mp (hpl.mem_iff.mp hz)
  exact⟨rfl,rfl⟩
 refine⟨arr.toList.map fun z=>adr z.2,p1,?_,?_⟩
 ·refine uniqP (fun p hp'=>?_) ((p1.map f).trans (sortP_perm _).symm) ?_ (sortP_sorted _)
  ·obtain⟨b,m,rfl⟩:=zbd8.mp hp'
   exact hb b (p1.mem_iff.mp m)
  ·rw [zbf1]
   refine zbo5.mpr ((List.Pairwise.and_mem.mp hr).imp fun {a b} hab=>?_)
   obtain⟨ma,mb,q⟩:=hab
   have e1:=(each a ma).1
   have e2:=(each b mb).1
   have q':rkP (f (adr a.1))*1048576+0≤rkP (f (adr b.1))*1048576+0:=q
   rw [e1,e2]at q'
   show rkP (f (adr a.2))≤rkP (f (adr b.2))
   lia
 ·refine zbp6.mp ?_
  rw [Array.toList_map,zbn4,zbf1]
  exact zbn1 fun z hz=>(each z hz).2
theorem zaf5 (bs:List Addr):((bs.map Value.ref).toArray.zip (bs.map Value.ref).toArray).size=bs.length:=by rw [zan0,zbc4]
theorem pr_short {α:Type}{R:α→α→Prop}:∀ {l:List α},l.length≤1→l.Pairwise R
 |[],_=>List.Pairwise.nil
 |[z],_=>zbl2 _ _
theorem zar7 {h:Heap}{f:Addr→Int×Int}:∀ {bs:List Addr},(∀b∈bs,TupAt h b (f b))→∃fs:List Value,PySem.W.KatTups h (bs.map Value.ref) fs∧fs.length=bs.length∧∀v∈fs,∃n t,v=.int n t
 |[],_=>⟨[],.nil,rfl,fun v hv=>by cases hv⟩
 |b::bs,ht=>by
  obtain⟨fs,k,l,r⟩:=zar7 (bs:=bs) fun x hx=>ht x (zay5 _ hx)
  obtain⟨o,t1,t2,n,e,c,d⟩:=ht b (zaz0 ..)
  refine⟨.int (f b).1 t1::fs,.cons e c d rfl k,by simp [l],fun v hv=>?_⟩
  rcases zaz2.mp hv with z | z
  ·exact⟨_,_,z⟩
  ·exact r v z
theorem ls_pairs {a:Addr}{bs:List Addr}{f:Addr→Int×Int}{n:Nat}{P:PySem.Fin→zaz5→Prop} (ho:s.heap.get? a=some (seqObj "list" (bs.map Value.ref).toArray n)) (ht:∀b∈bs,TupAt s.heap b (f b)) (hb:∀b∈bs,0≤(f b).2∧(f b).2<1048576) (hz:bs.length≤100000)
  (h:∀out:List Addr,out.Perm bs→out.map f=sortP (bs.map f)→P (.done (.ret .none)) { s with heap:=sortedHeap s.heap a (bs.map Value.ref) (out.map Value.ref).toArray }):wpAny (model prog w) A (Builtin.«list.sort» ⟨[.ref a],[]⟩) P E s:=by
 have na:∀b∈bs,b≠a:=fun b m z=>by
  obtain⟨o,_,_,_,e,c,_⟩:=ht b m
  rw [z,ho]at e
  have:(seqObj "list" (bs.map Value.ref).toArray n).cls=.type "tuple":=by rw [Option.some.inj e];exact c
  have q:(Value.type "list")=.type "tuple":=this
  exact absurd q (by decide +kernel)
 have lv:(bs.map Value.ref).length=bs.length:=zbc4 ..
 obtain⟨e1,ho1⟩:∃e1,(s.heap.update a (Obj.mapSeq fun _=>(#[]:Array Value))).get? a=some (seqObj "list" #[] e1):=⟨_,get?_update_seq ho fun _ => #[]⟩
 have ho2:(((s.heap.update a (Obj.mapSeq fun _=>(#[]:Array Value))).push (seqObj "tuple" (bs.map Value.ref).toArray 0)).push (seqObj "list" #[] 0)).get? a=some (seqObj "list" #[] e1):=zay7 _ (zay7 _ ho1)
 have ht2:∀b∈bs,TupAt (((s.heap.update a (Obj.mapSeq fun _=>(#[]:Array Value))).push (seqObj "tuple" (bs.map Value.ref).toArray 0)).push (seqObj "list" #[] 0)) b (f b):=fun b m=>(ht b m).at fun o e=>zay7 _ (zay7 _ ((zbe1 _ _ (Ne.symm (na b m))).trans e))
 rw [list_sort_plain]
 refine zay9 (listItems_at ho rfl ?_)
 refine zay9 (listUpdate_at ho rfl ?_ (by rw [zbb3,sizeLine_eq];lia) (zbh7 _))
 refine zay9 (seqEpoch_at ho1 rfl ?_)
 refine zay9 (wpAny_newTuple ?_ (by show (bs.map Value.ref).length≤_;rw [sizeLine_eq];lia))
 refine zay9 (wpAny_newList ?_ (zbh7 _))
 refine wpAny_holding ?_
 have hv2:(bs.map Value.ref).toArray.size=bs.length:=by simp
 by_cases h2:(bs.map Value.ref).toArray.size<2
 ·rw [if_pos h2,if_pos h2]
  refine zay9 (zba0 ?_)
  dsimp only
  rw [StateT.run_pure]
  refine zay9 (zba0 ?_)
  dsimp only
  obtain⟨out,q1,q2,q3⟩:=pr_out hb _ (Array.Perm.refl _) (by
   unfold Ris
   rw [zar6]
   exact pr_short (by rw [zbc4];lia))
  refine zay9 (seqEpoch_at ho2 rfl ?_)
  refine zay9 (listUpdate_at ho2 rfl ?_ (zbh7 _) (by
   show (((bs.map Value.ref).toArray.zip (bs.map Value.ref).toArray).map (·.2)).size≤_
   rw [Array.size_map,zaf5,sizeLine_eq];lia))
  simp only [bne_self_eq_false,zbb4,if_false]
  have:=h out q1 q2
  rw [← q3]at this
  exact zba0 this
 ·rw [if_neg h2,if_neg h2]
  obtain⟨fs,kt,fl,fi⟩:=zar7 ht2
  refine zay9 (PySem.W.kat_kind (T:=.type "int") kt (by lia) (fun v hv=>?_) (by decide) ?_)
  ·obtain⟨n,t,rfl⟩:=fi v hv
   exact .now
  rw [show (Value.type "int" != Value.type "tuple")=true by decide]
  have C:Cmp (model prog w) A E { s with heap:=((s.heap.update a (Obj.mapSeq fun _=>(#[]:Array Value))).push (seqObj "tuple" (bs.map Value.ref).toArray 0)).push (seqObj "list" #[] 0) } (fun z=>rkP (f (adr z.1))) (fun _=>0) ((bs.map Value.ref).toArray.zip (bs.map Value.ref).toArray) (tuples' true):=zaw3 fun z hz'=>by
   rw [zar6]at hz'
   obtain⟨b,m,rfl⟩:=zbd8.mp hz'
   exact⟨b,rfl,ht2 b m,hb b m⟩
  dsimp only
  refine zay9 (wpAny_mono (wp_runs C (st:=SortSt.mk' (tuples' true) ((bs.map Value.ref).toArray.zip (bs.map Value.ref).toArray) #[] 7 none) (Q:=fun _ st'=>TB ((bs.map Value.ref).toArray.zip (bs.map Value.ref).toArray) (tuples' true) st'∧Ris (fun z=>rkP (f (adr z.1))) (fun _=>0) (arrOf st').toList) ⟨Array.Perm.refl _,rfl,rfl⟩ rfl rfl (List.pairwise_of_forall (fun _ _=>zbf8 _)) (by rw [zaf5];lia) fun st' a b=>⟨a,b⟩) ?_ fun _ _ e=>e)
  rintro ⟨⟨⟩,st'⟩ s' ⟨rfl,tb,rs⟩
  obtain⟨out,q1,q2,q3⟩:=pr_out hb (arrOf st') tb.pm rs
  dsimp only at tb rs ⊢
  refine zay9 (seqEpoch_at ho2 rfl ?_)
  refine zay9 (listUpdate_at ho2 rfl ?_ (zbh7 _) (by
   show ((arrOf st').map (·.2)).size≤_
   rw [Array.size_map,tb.pm.size_eq,zaf5,sizeLine_eq];lia))
  rw [tb.fld]
  simp only [bne_self_eq_false,zbb4,if_false]
  have:=h out q1 q2
  rw [← q3]at this
  exact zba0 this
end
end TS
namespace L2
open PySem.Spec TS
def twoH (H:Hp) (b:Addr):Int×Int:=match H b with
 |some (.tup [.int x,.int y])=>(x,y)
 |_=>(0,0)
section
variable {X:Cx}
theorem tup_at {pins:List (Addr×Obj)}{s:zaz5}{σ:L2.St}{H:Hp} (I:Inv X pins σ H s) {b:Addr}{x y:Int} (h:H b=some (.tup [.int x,.int y])):TupAt s.heap b (twoH H b):=by
 obtain⟨_,its,rv,o,e,c,d⟩:=(show ObjOk X.prog X.w H s.heap b (.tup [.int x,.int y]) from I.hok b _ h)
 have et:twoH H b=(x,y):=by unfold twoH;rw [h]
 rw [et]
 cases rv with
 |cons r1 rv =>
  cases rv with
  |cons r2 rv =>
   cases rv
   obtain⟨t1,rfl⟩:=r1
   obtain⟨t2,rfl⟩:=r2
   first
    |exact⟨o,t1,t2,_,e,c,d⟩
    |(obtain⟨n,d⟩:=d;exact⟨o,t1,t2,n,e,c,d⟩)
theorem dt_keys {pins:List (Addr×Obj)}{s:zaz5}{σ:L2.St}{H:Hp} (I:Inv X pins σ H s) {p:Addr}{ps:List (Int×Int)} (h:H p=some (.dT (DL.pkv ps))) :
  (p == sysModules)=false∧∃(bs:List Addr) (es:Array DictEntry) (ep:Nat),RawD s.heap p es ep∧es.toList.map (·.key)=bs.map Value.ref∧bs.map (twoH H)=ps∧∀b∈bs,∃x y:Int,H b=some (.tup [.int x,.int y]):=by
 obtain⟨_,nm,xs,pr,o,es,ep,e,ex,d,ek,_⟩:=(show ObjOk X.prog X.w H s.heap p (.dT (DL.pkv ps)) from I.hok p _ h)
 refine⟨nm,xs.map (·.2.1),es,ep,⟨o,e,ex,d⟩,?_,?_,?_⟩
 ·rw [ek,zbf1,zbf1]
  rfl
 ·clear ek e d
  have:∀ {qs:List (Int×Int)}{xs:List (List Key×Addr×Value)},Paired (fun (p:List Key×V) (q:List Key×Addr×Value)=>p.1=q.1∧H q.2.1=some (.tup (p.1.map kV))∧RelV p.2 q.2.2) (DL.pkv qs) xs→(xs.map (·.2.1)).map (twoH H)=qs:=by
   intro qs
   induction qs with
   |nil=>intro xs hp;cases hp;rfl
   |cons q qs ih =>
    intro xs hp
    cases hp with
    |@cons _ b _ _ h1 h2 =>
     have e:twoH H b.2.1=q:=by
      unfold twoH
      rw [h1.2.1]
      rfl
     simp only [zba2]
     rw [ih h2,e]
  exact this pr
 ·intro b hb
  obtain⟨x,hx,rfl⟩:=zbd8.mp hb
  have:∀ {qs:List (Int×Int)}{xs:List (List Key×Addr×Value)},Paired (fun (p:List Key×V) (q:List Key×Addr×Value)=>p.1=q.1∧H q.2.1=some (.tup (p.1.map kV))∧RelV p.2 q.2.2) (DL.pkv qs) xs→∀x∈xs,∃a b:Int,H x.2.1=some (.tup [.int a,.int b]):=by
   intro qs
   induction qs with
   |nil=>intro xs hp x hx;cases hp;cases hx
   |cons q qs ih =>
    intro xs hp x hx
    cases hp with
    |cons h1 h2 =>
     rcases zaz2.mp hx with rfl | w
     ·exact⟨q.1,q.2,h1.2.1⟩
     ·exact ih h2 x w
  exact this pr x hx
theorem zaa0:∀out:List Addr,Vals (out.map V.ref) (out.map Value.ref)
 |[]=>.nil
 |a::out=>.cons rfl (zaa0 out)
theorem zad1 (hc:X.calm=true):zq7 X (.builtin "sorted") (fun xs H Q => ∃(p:Addr) (ps:List (Int×Int)),xs=[.ref p]∧H p=some (.dT (DL.pkv ps))∧ps.length≤50000∧(∀q∈ps,0≤q.2∧q.2<1048576) ∧
  ∀l (out:List Addr),H l=none→out.map (twoH H)=sortP ps→(∀b∈out,∃x y:Int,H b=some (.tup [.int x,.int y]))→Q (.ref l) (upd H l (.lst (out.map V.ref)))):=by
 intro pins s σ H xs us Q I r h
 obtain⟨p,ps,rfl,hp,hb,hr,q⟩:=h
 obtain⟨u,rfl,ru⟩:=zam2 r
 cases ru
 obtain⟨nm,bs,es,ep,x,ek,ef,et⟩:=dt_keys I hp
 have bl:bs.length=ps.length:=by rw [← ef,zbc4]
 have esz:es.size=bs.length:=by
  have:=congrArg List.length ek
  simpa using this
 refine zap9 (P:=fun us=>us=bs.map Value.ref) (args_sorted1 _) (fun _=>args_list_sort _) (fun R hR=>?_) (fun h' tk us hk hz hu hlen=>?_)
 ·refine zah3 (I.ok.hd hc) nm x (by lia) fun h' tk us hk hz hit=>hR h' tk us hk hz ((zv3 hit).trans ek) ?_
  have:=congrArg List.length ((zv3 hit).trans ek)
  simp only [zbc4]at this
  lia
 ·subst hu
  have tu:∀b∈bs,TupAt (h'.push (seqObj "list" (bs.map Value.ref).toArray 0)) b (twoH H b):=fun b m=>by
   obtain⟨a,c,e⟩:=et b m
   exact (tup_at I e).at fun o z=>zay7 _ (hk b o z)
  refine ls_pairs (s:={ s with heap:=h'.push (seqObj "list" (bs.map Value.ref).toArray 0),toks:=tk }) (f:=twoH H) (zba8 _ rfl) tu (fun b m=>?_) (by lia) fun out po pf=>⟨rfl,?_⟩
  ·exact hr _ (by rw [← ef];exact zbd8.mpr ⟨b,m,rfl⟩)
  have fr:s.heap.objs.size≤h'.objs.size:=hz
  have g0:(h'.push (seqObj "list" (bs.map Value.ref).toArray 0)).get? h'.objs.size=some (seqObj "list" (bs.map Value.ref).toArray 0):=zba8 _ rfl
  obtain⟨e1,g1⟩:∃e1,((h'.push (seqObj "list" (bs.map Value.ref).toArray 0)).update h'.objs.size (Obj.mapSeq fun _=>(#[]:Array Value))).get? h'.objs.size=some (seqObj "list" #[] e1):=⟨_,get?_update_seq g0 fun _ => #[]⟩
  obtain⟨k,g2⟩:∃k,(sortedHeap (h'.push (seqObj "list" (bs.map Value.ref).toArray 0)) h'.objs.size (bs.map Value.ref) (out.map Value.ref).toArray).get? h'.objs.size=some (seqObj "list" (out.map Value.ref).toArray k):=⟨_,get?_update_seq (zay7 _ (zay7 _ g1)) fun _=>(out.map Value.ref).toArray⟩
  have ol:out.length≤50000:=by rw [po.length_eq];lia
  refine⟨.ref _,_,I.laid (o:=HO.lst (out.map V.ref)) (fun b o e=>?_) fr ⟨?_,out.map Value.ref,k,zaa0 out,by simpa [seqObj] using g2⟩,rfl,q _ out (I.hok.fresh fr) (by rw [pf,ef]) fun b m=>et b (po.mem_iff.mp m)⟩
  ·have e2:=hk b o e
   have nb:h'.objs.size≠b:=zbh5 (zaz9 e2)
   unfold sortedHeap
   exact (zbe1 _ _ nb).trans (zay7 _ (zay7 _ ((zbe1 _ _ nb).trans (zay7 _ e2))))
  ·refine DL.le_line ?_
   rw [zbc4];lia
end
end L2
namespace DL
open PySem.Spec L2 TS
section
variable {X:Cx}{F:List Addr}
def prD2 (q:Int×Int):D:=.tup [.int q.1,.int q.2]
noncomputable def zab8:List Ev→Option Ev:=fun rs=>match rs with
 |[r]=>(match r.d with
  |.pdc ps=>if ps.length≤50000∧(ps.all fun q=>decide (0≤q.2∧q.2<1048576))=true then some (.nw ((sortP ps).map prD2)) else none
  |_=>none)
 |_=>none
theorem zu8 {K:zay3}{H H':Hp}:∀ {out:List Addr},(∀b∈out,∃x y:Int,H b=some (.tup [.int x,.int y])∧H' b=some (.tup [.int x,.int y]))→Reps K H' ((out.map (twoH H)).map prD2) (out.map V.ref)
 |[],_=>.nil
 |b::out,h=>by
  obtain⟨x,y,e,e'⟩:=h b (zaz0 ..)
  have et:twoH H b=(x,y):=by unfold twoH;rw [e]
  simp only [zba2,et]
  exact .cons (.tup (SqT.of e') (.cons (.int x) (.cons (.int y) .nil))) (zu8 fun c hc=>h c (zay5 _ hc))
theorem cd_sortD (hc:X.calm=true):CallD X F (.builtin "sorted") zab8:=CallD.of (zad1 hc) fun H0 H A xs rs e Q m g q ek hq=>by
 unfold zab8 at ek
 split at ek
 case h_2=>cases ek
 cases q with
 |cons q1 q2 =>
  cases q2
  split at ek
  case h_2=>cases ek
  rename_i ps z
  split at ek
  case isFalse=>cases ek
  rename_i c
  cases ek
  have p:=q1.full
  rw [z]at p
  cases p with
  |pdc h1 =>
   refine⟨_,ps,rfl,h1,c.1,fun q hq=>by simpa using zbg5.mp c.2 q hq,fun l out hl ho ht=>?_⟩
   refine hq _ _ (zc2 hl) ⟨l,_,rfl,Same.free g hl,zb3,?_⟩
   rw [← ho]
   refine zu8 fun b hb=>?_
   obtain⟨x,y,eb⟩:=ht b hb
   have nb:b≠l:=fun w=>by rw [w,hl]at eb;cases eb
   have m':Lists H (A++F):=m.mono g
   refine⟨x,y,eb,zb1 (by rw [zb5 nb];exact eb) fun w=>?_⟩
   rcases zaz2.mp w with w | w
   ·exact nb w
   ·obtain⟨o,ho'⟩:=m' b w
    rw [eb]at ho'
    have:=o.2
    rw [← Option.some.inj ho']at this
    cases this
end
end DL
namespace DL
open PySem.Spec L2
noncomputable def spT (K:zay3) (G:D→List D→List D→D→Option (List Int×List Int)):Sp:=fun vs H Q _ => ∃(v0 v3:V) (p q:Addr) (ws us:List V) (d0 d3:D) (xs ys:List D) (r:List Int×List Int),vs=[v0,.ref p,.ref q,v3]∧p≠q∧H p=some (.lst ws)∧H q=some (.lst us) ∧
 Rep K (hide [p,q] H) d0 v0∧Reps K (hide [p,q] H) xs ws∧Reps K (hide [p,q] H) ys us∧Rep K (hide [p,q] H) d3 v3∧G d0 xs ys d3=some r ∧
 ∀H',(∀b o,b≠p→b≠q→H b=some o→H' b=some o)→H' p=some (.lst (r.1.map V.int))→H' q=some (.lst (r.2.map V.int))→Q .non H'
structure CalT (P:Program) (w:World) (K:zay3) (mg:Str→Option Value) (base:BHeap) (x:Str) (k:Nat) (G:D→List D→List D→D→Option (List Int×List Int)):Prop where
 ex:∃(a:Addr) (fd:FuncData) (ps:List Str),mg x=some (.ref a)∧zbd9 K (.ref a)=true∧L2.Binds K fd ps []∧FnOk P w K mg base CX0 k a fd ps (spT K G)
end DL
namespace TS
section
variable {prog:Program}{w:World}{A:Around}{E:Value→zaz5→Prop}{s:zaz5}
theorem zac7 {I:Addr}{fp:List Addr}{items:Array Value}{St:Nat→Heap→Prop} (W:Walks prog w A I fp [I] items.size (fun i v=>items[i]?=some v) St):∀(n i:Nat) (s:zaz5) (Q:List Value→zaz5→Prop),St i s.heap→i+n≤items.size →
  (∀h' tk,St (i+n) h'→(∀b o,b≠I→s.heap.get? b=some o→h'.get? b=some o)→Q ((items.toList.drop i).take n) { s with heap:=h',toks:=tk })→wpAny (model prog w) A (draw (.ref I) n) Q E s
 |0,i,s,Q,st,_,hQ=>by
  show wpAny _ _ (pure []) Q E s
  exact zba0 (by simpa using hQ s.heap s.toks st fun _ _ _ e=>e)
 |n+1,i,s,Q,st,hle,hQ=>by
  have lt:i<items.size:=by lia
  show wpAny _ _ (pyNext (.ref I) >>= _) Q E s
  refine zay9 (W.item i s _ _ lt st fun v h1 tk p st1 k1=>?_)
  have ev:v=items[i]:=by
   rw [zbf3 lt]at p
   exact (Option.some.inj p).symm
  subst ev
  refine zay9 (wpAny_holding (zac7 W n (i+1) _ _ st1 (by lia) fun h2 tk2 st2 k2=>zba0 ?_))
  have hd:items.toList.drop i=items[i]::items.toList.drop (i+1):=by simp [zbc7,lt]
  have:=hQ h2 tk2 (by rw [show i+(n+1)=i+1+n by lia];exact st2) fun b o nb e=>k2 b o nb (k1 b o (by simpa using nb) e)
  rw [hd,List.take_succ_cons]at this
  exact this
theorem zae4 {l:Addr}{items:Array Value}{targets:List (Bool×(Value→Sem Unit))}{Q:Unit→zaz5→Prop} (hh:A.handled=none) (hl:s.heap.IsList l items) (hn:targets.length=items.size) (hs:targets.findIdx? (·.1)=none)
  (h:∀h' tk,(∀b o,s.heap.get? b=some o→h'.get? b=some o)→wpAny (model prog w) A (assignInOrder (targets.map (·.2)) items.toList) Q E { s with heap:=h',toks:=tk }) :
  wpAny (model prog w) A (unpack (.ref l) targets) Q E s:=by
 have ll:l<s.heap.objs.size:=by obtain⟨o,g,_⟩:=hl;exact zaz9 g
 unfold unpack
 rw [hn,hs]
 refine zay9 (wpAny_holding ?_)
 unfold unpackItems
 refine zay9 ?_
 unfold notIterableAtAll
 refine zay9 (wpAny_specialOf hl.typeIs F.slot_list_iter.lookup ?_)
 refine zba0 ?_
 simp only [zbb4,if_false]
 refine zay9 (wpAny_holding (wpAny_pyIter_list hl ?_))
 have W:=Walks.list (prog:=prog) (w:=w) (A:=A) hh s.heap.objs.size l (zbb9 ll) items
 refine zay9 (wpAny_holding (zac7 W items.size 0 _ _ ⟨⟨_,zba8 _ rfl,rfl,rfl⟩,hl.push _⟩ (by lia) fun h1 tk st1 k1=>?_))
 have hall:List.take items.size (List.drop 0 items.toList)=items.toList:=by
  rw [List.drop_zero];exact zbb7 (by simp)
 rw [hall,if_neg (by simp)]
 rw [zbk7]at st1
 refine zay9 (wpAny_holding (W.done _ _ _ st1 fun h2 tk2 k2=>?_))
 simp only [Option.isSome_none,zbb4,if_false]
 refine zba0 (h h2 tk2 fun b o e=>k2 b o (fun z=>absurd (zaz9 e) (by rw [zbb0.mp z];exact zbd1 _)) (k1 b o (zbb9 (zaz9 e)) (zay7 _ e)))
end
end TS
namespace L2
open PySem.Spec TS
section
variable {X:Cx}{pos:Pos}
def gLst (K:zay3) (n:Nat) (t:TGs):TG:=fun v σ H Q => ∃a xs,v=.ref a∧SqL K H a xs∧xs.length=n∧t xs σ H Q
theorem pg_lst {es:List Expr}{k:Nat}{t:TGs}{n:Nat} (hc:X.calm=true) (h:PGs X es t) (hn:(assignEach es X.env).length=n:=by rfl) (hst:(assignEach es X.env).findIdx? (·.1)=none:=by rfl):PG X (.Tuple es k pos) (gLst X.K n t):=by
 intro pins s σ H v u Q I r hw
 obtain⟨a,xs,e1,hq,hl,hw⟩:=hw
 subst e1
 cases r
 obtain⟨its,rv,pl,hz⟩:=I.list hq
 rw [arm_assign_Tuple]
 refine zay9 (wpAny_standAt (zae4 (I.ok.hd hc) (DL.PlainL.isL pl) (by simp [hn, ← hl,rv.length]) hst fun h' tk hk=>?_))
 exact h pins _ σ H xs _ Q (I.kept (t':=tk) hk) (by simpa using rv) hw
end
end L2
namespace DL
open PySem.Spec L2
noncomputable def gkLst (n:Nat) (k:List D→Th→Option Th):D→Th→Option Th:=fun d t=>match d with
 |.lst ds=>if ds.length=n then k ds t else none
 |_=>none
theorem tg_lst {K:zay3}{F:List Addr}{n:Nat}{g':TGs}{k':List D→Th→Option Th} (h2:zay0 K F g' k'):TgOk K F (gLst K n g') (gkLst n k'):=by
 intro σ H A t t' d x Q R r e h
 unfold gkLst at e
 split at e
 ·rename_i ds
  split at e
  ·rename_i hl
   cases r with
   |@lst _ p vs h1 hr=>exact⟨p,vs,rfl,SqL.mono (za7 _ _) h1,by rw [hr.length];exact hl,h2 σ H A t t' ds vs Q R hr e h⟩
  ·cases e
 ·cases e
structure Lent (K:zay3) (F:List Addr) (ir jx:Nat) (ds:List D) (k:Nat) (A0:List Addr) (Hb:Hp) (p r:Addr) (C1 C2:List Addr) (A:List Addr) (H:Hp) (σ:L2.St):Prop where
 nd:(p ::(C1++r::C2)).Nodup
 dj:∀b∈p ::(C1++r::C2),b∉F
 s1:σ[ir]?=some (some (.ref p))
 s2:σ[jx]?=some (some (.ref r))
 gr:Gr A0 Hb (A++p ::(C1++C2)) H
 kp:∀b∈p ::(C1++C2),∀o,Hb b=some o→H b=some o
 re:∀(H01 H1:Hp) (xs':List D),xs'.all scD=true→H1 r=some (.lst (xs'.map sV))→(∀b∈p ::(C1++C2),∀o,Hb b=some o→H1 b=some o)→Same (hide (A0++F) Hb) H01→RepD K H01 H1 (.lst (ds.set k (.lst xs'))) (.ref p) (p ::(C1++r::C2))
section
variable {X:Cx}{F:List Addr}
noncomputable def kLtT:Ev→Ev→Option Ev:=fun r1 r2=>match r1.d,r2.d with
 |.tup xs,.tup ys=>(zk6 xs).bind fun is=>(zk6 ys).bind fun js=>if is.length=js.length then some (.cl (.bl (lexI false is js))) else none
 |_,_=>none
theorem od_ltT (hu:X.A.units+64<cLine):OpD X F (compareOp .Lt) kLtT:=by
 intro pins s σ H0 H A x y v u Q r1 r2 r I m g0 rx ry q1 q2 hc hq
 unfold kLtT at hc
 have p1:=q1.full
 have p2:=q2.full
 have icmp:∀ {A:Around}{i j:Int}{t t':Tok},SeqAt.OpAt .Lt A s (.int i t) (.int j t') (cmpI false i j):=fun {A i j t t'} prog w E Q hq =>
  CmpOf.ints_lt (prog:=prog) (w:=w) (A:=A) (P:=fun (n:Nat) v => ∃t,v=.int (if n=0 then i else j) t) (fun n=>if n=0 then i else j) (fun _ _ h=>h) 0 1 _ _ _ _ _ ⟨t,rfl⟩ ⟨t',rfl⟩ hq
 split at hc
 case h_2=>cases hc
 rename_i xs ys z1 z2
 rw [z1]at p1
 rw [z2]at p2
 cases p1 with
 |@tup _ pa vs h1 h2 =>
 cases p2 with
 |@tup _ pb ws g1 g2 =>
  cases e1:zk6 xs with
  |none=>rw [e1]at hc;cases hc
  |some is =>
   cases e2:zk6 ys with
   |none=>rw [e1,e2]at hc;cases hc
   |some js =>
    rw [e1,e2]at hc
    simp only [zaz3]at hc
    split at hc
    case isFalse=>cases hc
    rename_i hl
    cases hc
    have x1:=zq8 e1
    have x2:=zq8 e2
    subst x1 x2
    have v1:=zr6 h2
    have v2:=zr6 g2
    subst v1 v2
    cases rx
    cases ry
    obtain⟨its,w1,w2,_⟩:=I.tuple h1
    obtain⟨its',w1',w2',_⟩:=I.tuple g1
    have l1:its.toArray.size=is.length:=by have:=w1.length;simp at this;simp [← this]
    have l2:its'.toArray.size=js.length:=by have:=w1'.length;simp at this;simp [← this]
    have at1:∀j (hj:j<its.toArray.size),∃t,its.toArray[j]=.int (is[j]'(by lia)) t:=fun j hj=>by
     obtain⟨v,e,r⟩:=Vals.getL w1 hj
     have hj':j<is.length:=by lia
     rw [zbg7,zaz1 hj']at e
     cases e
     exact r
    have at2:∀j (hj:j<its'.toArray.size),∃t,its'.toArray[j]=.int (js[j]'(by lia)) t:=fun j hj=>by
     obtain⟨v,e,r⟩:=Vals.getL w1' hj
     have hj':j<js.length:=by lia
     rw [zbg7,zaz1 hj']at e
     cases e
     exact r
    have he:∀j (q1:j<its.toArray.size) (q2:j<its'.toArray.size),SeqAt.EqAt X.A.in1 s its.toArray[j] its'.toArray[j] (decide (is.getD j 0=js.getD j 0)):=fun j q1 q2=>by
     obtain⟨t,z1⟩:=at1 j q1
     obtain⟨t',z2⟩:=at2 j q2
     have k1:is.getD j 0=is[j]'(by lia):=by rw [zbf2,zaz1 (by lia)];rfl
     have k2:js.getD j 0=js[j]'(by lia):=by rw [zbf2,zaz1 (by lia)];rfl
     rw [z1,z2,k1,k2]
     have q:=eqAt_D I 6 X.A.in1 (.int (is[j]'(by lia))) (.int (js[j]'(by lia))) _ _ (.int (is[j]'(by lia)) t) (.int (js[j]'(by lia)) t') (by show X.A.units+1+6<cLine;lia) (by rfl) (.int _) (.int _) ⟨t,rfl⟩ ⟨t',rfl⟩
     have:eqD (.int (is[j]'(by lia))) (.int (js[j]'(by lia)))=decide ((is[j]'(by lia))=(js[j]'(by lia))):=by
      cases w:decide ((is[j]'(by lia))=(js[j]'(by lia))) with
      |true=>rw [eqD_true];simp at w;rw [w]
      |false=>rw [eqD_false];simp at w;intro k;injection k with k;exact w k
     rw [← this];exact q
    have hcc:∀j (q1:j<its.toArray.size) (q2:j<its'.toArray.size),(decide (is.getD j 0=js.getD j 0))=false→SeqAt.OpAt .Lt X.A.in1 s its.toArray[j] its'.toArray[j] (cmpI false (is.getD j 0) (js.getD j 0)):=fun j q1 q2 _=>by
     obtain⟨t,z1⟩:=at1 j q1
     obtain⟨t',z2⟩:=at2 j q2
     have k1:is.getD j 0=is[j]'(by lia):=by rw [zbf2,zaz1 (by lia)];rfl
     have k2:js.getD j 0=js[j]'(by lia):=by rw [zbf2,zaz1 (by lia)];rfl
     rw [z1,z2,k1,k2]
     exact icmp
    have hz:its.toArray.size=its'.toArray.size:=by lia
    have fl:=zau7 (mx:=false) (is:=is) (js:=js) (e:=fun j=>decide (is.getD j 0=js.getD j 0)) (c:=fun j=>cmpI false (is.getD j 0) (js.getD j 0)) hl (fun j a b z1 z2=>by simp [z1,z2])
    have hs:EP X pins σ Q (.bool (lexI false is js)) s:=⟨.bl (lexI false is js),H,I,rfl,hq _ H (Same.refl H) (.bl _)⟩
    rw [← fl, ← l1]at hs
    exact SeqAt.OpAt.tuples_lt (A:=X.A) w2 w2' (by lia) hz he hcc _ _ _ _ hs
end
end DL
namespace DL
open PySem.Spec L2
def zac8:DS:=fun _=>none
theorem zaa3 {X:Cx}{F:List Addr}{st:Stmt}:PS X st (dS X.K F zac8):=by
 intro E pins s σ H I h
 obtain⟨A,t,o,R,e,h⟩:=h
 cases e
section
variable {X:Cx}{F:List Addr}{J:List Nat}{a b:Expr}{fa fb:DE}{g:DS}{pos:Pos}
def zah0:Ev→Option Ev:=fun r=>(truD r.d).map fun b=>.cl (.bl (!b))
theorem ped_notT (ha:PE X a (dE X.K F fa)):PE X (.UnaryOp .Not a pos) (dE X.K F (d1 zah0 fa)):=by
 intro pins s σ H Q I h
 obtain⟨A,t,r,R,e,h⟩:=h
 unfold d1 at e
 cases e1:fa t with
 |none=>rw [e1]at e;cases e
 |some r1 =>
  rw [e1]at e
  have e:zah0 r1=some r:=e
  unfold zah0 at e
  cases e2:truD r1.d with
  |none=>rw [e2]at e;cases e
  |some b =>
   rw [e2]at e
   cases e
   refine UnaryOp_ (thn (ha pins s σ H (fun v H1=>Same H H1∧RepEv X.K F A H H1 r1 v) I ⟨A,t,r1,R,e1,fun v H1 g1 q1=>⟨g1,q1⟩⟩) fun v s1 ⟨x,H1,I1,rx,g1,q1⟩=>?_)
   refine not_of (thn (tru_ok pins s1 σ H1 x v (fun k H2=>k=b∧H2=H1) I1 rx ⟨b,zap2 q1.full e2,rfl,rfl⟩) fun k s2 ⟨H2,I2,ek,eh⟩=>?_)
   subst ek eh
   exact⟨.bl (!k),_,I2,rfl,h _ _ g1 (.bl _)⟩
end
end DL
namespace DL
open PySem.Spec L2
structure HJ (K:zay3) (F A0:List Addr) (H0:Hp) (B A':List Addr) (tt:Th) (i:Nat) (p0:Addr) (vs:List V) (p1:Addr) (vs1:List V) (L:List Addr) (n:Nat) (σ:L2.St) (H:Hp):Prop where
 rs:RS K (B++F) H A' tt σ
 nm:σ[i]?=some (some (.ref p0))
 tp:SqT K (hide (A'++(B++F)) H) p0 vs
 l1:H p1=some (.lst vs1)
 ll:∀b∈L,∃us:List V,H b=some (.lst us)∧us.length≤n
 gr:Gr A0 H0 A' H
end DL
namespace DL
open PySem.Spec L2
open PySem.Builtin.Str (occurrences partsBetween strKind)
section
variable {X:Cx}{F:List Addr}{a b c o:Expr}{es:List Expr}{fa fb fc:DE}{fs:List DE}{pos:Pos}
noncomputable def kFmt:Ev→Option Ev:=fun r=>match r.d with
 |.int i=>if i.natAbs<1000000000000000000000000 then some (.cl (.str (toString i))) else none
 |.str x=>if x.length≤100000 then some (.cl (.str x)) else none
 |_=>none
theorem zaf8 (ha:PE X a (dE X.K F fa)):PE X (.FormattedValue a (-1) none pos) (dE X.K F (d1 kFmt fa)):=by
 intro pins s σ H Q I h
 obtain⟨A,t,r,R,e,h⟩:=h
 unfold d1 at e
 cases e1:fa t with
 |none=>rw [e1]at e;cases e
 |some r1 =>
  rw [e1]at e
  have e:kFmt r1=some r:=e
  refine FormattedValue_plain (thn (ha pins s σ H (fun v H1=>Same H H1∧RepEv X.K F A H H1 r1 v) I ⟨A,t,r1,R,e1,fun v H1 gs q=>⟨gs,q⟩⟩) fun v s1 ⟨y,H1,I1,rv,gs,q⟩=>?_)
  have p:=q.full
  unfold kFmt at e
  split at e
  ·rename_i i z
   split at e
   case isFalse=>cases e
   rename_i c
   cases e
   rw [z]at p
   cases zc8 p
   obtain⟨tk,rfl⟩:=rv
   have lg:=zag8 (n:=i.natAbs) (k:=100) (zbh6 c (by decide))
   exact wpAny_formatField_int (by lia) ⟨.str (toString i),H1,I1.tok _,⟨_,rfl⟩,h _ H1 gs (.str _)⟩
  ·rename_i x z
   split at e
   case isFalse=>cases e
   rename_i c
   cases e
   rw [z]at p
   cases zi6 p
   obtain⟨tk,rfl⟩:=rv
   exact wpAny_formatField_str ⟨.str x,H1,I1,⟨_,rfl⟩,h _ H1 gs (.str _)⟩ ⟨.str x,H1,I1.tok _,⟨_,rfl⟩,h _ H1 gs (.str _)⟩ (le_line c)
  ·cases e
theorem Reps.strs {K:zay3}{H:Hp}:∀ns:List Str,Reps K H (ns.map D.str) (ns.map V.str)
 |[]=>.nil
 |n::ns=>.cons (.str n) (Reps.strs ns)
inductive PJs (X:Cx) (F:List Addr):List Expr→List DE→Prop
 |nil:PJs X F [] []
 |cons {a:Expr}{fa:DE}{es:List Expr}{fs:List DE}:PE X a (dE X.K F fa)→PJs X F es fs→PJs X F (a::es) (fa::fs)
noncomputable def dJs (t:Th):Str→List DE→Option Str
 |acc,[]=>if acc.length≤100000 then some acc else none
 |acc,f::fs=>match f t with
  |some r=>(match r.d with
   |.str y=>if (acc++y).length≤100000 then dJs t (acc++y) fs else none
   |_=>none)
  |none=>none
def zi7 (fs:List DE):DE:=fun t=>(dJs t Str.empty fs).map fun z=>.cl (.str z)
theorem zau0 {A:List Addr}{t:Th}{σ:L2.St}{pins:List (Addr×Obj)}{H0:Hp}{z:Str}{Q:VK} (R:RS X.K F H0 A t σ) (h:∀H',Same H0 H'→Q (.str z) H') :
  ∀ {es:List Expr}{fs:List DE},PJs X F es fs→∀(acc:Str) (H:Hp) (s:zaz5),L2.Inv X pins σ H s→Same H0 H→dJs t acc fs=some z→wpAny (model X.prog X.w) X.A (joinParts acc (evalEach es X.env)) (EP X pins σ Q) X.xe s:=by
 intro es fs p
 induction p with
 |nil =>
  intro acc H s I gs e
  unfold dJs at e
  split at e
  case isFalse=>cases e
  rename_i c
  cases e
  exact wpAny_mkStr ⟨.str _,H,I.tok _,⟨_,rfl⟩,h H gs⟩ (le_line c)
 |@cons a fa es fs ha _ ih =>
  intro acc H s I gs e
  unfold dJs at e
  split at e
  case h_2=>cases e
  rename_i r e1
  refine joinParts_cons (thn (ha pins s σ H (fun v H1=>Same H0 H1∧∃y,r.d=.str y∧v=.str y) I ⟨A,t,r,R.grow gs,e1,fun v H1 g1 q=>?_⟩) fun v s1 ⟨y,H1,I1,rv,g1,w,ew,ey⟩=>?_)
  ·split at e
   case h_2=>cases e
   rename_i y z'
   have p:=q.full
   rw [z']at p
   exact⟨gs.trans g1,y,z',zi6 p⟩
  ·rw [ew]at e
   simp only at e
   split at e
   case isFalse=>cases e
   rename_i c
   subst ey
   obtain⟨tk,rfl⟩:=rv
   exact⟨le_line c,ih _ H1 s1 I1 g1 e⟩
theorem zu9 {es:List Expr} (p:PJs X F (a::b::es) fs):PE X (.JoinedStr (a::b::es) pos) (dE X.K F (zi7 fs)):=by
 intro pins s σ H Q I h
 obtain⟨A,t,r,R,e,h⟩:=h
 unfold zi7 at e
 cases e1:dJs t Str.empty fs with
 |none=>rw [e1]at e;cases e
 |some z =>
  rw [e1]at e
  cases e
  exact JoinedStr_many (zau0 R (fun H' gs=>h _ H' gs (.str _)) p Str.empty H s I (Same.refl H) e1)
noncomputable def zq5:Ev→Ev→Option Ev:=fun r1 r2=>match r1.d,r2.d with
 |.str x,.str y=>if decide (y.length≠0∧x.length≤100000∧(Txt.split x y).length≤100000) then some (.nw ((Txt.split x y).map D.str)) else none
 |_,_=>none
noncomputable def rSplit:V→List V→Hp→VK→Prop:=fun x xs H Q => ∃y z,x=.str y∧xs=[.str z]∧z.length≠0∧y.length≤100000∧(Txt.split y z).length≤100000∧∀l,H l=none→Q (.ref l) (upd H l (.lst ((Txt.split y z).map V.str)))
theorem zu6:∀(l:List (Str×Tok)),Vals ((l.map (·.1)).map V.str) (strValues l)
 |[]=>.nil
 |(x,t)::l=>.cons ⟨t,rfl⟩ (zu6 l)
theorem mt_split:MtR X "str.split" rSplit:=by
 intro pins s σ H x xs v us Q I rx rs h
 obtain⟨y,z,rfl,rfl,hz,hy,hn,q⟩:=h
 obtain⟨t,rfl⟩:=rx
 obtain⟨u,rfl,ru⟩:=Vals.one rs
 obtain⟨t',rfl⟩:=ru
 have hz':(z.length == 0)=false:=by simpa using hz
 have fin:∀(l:List (Str×Tok)) (k:Nat),l.map (·.1)=Txt.split y z→EP X pins σ Q (.ref s.heap.objs.size) { s with heap:=s.heap.push { cls:=.type "list",data:=.seq (strValues l).toArray },toks:=k }:=by
  intro l k hl
  have hf:=I.hok.fresh (a:=s.heap.objs.size) (zaz7 _)
  refine⟨.ref s.heap.objs.size,_,I.laid (o:=HO.lst ((Txt.split y z).map V.str)) (t':=k) (fun b u e=>zay7 _ e) (zaz7 _) ⟨le_line (by simpa using hn),strValues l,0,?_,zba8 _ rfl⟩,rfl,q _ hf⟩
  rw [← hl]
  exact zu6 l
 have only:=fun (e:Txt.split y z=[y])=>fin [(y,t)] s.toks e.symm
 by_cases h1:(decide (y.length<z.length)||decide (strKind y<strKind z))=true
 ·exact call_meets F.slot_str_split (typeIs_str _ _ _) F.entry_str_split (F.args_str_split_2 _ _) (meets_str_split_cannot_occur y z t t' h1) (only (if_pos h1))
 have h1':=zbo6.mpr h1
 by_cases h2:(occurrences y z 0 y.length (y.length+1)).isEmpty=true
 ·exact call_meets F.slot_str_split (typeIs_str _ _ _) F.entry_str_split (F.args_str_split_2 _ _) (meets_str_split_not_found y z t t' h1' hz' h2) (only ((if_neg h1).trans (if_pos h2)))
 have h2':=zbo6.mpr h2
 have es:Txt.split y z=partsBetween y (occurrences y z 0 y.length (y.length+1)) z.length:=(if_neg h1).trans (if_neg h2)
 refine call_meets F.slot_str_split (typeIs_str _ _ _) F.entry_str_split (F.args_str_split_2 _ _) (meets_str_split_sep y z t t' h1' hz' h2' (le_line hy) (by rw [← es];exact le_line hn)) ?_
 show EP X pins σ Q _ _
 rw [strsFrom_eq]
 exact fin (numbered s.toks _) _ ((numbered_texts _ _).trans es.symm)
theorem zaa6 {apos cpos:Pos} (ha:PE X a (dE X.K F fa)) (hb:PE X b (dE X.K F fb)) (hst:zba7 [b] X.env=[(false,eval b X.env)]:=by rfl)
  (hbase:attributeBase a "split" X.env (eval a X.env)=eval a X.env:=by rfl)
  (hfew:((zbf6 cpos (zba7 [b] X.env)).all (fun x=>!x.1)&&(backToKw cpos (keywordEach [] X.env)).all (fun x=>x.1.isSome)
   && decide ([b].length+([]:List Keyword).length+(if ([]:List Keyword).isEmpty then 0 else 1)<30))=true:=by rfl)
  (hline:(apos.endLine == cpos.line)=true:=by rfl) (hplain:(zbf6 cpos (zba7 [] X.env)).any (·.1)=false:=by rfl):PE X (.Call (.Attribute a "split" apos) [b] [] cpos) (dE X.K F (d2 zq5 fa fb)):=by
 refine PE.imp (pe_bm zbi1 PySem.F.slot_str_split PySem.F.type_str_split mt_split ha (zh4 hb zm3 hst) hbase hfew hline hst hplain) ?_
 intro σ H Q h
 obtain⟨A,t,r1,r2,r,R,e1,e2,e,h,w⟩:=two h
 unfold zq5 at e
 split at e
 case h_2=>cases e
 rename_i x y z1 z2
 split at e
 case isFalse=>cases e
 rename_i c
 rw [decide_eq_true_eq]at c
 cases e
 refine⟨A,t,r1,R,e1,fun u H1 gs q=>?_⟩
 have p:=q.full
 rw [z1]at p
 cases zi6 p
 refine⟨rfl,A,t,r2,R.grow gs,e2,fun u2 H2 gs2 q2=>?_⟩
 have p2:=q2.full
 rw [z2]at p2
 cases zi6 p2
 have g12:=gs.trans gs2
 exact⟨x,y,rfl,rfl,c.1,c.2.1,c.2.2,fun l hl=>h _ _ (g12.trans (zc2 hl)) ⟨l,_,rfl,Same.free g12 hl,zb3,Reps.strs _⟩⟩
end
end DL
namespace L2
open PySem.Spec
open AutoSeq1 (wpAny_loadPart')
def stKw (k:Int) (tk:Tok):List (Str×Value):=[(Str.ofString "start",.int k tk)]
theorem init_kw {T nid:String}{me a0:Value}{kk:List (Str×Value)} (h1:typeLookup (.type T) "__init__"=pure (some (.builtin "object.__init__")))
  (h2:Bind.madeBy (.type T)=pure (some nid)) (h3:(some nid != some "object.__new__")=true) :
  Meets (Builtin.«object.__init__» ⟨[me,a0],kk⟩) (fun _ R s=>s.TypeIs me T∧R (.ok (.ret .none)) s):=by
 refine Meets.of_wp fun prog w A R s hs=>?_
 obtain⟨hT,hq⟩:=hs
 repeat (any_goals (first | assumption | wp_step))
 exact⟨_,rfl,hq⟩
theorem tcall_st (a:Value) (k:Int) (tk:Tok):checkTypeCall "enumerate" ⟨[a],stKw k tk⟩=pure ():=by kernel_rfl
theorem ncall_st (a:Value) (k:Int) (tk:Tok):checkBuiltinCall "enumerate.__new__" ⟨[.type "enumerate",a],stKw k tk⟩=pure ():=by kernel_rfl
theorem zae2 (a b:Value) (k:Int) (tk:Tok):argsOk "object.__init__" ⟨[a,b],stKw k tk⟩:=by
 unfold argsOk
 rw [signature?_of (id := "object.__init__") (n := "__tini__".toList) (o := "tcejbo".toList) (by kernel_rfl) PySem.F.owner_object]
 kernel_rfl
theorem new_st (l:Addr) (its:Array Value) (n:Nat) (dct:Option Addr) (sl:Array (Option Value)) (tk:Tok) :
  Meets (Builtin.«enumerate.__new__» ⟨[.type "enumerate",.ref l],stKw 1 tk⟩) (fun _ R s=>s.heap.get? l=some { cls:=.type "list",dict:=dct,data:=.seq its n,slots:=sl } ∧
   R (.ok (.ret (.ref (s.heap.push { cls:=.type "list_iterator",data:=.fields #[.ref l,.int 0 0] }).objs.size)))
    { s with heap:=(s.heap.push { cls:=.type "list_iterator",data:=.fields #[.ref l,.int 0 0] }).push { cls:=.type "enumerate",data:=.fields #[.none,.bool false,.ref s.heap.objs.size,rawInt 1,.none,.none] } }) :=
 .of_wp fun prog w A R s h=>by
  obtain⟨hp,g,d,tt,os⟩:=s;obtain⟨hl,h⟩:=h
  have hsub:=sub_enumerate
  have hL:Heap.IsList (Shared.heap ⟨hp,g,d,tt,os⟩) l its:=⟨_,hl,rfl,n,rfl⟩
  unfold stKw
  wp_walk using wpAny_loadPart' hl
  refine wpAny_stack_any fun st=>zba0 ?_
  split
  ·rename_i c _ _ _ _ _
   cases (c == Value.type "enumerate")
   ·wp_walk using wpAny_loadPart' hl,wpAny_pyIter_list hL
    exact⟨_,rfl,h⟩
   ·wp_walk using wpAny_loadPart' hl,wpAny_pyIter_list hL
    exact⟨_,rfl,h⟩
  ·wp_walk using wpAny_loadPart' hl,wpAny_pyIter_list hL
   exact⟨_,rfl,h⟩
section
variable {prog:Program}{w:World}{A:Around}{E:Value→zaz5→Prop}{s:zaz5}
theorem call_tkw {T nid:String}{Bn:Builtin}{a0:Value}{kk:List (Str×Value)}{S:PySem.Spec}{Q:Value→zaz5→Prop} (tc:TypeCalled T nid "object.__init__") (hne:(some nid != some "object.__new__")=true)
  (k1:checkTypeCall T ⟨[a0],kk⟩=pure ()) (k2:checkBuiltinCall nid ⟨[.type T,a0],kk⟩=pure ()) (k3:∀me,argsOk "object.__init__" ⟨[me,a0],kk⟩) (k4:entryFor table nid=some Bn)
  (g:Meets (Bn ⟨[.type T,a0],kk⟩) S) (h:S A.in1 (wants (fun ob s1=>s1.TypeIs ob T∧Q ob s1) E) s):wpAny (model prog w) A (call (.type T) [a0] kk) Q E s:=by
 have ⟨c0,tl0,mro0⟩:=tc.mro
 have made0:=tc.made
 have sub0:=tc.sub
 have nt0:=tc.notType
 have cc0:=tc.canCreate
 refine wpAny_call (codeAny_of_tree ?_)
 show wpAny _ _ (callAny (.type T) _) _ _ s
 refine zba0 ⟨Code.quiet_builtin _ (by decide +kernel),?_⟩
 refine codeAny_builtin F.entry_type_call ?_
 rw [Around.under_plain (weight_type_call_type T [a0] kk) (units_type_call_type T [a0] kk)]
 repeat (any_goals (first | assumption | wp_step))
 refine codeAny_mono (codeAny_call_builtin tc.plain k4 (wpAny_of_eq k2 (g prog w A.in1 _ s h))) fun r1 s1 hr=>?_
 match r1,hr with
 |.error e,hr=>exact hr
 |.ok (.ret ob),hr =>
  obtain⟨hT,hq⟩:=hr
  have li0:=tc.init.lookup
  have bi0:=tc.init.bind ob
  repeat (any_goals (first | assumption | wp_step))
  refine codeAny_mono (codeAny_call_builtin tc.init.plain F.entry_object_init (tc.init.check _ _ _ _ _ _ _ _ hT (k3 ob) (init_kw li0 tc.made hne prog w A.in1 (wants (fun r s2=>r=.none∧Q ob s2) E) s1 ⟨hT,rfl,hq⟩))) fun r2 s2 hr2=>?_
  match r2,hr2 with
  |.error e,hr2=>exact hr2
  |.ok (.ret r),hr2 =>
   obtain⟨e0,hq⟩:=hr2
   subst e0
   repeat (any_goals (first | assumption | wp_step))
theorem call_st {l:Addr}{its:Array Value}{tk:Tok}{Q:Value→zaz5→Prop} (hL:s.heap.IsList l its)
  (h:∀h',IsEnum h' (s.heap.objs.size+1) s.heap.objs.size 1 .none→h'.IsListIter s.heap.objs.size l 0→(∀b o,s.heap.get? b=some o→h'.get? b=some o)→Q (.ref (s.heap.objs.size+1)) { s with heap:=h' }) :
  wpAny (model prog w) A (call (.type "enumerate") [.ref l] (stKw 1 tk)) Q E s:=by
 obtain⟨⟨c,dct,dt,sl⟩,hl,hc,n,hd⟩:=hL
 simp only at hc hd
 subst hc hd
 refine call_tkw F.called_enumerate (by decide) (tcall_st _ 1 tk) (ncall_st _ 1 tk) (fun me=>zae2 me _ 1 tk) F.entry_enumerate_new (new_st l its n dct sl tk) ⟨hl,?_⟩
 let o1:Obj:={ cls:=.type "list_iterator",data:=.fields #[.ref l,.int 0 0] }
 let o2:Obj:={ cls:=.type "enumerate",data:=.fields #[.none,.bool false,.ref s.heap.objs.size,rawInt 1,.none,.none] }
 have hz:(s.heap.push o1).objs.size=s.heap.objs.size+1:=zbi9 ..
 have he:((s.heap.push o1).push o2).get? (s.heap.objs.size+1)=some o2:=by
  rw [← hz];exact zba8 (s.heap.push o1) (o:=o2) rfl
 show _∧Q (.ref (s.heap.push o1).objs.size) _
 rw [hz]
 refine⟨⟨o2,?_,rfl⟩,h _ he ⟨_,zay7 _ (zba8 _ rfl),rfl,rfl⟩ fun b o x=>zay7 _ (zay7 _ x)⟩
 exact he
end
end L2
namespace L2
open PySem.Spec
def StS (it l:Addr) (its:Array Value) (j:Nat) (h:Heap):Prop := ∃i,j=i+1∧h.IsListIter it l i∧h.IsList l its
theorem drawsS {prog:Program}{w:World}{A:Around}{it l:Addr}{its:Array Value} (hh:A.handled=none) (ne:l≠it) :
  Draws prog w A it [it,l] (its.size+1) (fun j x=>its[j - 1]?=some x) (StS it l its) where
 live:=fun j h ⟨i,_,⟨o,ho,_⟩,_⟩=>⟨o,ho⟩
 frame:=fun j h h' ⟨i,e,h1,h2⟩ kk=>⟨i,e,h1.at fun o q=>kk it (by simp) o q,h2.at fun o q=>kk l (by simp) o q⟩
 item:=fun j s Q E hj st hQ=>by
  obtain⟨i,rfl,h1,h2⟩:=st
  have hi:i<its.size:=by lia
  refine wpAny_nextOf_list_item h1 h2 (x:=its[i]) (zbf3 hi) fun h' it' sb=>?_
  exact hQ _ h' s.toks (zbf3 hi) ⟨i+1,rfl,it',h2.at fun o q=>(sb.2 l ne).trans q⟩ sb
 done:=fun s Q E st hE=>by
  obtain⟨i,e,h1,h2⟩:=st
  exact wpAny_nextOf_list_end hh h1 h2 (zbi2 (by lia)) hE
theorem drawsE {prog:Program}{w:World}{A:Around}{it l:Addr}{its:Array Value}{i:Nat} (hh:A.handled=none) (ne:l≠it) (hi:its.size≤i) :
  Draws prog w A it [it,l] (i+1) (fun _ _=>True) (fun j h=>j=i+1∧h.IsListIter it l i∧h.IsList l its) where
 live:=fun j h ⟨_,⟨o,ho,_⟩,_⟩=>⟨o,ho⟩
 frame:=fun j h h' ⟨e,h1,h2⟩ kk=>⟨e,h1.at fun o q=>kk it (by simp) o q,h2.at fun o q=>kk l (by simp) o q⟩
 item:=fun j s Q E hj st hQ=>by
  obtain⟨rfl,h1,h2⟩:=st
  exact absurd hj (zbd1 _)
 done:=fun s Q E st hE=>by
  obtain⟨_,h1,h2⟩:=st
  exact wpAny_nextOf_list_end hh h1 h2 (zbi2 hi) hE
theorem hd1 {A:Around} (h:A.handled=none):A.in1.handled=none:=h
theorem apartS {h:Heap}{a e it:Addr}{i:Nat}{k:Int}{old:Value}{its:Array Value} (h0:h.IsList a its) (h1:IsEnum h e it k old) (h2:h.IsListIter it a i):a≠e∧a≠it:=by
 obtain⟨o,e0,c0,_⟩:=h0
 obtain⟨o2,e2,c2,_⟩:=h2
 constructor
 ·intro z
  subst z
  rw [show h.get? a=_ from h1]at e0
  cases e0
  exact absurd c0 (by simp)
 ·intro z
  subst z
  rw [e2]at e0
  cases e0
  rw [c2]at c0
  exact absurd c0 (by simp)
noncomputable def IteS (K:zay3) (a:Addr):It :=
 ⟨fun i H => ∃xs x,SqL K H a xs∧xs[i]?=some x,fun i H x H' => ∃p v,H p=none∧x=.ref p∧H'=upd H p (.tup [.int ((i+1:Nat):Int),v])∧∀xs,SqL K H a xs→xs[i]?=some v,fun i H => ∃xs,SqL K H a xs∧xs.length≤i⟩
def zay2 (e it a:Addr) (i:Nat) (h:Heap):Prop:=(∃old,IsEnum h e it ((i+1:Nat):Int) old)∧h.IsListIter it a i∧e≠it
theorem zam4 {P:Program}{w:World}{K:zay3}{elts:List Expr}{k:Nat}{pos:Pos} (a e it:Addr):Turn P w K (.Tuple elts k pos) (IteS K a) [e,it] e (zay2 e it a) where
 mem:=by simp
 obj:=fun i h st b hb=>by
  obtain⟨⟨old,h1⟩,h2,_⟩:=st
  rcases (by simpa using hb:b=e∨b=it) with rfl | rfl
  ·exact⟨_,h1,fun v z=>by cases z⟩
  ·obtain⟨o,e1,c,d⟩:=h2
   exact⟨o,e1,fun v z=>by rw [d]at z;cases z⟩
 keep:=fun i h h' st kk=>by
  obtain⟨⟨old,h1⟩,h2,ne⟩:=st
  exact⟨⟨old,kk e (by simp) _ h1⟩,h2.at fun o q=>kk it (by simp) o q,ne⟩
 item:=by
  intro X hP hw hK hc i pins s σ H E I hf st hg
  subst hP hw hK
  obtain⟨xs,x,hq,hx⟩:=hg
  obtain⟨its,rv,p,hz⟩:=I.list hq
  obtain⟨u,hu,ru⟩:=rv.get hx
  obtain⟨⟨old,h1⟩,h2,ne⟩:=st
  have na:=apartS p.isList h1 h2
  have hil:i<its.toArray.size:=by
   have:=zbb8.mp hu
   simpa using this.1
  refine wpAny_pyNext_enum_itemD (drawsS (hd1 (I.ok.hd hc)) na.2) h1 ⟨i,rfl,h2,p.isList⟩ (by lia) ne (by simp [ne,na.1.symm]) fun y h1' tk hy heo hst ht1 hz1 hk1=>?_
  have ey:y=u:=by
   simp only [zbn7]at hy
   rw [show its.toArray[i]?=its[i]? by simp,hu]at hy
   exact (Option.some.inj hy).symm
  subst ey
  refine⟨_,rfl,wpAny_letOwnedTupleGo_enum heo fun h2' he2 hs2=>?_⟩
  replace hs2:Heap.SameBut e h1' h2':=hs2
  have es:e<s.heap.objs.size:=zaz9 h1
  have kp:∀b o,b∉[e,it]→s.heap.get? b=some o→h2'.get? b=some o:=fun b o nb q=>by
   have n1:b≠e:=fun z=>nb (by simp [z])
   have n2:b≠it:=fun z=>nb (by simp [z])
   exact (hs2.2 b n1).trans (hk1 b o n1 n2 q)
  have ht2:=(hs2.2 _ (zbh5 es)).trans ht1
  have I2:Inv X pins σ (upd H s.heap.objs.size (.tup [.int ((i+1:Nat):Int),x])) { s with heap:=h2',toks:=tk+1 }:=I.turnedNew (t':=tk+1) kp hf (zaz7 _)
   ⟨by show 2≤sizeLine;decide,[.int ((i+1:Nat):Int) tk,y],.cons ⟨_,rfl⟩ (.cons ru .nil),⟨_,ht2,rfl,_,rfl⟩⟩
  obtain⟨i',ei,hit1,_⟩:=hst
  have ei:i'=i+1:=by lia
  subst ei
  refine⟨.ref s.heap.objs.size,_,I2,rfl,⟨s.heap.objs.size,x,I.hok.fresh (zaz7 _),rfl,rfl,fun ys hy=>by rw [I.list_inj hy hq];exact hx⟩,⟨⟨y,?_⟩,?_,ne⟩,fun b hb=>?_⟩
  ·exact he2
  ·exact hit1.extBut hs2.extBut (Ne.symm ne)
  ·rw [zb5 (fun z=>?_)]
   ·exact (hf b hb).1
   ·rcases (by simpa using hb:b=e∨b=it) with w' |w'
    ·rw [← z,w']at es;exact absurd es (zbd1 _)
    ·obtain⟨o,e1,_⟩:=h2
     have:=zaz9 e1
     rw [← w',z]at this;exact absurd this (zbd1 _)
 done:=by
  intro X hP hw hK hc i pins s σ H E I hf st hg
  subst hP hw hK
  obtain⟨xs,hq,hx⟩:=hg
  obtain⟨its,rv,p,hz⟩:=I.list hq
  obtain⟨⟨old,h1⟩,h2,ne⟩:=st
  have hl:=rv.length
  have na:=apartS p.isList h1 h2
  refine wpAny_pyNext_enum_endD (drawsE (i:=i) (its:=its.toArray) (hd1 (I.ok.hd hc)) na.2 (by simp;lia)) h1 ⟨rfl,h2,p.isList⟩ fun h' eb=>⟨rfl,I.turnedL (t':=s.toks) (fun b o nb q=>eb b o (fun z=>nb (by simp [z])) q) hf⟩
 self:=fun _ _ _ _ _ st h=>by
  obtain⟨⟨old,h1⟩,_,_⟩:=st
  exact wpAny_pyIter_enum h1 h
def iEnumS (K:zay3) (tl:TE):TI:=fun σ H R=>tl σ H fun x H1 => ∃a,x=.ref a∧(∃xs,SqL K H1 a xs)∧R (IteS K a) H1
theorem zad5 {M:Model}{A:Around}{E:Value→zaz5→Prop}{s:zaz5}{env:Env}{pos:Pos}{T:String}{e:Expr}{rest:List Expr}{kws:List Keyword}{Q:Value→zaz5→Prop}
  (h:wpAny M A (spliced (zbf6 pos (zba7 (e::rest) env))) (fun vs s1=>wpAny M A (evalAll ((backToKw pos (keywordEach kws env)).map (·.2)))
   (fun kvs s2=>wpAny M A (call (.type T) vs (((backToKw pos (keywordEach kws env)).filterMap (·.1)).zip kvs)) Q E s2) E s1) E s)
  (he:zbf6 pos (zba7 (e::rest) env)=(false,eval e env)::zbf6 pos (zba7 rest env):=by rfl)
  (h1:(zbf6 pos (zba7 (e::rest) env)).any (·.1)=false:=by rfl)
  (h2:(backToKw pos (keywordEach kws env)).all (·.1.isSome)=true:=by rfl)
  (h3:(backToKw pos (keywordEach kws env)).any (·.1.isNone)=false:=by rfl) :
  wpAny M A (callWith pos (.type T) [] (zbf6 pos (zba7 (e::rest) env)) (backToKw pos (keywordEach kws env))) Q E s:=by
 unfold callWith
 have g:wpAny M A (evalArgs (.type T) true (zbf6 pos (zba7 (e::rest) env)) (backToKw pos (keywordEach kws env))) (fun a s1=>wpAny M A (call (.type T) ([]++a.pos) a.kw) Q E s1) E s:=by
  rw [he]at h ⊢
  exact evalArgs_kwB h2 h
 refine zay9 (wpAny_holding (wpAny_mono g (fun a s1 g1=>zay9 (wpAny_standAt ?_)) fun _ _ x=>x))
 simp only [h1,h3,zbn8]
 refine zay9 (zba0 ?_)
 exact zay9 (wpAny_mono g1 (fun r s2 hr=>zay9 (wpAny_holding (wpAny_point (zba0 hr)))) fun _ _ x=>x)
theorem pi_enumS {X:Cx}{l:Expr}{tl:TE}{elts:List Expr}{k:Nat}{tp p pos kp kp2:Pos}{j} (hg:Gl X "enumerate") (hm:X.mg "enumerate"=none) (hl:PE X l tl) (hs:zba7 [l] X.env=[(false,eval l X.env)]:=by rfl)
  (he:zbf6 pos (zba7 [l] X.env)=(false,eval l X.env)::zbf6 pos (zba7 [] X.env):=by rfl) (hplain:(zbf6 pos (zba7 [l] X.env)).any (·.1)=false:=by rfl)
  (hall:(backToKw pos (keywordEach [⟨some "start",.Constant (.int 1) j kp2,kp⟩] X.env)).all (·.1.isSome)=true:=by rfl) (hkw:(backToKw pos (keywordEach [⟨some "start",.Constant (.int 1) j kp2,kp⟩] X.env)).any (·.1.isNone)=false:=by rfl) :
  PI X (.Tuple elts k tp) (.Call (.Name "enumerate" p) [l] [⟨some "start",.Constant (.int 1) j kp2,kp⟩] pos) (iEnumS X.K tl):=by
 intro pins s σ H R I h
 refine wpAny_Call_Name_kw (zs2 I hg hm zax4 (zad5 (env:=X.env) ?_ he hplain hall hkw))
 refine thn ((zh4 hl zm3 hs) pos pins s σ H (fun vs H1=>match vs with | [x] => ∃a,x=.ref a∧(∃xs,SqL X.K H1 a xs)∧R (IteS X.K a) H1 | _=>False) I h) fun us s1 ⟨vs,H1,I1,r1,q1⟩=>?_
 cases r1 with
 |nil=>exact q1.elim
 |@cons x u xr ur ru rr =>
  cases rr with
  |cons _ _=>exact q1.elim
  |nil =>
  obtain⟨a,rfl,⟨xs,hq⟩,q⟩:=q1
  cases ru
  obtain⟨its,rv,p,hz⟩:=I1.list hq
  refine kws_cons (wpAny_Constant_int (kws_nil ?_))
  have I1':Inv X pins σ H1 { s1 with toks:=s1.toks+1 }:=I1.tok _
  refine call_st (s:={ s1 with toks:=s1.toks+1 }) p.isList fun h' he hit hk=>?_
  have I2:Inv X pins σ H1 { s1 with heap:=h',toks:=s1.toks+1 }:=I1'.kept (t':=s1.toks+1) hk
  refine wpAny_pyIter_enum he ?_
  refine⟨s1.heap.objs.size+1,[s1.heap.objs.size+1,s1.heap.objs.size],zay2 (s1.heap.objs.size+1) s1.heap.objs.size a,IteS X.K a,H1,rfl,I2,zam4 a _ _,⟨⟨_,he⟩,hit,Nat.succ_ne_self _⟩,fun b hb=>?_,q⟩
  rcases (by simpa using hb:b=s1.heap.objs.size+1∨b=s1.heap.objs.size) with rfl | rfl
  ·exact I1.fpOk (zbn6 _) (I1.hok.fresh (zbn6 _))
  ·exact I1.fpOk (zaz7 _) (I1.hok.fresh (zaz7 _))
end L2
namespace DL
open PySem.Spec L2
section
variable {X:Cx}{F:List Addr}{a b c:Expr}{es:List Expr}{fa fb fc:DE}{g g1 g2:DS}{pos:Pos}{gt:TG}{kt:D→Th→Option Th}
noncomputable def zac9 (k:D→Th→Option Th) (f:DE) (body:DS):DS:=fun t=>(f t).bind fun r=>match r.d with
 |.lst ds=>if r.ok then forD k body (zp9 1 ds) t else none
 |_=>none
theorem zar2 {body:List Stmt}{elts:List Expr}{kk:Nat}{tp p1 p2 kp kp2:Pos}{j} (hp:PassesOwn (model X.prog X.w) X.A X.env X.xe) (hc:X.calm=true) (hge:Gl X "enumerate") (hm:X.mg "enumerate"=none) (hl:PE X a (dE X.K F fa)) (hg:PG X (.Tuple elts kk tp) gt) (ht:TgOk X.K F gt kt) (hb:PSs X body (dS X.K F g))
  (hst:zba7 [a] X.env=[(false,eval a X.env)]:=by rfl) (he:zbf6 p2 (zba7 [a] X.env)=(false,eval a X.env)::zbf6 p2 (zba7 [] X.env):=by rfl) (hplain:(zbf6 p2 (zba7 [a] X.env)).any (·.1)=false:=by rfl)
  (hall:(backToKw p2 (keywordEach [⟨some "start",.Constant (.int 1) j kp2,kp⟩] X.env)).all (·.1.isSome)=true:=by rfl) (hkw:(backToKw p2 (keywordEach [⟨some "start",.Constant (.int 1) j kp2,kp⟩] X.env)).any (·.1.isNone)=false:=by rfl)
  (hs:∀x,foldedSetIterable (.Call (.Name "enumerate" p1) [a] [⟨some "start",.Constant (.int 1) j kp2,kp⟩] p2) X.env x=pure x:=by intro _;rfl) :
  PS X (.For (.Tuple elts kk tp) (.Call (.Name "enumerate" p1) [a] [⟨some "start",.Constant (.int 1) j kp2,kp⟩] p2) body [] pos) (dS X.K F (zac9 kt fa g)):=by
 refine PS.imp (zaj6 hp hc (pi_enumS hge hm hl hst he hplain hall hkw) hg hb hs) ?_
 intro E σ H hh
 obtain⟨A,t,o,R,e,h⟩:=zav9 hh
 unfold zac9 at e
 cases e1:fa t with
 |none=>rw [e1]at e;cases e
 |some r =>
  rw [e1]at e
  refine⟨A,t,r,R,e1,fun v H1 gs q=>?_⟩
  have e:(match r.d with
   |.lst ds=>if r.ok then forD kt g (zp9 1 ds) t else none
   |_=>none)=some o:=e
  split at e
  case h_2=>cases e
  rename_i ds z
  split at e
  case isFalse=>cases e
  rename_i ok
  have cl:=q.clean R.mu gs ok
  rw [z]at cl
  cases cl with
  |@lst _ p vs h1 h2 =>
   refine⟨p,rfl,⟨vs,SqL.mono (za7 _ _) h1⟩,?_⟩
   refine zr0 (fun A H=>SqL X.K (hide (A++F) H) p vs∧Reps X.K (hide (A++F) H) ds vs) ht (R.grow gs) e (h.back (Gr.of_same R.mu.left gs)) ⟨h1,h2⟩ (fun A H A' H' q gr=>⟨SqL.mono gr.same q.1,Reps.mono gr.same q.2⟩)
    (fun A H q=>⟨vs,SqL.mono (za7 _ _) q.1,by rw [h2.length,zh8];exact zaz7 _⟩) (fun A H i q hi=>?_) (fun A H i x H' q mu y hi=>?_)
   ·have hi':i<vs.length:=by rw [h2.length];rw [zh8]at hi;exact hi
    exact⟨vs,vs[i],SqL.mono (za7 _ _) q.1,zaz1 hi'⟩
   ·obtain⟨l,v,hl0,rfl,rfl,hv⟩:=y
    have zz:=hv vs (SqL.mono (za7 _ _) q.1)
    obtain⟨d,hd,rd⟩:=q.2.getV zz
    have sm:=zc2 (o:=HO.tup [.int ((i+1:Nat):Int),v]) hl0
    have ee:=zt0 1 ds i d hd
    rw [Nat.add_comm]at ee
    exact⟨sm,_,ee,.tup (SqT.of (zb1 zb3 (zc1 mu hl0))) (.cons (.int _) (.cons (Rep.mono (zc3 sm) rd) .nil))⟩
end
end DL
namespace KX
open PySem.Spec L2 DL
abbrev qA:=kOr (kI tt2 fun i j=>.int (i+j)) kCat
abbrev qM:=kOr (kI cMul fun i j=>.int (i*j)) kRep
abbrev qV:=kI cDiv fun i j=>.int (i.fdiv j)
abbrev qR:=kI cMod fun i j=>.int (i.fmod j)
abbrev qL:=kI tt2 fun i j=>.bl (decide (i<j))
abbrev qE:=kI tt2 fun i j=>.bl (decide (i≤j))
abbrev qH:=kI tt2 fun i j=>.bl (decide (j≤i))
theorem bnd_big:1000000000000000000000000000000000000≤bndS:=by
 have:(2:Nat) ^ 120≤2 ^ 1048576:=zbh0 (by decide) (by decide)
 unfold bndS
 exact zbd7 (by decide) this
theorem app_of (t:Th) {f:DE}{i:Nat}{xs:List D}{d:D} (hf:f t=some (.cl d)) (hi:t[i]?=some (.own xs)) (hl:xs.length<100000):dApp i f t=some (.nx (t.set i (.own (xs++[d])))):=by
 unfold dApp
 rw [hf]
 simp only [zaz3,kApp,hi,Ev.ok,Ev.d,hl,decide_true,Bool.and_self,if_true]
theorem asg_of (t:Th) {f:DE}{i:Nat}{d:D} (hf:f t=some (.cl d)) (hi:i<t.length):dAsg i f t=some (.nx (t.set i (.val d))):=by
 unfold dAsg
 rw [hf]
 simp only [zaz3,zr4,hi,if_true,zbf7]
theorem zr3 {k:List Ev→Option Ev}{fa fb:DE}{t:Th}{ra rb:Ev} (h1:fa t=some ra) (h2:fb t=some rb):dT1 k (za2 fa (za2 fb dNil)) t=k [ra,rb]:=by
 simp [dT1,za2,dNil,h1,h2]
theorem zi8 {k:Ev→Ev→Option Ev}{fa fb:DE}{t:Th}{ra rb:Ev} (h1:fa t=some ra) (h2:fb t=some rb):d2 k fa fb t=k ra rb:=by
 simp [d2,h1,h2]
theorem t3_of {k:List Ev→Option Ev}{fa fb fc:DE}{t:Th}{ra rb rc:Ev} (h1:fa t=some ra) (h2:fb t=some rb) (h3:fc t=some rc):dT1 k (za2 fa (za2 fb (za2 fc dNil))) t=k [ra,rb,rc]:=by
 simp [dT1,za2,dNil,h1,h2,h3]
theorem zo7 {k:List Ev→Option Ev}{fa:DE}{t:Th}{ra:Ev} (h1:fa t=some ra):dT1 k (za2 fa dNil) t=k [ra]:=by
 simp [dT1,za2,dNil,h1]
theorem zj0 {t:Th}{f:DE}{i:Nat}{d:D} (hf:f t=some (.cl d)) (hi:i<t.length):dAsg i f t=some (.nx (t.set i (.val d))):=asg_of t hf hi
theorem zv9 {t:Th}{f:DE}{i:Nat}{xs:List D} (hf:f t=some (.nw xs)) (hi:i<t.length):dAsg i f t=some (.nx (t.set i (.own xs))):=by
 unfold dAsg
 rw [hf]
 simp only [zaz3,zr4,hi,if_true,zbf7]
theorem ix_nat (n b:Nat) (h:b<n):ixN n (b:Int)=some b:=by unfold ixN;rw [if_pos (by lia),if_pos (by lia)];simp
theorem ifs_of {c:DT}{g1 g2:DS}{t:Th}{b:Bool} (h:c t=some b):dIfS c g1 g2 t=if b then g1 t else g2 t:=by
 unfold dIfS;rw [h];rfl
theorem ifs_t {c:DT}{g1 g2:DS}{t:Th}{b:Bool} (h:c t=some b) (hb:b=true):dIfS c g1 g2 t=g1 t:=by
 rw [ifs_of h,hb];rfl
theorem ifs_f {c:DT}{g1 g2:DS}{t:Th}{b:Bool} (h:c t=some b) (hb:b=false):dIfS c g1 g2 t=g2 t:=by
 rw [ifs_of h,hb];rfl
theorem grd {c:DT}{g:DS}{t:Th}{b:Bool} (h:c t=some b) (hb:b=false):dIfS c g ze1 t=some (.nx t):=(ifs_f h hb).trans rfl
theorem bnd {g:Option Out}{r:Ev} (h:g=some (.rt r)):g.bind zi9=some r:=by rw [h];rfl
theorem zm6 {fa fb:DE}{t:Th}{a b:Int} (h1:fa t=some (.cl (.int a))) (h2:fb t=some (.cl (.int b))):(d2 qA fa fb) t=some (.cl (.int (a+b))):=(zi8 h1 h2).trans rfl
theorem zq4 {fa fb:DE}{t:Th}{a b:Int} (h1:fa t=some (.cl (.int a))) (h2:fb t=some (.cl (.int b))) (hb:b≠0):(d2 qR fa fb) t=some (.cl (.int (a.fmod b))):=by
 rw [zi8 h1 h2]
 show (if cMod a b=true then _ else none)=_
 rw [if_pos (by unfold cMod;exact decide_eq_true hb)]
theorem zak7 {fa fb:DE}{t:Th}{a b:Int} (h1:fa t=some (.cl (.int a))) (h2:fb t=some (.cl (.int b))) (hb:b≠0) (hs:sm b=true):(d2 qV fa fb) t=some (.cl (.int (a.fdiv b))):=by
 rw [zi8 h1 h2]
 show (if cDiv a b=true then _ else none)=_
 rw [if_pos (by unfold cDiv;rw [hs];simp [hb])]
theorem zq3 {fa fb:DE}{t:Th}{a b:Int} (h1:fa t=some (.cl (.int a))) (h2:fb t=some (.cl (.int b))) (ha:sm a=true) (hb:sm b=true):(d2 qM fa fb) t=some (.cl (.int (a*b))):=by
 rw [zi8 h1 h2]
 have:cMul a b=true:=by simp only [cMul];rw [ha,hb];rfl
 simp [kOr,kI,Ev.d,this]
theorem eqI_of {fa fb:DE}{t:Th}{a b:Int} (h1:fa t=some (.cl (.int a))) (h2:fb t=some (.cl (.int b))):dBo (d2 kEq fa fb) t=some (decide (a=b)):=by
 unfold dBo;rw [zi8 h1 h2]
 have:kEq (.cl (.int a)) (.cl (.int b))=some (.cl (.bl (eqD (.int a) (.int b)))):=rfl
 rw [this,zav0];rfl
theorem neI_of {fa fb:DE}{t:Th}{a b:Int} (h1:fa t=some (.cl (.int a))) (h2:fb t=some (.cl (.int b))):dBo (d2 kNe fa fb) t=some (!decide (a=b)):=by
 unfold dBo;rw [zi8 h1 h2]
 have:kNe (.cl (.int a)) (.cl (.int b))=some (.cl (.bl (!eqD (.int a) (.int b)))):=rfl
 rw [this,zav0];rfl
theorem or_of {f g:DT}{t:Th}{a b:Bool} (h1:f t=some a) (h2:a=false→g t=some b):dOr f g t=some (a||b):=by
 unfold dOr;rw [h1]
 cases a with
 |true=>rfl
 |false=>simp [h2 rfl]
theorem zk3 {f g:DT}{t:Th}{a b:Bool} (h1:f t=some a) (h2:g t=some b):dOr f g t=some (a||b):=or_of h1 fun _=>h2
theorem zah6 {G:List D→Option Ev}{rs:List Ev}{d:D} (h:G (rs.map Ev.d)=some (.cl d)) (hf:flat d=true):zb2 G rs=some (.cl d):=by
 unfold zb2
 rw [h]
 simp only [zbf7,upEv]
 split
 ·rfl
 ·simp [hf]
theorem cns {f:DE}{g:DA}{t:Th}{r:Ev}{rs:List Ev} (h1:f t=some r) (h2:g t=some rs):za2 f g t=some (r::rs):=by
 unfold za2;rw [h1,h2];rfl
theorem zap3 {f:DE}{t:Th}{b:Bool} (h:f t=some (.cl (.bl b))):dTr f t=some b:=by
 unfold dTr;rw [h];rfl
theorem not_of {f:DT}{t:Th}{b:Bool} (h:f t=some b):dNot f t=some (!b):=by
 unfold dNot;rw [h];rfl
theorem zr5 {f:DE}{t:Th}{r:Ev} (h:f t=some r):dRet f t=some (.rt r):=by
 unfold dRet;rw [h];rfl
theorem for_of {k:D→Th→Option Th}{f:DE}{b:DS}{t:Th}{r:Ev}{ds:List D} (h:f t=some r) (hd:r.d=.lst ds) (ho:r.ok=true):dFor k f b t=forD k b ds t:=by
 unfold dFor
 rw [h]
 simp only [zaz3,hd,ho,if_true]
theorem zaq4 {k0:D→Th→Option Th}{b:DS}{t:Th}{f:DE}{r:Ev}{n:Nat} (h:f t=some r) (hr:r.d=.int (n:Int)) (hn:n≤100000):zao2 k0 f b t=forD k0 b ((zab6 n).map D.int) t:=by
 unfold zao2
 rw [h]
 simp only [zaz3,hr]
 rw [if_pos (by unfold bigI;exact decide_eq_true (by lia)),zbi3]
 congr 1
 unfold rngD zab6
 simp
theorem for_P {k:D→Th→Option Th}{b:DS}{P:Th→Prop}:∀(ds:List D),(∀d∈ds,∀t,P t→∃t1 t2,k d t=some t1∧b t1=some (.nx t2)∧P t2)→∀t,P t→∃t',forD k b ds t=some (.nx t')∧P t'
 |[],_,t,h=>⟨t,rfl,h⟩
 |d::ds,hd,t,h=>by
  obtain⟨t1,t2,e1,e2,h2⟩:=hd d (zaz0 ..) t h
  obtain⟨t',e,h'⟩:=for_P ds (fun d' hd'=>hd d' (zay5 _ hd')) t2 h2
  exact⟨t',by simp only [forD,e1,e2,zaz3];exact e,h'⟩
def stG (W:Int→Int) (b x:Int):Int:=if W b<W x then x else b
theorem zax6 {fb:DE}{W:Int→Int}{cs:List D}:∀(l:List Int) (b:Int),(∀x∈l,fb (.val (.int x)::cs.map Sl.val)=some (.cl (.int (W x))))→zax7 true fb cs (.int b) (.int (W b)) (l.map D.int)=some (.int (l.foldl (stG W) b))
 |[],b,_=>rfl
 |x::l,b,h=>by
  have e:=h x (zaz0 ..)
  simp only [zba2,zax7,e,zaz3,Ev.d,flat,if_true,cmpD,cmpI,zbm4]
  have ih:=fun b=>zax6 l b fun y hy=>h y (zay5 _ hy)
  by_cases c:W b<W x
  ·rw [if_pos (decide_eq_true c),show stG W b x=x from if_pos c];exact ih x
  ·rw [if_neg (by simpa using c),show stG W b x=b from if_neg c];exact ih b
theorem key_of {fa fb:DE}{W:Int→Int}{cs:List D}{b:Bool}{cap:List Nat}{t:Th}{r:Ev}{x:Int}{l:List Int} (ha:fa t=some r) (hr:r.d=.lst ((x::l).map D.int)) (hc:capD t cap=some (b,cs)) (h:∀y∈x::l,fb (.val (.int y)::cs.map Sl.val)=some (.cl (.int (W y)))):dKey true cap fa fb t=some (.cl (.int (l.foldl (stG W) x))):=by
 unfold dKey
 rw [ha,hc]
 simp only [zaz3,hr,zba2]
 rw [show (zk6 (D.int x::l.map D.int)).isSome=true by rw [← zba2 (f:=D.int),zac2];rfl,if_pos rfl,h x (zaz0 ..)]
 simp only [zaz3,Ev.d,flat,if_true]
 rw [zax6 l x fun y hy=>h y (zay5 _ hy)]
 rfl
def pD (p:Int×Int):D:=.tup [.int p.1,.int p.2]
theorem zr1:∀ts:List (Int×Int),flats (ts.map pD)=true
 |[]=>rfl
 |p::ts=>by simp only [zba2,flats,zr1 ts];rfl
theorem zau9 (n:Nat):∀ts:List (Int×Int),eqOk (n+2) (.lst (ts.map pD)) (.lst (ts.map pD))=true
 |[]=>rfl
 |p::ts=>by
  have:=zau9 n ts
  simp only [eqOk]at this ⊢
  simp only [zba2,zbk2,zbi0,this,zbo0]
  cases n<;>rfl
theorem slu_pD {fa fb:DE}{t:Th}{r:Ev}{ts:List (Int×Int)}{n:Nat} (ha:fa t=some r) (hb:fb t=some (.cl (.int (n:Int)))) (hr:r.d=.lst (ts.map pD)):(dSlU fb fa) t=some (.nw ((ts.take n).map pD)):=by
 unfold dSlU
 rw [ha,hb]
 simp only [zaz3,hr]
 show (if (r.ok||flats (ts.map pD))=true then some (Ev.nw ((ts.map pD).take (HT.sIx (ts.map pD).length (ts.map pD).length (some (n:Int))))) else none)=_
 rw [zr1,if_pos (by simp),HT.sIx_nat,zbc4, ← List.map_take]
 congr 3
 by_cases h:n≤ts.length
 ·rw [Nat.min_eq_left h]
 ·rw [Nat.min_eq_right (by lia),zbb7 (zaz7 _),zbb7 (by lia)]
theorem list_pD {f:DE}{t:Th}{r:Ev}{ts:List (Int×Int)} (h:f t=some r) (hr:r.d=.lst (ts.map pD)):(dT1 zah1 (za2 f dNil)) t=some (.nw (ts.map pD)):=by
 rw [zo7 h]
 unfold zah1
 simp only [hr,zr1,Bool.or_true,if_true]
def rwD (r:List Int):D:=.lst (r.map D.int)
def mD (M:List (List Int)):D:=.lst (M.map rwD)
def gM (M:List (List Int)) (i j:Int):Int:=(M.getD i.toNat []).getD j.toNat 0
structure Sq (n:Nat) (M:List (List Int)):Prop where
 len:M.length=n
 row:∀r∈M,r.length=n
def lowI (L:List Int):Int:=leastI (L.headD 0) L.tail
def nr (M:List (List Int)) (C:List Int) (p:Int):Int:=lowI (C.map (gM M p))
structure CIn (n:Nat) (C:List Int):Prop where
 ne:0<C.length
 rg:∀x∈C,0≤x∧x<(n:Int)
def dV (P:List Int) (V:Int→Int):D:=.dct (P.map Sum.inl) (P.map fun p=>.int (V p))
def ltr (n:Int):Nat→List Int→Int→Int
 |_,[],_=>n
 |i,x::xs,p=>if x=p then (i:Int) else ltr n (i+1) xs p
def Fo (v:Int→Int) (p q:Int):Prop:=v q<v p∨(v q=v p∧p≤q)
def DI (n:Int) (P:List Int) (V:Int→Int) (i:Nat) (ps:List Int):Prop := ∀q,(if q∈P then V q else n)=ltr n i (ps.drop i) q
theorem neg_of {f:DE}{t:Th}{a:Int} (h:f t=some (.cl (.int a))):(d1 kNeg f) t=some (.cl (.int (-a))):=by
 unfold d1
 rw [h]
 rfl
end KX
set_option maxHeartbeats 1000000
namespace KX
abbrev Hd:=List (Int×Nat)
def nwS (hd:Hd) (s:List Int):List Int:=s.filter fun x=>decide (x∉hd.map Prod.fst)
structure Pt (w:Nat→Nat) (L N:Nat):Prop where
 eq:∀m,1≤m→m≤N→m*w m=L
def Hw (w:Nat→Nat):Nat→Nat
 |0=>0
 |n+1=>Hw w n+w (n+1)
theorem Hw_mono (w:Nat→Nat) {a b:Nat} (h:a≤b):Hw w a≤Hw w b:=by
 induction b with
 |zero=>rw [Nat.le_zero.mp h];exact zaz7 _
 |succ b ih =>
  rcases Nat.lt_or_eq_of_le h with h | h
  ·exact zbd7 (ih (by lia)) (Nat.le_add_right _ _)
  ·rw [h];exact zaz7 _
def paid (w:Nat→Nat) (hd:Hd) (s:List Int):Nat:=(hd.map fun p=>if p.1∈s then w p.2 else 0).sum
def totW (w:Nat→Nat) (hd:Hd):Nat:=(hd.map fun p=>w p.2).sum
structure GI (ss:List (List Int)) (w:Nat→Nat) (L:Nat) (hd:Hd) (n:Nat):Prop where
 nd:(hd.map Prod.fst).Nodup
 tt:totW w hd=n*L
 pay:∀s∈ss,paid w hd s+Hw w (nwS hd s).length≤Hw w s.length
 sub:∀x∈hd.map Prod.fst,∃s∈ss,x∈s
theorem GI.nil (ss:List (List Int)) (w:Nat→Nat) (L:Nat):GI ss w L [] 0:=by
 refine⟨zbf4,by simp [totW],fun s _=>?_,fun x hx=>nomatch hx⟩
 show 0+Hw w (nwS [] s).length≤_
 rw [zbk7]
 exact Hw_mono w (List.length_filter_le _ _)
end KX
namespace KX
open PySem.Spec L2 DL
theorem asg_dn {t:Th}{f:DE}{i:Nat}{d:D} (hf:f t=some (.dn d)) (hi:i<t.length):dAsg i f t=some (.nx (t.set i (.dp d))):=by
 unfold dAsg
 rw [hf]
 simp only [zaz3,zr4,hi,if_true,zbf7]
theorem forD_nx {k:D→Th→Option Th}{b:DS}{d:D}{ds:List D}{t t1 t2:Th} (h1:k d t=some t1) (h2:b t1=some (.nx t2)):forD k b (d::ds) t=forD k b ds t2:=by simp [forD,h1,h2]
theorem comp_A {α:Type}{e:α→D}{ft:DT}{fe:DE}{p:α→Bool}{f:α→D}{ext:Th}:∀(xs:List α) (s:Sl),(∀x∈xs,ft (.val (e x)::ext)=some (p x))→(∀x∈xs,p x=true→∃r,fe (.val (e x)::ext)=some r∧r.d=f x)→zg3 (zb8 0) ft fe (xs.map e) (s::ext)=some ((xs.filter p).map f)
 |[],s,_,_=>rfl
 |x::l,s,h,h'=>by
  have i:=comp_A (p:=p) (f:=f) l (.val (e x)) (fun y hy=>h y (zay5 _ hy)) (fun y hy=>h' y (zay5 _ hy))
  show ((ft (.val (e x)::ext)).bind fun b=>if b then (fe (.val (e x)::ext)).bind fun r=>(zg3 (zb8 0) ft fe (l.map e) (.val (e x)::ext)).map fun xs=>r.d::xs else zg3 (zb8 0) ft fe (l.map e) (.val (e x)::ext))=_
  rw [h x (zaz0 ..),i]
  cases hp:p x with
  |false=>rw [List.filter_cons_of_neg (by rw [hp];decide)];rfl
  |true =>
   obtain⟨r,e1,e2⟩:=h' x (zaz0 ..) hp
   rw [e1,List.filter_cons_of_pos hp,zba2, ← e2]
   rfl
theorem dcompL {α:Type}{e:α→D}{ft:DT}{fe f:DE}{p:α→Bool}{g:α→D}{cap:List Nat}{t:Th}{r:Ev}{xs:List α}{b:Bool}{c:List D} (hf:f t=some r) (hr:r.d=.lst (xs.map e)) (hc:capD t cap=some (b,c)) (hl:xs.length≤50000)
  (h1:∀x∈xs,ft (.val (e x)::c.map Sl.val)=some (p x)) (h2:∀x∈xs,p x=true→∃r,fe (.val (e x)::c.map Sl.val)=some r∧r.d=g x) (h3:flats ((xs.filter p).map g)=true∨(r.ok&&b)=true):zq0 1 cap (fsL f) (zb8 0) ft fe t=some (.nw ((xs.filter p).map g)):=by
 unfold zq0
 have e1:fsL f t=some (r.ok,xs.map e):=by
  unfold fsL;rw [hf];simp only [zaz3,hr]
 have e2:zg3 (zb8 0) ft fe (xs.map e) (Sl.no::c.map Sl.val)=some ((xs.filter p).map g):=comp_A xs _ h1 h2
 rw [e1,hc]
 simp only [zaz3]
 rw [if_pos (by simpa using hl)]
 show (zg3 (zb8 0) ft fe (xs.map e) (Sl.no::c.map Sl.val)).bind _=_
 rw [e2]
 show (if ((r.ok&&b)||flats ((xs.filter p).map g))=true then _ else _)=_
 rw [if_pos (by rcases h3 with h | h<;>rw [h]<;>simp)]
def kN (n:Int):Key:=Sum.inl n
def ttD (_:Int):D:=.bl true
theorem zip_same {ks:List Int}{x:Int}:∀ls:List Int,List.zipWith (fun k' d'=>if k'=kN x then D.bl true else d') (ls.map kN) (ls.map ttD)=ls.map ttD
 |[]=>rfl
 |l::ls=>by
  rw [zba2,zba2,List.zipWith_cons_cons,zip_same (ks:=ks) ls]
  congr 1
  split<;>rfl
structure AllK (M:Nat) (ks:List Int):Prop where
 nd:ks.Nodup
 lt:∀x∈ks,0≤x∧x<(M:Int)
end KX
set_option maxHeartbeats 4000000
namespace KX
open PySem.Spec L2 DL
def zx5 (c:Nat):List (List Nat)→List Nat
 |[]=>[]
 |[x]=>x
 |x::y::r=>x++c::zx5 c (y::r)
theorem zak8 {c:Nat}:∀ {x y a b:List Nat},c∉x→c∉y→x++c::a=y++c::b→x=y∧a=b
 |[],[],a,b,_,_,h=>⟨rfl,by simpa using h⟩
 |[],y::ys,a,b,_,hy,h=>by
  simp only [zbe4,zbj5,List.cons.injEq]at h
  exact absurd (zaz2.mpr (.inl h.1)) hy
 |x::xs,[],a,b,hx,_,h=>by
  simp only [zbe4,zbj5,List.cons.injEq]at h
  exact absurd (zaz2.mpr (.inl h.1.symm)) hx
 |x::xs,y::ys,a,b,hx,hy,h=>by
  simp only [zbj5,List.cons.injEq]at h
  obtain⟨e1,e2⟩:=zak8 (fun z=>hx (zay5 _ z)) (fun z=>hy (zay5 _ z)) h.2
  exact⟨by rw [h.1,e1],e2⟩
theorem zv2 {c:Nat}:∀ {xs ys:List (List Nat)},xs≠[]→ys≠[]→(∀x∈xs,c∉x)→(∀y∈ys,c∉y)→zx5 c xs=zx5 c ys→xs=ys
 |[],_,h,_,_,_,_=>absurd rfl h
 |_,[],_,h,_,_,_=>absurd rfl h
 |[x],[y],_,_,_,_,h=>by simpa [zx5] using h
 |[x],y::y'::r,_,_,hx,_,h=>by
  simp only [zx5]at h
  exact absurd (h ▸ (by simp):c∈x) (hx x (by simp))
 |x::x'::r,[y],_,_,_,hy,h=>by
  simp only [zx5]at h
  exact absurd (h.symm ▸ (by simp):c∈y) (hy y (by simp))
 |x::x'::r,y::y'::r',_,_,hx,hy,h=>by
  simp only [zx5]at h
  obtain⟨e1,e2⟩:=zak8 (hx x (by simp)) (hy y (by simp)) h
  rw [e1,zv2 (by simp) (by simp) (fun z hz=>hx z (zay5 _ hz)) (fun z hz=>hy z (zay5 _ hz)) e2]
theorem zm8 (c:Nat):∀ws:List Str,(Str.join ⟨#[c]⟩ ws).cps.toList=zx5 c (ws.map fun w=>w.cps.toList)
 |[]=>rfl
 |[x]=>rfl
 |x::y::r=>by
  have ih:=zm8 c (y::r)
  show ((x++⟨#[c]⟩:Str)++Str.join ⟨#[c]⟩ (y::r)).cps.toList=x.cps.toList++c::zx5 c ((y::r).map fun w=>w.cps.toList)
  rw [← ih]
  simp [Str.cps_append]
theorem split_ne (x y:Str):Txt.split x y≠[]:=by
 unfold Txt.split
 split
 ·simp
 ·split
  ·simp
  ·unfold Builtin.Str.partsBetween
   intro h
   have:=congrArg List.length h
   simp at this
theorem toList_inj {a b:Str} (h:a.cps.toList=b.cps.toList):a=b:=Str.ext' (by rw [← zbp6];exact h)
theorem zm5:∀ {a b:List Str},(a.map fun w=>w.cps.toList)=(b.map fun w=>w.cps.toList)→a=b
 |[],[],_=>rfl
 |[],_::_,h=>by simp at h
 |_::_,[],h=>by simp at h
 |x::a,y::b,h=>by
  simp only [zba2,List.cons.injEq]at h
  rw [toList_inj h.1,zm5 h.2]
theorem zo8 {c:Nat}{ws:List Str} (h0:ws≠[]) (hf:∀w∈ws,c∉w.cps.toList):Txt.split (Str.join ⟨#[c]⟩ ws) ⟨#[c]⟩=ws:=by
 refine zm5 (zv2 (c:=c) (by simpa using split_ne _ _) (by simpa using h0) (fun x hx=>?_) (fun x hx=>?_) ?_)
 ·obtain⟨w,hw,rfl⟩:=zbd8.mp hx
  exact StrLaws.split_free _ c w hw
 ·obtain⟨w,hw,rfl⟩:=zbd8.mp hx
  exact hf w hw
 ·rw [← zm8, ← zm8,StrLaws.join_split]
def sN (n:Nat):Str:=toString (n:Int)
noncomputable def okN (n:Nat):Bool:=decide ((sN n).length≤2)&&!((sN n).cps.toList.contains 10)&&!((sN n).cps.toList.contains 32)&&!((sN n).cps.toList.contains 45)
theorem okN_all:∀n:Fin 61,okN n.val=true:=by decide +kernel
theorem zf2 {n:Nat} (h:n≤60):(sN n).length≤2∧10∉(sN n).cps.toList∧32∉(sN n).cps.toList:=by
 have:=okN_all ⟨n,by lia⟩
 unfold okN at this
 simp only [zba6,zbg9,decide_eq_true_eq,List.contains_eq_mem,decide_eq_false_iff_not]at this
 exact⟨this.1.1.1,this.1.1.2,this.1.2⟩
def rowP (M:Nat):Str:=("points ":Str)++sN M
def rowT (u:Nat×Nat):Str:=((("tie ":Str)++sN u.1)++(" ":Str))++sN u.2
def zl9 (M:Nat) (us:List (Nat×Nat)):List Str:=rowP M::us.map rowT
def zk0 (M:Nat) (us:List (Nat×Nat)):Str:=Str.join ("\n":Str) (zl9 M us)
theorem nl_is:("\n":Str)=⟨#[10]⟩:=by decide +kernel
theorem bl_is:(" ":Str)=⟨#[32]⟩:=by decide +kernel
theorem zaj3 {M:Nat} (h:M≤60):(rowP M).length≤9:=by
 unfold rowP;rw [Str.length_append];have:=(zf2 h).1;have e:("points ":Str).length=7:=by decide +kernel
 lia
theorem zaj2 {u:Nat×Nat} (h1:u.1≤60) (h2:u.2≤60):(rowT u).length≤9:=by
 unfold rowT;rw [Str.length_append,Str.length_append,Str.length_append];have a:=(zf2 h1).1;have b:=(zf2 h2).1
 have e:("tie ":Str).length=4:=by decide +kernel
 have e2:(" ":Str).length=1:=by decide +kernel
 lia
theorem zaq3 {M:Nat} (h:M≤60):10∉(rowP M).cps.toList:=by
 unfold rowP
 rw [Str.cps_append,zbb2,zay8]
 rintro (z | z)
 ·revert z;decide +kernel
 ·exact (zf2 h).2.1 z
theorem zaq2 {u:Nat×Nat} (h1:u.1≤60) (h2:u.2≤60):10∉(rowT u).cps.toList:=by
 unfold rowT
 simp only [Str.cps_append,zbb2,zay8]
 rintro (((z | z) |z) |z)
 ·revert z;decide +kernel
 ·exact (zf2 h1).2.1 z
 ·revert z;decide +kernel
 ·exact (zf2 h2).2.1 z
theorem zam6 {M:Nat}{us:List (Nat×Nat)} (h:M≤60) (hu:∀u∈us,u.1≤60∧u.2≤60):Txt.split (zk0 M us) ("\n":Str)=zl9 M us:=by
 unfold zk0
 rw [nl_is]
 refine zo8 (by simp [zl9]) fun w hw=>?_
 rcases zaz2.mp hw with rfl | z
 ·exact zaq3 h
 ·obtain⟨u,hu',rfl⟩:=zbd8.mp z
  exact zaq2 (hu u hu').1 (hu u hu').2
theorem zaj1 {M:Nat}{us:List (Nat×Nat)} (h:M≤60) (hu:∀u∈us,u.1≤60∧u.2≤60):∀w∈zl9 M us,w.length≤9:=fun w hw=>by
 rcases zaz2.mp hw with rfl | z
 ·exact zaj3 h
 ·obtain⟨u,hu',rfl⟩:=zbd8.mp z
  exact zaj2 (hu u hu').1 (hu u hu').2
theorem zae5:∀ {ws:List Str},(∀w∈ws,w.length≤9)→(ws.map (·.length)).sum≤9*ws.length
 |[],_=>by simp
 |w::ws,h=>by
  have:=zae5 (ws:=ws) fun x hx=>h x (zay5 _ hx)
  have:=h w (by simp)
  simp only [zba2,List.sum_cons,zbe2]
  lia
theorem text_len {M:Nat}{us:List (Nat×Nat)} (h:M≤60) (hl:us.length≤400) (hu:∀u∈us,u.1≤60∧u.2≤60):(zk0 M us).length≤5000:=by
 have a:=StrLaws.join_length_le ("\n":Str) (zl9 M us)
 have b:=zae5 (zaj1 h hu)
 have e:("\n":Str).length=1:=by decide +kernel
 rw [e]at a
 have l:(zl9 M us).length=us.length+1:=by simp [zl9]
 unfold zk0
 lia
theorem text_ok {M:Nat}{us:List (Nat×Nat)} (h:M≤60) (hl:us.length≤400) (hu:∀u∈us,u.1≤60∧u.2≤60):JoinOk ("\n":Str) (zl9 M us)=true:=by
 unfold JoinOk Builtin.Str.tooLong
 rw [StrLaws.joinTotal]
 have b:=zae5 (zaj1 h hu)
 have e:("\n":Str).length=1:=by decide +kernel
 have l:(zl9 M us).length=us.length+1:=by simp [zl9]
 rw [e]
 have:(100000:Nat)≤sizeLine:=by decide
 simp only [zbg9,decide_eq_false_iff_not]
 lia
theorem txt_join (y:Str) (ws:List Str):Txt.join y ws=Str.join y ws:=StrLaws.glued_eq_join y ws
theorem words_P {M:Nat} (h:M≤60):Txt.split (rowP M) (" ":Str)=[("points":Str),sN M]:=by
 have e:rowP M=Str.join (⟨#[32]⟩:Str) [("points":Str),sN M]:=by
  show ("points ":Str)++sN M=(("points":Str)++⟨#[32]⟩)++sN M
  rw [show ("points":Str)++(⟨#[32]⟩:Str)=("points ":Str) by decide +kernel]
 rw [e,bl_is]
 refine zo8 (by simp) fun w hw=>?_
 simp only [zaz2,zbm1,or_false]at hw
 rcases hw with rfl | rfl
 ·decide +kernel
 ·exact (zf2 h).2.2
theorem words_T {u:Nat×Nat} (h1:u.1≤60) (h2:u.2≤60):Txt.split (rowT u) (" ":Str)=[("tie":Str),sN u.1,sN u.2]:=by
 have e:rowT u=Str.join (⟨#[32]⟩:Str) [("tie":Str),sN u.1,sN u.2]:=by
  show ((("tie ":Str)++sN u.1)++(" ":Str))++sN u.2=(("tie":Str)++⟨#[32]⟩)++((sN u.1++⟨#[32]⟩)++sN u.2)
  rw [show ("tie":Str)++(⟨#[32]⟩:Str)=("tie ":Str) by decide +kernel,bl_is]
  simp only [Str.append_assoc]
 rw [e,bl_is]
 refine zo8 (by simp) fun w hw=>?_
 simp only [zaz2,zbm1,or_false]at hw
 rcases hw with rfl | rfl | rfl
 ·decide +kernel
 ·exact (zf2 h1).2.2
 ·exact (zf2 h2).2.2
def top (i:Nat):Stmt:=PySem.Challenge.pw_nearenough_k03_webs_shown_and_read.main.body.getD i (.Pass ⟨0,0,0,0⟩)
abbrev zj4:Stmt:=top 7
abbrev ze9:Stmt:=top 8
abbrev zg9:Stmt:=top 9
abbrev zk9:Stmt:=top 10
abbrev zi3:Stmt:=top 11
abbrev zl0:Stmt:=top 12
abbrev zj3:Stmt:=top 13
abbrev zh0:Stmt:=top 15
abbrev zj6:Stmt:=top 16
abbrev zn6:Stmt:=top 17
abbrev zl1:Stmt:=top 18
abbrev zn5:Stmt:=top 19
abbrev zj5:Stmt:=top 20
abbrev zl2:Stmt:=top 21
abbrev zl3:Stmt:=top 22
abbrev s_law:Stmt:=top 23
structure Blt (mg:Str→Option Value):Prop where
 n_bool:mg "bool"=none
 n_enumerate:mg "enumerate"=none
 n_int:mg "int"=none
 n_isinstance:mg "isinstance"=none
 n_len:mg "len"=none
 n_list:mg "list"=none
 n_max:mg "max"=none
 n_min:mg "min"=none
 n_range:mg "range"=none
 n_sorted:mg "sorted"=none
 n_str:mg "str"=none
 n_tuple:mg "tuple"=none
 x_MOST_FIGURES:∃t,mg "MOST_FIGURES"=some (.int 12 t)
 x_MOST_POINTS:∃t,mg "MOST_POINTS"=some (.int 60 t)
 x_MOST_TIES:∃t,mg "MOST_TIES"=some (.int 400 t)
variable {P:Program}{w:World}{K:zay3}{mg:Str→Option Value}{base:BHeap}{ad:Addr}{fd:FuncData}
theorem zz6:FnScope ["text"] ["text"] (zb0 zj4):=zl8 rfl rfl rfl rfl (by decide +kernel)
noncomputable def zs7:DS :=
 (dSeq (dIfS (dNot (dAnd (dTr (d1 (zat8 Txt.isascii) (dVar 0))) (dTr (d1 (zat8 Txt.isdigit) (dVar 0))))) (dRet (dC .non)) ze1) (dSeq (dIfS (dBo (d2 (kI tt2 fun i j=>.bl (decide (j<i))) (dT1 kLenS (za2 (dVar 0) dNil)) (dC (.int 12)))) (dRet (dC .non)) ze1) (dSeq (dIfS (dAnd (dBo (d2 kEq (d2 kIxS (dVar 0) (dC (.int 0))) (dC (.str "0")))) (dBo (d2 kNe (dVar 0) (dC (.str "0"))))) (dRet (dC .non)) ze1) (dRet (dT1 kIntS (za2 (dVar 0) dNil))))))
def zf7:List D→Option Ev:=mkG 1 ["text"] zs7
theorem zab1 (Fn:L2.Fun K "number_of" "number_of" zj4 ad fd) (bu:Blt mg) :FnOk P w K mg base CX0 1 ad fd ["text"] (spD K zf7):=by
 have SC:=zz6
 obtain⟨_,v_MOST_FIGURES⟩:=bu.x_MOST_FIGURES
 refine zh7 (k:=0) Fn SC (fun _ _ e=>zf4 e) zs7 (fun _ _ e=>zh6 e) (fun cdv A outer s H E F hr=>?_)
 refine za4 ?_ ?_
 ·exact (zg1 (zg0 (L2.PW.pt (zaq8 (zg4 (zaj8 PySem.F.slot_str_isascii PySem.F.type_str_isascii zan7 (za0 0))) (zaj4 (zg4 (zaj8 PySem.F.slot_str_isdigit PySem.F.type_str_isdigit zan6 (za0 0))))))) (za9 (zc0 zg5)) zd6)
 refine za4 ?_ ?_
 ·exact (zg1 (zd5 od_gt (zh3 cd_lenS rfl bu.n_len PySem.boot_len (za1 (za0 0) za5)) (zw9 rfl v_MOST_FIGURES ⟨_,rfl⟩)) (za9 (zc0 zg5)) zd6)
 refine za4 ?_ ?_
 ·exact (zg1 (L2.PW.pt (zaq8 (zd5 (od_eq hr.units) (ped_ixS (za0 0) za3) zf3) (zaj4 (zd5 (zag5 hr.units) (za0 0) zf3)))) (za9 (zc0 zg5)) zd6)
 exact za9 (zc0 (zk2 cd_intS rfl bu.n_int bt_int (za1 (za0 0) za5)))
theorem zo9:FnScope ["word", "many", "row", "words", "numbers"] ["word", "many", "row"] (zb0 ze9):=zl8 rfl rfl rfl rfl (by decide +kernel)
noncomputable def zg8:DS :=
 (dSeq (dAsg 3 (d2 zq5 (dVar 2) (dC (.str " ")))) (dSeq (dIfS (dOr (dBo (d2 kNe (d2 kIx (dVar 3) (dC (.int 0))) (dVar 0))) (dBo (d2 kNe (dT1 kLen (za2 (dVar 3) dNil)) (d2 qA (dVar 1) (dC (.int 1)))))) (dRet (dC .non)) ze1) (dSeq (dAsg 4 (zq0 1 [] (fsL (dSlF (dC (.int 1)) (dVar 3))) (zb8 0) zu2 (dT1 (zb2 zf7) (za2 (dVar 0) dNil)))) (dSeq (dIfS (dBo (d2 kIn (dC .non) (dVar 4))) (dRet (dC .non)) ze1) (dRetO 4)))))
def zb4:List D→Option Ev:=mkG 3 ["word", "many", "row", "words", "numbers"] zg8
theorem zp3 (Fn:L2.Fun K "numbers_behind" "numbers_behind" ze9 ad fd) (bu:Blt mg) (c_number_of:Cal P w K mg base "number_of" 1 zf7):FnOk P w K mg base CX0 2 ad fd ["word", "many", "row"] (spD K zb4):=by
 have SC:=zo9
 refine zh7 (k:=1) Fn SC (fun _ _ e=>zf4 e) zg8 (fun _ _ e=>zh6 e) (fun cdv A outer s H E F hr=>?_)
 refine za4 ?_ ?_
 ·exact (zc9 (i:=3) SC.nd rfl (zb9 rfl) (zaa6 (za0 2) zf3))
 refine za4 ?_ ?_
 ·exact (zg1 (L2.PW.pt (zk1 (zd5 (zag5 hr.units) (zg7 (za0 3) za3) (za0 0)) (zm7 (zd5 (zag5 hr.units) (zh3 zaw8 rfl bu.n_len PySem.boot_len (za1 (za0 3) za5)) (zb6 (od_add.or od_cat) (za0 1) za3))))) (za9 (zc0 zg5)) zd6)
 refine za4 ?_ ?_
 ·exact (psd_setC (i:=4) 1 [] ["text"] SC.nd rfl (Or.inl rfl) rfl (zw7 (zp1 (za0 3) za3)) (fun _ _ _ _ _=>(ze5 (i:=0) (show List.Nodup (["text"]:List Str) by decide +kernel) rfl (zb9 rfl))) (fun _=>(ze3 0)) (fun _ _ _ _ _ _=>zw4) (fun _ _ _ _ _ _=>(za8 c_number_of (hr.mono (by decide)) (za1 (za0 0) za5))))
 refine za4 ?_ ?_
 ·exact (zg1 (zd5 od_in zg5 (za0 4)) (za9 (zc0 zg5)) zd6)
 exact za9 (psd_retO 4)
theorem zt7:FnScope ["row", "numbers"] ["row"] (zb0 zg9):=zl8 rfl rfl rfl rfl (by decide +kernel)
noncomputable def zj8:DS :=
 (dSeq (dAsg 1 (dT1 (zb2 zb4) (za2 (dC (.str "points")) (za2 (dC (.int 1)) (za2 (dVar 0) dNil))))) (dSeq (dIfS (dOr (dBo (d2 kIs (dVar 1) (dC .non))) (dNot (dCh qE qE (dC (.int 1)) (d2 kIx (dVar 1) (dC (.int 0))) (dC (.int 60))))) (dRet (dC .non)) ze1) (dRet (d2 kIx (dVar 1) (dC (.int 0))))))
def zg2:List D→Option Ev:=mkG 1 ["row", "numbers"] zj8
theorem zt9 (Fn:L2.Fun K "points_told" "points_told" zg9 ad fd) (bu:Blt mg) (c_numbers_behind:Cal P w K mg base "numbers_behind" 2 zb4):FnOk P w K mg base CX0 3 ad fd ["row"] (spD K zg2):=by
 have SC:=zt7
 obtain⟨_,v_MOST_POINTS⟩:=bu.x_MOST_POINTS
 refine zh7 (k:=2) Fn SC (fun _ _ e=>zf4 e) zj8 (fun _ _ e=>zh6 e) (fun cdv A outer s H E F hr=>?_)
 refine za4 ?_ ?_
 ·exact (zc9 (i:=1) SC.nd rfl (zb9 rfl) (za8 c_numbers_behind (hr.mono (by decide)) (za1 zf3 (za1 za3 (za1 (za0 0) za5)))))
 refine za4 ?_ ?_
 ·exact (zg1 (L2.PW.pt (zk1 (zd5 od_is (za0 1) zg5) (zm7 (zg0 (zaa2 od_le od_le za3 (zg7 (za0 1) za3) (zw9 rfl v_MOST_POINTS ⟨_,rfl⟩)))))) (za9 (zc0 zg5)) zd6)
 exact za9 (zc0 (zg7 (za0 1) za3))
theorem zae7:FnScope ["row", "many", "numbers", "one", "other"] ["row", "many"] (zb0 zk9):=zl8 rfl rfl rfl rfl (by decide +kernel)
noncomputable def zp4:DS :=
 (dSeq (dAsg 2 (dT1 (zb2 zb4) (za2 (dC (.str "tie")) (za2 (dC (.int 2)) (za2 (dVar 0) dNil))))) (dSeq (dIfS (dBo (d2 kIs (dVar 2) (dC .non))) (dRet (dC .non)) ze1) (dSeq (dFrz 2 (zao3 (gkLst 2 (ze2 (zb8 3) (ze2 (zb8 4) zs6))) (dVar 2))) (dSeq (dIfS (dNot (dCh qL qL (dVar 3) (dVar 4) (dVar 1))) (dRet (dC .non)) ze1) (dRet (dT1 kTup (za2 (dVar 3) (za2 (dVar 4) dNil))))))))
def zj1:List D→Option Ev:=mkG 2 ["row", "many", "numbers", "one", "other"] zp4
theorem zag0 (Fn:L2.Fun K "tie_told" "tie_told" zk9 ad fd) (bu:Blt mg) (c_numbers_behind:Cal P w K mg base "numbers_behind" 2 zb4):FnOk P w K mg base CX0 3 ad fd ["row", "many"] (spD K zj1):=by
 have SC:=zae7
 refine zh7 (k:=2) Fn SC (fun _ _ e=>zf4 e) zp4 (fun _ _ e=>zh6 e) (fun cdv A outer s H E F hr=>?_)
 refine za4 ?_ ?_
 ·exact (zc9 (i:=2) SC.nd rfl (zb9 rfl) (za8 c_numbers_behind (hr.mono (by decide)) (za1 zf3 (za1 za3 (za1 (za0 0) za5)))))
 refine za4 ?_ ?_
 ·exact (zg1 (zd5 od_is (za0 2) zg5) (za9 (zc0 zg5)) zd6)
 refine za4 ?_ ?_
 ·exact (psd_frz 2 (zar3 (za0 2) (pg_lst rfl (zf1 (ze5 (i:=3) SC.nd rfl (zb9 rfl)) (zf1 (ze5 (i:=4) SC.nd rfl (zb9 rfl)) zp0))) (tg_lst (ze8 (ze3 3) (ze8 (ze3 4) zo6)))))
 refine za4 ?_ ?_
 ·exact (zg1 (zg0 (zaa2 od_lt od_lt (za0 3) (za0 4) (za0 1))) (za9 (zc0 zg5)) zd6)
 exact za9 (zc0 (zr7 (za1 (za0 3) (za1 (za0 4) za5))))
theorem zw3:FnScope ["ties", "tie"] ["ties", "tie"] (zb0 zi3):=zl8 rfl rfl rfl rfl (by decide +kernel)
noncomputable def zk7:DS :=
 (dSeq (dIfS (dBo (d2 qH (dT1 kLen (za2 (dVar 0) dNil)) (dC (.int 400)))) (dRet (dC (.bl false))) ze1) (dRet (dOrV (d1 zah0 (dVar 0)) (d2 kLtT (d2 kIx (dVar 0) (d1 kNeg (dC (.int 1)))) (dVar 1)))))
def zd8:List D→Option Ev:=mkG 2 ["ties", "tie"] zk7
theorem zx1 (Fn:L2.Fun K "may_follow" "may_follow" zi3 ad fd) (bu:Blt mg) :FnOk P w K mg base CX0 1 ad fd ["ties", "tie"] (spD K zd8):=by
 have SC:=zw3
 obtain⟨_,v_MOST_TIES⟩:=bu.x_MOST_TIES
 refine zh7 (k:=0) Fn SC (fun _ _ e=>zf4 e) zk7 (fun _ _ e=>zh6 e) (fun cdv A outer s H E F hr=>?_)
 refine za4 ?_ ?_
 ·exact (zg1 (zd5 od_ge (zh3 zaw8 rfl bu.n_len PySem.boot_len (za1 (za0 0) za5)) (zw9 rfl v_MOST_TIES ⟨_,rfl⟩)) (za9 (zc0 zq2)) zd6)
 exact za9 (zc0 (ped_or (ped_notT (za0 0)) (zaf6 (zas6 (od_ltT hr.units) (zg7 (za0 0) (ped_neg za3)) (za0 1)))))
theorem zae8:FnScope ["text", "rows", "many", "ties", "at", "row", "tie"] ["text"] (zb0 zl0):=zl8 rfl rfl rfl rfl (by decide +kernel)
noncomputable def bdR:DS:=(dSeq (dAsg 6 (dT1 (zb2 zj1) (za2 (dVar 5) (za2 (dVar 2) dNil))))
  (dSeq (dIfS (dOr (dBo (d2 kIs (dVar 6) (dC .non))) (dNot (dTr (dT1 (zb2 zd8) (za2 (dVar 3) (za2 (dVar 6) dNil)))))) zac8 ze1)
  (dApp 3 (dVar 6))))
def kR:D→Th→Option Th:=zu1 2 (ze2 (zb8 4) (ze2 (zb8 5) zs6))
noncomputable def zp5:DS :=
 (dSeq (dAsg 1 (d2 zq5 (dVar 0) (dC (.str "\n")))) (dSeq (dAsg 2 (dT1 (zb2 zg2) (za2 (d2 kIx (dVar 1) (dC (.int 0))) dNil))) (dSeq (dIfS (dBo (d2 kIs (dVar 2) (dC .non))) zac8 ze1) (dSeq (dAsg 3 (dT1 kLst dNil)) (dSeq (zac9 (kR) (dSlF (dC (.int 1)) (dVar 1)) bdR) (zaw0 (mTup (zx3 (mOwn 2) (zx3 (mOwn 3) mNil)))))))))
def zd4:List D→Option Ev:=mkG 1 ["text", "rows", "many", "ties", "at", "row", "tie"] zp5
theorem zag1 (Fn:L2.Fun K "read_web" "read_web" zl0 ad fd) (bu:Blt mg) (c_points_told:Cal P w K mg base "points_told" 3 zg2) (c_tie_told:Cal P w K mg base "tie_told" 3 zj1) (c_may_follow:Cal P w K mg base "may_follow" 1 zd8):FnOk P w K mg base CX0 4 ad fd ["text"] (spD K zd4):=by
 have SC:=zae8
 refine zh7 (k:=3) Fn SC (fun _ _ e=>zf4 e) zp5 (fun _ _ e=>zh6 e) (fun cdv A outer s H E F hr=>?_)
 refine za4 ?_ ?_
 ·exact (zc9 (i:=1) SC.nd rfl (zb9 rfl) (zaa6 (za0 0) zf3))
 refine za4 ?_ ?_
 ·exact (zc9 (i:=2) SC.nd rfl (zb9 rfl) (za8 c_points_told (hr.mono (by decide)) (za1 (zg7 (za0 1) za3) za5)))
 refine za4 ?_ ?_
 ·exact (zg1 (zd5 od_is (za0 2) zg5) (za9 zaa3) zd6)
 refine za4 ?_ ?_
 ·exact (zc9 (i:=3) SC.nd rfl (zb9 rfl) (zaf7 za5))
 refine za4 ?_ ?_
 ·exact (zar2 PassesOwn.never rfl rfl bu.n_enumerate (zp1 (za0 1) za3) (zaa5 rfl (zf1 (ze5 (i:=4) SC.nd rfl (zb9 rfl)) (zf1 (ze5 (i:=5) SC.nd rfl (zb9 rfl)) zp0))) (zy9 (ze8 (ze3 4) (ze8 (ze3 5) zo6))) (za4 (zc9 (i:=6) SC.nd rfl (zb9 rfl) (za8 c_tie_told (hr.mono (by decide)) (za1 (za0 5) (za1 (za0 2) za5))))
  (za4 (zg1 (L2.PW.pt (zk1 (zd5 od_is (za0 6) zg5) (zm7 (zg0 (zg4 (za8 c_may_follow (hr.mono (by decide)) (za1 (za0 3) (za1 (za0 6) za5)))))))) (za9 zaa3) zd6)
  (za9 (psd_app 3 (za0 6))))))
 exact za9 (psd_retM (pm_tup (zaj7 (fun _=>(pm_own 2)) (fun _=>(zaj7 (fun _=>(pm_own 3)) (fun _=>pms_nil))))))
theorem zz5:FnScope ["web", "many", "ties", "rows"] ["web"] (zb0 zj3):=zl8 rfl rfl rfl rfl (by decide +kernel)
def K2:D→Th→Option Th:=zu1 2 (ze2 (zb8 0) (ze2 (zb8 1) zs6))
noncomputable def zn0:DS :=
 (dSeq (zao3 (zu1 2 (ze2 (zb8 1) (ze2 (zb8 2) zs6))) (dVar 0)) (dSeq (dAsg 3 (d2 qA (dT1 kLst (za2 (zi7 [(dC (.str "points ")),(d1 kFmt (dVar 1))]) dNil)) (zq0 2 [] (fsL (dVar 2)) (K2) zu2 (zi7 [(dC (.str "tie ")),(d1 kFmt (dVar 0)),(dC (.str " ")),(d1 kFmt (dVar 1))])))) (dRet (d2 zx4 (dC (.str "\n")) (dVar 3)))))
def zd7:List D→Option Ev:=mkG 1 ["web", "many", "ties", "rows"] zn0
theorem zab0 (Fn:L2.Fun K "shown_web" "shown_web" zj3 ad fd) (bu:Blt mg) :FnOk P w K mg base CX0 1 ad fd ["web"] (spD K zd7):=by
 have SC:=zz5
 refine zh7 (k:=0) Fn SC (fun _ _ e=>zf4 e) zn0 (fun _ _ e=>zh6 e) (fun cdv A outer s H E F hr=>?_)
 refine za4 ?_ ?_
 ·exact (zar3 (za0 0) (zaa5 rfl (zf1 (ze5 (i:=1) SC.nd rfl (zb9 rfl)) (zf1 (ze5 (i:=2) SC.nd rfl (zb9 rfl)) zp0))) (zy9 (ze8 (ze3 1) (ze8 (ze3 2) zo6))))
 refine za4 ?_ ?_
 ·exact (zc9 (i:=3) SC.nd rfl (zb9 rfl) (zb6 (od_add.or od_cat) (zaf7 (za1 (zu9 (PJs.cons zf3 (PJs.cons (zaf8 (za0 1)) PJs.nil))) za5)) (zaa7 2 [] ["one", "other"] rfl (zw7 (za0 2)) (fun _ _ _ _ _=>(zaa5 rfl (zf1 (ze5 (i:=0) (show List.Nodup (["one", "other"]:List Str) by decide +kernel) rfl (zb9 rfl)) (zf1 (ze5 (i:=1) (show List.Nodup (["one", "other"]:List Str) by decide +kernel) rfl (zb9 rfl)) zp0)))) (fun _=>(zy9 (ze8 (ze3 0) (ze8 (ze3 1) zo6)))) (fun _ _ _ _ _ _=>zw4) (fun _ _ _ _ _ _=>(zu9 (PJs.cons zf3 (PJs.cons (zaf8 (za0 0)) (PJs.cons zf3 (PJs.cons (zaf8 (za0 1)) PJs.nil)))))))))
 exact za9 (zc0 (zw8 zf3 (za0 3)))
theorem zt8:FnScope ["_law_script", "_law_k"] ["_law_script", "_law_k"] (zb0 zh0):=zl8 rfl rfl rfl rfl (by decide +kernel)
noncomputable def ze0:DS :=
 (dSeq (dIfS (dBo (d2 qL (dVar 1) (dT1 kLen (za2 (dVar 0) dNil)))) (dRet (d2 kIx (dVar 0) (dVar 1))) ze1) (dRet (dC (.int 0))))
def zc7:List D→Option Ev:=mkG 2 ["_law_script", "_law_k"] ze0
theorem zu0 (Fn:L2.Fun K "_law_cell_at" "_law_cell_at" zh0 ad fd) (bu:Blt mg) :FnOk P w K mg base CX0 1 ad fd ["_law_script", "_law_k"] (spD K zc7):=by
 have SC:=zt8
 refine zh7 (k:=0) Fn SC (fun _ _ e=>zf4 e) ze0 (fun _ _ e=>zh6 e) (fun cdv A outer s H E F hr=>?_)
 refine za4 ?_ ?_
 ·exact (zg1 (zd5 od_lt (za0 1) (zh3 zaw8 rfl bu.n_len PySem.boot_len (za1 (za0 0) za5))) (za9 (zc0 (zg7 (za0 0) (za0 1)))) zd6)
 exact za9 (zc0 za3)
theorem zz8:FnScope ["_law_cell", "_law_k", "_law_number"] ["_law_cell", "_law_k"] (zb0 zj6):=zl8 rfl rfl rfl rfl (by decide +kernel)
noncomputable def zn1:DS :=
 (dSeq (dAsg 2 (d2 qR (d2 qA (d2 qA (d2 qR (dVar 0) (dC (.int 2147483647))) (d2 qM (d2 qM (dC (.int 69621)) (dVar 1)) (dVar 1))) (dC (.int 40014))) (dC (.int 2147483647)))) (dSeq (dAsg 2 (d2 qR (d2 qA (d2 qA (d2 qM (dVar 2) (dVar 2)) (d2 qM (dC (.int 7919)) (dVar 1))) (dC (.int 1))) (dC (.int 2147483629)))) (dRet (d2 qV (d2 qR (d2 qA (d2 qM (dVar 2) (dVar 2)) (d2 qM (dC (.int 104729)) (dVar 1))) (dC (.int 2147483587))) (dC (.int 64))))))
def zf8:List D→Option Ev:=mkG 2 ["_law_cell", "_law_k", "_law_number"] zn1
theorem zab3 (Fn:L2.Fun K "_law_mixed" "_law_mixed" zj6 ad fd) (bu:Blt mg) :FnOk P w K mg base CX0 1 ad fd ["_law_cell", "_law_k"] (spD K zf8):=by
 have SC:=zz8
 refine zh7 (k:=0) Fn SC (fun _ _ e=>zf4 e) zn1 (fun _ _ e=>zh6 e) (fun cdv A outer s H E F hr=>?_)
 refine za4 ?_ ?_
 ·exact (zc9 (i:=2) SC.nd rfl (zb9 rfl) (zb6 zm4 (zb6 (od_add.or od_cat) (zb6 (od_add.or od_cat) (zb6 zm4 (za0 0) za3) (zb6 (od_mul.or zn8) (zb6 (od_mul.or zn8) za3 (za0 1)) (za0 1))) za3) za3))
 refine za4 ?_ ?_
 ·exact (zc9 (i:=2) SC.nd rfl (zb9 rfl) (zb6 zm4 (zb6 (od_add.or od_cat) (zb6 (od_add.or od_cat) (zb6 (od_mul.or zn8) (za0 2) (za0 2)) (zb6 (od_mul.or zn8) za3 (za0 1))) za3) za3))
 exact za9 (zc0 (zb6 zab4 (zb6 zm4 (zb6 (od_add.or od_cat) (zb6 (od_mul.or zn8) (za0 2) (za0 2)) (zb6 (od_mul.or zn8) za3 (za0 1))) za3) za3))
theorem zam8:FnScope ["_law_found", "_law_many", "_law_number", "_law_one", "_law_other"] ["_law_found", "_law_many", "_law_number"] (zb0 zn6):=zl8 rfl rfl rfl rfl (by decide +kernel)
theorem zan4 (Fn:L2.Fun K "_law_put" "_law_put" zn6 ad fd) (bu:Blt mg):FnOk P w K mg base CX0 1 ad fd ["_law_found", "_law_many", "_law_number"] (spP putG):=by
 have SC:=zam8
 refine Fn.ok (k:=0) SC (fun vs H Q E h=>?_) (fun cdv A outer s H vs Q E hr h=>?_)
 ·obtain⟨p,ps,ps',ns,rfl,_,hg,_⟩:=h
  exact put_len hg
 ·obtain⟨p,ps,ps',ns,rfl,hp,hg,cont⟩:=h
  obtain⟨m,k,rfl⟩:=zaq9 hg
  exact⟨tPutB K fP1 fP2 ftP gkP fvP,zw5 (zar4 (i:=3) SC.nd rfl (zb9 rfl) (zb6 zm4 (za0 2) (za0 1))) (zw5 (zar4 (i:=4) SC.nd rfl (zb9 rfl) (zb6 zm4 (zb6 zab4 (za0 2) (za0 1)) (za0 1))) (zaf3 (ps_if (zd5 (zag5 hr.units) (za0 3) (za0 4)) (zaf3 (ps_dput (zbh6 (Nat.add_lt_add_left (by decide) _) hr.units) (zr8 (i:=0) rfl (by first | exact Or.inl rfl | exact Or.inr (Or.inl rfl) |exact Or.inr (Or.inr rfl))) (zas8 (za1 (zh3 (cd_min rfl) rfl bu.n_min (by decide +kernel) (za1 (za0 3) (za1 (za0 4) za5))) (za1 (zh3 (cd_max rfl) rfl bu.n_max (by decide +kernel) (za1 (za0 3) (za1 (za0 4) za5))) za5))) zq2 rfl)) zar1))),put_law hp hg cont⟩
theorem zae9:FnScope ["_law_script", "_law_many", "_law_found", "_law_k", "_law_cell", "_law_number", "_law_turn"] ["_law_script", "_law_many"] (zb0 zl1):=zl8 rfl rfl rfl rfl (by decide +kernel)
def tieN:DE:=(dT1 (zb2 zf8) (za2 (dVar 4) (za2 (d2 qA (d2 qA (dC (.int 64)) (d2 qM (dC (.int 6)) (dVar 3))) (dVar 6)) dNil)))
noncomputable def bdT1:DS:=(dSeq (dIfS (dBo (d2 qE (dVar 5) (dC (.int 0)))) (dAsg 5 tieN) ze1)
  (dSeq (zv6 2 putG (za2 (dVar 1) (za2 (dVar 5) dNil)))
  (dAsg 5 (d2 qV (dVar 5) (d2 qM (dVar 1) (dVar 1))))))
def bdT2:DS:=(zv6 2 putG (za2 (dVar 1) (za2 tieN dNil)))
noncomputable def bdT:DS:=(dIfS (dBo (d2 kEq (d2 qR (dT1 (zb2 zc7) (za2 (dVar 0) (za2 (dC (.int 0)) dNil))) (dC (.int 2))) (dC (.int 0)))) (dSeq (dAsg 5 (d2 qV (dVar 4) (dC (.int 61))))
  (zao2 (zb8 6) (d2 qR (dVar 4) (dC (.int 61))) bdT1)) (zao2 (zb8 6) (d2 qA (dC (.int 1)) (d2 qR (dT1 (zb2 zf8) (za2 (dVar 4) (za2 (dVar 3) dNil))) (dC (.int 6)))) bdT2))
noncomputable def zl7:DS :=
 (dSeq (dAsg 2 dNewP) (dSeq (zaw1 (zu1 2 (ze2 (zb8 3) (ze2 (zb8 4) zs6))) (dSl (dC (.int 3)) (dC (.int 62)) (dVar 0)) bdT) (dRet (dSlU (dC (.int 400)) (dT1 zab8 (za2 (dVar 2) dNil))))))
def zg6:List D→Option Ev:=mkG 2 ["_law_script", "_law_many", "_law_found", "_law_k", "_law_cell", "_law_number", "_law_turn"] zl7
theorem zag2 (Fn:L2.Fun K "_law_ties" "_law_ties" zl1 ad fd) (bu:Blt mg) (c_law_cell_at:Cal P w K mg base "_law_cell_at" 1 zc7) (c_law_mixed:Cal P w K mg base "_law_mixed" 1 zf8) (c_law_put:CalP P w K mg base "_law_put" 1 putG):FnOk P w K mg base CX0 2 ad fd ["_law_script", "_law_many"] (spD K zg6):=by
 have SC:=zae9
 refine zh7 (k:=1) Fn SC (fun _ _ e=>zf4 e) zl7 (fun _ _ e=>zh6 e) (fun cdv A outer s H E F hr=>?_)
 refine za4 ?_ ?_
 ·exact (zc9 (i:=2) SC.nd rfl (zb9 rfl) ped_newP)
 refine za4 ?_ ?_
 ·exact (psd_enum PassesOwn.never rfl rfl bu.n_enumerate (zas5 (za0 0) za3 za3) (zaa5 rfl (zf1 (ze5 (i:=3) SC.nd rfl (zb9 rfl)) (zf1 (ze5 (i:=4) SC.nd rfl (zb9 rfl)) zp0))) (zy9 (ze8 (ze3 3) (ze8 (ze3 4) zo6))) (za9 (zg1 (zd5 (od_eq hr.units) (zb6 zm4 (za8 c_law_cell_at (hr.mono (by decide)) (za1 (za0 0) (za1 za3 za5))) za3) za3) (za4 (zc9 (i:=5) SC.nd rfl (zb9 rfl) (zb6 zab4 (za0 4) za3))
  (za9 (zaj5 PassesOwn.never rfl rfl bu.n_range (zb6 zm4 (za0 4) za3) (ze5 (i:=6) SC.nd rfl (zb9 rfl)) (ze3 6) (za4 (zg1 (zd5 od_le (za0 5) za3) (za9 (zc9 (i:=5) SC.nd rfl (zb9 rfl) (za8 c_law_mixed (hr.mono (by decide)) (za1 (za0 4) (za1 (zb6 (od_add.or od_cat) (zb6 (od_add.or od_cat) za3 (zb6 (od_mul.or zn8) za3 (za0 3))) (za0 6)) za5))))) zd6)
  (za4 (zaa4 2 c_law_put (hr.mono (by decide)) (za1 (za0 1) (za1 (za0 5) za5)))
  (za9 (zc9 (i:=5) SC.nd rfl (zb9 rfl) (zb6 zab4 (za0 5) (zb6 (od_mul.or zn8) (za0 1) (za0 1)))))))))) (za9 (zaj5 PassesOwn.never rfl rfl bu.n_range (zb6 (od_add.or od_cat) za3 (zb6 zm4 (za8 c_law_mixed (hr.mono (by decide)) (za1 (za0 4) (za1 (za0 3) za5))) za3)) (ze5 (i:=6) SC.nd rfl (zb9 rfl)) (ze3 6) (za9 (zaa4 2 c_law_put (hr.mono (by decide)) (za1 (za0 1) (za1 (za8 c_law_mixed (hr.mono (by decide)) (za1 (za0 4) (za1 (zb6 (od_add.or od_cat) (zb6 (od_add.or od_cat) za3 (zb6 (od_mul.or zn8) za3 (za0 3))) (za0 6)) za5))) za5)))))))))
 exact za9 (zc0 (zan1 (zh3 (cd_sortD rfl) rfl bu.n_sorted boot_sorted (za1 (za0 2) za5)) za3))
theorem zam7:FnScope ["_law_script", "_law_most", "_law_many"] ["_law_script", "_law_most"] (zb0 zn5):=zl8 rfl rfl rfl rfl (by decide +kernel)
noncomputable def zs9:DS :=
 (dSeq (dAsg 2 (d2 qA (dC (.int 1)) (d2 qR (d2 qV (dT1 (zb2 zc7) (za2 (dVar 0) (za2 (dC (.int 0)) dNil))) (dC (.int 2))) (dVar 1)))) (dRet (dT1 kTup (za2 (dVar 2) (za2 (dT1 (zb2 zg6) (za2 (dVar 0) (za2 (dVar 2) dNil))) dNil)))))
def zj2:List D→Option Ev:=mkG 2 ["_law_script", "_law_most", "_law_many"] zs9
theorem zan3 (Fn:L2.Fun K "_law_web" "_law_web" zn5 ad fd) (bu:Blt mg) (c_law_cell_at:Cal P w K mg base "_law_cell_at" 1 zc7) (c_law_ties:Cal P w K mg base "_law_ties" 2 zg6):FnOk P w K mg base CX0 3 ad fd ["_law_script", "_law_most"] (spD K zj2):=by
 have SC:=zam7
 refine zh7 (k:=2) Fn SC (fun _ _ e=>zf4 e) zs9 (fun _ _ e=>zh6 e) (fun cdv A outer s H E F hr=>?_)
 refine za4 ?_ ?_
 ·exact (zc9 (i:=2) SC.nd rfl (zb9 rfl) (zb6 (od_add.or od_cat) za3 (zb6 zm4 (zb6 zab4 (za8 c_law_cell_at (hr.mono (by decide)) (za1 (za0 0) (za1 za3 za5))) za3) (za0 1))))
 exact za9 (zc0 (zr7 (za1 (za0 2) (za1 (za8 c_law_ties (hr.mono (by decide)) (za1 (za0 0) (za1 (za0 2) za5))) za5))))
theorem zz7:FnScope ["_law_found"] ["_law_found"] (zb0 zj5):=zl8 rfl rfl rfl rfl (by decide +kernel)
def zs8:DS :=
 (dRet (zao4 (dIsi "int" (dVar 0)) (d1 kNotV (dIsi "bool" (dVar 0)))))
def zd0:List D→Option Ev:=mkG 1 ["_law_found"] zs8
theorem zab2 (Fn:L2.Fun K "_law_whole" "_law_whole" zj5 ad fd) (bu:Blt mg) :FnOk P w K mg base CX0 1 ad fd ["_law_found"] (spD K zd0):=by
 have SC:=zz7
 refine zh7 (k:=0) Fn SC (fun _ _ e=>zf4 e) zs8 (fun _ _ e=>zh6 e) (fun cdv A outer s H E F hr=>?_)
 exact za9 (zc0 (zas7 (zp2 isi_int (za0 0) rfl bu.n_isinstance rfl bu.n_int bt_int) (zaf6 (ped_not (zp2 isi_bool (za0 0) rfl bu.n_isinstance rfl bu.n_bool bt_bool)))))
theorem zaf0:FnScope ["_law_web_here"] ["_law_web_here"] (zb0 zl2):=zl8 rfl rfl rfl rfl (by decide +kernel)
noncomputable def zp6:DS :=
 (dRet (d2 (kOr (kI tt2 fun i j=>.int (i+j)) (kOr kCat zm0)) (dT1 kLst (za2 (d2 (kOr (kI tt2 fun i j=>.int (i+j)) (kOr kCat zm0)) (dC (.str "points ")) (dT1 kStr (za2 (d2 kIx (dVar 0) (dC (.int 0))) dNil))) dNil)) (zq0 2 [] (fsL (d2 kIx (dVar 0) (dC (.int 1)))) (K2) zu2 (d2 (kOr (kI tt2 fun i j=>.int (i+j)) (kOr kCat zm0)) (d2 (kOr (kI tt2 fun i j=>.int (i+j)) (kOr kCat zm0)) (d2 (kOr (kI tt2 fun i j=>.int (i+j)) (kOr kCat zm0)) (dC (.str "tie ")) (dT1 kStr (za2 (dVar 0) dNil))) (dC (.str " "))) (dT1 kStr (za2 (dVar 1) dNil))))))
def zf9:List D→Option Ev:=mkG 1 ["_law_web_here"] zp6
theorem zag3 (Fn:L2.Fun K "_law_rows" "_law_rows" zl2 ad fd) (bu:Blt mg) :FnOk P w K mg base CX0 1 ad fd ["_law_web_here"] (spD K zf9):=by
 have SC:=zaf0
 refine zh7 (k:=0) Fn SC (fun _ _ e=>zf4 e) zp6 (fun _ _ e=>zh6 e) (fun cdv A outer s H E F hr=>?_)
 exact za9 (zc0 (zb6 (od_add.or (od_cat.or zs0)) (zaf7 (za1 (zb6 (od_add.or (od_cat.or zs0)) zf3 (zk2 zaw7 rfl bu.n_str zal9 (za1 (zg7 (za0 0) za3) za5))) za5)) (zaa7 2 [] ["_law_one", "_law_other"] rfl (zw7 (zg7 (za0 0) za3)) (fun _ _ _ _ _=>(zaa5 rfl (zf1 (ze5 (i:=0) (show List.Nodup (["_law_one", "_law_other"]:List Str) by decide +kernel) rfl (zb9 rfl)) (zf1 (ze5 (i:=1) (show List.Nodup (["_law_one", "_law_other"]:List Str) by decide +kernel) rfl (zb9 rfl)) zp0)))) (fun _=>(zy9 (ze8 (ze3 0) (ze8 (ze3 1) zo6)))) (fun _ _ _ _ _ _=>zw4) (fun _ _ _ _ _ _=>(zb6 (od_add.or (od_cat.or zs0)) (zb6 (od_add.or (od_cat.or zs0)) (zb6 (od_add.or (od_cat.or zs0)) zf3 (zk2 zaw7 rfl bu.n_str zal9 (za1 (za0 0) za5))) zf3) (zk2 zaw7 rfl bu.n_str zal9 (za1 (za0 1) za5)))))))
theorem zaf1:FnScope ["_law_found", "_law_web_here", "_law_tie"] ["_law_found", "_law_web_here"] (zb0 zl3):=zl8 rfl rfl rfl rfl (by decide +kernel)
noncomputable def bdG:DS:=(dIfS (dOr (dNot (dTr (dIsi "tuple" (dVar 2)))) (dOr (dNot (dTr (dT1 (zb2 zd0) (za2 (d2 kIx (dVar 2) (dC (.int 0))) dNil)))) (dNot (dTr (dT1 (zb2 zd0) (za2 (d2 kIx (dVar 2) (dC (.int 1))) dNil)))))) (dRet (dC (.bl false))) ze1)
noncomputable def zp7:DS :=
 (dSeq (dIfS (dOr (dNot (dTr (dIsi "tuple" (dVar 0)))) (dOr (dBo (d2 kNe (dVar 0) (dVar 1))) (dOr (dNot (dTr (dT1 (zb2 zd0) (za2 (d2 kIx (dVar 0) (dC (.int 0))) dNil)))) (dNot (dTr (dIsi "list" (d2 kIx (dVar 0) (dC (.int 1))))))))) (dRet (dC (.bl false))) ze1) (dSeq (dFor (zb8 2) (d2 kIx (dVar 0) (dC (.int 1))) bdG) (dRet (dC (.bl true)))))
def zc6:List D→Option Ev:=mkG 2 ["_law_found", "_law_web_here", "_law_tie"] zp7
theorem zag4 (Fn:L2.Fun K "_law_good" "_law_good" zl3 ad fd) (bu:Blt mg) (c_law_whole:Cal P w K mg base "_law_whole" 1 zd0):FnOk P w K mg base CX0 2 ad fd ["_law_found", "_law_web_here"] (spD K zc6):=by
 have SC:=zaf1
 refine zh7 (k:=1) Fn SC (fun _ _ e=>zf4 e) zp7 (fun _ _ e=>zh6 e) (fun cdv A outer s H E F hr=>?_)
 refine za4 ?_ ?_
 ·exact (zg1 (L2.PW.pt (zk1 (zg0 (zg4 (zp2 zac1 (za0 0) rfl bu.n_isinstance rfl bu.n_tuple zal8))) (zk1 (zd5 (zag5 hr.units) (za0 0) (za0 1)) (zk1 (zg0 (zg4 (za8 c_law_whole (hr.mono (by decide)) (za1 (zg7 (za0 0) za3) za5)))) (zm7 (zg0 (zg4 (zp2 isi_list (zg7 (za0 0) za3) rfl bu.n_isinstance rfl bu.n_list zax3)))))))) (za9 (zc0 zq2)) zd6)
 refine za4 ?_ ?_
 ·exact (psd_for PassesOwn.never rfl (zg7 (za0 0) za3) (ze5 (i:=2) SC.nd rfl (zb9 rfl)) (ze3 2) (za9 (zg1 (L2.PW.pt (zk1 (zg0 (zg4 (zp2 zac1 (za0 2) rfl bu.n_isinstance rfl bu.n_tuple zal8))) (zk1 (zg0 (zg4 (za8 c_law_whole (hr.mono (by decide)) (za1 (zg7 (za0 2) za3) za5)))) (zm7 (zg0 (zg4 (za8 c_law_whole (hr.mono (by decide)) (za1 (zg7 (za0 2) za3) za5)))))))) (za9 (zc0 zq2)) zd6)))
 exact za9 (zc0 zq2)
theorem sc_law:FnScope ["_law_script", "_law_web_here", "_law_text", "_law_handed", "_law_told", "_law_found", "_law_other"] ["_law_script"] (zb0 s_law):=zl8 rfl rfl rfl rfl (by decide +kernel)
noncomputable def g_law:DS :=
 (dSeq (dAsg 1 (dT1 (zb2 zj2) (za2 (dVar 0) (za2 (dC (.int 60)) dNil)))) (dSeq (dAsg 2 (d2 zx4 (dC (.str "\n")) (dT1 (zb2 zf9) (za2 (dVar 1) dNil)))) (dSeq (dAsg 3 (dT1 kTup (za2 (d2 kIx (dVar 1) (dC (.int 0))) (za2 (dT1 zah1 (za2 (d2 kIx (dVar 1) (dC (.int 1))) dNil)) dNil)))) (dSeq (dAsg 4 (dT1 (zb2 zd7) (za2 (dVar 3) dNil))) (dSeq (dIfS (dOr (dNot (dTr (dIsi "str" (dVar 4)))) (dOr (dBo (d2 kNe (dVar 4) (dVar 2))) (dBo (d2 kNe (dVar 3) (dVar 1))))) (dRet (dC (.bl false))) ze1) (dSeq (dAsg 5 (dT1 (zb2 zd4) (za2 (dVar 2) dNil))) (dSeq (dIfS (dNot (dTr (dT1 (zb2 zc6) (za2 (dVar 5) (za2 (dVar 1) dNil))))) (dRet (dC (.bl false))) ze1) (dSeq (dAsg 6 (dT1 kTup (za2 (d2 kIx (dVar 1) (dC (.int 0))) (za2 (dSlF (dC (.int 1)) (d2 kIx (dVar 1) (dC (.int 1)))) dNil)))) (dSeq (dIfS (dOr (dNot (dTr (dT1 (zb2 zc6) (za2 (dT1 (zb2 zd4) (za2 (d2 zx4 (dC (.str "\n")) (dT1 (zb2 zf9) (za2 (dVar 6) dNil))) dNil)) (za2 (dVar 6) dNil))))) (dNot (dTr (dT1 (zb2 zc6) (za2 (dVar 5) (za2 (dVar 1) dNil)))))) (dRet (dC (.bl false))) ze1) (dSeq (zaw2 5 [(dC (.int 1))] (dT1 kTup (za2 (dC (.int 0)) (za2 (dC (.int 1)) dNil)))) (dRet (zao4 (dT1 (zb2 zc6) (za2 (dT1 (zb2 zd4) (za2 (dVar 2) dNil)) (za2 (dVar 1) dNil))) (d2 kEq (dT1 (zb2 zd7) (za2 (dVar 3) dNil)) (dVar 2))))))))))))))
noncomputable def G_law:List D→Option Ev:=mkG 1 ["_law_script", "_law_web_here", "_law_text", "_law_handed", "_law_told", "_law_found", "_law_other"] g_law
theorem ok_law (Fn:L2.Fun K "law" "law" s_law ad fd) (bu:Blt mg) (c_law_web:Cal P w K mg base "_law_web" 3 zj2) (c_law_rows:Cal P w K mg base "_law_rows" 1 zf9) (c_shown_web:Cal P w K mg base "shown_web" 1 zd7) (c_read_web:Cal P w K mg base "read_web" 4 zd4) (c_law_good:Cal P w K mg base "_law_good" 2 zc6):FnOk P w K mg base CX0 5 ad fd ["_law_script"] (spD K G_law):=by
 have SC:=sc_law
 refine zh7 (k:=4) Fn SC (fun _ _ e=>zf4 e) g_law (fun _ _ e=>zh6 e) (fun cdv A outer s H E F hr=>?_)
 refine za4 ?_ ?_
 ·exact (zc9 (i:=1) SC.nd rfl (zb9 rfl) (za8 c_law_web (hr.mono (by decide)) (za1 (za0 0) (za1 za3 za5))))
 refine za4 ?_ ?_
 ·exact (zc9 (i:=2) SC.nd rfl (zb9 rfl) (zw8 zf3 (za8 c_law_rows (hr.mono (by decide)) (za1 (za0 1) za5))))
 refine za4 ?_ ?_
 ·exact (zc9 (i:=3) SC.nd rfl (zb9 rfl) (zr7 (za1 (zg7 (za0 1) za3) (za1 (zk2 cd_list rfl bu.n_list zax3 (za1 (zg7 (za0 1) za3) za5)) za5))))
 refine za4 ?_ ?_
 ·exact (zc9 (i:=4) SC.nd rfl (zb9 rfl) (za8 c_shown_web (hr.mono (by decide)) (za1 (za0 3) za5)))
 refine za4 ?_ ?_
 ·exact (zg1 (L2.PW.pt (zk1 (zg0 (zg4 (zp2 isi_str (za0 4) rfl bu.n_isinstance rfl bu.n_str zal9))) (zk1 (zd5 (zag5 hr.units) (za0 4) (za0 2)) (zm7 (zd5 (zag5 hr.units) (za0 3) (za0 1)))))) (za9 (zc0 zq2)) zd6)
 refine za4 ?_ ?_
 ·exact (zc9 (i:=5) SC.nd rfl (zb9 rfl) (za8 c_read_web (hr.mono (by decide)) (za1 (za0 2) za5)))
 refine za4 ?_ ?_
 ·exact (zg1 (zg0 (zg4 (za8 c_law_good (hr.mono (by decide)) (za1 (za0 5) (za1 (za0 1) za5))))) (za9 (zc0 zq2)) zd6)
 refine za4 ?_ ?_
 ·exact (zc9 (i:=6) SC.nd rfl (zb9 rfl) (zr7 (za1 (zg7 (za0 1) za3) (za1 (zp1 (zg7 (za0 1) za3) za3) za5))))
 refine za4 ?_ ?_
 ·exact (zg1 (L2.PW.pt (zk1 (zg0 (zg4 (za8 c_law_good (hr.mono (by decide)) (za1 (za8 c_read_web (hr.mono (by decide)) (za1 (zw8 zf3 (za8 c_law_rows (hr.mono (by decide)) (za1 (za0 6) za5))) za5)) (za1 (za0 6) za5))))) (zm7 (zg0 (zg4 (za8 c_law_good (hr.mono (by decide)) (za1 (za0 5) (za1 (za0 1) za5)))))))) (za9 (zc0 zq2)) zd6)
 refine za4 ?_ ?_
 ·exact (psd_appP 5 (pl_ix (pl_var 5) za3) (zr7 (za1 za3 (za1 za3 za5))))
 exact za9 (zc0 (zas7 (za8 c_law_good (hr.mono (by decide)) (za1 (za8 c_read_web (hr.mono (by decide)) (za1 (za0 2) za5)) (za1 (za0 1) za5))) (zaf6 (zas6 (od_eq hr.units) (za8 c_shown_web (hr.mono (by decide)) (za1 (za0 3) za5)) (za0 2)))))
end KX
namespace KX
open PySem.Spec L2 DL
theorem cell_of (ns:List Int) (hb:∀n∈ns,n.natAbs<bndS) (k:Nat):∃v:Int,v.natAbs<bndS∧zc7 [.lst (ns.map D.int),.int (k:Int)]=some (.cl (.int v)):=by
 have hbig:=bnd_big
 by_cases h:k<ns.length
 ·refine⟨ns[k],hb _ (zbe3 h),?_⟩
  have h1:((k:Int)<((ns.map D.int).length:Int)):=by simp;lia
  have h2:atI (ns.map D.int) (k:Int)=some (.int ns[k]):=by
   unfold atI ixN
   rw [if_pos (by lia),if_pos h1]
   simp [h]
  show (ze0 [.val (.lst (ns.map D.int)),.val (.int (k:Int))]).bind zi9=_
  simp only [ze0,dSeq,dIfS,dBo,d2,dVar,dT1,za2,dNil,kLen,Ev.d,kI,tt2,zaz3,zbl4,zbg0,if_true]
  rw [decide_eq_true h1]
  simp [dRet,d2,dVar,kIx,Ev.d,h2,zi9,Ev.ok]
 ·refine⟨0,by simp;lia,?_⟩
  have h1 : ¬ ((k:Int)<((ns.map D.int).length:Int)):=by simp;lia
  show (ze0 [.val (.lst (ns.map D.int)),.val (.int (k:Int))]).bind zi9=_
  simp only [ze0,dSeq,dIfS,dBo,d2,dVar,dT1,za2,dNil,kLen,Ev.d,kI,tt2,zaz3,zbl4,zbg0,if_true]
  rw [decide_eq_false h1]
  simp [dRet,ze1,dC,zi9]
theorem zax2 (ns:List Int) (hb:∀n∈ns,n.natAbs<bndS) (k:Nat):∃v:Int,v.natAbs<bndS∧zb2 zc7 [.cl (.lst (ns.map D.int)),.cl (.int (k:Int))]=some (.cl (.int v)):=by
 obtain⟨v,h,e⟩:=cell_of ns hb k
 exact⟨v,h,by simp [zb2,Ev.d,e,upEv,Ev.ok]⟩
theorem zal3 (ns:List Int) (hb:∀n∈ns,n.natAbs<bndS) (k:Nat) (r:Th):∃v:Int,v.natAbs<bndS∧(dT1 (zb2 zc7) (za2 (dVar 0) (za2 (dC (.int (k:Int))) dNil))) (.val (.lst (ns.map D.int))::r)=some (.cl (.int v)):=by
 obtain⟨v,h,e⟩:=zax2 ns hb k
 exact⟨v,h,(zr3 (ra:=.cl (.lst (ns.map D.int))) (rb:=.cl (.int (k:Int))) rfl rfl).trans e⟩
theorem fm {a b:Int} (h:0<b):0≤a.fmod b∧a.fmod b<b:=fmod_pos h
theorem mixed_is (c:Int) {k:Int} (k0:0≤k) (k1:k<100000):∃m:Int,0≤m∧m<2147483648∧zf8 [.int c,.int k]=some (.cl (.int m)):=by
 show ∃m:Int,0≤m∧m<2147483648∧(zn1 [.val (.int c),.val (.int k),.no]).bind zi9=some (.cl (.int m))
 have q1:=fm (a:=c) (b:=2147483647) (by decide)
 have kk:0≤69621*k*k∧69621*k*k≤69621*100000*100000:=by
  have h1:0≤69621*k:=by lia
  have h2:69621*k*k≤69621*100000*k:=zbi5 (by lia) k0
  exact⟨Int.mul_nonneg h1 k0,by lia⟩
 have e1:=zq4 (zm6 (zm6 (zq4 (fa:=dVar 0) (fb:=dC (.int 2147483647)) (t:=[.val (.int c),.val (.int k),.no]) (a:=c) (b:=2147483647) rfl rfl (by decide)) (zq3 (zq3 (fa:=dC (.int 69621)) (fb:=dVar 1) (t:=[.val (.int c),.val (.int k),.no]) (a:=69621) (b:=k) rfl rfl (zi5 (by decide) (by decide)) (zi5 (by lia) (by lia))) (rfl:dVar 1 _=some (.cl (.int k))) (zi5 (by lia) (by lia)) (zi5 (by lia) (by lia)))) (rfl:dC (.int 40014) _=some (.cl (.int 40014)))) (rfl:dC (.int 2147483647) _=some (.cl (.int 2147483647))) (by decide)
 have E1:=zj0 (i:=2) e1 (by simp)
 generalize hn:(Int.fmod (c.fmod 2147483647+69621*k*k+40014) 2147483647)=n at E1
 have q2:0≤n∧n<2147483647:=by rw [← hn];exact fm (by decide)
 let t:Th:=[.val (.int c),.val (.int k),.val (.int n)]
 have e2:=zq4 (zm6 (zm6 (zq3 (fa:=dVar 2) (fb:=dVar 2) (t:=t) (a:=n) (b:=n) rfl rfl (zi5 (by lia) (by lia)) (zi5 (by lia) (by lia))) (zq3 (fa:=dC (.int 7919)) (fb:=dVar 1) (t:=t) (a:=7919) (b:=k) rfl rfl (zi5 (by decide) (by decide)) (zi5 (by lia) (by lia)))) (rfl:dC (.int 1) t=some (.cl (.int 1)))) (rfl:dC (.int 2147483629) t=some (.cl (.int 2147483629))) (by decide)
 have E2:=zj0 (i:=2) e2 (by simp [t])
 generalize hn2:(Int.fmod (n*n+7919*k+1) 2147483629)=n2 at E2
 have q3:0≤n2∧n2<2147483629:=by rw [← hn2];exact fm (by decide)
 let t2:Th:=[.val (.int c),.val (.int k),.val (.int n2)]
 have e3:=zq4 (zm6 (zq3 (fa:=dVar 2) (fb:=dVar 2) (t:=t2) (a:=n2) (b:=n2) rfl rfl (zi5 (by lia) (by lia)) (zi5 (by lia) (by lia))) (zq3 (fa:=dC (.int 104729)) (fb:=dVar 1) (t:=t2) (a:=104729) (b:=k) rfl rfl (zi5 (by decide) (by decide)) (zi5 (by lia) (by lia)))) (rfl:dC (.int 2147483587) t2=some (.cl (.int 2147483587))) (by decide)
 have q4:=fm (a:=n2*n2+104729*k) (b:=2147483587) (by decide)
 have e4:=zak7 e3 (rfl:dC (.int 64) t2=some (.cl (.int 64))) (by decide) (zi5 (by decide) (by decide))
 have dd:∀x:Int,0≤x→x<2147483587→0≤x.fdiv 64∧x.fdiv 64<2147483648:=fun x h0 h1=>by
  rw [Int.fdiv_eq_ediv_of_nonneg x (by decide)]
  lia
 exact⟨_,(dd _ q4.1 q4.2).1,(dd _ q4.1 q4.2).2,bnd ((zb7 E1).trans ((zb7 E2).trans (zr5 e4)))⟩
theorem zv8 {r1 r2:Ev} (c:Int) {k:Int} (k0:0≤k) (k1:k<100000) (h1:r1.d=.int c) (h2:r2.d=.int k):∃m:Int,0≤m∧m<2147483648∧zb2 zf8 [r1,r2]=some (.cl (.int m)):=by
 obtain⟨m,a,b,e⟩:=mixed_is c k0 k1
 refine⟨m,a,b,zah6 ?_ rfl⟩
 simp only [zba2,zbm8,h1,h2]
 exact e
theorem for_C {k:D→Th→Option Th}{b:DS}{P:Nat→Th→Prop}{C:Nat}:∀(ds:List D) (c:Nat),(∀d∈ds,∀c t,c<C→P c t→∃t1 t2,k d t=some t1∧b t1=some (.nx t2)∧P (c+1) t2)→c+ds.length≤C→∀t,P c t→∃t',forD k b ds t=some (.nx t')∧P (c+ds.length) t'
 |[],c,_,_,t,h=>⟨t,rfl,h⟩
 |d::ds,c,hd,hc,t,h=>by
  simp only [zbe2]at hc
  obtain⟨t1,t2,e1,e2,h2⟩:=hd d (zaz0 ..) c t (by lia) h
  obtain⟨t',e,h'⟩:=for_C ds (c+1) (fun d' hd'=>hd d' (zay5 _ hd')) (by lia) t2 h2
  refine⟨t',by simp only [forD,e1,e2,zaz3];exact e,?_⟩
  rw [show c+(d::ds).length=c+1+ds.length by simp only [zbe2];lia]
  exact h'
theorem zak5:∀(cs:List Int) (i:Nat),∀d∈zp9 i (cs.map D.int),∃(j:Nat) (c:Int),d=.tup [.int (j:Int),.int c]∧j<i+cs.length
 |[],i,d,h=>by cases h
 |c::cs,i,d,h=>by
  rcases zaz2.mp h with z | z
  ·exact⟨i,c,z,by simp only [zbe2];lia⟩
  ·obtain⟨j,c',e,l⟩:=zak5 cs (i+1) d z
   exact⟨j,c',e,by simp only [zbe2];lia⟩
def OkP (M:Int) (ps:List (Int×Int)):Prop := ∀q∈ps,0≤q.1∧q.1<q.2∧q.2<M
def OkN (M:Int) (ps:List (Int×Int)):Prop:=OkP M ps∧ps.Nodup
theorem put_of {M:Int} (h0:0<M) (h1:M≤1000) {ps:List (Int×Int)} (hl:ps.length<100000) (hp:OkN M ps) (n:Int):∃ps',putG ps [M,n]=some ps'∧ps'.length≤ps.length+1∧OkN M ps':=by
 have a:=fm (a:=n) h0
 have b:=fm (a:=n.fdiv M) h0
 unfold putG
 simp only
 rw [if_pos ⟨h0,zi5 (by lia) (by lia),hl⟩]
 by_cases z:n.fmod M=(n.fdiv M).fmod M
 ·rw [if_pos z]
  exact⟨ps,rfl,by lia,hp⟩
 ·rw [if_neg z]
  refine⟨_,rfl,?_,?_⟩
  ·unfold zam9;split
   ·lia
   ·simp
  ·refine⟨?_,?_⟩
   ·intro q hq
    have m:q∈ps∨q=zaf9 M n:=by
     unfold zam9 at hq
     split at hq
     ·exact .inl hq
     ·exact (zay8.mp hq).imp_right fun w=>by simpa using w
    rcases m with m | m
    ·exact hp.1 q m
    ·subst m
     unfold zaf9
     simp only
     split<;>split<;>lia
   ·unfold zam9
    split
    ·exact hp.2
    ·rename_i c
     refine zba4.mpr ⟨hp.2,by simp,fun x hx y hy e=>c (by rw [zbb0.mp hy]at e;rw [← e];exact hx)⟩
theorem zal6 {t:Th}{ga:DA}{i:Nat}{ps ps':List (Int×Int)}{M n:Int} (hi:t[i]?=some (.dp (.pdc ps))) (hg:ga t=some [.cl (.int M),.cl (.int n)]) (hp:putG ps [M,n]=some ps'):zv6 i putG ga t=some (.nx (t.set i (.dp (.pdc ps')))):=by
 unfold zv6
 rw [hi]
 show (ga t).bind _=_
 rw [hg]
 show (putG ps [M,n]).map _=_
 rw [hp]
 rfl
theorem zap5 {s0 s1 s2 s5:Sl}{k x:Nat}{cell:Int} (hk:k<1000) (hx:x<1000):∃m:Int,tieN [s0,s1,s2,.val (.int (k:Int)),.val (.int cell),s5,.val (.int (x:Int))]=some (.cl (.int m)):=by
 let t:Th:=[s0,s1,s2,.val (.int (k:Int)),.val (.int cell),s5,.val (.int (x:Int))]
 have e:=zm6 (zm6 (fa:=dC (.int 64)) (t:=t) (a:=64) rfl (zq3 (fa:=dC (.int 6)) (fb:=dVar 3) (t:=t) (a:=6) (b:=(k:Int)) rfl rfl (zi5 (by decide) (by decide)) (zi5 (by lia) (by lia)))) (rfl:dVar 6 t=some (.cl (.int (x:Int))))
 obtain⟨m,_,_,em⟩:=zv8 (r1:=.cl (.int cell)) (r2:=.cl (.int (64+6*(k:Int)+(x:Int)))) cell (k:=64+6*(k:Int)+(x:Int)) (by lia) (by lia) rfl rfl
 exact⟨m,(zr3 (rfl:dVar 4 t=some (.cl (.int cell))) e).trans em⟩
noncomputable def PA (N:Sl) (M:Int) (s3 s4:Sl) (c0:Nat) (c:Nat) (t:Th):Prop := ∃(ps:List (Int×Int)) (n:Int) (s6:Sl),t=[N,.val (.int M),.dp (.pdc ps),s3,s4,.val (.int n),s6]∧ps.length≤c0+c∧OkN M ps
noncomputable def PB (N:Sl) (M:Int) (s3 s4 s5:Sl) (c0:Nat) (c:Nat) (t:Th):Prop := ∃ps s6,t=[N,.val (.int M),.dp (.pdc ps),s3,s4,s5,s6]∧ps.length≤c0+c∧OkN M ps
theorem zat2 {n:Nat}{d:D} (h:d∈(zab6 n).map D.int):∃x:Nat,d=.int (x:Int)∧x<n:=by
 obtain⟨y,hy,rfl⟩:=zbd8.mp h
 unfold zab6 at hy
 obtain⟨x,hx,rfl⟩:=zbd8.mp hy
 exact⟨x,rfl,zbn0.mp hx⟩
theorem zl5 (n:Nat):((zab6 n).map D.int).length=n:=by simp [zab6]
theorem turn_A {N:Sl}{M:Int} (m0:0<M) (m1:M≤1000) {k x:Nat}{cell:Int} (hk:k<1000) (hx:x<1000) {c0 c:Nat} (hc:c0+c<90000) {t:Th} (h:PA N M (.val (.int (k:Int))) (.val (.int cell)) c0 c t):∃t1 t2,zb8 6 (.int (x:Int)) t=some t1∧bdT1 t1=some (.nx t2)∧PA N M (.val (.int (k:Int))) (.val (.int cell)) c0 (c+1) t2:=by
 obtain⟨ps,n,s6,rfl,hl,hp⟩:=h
 refine⟨[N,.val (.int M),.dp (.pdc ps),.val (.int (k:Int)),.val (.int cell),.val (.int n),.val (.int (x:Int))],?_⟩
 have E1:∃n':Int,(dIfS (dBo (d2 qE (dVar 5) (dC (.int 0)))) (dAsg 5 tieN) ze1) [N,.val (.int M),.dp (.pdc ps),.val (.int (k:Int)),.val (.int cell),.val (.int n),.val (.int (x:Int))]=some (.nx [N,.val (.int M),.dp (.pdc ps),.val (.int (k:Int)),.val (.int cell),.val (.int n'),.val (.int (x:Int))]):=by
  have cnd:(dBo (d2 qE (dVar 5) (dC (.int 0)))) [N,.val (.int M),.dp (.pdc ps),.val (.int (k:Int)),.val (.int cell),.val (.int n),.val (.int (x:Int))]=some (decide (n≤0)):=rfl
  by_cases z:n≤0
  ·obtain⟨m,em⟩:=zap5 (s0:=N) (s1:=.val (.int M)) (s2:=.dp (.pdc ps)) (s5:=.val (.int n)) (cell:=cell) hk hx
   exact⟨m,(ifs_t cnd (decide_eq_true z)).trans (zj0 (i:=5) em (by simp))⟩
  ·exact⟨n,grd cnd (decide_eq_false z)⟩
 obtain⟨n',E1⟩:=E1
 obtain⟨ps',eg,l',ok'⟩:=put_of m0 m1 (ps:=ps) (by lia) hp n'
 have E2:=zal6 (i:=2) (ga:=(za2 (dVar 1) (za2 (dVar 5) dNil))) (t:=[N,.val (.int M),.dp (.pdc ps),.val (.int (k:Int)),.val (.int cell),.val (.int n'),.val (.int (x:Int))]) (M:=M) (n:=n') rfl rfl eg
 have mm:0<M*M∧M*M≤1000000:=by
  have h1:M*M≤1000*M:=zbi5 m1 (by lia)
  exact⟨Int.mul_pos m0 m0,by lia⟩
 have E3:=zj0 (i:=5) (zak7 (fa:=dVar 5) (t:=[N,.val (.int M),.dp (.pdc ps'),.val (.int (k:Int)),.val (.int cell),.val (.int n'),.val (.int (x:Int))]) (a:=n') rfl (zq3 (fa:=dVar 1) (fb:=dVar 1) (a:=M) (b:=M) rfl rfl (zi5 (by lia) (by lia)) (zi5 (by lia) (by lia))) (by lia) (zi5 (by lia) (by lia))) (by simp)
 exact⟨_,rfl,(zb7 E1).trans ((zb7 E2).trans E3),ps',_,_,rfl,by lia,ok'⟩
theorem turn_B {N:Sl}{M:Int} (m0:0<M) (m1:M≤1000) {k x:Nat}{cell:Int}{s5:Sl} (hk:k<1000) (hx:x<1000) {c0 c:Nat} (hc:c0+c<90000) {t:Th} (h:PB N M (.val (.int (k:Int))) (.val (.int cell)) s5 c0 c t):∃t1 t2,zb8 6 (.int (x:Int)) t=some t1∧bdT2 t1=some (.nx t2)∧PB N M (.val (.int (k:Int))) (.val (.int cell)) s5 c0 (c+1) t2:=by
 obtain⟨ps,s6,rfl,hl,hp⟩:=h
 obtain⟨m,em⟩:=zap5 (s0:=N) (s1:=.val (.int M)) (s2:=.dp (.pdc ps)) (s5:=s5) (cell:=cell) hk hx
 obtain⟨ps',eg,l',ok'⟩:=put_of m0 m1 (ps:=ps) (by lia) hp m
 have E2:=zal6 (i:=2) (ga:=(za2 (dVar 1) (za2 tieN dNil))) (t:=[N,.val (.int M),.dp (.pdc ps),.val (.int (k:Int)),.val (.int cell),s5,.val (.int (x:Int))]) (M:=M) (n:=m) rfl (cns rfl (cns em rfl)) eg
 exact⟨_,_,rfl,E2,ps',_,rfl,by lia,ok'⟩
noncomputable def PT (N:Sl) (M:Int) (c:Nat) (t:Th):Prop := ∃ps s3 s4 s5 s6,t=[N,.val (.int M),.dp (.pdc ps),s3,s4,s5,s6]∧ps.length≤61*c∧OkN M ps
theorem turn_T (ns:List Int) (hb:∀n∈ns,n.natAbs<bndS) {M:Int} (m0:0<M) (m1:M≤1000) {k:Nat}{cell:Int} (hk:k<1000) {c:Nat} (hc:c<100) {t:Th} (h:PT (.val (.lst (ns.map D.int))) M c t):∃t1 t2,(zu1 2 (ze2 (zb8 3) (ze2 (zb8 4) zs6))) (.tup [.int (k:Int),.int cell]) t=some t1∧bdT t1=some (.nx t2)∧PT (.val (.lst (ns.map D.int))) M (c+1) t2:=by
 obtain⟨ps,s3,s4,s5,s6,rfl,hl,hp⟩:=h
 let N:Sl:=.val (.lst (ns.map D.int))
 let t:Th:=[N,.val (.int M),.dp (.pdc ps),.val (.int (k:Int)),.val (.int cell),s5,s6]
 refine⟨t,?_⟩
 obtain⟨v0,_,e0⟩:=zal3 ns hb 0 [.val (.int M),.dp (.pdc ps),.val (.int (k:Int)),.val (.int cell),s5,s6]
 have cnd:=eqI_of (zq4 e0 (fb:=dC (.int 2)) rfl (by decide)) (fb:=dC (.int 0)) rfl
 unfold bdT
 by_cases z:v0.fmod 2=0
 ·have E1:=zj0 (i:=5) (t:=t) (zak7 (fa:=dVar 4) (fb:=dC (.int 61)) (t:=t) (a:=cell) (b:=61) rfl rfl (by decide) (zi5 (by decide) (by decide))) (by simp [t])
  have q:=fm (a:=cell) (b:=61) (by decide)
  obtain⟨n,hn⟩:∃n:Nat,cell.fmod 61=(n:Int):=⟨(cell.fmod 61).toNat,by lia⟩
  let t1:Th:=[N,.val (.int M),.dp (.pdc ps),.val (.int (k:Int)),.val (.int cell),.val (.int (cell.fdiv 61)),s6]
  have em:=zq4 (fa:=dVar 4) (fb:=dC (.int 61)) (t:=t1) (a:=cell) (b:=61) rfl rfl (by decide)
  rw [hn]at em
  have E2:=zaq4 (k0:=zb8 6) (b:=bdT1) em rfl (by lia)
  obtain⟨t2,E3,ps2,n2,u6,rfl,l2,o2⟩:=for_C (k:=zb8 6) (b:=bdT1) (P:=PA N M (.val (.int (k:Int))) (.val (.int cell)) (61*c)) (C:=61) ((zab6 n).map D.int) 0 (fun d hd c' t' hc' h'=>by
   obtain⟨x,rfl,hx⟩:=zat2 hd
   exact turn_A m0 m1 hk (by lia) (by lia) h') (by rw [zl5];lia) t1 ⟨ps,_,_,rfl,by lia,hp⟩
  rw [zl5]at l2
  exact⟨_,rfl,(ifs_t cnd (decide_eq_true z)).trans ((zb7 E1).trans (E2.trans E3)),ps2,_,_,_,_,rfl,by lia,o2⟩
 ·obtain⟨m,_,_,em⟩:=zv8 (r1:=.cl (.int cell)) (r2:=.cl (.int (k:Int))) cell (k:=(k:Int)) (by lia) (by lia) rfl rfl
  have e1:(dT1 (zb2 zf8) (za2 (dVar 4) (za2 (dVar 3) dNil))) t=some (.cl (.int m)):=(zr3 (rfl:dVar 4 t=some (.cl (.int cell))) (rfl:dVar 3 t=some (.cl (.int (k:Int))))).trans em
  have q:=fm (a:=m) (b:=6) (by decide)
  obtain⟨n,hn⟩:∃n:Nat,1+m.fmod 6=(n:Int):=⟨(1+m.fmod 6).toNat,by lia⟩
  have e2:=zm6 (fa:=dC (.int 1)) (t:=t) (a:=1) rfl (zq4 e1 (rfl:dC (.int 6) t=some (.cl (.int 6))) (by decide))
  rw [hn]at e2
  have E2:=zaq4 (k0:=zb8 6) (b:=bdT2) e2 rfl (by lia)
  obtain⟨t2,E3,ps2,u6,rfl,l2,o2⟩:=for_C (k:=zb8 6) (b:=bdT2) (P:=PB N M (.val (.int (k:Int))) (.val (.int cell)) s5 (61*c)) (C:=61) ((zab6 n).map D.int) 0 (fun d hd c' t' hc' h'=>by
   obtain⟨x,rfl,hx⟩:=zat2 hd
   exact turn_B m0 m1 hk (by lia) (by lia) h') (by rw [zl5];lia) t ⟨ps,_,rfl,by lia,hp⟩
  rw [zl5]at l2
  exact⟨_,rfl,(ifs_f cnd (decide_eq_false z)).trans (E2.trans E3),ps2,_,_,_,_,rfl,by lia,o2⟩
def tD (u:Nat×Nat):D:=pD ((u.1:Int),(u.2:Int))
theorem tD_pD (us:List (Nat×Nat)):us.map tD=(us.map fun u=>(((u.1:Int),(u.2:Int)):Int×Int)).map pD:=by rw [zbf1];rfl
theorem to_tD {M:Nat}:∀ps:List (Int×Int),OkP (M:Int) ps→∃us:List (Nat×Nat),us.length=ps.length∧(∀u∈us,u.1<u.2∧u.2<M)∧ps.map pD=us.map tD∧ps=us.map fun u=>(((u.1:Int),(u.2:Int)):Int×Int)
 |[],_=>⟨[],rfl,(fun u hu=>nomatch hu),rfl,rfl⟩
 |p::ps,h=>by
  obtain⟨us,l,o,e,e'⟩:=to_tD ps fun q hq=>h q (zay5 _ hq)
  obtain⟨h0,h1,h2⟩:=h p (zaz0 ..)
  obtain⟨a,b⟩:=p
  simp only at h0 h1 h2
  obtain⟨x,rfl⟩:=zbl5 h0
  obtain⟨y,rfl⟩:=zbl5 (show 0≤b by lia)
  refine⟨(x,y)::us,by simp [l],fun u hu=>?_,by rw [zba2,zba2,e];rfl,by rw [zba2, ← e']⟩
  rcases zaz2.mp hu with rfl | z
  ·exact⟨by simpa using h1,by simpa using h2⟩
  ·exact o u z
theorem ties_is (ns:List Int) (hl:ns.length≤63) (hb:∀n∈ns,n.natAbs<bndS) {M:Nat} (m0:0<M) (m1:M≤1000):∃us:List (Nat×Nat),us.length≤400∧(∀u∈us,u.1<u.2∧u.2<M)∧(us.Pairwise fun u v=>u.1<v.1∨u.1=v.1∧u.2<v.2)∧zg6 [.lst (ns.map D.int),.int (M:Int)]=some (.nw (us.map tD)):=by
 let N:Sl:=.val (.lst (ns.map D.int))
 have m0':(0:Int)<(M:Int):=by lia
 have m1':(M:Int)≤1000:=by lia
 obtain⟨cs,lc,ec⟩:∃cs:List Int,cs.length≤63∧(dSl (dC (.int 3)) (dC (.int 62)) (dVar 0)) [N,.val (.int (M:Int)),.dp (.pdc []),.no,.no,.no,.no]=some (.nw (cs.map D.int)):=by
  refine⟨(ns.drop (HT.sIx ns.length 0 (some 3))).take (HT.sIx ns.length ns.length (some 62) - HT.sIx ns.length 0 (some 3)),by rw [zbj3,zbj4];lia,?_⟩
  simp [N,dSl,dC,dVar,Ev.d,Ev.ok,List.map_take,List.map_drop]
 obtain⟨t2,E3,ps,s3,s4,s5,s6,rfl,l2,o2⟩:=for_C (k:=(zu1 2 (ze2 (zb8 3) (ze2 (zb8 4) zs6)))) (b:=bdT) (P:=PT N (M:Int)) (C:=100) (zp9 0 (cs.map D.int)) 0 (fun d hd c' t' hc' h'=>by
   obtain⟨j,c,rfl,hj⟩:=zak5 cs 0 d hd
   exact turn_T ns hb m0' m1' (by lia) hc' h') (by rw [zh8,zbc4];lia) [N,.val (.int (M:Int)),.dp (.pdc []),.no,.no,.no,.no] ⟨[],_,_,_,_,rfl,by simp,(fun q hq=>nomatch hq),zbf4⟩
 rw [zh8,zbc4]at l2
 have E2:(zaw1 (zu1 2 (ze2 (zb8 3) (ze2 (zb8 4) zs6))) (dSl (dC (.int 3)) (dC (.int 62)) (dVar 0)) bdT) [N,.val (.int (M:Int)),.dp (.pdc []),.no,.no,.no,.no]=some (.nx [N,.val (.int (M:Int)),.dp (.pdc ps),s3,s4,s5,s6]):=by
  unfold zaw1
  rw [ec]
  exact E3
 have es:(dT1 zab8 (za2 (dVar 2) dNil)) [N,.val (.int (M:Int)),.dp (.pdc ps),s3,s4,s5,s6]=some (.nw ((TS.sortP ps).map pD)):=by
  rw [zo7 (ra:=.tm (.pdc ps)) rfl]
  unfold zab8
  simp only [Ev.d]
  rw [if_pos ⟨by lia,zbg5.mpr fun q hq=>by have:=o2.1 q hq;exact decide_eq_true (by lia)⟩]
  rfl
 have E4:=slu_pD (fb:=dC (.int 400)) (n:=400) es rfl rfl
 have mm:∀q∈(TS.sortP ps).take 400,0≤q.1∧q.1<q.2∧q.2<(M:Int):=fun q hq=>o2.1 q ((TS.sortP_perm ps).mem_iff.mp (zbc9 hq))
 obtain⟨us,ul,uo,ue,ue'⟩:=to_tD (M:=M) ((TS.sortP ps).take 400) mm
 have so:((TS.sortP ps).take 400).Pairwise fun a b=>TS.rkP a<TS.rkP b:=by
  have h1:=(TS.sortP_sorted ps).sublist (zbk9 400 _)
  have h2:((TS.sortP ps).take 400).Nodup:=((TS.sortP_perm ps).nodup_iff.mpr o2.2).sublist (zbk9 400 _)
  refine (h1.and h2).imp_of_mem fun {a b} ha hb h=>?_
  have q1:=mm a ha
  have q2:=mm b hb
  rcases Int.lt_or_eq_of_le h.1 with z | z
  ·exact z
  ·exact absurd (TS.rkP_inj ⟨by lia,by lia⟩ ⟨by lia,by lia⟩ z) h.2
 have so2:us.Pairwise fun u v=>u.1<v.1∨u.1=v.1∧u.2<v.2:=by
  rw [ue',zbo5]at so
  refine so.imp_of_mem fun {a b} ha hb h=>?_
  have q1:=uo a ha
  have q2:=uo b hb
  unfold TS.rkP at h
  simp only at h
  lia
 refine⟨us,by rw [ul,zbj3];lia,uo,so2,?_⟩
 rw [← ue]
 show (zl7 [N,.val (.int (M:Int)),.no,.no,.no,.no,.no]).bind zi9=_
 unfold zl7
 exact bnd ((zb7 (t':=[N,.val (.int (M:Int)),.dp (.pdc []),.no,.no,.no,.no]) rfl).trans ((zb7 E2).trans (zr5 E4)))
theorem web_is (ns:List Int) (hl:ns.length≤63) (hb:∀n∈ns,n.natAbs<bndS) {most:Nat} (m0:0<most) (m1:most≤1000):∃(M:Nat) (us:List (Nat×Nat)),0<M∧M≤most∧us.length≤400∧(∀u∈us,u.1<u.2∧u.2<M)∧(us.Pairwise fun u v=>u.1<v.1∨u.1=v.1∧u.2<v.2)∧zj2 [.lst (ns.map D.int),.int (most:Int)]=some (.cl (.tup [.int (M:Int),.lst (us.map tD)])):=by
 let N:Sl:=.val (.lst (ns.map D.int))
 obtain⟨v0,_,e0⟩:=zal3 ns hb 0 [.val (.int (most:Int)),.no]
 have e1:=zm6 (fa:=dC (.int 1)) (t:=[N,.val (.int (most:Int)),.no]) (a:=1) rfl (zq4 (zak7 e0 (fb:=dC (.int 2)) rfl (by decide) (zi5 (by decide) (by decide))) (fb:=dVar 1) (b:=(most:Int)) rfl (by lia))
 have q:=fm (a:=v0.fdiv 2) (b:=(most:Int)) (by lia)
 obtain⟨M,hM⟩:∃M:Nat,1+(v0.fdiv 2).fmod (most:Int)=(M:Int):=⟨(1+(v0.fdiv 2).fmod (most:Int)).toNat,by lia⟩
 rw [hM]at e1
 obtain⟨us,ul,uo,us2,ue⟩:=ties_is ns hl hb (M:=M) (by lia) (by lia)
 refine⟨M,us,by lia,by lia,ul,uo,us2,?_⟩
 have E1:=zj0 (i:=2) e1 (by simp)
 let t:Th:=[N,.val (.int (most:Int)),.val (.int (M:Int))]
 have et:(dT1 (zb2 zg6) (za2 (dVar 0) (za2 (dVar 2) dNil))) t=some (.nw (us.map tD)):=by
  rw [zr3 (ra:=.cl (.lst (ns.map D.int))) (rb:=.cl (.int (M:Int))) rfl rfl]
  unfold zb2
  rw [show zg6 ([Ev.cl (.lst (ns.map D.int)),.cl (.int (M:Int))].map Ev.d)=_ from ue]
  rfl
 have E2:(dT1 kTup (za2 (dVar 2) (za2 (dT1 (zb2 zg6) (za2 (dVar 0) (za2 (dVar 2) dNil))) dNil))) t=some (.cl (.tup [.int (M:Int),.lst (us.map tD)])):=(zr3 (rfl:dVar 2 t=some (.cl (.int (M:Int)))) et).trans rfl
 show (zs9 [N,.val (.int (most:Int)),.no]).bind zi9=_
 exact bnd ((zb7 E1).trans (zr5 E2))
def chkN (n:Nat):Bool:=match zf7 [.str (sN n)] with
 |some (.cl (.int k))=>decide (k=(n:Int))
 |_=>false
theorem chkN_all:∀n:Fin 61,chkN n.val=true:=by decide +kernel
theorem zat1 {n:Nat} (h:n≤60):zf7 [.str (sN n)]=some (.cl (.int (n:Int))):=by
 have:=chkN_all ⟨n,by lia⟩
 unfold chkN at this
 split at this
 ·rename_i k e
  rw [decide_eq_true_eq]at this
  rw [e,this]
 ·cases this
def sD (n:Nat):D:=.str (sN n)
def iD (n:Nat):D:=.int (n:Int)
theorem ne_str {fa fb:DE}{t:Th}{r1 r2:Ev}{x:Str} (ha:fa t=some r1) (hb:fb t=some r2) (h1:r1.d=.str x) (h2:r2.d=.str x):dBo (d2 kNe fa fb) t=some false:=by
 unfold dBo
 rw [zi8 ha hb]
 have:kNe r1 r2=some (.cl (.bl false)):=by
  unfold kNe
  rw [h1,h2,if_pos (by rfl),zx9]
  rfl
 rw [this];rfl
theorem in_none {r1 r2:Ev}{ns:List Nat} (h1:r1.d=.non) (h2:r2.d=.lst (ns.map iD)):kIn r1 r2=some (.cl (.bl false)):=by
 have h4:((ns.map iD).any fun d=>eqD d .non)=false:=List.any_eq_false.mpr fun d hd=>by obtain⟨n,_,rfl⟩:=zbd8.mp hd;simp [iD,eqD]
 unfold kIn
 rw [h2]
 dsimp only
 rw [h1,if_pos (by
   rw [zba6]
   exact⟨rfl,zbg5.mpr fun d hd=>by obtain⟨n,_,rfl⟩:=zbd8.mp hd;rfl⟩),h4]
theorem zae1 {word row:Str}{many:Int}{ns:List Nat} (hr:row.length≤1000) (hs:Txt.split row (" ":Str)=word::ns.map sN) (hl:(ns.length:Int)=many) (hn:∀n∈ns,n≤60) (h3:ns.length≤10) :
  zb4 [.str word,.int many,.str row]=some (.nw (ns.map iD)):=by
 let t0:Th:=[.val (.str word),.val (.int many),.val (.str row),.no,.no]
 have e1:(d2 zq5 (dVar 2) (dC (.str " "))) t0=some (.nw (.str word::ns.map sD)):=by
  rw [zi8 (rfl:dVar 2 t0=some (.cl (.str row))) (rfl:dC (.str " ") t0=some (.cl (.str " ")))]
  unfold zq5
  simp only [Ev.d]
  rw [hs,if_pos (by
   rw [decide_eq_true_eq]
   refine⟨by decide +kernel,by lia,by simp;lia⟩)]
  simp only [zba2,zbf1]
  rfl
 have E1:=zv9 (i:=3) e1 (by simp [t0])
 let t1:Th:=[.val (.str word),.val (.int many),.val (.str row),.own (.str word::ns.map sD),.no]
 have c1:(dBo (d2 kNe (d2 kIx (dVar 3) (dC (.int 0))) (dVar 0))) t1=some false:=by
  have a:(d2 kIx (dVar 3) (dC (.int 0))) t1=some (.cl (.str word)):=by
   rw [zi8 (rfl:dVar 3 t1=some (.tm (.lst (.str word::ns.map sD)))) (rfl:dC (.int 0) t1=some (.cl (.int 0)))]
   unfold kIx
   show zbt2 _ (atI (D.str word::ns.map sD) 0)=_
   have:atI (D.str word::ns.map sD) 0=some (.str word):=by
    unfold atI
    rw [show (0:Int)=((0:Nat):Int) from rfl,ix_nat _ 0 (by simp)]
    rfl
   rw [this]
   rfl
  exact ne_str a (rfl:dVar 0 t1=some (.cl (.str word))) rfl rfl
 have c2:(dBo (d2 kNe (dT1 kLen (za2 (dVar 3) dNil)) (d2 qA (dVar 1) (dC (.int 1))))) t1=some false:=by
  have a:(dT1 kLen (za2 (dVar 3) dNil)) t1=some (.cl (.int ((ns.length:Int)+1))):=by
   rw [zo7 (rfl:dVar 3 t1=some (.tm (.lst (.str word::ns.map sD))))]
   unfold kLen
   simp [Ev.d]
  rw [neI_of a (zm6 (rfl:dVar 1 t1=some (.cl (.int many))) (rfl:dC (.int 1) t1=some (.cl (.int 1)))),hl]
  simp
 have E2:(dIfS (dOr (dBo (d2 kNe (d2 kIx (dVar 3) (dC (.int 0))) (dVar 0))) (dBo (d2 kNe (dT1 kLen (za2 (dVar 3) dNil)) (d2 qA (dVar 1) (dC (.int 1)))))) (dRet (dC .non)) ze1) t1=some (.nx t1):=grd (zk3 c1 c2) rfl
 have e3:(zq0 1 [] (fsL (dSlF (dC (.int 1)) (dVar 3))) (zb8 0) zu2 (dT1 (zb2 zf7) (za2 (dVar 0) dNil))) t1=some (.nw (ns.map iD)):=by
  have f:dSlF (dC (.int 1)) (dVar 3) t1=some (.nw (ns.map sD)):=by
   unfold dSlF
   show (if (_||flats (D.str word::ns.map sD))=true then some (Ev.nw ((D.str word::ns.map sD).drop (HT.sIx (D.str word::ns.map sD).length 0 (some 1)))) else none)=_
   have fl:flats (D.str word::ns.map sD)=true:=by
    have:∀l:List Nat,flats (l.map sD)=true:=fun l=>by
     induction l with
     |nil=>rfl
     |cons x l ih=>simp only [zba2,flats,ih];rfl
    simp only [flats,this];rfl
   rw [if_pos (by rw [fl];simp)]
   have:HT.sIx (D.str word::ns.map sD).length 0 (some 1)=1:=by
    simp [HT.sIx]
   rw [this]
   rfl
  have:=dcompL (cap:=[]) (b:=true) (c:=[]) (ft:=zu2) (fe:=(dT1 (zb2 zf7) (za2 (dVar 0) dNil))) (p:=fun _:Nat=>true) (g:=iD) (e:=sD) f rfl rfl (by lia) (fun x _=>rfl) (fun x hx _=>⟨.cl (iD x),?_,rfl⟩) (.inr rfl)
  ·rw [List.filter_eq_self.mpr fun _ _=>rfl]at this
   exact this
  ·rw [zo7 (rfl:dVar 0 (.val (sD x)::[].map Sl.val)=some (.cl (.str (sN x))))]
   exact zah6 (zat1 (hn x hx)) rfl
 have E3:=zv9 (i:=4) e3 (by simp [t1])
 let t2:Th:=[.val (.str word),.val (.int many),.val (.str row),.own (.str word::ns.map sD),.own (ns.map iD)]
 have c4:(dBo (d2 kIn (dC .non) (dVar 4))) t2=some false:=by
  unfold dBo
  rw [zi8 (rfl:dC .non t2=some (.cl .non)) (rfl:dVar 4 t2=some (.tm (.lst (ns.map iD))))]
  rw [in_none rfl rfl]
  rfl
 have E4:(dIfS (dBo (d2 kIn (dC .non) (dVar 4))) (dRet (dC .non)) ze1) t2=some (.nx t2):=grd c4 rfl
 show (zg8 t0).bind zi9=_
 exact bnd ((zb7 E1).trans ((zb7 E2).trans ((zb7 E3).trans ((zb7 E4).trans rfl))))
theorem zar8 {M:Nat} (h0:0<M) (h:M≤60):zg2 [.str (rowP M)]=some (.cl (.int (M:Int))):=by
 let t0:Th:=[.val (.str (rowP M)),.no]
 have e1:(dT1 (zb2 zb4) (za2 (dC (.str "points")) (za2 (dC (.int 1)) (za2 (dVar 0) dNil)))) t0=some (.nw [iD M]):=by
  rw [t3_of (rfl:dC (.str "points") t0=some (.cl (.str "points"))) (rfl:dC (.int 1) t0=some (.cl (.int 1))) (rfl:dVar 0 t0=some (.cl (.str (rowP M))))]
  have b:=zae1 (ns:=[M]) (many:=1) (by have:=zaj3 h;lia) (words_P h) rfl (by simpa using h) (by simp)
  unfold zb2
  rw [show zb4 ([Ev.cl (.str "points"),.cl (.int 1),.cl (.str (rowP M))].map Ev.d)=_ from b]
  rfl
 have E1:=zv9 (i:=1) e1 (by simp [t0])
 let t1:Th:=[.val (.str (rowP M)),.own [iD M]]
 have c1:(dBo (d2 kIs (dVar 1) (dC .non))) t1=some false:=rfl
 have c2:(dNot (dCh qE qE (dC (.int 1)) (d2 kIx (dVar 1) (dC (.int 0))) (dC (.int 60)))) t1=some false:=by
  have a:(dCh qE qE (dC (.int 1)) (d2 kIx (dVar 1) (dC (.int 0))) (dC (.int 60))) t1=some true:=by
   unfold dCh
   show (match (Ev.cl (D.bl (decide (1≤(M:Int))))).d with | .bl true=>_ | .bl false=>some false | _=>none)=_
   rw [decide_eq_true (by lia)]
   show some (decide ((M:Int)≤60))=_
   rw [decide_eq_true (by lia)]
  rw [not_of a];rfl
 have E2:(dIfS (dOr (dBo (d2 kIs (dVar 1) (dC .non))) (dNot (dCh qE qE (dC (.int 1)) (d2 kIx (dVar 1) (dC (.int 0))) (dC (.int 60))))) (dRet (dC .non)) ze1) t1=some (.nx t1):=grd (zk3 c1 c2) rfl
 show (zj8 t0).bind zi9=_
 exact bnd ((zb7 E1).trans ((zb7 E2).trans rfl))
theorem tie_is {u:Nat×Nat}{M:Nat} (h:M≤60) (h1:u.1<u.2) (h2:u.2<M):zj1 [.str (rowT u),.int (M:Int)]=some (.cl (tD u)):=by
 let t0:Th:=[.val (.str (rowT u)),.val (.int (M:Int)),.no,.no,.no]
 have e1:(dT1 (zb2 zb4) (za2 (dC (.str "tie")) (za2 (dC (.int 2)) (za2 (dVar 0) dNil)))) t0=some (.nw [iD u.1,iD u.2]):=by
  rw [t3_of (rfl:dC (.str "tie") t0=some (.cl (.str "tie"))) (rfl:dC (.int 2) t0=some (.cl (.int 2))) (rfl:dVar 0 t0=some (.cl (.str (rowT u))))]
  have b:=zae1 (ns:=[u.1,u.2]) (many:=2) (by have:=zaj2 (u:=u) (by lia) (by lia);lia) (words_T (u:=u) (by lia) (by lia)) rfl (by intro n hn;simp at hn;lia) (by simp)
  unfold zb2
  rw [show zb4 ([Ev.cl (.str "tie"),.cl (.int 2),.cl (.str (rowT u))].map Ev.d)=_ from b]
  rfl
 have E1:=zv9 (i:=2) e1 (by simp [t0])
 let t1:Th:=[.val (.str (rowT u)),.val (.int (M:Int)),.own [iD u.1,iD u.2],.no,.no]
 have E2:(dIfS (dBo (d2 kIs (dVar 2) (dC .non))) (dRet (dC .non)) ze1) t1=some (.nx t1):=grd (rfl:_=some false) rfl
 let t2:Th:=[.val (.str (rowT u)),.val (.int (M:Int)),.val (.lst [iD u.1,iD u.2]),.val (iD u.1),.val (iD u.2)]
 have E3:(dFrz 2 (zao3 (gkLst 2 (ze2 (zb8 3) (ze2 (zb8 4) zs6))) (dVar 2))) t1=some (.nx t2):=rfl
 have c4:(dNot (dCh qL qL (dVar 3) (dVar 4) (dVar 1))) t2=some false:=by
  have a:(dCh qL qL (dVar 3) (dVar 4) (dVar 1)) t2=some true:=by
   unfold dCh
   show (match (Ev.cl (D.bl (decide ((u.1:Int)<(u.2:Int))))).d with | .bl true=>_ | .bl false=>some false | _=>none)=_
   rw [decide_eq_true (by lia)]
   show some (decide ((u.2:Int)<(M:Int)))=_
   rw [decide_eq_true (by lia)]
  rw [not_of a];rfl
 have E4:(dIfS (dNot (dCh qL qL (dVar 3) (dVar 4) (dVar 1))) (dRet (dC .non)) ze1) t2=some (.nx t2):=grd c4 rfl
 show (zp4 t0).bind zi9=_
 exact bnd ((zb7 E1).trans ((zb7 E2).trans ((zb7 E3).trans ((zb7 E4).trans rfl))))
def below (u v:Nat×Nat):Prop:=u.1<v.1∨u.1=v.1∧u.2<v.2
theorem may_is {us:List (Nat×Nat)}{v:Nat×Nat} (hl:us.length<400) (hu:∀u∈us,below u v):zd8 [.lst (us.map tD),tD v]=some (.cl (.bl true)):=by
 let t0:Th:=[.val (.lst (us.map tD)),.val (tD v)]
 have el:(dT1 kLen (za2 (dVar 0) dNil)) t0=some (.cl (.int (us.length:Int))):=by
  rw [zo7 (rfl:dVar 0 t0=some (.cl (.lst (us.map tD))))]
  unfold kLen
  simp [Ev.d]
 have c1:(dBo (d2 qH (dT1 kLen (za2 (dVar 0) dNil)) (dC (.int 400)))) t0=some false:=by
  unfold dBo
  rw [zi8 el (rfl:dC (.int 400) t0=some (.cl (.int 400)))]
  show some (decide ((400:Int)≤(us.length:Int)))=_
  rw [decide_eq_false (by lia)]
 have E1:(dIfS (dBo (d2 qH (dT1 kLen (za2 (dVar 0) dNil)) (dC (.int 400)))) (dRet (dC (.bl false))) ze1) t0=some (.nx t0):=grd c1 rfl
 have e2:(dOrV (d1 zah0 (dVar 0)) (d2 kLtT (d2 kIx (dVar 0) (d1 kNeg (dC (.int 1)))) (dVar 1))) t0=some (.cl (.bl true)):=by
  unfold dOrV
  rcases List.eq_nil_or_concat us with rfl | ⟨ws,w,rfl⟩
  ·rfl
  ·have a:(d1 zah0 (dVar 0)) t0=some (.cl (.bl false)):=by
    show (zah0 (.cl (.lst ((ws.concat w).map tD))))=_
    rw [zbm2,zbm6]
    cases ws<;>rfl
   rw [a]
   show (d2 kLtT (d2 kIx (dVar 0) (d1 kNeg (dC (.int 1)))) (dVar 1)) t0=_
   have i:(d2 kIx (dVar 0) (d1 kNeg (dC (.int 1)))) t0=some (.cl (tD w)):=by
    rw [zi8 (rfl:dVar 0 t0=some (.cl (.lst ((ws.concat w).map tD)))) (neg_of (rfl:dC (.int 1) t0=some (.cl (.int 1))))]
    unfold kIx
    show zbt2 _ (atI ((ws.concat w).map tD) (-1))=_
    have:atI ((ws.concat w).map tD) (-1)=some (tD w):=by
     unfold atI ixN
     rw [zbm2,zbm6]
     rw [if_neg (by lia),if_pos (by simp;lia)]
     have en:(-1+(((ws.map tD++[w].map tD).length:Nat):Int)).toNat=ws.length:=by simp;lia
     first
      |(simp only [zaz3];rw [en];simp)
      |(rw [Int.add_comm]at en;simp only [zaz3];rw [en];simp)
    rw [this]
    rfl
   rw [zi8 i (rfl:dVar 1 t0=some (.cl (tD v)))]
   have b:=hu w (by simp)
   show some (Ev.cl (.bl (lexI false [(w.1:Int),(w.2:Int)] [(v.1:Int),(v.2:Int)])))=_
   have:lexI false [(w.1:Int),(w.2:Int)] [(v.1:Int),(v.2:Int)]=true:=by
    unfold below at b
    simp only [lexI,cmpI]
    by_cases z:(w.1:Int)=(v.1:Int)
    ·rw [decide_eq_true z]
     simp only [if_true]
     rw [decide_eq_false (by lia)]
     simp;lia
    ·rw [decide_eq_false z]
     simp;lia
   rw [this]
 show (zk7 t0).bind zi9=_
 exact bnd ((zb7 E1).trans (zr5 e2))
def rD (u:Nat×Nat):D:=.str (rowT u)
theorem zak4:∀us:List (Nat×Nat),flats (us.map tD)=true:=fun us=>by rw [tD_pD];exact zr1 _
theorem zx7:∀us:List (Nat×Nat),flats (us.map rD)=true:=fun us=>by
 induction us with
 |nil=>rfl
 |cons x l ih=>simp only [zba2,flats,ih];rfl
theorem loop_R {M:Nat} (hM:M≤60) (T R:Sl):∀(vs dn:List (Nat×Nat)) (j:Nat) (s4 s5 s6:Sl),(dn++vs).length≤400→(dn++vs).Pairwise below→(∀u∈vs,u.1<u.2∧u.2<M) →
  ∃u4 u5 u6,forD kR bdR (zp9 j (vs.map rD)) [T,R,.val (.int (M:Int)),.own (dn.map tD),s4,s5,s6]=some (.nx [T,R,.val (.int (M:Int)),.own ((dn++vs).map tD),u4,u5,u6])
 |[],dn,j,s4,s5,s6,_,_,_=>⟨s4,s5,s6,by rw [zbe0];rfl⟩
 |v::vs,dn,j,s4,s5,s6,hl,hp,hv=>by
  have hl':dn.length<400:=by simp at hl;lia
  have hb:∀u∈dn,below u v:=fun u hu=>(zbc5.mp hp).2.2 u hu v (by simp)
  let t1:Th:=[T,R,.val (.int (M:Int)),.own (dn.map tD),.val (.int (j:Int)),.val (rD v),s6]
  have e1:(dT1 (zb2 zj1) (za2 (dVar 5) (za2 (dVar 2) dNil))) t1=some (.cl (tD v)):=by
   rw [zr3 (rfl:dVar 5 t1=some (.cl (rD v))) (rfl:dVar 2 t1=some (.cl (.int (M:Int))))]
   exact zah6 (tie_is hM (hv v (by simp)).1 (hv v (by simp)).2) rfl
  have E1:=zj0 (i:=6) e1 (by simp [t1])
  let t2:Th:=[T,R,.val (.int (M:Int)),.own (dn.map tD),.val (.int (j:Int)),.val (rD v),.val (tD v)]
  have c1:(dBo (d2 kIs (dVar 6) (dC .non))) t2=some false:=rfl
  have c2:(dNot (dTr (dT1 (zb2 zd8) (za2 (dVar 3) (za2 (dVar 6) dNil))))) t2=some false:=by
   have a:(dT1 (zb2 zd8) (za2 (dVar 3) (za2 (dVar 6) dNil))) t2=some (.cl (.bl true)):=by
    rw [zr3 (rfl:dVar 3 t2=some (.tm (.lst (dn.map tD)))) (rfl:dVar 6 t2=some (.cl (tD v)))]
    exact zah6 (may_is hl' hb) rfl
   rw [not_of (zap3 a)];rfl
  have E2:(dIfS (dOr (dBo (d2 kIs (dVar 6) (dC .non))) (dNot (dTr (dT1 (zb2 zd8) (za2 (dVar 3) (za2 (dVar 6) dNil)))))) zac8 ze1) t2=some (.nx t2):=grd (zk3 c1 c2) rfl
  have E3:dApp 3 (dVar 6) t2=some (.nx (t2.set 3 (.own (dn.map tD++[tD v])))):=app_of t2 rfl rfl (by rw [zbc4];lia)
  have ea:dn.map tD++[tD v]=(dn++[v]).map tD:=by simp
  rw [ea]at E3
  obtain⟨u4,u5,u6,e⟩:=loop_R hM T R vs (dn++[v]) (j+1) (.val (.int (j:Int))) (.val (rD v)) (.val (tD v)) (by simpa using hl) (by simpa using hp) (fun u hu=>hv u (by simp [hu]))
  refine⟨u4,u5,u6,?_⟩
  have es:dn++v::vs=(dn++[v])++vs:=by simp
  rw [es, ← e]
  exact forD_nx (d:=.tup [.int (j:Int),rD v]) (t1:=t1) rfl ((zb7 E1).trans ((zb7 E2).trans E3))
theorem read_is {M:Nat}{us:List (Nat×Nat)} (h0:0<M) (hM:M≤60) (hl:us.length≤400) (hu:∀u∈us,u.1<u.2∧u.2<M) (hp:us.Pairwise below) :
  zd4 [.str (zk0 M us)]=some (.dn (.tup [.int (M:Int),.lst (us.map tD)])):=by
 have hu':∀u∈us,u.1≤60∧u.2≤60:=fun u h=>by have:=hu u h;lia
 let T:Sl:=.val (.str (zk0 M us))
 let t0:Th:=[T,.no,.no,.no,.no,.no,.no]
 let RR:List D:=.str (rowP M)::us.map rD
 have e1:(d2 zq5 (dVar 0) (dC (.str "\n"))) t0=some (.nw RR):=by
  rw [zi8 (rfl:dVar 0 t0=some (.cl (.str (zk0 M us)))) (rfl:dC (.str "\n") t0=some (.cl (.str "\n")))]
  unfold zq5
  simp only [Ev.d]
  have tl:=text_len hM hl hu'
  rw [zam6 hM hu',if_pos (by
   rw [decide_eq_true_eq]
   refine⟨by decide +kernel,by lia,by simp [zl9];lia⟩)]
  simp only [zl9,zba2,zbf1]
  rfl
 have E1:=zv9 (i:=1) e1 (by simp [t0])
 let t1:Th:=[T,.own RR,.no,.no,.no,.no,.no]
 have e2:(dT1 (zb2 zg2) (za2 (d2 kIx (dVar 1) (dC (.int 0))) dNil)) t1=some (.cl (.int (M:Int))):=by
  have a:(d2 kIx (dVar 1) (dC (.int 0))) t1=some (.cl (.str (rowP M))):=by
   rw [zi8 (rfl:dVar 1 t1=some (.tm (.lst RR))) (rfl:dC (.int 0) t1=some (.cl (.int 0)))]
   unfold kIx
   show zbt2 _ (atI RR 0)=_
   have:atI RR 0=some (.str (rowP M)):=by
    unfold atI
    rw [show (0:Int)=((0:Nat):Int) from rfl,ix_nat _ 0 (by simp [RR])]
    rfl
   rw [this]
   rfl
  rw [zo7 a]
  exact zah6 (zar8 h0 hM) rfl
 have E2:=zj0 (i:=2) e2 (by simp [t1])
 let t2:Th:=[T,.own RR,.val (.int (M:Int)),.no,.no,.no,.no]
 have E3:(dIfS (dBo (d2 kIs (dVar 2) (dC .non))) zac8 ze1) t2=some (.nx t2):=grd (rfl:_=some false) rfl
 have E4:dAsg 3 (dT1 kLst dNil) t2=some (.nx [T,.own RR,.val (.int (M:Int)),.own [],.no,.no,.no]):=rfl
 let t3:Th:=[T,.own RR,.val (.int (M:Int)),.own [],.no,.no,.no]
 obtain⟨u4,u5,u6,lp⟩:=loop_R hM T (.own RR) us [] 1 .no .no .no hl hp hu
 rw [zbe4]at lp
 have E5:(zac9 kR (dSlF (dC (.int 1)) (dVar 1)) bdR) t3=some (.nx [T,.own RR,.val (.int (M:Int)),.own (us.map tD),u4,u5,u6]):=by
  have f:dSlF (dC (.int 1)) (dVar 1) t3=some (.nw (us.map rD)):=by
   unfold dSlF
   show (if (_||flats RR)=true then some (Ev.nw (RR.drop (HT.sIx RR.length 0 (some 1)))) else none)=_
   have fl:flats RR=true:=by
    show (flat (D.str (rowP M))&&flats (us.map rD))=true
    rw [zx7];rfl
   rw [if_pos (by rw [fl];simp)]
   have:HT.sIx RR.length 0 (some 1)=1:=by simp [HT.sIx,RR]
   rw [this]
   rfl
  unfold zac9
  rw [f]
  exact lp
 have E6:(zaw0 (mTup (zx3 (mOwn 2) (zx3 (mOwn 3) mNil)))) [T,.own RR,.val (.int (M:Int)),.own (us.map tD),u4,u5,u6]=some (.rt (.dn (.tup [.int (M:Int),.lst (us.map tD)]))):=by
  have a:(mOwn 3) [T,.own RR,.val (.int (M:Int)),.own (us.map tD),u4,u5,u6]=some (.lst (us.map tD),[T,.own RR,.val (.int (M:Int)),.no,u4,u5,u6]):=by
   show (if flats (us.map tD) then _ else none)=_
   rw [zak4];rfl
  unfold zaw0 mTup zx3
  show (((zx3 (mOwn 3) mNil [T,.own RR,.val (.int (M:Int)),.own (us.map tD),u4,u5,u6]).bind _).bind _).bind _=_
  unfold zx3
  rw [a]
  rfl
 show (zp5 t0).bind zi9=_
 exact bnd ((zb7 E1).trans ((zb7 E2).trans ((zb7 E3).trans ((zb7 E4).trans ((zb7 E5).trans E6)))))
theorem zal0 {fe:DE}{g:Nat×Nat→D}:∀(us:List (Nat×Nat)) (s s':Sl),(∀u∈us,∃r,fe [.val (.int (u.1:Int)),.val (.int (u.2:Int))]=some r∧r.d=g u)→zg3 K2 zu2 fe (us.map tD) [s,s']=some (us.map g)
 |[],_,_,_=>rfl
 |u::us,s,s',h=>by
  obtain⟨r,e,er⟩:=h u (by simp)
  have ih:=zal0 us (.val (.int (u.1:Int))) (.val (.int (u.2:Int))) fun v hv=>h v (by simp [hv])
  have k1:K2 (tD u) [s,s']=some [.val (.int (u.1:Int)),.val (.int (u.2:Int))]:=rfl
  rw [zba2,zba2]
  unfold zg3
  rw [k1]
  simp only [zaz3]
  rw [show zu2 [.val (.int (u.1:Int)),.val (.int (u.2:Int))]=some true from rfl]
  simp only [zaz3,if_true]
  rw [e,ih]
  simp only [zaz3,zbf7,er]
theorem dcomp2 {fe f:DE}{g:Nat×Nat→D}{t:Th}{r:Ev}{us:List (Nat×Nat)} (hf:f t=some r) (hr:r.d=.lst (us.map tD)) (hl:us.length≤50000) (hx:flats (us.map g)=true)
  (h:∀u∈us,∃r,fe [.val (.int (u.1:Int)),.val (.int (u.2:Int))]=some r∧r.d=g u):zq0 2 [] (fsL f) K2 zu2 fe t=some (.nw (us.map g)):=by
 unfold zq0
 have e1:fsL f t=some (r.ok,us.map tD):=by
  unfold fsL;rw [hf];simp only [zaz3,hr]
 rw [e1]
 show (if (us.map tD).length≤50000 then (zg3 K2 zu2 fe (us.map tD) [Sl.no,Sl.no]).bind _ else none)=_
 rw [if_pos (by simpa using hl),zal0 us _ _ h]
 show (if (_||flats (us.map g))=true then _ else _)=_
 rw [hx,Bool.or_true]
 rfl
theorem zau8 {f:DE}{t:Th}{n:Nat} (h:f t=some (.cl (.int (n:Int)))) (hn:n≤60):(d1 kFmt f) t=some (.cl (.str (sN n))):=by
 unfold d1
 rw [h]
 show kFmt (.cl (.int (n:Int)))=_
 unfold kFmt
 simp only [Ev.d]
 rw [if_pos (by lia)]
 rfl
theorem zap8 {f:DE}{t:Th}{n:Nat} (h:f t=some (.cl (.int (n:Int)))) (hn:n≤60):(dT1 kStr (za2 f dNil)) t=some (.cl (.str (sN n))):=by
 rw [zo7 h]
 unfold kStr
 simp only [Ev.d]
 rw [if_pos (by lia)]
 rfl
theorem zy4 {fa fb:DE}{t:Th}{a b:Str} (h1:fa t=some (.cl (.str a))) (h2:fb t=some (.cl (.str b))) (hl:a.length+b.length≤1000):(d2 (kOr (kI tt2 fun i j=>.int (i+j)) (kOr kCat zm0)) fa fb) t=some (.cl (.str (a++b))):=by
 rw [zi8 h1 h2]
 show zm0 (.cl (.str a)) (.cl (.str b))=_
 unfold zm0
 simp only [Ev.d]
 rw [if_pos (by lia)]
theorem zl6 {t:Th}{f:DE}{r:DE}{fs:List DE}{acc y:Str} (h:f t=some (.cl (.str y))) (hl:(acc++y).length≤1000):dJs t acc (f::fs)=dJs t (acc++y) fs:=by
 show (match f t with | some r=>(match r.d with | .str y=>if (acc++y).length≤100000 then dJs t (acc++y) fs else none | _=>none) |none=>none)=_
 rw [h]
 show (if (acc++y).length≤100000 then dJs t (acc++y) fs else none)=_
 rw [if_pos (by lia)]
theorem zak0 {t:Th}{acc:Str} (hl:acc.length≤1000):dJs t acc []=some acc:=by
 show (if acc.length≤100000 then some acc else none)=_
 rw [if_pos (by lia)]
theorem lenE (x:Str):(Str.empty++x).length=x.length:=by rw [Str.empty_append]
theorem l7:("points ":Str).length=7:=by decide +kernel
theorem l4:("tie ":Str).length=4:=by decide +kernel
theorem l1:(" ":Str).length=1:=by decide +kernel
theorem joinP {t:Th}{f:DE}{M:Nat} (h:f t=some (.cl (.int (M:Int)))) (hM:M≤60):zi7 [(dC (.str "points ")),(d1 kFmt f)] t=some (.cl (.str (rowP M))):=by
 have a:=(zf2 hM).1
 unfold zi7
 rw [zl6 (r:=f) (rfl:dC (.str "points ") t=_) (by rw [lenE,l7];lia),zl6 (r:=f) (zau8 h hM) (by rw [Str.length_append,lenE,l7];lia),zak0 (by rw [Str.length_append,lenE,l7];lia),Str.empty_append]
 rfl
theorem joinT {t:Th}{f f':DE}{u:Nat×Nat} (h1:f t=some (.cl (.int (u.1:Int)))) (h2:f' t=some (.cl (.int (u.2:Int)))) (q1:u.1≤60) (q2:u.2≤60):zi7 [(dC (.str "tie ")),(d1 kFmt f),(dC (.str " ")),(d1 kFmt f')] t=some (.cl (.str (rowT u))):=by
 have a:=(zf2 q1).1
 have b:=(zf2 q2).1
 unfold zi7
 rw [zl6 (r:=f) (rfl:dC (.str "tie ") t=_) (by rw [lenE,l4];lia),Str.empty_append,zl6 (r:=f) (zau8 h1 q1) (by rw [Str.length_append,l4];lia),zl6 (r:=f) (rfl:dC (.str " ") t=_) (by rw [Str.length_append,Str.length_append,l4,l1];lia),
  zl6 (r:=f) (zau8 h2 q2) (by rw [Str.length_append,Str.length_append,Str.length_append,l4,l1];lia),zak0 (by rw [Str.length_append,Str.length_append,Str.length_append,l4,l1];lia)]
 rfl
theorem zai5:∀ws:List Str,zz1 (ws.map D.str)=some ws
 |[]=>rfl
 |w::ws=>by
  show (zz1 (ws.map D.str)).map _=_
  rw [zai5 ws];rfl
theorem zau1 {f:DE}{t:Th}{r:Ev}{M:Nat}{us:List (Nat×Nat)} (hf:f t=some r) (hr:r.d=.lst (.str (rowP M)::us.map rD)) (hM:M≤60) (hl:us.length≤400) (hu:∀u∈us,u.1≤60∧u.2≤60):(d2 zx4 (dC (.str "\n")) f) t=some (.cl (.str (zk0 M us))):=by
 rw [zi8 (rfl:dC (.str "\n") t=some (.cl (.str "\n"))) hf]
 unfold zx4
 rw [hr]
 simp only [Ev.d]
 have e:(D.str (rowP M)::us.map rD)=(zl9 M us).map D.str:=by simp only [zl9,zba2,zbf1];rfl
 rw [e,zai5]
 show (if JoinOk ("\n":Str) (zl9 M us)=true then some (Ev.cl (.str (Txt.join "\n" (zl9 M us)))) else none)=_
 rw [if_pos (text_ok hM hl hu),txt_join]
 rfl
theorem catR {fa fb:DE}{t:Th}{x:D}{ys:List (Nat×Nat)}{k:Ev→Ev→Option Ev} (ha:fa t=some (.nw [x])) (hb:fb t=some (.nw (ys.map rD))) (hk:∀r,kCat (.nw [x]) (.nw (ys.map rD))=some r→k (.nw [x]) (.nw (ys.map rD))=some r) (hl:ys.length≤1000):(d2 k fa fb) t=some (.nw (x::ys.map rD)):=by
 rw [zi8 ha hb]
 refine hk _ ?_
 unfold kCat
 show (if ((Ev.nw [x]).ok||flats [x])&&((Ev.nw (ys.map rD)).ok||flats (ys.map rD))&&decide ([x].length+(ys.map rD).length≤100000) then some (Ev.nw ([x]++ys.map rD)) else none)=_
 rw [if_pos (by
  have:[x].length+(ys.map rD).length≤100000:=by simp;lia
  rw [decide_eq_true this];rfl)]
 rfl
theorem shown_is {M:Nat}{us:List (Nat×Nat)} (hM:M≤60) (hl:us.length≤400) (hu:∀u∈us,u.1≤60∧u.2≤60):zd7 [.tup [.int (M:Int),.lst (us.map tD)]]=some (.cl (.str (zk0 M us))):=by
 let W:Sl:=.val (.tup [.int (M:Int),.lst (us.map tD)])
 let t1:Th:=[W,.val (.int (M:Int)),.val (.lst (us.map tD)),.no]
 have E1:(zao3 (zu1 2 (ze2 (zb8 1) (ze2 (zb8 2) zs6))) (dVar 0)) [W,.no,.no,.no]=some (.nx t1):=rfl
 have ea:(dT1 kLst (za2 (zi7 [(dC (.str "points ")),(d1 kFmt (dVar 1))]) dNil)) t1=some (.nw [.str (rowP M)]):=by
  rw [zo7 (joinP (rfl:dVar 1 t1=_) hM)]
  rfl
 have eb:=dcomp2 (t:=t1) (f:=dVar 2) (fe:=(zi7 [(dC (.str "tie ")),(d1 kFmt (dVar 0)),(dC (.str " ")),(d1 kFmt (dVar 1))])) (g:=rD) (us:=us) rfl rfl (by lia) (zx7 us) fun u h=>⟨_,joinT rfl rfl (hu u h).1 (hu u h).2,rfl⟩
 have ec:=catR (k:=qA) ea eb (fun r h=>h) (by lia)
 have E2:=zv9 (i:=3) ec (by simp [t1])
 have e3:=zau1 (f:=dVar 3) (t:=[W,.val (.int (M:Int)),.val (.lst (us.map tD)),.own (.str (rowP M)::us.map rD)]) rfl rfl hM hl hu
 show (zn0 [W,.no,.no,.no]).bind zi9=_
 exact bnd ((zb7 E1).trans ((zb7 E2).trans (zr5 e3)))
theorem rows_is {M:Nat}{us:List (Nat×Nat)} (hM:M≤60) (hl:us.length≤400) (hu:∀u∈us,u.1≤60∧u.2≤60):zf9 [.tup [.int (M:Int),.lst (us.map tD)]]=some (.nw (.str (rowP M)::us.map rD)):=by
 let W:Sl:=.val (.tup [.int (M:Int),.lst (us.map tD)])
 let t1:Th:=[W]
 have ea:(dT1 kLst (za2 (d2 (kOr (kI tt2 fun i j=>.int (i+j)) (kOr kCat zm0)) (dC (.str "points ")) (dT1 kStr (za2 (d2 kIx (dVar 0) (dC (.int 0))) dNil))) dNil)) t1=some (.nw [.str (rowP M)]):=by
  rw [zo7 (zy4 (rfl:dC (.str "points ") t1=_) (zap8 (n:=M) rfl hM) (by have:=(zf2 hM).1;rw [l7];lia))]
  rfl
 have eb:=dcomp2 (t:=t1) (f:=(d2 kIx (dVar 0) (dC (.int 1)))) (fe:=(d2 (kOr (kI tt2 fun i j=>.int (i+j)) (kOr kCat zm0)) (d2 (kOr (kI tt2 fun i j=>.int (i+j)) (kOr kCat zm0)) (d2 (kOr (kI tt2 fun i j=>.int (i+j)) (kOr kCat zm0)) (dC (.str "tie ")) (dT1 kStr (za2 (dVar 0) dNil))) (dC (.str " "))) (dT1 kStr (za2 (dVar 1) dNil)))) (g:=rD) (us:=us) rfl rfl (by lia) (zx7 us) fun u h=>by
  have a:=(zf2 (hu u h).1).1
  have b:=(zf2 (hu u h).2).1
  refine⟨_,zy4 (zy4 (zy4 (rfl:dC (.str "tie ") _=_) (zap8 (n:=u.1) rfl (hu u h).1) (by rw [l4];lia)) (rfl:dC (.str " ") _=_) (by rw [Str.length_append,l4,l1];lia)) (zap8 (n:=u.2) rfl (hu u h).2) (by rw [Str.length_append,Str.length_append,l4,l1];lia),rfl⟩
 have ec:=catR (k:=(kOr (kI tt2 fun i j=>.int (i+j)) (kOr kCat zm0))) ea eb (fun r h=>by show kOr kCat zm0 _ _=_;(try unfold qA);(try unfold qM);unfold kOr;rw [h]) (by lia)
 show (zp6 [W]).bind zi9=_
 exact bnd (zr5 ec)
end KX
set_option maxHeartbeats 1000000
namespace KX
open PySem.Spec L2 DL
def WD (M:Nat) (us:List (Nat×Nat)):D:=.tup [.int (M:Int),.lst (us.map tD)]
theorem eqOk_t2 {n:Nat}{a b:D} (h1:eqOk n a a=true) (h2:eqOk n b b=true):eqOk (n+1) (.tup [a,b]) (.tup [a,b])=true:=by
 simp only [eqOk,zbk2,List.zip_nil_left,zbi0,List.all_nil,h1,h2,zbo0]
 try rfl
theorem eqOk_WD (M:Nat) (us:List (Nat×Nat)):eqOk 6 (WD M us) (WD M us)=true:=eqOk_t2 (n:=5) rfl (by rw [tD_pD];exact zau9 3 _)
theorem neW {r1 r2:Ev}{M:Nat}{us:List (Nat×Nat)} (h1:r1.d=WD M us) (h2:r2.d=WD M us):kNe r1 r2=some (.cl (.bl false)):=by
 unfold kNe
 rw [h1,h2,if_pos (eqOk_WD M us),zx9]
 rfl
theorem whole_of (n:Int):zb2 zd0 [.cl (.int n)]=some (.cl (.bl true)):=by
 have:zd0 [.int n]=some (.cl (.bl true)):=rfl
 simp [zb2,Ev.d,this,upEv,Ev.ok,flat]
theorem nw_of {f:DE}{t:Th}{n:Int} (h:f t=some (.cl (.int n))):(dNot (dTr (dT1 (zb2 zd0) (za2 f dNil)))) t=some false:=by
 have:(dT1 (zb2 zd0) (za2 f dNil)) t=some (.cl (.bl true)):=by rw [zo7 h];exact whole_of n
 rw [not_of (zap3 this)];rfl
theorem good_is {M:Nat}{us:List (Nat×Nat)}:zc6 [WD M us,WD M us]=some (.cl (.bl true)):=by
 let W:Sl:=.val (WD M us)
 let t0:Th:=[W,W,.no]
 have c1:(dNot (dTr (dIsi "tuple" (dVar 0)))) t0=some false:=rfl
 have c2:dBo (d2 kNe (dVar 0) (dVar 1)) t0=some false:=by
  unfold dBo
  rw [(zi8 (rfl:dVar 0 t0=some (.cl (WD M us))) (rfl:dVar 1 t0=some (.cl (WD M us)))).trans (neW rfl rfl)]
  rfl
 have c3:=nw_of (f:=(d2 kIx (dVar 0) (dC (.int 0)))) (t:=t0) (n:=(M:Int)) rfl
 have c4:(dNot (dTr (dIsi "list" (d2 kIx (dVar 0) (dC (.int 1)))))) t0=some false:=rfl
 have E1:(dIfS (dOr (dNot (dTr (dIsi "tuple" (dVar 0)))) (dOr (dBo (d2 kNe (dVar 0) (dVar 1))) (dOr (dNot (dTr (dT1 (zb2 zd0) (za2 (d2 kIx (dVar 0) (dC (.int 0))) dNil)))) (dNot (dTr (dIsi "list" (d2 kIx (dVar 0) (dC (.int 1))))))))) (dRet (dC (.bl false))) ze1) t0=some (.nx t0):=grd (zk3 c1 (zk3 c2 (zk3 c3 c4))) rfl
 obtain⟨t2,e2,s2,rfl⟩:=for_P (k:=zb8 2) (b:=bdG) (P:=fun t => ∃s,t=[W,W,s]) (us.map tD) (fun d hd t ⟨s,et⟩=>by
  subst et
  obtain⟨u,_,rfl⟩:=zbd8.mp hd
  refine⟨[W,W,.val (tD u)],[W,W,.val (tD u)],rfl,?_,.val (tD u),rfl⟩
  have a:=nw_of (f:=(d2 kIx (dVar 2) (dC (.int 0)))) (t:=[W,W,.val (tD u)]) (n:=(u.1:Int)) rfl
  have b:=nw_of (f:=(d2 kIx (dVar 2) (dC (.int 1)))) (t:=[W,W,.val (tD u)]) (n:=(u.2:Int)) rfl
  exact grd (zk3 (rfl:(dNot (dTr (dIsi "tuple" (dVar 2)))) [W,W,.val (tD u)]=some false) (zk3 a b)) rfl) t0 ⟨_,rfl⟩
 have E2:(dFor (zb8 2) (d2 kIx (dVar 0) (dC (.int 1))) bdG) t0=some (.nx [W,W,s2]):=(for_of (r:=.cl (.lst (us.map tD))) rfl rfl rfl).trans e2
 show (zp7 t0).bind zi9=_
 exact bnd ((zb7 E1).trans ((zb7 E2).trans rfl))
theorem eq_str {r1 r2:Ev}{x:Str} (h1:r1.d=.str x) (h2:r2.d=.str x):kEq r1 r2=some (.cl (.bl true)):=by
 unfold kEq
 rw [h1,h2,if_pos (by rfl),zx9]
theorem slF_of {f:DE}{t:Th}{r:Ev}{us:List (Nat×Nat)} (hf:f t=some r) (hr:r.d=.lst (us.map tD)):dSlF (dC (.int 1)) f t=some (.nw ((us.drop 1).map tD)):=by
 unfold dSlF
 rw [hf]
 simp only [zaz3]
 rw [show dC (.int 1) t=some (.cl (.int 1)) from rfl]
 simp only [zaz3]
 rw [hr]
 show (if (r.ok||flats (us.map tD))=true then some (Ev.nw ((us.map tD).drop (HT.sIx (us.map tD).length 0 (some 1)))) else none)=_
 rw [if_pos (by rw [zak4];simp)]
 cases us with
 |nil=>rfl
 |cons u us =>
  have:HT.sIx ((u::us).map tD).length 0 (some 1)=1:=by simp [HT.sIx]
  rw [this]
  rfl
theorem zx6 {fa fb:DE}{t:Th}{ra rb:Ev}{M:Nat}{us:List (Nat×Nat)} (ha:fa t=some ra) (hb:fb t=some rb) (ea:ra.d=WD M us) (eb:rb.d=WD M us):(dT1 (zb2 zc6) (za2 fa (za2 fb dNil))) t=some (.cl (.bl true)):=by
 rw [zr3 ha hb]
 exact zah6 (by rw [zba2,zba2,zbm8,ea,eb];exact good_is) rfl
theorem law_true (ns:List Int) (hl:ns.length≤63) (hb:∀n∈ns,n.natAbs<bndS):G_law [.lst (ns.map D.int)]=some (.cl (.bl true)):=by
 let N:Sl:=.val (.lst (ns.map D.int))
 obtain⟨M,us,M0,M60,ul,hu,hp,ew⟩:=web_is ns hl hb (most:=60) (by decide) (by decide)
 have hu':∀u∈us,u.1≤60∧u.2≤60:=fun u h=>by have:=hu u h;lia
 let W:Sl:=.val (WD M us)
 let T:Sl:=.val (.str (zk0 M us))
 let t0:Th:=[N,.no,.no,.no,.no,.no,.no]
 have e1:(dT1 (zb2 zj2) (za2 (dVar 0) (za2 (dC (.int 60)) dNil))) t0=some (.cl (WD M us)):=by
  rw [zr3 (rfl:dVar 0 t0=some (.cl (.lst (ns.map D.int)))) (rfl:dC (.int 60) t0=some (.cl (.int 60)))]
  unfold zb2
  rw [show zj2 ([Ev.cl (.lst (ns.map D.int)),.cl (.int 60)].map Ev.d)=_ from ew]
  rfl
 have E1:=zj0 (i:=1) e1 (by simp [t0])
 let t1:Th:=[N,W,.no,.no,.no,.no,.no]
 have rows_of:∀ {t:Th}{i:Nat}{vs:List (Nat×Nat)},dVar i t=some (.cl (WD M vs))→vs.length≤400→(∀u∈vs,u.1≤60∧u.2≤60)→(d2 zx4 (dC (.str "\n")) (dT1 (zb2 zf9) (za2 (dVar i) dNil))) t=some (.cl (.str (zk0 M vs))):=fun {t i vs} h hl hv=>by
  refine zau1 (r:=.nw (.str (rowP M)::vs.map rD)) ?_ rfl M60 hl hv
  rw [zo7 h]
  unfold zb2
  rw [show zf9 ([Ev.cl (WD M vs)].map Ev.d)=_ from rows_is M60 hl hv]
  rfl
 have E2:=zj0 (i:=2) (rows_of (t:=t1) (i:=1) rfl ul hu') (by simp [t1])
 let t2:Th:=[N,W,T,.no,.no,.no,.no]
 have e3:(dT1 kTup (za2 (d2 kIx (dVar 1) (dC (.int 0))) (za2 (dT1 zah1 (za2 (d2 kIx (dVar 1) (dC (.int 1))) dNil)) dNil))) t2=some (.cl (WD M us)):=by
  have l:(dT1 zah1 (za2 (d2 kIx (dVar 1) (dC (.int 1))) dNil)) t2=some (.nw (us.map tD)):=by
   rw [tD_pD]
   exact list_pD (r:=.cl (.lst (us.map tD))) rfl (by rw [tD_pD];rfl)
  exact (zr3 (rfl:(d2 kIx (dVar 1) (dC (.int 0))) t2=some (.cl (.int (M:Int)))) l).trans rfl
 have E3:=zj0 (i:=3) e3 (by simp [t2])
 let t3:Th:=[N,W,T,W,.no,.no,.no]
 have shown_of:∀ {t:Th},dVar 3 t=some (.cl (WD M us))→(dT1 (zb2 zd7) (za2 (dVar 3) dNil)) t=some (.cl (.str (zk0 M us))):=fun {t} h=>by
  rw [zo7 h]
  exact zah6 (shown_is M60 ul hu') rfl
 have E4:=zj0 (i:=4) (shown_of (t:=t3) rfl) (by simp [t3])
 let t4:Th:=[N,W,T,W,T,.no,.no]
 have E5:(dIfS (dOr (dNot (dTr (dIsi "str" (dVar 4)))) (dOr (dBo (d2 kNe (dVar 4) (dVar 2))) (dBo (d2 kNe (dVar 3) (dVar 1))))) (dRet (dC (.bl false))) ze1) t4=some (.nx t4):=by
  have c1:(dNot (dTr (dIsi "str" (dVar 4)))) t4=some false:=rfl
  have c2:dBo (d2 kNe (dVar 4) (dVar 2)) t4=some false:=ne_str (rfl:dVar 4 t4=some (.cl (.str (zk0 M us)))) (rfl:dVar 2 t4=some (.cl (.str (zk0 M us)))) rfl rfl
  have c3:dBo (d2 kNe (dVar 3) (dVar 1)) t4=some false:=by
   unfold dBo
   rw [(zi8 (rfl:dVar 3 t4=some (.cl (WD M us))) (rfl:dVar 1 t4=some (.cl (WD M us)))).trans (neW rfl rfl)]
   rfl
  exact grd (zk3 c1 (zk3 c2 c3)) rfl
 have read_of:∀ {t:Th}{f:DE}{vs:List (Nat×Nat)},f t=some (.cl (.str (zk0 M vs)))→vs.length≤400→(∀u∈vs,u.1<u.2∧u.2<M)→vs.Pairwise below→(dT1 (zb2 zd4) (za2 f dNil)) t=some (.dn (WD M vs)):=fun {t f vs} h h1 h2 h3=>by
  rw [zo7 h]
  unfold zb2
  rw [show zd4 ([Ev.cl (.str (zk0 M vs))].map Ev.d)=_ from read_is M0 M60 h1 h2 h3]
  rfl
 have E6:=asg_dn (i:=5) (read_of (t:=t4) (f:=dVar 2) rfl ul hu hp) (by simp [t4])
 let t5:Th:=[N,W,T,W,T,.dp (WD M us),.no]
 have E7:(dIfS (dNot (dTr (dT1 (zb2 zc6) (za2 (dVar 5) (za2 (dVar 1) dNil))))) (dRet (dC (.bl false))) ze1) t5=some (.nx t5):=by
  have a:=zx6 (fa:=dVar 5) (fb:=dVar 1) (t:=t5) (ra:=.tm (WD M us)) (rb:=.cl (WD M us)) rfl rfl rfl rfl
  exact grd (not_of (zap3 a)) rfl
 have e8:(dT1 kTup (za2 (d2 kIx (dVar 1) (dC (.int 0))) (za2 (dSlF (dC (.int 1)) (d2 kIx (dVar 1) (dC (.int 1)))) dNil))) t5=some (.cl (WD M (us.drop 1))):=by
  have l:(dSlF (dC (.int 1)) (d2 kIx (dVar 1) (dC (.int 1)))) t5=some (.nw ((us.drop 1).map tD)):=by
   exact slF_of (us:=us) (r:=.cl (.lst (us.map tD))) rfl rfl
  exact (zr3 (rfl:(d2 kIx (dVar 1) (dC (.int 0))) t5=some (.cl (.int (M:Int)))) l).trans rfl
 have E8:=zj0 (i:=6) e8 (by simp [t5])
 let t6:Th:=[N,W,T,W,T,.dp (WD M us),.val (WD M (us.drop 1))]
 have dl:(us.drop 1).length≤400:=by rw [zbj4];lia
 have du:∀u∈us.drop 1,u.1<u.2∧u.2<M:=fun u h=>hu u (zbb6 h)
 have du':∀u∈us.drop 1,u.1≤60∧u.2≤60:=fun u h=>hu' u (zbb6 h)
 have dp':(us.drop 1).Pairwise below:=hp.sublist (List.drop_sublist 1 us)
 have E9:(dIfS (dOr (dNot (dTr (dT1 (zb2 zc6) (za2 (dT1 (zb2 zd4) (za2 (d2 zx4 (dC (.str "\n")) (dT1 (zb2 zf9) (za2 (dVar 6) dNil))) dNil)) (za2 (dVar 6) dNil))))) (dNot (dTr (dT1 (zb2 zc6) (za2 (dVar 5) (za2 (dVar 1) dNil)))))) (dRet (dC (.bl false))) ze1) t6=some (.nx t6):=by
  have a:=zx6 (fb:=dVar 6) (rb:=.cl (WD M (us.drop 1))) (read_of (t:=t6) (rows_of (t:=t6) (i:=6) rfl dl du') dl du dp') rfl rfl rfl
  have b:=zx6 (fa:=dVar 5) (fb:=dVar 1) (t:=t6) (ra:=.tm (WD M us)) (rb:=.cl (WD M us)) rfl rfl rfl rfl
  exact grd (zk3 (not_of (zap3 a)) (not_of (zap3 b))) rfl
 obtain⟨x5,E10⟩:∃x5,zaw2 5 [(dC (.int 1))] (dT1 kTup (za2 (dC (.int 0)) (za2 (dC (.int 1)) dNil))) t6=some (.nx [N,W,T,W,T,x5,.val (WD M (us.drop 1))]):=by
  refine⟨.dp (.tup [.int (M:Int),.lst (us.map tD++[.tup [.int 0,.int 1]])]),?_⟩
  unfold zaw2
  show zat9 t6 5 [1] (.cl (.tup [.int 0,.int 1]))=_
  unfold zat9
  show (if flat (Ev.cl (.tup [.int 0,.int 1])).d&&decide ((us.map tD).length<100000) then _ else none)=_
  rw [zbc4,if_pos (by rw [decide_eq_true (by lia)];rfl)]
  rfl
 let t7:Th:=[N,W,T,W,T,x5,.val (WD M (us.drop 1))]
 have e11:(zao4 (dT1 (zb2 zc6) (za2 (dT1 (zb2 zd4) (za2 (dVar 2) dNil)) (za2 (dVar 1) dNil))) (d2 kEq (dT1 (zb2 zd7) (za2 (dVar 3) dNil)) (dVar 2))) t7=some (.cl (.bl true)):=by
  have a:=zx6 (fb:=dVar 1) (rb:=.cl (WD M us)) (read_of (t:=t7) (f:=dVar 2) rfl ul hu hp) rfl rfl rfl
  unfold zao4
  rw [a]
  show (d2 kEq (dT1 (zb2 zd7) (za2 (dVar 3) dNil)) (dVar 2)) t7=_
  rw [zi8 (shown_of (t:=t7) rfl) (rfl:dVar 2 t7=some (.cl (.str (zk0 M us))))]
  exact eq_str rfl rfl
 show (g_law t0).bind zi9=_
 exact bnd ((zb7 E1).trans ((zb7 E2).trans ((zb7 E3).trans ((zb7 E4).trans ((zb7 E5).trans ((zb7 E6).trans ((zb7 E7).trans ((zb7 E8).trans ((zb7 E9).trans ((zb7 E10).trans (zr5 e11)))))))))))
end KX
set_option maxHeartbeats 4000000
namespace KX
open PySem.Spec L2 DL
def spLaw (K:zay3):Sp:=spD K G_law
theorem all_mk {P:Program}{w:World}{K:zay3}{h:Heap}{mg:Str→Option Value}{fa:Addr} (X:K.In h) (G:h.Ns mainGlobals mg) (hfa:mg "law"=some (.ref fa)) {f0:Addr}{f1:Addr}{f2:Addr}{f3:Addr}{f4:Addr}{f5:Addr}{f6:Addr}{f7:Addr}{f8:Addr}{f9:Addr}{f10:Addr}{f11:Addr}{f12:Addr}{f13:Addr}{f14:Addr}{f15:Addr}
  (h0:Hv K "number_of" zj4 f0)
  (h1:Hv K "numbers_behind" ze9 f1)
  (h2:Hv K "points_told" zg9 f2)
  (h3:Hv K "tie_told" zk9 f3)
  (h4:Hv K "may_follow" zi3 f4)
  (h5:Hv K "read_web" zl0 f5)
  (h6:Hv K "shown_web" zj3 f6)
  (h7:Hv K "_law_cell_at" zh0 f7)
  (h8:Hv K "_law_mixed" zj6 f8)
  (h9:Hv K "_law_put" zn6 f9)
  (h10:Hv K "_law_ties" zl1 f10)
  (h11:Hv K "_law_web" zn5 f11)
  (h12:Hv K "_law_whole" zj5 f12)
  (h13:Hv K "_law_rows" zl2 f13)
  (h14:Hv K "_law_good" zl3 f14)
  (h15:Hv K "law" s_law f15)
  (z_bool:zbd3 K mainGlobals "bool"=some none) (z_enumerate:zbd3 K mainGlobals "enumerate"=some none) (z_int:zbd3 K mainGlobals "int"=some none) (z_isinstance:zbd3 K mainGlobals "isinstance"=some none) (z_len:zbd3 K mainGlobals "len"=some none) (z_list:zbd3 K mainGlobals "list"=some none) (z_max:zbd3 K mainGlobals "max"=some none) (z_min:zbd3 K mainGlobals "min"=some none) (z_range:zbd3 K mainGlobals "range"=some none) (z_sorted:zbd3 K mainGlobals "sorted"=some none) (z_str:zbd3 K mainGlobals "str"=some none) (z_tuple:zbd3 K mainGlobals "tuple"=some none) {t_MOST_FIGURES:Tok} (z_MOST_FIGURES:zbd3 K mainGlobals "MOST_FIGURES"=some (some (.int 12 t_MOST_FIGURES))) {t_MOST_POINTS:Tok} (z_MOST_POINTS:zbd3 K mainGlobals "MOST_POINTS"=some (some (.int 60 t_MOST_POINTS))) {t_MOST_TIES:Tok} (z_MOST_TIES:zbd3 K mainGlobals "MOST_TIES"=some (some (.int 400 t_MOST_TIES)))  :
  TbOk K []∧∃fd:FuncData,(∀(s:zaz5) (v:Value),BindsTo s fd ⟨[v],[]⟩ [("_law_script",v)])∧∀base:BHeap,base.tabs=tbOf K []→K.In base→base.Ns mainGlobals mg→(∀x∈([]:List Str),∀c P,zbt3 K x=some (c,P)→zbr9 base c P)→FnOk P w K mg base CX0 5 fa fd ["_law_script"] (spLaw K):=by
 have e:=hfa.symm.trans (h15.mg X G)
 cases e
 have bu:Blt mg:=⟨zbc3 X G z_bool,zbc3 X G z_enumerate,zbc3 X G z_int,zbc3 X G z_isinstance,zbc3 X G z_len,zbc3 X G z_list,zbc3 X G z_max,zbc3 X G z_min,zbc3 X G z_range,zbc3 X G z_sorted,zbc3 X G z_str,zbc3 X G z_tuple,⟨_,zbl9 X G z_MOST_FIGURES⟩,⟨_,zbl9 X G z_MOST_POINTS⟩,⟨_,zbl9 X G z_MOST_TIES⟩⟩
 obtain⟨_,u0⟩:=h0.fn
 have d0:Df K mg "number_of" zj4 ["text"] f0 _:=⟨u0,h0.mg X G,zt6 u0 fun _ _ _ _ _ _ _=>rfl⟩
 obtain⟨_,u1⟩:=h1.fn
 have d1:Df K mg "numbers_behind" ze9 ["word", "many", "row"] f1 _:=⟨u1,h1.mg X G,binds3 u1 fun _ _ _ _ _ _ _ _ _=>rfl⟩
 obtain⟨_,u2⟩:=h2.fn
 have d2:Df K mg "points_told" zg9 ["row"] f2 _:=⟨u2,h2.mg X G,zt6 u2 fun _ _ _ _ _ _ _=>rfl⟩
 obtain⟨_,u3⟩:=h3.fn
 have d3:Df K mg "tie_told" zk9 ["row", "many"] f3 _:=⟨u3,h3.mg X G,zt5 u3 fun _ _ _ _ _ _ _ _=>rfl⟩
 obtain⟨_,u4⟩:=h4.fn
 have d4:Df K mg "may_follow" zi3 ["ties", "tie"] f4 _:=⟨u4,h4.mg X G,zt5 u4 fun _ _ _ _ _ _ _ _=>rfl⟩
 obtain⟨_,u5⟩:=h5.fn
 have d5:Df K mg "read_web" zl0 ["text"] f5 _:=⟨u5,h5.mg X G,zt6 u5 fun _ _ _ _ _ _ _=>rfl⟩
 obtain⟨_,u6⟩:=h6.fn
 have d6:Df K mg "shown_web" zj3 ["web"] f6 _:=⟨u6,h6.mg X G,zt6 u6 fun _ _ _ _ _ _ _=>rfl⟩
 obtain⟨_,u7⟩:=h7.fn
 have d7:Df K mg "_law_cell_at" zh0 ["_law_script", "_law_k"] f7 _:=⟨u7,h7.mg X G,zt5 u7 fun _ _ _ _ _ _ _ _=>rfl⟩
 obtain⟨_,u8⟩:=h8.fn
 have d8:Df K mg "_law_mixed" zj6 ["_law_cell", "_law_k"] f8 _:=⟨u8,h8.mg X G,zt5 u8 fun _ _ _ _ _ _ _ _=>rfl⟩
 obtain⟨_,u9⟩:=h9.fn
 have d9:Df K mg "_law_put" zn6 ["_law_found", "_law_many", "_law_number"] f9 _:=⟨u9,h9.mg X G,binds3 u9 fun _ _ _ _ _ _ _ _ _=>rfl⟩
 obtain⟨_,u10⟩:=h10.fn
 have d10:Df K mg "_law_ties" zl1 ["_law_script", "_law_many"] f10 _:=⟨u10,h10.mg X G,zt5 u10 fun _ _ _ _ _ _ _ _=>rfl⟩
 obtain⟨_,u11⟩:=h11.fn
 have d11:Df K mg "_law_web" zn5 ["_law_script", "_law_most"] f11 _:=⟨u11,h11.mg X G,zt5 u11 fun _ _ _ _ _ _ _ _=>rfl⟩
 obtain⟨_,u12⟩:=h12.fn
 have d12:Df K mg "_law_whole" zj5 ["_law_found"] f12 _:=⟨u12,h12.mg X G,zt6 u12 fun _ _ _ _ _ _ _=>rfl⟩
 obtain⟨_,u13⟩:=h13.fn
 have d13:Df K mg "_law_rows" zl2 ["_law_web_here"] f13 _:=⟨u13,h13.mg X G,zt6 u13 fun _ _ _ _ _ _ _=>rfl⟩
 obtain⟨_,u14⟩:=h14.fn
 have d14:Df K mg "_law_good" zl3 ["_law_found", "_law_web_here"] f14 _:=⟨u14,h14.mg X G,zt5 u14 fun _ _ _ _ _ _ _ _=>rfl⟩
 obtain⟨_,u15⟩:=h15.fn
 have d15:Df K mg "law" s_law ["_law_script"] fa _:=⟨u15,h15.mg X G,zt6 u15 fun _ _ _ _ _ _ _=>rfl⟩
 refine⟨tbOk_nil,_,Hv.bt u15 fun _ _ _ _ _ _ _=>rfl,fun base ht _ _ hCd=>?_⟩
 have F_number_of:=zab1 (P:=P) (w:=w) (base:=base) d0.fn bu
 have F_numbers_behind:=zp3 (P:=P) (w:=w) (base:=base) d1.fn bu (d0.cal F_number_of)
 have F_points_told:=zt9 (P:=P) (w:=w) (base:=base) d2.fn bu (d1.cal F_numbers_behind)
 have F_tie_told:=zag0 (P:=P) (w:=w) (base:=base) d3.fn bu (d1.cal F_numbers_behind)
 have F_may_follow:=zx1 (P:=P) (w:=w) (base:=base) d4.fn bu
 have F_read_web:=zag1 (P:=P) (w:=w) (base:=base) d5.fn bu (d2.cal F_points_told) (d3.cal F_tie_told) (d4.cal F_may_follow)
 have F_shown_web:=zab0 (P:=P) (w:=w) (base:=base) d6.fn bu
 have F_law_cell_at:=zu0 (P:=P) (w:=w) (base:=base) d7.fn bu
 have F_law_mixed:=zab3 (P:=P) (w:=w) (base:=base) d8.fn bu
 have F_law_put:=zan4 (P:=P) (w:=w) (base:=base) d9.fn bu
 have F_law_ties:=zag2 (P:=P) (w:=w) (base:=base) d10.fn bu (d7.cal F_law_cell_at) (d8.cal F_law_mixed) (d9.calP F_law_put)
 have F_law_web:=zan3 (P:=P) (w:=w) (base:=base) d11.fn bu (d7.cal F_law_cell_at) (d10.cal F_law_ties)
 have F_law_whole:=zab2 (P:=P) (w:=w) (base:=base) d12.fn bu
 have F_law_rows:=zag3 (P:=P) (w:=w) (base:=base) d13.fn bu
 have F_law_good:=zag4 (P:=P) (w:=w) (base:=base) d14.fn bu (d12.cal F_law_whole)
 have F_law:=ok_law (P:=P) (w:=w) (base:=base) d15.fn bu (d11.cal F_law_web) (d13.cal F_law_rows) (d6.cal F_shown_web) (d5.cal F_read_web) (d14.cal F_law_good)
 exact F_law
theorem walk {l:zbq1}{q:Program}{loose:List Str}{XP:(Str→Option Value)→Heap→Prop}{YP:World→Heap→Prop}{d:DefRec}{K:Params→zay3} (hn:l.most=some 63) (hdf:d.params.defaults=[])
  (hY:∀(w:World) (h:Heap),YP w h→(K w.params).In h) (hrec:∀x∈([]:List Str),∃dr,(recsOf q).find? (fun e=>e.name == x)=some dr)
  (Fx:∀(w:World) (mg:Str→Option Value) (fa:Addr) (h:Heap),(K w.params).In h→h.Ns mainGlobals mg→mg d.name=some (.ref fa) →
   TbOk (K w.params) []∧∃fd:FuncData,(∀(s:zaz5) (u:Value),BindsTo s fd ⟨[u],[]⟩ [("_law_script",u)])∧∀base:BHeap,base.tabs=tbOf (K w.params) []→(K w.params).In base→base.Ns mainGlobals mg→(∀x∈([]:List Str),∀c P,zbt3 (K w.params) x=some (c,P)→zbr9 base c P)→FnOk l.prog w (K w.params) mg base CX0 5 fa fd ["_law_script"] (spLaw (K w.params))) :
  zbs7 q loose XP YP l.row.toRowW d [] (fun f vs=>PySem.call f vs) :=
 L2.walk_ofT (n:=63) (k:=5) (x := "_law_script") (names:=[]) (CX:=fun _=>CX0) (sp:=fun w=>spLaw (K w.params)) hn (by decide) hdf ⟨rfl,by decide,by decide⟩ hY hrec Fx
  (fun _ H a ns hl hb hS=>⟨[],[.lst (ns.map .int)],.cl (.bl true),fun p hp=>(by cases hp),.cons (.lst (by rw [hide_nil];exact hS) (Reps.ints ns)) .nil,law_true ns hl hb,fun v H' _ q=>by cases q;rfl⟩) fun _ _ _ _ _ z=>z
end KX
open PySem PySem.W PyProof.Rows
set_option maxRecDepth 100000 in
set_option maxHeartbeats 0 in
theorem PySem.Challenge.cw_nearenough_k03_webs_shown_and_read_holds : PySem.Challenge.rw_nearenough_k03_webs_shown_and_read.Holds := by
 w_on;o_law;k_head;(case hw=>w_witness2)
 k_fill
 refine KX.walk (l:=PySem.Challenge.rw_nearenough_k03_webs_shown_and_read) rfl rfl (fun w h Y=>by first | exact PySem.W.kIn_of Y | exact PySem.W.km_in_of Y) (by intro x hx;simp at hx) ?F
 case F =>
  intro w mg fa h KI G hmg
  refine' KX.all_mk KI G hmg ?h0 ?h1 ?h2 ?h3 ?h4 ?h5 ?h6 ?h7 ?h8 ?h9 ?h10 ?h11 ?h12 ?h13 ?h14 ?h15 ?z_bool ?z_enumerate ?z_int ?z_isinstance ?z_len ?z_list ?z_max ?z_min ?z_range ?z_sorted ?z_str ?z_tuple ?z_MOST_FIGURES ?z_MOST_POINTS ?z_MOST_TIES
  all_goals try (refine' DL.Hv.mk ?a ?l ?c ?k;(case a=>k_is);(case l=>k_is);(case c=>k_is);(case k=>k_is))
  all_goals try k_is

