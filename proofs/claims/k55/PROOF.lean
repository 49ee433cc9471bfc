import PyProof.Rows.All
import Wide.All
import OpenK.AllK
import Wide.FinOn
import PyProof.EqAt
import PyProof.EqKinds
import PyProof.NeKinds
import PyProof.TupleCall
import PyProof.EnumFor
import PyProof.EnumMake
import PyProof.CompFree
import PyProof.Rows.SumAny
import PyProof.Rows.Range3
import PyProof.CompUse
import KE.LcSums
import PyProof.ListRange
import PyProof.Rows.MinMaxN
import KE.KIntText
import PyProof.StrCalls2
import PyProof.StrBlockH
import PyProof.Rows.ZipForRows
import PyProof.Rows.SortRev
import KE.KRevSl
import KE.KMinKey
import PyProof.Rows.SetFrom
import PyProof.Rows.SeqMore2
import Lean
import PyProof.WalkInts
import KE.KLam
import KE.KNest
import PyProof.Rows.SortRuns
import KE.KSortKey
import PyProof.Conv_int_bool
import KE.KListMore
import PyProof.DictWalks
import KE.KSortTup
import KE.KDictList
import KE.KRevIter
import PyProof.SetKind
import PyProof.SetScanFacts
import PySem.Challenge.RW_nearenough_k55_whole_roads_walked
noncomputable section
open Array renaming getElem?_toList→zbp8,length_toList→zbr0,toList_append→zbr4
open Int renaming toNat_of_nonneg→zbi5,toNat_natCast→zbl2,mul_le_mul_of_nonneg_right→zbm7,mul_le_mul_of_nonneg_left→zbn0,le_refl→zbo1,mul_nonneg→zbr6,le_trans→zbt4,add_mul→zbv2
open PySem.F renaming plainAttrs_list→zbg6,plain_max_loop→zbh1,plain_min_loop→zbh2,slot_list_append→zbl6,type_list_append→zbl7,entry_max_loop→zbm3,entry_min_loop→zbm5,slot_list_remove→zbo8,slot_list_pop→zbp9,type_list_pop→zbq0
open Nat renaming lt_of_lt_of_le→zbe2,le_refl→zbf1,ne_of_lt→zbf5,lt_irrefl→zbh6,le_trans→zbh8,lt_succ_self→zbj2,lt_succ_of_lt→zbl1,pow_le_pow_right→zbl3,mod_lt→zbm0,le_of_lt→zbn1,ne_of_gt→zbn3,mul_le_mul→zbo6,lt_or_ge→zbo7,lt_trans→zbq7,le_succ→zbr8,lt_of_le_of_lt→zbr9,zero_le→zbs0,add_mul→zbv4,one_mul→zbv5
open Bool renaming and_eq_true→zbd8,false_ne_true→zbe5,eq_iff_iff→zbi6,or_true→zbi9,false_eq_true→zbj3,and_true→zbn5,false_and→zbo3,or_eq_true→zbq4,and_false→zbr2,true_and→zbs3,not_eq_true→zbt7
open PySem.Heap renaming get?_push_of_some→zbd5,lt_size→zbe4,get?_push_size→zbf7,get?_update_other→zbf9,size_push→zbk6
open PySem renaming wpAny_bind→zbd4,Shared→zbe1,starEach→zbe3,wpAny_pure→zbf3,backTo→zbj4
open Option renaming bind_some→zbc8,map_some→zbf8,isSome_iff_exists→zbo4,getD_some→zbt2
open PySem.W renaming Frag→zbc5,mg_none_of→zbg2,nsIn→zbg9,keepIn→zbh3,fnOf→zbh9,kia_one→zbi8,kla_obj→zbl0,findIn→zbl5,CodeHd→zbl9,tabIn→zbm4,codeIn→zbm9,methodObj→zbo9,cellsFrom_some→zbp3,mg_of→zbp5,instObj→zbq2,lookIn→zbr1,kla_fn→zbr3,hasDictIn→zbs4,specialIn→zbs5,kitx_dict→zbs6,plainGet→zbs8,OpenLaw→zbu4,WalkO→zbx1
open List renaming mem_append_right→zbc4,mem_cons_of_mem→zbc6,mem_append_left→zbc7,mem_cons_self→zbc9,mem_append→zbd0,getElem?_eq_getElem→zbd1,mem_cons→zbd2,mem_singleton→zbd3,getD_eq_getElem?_getD→zbd6,map_cons→zbd7,length_map→zbd9,nodup_append→zbe0,nodup_cons→zbe6,size_toArray→zbe7,replicate→zbe8,drop_eq_getElem_cons→zbe9,length_append→zbf0,range→zbf2,length_cons→zbf4,mem_map→zbf6,getElem?_map→zbg0,lookup_cons→zbg1,length_singleton→zbg3,nodup_nil→zbg4,getElem?_eq_some_iff→zbg5,append_nil→zbg7,all_eq_true→zbg8,all_cons→zbh0,length_eq_zero_iff→zbh4,mem_filter→zbh5,getElem_mem→zbh7,flatMap_cons→zbi0,pairwise_cons→zbi1,count_append→zbi2,replicate_succ→zbi3,drop_of_length_le→zbi4,getElem?_append_right→zbi7,mem_of_mem_erase→zbj0,getElem?_append_left→zbj1,any_cons→zbj5,eraseIdxIfInBounds_toArray→zbj6,mem_erase_of_ne→zbj7,map_map→zbj8,append_assoc→zbj9,map_append→zbk0,getElem?_replicate→zbk1,getElem?_cons_succ→zbk2,getElem_of_mem→zbk3,drop_length→zbk4,range_succ_eq_map→zbk5,count_pos_iff→zbk7,length_replicate→zbk8,nil_append→zbk9,mem_range→zbl4,length_erase_of_mem→zbl8,mem_filterMap→zbm1,length_pos_of_mem→zbm2,flatten_cons→zbm6,getElem?_eq_none→zbm8,getElem?_set_ne→zbn2,filterMap_cons→zbn4,length_reverse→zbn6,foldl_cons→zbn7,length_eraseIdx_of_lt→zbn8,sublist_append_right→zbn9,getLast?_eq_getElem?→zbo0,count_eq_zero→zbo2,map_nil→zbo5,getLast?_cons_cons→zbp0,getElem?_cons_zero→zbp1,getElem?_set_self→zbp2,sublist_cons_self→zbp4,sum_cons→zbp6,singleton_sublist→zbp7,dropLast_eq_take→zbq1,of_mem_zip→zbq3,count_cons→zbq5,mem_of_getElem?→zbq6,perm_cons_erase→zbq8,nodup_iff_count→zbq9,filter_sublist→zbr5,length_pos_iff→zbr7,count_flatMap→zbs1,getLastD_cons→zbs2,pairwise_map→zbs7,filter_cons→zbs9,map_fst_zip→zbt0,map_snd_zip→zbt1,cons_append→zbt3,nodup_range→zbt5,mem_flatMap→zbt8,nil_sublist→zbt9,foldl→zbw7
open PySem PyProof.Rows
set_option Elab.async false
set_option linter.all false
set_option maxRecDepth 100000
namespace L2
open PySem.Spec
abbrev Key:=Sum Int Str
def zaq6:Key→Value→Bool
 |.inl k,v=>Value.isInt k v
 |.inr x,v=>Value.isStrOf x v
def keyH (w:World):Key→Int
 |.inl k=>hashInt k
 |.inr x=>hashStr w x
theorem ze5:∀ {k:Key}{v:Value},zaq6 k v=true→(∃i t,k=Sum.inl i∧v=Value.int i t)∨(∃x t,k=Sum.inr x∧v=Value.str x t)
 |.inl i,v,h=>by
  obtain⟨t,e⟩:=Value.isInt_shape (k:=i) (v:=v) h
  exact .inl ⟨i,t,rfl,e⟩
 |.inr x,v,h=>by
  obtain⟨t,e⟩:=Value.isStrOf_shape (x:=x) (v:=v) h
  exact .inr ⟨x,t,rfl,e⟩
theorem zax8 (i:Int) (t:Tok):zaq6 (.inl i) (.int i t)=true:=by simp [zaq6,Value.isInt]
theorem zax7 (x:Str) (t:Tok):zaq6 (.inr x) (.str x t)=true:=by simp [zaq6,Value.isStrOf]
theorem key_ll (a b:Int):decide ((Sum.inl a:Key)=Sum.inl b)=(a == b):=by
 by_cases e:a=b
 ·subst e;simp
 ·have h : ¬ (Sum.inl a:Key)=Sum.inl b:=fun q=>e (Sum.inl.inj q)
  rw [decide_eq_false h]
  exact (beq_eq_false_iff_ne.mpr e).symm
theorem key_rr (a b:Str):decide ((Sum.inr a:Key)=Sum.inr b)=decide (a=b):=by
 by_cases e:a=b
 ·subst e;simp
 ·have h : ¬ (Sum.inr a:Key)=Sum.inr b:=fun q=>e (Sum.inr.inj q)
  rw [decide_eq_false h,decide_eq_false e]
theorem key_lr (a:Int) (b:Str):decide ((Sum.inl a:Key)=Sum.inr b)=false:=decide_eq_false (fun q=>nomatch q)
theorem key_rl (a:Str) (b:Int):decide ((Sum.inr a:Key)=Sum.inl b)=false:=decide_eq_false (fun q=>nomatch q)
noncomputable def zn1 (prog:Program) (w:World):PySem.KeyKind prog w Key where
 is:=zaq6
 hash:=keyH w
 inj:=fun v a b ha hb=>by
  rcases ze5 ha with ⟨i,t,rfl,rfl⟩ | ⟨x,t,rfl,rfl⟩
  ·rcases ze5 hb with ⟨j,u,rfl,e⟩ | ⟨y,u,rfl,e⟩
   ·injection e with e1 _;rw [e1]
   ·exact nomatch e
  ·rcases ze5 hb with ⟨j,u,rfl,e⟩ | ⟨y,u,rfl,e⟩
   ·exact nomatch e
   ·injection e with e1 _;rw [e1]
 byValue:=fun k v h=>by
  rcases ze5 h with ⟨i,t,rfl,rfl⟩ | ⟨x,t,rfl,rfl⟩<;>rfl
 pyHash:=fun hv h=>by
  rcases ze5 hv with ⟨i,t,rfl,rfl⟩ | ⟨x,t,rfl,rfl⟩
  ·exact wpAny_pyHash_int h
  ·exact wpAny_pyHash_str h
 eqBool:=fun hu hv h=>by
  rcases ze5 hu with ⟨i,t,rfl,rfl⟩ | ⟨x,t,rfl,rfl⟩
  ·rcases ze5 hv with ⟨j,u,rfl,rfl⟩ | ⟨y,u,rfl,rfl⟩
   ·rw [key_ll]at h;exact wpAny_eqBool_int h
   ·rw [key_lr]at h;exact SeqAt.EqAt.int_str i t y u _ _ _ _ h
  ·rcases ze5 hv with ⟨j,u,rfl,rfl⟩ | ⟨y,u,rfl,rfl⟩
   ·rw [key_rl]at h;exact SeqAt.EqAt.str_int x t j u _ _ _ _ h
   ·rw [key_rr]at h;exact wpAny_eqBool_str h
 «strs»:=fun k x t v h=>by
  rcases ze5 h with ⟨i,u,rfl,e⟩ | ⟨y,u,rfl,e⟩
  ·exact nomatch e
  ·injection e with e1 _
   subst e1
   cases v<;>rfl
theorem zak5 (prog:Program) (w:World) (i:Int) (t:Tok):(zn1 prog w).is (.inl i) (.int i t)=true:=zax8 i t
theorem zak4 (prog:Program) (w:World) (x:Str) (t:Tok):(zn1 prog w).is (.inr x) (.str x t)=true:=zax7 x t
inductive V where
 |non | bl (b:Bool) |int (i:Int) |str (x:Str) |byt (b:Array UInt8) |flt (b:UInt64) |ref (a:Addr) |ty (n:String)
 deriving DecidableEq
noncomputable def RelV:V→Value→Prop
 |.non,u=>u=Value.none
 |.bl b,u=>u=Value.bool b
 |.int i,u => ∃t,u=Value.int i t
 |.str x,u => ∃t,u=Value.str x t
 |.byt b,u => ∃t,u=Value.bytes b t
 |.flt b,u => ∃t,u=Value.float b t
 |.ref a,u=>u=Value.ref a
 |.ty n,u=>u=Value.type n
abbrev Vals:List V→List Value→Prop:=Paired RelV
theorem Vals.length {xs:List V}{us:List Value} (r:Vals xs us):xs.length=us.length:=Paired.length r
theorem Vals.get:∀ {xs:List V}{us:List Value}{i:Nat}{x:V},Vals xs us→xs[i]?=some x→∃u,us[i]?=some u∧RelV x u
 |_,_,_,_,.nil,e=>by simp at e
 |_,_,0,_,.cons r _,e=>by simp at e;subst e;exact⟨_,rfl,r⟩
 |_,_,i+1,x,.cons _ t,e=>by
  obtain⟨u,h1,h2⟩:=Vals.get (i:=i) (x:=x) t (by simpa using e)
  exact⟨u,by simpa using h1,h2⟩
theorem Vals.set {x:V}{u:Value} (r:RelV x u):∀ {xs:List V}{us:List Value} (i:Nat),Vals xs us→Vals (xs.set i x) (us.set i u)
 |_,_,_,.nil=>.nil
 |_,_,0,.cons _ t=>.cons r t
 |_,_,i+1,.cons q t=>.cons q (Vals.set r i t)
theorem Vals.append:∀ {xs ys:List V}{us ws:List Value},Vals xs us→Vals ys ws→Vals (xs++ys) (us++ws)
 |_,_,_,_,.nil,s=>s
 |_,_,_,_,.cons r t,s=>.cons r (Vals.append t s)
theorem Vals.drop:∀ {xs:List V}{us:List Value} (n:Nat),Vals xs us→Vals (xs.drop n) (us.drop n)
 |_,_,0,r=>r
 |_,_,_+1,.nil=>.nil
 |_,_,n+1,.cons _ t=>Vals.drop n t
def RelO:Option V→Option Value→Prop
 |some v,some u=>RelV v u
 |none,none=>True
 |_,_=>False
def KV {κ:Type}:List (κ×V)→List (κ×Value)→Prop:=Paired fun (p:κ×V) (q:κ×Value)=>p.1=q.1∧RelV p.2 q.2
def kV:Key→V
 |.inl i=>.int i
 |.inr x=>.str x
inductive HO where
 /-- a list -/
 |lst (xs:List V)
 /-- a tuple (never changes) -/
 |tup (xs:List V)
 /-- a dict whose keys are ints and texts;one whose keys are tuples of ints and texts (the empty one is both) -/
 |dK (kvs:List (Key×V)) |dT (kvs:List (List Key×V))
 /-- a set of ints: its members,its size -/
 |set (S:Int→Bool) (n:Nat)
 /-- an instance of the class at C,its dict at dx,its attributes -/
 |ins (C dx:Addr) (fs:List (Str×V))
 /-- the dict of the instance at x -/
 |own (x:Addr)
 /-- the dict of an exception -/
 |xd (fs:List (Str×V))
 /-- a bound method,f of x -/
 |met (f x:Addr)
 /-- a range object lo,lo+1,.. below hi -/
 |rng (lo hi:Int)
 /-- a thing that is known to the object (the script;a dict while a loop walks it): read,never written while it is so -/
 |frz (o:Obj) (u:HO)
 /-- a code object's table -/
 |tbl (q:Str)
 /-- any other thing,by what is true of its one object (a def of one's own: SetO a S n:=HO.ext fun h=>..) -/
 |ext (φ:Heap→Prop)
abbrev Hp:=Addr→Option HO
def upd (H:Hp) (a:Addr) (o:HO):Hp:=fun b=>if b=a then some o else H b
theorem za8 {H:Hp}{a:Addr}{o:HO}:upd H a o a=some o:=by unfold upd;rw [if_pos rfl]
theorem zb1 {H:Hp}{a b:Addr}{o:HO} (h:b≠a):upd H a o b=H b:=by unfold upd;rw [if_neg h]
theorem zi7 {H:Hp}{a b:Addr}{o:HO} (h:H a=some o) (h':H b=none):a≠b:=by
 intro e;subst e;rw [h]at h';cases h'
section
variable (P:Program) (w:World)
noncomputable def ObjOk (H:Hp) (h:Heap) (a:Addr):HO→Prop
 |.lst xs=>xs.length≤sizeLine∧∃(its:List Value) (n:Nat),Vals xs its∧h.get? a=some { cls:=.type "list",data:=.seq its.toArray n }
 |.tup xs=>xs.length≤sizeLine∧∃its:List Value,Vals xs its∧IsTup h a its.toArray
 |.dK kvs=>kvs.length≤sizeLine∧(a == sysModules)=false∧∃vs,KV kvs vs∧h.DictOf (zn1 P w) a vs
 |.dT kvs=>kvs.length≤sizeLine∧(a == sysModules)=false∧∃xs:List (List Key×Addr×Value),
   Paired (fun (p:List Key×V) (q:List Key×Addr×Value)=>p.1=q.1∧H q.2.1=some (.tup (p.1.map kV))∧RelV p.2 q.2.2) kvs xs ∧
   ∃o es ep,h.get? a=some o∧o.ExactDict∧o.data=.dict es ep∧es.toList=xs.map (entryOfKey (tupleKind (zn1 P w)))∧(xs.map (·.1)).Nodup
 |.set S n=>h.SetOf (intKind P w) a S n
 |.ins C dx fs=>H dx=some (.own a)∧fs.length≤1000∧dx≠a∧h.get? a=some (zbq2 C dx) ∧
   ∃mA,h.Ns1 dx mA∧(∀f,RelO (fs.lookup f) (mA f))∧PySem.Within mA (fs.map (·.1))
 |.own _ => ∃o,h.get? a=some o
 |.xd fs => ∃mA,h.Ns1 a mA∧∀f,RelO (fs.lookup f) (mA f)
 |.rng lo hi => ∃t u v,h.get? a=some { cls:=.type "range",data:=.fields #[.int lo t,.int hi u,.int 1 v] }
 |.frz o u=>h.get? a=some o∧ObjOk H h a u
 |.tbl q => ∃ps:Array Value,h.get? a=some { cls:=.none,data:=.fields ps }∧TriplesOk ps.toList∧∀pos cv,codeAmong pos ps.toList=some cv→∃(c:Addr) (oc:Obj) (vs:Array Value) (tk:Tok),cv=.ref c∧H c=some (.frz oc (.own 0))∧oc.data=.fields vs∧vs[1]?=some (.str q tk)
 |.met f x=>h.get? a=some (zbo9 (.ref f) (.ref x))
 |.ext φ=>φ h∧(∃o,h.get? a=some o)∧∀h1 h2:Heap,φ h1→(∀o,h1.get? a=some o→h2.get? a=some o)→φ h2
def HOk (H:Hp) (h:Heap):Prop := ∀a o,H a=some o→ObjOk P w H h a o
end
section
variable {P:Program}{w:World}{H H':Hp}{h h':Heap}{a:Addr}{o:HO}
theorem ObjOk.lt (x:ObjOk P w H h a o):a<h.objs.size:=by
 cases o with
 |lst xs=>obtain⟨_,_,_,_,e⟩:=x;exact zbe4 e
 |tup xs=>obtain⟨_,_,_,p⟩:=x;exact p.lt
 |dK kvs=>obtain⟨_,_,_,_,o,_,_,e,_⟩:=x;exact zbe4 e
 |dT kvs=>obtain⟨_,_,_,_,o,_,_,e,_⟩:=x;exact zbe4 e
 |set S n=>obtain⟨o,_,_,_,e,_⟩:=x;exact zbe4 e
 |ins C dx fs=>obtain⟨_,_,_,e,_⟩:=x;exact zbe4 e
 |own y=>obtain⟨_,e⟩:=x;exact zbe4 e
 |xd fs=>obtain⟨_,⟨_,_,_,e,_⟩,_⟩:=x;exact zbe4 e
 |rng lo hi=>obtain⟨_,_,_,e⟩:=x;exact zbe4 e
 |frz ob u=>obtain⟨e,_⟩:=x;exact zbe4 e
 |tbl q=>obtain⟨_,e,_⟩:=x;exact zbe4 e
 |met f y=>exact zbe4 (show h.get? a=some _ from x)
 |ext φ=>obtain⟨_,⟨_,e⟩,_⟩:=x;exact zbe4 e
theorem Paired.mapP {α β:Type}{F G:α→β→Prop}:∀ {l₁:List α}{l₂:List β},Paired F l₁ l₂→(∀a b,F a b→G a b)→Paired G l₁ l₂
 |_,_,.nil,_=>.nil
 |_,_,.cons r t,f=>.cons (f _ _ r) (Paired.mapP t f)
theorem ObjOk.stay (x:ObjOk P w H h a o) (k:∀b u,(b=a∨H b=some (.own a))→h.get? b=some u→h'.get? b=some u)
  (ho:∀b,H b=some (.own a)→H' b=some (.own a)) (ht:∀b xs,H b=some (.tup xs)→H' b=some (.tup xs)) (hz:∀b o u,H b=some (.frz o u)→H' b=some (.frz o u)):ObjOk P w H' h' a o:=by
 induction o with
 |lst xs=>obtain⟨z,its,n,r,e⟩:=x;exact⟨z,its,n,r,k _ _ (.inl rfl) e⟩
 |tup xs=>obtain⟨z,its,r,ob,e,c⟩:=x;exact⟨z,its,r,ob,k _ _ (.inl rfl) e,c⟩
 |dK kvs=>obtain⟨z,y,vs,r,ob,es,ep,e,c⟩:=x;exact⟨z,y,vs,r,ob,es,ep,k _ _ (.inl rfl) e,c⟩
 |dT kvs =>
  obtain⟨z,y,xs,r,ob,es,ep,e,c⟩:=x
  exact⟨z,y,xs,Paired.mapP r fun p q z=>⟨z.1,ht _ _ z.2.1,z.2.2⟩,ob,es,ep,k _ _ (.inl rfl) e,c⟩
 |set S n=>obtain⟨ob,es,ep,t,e,c⟩:=x;exact⟨ob,es,ep,t,k _ _ (.inl rfl) e,c⟩
 |ins C dx fs =>
  obtain⟨d,z,ne,e,mA,⟨od,es,ep,e2,c⟩,r⟩:=x
  exact⟨ho _ d,z,ne,k _ _ (.inl rfl) e,mA,⟨od,es,ep,k _ _ (.inr d) e2,c⟩,r⟩
 |own y=>obtain⟨ob,e⟩:=x;exact⟨ob,k _ _ (.inl rfl) e⟩
 |xd fs=>obtain⟨mA,⟨od,es,ep,e,c⟩,r⟩:=x;exact⟨mA,⟨od,es,ep,k _ _ (.inl rfl) e,c⟩,r⟩
 |rng lo hi=>obtain⟨t,u,v,e⟩:=x;exact⟨t,u,v,k _ _ (.inl rfl) e⟩
 |frz ob u ih=>obtain⟨e,q⟩:=x;exact⟨k _ _ (.inl rfl) e,ih q⟩
 |tbl q=>obtain⟨ps,e,t,r⟩:=x;exact⟨ps,k _ _ (.inl rfl) e,t,fun pos cv z=>let ⟨c,oc,vs,tk,a1,a2,a3⟩:=r pos cv z;⟨c,oc,vs,tk,a1,hz _ _ _ a2,a3⟩⟩
 |met f y =>
  have e:h.get? a=some (zbo9 (.ref f) (.ref y)):=x
  show h'.get? a=some (zbo9 (.ref f) (.ref y))
  exact k a _ (.inl rfl) e
 |ext φ=>obtain⟨p,⟨o,e⟩,st⟩:=x;exact⟨st _ _ p fun o q=>k _ _ (.inl rfl) q,⟨o,k _ _ (.inl rfl) e⟩,st⟩
theorem HOk.lt (x:HOk P w H h) (e:H a=some o):a<h.objs.size:=(x a o e).lt
theorem HOk.fresh (x:HOk P w H h) (e:h.objs.size≤a):H a=none:=by
 cases q:H a with
 |none=>rfl
 |some u=>exact absurd (zbe2 (x.lt q) e) (zbh6 _)
theorem HOk.kept (x:HOk P w H h) (k:∀b u,h.get? b=some u→h'.get? b=some u):HOk P w H h':=fun a o e =>
 (x a o e).stay (fun b u _ q=>k b u q) (fun _ q=>q) (fun _ _ q=>q) fun _ _ _ q=>q
theorem HOk.laid (x:HOk P w H h) (k:∀b u,h.get? b=some u→h'.get? b=some u) (hp:h.objs.size≤a) (new:ObjOk P w (upd H a o) h' a o):HOk P w (upd H a o) h':=fun b u e=>by
 have hn:=x.fresh hp
 by_cases hb:b=a
 ·subst hb;rw [za8]at e;cases e;exact new
 ·rw [zb1 hb]at e
  exact (x b u e).stay (fun c v _ q=>k c v q) (fun c q=>by rw [zb1 (zi7 q hn)];exact q) (fun c xs q=>by rw [zb1 (zi7 q hn)];exact q) fun c o u q=>by rw [zb1 (zi7 q hn)];exact q
end
def Rd (H:Hp) (a:Addr) (u:HO):Prop:=H a=some u∨∃o,H a=some (.frz o u)
theorem Rd.ok {P:Program}{w:World}{H:Hp}{h:Heap}{a:Addr}{u:HO} (r:Rd H a u) (x:HOk P w H h):ObjOk P w H h a u:=by
 rcases r with r | ⟨o,r⟩
 ·exact x a u r
 ·obtain⟨_,q⟩:=x a _ r
  exact q
noncomputable def Mut:Option HO→Prop
 |some (.lst _)=>True
 |some (.dK _)=>True
 |some (.dT _)=>True
 |some (.set _ _)=>True
 |some (.ins _ _ _)=>True
 |some (.ext _)=>True
 |_=>False
section
variable {P:Program}{w:World}{H:Hp}{h h':Heap}{x e:Addr}{o':HO}
theorem HOk.write (ok:HOk P w H h) (mu:Mut (H x)) (he:e=x∨H e=some (.own x)) (k:∀b u,b≠e→h.get? b=some u→h'.get? b=some u) (heo:∃u,h'.get? e=some u)
  (new:ObjOk P w (upd H x o') h' x o'):HOk P w (upd H x o') h':=fun b u q=>by
 have nown:∀c y,H c=some (.own y)→c≠x:=fun c y r z=>by subst z;rw [r]at mu;exact mu
 have ntup:∀c xs,H c=some (.tup xs)→c≠x:=fun c xs r z=>by subst z;rw [r]at mu;exact mu
 by_cases hb:b=x
 ·subst hb;rw [za8]at q;cases q;exact new
 ·rw [zb1 hb]at q
  by_cases hbe:b=e
  ·have q':H b=some (.own x):=by
    rcases he with z | z
    ·exact absurd (hbe.trans z) hb
    ·rw [hbe];exact z
   rw [q]at q';cases q'
   obtain⟨v,hv⟩:=heo
   exact⟨v,by rw [hbe];exact hv⟩
  ·refine (ok b u q).stay (fun c v hc r=>k c v ?_ r) (fun c r=>by rw [zb1 (nown c b r)];exact r) (fun c xs r=>by rw [zb1 (ntup c xs r)];exact r) fun c o u r=>by rw [zb1 (fun z=>by subst z;rw [r]at mu;exact mu)];exact r
   rcases hc with rfl | hc
   ·exact hbe
   ·rintro rfl
    rcases he with z | z
    ·exact nown c b hc z
    ·rw [hc]at z;cases z;exact hb rfl
end
structure Un (fs ex:List Addr) (H H':Hp) (h h':Heap):Prop where
 keep:∀b o,h.get? b=some o→H b=none→b∉fs→b∉ex→h'.get? b=some o
 slot:∀b o,h.get? b=some o→H b=none→b∈fs→b∉ex→∃sl,h'.get? b=some { o with slots:=sl }
 free:∀b o,h.get? b=some o→H b=none→b∉ex→H' b=none
 there:∀b o,h.get? b=some o→b∉ex→∃o',h'.get? b=some o'
 tups:∀b xs,H b=some (.tup xs)→H' b=some (.tup xs)
 frzs:∀b o u,H b=some (.frz o u)→H' b=some (.frz o u)
 tbls:∀b q,H b=some (.tbl q)→H' b=some (.tbl q)
section
variable {fs fs' ex ex':List Addr}{H H1 H2:Hp}{h h1 h2 h':Heap}{a x e:Addr}{o:HO}
theorem Un.any (u:Un fs ex H H1 h h1) {b:Addr}{ob:Obj} (q:h.get? b=some ob) (n:H b=none) (hx:b∉ex):∃sl,h1.get? b=some { ob with slots:=sl }:=by
 by_cases hb:b∈fs
 ·exact u.slot b ob q n hb hx
 ·exact⟨ob.slots,u.keep b ob q n hb hx⟩
theorem Un.trans (a:Un fs ex H H1 h h1) (b:Un fs ex H1 H2 h1 h2):Un fs ex H H2 h h2 where
 keep:=fun c ob q n hc hx=>b.keep c ob (a.keep c ob q n hc hx) (a.free c ob q n hx) hc hx
 slot:=fun c ob q n hc hx=>by
  obtain⟨sl,e1⟩:=a.slot c ob q n hc hx
  obtain⟨sl',e2⟩:=b.slot c _ e1 (a.free c ob q n hx) hc hx
  exact⟨sl',e2⟩
 free:=fun c ob q n hx=>by
  obtain⟨o',e1⟩:=a.there c ob q hx
  exact b.free c o' e1 (a.free c ob q n hx) hx
 there:=fun c ob q hx=>by
  obtain⟨o',e1⟩:=a.there c ob q hx
  exact b.there c o' e1 hx
 tups:=fun c xs q=>b.tups c xs (a.tups c xs q)
 frzs:=fun c ob xs q=>b.frzs c ob xs (a.frzs c ob xs q)
 tbls:=fun c q e=>b.tbls c q (a.tbls c q e)
theorem Un.kept (k:∀b u,h.get? b=some u→h'.get? b=some u):Un fs ex H H h h' :=
 ⟨fun b ob q _ _ _=>k b ob q,fun b ob q _ _ _=>⟨ob.slots,k b ob q⟩,fun _ _ _ n _=>n,fun b ob q _=>⟨ob,k b ob q⟩,fun _ _ q=>q,fun _ _ _ q=>q,fun _ _ q=>q⟩
theorem Un.refl:Un fs ex H H h h:=Un.kept fun _ _ q=>q
theorem Un.laid (k:∀b u,h.get? b=some u→h'.get? b=some u) (hp:h.objs.size≤a) (hn:H a=none):Un fs ex H (upd H a o) h h' where
 keep:=fun b u q _ _ _=>k b u q
 slot:=fun b u q _ _ _=>⟨u.slots,k b u q⟩
 free:=fun b u q n _=>by rw [zb1 (zbf5 (zbe2 (zbe4 q) hp))];exact n
 there:=fun b u q _=>⟨u,k b u q⟩
 tups:=fun b xs q=>by rw [zb1 (zi7 q hn)];exact q
 frzs:=fun b u xs q=>by rw [zb1 (zi7 q hn)];exact q
 tbls:=fun b ps q=>by rw [zb1 (zi7 q hn)];exact q
theorem Un.write (mu:Mut (H x)) (he:e=x∨H e=some (.own x)) (k:∀b u,b≠e→h.get? b=some u→h'.get? b=some u) (heo:∃u,h'.get? e=some u):Un fs ex H (upd H x o) h h':=by
 have hx:∀b,H b=none→b≠x:=fun b n z=>by subst z;rw [n]at mu;exact mu
 have hb:∀b,H b=none→b≠e:=fun b n z=>by
  subst z
  rcases he with r | r
  ·exact hx b n r
  ·rw [n]at r;cases r
 have hm:∀b u,H b=some u → ¬ Mut (some u)→b≠x:=fun b u q nm z=>by subst z;rw [q]at mu;exact nm mu
 refine⟨fun b u q n _ _=>k b u (hb b n) q,fun b u q n _ _=>⟨u.slots,k b u (hb b n) q⟩,fun b u q n _=>by rw [zb1 (hx b n)];exact n,fun b u q _=>?_,
  fun b xs q=>by rw [zb1 (hm b _ q fun z=>z)];exact q,fun b u xs q=>by rw [zb1 (hm b _ q fun z=>z)];exact q,fun b ps q=>by rw [zb1 (hm b _ q fun z=>z)];exact q⟩
 by_cases hbe:b=e
 ·subst hbe;exact heo
 ·exact⟨u,k b u hbe q⟩
end
def trk (h:Heap) (H:Hp):List Addr:=(zbf2 h.objs.size).filter fun a=>(H a).isSome
def hidT (h:Heap) (H:Hp):Heap:=PySem.W.hideAll h (trk h H)
theorem zay4 (h:Heap) (H:Hp):(hidT h H).objs.size=h.objs.size:=PySem.W.hideAll_size _ _
theorem zv0 {h:Heap}{H:Hp}{b:Addr}{o:Obj} (e:h.get? b=some o) (n:H b=none):(hidT h H).get? b=some o :=
 PySem.W.hideAll_get _ e fun hm=>by
  have q:(H b).isSome=true:=(zbh5.mp hm).2
  rw [n]at q;simp at q
theorem of_hidT {h:Heap}{H:Hp}{b:Addr}{o:Obj} (e:(hidT h H).get? b=some o):h.get? b=some o∧H b=none:=by
 have e':h.get? b=some o:=PySem.W.of_hideAll (trk h H) e
 refine⟨e',?_⟩
 cases q:H b with
 |none=>rfl
 |some x =>
  have hm:b∈trk h H:=zbh5.mpr ⟨zbl4.mpr (zbe4 e'),by simp [q]⟩
  have z:(hidT h H).get? b=none:=PySem.W.hideAll_none (trk h H) hm
  rw [z]at e;cases e
noncomputable def allNews (g h:Heap) (L:Addr):List (Addr×Obj):=(zbf2 h.objs.size).filterMap fun a=>if a=L∨(g.get? a).isSome=true then none else (h.get? a).map fun o=>(a,o)
def rest (g h:Heap) (L d:Addr):List (Addr×Obj):=(allNews g h L).filter fun p=>decide (p.1≠d)
end L2
namespace L2
open PySem.Spec
structure BHeap extends Heap where
 tabs:List (Addr×Str)
instance:Coe BHeap Heap:=⟨BHeap.toHeap⟩
structure Mod (K:zbc5) (mg:Str→Option Value) (base:BHeap):Prop where
 kin:K.In base
 glob:base.Ns mainGlobals mg
 blt:∃mb,base.Ns builtinsNs mb∧∀x:Str,x≠"__name__"→mb x=bootBuiltins x
 nolimit:base.NoLimit
 bm:∃(bm:Addr) (ob:Obj),mg "__builtins__"=some (.ref bm)∧bm≠builtinsNs∧base.get? bm=some ob∧ob.cls=.type "module"∧ob.dict=some builtinsNs∧ob.data=.plain
structure Cx where
 prog:Program
 w:World
 K:zbc5
 mg:Str→Option Value
 base:BHeap
 A:Around
 N:List Str
 s₀:zbe1
 H₀:Hp
 env:Env
 outer:List Env
 stack:List Env
 ex:List Addr
 fn:Str→Bool
 calm:Bool
 pn:List (Addr×Obj)
 xe:Value→zbe1→Prop
def frs (l:List Env):List Addr:=l.filterMap (·.frame)
abbrev Cx.fs (X:Cx):List Addr:=frs X.outer
def Vis (sc:Scope) (x:Str):Prop:=sc.names.lookup x=some .local∨sc.names.lookup x=some .cell∨sc.names.lookup x=some .free
def Loc (sc:Scope) (x:Str):Prop:=sc.names.lookup x=some .local∨sc.names.lookup x=some .cell
noncomputable def Look (env:Env) (h:Heap) (m:Str→Option Value) (x:Str) (u:Value):Prop :=
 (env.kindOf x=some .local∧m x=some u)∨((env.kindOf x=some .cell∨env.kindOf x=some .free)∧∃c,env.cells.lookup x=some c∧h.IsCell c (some u))
structure Cx.Ok (X:Cx):Prop where
 mod:Mod X.K X.mg X.base
 kind:X.env.scope.kind=.function
 glob:X.env.globals=mainGlobals
 blt:X.env.builtins=builtinsNs
 above:X.s₀.heap.objs.size≤X.env.locals
 inj:∀x y c,X.env.cells.lookup x=some c→X.env.cells.lookup y=some c→x=y
 has:∀x,(X.env.kindOf x=some .cell∨X.env.kindOf x=some .free)→∃c,X.env.cells.lookup x=some c
 cab:∀x c,X.fn x=true→X.env.cells.lookup x=some c→X.s₀.heap.objs.size≤c
 hd:X.calm=true→X.A.handled=none
 frames:X.A.frames=some X.stack
 stk:X.stack=X.outer∨(X.stack=X.env::X.outer∧X.env.frame=some X.env.locals)
 exf:∀b∈X.ex,b≠X.env.locals∧∀x c,X.env.cells.lookup x=some c→c≠b
 bs:∀b o,X.base.get? b=some o→X.s₀.heap.get? b=some o∧X.H₀ b=none
 bsz:X.base.objs.size≤X.s₀.heap.objs.size
 noex:∀b o,X.base.get? b=some o→b∉X.ex
 exfs:∀b∈X.ex,b∉X.fs
 funs:X.s₀.heap.FunFrames X.base X.outer
 frf:∀b∈X.fs,X.H₀ b=none
 tabs:∀p∈X.base.tabs,X.H₀ p.1=some (.tbl p.2)
structure Inv (X:Cx) (pins:List (Addr×Obj)) (σ:List (Option V)) (H:Hp) (s:zbe1):Prop where
 ok:X.Ok
 os:s.os=X.s₀.os
 bare:AllBare s.gens
 base:Un X.fs X.ex X.H₀ H X.s₀.heap s.heap
 loc:∃m,s.heap.Ns X.env.locals m∧∀(i:Nat) (x:Str) (v:V),X.N[i]?=some x→σ[i]?=some (some v)→Vis X.env.scope x→∃u,RelV v u∧Look X.env s.heap m x u
 cell:∀x c,X.env.cells.lookup x=some c→∃v,s.heap.IsCell c v
 free:H X.env.locals=none
 freeC:∀x c,X.env.cells.lookup x=some c→H c=none
 pin:∀p∈X.pn++pins,s.heap.get? p.1=some p.2∧H p.1=none∧p.1≠X.env.locals∧p.1∉X.fs∧∀v,p.2.data≠.cell v
 hok:HOk X.prog X.w H s.heap
 len:σ.length=X.N.length
section
variable {X:Cx}{pins:List (Addr×Obj)}{σ:List (Option V)}{H H':Hp}{s:zbe1}{h':Heap}
theorem Cx.Ok.nofr (ok:X.Ok) {b:Addr}{o:Obj} (e:X.base.get? b=some o):b∉X.fs:=fun hb=>by
 have:=(ok.funs.mem hb).1
 rw [e]at this;cases this
theorem Inv.bs (I:Inv X pins σ H s):∀b o,X.base.get? b=some o→s.heap.get? b=some o∧H b=none:=fun b o e =>
 ⟨I.base.keep b o (I.ok.bs b o e).1 (I.ok.bs b o e).2 (I.ok.nofr e) (I.ok.noex b o e),I.base.free b o (I.ok.bs b o e).1 (I.ok.bs b o e).2 (I.ok.noex b o e)⟩
theorem Inv.bk (I:Inv X pins σ H s):∀b o,X.base.get? b=some o→s.heap.get? b=some o:=fun b o e=>(I.bs b o e).1
theorem Inv.mod (I:Inv X pins σ H s):Mod X.K X.mg X.base:=I.ok.mod
theorem Inv.kIn (I:Inv X pins σ H s):X.K.In s.heap:=I.ok.mod.kin.keeps I.bk
theorem Inv.nolimit (I:Inv X pins σ H s):s.heap.NoLimit:=I.ok.mod.nolimit.keeps I.bk
theorem Inv.lt (I:Inv X pins σ H s):X.env.locals<s.heap.objs.size:=let ⟨_,hn,_⟩:=I.loc;hn.lt
theorem Inv.sz (I:Inv X pins σ H s):X.s₀.heap.objs.size≤s.heap.objs.size:=zbh8 I.ok.above (zbn1 I.lt)
theorem Inv.nofs (I:Inv X pins σ H s) {a:Addr} (h:s.heap.objs.size≤a):a∉X.fs:=fun hb=>by
 obtain⟨_,o,ho,_⟩:=I.ok.funs.mem hb
 exact absurd (zbe2 (zbe4 ho) (zbh8 I.sz h)) (zbh6 _)
theorem Inv.cne (I:Inv X pins σ H s):∀x c,X.env.cells.lookup x=some c→c≠X.env.locals:=fun x c e z=>by
 obtain⟨v,o,ho,hd⟩:=I.cell x c e
 obtain⟨m,⟨o',es,ep,ho',hd',_⟩,_⟩:=I.loc
 rw [z,ho']at ho;cases ho;rw [hd']at hd;cases hd
theorem Inv.funs (I:Inv X pins σ H s):s.heap.FunFrames X.base X.outer:=by
 have all:∀(l:List Env),(∀b∈frs l,b∈X.fs)→X.s₀.heap.FunFrames X.base l→s.heap.FunFrames X.base l:=by
  intro l
  induction l with
  |nil=>intro _ _;trivial
  |cons env r ih =>
   intro hs hl
   obtain⟨hk,⟨L,o,hf,hn,ho,hd⟩,hr⟩:=hl
   have hL:L∈X.fs:=hs L (by unfold frs;rw [zbn4,hf];exact zbc9)
   obtain⟨sl,e⟩:=I.base.slot L o ho (I.ok.frf L hL) hL fun z=>I.ok.exfs L z hL
   exact⟨hk,⟨L,_,hf,hn,e,hd⟩,ih (fun b hb=>hs b (by unfold frs;rw [zbn4,hf];exact zbc6 _ hb)) hr⟩
 exact all X.outer (fun _ hb=>hb) I.ok.funs
theorem Inv.stack (I:Inv X pins σ H s):s.heap.FunFrames X.base X.stack:=by
 rcases I.ok.stk with e | ⟨e,hf⟩
 ·rw [e];exact I.funs
 ·rw [e]
  obtain⟨m,hn,_⟩:=I.loc
  refine .cons (by rw [I.ok.kind];decide) hf hn ?_ I.funs
  exact Heap.get?_none_of_le (zbh8 I.ok.bsz I.ok.above)
theorem Inv.stkSub (I:Inv X pins σ H s):∀b∈frs X.stack,b∈X.env.locals::X.fs:=fun b hb=>by
 rcases I.ok.stk with e | ⟨e,hf⟩
 ·rw [e]at hb;exact zbc6 _ hb
 ·rw [e]at hb
  unfold frs at hb
  rw [zbn4,hf]at hb
  exact hb
theorem Inv.stkFree (I:Inv X pins σ H s):∀b∈frs X.stack,H b=none:=fun b hb=>by
 rcases zbd2.mp (I.stkSub b hb) with e | hb
 ·rw [e];exact I.free
 ·obtain⟨_,o,ho,_⟩:=I.ok.funs.mem hb
  exact I.base.free b o ho (I.ok.frf b hb) fun z=>I.ok.exfs b z hb
theorem Inv.step {g':Array GenState}{t':Nat}{d':Drawn}{ch:List Addr} (I:Inv X pins σ H s)
  (hch:∀b∈ch,(b∈X.ex∨X.s₀.heap.objs.size≤b)∧b≠X.env.locals∧(∀x c,X.env.cells.lookup x=some c→c≠b)∧∀p∈X.pn++pins,p.1≠b)
  (keep:∀b o,b≠X.env.locals→b∉X.fs→b∉ch→s.heap.get? b=some o→H b=none→h'.get? b=some o)
  (slot:∀b o,b≠X.env.locals→b∈X.fs→b∉ch→s.heap.get? b=some o→H b=none→∃sl,h'.get? b=some { o with slots:=sl }) (free:∀b o,b∉ch→s.heap.get? b=some o→H b=none→H' b=none)
  (there:∀b o,b∉ch→s.heap.get? b=some o→∃o',h'.get? b=some o')
  (tups:∀b xs,H b=some (.tup xs)→H' b=some (.tup xs)) (frzs:∀b o u,H b=some (.frz o u)→H' b=some (.frz o u)) (tbls:∀b q,H b=some (.tbl q)→H' b=some (.tbl q))
  (ns:∀m,s.heap.Ns X.env.locals m→h'.Ns X.env.locals m) (hok:HOk X.prog X.w H' h') (hg:AllBare g') :
  Inv X pins σ H' { s with heap:=h',gens:=g',drawn:=d',toks:=t' }:=by
 have neL:∀b o,X.s₀.heap.get? b=some o→b≠X.env.locals:=fun b o e=>zbf5 (zbe2 (zbe4 e) I.ok.above)
 have neC:∀b o,X.s₀.heap.get? b=some o→b∉X.ex→b∉ch:=fun b o e hx hb=>by
  rcases (hch b hb).1 with z | z
  ·exact hx z
  ·exact absurd (zbe2 (zbe4 e) z) (zbh6 _)
 have cellK:∀x c,X.env.cells.lookup x=some c→∀v,s.heap.IsCell c v→h'.IsCell c v:=fun x c e v ⟨o,ho,hd⟩=>by
  have nch:c∉ch:=fun z=>(hch c z).2.2.1 x c e rfl
  by_cases hc:c∈X.fs
  ·obtain⟨sl,q⟩:=slot c o (I.cne x c e) hc nch ho (I.freeC x c e)
   exact⟨_,q,hd⟩
  ·exact⟨o,keep c o (I.cne x c e) hc nch ho (I.freeC x c e),hd⟩
 refine⟨I.ok,I.os,hg,⟨fun b o e n hb hx=>?_,fun b o e n hb hx=>?_,fun b o e n hx=>?_,fun b o e hx=>?_,fun b xs e=>tups b xs (I.base.tups b xs e),fun b o xs e=>frzs b o xs (I.base.frzs b o xs e),fun b ps e=>?_⟩,?_,fun x c e=>?_,?_,fun x c e=>?_,fun p hp=>?_,hok,I.len⟩
 ·exact keep b o (neL b o e) hb (neC b o e hx) (I.base.keep b o e n hb hx) (I.base.free b o e n hx)
 ·obtain⟨sl,e1⟩:=I.base.slot b o e n hb hx
  obtain⟨sl',e2⟩:=slot b _ (neL b o e) hb (neC b o e hx) e1 (I.base.free b o e n hx)
  exact⟨sl',e2⟩
 ·obtain⟨o',e1⟩:=I.base.there b o e hx
  exact free b o' (neC b o e hx) e1 (I.base.free b o e n hx)
 ·obtain⟨o',e1⟩:=I.base.there b o e hx
  exact there b o' (neC b o e hx) e1
 ·exact tbls b _ (I.base.tbls b ps e)
 ·obtain⟨m,hn,hl⟩:=I.loc
  refine⟨m,ns m hn,fun i x v e1 e2 e3=>?_⟩
  obtain⟨u,r,l⟩:=hl i x v e1 e2 e3
  refine⟨u,r,?_⟩
  rcases l with l | ⟨k,c,e,z⟩
  ·exact .inl l
  ·exact .inr ⟨k,c,e,cellK x c e _ z⟩
 ·obtain⟨v,z⟩:=I.cell x c e
  exact⟨v,cellK x c e v z⟩
 ·obtain⟨m,⟨o,_,_,ho,_⟩,_⟩:=I.loc
  exact free _ o (fun z=>(hch _ z).2.1 rfl) ho I.free
 ·obtain⟨v,o,ho,hd⟩:=I.cell x c e
  exact free c o (fun z=>(hch c z).2.2.1 x c e rfl) ho (I.freeC x c e)
 ·obtain⟨e,n,ne,nf,d⟩:=I.pin p hp
  have nch:p.1∉ch:=fun z=>(hch p.1 z).2.2.2 p hp rfl
  exact⟨keep p.1 p.2 ne nf nch e n,free p.1 p.2 nch e n,ne,nf,d⟩
theorem Inv.un {t':Nat} (I:Inv X pins σ H s) (u:Un X.fs [] H H' s.heap h') (hok:HOk X.prog X.w H' h'):Inv X pins σ H' { s with heap:=h',toks:=t' }:=by
 obtain⟨m,⟨o,es,ep,ho,r⟩,_⟩:=id I.loc
 obtain⟨sl,hL⟩:=u.any ho I.free (by simp)
 exact I.step (g':=s.gens) (d':=s.drawn) (ch:=[]) (fun _ z=>nomatch z) (fun b o _ hb _ e n=>u.keep b o e n hb (by simp)) (fun b o _ hb _ e n=>u.slot b o e n hb (by simp)) (fun b o _ e n=>u.free b o e n (by simp)) (fun b o _ e=>u.there b o e (by simp)) u.tups u.frzs u.tbls (fun m' hm=>by
  obtain⟨o',es',ep',ho',r'⟩:=hm
  rw [ho]at ho';cases ho'
  exact⟨_,es',ep',hL,r'⟩) hok I.bare
theorem Inv.call {g':Array GenState}{t':Nat}{d':Drawn}{ch:List Addr} (I:Inv X pins σ H s) (u:Un (frs X.stack) ch H H' s.heap h') (hok:HOk X.prog X.w H' h') (hg:AllBare g')
  (hch:∀b∈ch,(b∈X.ex∨X.s₀.heap.objs.size≤b)∧b≠X.env.locals∧(∀x c,X.env.cells.lookup x=some c→c≠b)∧∀p∈X.pn++pins,p.1≠b) :
  Inv X pins σ H' { s with heap:=h',gens:=g',drawn:=d',toks:=t' }:=by
 obtain⟨m,⟨o,es,ep,ho,r⟩,_⟩:=id I.loc
 obtain⟨sl,hL⟩:=u.any ho I.free fun z=>(hch _ z).2.1 rfl
 exact I.step (ch:=ch) hch (fun b o hL hb hc e n=>u.keep b o e n (fun z=>(zbd2.mp (I.stkSub b z)).elim hL hb) hc) (fun b o _ _ hc e n=>u.any e n hc) (fun b o hc e n=>u.free b o e n hc) (fun b o hc e=>u.there b o e hc) u.tups u.frzs u.tbls (fun m' hm=>by
  obtain⟨o',es',ep',ho',r'⟩:=hm
  rw [ho]at ho';cases ho'
  exact⟨_,es',ep',hL,r'⟩) hok hg
theorem Inv.turned {t':Nat}{it:Addr} (I:Inv X pins σ H s) (k:∀b o,b≠it→s.heap.get? b=some o→h'.get? b=some o) (hn:H it=none) (hL:it≠X.env.locals)
  (h1:it∈X.ex∨X.s₀.heap.objs.size≤it) (h2:∀x c,X.env.cells.lookup x=some c→c≠it) (h3:∀p∈X.pn++pins,p.1≠it):Inv X pins σ H { s with heap:=h',toks:=t' }:=by
 have nit:∀b u,H b=some u→b≠it:=fun b u e z=>by rw [z,hn]at e;cases e
 refine I.step (g':=s.gens) (d':=s.drawn) (ch:=[it]) (fun b hb=>?_) (fun b o _ _ hc e _=>k b o (fun z=>hc (by simp [z])) e) (fun b o _ _ hc e _=>⟨o.slots,k b o (fun z=>hc (by simp [z])) e⟩) (fun _ _ _ _ n=>n)
  (fun b o hc e=>⟨o,k b o (fun z=>hc (by simp [z])) e⟩) (fun _ _ e=>e) (fun _ _ _ e=>e) (fun _ _ e=>e) (fun m hm=>?_) (fun b u e=>?_) I.bare
 ·have e:b=it:=by simpa using hb
  subst e
  exact⟨h1,hL,h2,h3⟩
 ·obtain⟨o,es,ep,ho,r⟩:=hm
  exact⟨o,es,ep,k _ o (Ne.symm hL) ho,r⟩
 ·refine (I.hok b u e).stay (fun c v hc q=>k c v ?_ q) (fun _ q=>q) (fun _ _ q=>q) fun _ _ _ q=>q
  rcases hc with z | z
  ·rw [z];exact nit b u e
  ·exact nit c _ z
theorem Inv.tok (I:Inv X pins σ H s) (t:Nat):Inv X pins σ H { s with toks:=t }:=I.un (h':=s.heap) (t':=t) Un.refl I.hok
theorem Inv.kept {t':Nat} (I:Inv X pins σ H s) (k:∀b u,s.heap.get? b=some u→h'.get? b=some u):Inv X pins σ H { s with heap:=h',toks:=t' }:=I.un (Un.kept k) (I.hok.kept k)
theorem Inv.laid {a:Addr}{o:HO}{t':Nat} (I:Inv X pins σ H s) (k:∀b u,s.heap.get? b=some u→h'.get? b=some u) (hp:s.heap.objs.size≤a) (new:ObjOk X.prog X.w (upd H a o) h' a o) :
  Inv X pins σ (upd H a o) { s with heap:=h',toks:=t' }:=I.un (Un.laid k hp (I.hok.fresh hp)) (I.hok.laid k hp new)
theorem Inv.write {x e:Addr}{o:HO}{t':Nat} (I:Inv X pins σ H s) (mu:Mut (H x)) (he:e=x∨H e=some (.own x)) (k:∀b u,b≠e→s.heap.get? b=some u→h'.get? b=some u) (heo:∃u,h'.get? e=some u)
  (new:ObjOk X.prog X.w (upd H x o) h' x o):Inv X pins σ (upd H x o) { s with heap:=h',toks:=t' }:=I.un (Un.write mu he k heo) (I.hok.write mu he k heo new)
theorem Inv.pins_of {pins':List (Addr×Obj)} (I:Inv X pins σ H s) (h:∀p∈pins',s.heap.get? p.1=some p.2∧H p.1=none∧p.1≠X.env.locals∧p.1∉X.fs∧∀v,p.2.data≠.cell v):Inv X pins' σ H s :=
 ⟨I.ok,I.os,I.bare,I.base,I.loc,I.cell,I.free,I.freeC,fun p hp=>(zbd0.mp hp).elim (fun z=>I.pin p (zbc7 _ z)) (h p),I.hok,I.len⟩
theorem zan7 {N:List Str} (hN:N.Nodup) {i j:Nat}{x:Str} (a:N[i]?=some x) (b:N[j]?=some x):i=j:=by
 obtain⟨h1,e1⟩:=zbg5.mp a
 obtain⟨h2,e2⟩:=zbg5.mp b
 exact (List.getElem_inj hN).mp (e1.trans e2.symm)
theorem zae0 {M:Model}{A:Around}{E:Value→zbe1→Prop}{i:Nat}{x:Str}{v:V}{u:Value}{Q:Unit→zbe1→Prop} (I:Inv X pins σ H s) (hN:X.N.Nodup) (hi:X.N[i]?=some x) (hx:Loc X.env.scope x) (r:RelV v u)
  (h:∀s',Inv X pins (σ.set i (some v)) H s'→(∃a,Heap.SameBut a s.heap s'.heap∧(a=X.env.locals∨X.env.cells.lookup x=some a))→Q () s') (hf:X.fn x=true∨X.env.scope.names.lookup x=some .local:=by first | exact .inl rfl | exact .inr rfl | assumption):wpAny M A (storeName X.env x u) Q E s:=by
 obtain⟨m,hn,hl⟩:=id I.loc
 have hcls:(X.env.scope.kind == .class||(X.env.scope.kind == .module&&X.env.locals != X.env.globals))=false:=by rw [I.ok.kind];rfl
 have hiσ:i<σ.length:=by rw [I.len];exact (zbg5.mp hi).1
 have cne:=I.cne
 have tracked:∀ {a:Addr}{h':Heap},(∃o,s.heap.get? a=some o∧H a=none)→Heap.SameBut a s.heap h'→HOk X.prog X.w H h':=fun {a h'} ha hs b ob e=>by
  obtain⟨_,_,hfree⟩:=ha
  refine (I.hok b ob e).stay (fun c w' hc q=>(hs.2 c ?_).trans q) (fun _ q=>q) (fun _ _ q=>q) fun _ _ _ q=>q
  rintro rfl
  rcases hc with rfl | hc
  ·rw [hfree]at e;cases e
  ·rw [hfree]at hc;cases hc
 rcases hx with hk | hk
 ·refine wpAny_storeName_local hk hn (fun h' hn' hs=>?_) hcls
  obtain⟨oL,_,_,hoL,_⟩:=id hn
  refine h _ ⟨I.ok,I.os,I.bare,⟨fun b o e n hb hx=>?_,fun b o e n hb hx=>?_,I.base.free,fun b o e hx=>?_,I.base.tups,I.base.frzs,I.base.tbls⟩,⟨_,hn',fun j y v' e1 e2 e3=>?_⟩,fun y c e=>?_,I.free,I.freeC,fun p hp=>?_,tracked ⟨oL,hoL,I.free⟩ hs,by simpa using I.len⟩ ⟨_,hs,.inl rfl⟩
  ·exact (hs.2 b (zbf5 (zbe2 (zbe4 e) I.ok.above))).trans (I.base.keep b o e n hb hx)
  ·obtain⟨sl,e1⟩:=I.base.slot b o e n hb hx
   exact⟨sl,(hs.2 b (zbf5 (zbe2 (zbe4 e) I.ok.above))).trans e1⟩
  ·obtain⟨o',e1⟩:=I.base.there b o e hx
   exact⟨o',(hs.2 b (zbf5 (zbe2 (zbe4 e) I.ok.above))).trans e1⟩
  ·by_cases hj:j=i
   ·subst hj
    rw [hi]at e1;cases e1
    rw [zbp2 hiσ]at e2
    cases e2
    exact⟨u,r,.inl ⟨hk,by simp⟩⟩
   ·rw [zbn2 (Ne.symm hj)]at e2
    obtain⟨u',r',q⟩:=hl j y v' e1 e2 e3
    refine⟨u',r',?_⟩
    rcases q with ⟨k,e⟩ | ⟨k,c,e,z⟩
    ·refine .inl ⟨k,?_⟩
     have:y≠x:=fun e=>hj (zan7 hN e1 (e ▸ hi))
     simp [this,e]
    ·exact .inr ⟨k,c,e,z.sameBut hs (cne y c e)⟩
  ·obtain⟨w',z⟩:=I.cell y c e
   exact⟨w',z.sameBut hs (cne y c e)⟩
  ·obtain⟨e,n,ne,nf,d⟩:=I.pin p hp
   exact⟨(hs.2 p.1 ne).trans e,n,ne,nf,d⟩
 ·have hfn:X.fn x=true:=by
   rcases hf with z | z
   ·exact z
   ·rw [z]at hk;cases hk
  obtain⟨c,hc⟩:=I.ok.has x (.inl hk)
  obtain⟨w',z⟩:=I.cell x c hc
  refine wpAny_storeName_cell I.ok.kind hk hc z (fun h' hc' hs=>?_)
  obtain⟨oc,hoc,hocd⟩:=id z
  refine h { s with heap:=h' } ⟨I.ok,I.os,I.bare,⟨fun b o e n hb hx=>?_,fun b o e n hb hx=>?_,I.base.free,fun b o e hx=>?_,I.base.tups,I.base.frzs,I.base.tbls⟩,⟨m,hn.sameBut hs (Ne.symm (cne x c hc)),fun j y v' e1 e2 e3=>?_⟩,fun y c' e=>?_,I.free,I.freeC,fun p hp=>?_,tracked ⟨oc,hoc,I.freeC x c hc⟩ hs,by simpa using I.len⟩ ⟨c,hs,.inr hc⟩
  ·exact (hs.2 b (zbf5 (zbe2 (zbe4 e) (I.ok.cab x c hfn hc)))).trans (I.base.keep b o e n hb hx)
  ·obtain⟨sl,e1⟩:=I.base.slot b o e n hb hx
   exact⟨sl,(hs.2 b (zbf5 (zbe2 (zbe4 e) (I.ok.cab x c hfn hc)))).trans e1⟩
  ·obtain⟨o',e1⟩:=I.base.there b o e hx
   exact⟨o',(hs.2 b (zbf5 (zbe2 (zbe4 e) (I.ok.cab x c hfn hc)))).trans e1⟩
  ·by_cases hj:j=i
   ·subst hj
    rw [hi]at e1;cases e1
    rw [zbp2 hiσ]at e2
    cases e2
    exact⟨u,r,.inr ⟨.inl hk,c,hc,hc'⟩⟩
   ·rw [zbn2 (Ne.symm hj)]at e2
    obtain⟨u',r',q⟩:=hl j y v' e1 e2 e3
    refine⟨u',r',?_⟩
    rcases q with q | ⟨k,c',e,z'⟩
    ·exact .inl q
    ·refine .inr ⟨k,c',e,z'.sameBut hs ?_⟩
     rintro rfl
     exact hj (zan7 hN e1 (I.ok.inj _ _ _ e hc ▸ hi))
  ·by_cases hcc:c'=c
   ·subst hcc;exact⟨_,hc'⟩
   ·obtain⟨w2,z2⟩:=I.cell y c' e
    exact⟨w2,z2.sameBut hs hcc⟩
  ·obtain⟨e,n,ne,nf,d⟩:=I.pin p hp
   refine⟨(hs.2 p.1 ?_).trans e,n,ne,nf,d⟩
   intro q
   rw [q,hoc]at e
   have q':oc=p.2:=Option.some.inj e
   exact d w' (by rw [← q'];exact hocd)
theorem zu5 {M:Model}{A:Around}{E:Value→zbe1→Prop}{i:Nat}{x:Str}{v:V}{u:Value}{Q:Unit→zbe1→Prop} (I:Inv X pins σ H s) (hN:X.N.Nodup) (hi:X.N[i]?=some x) (hx:Loc X.env.scope x) (r:RelV v u)
  (h:∀s',Inv X pins (σ.set i (some v)) H s'→Q () s') (hf:X.fn x=true∨X.env.scope.names.lookup x=some .local:=by first | exact .inl rfl | exact .inr rfl | assumption):wpAny M A (storeName X.env x u) Q E s :=
 zae0 I hN hi hx r (fun s' I' _=>h s' I') hf
end
abbrev XK:=Value→Option Addr→Hp→Prop
abbrev St:=List (Option V)
abbrev VK:=V→Hp→Prop
abbrev TE:=St→Hp→VK→Prop
abbrev TT:=St→Hp→(Bool→Hp→Prop)→Prop
abbrev TA:=St→Hp→(List V→Hp→Prop)→Prop
structure Ends where
 nx:St→Hp→Prop
 rt:VK
 bk:St→Hp→Prop:=fun _ _=>False
 ct:St→Hp→Prop:=fun _ _=>False
abbrev TS:=Ends→St→Hp→Prop
def EP (X:Cx) (pins:List (Addr×Obj)) (σ:St) (Q:VK) (u:Value) (s':zbe1):Prop := ∃v H',Inv X pins σ H' s'∧RelV v u∧Q v H'
def TP (X:Cx) (pins:List (Addr×Obj)) (σ:St) (Q:Bool→Hp→Prop) (b:Bool) (s':zbe1):Prop := ∃H',Inv X pins σ H' s'∧Q b H'
noncomputable def AP (X:Cx) (pins:List (Addr×Obj)) (σ:St) (Q:List V→Hp→Prop) (us:List Value) (s':zbe1):Prop := ∃vs H',Inv X pins σ H' s'∧Vals vs us∧Q vs H'
noncomputable def SP (X:Cx) (pins:List (Addr×Obj)) (D:Ends) (f:Flow) (s':zbe1):Prop :=
 match f with
 |.next => ∃σ' H',Inv X pins σ' H' s'∧D.nx σ' H'
 |.brk => ∃σ' H',Inv X pins σ' H' s'∧D.bk σ' H'
 |.cont => ∃σ' H',Inv X pins σ' H' s'∧D.ct σ' H'
 |.ret u => ∃v σ' H',Inv X pins σ' H' s'∧RelV v u∧D.rt v H'
noncomputable def PE (X:Cx) (e:Expr) (t:TE):Prop :=
 ∀(pins:List (Addr×Obj)) (s:zbe1) (σ:St) (H:Hp) (Q:VK),Inv X pins σ H s→t σ H Q→wpAny (model X.prog X.w) X.A (eval e X.env) (EP X pins σ Q) X.xe s
noncomputable def PT (X:Cx) (e:Expr) (t:TT):Prop :=
 ∀(pins:List (Addr×Obj)) (s:zbe1) (σ:St) (H:Hp) (Q:Bool→Hp→Prop),Inv X pins σ H s→t σ H Q→wpAny (model X.prog X.w) X.A (isTrue e X.env (eval e X.env)) (TP X pins σ Q) X.xe s
noncomputable def PW (X:Cx) (e:Expr) (t:TT):Prop :=
 ∀(whole:Sem Value) (pins:List (Addr×Obj)) (s:zbe1) (σ:St) (H:Hp) (Q:Bool→Hp→Prop),Inv X pins σ H s→t σ H Q→wpAny (model X.prog X.w) X.A (isTrue e X.env whole) (TP X pins σ Q) X.xe s
theorem PW.pt {X:Cx}{e:Expr}{t:TT} (h:PW X e t):PT X e t:=h _
noncomputable def PA (X:Cx) (es:List Expr) (t:TA):Prop :=
 ∀(pos:Pos) (pins:List (Addr×Obj)) (s:zbe1) (σ:St) (H:Hp) (Q:List V→Hp→Prop),Inv X pins σ H s→t σ H Q→wpAny (model X.prog X.w) X.A (spliced (zbj4 pos (zbe3 es X.env))) (AP X pins σ Q) X.xe s
noncomputable def PS (X:Cx) (st:Stmt) (t:TS):Prop :=
 ∀(pins:List (Addr×Obj)) (s:zbe1) (σ:St) (H:Hp) (D:Ends),Inv X pins σ H s→t D σ H→wpAny (model X.prog X.w) X.A (exec st X.env) (SP X pins D) X.xe s
noncomputable def PSs (X:Cx) (st:List Stmt) (t:TS):Prop :=
 ∀(pins:List (Addr×Obj)) (s:zbe1) (σ:St) (H:Hp) (D:Ends),Inv X pins σ H s→t D σ H→wpAny (model X.prog X.w) X.A (execs st X.env) (SP X pins D) X.xe s
theorem thn {α:Type}{t:Sem α}{Q Q':α→zbe1→Prop}{M:Model}{A:Around}{E:Value→zbe1→Prop}{s:zbe1} (h:wpAny M A t Q E s) (hQ:∀a s,Q a s→Q' a s):wpAny M A t Q' E s:=wpAny_mono h hQ fun _ _ x=>x
end L2
namespace L2
open PySem.Spec
section
variable {X:Cx}
theorem bin {a b:Expr}{ta tb:TE} (ha:PE X a ta) (hb:PE X b tb) {pins:List (Addr×Obj)}{s:zbe1}{σ:St}{H:Hp}{R:V→V→Hp→Prop} (I:Inv X pins σ H s) (h:ta σ H fun x H1=>tb σ H1 fun y H2=>R x y H2)
  {α:Type}{Q:α→zbe1→Prop}{f:Value→Value→Sem α}
  (hf:∀v u s2 x y H2,Inv X pins σ H2 s2→RelV x v→RelV y u→R x y H2→wpAny (model X.prog X.w) X.A (f v u) Q X.xe s2) :
  wpAny (model X.prog X.w) X.A (eval a X.env) (fun v s₁=>wpAny (model X.prog X.w) X.A (eval b X.env) (fun u s₂=>wpAny (model X.prog X.w) X.A (f v u) Q X.xe s₂) X.xe s₁) X.xe s:=by
 refine thn (ha pins s σ H _ I h) fun v s1 ⟨x,H1,I1,r1,q1⟩=>?_
 refine thn (hb pins s1 σ H1 _ I1 q1) fun u s2 ⟨y,H2,I2,r2,q2⟩=>?_
 exact hf v u s2 x y H2 I2 r1 r2 q2
def tVar (i:Nat):TE:=fun σ H Q => ∃v,σ[i]?=some (some v)∧Q v H
def tC (v:V):TE:=fun _ H Q=>Q v H
theorem zo5 {i:Nat}{x:Str}{pos:Pos} (hN:X.N[i]?=some x) (hv:Vis X.env.scope x) (hd:(x ==("__debug__":Str))=false:=by decide) (hcd:(x ==("__classdict__":Str))=false:=by decide):PE X (.Name x pos) (tVar i):=by
 intro pins s σ H Q I h
 obtain⟨v,e,h⟩:=h
 obtain⟨m,hn,hl⟩:=I.loc
 obtain⟨u,r,l⟩:=hl i x v hN e hv
 have fin:EP X pins σ Q u s:=⟨v,H,I,r,h⟩
 rcases l with ⟨hk,hm⟩ | ⟨hk,c,hc,hcell⟩
 ·exact wpAny_Name (wpAny_loadName_local I.ok.kind hk hn hm fin) hd
 ·rcases hk with hk | hk
  ·exact wpAny_Name (wpAny_loadName_cell I.ok.kind hk hc hcell fin) hd
  ·exact wpAny_Name (wpAny_loadName_free I.ok.kind hk hc hcell fin hcd) hd
theorem pe_int {i j pos}:PE X (.Constant (.int i) j pos) (tC (.int i)):=fun _ _ _ H _ I h=>wpAny_Constant_int ⟨.int i,H,I.tok _,⟨_,rfl⟩,h⟩
theorem pe_bl {b j pos}:PE X (.Constant (.bool b) j pos) (tC (.bl b)):=fun _ _ _ H _ I h=>Constant_bool ⟨.bl b,H,I,rfl,h⟩
def Gl (X:Cx) (x:Str):Prop:=X.env.kindOf x=some .globalImplicit
theorem zax4 {E:Value→zbe1→Prop}{pins:List (Addr×Obj)}{s:zbe1}{σ:St}{H:Hp}{x:Str}{u:Value}{pos:Pos}{Q:Value→zbe1→Prop} (I:Inv X pins σ H s) (hg:Gl X x) (hm:X.mg x=some u) (h:Q u s)
  (hd:(x ==("__debug__":Str))=false:=by decide):wpAny (model X.prog X.w) X.A (eval (.Name x pos) X.env) Q E s :=
 Calls.Name_function_global I.ok.kind hg (Calls.loadGlobal_global (by rw [I.ok.glob];exact I.mod.glob.keeps I.bk) hm h) hd
theorem zo6 {E:Value→zbe1→Prop}{pins:List (Addr×Obj)}{s:zbe1}{σ:St}{H:Hp}{x:Str}{u:Value}{pos:Pos}{Q:Value→zbe1→Prop} (I:Inv X pins σ H s) (hg:Gl X x) (hm:X.mg x=none) (hv:bootBuiltins x=some u) (h:Q u s)
  (hn:x≠"__name__":=by decide) (hd:(x ==("__debug__":Str))=false:=by decide):wpAny (model X.prog X.w) X.A (eval (.Name x pos) X.env) Q E s:=by
 obtain⟨mb,h1,h2⟩:=I.mod.blt
 exact Calls.Name_function_global I.ok.kind hg (Calls.loadGlobal_builtin (by rw [I.ok.glob];exact I.mod.glob.keeps I.bk) hm (by rw [I.ok.blt];exact h1.keeps I.bk) ((h2 x hn).trans hv) h) hd
theorem pe_glob {x:Str}{v:V}{u:Value}{pos:Pos} (hg:Gl X x) (hm:X.mg x=some u) (r:RelV v u) (hd:(x ==("__debug__":Str))=false:=by decide):PE X (.Name x pos) (tC v) :=
 fun _ _ _ H _ I h=>zax4 I hg hm ⟨v,H,I,r,h⟩ hd
theorem pe_bltn {x:Str}{v:V}{u:Value}{pos:Pos} (hg:Gl X x) (hm:X.mg x=none) (hv:bootBuiltins x=some u) (r:RelV v u) (hn:x≠"__name__":=by decide) (hd:(x ==("__debug__":Str))=false:=by decide):PE X (.Name x pos) (tC v) :=
 fun _ _ _ H _ I h=>zo6 I hg hm hv ⟨v,H,I,r,h⟩ hn hd
variable {a b:Expr}{ta tb:TE}{pos:Pos}
variable {tA tB':TT}{rest:List Expr}
def tAnd (t u:TT):TT:=fun σ H Q=>t σ H fun c H1=>if c=true then u σ H1 Q else Q false H1
def tOr (t u:TT):TT:=fun σ H Q=>t σ H fun c H1=>if c=true then Q true H1 else u σ H1 Q
def tNot (t:TT):TT:=fun σ H Q=>t σ H fun c H1=>Q (!c) H1
theorem pw_and1 (ha:PT X a tA):PW X (.BoolOp .And [a] pos) tA:=by
 intro wh pins s σ H Q I h
 refine isTrue_and (thn (ha pins s σ H Q I h) fun c s1 e=>?_)
 cases c with
 |true=>exact isTrue_and_nil e
 |false=>exact e
theorem pw_or1 (ha:PT X a tA):PW X (.BoolOp .Or [a] pos) tA:=by
 intro wh pins s σ H Q I h
 refine isTrue_or (thn (ha pins s σ H Q I h) fun c s1 e=>?_)
 cases c with
 |false=>exact isTrue_or_nil e
 |true=>exact e
theorem pw_and (ha:PT X a tA) (hb:PW X (.BoolOp .And (b::rest) pos) tB'):PW X (.BoolOp .And (a::b::rest) pos) (tAnd tA tB'):=by
 intro wh pins s σ H Q I h
 refine isTrue_and (thn (ha pins s σ H _ I h) fun c s1 ⟨H1,I1,q1⟩=>?_)
 cases c with
 |true=>exact hb wh pins s1 σ H1 Q I1 q1
 |false=>exact⟨H1,I1,q1⟩
theorem pw_or (ha:PT X a tA) (hb:PW X (.BoolOp .Or (b::rest) pos) tB'):PW X (.BoolOp .Or (a::b::rest) pos) (tOr tA tB'):=by
 intro wh pins s σ H Q I h
 refine isTrue_or (thn (ha pins s σ H _ I h) fun c s1 ⟨H1,I1,q1⟩=>?_)
 cases c with
 |true=>exact⟨H1,I1,q1⟩
 |false=>exact hb wh pins s1 σ H1 Q I1 q1
theorem pt_not (ha:PT X a tA):PT X (.UnaryOp .Not a pos) (tNot tA):=by
 intro pins s σ H Q I h
 exact isTrue_not (ha pins s σ H (fun c H1=>Q (!c) H1) I h)
def tAndV (ta tb:TE):TE:=fun σ H Q=>ta σ H fun x H1 => ∃c,x=.bl c∧if c=true then tb σ H1 Q else Q (.bl false) H1
theorem pe_one {op}{t:TE} (h:PE X a t):PE X (.BoolOp op [a] pos) t:=fun pins s σ H Q I hw=>BoolOp_one (h pins s σ H Q I hw)
theorem pe_and (ha:PE X a ta) (hb:PE X (.BoolOp .And (b::rest) pos) tb):PE X (.BoolOp .And (a::b::rest) pos) (tAndV ta tb):=by
 intro pins s σ H Q I h
 refine BoolOp_and (thn (ha pins s σ H _ I h) fun v s1 ⟨x,H1,I1,r1,q1⟩=>?_)
 obtain⟨c,rfl,q1⟩:=q1
 cases r1
 refine wpAny_truthy_bool ?_
 cases c with
 |true=>exact hb pins s1 σ H1 Q I1 q1
 |false=>exact⟨.bl false,H1,I1,rfl,q1⟩
end
end L2
namespace L2
open PySem.Spec
noncomputable def SqL (K:zbc5) (H:Hp) (a:Addr) (xs:List V):Prop :=
 Rd H a (.lst xs) ∨
  ∃(o:Obj) (its:Array Value) (n:Nat),K.lookup a=some o∧o.cls=.type "list"∧o.dict=none∧o.data=.seq its n∧its.size≤sizeLine∧Vals xs its.toList
noncomputable def SqT (K:zbc5) (H:Hp) (a:Addr) (xs:List V):Prop :=
 Rd H a (.tup xs) ∨
  ∃(o:Obj) (its:Array Value) (n:Nat),K.lookup a=some o∧o.cls=.type "tuple"∧o.data=.seq its n∧its.size≤sizeLine∧Vals xs its.toList
noncomputable def absV:Value→Option V
 |.none=>some .non
 |.bool b=>some (.bl b)
 |.int i _=>some (.int i)
 |.str x _=>some (.str x)
 |.bytes b _=>some (.byt b)
 |.float b _=>some (.flt b)
 |.ref a=>some (.ref a)
 |.type n=>some (.ty n)
 |_=>none
theorem RelV.abs {x:V}{u:Value} (r:RelV x u):absV u=some x:=by
 cases x with
 |non=>cases r;rfl
 |bl _=>cases r;rfl
 |int _=>obtain⟨t,rfl⟩:=r;rfl
 |str _=>obtain⟨t,rfl⟩:=r;rfl
 |byt _=>obtain⟨t,rfl⟩:=r;rfl
 |flt _=>obtain⟨t,rfl⟩:=r;rfl
 |ref _=>cases r;rfl
 |ty _=>cases r;rfl
theorem RelV.inj {x y:V}{u:Value} (r:RelV x u) (q:RelV y u):x=y:=Option.some.inj (r.abs.symm.trans q.abs)
theorem Vals.inj:∀ {xs ys:List V}{us:List Value},Vals xs us→Vals ys us→xs=ys
 |_,_,_,.nil,.nil=>rfl
 |_,_,_,.cons r t,.cons r' t'=>by rw [r.inj r',Vals.inj t t']
section
variable {X:Cx}{pins:List (Addr×Obj)}{σ:St}{H:Hp}{s:zbe1}{a:Addr}{xs ys:List V}
theorem SqL.of {K:zbc5} (h:H a=some (.lst xs)):SqL K H a xs:=.inl (.inl h)
theorem SqT.of {K:zbc5} (h:H a=some (.tup xs)):SqT K H a xs:=.inl (.inl h)
theorem Inv.list (I:Inv X pins σ H s) (h:SqL X.K H a xs):∃its:List Value,Vals xs its∧PlainL s.heap a its.toArray∧xs.length≤sizeLine:=by
 rcases h with h | ⟨o,its,n,hk,hc,hd,hs,hz,r⟩
 ·obtain⟨z,its,n,r,e⟩:=h.ok I.hok
  exact⟨its,r,⟨_,n,e,rfl,rfl,rfl⟩,z⟩
 ·refine⟨its.toList,r,⟨o,n,I.kIn a o hk,hc,hd,by simpa using hs⟩,?_⟩
  have e:=r.length
  simp only [zbr0]at e
  lia
theorem Inv.tuple (I:Inv X pins σ H s) (h:SqT X.K H a xs):∃its:List Value,Vals xs its∧IsTup s.heap a its.toArray∧xs.length≤sizeLine:=by
 rcases h with h | ⟨o,its,n,hk,hc,hs,hz,r⟩
 ·obtain⟨z,its,r,p⟩:=h.ok I.hok
  exact⟨its,r,p,z⟩
 ·refine⟨its.toList,r,⟨o,I.kIn a o hk,hc,n,by simpa using hs⟩,?_⟩
  have e:=r.length
  simp only [zbr0]at e
  lia
theorem Inv.list_inj (I:Inv X pins σ H s) (h:SqL X.K H a xs) (h':SqL X.K H a ys):xs=ys:=by
 obtain⟨its,r,⟨o,n,e,_,_,d⟩,_⟩:=I.list h
 obtain⟨its',r',⟨o',n',e',_,_,d'⟩,_⟩:=I.list h'
 rw [e]at e';cases e'
 rw [d]at d'
 injection d' with d1 _
 have:its=its':=by simpa using congrArg Array.toList d1
 subst this
 exact r.inj r'
theorem Inv.tuple_inj (I:Inv X pins σ H s) (h:SqT X.K H a xs) (h':SqT X.K H a ys):xs=ys:=by
 obtain⟨its,r,⟨o,e,_,n,d⟩,_⟩:=I.tuple h
 obtain⟨its',r',⟨o',e',_,n',d'⟩,_⟩:=I.tuple h'
 rw [e]at e';cases e'
 rw [d]at d'
 injection d' with d1 _
 have:its=its':=by simpa using congrArg Array.toList d1
 subst this
 exact r.inj r'
end
abbrev Cx.wish (X:Cx) (E:Value→zbe1→Prop):Cx:={ X with xe:=E }
abbrev Cx.nox (X:Cx):Cx:=X.wish fun _ _=>False
theorem Cx.Ok.wish {X:Cx} (ok:X.Ok) (E:Value→zbe1→Prop):(X.wish E).Ok :=
 ⟨ok.mod,ok.kind,ok.glob,ok.blt,ok.above,ok.inj,ok.has,ok.cab,ok.hd,ok.frames,ok.stk,ok.exf,ok.bs,ok.bsz,ok.noex,ok.exfs,ok.funs,ok.frf,ok.tabs⟩
theorem Cx.Ok.unwish {X:Cx}{E:Value→zbe1→Prop} (ok:(X.wish E).Ok):X.Ok :=
 ⟨ok.mod,ok.kind,ok.glob,ok.blt,ok.above,ok.inj,ok.has,ok.cab,ok.hd,ok.frames,ok.stk,ok.exf,ok.bs,ok.bsz,ok.noex,ok.exfs,ok.funs,ok.frf,ok.tabs⟩
section
variable {X:Cx}{pins:List (Addr×Obj)}{σ:St}{H:Hp}{s:zbe1}{E:Value→zbe1→Prop}
theorem Inv.wish (I:Inv X pins σ H s) (E:Value→zbe1→Prop):Inv (X.wish E) pins σ H s:=⟨I.ok.wish E,I.os,I.bare,I.base,I.loc,I.cell,I.free,I.freeC,I.pin,I.hok,I.len⟩
theorem Inv.unwish (I:Inv (X.wish E) pins σ H s):Inv X pins σ H s:=⟨I.ok.unwish,I.os,I.bare,I.base,I.loc,I.cell,I.free,I.freeC,I.pin,I.hok,I.len⟩
theorem SP.unwish {D:Ends}{f:Flow}{s':zbe1} (h:SP (X.wish E) pins D f s'):SP X pins D f s':=by
 cases f with
 |next=>obtain⟨σ',H',I,q⟩:=h;exact⟨σ',H',I.unwish,q⟩
 |brk=>obtain⟨σ',H',I,q⟩:=h;exact⟨σ',H',I.unwish,q⟩
 |cont=>obtain⟨σ',H',I,q⟩:=h;exact⟨σ',H',I.unwish,q⟩
 |ret u=>obtain⟨v,σ',H',I,r,q⟩:=h;exact⟨v,σ',H',I.unwish,r,q⟩
theorem PSs.nox {st:List Stmt}{t:TS} (h:PSs X.nox st t):PSs X st t:=fun pins s σ H D I hw =>
 wpAny_mono (h pins s σ H D (I.wish _) hw) (fun _ _ q=>q.unwish) fun _ _ z=>False.elim z
end
section
variable {X:Cx}{st:Stmt}{rest:List Stmt}{t u:TS}{e:Expr}{te:TE}{pos:Pos}
def tNext:TS:=fun D σ H=>D.nx σ H
def tSeq (t u:TS):TS:=fun D σ H=>t { D with nx:=u D } σ H
theorem pss_nil:PSs X [] tNext:=fun _ _ σ H _ I h=>wpAny_execs_nil ⟨σ,H,I,h⟩
theorem pss_cons (h1:PS X st t) (h2:PSs X rest u):PSs X (st::rest) (tSeq t u):=by
 intro pins s σ H D I h
 refine wpAny_execs_cons (thn (h1 pins s σ H { D with nx:=u D } I h) fun f s1 q=>?_)
 cases f with
 |next =>
  obtain⟨σ',H',I',q⟩:=q
  exact h2 pins s1 σ' H' D I' q
 |ret v=>exact q
 |brk=>exact q
 |cont=>exact q
theorem pss_one (h1:PS X st t):PSs X [st] t:=by
 intro pins s σ H D I h
 refine wpAny_execs_cons (thn (h1 pins s σ H D I h) fun f s1 q=>?_)
 cases f with
 |next=>exact wpAny_execs_nil q
 |ret v=>exact q
 |brk=>exact q
 |cont=>exact q
theorem Inv.quiet {pins:List (Addr×Obj)}{σ:St}{H:Hp}{s:zbe1} (I:Inv X pins σ H s):interactive X.env=false:=by simp [interactive,I.ok.kind]
def tDrop (te:TE):TS:=fun D σ H=>te σ H fun _ H1=>D.nx σ H1
theorem zv9 (he:PE X e te) (hs:swapsWith e none pos.line X.env=pure false:=by rfl):PS X (.Expr e pos) (tDrop te):=by
 intro pins s σ H D I h
 exact wpAny_Expr_any (thn (he pins s σ H _ I h) fun v s1 ⟨x,H1,I1,r1,q1⟩=>⟨σ,H1,I1,q1⟩) I.quiet hs
def tRet (te:TE):TS:=fun D σ H=>te σ H D.rt
theorem zan1 (he:PE X e te):PS X (.Return (some e) pos) (tRet te):=by
 intro pins s σ H D I h
 exact wpAny_Return_some (thn (he pins s σ H _ I h) fun v s1 ⟨x,H1,I1,r1,q1⟩=>⟨x,σ,H1,I1,r1,q1⟩)
def tIfS (c:TT) (t u:TS):TS:=fun D σ H=>c σ H fun b H1=>if b=true then t D σ H1 else u D σ H1
theorem ps_if {c:Expr}{a b:List Stmt}{tc:TT} (hc:PT X c tc) (ha:PSs X a t) (hb:PSs X b u):PS X (.If c a b pos) (tIfS tc t u):=by
 intro pins s σ H D I h
 refine wpAny_If (thn (hc pins s σ H _ I h) fun d s1 ⟨H1,I1,q1⟩=>?_)
 cases d with
 |true=>exact ha pins s1 σ H1 D I1 q1
 |false=>exact hb pins s1 σ H1 D I1 q1
end
abbrev TG:=V→St→Hp→(St→Hp→Prop)→Prop
abbrev TGs:=List V→St→Hp→(St→Hp→Prop)→Prop
noncomputable def PG (X:Cx) (target:Expr) (t:TG):Prop :=
 ∀(pins:List (Addr×Obj)) (s:zbe1) (σ:St) (H:Hp) (v:V) (u:Value) (Q:St→Hp→Prop),Inv X pins σ H s→RelV v u→t v σ H Q →
  wpAny (model X.prog X.w) X.A (assign target X.env u) (fun _ s' => ∃σ' H',Inv X pins σ' H' s'∧Q σ' H') X.xe s
noncomputable def PGs (X:Cx) (ts:List Expr) (t:TGs):Prop :=
 ∀(pins:List (Addr×Obj)) (s:zbe1) (σ:St) (H:Hp) (vs:List V) (us:List Value) (Q:St→Hp→Prop),Inv X pins σ H s→Vals vs us→t vs σ H Q →
  wpAny (model X.prog X.w) X.A (assignInOrder ((assignEach ts X.env).map (·.2)) us) (fun _ s' => ∃σ' H',Inv X pins σ' H' s'∧Q σ' H') X.xe s
section
variable {X:Cx}{pos:Pos}
def gName (i:Nat):TG:=fun v σ H Q=>Q (σ.set i (some v)) H
theorem zc3 {i:Nat}{x:Str} (hN:X.N.Nodup) (hi:X.N[i]?=some x) (hx:Loc X.env.scope x) (hf:X.fn x=true∨X.env.scope.names.lookup x=some .local:=by first | exact .inl rfl | exact .inr rfl | assumption):PG X (.Name x pos) (gName i):=by
 intro pins s σ H v u Q I r h
 exact wpAny_assign_Name (zu5 I hN hi hx r (fun s' I'=>⟨_,H,I',h⟩) hf)
def gNil:TGs:=fun vs σ H Q=>vs=[]∧Q σ H
def gCons (t:TG) (u:TGs):TGs:=fun vs σ H Q => ∃v r,vs=v::r∧t v σ H fun σ' H'=>u r σ' H' Q
theorem zw0:PGs X [] gNil:=by
 intro pins s σ H vs us Q I r h
 obtain⟨e,h⟩:=h
 subst e
 cases r
 exact assignInOrder_nil ⟨σ,H,I,h⟩
theorem zh6 {e:Expr}{es:List Expr}{t:TG}{u:TGs} (h1:PG X e t) (h2:PGs X es u)
  (hs:(assignEach (e::es) X.env).map (·.2)=assign e X.env ::(assignEach es X.env).map (·.2):=by rfl):PGs X (e::es) (gCons t u):=by
 intro pins s σ H vs us Q I r h
 obtain⟨v,vr,e1,h⟩:=h
 subst e1
 cases r with
 |cons r rr =>
  rw [hs]
  refine assignInOrder_cons (thn (h1 pins s σ H _ _ _ I r h) fun _ s1 ⟨σ1,H1,I1,q1⟩=>?_)
  exact h2 pins s1 σ1 H1 _ _ Q I1 rr q1
def gTup (K:zbc5) (n:Nat) (t:TGs):TG:=fun v σ H Q => ∃a xs,v=.ref a∧SqT K H a xs∧xs.length=n∧t xs σ H Q
theorem zaf1 {es:List Expr}{k:Nat}{t:TGs}{n:Nat} (hc:X.calm=true) (h:PGs X es t)
  (hn:(assignEach es X.env).length=n:=by rfl) (hst:(assignEach es X.env).findIdx? (·.1)=none:=by rfl):PG X (.Tuple es k pos) (gTup X.K n t):=by
 intro pins s σ H v u Q I r hw
 obtain⟨a,xs,e1,hq,hl,hw⟩:=hw
 subst e1
 cases r
 obtain⟨its,rv,ht,hz⟩:=I.tuple hq
 refine assign_Tuple_tuple (I.ok.hd hc) ht (by simp [hn, ← hl,rv.length]) hst fun h' hx=>?_
 have I1:Inv X pins σ H { s with heap:=h' }:=I.kept (t':=s.toks) fun b o e=>hx b o (zbf5 (zbe4 e)) e
 exact h pins _ σ H xs _ Q I1 (by simpa using rv) hw
def tAsg (te:TE) (g:TG):TS:=fun D σ H=>te σ H fun x H1=>g x σ H1 D.nx
theorem ps_asg {tg e:Expr}{te:TE}{g:TG} (he:PE X e te) (hg:PG X tg g) (hs:swapsWithSole [tg] e pos.line X.env=pure false:=by rfl) (hw:swappedStores [tg] e X.env=pure none:=by rfl)
  (h1:(assignEach [tg] X.env).map (·.2)=[assign tg X.env]:=by rfl):PS X (.Assign [tg] e pos) (tAsg te g):=by
 intro pins s σ H D I h
 refine wpAny_Assign_stores (thn (he pins s σ H _ I h) fun v s1 ⟨x,H1,I1,r1,q1⟩=>?_) hs hw
 rw [h1]
 exact thn (hg pins s1 σ H1 x v _ I1 r1 q1) fun _ s2 q=>q
theorem ps_set {i:Nat}{x:Str}{e:Expr}{te:TE}{pos':Pos} (hN:X.N.Nodup) (hi:X.N[i]?=some x) (hx:Loc X.env.scope x) (he:PE X e te) (hs:swapsWith e (some (.Name x pos')) pos.line X.env=pure false:=by rfl) (hf:X.fn x=true∨X.env.scope.names.lookup x=some .local:=by first | exact .inl rfl | exact .inr rfl | assumption) :
  PS X (.Assign [.Name x pos'] e pos) (tAsg te (gName i)):=by
 intro pins s σ H D I h
 refine wpAny_Assign_Name (thn (he pins s σ H _ I h) fun v s1 ⟨y,H1,I1,r1,q1⟩=>?_) hs
 exact zu5 I1 hN hi hx r1 (fun s2 I2=>⟨_,H1,I2,q1⟩) hf
def tPar (i j:Nat) (ta:TA):TS:=fun D σ H=>ta σ H fun vs H1 => ∃v w,vs=[v,w]∧D.nx ((σ.set i (some v)).set j (some w)) H1
theorem ps_par {i j:Nat}{x y:Str}{a b:Expr}{ta:TA}{px py pt:Pos}{kt k2 pt2} (hc:X.calm=true) (hN:X.N.Nodup) (hi:X.N[i]?=some x) (hj:X.N[j]?=some y) (hij:i≠j)
  (hx:X.env.scope.names.lookup x=some .local) (hy:X.env.scope.names.lookup y=some .local) (ha:PA X [a,b] ta)
  (hw:swappedStores [.Tuple [.Name x px,.Name y py] kt pt] (.Tuple [a,b] k2 pt2) X.env=pure (some [x,y]))
  (hs:swapsWithSole [.Tuple [.Name x px,.Name y py] kt pt] (.Tuple [a,b] k2 pt2) pos.line X.env=pure false:=by rfl) :
  PS X (.Assign [.Tuple [.Name x px,.Name y py] kt pt] (.Tuple [a,b] k2 pt2) pos) (tPar i j ta):=by
 intro pins s σ H D I h
 rw [exec_Assign_arm]
 refine zbd4 (wpAny_standAt ?_)
 rw [hs]
 refine zbd4 (zbf3 ?_)
 rw [if_neg (by decide)]
 refine zbd4 (Tuple_ (thn (ha _ pins s σ H _ I h) fun us s1 ⟨vs,H1,I1,r1,q1⟩=>?_))
 obtain⟨v,w,e1,q1⟩:=q1
 subst e1
 obtain⟨u1,u2,rfl,rv,rw'⟩:∃u1 u2,us=[u1,u2]∧RelV v u1∧RelV w u2:=by
  cases r1 with
  |cons p q =>
   cases q with
   |cons p' q' =>
    cases q'
    exact⟨_,_,rfl,p,p'⟩
 refine wpAny_newObj_type ?_ (by show 2≤sizeLine;decide)
 have I2:Inv X pins σ H1 { s1 with heap:=s1.heap.push { cls:=.type "tuple",data:=.seq [u1,u2].toArray } }:=I1.kept (t':=s1.toks) fun b o e=>zbd5 _ e
 rw [hw]
 refine zbd4 (zbf3 ?_)
 show wpAny (model X.prog X.w) X.A (do rule "assign.swapped-stores";let items ← unpackItems (.ref s1.heap.objs.size) 2 none;assignInOrder [fun v=>bindName X.env y v,fun v=>bindName X.env x v] items.reverse;pure Flow.next) _ _ _
 refine zbd4 (wpAny_rule (zbd4 (unpackItems_tuple (items := #[u1,u2]) (I.ok.hd hc) (IsTup.new s1.heap _) fun h' hx'=>?_)))
 have I3:=I2.kept (h':=h') (t':=s1.toks) fun b o e=>hx' b o (zbf5 (zbe4 e)) e
 show wpAny _ _ (assignInOrder [fun v=>bindName X.env y v,fun v=>bindName X.env x v] [u2,u1] >>= fun _=>pure Flow.next) _ _ _
 refine zbd4 (assignInOrder_cons (wpAny_bindName (zu5 I3 hN hj (.inl hy) rw' (fun s2 I4=>?_) (.inr hy))))
 refine assignInOrder_cons (wpAny_bindName (zu5 I4 hN hi (.inl hx) rv (fun s3 I5=>assignInOrder_nil (zbf3 ?_)) (.inr hx)))
 rw [List.set_comm _ _ (Ne.symm hij)]at I5
 exact⟨_,H1,I5,q1⟩
end
section
variable {X:Cx}{pos:Pos}
noncomputable def tWhile (c:TT) (tb:TS):TS:=fun D σ H => ∃W:Nat→St→Hp→Prop,(∃m,W m σ H)∧∀m σ H,W m σ H →
 c σ H fun b H1=>if b=true then ∃N:St→Hp→Prop,(∀σ' H',N σ' H'→∃m',m' < m∧W m' σ' H')∧tb { D with nx:=N,ct:=N,bk:=D.nx } σ H1 else D.nx σ H1
theorem ps_while {c:Expr}{body:List Stmt}{tc:TT}{tb:TS} (hp:PassesOwn (model X.prog X.w) X.A X.env X.xe) (hc:PT X c tc) (hb:PSs X body tb):PS X (.While c body [] pos) (tWhile tc tb):=by
 intro pins s σ H D I h
 obtain⟨W,⟨m0,w0⟩,turn⟩:=h
 refine wpAny_While (codeAny_whileLoop (fun n s' => ∃σ' H',Inv X pins σ' H' s'∧W n σ' H') ?_ m0 ⟨σ,H,I,w0⟩)
 rintro n s1 ⟨σ1,H1,I1,w1⟩
 refine wpAny_passesOwn hp (thn (hc pins s1 σ1 H1 _ I1 (turn n σ1 H1 w1)) fun b s2 ⟨H2,I2,q2⟩=>?_)
 cases b with
 |true =>
  obtain⟨N,hN,q2⟩:=q2
  rw [if_pos rfl]
  refine wpAny_passesOwn hp (thn (hb pins s2 σ1 H2 _ I2 q2) fun f s3 q3=>?_)
  cases f with
  |next =>
   obtain⟨σ3,H3,I3,n3⟩:=q3
   obtain⟨m',hm,w3⟩:=hN σ3 H3 n3
   exact⟨m',hm,σ3,H3,I3,w3⟩
  |cont =>
   obtain⟨σ3,H3,I3,n3⟩:=q3
   obtain⟨m',hm,w3⟩:=hN σ3 H3 n3
   exact⟨m',hm,σ3,H3,I3,w3⟩
  |brk=>exact q3
  |ret v=>exact q3
 |false =>
  rw [if_neg zbe5]
  exact wpAny_execs_nil ⟨σ1,H2,I2,q2⟩
end
structure It where
 go:Nat→Hp→Prop
 yld:Nat→Hp→V→Hp→Prop
 stop:Nat→Hp→Prop
noncomputable def FpOk (X:Cx) (pins:List (Addr×Obj)) (H:Hp) (b:Addr):Prop :=
 H b=none∧b≠X.env.locals∧b∉X.fs∧(b∈X.ex∨X.s₀.heap.objs.size≤b)∧(∀x c,X.env.cells.lookup x=some c→c≠b)∧∀p∈X.pn++pins,p.1≠b
theorem Inv.fpOk {X:Cx}{pins:List (Addr×Obj)}{σ:St}{H H':Hp}{s:zbe1}{b:Addr} (I:Inv X pins σ H s) (hb:s.heap.objs.size≤b) (hn:H' b=none):FpOk X pins H' b:=by
 refine⟨hn,zbn3 (zbe2 I.lt hb),I.nofs hb,.inr (zbh8 I.sz hb),fun x c e z=>?_,fun p hp z=>?_⟩
 ·obtain⟨v,q⟩:=I.cell x c e
  exact absurd (zbe2 q.lt (by rw [z];exact hb)) (zbh6 _)
 ·exact absurd (zbe2 (zbe4 (I.pin p hp).1) (by rw [z];exact hb)) (zbh6 _)
structure Turn (P:Program) (w:World) (K:zbc5) (tg:Expr) (J:It) (fp:List Addr) (it:Addr) (tn:Nat→Heap→Prop):Prop where
 mem:it∈fp
 obj:∀i h,tn i h→∀b∈fp,∃o,h.get? b=some o∧∀v,o.data≠.cell v
 keep:∀i h h',tn i h→(∀b∈fp,∀o,h.get? b=some o→h'.get? b=some o)→tn i h'
 item:∀(X:Cx),X.prog=P→X.w=w→X.K=K→X.calm=true→∀(i:Nat) (pins:List (Addr×Obj)) (s:zbe1) (σ:St) (H:Hp) (E:Value→zbe1→Prop),Inv X pins σ H s→(∀b∈fp,FpOk X pins H b)→tn i s.heap→J.go i H →
  wpAny (model P w) X.A (pyNext (.ref it)) (fun r s1 => ∃u,r=some u ∧
   wpAny (model P w) X.A (letOwnedTupleGo tg (.ref it) u) (fun _ s2 => ∃x H',Inv X pins σ H' s2∧RelV x u∧J.yld i H x H'∧tn (i+1) s2.heap∧∀b∈fp,H' b=none) E s1) E s
 done:∀(X:Cx),X.prog=P→X.w=w→X.K=K→X.calm=true→∀(i:Nat) (pins:List (Addr×Obj)) (s:zbe1) (σ:St) (H:Hp) (E:Value→zbe1→Prop),Inv X pins σ H s→(∀b∈fp,FpOk X pins H b)→tn i s.heap→J.stop i H →
  wpAny (model P w) X.A (pyNext (.ref it)) (fun r s1=>r=none∧Inv X pins σ H s1) E s
 self:∀(A:Around) (i:Nat) (s:zbe1) (Q:Value→zbe1→Prop) (E:Value→zbe1→Prop),tn i s.heap→Q (.ref it) s→wpAny (model P w) A (pyIter (.ref it)) Q E s
abbrev TI:=St→Hp→(It→Hp→Prop)→Prop
noncomputable def PIE (X:Cx) (pins:List (Addr×Obj)) (σ:St) (tg:Expr) (R:It→Hp→Prop) (itv:Value) (s2:zbe1):Prop :=
 ∃(it:Addr) (fp:List Addr) (tn:Nat→Heap→Prop) (J:It) (H':Hp),itv=.ref it∧Inv X pins σ H' s2∧Turn X.prog X.w X.K tg J fp it tn∧tn 0 s2.heap∧(∀b∈fp,FpOk X pins H' b)∧R J H'
noncomputable def PI (X:Cx) (tg iter:Expr) (wi:TI):Prop :=
 ∀(pins:List (Addr×Obj)) (s:zbe1) (σ:St) (H:Hp) (R:It→Hp→Prop),Inv X pins σ H s→wi σ H R →
  wpAny (model X.prog X.w) X.A (eval iter X.env) (fun v s1=>wpAny (model X.prog X.w) X.A (pyIter v) (PIE X pins σ tg R) X.xe s1) X.xe s
theorem go_of {M:Model}{A:Around}{E:Value→zbe1→Prop}{s:zbe1}{tg:Expr}{it:Addr}{u:Value}{o:Obj}{n:String}{vs:Array Value}{Q:Unit→zbe1→Prop} (ho:s.heap.get? it=some o) (hc:o.cls=.type n) (hd:o.data=.fields vs)
  (hn:["enumerate", "zip", "dict_itemiterator", "dict_reverseitemiterator", "odict_iterator", "itertools.zip_longest", "itertools.pairwise"].contains n=false) (hQ:Q () s):wpAny M A (letOwnedTupleGo tg (.ref it) u) Q E s:=by
 unfold letOwnedTupleGo
 cases tg<;>first
  |exact zbf3 hQ
  |(cases u<;>first
    |exact zbf3 hQ
    |(refine zbd4 (wpAny_load ho ?_)
      rw [hc,hd]
      show wpAny M A (if (["enumerate", "zip", "dict_itemiterator", "dict_reverseitemiterator", "odict_iterator", "itertools.zip_longest", "itertools.pairwise"].contains n&&vs[0]? == some (rawInt _))=true then _ else _) Q E s
      rw [if_neg (by intro h;rw [hn,zbo3]at h;cases h)]
      exact zbf3 hQ))
noncomputable def Itl (K:zbc5) (a:Addr):It :=
 ⟨fun i H => ∃xs x,SqL K H a xs∧xs[i]?=some x,fun i H x H'=>H'=H∧∀xs,SqL K H a xs→xs[i]?=some x,fun i H => ∃xs,SqL K H a xs∧xs.length≤i⟩
def Itr (lo:Int) (n:Nat):It:=⟨fun i _=>i<n,fun i H x H'=>H'=H∧x=.int (lo+i),fun i _=>n≤i⟩
theorem zas4 {P:Program}{w:World}{K:zbc5}{tg:Expr} (a it:Addr):Turn P w K tg (Itl K a) [it] it (fun i h=>h.IsListIter it a i) where
 mem:=by simp
 obj:=fun i h st b hb=>by
  have e:b=it:=by simpa using hb
  subst e
  obtain⟨o,e,c,d⟩:=st
  exact⟨o,e,fun v z=>by rw [d]at z;cases z⟩
 keep:=fun i h h' st k=>st.at fun o e=>k it (by simp) o e
 item:=by
  intro X hP hw hK hc i pins s σ H E I hf st hg
  subst hP hw hK
  obtain⟨xs,x,hq,hx⟩:=hg
  obtain⟨its,rv,p,hz⟩:=I.list hq
  obtain⟨u,hu,ru⟩:=rv.get hx
  obtain⟨f0,f1,f2,f3,f4,f5⟩:=hf it (by simp)
  refine wpAny_pyNext_list_item st p.isList (x:=u) (by simpa using hu) fun h' st' sb=>?_
  have I1:Inv X pins σ H { s with heap:=h' }:=I.turned (t':=s.toks) (fun b o hb e=>(sb.2 b hb).trans e) f0 f1 f3 f4 f5
  obtain⟨o,e,c,d⟩:=id st'
  exact⟨u,rfl,go_of (s:={ s with heap:=h' }) e c d (by decide) ⟨x,H,I1,ru,⟨rfl,fun ys hy=>by rw [I.list_inj hy hq];exact hx⟩,st',fun b hb=>(hf b hb).1⟩⟩
 done:=by
  intro X hP hw hK hc i pins s σ H E I hf st hg
  subst hP hw hK
  obtain⟨xs,hq,hx⟩:=hg
  obtain⟨its,rv,p,hz⟩:=I.list hq
  obtain⟨f0,f1,f2,f3,f4,f5⟩:=hf it (by simp)
  have hl:=rv.length
  exact wpAny_pyNext_list_end (I.ok.hd hc) st p.isList (by simp;lia) fun h' eb=>⟨rfl,I.turned (t':=s.toks) (fun b o hb e=>eb b o hb e) f0 f1 f3 f4 f5⟩
 self:=fun _ _ _ _ _ st h=>wpAny_pyIter_listiter st h
theorem zap5 {P:Program}{w:World}{K:zbc5}{tg:Expr} (it:Addr) (lo:Int) (n:Nat):Turn P w K tg (Itr lo n) [it] it (fun i h=>IsRangeIter h it (lo+(i:Nat)*1) ((n:Int) - (i:Nat)) 1) where
 mem:=by simp
 obj:=fun i h st b hb=>by
  have e:b=it:=by simpa using hb
  subst e
  exact⟨_,st,fun v z=>by
   have z':Data.fields _=Data.cell v:=z
   cases z'⟩
 keep:=fun i h h' st k=>k it (by simp) _ st
 item:=by
  intro X hP hw hK hc i pins s σ H E I hf st hg
  subst hP hw hK
  obtain⟨f0,f1,f2,f3,f4,f5⟩:=hf it (by simp)
  have W:=Walks.range (prog:=X.prog) (w:=X.w) (I.ok.hd hc) it lo 1 n
  refine W.item i s _ _ hg st fun v h' tk hv st' kk=>?_
  obtain⟨t,rfl⟩:=hv
  have I1:Inv X pins σ H { s with heap:=h',toks:=tk }:=I.turned (fun b o hb e=>kk b o (by simpa using hb) e) f0 f1 f3 f4 f5
  refine⟨_,rfl,go_of (s:={ s with heap:=h',toks:=tk }) (n := "range_iterator") st' rfl rfl (by decide) ⟨.int (lo+i),H,I1,⟨t,?_⟩,⟨rfl,rfl⟩,st',fun b hb=>(hf b hb).1⟩⟩
  rw [Int.mul_one]
 done:=by
  intro X hP hw hK hc i pins s σ H E I hf st hg
  subst hP hw hK
  obtain⟨f0,f1,f2,f3,f4,f5⟩:=hf it (by simp)
  exact wpAny_pyNext_range_end (I.ok.hd hc) st (by have:n≤i:=hg;lia) fun h' eb=>⟨rfl,I.turned (t':=s.toks) (fun b o hb e=>eb b o hb e) f0 f1 f3 f4 f5⟩
 self:=fun _ _ _ _ _ st h=>wpAny_pyIter_rangeiter st h
end L2
namespace L2
open PySem.Spec
section
variable {X:Cx}{tg:Expr}
def iList (K:zbc5) (tl:TE):TI:=fun σ H R=>tl σ H fun x H1 => ∃a,x=.ref a∧(∃xs,SqL K H1 a xs)∧R (Itl K a) H1
theorem zau8 {l:Expr}{tl:TE} (hl:PE X l tl):PI X tg l (iList X.K tl):=by
 intro pins s σ H R I h
 refine thn (hl pins s σ H _ I h) fun v s1 ⟨x,H1,I1,r1,q1⟩=>?_
 obtain⟨a,e,⟨xs,hq⟩,q⟩:=q1
 subst e
 cases r1
 obtain⟨its,rv,p,hz⟩:=I1.list hq
 refine wpAny_pyIter_list p.isList ?_
 refine⟨s1.heap.objs.size,[s1.heap.objs.size],_,_,H1,rfl,I1.kept (t':=s1.toks) fun b o e=>zbd5 _ e,zas4 a _,⟨_,zbf7 _ rfl,rfl,rfl⟩,fun b hb=>?_,q⟩
 have e:b=s1.heap.objs.size:=by simpa using hb
 subst e
 exact I1.fpOk (zbf1 _) (I1.hok.fresh (zbf1 _))
theorem zam8 {pins:List (Addr×Obj)}{σ:St}{H:Hp}{s:zbe1}{R:It→Hp→Prop}{E:Value→zbe1→Prop}{lo hi:Int}{t u v:Tok}{tk:Nat} (I:Inv X pins σ H s) (h1 : -(2 ^ 62)≤lo) (h2:lo<2 ^ 62) (h3 : -(2 ^ 62)≤hi) (h4:hi<2 ^ 62)
  (q:R (Itr lo (hi - lo).toNat) H):wpAny (model X.prog X.w) X.A (pyIter (.ref s.heap.objs.size)) (PIE X pins σ tg R) E { s with heap:=s.heap.push { cls:=.type "range",data:=.fields #[.int lo t,.int hi u,.int 1 v] },toks:=tk }:=by
 refine wpAny_pyIter_range (IsRange.new ..) (small_one h1 h2 h3 h4) ?_
 have I1:Inv X pins σ H { s with heap:=s.heap.push { cls:=.type "range",data:=.fields #[.int lo t,.int hi u,.int 1 v] },toks:=tk }:=I.kept fun b o e=>zbd5 _ e
 refine⟨(s.heap.push { cls:=.type "range",data:=.fields #[.int lo t,.int hi u,.int 1 v] }).objs.size,[(s.heap.push { cls:=.type "range",data:=.fields #[.int lo t,.int hi u,.int 1 v] }).objs.size],_,_,H,rfl,
  I1.kept (t':=tk) fun b o e=>zbd5 _ e,zap5 _ lo (hi - lo).toNat,?_,fun b hb=>?_,q⟩
 ·have e1:lo+((0:Nat):Int)*1=lo:=by simp
  have e2:(((hi - lo).toNat:Nat):Int) - ((0:Nat):Int)=Builtin.Range.rangeSize lo hi 1:=by rw [rangeSize_one];split<;>lia
  show IsRangeIter _ _ (lo+((0:Nat):Int)*1) ((((hi - lo).toNat:Nat):Int) - ((0:Nat):Int)) 1
  rw [e1,e2]
  exact zbf7 _ rfl
 ·have e:b=(s.heap.push { cls:=.type "range",data:=.fields #[.int lo t,.int hi u,.int 1 v] }).objs.size:=by simpa using hb
  subst e
  exact I1.fpOk (zbf1 _) (I1.hok.fresh (zbf1 _))
def iRng1 (ta:TA):TI:=fun σ H R=>ta σ H fun vs H1 => ∃j:Int,vs=[.int j] ∧ -(2 ^ 62)≤j∧j<2 ^ 62∧R (Itr 0 j.toNat) H1
noncomputable def iRng2 (ta:TA):TI:=fun σ H R=>ta σ H fun vs H1 => ∃i j:Int,vs=[.int i,.int j]∧(-(2 ^ 62)≤i∧i<2 ^ 62 ∧ -(2 ^ 62)≤j∧j<2 ^ 62)∧R (Itr i (j - i).toNat) H1
theorem zaf0 {a:Expr}{ta:TA}{p pos:Pos} (hg:Gl X "range") (hm:X.mg "range"=none) (ha:PA X [a] ta) (hs:zbe3 [a] X.env=[(false,eval a X.env)]:=by rfl):PI X tg (.Call (.Name "range" p) [a] [] pos) (iRng1 ta):=by
 intro pins s σ H R I h
 refine Call_ (zo6 I hg hm boot_range (PyProof.Rows.callWith_type1 (thn (ha pos pins s σ H _ I h) fun us s1 ⟨vs,H1,I1,r1,q1⟩=>?_) hs rfl))
 obtain⟨j,e,q1,q2,q⟩:=q1
 subst e
 cases r1 with
 |cons r rr =>
  cases rr
  obtain⟨t,rfl⟩:=r
  exact call_range_1 (zam8 I1 (by lia) (by lia) q1 q2 (by simpa using q))
theorem zau7 {a b:Expr}{ta:TA}{p pos:Pos} (hg:Gl X "range") (hm:X.mg "range"=none) (ha:PA X [a,b] ta) (hs:zbe3 [a,b] X.env=[(false,eval a X.env),(false,eval b X.env)]:=by rfl) (hs2:zbe3 [b] X.env=[(false,eval b X.env)]:=by rfl) :
  PI X tg (.Call (.Name "range" p) [a,b] [] pos) (iRng2 ta):=by
 intro pins s σ H R I h
 refine Call_ (zo6 I hg hm boot_range (PyProof.Rows.callWith_type1 (thn (ha pos pins s σ H _ I h) fun us s1 ⟨vs,H1,I1,r1,q1⟩=>?_) (by rw [hs,hs2]) (by rw [hs2];rfl)))
 obtain⟨i,j,e,⟨q1,q2,q3,q4⟩,q⟩:=q1
 subst e
 cases r1 with
 |cons r rr =>
  cases rr with
  |cons r' rr =>
   cases rr
   obtain⟨t,rfl⟩:=r
   obtain⟨t',rfl⟩:=r'
   exact call_range_2 (zam8 I1 q1 q2 q3 q4 q)
noncomputable def tFor (wi:TI) (g:TG) (tb:TS):TS:=fun D σ H=>wi σ H fun J H1 => ∃W:Nat→Nat→St→Hp→Prop,(∃m,W 0 m σ H1)∧∀i m σ H,W i m σ H →
 (J.stop i H∧D.nx σ H)∨(J.go i H∧∃N:St→Hp→Prop,(∀σ' H',N σ' H'→∃m',m' < m∧W (i+1) m' σ' H')∧∀x H',J.yld i H x H'→g x σ H' fun σ2 H2=>tb { D with nx:=N,ct:=N,bk:=D.nx } σ2 H2)
def zo4 (fp:List Addr) (h:Heap):List (Addr×Obj):=fp.filterMap fun b=>(h.get? b).map fun o=>(b,o)
theorem zd0 {fp:List Addr}{h:Heap}{b:Addr}{o:Obj} (hb:b∈fp) (e:h.get? b=some o):(b,o)∈zo4 fp h:=zbm1.mpr ⟨b,hb,by rw [e];rfl⟩
theorem zav8 {fp:List Addr}{h:Heap}{p:Addr×Obj} (hp:p∈zo4 fp h):p.1∈fp∧h.get? p.1=some p.2:=by
 obtain⟨b,hb,e⟩:=zbm1.mp hp
 cases q:h.get? b with
 |none=>rw [q]at e;cases e
 |some o =>
  rw [q]at e
  have e':(b,o)=p:=Option.some.inj e
  subst e'
  exact⟨hb,q⟩
theorem Inv.pinned {pins:List (Addr×Obj)}{σ:St}{H:Hp}{s:zbe1}{fp:List Addr} (I:Inv X pins σ H s) (hf:∀b∈fp,FpOk X pins H b) (ho:∀b∈fp,∃o,s.heap.get? b=some o∧∀v,o.data≠.cell v):Inv X (pins++zo4 fp s.heap) σ H s :=
 I.pins_of fun p hp=>(zbd0.mp hp).elim (fun z=>I.pin p (zbc4 _ z)) fun z=>by
  obtain⟨hb,e⟩:=zav8 z
  obtain⟨f0,f1,f2,_⟩:=hf p.1 hb
  obtain⟨o,e',d⟩:=ho p.1 hb
  rw [e]at e';cases e'
  exact⟨e,f0,f1,f2,d⟩
theorem Inv.unpinned {pins pl:List (Addr×Obj)}{σ:St}{H:Hp}{s:zbe1} (I:Inv X (pins++pl) σ H s):Inv X pins σ H s:=I.pins_of fun p hp=>I.pin p (zbc4 _ (zbc7 _ hp))
theorem zau4 {iter:Expr}{body:List Stmt}{wi:TI}{g:TG}{tb:TS}{pos:Pos} (hp:PassesOwn (model X.prog X.w) X.A X.env X.xe) (hc:X.calm=true) (hi:PI X tg iter wi) (hg:PG X tg g) (hb:PSs X body tb)
  (hs:∀x,foldedSetIterable iter X.env x=pure x:=by intro _;rfl):PS X (.For tg iter body [] pos) (tFor wi g tb):=by
 intro pins s σ H D I h
 refine wpAny_For (thn (hi pins s σ H _ I h) fun v s1 h1=>thn h1 fun itv s2 h2=>?_) hs
 obtain⟨it,fp,tn,J,H2,e,I2,T,st2,f2,W,⟨m0,w0⟩,turn⟩:=h2
 subst e
 -- what stays true of the iterator's objects through the loop
 have stat:∀ {H':Hp},(∀b∈fp,H' b=none)→∀b∈fp,FpOk X pins H' b:=fun hn b hb=>⟨hn b hb,(f2 b hb).2⟩
 refine codeAny_forLoop_any (fun n s' => ∃i σ' H',Inv X pins σ' H' s'∧tn i s'.heap∧(∀b∈fp,H' b=none)∧W i n σ' H') ?_ m0 ⟨0,σ,H2,I2,st2,fun b hb=>(f2 b hb).1,w0⟩
 rintro n s3 ⟨i,σ3,H3,I3,st3,fr3,w3⟩
 rcases turn i n σ3 H3 w3 with ⟨stop,qn⟩ | ⟨go,N,hN,step⟩
 ·refine wpAny_passesOwn hp (thn (T.done X rfl rfl rfl hc i pins s3 σ3 H3 X.xe I3 (stat fr3) st3 stop) fun r s4 ⟨hr,I4⟩=>?_)
  subst hr
  exact wpAny_execs_nil ⟨σ3,H3,I4,qn⟩
 ·refine wpAny_passesOwn hp (thn (T.item X rfl rfl rfl hc i pins s3 σ3 H3 X.xe I3 (stat fr3) st3 go) fun r s4 ⟨u,hr,h4⟩=>?_)
  subst hr
  refine wpAny_passesOwn hp (thn h4 fun _ s5 ⟨x,H5,I5,r5,y5,st5,fr5⟩=>?_)
  have I5':=I5.pinned (stat fr5) (T.obj _ _ st5)
  refine wpAny_passesOwn hp (thn (hg _ s5 σ3 H5 x u _ I5' r5 (step x H5 y5)) fun _ s6 ⟨σ6,H6,I6,q6⟩=>?_)
  refine wpAny_passesOwn hp (thn (hb _ s6 σ6 H6 _ I6 q6) fun f s7 q7=>?_)
  have again:∀ {σ7:St}{H7:Hp},Inv X (pins++zo4 fp s5.heap) σ7 H7 s7→N σ7 H7→∃m,m<n∧∃i σ' H',Inv X pins σ' H' s7∧tn i s7.heap∧(∀b∈fp,H' b=none)∧W i m σ' H':=fun {σ7 H7} I7 n7=>by
   obtain⟨m',hm,w7⟩:=hN σ7 H7 n7
   refine⟨m',hm,i+1,σ7,H7,I7.unpinned,T.keep _ _ _ st5 fun b hb o e=>(I7.pin (b,o) (zbc4 _ (zbc4 _ (zd0 hb e)))).1,fun b hb=>?_,w7⟩
   obtain⟨o,e,d⟩:=T.obj _ _ st5 b hb
   exact (I7.pin (b,o) (zbc4 _ (zbc4 _ (zd0 hb e)))).2.1
  cases f with
  |next=>obtain⟨σ7,H7,I7,n7⟩:=q7;exact again I7 n7
  |cont=>obtain⟨σ7,H7,I7,n7⟩:=q7;exact again I7 n7
  |brk=>obtain⟨σ7,H7,I7,q7⟩:=q7;exact⟨σ7,H7,I7.unpinned,q7⟩
  |ret v=>obtain⟨x7,σ7,H7,I7,r7,q7⟩:=q7;exact⟨x7,σ7,H7,I7.unpinned,r7,q7⟩
end
end L2
namespace L2
open PySem.Spec
abbrev R2:=V→V→Hp→VK→Prop
noncomputable def OpR (X:Cx) (f:Value→Value→Sem Value) (r:R2):Prop :=
 ∀(pins:List (Addr×Obj)) (s:zbe1) (σ:St) (H:Hp) (x y:V) (v u:Value) (Q:VK),Inv X pins σ H s→RelV x v→RelV y u→r x y H Q →
  wpAny (model X.prog X.w) X.A (f v u) (EP X pins σ Q) X.xe s
noncomputable def zq1 (X:Cx) (f:Value) (r:List V→Hp→VK→Prop):Prop :=
 ∀(pins:List (Addr×Obj)) (s:zbe1) (σ:St) (H:Hp) (xs:List V) (us:List Value) (Q:VK),Inv X pins σ H s→Vals xs us→r xs H Q →
  wpAny (model X.prog X.w) X.A (call f us) (EP X pins σ Q) X.xe s
noncomputable def TruR (X:Cx) (r:V→Hp→(Bool→Hp→Prop)→Prop):Prop :=
 ∀(pins:List (Addr×Obj)) (s:zbe1) (σ:St) (H:Hp) (x:V) (v:Value) (Q:Bool→Hp→Prop),Inv X pins σ H s→RelV x v→r x H Q →
  wpAny (model X.prog X.w) X.A (truthy v) (TP X pins σ Q) X.xe s
def tOp (r:R2) (ta tb:TE):TE:=fun σ H Q=>ta σ H fun x H1=>tb σ H1 fun y H2=>r x y H2 Q
def rI (C:Int→Int→Prop) (g:Int→Int→V):R2:=fun x y H Q => ∃i j,x=.int i∧y=.int j∧C i j∧Q (g i j) H
def rI0 (g:Int→Int→V):R2:=fun x y H Q => ∃i j,x=.int i∧y=.int j∧Q (g i j) H
section
variable {X:Cx}{a b c:Expr}{ta tb tc:TE}{pos:Pos}
theorem binT (ha:PE X a ta) (hb:PE X b tb) {pins:List (Addr×Obj)}{s:zbe1}{σ:St}{H:Hp}{R:V→V→Hp→Prop} (I:Inv X pins σ H s)
  (h:ta σ H fun x H1=>tb σ H1 fun y H2=>R x y H2) {Q:Value→zbe1→Prop}{f:Value→Value→Sem Value}
  (hf:∀v u s2 x y H2,Inv X pins σ H2 s2→RelV x v→RelV y u→R x y H2→wpAny (model X.prog X.w) X.A (f v u) Q X.xe s2) :
  wpAny (model X.prog X.w) X.A (eval a X.env) (fun v s₁=>wpAny (model X.prog X.w) X.A (eval b X.env) (fun u s₂=>wpAny (model X.prog X.w) X.A (f v u) Q X.xe s₂) X.xe s₁) X.xe s:=by
 refine thn (ha pins s σ H _ I h) fun v s1 ⟨x,H1,I1,r1,q1⟩=>?_
 refine thn (hb pins s1 σ H1 _ I1 q1) fun u s2 ⟨y,H2,I2,r2,q2⟩=>?_
 exact hf v u s2 x y H2 I2 r1 r2 q2
theorem opI {f:Value→Value→Sem Value}{C:Int→Int→Prop}{g:Int→Int→Int}
  (rule:∀(i j:Int) (t u:Tok) (s:zbe1) (Q:Value→zbe1→Prop) (E:Value→zbe1→Prop),C i j→Q (.int (g i j) s.toks) { s with toks:=s.toks+1 }→wpAny (model X.prog X.w) X.A (f (.int i t) (.int j u)) Q E s) :
  OpR X f (rI C fun i j=>.int (g i j)):=by
 intro pins s σ H x y v u Q I rx ry h
 obtain⟨i,j,rfl,rfl,hc,q⟩:=h
 obtain⟨t,rfl⟩:=rx
 obtain⟨t',rfl⟩:=ry
 exact rule i j t t' s _ _ hc ⟨.int (g i j),H,I.tok _,⟨_,rfl⟩,q⟩
theorem opI0 {f:Value→Value→Sem Value}{g:Int→Int→Int}
  (rule:∀(i j:Int) (t u:Tok) (s:zbe1) (Q:Value→zbe1→Prop) (E:Value→zbe1→Prop),Q (.int (g i j) s.toks) { s with toks:=s.toks+1 }→wpAny (model X.prog X.w) X.A (f (.int i t) (.int j u)) Q E s) :
  OpR X f (rI0 fun i j=>.int (g i j)):=by
 intro pins s σ H x y v u Q I rx ry h
 obtain⟨i,j,rfl,rfl,q⟩:=h
 obtain⟨t,rfl⟩:=rx
 obtain⟨t',rfl⟩:=ry
 exact rule i j t t' s _ _ ⟨.int (g i j),H,I.tok _,⟨_,rfl⟩,q⟩
theorem opB0 {f:Value→Value→Sem Value}{g:Int→Int→Bool}
  (rule:∀(i j:Int) (t u:Tok) (s:zbe1) (Q:Value→zbe1→Prop) (E:Value→zbe1→Prop),Q (.bool (g i j)) s→wpAny (model X.prog X.w) X.A (f (.int i t) (.int j u)) Q E s) :
  OpR X f (rI0 fun i j=>.bl (g i j)):=by
 intro pins s σ H x y v u Q I rx ry h
 obtain⟨i,j,rfl,rfl,q⟩:=h
 obtain⟨t,rfl⟩:=rx
 obtain⟨t',rfl⟩:=ry
 exact rule i j t t' s _ _ ⟨.bl (g i j),H,I,rfl,q⟩
def CPow (i j:Int):Prop:=0≤j∧j≤1000000∧i.natAbs<2 ^ 64
theorem op_add:OpR X (binaryOp .Add) (rI0 fun i j=>.int (i+j)):=opI0 fun _ _ _ _ _ _ _ q=>add_int q
theorem op_sub:OpR X (binaryOp .Sub) (rI0 fun i j=>.int (i - j)):=opI0 fun _ _ _ _ _ _ _ q=>sub_int q
theorem op_modN:OpR X (binaryOp .Mod) (rI (fun _ j=>j≠0) fun i j=>.int (i.fmod j)):=opI fun _ _ _ _ _ _ _ hc q=>mod_int' hc q
theorem op_pow:OpR X (binaryOp .Pow) (rI CPow fun i j=>.int (i ^ j.toNat)):=opI fun _ _ _ _ _ _ _ hc q=>pow_int_small hc.1 hc.2.1 hc.2.2 q
end
noncomputable def scal:V→V→Bool
 |.non,.non=>true | .non,.int _=>true | .int _,.non=>true | .non,.bl _=>true | .bl _,.non=>true | .non,.str _=>true | .str _,.non=>true
 |.int _,.int _=>true | .bl _,.bl _=>true | .str _,.str _=>true | .byt _,.byt _=>true
 |.int _,.str _=>true | .str _,.int _=>true | .bl _,.str _=>true | .str _,.bl _=>true
 |_,_=>false
def rEq:R2:=fun x y H Q=>scal x y=true∧Q (.bl (decide (x=y))) H
def rNe:R2:=fun x y H Q=>scal x y=true∧Q (.bl (!decide (x=y))) H
theorem zaz4 {i j:Int}:decide (V.int i=V.int j)=(i == j):=by
 rw [zbi6]
 simp
theorem dec_bl {i j:Bool}:decide (V.bl i=V.bl j)=(i == j):=by
 rw [zbi6]
 simp
theorem zaz3 {i j:Str}:decide (V.str i=V.str j)=(i == j):=by
 rw [zbi6]
 simp
theorem zaz5 {i j:Array UInt8}:decide (V.byt i=V.byt j)=(i.toList == j.toList):=by
 rw [zbi6]
 cases i
 cases j
 simp
section
variable {X:Cx}{a b c:Expr}{ta tb tc:TE}{pos:Pos}
theorem zd7 {pins:List (Addr×Obj)}{σ:St}{H:Hp}{s:zbe1}{Q:VK}{k k':Bool} (I:Inv X pins σ H s) (q:Q (.bl k) H) (e:k=k'):EP X pins σ Q (.bool k') s:=by
 subst e
 exact⟨.bl k,H,I,rfl,q⟩
theorem op_eq:OpR X (compareOp .Eq) rEq:=by
 intro pins s σ H x y v u Q I rx ry h
 obtain⟨hs,q⟩:=h
 cases x with
 |non =>
  cases rx
  cases y with
  |non=>cases ry;exact PySem.EqNone.eq_none_none (zd7 I q (by simp))
  |bl j=>cases ry;exact PySem.EqNone.eq_none_bool (zd7 I q (by simp))
  |int j=>obtain⟨t',rfl⟩:=ry;exact PySem.EqNone.eq_none_int (zd7 I q (by simp))
  |str j=>obtain⟨t',rfl⟩:=ry;exact PySem.EqNone.eq_none_str (zd7 I q (by simp))
  |_=>exact absurd (show false=true from hs) zbe5
 |bl i =>
  cases rx
  cases y with
  |non=>cases ry;exact PySem.EqNone.eq_bool_none (zd7 I q (by simp))
  |bl j=>cases ry;exact eq_bool (zd7 I q dec_bl)
  |str j=>obtain⟨t',rfl⟩:=ry;exact PySem.EqMixed.eq_bool_str (zd7 I q (by simp))
  |_=>exact absurd (show false=true from hs) zbe5
 |int i =>
  obtain⟨t,rfl⟩:=rx
  cases y with
  |non=>cases ry;exact PySem.EqNone.eq_int_none (zd7 I q (by simp))
  |int j=>obtain⟨t',rfl⟩:=ry;exact eq_int (zd7 I q zaz4)
  |str j=>obtain⟨t',rfl⟩:=ry;exact PySem.EqMixed.eq_int_str (zd7 I q (by simp))
  |_=>exact absurd (show false=true from hs) zbe5
 |str i =>
  obtain⟨t,rfl⟩:=rx
  cases y with
  |non=>cases ry;exact PySem.EqNone.eq_str_none (zd7 I q (by simp))
  |bl j=>cases ry;exact PySem.EqMixed.eq_str_bool (zd7 I q (by simp))
  |int j=>obtain⟨t',rfl⟩:=ry;exact PySem.EqMixed.eq_str_int (zd7 I q (by simp))
  |str j=>obtain⟨t',rfl⟩:=ry;exact eq_str (zd7 I q zaz3)
  |_=>exact absurd (show false=true from hs) zbe5
 |byt i =>
  obtain⟨t,rfl⟩:=rx
  cases y with
  |byt j=>obtain⟨t',rfl⟩:=ry;exact PySem.W.eq_bytes (zd7 I q zaz5)
  |_=>exact absurd (show false=true from hs) zbe5
 |_=>cases y<;>exact absurd (show false=true from hs) zbe5
theorem op_ne:OpR X (compareOp .NotEq) rNe:=by
 intro pins s σ H x y v u Q I rx ry h
 obtain⟨hs,q⟩:=h
 cases x with
 |non =>
  cases rx
  cases y with
  |non=>cases ry;exact PySem.EqNone.ne_none_none (zd7 I q (by simp))
  |bl j=>cases ry;exact PySem.EqNone.ne_none_bool (zd7 I q (by simp))
  |int j=>obtain⟨t',rfl⟩:=ry;exact PySem.EqNone.ne_none_int (zd7 I q (by simp))
  |str j=>obtain⟨t',rfl⟩:=ry;exact PySem.EqNone.ne_none_str (zd7 I q (by simp))
  |_=>exact absurd (show false=true from hs) zbe5
 |bl i =>
  cases rx
  cases y with
  |non=>cases ry;exact PySem.EqNone.ne_bool_none (zd7 I q (by simp))
  |bl j=>cases ry;exact ne_bool (zd7 I q (congrArg not dec_bl))
  |str j=>obtain⟨t',rfl⟩:=ry;exact PySem.EqMixed.ne_bool_str (zd7 I q (by simp))
  |_=>exact absurd (show false=true from hs) zbe5
 |int i =>
  obtain⟨t,rfl⟩:=rx
  cases y with
  |non=>cases ry;exact PySem.EqNone.ne_int_none (zd7 I q (by simp))
  |int j=>obtain⟨t',rfl⟩:=ry;exact ne_int (zd7 I q (congrArg not zaz4))
  |str j=>obtain⟨t',rfl⟩:=ry;exact PySem.EqMixed.ne_int_str (zd7 I q (by simp))
  |_=>exact absurd (show false=true from hs) zbe5
 |str i =>
  obtain⟨t,rfl⟩:=rx
  cases y with
  |non=>cases ry;exact PySem.EqNone.ne_str_none (zd7 I q (by simp))
  |bl j=>cases ry;exact PySem.EqMixed.ne_str_bool (zd7 I q (by simp))
  |int j=>obtain⟨t',rfl⟩:=ry;exact PySem.EqMixed.ne_str_int (zd7 I q (by simp))
  |str j=>obtain⟨t',rfl⟩:=ry;exact ne_str (zd7 I q (congrArg not zaz3))
  |_=>exact absurd (show false=true from hs) zbe5
 |byt i =>
  obtain⟨t,rfl⟩:=rx
  cases y with
  |byt j=>obtain⟨t',rfl⟩:=ry;exact PySem.W.ne_bytes (zd7 I q (congrArg not zaz5))
  |_=>exact absurd (show false=true from hs) zbe5
 |_=>cases y<;>exact absurd (show false=true from hs) zbe5
theorem op_lt:OpR X (compareOp .Lt) (rI0 fun i j=>.bl (decide (i<j))):=opB0 fun _ _ _ _ _ _ _ q=>lt_int q
theorem op_le:OpR X (compareOp .LtE) (rI0 fun i j=>.bl (decide (i≤j))):=opB0 fun _ _ _ _ _ _ _ q=>le_int q
theorem op_gt:OpR X (compareOp .Gt) (rI0 fun i j=>.bl (decide (j<i))):=opB0 fun _ _ _ _ _ _ _ q=>gt_int q
theorem nomark (b:Expr) {op:CmpOp} (h:op≠.In:=by decide) (h2:op≠.NotIn:=by decide):behindInMarks op b=false:=by
 have e1:(op == CmpOp.In)=false:=by cases op<;>first | rfl | exact absurd rfl h
 have e2:(op == CmpOp.NotIn)=false:=by cases op<;>first | rfl | exact absurd rfl h2
 cases b<;>simp [behindInMarks,e1,e2]
noncomputable def tChain (r r':R2) (ta tb tc:TE):TE:=fun σ H Q=>ta σ H fun x H1=>tb σ H1 fun y H2=>r x y H2 fun z H3 => ∃k,z=.bl k ∧
 (if k=true then tc σ H3 fun w' H4=>r' y w' H4 Q else Q (.bl false) H3)
theorem pe_chain {op op':CmpOp}{r r':R2} (ho:OpR X (compareOp op) r) (ho':OpR X (compareOp op') r') (ha:PE X a ta) (hb:PE X b tb) (hc:PE X c tc)
  (hm:lastMarks [op,op'] [b,c]=false:=by with_unfolding_all rfl):PE X (.Compare a [op,op'] [b,c] pos) (tChain r r' ta tb tc):=by
 intro pins s σ H Q I h
 refine Compare_chain (thn (ha pins s σ H _ I h) fun v s1 ⟨x,H1,I1,r1,q1⟩=>chain_link (thn (hb pins s1 σ H1 _ I1 q1) fun u s2 ⟨y,H2,I2,r2,q2⟩ =>
  thn (ho pins s2 σ H2 x y v u _ I2 r1 r2 q2) fun d s3 ⟨z,H3,I3,r3,k,e,q3⟩=>?_)) hm
 subst e
 cases r3
 refine wpAny_truthy_bool ?_
 cases k with
 |false=>exact ite_ff ⟨.bl false,H3,I3,rfl,q3⟩
 |true=>exact ite_tt (chain_last (thn (hc pins s3 σ H3 _ I3 q3) fun w' s4 ⟨z',H4,I4,r4,q4⟩=>ho' pins s4 σ H4 y z' u w' Q I4 r2 r4 q4))
noncomputable def TruV (K:zbc5) (x:V) (H:Hp) (k:Bool):Prop :=
 match x with
 |.non=>k=false
 |.bl b=>k=b
 |.int i=>k=(i != 0)
 |.str y=>y.length≤sizeLine∧k=((y.length:Int) != 0)
 |.byt y=>y.size≤sizeLine∧k=((y.size:Int) != 0)
 |.ref p=>(∃xs,SqL K H p xs∧k=!xs.isEmpty)∨(∃xs,SqT K H p xs∧k=!xs.isEmpty)∨∃kvs,H p=some (.dK kvs)∧k=!kvs.isEmpty
 |_=>False
theorem zaq8 {κ:Type}{kvs:List (κ×V)}{vs:List (κ×Value)} (r:KV kvs vs):(!vs.isEmpty)=!kvs.isEmpty:=by
 cases r<;>rfl
theorem zaa4 {xs:List V}{its:List Value} (r:Vals xs its):(!its.toArray.isEmpty)=!xs.isEmpty:=by
 cases r<;>simp
theorem zao0:(sizeLine:Nat)<2 ^ 63:=by rw [sizeLine_eq];decide
theorem tru_ok:TruR X (fun x H Q => ∃k,TruV X.K x H k∧Q k H):=by
 intro pins s σ H x v Q I rx h
 obtain⟨k,e,q⟩:=h
 have hl:=zao0
 have hs:sizeLine=16777216:=sizeLine_eq
 cases x with
 |non =>
  cases rx
  have e':k=false:=e
  subst e'
  exact truthy_none ⟨H,I,q⟩
 |bl b =>
  cases rx
  have e':k=b:=e
  subst e'
  exact wpAny_truthy_bool ⟨H,I,q⟩
 |int i =>
  obtain⟨t,rfl⟩:=rx
  have e':k=(i != 0):=e
  subst e'
  exact PySem.P.truthy_int ⟨H,I,q⟩
 |str y =>
  obtain⟨t,rfl⟩:=rx
  obtain⟨hy,e'⟩:y.length≤sizeLine∧k=((y.length:Int) != 0):=e
  subst e'
  exact PySem.P.truthy_str (by lia) ⟨H,I.tok _,q⟩
 |byt y =>
  obtain⟨t,rfl⟩:=rx
  obtain⟨hy,e'⟩:y.size≤sizeLine∧k=((y.size:Int) != 0):=e
  subst e'
  exact PySem.W.truthy_bytes (by lia) ⟨H,I.tok _,q⟩
 |ref p =>
  cases rx
  have e':(∃xs,SqL X.K H p xs∧k=!xs.isEmpty)∨(∃xs,SqT X.K H p xs∧k=!xs.isEmpty)∨∃kvs,H p=some (.dK kvs)∧k=!kvs.isEmpty:=e
  rcases e' with ⟨xs,hx,e'⟩ | ⟨xs,hx,e'⟩ | ⟨kvs,hx,e'⟩
  ·subst e'
   obtain⟨its,r,pl,hz⟩:=I.list hx
   have hlen:=r.length
   exact wpAny_truthy_list pl.isList (by simp only [zbe7];lia) ⟨H,I.tok _,by rw [zaa4 r];exact q⟩
  ·subst e'
   obtain⟨its,r,pl,hz⟩:=I.tuple hx
   have hlen:=r.length
   exact truthy_tuple pl (by simp only [zbe7];lia) ⟨H,I.tok _,by rw [zaa4 r];exact q⟩
  ·subst e'
   obtain⟨hz,hS,vs,r,m⟩:kvs.length≤sizeLine∧(p == sysModules)=false∧∃vs,KV kvs vs∧s.heap.DictOf (zn1 X.prog X.w) p vs:=I.hok p _ hx
   have hlen:kvs.length=vs.length:=Paired.length r
   exact wpAny_truthy_dict hS m (by lia) ⟨H,I.tok _,by rw [zaq8 r];exact q⟩
 |_=>exact (show False from e).elim
theorem pt_truth (ha:PE X a ta) (he:∀whole,isTrue a X.env whole=(do let v ← whole;standAt a.pos;holding [v] (truthy v))) :
  PT X a (fun σ H Q=>ta σ H fun x H' => ∃k,TruV X.K x H' k∧Q k H'):=by
 intro pins s σ H Q I h
 exact isTrue_plain (thn (ha pins s σ H _ I h) fun v s1 ⟨x,H1,I1,r1,q1⟩=>tru_ok pins s1 σ H1 x v Q I1 r1 q1) (he _)
theorem zab0 {x:V}{us:List Value} (r:Vals [x] us):∃u,us=[u]∧RelV x u:=by
 cases r with
 |cons r1 r2=>cases r2;exact⟨_,rfl,r1⟩
theorem vals2 {x y:V}{us:List Value} (r:Vals [x,y] us):∃u w',us=[u,w']∧RelV x u∧RelV y w':=by
 cases r with
 |cons r1 r2 =>
  cases r2 with
  |cons r3 r4=>cases r4;exact⟨_,_,rfl,r1,r3⟩
theorem call_abs:zq1 X (.builtin "abs") (fun xs H Q => ∃i,xs=[.int i]∧Q (.int (if i<0 then -i else i)) H):=by
 intro pins s σ H xs us Q I r h
 obtain⟨i,rfl,q⟩:=h
 obtain⟨u,rfl,t,rfl⟩:=zab0 r
 exact call_abs_int fun u tk=>⟨.int (if i<0 then -i else i),H,I.tok _,⟨_,rfl⟩,q⟩
theorem zbb6 (hc:X.calm=true):zq1 X (.builtin "min") (fun xs H Q => ∃i j,xs=[.int i,.int j]∧Q (.int (if j<i then j else i)) H):=by
 intro pins s σ H xs us Q I r h
 obtain⟨i,j,rfl,q⟩:=h
 obtain⟨u,w',rfl,⟨t,rfl⟩,⟨t',rfl⟩⟩:=vals2 r
 refine min_two_ints (I.ok.hd hc) fun h' tk k=>⟨_,H,I.kept k,?_,q⟩
 by_cases hj:j<i
 ·rw [if_pos hj,if_pos hj];exact⟨_,rfl⟩
 ·rw [if_neg hj,if_neg hj];exact⟨_,rfl⟩
end
end L2
namespace L2
open PySem.Spec
structure ObjM (h:Heap) (x dx C:Addr) (mA:Str→Option Value):Prop where
 obj:h.get? x=some (zbq2 C dx)
 ns:h.Ns1 dx mA
 ne:dx≠x
theorem zax0 {h:Heap}{dx:Addr}{mA:Str→Option Value} (n:h.Ns1 dx mA):∃od,h.get? dx=some od∧∀name,zbr1 name od=some (mA name):=by
 obtain⟨o,es,ep,ho,hd,hk,_,hm⟩:=n
 refine⟨o,ho,fun name=>?_⟩
 have e:=hm name
 unfold nsFind findBy at e
 rw [← Array.find?_toList]at e
 unfold zbr1
 rw [hd]
 dsimp only
 split
 ·rename_i y q
  rw [q]at e
  exact congrArg some e
 ·rename_i q
  rw [q]at e
  have a:es.toList.any (·.refKey)=false:=by
   rw [List.any_eq_false]
   intro y hy
   obtain⟨z,t,hkey⟩:=hk y (Array.mem_toList_iff.mp hy)
   simp [DictEntry.refKey,hkey]
  have a' : ¬ es.toList.any (·.refKey)=true:=by rw [a];exact zbe5
  rw [if_neg a']
  exact congrArg some e
theorem ObjM.look {h:Heap}{x dx C:Addr}{mA:Str→Option Value} (I:ObjM h x dx C mA):∃od,PySem.W.InstAt h x (zbq2 C dx) C (some od)∧∀name,zbr1 name od=some (mA name) :=
 let ⟨od,ho,hl⟩:=zax0 I.ns
 ⟨od,⟨I.obj,rfl,rfl,ho⟩,hl⟩
section
variable {prog:Program}{w:World}{A:Around}{E:Value→zbe1→Prop}{s:zbe1}{K:zbc5}{x dx C f:Addr}{mA:Str→Option Value}{name:Str}{v:Value}
theorem get_map {expr:Bool}{Q:Value→zbe1→Prop} (X:K.In s.heap) (I:ObjM s.heap x dx C mA) (hg:zbs8 K C name=true) (hh:zbs4 K C=true)
  (ha:zbl5 K (.ref C) name=some none) (hv:mA name=some v) (hv':PySem.W.handedIn v=true) (h:Q v { s with toks:=s.toks+1 }) :
  wpAny (model prog w) A (getAttr (.ref x) name expr) Q E s:=by
 obtain⟨od,J,hl⟩:=I.look
 exact PySem.W.get_value X J (PySem.W.plainGet_of hg).1 (PySem.W.findObj_own hh ha rfl (by rw [hl,hv])) hv' h
end
structure Cls (K:zbc5) (C:Addr):Prop where
 pg:zbs8 K C Str.empty=true
 hd:zbs4 K C=true
 po:PySem.W.plainOver K C=true
 sa:zbl5 K (.ref C) "__setattr__"=some (some (.builtin "object.__setattr__"))
structure Con (K:zbc5) (C:Addr) (f:Str) (v:V) (u:Value):Prop where
 at_:zbl5 K (.ref C) f=some (some u)
 rel:RelV v u
 get:zbs5 K u "__get__"=some none
 cp:PySem.W.copiedNames.contains f=false
structure Meth (K:zbc5) (C:Addr) (m:Str) (f:Addr):Prop where
 at_:zbl5 K (.ref C) m=some (some (.ref f))
 fn:PySem.W.isFn K (.ref f)=true
 kp:zbh3 K (.ref f)=true
section
variable {X:Cx}{pins:List (Addr×Obj)}{σ:St}{H:Hp}{s:zbe1}{A:Around}{E:Value→zbe1→Prop}{Q:Value→zbe1→Prop}{c:Value}{b:Bool}
inductive TyOf (K:zbc5) (H:Hp):V→Value→Prop where
 |non:TyOf K H .non (.type "NoneType")
 |bl (x:Bool):TyOf K H (.bl x) (.type "bool")
 |int (i:Int):TyOf K H (.int i) (.type "int")
 |str (x:Str):TyOf K H (.str x) (.type "str")
 |flt (x:UInt64):TyOf K H (.flt x) (.type "float")
 |lst {a:Addr}{xs:List V} (e:H a=some (.lst xs)):TyOf K H (.ref a) (.type "list")
 |frz {a:Addr}{o:Obj}{xs:List V} (e:H a=some (.frz o (.lst xs))):TyOf K H (.ref a) (.type "list")
 |tup {a:Addr}{xs:List V} (e:H a=some (.tup xs)):TyOf K H (.ref a) (.type "tuple")
 |dK {a:Addr}{kvs:List (Key×V)} (e:H a=some (.dK kvs)):TyOf K H (.ref a) (.type "dict")
 |dT {a:Addr}{kvs:List (List Key×V)} (e:H a=some (.dT kvs)):TyOf K H (.ref a) (.type "dict")
 |ins {a C dx:Addr}{fs:List (Str×V)} (e:H a=some (.ins C dx fs)) (cl:Cls K C) (ha:zbl5 K (.ref C) "__class__"=some (some (.builtin "object.__class__")))
   (hn:zbs5 K (.builtin "object.__class__") "__get__"=some (some (.builtin "getset_descriptor.__get__"))) (htk:PySem.W.takesIn K (.builtin "object.__class__")=some true)
   (hm:PySem.W.mroIn K C (.type "object")=some true):TyOf K H (.ref a) (.ref C)
end
end L2
namespace L2
open PySem.Spec
structure Room (k:Nat) (A:Around):Prop where
 hd:A.handled=none
 dp:A.depth+3*k+5<recursionLimit
 un:A.units+16*k+200<cLine
theorem Room.mono {j k:Nat}{A:Around} (r:Room k A) (h:j≤k):Room j A:=⟨r.hd,by have:=r.dp;lia,by have:=r.un;lia⟩
theorem Room.deeper {k:Nat}{A:Around} (r:Room (k+1) A) (env:Env):Room k (A.deeper env) :=
 ⟨r.hd,by have:=r.dp;show A.depth+1+3*k+5<_;lia,by have:=r.un;show A.units+3+16*k+200<_;lia⟩
theorem Room.in1 {k:Nat}{A:Around} (r:Room (k+1) A):Room k A.in1 :=
 ⟨r.hd,by have:=r.dp;show A.depth+3*k+5<_;lia,by have:=r.un;show A.units+1+16*k+200<_;lia⟩
theorem Room.depth {k:Nat}{A:Around} (r:Room k A):A.depth<recursionLimit:=by have:=r.dp;lia
theorem Room.units {k:Nat}{A:Around} (r:Room k A):A.units+64<cLine:=by have:=r.un;lia
def tNil:TA:=fun _ H Q=>Q [] H
def tCons (ta:TE) (tr:TA):TA:=fun σ H Q=>ta σ H fun x H1=>tr σ H1 fun xs H2=>Q (x::xs) H2
section
variable {X:Cx}{e:Expr}{es:List Expr}{te:TE}{t:TA}{pos:Pos}
theorem zi1:PA X [] tNil:=fun _ _ _ _ H Q I h=>Calls.spliced_nil ⟨[],H,I,.nil,h⟩
theorem zf0 (ha:PE X e te) (hr:PA X es t) (hs:zbe3 (e::es) X.env=(false,eval e X.env)::zbe3 es X.env:=by rfl):PA X (e::es) (tCons te t):=by
 intro pos pins s σ H Q I h
 rw [hs]
 show wpAny _ _ (spliced ((false,eval e X.env)::zbj4 pos (zbe3 es X.env))) _ _ s
 refine Calls.spliced_cons (thn (ha pins s σ H _ I h) fun u s1 ⟨x,H1,I1,r1,q1⟩=>?_)
 exact thn (hr pos pins s1 σ H1 _ I1 q1) fun us s2 ⟨xs,H2,I2,r2,q2⟩=>⟨x::xs,H2,I2,.cons r1 r2,q2⟩
def tTup (t:TA):TE:=fun σ H Q=>t σ H fun xs H1=>xs.length≤sizeLine∧∀p,H1 p=none→Q (.ref p) (upd H1 p (.tup xs))
def tLst (t:TA):TE:=fun σ H Q=>t σ H fun xs H1=>xs.length≤sizeLine∧∀p,H1 p=none→Q (.ref p) (upd H1 p (.lst xs))
theorem zav4 {x1} (h:PA X es t):PE X (.Tuple es x1 pos) (tTup t):=by
 intro pins s σ H Q I hq
 refine wpAny_Tuple_spliced (thn (h pos pins s σ H _ I hq) fun us s1 ⟨xs,H1,I1,r,z,q⟩=>⟨by rw [← r.length];exact z,?_⟩)
 have hf:H1 s1.heap.objs.size=none:=I1.hok.fresh (zbf1 _)
 refine⟨.ref s1.heap.objs.size,upd H1 s1.heap.objs.size (.tup xs),I1.laid (t':=s1.toks) (fun b u e=>zbd5 _ e) (zbf1 _) ?_,rfl,q _ hf⟩
 exact⟨z,us,r,⟨_,zbf7 _ rfl,rfl,_,rfl⟩⟩
theorem pe_lst (h:PA X es t):PE X (.List es pos) (tLst t):=by
 intro pins s σ H Q I hq
 refine wpAny_List_spliced (thn (h pos pins s σ H _ I hq) fun us s1 ⟨xs,H1,I1,r,z,q⟩=>⟨by rw [← r.length];exact z,?_⟩)
 have hf:H1 s1.heap.objs.size=none:=I1.hok.fresh (zbf1 _)
 refine⟨.ref s1.heap.objs.size,upd H1 s1.heap.objs.size (.lst xs),I1.laid (t':=s1.toks) (fun b u e=>zbd5 _ e) (zbf1 _) ?_,rfl,q _ hf⟩
 exact⟨z,us,0,r,zbf7 _ rfl⟩
end
abbrev Sp:=List V→Hp→VK→XK→Prop
abbrev CXT:=List Env→Hp→zbe1→XK→Value→zbe1→Prop
structure Env0 (P:Program) (w:World) (K:zbc5) (mg:Str→Option Value) (base:BHeap) (A:Around) (outer:List Env) (s:zbe1) (H:Hp):Prop where
 frames:A.frames=some outer
 mod:Mod K mg base
 bs:∀b o,base.get? b=some o→s.heap.get? b=some o∧H b=none
 bsz:base.objs.size≤s.heap.objs.size
 funs:s.heap.FunFrames base outer
 frf:∀b∈frs outer,H b=none
 hok:HOk P w H s.heap
 bare:AllBare s.gens
 tabs:∀p∈base.tabs,H p.1=some (.tbl p.2)
noncomputable def CE (outer:List Env) (P:Program) (w:World) (H:Hp) (s:zbe1) (Q:VK) (u:Value) (s':zbe1):Prop :=
 ∃v H',s'.os=s.os∧AllBare s'.gens∧Un (frs outer) [] H H' s.heap s'.heap∧HOk P w H' s'.heap∧RelV v u∧Q v H'
noncomputable def CR (CX:CXT) (outer:List Env) (P:Program) (w:World) (H:Hp) (s:zbe1) (Q:VK) (E:XK) (r:Result) (s':zbe1):Prop :=
 match r with
 |.ok (.ret u)=>CE outer P w H s Q u s'
 |.ok _=>False
 |.error e=>CX outer H s E e s'
structure FnOk (P:Program) (w:World) (K:zbc5) (mg:Str→Option Value) (base:BHeap) (CX:CXT) (k:Nat) (f:Addr) (fd:FuncData) (ps:List Str) (sp:Sp):Prop where
 len:∀vs H Q E,sp vs H Q E→vs.length=ps.length
 run:∀(A:Around) (outer:List Env) (s:zbe1) (H:Hp) (args:Args) (us:List Value) (vs:List V) (Q:VK) (E:XK),Room k A→Env0 P w K mg base A outer s H→BindsTo s fd args (ps.zip us)→Vals vs us→sp vs H Q E →
  codeAny (model P w) A (.call (.ref f) args) (CR CX outer P w H s Q E) s
theorem FnOk.imp {P:Program}{w:World}{K:zbc5}{mg:Str→Option Value}{base:BHeap}{CX:CXT}{k:Nat}{f:Addr}{fd:FuncData}{ps:List Str}{sp sp':Sp} (F:FnOk P w K mg base CX k f fd ps sp)
  (h:∀vs H Q E,sp' vs H Q E→sp vs H Q E):FnOk P w K mg base CX k f fd ps sp' :=
 ⟨fun vs H Q E q=>F.len vs H Q E (h _ _ _ _ q),fun A outer s H args us vs Q E hr he hb hv hs=>F.run A outer s H args us vs Q E hr he hb hv (h _ _ _ _ hs)⟩
section
variable {X:Cx}{pins:List (Addr×Obj)}{σ:St}{H:Hp}{s s':zbe1}
theorem Inv.env0 (I:Inv X pins σ H s):Env0 X.prog X.w X.K X.mg X.base X.A X.stack s H :=
 ⟨I.ok.frames,I.ok.mod,I.bs,zbh8 I.ok.bsz I.sz,I.stack,I.stkFree,I.hok,I.bare,fun p hp=>I.base.tbls _ _ (I.ok.tabs p hp)⟩
theorem Inv.after {Q:VK}{u:Value} (I:Inv X pins σ H s) (h:CE X.stack X.prog X.w H s Q u s'):EP X pins σ Q u s':=by
 obtain⟨v,H',os,bare,un,hok,r,q⟩:=h
 obtain⟨hh,g,d,t,os'⟩:=s'
 obtain rfl:os'=s.os:=os
 exact⟨v,H',I.call (h':=hh) (g':=g) (d':=d) (t':=t) (ch:=[]) un hok bare (fun b z=>absurd z (by simp)),r,q⟩
end
def tCall (sp:Sp) (dvs:List V) (E:XK) (t:TA):TE:=fun σ H Q=>t σ H fun vs H1=>sp (vs++dvs) H1 Q E
noncomputable def Binds (K:zbc5) (fd:FuncData) (ps:List Str) (ds:List Value):Prop :=
 ∀(s:zbe1) (us:List Value),K.In s.heap→(us++ds).length=ps.length→BindsTo s fd ⟨us,[]⟩ (ps.zip (us++ds))
theorem Binds.all {K:zbc5}{fd:FuncData}{ps:List Str} (h:∀us:List Value,us.length=ps.length→bindArgs fd ⟨us,[]⟩=pure (ps.zip us)):Binds K fd ps []:=fun s us _ hl=>by
 rw [zbg7]at hl ⊢
 exact .of_eq (h us hl)
noncomputable def zbc3 (CX:CXT) (X:Cx) (E:XK):Prop := ∀(pins:List (Addr×Obj)) (σ:St) (H:Hp) (s:zbe1) (e:Value) (s':zbe1),Inv X pins σ H s→CX X.stack H s E e s'→X.xe e s'
section
variable {X:Cx}{CX:CXT}{k:Nat}{f C:Addr}{fd:FuncData}{ps:List Str}{sp:Sp}{dvs:List V}{ds:List Value}{E:XK}{x m:Str}{p pos apos:Pos}{e o:Expr}{es:List Expr}{ta:TE}{t:TA}
theorem run_fn {pins:List (Addr×Obj)}{σ:St}{H:Hp}{s:zbe1}{Q:VK}{us:List Value}{vs:List V} (F:FnOk X.prog X.w X.K X.mg X.base CX k f fd ps sp) (hr:Room k X.A) (hb:Binds X.K fd ps ds) (hd:Vals dvs ds) (hx:zbc3 CX X E)
  (I:Inv X pins σ H s) (r:Vals vs us) (h:sp (vs++dvs) H Q E):wpAny (model X.prog X.w) X.A (call (.ref f) us) (EP X pins σ Q) X.xe s:=by
 have r2:Vals (vs++dvs) (us++ds):=r.append hd
 have hl:(us++ds).length=ps.length:=by rw [← r2.length];exact F.len _ _ _ _ h
 refine wpAny_call (codeAny_mono (F.run X.A X.stack s H ⟨us,[]⟩ (us++ds) (vs++dvs) Q E hr I.env0 (hb s us I.kIn hl) r2 h) fun r s' hq=>?_)
 cases r with
 |error e=>exact hx pins σ H s e s' I hq
 |ok fl =>
  cases fl with
  |ret u=>exact I.after hq
  |next=>exact False.elim hq
  |brk=>exact False.elim hq
  |cont=>exact False.elim hq
theorem pe_call (F:FnOk X.prog X.w X.K X.mg X.base CX k f fd ps sp) (hr:Room k X.A) (hg:Gl X x) (hm:X.mg x=some (.ref f)) (hk:zbh3 X.K (.ref f)=true) (hb:Binds X.K fd ps ds) (hd:Vals dvs ds) (hx:zbc3 CX X E)
  (ha:PA X (e::es) t) (hdb:(x ==("__debug__":Str))=false:=by decide) (he:zbe3 (e::es) X.env=(false,eval e X.env)::zbe3 es X.env:=by rfl) (hpl:(zbj4 pos (zbe3 es X.env)).any (·.1)=false:=by rfl) :
  PE X (.Call (.Name x p) (e::es) [] pos) (tCall sp dvs E t):=by
 intro pins s σ H Q I h
 refine wpAny_Call_Name_kw (zax4 I hg hm ?_ hdb)
 refine PySem.W.callWith_K (h₀:=X.base) I.ok.mod.kin hk (thn (ha pos pins s σ H _ I h) fun us s1 ⟨vs,H1,I1,r,q⟩=>⟨I1.kIn,?_⟩) he hpl
 exact run_fn F hr hb hd hx I1 r q
structure Mk (K:zbc5) (C f:Addr):Prop where
 makes:PySem.W.makesIn K C=true
 init:zbl5 K (.ref C) "__init__"=some (some (.ref f))
 fn:PySem.W.isFn K (.ref f)=true
 kp:zbh3 K (.ref C)=true
end
section
variable {X:Cx}{CX:CXT}{k:Nat}{f C:Addr}{fd:FuncData}{ps ks:List Str}{sp:Sp}{E:XK}{x m:Str}{p pos apos kpos:Pos}{e o:Expr}{es:List Expr}{kws:List Keyword}{te ta:TE}{t tk:TA}{nm:Option Str}
structure KBinds (K:zbc5) (fd:FuncData) (ps ks:List Str) (g:List Value→List Value→List Value) (gV:List V→List V→List V):Prop where
 to:∀(s:zbe1) (us ws:List Value),K.In s.heap→(g us ws).length=ps.length→BindsTo s fd ⟨us,ks.zip ws⟩ (ps.zip (g us ws))
 rel:∀ {vs:List V}{us:List Value}{zs:List V}{ws:List Value},Vals vs us→Vals zs ws→Vals (gV vs zs) (g us ws)
variable {g:List Value→List Value→List Value}{gV:List V→List V→List V}
end
structure FnScope (N P:List Str) (sc:Scope):Prop where
 kind:sc.kind=.function
 co:sc.isCoroutine=false
 gen:sc.isGenerator=false
 nd:N.Nodup
 pre:N.take P.length=P
 par:∀x∈P,sc.names.lookup x=some .local∨sc.names.lookup x=some .cell
 nofree:∀y∈sc.names,y.2≠.free
theorem zai4 {kindOf:Str→Option NameKind}{x:Str}:∀ {binds:List (Str×Value)}{m:Str→Option Value},(∀v,(x,v)∉binds)→bindL kindOf binds m x=m x
 |[],_,_=>rfl
 |(n,v)::r,m,h=>by
  unfold bindL
  rw [zai4 fun w hw=>h w (zbc6 _ hw)]
  split
  ·have:x≠n:=by rintro rfl;exact h v zbc9
   simp [this]
  ·rfl
theorem zai6 {kindOf:Str→Option NameKind}{x:Str}:∀ {binds:List (Str×Value)}{m:Str→Option Value},(∀v,(x,v)∉binds)→bindC kindOf binds m x=m x
 |[],_,_=>rfl
 |(n,v)::r,m,h=>by
  unfold bindC
  rw [zai6 fun w hw=>h w (zbc6 _ hw)]
  split
  ·rfl
  ·have:x≠n:=by rintro rfl;exact h v zbc9
   simp [this]
theorem zai5 {kindOf:Str→Option NameKind}{x:Str}{v:Value}:∀ {P:List Str}{vs:List Value}{i:Nat}{m:Str→Option Value},P.Nodup→P[i]?=some x→vs[i]?=some v→kindOf x=some .local →
  bindL kindOf (P.zip vs) m x=some v
 |[],_,_,_,_,h,_,_=>by simp at h
 |_::_,[],_,_,_,_,h,_=>by simp at h
 |p::P,w::vs,0,m,nd,h1,h2,hk=>by
  simp at h1 h2;subst h1;subst h2
  show bindL kindOf ((p,w)::P.zip vs) m p=_
  unfold bindL
  rw [zai4 fun v hv=>(zbe6.mp nd).1 (zbq3 hv).1,if_pos hk]
  simp
 |p::P,w::vs,i+1,m,nd,h1,h2,hk=>by
  show bindL kindOf ((p,w)::P.zip vs) m x=_
  unfold bindL
  exact zai5 (i:=i) (zbe6.mp nd).2 (by simpa using h1) (by simpa using h2) hk
theorem zai7 {kindOf:Str→Option NameKind}{x:Str}{v:Value}:∀ {P:List Str}{vs:List Value}{i:Nat}{m:Str→Option Value},P.Nodup→P[i]?=some x→vs[i]?=some v→kindOf x≠some .local →
  bindC kindOf (P.zip vs) m x=some v
 |[],_,_,_,_,h,_,_=>by simp at h
 |_::_,[],_,_,_,_,h,_=>by simp at h
 |p::P,w::vs,0,m,nd,h1,h2,hk=>by
  simp at h1 h2;subst h1;subst h2
  show bindC kindOf ((p,w)::P.zip vs) m p=_
  unfold bindC
  rw [zai6 fun v hv=>(zbe6.mp nd).1 (zbq3 hv).1,if_neg hk]
  simp
 |p::P,w::vs,i+1,m,nd,h1,h2,hk=>by
  show bindC kindOf ((p,w)::P.zip vs) m x=_
  unfold bindC
  exact zai7 (i:=i) (zbe6.mp nd).2 (by simpa using h1) (by simpa using h2) hk
def start (N:List Str) (vs:List V):St:=vs.map some++zbe8 (N.length - vs.length) none
noncomputable def cxOf (CX:CXT) (P:Program) (w:World) (K:zbc5) (mg:Str→Option Value) (base:BHeap) (N:List Str) (qual:Str) (scope:Scope) (f:Addr) (cd:Value) (A:Around) (outer:List Env) (s:zbe1) (H:Hp) (E:XK):Cx where
 prog:=P
 w:=w
 K:=K
 mg:=mg
 base:=base
 A:=A.deeper (envOfC qual scope s.heap.objs.size f cd)
 N:=N
 s₀:=s
 H₀:=H
 env:=envOfC qual scope s.heap.objs.size f cd
 outer:=outer
 stack:=envOfC qual scope s.heap.objs.size f cd::outer
 ex:=[]
 calm:=true
 fn:=fun _=>true
 pn:=[]
 xe:=fun e s'=>wpAny (model P w) (A.deeper (envOfC qual scope s.heap.objs.size f cd)) (leaving (envOfC qual scope s.heap.objs.size f cd) e) (fun _ s''=>CX outer H s E e s'') (fun e' s''=>CX outer H s E e' s'') s'
theorem zap0 {sc:Scope}{n:Nat}{x:Str} (h:sc.names.lookup x=some .cell):∃c,(cellsFrom n sc.names []).lookup x=some c:=by
 have q:=zbp3 sc.names n [] (.inl h)
 exact zbo4.mp q
theorem zay2 {CX:CXT}{P:Program}{w:World}{K:zbc5}{mg:Str→Option Value}{base:BHeap}{N ps:List Str}{qual:Str}{scope:Scope}{f:Addr}{cd:Value}{A:Around}{outer:List Env}{s s1:zbe1}{H:Hp}{E:XK}{us:List Value}{vs:List V}
  (S:FnScope N ps scope) (hd:A.handled=none) (e0:Env0 P w K mg base A outer s H) (hl:vs.length=ps.length) (r:Vals vs us)
  (x:InCallC s s.heap.objs.size (bindL (envOfC qual scope s.heap.objs.size f cd).kindOf (ps.zip us) fun _=>none) (cellsFrom (s.heap.objs.size+1) scope.names []) (bindC (envOfC qual scope s.heap.objs.size f cd).kindOf (ps.zip us) fun _=>none) s1) :
  Inv (cxOf CX P w K mg base N qual scope f cd A outer s H E) [] (start N vs) H s1:=by
 have hpl:ps.length≤N.length:=by have:=congrArg List.length S.pre;rw [List.length_take]at this;lia
 obtain⟨h1,tk,rfl,hk⟩:=x.done
 have noA:∀b:Addr,b∉(cxOf CX P w K mg base N qual scope f cd A outer s H E).ex:=fun b z=>absurd (show b∈([]:List Addr) from z) (by simp)
 refine⟨⟨e0.mod,S.kind,rfl,rfl,zbf1 _,fun y z c h1 h2=>?_,fun y hy=>?_,fun y c _ h=>?_,fun _=>hd,Around.frames_deeper e0.frames,.inr ⟨rfl,rfl⟩,fun b z=>absurd z (noA b),e0.bs,e0.bsz,fun b _ _=>noA b,fun b z=>absurd z (noA b),e0.funs,e0.frf,e0.tabs⟩,
  rfl,e0.bare,Un.kept hk,⟨_,x.toInCall.ns,fun i y v h1 h2 h3=>?_⟩,fun y c h=>⟨_,x.cell y c h⟩,e0.hok.fresh (zbf1 _),fun y c h=>?_,fun p hp=>absurd (show p∈([]:List (Addr×Obj)) from hp) (by simp),e0.hok.kept hk,?_⟩
 ·exact name_of_addr x.apart (PySem.mem_of_lookup h1) (PySem.mem_of_lookup h2)
 ·have hy:scope.names.lookup y=some .cell∨scope.names.lookup y=some .free:=hy
  rcases hy with hy | hy
  ·exact zap0 hy
  ·exact absurd rfl (S.nofree _ (PySem.mem_of_lookup hy))
 ·exact zbn1 (x.above y c (PySem.mem_of_lookup h))
 ·have hi:i<vs.length:=by
   unfold start at h2
   by_cases hi:i<vs.length
   ·exact hi
   ·rw [zbi7 (by simpa using hi)]at h2
    rw [zbk1]at h2
    split at h2<;>cases h2
  have ha:vs[i]?=some v:=by
   unfold start at h2
   rw [zbj1 (by simpa using hi),zbg0]at h2
   cases e:vs[i]? with
   |none=>rw [e]at h2;cases h2
   |some a=>rw [e]at h2;cases h2;rfl
  obtain⟨u,hu,rv⟩:=r.get ha
  have hp:ps[i]?=some y:=by
   rw [← S.pre,List.getElem?_take_of_lt (by lia)];exact h1
  have ndP:ps.Nodup:=by rw [← S.pre];exact S.nd.sublist (List.take_sublist _ _)
  refine⟨u,rv,?_⟩
  rcases S.par y (zbq6 hp) with k | k
  ·exact .inl ⟨k,zai5 ndP hp hu k⟩
  ·obtain⟨c,e⟩:=zap0 (n:=s.heap.objs.size+1) k
   refine .inr ⟨.inl k,c,e,?_⟩
   have q:=x.cell y c e
   rw [zai7 ndP hp hu (by show scope.names.lookup y≠_;rw [k];decide)]at q
   exact q
 ·exact e0.hok.fresh (zbn1 (x.above y c (PySem.mem_of_lookup h)))
 ·unfold start
  show _=N.length
  rw [zbf0,zbd9,zbk8]
  lia
theorem fn_of {CX:CXT}{P:Program}{w:World}{K:zbc5}{mg:Str→Option Value}{base:BHeap}{k:Nat}{f:Addr}{name qual:Str}{params:Arguments}{body:List Stmt}{scope:Scope}{dV kV doc pm cdv ct oc:Value}{an od:Option Addr}
  {osl:Array (Option Value)}{N ps:List Str}{sp:Sp} (lk:K.lookup f=some ⟨oc,od,.func (zbh9 name qual params body scope dV kV doc pm an cdv ct),osl⟩) (hcd:zbm9 K cdv qual=true) (S:FnScope N ps scope)
  (len:∀vs H Q E,sp vs H Q E→vs.length=ps.length)
  (hbody:∀(A:Around) (outer:List Env) (s:zbe1) (H:Hp) (vs:List V) (Q:VK) (E:XK),Room k (A.deeper (envOfC qual scope s.heap.objs.size f cdv))→sp vs H Q E →
   ∃t,PSs (cxOf CX P w K mg base N qual scope f cdv A outer s H E) body t∧t { nx:=fun _ H'=>Q .non H',rt:=Q } (start N vs) H) :
  FnOk P w K mg base CX (k+1) f (zbh9 name qual params body scope dV kV doc pm an cdv ct) ps sp:=by
 refine⟨len,fun A outer s H args us vs Q E hr e0 hb r hsp=>?_⟩
 have hl:=len _ _ _ _ hsp
 have KX:K.In s.heap:=e0.mod.kin.keeps fun b o e=>(e0.bs b o e).1
 have lim:s.heap.NoLimit:=e0.mod.nolimit.keeps fun b o e=>(e0.bs b o e).1
 have hkind:∀y∈ps.zip us,scope.names.lookup y.1=some .local∨(scope.names.lookup y.1=some .cell∧((cellsFrom (s.heap.objs.size+1) scope.names []).lookup y.1).isSome=true):=fun ⟨n,v⟩ hy=>by
  rcases S.par n (zbq3 hy).1 with q | q
  ·exact .inl q
  ·exact .inr ⟨q,zbp3 _ _ _ (.inl q)⟩
 refine codeAny_call_function hr.depth (KX _ _ lk) rfl S.co S.gen rfl (PySem.W.codeRec_of KX hcd) (hb _ _ _ _ ?_)
 refine wpAny_newFunctionEnv_cells S.kind hkind fun env he s1 x=>?_
 subst he
 refine⟨lim.keeps x.toInCall.keep,codeAny_func ?_⟩
 obtain⟨t,ht,hq⟩:=hbody A outer s H vs Q E (hr.deeper _) hsp
 have I:Inv (cxOf CX P w K mg base N qual scope f cdv A outer s H E) [] (start N vs) H s1:=zay2 S hr.hd e0 hl r x
 refine wpAny_mono (ht [] s1 (start N vs) H _ I hq) (fun fl s' hs=>?_) fun e s' hs=>hs
 have fin:∀ {σ':St}{H':Hp}{v:V}{u:Value},Inv (cxOf CX P w K mg base N qual scope f cdv A outer s H E) [] σ' H' s'→RelV v u→Q v H'→CE outer P w H s Q u s' :=
  fun {σ' H' v u} J rv q=>⟨v,H',J.os,J.bare,J.base,J.hok,rv,q⟩
 cases fl with
 |ret u =>
  obtain⟨v,σ',H',J,rv,q⟩:=hs
  exact fin J rv q
 |next =>
  obtain⟨σ',H',J,q⟩:=hs
  exact fin (v:=V.non) (u:=Value.none) J rfl q
 |brk =>
  obtain⟨_,_,_,q⟩:=hs
  exact False.elim q
 |cont =>
  obtain⟨_,_,_,q⟩:=hs
  exact False.elim q
end L2
namespace L2
open PySem.Spec
section
variable {X:Cx}{x:Str}{p pos:Pos}{e:Expr}{es:List Expr}{t:TA}{id T:String}{r:List V→Hp→VK→Prop}
def tCB (r:List V→Hp→VK→Prop) (t:TA):TE:=fun σ H Q=>t σ H fun vs H1=>r vs H1 Q
theorem pe_callB (hc:zq1 X (.builtin id) r) (hg:Gl X x) (hm:X.mg x=none) (hv:bootBuiltins x=some (.builtin id)) (ha:PA X (e::es) t) (hn:x≠"__name__":=by decide) (hdb:(x ==("__debug__":Str))=false:=by decide)
  (he:zbe3 (e::es) X.env=(false,eval e X.env)::zbe3 es X.env:=by rfl) (hpl:(zbj4 pos (zbe3 es X.env)).any (·.1)=false:=by rfl):PE X (.Call (.Name x p) (e::es) [] pos) (tCB r t):=by
 intro pins s σ H Q I h
 refine wpAny_Call_Name_kw (zo6 I hg hm hv ?_ hn hdb)
 exact PyProof.Rows.callWith_builtin1 (thn (ha pos pins s σ H _ I h) fun us s1 ⟨vs,H1,I1,r1,q1⟩=>hc pins s1 σ H1 vs us Q I1 r1 q1) he hpl
end
end L2
namespace L2
open PySem.Spec
abbrev TO:=St→Hp→(Option Int→Hp→Prop)→Prop
theorem zl4 {ns:List Int}:∀ {us:List Value},Vals (ns.map V.int) us→IntsAre us ns:=by
 induction ns with
 |nil=>intro us r;rw [zbo5]at r;cases r;exact .nil
 |cons n ns ih =>
  intro us r
  rw [zbd7]at r
  cases r with
  |cons r1 r2 =>
   obtain⟨t,e⟩:=r1
   subst e
   exact .cons n t (ih r2)
noncomputable def ixN (n:Nat) (i:Int):Option Nat:=if 0≤i then (if i<n then some i.toNat else none) else if -(n:Int)≤i then some (i+n).toNat else none
def atI {α:Type} (xs:List α) (i:Int):Option α:=(ixN xs.length i).bind fun j=>xs[j]?
theorem zay1 {n:Nat}{i:Int}{j:Nat} (h:ixN n i=some j):seqIndex? i n=some j∧j<n ∧ -(n:Int)≤i∧i<n:=by
 unfold ixN at h
 by_cases h0:0≤i
 ·rw [if_pos h0]at h
  by_cases h1:i<n
  ·rw [if_pos h1]at h
   have e:i.toNat=j:=Option.some.inj h
   exact⟨by rw [seqIndex_of h0 h1,e],by lia,by lia,h1⟩
  ·rw [if_neg h1]at h;cases h
 ·rw [if_neg h0]at h
  by_cases h1 : -(n:Int)≤i
  ·rw [if_pos h1]at h
   have e:(i+n).toNat=j:=Option.some.inj h
   exact⟨by rw [seqIndex_neg (by lia) h1,e],by lia,h1,by lia⟩
  ·rw [if_neg h1]at h;cases h
theorem zbc1 {α:Type}{xs:List α}{i:Int}{v:α} (h:atI xs i=some v):∃j,seqIndex? i xs.length=some j∧xs[j]?=some v∧j<xs.length ∧ -(xs.length:Int)≤i∧i<xs.length:=by
 unfold atI at h
 cases e:ixN xs.length i with
 |none=>rw [e]at h;cases h
 |some j =>
  rw [e]at h
  obtain⟨h1,h2,h3,h4⟩:=zay1 e
  exact⟨j,h1,h,h2,h3,h4⟩
def zal8 (b:Expr):Prop := ∀o i,subscripted b false o i=operate [o,i] (getItem o i)
noncomputable def IxR (X:Cx) (r:R2):Prop :=
 ∀(value slice:Expr) (pins:List (Addr×Obj)) (s:zbe1) (σ:St) (H:Hp) (x y:V) (v u:Value) (Q:VK),Inv X pins σ H s→RelV x v→RelV y u→r x y H Q →
  subscripted slice false v u=operate [v,u] (getItem v u)→wpAny (model X.prog X.w) X.A (subscriptTail value slice v u) (EP X pins σ Q) X.xe s
noncomputable def MtR (X:Cx) (id:String) (r:V→List V→Hp→VK→Prop):Prop :=
 ∀(pins:List (Addr×Obj)) (s:zbe1) (σ:St) (H:Hp) (x:V) (xs:List V) (v:Value) (us:List Value) (Q:VK),Inv X pins σ H s→RelV x v→Vals xs us→r x xs H Q →
  wpAny (model X.prog X.w) X.A (call (.builtin id) (v::us)) (EP X pins σ Q) X.xe s
section
variable {X:Cx}{a b:Expr}{ta tb:TE}{pos:Pos}
theorem IxR.or {r r':R2} (h:IxR X r) (h':IxR X r'):IxR X (fun x y H Q=>r x y H Q∨r' x y H Q):=by
 intro value slice pins s σ H x y v u Q I rx ry q hs
 rcases q with q | q
 ·exact h value slice pins s σ H x y v u Q I rx ry q hs
 ·exact h' value slice pins s σ H x y v u Q I rx ry q hs
theorem pe_ix {r:R2} (hr:IxR X r) (ha:PE X a ta) (hb:PE X b tb) (hs:zal8 b):PE X (.Subscript a b pos) (tOp r ta tb):=by
 intro pins s σ H Q I h
 exact Subscript_ (binT ha hb I h fun v u s2 x y H2 I2 rx ry q=>hr a b pins s2 σ H2 x y v u Q I2 rx ry q (hs _ _))
def rIxL (K:zbc5):R2:=fun x y H Q => ∃p xs i v,x=.ref p∧y=.int i∧SqL K H p xs∧atI xs i=some v∧Q v H
def rIxT (K:zbc5):R2:=fun x y H Q => ∃p xs i v,x=.ref p∧y=.int i∧SqT K H p xs∧atI xs i=some v∧Q v H
theorem ix_list:IxR X (rIxL X.K):=by
 intro value slice pins s σ H x y v u Q I rx ry h hs
 obtain⟨p,xs,i,z,rfl,rfl,hq,he,q⟩:=h
 cases rx
 obtain⟨t,rfl⟩:=ry
 obtain⟨its,r,pl,hz⟩:=I.list hq
 obtain⟨j,h1,h2,h3,h4,h5⟩:=zbc1 he
 obtain⟨w,ew,rw'⟩:=r.get h2
 have hl:=r.length
 have hn:=zao0
 have fin:EP X pins σ Q w s:=⟨z,H,I,rw',q⟩
 by_cases h0:0≤i
 ·have hj:i.toNat=j:=by
   rw [seqIndex_of h0 h5]at h1
   exact Option.some.inj h1
  exact item_listR pl.isList h0 (by lia) (by rw [hj];simpa using ew) fin hs
 ·have hj:(i+(its.toArray.size:Int)).toNat=j:=by
   rw [seqIndex_neg (by lia) h4]at h1
   rw [zbe7, ← hl]
   exact Option.some.inj h1
  exact subscriptTail_builtinR (x:=w) pl.isList.typeIs slot_list_getitem.lookup
   (wpAny_getItem_list_neg (Q:=fun r s'=>r=w∧EP X pins σ Q r s') pl.isList (by lia) (by rw [zbe7]<;>lia) (by lia) (by rw [hj];simpa using ew) ⟨rfl,fin⟩) hs
theorem ix_tup:IxR X (rIxT X.K):=by
 intro value slice pins s σ H x y v u Q I rx ry h hs
 obtain⟨p,xs,i,z,rfl,rfl,hq,he,q⟩:=h
 cases rx
 obtain⟨t,rfl⟩:=ry
 obtain⟨its,r,pl,hz⟩:=I.tuple hq
 obtain⟨j,h1,h2,h3,h4,h5⟩:=zbc1 he
 obtain⟨w,ew,rw'⟩:=r.get h2
 have hl:=r.length
 have hn:=zao0
 have fin:EP X pins σ Q w s:=⟨z,H,I,rw',q⟩
 exact subscriptTail_builtinR (x:=w) pl.typeIs slot_tuple_getitem.lookup
  (getItem_tuple (j:=j) (Q:=fun r s'=>r=w∧EP X pins σ Q r s') pl (by lia) (by lia) (by rw [zbe7, ← hl];exact h1) (by simpa using ew) ⟨rfl,fin⟩) hs
theorem Inv.lst {pins:List (Addr×Obj)}{σ:St}{H:Hp}{s:zbe1}{p:Addr}{xs:List V} (I:Inv X pins σ H s) (h:H p=some (.lst xs)) :
  ∃(its:List Value) (n:Nat),Vals xs its∧s.heap.get? p=some { cls:=.type "list",data:=.seq its.toArray n }∧xs.length≤sizeLine:=by
 obtain⟨z,its,n,r,e⟩:=I.hok p _ h
 exact⟨its,n,r,e,z⟩
def zs4:V→Bool
 |.non=>true
 |.bl _=>true
 |.int _=>true
 |.str _=>true
 |_=>false
noncomputable def eqV:V→V→Bool
 |.non,.non=>true
 |.bl a,.bl b=>a == b
 |.bl a,.int b=>(if a then 1 else 0) == b
 |.int a,.bl b=>a ==(if b then 1 else 0)
 |.int a,.int b=>a == b
 |.str a,.str b=>a == b
 |_,_=>false
theorem zaz0 {A:Around}{s:zbe1}{y x:V}{u v:Value} (ry:RelV y u) (rx:RelV x v) (fy:zs4 y=true) (fx:zs4 x=true):SeqAt.EqAt A s u v (eqV y x):=by
 cases y with
 |non =>
  cases ry
  cases x with
  |non=>cases rx;exact SeqAt.EqAt.same _
  |bl b=>cases rx;exact SeqAt.EqAt.none_bool b
  |int b=>obtain⟨t,rfl⟩:=rx;exact SeqAt.EqAt.none_int b t
  |str b=>obtain⟨t,rfl⟩:=rx;exact SeqAt.EqAt.none_str b t
  |_=>exact absurd (show false=true from fx) zbe5
 |bl a =>
  cases ry
  cases x with
  |non=>cases rx;exact SeqAt.EqAt.bool_none a
  |bl b=>cases rx;exact SeqAt.EqAt.bool_bool a b
  |int b=>obtain⟨t,rfl⟩:=rx;exact SeqAt.EqAt.bool_int a b t
  |str b=>obtain⟨t,rfl⟩:=rx;exact SeqAt.EqAt.bool_str a b t
  |_=>exact absurd (show false=true from fx) zbe5
 |int a =>
  obtain⟨t',rfl⟩:=ry
  cases x with
  |non=>cases rx;exact SeqAt.EqAt.int_none a t'
  |bl b=>cases rx;exact SeqAt.EqAt.int_bool a t' b
  |int b=>obtain⟨t,rfl⟩:=rx;exact SeqAt.EqAt.int_int a t' b t
  |str b=>obtain⟨t,rfl⟩:=rx;exact SeqAt.EqAt.int_str a t' b t
  |_=>exact absurd (show false=true from fx) zbe5
 |str a =>
  obtain⟨t',rfl⟩:=ry
  cases x with
  |non=>cases rx;exact SeqAt.EqAt.str_none a t'
  |bl b=>cases rx;exact SeqAt.EqAt.str_bool a t' b
  |int b=>obtain⟨t,rfl⟩:=rx;exact SeqAt.EqAt.str_int a t' b t
  |str b=>obtain⟨t,rfl⟩:=rx;exact SeqAt.EqAt.str_str a t' b t
  |_=>exact absurd (show false=true from fx) zbe5
 |_=>exact absurd (show false=true from fy) zbe5
noncomputable def eqU (x:V) (u:Value):Bool:=match u with
 |.none=>eqV .non x
 |.bool b=>eqV (.bl b) x
 |.int i _=>eqV (.int i) x
 |.str z _=>eqV (.str z) x
 |_=>false
theorem eqU_of {x y:V}{u:Value} (r:RelV y u) (f:zs4 y=true):eqU x u=eqV y x:=by
 cases y with
 |non=>cases r;rfl
 |bl b=>cases r;rfl
 |int i=>obtain⟨t,rfl⟩:=r;rfl
 |str z=>obtain⟨t,rfl⟩:=r;rfl
 |_=>exact absurd (show false=true from f) zbe5
theorem zal7 {x:V}:∀ {xs:List V}{us:List Value},Vals xs us→xs.all zs4=true→us.any (eqU x)=xs.any fun y=>eqV y x
 |_,_,.nil,_=>rfl
 |y::xs,u::us,.cons r t,f=>by
  rw [zbh0,zbd8]at f
  rw [zbj5,zbj5,eqU_of r f.1,zal7 t f.2]
theorem zac0 {A:Around}{s:zbe1}{x:V}{v:Value} (rx:RelV x v) (fx:zs4 x=true):∀ {xs:List V}{us:List Value},Vals xs us→xs.all zs4=true→∀u∈us,SeqAt.EqAt A s u v (eqU x u)
 |_,_,.nil,_=>fun u hu=>by cases hu
 |y::xs,u::us,.cons r t,f=>fun u' hu=>by
  rw [zbh0,zbd8]at f
  rcases zbd2.mp hu with rfl | hu
  ·rw [eqU_of r f.1];exact zaz0 r rx f.1 fx
  ·exact zac0 rx fx t f.2 u' hu
def inV (x:V) (xs:List V):Bool:=xs.any fun y=>eqV y x
noncomputable def rIn (K:zbc5) (neg:Bool):R2:=fun x y H Q => ∃p xs,y=.ref p∧(SqL K H p xs∨SqT K H p xs)∧zs4 x=true∧xs.all zs4=true∧Q (.bl (if neg then !inV x xs else inV x xs)) H
theorem zt7:OpR X (compareOp .NotIn) (rIn X.K true):=by
 intro pins s σ H x y v u Q I rx ry h
 obtain⟨p,xs,rfl,hq,fx,fs,q⟩:=h
 cases ry
 rcases hq with hq | hq
 ·obtain⟨its,r,pl,hz⟩:=I.list hq
  refine SeqAt.notIn_listAt (eqU x) pl.isList (fun w hw=>zac0 rx fx r fs w (by simpa using hw)) ⟨.bl _,H,I,rfl,?_⟩
  rw [show its.toArray.any (eqU x)=its.any (eqU x) by simp,zal7 r fs]
  exact q
 ·obtain⟨its,r,pl,hz⟩:=I.tuple hq
  refine SeqAt.notIn_tupleAt (eqU x) pl (fun w hw=>zac0 rx fx r fs w (by simpa using hw)) ⟨.bl _,H,I,rfl,?_⟩
  rw [show its.toArray.any (eqU x)=its.any (eqU x) by simp,zal7 r fs]
  exact q
theorem zai3:zq1 X (.builtin "len") (fun xs H Q => ∃p ys,xs=[.ref p]∧(SqL X.K H p ys∨SqT X.K H p ys)∧Q (.int ys.length) H):=by
 intro pins s σ H xs us Q I r h
 obtain⟨p,ys,rfl,hq,q⟩:=h
 obtain⟨u,rfl,rx⟩:=zab0 r
 cases rx
 have hn:=zao0
 rcases hq with hq | hq
 ·obtain⟨its,r',pl,hz⟩:=I.list hq
  have hlen:=r'.length
  exact Calls.call_len_list pl.isList (by simp only [zbe7]<;>lia) ⟨.int ys.length,H,I.tok _,⟨s.toks+1,by rw [zbe7,hlen]⟩,q⟩
 ·obtain⟨its,r',pl,hz⟩:=I.tuple hq
  have hlen:=r'.length
  exact len_tuple pl (by simp only [zbe7]<;>lia) ⟨.int ys.length,H,I.tok _,⟨s.toks+1,by rw [zbe7,hlen]⟩,q⟩
theorem zai2:zq1 X (.type "list") (fun xs H Q => ∃p ys,xs=[.ref p]∧(SqL X.K H p ys∨SqT X.K H p ys)∧∀l,H l=none→Q (.ref l) (upd H l (.lst ys))):=by
 intro pins s σ H xs us Q I r h
 obtain⟨p,ys,rfl,hq,q⟩:=h
 obtain⟨u,rfl,rx⟩:=zab0 r
 cases rx
 have fin:∀(its:List Value),Vals ys its→ys.length≤sizeLine→∀(h':Heap) (c':Nat),(∀b o',s.heap.get? b=some o'→h'.get? b=some o') →
   h'.get? s.heap.objs.size=some { cls:=.type "list",dict:=none,data:=.seq its.toArray c',slots := #[] }→EP X pins σ Q (.ref s.heap.objs.size) { s with heap:=h' }:=fun its r' hz h' c' kp e =>
  ⟨.ref s.heap.objs.size,_,I.laid (t':=s.toks) kp (zbf1 _) (show ObjOk X.prog X.w _ h' _ (.lst ys) from ⟨hz,its,c',r',e⟩),rfl,q _ (I.hok.fresh (zbf1 _))⟩
 rcases hq with hq | hq
 ·obtain⟨its,r',pl,hz⟩:=I.list hq
  have hlen:=r'.length
  obtain⟨o,ho,hc,n,hd⟩:=pl.isList
  exact call_list_seq p (.inl rfl) ho hc hd (fun h' c' kp e=>fin its r' hz h' c' kp e) (by simp only [zbe7]<;>lia)
 ·obtain⟨its,r',pl,hz⟩:=I.tuple hq
  have hlen:=r'.length
  obtain⟨o,ho,hc,n,hd⟩:=pl
  exact call_list_seq p (.inr rfl) ho hc hd (fun h' c' kp e=>fin its r' hz h' c' kp e) (by simp only [zbe7]<;>lia)
noncomputable def tyV (K:zbc5) (T:String) (x:V) (H:Hp):Prop:=match x with
 |.str _=>T = "str"
 |.int _=>T = "int"
 |.ref p=>(T = "list"∧∃xs,SqL K H p xs)∨(T = "tuple"∧∃o,K.lookup p=some o∧o.cls=.type "tuple"∧o.dict=none) ∨
   (T = "dict"∧((∃kvs,H p=some (.dK kvs))∨∃kvs,H p=some (.dT kvs)))∨(T = "set"∧∃S n,H p=some (.set S n))
 |_=>False
theorem tyV_is {pins:List (Addr×Obj)}{σ:St}{H:Hp}{s:zbe1}{T:String}{x:V}{v:Value} (I:Inv X pins σ H s) (r:RelV x v) (ty:tyV X.K T x H) :
  s.TypeIs v T∧∀a,v=.ref a→∃ob,s.heap.get? a=some ob∧ob.dict=none:=by
 cases x with
 |str z =>
  obtain⟨t,rfl⟩:=r
  cases (show T = "str" from ty)
  exact⟨typeIs_str s z t,fun _ e=>nomatch e⟩
 |int i =>
  obtain⟨t,rfl⟩:=r
  cases (show T = "int" from ty)
  exact⟨typeIs_int s i t,fun _ e=>nomatch e⟩
 |ref p =>
  cases r
  rcases ty with ⟨rfl,xs,hq⟩ | ⟨rfl,o,hk,hc,hd⟩ | ⟨rfl,hk⟩ | ⟨rfl,S,n,hk⟩
  ·obtain⟨its,_,pl,_⟩:=I.list hq
   refine⟨pl.isList.typeIs,fun a e=>?_⟩
   cases e
   obtain⟨o,n,e,c,hd,_⟩:=pl
   exact⟨o,e,hd⟩
  ·refine⟨⟨o,I.kIn p o hk,hc⟩,fun a e=>?_⟩
   cases e
   exact⟨o,I.kIn _ o hk,hd⟩
  ·have z:∃o,s.heap.get? p=some o∧o.ExactDict:=by
    rcases hk with ⟨kvs,hk⟩ | ⟨kvs,hk⟩
    ·obtain⟨_,_,_,_,o,_,_,e,ex,_⟩:=I.hok p _ hk
     exact⟨o,e,ex⟩
    ·obtain⟨_,_,_,_,o,_,_,e,ex,_⟩:=I.hok p _ hk
     exact⟨o,e,ex⟩
   obtain⟨o,e,ex⟩:=z
   refine⟨⟨o,e,ex.1⟩,fun a e2=>?_⟩
   cases e2
   exact⟨o,e,ex.2.1⟩
  ·obtain⟨o,_,_,_,e,ex,_⟩:=I.hok p _ hk
   refine⟨⟨o,e,ex.1⟩,fun a e2=>?_⟩
   cases e2
   exact⟨o,e,ex.2.1⟩
 |_=>exact False.elim ty
def tBM0 (K:zbc5) (T:String) (r:V→List V→Hp→VK→Prop) (to:TE):TE:=fun σ H Q=>to σ H fun x H1=>tyV K T x H1∧r x [] H1 Q
noncomputable def tBM (K:zbc5) (T:String) (r:V→List V→Hp→VK→Prop) (to:TE) (t:TA):TE:=fun σ H Q=>to σ H fun x H1=>tyV K T x H1∧t σ H1 fun xs H2=>r x xs H2 Q
variable {o e:Expr}{es:List Expr}{to:TE}{t:TA}{name:Str}{apos cpos:Pos}{T id:String}{r:V→List V→Hp→VK→Prop}
theorem pe_bm0 (pa:PlainAttrs T) (slot:Slot T name id) (hty:typeOf (.builtin id)=pure (.type "method_descriptor")) (hm:MtR X id r) (ho:PE X o to)
  (hbase:attributeBase o name X.env (eval o X.env)=eval o X.env:=by rfl) (hline:(apos.endLine == cpos.line)=true:=by rfl):PE X (.Call (.Attribute o name apos) [] [] cpos) (tBM0 X.K T r to):=by
 intro pins s σ H Q I h
 refine wpAny_Call_method0_late hbase hline (thn (ho pins s σ H _ I h) fun v s1 ⟨x,H1,I1,r1,ty,q1⟩=>?_)
 obtain⟨h1,h2⟩:=tyV_is I1 r1 ty
 exact⟨T,id,pa,slot,hty,h1,h2,Calls.callWith_builtin rfl (PySem.evalArgs_none (hm pins s1 σ H1 x [] v [] Q I1 r1 .nil q1))⟩
theorem zaq2 (pa:PlainAttrs T) (slot:Slot T name id) (hty:typeOf (.builtin id)=pure (.type "method_descriptor")) (hm:MtR X id r) (ho:PE X o to) (ha:PA X (e::es) t)
  (hbase:attributeBase o name X.env (eval o X.env)=eval o X.env:=by rfl)
  (hfew:((zbj4 cpos (zbe3 (e::es) X.env)).all (fun x=>!x.1)&&(backToKw cpos (keywordEach [] X.env)).all (fun x=>x.1.isSome)
   && decide ((e::es).length+([]:List Keyword).length+(if ([]:List Keyword).isEmpty then 0 else 1)<30))=true:=by rfl)
  (hline:(apos.endLine == cpos.line)=true:=by rfl) (hs:zbe3 (e::es) X.env=(false,eval e X.env)::zbe3 es X.env:=by rfl) (hplain:(zbj4 cpos (zbe3 es X.env)).any (·.1)=false:=by rfl) :
  PE X (.Call (.Attribute o name apos) (e::es) [] cpos) (tBM X.K T r to t):=by
 intro pins s σ H Q I h
 refine wpAny_Call_method_late hbase hfew hline rfl (thn (ho pins s σ H _ I h) fun v s1 ⟨x,H1,I1,r1,ty,q1⟩=>?_)
 obtain⟨h1,h2⟩:=tyV_is I1 r1 ty
 refine⟨T,id,pa,slot,hty,h1,h2,?_⟩
 have hA:=ha cpos pins s1 σ H1 _ I1 q1
 rw [hs]at hA ⊢
 refine Calls.callWith_builtin (by show (false||(zbj4 cpos (zbe3 es X.env)).any (·.1))=false;rw [hplain]<;>rfl) (Calls.evalArgs_plain ?_)
 exact thn hA fun us s2 ⟨vs,H2,I2,r2,q2⟩=>hm pins s2 σ H2 x vs v us Q I2 r1 r2 q2
end
end L2
namespace L2
open PySem.Spec
noncomputable def MtM (X:Cx) (id:String) (r:V→List V→Hp→VK→Prop):Prop :=
 ∀(pins:List (Addr×Obj)) (s:zbe1) (σ:St) (H:Hp) (x:V) (xs:List V) (v:Value) (us:List Value) (Q:VK),Inv X pins σ H s→RelV x v→Vals xs us→r x xs H Q →
  wpAny (model X.prog X.w) X.A (call (.builtin id) (v::us)) (EP X pins σ Q) X.xe s
theorem Vals.one:∀ {x:V}{us:List Value},Vals [x] us→∃u,us=[u]∧RelV x u
 |_,_,.cons r .nil=>⟨_,rfl,r⟩
theorem Vals.two:∀ {x y:V}{us:List Value},Vals [x,y] us→∃u v,us=[u,v]∧RelV x u∧RelV y v
 |_,_,_,.cons r (.cons q .nil)=>⟨_,_,rfl,r,q⟩
theorem Vals.zero:∀ {us:List Value},Vals [] us→us=[]
 |_,.nil=>rfl
theorem Vals.dropLast {xs:List V}{us:List Value} (h:Vals xs us):Vals xs.dropLast us.dropLast:=by
 induction h with
 |nil=>exact .nil
 |cons r t ih =>
  cases t with
  |nil=>exact .nil
  |cons q t'=>exact .cons r ih
theorem Vals.eraseIdx:∀ {xs:List V}{us:List Value} (i:Nat),Vals xs us→Vals (xs.eraseIdx i) (us.eraseIdx i)
 |_,_,_,.nil=>.nil
 |_,_,0,.cons _ t=>t
 |_,_,i+1,.cons r t=>.cons r (Vals.eraseIdx i t)
theorem Vals.rep {xs:List V}{us:List Value} (h:Vals xs us):∀k:Nat,Vals (zbe8 k xs).flatten (zbe8 k us).flatten
 |0=>.nil
 |k+1=>by
  rw [zbi3,zbi3,zbm6,zbm6]
  exact Vals.append h (Vals.rep h k)
theorem zaq9 {α:Type} (l:List α):l.eraseIdx (l.length - 1)=l.dropLast:=by
 induction l with
 |nil=>rfl
 |cons a r ih =>
  cases r with
  |nil=>rfl
  |cons b r =>
   have e:(a::b::r).length - 1=((b::r).length - 1)+1:=by
    have h1:(a::b::r).length=r.length+2:=rfl
    have h2:(b::r).length=r.length+1:=rfl
    lia
   rw [e,List.eraseIdx_cons_succ,ih]
   all_goals rfl
theorem zag2 {α:Type}:∀(l:List α) (i:Nat),(l.eraseIdx i).length≤l.length
 |[],_=>zbf1 _
 |_::_,0=>zbr8 _
 |_::r,i+1=>Nat.succ_le_succ (zag2 r i)
theorem zag7 (its:List Value):∀(k:Nat) (acc:List Value),
  zbw7 (fun x1 x2=>x1++x2) acc.toArray (zbe8 k its.toArray)=(acc++(zbe8 k its).flatten).toArray
 |0,acc=>by simp
 |k+1,acc=>by
  have e:acc.toArray++its.toArray=(acc++its).toArray:=by simp
  have e2:(acc++its)++(zbe8 k its).flatten=acc++(zbe8 (k+1) its).flatten:=by
   rw [zbi3,zbm6,zbj9]
  rw [← e2, ← zag7 its k (acc++its), ← e,zbi3,zbn7]
section
variable {X:Cx}{pins:List (Addr×Obj)}{σ:St}{H:Hp}{s:zbe1}{l b:Addr}{xs ys zs:List V}
theorem Inv.lset {its its':List Value}{n:Nat}{f:Array Value→Array Value}{t':Nat} (I:Inv X pins σ H s) (hH:H l=some (.lst xs))
  (e:s.heap.get? l=some { cls:=.type "list",data:=.seq its.toArray n }) (hf:f its.toArray=its'.toArray) (hv:Vals ys its') (hz:ys.length≤sizeLine) :
  Inv X pins σ (upd H l (.lst ys)) { s with heap:=s.heap.update l (Obj.mapSeq f),toks:=t' }:=by
 have q:=PySem.IsL.update e f
 rw [hf]at q
 refine I.write (x:=l) (e:=l) (by rw [hH];exact trivial) (.inl rfl) (fun b' u hb hu=>(zbf9 s.heap (Obj.mapSeq f) (Ne.symm hb)).trans hu) ⟨_,q⟩ ?_
 exact⟨hz,its',_,hv,q⟩
theorem Inv.lnew {its:List Value}{t':Nat} (I:Inv X pins σ H s) (hv:Vals ys its) (hz:ys.length≤sizeLine) :
  Inv X pins σ (upd H s.heap.objs.size (.lst ys)) { s with heap:=s.heap.push { cls:=.type "list",data:=.seq its.toArray },toks:=t' } :=
 I.laid (fun _ _ q=>zbd5 _ q) (zbf1 _) ⟨hz,its,0,hv,zbf7 _ rfl⟩
theorem Inv.fresh (I:Inv X pins σ H s):H s.heap.objs.size=none:=I.hok.fresh (zbf1 _)
theorem Inv.lstM (I:Inv X pins σ H s) (hH:H l=some (.lst xs)):xs.length≤sizeLine∧∃(its:List Value) (n:Nat),Vals xs its∧xs.length=its.length∧s.heap.get? l=some { cls:=.type "list",data:=.seq its.toArray n }:=by
 obtain⟨z,its,n,r,e⟩:=I.hok l _ hH
 exact⟨z,its,n,r,r.length,e⟩
theorem zan6 {n:Nat} (h:n≤sizeLine):Builtin.List.listTooLong n=false:=by
 unfold Builtin.List.listTooLong
 exact decide_eq_false (by lia)
end
section
variable {X:Cx}
noncomputable def rAppend:V→List V→Hp→VK→Prop:=fun x vs H Q => ∃l xs y,x=.ref l∧vs=[y]∧H l=some (.lst xs)∧xs.length<sizeLine∧Q .non (upd H l (.lst (xs++[y])))
theorem zl1:MtM X "list.append" rAppend:=by
 intro pins s σ H x vs v us Q I rx rv h
 obtain⟨l,xs,y,rfl,rfl,hH,hz,q⟩:=h
 cases rx
 obtain⟨u,rfl,ru⟩:=rv.one
 obtain⟨z,its,n,r,hl,e⟩:=I.lstM hH
 refine call_meets F.slot_list_append ⟨_,e,rfl⟩ F.entry_list_append (F.args_list_append_2 _ _) (PySem.list_append l its.toArray n u (by rw [zbe7];lia)) ⟨e,?_⟩
 refine⟨.non,_,I.lset (its':=its++[u]) hH e (by simp) (r.append (.cons ru .nil)) ?_,rfl,q⟩
 rw [zbf0,zbg3]
 lia
noncomputable def rExtend:V→List V→Hp→VK→Prop:=fun x vs H Q => ∃l b xs zs,x=.ref l∧vs=[.ref b]∧H l=some (.lst xs)∧H b=some (.lst zs)∧xs.length+zs.length≤sizeLine∧Q .non (upd H l (.lst (xs++zs)))
theorem zaw6:MtM X "list.extend" rExtend:=by
 intro pins s σ H x vs v us Q I rx rv h
 obtain⟨l,b,xs,zs,rfl,rfl,hH,hB,hz,q⟩:=h
 cases rx
 obtain⟨u,rfl,ru⟩:=rv.one
 cases ru
 obtain⟨z,its,n,r,hl,e⟩:=I.lstM hH
 obtain⟨z2,its2,n2,r2,hl2,e2⟩:=I.lstM hB
 have hsz:its.toArray.size+its2.toArray.size≤sizeLine:=by rw [zbe7,zbe7];lia
 have hlong : ¬ (!its.toArray.isEmpty&&Builtin.List.listTooLong (its.toArray.size+its2.toArray.size))=true:=by
  rw [zan6 hsz,zbr2]
  exact zbe5
 refine call_meets F.slot_list_extend ⟨_,e,rfl⟩ F.entry_list_extend (F.args_list_extend_2 _ _)
  (AutoSeq1.list_extend_list_list_0 l its.toArray n b its2.toArray n2 hlong (by rw [zbe7];lia) (by lia)) ⟨e,e2,?_⟩
 refine⟨.non,_,I.lset (its':=its++its2) hH e (by simp) (r.append r2) ?_,rfl,q⟩
 rw [zbf0]
 lia
noncomputable def rPop:V→List V→Hp→VK→Prop:=fun x vs H Q => ∃l xs y,x=.ref l∧vs=[]∧H l=some (.lst xs)∧xs[xs.length - 1]?=some y∧Q y (upd H l (.lst xs.dropLast))
theorem mt_pop:MtM X "list.pop" rPop:=by
 intro pins s σ H x vs v us Q I rx rv h
 obtain⟨l,xs,y,rfl,rfl,hH,hy,q⟩:=h
 cases rx
 have hus:=rv.zero
 subst hus
 obtain⟨z,its,n,r,hl,e⟩:=I.lstM hH
 obtain⟨u,hu,ru⟩:=r.get hy
 have hy':its.toArray[its.toArray.size - 1]?=some u:=by
  show its.toArray[its.length - 1]?=some u
  rw [← zbp8, ← hl]
  exact hu
 refine call_meets F.slot_list_pop ⟨_,e,rfl⟩ F.entry_list_pop (F.args_list_pop_1 _) (MeetsSeq.list_pop_last l its.toArray n u hy' (by rw [zbe7];lia)) ⟨e,?_⟩
 refine⟨y,_,I.lset (its':=its.dropLast) hH e ?_ r.dropLast ?_,ru,q⟩
 ·show its.toArray.eraseIdxIfInBounds (its.toArray.size - 1)=its.dropLast.toArray
  rw [zbe7,zbj6,zaq9]
 ·rw [List.length_dropLast]
  lia
noncomputable def rPopAt:V→List V→Hp→VK→Prop:=fun x vs H Q => ∃l xs i k y,x=.ref l∧vs=[.int i]∧H l=some (.lst xs) ∧ -(2 ^ 63)≤i∧i<2 ^ 63∧seqIndex? i xs.length=some k∧xs[k]?=some y∧Q y (upd H l (.lst (xs.eraseIdx k)))
theorem mt_popAt:MtM X "list.pop" rPopAt:=by
 intro pins s σ H x vs v us Q I rx rv h
 obtain⟨l,xs,i,k,y,rfl,rfl,hH,h1,h2,hk,hy,q⟩:=h
 cases rx
 obtain⟨u,rfl,ru⟩:=rv.one
 obtain⟨t,rfl⟩:=ru
 obtain⟨z,its,n,r,hl,e⟩:=I.lstM hH
 obtain⟨w,hw,rw'⟩:=r.get hy
 refine call_meets F.slot_list_pop ⟨_,e,rfl⟩ F.entry_list_pop (F.args_list_pop_2 _ _)
  (MeetsSeq.list_pop_at l its.toArray n i t k w (fitsIndex_both h1 h2) (by rw [zbe7, ← hl];exact hk) (by rw [← zbp8];exact hw) (by rw [zbe7];lia)) ⟨e,?_⟩
 refine⟨y,_,I.lset (its':=its.eraseIdx k) hH e ?_ (r.eraseIdx k) ?_,rw',q⟩
 ·show its.toArray.eraseIdxIfInBounds k=(its.eraseIdx k).toArray
  rw [zbj6]
 ·have:=zag2 xs k
  lia
noncomputable def rRep:R2:=fun x y H Q => ∃l k xs,x=.ref l∧y=.int k∧H l=some (.lst xs) ∧ -(2 ^ 63)≤k∧k<2 ^ 63∧xs.length*k.toNat≤sizeLine ∧
 ∀p,H p=none→Q (.ref p) (upd H p (.lst (zbe8 k.toNat xs).flatten))
theorem len_rep {α:Type} (xs:List α) (k:Nat):(zbe8 k xs).flatten.length=k*xs.length:=by
 induction k with
 |zero=>simp
 |succ k ih=>rw [zbi3,zbm6,zbf0,ih,Nat.succ_mul,Nat.add_comm]
theorem op_rep:OpR X (binaryOp .Mult) rRep:=by
 intro pins s σ H x y v u Q I rx ry h
 obtain⟨l,k,xs,rfl,rfl,hH,h1,h2,hz,q⟩:=h
 cases rx
 obtain⟨t,rfl⟩:=ry
 obtain⟨z,its,n,r,hl,e⟩:=I.lstM hH
 have hlen:its.toArray.size*k.toNat≤sizeLine:=by rw [zbe7, ← hl];exact hz
 have hcap : ¬ its.toArray.size*k.toNat >(2 ^ 63 - 1) / 8:=by
  have:(sizeLine:Nat)≤(2 ^ 63 - 1) / 8:=by decide
  lia
 have hfit : ¬ (!Builtin.List.listFitsIndex k)=true:=by
  rw [fitsIndex_both h1 h2]
  exact zbe5
 have hlong : ¬ Builtin.List.listTooLong (its.toArray.size*k.toNat)=true:=by
  rw [zan6 hlen]
  exact zbe5
 have hnew:zbw7 (fun x1 x2=>x1++x2) #[] (zbe8 (if its.toArray.isEmpty=true then 0 else k.toNat) its.toArray)=(zbe8 k.toNat its).flatten.toArray:=by
  have f0:∀m:Nat,zbw7 (fun x1 x2=>x1++x2) #[] (zbe8 m its.toArray)=(zbe8 m its).flatten.toArray:=fun m=>by
   have:=zag7 its m []
   rw [zbk9]at this
   exact this
  rw [f0]
  cases its with
  |nil=>simp
  |cons a r'=>rw [if_neg (by simp)]
 refine wpAny_binaryOp_repeat_ref (T := "list") (U := "int") (by decide) ⟨_,e,rfl⟩ (fun s'=>typeIs_int s' k t) noFill_list_mul F.fills_int_mul F.slot_int_rmul repeat_list F.slot_int_index.lookup
  (call_meets F.slot_int_rmul (typeIs_int s k t) F.entry_int_rmul (F.args_int_rmul_2 _ _) (int___rmul___int_list k t l its.toArray n)
   ⟨e,rfl,⟨_,e,rfl⟩,call_meets F.slot_list_mul ⟨_,e,rfl⟩ F.entry_list_mul (F.args_list_mul_2 _ _) (AutoListH.list___mul___list_int_3 l its.toArray n k t hfit hcap hlong) ⟨e,?_⟩⟩)
 rw [hnew]
 exact⟨.ref _,_,I.lnew (t':=s.toks) (r.rep k.toNat) (by rw [len_rep,Nat.mul_comm];exact hz),rfl,q _ I.fresh⟩
end
end L2
namespace Att
open PySem.W PySem.Calls
theorem zw7 {P:Params}{h:Heap}:∀(ns:List Int) (vs:List Value),WellAll P h vs (ns.map WData.int)→IntsAre vs ns:=by
 intro ns
 induction ns with
 |nil =>
  intro vs w
  rw [zbo5]at w
  cases w
  exact .nil
 |cons n ns ih =>
  intro vs w
  rw [zbd7]at w
  cases w with
  |cons a b =>
   cases a
   exact .cons _ _ (ih _ b)
theorem script_of {l:OpenLaw}{n:Nat} (hn:l.most=some n) {P:Params}{h:Heap}{args:List WData}{vals:List Value}
  (hpre:l.row.toRowW.claim.pre args=true) (hwl:WellAll P h vals args) :
  ∃a vs ns,vals=[Value.ref a]∧args=[WData.list (ns.map WData.int)]∧h.get? a=some { cls:=.type "list",data:=.seq vs.toArray }∧IntsAre vs ns∧ns.length≤n:=by
 have hsh:WShape.hasAll [] args [.list .int]=true:=(pre_splitW hpre).1
 have hc:l.pre.holds [] { args:=args }=true:=(pre_splitW hpre).2
 obtain⟨d,r,rfl,h1,h2⟩:=hasAllW_cons hsh
 obtain rfl:=hasAllW_nil h2
 obtain⟨xs,rfl,h3⟩:=hasW_list h1
 obtain⟨ns,rfl⟩:=items_int h3
 have hlen:ns.length≤n:=by
  unfold OpenLaw.pre at hc
  have h4:(WTm.not (.lt (.lit (.int (n:Int))) (.len (.arg 0)))).holds [] { args:=[.list (ns.map .int)] }=true:=by
   have h4:=(holds_andW hc).1
   rw [hn]at h4
   exact h4
  have h5:=condW_of h4 (w_not (w_lt w_lit (w_len_list (w_arg rfl))))
  rw [zbd9]at h5
  refine Nat.le_of_not_lt fun q=>?_
  have q':(n:Int)<((ns.length:Nat):Int):=by lia
  first
   |(rw [decide_eq_true q']at h5;exact absurd h5 (by decide))
   |(simp at h5;lia)
 cases hwl with
 |cons w1 w2 =>
  cases w2
  cases w1 with
  |list ho hall=>exact⟨_,_,ns,rfl,rfl,ho,zw7 ns _ hall,hlen⟩
theorem post_true (l:OpenLaw) (args:List WData):l.row.toRowW.claim.post args (.bool true) args=true :=
 postW_of (r:=l.row.toRowW) (X:=(true == true))
  (show WShape.has [] (.bool true) .bool=true by first | rfl | decide | simp [WShape.has,WShape.arms,WShape.armsAll])
  (show (WTm.eq .res (.lit (.bool true))).value [] { args:=args,res:=some (.bool true),after:=args }=some (.bool (true == true)) from w_eq_bool (w_res rfl) w_lit) rfl
end Att
namespace L2
open PySem.Spec
theorem zv1:∀ {vs:List Value}{ns:List Int},IntsAre vs ns→Vals (ns.map V.int) vs
 |_,_,.nil=>.nil
 |_,_,.cons n t h=>.cons ⟨t,rfl⟩ (zv1 h)
noncomputable def zj2 (s:Stmt):Arguments:=match s with
 |.FunctionDef _ a _ _ _ _ _ _ _ _=>a
 |_=>{ posonlyargs:=[],args:=[],vararg:=none,kwonlyargs:=[],kw_defaults:=[],kwarg:=none,defaults:=[] }
def zg3 (s:Stmt):List Stmt:=match s with
 |.FunctionDef _ _ b _ _ _ _ _ _ _=>b
 |_=>[]
noncomputable def za9 (s:Stmt):Scope:=match s with
 |.FunctionDef _ _ _ _ _ _ sc _ _ _=>sc
 |_=>{ kind:=.function,names:=[],isGenerator:=false,isCoroutine:=false }
abbrev CX0:CXT:=fun _ _ _ _ _ _=>False
abbrev E0:XK:=fun _ _ _=>False
theorem pass0 {X:Cx}:zbc3 CX0 X E0:=fun _ _ _ _ _ _ _ h=>h.elim
structure Fun (K:zbc5) (x qual:Str) (st:Stmt) (f:Addr) (fd:FuncData):Prop where
 ex:∃(oc:Value) (od:Option Addr) (kV doc pm:Value) (an:Option Addr) (cdv ct:Value) (osl:Array (Option Value)),
  fd=zbh9 x qual (zj2 st) (zg3 st) (za9 st) .none kV doc pm an cdv ct∧K.lookup f=some ⟨oc,od,.func fd,osl⟩∧zbm9 K cdv qual=true
 kp:zbh3 K (.ref f)=true
section
variable {P:Program}{w:World}{K:zbc5}{mg:Str→Option Value}{base:BHeap}
theorem Fun.ok {x qual:Str}{st:Stmt}{f:Addr}{fd:FuncData}{N ps:List Str}{k:Nat}{sp:Sp} (F:Fun K x qual st f fd) (S:FnScope N ps (za9 st)) (len:∀vs H Q E,sp vs H Q E→vs.length=ps.length)
  (hbody:∀(cdv:Value) (A:Around) (outer:List Env) (s:zbe1) (H:Hp) (vs:List V) (Q:VK) (E:XK),Room k (A.deeper (envOfC qual (za9 st) s.heap.objs.size f cdv))→sp vs H Q E →
   ∃t,PSs (cxOf CX0 P w K mg base N qual (za9 st) f cdv A outer s H E).nox (zg3 st) t∧t { nx:=fun _ H'=>Q .non H',rt:=Q } (start N vs) H):FnOk P w K mg base CX0 (k+1) f fd ps sp:=by
 obtain⟨oc,od,kV,doc,pm,an,cdv,ct,osl,rfl,lk,hcd⟩:=F.ex
 refine fn_of lk hcd S len fun A outer s H vs Q E hr hsp=>?_
 obtain⟨t,h,q⟩:=hbody cdv A outer s H vs Q E hr hsp
 exact⟨t,h.nox,q⟩
theorem Fun.binds {x qual:Str}{st:Stmt}{f:Addr}{fd:FuncData}{ps:List Str} (F:Fun K x qual st f fd)
  (h:∀(kV doc pm:Value) (an:Option Addr) (cdv ct:Value) (us:List Value),us.length=ps.length→bindArgs (zbh9 x qual (zj2 st) (zg3 st) (za9 st) .none kV doc pm an cdv ct) ⟨us,[]⟩=pure (ps.zip us)):Binds K fd ps []:=by
 obtain⟨oc,od,kV,doc,pm,an,cdv,ct,osl,rfl,lk,hcd⟩:=F.ex
 exact .all (h kV doc pm an cdv ct)
theorem zay5 {x qual:Str}{st:Stmt}{f:Addr}{oc:Value}{od an:Option Addr}{osl:Array (Option Value)}{kV doc pm cdv ct:Value} (l:K.lookup f=some ⟨oc,od,.func (zbh9 x qual (zj2 st) (zg3 st) (za9 st) .none kV doc pm an cdv ct),osl⟩)
  (c:zbm9 K cdv qual=true) (k:zbh3 K (.ref f)=true):Fun K x qual st f (zbh9 x qual (zj2 st) (zg3 st) (za9 st) .none kV doc pm an cdv ct):=⟨⟨oc,od,kV,doc,pm,an,cdv,ct,osl,rfl,l,c⟩,k⟩
end
theorem iteF {A B:Prop} (h:B):if false=true then A else B:=by
 rw [if_neg zbe5]
 exact h
theorem iteT {A B:Prop} (h:A):if true=true then A else B:=by
 rw [if_pos rfl]
 exact h
def Same (H H':Hp):Prop := ∀b o,H b=some o→H' b=some o
theorem Same.refl (H:Hp):Same H H:=fun _ _ h=>h
theorem Same.trans {H H1 H2:Hp} (a:Same H H1) (b:Same H1 H2):Same H H2:=fun c o h=>b c o (a c o h)
theorem Same.free {H H':Hp} (e:Same H H') {l:Addr} (h:H' l=Option.none):H l=Option.none:=by
 cases q:H l with
 |none=>rfl
 |some o =>
  rw [e l o q]at h
  cases h
theorem Same.seq {K:zbc5}{H H':Hp}{a:Addr}{xs:List V} (e:Same H H') (h:SqL K H a xs):SqL K H' a xs:=by
 rcases h with (h | ⟨o,h⟩) |h
 ·exact .inl (.inl (e _ _ h))
 ·exact .inl (.inr ⟨o,e _ _ h⟩)
 ·exact .inr h
end L2
set_option maxHeartbeats 4000000
namespace L2
open PySem.Spec
section
variable {κ:Type} [DecidableEq κ]
def dropK (kvs:List (κ×V)) (k:κ):List (κ×V):=kvs.filter fun kv=>decide (kv.1≠k)
theorem KV.any {kvs:List (κ×V)}{vs:List (κ×Value)} (r:KV kvs vs) (k:κ):(kvs.any fun kv=>decide (kv.1=k))=vs.any fun kv=>decide (kv.1=k):=by
 unfold KV at r
 induction r with
 |nil=>rfl
 |cons h t ih=>rw [zbj5,zbj5,ih,h.1]
theorem KV.drop {kvs:List (κ×V)}{vs:List (κ×Value)} (r:KV kvs vs) (k:κ):KV (dropK kvs k) (without vs k):=by
 unfold KV at r ⊢
 unfold dropK without
 induction r with
 |nil=>exact .nil
 |@cons p q ps qs h t ih =>
  obtain⟨h1,h2⟩:=h
  rw [zbs9,zbs9]
  by_cases e:p.1=k
  ·have a : ¬ decide (p.1≠k)=true:=by simp [e]
   have b : ¬ decide (q.1≠k)=true:=by simp [h1.symm.trans e]
   rw [if_neg a,if_neg b];exact ih
  ·have e' : ¬ q.1=k:=fun z=>e (h1.trans z)
   have a:decide (p.1≠k)=true:=by simp [e]
   have b:decide (q.1≠k)=true:=by simp [e']
   rw [if_pos a,if_pos b];exact .cons ⟨h1,h2⟩ ih
theorem KV.length {kvs:List (κ×V)}{vs:List (κ×Value)} (r:KV kvs vs):kvs.length=vs.length:=Paired.length r
end
theorem kV_is {P:Program}{w:World}{k:Key}{u:Value} (r:RelV (kV k) u):(zn1 P w).is k u=true:=by
 cases k with
 |inl i=>obtain⟨t,e⟩:=(show ∃t,u=Value.int i t from r);subst e;exact zak5 P w i t
 |inr x=>obtain⟨t,e⟩:=(show ∃t,u=Value.str x t from r);subst e;exact zak4 P w x t
theorem zag4 {P:Program}{w:World}:∀ {ks:List Key}{us:List Value},Vals (ks.map kV) us→ItemsAre (zn1 P w) ks us
 |[],_,r=>by rw [zbo5]at r;cases r;exact .nil
 |k::ks,_,r=>by
  rw [zbd7]at r
  cases r with
  |cons h t=>exact .cons (kV_is h) (zag4 t)
noncomputable abbrev KT (H:Hp):List (List Key×V)→List (List Key×Addr×Value)→Prop:=Paired fun p q=>p.1=q.1∧H q.2.1=some (.tup (p.1.map kV))∧RelV p.2 q.2.2
section
variable {P:Program}{w:World}{H:Hp}{h:Heap}{a:Addr}
theorem key_of {ks:List Key} (ok:HOk P w H h) (e:H a=some (.tup (ks.map kV))):(tupleKind (zn1 P w)).is h ks a:=by
 obtain⟨_,its,r,o,h1,h2,n,h3⟩:=(show ObjOk P w H h a (.tup (ks.map kV)) from ok a _ e)
 exact⟨o,its.toArray,n,h1,h2,h3,by simpa using zag4 r⟩
end
structure M1 (X:Cx) (o:Expr) (m:Str) (apos:Pos) (e:Expr) (cpos:Pos):Prop where
 base:attributeBase o m X.env (eval o X.env)=eval o X.env
 few:((zbj4 cpos (zbe3 [e] X.env)).all (fun x=>!x.1)&&(backToKw cpos (keywordEach [] X.env)).all (fun x=>x.1.isSome)
  && decide (([e]:List Expr).length+([]:List Keyword).length+(if ([]:List Keyword).isEmpty then 0 else 1)<30))=true
 line:(apos.endLine == cpos.line)=true
 trees:zbj4 cpos (zbe3 [e] X.env)=[(false,eval e X.env)]
structure M2 (X:Cx) (o:Expr) (m:Str) (apos:Pos) (e f:Expr) (cpos:Pos):Prop where
 base:attributeBase o m X.env (eval o X.env)=eval o X.env
 few:((zbj4 cpos (zbe3 [e,f] X.env)).all (fun x=>!x.1)&&(backToKw cpos (keywordEach [] X.env)).all (fun x=>x.1.isSome)
  && decide (([e,f]:List Expr).length+([]:List Keyword).length+(if ([]:List Keyword).isEmpty then 0 else 1)<30))=true
 line:(apos.endLine == cpos.line)=true
 trees:zbj4 cpos (zbe3 [e,f] X.env)=[(false,eval e X.env),(false,eval f X.env)]
end L2
namespace DL
open PySem.Spec L2
inductive D where
 |non | bl (b:Bool) |int (i:Int) |str (x:Str) |tup (xs:List D) |lst (xs:List D) |dct (ks:List Key) (ds:List D) |pdc (ps:List (Int×Int))
def mkKV (ks:List Key) (vs:List V):List (Key×V):=ks.zip vs
def pkv (ps:List (Int×Int)):List (List Key×V):=ps.map fun q=>([Sum.inl q.1,Sum.inl q.2],V.bl true)
mutual
inductive Rep (K:zbc5) (H:Hp):D→V→Prop
 |non:Rep K H .non .non
 |bl (b:Bool):Rep K H (.bl b) (.bl b)
 |int (i:Int):Rep K H (.int i) (.int i)
 |str (x:Str):Rep K H (.str x) (.str x)
 |tup {ds:List D}{p:Addr}{vs:List V}:SqT K H p vs→Reps K H ds vs→Rep K H (.tup ds) (.ref p)
 |lst {ds:List D}{p:Addr}{vs:List V}:SqL K H p vs→Reps K H ds vs→Rep K H (.lst ds) (.ref p)
 |dct {ks:List Key}{ds:List D}{p:Addr}{vs:List V}:ks.length=vs.length→H p=some (.dK (mkKV ks vs))→Reps K H ds vs→Rep K H (.dct ks ds) (.ref p)
 |pdc {ps:List (Int×Int)}{p:Addr}:H p=some (.dT (pkv ps))→Rep K H (.pdc ps) (.ref p)
inductive Reps (K:zbc5) (H:Hp):List D→List V→Prop
 |nil:Reps K H [] []
 |cons {d:D}{v:V}{ds:List D}{vs:List V}:Rep K H d v→Reps K H ds vs→Reps K H (d::ds) (v::vs)
end
theorem SqL.mono {K:zbc5}{H H':Hp}{a:Addr}{xs:List V} (e:Same H H') (h:SqL K H a xs):SqL K H' a xs:=e.seq h
theorem SqT.mono {K:zbc5}{H H':Hp}{a:Addr}{xs:List V} (e:Same H H') (h:SqT K H a xs):SqT K H' a xs:=by
 rcases h with (h | ⟨o,h⟩) |h
 ·exact .inl (.inl (e _ _ h))
 ·exact .inl (.inr ⟨o,e _ _ h⟩)
 ·exact .inr h
mutual
theorem Rep.mono {K:zbc5}{H H':Hp} (e:Same H H'):∀ {d:D}{v:V},Rep K H d v→Rep K H' d v
 |_,_,.non=>.non
 |_,_,.bl b=>.bl b
 |_,_,.int i=>.int i
 |_,_,.str x=>.str x
 |_,_,.tup h r=>.tup (SqT.mono e h) (Reps.mono e r)
 |_,_,.lst h r=>.lst (SqL.mono e h) (Reps.mono e r)
 |_,_,.dct l h r=>.dct l (e _ _ h) (Reps.mono e r)
 |_,_,.pdc h=>.pdc (e _ _ h)
theorem Reps.mono {K:zbc5}{H H':Hp} (e:Same H H'):∀ {ds:List D}{vs:List V},Reps K H ds vs→Reps K H' ds vs
 |_,_,.nil=>.nil
 |_,_,.cons h r=>.cons (Rep.mono e h) (Reps.mono e r)
end
theorem Reps.length {K:zbc5}{H:Hp}:∀ {ds:List D}{vs:List V},Reps K H ds vs→vs.length=ds.length
 |_,_,.nil=>rfl
 |_,_,.cons _ r=>by simp [Reps.length r]
theorem Reps.get {K:zbc5}{H:Hp}:∀ {ds:List D}{vs:List V},Reps K H ds vs→∀ {i:Nat}{d:D},ds[i]?=some d→∃v,vs[i]?=some v∧Rep K H d v
 |_,_,.nil,i,d,e=>by simp at e
 |_,_,.cons (v:=v) h r,0,d,e=>by simp at e;subst e;exact⟨v,rfl,h⟩
 |_,_,.cons h r,i+1,d,e=>by
  obtain⟨v,a,b⟩:=Reps.get r (i:=i) (d:=d) (by simpa using e)
  exact⟨v,by simpa using a,b⟩
theorem Reps.getV {K:zbc5}{H:Hp}:∀ {ds:List D}{vs:List V},Reps K H ds vs→∀ {i:Nat}{v:V},vs[i]?=some v→∃d,ds[i]?=some d∧Rep K H d v
 |_,_,.nil,i,d,e=>by simp at e
 |_,_,.cons (d:=d) h r,0,v,e=>by simp at e;subst e;exact⟨d,rfl,h⟩
 |_,_,.cons h r,i+1,v,e=>by
  obtain⟨d,a,b⟩:=Reps.getV r (i:=i) (v:=v) (by simpa using e)
  exact⟨d,by simpa using a,b⟩
theorem Reps.app {K:zbc5}{H:Hp}:∀ {ds:List D}{vs:List V}{es:List D}{us:List V},Reps K H ds vs→Reps K H es us→Reps K H (ds++es) (vs++us)
 |_,_,_,_,.nil,r=>r
 |_,_,_,_,.cons h r,q=>.cons h (Reps.app r q)
theorem Reps.set {K:zbc5}{H:Hp}{d:D}{v:V} (h:Rep K H d v):∀ {ds:List D}{vs:List V} (i:Nat),Reps K H ds vs→Reps K H (ds.set i d) (vs.set i v)
 |_,_,_,.nil=>.nil
 |_,_,0,.cons _ r=>.cons h r
 |_,_,i+1,.cons q r=>.cons q (Reps.set h i r)
theorem Reps.take {K:zbc5}{H:Hp}:∀ {ds:List D}{vs:List V} (n:Nat),Reps K H ds vs→Reps K H (ds.take n) (vs.take n)
 |_,_,0,_=>by simp;exact .nil
 |_,_,n+1,.nil=>by simp;exact .nil
 |_,_,n+1,.cons h r=>by simpa using .cons h (Reps.take n r)
theorem Reps.drop {K:zbc5}{H:Hp}:∀ {ds:List D}{vs:List V} (n:Nat),Reps K H ds vs→Reps K H (ds.drop n) (vs.drop n)
 |_,_,0,r=>by simpa using r
 |_,_,n+1,.nil=>by simp;exact .nil
 |_,_,n+1,.cons h r=>by simpa using Reps.drop n r
theorem Reps.one {K:zbc5}{H:Hp}{d:D}{v:V} (h:Rep K H d v):Reps K H [d] [v]:=.cons h .nil
theorem Reps.ints {K:zbc5}{H:Hp}:∀ns:List Int,Reps K H (ns.map D.int) (ns.map V.int)
 |[]=>.nil
 |n::ns=>.cons (.int n) (Reps.ints ns)
mutual
def flat:D→Bool
 |.lst _=>false
 |.dct _ _=>false
 |.pdc _=>false
 |.tup xs=>flats xs
 |_=>true
def flats:List D→Bool
 |[]=>true
 |d::ds=>flat d&&flats ds
end
def hide (P:List Addr) (H:Hp):Hp:=fun a=>if a∈P then none else H a
theorem zb0 (P:List Addr) (H:Hp):Same (hide P H) H:=fun b o e=>by
 unfold hide at e
 split at e
 ·cases e
 ·exact e
theorem zb9 {P:List Addr}{H:Hp}{a:Addr}{o:HO} (h:H a=some o) (n:a∉P):hide P H a=some o:=by
 unfold hide;rw [if_neg n];exact h
theorem zg2 {P:List Addr}{H:Hp}{a:Addr}{o:HO} (h:hide P H a=some o):a∉P∧H a=some o:=by
 unfold hide at h
 split at h
 ·cases h
 ·exact⟨by assumption,h⟩
theorem hide_nil (H:Hp):hide [] H=H:=by funext a;simp [hide]
theorem za7 {P P':List Addr} (H:Hp) (h:∀a∈P',a∈P):Same (hide P H) (hide P' H):=fun b o e=>by
 obtain⟨n,e⟩:=zg2 e
 exact zb9 e fun z=>n (h b z)
def mutO:HO→Bool
 |.lst _=>true
 |.dK _=>true
 |.dT _=>true
 |_=>false
abbrev MO:={o:HO // mutO o=true}
def mL (vs:List V):MO:=⟨.lst vs,rfl⟩
def mD (kvs:List (Key×V)):MO:=⟨.dK kvs,rfl⟩
def mT (kvs:List (List Key×V)):MO:=⟨.dT kvs,rfl⟩
def Lists (H:Hp) (P:List Addr):Prop := ∀p∈P,∃o:MO,H p=some o.1
theorem Lists.mono {H H':Hp}{P:List Addr} (h:Lists H P) (e:Same H H'):Lists H' P:=fun p hp=>let ⟨vs,q⟩:=h p hp;⟨vs,e _ _ q⟩
theorem SqT.hid {K:zbc5}{H:Hp}{P:List Addr}{a:Addr}{xs:List V} (m:Lists H P) (h:SqT K H a xs):SqT K (hide P H) a xs:=by
 rcases h with (h | ⟨o,h⟩) |h
 ·exact .inl (.inl (zb9 h fun z=>by obtain⟨⟨vs,w⟩,q⟩:=m _ z;rw [q]at h;cases h;cases w))
 ·exact .inl (.inr ⟨o,zb9 h fun z=>by obtain⟨⟨vs,w⟩,q⟩:=m _ z;rw [q]at h;cases h;cases w⟩)
 ·exact .inr h
mutual
theorem Rep.hid {K:zbc5}{H:Hp}{P:List Addr} (m:Lists H P):∀ {d:D}{v:V},flat d=true→Rep K H d v→Rep K (hide P H) d v
 |_,_,_,.non=>.non
 |_,_,_,.bl b=>.bl b
 |_,_,_,.int i=>.int i
 |_,_,_,.str x=>.str x
 |_,_,f,.tup h r=>.tup (SqT.hid m h) (Reps.hid m (by simpa [flat] using f) r)
 |_,_,f,.lst h r=>by simp [flat]at f
 |_,_,f,.dct _ h r=>by simp [flat]at f
 |_,_,f,.pdc h=>by simp [flat]at f
theorem Reps.hid {K:zbc5}{H:Hp}{P:List Addr} (m:Lists H P):∀ {ds:List D}{vs:List V},flats ds=true→Reps K H ds vs→Reps K (hide P H) ds vs
 |_,_,_,.nil=>.nil
 |_,_,f,.cons h r=>by
  simp [flats]at f
  exact .cons (Rep.hid m f.1 h) (Reps.hid m f.2 r)
end
mutual
inductive RepD (K:zbc5) (H0 H:Hp):D→V→List Addr→Prop
 |flat {d:D}{v:V}:flat d=true→Rep K H0 d v→RepD K H0 H d v []
 |tup {ds:List D}{p:Addr}{vs:List V}{B:List Addr}:SqT K H0 p vs→RepDs K H0 H ds vs B→RepD K H0 H (.tup ds) (.ref p) B
 |lst {ds:List D}{p:Addr}{vs:List V}{B:List Addr}:H p=some (.lst vs)→RepDs K H0 H ds vs B→RepD K H0 H (.lst ds) (.ref p) (p::B)
 |dct {ks:List Key}{ds:List D}{p:Addr}{vs:List V}{B:List Addr}:ks.length=vs.length→H p=some (.dK (mkKV ks vs))→RepDs K H0 H ds vs B→RepD K H0 H (.dct ks ds) (.ref p) (p::B)
 |pdc {ps:List (Int×Int)}{p:Addr}:H p=some (.dT (pkv ps))→RepD K H0 H (.pdc ps) (.ref p) [p]
inductive RepDs (K:zbc5) (H0 H:Hp):List D→List V→List Addr→Prop
 |nil:RepDs K H0 H [] [] []
 |cons {d:D}{v:V}{ds:List D}{vs:List V}{B C:List Addr}:RepD K H0 H d v B→RepDs K H0 H ds vs C→RepDs K H0 H (d::ds) (v::vs) (B++C)
end
mutual
theorem RepD.mono {K:zbc5}{H0 H H0' H':Hp} (e:Same H0 H0'):∀ {d:D}{v:V}{B:List Addr},RepD K H0 H d v B→(∀p∈B,∀o,H p=some o→H' p=some o)→RepD K H0' H' d v B
 |_,_,_,.flat f r,_=>.flat f (Rep.mono e r)
 |_,_,_,.tup h r,k=>.tup (SqT.mono e h) (RepDs.mono e r k)
 |_,_,_,.lst h r,k=>.lst (k _ (zbc9 ..) _ h) (RepDs.mono e r fun p hp=>k p (zbc6 _ hp))
 |_,_,_,.dct l h r,k=>.dct l (k _ (zbc9 ..) _ h) (RepDs.mono e r fun p hp=>k p (zbc6 _ hp))
 |_,_,_,.pdc h,k=>.pdc (k _ (zbc9 ..) _ h)
theorem RepDs.mono {K:zbc5}{H0 H H0' H':Hp} (e:Same H0 H0'):∀ {ds:List D}{vs:List V}{B:List Addr},RepDs K H0 H ds vs B→(∀p∈B,∀o,H p=some o→H' p=some o)→RepDs K H0' H' ds vs B
 |_,_,_,.nil,_=>.nil
 |_,_,_,.cons h r,k=>.cons (RepD.mono e h fun p hp=>k p (zbc7 _ hp)) (RepDs.mono e r fun p hp=>k p (zbc4 _ hp))
end
mutual
theorem RepD.rep {K:zbc5}{H0 H H1:Hp} (e:Same H0 H1):∀ {d:D}{v:V}{B:List Addr},RepD K H0 H d v B→(∀p∈B,∀o,H p=some o→H1 p=some o)→Rep K H1 d v
 |_,_,_,.flat f r,_=>Rep.mono e r
 |_,_,_,.tup h r,k=>.tup (SqT.mono e h) (RepDs.rep e r k)
 |_,_,_,.lst h r,k=>.lst (SqL.of (k _ (zbc9 ..) _ h)) (RepDs.rep e r fun p hp=>k p (zbc6 _ hp))
 |_,_,_,.dct l h r,k=>.dct l (k _ (zbc9 ..) _ h) (RepDs.rep e r fun p hp=>k p (zbc6 _ hp))
 |_,_,_,.pdc h,k=>.pdc (k _ (zbc9 ..) _ h)
theorem RepDs.rep {K:zbc5}{H0 H H1:Hp} (e:Same H0 H1):∀ {ds:List D}{vs:List V}{B:List Addr},RepDs K H0 H ds vs B→(∀p∈B,∀o,H p=some o→H1 p=some o)→Reps K H1 ds vs
 |_,_,_,.nil,_=>.nil
 |_,_,_,.cons h r,k=>.cons (RepD.rep e h fun p hp=>k p (zbc7 _ hp)) (RepDs.rep e r fun p hp=>k p (zbc4 _ hp))
end
mutual
theorem RepD.lists {K:zbc5}{H0 H:Hp}:∀ {d:D}{v:V}{B:List Addr},RepD K H0 H d v B→Lists H B
 |_,_,_,.flat f r=>fun p hp=>by cases hp
 |_,_,_,.tup h r=>RepDs.lists r
 |_,_,_,.lst h r=>fun p hp=>by
  rcases zbd2.mp hp with rfl | hp
  ·exact⟨mL _,h⟩
  ·exact RepDs.lists r p hp
 |_,_,_,.dct _ h r=>fun p hp=>by
  rcases zbd2.mp hp with rfl | hp
  ·exact⟨mD _,h⟩
  ·exact RepDs.lists r p hp
 |_,_,_,.pdc h=>fun p hp=>by
  rw [zbd3]at hp
  subst hp
  exact⟨mT _,h⟩
theorem RepDs.lists {K:zbc5}{H0 H:Hp}:∀ {ds:List D}{vs:List V}{B:List Addr},RepDs K H0 H ds vs B→Lists H B
 |_,_,_,.nil=>fun p hp=>by cases hp
 |_,_,_,.cons h r=>fun p hp=>(zbd0.mp hp).elim (RepD.lists h p) (RepDs.lists r p)
end
mutual
theorem RepD.hid {K:zbc5}{H0 H:Hp}{P:List Addr} (m:Lists H P) (e:Same H0 H):∀ {d:D}{v:V}{B:List Addr},RepD K H0 H d v B→RepD K (hide P H) H d v B
 |_,_,_,.flat f r=>.flat f (Rep.hid m f (Rep.mono e r))
 |_,_,_,.tup h r=>.tup (SqT.hid m (SqT.mono e h)) (RepDs.hid m e r)
 |_,_,_,.lst h r=>.lst h (RepDs.hid m e r)
 |_,_,_,.dct l h r=>.dct l h (RepDs.hid m e r)
 |_,_,_,.pdc h=>.pdc h
theorem RepDs.hid {K:zbc5}{H0 H:Hp}{P:List Addr} (m:Lists H P) (e:Same H0 H):∀ {ds:List D}{vs:List V}{B:List Addr},RepDs K H0 H ds vs B→RepDs K (hide P H) H ds vs B
 |_,_,_,.nil=>.nil
 |_,_,_,.cons h r=>.cons (RepD.hid m e h) (RepDs.hid m e r)
end
theorem RepDs.of_flat {K:zbc5}{H0 H:Hp}:∀ {ds:List D}{vs:List V},flats ds=true→Reps K H0 ds vs→RepDs K H0 H ds vs []
 |_,_,_,.nil=>.nil
 |_,_,f,.cons h r=>by
  simp [flats]at f
  exact .cons (B:=[]) (C:=[]) (.flat f.1 h) (RepDs.of_flat f.2 r)
theorem Lists.app {H:Hp}{P Q:List Addr} (h:Lists H P) (k:Lists H Q):Lists H (P++Q):=fun p hp=>(zbd0.mp hp).elim (h p) (k p)
inductive Ev where
 |cl (d:D) |tm (d:D) |nw (xs:List D) |dn (d:D)
def Ev.d:Ev→D
 |.cl d=>d
 |.tm d=>d
 |.nw xs=>.lst xs
 |.dn d=>d
noncomputable def RepEv (K:zbc5) (F A:List Addr) (H H':Hp):Ev→V→Prop
 |.cl d,v=>Rep K (hide (A++F) H') d v
 |.tm d,v=>Rep K (hide F H') d v
 |.nw xs,v => ∃p vs,v=.ref p∧H p=none∧H' p=some (.lst vs)∧Reps K (hide (p ::(A++F)) H') xs vs
 |.dn d,v => ∃B,B.Nodup∧(∀b∈B,H b=none)∧RepD K (hide (B++(A++F)) H') H' d v B
theorem za6 {P:List Addr}{H H':Hp} (e:Same H H'):Same (hide P H) (hide P H'):=fun b o h=>by
 obtain⟨n,h⟩:=zg2 h
 exact zb9 (e _ _ h) n
theorem RepEv.mono {K:zbc5}{F A:List Addr}{H H1 H2:Hp}{r:Ev}{v:V} (h:RepEv K F A H H1 r v) (e:Same H1 H2):RepEv K F A H H2 r v:=by
 cases r with
 |cl d=>exact Rep.mono (za6 e) h
 |tm d=>exact Rep.mono (za6 e) h
 |nw xs =>
  obtain⟨p,vs,rfl,h1,h2,h3⟩:=h
  exact⟨p,vs,rfl,h1,e _ _ h2,Reps.mono (za6 e) h3⟩
 |dn d =>
  obtain⟨B,h1,h2,h3⟩:=h
  exact⟨B,h1,h2,RepD.mono (za6 e) h3 fun p _ o q=>e _ _ q⟩
theorem RepEv.back {K:zbc5}{F A:List Addr}{H0 H H1:Hp}{r:Ev}{v:V} (h:RepEv K F A H H1 r v) (e:Same H0 H):RepEv K F A H0 H1 r v:=by
 cases r with
 |cl d=>exact h
 |tm d=>exact h
 |nw xs =>
  obtain⟨p,vs,rfl,h1,h2,h3⟩:=h
  refine⟨p,vs,rfl,?_,h2,h3⟩
  cases q:H0 p with
  |none=>rfl
  |some o=>rw [e _ _ q]at h1;cases h1
 |dn d =>
  obtain⟨B,h1,h2,h3⟩:=h
  exact⟨B,h1,fun b hb=>Same.free e (h2 b hb),h3⟩
theorem RepEv.full {K:zbc5}{F A:List Addr}{H H':Hp}{r:Ev}{v:V} (h:RepEv K F A H H' r v):Rep K H' r.d v:=by
 cases r with
 |cl d=>exact Rep.mono (zb0 _ _) h
 |tm d=>exact Rep.mono (zb0 _ _) h
 |nw xs =>
  obtain⟨p,vs,rfl,h1,h2,h3⟩:=h
  exact .lst (SqL.of h2) (Reps.mono (zb0 _ _) h3)
 |dn d =>
  obtain⟨B,h1,h2,h3⟩:=h
  exact h3.rep (zb0 _ _) fun _ _ _ q=>q
theorem zc4 {H:Hp}{P:List Addr}{p:Addr} (m:Lists H P) (h:H p=none):p∉P:=fun z=>by
 obtain⟨vs,q⟩:=m _ z
 rw [q]at h;cases h
theorem RepEv.cleanF {K:zbc5}{F A:List Addr}{H H':Hp}{r:Ev}{v:V} (m:Lists H (A++F)) (h:RepEv K F A H H' r v):Rep K (hide F H') r.d v:=by
 cases r with
 |cl d=>exact Rep.mono (za7 H' fun a z=>zbc4 _ z) h
 |tm d=>exact h
 |nw xs =>
  obtain⟨p,vs,rfl,h1,h2,h3⟩:=h
  have n:p∉F:=fun z=>zc4 m h1 (zbc4 _ z)
  exact .lst (SqL.of (zb9 h2 n)) (Reps.mono (za7 H' fun a z=>zbc6 _ (zbc4 _ z)) h3)
 |dn d =>
  obtain⟨B,h1,h2,h3⟩:=h
  refine h3.rep (za7 H' fun a z=>zbc4 _ (zbc4 _ z)) fun b hb o q=>zb9 q fun z=>?_
  exact zc4 m (h2 b hb) (zbc4 _ z)
def Ev.ok:Ev→Bool
 |.cl _=>true
 |.tm d=>flat d
 |.nw _=>true
 |.dn _=>true
theorem RepEv.clean {K:zbc5}{F A:List Addr}{H H':Hp}{r:Ev}{v:V} (m:Lists H (A++F)) (e:Same H H') (h:RepEv K F A H H' r v) (c:r.ok=true):Rep K (hide (A++F) H') r.d v:=by
 cases r with
 |cl d=>exact h
 |tm d =>
  have m':Lists H' (A++F):=m.mono e
  exact Rep.hid m' c (Rep.mono (zb0 _ _) h)
 |nw xs =>
  obtain⟨p,vs,rfl,h1,h2,h3⟩:=h
  have n:p∉A++F:=zc4 m h1
  exact .lst (SqL.of (zb9 h2 n)) (Reps.mono (za7 H' fun a z=>zbc6 _ z) h3)
 |dn d =>
  obtain⟨B,h1,h2,h3⟩:=h
  exact h3.rep (za7 H' fun a z=>zbc4 _ z) fun b hb o q=>zb9 q fun z=>zc4 m (h2 b hb) z
inductive Sl where
 |no | val (d:D) |own (xs:List D) |dp (d:D)
abbrev Th:=List Sl
inductive RSl (K:zbc5) (H0 H:Hp):Th→L2.St→List Addr→Prop
 |nil:RSl K H0 H [] [] []
 |no {x:Option V}{t:Th}{σ:L2.St}{A:List Addr}:RSl K H0 H t σ A→RSl K H0 H (.no::t) (x::σ) A
 |val {d:D}{v:V}{t:Th}{σ:L2.St}{A:List Addr}:Rep K H0 d v→RSl K H0 H t σ A→RSl K H0 H (.val d::t) (some v::σ) A
 |own {p:Addr}{vs:List V}{ds:List D}{t:Th}{σ:L2.St}{A:List Addr}:H p=some (.lst vs)→Reps K H0 ds vs→RSl K H0 H t σ A→RSl K H0 H (.own ds::t) (some (.ref p)::σ) (p::A)
 |dp {d:D}{v:V}{B:List Addr}{t:Th}{σ:L2.St}{A:List Addr}:RepD K H0 H d v B→RSl K H0 H t σ A→RSl K H0 H (.dp d::t) (some v::σ) (B++A)
structure RS (K:zbc5) (F:List Addr) (H:Hp) (A:List Addr) (t:Th) (σ:L2.St):Prop where
 mu:Lists H (A++F)
 nd:A.Nodup
 dj:∀p∈A,p∉F
 rel:RSl K (hide (A++F) H) H t σ A
theorem RSl.mono {K:zbc5}{H0 H H0' H':Hp} (e0:Same H0 H0'):∀ {t:Th}{σ:L2.St}{A:List Addr},RSl K H0 H t σ A→(∀p∈A,∀o,H p=some o→H' p=some o)→RSl K H0' H' t σ A:=by
 intro _ _ _ h
 induction h with
 |nil =>
  intro w0
  exact .nil
 |@no _ _ _ _ r ih =>
  intro e
  exact .no (ih e)
 |@val _ _ _ _ _ h r ih =>
  intro e
  exact .val (Rep.mono e0 h) (ih e)
 |@own _ _ _ _ _ _ h1 h2 r ih =>
  intro e
  exact .own (e _ (zbc9 ..) _ h1) (Reps.mono e0 h2) (ih fun p hp=>e p (zbc6 _ hp))
 |@dp _ _ _ _ _ _ h r ih =>
  intro e
  exact .dp (RepD.mono e0 h fun p hp=>e p (zbc7 _ hp)) (ih fun p hp=>e p (zbc4 _ hp))
theorem RS.grow {K:zbc5}{F A:List Addr}{H H':Hp}{t:Th}{σ:L2.St} (h:RS K F H A t σ) (e:Same H H'):RS K F H' A t σ :=
 ⟨h.mu.mono e,h.nd,h.dj,h.rel.mono (za6 e) fun p _ o q=>e _ _ q⟩
theorem RSl.len {K:zbc5}{H0 H:Hp}:∀ {t:Th}{σ:L2.St}{A:List Addr},RSl K H0 H t σ A→σ.length=t.length:=by
 intro _ _ _ h
 induction h with
 |nil =>
  exact rfl
 |@no _ _ _ _ r ih =>
  simp [ih]
 |@val _ _ _ _ _ _ r ih =>
  simp [ih]
 |@own _ _ _ _ _ _ _ _ r ih =>
  simp [ih]
 |@dp _ _ _ _ _ _ _ r ih =>
  simp [ih]
theorem RSl.getVal {K:zbc5}{H0 H:Hp}:∀ {t:Th}{σ:L2.St}{A:List Addr},RSl K H0 H t σ A→∀ {i:Nat}{d:D},t[i]?=some (.val d)→∃v,σ[i]?=some (some v)∧Rep K H0 d v:=by
 intro _ _ _ h
 induction h with
 |nil =>
  intro i d e
  simp at e
 |@no _ _ _ _ r ih =>
  intro i d e
  cases i with
  |zero =>
   simp at e
  |succ i =>
   simpa using ih (i:=i) (by simpa using e)
 |@val _ v _ _ _ h r ih =>
  intro i d e
  cases i with
  |zero =>
   simp at e;subst e;exact⟨v,rfl,h⟩
  |succ i =>
   simpa using ih (i:=i) (by simpa using e)
 |@own _ _ _ _ _ _ _ _ r ih =>
  intro i d e
  cases i with
  |zero =>
   simp at e
  |succ i =>
   simpa using ih (i:=i) (by simpa using e)
 |@dp _ _ _ _ _ _ _ r ih =>
  intro i d e
  cases i with
  |zero =>
   simp at e
  |succ i =>
   simpa using ih (i:=i) (by simpa using e)
theorem RSl.getOwn {K:zbc5}{H0 H:Hp}:∀ {t:Th}{σ:L2.St}{A:List Addr},RSl K H0 H t σ A→∀ {i:Nat}{ds:List D},t[i]?=some (.own ds)→∃p vs,σ[i]?=some (some (.ref p))∧p∈A∧H p=some (.lst vs)∧Reps K H0 ds vs:=by
 intro _ _ _ h
 induction h with
 |nil =>
  intro i d e
  simp at e
 |@no _ _ _ _ r ih =>
  intro i d e
  cases i with
  |zero =>
   simp at e
  |succ i =>
   simpa using ih (i:=i) (by simpa using e)
 |@val _ v _ _ _ h r ih =>
  intro i d e
  cases i with
  |zero =>
   simp at e
  |succ i =>
   simpa using ih (i:=i) (by simpa using e)
 |@own p vs _ _ _ _ h1 h2 r ih =>
  intro i d e
  cases i with
  |zero =>
   simp at e;subst e;exact⟨p,vs,rfl,zbc9 ..,h1,h2⟩
  |succ i =>
   obtain⟨p,vs,a,b,c,f⟩:=ih (i:=i) (ds:=d) (by simpa using e)
   exact⟨p,vs,by simpa using a,zbc6 _ b,c,f⟩
 |@dp _ _ _ _ _ _ _ r ih =>
  intro i d e
  cases i with
  |zero =>
   simp at e
  |succ i =>
   obtain⟨p,vs,a,b,c,f⟩:=ih (i:=i) (ds:=d) (by simpa using e)
   exact⟨p,vs,by simpa using a,zbc4 _ b,c,f⟩
theorem RSl.getDp {K:zbc5}{H0 H:Hp}:∀ {t:Th}{σ:L2.St}{A:List Addr},RSl K H0 H t σ A→A.Nodup→∀ {i:Nat}{d:D},t[i]?=some (.dp d)→∃v B,σ[i]?=some (some v)∧(∀b∈B,b∈A)∧B.Nodup∧RepD K H0 H d v B:=by
 intro _ _ _ h
 induction h with
 |nil =>
  intro n i d e
  simp at e
 |@no _ _ _ _ r ih =>
  intro n i d e
  cases i with
  |zero =>
   simp at e
  |succ i =>
   simpa using ih n (i:=i) (by simpa using e)
 |@val _ v _ _ _ h r ih =>
  intro n i d e
  cases i with
  |zero =>
   simp at e
  |succ i =>
   simpa using ih n (i:=i) (by simpa using e)
 |@own _ _ _ _ _ _ _ _ r ih =>
  intro n i d e
  cases i with
  |zero =>
   simp at e
  |succ i =>
   obtain⟨v,B,a,b,n',c⟩:=ih (zbe6.mp n).2 (i:=i) (d:=d) (by simpa using e)
   exact⟨v,B,by simpa using a,fun x hx=>zbc6 _ (b x hx),n',c⟩
 |@dp _ v B _ _ _ h r ih =>
  intro n i d e
  cases i with
  |zero =>
   simp at e;subst e;exact⟨v,B,rfl,fun x hx=>zbc7 _ hx,(zbe0.mp n).1,h⟩
  |succ i =>
   obtain⟨v,B,a,b,n',c⟩:=ih (zbe0.mp n).2.1 (i:=i) (d:=d) (by simpa using e)
   exact⟨v,B,by simpa using a,fun x hx=>zbc4 _ (b x hx),n',c⟩
structure Gr (A:List Addr) (H:Hp) (A':List Addr) (H':Hp):Prop where
 kp:∀b o,b∉A→H b=some o→H' b=some o
 al:∀b∈A,H' b≠none
 nw:∀b∈A',b∈A∨H b=none
theorem Gr.refl {A:List Addr}{H:Hp} (m:Lists H A):Gr A H A H:=⟨fun _ _ _ h=>h,fun b hb=>by obtain⟨vs,q⟩:=m b hb;rw [q];simp,fun b h=>.inl h⟩
theorem Gr.of_same {A:List Addr}{H H':Hp} (m:Lists H A) (e:Same H H'):Gr A H A H':=⟨fun _ _ _ h=>e _ _ h,fun b hb=>by obtain⟨vs,q⟩:=m b hb;rw [e _ _ q];simp,fun b h=>.inl h⟩
theorem Gr.trans {A A1 A2:List Addr}{H H1 H2:Hp} (a:Gr A H A1 H1) (b:Gr A1 H1 A2 H2):Gr A H A2 H2 where
 kp:=fun x o n h=>b.kp x o (fun z=>by rcases a.nw x z with q | q;exact n q;rw [q]at h;cases h) (a.kp x o n h)
 al:=fun x hx=>by
  by_cases z:x∈A1
  ·exact b.al x z
  ·have:=a.al x hx
   cases q:H1 x with
   |none=>exact absurd q this
   |some o=>rw [b.kp x o z q];simp
 nw:=fun x hx=>by
  rcases b.nw x hx with q | q
  ·exact a.nw x q
  ·by_cases z:x∈A
   ·exact .inl z
   ·refine .inr ?_
    cases w:H x with
    |none=>rfl
    |some o=>rw [a.kp x o z w]at q;cases q
theorem Gr.same {F A A':List Addr}{H H':Hp} (g:Gr A H A' H'):Same (hide (A++F) H) (hide (A'++F) H'):=fun b o h=>by
 obtain⟨n,h⟩:=zg2 h
 have n1:b∉A:=fun z=>n (zbc7 _ z)
 refine zb9 (g.kp b o n1 h) fun z=>?_
 rcases zbd0.mp z with z | z
 ·rcases g.nw b z with q | q
  ·exact n1 q
  ·rw [q]at h;cases h
 ·exact n (zbc4 _ z)
end DL
namespace DL
open PySem.Spec L2
abbrev DE:=Th→Option Ev
noncomputable def dE (K:zbc5) (F:List Addr) (f:DE):TE:=fun σ H Q => ∃A t r,RS K F H A t σ∧f t=some r∧∀v H',Same H H'→RepEv K F A H H' r v→Q v H'
theorem PE.imp {X:Cx}{e:Expr}{t t':TE} (h:PE X e t) (i:∀σ H Q,t' σ H Q→t σ H Q):PE X e t':=fun pins s σ H Q I q=>h pins s σ H Q I (i σ H Q q)
section
variable {X:Cx}{F:List Addr}{a b c:Expr}{fa fb fc:DE}{pos:Pos}
noncomputable def dVar (i:Nat):DE:=fun t=>match t[i]? with
 |some (.val d)=>some (.cl d)
 |some (.own xs)=>some (.tm (.lst xs))
 |some (.dp d)=>some (.tm d)
 |_=>none
theorem za0 (i:Nat) {x:Str} (hN:X.N[i]?=some x:=by rfl) (hv:Vis X.env.scope x:=by first | exact Or.inl rfl | exact Or.inr (Or.inl rfl) |exact Or.inr (Or.inr rfl)) (hd:(x ==("__debug__":Str))=false:=by decide)
  (hcd:(x ==("__classdict__":Str))=false:=by decide):PE X (.Name x pos) (dE X.K F (dVar i)):=by
 refine PE.imp (zo5 (i:=i) hN hv hd hcd) ?_
 rintro σ H Q ⟨A,t,r,R,e,h⟩
 unfold dVar at e
 split at e
 ·rename_i d q
  cases e
  obtain⟨v,h1,h2⟩:=R.rel.getVal q
  exact⟨v,h1,h v H (Same.refl H) h2⟩
 ·rename_i ds q
  cases e
  obtain⟨p,vs,h1,h2,h3,h4⟩:=R.rel.getOwn q
  refine⟨_,h1,h _ H (Same.refl H) ?_⟩
  exact .lst (SqL.of (zb9 h3 (R.dj p h2))) (Reps.mono (za7 H fun a z=>zbc4 _ z) h4)
 ·rename_i d q
  cases e
  obtain⟨v,B,h1,h2,h0,h3⟩:=R.rel.getDp R.nd q
  refine⟨_,h1,h _ H (Same.refl H) ?_⟩
  exact h3.rep (za7 H fun a z=>zbc4 _ z) fun b hb o w=>zb9 w (R.dj b (h2 b hb))
 ·cases e
def dC (d:D):DE:=fun _=>some (.cl d)
theorem zb3 {i j pos}:PE X (.Constant (.int i) j pos) (dE X.K F (dC (.int i))):=PE.imp pe_int fun σ H Q ⟨A,t,r,R,e,h⟩=>by cases e;exact h _ H (Same.refl H) (.int i)
theorem zq3 {b j pos}:PE X (.Constant (.bool b) j pos) (dE X.K F (dC (.bl b))):=PE.imp pe_bl fun σ H Q ⟨A,t,r,R,e,h⟩=>by cases e;exact h _ H (Same.refl H) (.bl b)
theorem zan3 {x:Str}{i:Int}{u:Value} (hg:Gl X x) (hm:X.mg x=some u) (r:RelV (.int i) u) (hd:(x ==("__debug__":Str))=false:=by decide):PE X (.Name x pos) (dE X.K F (dC (.int i))) :=
 PE.imp (pe_glob hg hm r hd) fun σ H Q ⟨A,t,r,R,e,h⟩=>by cases e;exact h _ H (Same.refl H) (.int i)
noncomputable def OpD (X:Cx) (F:List Addr) (f:Value→Value→Sem Value) (k:Ev→Ev→Option Ev):Prop :=
 ∀(pins:List (Addr×Obj)) (s:zbe1) (σ:L2.St) (H0 H:Hp) (A:List Addr) (x y:V) (v u:Value) (Q:VK) (r1 r2 r:Ev),Inv X pins σ H s→Lists H0 (A++F)→Same H0 H→RelV x v→RelV y u →
  RepEv X.K F A H0 H r1 x→RepEv X.K F A H0 H r2 y→k r1 r2=some r→(∀z H',Same H H'→RepEv X.K F A H0 H' r z→Q z H')→wpAny (model X.prog X.w) X.A (f v u) (EP X pins σ Q) X.xe s
def d2 (k:Ev→Ev→Option Ev) (fa fb:DE):DE:=fun t=>(fa t).bind fun r1=>(fb t).bind fun r2=>k r1 r2
theorem two {k:Ev→Ev→Option Ev}{σ:L2.St}{H:Hp}{Q:VK} (h:dE X.K F (d2 k fa fb) σ H Q):∃A t r1 r2 r,RS X.K F H A t σ∧fa t=some r1∧fb t=some r2∧k r1 r2=some r ∧
  (∀v H',Same H H'→RepEv X.K F A H H' r v→Q v H')∧dE X.K F fa σ H fun x H1=>dE X.K F fb σ H1 fun y H2=>Same H H2∧RepEv X.K F A H H2 r1 x∧RepEv X.K F A H H2 r2 y:=by
 obtain⟨A,t,r,R,e,h⟩:=h
 unfold d2 at e
 cases e1:fa t with
 |none=>rw [e1]at e;cases e
 |some r1 =>
  cases e2:fb t with
  |none=>rw [e1,e2]at e;cases e
  |some r2 =>
   rw [e1,e2]at e
   exact⟨A,t,r1,r2,r,R,e1,e2,e,h,A,t,r1,R,e1,fun x H1 g1 q1=>⟨A,t,r2,R.grow g1,e2,fun y H2 g2 q2=>⟨g1.trans g2,q1.mono g2,q2.back g1⟩⟩⟩
theorem zc6 {op:Operator}{k:Ev→Ev→Option Ev} (ho:OpD X F (binaryOp op) k) (ha:PE X a (dE X.K F fa)) (hb:PE X b (dE X.K F fb)):PE X (.BinOp a op b pos) (dE X.K F (d2 k fa fb)):=by
 intro pins s σ H Q I h
 obtain⟨A,t,r1,r2,r,R,e1,e2,e,h,w⟩:=two h
 refine wpAny_BinOp (bin ha hb I w fun v u s2 x y H2 I2 rx ry q=>?_)
 obtain⟨g,q1,q2⟩:=q
 exact ho pins s2 σ H H2 A x y v u Q r1 r2 r I2 R.mu g rx ry q1 q2 e fun z H' g'=>h z H' (g.trans g')
theorem zab6 {op:CmpOp}{k:Ev→Ev→Option Ev} (ho:OpD X F (compareOp op) k) (ha:PE X a (dE X.K F fa)) (hb:PE X b (dE X.K F fb)) (hm:behindInMarks op b=false:=by first | exact nomark _ | (with_unfolding_all rfl)) :
  PE X (.Compare a [op] [b] pos) (dE X.K F (d2 k fa fb)):=by
 intro pins s σ H Q I h
 obtain⟨A,t,r1,r2,r,R,e1,e2,e,h,w⟩:=two h
 refine wpAny_Compare1 (bin ha hb I w fun v u s2 x y H2 I2 rx ry q=>?_) hm
 obtain⟨g,q1,q2⟩:=q
 exact ho pins s2 σ H H2 A x y v u Q r1 r2 r I2 R.mu g rx ry q1 q2 e fun z H' g'=>h z H' (g.trans g')
noncomputable def kI (C:Int→Int→Bool) (g:Int→Int→D):Ev→Ev→Option Ev:=fun r1 r2=>match r1.d,r2.d with
 |.int i,.int j=>if C i j then some (.cl (g i j)) else none
 |_,_=>none
theorem zf5 {K:zbc5}{H:Hp}{i:Int}{v:V} (h:Rep K H (.int i) v):v=.int i:=by cases h;rfl
theorem zab8 {f:Value→Value→Sem Value}{C:Int→Int→Prop}{g:Int→Int→V}{C':Int→Int→Bool}{g':Int→Int→D} (h:OpR X f (rI C g)) (hc:∀i j,C' i j=true→C i j)
  (hg:∀H i j,Rep X.K H (g' i j) (g i j)):OpD X F f (kI C' g'):=by
 intro pins s σ H0 H A x y v u Q r1 r2 r I m g0 rx ry q1 q2 e hq
 have p1:=q1.full
 have p2:=q2.full
 unfold kI at e
 split at e
 ·rename_i i j d1 d2
  split at e
  ·rename_i c
   cases e
   rw [d1]at p1;rw [d2]at p2
   cases zf5 p1;cases zf5 p2
   exact h pins s σ H _ _ v u Q I rx ry ⟨i,j,rfl,rfl,hc i j c,hq _ H (Same.refl H) (hg _ i j)⟩
  ·cases e
 ·cases e
theorem zat8 {f:Value→Value→Sem Value}{g:Int→Int→V} (h:OpR X f (rI0 g)):OpR X f (rI (fun _ _=>True) g):=fun pins s σ H x y v u Q I rx ry ⟨i,j,e1,e2,_,q⟩=>h pins s σ H x y v u Q I rx ry ⟨i,j,e1,e2,q⟩
def tt2:Int→Int→Bool:=fun _ _=>true
theorem od_add:OpD X F (binaryOp .Add) (kI tt2 fun i j=>.int (i+j)):=zab8 (zat8 op_add) (fun _ _ _=>trivial) fun _ _ _=>.int _
theorem zan4:OpD X F (binaryOp .Sub) (kI tt2 fun i j=>.int (i - j)):=zab8 (zat8 op_sub) (fun _ _ _=>trivial) fun _ _ _=>.int _
def bnd:Nat:=2 ^ 4096
def sm (i:Int):Bool:=decide (i.natAbs<bnd)
def cMul (i j:Int):Bool:=sm i&&sm j
def cDiv (_ j:Int):Bool:=sm j&&decide (j≠0)
theorem zax2 {n k:Nat} (h:n<2 ^ k):n.log2≤k:=by
 by_cases z:n=0
 ·subst z;simp
 ·exact zbn1 ((Nat.log2_lt z).mpr h)
theorem cMul.ok {i j:Int} (h:cMul i j=true):IntMulOk i j:=by
 simp only [cMul,sm,zbd8,decide_eq_true_eq]at h
 refine mulOk_of_bits (m:=4097) (n:=4097) ?_ ?_ (by decide)
 ·exact intBits_le (zbe2 h.1 (by unfold bnd;exact zbl3 (by decide) (by decide)))
 ·exact intBits_le (zbe2 h.2 (by unfold bnd;exact zbl3 (by decide) (by decide)))
theorem od_mul:OpD X F (binaryOp .Mult) (kI cMul fun i j=>.int (i*j)):=zab8 (C:=IntMulOk) (opI fun _ _ _ _ _ _ _ hc q=>mul_int q hc) (fun _ _ h=>cMul.ok h) fun _ _ _=>.int _
theorem cDiv.ok {i j:Int} (h:cDiv i j=true):j≠0∧j.natAbs.log2<9000:=by
 simp only [cDiv,sm,zbd8,decide_eq_true_eq]at h
 have:=zax2 h.1
 exact⟨h.2,by lia⟩
theorem zaw0:OpD X F (binaryOp .FloorDiv) (kI cDiv fun i j=>.int (i.fdiv j)):=zab8 (C:=fun _ j=>j≠0∧j.natAbs.log2<9000) (opI fun _ _ _ _ _ _ _ hc q=>floordiv_int hc.1 q (.inl (PyProof.noPylong_of_log2 hc.2))) (fun _ _ h=>cDiv.ok h) fun _ _ _=>.int _
def cMod (_ j:Int):Bool:=decide (j≠0)
theorem zl0:OpD X F (binaryOp .Mod) (kI cMod fun i j=>.int (i.fmod j)):=zab8 op_modN (fun i j h=>by simpa [cMod] using h) fun _ _ _=>.int _
def cPow (i j:Int):Bool:=decide (0≤j∧j≤1000∧i.natAbs<18446744073709551616)
theorem od_pow:OpD X F (binaryOp .Pow) (kI cPow fun i j=>.int (i ^ j.toNat)):=zab8 op_pow (fun i j h=>by
 simp only [cPow,decide_eq_true_eq]at h
 exact⟨h.1,by lia,by show i.natAbs<2 ^ 64;lia⟩) fun _ _ _=>.int _
theorem zaq4:OpD X F (compareOp .Lt) (kI tt2 fun i j=>.bl (decide (i<j))):=zab8 (zat8 op_lt) (fun _ _ _=>trivial) fun _ _ _=>.bl _
theorem od_le:OpD X F (compareOp .LtE) (kI tt2 fun i j=>.bl (decide (i≤j))):=zab8 (zat8 op_le) (fun _ _ _=>trivial) fun _ _ _=>.bl _
theorem od_gt:OpD X F (compareOp .Gt) (kI tt2 fun i j=>.bl (decide (j<i))):=zab8 (zat8 op_gt) (fun _ _ _=>trivial) fun _ _ _=>.bl _
def kOr (k k':Ev→Ev→Option Ev):Ev→Ev→Option Ev:=fun r1 r2=>match k r1 r2 with
 |some r=>some r
 |none=>k' r1 r2
theorem OpD.or {f:Value→Value→Sem Value}{k k':Ev→Ev→Option Ev} (h:OpD X F f k) (h':OpD X F f k'):OpD X F f (kOr k k'):=by
 intro pins s σ H0 H A x y v u Q r1 r2 r I m g0 rx ry q1 q2 e hq
 unfold kOr at e
 split at e
 ·rename_i z
  cases e
  exact h pins s σ H0 H A x y v u Q r1 r2 _ I m g0 rx ry q1 q2 z hq
 ·exact h' pins s σ H0 H A x y v u Q r1 r2 _ I m g0 rx ry q1 q2 e hq
def d1 (k:Ev→Option Ev) (fa:DE):DE:=fun t=>(fa t).bind k
end
end DL
namespace DL
open PySem.Spec L2
inductive RepEvs (K:zbc5) (F A:List Addr) (H H':Hp):List Ev→List V→Prop
 |nil:RepEvs K F A H H' [] []
 |cons {r:Ev}{v:V}{rs:List Ev}{vs:List V}:RepEv K F A H H' r v→RepEvs K F A H H' rs vs→RepEvs K F A H H' (r::rs) (v::vs)
theorem RepEvs.back {K:zbc5}{F A:List Addr}{H0 H H1:Hp} (e:Same H0 H):∀ {rs:List Ev}{vs:List V},RepEvs K F A H H1 rs vs→RepEvs K F A H0 H1 rs vs
 |_,_,.nil=>.nil
 |_,_,.cons h r=>.cons (h.back e) (RepEvs.back e r)
theorem RepEvs.full {K:zbc5}{F A:List Addr}{H H':Hp}:∀ {rs:List Ev}{vs:List V},RepEvs K F A H H' rs vs→Reps K H' (rs.map Ev.d) vs
 |_,_,.nil=>.nil
 |_,_,.cons h r=>.cons h.full (RepEvs.full r)
theorem RepEvs.cleanF {K:zbc5}{F A:List Addr}{H H':Hp} (m:Lists H (A++F)):∀ {rs:List Ev}{vs:List V},RepEvs K F A H H' rs vs→Reps K (hide F H') (rs.map Ev.d) vs
 |_,_,.nil=>.nil
 |_,_,.cons h r=>.cons (h.cleanF m) (RepEvs.cleanF m r)
theorem RepEvs.clean {K:zbc5}{F A:List Addr}{H H':Hp} (m:Lists H (A++F)) (e:Same H H'):∀ {rs:List Ev}{vs:List V},RepEvs K F A H H' rs vs→rs.all Ev.ok=true→Reps K (hide (A++F) H') (rs.map Ev.d) vs
 |_,_,.nil,_=>.nil
 |_,_,.cons h r,c=>by
  simp only [zbh0,zbd8]at c
  exact .cons (h.clean m e c.1) (RepEvs.clean m e r c.2)
abbrev DA:=Th→Option (List Ev)
noncomputable def dA (K:zbc5) (F:List Addr) (f:DA):TA:=fun σ H Q => ∃A t rs,RS K F H A t σ∧f t=some rs∧∀vs H',Same H H'→RepEvs K F A H H' rs vs→Q vs H'
theorem PA.imp {X:Cx}{e:List Expr}{t t':TA} (h:PA X e t) (i:∀σ H Q,t' σ H Q→t σ H Q):PA X e t':=fun pos pins s σ H Q I q=>h pos pins s σ H Q I (i σ H Q q)
def dNil:DA:=fun _=>some []
def za3 (f:DE) (g:DA):DA:=fun t=>(f t).bind fun r=>(g t).bind fun rs=>some (r::rs)
section
variable {X:Cx}{F:List Addr}{a b c:Expr}{es:List Expr}{fa fb fc:DE}{g:DA}{pos:Pos}
theorem za4:PA X [] (dA X.K F dNil):=PA.imp zi1 fun σ H Q ⟨A,t,rs,R,e,h⟩=>by cases e;exact h [] H (Same.refl H) .nil
theorem za1 (ha:PE X a (dE X.K F fa)) (hr:PA X es (dA X.K F g)) (hs:zbe3 (a::es) X.env=(false,eval a X.env)::zbe3 es X.env:=by rfl):PA X (a::es) (dA X.K F (za3 fa g)):=by
 refine PA.imp (zf0 ha hr hs) ?_
 rintro σ H Q ⟨A,t,rs,R,e,h⟩
 unfold za3 at e
 cases e1:fa t with
 |none=>rw [e1]at e;cases e
 |some r1 =>
  cases e2:g t with
  |none=>rw [e1,e2]at e;cases e
  |some rs2 =>
   rw [e1,e2]at e
   cases e
   exact⟨A,t,r1,R,e1,fun x H1 g1 q1=>⟨A,t,rs2,R.grow g1,e2,fun xs H2 g2 q2=>h _ _ (g1.trans g2) (.cons (q1.mono g2) (q2.back g1))⟩⟩
noncomputable def kTup:List Ev→Option Ev:=fun rs=>if rs.length≤1000 then (if rs.all Ev.ok then some (.cl (.tup (rs.map Ev.d))) else some (.tm (.tup (rs.map Ev.d)))) else none
def dT1 (k:List Ev→Option Ev) (g:DA):DE:=fun t=>(g t).bind k
theorem RepEvs.length {K:zbc5}{F A:List Addr}{H H':Hp}:∀ {rs:List Ev}{vs:List V},RepEvs K F A H H' rs vs→vs.length=rs.length
 |_,_,.nil=>rfl
 |_,_,.cons _ r=>by simp [RepEvs.length r]
theorem zk3 {n:Nat} (h:n≤100000):n≤sizeLine:=zbh8 h (by rw [sizeLine_eq];decide)
theorem zd2 {H:Hp}{p:Addr}{o:HO} (h:H p=none):Same H (upd H p o):=fun b u e=>by rw [zb1 (fun z=>by rw [z,h]at e;cases e)];exact e
theorem zav0 {x1} (h:PA X es (dA X.K F g)):PE X (.Tuple es x1 pos) (dE X.K F (dT1 kTup g)):=by
 refine PE.imp (zav4 h) ?_
 rintro σ H Q ⟨A,t,r,R,e,h⟩
 unfold dT1 at e
 cases e1:g t with
 |none=>rw [e1]at e;cases e
 |some rs =>
  rw [e1]at e
  have e:kTup rs=some r:=e
  unfold kTup at e
  split at e
  case isFalse=>cases e
  rename_i hl
  refine⟨A,t,rs,R,e1,fun vs H1 g1 q1=>⟨by rw [q1.length];exact zk3 (by lia),fun p hp=>?_⟩⟩
  have s1:=zd2 (o:=HO.tup vs) hp
  refine h _ _ (g1.trans s1) ?_
  have np:p∉A++F:=zc4 (R.mu.mono g1) hp
  split at e
  ·rename_i c
   cases e
   exact .tup (SqT.of (zb9 za8 np)) (Reps.mono (za6 s1) (q1.clean R.mu g1 c))
  ·cases e
   exact .tup (SqT.of (zb9 za8 fun z=>np (zbc4 _ z))) (Reps.mono (za6 s1) (q1.cleanF R.mu))
def kLst:List Ev→Option Ev:=fun rs=>if rs.length≤1000∧rs.all Ev.ok then some (.nw (rs.map Ev.d)) else none
theorem zn3 {P:List Addr}{H:Hp}{p:Addr}{o:HO} (h:H p=none):Same (hide P H) (hide (p::P) (upd H p o)):=fun b u e=>by
 obtain⟨n,e⟩:=zg2 e
 have nb:b≠p:=fun z=>by rw [z,h]at e;cases e
 refine zb9 (by rw [zb1 nb];exact e) fun z=>?_
 rcases zbd2.mp z with z | z
 ·exact nb z
 ·exact n z
theorem zi9 (h:PA X es (dA X.K F g)):PE X (.List es pos) (dE X.K F (dT1 kLst g)):=by
 refine PE.imp (pe_lst h) ?_
 rintro σ H Q ⟨A,t,r,R,e,h⟩
 unfold dT1 at e
 cases e1:g t with
 |none=>rw [e1]at e;cases e
 |some rs =>
  rw [e1]at e
  have e:kLst rs=some r:=e
  unfold kLst at e
  split at e
  case isFalse=>cases e
  rename_i hl
  cases e
  refine⟨A,t,rs,R,e1,fun vs H1 g1 q1=>⟨by rw [q1.length];exact zk3 (by lia),fun p hp=>?_⟩⟩
  have s1:=zd2 (o:=HO.lst vs) hp
  refine h _ _ (g1.trans s1) ⟨p,vs,rfl,?_,za8,Reps.mono (zn3 hp) (q1.clean R.mu g1 hl.2)⟩
  exact Same.free g1 hp
noncomputable def spD (K:zbc5) (G:List D→Option Ev):Sp:=fun vs H Q _ => ∃Fo ds r,Lists H Fo∧Reps K (hide Fo H) ds vs∧G ds=some r∧∀v H',Same H H'→RepEv K Fo [] H H' r v→Q v H'
noncomputable def upEv (ok:Bool) (r:Ev):Ev:=if ok then (match r with
  |.cl d=>.cl d
  |.tm d=>.cl d
  |.nw xs=>.nw xs
  |.dn d=>.dn d) else match r with
  |.cl d=>if flat d then .cl d else .tm d
  |.tm d=>if flat d then .cl d else .tm d
  |.nw xs=>if flats xs then .nw xs else .tm (.lst xs)
  |.dn d=>.dn d
def zc2 (G:List D→Option Ev):List Ev→Option Ev:=fun rs=>(G (rs.map Ev.d)).map (upEv (rs.all Ev.ok))
theorem call_up {K:zbc5}{A:List Addr}{G:List D→Option Ev}{H0 H:Hp}{rs:List Ev}{r:Ev}{vs:List V}{Q:VK}{E:XK} (m:Lists H0 (A++F)) (g:Same H0 H) (q:RepEvs K F A H0 H rs vs) (e:zc2 G rs=some r)
  (h:∀v H',Same H H'→RepEv K F A H0 H' r v→Q v H'):spD K G vs H Q E:=by
 unfold zc2 at e
 cases e1:G (rs.map Ev.d) with
 |none=>rw [e1]at e;cases e
 |some r0 =>
  rw [e1]at e
  have e:upEv (rs.all Ev.ok) r0=r:=by simpa using e
  have mH:=m.mono g
  by_cases c:rs.all Ev.ok=true
  ·refine⟨A++F,rs.map Ev.d,r0,mH,q.clean m g c,e1,fun v H' g' w=>h v H' g' ?_⟩
   rw [c]at e
   subst e
   cases r0 with
   |cl d=>exact w
   |tm d=>exact w
   |nw xs =>
    obtain⟨p,us,rfl,h1,h2,h3⟩:=w
    exact⟨p,us,rfl,Same.free g h1,h2,h3⟩
   |dn d =>
    obtain⟨B,h1,h2,h3⟩:=w
    exact⟨B,h1,fun b hb=>Same.free g (h2 b hb),h3⟩
  ·refine⟨F,rs.map Ev.d,r0,fun p hp=>mH p (zbc4 _ hp),q.cleanF m,e1,fun v H' g' w=>h v H' g' ?_⟩
   have c:rs.all Ev.ok=false:=by simpa using c
   rw [c]at e
   subst e
   have m':=mH.mono g'
   cases r0 with
   |cl d =>
    show RepEv K F A H0 H' (if flat d then .cl d else .tm d) v
    split
    ·rename_i f;exact Rep.hid m' f (Rep.mono (zb0 _ _) w)
    ·exact w
   |tm d =>
    show RepEv K F A H0 H' (if flat d then .cl d else .tm d) v
    split
    ·rename_i f;exact Rep.hid m' f (Rep.mono (zb0 _ _) w)
    ·exact w
   |nw xs =>
    obtain⟨p,us,rfl,h1,h2,h3⟩:=w
    have np:p∉A++F:=zc4 mH h1
    show RepEv K F A H0 H' (if flats xs then .nw xs else .tm (.lst xs)) _
    split
    ·rename_i f
     refine⟨p,us,rfl,Same.free g h1,h2,Reps.hid (P:=p ::(A++F)) (fun b hb=>?_) f (Reps.mono (zb0 _ _) h3)⟩
     rcases zbd2.mp hb with rfl | hb
     ·exact⟨mL us,h2⟩
     ·exact m' b hb
    ·exact .lst (SqL.of (zb9 h2 fun z=>np (zbc4 _ z))) (Reps.mono (za7 H' fun b z=>zbc6 _ z) h3)
   |dn d =>
    obtain⟨B,h1,h2,h3⟩:=w
    exact⟨B,h1,fun b hb=>Same.free g (h2 b hb),h3.hid (h3.lists.app m') (zb0 _ _)⟩
theorem ped_call {k:Nat}{f:Addr}{fd:FuncData}{ps:List Str}{G:List D→Option Ev}{x:Str}{p:Pos} (Fn:FnOk X.prog X.w X.K X.mg X.base CX0 k f fd ps (spD X.K G)) (hr:Room k X.A) (hg:Gl X x) (hm:X.mg x=some (.ref f)) (hk:zbh3 X.K (.ref f)=true)
  (hb:Binds X.K fd ps []) (ha:PA X (a::es) (dA X.K F g)) (hdb:(x ==("__debug__":Str))=false:=by decide) (he:zbe3 (a::es) X.env=(false,eval a X.env)::zbe3 es X.env:=by rfl)
  (hpl:(zbj4 pos (zbe3 es X.env)).any (·.1)=false:=by rfl):PE X (.Call (.Name x p) (a::es) [] pos) (dE X.K F (dT1 (zc2 G) g)):=by
 refine PE.imp (pe_call Fn hr hg hm hk hb .nil (E:=E0) pass0 ha hdb he hpl) ?_
 rintro σ H Q ⟨A,t,r,R,e,h⟩
 unfold dT1 at e
 cases e1:g t with
 |none=>rw [e1]at e;cases e
 |some rs =>
  rw [e1]at e
  refine⟨A,t,rs,R,e1,fun vs H1 g1 q1=>?_⟩
  show spD X.K G (vs++[]) H1 Q E0
  rw [zbg7]
  exact call_up R.mu g1 q1 e fun v H' g' w=>h v H' (g1.trans g') w
noncomputable def CallD (X:Cx) (F:List Addr) (f:Value) (k:List Ev→Option Ev):Prop :=
 ∀(pins:List (Addr×Obj)) (s:zbe1) (σ:L2.St) (H0 H:Hp) (A:List Addr) (xs:List V) (us:List Value) (Q:VK) (rs:List Ev) (r:Ev),Inv X pins σ H s→Lists H0 (A++F)→Same H0 H→Vals xs us→RepEvs X.K F A H0 H rs xs→k rs=some r →
  (∀z H',Same H H'→RepEv X.K F A H0 H' r z→Q z H')→wpAny (model X.prog X.w) X.A (call f us) (EP X pins σ Q) X.xe s
theorem PA.run (ha:PA X es (dA X.K F g)) {k:List Ev→Option Ev}{f:Value} (hc:CallD X F f k) {pins:List (Addr×Obj)}{s:zbe1}{σ:L2.St}{H:Hp}{Q:VK} (p:Pos) (I:Inv X pins σ H s) (h:dE X.K F (dT1 k g) σ H Q) :
  wpAny (model X.prog X.w) X.A (spliced (zbj4 p (zbe3 es X.env))) (fun us s1=>wpAny (model X.prog X.w) X.A (call f us) (EP X pins σ Q) X.xe s1) X.xe s:=by
 obtain⟨A,t,r,R,e,h⟩:=h
 unfold dT1 at e
 cases e1:g t with
 |none=>rw [e1]at e;cases e
 |some rs =>
  rw [e1]at e
  refine thn (ha p pins s σ H (fun vs H1=>Same H H1∧RepEvs X.K F A H H1 rs vs) I ⟨A,t,rs,R,e1,fun vs H1 g1 q1=>⟨g1,q1⟩⟩) fun us s1 ⟨vs,H1,I1,r1,g1,q1⟩=>?_
  exact hc pins s1 σ H H1 A vs us Q rs r I1 R.mu g1 r1 q1 e fun z H' g'=>h z H' (g1.trans g')
theorem zb2 {k:List Ev→Option Ev}{x:Str}{p:Pos}{id:String} (hc:CallD X F (.builtin id) k) (hg:Gl X x) (hm:X.mg x=none) (hv:bootBuiltins x=some (.builtin id)) (ha:PA X (a::es) (dA X.K F g)) (hn:x≠"__name__":=by decide) (hdb:(x ==("__debug__":Str))=false:=by decide)
  (he:zbe3 (a::es) X.env=(false,eval a X.env)::zbe3 es X.env:=by rfl) (hpl:(zbj4 pos (zbe3 es X.env)).any (·.1)=false:=by rfl):PE X (.Call (.Name x p) (a::es) [] pos) (dE X.K F (dT1 k g)):=by
 intro pins s σ H Q I h
 refine wpAny_Call_Name_kw (zo6 I hg hm hv ?_ hn hdb)
 exact PyProof.Rows.callWith_builtin1 (PA.run ha hc pos I h) he hpl
theorem zav3 {k:List Ev→Option Ev}{x:Str}{p:Pos}{T:String} (hc:CallD X F (.type T) k) (hg:Gl X x) (hm:X.mg x=none) (hv:bootBuiltins x=some (.type T)) (ha:PA X (a::es) (dA X.K F g)) (hn:x≠"__name__":=by decide) (hdb:(x ==("__debug__":Str))=false:=by decide)
  (he:zbe3 (a::es) X.env=(false,eval a X.env)::zbe3 es X.env:=by rfl) (hpl:(zbj4 pos (zbe3 es X.env)).any (·.1)=false:=by rfl):PE X (.Call (.Name x p) (a::es) [] pos) (dE X.K F (dT1 k g)):=by
 intro pins s σ H Q I h
 refine wpAny_Call_Name_kw (zo6 I hg hm hv ?_ hn hdb)
 exact PyProof.Rows.callWith_type1 (PA.run ha hc pos I h) he hpl
theorem CallD.of {f:Value}{r:List V→Hp→VK→Prop}{k:List Ev→Option Ev} (h:zq1 X f r)
  (i:∀(H0 H:Hp) (A:List Addr) (xs:List V) (rs:List Ev) (e:Ev) (Q:VK),Lists H0 (A++F)→Same H0 H→RepEvs X.K F A H0 H rs xs→k rs=some e→(∀z H',Same H H'→RepEv X.K F A H0 H' e z→Q z H')→r xs H Q):CallD X F f k :=
 fun pins s σ H0 H A xs us Q rs e I m g v q ek hq=>h pins s σ H xs us Q I v (i H0 H A xs rs e Q m g q ek hq)
noncomputable def kAbs:List Ev→Option Ev:=fun rs=>match rs with
 |[r]=>(match r.d with
  |.int i=>some (.cl (.int (if i<0 then -i else i)))
  |_=>none)
 |_=>none
theorem cd_abs:CallD X F (.builtin "abs") kAbs:=CallD.of call_abs fun H0 H A xs rs e Q m g q ek hq=>by
 unfold kAbs at ek
 split at ek
 ·rename_i r
  split at ek
  ·rename_i i z
   cases ek
   cases q with
   |cons q1 q2 =>
    cases q2
    have p:=q1.full
    rw [z]at p
    cases zf5 p
    exact⟨i,rfl,hq _ H (Same.refl H) (.int _)⟩
  ·cases ek
 ·cases ek
noncomputable def kLen:List Ev→Option Ev:=fun rs=>match rs with
 |[r]=>(match r.d with
  |.lst xs=>some (.cl (.int xs.length))
  |.tup xs=>some (.cl (.int xs.length))
  |_=>none)
 |_=>none
theorem zi0:CallD X F (.builtin "len") kLen:=CallD.of zai3 fun H0 H A xs rs e Q m g q ek hq=>by
 unfold kLen at ek
 split at ek
 ·rename_i r
  cases q with
  |cons q1 q2 =>
   cases q2
   have p:=q1.full
   split at ek
   ·rename_i ds z
    cases ek
    rw [z]at p
    cases p with
    |lst h1 h2=>exact⟨_,_,rfl,.inl h1,by rw [h2.length];exact hq _ H (Same.refl H) (.int _)⟩
   ·rename_i ds z
    cases ek
    rw [z]at p
    cases p with
    |tup h1 h2=>exact⟨_,_,rfl,.inr h1,by rw [h2.length];exact hq _ H (Same.refl H) (.int _)⟩
   ·cases ek
 ·cases ek
end
end DL
namespace DL
open PySem.Spec L2
abbrev DT:=Th→Option Bool
def dT (K:zbc5) (F:List Addr) (f:DT):TT:=fun σ H Q => ∃A t b,RS K F H A t σ∧f t=some b∧∀H',Same H H'→Q b H'
theorem PT.imp {X:Cx}{e:Expr}{t t':TT} (h:PT X e t) (i:∀σ H Q,t' σ H Q→t σ H Q):PT X e t':=fun pins s σ H Q I q=>h pins s σ H Q I (i σ H Q q)
theorem PW.imp {X:Cx}{e:Expr}{t t':TT} (h:PW X e t) (i:∀σ H Q,t' σ H Q→t σ H Q):PW X e t':=fun w pins s σ H Q I q=>h w pins s σ H Q I (i σ H Q q)
noncomputable def truD:D→Option Bool
 |.non=>some false
 |.bl b=>some b
 |.int i=>some (i != 0)
 |.tup xs=>some (!xs.isEmpty)
 |.lst xs=>some (!xs.isEmpty)
 |.dct ks _=>some (!ks.isEmpty)
 |.pdc _=>none
 |.str y=>if y.length≤100000 then some ((y.length:Int) != 0) else none
theorem zq8 {α β:Type}{xs:List α}{ys:List β} (h:xs.length=ys.length):xs.isEmpty=ys.isEmpty:=by
 cases xs<;>cases ys<;>simp_all
theorem truV_of {K:zbc5}{H:Hp}{d:D}{v:V}{b:Bool} (r:Rep K H d v) (e:truD d=some b):TruV K v H b:=by
 cases r with
 |non=>cases e;rfl
 |bl b=>cases e;rfl
 |int i=>cases e;rfl
 |str x =>
  simp only [truD]at e
  split at e
  ·cases e;exact⟨zk3 (by assumption),rfl⟩
  ·cases e
 |tup h1 h2=>cases e;exact .inr (.inl ⟨_,h1,by rw [zq8 h2.length]⟩)
 |lst h1 h2=>cases e;exact .inl ⟨_,h1,by rw [zq8 h2.length]⟩
 |@dct ks ds p vs l h1 h2 =>
  cases e
  have e1:(mkKV ks vs).length=ks.length:=by unfold mkKV;rw [List.length_zip];lia
  exact .inr (.inr ⟨_,h1,by rw [zq8 e1]⟩)
 |pdc h=>cases e
def dTr (f:DE):DT:=fun t=>(f t).bind fun r=>truD r.d
def dBo (f:DE):DT:=fun t=>(f t).bind fun r=>match r.d with
 |.bl b=>some b
 |_=>none
def dAnd (f g:DT):DT:=fun t=>(f t).bind fun b=>if b then g t else some false
def dOr (f g:DT):DT:=fun t=>(f t).bind fun b=>if b then some true else g t
def dNot (f:DT):DT:=fun t=>(f t).bind fun b=>some (!b)
section
variable {X:Cx}{F:List Addr}{a b c:Expr}{es:List Expr}{fa fb fc:DE}{g g':DA}{ft fu:DT}{pos:Pos}{rest:List Expr}
theorem zab4 (ha:PE X a (dE X.K F fa)) (he:∀whole,isTrue a X.env whole=(do let v ← whole;standAt a.pos;holding [v] (truthy v)):=by intro _;rfl):PT X a (dT X.K F (dTr fa)):=by
 refine PT.imp (pt_truth ha he) ?_
 rintro σ H Q ⟨A,t,r,R,e,h⟩
 unfold dTr at e
 cases e1:fa t with
 |none=>rw [e1]at e;cases e
 |some r1 =>
  rw [e1]at e
  exact⟨A,t,r1,R,e1,fun v H' g' q=>⟨r,truV_of q.full e,h H' g'⟩⟩
theorem zg7 {op:CmpOp}{k:Ev→Ev→Option Ev} (ho:OpD X F (compareOp op) k) (ha:PE X a (dE X.K F fa)) (hb:PE X b (dE X.K F fb)) (hm:behindInMarks op b=false:=by first | exact nomark _ | (with_unfolding_all rfl)) :
  PT X (.Compare a [op] [b] pos) (dT X.K F (dBo (d2 k fa fb))):=by
 intro pins s σ H Q I h
 obtain⟨A,t,b',R,e,h⟩:=h
 unfold dBo at e
 cases e1:d2 k fa fb t with
 |none=>rw [e1]at e;cases e
 |some r0 =>
  rw [e1]at e
  have w0:dE X.K F (d2 k fa fb) σ H (fun z H'=>Same H H'∧Rep X.K H' r0.d z):=⟨A,t,r0,R,e1,fun v H' g q=>⟨g,q.full⟩⟩
  obtain⟨A2,t2,r1,r2,r,R2,e1',e2',e3,h3,w⟩:=two w0
  refine wpAny_isTrue_Compare1 (bin ha hb I w fun v u s2 x y H2 I2 rx ry q=>?_) hm
  obtain⟨g,q1,q2⟩:=q
  refine thn (ho pins s2 σ H H2 A2 x y v u (fun z H'=>Same H H'∧Rep X.K H' r0.d z) r1 r2 r I2 R2.mu g rx ry q1 q2 e3 fun z H' g'=>h3 z H' (g.trans g')) fun cc s3 ⟨z,H3,I3,r3,g3,q3⟩=>?_
  have e:(match r0.d with | .bl b=>some b | _=>none)=some b':=e
  split at e
  ·rename_i b2 z2
   cases e
   rw [z2]at q3
   cases q3
   cases r3
   exact wpAny_truthy_bool ⟨H3,I3,h H3 g3⟩
  ·cases e
theorem pwd_and1 (ha:PT X a (dT X.K F ft)):PW X (.BoolOp .And [a] pos) (dT X.K F ft):=pw_and1 ha
theorem zat9 (ha:PT X a (dT X.K F ft)):PW X (.BoolOp .Or [a] pos) (dT X.K F ft):=pw_or1 ha
theorem pwd_and (ha:PT X a (dT X.K F ft)) (hb:PW X (.BoolOp .And (b::rest) pos) (dT X.K F fu)):PW X (.BoolOp .And (a::b::rest) pos) (dT X.K F (dAnd ft fu)):=by
 refine PW.imp (pw_and ha hb) ?_
 rintro σ H Q ⟨A,t,r,R,e,h⟩
 unfold dAnd at e
 cases e1:ft t with
 |none=>rw [e1]at e;cases e
 |some r1 =>
  rw [e1]at e
  refine⟨A,t,r1,R,e1,fun H1 g1=>?_⟩
  cases r1 with
  |true=>exact⟨A,t,r,R.grow g1,e,fun H2 g2=>h H2 (g1.trans g2)⟩
  |false=>cases e;exact h H1 g1
theorem zau0 (ha:PT X a (dT X.K F ft)) (hb:PW X (.BoolOp .Or (b::rest) pos) (dT X.K F fu)):PW X (.BoolOp .Or (a::b::rest) pos) (dT X.K F (dOr ft fu)):=by
 refine PW.imp (pw_or ha hb) ?_
 rintro σ H Q ⟨A,t,r,R,e,h⟩
 unfold dOr at e
 cases e1:ft t with
 |none=>rw [e1]at e;cases e
 |some r1 =>
  rw [e1]at e
  refine⟨A,t,r1,R,e1,fun H1 g1=>?_⟩
  cases r1 with
  |true=>cases e;exact h H1 g1
  |false=>exact⟨A,t,r,R.grow g1,e,fun H2 g2=>h H2 (g1.trans g2)⟩
theorem ptd_not (ha:PT X a (dT X.K F ft)):PT X (.UnaryOp .Not a pos) (dT X.K F (dNot ft)):=by
 refine PT.imp (pt_not ha) ?_
 rintro σ H Q ⟨A,t,r,R,e,h⟩
 unfold dNot at e
 cases e1:ft t with
 |none=>rw [e1]at e;cases e
 |some r1 =>
  rw [e1]at e
  cases e
  exact⟨A,t,r1,R,e1,fun H1 g1=>h H1 g1⟩
def zah6 (f g:DE):DE:=fun t=>(f t).bind fun r=>match r.d with
 |.bl b=>if b then g t else some (.cl (.bl false))
 |_=>none
theorem zav1 {op} (h:PE X a (dE X.K F fa)):PE X (.BoolOp op [a] pos) (dE X.K F fa):=pe_one h
theorem zab7 (ha:PE X a (dE X.K F fa)) (hb:PE X (.BoolOp .And (b::rest) pos) (dE X.K F fb)):PE X (.BoolOp .And (a::b::rest) pos) (dE X.K F (zah6 fa fb)):=by
 refine PE.imp (pe_and ha hb) ?_
 rintro σ H Q ⟨A,t,r,R,e,h⟩
 unfold zah6 at e
 cases e1:fa t with
 |none=>rw [e1]at e;cases e
 |some r1 =>
  rw [e1]at e
  refine⟨A,t,r1,R,e1,fun v H1 g1 q1=>?_⟩
  have p:=q1.full
  have e:(match r1.d with | .bl b=>if b then fb t else some (.cl (.bl false)) |_=>none)=some r:=e
  split at e
  ·rename_i b2 z
   rw [z]at p
   cases p
   refine⟨b2,rfl,?_⟩
   cases b2 with
   |true=>exact⟨A,t,r,R.grow g1,e,fun v2 H2 g2 q2=>h v2 H2 (g1.trans g2) (q2.back g1)⟩
   |false=>cases e;exact h _ H1 g1 (.bl false)
  ·cases e
end
inductive Out where
 |nx (t:Th) |rt (r:Ev) |bk (t:Th) |ct (t:Th)
abbrev DS:=Th→Option Out
def After (K:zbc5) (F A:List Addr) (H:Hp) (N:L2.St→Hp→Prop) (t:Th):Prop := ∀σ' H' A',Gr A H A' H'→RS K F H' A' t σ'→N σ' H'
noncomputable def RetEv (K:zbc5) (F A:List Addr) (H H':Hp):Ev→V→Prop
 |.cl d,v=>Rep K (hide F H') d v
 |.tm d,v=>Rep K (hide F H') d v
 |.nw xs,v => ∃p vs,v=.ref p∧(p∈A∨H p=none)∧p∉F∧H' p=some (.lst vs)∧Reps K (hide (p::F) H') xs vs
 |.dn d,v => ∃B,B.Nodup∧(∀b∈B,(b∈A∨H b=none)∧b∉F)∧RepD K (hide (B++F) H') H' d v B
def Back (K:zbc5) (F A:List Addr) (H:Hp) (N:VK) (r:Ev):Prop := ∀v H' A',Gr A H A' H'→RetEv K F A H H' r v→N v H'
noncomputable def dS (K:zbc5) (F:List Addr) (g:DS):TS:=fun E σ H => ∃A t o,RS K F H A t σ∧g t=some o∧match o with
 |.nx t'=>After K F A H E.nx t'
 |.bk t'=>After K F A H E.bk t'
 |.ct t'=>After K F A H E.ct t'
 |.rt r=>Back K F A H E.rt r
end DL
namespace DL
open PySem.Spec L2
theorem RetEv.back {K:zbc5}{F A A1:List Addr}{H H1 H':Hp}{r:Ev}{v:V} (g:Gr A H A1 H1) (h:RetEv K F A1 H1 H' r v):RetEv K F A H H' r v:=by
 cases r with
 |cl d=>exact h
 |tm d=>exact h
 |nw xs =>
  obtain⟨p,vs,rfl,h1,h2,h3,h4⟩:=h
  refine⟨p,vs,rfl,?_,h2,h3,h4⟩
  rcases h1 with h1 | h1
  ·exact g.nw p h1
  ·by_cases z:p∈A
   ·exact .inl z
   ·refine .inr ?_
    cases w:H p with
    |none=>rfl
    |some o=>rw [g.kp p o z w]at h1;cases h1
 |dn d =>
  obtain⟨B,h0,h1,h2⟩:=h
  refine⟨B,h0,fun p hp=>⟨?_,(h1 p hp).2⟩,h2⟩
  rcases (h1 p hp).1 with h1 | h1
  ·exact g.nw p h1
  ·by_cases z:p∈A
   ·exact .inl z
   ·refine .inr ?_
    cases w:H p with
    |none=>rfl
    |some o=>rw [g.kp p o z w]at h1;cases h1
theorem After.back {K:zbc5}{F A A1:List Addr}{H H1:Hp}{N:L2.St→Hp→Prop}{t:Th} (h:After K F A H N t) (g:Gr A H A1 H1):After K F A1 H1 N t:=fun σ' H' A' g' R=>h σ' H' A' (g.trans g') R
theorem Back.back {K:zbc5}{F A A1:List Addr}{H H1:Hp}{N:VK}{r:Ev} (h:Back K F A H N r) (g:Gr A H A1 H1):Back K F A1 H1 N r:=fun v H' A' g' R=>h v H' A' (g.trans g') (R.back g)
theorem PS.imp {X:Cx}{e:Stmt}{t t':TS} (h:PS X e t) (i:∀E σ H,t' E σ H→t E σ H):PS X e t':=fun pins s σ H D I q=>h pins s σ H D I (i D σ H q)
theorem PSs.imp {X:Cx}{e:List Stmt}{t t':TS} (h:PSs X e t) (i:∀E σ H,t' E σ H→t E σ H):PSs X e t':=fun pins s σ H D I q=>h pins s σ H D I (i D σ H q)
theorem Lists.left {H:Hp}{A F:List Addr} (h:Lists H (A++F)):Lists H A:=fun p hp=>h p (zbc7 _ hp)
def zt6:DS:=fun t=>some (.nx t)
noncomputable def dSeq (g1 g2:DS):DS:=fun t=>(g1 t).bind fun o=>match o with
 |.nx t'=>g2 t'
 |.rt r=>some (.rt r)
 |.bk t'=>some (.bk t')
 |.ct t'=>some (.ct t')
section
variable {X:Cx}{F:List Addr}{a b c:Expr}{es:List Expr}{fa fb fc:DE}{g g1 g2:DS}{ft fu:DT}{pos:Pos}{st:Stmt}{rest:List Stmt}
theorem zm9:PSs X [] (dS X.K F zt6):=PSs.imp pss_nil fun E σ H ⟨A,t,o,R,e,h⟩=>by cases e;exact h σ H A (Gr.refl R.mu.left) R
theorem za5 (h1:PS X st (dS X.K F g1)) (h2:PSs X rest (dS X.K F g2)):PSs X (st::rest) (dS X.K F (dSeq g1 g2)):=by
 refine PSs.imp (pss_cons h1 h2) ?_
 rintro E σ H ⟨A,t,o,R,e,h⟩
 unfold dSeq at e
 cases e1:g1 t with
 |none=>rw [e1]at e;cases e
 |some o1 =>
  rw [e1]at e
  refine⟨A,t,o1,R,e1,?_⟩
  cases o1 with
  |nx t' =>
   intro σ' H' A' g' R'
   refine⟨A',t',o,R',e,?_⟩
   cases o with
   |nx t2=>exact After.back h g'
   |bk t2=>exact After.back h g'
   |ct t2=>exact After.back h g'
   |rt r=>exact Back.back h g'
  |rt r=>cases e;exact h
  |bk t2=>cases e;exact h
  |ct t2=>cases e;exact h
theorem zb8 (h1:PS X st (dS X.K F g1)):PSs X [st] (dS X.K F g1):=pss_one h1
def dIfS (c:DT) (g1 g2:DS):DS:=fun t=>(c t).bind fun b=>if b then g1 t else g2 t
theorem zq2 {s1 s2:List Stmt} (hc:PT X c (dT X.K F ft)) (ha:PSs X s1 (dS X.K F g1)) (hb:PSs X s2 (dS X.K F g2)):PS X (.If c s1 s2 pos) (dS X.K F (dIfS ft g1 g2)):=by
 refine PS.imp (ps_if hc ha hb) ?_
 rintro E σ H ⟨A,t,o,R,e,h⟩
 unfold dIfS at e
 cases e1:ft t with
 |none=>rw [e1]at e;cases e
 |some r1 =>
  rw [e1]at e
  refine⟨A,t,r1,R,e1,fun H1 gs=>?_⟩
  have gr:Gr A H A H1:=Gr.of_same R.mu.left gs
  cases r1 with
  |true =>
   refine⟨A,t,o,R.grow gs,e,?_⟩
   cases o with
   |nx t2=>exact After.back h gr
   |bk t2=>exact After.back h gr
   |ct t2=>exact After.back h gr
   |rt r=>exact Back.back h gr
  |false =>
   refine⟨A,t,o,R.grow gs,e,?_⟩
   cases o with
   |nx t2=>exact After.back h gr
   |bk t2=>exact After.back h gr
   |ct t2=>exact After.back h gr
   |rt r=>exact Back.back h gr
def dRet (f:DE):DS:=fun t=>(f t).bind fun r=>some (.rt r)
theorem RetEv.of {K:zbc5}{F A:List Addr}{H H':Hp}{r:Ev}{v:V} (m:Lists H (A++F)) (h:RepEv K F A H H' r v):RetEv K F A H H' r v:=by
 cases r with
 |cl d=>exact Rep.mono (za7 H' fun a z=>zbc4 _ z) h
 |tm d=>exact h
 |nw xs =>
  obtain⟨p,vs,rfl,h1,h2,h3⟩:=h
  have np:p∉A++F:=zc4 m h1
  refine⟨p,vs,rfl,.inr h1,fun z=>np (zbc4 _ z),h2,Reps.mono (za7 H' fun a z=>?_) h3⟩
  rcases zbd2.mp z with z | z
  ·rw [z];exact zbc9 ..
  ·exact zbc6 _ (zbc4 _ z)
 |dn d =>
  obtain⟨B,h1,h2,h3⟩:=h
  refine⟨B,h1,fun b hb=>⟨.inr (h2 b hb),fun z=>zc4 m (h2 b hb) (zbc4 _ z)⟩,RepD.mono (za7 H' fun a z=>?_) h3 fun _ _ _ q=>q⟩
  rcases zbd0.mp z with z | z
  ·exact zbc7 _ z
  ·exact zbc4 _ (zbc4 _ z)
theorem zd4 (ha:PE X a (dE X.K F fa)):PS X (.Return (some a) pos) (dS X.K F (dRet fa)):=by
 refine PS.imp (zan1 ha) ?_
 rintro E σ H ⟨A,t,o,R,e,h⟩
 unfold dRet at e
 cases e1:fa t with
 |none=>rw [e1]at e;cases e
 |some r1 =>
  rw [e1]at e
  cases e
  exact⟨A,t,r1,R,e1,fun v H' gs q=>h v H' A (Gr.of_same R.mu.left gs) (RetEv.of R.mu q)⟩
noncomputable def zar1 (i:Nat):DS:=fun t=>match t[i]? with
 |some (.own xs)=>some (.rt (.nw xs))
 |some (.val d)=>some (.rt (.cl d))
 |some (.dp d)=>some (.rt (.dn d))
 |_=>none
theorem zu6 (i:Nat) {x:Str}{pos':Pos} (hN:X.N[i]?=some x:=by rfl) (hv:Vis X.env.scope x:=by first | exact Or.inl rfl | exact Or.inr (Or.inl rfl) |exact Or.inr (Or.inr rfl)) (hd:(x ==("__debug__":Str))=false:=by decide)
  (hcd:(x ==("__classdict__":Str))=false:=by decide):PS X (.Return (some (.Name x pos')) pos) (dS X.K F (zar1 i)):=by
 refine PS.imp (zan1 (zo5 (i:=i) hN hv hd hcd)) ?_
 rintro E σ H ⟨A,t,o,R,e,h⟩
 unfold zar1 at e
 split at e
 ·rename_i ds q
  cases e
  obtain⟨p,vs,h1,h2,h3,h4⟩:=R.rel.getOwn q
  refine⟨_,h1,h _ H A (Gr.refl R.mu.left) ⟨p,vs,rfl,.inl h2,R.dj p h2,h3,Reps.mono (za7 H fun a z=>?_) h4⟩⟩
  rcases zbd2.mp z with z | z
  ·rw [z];exact zbc7 _ h2
  ·exact zbc4 _ z
 ·rename_i d q
  cases e
  obtain⟨v,h1,h2⟩:=R.rel.getVal q
  exact⟨v,h1,h v H A (Gr.refl R.mu.left) (Rep.mono (za7 H fun a z=>zbc4 _ z) h2)⟩
 ·rename_i d q
  cases e
  obtain⟨v,B,h1,h2,h0,h3⟩:=R.rel.getDp R.nd q
  refine⟨v,h1,h v H A (Gr.refl R.mu.left) ⟨B,h0,fun b hb=>⟨.inl (h2 b hb),R.dj b (h2 b hb)⟩,RepD.mono (za7 H fun a z=>?_) h3 fun _ _ _ q=>q⟩⟩
  rcases zbd0.mp z with z | z
  ·exact zbc7 _ (h2 a z)
  ·exact zbc4 _ z
 ·cases e
end
theorem RSl.setVal {K:zbc5}{H0 H:Hp}{d:D}{v:V} (h:Rep K H0 d v):∀ {t:Th}{σ:L2.St}{A:List Addr} (i:Nat),RSl K H0 H t σ A→i<t.length→∃A',RSl K H0 H (t.set i (.val d)) (σ.set i (some v)) A'∧List.Sublist A' A
 |_,_,_,_,.nil,l=>by simp at l
 |_,_,_,0,.no r,_=>⟨_,.val h r,List.Sublist.refl _⟩
 |_,_,_,0,.val _ r,_=>⟨_,.val h r,List.Sublist.refl _⟩
 |_,_,_,0,.own _ _ r,_=>⟨_,.val h r,zbp4 _ _⟩
 |_,_,_,0,.dp _ r,_=>⟨_,.val h r,zbn9 _ _⟩
 |_,_,_,i+1,.no r,l=>let ⟨A',a,b⟩:=RSl.setVal h i r (by simpa using l);⟨A',.no a,b⟩
 |_,_,_,i+1,.val q r,l=>let ⟨A',a,b⟩:=RSl.setVal h i r (by simpa using l);⟨A',.val q a,b⟩
 |_,_,_,i+1,.own q1 q2 r,l=>let ⟨A',a,b⟩:=RSl.setVal h i r (by simpa using l);⟨_,.own q1 q2 a,b.cons₂ _⟩
 |_,_,_,i+1,.dp q r,l=>let ⟨A',a,b⟩:=RSl.setVal h i r (by simpa using l);⟨_,.dp q a,List.Sublist.append (List.Sublist.refl _) b⟩
theorem RSl.setAny {K:zbc5}{H0 H:Hp}{s:Sl}{v:V}{B:List Addr} (h:∀ {t:Th}{σ:L2.St}{A:List Addr},RSl K H0 H t σ A→RSl K H0 H (s::t) (some v::σ) (B++A)):∀ {t:Th}{σ:L2.St}{A:List Addr} (i:Nat),RSl K H0 H t σ A→i<t.length →
  ∃A',RSl K H0 H (t.set i s) (σ.set i (some v)) A'∧(∀x∈A',x∈B∨x∈A)∧(A.Nodup→B.Nodup→(∀b∈B,b∉A)→A'.Nodup)
 |_,_,_,_,.nil,l=>by simp at l
 |_,_,A,0,.no r,_=>⟨_,h r,fun x hx=>zbd0.mp hx,fun n1 n2 d=>zbe0.mpr ⟨n2,n1,fun a ha b hb e=>d a ha (e ▸ hb)⟩⟩
 |_,_,A,0,.val _ r,_=>⟨_,h r,fun x hx=>zbd0.mp hx,fun n1 n2 d=>zbe0.mpr ⟨n2,n1,fun a ha b hb e=>d a ha (e ▸ hb)⟩⟩
 |_,_,_,0,.own _ _ r,_=>⟨_,h r,fun x hx=>(zbd0.mp hx).imp id (zbc6 _),fun n1 n2 d=>zbe0.mpr ⟨n2,(zbe6.mp n1).2,fun a ha b hb e=>d a ha (e ▸ zbc6 _ hb)⟩⟩
 |_,_,_,0,.dp _ r,_=>⟨_,h r,fun x hx=>(zbd0.mp hx).imp id (zbc4 _),fun n1 n2 d=>zbe0.mpr ⟨n2,(zbe0.mp n1).2.1,fun a ha b hb e=>d a ha (e ▸ zbc4 _ hb)⟩⟩
 |_,_,_,i+1,.no r,l=>let ⟨A',a,b,c⟩:=RSl.setAny h i r (by simpa using l);⟨A',.no a,b,c⟩
 |_,_,_,i+1,.val q r,l=>let ⟨A',a,b,c⟩:=RSl.setAny h i r (by simpa using l);⟨A',.val q a,b,c⟩
 |_,_,_,i+1,.own (p:=p2) q1 q2 r,l=>by
  obtain⟨A',a,b,c⟩:=RSl.setAny h i r (by simpa using l)
  refine⟨_,.own q1 q2 a,fun x hx=>?_,fun nd nb np=>?_⟩
  ·rcases zbd2.mp hx with z | z
   ·exact .inr (z ▸ zbc9 ..)
   ·exact (b x z).imp id (zbc6 _)
  ·have n1:=zbe6.mp nd
   refine zbe6.mpr ⟨fun z=>?_,c n1.2 nb fun x hx z=>np x hx (zbc6 _ z)⟩
   rcases b _ z with z | z
   ·exact np _ z (zbc9 ..)
   ·exact n1.1 z
 |_,_,_,i+1,.dp (B:=C) q r,l=>by
  obtain⟨A',a,b,c⟩:=RSl.setAny h i r (by simpa using l)
  refine⟨_,.dp q a,fun x hx=>?_,fun nd nb np=>?_⟩
  ·rcases zbd0.mp hx with z | z
   ·exact .inr (zbc7 _ z)
   ·exact (b x z).imp id (zbc4 _)
  ·have n1:=zbe0.mp nd
   refine zbe0.mpr ⟨n1.1,c n1.2.1 nb fun x hx z=>np x hx (zbc4 _ z),fun x hx y hy e=>?_⟩
   subst e
   rcases b _ hy with z | z
   ·exact np _ z (zbc7 _ hx)
   ·exact n1.2.2 _ hx _ z rfl
theorem RS.putAny {K:zbc5}{F A:List Addr}{H H':Hp}{t:Th}{σ:L2.St}{i:Nat}{s:Sl}{v:V}{B:List Addr} (R:RS K F H A t σ) (g:Same H H') (fr:∀b∈B,H b=none) (nb:B.Nodup) (lb:Lists H' B)
  (mk:∀ {t:Th}{σ:L2.St}{A':List Addr},RSl K (hide (B++(A++F)) H') H' t σ A'→RSl K (hide (B++(A++F)) H') H' (s::t) (some v::σ) (B++A')) (hi:i<t.length) :
  ∃A',Gr A H A' H'∧RS K F H' A' (t.set i s) (σ.set i (some v)):=by
 have R':=R.grow g
 have np:∀b∈B,b∉A++F:=fun b hb=>zc4 R.mu (fr b hb)
 have r0:RSl K (hide (B++(A++F)) H') H' t σ A:=RSl.mono (fun b o h=>by
  obtain⟨n,h⟩:=zg2 h
  refine zb9 (g _ _ h) fun z=>?_
  rcases zbd0.mp z with z | z
  ·rw [fr b z]at h;cases h
  ·exact n z) R.rel fun b _ o h=>g _ _ h
 obtain⟨A',r1,sub,nd⟩:=RSl.setAny mk i r0 hi
 refine⟨A',⟨fun b o _ h=>g b o h,fun b hb=>by obtain⟨ws,z⟩:=R.mu b (zbc7 _ hb);rw [g _ _ z];simp,fun b hb=>?_⟩,?_,nd R.nd nb fun b hb z=>np b hb (zbc7 _ z),fun b hb=>?_,?_⟩
 ·rcases sub b hb with z | z
  ·exact .inr (fr b z)
  ·exact .inl z
 ·intro b hb
  rcases zbd0.mp hb with z | z
  ·rcases sub b z with z | z
   ·exact lb b z
   ·exact R'.mu b (zbc7 _ z)
  ·exact R'.mu b (zbc4 _ z)
 ·rcases sub b hb with z | z
  ·exact fun w=>np b z (zbc4 _ w)
  ·exact R.dj b z
 ·refine RSl.mono (za7 H' fun b z=>?_) r1 fun _ _ _ h=>h
  rcases zbd0.mp z with z | z
  ·rcases sub b z with z | z
   ·exact zbc7 _ z
   ·exact zbc4 _ (zbc7 _ z)
  ·exact zbc4 _ (zbc4 _ z)
noncomputable def zm0 (t:Th) (i:Nat) (r:Ev):Option Th:=if i<t.length then (match r with
 |.cl d=>some (t.set i (.val d))
 |.tm d=>if flat d then some (t.set i (.val d)) else none
 |.nw xs=>some (t.set i (.own xs))
 |.dn d=>some (t.set i (.dp d))) else none
theorem RS.put {K:zbc5}{F A:List Addr}{H H':Hp}{t t':Th}{σ:L2.St}{i:Nat}{r:Ev}{v:V} (R:RS K F H A t σ) (g:Same H H') (q:RepEv K F A H H' r v) (e:zm0 t i r=some t') :
  ∃A',Gr A H A' H'∧RS K F H' A' t' (σ.set i (some v)):=by
 have R':=R.grow g
 have val:∀d,Rep K (hide (A++F) H') d v→i<t.length→∃A',Gr A H A' H'∧RS K F H' A' (t.set i (.val d)) (σ.set i (some v)):=fun d hd hi=>by
  obtain⟨A',r1,sub⟩:=RSl.setVal hd i R'.rel hi
  have sub':∀x∈A',x∈A:=fun x hx=>sub.subset hx
  refine⟨A',⟨fun b o _ h=>g b o h,fun b hb=>by obtain⟨vs,z⟩:=R.mu b (zbc7 _ hb);rw [g _ _ z];simp,fun b hb=>.inl (sub' b hb)⟩,?_,R.nd.sublist sub,fun p hp=>R.dj p (sub' p hp),?_⟩
  ·intro p hp
   rcases zbd0.mp hp with z | z
   ·exact R'.mu p (zbc7 _ (sub' p z))
   ·exact R'.mu p (zbc4 _ z)
  ·refine RSl.mono (za7 H' fun a z=>?_) r1 fun _ _ _ h=>h
   rcases zbd0.mp z with z | z
   ·exact zbc7 _ (sub' a z)
   ·exact zbc4 _ z
 unfold zm0 at e
 split at e
 case isFalse=>cases e
 rename_i hi
 cases r with
 |cl d=>cases e;exact val d q hi
 |tm d =>
  simp only at e
  split at e
  ·rename_i f
   cases e
   exact val d (Rep.hid R'.mu f (Rep.mono (zb0 _ _) q)) hi
  ·cases e
 |nw xs =>
  cases e
  obtain⟨p,vs,rfl,h1,h2,h3⟩:=q
  exact R.putAny (B:=[p]) g (fun b hb=>by simp at hb;subst hb;exact h1) (by simp) (fun b hb=>by simp at hb;subst hb;exact⟨mL vs,h2⟩) (fun r=>.own h2 h3 r) hi
 |dn d =>
  cases e
  obtain⟨B,h1,h2,h3⟩:=q
  exact R.putAny (B:=B) g h2 h1 h3.lists (fun r=>.dp h3 r) hi
section
variable {X:Cx}{F:List Addr}{a b c:Expr}{es:List Expr}{fa fb fc:DE}{g g1 g2:DS}{ft fu:DT}{pos:Pos}{st:Stmt}{rest:List Stmt}
def dAsg (i:Nat) (f:DE):DS:=fun t=>(f t).bind fun r=>(zm0 t i r).map Out.nx
theorem zc8 {i:Nat}{x:Str}{pos':Pos} (hN:X.N.Nodup) (hi:X.N[i]?=some x) (hx:Loc X.env.scope x) (he:PE X a (dE X.K F fa)) (hs:swapsWith a (some (.Name x pos')) pos.line X.env=pure false:=by rfl) (hf:X.fn x=true∨X.env.scope.names.lookup x=some .local:=by first | exact .inl rfl | exact .inr rfl | assumption) :
  PS X (.Assign [.Name x pos'] a pos) (dS X.K F (dAsg i fa)):=by
 refine PS.imp (ps_set hN hi hx he hs hf) ?_
 rintro E σ H ⟨A,t,o,R,e,h⟩
 unfold dAsg at e
 cases e1:fa t with
 |none=>rw [e1]at e;cases e
 |some r1 =>
  rw [e1]at e
  have e:(zm0 t i r1).map Out.nx=some o:=e
  cases e2:zm0 t i r1 with
  |none=>rw [e2]at e;cases e
  |some t' =>
   rw [e2]at e
   cases e
   refine⟨A,t,r1,R,e1,fun v H' gs q=>?_⟩
   obtain⟨A',g',R'⟩:=R.put gs q e2
   exact h _ _ _ g' R'
end
end DL
namespace DL
open PySem.Spec L2
noncomputable def TgOk (K:zbc5) (F:List Addr) (g:TG) (k:D→Th→Option Th):Prop :=
 ∀σ H A t t' d x (Q:L2.St→Hp→Prop),RS K F H A t σ→Rep K (hide (A++F) H) d x→k d t=some t'→(∀σ2 A2,Gr A H A2 H→RS K F H A2 t' σ2→Q σ2 H)→g x σ H Q
noncomputable def TgsOk (K:zbc5) (F:List Addr) (g:TGs) (k:List D→Th→Option Th):Prop :=
 ∀σ H A t t' ds xs (Q:L2.St→Hp→Prop),RS K F H A t σ→Reps K (hide (A++F) H) ds xs→k ds t=some t'→(∀σ2 A2,Gr A H A2 H→RS K F H A2 t' σ2→Q σ2 H)→g xs σ H Q
def za2 (i:Nat):D→Th→Option Th:=fun d t=>zm0 t i (.cl d)
def zk4:List D→Th→Option Th:=fun ds t=>match ds with
 |[]=>some t
 |_=>none
noncomputable def zc7 (k:D→Th→Option Th) (k':List D→Th→Option Th):List D→Th→Option Th:=fun ds t=>match ds with
 |d::r=>(k d t).bind (k' r)
 |[]=>none
noncomputable def zj0 (n:Nat) (k:List D→Th→Option Th):D→Th→Option Th:=fun d t=>match d with
 |.tup ds=>if ds.length=n then k ds t else none
 |_=>none
theorem zc5 {K:zbc5}{F:List Addr} (i:Nat):TgOk K F (gName i) (za2 i):=by
 intro σ H A t t' d x Q R r e h
 obtain⟨A',g,R'⟩:=R.put (i:=i) (r:=.cl d) (Same.refl H) r e
 exact h _ _ g R'
theorem zab2 {K:zbc5}{F:List Addr}:TgsOk K F gNil zk4:=by
 intro σ H A t t' ds xs Q R r e h
 cases r with
 |nil=>cases e;exact⟨rfl,h σ A (Gr.refl R.mu.left) R⟩
 |cons _ _=>cases e
theorem zj7 {K:zbc5}{F:List Addr}{g:TG}{g':TGs}{k:D→Th→Option Th}{k':List D→Th→Option Th} (h1:TgOk K F g k) (h2:TgsOk K F g' k'):TgsOk K F (gCons g g') (zc7 k k'):=by
 intro σ H A t t' ds xs Q R r e h
 cases r with
 |nil=>cases e
 |@cons d v ds vs r1 r2 =>
  unfold zc7 at e
  cases e1:k d t with
  |none=>simp only [e1]at e;cases e
  |some t1 =>
   simp only [e1]at e
   refine⟨v,vs,rfl,h1 σ H A t t1 d v _ R r1 e1 fun σ2 A2 g2 R2=>?_⟩
   exact h2 σ2 H A2 t1 t' ds vs Q R2 (Reps.mono g2.same r2) e fun σ3 A3 g3 R3=>h σ3 A3 (g2.trans g3) R3
theorem zam2 {K:zbc5}{F:List Addr}{n:Nat}{g':TGs}{k':List D→Th→Option Th} (h2:TgsOk K F g' k'):TgOk K F (gTup K n g') (zj0 n k'):=by
 intro σ H A t t' d x Q R r e h
 unfold zj0 at e
 split at e
 ·rename_i ds
  split at e
  ·rename_i hl
   cases r with
   |@tup _ p vs h1 hr=>exact⟨p,vs,rfl,SqT.mono (zb0 _ _) h1,by rw [hr.length];exact hl,h2 σ H A t t' ds vs Q R hr e h⟩
  ·cases e
 ·cases e
def zba0 (k:D→Th→Option Th) (f:DE):DS:=fun t=>(f t).bind fun r=>if r.ok then (k r.d t).map Out.nx else none
section
variable {X:Cx}{F:List Addr}{a b c:Expr}{es:List Expr}{fa fb fc:DE}{g g1 g2:DS}{ft fu:DT}{pos:Pos}{st:Stmt}{rest:List Stmt}{tg:Expr}{gt:TG}{kt:D→Th→Option Th}
theorem psd_asg (he:PE X a (dE X.K F fa)) (hg:PG X tg gt) (ht:TgOk X.K F gt kt) (hs:swapsWithSole [tg] a pos.line X.env=pure false:=by rfl) (hw:swappedStores [tg] a X.env=pure none:=by rfl)
  (h1:(assignEach [tg] X.env).map (·.2)=[assign tg X.env]:=by rfl):PS X (.Assign [tg] a pos) (dS X.K F (zba0 kt fa)):=by
 refine PS.imp (ps_asg he hg hs hw h1) ?_
 rintro E σ H ⟨A,t,o,R,e,h⟩
 unfold zba0 at e
 cases e1:fa t with
 |none=>rw [e1]at e;cases e
 |some r1 =>
  rw [e1]at e
  have e:(if r1.ok then (kt r1.d t).map Out.nx else none)=some o:=e
  split at e
  case isFalse=>cases e
  rename_i ok
  cases e2:kt r1.d t with
  |none=>rw [e2]at e;cases e
  |some t' =>
   rw [e2]at e
   cases e
   refine⟨A,t,r1,R,e1,fun v H' gs q=>?_⟩
   exact ht σ H' A t t' r1.d v E.nx (R.grow gs) (q.clean R.mu gs ok) e2 fun σ2 A2 g2 R2=>h σ2 H' A2 ((Gr.of_same R.mu.left gs).trans g2) R2
noncomputable def kPar (t:Th) (i j:Nat):List Ev→Option Out
 |[r1,r2]=>if r1.ok&&r2.ok then ((zm0 t i (.cl r1.d)).bind fun t1=>zm0 t1 j (.cl r2.d)).map Out.nx else none
 |_=>none
def dPar (i j:Nat) (f:DA):DS:=fun t=>(f t).bind (kPar t i j)
theorem psd_par {i j:Nat}{x y:Str}{ga:DA}{px py pt:Pos}{kt k2 pt2} (hc:X.calm=true) (hN:X.N.Nodup) (hi:X.N[i]?=some x) (hj:X.N[j]?=some y) (hij:i≠j)
  (hx:X.env.scope.names.lookup x=some .local) (hy:X.env.scope.names.lookup y=some .local) (ha:PA X [a,b] (dA X.K F ga))
  (hw:swappedStores [.Tuple [.Name x px,.Name y py] kt pt] (.Tuple [a,b] k2 pt2) X.env=pure (some [x,y]))
  (hs:swapsWithSole [.Tuple [.Name x px,.Name y py] kt pt] (.Tuple [a,b] k2 pt2) pos.line X.env=pure false:=by rfl) :
  PS X (.Assign [.Tuple [.Name x px,.Name y py] kt pt] (.Tuple [a,b] k2 pt2) pos) (dS X.K F (dPar i j ga)):=by
 refine PS.imp (ps_par hc hN hi hj hij hx hy ha hw hs) ?_
 rintro E σ H ⟨A,t,o,R,e,h⟩
 unfold dPar at e
 cases e1:ga t with
 |none=>rw [e1]at e;cases e
 |some rs =>
  rw [e1]at e
  refine⟨A,t,rs,R,e1,fun vs H' gs q=>?_⟩
  have e:kPar t i j rs=some o:=e
  cases q with
  |nil=>cases e
  |@cons r1 _ _ _ q1 q' =>
   cases q' with
   |nil=>cases e
   |@cons r2 _ _ _ q2 q3 =>
   cases q3 with
   |cons _ _=>cases e
   |nil =>
    simp only [kPar]at e
    split at e
    case isFalse=>cases e
    rename_i ok
    simp only [zbd8]at ok
    refine⟨_,_,rfl,?_⟩
    cases e2:zm0 t i (.cl r1.d) with
    |none=>rw [e2]at e;cases e
    |some t1 =>
     rw [e2]at e
     have e:(zm0 t1 j (.cl r2.d)).map Out.nx=some o:=e
     cases e3:zm0 t1 j (.cl r2.d) with
     |none=>rw [e3]at e;cases e
     |some t2 =>
      rw [e3]at e
      cases e
      have c2:=q2.clean R.mu gs ok.2
      obtain⟨A1,g1,R1⟩:=(R.grow gs).put (i:=i) (r:=.cl r1.d) (Same.refl H') (q1.clean R.mu gs ok.1) e2
      obtain⟨A2,g2,R2⟩:=R1.put (i:=j) (r:=.cl r2.d) (Same.refl H') (Rep.mono g1.same c2) e3
      exact h _ _ _ (((Gr.of_same R.mu.left gs).trans g1).trans g2) R2
end
noncomputable def forD (k:D→Th→Option Th) (body:DS):List D→Th→Option Out
 |[],t=>some (.nx t)
 |d::ds,t=>(k d t).bind fun t1=>(body t1).bind fun o=>match o with
  |.nx t'=>forD k body ds t'
  |.ct t'=>forD k body ds t'
  |.bk t'=>some (.nx t')
  |.rt r=>some (.rt r)
noncomputable def whD (c:DT) (body:DS):Nat→Th→Option Out
 |0,_=>none
 |n+1,t=>(c t).bind fun b=>if b then (body t).bind fun o=>match o with
  |.nx t'=>whD c body n t'
  |.ct t'=>whD c body n t'
  |.bk t'=>some (.nx t')
  |.rt r=>some (.rt r) else some (.nx t)
def zt8 (fu:Th→Nat) (c:DT) (body:DS):DS:=fun t=>whD c body (fu t) t
noncomputable def Post (K:zbc5) (F A:List Addr) (H:Hp) (E:Ends):Out→Prop
 |.nx t'=>After K F A H E.nx t'
 |.bk t'=>After K F A H E.bk t'
 |.ct t'=>After K F A H E.ct t'
 |.rt r=>Back K F A H E.rt r
theorem Post.back {K:zbc5}{F A A1:List Addr}{H H1:Hp}{E:Ends}{o:Out} (h:Post K F A H E o) (g:Gr A H A1 H1):Post K F A1 H1 E o:=by
 cases o with
 |nx t2=>exact After.back h g
 |bk t2=>exact After.back h g
 |ct t2=>exact After.back h g
 |rt r=>exact Back.back h g
theorem zaz7 {K:zbc5}{F A:List Addr}{g:DS}{E:Ends}{σ:L2.St}{H:Hp}{t:Th}{o:Out} (R:RS K F H A t σ) (e:g t=some o) (p:Post K F A H E o):dS K F g E σ H:=⟨A,t,o,R,e,by cases o<;>exact p⟩
theorem zaz6 {K:zbc5}{F:List Addr}{g:DS}{E:Ends}{σ:L2.St}{H:Hp} (h:dS K F g E σ H):∃A t o,RS K F H A t σ∧g t=some o∧Post K F A H E o:=by
 obtain⟨A,t,o,R,e,h⟩:=h
 exact⟨A,t,o,R,e,by cases o<;>exact h⟩
section
variable {X:Cx}{F:List Addr}{a b c:Expr}{es:List Expr}{fa fb fc:DE}{g g1 g2:DS}{ft fu:DT}{pos:Pos}{st:Stmt}{rest:List Stmt}{tg:Expr}{gt:TG}{kt:D→Th→Option Th}
theorem zv8 {body:List Stmt} (m:Th→Nat) (hp:PassesOwn (model X.prog X.w) X.A X.env X.xe) (hc:PT X c (dT X.K F ft)) (hb:PSs X body (dS X.K F g)):PS X (.While c body [] pos) (dS X.K F (zt8 m ft g)):=by
 refine PS.imp (ps_while hp hc hb) ?_
 intro E σ H hh
 obtain⟨A,t,o,R,e,h⟩:=zaz6 hh
 refine⟨fun n σ H => ∃A t o,whD ft g n t=some o∧RS X.K F H A t σ∧Post X.K F A H E o,⟨m t,A,t,o,e,R,h⟩,?_⟩
 rintro n σ H ⟨A,t,o,e,R,h⟩
 cases n with
 |zero=>cases e
 |succ n =>
  simp only [whD]at e
  cases e1:ft t with
  |none=>rw [e1]at e;cases e
  |some b =>
   rw [e1]at e
   refine⟨A,t,b,R,e1,fun H1 gs=>?_⟩
   have gr:Gr A H A H1:=Gr.of_same R.mu.left gs
   cases b with
   |false =>
    have e:some (Out.nx t)=some o:=e
    cases e
    exact iteF (h σ H1 A gr (R.grow gs))
   |true =>
    have e:((g t).bind fun o=>match o with
     |.nx t'=>whD ft g n t'
     |.ct t'=>whD ft g n t'
     |.bk t'=>some (.nx t')
     |.rt r=>some (.rt r))=some o:=e
    refine iteT ⟨fun σ' H' => ∃A t o,whD ft g n t=some o∧RS X.K F H' A t σ'∧Post X.K F A H' E o,fun σ' H' q=>⟨n,zbj2 n,q⟩,?_⟩
    cases e2:g t with
    |none=>rw [e2]at e;cases e
    |some o2 =>
     rw [e2]at e
     refine zaz7 (R.grow gs) e2 ?_
     cases o2 with
     |nx t'=>exact fun σ' H' A' g' R'=>⟨A',t',o,e,R',h.back (gr.trans g')⟩
     |ct t'=>exact fun σ' H' A' g' R'=>⟨A',t',o,e,R',h.back (gr.trans g')⟩
     |bk t'=>cases e;exact fun σ' H' A' g' R'=>h σ' H' A' (gr.trans g') R'
     |rt r=>cases e;exact Back.back h gr
theorem zao3 {K:zbc5}{J:It}{ds:List D}{E:Ends}{σ:L2.St}{H:Hp}{A:List Addr}{t:Th}{o:Out} (Good:List Addr→Hp→Prop) (ht:TgOk K F gt kt) (R:RS K F H A t σ) (e:forD kt g ds t=some o) (h:Post K F A H E o) (g0:Good A H)
  (keep:∀A H A' H',Good A H→Gr A H A' H'→Good A' H') (stop:∀A H,Good A H→J.stop ds.length H) (go:∀A H i,Good A H→i<ds.length→J.go i H)
  (yld:∀A H i x H',Good A H→Lists H (A++F)→J.yld i H x H'→i<ds.length→Same H H'∧∃d,ds[i]?=some d∧Rep K (hide (A++F) H') d x) :
  ∃W:Nat→Nat→L2.St→Hp→Prop,(∃m,W 0 m σ H)∧∀i m σ H,W i m σ H →
   (J.stop i H∧E.nx σ H)∨(J.go i H∧∃N:L2.St→Hp→Prop,(∀σ' H',N σ' H'→∃m',m' < m∧W (i+1) m' σ' H')∧∀x H',J.yld i H x H'→gt x σ H' fun σ2 H2=>dS K F g { E with nx:=N,ct:=N,bk:=E.nx } σ2 H2):=by
 refine⟨fun i m σ H=>i+m=ds.length∧∃A t o,forD kt g (ds.drop i) t=some o∧RS K F H A t σ∧Post K F A H E o∧Good A H,⟨ds.length,by lia,A,t,o,by simpa using e,R,h,g0⟩,?_⟩
 rintro i m σ H ⟨hm,A,t,o,e,R,h,gd⟩
 cases m with
 |zero =>
  have z:i=ds.length:=by lia
  subst z
  rw [zbk4]at e
  cases e
  exact .inl ⟨stop A H gd,h σ H A (Gr.refl R.mu.left) R⟩
 |succ m =>
  have hi:i<ds.length:=by lia
  refine .inr ⟨go A H i gd hi,fun σ' H'=>i+1+m=ds.length∧∃A t o,forD kt g (ds.drop (i+1)) t=some o∧RS K F H' A t σ'∧Post K F A H' E o∧Good A H',fun σ' H' q=>⟨m,zbj2 m,q⟩,fun x H' y=>?_⟩
  obtain⟨gs,d,hd,rd⟩:=yld A H i x H' gd R.mu y hi
  have ed:ds.drop i=d::ds.drop (i+1):=by
   have hd':ds[i]=d:=by
    rw [zbd1 hi]at hd
    exact Option.some.inj hd
   rw [← hd']
   exact zbe9 hi
  rw [ed]at e
  simp only [forD]at e
  cases e1:kt d t with
  |none=>rw [e1]at e;cases e
  |some t1 =>
   rw [e1]at e
   refine ht σ H' A t t1 d x _ (R.grow gs) rd e1 fun σ2 A2 gr3 R2=>?_
   have gr2:Gr A H A2 H':=(Gr.of_same R.mu.left gs).trans gr3
   have e:((g t1).bind fun o=>match o with
     |.nx t'=>forD kt g (ds.drop (i+1)) t'
     |.ct t'=>forD kt g (ds.drop (i+1)) t'
     |.bk t'=>some (.nx t')
     |.rt r=>some (.rt r))=some o:=e
   cases e2:g t1 with
   |none=>rw [e2]at e;cases e
   |some o2 =>
    rw [e2]at e
    refine zaz7 R2 e2 ?_
    cases o2 with
    |nx t'=>exact fun σ' H' A' g' R'=>⟨by lia,A',t',o,e,R',h.back (gr2.trans g'),keep _ _ _ _ gd (gr2.trans g')⟩
    |ct t'=>exact fun σ' H' A' g' R'=>⟨by lia,A',t',o,e,R',h.back (gr2.trans g'),keep _ _ _ _ gd (gr2.trans g')⟩
    |bk t'=>cases e;exact fun σ' H' A' g' R'=>h σ' H' A' (gr2.trans g') R'
    |rt r=>cases e;exact Back.back h gr2
noncomputable def dFor (k:D→Th→Option Th) (f:DE) (body:DS):DS:=fun t=>(f t).bind fun r=>match r.d with
 |.lst ds=>if r.ok then forD k body ds t else none
 |_=>none
theorem zab5 {body:List Stmt} (hp:PassesOwn (model X.prog X.w) X.A X.env X.xe) (hc:X.calm=true) (hl:PE X a (dE X.K F fa)) (hg:PG X tg gt) (ht:TgOk X.K F gt kt) (hb:PSs X body (dS X.K F g))
  (hs:∀x,foldedSetIterable a X.env x=pure x:=by intro _;rfl):PS X (.For tg a body [] pos) (dS X.K F (dFor kt fa g)):=by
 refine PS.imp (zau4 hp hc (zau8 hl) hg hb hs) ?_
 intro E σ H hh
 obtain⟨A,t,o,R,e,h⟩:=zaz6 hh
 unfold dFor at e
 cases e1:fa t with
 |none=>rw [e1]at e;cases e
 |some r =>
  rw [e1]at e
  refine⟨A,t,r,R,e1,fun v H1 gs q=>?_⟩
  have e:(match r.d with
   |.lst ds=>if r.ok then forD kt g ds t else none
   |_=>none)=some o:=e
  split at e
  case h_2=>cases e
  rename_i ds z
  split at e
  case isFalse=>cases e
  rename_i ok
  have cl:=q.clean R.mu gs ok
  rw [z]at cl
  cases cl with
  |@lst _ p vs h1 h2 =>
   refine⟨p,rfl,⟨vs,SqL.mono (zb0 _ _) h1⟩,?_⟩
   refine zao3 (fun A H=>SqL X.K (hide (A++F) H) p vs∧Reps X.K (hide (A++F) H) ds vs) ht (R.grow gs) e (h.back (Gr.of_same R.mu.left gs)) ⟨h1,h2⟩ (fun A H A' H' q gr=>⟨SqL.mono gr.same q.1,Reps.mono gr.same q.2⟩)
    (fun A H q=>⟨vs,SqL.mono (zb0 _ _) q.1,by rw [h2.length];exact zbf1 _⟩) (fun A H i q hi=>?_) (fun A H i x H' q _ y hi=>?_)
   ·have hi':i<vs.length:=by rw [h2.length];exact hi
    exact⟨vs,vs[i],SqL.mono (zb0 _ _) q.1,zbd1 hi'⟩
   ·obtain⟨e1,e2⟩:=y
    have z:=e2 vs (SqL.mono (zb0 _ _) q.1)
    subst e1
    exact⟨Same.refl _,q.2.getV z⟩
def rngD (lo:Int) (n:Nat):List D:=(zbf2 n).map fun (i:Nat)=>D.int (lo+(i:Int))
def bigI (i:Int):Bool:=decide (-1000000000000≤i∧i≤1000000000000)
noncomputable def zar0 (k:D→Th→Option Th) (f:DE) (body:DS):DS:=fun t=>(f t).bind fun r=>match r.d with
 |.int n=>if bigI n then forD k body (rngD 0 n.toNat) t else none
 |_=>none
noncomputable def zaz8 (k:D→Th→Option Th) (f f':DE) (body:DS):DS:=fun t=>(f t).bind fun r=>(f' t).bind fun r'=>match r.d,r'.d with
 |.int lo,.int n=>if bigI n&&bigI lo then forD k body (rngD lo (n - lo).toNat) t else none
 |_,_=>none
theorem zs9 (lo:Int) (n:Nat):(rngD lo n).length=n:=by simp [rngD]
theorem zam6 {K:zbc5}{lo:Int}{n:Nat}{E:Ends}{σ:L2.St}{H:Hp}{A:List Addr}{t:Th}{o:Out} (ht:TgOk K F gt kt) (R:RS K F H A t σ) (e:forD kt g (rngD lo n) t=some o) (h:Post K F A H E o) :
  ∃W:Nat→Nat→L2.St→Hp→Prop,(∃m,W 0 m σ H)∧∀i m σ H,W i m σ H →
   ((Itr lo n).stop i H∧E.nx σ H)∨((Itr lo n).go i H∧∃N:L2.St→Hp→Prop,(∀σ' H',N σ' H'→∃m',m' < m∧W (i+1) m' σ' H')∧∀x H',(Itr lo n).yld i H x H'→gt x σ H' fun σ2 H2=>dS K F g { E with nx:=N,ct:=N,bk:=E.nx } σ2 H2):=by
 refine zao3 (fun _ _=>True) ht R e h trivial (fun _ _ _ _ _ _=>trivial) (fun A H _=>?_) (fun A H i _ hi=>?_) (fun A H i x H' _ _ y hi=>?_)
 ·rw [zs9];exact zbf1 n
 ·rw [zs9]at hi;exact hi
 ·rw [zs9]at hi
  obtain⟨e1,e2⟩:=y
  subst e1
  refine⟨Same.refl _,.int (lo+i),by simp [rngD,hi],?_⟩
  rw [e2];exact .int _
theorem zam9 {body:List Stmt}{p1 p2:Pos} (hp:PassesOwn (model X.prog X.w) X.A X.env X.xe) (hc:X.calm=true) (hgr:Gl X "range") (hm:X.mg "range"=none) (ha:PE X a (dE X.K F fa)) (hg:PG X tg gt) (ht:TgOk X.K F gt kt) (hb:PSs X body (dS X.K F g))
  (hst:zbe3 [a] X.env=[(false,eval a X.env)]:=by rfl) (hs:∀x,foldedSetIterable (.Call (.Name "range" p1) [a] [] p2) X.env x=pure x:=by intro _;rfl):PS X (.For tg (.Call (.Name "range" p1) [a] [] p2) body [] pos) (dS X.K F (zar0 kt fa g)):=by
 refine PS.imp (zau4 hp hc (zaf0 hgr hm (zf0 ha zi1 hst) hst) hg hb hs) ?_
 intro E σ H hh
 obtain⟨A,t,o,R,e,h⟩:=zaz6 hh
 unfold zar0 at e
 cases e1:fa t with
 |none=>rw [e1]at e;cases e
 |some r =>
  rw [e1]at e
  refine⟨A,t,r,R,e1,fun v H1 gs q=>?_⟩
  have e:(match r.d with
   |.int n=>if bigI n then forD kt g (rngD 0 n.toNat) t else none
   |_=>none)=some o:=e
  split at e
  case h_2=>cases e
  rename_i n z
  split at e
  case isFalse=>cases e
  rename_i ok
  simp only [bigI,decide_eq_true_eq]at ok
  have p:=q.full
  rw [z]at p
  cases zf5 p
  exact⟨n,rfl,by lia,by lia,zam6 ht (R.grow gs) e (h.back (Gr.of_same R.mu.left gs))⟩
theorem psd_rng2 {body:List Stmt}{p1 p2:Pos} (hp:PassesOwn (model X.prog X.w) X.A X.env X.xe) (hc:X.calm=true) (hgr:Gl X "range") (hm:X.mg "range"=none) (ha:PE X a (dE X.K F fa)) (hb':PE X b (dE X.K F fb)) (hg:PG X tg gt) (ht:TgOk X.K F gt kt) (hb:PSs X body (dS X.K F g))
  (hst:zbe3 [a,b] X.env=[(false,eval a X.env),(false,eval b X.env)]:=by rfl) (hst2:zbe3 [b] X.env=[(false,eval b X.env)]:=by rfl) (hs:∀x,foldedSetIterable (.Call (.Name "range" p1) [a,b] [] p2) X.env x=pure x:=by intro _;rfl) :
  PS X (.For tg (.Call (.Name "range" p1) [a,b] [] p2) body [] pos) (dS X.K F (zaz8 kt fa fb g)):=by
 refine PS.imp (zau4 hp hc (zau7 hgr hm (zf0 ha (zf0 hb' zi1 hst2) (by rw [hst,hst2])) hst hst2) hg hb hs) ?_
 intro E σ H hh
 obtain⟨A,t,o,R,e,h⟩:=zaz6 hh
 unfold zaz8 at e
 cases e1:fa t with
 |none=>rw [e1]at e;cases e
 |some r =>
  cases e2:fb t with
  |none=>rw [e1,e2]at e;cases e
  |some r' =>
   rw [e1,e2]at e
   refine⟨A,t,r,R,e1,fun v H1 gs q=>⟨A,t,r',R.grow gs,e2,fun v2 H2 gs2 q2=>?_⟩⟩
   have e:(match r.d,r'.d with
    |.int lo,.int n=>if bigI n&&bigI lo then forD kt g (rngD lo (n - lo).toNat) t else none
    |_,_=>none)=some o:=e
   split at e
   case h_2=>cases e
   rename_i lo n z1 z2
   split at e
   case isFalse=>cases e
   rename_i ok
   simp only [bigI,zbd8,decide_eq_true_eq]at ok
   have p:=q.full
   rw [z1]at p
   cases zf5 p
   have p':=q2.full
   rw [z2]at p'
   cases zf5 p'
   exact⟨lo,n,rfl,⟨by lia,by lia,by lia,by lia⟩,zam6 ht (R.grow (gs.trans gs2)) e (h.back (Gr.of_same R.mu.left (gs.trans gs2)))⟩
end
end DL
namespace DL
open PySem.Spec L2
theorem RSl.upd {K:zbc5}{H0 H H':Hp}{ds es:List D}{ws:List V}{p:Addr} (hp:H' p=some (.lst ws)) (he:Reps K H0 es ws):∀ {t:Th}{σ:L2.St}{A:List Addr} (i:Nat),RSl K H0 H t σ A→A.Nodup→t[i]?=some (.own ds)→σ[i]?=some (some (.ref p)) →
  (∀q∈A,q≠p→H' q=H q)→RSl K H0 H' (t.set i (.own es)) σ A
 |_,_,_,i,.nil,_,e,_,_=>by simp at e
 |_,_,_,0,.no r,_,e,_,_=>by simp at e
 |_,_,_,0,.val _ r,_,e,_,_=>by simp at e
 |_,_,_,0,.dp _ r,_,e,_,_=>by simp at e
 |_,_,_,i+1,.dp (B:=B) h1 r,nd,e,e2,k=>by
  have n:=zbe0.mp nd
  obtain⟨p3,vs3,a1,a2,_⟩:=RSl.getOwn r (i:=i) (ds:=ds) (by simpa using e)
  have:p3=p:=by simpa [a1] using e2
  subst this
  refine .dp (RepD.mono (Same.refl _) h1 fun q hq o w=>?_) (RSl.upd hp he i r n.2.1 (by simpa using e) (by simpa using e2) fun q hq=>k q (zbc4 _ hq))
  rw [k q (zbc7 _ hq) (fun z=>n.2.2 q hq p3 a2 z)];exact w
 |_,_,_,0,.own (p:=p2) (A:=A) h1 h2 r,nd,e,e2,k=>by
  simp at e2
  subst e2
  exact .own hp he (RSl.mono (Same.refl _) r fun q hq o h=>by
   have n:q≠p2:=fun z=>(zbe6.mp nd).1 (z ▸ hq)
   rw [k q (zbc6 _ hq) n];exact h)
 |_,_,_,i+1,.no r,nd,e,e2,k=>.no (RSl.upd hp he i r nd (by simpa using e) (by simpa using e2) k)
 |_,_,_,i+1,.val h r,nd,e,e2,k=>.val h (RSl.upd hp he i r nd (by simpa using e) (by simpa using e2) k)
 |_,_,_,i+1,.own (p:=p2) h1 h2 r,nd,e,e2,k=>by
  have n:=zbe6.mp nd
  have e2':=(show _ from e2)
  obtain⟨p3,vs3,a1,a2,_⟩:=RSl.getOwn r (i:=i) (ds:=ds) (by simpa using e)
  have:p3=p:=by simpa [a1] using e2
  subst this
  have np:p2≠p3:=fun z=>n.1 (z ▸ a2)
  refine .own (by rw [k p2 (zbc9 ..) np];exact h1) h2 (RSl.upd hp he i r n.2 (by simpa using e) (by simpa using e2) fun q hq=>k q (zbc6 _ hq))
theorem RS.write {K:zbc5}{F A:List Addr}{H:Hp}{t:Th}{σ:L2.St}{i:Nat}{ds es:List D}{ws:List V}{p:Addr} (R:RS K F H A t σ) (e:t[i]?=some (.own ds)) (e2:σ[i]?=some (some (.ref p))) (h:Reps K (hide (A++F) H) es ws) :
  RS K F (L2.upd H p (.lst ws)) A (t.set i (.own es)) σ∧Gr A H A (L2.upd H p (.lst ws)):=by
 obtain⟨p',vs,a1,a2,a3,a4⟩:=R.rel.getOwn e
 have:p'=p:=by simpa [a1] using e2
 subst this
 have hh:Same (hide (A++F) H) (hide (A++F) (L2.upd H p' (.lst ws))):=fun b o q=>by
  obtain⟨n,q⟩:=zg2 q
  have nb:b≠p':=fun z=>n (zbc7 _ (z ▸ a2))
  exact zb9 (by rw [zb1 nb];exact q) n
 have mu:Lists (L2.upd H p' (.lst ws)) (A++F):=fun q hq=>by
  by_cases z:q=p'
  ·exact⟨mL ws,by rw [z];exact za8⟩
  ·obtain⟨us,w⟩:=R.mu q hq
   exact⟨us,by rw [zb1 z];exact w⟩
 refine⟨⟨mu,R.nd,R.dj,RSl.upd za8 (Reps.mono hh h) i (RSl.mono hh R.rel (H':=H) fun _ _ _ h=>h) R.nd e e2 fun q _ n=>zb1 n⟩,?_⟩
 refine⟨fun b o n q=>?_,fun b hb=>?_,fun b hb=>.inl hb⟩
 ·rw [zb1 (fun z=>n (by rw [z];exact a2))];exact q
 ·obtain⟨us,w⟩:=mu b (zbc7 _ hb)
  rw [w];simp
noncomputable def kApp (t:Th) (i:Nat) (r:Ev):Option Out:=match t[i]? with
 |some (.own xs)=>if r.ok&&decide (xs.length<100000) then some (.nx (t.set i (.own (xs++[r.d])))) else none
 |_=>none
def dApp (i:Nat) (f:DE):DS:=fun t=>(f t).bind (kApp t i)
section
variable {X:Cx}{F:List Addr}{a b c:Expr}{es:List Expr}{fa fb fc:DE}{g g1 g2:DS}{ft fu:DT}{pos:Pos}{st:Stmt}{rest:List Stmt}{tg:Expr}{gt:TG}{kt:D→Th→Option Th}
theorem zt0 (i:Nat) {x:Str}{p0 apos cpos:Pos} (he:PE X a (dE X.K F fa)) (hN:X.N[i]?=some x:=by rfl) (hv:Vis X.env.scope x:=by first | exact Or.inl rfl | exact Or.inr (Or.inl rfl) |exact Or.inr (Or.inr rfl)) (hd:(x ==("__debug__":Str))=false:=by decide)
  (hcd:(x ==("__classdict__":Str))=false:=by decide) (hst:zbe3 [a] X.env=[(false,eval a X.env)]:=by rfl)
  (hbase:attributeBase (.Name x p0) "append" X.env (eval (.Name x p0) X.env)=eval (.Name x p0) X.env:=by rfl)
  (hfew:((zbj4 cpos (zbe3 [a] X.env)).all (fun x=>!x.1)&&(backToKw cpos (keywordEach [] X.env)).all (fun x=>x.1.isSome)
   && decide ([a].length+([]:List Keyword).length+(if ([]:List Keyword).isEmpty then 0 else 1)<30))=true:=by rfl)
  (hline:(apos.endLine == cpos.line)=true:=by rfl) (hplain:(zbj4 cpos (zbe3 [] X.env)).any (·.1)=false:=by rfl)
  (hsw:swapsWith (.Call (.Attribute (.Name x p0) "append" apos) [a] [] cpos) none pos.line X.env=pure false:=by rfl) :
  PS X (.Expr (.Call (.Attribute (.Name x p0) "append" apos) [a] [] cpos) pos) (dS X.K F (dApp i fa)):=by
 refine PS.imp (zv9 (zaq2 zbg6 zbl6 zbl7 zl1 (zo5 (i:=i) hN hv hd hcd) (zf0 he zi1 hst) hbase hfew hline hst hplain) hsw) ?_
 rintro E σ H ⟨A,t,o,R,e,h⟩
 unfold dApp at e
 cases e1:fa t with
 |none=>rw [e1]at e;cases e
 |some r =>
  rw [e1]at e
  have e:kApp t i r=some o:=e
  unfold kApp at e
  split at e
  case h_2=>cases e
  rename_i xs z
  split at e
  case isFalse=>cases e
  rename_i ok
  simp only [zbd8,decide_eq_true_eq]at ok
  cases e
  obtain⟨p,vs,a1,a2,a3,a4⟩:=R.rel.getOwn z
  refine⟨_,a1,.inl ⟨rfl,vs,SqL.of a3⟩,A,t,r,R,e1,fun y H1 gs q=>⟨p,vs,y,rfl,rfl,gs _ _ a3,?_,?_⟩⟩
  ·have:vs.length<100000:=by rw [a4.length];exact ok.2
   exact zbe2 this (by rw [sizeLine_eq];decide)
  ·obtain⟨R',g'⟩:=(R.grow gs).write (es:=xs++[r.d]) (ws:=vs++[y]) z a1 ((Reps.mono (za6 gs) a4).app (Reps.one (q.clean R.mu gs ok.1)))
   exact h _ _ _ ((Gr.of_same R.mu.left gs).trans g') R'
noncomputable def kIx:Ev→Ev→Option Ev:=fun r1 r2=>match r1.d,r2.d with
 |.lst ds,.int i=>(atI ds i).map fun d=>if r1.ok||flat d then .cl d else .tm d
 |.tup ds,.int i=>(atI ds i).map fun d=>if r1.ok||flat d then .cl d else .tm d
 |_,_=>none
theorem Reps.atI {K:zbc5}{H:Hp}{ds:List D}{vs:List V} (r:Reps K H ds vs) {i:Int}{d:D} (e:L2.atI ds i=some d):∃v,L2.atI vs i=some v∧Rep K H d v:=by
 unfold L2.atI at e ⊢
 rw [r.length]
 cases e1:ixN ds.length i with
 |none=>rw [e1]at e;cases e
 |some j=>rw [e1]at e;exact r.get e
theorem ze3 (ha:PE X a (dE X.K F fa)) (hb:PE X b (dE X.K F fb)) (hs:zal8 b:=by intro _ _;rfl):PE X (.Subscript a b pos) (dE X.K F (d2 kIx fa fb)):=by
 refine PE.imp (pe_ix (ix_list.or ix_tup) ha hb hs) ?_
 intro σ H Q h
 obtain⟨A,t,r1,r2,r,R,e1,e2,e,h,w⟩:=two h
 refine⟨A,t,r1,R,e1,fun x H1 gs1 q1=>⟨A,t,r2,R.grow gs1,e2,fun y H2 gs2 q2=>?_⟩⟩
 have q1:=q1.mono gs2
 have gs:=gs1.trans gs2
 have p2:=q2.full
 have m2:=R.mu.mono gs
 have key:∀(P:List Addr),Rep X.K (hide P H2) r1.d x→(∀d v,Rep X.K (hide P H2) d v→RepEv X.K F A H H2 (if r1.ok||flat d then Ev.cl d else Ev.tm d) v)→rIxL X.K x y H2 Q∨rIxT X.K x y H2 Q:=fun P hP fin=>by
  unfold kIx at e
  split at e
  ·rename_i ds i z1 z2
   rw [z2]at p2
   cases zf5 p2
   rw [z1]at hP
   cases hP with
   |@lst _ p vs h1 h2 =>
    cases e4:atI ds i with
    |none=>rw [e4]at e;cases e
    |some d =>
     rw [e4]at e
     have e:(if r1.ok||flat d then Ev.cl d else Ev.tm d)=r:=by simpa using e
     obtain⟨v,e5,rv⟩:=Reps.atI h2 e4
     exact .inl ⟨p,vs,i,v,rfl,rfl,SqL.mono (zb0 _ _) h1,e5,h v H2 gs (e ▸ fin d v rv)⟩
  ·rename_i ds i z1 z2
   rw [z2]at p2
   cases zf5 p2
   rw [z1]at hP
   cases hP with
   |@tup _ p vs h1 h2 =>
    cases e4:atI ds i with
    |none=>rw [e4]at e;cases e
    |some d =>
     rw [e4]at e
     have e:(if r1.ok||flat d then Ev.cl d else Ev.tm d)=r:=by simpa using e
     obtain⟨v,e5,rv⟩:=Reps.atI h2 e4
     exact .inr ⟨p,vs,i,v,rfl,rfl,SqT.mono (zb0 _ _) h1,e5,h v H2 gs (e ▸ fin d v rv)⟩
  ·cases e
 by_cases c:r1.ok=true
 ·refine key (A++F) (q1.clean R.mu gs c) fun d v rv=>?_
  rw [c,Bool.true_or,if_pos rfl]
  exact rv
 ·refine key F (q1.cleanF R.mu) fun d v rv=>?_
  have c:r1.ok=false:=by simpa using c
  rw [c,Bool.false_or]
  split
  ·rename_i f;exact Rep.hid m2 f (Rep.mono (zb0 _ _) rv)
  ·exact rv
noncomputable def kCat:Ev→Ev→Option Ev:=fun r1 r2=>match r1.d,r2.d with
 |.lst ds,.lst es=>if (r1.ok||flats ds)&&(r2.ok||flats es)&&decide (ds.length+es.length≤100000) then some (.nw (ds++es)) else none
 |_,_=>none
theorem RepEv.items {K:zbc5}{F A:List Addr}{H H':Hp}{r:Ev}{v:V}{ds:List D} (m:Lists H (A++F)) (gs:Same H H') (q:RepEv K F A H H' r v) (z:r.d=.lst ds) (c:(r.ok||flats ds)=true) :
  ∃p vs,v=.ref p∧SqL K H' p vs∧Reps K (hide (A++F) H') ds vs:=by
 rcases zbq4 _ _ ▸ c with c | c
 ·have w:=q.clean m gs c
  rw [z]at w
  cases w with
  |@lst _ p vs h1 h2=>exact⟨p,vs,rfl,SqL.mono (zb0 _ _) h1,h2⟩
 ·have w:=q.full
  rw [z]at w
  cases w with
  |@lst _ p vs h1 h2=>exact⟨p,vs,rfl,h1,Reps.hid (m.mono gs) c h2⟩
theorem cat_any {E:Value→zbe1→Prop}{A:Around}{prog:Program}{w:World}{s:zbe1}{l b:Addr}{vs ws:List Value}{Q:Value→zbe1→Prop} (hl:PlainL s.heap l vs.toArray) (hb:PlainL s.heap b ws.toArray)
  (h:Q (.ref s.heap.objs.size) { s with heap:=s.heap.push { cls:=.type "list",data:=.seq (vs++ws).toArray } }) (hsz:vs.length+ws.length≤sizeLine) :
  wpAny (model prog w) A (binaryOp .Add (.ref l) (.ref b)) Q E s:=by
 obtain⟨⟨cls,dd,data,sl⟩,n,ho,hc,hdd,hd⟩:=id hl
 obtain⟨⟨cls2,dd2,data2,sl2⟩,n2,ho2,hc2,hdd2,hd2⟩:=id hb
 simp only at hc hd hc2 hd2
 subst hc hd hc2 hd2
 have e:vs.toArray++ws.toArray=(vs++ws).toArray:=by simp
 refine concat_meets ⟨_,ho,rfl⟩ ⟨_,ho2,rfl⟩ noFill_list_add seq_list_add PySem.F.slot_list_add PySem.F.entry_list_add (PySem.F.args_list_add_2 _ _) (list_addW l b vs.toArray ws.toArray n n2 dd dd2 sl sl2 (by simpa using hsz)) ⟨ho,ho2,?_⟩
 rw [e]
 exact h
theorem zn8:OpD X F (binaryOp .Add) kCat:=by
 intro pins s σ H0 H A x y v u Q r1 r2 r I m g0 rx ry q1 q2 e hq
 unfold kCat at e
 split at e
 case h_2=>cases e
 rename_i ds es' z1 z2
 split at e
 case isFalse=>cases e
 rename_i c
 simp only [zbd8,decide_eq_true_eq]at c
 cases e
 obtain⟨p,vs,rfl,h1,h2⟩:=q1.items m g0 z1 c.1.1
 obtain⟨p',ws,rfl,h1',h2'⟩:=q2.items m g0 z2 c.1.2
 cases rx
 cases ry
 obtain⟨its,w1,w2,w3⟩:=I.list h1
 obtain⟨its',w1',w2',w3'⟩:=I.list h1'
 have l1:=h2.length
 have l2:=h2'.length
 have l3:=w1.length
 have l4:=w1'.length
 have hz:vs.length+ws.length≤sizeLine:=zk3 (by lia)
 refine cat_any w2 w2' ⟨.ref _,_,I.lnew (t':=s.toks) (w1.append w1') (by rw [zbf0];exact hz),rfl,?_⟩ (by lia)
 refine hq _ _ (zd2 I.fresh) ⟨_,_,rfl,Same.free g0 I.fresh,za8,Reps.mono (zn3 I.fresh) (h2.app h2')⟩
mutual
def eqD:D→D→Bool
 |.non,.non=>true
 |.bl a,.bl b=>decide (a=b)
 |.int a,.int b=>decide (a=b)
 |.str a,.str b=>decide (a=b)
 |.tup a,.tup b=>eqDs a b
 |.lst a,.lst b=>eqDs a b
 |.dct ks a,.dct ks' b=>decide (ks=ks')&&eqDs a b
 |.pdc a,.pdc b=>decide (a=b)
 |_,_=>false
def eqDs:List D→List D→Bool
 |[],[]=>true
 |a::as,b::bs=>eqD a b&&eqDs as bs
 |_,_=>false
end
noncomputable def eqOk:Nat→D→D→Bool
 |_,.non,.non=>true
 |_,.bl _,.bl _=>true
 |_,.int _,.int _=>true
 |_,.str _,.str _=>true
 |_,.non,.int _=>true
 |_,.int _,.non=>true
 |_,.non,.str _=>true
 |_,.str _,.non=>true
 |_,.non,.bl _=>true
 |_,.bl _,.non=>true
 |_,.int _,.str _=>true
 |_,.str _,.int _=>true
 |n+1,.tup xs,.tup ys=>(xs.zip ys).all fun p=>eqOk n p.1 p.2
 |n+1,.lst xs,.lst ys=>(xs.zip ys).all fun p=>eqOk n p.1 p.2
 |_,_,_=>false
theorem zx9 {pins:List (Addr×Obj)}{s:zbe1}{σ:L2.St}{H:Hp}{p:Addr}{kvs:List (Key×V)} (I:Inv X pins σ H s) (h:H p=some (.dK kvs)):∃o,s.heap.get? p=some o∧o.cls=.type "dict":=by
 obtain⟨_,_,vs,_,m⟩:kvs.length≤sizeLine∧(p == sysModules)=false∧∃vs,KV kvs vs∧s.heap.DictOf (zn1 X.prog X.w) p vs:=I.hok p _ h
 exact m.typeIs
theorem zw1 {pins:List (Addr×Obj)}{s:zbe1}{σ:L2.St}{H:Hp}{p:Addr}{kvs:List (List Key×V)} (I:Inv X pins σ H s) (h:H p=some (.dT kvs)):∃o,s.heap.get? p=some o∧o.cls=.type "dict":=by
 obtain⟨_,_,xs,_,o,es,ep,h1,h2,_⟩:=(show ObjOk X.prog X.w H s.heap p (.dT kvs) from I.hok p _ h)
 exact⟨o,h1,h2.1⟩
theorem zau6:∀ {a b:List (Int×Int)},pkv a=pkv b→a=b
 |[],[],_=>rfl
 |[],_::_,h=>by simp [pkv]at h
 |_::_,[],h=>by simp [pkv]at h
 |(x,y)::a,(z,w)::b,h=>by
  simp only [pkv,zbd7,List.cons.injEq,Prod.mk.injEq,Sum.inl.injEq,and_true]at h
  rw [h.1.1,h.1.2,zau6 (a:=a) (b:=b) h.2]
theorem zip_inj {ks ks':List Key}{vs vs':List V} (l:ks.length=vs.length) (l':ks'.length=vs'.length) (h:mkKV ks vs=mkKV ks' vs'):ks=ks'∧vs=vs':=by
 unfold mkKV at h
 have h1:=congrArg (List.map Prod.fst) h
 have h2:=congrArg (List.map Prod.snd) h
 rw [zbt0 (by lia),zbt0 (by lia)]at h1
 rw [zbt1 (by lia),zbt1 (by lia)]at h2
 exact⟨h1,h2⟩
theorem Rep.injR {pins:List (Addr×Obj)}{s:zbe1}{σ:L2.St}{H:Hp} (I:Inv X pins σ H s):(∀ {d:D}{v:V},Rep X.K H d v→∀e,Rep X.K H e v→d=e)∧∀ {ds:List D}{vs:List V},Reps X.K H ds vs→∀es,Reps X.K H es vs→ds=es:=by
 have cl:∀ {p:Addr}{A B:String},(∃o,s.heap.get? p=some o∧o.cls=.type A)→(∃o,s.heap.get? p=some o∧o.cls=.type B)→A≠B→False:=fun ⟨o,e,c⟩ ⟨o',e',c'⟩ n=>by
  rw [e]at e';cases e'
  rw [c]at c';injection c' with c';exact n c'
 have ct:∀ {p:Addr}{vs:List V},SqT X.K H p vs→∃o,s.heap.get? p=some o∧o.cls=.type "tuple":=fun h=>by
  obtain⟨its,_,⟨o,e,c,_⟩,_⟩:=I.tuple h
  exact⟨o,e,c⟩
 have cL:∀ {p:Addr}{vs:List V},SqL X.K H p vs→∃o,s.heap.get? p=some o∧o.cls=.type "list":=fun h=>by
  obtain⟨its,_,⟨o,n,e,c,_⟩,_⟩:=I.list h
  exact⟨o,e,c⟩
 have key:∀ {d:D}{v:V},Rep X.K H d v→∀e,Rep X.K H e v→d=e:=fun h=>by
  refine Rep.rec (motive_1:=fun d v _ => ∀e,Rep X.K H e v→d=e) (motive_2:=fun ds vs _ => ∀es,Reps X.K H es vs→ds=es) ?_ ?_ ?_ ?_ ?_ ?_ ?_ ?_ ?_ ?_ h
  ·intro e h';cases h';rfl
  ·intro b e h';cases h';rfl
  ·intro b e h';cases h';rfl
  ·intro b e h';cases h';rfl
  ·intro ds p vs h1 r1 ih e h'
   cases h' with
   |tup h2 r2 =>
    have ev:=I.tuple_inj h1 h2
    subst ev
    rw [ih _ r2]
   |lst h2 r2=>exact (cl (ct h1) (cL h2) (by decide +kernel)).elim
   |dct _ h2 r2=>exact (cl (ct h1) (zx9 I h2) (by decide +kernel)).elim
   |pdc h2=>exact (cl (ct h1) (zw1 I h2) (by decide +kernel)).elim
  ·intro ds p vs h1 r1 ih e h'
   cases h' with
   |tup h2 r2=>exact (cl (cL h1) (ct h2) (by decide +kernel)).elim
   |lst h2 r2 =>
    have ev:=I.list_inj h1 h2
    subst ev
    rw [ih _ r2]
   |dct _ h2 r2=>exact (cl (cL h1) (zx9 I h2) (by decide +kernel)).elim
   |pdc h2=>exact (cl (cL h1) (zw1 I h2) (by decide +kernel)).elim
  ·intro ks ds p vs l1 h1 r1 ih e h'
   cases h' with
   |tup h2 r2=>exact (cl (zx9 I h1) (ct h2) (by decide +kernel)).elim
   |lst h2 r2=>exact (cl (zx9 I h1) (cL h2) (by decide +kernel)).elim
   |dct l2 h2 r2 =>
    rw [h1]at h2
    obtain⟨e1,e2⟩:=zip_inj l1 l2 (by injection h2 with h2;injection h2)
    subst e1 e2
    rw [ih _ r2]
   |pdc h2=>rw [h1]at h2;cases h2
  ·intro ps p h1 e h'
   cases h' with
   |tup h2 r2=>exact (cl (zw1 I h1) (ct h2) (by decide +kernel)).elim
   |lst h2 r2=>exact (cl (zw1 I h1) (cL h2) (by decide +kernel)).elim
   |dct _ h2 r2=>rw [h1]at h2;cases h2
   |pdc h2 =>
    rw [h1]at h2
    injection h2 with h2
    injection h2 with h2
    rw [zau6 h2]
  ·intro es h';cases h';rfl
  ·intro d v ds vs h r ih1 ih2 es h'
   cases h' with
   |cons h' r'=>rw [ih1 _ h',ih2 _ r']
 refine⟨key,fun {ds vs} h=>?_⟩
 induction ds generalizing vs with
 |nil=>intro es h';cases h;cases h';rfl
 |cons d ds ih =>
  intro es h'
  cases h with
  |cons h r =>
   cases h' with
   |cons h' r'=>rw [key h _ h',ih r _ r']
theorem Rep.inj {pins:List (Addr×Obj)}{s:zbe1}{σ:L2.St}{H:Hp} (I:Inv X pins σ H s) {d e:D}{v:V} (h:Rep X.K H d v) (h':Rep X.K H e v):d=e:=(Rep.injR I).1 h e h'
mutual
theorem zay9:∀ {a b:D},eqD a b=true↔a=b
 |.non,b=>by cases b<;>simp [eqD]
 |.bl _,b=>by cases b<;>simp [eqD]
 |.int _,b=>by cases b<;>simp [eqD]
 |.str _,b=>by cases b<;>simp [eqD]
 |.tup xs,b=>by
  cases b with
  |tup ys=>simp only [eqD,D.tup.injEq];exact eqDs_iff
  |_=>simp [eqD]
 |.lst xs,b=>by
  cases b with
  |lst ys=>simp only [eqD,D.lst.injEq];exact eqDs_iff
  |_=>simp [eqD]
 |.dct ks xs,b=>by
  cases b with
  |dct ks' ys=>simp only [eqD,D.dct.injEq,zbd8,decide_eq_true_eq];rw [eqDs_iff (a:=xs) (b:=ys)]
  |_=>simp [eqD]
 |.pdc a,b=>by cases b<;>simp [eqD]
theorem eqDs_iff:∀ {a b:List D},eqDs a b=true↔a=b
 |[],b=>by cases b<;>simp [eqDs]
 |x::xs,b=>by
  cases b with
  |nil=>simp [eqDs]
  |cons y ys =>
   simp only [eqDs,zbd8,List.cons.injEq]
   rw [zay9 (a:=x) (b:=y),eqDs_iff (a:=xs) (b:=ys)]
end
theorem eqD_true {a b:D}:eqD a b=true↔a=b:=zay9
theorem eqD_false {a b:D}:eqD a b=false↔¬ a=b:=by rw [← eqD_true];simp
def eAt (xs ys:List D) (j:Nat):Bool:=match xs[j]?,ys[j]? with
 |some a,some b=>eqD a b
 |_,_=>true
end
end DL
namespace DL
open PySem.Spec L2
theorem PlainL.isL {h:Heap}{a:Addr}{its:Array Value} (p:PlainL h a its):h.IsList a its:=by
 obtain⟨o,n,e,c,_,d⟩:=p
 exact⟨o,e,c,n,d⟩
section
variable {X:Cx}{F:List Addr}{a b c:Expr}{es:List Expr}{fa fb fc:DE}{g g1 g2:DS}{ft fu:DT}{pos:Pos}{st:Stmt}{rest:List Stmt}{tg:Expr}{gt:TG}{kt:D→Th→Option Th}
def scD:D→Bool
 |.tup _=>false
 |.lst _=>false
 |.dct _ _=>false
 |.pdc _=>false
 |_=>true
theorem eqV_D {K:zbc5}{H:Hp}{n:Nat}{d e:D}{v u:V} (r:Rep K H d v) (q:Rep K H e u) (s1:scD d=true) (s2:scD e=true) (ok:eqOk n d e=true):zs4 v=true∧zs4 u=true∧eqV v u=eqD d e:=by
 cases r<;>cases q<;>simp_all [scD,eqOk,zs4,eqV,eqD]
 all_goals (rw [zbi6];simp)
theorem zad7 {xs ys:List D} (h:xs.length=ys.length):(zbf2 xs.length).all (eAt xs ys)=eqD (.lst xs) (.lst ys):=by
 rw [zbi6,eqD_true,zbg8]
 constructor
 ·intro hh
  congr 1
  apply List.ext_getElem h
  intro i h1 h2
  have:=hh i (zbl4.mpr h1)
  simp only [eAt,zbd1 h1,zbd1 h2]at this
  exact eqD_true.mp this
 ·intro hh i hi
  injection hh with hh
  subst hh
  simp only [eAt]
  split
  ·rename_i a b z1 z2
   rw [z1]at z2;cases z2
   exact eqD_true.mpr rfl
  ·rfl
theorem zad6 {xs ys:List D}:((zbf2 (min xs.length ys.length)).all (eAt xs ys)&&xs.length == ys.length)=eqD (.tup xs) (.tup ys):=by
 by_cases h:xs.length=ys.length
 ·have e:min xs.length ys.length=xs.length:=by lia
  rw [e,zad7 h,beq_iff_eq.mpr h,zbn5]
  rw [zbi6,eqD_true,eqD_true]
  simp
 ·have e:(xs.length == ys.length)=false:=by simpa using h
  rw [e,zbr2]
  symm
  rw [eqD_false]
  intro z
  injection z with z
  exact h (by rw [z])
theorem zaj0 {n:Nat}{xs ys:List D} (h:((xs.zip ys).all fun p=>eqOk n p.1 p.2)=true) {j:Nat}{x y:D} (hx:xs[j]?=some x) (hy:ys[j]?=some y):eqOk n x y=true:=by
 rw [zbg8]at h
 refine h (x,y) (zbq6 (i:=j) ?_)
 rw [List.getElem?_zip_eq_some]
 exact⟨hx,hy⟩
theorem zag5 {A:Around}:A.in1.units=A.units+1:=rfl
theorem Vals.getL {vs:List V}{us:List Value} (h:Vals vs us) {j:Nat} (hj:j<us.toArray.size):∃v,vs[j]?=some v∧RelV v us.toArray[j]:=by
 have hj':j<vs.length:=by rw [h.length];simpa using hj
 obtain⟨u,e,r⟩:=Vals.get h (zbd1 hj')
 refine⟨_,zbd1 hj',?_⟩
 have:us.toArray[j]=u:=by
  have hj2:j<us.length:=by simpa using hj
  have:=zbd1 hj2
  rw [e]at this
  simpa using (Option.some.inj this).symm
 rw [this];exact r
theorem eqAt_D {pins:List (Addr×Obj)}{s:zbe1}{σ:L2.St}{H:Hp} (I:Inv X pins σ H s):∀(n:Nat) (A:Around) (d e:D) (v u:V) (y z:Value),A.units+n<cLine→eqOk n d e=true→Rep X.K H d v→Rep X.K H e u→RelV v y→RelV u z→SeqAt.EqAt A s y z (eqD d e):=by
 intro n
 induction n with
 |zero =>
  intro A d e v u y z hu ok r q ry rz
  have s1:scD d=true:=by cases d<;>cases e<;>simp_all [scD,eqOk]
  have s2:scD e=true:=by cases d<;>cases e<;>simp_all [scD,eqOk]
  obtain⟨f1,f2,ee⟩:=eqV_D r q s1 s2 ok
  rw [← ee]
  exact zaz0 ry rz f1 f2
 |succ n ih =>
  intro A d e v u y z hu ok r q ry rz
  by_cases s1:scD d=true
  ·have s2:scD e=true:=by cases d<;>cases e<;>simp_all [scD,eqOk]
   obtain⟨f1,f2,ee⟩:=eqV_D r q s1 s2 ok
   rw [← ee]
   exact zaz0 ry rz f1 f2
  ·have hu':A.in1.units+n<cLine:=by rw [zag5];lia
   have hu0:A.units<cLine:=by lia
   cases r with
   |@tup xs p vs h1 h2 =>
    cases q with
    |@tup ys p' ws h1' h2' =>
     cases ry;cases rz
     by_cases z:p=p'
     ·subst z
      have e:=Rep.inj I (.tup h1 h2) (.tup h1' h2')
      rw [eqD_true.mpr e]
      exact SeqAt.EqAt.same _
     ·obtain⟨its,w1,w2,_⟩:=I.tuple h1
      obtain⟨its',w1',w2',_⟩:=I.tuple h1'
      refine SeqAt.EqAt.of_refs z ?_
      have k:=SeqAt.RcAt.tuples (A:=A) (e:=eAt xs ys) w2 w2' hu0 (fun j g1 g2=>by
       obtain⟨v1,a1,a2⟩:=Vals.getL w1 g1
       obtain⟨v2,b1,b2⟩:=Vals.getL w1' g2
       obtain⟨x1,c1,c2⟩:=h2.getV a1
       obtain⟨x2,d1,d2⟩:=h2'.getV b1
       have:=ih A.in1 x1 x2 v1 v2 _ _ hu' (zaj0 (by simpa [eqOk] using ok) c1 d1) c2 d2 a2 b2
       have ee:eAt xs ys j=eqD x1 x2:=by simp only [eAt,c1,d1]
       rw [ee];exact this)
      have l1:its.toArray.size=xs.length:=by have:=w1.length;have:=h2.length;simp;lia
      have l2:its'.toArray.size=ys.length:=by have:=w1'.length;have:=h2'.length;simp;lia
      rw [l1,l2,zad6]at k
      exact k
    |_=>simp_all [eqOk]
   |@lst xs p vs h1 h2 =>
    cases q with
    |@lst ys p' ws h1' h2' =>
     cases ry;cases rz
     by_cases z:p=p'
     ·subst z
      have e:=Rep.inj I (.lst h1 h2) (.lst h1' h2')
      rw [eqD_true.mpr e]
      exact SeqAt.EqAt.same _
     ·obtain⟨its,w1,w2,_⟩:=I.list h1
      obtain⟨its',w1',w2',_⟩:=I.list h1'
      refine SeqAt.EqAt.of_refs z ?_
      have l1:its.toArray.size=xs.length:=by have:=w1.length;have:=h2.length;simp;lia
      have l2:its'.toArray.size=ys.length:=by have:=w1'.length;have:=h2'.length;simp;lia
      by_cases hl:xs.length=ys.length
      ·have k:=SeqAt.RcAt.lists (A:=A) (e:=eAt xs ys) (PlainL.isL w2) (PlainL.isL w2') (by rw [l1,l2];exact hl) hu0 (fun j g1 g2=>by
        obtain⟨v1,a1,a2⟩:=Vals.getL w1 g1
        obtain⟨v2,b1,b2⟩:=Vals.getL w1' g2
        obtain⟨x1,c1,c2⟩:=h2.getV a1
        obtain⟨x2,d1,d2⟩:=h2'.getV b1
        have:=ih A.in1 x1 x2 v1 v2 _ _ hu' (zaj0 (by simpa [eqOk] using ok) c1 d1) c2 d2 a2 b2
        have ee:eAt xs ys j=eqD x1 x2:=by simp only [eAt,c1,d1]
        rw [ee];exact this)
       rw [l1,zad7 hl]at k
       exact k
      ·have ee:eqD (.lst xs) (.lst ys)=false:=eqD_false.mpr fun z=>hl (by injection z with z;rw [z])
       rw [ee]
       exact SeqAt.RcAt.lists_lengths (PlainL.isL w2) (PlainL.isL w2') (by rw [l1,l2];simpa using hl) hu0
    |_=>simp_all [eqOk]
   |dct=>exact absurd ok (by cases e<;>simp [eqOk])
   |pdc=>exact absurd ok (by cases e<;>simp [eqOk])
   |_=>simp_all [scD]
theorem zam5 {pins:List (Addr×Obj)}{s:zbe1}{σ:L2.St}{H:Hp} (I:Inv X pins σ H s) {n:Nat}{A:Around}{xs ys:List D}{vs ws:List V}{its its':List Value} (hu:A.units+n+1<cLine) (ok:((xs.zip ys).all fun p=>eqOk n p.1 p.2)=true)
  (h2:Reps X.K H xs vs) (h2':Reps X.K H ys ws) (w1:Vals vs its) (w1':Vals ws its'):∀j (g1:j<its.toArray.size) (g2:j<its'.toArray.size),SeqAt.EqAt A.in1 s its.toArray[j] its'.toArray[j] (eAt xs ys j):=fun j g1 g2=>by
 obtain⟨v1,a1,a2⟩:=Vals.getL w1 g1
 obtain⟨v2,b1,b2⟩:=Vals.getL w1' g2
 obtain⟨x1,c1,c2⟩:=h2.getV a1
 obtain⟨x2,d1,d2⟩:=h2'.getV b1
 have:=eqAt_D I n A.in1 x1 x2 v1 v2 _ _ (by rw [zag5];lia) (zaj0 ok c1 d1) c2 d2 a2 b2
 have ee:eAt xs ys j=eqD x1 x2:=by simp only [eAt,c1,d1]
 rw [ee];exact this
def kEq:Ev→Ev→Option Ev:=fun r1 r2=>if eqOk 6 r1.d r2.d then some (.cl (.bl (eqD r1.d r2.d))) else none
def kNe:Ev→Ev→Option Ev:=fun r1 r2=>if eqOk 6 r1.d r2.d then some (.cl (.bl (!eqD r1.d r2.d))) else none
theorem scal_D {K:zbc5}{H:Hp}{n:Nat}{d e:D}{v u:V} (r:Rep K H d v) (q:Rep K H e u) (s1:scD d=true) (ok:eqOk n d e=true):scal v u=true∧decide (v=u)=eqD d e:=by
 cases r<;>cases q<;>simp_all [scD,eqOk,scal,eqD]
theorem zav9 (hu:X.A.units+64<cLine):OpD X F (compareOp .Eq) kEq:=by
 intro pins s σ H0 H A x y v u Q r1 r2 r I m g0 rx ry q1 q2 e hq
 unfold kEq at e
 split at e
 case isFalse=>cases e
 rename_i ok
 cases e
 have p1:=q1.full
 have p2:=q2.full
 by_cases s1:scD r1.d=true
 ·obtain⟨a1,a2⟩:=scal_D p1 p2 s1 ok
  exact op_eq pins s σ H x y v u Q I rx ry ⟨a1,by rw [a2];exact hq _ H (Same.refl H) (.bl _)⟩
 ·generalize r1.d=d1 at *
  generalize r2.d=d2 at *
  have hu0:X.A.units<cLine:=by lia
  cases p1 with
  |@tup xs p vs h1 h2 =>
   cases p2 with
   |@tup ys p' ws h1' h2' =>
    cases rx;cases ry
    obtain⟨its,w1,w2,_⟩:=I.tuple h1
    obtain⟨its',w1',w2',_⟩:=I.tuple h1'
    have l1:its.toArray.size=xs.length:=by have:=w1.length;have:=h2.length;simp;lia
    have l2:its'.toArray.size=ys.length:=by have:=w1'.length;have:=h2'.length;simp;lia
    refine SeqAt.eq_tupleAt w2 w2' hu0 (zam5 I (n:=5) (by lia) (by simpa [eqOk] using ok) h2 h2' w1 w1') ?_
    rw [l1,l2,zad6]
    exact⟨.bl _,H,I,rfl,hq _ H (Same.refl H) (.bl _)⟩
   |_=>simp_all [eqOk]
  |@lst xs p vs h1 h2 =>
   cases p2 with
   |@lst ys p' ws h1' h2' =>
    cases rx;cases ry
    obtain⟨its,w1,w2,_⟩:=I.list h1
    obtain⟨its',w1',w2',_⟩:=I.list h1'
    have l1:its.toArray.size=xs.length:=by have:=w1.length;have:=h2.length;simp;lia
    have l2:its'.toArray.size=ys.length:=by have:=w1'.length;have:=h2'.length;simp;lia
    by_cases hl:xs.length=ys.length
    ·refine SeqAt.eq_listAt (PlainL.isL w2) (PlainL.isL w2') (by rw [l1,l2];exact hl) hu0 (zam5 I (n:=5) (by lia) (by simpa [eqOk] using ok) h2 h2' w1 w1') ?_
     rw [l1,zad7 hl]
     exact⟨.bl _,H,I,rfl,hq _ H (Same.refl H) (.bl _)⟩
    ·have ee:eqD (.lst xs) (.lst ys)=false:=eqD_false.mpr fun z=>hl (by injection z with z;rw [z])
     rw [ee]at hq
     exact SeqAt.eq_list_lengthsAt (PlainL.isL w2) (PlainL.isL w2') (by rw [l1,l2];simpa using hl) hu0 ⟨.bl _,H,I,rfl,hq _ H (Same.refl H) (.bl _)⟩
   |_=>simp_all [eqOk]
  |dct=>exact absurd ok (by cases d2<;>simp [eqOk])
  |pdc=>exact absurd ok (by cases d2<;>simp [eqOk])
  |_=>simp_all [scD]
theorem od_ne (hu:X.A.units+64<cLine):OpD X F (compareOp .NotEq) kNe:=by
 intro pins s σ H0 H A x y v u Q r1 r2 r I m g0 rx ry q1 q2 e hq
 unfold kNe at e
 split at e
 case isFalse=>cases e
 rename_i ok
 cases e
 have p1:=q1.full
 have p2:=q2.full
 by_cases s1:scD r1.d=true
 ·obtain⟨a1,a2⟩:=scal_D p1 p2 s1 ok
  exact op_ne pins s σ H x y v u Q I rx ry ⟨a1,by rw [a2];exact hq _ H (Same.refl H) (.bl _)⟩
 ·generalize r1.d=d1 at *
  generalize r2.d=d2 at *
  have hu0:X.A.units<cLine:=by lia
  cases p1 with
  |@tup xs p vs h1 h2 =>
   cases p2 with
   |@tup ys p' ws h1' h2' =>
    cases rx;cases ry
    obtain⟨its,w1,w2,_⟩:=I.tuple h1
    obtain⟨its',w1',w2',_⟩:=I.tuple h1'
    have l1:its.toArray.size=xs.length:=by have:=w1.length;have:=h2.length;simp;lia
    have l2:its'.toArray.size=ys.length:=by have:=w1'.length;have:=h2'.length;simp;lia
    have k:=SeqAt.RcNeAt.tuples (A:=X.A) w2 w2' hu0 (zam5 I (n:=5) (by lia) (by simpa [eqOk] using ok) h2 h2' w1 w1')
    rw [l1,l2,zad6]at k
    exact k _ _ _ _ ⟨.bl _,H,I,rfl,hq _ H (Same.refl H) (.bl _)⟩
   |_=>simp_all [eqOk]
  |@lst xs p vs h1 h2 =>
   cases p2 with
   |@lst ys p' ws h1' h2' =>
    cases rx;cases ry
    obtain⟨its,w1,w2,_⟩:=I.list h1
    obtain⟨its',w1',w2',_⟩:=I.list h1'
    have l1:its.toArray.size=xs.length:=by have:=w1.length;have:=h2.length;simp;lia
    have l2:its'.toArray.size=ys.length:=by have:=w1'.length;have:=h2'.length;simp;lia
    by_cases hl:xs.length=ys.length
    ·have k:=SeqAt.RcNeAt.lists (A:=X.A) (PlainL.isL w2) (PlainL.isL w2') (by rw [l1,l2];exact hl) hu0 (zam5 I (n:=5) (by lia) (by simpa [eqOk] using ok) h2 h2' w1 w1')
     rw [l1,zad7 hl]at k
     exact k _ _ _ _ ⟨.bl _,H,I,rfl,hq _ H (Same.refl H) (.bl _)⟩
    ·have ee:eqD (.lst xs) (.lst ys)=false:=eqD_false.mpr fun z=>hl (by injection z with z;rw [z])
     rw [ee]at hq
     exact SeqAt.RcNeAt.lists_lengths (A:=X.A) (PlainL.isL w2) (PlainL.isL w2') (by rw [l1,l2];simpa using hl) hu0 _ _ _ _ ⟨.bl _,H,I,rfl,hq _ H (Same.refl H) (.bl _)⟩
   |_=>simp_all [eqOk]
  |dct=>exact absurd ok (by cases d2<;>simp [eqOk])
  |pdc=>exact absurd ok (by cases d2<;>simp [eqOk])
  |_=>simp_all [scD]
noncomputable def tyD:D→String
 |.non => "NoneType"
 |.bl _ => "bool"
 |.int _ => "int"
 |.str _ => "str"
 |.tup _ => "tuple"
 |.lst _ => "list"
 |.dct _ _ => "dict"
 |.pdc _ => "dict"
def isiT (d:D) (T:String):Bool:=tyD d == T||(tyD d == "bool"&&T == "int")
def dIsi (T:String) (f:DE):DE:=fun t=>(f t).bind fun r=>some (.cl (.bl (isiT r.d T)))
def IsiOk (K:zbc5) (T:String):Prop := ∀d:D,PySem.W.kitOne K (.type (tyD d)) (.type T)=some (isiT d T)
theorem ped_isi {T:String}{x:Str}{p p2:Pos} (ok:IsiOk X.K T) (ha:PE X a (dE X.K F fa)) (hg:Gl X "isinstance") (hm:X.mg "isinstance"=none) (hgT:Gl X x) (hmT:X.mg x=none) (hvT:bootBuiltins x=some (.type T)) (hnT:x≠"__name__":=by decide) (hdT:(x ==("__debug__":Str))=false:=by decide)
  (he:zbe3 (a::[Expr.Name x p2]) X.env=(false,eval a X.env)::zbe3 [.Name x p2] X.env:=by rfl) (he2:zbe3 [Expr.Name x p2] X.env=[(false,eval (.Name x p2) X.env)]:=by rfl) (hpl:(zbj4 pos (zbe3 [Expr.Name x p2] X.env)).any (·.1)=false:=by rfl) :
  PE X (.Call (.Name "isinstance" p) [a,.Name x p2] [] pos) (dE X.K F (dIsi T fa)):=by
 have rule:zq1 X (.builtin "isinstance") (fun xs H Q => ∃v d,xs=[v,.ty T]∧Rep X.K H d v∧Q (.bl (isiT d T)) H):=by
  intro pins s σ H xs us Q I r h
  obtain⟨v,d,rfl,rp,hq⟩:=h
  obtain⟨u,w',rfl,r1,r2⟩:=vals2 r
  cases (show w'=Value.type T from r2)
  have fin:∀tk,EP X pins σ Q (.bool (isiT d T)) { s with toks:=tk }:=fun tk=>⟨.bl _,H,I.tok tk,rfl,hq⟩
  have e:=ok d
  cases rp with
  |non=>cases (show u=Value.none from r1);exact zbi8 PySem.W.kitx_none I.kIn True.intro e (fun z=>nomatch z) fin
  |bl y=>cases (show u=Value.bool y from r1);exact zbi8 PySem.W.kitx_bool I.kIn True.intro e (fun z=>nomatch z) fin
  |int i=>obtain⟨t,q⟩:=(show ∃t,u=Value.int i t from r1);cases q;exact zbi8 PySem.W.kitx_int I.kIn True.intro e (fun z=>nomatch z) fin
  |str y=>obtain⟨t,q⟩:=(show ∃t,u=Value.str y t from r1);cases q;exact zbi8 PySem.W.kitx_str I.kIn True.intro e (fun z=>nomatch z) fin
  |@tup _ p _ h1 h2 =>
   cases (show u=Value.ref p from r1)
   obtain⟨its,_,⟨o,e1,c1,_⟩,_⟩:=I.tuple h1
   exact zbi8 PySem.W.kitx_tuple I.kIn ⟨o,e1,c1⟩ e (fun z=>nomatch z) fin
  |@lst _ p _ h1 h2 =>
   cases (show u=Value.ref p from r1)
   obtain⟨its,_,⟨o,n,e1,c1,_⟩,_⟩:=I.list h1
   exact zbi8 PySem.W.kitx_list I.kIn ⟨o,e1,c1⟩ e (fun z=>nomatch z) fin
  |@dct _ _ p _ _ h1 h2 =>
   cases (show u=Value.ref p from r1)
   exact zbi8 zbs6 I.kIn (zx9 I h1) e (fun z=>nomatch z) fin
  |@pdc _ p h1 =>
   cases (show u=Value.ref p from r1)
   exact zbi8 zbs6 I.kIn (zw1 I h1) e (fun z=>nomatch z) fin
 refine PE.imp (pe_callB rule hg hm boot_isinstance (zf0 ha (zf0 (pe_bltn (v:=.ty T) hgT hmT hvT rfl hnT hdT) zi1 he2) he) (by decide) (by decide) he hpl) ?_
 rintro σ H Q ⟨A,t,r,R,e,h⟩
 unfold dIsi at e
 cases e1:fa t with
 |none=>rw [e1]at e;cases e
 |some r1 =>
  rw [e1]at e
  cases e
  exact⟨A,t,r1,R,e1,fun v H' gs q=>⟨v,r1.d,rfl,q.full,h _ H' gs (.bl _)⟩⟩
end
def zr6 (N:List Str) (ds:List D):Th:=ds.map Sl.val++zbe8 (N.length - ds.length) Sl.no
theorem RSl.no_all {K:zbc5}{H0 H:Hp}:∀n,RSl K H0 H (zbe8 n Sl.no) (zbe8 n none) []
 |0=>.nil
 |n+1=>.no (RSl.no_all n)
theorem RSl.start {K:zbc5}{H0 H:Hp}{t:Th}{σ:L2.St} (r0:RSl K H0 H t σ []):∀ {ds:List D}{vs:List V},Reps K H0 ds vs→RSl K H0 H (ds.map Sl.val++t) (vs.map some++σ) []
 |_,_,.nil=>r0
 |_,_,.cons h r=>.val h (RSl.start r0 r)
def zg9:Out→Option Ev
 |.rt r=>some r
 |.nx _=>some (.cl .non)
 |_=>none
theorem zg5 {P:Program}{w:World}{K:zbc5}{mg:Str→Option Value}{base:BHeap}{x qual:Str}{st:Stmt}{f:Addr}{fd:FuncData}{N ps:List Str}{k:Nat}{G:List D→Option Ev} (Fn:L2.Fun K x qual st f fd) (S:FnScope N ps (za9 st))
  (hlen:∀ds r,G ds=some r→ds.length=ps.length) (g:DS) (hG:∀ds r,G ds=some r→∃o,g (zr6 N ds)=some o∧zg9 o=some r)
  (hbody:∀(cdv:Value) (A:Around) (outer:List Env) (s:zbe1) (H:Hp) (E:XK) (F:List Addr),Room k (A.deeper (envOfC qual (za9 st) s.heap.objs.size f cdv)) →
   PSs (cxOf CX0 P w K mg base N qual (za9 st) f cdv A outer s H E).nox (zg3 st) (dS K F g)):FnOk P w K mg base CX0 (k+1) f fd ps (spD K G):=by
 refine Fn.ok S (fun vs H Q E h=>?_) (fun cdv A outer s H vs Q E hr h=>?_)
 ·obtain⟨Fo,ds,r,_,hr,hg,_⟩:=h
  rw [hr.length];exact hlen ds r hg
 ·obtain⟨Fo,ds,r,hl,hr',hg,cont⟩:=h
  obtain⟨o,ho,hoe⟩:=hG ds r hg
  refine⟨_,hbody cdv A outer s H E Fo hr,zaz7 (A:=[]) (t:=zr6 N ds) ⟨hl,zbg4,fun p hp=>(by cases hp),?_⟩ ho ?_⟩
  ·unfold zr6 L2.start
   rw [hr'.length]
   exact RSl.start (RSl.no_all _) hr'
  ·have sm:∀ {A' H'},Gr [] H A' H'→Same H H':=fun g b o q=>g.kp b o (by simp) q
   cases o with
   |nx t' =>
    cases hoe
    exact fun σ' H' A' g' R'=>cont .non H' (sm g') .non
   |bk t'=>cases hoe
   |ct t'=>cases hoe
   |rt r' =>
    cases hoe
    intro v H' A' g' q
    refine cont v H' (sm g') ?_
    cases r with
    |cl d=>exact q
    |tm d=>exact q
    |nw xs =>
     obtain⟨p,vs',rfl,h1,h2,h3,h4⟩:=q
     rcases h1 with h1 | h1
     ·cases h1
     ·exact⟨p,vs',rfl,h1,h3,h4⟩
    |dn d =>
     obtain⟨B,h1,h2,h3⟩:=q
     exact⟨B,h1,fun b hb=>by rcases (h2 b hb).1 with z | z;cases z;exact z,h3⟩
end DL
namespace DL
open PySem.Spec L2
structure Cal (P:Program) (w:World) (K:zbc5) (mg:Str→Option Value) (base:BHeap) (x:Str) (k:Nat) (G:List D→Option Ev):Prop where
 ex:∃(a:Addr) (fd:FuncData) (ps:List Str),mg x=some (.ref a)∧zbh3 K (.ref a)=true∧L2.Binds K fd ps []∧FnOk P w K mg base CX0 k a fd ps (spD K G)
section
variable {X:Cx}{F:List Addr}{a b c:Expr}{es:List Expr}{fa fb fc:DE}{ga:DA}{pos:Pos}
theorem zb6 {k:Nat}{G:List D→Option Ev}{x:Str}{p:Pos} (c:Cal X.prog X.w X.K X.mg X.base x k G) (hr:Room k X.A) (ha:PA X (a::es) (dA X.K F ga)) (hg:Gl X x:=by rfl) (hdb:(x ==("__debug__":Str))=false:=by decide)
  (he:zbe3 (a::es) X.env=(false,eval a X.env)::zbe3 es X.env:=by rfl) (hpl:(zbj4 pos (zbe3 es X.env)).any (·.1)=false:=by rfl):PE X (.Call (.Name x p) (a::es) [] pos) (dE X.K F (dT1 (zc2 G) ga)):=by
 obtain⟨f,fd,ps,h1,h2,h3,h4⟩:=c.ex
 exact ped_call h4 hr hg h1 h2 h3 ha hdb he hpl
end
structure Df (K:zbc5) (mg:Str→Option Value) (x:Str) (st:Stmt) (ps:List Str) (a:Addr) (fd:FuncData):Prop where
 fn:L2.Fun K x x st a fd
 mgx:mg x=some (.ref a)
 bd:L2.Binds K fd ps []
theorem Df.cal {P:Program}{w:World}{K:zbc5}{mg:Str→Option Value}{base:BHeap}{x:Str}{st:Stmt}{ps:List Str}{a:Addr}{fd:FuncData}{k:Nat}{G:List D→Option Ev} (d:Df K mg x st ps a fd) (h:FnOk P w K mg base CX0 k a fd ps (spD K G)):Cal P w K mg base x k G :=
 ⟨a,fd,ps,d.mgx,d.fn.kp,d.bd,h⟩
theorem bt_list:bootBuiltins "list"=some (.type "list"):=by decide +kernel
theorem bt_abs:bootBuiltins "abs"=some (.builtin "abs"):=by decide +kernel
end DL
namespace DL
open PySem.Spec L2
theorem cut1 {n:Nat}:∀ {us:List Value},us.length=n+1→∃a t,us=a::t∧t.length=n
 |a::t,h=>⟨a,t,rfl,Nat.succ.inj h⟩
theorem zs7 {K:zbc5}{x qual:Str}{st:Stmt}{f:Addr}{fd:FuncData}{p0:Str} (F:L2.Fun K x qual st f fd) (h:∀(kV doc pm:Value) (an:Option Addr) (cdv ct:Value),∀a0:Value,bindArgs (zbh9 x qual (zj2 st) (zg3 st) (za9 st) .none kV doc pm an cdv ct) ⟨[a0],[]⟩=pure [(p0,a0)]):Binds K fd [p0] [] :=
 F.binds fun kV doc pm an cdv ct u0 h0=>by
  obtain⟨a0,u1,rfl,h1⟩:=cut1 h0
  cases zbh4.mp h1
  exact h kV doc pm an cdv ct a0
theorem zs6 {K:zbc5}{x qual:Str}{st:Stmt}{f:Addr}{fd:FuncData}{p0 p1:Str} (F:L2.Fun K x qual st f fd) (h:∀(kV doc pm:Value) (an:Option Addr) (cdv ct:Value),∀a0 a1:Value,bindArgs (zbh9 x qual (zj2 st) (zg3 st) (za9 st) .none kV doc pm an cdv ct) ⟨[a0,a1],[]⟩=pure [(p0,a0),(p1,a1)]):Binds K fd [p0,p1] [] :=
 F.binds fun kV doc pm an cdv ct u0 h0=>by
  obtain⟨a0,u1,rfl,h1⟩:=cut1 h0
  obtain⟨a1,u2,rfl,h2⟩:=cut1 h1
  cases zbh4.mp h2
  exact h kV doc pm an cdv ct a0 a1
theorem binds3 {K:zbc5}{x qual:Str}{st:Stmt}{f:Addr}{fd:FuncData}{p0 p1 p2:Str} (F:L2.Fun K x qual st f fd) (h:∀(kV doc pm:Value) (an:Option Addr) (cdv ct:Value),∀a0 a1 a2:Value,bindArgs (zbh9 x qual (zj2 st) (zg3 st) (za9 st) .none kV doc pm an cdv ct) ⟨[a0,a1,a2],[]⟩=pure [(p0,a0),(p1,a1),(p2,a2)]):Binds K fd [p0,p1,p2] [] :=
 F.binds fun kV doc pm an cdv ct u0 h0=>by
  obtain⟨a0,u1,rfl,h1⟩:=cut1 h0
  obtain⟨a1,u2,rfl,h2⟩:=cut1 h1
  obtain⟨a2,u3,rfl,h3⟩:=cut1 h2
  cases zbh4.mp h3
  exact h kV doc pm an cdv ct a0 a1 a2
theorem binds4 {K:zbc5}{x qual:Str}{st:Stmt}{f:Addr}{fd:FuncData}{p0 p1 p2 p3:Str} (F:L2.Fun K x qual st f fd) (h:∀(kV doc pm:Value) (an:Option Addr) (cdv ct:Value),∀a0 a1 a2 a3:Value,bindArgs (zbh9 x qual (zj2 st) (zg3 st) (za9 st) .none kV doc pm an cdv ct) ⟨[a0,a1,a2,a3],[]⟩=pure [(p0,a0),(p1,a1),(p2,a2),(p3,a3)]):Binds K fd [p0,p1,p2,p3] [] :=
 F.binds fun kV doc pm an cdv ct u0 h0=>by
  obtain⟨a0,u1,rfl,h1⟩:=cut1 h0
  obtain⟨a1,u2,rfl,h2⟩:=cut1 h1
  obtain⟨a2,u3,rfl,h3⟩:=cut1 h2
  obtain⟨a3,u4,rfl,h4⟩:=cut1 h3
  cases zbh4.mp h4
  exact h kV doc pm an cdv ct a0 a1 a2 a3
inductive Hv (K:zbc5) (x:Str) (st:Stmt) (f:Addr):Prop
 |mk {od an:Option Addr}{sl:Array (Option Value)}{oc kV dc pm cd ct:Value} (a:zbg9 K mainGlobals x=some (some (.ref f))) (l:K.lookup f=some ⟨oc,od,.func (zbh9 x x (zj2 st) (zg3 st) (za9 st) .none kV dc pm an cd ct),sl⟩) (c:zbm9 K cd x=true) (k:zbh3 K (.ref f)=true):Hv K x st f
theorem Hv.fn {K:zbc5}{x:Str}{st:Stmt}{f:Addr} (h:Hv K x st f):∃fd,L2.Fun K x x st f fd:=by
 cases h with
 |mk a l c k=>exact⟨_,zay5 l c k⟩
theorem Hv.mg {K:zbc5}{x:Str}{st:Stmt}{f:Addr}{hp:Heap}{mg:Str→Option Value} (h:Hv K x st f) (X:K.In hp) (G:hp.Ns mainGlobals mg):mg x=some (.ref f):=by
 cases h with
 |mk a l c k=>exact zbp5 X G a
theorem zk2 {N P:List Str}{sc:Scope} (h1:sc.kind=.function) (h2:sc.isCoroutine=false) (h3:sc.isGenerator=false) (h5:N.take P.length=P) (h:(decide N.Nodup&&(decide (∀x∈P,sc.names.lookup x=some .local∨sc.names.lookup x=some .cell)&&decide (∀y∈sc.names,y.2≠.free)))=true):FnScope N P sc:=by
 rw [zbd8,zbd8,decide_eq_true_eq,decide_eq_true_eq,decide_eq_true_eq]at h
 exact⟨h1,h2,h3,h.1,h5,h.2.1,h.2.2⟩
theorem Hv.bt {K:zbc5}{x:Str}{st:Stmt}{f:Addr}{fd:FuncData}{p:Str} (F:L2.Fun K x x st f fd) (h:∀(kV doc pm:Value) (an:Option Addr) (cdv ct:Value) (v:Value),bindArgs (zbh9 x x (zj2 st) (zg3 st) (za9 st) .none kV doc pm an cdv ct) ⟨[v],[]⟩=pure [(p,v)]) (s:zbe1) (v:Value):BindsTo s fd ⟨[v],[]⟩ [(p,v)]:=by
 obtain⟨oc,od,kV,doc,pm,an,cdv,ct,osl,rfl,lk,hcd⟩:=F.ex
 exact .of_eq (h ..)
def locB (sc:Scope) (x:Str):Bool:=match sc.names.lookup x with
 |some .local=>true
 |some .cell=>true
 |_=>false
theorem zb5 {sc:Scope}{x:Str} (h:locB sc x=true):L2.Loc sc x:=by
 unfold locB at h
 unfold L2.Loc
 cases e:sc.names.lookup x with
 |none=>rw [e]at h;cases h
 |some k=>rw [e]at h;cases k<;>first | exact .inl rfl | exact .inr rfl | cases h
end DL
namespace L2
open PySem.Spec
section
variable {X:Cx}{pins:List (Addr×Obj)}{σ:L2.St}{H:Hp}{s:zbe1}{h':Heap}
theorem Inv.turnedNew {t':Nat}{fp:List Addr}{a:Addr}{o:HO} (I:Inv X pins σ H s) (k:∀b u,b∉fp→s.heap.get? b=some u→h'.get? b=some u) (hf:∀b∈fp,FpOk X pins H b) (hp:s.heap.objs.size≤a)
  (new:ObjOk X.prog X.w (upd H a o) h' a o):Inv X pins σ (upd H a o) { s with heap:=h',toks:=t' }:=by
 have ha:H a=none:=I.hok.fresh hp
 have sm:∀b u,H b=some u→upd H a o b=some u:=fun b u e=>by rw [zb1 (fun z=>by rw [z,ha]at e;cases e)];exact e
 have nfp:∀b u,H b=some u→b∉fp:=fun b u e z=>by rw [(hf b z).1]at e;cases e
 refine I.step (g':=s.gens) (d':=s.drawn) (ch:=fp) (fun b hb=>?_) (fun b u _ _ hc e _=>k b u hc e) (fun b u _ _ hc e _=>⟨u.slots,k b u hc e⟩) (fun b u _ e n=>?_)
  (fun b u hc e=>⟨u,k b u hc e⟩) (fun b xs e=>sm b _ e) (fun b q u e=>sm b _ e) (fun b ps e=>sm b _ e) (fun m hm=>?_) (fun b u e=>?_) I.bare
 ·obtain⟨f0,f1,f2,f3,f4,f5⟩:=hf b hb
  exact⟨f3,f1,f4,f5⟩
 ·rw [zb1 (zbf5 (zbe2 (zbe4 e) hp))];exact n
 ·obtain⟨q,es,ep,ho,r⟩:=hm
  exact⟨q,es,ep,k _ q (fun z=>(hf _ z).2.1 rfl) ho,r⟩
 ·by_cases z:b=a
  ·subst z
   rw [za8]at e
   cases e
   exact new
  ·rw [zb1 z]at e
   refine (I.hok b u e).stay (fun c v hc q=>k c v ?_ q) (fun c q=>sm c _ q) (fun c xs q=>sm c _ q) fun c o u q=>sm c _ q
   rcases hc with w | w
   ·rw [w];exact nfp b u e
   ·exact nfp c _ w
theorem Inv.turnedL {t':Nat}{fp:List Addr} (I:Inv X pins σ H s) (k:∀b u,b∉fp→s.heap.get? b=some u→h'.get? b=some u) (hf:∀b∈fp,FpOk X pins H b):Inv X pins σ H { s with heap:=h',toks:=t' }:=by
 have nfp:∀b u,H b=some u→b∉fp:=fun b u e z=>by rw [(hf b z).1]at e;cases e
 refine I.step (g':=s.gens) (d':=s.drawn) (ch:=fp) (fun b hb=>?_) (fun b u _ _ hc e _=>k b u hc e) (fun b u _ _ hc e _=>⟨u.slots,k b u hc e⟩) (fun b u _ e n=>n)
  (fun b u hc e=>⟨u,k b u hc e⟩) (fun b xs e=>e) (fun b q u e=>e) (fun b ps e=>e) (fun m hm=>?_) (fun b u e=>?_) I.bare
 ·obtain⟨f0,f1,f2,f3,f4,f5⟩:=hf b hb
  exact⟨f3,f1,f4,f5⟩
 ·obtain⟨q,es,ep,ho,r⟩:=hm
  exact⟨q,es,ep,k _ q (fun z=>(hf _ z).2.1 rfl) ho,r⟩
 ·refine (I.hok b u e).stay (fun c v hc q=>k c v ?_ q) (fun c q=>q) (fun c xs q=>q) fun c o u q=>q
  rcases hc with w | w
  ·rw [w];exact nfp b u e
  ·exact nfp c _ w
end
noncomputable def Ite (K:zbc5) (a:Addr):It :=
 ⟨fun i H => ∃xs x,SqL K H a xs∧xs[i]?=some x,fun i H x H' => ∃p v,H p=none∧x=.ref p∧H'=upd H p (.tup [.int i,v])∧∀xs,SqL K H a xs→xs[i]?=some v,fun i H => ∃xs,SqL K H a xs∧xs.length≤i⟩
def EnumAt (e it a:Addr) (i:Nat) (h:Heap):Prop:=(∃old,IsEnum h e it (i:Int) old)∧h.IsListIter it a i∧e≠it
theorem zas5 {P:Program}{w:World}{K:zbc5}{elts:List Expr}{k:Nat}{pos:Pos} (a e it:Addr):Turn P w K (.Tuple elts k pos) (Ite K a) [e,it] e (EnumAt e it a) where
 mem:=by simp
 obj:=fun i h st b hb=>by
  obtain⟨⟨old,h1⟩,h2,_⟩:=st
  rcases (by simpa using hb:b=e∨b=it) with rfl | rfl
  ·exact⟨_,h1,fun v z=>by cases z⟩
  ·obtain⟨o,e1,c,d⟩:=h2
   exact⟨o,e1,fun v z=>by rw [d]at z;cases z⟩
 keep:=fun i h h' st kk=>by
  obtain⟨⟨old,h1⟩,h2,ne⟩:=st
  exact⟨⟨old,kk e (by simp) _ h1⟩,h2.at fun o q=>kk it (by simp) o q,ne⟩
 item:=by
  intro X hP hw hK hc i pins s σ H E I hf st hg
  subst hP hw hK
  obtain⟨xs,x,hq,hx⟩:=hg
  obtain⟨its,rv,p,hz⟩:=I.list hq
  obtain⟨u,hu,ru⟩:=rv.get hx
  obtain⟨⟨old,h1⟩,h2,ne⟩:=st
  refine wpAny_pyNext_enum_item h1 h2 p.isList (x:=u) (by simpa using hu) ne fun h1' heo hit1 ht1 hz1 hk1=>?_
  refine⟨_,rfl,wpAny_letOwnedTupleGo_enum heo fun h2' he2 hs2=>?_⟩
  replace hs2:Heap.SameBut e h1' h2':=hs2
  have es:e<s.heap.objs.size:=zbe4 h1
  have kp:∀b o,b∉[e,it]→s.heap.get? b=some o→h2'.get? b=some o:=fun b o nb q=>by
   have n1:b≠e:=fun z=>nb (by simp [z])
   have n2:b≠it:=fun z=>nb (by simp [z])
   exact (hs2.2 b n1).trans (hk1 b o n1 n2 q)
  have ht2:h2'.get? s.heap.objs.size=some { cls:=.type "tuple",data:=.seq #[.int i s.toks,u] }:=(hs2.2 _ (zbn3 es)).trans ht1
  have I2:Inv X pins σ (upd H s.heap.objs.size (.tup [.int i,x])) { s with heap:=h2',toks:=s.toks+1 }:=I.turnedNew (t':=s.toks+1) kp hf (zbf1 _)
   ⟨by show 2≤sizeLine;decide,[.int i s.toks,u],.cons ⟨_,rfl⟩ (.cons ru .nil),⟨_,ht2,rfl,_,rfl⟩⟩
  refine⟨.ref s.heap.objs.size,_,I2,rfl,⟨s.heap.objs.size,x,I.hok.fresh (zbf1 _),rfl,rfl,fun ys hy=>by rw [I.list_inj hy hq];exact hx⟩,⟨⟨u,?_⟩,?_,ne⟩,fun b hb=>?_⟩
  ·exact he2
  ·exact hit1.extBut hs2.extBut (Ne.symm ne)
  ·rw [zb1 (fun z=>?_)]
   ·exact (hf b hb).1
   ·rcases (by simpa using hb:b=e∨b=it) with w' |w'
    ·rw [← z,w']at es;exact absurd es (zbh6 _)
    ·obtain⟨o,e1,_⟩:=h2
     have:=zbe4 e1
     rw [← w',z]at this;exact absurd this (zbh6 _)
 done:=by
  intro X hP hw hK hc i pins s σ H E I hf st hg
  subst hP hw hK
  obtain⟨xs,hq,hx⟩:=hg
  obtain⟨its,rv,p,hz⟩:=I.list hq
  obtain⟨⟨old,h1⟩,h2,ne⟩:=st
  have hl:=rv.length
  refine wpAny_pyNext_enum_end (I.ok.hd hc) h1 h2 p.isList (by simp;lia) fun h' eb=>⟨rfl,I.turnedL (t':=s.toks) (fun b o nb q=>eb b o (fun z=>nb (by simp [z])) q) hf⟩
 self:=fun _ _ _ _ _ st h=>by
  obtain⟨⟨old,h1⟩,_,_⟩:=st
  exact wpAny_pyIter_enum h1 h
def iEnum (K:zbc5) (tl:TE):TI:=fun σ H R=>tl σ H fun x H1 => ∃a,x=.ref a∧(∃xs,SqL K H1 a xs)∧R (Ite K a) H1
theorem bt_enum:bootBuiltins "enumerate"=some (.type "enumerate"):=by decide +kernel
theorem pi_enum {X:Cx}{l:Expr}{tl:TE}{elts:List Expr}{k:Nat}{tp p pos:Pos} (hg:Gl X "enumerate") (hm:X.mg "enumerate"=none) (hl:PE X l tl) (hs:zbe3 [l] X.env=[(false,eval l X.env)]:=by rfl) :
  PI X (.Tuple elts k tp) (.Call (.Name "enumerate" p) [l] [] pos) (iEnum X.K tl):=by
 intro pins s σ H R I h
 refine Call_ (zo6 I hg hm bt_enum (PyProof.Rows.callWith_type1 (thn ((zf0 hl zi1 hs) pos pins s σ H (fun vs H1=>match vs with | [x] => ∃a,x=.ref a∧(∃xs,SqL X.K H1 a xs)∧R (Ite X.K a) H1 | _=>False) I h) fun us s1 ⟨vs,H1,I1,r1,q1⟩=>?_) hs rfl))
 cases r1 with
 |nil=>exact q1.elim
 |@cons x u xr ur ru rr =>
  cases rr with
  |cons _ _=>exact q1.elim
  |nil =>
  obtain⟨a,rfl,⟨xs,hq⟩,q⟩:=q1
  cases ru
  obtain⟨its,rv,p,hz⟩:=I1.list hq
  refine call_enumerate_list p.isList fun h' he hit hz' hk=>?_
  have I2:Inv X pins σ H1 { s1 with heap:=h' }:=I1.kept (t':=s1.toks) hk
  refine wpAny_pyIter_enum he ?_
  refine⟨s1.heap.objs.size+1,[s1.heap.objs.size+1,s1.heap.objs.size],EnumAt (s1.heap.objs.size+1) s1.heap.objs.size a,Ite X.K a,H1,rfl,I2,zas5 a _ _,⟨⟨_,he⟩,hit,Nat.succ_ne_self _⟩,fun b hb=>?_,q⟩
  rcases (by simpa using hb:b=s1.heap.objs.size+1∨b=s1.heap.objs.size) with rfl | rfl
  ·exact I1.fpOk (zbr8 _) (I1.hok.fresh (zbr8 _))
  ·exact I1.fpOk (zbf1 _) (I1.hok.fresh (zbf1 _))
end L2
namespace DL
open PySem.Spec L2
def zo8 (i:Nat):List D→List D
 |[]=>[]
 |d::ds=>.tup [.int i,d]::zo8 (i+1) ds
theorem zx8:∀(i:Nat) (ds:List D),(zo8 i ds).length=ds.length
 |_,[]=>rfl
 |i,d::ds=>by simp [zo8,zx8 (i+1) ds]
theorem zah5:∀(i:Nat) (ds:List D) (j:Nat) (d:D),ds[j]?=some d→(zo8 i ds)[j]?=some (.tup [.int ((i+j:Nat):Int),d])
 |_,[],j,d,h=>by simp at h
 |i,e::ds,0,d,h=>by simp at h;subst h;simp [zo8]
 |i,e::ds,j+1,d,h=>by
  have:=zah5 (i+1) ds j d (by simpa using h)
  simp only [zo8,zbk2,this]
  rw [show i+1+j=i+(j+1) by lia]
end DL
namespace L2
open PySem.Spec
noncomputable def clOf (cells:List (Str×Addr)):List (Str×NameKind)→List (Str×Addr)→List (Str×Addr)
 |[],acc=>acc
 |(n,k)::r,acc=>if k == .free then clOf cells r ((n,(cells.lookup n).getD 0)::acc) else clOf cells r acc
theorem zr4 {cells:List (Str×Addr)}:∀ {names:List (Str×NameKind)}{acc:List (Str×Addr)}{x:Str}{c:Addr},(∀y∈names,y.2=.free→∃c,cells.lookup y.1=some c)→(clOf cells names acc).lookup x=some c→acc.lookup x=some c∨cells.lookup x=some c
 |[],acc,x,c,_,h=>.inl h
 |(n,k)::r,acc,x,c,hy,h=>by
  unfold clOf at h
  have hr:∀y∈r,y.2=.free→∃c,cells.lookup y.1=some c:=fun y h1=>hy y (zbc6 _ h1)
  split at h
  ·rename_i hk
   rcases zr4 hr h with z | z
   ·rw [zbg1]at z
    split at z
    ·rename_i e
     have e:x=n:=by simpa using e
     obtain⟨c',hc'⟩:=hy (n,k) (zbc9 ..) (by simpa using hk)
     simp only [hc',zbt2]at z
     cases z
     rw [e];exact .inr hc'
    ·exact .inl z
   ·exact .inr z
  ·exact zr4 hr h
theorem zy4 {cells:List (Str×Addr)}:∀ {names:List (Str×NameKind)}{acc:List (Str×Addr)}{x:Str},(∃c,acc.lookup x=some c)→∃c,(clOf cells names acc).lookup x=some c
 |[],acc,x,h=>h
 |(n,k)::r,acc,x,h=>by
  unfold clOf
  split
  ·refine zy4 ?_
   rw [zbg1]
   split
   ·exact⟨_,rfl⟩
   ·exact h
  ·exact zy4 h
theorem zp7 {cells:List (Str×Addr)}:∀ {names:List (Str×NameKind)}{acc:List (Str×Addr)}{x:Str},(x,NameKind.free)∈names→∃c,(clOf cells names acc).lookup x=some c
 |(n,k)::r,acc,x,h=>by
  unfold clOf
  rcases zbd2.mp h with z | z
  ·cases z
   rw [if_pos (by rfl)]
   refine zy4 ⟨(cells.lookup n).getD 0,?_⟩
   simp [zbg1]
  ·split
   ·exact zp7 z
   ·exact zp7 z
theorem zl7 {scope:Scope}{env:Env} (h:∀y∈scope.names,y.2=.free→∃c,env.cells.lookup y.1=some c):closureFor scope env=pure (clOf env.cells scope.names []):=by
 unfold closureFor
 have key:∀(names:List (Str×NameKind)) (acc:List (Str×Addr)),(∀y∈names,y.2=.free→∃c,env.cells.lookup y.1=some c) →
   (forIn names acc fun (x:Str×NameKind) (cs:List (Str×Addr))=>(do
    if x.2 == .free then
     let a ← cellOf env x.1
     pure (ForInStep.yield ((x.1,a)::cs))
    else pure (ForInStep.yield cs):Sem (ForInStep (List (Str×Addr)))))=pure (clOf env.cells names acc):=by
  intro names
  induction names with
  |nil=>intro acc _;rfl
  |cons y r ih =>
   intro acc hy
   obtain⟨n,k⟩:=y
   have hr:∀y∈r,y.2=.free→∃c,env.cells.lookup y.1=some c:=fun y h1=>hy y (zbc6 _ h1)
   rw [List.forIn_cons]
   unfold clOf
   by_cases hk:(k == NameKind.free)=true
   ·obtain⟨c,hc⟩:=hy (n,k) (zbc9 ..) (by simpa using hk)
    have hc':cellOf env n=pure c:=by unfold cellOf;rw [hc]
    simp only [hk,if_true,hc']
    rw [← ih _ hr]
    simp only [hc,zbt2]
    rfl
   ·have hk':(k == NameKind.free)=false:=by simpa using hk
    simp only [hk',zbj3,if_false]
    rw [← ih _ hr]
    rfl
 have:=key scope.names [] h
 simp only [bind_pure_comp]at this ⊢
 rw [this]
 rfl
theorem zf6 {env:Env}:∀ {names:List (Str×NameKind)}{x:Str}{k':NameKind},(names.map fun (n,k)=>if (k == NameKind.free&&env.scope.kind == .function&&env.kindOf n == some .cell) then (n,NameKind.cell) else (n,k)).lookup x=some k' →
  ∃k,(x,k)∈names∧(k'=k∨(k=.free∧k'=.cell))
 |[],x,k',h=>by simp at h
 |(n,k)::r,x,k',h=>by
  rw [zbd7]at h
  by_cases hc:(k == NameKind.free&&env.scope.kind == .function&&env.kindOf n == some .cell)=true
  ·simp only [hc,if_true,zbg1]at h
   split at h
   ·rename_i e
    have e:x=n:=by simpa using e
    cases h
    simp only [zbd8,beq_iff_eq]at hc
    have hk:k=.free:=by simpa using hc.1.1
    exact⟨k,by rw [e];exact zbc9 ..,.inr ⟨hk,rfl⟩⟩
   ·obtain⟨q,a,b⟩:=zf6 h
    exact⟨q,zbc6 _ a,b⟩
  ·have hc':(k == NameKind.free&&env.scope.kind == .function&&env.kindOf n == some .cell)=false:=by simpa using hc
   simp only [hc',zbj3,if_false,zbg1]at h
   split at h
   ·rename_i e
    have e:x=n:=by simpa using e
    cases h
    exact⟨_,by rw [e];exact zbc9 ..,.inl rfl⟩
   ·obtain⟨q,a,b⟩:=zf6 h
    exact⟨q,zbc6 _ a,b⟩
theorem zu1 {prog:Program}{w:World}{A:Around}{R:Result→zbe1→Prop}{s:zbe1}{elt target iter:Expr}{ifs:List Expr}{scope:Scope}{pos:Pos}{it acc:Value}{env:Env} (I:Nat→zbe1→Prop)
  (turn:∀n s,I n s→wpAny (model prog w) A (pyNext it) (fun r s₁=>match r with
   |none=>R (.ok .next) s₁
   |some v=>wpAny (model prog w) A (letOwnedTupleGo target it v) (fun _ s₁'=>wpAny (model prog w) A (assign target env v) (fun _ s₂ =>
     wpAny (model prog w) A (forIn ifs true fun c r=>if r=true then do let ok ← isTrue c env (eval c env);pure (ForInStep.yield ok) else pure (ForInStep.yield r)) (fun ok s₃ =>
      if ok=true then wpAny (model prog w) A (eval elt env) (fun x s₄ =>
       wpAny (model prog w) A (call (.builtin "list.append") [acc,x]) (fun _ s₅ => ∃m,m<n∧I m s₅) (fun _ _=>False) s₄) (fun _ _=>False) s₃
      else ∃m,m<n∧I m s₃) (fun _ _=>False) s₂) (fun _ _=>False) s₁') (fun _ _=>False) s₁) (fun _ _=>False) s)
  (n:Nat) (h:I n s):codeAny (model prog w) A (.compLoop (.ListComp elt [⟨target,iter,ifs,0⟩] scope pos) 0 it acc env) R s:=by
 refine codeAny_loop rfl I (fun n s hI=>?_) n h
 show wpAny _ A ((compTurn (.ListComp elt [⟨target,iter,ifs,0⟩] scope pos) 0 it acc env).onRaise (fun x=>do noteFrame x env;theTreesLotGoes x)) _ _ s
 refine wpAny_noted ?_
 rw [compTurn_list]
 refine zbd4 (wpAny_standAt (zbd4 (wpAny_mono (turn n s hI) (fun r s₁ h₁=>?_) fun _ _ h'=>h'.elim)))
 cases r with
 |none=>exact zbf3 h₁
 |some v =>
  refine zbd4 (wpAny_mono h₁ (fun _ s₁' h₁'=>?_) fun _ _ h'=>h'.elim)
  refine zbd4 (wpAny_mono h₁' (fun _ s₂ h₂=>zbd4 (wpAny_mono h₂ (fun ok s₃ h₃=>?_) fun _ _ h'=>h'.elim)) fun _ _ h'=>h'.elim)
  cases ok with
  |false=>exact zbf3 ⟨rfl,h₃⟩
  |true =>
   exact zbd4 (zbd4 (wpAny_mono h₃ (fun x s₄ h₄=>zbd4 (wpAny_mono h₄ (fun _ s₅ h₅=>zbf3 (zbf3 ⟨rfl,h₅⟩)) fun _ _ h'=>h'.elim)) fun _ _ h'=>h'.elim))
theorem zac9 {x:Str}{c:Addr}:∀ {names:List (Str×NameKind)}{n:Nat}{acc:List (Str×Addr)},(cellsFrom n names acc).lookup x=some c→acc.lookup x=some c∨n≤c
 |[],n,acc,h=>.inl h
 |(y,k)::r,n,acc,h=>by
  unfold cellsFrom at h
  split at h
  ·rcases zac9 h with z | z
   ·rw [zbg1]at z
    split at z
    ·cases z;exact .inr (zbf1 _)
    ·exact .inl z
   ·exact .inr (by lia)
  ·exact zac9 h
theorem zao9 {x:Str}:∀ {names:List (Str×NameKind)}{n:Nat}{acc:List (Str×Addr)},(∃c,acc.lookup x=some c)→∃c,(cellsFrom n names acc).lookup x=some c
 |[],n,acc,h=>h
 |(y,k)::r,n,acc,h=>by
  unfold cellsFrom
  split
  ·refine zao9 ?_
   rw [zbg1]
   split
   ·exact⟨_,rfl⟩
   ·exact h
  ·exact zao9 h
theorem zal2 {x:Str}:∀ {names:List (Str×NameKind)}{n:Nat}{acc:List (Str×Addr)},(x,NameKind.cell)∈names→∃c,(cellsFrom n names acc).lookup x=some c
 |(y,k)::r,n,acc,h=>by
  unfold cellsFrom
  rcases zbd2.mp h with z | z
  ·cases z
   rw [if_pos (by rfl)]
   exact zao9 ⟨n,by simp [zbg1]⟩
  ·split
   ·exact zal2 z
   ·exact zal2 z
theorem cf_ge {x:Str}{c:Addr}{lo:Nat}:∀ {names:List (Str×NameKind)}{n:Nat}{acc:List (Str×Addr)},lo≤n→(∀c,acc.lookup x=some c→lo≤c)→(cellsFrom n names acc).lookup x=some c→lo≤c
 |[],n,acc,_,ha,h=>ha c h
 |(y,k)::r,n,acc,hn,ha,h=>by
  unfold cellsFrom at h
  split at h
  ·refine cf_ge (n:=n+1) (by lia) (fun c' h'=>?_) h
   rw [zbg1]at h'
   split at h'
   ·cases h';exact hn
   ·exact ha c' h'
  ·exact cf_ge hn ha h
theorem zbb0 {x:Str}{c:Addr}:∀ {names:List (Str×NameKind)}{n:Nat}{acc:List (Str×Addr)},(x,NameKind.cell)∈names→(cellsFrom n names acc).lookup x=some c→n≤c
 |(y,k)::r,n,acc,hm,h=>by
  unfold cellsFrom at h
  rcases zbd2.mp hm with z | z
  ·cases z
   rw [if_pos (by rfl)]at h
   refine cf_ge (lo:=n) (n:=n+1) (by lia) (fun c' h'=>?_) h
   rw [zbg1,beq_self_eq_true]at h'
   cases h'
   exact zbf1 _
  ·split at h
   ·have:=zbb0 z h;lia
   ·exact zbb0 z h
theorem zba9 {x:Str}:∀ {names:List (Str×NameKind)}{n:Nat}{acc:List (Str×Addr)},(x,NameKind.cell)∉names→(cellsFrom n names acc).lookup x=acc.lookup x
 |[],n,acc,_=>rfl
 |(y,k)::r,n,acc,h=>by
  have hr:(x,NameKind.cell)∉r:=fun z=>h (zbc6 _ z)
  unfold cellsFrom
  split
  ·rename_i hk
   rw [zba9 hr,zbg1]
   split
   ·rename_i e
    exact absurd (zbd2.mpr (.inl (by rw [show x=y by simpa using e,show k=NameKind.cell by simpa using hk]))) h
   ·rfl
  ·exact zba9 hr
theorem zbb1:∀ {names:List (Str×NameKind)}{n:Nat}{acc:List (Str×Addr)},(∀x c,acc.lookup x=some c→c<n)→(∀x y c,acc.lookup x=some c→acc.lookup y=some c→x=y) →
  ∀x y c,(cellsFrom n names acc).lookup x=some c→(cellsFrom n names acc).lookup y=some c→x=y
 |[],n,acc,_,hi=>hi
 |(z,k)::r,n,acc,hb,hi=>by
  unfold cellsFrom
  split
  ·refine zbb1 (n:=n+1) (fun x c h=>?_) (fun x y c h1 h2=>?_)
   ·rw [zbg1]at h
    split at h
    ·cases h;exact zbj2 _
    ·exact zbl1 (hb x c h)
   ·rw [zbg1]at h1 h2
    split at h1
    ·rename_i e1
     cases h1
     split at h2
     ·rename_i e2;rw [show x=z by simpa using e1,show y=z by simpa using e2]
     ·exact absurd (hb y _ h2) (zbh6 _)
    ·split at h2
     ·cases h2;exact absurd (hb x _ h1) (zbh6 _)
     ·exact hi x y c h1 h2
  ·exact zbb1 hb hi
theorem zal3 {x:Str}{c:Addr}:∀ {names:List (Str×NameKind)}{h:Heap}{acc:List (Str×Addr)},(∀c,acc.lookup x=some c→∃v,h.IsCell c v)→(cellsFrom h.objs.size names acc).lookup x=some c→∃v,(pushCells h names).IsCell c v
 |[],h,acc,ha,e=>ha c e
 |(y,k)::r,h,acc,ha,e=>by
  unfold cellsFrom at e
  unfold pushCells
  split at e
  ·rename_i hk
   rw [if_pos hk]
   rw [show h.objs.size+1=(h.push { cls:=.type "cell",data:=.cell none }).objs.size from (zbk6 ..).symm]at e
   refine zal3 (fun c' e'=>?_) e
   rw [zbg1]at e'
   split at e'
   ·cases e';exact⟨none,_,zbf7 _ rfl,rfl⟩
   ·obtain⟨v,z⟩:=ha c' e'
    exact⟨v,z.keeps fun b o q=>zbd5 _ q⟩
  ·rename_i hk
   rw [if_neg hk]
   exact zal3 ha e
theorem zk1 {M:Model}{A:Around}{E:Value→zbe1→Prop}{s:zbe1}{scope:Scope}{globals:Addr}{cl:List (Str×Addr)}{qual:Str}{func:Option Addr}{code:Value}{env:Env}{builtins:Addr}{Q:Env→zbe1→Prop}
  (hQ:∀h',h'.Ns s.heap.objs.size (fun _=>none)→(∀b o,s.heap.get? b=some o→h'.get? b=some o)→(∀x c,(∀c,cl.lookup x=some c→∃v,s.heap.IsCell c v)→(cellsFrom (s.heap.objs.size+1) scope.names cl).lookup x=some c→∃v,h'.IsCell c v) →
   Q (newEnv scope s.heap.objs.size globals (cellsFrom (s.heap.objs.size+1) scope.names cl) qual func code (some env) builtins) { s with heap:=h',toks:=s.toks }) :
  wpAny M A (newFunctionEnv scope globals cl [] qual func code (some env) builtins) Q E s:=by
 simp only [newFunctionEnv,Option.isSome_some,if_true]
 refine zbd4 (wpAny_alloc ?_)
 refine zbd4 (wpAny_layCells _ (fun name kind cells=>by cases hkc:kind == NameKind.cell<;>simp [hkc]) _ _ _ _ ?_)
 have sz:(s.heap.push { cls:=.type "dict",data:=.dict #[] }).objs.size=s.heap.objs.size+1:=zbk6 ..
 rw [show ({ s with heap:=s.heap.push { cls:=.type "dict",data:=.dict #[] } }:zbe1).heap.objs.size=s.heap.objs.size+1 from sz]
 rw [List.forIn_nil]
 refine zbd4 (zbf3 (zbf3 ?_))
 refine hQ _ ((Heap.Ns.new s.heap (.type "dict")).keeps (pushCells_keeps _ _)) (fun b o e=>pushCells_keeps _ _ b o (zbd5 _ e)) fun x c ha e=>?_
 rw [← sz]at e
 exact zal3 (fun c' e'=>let ⟨v,z⟩:=ha c' e';⟨v,z.keeps fun b o q=>zbd5 _ q⟩) e
noncomputable abbrev blk (X:Cx) (N':List Str) (scope:Scope) (C:Addr) (s₃:zbe1) (H₃:Hp) (fp:List Addr) (pins:List (Addr×Obj)):Cx :=
 { X with N:=N',s₀:=s₃,H₀:=H₃,env:=compEnvC scope (cellsFrom (C+1) scope.names (clOf X.env.cells scope.names [])) C X.env,outer:=X.stack,stack:=X.stack,ex:=fp,fn:=fun x=>scope.names.lookup x == some .cell,calm:=true,pn:=X.pn++pins,xe:=fun _ _=>False }
structure CompSc (X:Cx) (scope:Scope):Prop where
 kind:scope.kind=.function
 free:∀y∈scope.names,y.2=.free→X.env.kindOf y.1=some .cell∨X.env.kindOf y.1=some .free
 names:∀y∈scope.names,scope.names.lookup y.1=some y.2
section
variable {X:Cx}{pins:List (Addr×Obj)}{σ:L2.St}{H:Hp}{s:zbe1}{scope:Scope}{N':List Str}{fp:List Addr}
theorem CompSc.frees (S:CompSc X scope) (ok:X.Ok):∀y∈scope.names,y.2=.free→∃c,X.env.cells.lookup y.1=some c:=fun y hy hf=>ok.has y.1 (S.free y hy hf)
theorem CompSc.cells (S:CompSc X scope) (ok:X.Ok) {x:Str}{c:Addr} (h:(clOf X.env.cells scope.names []).lookup x=some c):X.env.cells.lookup x=some c:=by
 rcases zr4 (S.frees ok) h with z | z
 ·simp at z
 ·exact z
theorem CompSc.nc (S:CompSc X scope) {x:Str} (h:(x,NameKind.free)∈scope.names):(x,NameKind.cell)∉scope.names:=fun z=>by
 have w1:=S.names _ h
 have w2:=S.names _ z
 rw [show (x,NameKind.cell).1=(x,NameKind.free).1 from rfl,w1]at w2
 cases w2
theorem CompSc.cls (S:CompSc X scope) (I:Inv X pins σ H s) {x:Str}{c:Addr} (h:(clOf X.env.cells scope.names []).lookup x=some c):c<s.heap.objs.size:=by
 obtain⟨v,o,ho,_⟩:=I.cell x c (S.cells I.ok h)
 exact zbe4 ho
theorem CompSc.old (S:CompSc X scope) (I:Inv X pins σ H s) {x:Str}{c:Addr} (h:(cellsFrom (s.heap.objs.size+1) scope.names (clOf X.env.cells scope.names [])).lookup x=some c):X.env.cells.lookup x=some c∨s.heap.objs.size<c:=by
 rcases zac9 h with z | z
 ·exact .inl (S.cells I.ok z)
 ·exact .inr z
theorem blk_ok (I:Inv X pins σ H s) (S:CompSc X scope) (hc:X.calm=true) (hf:∀b∈fp,FpOk X pins H b) (hlt:∀b∈fp,b<s.heap.objs.size):(blk X N' scope s.heap.objs.size s H fp pins).Ok where
 mod:=I.ok.mod
 kind:=S.kind
 glob:=I.ok.glob
 blt:=I.ok.blt
 above:=zbf1 _
 inj:=zbb1 (fun x c h=>zbl1 (S.cls I h)) fun x y c h1 h2=>I.ok.inj x y c (S.cells I.ok h1) (S.cells I.ok h2)
 has:=fun x hx=>by
  have hx:(relabel scope X.env).names.lookup x=some .cell∨(relabel scope X.env).names.lookup x=some .free:=hx
  have:(x,NameKind.free)∈scope.names∨(x,NameKind.cell)∈scope.names:=by
   rcases hx with hx | hx
   ·obtain⟨k,a,b⟩:=zf6 hx
    rcases b with b | b
    ·rw [← b]at a;exact .inr a
    ·rw [b.1]at a;exact .inl a
   ·obtain⟨k,a,b⟩:=zf6 hx
    rcases b with b | b
    ·rw [← b]at a;exact .inl a
    ·cases b.2
  rcases this with z | z
  ·exact zao9 (zp7 z)
  ·exact zal2 z
 cab:=fun x c h e=>by
  have h:(scope.names.lookup x == some NameKind.cell)=true:=h
  have h:scope.names.lookup x=some .cell:=by simpa using h
  exact Nat.le_of_succ_le (zbb0 (PySem.mem_of_lookup h) e)
 hd:=fun _=>I.ok.hd hc
 frames:=I.ok.frames
 stk:=.inl rfl
 exf:=fun b hb=>⟨zbf5 (hlt b hb),fun x c h=>by
  rcases S.old I h with z | z
  ·exact (hf b hb).2.2.2.2.1 x c z
  ·exact zbn3 (zbq7 (hlt b hb) z)⟩
 bs:=fun b o e=>I.bs b o e
 bsz:=zbh8 I.ok.bsz I.sz
 noex:=fun b o e hb=>by
  rcases (hf b hb).2.2.2.1 with z | z
  ·exact I.ok.noex b o e z
  ·exact absurd (zbe2 (zbe4 e) (zbh8 I.ok.bsz z)) (zbh6 _)
 exfs:=fun b hb z=>(zbd2.mp (I.stkSub b z)).elim (hf b hb).2.1 (hf b hb).2.2.1
 funs:=I.stack
 frf:=I.stkFree
 tabs:=fun p hp=>I.base.tbls _ _ (I.ok.tabs p hp)
theorem zal5 (I:Inv X pins σ H s) (S:CompSc X scope) (hc:X.calm=true) (hf:∀b∈fp,FpOk X pins H b) (hlt:∀b∈fp,b<s.heap.objs.size) {h1:Heap}{t1:Nat}{m:Str→Option Value}{σ':L2.St}
  (hns:h1.Ns s.heap.objs.size m) (hk:∀b o,s.heap.get? b=some o→h1.get? b=some o) (hcl:∀x c,(∀c,(clOf X.env.cells scope.names []).lookup x=some c→∃v,s.heap.IsCell c v)→(cellsFrom (s.heap.objs.size+1) scope.names (clOf X.env.cells scope.names [])).lookup x=some c→∃v,h1.IsCell c v) (hl:σ'.length=N'.length)
  (cap:∀(i:Nat) (x:Str) (v:V),N'[i]?=some x→σ'[i]?=some (some v)→(x,NameKind.free)∈scope.names∧∃j:Nat,X.N[j]?=some x∧σ[j]?=some (some v)) :
  Inv (blk X N' scope s.heap.objs.size s H fp pins) [] σ' H { s with heap:=h1,toks:=t1 } where
 ok:=blk_ok I S hc hf hlt
 os:=rfl
 bare:=I.bare
 base:=Un.kept hk
 loc:=⟨m,hns,fun i x v e1 e2 vs=>by
  obtain⟨hfree,j,j1,j2⟩:=cap i x v e1 e2
  obtain⟨m0,hn0,hl0⟩:=I.loc
  have vis:Vis X.env.scope x:=by
   rcases S.free _ hfree rfl with z | z
   ·exact .inr (.inl z)
   ·exact .inr (.inr z)
  obtain⟨u,r,l⟩:=hl0 j x v j1 j2 vis
  refine⟨u,r,?_⟩
  rcases l with ⟨k,_⟩ | ⟨k,c,e,z⟩
  ·exfalso
   rcases S.free _ hfree rfl with q | q
   ·rw [k]at q;cases q
   ·rw [k]at q;cases q
  ·obtain⟨c',hc'⟩:=zp7 (cells:=X.env.cells) (acc:=[]) hfree
   have e':=S.cells I.ok hc'
   rw [e]at e';cases e'
   refine .inr ⟨?_,c,by rw [show (blk X N' scope s.heap.objs.size s H fp pins).env.cells.lookup x=_ from zba9 (S.nc hfree)];exact hc',?_⟩
   ·have vs:(relabel scope X.env).names.lookup x=some .local∨(relabel scope X.env).names.lookup x=some .cell∨(relabel scope X.env).names.lookup x=some .free:=vs
    rcases vs with q | q
    ·obtain⟨k2,a,b⟩:=zf6 q
     rcases b with b | b
     ·rw [← b]at a
      have w1:=S.names _ a
      have w2:=S.names _ hfree
      rw [show (x,NameKind.local).1=(x,NameKind.free).1 from rfl,w2]at w1
      cases w1
     ·cases b.2
    ·exact q
   ·obtain⟨o,ho,hd⟩:=z
    exact⟨o,hk _ _ ho,hd⟩⟩
 cell:=fun x c h=>hcl x c (fun c' h'=>I.cell x c' (S.cells I.ok h')) h
 free:=I.hok.fresh (zbf1 _)
 freeC:=fun x c h=>by
  rcases S.old I h with z | z
  ·exact I.freeC x c z
  ·exact I.hok.fresh (zbn1 z)
 pin:=fun p hp=>by
  have hp:p∈(X.pn++pins)++[]:=hp
  rw [zbg7]at hp
  obtain⟨a,b,c,d,e⟩:=I.pin p hp
  exact⟨hk _ _ a,b,zbf5 (zbe4 a),fun z=>(zbd2.mp (I.stkSub _ z)).elim c d,e⟩
 hok:=I.hok.kept hk
 len:=hl
theorem zad3 {H3 H':Hp}{s':zbe1}{h'':Heap}{σ':L2.St}{C:Addr}{pins':List (Addr×Obj)} (I:Inv X pins σ H3 s) (hf:∀b∈fp,FpOk X pins H3 b) (hC:C=s.heap.objs.size) (I':Inv (blk X N' scope C s H3 fp pins) pins' σ' H' s') (hb:Heap.SameBut C s'.heap h''):Inv X pins σ H' { s' with heap:=h'' }:=by
 subst hC
 have bs:Un (frs X.stack) fp H3 H' s.heap s'.heap:=I'.base
 have nC:∀b o,s.heap.get? b=some o→b≠s.heap.objs.size:=fun b o e=>zbf5 (zbe4 e)
 have tr:∀b,b≠s.heap.objs.size→h''.get? b=s'.heap.get? b:=fun b n=>hb.2 b n
 have u:Un (frs X.stack) fp H3 H' s.heap h'' :=
  ⟨fun b o e n h1 h2=>(tr b (nC b o e)).trans (bs.keep b o e n h1 h2),fun b o e n h1 h2=>by obtain⟨sl,q⟩:=bs.slot b o e n h1 h2;exact⟨sl,(tr b (nC b o e)).trans q⟩,bs.free,
   fun b o e h1=>by obtain⟨o',q⟩:=bs.there b o e h1;exact⟨o',(tr b (nC b o e)).trans q⟩,bs.tups,bs.frzs,bs.tbls⟩
 have cf:H' s.heap.objs.size=none:=I'.free
 have hok:HOk X.prog X.w H' h'':=fun b o e=>by
  have nb:b≠s.heap.objs.size:=fun z=>by rw [z,cf]at e;cases e
  refine (I'.hok b o e).stay (fun c v hc q=>(tr c ?_).trans q) (fun _ q=>q) (fun _ _ q=>q) fun _ _ _ q=>q
  rcases hc with w | w
  ·rw [w];exact nb
  ·exact fun z=>by rw [z,cf]at w;cases w
 obtain⟨h0,g0,d0,t0,o0⟩:=s'
 have e:o0=s.os:=I'.os
 subst e
 exact I.call (g':=g0) (t':=t0) (d':=d0) u hok I'.bare fun b hb'=>by
  obtain⟨f0,f1,f2,f3,f4,f5⟩:=hf b hb'
  exact⟨f3,f1,f4,f5⟩
end
end L2
namespace L2
open PySem.Spec
noncomputable def PTs (Y:Cx) (ifs:List Expr) (t:TT):Prop :=
 ∀(pins:List (Addr×Obj)) (s:zbe1) (σ:L2.St) (H:Hp) (Q:Bool→Hp→Prop),Inv Y pins σ H s→t σ H Q →
  wpAny (model Y.prog Y.w) Y.A (forIn ifs true fun c r=>if r=true then do let ok ← isTrue c Y.env (eval c Y.env);pure (ForInStep.yield ok) else pure (ForInStep.yield r)) (TP Y pins σ Q) Y.xe s
theorem pts_nil {Y:Cx}:PTs Y [] (fun _ H Q=>Q true H):=fun pins s σ H Q I h=>wpAny_tests_nil ⟨H,I,h⟩
theorem pts_one {Y:Cx}{c:Expr}{t:TT} (h:PT Y c t):PTs Y [c] t:=fun pins s σ H Q I q=>wpAny_tests_one (h pins s σ H Q I q)
def capV (n:Nat) (cap:List Nat) (σ:L2.St):L2.St:=zbe8 n none++cap.map fun j=>(σ[j]?).getD none
noncomputable def zaj1 (n:Nat) (cap:List Nat) (wi:TI) (g:TG) (tt:TT) (te:TE):TE:=fun σ H Q=>wi σ H fun J H1 => ∀D,H1 D=none→∃W:Nat→Nat→L2.St→Hp→Prop,(∃m,W 0 m (capV n cap σ) (upd H1 D (.lst [])))∧∀i m σ' H',W i m σ' H' →
 (J.stop i H'∧Q (.ref D) H')∨(J.go i H'∧∃N:L2.St→Hp→Prop,(∀σ'' H'',N σ'' H''→∃m',m' < m∧W (i+1) m' σ'' H'')∧∀x H2,J.yld i H' x H2→g x σ' H2 fun σ2 H3=>tt σ2 H3 fun b H4 =>
  if b=true then te σ2 H4 fun v H5 => ∃vs,H5 D=some (.lst vs)∧vs.length<sizeLine∧N σ2 (upd H5 D (.lst (vs++[v]))) else N σ2 H4)
theorem zav5 {X:Cx}{elt tg iter:Expr}{ifs:List Expr}{scope:Scope}{pos:Pos}{n:Nat}{cap:List Nat}{N':List Str}{wi:TI}{g:TG}{tt:TT}{te:TE} (S:CompSc X scope) (hc:X.calm=true) (hi:PI X tg iter wi)
  (hN:N'.length=n+cap.length) (hcap:∀(k:Nat) (j:Nat),cap[k]?=some j→∃x,N'[n+k]?=some x∧X.N[j]?=some x∧(x,NameKind.free)∈scope.names)
  (hg:∀C s₃ H₃ fp pins,PG (blk X N' scope C s₃ H₃ fp pins) tg g) (ht:∀C s₃ H₃ fp pins,PTs (blk X N' scope C s₃ H₃ fp pins) ifs tt) (he:∀C s₃ H₃ fp pins,PE (blk X N' scope C s₃ H₃ fp pins) elt te)
  (hs:∀x,foldedSetIterable iter X.env x=pure x:=by intro _;rfl):PE X (.ListComp elt [⟨tg,iter,ifs,0⟩] scope pos) (zaj1 n cap wi g tt te):=by
 intro pins s σ H Q I h
 rw [eval_ListComp]
 refine wpAny_comprehension_free (use:=none) rfl hs (zl7 (S.frees I.ok)) S.kind (fun x hx hl=>by rw [S.names x hx,hl]) (thn (hi pins s σ H _ I h) fun v s1 h1=>thn h1 fun itv s2 h2=>?_)
 obtain⟨it,fp,tn,J,H2,e,I2,T,st2,f2,R⟩:=h2
 subst e
 have lt2:∀b∈fp,b<s2.heap.objs.size:=fun b hb=>by obtain⟨o,e,_⟩:=T.obj _ _ st2 b hb;exact zbe4 e
 have hD:H2 s2.heap.objs.size=none:=I2.fresh
 obtain⟨W,⟨m0,w0⟩,turn⟩:=R s2.heap.objs.size hD
 have I3:Inv X pins σ (upd H2 s2.heap.objs.size (.lst [])) { s2 with heap:=s2.heap.push { cls:=.type "list",data:=.seq ([]:List Value).toArray },toks:=s2.toks }:=I2.lnew (t':=s2.toks) .nil (by simp)
 have f3:∀b∈fp,FpOk X pins (upd H2 s2.heap.objs.size (.lst [])) b:=fun b hb=>⟨by rw [zb1 (zbf5 (lt2 b hb))];exact (f2 b hb).1,(f2 b hb).2⟩
 refine wpAny_newObj_type (zk1 fun h₁ hns₁ hk hcl₁=>?_)
 have lt3:∀b∈fp,b<(s2.heap.push { cls:=.type "list",data:=.seq ([]:List Value).toArray }).objs.size:=fun b hb=>by rw [zbk6];exact zbl1 (lt2 b hb)
 have I4:Inv (blk X N' scope (s2.heap.push { cls:=.type "list",data:=.seq ([]:List Value).toArray }).objs.size { s2 with heap:=s2.heap.push { cls:=.type "list",data:=.seq ([]:List Value).toArray },toks:=s2.toks } (upd H2 s2.heap.objs.size (.lst [])) fp pins) [] (capV n cap σ) (upd H2 s2.heap.objs.size (.lst [])) { s2 with heap:=h₁,toks:=s2.toks } :=
  zal5 I3 S hc f3 lt3 (t1:=s2.toks) hns₁ hk hcl₁ (by simp [capV,hN]) (fun i x v e1 e2=>by
   unfold capV at e2
   by_cases hi:i<n
   ·rw [zbj1 (by simpa using hi),zbk1]at e2
    split at e2<;>cases e2
   ·rw [zbi7 (by simpa using hi),zbk8,zbg0]at e2
    cases ej:cap[i - n]? with
    |none=>rw [ej]at e2;cases e2
    |some j =>
     rw [ej]at e2
     obtain⟨x',a1,a2,a3⟩:=hcap (i - n) j ej
     have:n+(i - n)=i:=by lia
     rw [this,e1]at a1
     cases a1
     refine⟨a3,j,a2,?_⟩
     have e2:(σ[j]?).getD none=some v:=by simpa using e2
     cases q:σ[j]? with
     |none=>rw [q]at e2;cases e2
     |some z=>rw [q]at e2;have:z=some v:=e2;rw [this])
 have loop:codeAny (model X.prog X.w) X.A (.compLoop (.ListComp elt [⟨tg,iter,ifs,0⟩] scope pos) 0 (.ref it) (.ref s2.heap.objs.size) (compEnvC scope (cellsFrom ((s2.heap.push { cls:=.type "list",data:=.seq ([]:List Value).toArray }).objs.size+1) scope.names (clOf X.env.cells scope.names [])) (s2.heap.push { cls:=.type "list",data:=.seq ([]:List Value).toArray }).objs.size X.env))
   (compPost (model X.prog X.w) X.A X.xe none (EP X pins σ Q) (.ref s2.heap.objs.size) (s2.heap.push { cls:=.type "list",data:=.seq ([]:List Value).toArray }).objs.size) { s2 with heap:=h₁,toks:=s2.toks }:=by
  generalize hY:(blk X N' scope (s2.heap.push { cls:=.type "list",data:=.seq ([]:List Value).toArray }).objs.size { s2 with heap:=s2.heap.push { cls:=.type "list",data:=.seq ([]:List Value).toArray },toks:=s2.toks } (upd H2 s2.heap.objs.size (.lst [])) fp pins)=Y at I4
  have st4:tn 0 h₁:=T.keep _ _ _ st2 fun b hb o e=>hk b o (zbd5 _ e)
  have stat:∀ {H':Hp},(∀b∈fp,H' b=none)→∀b∈fp,FpOk Y [] H' b:=fun hn b hb=>by
   subst hY
   obtain⟨f0,f1,f2',f3',f4,f5⟩:=f3 b hb
   exact⟨hn b hb,zbf5 (lt3 b hb),fun z=>(zbd2.mp (I3.stkSub b z)).elim f1 f2',.inl hb,fun x c e=>(by
    rcases S.old I3 e with z | z
    ·exact f4 x c z
    ·exact zbn3 (zbq7 (lt3 b hb) z)),fun p hp=>f5 p (by simpa using hp)⟩
  have hgY:PG Y tg g:=hY ▸ hg _ _ _ _ _
  have htY:PTs Y ifs tt:=hY ▸ ht _ _ _ _ _
  have heY:PE Y elt te:=hY ▸ he _ _ _ _ _
  have yp:Y.prog=X.prog:=by subst hY;rfl
  have yw:Y.w=X.w:=by subst hY;rfl
  have yK:Y.K=X.K:=by subst hY;rfl
  have yA:Y.A=X.A:=by subst hY;rfl
  have yc:Y.calm=true:=by subst hY;rfl
  have yx:Y.xe=fun _ _=>False:=by subst hY;rfl
  have ye:Y.env=compEnvC scope (cellsFrom ((s2.heap.push { cls:=.type "list",data:=.seq ([]:List Value).toArray }).objs.size+1) scope.names (clOf X.env.cells scope.names [])) (s2.heap.push { cls:=.type "list",data:=.seq ([]:List Value).toArray }).objs.size X.env:=by subst hY;rfl
  rw [← ye]
  refine zu1 (fun n s' => ∃i σ' H',Inv Y [] σ' H' s'∧tn i s'.heap∧(∀b∈fp,H' b=none)∧W i n σ' H') ?_ m0 ⟨0,_,_,I4,st4,fun b hb=>(f3 b hb).1,w0⟩
  rintro n s3 ⟨i,σ3,H3,I5,st3,fr3,w3⟩
  rcases turn i n σ3 H3 w3 with ⟨stop,qn⟩ | ⟨go,N,hNN,step⟩
  ·have d:=T.done Y yp yw yK yc i [] s3 σ3 H3 (fun _ _=>False) I5 (stat fr3) st3 stop
   rw [yA]at d
   refine thn d fun r s4 ⟨hr,I6⟩=>?_
   subst hr
   obtain⟨m,hm,_⟩:=I6.loc
   rw [ye]at hm
   refine⟨m,hm,fun h' hb=>⟨.ref s2.heap.objs.size,H3,?_,rfl,qn⟩⟩
   subst hY
   exact zad3 I3 f3 rfl I6 hb
  ·have d:=T.item Y yp yw yK yc i [] s3 σ3 H3 (fun _ _=>False) I5 (stat fr3) st3 go
   rw [yA]at d
   refine thn d fun r s4 ⟨u,hr,h4⟩=>?_
   subst hr
   refine thn h4 fun _ s5 ⟨x,H5,I6,r5,y5,st5,fr5⟩=>?_
   have I6':=I6.pinned (stat fr5) (T.obj _ _ st5)
   have a:=hgY _ s5 σ3 H5 x u _ I6' r5 (step x H5 y5)
   rw [yp,yw,yA,yx]at a
   refine thn a fun _ s6 ⟨σ6,H6,I7,q6⟩=>?_
   have b:=htY _ s6 σ6 H6 _ I7 q6
   rw [yp,yw,yA,yx]at b
   refine thn b fun ok s7 ⟨H7,I8,q7⟩=>?_
   have again:∀ {s9:zbe1}{H9:Hp},Inv Y ([]++zo4 fp s5.heap) σ6 H9 s9→N σ6 H9→∃m,m<n∧∃i σ' H',Inv Y [] σ' H' s9∧tn i s9.heap∧(∀b∈fp,H' b=none)∧W i m σ' H':=fun {s9 H9} I9 n9=>by
    obtain⟨m',hm,w9⟩:=hNN σ6 H9 n9
    refine⟨m',hm,i+1,σ6,H9,I9.unpinned,T.keep _ _ _ st5 fun b hb o e=>(I9.pin (b,o) (zbc4 _ (zbc4 _ (zd0 hb e)))).1,fun b hb=>?_,w9⟩
    obtain⟨o,e,d⟩:=T.obj _ _ st5 b hb
    exact (I9.pin (b,o) (zbc4 _ (zbc4 _ (zd0 hb e)))).2.1
   cases ok with
   |false=>exact iteF (again I8 (by simpa using q7))
   |true =>
    rw [if_pos rfl]at q7
    refine iteT ?_
    have c:=heY _ s7 σ6 H7 _ I8 q7
    rw [yp,yw,yA,yx]at c
    refine thn c fun z s8 ⟨vz,H8,I9,r9,vs,hv,hl,n9⟩=>?_
    have ap:=zl1 (X:=Y) ([]++zo4 fp s5.heap) s8 σ6 H8 (.ref s2.heap.objs.size) [vz] (.ref s2.heap.objs.size) [z] (fun _ H9=>N σ6 H9) I9 rfl (.cons r9 .nil) ⟨_,vs,vz,rfl,rfl,hv,hl,n9⟩
    rw [yp,yw,yA,yx]at ap
    exact thn ap fun _ s9 ⟨_,H9,I10,_,n10⟩=>again I10 n10
 exact codeAny_compStart_list loop (T.self _ 0 _ _ _ (T.keep _ _ _ st2 fun b hb o e=>hk b o (zbd5 _ e)) loop)
theorem ps_compU {X:Cx}{i₀:Nat}{y₀:Str}{py spos:Pos}{elt tg iter:Expr}{ifs:List Expr}{scope:Scope}{pos:Pos}{n:Nat}{cap:List Nat}{N':List Str}{wi:TI}{g:TG}{tt:TT}{te:TE} (S:CompSc X scope) (hc:X.calm=true) (hi:PI X tg iter wi)
  (hN:N'.length=n+cap.length) (hcap:∀(k:Nat) (j:Nat),cap[k]?=some j→∃x,N'[n+k]?=some x∧X.N[j]?=some x∧(x,NameKind.free)∈scope.names)
  (hg:∀C s₃ H₃ fp pins,PG (blk X N' scope C s₃ H₃ fp pins) tg g) (ht:∀C s₃ H₃ fp pins,PTs (blk X N' scope C s₃ H₃ fp pins) ifs tt) (he:∀C s₃ H₃ fp pins,PE (blk X N' scope C s₃ H₃ fp pins) elt te)
  (hNd:X.N.Nodup) (hi₀:X.N[i₀]?=some y₀) (hy:Loc X.env.scope y₀) (hsw:swapsWith (.ListComp elt [⟨tg,iter,ifs,0⟩] scope pos) (some (.Name y₀ py)) spos.line X.env=pure true) (hf:X.fn y₀=true∨X.env.scope.names.lookup y₀=some .local)
  (hs:∀x,foldedSetIterable iter X.env x=pure x:=by intro _;rfl):PS X (.Assign [.Name y₀ py] (.ListComp elt [⟨tg,iter,ifs,0⟩] scope pos) spos) (fun D σ H=>zaj1 n cap wi g tt te σ H fun v H1=>D.nx (σ.set i₀ (some v)) H1):=by
 intro pins s σ H Ed I h
 rw [exec_Assign_Name_used y₀ py _ spos hsw]
 refine zbd4 (wpAny_standAt (zbd4 ?_))
 show wpAny (model X.prog X.w) X.A (comprehension (.ListComp elt [⟨tg,iter,ifs,0⟩] scope pos) scope X.env _ (newList []) false (eval iter X.env) (some (assign (.Name y₀ py) X.env)) >>= fun _=>pure ()) _ _ s
 refine zbd4 (thn (Q:=fun _ s'=>SP X pins Ed .next s') ?_ fun _ s' hq=>zbf3 (zbf3 hq))
 refine wpAny_comprehension_free (use:=some (assign (.Name y₀ py) X.env)) rfl hs (zl7 (S.frees I.ok)) S.kind (fun x hx hl=>by rw [S.names x hx,hl]) (thn (hi pins s σ H _ I h) fun v s1 h1=>thn h1 fun itv s2 h2=>?_)
 obtain⟨it,fp,tn,J,H2,e,I2,T,st2,f2,R⟩:=h2
 subst e
 have lt2:∀b∈fp,b<s2.heap.objs.size:=fun b hb=>by obtain⟨o,e,_⟩:=T.obj _ _ st2 b hb;exact zbe4 e
 have hD:H2 s2.heap.objs.size=none:=I2.fresh
 obtain⟨W,⟨m0,w0⟩,turn⟩:=R s2.heap.objs.size hD
 have I3:Inv X pins σ (upd H2 s2.heap.objs.size (.lst [])) { s2 with heap:=s2.heap.push { cls:=.type "list",data:=.seq ([]:List Value).toArray },toks:=s2.toks }:=I2.lnew (t':=s2.toks) .nil (by simp)
 have f3:∀b∈fp,FpOk X pins (upd H2 s2.heap.objs.size (.lst [])) b:=fun b hb=>⟨by rw [zb1 (zbf5 (lt2 b hb))];exact (f2 b hb).1,(f2 b hb).2⟩
 refine wpAny_newObj_type (zk1 fun h₁ hns₁ hk hcl₁=>?_)
 have lt3:∀b∈fp,b<(s2.heap.push { cls:=.type "list",data:=.seq ([]:List Value).toArray }).objs.size:=fun b hb=>by rw [zbk6];exact zbl1 (lt2 b hb)
 have I4:Inv (blk X N' scope (s2.heap.push { cls:=.type "list",data:=.seq ([]:List Value).toArray }).objs.size { s2 with heap:=s2.heap.push { cls:=.type "list",data:=.seq ([]:List Value).toArray },toks:=s2.toks } (upd H2 s2.heap.objs.size (.lst [])) fp pins) [] (capV n cap σ) (upd H2 s2.heap.objs.size (.lst [])) { s2 with heap:=h₁,toks:=s2.toks } :=
  zal5 I3 S hc f3 lt3 (t1:=s2.toks) hns₁ hk hcl₁ (by simp [capV,hN]) (fun i x v e1 e2=>by
   unfold capV at e2
   by_cases hi:i<n
   ·rw [zbj1 (by simpa using hi),zbk1]at e2
    split at e2<;>cases e2
   ·rw [zbi7 (by simpa using hi),zbk8,zbg0]at e2
    cases ej:cap[i - n]? with
    |none=>rw [ej]at e2;cases e2
    |some j =>
     rw [ej]at e2
     obtain⟨x',a1,a2,a3⟩:=hcap (i - n) j ej
     have:n+(i - n)=i:=by lia
     rw [this,e1]at a1
     cases a1
     refine⟨a3,j,a2,?_⟩
     have e2:(σ[j]?).getD none=some v:=by simpa using e2
     cases q:σ[j]? with
     |none=>rw [q]at e2;cases e2
     |some z=>rw [q]at e2;have:z=some v:=e2;rw [this])
 have loop:codeAny (model X.prog X.w) X.A (.compLoop (.ListComp elt [⟨tg,iter,ifs,0⟩] scope pos) 0 (.ref it) (.ref s2.heap.objs.size) (compEnvC scope (cellsFrom ((s2.heap.push { cls:=.type "list",data:=.seq ([]:List Value).toArray }).objs.size+1) scope.names (clOf X.env.cells scope.names [])) (s2.heap.push { cls:=.type "list",data:=.seq ([]:List Value).toArray }).objs.size X.env))
   (compPost (model X.prog X.w) X.A X.xe (some (assign (.Name y₀ py) X.env)) (fun _ s'=>SP X pins Ed .next s') (.ref s2.heap.objs.size) (s2.heap.push { cls:=.type "list",data:=.seq ([]:List Value).toArray }).objs.size) { s2 with heap:=h₁,toks:=s2.toks }:=by
  generalize hY:(blk X N' scope (s2.heap.push { cls:=.type "list",data:=.seq ([]:List Value).toArray }).objs.size { s2 with heap:=s2.heap.push { cls:=.type "list",data:=.seq ([]:List Value).toArray },toks:=s2.toks } (upd H2 s2.heap.objs.size (.lst [])) fp pins)=Y at I4
  have st4:tn 0 h₁:=T.keep _ _ _ st2 fun b hb o e=>hk b o (zbd5 _ e)
  have stat:∀ {H':Hp},(∀b∈fp,H' b=none)→∀b∈fp,FpOk Y [] H' b:=fun hn b hb=>by
   subst hY
   obtain⟨f0,f1,f2',f3',f4,f5⟩:=f3 b hb
   exact⟨hn b hb,zbf5 (lt3 b hb),fun z=>(zbd2.mp (I3.stkSub b z)).elim f1 f2',.inl hb,fun x c e=>(by
    rcases S.old I3 e with z | z
    ·exact f4 x c z
    ·exact zbn3 (zbq7 (lt3 b hb) z)),fun p hp=>f5 p (by simpa using hp)⟩
  have hgY:PG Y tg g:=hY ▸ hg _ _ _ _ _
  have htY:PTs Y ifs tt:=hY ▸ ht _ _ _ _ _
  have heY:PE Y elt te:=hY ▸ he _ _ _ _ _
  have yp:Y.prog=X.prog:=by subst hY;rfl
  have yw:Y.w=X.w:=by subst hY;rfl
  have yK:Y.K=X.K:=by subst hY;rfl
  have yA:Y.A=X.A:=by subst hY;rfl
  have yc:Y.calm=true:=by subst hY;rfl
  have yx:Y.xe=fun _ _=>False:=by subst hY;rfl
  have ye:Y.env=compEnvC scope (cellsFrom ((s2.heap.push { cls:=.type "list",data:=.seq ([]:List Value).toArray }).objs.size+1) scope.names (clOf X.env.cells scope.names [])) (s2.heap.push { cls:=.type "list",data:=.seq ([]:List Value).toArray }).objs.size X.env:=by subst hY;rfl
  rw [← ye]
  refine zu1 (fun n s' => ∃i σ' H',Inv Y [] σ' H' s'∧tn i s'.heap∧(∀b∈fp,H' b=none)∧W i n σ' H') ?_ m0 ⟨0,_,_,I4,st4,fun b hb=>(f3 b hb).1,w0⟩
  rintro n s3 ⟨i,σ3,H3,I5,st3,fr3,w3⟩
  rcases turn i n σ3 H3 w3 with ⟨stop,qn⟩ | ⟨go,N,hNN,step⟩
  ·have d:=T.done Y yp yw yK yc i [] s3 σ3 H3 (fun _ _=>False) I5 (stat fr3) st3 stop
   rw [yA]at d
   refine thn d fun r s4 ⟨hr,I6⟩=>?_
   subst hr
   obtain⟨m,hm,_⟩:=I6.loc
   rw [ye]at hm
   subst hY
   have IX:=zad3 I3 f3 rfl I6 (h'':=s4.heap) ⟨rfl,fun _ _=>rfl⟩
   have cf:H3 (s2.heap.push { cls:=.type "list",data:=.seq ([]:List Value).toArray }).objs.size=none:=I6.free
   have fC:FpOk X pins H3 (s2.heap.push { cls:=.type "list",data:=.seq ([]:List Value).toArray }).objs.size:=I3.fpOk (zbf1 _) cf
   obtain⟨c0,c1,c2,c3,c4,c5⟩:=fC
   refine wpAny_assign_Name (zae0 (s:=s4) IX hNd hi₀ hy (v:=.ref s2.heap.objs.size) rfl (fun s5 I7 ⟨a,sb,ha⟩=>?_) hf)
   have na:a≠(s2.heap.push { cls:=.type "list",data:=.seq ([]:List Value).toArray }).objs.size:=by
    rcases ha with z | z
    ·rw [z];exact fun w=>c1 w.symm
    ·exact c4 _ _ z
   refine⟨m,hm.sameBut sb (Ne.symm na),fun h' hb=>⟨_,H3,?_,qn⟩⟩
   exact I7.turned (t':=s5.toks) (fun b o n e=>(hb.2 b n).trans e) c0 c1 c3 c4 c5
  ·have d:=T.item Y yp yw yK yc i [] s3 σ3 H3 (fun _ _=>False) I5 (stat fr3) st3 go
   rw [yA]at d
   refine thn d fun r s4 ⟨u,hr,h4⟩=>?_
   subst hr
   refine thn h4 fun _ s5 ⟨x,H5,I6,r5,y5,st5,fr5⟩=>?_
   have I6':=I6.pinned (stat fr5) (T.obj _ _ st5)
   have a:=hgY _ s5 σ3 H5 x u _ I6' r5 (step x H5 y5)
   rw [yp,yw,yA,yx]at a
   refine thn a fun _ s6 ⟨σ6,H6,I7,q6⟩=>?_
   have b:=htY _ s6 σ6 H6 _ I7 q6
   rw [yp,yw,yA,yx]at b
   refine thn b fun ok s7 ⟨H7,I8,q7⟩=>?_
   have again:∀ {s9:zbe1}{H9:Hp},Inv Y ([]++zo4 fp s5.heap) σ6 H9 s9→N σ6 H9→∃m,m<n∧∃i σ' H',Inv Y [] σ' H' s9∧tn i s9.heap∧(∀b∈fp,H' b=none)∧W i m σ' H':=fun {s9 H9} I9 n9=>by
    obtain⟨m',hm,w9⟩:=hNN σ6 H9 n9
    refine⟨m',hm,i+1,σ6,H9,I9.unpinned,T.keep _ _ _ st5 fun b hb o e=>(I9.pin (b,o) (zbc4 _ (zbc4 _ (zd0 hb e)))).1,fun b hb=>?_,w9⟩
    obtain⟨o,e,d⟩:=T.obj _ _ st5 b hb
    exact (I9.pin (b,o) (zbc4 _ (zbc4 _ (zd0 hb e)))).2.1
   cases ok with
   |false=>exact iteF (again I8 (by simpa using q7))
   |true =>
    rw [if_pos rfl]at q7
    refine iteT ?_
    have c:=heY _ s7 σ6 H7 _ I8 q7
    rw [yp,yw,yA,yx]at c
    refine thn c fun z s8 ⟨vz,H8,I9,r9,vs,hv,hl,n9⟩=>?_
    have ap:=zl1 (X:=Y) ([]++zo4 fp s5.heap) s8 σ6 H8 (.ref s2.heap.objs.size) [vz] (.ref s2.heap.objs.size) [z] (fun _ H9=>N σ6 H9) I9 rfl (.cons r9 .nil) ⟨_,vs,vz,rfl,rfl,hv,hl,n9⟩
    rw [yp,yw,yA,yx]at ap
    exact thn ap fun _ s9 ⟨_,H9,I10,_,n10⟩=>again I10 n10
 exact codeAny_compStart_list loop (T.self _ 0 _ _ _ (T.keep _ _ _ st2 fun b hb o e=>hk b o (zbd5 _ e)) loop)
end L2
namespace DL
open PySem.Spec L2
structure Src (K:zbc5) (ds:List D) (J:It) (Good:List Addr→Hp→Prop):Prop where
 keep:∀P H P' H',Good P H→Same (hide P H) (hide P' H')→Good P' H'
 stop:∀P H,Good P H→J.stop ds.length H
 go:∀P H i,Good P H→i<ds.length→J.go i H
 yld:∀P H i x H',Good P H→Lists H P→J.yld i H x H'→i<ds.length→Same H H'∧∃d,ds[i]?=some d∧Rep K (hide P H') d x
abbrev DI:=Th→Option (Bool×List D)
def hidF (b:Bool) (A F:List Addr):List Addr:=if b then A++F else F
noncomputable def dI (K:zbc5) (F:List Addr) (fs:DI):TI:=fun σ H R => ∃A t b ds,RS K F H A t σ∧fs t=some (b,ds)∧∀J H1 Good,Same H H1→Src K ds J Good→Good (hidF b A F) H1→R J H1
theorem PI.imp {X:Cx}{tg iter:Expr}{t t':TI} (h:PI X tg iter t) (i:∀σ H R,t' σ H R→t σ H R):PI X tg iter t':=fun pins s σ H R I q=>h pins s σ H R I (i σ H R q)
def fsL (f:DE):DI:=fun t=>(f t).bind fun r=>match r.d with
 |.lst ds=>some (r.ok,ds)
 |_=>none
def fsE (f:DE):DI:=fun t=>(f t).bind fun r=>match r.d with
 |.lst ds=>some (r.ok,zo8 0 ds)
 |_=>none
noncomputable def fsR1 (f:DE):DI:=fun t=>(f t).bind fun r=>match r.d with
 |.int n=>if bigI n then some (true,rngD 0 n.toNat) else none
 |_=>none
theorem src_list {K:zbc5}{p:Addr}{vs:List V}{ds:List D} (hl:vs.length=ds.length):Src K ds (Itl K p) (fun P H=>SqL K (hide P H) p vs∧Reps K (hide P H) ds vs) where
 keep:=fun P H P' H' q s=>⟨SqL.mono s q.1,Reps.mono s q.2⟩
 stop:=fun P H q=>⟨vs,SqL.mono (zb0 _ _) q.1,by lia⟩
 go:=fun P H i q hi=>⟨vs,vs[i]'(by lia),SqL.mono (zb0 _ _) q.1,zbd1 (by lia)⟩
 yld:=fun P H i x H' q mu y hi=>by
  obtain⟨e1,e2⟩:=y
  subst e1
  exact⟨Same.refl _,q.2.getV (e2 vs (SqL.mono (zb0 _ _) q.1))⟩
theorem src_enum {K:zbc5}{p:Addr}{vs:List V}{ds:List D} (hl:vs.length=ds.length):Src K (zo8 0 ds) (Ite K p) (fun P H=>SqL K (hide P H) p vs∧Reps K (hide P H) ds vs) where
 keep:=fun P H P' H' q s=>⟨SqL.mono s q.1,Reps.mono s q.2⟩
 stop:=fun P H q=>⟨vs,SqL.mono (zb0 _ _) q.1,by rw [zx8];lia⟩
 go:=fun P H i q hi=>by
  rw [zx8]at hi
  exact⟨vs,vs[i]'(by lia),SqL.mono (zb0 _ _) q.1,zbd1 (by lia)⟩
 yld:=fun P H i x H' q mu y hi=>by
  obtain⟨l,v,hl0,rfl,rfl,hv⟩:=y
  obtain⟨d,hd,rd⟩:=q.2.getV (hv vs (SqL.mono (zb0 _ _) q.1))
  have sm:=zd2 (o:=HO.tup [.int i,v]) hl0
  refine⟨sm,_,zah5 0 ds i d hd,?_⟩
  rw [Nat.zero_add]
  exact .tup (SqT.of (zb9 za8 (zc4 mu hl0))) (.cons (.int _) (.cons (Rep.mono (za6 sm) rd) .nil))
theorem src_rng {K:zbc5}{lo:Int}{n:Nat}:Src K (rngD lo n) (Itr lo n) (fun _ _=>True) where
 keep:=fun _ _ _ _ _ _=>trivial
 stop:=fun P H _=>by rw [zs9];exact zbf1 n
 go:=fun P H i _ hi=>by rw [zs9]at hi;exact hi
 yld:=fun P H i x H' _ _ y hi=>by
  rw [zs9]at hi
  obtain⟨e1,e2⟩:=y
  subst e1
  refine⟨Same.refl _,.int (lo+i),by simp [rngD,hi],?_⟩
  rw [e2];exact .int _
theorem RepEv.hidF {K:zbc5}{F A:List Addr}{H H':Hp}{r:Ev}{v:V} (m:Lists H (A++F)) (gs:Same H H') (q:RepEv K F A H H' r v):Rep K (hide (DL.hidF r.ok A F) H') r.d v:=by
 unfold DL.hidF
 split
 ·rename_i c;exact q.clean m gs c
 ·exact q.cleanF m
section
variable {X:Cx}{F:List Addr}{a b c:Expr}{es:List Expr}{fa fb fc:DE}{pos:Pos}{tg:Expr}
theorem ze8 (hl:PE X a (dE X.K F fa)):PI X tg a (dI X.K F (fsL fa)):=by
 refine PI.imp (zau8 hl) ?_
 rintro σ H R ⟨A,t,b,ds,RR,e,h⟩
 unfold fsL at e
 cases e1:fa t with
 |none=>rw [e1]at e;cases e
 |some r =>
  rw [e1]at e
  refine⟨A,t,r,RR,e1,fun v H1 gs q=>?_⟩
  have e:(match r.d with | .lst ds=>some (r.ok,ds) |_=>none)=some (b,ds):=e
  split at e
  case h_2=>cases e
  rename_i ds' z
  cases e
  have cl:=RepEv.hidF RR.mu gs q
  rw [z]at cl
  cases cl with
  |@lst _ p vs h1 h2=>exact⟨p,rfl,⟨vs,SqL.mono (zb0 _ _) h1⟩,h _ H1 _ gs (src_list h2.length) ⟨h1,h2⟩⟩
theorem pid_enum {elts:List Expr}{kk:Nat}{tp p1 p2:Pos} (hge:Gl X "enumerate") (hm:X.mg "enumerate"=none) (hl:PE X a (dE X.K F fa)) (hst:zbe3 [a] X.env=[(false,eval a X.env)]:=by rfl):PI X (.Tuple elts kk tp) (.Call (.Name "enumerate" p1) [a] [] p2) (dI X.K F (fsE fa)):=by
 refine PI.imp (pi_enum hge hm hl hst) ?_
 rintro σ H R ⟨A,t,b,ds,RR,e,h⟩
 unfold fsE at e
 cases e1:fa t with
 |none=>rw [e1]at e;cases e
 |some r =>
  rw [e1]at e
  refine⟨A,t,r,RR,e1,fun v H1 gs q=>?_⟩
  have e:(match r.d with | .lst ds=>some (r.ok,zo8 0 ds) |_=>none)=some (b,ds):=e
  split at e
  case h_2=>cases e
  rename_i ds' z
  cases e
  have cl:=RepEv.hidF RR.mu gs q
  rw [z]at cl
  cases cl with
  |@lst _ p vs h1 h2=>exact⟨p,rfl,⟨vs,SqL.mono (zb0 _ _) h1⟩,h _ H1 _ gs (src_enum h2.length) ⟨h1,h2⟩⟩
theorem zs0 {p1 p2:Pos} (hgr:Gl X "range") (hm:X.mg "range"=none) (ha:PE X a (dE X.K F fa)) (hst:zbe3 [a] X.env=[(false,eval a X.env)]:=by rfl):PI X tg (.Call (.Name "range" p1) [a] [] p2) (dI X.K F (fsR1 fa)):=by
 refine PI.imp (zaf0 hgr hm (zf0 ha zi1 hst) hst) ?_
 rintro σ H R ⟨A,t,b,ds,RR,e,h⟩
 unfold fsR1 at e
 cases e1:fa t with
 |none=>rw [e1]at e;cases e
 |some r =>
  rw [e1]at e
  refine⟨A,t,r,RR,e1,fun v H1 gs q=>?_⟩
  have e:(match r.d with | .int n=>if bigI n then some (true,rngD 0 n.toNat) else none | _=>none)=some (b,ds):=e
  split at e
  case h_2=>cases e
  rename_i n z
  split at e
  case isFalse=>cases e
  rename_i ok
  simp only [bigI,decide_eq_true_eq]at ok
  cases e
  have p:=q.full
  rw [z]at p
  cases zf5 p
  exact⟨n,rfl,by lia,by lia,h _ H1 _ gs src_rng trivial⟩
end
noncomputable def capD (t:Th):List Nat→Option (Bool×List D)
 |[]=>some (true,[])
 |j::js=>(capD t js).bind fun q=>match t[j]? with
  |some (.val d)=>some (q.1,d::q.2)
  |some (.own xs)=>some (false,.lst xs::q.2)
  |some (.dp d)=>some (false,d::q.2)
  |_=>none
theorem zs5 {K:zbc5}{F A:List Addr}{H:Hp}{t:Th}{σ:L2.St} (R:RS K F H A t σ):∀ {cap:List Nat}{b:Bool}{ds:List D},capD t cap=some (b,ds)→∃vs:List V,(cap.map fun j=>(σ[j]?).getD none)=vs.map some∧Reps K (hide (hidF b A F) H) ds vs
 |[],b,ds,e=>by cases e;exact⟨[],rfl,.nil⟩
 |j::js,b,ds,e=>by
  unfold capD at e
  cases e1:capD t js with
  |none=>rw [e1]at e;cases e
  |some q =>
   obtain⟨b',ds'⟩:=q
   rw [e1]at e
   obtain⟨vs,h1,h2⟩:=zs5 R e1
   have e:(match t[j]? with
    |some (.val d)=>some (b',d::ds')
    |some (.own xs)=>some (false,.lst xs::ds')
    |some (.dp d)=>some (false,d::ds')
    |_=>none)=some (b,ds):=e
   have less:∀c:Bool,Same (hide (A++F) H) (hide (hidF c A F) H):=fun c=>za7 H fun x z=>by
    cases c with
    |true=>exact z
    |false=>exact zbc4 _ z
   split at e
   ·rename_i d z
    cases e
    obtain⟨v,a1,a2⟩:=R.rel.getVal z
    exact⟨v::vs,by simp [a1,h1],.cons (Rep.mono (less _) a2) h2⟩
   ·rename_i xs z
    cases e
    obtain⟨p,us,a1,a2,a3,a4⟩:=R.rel.getOwn z
    refine⟨.ref p::vs,by simp [a1,h1],.cons (.lst (SqL.of (zb9 a3 (R.dj p a2))) (Reps.mono (less false) a4)) (Reps.mono (za7 H fun x z=>?_) h2)⟩
    cases b' with
    |true=>exact zbc4 _ z
    |false=>exact z
   ·rename_i d z
    cases e
    obtain⟨v,B,a1,a2,a3,a4⟩:=R.rel.getDp R.nd z
    refine⟨v::vs,by simp [a1,h1],.cons (a4.rep (less false) fun b hb o w=>zb9 w (R.dj b (a2 b hb))) (Reps.mono (za7 H fun x z=>?_) h2)⟩
    cases b' with
    |true=>exact zbc4 _ z
    |false=>exact z
   ·cases e
noncomputable def zd5 (k:D→Th→Option Th) (ft:DT) (fe:DE):List D→Th→Option (List D)
 |[],_=>some []
 |d::ds,t=>(k d t).bind fun t1=>(ft t1).bind fun b=>if b then (fe t1).bind fun r=>(zd5 k ft fe ds t1).map fun xs=>r.d::xs else zd5 k ft fe ds t1
noncomputable def ze4 (n:Nat) (cap:List Nat) (fs:DI) (k:D→Th→Option Th) (ft:DT) (fe:DE):DE:=fun t=>(fs t).bind fun q=>(capD t cap).bind fun c=>if q.2.length≤50000 then (zd5 k ft fe q.2 (zbe8 n Sl.no++c.2.map Sl.val)).bind fun xs=>if (q.1&&c.1)||flats xs then some (.nw xs) else none else none
theorem zy3 {k:D→Th→Option Th}{ft:DT}{fe:DE}:∀ {ds:List D}{t:Th}{xs:List D},zd5 k ft fe ds t=some xs→xs.length≤ds.length
 |[],t,xs,e=>by cases e;simp
 |d::ds,t,xs,e=>by
  unfold zd5 at e
  cases e1:k d t with
  |none=>rw [e1]at e;cases e
  |some t1 =>
   rw [e1]at e
   have e:((ft t1).bind fun b=>if b then (fe t1).bind fun r=>(zd5 k ft fe ds t1).map fun xs=>r.d::xs else zd5 k ft fe ds t1)=some xs:=e
   cases e2:ft t1 with
   |none=>rw [e2]at e;cases e
   |some b =>
    rw [e2]at e
    cases b with
    |false=>have:=zy3 (ds:=ds) (t:=t1) e;simp;lia
    |true =>
     have e:((fe t1).bind fun r=>(zd5 k ft fe ds t1).map fun xs=>r.d::xs)=some xs:=e
     cases e3:fe t1 with
     |none=>rw [e3]at e;cases e
     |some r =>
      rw [e3]at e
      have e:((zd5 k ft fe ds t1).map fun xs=>r.d::xs)=some xs:=e
      cases e4:zd5 k ft fe ds t1 with
      |none=>rw [e4]at e;cases e
      |some ys=>rw [e4]at e;cases e;have:=zy3 e4;simp;lia
end DL
namespace DL
open PySem.Spec L2
theorem RSl.noVals {K:zbc5}{H0 H:Hp}{vs:List V}{ds:List D} (r:Reps K H0 ds vs):∀n,RSl K H0 H (zbe8 n Sl.no++ds.map Sl.val) (zbe8 n none++vs.map some) []
 |0=>by simpa using RSl.start (t:=[]) (σ:=[]) .nil r
 |n+1=>.no (RSl.noVals r n)
theorem zi6 {P:List Addr}{H:Hp}{p:Addr}{o:HO} (hp:p∈P):Same (hide P H) (hide P (upd H p o)):=fun b u e=>by
 obtain⟨n,e⟩:=zg2 e
 exact zb9 (by rw [zb1 (fun z=>n (by rw [z];exact hp))];exact e) n
theorem RS.updF {K:zbc5}{P:List Addr}{H:Hp}{t:Th}{σ:L2.St}{p:Addr}{ws:List V} (R:RS K P H [] t σ) (hp:p∈P):RS K P (upd H p (.lst ws)) [] t σ where
 mu:=fun q hq=>by
  by_cases z:q=p
  ·exact⟨mL ws,by rw [z];exact za8⟩
  ·obtain⟨us,w⟩:=R.mu q hq
   exact⟨us,by rw [zb1 z];exact w⟩
 nd:=zbg4
 dj:=fun p hp=>by cases hp
 rel:=RSl.mono (zi6 hp) R.rel fun q hq=>by cases hq
theorem zp5 {K:zbc5}{P A:List Addr}{H:Hp}{t:Th}{σ:L2.St} (R:RS K P H A t σ) (g:Gr [] H A H):A=[]:=by
 cases A with
 |nil=>rfl
 |cons a r =>
  rcases g.nw a (zbc9 ..) with z | z
  ·cases z
  ·obtain⟨vs,q⟩:=R.mu a (zbc7 _ (zbc9 ..))
   rw [q]at z;cases z
def zb4:DT:=fun _=>some true
theorem PTs.imp {Y:Cx}{ifs:List Expr}{t t':TT} (h:PTs Y ifs t) (i:∀σ H Q,t' σ H Q→t σ H Q):PTs Y ifs t':=fun pins s σ H Q I q=>h pins s σ H Q I (i σ H Q q)
theorem zd3 {Y:Cx}{F:List Addr}:PTs Y [] (dT Y.K F zb4):=PTs.imp pts_nil fun σ H Q ⟨A,t,b,R,e,h⟩=>by cases e;exact h H (Same.refl H)
theorem ptsd_one {Y:Cx}{F:List Addr}{c:Expr}{ft:DT} (h:PT Y c (dT Y.K F ft)):PTs Y [c] (dT Y.K F ft):=pts_one h
theorem zam3 {X:Cx}{F:List Addr}{n:Nat}{cap:List Nat}{fs:DI}{g:TG}{kt:D→Th→Option Th}{ft:DT}{fe:DE} (hk:∀F',TgOk X.K F' g kt) {σ:L2.St}{H:Hp}{Q:VK} (h:dE X.K F (ze4 n cap fs kt ft fe) σ H Q) :
  zaj1 n cap (dI X.K F fs) g (fun σ H Q => ∃F',dT X.K F' ft σ H Q) (fun σ H Q => ∃F',dE X.K F' fe σ H Q) σ H Q:=by
 obtain⟨A,t,r,R,e,h⟩:=h
 unfold ze4 at e
 cases e1:fs t with
 |none=>rw [e1]at e;cases e
 |some q =>
  obtain⟨b,ds⟩:=q
  cases e2:capD t cap with
  |none=>rw [e1,e2]at e;cases e
  |some q2 =>
   obtain⟨c,caps⟩:=q2
   rw [e1,e2]at e
   have e:(if ds.length≤50000 then (zd5 kt ft fe ds (zbe8 n Sl.no++caps.map Sl.val)).bind fun xs=>if (b&&c)||flats xs then some (Ev.nw xs) else none else none)=some r:=e
   split at e
   case isFalse=>cases e
   rename_i hlen
   cases e3:zd5 kt ft fe ds (zbe8 n Sl.no++caps.map Sl.val) with
   |none=>rw [e3]at e;cases e
   |some xs =>
    rw [e3]at e
    have e:(if (b&&c)||flats xs then some (Ev.nw xs) else none)=some r:=e
    split at e
    case isFalse=>cases e
    rename_i ok
    cases e
    have xl:=zy3 e3
    obtain⟨cvs,cv1,cv2⟩:=zs5 R e2
    -- what is hidden from the block,but its own list
    obtain⟨F',F'def⟩:∃F',F'=hidF (b&&c) A F:=⟨_,rfl⟩
    have subF:∀x∈F',x∈A++F:=fun x hx=>by
     rw [F'def]at hx
     unfold hidF at hx
     split at hx
     ·exact hx
     ·exact zbc4 _ hx
    have lessB:∀H:Hp,Same (hide (hidF b A F) H) (hide F' H):=fun H=>za7 H fun x hx=>by
     rw [F'def]at hx
     cases b<;>cases c<;>simp [hidF]at hx ⊢<;>first | exact hx | exact .inr hx | (rcases hx with z | z<;>simp [z])
    have lessC:∀H:Hp,Same (hide (hidF c A F) H) (hide F' H):=fun H=>za7 H fun x hx=>by
     rw [F'def]at hx
     cases b<;>cases c<;>simp [hidF]at hx ⊢<;>first | exact hx | exact .inr hx | (rcases hx with z | z<;>simp [z])
    have wi:zaj1 n cap (dI X.K F fs) g (fun σ H Q => ∃F',dT X.K F' ft σ H Q) (fun σ H Q => ∃F',dE X.K F' fe σ H Q) σ H Q:=by
     refine⟨A,t,b,ds,R,e1,fun J H1 Good gs src gd Dd hD=>?_⟩
     have H1A:Lists H1 (A++F):=R.mu.mono gs
     have st0:Same (hide F' H1) (hide (Dd::F') (upd H1 Dd (.lst []))):=zn3 hD
     refine⟨fun i m σ' H'=>i+m=ds.length∧∃th acc rest vs,RS X.K (Dd::F') H' [] th σ'∧zd5 kt ft fe (ds.drop i) th=some rest∧acc++rest=xs∧H' Dd=some (.lst vs)∧Reps X.K (hide (Dd::F') H') acc vs∧Same H1 H'∧Good (Dd::F') H',
      ⟨ds.length,by lia,_,[],xs,[],⟨?_,zbg4,fun p hp=>(by cases hp),?_⟩,by simpa using e3,rfl,za8,.nil,zd2 hD,src.keep _ _ _ _ gd (fun b o z=>st0 _ _ (lessB _ _ _ z))⟩,?_⟩
     ·intro q hq
      have hq:q∈Dd::F':=hq
      rcases zbd2.mp hq with z | z
      ·exact⟨mL [],by rw [z];exact za8⟩
      ·obtain⟨us,w⟩:=H1A q (subF q z)
       exact⟨us,(zd2 hD) _ _ w⟩
     ·unfold capV
      rw [cv1]
      exact RSl.noVals (Reps.mono (fun b o z=>st0 _ _ (lessC H1 _ _ (za6 gs _ _ z))) cv2) n
     ·rintro i m σ' H' ⟨hm,th,acc,rest,vs,RR,ec,ex,hv,hr,sm,gg⟩
      cases m with
      |zero =>
       have z:i=ds.length:=by lia
       subst z
       rw [zbk4]at ec
       cases ec
       rw [zbg7]at ex
       subst ex
       refine .inl ⟨src.stop _ _ gg,h _ H' (gs.trans sm) ⟨Dd,vs,rfl,Same.free gs hD,hv,?_⟩⟩
       rcases zbq4 _ _ ▸ ok with k | k
       ·have:F'=A++F:=by rw [F'def];unfold hidF;rw [k];rfl
        rw [← this];exact hr
       ·refine Reps.hid (P:=Dd ::(A++F)) (fun q hq=>?_) k (Reps.mono (zb0 _ _) hr)
        rcases zbd2.mp hq with z | z
        ·exact⟨mL vs,by rw [z];exact hv⟩
        ·obtain⟨us,w⟩:=H1A q z
         exact⟨us,sm _ _ w⟩
      |succ m =>
       have hil:i<ds.length:=by lia
       refine .inr ⟨src.go _ _ i gg hil,fun σ' H'=>i+1+m=ds.length∧∃th acc rest vs,RS X.K (Dd::F') H' [] th σ'∧zd5 kt ft fe (ds.drop (i+1)) th=some rest∧acc++rest=xs∧H' Dd=some (.lst vs)∧Reps X.K (hide (Dd::F') H') acc vs∧Same H1 H'∧Good (Dd::F') H',
        fun σ' H' q=>⟨m,zbj2 m,q⟩,fun x H2 y=>?_⟩
       obtain⟨gs2,d,hd,rd⟩:=src.yld _ _ i x H2 gg RR.mu y hil
       have ed:ds.drop i=d::ds.drop (i+1):=by
        have hd':ds[i]=d:=by
         rw [zbd1 hil]at hd
         exact Option.some.inj hd
        rw [← hd']
        exact zbe9 hil
       rw [ed]at ec
       unfold zd5 at ec
       cases k1:kt d th with
       |none=>rw [k1]at ec;cases ec
       |some t1 =>
        rw [k1]at ec
        have ec:((ft t1).bind fun b=>if b then (fe t1).bind fun r=>(zd5 kt ft fe (ds.drop (i+1)) t1).map fun xs=>r.d::xs else zd5 kt ft fe (ds.drop (i+1)) t1)=some rest:=ec
        refine hk (Dd::F') σ' H2 [] th t1 d x _ (RR.grow gs2) rd k1 fun σ2 A2 gr2 R2=>?_
        have A20:=zp5 R2 gr2
        subst A20
        cases k2:ft t1 with
        |none=>rw [k2]at ec;cases ec
        |some bb =>
         rw [k2]at ec
         refine⟨Dd::F',[],t1,bb,R2,k2,fun H3 gs3=>?_⟩
         cases bb with
         |false =>
          refine iteF ⟨by lia,t1,acc,rest,vs,R2.grow gs3,ec,ex,gs3 _ _ (gs2 _ _ hv),Reps.mono (za6 (gs2.trans gs3)) hr,(sm.trans gs2).trans gs3,src.keep _ _ _ _ gg (za6 (gs2.trans gs3))⟩
         |true =>
          have ec:((fe t1).bind fun r=>(zd5 kt ft fe (ds.drop (i+1)) t1).map fun xs=>r.d::xs)=some rest:=ec
          cases k3:fe t1 with
          |none=>rw [k3]at ec;cases ec
          |some re =>
           rw [k3]at ec
           have ec:((zd5 kt ft fe (ds.drop (i+1)) t1).map fun xs=>re.d::xs)=some rest:=ec
           cases k4:zd5 kt ft fe (ds.drop (i+1)) t1 with
           |none=>rw [k4]at ec;cases ec
           |some ys =>
            rw [k4]at ec
            cases ec
            refine iteT ⟨Dd::F',[],t1,re,R2.grow gs3,k3,fun v H4 gs4 q4=>⟨vs,gs4 _ _ (gs3 _ _ (gs2 _ _ hv)),?_,?_⟩⟩
            ·have l1:=hr.length
             have l2:acc.length+(ys.length+1)=xs.length:=by rw [← ex];simp
             exact zbe2 (show vs.length<50000 by lia) (by rw [sizeLine_eq];decide)
            ·have s4:=(gs2.trans gs3).trans gs4
             have hu:Same (hide (Dd::F') H4) (hide (Dd::F') (upd H4 Dd (.lst (vs++[v])))):=zi6 (zbc9 ..)
             have rv:=q4.cleanF ((R2.grow gs3).mu)
             refine⟨by lia,t1,acc++[re.d],ys,vs++[v],RS.updF ((R2.grow gs3).grow gs4) (zbc9 ..),k4,by simpa using ex,za8,?_,?_,?_⟩
             ·exact (Reps.mono (fun b o z=>hu _ _ (za6 s4 _ _ z)) hr).app (Reps.one (Rep.mono hu rv))
             ·exact fun b o z=>by
               rw [zb1 (fun w=>by rw [w,hD]at z;cases z)]
               exact s4 _ _ (sm _ _ z)
             ·exact src.keep _ _ _ _ gg (fun b o z=>hu _ _ (za6 s4 _ _ z))
    exact wi
theorem ped_comp {X:Cx}{F:List Addr}{elt tg iter:Expr}{ifs:List Expr}{scope:Scope}{pos:Pos}{n:Nat}{cap:List Nat}{N':List Str}{fs:DI}{g:TG}{kt:D→Th→Option Th}{ft:DT}{fe:DE} (S:CompSc X scope) (hc:X.calm=true) (hi:PI X tg iter (dI X.K F fs))
  (hN:N'.length=n+cap.length) (hcap:∀(k:Nat) (j:Nat),cap[k]?=some j→∃x,N'[n+k]?=some x∧X.N[j]?=some x∧(x,NameKind.free)∈scope.names)
  (hg:∀C s₃ H₃ fp pins,PG (blk X N' scope C s₃ H₃ fp pins) tg g) (hk:∀F',TgOk X.K F' g kt) (ht:∀C s₃ H₃ fp pins F',PTs (blk X N' scope C s₃ H₃ fp pins) ifs (dT X.K F' ft)) (he:∀C s₃ H₃ fp pins F',PE (blk X N' scope C s₃ H₃ fp pins) elt (dE X.K F' fe))
  (hs:∀x,foldedSetIterable iter X.env x=pure x:=by intro _;rfl):PE X (.ListComp elt [⟨tg,iter,ifs,0⟩] scope pos) (dE X.K F (ze4 n cap fs kt ft fe)) :=
 PE.imp (zav5 (g:=g) S hc hi hN hcap hg (fun C s₃ H₃ fp pins pins' s σ H Q I ⟨F',q⟩=>ht C s₃ H₃ fp pins F' pins' s σ H Q I q) (fun C s₃ H₃ fp pins pins' s σ H Q I ⟨F',q⟩=>he C s₃ H₃ fp pins F' pins' s σ H Q I q) hs) fun _ _ _ h=>zam3 hk h
noncomputable def zu0 (names:List (Str×NameKind)) (kind:Str→Option NameKind):Bool:=names.all fun y=>(y.2 != .free||kind y.1 == some .cell||kind y.1 == some .free)&&(names.lookup y.1 == some y.2)
theorem zah8 {X:Cx}{scope:Scope} (hk:scope.kind=.function:=by rfl) (h:zu0 scope.names X.env.kindOf=true:=by rfl):CompSc X scope:=by
 have h':=zbg8.mp h
 refine⟨hk,fun y hy hf=>?_,fun y hy=>?_⟩
 ·have:=h' y hy
  simp only [zbd8,zbq4,bne_iff_ne,beq_iff_eq]at this
  rcases this.1 with (z | z) |z
  ·exact absurd hf z
  ·exact .inl z
  ·exact .inr z
 ·have:=h' y hy
  simp only [zbd8,beq_iff_eq]at this
  exact this.2
noncomputable def zz6 (N' N:List Str) (n:Nat) (names:List (Str×NameKind)):Nat→List Nat→Bool
 |_,[]=>true
 |k,j::js=>(match N'[n+k]?,N[j]? with
  |some x,some y=>x == y&&names.any fun z=>z.1 == x&&z.2 == .free
  |_,_=>false)&&zz6 N' N n names (k+1) js
theorem zp8 {N' N:List Str}{n:Nat}{names:List (Str×NameKind)}:∀ {cap:List Nat}{k0:Nat},zz6 N' N n names k0 cap=true→∀(k j:Nat),cap[k]?=some j→∃x,N'[n+(k0+k)]?=some x∧N[j]?=some x∧(x,NameKind.free)∈names
 |[],k0,_,k,j,e=>by simp at e
 |i::js,k0,h,k,j,e=>by
  unfold zz6 at h
  rw [zbd8]at h
  cases k with
  |zero =>
   simp at e
   subst e
   have h1:=h.1
   split at h1
   ·rename_i x y z1 z2
    rw [zbd8,beq_iff_eq,List.any_eq_true]at h1
    obtain⟨e1,w,w1,w2⟩:=h1
    rw [zbd8,beq_iff_eq,beq_iff_eq]at w2
    obtain⟨a,b⟩:=w
    simp only at w2
    rw [w2.1,w2.2]at w1
    exact⟨x,by simpa using z1,by rw [z2,e1],w1⟩
   ·cases h1
  |succ k =>
   obtain⟨x,a,b,c⟩:=zp8 h.2 k j (by simpa using e)
   exact⟨x,by rw [show k0+(k+1)=k0+1+k by lia];exact a,b,c⟩
theorem zf7 {X:Cx}{F:List Addr}{elt tg iter:Expr}{ifs:List Expr}{scope:Scope}{pos:Pos}{fs:DI}{g:TG}{kt:D→Th→Option Th}{ft:DT}{fe:DE} (n:Nat) (cap:List Nat) (N':List Str) (hc:X.calm=true) (hi:PI X tg iter (dI X.K F fs))
  (hg:∀C s₃ H₃ fp pins,PG (blk X N' scope C s₃ H₃ fp pins) tg g) (hk:∀F',TgOk X.K F' g kt) (ht:∀C s₃ H₃ fp pins F',PTs (blk X N' scope C s₃ H₃ fp pins) ifs (dT X.K F' ft)) (he:∀C s₃ H₃ fp pins F',PE (blk X N' scope C s₃ H₃ fp pins) elt (dE X.K F' fe))
  (hkd:scope.kind=.function:=by rfl) (hcs:zu0 scope.names X.env.kindOf=true:=by rfl) (hN:N'.length=n+cap.length:=by rfl) (hcap:zz6 N' X.N n scope.names 0 cap=true:=by rfl)
  (hs:∀x,foldedSetIterable iter X.env x=pure x:=by intro _;rfl):PE X (.ListComp elt [⟨tg,iter,ifs,0⟩] scope pos) (dE X.K F (ze4 n cap fs kt ft fe)) :=
 ped_comp (zah8 hkd hcs) hc hi hN (fun k j e=>by simpa using zp8 hcap k j e) hg hk ht he hs
noncomputable def kIn:Ev→Ev→Option Ev:=fun r1 r2=>match r2.d with
 |.lst ds=>if scD r1.d&&ds.all (fun d=>scD d&&eqOk 0 d r1.d) then some (.cl (.bl (ds.any fun d=>eqD d r1.d))) else none
 |.tup ds=>if scD r1.d&&ds.all (fun d=>scD d&&eqOk 0 d r1.d) then some (.cl (.bl (ds.any fun d=>eqD d r1.d))) else none
 |_=>none
theorem in_D {K:zbc5}{H:Hp}{e:D}{u:V} (q:Rep K H e u) (se:scD e=true):∀ {ds:List D}{vs:List V},Reps K H ds vs→ds.all (fun d=>scD d&&eqOk 0 d e)=true→vs.all zs4=true∧inV u vs=ds.any fun d=>eqD d e
 |_,_,.nil,_=>⟨rfl,rfl⟩
 |_,_,.cons h r,k=>by
  simp only [zbh0,zbd8]at k
  obtain⟨f1,f2,e1⟩:=eqV_D h q k.1.1 se k.1.2
  obtain⟨a,b⟩:=in_D q se r (by simpa using k.2)
  unfold inV at b ⊢
  refine⟨by simp [f1,a],?_⟩
  rw [zbj5,zbj5,e1,b]
theorem zat3 {K:zbc5}{H:Hp}{e:D}{u:V} (q:Rep K H e u) (se:scD e=true):zs4 u=true:=by
 cases q<;>simp_all [scD,zs4]
end DL
namespace L2
open PySem.Spec
abbrev EMS:=Addr→L2.St→Hp→(L2.St→Hp→Prop)→Prop
noncomputable def emT (e:Expr) (g2:Comprehension) (acc:Value) (env:Env):Sem Unit:=do
 let x ← eval g2.iter env
 standAt g2.iter.pos
 let x ← foldedSetIterable g2.iter env x
 let _ ← runOwn (.compStart e 1 (← holding [x] (pyIter x)) acc env) env
theorem zal1 {elt target iter:Expr}{ifs:List Expr}{g2:Comprehension}{scope:Scope}{pos:Pos}{it acc:Value}{env:Env} (h2:g2.is_async=0) :
  compTurn (.ListComp elt [⟨target,iter,ifs,0⟩,g2] scope pos) 0 it acc env=(do
   standAt iter.pos
   match ← pyNext it with
   |none=>pure (.done .next)
   |some v =>
    letOwnedTupleGo target it v
    assign target env v
    let mut ok:=true
    for c in ifs do
     if ok then ok ← isTrue c env (eval c env)
    if ok then emT (.ListComp elt [⟨target,iter,ifs,0⟩,g2] scope pos) g2 acc env
    again (.compLoop (.ListComp elt [⟨target,iter,ifs,0⟩,g2] scope pos) 0 it acc env)):=by
 obtain⟨t2,i2,f2,a2⟩:=g2
 have h2:a2=0:=h2
 subst h2
 simp only [emT,bind_assoc,pure_bind]
 rfl
theorem zal0 {elt iter:Expr}{ifs:List Expr}{g1:Comprehension}{target:Expr}{scope:Scope}{pos:Pos}{it acc:Value}{env:Env} :
  compTurn (.ListComp elt [g1,⟨target,iter,ifs,0⟩] scope pos) 1 it acc env=(do
   standAt iter.pos
   match ← pyNext it with
   |none=>pure (.done .next)
   |some v =>
    letOwnedTupleGo target it v
    assign target env v
    let mut ok:=true
    for c in ifs do
     if ok then ok ← isTrue c env (eval c env)
    if ok then (do let _ ← call (.builtin "list.append") [acc, ← eval elt env])
    again (.compLoop (.ListComp elt [g1,⟨target,iter,ifs,0⟩] scope pos) 1 it acc env)):=by rfl
theorem zy2 {prog:Program}{w:World}{A:Around}{R:Result→zbe1→Prop}{s:zbe1}{elt target:Expr}{ip:Pos}{gens:List Comprehension}{depth:Nat}{ifs:List Expr}{scope:Scope}{pos:Pos}{it acc:Value}{env:Env} (em:Sem Unit)
  (heq:compTurn (.ListComp elt gens scope pos) depth it acc env=(do
   standAt ip
   match ← pyNext it with
   |none=>pure (.done .next)
   |some v =>
    letOwnedTupleGo target it v
    assign target env v
    let mut ok:=true
    for c in ifs do
     if ok then ok ← isTrue c env (eval c env)
    if ok then em
    again (.compLoop (.ListComp elt gens scope pos) depth it acc env))) (I:Nat→zbe1→Prop)
  (turn:∀n s,I n s→wpAny (model prog w) A (pyNext it) (fun r s₁=>match r with
   |none=>R (.ok .next) s₁
   |some v=>wpAny (model prog w) A (letOwnedTupleGo target it v) (fun _ s₁'=>wpAny (model prog w) A (assign target env v) (fun _ s₂ =>
     wpAny (model prog w) A (forIn ifs true fun c r=>if r=true then do let ok ← isTrue c env (eval c env);pure (ForInStep.yield ok) else pure (ForInStep.yield r)) (fun ok s₃ =>
      if ok=true then wpAny (model prog w) A em (fun _ s₅ => ∃m,m<n∧I m s₅) (fun _ _=>False) s₃
      else ∃m,m<n∧I m s₃) (fun _ _=>False) s₂) (fun _ _=>False) s₁') (fun _ _=>False) s₁) (fun _ _=>False) s)
  (n:Nat) (h:I n s):codeAny (model prog w) A (.compLoop (.ListComp elt gens scope pos) depth it acc env) R s:=by
 refine codeAny_loop rfl I (fun n s hI=>?_) n h
 show wpAny _ A ((compTurn (.ListComp elt gens scope pos) depth it acc env).onRaise (fun x=>do noteFrame x env;theTreesLotGoes x)) _ _ s
 refine wpAny_noted ?_
 rw [heq]
 refine zbd4 (wpAny_standAt (zbd4 (wpAny_mono (turn n s hI) (fun r s₁ h₁=>?_) fun _ _ h'=>h'.elim)))
 cases r with
 |none=>exact zbf3 h₁
 |some v =>
  refine zbd4 (wpAny_mono h₁ (fun _ s₁' h₁'=>?_) fun _ _ h'=>h'.elim)
  refine zbd4 (wpAny_mono h₁' (fun _ s₂ h₂=>zbd4 (wpAny_mono h₂ (fun ok s₃ h₃=>?_) fun _ _ h'=>h'.elim)) fun _ _ h'=>h'.elim)
  cases ok with
  |false=>exact zbf3 ⟨rfl,h₃⟩
  |true=>exact zbd4 (wpAny_mono h₃ (fun _ s₅ h₅=>zbf3 ⟨rfl,h₅⟩) fun _ _ h'=>h'.elim)
theorem zr3 {prog:Program}{w:World}{A:Around}{R:Result→zbe1→Prop}{s:zbe1}{elt target iter ifs g1 scope pos it acc env}
  (h0:codeAny (model prog w) A (.compLoop (.ListComp elt [g1,⟨target,iter,ifs,0⟩] scope pos) 1 it acc env) R s)
  (h:wpAny (model prog w) A (pyIter it) (fun it' s'=>codeAny (model prog w) A (.compLoop (.ListComp elt [g1,⟨target,iter,ifs,0⟩] scope pos) 1 it' acc env) R s')
   (notedBy (model prog w) A env fun x s'=>R (.error x) s') s) :
  codeAny (model prog w) A (.compStart (.ListComp elt [g1,⟨target,iter,ifs,0⟩] scope pos) 1 it acc env) R s:=by
 refine codeAny_of_tree ?_
 show wpAny _ _ ((compStart (.ListComp elt [g1,⟨target,iter,ifs,0⟩] scope pos) 1 it acc env).onRaise (fun x=>do noteFrame x env;standAt theWindowsPlace)) _ _ s
 refine wpAny_notedAt ?_
 unfold compStart
 show wpAny _ _ (ask >>= _) _ _ s
 refine zbd4 (wpAny_askSetting (wpAny_ite ?_))
 split
 ·first
   |exact zbd4 (zbf3 (zbf3 (And.intro rfl h0)))
   |exact zbf3 (And.intro rfl h0)
 ·first
   |exact zbd4 (wpAny_rule (zbd4 (wpAny_standAt (zbd4 (wpAny_mono h (fun it' s' h'=>zbf3 (And.intro rfl h')) fun _ _ x=>x)))))
   |(refine zbd4 (wpAny_rule ?_);show wpAny _ _ (standAt iter.pos >>= _) _ _ s;exact zbd4 (wpAny_standAt (zbd4 (wpAny_mono h (fun it' s' h'=>zbf3 (And.intro rfl h')) fun _ _ x=>x))))
noncomputable def tCompG (n:Nat) (cap:List Nat) (wi:TI) (g:TG) (tt:TT) (em:EMS):TE:=fun σ H Q=>wi σ H fun J H1 => ∀D,H1 D=none→∃W:Nat→Nat→L2.St→Hp→Prop,(∃m,W 0 m (capV n cap σ) (upd H1 D (.lst [])))∧∀i m σ' H',W i m σ' H' →
 (J.stop i H'∧Q (.ref D) H')∨(J.go i H'∧∃N:L2.St→Hp→Prop,(∀σ'' H'',N σ'' H''→∃m',m' < m∧W (i+1) m' σ'' H'')∧∀x H2,J.yld i H' x H2→g x σ' H2 fun σ2 H3=>tt σ2 H3 fun b H4 =>
  if b=true then em D σ2 H4 N else N σ2 H4)
noncomputable def PEm (Y:Cx) (tree:Sem Unit) (em:L2.St→Hp→(L2.St→Hp→Prop)→Prop):Prop :=
 ∀(pins:List (Addr×Obj)) (s:zbe1) (σ:L2.St) (H:Hp) (R:L2.St→Hp→Prop),Inv Y pins σ H s→em σ H R→wpAny (model Y.prog Y.w) Y.A tree (fun _ s' => ∃σ' H',Inv Y pins σ' H' s'∧R σ' H') Y.xe s
noncomputable def tInner (wi:TI) (g:TG) (tt:TT) (te:TE):EMS:=fun D σ H R=>wi σ H fun J H1 => ∃W:Nat→Nat→L2.St→Hp→Prop,(∃m,W 0 m σ H1)∧∀i m σ' H',W i m σ' H' →
 (J.stop i H'∧R σ' H')∨(J.go i H'∧∃N:L2.St→Hp→Prop,(∀σ'' H'',N σ'' H''→∃m',m' < m∧W (i+1) m' σ'' H'')∧∀x H2,J.yld i H' x H2→g x σ' H2 fun σ2 H3=>tt σ2 H3 fun b H4 =>
  if b=true then te σ2 H4 fun v H5 => ∃vs,H5 D=some (.lst vs)∧vs.length<sizeLine∧N σ2 (upd H5 D (.lst (vs++[v]))) else N σ2 H4)
theorem zau9 {Y:Cx}{elt tg iter:Expr}{ifs:List Expr}{g1:Comprehension}{scope:Scope}{pos:Pos}{wi:TI}{g:TG}{tt:TT}{te:TE}{D:Addr} (yc:Y.calm=true) (yx:Y.xe=fun _ _=>False) (hi:PI Y tg iter wi) (hg:PG Y tg g) (ht:PTs Y ifs tt) (he:PE Y elt te)
  (hs:∀x,foldedSetIterable iter Y.env x=pure x:=by intro _;rfl):PEm Y (emT (.ListComp elt [g1,⟨tg,iter,ifs,0⟩] scope pos) ⟨tg,iter,ifs,0⟩ (.ref D) Y.env) (tInner wi g tt te D):=by
 intro pins s σ H R I h
 unfold emT
 refine zbd4 (thn (hi pins s σ H _ I h) fun v s1 h1=>zbd4 (wpAny_standAt (zbd4 (wpAny_of_eq (hs v) (zbd4 (wpAny_holding (thn h1 fun itv s2 h2=>?_)))))))
 obtain⟨it,fp,tn,J,H2,e,I2,T,st2,f2,W,⟨m0,w0⟩,turn⟩:=h2
 subst e
 refine zbd4 (wpAny_runOwn ?_)
 have stat:∀ {H':Hp},(∀b∈fp,H' b=none)→∀b∈fp,FpOk Y pins H' b:=fun hn b hb=>⟨hn b hb,(f2 b hb).2⟩
 have loop:∀s2',Inv Y pins σ H2 s2'→tn 0 s2'.heap→codeAny (model Y.prog Y.w) Y.A (.compLoop (.ListComp elt [g1,⟨tg,iter,ifs,0⟩] scope pos) 1 (.ref it) (.ref D) Y.env)
   (fun r s'=>match r with | .ok f=>wpAny (model Y.prog Y.w) Y.A (pure ()) (fun _ s' => ∃σ' H',Inv Y pins σ' H' s'∧R σ' H') Y.xe s' | .error e=>cameBackBy (model Y.prog Y.w) Y.A Y.env Y.xe e s') s2':=by
  intro s2' I2' st2'
  refine zy2 (do let _ ← call (.builtin "list.append") [.ref D, ← eval elt Y.env]) zal0 (fun n s' => ∃i σ' H',Inv Y pins σ' H' s'∧tn i s'.heap∧(∀b∈fp,H' b=none)∧W i n σ' H') ?_ m0 ⟨0,_,_,I2',st2',fun b hb=>(f2 b hb).1,w0⟩
  rintro n s3 ⟨i,σ3,H3,I5,st3,fr3,w3⟩
  rcases turn i n σ3 H3 w3 with ⟨stop,qn⟩ | ⟨go,N,hNN,step⟩
  ·refine thn (T.done Y rfl rfl rfl yc i pins s3 σ3 H3 (fun _ _=>False) I5 (stat fr3) st3 stop) fun r s4 ⟨hr,I6⟩=>?_
   subst hr
   exact zbf3 ⟨σ3,H3,I6,qn⟩
  ·refine thn (T.item Y rfl rfl rfl yc i pins s3 σ3 H3 (fun _ _=>False) I5 (stat fr3) st3 go) fun r s4 ⟨u,hr,h4⟩=>?_
   subst hr
   refine thn h4 fun _ s5 ⟨x,H5,I6,r5,y5,st5,fr5⟩=>?_
   have I6':=I6.pinned (stat fr5) (T.obj _ _ st5)
   have a:=hg _ s5 σ3 H5 x u _ I6' r5 (step x H5 y5)
   rw [yx]at a
   refine thn a fun _ s6 ⟨σ6,H6,I7,q6⟩=>?_
   have b:=ht _ s6 σ6 H6 _ I7 q6
   rw [yx]at b
   refine thn b fun ok s7 ⟨H7,I8,q7⟩=>?_
   have again:∀ {s9:zbe1}{H9:Hp},Inv Y (pins++zo4 fp s5.heap) σ6 H9 s9→N σ6 H9→∃m,m<n∧∃i σ' H',Inv Y pins σ' H' s9∧tn i s9.heap∧(∀b∈fp,H' b=none)∧W i m σ' H':=fun {s9 H9} I9 n9=>by
    obtain⟨m',hm,w9⟩:=hNN σ6 H9 n9
    refine⟨m',hm,i+1,σ6,H9,I9.unpinned,T.keep _ _ _ st5 fun b hb o e=>(I9.pin (b,o) (zbc4 _ (zbc4 _ (zd0 hb e)))).1,fun b hb=>?_,w9⟩
    obtain⟨o,e,d⟩:=T.obj _ _ st5 b hb
    exact (I9.pin (b,o) (zbc4 _ (zbc4 _ (zd0 hb e)))).2.1
   cases ok with
   |false=>exact iteF (again I8 (by simpa using q7))
   |true =>
    rw [if_pos rfl]at q7
    refine iteT ?_
    have c:=he _ s7 σ6 H7 _ I8 q7
    rw [yx]at c
    refine zbd4 (thn c fun z s8 ⟨vz,H8,I9,r9,vs,hv,hl,n9⟩=>zbd4 ?_)
    have ap:=zl1 (X:=Y) (pins++zo4 fp s5.heap) s8 σ6 H8 (.ref D) [vz] (.ref D) [z] (fun _ H9=>N σ6 H9) I9 rfl (.cons r9 .nil) ⟨_,vs,vz,rfl,rfl,hv,hl,n9⟩
    rw [yx]at ap
    exact thn ap fun _ s9 ⟨_,H9,I10,_,n10⟩=>zbf3 (again I10 n10)
 exact zr3 (loop s2 I2 st2) (T.self _ 0 _ _ _ st2 (loop s2 I2 st2))
theorem pe_compG {X:Cx}{elt tg iter:Expr}{ifs:List Expr}{scope:Scope}{pos:Pos}{n:Nat}{cap:List Nat}{N':List Str}{wi:TI}{g:TG}{tt:TT}{em:EMS}{g2:Comprehension} (S:CompSc X scope) (hc:X.calm=true) (hi:PI X tg iter wi)
  (hN:N'.length=n+cap.length) (hcap:∀(k:Nat) (j:Nat),cap[k]?=some j→∃x,N'[n+k]?=some x∧X.N[j]?=some x∧(x,NameKind.free)∈scope.names)
  (hg:∀C s₃ H₃ fp pins,PG (blk X N' scope C s₃ H₃ fp pins) tg g) (ht:∀C s₃ H₃ fp pins,PTs (blk X N' scope C s₃ H₃ fp pins) ifs tt) (he:∀C s₃ H₃ fp pins D,PEm (blk X N' scope C s₃ H₃ fp pins) (emT (.ListComp elt [⟨tg,iter,ifs,0⟩,g2] scope pos) g2 (.ref D) (blk X N' scope C s₃ H₃ fp pins).env) (em D))
  (h2:g2.is_async=0) (hs:∀x,foldedSetIterable iter X.env x=pure x:=by intro _;rfl):PE X (.ListComp elt [⟨tg,iter,ifs,0⟩,g2] scope pos) (tCompG n cap wi g tt em):=by
 intro pins s σ H Q I h
 rw [eval_ListComp]
 refine wpAny_comprehension_free (use:=none) rfl hs (zl7 (S.frees I.ok)) S.kind (fun x hx hl=>by rw [S.names x hx,hl]) (thn (hi pins s σ H _ I h) fun v s1 h1=>thn h1 fun itv s2 h2=>?_)
 obtain⟨it,fp,tn,J,H2,e,I2,T,st2,f2,R⟩:=h2
 subst e
 have lt2:∀b∈fp,b<s2.heap.objs.size:=fun b hb=>by obtain⟨o,e,_⟩:=T.obj _ _ st2 b hb;exact zbe4 e
 have hD:H2 s2.heap.objs.size=none:=I2.fresh
 obtain⟨W,⟨m0,w0⟩,turn⟩:=R s2.heap.objs.size hD
 have I3:Inv X pins σ (upd H2 s2.heap.objs.size (.lst [])) { s2 with heap:=s2.heap.push { cls:=.type "list",data:=.seq ([]:List Value).toArray },toks:=s2.toks }:=I2.lnew (t':=s2.toks) .nil (by simp)
 have f3:∀b∈fp,FpOk X pins (upd H2 s2.heap.objs.size (.lst [])) b:=fun b hb=>⟨by rw [zb1 (zbf5 (lt2 b hb))];exact (f2 b hb).1,(f2 b hb).2⟩
 refine wpAny_newObj_type (zk1 fun h₁ hns₁ hk hcl₁=>?_)
 have lt3:∀b∈fp,b<(s2.heap.push { cls:=.type "list",data:=.seq ([]:List Value).toArray }).objs.size:=fun b hb=>by rw [zbk6];exact zbl1 (lt2 b hb)
 have I4:Inv (blk X N' scope (s2.heap.push { cls:=.type "list",data:=.seq ([]:List Value).toArray }).objs.size { s2 with heap:=s2.heap.push { cls:=.type "list",data:=.seq ([]:List Value).toArray },toks:=s2.toks } (upd H2 s2.heap.objs.size (.lst [])) fp pins) [] (capV n cap σ) (upd H2 s2.heap.objs.size (.lst [])) { s2 with heap:=h₁,toks:=s2.toks } :=
  zal5 I3 S hc f3 lt3 (t1:=s2.toks) hns₁ hk hcl₁ (by simp [capV,hN]) (fun i x v e1 e2=>by
   unfold capV at e2
   by_cases hi:i<n
   ·rw [zbj1 (by simpa using hi),zbk1]at e2
    split at e2<;>cases e2
   ·rw [zbi7 (by simpa using hi),zbk8,zbg0]at e2
    cases ej:cap[i - n]? with
    |none=>rw [ej]at e2;cases e2
    |some j =>
     rw [ej]at e2
     obtain⟨x',a1,a2,a3⟩:=hcap (i - n) j ej
     have:n+(i - n)=i:=by lia
     rw [this,e1]at a1
     cases a1
     refine⟨a3,j,a2,?_⟩
     have e2:(σ[j]?).getD none=some v:=by simpa using e2
     cases q:σ[j]? with
     |none=>rw [q]at e2;cases e2
     |some z=>rw [q]at e2;have:z=some v:=e2;rw [this])
 have loop:codeAny (model X.prog X.w) X.A (.compLoop (.ListComp elt [⟨tg,iter,ifs,0⟩,g2] scope pos) 0 (.ref it) (.ref s2.heap.objs.size) (compEnvC scope (cellsFrom ((s2.heap.push { cls:=.type "list",data:=.seq ([]:List Value).toArray }).objs.size+1) scope.names (clOf X.env.cells scope.names [])) (s2.heap.push { cls:=.type "list",data:=.seq ([]:List Value).toArray }).objs.size X.env))
   (compPost (model X.prog X.w) X.A X.xe none (EP X pins σ Q) (.ref s2.heap.objs.size) (s2.heap.push { cls:=.type "list",data:=.seq ([]:List Value).toArray }).objs.size) { s2 with heap:=h₁,toks:=s2.toks }:=by
  generalize hY:(blk X N' scope (s2.heap.push { cls:=.type "list",data:=.seq ([]:List Value).toArray }).objs.size { s2 with heap:=s2.heap.push { cls:=.type "list",data:=.seq ([]:List Value).toArray },toks:=s2.toks } (upd H2 s2.heap.objs.size (.lst [])) fp pins)=Y at I4
  have st4:tn 0 h₁:=T.keep _ _ _ st2 fun b hb o e=>hk b o (zbd5 _ e)
  have stat:∀ {H':Hp},(∀b∈fp,H' b=none)→∀b∈fp,FpOk Y [] H' b:=fun hn b hb=>by
   subst hY
   obtain⟨f0,f1,f2',f3',f4,f5⟩:=f3 b hb
   exact⟨hn b hb,zbf5 (lt3 b hb),fun z=>(zbd2.mp (I3.stkSub b z)).elim f1 f2',.inl hb,fun x c e=>(by
    rcases S.old I3 e with z | z
    ·exact f4 x c z
    ·exact zbn3 (zbq7 (lt3 b hb) z)),fun p hp=>f5 p (by simpa using hp)⟩
  have hgY:PG Y tg g:=hY ▸ hg _ _ _ _ _
  have htY:PTs Y ifs tt:=hY ▸ ht _ _ _ _ _
  have heY:PEm Y (emT (.ListComp elt [⟨tg,iter,ifs,0⟩,g2] scope pos) g2 (.ref s2.heap.objs.size) Y.env) (em s2.heap.objs.size):=by subst hY;exact he _ _ _ _ _ _
  have yp:Y.prog=X.prog:=by subst hY;rfl
  have yw:Y.w=X.w:=by subst hY;rfl
  have yK:Y.K=X.K:=by subst hY;rfl
  have yA:Y.A=X.A:=by subst hY;rfl
  have yc:Y.calm=true:=by subst hY;rfl
  have yx:Y.xe=fun _ _=>False:=by subst hY;rfl
  have ye:Y.env=compEnvC scope (cellsFrom ((s2.heap.push { cls:=.type "list",data:=.seq ([]:List Value).toArray }).objs.size+1) scope.names (clOf X.env.cells scope.names [])) (s2.heap.push { cls:=.type "list",data:=.seq ([]:List Value).toArray }).objs.size X.env:=by subst hY;rfl
  rw [← ye]
  refine zy2 (emT (.ListComp elt [⟨tg,iter,ifs,0⟩,g2] scope pos) g2 (.ref s2.heap.objs.size) Y.env) (zal1 h2) (fun n s' => ∃i σ' H',Inv Y [] σ' H' s'∧tn i s'.heap∧(∀b∈fp,H' b=none)∧W i n σ' H') ?_ m0 ⟨0,_,_,I4,st4,fun b hb=>(f3 b hb).1,w0⟩
  rintro n s3 ⟨i,σ3,H3,I5,st3,fr3,w3⟩
  rcases turn i n σ3 H3 w3 with ⟨stop,qn⟩ | ⟨go,N,hNN,step⟩
  ·have d:=T.done Y yp yw yK yc i [] s3 σ3 H3 (fun _ _=>False) I5 (stat fr3) st3 stop
   rw [yA]at d
   refine thn d fun r s4 ⟨hr,I6⟩=>?_
   subst hr
   obtain⟨m,hm,_⟩:=I6.loc
   rw [ye]at hm
   refine⟨m,hm,fun h' hb=>⟨.ref s2.heap.objs.size,H3,?_,rfl,qn⟩⟩
   subst hY
   exact zad3 I3 f3 rfl I6 hb
  ·have d:=T.item Y yp yw yK yc i [] s3 σ3 H3 (fun _ _=>False) I5 (stat fr3) st3 go
   rw [yA]at d
   refine thn d fun r s4 ⟨u,hr,h4⟩=>?_
   subst hr
   refine thn h4 fun _ s5 ⟨x,H5,I6,r5,y5,st5,fr5⟩=>?_
   have I6':=I6.pinned (stat fr5) (T.obj _ _ st5)
   have a:=hgY _ s5 σ3 H5 x u _ I6' r5 (step x H5 y5)
   rw [yp,yw,yA,yx]at a
   refine thn a fun _ s6 ⟨σ6,H6,I7,q6⟩=>?_
   have b:=htY _ s6 σ6 H6 _ I7 q6
   rw [yp,yw,yA,yx]at b
   refine thn b fun ok s7 ⟨H7,I8,q7⟩=>?_
   have again:∀ {s9:zbe1}{σ9:L2.St}{H9:Hp},Inv Y ([]++zo4 fp s5.heap) σ9 H9 s9→N σ9 H9→∃m,m<n∧∃i σ' H',Inv Y [] σ' H' s9∧tn i s9.heap∧(∀b∈fp,H' b=none)∧W i m σ' H':=fun {s9 σ9 H9} I9 n9=>by
    obtain⟨m',hm,w9⟩:=hNN σ9 H9 n9
    refine⟨m',hm,i+1,σ9,H9,I9.unpinned,T.keep _ _ _ st5 fun b hb o e=>(I9.pin (b,o) (zbc4 _ (zbc4 _ (zd0 hb e)))).1,fun b hb=>?_,w9⟩
    obtain⟨o,e,d⟩:=T.obj _ _ st5 b hb
    exact (I9.pin (b,o) (zbc4 _ (zbc4 _ (zd0 hb e)))).2.1
   cases ok with
   |false=>exact iteF (again I8 (by simpa using q7))
   |true =>
    rw [if_pos rfl]at q7
    refine iteT ?_
    have c:=heY _ s7 σ6 H7 _ I8 q7
    rw [yp,yw,yA,yx]at c
    exact thn c fun _ s8 ⟨σ8,H8,I9,n9⟩=>again I9 n9
 exact codeAny_compStart_list loop (T.self _ 0 _ _ _ (T.keep _ _ _ st2 fun b hb o e=>hk b o (zbd5 _ e)) loop)
end L2
namespace DL
open PySem.Spec L2
noncomputable def zi3 (k:D→Th→Option Th) (ft:DT) (fe:DE):List D→Th→Option (List D×Th)
 |[],t=>some ([],t)
 |d::ds,t=>(k d t).bind fun t1=>(ft t1).bind fun b=>if b then (fe t1).bind fun r=>(zi3 k ft fe ds t1).map fun q=>(r.d::q.1,q.2) else zi3 k ft fe ds t1
noncomputable def zh9 (k:D→Th→Option Th) (ft:DT) (fs2:DI) (k2:D→Th→Option Th) (ft2:DT) (fe:DE):List D→Th→Option (List D)
 |[],_=>some []
 |d::ds,t=>(k d t).bind fun t1=>(ft t1).bind fun b=>if b then (fs2 t1).bind fun q=>(zi3 k2 ft2 fe q.2 t1).bind fun p=>(zh9 k ft fs2 k2 ft2 fe ds p.2).map fun xs=>p.1++xs else zh9 k ft fs2 k2 ft2 fe ds t1
noncomputable def zl6 (n:Nat) (cap:List Nat) (fs:DI) (k:D→Th→Option Th) (ft:DT) (fs2:DI) (k2:D→Th→Option Th) (ft2:DT) (fe:DE):DE:=fun t=>(fs t).bind fun q=>(capD t cap).bind fun c =>
 (zh9 k ft fs2 k2 ft2 fe q.2 (zbe8 n Sl.no++c.2.map Sl.val)).bind fun xs=>if xs.length≤50000&&flats xs then some (.nw xs) else none
theorem zas8 {X:Cx}{F:List Addr}{n:Nat}{cap:List Nat}{fs fs2:DI}{g g2:TG}{kt kt2:D→Th→Option Th}{ft ft2:DT}{fe:DE} (hk:∀F',TgOk X.K F' g kt) (hk2:∀F',TgOk X.K F' g2 kt2) {σ:L2.St}{H:Hp}{Q:VK} (h:dE X.K F (zl6 n cap fs kt ft fs2 kt2 ft2 fe) σ H Q) :
  tCompG n cap (dI X.K F fs) g (fun σ H Q => ∃F',dT X.K F' ft σ H Q) (tInner (fun σ H R => ∃F',dI X.K F' fs2 σ H R) g2 (fun σ H Q => ∃F',dT X.K F' ft2 σ H Q) (fun σ H Q => ∃F',dE X.K F' fe σ H Q)) σ H Q:=by
 obtain⟨A,t,r,R,e,h⟩:=h
 unfold zl6 at e
 cases e1:fs t with
 |none=>rw [e1]at e;cases e
 |some q =>
  obtain⟨b,ds⟩:=q
  cases e2:capD t cap with
  |none=>rw [e1,e2]at e;cases e
  |some q2 =>
   obtain⟨c,caps⟩:=q2
   rw [e1,e2]at e
   simp only [zbc8]at e
   cases e3:zh9 kt ft fs2 kt2 ft2 fe ds (zbe8 n Sl.no++caps.map Sl.val) with
   |none=>rw [e3]at e;cases e
   |some xs =>
    rw [e3]at e
    simp only [zbc8]at e
    split at e
    case isFalse=>cases e
    rename_i ok
    rw [zbd8,decide_eq_true_eq]at ok
    cases e
    obtain⟨cvs,cv1,cv2⟩:=zs5 R e2
    obtain⟨F',F'def⟩:∃F',F'=hidF (b&&c) A F:=⟨_,rfl⟩
    have subF:∀x∈F',x∈A++F:=fun x hx=>by
     rw [F'def]at hx
     unfold hidF at hx
     split at hx
     ·exact hx
     ·exact zbc4 _ hx
    have lessB:∀H:Hp,Same (hide (hidF b A F) H) (hide F' H):=fun H=>za7 H fun x hx=>by
     rw [F'def]at hx
     cases b<;>cases c<;>simp [hidF]at hx ⊢<;>first | exact hx | exact .inr hx | (rcases hx with z | z<;>simp [z])
    have lessC:∀H:Hp,Same (hide (hidF c A F) H) (hide F' H):=fun H=>za7 H fun x hx=>by
     rw [F'def]at hx
     cases b<;>cases c<;>simp [hidF]at hx ⊢<;>first | exact hx | exact .inr hx | (rcases hx with z | z<;>simp [z])
    refine⟨A,t,b,ds,R,e1,fun J H1 Good gs src gd Dd hD=>?_⟩
    have H1A:Lists H1 (A++F):=R.mu.mono gs
    have st0:Same (hide F' H1) (hide (Dd::F') (upd H1 Dd (.lst []))):=zn3 hD
    refine⟨fun i m σ' H'=>i+m=ds.length∧∃th acc rest vs,RS X.K (Dd::F') H' [] th σ'∧zh9 kt ft fs2 kt2 ft2 fe (ds.drop i) th=some rest∧acc++rest=xs∧H' Dd=some (.lst vs)∧Reps X.K (hide (Dd::F') H') acc vs∧Same H1 H'∧Good (Dd::F') H',
     ⟨ds.length,by lia,_,[],xs,[],⟨?_,zbg4,fun p hp=>(by cases hp),?_⟩,by simpa using e3,rfl,za8,.nil,zd2 hD,src.keep _ _ _ _ gd (fun b o z=>st0 _ _ (lessB _ _ _ z))⟩,?_⟩
    ·intro q hq
     have hq:q∈Dd::F':=hq
     rcases zbd2.mp hq with z | z
     ·exact⟨mL [],by rw [z];exact za8⟩
     ·obtain⟨us,w⟩:=H1A q (subF q z)
      exact⟨us,(zd2 hD) _ _ w⟩
    ·unfold capV
     rw [cv1]
     exact RSl.noVals (Reps.mono (fun b o z=>st0 _ _ (lessC H1 _ _ (za6 gs _ _ z))) cv2) n
    ·rintro i m σ' H' ⟨hm,th,acc,rest,vs,RR,ec,ex,hv,hr,sm,gg⟩
     cases m with
     |zero =>
      have z:i=ds.length:=by lia
      subst z
      rw [zbk4]at ec
      cases ec
      rw [zbg7]at ex
      subst ex
      refine .inl ⟨src.stop _ _ gg,h _ H' (gs.trans sm) ⟨Dd,vs,rfl,Same.free gs hD,hv,?_⟩⟩
      refine Reps.hid (P:=Dd ::(A++F)) (fun q hq=>?_) ok.2 (Reps.mono (zb0 _ _) hr)
      rcases zbd2.mp hq with z | z
      ·exact⟨mL vs,by rw [z];exact hv⟩
      ·obtain⟨us,w⟩:=H1A q z
       exact⟨us,sm _ _ w⟩
     |succ m =>
      have hil:i<ds.length:=by lia
      refine .inr ⟨src.go _ _ i gg hil,fun σ' H'=>i+1+m=ds.length∧∃th acc rest vs,RS X.K (Dd::F') H' [] th σ'∧zh9 kt ft fs2 kt2 ft2 fe (ds.drop (i+1)) th=some rest∧acc++rest=xs∧H' Dd=some (.lst vs)∧Reps X.K (hide (Dd::F') H') acc vs∧Same H1 H'∧Good (Dd::F') H',
       fun σ' H' q=>⟨m,zbj2 m,q⟩,fun x H2 y=>?_⟩
      obtain⟨gs2,d,hd,rd⟩:=src.yld _ _ i x H2 gg RR.mu y hil
      have ed:ds.drop i=d::ds.drop (i+1):=by
       have hd':ds[i]=d:=by
        rw [zbd1 hil]at hd
        exact Option.some.inj hd
       rw [← hd']
       exact zbe9 hil
      rw [ed]at ec
      unfold zh9 at ec
      cases k1:kt d th with
      |none=>rw [k1]at ec;cases ec
      |some t1 =>
       rw [k1]at ec
       simp only [zbc8]at ec
       refine hk (Dd::F') σ' H2 [] th t1 d x _ (RR.grow gs2) rd k1 fun σ2 A2 gr2 R2=>?_
       have A20:=zp5 R2 gr2
       subst A20
       cases k2:ft t1 with
       |none=>rw [k2]at ec;cases ec
       |some bb =>
        rw [k2]at ec
        simp only [zbc8]at ec
        refine⟨Dd::F',[],t1,bb,R2,k2,fun H3 gs3=>?_⟩
        cases bb with
        |false =>
         refine iteF ⟨by lia,t1,acc,rest,vs,R2.grow gs3,by simpa using ec,ex,gs3 _ _ (gs2 _ _ hv),Reps.mono (za6 (gs2.trans gs3)) hr,(sm.trans gs2).trans gs3,src.keep _ _ _ _ gg (za6 (gs2.trans gs3))⟩
        |true =>
         simp only [if_true]at ec
         cases k3:fs2 t1 with
         |none=>rw [k3]at ec;cases ec
         |some q2 =>
          obtain⟨b2,ds2⟩:=q2
          rw [k3]at ec
          simp only [zbc8]at ec
          cases k4:zi3 kt2 ft2 fe ds2 t1 with
          |none=>rw [k4]at ec;cases ec
          |some pp =>
           obtain⟨xs1,tE⟩:=pp
           rw [k4]at ec
           simp only [zbc8]at ec
           cases k5:zh9 kt ft fs2 kt2 ft2 fe (ds.drop (i+1)) tE with
           |none=>rw [k5]at ec;cases ec
           |some ys =>
            rw [k5]at ec
            cases ec
            refine iteT ⟨Dd::F',[],t1,b2,ds2,R2.grow gs3,k3,fun J2 H4 Good2 gs4 src2 gd2=>?_⟩
            have gd2:Good2 (Dd::F') H4:=by
             have e9:hidF b2 [] (Dd::F')=Dd::F':=by unfold hidF;split<;>simp
             rw [e9]at gd2;exact gd2
            have s4:=(gs2.trans gs3).trans gs4
            refine⟨fun j k σj Hj=>j+k=ds2.length∧∃tj aj rj vj,RS X.K (Dd::F') Hj [] tj σj∧zi3 kt2 ft2 fe (ds2.drop j) tj=some (rj,tE)∧aj++(rj++ys)=xs∧Hj Dd=some (.lst vj)∧Reps X.K (hide (Dd::F') Hj) aj vj∧Same H1 Hj∧Good (Dd::F') Hj∧Good2 (Dd::F') Hj,
             ⟨ds2.length,by lia,t1,acc,xs1,vs,(R2.grow gs3).grow gs4,by simpa using k4,ex,s4 _ _ hv,Reps.mono (za6 s4) hr,sm.trans s4,src.keep _ _ _ _ gg (za6 s4),gd2⟩,?_⟩
            rintro j k σj Hj ⟨hjk,tj,aj,rj,vj,Rj,ej,exj,hvj,hrj,smj,ggj,gg2⟩
            cases k with
            |zero =>
             have z:j=ds2.length:=by lia
             subst z
             rw [zbk4]at ej
             cases ej
             exact .inl ⟨src2.stop _ _ gg2,by lia,_,aj,ys,vj,Rj,k5,by simpa using exj,hvj,hrj,smj,ggj⟩
            |succ k =>
             have hjl:j<ds2.length:=by lia
             refine .inr ⟨src2.go _ _ j gg2 hjl,fun σj Hj=>j+1+k=ds2.length∧∃tj aj rj vj,RS X.K (Dd::F') Hj [] tj σj∧zi3 kt2 ft2 fe (ds2.drop (j+1)) tj=some (rj,tE)∧aj++(rj++ys)=xs∧Hj Dd=some (.lst vj)∧Reps X.K (hide (Dd::F') Hj) aj vj∧Same H1 Hj∧Good (Dd::F') Hj∧Good2 (Dd::F') Hj,
              fun σ' H' q=>⟨k,zbj2 k,q⟩,fun xj H5 yj=>?_⟩
             obtain⟨gs5,dj,hdj,rdj⟩:=src2.yld _ _ j xj H5 gg2 Rj.mu yj hjl
             have edj:ds2.drop j=dj::ds2.drop (j+1):=by
              have hd':ds2[j]=dj:=by
               rw [zbd1 hjl]at hdj
               exact Option.some.inj hdj
              rw [← hd']
              exact zbe9 hjl
             rw [edj]at ej
             unfold zi3 at ej
             cases w1:kt2 dj tj with
             |none=>rw [w1]at ej;cases ej
             |some t6 =>
              rw [w1]at ej
              simp only [zbc8]at ej
              refine hk2 (Dd::F') σj H5 [] tj t6 dj xj _ (Rj.grow gs5) rdj w1 fun σ6 A6 gr6 R6=>?_
              have A60:=zp5 R6 gr6
              subst A60
              cases w2:ft2 t6 with
              |none=>rw [w2]at ej;cases ej
              |some b6 =>
               rw [w2]at ej
               simp only [zbc8]at ej
               refine⟨Dd::F',[],t6,b6,R6,w2,fun H6 gs6=>?_⟩
               cases b6 with
               |false =>
                exact iteF ⟨by lia,t6,aj,rj,vj,R6.grow gs6,by simpa using ej,exj,gs6 _ _ (gs5 _ _ hvj),Reps.mono (za6 (gs5.trans gs6)) hrj,(smj.trans gs5).trans gs6,src.keep _ _ _ _ ggj (za6 (gs5.trans gs6)),src2.keep _ _ _ _ gg2 (za6 (gs5.trans gs6))⟩
               |true =>
                simp only [if_true]at ej
                cases w3:fe t6 with
                |none=>rw [w3]at ej;cases ej
                |some re =>
                 rw [w3]at ej
                 simp only [zbc8]at ej
                 cases w4:zi3 kt2 ft2 fe (ds2.drop (j+1)) t6 with
                 |none=>rw [w4]at ej;cases ej
                 |some qq =>
                  obtain⟨zs,tz⟩:=qq
                  rw [w4]at ej
                  cases ej
                  refine iteT ⟨Dd::F',[],t6,re,R6.grow gs6,w3,fun v H7 gs7 q7=>⟨vj,gs7 _ _ (gs6 _ _ (gs5 _ _ hvj)),?_,?_⟩⟩
                  ·have l1:=hrj.length
                   have l2:aj.length+(zs.length+1+ys.length)=xs.length:=by rw [← exj];simp;lia
                   exact zbe2 (show vj.length<50000 by lia) (by rw [sizeLine_eq];decide)
                  ·have s7:=(gs5.trans gs6).trans gs7
                   have hu:Same (hide (Dd::F') H7) (hide (Dd::F') (upd H7 Dd (.lst (vj++[v])))):=zi6 (zbc9 ..)
                   have rv:=q7.cleanF ((R6.grow gs6).mu)
                   refine⟨by lia,t6,aj++[re.d],zs,vj++[v],RS.updF ((R6.grow gs6).grow gs7) (zbc9 ..),w4,by simpa using exj,za8,?_,?_,?_,?_⟩
                   ·exact (Reps.mono (fun b o z=>hu _ _ (za6 s7 _ _ z)) hrj).app (Reps.one (Rep.mono hu rv))
                   ·exact fun b o z=>by
                     rw [zb1 (fun w=>by rw [w,hD]at z;cases z)]
                     exact s7 _ _ (smj _ _ z)
                   ·exact src.keep _ _ _ _ ggj (fun b o z=>hu _ _ (za6 s7 _ _ z))
                   ·exact src2.keep _ _ _ _ gg2 (fun b o z=>hu _ _ (za6 s7 _ _ z))
theorem zt1 {X:Cx}{F:List Addr}{elt tg iter tg2 iter2:Expr}{ifs ifs2:List Expr}{scope:Scope}{pos:Pos}{fs fs2:DI}{g g2:TG}{kt kt2:D→Th→Option Th}{ft ft2:DT}{fe:DE} (n:Nat) (cap:List Nat) (N':List Str) (hc:X.calm=true) (hi:PI X tg iter (dI X.K F fs))
  (hg:∀C s₃ H₃ fp pins,PG (blk X N' scope C s₃ H₃ fp pins) tg g) (hk:∀F',TgOk X.K F' g kt) (ht:∀C s₃ H₃ fp pins F',PTs (blk X N' scope C s₃ H₃ fp pins) ifs (dT X.K F' ft))
  (hi2:∀C s₃ H₃ fp pins F',PI (blk X N' scope C s₃ H₃ fp pins) tg2 iter2 (dI X.K F' fs2)) (hg2:∀C s₃ H₃ fp pins,PG (blk X N' scope C s₃ H₃ fp pins) tg2 g2) (hk2:∀F',TgOk X.K F' g2 kt2) (ht2:∀C s₃ H₃ fp pins F',PTs (blk X N' scope C s₃ H₃ fp pins) ifs2 (dT X.K F' ft2))
  (he:∀C s₃ H₃ fp pins F',PE (blk X N' scope C s₃ H₃ fp pins) elt (dE X.K F' fe))
  (hkd:scope.kind=.function:=by rfl) (hcs:zu0 scope.names X.env.kindOf=true:=by rfl) (hN:N'.length=n+cap.length:=by rfl) (hcap:zz6 N' X.N n scope.names 0 cap=true:=by rfl)
  (hs:∀x,foldedSetIterable iter X.env x=pure x:=by intro _;rfl) (hs2:∀C s₃ H₃ fp pins x,foldedSetIterable iter2 (blk X N' scope C s₃ H₃ fp pins).env x=pure x:=by intros;rfl) :
  PE X (.ListComp elt [⟨tg,iter,ifs,0⟩,⟨tg2,iter2,ifs2,0⟩] scope pos) (dE X.K F (zl6 n cap fs kt ft fs2 kt2 ft2 fe)) :=
 PE.imp (pe_compG (g:=g) (zah8 hkd hcs) hc hi hN (fun k j e=>by simpa using zp8 hcap k j e) hg (fun C s₃ H₃ fp pins pins' s σ H Q I ⟨F',q⟩=>ht C s₃ H₃ fp pins F' pins' s σ H Q I q)
  (fun C s₃ H₃ fp pins D=>zau9 rfl rfl (fun pins' s σ H R I ⟨F',q⟩=>hi2 C s₃ H₃ fp pins F' pins' s σ H R I q) (hg2 C s₃ H₃ fp pins) (fun pins' s σ H Q I ⟨F',q⟩=>ht2 C s₃ H₃ fp pins F' pins' s σ H Q I q) (fun pins' s σ H Q I ⟨F',q⟩=>he C s₃ H₃ fp pins F' pins' s σ H Q I q) (hs2 C s₃ H₃ fp pins)) rfl hs) fun _ _ _ h=>zas8 hk hk2 h
section
variable {X:Cx}{F:List Addr}{a b c:Expr}{es:List Expr}{fa fb fc:DE}{pos:Pos}
noncomputable def zac3:List Ev→Option Ev:=fun rs=>match rs with
 |[r]=>(match r.d with
  |.lst ds=>if r.ok||flats ds then some (.nw ds) else none
  |_=>none)
 |_=>none
theorem cd_list:CallD X F (.type "list") zac3:=CallD.of zai2 fun H0 H A xs rs e Q m g q ek hq=>by
 unfold zac3 at ek
 split at ek
 ·rename_i r
  cases q with
  |cons q1 q2 =>
   cases q2
   split at ek
   ·rename_i ds z
    split at ek
    case isFalse=>cases ek
    rename_i c
    cases ek
    obtain⟨p,vs,rfl,h1,h2⟩:=q1.items m g z c
    exact⟨p,vs,rfl,.inl h1,fun l hl=>hq _ _ (zd2 hl) ⟨l,vs,rfl,Same.free g hl,za8,Reps.mono (zn3 hl) h2⟩⟩
   ·cases ek
 ·cases ek
noncomputable def k2I (f:Int→Int→Int):List Ev→Option Ev:=fun rs=>match rs with
 |[r1,r2]=>(match r1.d,r2.d with
  |.int i,.int j=>some (.cl (.int (f i j)))
  |_,_=>none)
 |_=>none
theorem cd_2I {v:Value}{f:Int→Int→Int} (h:zq1 X v (fun xs H Q => ∃i j,xs=[.int i,.int j]∧Q (.int (f i j)) H)):CallD X F v (k2I f):=CallD.of h fun H0 H A xs rs e Q m g q ek hq=>by
 unfold k2I at ek
 split at ek
 ·rename_i r1 r2
  cases q with
  |cons q1 q' =>
   cases q' with
   |cons q2 q3 =>
    cases q3
    split at ek
    ·rename_i i j z1 z2
     cases ek
     have p1:=q1.full
     have p2:=q2.full
     rw [z1]at p1;rw [z2]at p2
     cases zf5 p1;cases zf5 p2
     exact⟨i,j,rfl,hq _ H (Same.refl H) (.int _)⟩
    ·cases ek
 ·cases ek
theorem cd_min (hc:X.calm=true):CallD X F (.builtin "min") (k2I fun i j=>if j<i then j else i):=cd_2I (zbb6 hc)
end
end DL
namespace DL
open PySem.Spec L2
section
variable {X:Cx}{F:List Addr}{a b c:Expr}{es:List Expr}{fa fb fc:DE}{g:DS}{pos:Pos}{tg:Expr}{gt:TG}{kt:D→Th→Option Th}
noncomputable def dCh (k k':Ev→Ev→Option Ev) (fa fb fc:DE):DT:=fun t=>(fa t).bind fun r1=>(fb t).bind fun r2=>(k r1 r2).bind fun r=>match r.d with
 |.bl true=>(fc t).bind fun r3=>(k' r2 r3).bind fun r'=>match r'.d with
  |.bl z=>some z
  |_=>none
 |.bl false=>some false
 |_=>none
noncomputable def rK (X:Cx) (F:List Addr) (k:Ev→Ev→Option Ev) (A:List Addr) (H0:Hp):R2:=fun x y H Q=>Lists H0 (A++F)∧Same H0 H∧∃r1 r2 r,RepEv X.K F A H0 H r1 x∧RepEv X.K F A H0 H r2 y∧k r1 r2=some r∧∀z H',Same H H'→RepEv X.K F A H0 H' r z→Q z H'
theorem OpD.toR {f:Value→Value→Sem Value}{k:Ev→Ev→Option Ev} (h:OpD X F f k) (A:List Addr) (H0:Hp):OpR X f (rK X F k A H0) :=
 fun pins s σ H x y v u Q I rx ry ⟨m,gs,r1,r2,r,q1,q2,e,hq⟩=>h pins s σ H0 H A x y v u Q r1 r2 r I m gs rx ry q1 q2 e hq
end
end DL
namespace DL
open PySem.Spec L2
def zj6:List D→Option (List Int)
 |[]=>some []
 |.int i::r=>(zj6 r).map fun ns=>i::ns
 |_::_=>none
theorem zj9:∀ {ds:List D}{ns:List Int},zj6 ds=some ns→ds=ns.map D.int
 |[],ns,e=>by cases e;rfl
 |.int i::r,ns,e=>by
  unfold zj6 at e
  cases e1:zj6 r with
  |none=>rw [e1]at e;cases e
  |some m=>rw [e1]at e;cases e;rw [zj9 e1];rfl
 |.non::r,ns,e=>by cases e
 |.bl _::r,ns,e=>by cases e
 |.str _::r,ns,e=>by cases e
 |.tup _::r,ns,e=>by cases e
 |.lst _::r,ns,e=>by cases e
theorem intsD_map (ns:List Int):zj6 (ns.map D.int)=some ns:=by
 induction ns with
 |nil=>rfl
 |cons n r ih=>simp [zj6,ih]
theorem ze9 {K:zbc5}{H:Hp}:∀ {ns:List Int}{vs:List V},Reps K H (ns.map D.int) vs→vs=ns.map V.int
 |[],_,.nil=>rfl
 |n::r,_,.cons h q=>by cases zf5 h;rw [ze9 q];rfl
section
variable {X:Cx}{F:List Addr}{a b c:Expr}{es:List Expr}{fa fb fc:DE}{pos:Pos}
theorem call_sum (hc:X.calm=true):zq1 X (.builtin "sum") (fun xs H Q => ∃(p:Addr) (ns:List Int),xs=[.ref p]∧SqL X.K H p (ns.map V.int)∧Q (.int ns.sum) H):=by
 intro pins s σ H xs us Q I r h
 obtain⟨p,ns,rfl,hs,q⟩:=h
 obtain⟨u,rfl,ru⟩:=zab0 r
 cases ru
 obtain⟨its,rv,pl,_⟩:=I.list hs
 have hi:IntsAre its ns:=zl4 rv
 obtain⟨ys,e⟩:=hi.allInts.items
 have hl:s.heap.IsList p (intItems ys):=by rw [← e];exact PlainL.isL pl
 refine sum_intListG (I.ok.hd hc) hl fun h' tk t' hk=>⟨.int _,H,I.kept (t':=tk) hk,⟨t',rfl⟩,?_⟩
 have en:=nums_intItems ys
 rw [preSum_eq,List.take_of_length_le (by simp)]
 have e2:numsOf (intItems ys).toList=ns:=by rw [← e];exact hi.numsOf
 rw [← nums_intItems,e2]
 exact q
noncomputable def kSum:List Ev→Option Ev:=fun rs=>match rs with
 |[r]=>(match r.d with
  |.lst ds=>(zj6 ds).map fun ns=>.cl (.int ns.sum)
  |_=>none)
 |_=>none
theorem zbb2 (hc:X.calm=true):CallD X F (.builtin "sum") kSum:=CallD.of (call_sum hc) fun H0 H A xs rs e Q m g q ek hq=>by
 unfold kSum at ek
 split at ek
 ·rename_i r
  cases q with
  |cons q1 q2 =>
   cases q2
   split at ek
   ·rename_i ds z
    cases e1:zj6 ds with
    |none=>rw [e1]at ek;cases ek
    |some ns =>
     rw [e1]at ek
     cases ek
     have p:=q1.full
     rw [z,zj9 e1]at p
     cases p with
     |lst h1 h2 =>
      rw [ze9 h2]at h1
      exact⟨_,ns,rfl,h1,hq _ H (Same.refl H) (.int _)⟩
   ·cases ek
 ·cases ek
end
end DL
namespace DL
open PySem.Spec L2
theorem zac6 (i j:Int):eqD (.int i) (.int j)=decide (i=j):=by
 rw [zbi6,eqD_true];simp
theorem sm_iff {i:Int}:sm i=true↔i.natAbs<bnd:=by simp [sm]
theorem sm_lt {i:Int} (h:i.natAbs<2 ^ 256):sm i=true:=sm_iff.mpr (zbe2 h (by unfold bnd;exact zbl3 (by decide) (by decide)))
theorem zi8 {i:Int} (h1 : -10000000000000000000000000000000000000000000000000000000000000000000000000000<i) (h2:i<10000000000000000000000000000000000000000000000000000000000000000000000000000):sm i=true:=by
 apply sm_lt
 have:(2:Nat) ^ 256=115792089237316195423570985008687907853269984665640564039457584007913129639936:=by decide
 lia
theorem fmod_pos {a b:Int} (h:0<b):0≤a.fmod b∧a.fmod b<b:=by
 rw [Int.fmod_eq_emod_of_nonneg a (by lia)]
 exact⟨Int.emod_nonneg a (by lia),Int.emod_lt_of_pos a h⟩
theorem zc1 {g1 g2:DS}{t t':Th} (h:g1 t=some (.nx t')):dSeq g1 g2 t=g2 t':=by simp [dSeq,h]
theorem seq_rt {g1 g2:DS}{t:Th}{r:Ev} (h:g1 t=some (.rt r)):dSeq g1 g2 t=some (.rt r):=by simp [dSeq,h]
theorem RepDs.length {K:zbc5}{H0 H:Hp}:∀ {ds:List D}{vs:List V}{B:List Addr},RepDs K H0 H ds vs B→vs.length=ds.length
 |_,_,_,.nil=>rfl
 |_,_,_,.cons _ r=>by simp [RepDs.length r]
theorem RepDs.focus {K:zbc5}{H0 H:Hp}:∀ {ds:List D}{vs:List V}{B:List Addr},RepDs K H0 H ds vs B→∀ {j:Nat}{d:D},ds[j]?=some d→∃v B1,vs[j]?=some v∧RepD K H0 H d v B1∧(∀b∈B1,b∈B)∧(B.Nodup→B1.Nodup) ∧
  ∀H0' H' d2 B2,Same H0 H0'→RepD K H0' H' d2 v B2→B2.Sublist B1→(∀q∈B,q∉B1→∀o,H q=some o→H' q=some o)→B.Nodup→∃B',RepDs K H0' H' (ds.set j d2) vs B'∧B'.Sublist B
 |_,_,_,.nil,j,d,e=>by simp at e
 |_,_,_,.cons (v:=v) (B:=B) (C:=C) h r,0,d,e=>by
  simp at e;subst e
  refine⟨v,B,rfl,h,fun b hb=>zbc7 _ hb,fun n=>(zbe0.mp n).1,fun H0' H' d2 B2 s q sb k nd=>⟨B2++C,.cons q (RepDs.mono s r fun p hp o w=>?_),List.Sublist.append sb (List.Sublist.refl _)⟩⟩
  exact k p (zbc4 _ hp) (fun z=>(zbe0.mp nd).2.2 p z p hp rfl) o w
 |_,_,_,.cons (v:=v) (B:=B) (C:=C) h r,j+1,d,e=>by
  obtain⟨v1,B1,a1,a2,a3,a5,a4⟩:=RepDs.focus r (j:=j) (d:=d) (by simpa using e)
  refine⟨v1,B1,by simpa using a1,a2,fun b hb=>zbc4 _ (a3 b hb),fun n=>a5 (zbe0.mp n).2.1,fun H0' H' d2 B2 s q sb k nd=>?_⟩
  have n:=zbe0.mp nd
  obtain⟨B',b1,b2⟩:=a4 H0' H' d2 B2 s q sb (fun q hq=>k q (zbc4 _ hq)) n.2.1
  refine⟨B++B',.cons (RepD.mono s h fun p hp o w=>k p (zbc7 _ hp) (fun z=>n.2.2 p hp p (a3 p z) rfl) o w) b1,List.Sublist.append (List.Sublist.refl _) b2⟩
noncomputable def getP:D→List Int→Option D
 |d,[]=>some d
 |.tup ds,n::ns=>(atI ds n).bind fun x=>getP x ns
 |.lst ds,n::ns=>(atI ds n).bind fun x=>getP x ns
 |_,_::_=>none
noncomputable def putP:D→List Int→D→Option D
 |_,[],e=>some e
 |.tup ds,n::ns,e=>(ixN ds.length n).bind fun j=>(ds[j]?).bind fun x=>(putP x ns e).map fun y=>.tup (ds.set j y)
 |.lst ds,n::ns,e=>(ixN ds.length n).bind fun j=>(ds[j]?).bind fun x=>(putP x ns e).map fun y=>.lst (ds.set j y)
 |_,_::_,_=>none
noncomputable def Reach (K:zbc5) (H:Hp):V→List Int→V→Prop
 |v,[],w=>v=w
 |v,n::ns,w => ∃p vs x,v=.ref p∧(SqL K H p vs∨SqT K H p vs)∧atI vs n=some x∧Reach K H x ns w
theorem zag8:∀ {ds:List D}{j:Nat}{d:D},flats ds=true→ds[j]?=some d→flat d=true
 |[],j,d,_,e=>by simp at e
 |x::xs,0,d,f,e=>by simp [flats]at f;simp at e;subst e;exact f.1
 |x::xs,j+1,d,f,e=>by simp [flats]at f;exact zag8 f.2 (by simpa using e)
theorem flat_at {ds:List D}{n:Int}{d:D} (f:flats ds=true) (e:atI ds n=some d):flat d=true:=by
 unfold L2.atI at e
 cases e1:ixN ds.length n with
 |none=>rw [e1]at e;cases e
 |some j=>rw [e1]at e;exact zag8 f e
theorem zag9:∀(ns:List Int) {d d1:D},flat d=true→getP d ns=some d1→flat d1=true
 |[],d,d1,f,e=>by cases e;exact f
 |n::ns,.tup ds,d1,f,e=>by
  simp only [getP]at e
  cases e1:atI ds n with
  |none=>rw [e1]at e;cases e
  |some x=>rw [e1]at e;exact zag9 ns (flat_at (by simpa [flat] using f) e1) e
 |n::ns,.lst ds,d1,f,e=>by simp [flat]at f
 |n::ns,.non,d1,f,e=>by cases e
 |n::ns,.bl _,d1,f,e=>by cases e
 |n::ns,.int _,d1,f,e=>by cases e
 |n::ns,.str _,d1,f,e=>by cases e
noncomputable def Fin (K:zbc5) (H0 H:Hp) (d:D) (v:V) (B:List Addr) (ns:List Int) (p:Addr) (B1:List Addr):Prop :=
 ∀H0' H' es ws B2 d2,Same H0 H0'→H' p=some (.lst ws)→RepDs K H0' H' es ws B2→B2.Sublist B1→putP d ns (.lst es)=some d2→(∀q∈B,q≠p→∀o,H q=some o→H' q=some o)→B.Nodup→∃B',RepD K H0' H' d2 v B'∧B'.Sublist B
theorem atI_of {α:Type}{xs:List α}{n:Int}{x:α} (e:atI xs n=some x):∃j,ixN xs.length n=some j∧xs[j]?=some x:=by
 unfold L2.atI at e
 cases e1:ixN xs.length n with
 |none=>rw [e1]at e;cases e
 |some j=>rw [e1]at e;exact⟨j,rfl,e⟩
theorem RepD.focus {K:zbc5}{H0 H:Hp} (hs:Same H0 H):∀(ns:List Int) {d:D}{v:V}{B:List Addr}{ds1:List D},RepD K H0 H d v B→B.Nodup→getP d ns=some (.lst ds1) →
  ∃p vs1 B1,Reach K H v ns (.ref p)∧H p=some (.lst vs1)∧RepDs K H0 H ds1 vs1 B1∧p∈B∧(∀b∈B1,b∈B)∧p∉B1∧Fin K H0 H d v B ns p B1
 |[],d,v,B,ds1,h,nd,e=>by
  cases e
  cases h with
  |flat f r=>simp [DL.flat]at f
  |@lst _ p vs C h r =>
   refine⟨p,vs,C,rfl,h,r,zbc9 ..,fun b hb=>zbc6 _ hb,(zbe6.mp nd).1,fun H0' H' es ws B2 d2 s e1 e2 sb e3 k nd=>?_⟩
   cases e3
   exact⟨p::B2,.lst e1 e2,sb.cons₂ _⟩
 |n::ns,d,v,B,ds1,h,nd,e=>by
  cases h with
  |flat f r=>exact absurd (zag9 (n::ns) f e) (by simp [DL.flat])
  |dct _ h r=>simp [getP]at e
  |pdc h=>simp [getP]at e
  |@tup ds p0 vs C h r =>
   simp only [getP]at e
   cases e1:atI ds n with
   |none=>rw [e1]at e;cases e
   |some x =>
    rw [e1]at e
    obtain⟨j,j1,j2⟩:=atI_of e1
    obtain⟨v1,B1,a1,a2,a3,a5,a4⟩:=r.focus j2
    obtain⟨p,vs1,B2,b1,b2,b3,b4,b5,b6,b7⟩:=RepD.focus hs ns a2 (a5 nd) e
    have ea:atI vs n=some v1:=by unfold L2.atI;rw [r.length,j1];exact a1
    refine⟨p,vs1,B2,⟨p0,vs,v1,rfl,.inr (SqT.mono hs h),ea,b1⟩,b2,b3,a3 p b4,fun b hb=>a3 b (b5 b hb),b6,fun H0' H' es ws B3 d2 s e1' e2 sb e3 k nd'=>?_⟩
    simp only [putP,j1,zbc8,j2]at e3
    cases e4:putP x ns (.lst es) with
    |none=>rw [e4]at e3;cases e3
    |some y =>
     rw [e4]at e3
     cases e3
     obtain⟨B',c1,c2⟩:=b7 H0' H' es ws B3 y s e1' e2 sb e4 (fun q hq=>k q (a3 q hq)) (a5 nd')
     obtain⟨B'',c3,c4⟩:=a4 H0' H' y B' s c1 c2 (fun q hq nq=>k q hq fun z=>nq (z ▸ b4)) nd'
     exact⟨B'',.tup (SqT.mono s h) c3,c4⟩
  |@lst ds p0 vs C h r =>
   simp only [getP]at e
   have n0:=zbe6.mp nd
   cases e1:atI ds n with
   |none=>rw [e1]at e;cases e
   |some x =>
    rw [e1]at e
    obtain⟨j,j1,j2⟩:=atI_of e1
    obtain⟨v1,B1,a1,a2,a3,a5,a4⟩:=r.focus j2
    obtain⟨p,vs1,B2,b1,b2,b3,b4,b5,b6,b7⟩:=RepD.focus hs ns a2 (a5 n0.2) e
    have ea:atI vs n=some v1:=by unfold L2.atI;rw [r.length,j1];exact a1
    refine⟨p,vs1,B2,⟨p0,vs,v1,rfl,.inl (SqL.of h),ea,b1⟩,b2,b3,zbc6 _ (a3 p b4),fun b hb=>zbc6 _ (a3 b (b5 b hb)),b6,fun H0' H' es ws B3 d2 s e1' e2 sb e3 k nd'=>?_⟩
    simp only [putP,j1,zbc8,j2]at e3
    cases e4:putP x ns (.lst es) with
    |none=>rw [e4]at e3;cases e3
    |some y =>
     rw [e4]at e3
     cases e3
     obtain⟨B',c1,c2⟩:=b7 H0' H' es ws B3 y s e1' e2 sb e4 (fun q hq=>k q (zbc6 _ (a3 q hq))) (a5 n0.2)
     obtain⟨B'',c3,c4⟩:=a4 H0' H' y B' s c1 c2 (fun q hq nq=>k q (zbc6 _ hq) fun z=>nq (z ▸ b4)) n0.2
     exact⟨p0::B'',.lst (k p0 (zbc9 ..) (fun z=>n0.1 (z ▸ a3 p b4)) _ h) c3,c4.cons₂ _⟩
theorem RSl.focusDp {K:zbc5}{H0 H:Hp}:∀ {t:Th}{σ:L2.St}{A:List Addr},RSl K H0 H t σ A→A.Nodup→∀ {i:Nat}{d:D},t[i]?=some (.dp d)→∃v B,σ[i]?=some (some v)∧(∀b∈B,b∈A)∧B.Nodup∧RepD K H0 H d v B ∧
  ∀H0' H' d2 B2,Same H0 H0'→RepD K H0' H' d2 v B2→B2.Sublist B→(∀q∈A,q∉B→∀o,H q=some o→H' q=some o)→∃A2,RSl K H0' H' (t.set i (.dp d2)) σ A2∧A2.Sublist A:=by
 intro _ _ _ h
 induction h with
 |nil =>
  intro n i d e
  simp at e
 |@no _ _ _ _ r ih =>
  intro n i d e
  cases i with
  |zero =>
   simp at e
  |succ i =>
   obtain⟨v,B,a,b,n',c,k⟩:=ih n (i:=i) (d:=d) (by simpa using e)
   refine⟨v,B,by simpa using a,b,n',c,fun H0' H' d2 B2 s q sb w=>?_⟩
   obtain⟨A2,x,y⟩:=k H0' H' d2 B2 s q sb w
   exact⟨A2,.no x,y⟩
 |@val _ v _ _ _ h r ih =>
  intro n i d e
  cases i with
  |zero =>
   simp at e
  |succ i =>
   obtain⟨v,B,a,b,n',c,k⟩:=ih n (i:=i) (d:=d) (by simpa using e)
   refine⟨v,B,by simpa using a,b,n',c,fun H0' H' d2 B2 s q sb w=>?_⟩
   obtain⟨A2,x,y⟩:=k H0' H' d2 B2 s q sb w
   exact⟨A2,.val (Rep.mono s h) x,y⟩
 |@own p _ _ _ _ _ h1 h2 r ih =>
  intro n i d e
  cases i with
  |zero =>
   simp at e
  |succ i =>
   have n0:=zbe6.mp n
   obtain⟨v,B,a,b,n',c,k⟩:=ih n0.2 (i:=i) (d:=d) (by simpa using e)
   refine⟨v,B,by simpa using a,fun x hx=>zbc6 _ (b x hx),n',c,fun H0' H' d2 B2 s q sb w=>?_⟩
   obtain⟨A2,x,y⟩:=k H0' H' d2 B2 s q sb (fun q hq=>w q (zbc6 _ hq))
   exact⟨p::A2,.own (w p (zbc9 ..) (fun z=>n0.1 (b p z)) _ h1) (Reps.mono s h2) x,y.cons₂ _⟩
 |@dp _ v C _ _ _ h r ih =>
  intro n i d e
  cases i with
  |zero =>
   simp at e;subst e
   have n0:=zbe0.mp n
   refine⟨v,C,rfl,fun x hx=>zbc7 _ hx,n0.1,h,fun H0' H' d2 B2 s q sb w=>?_⟩
   exact⟨_,.dp q (RSl.mono s r fun p hp=>w p (zbc4 _ hp) fun z=>n0.2.2 p z p hp rfl),List.Sublist.append sb (List.Sublist.refl _)⟩
  |succ i =>
   have n0:=zbe0.mp n
   obtain⟨v,B,a,b,n',c,k⟩:=ih n0.2.1 (i:=i) (d:=d) (by simpa using e)
   refine⟨v,B,by simpa using a,fun x hx=>zbc4 _ (b x hx),n',c,fun H0' H' d2 B2 s q sb w=>?_⟩
   obtain⟨A2,x,y⟩:=k H0' H' d2 B2 s q sb (fun q hq=>w q (zbc4 _ hq))
   exact⟨C++A2,.dp (RepD.mono s h fun p hp=>w p (zbc7 _ hp) fun z=>n0.2.2 p hp p (b p z) rfl) x,List.Sublist.append (List.Sublist.refl _) y⟩
theorem RS.place {K:zbc5}{F A:List Addr}{H:Hp}{t:Th}{σ:L2.St}{i:Nat}{d:D}{ns:List Int}{ds1:List D} (R:RS K F H A t σ) (e:t[i]?=some (.dp d)) (e1:getP d ns=some (.lst ds1)) :
  ∃v p vs1 B1,σ[i]?=some (some v)∧Reach K H v ns (.ref p)∧H p=some (.lst vs1)∧RepDs K (hide (A++F) H) H ds1 vs1 B1∧p∉B1∧p∈A ∧
   ∀H1 es ws B2 d2,Same H H1→(∀H',(∀q,q≠p→H' q=H1 q)→Same (hide (A++F) H) (hide (A++F) H')→RepDs K (hide (A++F) H') H' es ws B2)→B2.Sublist B1→putP d ns (.lst es)=some d2 →
    ∃A2,RS K F (L2.upd H1 p (.lst ws)) A2 (t.set i (.dp d2)) σ∧Gr A H A2 (L2.upd H1 p (.lst ws)):=by
 obtain⟨v,B,a1,a2,a3,a4,a5⟩:=R.rel.focusDp R.nd e
 obtain⟨p,vs1,B1,b1,b2,b3,b4,b5,b6,b7⟩:=a4.focus (zb0 _ _) ns a3 e1
 refine⟨v,p,vs1,B1,a1,b1,b2,b3,b6,a2 p b4,fun H1 es ws B2 d2 gs mk sb ep=>?_⟩
 have pA:p∈A:=a2 p b4
 have hh:Same (hide (A++F) H) (hide (A++F) (L2.upd H1 p (.lst ws))):=fun b o q=>by
  obtain⟨n,q⟩:=zg2 q
  have nb:b≠p:=fun z=>n (zbc7 _ (z ▸ pA))
  exact zb9 (by rw [zb1 nb];exact gs _ _ q) n
 have kp:∀q∈A,q≠p→∀o,H q=some o→L2.upd H1 p (.lst ws) q=some o:=fun q _ n o h=>by rw [zb1 n];exact gs _ _ h
 obtain⟨B',c1,c2⟩:=b7 (hide (A++F) (L2.upd H1 p (.lst ws))) (L2.upd H1 p (.lst ws)) es ws B2 d2 hh za8 (mk _ (fun q n=>zb1 n) hh) sb ep (fun q hq=>kp q (a2 q hq)) a3
 obtain⟨A2,d1,d3⟩:=a5 _ _ d2 B' hh c1 c2 (fun q hq nq=>kp q hq fun z=>nq (z ▸ b4))
 have sub:∀x∈A2,x∈A:=fun x hx=>d3.subset hx
 have mu:Lists (L2.upd H1 p (.lst ws)) (A++F):=fun q hq=>by
  by_cases z:q=p
  ·exact⟨mL ws,by rw [z];exact za8⟩
  ·obtain⟨us,w⟩:=R.mu q hq
   exact⟨us,by rw [zb1 z];exact gs _ _ w⟩
 refine⟨A2,⟨fun q hq=>mu q ?_,R.nd.sublist d3,fun q hq=>R.dj q (sub q hq),RSl.mono (za7 _ fun a z=>?_) d1 fun _ _ _ h=>h⟩,fun b o n h=>?_,fun b hb=>?_,fun b hb=>.inl (sub b hb)⟩
 ·exact (zbd0.mp hq).elim (fun z=>zbc7 _ (sub q z)) (fun z=>zbc4 _ z)
 ·exact (zbd0.mp z).elim (fun z=>zbc7 _ (sub a z)) (fun z=>zbc4 _ z)
 ·rw [zb1 (fun z=>n (by rw [z];exact pA))];exact gs _ _ h
 ·obtain⟨us,w⟩:=mu b (zbc7 _ hb)
  rw [w];simp
noncomputable def pthD:List DE→Th→Option (List Int)
 |[],_=>some []
 |f::fs,t=>(f t).bind fun r=>match r.d with
  |.int n=>(pthD fs t).map (n::·)
  |_=>none
theorem zae9 {f:DE}{t:Th}:∀ {fs:List DE}{ns':List Int},pthD (fs++[f]) t=some ns'→∃ns n r,pthD fs t=some ns∧f t=some r∧r.d=.int n∧ns'=ns++[n]
 |[],ns',e=>by
  simp only [zbk9,pthD]at e
  cases e1:f t with
  |none=>rw [e1]at e;cases e
  |some r =>
   rw [e1]at e
   simp only [zbc8]at e
   split at e
   ·rename_i n z;cases e;exact⟨[],n,r,rfl,rfl,z,rfl⟩
   ·cases e
 |g::fs,ns',e=>by
  simp only [zbt3,pthD]at e
  cases e1:g t with
  |none=>rw [e1]at e;cases e
  |some r =>
   rw [e1]at e
   simp only [zbc8]at e
   split at e
   ·rename_i n z
    cases e2:pthD (fs++[f]) t with
    |none=>rw [e2]at e;cases e
    |some ms =>
     rw [e2]at e
     cases e
     obtain⟨ns,m,r',a1,a2,a3,a4⟩:=zae9 e2
     refine⟨n::ns,m,r',?_,a2,a3,by rw [a4];rfl⟩
     simp only [pthD,e1,zbc8,z,a1];rfl
   ·cases e
theorem Reach.snoc {K:zbc5}{H:Hp}{n:Int}{w:V}:∀ {ns:List Int}{v:V},Reach K H v (ns++[n]) w→∃p vs,Reach K H v ns (.ref p)∧(SqL K H p vs∨SqT K H p vs)∧atI vs n=some w
 |[],v,h=>by
  obtain⟨p,vs,x,rfl,h1,h2,h3⟩:=h
  cases h3
  exact⟨p,vs,rfl,h1,h2⟩
 |m::ns,v,h=>by
  obtain⟨p,vs,x,rfl,h1,h2,h3⟩:=h
  obtain⟨p',vs',a1,a2,a3⟩:=Reach.snoc h3
  exact⟨p',vs',⟨p,vs,x,rfl,h1,h2,a1⟩,a2,a3⟩
noncomputable def plE (K:zbc5) (F:List Addr) (i:Nat) (fs:List DE):TE:=fun σ H Q => ∃A t v ns w,RS K F H A t σ∧pthD fs t=some ns∧σ[i]?=some (some v)∧Reach K H v ns w∧∀H',Same H H'→Q w H'
section
variable {X:Cx}{F:List Addr}{a b c o:Expr}{es:List Expr}{fa fb fc:DE}{fs:List DE}{g g1 g2:DS}{ft fu:DT}{pos:Pos}{st:Stmt}{rest:List Stmt}{tg:Expr}{gt:TG}{kt:D→Th→Option Th}
theorem pl_var (i:Nat) {x:Str} (hN:X.N[i]?=some x:=by rfl) (hv:Vis X.env.scope x:=by first | exact Or.inl rfl | exact Or.inr (Or.inl rfl) |exact Or.inr (Or.inr rfl)) (hd:(x ==("__debug__":Str))=false:=by decide)
  (hcd:(x ==("__classdict__":Str))=false:=by decide):PE X (.Name x pos) (plE X.K F i []):=by
 refine PE.imp (zo5 (i:=i) hN hv hd hcd) ?_
 rintro σ H Q ⟨A,t,v,ns,w,R,e,h1,h2,h⟩
 cases e
 cases h2
 exact⟨v,h1,h H (Same.refl H)⟩
theorem pl_ix {i:Nat} (ha:PE X a (plE X.K F i fs)) (hb:PE X b (dE X.K F fb)) (hs:zal8 b:=by intro _ _;rfl):PE X (.Subscript a b pos) (plE X.K F i (fs++[fb])):=by
 refine PE.imp (pe_ix (ix_list.or ix_tup) ha hb hs) ?_
 rintro σ H Q ⟨A,t,v,ns,w,R,e,h1,h2,h⟩
 obtain⟨ms,n,r,a1,a2,a3,rfl⟩:=zae9 e
 obtain⟨p,vs,b1,b2,b3⟩:=h2.snoc
 refine⟨A,t,v,ms,.ref p,R,a1,h1,b1,fun H1 gs=>⟨A,t,r,R.grow gs,a2,fun y H2 gs2 q=>?_⟩⟩
 have p2:=q.full
 rw [a3]at p2
 cases zf5 p2
 rcases b2 with b2 | b2
 ·exact .inl ⟨p,vs,n,w,rfl,rfl,SqL.mono (gs.trans gs2) b2,b3,h H2 (gs.trans gs2)⟩
 ·exact .inr ⟨p,vs,n,w,rfl,rfl,SqT.mono (gs.trans gs2) b2,b3,h H2 (gs.trans gs2)⟩
noncomputable def zay0 (t:Th) (i:Nat) (ns:List Int) (r:Ev):Option Out:=match t[i]? with
 |some (.dp d)=>match getP d ns with
  |some (.lst ds)=>if flat r.d&&decide (ds.length<100000) then (putP d ns (.lst (ds++[r.d]))).map fun d2=>.nx (t.set i (.dp d2)) else none
  |_=>none
 |_=>none
def zar2 (i:Nat) (fs:List DE) (f:DE):DS:=fun t=>(pthD fs t).bind fun ns=>(f t).bind (zay0 t i ns)
theorem RepDs.app1 {K:zbc5}{H0 H:Hp}{d:D}{v:V} (q:RepD K H0 H d v []):∀ {ds:List D}{vs:List V}{B:List Addr},RepDs K H0 H ds vs B→RepDs K H0 H (ds++[d]) (vs++[v]) B
 |_,_,_,.nil=>.cons (B:=[]) (C:=[]) q .nil
 |_,_,_,.cons h r=>.cons h (RepDs.app1 q r)
theorem Rep.off {K:zbc5}{H1 H':Hp}{P:List Addr}{p:Addr}{d:D}{v:V}{vs:List V} (m:Lists H1 P) (hp:H1 p=some (.lst vs)) (k:∀q,q≠p→H' q=H1 q) (f:flat d=true) (r:Rep K H1 d v):Rep K (hide P H') d v:=by
 have:=Rep.hid (P:=p::P) (fun b hb=>by
  rcases zbd2.mp hb with rfl | hb
  ·exact⟨mL vs,hp⟩
  ·exact m b hb) f r
 refine Rep.mono (fun b o h=>?_) this
 obtain⟨n,h⟩:=zg2 h
 exact zb9 (by rw [k b fun z=>n (z ▸ zbc9 ..)];exact h) fun z=>n (zbc6 _ z)
theorem psd_appP (i:Nat) {apos cpos:Pos} (ho:PE X o (plE X.K F i fs)) (he:PE X a (dE X.K F fa)) (hst:zbe3 [a] X.env=[(false,eval a X.env)]:=by rfl)
  (hbase:attributeBase o "append" X.env (eval o X.env)=eval o X.env:=by rfl)
  (hfew:((zbj4 cpos (zbe3 [a] X.env)).all (fun x=>!x.1)&&(backToKw cpos (keywordEach [] X.env)).all (fun x=>x.1.isSome)
   && decide ([a].length+([]:List Keyword).length+(if ([]:List Keyword).isEmpty then 0 else 1)<30))=true:=by rfl)
  (hline:(apos.endLine == cpos.line)=true:=by rfl) (hplain:(zbj4 cpos (zbe3 [] X.env)).any (·.1)=false:=by rfl)
  (hsw:swapsWith (.Call (.Attribute o "append" apos) [a] [] cpos) none pos.line X.env=pure false:=by rfl) :
  PS X (.Expr (.Call (.Attribute o "append" apos) [a] [] cpos) pos) (dS X.K F (zar2 i fs fa)):=by
 refine PS.imp (zv9 (zaq2 zbg6 zbl6 zbl7 zl1 ho (zf0 he zi1 hst) hbase hfew hline hst hplain) hsw) ?_
 rintro E σ H ⟨A,t,o,R,e,h⟩
 unfold zar2 at e
 cases e0:pthD fs t with
 |none=>rw [e0]at e;cases e
 |some ns =>
 cases e1:fa t with
 |none=>rw [e0,e1]at e;cases e
 |some r =>
  rw [e0,e1]at e
  have e:zay0 t i ns r=some o:=e
  unfold zay0 at e
  split at e
  case h_2=>cases e
  rename_i d z
  split at e
  case h_2=>cases e
  rename_i ds z1
  split at e
  case isFalse=>cases e
  rename_i ok
  simp only [zbd8,decide_eq_true_eq]at ok
  cases e3:putP d ns (.lst (ds++[r.d])) with
  |none=>rw [e3]at e;cases e
  |some d2 =>
   rw [e3]at e
   cases e
   obtain⟨v,p,vs1,B1,a1,a2,a3,a4,a5,a6,a7⟩:=R.place z z1
   refine⟨A,t,v,ns,.ref p,R,e0,a1,a2,fun H1 gs=>⟨.inl ⟨rfl,vs1,SqL.of (gs _ _ a3)⟩,A,t,r,R.grow gs,e1,fun y H2 gs2 q=>⟨p,vs1,y,rfl,rfl,gs2 _ _ (gs _ _ a3),?_,?_⟩⟩⟩
   ·have:vs1.length<100000:=by rw [a4.length];exact ok.2
    exact zbe2 this (by rw [sizeLine_eq];decide)
   ·have g2:=gs.trans gs2
    obtain⟨A2,R2,gr⟩:=a7 H2 (ds++[r.d]) (vs1++[y]) B1 d2 g2 (fun H' k hh=>by
     refine RepDs.app1 (.flat ok.1 (Rep.off (R.mu.mono g2) (g2 _ _ a3) k ok.1 q.full)) (RepDs.mono hh a4 fun b hb o w=>?_)
     rw [k b fun z=>a5 (z ▸ hb)]
     exact g2 _ _ w) (List.Sublist.refl _) e3
    exact h _ _ _ gr R2
end
end DL
namespace DL
open PySem.Spec L2
noncomputable def toDn:Ev→Option D
 |.cl d=>if flat d then some d else none
 |.tm d=>if flat d then some d else none
 |.nw xs=>if flats xs then some (.lst xs) else none
 |.dn d=>some d
theorem RepEv.toDn {K:zbc5}{F A:List Addr}{H H':Hp}{r:Ev}{v:V}{d:D} (m:Lists H (A++F)) (g:Same H H') (h:RepEv K F A H H' r v) (e:toDn r=some d):RepEv K F A H H' (.dn d) v:=by
 cases r with
 |cl d0 =>
  simp only [DL.toDn]at e
  split at e
  ·rename_i f;cases e
   exact⟨[],zbg4,fun b hb=>(by cases hb),.flat f h⟩
  ·cases e
 |tm d0 =>
  simp only [DL.toDn]at e
  split at e
  ·rename_i f;cases e
   exact⟨[],zbg4,fun b hb=>(by cases hb),.flat f (Rep.hid (m.mono g) f (Rep.mono (zb0 _ _) h))⟩
  ·cases e
 |nw xs =>
  simp only [DL.toDn]at e
  split at e
  ·rename_i f;cases e
   obtain⟨p,vs,rfl,h1,h2,h3⟩:=h
   exact⟨[p],by simp,fun b hb=>by simp at hb;subst hb;exact h1,.lst h2 (RepDs.of_flat f h3)⟩
  ·cases e
 |dn d0=>cases e;exact h
abbrev DN:=Th→Option (D×List Nat)
abbrev DNs:=Th→Option (List D×List Nat)
def FromN (H:Hp) (t:Th) (σ:L2.St) (I:List Nat) (b:Addr):Prop:=H b=none∨∃i∈I,∃xs,t[i]?=some (.own xs)∧σ[i]?=some (some (.ref b))
noncomputable def dN (K:zbc5) (F:List Addr) (f:DN):TE:=fun σ H Q => ∃A t d I,RS K F H A t σ∧f t=some (d,I)∧∀v H' B,Same H H'→B.Nodup→(∀b∈B,FromN H t σ I b)→RepD K (hide (B++(A++F)) H') H' d v B→Q v H'
noncomputable def dNs (K:zbc5) (F:List Addr) (f:DNs):TA:=fun σ H Q => ∃A t ds I,RS K F H A t σ∧f t=some (ds,I)∧∀vs H' B,Same H H'→B.Nodup→(∀b∈B,FromN H t σ I b)→RepDs K (hide (B++(A++F)) H') H' ds vs B→Q vs H'
theorem RSl.ownUniq {K:zbc5}{H0 H:Hp}{b:Addr}:∀ {t:Th}{σ:L2.St}{A:List Addr},RSl K H0 H t σ A→A.Nodup→∀ {i j:Nat}{xs ys:List D},t[i]?=some (.own xs)→t[j]?=some (.own ys)→σ[i]?=some (some (.ref b))→σ[j]?=some (some (.ref b))→i=j:=by
 intro _ _ _ h
 induction h with
 |nil =>
  intro w0 i j xs ys e1 e2 s1 s2
  simp at e1
 |@no _ _ _ _ r ih =>
  intro n i j xs ys e1 e2 s1 s2
  cases i with
  |zero =>
   simp at e1
  |succ i =>
   cases j with
   |zero =>
    simp at e2
   |succ j =>
    exact congrArg (· + 1) (ih n (i:=i) (j:=j) (xs:=xs) (ys:=ys) (by simpa using e1) (by simpa using e2) (by simpa using s1) (by simpa using s2))
 |@val _ _ _ _ _ _ r ih =>
  intro n i j xs ys e1 e2 s1 s2
  cases i with
  |zero =>
   simp at e1
  |succ i =>
   cases j with
   |zero =>
    simp at e2
   |succ j =>
    exact congrArg (· + 1) (ih n (i:=i) (j:=j) (xs:=xs) (ys:=ys) (by simpa using e1) (by simpa using e2) (by simpa using s1) (by simpa using s2))
 |@own _ _ _ _ _ _ _ _ r ih =>
  intro n i j xs ys e1 e2 s1 s2
  cases i with
  |zero =>
   cases j with
   |zero =>
    exact rfl
   |succ j =>
    obtain⟨p,vs,a1,a2,_⟩:=r.getOwn (i:=j) (ds:=ys) (by simpa using e2)
    simp at s1 s2
    rw [a1]at s2
    simp at s2
    subst s1;subst s2
    exact absurd a2 (zbe6.mp n).1
  |succ i =>
   cases j with
   |zero =>
    obtain⟨p,vs,a1,a2,_⟩:=r.getOwn (i:=i) (ds:=xs) (by simpa using e1)
    simp at s1 s2
    rw [a1]at s1
    simp at s1
    subst s1;subst s2
    exact absurd a2 (zbe6.mp n).1
   |succ j =>
    exact congrArg (· + 1) (ih (zbe6.mp n).2 (i:=i) (j:=j) (xs:=xs) (ys:=ys) (by simpa using e1) (by simpa using e2) (by simpa using s1) (by simpa using s2))
 |@dp _ _ _ _ _ _ _ r ih =>
  intro n i j xs ys e1 e2 s1 s2
  cases i with
  |zero =>
   simp at e1
  |succ i =>
   cases j with
   |zero =>
    simp at e2
   |succ j =>
    exact congrArg (· + 1) (ih (zbe0.mp n).2.1 (i:=i) (j:=j) (xs:=xs) (ys:=ys) (by simpa using e1) (by simpa using e2) (by simpa using s1) (by simpa using s2))
theorem FromN.some {K:zbc5}{F A:List Addr}{H:Hp}{t:Th}{σ:L2.St}{I:List Nat}{b:Addr} (R:RS K F H A t σ) (h:FromN H t σ I b):H b=none∨(b∈A∧∃vs,H b=some (.lst vs)):=by
 rcases h with h | ⟨i,_,xs,e1,e2⟩
 ·exact .inl h
 ·obtain⟨p,vs,a1,a2,a3,_⟩:=R.rel.getOwn e1
  rw [a1]at e2
  simp at e2
  subst e2
  exact .inr ⟨a2,vs,a3⟩
section
variable {X:Cx}{F:List Addr}{a b c o:Expr}{es:List Expr}{fa fb fc:DE}{fs:List DE}{fn:DN}{fns:DNs}{pos:Pos}
noncomputable def nOwn (i:Nat):DN:=fun t=>match t[i]? with
 |some (.own xs)=>if flats xs then some (.lst xs,[i]) else none
 |some (.val d)=>if flat d then some (d,[]) else none
 |_=>none
theorem pn_own (i:Nat) {x:Str} (hN:X.N[i]?=some x:=by rfl) (hv:Vis X.env.scope x:=by first | exact Or.inl rfl | exact Or.inr (Or.inl rfl) |exact Or.inr (Or.inr rfl)) (hd:(x ==("__debug__":Str))=false:=by decide)
  (hcd:(x ==("__classdict__":Str))=false:=by decide):PE X (.Name x pos) (dN X.K F (nOwn i)):=by
 refine PE.imp (zo5 (i:=i) hN hv hd hcd) ?_
 rintro σ H Q ⟨A,t,d,I,R,e,h⟩
 unfold nOwn at e
 split at e
 ·rename_i xs q
  split at e
  ·rename_i f
   cases e
   obtain⟨p,vs,h1,h2,h3,h4⟩:=R.rel.getOwn q
   refine⟨_,h1,h _ H [p] (Same.refl H) (by simp) (fun b hb=>?_) (.lst h3 (RepDs.of_flat f (Reps.hid (fun b hb=>?_) f (Reps.mono (zb0 _ _) h4))))⟩
   ·simp at hb;subst hb
    exact .inr ⟨i,by simp,xs,q,h1⟩
   ·rcases zbd2.mp hb with rfl | hb
    ·exact⟨mL vs,h3⟩
    ·exact R.mu b hb
  ·cases e
 ·rename_i d0 q
  split at e
  ·rename_i f
   cases e
   obtain⟨v,h1,h2⟩:=R.rel.getVal q
   exact⟨v,h1,h v H [] (Same.refl H) zbg4 (fun b hb=>by cases hb) (.flat f h2)⟩
  ·cases e
 ·cases e
def nOf (f:DE):DN:=fun t=>(f t).bind fun r=>(toDn r).map fun d=>(d,[])
theorem pn_of (he:PE X a (dE X.K F fa)):PE X a (dN X.K F (nOf fa)):=by
 refine PE.imp he ?_
 rintro σ H Q ⟨A,t,d,I,R,e,h⟩
 unfold nOf at e
 cases e1:fa t with
 |none=>rw [e1]at e;cases e
 |some r =>
  rw [e1]at e
  simp only [zbc8]at e
  cases e2:toDn r with
  |none=>rw [e2]at e;cases e
  |some d0 =>
   rw [e2]at e
   cases e
   refine⟨A,t,r,R,e1,fun v H' gs q=>?_⟩
   obtain⟨B,b1,b2,b3⟩:=q.toDn R.mu gs e2
   exact h v H' B gs b1 (fun b hb=>.inl (b2 b hb)) b3
def nNil:DNs:=fun _=>some ([],[])
noncomputable def zw5 (f:DN) (g:DNs):DNs:=fun t=>(f t).bind fun q=>(g t).bind fun w=>if q.2.all (fun i=>!w.2.contains i) then some (q.1::w.1,q.2++w.2) else none
theorem zau5:PA X [] (dNs X.K F nNil):=PA.imp zi1 fun σ H Q ⟨A,t,rs,I,R,e,h⟩=>by cases e;exact h [] H [] (Same.refl H) zbg4 (fun b hb=>by cases hb) .nil
theorem zu7 (ha:PE X a (dN X.K F fn)) (hr:PA X es (dNs X.K F fns)) (hs:zbe3 (a::es) X.env=(false,eval a X.env)::zbe3 es X.env:=by rfl):PA X (a::es) (dNs X.K F (zw5 fn fns)):=by
 refine PA.imp (zf0 ha hr hs) ?_
 rintro σ H Q ⟨A,t,ds,I,R,e,h⟩
 unfold zw5 at e
 cases e1:fn t with
 |none=>rw [e1]at e;cases e
 |some q1 =>
  cases e2:fns t with
  |none=>rw [e1,e2]at e;cases e
  |some q2 =>
   obtain⟨d1,I1⟩:=q1
   obtain⟨ds2,I2⟩:=q2
   rw [e1,e2]at e
   simp only [zbc8]at e
   split at e
   case isFalse=>cases e
   rename_i dj
   cases e
   have dj:∀i∈I1,i∉I2:=fun i hi=>by
    have:=zbg8.mp dj i hi
    simpa using this
   refine⟨A,t,d1,I1,R,e1,fun v H1 B1 g1 n1 f1 r1=>⟨A,t,ds2,I2,R.grow g1,e2,fun vs H2 B2 g2 n2 f2 r2=>?_⟩⟩
   have g:=g1.trans g2
   have l1:=r1.lists
   have l1':Lists H2 B1:=l1.mono g2
   have l2:=r2.lists
   have lA:=R.mu.mono g
   refine h _ H2 (B1++B2) g (zbe0.mpr ⟨n1,n2,fun x hx y hy e=>?_⟩) (fun b hb=>?_) (.cons (RepD.hid ((l1'.app l2).app lA) (zb0 _ _) (RepD.mono (za6 g2) r1 fun _ _ _ w=>g2 _ _ w)) (RepDs.hid ((l1'.app l2).app lA) (zb0 _ _) r2))
   ·subst e
    obtain⟨ws,hw⟩:=l1 x hx
    rcases f2 x hy with z | ⟨j,hj,ys,j1,j2⟩
    ·rw [z]at hw;cases hw
    ·rcases f1 x hx with z | ⟨i,hi,xs,i1,i2⟩
     ·obtain⟨p,us,a1,_,a3,_⟩:=R.rel.getOwn j1
      rw [a1]at j2
      simp at j2
      subst j2
      rw [z]at a3;cases a3
     ·have:=R.rel.ownUniq R.nd i1 j1 i2 j2
      subst this
      exact dj i hi hj
   ·rcases zbd0.mp hb with z | z
    ·rcases f1 b z with w | ⟨i,hi,w⟩
     ·exact .inl w
     ·exact .inr ⟨i,zbc7 _ hi,w⟩
    ·rcases f2 b z with w | ⟨i,hi,w⟩
     ·exact .inl (Same.free g1 w)
     ·exact .inr ⟨i,zbc4 _ hi,w⟩
def nTup (g:DNs):DN:=fun t=>(g t).bind fun q=>if q.1.length≤1000 then some (.tup q.1,q.2) else none
theorem pn_tup {x1} (h:PA X es (dNs X.K F fns)):PE X (.Tuple es x1 pos) (dN X.K F (nTup fns)):=by
 refine PE.imp (zav4 h) ?_
 rintro σ H Q ⟨A,t,d,I,R,e,h⟩
 unfold nTup at e
 cases e1:fns t with
 |none=>rw [e1]at e;cases e
 |some q =>
  obtain⟨ds,I'⟩:=q
  rw [e1]at e
  simp only [zbc8]at e
  split at e
  case isFalse=>cases e
  rename_i hl
  cases e
  refine⟨A,t,ds,I,R,e1,fun vs H1 B g1 n1 f1 r1=>⟨by rw [r1.length];exact zk3 (by lia),fun p hp=>?_⟩⟩
  have s1:=zd2 (o:=HO.tup vs) hp
  have np:p∉B++(A++F):=zc4 (r1.lists.app (R.mu.mono g1)) hp
  exact h _ _ B (g1.trans s1) n1 f1 (.tup (SqT.of (zb9 za8 np)) (RepDs.mono (za6 s1) r1 fun _ _ _ w=>s1 _ _ w))
def zak9 (f:DN):DS:=fun t=>(f t).bind fun q=>some (.rt (.dn q.1))
theorem zan0 (ha:PE X a (dN X.K F fn)):PS X (.Return (some a) pos) (dS X.K F (zak9 fn)):=by
 refine PS.imp (zan1 ha) ?_
 rintro E σ H ⟨A,t,o,R,e,h⟩
 unfold zak9 at e
 cases e1:fn t with
 |none=>rw [e1]at e;cases e
 |some q =>
  rw [e1]at e
  cases e
  refine⟨A,t,q.1,q.2,R,e1,fun v H' B gs n1 f1 r1=>h v H' A (Gr.of_same R.mu.left gs) ⟨B,n1,fun b hb=>?_,RepD.mono (za7 H' fun a z=>?_) r1 fun _ _ _ w=>w⟩⟩
  ·rcases (f1 b hb).some R with z | ⟨z,_⟩
   ·exact⟨.inr z,fun w=>zc4 R.mu z (zbc4 _ w)⟩
   ·exact⟨.inl z,R.dj b z⟩
  ·exact (zbd0.mp z).elim (fun z=>zbc7 _ z) (fun z=>zbc4 _ (zbc4 _ z))
end
end DL
namespace DL
open PySem.Spec L2
theorem RepDs.appD {K:zbc5}{H0 H:Hp}{d:D}{v:V}{C:List Addr} (q:RepD K H0 H d v C):∀ {ds:List D}{vs:List V}{B:List Addr},RepDs K H0 H ds vs B→RepDs K H0 H (ds++[d]) (vs++[v]) (B++C)
 |_,_,_,.nil=>by
  have:=RepDs.cons q .nil
  simpa using this
 |_,_,_,.cons h r=>by
  have:=RepDs.cons h (RepDs.appD q r)
  simpa [zbj9] using this
noncomputable def zf9 (k:D→Th→Option Th) (ft:DT) (fe:DE):List D→Th→Option (List D)
 |[],_=>some []
 |d::ds,t=>(k d t).bind fun t1=>(ft t1).bind fun b=>if b then (fe t1).bind fun r=>(toDn r).bind fun d=>(zf9 k ft fe ds t1).map fun xs=>d::xs else zf9 k ft fe ds t1
noncomputable def zi2 (n:Nat) (cap:List Nat) (fs:DI) (k:D→Th→Option Th) (ft:DT) (fe:DE):DE:=fun t=>(fs t).bind fun q=>(capD t cap).bind fun c=>if q.2.length≤50000 then (zf9 k ft fe q.2 (zbe8 n Sl.no++c.2.map Sl.val)).map fun xs=>.dn (.lst xs) else none
theorem zy1 {k:D→Th→Option Th}{ft:DT}{fe:DE}:∀ {ds:List D}{t:Th}{xs:List D},zf9 k ft fe ds t=some xs→xs.length≤ds.length
 |[],t,xs,e=>by cases e;simp
 |d::ds,t,xs,e=>by
  unfold zf9 at e
  cases e1:k d t with
  |none=>rw [e1]at e;cases e
  |some t1 =>
   rw [e1]at e
   have e:((ft t1).bind fun b=>if b then (fe t1).bind fun r=>(toDn r).bind fun d=>(zf9 k ft fe ds t1).map fun xs=>d::xs else zf9 k ft fe ds t1)=some xs:=e
   cases e2:ft t1 with
   |none=>rw [e2]at e;cases e
   |some b =>
    rw [e2]at e
    cases b with
    |false=>have:=zy1 (ds:=ds) (t:=t1) e;simp;lia
    |true =>
     have e:((fe t1).bind fun r=>(toDn r).bind fun d=>(zf9 k ft fe ds t1).map fun xs=>d::xs)=some xs:=e
     cases e3:fe t1 with
     |none=>rw [e3]at e;cases e
     |some r =>
      rw [e3]at e
      have e:((toDn r).bind fun d=>(zf9 k ft fe ds t1).map fun xs=>d::xs)=some xs:=e
      cases e5:toDn r with
      |none=>rw [e5]at e;cases e
      |some d0 =>
       rw [e5]at e
       have e:((zf9 k ft fe ds t1).map fun xs=>d0::xs)=some xs:=e
       cases e4:zf9 k ft fe ds t1 with
       |none=>rw [e4]at e;cases e
       |some ys=>rw [e4]at e;cases e;have:=zy1 e4;simp;lia
theorem zad9 {X:Cx}{F:List Addr}{n:Nat}{cap:List Nat}{fs:DI}{g:TG}{kt:D→Th→Option Th}{ft:DT}{fe:DE} (hk:∀F',TgOk X.K F' g kt) {σ:L2.St}{H:Hp}{Q:VK} (h:dE X.K F (zi2 n cap fs kt ft fe) σ H Q) :
  zaj1 n cap (dI X.K F fs) g (fun σ H Q => ∃F',dT X.K F' ft σ H Q) (fun σ H Q => ∃F',dE X.K F' fe σ H Q) σ H Q:=by
 obtain⟨A,t,r,R,e,h⟩:=h
 unfold zi2 at e
 cases e1:fs t with
 |none=>rw [e1]at e;cases e
 |some q =>
  obtain⟨b,ds⟩:=q
  cases e2:capD t cap with
  |none=>rw [e1,e2]at e;cases e
  |some q2 =>
   obtain⟨c,caps⟩:=q2
   rw [e1,e2]at e
   have e:(if ds.length≤50000 then (zf9 kt ft fe ds (zbe8 n Sl.no++caps.map Sl.val)).map fun xs=>Ev.dn (.lst xs) else none)=some r:=e
   split at e
   case isFalse=>cases e
   rename_i hlen
   cases e3:zf9 kt ft fe ds (zbe8 n Sl.no++caps.map Sl.val) with
   |none=>rw [e3]at e;cases e
   |some xs =>
    rw [e3]at e
    cases e
    have xl:=zy1 e3
    obtain⟨cvs,cv1,cv2⟩:=zs5 R e2
    -- what is hidden from the block,but its own list
    obtain⟨F',F'def⟩:∃F',F'=hidF (b&&c) A F:=⟨_,rfl⟩
    have subF:∀x∈F',x∈A++F:=fun x hx=>by
     rw [F'def]at hx
     unfold hidF at hx
     split at hx
     ·exact hx
     ·exact zbc4 _ hx
    have lessB:∀H:Hp,Same (hide (hidF b A F) H) (hide F' H):=fun H=>za7 H fun x hx=>by
     rw [F'def]at hx
     cases b<;>cases c<;>simp [hidF]at hx ⊢<;>first | exact hx | exact .inr hx | (rcases hx with z | z<;>simp [z])
    have lessC:∀H:Hp,Same (hide (hidF c A F) H) (hide F' H):=fun H=>za7 H fun x hx=>by
     rw [F'def]at hx
     cases b<;>cases c<;>simp [hidF]at hx ⊢<;>first | exact hx | exact .inr hx | (rcases hx with z | z<;>simp [z])
    have wi:zaj1 n cap (dI X.K F fs) g (fun σ H Q => ∃F',dT X.K F' ft σ H Q) (fun σ H Q => ∃F',dE X.K F' fe σ H Q) σ H Q:=by
     refine⟨A,t,b,ds,R,e1,fun J H1 Good gs src gd Dd hD=>?_⟩
     have H1A:Lists H1 (A++F):=R.mu.mono gs
     have st0:Same (hide F' H1) (hide (Dd::F') (upd H1 Dd (.lst []))):=zn3 hD
     refine⟨fun i m σ' H'=>i+m=ds.length∧∃th acc rest vs B,RS X.K (Dd::F') H' [] th σ'∧zf9 kt ft fe (ds.drop i) th=some rest∧acc++rest=xs∧H' Dd=some (.lst vs)∧(RepDs X.K (hide (Dd::F') H') H' acc vs B∧B.Nodup∧Dd∉B∧∀b∈B,H1 b=none)∧Same H1 H'∧Good (Dd::F') H',
      ⟨ds.length,by lia,_,[],xs,[],[],⟨?_,zbg4,fun p hp=>(by cases hp),?_⟩,by simpa using e3,rfl,za8,⟨.nil,zbg4,by simp,by simp⟩,zd2 hD,src.keep _ _ _ _ gd (fun b o z=>st0 _ _ (lessB _ _ _ z))⟩,?_⟩
     ·intro q hq
      have hq:q∈Dd::F':=hq
      rcases zbd2.mp hq with z | z
      ·exact⟨mL [],by rw [z];exact za8⟩
      ·obtain⟨us,w⟩:=H1A q (subF q z)
       exact⟨us,(zd2 hD) _ _ w⟩
     ·unfold capV
      rw [cv1]
      exact RSl.noVals (Reps.mono (fun b o z=>st0 _ _ (lessC H1 _ _ (za6 gs _ _ z))) cv2) n
     ·rintro i m σ' H' ⟨hm,th,acc,rest,vs,B,RR,ec,ex,hv,⟨hr,hnd,hDB,hfr⟩,sm,gg⟩
      cases m with
      |zero =>
       have z:i=ds.length:=by lia
       subst z
       rw [zbk4]at ec
       cases ec
       rw [zbg7]at ex
       subst ex
       refine .inl ⟨src.stop _ _ gg,h _ H' (gs.trans sm) ⟨Dd::B,zbe6.mpr ⟨hDB,hnd⟩,fun x hx=>?_,.lst hv (RepDs.hid (fun q hq=>?_) (zb0 _ _) hr)⟩⟩
       ·rcases zbd2.mp hx with rfl | z
        ·exact Same.free gs hD
        ·exact Same.free gs (hfr x z)
       ·rcases zbd0.mp hq with z | z
        ·rcases zbd2.mp z with rfl | z
         ·exact⟨mL vs,hv⟩
         ·exact hr.lists q z
        ·obtain⟨us,w⟩:=H1A q z
         exact⟨us,sm _ _ w⟩
      |succ m =>
       have hil:i<ds.length:=by lia
       refine .inr ⟨src.go _ _ i gg hil,fun σ' H'=>i+1+m=ds.length∧∃th acc rest vs B,RS X.K (Dd::F') H' [] th σ'∧zf9 kt ft fe (ds.drop (i+1)) th=some rest∧acc++rest=xs∧H' Dd=some (.lst vs)∧(RepDs X.K (hide (Dd::F') H') H' acc vs B∧B.Nodup∧Dd∉B∧∀b∈B,H1 b=none)∧Same H1 H'∧Good (Dd::F') H',
        fun σ' H' q=>⟨m,zbj2 m,q⟩,fun x H2 y=>?_⟩
       obtain⟨gs2,d,hd,rd⟩:=src.yld _ _ i x H2 gg RR.mu y hil
       have ed:ds.drop i=d::ds.drop (i+1):=by
        have hd':ds[i]=d:=by
         rw [zbd1 hil]at hd
         exact Option.some.inj hd
        rw [← hd']
        exact zbe9 hil
       rw [ed]at ec
       unfold zf9 at ec
       cases k1:kt d th with
       |none=>rw [k1]at ec;cases ec
       |some t1 =>
        rw [k1]at ec
        have ec:((ft t1).bind fun b=>if b then (fe t1).bind fun r=>(toDn r).bind fun d=>(zf9 kt ft fe (ds.drop (i+1)) t1).map fun xs=>d::xs else zf9 kt ft fe (ds.drop (i+1)) t1)=some rest:=ec
        refine hk (Dd::F') σ' H2 [] th t1 d x _ (RR.grow gs2) rd k1 fun σ2 A2 gr2 R2=>?_
        have A20:=zp5 R2 gr2
        subst A20
        cases k2:ft t1 with
        |none=>rw [k2]at ec;cases ec
        |some bb =>
         rw [k2]at ec
         refine⟨Dd::F',[],t1,bb,R2,k2,fun H3 gs3=>?_⟩
         cases bb with
         |false =>
          refine iteF ⟨by lia,t1,acc,rest,vs,B,R2.grow gs3,ec,ex,gs3 _ _ (gs2 _ _ hv),⟨RepDs.mono (za6 (gs2.trans gs3)) hr fun p _ o w=>gs3 _ _ (gs2 _ _ w),hnd,hDB,hfr⟩,(sm.trans gs2).trans gs3,src.keep _ _ _ _ gg (za6 (gs2.trans gs3))⟩
         |true =>
          have ec:((fe t1).bind fun r=>(toDn r).bind fun d=>(zf9 kt ft fe (ds.drop (i+1)) t1).map fun xs=>d::xs)=some rest:=ec
          cases k3:fe t1 with
          |none=>rw [k3]at ec;cases ec
          |some re =>
           rw [k3]at ec
           have ec:((toDn re).bind fun d=>(zf9 kt ft fe (ds.drop (i+1)) t1).map fun xs=>d::xs)=some rest:=ec
           cases k5:toDn re with
           |none=>rw [k5]at ec;cases ec
           |some de =>
           rw [k5]at ec
           have ec:((zf9 kt ft fe (ds.drop (i+1)) t1).map fun xs=>de::xs)=some rest:=ec
           cases k4:zf9 kt ft fe (ds.drop (i+1)) t1 with
           |none=>rw [k4]at ec;cases ec
           |some ys =>
            rw [k4]at ec
            cases ec
            refine iteT ⟨Dd::F',[],t1,re,R2.grow gs3,k3,fun v H4 gs4 q4=>⟨vs,gs4 _ _ (gs3 _ _ (gs2 _ _ hv)),?_,?_⟩⟩
            ·have l1:=hr.length
             have l2:acc.length+(ys.length+1)=xs.length:=by rw [← ex];simp
             exact zbe2 (show vs.length<50000 by lia) (by rw [sizeLine_eq];decide)
            ·have s3:=gs2.trans gs3
             have s4:=s3.trans gs4
             have hu:Same (hide (Dd::F') H4) (hide (Dd::F') (upd H4 Dd (.lst (vs++[v])))):=zi6 (zbc9 ..)
             have mu3:Lists H3 (Dd::F'):=(R2.grow gs3).mu
             obtain⟨B4,n4,f4,r4⟩:=q4.toDn (R2.grow gs3).mu gs4 k5
             have D3:H3 Dd=some (.lst vs):=s3 _ _ hv
             have nD4:Dd∉B4:=fun z=>by rw [f4 _ z]at D3;cases D3
             have off:∀b,b≠Dd→upd H4 Dd (.lst (vs++[v])) b=H4 b:=fun b n=>zb1 n
             refine⟨by lia,t1,acc++[de],ys,vs++[v],B++B4,RS.updF ((R2.grow gs3).grow gs4) (zbc9 ..),k4,by simpa using ex,za8,⟨?_,?_,?_,?_⟩,?_,?_⟩
             ·refine RepDs.appD (RepD.mono hu (RepD.hid (mu3.mono gs4) (zb0 _ _) r4) fun b hb o w=>?_) (RepDs.mono (fun b o z=>hu _ _ (za6 s4 _ _ z)) hr fun b hb o w=>?_)
              ·rw [off b fun z=>nD4 (z ▸ hb)];exact w
              ·rw [off b fun z=>hDB (z ▸ hb)];exact s4 _ _ w
             ·refine zbe0.mpr ⟨hnd,n4,fun x hx y hy e=>?_⟩
              subst e
              obtain⟨us,w⟩:=hr.lists x hx
              have:=s3 _ _ w
              rw [f4 x hy]at this;cases this
             ·intro z
              rcases zbd0.mp z with z | z
              ·exact hDB z
              ·exact nD4 z
             ·intro b hb
              rcases zbd0.mp hb with z | z
              ·exact hfr b z
              ·exact Same.free (sm.trans s3) (f4 b z)
             ·exact fun b o z=>by
               rw [zb1 (fun w=>by rw [w,hD]at z;cases z)]
               exact s4 _ _ (sm _ _ z)
             ·exact src.keep _ _ _ _ gg (fun b o z=>hu _ _ (za6 s4 _ _ z))
    exact wi
theorem zav2 {X:Cx}{F:List Addr}{elt tg iter:Expr}{ifs:List Expr}{scope:Scope}{pos:Pos}{n:Nat}{cap:List Nat}{N':List Str}{fs:DI}{g:TG}{kt:D→Th→Option Th}{ft:DT}{fe:DE} (S:CompSc X scope) (hc:X.calm=true) (hi:PI X tg iter (dI X.K F fs))
  (hN:N'.length=n+cap.length) (hcap:∀(k:Nat) (j:Nat),cap[k]?=some j→∃x,N'[n+k]?=some x∧X.N[j]?=some x∧(x,NameKind.free)∈scope.names)
  (hg:∀C s₃ H₃ fp pins,PG (blk X N' scope C s₃ H₃ fp pins) tg g) (hk:∀F',TgOk X.K F' g kt) (ht:∀C s₃ H₃ fp pins F',PTs (blk X N' scope C s₃ H₃ fp pins) ifs (dT X.K F' ft)) (he:∀C s₃ H₃ fp pins F',PE (blk X N' scope C s₃ H₃ fp pins) elt (dE X.K F' fe))
  (hs:∀x,foldedSetIterable iter X.env x=pure x:=by intro _;rfl):PE X (.ListComp elt [⟨tg,iter,ifs,0⟩] scope pos) (dE X.K F (zi2 n cap fs kt ft fe)) :=
 PE.imp (zav5 (g:=g) S hc hi hN hcap hg (fun C s₃ H₃ fp pins pins' s σ H Q I ⟨F',q⟩=>ht C s₃ H₃ fp pins F' pins' s σ H Q I q) (fun C s₃ H₃ fp pins pins' s σ H Q I ⟨F',q⟩=>he C s₃ H₃ fp pins F' pins' s σ H Q I q) hs) fun _ _ _ h=>zad9 hk h
theorem zz9 {X:Cx}{F:List Addr}{elt tg iter:Expr}{ifs:List Expr}{scope:Scope}{pos:Pos}{fs:DI}{g:TG}{kt:D→Th→Option Th}{ft:DT}{fe:DE} (n:Nat) (cap:List Nat) (N':List Str) (hc:X.calm=true) (hi:PI X tg iter (dI X.K F fs))
  (hg:∀C s₃ H₃ fp pins,PG (blk X N' scope C s₃ H₃ fp pins) tg g) (hk:∀F',TgOk X.K F' g kt) (ht:∀C s₃ H₃ fp pins F',PTs (blk X N' scope C s₃ H₃ fp pins) ifs (dT X.K F' ft)) (he:∀C s₃ H₃ fp pins F',PE (blk X N' scope C s₃ H₃ fp pins) elt (dE X.K F' fe))
  (hkd:scope.kind=.function:=by rfl) (hcs:zu0 scope.names X.env.kindOf=true:=by rfl) (hN:N'.length=n+cap.length:=by rfl) (hcap:zz6 N' X.N n scope.names 0 cap=true:=by rfl)
  (hs:∀x,foldedSetIterable iter X.env x=pure x:=by intro _;rfl):PE X (.ListComp elt [⟨tg,iter,ifs,0⟩] scope pos) (dE X.K F (zi2 n cap fs kt ft fe)) :=
 zav2 (zah8 hkd hcs) hc hi hN (fun k j e=>by simpa using zp8 hcap k j e) hg hk ht he hs
section
variable {X:Cx}{F:List Addr}{a b c o:Expr}{es:List Expr}{fa fb fc:DE}{fs:List DE}{ga:DA}{g g1 g2:DS}{ft fu:DT}{pos:Pos}{st:Stmt}{rest:List Stmt}{tg:Expr}{gt:TG}{kt:D→Th→Option Th}
theorem zat6 {K:zbc5}{H:Hp}{p:Bool}{v:V} (h:Rep K H (.bl p) v):v=.bl p:=by cases h;rfl
noncomputable def kRep:Ev→Ev→Option Ev:=fun r1 r2=>match r1,r2.d with
 |.nw xs,.int k=>if xs.length≤100&&decide (-1000000≤k∧k≤1000) then some (.nw (zbe8 k.toNat xs).flatten) else none
 |_,_=>none
theorem Reps.rep {K:zbc5}{H:Hp}{ds:List D}{vs:List V} (r:Reps K H ds vs):∀k:Nat,Reps K H (zbe8 k ds).flatten (zbe8 k vs).flatten
 |0=>by simpa using .nil
 |k+1=>by simpa [zbi3] using r.app (Reps.rep r k)
theorem zq4:OpD X F (binaryOp .Mult) kRep:=by
 intro pins s σ H0 H A x y v u Q r1 r2 r I m g0 rx ry q1 q2 e hq
 unfold kRep at e
 split at e
 ·rename_i xs k z
  split at e
  ·rename_i ok
   simp only [zbd8,decide_eq_true_eq]at ok
   cases e
   have p2:=q2.full
   rw [z]at p2
   cases zf5 p2
   obtain⟨p,vs,rfl,h1,h2,h3⟩:=q1
   refine op_rep pins s σ H _ _ v u Q I rx ry ⟨p,k,vs,rfl,rfl,h2,by lia,by lia,?_,fun l hl=>hq _ _ (zd2 hl) ⟨l,_,rfl,Same.free g0 hl,za8,Reps.mono (zn3 hl) (Reps.rep (Reps.mono (za7 H fun a z=>zbc6 _ z) h3) _)⟩⟩
   refine zk3 ?_
   rw [h3.length]
   have h5:k.toNat≤1000:=by lia
   exact zbh8 (zbo6 ok.1 h5) (by decide)
  ·cases e
 ·cases e
noncomputable def kExt (t:Th) (i:Nat) (r:Ev):Option Out:=match t[i]?,r with
 |some (.own xs),.nw ys=>if decide (xs.length+ys.length≤100000) then some (.nx (t.set i (.own (xs++ys)))) else none
 |_,_=>none
def dExt (i:Nat) (f:DE):DS:=fun t=>(f t).bind (kExt t i)
theorem psd_ext (i:Nat) {x:Str}{p0 apos cpos:Pos} (he:PE X a (dE X.K F fa)) (hN:X.N[i]?=some x:=by rfl) (hv:Vis X.env.scope x:=by first | exact Or.inl rfl | exact Or.inr (Or.inl rfl) |exact Or.inr (Or.inr rfl)) (hd:(x ==("__debug__":Str))=false:=by decide)
  (hcd:(x ==("__classdict__":Str))=false:=by decide) (hst:zbe3 [a] X.env=[(false,eval a X.env)]:=by rfl)
  (hbase:attributeBase (.Name x p0) "extend" X.env (eval (.Name x p0) X.env)=eval (.Name x p0) X.env:=by rfl)
  (hfew:((zbj4 cpos (zbe3 [a] X.env)).all (fun x=>!x.1)&&(backToKw cpos (keywordEach [] X.env)).all (fun x=>x.1.isSome)
   && decide ([a].length+([]:List Keyword).length+(if ([]:List Keyword).isEmpty then 0 else 1)<30))=true:=by rfl)
  (hline:(apos.endLine == cpos.line)=true:=by rfl) (hplain:(zbj4 cpos (zbe3 [] X.env)).any (·.1)=false:=by rfl)
  (hsw:swapsWith (.Call (.Attribute (.Name x p0) "extend" apos) [a] [] cpos) none pos.line X.env=pure false:=by rfl) :
  PS X (.Expr (.Call (.Attribute (.Name x p0) "extend" apos) [a] [] cpos) pos) (dS X.K F (dExt i fa)):=by
 refine PS.imp (zv9 (zaq2 zbg6 PySem.F.slot_list_extend PySem.F.type_list_extend zaw6 (zo5 (i:=i) hN hv hd hcd) (zf0 he zi1 hst) hbase hfew hline hst hplain) hsw) ?_
 rintro E σ H ⟨A,t,o,R,e,h⟩
 unfold dExt at e
 cases e1:fa t with
 |none=>rw [e1]at e;cases e
 |some r =>
  rw [e1]at e
  have e:kExt t i r=some o:=e
  unfold kExt at e
  split at e
  case h_2=>cases e
  rename_i xs ys z _
  split at e
  case isFalse=>cases e
  rename_i ok
  simp only [decide_eq_true_eq]at ok
  cases e
  obtain⟨p,vs,a1,a2,a3,a4⟩:=R.rel.getOwn z
  refine⟨_,a1,.inl ⟨rfl,vs,SqL.of a3⟩,A,t,_,R,e1,fun y H1 gs q=>?_⟩
  obtain⟨q0,us,rfl,h1,h2,h3⟩:=q
  refine⟨p,q0,vs,us,rfl,rfl,gs _ _ a3,h2,?_,?_⟩
  ·refine zk3 ?_
   rw [a4.length,h3.length];exact ok
  ·obtain⟨R',g'⟩:=(R.grow gs).write (es:=xs++ys) (ws:=vs++us) z a1 ((Reps.mono (za6 gs) a4).app (Reps.mono (za7 H1 fun a z=>zbc6 _ z) h3))
   exact h _ _ _ ((Gr.of_same R.mu.left gs).trans g') R'
def blsD:List D→Option (List Bool)
 |[]=>some []
 |.bl i::r=>(blsD r).map fun ns=>i::ns
 |_::_=>none
theorem zbb8:∀ {ds:List D}{ns:List Bool},blsD ds=some ns→ds=ns.map D.bl
 |[],ns,e=>by cases e;rfl
 |.bl i::r,ns,e=>by
  unfold blsD at e
  cases e1:blsD r with
  |none=>rw [e1]at e;cases e
  |some m=>rw [e1]at e;cases e;rw [zbb8 e1];rfl
 |.non::r,ns,e=>by cases e
 |.int _::r,ns,e=>by cases e
 |.str _::r,ns,e=>by cases e
 |.tup _::r,ns,e=>by cases e
 |.lst _::r,ns,e=>by cases e
theorem zam7 {K:zbc5}{H:Hp}:∀ {ns:List Bool}{vs:List V},Reps K H (ns.map D.bl) vs→vs=ns.map V.bl
 |[],_,.nil=>rfl
 |n::r,_,.cons h q=>by cases zat6 h;rw [zam7 q];rfl
theorem zad1:∀ {bs:List Bool}{its:List Value},Vals (bs.map V.bl) its→LSm.BoolsAre its bs
 |[],its,h=>by cases h;exact .nil
 |b::bs,its,h=>by
  cases h with
  |cons r rr=>cases r;exact .cons b (zad1 rr)
theorem zh8 (hc:X.calm=true):zq1 X (.builtin "all") (fun xs H Q => ∃(p:Addr) (bs:List Bool),xs=[.ref p]∧SqL X.K H p (bs.map V.bl)∧Q (.bl (bs.all id)) H):=by
 intro pins s σ H xs us Q I r h
 obtain⟨p,bs,rfl,hs,q⟩:=h
 obtain⟨u,rfl,ru⟩:=zab0 r
 cases ru
 obtain⟨its,rv,pl,_⟩:=I.list hs
 have hb:=zad1 rv
 have hl:=PlainL.isL pl
 have hlt:p<s.heap.objs.size:=by obtain⟨_,e,_⟩:=hl;exact zbe4 e
 refine call_all_walk (wpAny_pyIter_list hl ⟨s.heap.objs.size,[s.heap.objs.size,p],[s.heap.objs.size],its.toArray.size,_,_,fun i=>(bs[i]?).getD true,rfl,
  Walks.list (A:=X.A.in1) (I.ok.hd hc) _ p (zbf5 hlt) its.toArray,⟨⟨_,zbf7 _ rfl,rfl,rfl⟩,hl.push _⟩,fun i v s' Q' E' hP hQ=>?_,fun h' tk hk=>?_⟩)
 ·obtain⟨b,e,rfl⟩:=hb.get i v (by simpa using hP)
  have hQ:Q' ((bs[i]?).getD true) s':=hQ
  rw [e]at hQ
  exact wpAny_truthy_bool hQ
 ·have e:((zbf2 its.toArray.size).all fun i=>(bs[i]?).getD true)=bs.all id:=by
   rw [zbe7,hb.length,LSm.range_all]
  refine⟨.bl _,H,I.kept (t':=tk) (LSm.kept_iter hk),rfl,?_⟩
  rw [e];exact q
theorem zz7 (hc:X.calm=true):zq1 X (.builtin "any") (fun xs H Q => ∃(p:Addr) (bs:List Bool),xs=[.ref p]∧SqL X.K H p (bs.map V.bl)∧Q (.bl (bs.any id)) H):=by
 intro pins s σ H xs us Q I r h
 obtain⟨p,bs,rfl,hs,q⟩:=h
 obtain⟨u,rfl,ru⟩:=zab0 r
 cases ru
 obtain⟨its,rv,pl,_⟩:=I.list hs
 have hb:=zad1 rv
 have hl:=PlainL.isL pl
 have hlt:p<s.heap.objs.size:=by obtain⟨_,e,_⟩:=hl;exact zbe4 e
 refine call_any_walk (wpAny_pyIter_list hl ⟨s.heap.objs.size,[s.heap.objs.size,p],[s.heap.objs.size],its.toArray.size,_,_,fun i=>(bs[i]?).getD false,rfl,
  Walks.list (A:=X.A.in1) (I.ok.hd hc) _ p (zbf5 hlt) its.toArray,⟨⟨_,zbf7 _ rfl,rfl,rfl⟩,hl.push _⟩,fun i v s' Q' E' hP hQ=>?_,fun h' tk hk=>?_⟩)
 ·obtain⟨b,e,rfl⟩:=hb.get i v (by simpa using hP)
  have hQ:Q' ((bs[i]?).getD false) s':=hQ
  rw [e]at hQ
  exact wpAny_truthy_bool hQ
 ·have e:((zbf2 its.toArray.size).any fun i=>(bs[i]?).getD false)=bs.any id:=by
   rw [zbe7,hb.length,LSm.range_any]
  refine⟨.bl _,H,I.kept (t':=tk) (LSm.kept_iter hk),rfl,?_⟩
  rw [e];exact q
noncomputable def kBls (f:List Bool→Bool):List Ev→Option Ev:=fun rs=>match rs with
 |[r]=>(match r.d with
  |.lst ds=>(blsD ds).map fun bs=>.cl (.bl (f bs))
  |_=>none)
 |_=>none
theorem zai1 {id':String}{f:List Bool→Bool} (h:zq1 X (.builtin id') (fun xs H Q => ∃(p:Addr) (bs:List Bool),xs=[.ref p]∧SqL X.K H p (bs.map V.bl)∧Q (.bl (f bs)) H)):CallD X F (.builtin id') (kBls f):=by
 refine CallD.of h fun H0 H A xs rs e Q m g q ek hq=>?_
 unfold kBls at ek
 split at ek
 case h_2=>cases ek
 rename_i r
 cases q with
 |@cons _ v _ vs q1 q2 =>
  cases q2
  split at ek
  case h_2=>cases ek
  rename_i ds z
  cases e1:blsD ds with
  |none=>rw [e1]at ek;cases ek
  |some bs =>
   rw [e1]at ek
   cases ek
   have p:=q1.full
   rw [z,zbb8 e1]at p
   cases p with
   |@lst _ l us h1 h2 =>
    have:=zam7 h2
    subst this
    exact⟨l,bs,rfl,h1,hq _ H (Same.refl H) (.bl _)⟩
end
end DL
namespace DL
open PySem.Spec L2
def zv6 (a b c:Int):Bool:=Builtin.Range.small a b c&&decide (c≠0∧c.natAbs<1000000∧0≤Builtin.Range.rangeSize a b c)
def rng3 (a b c:Int):List D:=(zbf2 (Builtin.Range.rangeSize a b c).toNat).map fun i=>.int (a+(i:Nat)*c)
def mkG (k:Nat) (N:List Str) (g:DS):List D→Option Ev:=fun ds=>if ds.length=k then (g (zr6 N ds)).bind zg9 else none
theorem ze1 {k:Nat}{N:List Str}{g:DS}{ds:List D}{r:Ev} (e:mkG k N g ds=some r):ds.length=k:=by
 unfold mkG at e
 split at e
 ·assumption
 ·cases e
theorem zf8 {k:Nat}{N:List Str}{g:DS}{ds:List D}{r:Ev} (e:mkG k N g ds=some r):∃o,g (zr6 N ds)=some o∧zg9 o=some r:=by
 unfold mkG at e
 split at e
 ·cases e1:g (zr6 N ds) with
  |none=>rw [e1]at e;cases e
  |some o=>rw [e1]at e;exact⟨o,rfl,e⟩
 ·cases e
section
variable {X:Cx}{F:List Addr}{elt tg iter:Expr}{ifs:List Expr}{scope:Scope}{pos spos py:Pos}{fs:DI}{g:TG}{kt:D→Th→Option Th}{ft:DT}{fe fc:DE}{i:Nat}{y:Str}
theorem compU {n:Nat}{cap:List Nat}{N':List Str} (up:∀ {σ:L2.St}{H:Hp}{Q:VK},dE X.K F fc σ H Q→zaj1 n cap (dI X.K F fs) g (fun σ H Q => ∃F',dT X.K F' ft σ H Q) (fun σ H Q => ∃F',dE X.K F' fe σ H Q) σ H Q) (hc:X.calm=true) (hi:PI X tg iter (dI X.K F fs))
  (hg:∀C s₃ H₃ fp pins,PG (blk X N' scope C s₃ H₃ fp pins) tg g) (ht:∀C s₃ H₃ fp pins F',PTs (blk X N' scope C s₃ H₃ fp pins) ifs (dT X.K F' ft)) (he:∀C s₃ H₃ fp pins F',PE (blk X N' scope C s₃ H₃ fp pins) elt (dE X.K F' fe))
  (hNd:X.N.Nodup) (hi₀:X.N[i]?=some y) (hy:Loc X.env.scope y) (hsw:swapsWith (.ListComp elt [⟨tg,iter,ifs,0⟩] scope pos) (some (.Name y py)) spos.line X.env=pure true) (hf:X.fn y=true∨X.env.scope.names.lookup y=some .local)
  (hkd:scope.kind=.function) (hcs:zu0 scope.names X.env.kindOf=true) (hN:N'.length=n+cap.length) (hcap:zz6 N' X.N n scope.names 0 cap=true) (hs:∀x,foldedSetIterable iter X.env x=pure x) :
  PS X (.Assign [.Name y py] (.ListComp elt [⟨tg,iter,ifs,0⟩] scope pos) spos) (dS X.K F (dAsg i fc)):=by
 refine PS.imp (ps_compU (g:=g) (wi:=dI X.K F fs) (tt:=fun σ H Q => ∃F',dT X.K F' ft σ H Q) (te:=fun σ H Q => ∃F',dE X.K F' fe σ H Q) (zah8 hkd hcs) hc hi hN (fun k j e=>by simpa using zp8 hcap k j e) hg (fun C s₃ H₃ fp pins pins' s σ H Q I ⟨F',q⟩=>ht C s₃ H₃ fp pins F' pins' s σ H Q I q) (fun C s₃ H₃ fp pins pins' s σ H Q I ⟨F',q⟩=>he C s₃ H₃ fp pins F' pins' s σ H Q I q) hNd hi₀ hy hsw hf hs) ?_
 rintro E σ H ⟨A,t,o,R,e,h⟩
 unfold dAsg at e
 cases e1:fc t with
 |none=>rw [e1]at e;cases e
 |some r1 =>
  rw [e1]at e
  have e:(zm0 t i r1).map Out.nx=some o:=e
  cases e2:zm0 t i r1 with
  |none=>rw [e2]at e;cases e
  |some t' =>
   rw [e2]at e
   cases e
   refine up ⟨A,t,r1,R,e1,fun v H' gs q=>?_⟩
   obtain⟨A',g',R'⟩:=R.put gs q e2
   exact h _ _ _ g' R'
theorem psd_setC (n:Nat) (cap:List Nat) (N':List Str) (hNd:X.N.Nodup) (hi₀:X.N[i]?=some y) (hy:Loc X.env.scope y) (hc:X.calm=true) (hi:PI X tg iter (dI X.K F fs))
  (hg:∀C s₃ H₃ fp pins,PG (blk X N' scope C s₃ H₃ fp pins) tg g) (hk:∀F',TgOk X.K F' g kt) (ht:∀C s₃ H₃ fp pins F',PTs (blk X N' scope C s₃ H₃ fp pins) ifs (dT X.K F' ft)) (he:∀C s₃ H₃ fp pins F',PE (blk X N' scope C s₃ H₃ fp pins) elt (dE X.K F' fe))
  (hsw:swapsWith (.ListComp elt [⟨tg,iter,ifs,0⟩] scope pos) (some (.Name y py)) spos.line X.env=pure true:=by rfl) (hf:X.fn y=true∨X.env.scope.names.lookup y=some .local:=by first | exact .inl rfl | exact .inr rfl)
  (hkd:scope.kind=.function:=by rfl) (hcs:zu0 scope.names X.env.kindOf=true:=by rfl) (hN:N'.length=n+cap.length:=by rfl) (hcap:zz6 N' X.N n scope.names 0 cap=true:=by rfl)
  (hs:∀x,foldedSetIterable iter X.env x=pure x:=by intro _;rfl):PS X (.Assign [.Name y py] (.ListComp elt [⟨tg,iter,ifs,0⟩] scope pos) spos) (dS X.K F (dAsg i (ze4 n cap fs kt ft fe))) :=
 compU (fun h=>zam3 hk h) hc hi hg ht he hNd hi₀ hy hsw hf hkd hcs hN hcap hs
theorem zau3 (n:Nat) (cap:List Nat) (N':List Str) (hNd:X.N.Nodup) (hi₀:X.N[i]?=some y) (hy:Loc X.env.scope y) (hc:X.calm=true) (hi:PI X tg iter (dI X.K F fs))
  (hg:∀C s₃ H₃ fp pins,PG (blk X N' scope C s₃ H₃ fp pins) tg g) (hk:∀F',TgOk X.K F' g kt) (ht:∀C s₃ H₃ fp pins F',PTs (blk X N' scope C s₃ H₃ fp pins) ifs (dT X.K F' ft)) (he:∀C s₃ H₃ fp pins F',PE (blk X N' scope C s₃ H₃ fp pins) elt (dE X.K F' fe))
  (hsw:swapsWith (.ListComp elt [⟨tg,iter,ifs,0⟩] scope pos) (some (.Name y py)) spos.line X.env=pure true:=by rfl) (hf:X.fn y=true∨X.env.scope.names.lookup y=some .local:=by first | exact .inl rfl | exact .inr rfl)
  (hkd:scope.kind=.function:=by rfl) (hcs:zu0 scope.names X.env.kindOf=true:=by rfl) (hN:N'.length=n+cap.length:=by rfl) (hcap:zz6 N' X.N n scope.names 0 cap=true:=by rfl)
  (hs:∀x,foldedSetIterable iter X.env x=pure x:=by intro _;rfl):PS X (.Assign [.Name y py] (.ListComp elt [⟨tg,iter,ifs,0⟩] scope pos) spos) (dS X.K F (dAsg i (zi2 n cap fs kt ft fe))) :=
 compU (fun h=>zad9 hk h) hc hi hg ht he hNd hi₀ hy hsw hf hkd hcs hN hcap hs
end
end DL
namespace DL
open PySem.Spec L2
section
variable {X:Cx}{F:List Addr}{a b c o:Expr}{es:List Expr}{fa fb fc:DE}{fs:List DE}{ga:DA}{g g1 g2:DS}{ft fu:DT}{pos:Pos}{st:Stmt}{rest:List Stmt}{tg:Expr}{gt:TG}{kt:D→Th→Option Th}
noncomputable def kNin:Ev→Ev→Option Ev:=fun r1 r2=>match r2.d with
 |.lst ds=>if scD r1.d&&ds.all (fun d=>scD d&&eqOk 0 d r1.d) then some (.cl (.bl (!ds.any fun d=>eqD d r1.d))) else none
 |.tup ds=>if scD r1.d&&ds.all (fun d=>scD d&&eqOk 0 d r1.d) then some (.cl (.bl (!ds.any fun d=>eqD d r1.d))) else none
 |_=>none
theorem od_nin:OpD X F (compareOp .NotIn) kNin:=by
 intro pins s σ H0 H A x y v u Q r1 r2 r I m g0 rx ry q1 q2 e hq
 unfold kNin at e
 have p1:=q1.full
 have p2:=q2.full
 split at e
 ·rename_i ds z
  rw [z]at p2
  split at e
  case isFalse=>cases e
  rename_i c
  rw [zbd8]at c
  cases e
  cases p2 with
  |@lst _ p vs h1 h2 =>
   obtain⟨a,b⟩:=in_D p1 c.1 h2 c.2
   exact zt7 pins s σ H x _ v u Q I rx ry ⟨p,vs,rfl,.inl h1,zat3 p1 c.1,a,by
    show Q (.bl (!inV x vs)) H
    rw [b];exact hq _ H (Same.refl H) (.bl _)⟩
 ·rename_i ds z
  rw [z]at p2
  split at e
  case isFalse=>cases e
  rename_i c
  rw [zbd8]at c
  cases e
  cases p2 with
  |@tup _ p vs h1 h2 =>
   obtain⟨a,b⟩:=in_D p1 c.1 h2 c.2
   exact zt7 pins s σ H x _ v u Q I rx ry ⟨p,vs,rfl,.inr h1,zat3 p1 c.1,a,by
    show Q (.bl (!inV x vs)) H
    rw [b];exact hq _ H (Same.refl H) (.bl _)⟩
 ·cases e
def zl3:Int→List Int→Int
 |m,[]=>m
 |m,n::r=>zl3 (if n<m then n else m) r
def zn0:Int→List Int→Int
 |m,[]=>m
 |m,n::r=>zn0 (if m<n then n else m) r
theorem zs2:∀(r:List Int) (m:Int),zl3 m r∈m::r∧∀a∈m::r,zl3 m r≤a
 |[],m=>⟨by simp [zl3],by simp [zl3]⟩
 |n::r,m=>by
  obtain⟨h1,h2⟩:=zs2 r (if n<m then n else m)
  have h3:=h2 (if n<m then n else m) (zbc9 ..)
  have k1:(if n<m then n else m)≤m:=by split<;>lia
  have k2:(if n<m then n else m)≤n:=by split<;>lia
  refine⟨?_,fun a ha=>?_⟩
  ·show zl3 (if n<m then n else m) r∈m::n::r
   rcases zbd2.mp h1 with z | z
   ·rw [z];split<;>simp
   ·simp [z]
  ·show zl3 (if n<m then n else m) r≤a
   rcases zbd2.mp ha with z | z
   ·subst z;lia
   ·rcases zbd2.mp z with w | w
    ·subst w;lia
    ·exact h2 a (zbc6 _ w)
theorem zu8:∀(r:List Int) (m:Int),zn0 m r∈m::r∧∀a∈m::r,a≤zn0 m r
 |[],m=>⟨by simp [zn0],by simp [zn0]⟩
 |n::r,m=>by
  obtain⟨h1,h2⟩:=zu8 r (if m<n then n else m)
  have h3:=h2 (if m<n then n else m) (zbc9 ..)
  have k1:m≤(if m<n then n else m):=by split<;>lia
  have k2:n≤(if m<n then n else m):=by split<;>lia
  refine⟨?_,fun a ha=>?_⟩
  ·show zn0 (if m<n then n else m) r∈m::n::r
   rcases zbd2.mp h1 with z | z
   ·rw [z];split<;>simp
   ·simp [z]
  ·show a≤zn0 (if m<n then n else m) r
   rcases zbd2.mp ha with z | z
   ·subst z;lia
   ·rcases zbd2.mp z with w | w
    ·subst w;lia
    ·exact h2 a (zbc6 _ w)
theorem zag0 {ys:Array (Int×Tok)}{j:Nat} (hj:j<ys.size):numAt ys j∈ys.toList.map (·.1):=by
 rw [numAt_eq];exact getD_mem (by simpa using hj)
theorem zbb5 (hc:X.calm=true):zq1 X (.builtin "min") (fun xs H Q => ∃(p:Addr) (ns:List Int) (M:Int),xs=[.ref p]∧SqL X.K H p (ns.map V.int)∧M∈ns∧(∀a∈ns,M≤a)∧Q (.int M) H):=by
 intro pins s σ H xs us Q I r h
 obtain⟨p,ns,M,rfl,hs,hm,hle,q⟩:=h
 obtain⟨u,rfl,ru⟩:=zab0 r
 cases ru
 obtain⟨its,rv,pl,_⟩:=I.list hs
 have hi:IntsAre its ns:=zl4 rv
 obtain⟨ys,e⟩:=hi.allInts.items
 have hl:s.heap.IsList p (intItems ys):=by rw [← e];exact PlainL.isL pl
 have hns:ys.toList.map (·.1)=ns:=by
  have e2:numsOf (intItems ys).toList=ns:=by rw [← e];exact hi.numsOf
  rw [← nums_intItems];exact e2
 have hsz:0<ys.size:=by
  have:0<ns.length:=zbm2 hm
  rw [← hns]at this;simpa using this
 refine min_intList (I.ok.hd hc) hl hsz fun v h' tk hv hk=>?_
 obtain⟨t,rfl⟩:=intItems_at hv
 obtain⟨h1,h2⟩:=argBest_lt (numAt ys) (ys.size - 1)
 refine⟨.int M,H,I.kept (t':=tk) hk,⟨t,?_⟩,q⟩
 have a1:=hle _ (hns ▸ zag0 (ys:=ys) (j:=argBest (fun i j=>decide (numAt ys i<numAt ys j)) (ys.size - 1)) (by lia))
 rw [← hns]at hm
 obtain⟨j,hj,ej⟩:=mem_getD hm
 have hj':j<ys.size:=by simpa using hj
 have a2:=h2 j (by lia)
 rw [numAt_eq ys j,ej]at a2
 congr 1
 lia
theorem zbb7 (hc:X.calm=true):zq1 X (.builtin "max") (fun xs H Q => ∃(p:Addr) (ns:List Int) (M:Int),xs=[.ref p]∧SqL X.K H p (ns.map V.int)∧M∈ns∧(∀a∈ns,a≤M)∧Q (.int M) H):=by
 intro pins s σ H xs us Q I r h
 obtain⟨p,ns,M,rfl,hs,hm,hle,q⟩:=h
 obtain⟨u,rfl,ru⟩:=zab0 r
 cases ru
 obtain⟨its,rv,pl,_⟩:=I.list hs
 have hi:IntsAre its ns:=zl4 rv
 obtain⟨ys,e⟩:=hi.allInts.items
 have hl:s.heap.IsList p (intItems ys):=by rw [← e];exact PlainL.isL pl
 have hns:ys.toList.map (·.1)=ns:=by
  have e2:numsOf (intItems ys).toList=ns:=by rw [← e];exact hi.numsOf
  rw [← nums_intItems];exact e2
 have hsz:0<ys.size:=by
  have:0<ns.length:=zbm2 hm
  rw [← hns]at this;simpa using this
 refine max_intList (I.ok.hd hc) hl hsz fun v h' tk hv hk=>?_
 obtain⟨t,rfl⟩:=intItems_at hv
 obtain⟨h1,h2⟩:=argBest_gt (numAt ys) (ys.size - 1)
 refine⟨.int M,H,I.kept (t':=tk) hk,⟨t,?_⟩,q⟩
 have a1:=hle _ (hns ▸ zag0 (ys:=ys) (j:=argBest (fun i j=>decide (numAt ys i > numAt ys j)) (ys.size - 1)) (by lia))
 rw [← hns]at hm
 obtain⟨j,hj,ej⟩:=mem_getD hm
 have hj':j<ys.size:=by simpa using hj
 have a2:=h2 j (by lia)
 rw [numAt_eq ys j,ej]at a2
 congr 1
 lia
end
end DL
namespace DL
open PySem.Spec L2
section
variable {X:Cx}{F:List Addr}{a b c o:Expr}{es:List Expr}{fa fb fc:DE}{fs:List DE}{ga:DA}{g g1 g2:DS}{ft fu:DT}{pos:Pos}{st:Stmt}{rest:List Stmt}{tg:Expr}{gt:TG}{kt:D→Th→Option Th}
noncomputable def zo1 (f:Int→List Int→Int):List Ev→Option Ev:=fun rs=>match rs with
 |[r]=>(match r.d with
  |.lst ds=>(match zj6 ds with
   |some (n::ns)=>some (.cl (.int (f n ns)))
   |_=>none)
  |_=>none)
 |_=>none
theorem zbb3 {id':String}{f:Int→List Int→Int} (h:∀n ns,zq1 X (.builtin id') (fun xs H Q => ∃p:Addr,xs=[.ref p]∧SqL X.K H p ((n::ns).map V.int)∧Q (.int (f n ns)) H)):CallD X F (.builtin id') (zo1 f):=by
 intro pins s σ H0 H A xs us Q rs r I m g v q ek hq
 unfold zo1 at ek
 split at ek
 case h_2=>cases ek
 rename_i r0
 cases q with
 |@cons _ y _ ys q1 q2 =>
  cases q2
  split at ek
  case h_2=>cases ek
  rename_i ds z
  split at ek
  case h_2=>cases ek
  rename_i n ns z2
  cases ek
  have p:=q1.full
  rw [z,zj9 z2]at p
  cases p with
  |@lst _ l ws h1 h2 =>
   rw [ze9 h2]at h1
   exact h n ns pins s σ H _ us Q I v ⟨l,rfl,h1,hq _ H (Same.refl H) (.int _)⟩
theorem cd_minL (hc:X.calm=true):CallD X F (.builtin "min") (zo1 zl3) :=
 zbb3 fun n ns pins s σ H xs us Q I v ⟨p,e,h1,q⟩=>zbb5 hc pins s σ H xs us Q I v ⟨p,n::ns,zl3 n ns,e,h1,(zs2 ns n).1,(zs2 ns n).2,q⟩
theorem zal4 (hc:X.calm=true):CallD X F (.builtin "max") (zo1 zn0) :=
 zbb3 fun n ns pins s σ H xs us Q I v ⟨p,e,h1,q⟩=>zbb7 hc pins s σ H xs us Q I v ⟨p,n::ns,zn0 n ns,e,h1,(zu8 ns n).1,(zu8 ns n).2,q⟩
theorem zar4:bootBuiltins "list"=some (.type "list"):=by decide +kernel
theorem vals_get:∀ {xs:List V}{us:List Value},xs.length=us.length→(∀(i:Nat) (x:V) (u:Value),xs[i]?=some x→us[i]?=some u→RelV x u)→Vals xs us
 |[],[],_,_=>.nil
 |[],_::_,h,_=>by simp at h
 |_::_,[],h,_=>by simp at h
 |x::xs,u::us,h,k=>.cons (k 0 x u rfl rfl) (vals_get (by simpa using h) fun i y w e1 e2=>k (i+1) y w (by simpa using e1) (by simpa using e2))
theorem zaq7 {lo k:Int}{n:Nat}{acc:Array Value} (h:ItemsOf (fun i v => ∃t,v=.int (lo+i*k) t) acc n):Vals ((zbf2 n).map fun i=>V.int (lo+(i:Nat)*k)) acc.toList:=by
 refine vals_get (by simp [h.1]) fun i x u e1 e2=>?_
 obtain⟨t,rfl⟩:=h.2 i u (by simpa using e2)
 have hi:i<n:=by
  cases zbo7 i n with
  |inl z=>exact z
  |inr z=>rw [zbg0,zbm8 (by simpa using z)]at e1;cases e1
 rw [zbg0,List.getElem?_range hi]at e1
 simp at e1
 subst e1
 exact⟨t,rfl⟩
theorem zac1 {pins:List (Addr×Obj)}{σ:L2.St}{H:Hp}{s:zbe1}{Q:VK}{lo hi k:Int}{t u v:Tok}{tk:Nat} (hc:X.calm=true) (I:L2.Inv X pins σ H s) (ok:zv6 lo hi k=true) (sz:Builtin.Range.rangeSize lo hi k≤50000)
  (q:∀p,H p=none→Q (.ref p) (upd H p (.lst ((zbf2 (Builtin.Range.rangeSize lo hi k).toNat).map fun i=>V.int (lo+(i:Nat)*k))))) :
  wpAny (model X.prog X.w) X.A (call (.type "list") [.ref s.heap.objs.size]) (EP X pins σ Q) X.xe { s with heap:=s.heap.push { cls:=.type "range",data:=.fields #[.int lo t,.int hi u,.int k v] },toks:=tk }:=by
 simp only [zv6,zbd8,decide_eq_true_eq]at ok
 have I1:L2.Inv X pins σ H { s with heap:=s.heap.push { cls:=.type "range",data:=.fields #[.int lo t,.int hi u,.int k v] },toks:=tk }:=I.kept fun b o e=>zbd5 _ e
 have en:Builtin.Range.rangeSize lo hi k=(((Builtin.Range.rangeSize lo hi k).toNat:Nat):Int):=by lia
 refine call_list_range (I.ok.hd hc) (IsRange.new ..) ok.1 en (by lia) fun h' tk' acc c' hk hS hacc=>?_
 refine⟨.ref _,_,I1.laid (o:=HO.lst ((zbf2 (Builtin.Range.rangeSize lo hi k).toNat).map fun i=>V.int (lo+(i:Nat)*k))) (t':=tk') hk (zbf1 _) ⟨?_,acc.toList,c',zaq7 hacc,by simpa using hS⟩,rfl,q _ I1.fresh⟩
 refine zk3 ?_
 rw [zbd9,List.length_range];lia
noncomputable def rArgs:List D→Option (Int×Int×Int)
 |[.int n]=>some (0,n,1)
 |[.int i,.int j]=>some (i,j,1)
 |[.int i,.int j,.int k]=>some (i,j,k)
 |_=>none
noncomputable def zq6 (g:DA):DE:=fun t=>(g t).bind fun rs=>(rArgs (rs.map Ev.d)).bind fun q=>if zv6 q.1 q.2.1 q.2.2&&decide (Builtin.Range.rangeSize q.1 q.2.1 q.2.2≤50000) then some (.nw (rng3 q.1 q.2.1 q.2.2)) else none
theorem zs1 {p0 p1 p2:Pos} (hc:X.calm=true) (hgl:Gl X "list") (hml:X.mg "list"=none) (hgr:Gl X "range") (hmr:X.mg "range"=none) (ha:PA X (a::es) (dA X.K F ga))
  (hst:zbe3 [.Call (.Name "range" p1) (a::es) [] p2] X.env=[(false,eval (.Call (.Name "range" p1) (a::es) [] p2) X.env)]:=by rfl)
  (hst1:zbe3 (a::es) X.env=(false,eval a X.env)::zbe3 es X.env:=by rfl) (hst2:(zbj4 p2 (zbe3 es X.env)).any (·.1)=false:=by rfl) :
  PE X (.Call (.Name "list" p0) [.Call (.Name "range" p1) (a::es) [] p2] [] pos) (dE X.K F (zq6 ga)):=by
 intro pins s σ H Q I h
 obtain⟨A,t,r,R,e,h⟩:=h
 unfold zq6 at e
 cases e1:ga t with
 |none=>rw [e1]at e;cases e
 |some rs =>
  rw [e1]at e
  simp only [zbc8]at e
  cases e2:rArgs (rs.map Ev.d) with
  |none=>rw [e2]at e;cases e
  |some q =>
   rw [e2]at e
   simp only [zbc8]at e
   split at e
   case isFalse=>cases e
   rename_i ok
   simp only [zbd8,decide_eq_true_eq]at ok
   cases e
   have mk:∀(H1:Hp),Same H H1→∀p,H1 p=none→Q (.ref p) (upd H1 p (.lst ((zbf2 (Builtin.Range.rangeSize q.1 q.2.1 q.2.2).toNat).map fun i=>V.int (q.1+(i:Nat)*q.2.2)))):=fun H1 g1 p hp=>by
    refine h _ _ (g1.trans (zd2 hp)) ⟨p,_,rfl,Same.free g1 hp,za8,?_⟩
    have e3:rng3 q.1 q.2.1 q.2.2=((zbf2 (Builtin.Range.rangeSize q.1 q.2.1 q.2.2).toNat).map fun i=>q.1+(i:Nat)*q.2.2).map D.int:=by simp [rng3]
    have e4:((zbf2 (Builtin.Range.rangeSize q.1 q.2.1 q.2.2).toNat).map fun i=>V.int (q.1+(i:Nat)*q.2.2))=((zbf2 (Builtin.Range.rangeSize q.1 q.2.1 q.2.2).toNat).map fun i=>q.1+(i:Nat)*q.2.2).map V.int:=by simp
    rw [e3,e4]
    exact Reps.ints _
   refine wpAny_Call_Name_kw (zo6 I hgl hml zar4 (PyProof.Rows.callWith_type1 ?_ (by rw [hst];rfl) rfl))
   rw [hst]
   show wpAny _ _ (spliced ((false,eval (.Call (.Name "range" p1) (a::es) [] p2) X.env)::zbj4 pos (zbe3 [] X.env))) _ _ s
   refine Calls.spliced_cons (Call_ (zo6 I hgr hmr boot_range (PyProof.Rows.callWith_type1 (thn (ha p2 pins s σ H (fun vs H1=>Same H H1∧RepEvs X.K F A H H1 rs vs) I ⟨A,t,rs,R,e1,fun vs H1 g1 q1=>⟨g1,q1⟩⟩) fun us s1 ⟨vs,H1,I1,r1,g1,q1⟩=>?_) hst1 hst2)))
   have full:=q1.full
   obtain⟨q0,qh,qk⟩:=q
   unfold rArgs at e2
   split at e2
   ·rename_i n z
    cases e2
    rw [z]at full
    have ev:=ze9 (ns:=[qh]) full
    subst ev
    obtain⟨u,rfl,ru⟩:=r1.one
    obtain⟨t1,rfl⟩:=ru
    exact call_range_1 (Calls.spliced_nil (zac1 hc I1 ok.1 ok.2 (mk H1 g1)))
   ·rename_i i j z
    cases e2
    rw [z]at full
    have ev:=ze9 (ns:=[q0,qh]) full
    subst ev
    obtain⟨u,w,rfl,ru,rw'⟩:=r1.two
    obtain⟨t1,rfl⟩:=ru
    obtain⟨t2,rfl⟩:=rw'
    exact call_range_2 (Calls.spliced_nil (zac1 hc I1 ok.1 ok.2 (mk H1 g1)))
   ·rename_i i j k z
    cases e2
    rw [z]at full
    have ev:=ze9 (ns:=[q0,qh,qk]) full
    subst ev
    cases r1 with
    |cons r rr =>
     cases rr with
     |cons r' rr =>
      cases rr with
      |cons r'' rr =>
       cases rr
       obtain⟨t1,rfl⟩:=r
       obtain⟨t2,rfl⟩:=r'
       obtain⟨t3,rfl⟩:=r''
       have ok':=ok.1
       simp only [zv6,zbd8,decide_eq_true_eq]at ok'
       have lg:qk.natAbs.log2<9000:=zbr9 (zax2 (k:=20) (by have:=ok'.2.2.1;lia)) (by decide)
       exact call_range_3 ok'.2.1 (Calls.spliced_nil (zac1 hc I1 ok.1 ok.2 (mk H1 g1))) (.inl (PyProof.noPylong_of_log2 lg))
   ·cases e2
end
end DL
namespace DL
open PySem.Spec L2
section
variable {X:Cx}{F:List Addr}{a b c o:Expr}{es:List Expr}{fa fb fc:DE}{fs:List DE}{ga:DA}{g g1 g2:DS}{ft fu:DT}{pos:Pos}{st:Stmt}{rest:List Stmt}{tg:Expr}{gt:TG}{kt:D→Th→Option Th}
noncomputable def kPop (t:Th) (i j:Nat):Option Out:=match t[j]? with
 |some (.own xs)=>if i=j then none else match xs.getLast? with
  |some d=>(zm0 (t.set j (.own xs.dropLast)) i (.cl d)).map Out.nx
  |none=>none
 |_=>none
def dPop (i j:Nat):DS:=fun t=>kPop t i j
theorem psd_pop {i:Nat} (j:Nat) {x y:Str}{p0 apos cpos pos':Pos} (hNd:X.N.Nodup) (hi:X.N[i]?=some y) (hy:Loc X.env.scope y) (hN:X.N[j]?=some x:=by rfl) (hv:Vis X.env.scope x:=by first | exact Or.inl rfl | exact Or.inr (Or.inl rfl) |exact Or.inr (Or.inr rfl)) (hd:(x ==("__debug__":Str))=false:=by decide)
  (hcd:(x ==("__classdict__":Str))=false:=by decide) (hbase:attributeBase (.Name x p0) "pop" X.env (eval (.Name x p0) X.env)=eval (.Name x p0) X.env:=by rfl)
  (hline:(apos.endLine == cpos.line)=true:=by rfl) (hs:swapsWith (.Call (.Attribute (.Name x p0) "pop" apos) [] [] cpos) (some (.Name y pos')) pos.line X.env=pure false:=by rfl) (hf:X.fn y=true∨X.env.scope.names.lookup y=some .local:=by first | exact .inl rfl | exact .inr rfl | assumption) :
  PS X (.Assign [.Name y pos'] (.Call (.Attribute (.Name x p0) "pop" apos) [] [] cpos) pos) (dS X.K F (dPop i j)):=by
 refine PS.imp (ps_set hNd hi hy (pe_bm0 zbg6 zbp9 zbq0 mt_pop (zo5 (i:=j) hN hv hd hcd) hbase hline) hs hf) ?_
 rintro E σ H ⟨A,t,o,R,e,h⟩
 have e:kPop t i j=some o:=e
 unfold kPop at e
 split at e
 case h_2=>cases e
 rename_i xs z
 split at e
 case isTrue=>cases e
 rename_i ne
 split at e
 case h_2=>cases e
 rename_i d z2
 cases e3:zm0 (t.set j (.own xs.dropLast)) i (.cl d) with
 |none=>rw [e3]at e;cases e
 |some t' =>
  rw [e3]at e
  cases e
  obtain⟨p,vs,a1,a2,a3,a4⟩:=R.rel.getOwn z
  have hx:xs[xs.length - 1]?=some d:=by rw [← zbo0];exact z2
  obtain⟨v,b1,b2⟩:=a4.get hx
  rw [← a4.length]at b1
  refine⟨_,a1,.inl ⟨rfl,vs,SqL.of a3⟩,p,vs,v,rfl,rfl,a3,b1,?_⟩
  have dl:Reps X.K (hide (A++F) H) xs.dropLast vs.dropLast:=by
   rw [zbq1,zbq1,a4.length];exact a4.take _
  obtain⟨R',g'⟩:=R.write (es:=xs.dropLast) (ws:=vs.dropLast) z a1 dl
  obtain⟨A2,g2,R2⟩:=R'.put (i:=i) (r:=.cl d) (v:=v) (Same.refl _) (Rep.mono g'.same b2) e3
  exact h _ _ _ (g'.trans g2) R2
end
end DL
namespace DL
open PySem.Spec L2
def frzD:Sl→Sl
 |.own xs=>.val (.lst xs)
 |.dp d=>.val d
 |s=>s
def frzT (t:Th) (i:Nat):Th:=match t[i]? with
 |some s=>t.set i (frzD s)
 |none=>t
theorem zs3 (s:Sl) (t:Th) (i:Nat):frzT (s::t) (i+1)=s::frzT t i:=by
 unfold frzT
 simp only [zbk2]
 cases t[i]?<;>simp
theorem RSl.give {K:zbc5}{H0 H:Hp}:∀ {t:Th}{σ:L2.St}{A:List Addr} (i:Nat),RSl K H0 H t σ A→A.Nodup→∃(B A':List Addr),A'.Sublist A∧(∀b∈B,b∈A∧b∉A')∧∀H1,Same H0 H1→(∀b∈B,∀o,H b=some o→H1 b=some o)→RSl K H1 H (frzT t i) σ A'
 |_,_,_,i,.nil,_=>⟨[],[],List.Sublist.refl _,fun b hb=>(by cases hb),fun H1 e _=>by simpa [frzT] using RSl.nil⟩
 |_,_,A,0,.no r,n=>⟨[],A,List.Sublist.refl _,fun b hb=>(by cases hb),fun H1 e _=>.no (RSl.mono e r fun _ _ _ h=>h)⟩
 |_,_,A,0,.val h r,n=>⟨[],A,List.Sublist.refl _,fun b hb=>(by cases hb),fun H1 e _=>.val (Rep.mono e h) (RSl.mono e r fun _ _ _ h=>h)⟩
 |_,_,_,0,.own (p:=p) (A:=A) h1 h2 r,n=>by
  have n0:=zbe6.mp n
  refine⟨[p],A,zbp4 _ _,fun b hb=>?_,fun H1 e k=>?_⟩
  ·simp at hb;subst hb;exact⟨zbc9 ..,n0.1⟩
  ·exact .val (.lst (SqL.of (k p (by simp) _ h1)) (Reps.mono e h2)) (RSl.mono e r fun _ _ _ h=>h)
 |_,_,_,0,.dp (B:=B) (A:=A) h r,n=>by
  have n0:=zbe0.mp n
  refine⟨B,A,zbn9 _ _,fun b hb=>⟨zbc7 _ hb,fun z=>n0.2.2 b hb b z rfl⟩,fun H1 e k=>?_⟩
  exact .val (h.rep e k) (RSl.mono e r fun _ _ _ h=>h)
 |_,_,_,i+1,.no r,n=>by
  obtain⟨B,A',a1,a2,a3⟩:=RSl.give i r n
  refine⟨B,A',a1,a2,fun H1 e k=>?_⟩
  rw [zs3];exact .no (a3 H1 e k)
 |_,_,_,i+1,.val h r,n=>by
  obtain⟨B,A',a1,a2,a3⟩:=RSl.give i r n
  refine⟨B,A',a1,a2,fun H1 e k=>?_⟩
  rw [zs3];exact .val (Rep.mono e h) (a3 H1 e k)
 |_,_,_,i+1,.own (p:=p) h1 h2 r,n=>by
  have n0:=zbe6.mp n
  obtain⟨B,A',a1,a2,a3⟩:=RSl.give i r n0.2
  refine⟨B,p::A',a1.cons₂ _,fun b hb=>⟨zbc6 _ (a2 b hb).1,fun z=>?_⟩,fun H1 e k=>?_⟩
  ·rcases zbd2.mp z with w | w
   ·exact n0.1 (w ▸ (a2 b hb).1)
   ·exact (a2 b hb).2 w
  ·rw [zs3];exact .own h1 (Reps.mono e h2) (a3 H1 e k)
 |_,_,_,i+1,.dp (B:=C) h r,n=>by
  have n0:=zbe0.mp n
  obtain⟨B,A',a1,a2,a3⟩:=RSl.give i r n0.2.1
  refine⟨B,C++A',List.Sublist.append (List.Sublist.refl _) a1,fun b hb=>⟨zbc4 _ (a2 b hb).1,fun z=>?_⟩,fun H1 e k=>?_⟩
  ·rcases zbd0.mp z with w | w
   ·exact n0.2.2 b w b (a2 b hb).1 rfl
   ·exact (a2 b hb).2 w
  ·rw [zs3];exact .dp (RepD.mono e h fun _ _ _ w=>w) (a3 H1 e k)
theorem RS.give {K:zbc5}{F A:List Addr}{H:Hp}{t:Th}{σ:L2.St} (R:RS K F H A t σ) (i:Nat):∃A',RS K F H A' (frzT t i) σ∧Gr A H A' H:=by
 obtain⟨B,A',a1,a2,a3⟩:=R.rel.give i R.nd
 have sub:∀x∈A',x∈A:=fun x hx=>a1.subset hx
 refine⟨A',⟨fun q hq=>R.mu q ((zbd0.mp hq).elim (fun z=>zbc7 _ (sub q z)) fun z=>zbc4 _ z),R.nd.sublist a1,fun p hp=>R.dj p (sub p hp),a3 _ (za7 H fun a z=>(zbd0.mp z).elim (fun z=>zbc7 _ (sub a z)) fun z=>zbc4 _ z) fun b hb o h=>zb9 h fun z=>?_⟩,⟨fun _ _ _ h=>h,fun b hb=>?_,fun b hb=>.inl (sub b hb)⟩⟩
 ·rcases zbd0.mp z with w | w
  ·exact (a2 b hb).2 w
  ·exact R.dj b (a2 b hb).1 w
 ·obtain⟨vs,q⟩:=R.mu b (zbc7 _ hb)
  rw [q];simp
def dFrz (i:Nat) (g:DS):DS:=fun t=>g (frzT t i)
theorem dS_frz {K:zbc5}{F:List Addr}{g:DS}{i:Nat}{E:Ends}{σ:L2.St}{H:Hp} (h:dS K F (dFrz i g) E σ H):dS K F g E σ H:=by
 obtain⟨A,t,o,R,e,p⟩:=zaz6 h
 obtain⟨A',R',gr⟩:=R.give i
 exact zaz7 R' e (p.back gr)
theorem psd_frz {X:Cx}{F:List Addr}{g:DS}{st:Stmt} (i:Nat) (h:PS X st (dS X.K F g)):PS X st (dS X.K F (dFrz i g)):=PS.imp h fun _ _ _ q=>dS_frz q
section
variable {X:Cx}{F:List Addr}{a b c o:Expr}{es:List Expr}{fa fb fc:DE}{fs:List DE}{ga:DA}{g g1 g2:DS}{ft fu:DT}{pos:Pos}{st:Stmt}{rest:List Stmt}{tg:Expr}{gt:TG}{kt:D→Th→Option Th}
def insI (n:Int):List Int→List Int
 |[]=>[n]
 |m::r=>if n≤m then n::m::r else m::insI n r
def zr8:List Int→List Int
 |[]=>[]
 |n::r=>insI n (zr8 r)
theorem zw9 (n:Int):∀r:List Int,(insI n r).Perm (n::r)
 |[]=>List.Perm.refl _
 |m::r=>by
  unfold insI
  split
  ·exact List.Perm.refl _
  ·exact (List.Perm.cons m (zw9 n r)).trans (List.Perm.swap n m r)
theorem zg1:∀r:List Int,(zr8 r).Perm r
 |[]=>List.Perm.refl _
 |n::r=>(zw9 n _).trans (List.Perm.cons n (zg1 r))
theorem zw8 (n:Int):∀r:List Int,r.Pairwise (·≤·)→(insI n r).Pairwise (·≤·)
 |[],_=>by simp [insI]
 |m::r,h=>by
  unfold insI
  have hc:=zbi1.mp h
  split
  ·rename_i hle
   refine zbi1.mpr ⟨fun x hx=>?_,h⟩
   rcases zbd2.mp hx with rfl | z
   ·exact hle
   ·exact zbt4 hle (hc.1 x z)
  ·rename_i hle
   refine zbi1.mpr ⟨fun x hx=>?_,zw8 n r hc.2⟩
   rcases zbd2.mp ((zw9 n r).mem_iff.mp hx) with rfl | z
   ·lia
   ·exact hc.1 x z
theorem zr7:∀r:List Int,(zr8 r).Pairwise (·≤·)
 |[]=>List.Pairwise.nil
 |n::r=>zw8 n _ (zr7 r)
theorem zv2:∀ {xs ys:List Int},xs.Perm ys→xs.Pairwise (·≤·)→ys.Pairwise (·≤·)→xs=ys
 |[],ys,p,_,_=>(List.Perm.nil_eq p)
 |x::xs,[],p,_,_=>absurd p.length_eq (by simp)
 |x::xs,y::ys,p,h1,h2=>by
  have c1:=zbi1.mp h1
  have c2:=zbi1.mp h2
  have e:x=y:=by
   have m1:x∈y::ys:=p.mem_iff.mp (zbc9 ..)
   have m2:y∈x::xs:=p.mem_iff.mpr (zbc9 ..)
   have l1:y≤x:=by rcases zbd2.mp m1 with z | z;lia;exact c2.1 x z
   have l2:x≤y:=by rcases zbd2.mp m2 with z | z;lia;exact c1.1 y z
   lia
  subst e
  rw [zv2 (List.Perm.cons_inv p) c1.2 c2.2]
end
end DL
namespace DL
open PySem.Spec L2
section
variable {X:Cx}{F:List Addr}{a b c o:Expr}{es:List Expr}{fa fb fc:DE}{ga:DA}{pos:Pos}
theorem zah4 {xs ns:List Int} (p:xs.Perm ns) (h:xs.Pairwise (· ≥ ·)):xs=(zr8 ns).reverse:=by
 have h1:xs.reverse.Pairwise (·≤·):=List.pairwise_reverse.mpr h
 have h2:xs.reverse.Perm (zr8 ns):=(List.reverse_perm xs).trans (p.trans (zg1 ns).symm)
 have:=zv2 h2 h1 (zr7 ns)
 rw [← this,List.reverse_reverse]
noncomputable def zaa2:List Ev→Option Ev:=fun rs=>match rs with
 |[r]=>(match r.d with
  |.lst ds=>(zj6 ds).bind fun ns=>if ns.length<64 then some (.nw ((zr8 ns).reverse.map D.int)) else none
  |_=>none)
 |_=>none
theorem zaj8 {p0 kp kp2:Pos}{j} (hg:Gl X "sorted") (hm:X.mg "sorted"=none) (ha:PE X a (dE X.K F fa)) (hst:zbe3 [a] X.env=[(false,eval a X.env)]:=by rfl)
  (he:zbj4 pos (zbe3 [a] X.env)=(false,eval a X.env)::zbj4 pos (zbe3 [] X.env):=by rfl) (hplain:(zbj4 pos (zbe3 [a] X.env)).any (·.1)=false:=by rfl)
  (hall:(backToKw pos (keywordEach [⟨some "reverse",.Constant (.bool true) j kp2,kp⟩] X.env)).all (·.1.isSome)=true:=by rfl) (hkw:(backToKw pos (keywordEach [⟨some "reverse",.Constant (.bool true) j kp2,kp⟩] X.env)).any (·.1.isNone)=false:=by rfl) :
  PE X (.Call (.Name "sorted" p0) [a] [⟨some "reverse",.Constant (.bool true) j kp2,kp⟩] pos) (dE X.K F (dT1 zaa2 (za3 fa dNil))):=by
 intro pins s σ H Q I h
 obtain⟨A,t,r,R,e,h⟩:=h
 unfold dT1 za3 dNil at e
 cases e1:fa t with
 |none=>rw [e1]at e;cases e
 |some r1 =>
  rw [e1]at e
  simp only [zbc8]at e
  unfold zaa2 at e
  simp only at e
  split at e
  case h_2=>cases e
  rename_i ds z
  cases e2:zj6 ds with
  |none=>rw [e2]at e;cases e
  |some ns =>
   rw [e2]at e
   simp only [zbc8]at e
   split at e
   case isFalse=>cases e
   rename_i c
   cases e
   refine wpAny_Call_Name_kw (zo6 I hg hm boot_sorted (callWith_kw (env:=X.env) ?_ he hplain hall hkw))
   refine thn ((zf0 ha zi1 hst) pos pins s σ H (fun vs H1 => ∃x,vs=[x]∧Same H H1∧RepEv X.K F A H H1 r1 x) I ⟨A,t,r1,R,e1,fun x H1 gs q=>⟨x,rfl,gs,q⟩⟩) fun us s1 ⟨vs,H1,I1,rv,x,ex,gs,q⟩=>?_
   subst ex
   obtain⟨u,rfl,ru⟩:=rv.one
   have p:=q.full
   rw [z,zj9 e2]at p
   cases p with
   |@lst _ l ws h1 h2 =>
    rw [ze9 h2]at h1
    cases ru
    refine kws_cons (Constant_bool (kws_nil ?_))
    show wpAny (model X.prog X.w) X.A (call (.builtin "sorted") [.ref l] [(Str.ofString "reverse",.bool true)]) (EP X pins σ Q) X.xe s1
    obtain⟨its,rw1,pl,_⟩:=I1.list h1
    have hi:IntsAre its ns:=zl4 rw1
    have hl:=hi.length
    refine sorted_ints_rev (PlainL.isL pl) hi (by lia) fun out ns' hI hp ho=>?_
    have e:ns'=(zr8 ns).reverse:=zah4 hp ho
    subst e
    obtain⟨k,ek⟩:=sortedAll_at s1.heap its out
    have fr:s1.heap.objs.size≤s1.heap.objs.size+1:=zbr8 _
    have hn:=I1.hok.fresh fr
    refine⟨.ref _,_,I1.laid (o:=HO.lst ((zr8 ns).reverse.map V.int)) (t':=s1.toks) (fun b o e=>sortedAll_old e) fr ⟨?_,out.toList,k,zv1 hI,by simpa [seqObj] using ek⟩,rfl,?_⟩
    ·refine zk3 ?_
     rw [zbd9,zbn6,(zg1 ns).length_eq];lia
    ·exact h _ _ (gs.trans (zd2 hn)) ⟨_,_,rfl,Same.free gs hn,za8,Reps.ints _⟩
end
end DL
namespace DL
open PySem.Spec L2
section
variable {X:Cx}{F:List Addr}{a b c o:Expr}{es:List Expr}{fa fb fc:DE}{ga:DA}{pos:Pos}
def dChV (k k':Ev→Ev→Option Ev) (fa fb fc:DE):DE:=fun t=>(dCh k k' fa fb fc t).map fun z=>.cl (.bl z)
theorem zaf2 {op op':CmpOp}{k k':Ev→Ev→Option Ev} (ho:OpD X F (compareOp op) k) (ho':OpD X F (compareOp op') k') (ha:PE X a (dE X.K F fa)) (hb:PE X b (dE X.K F fb)) (hc:PE X c (dE X.K F fc))
  (hm:lastMarks [op,op'] [b,c]=false:=by with_unfolding_all rfl):PE X (.Compare a [op,op'] [b,c] pos) (dE X.K F (dChV k k' fa fb fc)):=by
 intro pins s σ H Q I h
 obtain⟨A,t,rr,R,e,h⟩:=h
 refine pe_chain (ho.toR A H) (ho'.toR A H) ha hb hc hm pins s σ H Q I ?_
 unfold dChV dCh at e
 cases e1:fa t with
 |none=>rw [e1]at e;cases e
 |some r1 =>
  cases e2:fb t with
  |none=>rw [e1,e2]at e;cases e
  |some r2 =>
   cases e3:k r1 r2 with
   |none=>rw [e1,e2]at e;simp only [zbc8,e3]at e;cases e
   |some r =>
    rw [e1,e2]at e
    simp only [zbc8,e3]at e
    refine⟨A,t,r1,R,e1,fun x H1 gs1 q1=>⟨A,t,r2,R.grow gs1,e2,fun y H2 gs2 q2=>?_⟩⟩
    have gs:=gs1.trans gs2
    refine⟨R.mu,gs,r1,r2,r,q1.mono gs2,q2.back gs1,e3,fun z H3 gs3 q3=>?_⟩
    have p:=q3.full
    split at e
    ·rename_i zz
     rw [zz]at p
     cases p
     refine⟨true,rfl,iteT ?_⟩
     cases e4:fc t with
     |none=>rw [e4]at e;cases e
     |some r3 =>
      rw [e4]at e
      simp only [zbc8]at e
      cases e5:k' r2 r3 with
      |none=>rw [e5]at e;cases e
      |some r' =>
       rw [e5]at e
       simp only [zbc8]at e
       refine⟨A,t,r3,(R.grow gs).grow gs3,e4,fun w H4 gs4 q4=>⟨R.mu,(gs.trans gs3).trans gs4,r2,r3,r',(q2.back gs1).mono (gs3.trans gs4),q4.back (gs.trans gs3),e5,fun z2 H5 gs5 q5=>?_⟩⟩
       have p5:=q5.full
       split at e
       ·rename_i z3 zz3
        cases e
        rw [zz3]at p5
        cases p5
        exact h _ H5 (((gs.trans gs3).trans gs4).trans gs5) (.bl _)
       ·cases e
    ·rename_i zz
     rw [zz]at p
     cases p
     cases e
     exact⟨false,rfl,iteF (h _ H3 (gs.trans gs3) (.bl _))⟩
    ·cases e
end
end DL
namespace L2
open PySem.W
def bndS:Nat:=2 ^ 1048576
theorem zz8:∀ {ns:List Int}{n:Int},n∈ns→WData.weight (.int n)≤WData.weightAll (ns.map WData.int)
 |m::r,n,h=>by
  rw [zbd7]
  unfold WData.weightAll
  rcases zbd2.mp h with rfl | z
  ·lia
  ·have:=zz8 z;lia
theorem bnd_of {ns:List Int} (h:WData.layableAll [WData.list (ns.map WData.int)]=true):∀n∈ns,n.natAbs<bndS:=fun n hn=>by
 have h1:WData.layable (WData.list (ns.map WData.int))=true:=by simpa [WData.layableAll] using h
 have h2:WData.weight (WData.list (ns.map WData.int))≤2 ^ 20:=by
  unfold WData.layable at h1
  simp only [zbd8,decide_eq_true_eq]at h1
  exact h1.2
 have h3:WData.weight (.int n)≤2 ^ 20:=by
  refine zbh8 (zz8 hn) ?_
  have e:WData.weight (WData.list (ns.map WData.int))=WData.weightAll (ns.map WData.int):=by simp [WData.weight]
  rw [← e];exact h2
 by_cases z:n=0
 ·subst z;unfold bndS;exact Nat.pow_pos (by decide)
 ·have h4:n.natAbs.log2+1≤2 ^ 20:=by
   have:WData.weight (.int n)=n.natAbs.log2+1:=by simp [WData.weight,z]
   rw [← this];exact h3
  have h5:n.natAbs.log2<1048576:=by lia
  exact (Nat.log2_lt (by lia)).mp h5
end L2
namespace DL
open PySem.Spec L2
section
variable {X:Cx}{F:List Addr}{a b c o:Expr}{es:List Expr}{fa fb fc:DE}{ga:DA}{pos:Pos}
theorem zap4:∀ {xs:List V}{us:List Value} (k:Nat),Vals xs us→Vals (xs.eraseIdx k) (us.eraseIdx k):=fun k r=>r.eraseIdx k
theorem zao6 (n:Int):∀ns:List Int,ns.eraseIdx (ns.idxOf n)=ns.erase n
 |[]=>rfl
 |m::ns=>by
  by_cases h:m=n
  ·subst h;simp [List.idxOf_cons]
  ·have h':(m == n)=false:=by simpa using h
   simp [List.idxOf_cons,h',List.erase_cons,zao6 n ns]
theorem map_erase_ix {α β:Type} (f:α→β):∀(xs:List α) (k:Nat),(xs.map f).eraseIdx k=(xs.eraseIdx k).map f
 |[],_=>rfl
 |_::_,0=>rfl
 |x::xs,k+1=>by simp [map_erase_ix f xs k]
noncomputable def rRemove:V→List V→Hp→VK→Prop:=fun x vs H Q => ∃(l:Addr) (ns:List Int) (n:Int),x=.ref l∧vs=[.int n]∧H l=some (.lst (ns.map V.int))∧n∈ns∧Q .non (upd H l (.lst ((ns.erase n).map V.int)))
theorem zaw5:MtM X "list.remove" rRemove:=by
 intro pins s σ H x vs v us Q I rx rv h
 obtain⟨l,ns,n,rfl,rfl,hH,hn,q⟩:=h
 cases rx
 obtain⟨u,rfl,ru⟩:=rv.one
 obtain⟨t,rfl⟩:=ru
 obtain⟨z,its,m,r,hl,e⟩:=I.lstM hH
 have hi:IntsAre its ns:=zl4 r
 have hlen:=hi.length
 have hj:ns.idxOf n<ns.length:=List.idxOf_lt_length_iff.mpr hn
 refine call_meets zbo8 ⟨_,e,rfl⟩ PySem.F.entry_list_remove (PySem.F.args_list_remove_2 _ _)
  (MeetsSeq.list_remove l its.toArray m (.int n t) (isInt n) (fun y hy=>eq_isInt n t hi y (by simpa using hy)) (ns.idxOf n) (by simpa [hlen] using hj) ?_ ?_ ?_) ⟨e,?_⟩
 ·show isInt n its[ns.idxOf n]=true
  rw [isInt_at n hi _ (by lia) hj]
  simpa using List.getElem_idxOf hj
 ·intro j hjs hlt
  show isInt n its[j]=false
  rw [isInt_at n hi j (by simpa using hjs) (by lia)]
  exact ne_of_lt_idxOf hlt _
 ·rw [zbe7];simp at z hl;lia
 ·refine⟨.non,_,I.lset (its':=its.eraseIdx (ns.idxOf n)) hH e ?_ (?_:Vals ((ns.erase n).map V.int) _) ?_,rfl,q⟩
  ·show its.toArray.eraseIdxIfInBounds _=_
   rw [zbj6]
  ·have:=zap4 (ns.idxOf n) r
   rw [map_erase_ix,zao6]at this
   exact this
  ·have:=zbl8 hn
   simp at z ⊢
   lia
noncomputable def kRem (t:Th) (i:Nat) (r:Ev):Option Out:=match t[i]?,r.d with
 |some (.own xs),.int n=>(zj6 xs).bind fun ns=>if ns.contains n then some (.nx (t.set i (.own ((ns.erase n).map D.int)))) else none
 |_,_=>none
def dRem (i:Nat) (f:DE):DS:=fun t=>(f t).bind (kRem t i)
theorem psd_rem (i:Nat) {x:Str}{p0 apos cpos:Pos} (he:PE X a (dE X.K F fa)) (hN:X.N[i]?=some x:=by rfl) (hv:Vis X.env.scope x:=by first | exact Or.inl rfl | exact Or.inr (Or.inl rfl) |exact Or.inr (Or.inr rfl)) (hd:(x ==("__debug__":Str))=false:=by decide)
  (hcd:(x ==("__classdict__":Str))=false:=by decide) (hst:zbe3 [a] X.env=[(false,eval a X.env)]:=by rfl)
  (hbase:attributeBase (.Name x p0) "remove" X.env (eval (.Name x p0) X.env)=eval (.Name x p0) X.env:=by rfl)
  (hfew:((zbj4 cpos (zbe3 [a] X.env)).all (fun x=>!x.1)&&(backToKw cpos (keywordEach [] X.env)).all (fun x=>x.1.isSome)
   && decide ([a].length+([]:List Keyword).length+(if ([]:List Keyword).isEmpty then 0 else 1)<30))=true:=by rfl)
  (hline:(apos.endLine == cpos.line)=true:=by rfl) (hplain:(zbj4 cpos (zbe3 [] X.env)).any (·.1)=false:=by rfl)
  (hsw:swapsWith (.Call (.Attribute (.Name x p0) "remove" apos) [a] [] cpos) none pos.line X.env=pure false:=by rfl) :
  PS X (.Expr (.Call (.Attribute (.Name x p0) "remove" apos) [a] [] cpos) pos) (dS X.K F (dRem i fa)):=by
 refine PS.imp (zv9 (zaq2 zbg6 zbo8 PySem.F.type_list_remove zaw5 (zo5 (i:=i) hN hv hd hcd) (zf0 he zi1 hst) hbase hfew hline hst hplain) hsw) ?_
 rintro E σ H ⟨A,t,o,R,e,h⟩
 unfold dRem at e
 cases e1:fa t with
 |none=>rw [e1]at e;cases e
 |some r =>
  rw [e1]at e
  have e:kRem t i r=some o:=e
  unfold kRem at e
  split at e
  case h_2=>cases e
  rename_i xs n z zr
  cases e3:zj6 xs with
  |none=>rw [e3]at e;cases e
  |some ns =>
   rw [e3]at e
   simp only [zbc8]at e
   split at e
   case isFalse=>cases e
   rename_i ok
   simp only [List.contains_iff_mem]at ok
   cases e
   obtain⟨p,vs,a1,a2,a3,a4⟩:=R.rel.getOwn z
   rw [zj9 e3]at a4
   have a5:=ze9 a4
   subst a5
   refine⟨_,a1,.inl ⟨rfl,_,SqL.of a3⟩,A,t,r,R,e1,fun y H1 gs q=>⟨p,ns,n,rfl,?_,gs _ _ a3,ok,?_⟩⟩
   ·have p1:=q.full
    rw [zr]at p1
    cases zf5 p1
    rfl
   ·obtain⟨R',g'⟩:=(R.grow gs).write (es:=(ns.erase n).map D.int) (ws:=(ns.erase n).map V.int) z a1 (Reps.ints _)
    exact h _ _ _ ((Gr.of_same R.mu.left gs).trans g') R'
theorem Reps.erase {K:zbc5}{H:Hp}:∀ {ds:List D}{vs:List V} (j:Nat),Reps K H ds vs→Reps K H (ds.eraseIdx j) (vs.eraseIdx j)
 |_,_,_,.nil=>.nil
 |_,_,0,.cons _ rs=>rs
 |_,_,j+1,.cons r rs=>.cons r (Reps.erase j rs)
end
end DL
namespace DL
open PySem.Spec L2
noncomputable def spM (K:zbc5) (G:List D→Option Ev):Sp:=fun vs H Q _ => ∃(Fo:List Addr) (p:Addr) (ws vs':List V) (xs ds:List D) (d:D),vs=.ref p::vs'∧Lists H (p::Fo)∧p∉Fo∧H p=some (.lst ws)∧Reps K (hide (p::Fo) H) xs ws∧Reps K (hide (p::Fo) H) ds vs'∧G (.lst xs::ds)=some (.cl d)∧scD d=true ∧
 ∀v H',(∀b o,b≠p→H b=some o→H' b=some o)→H' p≠none→(∀Hx,Rep K Hx d v)→Q v H'
structure CalM (P:Program) (w:World) (K:zbc5) (mg:Str→Option Value) (base:BHeap) (x:Str) (k:Nat) (G:List D→Option Ev):Prop where
 ex:∃(a:Addr) (fd:FuncData) (ps:List Str),mg x=some (.ref a)∧zbh3 K (.ref a)=true∧L2.Binds K fd ps []∧FnOk P w K mg base CX0 k a fd ps (spM K G)
def sV:D→V
 |.bl b=>.bl b
 |.int i=>.int i
 |.str x=>.str x
 |_=>.non
section
variable {X:Cx}{F:List Addr}{a b c o:Expr}{es:List Expr}{fa fb fc:DE}{ga:DA}{pos:Pos}
def zao1:Ev→Ev→Option Ev:=fun r1 r2=>match r1.d,r2.d with
 |.bl p,.bl q=>some (.cl (.bl (!(p == q))))
 |_,_=>none
theorem od_isntB:OpD X F (compareOp .IsNot) zao1:=by
 intro pins s σ H0 H A x y v u Q r1 r2 r I m g0 rx ry q1 q2 e hq
 unfold zao1 at e
 split at e
 ·rename_i p q z1 z2
  cases e
  have p1:=q1.full
  have p2:=q2.full
  rw [z1]at p1;rw [z2]at p2
  cases zat6 p1;cases zat6 p2
  cases rx;cases ry
  refine PySem.wpAny_isNot_plain (by cases p<;>cases q<;>rfl) ⟨.bl (!(p == q)),H,I,?_,hq _ H (Same.refl H) (.bl _)⟩
  show Value.bool _=Value.bool _
  cases p<;>cases q<;>rfl
 ·cases e
end
end DL
namespace DL
open PySem.Spec L2
section
variable {X:Cx}{F:List Addr}{a b c o:Expr}{es:List Expr}{fa fb fc:DE}{ga:DA}{pos pos1:Pos}
noncomputable def spP (G:List (Int×Int)→List Int→Option (List (Int×Int))):Sp:=fun vs H Q _ => ∃(p:Addr) (ps ps':List (Int×Int)) (ns:List Int),vs=.ref p::ns.map V.int∧H p=some (.dT (pkv ps))∧G ps ns=some ps' ∧
 ∀H',(∀b o,b≠p→H b=some o→H' b=some o)→H' p=some (.dT (pkv ps'))→Q .non H'
structure CalP (P:Program) (w:World) (K:zbc5) (mg:Str→Option Value) (base:BHeap) (x:Str) (k:Nat) (G:List (Int×Int)→List Int→Option (List (Int×Int))):Prop where
 ex:∃(a:Addr) (fd:FuncData) (ps:List Str),mg x=some (.ref a)∧zbh3 K (.ref a)=true∧L2.Binds K fd ps []∧FnOk P w K mg base CX0 k a fd ps (spP G)
end
end DL
namespace PySem.SeqAt
open PySem.Spec
def fstD (e c:Nat→Bool):List Nat→Bool
 |[]=>false
 |j::r=>if e j then fstD e c r else c j
noncomputable def OpAt (op:CmpOp) (A:Around) (s:zbe1) (a b:Value) (k:Bool):Prop := ∀(prog:Program) (w:World) (E:Value→zbe1→Prop) (Q:Value→zbe1→Prop),Q (.bool k) s→wpAny (model prog w) A (richCompare op a b) Q E s
theorem zap6 (l b:Addr) (items items2:Array Value) (n n2:Nat) (dd dd2:Option Addr) (sl sl2:Array (Option Value)) (e c:Nat→Bool) :
  Meets (Builtin.«tuple.__lt__» ⟨[.ref l,.ref b],[]⟩)
   (fun A R s=>s.heap.get? l=some { cls:=.type "tuple",dict:=dd,data:=.seq items n,slots:=sl }∧s.heap.get? b=some { cls:=.type "tuple",dict:=dd2,data:=.seq items2 n2,slots:=sl2 } ∧
    (∀j (h1:j<items.size) (h2:j<items2.size),EqAt A.in1 s items[j] items2[j] (e j))∧(∀j (h1:j<items.size) (h2:j<items2.size),e j=false→OpAt .Lt A.in1 s items[j] items2[j] (c j))∧items.size=items2.size ∧
    R (.ok (.ret (.bool (fstD e c (zbf2 items.size))))) s) :=
 .of_wp fun prog w A R s h=>by
  obtain⟨hp,g,d,tk,os⟩:=s;obtain⟨hl,hb,he,hcc,hsz,h⟩:=h
  have f2:=AutoSeq1.sub_tuple_tuple
  have hZ:(items.toList.zip items2.toList).length=items.size:=by simp [hsz]
  wp_walk using wpAny_loadPart' hl,wpAny_loadPart' hb,wpAny_forIn_list _ (fun rest b s'=>b.1=none∧s'=⟨hp,g,d,tk,os⟩∧∃i,rest=(items.toList.zip items2.toList).drop i ∧
   R (.ok (.ret (.bool (fstD e c ((zbf2 items.size).drop i))))) ⟨hp,g,d,tk,os⟩) _
  case turn =>
   rintro ⟨y,x⟩ rest b s' ⟨hb',rfl,i,hz,hR⟩
   have hlt:i<(items.toList.zip items2.toList).length:=by
    rcases zbo7 i (items.toList.zip items2.toList).length with h' |h'
    ·exact h'
    ·rw [zbi4 h']at hz;cases hz
   have h1:i<items.size:=hZ ▸ hlt
   have h2:i<items2.size:=hsz ▸ h1
   rw [zbe9 hlt]at hz
   injection hz with hyx hrest
   have hy:y=items[i]:=by have:=congrArg Prod.fst hyx;simpa using this
   have hx:x=items2[i]:=by have:=congrArg Prod.snd hyx;simpa using this
   subst hy hx
   have hd:(zbf2 items.size).drop i=i ::(zbf2 items.size).drop (i+1):=by simp [zbe9,h1]
   rw [hd,fstD]at hR
   refine zbd4 (he i h1 h2 prog w _ _ ?_)
   cases hy:e i with
   |true =>
    rw [hy]at hR
    wp_walk
    exact⟨rfl,rfl,i+1,hrest,by simpa using hR⟩
   |false =>
    rw [hy]at hR
    simp only [Bool.not_false,if_true]
    refine zbd4 (wpAny_rule (zbd4 (hcc i h1 h2 hy prog w _ _ ?_)))
    wp_walk
    exact⟨_,rfl,by simpa using hR⟩
  case fin =>
   rintro ⟨b1,b2⟩ s' ⟨hb',rfl,i,hz,hR⟩
   simp only at hb'
   subst hb'
   have hge:items.size≤i:=by
    rcases zbo7 i (items.toList.zip items2.toList).length with h' |h'
    ·rw [zbe9 h']at hz;cases hz
    ·exact hZ ▸ h'
   rw [zbi4 (by simpa using hge)]at hR
   wp_walk
   exact⟨_,rfl,by simpa [Builtin.Tuple.tupleCompareSizes,hsz,fstD] using hR⟩
  case h =>
   exact⟨rfl,rfl,0,rfl,by simpa using h⟩
theorem OpAt.tuples_lt {A:Around}{s:zbe1}{l b:Addr}{items items2:Array Value}{e c:Nat→Bool} (hl:s.heap.IsTuple l items) (hb:s.heap.IsTuple b items2) (hu:A.units<cLine) (hsz:items.size=items2.size)
  (he:∀j (h1:j<items.size) (h2:j<items2.size),EqAt A.in1 s items[j] items2[j] (e j)) (hc:∀j (h1:j<items.size) (h2:j<items2.size),e j=false→OpAt .Lt A.in1 s items[j] items2[j] (c j)) :
  OpAt .Lt A s (.ref l) (.ref b) (fstD e c (zbf2 items.size)):=fun prog w E Q h=>by
 obtain⟨⟨cls,dd,data,sl⟩,ho,hc1,n,hd⟩:=id hl
 obtain⟨⟨cls2,dd2,data2,sl2⟩,ho2,hc2,n2,hd2⟩:=id hb
 simp only at hc1 hd hc2 hd2
 subst hc1 hd hc2 hd2
 exact richCompare_meets_room (op:=.Lt) ⟨_,ho,rfl⟩ ⟨_,ho2,rfl⟩ F.slot_tuple_lt F.entry_tuple_lt (F.args_tuple_lt_2 _ _) (zap6 l b items items2 n n2 dd dd2 sl sl2 e c)
  ⟨ho,ho2,he,hc,hsz,show Value.bool _≠Value.notImplemented∧Q (.bool (fstD e c (zbf2 items.size))) s from ⟨(fun x=>nomatch x),h⟩⟩ hu
theorem zap7 (l b:Addr) (items items2:Array Value) (n n2:Nat) (dd dd2:Option Addr) (sl sl2:Array (Option Value)) (e c:Nat→Bool) :
  Meets (Builtin.«tuple.__gt__» ⟨[.ref l,.ref b],[]⟩)
   (fun A R s=>s.heap.get? l=some { cls:=.type "tuple",dict:=dd,data:=.seq items n,slots:=sl }∧s.heap.get? b=some { cls:=.type "tuple",dict:=dd2,data:=.seq items2 n2,slots:=sl2 } ∧
    (∀j (h1:j<items.size) (h2:j<items2.size),EqAt A.in1 s items[j] items2[j] (e j))∧(∀j (h1:j<items.size) (h2:j<items2.size),e j=false→OpAt .Gt A.in1 s items[j] items2[j] (c j))∧items.size=items2.size ∧
    R (.ok (.ret (.bool (fstD e c (zbf2 items.size))))) s) :=
 .of_wp fun prog w A R s h=>by
  obtain⟨hp,g,d,tk,os⟩:=s;obtain⟨hl,hb,he,hcc,hsz,h⟩:=h
  have f2:=AutoSeq1.sub_tuple_tuple
  have hZ:(items.toList.zip items2.toList).length=items.size:=by simp [hsz]
  wp_walk using wpAny_loadPart' hl,wpAny_loadPart' hb,wpAny_forIn_list _ (fun rest b s'=>b.1=none∧s'=⟨hp,g,d,tk,os⟩∧∃i,rest=(items.toList.zip items2.toList).drop i ∧
   R (.ok (.ret (.bool (fstD e c ((zbf2 items.size).drop i))))) ⟨hp,g,d,tk,os⟩) _
  case turn =>
   rintro ⟨y,x⟩ rest b s' ⟨hb',rfl,i,hz,hR⟩
   have hlt:i<(items.toList.zip items2.toList).length:=by
    rcases zbo7 i (items.toList.zip items2.toList).length with h' |h'
    ·exact h'
    ·rw [zbi4 h']at hz;cases hz
   have h1:i<items.size:=hZ ▸ hlt
   have h2:i<items2.size:=hsz ▸ h1
   rw [zbe9 hlt]at hz
   injection hz with hyx hrest
   have hy:y=items[i]:=by have:=congrArg Prod.fst hyx;simpa using this
   have hx:x=items2[i]:=by have:=congrArg Prod.snd hyx;simpa using this
   subst hy hx
   have hd:(zbf2 items.size).drop i=i ::(zbf2 items.size).drop (i+1):=by simp [zbe9,h1]
   rw [hd,fstD]at hR
   refine zbd4 (he i h1 h2 prog w _ _ ?_)
   cases hy:e i with
   |true =>
    rw [hy]at hR
    wp_walk
    exact⟨rfl,rfl,i+1,hrest,by simpa using hR⟩
   |false =>
    rw [hy]at hR
    simp only [Bool.not_false,if_true]
    refine zbd4 (wpAny_rule (zbd4 (hcc i h1 h2 hy prog w _ _ ?_)))
    wp_walk
    exact⟨_,rfl,by simpa using hR⟩
  case fin =>
   rintro ⟨b1,b2⟩ s' ⟨hb',rfl,i,hz,hR⟩
   simp only at hb'
   subst hb'
   have hge:items.size≤i:=by
    rcases zbo7 i (items.toList.zip items2.toList).length with h' |h'
    ·rw [zbe9 h']at hz;cases hz
    ·exact hZ ▸ h'
   rw [zbi4 (by simpa using hge)]at hR
   wp_walk
   exact⟨_,rfl,by simpa [Builtin.Tuple.tupleCompareSizes,hsz,fstD] using hR⟩
  case h =>
   exact⟨rfl,rfl,0,rfl,by simpa using h⟩
theorem OpAt.tuples_gt {A:Around}{s:zbe1}{l b:Addr}{items items2:Array Value}{e c:Nat→Bool} (hl:s.heap.IsTuple l items) (hb:s.heap.IsTuple b items2) (hu:A.units<cLine) (hsz:items.size=items2.size)
  (he:∀j (h1:j<items.size) (h2:j<items2.size),EqAt A.in1 s items[j] items2[j] (e j)) (hc:∀j (h1:j<items.size) (h2:j<items2.size),e j=false→OpAt .Gt A.in1 s items[j] items2[j] (c j)) :
  OpAt .Gt A s (.ref l) (.ref b) (fstD e c (zbf2 items.size)):=fun prog w E Q h=>by
 obtain⟨⟨cls,dd,data,sl⟩,ho,hc1,n,hd⟩:=id hl
 obtain⟨⟨cls2,dd2,data2,sl2⟩,ho2,hc2,n2,hd2⟩:=id hb
 simp only at hc1 hd hc2 hd2
 subst hc1 hd hc2 hd2
 exact richCompare_meets_room (op:=.Gt) ⟨_,ho,rfl⟩ ⟨_,ho2,rfl⟩ F.slot_tuple_gt F.entry_tuple_gt (F.args_tuple_gt_2 _ _) (zap7 l b items items2 n n2 dd dd2 sl sl2 e c)
  ⟨ho,ho2,he,hc,hsz,show Value.bool _≠Value.notImplemented∧Q (.bool (fstD e c (zbf2 items.size))) s from ⟨(fun x=>nomatch x),h⟩⟩ hu
end PySem.SeqAt
namespace L2
open PySem.Spec
section
variable {X:Cx}{pins:List (Addr×Obj)}{σ:L2.St}{H:Hp}{s:zbe1}{h':Heap}
theorem Inv.tabs (I:Inv X pins σ H s) {p:Addr×Str} (hp:p∈X.base.tabs):H p.1=some (.tbl p.2):=I.base.tbls _ _ (I.ok.tabs p hp)
theorem Inv.coded {t':Nat}{P c f:Addr}{q:Str}{oc fo:Obj} (I:Inv X pins σ H s) (hP:H P=some (.tbl q)) (hx:∀b o,b≠P→s.heap.get? b=some o→h'.get? b=some o)
  (hc:h'.get? c=some oc) (hf:h'.get? f=some fo) (nc:H c=none∨H c=some (.frz oc (.own 0))) (lc:H c=none→s.heap.objs.size≤c) (lf:s.heap.objs.size≤f) (hcf:c≠f)
  (new:ObjOk X.prog X.w (upd (upd H c (.frz oc (.own 0))) f (.frz fo (.own 0))) h' P (.tbl q)) :
  Inv X pins σ (upd (upd H c (.frz oc (.own 0))) f (.frz fo (.own 0))) { s with heap:=h',toks:=t' }:=by
 have hfn:H f=none:=I.hok.fresh lf
 have sm:∀b u,H b=some u→upd (upd H c (.frz oc (.own 0))) f (.frz fo (.own 0)) b=some u:=fun b u e=>by
  have nf:b≠f:=fun z=>by rw [z,hfn]at e;cases e
  rw [zb1 nf]
  by_cases z:b=c
  ·subst z
   rcases nc with n | n
   ·rw [n]at e;cases e
   ·rw [n]at e;cases e;rw [za8]
  ·rw [zb1 z];exact e
 have nP:∀b,H b=none→b≠P:=fun b n z=>by rw [z,hP]at n;cases n
 have none':∀b o,s.heap.get? b=some o→H b=none→upd (upd H c (.frz oc (.own 0))) f (.frz fo (.own 0)) b=none:=fun b o e n=>by
  have nf:b≠f:=fun z=>zbh6 _ (zbe2 (zbe4 (z ▸ e)) lf)
  have ncb:b≠c:=fun z=>by
   rcases nc with w | w
   ·exact zbh6 _ (zbe2 (zbe4 (z ▸ e)) (lc w))
   ·rw [← z,n]at w;cases w
  rw [zb1 nf,zb1 ncb];exact n
 have hPs:∃o',h'.get? P=some o':=by obtain⟨ps,e,_⟩:=new;exact⟨_,e⟩
 refine I.step (g':=s.gens) (d':=s.drawn) (ch:=[]) (fun _ z=>nomatch z) (fun b o _ _ _ e n=>hx b o (nP b n) e) (fun b o _ _ _ e n=>⟨o.slots,hx b o (nP b n) e⟩) (fun b o _ e n=>none' b o e n)
  (fun b o _ e=>?_) (fun b xs e=>sm b _ e) (fun b o u e=>sm b _ e) (fun b q e=>sm b _ e) (fun m hm=>?_) (fun b u e=>?_) I.bare
 ·by_cases z:b=P
  ·subst z;exact hPs
  ·exact⟨o,hx b o z e⟩
 ·obtain⟨o,es,ep,ho,r⟩:=hm
  exact⟨o,es,ep,hx _ o (nP _ I.free) ho,r⟩
 ·by_cases zf:b=f
  ·subst zf;rw [za8]at e;cases e;exact⟨hf,fo,hf⟩
  ·by_cases zc:b=c
   ·subst zc
    rw [zb1 hcf,za8]at e;cases e;exact⟨hc,oc,hc⟩
   ·rw [zb1 zf,zb1 zc]at e
    by_cases zP:b=P
    ·subst zP
     rw [hP]at e;cases e;exact new
    ·refine (I.hok b u e).stay (fun c' v hc' w=>hx c' v ?_ w) (fun c' w=>sm c' _ w) (fun c' xs w=>sm c' _ w) fun c' o u' w=>sm c' _ w
     rcases hc' with w | w
     ·rw [w];exact zP
     ·exact fun z=>by rw [z,hP]at w;cases w
end
noncomputable abbrev lamE (X:Cx) (qual:Str) (scope:Scope) (L f:Addr) (cd:Value):Env:=PySem.W.envX qual scope L f cd (clOf X.env.cells scope.names [])
noncomputable abbrev lamX (X:Cx) (N':List Str) (qual:Str) (scope:Scope) (A':Around) (L f:Addr) (cd:Value) (s₃:zbe1) (H₃:Hp):Cx :=
 { X with N:=N',s₀:=s₃,H₀:=H₃,A:=A'.deeper (lamE X qual scope L f cd),env:=lamE X qual scope L f cd,outer:=X.stack,stack:=lamE X qual scope L f cd::X.stack,ex:=[],fn:=(fun _=>false),calm:=true,pn:=[],xe:=(fun _ _=>False) }
section
variable {X:Cx}{pins:List (Addr×Obj)}{σ:L2.St}{H:Hp}{s:zbe1}{scope:Scope}{N':List Str}{qual:Str}{A':Around}{f:Addr}{cd:Value}
theorem lam_ok (I:Inv X pins σ H s) (S:CompSc X scope) (S0:∀y∈scope.names,y.2≠.cell) (hA:A'.handled=none) (hfr:A'.frames=X.A.frames):(lamX X N' qual scope A' s.heap.objs.size f cd s H).Ok where
 mod:=I.ok.mod
 kind:=S.kind
 glob:=rfl
 blt:=rfl
 above:=zbf1 _
 inj:=fun x y c h1 h2=>I.ok.inj x y c (S.cells I.ok h1) (S.cells I.ok h2)
 has:=fun x hx=>by
  have hx:scope.names.lookup x=some .cell∨scope.names.lookup x=some .free:=hx
  rcases hx with hx | hx
  ·exact absurd rfl (S0 _ (PySem.mem_of_lookup hx))
  ·exact zp7 (PySem.mem_of_lookup hx)
 cab:=fun x c h _=>by cases h
 hd:=fun _=>hA
 frames:=Around.frames_deeper (by rw [hfr];exact I.ok.frames)
 stk:=.inr ⟨rfl,rfl⟩
 exf:=fun b hb=>absurd (show b∈([]:List Addr) from hb) (by simp)
 bs:=fun b o e=>I.bs b o e
 bsz:=zbh8 I.ok.bsz I.sz
 noex:=fun b o e hb=>absurd (show b∈([]:List Addr) from hb) (by simp)
 exfs:=fun b hb=>absurd (show b∈([]:List Addr) from hb) (by simp)
 funs:=I.stack
 frf:=I.stkFree
 tabs:=fun p hp=>I.tabs hp
theorem lam_inv (I:Inv X pins σ H s) (S:CompSc X scope) (S0:∀y∈scope.names,y.2≠.cell) (hA:A'.handled=none) (hfr:A'.frames=X.A.frames) {h1:Heap}{t1:Nat}{x0:Str}{u0:Value}{v0:V}{cs:L2.St}
  (hns:h1.Ns s.heap.objs.size (fun x=>[(x0,u0)].reverse.lookup x)) (hk:∀b o,s.heap.get? b=some o→h1.get? b=some o) (r0:RelV v0 u0) (h0:N'[0]?=some x0) (hx0:scope.names.lookup x0=some .local) (hl:cs.length+1=N'.length)
  (cap:∀(i:Nat) (x:Str) (v:V),N'[i+1]?=some x→cs[i]?=some (some v)→(x,NameKind.free)∈scope.names∧∃j:Nat,X.N[j]?=some x∧σ[j]?=some (some v)) :
  Inv (lamX X N' qual scope A' s.heap.objs.size f cd s H) [] (some v0::cs) H { s with heap:=h1,toks:=t1 } where
 ok:=lam_ok I S S0 hA hfr
 os:=rfl
 bare:=I.bare
 base:=Un.kept hk
 loc:=⟨_,hns,fun i x v e1 e2 vs=>by
  cases i with
  |zero =>
   rw [show (lamX X N' qual scope A' s.heap.objs.size f cd s H).N=N' from rfl,h0]at e1
   cases e1
   cases e2
   exact⟨u0,r0,.inl ⟨hx0,by simp⟩⟩
  |succ i =>
   obtain⟨hfree,j,j1,j2⟩:=cap i x v e1 e2
   obtain⟨m0,hn0,hl0⟩:=I.loc
   have vis:Vis X.env.scope x:=by
    rcases S.free _ hfree rfl with z | z
    ·exact .inr (.inl z)
    ·exact .inr (.inr z)
   obtain⟨u,r,l⟩:=hl0 j x v j1 j2 vis
   refine⟨u,r,?_⟩
   rcases l with ⟨k,_⟩ | ⟨k,c,e,z⟩
   ·exfalso
    rcases S.free _ hfree rfl with q | q
    ·rw [k]at q;cases q
    ·rw [k]at q;cases q
   ·obtain⟨c',hc'⟩:=zp7 (cells:=X.env.cells) (acc:=[]) hfree
    have e':=S.cells I.ok hc'
    rw [e]at e';cases e'
    refine .inr ⟨.inr (S.names _ hfree),c,hc',?_⟩
    obtain⟨o,ho,hd⟩:=z
    exact⟨o,hk _ _ ho,hd⟩⟩
 cell:=fun x c h=>by
  obtain⟨v,o,ho,hd⟩:=I.cell x c (S.cells I.ok h)
  exact⟨v,o,hk _ _ ho,hd⟩
 free:=I.hok.fresh (zbf1 _)
 freeC:=fun x c h=>I.freeC x c (S.cells I.ok h)
 pin:=fun p hp=>absurd (show p∈([]:List (Addr×Obj)) from hp) (by simp)
 hok:=I.hok.kept hk
 len:=by simpa using hl
theorem lam_run {Q:VK}{params:Arguments}{body:Expr}{pm ctv:Value}{c:Addr}{oc:Obj}{vsc:Array Value}{tq:Tok}{te:TE}{x0:Str}{u0:Value}{v0:V}{cap:List Nat}{E:Value→zbe1→Prop}
  (I:Inv X pins σ H s) (S:CompSc X scope) (S0:∀y∈scope.names,y.2≠.cell) (hA:A'.handled=none) (hfr:A'.frames=X.A.frames) (hdp:A'.depth<recursionLimit)
  (hf:H f=some (.frz (zbl0 "<lambda>" qual params body scope (clOf X.env.cells scope.names []) pm c ctv) (.own 0))) (hc:H c=some (.frz oc (.own 0))) (hod:oc.data=.fields vsc) (hq:vsc[1]?=some (.str qual tq))
  (hco:scope.isCoroutine=false) (hgen:scope.isGenerator=false)
  (hbind:bindArgs (zbr3 "<lambda>" qual params body scope (clOf X.env.cells scope.names []) pm (.ref c) ctv) ⟨[u0],[]⟩=pure [(x0,u0)])
  (r0:RelV v0 u0) (h0:N'[0]?=some x0) (hx0:scope.names.lookup x0=some .local) (hl:N'.length=1+cap.length)
  (hcap:∀(k:Nat) (j:Nat),cap[k]?=some j→∃x,N'[1+k]?=some x∧X.N[j]?=some x∧(x,NameKind.free)∈scope.names)
  (he:∀L s₃ H₃,PE (lamX X N' qual scope A' L f (.ref c) s₃ H₃) body te)
  (h:te (some v0::cap.map fun j=>(σ[j]?).getD none) H Q) :
  wpAny (model X.prog X.w) A' (call (.ref f) [u0]) (EP X pins σ Q) E s:=by
 obtain⟨gf,_⟩:=I.hok f _ hf
 obtain⟨gc,_⟩:=I.hok c _ hc
 refine wpAny_call (PySem.W.kla_callFunE hdp gf rfl hco hgen rfl ⟨c,oc,vsc,tq,rfl,gc,hod,hq⟩ ?_)
 rw [hbind]
 refine zbf3 (wpAny_newFunctionEnv S0 (fun y hy=>?_) (fun h₁ hns hsb=>⟨I.nolimit.fresh _ hsb,?_⟩) S.kind)
 ·have:y=(x0,u0):=by simpa using hy
  rw [this];exact hx0
 ·have hk:∀b o,s.heap.get? b=some o→h₁.get? b=some o:=fun b o e=>hsb.extBut b o (zbf5 (zbe4 e)) (zbd5 _ e)
  have J:=lam_inv (N':=N') (qual:=qual) (f:=f) (cd:=.ref c) (t1:=s.toks + [(x0,u0)].length) (cs:=cap.map fun j=>(σ[j]?).getD none) I S S0 hA hfr hns hk r0 h0 hx0 (by simp [hl];lia) (fun i x v e1 e2=>by
   rw [zbg0]at e2
   cases ej:cap[i]? with
   |none=>rw [ej]at e2;cases e2
   |some j =>
    rw [ej]at e2
    obtain⟨x',a1,a2,a3⟩:=hcap i j ej
    rw [Nat.add_comm 1 i,e1]at a1
    cases a1
    refine⟨a3,j,a2,?_⟩
    have e2:(σ[j]?).getD none=some v:=by simpa using e2
    cases q:σ[j]? with
    |none=>rw [q]at e2;cases e2
    |some z=>rw [q]at e2;have:z=some v:=e2;rw [this])
  refine PySem.W.kla_codeExpr (wpAny_mono (he _ _ _ [] _ _ H Q J h) (fun v s' hs=>?_) fun e s' hF=>False.elim hF)
  obtain⟨v',H',K,rv,q⟩:=hs
  exact I.after ⟨v',H',K.os,K.bare,K.base,K.hok,rv,q⟩
theorem lam_make {E:Value→zbe1→Prop}{Q:Value→zbe1→Prop}{params:Arguments}{body:Expr}{pos:Pos}{c P:Addr}{q:Str}
  (I:Inv X pins σ H s) (S:CompSc X scope) (hcode:X.env.code=.ref c) (C:zbl9 X.base c P) (hP:(P,q)∈X.base.tabs) (hq:X.env.qual++"<lambda>"=q) (hdef:defaultsOf params X.env=([],[]))
  (h:∀f c' oc vs tk pm ctv s',Inv X pins σ (upd (upd H c' (.frz oc (.own 0))) f (.frz (zbl0 "<lambda>" q params body scope (clOf X.env.cells scope.names []) pm c' ctv) (.own 0))) s' →
   (H c'=none∨H c'=some (.frz oc (.own 0)))→H f=none→c'≠f→oc.data=.fields vs→vs[1]?=some (.str q tk)→Q (.ref f) s') :
  wpAny (model X.prog X.w) X.A (eval (.Lambda params body scope pos) X.env) Q E s:=by
 have hPt:=I.tabs hP
 obtain⟨ps,gP,tr,cod⟩:=I.hok P _ hPt
 have Ck:=C.keeps I.bk
 have hns:s.heap.Ns mainGlobals X.mg:=I.mod.glob.keeps I.bk
 obtain⟨bm,ob,b1,b2,b3,b4,b5,b6⟩:=I.mod.bm
 have hgP:mainGlobals≠P:=fun z=>by
  obtain⟨o,es,ep,e,hd,_⟩:=hns
  rw [z,gP]at e;cases e;cases hd
 have hbP:bm≠P:=fun z=>by
  have e:=I.bk _ _ b3
  rw [z,gP]at e;cases e;cases b4
 have hbG:bm≠mainGlobals:=fun z=>by
  obtain⟨o,es,ep,e,hd,_⟩:=I.mod.glob
  rw [z,e]at b3;cases b3;rw [hd]at b6;cases b6
 subst hq
 refine PySem.W.kla_eval hdef ?_
 cases hf:codeAmong pos ps.toList with
 |none =>
  refine PySem.W.kla_makeFunction (mg:=X.mg) (zl7 (S.frees I.ok)) I.ok.glob hns hcode Ck gP tr hf hgP ⟨bm,ob,b1,b2,hbG,hbP,I.bk _ _ b3,b4,b5,b6⟩ fun c' ctv h' tk hx hge hlt hrec htb=>?_
  obtain⟨c₂,oc,vs,t,e2,hoc,hd,hv⟩:=hrec
  cases e2
  have nc:H c'=none:=I.hok.fresh hge
  have lf:s.heap.objs.size≤h'.objs.size:=zbn1 (zbr9 hge hlt)
  have nf:H h'.objs.size=none:=I.hok.fresh lf
  refine h h'.objs.size c' oc vs t _ ctv _ (I.coded hPt (fun b o n e=>zbd5 _ (hx b o n e)) (zbd5 _ hoc) (zbf7 _ rfl) (.inl nc) (fun _=>hge) lf (zbf5 hlt) ?_) (.inl nc) nf (zbf5 hlt) hd hv
  refine⟨_,zbd5 _ htb,?_,fun pos' cv e=>?_⟩
  ·rw [zbr4]
   exact TriplesOk_snoc _ _ _ _ tr
  ·have key:∀l:List Value,TriplesOk l→codeAmong pos' (l++[rawInt pos.line,rawInt pos.col,.ref c'])=some cv→codeAmong pos' l=some cv∨cv=.ref c':=by
    intro l
    fun_induction TriplesOk l with
    |case1 =>
     intro _ e
     simp only [zbk9,codeAmong,rawInt]at e
     split at e
     ·cases e;exact .inr rfl
     ·cases e
    |case2 a t b u x rest ih =>
     intro hr e
     simp only [zbt3,codeAmong]at e ⊢
     split at e
     ·rename_i w;rw [if_pos w];exact .inl e
     ·rename_i w;rw [if_neg w];exact ih hr e
    |case3 l h1 h2=>intro h;exact h.elim
   rw [zbr4]at e
   have sm:∀b u,H b=some u→upd (upd H c' (.frz oc (.own 0))) h'.objs.size (.frz (zbl0 "<lambda>" (X.env.qual++"<lambda>") params body scope (clOf X.env.cells scope.names []) ((X.mg "__name__").getD .none) c' ctv) (.own 0)) b=some u:=fun b u e=>by
    rw [zb1 (fun z=>by rw [z,nf]at e;cases e),zb1 (fun z=>by rw [z,nc]at e;cases e)];exact e
   rcases key _ tr e with w | w
   ·obtain⟨c3,oc3,vs3,t3,a1,a2,a3⟩:=cod pos' cv w
    exact⟨c3,oc3,vs3,t3,a1,sm _ _ a2,a3⟩
   ·exact⟨c',oc,vs,t,w,by rw [zb1 (zbf5 hlt),za8],hd,hv⟩
 |some cv =>
  obtain⟨c',oc,vs,t,rfl,hcH,hd,hv⟩:=cod pos cv hf
  refine PySem.W.kla_makeFunctionHit (mg:=X.mg) (zl7 (S.frees I.ok)) I.ok.glob hns hcode Ck gP tr hf ⟨bm,ob,b1,b2,hbG,hbP,I.bk _ _ b3,b4,b5,b6⟩ fun ctv h' tk hk hsz=>?_
  have lf:s.heap.objs.size≤h'.objs.size:=hsz
  have nf:H h'.objs.size=none:=I.hok.fresh lf
  obtain⟨gc,_⟩:=I.hok c' _ hcH
  have ne:c'≠h'.objs.size:=fun z=>by rw [z,nf]at hcH;cases hcH
  have sm:∀b u,H b=some u→upd (upd H c' (.frz oc (.own 0))) h'.objs.size (.frz (zbl0 "<lambda>" (X.env.qual++"<lambda>") params body scope (clOf X.env.cells scope.names []) ((X.mg "__name__").getD .none) c' ctv) (.own 0)) b=some u:=fun b u e=>by
   rw [zb1 (fun z=>by rw [z,nf]at e;cases e)]
   by_cases z:b=c'
   ·subst z;rw [hcH]at e;cases e;rw [za8]
   ·rw [zb1 z];exact e
  refine h h'.objs.size c' oc vs t _ ctv _ (I.coded hPt (fun b o n e=>zbd5 _ (hk b o e)) (zbd5 _ (hk _ _ gc)) (zbf7 _ rfl) (.inr hcH) (fun n=>by rw [hcH]at n;cases n) lf ne ?_) (.inr hcH) nf ne hd hv
  refine⟨ps,zbd5 _ (hk _ _ gP),tr,fun pos' cv e=>?_⟩
  obtain⟨c3,oc3,vs3,t3,a1,a2,a3⟩:=cod pos' cv e
  exact⟨c3,oc3,vs3,t3,a1,sm _ _ a2,a3⟩
end
end L2
namespace L2
open PySem.Spec
noncomputable def CmpR (X:Cx) (op:CmpOp) (p:V→V→Hp→Bool→Prop):Prop :=
 ∀(pins:List (Addr×Obj)) (s:zbe1) (σ:L2.St) (H:Hp) (y z:V) (u u':Value) (c:Bool) (Q:Value→zbe1→Prop) (E:Value→zbe1→Prop),Inv X pins σ H s→RelV y u→RelV z u'→p y z H c →
  (∀s',Inv X pins σ H s'→(∀b o,s.heap.get? b=some o→s'.heap.get? b=some o)→Q (.bool c) s')→wpAny (model X.prog X.w) X.A.in1 (richCompare op u u') Q E s
theorem Vals.two2 {a b:V}{us:List Value} (h:Vals [a,b] us):∃u v,us=[u,v]∧RelV a u∧RelV b v:=by
 cases h with
 |cons r t=>cases t with
  |cons r' t'=>cases t';exact⟨_,_,rfl,r,r'⟩
section
variable {X:Cx}{σ:L2.St}{l f S it:Addr}{xs:List V}{KT:V→Hp→VK→Prop}{p:V→V→Hp→Bool→Prop}{W:Nat→V→V→Hp→Prop}{Q:VK}{pins:List (Addr×Obj)}
theorem kl_max (hcm:X.calm=true) (hcmp:CmpR X .Gt p)
  (turn:∀(x:V) (H1:Hp) (s1:zbe1) (pins1:List (Addr×Obj)) (Q1:VK) (u:Value),Inv X pins1 σ H1 s1→RelV x u→KT x H1 Q1→wpAny (model X.prog X.w) X.A.in1 (call (.ref f) [u]) (EP X pins1 σ Q1) (fun _ _=>False) s1)
  (hW:∀j b k H1,W j b k H1→SqL X.K H1 l xs∧H1 S=some (.lst [b,k]))
  (stp:∀j b k H1 x,W j b k H1→xs[j]?=some x→KT x H1 fun k' H2 => ∃c,p k' k H2 c∧H2 S=some (.lst [b,k])∧(c=true→W (j+1) x k' (upd H2 S (.lst [x,k'])))∧(c=false→W (j+1) b k H2))
  (fin:∀b k H1,W xs.length b k H1→Q b (upd H1 S (.lst []))) (hli:l≠it) :
  ∀(m j:Nat) (b k:V) (H:Hp) (s:zbe1),xs.length - j=m→j≤xs.length→W j b k H→Inv X pins σ H s→s.heap.IsListIter it l j→FpOk X pins H it →
   codeAny (model X.prog X.w) X.A (.builtin "max.loop" ⟨[.ref it,.ref f,.ref S],[]⟩) (fun r s'=>match r with | .ok (.ret u)=>EP X pins σ Q u s' | .ok _=>False | .error _=>False) s:=by
 have hname:(toString "max"++toString ".loop":String) = "max.loop":=by decide
 intro m
 induction m with
 |zero =>
  intro j b k H s hm hj w I hit fpo
  have hin:j=xs.length:=by lia
  obtain⟨hl,hS⟩:=hW j b k H w
  obtain⟨its,rv,pl,_⟩:=I.list hl
  have hsz:its.toArray.size=xs.length:=by simp [rv.length]
  have hSI:S≠it:=fun z=>by rw [z,fpo.1]at hS;cases hS
  obtain⟨_,bk,nS,rS,gS⟩:=I.hok S _ hS
  obtain⟨ub,uk,rfl,rb,rk⟩:=rS.two2
  have Wk:=Walks.list (prog:=X.prog) (w:=X.w) (A:=X.A.in1) (I.ok.hd hcm) it l hli its.toArray
  refine codeAny_builtin zbm3 ?_
  rw [Around.under_plainId zbh1 _]
  show wpAny _ X.A.in1 (seqItems? (.ref S) >>= _) _ _ _
  refine zbd4 (wpAny_seqItems gS rfl ?_)
  show wpAny _ X.A.in1 (tryCatch (pyNext (.ref it)) _ >>= _) _ _ _
  refine zbd4 (wpAny_tryCatch (Wk.done _ _ _ ⟨by rw [hsz, ← hin];exact hit,DL.PlainL.isL pl⟩ fun h' tk' hk'=>?_))
  have I1:=I.turned (t':=tk') (fun c o n e=>hk' c o (by simpa using n) e) fpo.1 fpo.2.1 fpo.2.2.2.1 fpo.2.2.2.2.1 fpo.2.2.2.2.2
  have gS1:=hk' S _ (by simpa using hSI) gS
  show wpAny _ X.A.in1 (updateSeq S (fun _ => #[]) >>= _) _ _ _
  refine zbd4 (wpAny_updateSeq gS1 rfl (zbd4 (wpAny_letGo (zbf3 ?_))))
  have g2:=get?_update_seq gS1 (fun _=>(#[]:Array Value))
  refine⟨b,_,I1.write (t':=tk') (o:=.lst []) (by rw [hS];trivial) (.inl rfl) (fun c o n e=>(zbf9 _ _ (Ne.symm n)).trans e) ⟨_,g2⟩ ⟨by simp,[],_,.nil,g2⟩,rb,?_⟩
  subst hin
  exact fin b k H w
 |succ m ih =>
  intro j b k H s hm hj w I hit fpo
  have hlt:j<xs.length:=by lia
  obtain⟨hl,hS⟩:=hW j b k H w
  obtain⟨its,rv,pl,_⟩:=I.list hl
  have hsz:its.toArray.size=xs.length:=by simp [rv.length]
  have hSI:S≠it:=fun z=>by rw [z,fpo.1]at hS;cases hS
  obtain⟨_,bk,nS,rS,gS⟩:=I.hok S _ hS
  obtain⟨ub,uk,rfl,rb,rk⟩:=rS.two2
  have Wk:=Walks.list (prog:=X.prog) (w:=X.w) (A:=X.A.in1) (I.ok.hd hcm) it l hli its.toArray
  refine codeAny_builtin zbm3 ?_
  rw [Around.under_plainId zbh1 _]
  show wpAny _ X.A.in1 (seqItems? (.ref S) >>= _) _ _ _
  refine zbd4 (wpAny_seqItems gS rfl ?_)
  show wpAny _ X.A.in1 (tryCatch (pyNext (.ref it)) _ >>= _) _ _ _
  refine zbd4 (wpAny_tryCatch (Wk.item j _ _ _ (by rw [hsz];exact hlt) ⟨hit,DL.PlainL.isL pl⟩ fun v h' tk' hP hst' hk'=>?_))
  have hv:its[j]?=some v:=by simpa using hP
  have hx:xs[j]?=some (xs[j]'hlt):=zbd1 hlt
  obtain⟨v',e',rx⟩:=rv.get hx
  rw [hv]at e'
  cases e'
  generalize xs[j]'hlt=x at hx rx
  have I1:=I.turned (t':=tk') (fun c o n e=>hk' c o (by simpa using n) e) fpo.1 fpo.2.1 fpo.2.2.2.1 fpo.2.2.2.2.1 fpo.2.2.2.2.2
  obtain⟨oI,hoI,hoc,hod⟩:=id hst'.1
  have I2:=I1.pinned (fp:=[it]) (fun c hc=>by rw [zbd3.mp hc];exact fpo) (fun c hc=>by rw [zbd3.mp hc];exact⟨oI,hoI,fun z e=>by rw [hod]at e;cases e⟩)
  show wpAny _ X.A.in1 (tryCatch (holding [v] (call (.ref f) [v])) _ >>= _) _ _ _
  refine zbd4 (wpAny_tryCatch (wpAny_holding (wpAny_mono (turn x H _ _ _ v I2 rx (stp j b k H x w hx)) (fun y s3 hs3=>?_) fun _ _ hF=>hF.elim)))
  obtain⟨k',H2,I3,rk',c,hc,hS2,w1,w0⟩:=hs3
  have pn:=I3.pin (it,oI) (zbc4 _ (zbc4 _ (zd0 (by simp) hoI)))
  obtain⟨_,bk2,nS2,rS2,gS2⟩:=I3.hok S _ hS2
  obtain⟨ub2,uk2,rfl,rb2,rk2⟩:=rS2.two2
  show wpAny _ X.A.in1 (tryCatch (holding [v,y] (richCompare .Gt y uk >>= _)) _ >>= _) _ _ _
  refine zbd4 (wpAny_tryCatch (wpAny_holding (zbd4 (hcmp _ _ _ _ _ _ _ _ _ _ _ I3 rk' rk hc fun s4 I4 g4=>?_))))
  refine zbd4 (wpAny_holding (wpAny_truthy_bool ?_))
  refine zbd4 (wpAny_letGo (zbf3 ?_))
  have I5:=I4.unpinned
  have pn4:=I4.pin (it,oI) (zbc4 _ (zbc4 _ (zd0 (by simp) hoI)))
  have fp5:FpOk X pins H2 it:=⟨pn4.2.1,fpo.2⟩
  have gS4:=g4 _ _ gS2
  cases c with
  |true =>
   simp only [if_true]
   refine zbd4 (wpAny_updateSeq gS4 rfl (zbd4 (wpAny_letGo ?_)))
   rw [hname]
   have g5:=get?_update_seq gS4 (fun _ => #[v,y])
   have I6:=I5.write (t':=s4.toks) (o:=.lst [x,k']) (by rw [hS2];trivial) (.inl rfl) (fun c o n e=>(zbf9 _ _ (Ne.symm n)).trans e) ⟨_,g5⟩ ⟨by simp [sizeLine],[v,y],_,.cons rx (.cons rk' .nil),g5⟩
   refine zbf3 ⟨plainId_quiet zbh1 _,ih (j+1) x k' _ _ (by lia) hlt (w1 rfl) I6 ⟨oI,(zbf9 _ _ hSI).trans pn4.1,hoc,hod⟩ ⟨by rw [zb1 (Ne.symm hSI)];exact fp5.1,fpo.2⟩⟩
  |false =>
   simp only [zbj3,if_false]
   refine zbd4 (wpAny_letGo ?_)
   rw [hname]
   exact zbf3 ⟨plainId_quiet zbh1 _,ih (j+1) b k H2 _ (by lia) hlt (w0 rfl) I5 ⟨oI,pn4.1,hoc,hod⟩ fp5⟩
theorem ka_max (a v:Value):argsOk "max" ⟨[a],[(Str.ofString "key",v)]⟩:=by unfold argsOk;kernel_rfl
theorem kc_max {H:Hp}{s:zbe1}{E:Value→zbe1→Prop} (hcm:X.calm=true) (hcmp:CmpR X .Gt p)
  (turn:∀(x:V) (H1:Hp) (s1:zbe1) (pins1:List (Addr×Obj)) (Q1:VK) (u:Value),Inv X pins1 σ H1 s1→RelV x u→KT x H1 Q1→wpAny (model X.prog X.w) X.A.in1 (call (.ref f) [u]) (EP X pins1 σ Q1) (fun _ _=>False) s1)
  (I:Inv X pins σ H s) (hl:SqL X.K H l xs) (hx:xs[0]?=some x0)
  (h:∀S,H S=none→∃W:Nat→V→V→Hp→Prop,(∀j b k H1,W j b k H1→SqL X.K H1 l xs∧H1 S=some (.lst [b,k])) ∧
   (KT x0 (upd H S (.lst [])) fun k H2=>H2 S=some (.lst [])∧W 1 x0 k (upd H2 S (.lst [x0,k]))) ∧
   (∀j b k H1 x,W j b k H1→xs[j]?=some x→KT x H1 fun k' H2 => ∃c,p k' k H2 c∧H2 S=some (.lst [b,k])∧(c=true→W (j+1) x k' (upd H2 S (.lst [x,k'])))∧(c=false→W (j+1) b k H2)) ∧
   (∀b k H1,W xs.length b k H1→Q b (upd H1 S (.lst [])))) :
  wpAny (model X.prog X.w) X.A (call (.builtin "max") [.ref l] [(Str.ofString "key",.ref f)]) (EP X pins σ Q) E s:=by
 have hname:(toString "max"++toString ".loop":String) = "max.loop":=by decide
 obtain⟨its,rv,pl,_⟩:=I.list hl
 have hls:=DL.PlainL.isL pl
 obtain⟨ol,hol,_⟩:=id hls
 have hll:l<s.heap.objs.size:=zbe4 hol
 have hlen:0<xs.length:=(zbg5.mp hx).1
 refine kmk_tree PySem.F.kind_max PySem.F.plain_max PySem.F.entry_max (ka_max _ _) ?_
 show wpAny _ X.A.in1 (Builtin.Builtins.bindParams "max" ["key", "default"] 0 ⟨[],[(Str.ofString "key",.ref f)]⟩ >>= _) _ _ s
 refine zbd4 (wpAny_of_eq (show Builtin.Builtins.bindParams "max" ["key", "default"] 0 ⟨[],[(Str.ofString "key",.ref f)]⟩=pure [some (.ref f),none] from rfl) ?_)
 refine zbd4 (zbf3 ?_)
 refine zbd4 (wpAny_pyIter_list hls ?_)
 refine zbd4 (wpAny_newList ?_ (zbs0 _))
 rw [hname]
 refine zbf3 ⟨plainId_quiet zbh1 _,?_⟩
 have I1:Inv X pins σ H { s with heap:=s.heap.push { cls:=.type "list_iterator",data:=.fields #[.ref l,.int 0 0] },toks:=s.toks }:=I.kept (fun _ _ e=>zbd5 _ e)
 have I2:=I1.lnew (its:=[]) (t':=s.toks) .nil (by simp)
 have hS:(s.heap.push { cls:=.type "list_iterator",data:=.fields #[.ref l,.int 0 0] }).objs.size=s.heap.objs.size+1:=zbk6 ..
 generalize hSS:(s.heap.push { cls:=.type "list_iterator",data:=.fields #[.ref l,.int 0 0] }).objs.size=S at hS I2 ⊢
 have nS:H S=none:=I.hok.fresh (by lia)
 obtain⟨W,hW,k0,stp,fin⟩:=h S nS
 have nit:H s.heap.objs.size=none:=I.fresh
 have hSI:S≠s.heap.objs.size:=by lia
 have fpo0:FpOk X pins H s.heap.objs.size:=I.fpOk (zbf1 _) nit
 have fpo:FpOk X pins (upd H S (.lst [])) s.heap.objs.size:=⟨by rw [zb1 (Ne.symm hSI)];exact nit,fpo0.2⟩
 have hl1:SqL X.K (upd H S (.lst [])) l xs:=by
  refine (show Same H (upd H S (.lst [])) from fun b o e=>?_).seq hl
  rw [zb1 (fun z=>by rw [z,nS]at e;cases e)];exact e
 have hli:l≠s.heap.objs.size:=zbf5 hll
 obtain⟨its1,rv1,pl1,_⟩:=I2.list hl1
 have hsz:its1.toArray.size=xs.length:=by simp [rv1.length]
 have gI:((s.heap.push { cls:=.type "list_iterator",data:=.fields #[.ref l,.int 0 0] }).push { cls:=.type "list",data:=.seq ([]:List Value).toArray }).get? s.heap.objs.size=some { cls:=.type "list_iterator",data:=.fields #[.ref l,.int 0 0] } :=
  zbd5 _ (zbf7 _ rfl)
 have gS:((s.heap.push { cls:=.type "list_iterator",data:=.fields #[.ref l,.int 0 0] }).push { cls:=.type "list",data:=.seq ([]:List Value).toArray }).get? S=some (seqObj "list" #[] 0):=hSS ▸ zbf7 _ rfl
 have Wk:=Walks.list (prog:=X.prog) (w:=X.w) (A:=X.A.in1) (I.ok.hd hcm) s.heap.objs.size l hli its1.toArray
 refine codeAny_builtin zbm3 ?_
 rw [Around.under_plainId zbh1 _]
 show wpAny _ X.A.in1 (seqItems? (.ref S) >>= _) _ _ _
 refine zbd4 (wpAny_seqItems gS rfl ?_)
 show wpAny _ X.A.in1 (tryCatch (pyNext (.ref s.heap.objs.size)) _ >>= _) _ _ _
 refine zbd4 (wpAny_tryCatch (Wk.item 0 _ _ _ (by rw [hsz];exact hlen) ⟨⟨_,gI,rfl,rfl⟩,DL.PlainL.isL pl1⟩ fun v h' tk' hP hst' hk'=>?_))
 have hv:its1[0]?=some v:=by simpa using hP
 obtain⟨v',e',rx⟩:=rv1.get hx
 rw [hv]at e'
 cases e'
 have I3:=I2.turned (t':=tk') (fun c o n e=>hk' c o (by simpa using n) e) fpo.1 fpo.2.1 fpo.2.2.2.1 fpo.2.2.2.2.1 fpo.2.2.2.2.2
 obtain⟨oI,hoI,hoc,hod⟩:=id hst'.1
 have I4:=I3.pinned (fp:=[s.heap.objs.size]) (fun c hc=>by rw [zbd3.mp hc];exact fpo) (fun c hc=>by rw [zbd3.mp hc];exact⟨oI,hoI,fun z e=>by rw [hod]at e;cases e⟩)
 show wpAny _ X.A.in1 (tryCatch (holding [v] (call (.ref f) [v])) _ >>= _) _ _ _
 refine zbd4 (wpAny_tryCatch (wpAny_holding (wpAny_mono (turn x0 _ _ _ _ v I4 rx k0) (fun y s3 hs3=>?_) fun _ _ hF=>hF.elim)))
 obtain⟨k',H2,I5,rk',hS2,w1⟩:=hs3
 have pn:=I5.pin (s.heap.objs.size,oI) (zbc4 _ (zbc4 _ (zd0 (by simp) hoI)))
 obtain⟨_,bk2,nS2,rS2,gS2⟩:=I5.hok S _ hS2
 cases rS2
 show wpAny _ X.A.in1 (updateSeq S (fun _ => #[v,y]) >>= _) _ _ _
 refine zbd4 (wpAny_updateSeq gS2 rfl ?_)
 rw [hname]
 have g5:=get?_update_seq gS2 (fun _ => #[v,y])
 have I6:=I5.unpinned.write (t':=s3.toks) (o:=.lst [x0,k']) (by rw [hS2];trivial) (.inl rfl) (fun c o n e=>(zbf9 _ _ (Ne.symm n)).trans e) ⟨_,g5⟩ ⟨by simp [sizeLine],[v,y],_,.cons rx (.cons rk' .nil),g5⟩
 refine zbf3 ⟨plainId_quiet zbh1 _,codeAny_mono (kl_max hcm hcmp turn hW stp fin hli _ 1 x0 k' _ _ rfl hlen w1 I6 ⟨oI,(zbf9 _ _ hSI).trans pn.1,hoc,hod⟩ ⟨by rw [zb1 (Ne.symm hSI)];exact pn.2.1,fpo.2⟩) fun r s' hr=>?_⟩
 cases r with
 |error e=>exact hr.elim
 |ok fl=>cases fl with
  |ret u=>exact hr
  |next=>exact hr.elim
  |brk=>exact hr.elim
  |cont=>exact hr.elim
end
end L2
namespace DL
open PySem.Spec L2
def cmpI (mx:Bool) (i j:Int):Bool:=if mx then decide (i > j) else decide (i<j)
def lexI (mx:Bool):List Int→List Int→Bool
 |i::r,j::q=>if decide (i=j) then lexI mx r q else cmpI mx i j
 |_,_=>false
noncomputable def cmpD (mx:Bool):D→D→Option Bool
 |.int i,.int j=>some (cmpI mx i j)
 |.tup xs,.tup ys=>(zj6 xs).bind fun is=>(zj6 ys).bind fun js=>if is.length=js.length then some (lexI mx is js) else none
 |_,_=>none
theorem zay6 {mx:Bool}:∀ {is js:List Int}{e c:Nat→Bool},is.length=js.length→(∀j a b,is[j]?=some a→js[j]?=some b→e j=decide (a=b)∧c j=cmpI mx a b)→SeqAt.fstD e c (zbf2 is.length)=lexI mx is js
 |[],[],e,c,_,_=>rfl
 |i::r,j::q,e,c,hl,h=>by
  have h0:=h 0 i j rfl rfl
  have shift:∀l:List Nat,SeqAt.fstD e c (l.map Nat.succ)=SeqAt.fstD (fun k=>e (k+1)) (fun k=>c (k+1)) l:=by
   intro l
   induction l with
   |nil=>rfl
   |cons a l ih=>simp only [zbd7,SeqAt.fstD,ih]
  rw [zbf4,zbk5,SeqAt.fstD,shift,h0.1,h0.2,lexI,zay6 (mx:=mx) (is:=r) (js:=q) (by simpa using hl) fun k a b h1 h2=>h (k+1) a b (by simpa using h1) (by simpa using h2)]
 |[],_::_,_,_,hl,_=>by simp at hl
 |_::_,[],_,_,hl,_=>by simp at hl
def pD (K:zbc5) (mx:Bool):V→V→Hp→Bool→Prop:=fun y z H c => ∃d e,Rep K H d y∧Rep K H e z∧cmpD mx d e=some c
section
variable {X:Cx}
theorem cmp_D {mx:Bool}{op:CmpOp} (hop:op=if mx then .Gt else .Lt) (hu:X.A.units+64<cLine):CmpR X op (pD X.K mx):=by
 rintro pins s σ H y z u u' c Q E I ry rz ⟨d,e,rd,re,hc⟩ h
 have hs:=h s I fun _ _ e=>e
 have icmp:∀ {A:Around}{i j:Int}{t t':Tok},SeqAt.OpAt op A s (.int i t) (.int j t') (cmpI mx i j):=fun {A i j t t'} prog w E Q hq=>by
  cases mx with
  |false =>
   subst hop
   exact CmpOf.ints_lt (prog:=prog) (w:=w) (A:=A) (P:=fun (n:Nat) v => ∃t,v=.int (if n=0 then i else j) t) (fun n=>if n=0 then i else j) (fun _ _ h=>h) 0 1 _ _ _ _ _ ⟨t,rfl⟩ ⟨t',rfl⟩ hq
  |true =>
   subst hop
   exact CmpOf.ints_gt (prog:=prog) (w:=w) (A:=A) (P:=fun (n:Nat) v => ∃t,v=.int (if n=0 then i else j) t) (fun n=>if n=0 then i else j) (fun _ _ h=>h) 0 1 _ _ _ _ _ ⟨t,rfl⟩ ⟨t',rfl⟩ hq
 cases rd with
 |int i =>
  cases re with
  |int j =>
   obtain⟨t,rfl⟩:=ry
   obtain⟨t',rfl⟩:=rz
   simp only [cmpD]at hc
   cases hc
   exact icmp _ _ _ _ hs
  |_=>simp [cmpD]at hc
 |@tup xs pa vs h1 h2 =>
  cases re with
  |@tup ys pb ws g1 g2 =>
   simp only [cmpD]at hc
   cases e1:zj6 xs with
   |none=>rw [e1]at hc;cases hc
   |some is =>
    cases e2:zj6 ys with
    |none=>rw [e1,e2]at hc;cases hc
    |some js =>
     rw [e1,e2]at hc
     simp only [zbc8]at hc
     split at hc
     case isFalse=>cases hc
     rename_i hl
     cases hc
     have x1:=zj9 e1
     have x2:=zj9 e2
     subst x1 x2
     have v1:=ze9 h2
     have v2:=ze9 g2
     subst v1 v2
     cases ry
     cases rz
     obtain⟨its,w1,w2,_⟩:=I.tuple h1
     obtain⟨its',w1',w2',_⟩:=I.tuple g1
     have l1:its.toArray.size=is.length:=by have:=w1.length;simp at this;simp [← this]
     have l2:its'.toArray.size=js.length:=by have:=w1'.length;simp at this;simp [← this]
     have at1:∀j (hj:j<its.toArray.size),∃t,its.toArray[j]=.int (is[j]'(by lia)) t:=fun j hj=>by
      obtain⟨v,e,r⟩:=Vals.getL w1 hj
      have hj':j<is.length:=by lia
      rw [zbg0,zbd1 hj']at e
      cases e
      exact r
     have at2:∀j (hj:j<its'.toArray.size),∃t,its'.toArray[j]=.int (js[j]'(by lia)) t:=fun j hj=>by
      obtain⟨v,e,r⟩:=Vals.getL w1' hj
      have hj':j<js.length:=by lia
      rw [zbg0,zbd1 hj']at e
      cases e
      exact r
     have he:∀j (q1:j<its.toArray.size) (q2:j<its'.toArray.size),SeqAt.EqAt X.A.in1.in1 s its.toArray[j] its'.toArray[j] (decide (is.getD j 0=js.getD j 0)):=fun j q1 q2=>by
      obtain⟨t,z1⟩:=at1 j q1
      obtain⟨t',z2⟩:=at2 j q2
      have k1:is.getD j 0=is[j]'(by lia):=by rw [zbd6,zbd1 (by lia)];rfl
      have k2:js.getD j 0=js[j]'(by lia):=by rw [zbd6,zbd1 (by lia)];rfl
      rw [z1,z2,k1,k2]
      have q:=eqAt_D I 6 X.A.in1.in1 (.int (is[j]'(by lia))) (.int (js[j]'(by lia))) _ _ (.int (is[j]'(by lia)) t) (.int (js[j]'(by lia)) t') (by show X.A.units+1+1+6<cLine;lia) (by rfl) (.int _) (.int _) ⟨t,rfl⟩ ⟨t',rfl⟩
      have:eqD (.int (is[j]'(by lia))) (.int (js[j]'(by lia)))=decide ((is[j]'(by lia))=(js[j]'(by lia))):=by
       cases w:decide ((is[j]'(by lia))=(js[j]'(by lia))) with
       |true=>rw [eqD_true];simp at w;rw [w]
       |false=>rw [eqD_false];simp at w;intro k;injection k with k;exact w k
      rw [← this];exact q
     have hcc:∀j (q1:j<its.toArray.size) (q2:j<its'.toArray.size),(decide (is.getD j 0=js.getD j 0))=false→SeqAt.OpAt op X.A.in1.in1 s its.toArray[j] its'.toArray[j] (cmpI mx (is.getD j 0) (js.getD j 0)):=fun j q1 q2 _=>by
      obtain⟨t,z1⟩:=at1 j q1
      obtain⟨t',z2⟩:=at2 j q2
      have k1:is.getD j 0=is[j]'(by lia):=by rw [zbd6,zbd1 (by lia)];rfl
      have k2:js.getD j 0=js[j]'(by lia):=by rw [zbd6,zbd1 (by lia)];rfl
      rw [z1,z2,k1,k2]
      exact icmp
     have hz:its.toArray.size=its'.toArray.size:=by lia
     have fl:=zay6 (mx:=mx) (is:=is) (js:=js) (e:=fun j=>decide (is.getD j 0=js.getD j 0)) (c:=fun j=>cmpI mx (is.getD j 0) (js.getD j 0)) hl (fun j a b z1 z2=>by simp [z1,z2])
     rw [← fl, ← l1]at hs
     cases mx with
     |false=>subst hop;exact SeqAt.OpAt.tuples_lt (A:=X.A.in1) w2 w2' (by show X.A.units+1<cLine;lia) hz he hcc _ _ _ _ hs
     |true=>subst hop;exact SeqAt.OpAt.tuples_gt (A:=X.A.in1) w2 w2' (by show X.A.units+1<cLine;lia) hz he hcc _ _ _ _ hs
  |_=>simp [cmpD]at hc
 |_=>simp [cmpD]at hc
end
noncomputable def zai9 (mx:Bool) (fb:DE) (cs:List D):D→D→List D→Option D
 |b,_,[]=>some b
 |b,k,d::ds=>(fb (.val d::cs.map Sl.val)).bind fun r=>if flat r.d then (cmpD mx r.d k).bind fun c=>if c then zai9 mx fb cs d r.d ds else zai9 mx fb cs b k ds else none
noncomputable def dKey (mx:Bool) (cap:List Nat) (fa fb:DE):DE:=fun t=>(fa t).bind fun r=>(capD t cap).bind fun c=>match r.d with
 |.lst (d::ds)=>if (zj6 (d::ds)).isSome then (fb (.val d::c.2.map Sl.val)).bind fun k=>if flat k.d then (zai9 mx fb c.2 d k.d ds).map Ev.cl else none else none
 |_=>none
theorem zx0 {S:Addr}{H0 H1:Hp} (h:Same H0 (hide [S] H1)):Same H0 H1:=fun b o e=>zb0 _ _ b o (h b o e)
theorem zag6 {S:Addr}{H0 H1:Hp}{o:HO} (h:Same H0 (hide [S] H1)):Same H0 (hide [S] (upd H1 S o)):=fun b u e=>by
 obtain⟨n,w⟩:=zg2 (h b u e)
 have n:b≠S:=by simpa using n
 exact zb9 (by rw [zb1 n];exact w) (by simpa using n)
theorem zx1 {S:Addr}{H0 H1 H2:Hp} (h:Same H0 (hide [S] H1)) (g:Same H1 H2):Same H0 (hide [S] H2):=h.trans (za6 g)
theorem zao5 {K:zbc5}{H H2:Hp}{S:Addr}{d:D}{v:V}{xs:List V} (f:flat d=true) (hS:H S=some (.lst xs)) (r:Rep K H d v) (g:Same (hide [S] H) H2):Rep K H2 d v :=
 Rep.mono g (Rep.hid (P:=[S]) (fun p hp=>by rw [zbd3.mp hp];exact⟨mL xs,hS⟩) f r)
section
variable {X:Cx}{F:List Addr}{a body:Expr}{fa fb:DE}{pos:Pos}{scope:Scope}{N':List Str}{cap:List Nat}
theorem zaq1 {p0 kp lp:Pos}{params:Arguments}{q x0:Str}{c P:Addr} (hcm:X.calm=true) (hu:X.A.units+64<cLine) (hdp:X.A.depth<recursionLimit) (hcode:X.env.code=.ref c) (C:zbl9 X.base c P) (hP:(P,q)∈X.base.tabs) (hg:Gl X "max") (hm:X.mg "max"=none) (S:CompSc X scope) (S0:∀y∈scope.names,y.2≠.cell)
  (ha:PE X a (dE X.K F fa)) (hb:∀F' L f c' s₃ H₃,PE (lamX X N' q scope X.A.in1 L f (.ref c') s₃ H₃) body (dE X.K F' fb))
  (hl:N'.length=1+cap.length) (h0:N'[0]?=some x0) (hx0:scope.names.lookup x0=some .local)
  (hcap:∀(k:Nat) (j:Nat),cap[k]?=some j→∃x,N'[1+k]?=some x∧X.N[j]?=some x∧(x,NameKind.free)∈scope.names)
  (hq:X.env.qual++"<lambda>"=q:=by rfl) (hco:scope.isCoroutine=false:=by rfl) (hgen:scope.isGenerator=false:=by rfl) (hdef:defaultsOf params X.env=([],[]):=by rfl)
  (hbind:∀cl pm c' ctv u0,bindArgs (zbr3 "<lambda>" q params body scope cl pm (.ref c') ctv) ⟨[u0],[]⟩=pure [(x0,u0)]:=by intros;rfl)
  (hst:zbe3 [a] X.env=[(false,eval a X.env)]:=by rfl)
  (he:zbj4 pos (zbe3 [a] X.env)=(false,eval a X.env)::zbj4 pos (zbe3 [] X.env):=by rfl) (hplain:(zbj4 pos (zbe3 [a] X.env)).any (·.1)=false:=by rfl)
  (hall:(backToKw pos (keywordEach [⟨some "key",.Lambda params body scope lp,kp⟩] X.env)).all (·.1.isSome)=true:=by rfl) (hkw:(backToKw pos (keywordEach [⟨some "key",.Lambda params body scope lp,kp⟩] X.env)).any (·.1.isNone)=false:=by rfl) :
  PE X (.Call (.Name "max" p0) [a] [⟨some "key",.Lambda params body scope lp,kp⟩] pos) (dE X.K F (dKey true cap fa fb)):=by
 intro pins s σ H Q I h
 obtain⟨A,t,r,R,e,h⟩:=h
 unfold dKey at e
 cases e1:fa t with
 |none=>rw [e1]at e;cases e
 |some r1 =>
  cases e2:capD t cap with
  |none=>rw [e1,e2]at e;cases e
  |some cc =>
   obtain⟨bb,cs⟩:=cc
   rw [e1,e2]at e
   simp only [zbc8]at e
   split at e
   case h_2=>cases e
   rename_i d ds z
   split at e
   case isFalse=>cases e
   rename_i hi
   obtain⟨ns,hns⟩:=zbo4.mp hi
   cases e3:fb (.val d::cs.map Sl.val) with
   |none=>rw [e3]at e;cases e
   |some k =>
    rw [e3]at e
    simp only [zbc8]at e
    split at e
    case isFalse=>cases e
    rename_i hfk
    cases e4:zai9 true fb cs d k.d ds with
    |none=>rw [e4]at e;cases e
    |some res =>
     rw [e4]at e
     cases e
     refine wpAny_Call_Name_kw (zo6 I hg hm (show bootBuiltins "max"=some (.builtin "max") by decide +kernel) (callWith_kw (env:=X.env) ?_ he hplain hall hkw))
     refine thn ((zf0 ha zi1 hst) pos pins s σ H (fun vs H1 => ∃x,vs=[x]∧Same H H1∧RepEv X.K F A H H1 r1 x) I ⟨A,t,r1,R,e1,fun x H1 gs q=>⟨x,rfl,gs,q⟩⟩) fun us s1 ⟨vs,H1,I1,rv,x,ex,gs,q1⟩=>?_
     subst ex
     obtain⟨u,rfl,ru⟩:=rv.one
     have p:=q1.full
     have xe:=zj9 hns
     rw [z,xe]at p
     cases p with
     |@lst _ l ws h1 h2 =>
      have we:=ze9 h2
      subst we
      cases ru
      refine kws_cons (lam_make I1 S hcode C hP hq hdef fun f c' oc vs tk pm ctv s3 I3 hc' nf ncf hod hv=>kws_nil ?_)
      generalize hH3:upd (upd H1 c' (.frz oc (.own 0))) f (.frz (zbl0 "<lambda>" q params body scope (clOf X.env.cells scope.names []) pm c' ctv) (.own 0))=H3 at I3
      have g13:Same H1 H3:=fun b o w=>by
       subst hH3
       rw [zb1 (fun z=>by rw [z,nf]at w;cases w)]
       by_cases zc:b=c'
       ·subst zc
        rcases hc' with n | n
        ·rw [n]at w;cases w
        ·rw [n]at w;cases w;rw [za8]
       ·rw [zb1 zc];exact w
      have ff:H3 f=some (.frz (zbl0 "<lambda>" q params body scope (clOf X.env.cells scope.names []) pm c' ctv) (.own 0)):=by subst hH3;rw [za8]
      have fc:H3 c'=some (.frz oc (.own 0)):=by subst hH3;rw [zb1 ncf,za8]
      have g03:Same H H3:=gs.trans g13
      have R3:=R.grow g03
      obtain⟨cvs,ecv,rcs⟩:=zs5 R3 e2
      have muF:Lists H3 (hidF bb A F):=fun p hp=>R3.mu p (by
       unfold hidF at hp
       split at hp
       ·exact hp
       ·exact zbc4 _ hp)
      let KT:V→Hp→VK→Prop:=fun x Hx Qx=>Same H3 Hx∧dE X.K (hidF bb A F) fb (some x::cap.map fun j=>(σ[j]?).getD none) Hx Qx
      have turn:∀(x:V) (Hx:Hp) (sx:zbe1) (px:List (Addr×Obj)) (Qx:VK) (u:Value),Inv X px σ Hx sx→RelV x u→KT x Hx Qx→wpAny (model X.prog X.w) X.A.in1 (call (.ref f) [u]) (EP X px σ Qx) (fun _ _=>False) sx :=
       fun x Hx sx px Qx u Ix rx hk=>lam_run (N':=N') (cap:=cap) (A':=X.A.in1) Ix S S0 (I.ok.hd hcm) rfl hdp (hk.1 _ _ ff) (hk.1 _ _ fc) hod hv hco hgen (hbind _ _ _ _ _) rx h0 hx0 hl hcap (fun L s₃ H₃=>hb _ L f c' s₃ H₃) hk.2
      have mk:∀ {n:Int}{Hx:Hp}{rr:Ev}{Qx:VK},Same H3 Hx→fb (.val (.int n)::cs.map Sl.val)=some rr→(∀v Hy,Same Hx Hy→Rep X.K Hy rr.d v→Qx v Hy)→KT (.int n) Hx Qx:=fun {n Hx rr Qx} gx er hq=>by
       refine⟨gx,[],_,rr,⟨by simpa using muF.mono gx,zbg4,fun p hp=>(by cases hp),?_⟩,er,fun v Hy gy qy=>hq v Hy gy qy.full⟩
       rw [zbk9,ecv]
       refine .val (.int n) ?_
       have:=RSl.start (K:=X.K) (H:=Hx) (t:=[]) (σ:=[]) .nil (Reps.mono (za6 gx) rcs)
       simpa using this
      have hx0':(ns.map V.int)[0]?=some (V.int (ns.headD 0)):=by
       cases ns with
       |nil=>simp at xe
       |cons n0 nr=>rfl
      have ed:d=.int (ns.headD 0)∧ds=ns.tail.map D.int:=by
       cases ns with
       |nil=>simp at xe
       |cons n0 nr=>simp at xe;exact⟨by simpa using xe.1,by simpa using xe.2⟩
      obtain⟨ed1,ed2⟩:=ed
      subst ed1 ed2
      have hl3:SqL X.K H3 l (ns.map V.int):=g13.seq h1
      refine kc_max (KT:=KT) (p:=pD X.K true) hcm (cmp_D (by rfl) hu) turn I3 hl3 hx0' fun Sa nS=>?_
      refine⟨fun j b kv Hx=>Same H3 (hide [Sa] Hx)∧Hx Sa=some (.lst [b,kv])∧∃(ib:Int) (dk:D),b=.int ib∧flat dk=true∧Rep X.K (hide [Sa] Hx) dk kv∧zai9 true fb cs (.int ib) dk ((ns.drop j).map D.int)=some res,?_,?_,?_,?_⟩
      ·rintro j b kv Hx ⟨g,hS,_⟩
       exact⟨(zx0 g).seq hl3,hS⟩
      ·have g0:Same H3 (hide [Sa] (upd H3 Sa (.lst []))):=fun b o w=>zb9 (by rw [zb1 (fun z=>by rw [z,nS]at w;cases w)];exact w) (by simpa using fun z=>by rw [z,nS]at w;cases w)
       refine mk (zx0 g0) e3 fun v Hy gy ry=>?_
       have hS:Hy Sa=some (.lst []):=gy _ _ za8
       refine⟨hS,zag6 (zx1 g0 gy),za8,ns.headD 0,k.d,rfl,hfk,zao5 hfk hS ry ?_,?_⟩
       ·intro b o w
        obtain⟨n,w⟩:=zg2 w
        exact zb9 (by rw [zb1 (by simpa using n)];exact w) n
       ·rw [← e4,List.drop_one]
      ·rintro j b kv Hx x ⟨g,hS,ib,dk,rfl,hf,rk,eb⟩ hx
       rw [zbg0]at hx
       cases en:ns[j]? with
       |none=>rw [en]at hx;cases hx
       |some n =>
        rw [en]at hx
        cases hx
        have hj:j<ns.length:=(zbg5.mp en).1
        have ej:ns.drop j=n::ns.drop (j+1):=by rw [zbe9 hj];rw [zbd1 hj]at en;cases en;rfl
        rw [ej,zbd7]at eb
        unfold zai9 at eb
        cases er:fb (.val (.int n)::cs.map Sl.val) with
        |none=>rw [er]at eb;cases eb
        |some rr =>
         rw [er]at eb
         simp only [zbc8]at eb
         split at eb
         case isFalse=>cases eb
         rename_i hfr
         cases ec:cmpD true rr.d dk with
         |none=>rw [ec]at eb;cases eb
         |some c =>
          rw [ec]at eb
          simp only [zbc8]at eb
          refine mk (zx0 g) er fun v Hy gy ry=>⟨c,⟨rr.d,dk,ry,Rep.mono ((zb0 _ _).trans gy) rk,ec⟩,gy _ _ hS,fun z=>?_,fun z=>?_⟩
          ·subst z
           have hSy:=gy _ _ hS
           refine⟨zag6 (zx1 g gy),za8,n,rr.d,rfl,hfr,zao5 hfr hSy ry ?_,by simpa using eb⟩
           intro b o w
           obtain⟨n,w⟩:=zg2 w
           exact zb9 (by rw [zb1 (by simpa using n)];exact w) n
          ·subst z
           exact⟨zx1 g gy,gy _ _ hS,ib,dk,rfl,hf,Rep.mono (za6 gy) rk,by simpa using eb⟩
      ·rintro b kv Hx ⟨g,hS,ib,dk,rfl,hf,rk,eb⟩
       rw [zbd9,zbk4]at eb
       have eb:some (D.int ib)=some res:=eb
       cases eb
       refine h _ _ (g03.trans ?_) (.int ib)
       intro b o w
       obtain⟨n,w⟩:=zg2 (g b o w)
       rw [zb1 (by simpa using n)];exact w
end
end DL
namespace L2
open PySem.Spec PySem.W
def lamOf (x:Str):Str:=x++".<locals>."++"<lambda>"
theorem zag1 {β:Type}:∀ {l:List (Nat×β)}{a:Nat}{o:β},l.lookup a=some o→(a,o)∈l
 |[],_,_,e=>by cases e
 |(b,x)::r,a,o,e=>by
  rw [zbg1]at e
  cases hb:a == b with
  |true=>rw [hb]at e;cases e;rw [eq_of_beq hb];exact .head _
  |false=>rw [hb]at e;exact .tail _ (zag1 e)
def tbOf (K:Frag) (names:List Str):List (Addr×Str):=names.filterMap fun x=>(tabIn K x).map fun q=>(q.2,lamOf x)
theorem mem_tbOf {K:Frag}{names:List Str}{x:Str}{c P:Addr} (hx:x∈names) (h:tabIn K x=some (c,P)):(P,lamOf x)∈tbOf K names:=zbm1.mpr ⟨x,hx,by rw [h];rfl⟩
theorem of_tbOf {K:Frag}{names:List Str}{p:Addr×Str} (h:p∈tbOf K names):∃x∈names,∃c,tabIn K x=some (c,p.1):=by
 obtain⟨x,hx,e⟩:=zbm1.mp h
 cases q:tabIn K x with
 |none=>rw [q]at e;cases e
 |some r=>rw [q]at e;cases e;exact⟨x,hx,r.1,q⟩
def TbOk (K:Frag) (names:List Str):Prop := ∀p∈tbOf K names,(tbOf K names).lookup p.1=some p.2∧K.lookup p.1=none
theorem tbOk_one {K:Frag}{x:Str}{c P:Addr} (h:tabIn K x=some (c,P)) (n:K.lookup P=none):TbOk K [x]:=fun p hp=>by
 have e:tbOf K [x]=[(P,lamOf x)]:=by simp [tbOf,h]
 rw [e]at hp ⊢
 rw [zbd3.mp hp]
 exact⟨by simp,n⟩
theorem zax5 {P:Program}{w:World}{K:Frag}{mg mb:Str→Option Value}{CX:CXT}{k:Nat}{fa a:Addr}{fd:FuncData}{x:Str}{sp:Sp}{s₁:zbe1}{vs:List Value}{ns:List Int}{names:List Str}
  (KX:K.In s₁.heap) (hns:s₁.heap.Ns mainGlobals mg) (hb:s₁.heap.Ns builtinsNs mb) (hbb:∀x:Str,x≠"__name__"→mb x=bootBuiltins x) (hlim:s₁.heap.NoLimit)
  (hbm:∃(bm:Addr) (ob:Obj),mg "__builtins__"=some (.ref bm)∧bm≠builtinsNs∧s₁.heap.get? bm=some ob∧ob.cls=.type "module"∧ob.dict=some builtinsNs∧ob.data=.plain) (hg:s₁.gens = #[])
  (ha:s₁.heap.get? a=some { cls:=.type "list",data:=.seq vs.toArray }) (hi:IntsAre vs ns) (hl:ns.length≤sizeLine) (hr:Room k callerA)
  (hT:∀x∈names,∀c P,tabIn K x=some (c,P)→CodeHd s₁.heap c P∧s₁.heap.get? P=some (tabObj #[])) (hn:TbOk K names)
  (F:∀base:BHeap,base.tabs=tbOf K names→K.In base→base.Ns mainGlobals mg→(∀x∈names,∀c P,tabIn K x=some (c,P)→CodeHd base c P)→FnOk P w K mg base CX k fa fd [x] sp)
  (hbind:∀(s:zbe1) (u:Value),BindsTo s fd ⟨[u],[]⟩ [(x,u)]) (hsp:∀H:Hp,SqL K H a (ns.map V.int)→sp [.ref a] H (fun v _=>v=.bl true) fun _ _ _=>False)
  (hCX:∀H e s',CX [] H s₁ (fun _ _ _=>False) e s'→False) :
  codeAny (model P w) callerA (.call (.ref fa) ⟨[.ref a],[]⟩) (fun r s'=>r=.ok (.ret (.bool true))∧OldK s₁.heap s'.heap∧s'.os=s₁.os∧AllBare s'.gens) s₁:=by
 have rv:=zv1 hi
 have lenV:=hi.length
 have tabH:∀p∈tbOf K names,∃c,CodeHd s₁.heap c p.1∧s₁.heap.get? p.1=some (tabObj #[]):=fun p hp=>by
  obtain⟨y,hy,c,e⟩:=of_tbOf hp
  exact⟨c,hT y hy c p.1 e⟩
 have core:∀H:Hp,SqL K H a (ns.map V.int)→HOk P w H s₁.heap→(∀p∈tbOf K names,H p.1=some (.tbl p.2)) →
   (∀b o,H b=some o→(b=a∧K.lookup a=none∧∃ob xs,o=.frz ob (.lst xs))∨∃q,o=.tbl q∧(b,q)∈tbOf K names) →
   codeAny (model P w) callerA (.call (.ref fa) ⟨[.ref a],[]⟩) (fun r s'=>r=.ok (.ret (.bool true))∧OldK s₁.heap s'.heap∧s'.os=s₁.os∧AllBare s'.gens) s₁:=by
  intro H hS hok hTB hH
  have free:∀ {b:Addr}{o:Obj},s₁.heap.get? b=some o→(o.cls=.type "list"→False)→o≠tabObj #[]→H b=none:=fun {b o} e n1 n2=>by
   cases q:H b with
   |none=>rfl
   |some u =>
    rcases hH b u q with ⟨rfl,_⟩ | ⟨qq,rfl,hm⟩
    ·rw [ha]at e;cases e;exact (n1 rfl).elim
    ·obtain⟨c,_,e2⟩:=tabH _ hm
     have e2:s₁.heap.get? b=some (tabObj #[]):=e2
     rw [e]at e2;cases e2;exact (n2 rfl).elim
  have nsK:∀ {b:Addr}{m:Str→Option Value},s₁.heap.Ns b m→(hidT s₁.heap H).Ns b m:=fun {b m} ⟨o,es,ep,e,d,r⟩=>⟨o,es,ep,zv0 e (by
   cases q:H b with
   |none=>rfl
   |some u =>
    rcases hH b u q with ⟨rfl,_⟩ | ⟨qq,rfl,hm⟩
    ·rw [ha]at e;cases e;cases d
    ·obtain⟨c,_,e2⟩:=tabH _ hm
     have e2:s₁.heap.get? b=some (tabObj #[]):=e2
     rw [e]at e2;cases e2;cases d),d,r⟩
  have hKb:K.In (hidT s₁.heap H):=fun b o e=>zv0 (KX b o e) (by
   cases q:H b with
   |none=>rfl
   |some u =>
    rcases hH b u q with ⟨rfl,n,_⟩ | ⟨qq,rfl,hm⟩
    ·rw [n]at e;cases e
    ·have n:K.lookup b=none:=(hn _ hm).2
     rw [n]at e;cases e)
  have hM:Mod K mg ⟨hidT s₁.heap H,tbOf K names⟩:=⟨hKb,nsK hns,⟨mb,nsK hb,hbb⟩,let ⟨mc,h1,h2⟩:=hlim;⟨mc,nsK h1,h2⟩,by
   obtain⟨bm,ob,b1,b2,b3,b4,b5,b6⟩:=hbm
   exact⟨bm,ob,b1,b2,zv0 b3 (free b3 (fun z=>by rw [b4]at z;simp at z) fun z=>by rw [z]at b4;cases b4),b4,b5,b6⟩⟩
  have hCd:∀x∈names,∀c P,tabIn K x=some (c,P)→CodeHd (hidT s₁.heap H) c P:=fun x hx c P e=>by
   obtain⟨⟨o,vs,file,tf,flags,tg,inF,text,tt,e1,r1,r⟩,_⟩:=hT x hx c P e
   exact⟨o,vs,file,tf,flags,tg,inF,text,tt,zv0 e1 (free e1 (fun z=>by rw [r1]at z;simp at z) fun z=>by rw [z]at r1;cases r1),r1,r⟩
  have e0:Env0 P w K mg ⟨hidT s₁.heap H,tbOf K names⟩ callerA [] s₁ H:=⟨rfl,hM,fun b o e=>of_hidT e,Nat.le_of_eq (zay4 _ _),trivial,fun b hb=>absurd (show b∈([]:List Addr) from hb) (by simp),hok,.of_eq hg,hTB⟩
  refine codeAny_mono ((F ⟨hidT s₁.heap H,tbOf K names⟩ rfl hKb (nsK hns) hCd).run callerA [] s₁ H ⟨[.ref a],[]⟩ [.ref a] [.ref a] _ _ hr e0 (hbind s₁ (.ref a)) (.cons rfl .nil) (hsp H hS)) fun r s' h=>?_
  cases r with
  |error e=>exact (hCX H e s' h).elim
  |ok fl =>
   cases fl with
   |next=>exact False.elim h
   |brk=>exact False.elim h
   |cont=>exact False.elim h
   |ret u =>
    obtain⟨v,H',os,bare,un,hok',r',q⟩:=h
    have q':v=.bl true:=q
    subst q'
    obtain rfl:u=Value.bool true:=r'
    have kp:∀b o,s₁.heap.get? b=some o→s'.heap.get? b=some o∨∃qq,H b=some (.tbl qq):=fun b o e=>by
     cases q:H b with
     |none=>exact .inl (un.keep b o e q (by intro z;exact absurd (show b∈([]:List Addr) from z) (by simp)) (by simp))
     |some u =>
      rcases hH b u q with ⟨rfl,_,ob,xs,rfl⟩ | ⟨qq,rfl,hm⟩
      ·obtain⟨e1,_⟩:=hok b _ q
       obtain⟨e2,_⟩:=hok' b _ (un.frzs b ob _ q)
       rw [e]at e1;cases e1
       exact .inl e2
      ·exact .inr ⟨qq,rfl⟩
    refine⟨rfl,⟨fun b o e=>?_,fun b o e=>?_⟩,os,bare⟩
    ·rcases kp b o e with z | ⟨qq,z⟩
     ·exact .inl z
     ·rcases hH b _ z with ⟨_,_,ob,xs,z2⟩ | ⟨q2,z2,hm⟩
      ·cases z2
      ·obtain⟨c,C,e2⟩:=tabH _ hm
       have e2:s₁.heap.get? b=some (tabObj #[]):=e2
       rw [e]at e2
       cases e2
       obtain⟨ps,e3,_⟩:=hok' b _ (un.tbls b _ z)
       have C:CodeHd s₁.heap c b:=C
       exact .inr (.inl ⟨(C.tab e).isCodeTable,rfl, #[],ps,rfl,by simpa using e3⟩)
    ·rcases kp b o e with z | ⟨qq,z⟩
     ·exact⟨o,z⟩
     ·obtain⟨ps,e3,_⟩:=hok' b _ (un.tbls b _ z)
      exact⟨_,e3⟩
 have tabO:∀(H:Hp) (p:Addr×Str),p∈tbOf K names→ObjOk P w H s₁.heap p.1 (.tbl p.2):=fun H p hp=>by
  obtain⟨c,_,e⟩:=tabH p hp
  exact⟨#[],e,trivial,fun pos cv z=>by cases z⟩
 have lk:∀b q,(tbOf K names).lookup b=some q→(b,q)∈tbOf K names:=fun b q e=>zag1 e
 have aT:∀q,(a,q)∈tbOf K names→False:=fun q hm=>by
  obtain⟨c,_,e⟩:=tabH _ hm
  have e:s₁.heap.get? a=some (tabObj #[]):=e
  rw [ha]at e;cases e
 cases hk:K.lookup a with
 |some o =>
  have e:=KX a o hk
  rw [ha]at e
  cases e
  refine core (fun b=>((tbOf K names).lookup b).map HO.tbl) (.inr ⟨_,vs.toArray,_,hk,rfl,rfl,rfl,by rw [zbe7,lenV];exact hl,by simpa using rv⟩) (fun b u z=>?_) (fun p hp=>by simp only [(hn p hp).1,zbf8]) fun b u z=>?_
  ·cases q:(tbOf K names).lookup b with
   |none=>simp only [q]at z;cases z
   |some qq=>simp only [q]at z;cases z;exact tabO _ _ (lk b qq q)
  ·cases q:(tbOf K names).lookup b with
   |none=>simp only [q]at z;cases z
   |some qq=>simp only [q]at z;cases z;exact .inr ⟨qq,rfl,lk b qq q⟩
 |none =>
  refine core (fun b=>if b=a then some (.frz { cls:=.type "list",data:=.seq vs.toArray } (.lst (ns.map V.int))) else ((tbOf K names).lookup b).map HO.tbl) (.inl (.inr ⟨{ cls:=.type "list",data:=.seq vs.toArray },if_pos rfl⟩)) (fun b u z=>?_) (fun p hp=>?_) fun b u z=>?_
  ·by_cases hb:b=a
   ·have z':=(if_pos hb).symm.trans z
    cases z'
    subst hb
    exact⟨ha,by rw [zbd9];exact hl,vs,_,rv,ha⟩
   ·have z':=(if_neg hb).symm.trans z
    cases q:(tbOf K names).lookup b with
    |none=>simp only [q]at z';cases z'
    |some qq=>simp only [q]at z';cases z';exact tabO _ _ (lk b qq q)
  ·have:p.1≠a:=fun e=>aT p.2 (by rw [← e];exact hp)
   simp only [this,if_false,(hn p hp).1,zbf8]
  ·by_cases hb:b=a
   ·have z':=(if_pos hb).symm.trans z
    cases z'
    exact .inl ⟨hb,hk,_,_,rfl⟩
   ·have z':=(if_neg hb).symm.trans z
    cases q:(tbOf K names).lookup b with
    |none=>simp only [q]at z';cases z'
    |some qq=>simp only [q]at z';cases z';exact .inr ⟨qq,rfl,lk b qq q⟩
end L2
namespace L2
open PySem.W
theorem walk_ofT {l:zbu4}{n k:Nat}{q:Program}{loose:List Str}{XP:(Str→Option Value)→Heap→Prop}{YP:World→Heap→Prop}{d:DefRec}{K:Params→zbc5}{CX:World→CXT}{sp:World→Sp}{x:Str}{names:List Str}
  (hn:l.most=some n) (hn2:n≤sizeLine) (hdf:d.params.defaults=[]) (hr:Room k callerA)
  (hY:∀(w:World) (h:Heap),YP w h→(K w.params).In h) (hrec:∀x∈names,∃dr,(recsOf q).find? (fun e=>e.name == x)=some dr)
  (F:∀(w:World) (mg:Str→Option Value) (fa:Addr) (h:Heap),(K w.params).In h→h.Ns mainGlobals mg→mg d.name=some (.ref fa) →
   TbOk (K w.params) names∧∃fd:FuncData,(∀(s:zbe1) (u:Value),BindsTo s fd ⟨[u],[]⟩ [(x,u)]) ∧
    ∀base:BHeap,base.tabs=tbOf (K w.params) names→(K w.params).In base→base.Ns mainGlobals mg→(∀x∈names,∀c P,tabIn (K w.params) x=some (c,P)→CodeHd base c P)→FnOk l.prog w (K w.params) mg base (CX w) k fa fd [x] (sp w))
  (hsp:∀(w:World) (H:Hp) (a:Addr) (ns:List Int),ns.length≤n→(∀i∈ns,i.natAbs<bndS)→SqL (K w.params) H a (ns.map V.int)→sp w [.ref a] H (fun v _=>v=.bl true) fun _ _ _=>False)
  (hCX:∀(w:World) (H:Hp) (s:zbe1) (e:Value) (s':zbe1),CX w [] H s (fun _ _ _=>False) e s'→False) :
  zbx1 q loose XP YP l.row.toRowW d [] (fun f vs=>PySem.call f vs):=by
 intro w s₀ s₁ mg mb G Y fa o pm cd doc dV kV ho hd hcd hD hmg hg args vals as hpre hlay hrd hwl hlo
 obtain rfl:dV=.none:=Dflts.none hD hdf
 obtain rfl:kV=.none:=Dflts.noKw hD
 obtain⟨a,vs,ns,rfl,rfl,hobj,hints,hlen⟩:=Att.script_of hn hpre hwl
 have hb:=bnd_of hlay
 have KX:=hY w _ Y
 obtain⟨hok,fd,hbd,hF⟩:=F w mg fa _ KX G.T.g hmg
 refine enter_call (codeAny_mono (zax5 KX G.T.g G.T.b G.T.builtins G.T.nolimit G.T.bmain hg hobj hints (zbh8 hlen hn2) hr (fun x hx c P e=>by
  obtain⟨dr,h⟩:=hrec x hx
  exact tab_of G.T KX h e) hok hF hbd (fun H hS=>hsp w H a ns hlen hb hS) fun H e s'=>hCX w H s₁ e s') fun r s' hq=>?_)
 obtain⟨rfl,h2,h3,h4⟩:=hq
 exact⟨.inl ⟨.bool true,.bool true,[],rfl,fun _=>rfl,.bool true,Att.post_true l _,fun _=>⟨List.Pairwise.nil,fun _ hm=>(nomatch hm)⟩⟩,h2,h3,h4⟩
end L2
namespace DL
open PySem.Spec L2
theorem _root_.L2.Room.dep {k:Nat}{A:Around} (r:Room k A):A.depth<recursionLimit:=by have:=r.dp;lia
theorem _root_.L2.Room.lam {k:Nat}{A:Around} (r:Room (k+2) A) (env:Env):Room k (A.in1.deeper env):=r.in1.deeper env
def isSt:Expr→Bool
 |.Starred _ _=>true
 |_=>false
theorem zo2 {a:Expr}{es:List Expr}{env:Env} (h:isSt a=false):zbe3 (a::es) env=(false,eval a env)::zbe3 es env:=by
 cases a<;>first | rfl | cases h
section
variable {X:Cx}{F:List Addr}{a body:Expr}{fa fb:DE}{pos:Pos}{scope:Scope}
def lamNo (names:List (Str×NameKind)):Bool:=names.all fun y=>y.2 != .cell
theorem lamNo_of {names:List (Str×NameKind)} (h:lamNo names=true):∀y∈names,y.2≠.cell:=fun y hy=>by
 have:=zbg8.mp h y hy
 simpa using this
theorem ped_kmax {p0 kp lp:Pos}{params:Arguments}{q x0:Str}{c P:Addr} (cap:List Nat) (N':List Str) (kl:Nat) (hrl:Room (kl+2) X.A) (hcm:X.calm=true) (hu:X.A.units+64<cLine) (hdp:X.A.depth<recursionLimit) (hcode:X.env.code=.ref c) (C:zbl9 X.base c P) (hP:(P,q)∈X.base.tabs) (hg:Gl X "max") (hm:X.mg "max"=none)
  (ha:PE X a (dE X.K F fa)) (hb:∀F' L f c' s₃ H₃,Room kl (lamX X N' q scope X.A.in1 L f (.ref c') s₃ H₃).A→PE (lamX X N' q scope X.A.in1 L f (.ref c') s₃ H₃) body (dE X.K F' fb))
  (hkd:scope.kind=.function:=by rfl) (hcs:zu0 scope.names X.env.kindOf=true:=by rfl) (hln:lamNo scope.names=true:=by rfl) (hl:N'.length=1+cap.length:=by rfl) (h0:N'[0]?=some x0:=by rfl) (hx0:scope.names.lookup x0=some .local:=by rfl)
  (hcap:zz6 N' X.N 1 scope.names 0 cap=true:=by rfl)
  (hq:X.env.qual++"<lambda>"=q:=by rfl) (hco:scope.isCoroutine=false:=by rfl) (hgen:scope.isGenerator=false:=by rfl) (hdef:defaultsOf params X.env=([],[]):=by rfl)
  (hbind:∀cl pm c' ctv u0,bindArgs (zbr3 "<lambda>" q params body scope cl pm (.ref c') ctv) ⟨[u0],[]⟩=pure [(x0,u0)]:=by intros;rfl)
  (hst:zbe3 [a] X.env=[(false,eval a X.env)]:=by rfl)
  (he:zbj4 pos (zbe3 [a] X.env)=(false,eval a X.env)::zbj4 pos (zbe3 [] X.env):=by rfl) (hplain:(zbj4 pos (zbe3 [a] X.env)).any (·.1)=false:=by rfl)
  (hall:(backToKw pos (keywordEach [⟨some "key",.Lambda params body scope lp,kp⟩] X.env)).all (·.1.isSome)=true:=by rfl) (hkw:(backToKw pos (keywordEach [⟨some "key",.Lambda params body scope lp,kp⟩] X.env)).any (·.1.isNone)=false:=by rfl) :
  PE X (.Call (.Name "max" p0) [a] [⟨some "key",.Lambda params body scope lp,kp⟩] pos) (dE X.K F (dKey true cap fa fb)) :=
 zaq1 hcm hu hdp hcode C hP hg hm (zah8 hkd hcs) (lamNo_of hln) ha (fun F' L f c' s₃ H₃=>hb F' L f c' s₃ H₃ (hrl.lam _)) hl h0 hx0 (fun k j e=>by simpa using zp8 hcap k j e) hq hco hgen hdef hbind hst he hplain hall hkw
end
theorem _root_.L2.Fun.okC {P:Program}{w:World}{K:zbc5}{mg:Str→Option Value}{base:BHeap}{x qual:Str}{st:Stmt}{f:Addr}{fd:FuncData}{N ps:List Str}{k:Nat}{sp:Sp} (F:L2.Fun K x qual st f fd) (S:FnScope N ps (za9 st)) (len:∀vs H Q E,sp vs H Q E→vs.length=ps.length)
  (hbody:∀(A:Around) (outer:List Env) (s:zbe1) (H:Hp) (vs:List V) (Q:VK) (E:XK),Room k (A.deeper (envOfC qual (za9 st) s.heap.objs.size f fd.code))→sp vs H Q E →
   ∃t,PSs (cxOf CX0 P w K mg base N qual (za9 st) f fd.code A outer s H E).nox (zg3 st) t∧t { nx:=fun _ H'=>Q .non H',rt:=Q } (start N vs) H):FnOk P w K mg base CX0 (k+1) f fd ps sp:=by
 obtain⟨oc,od,kV,doc,pm,an,cdv,ct,osl,rfl,lk,hcd⟩:=F.ex
 refine fn_of lk hcd S len fun A outer s H vs Q E hr hsp=>?_
 obtain⟨t,h,q⟩:=hbody A outer s H vs Q E hr hsp
 exact⟨t,h.nox,q⟩
theorem fun_okC {P:Program}{w:World}{K:zbc5}{mg:Str→Option Value}{base:BHeap}{x qual:Str}{st:Stmt}{f:Addr}{fd:FuncData}{N ps:List Str}{k:Nat}{G:List D→Option Ev} (Fn:L2.Fun K x qual st f fd) (S:FnScope N ps (za9 st))
  (hlen:∀ds r,G ds=some r→ds.length=ps.length) (g:DS) (hG:∀ds r,G ds=some r→∃o,g (zr6 N ds)=some o∧zg9 o=some r)
  (hbody:∀(A:Around) (outer:List Env) (s:zbe1) (H:Hp) (E:XK) (F:List Addr),Room k (A.deeper (envOfC qual (za9 st) s.heap.objs.size f fd.code)) →
   PSs (cxOf CX0 P w K mg base N qual (za9 st) f fd.code A outer s H E).nox (zg3 st) (dS K F g)):FnOk P w K mg base CX0 (k+1) f fd ps (spD K G):=by
 refine Fn.okC S (fun vs H Q E h=>?_) (fun A outer s H vs Q E hr h=>?_)
 ·obtain⟨Fo,ds,r,_,hr,hg,_⟩:=h
  rw [hr.length];exact hlen ds r hg
 ·obtain⟨Fo,ds,r,hl,hr',hg,cont⟩:=h
  obtain⟨o,ho,hoe⟩:=hG ds r hg
  refine⟨_,hbody A outer s H E Fo hr,zaz7 (A:=[]) (t:=zr6 N ds) ⟨hl,zbg4,fun p hp=>(by cases hp),?_⟩ ho ?_⟩
  ·unfold zr6 L2.start
   rw [hr'.length]
   exact RSl.start (RSl.no_all _) hr'
  ·have sm:∀ {A' H'},Gr [] H A' H'→Same H H':=fun g b o q=>g.kp b o (by simp) q
   cases o with
   |nx t' =>
    cases hoe
    exact fun σ' H' A' g' R'=>cont .non H' (sm g') .non
   |bk t'=>cases hoe
   |ct t'=>cases hoe
   |rt r' =>
    cases hoe
    intro v H' A' g' q
    refine cont v H' (sm g') ?_
    cases r with
    |cl d=>exact q
    |tm d=>exact q
    |nw xs =>
     obtain⟨p,vs',rfl,h1,h2,h3,h4⟩:=q
     rcases h1 with h1 | h1
     ·cases h1
     ·exact⟨p,vs',rfl,h1,h3,h4⟩
    |dn d =>
     obtain⟨B,h1,h2,h3⟩:=q
     exact⟨B,h1,fun b hb=>by rcases (h2 b hb).1 with z | z;cases z;exact z,h3⟩
theorem code_tab {K:zbc5}{x:Str}{f c P:Addr}{oc:Value}{od:Option Addr}{fd:FuncData}{sl:Array (Option Value)} (h:zbm4 K x=some (c,P)) (ha:zbg9 K mainGlobals x=some (some (.ref f))) (hl:K.lookup f=some ⟨oc,od,.func fd,sl⟩):fd.code=.ref c:=by
 unfold zbm4 at h
 rw [ha]at h
 simp only [hl]at h
 split at h
 ·rename_i c' hc
  split at h
  ·split at h
   ·cases h;exact hc
   ·cases h
  ·cases h
 ·cases h
end DL
namespace DL
open PySem.Spec L2
theorem RS.putOwned {K:zbc5}{F A:List Addr}{H:Hp}{t:Th}{σ:L2.St}{i:Nat}{d:D}{v:V}{B:List Addr} (R:RS K (B++F) H A t σ) (nb:B.Nodup) (dj:∀b∈B,b∉F) (r:RepD K (hide (A++(B++F)) H) H d v B) (hi:i<t.length) :
  ∃A',(∀x∈A',x∈B∨x∈A)∧RS K F H A' (t.set i (.dp d)) (σ.set i (some v)):=by
 have lb:=r.lists
 obtain⟨A2,r2,sub2,nd2⟩:=RSl.setAny (s:=.dp d) (v:=v) (B:=B) (fun q=>.dp r q) i R.rel hi
 refine⟨A2,sub2,⟨fun p hp=>?_,nd2 R.nd nb (fun b hb z=>R.dj b z (zbc7 _ hb)),fun p hp=>?_,RSl.mono (za7 H fun x hx=>?_) r2 fun _ _ _ w=>w⟩⟩
 ·rcases zbd0.mp hp with z | z
  ·rcases sub2 p z with w | w
   ·exact lb p w
   ·exact R.mu p (zbc7 _ w)
  ·exact R.mu p (zbc4 _ (zbc4 _ z))
 ·rcases sub2 p hp with w | w
  ·exact dj p w
  ·exact fun z=>R.dj p w (zbc4 _ z)
 ·rcases zbd0.mp hx with z | z
  ·rcases sub2 x z with w | w
   ·exact zbc4 _ (zbc7 _ w)
   ·exact zbc7 _ w
  ·exact zbc4 _ (zbc4 _ z)
theorem RS.less {K:zbc5}{F F' A:List Addr}{H:Hp}{t:Th}{σ:L2.St} (R:RS K F H A t σ) (h:∀b∈F',b∈F):RS K F' H A t σ :=
 ⟨fun p hp=>R.mu p ((zbd0.mp hp).elim (zbc7 _) fun z=>zbc4 _ (h p z)),R.nd,fun p hp z=>R.dj p hp (h p z),
  RSl.mono (za7 H fun x hx=>(zbd0.mp hx).elim (zbc7 _) fun z=>zbc4 _ (h x z)) R.rel fun _ _ _ w=>w⟩
noncomputable def TgN (K:zbc5) (g:TG) (k:D→Th→Option Th):Prop :=
 ∀F σ H A B t t' d x (Q:L2.St→Hp→Prop),RS K (B++F) H A t σ→B.Nodup→(∀b∈B,b∉F)→RepD K (hide (A++(B++F)) H) H d x B→k d t=some t'→(∀σ2 A2,(∀x∈A2,x∈B∨x∈A)→RS K F H A2 t' σ2→Q σ2 H)→g x σ H Q
noncomputable def TgsN (K:zbc5) (g:TGs) (k:List D→Th→Option Th):Prop :=
 ∀F σ H A B t t' ds xs (Q:L2.St→Hp→Prop),RS K (B++F) H A t σ→B.Nodup→(∀b∈B,b∉F)→RepDs K (hide (A++(B++F)) H) H ds xs B→k ds t=some t'→(∀σ2 A2,(∀x∈A2,x∈B∨x∈A)→RS K F H A2 t' σ2→Q σ2 H)→g xs σ H Q
noncomputable def zaa5 (i:Nat):D→Th→Option Th:=fun d t=>if i<t.length then some (if flat d then t.set i (.val d) else t.set i (.dp d)) else none
theorem zas7 {K:zbc5} (i:Nat):TgN K (gName i) (zaa5 i):=by
 intro F σ H A B t t' d x Q R nb dj r e h
 unfold zaa5 at e
 split at e
 case isFalse=>cases e
 rename_i hi
 cases e
 split at h
 ·rename_i f
  have R1:RS K F H A t σ:=R.less fun b hb=>zbc4 _ hb
  have rp:Rep K (hide (A++F) H) d x:=Rep.hid R1.mu f (r.rep (zb0 _ _) fun _ _ _ w=>w)
  obtain⟨A',g',R'⟩:=R1.put (i:=i) (r:=.cl d) (v:=x) (t':=t.set i (.val d)) (Same.refl H) rp (by unfold zm0;rw [if_pos hi])
  refine h _ A' (fun y hy=>?_) R'
  rcases g'.nw y hy with z | z
  ·exact .inr z
  ·obtain⟨o,w⟩:=R'.mu y (zbc7 _ hy)
   rw [w]at z;cases z
 ·obtain⟨A',sub,R'⟩:=R.putOwned nb dj r hi
  exact h _ A' sub R'
theorem tns_nil {K:zbc5}:TgsN K gNil zk4:=by
 intro F σ H A B t t' ds xs Q R nb dj r e h
 cases r with
 |nil=>cases e;exact⟨rfl,h σ A (fun x hx=>.inr hx) R⟩
 |cons _ _=>cases e
theorem zam1 {K:zbc5}{g:TG}{g':TGs}{k:D→Th→Option Th}{k':List D→Th→Option Th} (h1:TgN K g k) (h2:TgsN K g' k'):TgsN K (gCons g g') (zc7 k k'):=by
 intro F σ H A B t t' ds xs Q R nb dj r e h
 cases r with
 |nil=>cases e
 |@cons d v ds vs B1 C r1 r2 =>
  unfold zc7 at e
  cases e1:k d t with
  |none=>simp only [e1]at e;cases e
  |some t1 =>
   simp only [e1]at e
   have n0:=zbe0.mp nb
   have eq:B1++C++F=B1++(C++F):=zbj9 ..
   rw [eq]at R r1 r2
   refine⟨v,vs,rfl,h1 (C++F) σ H A B1 t t1 d v _ R n0.1 (fun b hb z=>?_) r1 e1 fun σ2 A2 s2 R2=>?_⟩
   ·rcases zbd0.mp z with w | w
    ·exact n0.2.2 b hb b w rfl
    ·exact dj b (zbc7 _ hb) w
   ·refine h2 F σ2 H A2 C t1 t' ds vs Q R2 n0.2.1 (fun b hb=>dj b (zbc4 _ hb)) (RepDs.mono (za7 H fun x hx=>?_) r2 fun _ _ _ w=>w) e fun σ3 A3 s3 R3=>h σ3 A3 (fun x hx=>?_) R3
    ·rcases zbd0.mp hx with z | z
     ·rcases s2 x z with w | w
      ·exact zbc4 _ (zbc7 _ w)
      ·exact zbc7 _ w
     ·exact zbc4 _ (zbc4 _ z)
    ·rcases s3 x hx with z | z
     ·exact .inl (zbc4 _ z)
     ·rcases s2 x z with w | w
      ·exact .inl (zbc7 _ w)
      ·exact .inr w
theorem tn_tup {K:zbc5}{n:Nat}{g':TGs}{k':List D→Th→Option Th} (h2:TgsN K g' k'):TgN K (gTup K n g') (zj0 n k'):=by
 intro F σ H A B t t' d x Q R nb dj r e h
 unfold zj0 at e
 split at e
 ·rename_i ds
  split at e
  ·rename_i hl
   cases r with
   |flat f r =>
    cases r with
    |@tup _ p vs h1 hr=>exact⟨p,vs,rfl,SqT.mono (zb0 _ _) h1,by rw [hr.length];exact hl,h2 F σ H A [] t t' ds vs Q R nb dj (RepDs.of_flat (by simpa [DL.flat] using f) hr) e h⟩
   |@tup _ p vs _ h1 hr=>exact⟨p,vs,rfl,SqT.mono (zb0 _ _) h1,by rw [hr.length];exact hl,h2 F σ H A B t t' ds vs Q R nb dj hr e h⟩
  ·cases e
 ·cases e
theorem RSl.loseDp {K:zbc5}{H0 H:Hp}:∀ {t:Th}{σ:L2.St}{A:List Addr},RSl K H0 H t σ A→A.Nodup→∀ {i:Nat}{d:D},t[i]?=some (.dp d)→∃v B A',σ[i]?=some (some v)∧RepD K H0 H d v B∧RSl K H0 H (t.set i .no) σ A'∧(∀x∈A',x∈A)∧(∀x∈B,x∈A)∧(∀x∈A,x∈B∨x∈A')∧B.Nodup∧A'.Nodup∧(∀x∈A',x∉B):=by
 intro _ _ _ h
 induction h with
 |nil =>
  intro n i d e
  simp at e
 |@no _ _ _ _ r ih =>
  intro n i d e
  cases i with
  |zero =>
   simp at e
  |succ i =>
   obtain⟨v,B,A',a1,a2,a3,a4⟩:=ih n (i:=i) (d:=d) (by simpa using e)
   exact⟨v,B,A',by simpa using a1,a2,.no a3,a4⟩
 |@val _ _ _ _ _ h r ih =>
  intro n i d e
  cases i with
  |zero =>
   simp at e
  |succ i =>
   obtain⟨v,B,A',a1,a2,a3,a4⟩:=ih n (i:=i) (d:=d) (by simpa using e)
   exact⟨v,B,A',by simpa using a1,a2,.val h a3,a4⟩
 |@own p _ _ _ _ _ h1 h2 r ih =>
  intro n i d e
  cases i with
  |zero =>
   simp at e
  |succ i =>
   have n0:=zbe6.mp n
   obtain⟨v,B,A',a1,a2,a3,a4,a5,a6,a7,a8,a9⟩:=ih n0.2 (i:=i) (d:=d) (by simpa using e)
   refine⟨v,B,p::A',by simpa using a1,a2,.own h1 h2 a3,fun x hx=>?_,fun x hx=>zbc6 _ (a5 x hx),fun x hx=>?_,a7,zbe6.mpr ⟨fun z=>n0.1 (a4 p z),a8⟩,fun x hx z=>?_⟩
   ·rcases zbd2.mp hx with w | w
    ·rw [w];exact zbc9 ..
    ·exact zbc6 _ (a4 x w)
   ·rcases zbd2.mp hx with w | w
    ·rw [w];exact .inr (zbc9 ..)
    ·exact (a6 x w).imp id (zbc6 _)
   ·rcases zbd2.mp hx with w | w
    ·exact n0.1 (w ▸ a5 x z)
    ·exact a9 x w z
 |@dp _ v C _ _ A h r ih =>
  intro n i d e
  cases i with
  |zero =>
   simp at e;subst e
   have n0:=zbe0.mp n
   exact⟨v,C,A,rfl,h,.no r,fun x hx=>zbc4 _ hx,fun x hx=>zbc7 _ hx,fun x hx=>zbd0.mp hx,n0.1,n0.2.1,fun x hx z=>n0.2.2 x z x hx rfl⟩
  |succ i =>
   have n0:=zbe0.mp n
   obtain⟨v,B,A',a1,a2,a3,a4,a5,a6,a7,a8,a9⟩:=ih n0.2.1 (i:=i) (d:=d) (by simpa using e)
   refine⟨v,B,C++A',by simpa using a1,a2,.dp h a3,fun x hx=>?_,fun x hx=>zbc4 _ (a5 x hx),fun x hx=>?_,a7,zbe0.mpr ⟨n0.1,a8,fun x hx y hy e=>n0.2.2 x hx y (a4 y hy) e⟩,fun x hx z=>?_⟩
   ·rcases zbd0.mp hx with w | w
    ·exact zbc7 _ w
    ·exact zbc4 _ (a4 x w)
   ·rcases zbd0.mp hx with w | w
    ·exact .inr (zbc7 _ w)
    ·exact (a6 x w).imp id (zbc4 _)
   ·rcases zbd0.mp hx with w | w
    ·exact n0.2.2 x w x (a5 x z) rfl
    ·exact a9 x w z
theorem RS.takeDp {K:zbc5}{F A:List Addr}{H:Hp}{t:Th}{σ:L2.St}{i:Nat}{d:D} (R:RS K F H A t σ) (e:t[i]?=some (.dp d)) :
  ∃v B A',σ[i]?=some (some v)∧RS K (B++F) H A' (t.set i .no) σ∧B.Nodup∧(∀b∈B,b∉F)∧RepD K (hide (A'++(B++F)) H) H d v B∧(∀x∈A',x∈A)∧(∀x∈B,x∈A):=by
 obtain⟨v,B,A',a1,a2,a3,a4,a5,a6,a7,a8,a9⟩:=R.rel.loseDp R.nd e
 have s:Same (hide (A++F) H) (hide (A'++(B++F)) H):=za7 H fun x hx=>by
  rcases zbd0.mp hx with z | z
  ·exact zbc7 _ (a4 x z)
  ·rcases zbd0.mp z with z | z
   ·exact zbc7 _ (a5 x z)
   ·exact zbc4 _ z
 refine⟨v,B,A',a1,⟨fun p hp=>?_,a8,fun p hp z=>?_,RSl.mono s a3 fun _ _ _ w=>w⟩,a7,fun b hb=>R.dj b (a5 b hb),RepD.mono s a2 fun _ _ _ w=>w,a4,a5⟩
 ·rcases zbd0.mp hp with z | z
  ·exact R.mu p (zbc7 _ (a4 p z))
  ·rcases zbd0.mp z with z | z
   ·exact R.mu p (zbc7 _ (a5 p z))
   ·exact R.mu p (zbc4 _ z)
 ·rcases zbd0.mp z with z | z
  ·exact a9 p hp z
  ·exact R.dj p (a4 p hp) z
theorem RS.aside {K:zbc5}{F A:List Addr}{H H':Hp}{t:Th}{σ:L2.St}{B:List Addr} (R:RS K F H A t σ) (g:Same H H') (fr:∀b∈B,H b=none) (lb:Lists H' B):RS K (B++F) H' A t σ:=by
 have np:∀b∈B,b∉A++F:=fun b hb=>zc4 R.mu (fr b hb)
 refine⟨fun p hp=>?_,R.nd,fun p hp z=>?_,RSl.mono (fun b o h=>?_) R.rel fun b _ o h=>g _ _ h⟩
 ·rcases zbd0.mp hp with z | z
  ·exact (R.mu.mono g) p (zbc7 _ z)
  ·rcases zbd0.mp z with z | z
   ·exact lb p z
   ·exact (R.mu.mono g) p (zbc4 _ z)
 ·rcases zbd0.mp z with z | z
  ·exact np p z (zbc7 _ hp)
  ·exact R.dj p hp z
 ·obtain⟨n,h⟩:=zg2 h
  refine zb9 (g _ _ h) fun z=>?_
  rcases zbd0.mp z with z | z
  ·exact n (zbc7 _ z)
  ·rcases zbd0.mp z with z | z
   ·rw [fr b z]at h;cases h
   ·exact n (zbc4 _ z)
section
variable {X:Cx}{F:List Addr}{a b c:Expr}{es:List Expr}{fa fb fc:DE}{pos:Pos}{tg:Expr}{gt:TG}{kt:D→Th→Option Th}
def zba1 (kt:D→Th→Option Th) (f:DE):DS:=fun t=>(f t).bind fun r=>(toDn r).bind fun d=>(kt d t).map Out.nx
theorem psd_asgN (he:PE X a (dE X.K F fa)) (hg:PG X tg gt) (ht:TgN X.K gt kt) (hs:swapsWithSole [tg] a pos.line X.env=pure false:=by rfl) (hw:swappedStores [tg] a X.env=pure none:=by rfl)
  (h1:(assignEach [tg] X.env).map (·.2)=[assign tg X.env]:=by rfl):PS X (.Assign [tg] a pos) (dS X.K F (zba1 kt fa)):=by
 refine PS.imp (ps_asg he hg hs hw h1) ?_
 rintro E σ H ⟨A,t,o,R,e,h⟩
 unfold zba1 at e
 cases e1:fa t with
 |none=>rw [e1]at e;cases e
 |some r1 =>
  rw [e1]at e
  simp only [zbc8]at e
  cases e2:toDn r1 with
  |none=>rw [e2]at e;cases e
  |some d =>
   rw [e2]at e
   simp only [zbc8]at e
   cases e3:kt d t with
   |none=>rw [e3]at e;cases e
   |some t' =>
    rw [e3]at e
    cases e
    refine⟨A,t,r1,R,e1,fun v H' gs q=>?_⟩
    obtain⟨B,b1,b2,b3⟩:=q.toDn R.mu gs e2
    have R1:=R.aside gs b2 b3.lists
    have np:∀b∈B,b∉A++F:=fun b hb=>zc4 R.mu (b2 b hb)
    have r2:RepD X.K (hide (A++(B++F)) H') H' d v B:=RepD.mono (za7 H' fun x hx=>by
     rcases zbd0.mp hx with z | z
     ·exact zbc4 _ (zbc7 _ z)
     ·rcases zbd0.mp z with z | z
      ·exact zbc7 _ z
      ·exact zbc4 _ (zbc4 _ z)) b3 fun _ _ _ w=>w
    refine ht F σ H' A B t t' d v E.nx R1 b1 (fun b hb z=>np b hb (zbc4 _ z)) r2 e3 fun σ2 A2 s2 R2=>h σ2 H' A2 ⟨fun b o _ w=>gs _ _ w,fun b hb=>?_,fun b hb=>?_⟩ R2
    ·obtain⟨us,u⟩:=R.mu b (zbc7 _ hb)
     rw [gs _ _ u];simp
    ·rcases s2 b hb with w | w
     ·exact .inr (b2 b w)
     ·exact .inl w
end
end DL
namespace DL
open PySem.Spec L2
def zai8 (mx:Bool):D→List D→Option D
 |b,[]=>some b
 |b,d::ds=>(cmpD mx d b).bind fun c=>if c then zai8 mx d ds else zai8 mx b ds
noncomputable def zax9 (mx:Bool):List Ev→Option Ev:=fun rs=>match rs with
 |[r]=>(match r.d with
  |.lst (d::ds)=>(zai8 mx d ds).bind fun x=>if flat x then some (.cl x) else none
  |_=>none)
 |_=>none
section
variable {X:Cx}{pins:List (Addr×Obj)}{σ:L2.St}{l it S:Addr}{xs:List V}{ds:List D}
theorem kn_min {H:Hp}{dres:D}{Q:VK} (hcm:X.calm=true) (hu:X.A.units+64<cLine) (hS:H S=none) (hl:SqL X.K H l xs) (hr:Reps X.K H ds xs) (hli:l≠it) (hSI:S≠it)
  (fin:∀v,Rep X.K H dres v→Q v (upd H S (.lst []))) :
  ∀(m j:Nat) (b:V) (db:D) (s:zbe1),xs.length - j=m→j≤xs.length→Inv X pins σ (upd H S (.lst [b,b])) s→s.heap.IsListIter it l j→FpOk X pins (upd H S (.lst [b,b])) it→Rep X.K H db b→zai8 false db (ds.drop j)=some dres →
   codeAny (model X.prog X.w) X.A (.builtin "min.loop" ⟨[.ref it,.none,.ref S],[]⟩) (fun r s'=>match r with | .ok (.ret u)=>EP X pins σ Q u s' | .ok _=>False | .error _=>False) s:=by
 have hname:(toString "min"++toString ".loop":String) = "min.loop":=by decide
 have sm:∀o,Same H (upd H S o):=fun o b u e=>by rw [zb1 (fun z=>by rw [z,hS]at e;cases e)];exact e
 intro m
 induction m with
 |zero =>
  intro j b db s hm hj I hit fpo rb eb
  have hin:j=xs.length:=by lia
  obtain⟨its,rv,pl,_⟩:=I.list ((sm _).seq hl)
  have hsz:its.toArray.size=xs.length:=by simp [rv.length]
  obtain⟨_,bk,nS,rS,gS⟩:=I.hok S _ za8
  obtain⟨ub,uk,rfl,rb',rk⟩:=rS.two2
  have Wk:=Walks.list (prog:=X.prog) (w:=X.w) (A:=X.A.in1) (I.ok.hd hcm) it l hli its.toArray
  refine codeAny_builtin zbm5 ?_
  rw [Around.under_plainId zbh2 _]
  show wpAny _ X.A.in1 (seqItems? (.ref S) >>= _) _ _ _
  refine zbd4 (wpAny_seqItems gS rfl ?_)
  show wpAny _ X.A.in1 (tryCatch (pyNext (.ref it)) _ >>= _) _ _ _
  refine zbd4 (wpAny_tryCatch (Wk.done _ _ _ ⟨by rw [hsz, ← hin];exact hit,DL.PlainL.isL pl⟩ fun h' tk' hk'=>?_))
  have I1:=I.turned (t':=tk') (fun c o n e=>hk' c o (by simpa using n) e) fpo.1 fpo.2.1 fpo.2.2.2.1 fpo.2.2.2.2.1 fpo.2.2.2.2.2
  have gS1:=hk' S _ (by simpa using hSI) gS
  show wpAny _ X.A.in1 (updateSeq S (fun _ => #[]) >>= _) _ _ _
  refine zbd4 (wpAny_updateSeq gS1 rfl (zbd4 (wpAny_letGo (zbf3 ?_))))
  have g2:=get?_update_seq gS1 (fun _=>(#[]:Array Value))
  have I2:=I1.write (t':=tk') (o:=.lst []) (by rw [za8];trivial) (.inl rfl) (fun c o n e=>(zbf9 _ _ (Ne.symm n)).trans e) ⟨_,g2⟩ ⟨by simp,[],_,.nil,g2⟩
  have ee:upd (upd H S (.lst [b,b])) S (.lst [])=upd H S (.lst []):=by funext c;unfold upd;split<;>rfl
  rw [ee]at I2
  rw [hin,zbi4 (by rw [← hr.length];exact zbf1 _)]at eb
  have eb:some db=some dres:=eb
  cases eb
  exact⟨b,_,I2,rb',fin b rb⟩
 |succ m ih =>
  intro j b db s hm hj I hit fpo rb eb
  have hlt:j<xs.length:=by lia
  obtain⟨its,rv,pl,_⟩:=I.list ((sm _).seq hl)
  have hsz:its.toArray.size=xs.length:=by simp [rv.length]
  obtain⟨_,bk,nS,rS,gS⟩:=I.hok S _ za8
  obtain⟨ub,uk,rfl,rb',rk⟩:=rS.two2
  have Wk:=Walks.list (prog:=X.prog) (w:=X.w) (A:=X.A.in1) (I.ok.hd hcm) it l hli its.toArray
  refine codeAny_builtin zbm5 ?_
  rw [Around.under_plainId zbh2 _]
  show wpAny _ X.A.in1 (seqItems? (.ref S) >>= _) _ _ _
  refine zbd4 (wpAny_seqItems gS rfl ?_)
  show wpAny _ X.A.in1 (tryCatch (pyNext (.ref it)) _ >>= _) _ _ _
  refine zbd4 (wpAny_tryCatch (Wk.item j _ _ _ (by rw [hsz];exact hlt) ⟨hit,DL.PlainL.isL pl⟩ fun v h' tk' hP hst' hk'=>?_))
  have hv:its[j]?=some v:=by simpa using hP
  have hx:xs[j]?=some (xs[j]'hlt):=zbd1 hlt
  obtain⟨v',e',rx⟩:=rv.get hx
  rw [hv]at e'
  cases e'
  generalize xs[j]'hlt=x at hx rx
  obtain⟨d,ed,rd⟩:=hr.getV hx
  have I1:=I.turned (t':=tk') (fun c o n e=>hk' c o (by simpa using n) e) fpo.1 fpo.2.1 fpo.2.2.2.1 fpo.2.2.2.2.1 fpo.2.2.2.2.2
  obtain⟨oI,hoI,hoc,hod⟩:=id hst'.1
  have I2:=I1.pinned (fp:=[it]) (fun c hc=>by rw [zbd3.mp hc];exact fpo) (fun c hc=>by rw [zbd3.mp hc];exact⟨oI,hoI,fun z e=>by rw [hod]at e;cases e⟩)
  have gS1:=hk' S _ (by simpa using hSI) gS
  have hjd:j<ds.length:=by rw [← hr.length];exact hlt
  have ej:ds.drop j=d::ds.drop (j+1):=by rw [zbe9 hjd];rw [zbd1 hjd]at ed;cases ed;rfl
  rw [ej]at eb
  unfold zai8 at eb
  cases ec:cmpD false d db with
  |none=>rw [ec]at eb;cases eb
  |some c =>
   rw [ec]at eb
   simp only [zbc8]at eb
   show wpAny _ X.A.in1 (tryCatch (holding [v,v] (richCompare .Lt v uk >>= _)) _ >>= _) _ _ _
   refine zbd4 (wpAny_tryCatch (wpAny_holding (zbd4 (cmp_D (mx:=false) (by rfl) hu _ _ _ _ _ _ _ _ _ _ _ I2 rx rk ⟨d,db,Rep.mono (sm _) rd,Rep.mono (sm _) rb,ec⟩ fun s4 I4 g4=>?_))))
   refine zbd4 (wpAny_holding (wpAny_truthy_bool ?_))
   refine zbd4 (wpAny_letGo (zbf3 ?_))
   have I5:=I4.unpinned
   have pn4:=I4.pin (it,oI) (zbc4 _ (zbc4 _ (zd0 (by simp) hoI)))
   have gS4:=g4 _ _ gS1
   cases c with
   |true =>
    simp only [if_true]at eb ⊢
    refine zbd4 (wpAny_updateSeq gS4 rfl (zbd4 (wpAny_letGo ?_)))
    rw [hname]
    have g5:=get?_update_seq gS4 (fun _ => #[v,v])
    have I6:=I5.write (t':=s4.toks) (o:=.lst [x,x]) (by rw [za8];trivial) (.inl rfl) (fun c o n e=>(zbf9 _ _ (Ne.symm n)).trans e) ⟨_,g5⟩ ⟨by simp [sizeLine],[v,v],_,.cons rx (.cons rx .nil),g5⟩
    have ee:upd (upd H S (.lst [b,b])) S (.lst [x,x])=upd H S (.lst [x,x]):=by funext c;unfold upd;split<;>rfl
    rw [ee]at I6
    refine zbf3 ⟨plainId_quiet zbh2 _,ih (j+1) x d _ (by lia) hlt I6 ⟨oI,(zbf9 _ _ hSI).trans pn4.1,hoc,hod⟩ ⟨?_,fpo.2⟩ rd eb⟩
    have:=fpo.1
    rw [zb1 (Ne.symm hSI)]at this ⊢
    exact this
   |false =>
    simp only [zbj3,if_false]at eb ⊢
    refine zbd4 (wpAny_letGo ?_)
    rw [hname]
    exact zbf3 ⟨plainId_quiet zbh2 _,ih (j+1) b db _ (by lia) hlt I5 ⟨oI,pn4.1,hoc,hod⟩ fpo rb eb⟩
theorem na_min (a:Value):argsOk "min" ⟨[a],[]⟩:=by unfold argsOk;kernel_rfl
theorem zbb4 (hcm:X.calm=true) (hu:X.A.units+64<cLine):zq1 X (.builtin "min") (fun ys H Q => ∃(l:Addr) (xs:List V) (d:D) (ds:List D) (dres:D),ys=[.ref l]∧SqL X.K H l xs∧Reps X.K H (d::ds) xs∧zai8 false d ds=some dres∧∀S v,H S=none→Rep X.K H dres v→Q v (upd H S (.lst []))):=by
 intro pins s σ H ys us Q I rr h
 obtain⟨l,xs,d,ds,dres,rfl,hl,hr,eb,fin⟩:=h
 obtain⟨u,rfl,ru⟩:=zab0 rr
 cases ru
 have hname:(toString "min"++toString ".loop":String) = "min.loop":=by decide
 obtain⟨its,rv,pl,_⟩:=I.list hl
 have hls:=DL.PlainL.isL pl
 obtain⟨ol,hol,_⟩:=id hls
 have hll:l<s.heap.objs.size:=zbe4 hol
 have hlen:0<xs.length:=by rw [hr.length];simp
 refine kmk_tree PySem.F.kind_min PySem.F.plain_min PySem.F.entry_min (na_min _) ?_
 show wpAny _ X.A.in1 (Builtin.Builtins.bindParams "min" ["key", "default"] 0 ⟨[],[]⟩ >>= _) _ _ s
 refine zbd4 (wpAny_of_eq (show Builtin.Builtins.bindParams "min" ["key", "default"] 0 ⟨[],[]⟩=pure [none,none] from rfl) ?_)
 refine zbd4 (zbf3 ?_)
 refine zbd4 (wpAny_pyIter_list hls ?_)
 refine zbd4 (wpAny_newList ?_ (zbs0 _))
 rw [hname]
 refine zbf3 ⟨plainId_quiet zbh2 _,?_⟩
 have I1:Inv X pins σ H { s with heap:=s.heap.push { cls:=.type "list_iterator",data:=.fields #[.ref l,.int 0 0] },toks:=s.toks }:=I.kept (fun _ _ e=>zbd5 _ e)
 have I2:=I1.lnew (its:=[]) (t':=s.toks) .nil (by simp)
 have hS:(s.heap.push { cls:=.type "list_iterator",data:=.fields #[.ref l,.int 0 0] }).objs.size=s.heap.objs.size+1:=zbk6 ..
 generalize hSS:(s.heap.push { cls:=.type "list_iterator",data:=.fields #[.ref l,.int 0 0] }).objs.size=S at hS I2 ⊢
 have nS:H S=none:=I.hok.fresh (by lia)
 have nit:H s.heap.objs.size=none:=I.fresh
 have hSI:S≠s.heap.objs.size:=by lia
 have fpo0:FpOk X pins H s.heap.objs.size:=I.fpOk (zbf1 _) nit
 have fpo:FpOk X pins (upd H S (.lst [])) s.heap.objs.size:=⟨by rw [zb1 (Ne.symm hSI)];exact nit,fpo0.2⟩
 have sm:∀o,Same H (upd H S o):=fun o b u e=>by rw [zb1 (fun z=>by rw [z,nS]at e;cases e)];exact e
 have hl1:SqL X.K (upd H S (.lst [])) l xs:=(sm _).seq hl
 have hli:l≠s.heap.objs.size:=zbf5 hll
 obtain⟨its1,rv1,pl1,_⟩:=I2.list hl1
 have hsz:its1.toArray.size=xs.length:=by simp [rv1.length]
 have gI:((s.heap.push { cls:=.type "list_iterator",data:=.fields #[.ref l,.int 0 0] }).push { cls:=.type "list",data:=.seq ([]:List Value).toArray }).get? s.heap.objs.size=some { cls:=.type "list_iterator",data:=.fields #[.ref l,.int 0 0] } :=
  zbd5 _ (zbf7 _ rfl)
 have gS:((s.heap.push { cls:=.type "list_iterator",data:=.fields #[.ref l,.int 0 0] }).push { cls:=.type "list",data:=.seq ([]:List Value).toArray }).get? S=some (seqObj "list" #[] 0):=hSS ▸ zbf7 _ rfl
 have Wk:=Walks.list (prog:=X.prog) (w:=X.w) (A:=X.A.in1) (I.ok.hd hcm) s.heap.objs.size l hli its1.toArray
 refine codeAny_builtin zbm5 ?_
 rw [Around.under_plainId zbh2 _]
 show wpAny _ X.A.in1 (seqItems? (.ref S) >>= _) _ _ _
 refine zbd4 (wpAny_seqItems gS rfl ?_)
 show wpAny _ X.A.in1 (tryCatch (pyNext (.ref s.heap.objs.size)) _ >>= _) _ _ _
 refine zbd4 (wpAny_tryCatch (Wk.item 0 _ _ _ (by rw [hsz];exact hlen) ⟨⟨_,gI,rfl,rfl⟩,DL.PlainL.isL pl1⟩ fun v h' tk' hP hst' hk'=>?_))
 have hv:its1[0]?=some v:=by simpa using hP
 cases hr with
 |@cons _ x0 _ xr rd rr' =>
 obtain⟨v',e',rx⟩:=rv1.get (show (x0::xr)[0]?=some x0 from rfl)
 rw [hv]at e'
 cases e'
 have I3:=I2.turned (t':=tk') (fun c o n e=>hk' c o (by simpa using n) e) fpo.1 fpo.2.1 fpo.2.2.2.1 fpo.2.2.2.2.1 fpo.2.2.2.2.2
 obtain⟨oI,hoI,hoc,hod⟩:=id hst'.1
 have gS2:=hk' S _ (by simpa using hSI) gS
 show wpAny _ X.A.in1 (updateSeq S (fun _ => #[v,v]) >>= _) _ _ _
 refine zbd4 (wpAny_updateSeq gS2 rfl ?_)
 rw [hname]
 have g5:=get?_update_seq gS2 (fun _ => #[v,v])
 have I6:=I3.write (t':=tk') (o:=.lst [x0,x0]) (by rw [za8];trivial) (.inl rfl) (fun c o n e=>(zbf9 _ _ (Ne.symm n)).trans e) ⟨_,g5⟩ ⟨by simp [sizeLine],[v,v],_,.cons rx (.cons rx .nil),g5⟩
 have ee:upd (upd H S (.lst [])) S (.lst [x0,x0])=upd H S (.lst [x0,x0]):=by funext c;unfold upd;split<;>rfl
 rw [ee]at I6
 refine zbf3 ⟨plainId_quiet zbh2 _,codeAny_mono (kn_min (Q:=Q) (ds:=d::ds) hcm hu nS hl (.cons rd rr') hli hSI (fun v rv=>fin S v nS rv) _ 1 x0 d _ rfl hlen I6 ⟨oI,(zbf9 _ _ hSI).trans hoI,hoc,hod⟩ ⟨by rw [zb1 (Ne.symm hSI)];exact nit,fpo.2⟩ rd eb) fun r s' hr=>?_⟩
 cases r with
 |error e=>exact hr.elim
 |ok fl=>cases fl with
  |ret u=>exact hr
  |next=>exact hr.elim
  |brk=>exact hr.elim
  |cont=>exact hr.elim
variable {F:List Addr}
theorem cd_minT (hcm:X.calm=true) (hu:X.A.units+64<cLine):CallD X F (.builtin "min") (zax9 false):=by
 intro pins s σ H0 H A ys us Q rs r I hL gs v rr e hq
 unfold zax9 at e
 split at e
 case h_2=>cases e
 rename_i r1
 split at e
 case h_2=>cases e
 rename_i d ds z
 cases eb:zai8 false d ds with
 |none=>rw [eb]at e;cases e
 |some x =>
  rw [eb]at e
  simp only [zbc8]at e
  split at e
  case isFalse=>cases e
  rename_i fx
  cases e
  cases rr with
  |@cons _ y _ _ r1' rn =>
  cases rn
  have p:=r1'.full
  rw [z]at p
  cases p with
  |@lst _ l ws h1 h2 =>
   refine zbb4 hcm hu pins s σ H _ us Q I v ⟨l,ws,d,ds,x,rfl,h1,h2,eb,fun S w nS rw'=>?_⟩
   have sm:Same H (upd H S (.lst [])):=fun b u e=>by rw [zb1 (fun z=>by rw [z,nS]at e;cases e)];exact e
   exact hq w _ sm (Rep.mono (za6 sm) (Rep.hid (hL.mono gs) fx rw'))
end
end DL
namespace DL
open PySem.Spec L2
abbrev DM:=Th→Option (D×Th)
abbrev DMs:=Th→Option (List D×Th)
structure Mv (K:zbc5) (F A:List Addr) (H H':Hp) (B A':List Addr) (t':Th) (σ:L2.St):Prop where
 sm:Same H H'
 nd:B.Nodup
 dj:∀b∈B,b∉F
 rs:RS K (B++F) H' A' t' σ
 fr:∀b∈B,b∈A∨H b=none
 sb:∀b∈A',b∈A
noncomputable def dM (K:zbc5) (F:List Addr) (f:DM):TE:=fun σ H Q => ∃A t d t',RS K F H A t σ∧f t=some (d,t')∧∀v H' B A',Mv K F A H H' B A' t' σ→RepD K (hide (A'++(B++F)) H') H' d v B→Q v H'
noncomputable def dMs (K:zbc5) (F:List Addr) (f:DMs):TA:=fun σ H Q => ∃A t ds t',RS K F H A t σ∧f t=some (ds,t')∧∀vs H' B A',Mv K F A H H' B A' t' σ→RepDs K (hide (A'++(B++F)) H') H' ds vs B→Q vs H'
theorem RSl.loseOwn {K:zbc5}{H0 H:Hp}:∀ {t:Th}{σ:L2.St}{A:List Addr},RSl K H0 H t σ A→A.Nodup→∀ {i:Nat}{ds:List D},t[i]?=some (.own ds)→∃p vs A',σ[i]?=some (some (.ref p))∧H p=some (.lst vs)∧Reps K H0 ds vs∧RSl K H0 H (t.set i .no) σ A'∧(∀x∈A',x∈A)∧p∈A∧(∀x∈A,x=p∨x∈A')∧A'.Nodup∧p∉A':=by
 intro _ _ _ h
 induction h with
 |nil =>
  intro n i d e
  simp at e
 |@no _ _ _ _ r ih =>
  intro n i d e
  cases i with
  |zero =>
   simp at e
  |succ i =>
   obtain⟨v,B,A',a1,a2,a2',a3,a4⟩:=ih n (i:=i) (ds:=d) (by simpa using e)
   exact⟨v,B,A',by simpa using a1,a2,a2',.no a3,a4⟩
 |@val _ _ _ _ _ h r ih =>
  intro n i d e
  cases i with
  |zero =>
   simp at e
  |succ i =>
   obtain⟨v,B,A',a1,a2,a2',a3,a4⟩:=ih n (i:=i) (ds:=d) (by simpa using e)
   exact⟨v,B,A',by simpa using a1,a2,a2',.val h a3,a4⟩
 |@own q vs _ _ _ A h1 h2 r ih =>
  intro n i d e
  cases i with
  |zero =>
   simp at e;subst e
   have n0:=zbe6.mp n
   exact⟨q,vs,A,rfl,h1,h2,.no r,fun x hx=>zbc6 _ hx,zbc9 ..,fun x hx=>zbd2.mp hx,n0.2,n0.1⟩
  |succ i =>
   have n0:=zbe6.mp n
   obtain⟨p,vs,A',a1,a2,a2',a3,a4,a5,a6,a7,a8⟩:=ih n0.2 (i:=i) (ds:=d) (by simpa using e)
   refine⟨p,vs,q::A',by simpa using a1,a2,a2',.own h1 h2 a3,fun x hx=>?_,zbc6 _ a5,fun x hx=>?_,zbe6.mpr ⟨fun z=>n0.1 (a4 q z),a7⟩,fun z=>?_⟩
   ·rcases zbd2.mp hx with w | w
    ·rw [w];exact zbc9 ..
    ·exact zbc6 _ (a4 x w)
   ·rcases zbd2.mp hx with w | w
    ·rw [w];exact .inr (zbc9 ..)
    ·exact (a6 x w).imp id (zbc6 _)
   ·rcases zbd2.mp z with w | w
    ·exact n0.1 (w ▸ a5)
    ·exact a8 w
 |@dp _ _ C _ _ _ h r ih =>
  intro n i d e
  cases i with
  |zero =>
   simp at e
  |succ i =>
   have n0:=zbe0.mp n
   obtain⟨p,vs,A',a1,a2,a2',a3,a4,a5,a6,a7,a8⟩:=ih n0.2.1 (i:=i) (ds:=d) (by simpa using e)
   refine⟨p,vs,C++A',by simpa using a1,a2,a2',.dp h a3,fun x hx=>?_,zbc4 _ a5,fun x hx=>?_,zbe0.mpr ⟨n0.1,a7,fun x hx y hy e=>n0.2.2 x hx y (a4 y hy) e⟩,fun z=>?_⟩
   ·rcases zbd0.mp hx with w | w
    ·exact zbc7 _ w
    ·exact zbc4 _ (a4 x w)
   ·rcases zbd0.mp hx with w | w
    ·exact .inr (zbc7 _ w)
    ·exact (a6 x w).imp id (zbc4 _)
   ·rcases zbd0.mp z with w | w
    ·exact n0.2.2 p w p a5 rfl
    ·exact a8 w
theorem RS.takeOwn {K:zbc5}{F A:List Addr}{H:Hp}{t:Th}{σ:L2.St}{i:Nat}{ds:List D} (R:RS K F H A t σ) (e:t[i]?=some (.own ds)) :
  ∃p vs A',σ[i]?=some (some (.ref p))∧RS K ([p]++F) H A' (t.set i .no) σ∧p∉F∧H p=some (.lst vs)∧Reps K (hide (A'++([p]++F)) H) ds vs∧(∀x∈A',x∈A)∧p∈A:=by
 obtain⟨p,vs,A',a1,a2,a2',a3,a4,a5,a6,a7,a8⟩:=R.rel.loseOwn R.nd e
 have s:Same (hide (A++F) H) (hide (A'++([p]++F)) H):=za7 H fun x hx=>by
  rcases zbd0.mp hx with z | z
  ·exact zbc7 _ (a4 x z)
  ·rcases zbd0.mp z with z | z
   ·rw [zbd3.mp z];exact zbc7 _ a5
   ·exact zbc4 _ z
 refine⟨p,vs,A',a1,⟨fun q hp=>?_,a7,fun q hp z=>?_,RSl.mono s a3 fun _ _ _ w=>w⟩,R.dj p a5,a2,Reps.mono s a2',a4,a5⟩
 ·rcases zbd0.mp hp with z | z
  ·exact R.mu q (zbc7 _ (a4 q z))
  ·rcases zbd0.mp z with z | z
   ·rw [zbd3.mp z];exact R.mu p (zbc7 _ a5)
   ·exact R.mu q (zbc4 _ z)
 ·rcases zbd0.mp z with z | z
  ·rw [zbd3.mp z]at hp;exact a8 hp
  ·exact R.dj q (a4 q hp) z
section
variable {X:Cx}{F:List Addr}{a b c o:Expr}{es:List Expr}{fa fb fc:DE}{fn:DM}{fns:DMs}{pos:Pos}
noncomputable def mOwn (i:Nat):DM:=fun t=>match t[i]? with
 |some (.own xs)=>if flats xs then some (.lst xs,t.set i .no) else none
 |some (.dp d)=>some (d,t.set i .no)
 |some (.val d)=>if flat d then some (d,t) else none
 |_=>none
theorem pm_own (i:Nat) {x:Str} (hN:X.N[i]?=some x:=by rfl) (hv:Vis X.env.scope x:=by first | exact Or.inl rfl | exact Or.inr (Or.inl rfl) |exact Or.inr (Or.inr rfl)) (hd:(x ==("__debug__":Str))=false:=by decide)
  (hcd:(x ==("__classdict__":Str))=false:=by decide):PE X (.Name x pos) (dM X.K F (mOwn i)):=by
 refine PE.imp (zo5 (i:=i) hN hv hd hcd) ?_
 rintro σ H Q ⟨A,t,d,t',R,e,h⟩
 unfold mOwn at e
 split at e
 ·rename_i xs q
  split at e
  case isFalse=>cases e
  rename_i f
  cases e
  obtain⟨p,vs,A',a1,R1,a3,a4,a5,a6,a7⟩:=R.takeOwn q
  exact⟨_,a1,h _ H [p] A' ⟨Same.refl H,by simp,fun b hb=>by rw [zbd3.mp hb];exact a3,R1,fun b hb=>by rw [zbd3.mp hb];exact .inl a7,a6⟩ (.lst a4 (RepDs.of_flat f a5))⟩
 ·rename_i d0 q
  cases e
  obtain⟨v,B,A',a1,R1,a3,a4,a5,a6,a7⟩:=R.takeDp q
  exact⟨v,a1,h v H B A' ⟨Same.refl H,a3,a4,R1,fun b hb=>.inl (a7 b hb),a6⟩ a5⟩
 ·rename_i d0 q
  split at e
  case isFalse=>cases e
  rename_i f
  cases e
  obtain⟨v,h1,h2⟩:=R.rel.getVal q
  exact⟨v,h1,h v H [] A ⟨Same.refl H,zbg4,fun b hb=>(by cases hb),R,fun b hb=>(by cases hb),fun b hb=>hb⟩ (.flat f h2)⟩
 ·cases e
def mOf (f:DE):DM:=fun t=>(f t).bind fun r=>(toDn r).map fun d=>(d,t)
theorem zay3 {A B F:List Addr}{H:Hp}:Same (hide (B++(A++F)) H) (hide (A++(B++F)) H):=za7 H fun x hx=>by
 rcases zbd0.mp hx with z | z
 ·exact zbc4 _ (zbc7 _ z)
 ·rcases zbd0.mp z with z | z
  ·exact zbc7 _ z
  ·exact zbc4 _ (zbc4 _ z)
theorem pm_of (he:PE X a (dE X.K F fa)):PE X a (dM X.K F (mOf fa)):=by
 refine PE.imp he ?_
 rintro σ H Q ⟨A,t,d,t',R,e,h⟩
 unfold mOf at e
 cases e1:fa t with
 |none=>rw [e1]at e;cases e
 |some r =>
  rw [e1]at e
  simp only [zbc8]at e
  cases e2:toDn r with
  |none=>rw [e2]at e;cases e
  |some d0 =>
   rw [e2]at e
   cases e
   refine⟨A,t,r,R,e1,fun v H' gs q=>?_⟩
   obtain⟨B,b1,b2,b3⟩:=q.toDn R.mu gs e2
   exact h v H' B A ⟨gs,b1,fun b hb z=>zc4 R.mu (b2 b hb) (zbc4 _ z),R.aside gs b2 b3.lists,fun b hb=>.inr (b2 b hb),fun b hb=>hb⟩ (RepD.mono zay3 b3 fun _ _ _ w=>w)
def mNil:DMs:=fun t=>some ([],t)
def zak6 (f:DM) (g:DMs):DMs:=fun t=>(f t).bind fun q=>(g q.2).bind fun w=>some (q.1::w.1,w.2)
theorem pms_nil:PA X [] (dMs X.K F mNil):=PA.imp zi1 fun σ H Q ⟨A,t,ds,t',R,e,h⟩=>by cases e;exact h [] H [] A ⟨Same.refl H,zbg4,fun b hb=>(by cases hb),R,fun b hb=>(by cases hb),fun b hb=>hb⟩ .nil
theorem zan2 (ha:∀F,PE X a (dM X.K F fn)) (hr:∀F,PA X es (dMs X.K F fns)) (hs:zbe3 (a::es) X.env=(false,eval a X.env)::zbe3 es X.env:=by rfl):PA X (a::es) (dMs X.K F (zak6 fn fns)):=by
 intro p pins s σ H Q I h
 obtain⟨A,t,ds,t',R,e,h⟩:=h
 unfold zak6 at e
 cases e1:fn t with
 |none=>rw [e1]at e;cases e
 |some q1 =>
  obtain⟨d1,t1⟩:=q1
  rw [e1]at e
  simp only [zbc8]at e
  cases e2:fns t1 with
  |none=>rw [e2]at e;cases e
  |some q2 =>
   obtain⟨ds2,t2⟩:=q2
   rw [e2]at e
   cases e
   rw [hs]
   show wpAny _ _ (spliced ((false,eval a X.env)::zbj4 p (zbe3 es X.env))) _ _ s
   refine Calls.spliced_cons (thn (ha F pins s σ H (fun v H1 => ∃B1 A1,Mv X.K F A H H1 B1 A1 t1 σ∧RepD X.K (hide (A1++(B1++F)) H1) H1 d1 v B1) I ⟨A,t,d1,t1,R,e1,fun v H1 B1 A1 m1 r1=>⟨B1,A1,m1,r1⟩⟩) fun u s1 ⟨x,H1,I1,rx,B1,A1,m1,r1⟩=>?_)
   refine thn (hr (B1++F) p pins s1 σ H1 (fun vs H2=>Q (x::vs) H2) I1 ⟨A1,t1,ds2,t2,m1.rs,e2,fun vs H2 B2 A2 m2 r2=>?_⟩) fun us s2 ⟨xs,H2,I2,rx2,q2⟩=>⟨x::xs,H2,I2,.cons rx rx2,q2⟩
   have l1:Lists H2 B1:=r1.lists.mono m2.sm
   have d21:∀b∈B2,b∉B1:=fun b hb z=>m2.dj b hb (zbc7 _ z)
   have mem:∀x,x∈A2++((B1++B2)++F)→x∈A2++(B2++(B1++F)):=fun x hx=>by
    simp only [zbd0]at hx ⊢
    rcases hx with z | (z | z) |z
    ·exact .inl z
    ·exact .inr (.inr (.inl z))
    ·exact .inr (.inl z)
    ·exact .inr (.inr (.inr z))
   have mem':∀x,x∈(B1++B2)++F→x∈B2++(B1++F):=fun x hx=>by
    simp only [zbd0]at hx ⊢
    rcases hx with (z | z) |z
    ·exact .inr (.inl z)
    ·exact .inl z
    ·exact .inr (.inr z)
   refine h (x::vs) H2 (B1++B2) A2 ⟨m1.sm.trans m2.sm,zbe0.mpr ⟨m1.nd,m2.nd,fun y hy z hz e=>d21 z hz (e ▸ hy)⟩,fun b hb=>?_,m2.rs.less mem',fun b hb=>?_,fun b hb=>m1.sb b (m2.sb b hb)⟩ (.cons (B:=B1) (C:=B2) (RepD.hid (fun y hy=>m2.rs.mu y (mem y hy)) (zb0 _ _) (RepD.mono (H0':=hide B1 H2) (fun b o w=>?_) r1 fun _ _ _ w=>m2.sm _ _ w)) (RepDs.mono (za7 H2 mem) r2 fun _ _ _ w=>w))
   ·rcases zbd0.mp hb with z | z
    ·exact m1.dj b z
    ·exact fun w=>m2.dj b z (zbc4 _ w)
   ·rcases zbd0.mp hb with z | z
    ·exact m1.fr b z
    ·rcases m2.fr b z with w | w
     ·exact .inl (m1.sb b w)
     ·exact .inr (Same.free m1.sm w)
   ·obtain⟨n,w⟩:=zg2 w
    exact zb9 (m2.sm _ _ w) fun z=>n (zbc4 _ (zbc7 _ z))
def mTup (g:DMs):DM:=fun t=>(g t).bind fun q=>if q.1.length≤1000 then some (.tup q.1,q.2) else none
theorem pm_tup {x1} (h:PA X es (dMs X.K F fns)):PE X (.Tuple es x1 pos) (dM X.K F (mTup fns)):=by
 refine PE.imp (zav4 h) ?_
 rintro σ H Q ⟨A,t,d,t',R,e,h⟩
 unfold mTup at e
 cases e1:fns t with
 |none=>rw [e1]at e;cases e
 |some q =>
  obtain⟨ds,t2⟩:=q
  rw [e1]at e
  simp only [zbc8]at e
  split at e
  case isFalse=>cases e
  rename_i hl
  cases e
  refine⟨A,t,ds,t',R,e1,fun vs H1 B A1 m1 r1=>⟨by rw [r1.length];exact zk3 (by lia),fun p hp=>?_⟩⟩
  have s1:=zd2 (o:=HO.tup vs) hp
  have np:p∉A1++(B++F):=zc4 m1.rs.mu hp
  exact h _ _ B A1 ⟨m1.sm.trans s1,m1.nd,m1.dj,m1.rs.grow s1,m1.fr,m1.sb⟩ (.tup (SqT.of (zb9 za8 np)) (RepDs.mono (za6 s1) r1 fun _ _ _ w=>s1 _ _ w))
def zaz9 (f:DM):DS:=fun t=>(f t).bind fun q=>some (.rt (.dn q.1))
theorem psd_retM (ha:PE X a (dM X.K F fn)):PS X (.Return (some a) pos) (dS X.K F (zaz9 fn)):=by
 refine PS.imp (zan1 ha) ?_
 rintro E σ H ⟨A,t,o,R,e,h⟩
 unfold zaz9 at e
 cases e1:fn t with
 |none=>rw [e1]at e;cases e
 |some q =>
  rw [e1]at e
  cases e
  refine⟨A,t,q.1,q.2,R,e1,fun v H' B A' m r1=>h v H' A (Gr.of_same R.mu.left m.sm) ⟨B,m.nd,fun b hb=>⟨m.fr b hb,m.dj b hb⟩,RepD.mono (za7 H' fun a z=>zbc4 _ z) r1 fun _ _ _ w=>w⟩⟩
end
end DL
namespace DL
open PySem.Spec L2
def tabOk (K:zbc5) (x:Str):Bool:=match zbm4 K x with
 |some q=>(K.lookup q.2).isNone
 |none=>false
theorem tabOk_of {K:zbc5}{x:Str} (h:tabOk K x=true):∃c P,zbm4 K x=some (c,P)∧K.lookup P=none:=by
 unfold tabOk at h
 split at h
 ·rename_i q e
  exact⟨q.1,q.2,e,by simpa using h⟩
 ·cases h
end DL
namespace TS
section
variable (κ π:Keyed→Int)
def rk (x:Keyed):Int:=κ x*1048576+π x
def Ris (l:List Keyed):Prop:=l.Pairwise fun a b=>rk κ π a≤rk κ π b
def Below (l m:List Keyed):Prop := ∀a∈l,∀b∈m,rk κ π a≤rk κ π b
variable {κ π}
structure Lo (X Y out:List Keyed) (i j:Nat):Prop where
 pm:out.Perm (X.take i++Y.take j)
 rs:Ris κ π out
 bx:Below κ π out (X.drop i)
 by':Below κ π out (Y.drop j)
variable {X Y out:List Keyed}{i j:Nat}
structure Hi (X Y out:List Keyed) (i j:Nat):Prop where
 pm:out.Perm (X.drop i++Y.drop j)
 rs:Ris κ π out.reverse
 bx:Below κ π (X.take i) out
 by':Below κ π (Y.take j) out
end
end TS
namespace TS
structure Cmp (M:Model) (A:Around) (E:Value→zbe1→Prop) (s:zbe1) (κ π:Keyed→Int) (a₀:Array Keyed) (kd:SortKind):Prop where
 lt:∀(st:SortSt) (x y:Keyed) (Q:Option Bool→SortSt→Prop),kindOf st=kd→x∈a₀.toList→y∈a₀.toList→Q (some (decide (κ x<κ y))) st→wpS M A E s (lt' x y) Q st
 pi:∀x∈a₀.toList,0≤π x∧π x<1048576
section
variable {M:Model}{A:Around}{E:Value→zbe1→Prop}{s:zbe1}{κ π:Keyed→Int}{a₀:Array Keyed}{kd:SortKind} (C:Cmp M A E s κ π a₀ kd)
structure SameS (st st':SortSt):Prop where
 arr:arrOf st'=arrOf st
 knd:kindOf st'=kindOf st
 pnd:pendingOf st'=pendingOf st
 fld:failedOf st'=failedOf st
theorem SameS.trans {a b c:SortSt} (h:SameS a b) (g:SameS b c):SameS a c:=⟨g.arr.trans h.arr,g.knd.trans h.knd,g.pnd.trans h.pnd,g.fld.trans h.fld⟩
structure Two (κ π:Keyed→Int) (a₀:Array Keyed) (xs ys:Array Keyed):Prop where
 mx:∀x∈xs.toList,x∈a₀.toList
 my:∀y∈ys.toList,y∈a₀.toList
 rx:Ris κ π xs.toList
 ry:Ris κ π ys.toList
 sep:∀x∈xs.toList,∀y∈ys.toList,π x≤π y
 px:0<xs.size
 py:0<ys.size
 first:∀x y,xs[0]?=some x→ys[0]?=some y→κ y<κ x
 last:∀x,xs[xs.size - 1]?=some x→∀y∈ys.toList,κ y<κ x
variable {xs ys:Array Keyed}{st:SortSt} (hk:kindOf st=kd) (T:Two κ π a₀ xs ys)
end
end TS
namespace TS
section
variable {M:Model}{A:Around}{E:Value→zbe1→Prop}{s:zbe1}{κ π:Keyed→Int}{a₀:Array Keyed}{kd:SortKind} (C:Cmp M A E s κ π a₀ kd)
def sepL (π:Keyed→Int) (l m:List Keyed):Prop := ∀a∈l,∀b∈m,π a≤π b
end
end TS
namespace TS
def kA (f:Keyed→Int) (xs:Array Keyed) (i:Nat):Int:=match xs[i]? with
 |some p=>f p
 |none=>0
structure Chg (xs zs:Array Keyed) (lo hi:Nat):Prop where
 pm:zs.Perm xs
 out:∀i,i<lo∨hi≤i→zs[i]?=xs[i]?
 ins:∀i,lo≤i→i<hi→∃j,lo≤j∧j<hi∧zs[i]?=xs[j]?
theorem Chg.size {xs zs:Array Keyed}{lo hi:Nat} (h:Chg xs zs lo hi):zs.size=xs.size:=h.pm.size_eq
section
variable {M:Model}{A:Around}{E:Value→zbe1→Prop}{s:zbe1}{κ π:Keyed→Int}{a₀:Array Keyed}{kd:SortKind} (C:Cmp M A E s κ π a₀ kd)
def rA (κ π:Keyed→Int) (xs:Array Keyed) (i:Nat):Int:=kA κ xs i*1048576+kA π xs i
structure TB (a₀:Array Keyed) (kd:SortKind) (st:SortSt):Prop where
 pm:(arrOf st).Perm a₀
 kind:kindOf st=kd
 fld:failedOf st=none
theorem TB.size {st:SortSt} (h:TB a₀ kd st):(arrOf st).size=a₀.size:=h.pm.size_eq
theorem TB.set {st:SortSt} (h:TB a₀ kd st) {zs:Array Keyed} (hp:zs.Perm (arrOf st)):TB a₀ kd (setArr st zs):=⟨hp.trans h.pm,h.kind,h.fld⟩
end
end TS
namespace TS
section
variable {M:Model}{A:Around}{E:Value→zbe1→Prop}{s:zbe1}{κ π:Keyed→Int}{a₀:Array Keyed}{kd:SortKind} (C:Cmp M A E s κ π a₀ kd)
structure Dn (κ π:Keyed→Int) (a₀:Array Keyed) (kd:SortKind) (st0:SortSt) (lo x q:Nat) (st:SortSt):Prop where
 tb:TB a₀ kd st
 pd:pendingOf st=pendingOf st0
 ch:Chg (arrOf st0) (arrOf st) lo (lo+x)
 le:q+1≤x
 un:∀i,lo+x - (q+1)≤i→(arrOf st)[i]?=(arrOf st0)[i]?
 eq:∀i,lo+x - (q+1)≤i→i<lo+x→kA κ (arrOf st) i=kA κ (arrOf st) (lo+x - 1)
 fl:∀i j,lo≤i→i≤j→j<lo+x - (q+1)→rA κ π (arrOf st) j≤rA κ π (arrOf st) i
 gt:∀i,lo≤i→i<lo+x - (q+1)→kA κ (arrOf st) (lo+x - 1)<kA κ (arrOf st) i
end
end TS
namespace TS
noncomputable def MatchP:Nat→List (List Keyed)→List (Nat×Nat×Nat)→Prop
 |_,[],[]=>True
 |lo,L::Ls,q::ps=>q.1=lo∧q.2.1=L.length∧MatchP (lo+L.length) Ls ps
 |_,_,_=>False
theorem MatchP.len:∀ {lo:Nat}{Ls:List (List Keyed)}{ps:List (Nat×Nat×Nat)},MatchP lo Ls ps→Ls.length=ps.length
 |_,[],[],_=>rfl
 |_,L::Ls,q::ps,h=>by simp [MatchP.len h.2.2]
 |_,[],_::_,h=>h.elim
 |_,_::_,[],h=>h.elim
section
variable {M:Model}{A:Around}{E:Value→zbe1→Prop}{s:zbe1}{κ π:Keyed→Int}{a₀:Array Keyed}{kd:SortKind} (C:Cmp M A E s κ π a₀ kd)
structure Runs (κ π:Keyed→Int) (a₀:Array Keyed) (kd:SortKind) (st:SortSt) (Ls:List (List Keyed)) (post:List Keyed):Prop where
 tb:TB a₀ kd st
 ar:(arrOf st).toList=Ls.flatten++post
 mt:MatchP 0 Ls (pendingOf st).toList
 ok:∀L∈Ls,Ris κ π L∧L≠[]
 sp:Ls.Pairwise (sepL π)
end
end TS
namespace TS
section
variable {M:Model}{A:Around}{E:Value→zbe1→Prop}{s:zbe1}{κ π:Keyed→Int}{a₀:Array Keyed}{kd:SortKind} (C:Cmp M A E s κ π a₀ kd)
structure Btw (κ π:Keyed→Int) (a₀:Array Keyed) (kd:SortKind) (lo:Nat) (st:SortSt) (Ls:List (List Keyed)) (rest:List Keyed):Prop where
 rn:Runs κ π a₀ kd st Ls rest
 ln:Ls.flatten.length=lo
 sp:sepL π Ls.flatten rest
 up:rest.Pairwise fun a b=>π a≤π b
end
end TS
namespace TS
section
variable {prog:Program}{w:World}{A:Around}{E:Value→zbe1→Prop}{s:zbe1}
def nP (z:Keyed):Int×Int:=(numOf z.1,numOf z.2)
end
end TS
namespace DL
open PySem.Spec L2 TS
def zb7 (n:Nat):List Int:=(zbf2 n).map fun (i:Nat)=>(i:Int)
theorem ze0 (n:Nat):(zb7 n).length=n:=by simp [zb7]
theorem zaw4 {n i:Nat}{x:Int} (h:(zb7 n)[i]?=some x):x=(i:Int)∧i<n:=by
 unfold zb7 at h
 rw [zbg0]at h
 cases e:(zbf2 n)[i]? with
 |none=>rw [e]at h;cases h
 |some j =>
  rw [e]at h
  obtain⟨h1,h2⟩:=zbg5.mp e
  simp at h1 h2
  cases h
  exact⟨by rw [h2],h1⟩
theorem zu9 {i:Int} (h0:0≤i) (h1:i≤100000):Builtin.Range.rangeFitsLong i=true:=by
 unfold Builtin.Range.rangeFitsLong
 have e:(2:Int) ^ 63=9223372036854775808:=by decide
 rw [e]
 simp only [zbd8,decide_eq_true_eq]
 lia
theorem small_of {n:Int} (h0:0≤n) (h1:n≤100000):Builtin.Range.small 0 n 1=true:=by
 have rs:Builtin.Range.rangeSize 0 n 1=n:=by simp only [Builtin.Range.rangeSize];lia
 unfold Builtin.Range.small
 rw [rs,zu9 (i:=0) (by lia) (by lia),zu9 h0 h1,zu9 (i:=1) (by lia) (by lia),if_pos (by lia),zu9 (i:=n+(1 - 1)) (by lia) (by lia),zbi9]
 rfl
end DL
namespace TS
def RawD (h:Heap) (d:Addr) (es:Array DictEntry) (ep:Nat):Prop := ∃o,h.get? d=some o∧o.ExactDict∧o.data=.dict es ep
theorem RawD.ty {s:zbe1}{d:Addr}{es:Array DictEntry}{ep:Nat} (x:RawD s.heap d es ep):s.TypeIs (.ref d) "dict":=let ⟨o,a,r,_⟩:=x;⟨o,a,r.1⟩
end TS
namespace DL
open PySem.Spec L2
noncomputable def spT (K:zbc5) (G:D→List D→List D→D→Option (List Int×List Int)):Sp:=fun vs H Q _ => ∃(v0 v3:V) (p q:Addr) (ws us:List V) (d0 d3:D) (xs ys:List D) (r:List Int×List Int),vs=[v0,.ref p,.ref q,v3]∧p≠q∧H p=some (.lst ws)∧H q=some (.lst us) ∧
 Rep K (hide [p,q] H) d0 v0∧Reps K (hide [p,q] H) xs ws∧Reps K (hide [p,q] H) ys us∧Rep K (hide [p,q] H) d3 v3∧G d0 xs ys d3=some r ∧
 ∀H',(∀b o,b≠p→b≠q→H b=some o→H' b=some o)→H' p=some (.lst (r.1.map V.int))→H' q=some (.lst (r.2.map V.int))→Q .non H'
structure CalT (P:Program) (w:World) (K:zbc5) (mg:Str→Option Value) (base:BHeap) (x:Str) (k:Nat) (G:D→List D→List D→D→Option (List Int×List Int)):Prop where
 ex:∃(a:Addr) (fd:FuncData) (ps:List Str),mg x=some (.ref a)∧zbh3 K (.ref a)=true∧L2.Binds K fd ps []∧FnOk P w K mg base CX0 k a fd ps (spT K G)
end DL
namespace TS
noncomputable def RawS (h:Heap) (a:Addr) (es:Array (Int×Value)) (ep:Nat) (t:SetTable):Prop := ∃o,h.get? a=some o∧o.ExactSet∧o.data=.set es ep t∧t.fits es.size=true
noncomputable def ItS (h:Heap) (I:Addr) (f:Value) (i:Nat) (a:Addr) (n ep:Nat):Prop := ∃o,h.get? I=some o∧o.cls=.type "set_iterator"∧o.data=.fields #[f,.int i 0,.ref a,.int n 0,.int ep 0]
theorem ItS.ty {s:zbe1}{I a:Addr}{f:Value}{i n ep:Nat} (x:ItS s.heap I f i a n ep):s.TypeIs (.ref I) "set_iterator":=let ⟨o,g,c,_⟩:=x;⟨o,g,c⟩
theorem RawS.ty {s:zbe1}{a:Addr}{es:Array (Int×Value)}{ep:Nat}{t:SetTable} (x:RawS s.heap a es ep t):s.TypeIs (.ref a) "set":=let ⟨o,g,r,_⟩:=x;⟨o,g,r.1⟩
end TS
namespace DL
open PySem.Spec L2
section
variable {X:Cx}{F:List Addr}{a b c:Expr}{es:List Expr}{fa fb fc:DE}{pos:Pos}
noncomputable def zac4 (t:Th) (j i:Nat) (k:Ev):Option Out:=match t[i]?,t[j]?,k.d with
 |some (.own xs),some (.own ys),.int n=>if i=j then none else if decide (-1000000≤n∧n≤1000000∧ys.length<100000) then (ixN xs.length n).bind fun q=>(xs[q]?).map fun d=>.nx ((t.set i (.own (xs.eraseIdx q))).set j (.own (ys++[d]))) else none
 |_,_,_=>none
def zac7 (j i:Nat) (f:DE):DS:=fun t=>(f t).bind (zac4 t j i)
theorem zap9 (j i:Nat) {x y:Str}{p0 p1 apos cpos apos1 cpos1:Pos} (he:PE X a (dE X.K F fa)) (hN:X.N[i]?=some x:=by rfl) (hv:Vis X.env.scope x:=by first | exact Or.inl rfl | exact Or.inr (Or.inl rfl) |exact Or.inr (Or.inr rfl)) (hd:(x ==("__debug__":Str))=false:=by decide)
  (hcd:(x ==("__classdict__":Str))=false:=by decide) (hNy:X.N[j]?=some y:=by rfl) (hvy:Vis X.env.scope y:=by first | exact Or.inl rfl | exact Or.inr (Or.inl rfl) |exact Or.inr (Or.inr rfl)) (hdy:(y ==("__debug__":Str))=false:=by decide)
  (hcdy:(y ==("__classdict__":Str))=false:=by decide) (hst:zbe3 [a] X.env=[(false,eval a X.env)]:=by rfl)
  (hbase:attributeBase (.Name x p1) "pop" X.env (eval (.Name x p1) X.env)=eval (.Name x p1) X.env:=by rfl)
  (hfew:((zbj4 cpos1 (zbe3 [a] X.env)).all (fun x=>!x.1)&&(backToKw cpos1 (keywordEach [] X.env)).all (fun x=>x.1.isSome)
   && decide ([a].length+([]:List Keyword).length+(if ([]:List Keyword).isEmpty then 0 else 1)<30))=true:=by rfl)
  (hline:(apos1.endLine == cpos1.line)=true:=by rfl) (hplain:(zbj4 cpos1 (zbe3 [] X.env)).any (·.1)=false:=by rfl)
  (hst2:zbe3 [.Call (.Attribute (.Name x p1) "pop" apos1) [a] [] cpos1] X.env=[(false,eval (.Call (.Attribute (.Name x p1) "pop" apos1) [a] [] cpos1) X.env)]:=by rfl)
  (hbase2:attributeBase (.Name y p0) "append" X.env (eval (.Name y p0) X.env)=eval (.Name y p0) X.env:=by rfl)
  (hfew2:((zbj4 cpos (zbe3 [.Call (.Attribute (.Name x p1) "pop" apos1) [a] [] cpos1] X.env)).all (fun x=>!x.1)&&(backToKw cpos (keywordEach [] X.env)).all (fun x=>x.1.isSome)
   && decide ([Expr.Call (.Attribute (.Name x p1) "pop" apos1) [a] [] cpos1].length+([]:List Keyword).length+(if ([]:List Keyword).isEmpty then 0 else 1)<30))=true:=by rfl)
  (hline2:(apos.endLine == cpos.line)=true:=by rfl) (hplain2:(zbj4 cpos (zbe3 [] X.env)).any (·.1)=false:=by rfl)
  (hsw:swapsWith (.Call (.Attribute (.Name y p0) "append" apos) [.Call (.Attribute (.Name x p1) "pop" apos1) [a] [] cpos1] [] cpos) none pos.line X.env=pure false:=by rfl) :
  PS X (.Expr (.Call (.Attribute (.Name y p0) "append" apos) [.Call (.Attribute (.Name x p1) "pop" apos1) [a] [] cpos1] [] cpos) pos) (dS X.K F (zac7 j i fa)):=by
 refine PS.imp (zv9 (zaq2 zbg6 zbl6 zbl7 zl1 (zo5 (i:=j) hNy hvy hdy hcdy) (zf0 (zaq2 zbg6 zbp9 zbq0 mt_popAt (zo5 (i:=i) hN hv hd hcd) (zf0 he zi1 hst) hbase hfew hline hst hplain) zi1 hst2) hbase2 hfew2 hline2 hst2 hplain2) hsw) ?_
 rintro E σ H ⟨A,t,o,R,e,h⟩
 unfold zac7 at e
 cases e1:fa t with
 |none=>rw [e1]at e;cases e
 |some r =>
  rw [e1]at e
  have e:zac4 t j i r=some o:=e
  unfold zac4 at e
  split at e
  case h_2=>cases e
  rename_i xs ys n z1 z2 zr
  split at e
  case isTrue=>cases e
  rename_i ne
  split at e
  case isFalse=>cases e
  rename_i ok
  simp only [decide_eq_true_eq]at ok
  cases e3:ixN xs.length n with
  |none=>rw [e3]at e;cases e
  |some q =>
   rw [e3]at e
   simp only [zbc8]at e
   cases e4:xs[q]? with
   |none=>rw [e4]at e;cases e
   |some d =>
    rw [e4]at e
    cases e
    obtain⟨p,vs,a1,a2,a3,a4⟩:=R.rel.getOwn z1
    obtain⟨p',ws,b1,b2,b3,b4⟩:=R.rel.getOwn z2
    obtain⟨v,c1,c2⟩:=a4.get e4
    have hj:=zay1 (by rw [← a4.length]at e3;exact e3)
    refine⟨_,b1,.inl ⟨rfl,ws,SqL.of b3⟩,_,a1,.inl ⟨rfl,vs,SqL.of a3⟩,A,t,r,R,e1,fun w H1 gs q1=>?_⟩
    have pr:=q1.full
    rw [zr]at pr
    cases zf5 pr
    obtain⟨R1,g1⟩:=(R.grow gs).write (es:=xs.eraseIdx q) (ws:=vs.eraseIdx q) z1 a1 (Reps.erase q (Reps.mono (za6 gs) a4))
    have z2':(t.set i (.own (xs.eraseIdx q)))[j]?=some (.own ys):=by rw [zbn2 ne];exact z2
    obtain⟨p'',ws',b1',b2',b3',b4'⟩:=R1.rel.getOwn z2'
    rw [b1]at b1'
    cases b1'
    refine⟨p,vs,n,q,v,rfl,rfl,gs _ _ a3,by lia,by lia,hj.1,c1,p',ws',v,rfl,rfl,b3',?_,?_⟩
    ·have:ws'.length<100000:=by rw [b4'.length];exact ok.2.2
     exact zbe2 this (by rw [sizeLine_eq];decide)
    ·obtain⟨R2,g2⟩:=R1.write (es:=ys++[d]) (ws:=ws'++[v]) z2' b1 (b4'.app (Reps.one (Rep.mono g1.same (Rep.mono (za6 gs) c2))))
     exact h _ _ _ (((Gr.of_same R.mu.left gs).trans g1).trans g2) R2
end
end DL
namespace L2
open PySem.Spec
theorem vals_get:∀ {xs:List V}{us:List Value},xs.length=us.length→(∀(j:Nat) (a:V) (b:Value),xs[j]?=some a→us[j]?=some b→RelV a b)→Vals xs us
 |[],[],_,_=>.nil
 |[],_::_,h,_=>by simp at h
 |_::_,[],h,_=>by simp at h
 |x::xs,u::us,h,k=>.cons (k 0 x u rfl rfl) (vals_get (by simpa using h) fun j a b ha hb=>k (j+1) a b (by simpa using ha) (by simpa using hb))
end L2
namespace DL
open PySem.Spec L2
structure Lent (K:zbc5) (F:List Addr) (ir jx:Nat) (ds:List D) (k:Nat) (A0:List Addr) (Hb:Hp) (p r:Addr) (C1 C2:List Addr) (A:List Addr) (H:Hp) (σ:L2.St):Prop where
 nd:(p ::(C1++r::C2)).Nodup
 dj:∀b∈p ::(C1++r::C2),b∉F
 s1:σ[ir]?=some (some (.ref p))
 s2:σ[jx]?=some (some (.ref r))
 gr:Gr A0 Hb (A++p ::(C1++C2)) H
 kp:∀b∈p ::(C1++C2),∀o,Hb b=some o→H b=some o
 re:∀(H01 H1:Hp) (xs':List D),xs'.all scD=true→H1 r=some (.lst (xs'.map sV))→(∀b∈p ::(C1++C2),∀o,Hb b=some o→H1 b=some o)→Same (hide (A0++F) Hb) H01→RepD K H01 H1 (.lst (ds.set k (.lst xs'))) (.ref p) (p ::(C1++r::C2))
end DL
namespace KX
open PySem.Spec L2 DL
abbrev qA:=kOr (kI tt2 fun i j=>.int (i+j)) kCat
abbrev qS:=kI tt2 fun i j=>.int (i - j)
abbrev qM:=kOr (kI cMul fun i j=>.int (i*j)) kRep
abbrev qV:=kI cDiv fun i j=>.int (i.fdiv j)
abbrev qR:=kI cMod fun i j=>.int (i.fmod j)
abbrev qL:=kI tt2 fun i j=>.bl (decide (i<j))
abbrev qE:=kI tt2 fun i j=>.bl (decide (i≤j))
abbrev qG:=kI tt2 fun i j=>.bl (decide (j<i))
abbrev qN:=k2I fun i j=>if j<i then j else i
abbrev qU:=kBls fun bs=>bs.all id
abbrev qY:=kBls fun bs=>bs.any id
abbrev qP:=kI cPow fun i j=>.int (i ^ j.toNat)
theorem bnd_big:1000000000000000000000000000000000000≤bndS:=by
 have:(2:Nat) ^ 120≤2 ^ 1048576:=zbl3 (by decide) (by decide)
 unfold bndS
 exact zbh8 (by decide) this
theorem app_of (t:Th) {f:DE}{i:Nat}{xs:List D}{d:D} (hf:f t=some (.cl d)) (hi:t[i]?=some (.own xs)) (hl:xs.length<100000):dApp i f t=some (.nx (t.set i (.own (xs++[d])))):=by
 unfold dApp
 rw [hf]
 simp only [zbc8,kApp,hi,Ev.ok,Ev.d,hl,decide_true,Bool.and_self,if_true]
theorem asg_of (t:Th) {f:DE}{i:Nat}{d:D} (hf:f t=some (.cl d)) (hi:i<t.length):dAsg i f t=some (.nx (t.set i (.val d))):=by
 unfold dAsg
 rw [hf]
 simp only [zbc8,zm0,hi,if_true,zbf8]
theorem zd1:∀xs:List Int,flats (xs.map D.int)=true
 |[]=>rfl
 |x::xs=>by
  have:=zd1 xs
  simp [flats,flat,this]
theorem zq0 {k:List Ev→Option Ev}{fa fb:DE}{t:Th}{ra rb:Ev} (h1:fa t=some ra) (h2:fb t=some rb):dT1 k (za3 fa (za3 fb dNil)) t=k [ra,rb]:=by
 simp [dT1,za3,dNil,h1,h2]
theorem zk8 {k:Ev→Ev→Option Ev}{fa fb:DE}{t:Th}{ra rb:Ev} (h1:fa t=some ra) (h2:fb t=some rb):d2 k fa fb t=k ra rb:=by
 simp [d2,h1,h2]
theorem t4_of {k:List Ev→Option Ev}{fa fb fc fd:DE}{t:Th}{ra rb rc rd:Ev} (h1:fa t=some ra) (h2:fb t=some rb) (h3:fc t=some rc) (h4:fd t=some rd):dT1 k (za3 fa (za3 fb (za3 fc (za3 fd dNil)))) t=k [ra,rb,rc,rd]:=by
 simp [dT1,za3,dNil,h1,h2,h3,h4]
theorem t3_of {k:List Ev→Option Ev}{fa fb fc:DE}{t:Th}{ra rb rc:Ev} (h1:fa t=some ra) (h2:fb t=some rb) (h3:fc t=some rc):dT1 k (za3 fa (za3 fb (za3 fc dNil))) t=k [ra,rb,rc]:=by
 simp [dT1,za3,dNil,h1,h2,h3]
theorem zk9 {k:List Ev→Option Ev}{fa:DE}{t:Th}{ra:Ev} (h1:fa t=some ra):dT1 k (za3 fa dNil) t=k [ra]:=by
 simp [dT1,za3,dNil,h1]
theorem zl8 {t:Th}{f:DE}{i:Nat}{d:D} (hf:f t=some (.cl d)) (hi:i<t.length):dAsg i f t=some (.nx (t.set i (.val d))):=asg_of t hf hi
theorem zy7 {t:Th}{f:DE}{i:Nat}{xs:List D} (hf:f t=some (.nw xs)) (hi:i<t.length):dAsg i f t=some (.nx (t.set i (.own xs))):=by
 unfold dAsg
 rw [hf]
 simp only [zbc8,zm0,hi,if_true,zbf8]
theorem zag3 (n b:Nat) (h:b<n):ixN n (b:Int)=some b:=by unfold ixN;rw [if_pos (by lia),if_pos (by lia)];simp
theorem get_map (L:List Int) (b:Nat) (h:b<L.length):(L.map D.int)[b]?=some (.int (L.getD b 0)):=by simp [zbd6,h]
theorem at_map (L:List Int) (b:Nat) (h:b<L.length):atI (L.map D.int) (b:Int)=some (.int (L.getD b 0)):=by
 unfold atI
 rw [zag3 _ _ (by simpa using h)]
 exact get_map L b h
theorem ixEv {r1 r2:Ev} (L:List Int) (b:Nat) (h:b<L.length) (h1:r1.d=.lst (L.map D.int)) (h2:r2.d=.int (b:Int)):kIx r1 r2=some (.cl (.int (L.getD b 0))):=by
 unfold kIx
 rw [h1,h2]
 show (atI (L.map D.int) (b:Int)).map _=_
 rw [at_map L b h]
 simp [flat]
theorem ifs_of {c:DT}{g1 g2:DS}{t:Th}{b:Bool} (h:c t=some b):dIfS c g1 g2 t=if b then g1 t else g2 t:=by
 unfold dIfS;rw [h];rfl
theorem ifs_t {c:DT}{g1 g2:DS}{t:Th}{b:Bool} (h:c t=some b) (hb:b=true):dIfS c g1 g2 t=g1 t:=by
 rw [ifs_of h,hb];rfl
theorem ifs_f {c:DT}{g1 g2:DS}{t:Th}{b:Bool} (h:c t=some b) (hb:b=false):dIfS c g1 g2 t=g2 t:=by
 rw [ifs_of h,hb];rfl
theorem in_ints {r1 r2:Ev} (p:Int) (K:List Int) (h1:r1.d=.int p) (h2:r2.d=.lst (K.map D.int)):kIn r1 r2=some (.cl (.bl (decide (p∈K)))):=by
 unfold kIn
 rw [h1,h2]
 clear h2
 have e1:(K.map D.int).all (fun d=>scD d&&eqOk 0 d (.int p))=true:=by
  rw [zbg8]
  intro d hd
  obtain⟨k,_,rfl⟩:=zbf6.mp hd
  rfl
 have e2:(K.map D.int).any (fun d=>eqD d (.int p))=decide (p∈K):=by
  induction K with
  |nil=>rfl
  |cons k K ih =>
   have e1':(K.map D.int).all (fun d=>scD d&&eqOk 0 d (.int p))=true:=by
    simp only [zbd7,zbh0,zbd8]at e1;exact e1.2
   rw [zbd7,zbj5,ih e1',zac6]
   by_cases h:k=p
   ·subst h;simp
   ·have : ¬ p=k:=fun q=>h q.symm
    simp [h,this]
 show (if scD (.int p)&&(K.map D.int).all (fun d=>scD d&&eqOk 0 d (.int p)) then some (Ev.cl (.bl ((K.map D.int).any fun d=>eqD d (.int p)))) else none)=_
 rw [e1,e2]
 rfl
theorem bo_in {fa fb:DE}{t:Th}{r1 r2:Ev} (p:Int) (K:List Int) (ha:fa t=some r1) (hb:fb t=some r2) (h1:r1.d=.int p) (h2:r2.d=.lst (K.map D.int)):dBo (d2 kIn fa fb) t=some (decide (p∈K)):=by
 unfold dBo
 rw [zk8 ha hb,in_ints p K h1 h2]
 rfl
theorem rem_of {t:Th}{f:DE}{i:Nat}{r:Ev}{K:List Int}{p:Int} (hf:f t=some r) (hr:r.d=.int p) (hi:t[i]?=some (.own (K.map D.int))) (hp:p∈K):dRem i f t=some (.nx (t.set i (.own ((K.erase p).map D.int)))):=by
 unfold dRem
 rw [hf]
 show kRem t i r=_
 unfold kRem
 rw [hi,hr]
 show (zj6 (K.map D.int)).bind _=_
 rw [intsD_map]
 show (if K.contains p=true then _ else _)=_
 rw [if_pos (by simpa using hp)]
theorem zy8 (t:Th) {f:DE}{i:Nat}{xs:List Int}{p:Int} (hf:f t=some (.cl (.int p))) (hi:t[i]?=some (.own (xs.map D.int))) (hl:xs.length<100000):dApp i f t=some (.nx (t.set i (.own ((xs++[p]).map D.int)))):=by
 rw [app_of t hf hi (by simpa using hl)]
 simp
theorem seq_rt {g1 g2:DS}{t:Th}{r:Ev} (h:g1 t=some (.rt r)):dSeq g1 g2 t=some (.rt r):=by simp [dSeq,h]
theorem grd {c:DT}{g:DS}{t:Th}{b:Bool} (h:c t=some b) (hb:b=false):dIfS c g zt6 t=some (.nx t):=(ifs_f h hb).trans rfl
theorem grd_t {c:DT}{g:DS}{t:Th}{b:Bool}{d:D} (h:c t=some b) (hb:b=true):dIfS c (dRet (dC d)) g t=some (.rt (.cl d)):=(ifs_t h hb).trans rfl
theorem bnd {g:Option Out}{r:Ev} (h:g=some (.rt r)):g.bind zg9=some r:=by rw [h];rfl
theorem zp0 {fa fb:DE}{t:Th}{a b:Int} (h1:fa t=some (.cl (.int a))) (h2:fb t=some (.cl (.int b))):(d2 qA fa fb) t=some (.cl (.int (a+b))):=(zk8 h1 h2).trans rfl
theorem zat0 {fa fb:DE}{t:Th}{a b:Int} (h1:fa t=some (.cl (.int a))) (h2:fb t=some (.cl (.int b))):(d2 qS fa fb) t=some (.cl (.int (a - b))):=(zk8 h1 h2).trans rfl
theorem zl2 {fa fb:DE}{t:Th}{a b:Int} (h1:fa t=some (.cl (.int a))) (h2:fb t=some (.cl (.int b))) (hb:b≠0):(d2 qR fa fb) t=some (.cl (.int (a.fmod b))):=by
 rw [zk8 h1 h2]
 show (if cMod a b=true then _ else none)=_
 rw [if_pos (by unfold cMod;exact decide_eq_true hb)]
theorem zaz1 {fa fb:DE}{t:Th}{a b:Int} (h1:fa t=some (.cl (.int a))) (h2:fb t=some (.cl (.int b))) (hb:b≠0) (hs:sm b=true):(d2 qV fa fb) t=some (.cl (.int (a.fdiv b))):=by
 rw [zk8 h1 h2]
 show (if cDiv a b=true then _ else none)=_
 rw [if_pos (by unfold cDiv;rw [hs];simp [hb])]
theorem zq5 {fa fb:DE}{t:Th}{a b:Int} (h1:fa t=some (.cl (.int a))) (h2:fb t=some (.cl (.int b))) (ha:sm a=true) (hb:sm b=true):(d2 qM fa fb) t=some (.cl (.int (a*b))):=by
 rw [zk8 h1 h2]
 have:cMul a b=true:=by simp only [cMul];rw [ha,hb];rfl
 simp [kOr,kI,Ev.d,this]
theorem zaw7 {fa fb:DE}{t:Th}{a b:Int} (h1:fa t=some (.cl (.int a))) (h2:fb t=some (.cl (.int b))):dBo (d2 qL fa fb) t=some (decide (a<b)):=by
 unfold dBo;rw [zk8 h1 h2];rfl
theorem gt_of {fa fb:DE}{t:Th}{a b:Int} (h1:fa t=some (.cl (.int a))) (h2:fb t=some (.cl (.int b))):dBo (d2 qG fa fb) t=some (decide (b<a)):=by
 unfold dBo;rw [zk8 h1 h2];rfl
theorem eqI_of {fa fb:DE}{t:Th}{a b:Int} (h1:fa t=some (.cl (.int a))) (h2:fb t=some (.cl (.int b))):dBo (d2 kEq fa fb) t=some (decide (a=b)):=by
 unfold dBo;rw [zk8 h1 h2]
 have:kEq (.cl (.int a)) (.cl (.int b))=some (.cl (.bl (eqD (.int a) (.int b)))):=rfl
 rw [this,zac6];rfl
theorem neI_of {fa fb:DE}{t:Th}{a b:Int} (h1:fa t=some (.cl (.int a))) (h2:fb t=some (.cl (.int b))):dBo (d2 kNe fa fb) t=some (!decide (a=b)):=by
 unfold dBo;rw [zk8 h1 h2]
 have:kNe (.cl (.int a)) (.cl (.int b))=some (.cl (.bl (!eqD (.int a) (.int b)))):=rfl
 rw [this,zac6];rfl
theorem or_of {f g:DT}{t:Th}{a b:Bool} (h1:f t=some a) (h2:a=false→g t=some b):dOr f g t=some (a||b):=by
 unfold dOr;rw [h1]
 cases a with
 |true=>rfl
 |false=>simp [h2 rfl]
theorem zav7 {f g:DT}{t:Th}{a b:Bool} (h1:f t=some a) (h2:g t=some b):dOr f g t=some (a||b):=or_of h1 fun _=>h2
theorem and_of2 {f g:DT}{t:Th}{a b:Bool} (h1:f t=some a) (h2:g t=some b):dAnd f g t=some (a&&b):=by
 unfold dAnd;rw [h1];cases a<;>simp [h2]
theorem zaa1 {t:Th}{f:DE}{r:Ev}{xs:List Int} (h:f t=some r) (hr:r.d=.lst (xs.map D.int)):(dT1 kLen (za3 f dNil)) t=some (.cl (.int (xs.length:Int))):=by
 rw [zk9 h]
 unfold kLen
 simp only [hr,zbd9]
theorem zaa3 {fa fb:DE}{t:Th}{r1 r2:Ev} (L:List Int) (b:Nat) (ha:fa t=some r1) (hb:fb t=some r2) (h:b<L.length) (h1:r1.d=.lst (L.map D.int)) (h2:r2.d=.int (b:Int)):(d2 kIx fa fb) t=some (.cl (.int (L.getD b 0))):=by
 rw [zk8 ha hb,ixEv L b h h1 h2]
theorem calln {G:List D→Option Ev}{rs:List Ev}{xs:List Int} (h:G (rs.map Ev.d)=some (.nw (xs.map D.int))):zc2 G rs=some (.nw (xs.map D.int)):=by
 unfold zc2
 rw [h]
 simp only [zbf8,upEv]
 split
 ·rfl
 ·simp [zd1]
theorem zr5 {G:List D→Option Ev}{rs:List Ev}{d:D} (h:G (rs.map Ev.d)=some (.cl d)) (hf:flat d=true):zc2 G rs=some (.cl d):=by
 unfold zc2
 rw [h]
 simp only [zbf8,upEv]
 split
 ·rfl
 ·simp [hf]
theorem zn7 {f:DE}{t:Th}{r:Ev} (h:f t=some r):dRet f t=some (.rt r):=by
 unfold dRet;rw [h];rfl
theorem for_of {k:D→Th→Option Th}{f:DE}{b:DS}{t:Th}{r:Ev}{ds:List D} (h:f t=some r) (hd:r.d=.lst ds) (ho:r.ok=true):dFor k f b t=forD k b ds t:=by
 unfold dFor
 rw [h]
 simp only [zbc8,hd,ho,if_true]
theorem zaj3 (n:Nat):Builtin.Range.rangeSize 0 (n:Int) 1=(n:Int):=by
 unfold Builtin.Range.rangeSize
 rw [if_pos (by lia)]
 split<;>lia
theorem ok_of {n:Nat} (hn:n≤1000):zv6 0 (n:Int) 1=true:=by
 unfold zv6
 rw [small_of (by lia) (by lia),zaj3,decide_eq_true (by lia)]
 rfl
theorem lr_of {f:DE}{t:Th}{n:Nat} (h:f t=some (.cl (.int (n:Int)))) (hn:n≤1000):(zq6 (za3 f dNil)) t=some (.nw ((zb7 n).map D.int)):=by
 have e:(za3 f dNil) t=some [.cl (.int (n:Int))]:=by simp [za3,dNil,h]
 have e2:rArgs ([Ev.cl (.int (n:Int))].map Ev.d)=some (0,(n:Int),1):=rfl
 have c:(zv6 0 (n:Int) 1&&decide (Builtin.Range.rangeSize 0 (n:Int) 1≤50000))=true:=by
  rw [ok_of hn,zaj3,decide_eq_true (by lia)];rfl
 unfold zq6
 rw [e,zbc8,e2,zbc8,if_pos c]
 unfold rng3 zb7
 rw [zaj3,zbl2]
 simp
theorem zat5 {k0:D→Th→Option Th}{b:DS}{t:Th}{f:DE}{r:Ev}{n:Nat} (h:f t=some r) (hr:r.d=.int (n:Int)) (hn:n≤100000):zar0 k0 f b t=forD k0 b ((zb7 n).map D.int) t:=by
 unfold zar0
 rw [h]
 simp only [zbc8,hr]
 rw [if_pos (by unfold bigI;exact decide_eq_true (by lia)),zbl2]
 congr 1
 unfold rngD zb7
 simp
theorem list_of {f:DE}{t:Th}{r:Ev}{xs:List Int} (h:f t=some r) (hr:r.d=.lst (xs.map D.int)):(dT1 zac3 (za3 f dNil)) t=some (.nw (xs.map D.int)):=by
 rw [zk9 h]
 unfold zac3
 simp only [hr,zd1,zbi9,if_true]
theorem abs_of {f:DE}{t:Th}{v:Int} (h:f t=some (.cl (.int v))):(dT1 kAbs (za3 f dNil)) t=some (.cl (.int (if v<0 then -v else v))):=by
 rw [zk9 h];rfl
theorem zac8 {k:D→Th→Option Th}{fe:DE}{f:Int→Int}{ext:Th} (hk:∀(s:Sl) (x:Int),k (.int x) (s::ext)=some (.val (.int x)::ext)):∀(xs:List Int) (s:Sl),(∀x∈xs,fe (.val (.int x)::ext)=some (.cl (.int (f x))))→zd5 k zb4 fe (xs.map D.int) (s::ext)=some ((xs.map f).map D.int)
 |[],s,_=>rfl
 |x::xs,s,hf=>by
  simp only [zbd7,zd5,hk,zbc8,zb4,hf x (zbc9 ..),if_true]
  rw [zac8 hk xs _ fun y hy=>hf y (zbc6 _ hy)]
  rfl
theorem zao8 {cap:List Nat}{f:DE}{fe:DE}{t:Th}{r:Ev}{xs:List Int}{g:Int→Int}{b:Bool}{c:List D} (hf:f t=some r) (hr:r.d=.lst (xs.map D.int)) (hn:xs.length≤50000) (hc:capD t cap=some (b,c)) (he:∀x∈xs,fe (.val (.int x)::c.map Sl.val)=some (.cl (.int (g x)))) :
  (ze4 1 cap (fsL f) (za2 0) zb4 fe) t=some (.nw ((xs.map g).map D.int)):=by
 unfold ze4
 have e1:fsL f t=some (r.ok,xs.map D.int):=by
  unfold fsL
  rw [hf]
  simp only [zbc8,hr]
 have e2:zd5 (za2 0) zb4 fe (xs.map D.int) (Sl.no::c.map Sl.val)=some ((xs.map g).map D.int):=zac8 (fun _ _=>rfl) _ _ he
 rw [e1,hc]
 simp only [zbc8]
 rw [if_pos (by simpa using hn)]
 show (zd5 (za2 0) zb4 fe (xs.map D.int) (Sl.no::c.map Sl.val)).bind _=_
 rw [e2]
 simp only [zbc8,zd1,zbi9,if_true]
theorem sum_of {f:DE}{t:Th}{r:Ev}{xs:List Int} (h:f t=some r) (hr:r.d=.lst (xs.map D.int)):(dT1 kSum (za3 f dNil)) t=some (.cl (.int xs.sum)):=by
 rw [zk9 h]
 unfold kSum
 simp only [hr,intsD_map]
 rfl
def stG (W:Int→Int) (b x:Int):Int:=if W b<W x then x else b
def sgL (W:Int→Int):List Int→Option Int
 |[]=>none
 |x::l=>some (l.foldl (stG W) x)
theorem zbb9 {fb:DE}{W:Int→Int}{cs:List D}:∀(l:List Int) (b:Int),(∀x∈l,fb (.val (.int x)::cs.map Sl.val)=some (.cl (.int (W x))))→zai9 true fb cs (.int b) (.int (W b)) (l.map D.int)=some (.int (l.foldl (stG W) b))
 |[],b,_=>rfl
 |x::l,b,h=>by
  have e:=h x (zbc9 ..)
  simp only [zbd7,zai9,e,zbc8,Ev.d,flat,if_true,cmpD,cmpI,zbn7]
  have ih:=fun b=>zbb9 l b fun y hy=>h y (zbc6 _ hy)
  by_cases c:W b<W x
  ·rw [if_pos (decide_eq_true c),show stG W b x=x from if_pos c];exact ih x
  ·rw [if_neg (by simpa using c),show stG W b x=b from if_neg c];exact ih b
theorem key_of {fa fb:DE}{W:Int→Int}{cs:List D}{b:Bool}{cap:List Nat}{t:Th}{r:Ev}{x:Int}{l:List Int} (ha:fa t=some r) (hr:r.d=.lst ((x::l).map D.int)) (hc:capD t cap=some (b,cs)) (h:∀y∈x::l,fb (.val (.int y)::cs.map Sl.val)=some (.cl (.int (W y)))):dKey true cap fa fb t=some (.cl (.int (l.foldl (stG W) x))):=by
 unfold dKey
 rw [ha,hc]
 simp only [zbc8,hr,zbd7]
 rw [show (zj6 (D.int x::l.map D.int)).isSome=true by rw [← zbd7 (f:=D.int),intsD_map];rfl,if_pos rfl,h x (zbc9 ..)]
 simp only [zbc8,Ev.d,flat,if_true]
 rw [zbb9 l x fun y hy=>h y (zbc6 _ hy)]
 rfl
theorem zaj4 {W:Int→Int}:∀(l:List Int) (b:Int),l.foldl (stG W) b=b∨l.foldl (stG W) b∈l
 |[],b=>.inl rfl
 |x::l,b=>by
  rw [zbn7]
  rcases zaj4 l (stG W b x) with z | z
  ·rw [z]
   unfold stG
   split
   ·exact .inr (zbc9 ..)
   ·exact .inl rfl
  ·exact .inr (zbc6 _ z)
def pD (p:Int×Int):D:=.tup [.int p.1,.int p.2]
theorem zac5:∀ts:List (Int×Int),flats (ts.map pD)=true
 |[]=>rfl
 |p::ts=>by simp only [zbd7,flats,zac5 ts];rfl
def rwD (r:List Int):D:=.lst (r.map D.int)
def mD (M:List (List Int)):D:=.lst (M.map rwD)
def gM (M:List (List Int)) (i j:Int):Int:=(M.getD i.toNat []).getD j.toNat 0
structure Sq (n:Nat) (M:List (List Int)):Prop where
 len:M.length=n
 row:∀r∈M,r.length=n
theorem Sq.rowD {n:Nat}{M:List (List Int)} (S:Sq n M) {i:Nat} (h:i<n):(M.getD i []).length=n:=by
 have hi:i<M.length:=by rw [S.len];exact h
 rw [zbd6,zbd1 hi]
 exact S.row _ (zbh7 hi)
theorem row_at {fa fb:DE}{t:Th}{r1:Ev}{M:List (List Int)}{i:Int} (ha:fa t=some r1) (h1:r1.d=mD M) (hb:fb t=some (.cl (.int i))) (i0:0≤i) (il:i<(M.length:Int)):∃r,(d2 kIx fa fb) t=some r∧r.d=rwD (M.getD i.toNat []):=by
 rw [zk8 ha hb]
 unfold kIx
 rw [h1]
 have hl:i.toNat<M.length:=by lia
 have e:atI (M.map rwD) i=some (rwD (M.getD i.toNat [])):=by
  unfold atI
  have:ixN (M.map rwD).length i=some i.toNat:=by
   have:=zag3 (M.map rwD).length i.toNat (by simpa using hl)
   rwa [zbi5 i0]at this
  rw [this]
  simp [zbd6,hl]
 show ∃r,((atI (M.map rwD) i).map _)=some r∧_
 rw [e]
 refine⟨_,rfl,?_⟩
 dsimp only
 split<;>rfl
theorem zw6 {fa fb fc:DE}{t:Th}{r1:Ev}{n:Nat}{M:List (List Int)} (S:Sq n M) {i j:Int} (ha:fa t=some r1) (h1:r1.d=mD M) (hb:fb t=some (.cl (.int i))) (hc:fc t=some (.cl (.int j))) (i0:0≤i) (il:i<(n:Int)) (j0:0≤j) (jl:j<(n:Int)):(d2 kIx (d2 kIx fa fb) fc) t=some (.cl (.int (gM M i j))):=by
 obtain⟨r,e,hr⟩:=row_at ha h1 hb i0 (by rw [S.len];exact il)
 have hl:=S.rowD (i:=i.toNat) (by lia)
 exact zaa3 (M.getD i.toNat []) j.toNat e hc (by rw [hl];lia) hr (by show D.int j=D.int _;rw [zbi5 j0])
theorem zn2 {t:Th}{f:DE}{r:Ev}{M:List (List Int)} (h:f t=some r) (hr:r.d=mD M):(dT1 kLen (za3 f dNil)) t=some (.cl (.int (M.length:Int))):=by
 rw [zk9 h]
 unfold kLen
 simp only [hr,mD,zbd9]
theorem nin_of {fa fb:DE}{t:Th}{r1 r2:Ev} (p:Int) (K:List Int) (ha:fa t=some r1) (hb:fb t=some r2) (h1:r1.d=.int p) (h2:r2.d=.lst (K.map D.int)):dBo (d2 kNin fa fb) t=some (!decide (p∈K)):=by
 have e:=bo_in p K ha hb h1 h2
 unfold dBo at e ⊢
 rw [zk8 ha hb]at e ⊢
 unfold kIn at e
 unfold kNin
 rw [h2]at e ⊢
 simp only at e ⊢
 split at e
 ·rename_i c
  rw [if_pos c]
  simp only [zbc8,Ev.d,Option.some.injEq]at e ⊢
  rw [e]
 ·cases e
def lowI (L:List Int):Int:=zl3 (L.headD 0) L.tail
theorem extl_of {f:DE}{t:Th}{r:Ev}{L:List Int} (h:f t=some r) (hr:r.d=.lst (L.map D.int)) (hl:0<L.length):(dT1 (zo1 zl3) (za3 f dNil)) t=some (.cl (.int (lowI L))):=by
 rw [zk9 h]
 unfold zo1
 simp only [hr,intsD_map]
 cases L with
 |nil=>simp at hl
 |cons x r=>rfl
def zu2 (L:List Int):Int:=zn0 (L.headD 0) L.tail
theorem zak8 {f:DE}{t:Th}{r:Ev}{L:List Int} (h:f t=some r) (hr:r.d=.lst (L.map D.int)) (hl:0<L.length):(dT1 (zo1 zn0) (za3 f dNil)) t=some (.cl (.int (zu2 L))):=by
 rw [zk9 h]
 unfold zo1
 simp only [hr,intsD_map]
 cases L with
 |nil=>simp at hl
 |cons x r=>rfl
def oth (n:Nat) (C:List Int):List Int:=(zb7 n).filter fun x=>!decide (x∈C)
theorem zf2 {n:Nat}{x:Int} (h:x∈zb7 n):0≤x∧x<(n:Int):=by
 obtain⟨i,hi⟩:=List.mem_iff_getElem?.mp h
 obtain⟨q,l⟩:=zaw4 hi
 lia
theorem zh7 {n:Nat}{x:Int} (h0:0≤x) (h1:x<(n:Int)):x∈zb7 n:=by
 unfold zb7
 exact zbf6.mpr ⟨x.toNat,zbl4.mpr (by lia),by lia⟩
theorem zt2 {n:Nat}{C:List Int}{x:Int} (h:x∈oth n C):0≤x∧x<(n:Int)∧x∉C:=by
 have:=zbh5.mp h
 have a:=zf2 this.1
 exact⟨a.1,a.2,by simpa using this.2⟩
theorem zs8:∀ {l C:List Int},l.Nodup→(∀x∈l,x∈C)→l.length≤C.length
 |[],C,_,_=>zbs0 _
 |x::l,C,nd,h=>by
  rw [zbe6]at nd
  have hx:=h x (zbc9 ..)
  have:=zs8 (l:=l) (C:=C.erase x) nd.2 fun y hy=>(zbj7 (fun e=>nd.1 (by rw [← e];exact hy))).mpr (h y (zbc6 _ hy))
  rw [zbl8 hx]at this
  have:=zbm2 hx
  simp only [zbf4]
  lia
theorem zaw3 (n:Nat):(zb7 n).Nodup:=by
 unfold zb7
 refine zbs7.mpr ?_
 exact (zbt5 (n:=n)).imp fun h e=>h (by lia)
theorem zav6 {n:Nat}{C:List Int} (h:C.length<n):oth n C≠[]:=by
 intro e
 have:(zb7 n).length≤C.length:=zs8 (zaw3 n) fun x hx=>by
  by_cases w:x∈C
  ·exact w
  ·have:x∈oth n C:=zbh5.mpr ⟨hx,by simpa using w⟩
   rw [e]at this
   cases this
 rw [ze0]at this
 lia
theorem zat4 {f:DE}{t:Th}{n:Nat} (hf:f t=some (.cl (.int (n:Int)))) (hn:n≤50000):fsR1 f t=some (true,(zb7 n).map D.int):=by
 unfold fsR1
 rw [hf]
 simp only [zbc8,Ev.d]
 rw [if_pos (by unfold bigI;exact decide_eq_true (by lia)),zbl2]
 congr 2
 unfold rngD zb7
 simp
theorem zah9 {cap:List Nat}{f:DE}{fe:DE}{t:Th}{n:Nat}{g:Int→Int}{b:Bool}{c:List D} (hf:f t=some (.cl (.int (n:Int)))) (hn:n≤50000) (hc:capD t cap=some (b,c)) (he:∀x∈zb7 n,fe (.val (.int x)::c.map Sl.val)=some (.cl (.int (g x)))) :
  (ze4 1 cap (fsR1 f) (za2 0) zb4 fe) t=some (.nw (((zb7 n).map g).map D.int)):=by
 unfold ze4
 have e2:zd5 (za2 0) zb4 fe ((zb7 n).map D.int) (Sl.no::c.map Sl.val)=some (((zb7 n).map g).map D.int):=zac8 (fun _ _=>rfl) _ _ he
 rw [zat4 hf hn,hc]
 simp only [zbc8]
 rw [if_pos (by rw [zbd9,ze0];exact hn)]
 show (zd5 (za2 0) zb4 fe ((zb7 n).map D.int) (Sl.no::c.map Sl.val)).bind _=_
 rw [e2]
 simp only [zbc8,zd1,zbi9,if_true]
theorem zt9 {ft:DT}{p:Int→Bool}{ext:Th}:∀(l:List Int) (s:Sl),(∀x∈l,ft (.val (.int x)::ext)=some (p x))→zd5 (za2 0) ft (dVar 0) (l.map D.int) (s::ext)=some ((l.filter p).map D.int)
 |[],s,_=>rfl
 |x::l,s,h=>by
  have e0:za2 0 (.int x) (s::ext)=some (.val (.int x)::ext):=rfl
  have e1:=h x (zbc9 ..)
  have ih:=zt9 l (.val (.int x)) fun y hy=>h y (zbc6 _ hy)
  simp only [zbd7,zd5,e0,zbc8,e1]
  cases c:p x with
  |true=>rw [List.filter_cons_of_pos c,if_pos rfl,ih];rfl
  |false=>rw [List.filter_cons_of_neg (by simp [c]),if_neg (by simp),ih]
theorem zba6 {cap:List Nat}{f:DE}{ft:DT}{t:Th}{n:Nat}{p:Int→Bool}{b:Bool}{c:List D} (hf:f t=some (.cl (.int (n:Int)))) (hn:n≤50000) (hc:capD t cap=some (b,c)) (he:∀x∈zb7 n,ft (.val (.int x)::c.map Sl.val)=some (p x)) :
  (ze4 1 cap (fsR1 f) (za2 0) ft (dVar 0)) t=some (.nw (((zb7 n).filter p).map D.int)):=by
 unfold ze4
 have e2:zd5 (za2 0) ft (dVar 0) ((zb7 n).map D.int) (Sl.no::c.map Sl.val)=some (((zb7 n).filter p).map D.int):=zt9 _ _ he
 rw [zat4 hf hn,hc]
 simp only [zbc8]
 rw [if_pos (by rw [zbd9,ze0];exact hn)]
 show (zd5 (za2 0) ft (dVar 0) ((zb7 n).map D.int) (Sl.no::c.map Sl.val)).bind _=_
 rw [e2]
 simp only [zbc8,zd1,zbi9,if_true]
def nr (M:List (List Int)) (C:List Int) (p:Int):Int:=lowI (C.map (gM M p))
structure CIn (n:Nat) (C:List Int):Prop where
 ne:0<C.length
 rg:∀x∈C,0≤x∧x<(n:Int)
theorem low_of {cap:List Nat}{f fp fr:DE}{t:Th}{r:Ev}{n:Nat}{M:List (List Int)}{C:List Int}{p:Int}{b:Bool}{c:List D} (S:Sq n M) (I:CIn n C) (hn:C.length≤50000) (p0:0≤p) (p1:p<(n:Int)) (hf:f t=some r) (hr:r.d=.lst (C.map D.int)) (hc:capD t cap=some (b,c)) (hm:∀x:Int,fr (.val (.int x)::c.map Sl.val)=some (.cl (mD M))) (hp:∀x:Int,fp (.val (.int x)::c.map Sl.val)=some (.cl (.int p))) :
  (dT1 (zo1 zl3) (za3 (ze4 1 cap (fsL f) (za2 0) zb4 (d2 kIx (d2 kIx fr fp) (dVar 0))) dNil)) t=some (.cl (.int (nr M C p))):=by
 refine extl_of (L:=C.map (gM M p)) (zao8 (xs:=C) (g:=gM M p) hf hr hn hc fun x hx=>?_) rfl (by rw [zbd9];exact I.ne)
 exact zw6 S (hm x) rfl (hp x) (rfl:dVar 0 _=some (.cl (.int x))) p0 p1 (I.rg x hx).1 (I.rg x hx).2
def dV (P:List Int) (V:Int→Int):D:=.dct (P.map Sum.inl) (P.map fun p=>.int (V p))
def ltr (n:Int):Nat→List Int→Int→Int
 |_,[],_=>n
 |i,x::xs,p=>if x=p then (i:Int) else ltr n (i+1) xs p
def Fo (v:Int→Int) (p q:Int):Prop:=v q<v p∨(v q=v p∧p≤q)
theorem for_I {k:D→Th→Option Th}{b:DS}{f:Nat→D}{P:Nat→Th→Prop}{n:Nat} (hb:∀x,x<n→∀t,P x t→∃t1 t2,k (f x) t=some t1∧b t1=some (.nx t2)∧P (x+1) t2):∀(m i:Nat) (t:Th),i+m=n→P i t→∃t',forD k b ((List.range' i m).map f) t=some (.nx t')∧P n t'
 |0,i,t,e,h=>⟨t,rfl,by rw [← e];exact h⟩
 |m+1,i,t,e,h=>by
  obtain⟨t1,t2,e1,e2,h2⟩:=hb i (by lia) t h
  obtain⟨t',e3,h'⟩:=for_I hb m (i+1) t2 (by lia) h2
  refine⟨t',?_,h'⟩
  rw [List.range'_succ,zbd7]
  simp only [forD,e1,e2,zbc8,e3]
theorem for_I0 {k:D→Th→Option Th}{b:DS}{f:Nat→D}{P:Nat→Th→Prop}{n:Nat} (hb:∀x,x<n→∀t,P x t→∃t1 t2,k (f x) t=some t1∧b t1=some (.nx t2)∧P (x+1) t2) (t:Th) (h:P 0 t):∃t',forD k b ((zbf2 n).map f) t=some (.nx t')∧P n t':=by
 have:=for_I hb n 0 t (by lia) h
 rwa [List.range_eq_range']
def DI (n:Int) (P:List Int) (V:Int→Int) (i:Nat) (ps:List Int):Prop := ∀q,(if q∈P then V q else n)=ltr n i (ps.drop i) q
end KX
set_option maxHeartbeats 1000000
namespace KX
section
variable {w:Int→Int→Int}
abbrev Ed:=Int×Int
inductive Cn (S:List Int) (F:List Ed):Int→Prop
 |base {v:Int}:v∈S→Cn S F v
 |fw {u v:Int}:(u,v)∈F→Cn S F u→Cn S F v
 |bw {u v:Int}:(v,u)∈F→Cn S F u→Cn S F v
def wtE (w:Int→Int→Int) (F:List Ed):Int:=(F.map fun e=>w e.1 e.2).sum
theorem zaa9 (e:Ed) (F:List Ed):wtE w (e::F)=w e.1 e.2+wtE w F:=by simp [wtE]
theorem wtE_nn {F:List Ed} (h:∀e∈F,0≤w e.1 e.2):0≤wtE w F:=by
 induction F with
 |nil=>exact zbo1 0
 |cons e F ih =>
  rw [zaa9]
  have:=ih fun x hx=>h x (zbc6 _ hx)
  have:=h e (zbc9 ..)
  lia
theorem zar6 {F:List Ed}{e:Ed} (h:e∈F):wtE w F=w e.1 e.2+wtE w (F.erase e):=by
 have p:=(zbq8 h).map fun e:Ed=>w e.1 e.2
 have key:∀ {l m:List Int},l.Perm m→l.sum=m.sum:=by
  intro l m p
  induction p with
  |nil=>rfl
  |cons _ _ ih=>simp [ih]
  |swap=>simp;lia
  |trans _ _ a b=>exact a.trans b
 have:=key p
 simpa [wtE] using this
theorem Cn.trans {S:List Int}{G:List Ed}{x u v:Int} (h:Cn (S++[u]) G v) (k:Cn (S++[x]) G u):Cn (S++[x]) G v:=by
 induction h with
 |@base v m =>
  rcases zbd0.mp m with z | z
  ·exact .base (zbc7 _ z)
  ·rw [zbd3.mp z];exact k
 |fw e _ ih=>exact .fw e ih
 |bw e _ ih=>exact .bw e ih
theorem cross {S:List Int}{F:List Ed}{x:Int} (h:Cn S F x):x∉S→∃(e:Ed) (a b:Int),e∈F∧(e=(a,b)∨e=(b,a))∧a∈S∧b∉S∧Cn (S++[x]) (F.erase e) b:=by
 induction h with
 |base m=>exact fun n=>absurd m n
 |@fw u v m _ ih =>
  intro n
  by_cases c:u∈S
  ·exact⟨(u,v),u,v,m,.inl rfl,c,n,.base (zbc4 _ (zbd3.mpr rfl))⟩
  ·obtain⟨e,a,b,h1,h2,h3,h4,h5⟩:=ih c
   have ne:(u,v)≠e:=fun z=>by
    rcases h2 with q | q
    ·rw [q]at z;injection z with z1 z2;exact c (z1 ▸ h3)
    ·rw [q]at z;injection z with z1 z2;exact n (z2 ▸ h3)
   exact⟨e,a,b,h1,h2,h3,h4,h5.trans (.bw ((zbj7 ne).mpr m) (.base (zbc4 _ (zbd3.mpr rfl))))⟩
 |@bw u v m _ ih =>
  intro n
  by_cases c:u∈S
  ·exact⟨(v,u),u,v,m,.inr rfl,c,n,.base (zbc4 _ (zbd3.mpr rfl))⟩
  ·obtain⟨e,a,b,h1,h2,h3,h4,h5⟩:=ih c
   have ne:(v,u)≠e:=fun z=>by
    rcases h2 with q | q
    ·rw [q]at z;injection z with z1 z2;exact n (z1 ▸ h3)
    ·rw [q]at z;injection z with z1 z2;exact c (z2 ▸ h3)
   exact⟨e,a,b,h1,h2,h3,h4,h5.trans (.fw ((zbj7 ne).mpr m) (.base (zbc4 _ (zbd3.mpr rfl))))⟩
theorem Cn.keep {S:List Int}{F:List Ed}{x v:Int}{e:Ed}{a b:Int} (h:Cn S F v) (he:e=(a,b)∨e=(b,a)) (ha:a∈S) (hb:Cn (S++[x]) (F.erase e) b):Cn (S++[x]) (F.erase e) v:=by
 induction h with
 |base m=>exact .base (zbc7 _ m)
 |@fw u v m _ ih =>
  by_cases c:(u,v)=e
  ·rcases he with q | q
   ·rw [q]at c;injection c with c1 c2;exact c2 ▸ hb
   ·rw [q]at c;injection c with c1 c2;exact .base (zbc7 _ (c2 ▸ ha))
  ·exact .fw ((zbj7 c).mpr m) ih
 |@bw u v m _ ih =>
  by_cases c:(v,u)=e
  ·rcases he with q | q
   ·rw [q]at c;injection c with c1 c2;exact .base (zbc7 _ (c1 ▸ ha))
   ·rw [q]at c;injection c with c1 c2;exact c1 ▸ hb
  ·exact .bw ((zbj7 c).mpr m) ih
inductive Prim (w:Int→Int→Int):List Int→List Int→List Ed→Prop
 |nil {S:List Int}:Prim w S [] []
 |cons {S U:List Int}{p x:Int}{T:List Ed}:p∈S→x∈U→(∀a∈S,∀b∈U,w p x≤w a b)→Prim w (S++[x]) (U.erase x) T→Prim w S U ((p,x)::T)
theorem prim_le (sy:∀a b,w a b=w b a) {S U:List Int}{T:List Ed} (h:Prim w S U T):∀F:List Ed,U.Nodup→(∀v∈U,v∉S)→(∀e∈F,0≤w e.1 e.2)→(∀e∈F,(e.1∈S∨e.1∈U)∧(e.2∈S∨e.2∈U))→(∀v∈U,Cn S F v)→wtE w T≤wtE w F:=by
 induction h with
 |nil=>exact fun F _ _ nn _ _=>wtE_nn nn
 |@cons S U p x T hp hx hm _ ih =>
  intro F nd hd nn en cn
  obtain⟨e,a,b,h1,h2,h3,h4,h5⟩:=cross (cn x hx) (hd x hx)
  have hb:b∈U:=by
   rcases h2 with q | q
   ·have:=(en e h1).2;rw [q]at this;exact this.resolve_left h4
   ·have:=(en e h1).1;rw [q]at this;exact this.resolve_left h4
  have we:w p x≤w e.1 e.2:=by
   rcases h2 with q | q
   ·rw [q];exact hm a h3 b hb
   ·rw [q,sy b a];exact hm a h3 b hb
  have:=ih (F.erase e) (nd.erase x) (fun v hv z=>by
   have hv':=(List.Nodup.mem_erase_iff nd).mp hv
   rcases zbd0.mp z with q | q
   ·exact hd v hv'.2 q
   ·exact hv'.1 (zbd3.mp q)) (fun y hy=>nn y (zbj0 hy)) (fun y hy=>by
   have:=en y (zbj0 hy)
   have mv:∀z:Int,(z∈S∨z∈U)→(z∈S++[x]∨z∈U.erase x):=fun z hz=>by
    rcases hz with q | q
    ·exact .inl (zbc7 _ q)
    ·by_cases c:z=x
     ·exact .inl (zbc4 _ (zbd3.mpr c))
     ·exact .inr ((List.Nodup.mem_erase_iff nd).mpr ⟨c,q⟩)
   exact⟨mv _ this.1,mv _ this.2⟩) (fun v hv=>(cn v (zbj0 hv)).keep h2 h3 h5)
  rw [zaa9,zar6 h1]
  show w p x+wtE w T≤_
  lia
def pth (w:Int→Int→Int):Int→List Int→Int
 |_,[]=>0
 |a,b::r=>w a b+pth w b r
def pEd:Int→List Int→List Ed
 |_,[]=>[]
 |a,b::r=>(a,b)::pEd b r
theorem pth_is:∀(r:List Int) (a:Int),wtE w (pEd a r)=pth w a r
 |[],_=>rfl
 |b::r,a=>by rw [pEd,zaa9,pth_is r b];rfl
theorem zaj9:∀(r:List Int) (a:Int) (e:Ed),e∈pEd a r→e.1∈a::r∧e.2∈a::r
 |[],_,_,h=>by cases h
 |b::r,a,e,h=>by
  rcases zbd2.mp h with rfl | h
  ·exact⟨zbc9 ..,zbc6 _ (zbc9 ..)⟩
  ·have:=zaj9 r b e h
   exact⟨zbc6 _ this.1,zbc6 _ this.2⟩
theorem Cn.more {S:List Int}{F G:List Ed}{v:Int} (h:Cn S F v) (k:∀e∈F,e∈G):Cn S G v:=by
 induction h with
 |base m=>exact .base m
 |fw e _ ih=>exact .fw (k _ e) ih
 |bw e _ ih=>exact .bw (k _ e) ih
theorem zal9:∀(r:List Int) (a z:Int),z∈a::r→∀v∈a::r,Cn [z] (pEd a r) v
 |[],a,z,hz,v,hv=>by
  have e1:z=a:=zbd3.mp hz
  have e2:v=a:=zbd3.mp hv
  exact .base (by rw [e1,e2];simp)
 |b::r,a,z,hz,v,hv=>by
  have sub:∀e∈pEd b r,e∈pEd a (b::r):=fun e he=>zbc6 _ he
  have ab:(a,b)∈pEd a (b::r):=zbc9 ..
  rcases zbd2.mp hz with rfl | hz
  ·have ca:Cn [z] (pEd z (b::r)) z:=.base (zbd3.mpr rfl)
   have cb:Cn [z] (pEd z (b::r)) b:=.fw ab ca
   rcases zbd2.mp hv with rfl | hv
   ·exact ca
   ·have:=(zal9 r b b (zbc9 ..) v hv).more sub
    exact Cn.trans (S:=[]) this cb
  ·have cb:Cn [z] (pEd a (b::r)) b:=(zal9 r b z hz b (zbc9 ..)).more sub
   rcases zbd2.mp hv with rfl | hv
   ·exact .bw ab cb
   ·exact (zal9 r b z hz v hv).more sub
end
end KX
namespace KX
section
variable {w:Int→Int→Int}
def cyc (w:Int→Int→Int):List Int→Int
 |[]=>0
 |a::r=>pth w a (r++[a])
theorem zm8:∀(r:List Int) (a z:Int),pth w a (r++[z])=pth w a r+w (r.getLastD a) z
 |[],a,z=>by simp [pth]
 |b::r,a,z=>by
  have:=zm8 r b z
  show w a b+pth w b (r++[z])=w a b+pth w b r+w ((b::r).getLastD a) z
  have e:(b::r).getLastD a=r.getLastD b:=by cases r<;>rfl
  rw [this,e];lia
theorem pth_over (tr:∀a b c,w a c≤w a b+w b c) (a b z:Int):∀l:List Int,pth w a (l++[z])≤w a b+pth w b (l++[z])
 |[]=>by simp only [zbk9,pth];have:=tr a b z;lia
 |c::l=>by
  show w a c+pth w c (l++[z])≤w a b+(w b c+pth w c (l++[z]))
  have:=tr a b c;lia
theorem zau2 (tr:∀a b c,w a c≤w a b+w b c) (z:Int) {l' l:List Int} (h:l'.Sublist l):∀a,pth w a (l'++[z])≤pth w a (l++[z]):=by
 induction h with
 |slnil=>exact fun a=>zbo1 _
 |@cons l1 l2 b _ ih =>
  intro a
  exact zbt4 (ih a) (pth_over tr a b z l2)
 |@cons_cons l1 l2 b _ ih =>
  intro a
  show w a b+pth w b (l1++[z])≤w a b+pth w b (l2++[z])
  have:=ih b;lia
theorem zy0 (tr:∀a b c,w a c≤w a b+w b c) (zz:∀a,w a a=0) (nn:∀a b,0≤w a b) {l' l:List Int} (h:l'.Sublist l):cyc w l'≤cyc w l:=by
 have nnp:∀(l:List Int) (a:Int),0≤pth w a l:=by
  intro l
  induction l with
  |nil=>intro a;exact zbo1 0
  |cons b l ih=>intro a;have:=ih b;have:=nn a b;show 0≤w a b+pth w b l;lia
 cases h with
 |slnil=>exact zbo1 _
 |@cons _ r a h =>
  cases l' with
  |nil=>exact nnp _ a
  |cons c r' =>
   have h1:=zau2 tr a h a
   show pth w c (r'++[c])≤pth w a (r++[a])
   have e1:=zm8 (w:=w) r' c c
   have e2:pth w a ((c::r')++[a])=w a c+pth w c (r'++[a]):=rfl
   have e3:=zm8 (w:=w) r' c a
   have:=tr (r'.getLastD c) a c
   lia
 |@cons_cons r' r a h=>exact zau2 tr a h a
theorem zae8 {r:Int}:∀(l:List Int) (a:Int),(a::l).Pairwise (fun x y=>r≤w x y)→(l.length:Int)*r≤pth w a l
 |[],a,_=>by simp [pth]
 |b::l,a,h=>by
  obtain⟨h1,h2⟩:=zbi1.mp h
  have:=zae8 l b h2
  have:=h1 b (zbc9 ..)
  show ((l.length+1:Nat):Int)*r≤w a b+pth w b l
  rw [show ((l.length+1:Nat):Int)*r=(l.length:Int)*r+r by rw [Int.natCast_add,zbv2];simp]
  lia
theorem zba2 (sy:∀a b,w a b=w b a) {r:Int}{l:List Int} (h2:2≤l.length) (h:l.Pairwise (fun x y=>r≤w x y)):(l.length:Int)*r≤cyc w l:=by
 match l,h2 with
 |a::b::l,_ =>
  have e:=zm8 (w:=w) (b::l) a a
  have p:=zae8 (b::l) a h
  have hl:(b::l).getLastD a∈b::l:=by
   cases l with
   |nil=>simp
   |cons c l=>simp [List.getLastD,zbp0]
  have q:=(zbi1.mp h).1 _ hl
  rw [sy]at q
  show (((b::l).length+1:Nat):Int)*r≤pth w a ((b::l)++[a])
  rw [show (((b::l).length+1:Nat):Int)*r=((b::l).length:Int)*r+r by rw [Int.natCast_add,zbv2];simp]
  lia
noncomputable def trav (ch:Int→List Int):Nat→List Int→List Int×List Int
 |0,st=>([],st)
 |_+1,[]=>([],[])
 |n+1,q::st=>(q ::(trav ch n (ch q++st)).1,(trav ch n (ch q++st)).2)
theorem zad8 (ch:Int→List Int):∀(n:Nat) (st:List Int),((trav ch n st).1++(trav ch n st).2).Perm (st++(trav ch n st).1.flatMap ch)
 |0,st=>by simp [trav]
 |n+1,[]=>by simp [trav]
 |n+1,q::st=>by
  have ih:=zad8 ch n (ch q++st)
  show (q ::((trav ch n (ch q++st)).1++(trav ch n (ch q++st)).2)).Perm (q ::(st++(ch q++(trav ch n (ch q++st)).1.flatMap ch)))
  refine List.Perm.cons q (ih.trans ?_)
  rw [← zbj9]
  exact List.Perm.append_right _ List.perm_append_comm
theorem zam0 (ch:Int→List Int):∀(n:Nat) (st:List Int),(trav ch n st).2=[]∨(trav ch n st).1.length=n
 |0,st=>.inr rfl
 |n+1,[]=>.inl rfl
 |n+1,q::st=>by
  rcases zam0 ch n (ch q++st) with h | h
  ·exact .inl h
  ·exact .inr (by show ((trav ch n (ch q++st)).1.length+1)=_;rw [h])
inductive Grown:List Int→List Ed→Prop
 |nil {S:List Int}:Grown S []
 |cons {S:List Int}{p x:Int}{T:List Ed}:p∈S→x∉S→Grown (S++[x]) T→Grown S ((p,x)::T)
theorem zaq0 {S U:List Int}{T:List Ed} (h:Prim w S U T):U.Nodup→(∀v∈U,v∉S)→Grown S T∧(T.map (·.2)).Perm U:=by
 induction h with
 |nil=>exact fun _ _=>⟨.nil,List.Perm.refl _⟩
 |@cons S U p x T hp hx _ _ ih =>
  intro nd hd
  obtain⟨g,q⟩:=ih (nd.erase x) (fun v hv z=>by
   have hv':=(List.Nodup.mem_erase_iff nd).mp hv
   rcases zbd0.mp z with q | q
   ·exact hd v hv'.2 q
   ·exact hv'.1 (zbd3.mp q))
  exact⟨.cons hp (hd x hx) g,(List.Perm.cons x q).trans (zbq8 hx).symm⟩
theorem Grown.new {S:List Int}{T:List Ed} (h:Grown S T):(∀e∈T,e.2∉S)∧(T.map (·.2)).Nodup:=by
 induction h with
 |nil=>exact⟨(fun e he=>nomatch he),zbg4⟩
 |@cons S p x T hp hx _ ih =>
  obtain⟨i1,i2⟩:=ih
  refine⟨fun e he=>?_,?_⟩
  ·rcases zbd2.mp he with rfl | he
   ·exact hx
   ·exact fun z=>i1 e he (zbc7 _ z)
  ·rw [zbd7]
   refine zbe6.mpr ⟨fun z=>?_,i2⟩
   obtain⟨e,he,ee⟩:=zbf6.mp z
   exact i1 e he (zbc4 _ (zbd3.mpr ee))
theorem heights {S:List Int}{T:List Ed} (h:Grown S T):∀h0:Int→Int,∃ht:Int→Int,(∀v∈S,ht v=h0 v)∧∀e∈T,ht e.2=ht e.1+w e.1 e.2:=by
 induction h with
 |nil=>exact fun h0=>⟨h0,fun _ _=>rfl,fun e he=>nomatch he⟩
 |@cons S p x T hp hx _ ih =>
  intro h0
  obtain⟨ht,a,b⟩:=ih fun v=>if v=x then h0 p+w p x else h0 v
  refine⟨ht,fun v hv=>?_,fun e he=>?_⟩
  ·rw [a v (zbc7 _ hv),if_neg (fun (z:v=x)=>hx (z ▸ hv))]
  ·rcases zbd2.mp he with rfl | he
   ·show ht x=ht p+w p x
    rw [a x (zbc4 _ (zbd3.mpr rfl)),if_pos rfl,a p (zbc7 _ hp),if_neg (fun (z:p=x)=>hx (z ▸ hp))]
   ·exact b e he
end
end KX
namespace KX
section
variable {w:Int→Int→Int}
structure Hng (T:List Ed) (ch:Int→List Int):Prop where
 p:∀u,(ch u).Perm ((T.filter fun e=>decide (e.1=u)).map (·.2))
theorem Hng.mem {T:List Ed}{ch:Int→List Int} (h:Hng T ch) {u x:Int}:x∈ch u↔(u,x)∈T:=by
 rw [(h.p u).mem_iff,zbf6]
 constructor
 ·rintro ⟨e,he,rfl⟩
  have:=zbh5.mp he
  have e1:e.1=u:=by simpa using this.2
  rw [← e1];exact this.1
 ·intro m
  exact⟨(u,x),zbh5.mpr ⟨m,by simp⟩,rfl⟩
theorem new_uniq {T:List Ed} (nd:(T.map (·.2)).Nodup):∀ {p q x:Int},(p,x)∈T→(q,x)∈T→p=q:=by
 induction T with
 |nil=>intro p q x h;cases h
 |cons e T ih =>
  intro p q x h1 h2
  rw [zbd7]at nd
  obtain⟨n1,n2⟩:=zbe6.mp nd
  rcases zbd2.mp h1 with z1 | z1<;>rcases zbd2.mp h2 with z2 | z2
  ·rw [← z1]at z2;injection z2 with z2 _;exact z2.symm
  ·exact absurd (zbf6.mpr ⟨_,z2,by rw [← z1]⟩) n1
  ·exact absurd (zbf6.mpr ⟨_,z1,by rw [← z2]⟩) n1
  ·exact ih n2 z1 z2
theorem ch_nodup {T:List Ed}{ch:Int→List Int} (h:Hng T ch) (nd:(T.map (·.2)).Nodup) (u:Int):(ch u).Nodup:=by
 rw [(h.p u).nodup_iff]
 exact nd.sublist ((zbr5).map _)
theorem zam4:∀ {l:List Int}{f:Int→Nat},(∀u∈l,f u=0)→(l.map f).sum=0
 |[],f,_=>rfl
 |a::l,f,h=>by
  rw [zbd7,zbp6,h a (zbc9 ..),zam4 fun u hu=>h u (zbc6 _ hu)]
theorem zas9 (p:Int):∀ {l:List Int}{f:Int→Nat},f p=1→(∀u,u≠p→f u=0)→(l.map f).sum=l.count p
 |[],f,_,_=>rfl
 |a::l,f,h1,h0=>by
  rw [zbd7,zbp6,zas9 p h1 h0,zbq5]
  by_cases c:a=p
  ·rw [c,h1];simp;lia
  ·rw [h0 a c];simp [c]
theorem cnt_new {T:List Ed}{ch:Int→List Int} (h:Hng T ch) (nd:(T.map (·.2)).Nodup) {p x:Int} (m:(p,x)∈T) (l:List Int):(l.flatMap ch).count x=l.count p:=by
 rw [zbs1]
 refine zas9 p ?_ fun u hu=>?_
 ·exact Nat.le_antisymm (zbq9.mp (ch_nodup h nd p) x) (zbk7.mpr (h.mem.mpr m))
 ·exact zbo2.mpr fun z=>hu (new_uniq nd (h.mem.mp z) m)
theorem zba8 {T:List Ed}{ch:Int→List Int} (h:Hng T ch) {x:Int} (m:∀p,(p,x)∉T) (l:List Int):(l.flatMap ch).count x=0:=by
 rw [zbs1]
 exact zam4 fun u _=>zbo2.mpr fun z=>m u (h.mem.mp z)
theorem zx2 {P:Int→Prop}{S:List Int}{T:List Ed} (h:Grown S T):(∀v∈S,P v)→(∀e∈T,P e.1→P e.2)→∀e∈T,P e.2:=by
 induction h with
 |nil=>exact fun _ _ e he=>nomatch he
 |@cons S p x T hp hx _ ih =>
  intro h1 h2 e he
  have px:P x:=h2 (p,x) (zbc9 ..) (h1 p hp)
  rcases zbd2.mp he with rfl | he
  ·exact px
  ·refine ih (fun v hv=>?_) (fun e he=>h2 e (zbc6 _ he)) e he
   rcases zbd0.mp hv with z | z
   ·exact h1 v z
   ·rw [zbd3.mp z];exact px
theorem zab1 {T:List Ed}{ch:Int→List Int} (g:Grown [0] T) (h:Hng T ch) {n:Nat} (hn:T.length+2≤n):(trav ch n [0]).2=[]∧(trav ch n [0]).1.Perm (0::T.map (·.2)):=by
 obtain⟨g1,nd⟩:=g.new
 have pm:=zad8 ch n [0]
 have n0:∀p,(p,(0:Int))∉T:=fun p z=>g1 _ z (by simp)
 have c0:((trav ch n [0]).1++(trav ch n [0]).2).count 0=1:=by
  rw [pm.count_eq,zbi2,zba8 h n0];simp
 have cn:∀ {p x:Int},(p,x)∈T→((trav ch n [0]).1++(trav ch n [0]).2).count x=(trav ch n [0]).1.count p:=fun {p x} m=>by
  have nx:x≠0:=fun z=>n0 p (z ▸ m)
  rw [pm.count_eq,zbi2,cnt_new h nd m]
  simp [zbq5,Ne.symm nx]
 have le1:∀e∈T,(trav ch n [0]).1.count e.2≤1:=zx2 (P:=fun v=>(trav ch n [0]).1.count v≤1) g (fun v hv=>by
  rw [zbd3.mp hv]
  rw [zbi2]at c0;lia) (fun e he hp=>by
  have:=cn (p:=e.1) (x:=e.2) he
  rw [zbi2]at this;lia)
 have zero:∀v,v∉(0::T.map (·.2))→(trav ch n [0]).1.count v=0:=fun v hv=>by
  have q:((trav ch n [0]).1++(trav ch n [0]).2).count v=0:=by
   rw [pm.count_eq,zbi2,zba8 h (fun p z=>hv (zbc6 _ (zbf6.mpr ⟨_,z,rfl⟩)))]
   have:v≠0:=fun z=>hv (by rw [z];exact zbc9 ..)
   simp [zbq5,Ne.symm this]
  rw [zbi2]at q;lia
 have ndl:(trav ch n [0]).1.Nodup:=zbq9.mpr fun v=>by
  by_cases c:v∈(0::T.map (·.2))
  ·rcases zbd2.mp c with z | z
   ·rw [z];rw [zbi2]at c0;lia
   ·obtain⟨e,he,rfl⟩:=zbf6.mp z
    exact le1 e he
  ·rw [zero v c];lia
 have sub:∀v∈(trav ch n [0]).1,v∈(0::T.map (·.2)):=fun v hv=>Classical.byContradiction fun c=>by
  have:=zero v c
  exact absurd hv (zbo2.mp this)
 have len:=zs8 ndl sub
 rw [zbf4,zbd9]at len
 have fin:(trav ch n [0]).2=[]:=by
  rcases zam0 ch n [0] with z | z
  ·exact z
  ·lia
 refine⟨fin,?_⟩
 rw [fin,zbg7]at c0
 have cn':∀ {p x:Int},(p,x)∈T→(trav ch n [0]).1.count x=(trav ch n [0]).1.count p:=fun {p x} m=>by
  have:=cn m
  rw [fin,zbg7]at this;exact this
 have all:∀e∈T,e.2∈(trav ch n [0]).1:=zx2 (P:=fun v=>v∈(trav ch n [0]).1) g (fun v hv=>by
  rw [zbd3.mp hv]
  exact zbk7.mp (by lia)) (fun e he hp=>by
  refine zbk7.mp ?_
  rw [cn' (p:=e.1) (x:=e.2) he]
  exact zbk7.mpr hp)
 refine (List.perm_ext_iff_of_nodup ndl (zbe6.mpr ⟨fun z=>?_,nd⟩)).mpr fun v=>⟨sub v,fun hv=>?_⟩
 ·obtain⟨e,he,ee⟩:=zbf6.mp z
  exact g1 e he (by rw [ee];simp)
 ·rcases zbd2.mp hv with z | z
  ·rw [z];exact zbk7.mp (by lia)
  ·obtain⟨e,he,rfl⟩:=zbf6.mp z
   exact all e he
def Lw (w:Int→Int→Int) (ht:Int→Int) (p a:Int):Prop:=w p a≤ht p - ht a
theorem Lw.trans (tr:∀a b c,w a c≤w a b+w b c) {ht:Int→Int}{a b c:Int} (h:Lw w ht a b) (k:Lw w ht b c):Lw w ht a c:=by
 have:=tr a b c
 unfold Lw at *
 lia
inductive Chn (w:Int→Int→Int) (T:List Ed) (ht:Int→Int):Int→List Int→Prop
 |nil {c:Int}:Chn w T ht c []
 |cons {c p q:Int}{st:List Int}:(p,q)∈T→Lw w ht c p→Chn w T ht p st→Chn w T ht c (q::st)
theorem Chn.up (tr:∀a b c,w a c≤w a b+w b c) {T:List Ed}{ht:Int→Int}{c d:Int}{st:List Int} (h:Chn w T ht c st) (k:Lw w ht d c):Chn w T ht d st:=by
 cases h with
 |nil=>exact .nil
 |cons m l r=>exact .cons m (k.trans tr l) r
theorem Chn.kids {T:List Ed}{ht:Int→Int}{q:Int}{st:List Int} (zz:∀a,w a a=0) (h:Chn w T ht q st):∀ {l:List Int},(∀c∈l,(q,c)∈T)→Chn w T ht q (l++st)
 |[],_=>h
 |c::l,k=>.cons (k c (zbc9 ..)) (by unfold Lw;rw [zz];lia) (Chn.kids zz h fun x hx=>k x (zbc6 _ hx))
theorem weights {S:List Int}{T:List Ed} (h:Grown S T):∃wv:Int→Int,∀e∈T,wv e.2=w e.1 e.2:=by
 induction h with
 |nil=>exact⟨fun _=>0,fun e he=>nomatch he⟩
 |@cons S p x T hp hx g ih =>
  obtain⟨wv,b⟩:=ih
  refine⟨fun v=>if v=x then w p x else wv v,fun e he=>?_⟩
  rcases zbd2.mp he with rfl | he
  ·exact if_pos rfl
  ·have:=g.new.1 e he
   show (if e.2=x then _ else _)=_
   rw [if_neg (fun z=>this (zbc4 _ (zbd3.mpr z)))]
   exact b e he
theorem zas6 (tr:∀a b c,w a c≤w a b+w b c) (sy:∀a b,w a b=w b a) (zz:∀a,w a a=0) {T:List Ed}{ch:Int→List Int} (h:Hng T ch) {ht wv:Int→Int} (hh:∀e∈T,ht e.2=ht e.1+w e.1 e.2) (hw:∀e∈T,wv e.2=w e.1 e.2):∀(n:Nat) (st:List Int) (p:Int),Chn w T ht p st→pth w p (trav ch n st).1+ht ((trav ch n st).1.getLastD p)≤ht p+2*((trav ch n st).1.map wv).sum
 |0,st,p,_=>by simp [trav,pth]
 |n+1,[],p,_=>by simp [trav,pth]
 |n+1,q::st,p,hc=>by
  cases hc with
  |@cons _ pa _ _ m l r =>
   have e1:=hh _ m
   have e2:=hw _ m
   simp only at e1 e2
   have back:Lw w ht q pa:=by unfold Lw;rw [sy];lia
   have ih:=zas6 tr sy zz h hh hw n (ch q++st) q ((r.up tr back).kids zz fun c hc=>h.mem.mp hc)
   have t:=tr p pa q
   unfold Lw at l
   show w p q+pth w q (trav ch n (ch q++st)).1+ht ((q ::(trav ch n (ch q++st)).1).getLastD p)≤ht p+2*(wv q+((trav ch n (ch q++st)).1.map wv).sum)
   have e3:(q ::(trav ch n (ch q++st)).1).getLastD p=(trav ch n (ch q++st)).1.getLastD q:=by cases (trav ch n (ch q++st)).1<;>rfl
   rw [e3]
   lia
theorem tour_le (tr:∀a b c,w a c≤w a b+w b c) (sy:∀a b,w a b=w b a) (zz:∀a,w a a=0) {T:List Ed}{ch:Int→List Int} (g:Grown [0] T) (h:Hng T ch) {n:Nat} (hn:T.length+2≤n):cyc w (trav ch n [0]).1≤2*wtE w T:=by
 obtain⟨f1,f2⟩:=zab1 g h hn
 obtain⟨ht,h0,hh⟩:=heights (w:=w) g fun _=>0
 obtain⟨wv,hw⟩:=weights (w:=w) g
 obtain⟨m,rfl⟩:∃m,n=m+1:=⟨n - 1,by lia⟩
 have le:=zas6 tr sy zz h hh hw m (ch 0++[]) 0 (Chn.kids zz .nil fun c hc=>h.mem.mp hc)
 generalize hl:(trav ch m (ch 0++[])).1=l at le
 have f2:(0::l).Perm (0::T.map (·.2)):=by rw [← hl];exact f2
 have f3:l.Perm (T.map (·.2)):=f2.cons_inv
 have root:∀e∈T,Lw w ht e.2 0:=zx2 (P:=fun v=>Lw w ht v 0) g (fun v hv=>by rw [zbd3.mp hv];unfold Lw;rw [zz];lia) (fun e he hp=>by
  have e1:=hh e he
  have:Lw w ht e.2 e.1:=by unfold Lw;rw [sy];lia
  exact this.trans tr hp)
 have rl:Lw w ht (l.getLastD 0) 0:=by
  cases l with
  |nil=>unfold Lw;show w 0 0≤_;rw [zz];simp
  |cons a r =>
   have:(a::r).getLastD 0∈a::r:=by
    rw [zbs2]
    cases r with
    |nil=>simp
    |cons b r=>exact zbc6 _ (by rw [zbs2];cases r<;>simp [List.getLastD,zbp0])
   obtain⟨e,he,ee⟩:=zbf6.mp (f3.mem_iff.mp this)
   rw [← ee]
   exact root e he
 have sm:(l.map wv).sum=wtE w T:=by
  have key:∀ {l m:List Int},l.Perm m→l.sum=m.sum:=by
   intro l m p
   induction p with
   |nil=>rfl
   |cons _ _ ih=>simp [ih]
   |swap=>simp;lia
   |trans _ _ a b=>exact a.trans b
  rw [key (f3.map wv),zbj8]
  unfold wtE
  congr 1
  exact List.map_congr_left fun e he=>hw e he
 have z0:ht 0=0:=h0 0 (by simp)
 show cyc w (0 ::(trav ch m (ch 0++[])).1)≤_
 rw [hl]
 show pth w 0 (l++[0])≤_
 rw [zm8]
 unfold Lw at rl
 rw [← sm]
 lia
end
end KX
namespace KX
open PySem.Spec L2 DL
def lgF (w:Int→Int→Int) (C:List Int) (k:Nat):Int:=w (C.getD (if k=0 then C.length - 1 else k - 1) 0) (C.getD k 0)
theorem lg_pth (w:Int→Int→Int):∀(r:List Int) (a:Int),((zbf2 r.length).map fun k=>w ((a::r).getD k 0) (r.getD k 0)).sum=pth w a r
 |[],a=>rfl
 |b::r,a=>by
  rw [zbf4,zbk5,zbd7,zbj8,zbp6]
  have:=lg_pth w r b
  show w a b+_=w a b+pth w b r
  rw [← this]
  rfl
theorem lg_sum (w:Int→Int→Int):∀C:List Int,((zbf2 C.length).map (lgF w C)).sum=cyc w C
 |[]=>rfl
 |a::r=>by
  rw [zbf4,zbk5,zbd7,zbj8,zbp6]
  show _=pth w a (r++[a])
  rw [zm8, ← lg_pth w r a]
  have e:(lgF w (a::r) ∘ Nat.succ)=fun k=>w ((a::r).getD k 0) (r.getD k 0):=by
   funext k
   show lgF w (a::r) (k+1)=_
   unfold lgF
   rw [if_neg (by lia)]
   rfl
  rw [e]
  have h0:lgF w (a::r) 0=w (r.getLastD a) a:=by
   unfold lgF
   rw [if_pos rfl]
   have:(a::r).getD ((a::r).length - 1) 0=r.getLastD a:=by
    rw [zbf4,Nat.add_sub_cancel]
    cases r with
    |nil=>rfl
    |cons b q =>
     rw [List.getLastD_eq_getLast?,zbo0]
     simp
   rw [this]
   rfl
  rw [h0]
  lia
def wM (n:Nat) (M:List (List Int)) (a b:Int):Int:=(M.getD (a.toNat % n) []).getD (b.toNat % n) 0
theorem zap3 {n:Nat}{M:List (List Int)}{a b:Int} (a0:0≤a) (a1:a<(n:Int)) (b0:0≤b) (b1:b<(n:Int)):wM n M a b=gM M a b:=by
 unfold wM gM
 rw [Nat.mod_eq_of_lt (by lia),Nat.mod_eq_of_lt (by lia)]
abbrev tD (w:Int→Int→Int) (e:Ed):D:=.tup [.int (w e.1 e.2),.int e.1,.int e.2]
theorem cmp_tD (w:Int→Int→Int) (e f:Ed):∃b:Bool,cmpD false (tD w e) (tD w f)=some b∧(b=true→w e.1 e.2≤w f.1 f.2)∧(b=false→w f.1 f.2≤w e.1 e.2):=by
 refine⟨lexI false [w e.1 e.2,e.1,e.2] [w f.1 f.2,f.1,f.2],rfl,fun h=>?_,fun h=>?_⟩
 all_goals
  unfold lexI at h
  by_cases z:w e.1 e.2=w f.1 f.2
  ·lia
  ·rw [decide_eq_false z]at h
   simp [cmpI]at h
   lia
theorem zal6 (w:Int→Int→Int):∀(l:List Ed) (e:Ed),∃b:Ed,b∈e::l∧zai8 false (tD w e) (l.map (tD w))=some (tD w b)∧∀f∈e::l,w b.1 b.2≤w f.1 f.2
 |[],e=>⟨e,by simp,rfl,fun f hf=>by simp at hf;subst hf;lia⟩
 |d::l,e=>by
  obtain⟨c,ec,ct,cf⟩:=cmp_tD w d e
  cases c with
  |true =>
   obtain⟨b,m,eb,le⟩:=zal6 w l d
   refine⟨b,zbc6 _ m,?_,fun f hf=>?_⟩
   ·show (cmpD false (tD w d) (tD w e)).bind _=_
    rw [ec];exact eb
   ·rcases zbd2.mp hf with q | q
    ·subst q;have:=le d (by simp);have:=ct rfl;lia
    ·exact le f q
  |false =>
   obtain⟨b,m,eb,le⟩:=zal6 w l e
   refine⟨b,?_,?_,fun f hf=>?_⟩
   ·rcases zbd2.mp m with q | q
    ·exact zbd2.mpr (.inl q)
    ·exact zbc6 _ (zbc6 _ q)
   ·show (cmpD false (tD w d) (tD w e)).bind _=_
    rw [ec];exact eb
   ·have b0:=le e (by simp)
    rcases zbd2.mp hf with q | q
    ·subst q;exact b0
    ·rcases zbd2.mp q with q | q
     ·subst q;have:=cf rfl;lia
     ·exact le f (zbc6 _ q)
theorem extT_of {f:DE}{t:Th}{r:Ev}{w:Int→Int→Int}{l:List Ed} (h:f t=some r) (hr:r.d=.lst (l.map (tD w))) (hl:l≠[]):∃b∈l,(∀f∈l,w b.1 b.2≤w f.1 f.2)∧(dT1 (zax9 false) (za3 f dNil)) t=some (.cl (tD w b)):=by
 cases l with
 |nil=>exact absurd rfl hl
 |cons e l =>
  obtain⟨b,m,eb,le⟩:=zal6 w l e
  refine⟨b,m,le,?_⟩
  rw [zk9 h]
  unfold zax9
  simp only [hr,zbd7,eb,zbc8]
  rfl
end KX
set_option maxHeartbeats 4000000
namespace KX
open PySem.Spec L2 DL
def top (i:Nat):Stmt:=PySem.Challenge.pw_nearenough_k55_whole_roads_walked.main.body.getD i (.Pass ⟨0,0,0,0⟩)
abbrev zm6:Stmt:=top 3
abbrev zi5:Stmt:=top 4
abbrev zd9:Stmt:=top 5
abbrev zh5:Stmt:=top 6
abbrev zm7:Stmt:=top 7
abbrev zm2:Stmt:=top 8
abbrev zj8:Stmt:=top 9
abbrev zm1:Stmt:=top 10
abbrev zh3:Stmt:=top 11
abbrev zh4:Stmt:=top 13
abbrev zp2:Stmt:=top 14
abbrev zd8:Stmt:=top 15
abbrev zg6:Stmt:=top 16
abbrev zi4:Stmt:=top 18
abbrev zm5:Stmt:=top 19
abbrev zr9:Stmt:=top 20
abbrev zm3:Stmt:=top 21
abbrev zm4:Stmt:=top 22
abbrev zp3:Stmt:=top 23
abbrev zp4:Stmt:=top 24
abbrev s_law:Stmt:=top 25
structure Blt (mg:Str→Option Value):Prop where
 n_abs:mg "abs"=none
 n_all:mg "all"=none
 n_any:mg "any"=none
 n_enumerate:mg "enumerate"=none
 n_len:mg "len"=none
 n_list:mg "list"=none
 n_max:mg "max"=none
 n_min:mg "min"=none
 n_range:mg "range"=none
 n_sorted:mg "sorted"=none
 n_sum:mg "sum"=none
 x_LONGEST_ROAD:∃t,mg "LONGEST_ROAD"=some (.int 1000000000000 t)
 x_MOST_PLACES:∃t,mg "MOST_PLACES"=some (.int 40 t)
variable {P:Program}{w:World}{K:zbc5}{mg:Str→Option Value}{base:BHeap}{ad:Addr}{fd:FuncData}
theorem zae6:FnScope ["thing", "many"] ["thing"] (za9 zm6):=zk2 rfl rfl rfl rfl (by decide +kernel)
noncomputable def zr1:DS :=
 (dSeq (dAsg 1 (dT1 kLen (za3 (dVar 0) dNil))) (dRet (zah6 (dChV qE qE (dC (.int 1)) (dVar 1) (dC (.int 40))) (dT1 qU (za3 (ze4 1 [1] (fsL (dVar 0)) (za2 0) zb4 (d2 kEq (dT1 kLen (za3 (dVar 0) dNil)) (dVar 1))) dNil)))))
def zj5:List D→Option Ev:=mkG 1 ["thing", "many"] zr1
theorem zaf8 (Fn:L2.Fun K "is_square" "is_square" zm6 ad fd) (bu:Blt mg) :FnOk P w K mg base CX0 1 ad fd ["thing"] (spD K zj5):=by
 have SC:=zae6
 obtain⟨_,v_MOST_PLACES⟩:=bu.x_MOST_PLACES
 refine zg5 (k:=0) Fn SC (fun _ _ e=>ze1 e) zr1 (fun _ _ e=>zf8 e) (fun cdv A outer s H E F hr=>?_)
 refine za5 ?_ ?_
 ·exact (zc8 (i:=1) SC.nd rfl (zb5 rfl) (zb2 zi0 rfl bu.n_len PySem.boot_len (za1 (za0 0) za4)))
 exact zb8 (zd4 (zab7 (zaf2 od_le od_le zb3 (za0 1) (zan3 rfl v_MOST_PLACES ⟨_,rfl⟩)) (zav1 (zb2 (zai1 (zh8 rfl)) rfl bu.n_all (by decide +kernel) (za1 (zf7 1 [1] ["row", "many"] rfl (ze8 (za0 0)) (fun _ _ _ _ _=>(zc3 (i:=0) (show List.Nodup (["row", "many"]:List Str) by decide +kernel) rfl (zb5 rfl))) (fun _=>(zc5 0)) (fun _ _ _ _ _ _=>zd3) (fun _ _ _ _ _ _=>(zab6 (zav9 hr.units) (zb2 zi0 rfl bu.n_len PySem.boot_len (za1 (za0 0) za4)) (za0 1)))) za4)))))
theorem zz1:FnScope ["roads"] ["roads"] (za9 zi5):=zk2 rfl rfl rfl rfl (by decide +kernel)
def feL:DE:=(dChV qE qE (dC (.int 0)) (dVar 1) (dC (.int 1000000000000)))
def feD:DE:=(d2 kEq (d2 kIx (dVar 1) (dVar 0)) (dC (.int 0)))
noncomputable def zn5:DS :=
 (dSeq (dIfS (dNot (dTr (dT1 qU (za3 (zl6 2 [] (fsL (dVar 0)) (za2 0) zb4 (fsL (dVar 0)) (za2 1) zb4 feL) dNil)))) (dRet (dC (.bl false))) zt6) (dRet (dT1 qU (za3 (ze4 2 [] (fsE (dVar 0)) (zj0 2 (zc7 (za2 0) (zc7 (za2 1) zk4))) zb4 feD) dNil))))
def zg8:List D→Option Ev:=mkG 1 ["roads"] zn5
theorem zz5 (Fn:L2.Fun K "are_lengths" "are_lengths" zi5 ad fd) (bu:Blt mg) :FnOk P w K mg base CX0 1 ad fd ["roads"] (spD K zg8):=by
 have SC:=zz1
 obtain⟨_,v_LONGEST_ROAD⟩:=bu.x_LONGEST_ROAD
 refine zg5 (k:=0) Fn SC (fun _ _ e=>ze1 e) zn5 (fun _ _ e=>zf8 e) (fun cdv A outer s H E F hr=>?_)
 refine za5 ?_ ?_
 ·exact (zq2 (ptd_not (zab4 (zb2 (zai1 (zh8 rfl)) rfl bu.n_all (by decide +kernel) (za1 (zt1 2 [] ["row", "road"] rfl (ze8 (za0 0)) (fun _ _ _ _ _=>(zc3 (i:=0) (show List.Nodup (["row", "road"]:List Str) by decide +kernel) rfl (zb5 rfl))) (fun _=>(zc5 0)) (fun _ _ _ _ _ _=>zd3) (fun _ _ _ _ _ _=>(ze8 (za0 0))) (fun _ _ _ _ _=>(zc3 (i:=1) (show List.Nodup (["row", "road"]:List Str) by decide +kernel) rfl (zb5 rfl))) (fun _=>(zc5 1)) (fun _ _ _ _ _ _=>zd3) (fun _ _ _ _ _ _=>(zaf2 od_le od_le zb3 (za0 1) (zan3 rfl v_LONGEST_ROAD ⟨_,rfl⟩)))) za4)))) (zb8 (zd4 zq3)) zm9)
 exact zb8 (zd4 (zb2 (zai1 (zh8 rfl)) rfl bu.n_all (by decide +kernel) (za1 (zf7 2 [] ["place", "row"] rfl (pid_enum rfl bu.n_enumerate (za0 0)) (fun _ _ _ _ _=>(zaf1 rfl (zh6 (zc3 (i:=0) (show List.Nodup (["place", "row"]:List Str) by decide +kernel) rfl (zb5 rfl)) (zh6 (zc3 (i:=1) (show List.Nodup (["place", "row"]:List Str) by decide +kernel) rfl (zb5 rfl)) zw0)))) (fun _=>(zam2 (zj7 (zc5 0) (zj7 (zc5 1) zab2)))) (fun _ _ _ _ _ _=>zd3) (fun _ _ _ _ _ _=>(zab6 (zav9 hr.units) (ze3 (za0 1) (za0 0)) zb3))) za4)))
theorem zn9:FnScope ["roads", "places"] ["roads"] (za9 zd9):=zk2 rfl rfl rfl rfl (by decide +kernel)
def feA:DE:=(d2 kEq (d2 kIx (d2 kIx (dVar 3) (dVar 0)) (dVar 1)) (d2 kIx (d2 kIx (dVar 3) (dVar 1)) (dVar 0)))
noncomputable def zf1:DS :=
 (dSeq (dAsg 1 (zq6 (za3 (dT1 kLen (za3 (dVar 0) dNil)) dNil))) (dRet (dT1 qU (za3 (zl6 2 [1,0] (fsL (dVar 1)) (za2 0) zb4 (fsL (dVar 2)) (za2 1) zb4 feA) dNil))))
def zc9:List D→Option Ev:=mkG 1 ["roads", "places"] zf1
theorem zo0 (Fn:L2.Fun K "are_alike_both_ways" "are_alike_both_ways" zd9 ad fd) (bu:Blt mg) :FnOk P w K mg base CX0 1 ad fd ["roads"] (spD K zc9):=by
 have SC:=zn9
 refine zg5 (k:=0) Fn SC (fun _ _ e=>ze1 e) zf1 (fun _ _ e=>zf8 e) (fun cdv A outer s H E F hr=>?_)
 refine za5 ?_ ?_
 ·exact (zc8 (i:=1) SC.nd rfl (zb5 rfl) (zs1 rfl rfl bu.n_list rfl bu.n_range (za1 (zb2 zi0 rfl bu.n_len PySem.boot_len (za1 (za0 0) za4)) za4)))
 exact zb8 (zd4 (zb2 (zai1 (zh8 rfl)) rfl bu.n_all (by decide +kernel) (za1 (zt1 2 [1,0] ["one", "other", "places", "roads"] rfl (ze8 (za0 1)) (fun _ _ _ _ _=>(zc3 (i:=0) (show List.Nodup (["one", "other", "places", "roads"]:List Str) by decide +kernel) rfl (zb5 rfl))) (fun _=>(zc5 0)) (fun _ _ _ _ _ _=>zd3) (fun _ _ _ _ _ _=>(ze8 (za0 2))) (fun _ _ _ _ _=>(zc3 (i:=1) (show List.Nodup (["one", "other", "places", "roads"]:List Str) by decide +kernel) rfl (zb5 rfl))) (fun _=>(zc5 1)) (fun _ _ _ _ _ _=>zd3) (fun _ _ _ _ _ _=>(zab6 (zav9 hr.units) (ze3 (ze3 (za0 3) (za0 0)) (za0 1)) (ze3 (ze3 (za0 3) (za0 1)) (za0 0))))) za4)))
theorem zv5:FnScope ["roads", "places", "start", "third", "so_far"] ["roads"] (za9 zh5):=zk2 rfl rfl rfl rfl (by decide +kernel)
def feS:DE:=(d2 qG (d2 kIx (dVar 1) (dVar 0)) (d2 qA (dVar 2) (d2 kIx (d2 kIx (dVar 3) (dVar 4)) (dVar 0))))
noncomputable def bdS:DS:=(dSeq (dAsg 4 (d2 kIx (dVar 2) (dVar 3)))
  (dIfS (dTr (dT1 qY (za3 (ze4 1 [2,4,0,3] (fsL (dVar 1)) (za2 0) zb4 feS) dNil))) (dRet (dC (.bl false))) zt6))
noncomputable def zk7:DS :=
 (dSeq (dAsg 1 (zq6 (za3 (dT1 kLen (za3 (dVar 0) dNil)) dNil))) (dSeq (dFor (za2 2) (dVar 0) (dFrz 1 (dFor (za2 3) (dVar 1) bdS))) (dRet (dC (.bl true)))))
def zg0:List D→Option Ev:=mkG 1 ["roads", "places", "start", "third", "so_far"] zk7
theorem zw4 (Fn:L2.Fun K "are_straight" "are_straight" zh5 ad fd) (bu:Blt mg) :FnOk P w K mg base CX0 1 ad fd ["roads"] (spD K zg0):=by
 have SC:=zv5
 refine zg5 (k:=0) Fn SC (fun _ _ e=>ze1 e) zk7 (fun _ _ e=>zf8 e) (fun cdv A outer s H E F hr=>?_)
 refine za5 ?_ ?_
 ·exact (zc8 (i:=1) SC.nd rfl (zb5 rfl) (zs1 rfl rfl bu.n_list rfl bu.n_range (za1 (zb2 zi0 rfl bu.n_len PySem.boot_len (za1 (za0 0) za4)) za4)))
 refine za5 ?_ ?_
 ·exact (zab5 PassesOwn.never rfl (za0 0) (zc3 (i:=2) SC.nd rfl (zb5 rfl)) (zc5 2) (zb8 (psd_frz 1 (zab5 PassesOwn.never rfl (za0 1) (zc3 (i:=3) SC.nd rfl (zb5 rfl)) (zc5 3) (za5 (zc8 (i:=4) SC.nd rfl (zb5 rfl) (ze3 (za0 2) (za0 3)))
  (zb8 (zq2 (zab4 (zb2 (zai1 (zz7 rfl)) rfl bu.n_any (by decide +kernel) (za1 (zf7 1 [2,4,0,3] ["end", "start", "so_far", "roads", "third"] rfl (ze8 (za0 1)) (fun _ _ _ _ _=>(zc3 (i:=0) (show List.Nodup (["end", "start", "so_far", "roads", "third"]:List Str) by decide +kernel) rfl (zb5 rfl))) (fun _=>(zc5 0)) (fun _ _ _ _ _ _=>zd3) (fun _ _ _ _ _ _=>(zab6 od_gt (ze3 (za0 1) (za0 0)) (zc6 (od_add.or zn8) (za0 2) (ze3 (ze3 (za0 3) (za0 4)) (za0 0)))))) za4))) (zb8 (zd4 zq3)) zm9)))))))
 exact zb8 (zd4 zq3)
theorem zae7:FnScope ["thing"] ["thing"] (za9 zm7):=zk2 rfl rfl rfl rfl (by decide +kernel)
noncomputable def zr2:DS :=
 (dRet (zah6 (dT1 (zc2 zj5) (za3 (dVar 0) dNil)) (zah6 (dT1 (zc2 zg8) (za3 (dVar 0) dNil)) (zah6 (dT1 (zc2 zc9) (za3 (dVar 0) dNil)) (dT1 (zc2 zg0) (za3 (dVar 0) dNil))))))
def zh2:List D→Option Ev:=mkG 1 ["thing"] zr2
theorem zaf9 (Fn:L2.Fun K "are_roads" "are_roads" zm7 ad fd) (bu:Blt mg) (c_is_square:Cal P w K mg base "is_square" 1 zj5) (c_are_lengths:Cal P w K mg base "are_lengths" 1 zg8) (c_are_alike_both_ways:Cal P w K mg base "are_alike_both_ways" 1 zc9) (c_are_straight:Cal P w K mg base "are_straight" 1 zg0):FnOk P w K mg base CX0 2 ad fd ["thing"] (spD K zh2):=by
 have SC:=zae7
 refine zg5 (k:=1) Fn SC (fun _ _ e=>ze1 e) zr2 (fun _ _ e=>zf8 e) (fun cdv A outer s H E F hr=>?_)
 exact zb8 (zd4 (zab7 (zb6 c_is_square (hr.mono (by decide)) (za1 (za0 0) za4)) (zab7 (zb6 c_are_lengths (hr.mono (by decide)) (za1 (za0 0) za4)) (zab7 (zb6 c_are_alike_both_ways (hr.mono (by decide)) (za1 (za0 0) za4)) (zav1 (zb6 c_are_straight (hr.mono (by decide)) (za1 (za0 0) za4)))))))
theorem zae2:FnScope ["roads", "tour"] ["roads", "tour"] (za9 zm2):=zk2 rfl rfl rfl rfl (by decide +kernel)
def feLg:DE:=(d2 kIx (d2 kIx (dVar 1) (d2 kIx (dVar 2) (d2 qS (dVar 0) (dC (.int 1))))) (d2 kIx (dVar 2) (dVar 0)))
def zx3:DS :=
 (dRet (dT1 kSum (za3 (ze4 1 [0,1] (fsR1 (dT1 kLen (za3 (dVar 1) dNil))) (za2 0) zb4 feLg) dNil)))
def zn6:List D→Option Ev:=mkG 2 ["roads", "tour"] zx3
theorem zaf4 (Fn:L2.Fun K "length_of" "length_of" zm2 ad fd) (bu:Blt mg) :FnOk P w K mg base CX0 1 ad fd ["roads", "tour"] (spD K zn6):=by
 have SC:=zae2
 refine zg5 (k:=0) Fn SC (fun _ _ e=>ze1 e) zx3 (fun _ _ e=>zf8 e) (fun cdv A outer s H E F hr=>?_)
 exact zb8 (zd4 (zb2 (zbb2 rfl) rfl bu.n_sum (by decide +kernel) (za1 (zf7 1 [0,1] ["at", "roads", "tour"] rfl (zs0 rfl bu.n_range (zb2 zi0 rfl bu.n_len PySem.boot_len (za1 (za0 1) za4))) (fun _ _ _ _ _=>(zc3 (i:=0) (show List.Nodup (["at", "roads", "tour"]:List Str) by decide +kernel) rfl (zb5 rfl))) (fun _=>(zc5 0)) (fun _ _ _ _ _ _=>zd3) (fun _ _ _ _ _ _=>(ze3 (ze3 (za0 1) (ze3 (za0 2) (zc6 zan4 (za0 0) zb3))) (ze3 (za0 2) (za0 0))))) za4)))
theorem zab3:FnScope ["roads", "inside", "outside", "tree", "shortest", "place", "new"] ["roads"] (za9 zj8):=zk2 rfl rfl rfl rfl (by decide +kernel)
def feG:DE:=(dT1 kTup (za3 (d2 kIx (d2 kIx (dVar 3) (dVar 0)) (dVar 1)) (za3 (dVar 0) (za3 (dVar 1) dNil))))
noncomputable def bdG:DS:=(dSeq (dAsg 4 (dT1 (zax9 false) (za3 (zl6 2 [2,0] (fsL (dVar 1)) (za2 0) zb4 (fsL (dVar 2)) (za2 1) zb4 feG) dNil)))
  (dSeq (dPar 5 6 (za3 (d2 kIx (dVar 4) (dC (.int 1))) (za3 (d2 kIx (dVar 4) (dC (.int 2))) dNil)))
  (dSeq (dApp 3 (dT1 kTup (za3 (dVar 5) (za3 (dVar 6) dNil))))
  (dSeq (dApp 1 (dVar 6))
  (dRem 2 (dVar 6))))))
noncomputable def zo7:DS :=
 (dSeq (dAsg 1 (dT1 kLst (za3 (dC (.int 0)) dNil))) (dSeq (dAsg 2 (zq6 (za3 (dC (.int 1)) (za3 (dT1 kLen (za3 (dVar 0) dNil)) dNil)))) (dSeq (dAsg 3 (dT1 kLst dNil)) (dSeq (zt8 (fun _=>60) (dTr (dVar 2)) bdG) (zar1 3)))))
def zk0:List D→Option Ev:=mkG 1 ["roads", "inside", "outside", "tree", "shortest", "place", "new"] zo7
theorem zab9 (Fn:L2.Fun K "grown_tree" "grown_tree" zj8 ad fd) (bu:Blt mg) :FnOk P w K mg base CX0 1 ad fd ["roads"] (spD K zk0):=by
 have SC:=zab3
 refine zg5 (k:=0) Fn SC (fun _ _ e=>ze1 e) zo7 (fun _ _ e=>zf8 e) (fun cdv A outer s H E F hr=>?_)
 refine za5 ?_ ?_
 ·exact (zc8 (i:=1) SC.nd rfl (zb5 rfl) (zi9 (za1 zb3 za4)))
 refine za5 ?_ ?_
 ·exact (zc8 (i:=2) SC.nd rfl (zb5 rfl) (zs1 rfl rfl bu.n_list rfl bu.n_range (za1 zb3 (za1 (zb2 zi0 rfl bu.n_len PySem.boot_len (za1 (za0 0) za4)) za4))))
 refine za5 ?_ ?_
 ·exact (zc8 (i:=3) SC.nd rfl (zb5 rfl) (zi9 za4))
 refine za5 ?_ ?_
 ·exact (zv8 (fun _=>60) PassesOwn.never (zab4 (za0 2)) (za5 (zc8 (i:=4) SC.nd rfl (zb5 rfl) (zb2 (cd_minT rfl hr.units) rfl bu.n_min (by decide +kernel) (za1 (zt1 2 [2,0] ["place", "new", "outside", "roads"] rfl (ze8 (za0 1)) (fun _ _ _ _ _=>(zc3 (i:=0) (show List.Nodup (["place", "new", "outside", "roads"]:List Str) by decide +kernel) rfl (zb5 rfl))) (fun _=>(zc5 0)) (fun _ _ _ _ _ _=>zd3) (fun _ _ _ _ _ _=>(ze8 (za0 2))) (fun _ _ _ _ _=>(zc3 (i:=1) (show List.Nodup (["place", "new", "outside", "roads"]:List Str) by decide +kernel) rfl (zb5 rfl))) (fun _=>(zc5 1)) (fun _ _ _ _ _ _=>zd3) (fun _ _ _ _ _ _=>(zav0 (za1 (ze3 (ze3 (za0 3) (za0 0)) (za0 1)) (za1 (za0 0) (za1 (za0 1) za4)))))) za4)))
  (za5 (psd_par (i:=5) (j:=6) rfl SC.nd rfl rfl (by decide) rfl rfl (za1 (ze3 (za0 4) zb3) (za1 (ze3 (za0 4) zb3) za4)) rfl)
  (za5 (zt0 3 (zav0 (za1 (za0 5) (za1 (za0 6) za4))))
  (za5 (zt0 1 (za0 6))
  (zb8 (psd_rem 2 (za0 6))))))))
 exact zb8 (zu6 3)
theorem zae1:FnScope ["many", "tree", "hung", "place", "new", "tour", "waiting"] ["many", "tree"] (za9 zm1):=zk2 rfl rfl rfl rfl (by decide +kernel)
def bdD:DS:=(dSeq (dPop 3 6)
  (dSeq (dApp 5 (dVar 3))
  (dExt 6 (dT1 zaa2 (za3 (d2 kIx (dVar 2) (dVar 3)) dNil)))))
noncomputable def zq9:DS :=
 (dSeq (dAsg 2 (zi2 1 [] (fsR1 (dVar 0)) (za2 0) zb4 (dT1 kLst dNil))) (dSeq (dFor (zj0 2 (zc7 (za2 3) (zc7 (za2 4) zk4))) (dVar 1) (zar2 2 [(dVar 3)] (dVar 4))) (dSeq (dAsg 5 (dT1 kLst dNil)) (dSeq (dAsg 6 (dT1 kLst (za3 (dC (.int 0)) dNil))) (dSeq (zt8 (fun _=>60) (dTr (dVar 6)) bdD) (zar1 5))))))
def zh0:List D→Option Ev:=mkG 2 ["many", "tree", "hung", "place", "new", "tour", "waiting"] zq9
theorem zaf3 (Fn:L2.Fun K "tour_down" "tour_down" zm1 ad fd) (bu:Blt mg) :FnOk P w K mg base CX0 1 ad fd ["many", "tree"] (spD K zh0):=by
 have SC:=zae1
 refine zg5 (k:=0) Fn SC (fun _ _ e=>ze1 e) zq9 (fun _ _ e=>zf8 e) (fun cdv A outer s H E F hr=>?_)
 refine za5 ?_ ?_
 ·exact (zau3 (i:=2) 1 [] ["place"] SC.nd rfl (Or.inl rfl) rfl (zs0 rfl bu.n_range (za0 0)) (fun _ _ _ _ _=>(zc3 (i:=0) (show List.Nodup (["place"]:List Str) by decide +kernel) rfl (zb5 rfl))) (fun _=>(zc5 0)) (fun _ _ _ _ _ _=>zd3) (fun _ _ _ _ _ _=>(zi9 za4)))
 refine za5 ?_ ?_
 ·exact (zab5 PassesOwn.never rfl (za0 1) (zaf1 rfl (zh6 (zc3 (i:=3) SC.nd rfl (zb5 rfl)) (zh6 (zc3 (i:=4) SC.nd rfl (zb5 rfl)) zw0))) (zam2 (zj7 (zc5 3) (zj7 (zc5 4) zab2))) (zb8 (psd_appP 2 (pl_ix (pl_var 2) (za0 3)) (za0 4))))
 refine za5 ?_ ?_
 ·exact (zc8 (i:=5) SC.nd rfl (zb5 rfl) (zi9 za4))
 refine za5 ?_ ?_
 ·exact (zc8 (i:=6) SC.nd rfl (zb5 rfl) (zi9 (za1 zb3 za4)))
 refine za5 ?_ ?_
 ·exact (zv8 (fun _=>60) PassesOwn.never (zab4 (za0 6)) (za5 (psd_pop (i:=3) 6 SC.nd rfl (zb5 rfl))
  (za5 (zt0 5 (za0 3))
  (zb8 (psd_ext 6 (zaj8 rfl bu.n_sorted (ze3 (za0 2) (za0 3))))))))
 exact zb8 (zu6 5)
theorem zv3:FnScope ["roads", "tree"] ["roads"] (za9 zh3):=zk2 rfl rfl rfl rfl (by decide +kernel)
noncomputable def zk5:DS :=
 (dSeq (dAsg 1 (dT1 (zc2 zk0) (za3 (dVar 0) dNil))) (zaz9 (mTup (zak6 (mOf (dT1 (zc2 zh0) (za3 (dT1 kLen (za3 (dVar 0) dNil)) (za3 (dVar 1) dNil)))) (zak6 (mOwn 1) mNil)))))
def ze2:List D→Option Ev:=mkG 1 ["roads", "tree"] zk5
theorem zw2 (Fn:L2.Fun K "tour_by_tree" "tour_by_tree" zh3 ad fd) (bu:Blt mg) (c_grown_tree:Cal P w K mg base "grown_tree" 1 zk0) (c_tour_down:Cal P w K mg base "tour_down" 1 zh0):FnOk P w K mg base CX0 2 ad fd ["roads"] (spD K ze2):=by
 have SC:=zv3
 refine zg5 (k:=1) Fn SC (fun _ _ e=>ze1 e) zk5 (fun _ _ e=>zf8 e) (fun cdv A outer s H E F hr=>?_)
 refine za5 ?_ ?_
 ·exact (zc8 (i:=1) SC.nd rfl (zb5 rfl) (zb6 c_grown_tree (hr.mono (by decide)) (za1 (za0 0) za4)))
 exact zb8 (psd_retM (pm_tup (zan2 (fun _=>(pm_of (zb6 c_tour_down (hr.mono (by decide)) (za1 (zb2 zi0 rfl bu.n_len PySem.boot_len (za1 (za0 0) za4)) (za1 (za0 1) za4))))) (fun _=>(zan2 (fun _=>(pm_own 1)) (fun _=>pms_nil))))))
theorem zv4:FnScope ["roads", "centres", "place"] ["roads", "centres", "place"] (za9 zh4):=zk2 rfl rfl rfl rfl (by decide +kernel)
noncomputable def zk6:DS :=
 (dRet (dT1 (zo1 zl3) (za3 (ze4 1 [0,2] (fsL (dVar 1)) (za2 0) zb4 (d2 kIx (d2 kIx (dVar 1) (dVar 2)) (dVar 0))) dNil)))
def ze7:List D→Option Ev:=mkG 3 ["roads", "centres", "place"] zk6
theorem zw3 (Fn:L2.Fun K "nearest_road" "nearest_road" zh4 ad fd) (bu:Blt mg) :FnOk P w K mg base CX0 1 ad fd ["roads", "centres", "place"] (spD K ze7):=by
 have SC:=zv4
 refine zg5 (k:=0) Fn SC (fun _ _ e=>ze1 e) zk6 (fun _ _ e=>zf8 e) (fun cdv A outer s H E F hr=>?_)
 exact zb8 (zd4 (zb2 (cd_minL rfl) rfl bu.n_min (by decide +kernel) (za1 (zf7 1 [0,2] ["centre", "roads", "place"] rfl (ze8 (za0 1)) (fun _ _ _ _ _=>(zc3 (i:=0) (show List.Nodup (["centre", "roads", "place"]:List Str) by decide +kernel) rfl (zb5 rfl))) (fun _=>(zc5 0)) (fun _ _ _ _ _ _=>zd3) (fun _ _ _ _ _ _=>(ze3 (ze3 (za0 1) (za0 2)) (za0 0)))) za4)))
theorem zaj5:FnScope ["roads", "centres"] ["roads", "centres"] (za9 zp2):=zk2 rfl rfl rfl rfl (by decide +kernel)
noncomputable def zt4:DS :=
 (dRet (dT1 (zo1 zn0) (za3 (ze4 1 [0,1] (fsR1 (dT1 kLen (za3 (dVar 0) dNil))) (za2 0) zb4 (dT1 (zc2 ze7) (za3 (dVar 1) (za3 (dVar 2) (za3 (dVar 0) dNil))))) dNil)))
def zf4:List D→Option Ev:=mkG 2 ["roads", "centres"] zt4
theorem zak0 (Fn:L2.Fun K "reach_of" "reach_of" zp2 ad fd) (bu:Blt mg) (c_nearest_road:Cal P w K mg base "nearest_road" 1 ze7):FnOk P w K mg base CX0 2 ad fd ["roads", "centres"] (spD K zf4):=by
 have SC:=zaj5
 refine zg5 (k:=1) Fn SC (fun _ _ e=>ze1 e) zt4 (fun _ _ e=>zf8 e) (fun cdv A outer s H E F hr=>?_)
 exact zb8 (zd4 (zb2 (zal4 rfl) rfl bu.n_max (by decide +kernel) (za1 (zf7 1 [0,1] ["place", "roads", "centres"] rfl (zs0 rfl bu.n_range (zb2 zi0 rfl bu.n_len PySem.boot_len (za1 (za0 0) za4))) (fun _ _ _ _ _=>(zc3 (i:=0) (show List.Nodup (["place", "roads", "centres"]:List Str) by decide +kernel) rfl (zb5 rfl))) (fun _=>(zc5 0)) (fun _ _ _ _ _ _=>zd3) (fun _ _ _ _ _ _=>(zb6 c_nearest_road (hr.mono (by decide)) (za1 (za0 1) (za1 (za0 2) (za1 (za0 0) za4)))))) za4)))
theorem zy9:FnScope ["roads", "centres", "others"] ["roads", "centres"] (za9 zd8):=zk2 rfl rfl rfl rfl (by decide +kernel)
noncomputable def zn4:DS :=
 (dSeq (dAsg 2 (ze4 1 [1] (fsR1 (dT1 kLen (za3 (dVar 0) dNil))) (za2 0) (dBo (d2 kNin (dVar 0) (dVar 1))) (dVar 0))) (dRet (dKey true [0,1] (dVar 2) (dT1 (zc2 ze7) (za3 (dVar 1) (za3 (dVar 2) (za3 (dVar 0) dNil)))))))
def ze6:List D→Option Ev:=mkG 2 ["roads", "centres", "others"] zn4
theorem zz2 (Fn:L2.Fun K "next_centre" "next_centre" zd8 ad fd) (bu:Blt mg) {lc lP:Addr} (hcd:fd.code=.ref lc) (hC:zbl9 base lc lP) (hP:(lP,lamOf "next_centre")∈base.tabs) (c_nearest_road:Cal P w K mg base "nearest_road" 1 ze7):FnOk P w K mg base CX0 5 ad fd ["roads", "centres"] (spD K ze6):=by
 have SC:=zy9
 refine fun_okC (k:=4) Fn SC (fun _ _ e=>ze1 e) zn4 (fun _ _ e=>zf8 e) (fun A outer s H E F hr=>?_)
 refine za5 ?_ ?_
 ·exact (psd_setC (i:=2) 1 [1] ["place", "centres"] SC.nd rfl (Or.inl rfl) rfl (zs0 rfl bu.n_range (zb2 zi0 rfl bu.n_len PySem.boot_len (za1 (za0 0) za4))) (fun _ _ _ _ _=>(zc3 (i:=0) (show List.Nodup (["place", "centres"]:List Str) by decide +kernel) rfl (zb5 rfl))) (fun _=>(zc5 0)) (fun _ _ _ _ _ _=>(ptsd_one (zg7 od_nin (za0 0) (za0 1)))) (fun _ _ _ _ _ _=>(za0 0)))
 exact zb8 (zd4 (ped_kmax [0,1] ["place", "roads", "centres"] 1 (hr.mono (by decide)) rfl hr.units hr.dep hcd hC hP rfl bu.n_max (za0 2) (fun _ _ _ _ _ _ hr=>(zb6 c_nearest_road (hr.mono (by decide)) (za1 (za0 1) (za1 (za0 2) (za1 (za0 0) za4)))))))
theorem zu3:FnScope ["roads", "many", "centres"] ["roads", "many"] (za9 zg6):=zk2 rfl rfl rfl rfl (by decide +kernel)
def cdP:DT:=(dBo (d2 qL (dT1 kLen (za3 (dVar 2) dNil)) (dT1 qN (za3 (dVar 1) (za3 (dT1 kLen (za3 (dVar 0) dNil)) dNil)))))
def bdPc:DS:=(dApp 2 (dT1 (zc2 ze6) (za3 (dVar 0) (za3 (dVar 2) dNil))))
noncomputable def zj1:DS :=
 (dSeq (dAsg 2 (dT1 kLst (za3 (dC (.int 0)) dNil))) (dSeq (zt8 (fun _=>100) cdP bdPc) (dSeq (dIfS (dBo (d2 kEq (dT1 (zc2 zf4) (za3 (dVar 0) (za3 (dVar 2) dNil))) (dC (.int 0)))) (zak9 (nTup (zw5 (nOwn 2) (zw5 (nOf (dT1 kLst dNil)) nNil)))) zt6) (zak9 (nTup (zw5 (nOwn 2) (zw5 (nOf (d2 qA (dVar 2) (dT1 kLst (za3 (dT1 (zc2 ze6) (za3 (dVar 0) (za3 (dVar 2) dNil))) dNil)))) nNil)))))))
def zd6:List D→Option Ev:=mkG 2 ["roads", "many", "centres"] zj1
theorem zu4 (Fn:L2.Fun K "centres_apart" "centres_apart" zg6 ad fd) (bu:Blt mg) (c_next_centre:Cal P w K mg base "next_centre" 5 ze6) (c_reach_of:Cal P w K mg base "reach_of" 2 zf4):FnOk P w K mg base CX0 6 ad fd ["roads", "many"] (spD K zd6):=by
 have SC:=zu3
 refine zg5 (k:=5) Fn SC (fun _ _ e=>ze1 e) zj1 (fun _ _ e=>zf8 e) (fun cdv A outer s H E F hr=>?_)
 refine za5 ?_ ?_
 ·exact (zc8 (i:=2) SC.nd rfl (zb5 rfl) (zi9 (za1 zb3 za4)))
 refine za5 ?_ ?_
 ·exact (zv8 (fun _=>100) PassesOwn.never (zg7 zaq4 (zb2 zi0 rfl bu.n_len PySem.boot_len (za1 (za0 2) za4)) (zb2 (cd_min rfl) rfl bu.n_min (by decide +kernel) (za1 (za0 1) (za1 (zb2 zi0 rfl bu.n_len PySem.boot_len (za1 (za0 0) za4)) za4)))) (zb8 (zt0 2 (zb6 c_next_centre (hr.mono (by decide)) (za1 (za0 0) (za1 (za0 2) za4))))))
 refine za5 ?_ ?_
 ·exact (zq2 (zg7 (zav9 hr.units) (zb6 c_reach_of (hr.mono (by decide)) (za1 (za0 0) (za1 (za0 2) za4))) zb3) (zb8 (zan0 (pn_tup (zu7 (pn_own 2) (zu7 (pn_of (zi9 za4)) zau5))))) zm9)
 exact zb8 (zan0 (pn_tup (zu7 (pn_own 2) (zu7 (pn_of (zc6 (od_add.or zn8) (za0 2) (zi9 (za1 (zb6 c_next_centre (hr.mono (by decide)) (za1 (za0 0) (za1 (za0 2) za4))) za4)))) zau5))))
theorem zz0:FnScope ["_law_script", "_law_k"] ["_law_script", "_law_k"] (za9 zi4):=zk2 rfl rfl rfl rfl (by decide +kernel)
noncomputable def zf3:DS :=
 (dSeq (dIfS (dBo (d2 qL (dVar 1) (dT1 kLen (za3 (dVar 0) dNil)))) (dRet (d2 kIx (dVar 0) (dVar 1))) zt6) (dRet (dC (.int 0))))
def zc0:List D→Option Ev:=mkG 2 ["_law_script", "_law_k"] zf3
theorem zz4 (Fn:L2.Fun K "_law_cell_at" "_law_cell_at" zi4 ad fd) (bu:Blt mg) :FnOk P w K mg base CX0 1 ad fd ["_law_script", "_law_k"] (spD K zc0):=by
 have SC:=zz0
 refine zg5 (k:=0) Fn SC (fun _ _ e=>ze1 e) zf3 (fun _ _ e=>zf8 e) (fun cdv A outer s H E F hr=>?_)
 refine za5 ?_ ?_
 ·exact (zq2 (zg7 zaq4 (za0 1) (zb2 zi0 rfl bu.n_len PySem.boot_len (za1 (za0 0) za4))) (zb8 (zd4 (ze3 (za0 0) (za0 1)))) zm9)
 exact zb8 (zd4 zb3)
theorem zae5:FnScope ["_law_cell", "_law_k", "_law_number"] ["_law_cell", "_law_k"] (za9 zm5):=zk2 rfl rfl rfl rfl (by decide +kernel)
noncomputable def zr0:DS :=
 (dSeq (dAsg 2 (d2 qR (d2 qM (d2 qA (d2 qA (d2 qR (dVar 0) (dC (.int 2147483647))) (d2 qM (d2 qM (dC (.int 48271)) (dVar 1)) (dVar 1))) (dC (.int 11))) (dC (.int 69621))) (dC (.int 2147483629)))) (dRet (d2 qR (d2 qM (d2 qR (d2 qA (d2 qM (dVar 2) (dVar 2)) (d2 qM (dC (.int 39373)) (dVar 1))) (dC (.int 2147483587))) (dC (.int 16807))) (dC (.int 2147483549)))))
def zj4:List D→Option Ev:=mkG 2 ["_law_cell", "_law_k", "_law_number"] zr0
theorem zaf7 (Fn:L2.Fun K "_law_mixed" "_law_mixed" zm5 ad fd) (bu:Blt mg) :FnOk P w K mg base CX0 1 ad fd ["_law_cell", "_law_k"] (spD K zj4):=by
 have SC:=zae5
 refine zg5 (k:=0) Fn SC (fun _ _ e=>ze1 e) zr0 (fun _ _ e=>zf8 e) (fun cdv A outer s H E F hr=>?_)
 refine za5 ?_ ?_
 ·exact (zc8 (i:=2) SC.nd rfl (zb5 rfl) (zc6 zl0 (zc6 (od_mul.or zq4) (zc6 (od_add.or zn8) (zc6 (od_add.or zn8) (zc6 zl0 (za0 0) zb3) (zc6 (od_mul.or zq4) (zc6 (od_mul.or zq4) zb3 (za0 1)) (za0 1))) zb3) zb3) zb3))
 exact zb8 (zd4 (zc6 zl0 (zc6 (od_mul.or zq4) (zc6 zl0 (zc6 (od_add.or zn8) (zc6 (od_mul.or zq4) (za0 2) (za0 2)) (zc6 (od_mul.or zq4) zb3 (za0 1))) zb3) zb3) zb3))
theorem zap8:FnScope ["_law_script", "_law_at", "_law_many", "_law_top", "_law_found", "_law_cell", "_law_k"] ["_law_script", "_law_at", "_law_many", "_law_top"] (za9 zr9):=zk2 rfl rfl rfl rfl (by decide +kernel)
noncomputable def zbc0:DS:=(dIfS (dBo (d2 kEq (d2 qR (dT1 (zc2 zc0) (za3 (dVar 0) (za3 (dC (.int 0)) dNil))) (dC (.int 2))) (dC (.int 0)))) (dSeq (dApp 4 (d2 qR (dVar 5) (dVar 3)))
  (dAsg 5 (d2 qV (dVar 5) (dVar 3)))) (dApp 4 (d2 qR (dT1 (zc2 zj4) (za3 (dT1 (zc2 zc0) (za3 (dVar 0) (za3 (d2 qA (dVar 1) (d2 qR (dVar 6) (dC (.int 8)))) dNil))) (za3 (d2 qA (dVar 1) (dVar 6)) dNil))) (dVar 3))))
noncomputable def zx5:DS :=
 (dSeq (dAsg 4 (dT1 kLst dNil)) (dSeq (dAsg 5 (dT1 (zc2 zc0) (za3 (dVar 0) (za3 (dVar 1) dNil)))) (dSeq (zar0 (za2 6) (dVar 2) zbc0) (zar1 4))))
def zj3:List D→Option Ev:=mkG 4 ["_law_script", "_law_at", "_law_many", "_law_top", "_law_found", "_law_cell", "_law_k"] zx5
theorem zaq3 (Fn:L2.Fun K "_law_row" "_law_row" zr9 ad fd) (bu:Blt mg) (c_law_cell_at:Cal P w K mg base "_law_cell_at" 1 zc0) (c_law_mixed:Cal P w K mg base "_law_mixed" 1 zj4):FnOk P w K mg base CX0 2 ad fd ["_law_script", "_law_at", "_law_many", "_law_top"] (spD K zj3):=by
 have SC:=zap8
 refine zg5 (k:=1) Fn SC (fun _ _ e=>ze1 e) zx5 (fun _ _ e=>zf8 e) (fun cdv A outer s H E F hr=>?_)
 refine za5 ?_ ?_
 ·exact (zc8 (i:=4) SC.nd rfl (zb5 rfl) (zi9 za4))
 refine za5 ?_ ?_
 ·exact (zc8 (i:=5) SC.nd rfl (zb5 rfl) (zb6 c_law_cell_at (hr.mono (by decide)) (za1 (za0 0) (za1 (za0 1) za4))))
 refine za5 ?_ ?_
 ·exact (zam9 PassesOwn.never rfl rfl bu.n_range (za0 2) (zc3 (i:=6) SC.nd rfl (zb5 rfl)) (zc5 6) (zb8 (zq2 (zg7 (zav9 hr.units) (zc6 zl0 (zb6 c_law_cell_at (hr.mono (by decide)) (za1 (za0 0) (za1 zb3 za4))) zb3) zb3) (za5 (zt0 4 (zc6 zl0 (za0 5) (za0 3)))
  (zb8 (zc8 (i:=5) SC.nd rfl (zb5 rfl) (zc6 zaw0 (za0 5) (za0 3))))) (zb8 (zt0 4 (zc6 zl0 (zb6 c_law_mixed (hr.mono (by decide)) (za1 (zb6 c_law_cell_at (hr.mono (by decide)) (za1 (za0 0) (za1 (zc6 (od_add.or zn8) (za0 1) (zc6 zl0 (za0 6) zb3)) za4))) (za1 (zc6 (od_add.or zn8) (za0 1) (za0 6)) za4))) (za0 3)))))))
 exact zb8 (zu6 4)
theorem zae3:FnScope ["_law_one", "_law_other"] ["_law_one", "_law_other"] (za9 zm3):=zk2 rfl rfl rfl rfl (by decide +kernel)
noncomputable def zx4:DS :=
 (dRet (d2 qA (dT1 kAbs (za3 (d2 qS (d2 qR (dVar 0) (dC (.int 4))) (d2 qR (dVar 1) (dC (.int 4)))) dNil)) (dT1 kAbs (za3 (d2 qS (d2 qV (dVar 0) (dC (.int 4))) (d2 qV (dVar 1) (dC (.int 4)))) dNil))))
def zh1:List D→Option Ev:=mkG 2 ["_law_one", "_law_other"] zx4
theorem zaf5 (Fn:L2.Fun K "_law_steps" "_law_steps" zm3 ad fd) (bu:Blt mg) :FnOk P w K mg base CX0 1 ad fd ["_law_one", "_law_other"] (spD K zh1):=by
 have SC:=zae3
 refine zg5 (k:=0) Fn SC (fun _ _ e=>ze1 e) zx4 (fun _ _ e=>zf8 e) (fun cdv A outer s H E F hr=>?_)
 exact zb8 (zd4 (zc6 (od_add.or zn8) (zb2 cd_abs rfl bu.n_abs bt_abs (za1 (zc6 zan4 (zc6 zl0 (za0 0) zb3) (zc6 zl0 (za0 1) zb3)) za4)) (zb2 cd_abs rfl bu.n_abs bt_abs (za1 (zc6 zan4 (zc6 zaw0 (za0 0) zb3) (zc6 zaw0 (za0 1) zb3)) za4))))
theorem zae4:FnScope ["_law_script", "_law_spots", "_law_factor"] ["_law_script"] (za9 zm4):=zk2 rfl rfl rfl rfl (by decide +kernel)
noncomputable def zx6:DS :=
 (dSeq (dAsg 1 (dT1 (zc2 zj3) (za3 (dVar 0) (za3 (dC (.int 1)) (za3 (d2 qA (dC (.int 1)) (d2 qR (dT1 (zc2 zc0) (za3 (dVar 0) (za3 (dC (.int 2)) dNil))) (dC (.int 9)))) (za3 (dC (.int 16)) dNil)))))) (dSeq (dAsg 2 (d2 kIx (dT1 kLst (za3 (dC (.int 1)) (za3 (dC (.int 7)) (za3 (d2 qP (dC (.int 10)) (dC (.int 9))) dNil)))) (d2 qR (dT1 (zc2 zc0) (za3 (dVar 0) (za3 (dC (.int 3)) dNil))) (dC (.int 3))))) (dRet (zi2 1 [2,1] (fsL (dVar 1)) (za2 0) zb4 (ze4 1 [1,0] (fsL (dVar 2)) (za2 0) zb4 (d2 qM (dVar 1) (dT1 (zc2 zh1) (za3 (dVar 2) (za3 (dVar 0) dNil)))))))))
def zg4:List D→Option Ev:=mkG 1 ["_law_script", "_law_spots", "_law_factor"] zx6
theorem zaf6 (Fn:L2.Fun K "_law_roads" "_law_roads" zm4 ad fd) (bu:Blt mg) (c_law_cell_at:Cal P w K mg base "_law_cell_at" 1 zc0) (c_law_row:Cal P w K mg base "_law_row" 2 zj3) (c_law_steps:Cal P w K mg base "_law_steps" 1 zh1):FnOk P w K mg base CX0 3 ad fd ["_law_script"] (spD K zg4):=by
 have SC:=zae4
 refine zg5 (k:=2) Fn SC (fun _ _ e=>ze1 e) zx6 (fun _ _ e=>zf8 e) (fun cdv A outer s H E F hr=>?_)
 refine za5 ?_ ?_
 ·exact (zc8 (i:=1) SC.nd rfl (zb5 rfl) (zb6 c_law_row (hr.mono (by decide)) (by refine za1 ?_ ?_ ?_;exact (za0 0);exact (by refine za1 ?_ ?_ ?_;exact zb3;exact (by refine za1 ?_ ?_ ?_;exact (zc6 (od_add.or zn8) zb3 (zc6 zl0 (zb6 c_law_cell_at (hr.mono (by decide)) (za1 (za0 0) (za1 zb3 za4))) zb3));exact (by refine za1 ?_ ?_ ?_;exact zb3;exact za4;exact (zo2 rfl));exact (zo2 rfl));exact (zo2 rfl));exact (zo2 rfl))))
 refine za5 ?_ ?_
 ·exact (zc8 (i:=2) SC.nd rfl (zb5 rfl) (ze3 (zi9 (za1 zb3 (za1 zb3 (za1 (zc6 od_pow zb3 zb3) za4)))) (zc6 zl0 (zb6 c_law_cell_at (hr.mono (by decide)) (za1 (za0 0) (za1 zb3 za4))) zb3)))
 exact zb8 (zd4 (zz9 1 [2,1] ["_law_one", "_law_factor", "_law_spots"] rfl (ze8 (za0 1)) (fun _ _ _ _ _=>(zc3 (i:=0) (show List.Nodup (["_law_one", "_law_factor", "_law_spots"]:List Str) by decide +kernel) rfl (zb5 rfl))) (fun _=>(zc5 0)) (fun _ _ _ _ _ _=>zd3) (fun _ _ _ _ _ _=>(zf7 1 [1,0] ["_law_other", "_law_factor", "_law_one"] rfl (ze8 (za0 2)) (fun _ _ _ _ _=>(zc3 (i:=0) (show List.Nodup (["_law_other", "_law_factor", "_law_one"]:List Str) by decide +kernel) rfl (zb5 rfl))) (fun _=>(zc5 0)) (fun _ _ _ _ _ _=>zd3) (fun _ _ _ _ _ _=>(zc6 (od_mul.or zq4) (za0 1) (zb6 c_law_steps (hr.mono (by decide)) (za1 (za0 2) (za1 (za0 0) za4)))))))))
theorem zaj6:FnScope ["_law_script", "_law_at", "_law_many", "_law_left", "_law_tour_here", "_law_number"] ["_law_script", "_law_at", "_law_many"] (za9 zp3):=zk2 rfl rfl rfl rfl (by decide +kernel)
def bdTo:DS:=(zac7 4 3 (d2 qR (dVar 5) (dT1 kLen (za3 (dVar 3) dNil))))
noncomputable def zt5:DS :=
 (dSeq (dAsg 3 (zq6 (za3 (dVar 2) dNil))) (dSeq (dAsg 4 (dT1 kLst dNil)) (dSeq (dFor (za2 5) (dT1 (zc2 zj3) (za3 (dVar 0) (za3 (dVar 1) (za3 (dVar 2) (za3 (dC (.int 60)) dNil))))) bdTo) (zar1 4))))
def zp9:List D→Option Ev:=mkG 3 ["_law_script", "_law_at", "_law_many", "_law_left", "_law_tour_here", "_law_number"] zt5
theorem zak1 (Fn:L2.Fun K "_law_tour" "_law_tour" zp3 ad fd) (bu:Blt mg) (c_law_row:Cal P w K mg base "_law_row" 2 zj3):FnOk P w K mg base CX0 3 ad fd ["_law_script", "_law_at", "_law_many"] (spD K zp9):=by
 have SC:=zaj6
 refine zg5 (k:=2) Fn SC (fun _ _ e=>ze1 e) zt5 (fun _ _ e=>zf8 e) (fun cdv A outer s H E F hr=>?_)
 refine za5 ?_ ?_
 ·exact (zc8 (i:=3) SC.nd rfl (zb5 rfl) (zs1 rfl rfl bu.n_list rfl bu.n_range (za1 (za0 2) za4)))
 refine za5 ?_ ?_
 ·exact (zc8 (i:=4) SC.nd rfl (zb5 rfl) (zi9 za4))
 refine za5 ?_ ?_
 ·exact (zab5 PassesOwn.never rfl (zb6 c_law_row (hr.mono (by decide)) (by refine za1 ?_ ?_ ?_;exact (za0 0);exact (by refine za1 ?_ ?_ ?_;exact (za0 1);exact (by refine za1 ?_ ?_ ?_;exact (za0 2);exact (by refine za1 ?_ ?_ ?_;exact zb3;exact za4;exact (zo2 rfl));exact (zo2 rfl));exact (zo2 rfl));exact (zo2 rfl))) (zc3 (i:=5) SC.nd rfl (zb5 rfl)) (zc5 5) (zb8 (zap9 4 3 (zc6 zl0 (za0 5) (zb2 zi0 rfl bu.n_len PySem.boot_len (za1 (za0 3) za4))))))
 exact zb8 (zu6 4)
theorem zaj7:FnScope ["_law_roads_here", "_law_tour_here"] ["_law_roads_here", "_law_tour_here"] (za9 zp4):=zk2 rfl rfl rfl rfl (by decide +kernel)
def zaa6:DS :=
 (dRet (dT1 kSum (za3 (ze4 1 [0,1] (fsR1 (dT1 kLen (za3 (dVar 1) dNil))) (za2 0) zb4 feLg) dNil)))
def zl9:List D→Option Ev:=mkG 2 ["_law_roads_here", "_law_tour_here"] zaa6
theorem zak2 (Fn:L2.Fun K "_law_long" "_law_long" zp4 ad fd) (bu:Blt mg) :FnOk P w K mg base CX0 1 ad fd ["_law_roads_here", "_law_tour_here"] (spD K zl9):=by
 have SC:=zaj7
 refine zg5 (k:=0) Fn SC (fun _ _ e=>ze1 e) zaa6 (fun _ _ e=>zf8 e) (fun cdv A outer s H E F hr=>?_)
 exact zb8 (zd4 (zb2 (zbb2 rfl) rfl bu.n_sum (by decide +kernel) (za1 (zf7 1 [0,1] ["_law_k", "_law_roads_here", "_law_tour_here"] rfl (zs0 rfl bu.n_range (zb2 zi0 rfl bu.n_len PySem.boot_len (za1 (za0 1) za4))) (fun _ _ _ _ _=>(zc3 (i:=0) (show List.Nodup (["_law_k", "_law_roads_here", "_law_tour_here"]:List Str) by decide +kernel) rfl (zb5 rfl))) (fun _=>(zc5 0)) (fun _ _ _ _ _ _=>zd3) (fun _ _ _ _ _ _=>(ze3 (ze3 (za0 1) (ze3 (za0 2) (zc6 zan4 (za0 0) zb3))) (ze3 (za0 2) (za0 0))))) za4)))
theorem sc_law:FnScope ["_law_script", "_law_roads_here", "_law_many", "_law_tour_here", "_law_tree", "_law_far", "_law_long_here", "_law_last", "_law_count", "_law_centres", "_law_apart", "_law_reach", "_law_k"] ["_law_script"] (za9 s_law):=zk2 rfl rfl rfl rfl (by decide +kernel)
noncomputable def bdC:DS:=(dSeq (zba1 (zj0 2 (zc7 (zaa5 9) (zc7 (zaa5 10) zk4))) (dT1 (zc2 zd6) (za3 (dVar 1) (za3 (dVar 8) dNil))))
  (dSeq (dAsg 11 (dT1 (zc2 zf4) (za3 (dVar 1) (za3 (dVar 9) dNil))))
  (dSeq (dIfS (dOr (dBo (d2 qG (dVar 11) (dVar 7))) (dAnd (dBo (d2 qG (dVar 11) (dC (.int 0)))) (dBo (d2 qL (dVar 6) (d2 qM (dT1 kLen (za3 (dVar 10) dNil)) (dVar 11)))))) (dRet (dC (.bl false))) zt6)
  (dAsg 7 (dVar 11)))))
noncomputable def bdK:DS:=(dIfS (dBo (d2 qL (d2 qM (dC (.int 2)) (dT1 (zc2 zl9) (za3 (dVar 1) (za3 (dT1 (zc2 zp9) (za3 (dVar 0) (za3 (d2 qA (dC (.int 5)) (dVar 12)) (za3 (dVar 2) dNil)))) dNil)))) (dVar 6))) (dRet (dC (.bl false))) zt6)
def feT:DE:=(d2 kIx (d2 kIx (dVar 2) (dVar 0)) (dVar 1))
noncomputable def g_law:DS :=
 (dSeq (dAsg 1 (dT1 (zc2 zg4) (za3 (dVar 0) dNil))) (dSeq (dAsg 2 (dT1 kLen (za3 (dVar 1) dNil))) (dSeq (dIfS (dBo (d2 zao1 (dT1 (zc2 zh2) (za3 (zi2 1 [] (fsL (dVar 1)) (za2 0) zb4 (dT1 zac3 (za3 (dVar 0) dNil))) dNil)) (dC (.bl true)))) (dRet (dC (.bl false))) zt6) (dSeq (zba0 (zj0 2 (zc7 (za2 3) (zc7 (za2 4) zk4))) (dT1 (zc2 ze2) (za3 (dVar 1) dNil))) (dSeq (dAsg 5 (dT1 (zo1 zn0) (za3 (ze4 1 [] (fsL (dVar 1)) (za2 0) zb4 (dT1 (zo1 zn0) (za3 (dVar 0) dNil))) dNil))) (dSeq (dAsg 6 (dT1 (zc2 zn6) (za3 (dVar 1) (za3 (dVar 3) dNil)))) (dSeq (dIfS (dOr (dBo (d2 kNe (dVar 6) (dT1 (zc2 zl9) (za3 (dVar 1) (za3 (dVar 3) dNil))))) (dOr (dBo (d2 qL (dVar 6) (d2 qM (dC (.int 2)) (dVar 5)))) (dBo (d2 qL (dT1 kSum (za3 (ze4 2 [1] (fsL (dVar 4)) (zj0 2 (zc7 (za2 0) (zc7 (za2 1) zk4))) zb4 feT) dNil)) (dVar 5))))) (dRet (dC (.bl false))) zt6) (dSeq (dAsg 7 (dVar 5)) (dSeq (zaz8 (za2 8) (dC (.int 1)) (d2 qA (dVar 2) (dC (.int 1))) bdC) (dSeq (dIfS (dBo (d2 kNe (dVar 7) (dC (.int 0)))) (dRet (dC (.bl false))) zt6) (dSeq (zar0 (za2 12) (d2 qA (dC (.int 1)) (dT1 qN (za3 (dC (.int 40)) (za3 (dT1 kLen (za3 (dVar 0) dNil)) dNil)))) bdK) (dRet (dC (.bl true))))))))))))))
noncomputable def G_law:List D→Option Ev:=mkG 1 ["_law_script", "_law_roads_here", "_law_many", "_law_tour_here", "_law_tree", "_law_far", "_law_long_here", "_law_last", "_law_count", "_law_centres", "_law_apart", "_law_reach", "_law_k"] g_law
theorem ok_law (Fn:L2.Fun K "law" "law" s_law ad fd) (bu:Blt mg) (c_law_roads:Cal P w K mg base "_law_roads" 3 zg4) (c_are_roads:Cal P w K mg base "are_roads" 2 zh2) (c_tour_by_tree:Cal P w K mg base "tour_by_tree" 2 ze2) (c_length_of:Cal P w K mg base "length_of" 1 zn6) (c_law_long:Cal P w K mg base "_law_long" 1 zl9) (c_centres_apart:Cal P w K mg base "centres_apart" 6 zd6) (c_reach_of:Cal P w K mg base "reach_of" 2 zf4) (c_law_tour:Cal P w K mg base "_law_tour" 3 zp9):FnOk P w K mg base CX0 7 ad fd ["_law_script"] (spD K G_law):=by
 have SC:=sc_law
 refine zg5 (k:=6) Fn SC (fun _ _ e=>ze1 e) g_law (fun _ _ e=>zf8 e) (fun cdv A outer s H E F hr=>?_)
 refine za5 ?_ ?_
 ·exact (zc8 (i:=1) SC.nd rfl (zb5 rfl) (zb6 c_law_roads (hr.mono (by decide)) (za1 (za0 0) za4)))
 refine za5 ?_ ?_
 ·exact (zc8 (i:=2) SC.nd rfl (zb5 rfl) (zb2 zi0 rfl bu.n_len PySem.boot_len (za1 (za0 1) za4)))
 refine za5 ?_ ?_
 ·exact (zq2 (zg7 od_isntB (zb6 c_are_roads (hr.mono (by decide)) (za1 (zz9 1 [] ["_law_row_here"] rfl (ze8 (za0 1)) (fun _ _ _ _ _=>(zc3 (i:=0) (show List.Nodup (["_law_row_here"]:List Str) by decide +kernel) rfl (zb5 rfl))) (fun _=>(zc5 0)) (fun _ _ _ _ _ _=>zd3) (fun _ _ _ _ _ _=>(zav3 cd_list rfl bu.n_list bt_list (za1 (za0 0) za4)))) za4)) zq3) (zb8 (zd4 zq3)) zm9)
 refine za5 ?_ ?_
 ·exact (psd_asg (zb6 c_tour_by_tree (hr.mono (by decide)) (za1 (za0 1) za4)) (zaf1 rfl (zh6 (zc3 (i:=3) SC.nd rfl (zb5 rfl)) (zh6 (zc3 (i:=4) SC.nd rfl (zb5 rfl)) zw0))) (zam2 (zj7 (zc5 3) (zj7 (zc5 4) zab2))))
 refine za5 ?_ ?_
 ·exact (zc8 (i:=5) SC.nd rfl (zb5 rfl) (zb2 (zal4 rfl) rfl bu.n_max (by decide +kernel) (za1 (zf7 1 [] ["_law_row_here"] rfl (ze8 (za0 1)) (fun _ _ _ _ _=>(zc3 (i:=0) (show List.Nodup (["_law_row_here"]:List Str) by decide +kernel) rfl (zb5 rfl))) (fun _=>(zc5 0)) (fun _ _ _ _ _ _=>zd3) (fun _ _ _ _ _ _=>(zb2 (zal4 rfl) rfl bu.n_max (by decide +kernel) (za1 (za0 0) za4)))) za4)))
 refine za5 ?_ ?_
 ·exact (zc8 (i:=6) SC.nd rfl (zb5 rfl) (zb6 c_length_of (hr.mono (by decide)) (za1 (za0 1) (za1 (za0 3) za4))))
 refine za5 ?_ ?_
 ·exact (zq2 (L2.PW.pt (zau0 (zg7 (od_ne hr.units) (za0 6) (zb6 c_law_long (hr.mono (by decide)) (za1 (za0 1) (za1 (za0 3) za4)))) (zau0 (zg7 zaq4 (za0 6) (zc6 (od_mul.or zq4) zb3 (za0 5))) (zat9 (zg7 zaq4 (zb2 (zbb2 rfl) rfl bu.n_sum (by decide +kernel) (za1 (zf7 2 [1] ["_law_one", "_law_other", "_law_roads_here"] rfl (ze8 (za0 4)) (fun _ _ _ _ _=>(zaf1 rfl (zh6 (zc3 (i:=0) (show List.Nodup (["_law_one", "_law_other", "_law_roads_here"]:List Str) by decide +kernel) rfl (zb5 rfl)) (zh6 (zc3 (i:=1) (show List.Nodup (["_law_one", "_law_other", "_law_roads_here"]:List Str) by decide +kernel) rfl (zb5 rfl)) zw0)))) (fun _=>(zam2 (zj7 (zc5 0) (zj7 (zc5 1) zab2)))) (fun _ _ _ _ _ _=>zd3) (fun _ _ _ _ _ _=>(ze3 (ze3 (za0 2) (za0 0)) (za0 1)))) za4)) (za0 5)))))) (zb8 (zd4 zq3)) zm9)
 refine za5 ?_ ?_
 ·exact (zc8 (i:=7) SC.nd rfl (zb5 rfl) (za0 5))
 refine za5 ?_ ?_
 ·exact (psd_rng2 PassesOwn.never rfl rfl bu.n_range zb3 (zc6 (od_add.or zn8) (za0 2) zb3) (zc3 (i:=8) SC.nd rfl (zb5 rfl)) (zc5 8) (za5 (psd_asgN (zb6 c_centres_apart (hr.mono (by decide)) (za1 (za0 1) (za1 (za0 8) za4))) (zaf1 rfl (zh6 (zc3 (i:=9) SC.nd rfl (zb5 rfl)) (zh6 (zc3 (i:=10) SC.nd rfl (zb5 rfl)) zw0))) (tn_tup (zam1 (zas7 9) (zam1 (zas7 10) tns_nil))))
  (za5 (zc8 (i:=11) SC.nd rfl (zb5 rfl) (zb6 c_reach_of (hr.mono (by decide)) (za1 (za0 1) (za1 (za0 9) za4))))
  (za5 (zq2 (L2.PW.pt (zau0 (zg7 od_gt (za0 11) (za0 7)) (zat9 (L2.PW.pt (pwd_and (zg7 od_gt (za0 11) zb3) (pwd_and1 (zg7 zaq4 (za0 6) (zc6 (od_mul.or zq4) (zb2 zi0 rfl bu.n_len PySem.boot_len (za1 (za0 10) za4)) (za0 11))))))))) (zb8 (zd4 zq3)) zm9)
  (zb8 (zc8 (i:=7) SC.nd rfl (zb5 rfl) (za0 11)))))))
 refine za5 ?_ ?_
 ·exact (zq2 (zg7 (od_ne hr.units) (za0 7) zb3) (zb8 (zd4 zq3)) zm9)
 refine za5 ?_ ?_
 ·exact (zam9 PassesOwn.never rfl rfl bu.n_range (zc6 (od_add.or zn8) zb3 (zb2 (cd_min rfl) rfl bu.n_min (by decide +kernel) (za1 zb3 (za1 (zb2 zi0 rfl bu.n_len PySem.boot_len (za1 (za0 0) za4)) za4)))) (zc3 (i:=12) SC.nd rfl (zb5 rfl)) (zc5 12) (zb8 (zq2 (zg7 zaq4 (zc6 (od_mul.or zq4) zb3 (zb6 c_law_long (hr.mono (by decide)) (za1 (za0 1) (za1 (zb6 c_law_tour (hr.mono (by decide)) (za1 (za0 0) (za1 (zc6 (od_add.or zn8) zb3 (za0 12)) (za1 (za0 2) za4)))) za4)))) (za0 6)) (zb8 (zd4 zq3)) zm9)))
 exact zb8 (zd4 zq3)
end KX
namespace KX
open PySem.Spec L2 DL
theorem cell_of (ns:List Int) (hb:∀n∈ns,n.natAbs<bndS) (k:Nat):∃v:Int,v.natAbs<bndS∧zc0 [.lst (ns.map D.int),.int (k:Int)]=some (.cl (.int v)):=by
 have hbig:=bnd_big
 by_cases h:k<ns.length
 ·refine⟨ns[k],hb _ (zbh7 h),?_⟩
  have h1:((k:Int)<((ns.map D.int).length:Int)):=by simp;lia
  have h2:atI (ns.map D.int) (k:Int)=some (.int ns[k]):=by
   unfold atI ixN
   rw [if_pos (by lia),if_pos h1]
   simp [h]
  show (zf3 [.val (.lst (ns.map D.int)),.val (.int (k:Int))]).bind zg9=_
  simp only [zf3,dSeq,dIfS,dBo,d2,dVar,dT1,za3,dNil,kLen,Ev.d,kI,tt2,zbc8,zbp1,zbk2,if_true]
  rw [decide_eq_true h1]
  simp [dRet,d2,dVar,kIx,Ev.d,h2,zg9,Ev.ok]
 ·refine⟨0,by simp;lia,?_⟩
  have h1 : ¬ ((k:Int)<((ns.map D.int).length:Int)):=by simp;lia
  show (zf3 [.val (.lst (ns.map D.int)),.val (.int (k:Int))]).bind zg9=_
  simp only [zf3,dSeq,dIfS,dBo,d2,dVar,dT1,za3,dNil,kLen,Ev.d,kI,tt2,zbc8,zbp1,zbk2,if_true]
  rw [decide_eq_false h1]
  simp [dRet,zt6,dC,zg9]
theorem zy5 (ns:List Int) (hb:∀n∈ns,n.natAbs<bndS) (k:Nat):∃v:Int,v.natAbs<bndS∧zc2 zc0 [.cl (.lst (ns.map D.int)),.cl (.int (k:Int))]=some (.cl (.int v)):=by
 obtain⟨v,h,e⟩:=cell_of ns hb k
 exact⟨v,h,by simp [zc2,Ev.d,e,upEv,Ev.ok]⟩
theorem zad0 (ns:List Int) (hb:∀n∈ns,n.natAbs<bndS) (k:Nat) (r:Th):∃v:Int,v.natAbs<bndS∧(dT1 (zc2 zc0) (za3 (dVar 0) (za3 (dC (.int (k:Int))) dNil))) (.val (.lst (ns.map D.int))::r)=some (.cl (.int v)):=by
 obtain⟨v,h,e⟩:=zy5 ns hb k
 exact⟨v,h,(zq0 (ra:=.cl (.lst (ns.map D.int))) (rb:=.cl (.int (k:Int))) rfl rfl).trans e⟩
theorem fm {a b:Int} (h:0<b):0≤a.fmod b∧a.fmod b<b:=fmod_pos h
theorem mixed_is (c:Int) {k:Int} (k0:0≤k) (k1:k<100000):∃m:Int,zj4 [.int c,.int k]=some (.cl (.int m)):=by
 show ∃m,(zr0 [.val (.int c),.val (.int k),.no]).bind zg9=some (.cl (.int m))
 have q1:=fm (a:=c) (b:=2147483647) (by decide)
 have kk:0≤48271*k*k∧48271*k*k≤48271*100000*100000:=by
  have h1:0≤48271*k:=by lia
  have h2:48271*k*k≤48271*100000*k:=zbm7 (by lia) k0
  exact⟨zbr6 h1 k0,by lia⟩
 have e1:=zl2 (zq5 (zp0 (zp0 (zl2 (fa:=dVar 0) (fb:=dC (.int 2147483647)) (t:=[.val (.int c),.val (.int k),.no]) (a:=c) (b:=2147483647) rfl rfl (by decide)) (zq5 (zq5 (fa:=dC (.int 48271)) (fb:=dVar 1) (t:=[.val (.int c),.val (.int k),.no]) (a:=48271) (b:=k) rfl rfl (zi8 (by decide) (by decide)) (zi8 (by lia) (by lia))) (rfl:dVar 1 _=some (.cl (.int k))) (zi8 (by lia) (by lia)) (zi8 (by lia) (by lia)))) (rfl:dC (.int 11) _=some (.cl (.int 11)))) (rfl:dC (.int 69621) _=some (.cl (.int 69621))) (zi8 (by lia) (by lia)) (zi8 (by decide) (by decide))) (rfl:dC (.int 2147483629) _=some (.cl (.int 2147483629))) (by decide)
 have E1:=zl8 (i:=2) e1 (by simp)
 generalize hn:(Int.fmod ((c.fmod 2147483647+48271*k*k+11)*69621) 2147483629)=n at E1
 have q2:0≤n∧n<2147483629:=by rw [← hn];exact fm (by decide)
 have nn:0≤n*n∧n*n≤2147483629*2147483629:=by
  have h2:n*n≤2147483629*n:=zbm7 (by lia) q2.1
  exact⟨zbr6 q2.1 q2.1,by lia⟩
 let t:Th:=[.val (.int c),.val (.int k),.val (.int n)]
 have e2:=zl2 (zp0 (zq5 (fa:=dVar 2) (fb:=dVar 2) (t:=t) (a:=n) (b:=n) rfl rfl (zi8 (by lia) (by lia)) (zi8 (by lia) (by lia))) (zq5 (fa:=dC (.int 39373)) (fb:=dVar 1) (t:=t) (a:=39373) (b:=k) rfl rfl (zi8 (by decide) (by decide)) (zi8 (by lia) (by lia)))) (rfl:dC (.int 2147483587) t=some (.cl (.int 2147483587))) (by decide)
 have q3:=fm (a:=n*n+39373*k) (b:=2147483587) (by decide)
 have e3:=zl2 (zq5 e2 (rfl:dC (.int 16807) t=some (.cl (.int 16807))) (zi8 (by lia) (by lia)) (zi8 (by decide) (by decide))) (rfl:dC (.int 2147483549) t=some (.cl (.int 2147483549))) (by decide)
 exact⟨_,bnd ((zc1 E1).trans (zn7 e3))⟩
theorem turn_row (ns:List Int) (hb:∀n∈ns,n.natAbs<bndS) (at':Nat) (ha:at'≤1000) (s2:Sl) {top:Int} (t0:0<top) (t1:top≤1000000000000000) (xs:List Int) (hl:xs.length<100000) (cell:Int) (k:Nat) (hk:k<1000) :
  ∃(x cell':Int),0≤x∧x<top∧zbc0 [.val (.lst (ns.map D.int)),.val (.int (at':Int)),s2,.val (.int top),.own (xs.map D.int),.val (.int cell),.val (.int (k:Int))]=some (.nx [.val (.lst (ns.map D.int)),.val (.int (at':Int)),s2,.val (.int top),.own ((xs++[x]).map D.int),.val (.int cell'),.val (.int (k:Int))]):=by
 let t:Th:=[.val (.lst (ns.map D.int)),.val (.int (at':Int)),s2,.val (.int top),.own (xs.map D.int),.val (.int cell),.val (.int (k:Int))]
 obtain⟨v0,_,c0⟩:=zad0 ns hb 0 [.val (.int (at':Int)),s2,.val (.int top),.own (xs.map D.int),.val (.int cell),.val (.int (k:Int))]
 have c:=eqI_of (zl2 c0 (fb:=dC (.int 2)) rfl (by decide)) (fb:=dC (.int 0)) rfl
 unfold zbc0
 by_cases z:v0.fmod 2=0
 ·refine⟨cell.fmod top,cell.fdiv top,(fm t0).1,(fm t0).2,?_⟩
  refine (ifs_t c (decide_eq_true z)).trans ?_
  have e1:=zy8 (i:=4) t (xs:=xs) (zl2 (fa:=dVar 5) (fb:=dVar 3) (t:=t) (a:=cell) (b:=top) rfl rfl (by lia)) rfl hl
  refine (zc1 e1).trans ?_
  exact zl8 (i:=5) (zaz1 (fa:=dVar 5) (fb:=dVar 3) (a:=cell) (b:=top) rfl rfl (by lia) (zi8 (by lia) (by lia))) (by simp [t])
 ·have q8:=fm (a:=(k:Int)) (b:=8) (by decide)
  obtain⟨r,hr⟩:∃r:Nat,(at':Int)+(k:Int).fmod 8=(r:Int):=⟨((at':Int)+(k:Int).fmod 8).toNat,by lia⟩
  obtain⟨v,_,ev⟩:=zy5 ns hb r
  have ec:(dT1 (zc2 zc0) (za3 (dVar 0) (za3 (d2 qA (dVar 1) (d2 qR (dVar 6) (dC (.int 8)))) dNil))) t=some (.cl (.int v)):=by
   have:=zp0 (fa:=dVar 1) (t:=t) (a:=(at':Int)) rfl (zl2 (fa:=dVar 6) (fb:=dC (.int 8)) (t:=t) (a:=(k:Int)) (b:=8) rfl rfl (by decide))
   rw [hr]at this
   exact (zq0 (ra:=.cl (.lst (ns.map D.int))) rfl this).trans ev
  obtain⟨m,em⟩:=mixed_is v (k:=(at':Int)+(k:Int)) (by lia) (by lia)
  have em':(dT1 (zc2 zj4) (za3 (dT1 (zc2 zc0) (za3 (dVar 0) (za3 (d2 qA (dVar 1) (d2 qR (dVar 6) (dC (.int 8)))) dNil))) (za3 (d2 qA (dVar 1) (dVar 6)) dNil))) t=some (.cl (.int m)) :=
   (zq0 ec (zp0 (fa:=dVar 1) (fb:=dVar 6) (t:=t) (a:=(at':Int)) (b:=(k:Int)) rfl rfl)).trans (zr5 em rfl)
  refine⟨m.fmod top,cell,(fm t0).1,(fm t0).2,?_⟩
  refine (ifs_f c (decide_eq_false z)).trans ?_
  exact zy8 (i:=4) t (xs:=xs) (zl2 em' (fb:=dVar 3) (b:=top) rfl (by lia)) rfl hl
theorem zan8 (ns:List Int) (hb:∀n∈ns,n.natAbs<bndS) (at':Nat) (ha:at'≤1000) (s2:Sl) {top:Int} (t0:0<top) (t1:top≤1000000000000000):∀(l:List Nat) (xs:List Int) (cell:Int) (s6:Sl),(∀k∈l,k<1000)→xs.length+l.length<100000→(∀x∈xs,0≤x∧x<top) →
  ∃(ys:List Int) (cell':Int) (u6:Sl),ys.length=xs.length+l.length∧(∀x∈ys,0≤x∧x<top)∧forD (za2 6) zbc0 (l.map fun (k:Nat)=>D.int (k:Int)) [.val (.lst (ns.map D.int)),.val (.int (at':Int)),s2,.val (.int top),.own (xs.map D.int),.val (.int cell),s6]=some (.nx [.val (.lst (ns.map D.int)),.val (.int (at':Int)),s2,.val (.int top),.own (ys.map D.int),.val (.int cell'),u6])
 |[],xs,cell,s6,_,_,hx=>⟨xs,cell,s6,rfl,hx,rfl⟩
 |k::l,xs,cell,s6,hk,hl,hx=>by
  simp only [zbf4]at hl
  obtain⟨x,cell',x0,x1,e⟩:=turn_row ns hb at' ha s2 t0 t1 xs (by lia) cell k (hk k (zbc9 ..))
  obtain⟨ys,c2,u6,yl,yr,ih⟩:=zan8 ns hb at' ha s2 t0 t1 l (xs++[x]) cell' (.val (.int (k:Int))) (fun j hj=>hk j (zbc6 _ hj)) (by simp only [zbf0,zbg3];lia) (fun y hy=>by
   rcases zbd0.mp hy with w | w
   ·exact hx y w
   ·rw [zbd3]at w;subst w;exact⟨x0,x1⟩)
  refine⟨ys,c2,u6,by simp only [zbf0,zbg3]at yl;simp only [zbf4];lia,yr,?_⟩
  have e0:za2 6 (.int (k:Int)) [.val (.lst (ns.map D.int)),.val (.int (at':Int)),s2,.val (.int top),.own (xs.map D.int),.val (.int cell),s6]=some [.val (.lst (ns.map D.int)),.val (.int (at':Int)),s2,.val (.int top),.own (xs.map D.int),.val (.int cell),.val (.int (k:Int))]:=rfl
  simp only [zbd7,forD,e0,zbc8,e]
  exact ih
theorem row_of (ns:List Int) (hb:∀n∈ns,n.natAbs<bndS) (at' many:Nat) (ha:at'≤1000) (hm:many≤1000) {q:Int} (hq:0<q) (hs:q≤1000000000000000):∃xs:List Int,xs.length=many∧(∀x∈xs,0≤x∧x<q)∧zj3 [.lst (ns.map D.int),.int (at':Int),.int (many:Int),.int q]=some (.nw (xs.map D.int)):=by
 show ∃xs:List Int,xs.length=many∧(∀x∈xs,0≤x∧x<q)∧(zx5 [.val (.lst (ns.map D.int)),.val (.int (at':Int)),.val (.int (many:Int)),.val (.int q),.no,.no,.no]).bind zg9=_
 obtain⟨v,_,ev⟩:=zy5 ns hb at'
 have E1:dAsg 4 (dT1 kLst dNil) [.val (.lst (ns.map D.int)),.val (.int (at':Int)),.val (.int (many:Int)),.val (.int q),.no,.no,.no]=some (.nx [.val (.lst (ns.map D.int)),.val (.int (at':Int)),.val (.int (many:Int)),.val (.int q),.own (([]:List Int).map D.int),.no,.no]):=rfl
 have E2:dAsg 5 (dT1 (zc2 zc0) (za3 (dVar 0) (za3 (dVar 1) dNil))) [.val (.lst (ns.map D.int)),.val (.int (at':Int)),.val (.int (many:Int)),.val (.int q),.own (([]:List Int).map D.int),.no,.no]=some (.nx [.val (.lst (ns.map D.int)),.val (.int (at':Int)),.val (.int (many:Int)),.val (.int q),.own (([]:List Int).map D.int),.val (.int v),.no]) :=
  zl8 (i:=5) ((zq0 (ra:=.cl (.lst (ns.map D.int))) (rb:=.cl (.int (at':Int))) rfl rfl).trans ev) (by simp)
 obtain⟨ys,c2,u6,yl,yr,e⟩:=zan8 ns hb at' ha (.val (.int (many:Int))) hq hs (zbf2 many) [] v .no (fun k hk=>by have:=zbl4.mp hk;lia) (by simp;lia) (fun x hx=>by cases hx)
 have E3:=(zat5 (k0:=za2 6) (b:=zbc0) (t:=[.val (.lst (ns.map D.int)),.val (.int (at':Int)),.val (.int (many:Int)),.val (.int q),.own (([]:List Int).map D.int),.val (.int v),.no]) (f:=dVar 2) (r:=.cl (.int (many:Int))) (n:=many) rfl rfl (by lia))
 have en:(zb7 many).map D.int=(zbf2 many).map fun (k:Nat)=>D.int (k:Int):=by unfold zb7;rw [zbj8];rfl
 rw [en]at E3
 refine⟨ys,by simpa using yl,yr,bnd ?_⟩
 refine (zc1 E1).trans ?_
 refine (zc1 E2).trans ?_
 refine (zc1 (E3.trans e)).trans ?_
 rfl
theorem zap1 (ns:List Int) (hb:∀n∈ns,n.natAbs<bndS) (at' many:Nat) (ha:at'≤1000) (hm:many≤1000) {q:Int} (hq:0<q) (hs:q≤1000000000000000):∃xs:List Int,xs.length=many∧(∀x∈xs,0≤x∧x<q)∧zc2 zj3 [.cl (.lst (ns.map D.int)),.cl (.int (at':Int)),.cl (.int (many:Int)),.cl (.int q)]=some (.nw (xs.map D.int)):=by
 obtain⟨xs,h1,h2,e⟩:=row_of ns hb at' many ha hm hq hs
 exact⟨xs,h1,h2,by simp [zc2,Ev.d,e,upEv,Ev.ok]⟩
theorem zaa0 {n:Nat}{M:List (List Int)}{C:List Int}{p:Int} (S:Sq n M) (I:CIn n C) (hn:C.length≤50000) (p0:0≤p) (p1:p<(n:Int)):ze7 [mD M,.lst (C.map D.int),.int p]=some (.cl (.int (nr M C p))):=by
 show (zk6 [.val (mD M),.val (.lst (C.map D.int)),.val (.int p)]).bind zg9=_
 exact bnd (zn7 (low_of (fr:=dVar 1) (fp:=dVar 2) (f:=dVar 1) (r:=.cl (.lst (C.map D.int))) (b:=true) (c:=[mD M,.int p]) S I hn p0 p1 rfl rfl rfl (fun _=>rfl) (fun _=>rfl)))
theorem reach_is {n:Nat}{M:List (List Int)}{C:List Int} (S:Sq n M) (I:CIn n C) (hn:C.length≤50000) (n0:0<n) (n1:n≤50000):zf4 [mD M,.lst (C.map D.int)]=some (.cl (.int (zu2 ((zb7 n).map (nr M C))))):=by
 show (zt4 [.val (mD M),.val (.lst (C.map D.int))]).bind zg9=_
 have ln:=zn2 (f:=dVar 0) (t:=[.val (mD M),.val (.lst (C.map D.int))]) (r:=.cl (mD M)) rfl rfl
 rw [S.len]at ln
 refine bnd (zn7 (zak8 (L:=(zb7 n).map (nr M C)) (zah9 (b:=true) (c:=[mD M,.lst (C.map D.int)]) ln n1 rfl fun x hx=>?_) rfl (by rw [zbd9,ze0];exact n0)))
 exact (t3_of (ra:=.cl (mD M)) (rb:=.cl (.lst (C.map D.int))) (rc:=.cl (.int x)) rfl rfl rfl).trans (zr5 (zaa0 S I hn (zf2 hx).1 (zf2 hx).2) rfl)
theorem zaw2 {n:Nat}{M:List (List Int)}{C:List Int} (S:Sq n M) (I:CIn n C) (hn:C.length≤50000) (n1:n≤50000) {y:Int}{l:List Int} (ho:oth n C=y::l):ze6 [mD M,.lst (C.map D.int)]=some (.cl (.int (l.foldl (stG (nr M C)) y))):=by
 show (zn4 [.val (mD M),.val (.lst (C.map D.int)),.no]).bind zg9=_
 have ln:=zn2 (f:=dVar 0) (t:=[.val (mD M),.val (.lst (C.map D.int)),.no]) (r:=.cl (mD M)) rfl rfl
 rw [S.len]at ln
 have e1:(ze4 1 [1] (fsR1 (dT1 kLen (za3 (dVar 0) dNil))) (za2 0) (dBo (d2 kNin (dVar 0) (dVar 1))) (dVar 0)) [.val (mD M),.val (.lst (C.map D.int)),.no]=some (.nw ((oth n C).map D.int)) :=
  zba6 (b:=true) (c:=[.lst (C.map D.int)]) ln n1 rfl fun x _=>nin_of (fa:=dVar 0) (fb:=dVar 1) (t:=[.val (.int x),.val (.lst (C.map D.int))]) (r1:=.cl (.int x)) (r2:=.cl (.lst (C.map D.int))) x C rfl rfl rfl rfl
 have E1:=zy7 (i:=2) e1 (by simp)
 refine bnd ((zc1 E1).trans (zn7 ?_))
 refine key_of (W:=nr M C) (x:=y) (l:=l) (cs:=[mD M,.lst (C.map D.int)]) (b:=true) (r:=.tm (.lst ((oth n C).map D.int))) rfl (by show D.lst ((oth n C).map D.int)=_;rw [ho]) rfl fun x hx=>?_
 have hx':x∈oth n C:=by rw [ho];exact hx
 exact (t3_of (ra:=.cl (mD M)) (rb:=.cl (.lst (C.map D.int))) (rc:=.cl (.int x)) rfl rfl rfl).trans (zr5 (zaa0 S I hn (zt2 hx').1 (zt2 hx').2.1) rfl)
def nxC (n:Nat) (M:List (List Int)) (C:List Int):Int:=match oth n C with
 |[]=>0
 |y::l=>l.foldl (stG (nr M C)) y
def cN (n:Nat) (M:List (List Int)):Nat→List Int
 |0=>[0]
 |k+1=>cN n M k++[nxC n M (cN n M k)]
theorem zo9 (n:Nat) (M:List (List Int)):∀k,(cN n M k).length=k+1
 |0=>rfl
 |k+1=>by rw [cN,zbf0,zo9 n M k];rfl
theorem nx_mem {n:Nat}{M:List (List Int)}{C:List Int} (h:C.length<n):nxC n M C∈oth n C:=by
 have:=zav6 h
 unfold nxC
 cases e:oth n C with
 |nil=>exact absurd e this
 |cons y l =>
  show l.foldl (stG (nr M C)) y∈y::l
  rcases zaj4 (W:=nr M C) l y with w | w
  ·rw [w];exact zbc9 ..
  ·exact zbc6 _ w
theorem nx_sg {n:Nat}{M:List (List Int)}{C:List Int} (h:C.length<n):sgL (nr M C) (oth n C)=some (nxC n M C):=by
 have:=zav6 h
 unfold nxC
 cases e:oth n C with
 |nil=>exact absurd e this
 |cons y l=>rfl
theorem zy6 {n:Nat} (M:List (List Int)):∀ {k},k<n→CIn n (cN n M k)
 |0,h=>⟨by simp [cN],fun x hx=>by simp [cN]at hx;lia⟩
 |k+1,h=>by
  have I:=zy6 M (n:=n) (k:=k) (by lia)
  have m:=zt2 (nx_mem (M:=M) (C:=cN n M k) (by rw [zo9];exact h))
  refine⟨by rw [zo9];lia,fun x hx=>?_⟩
  rcases zbd0.mp hx with w | w
  ·exact I.rg x w
  ·rw [zbd3]at w;subst w;exact⟨m.1,m.2.1⟩
theorem cnext {n:Nat}{M:List (List Int)} (S:Sq n M) {C:List Int} (I:CIn n C) (hl:C.length<n) (n1:n≤1000) {r1 r2:Ev} (h1:r1.d=mD M) (h2:r2.d=.lst (C.map D.int)):zc2 ze6 [r1,r2]=some (.cl (.int (nxC n M C))):=by
 refine zr5 ?_ rfl
 simp only [zbd7,zbo5,h1,h2]
 cases e:oth n C with
 |nil=>exact absurd e (zav6 hl)
 |cons y l =>
  rw [zaw2 S I (by lia) (by lia) e]
  unfold nxC
  rw [e]
theorem creach {n:Nat}{M:List (List Int)} (S:Sq n M) {C:List Int} (I:CIn n C) (hl:C.length≤50000) (n0:0<n) (n1:n≤1000) {r1 r2:Ev} (h1:r1.d=mD M) (h2:r2.d=.lst (C.map D.int)):zc2 zf4 [r1,r2]=some (.cl (.int (zu2 ((zb7 n).map (nr M C))))):=by
 refine zr5 ?_ rfl
 simp only [zbd7,zbo5,h1,h2]
 exact reach_is S I hl n0 (by lia)
theorem zar7 {n:Nat}{M:List (List Int)} (S:Sq n M) (n1:n≤1000) {c:Nat} (c0:0<c) (c1:c≤n):∀(d f k:Nat),k+1+d=c→d<f→whD cdP bdPc f [.val (mD M),.val (.int (c:Int)),.own ((cN n M k).map D.int)]=some (.nx [.val (mD M),.val (.int (c:Int)),.own ((cN n M (c - 1)).map D.int)])
 |d,0,k,h,hf=>by lia
 |d,f+1,k,h,hf=>by
  let t:Th:=[.val (mD M),.val (.int (c:Int)),.own ((cN n M k).map D.int)]
  have l1:=zaa1 (f:=dVar 2) (t:=t) (r:=.tm (.lst ((cN n M k).map D.int))) (xs:=cN n M k) rfl rfl
  rw [zo9]at l1
  have l2:=zn2 (f:=dVar 0) (t:=t) (r:=.cl (mD M)) rfl rfl
  rw [S.len]at l2
  have mn:(dT1 qN (za3 (dVar 1) (za3 (dT1 kLen (za3 (dVar 0) dNil)) dNil))) t=some (.cl (.int (c:Int))):=by
   rw [zq0 (rfl:dVar 1 t=some (.cl (.int (c:Int)))) l2]
   show some (Ev.cl (.int (if (n:Int)<(c:Int) then (n:Int) else (c:Int))))=_
   rw [if_neg (by lia)]
  have cc:=zaw7 l1 mn
  unfold whD
  rw [show cdP [.val (mD M),.val (.int (c:Int)),.own ((cN n M k).map D.int)]=some (decide (((k+1:Nat):Int)<(c:Int))) from cc]
  cases d with
  |zero =>
   rw [decide_eq_false (by lia)]
   have:c - 1=k:=by lia
   rw [this]
   rfl
  |succ d =>
   rw [decide_eq_true (by lia)]
   have eb:bdPc t=some (.nx [.val (mD M),.val (.int (c:Int)),.own ((cN n M (k+1)).map D.int)]) :=
    zy8 (i:=2) t (xs:=cN n M k) ((zq0 (rfl:dVar 0 t=some (.cl (mD M))) (rfl:dVar 2 t=some (.tm (.lst ((cN n M k).map D.int))))).trans (cnext S (zy6 M (by lia)) (by rw [zo9];lia) n1 rfl rfl)) rfl (by rw [zo9];lia)
   simp only [zbc8,if_true]
   rw [show bdPc [.val (mD M),.val (.int (c:Int)),.own ((cN n M k).map D.int)]=_ from eb]
   exact zar7 S n1 c0 c1 d f (k+1) (by lia) (by lia)
structure Rds (n:Nat) (M:List (List Int)):Prop where
 sq:Sq n M
 nn:∀i j:Nat,i<n→j<n→0≤(M.getD i []).getD j 0
 dg:∀i:Nat,i<n→(M.getD i []).getD i 0=0
theorem zak7 {L:List Int} (h:0<L.length):lowI L∈L∧∀a∈L,lowI L≤a:=by
 cases L with
 |nil=>simp at h
 |cons x r=>exact zs2 r x
theorem zp1 {L:List Int} (h:0<L.length):zu2 L∈L∧∀a∈L,a≤zu2 L:=by
 cases L with
 |nil=>simp at h
 |cons x r=>exact zu8 r x
theorem nr_nn {n:Nat}{M:List (List Int)} (R:Rds n M) {C:List Int} (I:CIn n C) {p:Int} (p0:0≤p) (p1:p<(n:Int)):0≤nr M C p:=by
 have:=(zak7 (L:=C.map (gM M p)) (by rw [zbd9];exact I.ne)).1
 obtain⟨c,hc,e⟩:=zbf6.mp this
 unfold nr
 rw [← e]
 have:=I.rg c hc
 exact R.nn p.toNat c.toNat (by lia) (by lia)
theorem zak3 {n:Nat}{M:List (List Int)} (R:Rds n M) {C:List Int} (I:CIn n C) {p:Int} (hp:p∈C):nr M C p=0:=by
 have pr:=I.rg p hp
 have a:=nr_nn R I pr.1 pr.2
 have b:=(zak7 (L:=C.map (gM M p)) (by rw [zbd9];exact I.ne)).2 (gM M p p) (zbf6.mpr ⟨p,hp,rfl⟩)
 have c:gM M p p=0:=R.dg p.toNat (by lia)
 rw [c]at b
 have b:nr M C p≤0:=b
 lia
theorem sgF_ge {W:Int→Int}:∀(l:List Int) (y:Int),W y≤W (l.foldl (stG W) y)∧∀x∈l,W x≤W (l.foldl (stG W) y)
 |[],y=>⟨zbo1 _,fun x hx=>by cases hx⟩
 |z::l,y=>by
  obtain⟨a,b⟩:=sgF_ge (W:=W) l (stG W y z)
  rw [zbn7]
  have h1:W y≤W (stG W y z)∧W z≤W (stG W y z):=by
   unfold stG;split<;>lia
  refine⟨by lia,fun x hx=>?_⟩
  rcases zbd2.mp hx with rfl | w
  ·lia
  ·exact b x w
theorem sgL_ok {W:Int→Int}{l:List Int}{b:Int} (h:sgL W l=some b):b∈l∧∀x∈l,W x≤W b:=by
 cases l with
 |nil=>cases h
 |cons y l =>
  simp only [sgL,Option.some.injEq]at h
  obtain⟨a,c⟩:=sgF_ge (W:=W) l y
  have m:=zaj4 (W:=W) l y
  rw [h]at a c m
  refine⟨?_,fun x hx=>?_⟩
  ·rcases m with w | w
   ·rw [w];exact zbc9 ..
   ·exact zbc6 _ w
  ·rcases zbd2.mp hx with rfl | w
   ·exact a
   ·exact c x w
def rR (M:List (List Int)) (C:List Int):Option Int→Int
 |none=>0
 |some b=>nr M C b
def apA (M:List (List Int)) (C:List Int):Option Int→List Int
 |none=>[]
 |some b=>if nr M C b=0 then [] else C++[b]
theorem zv7 {n:Nat}{M:List (List Int)} (R:Rds n M) {C:List Int} (I:CIn n C) (n0:0<n):zu2 ((zb7 n).map (nr M C))=rR M C (sgL (nr M C) (oth n C)):=by
 obtain⟨m,g⟩:=zp1 (L:=(zb7 n).map (nr M C)) (by rw [zbd9,ze0];exact n0)
 obtain⟨p,hp,ep⟩:=zbf6.mp m
 have pr:=zf2 hp
 have tp:=nr_nn R I pr.1 pr.2
 cases c:sgL (nr M C) (oth n C) with
 |none =>
  have eo:oth n C=[]:=by
   cases e:oth n C with
   |nil=>rfl
   |cons y l=>rw [e]at c;cases c
  have:p∈C:=by
   by_cases w:p∈C
   ·exact w
   ·have:p∈oth n C:=zbh5.mpr ⟨hp,by simpa using w⟩
    rw [eo]at this;cases this
  rw [← ep,zak3 R I this]
  rfl
 |some b =>
  obtain⟨bm,bg⟩:=sgL_ok c
  have bo:=zt2 bm
  have h1:=g (nr M C b) (zbf6.mpr ⟨b,zh7 bo.1 bo.2.1,rfl⟩)
  have b0:=nr_nn R I bo.1 bo.2.1
  have h2:nr M C p≤nr M C b:=by
   by_cases w:p∈C
   ·rw [zak3 R I w];exact b0
   ·exact bg p (zbh5.mpr ⟨hp,by simpa using w⟩)
  show _=nr M C b
  lia
theorem retn2 {t:Th}{i:Nat}{C A:List Int}{f:DE} (hi:t[i]?=some (.own (C.map D.int))) (hf:f t=some (.nw (A.map D.int))):zak9 (nTup (zw5 (nOwn i) (zw5 (nOf f) nNil))) t=some (.rt (.dn (.tup [.lst (C.map D.int),.lst (A.map D.int)]))):=by
 unfold zak9 nTup zw5 nOwn
 rw [hi]
 simp only [zd1,if_true,zbc8]
 unfold nOf
 rw [hf]
 simp only [zbc8,toDn,zd1,if_true,zbf8]
 rfl
theorem cat_ints {fa fb:DE}{t:Th}{r1:Ev}{xs ys:List Int} (ha:fa t=some r1) (h1:r1.d=.lst (xs.map D.int)) (hb:fb t=some (.nw (ys.map D.int))) (hl:xs.length+ys.length≤100000):(d2 qA fa fb) t=some (.nw ((xs++ys).map D.int)):=by
 rw [zk8 ha hb,zbk0]
 have k:kI tt2 (fun i j=>.int (i+j)) r1 (.nw (ys.map D.int))=none:=by (try unfold qA);(try unfold qS);(try unfold qM);(try unfold qV);(try unfold qR);(try unfold qL);(try unfold qE);(try unfold qG);(try unfold qP);unfold kI;rw [h1]
 (try unfold qA);(try unfold qM);unfold kOr
 rw [k]
 show kCat r1 (.nw (ys.map D.int))=_
 unfold kCat
 rw [h1]
 simp only [Ev.d,Ev.ok,zd1,zbi9,zbs3,zbd9]
 rw [if_pos (decide_eq_true hl)]
theorem apart_is {n:Nat}{M:List (List Int)} (R:Rds n M) (n1:n≤50) {c:Nat} (c0:0<c) (c1:c≤n):zd6 [mD M,.int (c:Int)]=some (.dn (.tup [.lst ((cN n M (c - 1)).map D.int),.lst ((apA M (cN n M (c - 1)) (sgL (nr M (cN n M (c - 1))) (oth n (cN n M (c - 1))))).map D.int)])):=by
 have S:=R.sq
 have I:=zy6 M (n:=n) (k:=c - 1) (by lia)
 have cl:=zo9 n M (c - 1)
 show (zj1 [.val (mD M),.val (.int (c:Int)),.no]).bind zg9=_
 have E1:dAsg 2 (dT1 kLst (za3 (dC (.int 0)) dNil)) [.val (mD M),.val (.int (c:Int)),.no]=some (.nx [.val (mD M),.val (.int (c:Int)),.own ((cN n M 0).map D.int)]):=rfl
 have E2:zt8 (fun _=>100) cdP bdPc [.val (mD M),.val (.int (c:Int)),.own ((cN n M 0).map D.int)]=some (.nx [.val (mD M),.val (.int (c:Int)),.own ((cN n M (c - 1)).map D.int)]):=zar7 S (by lia) c0 c1 (c - 1) 100 0 (by lia) (by lia)
 generalize hC:cN n M (c - 1)=C at *
 let t:Th:=[.val (mD M),.val (.int (c:Int)),.own (C.map D.int)]
 have er:(dT1 (zc2 zf4) (za3 (dVar 0) (za3 (dVar 2) dNil))) t=some (.cl (.int (rR M C (sgL (nr M C) (oth n C))))):=by
  rw [← zv7 R I (by lia)]
  exact (zq0 (rfl:dVar 0 t=some (.cl (mD M))) (rfl:dVar 2 t=some (.tm (.lst (C.map D.int))))).trans (creach S I (by lia) (by lia) (by lia) rfl rfl)
 have cc:=eqI_of er (rfl:dC (.int 0) t=some (.cl (.int 0)))
 show (dSeq _ (dSeq (zt8 (fun _=>100) cdP bdPc) _) _).bind zg9=_
 refine bnd ?_
 refine (zc1 E1).trans ?_
 refine (zc1 E2).trans ?_
 have RE:apA M C (sgL (nr M C) (oth n C))=[]→rR M C (sgL (nr M C) (oth n C))=0→(dIfS (dBo (d2 kEq (dT1 (zc2 zf4) (za3 (dVar 0) (za3 (dVar 2) dNil))) (dC (.int 0)))) (zak9 (nTup (zw5 (nOwn 2) (zw5 (nOf (dT1 kLst dNil)) nNil)))) zt6) t=some (.rt (.dn (.tup [.lst (C.map D.int),.lst ((apA M C (sgL (nr M C) (oth n C))).map D.int)]))):=fun h1 h2=>by
  rw [ifs_t cc (decide_eq_true h2),h1]
  exact retn2 (A:=[]) rfl rfl
 cases e:oth n C with
 |nil =>
  rw [e]at RE
  exact seq_rt (RE rfl rfl)
 |cons y l =>
  have es:sgL (nr M C) (y::l)=some (l.foldl (stG (nr M C)) y):=rfl
  generalize hb:l.foldl (stG (nr M C)) y=b at es
  rw [e,es]at RE cc
  rw [es]
  by_cases z:nr M C b=0
  ·exact seq_rt (RE (if_pos z) z)
  ·rw [show apA M C (some b)=C++[b] from if_neg z]
   refine (zc1 (grd cc (decide_eq_false z))).trans ?_
   refine retn2 rfl ?_
   have en:(dT1 (zc2 ze6) (za3 (dVar 0) (za3 (dVar 2) dNil))) t=some (.cl (.int b)):=by
    rw [← hb]
    exact (zq0 (rfl:dVar 0 t=some (.cl (mD M))) (rfl:dVar 2 t=some (.tm (.lst (C.map D.int))))).trans (zr5 (zaw2 S I (by lia) (by lia) e) rfl)
   exact cat_ints (fa:=dVar 2) (r1:=.tm (.lst (C.map D.int))) (ys:=[b]) rfl rfl ((zk9 en).trans rfl) (by simp;lia)
abbrev eM (M:List (List Int)) (i j:Nat):Int:=(M.getD i []).getD j 0
def SyM (n:Nat) (M:List (List Int)):Prop := ∀i j:Nat,i<n→j<n→eM M i j=eM M j i
def TrM (n k:Nat) (M:List (List Int)):Prop := ∀t i j:Nat,t<k→i<n→j<n→eM M i j≤eM M i t+eM M t j
def BdM (n:Nat) (M:List (List Int)):Prop := ∀i j:Nat,i<n→j<n→eM M i j≤1000000000000
theorem zay8 {fa fb:DE}{t:Th}{a b:Int} (h1:fa t=some (.cl (.int a))) (h2:fb t=some (.cl (.int b))):(d2 kEq fa fb) t=some (.cl (.bl (decide (a=b)))):=by
 rw [zk8 h1 h2]
 have:kEq (.cl (.int a)) (.cl (.int b))=some (.cl (.bl (eqD (.int a) (.int b)))):=rfl
 rw [this,zac6]
theorem zl5:∀bs:List Bool,flats (bs.map D.bl)=true
 |[]=>rfl
 |b::bs=>by simp [flats,flat,zl5 bs]
theorem zad2:∀bs:List Bool,blsD (bs.map D.bl)=some bs
 |[]=>rfl
 |b::bs=>by simp [blsD,zad2 bs]
theorem zap2 {f:DE}{t:Th}{r:Ev}{bs:List Bool} (h:f t=some r) (hr:r.d=.lst (bs.map D.bl)):(dT1 qU (za3 f dNil)) t=some (.cl (.bl (bs.all id))):=by
 rw [zk9 h]
 (try unfold qU);(try unfold qY);unfold kBls
 simp only [hr,zad2,zbf8]
theorem zad5 {α:Type} (f:α→Bool):∀l:List α,(l.map f).all id=l.all f
 |[]=>rfl
 |x::l=>by simp only [zbd7,zbh0,zad5 f l,id]
theorem chl_of {fa fb fc:DE}{t:Th}{a b c:Int} (h1:fa t=some (.cl (.int a))) (h2:fb t=some (.cl (.int b))) (h3:fc t=some (.cl (.int c))):dChV qE qE fa fb fc t=some (.cl (.bl (decide (a≤b)&&decide (b≤c)))):=by
 unfold dChV
 have:dCh qE qE fa fb fc t=some (decide (a≤b)&&decide (b≤c)):=by
  unfold dCh
  rw [h1,h2,h3]
  show (match D.bl (decide (a≤b)) with
   |.bl true=>some (decide (b≤c))
   |.bl false=>some false
   |_=>none)=_
  cases decide (a≤b)<;>rfl
 rw [this]
 rfl
theorem zad4 {f g:DE}{t:Th}{a b:Bool} (h1:f t=some (.cl (.bl a))) (h2:a=true→g t=some (.cl (.bl b))):zah6 f g t=some (.cl (.bl (a&&b))):=by
 unfold zah6
 rw [h1]
 cases a with
 |true=>exact h2 rfl
 |false=>rfl
theorem zah7 {fe:DE}{f:List Int→Bool}{ext:Th}:∀(M:List (List Int)) (s:Sl),(∀r∈M,fe (.val (rwD r)::ext)=some (.cl (.bl (f r))))→zd5 (za2 0) zb4 fe (M.map rwD) (s::ext)=some ((M.map f).map D.bl)
 |[],s,_=>rfl
 |r::M,s,he=>by
  have e0:za2 0 (rwD r) (s::ext)=some (.val (rwD r)::ext):=rfl
  simp only [zbd7,zd5,e0,zbc8,zb4,he r (zbc9 ..),if_true]
  rw [zah7 M _ fun x hx=>he x (zbc6 _ hx)]
  rfl
def sqB (M:List (List Int)):Bool:=M.all fun r=>decide ((r.length:Int)=(M.length:Int))
theorem zat2 {M:List (List Int)} (hl:M.length≤50000):zj5 [mD M]=some (.cl (.bl ((decide (1≤(M.length:Int))&&decide ((M.length:Int)≤40))&&sqB M))):=by
 show (zr1 [.val (mD M),.no]).bind zg9=_
 have ln:=zn2 (f:=dVar 0) (t:=[.val (mD M),.no]) (r:=.cl (mD M)) rfl rfl
 have E1:=zl8 (i:=1) ln (by simp)
 let t:Th:=[.val (mD M),.val (.int (M.length:Int))]
 have c1:=chl_of (fa:=dC (.int 1)) (fb:=dVar 1) (fc:=dC (.int 40)) (t:=t) (a:=1) (b:=(M.length:Int)) (c:=40) rfl rfl rfl
 have c2:(ze4 1 [1] (fsL (dVar 0)) (za2 0) zb4 (d2 kEq (dT1 kLen (za3 (dVar 0) dNil)) (dVar 1))) t=some (.nw ((M.map fun r=>decide ((r.length:Int)=(M.length:Int))).map D.bl)):=by
  have e2:=zah7 (fe:=(d2 kEq (dT1 kLen (za3 (dVar 0) dNil)) (dVar 1))) (f:=fun r=>decide ((r.length:Int)=(M.length:Int))) (ext:=[.val (.int (M.length:Int))]) M .no (fun r _=>zay8 (zaa1 (f:=dVar 0) (t:=[.val (rwD r),.val (.int (M.length:Int))]) (r:=.cl (rwD r)) (xs:=r) rfl rfl) rfl)
  unfold ze4
  show (if (M.map rwD).length≤50000 then (zd5 (za2 0) zb4 _ (M.map rwD) [Sl.no,.val (.int (M.length:Int))]).bind _ else none)=_
  rw [if_pos (by simpa using hl),e2]
  simp only [zbc8,zl5,zbi9,if_true]
 have c3:=zap2 c2 rfl
 rw [zad5]at c3
 refine bnd ((zc1 E1).trans (zn7 ?_))
 exact zad4 c1 fun _=>c3
def lenB (M:List (List Int)):Bool:=M.all fun r=>r.all fun x=>decide (0≤x)&&decide (x≤1000000000000)
theorem in_L (r:List Int):∀(l:List Int) (s1:Sl),∃s1',zi3 (za2 1) zb4 feL (l.map D.int) [.val (rwD r),s1]=some ((l.map fun x=>decide (0≤x)&&decide (x≤1000000000000)).map D.bl,[.val (rwD r),s1'])
 |[],s1=>⟨s1,rfl⟩
 |x::l,s1=>by
  obtain⟨s1',ih⟩:=in_L r l (.val (.int x))
  refine⟨s1',?_⟩
  have e0:za2 1 (.int x) [.val (rwD r),s1]=some [.val (rwD r),.val (.int x)]:=rfl
  have e2:feL [.val (rwD r),.val (.int x)]=_:=chl_of (fa:=dC (.int 0)) (fb:=dVar 1) (fc:=dC (.int 1000000000000)) (t:=[.val (rwD r),.val (.int x)]) (a:=0) (b:=x) (c:=1000000000000) rfl rfl rfl
  simp only [zbd7,zi3,e0,zbc8,zb4,if_true,e2,ih,zbf8]
  rfl
theorem out_L:∀(M:List (List Int)) (s0 s1:Sl),zh9 (za2 0) zb4 (fsL (dVar 0)) (za2 1) zb4 feL (M.map rwD) [s0,s1]=some ((M.flatMap fun r=>r.map fun x=>decide (0≤x)&&decide (x≤1000000000000)).map D.bl)
 |[],s0,s1=>rfl
 |r::M,s0,s1=>by
  obtain⟨s1',e2⟩:=in_L r r s1
  have ih:=out_L M (.val (rwD r)) s1'
  have e0:za2 0 (rwD r) [s0,s1]=some [.val (rwD r),s1]:=rfl
  have e1:fsL (dVar 0) [.val (rwD r),s1]=some (true,r.map D.int):=rfl
  simp only [zbd7,zh9,e0,zbc8,zb4,if_true,e1,e2,ih,zbf8,zbi0,zbk0]
theorem zah1 (f:Int→Bool):∀M:List (List Int),(M.flatMap fun r=>r.map f).all id=M.all fun r=>r.all f
 |[]=>rfl
 |r::M=>by simp only [zbi0,List.all_append,zbh0,zah1 f M,zad5]
theorem zah0 (f:Int→Bool) {w:Nat}:∀M:List (List Int),(∀r∈M,r.length≤w)→(M.flatMap fun r=>r.map f).length≤M.length*w
 |[],_=>by simp
 |r::M,h=>by
  have a:=zah0 f M fun x hx=>h x (zbc6 _ hx)
  have b:=h r (zbc9 ..)
  simp only [zbi0,zbf0,zbd9,zbf4,zbv4,zbv5]
  lia
def dgL (k:Nat):List (List Int)→List Bool
 |[]=>[]
 |r::M=>decide (r.getD k 0=0)::dgL (k+1) M
theorem zba4:∀(M:List (List Int)) (k:Nat) (s0 s1:Sl),(∀r∈M,k+M.length≤r.length)→zd5 (zj0 2 (zc7 (za2 0) (zc7 (za2 1) zk4))) zb4 feD (zo8 k (M.map rwD)) [s0,s1]=some ((dgL k M).map D.bl)
 |[],k,s0,s1,_=>rfl
 |r::M,k,s0,s1,h=>by
  have hr:=h r (zbc9 ..)
  simp only [zbf4]at hr
  have e0:zj0 2 (zc7 (za2 0) (zc7 (za2 1) zk4)) (.tup [.int (k:Int),rwD r]) [s0,s1]=some [.val (.int (k:Int)),.val (rwD r)]:=rfl
  have e2:feD [.val (.int (k:Int)),.val (rwD r)]=some (.cl (.bl (decide (r.getD k 0=0)))):=zay8 (zaa3 (fa:=dVar 1) (fb:=dVar 0) (t:=[.val (.int (k:Int)),.val (rwD r)]) (r1:=.cl (rwD r)) (r2:=.cl (.int (k:Int))) r k rfl rfl (by lia) rfl rfl) rfl
  have ih:=zba4 M (k+1) (.val (.int (k:Int))) (.val (rwD r)) (fun x hx=>by
   have:=h x (zbc6 _ hx)
   simp only [zbf4]at this
   lia)
  show zd5 _ zb4 feD (.tup [.int (k:Int),rwD r]::zo8 (k+1) (M.map rwD)) [s0,s1]=_
  simp only [zd5,e0,zbc8,zb4,if_true,e2,ih,zbf8]
  rfl
theorem zaq5 {n:Nat}{M:List (List Int)} (S:Sq n M) (hn:n≤60):zg8 [mD M]=some (.cl (.bl (lenB M&&(dgL 0 M).all id))):=by
 show (zn5 [.val (mD M)]).bind zg9=_
 let t:Th:=[.val (mD M)]
 have c2:(zl6 2 [] (fsL (dVar 0)) (za2 0) zb4 (fsL (dVar 0)) (za2 1) zb4 feL) t=some (.nw ((M.flatMap fun r=>r.map fun x=>decide (0≤x)&&decide (x≤1000000000000)).map D.bl)):=by
  have e2:=out_L M .no .no
  unfold zl6
  show (zh9 (za2 0) zb4 (fsL (dVar 0)) (za2 1) zb4 feL (M.map rwD) [.no,.no]).bind _=_
  rw [e2]
  have ll:=zah0 (w:=n) (fun x=>decide (0≤x)&&decide (x≤1000000000000)) M (fun r hr=>by rw [S.row r hr];exact zbf1 _)
  rw [S.len]at ll
  have:n*n≤60*60:=zbo6 hn hn
  simp only [zbc8,zl5,zbn5,zbd9]
  rw [if_pos (decide_eq_true (by lia))]
 have c3:=zap2 c2 rfl
 rw [zah1]at c3
 have tr:dNot (dTr (dT1 qU (za3 (zl6 2 [] (fsL (dVar 0)) (za2 0) zb4 (fsL (dVar 0)) (za2 1) zb4 feL) dNil))) t=some (!lenB M):=by
  unfold dNot dTr
  rw [c3]
  rfl
 cases z:lenB M with
 |false =>
  rw [z]at tr
  refine bnd ?_
  exact seq_rt (grd_t tr rfl)
 |true =>
  rw [z]at tr
  have d2:(ze4 2 [] (fsE (dVar 0)) (zj0 2 (zc7 (za2 0) (zc7 (za2 1) zk4))) zb4 feD) t=some (.nw ((dgL 0 M).map D.bl)):=by
   have e2:=zba4 M 0 .no .no (fun r hr=>by rw [S.row r hr,S.len];lia)
   unfold ze4
   have ee:fsE (dVar 0) t=some (true,zo8 0 (M.map rwD)):=rfl
   have el:(zo8 0 (M.map rwD)).length=M.length:=by
    have:∀(l:List D) (k:Nat),(zo8 k l).length=l.length:=fun l=>by
     induction l with
     |nil=>intro k;rfl
     |cons a l ih=>intro k;simp [zo8,ih]
    rw [this,zbd9]
   rw [ee]
   show (if (zo8 0 (M.map rwD)).length≤50000 then (zd5 _ zb4 feD (zo8 0 (M.map rwD)) [Sl.no,Sl.no]).bind _ else none)=_
   rw [if_pos (by rw [el,S.len];lia),e2]
   simp only [zbc8,zl5,zbi9,if_true]
  have d3:=zap2 d2 rfl
  refine bnd ?_
  exact (zc1 (grd tr rfl)).trans (zn7 d3)
theorem in_A {n:Nat}{M:List (List Int)} (S:Sq n M) {a:Int} (X:D) (a0:0≤a) (a1:a<(n:Int)):∀(l:List Int) (s1:Sl),(∀x∈l,0≤x∧x<(n:Int))→∃s1',zi3 (za2 1) zb4 feA (l.map D.int) [.val (.int a),s1,.val X,.val (mD M)]=some ((l.map fun b=>decide (gM M a b=gM M b a)).map D.bl,[.val (.int a),s1',.val X,.val (mD M)])
 |[],s1,_=>⟨s1,rfl⟩
 |b::l,s1,h=>by
  have hb:=h b (zbc9 ..)
  obtain⟨s1',ih⟩:=in_A S X a0 a1 l (.val (.int b)) fun x hx=>h x (zbc6 _ hx)
  refine⟨s1',?_⟩
  let t:Th:=[.val (.int a),.val (.int b),.val X,.val (mD M)]
  have e0:za2 1 (.int b) [.val (.int a),s1,.val X,.val (mD M)]=some t:=rfl
  have x:=zw6 S (fa:=dVar 3) (fb:=dVar 0) (fc:=dVar 1) (t:=t) (r1:=.cl (mD M)) (i:=a) (j:=b) rfl rfl rfl rfl a0 a1 hb.1 hb.2
  have y:=zw6 S (fa:=dVar 3) (fb:=dVar 1) (fc:=dVar 0) (t:=t) (r1:=.cl (mD M)) (i:=b) (j:=a) rfl rfl rfl rfl hb.1 hb.2 a0 a1
  have e2:feA t=some (.cl (.bl (decide (gM M a b=gM M b a)))):=zay8 x y
  simp only [zbd7,zi3,e0,zbc8,zb4,if_true,e2]
  rw [show zi3 (za2 1) zb4 feA (l.map D.int) t=_ from ih]
  rfl
theorem out_A {n:Nat}{M:List (List Int)} (S:Sq n M) {A:List Int} (hA:∀x∈A,0≤x∧x<(n:Int)):∀(l:List Int) (s0 s1:Sl),(∀x∈l,0≤x∧x<(n:Int))→zh9 (za2 0) zb4 (fsL (dVar 2)) (za2 1) zb4 feA (l.map D.int) [s0,s1,.val (.lst (A.map D.int)),.val (mD M)]=some ((l.flatMap fun a=>A.map fun b=>decide (gM M a b=gM M b a)).map D.bl)
 |[],s0,s1,_=>rfl
 |a::l,s0,s1,h=>by
  have ha:=h a (zbc9 ..)
  obtain⟨s1',e2⟩:=in_A S (.lst (A.map D.int)) ha.1 ha.2 A s1 hA
  have ih:=out_A S hA l (.val (.int a)) s1' fun x hx=>h x (zbc6 _ hx)
  have e0:za2 0 (.int a) [s0,s1,.val (.lst (A.map D.int)),.val (mD M)]=some [.val (.int a),s1,.val (.lst (A.map D.int)),.val (mD M)]:=rfl
  have e1:fsL (dVar 2) [.val (.int a),s1,.val (.lst (A.map D.int)),.val (mD M)]=some (true,A.map D.int):=rfl
  simp only [zbd7,zh9,e0,zbc8,zb4,if_true,e1,e2,ih,zbf8,zbi0,zbk0]
theorem zah2 (A:List Int) (f:Int→Int→Bool):∀l:List Int,(l.flatMap fun a=>A.map (f a)).length=l.length*A.length
 |[]=>by simp
 |a::l=>by
  simp only [zbi0,zbf0,zbd9,zbf4,zbv4,zbv5,zah2 A f l]
  lia
theorem zah3 (A:List Int) (f:Int→Int→Bool):∀l:List Int,(l.flatMap fun a=>A.map (f a)).all id=l.all fun a=>A.all fun b=>f a b
 |[]=>rfl
 |a::l=>by simp only [zbi0,List.all_append,zbh0,zah3 A f l,zad5]
def syB (n:Nat) (M:List (List Int)):Bool:=(zb7 n).all fun a=>(zb7 n).all fun b=>decide (gM M a b=gM M b a)
theorem alike_is {n:Nat}{M:List (List Int)} (S:Sq n M) (hn:n≤60):zc9 [mD M]=some (.cl (.bl (syB n M))):=by
 show (zf1 [.val (mD M),.no]).bind zg9=_
 have ln:=zn2 (f:=dVar 0) (t:=[.val (mD M),.no]) (r:=.cl (mD M)) rfl rfl
 rw [S.len]at ln
 have E1:=zy7 (i:=1) (lr_of ln (by lia)) (by simp)
 let t:Th:=[.val (mD M),.own ((zb7 n).map D.int)]
 have c2:(zl6 2 [1,0] (fsL (dVar 1)) (za2 0) zb4 (fsL (dVar 2)) (za2 1) zb4 feA) t=some (.nw (((zb7 n).flatMap fun a=>(zb7 n).map fun b=>decide (gM M a b=gM M b a)).map D.bl)):=by
  have e2:=out_A S (A:=zb7 n) (fun x hx=>zf2 hx) (zb7 n) .no .no (fun x hx=>zf2 hx)
  unfold zl6
  show (zh9 (za2 0) zb4 (fsL (dVar 2)) (za2 1) zb4 feA ((zb7 n).map D.int) [.no,.no,.val (.lst ((zb7 n).map D.int)),.val (mD M)]).bind _=_
  rw [e2]
  have ll:=zah2 (zb7 n) (fun a b=>decide (gM M a b=gM M b a)) (zb7 n)
  rw [ze0]at ll
  have:n*n≤60*60:=zbo6 hn hn
  simp only [zbc8,zl5,zbn5,zbd9]
  rw [if_pos (decide_eq_true (by lia))]
 have c3:=zap2 c2 rfl
 rw [zah3]at c3
 exact bnd ((zc1 E1).trans (zn7 c3))
noncomputable def stB (n:Nat) (M:List (List Int)):Bool:=M.all fun r=>(zb7 n).all fun k=>(zb7 n).all fun e=>!decide (r.getD k.toNat 0+gM M k e<r.getD e.toNat 0)
theorem any_of {f:DE}{t:Th}{r:Ev}{bs:List Bool} (h:f t=some r) (hr:r.d=.lst (bs.map D.bl)):(dT1 qY (za3 f dNil)) t=some (.cl (.bl (bs.any id))):=by
 rw [zk9 h]
 (try unfold qU);(try unfold qY);unfold kBls
 simp only [hr,zad2,zbf8]
theorem zba5 {fe:DE}{f:Int→Bool}{ext:Th}:∀(xs:List Int) (s:Sl),(∀x∈xs,fe (.val (.int x)::ext)=some (.cl (.bl (f x))))→zd5 (za2 0) zb4 fe (xs.map D.int) (s::ext)=some ((xs.map f).map D.bl)
 |[],s,_=>rfl
 |x::xs,s,he=>by
  have e0:za2 0 (.int x) (s::ext)=some (.val (.int x)::ext):=rfl
  simp only [zbd7,zd5,e0,zbc8,zb4,he x (zbc9 ..),if_true]
  rw [zba5 xs _ fun y hy=>he y (zbc6 _ hy)]
  rfl
theorem zbc2 {α:Type} (f:α→Bool):∀l:List α,(l.map f).any id=l.any f
 |[]=>rfl
 |x::l=>by simp only [zbd7,zbj5,zbc2 f l,id]
noncomputable def okS (n:Nat) (M:List (List Int)) (r:List Int) (k:Int):Bool:=(zb7 n).all fun e=>!decide (r.getD k.toNat 0+gM M k e<r.getD e.toNat 0)
theorem zaw1 (f:Int→Bool):∀l:List Int,(l.any f)=!(l.all fun x=>!f x)
 |[]=>rfl
 |x::l=>by simp only [zbj5,zbh0,zaw1 f l,Bool.not_and,Bool.not_not]
abbrev tS (n:Nat) (M:List (List Int)) (r:Sl) (s3 s4:Sl):Th:=[.val (mD M),.val (.lst ((zb7 n).map D.int)),r,s3,s4]
theorem turn_S {n:Nat}{M:List (List Int)} (S:Sq n M) (hn:n≤60) {r:List Int} (hr:r.length=n) {k:Int} (k0:0≤k) (k1:k<(n:Int)) (s4:Sl):∃u4,bdS (tS n M (.val (rwD r)) (.val (.int k)) s4)=if okS n M r k=true then some (.nx (tS n M (.val (rwD r)) (.val (.int k)) u4)) else some (.rt (.cl (.bl false))):=by
 obtain⟨j,rfl⟩:∃j:Nat,k=(j:Int):=⟨k.toNat,by lia⟩
 have x:=zaa3 (fa:=dVar 2) (fb:=dVar 3) (t:=tS n M (.val (rwD r)) (.val (.int (j:Int))) s4) (r1:=.cl (rwD r)) (r2:=.cl (.int (j:Int))) r j rfl rfl (by lia) rfl rfl
 have E1:=zl8 (i:=4) x (by simp)
 let t:Th:=tS n M (.val (rwD r)) (.val (.int (j:Int))) (.val (.int (r.getD j 0)))
 have c2:(ze4 1 [2,4,0,3] (fsL (dVar 1)) (za2 0) zb4 feS) t=some (.nw (((zb7 n).map fun e=>decide (r.getD j 0+gM M (j:Int) e<r.getD e.toNat 0)).map D.bl)):=by
  have e2:=zba5 (fe:=feS) (f:=fun e=>decide (r.getD j 0+gM M (j:Int) e<r.getD e.toNat 0)) (ext:=[.val (rwD r),.val (.int (r.getD j 0)),.val (mD M),.val (.int (j:Int))]) (zb7 n) .no (fun e he=>by
   have er:=zf2 he
   obtain⟨i,rfl⟩:∃i:Nat,e=(i:Int):=⟨e.toNat,by lia⟩
   let tt:Th:=[.val (.int (i:Int)),.val (rwD r),.val (.int (r.getD j 0)),.val (mD M),.val (.int (j:Int))]
   have a1:=zaa3 (fa:=dVar 1) (fb:=dVar 0) (t:=tt) (r1:=.cl (rwD r)) (r2:=.cl (.int (i:Int))) r i rfl rfl (by lia) rfl rfl
   have a2:=zw6 S (fa:=dVar 3) (fb:=dVar 4) (fc:=dVar 0) (t:=tt) (r1:=.cl (mD M)) (i:=(j:Int)) (j:=(i:Int)) rfl rfl rfl rfl k0 k1 er.1 er.2
   have a3:=zp0 (fa:=dVar 2) (t:=tt) (a:=r.getD j 0) rfl a2
   exact (zk8 a1 a3).trans rfl)
  unfold ze4
  show (if ((zb7 n).map D.int).length≤50000 then (zd5 (za2 0) zb4 feS ((zb7 n).map D.int) [Sl.no,.val (rwD r),.val (.int (r.getD j 0)),.val (mD M),.val (.int (j:Int))]).bind _ else none)=_
  rw [if_pos (by rw [zbd9,ze0];lia),e2]
  simp only [zbc8,zl5,zbi9,if_true]
 have c3:=any_of c2 rfl
 rw [zbc2,zaw1]at c3
 have tr:dTr (dT1 qY (za3 (ze4 1 [2,4,0,3] (fsL (dVar 1)) (za2 0) zb4 feS) dNil)) t=some (!okS n M r (j:Int)):=by
  unfold dTr
  rw [c3]
  rfl
 refine⟨.val (.int (r.getD j 0)),(zc1 E1).trans ?_⟩
 cases z:okS n M r (j:Int) with
 |true=>rw [z]at tr;rw [if_pos rfl];exact grd tr rfl
 |false=>rw [z]at tr;rw [if_neg (by decide)];exact grd_t tr rfl
theorem in_S {n:Nat}{M:List (List Int)} (S:Sq n M) (hn:n≤60) {r:List Int} (hr:r.length=n):∀(l:List Int) (s3 s4:Sl),(∀x∈l,0≤x∧x<(n:Int))→∃u3 u4,forD (za2 3) bdS (l.map D.int) (tS n M (.val (rwD r)) s3 s4)=if (l.all (okS n M r))=true then some (.nx (tS n M (.val (rwD r)) u3 u4)) else some (.rt (.cl (.bl false)))
 |[],s3,s4,_=>⟨s3,s4,rfl⟩
 |k::l,s3,s4,h=>by
  have hk:=h k (zbc9 ..)
  obtain⟨v4,e⟩:=turn_S S hn hr hk.1 hk.2 s4
  obtain⟨u3,u4,ih⟩:=in_S S hn hr l (.val (.int k)) v4 fun x hx=>h x (zbc6 _ hx)
  refine⟨u3,u4,?_⟩
  have e0:za2 3 (.int k) (tS n M (.val (rwD r)) s3 s4)=some (tS n M (.val (rwD r)) (.val (.int k)) s4):=rfl
  by_cases z:okS n M r k=true
  ·rw [if_pos z]at e
   simp only [zbd7,forD,e0,zbc8,e,zbh0,z,zbs3]
   exact ih
  ·rw [if_neg z]at e
   rw [zbt7]at z
   simp only [zbd7,forD,e0,zbc8,e,zbh0,z,zbo3,zbj3,if_false]
theorem out_S {n:Nat}{M:List (List Int)} (S:Sq n M) (hn:n≤60):∀(Q:List (List Int)) (s1 s2 s3 s4:Sl),(∀r∈Q,r.length=n)→(s1=.own ((zb7 n).map D.int)∨s1=.val (.lst ((zb7 n).map D.int)))→∃u1 u2 u3 u4,forD (za2 2) (dFrz 1 (dFor (za2 3) (dVar 1) bdS)) (Q.map rwD) [.val (mD M),s1,s2,s3,s4]=if (Q.all fun r=>(zb7 n).all (okS n M r))=true then some (.nx [.val (mD M),u1,u2,u3,u4]) else some (.rt (.cl (.bl false)))
 |[],s1,s2,s3,s4,_,_=>⟨s1,s2,s3,s4,rfl⟩
 |r::Q,s1,s2,s3,s4,h,hs=>by
  obtain⟨v3,v4,e⟩:=in_S S hn (h r (zbc9 ..)) (zb7 n) s3 s4 (fun x hx=>zf2 hx)
  obtain⟨u1,u2,u3,u4,ih⟩:=out_S S hn Q (.val (.lst ((zb7 n).map D.int))) (.val (rwD r)) v3 v4 (fun x hx=>h x (zbc6 _ hx)) (.inr rfl)
  refine⟨u1,u2,u3,u4,?_⟩
  have e0:za2 2 (rwD r) [.val (mD M),s1,s2,s3,s4]=some [.val (mD M),s1,.val (rwD r),s3,s4]:=rfl
  have e1:dFrz 1 (dFor (za2 3) (dVar 1) bdS) [.val (mD M),s1,.val (rwD r),s3,s4]=forD (za2 3) bdS ((zb7 n).map D.int) (tS n M (.val (rwD r)) s3 s4):=by
   rcases hs with rfl | rfl<;>rfl
  by_cases z:(zb7 n).all (okS n M r)=true
  ·rw [if_pos z]at e
   simp only [zbd7,forD,e0,zbc8,e1,e,zbh0,z,zbs3]
   exact ih
  ·rw [if_neg z]at e
   rw [zbt7]at z
   simp only [zbd7,forD,e0,zbc8,e1,e,zbh0,z,zbo3,zbj3,if_false]
theorem zaj2 {n:Nat}{M:List (List Int)} (S:Sq n M) (hn:n≤60):zg0 [mD M]=some (.cl (.bl (stB n M))):=by
 show (zk7 [.val (mD M),.no,.no,.no,.no]).bind zg9=_
 have ln:=zn2 (f:=dVar 0) (t:=[.val (mD M),.no,.no,.no,.no]) (r:=.cl (mD M)) rfl rfl
 rw [S.len]at ln
 have E1:=zy7 (i:=1) (lr_of ln (by lia)) (by simp)
 obtain⟨u1,u2,u3,u4,e⟩:=out_S S hn M (.own ((zb7 n).map D.int)) .no .no .no (fun r hr=>S.row r hr) (.inl rfl)
 have E2:dFor (za2 2) (dVar 0) (dFrz 1 (dFor (za2 3) (dVar 1) bdS)) [.val (mD M),.own ((zb7 n).map D.int),.no,.no,.no]=_:=e
 have zz:(M.all fun r=>(zb7 n).all (okS n M r))=stB n M:=rfl
 rw [zz]at E2
 show (dSeq _ (dSeq (dFor (za2 2) (dVar 0) (dFrz 1 (dFor (za2 3) (dVar 1) bdS))) _) _).bind zg9=_
 refine bnd ((zc1 E1).trans ?_)
 cases z:stB n M with
 |true=>rw [z,if_pos rfl]at E2;exact (zc1 E2).trans rfl
 |false=>rw [z,if_neg (by decide)]at E2;exact seq_rt E2
theorem sq_of {M:List (List Int)} (h:sqB M=true):Sq M.length M:=by
 unfold sqB at h
 rw [zbg8]at h
 exact⟨rfl,fun r hr=>by have:=of_decide_eq_true (h r hr);lia⟩
def szB (M:List (List Int)):Bool:=decide (1≤(M.length:Int))&&decide ((M.length:Int)≤40)
def rdB (M:List (List Int)):Bool:=(szB M&&sqB M)&&((lenB M&&(dgL 0 M).all id)&&(syB M.length M&&stB M.length M))
theorem roads_is {M:List (List Int)} (hl:M.length≤50000):zh2 [mD M]=some (.cl (.bl (rdB M))):=by
 show (zr2 [.val (mD M)]).bind zg9=_
 let t:Th:=[.val (mD M)]
 have c1:(dT1 (zc2 zj5) (za3 (dVar 0) dNil)) t=some (.cl (.bl (szB M&&sqB M))):=(zk9 (rfl:dVar 0 t=some (.cl (mD M)))).trans (zr5 (zat2 hl) rfl)
 refine bnd (zn7 ?_)
 refine zad4 c1 fun z=>?_
 rw [zbd8]at z
 have S:=sq_of z.2
 have sz:=z.1
 unfold szB at sz
 rw [zbd8,decide_eq_true_eq,decide_eq_true_eq]at sz
 have c2:(dT1 (zc2 zg8) (za3 (dVar 0) dNil)) t=some (.cl (.bl (lenB M&&(dgL 0 M).all id))):=(zk9 (rfl:dVar 0 t=some (.cl (mD M)))).trans (zr5 (zaq5 S (by lia)) rfl)
 have c3:(dT1 (zc2 zc9) (za3 (dVar 0) dNil)) t=some (.cl (.bl (syB M.length M))):=(zk9 (rfl:dVar 0 t=some (.cl (mD M)))).trans (zr5 (alike_is S (by lia)) rfl)
 have c4:(dT1 (zc2 zg0) (za3 (dVar 0) dNil)) t=some (.cl (.bl (stB M.length M))):=(zk9 (rfl:dVar 0 t=some (.cl (mD M)))).trans (zr5 (zaj2 S (by lia)) rfl)
 exact zad4 c2 fun _=>zad4 c3 fun _=>c4
theorem zaz2:∀(M:List (List Int)) (k:Nat),(dgL k M).all id=true↔∀i:Nat,i<M.length→(M.getD i []).getD (k+i) 0=0
 |[],k=>by simp [dgL]
 |r::M,k=>by
  have ih:=zaz2 M (k+1)
  simp only [dgL,zbh0,zbd8,id,decide_eq_true_eq,ih,zbf4]
  constructor
  ·rintro ⟨a,b⟩ i hi
   cases i with
   |zero=>simpa using a
   |succ i =>
    have:=b i (by lia)
    rw [show k+(i+1)=k+1+i by lia]
    simpa using this
  ·intro h
   refine⟨by simpa using h 0 (by lia),fun i hi=>?_⟩
   have:=h (i+1) (by lia)
   rw [show k+(i+1)=k+1+i by lia]at this
   simpa using this
theorem rd_iff {n:Nat}{M:List (List Int)} (S:Sq n M):rdB M=true↔((1≤n∧n≤40)∧(∀i j:Nat,i<n→j<n→0≤eM M i j∧eM M i j≤1000000000000)∧(∀i:Nat,i<n→eM M i i=0)∧SyM n M∧TrM n n M):=by
 have sl:=S.len
 have row:∀i:Nat,i<n→M.getD i []∈M∧(M.getD i []).length=n:=fun i hi=>by
  have:M.getD i []=M[i]'(by lia):=by rw [zbd6,zbd1 (by lia)];rfl
  rw [this]
  exact⟨zbh7 _,S.row _ (zbh7 _)⟩
 have sq:sqB M=true:=by
  unfold sqB
  rw [zbg8]
  exact fun r hr=>decide_eq_true (by have:=S.row r hr;lia)
 have L:lenB M=true↔∀i j:Nat,i<n→j<n→0≤eM M i j∧eM M i j≤1000000000000:=by
  unfold lenB
  simp only [zbg8,zbd8,decide_eq_true_eq]
  constructor
  ·intro h i j hi hj
   obtain⟨a,b⟩:=row i hi
   refine h _ a _ ?_
   show (M.getD i []).getD j 0∈M.getD i []
   rw [zbd6 (l:=M.getD i []),zbd1 (by lia)]
   exact zbh7 _
  ·intro h r hr x hx
   obtain⟨i,hi,rfl⟩:=zbk3 hr
   obtain⟨j,hj,rfl⟩:=zbk3 hx
   have rl:=S.row _ hr
   have:=h i j (by lia) (by lia)
   have e:eM M i j=M[i][j]:=by
    show (M.getD i []).getD j 0=_
    have:M.getD i []=M[i]:=by rw [zbd6,zbd1 hi];rfl
    rw [this,zbd6,zbd1 hj];rfl
   rw [e]at this
   exact this
 have G:=zaz2 M 0
 simp only [Nat.zero_add]at G
 have nn:∀i:Int,i∈zb7 n↔0≤i∧i<(n:Int):=fun i=>⟨fun h=>zf2 h,fun h=>zh7 h.1 h.2⟩
 have Y:syB n M=true↔SyM n M:=by
  unfold syB
  simp only [zbg8,decide_eq_true_eq,nn]
  constructor
  ·intro h i j hi hj
   exact h (i:Int) ⟨by lia,by lia⟩ (j:Int) ⟨by lia,by lia⟩
  ·intro h a ha b hb
   exact h a.toNat b.toNat (by lia) (by lia)
 have T:stB n M=true↔TrM n n M:=by
  unfold stB
  simp only [zbg8,Bool.not_eq_true',decide_eq_false_iff_not,nn]
  constructor
  ·intro h t i j ht hi hj
   have:=h _ (row i hi).1 (t:Int) ⟨by lia,by lia⟩ (j:Int) ⟨by lia,by lia⟩
   have : ¬ (eM M i t+eM M t j<eM M i j):=this
   lia
  ·intro h r hr k hk e he
   obtain⟨i,hi,rfl⟩:=zbk3 hr
   have:=h k.toNat i e.toNat (by lia) (by lia) (by lia)
   have q:M.getD i []=M[i]:=by rw [zbd6,zbd1 hi];rfl
   have:(M.getD i []).getD e.toNat 0≤(M.getD i []).getD k.toNat 0+gM M k e:=this
   rw [q]at this
   lia
 unfold rdB szB
 rw [sq,sl]
 simp only [zbn5,zbd8,decide_eq_true_eq,L,G,Y,T,sl]
 constructor
 ·rintro ⟨a,⟨b,c⟩,d,e⟩
  exact⟨⟨by lia,by lia⟩,b,c,d,e⟩
 ·rintro ⟨a,b,c,d,e⟩
  exact⟨⟨by lia,by lia⟩,⟨b,c⟩,d,e⟩
theorem rd_roads {n:Nat}{M:List (List Int)} (n0:1≤n) (n1:n≤40) (R:Rds n M∧SyM n M∧TrM n n M∧BdM n M):rdB M=true :=
 (rd_iff R.1.sq).mpr ⟨⟨n0,n1⟩,fun i j hi hj=>⟨R.1.nn i j hi hj,R.2.2.2 i j hi hj⟩,R.1.dg,R.2.1,R.2.2.1⟩
def rcH (n:Nat) (M:List (List Int)) (C:List Int):Int:=zu2 ((zb7 n).map (nr M C))
theorem zan5 {n:Nat}{M:List (List Int)}{C:List Int} (I:CIn n C) (p:Int):(∃s∈C,gM M p s=nr M C p)∧∀s∈C,nr M C p≤gM M p s:=by
 obtain⟨a,b⟩:=zak7 (L:=C.map (gM M p)) (by rw [zbd9];exact I.ne)
 obtain⟨s,hs,e⟩:=zbf6.mp a
 exact⟨⟨s,hs,e⟩,fun s hs=>b _ (zbf6.mpr ⟨s,hs,rfl⟩)⟩
theorem rc_ge {n:Nat}{M:List (List Int)}{C:List Int} (n0:0<n) {p:Int} (p0:0≤p) (p1:p<(n:Int)):nr M C p≤rcH n M C :=
 (zp1 (L:=(zb7 n).map (nr M C)) (by rw [zbd9,ze0];exact n0)).2 _ (zbf6.mpr ⟨p,zh7 p0 p1,rfl⟩)
theorem rc_at {n:Nat}{M:List (List Int)}{C:List Int} (n0:0<n):∃p:Int,0≤p∧p<(n:Int)∧rcH n M C=nr M C p:=by
 obtain⟨p,hp,e⟩:=zbf6.mp (zp1 (L:=(zb7 n).map (nr M C)) (by rw [zbd9,ze0];exact n0)).1
 have:=zf2 hp
 exact⟨p,this.1,this.2,e.symm⟩
theorem rc_nn {n:Nat}{M:List (List Int)} (R:Rds n M) {C:List Int} (I:CIn n C) (n0:0<n):0≤rcH n M C:=by
 have a:=nr_nn R I (p:=0) (by lia) (by lia)
 have b:=rc_ge (M:=M) (C:=C) n0 (p:=0) (by lia) (by lia)
 lia
theorem gM_sym {n:Nat}{M:List (List Int)} (Y:SyM n M) {a b:Int} (a0:0≤a) (a1:a<(n:Int)) (b0:0≤b) (b1:b<(n:Int)):gM M a b=gM M b a:=Y a.toNat b.toNat (by lia) (by lia)
theorem zat7 {n:Nat}{M:List (List Int)}{C:List Int} (I:CIn n C) (n0:0<n) (b:Int) (hb:CIn n (C++[b])):rcH n M (C++[b])≤rcH n M C:=by
 obtain⟨p,p0,p1,e⟩:=rc_at (M:=M) (C:=C++[b]) n0
 obtain⟨s,hs,es⟩:=(zan5 (M:=M) I p).1
 have:=(zan5 (M:=M) hb p).2 s (zbc7 _ hs)
 have:=rc_ge (M:=M) (C:=C) n0 p0 p1
 lia
def Ap (M:List (List Int)) (w:Int) (A:List Int):Prop := ∀a∈A,∀b∈A,a≠b→w≤gM M a b
theorem ap_add {n:Nat}{M:List (List Int)} (Y:SyM n M) {C:List Int} (I:CIn n C) {w b:Int} (h:Ap M w C) (b0:0≤b) (b1:b<(n:Int)) (hw:w≤nr M C b):Ap M w (C++[b]):=by
 intro x hx y hy ne
 have k:∀s∈C,w≤gM M b s:=fun s hs=>by have:=(zan5 (M:=M) I b).2 s hs;lia
 rcases zbd0.mp hx with p | p<;>rcases zbd0.mp hy with q | q
 ·exact h x p y q ne
 ·rw [zbd3]at q
  subst q
  have:=I.rg x p
  rw [gM_sym Y this.1 this.2 b0 b1]
  exact k x p
 ·rw [zbd3]at p
  subst p
  exact k y q
 ·rw [zbd3]at p q
  exact absurd (p.trans q.symm) ne
theorem rc_nx {n:Nat}{M:List (List Int)} (R:Rds n M) {C:List Int} (I:CIn n C) (n0:0<n) (hl:C.length<n):rcH n M C=nr M C (nxC n M C):=by
 have:=zv7 R I n0
 rw [nx_sg hl]at this
 exact this
theorem cN_ok {n:Nat}{M:List (List Int)} (R:Rds n M) (Y:SyM n M) (n0:0<n):∀ {k:Nat},k<n→(cN n M k).Nodup∧Ap M (rcH n M (cN n M k)) (cN n M k)
 |0,h=>⟨by simp [cN],fun x hx y hy ne=>by
   simp only [cN,zbd3]at hx hy
   exact absurd (hx.trans hy.symm) ne⟩
 |k+1,h=>by
  obtain⟨nd,ap⟩:=cN_ok R Y n0 (k:=k) (by lia)
  have I:=zy6 M (n:=n) (k:=k) (by lia)
  have I':=zy6 M (n:=n) (k:=k+1) h
  have hl:(cN n M k).length<n:=by rw [zo9];lia
  have m:=zt2 (nx_mem (M:=M) hl)
  refine⟨?_,?_⟩
  ·rw [cN,zbe0]
   refine⟨nd,by simp,fun x hx y hy e=>?_⟩
   rw [zbd3]at hy
   subst hy
   subst e
   exact m.2.2 hx
  ·have q:=ap_add Y I ap m.1 m.2.1 (by rw [rc_nx R I n0 hl];exact zbo1 _)
   have w:=zat7 (M:=M) I n0 (nxC n M (cN n M k)) I'
   intro x hx y hy ne
   have:=q x hx y hy ne
   have w:rcH n M (cN n M (k+1))≤rcH n M (cN n M k):=w
   lia
end KX
set_option maxHeartbeats 1000000
namespace KX
open PySem.Spec L2 DL
theorem wM_sy {n:Nat}{M:List (List Int)} (n0:0<n) (Y:SyM n M) (a b:Int):wM n M a b=wM n M b a:=Y _ _ (zbm0 _ n0) (zbm0 _ n0)
theorem zas1 {n:Nat}{M:List (List Int)} (n0:0<n) (T:TrM n n M) (a b c:Int):wM n M a c≤wM n M a b+wM n M b c:=T _ _ _ (zbm0 _ n0) (zbm0 _ n0) (zbm0 _ n0)
theorem zas0 {n:Nat}{M:List (List Int)} (n0:0<n) (R:Rds n M) (a:Int):wM n M a a=0:=R.dg _ (zbm0 _ n0)
theorem zas2 {n:Nat}{M:List (List Int)} (n0:0<n) (R:Rds n M) (a b:Int):0≤wM n M a b:=R.nn _ _ (zbm0 _ n0) (zbm0 _ n0)
theorem ixl_of {fa fb:DE}{t:Th}{r1:Ev} (L:List Int) (ha:fa t=some r1) (h1:r1.d=.lst (L.map D.int)) (hb:fb t=some (.cl (.int (-1)))) (h:0<L.length):(d2 kIx fa fb) t=some (.cl (.int (L.getD (L.length - 1) 0))):=by
 rw [zk8 ha hb]
 unfold kIx
 rw [h1]
 show (atI (L.map D.int) (-1)).map _=_
 have:atI (L.map D.int) (-1)=some (D.int (L.getD (L.length - 1) 0)):=by
  unfold atI ixN
  rw [if_neg (by decide),if_pos (by simp;lia),zbc8,show ((-1:Int)+((L.map D.int).length:Int)).toNat=L.length - 1 by simp;lia]
  have e:L[L.length - 1]?=some (L[L.length - 1]'(by lia)):=zbd1 _
  rw [zbg0,e,zbd6,e]
  rfl
 rw [this]
 simp [flat]
theorem zax1 {n:Nat}{M:List (List Int)} (S:Sq n M) {C:List Int} (I:CIn n C) (hl:C.length≤50000):(dT1 kSum (za3 (ze4 1 [0,1] (fsR1 (dT1 kLen (za3 (dVar 1) dNil))) (za2 0) zb4 feLg) dNil)) [.val (mD M),.val (.lst (C.map D.int))]=some (.cl (.int (cyc (wM n M) C))):=by
 have l1:=zaa1 (f:=dVar 1) (t:=[.val (mD M),.val (.lst (C.map D.int))]) (r:=.cl (.lst (C.map D.int))) (xs:=C) rfl rfl
 have c:=zah9 (fe:=feLg) (cap:=[0,1]) (g:=fun x=>lgF (wM n M) C x.toNat) (b:=true) (c:=[mD M,.lst (C.map D.int)]) l1 hl rfl fun x hx=>by
  obtain⟨x0,x1⟩:=zf2 hx
  let t:Th:=[.val (.int x),.val (mD M),.val (.lst (C.map D.int))]
  have g:∀k:Nat,k<C.length→0≤C.getD k 0∧C.getD k 0<(n:Int):=fun k hk=>by
   rw [zbd6,zbd1 hk]
   exact I.rg _ (zbh7 hk)
  have i2:=zaa3 (fa:=dVar 2) (fb:=dVar 0) (t:=t) (r1:=.cl (.lst (C.map D.int))) (r2:=.cl (.int x)) C x.toNat rfl rfl (by lia) rfl (by show D.int x=_;rw [zbi5 x0])
  have s1:=zat0 (fa:=dVar 0) (fb:=dC (.int 1)) (t:=t) (a:=x) (b:=1) rfl rfl
  have i1:(d2 kIx (dVar 2) (d2 qS (dVar 0) (dC (.int 1)))) t=some (.cl (.int (C.getD (if x.toNat=0 then C.length - 1 else x.toNat - 1) 0))):=by
   by_cases z:x=0
   ·subst z
    exact ixl_of C (fa:=dVar 2) (r1:=.cl (.lst (C.map D.int))) rfl rfl s1 I.ne
   ·rw [if_neg (by lia)]
    exact zaa3 C (x.toNat - 1) (fa:=dVar 2) (r1:=.cl (.lst (C.map D.int))) rfl s1 (by lia) rfl (by show D.int (x - 1)=_;congr 1;lia)
  have q1:=g (if x.toNat=0 then C.length - 1 else x.toNat - 1) (by split<;>lia)
  have q2:=g x.toNat (by lia)
  have:=zw6 S (fa:=dVar 1) (t:=t) (r1:=.cl (mD M)) rfl rfl i1 i2 q1.1 q1.2 q2.1 q2.2
  show _=some (Ev.cl (.int (lgF (wM n M) C x.toNat)))
  unfold lgF
  rw [zap3 q1.1 q1.2 q2.1 q2.2]
  exact this
 have:=sum_of c rfl
 rw [← lg_sum]
 rw [show ((zb7 C.length).map fun x=>lgF (wM n M) C x.toNat)=(zbf2 C.length).map (lgF (wM n M) C) by unfold zb7;rw [zbj8];rfl]at this
 exact this
theorem zax3 {n:Nat}{M:List (List Int)} (S:Sq n M) {C:List Int} (I:CIn n C) (hl:C.length≤50000):zn6 [mD M,.lst (C.map D.int)]=some (.cl (.int (cyc (wM n M) C))):=bnd (zn7 (zax1 S I hl))
theorem zan9 {n:Nat}{M:List (List Int)} (S:Sq n M) {C:List Int} (I:CIn n C) (hl:C.length≤50000):zl9 [mD M,.lst (C.map D.int)]=some (.cl (.int (cyc (wM n M) C))):=bnd (zn7 (zax1 S I hl))
theorem in_G {n:Nat}{M:List (List Int)} (S:Sq n M) {a:Int} (X:D) (a0:0≤a) (a1:a<(n:Int)):∀(l:List Int) (s1:Sl),(∀x∈l,0≤x∧x<(n:Int))→∃s1',zi3 (za2 1) zb4 feG (l.map D.int) [.val (.int a),s1,.val X,.val (mD M)]=some ((l.map fun b=>tD (wM n M) (a,b)),[.val (.int a),s1',.val X,.val (mD M)])
 |[],s1,_=>⟨s1,rfl⟩
 |b::l,s1,h=>by
  have hb:=h b (zbc9 ..)
  obtain⟨s1',ih⟩:=in_G S X a0 a1 l (.val (.int b)) fun x hx=>h x (zbc6 _ hx)
  refine⟨s1',?_⟩
  let t:Th:=[.val (.int a),.val (.int b),.val X,.val (mD M)]
  have e0:za2 1 (.int b) [.val (.int a),s1,.val X,.val (mD M)]=some t:=rfl
  have x:=zw6 S (fa:=dVar 3) (fb:=dVar 0) (fc:=dVar 1) (t:=t) (r1:=.cl (mD M)) (i:=a) (j:=b) rfl rfl rfl rfl a0 a1 hb.1 hb.2
  have e2:feG t=some (.cl (tD (wM n M) (a,b))):=by
   unfold tD
   rw [zap3 a0 a1 hb.1 hb.2]
   exact (t3_of x (rfl:dVar 0 t=some (.cl (.int a))) (rfl:dVar 1 t=some (.cl (.int b)))).trans rfl
  simp only [zbd7,zi3,e0,zbc8,zb4,if_true,e2]
  rw [show zi3 (za2 1) zb4 feG (l.map D.int) t=_ from ih]
  rfl
theorem out_G {n:Nat}{M:List (List Int)} (S:Sq n M) {A:List Int} (hA:∀x∈A,0≤x∧x<(n:Int)):∀(l:List Int) (s0 s1:Sl),(∀x∈l,0≤x∧x<(n:Int))→zh9 (za2 0) zb4 (fsL (dVar 2)) (za2 1) zb4 feG (l.map D.int) [s0,s1,.val (.lst (A.map D.int)),.val (mD M)]=some ((l.flatMap fun a=>A.map fun b=>(a,b)).map (tD (wM n M)))
 |[],s0,s1,_=>rfl
 |a::l,s0,s1,h=>by
  have ha:=h a (zbc9 ..)
  obtain⟨s1',e2⟩:=in_G S (.lst (A.map D.int)) ha.1 ha.2 A s1 hA
  have ih:=out_G S hA l (.val (.int a)) s1' fun x hx=>h x (zbc6 _ hx)
  have e0:za2 0 (.int a) [s0,s1,.val (.lst (A.map D.int)),.val (mD M)]=some [.val (.int a),s1,.val (.lst (A.map D.int)),.val (mD M)]:=rfl
  have e1:fsL (dVar 2) [.val (.int a),s1,.val (.lst (A.map D.int)),.val (mD M)]=some (true,A.map D.int):=rfl
  simp only [zbd7,zh9,e0,zbc8,zb4,if_true,e1,e2,ih,zbf8,zbi0,zbk0,zbj8]
  rfl
theorem zx7 (A:List Int):∀l:List Int,(l.flatMap fun a=>A.map fun b=>(a,b)).length=l.length*A.length
 |[]=>by simp
 |a::l=>by
  simp only [zbi0,zbf0,zbd9,zbf4,zbv4,zbv5,zx7 A l]
  lia
theorem zao4 (w:Int→Int→Int):∀l:List Ed,flats (l.map (tD w))=true
 |[]=>rfl
 |e::l=>by simp only [zbd7,flats,zao4 w l];rfl
def cdG:DT:=(dTr (dVar 2))
theorem turn_G {n:Nat}{M:List (List Int)} (S:Sq n M) {P U:List Int}{T:List Ed} (hP:∀x∈P,0≤x∧x<(n:Int)) (hU:∀x∈U,0≤x∧x<(n:Int)) (pn:P≠[]) (un:U≠[]) (lp:P.length≤100) (lu:U.length≤100) (lt:T.length≤100) (s4 s5 s6:Sl) :
  ∃(e:Ed) (u4 u5 u6:Sl),e.1∈P∧e.2∈U∧(∀a∈P,∀b∈U,wM n M e.1 e.2≤wM n M a b)∧bdG [.val (mD M),.own (P.map D.int),.own (U.map D.int),.own (T.map pD),s4,s5,s6]=some (.nx [.val (mD M),.own ((P++[e.2]).map D.int),.own ((U.erase e.2).map D.int),.own ((T++[e]).map pD),u4,u5,u6]):=by
 let t:Th:=[.val (mD M),.own (P.map D.int),.own (U.map D.int),.own (T.map pD),s4,s5,s6]
 have c2:(zl6 2 [2,0] (fsL (dVar 1)) (za2 0) zb4 (fsL (dVar 2)) (za2 1) zb4 feG) t=some (.nw ((P.flatMap fun a=>U.map fun b=>(a,b)).map (tD (wM n M)))):=by
  have e2:=out_G S (A:=U) hU P .no .no hP
  unfold zl6
  show (zh9 (za2 0) zb4 (fsL (dVar 2)) (za2 1) zb4 feG (P.map D.int) [.no,.no,.val (.lst (U.map D.int)),.val (mD M)]).bind _=_
  rw [e2]
  have ll:=zx7 U P
  have:P.length*U.length≤100*100:=zbo6 lp lu
  simp only [zbc8,zao4,zbn5,zbd9]
  rw [if_pos (decide_eq_true (by lia))]
 have ne:(P.flatMap fun a=>U.map fun b=>(a,b))≠[]:=fun z=>by
  have:=zx7 U P
  rw [z]at this
  have p1:0<P.length:=zbr7.mpr pn
  have p2:0<U.length:=zbr7.mpr un
  have:=Nat.mul_pos p1 p2
  simp only [List.length_nil]at *
  lia
 obtain⟨e,m,le,e3⟩:=extT_of c2 rfl ne
 obtain⟨a,ma,mb'⟩:=zbt8.mp m
 obtain⟨b,mb,z⟩:=zbf6.mp mb'
 subst z
 refine⟨(a,b),.val (tD (wM n M) (a,b)),.val (.int a),.val (.int b),ma,mb,fun x hx y hy=>le (x,y) (zbt8.mpr ⟨x,hx,zbf6.mpr ⟨y,hy,rfl⟩⟩),?_⟩
 have E1:=zl8 (i:=4) e3 (by simp [t])
 have E2:(dPar 5 6 (za3 (d2 kIx (dVar 4) (dC (.int 1))) (za3 (d2 kIx (dVar 4) (dC (.int 2))) dNil))) [.val (mD M),.own (P.map D.int),.own (U.map D.int),.own (T.map pD),.val (tD (wM n M) (a,b)),s5,s6]=some (.nx [.val (mD M),.own (P.map D.int),.own (U.map D.int),.own (T.map pD),.val (tD (wM n M) (a,b)),.val (.int a),.val (.int b)]):=rfl
 let t2:Th:=[.val (mD M),.own (P.map D.int),.own (U.map D.int),.own (T.map pD),.val (tD (wM n M) (a,b)),.val (.int a),.val (.int b)]
 have E3:=app_of (i:=3) t2 (f:=(dT1 kTup (za3 (dVar 5) (za3 (dVar 6) dNil)))) (d:=pD (a,b)) (xs:=T.map pD) rfl rfl (by simp;lia)
 have E4:=zy8 (i:=1) (t2.set 3 (.own (T.map pD++[pD (a,b)]))) (f:=dVar 6) (xs:=P) (p:=b) rfl rfl (by lia)
 have E5:=rem_of (i:=2) (t:=[.val (mD M),.own ((P++[b]).map D.int),.own (U.map D.int),.own (T.map pD++[pD (a,b)]),.val (tD (wM n M) (a,b)),.val (.int a),.val (.int b)]) (f:=dVar 6) (r:=.cl (.int b)) (K:=U) (p:=b) rfl rfl rfl mb
 have:=(zc1 E1).trans ((zc1 E2).trans ((zc1 E3).trans ((zc1 E4).trans E5)))
 rw [show ((T++[(a,b)]).map pD)=T.map pD++[pD (a,b)] by simp]
 exact this
theorem zar8 {n:Nat}{M:List (List Int)} (S:Sq n M):∀(m f:Nat) (P U:List Int) (T:List Ed) (s4 s5 s6:Sl),U.length=m→m<f→(∀x∈P,0≤x∧x<(n:Int))→(∀x∈U,0≤x∧x<(n:Int))→P≠[]→P.length+m≤100→T.length+m≤100 →
  ∃(P':List Int) (T':List Ed) (u4 u5 u6:Sl),Prim (wM n M) P U T'∧T'.length=m∧whD cdG bdG f [.val (mD M),.own (P.map D.int),.own (U.map D.int),.own (T.map pD),s4,s5,s6]=some (.nx [.val (mD M),.own (P'.map D.int),.own [],.own ((T++T').map pD),u4,u5,u6])
 |0,f+1,P,U,T,s4,s5,s6,hm,hf,hP,hU,pn,lp,lt=>by
  cases zbh4.mp hm
  refine⟨P,[],s4,s5,s6,.nil,rfl,?_⟩
  rw [zbg7]
  rfl
 |m+1,f+1,P,U,T,s4,s5,s6,hm,hf,hP,hU,pn,lp,lt=>by
  have un:U≠[]:=fun z=>by rw [z]at hm;simp at hm
  obtain⟨e,u4,u5,u6,m1,m2,le,eb⟩:=turn_G S (T:=T) hP hU pn un (by lia) (by lia) (by lia) s4 s5 s6
  obtain⟨P',T',v4,v5,v6,pr,lT,ih⟩:=zar8 S m f (P++[e.2]) (U.erase e.2) (T++[e]) u4 u5 u6 (by rw [zbl8 m2];lia) (by lia)
   (fun x hx=>by rcases zbd0.mp hx with q | q;exact hP x q;rw [zbd3]at q;subst q;exact hU _ m2)
   (fun x hx=>hU x (zbj0 hx)) (by simp) (by simp;lia) (by simp;lia)
  refine⟨P',e::T',v4,v5,v6,.cons m1 m2 le pr,by simp [lT],?_⟩
  have cd:cdG [.val (mD M),.own (P.map D.int),.own (U.map D.int),.own (T.map pD),s4,s5,s6]=some true:=by
   cases U with
   |nil=>exact absurd rfl un
   |cons a U=>rfl
  unfold whD
  rw [cd]
  simp only [zbc8,if_true,eb]
  rw [ih,zbj9]
  rfl
def zq7 (n:Nat):List Int:=(zbf2 (n - 1)).map fun k=>((k+1:Nat):Int)
theorem late_of {f:DE}{t:Th}{n:Nat} (h:f t=some (.cl (.int (n:Int)))) (n0:1≤n) (n1:n≤9):(zq6 (za3 (dC (.int 1)) (za3 f dNil))) t=some (.nw ((zq7 n).map D.int)):=by
 unfold zq6
 rw [show (za3 (dC (.int 1)) (za3 f dNil)) t=some [.cl (.int 1),.cl (.int (n:Int))] by simp [za3,dC,h,dNil]]
 rcases (by lia:n=1∨n=2∨n=3∨n=4∨n=5∨n=6∨n=7∨n=8∨n=9) with z | z | z | z | z | z | z | z | z<;>subst z<;>rfl
theorem zp6 {n:Nat}{x:Int} (h:x∈zq7 n):1≤x∧x<(n:Int):=by
 obtain⟨k,hk,rfl⟩:=zbf6.mp h
 have:=zbl4.mp hk
 lia
theorem mem_late {n:Nat}{x:Int} (h0:1≤x) (h1:x<(n:Int)):x∈zq7 n:=zbf6.mpr ⟨x.toNat - 1,zbl4.mpr (by lia),by lia⟩
theorem zax6 (n:Nat):(zq7 n).Nodup:=by
 unfold zq7
 refine zbs7.mpr ?_
 exact (zbt5 (n:=n - 1)).imp fun h e=>h (by lia)
theorem tree_is {n:Nat}{M:List (List Int)} (S:Sq n M) (n0:1≤n) (n1:n≤9):∃T:List Ed,Prim (wM n M) [0] (zq7 n) T∧T.length=n - 1∧zk0 [mD M]=some (.nw (T.map pD)):=by
 let t:Th:=[.val (mD M),.own ([0].map D.int),.no,.no,.no,.no,.no]
 have ln:=zn2 (f:=dVar 0) (t:=t) (r:=.cl (mD M)) rfl rfl
 rw [S.len]at ln
 have E1:dAsg 1 (dT1 kLst (za3 (dC (.int 0)) dNil)) [.val (mD M),.no,.no,.no,.no,.no,.no]=some (.nx t):=rfl
 have E2:=zy7 (i:=2) (late_of ln n0 n1) (by simp [t])
 have ll:(zq7 n).length=n - 1:=by simp [zq7]
 obtain⟨P',T,u4,u5,u6,pr,lT,E4⟩:=zar8 S (n - 1) 60 [0] (zq7 n) [] .no .no .no ll (by lia) (fun x hx=>by simp at hx;lia) (fun x hx=>by have:=zp6 hx;lia) (by simp) (by simp;lia) (by simp;lia)
 refine⟨T,pr,lT,?_⟩
 show (zo7 [.val (mD M),.no,.no,.no,.no,.no,.no]).bind zg9=_
 have E3:dAsg 3 (dT1 kLst dNil) [.val (mD M),.own ([0].map D.int),.own ((zq7 n).map D.int),.no,.no,.no,.no]=some (.nx [.val (mD M),.own ([0].map D.int),.own ((zq7 n).map D.int),.own (([]:List Ed).map pD),.no,.no,.no]):=rfl
 exact bnd ((zc1 E1).trans ((zc1 E2).trans ((zc1 E3).trans ((zc1 (show zt8 (fun _=>60) cdG bdG _=_ from E4)).trans rfl))))
def zt3 (T:List Ed) (u:Int):List Int:=(T.filter fun e=>decide (e.1=u)).map (·.2)
def chI (T:List Ed) (u:Int):List Int:=zr8 (zt3 T u)
theorem hngI (T:List Ed):Hng T (chI T):=⟨fun u=>zg1 _⟩
theorem zac2 (T:List Ed) (u:Int):(zt3 T u).length≤T.length:=by
 unfold zt3
 rw [zbd9]
 exact List.length_filter_le ..
theorem kids_mem {T:List Ed}{u x:Int} (h:x∈zt3 T u):∃e∈T,e.2=x:=by
 obtain⟨e,he,z⟩:=zbf6.mp h
 exact⟨e,(zbh5.mp he).1,z⟩
def hgM (n:Nat) (T:List Ed):List (List Int):=(zbf2 n).map fun (p:Nat)=>zt3 T (p:Int)
theorem zao2 {n:Nat}{T:List Ed}{q:Nat} (h:q<n):(hgM n T)[q]?=some (zt3 T (q:Int)):=by simp [hgM,h]
theorem hg_getD {n:Nat}{T:List Ed}{q:Int} (h0:0≤q) (h1:q<(n:Int)):(hgM n T).getD q.toNat []=zt3 T q:=by
 rw [zbd6,zao2 (by lia),zbi5 h0]
 rfl
theorem hg_snoc {n:Nat} (l:List Ed) (e:Ed) (h0:0≤e.1) (h1:e.1<(n:Int)):((hgM n l).map rwD).set e.1.toNat (.lst ((zt3 l e.1).map D.int++[.int e.2]))=(hgM n (l++[e])).map rwD:=by
 apply List.ext_getElem?
 intro p
 have hl:((hgM n l).map rwD).length=n:=by simp [hgM]
 have kp:zt3 (l++[e]) (p:Int)=zt3 l (p:Int)++(if e.1=(p:Int) then [e.2] else []):=by
  unfold zt3
  rw [List.filter_append,zbk0]
  congr 1
  by_cases z:e.1=(p:Int)<;>simp [z]
 by_cases hp:p<n
 ·rw [List.getElem?_set,zbg0,zbg0,zao2 hp,zao2 hp,kp]
  by_cases z:e.1.toNat=p
  ·have z':e.1=(p:Int):=by lia
   rw [if_pos z,if_pos (by lia),if_pos z',z']
   simp [rwD]
  ·rw [if_neg z,if_neg (by lia),zbg7]
 ·rw [zbm8 (by rw [List.length_set];lia),zbm8 (by simp [hgM];lia)]
theorem appR_of {t:Th}{i a:Nat}{rows ds:List D}{f:DE}{fa:DE}{b:Int} (hi:t[i]?=some (.dp (.lst rows))) (ha:fa t=some (.cl (.int (a:Int)))) (hf:f t=some (.cl (.int b))) (hr:rows[a]?=some (.lst ds)) (hl:ds.length<100000):zar2 i [fa] f t=some (.nx (t.set i (.dp (.lst (rows.set a (.lst (ds++[.int b]))))))):=by
 have la:a<rows.length:=(zbg5.mp hr).1
 unfold zar2
 have ep:pthD [fa] t=some [(a:Int)]:=by
  unfold pthD
  rw [ha]
  rfl
 rw [ep,hf]
 show zay0 t i [(a:Int)] (.cl (.int b))=_
 unfold zay0
 rw [hi]
 have eg:getP (.lst rows) [(a:Int)]=some (.lst ds):=by
  show (atI rows (a:Int)).bind (fun x=>getP x [])=_
  unfold atI
  rw [zag3 _ a la]
  show (rows[a]?).bind _=_
  rw [hr]
  rfl
 have eq:putP (.lst rows) [(a:Int)] (.lst (ds++[.int b]))=some (.lst (rows.set a (.lst (ds++[.int b])))):=by
  show (ixN rows.length (a:Int)).bind _=_
  rw [zag3 _ a la]
  show (rows[a]?).bind _=_
  rw [hr]
  rfl
 simp only [eg]
 show (if flat (D.int b)&&decide (ds.length<100000) then _ else none)=_
 rw [decide_eq_true hl]
 show (putP (.lst rows) [(a:Int)] (.lst (ds++[.int b]))).map _=_
 rw [eq]
 rfl
def bdH:DS:=(zar2 2 [(dVar 3)] (dVar 4))
theorem loop_H {s0 s1 s5 s6:Sl}{n:Nat}:∀(T l:List Ed) (s3 s4:Sl),(∀e∈T,0≤e.1∧e.1<(n:Int))→l.length+T.length≤1000→∃u3 u4,forD (zj0 2 (zc7 (za2 3) (zc7 (za2 4) zk4))) bdH (T.map pD) [s0,s1,.dp (mD (hgM n l)),s3,s4,s5,s6]=some (.nx [s0,s1,.dp (mD (hgM n (l++T))),u3,u4,s5,s6])
 |[],l,s3,s4,_,_=>⟨s3,s4,by rw [zbg7];rfl⟩
 |e::T,l,s3,s4,h,hl=>by
  simp only [zbf4]at hl
  obtain⟨h0,h1⟩:=h e (zbc9 ..)
  obtain⟨u3,u4,ih⟩:=loop_H (s0:=s0) (s1:=s1) (s5:=s5) (s6:=s6) (n:=n) T (l++[e]) (.val (.int e.1)) (.val (.int e.2)) (fun v hv=>h v (zbc6 _ hv)) (by simp only [zbf0,zbg3];lia)
  refine⟨u3,u4,?_⟩
  let t:Th:=[s0,s1,.dp (mD (hgM n l)),.val (.int e.1),.val (.int e.2),s5,s6]
  have e0:(zj0 2 (zc7 (za2 3) (zc7 (za2 4) zk4))) (pD e) [s0,s1,.dp (mD (hgM n l)),s3,s4,s5,s6]=some t:=rfl
  have kl:=zac2 l e.1
  have eb:=appR_of (t:=t) (i:=2) (a:=e.1.toNat) (rows:=(hgM n l).map rwD) (ds:=(zt3 l e.1).map D.int) (fa:=dVar 3) (f:=dVar 4) (b:=e.2) rfl (by show some (Ev.cl (.int e.1))=_;rw [zbi5 h0]) rfl (by rw [zbg0,zao2 (by lia),zbi5 h0];rfl) (by rw [zbd9];lia)
  rw [hg_snoc l e h0 h1]at eb
  simp only [zbd7,forD,e0,zbc8]
  rw [show bdH t=_ from eb]
  rw [show l++e::T=l++[e]++T by simp]
  exact ih
theorem zai0:∀(l:List Int) (s:Sl),zf9 (za2 0) zb4 (dT1 kLst dNil) (l.map D.int) [s]=some (l.map fun _=>rwD [])
 |[],s=>rfl
 |x::l,s=>by
  have ih:=zai0 l (.val (.int x))
  have e0:za2 0 (.int x) [s]=some [.val (.int x)]:=rfl
  rw [zbd7]
  unfold zf9
  rw [e0]
  show (zf9 (za2 0) zb4 (dT1 kLst dNil) (l.map D.int) [.val (.int x)]).map _=_
  rw [ih]
  rfl
theorem zba3 {t:Th}{f:DE}{n:Nat} (hn:n≤1000) (hf:f t=some (.cl (.int (n:Int)))):(zi2 1 [] (fsR1 f) (za2 0) zb4 (dT1 kLst dNil)) t=some (.dn (mD (hgM n []))):=by
 unfold zi2
 rw [zat4 hf (by lia)]
 show (if ((zb7 n).map D.int).length≤50000 then (zf9 (za2 0) zb4 (dT1 kLst dNil) ((zb7 n).map D.int) [Sl.no]).map (fun xs=>Ev.dn (.lst xs)) else none)=_
 rw [if_pos (by rw [zbd9,ze0];lia),zai0]
 have:(zb7 n).map (fun _=>rwD [])=(hgM n []).map rwD:=by
  unfold zb7 hgM
  rw [zbj8,zbj8]
  rfl
 rw [this]
 rfl
def cdD:DT:=(dTr (dVar 6))
theorem intsD_map:∀xs:List Int,zj6 (xs.map D.int)=some xs
 |[]=>rfl
 |x::xs=>by simp [zj6,intsD_map xs]
theorem turn_D {s0 s1 s3 s4:Sl}{n:Nat}{T:List Ed}{C W:List Int}{q:Int} (q0:0≤q) (q1:q<(n:Int)) (hT:T.length≤40) (hC:C.length≤1000) (hW:W.length≤1000):∃u3,bdD [s0,s1,.dp (mD (hgM n T)),s3,s4,.own (C.map D.int),.own ((W++[q]).map D.int)]=some (.nx [s0,s1,.dp (mD (hgM n T)),u3,s4,.own ((C++[q]).map D.int),.own ((W++(chI T q).reverse).map D.int)]):=by
 refine⟨.val (.int q),?_⟩
 have E1:dPop 3 6 [s0,s1,.dp (mD (hgM n T)),s3,s4,.own (C.map D.int),.own ((W++[q]).map D.int)]=some (.nx [s0,s1,.dp (mD (hgM n T)),.val (.int q),s4,.own (C.map D.int),.own (W.map D.int)]):=by
  show kPop _ 3 6=_
  unfold kPop
  simp [zm0]
 let t:Th:=[s0,s1,.dp (mD (hgM n T)),.val (.int q),s4,.own (C.map D.int),.own (W.map D.int)]
 have E2:=zy8 (i:=5) t (f:=dVar 3) (xs:=C) (p:=q) rfl rfl (by lia)
 let t2:Th:=[s0,s1,.dp (mD (hgM n T)),.val (.int q),s4,.own ((C++[q]).map D.int),.own (W.map D.int)]
 obtain⟨r,er,rd⟩:=row_at (fa:=dVar 2) (fb:=dVar 3) (t:=t2) (r1:=.tm (mD (hgM n T))) (M:=hgM n T) (i:=q) rfl rfl rfl q0 (by simp [hgM];exact q1)
 rw [hg_getD q0 q1]at rd
 have kl:=zac2 T q
 have E3:dExt 6 (dT1 zaa2 (za3 (d2 kIx (dVar 2) (dVar 3)) dNil)) t2=some (.nx [s0,s1,.dp (mD (hgM n T)),.val (.int q),s4,.own ((C++[q]).map D.int),.own ((W++(chI T q).reverse).map D.int)]):=by
  have es:(dT1 zaa2 (za3 (d2 kIx (dVar 2) (dVar 3)) dNil)) t2=some (.nw ((chI T q).reverse.map D.int)):=by
   rw [zk9 er]
   unfold zaa2
   simp only [rd,rwD,intsD_map,zbc8]
   rw [if_pos (by lia)]
   rfl
  unfold dExt
  rw [es]
  show (if decide ((W.map D.int).length+((chI T q).reverse.map D.int).length≤100000) then some (Out.nx (t2.set 6 (.own (W.map D.int++(chI T q).reverse.map D.int)))) else none)=_
  have cl:(chI T q).length=(zt3 T q).length:=(zg1 _).length_eq
  rw [if_pos (decide_eq_true (by simp only [zbd9,zbn6];lia)), ← zbk0]
  rfl
 exact (zc1 E1).trans ((zc1 E2).trans E3)
theorem zar9 {s0 s1 s4:Sl}{n:Nat}{T:List Ed} (hT:T.length≤10) (hk:∀e∈T,0≤e.2∧e.2<(n:Int)):∀(f:Nat) (st C:List Int) (s3:Sl),(trav (chI T) f st).2=[]→(∀x∈st,0≤x∧x<(n:Int))→C.length+f≤900→st.length+10*f≤900 →
  ∃u3,whD cdD bdD (f+1) [s0,s1,.dp (mD (hgM n T)),s3,s4,.own (C.map D.int),.own (st.reverse.map D.int)]=some (.nx [s0,s1,.dp (mD (hgM n T)),u3,s4,.own ((C++(trav (chI T) f st).1).map D.int),.own []])
 |f,[],C,s3,_,_,_,_=>by
  have:(trav (chI T) f []).1=[]:=by cases f<;>rfl
  rw [this,zbg7]
  exact⟨s3,rfl⟩
 |0,q::st,C,s3,h,_,_,_=>by cases h
 |f+1,q::st,C,s3,h,hst,lc,ls=>by
  simp only [zbf4]at ls
  have hq:=hst q (zbc9 ..)
  obtain⟨u3,eb⟩:=turn_D (s0:=s0) (s1:=s1) (s3:=s3) (s4:=s4) (n:=n) (T:=T) (C:=C) (W:=st.reverse) (q:=q) hq.1 hq.2 (by lia) (by lia) (by rw [zbn6];lia)
  have cl:(chI T q).length≤T.length:=by rw [show (chI T q).length=_ from (zg1 _).length_eq];exact zac2 T q
  obtain⟨v3,ih⟩:=zar9 hT hk f (chI T q++st) (C++[q]) u3 h (fun x hx=>by
   rcases zbd0.mp hx with m | m
   ·obtain⟨e,he,z⟩:=kids_mem ((zg1 _).mem_iff.mp m)
    rw [← z];exact hk e he
   ·exact hst x (zbc6 _ m)) (by simp only [zbf0,zbg3];lia) (by simp only [zbf0];lia)
  refine⟨v3,?_⟩
  rw [List.reverse_cons]
  have cd:cdD [s0,s1,.dp (mD (hgM n T)),s3,s4,.own (C.map D.int),.own ((st.reverse++[q]).map D.int)]=some true:=by
   show truD (.lst ((st.reverse++[q]).map D.int))=some true
   cases st.reverse<;>rfl
  unfold whD
  rw [cd]
  simp only [zbc8,if_true,eb]
  rw [List.reverse_append]at ih
  rw [show C++(trav (chI T) (f+1) (q::st)).1=C++[q]++(trav (chI T) f (chI T q++st)).1 by simp [trav]]
  exact ih
theorem down_is {n:Nat}{T:List Ed} (n1:n≤9) (hT:T.length≤8) (g:Grown [0] T) (hk:∀e∈T,(0≤e.1∧e.1<(n:Int))∧0≤e.2∧e.2<(n:Int)) (n0:0<n):zh0 [.int (n:Int),.lst (T.map pD)]=some (.nw ((trav (chI T) 59 [0]).1.map D.int)):=by
 let s0:Sl:=.val (.int (n:Int))
 let s1:Sl:=.val (.lst (T.map pD))
 have E1:dAsg 2 (zi2 1 [] (fsR1 (dVar 0)) (za2 0) zb4 (dT1 kLst dNil)) [s0,s1,.no,.no,.no,.no,.no]=some (.nx [s0,s1,.dp (mD (hgM n [])),.no,.no,.no,.no]):=by
  unfold dAsg
  rw [zba3 (n:=n) (by lia) rfl]
  rfl
 obtain⟨u3,u4,E2⟩:=loop_H (s0:=s0) (s1:=s1) (s5:=.no) (s6:=.no) (n:=n) T [] .no .no (fun e he=>(hk e he).1) (by simp;lia)
 rw [zbk9]at E2
 have E2':dFor (zj0 2 (zc7 (za2 3) (zc7 (za2 4) zk4))) (dVar 1) bdH [s0,s1,.dp (mD (hgM n [])),.no,.no,.no,.no]=some (.nx [s0,s1,.dp (mD (hgM n T)),u3,u4,.no,.no]):=E2
 obtain⟨tn,tp⟩:=zab1 (n:=59) g (hngI T) (by lia)
 obtain⟨v3,E5⟩:=zar9 (s0:=s0) (s1:=s1) (s4:=u4) (n:=n) (T:=T) (by lia) (fun e he=>(hk e he).2) 59 [0] [] u3 tn (fun x hx=>by simp at hx;lia) (by simp) (by simp)
 have E3:dAsg 5 (dT1 kLst dNil) [s0,s1,.dp (mD (hgM n T)),u3,u4,.no,.no]=some (.nx [s0,s1,.dp (mD (hgM n T)),u3,u4,.own (([]:List Int).map D.int),.no]):=rfl
 have E4:dAsg 6 (dT1 kLst (za3 (dC (.int 0)) dNil)) [s0,s1,.dp (mD (hgM n T)),u3,u4,.own (([]:List Int).map D.int),.no]=some (.nx [s0,s1,.dp (mD (hgM n T)),u3,u4,.own (([]:List Int).map D.int),.own ([0].reverse.map D.int)]):=rfl
 show (zq9 [s0,s1,.no,.no,.no,.no,.no]).bind zg9=_
 exact bnd ((zc1 E1).trans ((zc1 E2').trans ((zc1 E3).trans ((zc1 E4).trans ((zc1 (show zt8 (fun _=>60) cdD bdD _=_ from E5)).trans rfl)))))
theorem callT {G:List D→Option Ev}{rs:List Ev}{T:List Ed} (h:G (rs.map Ev.d)=some (.nw (T.map pD))):zc2 G rs=some (.nw (T.map pD)):=by
 unfold zc2
 rw [h]
 show some (upEv (rs.all Ev.ok) (.nw (T.map pD)))=_
 unfold upEv
 cases rs.all Ev.ok with
 |true=>rfl
 |false=>simp [zac5]
theorem zar3 {n:Nat}{M:List (List Int)} (S:Sq n M) (n0:1≤n) (n1:n≤9):∃T:List Ed,Prim (wM n M) [0] (zq7 n) T∧T.length=n - 1∧(∀e∈T,(0≤e.1∧e.1<(n:Int))∧0≤e.2∧e.2<(n:Int))∧Grown [0] T∧(T.map (·.2)).Perm (zq7 n)∧ze2 [mD M]=some (.dn (.tup [.lst ((trav (chI T) 59 [0]).1.map D.int),.lst (T.map pD)])):=by
 obtain⟨T,pr,lT,e1⟩:=tree_is S n0 n1
 obtain⟨g,pm⟩:=zaq0 pr (zax6 n) (fun v hv h=>by have:=zp6 hv;simp at h;lia)
 have k2:∀e∈T,0≤e.2∧e.2<(n:Int):=fun e he=>by
  have:=zp6 (pm.mem_iff.mp (zbf6.mpr ⟨e,he,rfl⟩))
  lia
 have k1:∀e∈T,0≤e.1∧e.1<(n:Int):=by
  have:∀ {P U:List Int}{T:List Ed},Prim (wM n M) P U T→(∀x∈P,0≤x∧x<(n:Int))→(∀x∈U,0≤x∧x<(n:Int))→∀e∈T,0≤e.1∧e.1<(n:Int):=by
   intro P U T h
   induction h with
   |nil=>intro _ _ e he;cases he
   |cons a b c d ih =>
    intro hP hU e he
    rcases zbd2.mp he with z | z
    ·subst z;exact hP _ a
    ·exact ih (fun x hx=>by rcases zbd0.mp hx with q | q;exact hP x q;rw [zbd3]at q;subst q;exact hU _ b) (fun x hx=>hU x (zbj0 hx)) e z
  exact this pr (fun x hx=>by simp at hx;lia) (fun x hx=>by have:=zp6 hx;lia)
 refine⟨T,pr,lT,fun e he=>⟨k1 e he,k2 e he⟩,g,pm,?_⟩
 have dn:=down_is (n:=n) (T:=T) n1 (by lia) g (fun e he=>⟨k1 e he,k2 e he⟩) (by lia)
 have E1:=zy7 (i:=1) (t:=[.val (mD M),.no]) ((zk9 (rfl:dVar 0 [.val (mD M),.no]=some (.cl (mD M)))).trans (callT e1)) (by simp)
 let t:Th:=[.val (mD M),.own (T.map pD)]
 have ln:=zn2 (f:=dVar 0) (t:=t) (r:=.cl (mD M)) rfl rfl
 rw [S.len]at ln
 have e2:(dT1 (zc2 zh0) (za3 (dT1 kLen (za3 (dVar 0) dNil)) (za3 (dVar 1) dNil))) t=some (.nw ((trav (chI T) 59 [0]).1.map D.int)) :=
  (zq0 ln (rfl:dVar 1 t=some (.tm (.lst (T.map pD))))).trans (calln dn)
 have E2:zaz9 (mTup (zak6 (mOf (dT1 (zc2 zh0) (za3 (dT1 kLen (za3 (dVar 0) dNil)) (za3 (dVar 1) dNil)))) (zak6 (mOwn 1) mNil))) t=some (.rt (.dn (.tup [.lst ((trav (chI T) 59 [0]).1.map D.int),.lst (T.map pD)]))):=by
  unfold zaz9 mTup zak6 mOf
  rw [e2]
  have q1:toDn (.nw ((trav (chI T) 59 [0]).1.map D.int))=some (.lst ((trav (chI T) 59 [0]).1.map D.int)):=by simp only [toDn,zd1,if_true]
  have q2:mOwn 1 t=some (.lst (T.map pD),t.set 1 .no):=by
   show (if flats (T.map pD) then some (D.lst (T.map pD),t.set 1 .no) else none)=_
   rw [zac5];rfl
  simp only [zbc8,q1,zbf8,q2]
  rfl
 show (zk5 [.val (mD M),.no]).bind zg9=_
 exact bnd ((zc1 E1).trans E2)
def ab (x:Int):Int:=if x<0 then -x else x
theorem ab_tri (x y z:Int):ab (x - z)≤ab (x - y)+ab (y - z):=by unfold ab;split<;>split<;>split<;>lia
theorem ab_sy (x y:Int):ab (x - y)=ab (y - x):=by unfold ab;split<;>split<;>lia
def stp (a b:Int):Int:=ab (a.fmod 4 - b.fmod 4)+ab (a.fdiv 4 - b.fdiv 4)
theorem steps_is {a b:Int} (a0:0≤a) (a1:a<16) (b0:0≤b) (b1:b<16):zh1 [.int a,.int b]=some (.cl (.int (stp a b))):=by
 let t:Th:=[.val (.int a),.val (.int b)]
 have m1:=zl2 (fa:=dVar 0) (fb:=dC (.int 4)) (t:=t) (a:=a) (b:=4) rfl rfl (by decide)
 have m2:=zl2 (fa:=dVar 1) (fb:=dC (.int 4)) (t:=t) (a:=b) (b:=4) rfl rfl (by decide)
 have d1:=zaz1 (fa:=dVar 0) (fb:=dC (.int 4)) (t:=t) (a:=a) (b:=4) rfl rfl (by decide) (zi8 (by lia) (by lia))
 have d2:=zaz1 (fa:=dVar 1) (fb:=dC (.int 4)) (t:=t) (a:=b) (b:=4) rfl rfl (by decide) (zi8 (by lia) (by lia))
 exact bnd (zn7 (zp0 (abs_of (zat0 m1 m2)) (abs_of (zat0 d1 d2))))
theorem fd4 {a:Int} (a0:0≤a) (a1:a<16):0≤a.fdiv 4∧a.fdiv 4<4:=by
 rw [Int.fdiv_eq_ediv_of_nonneg _ (by decide)]
 lia
theorem zat1 {a b:Int} (a0:0≤a) (a1:a<16) (b0:0≤b) (b1:b<16):0≤stp a b∧stp a b≤6:=by
 have m1:=fm (a:=a) (b:=4) (by decide)
 have m2:=fm (a:=b) (b:=4) (by decide)
 have d1:=fd4 a0 a1
 have d2:=fd4 b0 b1
 unfold stp ab
 split<;>split<;>lia
theorem stp_sy (a b:Int):stp a b=stp b a:=by
 unfold stp
 rw [ab_sy,ab_sy (a.fdiv 4)]
theorem stp_tr (a b c:Int):stp a c≤stp a b+stp b c:=by
 have:=ab_tri (a.fmod 4) (b.fmod 4) (c.fmod 4)
 have:=ab_tri (a.fdiv 4) (b.fdiv 4) (c.fdiv 4)
 unfold stp
 lia
theorem stp_zz (a:Int):stp a a=0:=by unfold stp ab;simp
def rdM (f:Int) (xs:List Int):List (List Int):=xs.map fun a=>xs.map fun b=>f*stp a b
theorem zo3 {f:Int}{xs:List Int}{i j:Nat} (hi:i<xs.length) (hj:j<xs.length):eM (rdM f xs) i j=f*stp (xs.getD i 0) (xs.getD j 0):=by
 simp [eM,rdM,zbd6,hi,hj]
theorem rdM_ok {f:Int}{xs:List Int} (f0:0≤f) (f1:f≤1000000000) (h:∀x∈xs,0≤x∧x<16):Rds xs.length (rdM f xs)∧SyM xs.length (rdM f xs)∧TrM xs.length xs.length (rdM f xs)∧BdM xs.length (rdM f xs):=by
 have g:∀k:Nat,k<xs.length→0≤xs.getD k 0∧xs.getD k 0<16:=fun k hk=>by
  rw [zbd6,zbd1 hk]
  exact h _ (zbh7 hk)
 refine⟨⟨⟨by simp [rdM],fun r hr=>?_⟩,fun i j hi hj=>?_,fun i hi=>?_⟩,fun i j hi hj=>?_,fun t i j ht hi hj=>?_,fun i j hi hj=>?_⟩
 ·obtain⟨a,_,rfl⟩:=zbf6.mp hr
  simp
 ·have:=zo3 (f:=f) hi hj
  unfold eM at this
  rw [this]
  exact zbr6 f0 (zat1 (g i hi).1 (g i hi).2 (g j hj).1 (g j hj).2).1
 ·have:=zo3 (f:=f) hi hi
  unfold eM at this
  rw [this,stp_zz,Int.mul_zero]
 ·rw [zo3 hi hj,zo3 hj hi,stp_sy]
 ·rw [zo3 hi hj,zo3 hi ht,zo3 ht hj, ← Int.mul_add]
  exact zbn0 (stp_tr ..) f0
 ·rw [zo3 hi hj]
  have q:=zat1 (g i hi).1 (g i hi).2 (g j hj).1 (g j hj).2
  have:f*stp (xs.getD i 0) (xs.getD j 0)≤f*6:=zbn0 q.2 f0
  lia
theorem zba7 {fe:DE}{g:Int→List Int}{ext:Th}:∀(l:List Int) (s:Sl),(∀x∈l,fe (.val (.int x)::ext)=some (.nw ((g x).map D.int)))→zf9 (za2 0) zb4 fe (l.map D.int) (s::ext)=some ((l.map g).map rwD)
 |[],s,_=>rfl
 |x::l,s,h=>by
  have e0:za2 0 (.int x) (s::ext)=some (.val (.int x)::ext):=rfl
  have e1:=h x (zbc9 ..)
  have e2:toDn (.nw ((g x).map D.int))=some (rwD (g x)):=by simp only [toDn,zd1,if_true];rfl
  have ih:=zba7 l (.val (.int x)) fun y hy=>h y (zbc6 _ hy)
  simp only [zbd7,zf9,e0,zbc8,zb4,if_true,e1,e2,ih,zbf8]
theorem zaw8 (ns:List Int) (hb:∀n∈ns,n.natAbs<bndS):∃(n:Nat) (M:List (List Int)),1≤n∧n≤9∧(Rds n M∧SyM n M∧TrM n n M∧BdM n M)∧zg4 [.lst (ns.map D.int)]=some (.dn (mD M)):=by
 let A:Sl:=.val (.lst (ns.map D.int))
 obtain⟨v,_,e1⟩:=zad0 ns hb 2 [.no,.no]
 have m1:=zp0 (fa:=dC (.int 1)) (t:=[A,.no,.no]) (a:=1) rfl (zl2 e1 (fb:=dC (.int 9)) (b:=9) rfl (by decide))
 have f1:=fm (a:=v) (b:=9) (by decide)
 obtain⟨n,n0,n1,en⟩:∃n:Nat,1≤n∧n≤9∧1+v.fmod 9=(n:Int):=⟨(1+v.fmod 9).toNat,by lia,by lia,by lia⟩
 rw [en]at m1
 obtain⟨xs,lx,rx,er⟩:=zap1 ns hb 1 n (by lia) (by lia) (q:=16) (by decide) (by decide)
 have E1:=zy7 (i:=1) ((t4_of (rfl:dVar 0 [A,.no,.no]=some (.cl (.lst (ns.map D.int)))) (rfl:dC (.int 1) [A,.no,.no]=some (.cl (.int 1))) m1 (rfl:dC (.int 16) [A,.no,.no]=some (.cl (.int 16)))).trans er) (by simp)
 let X:Sl:=.own (xs.map D.int)
 obtain⟨u,_,e2⟩:=zad0 ns hb 3 [X,.no]
 have m2:=zl2 e2 (fb:=dC (.int 3)) (b:=3) rfl (by decide)
 have f2:=fm (a:=u) (b:=3) (by decide)
 have ff:∃f:Int,0≤f∧f≤1000000000∧(d2 kIx (dT1 kLst (za3 (dC (.int 1)) (za3 (dC (.int 7)) (za3 (d2 qP (dC (.int 10)) (dC (.int 9))) dNil)))) (d2 qR (dT1 (zc2 zc0) (za3 (dVar 0) (za3 (dC (.int 3)) dNil))) (dC (.int 3)))) [A,X,.no]=some (.cl (.int f)):=by
  have el:(dT1 kLst (za3 (dC (.int 1)) (za3 (dC (.int 7)) (za3 (d2 qP (dC (.int 10)) (dC (.int 9))) dNil)))) [A,X,.no]=some (.nw ([1,7,1000000000].map D.int)):=rfl
  generalize u.fmod 3=q at m2 f2
  rcases (by lia:q=0∨q=1∨q=2) with z | z | z<;>subst z
  ·exact⟨1,by decide,by decide,(zk8 el m2).trans rfl⟩
  ·exact⟨7,by decide,by decide,(zk8 el m2).trans rfl⟩
  ·exact⟨1000000000,by decide,by decide,(zk8 el m2).trans rfl⟩
 obtain⟨f,f0,f9,ef⟩:=ff
 have E2:=zl8 (i:=2) ef (by simp)
 let t:Th:=[A,X,.val (.int f)]
 have e3:(zi2 1 [2,1] (fsL (dVar 1)) (za2 0) zb4 (ze4 1 [1,0] (fsL (dVar 2)) (za2 0) zb4 (d2 qM (dVar 1) (dT1 (zc2 zh1) (za3 (dVar 2) (za3 (dVar 0) dNil)))))) t=some (.dn (mD (rdM f xs))):=by
  unfold zi2
  show (if (xs.map D.int).length≤50000 then (zf9 (za2 0) zb4 (ze4 1 [1,0] (fsL (dVar 2)) (za2 0) zb4 (d2 qM (dVar 1) (dT1 (zc2 zh1) (za3 (dVar 2) (za3 (dVar 0) dNil))))) (xs.map D.int) [Sl.no,.val (.int f),.val (.lst (xs.map D.int))]).map (fun xs=>Ev.dn (.lst xs)) else none)=_
  rw [if_pos (by rw [zbd9];lia),zba7 (g:=fun a=>xs.map fun b=>f*stp a b) xs .no fun a ha=>?_]
  ·rfl
  ·refine zao8 (xs:=xs) (g:=fun b=>f*stp a b) (r:=.cl (.lst (xs.map D.int))) (b:=true) (c:=[.int f,.int a]) rfl rfl (by lia) rfl fun b hb'=>?_
   have ra:=rx a ha
   have rb:=rx b hb'
   have sl:=zat1 ra.1 ra.2 rb.1 rb.2
   exact zq5 (fa:=dVar 1) (a:=f) rfl ((zq0 (rfl:dVar 2 [.val (.int b),.val (.int f),.val (.int a)]=some (.cl (.int a))) (rfl:dVar 0 [.val (.int b),.val (.int f),.val (.int a)]=some (.cl (.int b)))).trans (zr5 (steps_is ra.1 ra.2 rb.1 rb.2) rfl)) (zi8 (by lia) (by lia)) (zi8 (by lia) (by lia))
 subst lx
 exact⟨xs.length,rdM f xs,n0,n1,rdM_ok f0 f9 rx,bnd ((zc1 E1).trans ((zc1 E2).trans (zn7 e3)))⟩
theorem zas3 {i j:Int} (ne:i≠j):∀ {l:List Int},i∈l→j∈l→[i,j].Sublist l∨[j,i].Sublist l
 |[],h,_=>by cases h
 |a::l,hi,hj=>by
  rcases zbd2.mp hi with p | p<;>rcases zbd2.mp hj with q | q
  ·exact absurd (p.trans q.symm) ne
  ·subst p;exact .inl (List.Sublist.cons_cons _ (zbp7.mpr q))
  ·subst q;exact .inr (List.Sublist.cons_cons _ (zbp7.mpr p))
  ·rcases zas3 ne p q with h | h
   ·exact .inl (h.cons _)
   ·exact .inr (h.cons _)
theorem cyc_two {w:Int→Int→Int} (tr:∀a b c,w a c≤w a b+w b c) (zz:∀a,w a a=0) (nn:∀a b,0≤w a b) (sy:∀a b,w a b=w b a) {l:List Int}{i j:Int} (hi:i∈l) (hj:j∈l):2*w i j≤cyc w l:=by
 by_cases ne:i=j
 ·subst ne
  have:=zy0 tr zz nn (zbt9 l)
  rw [zz]
  have e:cyc w []=0:=rfl
  lia
 ·have s:=sy i j
  rcases zas3 ne hi hj with h | h
  ·have:=zy0 tr zz nn h
   have e:cyc w [i,j]=w i j+(w j i+0):=rfl
   lia
  ·have:=zy0 tr zz nn h
   have e:cyc w [j,i]=w j i+(w i j+0):=rfl
   lia
theorem cyc_many {w:Int→Int→Int} (tr:∀a b c,w a c≤w a b+w b c) (zz:∀a,w a a=0) (nn:∀a b,0≤w a b) (sy:∀a b,w a b=w b a) {l A:List Int}{r:Int} (nl:l.Nodup) (na:A.Nodup) (h2:2≤A.length) (hA:∀a∈A,a∈l) (ap:∀a∈A,∀b∈A,a≠b→r≤w a b):(A.length:Int)*r≤cyc w l:=by
 have sb:(l.filter fun x=>decide (x∈A)).Sublist l:=zbr5
 have nd:=nl.sublist sb
 have m:∀x,x∈(l.filter fun x=>decide (x∈A))↔x∈A:=fun x=>by
  rw [zbh5]
  exact⟨fun h=>of_decide_eq_true h.2,fun h=>⟨hA x h,decide_eq_true h⟩⟩
 have le:(l.filter fun x=>decide (x∈A)).length=A.length:=Nat.le_antisymm (zs8 nd fun x hx=>(m x).mp hx) (zs8 na fun x hx=>(m x).mpr hx)
 have:=zba2 (w:=w) (r:=r) sy (l:=l.filter fun x=>decide (x∈A)) (by lia) (nd.imp_of_mem fun ha hb ne=>ap _ ((m _).mp ha) _ ((m _).mp hb) ne)
 rw [le]at this
 have:=zy0 tr zz nn sb
 lia
theorem half_of {w:Int→Int→Int} (tr:∀a b c,w a c≤w a b+w b c) (zz:∀a,w a a=0) (nn:∀a b,0≤w a b) (sy:∀a b,w a b=w b a) {U C:List Int}{T:List Ed} (pr:Prim w [0] U T) (nd:U.Nodup) (n0:∀v∈U,v∉[0]) (hC:∀x,x∈C↔x=0∨x∈U):wtE w T≤cyc w C:=by
 cases C with
 |nil=>exact absurd ((hC 0).mpr (.inl rfl)) (by simp)
 |cons a r =>
  have cn:=zal9 r a 0 ((hC 0).mpr (.inl rfl))
  have q:∀x∈a::r,x∈[0]∨x∈U:=fun x hx=>by
   rcases (hC x).mp hx with z | z
   ·exact .inl (by simp [z])
   ·exact .inr z
  have:=prim_le sy pr (pEd a r) nd n0 (fun e _=>nn _ _) (fun e he=>⟨q _ (zaj9 r a e he).1,q _ (zaj9 r a e he).2⟩) (fun v hv=>cn v ((hC v).mpr (.inr hv)))
  rw [pth_is]at this
  show wtE w T≤pth w a (r++[a])
  rw [zm8]
  have:=nn (r.getLastD a) a
  lia
theorem map_erase_ix:∀(L:List Int) (k:Nat),(L.eraseIdx k).map D.int=(L.map D.int).eraseIdx k
 |[],k=>rfl
 |a::L,0=>rfl
 |a::L,k+1=>by
  show D.int a ::(L.eraseIdx k).map D.int=D.int a ::(L.map D.int).eraseIdx k
  rw [map_erase_ix L k]
theorem zaa7:∀(L:List Int) (k:Nat),k<L.length→(L.getD k 0::L.eraseIdx k).Perm L
 |[],k,h=>by simp at h
 |a::L,0,h=>List.Perm.refl _
 |a::L,k+1,h=>by
  have ih:=zaa7 L k (by simpa using h)
  show (L.getD k 0::a::L.eraseIdx k).Perm (a::L)
  exact (List.Perm.swap ..).trans (ih.cons a)
theorem turn_To (s0 s1 s2:Sl) {L F:List Int}{x:Int} (l0:0<L.length) (hl:L.length≤100) (hf:F.length≤100):∃k:Nat,k<L.length∧bdTo [s0,s1,s2,.own (L.map D.int),.own (F.map D.int),.val (.int x)]=some (.nx [s0,s1,s2,.own ((L.eraseIdx k).map D.int),.own ((F++[L.getD k 0]).map D.int),.val (.int x)]):=by
 let t1:Th:=[s0,s1,s2,.own (L.map D.int),.own (F.map D.int),.val (.int x)]
 have m:=zl2 (fa:=dVar 5) (t:=t1) (a:=x) (b:=(L.length:Int)) rfl (zaa1 (f:=dVar 3) (t:=t1) (r:=.tm (.lst (L.map D.int))) (xs:=L) rfl rfl) (by lia)
 have f:=fm (a:=x) (b:=(L.length:Int)) (by lia)
 obtain⟨k,hk⟩:∃k:Nat,x.fmod (L.length:Int)=(k:Int):=⟨(x.fmod (L.length:Int)).toNat,by lia⟩
 rw [hk]at m f
 have kl:k<L.length:=by lia
 refine⟨k,kl,?_⟩
 unfold bdTo zac7
 rw [m,zbc8]
 unfold zac4
 show (if 3=4 then none else if decide (-1000000≤(k:Int)∧(k:Int)≤1000000∧(F.map D.int).length<100000)=true then (ixN (L.map D.int).length (k:Int)).bind _ else none)=_
 have em:(L.map D.int)[k]?=some (D.int (L.getD k 0)):=by simp [zbd6,kl]
 rw [if_neg (by decide),if_pos (decide_eq_true (by simp;lia)),zag3 _ k (by simpa using kl),zbc8,em]
 simp only [zbf8,zbk0,map_erase_ix]
 rfl
theorem zaw9 (s0 s1 s2:Sl):∀(xs L F:List Int) (s5:Sl),L.length=xs.length→F.length+L.length≤100→∃(F':List Int) (u3 u5:Sl),F'.Perm (F++L)∧forD (za2 5) bdTo (xs.map D.int) [s0,s1,s2,.own (L.map D.int),.own (F.map D.int),s5]=some (.nx [s0,s1,s2,u3,.own (F'.map D.int),u5])
 |[],L,F,s5,h,_=>by
  cases zbh4.mp h
  exact⟨F,.own [],s5,by simp,rfl⟩
 |x::xs,L,F,s5,h,hl=>by
  simp only [zbf4]at h
  obtain⟨k,kl,eb⟩:=turn_To s0 s1 s2 (L:=L) (F:=F) (x:=x) (by lia) (by lia) (by lia)
  obtain⟨F',u3,u5,pm,ih⟩:=zaw9 s0 s1 s2 xs (L.eraseIdx k) (F++[L.getD k 0]) (.val (.int x)) (by rw [zbn8 kl];lia) (by rw [zbn8 kl,zbf0,zbg3];lia)
  refine⟨F',u3,u5,pm.trans ?_,?_⟩
  ·rw [zbj9]
   refine List.Perm.append_left F ?_
   exact zaa7 L k kl
  ·have e0:za2 5 (.int x) [s0,s1,s2,.own (L.map D.int),.own (F.map D.int),s5]=some [s0,s1,s2,.own (L.map D.int),.own (F.map D.int),.val (.int x)]:=rfl
   simp only [zbd7,forD,e0,zbc8,eb]
   exact ih
theorem tour_is (ns:List Int) (hb:∀n∈ns,n.natAbs<bndS) {a n:Nat} (ha:a≤1000) (hn:n≤9):∃C:List Int,C.Perm (zb7 n)∧zp9 [.lst (ns.map D.int),.int (a:Int),.int (n:Int)]=some (.nw (C.map D.int)):=by
 let A:Sl:=.val (.lst (ns.map D.int))
 let B:Sl:=.val (.int (a:Int))
 let N:Sl:=.val (.int (n:Int))
 have E1:=zy7 (i:=3) (lr_of (f:=dVar 2) (t:=[A,B,N,.no,.no,.no]) (n:=n) rfl (by lia)) (by simp)
 have E2:dAsg 4 (dT1 kLst dNil) [A,B,N,.own ((zb7 n).map D.int),.no,.no]=some (.nx [A,B,N,.own ((zb7 n).map D.int),.own (([]:List Int).map D.int),.no]):=rfl
 let t:Th:=[A,B,N,.own ((zb7 n).map D.int),.own (([]:List Int).map D.int),.no]
 obtain⟨xs,lx,rx,er⟩:=zap1 ns hb a n ha (by lia) (q:=60) (by decide) (by decide)
 have e3:=(t4_of (rfl:dVar 0 t=some (.cl (.lst (ns.map D.int)))) (rfl:dVar 1 t=some (.cl (.int (a:Int)))) (rfl:dVar 2 t=some (.cl (.int (n:Int)))) (rfl:dC (.int 60) t=some (.cl (.int 60)))).trans er
 obtain⟨C,u3,u5,pm,e4⟩:=zaw9 A B N xs (zb7 n) [] .no (by rw [ze0,lx]) (by rw [ze0];simp;lia)
 have E3:=(for_of (k:=za2 5) (b:=bdTo) e3 rfl rfl).trans e4
 refine⟨C,by simpa using pm,?_⟩
 show (zt5 [A,B,N,.no,.no,.no]).bind zg9=_
 exact bnd ((zc1 E1).trans ((zc1 E2).trans ((zc1 E3).trans rfl)))
theorem bo_false {f:DE}{t:Th} (h:f t=some (.cl (.bl false))):dBo f t=some false:=by unfold dBo;rw [h];rfl
theorem k2_of {f:Int→Int→Int}{fa fb:DE}{t:Th}{a b:Int} (h1:fa t=some (.cl (.int a))) (h2:fb t=some (.cl (.int b))):(dT1 (k2I f) (za3 fa (za3 fb dNil))) t=some (.cl (.int (f a b))):=(zq0 h1 h2).trans rfl
theorem zau1 {w:Int→Int→Int}{B:Int} (h:∀a b,w a b≤B):∀(l:List Int) (a:Int),pth w a l≤(l.length:Int)*B
 |[],a=>by simp [pth]
 |b::l,a=>by
  have:=zau1 h l b
  have:=h a b
  show w a b+pth w b l≤_
  rw [zbf4,Int.natCast_succ,zbv2]
  lia
theorem cyc_top {w:Int→Int→Int}{B:Int} (h:∀a b,w a b≤B) (C:List Int):cyc w C≤(C.length:Int)*B:=by
 cases C with
 |nil=>simp [cyc]
 |cons a r =>
  have:=zau1 h (r++[a]) a
  rw [zbf0,zbg3]at this
  exact this
theorem wM_bd {n:Nat}{M:List (List Int)} (n0:0<n) (B:BdM n M) (a b:Int):wM n M a b≤1000000000000:=B _ _ (zbm0 _ n0) (zbm0 _ n0)
theorem zaa8:∀(M:List (List Int)) (s:Sl),zf9 (za2 0) zb4 (dT1 zac3 (za3 (dVar 0) dNil)) (M.map rwD) [s]=some (M.map rwD)
 |[],s=>rfl
 |r::M,s=>by
  have e0:za2 0 (rwD r) [s]=some [.val (rwD r)]:=rfl
  have e1:=list_of (f:=dVar 0) (t:=[.val (rwD r)]) (r:=.cl (rwD r)) (xs:=r) rfl rfl
  have e2:toDn (.nw (r.map D.int))=some (rwD r):=by simp only [toDn,zd1,if_true];rfl
  have ih:=zaa8 M (.val (rwD r))
  simp only [zbd7,zf9,e0,zbc8,zb4,if_true,e1,e2,ih,zbf8]
theorem kept_of {t:Th}{i:Nat}{M:List (List Int)}{r:Ev} (h:dVar i t=some r) (hr:r.d=mD M) (hl:M.length≤50000):(zi2 1 [] (fsL (dVar i)) (za2 0) zb4 (dT1 zac3 (za3 (dVar 0) dNil))) t=some (.dn (mD M)):=by
 unfold zi2 fsL
 rw [h]
 simp only [zbc8,hr]
 show (if (M.map rwD).length≤50000 then (zf9 (za2 0) zb4 (dT1 zac3 (za3 (dVar 0) dNil)) (M.map rwD) [Sl.no]).map (fun xs=>Ev.dn (.lst xs)) else none)=_
 rw [if_pos (by simpa using hl),zaa8]
 rfl
def farM (M:List (List Int)):Int:=zu2 (M.map zu2)
theorem zao7:∀(M:List (List Int)) (s:Sl),(∀r∈M,0<r.length)→zd5 (za2 0) zb4 (dT1 (zo1 zn0) (za3 (dVar 0) dNil)) (M.map rwD) [s]=some ((M.map zu2).map D.int)
 |[],s,_=>rfl
 |r::M,s,h=>by
  have e0:za2 0 (rwD r) [s]=some [.val (rwD r)]:=rfl
  have e1:=zak8 (f:=dVar 0) (t:=[.val (rwD r)]) (r:=.cl (rwD r)) (L:=r) rfl rfl (h r (zbc9 ..))
  have ih:=zao7 M (.val (rwD r)) fun q hq=>h q (zbc6 _ hq)
  simp only [zbd7,zd5,e0,zbc8,zb4,if_true,e1,ih,zbf8,Ev.d]
theorem far_of {t:Th}{n:Nat}{M:List (List Int)}{r:Ev} (S:Sq n M) (n0:0<n) (n1:n≤9) (h:dVar 1 t=some r) (hr:r.d=mD M):(dT1 (zo1 zn0) (za3 (ze4 1 [] (fsL (dVar 1)) (za2 0) zb4 (dT1 (zo1 zn0) (za3 (dVar 0) dNil))) dNil)) t=some (.cl (.int (farM M))):=by
 have hl:=S.len
 have c:(ze4 1 [] (fsL (dVar 1)) (za2 0) zb4 (dT1 (zo1 zn0) (za3 (dVar 0) dNil))) t=some (.nw ((M.map zu2).map D.int)):=by
  unfold ze4 fsL
  rw [h]
  simp only [zbc8,hr]
  show (if (M.map rwD).length≤50000 then (zd5 (za2 0) zb4 (dT1 (zo1 zn0) (za3 (dVar 0) dNil)) (M.map rwD) [Sl.no]).bind _ else none)=_
  rw [if_pos (by rw [zbd9];lia),zao7 M .no fun q hq=>by rw [S.row q hq];exact n0]
  simp only [zbc8,zd1,zbi9,if_true]
 exact zak8 c rfl (by rw [zbd9];lia)
theorem zay7 {n:Nat}{M:List (List Int)} (S:Sq n M) (n0:0<n):(∃i j:Int,(0≤i∧i<(n:Int))∧(0≤j∧j<(n:Int))∧farM M=gM M i j)∧∀i j:Int,0≤i→i<(n:Int)→0≤j→j<(n:Int)→gM M i j≤farM M:=by
 have hl:=S.len
 obtain⟨m,t⟩:=zp1 (L:=M.map zu2) (by rw [zbd9];lia)
 refine⟨?_,fun i j i0 i1 j0 j1=>?_⟩
 ·obtain⟨r,hr,er⟩:=zbf6.mp m
  obtain⟨m2,_⟩:=zp1 (L:=r) (by rw [S.row r hr];exact n0)
  obtain⟨i,hi,ei⟩:=zbk3 hr
  obtain⟨j,hj,ej⟩:=zbk3 m2
  have rl:=S.row r hr
  refine⟨(i:Int),(j:Int),⟨by lia,by lia⟩,⟨by lia,by lia⟩,?_⟩
  unfold farM gM
  have a1:M.getD i []=r:=by rw [zbd6,zbd1 hi,ei];rfl
  rw [zbl2,zbl2,a1, ← er]
  rw [zbd6,zbd1 hj, ← ej]
  rfl
 ·have hi:i.toNat<M.length:=by lia
  have mr:M[i.toNat]∈M:=zbh7 hi
  have rl:=S.row _ mr
  obtain⟨_,t2⟩:=zp1 (L:=M[i.toNat]) (by lia)
  have hj:j.toNat<M[i.toNat].length:=by lia
  have q:=t2 _ (zbh7 hj)
  have q2:=t _ (zbf6.mpr ⟨_,mr,rfl⟩)
  unfold gM farM
  have a1:M.getD i.toNat []=M[i.toNat]:=by rw [zbd6,zbd1 hi];rfl
  rw [a1]
  rw [zbd6,zbd1 hj]
  exact zbt4 q q2
theorem comp_T {n:Nat}{M:List (List Int)} (S:Sq n M):∀(T:List Ed) (s0 s1:Sl),(∀e∈T,(0≤e.1∧e.1<(n:Int))∧0≤e.2∧e.2<(n:Int))→zd5 (zj0 2 (zc7 (za2 0) (zc7 (za2 1) zk4))) zb4 feT (T.map pD) [s0,s1,.val (mD M)]=some ((T.map fun e=>wM n M e.1 e.2).map D.int)
 |[],s0,s1,_=>rfl
 |e::T,s0,s1,h=>by
  obtain⟨h1,h2⟩:=h e (zbc9 ..)
  let t:Th:=[.val (.int e.1),.val (.int e.2),.val (mD M)]
  have e0:(zj0 2 (zc7 (za2 0) (zc7 (za2 1) zk4))) (pD e) [s0,s1,.val (mD M)]=some t:=rfl
  have e1:=zw6 S (fa:=dVar 2) (fb:=dVar 0) (fc:=dVar 1) (t:=t) (r1:=.cl (mD M)) (i:=e.1) (j:=e.2) rfl rfl rfl rfl h1.1 h1.2 h2.1 h2.2
  have ih:=comp_T S T (.val (.int e.1)) (.val (.int e.2)) fun q hq=>h q (zbc6 _ hq)
  rw [← zap3 h1.1 h1.2 h2.1 h2.2]at e1
  simp only [zbd7,zd5,e0,zbc8,zb4,if_true,show feT t=_ from e1]
  rw [show zd5 (zj0 2 (zc7 (za2 0) (zc7 (za2 1) zk4))) zb4 feT (T.map pD) t=_ from ih]
  rfl
theorem sumT_of {t:Th}{n:Nat}{M:List (List Int)} (S:Sq n M) {T:List Ed} (lT:T.length≤100) (h:∀e∈T,(0≤e.1∧e.1<(n:Int))∧0≤e.2∧e.2<(n:Int)) (h1:t[1]?=some (.dp (mD M))) (h4:t[4]?=some (.val (.lst (T.map pD)))):(dT1 kSum (za3 (ze4 2 [1] (fsL (dVar 4)) (zj0 2 (zc7 (za2 0) (zc7 (za2 1) zk4))) zb4 feT) dNil)) t=some (.cl (.int (wtE (wM n M) T))):=by
 have c:(ze4 2 [1] (fsL (dVar 4)) (zj0 2 (zc7 (za2 0) (zc7 (za2 1) zk4))) zb4 feT) t=some (.nw ((T.map fun e=>wM n M e.1 e.2).map D.int)):=by
  have hv:dVar 4 t=some (.cl (.lst (T.map pD))):=by unfold dVar;rw [h4]
  have hc:∃b,capD t [1]=some (b,[mD M]):=by unfold capD;rw [h1];exact⟨_,rfl⟩
  obtain⟨b,hc⟩:=hc
  unfold ze4 fsL
  rw [hv,hc]
  simp only [zbc8,Ev.d]
  show (if (T.map pD).length≤50000 then (zd5 (zj0 2 (zc7 (za2 0) (zc7 (za2 1) zk4))) zb4 feT (T.map pD) [Sl.no,Sl.no,.val (mD M)]).bind _ else none)=_
  rw [if_pos (by rw [zbd9];lia),comp_T S T .no .no h]
  simp only [zbc8,zd1,zbi9,if_true]
 exact sum_of c rfl
theorem rng2n_of {k0:D→Th→Option Th}{b:DS}{t:Th}{f f':DE}{lo n:Int}{k:Nat} (h1:f t=some (.cl (.int lo))) (h2:f' t=some (.cl (.int n))) (hk:(n - lo).toNat=k) (hb:(bigI n&&bigI lo)=true):zaz8 k0 f f' b t=forD k0 b (rngD lo k) t:=by
 unfold zaz8
 rw [h1,h2]
 show (if bigI n&&bigI lo then forD k0 b (rngD lo (n - lo).toNat) t else none)=_
 rw [if_pos hb,hk]
structure St (n:Nat) (M:List (List Int)) (C:List Int) (T:List Ed):Prop where
 n0:0<n
 n1:n≤9
 R:Rds n M
 Y:SyM n M
 Tr:TrM n n M
 B:BdM n M
 pc:C.Perm (zb7 n)
 pr:Prim (wM n M) [0] (zq7 n) T
 le:cyc (wM n M) C≤2*wtE (wM n M) T
theorem St.cin {n:Nat}{M:List (List Int)}{C:List Int} (n0:0<n) (pc:C.Perm (zb7 n)):CIn n C∧C.length=n:=by
 have l:C.length=n:=by rw [pc.length_eq,ze0]
 exact⟨⟨by lia,fun x hx=>zf2 (pc.mem_iff.mp hx)⟩,l⟩
theorem St.far {n:Nat}{M:List (List Int)}{C:List Int}{T:List Ed} (s:St n M C T):2*farM M≤cyc (wM n M) C:=by
 obtain⟨⟨i,j,hi,hj,e⟩,_⟩:=zay7 s.R.sq s.n0
 rw [e, ← zap3 hi.1 hi.2 hj.1 hj.2]
 exact cyc_two (zas1 s.n0 s.Tr) (zas0 s.n0 s.R) (zas2 s.n0 s.R) (wM_sy s.n0 s.Y) (s.pc.mem_iff.mpr (zh7 hi.1 hi.2)) (s.pc.mem_iff.mpr (zh7 hj.1 hj.2))
theorem St.half {n:Nat}{M:List (List Int)}{C C':List Int}{T:List Ed} (s:St n M C T) (pc:C'.Perm (zb7 n)):cyc (wM n M) C≤2*cyc (wM n M) C':=by
 have:=half_of (C:=C') (zas1 s.n0 s.Tr) (zas0 s.n0 s.R) (zas2 s.n0 s.R) (wM_sy s.n0 s.Y) s.pr (zax6 n) (fun v hv h=>by have:=zp6 hv;simp at h;lia) fun x=>by
  rw [pc.mem_iff]
  refine⟨fun h=>?_,fun h=>?_⟩
  ·have:=zf2 h
   by_cases z:x=0
   ·exact .inl z
   ·exact .inr (mem_late (by lia) this.2)
  ·rcases h with z | z
   ·exact zh7 (by lia) (by have:=s.n0;lia)
   ·have:=zp6 z;exact zh7 (by lia) this.2
 have:=s.le
 lia
def rch (n:Nat) (M:List (List Int)) (c:Nat):Int:=rcH n M (cN n M (c - 1))
theorem rch_le {n:Nat}{M:List (List Int)}{C:List Int}{T:List Ed} (s:St n M C T) {c:Nat} (c0:0<c) (c1:c≤n):0≤rch n M c∧rch n M c≤farM M:=by
 have I:=zy6 M (n:=n) (k:=c - 1) (by lia)
 refine⟨rc_nn s.R I s.n0,?_⟩
 obtain⟨p,p0,p1,e⟩:=rc_at (M:=M) (C:=cN n M (c - 1)) s.n0
 obtain⟨⟨q,hq,eq⟩,_⟩:=zan5 (M:=M) I p
 unfold rch
 rw [e, ← eq]
 exact (zay7 s.R.sq s.n0).2 p q p0 p1 (I.rg q hq).1 (I.rg q hq).2
theorem rch_down {n:Nat}{M:List (List Int)}{C:List Int}{T:List Ed} (s:St n M C T) {c:Nat} (c0:0<c) (c1:c<n):rch n M (c+1)≤rch n M c:=by
 have I:=zy6 M (n:=n) (k:=c - 1) (by lia)
 have I':=zy6 M (n:=n) (k:=c - 1+1) (by lia)
 have:=zat7 (M:=M) I s.n0 (nxC n M (cN n M (c - 1))) I'
 unfold rch
 rw [show c+1 - 1=c - 1+1 by lia]
 exact this
theorem rch_end {n:Nat}{M:List (List Int)}{C:List Int}{T:List Ed} (s:St n M C T):rch n M n=0:=by
 have I:=zy6 M (n:=n) (k:=n - 1) (by have:=s.n0;lia)
 obtain⟨nd,_⟩:=cN_ok s.R s.Y s.n0 (k:=n - 1) (by have:=s.n0;lia)
 obtain⟨p,p0,p1,e⟩:=rc_at (M:=M) (C:=cN n M (n - 1)) s.n0
 unfold rch
 rw [e]
 refine zak3 s.R I ?_
 by_cases h:p∈cN n M (n - 1)
 ·exact h
 ·have l:=zs8 (l:=p::cN n M (n - 1)) (C:=zb7 n) (zbe6.mpr ⟨h,nd⟩) fun x hx=>by
   rcases zbd2.mp hx with z | z
   ·subst z;exact zh7 p0 p1
   ·exact zh7 (I.rg x z).1 (I.rg x z).2
  rw [zbf4,zo9,ze0]at l
  have:=s.n0
  lia
noncomputable def aprt (n:Nat) (M:List (List Int)) (c:Nat):List Int:=apA M (cN n M (c - 1)) (sgL (nr M (cN n M (c - 1))) (oth n (cN n M (c - 1))))
theorem zar5 {n:Nat}{M:List (List Int)}{C:List Int}{T:List Ed} (s:St n M C T) {c:Nat} (c0:0<c) (c1:c≤n) (h:0<rch n M c):((aprt n M c).length:Int)*rch n M c≤cyc (wM n M) C:=by
 obtain⟨nd,ap⟩:=cN_ok s.R s.Y s.n0 (k:=c - 1) (by lia)
 have I:=zy6 M (n:=n) (k:=c - 1) (by lia)
 have rf:rcH n M (cN n M (c - 1))=_:=zv7 s.R I s.n0
 unfold aprt
 unfold rch at h ⊢
 generalize cN n M (c - 1)=Q at *
 cases e:sgL (nr M Q) (oth n Q) with
 |none=>rw [e]at rf;have rf:rcH n M Q=0:=rf;lia
 |some b =>
  rw [e]at rf
  have rf:rcH n M Q=nr M Q b:=rf
  have m:=zt2 (sgL_ok e).1
  have ea:apA M Q (some b)=Q++[b]:=if_neg (by rw [← rf];lia)
  rw [ea]
  have nd2:(Q++[b]).Nodup:=by
   rw [zbe0]
   refine⟨nd,by simp,fun x hx y hy e9=>?_⟩
   rw [zbd3]at hy
   rw [e9,hy]at hx
   exact m.2.2 hx
  have rg:∀x∈Q++[b],0≤x∧x<(n:Int):=fun x hx=>by
   rcases zbd0.mp hx with p | p
   ·exact I.rg x p
   ·rw [zbd3]at p;subst p;exact⟨m.1,m.2.1⟩
  have a2:=ap_add s.Y I ap m.1 m.2.1 (by lia)
  exact cyc_many (zas1 s.n0 s.Tr) (zas0 s.n0 s.R) (zas2 s.n0 s.R) (wM_sy s.n0 s.Y) (s.pc.nodup_iff.mpr (zaw3 n)) nd2 (by have:=I.ne;simp only [zbf0,zbg3];lia) (fun x hx=>s.pc.mem_iff.mpr (zh7 (rg x hx).1 (rg x hx).2)) fun x hx y hy ne=>by
   rw [zap3 (rg x hx).1 (rg x hx).2 (rg y hy).1 (rg y hy).2]
   exact a2 x hx y hy ne
theorem aprt_len {n:Nat}{M:List (List Int)}{c:Nat} (c1:c≤n) (n1:n≤9) (c0:0<c):(aprt n M c).length≤10:=by
 unfold aprt
 have:=zo9 n M (c - 1)
 cases sgL (nr M (cN n M (c - 1))) (oth n (cN n M (c - 1))) with
 |none=>simp [apA]
 |some y =>
  show (if nr M (cN n M (c - 1)) y=0 then [] else cN n M (c - 1)++[y]).length≤10
  split
  ·exact zbs0 _
  ·simp only [zbf0,zbg3];lia
noncomputable abbrev tL (ns:List Int) (n:Nat) (M:List (List Int)) (C:List Int) (T:List Ed) (s7 s8 s9 s10 s11 s12:Sl):Th:=[.val (.lst (ns.map D.int)),.dp (mD M),.val (.int (n:Int)),.val (.lst (C.map D.int)),.val (.lst (T.map pD)),.val (.int (farM M)),.val (.int (cyc (wM n M) C)),s7,s8,s9,s10,s11,s12]
theorem St.fb {n:Nat}{M:List (List Int)}{C:List Int}{T:List Ed} (s:St n M C T):0≤farM M∧farM M≤1000000000000:=by
 obtain⟨⟨i,j,hi,hj,e⟩,_⟩:=zay7 s.R.sq s.n0
 rw [e, ← zap3 hi.1 hi.2 hj.1 hj.2]
 exact⟨zas2 s.n0 s.R i j,wM_bd s.n0 s.B i j⟩
theorem St.cb {n:Nat}{M:List (List Int)}{C C':List Int}{T:List Ed} (s:St n M C T) (pc:C'.Perm (zb7 n)):0≤cyc (wM n M) C'∧cyc (wM n M) C'≤9000000000000:=by
 have l:=(St.cin (M:=M) s.n0 pc).2
 have n1:=s.n1
 have:=cyc_top (wM_bd s.n0 s.B) C'
 have q:=zy0 (zas1 s.n0 s.Tr) (zas0 s.n0 s.R) (zas2 s.n0 s.R) (zbt9 C')
 have e:cyc (wM n M) []=0:=rfl
 rw [l]at this
 lia
theorem turn_C (ns:List Int) {n:Nat}{M:List (List Int)}{C:List Int}{T:List Ed} (s:St n M C T) {c:Nat} (c0:0<c) (c1:c≤n) {v:Int} (hv:rch n M c≤v) (s9 s10 s11 s12:Sl):∃u9 u10 u11,bdC (tL ns n M C T (.val (.int v)) (.val (.int (c:Int))) s9 s10 s11 s12)=some (.nx (tL ns n M C T (.val (.int (rch n M c))) (.val (.int (c:Int))) u9 u10 u11 s12)):=by
 have n1:=s.n1
 have ap:=apart_is s.R (by lia) c0 c1
 have I:=zy6 M (n:=n) (k:=c - 1) (by lia)
 have cl:(cN n M (c - 1)).length≤50:=by rw [zo9];lia
 let Q:=cN n M (c - 1)
 let A:=aprt n M c
 let t0:Th:=tL ns n M C T (.val (.int v)) (.val (.int (c:Int))) s9 s10 s11 s12
 let t1:Th:=tL ns n M C T (.val (.int v)) (.val (.int (c:Int))) (.dp (.lst (Q.map D.int))) (.dp (.lst (A.map D.int))) s11 s12
 have E1:zba1 (zj0 2 (zc7 (zaa5 9) (zc7 (zaa5 10) zk4))) (dT1 (zc2 zd6) (za3 (dVar 1) (za3 (dVar 8) dNil))) t0=some (.nx t1):=by
  unfold zba1
  rw [(zq0 (ra:=.tm (mD M)) (rb:=.cl (.int (c:Int))) rfl rfl:(dT1 (zc2 zd6) (za3 (dVar 1) (za3 (dVar 8) dNil))) t0=_)]
  unfold zc2
  rw [show zd6 ([Ev.tm (mD M),.cl (.int (c:Int))].map Ev.d)=_ from ap]
  rfl
 have E2:=zl8 (i:=11) (t:=t1) ((zq0 (rfl:dVar 1 t1=some (.tm (mD M))) (rfl:dVar 9 t1=some (.tm (.lst (Q.map D.int))))).trans (creach s.R.sq I (by lia) s.n0 (by lia) rfl rfl)) (by simp [t1])
 let r:=rch n M c
 let t2:Th:=tL ns n M C T (.val (.int v)) (.val (.int (c:Int))) (.dp (.lst (Q.map D.int))) (.dp (.lst (A.map D.int))) (.val (.int r)) s12
 have g1:=gt_of (fa:=dVar 11) (fb:=dVar 7) (t:=t2) (a:=r) (b:=v) rfl rfl
 have g2:=gt_of (fa:=dVar 11) (fb:=dC (.int 0)) (t:=t2) (a:=r) (b:=0) rfl rfl
 have al:A.length≤10:=aprt_len (M:=M) c1 n1 c0
 have rb:0≤r∧r≤farM M:=rch_le s c0 c1
 have fb:=s.fb
 have g3:=zaw7 (fa:=dVar 6) (t:=t2) (a:=cyc (wM n M) C) rfl (zq5 (zaa1 (f:=dVar 10) (t:=t2) (r:=.tm (.lst (A.map D.int))) (xs:=A) rfl rfl) (fb:=dVar 11) (b:=r) rfl (zi8 (by lia) (by lia)) (zi8 (by lia) (by lia)))
 have z1:decide (v<r)=false:=decide_eq_false (by show ¬ v<rch n M c;lia)
 have z2:(decide (v<r)||(decide (0<r)&&decide (cyc (wM n M) C<(A.length:Int)*r)))=false:=by
  rw [z1,Bool.false_or]
  by_cases h:0<r
  ·have:=zar5 s c0 c1 h
   rw [decide_eq_false (p:=cyc (wM n M) C<(A.length:Int)*r) (by show ¬ cyc (wM n M) C<((aprt n M c).length:Int)*rch n M c;lia),zbr2]
  ·rw [decide_eq_false h,zbo3]
 have E3:=grd (g:=dRet (dC (.bl false))) (zav7 g1 (and_of2 g2 g3)) z2
 have E4:=zl8 (i:=7) (t:=t2) (f:=dVar 11) (d:=.int r) rfl (by simp [t2])
 exact⟨_,_,_,(zc1 E1).trans ((zc1 E2).trans ((zc1 E3).trans E4))⟩
theorem turn_K (ns:List Int) (hb:∀n∈ns,n.natAbs<bndS) {n:Nat}{M:List (List Int)}{C:List Int}{T:List Ed} (s:St n M C T) {k:Nat} (hk:k≤100) (s7 s8 s9 s10 s11:Sl):bdK (tL ns n M C T s7 s8 s9 s10 s11 (.val (.int (k:Int))))=some (.nx (tL ns n M C T s7 s8 s9 s10 s11 (.val (.int (k:Int))))):=by
 let t:Th:=tL ns n M C T s7 s8 s9 s10 s11 (.val (.int (k:Int)))
 have n1:=s.n1
 obtain⟨C',pc,et⟩:=tour_is ns hb (a:=5+k) (n:=n) (by lia) n1
 have a1:=zp0 (fa:=dC (.int 5)) (fb:=dVar 12) (t:=t) (a:=5) (b:=(k:Int)) rfl rfl
 rw [show (5:Int)+(k:Int)=((5+k:Nat):Int) by lia]at a1
 have e1:=(t3_of (rfl:dVar 0 t=some (.cl (.lst (ns.map D.int)))) a1 (rfl:dVar 2 t=some (.cl (.int (n:Int))))).trans (calln et)
 obtain⟨I,l⟩:=St.cin (M:=M) s.n0 pc
 have e2:=(zq0 (rfl:dVar 1 t=some (.tm (mD M))) e1).trans (zr5 (zan9 s.R.sq I (by lia)) rfl)
 have cb:=s.cb pc
 have e3:=zaw7 (zq5 (fa:=dC (.int 2)) (t:=t) (a:=2) rfl e2 (zi8 (by decide) (by decide)) (zi8 (by lia) (by lia))) (fb:=dVar 6) (b:=cyc (wM n M) C) rfl
 have hf:=s.half pc
 exact grd (g:=dRet (dC (.bl false))) e3 (decide_eq_false (by lia))
theorem law_true (ns:List Int) (hl:ns.length≤63) (hb:∀n∈ns,n.natAbs<bndS):G_law [.lst (ns.map D.int)]=some (.cl (.bl true)):=by
 obtain⟨n,M,n0,n1,⟨R,Y,Tr,B⟩,er⟩:=zaw8 ns hb
 have S:=R.sq
 have hl2:=S.len
 obtain⟨T,pr,lT,hT,g,pm,eT⟩:=zar3 S n0 n1
 have tl:=tour_le (zas1 n0 Tr) (wM_sy n0 Y) (zas0 n0 R) (n:=59) g (hngI T) (by lia)
 obtain⟨tn,tp⟩:=zab1 (n:=59) g (hngI T) (by lia)
 generalize (trav (chI T) 59 [0]).1=C at *
 have pc:C.Perm (zb7 n):=by
  refine tp.trans ((pm.cons 0).trans ?_)
  unfold zq7 zb7
  obtain⟨m,rfl⟩:∃m,n=m+1:=⟨n - 1,by lia⟩
  rw [zbk5,zbd7,zbj8]
  exact List.Perm.refl _
 have s:St n M C T:=⟨n0,n1,R,Y,Tr,B,pc,pr,tl⟩
 obtain⟨I,lC⟩:=St.cin (M:=M) n0 pc
 let A:Sl:=.val (.lst (ns.map D.int))
 let t0:Th:=[A,.no,.no,.no,.no,.no,.no,.no,.no,.no,.no,.no,.no]
 let t1:Th:=[A,.dp (mD M),.no,.no,.no,.no,.no,.no,.no,.no,.no,.no,.no]
 have E1:dAsg 1 (dT1 (zc2 zg4) (za3 (dVar 0) dNil)) t0=some (.nx t1):=by
  unfold dAsg
  rw [(zk9 (rfl:dVar 0 t0=some (.cl (.lst (ns.map D.int)))):(dT1 (zc2 zg4) (za3 (dVar 0) dNil)) t0=_)]
  unfold zc2
  rw [show zg4 ([Ev.cl (.lst (ns.map D.int))].map Ev.d)=_ from er]
  rfl
 have ln:=zn2 (f:=dVar 1) (t:=t1) (r:=.tm (mD M)) rfl rfl
 rw [hl2]at ln
 have E2:=zl8 (i:=2) ln (by simp [t1])
 let N:Sl:=.val (.int (n:Int))
 let t2:Th:=[A,.dp (mD M),N,.no,.no,.no,.no,.no,.no,.no,.no,.no,.no]
 have k3:=(zk9 (kept_of (i:=1) (t:=t2) (r:=.tm (mD M)) rfl rfl (by lia))).trans (zr5 (G:=zh2) (rs:=[.dn (mD M)]) (roads_is (M:=M) (by lia)) rfl)
 rw [rd_roads n0 (by lia) ⟨R,Y,Tr,B⟩]at k3
 have E3:=grd (g:=dRet (dC (.bl false))) (bo_false ((zk8 k3 (rfl:dC (.bl true) t2=some (.cl (.bl true)))).trans rfl:(d2 zao1 (dT1 (zc2 zh2) (za3 (zi2 1 [] (fsL (dVar 1)) (za2 0) zb4 (dT1 zac3 (za3 (dVar 0) dNil))) dNil)) (dC (.bl true))) t2=_)) rfl
 let t3:Th:=[A,.dp (mD M),N,.val (.lst (C.map D.int)),.val (.lst (T.map pD)),.no,.no,.no,.no,.no,.no,.no,.no]
 have E4:zba0 (zj0 2 (zc7 (za2 3) (zc7 (za2 4) zk4))) (dT1 (zc2 ze2) (za3 (dVar 1) dNil)) t2=some (.nx t3):=by
  unfold zba0
  rw [(zk9 (rfl:dVar 1 t2=some (.tm (mD M))):(dT1 (zc2 ze2) (za3 (dVar 1) dNil)) t2=_)]
  unfold zc2
  rw [show ze2 ([Ev.tm (mD M)].map Ev.d)=_ from eT]
  rfl
 have E5:=zl8 (i:=5) (far_of (t:=t3) (r:=.tm (mD M)) S n0 n1 rfl rfl) (by simp [t3])
 let F:Sl:=.val (.int (farM M))
 let t5:Th:=[A,.dp (mD M),N,.val (.lst (C.map D.int)),.val (.lst (T.map pD)),F,.no,.no,.no,.no,.no,.no,.no]
 have E6:=zl8 (i:=6) (t:=t5) ((zq0 (rfl:dVar 1 t5=some (.tm (mD M))) (rfl:dVar 3 t5=some (.cl (.lst (C.map D.int))))).trans (zr5 (zax3 S I (by lia)) rfl)) (by simp [t5])
 let t6:Th:=tL ns n M C T .no .no .no .no .no .no
 have fb:=s.fb
 have q1:=neI_of (fa:=dVar 6) (t:=t6) (a:=cyc (wM n M) C) rfl ((zq0 (rfl:dVar 1 t6=some (.tm (mD M))) (rfl:dVar 3 t6=some (.cl (.lst (C.map D.int))))).trans (zr5 (zan9 S I (by lia)) rfl))
 have q2:=zaw7 (fa:=dVar 6) (t:=t6) (a:=cyc (wM n M) C) rfl (zq5 (fa:=dC (.int 2)) (fb:=dVar 5) (a:=2) (b:=farM M) rfl rfl (zi8 (by decide) (by decide)) (zi8 (by lia) (by lia)))
 have q3:=zaw7 (sumT_of (t:=t6) S (by lia) hT rfl rfl) (fb:=dVar 5) (b:=farM M) rfl
 have ff:=s.far
 have E7:=grd (g:=dRet (dC (.bl false))) (zav7 q1 (zav7 q2 q3)) (by
  rw [decide_eq_true (rfl:cyc (wM n M) C=cyc (wM n M) C),decide_eq_false (by lia : ¬ cyc (wM n M) C<2*farM M),decide_eq_false (by lia : ¬ wtE (wM n M) T<farM M)]
  rfl)
 have E8:=zl8 (i:=7) (t:=t6) (f:=dVar 5) (d:=.int (farM M)) rfl (by simp [t6])
 let t8:Th:=tL ns n M C T F .no .no .no .no .no
 have a9:=zp0 (fa:=dVar 2) (fb:=dC (.int 1)) (t:=t8) (a:=(n:Int)) (b:=1) rfl rfl
 have r9:=rng2n_of (k0:=za2 8) (b:=bdC) (t:=t8) (f:=dC (.int 1)) (lo:=1) (n:=(n:Int)+1) (k:=n) rfl a9 (by lia) (by unfold bigI;rw [decide_eq_true (by lia),decide_eq_true (by lia)];rfl)
 obtain⟨t9,e9,v,u8,u9,u10,u11,z9,zv⟩:=for_I0 (k:=za2 8) (b:=bdC) (f:=fun (i:Nat)=>D.int (1+(i:Int))) (n:=n) (P:=fun x t => ∃(v:Int) (s8 s9 s10 s11:Sl),t=tL ns n M C T (.val (.int v)) s8 s9 s10 s11 .no∧v=if x=0 then farM M else rch n M x) (by
  rintro x hx t ⟨v,s8,s9,s10,s11,rfl,hv⟩
  have le:rch n M (x+1)≤v:=by
   rw [hv]
   split
   ·exact (rch_le s (by lia) (by lia)).2
   ·exact rch_down s (by lia) (by lia)
  obtain⟨w9,w10,w11,e⟩:=turn_C ns s (c:=x+1) (by lia) (by lia) le s9 s10 s11 .no
  refine⟨tL ns n M C T (.val (.int v)) (.val (.int ((x+1:Nat):Int))) s9 s10 s11 .no,_,?_,e,_,_,_,_,_,rfl,by rw [if_neg (by lia)]⟩
  rw [show ((x+1:Nat):Int)=1+(x:Int) by lia]
  rfl) t8 ⟨farM M,.no,.no,.no,.no,rfl,rfl⟩
 subst z9
 rw [if_neg (by lia),rch_end s]at zv
 subst zv
 have E9:=r9.trans e9
 let t9:Th:=tL ns n M C T (.val (.int 0)) u8 u9 u10 u11 .no
 have E10:=grd (g:=dRet (dC (.bl false))) (neI_of (fa:=dVar 7) (fb:=dC (.int 0)) (t:=t9) (a:=0) (b:=0) rfl rfl) rfl
 have a11:=zp0 (fa:=dC (.int 1)) (t:=t9) (a:=1) rfl (k2_of (f:=fun i j=>if j<i then j else i) (fa:=dC (.int 40)) (a:=40) rfl (zaa1 (f:=dVar 0) (t:=t9) (r:=.cl (.lst (ns.map D.int))) (xs:=ns) rfl rfl))
 obtain⟨m,hm,em⟩:∃m:Nat,m≤41∧(1+(if (ns.length:Int)<40 then (ns.length:Int) else 40))=(m:Int):=by
  split
  ·exact⟨1+ns.length,by lia,by lia⟩
  ·exact⟨41,by lia,by lia⟩
 rw [em]at a11
 have r11:=zat5 (k0:=za2 12) (b:=bdK) a11 rfl (by lia)
 rw [show (zb7 m).map D.int=(zbf2 m).map fun (i:Nat)=>D.int (i:Int) by unfold zb7;rw [zbj8];rfl]at r11
 obtain⟨t11,e11,u12,z11⟩:=for_I0 (k:=za2 12) (b:=bdK) (f:=fun (i:Nat)=>D.int (i:Int)) (n:=m) (P:=fun _ t => ∃s12:Sl,t=tL ns n M C T (.val (.int 0)) u8 u9 u10 u11 s12) (by
  rintro x hx t ⟨s12,rfl⟩
  exact⟨tL ns n M C T (.val (.int 0)) u8 u9 u10 u11 (.val (.int (x:Int))),_,rfl,turn_K ns hb s (k:=x) (by lia) _ _ _ _ _,_,rfl⟩) t9 ⟨.no,rfl⟩
 subst z11
 have E11:=r11.trans e11
 show (g_law t0).bind zg9=_
 refine bnd ((zc1 E1).trans ?_)
 refine (zc1 E2).trans ?_
 refine (zc1 E3).trans ?_
 refine (zc1 E4).trans ?_
 refine (zc1 E5).trans ?_
 refine (zc1 E6).trans ?_
 refine (zc1 E7).trans ?_
 refine (zc1 E8).trans ?_
 refine (zc1 E9).trans ?_
 refine (zc1 E10).trans ?_
 refine (zc1 E11).trans ?_
 rfl
end KX
set_option maxHeartbeats 4000000
namespace KX
open PySem.Spec L2 DL
def spLaw (K:zbc5):Sp:=spD K G_law
theorem all_mk {P:Program}{w:World}{K:zbc5}{h:Heap}{mg:Str→Option Value}{fa:Addr} (X:K.In h) (G:h.Ns mainGlobals mg) (hfa:mg "law"=some (.ref fa)) {f0:Addr}{f1:Addr}{f2:Addr}{f3:Addr}{f4:Addr}{f5:Addr}{f6:Addr}{f7:Addr}{f8:Addr}{f9:Addr}{f10:Addr}{f11:Addr}{od11 an11:Option Addr}{sl11:Array (Option Value)}{oc11 kV11 dc11 pm11 cd11 ct11:Value}{f12:Addr}{f13:Addr}{f14:Addr}{f15:Addr}{f16:Addr}{f17:Addr}{f18:Addr}{f19:Addr}{f20:Addr}
  (h0:Hv K "is_square" zm6 f0)
  (h1:Hv K "are_lengths" zi5 f1)
  (h2:Hv K "are_alike_both_ways" zd9 f2)
  (h3:Hv K "are_straight" zh5 f3)
  (h4:Hv K "are_roads" zm7 f4)
  (h5:Hv K "length_of" zm2 f5)
  (h6:Hv K "grown_tree" zj8 f6)
  (h7:Hv K "tour_down" zm1 f7)
  (h8:Hv K "tour_by_tree" zh3 f8)
  (h9:Hv K "nearest_road" zh4 f9)
  (h10:Hv K "reach_of" zp2 f10)
  (a11:zbg9 K mainGlobals "next_centre"=some (some (.ref f11))) (l11:K.lookup f11=some ⟨oc11,od11,.func (zbh9 "next_centre" "next_centre" (zj2 zd8) (zg3 zd8) (za9 zd8) .none kV11 dc11 pm11 an11 cd11 ct11),sl11⟩) (c11:zbm9 K cd11 "next_centre"=true) (k11:zbh3 K (.ref f11)=true)
  (h12:Hv K "centres_apart" zg6 f12)
  (h13:Hv K "_law_cell_at" zi4 f13)
  (h14:Hv K "_law_mixed" zm5 f14)
  (h15:Hv K "_law_row" zr9 f15)
  (h16:Hv K "_law_steps" zm3 f16)
  (h17:Hv K "_law_roads" zm4 f17)
  (h18:Hv K "_law_tour" zp3 f18)
  (h19:Hv K "_law_long" zp4 f19)
  (h20:Hv K "law" s_law f20)
  (z_abs:zbg9 K mainGlobals "abs"=some none) (z_all:zbg9 K mainGlobals "all"=some none) (z_any:zbg9 K mainGlobals "any"=some none) (z_enumerate:zbg9 K mainGlobals "enumerate"=some none) (z_len:zbg9 K mainGlobals "len"=some none) (z_list:zbg9 K mainGlobals "list"=some none) (z_max:zbg9 K mainGlobals "max"=some none) (z_min:zbg9 K mainGlobals "min"=some none) (z_range:zbg9 K mainGlobals "range"=some none) (z_sorted:zbg9 K mainGlobals "sorted"=some none) (z_sum:zbg9 K mainGlobals "sum"=some none) {t_LONGEST_ROAD:Tok} (z_LONGEST_ROAD:zbg9 K mainGlobals "LONGEST_ROAD"=some (some (.int 1000000000000 t_LONGEST_ROAD))) {t_MOST_PLACES:Tok} (z_MOST_PLACES:zbg9 K mainGlobals "MOST_PLACES"=some (some (.int 40 t_MOST_PLACES))) (tk11:tabOk K "next_centre"=true) :
  TbOk K ["next_centre"]∧∃fd:FuncData,(∀(s:zbe1) (v:Value),BindsTo s fd ⟨[v],[]⟩ [("_law_script",v)])∧∀base:BHeap,base.tabs=tbOf K ["next_centre"]→K.In base→base.Ns mainGlobals mg→(∀x∈(["next_centre"]:List Str),∀c P,zbm4 K x=some (c,P)→zbl9 base c P)→FnOk P w K mg base CX0 7 fa fd ["_law_script"] (spLaw K):=by
 have e:=hfa.symm.trans (h20.mg X G)
 cases e
 have bu:Blt mg:=⟨zbg2 X G z_abs,zbg2 X G z_all,zbg2 X G z_any,zbg2 X G z_enumerate,zbg2 X G z_len,zbg2 X G z_list,zbg2 X G z_max,zbg2 X G z_min,zbg2 X G z_range,zbg2 X G z_sorted,zbg2 X G z_sum,⟨_,zbp5 X G z_LONGEST_ROAD⟩,⟨_,zbp5 X G z_MOST_PLACES⟩⟩
 obtain⟨_,u0⟩:=h0.fn
 have d0:Df K mg "is_square" zm6 ["thing"] f0 _:=⟨u0,h0.mg X G,zs7 u0 fun _ _ _ _ _ _ _=>rfl⟩
 obtain⟨_,u1⟩:=h1.fn
 have d1:Df K mg "are_lengths" zi5 ["roads"] f1 _:=⟨u1,h1.mg X G,zs7 u1 fun _ _ _ _ _ _ _=>rfl⟩
 obtain⟨_,u2⟩:=h2.fn
 have d2:Df K mg "are_alike_both_ways" zd9 ["roads"] f2 _:=⟨u2,h2.mg X G,zs7 u2 fun _ _ _ _ _ _ _=>rfl⟩
 obtain⟨_,u3⟩:=h3.fn
 have d3:Df K mg "are_straight" zh5 ["roads"] f3 _:=⟨u3,h3.mg X G,zs7 u3 fun _ _ _ _ _ _ _=>rfl⟩
 obtain⟨_,u4⟩:=h4.fn
 have d4:Df K mg "are_roads" zm7 ["thing"] f4 _:=⟨u4,h4.mg X G,zs7 u4 fun _ _ _ _ _ _ _=>rfl⟩
 obtain⟨_,u5⟩:=h5.fn
 have d5:Df K mg "length_of" zm2 ["roads", "tour"] f5 _:=⟨u5,h5.mg X G,zs6 u5 fun _ _ _ _ _ _ _ _=>rfl⟩
 obtain⟨_,u6⟩:=h6.fn
 have d6:Df K mg "grown_tree" zj8 ["roads"] f6 _:=⟨u6,h6.mg X G,zs7 u6 fun _ _ _ _ _ _ _=>rfl⟩
 obtain⟨_,u7⟩:=h7.fn
 have d7:Df K mg "tour_down" zm1 ["many", "tree"] f7 _:=⟨u7,h7.mg X G,zs6 u7 fun _ _ _ _ _ _ _ _=>rfl⟩
 obtain⟨_,u8⟩:=h8.fn
 have d8:Df K mg "tour_by_tree" zh3 ["roads"] f8 _:=⟨u8,h8.mg X G,zs7 u8 fun _ _ _ _ _ _ _=>rfl⟩
 obtain⟨_,u9⟩:=h9.fn
 have d9:Df K mg "nearest_road" zh4 ["roads", "centres", "place"] f9 _:=⟨u9,h9.mg X G,binds3 u9 fun _ _ _ _ _ _ _ _ _=>rfl⟩
 obtain⟨_,u10⟩:=h10.fn
 have d10:Df K mg "reach_of" zp2 ["roads", "centres"] f10 _:=⟨u10,h10.mg X G,zs6 u10 fun _ _ _ _ _ _ _ _=>rfl⟩
 have d11:Df K mg "next_centre" zd8 ["roads", "centres"] f11 _:=⟨zay5 (st:=zd8) l11 c11 k11,zbp5 X G a11,zs6 (zay5 (st:=zd8) l11 c11 k11) fun _ _ _ _ _ _ _ _=>rfl⟩
 obtain⟨_,u12⟩:=h12.fn
 have d12:Df K mg "centres_apart" zg6 ["roads", "many"] f12 _:=⟨u12,h12.mg X G,zs6 u12 fun _ _ _ _ _ _ _ _=>rfl⟩
 obtain⟨_,u13⟩:=h13.fn
 have d13:Df K mg "_law_cell_at" zi4 ["_law_script", "_law_k"] f13 _:=⟨u13,h13.mg X G,zs6 u13 fun _ _ _ _ _ _ _ _=>rfl⟩
 obtain⟨_,u14⟩:=h14.fn
 have d14:Df K mg "_law_mixed" zm5 ["_law_cell", "_law_k"] f14 _:=⟨u14,h14.mg X G,zs6 u14 fun _ _ _ _ _ _ _ _=>rfl⟩
 obtain⟨_,u15⟩:=h15.fn
 have d15:Df K mg "_law_row" zr9 ["_law_script", "_law_at", "_law_many", "_law_top"] f15 _:=⟨u15,h15.mg X G,binds4 u15 fun _ _ _ _ _ _ _ _ _ _=>rfl⟩
 obtain⟨_,u16⟩:=h16.fn
 have d16:Df K mg "_law_steps" zm3 ["_law_one", "_law_other"] f16 _:=⟨u16,h16.mg X G,zs6 u16 fun _ _ _ _ _ _ _ _=>rfl⟩
 obtain⟨_,u17⟩:=h17.fn
 have d17:Df K mg "_law_roads" zm4 ["_law_script"] f17 _:=⟨u17,h17.mg X G,zs7 u17 fun _ _ _ _ _ _ _=>rfl⟩
 obtain⟨_,u18⟩:=h18.fn
 have d18:Df K mg "_law_tour" zp3 ["_law_script", "_law_at", "_law_many"] f18 _:=⟨u18,h18.mg X G,binds3 u18 fun _ _ _ _ _ _ _ _ _=>rfl⟩
 obtain⟨_,u19⟩:=h19.fn
 have d19:Df K mg "_law_long" zp4 ["_law_roads_here", "_law_tour_here"] f19 _:=⟨u19,h19.mg X G,zs6 u19 fun _ _ _ _ _ _ _ _=>rfl⟩
 obtain⟨_,u20⟩:=h20.fn
 have d20:Df K mg "law" s_law ["_law_script"] fa _:=⟨u20,h20.mg X G,zs7 u20 fun _ _ _ _ _ _ _=>rfl⟩
 obtain⟨tc11,tp11,tb11,tn11⟩:=tabOk_of tk11
 refine⟨tbOk_one tb11 tn11,_,Hv.bt u20 fun _ _ _ _ _ _ _=>rfl,fun base ht _ _ hCd=>?_⟩
 have F_is_square:=zaf8 (P:=P) (w:=w) (base:=base) d0.fn bu
 have F_are_lengths:=zz5 (P:=P) (w:=w) (base:=base) d1.fn bu
 have F_are_alike_both_ways:=zo0 (P:=P) (w:=w) (base:=base) d2.fn bu
 have F_are_straight:=zw4 (P:=P) (w:=w) (base:=base) d3.fn bu
 have F_are_roads:=zaf9 (P:=P) (w:=w) (base:=base) d4.fn bu (d0.cal F_is_square) (d1.cal F_are_lengths) (d2.cal F_are_alike_both_ways) (d3.cal F_are_straight)
 have F_length_of:=zaf4 (P:=P) (w:=w) (base:=base) d5.fn bu
 have F_grown_tree:=zab9 (P:=P) (w:=w) (base:=base) d6.fn bu
 have F_tour_down:=zaf3 (P:=P) (w:=w) (base:=base) d7.fn bu
 have F_tour_by_tree:=zw2 (P:=P) (w:=w) (base:=base) d8.fn bu (d6.cal F_grown_tree) (d7.cal F_tour_down)
 have F_nearest_road:=zw3 (P:=P) (w:=w) (base:=base) d9.fn bu
 have F_reach_of:=zak0 (P:=P) (w:=w) (base:=base) d10.fn bu (d9.cal F_nearest_road)
 have F_next_centre:=zz2 (P:=P) (w:=w) (base:=base) d11.fn bu (code_tab tb11 a11 l11) (hCd "next_centre" (by simp) _ _ tb11) (by rw [ht];exact mem_tbOf (by simp) tb11) (d9.cal F_nearest_road)
 have F_centres_apart:=zu4 (P:=P) (w:=w) (base:=base) d12.fn bu (d11.cal F_next_centre) (d10.cal F_reach_of)
 have F_law_cell_at:=zz4 (P:=P) (w:=w) (base:=base) d13.fn bu
 have F_law_mixed:=zaf7 (P:=P) (w:=w) (base:=base) d14.fn bu
 have F_law_row:=zaq3 (P:=P) (w:=w) (base:=base) d15.fn bu (d13.cal F_law_cell_at) (d14.cal F_law_mixed)
 have F_law_steps:=zaf5 (P:=P) (w:=w) (base:=base) d16.fn bu
 have F_law_roads:=zaf6 (P:=P) (w:=w) (base:=base) d17.fn bu (d13.cal F_law_cell_at) (d15.cal F_law_row) (d16.cal F_law_steps)
 have F_law_tour:=zak1 (P:=P) (w:=w) (base:=base) d18.fn bu (d15.cal F_law_row)
 have F_law_long:=zak2 (P:=P) (w:=w) (base:=base) d19.fn bu
 have F_law:=ok_law (P:=P) (w:=w) (base:=base) d20.fn bu (d17.cal F_law_roads) (d4.cal F_are_roads) (d8.cal F_tour_by_tree) (d5.cal F_length_of) (d19.cal F_law_long) (d12.cal F_centres_apart) (d10.cal F_reach_of) (d18.cal F_law_tour)
 exact F_law
theorem walk {l:zbu4}{q:Program}{loose:List Str}{XP:(Str→Option Value)→Heap→Prop}{YP:World→Heap→Prop}{d:DefRec}{K:Params→zbc5} (hn:l.most=some 63) (hdf:d.params.defaults=[])
  (hY:∀(w:World) (h:Heap),YP w h→(K w.params).In h) (hrec:∀x∈(["next_centre"]:List Str),∃dr,(recsOf q).find? (fun e=>e.name == x)=some dr)
  (Fx:∀(w:World) (mg:Str→Option Value) (fa:Addr) (h:Heap),(K w.params).In h→h.Ns mainGlobals mg→mg d.name=some (.ref fa) →
   TbOk (K w.params) ["next_centre"]∧∃fd:FuncData,(∀(s:zbe1) (u:Value),BindsTo s fd ⟨[u],[]⟩ [("_law_script",u)])∧∀base:BHeap,base.tabs=tbOf (K w.params) ["next_centre"]→(K w.params).In base→base.Ns mainGlobals mg→(∀x∈(["next_centre"]:List Str),∀c P,zbm4 (K w.params) x=some (c,P)→zbl9 base c P)→FnOk l.prog w (K w.params) mg base CX0 7 fa fd ["_law_script"] (spLaw (K w.params))) :
  zbx1 q loose XP YP l.row.toRowW d [] (fun f vs=>PySem.call f vs) :=
 L2.walk_ofT (n:=63) (k:=7) (x := "_law_script") (names:=["next_centre"]) (CX:=fun _=>CX0) (sp:=fun w=>spLaw (K w.params)) hn (by decide) hdf ⟨rfl,by decide,by decide⟩ hY hrec Fx
  (fun _ H a ns hl hb hS=>⟨[],[.lst (ns.map .int)],.cl (.bl true),fun p hp=>(by cases hp),.cons (.lst (by rw [hide_nil];exact hS) (Reps.ints ns)) .nil,law_true ns hl hb,fun v H' _ q=>by cases q;rfl⟩) fun _ _ _ _ _ z=>z
end KX
open PySem PySem.W PyProof.Rows
set_option maxRecDepth 100000 in
set_option maxHeartbeats 0 in
theorem PySem.Challenge.cw_nearenough_k55_whole_roads_walked_holds : PySem.Challenge.rw_nearenough_k55_whole_roads_walked.Holds := by
 w_on;o_law;k_head;(case hw=>w_witness2)
 k_fill
 refine KX.walk (l:=PySem.Challenge.rw_nearenough_k55_whole_roads_walked) rfl rfl (fun w h Y=>by first | exact PySem.W.kIn_of Y | exact PySem.W.km_in_of Y) (by intro x hx;simp at hx;subst hx;exact⟨_,rfl⟩) ?F
 case F =>
  intro w mg fa h KI G hmg
  refine' KX.all_mk KI G hmg ?h0 ?h1 ?h2 ?h3 ?h4 ?h5 ?h6 ?h7 ?h8 ?h9 ?h10 ?a11 ?l11 ?c11 ?k11 ?h12 ?h13 ?h14 ?h15 ?h16 ?h17 ?h18 ?h19 ?h20 ?z_abs ?z_all ?z_any ?z_enumerate ?z_len ?z_list ?z_max ?z_min ?z_range ?z_sorted ?z_sum ?z_LONGEST_ROAD ?z_MOST_PLACES ?tk11
  (case tk11=>kernel_rfl)
  (case a11=>k_is);(case l11=>k_is);(case c11=>k_is);(case k11=>k_is)
  all_goals try (refine' DL.Hv.mk ?a ?l ?c ?k;(case a=>k_is);(case l=>k_is);(case c=>k_is);(case k=>k_is))
  all_goals try k_is

