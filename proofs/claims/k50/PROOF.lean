import PyProof.Rows.All
import Wide.All
import OpenK.AllK
import Wide.FinOn
import PyProof.EqAt
import PyProof.EqKinds
import PyProof.NeKinds
import PyProof.TupleCall
import PyProof.EnumFor
import PyProof.EnumMake
import PyProof.CompFree
import PyProof.Rows.SumAny
import PyProof.Rows.Range3
import PyProof.CompUse
import KE.LcSums
import PyProof.ListRange
import PyProof.Rows.MinMaxN
import KE.KIntText
import PyProof.StrCalls2
import PyProof.StrBlockH
import PyProof.Rows.ZipForRows
import PyProof.Rows.SortRev
import KE.KRevSl
import KE.KMinKey
import PyProof.Rows.SetFrom
import PyProof.Rows.SeqMore2
import Lean
import PyProof.WalkInts
import KE.KLam
import KE.KNest
import PyProof.Rows.SortRuns
import KE.KSortKey
import PyProof.Conv_int_bool
import KE.KListMore
import PyProof.DictWalks
import KE.KSortTup
import KE.KDictList
import KE.KRevIter
import PyProof.SetKind
import PyProof.SetScanFacts
import PyProof.DictUpdate
import PyProof.Rows.TupAdd
import PySem.Challenge.RW_nearenough_k50_whole_all_ways
noncomputable section
open Array renaming getElem?_eq_getElem→zbh3,getElem?_toList→zbj4,toList_append→zbk6,forIn_toList→zbl0
open Int renaming fmod_nonneg_of_pos→zaz9,fmod_lt_of_pos→zbb3,toNat_natCast→zbc1,le_refl→zbj2
open PySem.F renaming plain_min_loop→zaz8,args_tuple_add_2→zbe5,entry_tuple_add→zbf0,slot_tuple_add→zbf5,entry_min_loop→zbf7,slot_dict_get→zbf9,slot_dict_delitem→zbh1,slot_list_remove→zbh6,args_dict_get_3→zbi0,plainAttrs_list→zbi1,entry_dict_get→zbi7
open Nat renaming le_refl→zaw7,lt_of_lt_of_le→zax3,ne_of_lt→zay3,le_trans→zaz5,zero_le→zba1,lt_irrefl→zba2,ne_of_gt→zba7,pow_le_pow_right→zbb5,lt_succ_of_lt→zbc2,le_add_right→zbd1,succ_ne_zero→zbd2,le_of_lt→zbf1,lt_of_le_of_lt→zbf3,lt_succ_self→zbg2,le_succ→zbh0,le_mul_of_pos_left→zbj1,min_eq_left→zbj8,lt_or_ge→zbk1,mul_comm→zbl6,lt_trans→zbl7
open Bool renaming and_eq_true→zaw5,false_ne_true→zax5,false_eq_true→zaz3,eq_iff_iff→zbb1,false_or→zbi5,or_eq_true→zbj7
open Option renaming bind_some→zav9,map_some→zbd9,isSome_iff_exists→zbh5,isSome_some→zbk9,isSome_map→zbl3,getD_none→zbl5,getD_some→zbl8
open PySem.Heap renaming get?_push_of_some→zav7,lt_size→zaw9,get?_push_size→zax2,get?_update_other→zaz1,size_push→zbe6
open PySem renaming wpAny_bind→zav6,wpAny_pure→zaw3,Shared→zaw4,starEach→zax8,backTo→zbe1
open List renaming mem_append_right→zav5,mem_cons_of_mem→zav8,mem_cons_self→zaw0,mem_append_left→zaw1,getElem?_eq_getElem→zaw2,mem_cons→zaw6,mem_singleton→zaw8,mem_append→zax0,map_cons→zax1,replicate→zax4,length_cons→zax6,length_append→zax7,size_toArray→zax9,nodup_append→zay0,filter_cons_of_neg→zay1,filter_cons_of_pos→zay2,drop_eq_getElem_cons→zay4,length_map→zay5,length_singleton→zay6,nodup_nil→zay7,nodup_cons→zay8,lookup_cons→zay9,getD_eq_getElem?_getD→zaz0,mem_filter→zaz2,replicate_succ→zaz4,all_cons→zaz6,range→zaz7,getElem?_map→zba3,any_cons→zba5,getElem?_eq_some_iff→zba6,flatten_cons→zba9,length_erase_of_mem→zbb0,not_mem_nil→zbb6,getElem?_cons_succ→zbb7,append_assoc→zbb8,length_pos_of_mem→zbb9,length_filter_le→zbc0,append_nil→zbc3,length_nil→zbc4,map_append→zbc5,length_eq_zero_iff→zbc6,getElem?_cons_zero→zbc7,all_eq_true→zbc8,zipWith_cons_cons→zbc9,drop_of_length_le→zbd0,zip_cons_cons→zbd3,pairwise_cons→zbd4,nil_append→zbd5,find?_cons→zbd6,forIn_cons→zbd7,reverse_cons→zbe0,map_nil→zbe2,mem_map→zbe3,forIn_nil→zbe7,map_congr_left→zbe9,mem_filterMap→zbf2,map_map→zbf4,eraseIdxIfInBounds_toArray→zbf6,length_drop→zbg1,zipWith→zbg3,cons_append→zbg4,filterMap_cons→zbg5,filter_eq_self→zbg6,getElem?_append_right→zbg7,foldl_cons→zbg8,getElem?_append_left→zbg9,sublist_append_right→zbh2,filter_append→zbh4,getElem?_replicate→zbh9,getElem?_set_self→zbi2,length_take→zbi4,filter_cons→zbi6,drop_length→zbi8,filter_eq_nil_iff→zbi9,getElem_mem→zbj0,length_replicate→zbj3,of_mem_zip→zbj6,getElem?_set_ne→zbj9,mem_of_getElem?→zbk0,range_eq_range'→zbk2,length_reverse→zbk4,getD_cons_zero→zbk7,getD_cons_succ→zbk8,any_eq_true→zbl9,zipIdx_cons→zbm0,range'_succ→zbm1,foldl→zbo6
open PySem.W renaming Frag→zav4,mg_none_of→zba0,keepIn→zba4,fnOf→zba8,kia_one→zbb2,nsIn→zbb4,kla_obj→zbd8,findIn→zbe4,CodeHd→zbe8,tabIn→zbf8,codeIn→zbg0,methodObj→zbh7,kitx_dict→zbh8,cellsFrom_some→zbi3,instObj→zbj5,lookIn→zbk3,kla_fn→zbk5,hasDictIn→zbl1,specialIn→zbl2,plainGet→zbl4,OpenLaw→zbm9,mg_of→zbp1,WalkO→zbp4
open PySem PyProof.Rows
set_option Elab.async false
set_option linter.all false
set_option maxRecDepth 100000
namespace L2
open PySem.Spec
abbrev Key:=Sum Int Str
def zab6:Key→Value→Bool
 |.inl k,v=>Value.isInt k v
 |.inr x,v=>Value.isStrOf x v
def keyH (w:World):Key→Int
 |.inl k=>hashInt k
 |.inr x=>hashStr w x
theorem zc8:∀ {k:Key}{v:Value},zab6 k v=true→(∃i t,k=Sum.inl i∧v=Value.int i t)∨(∃x t,k=Sum.inr x∧v=Value.str x t)
 |.inl i,v,h=>by
  obtain⟨t,e⟩:=Value.isInt_shape (k:=i) (v:=v) h
  exact .inl ⟨i,t,rfl,e⟩
 |.inr x,v,h=>by
  obtain⟨t,e⟩:=Value.isStrOf_shape (x:=x) (v:=v) h
  exact .inr ⟨x,t,rfl,e⟩
theorem zaq1 (i:Int) (t:Tok):zab6 (.inl i) (.int i t)=true:=by simp [zab6,Value.isInt]
theorem zaq0 (x:Str) (t:Tok):zab6 (.inr x) (.str x t)=true:=by simp [zab6,Value.isStrOf]
theorem key_ll (a b:Int):decide ((Sum.inl a:Key)=Sum.inl b)=(a == b):=by
 by_cases e:a=b
 ·subst e;simp
 ·have h : ¬ (Sum.inl a:Key)=Sum.inl b:=fun q=>e (Sum.inl.inj q)
  rw [decide_eq_false h]
  exact (beq_eq_false_iff_ne.mpr e).symm
theorem key_rr (a b:Str):decide ((Sum.inr a:Key)=Sum.inr b)=decide (a=b):=by
 by_cases e:a=b
 ·subst e;simp
 ·have h : ¬ (Sum.inr a:Key)=Sum.inr b:=fun q=>e (Sum.inr.inj q)
  rw [decide_eq_false h,decide_eq_false e]
theorem key_lr (a:Int) (b:Str):decide ((Sum.inl a:Key)=Sum.inr b)=false:=decide_eq_false (fun q=>nomatch q)
theorem key_rl (a:Str) (b:Int):decide ((Sum.inr a:Key)=Sum.inl b)=false:=decide_eq_false (fun q=>nomatch q)
noncomputable def zd0 (prog:Program) (w:World):PySem.KeyKind prog w Key where
 is:=zab6
 hash:=keyH w
 inj:=fun v a b ha hb=>by
  rcases zc8 ha with ⟨i,t,rfl,rfl⟩ | ⟨x,t,rfl,rfl⟩
  ·rcases zc8 hb with ⟨j,u,rfl,e⟩ | ⟨y,u,rfl,e⟩
   ·injection e with e1 _;rw [e1]
   ·exact nomatch e
  ·rcases zc8 hb with ⟨j,u,rfl,e⟩ | ⟨y,u,rfl,e⟩
   ·exact nomatch e
   ·injection e with e1 _;rw [e1]
 byValue:=fun k v h=>by
  rcases zc8 h with ⟨i,t,rfl,rfl⟩ | ⟨x,t,rfl,rfl⟩<;>rfl
 pyHash:=fun hv h=>by
  rcases zc8 hv with ⟨i,t,rfl,rfl⟩ | ⟨x,t,rfl,rfl⟩
  ·exact wpAny_pyHash_int h
  ·exact wpAny_pyHash_str h
 eqBool:=fun hu hv h=>by
  rcases zc8 hu with ⟨i,t,rfl,rfl⟩ | ⟨x,t,rfl,rfl⟩
  ·rcases zc8 hv with ⟨j,u,rfl,rfl⟩ | ⟨y,u,rfl,rfl⟩
   ·rw [key_ll]at h;exact wpAny_eqBool_int h
   ·rw [key_lr]at h;exact SeqAt.EqAt.int_str i t y u _ _ _ _ h
  ·rcases zc8 hv with ⟨j,u,rfl,rfl⟩ | ⟨y,u,rfl,rfl⟩
   ·rw [key_rl]at h;exact SeqAt.EqAt.str_int x t j u _ _ _ _ h
   ·rw [key_rr]at h;exact wpAny_eqBool_str h
 «strs»:=fun k x t v h=>by
  rcases zc8 h with ⟨i,u,rfl,e⟩ | ⟨y,u,rfl,e⟩
  ·exact nomatch e
  ·injection e with e1 _
   subst e1
   cases v<;>rfl
theorem zab4 (prog:Program) (w:World) (i:Int) (t:Tok):(zd0 prog w).is (.inl i) (.int i t)=true:=zaq1 i t
theorem zab3 (prog:Program) (w:World) (x:Str) (t:Tok):(zd0 prog w).is (.inr x) (.str x t)=true:=zaq0 x t
inductive V where
 |non | bl (b:Bool) |int (i:Int) |str (x:Str) |byt (b:Array UInt8) |flt (b:UInt64) |ref (a:Addr) |ty (n:String)
 deriving DecidableEq
noncomputable def RelV:V→Value→Prop
 |.non,u=>u=Value.none
 |.bl b,u=>u=Value.bool b
 |.int i,u => ∃t,u=Value.int i t
 |.str x,u => ∃t,u=Value.str x t
 |.byt b,u => ∃t,u=Value.bytes b t
 |.flt b,u => ∃t,u=Value.float b t
 |.ref a,u=>u=Value.ref a
 |.ty n,u=>u=Value.type n
abbrev Vals:List V→List Value→Prop:=Paired RelV
theorem Vals.length {xs:List V}{us:List Value} (r:Vals xs us):xs.length=us.length:=Paired.length r
theorem Vals.get:∀ {xs:List V}{us:List Value}{i:Nat}{x:V},Vals xs us→xs[i]?=some x→∃u,us[i]?=some u∧RelV x u
 |_,_,_,_,.nil,e=>by simp at e
 |_,_,0,_,.cons r _,e=>by simp at e;subst e;exact⟨_,rfl,r⟩
 |_,_,i+1,x,.cons _ t,e=>by
  obtain⟨u,h1,h2⟩:=Vals.get (i:=i) (x:=x) t (by simpa using e)
  exact⟨u,by simpa using h1,h2⟩
theorem Vals.set {x:V}{u:Value} (r:RelV x u):∀ {xs:List V}{us:List Value} (i:Nat),Vals xs us→Vals (xs.set i x) (us.set i u)
 |_,_,_,.nil=>.nil
 |_,_,0,.cons _ t=>.cons r t
 |_,_,i+1,.cons q t=>.cons q (Vals.set r i t)
theorem Vals.append:∀ {xs ys:List V}{us ws:List Value},Vals xs us→Vals ys ws→Vals (xs++ys) (us++ws)
 |_,_,_,_,.nil,s=>s
 |_,_,_,_,.cons r t,s=>.cons r (Vals.append t s)
theorem Vals.take:∀ {xs:List V}{us:List Value} (n:Nat),Vals xs us→Vals (xs.take n) (us.take n)
 |_,_,0,_=>.nil
 |_,_,_+1,.nil=>.nil
 |_,_,n+1,.cons r t=>.cons r (Vals.take n t)
theorem Vals.drop:∀ {xs:List V}{us:List Value} (n:Nat),Vals xs us→Vals (xs.drop n) (us.drop n)
 |_,_,0,r=>r
 |_,_,_+1,.nil=>.nil
 |_,_,n+1,.cons _ t=>Vals.drop n t
def RelO:Option V→Option Value→Prop
 |some v,some u=>RelV v u
 |none,none=>True
 |_,_=>False
def KV {κ:Type}:List (κ×V)→List (κ×Value)→Prop:=Paired fun (p:κ×V) (q:κ×Value)=>p.1=q.1∧RelV p.2 q.2
def kV:Key→V
 |.inl i=>.int i
 |.inr x=>.str x
inductive HO where
 /-- a list -/
 |lst (xs:List V)
 /-- a tuple (never changes) -/
 |tup (xs:List V)
 /-- a dict whose keys are ints and texts;one whose keys are tuples of ints and texts (the empty one is both) -/
 |dK (kvs:List (Key×V)) |dT (kvs:List (List Key×V))
 /-- a set of ints: its members,its size -/
 |set (S:Int→Bool) (n:Nat)
 /-- an instance of the class at C,its dict at dx,its attributes -/
 |ins (C dx:Addr) (fs:List (Str×V))
 /-- the dict of the instance at x -/
 |own (x:Addr)
 /-- the dict of an exception -/
 |xd (fs:List (Str×V))
 /-- a bound method,f of x -/
 |met (f x:Addr)
 /-- a range object lo,lo+1,.. below hi -/
 |rng (lo hi:Int)
 /-- a thing that is known to the object (the script;a dict while a loop walks it): read,never written while it is so -/
 |frz (o:Obj) (u:HO)
 /-- a code object's table -/
 |tbl (q:Str)
 /-- any other thing,by what is true of its one object (a def of one's own: SetO a S n:=HO.ext fun h=>..) -/
 |ext (φ:Heap→Prop)
abbrev Hp:=Addr→Option HO
def upd (H:Hp) (a:Addr) (o:HO):Hp:=fun b=>if b=a then some o else H b
theorem za4 {H:Hp}{a:Addr}{o:HO}:upd H a o a=some o:=by unfold upd;rw [if_pos rfl]
theorem za3 {H:Hp}{a b:Addr}{o:HO} (h:b≠a):upd H a o b=H b:=by unfold upd;rw [if_neg h]
theorem zap0 {H:Hp}{a b:Addr}{o u:HO} (h:H a=some o) (h':H b=some u) (d:o≠u):a≠b:=by
 intro e;subst e;rw [h]at h';exact d (Option.some.inj h')
theorem zf3 {H:Hp}{a b:Addr}{o:HO} (h:H a=some o) (h':H b=none):a≠b:=by
 intro e;subst e;rw [h]at h';cases h'
section
variable (P:Program) (w:World)
noncomputable def ObjOk (H:Hp) (h:Heap) (a:Addr):HO→Prop
 |.lst xs=>xs.length≤sizeLine∧∃(its:List Value) (n:Nat),Vals xs its∧h.get? a=some { cls:=.type "list",data:=.seq its.toArray n }
 |.tup xs=>xs.length≤sizeLine∧∃its:List Value,Vals xs its∧IsTup h a its.toArray
 |.dK kvs=>kvs.length≤sizeLine∧(a == sysModules)=false∧∃vs,KV kvs vs∧h.DictOf (zd0 P w) a vs
 |.dT kvs=>kvs.length≤sizeLine∧(a == sysModules)=false∧∃xs:List (List Key×Addr×Value),
   Paired (fun (p:List Key×V) (q:List Key×Addr×Value)=>p.1=q.1∧H q.2.1=some (.tup (p.1.map kV))∧RelV p.2 q.2.2) kvs xs ∧
   ∃o es ep,h.get? a=some o∧o.ExactDict∧o.data=.dict es ep∧es.toList=xs.map (entryOfKey (tupleKind (zd0 P w)))∧(xs.map (·.1)).Nodup
 |.set S n=>h.SetOf (intKind P w) a S n
 |.ins C dx fs=>H dx=some (.own a)∧fs.length≤1000∧dx≠a∧h.get? a=some (zbj5 C dx) ∧
   ∃mA,h.Ns1 dx mA∧(∀f,RelO (fs.lookup f) (mA f))∧PySem.Within mA (fs.map (·.1))
 |.own _ => ∃o,h.get? a=some o
 |.xd fs => ∃mA,h.Ns1 a mA∧∀f,RelO (fs.lookup f) (mA f)
 |.rng lo hi => ∃t u v,h.get? a=some { cls:=.type "range",data:=.fields #[.int lo t,.int hi u,.int 1 v] }
 |.frz o u=>h.get? a=some o∧ObjOk H h a u
 |.tbl q => ∃ps:Array Value,h.get? a=some { cls:=.none,data:=.fields ps }∧TriplesOk ps.toList∧∀pos cv,codeAmong pos ps.toList=some cv→∃(c:Addr) (oc:Obj) (vs:Array Value) (tk:Tok),cv=.ref c∧H c=some (.frz oc (.own 0))∧oc.data=.fields vs∧vs[1]?=some (.str q tk)
 |.met f x=>h.get? a=some (zbh7 (.ref f) (.ref x))
 |.ext φ=>φ h∧(∃o,h.get? a=some o)∧∀h1 h2:Heap,φ h1→(∀o,h1.get? a=some o→h2.get? a=some o)→φ h2
def HOk (H:Hp) (h:Heap):Prop := ∀a o,H a=some o→ObjOk P w H h a o
end
section
variable {P:Program}{w:World}{H H':Hp}{h h':Heap}{a:Addr}{o:HO}
theorem ObjOk.lt (x:ObjOk P w H h a o):a<h.objs.size:=by
 cases o with
 |lst xs=>obtain⟨_,_,_,_,e⟩:=x;exact zaw9 e
 |tup xs=>obtain⟨_,_,_,p⟩:=x;exact p.lt
 |dK kvs=>obtain⟨_,_,_,_,o,_,_,e,_⟩:=x;exact zaw9 e
 |dT kvs=>obtain⟨_,_,_,_,o,_,_,e,_⟩:=x;exact zaw9 e
 |set S n=>obtain⟨o,_,_,_,e,_⟩:=x;exact zaw9 e
 |ins C dx fs=>obtain⟨_,_,_,e,_⟩:=x;exact zaw9 e
 |own y=>obtain⟨_,e⟩:=x;exact zaw9 e
 |xd fs=>obtain⟨_,⟨_,_,_,e,_⟩,_⟩:=x;exact zaw9 e
 |rng lo hi=>obtain⟨_,_,_,e⟩:=x;exact zaw9 e
 |frz ob u=>obtain⟨e,_⟩:=x;exact zaw9 e
 |tbl q=>obtain⟨_,e,_⟩:=x;exact zaw9 e
 |met f y=>exact zaw9 (show h.get? a=some _ from x)
 |ext φ=>obtain⟨_,⟨_,e⟩,_⟩:=x;exact zaw9 e
theorem Paired.mapP {α β:Type}{F G:α→β→Prop}:∀ {l₁:List α}{l₂:List β},Paired F l₁ l₂→(∀a b,F a b→G a b)→Paired G l₁ l₂
 |_,_,.nil,_=>.nil
 |_,_,.cons r t,f=>.cons (f _ _ r) (Paired.mapP t f)
theorem ObjOk.stay (x:ObjOk P w H h a o) (k:∀b u,(b=a∨H b=some (.own a))→h.get? b=some u→h'.get? b=some u)
  (ho:∀b,H b=some (.own a)→H' b=some (.own a)) (ht:∀b xs,H b=some (.tup xs)→H' b=some (.tup xs)) (hz:∀b o u,H b=some (.frz o u)→H' b=some (.frz o u)):ObjOk P w H' h' a o:=by
 induction o with
 |lst xs=>obtain⟨z,its,n,r,e⟩:=x;exact⟨z,its,n,r,k _ _ (.inl rfl) e⟩
 |tup xs=>obtain⟨z,its,r,ob,e,c⟩:=x;exact⟨z,its,r,ob,k _ _ (.inl rfl) e,c⟩
 |dK kvs=>obtain⟨z,y,vs,r,ob,es,ep,e,c⟩:=x;exact⟨z,y,vs,r,ob,es,ep,k _ _ (.inl rfl) e,c⟩
 |dT kvs =>
  obtain⟨z,y,xs,r,ob,es,ep,e,c⟩:=x
  exact⟨z,y,xs,Paired.mapP r fun p q z=>⟨z.1,ht _ _ z.2.1,z.2.2⟩,ob,es,ep,k _ _ (.inl rfl) e,c⟩
 |set S n=>obtain⟨ob,es,ep,t,e,c⟩:=x;exact⟨ob,es,ep,t,k _ _ (.inl rfl) e,c⟩
 |ins C dx fs =>
  obtain⟨d,z,ne,e,mA,⟨od,es,ep,e2,c⟩,r⟩:=x
  exact⟨ho _ d,z,ne,k _ _ (.inl rfl) e,mA,⟨od,es,ep,k _ _ (.inr d) e2,c⟩,r⟩
 |own y=>obtain⟨ob,e⟩:=x;exact⟨ob,k _ _ (.inl rfl) e⟩
 |xd fs=>obtain⟨mA,⟨od,es,ep,e,c⟩,r⟩:=x;exact⟨mA,⟨od,es,ep,k _ _ (.inl rfl) e,c⟩,r⟩
 |rng lo hi=>obtain⟨t,u,v,e⟩:=x;exact⟨t,u,v,k _ _ (.inl rfl) e⟩
 |frz ob u ih=>obtain⟨e,q⟩:=x;exact⟨k _ _ (.inl rfl) e,ih q⟩
 |tbl q=>obtain⟨ps,e,t,r⟩:=x;exact⟨ps,k _ _ (.inl rfl) e,t,fun pos cv z=>let ⟨c,oc,vs,tk,a1,a2,a3⟩:=r pos cv z;⟨c,oc,vs,tk,a1,hz _ _ _ a2,a3⟩⟩
 |met f y =>
  have e:h.get? a=some (zbh7 (.ref f) (.ref y)):=x
  show h'.get? a=some (zbh7 (.ref f) (.ref y))
  exact k a _ (.inl rfl) e
 |ext φ=>obtain⟨p,⟨o,e⟩,st⟩:=x;exact⟨st _ _ p fun o q=>k _ _ (.inl rfl) q,⟨o,k _ _ (.inl rfl) e⟩,st⟩
theorem HOk.lt (x:HOk P w H h) (e:H a=some o):a<h.objs.size:=(x a o e).lt
theorem HOk.fresh (x:HOk P w H h) (e:h.objs.size≤a):H a=none:=by
 cases q:H a with
 |none=>rfl
 |some u=>exact absurd (zax3 (x.lt q) e) (zba2 _)
theorem HOk.kept (x:HOk P w H h) (k:∀b u,h.get? b=some u→h'.get? b=some u):HOk P w H h':=fun a o e =>
 (x a o e).stay (fun b u _ q=>k b u q) (fun _ q=>q) (fun _ _ q=>q) fun _ _ _ q=>q
theorem HOk.laid (x:HOk P w H h) (k:∀b u,h.get? b=some u→h'.get? b=some u) (hp:h.objs.size≤a) (new:ObjOk P w (upd H a o) h' a o):HOk P w (upd H a o) h':=fun b u e=>by
 have hn:=x.fresh hp
 by_cases hb:b=a
 ·subst hb;rw [za4]at e;cases e;exact new
 ·rw [za3 hb]at e
  exact (x b u e).stay (fun c v _ q=>k c v q) (fun c q=>by rw [za3 (zf3 q hn)];exact q) (fun c xs q=>by rw [za3 (zf3 q hn)];exact q) fun c o u q=>by rw [za3 (zf3 q hn)];exact q
end
def Rd (H:Hp) (a:Addr) (u:HO):Prop:=H a=some u∨∃o,H a=some (.frz o u)
theorem Rd.ok {P:Program}{w:World}{H:Hp}{h:Heap}{a:Addr}{u:HO} (r:Rd H a u) (x:HOk P w H h):ObjOk P w H h a u:=by
 rcases r with r | ⟨o,r⟩
 ·exact x a u r
 ·obtain⟨_,q⟩:=x a _ r
  exact q
noncomputable def Mut:Option HO→Prop
 |some (.lst _)=>True
 |some (.dK _)=>True
 |some (.dT _)=>True
 |some (.set _ _)=>True
 |some (.ins _ _ _)=>True
 |some (.ext _)=>True
 |_=>False
section
variable {P:Program}{w:World}{H:Hp}{h h':Heap}{x e:Addr}{o':HO}
theorem HOk.write (ok:HOk P w H h) (mu:Mut (H x)) (he:e=x∨H e=some (.own x)) (k:∀b u,b≠e→h.get? b=some u→h'.get? b=some u) (heo:∃u,h'.get? e=some u)
  (new:ObjOk P w (upd H x o') h' x o'):HOk P w (upd H x o') h':=fun b u q=>by
 have nown:∀c y,H c=some (.own y)→c≠x:=fun c y r z=>by subst z;rw [r]at mu;exact mu
 have ntup:∀c xs,H c=some (.tup xs)→c≠x:=fun c xs r z=>by subst z;rw [r]at mu;exact mu
 by_cases hb:b=x
 ·subst hb;rw [za4]at q;cases q;exact new
 ·rw [za3 hb]at q
  by_cases hbe:b=e
  ·have q':H b=some (.own x):=by
    rcases he with z | z
    ·exact absurd (hbe.trans z) hb
    ·rw [hbe];exact z
   rw [q]at q';cases q'
   obtain⟨v,hv⟩:=heo
   exact⟨v,by rw [hbe];exact hv⟩
  ·refine (ok b u q).stay (fun c v hc r=>k c v ?_ r) (fun c r=>by rw [za3 (nown c b r)];exact r) (fun c xs r=>by rw [za3 (ntup c xs r)];exact r) fun c o u r=>by rw [za3 (fun z=>by subst z;rw [r]at mu;exact mu)];exact r
   rcases hc with rfl | hc
   ·exact hbe
   ·rintro rfl
    rcases he with z | z
    ·exact nown c b hc z
    ·rw [hc]at z;cases z;exact hb rfl
end
structure Un (fs ex:List Addr) (H H':Hp) (h h':Heap):Prop where
 keep:∀b o,h.get? b=some o→H b=none→b∉fs→b∉ex→h'.get? b=some o
 slot:∀b o,h.get? b=some o→H b=none→b∈fs→b∉ex→∃sl,h'.get? b=some { o with slots:=sl }
 free:∀b o,h.get? b=some o→H b=none→b∉ex→H' b=none
 there:∀b o,h.get? b=some o→b∉ex→∃o',h'.get? b=some o'
 tups:∀b xs,H b=some (.tup xs)→H' b=some (.tup xs)
 frzs:∀b o u,H b=some (.frz o u)→H' b=some (.frz o u)
 tbls:∀b q,H b=some (.tbl q)→H' b=some (.tbl q)
section
variable {fs fs' ex ex':List Addr}{H H1 H2:Hp}{h h1 h2 h':Heap}{a x e:Addr}{o:HO}
theorem Un.any (u:Un fs ex H H1 h h1) {b:Addr}{ob:Obj} (q:h.get? b=some ob) (n:H b=none) (hx:b∉ex):∃sl,h1.get? b=some { ob with slots:=sl }:=by
 by_cases hb:b∈fs
 ·exact u.slot b ob q n hb hx
 ·exact⟨ob.slots,u.keep b ob q n hb hx⟩
theorem Un.trans (a:Un fs ex H H1 h h1) (b:Un fs ex H1 H2 h1 h2):Un fs ex H H2 h h2 where
 keep:=fun c ob q n hc hx=>b.keep c ob (a.keep c ob q n hc hx) (a.free c ob q n hx) hc hx
 slot:=fun c ob q n hc hx=>by
  obtain⟨sl,e1⟩:=a.slot c ob q n hc hx
  obtain⟨sl',e2⟩:=b.slot c _ e1 (a.free c ob q n hx) hc hx
  exact⟨sl',e2⟩
 free:=fun c ob q n hx=>by
  obtain⟨o',e1⟩:=a.there c ob q hx
  exact b.free c o' e1 (a.free c ob q n hx) hx
 there:=fun c ob q hx=>by
  obtain⟨o',e1⟩:=a.there c ob q hx
  exact b.there c o' e1 hx
 tups:=fun c xs q=>b.tups c xs (a.tups c xs q)
 frzs:=fun c ob xs q=>b.frzs c ob xs (a.frzs c ob xs q)
 tbls:=fun c q e=>b.tbls c q (a.tbls c q e)
theorem Un.kept (k:∀b u,h.get? b=some u→h'.get? b=some u):Un fs ex H H h h' :=
 ⟨fun b ob q _ _ _=>k b ob q,fun b ob q _ _ _=>⟨ob.slots,k b ob q⟩,fun _ _ _ n _=>n,fun b ob q _=>⟨ob,k b ob q⟩,fun _ _ q=>q,fun _ _ _ q=>q,fun _ _ q=>q⟩
theorem Un.refl:Un fs ex H H h h:=Un.kept fun _ _ q=>q
theorem Un.laid (k:∀b u,h.get? b=some u→h'.get? b=some u) (hp:h.objs.size≤a) (hn:H a=none):Un fs ex H (upd H a o) h h' where
 keep:=fun b u q _ _ _=>k b u q
 slot:=fun b u q _ _ _=>⟨u.slots,k b u q⟩
 free:=fun b u q n _=>by rw [za3 (zay3 (zax3 (zaw9 q) hp))];exact n
 there:=fun b u q _=>⟨u,k b u q⟩
 tups:=fun b xs q=>by rw [za3 (zf3 q hn)];exact q
 frzs:=fun b u xs q=>by rw [za3 (zf3 q hn)];exact q
 tbls:=fun b ps q=>by rw [za3 (zf3 q hn)];exact q
theorem Un.write (mu:Mut (H x)) (he:e=x∨H e=some (.own x)) (k:∀b u,b≠e→h.get? b=some u→h'.get? b=some u) (heo:∃u,h'.get? e=some u):Un fs ex H (upd H x o) h h':=by
 have hx:∀b,H b=none→b≠x:=fun b n z=>by subst z;rw [n]at mu;exact mu
 have hb:∀b,H b=none→b≠e:=fun b n z=>by
  subst z
  rcases he with r | r
  ·exact hx b n r
  ·rw [n]at r;cases r
 have hm:∀b u,H b=some u → ¬ Mut (some u)→b≠x:=fun b u q nm z=>by subst z;rw [q]at mu;exact nm mu
 refine⟨fun b u q n _ _=>k b u (hb b n) q,fun b u q n _ _=>⟨u.slots,k b u (hb b n) q⟩,fun b u q n _=>by rw [za3 (hx b n)];exact n,fun b u q _=>?_,
  fun b xs q=>by rw [za3 (hm b _ q fun z=>z)];exact q,fun b u xs q=>by rw [za3 (hm b _ q fun z=>z)];exact q,fun b ps q=>by rw [za3 (hm b _ q fun z=>z)];exact q⟩
 by_cases hbe:b=e
 ·subst hbe;exact heo
 ·exact⟨u,k b u hbe q⟩
end
def trk (h:Heap) (H:Hp):List Addr:=(zaz7 h.objs.size).filter fun a=>(H a).isSome
def hidT (h:Heap) (H:Hp):Heap:=PySem.W.hideAll h (trk h H)
theorem zaq9 (h:Heap) (H:Hp):(hidT h H).objs.size=h.objs.size:=PySem.W.hideAll_size _ _
theorem zn2 {h:Heap}{H:Hp}{b:Addr}{o:Obj} (e:h.get? b=some o) (n:H b=none):(hidT h H).get? b=some o :=
 PySem.W.hideAll_get _ e fun hm=>by
  have q:(H b).isSome=true:=(zaz2.mp hm).2
  rw [n]at q;simp at q
theorem of_hidT {h:Heap}{H:Hp}{b:Addr}{o:Obj} (e:(hidT h H).get? b=some o):h.get? b=some o∧H b=none:=by
 have e':h.get? b=some o:=PySem.W.of_hideAll (trk h H) e
 refine⟨e',?_⟩
 cases q:H b with
 |none=>rfl
 |some x =>
  have hm:b∈trk h H:=zaz2.mpr ⟨List.mem_range.mpr (zaw9 e'),by simp [q]⟩
  have z:(hidT h H).get? b=none:=PySem.W.hideAll_none (trk h H) hm
  rw [z]at e;cases e
noncomputable def allNews (g h:Heap) (L:Addr):List (Addr×Obj):=(zaz7 h.objs.size).filterMap fun a=>if a=L∨(g.get? a).isSome=true then none else (h.get? a).map fun o=>(a,o)
def rest (g h:Heap) (L d:Addr):List (Addr×Obj):=(allNews g h L).filter fun p=>decide (p.1≠d)
end L2
namespace L2
open PySem.Spec
structure BHeap extends Heap where
 tabs:List (Addr×Str)
instance:Coe BHeap Heap:=⟨BHeap.toHeap⟩
structure Mod (K:zav4) (mg:Str→Option Value) (base:BHeap):Prop where
 kin:K.In base
 glob:base.Ns mainGlobals mg
 blt:∃mb,base.Ns builtinsNs mb∧∀x:Str,x≠"__name__"→mb x=bootBuiltins x
 nolimit:base.NoLimit
 bm:∃(bm:Addr) (ob:Obj),mg "__builtins__"=some (.ref bm)∧bm≠builtinsNs∧base.get? bm=some ob∧ob.cls=.type "module"∧ob.dict=some builtinsNs∧ob.data=.plain
structure Cx where
 prog:Program
 w:World
 K:zav4
 mg:Str→Option Value
 base:BHeap
 A:Around
 N:List Str
 s₀:zaw4
 H₀:Hp
 env:Env
 outer:List Env
 stack:List Env
 ex:List Addr
 fn:Str→Bool
 calm:Bool
 pn:List (Addr×Obj)
 xe:Value→zaw4→Prop
def frs (l:List Env):List Addr:=l.filterMap (·.frame)
abbrev Cx.fs (X:Cx):List Addr:=frs X.outer
def Vis (sc:Scope) (x:Str):Prop:=sc.names.lookup x=some .local∨sc.names.lookup x=some .cell∨sc.names.lookup x=some .free
def Loc (sc:Scope) (x:Str):Prop:=sc.names.lookup x=some .local∨sc.names.lookup x=some .cell
noncomputable def Look (env:Env) (h:Heap) (m:Str→Option Value) (x:Str) (u:Value):Prop :=
 (env.kindOf x=some .local∧m x=some u)∨((env.kindOf x=some .cell∨env.kindOf x=some .free)∧∃c,env.cells.lookup x=some c∧h.IsCell c (some u))
structure Cx.Ok (X:Cx):Prop where
 mod:Mod X.K X.mg X.base
 kind:X.env.scope.kind=.function
 glob:X.env.globals=mainGlobals
 blt:X.env.builtins=builtinsNs
 above:X.s₀.heap.objs.size≤X.env.locals
 inj:∀x y c,X.env.cells.lookup x=some c→X.env.cells.lookup y=some c→x=y
 has:∀x,(X.env.kindOf x=some .cell∨X.env.kindOf x=some .free)→∃c,X.env.cells.lookup x=some c
 cab:∀x c,X.fn x=true→X.env.cells.lookup x=some c→X.s₀.heap.objs.size≤c
 hd:X.calm=true→X.A.handled=none
 frames:X.A.frames=some X.stack
 stk:X.stack=X.outer∨(X.stack=X.env::X.outer∧X.env.frame=some X.env.locals)
 exf:∀b∈X.ex,b≠X.env.locals∧∀x c,X.env.cells.lookup x=some c→c≠b
 bs:∀b o,X.base.get? b=some o→X.s₀.heap.get? b=some o∧X.H₀ b=none
 bsz:X.base.objs.size≤X.s₀.heap.objs.size
 noex:∀b o,X.base.get? b=some o→b∉X.ex
 exfs:∀b∈X.ex,b∉X.fs
 funs:X.s₀.heap.FunFrames X.base X.outer
 frf:∀b∈X.fs,X.H₀ b=none
 tabs:∀p∈X.base.tabs,X.H₀ p.1=some (.tbl p.2)
structure Inv (X:Cx) (pins:List (Addr×Obj)) (σ:List (Option V)) (H:Hp) (s:zaw4):Prop where
 ok:X.Ok
 os:s.os=X.s₀.os
 bare:AllBare s.gens
 base:Un X.fs X.ex X.H₀ H X.s₀.heap s.heap
 loc:∃m,s.heap.Ns X.env.locals m∧∀(i:Nat) (x:Str) (v:V),X.N[i]?=some x→σ[i]?=some (some v)→Vis X.env.scope x→∃u,RelV v u∧Look X.env s.heap m x u
 cell:∀x c,X.env.cells.lookup x=some c→∃v,s.heap.IsCell c v
 free:H X.env.locals=none
 freeC:∀x c,X.env.cells.lookup x=some c→H c=none
 pin:∀p∈X.pn++pins,s.heap.get? p.1=some p.2∧H p.1=none∧p.1≠X.env.locals∧p.1∉X.fs∧∀v,p.2.data≠.cell v
 hok:HOk X.prog X.w H s.heap
 len:σ.length=X.N.length
section
variable {X:Cx}{pins:List (Addr×Obj)}{σ:List (Option V)}{H H':Hp}{s:zaw4}{h':Heap}
theorem Cx.Ok.nofr (ok:X.Ok) {b:Addr}{o:Obj} (e:X.base.get? b=some o):b∉X.fs:=fun hb=>by
 have:=(ok.funs.mem hb).1
 rw [e]at this;cases this
theorem Inv.bs (I:Inv X pins σ H s):∀b o,X.base.get? b=some o→s.heap.get? b=some o∧H b=none:=fun b o e =>
 ⟨I.base.keep b o (I.ok.bs b o e).1 (I.ok.bs b o e).2 (I.ok.nofr e) (I.ok.noex b o e),I.base.free b o (I.ok.bs b o e).1 (I.ok.bs b o e).2 (I.ok.noex b o e)⟩
theorem Inv.bk (I:Inv X pins σ H s):∀b o,X.base.get? b=some o→s.heap.get? b=some o:=fun b o e=>(I.bs b o e).1
theorem Inv.mod (I:Inv X pins σ H s):Mod X.K X.mg X.base:=I.ok.mod
theorem Inv.kIn (I:Inv X pins σ H s):X.K.In s.heap:=I.ok.mod.kin.keeps I.bk
theorem Inv.nolimit (I:Inv X pins σ H s):s.heap.NoLimit:=I.ok.mod.nolimit.keeps I.bk
theorem Inv.lt (I:Inv X pins σ H s):X.env.locals<s.heap.objs.size:=let ⟨_,hn,_⟩:=I.loc;hn.lt
theorem Inv.sz (I:Inv X pins σ H s):X.s₀.heap.objs.size≤s.heap.objs.size:=zaz5 I.ok.above (zbf1 I.lt)
theorem Inv.nofs (I:Inv X pins σ H s) {a:Addr} (h:s.heap.objs.size≤a):a∉X.fs:=fun hb=>by
 obtain⟨_,o,ho,_⟩:=I.ok.funs.mem hb
 exact absurd (zax3 (zaw9 ho) (zaz5 I.sz h)) (zba2 _)
theorem Inv.cne (I:Inv X pins σ H s):∀x c,X.env.cells.lookup x=some c→c≠X.env.locals:=fun x c e z=>by
 obtain⟨v,o,ho,hd⟩:=I.cell x c e
 obtain⟨m,⟨o',es,ep,ho',hd',_⟩,_⟩:=I.loc
 rw [z,ho']at ho;cases ho;rw [hd']at hd;cases hd
theorem Inv.funs (I:Inv X pins σ H s):s.heap.FunFrames X.base X.outer:=by
 have all:∀(l:List Env),(∀b∈frs l,b∈X.fs)→X.s₀.heap.FunFrames X.base l→s.heap.FunFrames X.base l:=by
  intro l
  induction l with
  |nil=>intro _ _;trivial
  |cons env r ih =>
   intro hs hl
   obtain⟨hk,⟨L,o,hf,hn,ho,hd⟩,hr⟩:=hl
   have hL:L∈X.fs:=hs L (by unfold frs;rw [zbg5,hf];exact zaw0)
   obtain⟨sl,e⟩:=I.base.slot L o ho (I.ok.frf L hL) hL fun z=>I.ok.exfs L z hL
   exact⟨hk,⟨L,_,hf,hn,e,hd⟩,ih (fun b hb=>hs b (by unfold frs;rw [zbg5,hf];exact zav8 _ hb)) hr⟩
 exact all X.outer (fun _ hb=>hb) I.ok.funs
theorem Inv.stack (I:Inv X pins σ H s):s.heap.FunFrames X.base X.stack:=by
 rcases I.ok.stk with e | ⟨e,hf⟩
 ·rw [e];exact I.funs
 ·rw [e]
  obtain⟨m,hn,_⟩:=I.loc
  refine .cons (by rw [I.ok.kind];decide) hf hn ?_ I.funs
  exact Heap.get?_none_of_le (zaz5 I.ok.bsz I.ok.above)
theorem Inv.stkSub (I:Inv X pins σ H s):∀b∈frs X.stack,b∈X.env.locals::X.fs:=fun b hb=>by
 rcases I.ok.stk with e | ⟨e,hf⟩
 ·rw [e]at hb;exact zav8 _ hb
 ·rw [e]at hb
  unfold frs at hb
  rw [zbg5,hf]at hb
  exact hb
theorem Inv.stkFree (I:Inv X pins σ H s):∀b∈frs X.stack,H b=none:=fun b hb=>by
 rcases zaw6.mp (I.stkSub b hb) with e | hb
 ·rw [e];exact I.free
 ·obtain⟨_,o,ho,_⟩:=I.ok.funs.mem hb
  exact I.base.free b o ho (I.ok.frf b hb) fun z=>I.ok.exfs b z hb
theorem Inv.step {g':Array GenState}{t':Nat}{d':Drawn}{ch:List Addr} (I:Inv X pins σ H s)
  (hch:∀b∈ch,(b∈X.ex∨X.s₀.heap.objs.size≤b)∧b≠X.env.locals∧(∀x c,X.env.cells.lookup x=some c→c≠b)∧∀p∈X.pn++pins,p.1≠b)
  (keep:∀b o,b≠X.env.locals→b∉X.fs→b∉ch→s.heap.get? b=some o→H b=none→h'.get? b=some o)
  (slot:∀b o,b≠X.env.locals→b∈X.fs→b∉ch→s.heap.get? b=some o→H b=none→∃sl,h'.get? b=some { o with slots:=sl }) (free:∀b o,b∉ch→s.heap.get? b=some o→H b=none→H' b=none)
  (there:∀b o,b∉ch→s.heap.get? b=some o→∃o',h'.get? b=some o')
  (tups:∀b xs,H b=some (.tup xs)→H' b=some (.tup xs)) (frzs:∀b o u,H b=some (.frz o u)→H' b=some (.frz o u)) (tbls:∀b q,H b=some (.tbl q)→H' b=some (.tbl q))
  (ns:∀m,s.heap.Ns X.env.locals m→h'.Ns X.env.locals m) (hok:HOk X.prog X.w H' h') (hg:AllBare g') :
  Inv X pins σ H' { s with heap:=h',gens:=g',drawn:=d',toks:=t' }:=by
 have neL:∀b o,X.s₀.heap.get? b=some o→b≠X.env.locals:=fun b o e=>zay3 (zax3 (zaw9 e) I.ok.above)
 have neC:∀b o,X.s₀.heap.get? b=some o→b∉X.ex→b∉ch:=fun b o e hx hb=>by
  rcases (hch b hb).1 with z | z
  ·exact hx z
  ·exact absurd (zax3 (zaw9 e) z) (zba2 _)
 have cellK:∀x c,X.env.cells.lookup x=some c→∀v,s.heap.IsCell c v→h'.IsCell c v:=fun x c e v ⟨o,ho,hd⟩=>by
  have nch:c∉ch:=fun z=>(hch c z).2.2.1 x c e rfl
  by_cases hc:c∈X.fs
  ·obtain⟨sl,q⟩:=slot c o (I.cne x c e) hc nch ho (I.freeC x c e)
   exact⟨_,q,hd⟩
  ·exact⟨o,keep c o (I.cne x c e) hc nch ho (I.freeC x c e),hd⟩
 refine⟨I.ok,I.os,hg,⟨fun b o e n hb hx=>?_,fun b o e n hb hx=>?_,fun b o e n hx=>?_,fun b o e hx=>?_,fun b xs e=>tups b xs (I.base.tups b xs e),fun b o xs e=>frzs b o xs (I.base.frzs b o xs e),fun b ps e=>?_⟩,?_,fun x c e=>?_,?_,fun x c e=>?_,fun p hp=>?_,hok,I.len⟩
 ·exact keep b o (neL b o e) hb (neC b o e hx) (I.base.keep b o e n hb hx) (I.base.free b o e n hx)
 ·obtain⟨sl,e1⟩:=I.base.slot b o e n hb hx
  obtain⟨sl',e2⟩:=slot b _ (neL b o e) hb (neC b o e hx) e1 (I.base.free b o e n hx)
  exact⟨sl',e2⟩
 ·obtain⟨o',e1⟩:=I.base.there b o e hx
  exact free b o' (neC b o e hx) e1 (I.base.free b o e n hx)
 ·obtain⟨o',e1⟩:=I.base.there b o e hx
  exact there b o' (neC b o e hx) e1
 ·exact tbls b _ (I.base.tbls b ps e)
 ·obtain⟨m,hn,hl⟩:=I.loc
  refine⟨m,ns m hn,fun i x v e1 e2 e3=>?_⟩
  obtain⟨u,r,l⟩:=hl i x v e1 e2 e3
  refine⟨u,r,?_⟩
  rcases l with l | ⟨k,c,e,z⟩
  ·exact .inl l
  ·exact .inr ⟨k,c,e,cellK x c e _ z⟩
 ·obtain⟨v,z⟩:=I.cell x c e
  exact⟨v,cellK x c e v z⟩
 ·obtain⟨m,⟨o,_,_,ho,_⟩,_⟩:=I.loc
  exact free _ o (fun z=>(hch _ z).2.1 rfl) ho I.free
 ·obtain⟨v,o,ho,hd⟩:=I.cell x c e
  exact free c o (fun z=>(hch c z).2.2.1 x c e rfl) ho (I.freeC x c e)
 ·obtain⟨e,n,ne,nf,d⟩:=I.pin p hp
  have nch:p.1∉ch:=fun z=>(hch p.1 z).2.2.2 p hp rfl
  exact⟨keep p.1 p.2 ne nf nch e n,free p.1 p.2 nch e n,ne,nf,d⟩
theorem Inv.un {t':Nat} (I:Inv X pins σ H s) (u:Un X.fs [] H H' s.heap h') (hok:HOk X.prog X.w H' h'):Inv X pins σ H' { s with heap:=h',toks:=t' }:=by
 obtain⟨m,⟨o,es,ep,ho,r⟩,_⟩:=id I.loc
 obtain⟨sl,hL⟩:=u.any ho I.free (by simp)
 exact I.step (g':=s.gens) (d':=s.drawn) (ch:=[]) (fun _ z=>nomatch z) (fun b o _ hb _ e n=>u.keep b o e n hb (by simp)) (fun b o _ hb _ e n=>u.slot b o e n hb (by simp)) (fun b o _ e n=>u.free b o e n (by simp)) (fun b o _ e=>u.there b o e (by simp)) u.tups u.frzs u.tbls (fun m' hm=>by
  obtain⟨o',es',ep',ho',r'⟩:=hm
  rw [ho]at ho';cases ho'
  exact⟨_,es',ep',hL,r'⟩) hok I.bare
theorem Inv.call {g':Array GenState}{t':Nat}{d':Drawn}{ch:List Addr} (I:Inv X pins σ H s) (u:Un (frs X.stack) ch H H' s.heap h') (hok:HOk X.prog X.w H' h') (hg:AllBare g')
  (hch:∀b∈ch,(b∈X.ex∨X.s₀.heap.objs.size≤b)∧b≠X.env.locals∧(∀x c,X.env.cells.lookup x=some c→c≠b)∧∀p∈X.pn++pins,p.1≠b) :
  Inv X pins σ H' { s with heap:=h',gens:=g',drawn:=d',toks:=t' }:=by
 obtain⟨m,⟨o,es,ep,ho,r⟩,_⟩:=id I.loc
 obtain⟨sl,hL⟩:=u.any ho I.free fun z=>(hch _ z).2.1 rfl
 exact I.step (ch:=ch) hch (fun b o hL hb hc e n=>u.keep b o e n (fun z=>(zaw6.mp (I.stkSub b z)).elim hL hb) hc) (fun b o _ _ hc e n=>u.any e n hc) (fun b o hc e n=>u.free b o e n hc) (fun b o hc e=>u.there b o e hc) u.tups u.frzs u.tbls (fun m' hm=>by
  obtain⟨o',es',ep',ho',r'⟩:=hm
  rw [ho]at ho';cases ho'
  exact⟨_,es',ep',hL,r'⟩) hok hg
theorem Inv.turned {t':Nat}{it:Addr} (I:Inv X pins σ H s) (k:∀b o,b≠it→s.heap.get? b=some o→h'.get? b=some o) (hn:H it=none) (hL:it≠X.env.locals)
  (h1:it∈X.ex∨X.s₀.heap.objs.size≤it) (h2:∀x c,X.env.cells.lookup x=some c→c≠it) (h3:∀p∈X.pn++pins,p.1≠it):Inv X pins σ H { s with heap:=h',toks:=t' }:=by
 have nit:∀b u,H b=some u→b≠it:=fun b u e z=>by rw [z,hn]at e;cases e
 refine I.step (g':=s.gens) (d':=s.drawn) (ch:=[it]) (fun b hb=>?_) (fun b o _ _ hc e _=>k b o (fun z=>hc (by simp [z])) e) (fun b o _ _ hc e _=>⟨o.slots,k b o (fun z=>hc (by simp [z])) e⟩) (fun _ _ _ _ n=>n)
  (fun b o hc e=>⟨o,k b o (fun z=>hc (by simp [z])) e⟩) (fun _ _ e=>e) (fun _ _ _ e=>e) (fun _ _ e=>e) (fun m hm=>?_) (fun b u e=>?_) I.bare
 ·have e:b=it:=by simpa using hb
  subst e
  exact⟨h1,hL,h2,h3⟩
 ·obtain⟨o,es,ep,ho,r⟩:=hm
  exact⟨o,es,ep,k _ o (Ne.symm hL) ho,r⟩
 ·refine (I.hok b u e).stay (fun c v hc q=>k c v ?_ q) (fun _ q=>q) (fun _ _ q=>q) fun _ _ _ q=>q
  rcases hc with z | z
  ·rw [z];exact nit b u e
  ·exact nit c _ z
theorem Inv.tok (I:Inv X pins σ H s) (t:Nat):Inv X pins σ H { s with toks:=t }:=I.un (h':=s.heap) (t':=t) Un.refl I.hok
theorem Inv.kept {t':Nat} (I:Inv X pins σ H s) (k:∀b u,s.heap.get? b=some u→h'.get? b=some u):Inv X pins σ H { s with heap:=h',toks:=t' }:=I.un (Un.kept k) (I.hok.kept k)
theorem Inv.laid {a:Addr}{o:HO}{t':Nat} (I:Inv X pins σ H s) (k:∀b u,s.heap.get? b=some u→h'.get? b=some u) (hp:s.heap.objs.size≤a) (new:ObjOk X.prog X.w (upd H a o) h' a o) :
  Inv X pins σ (upd H a o) { s with heap:=h',toks:=t' }:=I.un (Un.laid k hp (I.hok.fresh hp)) (I.hok.laid k hp new)
theorem Inv.write {x e:Addr}{o:HO}{t':Nat} (I:Inv X pins σ H s) (mu:Mut (H x)) (he:e=x∨H e=some (.own x)) (k:∀b u,b≠e→s.heap.get? b=some u→h'.get? b=some u) (heo:∃u,h'.get? e=some u)
  (new:ObjOk X.prog X.w (upd H x o) h' x o):Inv X pins σ (upd H x o) { s with heap:=h',toks:=t' }:=I.un (Un.write mu he k heo) (I.hok.write mu he k heo new)
theorem Inv.pins_of {pins':List (Addr×Obj)} (I:Inv X pins σ H s) (h:∀p∈pins',s.heap.get? p.1=some p.2∧H p.1=none∧p.1≠X.env.locals∧p.1∉X.fs∧∀v,p.2.data≠.cell v):Inv X pins' σ H s :=
 ⟨I.ok,I.os,I.bare,I.base,I.loc,I.cell,I.free,I.freeC,fun p hp=>(zax0.mp hp).elim (fun z=>I.pin p (zaw1 _ z)) (h p),I.hok,I.len⟩
theorem zaf4 {N:List Str} (hN:N.Nodup) {i j:Nat}{x:Str} (a:N[i]?=some x) (b:N[j]?=some x):i=j:=by
 obtain⟨h1,e1⟩:=zba6.mp a
 obtain⟨h2,e2⟩:=zba6.mp b
 exact (List.getElem_inj hN).mp (e1.trans e2.symm)
theorem zak7 {M:Model}{A:Around}{E:Value→zaw4→Prop}{i:Nat}{x:Str}{v:V}{u:Value}{Q:Unit→zaw4→Prop} (I:Inv X pins σ H s) (hN:X.N.Nodup) (hi:X.N[i]?=some x) (hx:Loc X.env.scope x) (r:RelV v u)
  (h:∀s',Inv X pins (σ.set i (some v)) H s'→(∃a,Heap.SameBut a s.heap s'.heap∧(a=X.env.locals∨X.env.cells.lookup x=some a))→Q () s') (hf:X.fn x=true∨X.env.scope.names.lookup x=some .local:=by first | exact .inl rfl | exact .inr rfl | assumption):wpAny M A (storeName X.env x u) Q E s:=by
 obtain⟨m,hn,hl⟩:=id I.loc
 have hcls:(X.env.scope.kind == .class||(X.env.scope.kind == .module&&X.env.locals != X.env.globals))=false:=by rw [I.ok.kind];rfl
 have hiσ:i<σ.length:=by rw [I.len];exact (zba6.mp hi).1
 have cne:=I.cne
 have tracked:∀ {a:Addr}{h':Heap},(∃o,s.heap.get? a=some o∧H a=none)→Heap.SameBut a s.heap h'→HOk X.prog X.w H h':=fun {a h'} ha hs b ob e=>by
  obtain⟨_,_,hfree⟩:=ha
  refine (I.hok b ob e).stay (fun c w' hc q=>(hs.2 c ?_).trans q) (fun _ q=>q) (fun _ _ q=>q) fun _ _ _ q=>q
  rintro rfl
  rcases hc with rfl | hc
  ·rw [hfree]at e;cases e
  ·rw [hfree]at hc;cases hc
 rcases hx with hk | hk
 ·refine wpAny_storeName_local hk hn (fun h' hn' hs=>?_) hcls
  obtain⟨oL,_,_,hoL,_⟩:=id hn
  refine h _ ⟨I.ok,I.os,I.bare,⟨fun b o e n hb hx=>?_,fun b o e n hb hx=>?_,I.base.free,fun b o e hx=>?_,I.base.tups,I.base.frzs,I.base.tbls⟩,⟨_,hn',fun j y v' e1 e2 e3=>?_⟩,fun y c e=>?_,I.free,I.freeC,fun p hp=>?_,tracked ⟨oL,hoL,I.free⟩ hs,by simpa using I.len⟩ ⟨_,hs,.inl rfl⟩
  ·exact (hs.2 b (zay3 (zax3 (zaw9 e) I.ok.above))).trans (I.base.keep b o e n hb hx)
  ·obtain⟨sl,e1⟩:=I.base.slot b o e n hb hx
   exact⟨sl,(hs.2 b (zay3 (zax3 (zaw9 e) I.ok.above))).trans e1⟩
  ·obtain⟨o',e1⟩:=I.base.there b o e hx
   exact⟨o',(hs.2 b (zay3 (zax3 (zaw9 e) I.ok.above))).trans e1⟩
  ·by_cases hj:j=i
   ·subst hj
    rw [hi]at e1;cases e1
    rw [zbi2 hiσ]at e2
    cases e2
    exact⟨u,r,.inl ⟨hk,by simp⟩⟩
   ·rw [zbj9 (Ne.symm hj)]at e2
    obtain⟨u',r',q⟩:=hl j y v' e1 e2 e3
    refine⟨u',r',?_⟩
    rcases q with ⟨k,e⟩ | ⟨k,c,e,z⟩
    ·refine .inl ⟨k,?_⟩
     have:y≠x:=fun e=>hj (zaf4 hN e1 (e ▸ hi))
     simp [this,e]
    ·exact .inr ⟨k,c,e,z.sameBut hs (cne y c e)⟩
  ·obtain⟨w',z⟩:=I.cell y c e
   exact⟨w',z.sameBut hs (cne y c e)⟩
  ·obtain⟨e,n,ne,nf,d⟩:=I.pin p hp
   exact⟨(hs.2 p.1 ne).trans e,n,ne,nf,d⟩
 ·have hfn:X.fn x=true:=by
   rcases hf with z | z
   ·exact z
   ·rw [z]at hk;cases hk
  obtain⟨c,hc⟩:=I.ok.has x (.inl hk)
  obtain⟨w',z⟩:=I.cell x c hc
  refine wpAny_storeName_cell I.ok.kind hk hc z (fun h' hc' hs=>?_)
  obtain⟨oc,hoc,hocd⟩:=id z
  refine h { s with heap:=h' } ⟨I.ok,I.os,I.bare,⟨fun b o e n hb hx=>?_,fun b o e n hb hx=>?_,I.base.free,fun b o e hx=>?_,I.base.tups,I.base.frzs,I.base.tbls⟩,⟨m,hn.sameBut hs (Ne.symm (cne x c hc)),fun j y v' e1 e2 e3=>?_⟩,fun y c' e=>?_,I.free,I.freeC,fun p hp=>?_,tracked ⟨oc,hoc,I.freeC x c hc⟩ hs,by simpa using I.len⟩ ⟨c,hs,.inr hc⟩
  ·exact (hs.2 b (zay3 (zax3 (zaw9 e) (I.ok.cab x c hfn hc)))).trans (I.base.keep b o e n hb hx)
  ·obtain⟨sl,e1⟩:=I.base.slot b o e n hb hx
   exact⟨sl,(hs.2 b (zay3 (zax3 (zaw9 e) (I.ok.cab x c hfn hc)))).trans e1⟩
  ·obtain⟨o',e1⟩:=I.base.there b o e hx
   exact⟨o',(hs.2 b (zay3 (zax3 (zaw9 e) (I.ok.cab x c hfn hc)))).trans e1⟩
  ·by_cases hj:j=i
   ·subst hj
    rw [hi]at e1;cases e1
    rw [zbi2 hiσ]at e2
    cases e2
    exact⟨u,r,.inr ⟨.inl hk,c,hc,hc'⟩⟩
   ·rw [zbj9 (Ne.symm hj)]at e2
    obtain⟨u',r',q⟩:=hl j y v' e1 e2 e3
    refine⟨u',r',?_⟩
    rcases q with q | ⟨k,c',e,z'⟩
    ·exact .inl q
    ·refine .inr ⟨k,c',e,z'.sameBut hs ?_⟩
     rintro rfl
     exact hj (zaf4 hN e1 (I.ok.inj _ _ _ e hc ▸ hi))
  ·by_cases hcc:c'=c
   ·subst hcc;exact⟨_,hc'⟩
   ·obtain⟨w2,z2⟩:=I.cell y c' e
    exact⟨w2,z2.sameBut hs hcc⟩
  ·obtain⟨e,n,ne,nf,d⟩:=I.pin p hp
   refine⟨(hs.2 p.1 ?_).trans e,n,ne,nf,d⟩
   intro q
   rw [q,hoc]at e
   have q':oc=p.2:=Option.some.inj e
   exact d w' (by rw [← q'];exact hocd)
theorem zad7 {M:Model}{A:Around}{E:Value→zaw4→Prop}{i:Nat}{x:Str}{v:V}{u:Value}{Q:Unit→zaw4→Prop} (I:Inv X pins σ H s) (hN:X.N.Nodup) (hi:X.N[i]?=some x) (hx:Loc X.env.scope x) (r:RelV v u)
  (h:∀s',Inv X pins (σ.set i (some v)) H s'→Q () s') (hf:X.fn x=true∨X.env.scope.names.lookup x=some .local:=by first | exact .inl rfl | exact .inr rfl | assumption):wpAny M A (storeName X.env x u) Q E s :=
 zak7 I hN hi hx r (fun s' I' _=>h s' I') hf
end
abbrev XK:=Value→Option Addr→Hp→Prop
abbrev St:=List (Option V)
abbrev VK:=V→Hp→Prop
abbrev TE:=St→Hp→VK→Prop
abbrev TT:=St→Hp→(Bool→Hp→Prop)→Prop
abbrev TA:=St→Hp→(List V→Hp→Prop)→Prop
structure Ends where
 nx:St→Hp→Prop
 rt:VK
 bk:St→Hp→Prop:=fun _ _=>False
 ct:St→Hp→Prop:=fun _ _=>False
abbrev TS:=Ends→St→Hp→Prop
def EP (X:Cx) (pins:List (Addr×Obj)) (σ:St) (Q:VK) (u:Value) (s':zaw4):Prop := ∃v H',Inv X pins σ H' s'∧RelV v u∧Q v H'
def TP (X:Cx) (pins:List (Addr×Obj)) (σ:St) (Q:Bool→Hp→Prop) (b:Bool) (s':zaw4):Prop := ∃H',Inv X pins σ H' s'∧Q b H'
noncomputable def AP (X:Cx) (pins:List (Addr×Obj)) (σ:St) (Q:List V→Hp→Prop) (us:List Value) (s':zaw4):Prop := ∃vs H',Inv X pins σ H' s'∧Vals vs us∧Q vs H'
noncomputable def SP (X:Cx) (pins:List (Addr×Obj)) (D:Ends) (f:Flow) (s':zaw4):Prop :=
 match f with
 |.next => ∃σ' H',Inv X pins σ' H' s'∧D.nx σ' H'
 |.brk => ∃σ' H',Inv X pins σ' H' s'∧D.bk σ' H'
 |.cont => ∃σ' H',Inv X pins σ' H' s'∧D.ct σ' H'
 |.ret u => ∃v σ' H',Inv X pins σ' H' s'∧RelV v u∧D.rt v H'
noncomputable def PE (X:Cx) (e:Expr) (t:TE):Prop :=
 ∀(pins:List (Addr×Obj)) (s:zaw4) (σ:St) (H:Hp) (Q:VK),Inv X pins σ H s→t σ H Q→wpAny (model X.prog X.w) X.A (eval e X.env) (EP X pins σ Q) X.xe s
noncomputable def PT (X:Cx) (e:Expr) (t:TT):Prop :=
 ∀(pins:List (Addr×Obj)) (s:zaw4) (σ:St) (H:Hp) (Q:Bool→Hp→Prop),Inv X pins σ H s→t σ H Q→wpAny (model X.prog X.w) X.A (isTrue e X.env (eval e X.env)) (TP X pins σ Q) X.xe s
noncomputable def PW (X:Cx) (e:Expr) (t:TT):Prop :=
 ∀(whole:Sem Value) (pins:List (Addr×Obj)) (s:zaw4) (σ:St) (H:Hp) (Q:Bool→Hp→Prop),Inv X pins σ H s→t σ H Q→wpAny (model X.prog X.w) X.A (isTrue e X.env whole) (TP X pins σ Q) X.xe s
theorem PW.pt {X:Cx}{e:Expr}{t:TT} (h:PW X e t):PT X e t:=h _
noncomputable def PA (X:Cx) (es:List Expr) (t:TA):Prop :=
 ∀(pos:Pos) (pins:List (Addr×Obj)) (s:zaw4) (σ:St) (H:Hp) (Q:List V→Hp→Prop),Inv X pins σ H s→t σ H Q→wpAny (model X.prog X.w) X.A (spliced (zbe1 pos (zax8 es X.env))) (AP X pins σ Q) X.xe s
noncomputable def PS (X:Cx) (st:Stmt) (t:TS):Prop :=
 ∀(pins:List (Addr×Obj)) (s:zaw4) (σ:St) (H:Hp) (D:Ends),Inv X pins σ H s→t D σ H→wpAny (model X.prog X.w) X.A (exec st X.env) (SP X pins D) X.xe s
noncomputable def PSs (X:Cx) (st:List Stmt) (t:TS):Prop :=
 ∀(pins:List (Addr×Obj)) (s:zaw4) (σ:St) (H:Hp) (D:Ends),Inv X pins σ H s→t D σ H→wpAny (model X.prog X.w) X.A (execs st X.env) (SP X pins D) X.xe s
theorem thn {α:Type}{t:Sem α}{Q Q':α→zaw4→Prop}{M:Model}{A:Around}{E:Value→zaw4→Prop}{s:zaw4} (h:wpAny M A t Q E s) (hQ:∀a s,Q a s→Q' a s):wpAny M A t Q' E s:=wpAny_mono h hQ fun _ _ x=>x
end L2
namespace L2
open PySem.Spec
section
variable {X:Cx}
theorem bin {a b:Expr}{ta tb:TE} (ha:PE X a ta) (hb:PE X b tb) {pins:List (Addr×Obj)}{s:zaw4}{σ:St}{H:Hp}{R:V→V→Hp→Prop} (I:Inv X pins σ H s) (h:ta σ H fun x H1=>tb σ H1 fun y H2=>R x y H2)
  {α:Type}{Q:α→zaw4→Prop}{f:Value→Value→Sem α}
  (hf:∀v u s2 x y H2,Inv X pins σ H2 s2→RelV x v→RelV y u→R x y H2→wpAny (model X.prog X.w) X.A (f v u) Q X.xe s2) :
  wpAny (model X.prog X.w) X.A (eval a X.env) (fun v s₁=>wpAny (model X.prog X.w) X.A (eval b X.env) (fun u s₂=>wpAny (model X.prog X.w) X.A (f v u) Q X.xe s₂) X.xe s₁) X.xe s:=by
 refine thn (ha pins s σ H _ I h) fun v s1 ⟨x,H1,I1,r1,q1⟩=>?_
 refine thn (hb pins s1 σ H1 _ I1 q1) fun u s2 ⟨y,H2,I2,r2,q2⟩=>?_
 exact hf v u s2 x y H2 I2 r1 r2 q2
def tVar (i:Nat):TE:=fun σ H Q => ∃v,σ[i]?=some (some v)∧Q v H
def tC (v:V):TE:=fun _ H Q=>Q v H
theorem zk5 {i:Nat}{x:Str}{pos:Pos} (hN:X.N[i]?=some x) (hv:Vis X.env.scope x) (hd:(x ==("__debug__":Str))=false:=by decide) (hcd:(x ==("__classdict__":Str))=false:=by decide):PE X (.Name x pos) (tVar i):=by
 intro pins s σ H Q I h
 obtain⟨v,e,h⟩:=h
 obtain⟨m,hn,hl⟩:=I.loc
 obtain⟨u,r,l⟩:=hl i x v hN e hv
 have fin:EP X pins σ Q u s:=⟨v,H,I,r,h⟩
 rcases l with ⟨hk,hm⟩ | ⟨hk,c,hc,hcell⟩
 ·exact wpAny_Name (wpAny_loadName_local I.ok.kind hk hn hm fin) hd
 ·rcases hk with hk | hk
  ·exact wpAny_Name (wpAny_loadName_cell I.ok.kind hk hc hcell fin) hd
  ·exact wpAny_Name (wpAny_loadName_free I.ok.kind hk hc hcell fin hcd) hd
theorem pe_int {i j pos}:PE X (.Constant (.int i) j pos) (tC (.int i)):=fun _ _ _ H _ I h=>wpAny_Constant_int ⟨.int i,H,I.tok _,⟨_,rfl⟩,h⟩
theorem pe_bl {b j pos}:PE X (.Constant (.bool b) j pos) (tC (.bl b)):=fun _ _ _ H _ I h=>Constant_bool ⟨.bl b,H,I,rfl,h⟩
def Gl (X:Cx) (x:Str):Prop:=X.env.kindOf x=some .globalImplicit
theorem ld_glob {E:Value→zaw4→Prop}{pins:List (Addr×Obj)}{s:zaw4}{σ:St}{H:Hp}{x:Str}{u:Value}{pos:Pos}{Q:Value→zaw4→Prop} (I:Inv X pins σ H s) (hg:Gl X x) (hm:X.mg x=some u) (h:Q u s)
  (hd:(x ==("__debug__":Str))=false:=by decide):wpAny (model X.prog X.w) X.A (eval (.Name x pos) X.env) Q E s :=
 Calls.Name_function_global I.ok.kind hg (Calls.loadGlobal_global (by rw [I.ok.glob];exact I.mod.glob.keeps I.bk) hm h) hd
theorem zj3 {E:Value→zaw4→Prop}{pins:List (Addr×Obj)}{s:zaw4}{σ:St}{H:Hp}{x:Str}{u:Value}{pos:Pos}{Q:Value→zaw4→Prop} (I:Inv X pins σ H s) (hg:Gl X x) (hm:X.mg x=none) (hv:bootBuiltins x=some u) (h:Q u s)
  (hn:x≠"__name__":=by decide) (hd:(x ==("__debug__":Str))=false:=by decide):wpAny (model X.prog X.w) X.A (eval (.Name x pos) X.env) Q E s:=by
 obtain⟨mb,h1,h2⟩:=I.mod.blt
 exact Calls.Name_function_global I.ok.kind hg (Calls.loadGlobal_builtin (by rw [I.ok.glob];exact I.mod.glob.keeps I.bk) hm (by rw [I.ok.blt];exact h1.keeps I.bk) ((h2 x hn).trans hv) h) hd
theorem pe_bltn {x:Str}{v:V}{u:Value}{pos:Pos} (hg:Gl X x) (hm:X.mg x=none) (hv:bootBuiltins x=some u) (r:RelV v u) (hn:x≠"__name__":=by decide) (hd:(x ==("__debug__":Str))=false:=by decide):PE X (.Name x pos) (tC v) :=
 fun _ _ _ H _ I h=>zj3 I hg hm hv ⟨v,H,I,r,h⟩ hn hd
variable {a b:Expr}{ta tb:TE}{pos:Pos}
variable {tA tB':TT}{rest:List Expr}
def tAnd (t u:TT):TT:=fun σ H Q=>t σ H fun c H1=>if c=true then u σ H1 Q else Q false H1
def tOr (t u:TT):TT:=fun σ H Q=>t σ H fun c H1=>if c=true then Q true H1 else u σ H1 Q
theorem pw_and1 (ha:PT X a tA):PW X (.BoolOp .And [a] pos) tA:=by
 intro wh pins s σ H Q I h
 refine isTrue_and (thn (ha pins s σ H Q I h) fun c s1 e=>?_)
 cases c with
 |true=>exact isTrue_and_nil e
 |false=>exact e
theorem pw_or1 (ha:PT X a tA):PW X (.BoolOp .Or [a] pos) tA:=by
 intro wh pins s σ H Q I h
 refine isTrue_or (thn (ha pins s σ H Q I h) fun c s1 e=>?_)
 cases c with
 |false=>exact isTrue_or_nil e
 |true=>exact e
theorem pw_and (ha:PT X a tA) (hb:PW X (.BoolOp .And (b::rest) pos) tB'):PW X (.BoolOp .And (a::b::rest) pos) (tAnd tA tB'):=by
 intro wh pins s σ H Q I h
 refine isTrue_and (thn (ha pins s σ H _ I h) fun c s1 ⟨H1,I1,q1⟩=>?_)
 cases c with
 |true=>exact hb wh pins s1 σ H1 Q I1 q1
 |false=>exact⟨H1,I1,q1⟩
theorem pw_or (ha:PT X a tA) (hb:PW X (.BoolOp .Or (b::rest) pos) tB'):PW X (.BoolOp .Or (a::b::rest) pos) (tOr tA tB'):=by
 intro wh pins s σ H Q I h
 refine isTrue_or (thn (ha pins s σ H _ I h) fun c s1 ⟨H1,I1,q1⟩=>?_)
 cases c with
 |true=>exact⟨H1,I1,q1⟩
 |false=>exact hb wh pins s1 σ H1 Q I1 q1
end
end L2
namespace L2
open PySem.Spec
noncomputable def SqL (K:zav4) (H:Hp) (a:Addr) (xs:List V):Prop :=
 Rd H a (.lst xs) ∨
  ∃(o:Obj) (its:Array Value) (n:Nat),K.lookup a=some o∧o.cls=.type "list"∧o.dict=none∧o.data=.seq its n∧its.size≤sizeLine∧Vals xs its.toList
def SqT (K:zav4) (H:Hp) (a:Addr) (xs:List V):Prop:=H a=some (.tup xs)
noncomputable def absV:Value→Option V
 |.none=>some .non
 |.bool b=>some (.bl b)
 |.int i _=>some (.int i)
 |.str x _=>some (.str x)
 |.bytes b _=>some (.byt b)
 |.float b _=>some (.flt b)
 |.ref a=>some (.ref a)
 |.type n=>some (.ty n)
 |_=>none
theorem RelV.abs {x:V}{u:Value} (r:RelV x u):absV u=some x:=by
 cases x with
 |non=>cases r;rfl
 |bl _=>cases r;rfl
 |int _=>obtain⟨t,rfl⟩:=r;rfl
 |str _=>obtain⟨t,rfl⟩:=r;rfl
 |byt _=>obtain⟨t,rfl⟩:=r;rfl
 |flt _=>obtain⟨t,rfl⟩:=r;rfl
 |ref _=>cases r;rfl
 |ty _=>cases r;rfl
theorem RelV.inj {x y:V}{u:Value} (r:RelV x u) (q:RelV y u):x=y:=Option.some.inj (r.abs.symm.trans q.abs)
theorem Vals.inj:∀ {xs ys:List V}{us:List Value},Vals xs us→Vals ys us→xs=ys
 |_,_,_,.nil,.nil=>rfl
 |_,_,_,.cons r t,.cons r' t'=>by rw [r.inj r',Vals.inj t t']
section
variable {X:Cx}{pins:List (Addr×Obj)}{σ:St}{H:Hp}{s:zaw4}{a:Addr}{xs ys:List V}
theorem SqL.of {K:zav4} (h:H a=some (.lst xs)):SqL K H a xs:=.inl (.inl h)
theorem SqT.of {K:zav4} (h:H a=some (.tup xs)):SqT K H a xs:=h
theorem Inv.list (I:Inv X pins σ H s) (h:SqL X.K H a xs):∃its:List Value,Vals xs its∧PlainL s.heap a its.toArray∧xs.length≤sizeLine:=by
 rcases h with h | ⟨o,its,n,hk,hc,hd,hs,hz,r⟩
 ·obtain⟨z,its,n,r,e⟩:=h.ok I.hok
  exact⟨its,r,⟨_,n,e,rfl,rfl,rfl⟩,z⟩
 ·refine⟨its.toList,r,⟨o,n,I.kIn a o hk,hc,hd,by simpa using hs⟩,?_⟩
  have e:=r.length
  simp only [Array.length_toList]at e
  lia
theorem Inv.tuple (I:Inv X pins σ H s) (h:SqT X.K H a xs):∃its:List Value,Vals xs its∧IsTup s.heap a its.toArray∧xs.length≤sizeLine:=by
 obtain⟨z,its,r,p⟩:=(show ObjOk X.prog X.w H s.heap a (.tup xs) from I.hok a _ h)
 exact⟨its,r,p,z⟩
theorem Inv.list_inj (I:Inv X pins σ H s) (h:SqL X.K H a xs) (h':SqL X.K H a ys):xs=ys:=by
 obtain⟨its,r,⟨o,n,e,_,_,d⟩,_⟩:=I.list h
 obtain⟨its',r',⟨o',n',e',_,_,d'⟩,_⟩:=I.list h'
 rw [e]at e';cases e'
 rw [d]at d'
 injection d' with d1 _
 have:its=its':=by simpa using congrArg Array.toList d1
 subst this
 exact r.inj r'
theorem Inv.tuple_inj (I:Inv X pins σ H s) (h:SqT X.K H a xs) (h':SqT X.K H a ys):xs=ys:=by
 obtain⟨its,r,⟨o,e,_,n,d⟩,_⟩:=I.tuple h
 obtain⟨its',r',⟨o',e',_,n',d'⟩,_⟩:=I.tuple h'
 rw [e]at e';cases e'
 rw [d]at d'
 injection d' with d1 _
 have:its=its':=by simpa using congrArg Array.toList d1
 subst this
 exact r.inj r'
end
abbrev Cx.wish (X:Cx) (E:Value→zaw4→Prop):Cx:={ X with xe:=E }
abbrev Cx.nox (X:Cx):Cx:=X.wish fun _ _=>False
theorem Cx.Ok.wish {X:Cx} (ok:X.Ok) (E:Value→zaw4→Prop):(X.wish E).Ok :=
 ⟨ok.mod,ok.kind,ok.glob,ok.blt,ok.above,ok.inj,ok.has,ok.cab,ok.hd,ok.frames,ok.stk,ok.exf,ok.bs,ok.bsz,ok.noex,ok.exfs,ok.funs,ok.frf,ok.tabs⟩
theorem Cx.Ok.unwish {X:Cx}{E:Value→zaw4→Prop} (ok:(X.wish E).Ok):X.Ok :=
 ⟨ok.mod,ok.kind,ok.glob,ok.blt,ok.above,ok.inj,ok.has,ok.cab,ok.hd,ok.frames,ok.stk,ok.exf,ok.bs,ok.bsz,ok.noex,ok.exfs,ok.funs,ok.frf,ok.tabs⟩
section
variable {X:Cx}{pins:List (Addr×Obj)}{σ:St}{H:Hp}{s:zaw4}{E:Value→zaw4→Prop}
theorem Inv.wish (I:Inv X pins σ H s) (E:Value→zaw4→Prop):Inv (X.wish E) pins σ H s:=⟨I.ok.wish E,I.os,I.bare,I.base,I.loc,I.cell,I.free,I.freeC,I.pin,I.hok,I.len⟩
theorem Inv.unwish (I:Inv (X.wish E) pins σ H s):Inv X pins σ H s:=⟨I.ok.unwish,I.os,I.bare,I.base,I.loc,I.cell,I.free,I.freeC,I.pin,I.hok,I.len⟩
theorem SP.unwish {D:Ends}{f:Flow}{s':zaw4} (h:SP (X.wish E) pins D f s'):SP X pins D f s':=by
 cases f with
 |next=>obtain⟨σ',H',I,q⟩:=h;exact⟨σ',H',I.unwish,q⟩
 |brk=>obtain⟨σ',H',I,q⟩:=h;exact⟨σ',H',I.unwish,q⟩
 |cont=>obtain⟨σ',H',I,q⟩:=h;exact⟨σ',H',I.unwish,q⟩
 |ret u=>obtain⟨v,σ',H',I,r,q⟩:=h;exact⟨v,σ',H',I.unwish,r,q⟩
theorem PSs.nox {st:List Stmt}{t:TS} (h:PSs X.nox st t):PSs X st t:=fun pins s σ H D I hw =>
 wpAny_mono (h pins s σ H D (I.wish _) hw) (fun _ _ q=>q.unwish) fun _ _ z=>False.elim z
end
section
variable {X:Cx}{st:Stmt}{rest:List Stmt}{t u:TS}{e:Expr}{te:TE}{pos:Pos}
def tNext:TS:=fun D σ H=>D.nx σ H
def tSeq (t u:TS):TS:=fun D σ H=>t { D with nx:=u D } σ H
theorem pss_nil:PSs X [] tNext:=fun _ _ σ H _ I h=>wpAny_execs_nil ⟨σ,H,I,h⟩
theorem pss_cons (h1:PS X st t) (h2:PSs X rest u):PSs X (st::rest) (tSeq t u):=by
 intro pins s σ H D I h
 refine wpAny_execs_cons (thn (h1 pins s σ H { D with nx:=u D } I h) fun f s1 q=>?_)
 cases f with
 |next =>
  obtain⟨σ',H',I',q⟩:=q
  exact h2 pins s1 σ' H' D I' q
 |ret v=>exact q
 |brk=>exact q
 |cont=>exact q
theorem pss_one (h1:PS X st t):PSs X [st] t:=by
 intro pins s σ H D I h
 refine wpAny_execs_cons (thn (h1 pins s σ H D I h) fun f s1 q=>?_)
 cases f with
 |next=>exact wpAny_execs_nil q
 |ret v=>exact q
 |brk=>exact q
 |cont=>exact q
theorem Inv.quiet {pins:List (Addr×Obj)}{σ:St}{H:Hp}{s:zaw4} (I:Inv X pins σ H s):interactive X.env=false:=by simp [interactive,I.ok.kind]
def tDrop (te:TE):TS:=fun D σ H=>te σ H fun _ H1=>D.nx σ H1
theorem zan0 (he:PE X e te) (hs:swapsWith e none pos.line X.env=pure false:=by rfl):PS X (.Expr e pos) (tDrop te):=by
 intro pins s σ H D I h
 exact wpAny_Expr_any (thn (he pins s σ H _ I h) fun v s1 ⟨x,H1,I1,r1,q1⟩=>⟨σ,H1,I1,q1⟩) I.quiet hs
def tRet (te:TE):TS:=fun D σ H=>te σ H D.rt
theorem ps_ret (he:PE X e te):PS X (.Return (some e) pos) (tRet te):=by
 intro pins s σ H D I h
 exact wpAny_Return_some (thn (he pins s σ H _ I h) fun v s1 ⟨x,H1,I1,r1,q1⟩=>⟨x,σ,H1,I1,r1,q1⟩)
def tIfS (c:TT) (t u:TS):TS:=fun D σ H=>c σ H fun b H1=>if b=true then t D σ H1 else u D σ H1
theorem ps_if {c:Expr}{a b:List Stmt}{tc:TT} (hc:PT X c tc) (ha:PSs X a t) (hb:PSs X b u):PS X (.If c a b pos) (tIfS tc t u):=by
 intro pins s σ H D I h
 refine wpAny_If (thn (hc pins s σ H _ I h) fun d s1 ⟨H1,I1,q1⟩=>?_)
 cases d with
 |true=>exact ha pins s1 σ H1 D I1 q1
 |false=>exact hb pins s1 σ H1 D I1 q1
end
abbrev TG:=V→St→Hp→(St→Hp→Prop)→Prop
abbrev TGs:=List V→St→Hp→(St→Hp→Prop)→Prop
noncomputable def PG (X:Cx) (target:Expr) (t:TG):Prop :=
 ∀(pins:List (Addr×Obj)) (s:zaw4) (σ:St) (H:Hp) (v:V) (u:Value) (Q:St→Hp→Prop),Inv X pins σ H s→RelV v u→t v σ H Q →
  wpAny (model X.prog X.w) X.A (assign target X.env u) (fun _ s' => ∃σ' H',Inv X pins σ' H' s'∧Q σ' H') X.xe s
noncomputable def PGs (X:Cx) (ts:List Expr) (t:TGs):Prop :=
 ∀(pins:List (Addr×Obj)) (s:zaw4) (σ:St) (H:Hp) (vs:List V) (us:List Value) (Q:St→Hp→Prop),Inv X pins σ H s→Vals vs us→t vs σ H Q →
  wpAny (model X.prog X.w) X.A (assignInOrder ((assignEach ts X.env).map (·.2)) us) (fun _ s' => ∃σ' H',Inv X pins σ' H' s'∧Q σ' H') X.xe s
section
variable {X:Cx}{pos:Pos}
def gName (i:Nat):TG:=fun v σ H Q=>Q (σ.set i (some v)) H
theorem zd6 {i:Nat}{x:Str} (hN:X.N.Nodup) (hi:X.N[i]?=some x) (hx:Loc X.env.scope x) (hf:X.fn x=true∨X.env.scope.names.lookup x=some .local:=by first | exact .inl rfl | exact .inr rfl | assumption):PG X (.Name x pos) (gName i):=by
 intro pins s σ H v u Q I r h
 exact wpAny_assign_Name (zad7 I hN hi hx r (fun s' I'=>⟨_,H,I',h⟩) hf)
def gNil:TGs:=fun vs σ H Q=>vs=[]∧Q σ H
def gCons (t:TG) (u:TGs):TGs:=fun vs σ H Q => ∃v r,vs=v::r∧t v σ H fun σ' H'=>u r σ' H' Q
theorem zs8:PGs X [] gNil:=by
 intro pins s σ H vs us Q I r h
 obtain⟨e,h⟩:=h
 subst e
 cases r
 exact assignInOrder_nil ⟨σ,H,I,h⟩
theorem zg2 {e:Expr}{es:List Expr}{t:TG}{u:TGs} (h1:PG X e t) (h2:PGs X es u)
  (hs:(assignEach (e::es) X.env).map (·.2)=assign e X.env ::(assignEach es X.env).map (·.2):=by rfl):PGs X (e::es) (gCons t u):=by
 intro pins s σ H vs us Q I r h
 obtain⟨v,vr,e1,h⟩:=h
 subst e1
 cases r with
 |cons r rr =>
  rw [hs]
  refine assignInOrder_cons (thn (h1 pins s σ H _ _ _ I r h) fun _ s1 ⟨σ1,H1,I1,q1⟩=>?_)
  exact h2 pins s1 σ1 H1 _ _ Q I1 rr q1
def gTup (K:zav4) (n:Nat) (t:TGs):TG:=fun v σ H Q => ∃a xs,v=.ref a∧SqT K H a xs∧xs.length=n∧t xs σ H Q
theorem zaf1 {es:List Expr}{k:Nat}{t:TGs}{n:Nat} (hc:X.calm=true) (h:PGs X es t)
  (hn:(assignEach es X.env).length=n:=by rfl) (hst:(assignEach es X.env).findIdx? (·.1)=none:=by rfl):PG X (.Tuple es k pos) (gTup X.K n t):=by
 intro pins s σ H v u Q I r hw
 obtain⟨a,xs,e1,hq,hl,hw⟩:=hw
 subst e1
 cases r
 obtain⟨its,rv,ht,hz⟩:=I.tuple hq
 refine assign_Tuple_tuple (I.ok.hd hc) ht (by simp [hn, ← hl,rv.length]) hst fun h' hx=>?_
 have I1:Inv X pins σ H { s with heap:=h' }:=I.kept (t':=s.toks) fun b o e=>hx b o (zay3 (zaw9 e)) e
 exact h pins _ σ H xs _ Q I1 (by simpa using rv) hw
def tAsg (te:TE) (g:TG):TS:=fun D σ H=>te σ H fun x H1=>g x σ H1 D.nx
theorem ps_set {i:Nat}{x:Str}{e:Expr}{te:TE}{pos':Pos} (hN:X.N.Nodup) (hi:X.N[i]?=some x) (hx:Loc X.env.scope x) (he:PE X e te) (hs:swapsWith e (some (.Name x pos')) pos.line X.env=pure false:=by rfl) (hf:X.fn x=true∨X.env.scope.names.lookup x=some .local:=by first | exact .inl rfl | exact .inr rfl | assumption) :
  PS X (.Assign [.Name x pos'] e pos) (tAsg te (gName i)):=by
 intro pins s σ H D I h
 refine wpAny_Assign_Name (thn (he pins s σ H _ I h) fun v s1 ⟨y,H1,I1,r1,q1⟩=>?_) hs
 exact zad7 I1 hN hi hx r1 (fun s2 I2=>⟨_,H1,I2,q1⟩) hf
end
structure It where
 go:Nat→Hp→Prop
 yld:Nat→Hp→V→Hp→Prop
 stop:Nat→Hp→Prop
noncomputable def FpOk (X:Cx) (pins:List (Addr×Obj)) (H:Hp) (b:Addr):Prop :=
 H b=none∧b≠X.env.locals∧b∉X.fs∧(b∈X.ex∨X.s₀.heap.objs.size≤b)∧(∀x c,X.env.cells.lookup x=some c→c≠b)∧∀p∈X.pn++pins,p.1≠b
theorem Inv.fpOk {X:Cx}{pins:List (Addr×Obj)}{σ:St}{H H':Hp}{s:zaw4}{b:Addr} (I:Inv X pins σ H s) (hb:s.heap.objs.size≤b) (hn:H' b=none):FpOk X pins H' b:=by
 refine⟨hn,zba7 (zax3 I.lt hb),I.nofs hb,.inr (zaz5 I.sz hb),fun x c e z=>?_,fun p hp z=>?_⟩
 ·obtain⟨v,q⟩:=I.cell x c e
  exact absurd (zax3 q.lt (by rw [z];exact hb)) (zba2 _)
 ·exact absurd (zax3 (zaw9 (I.pin p hp).1) (by rw [z];exact hb)) (zba2 _)
structure Turn (P:Program) (w:World) (K:zav4) (tg:Expr) (J:It) (fp:List Addr) (it:Addr) (tn:Nat→Heap→Prop):Prop where
 mem:it∈fp
 obj:∀i h,tn i h→∀b∈fp,∃o,h.get? b=some o∧∀v,o.data≠.cell v
 keep:∀i h h',tn i h→(∀b∈fp,∀o,h.get? b=some o→h'.get? b=some o)→tn i h'
 item:∀(X:Cx),X.prog=P→X.w=w→X.K=K→X.calm=true→∀(i:Nat) (pins:List (Addr×Obj)) (s:zaw4) (σ:St) (H:Hp) (E:Value→zaw4→Prop),Inv X pins σ H s→(∀b∈fp,FpOk X pins H b)→tn i s.heap→J.go i H →
  wpAny (model P w) X.A (pyNext (.ref it)) (fun r s1 => ∃u,r=some u ∧
   wpAny (model P w) X.A (letOwnedTupleGo tg (.ref it) u) (fun _ s2 => ∃x H',Inv X pins σ H' s2∧RelV x u∧J.yld i H x H'∧tn (i+1) s2.heap∧∀b∈fp,H' b=none) E s1) E s
 done:∀(X:Cx),X.prog=P→X.w=w→X.K=K→X.calm=true→∀(i:Nat) (pins:List (Addr×Obj)) (s:zaw4) (σ:St) (H:Hp) (E:Value→zaw4→Prop),Inv X pins σ H s→(∀b∈fp,FpOk X pins H b)→tn i s.heap→J.stop i H →
  wpAny (model P w) X.A (pyNext (.ref it)) (fun r s1=>r=none∧Inv X pins σ H s1) E s
 self:∀(A:Around) (i:Nat) (s:zaw4) (Q:Value→zaw4→Prop) (E:Value→zaw4→Prop),tn i s.heap→Q (.ref it) s→wpAny (model P w) A (pyIter (.ref it)) Q E s
abbrev TI:=St→Hp→(It→Hp→Prop)→Prop
noncomputable def PIE (X:Cx) (pins:List (Addr×Obj)) (σ:St) (tg:Expr) (R:It→Hp→Prop) (itv:Value) (s2:zaw4):Prop :=
 ∃(it:Addr) (fp:List Addr) (tn:Nat→Heap→Prop) (J:It) (H':Hp),itv=.ref it∧Inv X pins σ H' s2∧Turn X.prog X.w X.K tg J fp it tn∧tn 0 s2.heap∧(∀b∈fp,FpOk X pins H' b)∧R J H'
noncomputable def PI (X:Cx) (tg iter:Expr) (wi:TI):Prop :=
 ∀(pins:List (Addr×Obj)) (s:zaw4) (σ:St) (H:Hp) (R:It→Hp→Prop),Inv X pins σ H s→wi σ H R →
  wpAny (model X.prog X.w) X.A (eval iter X.env) (fun v s1=>wpAny (model X.prog X.w) X.A (pyIter v) (PIE X pins σ tg R) X.xe s1) X.xe s
theorem zar2 {M:Model}{A:Around}{E:Value→zaw4→Prop}{s:zaw4}{tg:Expr}{it:Addr}{u:Value}{o:Obj}{n:String}{vs:Array Value}{Q:Unit→zaw4→Prop} (ho:s.heap.get? it=some o) (hc:o.cls=.type n) (hd:o.data=.fields vs)
  (hn:["enumerate", "zip", "dict_itemiterator", "dict_reverseitemiterator", "odict_iterator", "itertools.zip_longest", "itertools.pairwise"].contains n=false) (hQ:Q () s):wpAny M A (letOwnedTupleGo tg (.ref it) u) Q E s:=by
 unfold letOwnedTupleGo
 cases tg<;>first
  |exact zaw3 hQ
  |(cases u<;>first
    |exact zaw3 hQ
    |(refine zav6 (wpAny_load ho ?_)
      rw [hc,hd]
      show wpAny M A (if (["enumerate", "zip", "dict_itemiterator", "dict_reverseitemiterator", "odict_iterator", "itertools.zip_longest", "itertools.pairwise"].contains n&&vs[0]? == some (rawInt _))=true then _ else _) Q E s
      rw [if_neg (by intro h;rw [hn,Bool.false_and]at h;cases h)]
      exact zaw3 hQ))
noncomputable def Itl (K:zav4) (a:Addr):It :=
 ⟨fun i H => ∃xs x,SqL K H a xs∧xs[i]?=some x,fun i H x H'=>H'=H∧∀xs,SqL K H a xs→xs[i]?=some x,fun i H => ∃xs,SqL K H a xs∧xs.length≤i⟩
noncomputable def Itt (K:zav4) (a:Addr):It :=
 ⟨fun i H => ∃xs x,SqT K H a xs∧xs[i]?=some x,fun i H x H'=>H'=H∧∀xs,SqT K H a xs→xs[i]?=some x,fun i H => ∃xs,SqT K H a xs∧xs.length≤i⟩
def Itr (lo:Int) (n:Nat):It:=⟨fun i _=>i<n,fun i H x H'=>H'=H∧x=.int (lo+i),fun i _=>n≤i⟩
theorem zak3 {P:Program}{w:World}{K:zav4}{tg:Expr} (a it:Addr):Turn P w K tg (Itl K a) [it] it (fun i h=>h.IsListIter it a i) where
 mem:=by simp
 obj:=fun i h st b hb=>by
  have e:b=it:=by simpa using hb
  subst e
  obtain⟨o,e,c,d⟩:=st
  exact⟨o,e,fun v z=>by rw [d]at z;cases z⟩
 keep:=fun i h h' st k=>st.at fun o e=>k it (by simp) o e
 item:=by
  intro X hP hw hK hc i pins s σ H E I hf st hg
  subst hP hw hK
  obtain⟨xs,x,hq,hx⟩:=hg
  obtain⟨its,rv,p,hz⟩:=I.list hq
  obtain⟨u,hu,ru⟩:=rv.get hx
  obtain⟨f0,f1,f2,f3,f4,f5⟩:=hf it (by simp)
  refine wpAny_pyNext_list_item st p.isList (x:=u) (by simpa using hu) fun h' st' sb=>?_
  have I1:Inv X pins σ H { s with heap:=h' }:=I.turned (t':=s.toks) (fun b o hb e=>(sb.2 b hb).trans e) f0 f1 f3 f4 f5
  obtain⟨o,e,c,d⟩:=id st'
  exact⟨u,rfl,zar2 (s:={ s with heap:=h' }) e c d (by decide) ⟨x,H,I1,ru,⟨rfl,fun ys hy=>by rw [I.list_inj hy hq];exact hx⟩,st',fun b hb=>(hf b hb).1⟩⟩
 done:=by
  intro X hP hw hK hc i pins s σ H E I hf st hg
  subst hP hw hK
  obtain⟨xs,hq,hx⟩:=hg
  obtain⟨its,rv,p,hz⟩:=I.list hq
  obtain⟨f0,f1,f2,f3,f4,f5⟩:=hf it (by simp)
  have hl:=rv.length
  exact wpAny_pyNext_list_end (I.ok.hd hc) st p.isList (by simp;lia) fun h' eb=>⟨rfl,I.turned (t':=s.toks) (fun b o hb e=>eb b o hb e) f0 f1 f3 f4 f5⟩
 self:=fun _ _ _ _ _ st h=>wpAny_pyIter_listiter st h
theorem zah7 {P:Program}{w:World}{K:zav4}{tg:Expr} (a it:Addr):Turn P w K tg (Itt K a) [it] it (fun i h=>h.IsTupleIter it a i) where
 mem:=by simp
 obj:=fun i h st b hb=>by
  have e:b=it:=by simpa using hb
  subst e
  obtain⟨o,e,c,d⟩:=st
  exact⟨o,e,fun v z=>by rw [d]at z;cases z⟩
 keep:=fun i h h' st k=>st.at fun o e=>k it (by simp) o e
 item:=by
  intro X hP hw hK hc i pins s σ H E I hf st hg
  subst hP hw hK
  obtain⟨xs,x,hq,hx⟩:=hg
  obtain⟨its,rv,p,hz⟩:=I.tuple hq
  obtain⟨u,hu,ru⟩:=rv.get hx
  obtain⟨f0,f1,f2,f3,f4,f5⟩:=hf it (by simp)
  refine wpAny_pyNext_tuple_item st (show s.heap.IsTuple a its.toArray from p) (x:=u) (by simpa using hu) fun h' st' sb=>?_
  have I1:Inv X pins σ H { s with heap:=h' }:=I.turned (t':=s.toks) (fun b o hb e=>(sb.2 b hb).trans e) f0 f1 f3 f4 f5
  obtain⟨o,e,c,d⟩:=id st'
  exact⟨u,rfl,zar2 (s:={ s with heap:=h' }) e c d (by decide) ⟨x,H,I1,ru,⟨rfl,fun ys hy=>by rw [I.tuple_inj hy hq];exact hx⟩,st',fun b hb=>(hf b hb).1⟩⟩
 done:=by
  intro X hP hw hK hc i pins s σ H E I hf st hg
  subst hP hw hK
  obtain⟨xs,hq,hx⟩:=hg
  obtain⟨its,rv,p,hz⟩:=I.tuple hq
  obtain⟨f0,f1,f2,f3,f4,f5⟩:=hf it (by simp)
  have hl:=rv.length
  exact wpAny_pyNext_tuple_end (I.ok.hd hc) st (show s.heap.IsTuple a its.toArray from p) (by simp;lia) fun h' eb=>⟨rfl,I.turned (t':=s.toks) (fun b o hb e=>eb b o hb e) f0 f1 f3 f4 f5⟩
 self:=fun _ _ _ _ _ st h=>wpAny_pyIter_tupleiter st h
theorem zah8 {P:Program}{w:World}{K:zav4}{tg:Expr} (it:Addr) (lo:Int) (n:Nat):Turn P w K tg (Itr lo n) [it] it (fun i h=>IsRangeIter h it (lo+(i:Nat)*1) ((n:Int) - (i:Nat)) 1) where
 mem:=by simp
 obj:=fun i h st b hb=>by
  have e:b=it:=by simpa using hb
  subst e
  exact⟨_,st,fun v z=>by
   have z':Data.fields _=Data.cell v:=z
   cases z'⟩
 keep:=fun i h h' st k=>k it (by simp) _ st
 item:=by
  intro X hP hw hK hc i pins s σ H E I hf st hg
  subst hP hw hK
  obtain⟨f0,f1,f2,f3,f4,f5⟩:=hf it (by simp)
  have W:=Walks.range (prog:=X.prog) (w:=X.w) (I.ok.hd hc) it lo 1 n
  refine W.item i s _ _ hg st fun v h' tk hv st' kk=>?_
  obtain⟨t,rfl⟩:=hv
  have I1:Inv X pins σ H { s with heap:=h',toks:=tk }:=I.turned (fun b o hb e=>kk b o (by simpa using hb) e) f0 f1 f3 f4 f5
  refine⟨_,rfl,zar2 (s:={ s with heap:=h',toks:=tk }) (n := "range_iterator") st' rfl rfl (by decide) ⟨.int (lo+i),H,I1,⟨t,?_⟩,⟨rfl,rfl⟩,st',fun b hb=>(hf b hb).1⟩⟩
  rw [Int.mul_one]
 done:=by
  intro X hP hw hK hc i pins s σ H E I hf st hg
  subst hP hw hK
  obtain⟨f0,f1,f2,f3,f4,f5⟩:=hf it (by simp)
  exact wpAny_pyNext_range_end (I.ok.hd hc) st (by have:n≤i:=hg;lia) fun h' eb=>⟨rfl,I.turned (t':=s.toks) (fun b o hb e=>eb b o hb e) f0 f1 f3 f4 f5⟩
 self:=fun _ _ _ _ _ st h=>wpAny_pyIter_rangeiter st h
end L2
namespace L2
open PySem.Spec
section
variable {X:Cx}{tg:Expr}
def iList (K:zav4) (tl:TE):TI:=fun σ H R=>tl σ H fun x H1 => ∃a,x=.ref a∧(∃xs,SqL K H1 a xs)∧R (Itl K a) H1
def iTup (K:zav4) (tl:TE):TI:=fun σ H R=>tl σ H fun x H1 => ∃a,x=.ref a∧(∃xs,SqT K H1 a xs)∧R (Itt K a) H1
theorem zan4 {l:Expr}{tl:TE} (hl:PE X l tl):PI X tg l (iList X.K tl):=by
 intro pins s σ H R I h
 refine thn (hl pins s σ H _ I h) fun v s1 ⟨x,H1,I1,r1,q1⟩=>?_
 obtain⟨a,e,⟨xs,hq⟩,q⟩:=q1
 subst e
 cases r1
 obtain⟨its,rv,p,hz⟩:=I1.list hq
 refine wpAny_pyIter_list p.isList ?_
 refine⟨s1.heap.objs.size,[s1.heap.objs.size],_,_,H1,rfl,I1.kept (t':=s1.toks) fun b o e=>zav7 _ e,zak3 a _,⟨_,zax2 _ rfl,rfl,rfl⟩,fun b hb=>?_,q⟩
 have e:b=s1.heap.objs.size:=by simpa using hb
 subst e
 exact I1.fpOk (zaw7 _) (I1.hok.fresh (zaw7 _))
theorem pi_tup {l:Expr}{tl:TE} (hl:PE X l tl):PI X tg l (iTup X.K tl):=by
 intro pins s σ H R I h
 refine thn (hl pins s σ H _ I h) fun v s1 ⟨x,H1,I1,r1,q1⟩=>?_
 obtain⟨a,e,⟨xs,hq⟩,q⟩:=q1
 subst e
 cases r1
 obtain⟨its,rv,p,hz⟩:=I1.tuple hq
 refine wpAny_pyIter_tuple (show s1.heap.IsTuple a its.toArray from p) ?_
 refine⟨s1.heap.objs.size,[s1.heap.objs.size],_,_,H1,rfl,I1.kept (t':=s1.toks) fun b o e=>zav7 _ e,zah7 a _,⟨_,zax2 _ rfl,rfl,rfl⟩,fun b hb=>?_,q⟩
 have e:b=s1.heap.objs.size:=by simpa using hb
 subst e
 exact I1.fpOk (zaw7 _) (I1.hok.fresh (zaw7 _))
theorem range_it {pins:List (Addr×Obj)}{σ:St}{H:Hp}{s:zaw4}{R:It→Hp→Prop}{E:Value→zaw4→Prop}{lo hi:Int}{t u v:Tok}{tk:Nat} (I:Inv X pins σ H s) (h1 : -(2 ^ 62)≤lo) (h2:lo<2 ^ 62) (h3 : -(2 ^ 62)≤hi) (h4:hi<2 ^ 62)
  (q:R (Itr lo (hi - lo).toNat) H):wpAny (model X.prog X.w) X.A (pyIter (.ref s.heap.objs.size)) (PIE X pins σ tg R) E { s with heap:=s.heap.push { cls:=.type "range",data:=.fields #[.int lo t,.int hi u,.int 1 v] },toks:=tk }:=by
 refine wpAny_pyIter_range (IsRange.new ..) (small_one h1 h2 h3 h4) ?_
 have I1:Inv X pins σ H { s with heap:=s.heap.push { cls:=.type "range",data:=.fields #[.int lo t,.int hi u,.int 1 v] },toks:=tk }:=I.kept fun b o e=>zav7 _ e
 refine⟨(s.heap.push { cls:=.type "range",data:=.fields #[.int lo t,.int hi u,.int 1 v] }).objs.size,[(s.heap.push { cls:=.type "range",data:=.fields #[.int lo t,.int hi u,.int 1 v] }).objs.size],_,_,H,rfl,
  I1.kept (t':=tk) fun b o e=>zav7 _ e,zah8 _ lo (hi - lo).toNat,?_,fun b hb=>?_,q⟩
 ·have e1:lo+((0:Nat):Int)*1=lo:=by simp
  have e2:(((hi - lo).toNat:Nat):Int) - ((0:Nat):Int)=Builtin.Range.rangeSize lo hi 1:=by rw [rangeSize_one];split<;>lia
  show IsRangeIter _ _ (lo+((0:Nat):Int)*1) ((((hi - lo).toNat:Nat):Int) - ((0:Nat):Int)) 1
  rw [e1,e2]
  exact zax2 _ rfl
 ·have e:b=(s.heap.push { cls:=.type "range",data:=.fields #[.int lo t,.int hi u,.int 1 v] }).objs.size:=by simpa using hb
  subst e
  exact I1.fpOk (zaw7 _) (I1.hok.fresh (zaw7 _))
def iRng1 (ta:TA):TI:=fun σ H R=>ta σ H fun vs H1 => ∃j:Int,vs=[.int j] ∧ -(2 ^ 62)≤j∧j<2 ^ 62∧R (Itr 0 j.toNat) H1
theorem zan3 {a:Expr}{ta:TA}{p pos:Pos} (hg:Gl X "range") (hm:X.mg "range"=none) (ha:PA X [a] ta) (hs:zax8 [a] X.env=[(false,eval a X.env)]:=by rfl):PI X tg (.Call (.Name "range" p) [a] [] pos) (iRng1 ta):=by
 intro pins s σ H R I h
 refine Call_ (zj3 I hg hm boot_range (PyProof.Rows.callWith_type1 (thn (ha pos pins s σ H _ I h) fun us s1 ⟨vs,H1,I1,r1,q1⟩=>?_) hs rfl))
 obtain⟨j,e,q1,q2,q⟩:=q1
 subst e
 cases r1 with
 |cons r rr =>
  cases rr
  obtain⟨t,rfl⟩:=r
  exact call_range_1 (range_it I1 (by lia) (by lia) q1 q2 (by simpa using q))
noncomputable def tFor (wi:TI) (g:TG) (tb:TS):TS:=fun D σ H=>wi σ H fun J H1 => ∃W:Nat→Nat→St→Hp→Prop,(∃m,W 0 m σ H1)∧∀i m σ H,W i m σ H →
 (J.stop i H∧D.nx σ H)∨(J.go i H∧∃N:St→Hp→Prop,(∀σ' H',N σ' H'→∃m',m' < m∧W (i+1) m' σ' H')∧∀x H',J.yld i H x H'→g x σ H' fun σ2 H2=>tb { D with nx:=N,ct:=N,bk:=D.nx } σ2 H2)
def zq8 (fp:List Addr) (h:Heap):List (Addr×Obj):=fp.filterMap fun b=>(h.get? b).map fun o=>(b,o)
theorem ze4 {fp:List Addr}{h:Heap}{b:Addr}{o:Obj} (hb:b∈fp) (e:h.get? b=some o):(b,o)∈zq8 fp h:=zbf2.mpr ⟨b,hb,by rw [e];rfl⟩
theorem zao1 {fp:List Addr}{h:Heap}{p:Addr×Obj} (hp:p∈zq8 fp h):p.1∈fp∧h.get? p.1=some p.2:=by
 obtain⟨b,hb,e⟩:=zbf2.mp hp
 cases q:h.get? b with
 |none=>rw [q]at e;cases e
 |some o =>
  rw [q]at e
  have e':(b,o)=p:=Option.some.inj e
  subst e'
  exact⟨hb,q⟩
theorem Inv.pinned {pins:List (Addr×Obj)}{σ:St}{H:Hp}{s:zaw4}{fp:List Addr} (I:Inv X pins σ H s) (hf:∀b∈fp,FpOk X pins H b) (ho:∀b∈fp,∃o,s.heap.get? b=some o∧∀v,o.data≠.cell v):Inv X (pins++zq8 fp s.heap) σ H s :=
 I.pins_of fun p hp=>(zax0.mp hp).elim (fun z=>I.pin p (zav5 _ z)) fun z=>by
  obtain⟨hb,e⟩:=zao1 z
  obtain⟨f0,f1,f2,_⟩:=hf p.1 hb
  obtain⟨o,e',d⟩:=ho p.1 hb
  rw [e]at e';cases e'
  exact⟨e,f0,f1,f2,d⟩
theorem Inv.unpinned {pins pl:List (Addr×Obj)}{σ:St}{H:Hp}{s:zaw4} (I:Inv X (pins++pl) σ H s):Inv X pins σ H s:=I.pins_of fun p hp=>I.pin p (zav5 _ (zaw1 _ hp))
theorem zn8 {iter:Expr}{body:List Stmt}{wi:TI}{g:TG}{tb:TS}{pos:Pos} (hp:PassesOwn (model X.prog X.w) X.A X.env X.xe) (hc:X.calm=true) (hi:PI X tg iter wi) (hg:PG X tg g) (hb:PSs X body tb)
  (hs:∀x,foldedSetIterable iter X.env x=pure x:=by intro _;rfl):PS X (.For tg iter body [] pos) (tFor wi g tb):=by
 intro pins s σ H D I h
 refine wpAny_For (thn (hi pins s σ H _ I h) fun v s1 h1=>thn h1 fun itv s2 h2=>?_) hs
 obtain⟨it,fp,tn,J,H2,e,I2,T,st2,f2,W,⟨m0,w0⟩,turn⟩:=h2
 subst e
 -- what stays true of the iterator's objects through the loop
 have stat:∀ {H':Hp},(∀b∈fp,H' b=none)→∀b∈fp,FpOk X pins H' b:=fun hn b hb=>⟨hn b hb,(f2 b hb).2⟩
 refine codeAny_forLoop_any (fun n s' => ∃i σ' H',Inv X pins σ' H' s'∧tn i s'.heap∧(∀b∈fp,H' b=none)∧W i n σ' H') ?_ m0 ⟨0,σ,H2,I2,st2,fun b hb=>(f2 b hb).1,w0⟩
 rintro n s3 ⟨i,σ3,H3,I3,st3,fr3,w3⟩
 rcases turn i n σ3 H3 w3 with ⟨stop,qn⟩ | ⟨go,N,hN,step⟩
 ·refine wpAny_passesOwn hp (thn (T.done X rfl rfl rfl hc i pins s3 σ3 H3 X.xe I3 (stat fr3) st3 stop) fun r s4 ⟨hr,I4⟩=>?_)
  subst hr
  exact wpAny_execs_nil ⟨σ3,H3,I4,qn⟩
 ·refine wpAny_passesOwn hp (thn (T.item X rfl rfl rfl hc i pins s3 σ3 H3 X.xe I3 (stat fr3) st3 go) fun r s4 ⟨u,hr,h4⟩=>?_)
  subst hr
  refine wpAny_passesOwn hp (thn h4 fun _ s5 ⟨x,H5,I5,r5,y5,st5,fr5⟩=>?_)
  have I5':=I5.pinned (stat fr5) (T.obj _ _ st5)
  refine wpAny_passesOwn hp (thn (hg _ s5 σ3 H5 x u _ I5' r5 (step x H5 y5)) fun _ s6 ⟨σ6,H6,I6,q6⟩=>?_)
  refine wpAny_passesOwn hp (thn (hb _ s6 σ6 H6 _ I6 q6) fun f s7 q7=>?_)
  have again:∀ {σ7:St}{H7:Hp},Inv X (pins++zq8 fp s5.heap) σ7 H7 s7→N σ7 H7→∃m,m<n∧∃i σ' H',Inv X pins σ' H' s7∧tn i s7.heap∧(∀b∈fp,H' b=none)∧W i m σ' H':=fun {σ7 H7} I7 n7=>by
   obtain⟨m',hm,w7⟩:=hN σ7 H7 n7
   refine⟨m',hm,i+1,σ7,H7,I7.unpinned,T.keep _ _ _ st5 fun b hb o e=>(I7.pin (b,o) (zav5 _ (zav5 _ (ze4 hb e)))).1,fun b hb=>?_,w7⟩
   obtain⟨o,e,d⟩:=T.obj _ _ st5 b hb
   exact (I7.pin (b,o) (zav5 _ (zav5 _ (ze4 hb e)))).2.1
  cases f with
  |next=>obtain⟨σ7,H7,I7,n7⟩:=q7;exact again I7 n7
  |cont=>obtain⟨σ7,H7,I7,n7⟩:=q7;exact again I7 n7
  |brk=>obtain⟨σ7,H7,I7,q7⟩:=q7;exact⟨σ7,H7,I7.unpinned,q7⟩
  |ret v=>obtain⟨x7,σ7,H7,I7,r7,q7⟩:=q7;exact⟨x7,σ7,H7,I7.unpinned,r7,q7⟩
end
end L2
namespace L2
open PySem.Spec
abbrev R2:=V→V→Hp→VK→Prop
noncomputable def OpR (X:Cx) (f:Value→Value→Sem Value) (r:R2):Prop :=
 ∀(pins:List (Addr×Obj)) (s:zaw4) (σ:St) (H:Hp) (x y:V) (v u:Value) (Q:VK),Inv X pins σ H s→RelV x v→RelV y u→r x y H Q →
  wpAny (model X.prog X.w) X.A (f v u) (EP X pins σ Q) X.xe s
noncomputable def UnR (X:Cx) (f:Value→Sem Value) (r:V→Hp→VK→Prop):Prop :=
 ∀(pins:List (Addr×Obj)) (s:zaw4) (σ:St) (H:Hp) (x:V) (v:Value) (Q:VK),Inv X pins σ H s→RelV x v→r x H Q →
  wpAny (model X.prog X.w) X.A (f v) (EP X pins σ Q) X.xe s
noncomputable def zl5 (X:Cx) (f:Value) (r:List V→Hp→VK→Prop):Prop :=
 ∀(pins:List (Addr×Obj)) (s:zaw4) (σ:St) (H:Hp) (xs:List V) (us:List Value) (Q:VK),Inv X pins σ H s→Vals xs us→r xs H Q →
  wpAny (model X.prog X.w) X.A (call f us) (EP X pins σ Q) X.xe s
def tOp (r:R2) (ta tb:TE):TE:=fun σ H Q=>ta σ H fun x H1=>tb σ H1 fun y H2=>r x y H2 Q
def tUn (r:V→Hp→VK→Prop) (ta:TE):TE:=fun σ H Q=>ta σ H fun x H1=>r x H1 Q
def rI (C:Int→Int→Prop) (g:Int→Int→V):R2:=fun x y H Q => ∃i j,x=.int i∧y=.int j∧C i j∧Q (g i j) H
def rI0 (g:Int→Int→V):R2:=fun x y H Q => ∃i j,x=.int i∧y=.int j∧Q (g i j) H
def rU (g:Int→V):V→Hp→VK→Prop:=fun x H Q => ∃i,x=.int i∧Q (g i) H
section
variable {X:Cx}{a b c:Expr}{ta tb tc:TE}{pos:Pos}
theorem binT (ha:PE X a ta) (hb:PE X b tb) {pins:List (Addr×Obj)}{s:zaw4}{σ:St}{H:Hp}{R:V→V→Hp→Prop} (I:Inv X pins σ H s)
  (h:ta σ H fun x H1=>tb σ H1 fun y H2=>R x y H2) {Q:Value→zaw4→Prop}{f:Value→Value→Sem Value}
  (hf:∀v u s2 x y H2,Inv X pins σ H2 s2→RelV x v→RelV y u→R x y H2→wpAny (model X.prog X.w) X.A (f v u) Q X.xe s2) :
  wpAny (model X.prog X.w) X.A (eval a X.env) (fun v s₁=>wpAny (model X.prog X.w) X.A (eval b X.env) (fun u s₂=>wpAny (model X.prog X.w) X.A (f v u) Q X.xe s₂) X.xe s₁) X.xe s:=by
 refine thn (ha pins s σ H _ I h) fun v s1 ⟨x,H1,I1,r1,q1⟩=>?_
 refine thn (hb pins s1 σ H1 _ I1 q1) fun u s2 ⟨y,H2,I2,r2,q2⟩=>?_
 exact hf v u s2 x y H2 I2 r1 r2 q2
theorem pe_un {op:UnaryOp}{r:V→Hp→VK→Prop} (ho:UnR X (unaryOp op) r) (ha:PE X a ta):PE X (.UnaryOp op a pos) (tUn r ta):=by
 intro pins s σ H Q I h
 exact UnaryOp_ (thn (ha pins s σ H _ I h) fun v s1 ⟨x,H1,I1,r1,q1⟩=>ho pins s1 σ H1 x v Q I1 r1 q1)
theorem opI {f:Value→Value→Sem Value}{C:Int→Int→Prop}{g:Int→Int→Int}
  (rule:∀(i j:Int) (t u:Tok) (s:zaw4) (Q:Value→zaw4→Prop) (E:Value→zaw4→Prop),C i j→Q (.int (g i j) s.toks) { s with toks:=s.toks+1 }→wpAny (model X.prog X.w) X.A (f (.int i t) (.int j u)) Q E s) :
  OpR X f (rI C fun i j=>.int (g i j)):=by
 intro pins s σ H x y v u Q I rx ry h
 obtain⟨i,j,rfl,rfl,hc,q⟩:=h
 obtain⟨t,rfl⟩:=rx
 obtain⟨t',rfl⟩:=ry
 exact rule i j t t' s _ _ hc ⟨.int (g i j),H,I.tok _,⟨_,rfl⟩,q⟩
theorem opI0 {f:Value→Value→Sem Value}{g:Int→Int→Int}
  (rule:∀(i j:Int) (t u:Tok) (s:zaw4) (Q:Value→zaw4→Prop) (E:Value→zaw4→Prop),Q (.int (g i j) s.toks) { s with toks:=s.toks+1 }→wpAny (model X.prog X.w) X.A (f (.int i t) (.int j u)) Q E s) :
  OpR X f (rI0 fun i j=>.int (g i j)):=by
 intro pins s σ H x y v u Q I rx ry h
 obtain⟨i,j,rfl,rfl,q⟩:=h
 obtain⟨t,rfl⟩:=rx
 obtain⟨t',rfl⟩:=ry
 exact rule i j t t' s _ _ ⟨.int (g i j),H,I.tok _,⟨_,rfl⟩,q⟩
theorem opB0 {f:Value→Value→Sem Value}{g:Int→Int→Bool}
  (rule:∀(i j:Int) (t u:Tok) (s:zaw4) (Q:Value→zaw4→Prop) (E:Value→zaw4→Prop),Q (.bool (g i j)) s→wpAny (model X.prog X.w) X.A (f (.int i t) (.int j u)) Q E s) :
  OpR X f (rI0 fun i j=>.bl (g i j)):=by
 intro pins s σ H x y v u Q I rx ry h
 obtain⟨i,j,rfl,rfl,q⟩:=h
 obtain⟨t,rfl⟩:=rx
 obtain⟨t',rfl⟩:=ry
 exact rule i j t t' s _ _ ⟨.bl (g i j),H,I,rfl,q⟩
def CPow (i j:Int):Prop:=0≤j∧j≤1000000∧i.natAbs<2 ^ 64
theorem op_add:OpR X (binaryOp .Add) (rI0 fun i j=>.int (i+j)):=opI0 fun _ _ _ _ _ _ _ q=>add_int q
theorem op_sub:OpR X (binaryOp .Sub) (rI0 fun i j=>.int (i - j)):=opI0 fun _ _ _ _ _ _ _ q=>sub_int q
theorem op_modN:OpR X (binaryOp .Mod) (rI (fun _ j=>j≠0) fun i j=>.int (i.fmod j)):=opI fun _ _ _ _ _ _ _ hc q=>mod_int' hc q
theorem op_pow:OpR X (binaryOp .Pow) (rI CPow fun i j=>.int (i ^ j.toNat)):=opI fun _ _ _ _ _ _ _ hc q=>pow_int_small hc.1 hc.2.1 hc.2.2 q
theorem unI {f:Value→Sem Value}{g:Int→Int}
  (rule:∀(i:Int) (t:Tok) (s:zaw4) (Q:Value→zaw4→Prop) (E:Value→zaw4→Prop),Q (.int (g i) s.toks) { s with toks:=s.toks+1 }→wpAny (model X.prog X.w) X.A (f (.int i t)) Q E s) :
  UnR X f (rU fun i=>.int (g i)):=by
 intro pins s σ H x v Q I rx h
 obtain⟨i,rfl,q⟩:=h
 obtain⟨t,rfl⟩:=rx
 exact rule i t s _ _ ⟨.int (g i),H,I.tok _,⟨_,rfl⟩,q⟩
theorem un_neg:UnR X (unaryOp .USub) (rU fun i=>.int (-i)):=unI fun _ _ _ _ _ q=>neg_int q
end
noncomputable def scal:V→V→Bool
 |.non,.non=>true | .non,.int _=>true | .int _,.non=>true | .non,.bl _=>true | .bl _,.non=>true | .non,.str _=>true | .str _,.non=>true
 |.int _,.int _=>true | .bl _,.bl _=>true | .str _,.str _=>true | .byt _,.byt _=>true
 |.int _,.str _=>true | .str _,.int _=>true | .bl _,.str _=>true | .str _,.bl _=>true
 |_,_=>false
def rEq:R2:=fun x y H Q=>scal x y=true∧Q (.bl (decide (x=y))) H
def rNe:R2:=fun x y H Q=>scal x y=true∧Q (.bl (!decide (x=y))) H
theorem zas2 {i j:Int}:decide (V.int i=V.int j)=(i == j):=by
 rw [zbb1]
 simp
theorem dec_bl {i j:Bool}:decide (V.bl i=V.bl j)=(i == j):=by
 rw [zbb1]
 simp
theorem zas1 {i j:Str}:decide (V.str i=V.str j)=(i == j):=by
 rw [zbb1]
 simp
theorem zas3 {i j:Array UInt8}:decide (V.byt i=V.byt j)=(i.toList == j.toList):=by
 rw [zbb1]
 cases i
 cases j
 simp
section
variable {X:Cx}{a b c:Expr}{ta tb tc:TE}{pos:Pos}
theorem zc7 {pins:List (Addr×Obj)}{σ:St}{H:Hp}{s:zaw4}{Q:VK}{k k':Bool} (I:Inv X pins σ H s) (q:Q (.bl k) H) (e:k=k'):EP X pins σ Q (.bool k') s:=by
 subst e
 exact⟨.bl k,H,I,rfl,q⟩
theorem op_eq:OpR X (compareOp .Eq) rEq:=by
 intro pins s σ H x y v u Q I rx ry h
 obtain⟨hs,q⟩:=h
 cases x with
 |non =>
  cases rx
  cases y with
  |non=>cases ry;exact PySem.EqNone.eq_none_none (zc7 I q (by simp))
  |bl j=>cases ry;exact PySem.EqNone.eq_none_bool (zc7 I q (by simp))
  |int j=>obtain⟨t',rfl⟩:=ry;exact PySem.EqNone.eq_none_int (zc7 I q (by simp))
  |str j=>obtain⟨t',rfl⟩:=ry;exact PySem.EqNone.eq_none_str (zc7 I q (by simp))
  |_=>exact absurd (show false=true from hs) zax5
 |bl i =>
  cases rx
  cases y with
  |non=>cases ry;exact PySem.EqNone.eq_bool_none (zc7 I q (by simp))
  |bl j=>cases ry;exact eq_bool (zc7 I q dec_bl)
  |str j=>obtain⟨t',rfl⟩:=ry;exact PySem.EqMixed.eq_bool_str (zc7 I q (by simp))
  |_=>exact absurd (show false=true from hs) zax5
 |int i =>
  obtain⟨t,rfl⟩:=rx
  cases y with
  |non=>cases ry;exact PySem.EqNone.eq_int_none (zc7 I q (by simp))
  |int j=>obtain⟨t',rfl⟩:=ry;exact eq_int (zc7 I q zas2)
  |str j=>obtain⟨t',rfl⟩:=ry;exact PySem.EqMixed.eq_int_str (zc7 I q (by simp))
  |_=>exact absurd (show false=true from hs) zax5
 |str i =>
  obtain⟨t,rfl⟩:=rx
  cases y with
  |non=>cases ry;exact PySem.EqNone.eq_str_none (zc7 I q (by simp))
  |bl j=>cases ry;exact PySem.EqMixed.eq_str_bool (zc7 I q (by simp))
  |int j=>obtain⟨t',rfl⟩:=ry;exact PySem.EqMixed.eq_str_int (zc7 I q (by simp))
  |str j=>obtain⟨t',rfl⟩:=ry;exact eq_str (zc7 I q zas1)
  |_=>exact absurd (show false=true from hs) zax5
 |byt i =>
  obtain⟨t,rfl⟩:=rx
  cases y with
  |byt j=>obtain⟨t',rfl⟩:=ry;exact PySem.W.eq_bytes (zc7 I q zas3)
  |_=>exact absurd (show false=true from hs) zax5
 |_=>cases y<;>exact absurd (show false=true from hs) zax5
theorem op_ne:OpR X (compareOp .NotEq) rNe:=by
 intro pins s σ H x y v u Q I rx ry h
 obtain⟨hs,q⟩:=h
 cases x with
 |non =>
  cases rx
  cases y with
  |non=>cases ry;exact PySem.EqNone.ne_none_none (zc7 I q (by simp))
  |bl j=>cases ry;exact PySem.EqNone.ne_none_bool (zc7 I q (by simp))
  |int j=>obtain⟨t',rfl⟩:=ry;exact PySem.EqNone.ne_none_int (zc7 I q (by simp))
  |str j=>obtain⟨t',rfl⟩:=ry;exact PySem.EqNone.ne_none_str (zc7 I q (by simp))
  |_=>exact absurd (show false=true from hs) zax5
 |bl i =>
  cases rx
  cases y with
  |non=>cases ry;exact PySem.EqNone.ne_bool_none (zc7 I q (by simp))
  |bl j=>cases ry;exact ne_bool (zc7 I q (congrArg not dec_bl))
  |str j=>obtain⟨t',rfl⟩:=ry;exact PySem.EqMixed.ne_bool_str (zc7 I q (by simp))
  |_=>exact absurd (show false=true from hs) zax5
 |int i =>
  obtain⟨t,rfl⟩:=rx
  cases y with
  |non=>cases ry;exact PySem.EqNone.ne_int_none (zc7 I q (by simp))
  |int j=>obtain⟨t',rfl⟩:=ry;exact ne_int (zc7 I q (congrArg not zas2))
  |str j=>obtain⟨t',rfl⟩:=ry;exact PySem.EqMixed.ne_int_str (zc7 I q (by simp))
  |_=>exact absurd (show false=true from hs) zax5
 |str i =>
  obtain⟨t,rfl⟩:=rx
  cases y with
  |non=>cases ry;exact PySem.EqNone.ne_str_none (zc7 I q (by simp))
  |bl j=>cases ry;exact PySem.EqMixed.ne_str_bool (zc7 I q (by simp))
  |int j=>obtain⟨t',rfl⟩:=ry;exact PySem.EqMixed.ne_str_int (zc7 I q (by simp))
  |str j=>obtain⟨t',rfl⟩:=ry;exact ne_str (zc7 I q (congrArg not zas1))
  |_=>exact absurd (show false=true from hs) zax5
 |byt i =>
  obtain⟨t,rfl⟩:=rx
  cases y with
  |byt j=>obtain⟨t',rfl⟩:=ry;exact PySem.W.ne_bytes (zc7 I q (congrArg not zas3))
  |_=>exact absurd (show false=true from hs) zax5
 |_=>cases y<;>exact absurd (show false=true from hs) zax5
theorem op_lt:OpR X (compareOp .Lt) (rI0 fun i j=>.bl (decide (i<j))):=opB0 fun _ _ _ _ _ _ _ q=>lt_int q
theorem op_le:OpR X (compareOp .LtE) (rI0 fun i j=>.bl (decide (i≤j))):=opB0 fun _ _ _ _ _ _ _ q=>le_int q
theorem op_gt:OpR X (compareOp .Gt) (rI0 fun i j=>.bl (decide (j<i))):=opB0 fun _ _ _ _ _ _ _ q=>gt_int q
theorem nomark (b:Expr) {op:CmpOp} (h:op≠.In:=by decide) (h2:op≠.NotIn:=by decide):behindInMarks op b=false:=by
 have e1:(op == CmpOp.In)=false:=by cases op<;>first | rfl | exact absurd rfl h
 have e2:(op == CmpOp.NotIn)=false:=by cases op<;>first | rfl | exact absurd rfl h2
 cases b<;>simp [behindInMarks,e1,e2]
def tTest (t:TE):TT:=fun σ H Q=>t σ H fun x H' => ∃k,x=.bl k∧Q k H'
noncomputable def tChain (r r':R2) (ta tb tc:TE):TE:=fun σ H Q=>ta σ H fun x H1=>tb σ H1 fun y H2=>r x y H2 fun z H3 => ∃k,z=.bl k ∧
 (if k=true then tc σ H3 fun w' H4=>r' y w' H4 Q else Q (.bl false) H3)
theorem pt_chain {op op':CmpOp}{r r':R2} (ho:OpR X (compareOp op) r) (ho':OpR X (compareOp op') r') (ha:PE X a ta) (hb:PE X b tb) (hc:PE X c tc)
  (hm:lastMarks [op,op'] [b,c]=false:=by with_unfolding_all rfl):PT X (.Compare a [op,op'] [b,c] pos) (tTest (tChain r r' ta tb tc)):=by
 intro pins s σ H Q I h
 refine isTrue_chain (thn (ha pins s σ H _ I h) fun v s1 ⟨x,H1,I1,r1,q1⟩=>test_link (thn (hb pins s1 σ H1 _ I1 q1) fun u s2 ⟨y,H2,I2,r2,q2⟩ =>
  thn (ho pins s2 σ H2 x y v u _ I2 r1 r2 q2) fun d s3 ⟨z,H3,I3,r3,k,e,q3⟩=>?_)) hm
 subst e
 cases r3
 refine wpAny_truthy_bool ?_
 cases k with
 |false =>
  obtain⟨k',e',q'⟩:=q3
  cases e'
  exact ite_ff ⟨H3,I3,q'⟩
 |true =>
  refine ite_tt (test_last (thn (hc pins s3 σ H3 _ I3 q3) fun w' s4 ⟨z',H4,I4,r4,q4⟩=>thn (ho' pins s4 σ H4 y z' u w' _ I4 r2 r4 q4) fun d' s5 ⟨z2,H5,I5,r5,k2,e2,q5⟩=>?_))
  subst e2
  cases r5
  exact wpAny_truthy_bool ⟨H5,I5,q5⟩
theorem zap8:(sizeLine:Nat)<2 ^ 63:=by rw [sizeLine_eq];decide
theorem zv2 {x:V}{us:List Value} (r:Vals [x] us):∃u,us=[u]∧RelV x u:=by
 cases r with
 |cons r1 r2=>cases r2;exact⟨_,rfl,r1⟩
theorem vals2 {x y:V}{us:List Value} (r:Vals [x,y] us):∃u w',us=[u,w']∧RelV x u∧RelV y w':=by
 cases r with
 |cons r1 r2 =>
  cases r2 with
  |cons r3 r4=>cases r4;exact⟨_,_,rfl,r1,r3⟩
theorem call_abs:zl5 X (.builtin "abs") (fun xs H Q => ∃i,xs=[.int i]∧Q (.int (if i<0 then -i else i)) H):=by
 intro pins s σ H xs us Q I r h
 obtain⟨i,rfl,q⟩:=h
 obtain⟨u,rfl,t,rfl⟩:=zv2 r
 exact call_abs_int fun u tk=>⟨.int (if i<0 then -i else i),H,I.tok _,⟨_,rfl⟩,q⟩
theorem zau0 (hc:X.calm=true):zl5 X (.builtin "min") (fun xs H Q => ∃i j,xs=[.int i,.int j]∧Q (.int (if j<i then j else i)) H):=by
 intro pins s σ H xs us Q I r h
 obtain⟨i,j,rfl,q⟩:=h
 obtain⟨u,w',rfl,⟨t,rfl⟩,⟨t',rfl⟩⟩:=vals2 r
 refine min_two_ints (I.ok.hd hc) fun h' tk k=>⟨_,H,I.kept k,?_,q⟩
 by_cases hj:j<i
 ·rw [if_pos hj,if_pos hj];exact⟨_,rfl⟩
 ·rw [if_neg hj,if_neg hj];exact⟨_,rfl⟩
end
end L2
namespace L2
open PySem.Spec
structure ObjM (h:Heap) (x dx C:Addr) (mA:Str→Option Value):Prop where
 obj:h.get? x=some (zbj5 C dx)
 ns:h.Ns1 dx mA
 ne:dx≠x
theorem zap6 {h:Heap}{dx:Addr}{mA:Str→Option Value} (n:h.Ns1 dx mA):∃od,h.get? dx=some od∧∀name,zbk3 name od=some (mA name):=by
 obtain⟨o,es,ep,ho,hd,hk,_,hm⟩:=n
 refine⟨o,ho,fun name=>?_⟩
 have e:=hm name
 unfold nsFind findBy at e
 rw [← Array.find?_toList]at e
 unfold zbk3
 rw [hd]
 dsimp only
 split
 ·rename_i y q
  rw [q]at e
  exact congrArg some e
 ·rename_i q
  rw [q]at e
  have a:es.toList.any (·.refKey)=false:=by
   rw [List.any_eq_false]
   intro y hy
   obtain⟨z,t,hkey⟩:=hk y (Array.mem_toList_iff.mp hy)
   simp [DictEntry.refKey,hkey]
  have a' : ¬ es.toList.any (·.refKey)=true:=by rw [a];exact zax5
  rw [if_neg a']
  exact congrArg some e
theorem ObjM.look {h:Heap}{x dx C:Addr}{mA:Str→Option Value} (I:ObjM h x dx C mA):∃od,PySem.W.InstAt h x (zbj5 C dx) C (some od)∧∀name,zbk3 name od=some (mA name) :=
 let ⟨od,ho,hl⟩:=zap6 I.ns
 ⟨od,⟨I.obj,rfl,rfl,ho⟩,hl⟩
section
variable {prog:Program}{w:World}{A:Around}{E:Value→zaw4→Prop}{s:zaw4}{K:zav4}{x dx C f:Addr}{mA:Str→Option Value}{name:Str}{v:Value}
theorem get_map {expr:Bool}{Q:Value→zaw4→Prop} (X:K.In s.heap) (I:ObjM s.heap x dx C mA) (hg:zbl4 K C name=true) (hh:zbl1 K C=true)
  (ha:zbe4 K (.ref C) name=some none) (hv:mA name=some v) (hv':PySem.W.handedIn v=true) (h:Q v { s with toks:=s.toks+1 }) :
  wpAny (model prog w) A (getAttr (.ref x) name expr) Q E s:=by
 obtain⟨od,J,hl⟩:=I.look
 exact PySem.W.get_value X J (PySem.W.plainGet_of hg).1 (PySem.W.findObj_own hh ha rfl (by rw [hl,hv])) hv' h
end
theorem RelO.some_of {v:V}{o:Option Value} (r:RelO (some v) o):∃u,o=some u∧RelV v u:=by
 cases o with
 |none=>exact (show False from r).elim
 |some u=>exact⟨u,rfl,r⟩
structure Cls (K:zav4) (C:Addr):Prop where
 pg:zbl4 K C Str.empty=true
 hd:zbl1 K C=true
 po:PySem.W.plainOver K C=true
 sa:zbe4 K (.ref C) "__setattr__"=some (some (.builtin "object.__setattr__"))
structure Con (K:zav4) (C:Addr) (f:Str) (v:V) (u:Value):Prop where
 at_:zbe4 K (.ref C) f=some (some u)
 rel:RelV v u
 get:zbl2 K u "__get__"=some none
 cp:PySem.W.copiedNames.contains f=false
structure Meth (K:zav4) (C:Addr) (m:Str) (f:Addr):Prop where
 at_:zbe4 K (.ref C) m=some (some (.ref f))
 fn:PySem.W.isFn K (.ref f)=true
 kp:zba4 K (.ref f)=true
section
variable {X:Cx}{pins:List (Addr×Obj)}{σ:St}{H:Hp}{s:zaw4}{A:Around}{E:Value→zaw4→Prop}{Q:Value→zaw4→Prop}{c:Value}{b:Bool}
inductive TyOf (K:zav4) (H:Hp):V→Value→Prop where
 |non:TyOf K H .non (.type "NoneType")
 |bl (x:Bool):TyOf K H (.bl x) (.type "bool")
 |int (i:Int):TyOf K H (.int i) (.type "int")
 |str (x:Str):TyOf K H (.str x) (.type "str")
 |flt (x:UInt64):TyOf K H (.flt x) (.type "float")
 |lst {a:Addr}{xs:List V} (e:H a=some (.lst xs)):TyOf K H (.ref a) (.type "list")
 |frz {a:Addr}{o:Obj}{xs:List V} (e:H a=some (.frz o (.lst xs))):TyOf K H (.ref a) (.type "list")
 |tup {a:Addr}{xs:List V} (e:H a=some (.tup xs)):TyOf K H (.ref a) (.type "tuple")
 |dK {a:Addr}{kvs:List (Key×V)} (e:H a=some (.dK kvs)):TyOf K H (.ref a) (.type "dict")
 |dT {a:Addr}{kvs:List (List Key×V)} (e:H a=some (.dT kvs)):TyOf K H (.ref a) (.type "dict")
 |ins {a C dx:Addr}{fs:List (Str×V)} (e:H a=some (.ins C dx fs)) (cl:Cls K C) (ha:zbe4 K (.ref C) "__class__"=some (some (.builtin "object.__class__")))
   (hn:zbl2 K (.builtin "object.__class__") "__get__"=some (some (.builtin "getset_descriptor.__get__"))) (htk:PySem.W.takesIn K (.builtin "object.__class__")=some true)
   (hm:PySem.W.mroIn K C (.type "object")=some true):TyOf K H (.ref a) (.ref C)
end
end L2
namespace L2
open PySem.Spec
structure Room (k:Nat) (A:Around):Prop where
 hd:A.handled=none
 dp:A.depth+3*k+5<recursionLimit
 un:A.units+16*k+200<cLine
theorem Room.mono {j k:Nat}{A:Around} (r:Room k A) (h:j≤k):Room j A:=⟨r.hd,by have:=r.dp;lia,by have:=r.un;lia⟩
theorem Room.deeper {k:Nat}{A:Around} (r:Room (k+1) A) (env:Env):Room k (A.deeper env) :=
 ⟨r.hd,by have:=r.dp;show A.depth+1+3*k+5<_;lia,by have:=r.un;show A.units+3+16*k+200<_;lia⟩
theorem Room.in1 {k:Nat}{A:Around} (r:Room (k+1) A):Room k A.in1 :=
 ⟨r.hd,by have:=r.dp;show A.depth+3*k+5<_;lia,by have:=r.un;show A.units+1+16*k+200<_;lia⟩
theorem Room.depth {k:Nat}{A:Around} (r:Room k A):A.depth<recursionLimit:=by have:=r.dp;lia
theorem Room.units {k:Nat}{A:Around} (r:Room k A):A.units+64<cLine:=by have:=r.un;lia
def tNil:TA:=fun _ H Q=>Q [] H
def tCons (ta:TE) (tr:TA):TA:=fun σ H Q=>ta σ H fun x H1=>tr σ H1 fun xs H2=>Q (x::xs) H2
section
variable {X:Cx}{e:Expr}{es:List Expr}{te:TE}{t:TA}{pos:Pos}
theorem zk6:PA X [] tNil:=fun _ _ _ _ H Q I h=>Calls.spliced_nil ⟨[],H,I,.nil,h⟩
theorem zg3 (ha:PE X e te) (hr:PA X es t) (hs:zax8 (e::es) X.env=(false,eval e X.env)::zax8 es X.env:=by rfl):PA X (e::es) (tCons te t):=by
 intro pos pins s σ H Q I h
 rw [hs]
 show wpAny _ _ (spliced ((false,eval e X.env)::zbe1 pos (zax8 es X.env))) _ _ s
 refine Calls.spliced_cons (thn (ha pins s σ H _ I h) fun u s1 ⟨x,H1,I1,r1,q1⟩=>?_)
 exact thn (hr pos pins s1 σ H1 _ I1 q1) fun us s2 ⟨xs,H2,I2,r2,q2⟩=>⟨x::xs,H2,I2,.cons r1 r2,q2⟩
def tTup (t:TA):TE:=fun σ H Q=>t σ H fun xs H1=>xs.length≤sizeLine∧∀p,H1 p=none→Q (.ref p) (upd H1 p (.tup xs))
def tLst (t:TA):TE:=fun σ H Q=>t σ H fun xs H1=>xs.length≤sizeLine∧∀p,H1 p=none→Q (.ref p) (upd H1 p (.lst xs))
theorem pe_tup {x1} (h:PA X es t):PE X (.Tuple es x1 pos) (tTup t):=by
 intro pins s σ H Q I hq
 refine wpAny_Tuple_spliced (thn (h pos pins s σ H _ I hq) fun us s1 ⟨xs,H1,I1,r,z,q⟩=>⟨by rw [← r.length];exact z,?_⟩)
 have hf:H1 s1.heap.objs.size=none:=I1.hok.fresh (zaw7 _)
 refine⟨.ref s1.heap.objs.size,upd H1 s1.heap.objs.size (.tup xs),I1.laid (t':=s1.toks) (fun b u e=>zav7 _ e) (zaw7 _) ?_,rfl,q _ hf⟩
 exact⟨z,us,r,⟨_,zax2 _ rfl,rfl,_,rfl⟩⟩
theorem pe_lst (h:PA X es t):PE X (.List es pos) (tLst t):=by
 intro pins s σ H Q I hq
 refine wpAny_List_spliced (thn (h pos pins s σ H _ I hq) fun us s1 ⟨xs,H1,I1,r,z,q⟩=>⟨by rw [← r.length];exact z,?_⟩)
 have hf:H1 s1.heap.objs.size=none:=I1.hok.fresh (zaw7 _)
 refine⟨.ref s1.heap.objs.size,upd H1 s1.heap.objs.size (.lst xs),I1.laid (t':=s1.toks) (fun b u e=>zav7 _ e) (zaw7 _) ?_,rfl,q _ hf⟩
 exact⟨z,us,0,r,zax2 _ rfl⟩
end
abbrev Sp:=List V→Hp→VK→XK→Prop
abbrev CXT:=List Env→Hp→zaw4→XK→Value→zaw4→Prop
structure Env0 (P:Program) (w:World) (K:zav4) (mg:Str→Option Value) (base:BHeap) (A:Around) (outer:List Env) (s:zaw4) (H:Hp):Prop where
 frames:A.frames=some outer
 mod:Mod K mg base
 bs:∀b o,base.get? b=some o→s.heap.get? b=some o∧H b=none
 bsz:base.objs.size≤s.heap.objs.size
 funs:s.heap.FunFrames base outer
 frf:∀b∈frs outer,H b=none
 hok:HOk P w H s.heap
 bare:AllBare s.gens
 tabs:∀p∈base.tabs,H p.1=some (.tbl p.2)
noncomputable def CE (outer:List Env) (P:Program) (w:World) (H:Hp) (s:zaw4) (Q:VK) (u:Value) (s':zaw4):Prop :=
 ∃v H',s'.os=s.os∧AllBare s'.gens∧Un (frs outer) [] H H' s.heap s'.heap∧HOk P w H' s'.heap∧RelV v u∧Q v H'
noncomputable def CR (CX:CXT) (outer:List Env) (P:Program) (w:World) (H:Hp) (s:zaw4) (Q:VK) (E:XK) (r:Result) (s':zaw4):Prop :=
 match r with
 |.ok (.ret u)=>CE outer P w H s Q u s'
 |.ok _=>False
 |.error e=>CX outer H s E e s'
structure FnOk (P:Program) (w:World) (K:zav4) (mg:Str→Option Value) (base:BHeap) (CX:CXT) (k:Nat) (f:Addr) (fd:FuncData) (ps:List Str) (sp:Sp):Prop where
 len:∀vs H Q E,sp vs H Q E→vs.length=ps.length
 run:∀(A:Around) (outer:List Env) (s:zaw4) (H:Hp) (args:Args) (us:List Value) (vs:List V) (Q:VK) (E:XK),Room k A→Env0 P w K mg base A outer s H→BindsTo s fd args (ps.zip us)→Vals vs us→sp vs H Q E →
  codeAny (model P w) A (.call (.ref f) args) (CR CX outer P w H s Q E) s
theorem FnOk.imp {P:Program}{w:World}{K:zav4}{mg:Str→Option Value}{base:BHeap}{CX:CXT}{k:Nat}{f:Addr}{fd:FuncData}{ps:List Str}{sp sp':Sp} (F:FnOk P w K mg base CX k f fd ps sp)
  (h:∀vs H Q E,sp' vs H Q E→sp vs H Q E):FnOk P w K mg base CX k f fd ps sp' :=
 ⟨fun vs H Q E q=>F.len vs H Q E (h _ _ _ _ q),fun A outer s H args us vs Q E hr he hb hv hs=>F.run A outer s H args us vs Q E hr he hb hv (h _ _ _ _ hs)⟩
section
variable {X:Cx}{pins:List (Addr×Obj)}{σ:St}{H:Hp}{s s':zaw4}
theorem Inv.env0 (I:Inv X pins σ H s):Env0 X.prog X.w X.K X.mg X.base X.A X.stack s H :=
 ⟨I.ok.frames,I.ok.mod,I.bs,zaz5 I.ok.bsz I.sz,I.stack,I.stkFree,I.hok,I.bare,fun p hp=>I.base.tbls _ _ (I.ok.tabs p hp)⟩
theorem Inv.after {Q:VK}{u:Value} (I:Inv X pins σ H s) (h:CE X.stack X.prog X.w H s Q u s'):EP X pins σ Q u s':=by
 obtain⟨v,H',os,bare,un,hok,r,q⟩:=h
 obtain⟨hh,g,d,t,os'⟩:=s'
 obtain rfl:os'=s.os:=os
 exact⟨v,H',I.call (h':=hh) (g':=g) (d':=d) (t':=t) (ch:=[]) un hok bare (fun b z=>absurd z (by simp)),r,q⟩
end
def tCall (sp:Sp) (dvs:List V) (E:XK) (t:TA):TE:=fun σ H Q=>t σ H fun vs H1=>sp (vs++dvs) H1 Q E
noncomputable def Binds (K:zav4) (fd:FuncData) (ps:List Str) (ds:List Value):Prop :=
 ∀(s:zaw4) (us:List Value),K.In s.heap→(us++ds).length=ps.length→BindsTo s fd ⟨us,[]⟩ (ps.zip (us++ds))
theorem Binds.all {K:zav4}{fd:FuncData}{ps:List Str} (h:∀us:List Value,us.length=ps.length→bindArgs fd ⟨us,[]⟩=pure (ps.zip us)):Binds K fd ps []:=fun s us _ hl=>by
 rw [zbc3]at hl ⊢
 exact .of_eq (h us hl)
noncomputable def zav3 (CX:CXT) (X:Cx) (E:XK):Prop := ∀(pins:List (Addr×Obj)) (σ:St) (H:Hp) (s:zaw4) (e:Value) (s':zaw4),Inv X pins σ H s→CX X.stack H s E e s'→X.xe e s'
section
variable {X:Cx}{CX:CXT}{k:Nat}{f C:Addr}{fd:FuncData}{ps:List Str}{sp:Sp}{dvs:List V}{ds:List Value}{E:XK}{x m:Str}{p pos apos:Pos}{e o:Expr}{es:List Expr}{ta:TE}{t:TA}
theorem run_fn {pins:List (Addr×Obj)}{σ:St}{H:Hp}{s:zaw4}{Q:VK}{us:List Value}{vs:List V} (F:FnOk X.prog X.w X.K X.mg X.base CX k f fd ps sp) (hr:Room k X.A) (hb:Binds X.K fd ps ds) (hd:Vals dvs ds) (hx:zav3 CX X E)
  (I:Inv X pins σ H s) (r:Vals vs us) (h:sp (vs++dvs) H Q E):wpAny (model X.prog X.w) X.A (call (.ref f) us) (EP X pins σ Q) X.xe s:=by
 have r2:Vals (vs++dvs) (us++ds):=r.append hd
 have hl:(us++ds).length=ps.length:=by rw [← r2.length];exact F.len _ _ _ _ h
 refine wpAny_call (codeAny_mono (F.run X.A X.stack s H ⟨us,[]⟩ (us++ds) (vs++dvs) Q E hr I.env0 (hb s us I.kIn hl) r2 h) fun r s' hq=>?_)
 cases r with
 |error e=>exact hx pins σ H s e s' I hq
 |ok fl =>
  cases fl with
  |ret u=>exact I.after hq
  |next=>exact False.elim hq
  |brk=>exact False.elim hq
  |cont=>exact False.elim hq
theorem pe_call (F:FnOk X.prog X.w X.K X.mg X.base CX k f fd ps sp) (hr:Room k X.A) (hg:Gl X x) (hm:X.mg x=some (.ref f)) (hk:zba4 X.K (.ref f)=true) (hb:Binds X.K fd ps ds) (hd:Vals dvs ds) (hx:zav3 CX X E)
  (ha:PA X (e::es) t) (hdb:(x ==("__debug__":Str))=false:=by decide) (he:zax8 (e::es) X.env=(false,eval e X.env)::zax8 es X.env:=by rfl) (hpl:(zbe1 pos (zax8 es X.env)).any (·.1)=false:=by rfl) :
  PE X (.Call (.Name x p) (e::es) [] pos) (tCall sp dvs E t):=by
 intro pins s σ H Q I h
 refine wpAny_Call_Name_kw (ld_glob I hg hm ?_ hdb)
 refine PySem.W.callWith_K (h₀:=X.base) I.ok.mod.kin hk (thn (ha pos pins s σ H _ I h) fun us s1 ⟨vs,H1,I1,r,q⟩=>⟨I1.kIn,?_⟩) he hpl
 exact run_fn F hr hb hd hx I1 r q
structure Mk (K:zav4) (C f:Addr):Prop where
 makes:PySem.W.makesIn K C=true
 init:zbe4 K (.ref C) "__init__"=some (some (.ref f))
 fn:PySem.W.isFn K (.ref f)=true
 kp:zba4 K (.ref C)=true
end
section
variable {X:Cx}{CX:CXT}{k:Nat}{f C:Addr}{fd:FuncData}{ps ks:List Str}{sp:Sp}{E:XK}{x m:Str}{p pos apos kpos:Pos}{e o:Expr}{es:List Expr}{kws:List Keyword}{te ta:TE}{t tk:TA}{nm:Option Str}
structure KBinds (K:zav4) (fd:FuncData) (ps ks:List Str) (g:List Value→List Value→List Value) (gV:List V→List V→List V):Prop where
 to:∀(s:zaw4) (us ws:List Value),K.In s.heap→(g us ws).length=ps.length→BindsTo s fd ⟨us,ks.zip ws⟩ (ps.zip (g us ws))
 rel:∀ {vs:List V}{us:List Value}{zs:List V}{ws:List Value},Vals vs us→Vals zs ws→Vals (gV vs zs) (g us ws)
variable {g:List Value→List Value→List Value}{gV:List V→List V→List V}
end
structure FnScope (N P:List Str) (sc:Scope):Prop where
 kind:sc.kind=.function
 co:sc.isCoroutine=false
 gen:sc.isGenerator=false
 nd:N.Nodup
 pre:N.take P.length=P
 par:∀x∈P,sc.names.lookup x=some .local∨sc.names.lookup x=some .cell
 nofree:∀y∈sc.names,y.2≠.free
theorem zz6 {kindOf:Str→Option NameKind}{x:Str}:∀ {binds:List (Str×Value)}{m:Str→Option Value},(∀v,(x,v)∉binds)→bindL kindOf binds m x=m x
 |[],_,_=>rfl
 |(n,v)::r,m,h=>by
  unfold bindL
  rw [zz6 fun w hw=>h w (zav8 _ hw)]
  split
  ·have:x≠n:=by rintro rfl;exact h v zaw0
   simp [this]
  ·rfl
theorem zz8 {kindOf:Str→Option NameKind}{x:Str}:∀ {binds:List (Str×Value)}{m:Str→Option Value},(∀v,(x,v)∉binds)→bindC kindOf binds m x=m x
 |[],_,_=>rfl
 |(n,v)::r,m,h=>by
  unfold bindC
  rw [zz8 fun w hw=>h w (zav8 _ hw)]
  split
  ·rfl
  ·have:x≠n:=by rintro rfl;exact h v zaw0
   simp [this]
theorem zz7 {kindOf:Str→Option NameKind}{x:Str}{v:Value}:∀ {P:List Str}{vs:List Value}{i:Nat}{m:Str→Option Value},P.Nodup→P[i]?=some x→vs[i]?=some v→kindOf x=some .local →
  bindL kindOf (P.zip vs) m x=some v
 |[],_,_,_,_,h,_,_=>by simp at h
 |_::_,[],_,_,_,_,h,_=>by simp at h
 |p::P,w::vs,0,m,nd,h1,h2,hk=>by
  simp at h1 h2;subst h1;subst h2
  show bindL kindOf ((p,w)::P.zip vs) m p=_
  unfold bindL
  rw [zz6 fun v hv=>(zay8.mp nd).1 (zbj6 hv).1,if_pos hk]
  simp
 |p::P,w::vs,i+1,m,nd,h1,h2,hk=>by
  show bindL kindOf ((p,w)::P.zip vs) m x=_
  unfold bindL
  exact zz7 (i:=i) (zay8.mp nd).2 (by simpa using h1) (by simpa using h2) hk
theorem zz9 {kindOf:Str→Option NameKind}{x:Str}{v:Value}:∀ {P:List Str}{vs:List Value}{i:Nat}{m:Str→Option Value},P.Nodup→P[i]?=some x→vs[i]?=some v→kindOf x≠some .local →
  bindC kindOf (P.zip vs) m x=some v
 |[],_,_,_,_,h,_,_=>by simp at h
 |_::_,[],_,_,_,_,h,_=>by simp at h
 |p::P,w::vs,0,m,nd,h1,h2,hk=>by
  simp at h1 h2;subst h1;subst h2
  show bindC kindOf ((p,w)::P.zip vs) m p=_
  unfold bindC
  rw [zz8 fun v hv=>(zay8.mp nd).1 (zbj6 hv).1,if_neg hk]
  simp
 |p::P,w::vs,i+1,m,nd,h1,h2,hk=>by
  show bindC kindOf ((p,w)::P.zip vs) m x=_
  unfold bindC
  exact zz9 (i:=i) (zay8.mp nd).2 (by simpa using h1) (by simpa using h2) hk
def start (N:List Str) (vs:List V):St:=vs.map some++zax4 (N.length - vs.length) none
noncomputable def cxOf (CX:CXT) (P:Program) (w:World) (K:zav4) (mg:Str→Option Value) (base:BHeap) (N:List Str) (qual:Str) (scope:Scope) (f:Addr) (cd:Value) (A:Around) (outer:List Env) (s:zaw4) (H:Hp) (E:XK):Cx where
 prog:=P
 w:=w
 K:=K
 mg:=mg
 base:=base
 A:=A.deeper (envOfC qual scope s.heap.objs.size f cd)
 N:=N
 s₀:=s
 H₀:=H
 env:=envOfC qual scope s.heap.objs.size f cd
 outer:=outer
 stack:=envOfC qual scope s.heap.objs.size f cd::outer
 ex:=[]
 calm:=true
 fn:=fun _=>true
 pn:=[]
 xe:=fun e s'=>wpAny (model P w) (A.deeper (envOfC qual scope s.heap.objs.size f cd)) (leaving (envOfC qual scope s.heap.objs.size f cd) e) (fun _ s''=>CX outer H s E e s'') (fun e' s''=>CX outer H s E e' s'') s'
theorem zah2 {sc:Scope}{n:Nat}{x:Str} (h:sc.names.lookup x=some .cell):∃c,(cellsFrom n sc.names []).lookup x=some c:=by
 have q:=zbi3 sc.names n [] (.inl h)
 exact zbh5.mp q
theorem zaq7 {CX:CXT}{P:Program}{w:World}{K:zav4}{mg:Str→Option Value}{base:BHeap}{N ps:List Str}{qual:Str}{scope:Scope}{f:Addr}{cd:Value}{A:Around}{outer:List Env}{s s1:zaw4}{H:Hp}{E:XK}{us:List Value}{vs:List V}
  (S:FnScope N ps scope) (hd:A.handled=none) (e0:Env0 P w K mg base A outer s H) (hl:vs.length=ps.length) (r:Vals vs us)
  (x:InCallC s s.heap.objs.size (bindL (envOfC qual scope s.heap.objs.size f cd).kindOf (ps.zip us) fun _=>none) (cellsFrom (s.heap.objs.size+1) scope.names []) (bindC (envOfC qual scope s.heap.objs.size f cd).kindOf (ps.zip us) fun _=>none) s1) :
  Inv (cxOf CX P w K mg base N qual scope f cd A outer s H E) [] (start N vs) H s1:=by
 have hpl:ps.length≤N.length:=by have:=congrArg List.length S.pre;rw [zbi4]at this;lia
 obtain⟨h1,tk,rfl,hk⟩:=x.done
 have noA:∀b:Addr,b∉(cxOf CX P w K mg base N qual scope f cd A outer s H E).ex:=fun b z=>absurd (show b∈([]:List Addr) from z) (by simp)
 refine⟨⟨e0.mod,S.kind,rfl,rfl,zaw7 _,fun y z c h1 h2=>?_,fun y hy=>?_,fun y c _ h=>?_,fun _=>hd,Around.frames_deeper e0.frames,.inr ⟨rfl,rfl⟩,fun b z=>absurd z (noA b),e0.bs,e0.bsz,fun b _ _=>noA b,fun b z=>absurd z (noA b),e0.funs,e0.frf,e0.tabs⟩,
  rfl,e0.bare,Un.kept hk,⟨_,x.toInCall.ns,fun i y v h1 h2 h3=>?_⟩,fun y c h=>⟨_,x.cell y c h⟩,e0.hok.fresh (zaw7 _),fun y c h=>?_,fun p hp=>absurd (show p∈([]:List (Addr×Obj)) from hp) (by simp),e0.hok.kept hk,?_⟩
 ·exact name_of_addr x.apart (PySem.mem_of_lookup h1) (PySem.mem_of_lookup h2)
 ·have hy:scope.names.lookup y=some .cell∨scope.names.lookup y=some .free:=hy
  rcases hy with hy | hy
  ·exact zah2 hy
  ·exact absurd rfl (S.nofree _ (PySem.mem_of_lookup hy))
 ·exact zbf1 (x.above y c (PySem.mem_of_lookup h))
 ·have hi:i<vs.length:=by
   unfold start at h2
   by_cases hi:i<vs.length
   ·exact hi
   ·rw [zbg7 (by simpa using hi)]at h2
    rw [zbh9]at h2
    split at h2<;>cases h2
  have ha:vs[i]?=some v:=by
   unfold start at h2
   rw [zbg9 (by simpa using hi),zba3]at h2
   cases e:vs[i]? with
   |none=>rw [e]at h2;cases h2
   |some a=>rw [e]at h2;cases h2;rfl
  obtain⟨u,hu,rv⟩:=r.get ha
  have hp:ps[i]?=some y:=by
   rw [← S.pre,List.getElem?_take_of_lt (by lia)];exact h1
  have ndP:ps.Nodup:=by rw [← S.pre];exact S.nd.sublist (List.take_sublist _ _)
  refine⟨u,rv,?_⟩
  rcases S.par y (zbk0 hp) with k | k
  ·exact .inl ⟨k,zz7 ndP hp hu k⟩
  ·obtain⟨c,e⟩:=zah2 (n:=s.heap.objs.size+1) k
   refine .inr ⟨.inl k,c,e,?_⟩
   have q:=x.cell y c e
   rw [zz9 ndP hp hu (by show scope.names.lookup y≠_;rw [k];decide)]at q
   exact q
 ·exact e0.hok.fresh (zbf1 (x.above y c (PySem.mem_of_lookup h)))
 ·unfold start
  show _=N.length
  rw [zax7,zay5,zbj3]
  lia
theorem fn_of {CX:CXT}{P:Program}{w:World}{K:zav4}{mg:Str→Option Value}{base:BHeap}{k:Nat}{f:Addr}{name qual:Str}{params:Arguments}{body:List Stmt}{scope:Scope}{dV kV doc pm cdv ct oc:Value}{an od:Option Addr}
  {osl:Array (Option Value)}{N ps:List Str}{sp:Sp} (lk:K.lookup f=some ⟨oc,od,.func (zba8 name qual params body scope dV kV doc pm an cdv ct),osl⟩) (hcd:zbg0 K cdv qual=true) (S:FnScope N ps scope)
  (len:∀vs H Q E,sp vs H Q E→vs.length=ps.length)
  (hbody:∀(A:Around) (outer:List Env) (s:zaw4) (H:Hp) (vs:List V) (Q:VK) (E:XK),Room k (A.deeper (envOfC qual scope s.heap.objs.size f cdv))→sp vs H Q E →
   ∃t,PSs (cxOf CX P w K mg base N qual scope f cdv A outer s H E) body t∧t { nx:=fun _ H'=>Q .non H',rt:=Q } (start N vs) H) :
  FnOk P w K mg base CX (k+1) f (zba8 name qual params body scope dV kV doc pm an cdv ct) ps sp:=by
 refine⟨len,fun A outer s H args us vs Q E hr e0 hb r hsp=>?_⟩
 have hl:=len _ _ _ _ hsp
 have KX:K.In s.heap:=e0.mod.kin.keeps fun b o e=>(e0.bs b o e).1
 have lim:s.heap.NoLimit:=e0.mod.nolimit.keeps fun b o e=>(e0.bs b o e).1
 have hkind:∀y∈ps.zip us,scope.names.lookup y.1=some .local∨(scope.names.lookup y.1=some .cell∧((cellsFrom (s.heap.objs.size+1) scope.names []).lookup y.1).isSome=true):=fun ⟨n,v⟩ hy=>by
  rcases S.par n (zbj6 hy).1 with q | q
  ·exact .inl q
  ·exact .inr ⟨q,zbi3 _ _ _ (.inl q)⟩
 refine codeAny_call_function hr.depth (KX _ _ lk) rfl S.co S.gen rfl (PySem.W.codeRec_of KX hcd) (hb _ _ _ _ ?_)
 refine wpAny_newFunctionEnv_cells S.kind hkind fun env he s1 x=>?_
 subst he
 refine⟨lim.keeps x.toInCall.keep,codeAny_func ?_⟩
 obtain⟨t,ht,hq⟩:=hbody A outer s H vs Q E (hr.deeper _) hsp
 have I:Inv (cxOf CX P w K mg base N qual scope f cdv A outer s H E) [] (start N vs) H s1:=zaq7 S hr.hd e0 hl r x
 refine wpAny_mono (ht [] s1 (start N vs) H _ I hq) (fun fl s' hs=>?_) fun e s' hs=>hs
 have fin:∀ {σ':St}{H':Hp}{v:V}{u:Value},Inv (cxOf CX P w K mg base N qual scope f cdv A outer s H E) [] σ' H' s'→RelV v u→Q v H'→CE outer P w H s Q u s' :=
  fun {σ' H' v u} J rv q=>⟨v,H',J.os,J.bare,J.base,J.hok,rv,q⟩
 cases fl with
 |ret u =>
  obtain⟨v,σ',H',J,rv,q⟩:=hs
  exact fin J rv q
 |next =>
  obtain⟨σ',H',J,q⟩:=hs
  exact fin (v:=V.non) (u:=Value.none) J rfl q
 |brk =>
  obtain⟨_,_,_,q⟩:=hs
  exact False.elim q
 |cont =>
  obtain⟨_,_,_,q⟩:=hs
  exact False.elim q
end L2
namespace L2
open PySem.Spec
section
variable {X:Cx}{x:Str}{p pos:Pos}{e:Expr}{es:List Expr}{t:TA}{id T:String}{r:List V→Hp→VK→Prop}
def tCB (r:List V→Hp→VK→Prop) (t:TA):TE:=fun σ H Q=>t σ H fun vs H1=>r vs H1 Q
theorem pe_callB (hc:zl5 X (.builtin id) r) (hg:Gl X x) (hm:X.mg x=none) (hv:bootBuiltins x=some (.builtin id)) (ha:PA X (e::es) t) (hn:x≠"__name__":=by decide) (hdb:(x ==("__debug__":Str))=false:=by decide)
  (he:zax8 (e::es) X.env=(false,eval e X.env)::zax8 es X.env:=by rfl) (hpl:(zbe1 pos (zax8 es X.env)).any (·.1)=false:=by rfl):PE X (.Call (.Name x p) (e::es) [] pos) (tCB r t):=by
 intro pins s σ H Q I h
 refine wpAny_Call_Name_kw (zj3 I hg hm hv ?_ hn hdb)
 exact PyProof.Rows.callWith_builtin1 (thn (ha pos pins s σ H _ I h) fun us s1 ⟨vs,H1,I1,r1,q1⟩=>hc pins s1 σ H1 vs us Q I1 r1 q1) he hpl
end
end L2
namespace HT
section
variable {prog:Program}{w:World}{A:Around}{E:Value→zaw4→Prop}{s:zaw4}
theorem cat_tup {t b:Addr}{vs ws:List Value}{Q:Value→zaw4→Prop} (ht:IsTup s.heap t vs.toArray) (hb:IsTup s.heap b ws.toArray) (hv:vs≠[])
  (h1:ws=[]→Q (.ref t) s) (h2:ws≠[]→Q (.ref s.heap.objs.size) { s with heap:=s.heap.push { cls:=.type "tuple",data:=.seq (vs++ws).toArray } })
  (hsz:vs.length+ws.length≤sizeLine):wpAny (model prog w) A (binaryOp .Add (.ref t) (.ref b)) Q E s:=by
 obtain⟨⟨cls,dd,data,sl⟩,ho,hc,n,hd⟩:=id ht
 obtain⟨⟨cls2,dd2,data2,sl2⟩,ho2,hc2,n2,hd2⟩:=id hb
 simp only at hc hd hc2 hd2
 subst hc hd hc2 hd2
 have e:vs.toArray++ws.toArray=(vs++ws).toArray:=by simp
 by_cases hw:ws=[]
 ·exact concat_meets ⟨_,ho,rfl⟩ ⟨_,ho2,rfl⟩ noFill_tuple_add seq_tuple_add zbf5 zbf0 (zbe5 _ _)
   (tuple_addW1 t b vs.toArray ws.toArray n n2 dd dd2 sl sl2 (by simpa using hv) (by simp [hw])) ⟨ho,ho2,h1 hw⟩
 ·refine concat_meets ⟨_,ho,rfl⟩ ⟨_,ho2,rfl⟩ noFill_tuple_add seq_tuple_add zbf5 zbf0 (zbe5 _ _)
   (tuple_addW2 t b vs.toArray ws.toArray n n2 dd dd2 sl sl2 (by simpa using hv) (by simpa using hw) (by rw [zax9,zax9];exact hsz)) ⟨ho,ho2,?_⟩
  rw [e]
  exact h2 hw
def sIx (n d:Nat):Option Int→Nat
 |none=>d
 |some v=>if v<0 then (v+(n:Int)).toNat else min v.toNat n
theorem sIx_none (n d:Nat):sIx n d none=d:=rfl
theorem sIx_nat (n d k:Nat):sIx n d (some (k:Int))=min k n:=by
 show (if (k:Int)<0 then ((k:Int)+(n:Int)).toNat else min (k:Int).toNat n)=min k n
 rw [if_neg (by lia),zbc1]
end
end HT
namespace L2
open PySem.Spec
abbrev TO:=St→Hp→(Option Int→Hp→Prop)→Prop
noncomputable def PO (X:Cx) (e:Option Expr) (t:TO):Prop :=
 ∀(pins:List (Addr×Obj)) (s:zaw4) (σ:St) (H:Hp) (Q:Option Int→Hp→Prop),Inv X pins σ H s→t σ H Q →
  wpAny (model X.prog X.w) X.A (evalPart e X.env) (fun u s' => ∃o H',Inv X pins σ H' s'∧IsPart u o∧Q o H') X.xe s
def tNoPart:TO:=fun _ H Q=>Q none H
def tPart (t:TE):TO:=fun σ H Q=>t σ H fun x H1 => ∃i,x=.int i∧Q (some i) H1
theorem zi6 {ns:List Int}:∀ {us:List Value},Vals (ns.map V.int) us→IntsAre us ns:=by
 induction ns with
 |nil=>intro us r;rw [zbe2]at r;cases r;exact .nil
 |cons n ns ih =>
  intro us r
  rw [zax1]at r
  cases r with
  |cons r1 r2 =>
   obtain⟨t,e⟩:=r1
   subst e
   exact .cons n t (ih r2)
section
variable {X:Cx}{e:Expr}{te:TE}{lo hi:Option Expr}{tl th:TO}{pos p2:Pos}
theorem po_none:PO X none tNoPart:=by
 intro pins s σ H Q I h
 rw [evalPart_none]
 exact zaw3 ⟨none,H,I,.none,h⟩
theorem po_some (h:PE X e te):PO X (some e) (tPart te):=by
 intro pins s σ H Q I hw
 rw [evalPart_some]
 refine thn (h pins s σ H _ I hw) fun u s1 ⟨x,H1,I1,r1,q1⟩=>?_
 obtain⟨i,rfl,q⟩:=q1
 obtain⟨t,rfl⟩:=r1
 exact⟨some i,H1,I1,.int i t,q⟩
noncomputable def SlR (X:Cx) (r:V→Option Int→Option Int→Hp→VK→Prop):Prop :=
 ∀(pins:List (Addr×Obj)) (s:zaw4) (σ:St) (H:Hp) (x:V) (v vl vu:Value) (lo hi:Option Int) (sl:Addr) (Q:VK),Inv X pins σ H s→RelV x v→s.heap.IsSliceOf sl vl vu .none→IsPart vl lo→IsPart vu hi→r x lo hi H Q →
  ∃T id,typeLookup (.type T) "__getitem__"=pure (some (.builtin id))∧s.TypeIs v T∧wpAny (model X.prog X.w) X.A (getItem v (.ref sl)) (EP X pins σ Q) X.xe s
noncomputable def tSl (r:V→Option Int→Option Int→Hp→VK→Prop) (te:TE) (tl th:TO):TE:=fun σ H Q=>te σ H fun x H1=>tl σ H1 fun l H2=>th σ H2 fun u H3=>r x l u H3 Q
theorem pe_slice {r:V→Option Int→Option Int→Hp→VK→Prop} (hr:SlR X r) (he:PE X e te) (hl:PO X lo tl) (hu:PO X hi th):PE X (.Subscript e (.Slice lo hi none p2) pos) (tSl r te tl th):=by
 intro pins s σ H Q I h
 refine Subscript_ (thn (he pins s σ H _ I h) fun v s1 ⟨x,H1,I1,r1,q1⟩=>?_)
 refine wpAny_Slice (thn (hl pins s1 σ H1 _ I1 q1) fun vl s2 ⟨l,H2,I2,pl,q2⟩=>thn (hu pins s2 σ H2 _ I2 q2) fun vu s3 ⟨u,H3,I3,pu,q3⟩=>?_)
 rw [evalPart_none]
 refine zaw3 ?_
 have I4:Inv X pins σ H3 { s3 with heap:=s3.heap.push { cls:=.type "slice",data:=.fields #[vl,vu,.none] } }:=I3.kept (t':=s3.toks) fun b ob q=>zav7 _ q
 obtain⟨T,id,hT,ht,hg⟩:=hr pins { s3 with heap:=s3.heap.push { cls:=.type "slice",data:=.fields #[vl,vu,.none] } } σ H3 x v vl vu l u s3.heap.objs.size Q I4 r1 (Heap.IsSliceOf.new ..) pl pu q3
 show wpAny (model X.prog X.w) X.A (subscriptTail e (.Slice lo hi none p2) v (.ref s3.heap.objs.size)) (EP X pins σ Q) X.xe { s3 with heap:=s3.heap.push { cls:=.type "slice",data:=.fields #[vl,vu,.none] } }
 exact tail_any (ops:=[.ref s3.heap.objs.size,v]) ht hT hg (by with_unfolding_all rfl)
noncomputable def cutV (xs:List V) (lo hi:Option Int):List V:=(xs.drop (HT.sIx xs.length 0 lo)).take (HT.sIx xs.length xs.length hi - HT.sIx xs.length 0 lo)
theorem zac7 (xs:List V) (lo hi:Option Int):(cutV xs lo hi).length≤xs.length:=by
 unfold cutV
 rw [zbi4,zbg1]
 lia
noncomputable def rCatT (K:zav4):R2:=fun x y H Q => ∃a b xs ys,x=.ref a∧y=.ref b∧SqT K H a xs∧SqT K H b ys∧xs≠[]∧xs.length+ys.length≤sizeLine ∧
 (ys=[]→Q (.ref a) H)∧(ys≠[]→∀p,H p=none→Q (.ref p) (upd H p (.tup (xs++ys))))
theorem Vals.nil_iff {xs:List V}{us:List Value} (r:Vals xs us):us=[]↔xs=[]:=by
 cases r with
 |nil=>simp
 |cons _ _=>simp
theorem op_catT:OpR X (binaryOp .Add) (rCatT X.K):=by
 intro pins s σ H x y v u Q I rx ry h
 obtain⟨a,b,xs,ys,rfl,rfl,ha,hb,hx,hz,q1,q2⟩:=h
 cases rx
 cases ry
 obtain⟨its,r1,p1,_⟩:=I.tuple ha
 obtain⟨its2,r2,p2,_⟩:=I.tuple hb
 refine HT.cat_tup p1 p2 (fun z=>hx (r1.nil_iff.mp z)) (fun z=>⟨.ref a,H,I,rfl,q1 (r2.nil_iff.mp z)⟩) (fun z=>?_) (by rw [← r1.length, ← r2.length];exact hz)
 refine⟨.ref s.heap.objs.size,_,I.laid (t':=s.toks) (o:=.tup (xs++ys)) (fun b ob q=>zav7 _ q) (zaw7 _) ?_,rfl,q2 (fun w=>z (r2.nil_iff.mpr w)) _ (I.hok.fresh (zaw7 _))⟩
 exact⟨by rw [zax7];exact hz,_,r1.append r2,IsTup.new _ _⟩
end
end L2
namespace L2
open PySem.Spec
noncomputable def ixN (n:Nat) (i:Int):Option Nat:=if 0≤i then (if i<n then some i.toNat else none) else if -(n:Int)≤i then some (i+n).toNat else none
def atI {α:Type} (xs:List α) (i:Int):Option α:=(ixN xs.length i).bind fun j=>xs[j]?
theorem zaq6 {n:Nat}{i:Int}{j:Nat} (h:ixN n i=some j):seqIndex? i n=some j∧j<n ∧ -(n:Int)≤i∧i<n:=by
 unfold ixN at h
 by_cases h0:0≤i
 ·rw [if_pos h0]at h
  by_cases h1:i<n
  ·rw [if_pos h1]at h
   have e:i.toNat=j:=Option.some.inj h
   exact⟨by rw [seqIndex_of h0 h1,e],by lia,by lia,h1⟩
  ·rw [if_neg h1]at h;cases h
 ·rw [if_neg h0]at h
  by_cases h1 : -(n:Int)≤i
  ·rw [if_pos h1]at h
   have e:(i+n).toNat=j:=Option.some.inj h
   exact⟨by rw [seqIndex_neg (by lia) h1,e],by lia,h1,by lia⟩
  ·rw [if_neg h1]at h;cases h
theorem zav0 {α:Type}{xs:List α}{i:Int}{v:α} (h:atI xs i=some v):∃j,seqIndex? i xs.length=some j∧xs[j]?=some v∧j<xs.length ∧ -(xs.length:Int)≤i∧i<xs.length:=by
 unfold atI at h
 cases e:ixN xs.length i with
 |none=>rw [e]at h;cases h
 |some j =>
  rw [e]at h
  obtain⟨h1,h2,h3,h4⟩:=zaq6 e
  exact⟨j,h1,h,h2,h3,h4⟩
def zav2 (b:Expr):Prop := ∀o i,subscripted b false o i=operate [o,i] (getItem o i)
noncomputable def IxR (X:Cx) (r:R2):Prop :=
 ∀(value slice:Expr) (pins:List (Addr×Obj)) (s:zaw4) (σ:St) (H:Hp) (x y:V) (v u:Value) (Q:VK),Inv X pins σ H s→RelV x v→RelV y u→r x y H Q →
  subscripted slice false v u=operate [v,u] (getItem v u)→wpAny (model X.prog X.w) X.A (subscriptTail value slice v u) (EP X pins σ Q) X.xe s
noncomputable def MtR (X:Cx) (id:String) (r:V→List V→Hp→VK→Prop):Prop :=
 ∀(pins:List (Addr×Obj)) (s:zaw4) (σ:St) (H:Hp) (x:V) (xs:List V) (v:Value) (us:List Value) (Q:VK),Inv X pins σ H s→RelV x v→Vals xs us→r x xs H Q →
  wpAny (model X.prog X.w) X.A (call (.builtin id) (v::us)) (EP X pins σ Q) X.xe s
section
variable {X:Cx}{a b:Expr}{ta tb:TE}{pos:Pos}
theorem IxR.or {r r':R2} (h:IxR X r) (h':IxR X r'):IxR X (fun x y H Q=>r x y H Q∨r' x y H Q):=by
 intro value slice pins s σ H x y v u Q I rx ry q hs
 rcases q with q | q
 ·exact h value slice pins s σ H x y v u Q I rx ry q hs
 ·exact h' value slice pins s σ H x y v u Q I rx ry q hs
theorem pe_ix {r:R2} (hr:IxR X r) (ha:PE X a ta) (hb:PE X b tb) (hs:zav2 b):PE X (.Subscript a b pos) (tOp r ta tb):=by
 intro pins s σ H Q I h
 exact Subscript_ (binT ha hb I h fun v u s2 x y H2 I2 rx ry q=>hr a b pins s2 σ H2 x y v u Q I2 rx ry q (hs _ _))
def rIxL (K:zav4):R2:=fun x y H Q => ∃p xs i v,x=.ref p∧y=.int i∧SqL K H p xs∧atI xs i=some v∧Q v H
def rIxT (K:zav4):R2:=fun x y H Q => ∃p xs i v,x=.ref p∧y=.int i∧SqT K H p xs∧atI xs i=some v∧Q v H
theorem ix_list:IxR X (rIxL X.K):=by
 intro value slice pins s σ H x y v u Q I rx ry h hs
 obtain⟨p,xs,i,z,rfl,rfl,hq,he,q⟩:=h
 cases rx
 obtain⟨t,rfl⟩:=ry
 obtain⟨its,r,pl,hz⟩:=I.list hq
 obtain⟨j,h1,h2,h3,h4,h5⟩:=zav0 he
 obtain⟨w,ew,rw'⟩:=r.get h2
 have hl:=r.length
 have hn:=zap8
 have fin:EP X pins σ Q w s:=⟨z,H,I,rw',q⟩
 by_cases h0:0≤i
 ·have hj:i.toNat=j:=by
   rw [seqIndex_of h0 h5]at h1
   exact Option.some.inj h1
  exact item_listR pl.isList h0 (by lia) (by rw [hj];simpa using ew) fin hs
 ·have hj:(i+(its.toArray.size:Int)).toNat=j:=by
   rw [seqIndex_neg (by lia) h4]at h1
   rw [zax9, ← hl]
   exact Option.some.inj h1
  exact subscriptTail_builtinR (x:=w) pl.isList.typeIs slot_list_getitem.lookup
   (wpAny_getItem_list_neg (Q:=fun r s'=>r=w∧EP X pins σ Q r s') pl.isList (by lia) (by rw [zax9]<;>lia) (by lia) (by rw [hj];simpa using ew) ⟨rfl,fin⟩) hs
theorem ix_tup:IxR X (rIxT X.K):=by
 intro value slice pins s σ H x y v u Q I rx ry h hs
 obtain⟨p,xs,i,z,rfl,rfl,hq,he,q⟩:=h
 cases rx
 obtain⟨t,rfl⟩:=ry
 obtain⟨its,r,pl,hz⟩:=I.tuple hq
 obtain⟨j,h1,h2,h3,h4,h5⟩:=zav0 he
 obtain⟨w,ew,rw'⟩:=r.get h2
 have hl:=r.length
 have hn:=zap8
 have fin:EP X pins σ Q w s:=⟨z,H,I,rw',q⟩
 exact subscriptTail_builtinR (x:=w) pl.typeIs slot_tuple_getitem.lookup
  (getItem_tuple (j:=j) (Q:=fun r s'=>r=w∧EP X pins σ Q r s') pl (by lia) (by lia) (by rw [zax9, ← hl];exact h1) (by simpa using ew) ⟨rfl,fin⟩) hs
theorem Inv.lst {pins:List (Addr×Obj)}{σ:St}{H:Hp}{s:zaw4}{p:Addr}{xs:List V} (I:Inv X pins σ H s) (h:H p=some (.lst xs)) :
  ∃(its:List Value) (n:Nat),Vals xs its∧s.heap.get? p=some { cls:=.type "list",data:=.seq its.toArray n }∧xs.length≤sizeLine:=by
 obtain⟨z,its,n,r,e⟩:=I.hok p _ h
 exact⟨its,n,r,e,z⟩
theorem zv7 (lo hi:Option Int) (n:Nat):(sliceBounds lo hi none n).1=((HT.sIx n 0 lo:Nat):Int)∧(sliceBounds lo hi none n).2.1=((HT.sIx n n hi:Nat):Int)∧(sliceBounds lo hi none n).2.2=1:=by
 refine⟨?_,?_,rfl⟩
 ·cases lo with
  |none=>simp [sliceBounds,HT.sIx]
  |some i =>
   simp only [sliceBounds,HT.sIx,zbl5,show (1:Int) > 0 by decide,if_true]
   by_cases h:i<0
   ·simp only [h,if_true]<;>lia
   ·simp only [h,if_false]<;>lia
 ·cases hi with
  |none=>simp [sliceBounds,HT.sIx]
  |some i =>
   simp only [sliceBounds,HT.sIx,zbl5,show (1:Int) > 0 by decide,if_true]
   by_cases h:i<0
   ·simp only [h,if_true]<;>lia
   ·simp only [h,if_false]<;>lia
theorem zr9 (its:List Value) (lo hi:Option Int):slicePick its.toArray lo hi none=((its.drop (HT.sIx its.length 0 lo)).take (HT.sIx its.length its.length hi - HT.sIx its.length 0 lo)).toArray:=by
 obtain⟨h1,h2,h3⟩:=zv7 lo hi its.toArray.size
 unfold slicePick
 rw [h1,h2,h3]
 simp only [sliceRange_one,pick_run,zax9]<;>rfl
noncomputable def rSlL (K:zav4):V→Option Int→Option Int→Hp→VK→Prop:=fun x lo hi H Q => ∃a xs,x=.ref a∧SqL K H a xs∧∀p,H p=none→Q (.ref p) (upd H p (.lst (cutV xs lo hi)))
theorem sl_list:SlR X (rSlL X.K):=by
 intro pins s σ H x v vl vu lo hi sl Q I rx hs pl pu h
 obtain⟨a,xs,rfl,hx,q⟩:=h
 cases rx
 obtain⟨its,r,ht,hz⟩:=I.list hx
 have hlen:=r.length
 refine⟨"list",_,slot_list_getitem.lookup,ht.isList.typeIs,?_⟩
 refine wpAny_getItem_list_slice ht.isList hs pl pu .none (by simp) ?_ (by rw [zax9]<;>lia)
 rw [zr9, ← hlen]
 refine⟨.ref s.heap.objs.size,_,I.laid (t':=s.toks) (o:=.lst (cutV xs lo hi)) (fun b ob q=>zav7 _ q) (zaw7 _) ?_,rfl,q _ (I.hok.fresh (zaw7 _))⟩
 exact⟨zaz5 (zac7 xs lo hi) hz,_,0,(r.drop (HT.sIx xs.length 0 lo)).take (HT.sIx xs.length xs.length hi - HT.sIx xs.length 0 lo),zax2 _ rfl⟩
def zl1:V→Bool
 |.non=>true
 |.bl _=>true
 |.int _=>true
 |.str _=>true
 |_=>false
noncomputable def eqV:V→V→Bool
 |.non,.non=>true
 |.bl a,.bl b=>a == b
 |.bl a,.int b=>(if a then 1 else 0) == b
 |.int a,.bl b=>a ==(if b then 1 else 0)
 |.int a,.int b=>a == b
 |.str a,.str b=>a == b
 |_,_=>false
theorem zas0 {A:Around}{s:zaw4}{y x:V}{u v:Value} (ry:RelV y u) (rx:RelV x v) (fy:zl1 y=true) (fx:zl1 x=true):SeqAt.EqAt A s u v (eqV y x):=by
 cases y with
 |non =>
  cases ry
  cases x with
  |non=>cases rx;exact SeqAt.EqAt.same _
  |bl b=>cases rx;exact SeqAt.EqAt.none_bool b
  |int b=>obtain⟨t,rfl⟩:=rx;exact SeqAt.EqAt.none_int b t
  |str b=>obtain⟨t,rfl⟩:=rx;exact SeqAt.EqAt.none_str b t
  |_=>exact absurd (show false=true from fx) zax5
 |bl a =>
  cases ry
  cases x with
  |non=>cases rx;exact SeqAt.EqAt.bool_none a
  |bl b=>cases rx;exact SeqAt.EqAt.bool_bool a b
  |int b=>obtain⟨t,rfl⟩:=rx;exact SeqAt.EqAt.bool_int a b t
  |str b=>obtain⟨t,rfl⟩:=rx;exact SeqAt.EqAt.bool_str a b t
  |_=>exact absurd (show false=true from fx) zax5
 |int a =>
  obtain⟨t',rfl⟩:=ry
  cases x with
  |non=>cases rx;exact SeqAt.EqAt.int_none a t'
  |bl b=>cases rx;exact SeqAt.EqAt.int_bool a t' b
  |int b=>obtain⟨t,rfl⟩:=rx;exact SeqAt.EqAt.int_int a t' b t
  |str b=>obtain⟨t,rfl⟩:=rx;exact SeqAt.EqAt.int_str a t' b t
  |_=>exact absurd (show false=true from fx) zax5
 |str a =>
  obtain⟨t',rfl⟩:=ry
  cases x with
  |non=>cases rx;exact SeqAt.EqAt.str_none a t'
  |bl b=>cases rx;exact SeqAt.EqAt.str_bool a t' b
  |int b=>obtain⟨t,rfl⟩:=rx;exact SeqAt.EqAt.str_int a t' b t
  |str b=>obtain⟨t,rfl⟩:=rx;exact SeqAt.EqAt.str_str a t' b t
  |_=>exact absurd (show false=true from fx) zax5
 |_=>exact absurd (show false=true from fy) zax5
noncomputable def eqU (x:V) (u:Value):Bool:=match u with
 |.none=>eqV .non x
 |.bool b=>eqV (.bl b) x
 |.int i _=>eqV (.int i) x
 |.str z _=>eqV (.str z) x
 |_=>false
theorem eqU_of {x y:V}{u:Value} (r:RelV y u) (f:zl1 y=true):eqU x u=eqV y x:=by
 cases y with
 |non=>cases r;rfl
 |bl b=>cases r;rfl
 |int i=>obtain⟨t,rfl⟩:=r;rfl
 |str z=>obtain⟨t,rfl⟩:=r;rfl
 |_=>exact absurd (show false=true from f) zax5
theorem zad3 {x:V}:∀ {xs:List V}{us:List Value},Vals xs us→xs.all zl1=true→us.any (eqU x)=xs.any fun y=>eqV y x
 |_,_,.nil,_=>rfl
 |y::xs,u::us,.cons r t,f=>by
  rw [zaz6,zaw5]at f
  rw [zba5,zba5,eqU_of r f.1,zad3 t f.2]
theorem zt2 {A:Around}{s:zaw4}{x:V}{v:Value} (rx:RelV x v) (fx:zl1 x=true):∀ {xs:List V}{us:List Value},Vals xs us→xs.all zl1=true→∀u∈us,SeqAt.EqAt A s u v (eqU x u)
 |_,_,.nil,_=>fun u hu=>by cases hu
 |y::xs,u::us,.cons r t,f=>fun u' hu=>by
  rw [zaz6,zaw5]at f
  rcases zaw6.mp hu with rfl | hu
  ·rw [eqU_of r f.1];exact zas0 r rx f.1 fx
  ·exact zt2 rx fx t f.2 u' hu
def inV (x:V) (xs:List V):Bool:=xs.any fun y=>eqV y x
noncomputable def rIn (K:zav4) (neg:Bool):R2:=fun x y H Q => ∃p xs,y=.ref p∧(SqL K H p xs∨SqT K H p xs)∧zl1 x=true∧xs.all zl1=true∧Q (.bl (if neg then !inV x xs else inV x xs)) H
theorem zw8:OpR X (compareOp .In) (rIn X.K false):=by
 intro pins s σ H x y v u Q I rx ry h
 obtain⟨p,xs,rfl,hq,fx,fs,q⟩:=h
 cases ry
 rcases hq with hq | hq
 ·obtain⟨its,r,pl,hz⟩:=I.list hq
  refine SeqAt.in_listAt (eqU x) pl.isList (fun w hw=>zt2 rx fx r fs w (by simpa using hw)) ⟨.bl _,H,I,rfl,?_⟩
  rw [show its.toArray.any (eqU x)=its.any (eqU x) by simp,zad3 r fs]
  exact q
 ·obtain⟨its,r,pl,hz⟩:=I.tuple hq
  refine SeqAt.in_tupleAt (eqU x) pl (fun w hw=>zt2 rx fx r fs w (by simpa using hw)) ⟨.bl _,H,I,rfl,?_⟩
  rw [show its.toArray.any (eqU x)=its.any (eqU x) by simp,zad3 r fs]
  exact q
theorem zz4:zl5 X (.builtin "len") (fun xs H Q => ∃p ys,xs=[.ref p]∧(SqL X.K H p ys∨SqT X.K H p ys)∧Q (.int ys.length) H):=by
 intro pins s σ H xs us Q I r h
 obtain⟨p,ys,rfl,hq,q⟩:=h
 obtain⟨u,rfl,rx⟩:=zv2 r
 cases rx
 have hn:=zap8
 rcases hq with hq | hq
 ·obtain⟨its,r',pl,hz⟩:=I.list hq
  have hlen:=r'.length
  exact Calls.call_len_list pl.isList (by simp only [zax9]<;>lia) ⟨.int ys.length,H,I.tok _,⟨s.toks+1,by rw [zax9,hlen]⟩,q⟩
 ·obtain⟨its,r',pl,hz⟩:=I.tuple hq
  have hlen:=r'.length
  exact len_tuple pl (by simp only [zax9]<;>lia) ⟨.int ys.length,H,I.tok _,⟨s.toks+1,by rw [zax9,hlen]⟩,q⟩
theorem zu9:zl5 X (.type "tuple") (fun xs H Q => ∃p ys,xs=[.ref p]∧((SqL X.K H p ys∧∀l,H l=none→Q (.ref l) (upd H l (.tup ys)))∨(SqT X.K H p ys∧Q (.ref p) H))):=by
 intro pins s σ H xs us Q I r h
 obtain⟨p,ys,rfl,h⟩:=h
 obtain⟨u,rfl,rx⟩:=zv2 r
 cases rx
 rcases h with ⟨hq,q⟩ | ⟨hq,q⟩
 ·obtain⟨its,r',pl,hz⟩:=I.list hq
  have hlen:=r'.length
  refine call_tuple_list pl.isList (fun h' kp=>?_) (by simp only [zax9]<;>lia)
  have I1:Inv X pins σ H { s with heap:=h' }:=I.kept (t':=s.toks) kp
  have I2:Inv X pins σ (upd H h'.objs.size (.tup ys)) { s with heap:=h'.push { cls:=.type "tuple",data:=.seq its.toArray } } :=
   I1.laid (t':=s.toks) (fun b o e=>zav7 _ e) (zaw7 _) (show ObjOk X.prog X.w _ _ _ (.tup ys) from ⟨hz,its,r',IsTup.new _ _⟩)
  exact⟨.ref h'.objs.size,_,I2,rfl,q _ (I1.hok.fresh (zaw7 _))⟩
 ·obtain⟨its,r',pl,hz⟩:=I.tuple hq
  exact call_tuple_same pl ⟨.ref p,H,I,rfl,q⟩
noncomputable def tyV (K:zav4) (T:String) (x:V) (H:Hp):Prop:=match x with
 |.str _=>T = "str"
 |.int _=>T = "int"
 |.ref p=>(T = "list"∧∃xs,SqL K H p xs)∨(T = "tuple"∧∃o,K.lookup p=some o∧o.cls=.type "tuple"∧o.dict=none) ∨
   (T = "dict"∧((∃kvs,H p=some (.dK kvs))∨∃kvs,H p=some (.dT kvs)))∨(T = "set"∧∃S n,H p=some (.set S n))
 |_=>False
theorem tyV_is {pins:List (Addr×Obj)}{σ:St}{H:Hp}{s:zaw4}{T:String}{x:V}{v:Value} (I:Inv X pins σ H s) (r:RelV x v) (ty:tyV X.K T x H) :
  s.TypeIs v T∧∀a,v=.ref a→∃ob,s.heap.get? a=some ob∧ob.dict=none:=by
 cases x with
 |str z =>
  obtain⟨t,rfl⟩:=r
  cases (show T = "str" from ty)
  exact⟨typeIs_str s z t,fun _ e=>nomatch e⟩
 |int i =>
  obtain⟨t,rfl⟩:=r
  cases (show T = "int" from ty)
  exact⟨typeIs_int s i t,fun _ e=>nomatch e⟩
 |ref p =>
  cases r
  rcases ty with ⟨rfl,xs,hq⟩ | ⟨rfl,o,hk,hc,hd⟩ | ⟨rfl,hk⟩ | ⟨rfl,S,n,hk⟩
  ·obtain⟨its,_,pl,_⟩:=I.list hq
   refine⟨pl.isList.typeIs,fun a e=>?_⟩
   cases e
   obtain⟨o,n,e,c,hd,_⟩:=pl
   exact⟨o,e,hd⟩
  ·refine⟨⟨o,I.kIn p o hk,hc⟩,fun a e=>?_⟩
   cases e
   exact⟨o,I.kIn _ o hk,hd⟩
  ·have z:∃o,s.heap.get? p=some o∧o.ExactDict:=by
    rcases hk with ⟨kvs,hk⟩ | ⟨kvs,hk⟩
    ·obtain⟨_,_,_,_,o,_,_,e,ex,_⟩:=I.hok p _ hk
     exact⟨o,e,ex⟩
    ·obtain⟨_,_,_,_,o,_,_,e,ex,_⟩:=I.hok p _ hk
     exact⟨o,e,ex⟩
   obtain⟨o,e,ex⟩:=z
   refine⟨⟨o,e,ex.1⟩,fun a e2=>?_⟩
   cases e2
   exact⟨o,e,ex.2.1⟩
  ·obtain⟨o,_,_,_,e,ex,_⟩:=I.hok p _ hk
   refine⟨⟨o,e,ex.1⟩,fun a e2=>?_⟩
   cases e2
   exact⟨o,e,ex.2.1⟩
 |_=>exact False.elim ty
noncomputable def tBM (K:zav4) (T:String) (r:V→List V→Hp→VK→Prop) (to:TE) (t:TA):TE:=fun σ H Q=>to σ H fun x H1=>tyV K T x H1∧t σ H1 fun xs H2=>r x xs H2 Q
variable {o e:Expr}{es:List Expr}{to:TE}{t:TA}{name:Str}{apos cpos:Pos}{T id:String}{r:V→List V→Hp→VK→Prop}
theorem pe_bm (pa:PlainAttrs T) (slot:Slot T name id) (hty:typeOf (.builtin id)=pure (.type "method_descriptor")) (hm:MtR X id r) (ho:PE X o to) (ha:PA X (e::es) t)
  (hbase:attributeBase o name X.env (eval o X.env)=eval o X.env:=by rfl)
  (hfew:((zbe1 cpos (zax8 (e::es) X.env)).all (fun x=>!x.1)&&(backToKw cpos (keywordEach [] X.env)).all (fun x=>x.1.isSome)
   && decide ((e::es).length+([]:List Keyword).length+(if ([]:List Keyword).isEmpty then 0 else 1)<30))=true:=by rfl)
  (hline:(apos.endLine == cpos.line)=true:=by rfl) (hs:zax8 (e::es) X.env=(false,eval e X.env)::zax8 es X.env:=by rfl) (hplain:(zbe1 cpos (zax8 es X.env)).any (·.1)=false:=by rfl) :
  PE X (.Call (.Attribute o name apos) (e::es) [] cpos) (tBM X.K T r to t):=by
 intro pins s σ H Q I h
 refine wpAny_Call_method_late hbase hfew hline rfl (thn (ho pins s σ H _ I h) fun v s1 ⟨x,H1,I1,r1,ty,q1⟩=>?_)
 obtain⟨h1,h2⟩:=tyV_is I1 r1 ty
 refine⟨T,id,pa,slot,hty,h1,h2,?_⟩
 have hA:=ha cpos pins s1 σ H1 _ I1 q1
 rw [hs]at hA ⊢
 refine Calls.callWith_builtin (by show (false||(zbe1 cpos (zax8 es X.env)).any (·.1))=false;rw [hplain]<;>rfl) (Calls.evalArgs_plain ?_)
 exact thn hA fun us s2 ⟨vs,H2,I2,r2,q2⟩=>hm pins s2 σ H2 x vs v us Q I2 r1 r2 q2
end
end L2
namespace L2
open PySem.Spec
noncomputable def MtM (X:Cx) (id:String) (r:V→List V→Hp→VK→Prop):Prop :=
 ∀(pins:List (Addr×Obj)) (s:zaw4) (σ:St) (H:Hp) (x:V) (xs:List V) (v:Value) (us:List Value) (Q:VK),Inv X pins σ H s→RelV x v→Vals xs us→r x xs H Q →
  wpAny (model X.prog X.w) X.A (call (.builtin id) (v::us)) (EP X pins σ Q) X.xe s
theorem Vals.one:∀ {x:V}{us:List Value},Vals [x] us→∃u,us=[u]∧RelV x u
 |_,_,.cons r .nil=>⟨_,rfl,r⟩
theorem Vals.two:∀ {x y:V}{us:List Value},Vals [x,y] us→∃u v,us=[u,v]∧RelV x u∧RelV y v
 |_,_,_,.cons r (.cons q .nil)=>⟨_,_,rfl,r,q⟩
theorem Vals.eraseIdx:∀ {xs:List V}{us:List Value} (i:Nat),Vals xs us→Vals (xs.eraseIdx i) (us.eraseIdx i)
 |_,_,_,.nil=>.nil
 |_,_,0,.cons _ t=>t
 |_,_,i+1,.cons r t=>.cons r (Vals.eraseIdx i t)
theorem Vals.reverse {xs:List V}{us:List Value} (h:Vals xs us):Vals xs.reverse us.reverse:=by
 induction h with
 |nil=>exact .nil
 |cons r t ih=>rw [zbe0,zbe0];exact Vals.append ih (.cons r .nil)
theorem Vals.rep {xs:List V}{us:List Value} (h:Vals xs us):∀k:Nat,Vals (zax4 k xs).flatten (zax4 k us).flatten
 |0=>.nil
 |k+1=>by
  rw [zaz4,zaz4,zba9,zba9]
  exact Vals.append h (Vals.rep h k)
theorem zx4 {α:Type}:∀(l:List α) (i:Nat),(l.eraseIdx i).length≤l.length
 |[],_=>zaw7 _
 |_::_,0=>zbh0 _
 |_::r,i+1=>Nat.succ_le_succ (zx4 r i)
theorem zy3 (its:List Value):∀(k:Nat) (acc:List Value),
  zbo6 (fun x1 x2=>x1++x2) acc.toArray (zax4 k its.toArray)=(acc++(zax4 k its).flatten).toArray
 |0,acc=>by simp
 |k+1,acc=>by
  have e:acc.toArray++its.toArray=(acc++its).toArray:=by simp
  have e2:(acc++its)++(zax4 k its).flatten=acc++(zax4 (k+1) its).flatten:=by
   rw [zaz4,zba9,zbb8]
  rw [← e2, ← zy3 its k (acc++its), ← e,zaz4,zbg8]
section
variable {X:Cx}{pins:List (Addr×Obj)}{σ:St}{H:Hp}{s:zaw4}{l b:Addr}{xs ys zs:List V}
theorem Inv.lset {its its':List Value}{n:Nat}{f:Array Value→Array Value}{t':Nat} (I:Inv X pins σ H s) (hH:H l=some (.lst xs))
  (e:s.heap.get? l=some { cls:=.type "list",data:=.seq its.toArray n }) (hf:f its.toArray=its'.toArray) (hv:Vals ys its') (hz:ys.length≤sizeLine) :
  Inv X pins σ (upd H l (.lst ys)) { s with heap:=s.heap.update l (Obj.mapSeq f),toks:=t' }:=by
 have q:=PySem.IsL.update e f
 rw [hf]at q
 refine I.write (x:=l) (e:=l) (by rw [hH];exact trivial) (.inl rfl) (fun b' u hb hu=>(zaz1 s.heap (Obj.mapSeq f) (Ne.symm hb)).trans hu) ⟨_,q⟩ ?_
 exact⟨hz,its',_,hv,q⟩
theorem Inv.lnew {its:List Value}{t':Nat} (I:Inv X pins σ H s) (hv:Vals ys its) (hz:ys.length≤sizeLine) :
  Inv X pins σ (upd H s.heap.objs.size (.lst ys)) { s with heap:=s.heap.push { cls:=.type "list",data:=.seq its.toArray },toks:=t' } :=
 I.laid (fun _ _ q=>zav7 _ q) (zaw7 _) ⟨hz,its,0,hv,zax2 _ rfl⟩
theorem Inv.fresh (I:Inv X pins σ H s):H s.heap.objs.size=none:=I.hok.fresh (zaw7 _)
theorem Inv.lstM (I:Inv X pins σ H s) (hH:H l=some (.lst xs)):xs.length≤sizeLine∧∃(its:List Value) (n:Nat),Vals xs its∧xs.length=its.length∧s.heap.get? l=some { cls:=.type "list",data:=.seq its.toArray n }:=by
 obtain⟨z,its,n,r,e⟩:=I.hok l _ hH
 exact⟨z,its,n,r,r.length,e⟩
theorem notLongL {n:Nat} (h:n≤sizeLine):Builtin.List.listTooLong n=false:=by
 unfold Builtin.List.listTooLong
 exact decide_eq_false (by lia)
end
section
variable {X:Cx}
noncomputable def rAppend:V→List V→Hp→VK→Prop:=fun x vs H Q => ∃l xs y,x=.ref l∧vs=[y]∧H l=some (.lst xs)∧xs.length<sizeLine∧Q .non (upd H l (.lst (xs++[y])))
theorem zx2:MtM X "list.append" rAppend:=by
 intro pins s σ H x vs v us Q I rx rv h
 obtain⟨l,xs,y,rfl,rfl,hH,hz,q⟩:=h
 cases rx
 obtain⟨u,rfl,ru⟩:=rv.one
 obtain⟨z,its,n,r,hl,e⟩:=I.lstM hH
 refine call_meets F.slot_list_append ⟨_,e,rfl⟩ F.entry_list_append (F.args_list_append_2 _ _) (PySem.list_append l its.toArray n u (by rw [zax9];lia)) ⟨e,?_⟩
 refine⟨.non,_,I.lset (its':=its++[u]) hH e (by simp) (r.append (.cons ru .nil)) ?_,rfl,q⟩
 rw [zax7,zay6]
 lia
noncomputable def rRep:R2:=fun x y H Q => ∃l k xs,x=.ref l∧y=.int k∧H l=some (.lst xs) ∧ -(2 ^ 63)≤k∧k<2 ^ 63∧xs.length*k.toNat≤sizeLine ∧
 ∀p,H p=none→Q (.ref p) (upd H p (.lst (zax4 k.toNat xs).flatten))
theorem len_rep {α:Type} (xs:List α) (k:Nat):(zax4 k xs).flatten.length=k*xs.length:=by
 induction k with
 |zero=>simp
 |succ k ih=>rw [zaz4,zba9,zax7,ih,Nat.succ_mul,Nat.add_comm]
theorem op_rep:OpR X (binaryOp .Mult) rRep:=by
 intro pins s σ H x y v u Q I rx ry h
 obtain⟨l,k,xs,rfl,rfl,hH,h1,h2,hz,q⟩:=h
 cases rx
 obtain⟨t,rfl⟩:=ry
 obtain⟨z,its,n,r,hl,e⟩:=I.lstM hH
 have hlen:its.toArray.size*k.toNat≤sizeLine:=by rw [zax9, ← hl];exact hz
 have hcap : ¬ its.toArray.size*k.toNat >(2 ^ 63 - 1) / 8:=by
  have:(sizeLine:Nat)≤(2 ^ 63 - 1) / 8:=by decide
  lia
 have hfit : ¬ (!Builtin.List.listFitsIndex k)=true:=by
  rw [fitsIndex_both h1 h2]
  exact zax5
 have hlong : ¬ Builtin.List.listTooLong (its.toArray.size*k.toNat)=true:=by
  rw [notLongL hlen]
  exact zax5
 have hnew:zbo6 (fun x1 x2=>x1++x2) #[] (zax4 (if its.toArray.isEmpty=true then 0 else k.toNat) its.toArray)=(zax4 k.toNat its).flatten.toArray:=by
  have f0:∀m:Nat,zbo6 (fun x1 x2=>x1++x2) #[] (zax4 m its.toArray)=(zax4 m its).flatten.toArray:=fun m=>by
   have:=zy3 its m []
   rw [zbd5]at this
   exact this
  rw [f0]
  cases its with
  |nil=>simp
  |cons a r'=>rw [if_neg (by simp)]
 refine wpAny_binaryOp_repeat_ref (T := "list") (U := "int") (by decide) ⟨_,e,rfl⟩ (fun s'=>typeIs_int s' k t) noFill_list_mul F.fills_int_mul F.slot_int_rmul repeat_list F.slot_int_index.lookup
  (call_meets F.slot_int_rmul (typeIs_int s k t) F.entry_int_rmul (F.args_int_rmul_2 _ _) (int___rmul___int_list k t l its.toArray n)
   ⟨e,rfl,⟨_,e,rfl⟩,call_meets F.slot_list_mul ⟨_,e,rfl⟩ F.entry_list_mul (F.args_list_mul_2 _ _) (AutoListH.list___mul___list_int_3 l its.toArray n k t hfit hcap hlong) ⟨e,?_⟩⟩)
 rw [hnew]
 exact⟨.ref _,_,I.lnew (t':=s.toks) (r.rep k.toNat) (by rw [len_rep,zbl6];exact hz),rfl,q _ I.fresh⟩
theorem del_list {pins:List (Addr×Obj)}{s:zaw4}{σ:St}{H:Hp}{l:Addr}{xs:List V}{i:Int}{t:Tok}{k:Nat}{Q:Unit→zaw4→Prop} (I:Inv X pins σ H s) (hH:H l=some (.lst xs))
  (h1 : -(2 ^ 63)≤i) (h2:i<2 ^ 63) (hk:seqIndex? i xs.length=some k) (h:∀s',Inv X pins σ (upd H l (.lst (xs.eraseIdx k))) s'→Q () s') :
  wpAny (model X.prog X.w) X.A (delItem (.ref l) (.int i t)) Q X.xe s:=by
 obtain⟨z,its,n,r,hl,e⟩:=I.lstM hH
 refine PySem.P.delItem_list (k:=k) e (fitsIndex_both h1 h2) (by rw [zax9, ← hl];exact hk) (h _ ?_) (by rw [zax9];lia)
 refine I.lset (its':=its.eraseIdx k) (t':=s.toks) hH e ?_ (r.eraseIdx k) ?_
 ·show its.toArray.eraseIdxIfInBounds k=(its.eraseIdx k).toArray
  rw [zbf6]
 ·have:=zx4 xs k
  lia
end
end L2
namespace Att
open PySem.W PySem.Calls
theorem zo7 {P:Params}{h:Heap}:∀(ns:List Int) (vs:List Value),WellAll P h vs (ns.map WData.int)→IntsAre vs ns:=by
 intro ns
 induction ns with
 |nil =>
  intro vs w
  rw [zbe2]at w
  cases w
  exact .nil
 |cons n ns ih =>
  intro vs w
  rw [zax1]at w
  cases w with
  |cons a b =>
   cases a
   exact .cons _ _ (ih _ b)
theorem script_of {l:OpenLaw}{n:Nat} (hn:l.most=some n) {P:Params}{h:Heap}{args:List WData}{vals:List Value}
  (hpre:l.row.toRowW.claim.pre args=true) (hwl:WellAll P h vals args) :
  ∃a vs ns,vals=[Value.ref a]∧args=[WData.list (ns.map WData.int)]∧h.get? a=some { cls:=.type "list",data:=.seq vs.toArray }∧IntsAre vs ns∧ns.length≤n:=by
 have hsh:WShape.hasAll [] args [.list .int]=true:=(pre_splitW hpre).1
 have hc:l.pre.holds [] { args:=args }=true:=(pre_splitW hpre).2
 obtain⟨d,r,rfl,h1,h2⟩:=hasAllW_cons hsh
 obtain rfl:=hasAllW_nil h2
 obtain⟨xs,rfl,h3⟩:=hasW_list h1
 obtain⟨ns,rfl⟩:=items_int h3
 have hlen:ns.length≤n:=by
  unfold OpenLaw.pre at hc
  have h4:(WTm.not (.lt (.lit (.int (n:Int))) (.len (.arg 0)))).holds [] { args:=[.list (ns.map .int)] }=true:=by
   have h4:=(holds_andW hc).1
   rw [hn]at h4
   exact h4
  have h5:=condW_of h4 (w_not (w_lt w_lit (w_len_list (w_arg rfl))))
  rw [zay5]at h5
  refine Nat.le_of_not_lt fun q=>?_
  have q':(n:Int)<((ns.length:Nat):Int):=by lia
  first
   |(rw [decide_eq_true q']at h5;exact absurd h5 (by decide))
   |(simp at h5;lia)
 cases hwl with
 |cons w1 w2 =>
  cases w2
  cases w1 with
  |list ho hall=>exact⟨_,_,ns,rfl,rfl,ho,zo7 ns _ hall,hlen⟩
theorem post_true (l:OpenLaw) (args:List WData):l.row.toRowW.claim.post args (.bool true) args=true :=
 postW_of (r:=l.row.toRowW) (X:=(true == true))
  (show WShape.has [] (.bool true) .bool=true by first | rfl | decide | simp [WShape.has,WShape.arms,WShape.armsAll])
  (show (WTm.eq .res (.lit (.bool true))).value [] { args:=args,res:=some (.bool true),after:=args }=some (.bool (true == true)) from w_eq_bool (w_res rfl) w_lit) rfl
end Att
namespace L2
open PySem.Spec
theorem zk0:∀ {vs:List Value}{ns:List Int},IntsAre vs ns→Vals (ns.map V.int) vs
 |_,_,.nil=>.nil
 |_,_,.cons n t h=>.cons ⟨t,rfl⟩ (zk0 h)
noncomputable def zf7 (s:Stmt):Arguments:=match s with
 |.FunctionDef _ a _ _ _ _ _ _ _ _=>a
 |_=>{ posonlyargs:=[],args:=[],vararg:=none,kwonlyargs:=[],kw_defaults:=[],kwarg:=none,defaults:=[] }
def ze2 (s:Stmt):List Stmt:=match s with
 |.FunctionDef _ _ b _ _ _ _ _ _ _=>b
 |_=>[]
noncomputable def zb1 (s:Stmt):Scope:=match s with
 |.FunctionDef _ _ _ _ _ _ sc _ _ _=>sc
 |_=>{ kind:=.function,names:=[],isGenerator:=false,isCoroutine:=false }
abbrev CX0:CXT:=fun _ _ _ _ _ _=>False
abbrev E0:XK:=fun _ _ _=>False
theorem pass0 {X:Cx}:zav3 CX0 X E0:=fun _ _ _ _ _ _ _ h=>h.elim
structure Fun (K:zav4) (x qual:Str) (st:Stmt) (f:Addr) (fd:FuncData):Prop where
 ex:∃(oc:Value) (od:Option Addr) (kV doc pm:Value) (an:Option Addr) (cdv ct:Value) (osl:Array (Option Value)),
  fd=zba8 x qual (zf7 st) (ze2 st) (zb1 st) .none kV doc pm an cdv ct∧K.lookup f=some ⟨oc,od,.func fd,osl⟩∧zbg0 K cdv qual=true
 kp:zba4 K (.ref f)=true
section
variable {P:Program}{w:World}{K:zav4}{mg:Str→Option Value}{base:BHeap}
theorem Fun.ok {x qual:Str}{st:Stmt}{f:Addr}{fd:FuncData}{N ps:List Str}{k:Nat}{sp:Sp} (F:Fun K x qual st f fd) (S:FnScope N ps (zb1 st)) (len:∀vs H Q E,sp vs H Q E→vs.length=ps.length)
  (hbody:∀(cdv:Value) (A:Around) (outer:List Env) (s:zaw4) (H:Hp) (vs:List V) (Q:VK) (E:XK),Room k (A.deeper (envOfC qual (zb1 st) s.heap.objs.size f cdv))→sp vs H Q E →
   ∃t,PSs (cxOf CX0 P w K mg base N qual (zb1 st) f cdv A outer s H E).nox (ze2 st) t∧t { nx:=fun _ H'=>Q .non H',rt:=Q } (start N vs) H):FnOk P w K mg base CX0 (k+1) f fd ps sp:=by
 obtain⟨oc,od,kV,doc,pm,an,cdv,ct,osl,rfl,lk,hcd⟩:=F.ex
 refine fn_of lk hcd S len fun A outer s H vs Q E hr hsp=>?_
 obtain⟨t,h,q⟩:=hbody cdv A outer s H vs Q E hr hsp
 exact⟨t,h.nox,q⟩
theorem Fun.binds {x qual:Str}{st:Stmt}{f:Addr}{fd:FuncData}{ps:List Str} (F:Fun K x qual st f fd)
  (h:∀(kV doc pm:Value) (an:Option Addr) (cdv ct:Value) (us:List Value),us.length=ps.length→bindArgs (zba8 x qual (zf7 st) (ze2 st) (zb1 st) .none kV doc pm an cdv ct) ⟨us,[]⟩=pure (ps.zip us)):Binds K fd ps []:=by
 obtain⟨oc,od,kV,doc,pm,an,cdv,ct,osl,rfl,lk,hcd⟩:=F.ex
 exact .all (h kV doc pm an cdv ct)
theorem zar4 {x qual:Str}{st:Stmt}{f:Addr}{oc:Value}{od an:Option Addr}{osl:Array (Option Value)}{kV doc pm cdv ct:Value} (l:K.lookup f=some ⟨oc,od,.func (zba8 x qual (zf7 st) (ze2 st) (zb1 st) .none kV doc pm an cdv ct),osl⟩)
  (c:zbg0 K cdv qual=true) (k:zba4 K (.ref f)=true):Fun K x qual st f (zba8 x qual (zf7 st) (ze2 st) (zb1 st) .none kV doc pm an cdv ct):=⟨⟨oc,od,kV,doc,pm,an,cdv,ct,osl,rfl,l,c⟩,k⟩
end
theorem iteF {A B:Prop} (h:B):if false=true then A else B:=by
 rw [if_neg zax5]
 exact h
theorem iteT {A B:Prop} (h:A):if true=true then A else B:=by
 rw [if_pos rfl]
 exact h
def Same (H H':Hp):Prop := ∀b o,H b=some o→H' b=some o
theorem Same.refl (H:Hp):Same H H:=fun _ _ h=>h
theorem Same.trans {H H1 H2:Hp} (a:Same H H1) (b:Same H1 H2):Same H H2:=fun c o h=>b c o (a c o h)
theorem Same.free {H H':Hp} (e:Same H H') {l:Addr} (h:H' l=Option.none):H l=Option.none:=by
 cases q:H l with
 |none=>rfl
 |some o =>
  rw [e l o q]at h
  cases h
theorem Same.seq {K:zav4}{H H':Hp}{a:Addr}{xs:List V} (e:Same H H') (h:SqL K H a xs):SqL K H' a xs:=by
 rcases h with (h | ⟨o,h⟩) |h
 ·exact .inl (.inl (e _ _ h))
 ·exact .inl (.inr ⟨o,e _ _ h⟩)
 ·exact .inr h
end L2
set_option maxHeartbeats 4000000
namespace L2
open PySem.Spec
section
variable {κ:Type} [DecidableEq κ]
def valV (kvs:List (κ×V)) (k:κ):Option V:=(kvs.find? fun kv=>decide (kv.1=k)).map (·.2)
noncomputable def putK (kvs:List (κ×V)) (k:κ) (v:V):List (κ×V) :=
 if (kvs.any fun kv=>decide (kv.1=k))=true then kvs.map (fun kv=>if kv.1=k then (kv.1,v) else kv) else kvs++[(k,v)]
def zac2 (kvs:List (κ×V)) (k:κ):List (κ×V):=kvs.filter fun kv=>decide (kv.1≠k)
theorem zi2 {p:κ×V}{r:List (κ×V)}{k:κ} (e:p.1=k):valV (p::r) k=some p.2:=by simp [valV,zbd6,e]
theorem zi3 {p:κ×V}{r:List (κ×V)}{k:κ} (e : ¬ p.1=k):valV (p::r) k=valV r k:=by simp [valV,zbd6,e]
theorem zr6 (k:κ):∀kvs:List (κ×V),(kvs.any fun kv=>decide (kv.1=k))=(valV kvs k).isSome
 |[]=>rfl
 |p::r=>by
  rw [zba5]
  by_cases e:p.1=k
  ·simp only [zi2 e,decide_eq_true e,Bool.true_or,zbk9]
  ·rw [zi3 e,decide_eq_false e,zbi5];exact zr6 k r
theorem zo2 (kvs:List (κ×V)) (k:κ) (v:V):(putK kvs k v).length≤kvs.length+1:=by
 unfold putK
 split
 ·rw [zay5];lia
 ·rw [zax7,zax6,zbc4];lia
theorem RelO.isSome_eq {o:Option V}{u:Option Value} (r:RelO o u):o.isSome=u.isSome:=by
 cases o with
 |none=>cases u with
  |none=>rfl
  |some _=>exact (show False from r).elim
 |some _=>cases u with
  |none=>exact (show False from r).elim
  |some _=>rfl
theorem RelO.getD {o:Option V}{u:Option Value}{d:V}{d':Value} (r:RelO o u) (rd:RelV d d'):RelV (o.getD d) (u.getD d'):=by
 cases o with
 |none=>cases u with
  |none=>exact rd
  |some _=>exact (show False from r).elim
 |some _=>cases u with
  |none=>exact (show False from r).elim
  |some _=>exact r
theorem KV.val {kvs:List (κ×V)}{vs:List (κ×Value)} (r:KV kvs vs) (k:κ):RelO (valV kvs k) (valueAt vs k):=by
 unfold KV at r
 induction r with
 |nil=>exact True.intro
 |@cons p q ps qs h t ih =>
  obtain⟨h1,h2⟩:=h
  by_cases e:p.1=k
  ·have e':q.1=k:=h1.symm.trans e
   have b:valueAt (q::qs) k=some q.2:=by simp [valueAt,zbd6,e']
   rw [zi2 e,b];exact h2
  ·have e' : ¬ q.1=k:=fun z=>e (h1.trans z)
   have b:valueAt (q::qs) k=valueAt qs k:=by simp [valueAt,zbd6,e']
   rw [zi3 e,b];exact ih
theorem KV.any {kvs:List (κ×V)}{vs:List (κ×Value)} (r:KV kvs vs) (k:κ):(kvs.any fun kv=>decide (kv.1=k))=vs.any fun kv=>decide (kv.1=k):=by
 unfold KV at r
 induction r with
 |nil=>rfl
 |cons h t ih=>rw [zba5,zba5,ih,h.1]
theorem KV.repl {kvs:List (κ×V)}{vs:List (κ×Value)} (r:KV kvs vs) (k:κ) {y:V}{u:Value} (ry:RelV y u) :
  KV (kvs.map fun kv=>if kv.1=k then (kv.1,y) else kv) (vs.map fun kv=>if kv.1=k then (kv.1,u) else kv):=by
 unfold KV at r ⊢
 induction r with
 |nil=>exact .nil
 |@cons p q ps qs h t ih =>
  rw [zax1,zax1]
  refine .cons ?_ ih
  obtain⟨h1,h2⟩:=h
  by_cases e:p.1=k
  ·rw [if_pos e,if_pos (h1.symm.trans e)];exact⟨h1,ry⟩
  ·rw [if_neg e,if_neg (fun z=>e (h1.trans z))];exact⟨h1,h2⟩
theorem KV.put {kvs:List (κ×V)}{vs:List (κ×Value)} (r:KV kvs vs) (k:κ) {y:V}{u:Value} (ry:RelV y u):KV (putK kvs k y) (stored vs k u):=by
 unfold putK stored
 rw [r.any k]
 by_cases e:(vs.any fun kv=>decide (kv.1=k))=true
 ·rw [if_pos e,if_pos e];exact r.repl k ry
 ·rw [if_neg e,if_neg e];exact Paired.snoc r ⟨rfl,ry⟩
theorem KV.drop {kvs:List (κ×V)}{vs:List (κ×Value)} (r:KV kvs vs) (k:κ):KV (zac2 kvs k) (without vs k):=by
 unfold KV at r ⊢
 unfold zac2 without
 induction r with
 |nil=>exact .nil
 |@cons p q ps qs h t ih =>
  obtain⟨h1,h2⟩:=h
  rw [zbi6,zbi6]
  by_cases e:p.1=k
  ·have a : ¬ decide (p.1≠k)=true:=by simp [e]
   have b : ¬ decide (q.1≠k)=true:=by simp [h1.symm.trans e]
   rw [if_neg a,if_neg b];exact ih
  ·have e' : ¬ q.1=k:=fun z=>e (h1.trans z)
   have a:decide (p.1≠k)=true:=by simp [e]
   have b:decide (q.1≠k)=true:=by simp [e']
   rw [if_pos a,if_pos b];exact .cons ⟨h1,h2⟩ ih
theorem KV.length {kvs:List (κ×V)}{vs:List (κ×Value)} (r:KV kvs vs):kvs.length=vs.length:=Paired.length r
theorem dropK_le (kvs:List (κ×V)) (k:κ):(zac2 kvs k).length≤kvs.length:=zbc0 _ _
end
theorem zai9 {P:Program}{w:World}{k:Key}{u:Value} (r:RelV (kV k) u):(zd0 P w).is k u=true:=by
 cases k with
 |inl i=>obtain⟨t,e⟩:=(show ∃t,u=Value.int i t from r);subst e;exact zab4 P w i t
 |inr x=>obtain⟨t,e⟩:=(show ∃t,u=Value.str x t from r);subst e;exact zab3 P w x t
theorem zx7 {P:Program}{w:World}:∀ {ks:List Key}{us:List Value},Vals (ks.map kV) us→ItemsAre (zd0 P w) ks us
 |[],_,r=>by rw [zbe2]at r;cases r;exact .nil
 |k::ks,_,r=>by
  rw [zax1]at r
  cases r with
  |cons h t=>exact .cons (zai9 h) (zx7 t)
noncomputable abbrev KT (H:Hp):List (List Key×V)→List (List Key×Addr×Value)→Prop:=Paired fun p q=>p.1=q.1∧H q.2.1=some (.tup (p.1.map kV))∧RelV p.2 q.2.2
theorem KT.val {H:Hp}{kvs:List (List Key×V)}{xs:List (List Key×Addr×Value)} (r:KT H kvs xs) (k:List Key):RelO (valV kvs k) ((atKey xs k).map (·.2)):=by
 induction r with
 |nil=>exact True.intro
 |@cons p q ps qs h t ih =>
  obtain⟨h1,_,h2⟩:=h
  by_cases e:p.1=k
  ·have e':q.1=k:=h1.symm.trans e
   have b:atKey (q::qs) k=some q.2:=by simp [atKey,zbd6,e']
   rw [zi2 e,b];exact h2
  ·have e' : ¬ q.1=k:=fun z=>e (h1.trans z)
   have b:atKey (q::qs) k=atKey qs k:=by simp [atKey,zbd6,e']
   rw [zi3 e,b];exact ih
theorem KT.repl {H:Hp}{kvs:List (List Key×V)}{xs:List (List Key×Addr×Value)} (r:KT H kvs xs) (k:List Key) {y:V}{u:Value} (ry:RelV y u) :
  KT H (kvs.map fun kv=>if kv.1=k then (kv.1,y) else kv) (xs.map (putAt k u)):=by
 induction r with
 |nil=>exact .nil
 |@cons p q ps qs h t ih =>
  rw [zax1,zax1]
  refine .cons ?_ ih
  obtain⟨h1,h2,h3⟩:=h
  unfold putAt
  by_cases e:p.1=k
  ·rw [if_pos e,if_pos (h1.symm.trans e)];exact⟨h1,h2,ry⟩
  ·rw [if_neg e,if_neg (fun z=>e (h1.trans z))];exact⟨h1,h2,h3⟩
theorem KT.put {H:Hp}{kvs:List (List Key×V)}{xs:List (List Key×Addr×Value)} (r:KT H kvs xs) (k:List Key) {b:Addr}{y:V}{u:Value} (hb:H b=some (.tup (k.map kV))) (ry:RelV y u) :
  KT H (putK kvs k y) (storedH xs k b u):=by
 have e:(kvs.any fun kv=>decide (kv.1=k))=(atKey xs k).isSome:=by
  rw [zr6,(r.val k).isSome_eq,zbl3]
 unfold putK storedH
 rw [e]
 by_cases q:(atKey xs k).isSome=true
 ·rw [if_pos q,if_pos q];exact r.repl k ry
 ·rw [if_neg q,if_neg q];exact Paired.snoc r ⟨rfl,hb,ry⟩
theorem KT.keeps {H H':Hp}{kvs:List (List Key×V)}{xs:List (List Key×Addr×Value)} (r:KT H kvs xs) (ht:∀b ys,H b=some (.tup ys)→H' b=some (.tup ys)):KT H' kvs xs :=
 Paired.mapP r fun _ _ z=>⟨z.1,ht _ _ z.2.1,z.2.2⟩
section
variable {P:Program}{w:World}{H:Hp}{h:Heap}{a:Addr}
theorem rd_of {u:HO} (ok:HOk P w H h) (e:Rd H a u):ObjOk P w H h a u:=e.ok ok
theorem zac3 {kvs:List (Key×V)} (ok:HOk P w H h) (e:Rd H a (.dK kvs)):kvs.length≤sizeLine∧(a == sysModules)=false∧∃vs,KV kvs vs∧h.DictOf (zd0 P w) a vs :=
 show ObjOk P w H h a (.dK kvs) from rd_of ok e
theorem dk_of {kvs:List (Key×V)} (ok:HOk P w H h) (e:H a=some (.dK kvs)):kvs.length≤sizeLine∧(a == sysModules)=false∧∃vs,KV kvs vs∧h.DictOf (zd0 P w) a vs:=zac3 ok (.inl e)
theorem key_of {ks:List Key} (ok:HOk P w H h) (e:H a=some (.tup (ks.map kV))):(tupleKind (zd0 P w)).is h ks a:=by
 obtain⟨_,its,r,o,h1,h2,n,h3⟩:=(show ObjOk P w H h a (.tup (ks.map kV)) from ok a _ e)
 exact⟨o,its.toArray,n,h1,h2,h3,by simpa using zx7 r⟩
theorem zaj5 {kvs:List (List Key×V)} (ok:HOk P w H h) (e:Rd H a (.dT kvs)):kvs.length≤sizeLine∧(a == sysModules)=false ∧
  ∃xs,KT H kvs xs∧h.DictOfH (tupleKind (zd0 P w)) a xs:=by
 obtain⟨z,y,xs,r,o,es,ep,h1,h2,h3,h4,h5⟩:=(show ObjOk P w H h a (.dT kvs) from rd_of ok e)
 refine⟨z,y,xs,r,o,es,ep,h1,h2,h3,h4,fun x hx=>?_,h5⟩
 have all:∀ {l:List (List Key×V)}{m:List (List Key×Addr×Value)},KT H l m→∀x∈m,(tupleKind (zd0 P w)).is h x.1 x.2.1:=by
  intro l m q
  induction q with
  |nil=>intro x hx;exact nomatch hx
  |@cons p q ps qs hq t ih =>
   intro x hx
   rcases zaw6.mp hx with e | hx
   ·subst e
    exact key_of ok (by rw [← hq.1];exact hq.2.1)
   ·exact ih x hx
 exact all r x hx
theorem dt_of {kvs:List (List Key×V)} (ok:HOk P w H h) (e:H a=some (.dT kvs)):kvs.length≤sizeLine∧(a == sysModules)=false ∧
  ∃xs,KT H kvs xs∧h.DictOfH (tupleKind (zd0 P w)) a xs:=zaj5 ok (.inl e)
end
noncomputable def DGet (H:Hp) (a:Addr) (y:V) (r:Option V):Prop :=
 (∃kvs k,Rd H a (.dK kvs)∧y=kV k∧r=valV kvs k)∨∃kvs k b,Rd H a (.dT kvs)∧y=.ref b∧H b=some (.tup (k.map kV))∧r=valV kvs k
noncomputable def DPut (H:Hp) (a:Addr) (y v:V) (H':Hp):Prop :=
 (∃kvs k,H a=some (.dK kvs)∧y=kV k∧kvs.length<sizeLine∧H'=upd H a (.dK (putK kvs k v))) ∨
 ∃kvs k b,H a=some (.dT kvs)∧y=.ref b∧H b=some (.tup (k.map kV))∧kvs.length<sizeLine∧H'=upd H a (.dT (putK kvs k v))
theorem DGet.k {H:Hp}{a:Addr}{kvs:List (Key×V)}{k:Key} (e:H a=some (.dK kvs)):DGet H a (kV k) (valV kvs k):=.inl ⟨kvs,k,.inl e,rfl,rfl⟩
theorem DPut.k {H:Hp}{a:Addr}{kvs:List (Key×V)}{k:Key}{v:V} (e:H a=some (.dK kvs)) (hl:kvs.length<sizeLine):DPut H a (kV k) v (upd H a (.dK (putK kvs k v))):=.inl ⟨kvs,k,e,rfl,hl,rfl⟩
theorem DPut.t {H:Hp}{a b:Addr}{kvs:List (List Key×V)}{k:List Key}{v:V} (e:H a=some (.dT kvs)) (eb:H b=some (.tup (k.map kV))) (hl:kvs.length<sizeLine) :
  DPut H a (.ref b) v (upd H a (.dT (putK kvs k v))):=.inr ⟨kvs,k,b,e,rfl,eb,hl,rfl⟩
section
variable {X:Cx}{pins:List (Addr×Obj)}{σ:St}{H:Hp}{s:zaw4}{a:Addr}{y v:V}{u r:Value}{o:Option V}{A:Around}{E:Value→zaw4→Prop}
theorem Inv.big (I:Inv X pins σ H s):sysModules<s.heap.objs.size:=by
 have h:mainGlobals<s.heap.objs.size:=(I.mod.glob.keeps I.bk).lt
 exact zbl7 (by decide) h
theorem zas5 {Q:Value→zaw4→Prop} (hu:A.units+1<cLine) (I:Inv X pins σ H s) (g:DGet H a y (some v)) (ry:RelV y u) (h:∀w' s',Inv X pins σ H s'→RelV v w'→Q w' s') :
  wpAny (model X.prog X.w) A (getItem (.ref a) u) Q E s:=by
 rcases g with ⟨kvs,k,e,ey,l⟩ | ⟨kvs,k,b,e,ey,eb,l⟩
 ·subst ey
  obtain⟨z,hd,vs,rel,dd⟩:=zac3 I.hok e
  obtain⟨w',hw,rw'⟩:=RelO.some_of (v:=v) (o:=valueAt vs k) (by rw [l];exact rel.val k)
  exact wpAny_getItem_of (zai9 ry) dd.mapOf hw (h w' _ (I.tok _) rw')
 ·subst ey
  cases (show u=Value.ref b from ry)
  obtain⟨z,hd,xs,rel,dd⟩:=zaj5 I.hok e
  obtain⟨w',hw,rw'⟩:=RelO.some_of (v:=v) (o:=(atKey xs k).map (·.2)) (by rw [l];exact rel.val k)
  obtain⟨p,hp,hp2⟩:=Option.map_eq_some_iff.mp hw
  refine wpAny_getItem_heap (tupleKind_room_in1 hu) (key_of I.hok eb) dd hp ?_
  rw [hp2]
  exact h w' _ (I.tok _) rw'
theorem d_notIn {Q:Value→zaw4→Prop} (hu:A.units+1<cLine) (I:Inv X pins σ H s) (g:DGet H a y o) (ry:RelV y u) (h:∀s',Inv X pins σ H s'→Q (.bool (!o.isSome)) s') :
  wpAny (model X.prog X.w) A (compareOp .NotIn u (.ref a)) Q E s:=by
 rcases g with ⟨kvs,k,e,ey,l⟩ | ⟨kvs,k,b,e,ey,eb,l⟩
 ·subst ey
  obtain⟨z,hd,vs,rel,dd⟩:=zac3 I.hok e
  refine wpAny_notIn_of (zai9 ry) hd dd.mapOf ?_
  rw [← (rel.val k).isSome_eq, ← l]
  exact h _ (I.tok _)
 ·subst ey
  cases (show u=Value.ref b from ry)
  obtain⟨z,hd,xs,rel,dd⟩:=zaj5 I.hok e
  refine wpAny_notIn_heap (tupleKind_room_in1 hu) (key_of I.hok eb) hd dd ?_
  have q:=(rel.val k).isSome_eq
  rw [zbl3]at q
  rw [← q, ← l]
  exact h _ (I.tok _)
theorem zu0 {h':Heap}{t':Nat}{ob:HO} (I:Inv X pins σ H s) (mu:Mut (H a)) (hs:Heap.SameBut a s.heap h') (he:∃q,h'.get? a=some q) (new:ObjOk X.prog X.w (upd H a ob) h' a ob) :
  Inv X pins σ (upd H a ob) { s with heap:=h',toks:=t' } :=
 I.write (x:=a) (e:=a) mu (.inl rfl) (fun b q hb z=>(hs.2 b hb).trans z) he new
theorem dk_new {P:Program}{w:World}{H':Hp}{h':Heap}{kvs:List (Key×V)}{vs:List (Key×Value)} (z:kvs.length≤sizeLine) (hd:(a == sysModules)=false) (rel:KV kvs vs) (dd:h'.DictOf (zd0 P w) a vs) :
  ObjOk P w H' h' a (.dK kvs):=⟨z,hd,vs,rel,dd⟩
theorem zas4 {H':Hp}{Q:Unit→zaw4→Prop} (hu:A.units+1<cLine) (I:Inv X pins σ H s) (g:DPut H a y v H') (ry:RelV y u) (rv:RelV v r) (h:∀s',Inv X pins σ H' s'→Q () s') :
  wpAny (model X.prog X.w) A (setItem (.ref a) u r) Q E s:=by
 rcases g with ⟨kvs,k,e,ey,l,eH⟩ | ⟨kvs,k,b,e,ey,eb,l,eH⟩
 ·subst ey eH
  obtain⟨z,hd,vs,rel,dd⟩:=dk_of I.hok e
  have hz:vs.length≤sizeLine:=by rw [← rel.length];exact z
  have hl:(putK kvs k v).length≤sizeLine:=by have:=zo2 kvs k v;lia
  refine wpAny_setItem_pairs (hsz:=hz) (zai9 ry) dd fun h' dd' hs=>h _ ?_
  have he:∃q,h'.get? a=some q:=let ⟨q,_,_,hq,_⟩:=dd';⟨q,hq⟩
  exact zu0 I (by rw [e];exact True.intro) hs he (dk_new hl hd (rel.put k rv) dd')
 ·subst ey eH
  cases (show u=Value.ref b from ry)
  obtain⟨z,hd,xs,rel,dd⟩:=dt_of I.hok e
  have hz:xs.length≤sizeLine:=by rw [← Paired.length rel];exact z
  have hl:(putK kvs k v).length≤sizeLine:=by have:=zo2 kvs k v;lia
  refine wpAny_setItem_heap (hsz:=hz) (tupleKind_room_in1 hu) (key_of I.hok eb) dd fun h' dd' hs=>h _ ?_
  obtain⟨q,es,ep,hq,h2,h3,h4,_,h5⟩:=dd'
  refine zu0 I (by rw [e];exact True.intro) hs ⟨q,hq⟩ ⟨hl,hd,_,(rel.put k eb rv).keeps fun c ys ec=>?_,q,es,ep,hq,h2,h3,h4,h5⟩
  rw [za3 (zap0 ec e (fun z=>nomatch z))]
  exact ec
end
section
variable {X:Cx}{pins:List (Addr×Obj)}{σ:St}{H:Hp}{s:zaw4}{a:Addr}{kvs:List (Key×V)}{k:Key}{u:Value}{A:Around}{E:Value→zaw4→Prop}
theorem zas6 {Q:Unit→zaw4→Prop} (I:Inv X pins σ H s) (e:H a=some (.dK kvs)) (ry:RelV (kV k) u) (l:(valV kvs k).isSome=true) (h:∀s',Inv X pins σ (upd H a (.dK (zac2 kvs k))) s'→Q () s') :
  wpAny (model X.prog X.w) A (delItem (.ref a) u) Q E s:=by
 obtain⟨z,hd,vs,rel,dd⟩:=dk_of I.hok e
 refine wpAny_delItem_slot dd.typeIs (by decide) zbh1
  (call_meetsIn zbh1 dd.typeIs PySem.F.entry_dict_delitem (PySem.F.args_dict_delitem_2 _ _) (meets_dict_delitem_pairs (zd0 X.prog X.w) a (zai9 ry)) ⟨vs,dd,by rw [← rel.length];exact z,by rw [← (rel.val k).isSome_eq];exact l,fun h' dd' hs=>h _ ?_⟩)
 have he:∃q,h'.get? a=some q:=let ⟨q,_,_,hq,_⟩:=dd';⟨q,hq⟩
 exact zu0 I (by rw [e];exact True.intro) hs he (dk_new (zaz5 (dropK_le kvs k) z) hd (rel.drop k) dd')
theorem d_len {Q:Value→zaw4→Prop} (I:Inv X pins σ H s) (e:Rd H a (.dK kvs)) (h:∀t s',Inv X pins σ H s'→Q (.int kvs.length t) s'):wpAny (model X.prog X.w) A (call (.builtin "len") [.ref a]) Q E s:=by
 obtain⟨z,hd,vs,rel,dd⟩:=zac3 I.hok e
 refine call_len_dict hd dd (by rw [← rel.length];rw [sizeLine_eq]at z;lia) ?_
 rw [← rel.length]
 exact h _ _ (I.tok _)
end
def NoSl (i:Expr):Prop := ∀ov iv,subscripted i false ov iv=operate [ov,iv] (getItem ov iv)
theorem subD_of {prog:Program}{w:World}{A:Around}{E:Value→zaw4→Prop}{s:zaw4}{env:Env}{value slice:Expr}{pos:Pos}{T id:String}{Q:Value→zaw4→Prop}
  (hl:typeLookup (.type T) "__getitem__"=pure (some (.builtin id))) (hs:NoSl slice)
  (h:wpAny (model prog w) A (eval value env) (fun o s₁=>wpAny (model prog w) A (eval slice env) (fun i s₂=>s₂.TypeIs o T∧wpAny (model prog w) A (getItem o i) Q E s₂) E s₁) E s) :
  wpAny (model prog w) A (eval (.Subscript value slice pos) env) Q E s:=by
 refine Subscript_ (wpAny_mono h (fun o s₁ h₁=>wpAny_mono h₁ (fun i s₂ h₂=>?_) fun _ _ x=>x) fun _ _ x=>x)
 obtain⟨hT,h₂⟩:=h₂
 unfold subscriptTail
 refine zav6 ?_
 rw [getitemInPython_of_ne hT.not_modules]
 refine zav6 (wpAny_specialOf hT hl ?_)
 have fin:wpAny (model prog w) A (subscripted slice false o i) (fun r s₃=>wpAny (model prog w) A (letTemporaryGo value o r >>= fun _=>pure r) Q E s₃) E s₂:=by
  rw [hs o i]
  exact wpAny_operating (wpAny_mono h₂ (fun r s₃ h₃=>zav6 (wpAny_letTemporaryGo (zaw3 h₃))) fun _ _ x=>x)
 first
  |exact zaw3 (zav6 fin)
  |exact zav6 (zaw3 (zav6 fin))
  |exact zav6 fin
theorem zac4 {X:Cx}{pins:List (Addr×Obj)}{σ:St}{H:Hp}{s:zaw4}{a:Addr}{y:V}{o:Option V} (I:Inv X pins σ H s) (g:DGet H a y o):s.TypeIs (.ref a) "dict":=by
 rcases g with ⟨kvs,k,e,_,_⟩ | ⟨kvs,k,b,e,_,_,_⟩
 ·obtain⟨_,_,vs,_,dd⟩:=zac3 I.hok e
  exact dd.typeIs
 ·obtain⟨_,_,xs,_,dd⟩:=zaj5 I.hok e
  exact dd.typeIs
def tDGet (td ty:TE):TE:=fun σ H Q=>td σ H fun x H1=>ty σ H1 fun y H2 => ∃a v,x=.ref a∧DGet H2 a y (some v)∧Q v H2
noncomputable def sDPut (td ty tv:TE):TS:=fun D σ H=>tv σ H fun v H1=>td σ H1 fun x H2=>ty σ H2 fun y H3 => ∃a H4,x=.ref a∧DPut H3 a y v H4∧D.nx σ H4
noncomputable def sDDel (td ty:TE):TS:=fun D σ H=>td σ H fun x H1=>ty σ H1 fun y H2 => ∃a kvs k,x=.ref a∧H2 a=some (.dK kvs)∧y=kV k∧(valV kvs k).isSome=true∧D.nx σ (upd H2 a (.dK (zac2 kvs k)))
section
variable {X:Cx}{o i e value:Expr}{pos pos' tpos:Pos}{td ty tv:TE}
theorem zan8 (hu:X.A.units+1<cLine) (ho:PE X o td) (hi:PE X i ty) (hs:NoSl i):PE X (.Subscript o i pos) (tDGet td ty):=by
 intro pins s σ H Q I h
 refine subD_of PySem.F.slot_dict_getitem.lookup hs (thn (ho pins s σ H _ I h) fun u s1 ⟨x,H1,I1,rx,q1⟩=>thn (hi pins s1 σ H1 _ I1 q1) fun iv s2 ⟨y,H2,I2,ry,a,v,ex,g,q2⟩=>?_)
 subst ex
 obtain rfl:u=Value.ref a:=rx
 exact⟨zac4 I2 g,zas5 hu I2 g ry fun w' s3 I3 rw'=>⟨v,H2,I3,rw',q2⟩⟩
theorem zan1 (hu:X.A.units+1<cLine) (ho:PE X o td) (hi:PE X i ty) (hv:PE X value tv) (hs:swapsWith value (some (.Subscript o i pos')) pos.line X.env=pure false) :
  PS X (.Assign [.Subscript o i pos'] value pos) (sDPut td ty tv):=by
 intro pins s σ H D I h
 refine wpAny_Assign_Subscript (thn (hv pins s σ H _ I h) fun r s1 ⟨v,H1,I1,rv,q1⟩=>thn (ho pins s1 σ H1 _ I1 q1) fun u s2 ⟨x,H2,I2,rx,q2⟩=>thn (hi pins s2 σ H2 _ I2 q2) fun iv s3 ⟨y,H3,I3,ry,a,H4,ex,g,q3⟩=>?_) hs
 subst ex
 obtain rfl:u=Value.ref a:=rx
 exact zas4 hu I3 g ry rv fun s4 I4=>⟨σ,H4,I4,q3⟩
theorem ps_ddel (ho:PE X o td) (hi:PE X i ty):PS X (.Delete [.Subscript o i tpos] pos) (sDDel td ty):=by
 intro pins s σ H D I h
 refine wpAny_Delete (wpAny_deleteEach_cons (wpAny_delete_Subscript (thn (ho pins s σ H _ I h) fun u s1 ⟨x,H1,I1,rx,q1⟩=>thn (hi pins s1 σ H1 _ I1 q1) fun iv s2 ⟨y,H2,I2,ry,a,kvs,k,ex,e,ey,l,q2⟩=>?_)))
 subst ex ey
 obtain rfl:u=Value.ref a:=rx
 exact zas6 I2 e ry l fun s3 I3=>wpAny_deleteEach_nil ⟨σ,_,I3,q2⟩
end
theorem dk_empty {P:Program}{w:World}{H:Hp} (h:Heap) (hb:sysModules<h.objs.size):ObjOk P w H (h.push { cls:=.type "dict",data:=.dict #[] }) h.objs.size (.dK []) :=
 ⟨zba1 _,beq_eq_false_iff_ne.mpr (Ne.symm (zay3 hb)),[],.nil,Heap.DictOf.new h⟩
theorem zag6 {P:Program}{w:World}{H:Hp} (h:Heap) (hb:sysModules<h.objs.size):ObjOk P w H (h.push { cls:=.type "dict",data:=.dict #[] }) h.objs.size (.dT []) :=
 ⟨zba1 _,beq_eq_false_iff_ne.mpr (Ne.symm (zay3 hb)),[],.nil,_, #[],0,zax2 _ rfl,⟨rfl,rfl,rfl⟩,rfl,rfl,zay7⟩
def tDNewK:TE:=fun _ H Q => ∀p,H p=none→Q (.ref p) (upd H p (.dK []))
def tDNewT:TE:=fun _ H Q => ∀p,H p=none→Q (.ref p) (upd H p (.dT []))
section
variable {X:Cx}{pos:Pos}
theorem pe_dnewK:PE X (.Dict [] [] pos) tDNewK:=fun pins s σ H Q I h =>
 wpAny_Dict_empty ⟨.ref s.heap.objs.size,_,I.laid (a:=s.heap.objs.size) (o:=.dK []) (t':=s.toks) (fun _ _ q=>zav7 _ q) (zaw7 _) (dk_empty s.heap I.big),rfl,h _ (I.hok.fresh (zaw7 _))⟩
theorem pe_dnewT:PE X (.Dict [] [] pos) tDNewT:=fun pins s σ H Q I h =>
 wpAny_Dict_empty ⟨.ref s.heap.objs.size,_,I.laid (a:=s.heap.objs.size) (o:=.dT []) (t':=s.toks) (fun _ _ q=>zav7 _ q) (zaw7 _) (zag6 s.heap I.big),rfl,h _ (I.hok.fresh (zaw7 _))⟩
end
structure M1 (X:Cx) (o:Expr) (m:Str) (apos:Pos) (e:Expr) (cpos:Pos):Prop where
 base:attributeBase o m X.env (eval o X.env)=eval o X.env
 few:((zbe1 cpos (zax8 [e] X.env)).all (fun x=>!x.1)&&(backToKw cpos (keywordEach [] X.env)).all (fun x=>x.1.isSome)
  && decide (([e]:List Expr).length+([]:List Keyword).length+(if ([]:List Keyword).isEmpty then 0 else 1)<30))=true
 line:(apos.endLine == cpos.line)=true
 trees:zbe1 cpos (zax8 [e] X.env)=[(false,eval e X.env)]
structure M2 (X:Cx) (o:Expr) (m:Str) (apos:Pos) (e f:Expr) (cpos:Pos):Prop where
 base:attributeBase o m X.env (eval o X.env)=eval o X.env
 few:((zbe1 cpos (zax8 [e,f] X.env)).all (fun x=>!x.1)&&(backToKw cpos (keywordEach [] X.env)).all (fun x=>x.1.isSome)
  && decide (([e,f]:List Expr).length+([]:List Keyword).length+(if ([]:List Keyword).isEmpty then 0 else 1)<30))=true
 line:(apos.endLine == cpos.line)=true
 trees:zbe1 cpos (zax8 [e,f] X.env)=[(false,eval e X.env),(false,eval f X.env)]
def IsD (H:Hp) (a:Addr):Prop:=(∃kvs,Rd H a (.dK kvs))∨∃kvs,Rd H a (.dT kvs)
theorem isD_at {X:Cx}{pins:List (Addr×Obj)}{σ:St}{H:Hp}{s:zaw4}{a:Addr} (I:Inv X pins σ H s) (d:IsD H a) :
  s.TypeIs (.ref a) "dict"∧(∀b,Value.ref a=.ref b→∃ob,s.heap.get? b=some ob∧ob.dict=none)∧(a == sysModules)=false:=by
 rcases d with ⟨kvs,e⟩ | ⟨kvs,e⟩
 ·obtain⟨_,hd,vs,_,dd⟩:=zac3 I.hok e
  refine⟨dd.typeIs,fun b q=>?_,hd⟩
  cases q
  obtain⟨ob,_,_,h1,h2,_⟩:=dd
  exact⟨ob,h1,h2.2.1⟩
 ·obtain⟨_,hd,xs,_,dd⟩:=zaj5 I.hok e
  refine⟨dd.typeIs,fun b q=>?_,hd⟩
  cases q
  obtain⟨ob,_,_,h1,h2,_⟩:=dd
  exact⟨ob,h1,h2.2.1⟩
section
variable {X:Cx}{pins:List (Addr×Obj)}{σ:St}{H:Hp}{s:zaw4}{a:Addr}{y d:V}{u r:Value}{o:Option V}{A:Around}{E:Value→zaw4→Prop}
theorem d_get2 {Q:Value→zaw4→Prop} (hu:A.units+1<cLine) (I:Inv X pins σ H s) (g:DGet H a y o) (ry:RelV y u) (rd:RelV d r) (h:∀w' s',Inv X pins σ H s'→RelV (o.getD d) w'→Q w' s') :
  wpAny (model X.prog X.w) A (call (.builtin "dict.get") [.ref a,u,r]) Q E s:=by
 rcases g with ⟨kvs,k,e,ey,l⟩ | ⟨kvs,k,b,e,ey,eb,l⟩
 ·subst ey
  obtain⟨z,hd,vs,rel,dd⟩:=zac3 I.hok e
  refine call_meetsIn zbf9 dd.typeIs zbi7 (zbi0 _ _ _) (meets_dict_get_default (zd0 X.prog X.w) a (zai9 ry) hd r) ⟨_,dd.mapOf,h _ _ (I.tok _) ?_⟩
  rw [l]
  exact (rel.val k).getD rd
 ·subst ey
  cases (show u=Value.ref b from ry)
  obtain⟨z,hd,xs,rel,dd⟩:=zaj5 I.hok e
  refine call_meetsIn zbf9 dd.typeIs zbi7 (zbi0 _ _ _) (meetsH_dict_get_default (tupleKind (zd0 X.prog X.w)) a b hd r) ⟨tupleKind_room_in1 hu,k,xs,key_of I.hok eb,dd,h _ _ (I.tok _) ?_⟩
  rw [l]
  exact (rel.val k).getD rd
end
noncomputable def tDGet2 (td ty tx:TE):TE:=fun σ H Q=>td σ H fun x H1 => ∃a,x=.ref a∧IsD H1 a∧ty σ H1 fun y H2=>tx σ H2 fun z H3 => ∃o,DGet H3 a y o∧Q (o.getD z) H3
section
variable {X:Cx}{o e f:Expr}{apos cpos:Pos}{td ty tx:TE}
theorem zaf2 (hu:X.A.units+1<cLine) (ho:PE X o td) (he:PE X e ty) (hf:PE X f tx) (m:M2 X o "get" apos e f cpos):PE X (.Call (.Attribute o "get" apos) [e,f] [] cpos) (tDGet2 td ty tx):=by
 intro pins s σ H Q I h
 refine wpAny_Call_method m.base m.few m.line PySem.F.plainAttrs_dict zbf9 PySem.F.type_dict_get (thn (ho pins s σ H _ I h) fun u s1 ⟨x,H1,I1,rx,a,ex,d,q1⟩=>?_)
 subst ex
 obtain rfl:u=Value.ref a:=rx
 obtain⟨t1,t2,_⟩:=isD_at I1 d
 refine⟨t1,t2,?_⟩
 rw [m.trees]
 refine Calls.callWith_builtin rfl (Calls.evalArgs_plain (Calls.spliced_cons (thn (he pins s1 σ H1 _ I1 q1) fun iv s2 ⟨y,H2,I2,ry,q2⟩ =>
  Calls.spliced_cons (thn (hf pins s2 σ H2 _ I2 q2) fun fv s3 ⟨z,H3,I3,rz,ov,g,q3⟩=>Calls.spliced_nil ?_))))
 exact d_get2 hu I3 g ry rz fun w' s4 I4 rw'=>⟨_,H3,I4,rw',q3⟩
end
end L2
namespace L2
open PySem.Spec
section
variable {X:Cx}
theorem zau1:zl5 X (.builtin "len") (fun xs H Q => ∃a kvs,xs=[V.ref a]∧H a=some (.dK kvs)∧Q (.int kvs.length) H):=by
 intro pins s σ H xs us Q I r h
 obtain⟨a,kvs,rfl,ha,q⟩:=h
 obtain⟨u,rfl,ru⟩:=zv2 r
 cases ru
 exact d_len I (.inl ha) fun t s' I'=>⟨.int kvs.length,H,I',⟨t,rfl⟩,q⟩
end
end L2
namespace DL
open PySem.Spec L2
inductive D where
 |non | bl (b:Bool) |int (i:Int) |str (x:Str) |tup (xs:List D) |lst (xs:List D) |dct (ks:List Key) (ds:List D) |pdc (ps:List (List Int×Int)) |fdc (ps:List (List Int×Int)) |adr (p:Addr)
def mkKV (ks:List Key) (vs:List V):List (Key×V):=ks.zip vs
def pkv (ps:List (List Int×Int)):List (List Key×V):=ps.map fun q=>(q.1.map Sum.inl,V.int q.2)
mutual
inductive Rep (K:zav4) (H:Hp):D→V→Prop
 |non:Rep K H .non .non
 |bl (b:Bool):Rep K H (.bl b) (.bl b)
 |int (i:Int):Rep K H (.int i) (.int i)
 |str (x:Str):Rep K H (.str x) (.str x)
 |tup {ds:List D}{p:Addr}{vs:List V}:SqT K H p vs→Reps K H ds vs→Rep K H (.tup ds) (.ref p)
 |lst {ds:List D}{p:Addr}{vs:List V}:SqL K H p vs→Reps K H ds vs→Rep K H (.lst ds) (.ref p)
 |dct {ks:List Key}{ds:List D}{p:Addr}{vs:List V}:ks.length=vs.length→H p=some (.dK (mkKV ks vs))→Reps K H ds vs→Rep K H (.dct ks ds) (.ref p)
 |pdc {ps:List (List Int×Int)}{p:Addr}:H p=some (.dT (pkv ps))→Rep K H (.pdc ps) (.ref p)
 |fdc {ps:List (List Int×Int)}{p:Addr}{o:Obj}:H p=some (.frz o (.dT (pkv ps)))→Rep K H (.fdc ps) (.ref p)
 |adr (p:Addr):Rep K H (.adr p) (.ref p)
inductive Reps (K:zav4) (H:Hp):List D→List V→Prop
 |nil:Reps K H [] []
 |cons {d:D}{v:V}{ds:List D}{vs:List V}:Rep K H d v→Reps K H ds vs→Reps K H (d::ds) (v::vs)
end
theorem SqL.mono {K:zav4}{H H':Hp}{a:Addr}{xs:List V} (e:Same H H') (h:SqL K H a xs):SqL K H' a xs:=e.seq h
theorem SqT.mono {K:zav4}{H H':Hp}{a:Addr}{xs:List V} (e:Same H H') (h:SqT K H a xs):SqT K H' a xs:=by
 exact e _ _ h
mutual
theorem Rep.mono {K:zav4}{H H':Hp} (e:Same H H'):∀ {d:D}{v:V},Rep K H d v→Rep K H' d v
 |_,_,.non=>.non
 |_,_,.bl b=>.bl b
 |_,_,.int i=>.int i
 |_,_,.str x=>.str x
 |_,_,.tup h r=>.tup (SqT.mono e h) (Reps.mono e r)
 |_,_,.lst h r=>.lst (SqL.mono e h) (Reps.mono e r)
 |_,_,.dct l h r=>.dct l (e _ _ h) (Reps.mono e r)
 |_,_,.pdc h=>.pdc (e _ _ h)
 |_,_,.fdc h=>.fdc (e _ _ h)
 |_,_,.adr p=>.adr p
theorem Reps.mono {K:zav4}{H H':Hp} (e:Same H H'):∀ {ds:List D}{vs:List V},Reps K H ds vs→Reps K H' ds vs
 |_,_,.nil=>.nil
 |_,_,.cons h r=>.cons (Rep.mono e h) (Reps.mono e r)
end
theorem Reps.length {K:zav4}{H:Hp}:∀ {ds:List D}{vs:List V},Reps K H ds vs→vs.length=ds.length
 |_,_,.nil=>rfl
 |_,_,.cons _ r=>by simp [Reps.length r]
theorem Reps.get {K:zav4}{H:Hp}:∀ {ds:List D}{vs:List V},Reps K H ds vs→∀ {i:Nat}{d:D},ds[i]?=some d→∃v,vs[i]?=some v∧Rep K H d v
 |_,_,.nil,i,d,e=>by simp at e
 |_,_,.cons (v:=v) h r,0,d,e=>by simp at e;subst e;exact⟨v,rfl,h⟩
 |_,_,.cons h r,i+1,d,e=>by
  obtain⟨v,a,b⟩:=Reps.get r (i:=i) (d:=d) (by simpa using e)
  exact⟨v,by simpa using a,b⟩
theorem Reps.getV {K:zav4}{H:Hp}:∀ {ds:List D}{vs:List V},Reps K H ds vs→∀ {i:Nat}{v:V},vs[i]?=some v→∃d,ds[i]?=some d∧Rep K H d v
 |_,_,.nil,i,d,e=>by simp at e
 |_,_,.cons (d:=d) h r,0,v,e=>by simp at e;subst e;exact⟨d,rfl,h⟩
 |_,_,.cons h r,i+1,v,e=>by
  obtain⟨d,a,b⟩:=Reps.getV r (i:=i) (v:=v) (by simpa using e)
  exact⟨d,by simpa using a,b⟩
theorem Reps.app {K:zav4}{H:Hp}:∀ {ds:List D}{vs:List V}{es:List D}{us:List V},Reps K H ds vs→Reps K H es us→Reps K H (ds++es) (vs++us)
 |_,_,_,_,.nil,r=>r
 |_,_,_,_,.cons h r,q=>.cons h (Reps.app r q)
theorem Reps.set {K:zav4}{H:Hp}{d:D}{v:V} (h:Rep K H d v):∀ {ds:List D}{vs:List V} (i:Nat),Reps K H ds vs→Reps K H (ds.set i d) (vs.set i v)
 |_,_,_,.nil=>.nil
 |_,_,0,.cons _ r=>.cons h r
 |_,_,i+1,.cons q r=>.cons q (Reps.set h i r)
theorem Reps.take {K:zav4}{H:Hp}:∀ {ds:List D}{vs:List V} (n:Nat),Reps K H ds vs→Reps K H (ds.take n) (vs.take n)
 |_,_,0,_=>by simp;exact .nil
 |_,_,n+1,.nil=>by simp;exact .nil
 |_,_,n+1,.cons h r=>by simpa using .cons h (Reps.take n r)
theorem Reps.one {K:zav4}{H:Hp}{d:D}{v:V} (h:Rep K H d v):Reps K H [d] [v]:=.cons h .nil
theorem Reps.ints {K:zav4}{H:Hp}:∀ns:List Int,Reps K H (ns.map D.int) (ns.map V.int)
 |[]=>.nil
 |n::ns=>.cons (.int n) (Reps.ints ns)
mutual
def flat:D→Bool
 |.lst _=>false
 |.dct _ _=>false
 |.pdc _=>false
 |.tup xs=>flats xs
 |_=>true
def flats:List D→Bool
 |[]=>true
 |d::ds=>flat d&&flats ds
end
def hide (P:List Addr) (H:Hp):Hp:=fun a=>if a∈P then none else H a
theorem za6 (P:List Addr) (H:Hp):Same (hide P H) H:=fun b o e=>by
 unfold hide at e
 split at e
 ·cases e
 ·exact e
theorem zb0 {P:List Addr}{H:Hp}{a:Addr}{o:HO} (h:H a=some o) (n:a∉P):hide P H a=some o:=by
 unfold hide;rw [if_neg n];exact h
theorem zd4 {P:List Addr}{H:Hp}{a:Addr}{o:HO} (h:hide P H a=some o):a∉P∧H a=some o:=by
 unfold hide at h
 split at h
 ·cases h
 ·exact⟨by assumption,h⟩
theorem hide_nil (H:Hp):hide [] H=H:=by funext a;simp [hide]
theorem zb4 {P P':List Addr} (H:Hp) (h:∀a∈P',a∈P):Same (hide P H) (hide P' H):=fun b o e=>by
 obtain⟨n,e⟩:=zd4 e
 exact zb0 e fun z=>n (h b z)
def mutO:HO→Bool
 |.lst _=>true
 |.dK _=>true
 |.dT _=>true
 |.ins _ _ _=>true
 |.own _=>true
 |_=>false
abbrev MO:={o:HO // mutO o=true}
def mL (vs:List V):MO:=⟨.lst vs,rfl⟩
def mD (kvs:List (Key×V)):MO:=⟨.dK kvs,rfl⟩
def mT (kvs:List (List Key×V)):MO:=⟨.dT kvs,rfl⟩
def Lists (H:Hp) (P:List Addr):Prop := ∀p∈P,∃o:MO,H p=some o.1
theorem Lists.mono {H H':Hp}{P:List Addr} (h:Lists H P) (e:Same H H'):Lists H' P:=fun p hp=>let ⟨vs,q⟩:=h p hp;⟨vs,e _ _ q⟩
theorem SqT.hid {K:zav4}{H:Hp}{P:List Addr}{a:Addr}{xs:List V} (m:Lists H P) (h:SqT K H a xs):SqT K (hide P H) a xs:=by
 have h:H a=some (.tup xs):=h
 exact zb0 h fun z=>by obtain⟨⟨vs,w⟩,q⟩:=m _ z;rw [q]at h;cases h;cases w
mutual
theorem Rep.hid {K:zav4}{H:Hp}{P:List Addr} (m:Lists H P):∀ {d:D}{v:V},flat d=true→Rep K H d v→Rep K (hide P H) d v
 |_,_,_,.non=>.non
 |_,_,_,.bl b=>.bl b
 |_,_,_,.int i=>.int i
 |_,_,_,.str x=>.str x
 |_,_,f,.tup h r=>.tup (SqT.hid m h) (Reps.hid m (by simpa [flat] using f) r)
 |_,_,f,.lst h r=>by simp [flat]at f
 |_,_,f,.dct _ h r=>by simp [flat]at f
 |_,_,f,.pdc h=>by simp [flat]at f
 |_,_,_,.adr p=>.adr p
 |_,_,_,.fdc h=>.fdc (zb0 h fun z=>by obtain⟨⟨vs,w⟩,q⟩:=m _ z;rw [q]at h;cases h;cases w)
theorem Reps.hid {K:zav4}{H:Hp}{P:List Addr} (m:Lists H P):∀ {ds:List D}{vs:List V},flats ds=true→Reps K H ds vs→Reps K (hide P H) ds vs
 |_,_,_,.nil=>.nil
 |_,_,f,.cons h r=>by
  simp [flats]at f
  exact .cons (Rep.hid m f.1 h) (Reps.hid m f.2 r)
end
mutual
inductive RepD (K:zav4) (H0 H:Hp):D→V→List Addr→Prop
 |flat {d:D}{v:V}:flat d=true→Rep K H0 d v→RepD K H0 H d v []
 |tup {ds:List D}{p:Addr}{vs:List V}{B:List Addr}:SqT K H0 p vs→RepDs K H0 H ds vs B→RepD K H0 H (.tup ds) (.ref p) B
 |lst {ds:List D}{p:Addr}{vs:List V}{B:List Addr}:H p=some (.lst vs)→RepDs K H0 H ds vs B→RepD K H0 H (.lst ds) (.ref p) (p::B)
 |dct {ks:List Key}{ds:List D}{p:Addr}{vs:List V}{B:List Addr}:ks.length=vs.length→H p=some (.dK (mkKV ks vs))→RepDs K H0 H ds vs B→RepD K H0 H (.dct ks ds) (.ref p) (p::B)
 |pdc {ps:List (List Int×Int)}{p:Addr}:H p=some (.dT (pkv ps))→RepD K H0 H (.pdc ps) (.ref p) [p]
inductive RepDs (K:zav4) (H0 H:Hp):List D→List V→List Addr→Prop
 |nil:RepDs K H0 H [] [] []
 |cons {d:D}{v:V}{ds:List D}{vs:List V}{B C:List Addr}:RepD K H0 H d v B→RepDs K H0 H ds vs C→RepDs K H0 H (d::ds) (v::vs) (B++C)
end
mutual
theorem RepD.mono {K:zav4}{H0 H H0' H':Hp} (e:Same H0 H0'):∀ {d:D}{v:V}{B:List Addr},RepD K H0 H d v B→(∀p∈B,∀o,H p=some o→H' p=some o)→RepD K H0' H' d v B
 |_,_,_,.flat f r,_=>.flat f (Rep.mono e r)
 |_,_,_,.tup h r,k=>.tup (SqT.mono e h) (RepDs.mono e r k)
 |_,_,_,.lst h r,k=>.lst (k _ (zaw0 ..) _ h) (RepDs.mono e r fun p hp=>k p (zav8 _ hp))
 |_,_,_,.dct l h r,k=>.dct l (k _ (zaw0 ..) _ h) (RepDs.mono e r fun p hp=>k p (zav8 _ hp))
 |_,_,_,.pdc h,k=>.pdc (k _ (zaw0 ..) _ h)
theorem RepDs.mono {K:zav4}{H0 H H0' H':Hp} (e:Same H0 H0'):∀ {ds:List D}{vs:List V}{B:List Addr},RepDs K H0 H ds vs B→(∀p∈B,∀o,H p=some o→H' p=some o)→RepDs K H0' H' ds vs B
 |_,_,_,.nil,_=>.nil
 |_,_,_,.cons h r,k=>.cons (RepD.mono e h fun p hp=>k p (zaw1 _ hp)) (RepDs.mono e r fun p hp=>k p (zav5 _ hp))
end
mutual
theorem RepD.rep {K:zav4}{H0 H H1:Hp} (e:Same H0 H1):∀ {d:D}{v:V}{B:List Addr},RepD K H0 H d v B→(∀p∈B,∀o,H p=some o→H1 p=some o)→Rep K H1 d v
 |_,_,_,.flat f r,_=>Rep.mono e r
 |_,_,_,.tup h r,k=>.tup (SqT.mono e h) (RepDs.rep e r k)
 |_,_,_,.lst h r,k=>.lst (SqL.of (k _ (zaw0 ..) _ h)) (RepDs.rep e r fun p hp=>k p (zav8 _ hp))
 |_,_,_,.dct l h r,k=>.dct l (k _ (zaw0 ..) _ h) (RepDs.rep e r fun p hp=>k p (zav8 _ hp))
 |_,_,_,.pdc h,k=>.pdc (k _ (zaw0 ..) _ h)
theorem RepDs.rep {K:zav4}{H0 H H1:Hp} (e:Same H0 H1):∀ {ds:List D}{vs:List V}{B:List Addr},RepDs K H0 H ds vs B→(∀p∈B,∀o,H p=some o→H1 p=some o)→Reps K H1 ds vs
 |_,_,_,.nil,_=>.nil
 |_,_,_,.cons h r,k=>.cons (RepD.rep e h fun p hp=>k p (zaw1 _ hp)) (RepDs.rep e r fun p hp=>k p (zav5 _ hp))
end
mutual
theorem RepD.lists {K:zav4}{H0 H:Hp}:∀ {d:D}{v:V}{B:List Addr},RepD K H0 H d v B→Lists H B
 |_,_,_,.flat f r=>fun p hp=>by cases hp
 |_,_,_,.tup h r=>RepDs.lists r
 |_,_,_,.lst h r=>fun p hp=>by
  rcases zaw6.mp hp with rfl | hp
  ·exact⟨mL _,h⟩
  ·exact RepDs.lists r p hp
 |_,_,_,.dct _ h r=>fun p hp=>by
  rcases zaw6.mp hp with rfl | hp
  ·exact⟨mD _,h⟩
  ·exact RepDs.lists r p hp
 |_,_,_,.pdc h=>fun p hp=>by
  rw [zaw8]at hp
  subst hp
  exact⟨mT _,h⟩
theorem RepDs.lists {K:zav4}{H0 H:Hp}:∀ {ds:List D}{vs:List V}{B:List Addr},RepDs K H0 H ds vs B→Lists H B
 |_,_,_,.nil=>fun p hp=>by cases hp
 |_,_,_,.cons h r=>fun p hp=>(zax0.mp hp).elim (RepD.lists h p) (RepDs.lists r p)
end
mutual
theorem RepD.hid {K:zav4}{H0 H:Hp}{P:List Addr} (m:Lists H P) (e:Same H0 H):∀ {d:D}{v:V}{B:List Addr},RepD K H0 H d v B→RepD K (hide P H) H d v B
 |_,_,_,.flat f r=>.flat f (Rep.hid m f (Rep.mono e r))
 |_,_,_,.tup h r=>.tup (SqT.hid m (SqT.mono e h)) (RepDs.hid m e r)
 |_,_,_,.lst h r=>.lst h (RepDs.hid m e r)
 |_,_,_,.dct l h r=>.dct l h (RepDs.hid m e r)
 |_,_,_,.pdc h=>.pdc h
theorem RepDs.hid {K:zav4}{H0 H:Hp}{P:List Addr} (m:Lists H P) (e:Same H0 H):∀ {ds:List D}{vs:List V}{B:List Addr},RepDs K H0 H ds vs B→RepDs K (hide P H) H ds vs B
 |_,_,_,.nil=>.nil
 |_,_,_,.cons h r=>.cons (RepD.hid m e h) (RepDs.hid m e r)
end
theorem Lists.app {H:Hp}{P Q:List Addr} (h:Lists H P) (k:Lists H Q):Lists H (P++Q):=fun p hp=>(zax0.mp hp).elim (h p) (k p)
inductive Ev where
 |cl (d:D) |tm (d:D) |nw (xs:List D) |dn (d:D)
def Ev.d:Ev→D
 |.cl d=>d
 |.tm d=>d
 |.nw xs=>.lst xs
 |.dn d=>d
noncomputable def RepEv (K:zav4) (F A:List Addr) (H H':Hp):Ev→V→Prop
 |.cl d,v=>Rep K (hide (A++F) H') d v
 |.tm d,v=>Rep K (hide F H') d v
 |.nw xs,v => ∃p vs,v=.ref p∧H p=none∧H' p=some (.lst vs)∧Reps K (hide (p ::(A++F)) H') xs vs
 |.dn d,v => ∃B,B.Nodup∧(∀b∈B,H b=none)∧RepD K (hide (B++(A++F)) H') H' d v B
theorem zb6 {P:List Addr}{H H':Hp} (e:Same H H'):Same (hide P H) (hide P H'):=fun b o h=>by
 obtain⟨n,h⟩:=zd4 h
 exact zb0 (e _ _ h) n
theorem RepEv.mono {K:zav4}{F A:List Addr}{H H1 H2:Hp}{r:Ev}{v:V} (h:RepEv K F A H H1 r v) (e:Same H1 H2):RepEv K F A H H2 r v:=by
 cases r with
 |cl d=>exact Rep.mono (zb6 e) h
 |tm d=>exact Rep.mono (zb6 e) h
 |nw xs =>
  obtain⟨p,vs,rfl,h1,h2,h3⟩:=h
  exact⟨p,vs,rfl,h1,e _ _ h2,Reps.mono (zb6 e) h3⟩
 |dn d =>
  obtain⟨B,h1,h2,h3⟩:=h
  exact⟨B,h1,h2,RepD.mono (zb6 e) h3 fun p _ o q=>e _ _ q⟩
theorem RepEv.back {K:zav4}{F A:List Addr}{H0 H H1:Hp}{r:Ev}{v:V} (h:RepEv K F A H H1 r v) (e:Same H0 H):RepEv K F A H0 H1 r v:=by
 cases r with
 |cl d=>exact h
 |tm d=>exact h
 |nw xs =>
  obtain⟨p,vs,rfl,h1,h2,h3⟩:=h
  refine⟨p,vs,rfl,?_,h2,h3⟩
  cases q:H0 p with
  |none=>rfl
  |some o=>rw [e _ _ q]at h1;cases h1
 |dn d =>
  obtain⟨B,h1,h2,h3⟩:=h
  exact⟨B,h1,fun b hb=>Same.free e (h2 b hb),h3⟩
theorem RepEv.full {K:zav4}{F A:List Addr}{H H':Hp}{r:Ev}{v:V} (h:RepEv K F A H H' r v):Rep K H' r.d v:=by
 cases r with
 |cl d=>exact Rep.mono (za6 _ _) h
 |tm d=>exact Rep.mono (za6 _ _) h
 |nw xs =>
  obtain⟨p,vs,rfl,h1,h2,h3⟩:=h
  exact .lst (SqL.of h2) (Reps.mono (za6 _ _) h3)
 |dn d =>
  obtain⟨B,h1,h2,h3⟩:=h
  exact h3.rep (za6 _ _) fun _ _ _ q=>q
theorem zc0 {H:Hp}{P:List Addr}{p:Addr} (m:Lists H P) (h:H p=none):p∉P:=fun z=>by
 obtain⟨vs,q⟩:=m _ z
 rw [q]at h;cases h
theorem RepEv.cleanF {K:zav4}{F A:List Addr}{H H':Hp}{r:Ev}{v:V} (m:Lists H (A++F)) (h:RepEv K F A H H' r v):Rep K (hide F H') r.d v:=by
 cases r with
 |cl d=>exact Rep.mono (zb4 H' fun a z=>zav5 _ z) h
 |tm d=>exact h
 |nw xs =>
  obtain⟨p,vs,rfl,h1,h2,h3⟩:=h
  have n:p∉F:=fun z=>zc0 m h1 (zav5 _ z)
  exact .lst (SqL.of (zb0 h2 n)) (Reps.mono (zb4 H' fun a z=>zav8 _ (zav5 _ z)) h3)
 |dn d =>
  obtain⟨B,h1,h2,h3⟩:=h
  refine h3.rep (zb4 H' fun a z=>zav5 _ (zav5 _ z)) fun b hb o q=>zb0 q fun z=>?_
  exact zc0 m (h2 b hb) (zav5 _ z)
def Ev.ok:Ev→Bool
 |.cl _=>true
 |.tm d=>flat d
 |.nw _=>true
 |.dn _=>true
theorem RepEv.clean {K:zav4}{F A:List Addr}{H H':Hp}{r:Ev}{v:V} (m:Lists H (A++F)) (e:Same H H') (h:RepEv K F A H H' r v) (c:r.ok=true):Rep K (hide (A++F) H') r.d v:=by
 cases r with
 |cl d=>exact h
 |tm d =>
  have m':Lists H' (A++F):=m.mono e
  exact Rep.hid m' c (Rep.mono (za6 _ _) h)
 |nw xs =>
  obtain⟨p,vs,rfl,h1,h2,h3⟩:=h
  have n:p∉A++F:=zc0 m h1
  exact .lst (SqL.of (zb0 h2 n)) (Reps.mono (zb4 H' fun a z=>zav8 _ z) h3)
 |dn d =>
  obtain⟨B,h1,h2,h3⟩:=h
  exact h3.rep (zb4 H' fun a z=>zav5 _ z) fun b hb o q=>zb0 q fun z=>zc0 m (h2 b hb) z
inductive Sl where
 |no | val (d:D) |own (xs:List D) |dp (d:D)
abbrev Th:=List Sl
inductive RSl (K:zav4) (H0 H:Hp):Th→L2.St→List Addr→Prop
 |nil:RSl K H0 H [] [] []
 |no {x:Option V}{t:Th}{σ:L2.St}{A:List Addr}:RSl K H0 H t σ A→RSl K H0 H (.no::t) (x::σ) A
 |val {d:D}{v:V}{t:Th}{σ:L2.St}{A:List Addr}:Rep K H0 d v→RSl K H0 H t σ A→RSl K H0 H (.val d::t) (some v::σ) A
 |own {p:Addr}{vs:List V}{ds:List D}{t:Th}{σ:L2.St}{A:List Addr}:H p=some (.lst vs)→Reps K H0 ds vs→RSl K H0 H t σ A→RSl K H0 H (.own ds::t) (some (.ref p)::σ) (p::A)
 |dp {d:D}{v:V}{B:List Addr}{t:Th}{σ:L2.St}{A:List Addr}:RepD K H0 H d v B→RSl K H0 H t σ A→RSl K H0 H (.dp d::t) (some v::σ) (B++A)
structure RS (K:zav4) (F:List Addr) (H:Hp) (A:List Addr) (t:Th) (σ:L2.St):Prop where
 mu:Lists H (A++F)
 nd:A.Nodup
 dj:∀p∈A,p∉F
 rel:RSl K (hide (A++F) H) H t σ A
theorem RSl.mono {K:zav4}{H0 H H0' H':Hp} (e0:Same H0 H0'):∀ {t:Th}{σ:L2.St}{A:List Addr},RSl K H0 H t σ A→(∀p∈A,∀o,H p=some o→H' p=some o)→RSl K H0' H' t σ A:=by
 intro _ _ _ h
 induction h with
 |nil =>
  intro w0
  exact .nil
 |@no _ _ _ _ r ih =>
  intro e
  exact .no (ih e)
 |@val _ _ _ _ _ h r ih =>
  intro e
  exact .val (Rep.mono e0 h) (ih e)
 |@own _ _ _ _ _ _ h1 h2 r ih =>
  intro e
  exact .own (e _ (zaw0 ..) _ h1) (Reps.mono e0 h2) (ih fun p hp=>e p (zav8 _ hp))
 |@dp _ _ _ _ _ _ h r ih =>
  intro e
  exact .dp (RepD.mono e0 h fun p hp=>e p (zaw1 _ hp)) (ih fun p hp=>e p (zav5 _ hp))
theorem RS.grow {K:zav4}{F A:List Addr}{H H':Hp}{t:Th}{σ:L2.St} (h:RS K F H A t σ) (e:Same H H'):RS K F H' A t σ :=
 ⟨h.mu.mono e,h.nd,h.dj,h.rel.mono (zb6 e) fun p _ o q=>e _ _ q⟩
theorem RSl.len {K:zav4}{H0 H:Hp}:∀ {t:Th}{σ:L2.St}{A:List Addr},RSl K H0 H t σ A→σ.length=t.length:=by
 intro _ _ _ h
 induction h with
 |nil =>
  exact rfl
 |@no _ _ _ _ r ih =>
  simp [ih]
 |@val _ _ _ _ _ _ r ih =>
  simp [ih]
 |@own _ _ _ _ _ _ _ _ r ih =>
  simp [ih]
 |@dp _ _ _ _ _ _ _ r ih =>
  simp [ih]
theorem RSl.getVal {K:zav4}{H0 H:Hp}:∀ {t:Th}{σ:L2.St}{A:List Addr},RSl K H0 H t σ A→∀ {i:Nat}{d:D},t[i]?=some (.val d)→∃v,σ[i]?=some (some v)∧Rep K H0 d v:=by
 intro _ _ _ h
 induction h with
 |nil =>
  intro i d e
  simp at e
 |@no _ _ _ _ r ih =>
  intro i d e
  cases i with
  |zero =>
   simp at e
  |succ i =>
   simpa using ih (i:=i) (by simpa using e)
 |@val _ v _ _ _ h r ih =>
  intro i d e
  cases i with
  |zero =>
   simp at e;subst e;exact⟨v,rfl,h⟩
  |succ i =>
   simpa using ih (i:=i) (by simpa using e)
 |@own _ _ _ _ _ _ _ _ r ih =>
  intro i d e
  cases i with
  |zero =>
   simp at e
  |succ i =>
   simpa using ih (i:=i) (by simpa using e)
 |@dp _ _ _ _ _ _ _ r ih =>
  intro i d e
  cases i with
  |zero =>
   simp at e
  |succ i =>
   simpa using ih (i:=i) (by simpa using e)
theorem RSl.getOwn {K:zav4}{H0 H:Hp}:∀ {t:Th}{σ:L2.St}{A:List Addr},RSl K H0 H t σ A→∀ {i:Nat}{ds:List D},t[i]?=some (.own ds)→∃p vs,σ[i]?=some (some (.ref p))∧p∈A∧H p=some (.lst vs)∧Reps K H0 ds vs:=by
 intro _ _ _ h
 induction h with
 |nil =>
  intro i d e
  simp at e
 |@no _ _ _ _ r ih =>
  intro i d e
  cases i with
  |zero =>
   simp at e
  |succ i =>
   simpa using ih (i:=i) (by simpa using e)
 |@val _ v _ _ _ h r ih =>
  intro i d e
  cases i with
  |zero =>
   simp at e
  |succ i =>
   simpa using ih (i:=i) (by simpa using e)
 |@own p vs _ _ _ _ h1 h2 r ih =>
  intro i d e
  cases i with
  |zero =>
   simp at e;subst e;exact⟨p,vs,rfl,zaw0 ..,h1,h2⟩
  |succ i =>
   obtain⟨p,vs,a,b,c,f⟩:=ih (i:=i) (ds:=d) (by simpa using e)
   exact⟨p,vs,by simpa using a,zav8 _ b,c,f⟩
 |@dp _ _ _ _ _ _ _ r ih =>
  intro i d e
  cases i with
  |zero =>
   simp at e
  |succ i =>
   obtain⟨p,vs,a,b,c,f⟩:=ih (i:=i) (ds:=d) (by simpa using e)
   exact⟨p,vs,by simpa using a,zav5 _ b,c,f⟩
theorem RSl.getDp {K:zav4}{H0 H:Hp}:∀ {t:Th}{σ:L2.St}{A:List Addr},RSl K H0 H t σ A→A.Nodup→∀ {i:Nat}{d:D},t[i]?=some (.dp d)→∃v B,σ[i]?=some (some v)∧(∀b∈B,b∈A)∧B.Nodup∧RepD K H0 H d v B:=by
 intro _ _ _ h
 induction h with
 |nil =>
  intro n i d e
  simp at e
 |@no _ _ _ _ r ih =>
  intro n i d e
  cases i with
  |zero =>
   simp at e
  |succ i =>
   simpa using ih n (i:=i) (by simpa using e)
 |@val _ v _ _ _ h r ih =>
  intro n i d e
  cases i with
  |zero =>
   simp at e
  |succ i =>
   simpa using ih n (i:=i) (by simpa using e)
 |@own _ _ _ _ _ _ _ _ r ih =>
  intro n i d e
  cases i with
  |zero =>
   simp at e
  |succ i =>
   obtain⟨v,B,a,b,n',c⟩:=ih (zay8.mp n).2 (i:=i) (d:=d) (by simpa using e)
   exact⟨v,B,by simpa using a,fun x hx=>zav8 _ (b x hx),n',c⟩
 |@dp _ v B _ _ _ h r ih =>
  intro n i d e
  cases i with
  |zero =>
   simp at e;subst e;exact⟨v,B,rfl,fun x hx=>zaw1 _ hx,(zay0.mp n).1,h⟩
  |succ i =>
   obtain⟨v,B,a,b,n',c⟩:=ih (zay0.mp n).2.1 (i:=i) (d:=d) (by simpa using e)
   exact⟨v,B,by simpa using a,fun x hx=>zav5 _ (b x hx),n',c⟩
structure Gr (A:List Addr) (H:Hp) (A':List Addr) (H':Hp):Prop where
 kp:∀b o,b∉A→H b=some o→H' b=some o
 al:∀b∈A,H' b≠none
 nw:∀b∈A',b∈A∨H b=none
theorem Gr.refl {A:List Addr}{H:Hp} (m:Lists H A):Gr A H A H:=⟨fun _ _ _ h=>h,fun b hb=>by obtain⟨vs,q⟩:=m b hb;rw [q];simp,fun b h=>.inl h⟩
theorem Gr.of_same {A:List Addr}{H H':Hp} (m:Lists H A) (e:Same H H'):Gr A H A H':=⟨fun _ _ _ h=>e _ _ h,fun b hb=>by obtain⟨vs,q⟩:=m b hb;rw [e _ _ q];simp,fun b h=>.inl h⟩
theorem Gr.trans {A A1 A2:List Addr}{H H1 H2:Hp} (a:Gr A H A1 H1) (b:Gr A1 H1 A2 H2):Gr A H A2 H2 where
 kp:=fun x o n h=>b.kp x o (fun z=>by rcases a.nw x z with q | q;exact n q;rw [q]at h;cases h) (a.kp x o n h)
 al:=fun x hx=>by
  by_cases z:x∈A1
  ·exact b.al x z
  ·have:=a.al x hx
   cases q:H1 x with
   |none=>exact absurd q this
   |some o=>rw [b.kp x o z q];simp
 nw:=fun x hx=>by
  rcases b.nw x hx with q | q
  ·exact a.nw x q
  ·by_cases z:x∈A
   ·exact .inl z
   ·refine .inr ?_
    cases w:H x with
    |none=>rfl
    |some o=>rw [a.kp x o z w]at q;cases q
theorem Gr.same {F A A':List Addr}{H H':Hp} (g:Gr A H A' H'):Same (hide (A++F) H) (hide (A'++F) H'):=fun b o h=>by
 obtain⟨n,h⟩:=zd4 h
 have n1:b∉A:=fun z=>n (zaw1 _ z)
 refine zb0 (g.kp b o n1 h) fun z=>?_
 rcases zax0.mp z with z | z
 ·rcases g.nw b z with q | q
  ·exact n1 q
  ·rw [q]at h;cases h
 ·exact n (zav5 _ z)
end DL
namespace DL
open PySem.Spec L2
abbrev DE:=Th→Option Ev
noncomputable def dE (K:zav4) (F:List Addr) (f:DE):TE:=fun σ H Q => ∃A t r,RS K F H A t σ∧f t=some r∧∀v H',Same H H'→RepEv K F A H H' r v→Q v H'
theorem PE.imp {X:Cx}{e:Expr}{t t':TE} (h:PE X e t) (i:∀σ H Q,t' σ H Q→t σ H Q):PE X e t':=fun pins s σ H Q I q=>h pins s σ H Q I (i σ H Q q)
section
variable {X:Cx}{F:List Addr}{a b c:Expr}{fa fb fc:DE}{pos:Pos}
noncomputable def dVar (i:Nat):DE:=fun t=>match t[i]? with
 |some (.val d)=>some (.cl d)
 |some (.own xs)=>some (.tm (.lst xs))
 |some (.dp d)=>some (.tm d)
 |_=>none
theorem za0 (i:Nat) {x:Str} (hN:X.N[i]?=some x:=by rfl) (hv:Vis X.env.scope x:=by first | exact Or.inl rfl | exact Or.inr (Or.inl rfl) |exact Or.inr (Or.inr rfl)) (hd:(x ==("__debug__":Str))=false:=by decide)
  (hcd:(x ==("__classdict__":Str))=false:=by decide):PE X (.Name x pos) (dE X.K F (dVar i)):=by
 refine PE.imp (zk5 (i:=i) hN hv hd hcd) ?_
 rintro σ H Q ⟨A,t,r,R,e,h⟩
 unfold dVar at e
 split at e
 ·rename_i d q
  cases e
  obtain⟨v,h1,h2⟩:=R.rel.getVal q
  exact⟨v,h1,h v H (Same.refl H) h2⟩
 ·rename_i ds q
  cases e
  obtain⟨p,vs,h1,h2,h3,h4⟩:=R.rel.getOwn q
  refine⟨_,h1,h _ H (Same.refl H) ?_⟩
  exact .lst (SqL.of (zb0 h3 (R.dj p h2))) (Reps.mono (zb4 H fun a z=>zav5 _ z) h4)
 ·rename_i d q
  cases e
  obtain⟨v,B,h1,h2,h0,h3⟩:=R.rel.getDp R.nd q
  refine⟨_,h1,h _ H (Same.refl H) ?_⟩
  exact h3.rep (zb4 H fun a z=>zav5 _ z) fun b hb o w=>zb0 w (R.dj b (h2 b hb))
 ·cases e
def dC (d:D):DE:=fun _=>some (.cl d)
theorem zb2 {i j pos}:PE X (.Constant (.int i) j pos) (dE X.K F (dC (.int i))):=PE.imp pe_int fun σ H Q ⟨A,t,r,R,e,h⟩=>by cases e;exact h _ H (Same.refl H) (.int i)
theorem zw5 {b j pos}:PE X (.Constant (.bool b) j pos) (dE X.K F (dC (.bl b))):=PE.imp pe_bl fun σ H Q ⟨A,t,r,R,e,h⟩=>by cases e;exact h _ H (Same.refl H) (.bl b)
noncomputable def OpD (X:Cx) (F:List Addr) (f:Value→Value→Sem Value) (k:Ev→Ev→Option Ev):Prop :=
 ∀(pins:List (Addr×Obj)) (s:zaw4) (σ:L2.St) (H0 H:Hp) (A:List Addr) (x y:V) (v u:Value) (Q:VK) (r1 r2 r:Ev),Inv X pins σ H s→Lists H0 (A++F)→Same H0 H→RelV x v→RelV y u →
  RepEv X.K F A H0 H r1 x→RepEv X.K F A H0 H r2 y→k r1 r2=some r→(∀z H',Same H H'→RepEv X.K F A H0 H' r z→Q z H')→wpAny (model X.prog X.w) X.A (f v u) (EP X pins σ Q) X.xe s
def d2 (k:Ev→Ev→Option Ev) (fa fb:DE):DE:=fun t=>(fa t).bind fun r1=>(fb t).bind fun r2=>k r1 r2
theorem two {k:Ev→Ev→Option Ev}{σ:L2.St}{H:Hp}{Q:VK} (h:dE X.K F (d2 k fa fb) σ H Q):∃A t r1 r2 r,RS X.K F H A t σ∧fa t=some r1∧fb t=some r2∧k r1 r2=some r ∧
  (∀v H',Same H H'→RepEv X.K F A H H' r v→Q v H')∧dE X.K F fa σ H fun x H1=>dE X.K F fb σ H1 fun y H2=>Same H H2∧RepEv X.K F A H H2 r1 x∧RepEv X.K F A H H2 r2 y:=by
 obtain⟨A,t,r,R,e,h⟩:=h
 unfold d2 at e
 cases e1:fa t with
 |none=>rw [e1]at e;cases e
 |some r1 =>
  cases e2:fb t with
  |none=>rw [e1,e2]at e;cases e
  |some r2 =>
   rw [e1,e2]at e
   exact⟨A,t,r1,r2,r,R,e1,e2,e,h,A,t,r1,R,e1,fun x H1 g1 q1=>⟨A,t,r2,R.grow g1,e2,fun y H2 g2 q2=>⟨g1.trans g2,q1.mono g2,q2.back g1⟩⟩⟩
theorem zc4 {op:Operator}{k:Ev→Ev→Option Ev} (ho:OpD X F (binaryOp op) k) (ha:PE X a (dE X.K F fa)) (hb:PE X b (dE X.K F fb)):PE X (.BinOp a op b pos) (dE X.K F (d2 k fa fb)):=by
 intro pins s σ H Q I h
 obtain⟨A,t,r1,r2,r,R,e1,e2,e,h,w⟩:=two h
 refine wpAny_BinOp (bin ha hb I w fun v u s2 x y H2 I2 rx ry q=>?_)
 obtain⟨g,q1,q2⟩:=q
 exact ho pins s2 σ H H2 A x y v u Q r1 r2 r I2 R.mu g rx ry q1 q2 e fun z H' g'=>h z H' (g.trans g')
noncomputable def kI (C:Int→Int→Bool) (g:Int→Int→D):Ev→Ev→Option Ev:=fun r1 r2=>match r1.d,r2.d with
 |.int i,.int j=>if C i j then some (.cl (g i j)) else none
 |_,_=>none
theorem zd2 {K:zav4}{H:Hp}{i:Int}{v:V} (h:Rep K H (.int i) v):v=.int i:=by cases h;rfl
theorem zt0 {f:Value→Value→Sem Value}{C:Int→Int→Prop}{g:Int→Int→V}{C':Int→Int→Bool}{g':Int→Int→D} (h:OpR X f (rI C g)) (hc:∀i j,C' i j=true→C i j)
  (hg:∀H i j,Rep X.K H (g' i j) (g i j)):OpD X F f (kI C' g'):=by
 intro pins s σ H0 H A x y v u Q r1 r2 r I m g0 rx ry q1 q2 e hq
 have p1:=q1.full
 have p2:=q2.full
 unfold kI at e
 split at e
 ·rename_i i j d1 d2
  split at e
  ·rename_i c
   cases e
   rw [d1]at p1;rw [d2]at p2
   cases zd2 p1;cases zd2 p2
   exact h pins s σ H _ _ v u Q I rx ry ⟨i,j,rfl,rfl,hc i j c,hq _ H (Same.refl H) (hg _ i j)⟩
  ·cases e
 ·cases e
theorem zam4 {f:Value→Value→Sem Value}{g:Int→Int→V} (h:OpR X f (rI0 g)):OpR X f (rI (fun _ _=>True) g):=fun pins s σ H x y v u Q I rx ry ⟨i,j,e1,e2,_,q⟩=>h pins s σ H x y v u Q I rx ry ⟨i,j,e1,e2,q⟩
def tt2:Int→Int→Bool:=fun _ _=>true
theorem od_add:OpD X F (binaryOp .Add) (kI tt2 fun i j=>.int (i+j)):=zt0 (zam4 op_add) (fun _ _ _=>trivial) fun _ _ _=>.int _
theorem od_sub:OpD X F (binaryOp .Sub) (kI tt2 fun i j=>.int (i - j)):=zt0 (zam4 op_sub) (fun _ _ _=>trivial) fun _ _ _=>.int _
def bnd:Nat:=2 ^ 4096
def sm (i:Int):Bool:=decide (i.natAbs<bnd)
def cDiv (_ j:Int):Bool:=sm j&&decide (j≠0)
theorem zap7 {n k:Nat} (h:n<2 ^ k):n.log2≤k:=by
 by_cases z:n=0
 ·subst z;simp
 ·exact zbf1 ((Nat.log2_lt z).mpr h)
theorem cDiv.ok {i j:Int} (h:cDiv i j=true):j≠0∧j.natAbs.log2<9000:=by
 simp only [cDiv,sm,zaw5,decide_eq_true_eq]at h
 have:=zap7 h.1
 exact⟨h.2,by lia⟩
theorem zao4:OpD X F (binaryOp .FloorDiv) (kI cDiv fun i j=>.int (i.fdiv j)):=zt0 (C:=fun _ j=>j≠0∧j.natAbs.log2<9000) (opI fun _ _ _ _ _ _ _ hc q=>floordiv_int hc.1 q (.inl (PyProof.noPylong_of_log2 hc.2))) (fun _ _ h=>cDiv.ok h) fun _ _ _=>.int _
def cMod (_ j:Int):Bool:=decide (j≠0)
theorem zm0:OpD X F (binaryOp .Mod) (kI cMod fun i j=>.int (i.fmod j)):=zt0 op_modN (fun i j h=>by simpa [cMod] using h) fun _ _ _=>.int _
def cPow (i j:Int):Bool:=decide (0≤j∧j≤1000∧i.natAbs<18446744073709551616)
theorem zao2:OpD X F (binaryOp .Pow) (kI cPow fun i j=>.int (i ^ j.toNat)):=zt0 op_pow (fun i j h=>by
 simp only [cPow,decide_eq_true_eq]at h
 exact⟨h.1,by lia,by show i.natAbs<2 ^ 64;lia⟩) fun _ _ _=>.int _
theorem od_lt:OpD X F (compareOp .Lt) (kI tt2 fun i j=>.bl (decide (i<j))):=zt0 (zam4 op_lt) (fun _ _ _=>trivial) fun _ _ _=>.bl _
theorem od_le:OpD X F (compareOp .LtE) (kI tt2 fun i j=>.bl (decide (i≤j))):=zt0 (zam4 op_le) (fun _ _ _=>trivial) fun _ _ _=>.bl _
theorem od_gt:OpD X F (compareOp .Gt) (kI tt2 fun i j=>.bl (decide (j<i))):=zt0 (zam4 op_gt) (fun _ _ _=>trivial) fun _ _ _=>.bl _
def kOr (k k':Ev→Ev→Option Ev):Ev→Ev→Option Ev:=fun r1 r2=>match k r1 r2 with
 |some r=>some r
 |none=>k' r1 r2
theorem OpD.or {f:Value→Value→Sem Value}{k k':Ev→Ev→Option Ev} (h:OpD X F f k) (h':OpD X F f k'):OpD X F f (kOr k k'):=by
 intro pins s σ H0 H A x y v u Q r1 r2 r I m g0 rx ry q1 q2 e hq
 unfold kOr at e
 split at e
 ·rename_i z
  cases e
  exact h pins s σ H0 H A x y v u Q r1 r2 _ I m g0 rx ry q1 q2 z hq
 ·exact h' pins s σ H0 H A x y v u Q r1 r2 _ I m g0 rx ry q1 q2 e hq
def d1 (k:Ev→Option Ev) (fa:DE):DE:=fun t=>(fa t).bind k
def kNeg:Ev→Option Ev:=fun r=>match r.d with
 |.int i=>some (.cl (.int (-i)))
 |_=>none
theorem zs9 (ha:PE X a (dE X.K F fa)):PE X (.UnaryOp .USub a pos) (dE X.K F (d1 kNeg fa)):=by
 refine PE.imp (pe_un un_neg ha) ?_
 rintro σ H Q ⟨A,t,r,R,e,h⟩
 unfold d1 at e
 cases e1:fa t with
 |none=>rw [e1]at e;cases e
 |some r1 =>
  rw [e1]at e
  refine⟨A,t,r1,R,e1,fun x H1 g1 q1=>?_⟩
  have e:kNeg r1=some r:=e
  unfold kNeg at e
  split at e
  ·rename_i i z
   cases e
   have p:=q1.full
   rw [z]at p
   exact⟨i,zd2 p,h _ H1 g1 (.int _)⟩
  ·cases e
end
end DL
namespace DL
open PySem.Spec L2
inductive RepEvs (K:zav4) (F A:List Addr) (H H':Hp):List Ev→List V→Prop
 |nil:RepEvs K F A H H' [] []
 |cons {r:Ev}{v:V}{rs:List Ev}{vs:List V}:RepEv K F A H H' r v→RepEvs K F A H H' rs vs→RepEvs K F A H H' (r::rs) (v::vs)
theorem RepEvs.back {K:zav4}{F A:List Addr}{H0 H H1:Hp} (e:Same H0 H):∀ {rs:List Ev}{vs:List V},RepEvs K F A H H1 rs vs→RepEvs K F A H0 H1 rs vs
 |_,_,.nil=>.nil
 |_,_,.cons h r=>.cons (h.back e) (RepEvs.back e r)
theorem RepEvs.full {K:zav4}{F A:List Addr}{H H':Hp}:∀ {rs:List Ev}{vs:List V},RepEvs K F A H H' rs vs→Reps K H' (rs.map Ev.d) vs
 |_,_,.nil=>.nil
 |_,_,.cons h r=>.cons h.full (RepEvs.full r)
theorem RepEvs.cleanF {K:zav4}{F A:List Addr}{H H':Hp} (m:Lists H (A++F)):∀ {rs:List Ev}{vs:List V},RepEvs K F A H H' rs vs→Reps K (hide F H') (rs.map Ev.d) vs
 |_,_,.nil=>.nil
 |_,_,.cons h r=>.cons (h.cleanF m) (RepEvs.cleanF m r)
theorem RepEvs.clean {K:zav4}{F A:List Addr}{H H':Hp} (m:Lists H (A++F)) (e:Same H H'):∀ {rs:List Ev}{vs:List V},RepEvs K F A H H' rs vs→rs.all Ev.ok=true→Reps K (hide (A++F) H') (rs.map Ev.d) vs
 |_,_,.nil,_=>.nil
 |_,_,.cons h r,c=>by
  simp only [zaz6,zaw5]at c
  exact .cons (h.clean m e c.1) (RepEvs.clean m e r c.2)
abbrev DA:=Th→Option (List Ev)
noncomputable def dA (K:zav4) (F:List Addr) (f:DA):TA:=fun σ H Q => ∃A t rs,RS K F H A t σ∧f t=some rs∧∀vs H',Same H H'→RepEvs K F A H H' rs vs→Q vs H'
theorem PA.imp {X:Cx}{e:List Expr}{t t':TA} (h:PA X e t) (i:∀σ H Q,t' σ H Q→t σ H Q):PA X e t':=fun pos pins s σ H Q I q=>h pos pins s σ H Q I (i σ H Q q)
def dNil:DA:=fun _=>some []
def za2 (f:DE) (g:DA):DA:=fun t=>(f t).bind fun r=>(g t).bind fun rs=>some (r::rs)
section
variable {X:Cx}{F:List Addr}{a b c:Expr}{es:List Expr}{fa fb fc:DE}{g:DA}{pos:Pos}
theorem za7:PA X [] (dA X.K F dNil):=PA.imp zk6 fun σ H Q ⟨A,t,rs,R,e,h⟩=>by cases e;exact h [] H (Same.refl H) .nil
theorem za1 (ha:PE X a (dE X.K F fa)) (hr:PA X es (dA X.K F g)) (hs:zax8 (a::es) X.env=(false,eval a X.env)::zax8 es X.env:=by rfl):PA X (a::es) (dA X.K F (za2 fa g)):=by
 refine PA.imp (zg3 ha hr hs) ?_
 rintro σ H Q ⟨A,t,rs,R,e,h⟩
 unfold za2 at e
 cases e1:fa t with
 |none=>rw [e1]at e;cases e
 |some r1 =>
  cases e2:g t with
  |none=>rw [e1,e2]at e;cases e
  |some rs2 =>
   rw [e1,e2]at e
   cases e
   exact⟨A,t,r1,R,e1,fun x H1 g1 q1=>⟨A,t,rs2,R.grow g1,e2,fun xs H2 g2 q2=>h _ _ (g1.trans g2) (.cons (q1.mono g2) (q2.back g1))⟩⟩
noncomputable def kTup:List Ev→Option Ev:=fun rs=>if rs.length≤1000 then (if rs.all Ev.ok then some (.cl (.tup (rs.map Ev.d))) else some (.tm (.tup (rs.map Ev.d)))) else none
def dT1 (k:List Ev→Option Ev) (g:DA):DE:=fun t=>(g t).bind k
theorem RepEvs.length {K:zav4}{F A:List Addr}{H H':Hp}:∀ {rs:List Ev}{vs:List V},RepEvs K F A H H' rs vs→vs.length=rs.length
 |_,_,.nil=>rfl
 |_,_,.cons _ r=>by simp [RepEvs.length r]
theorem le_line {n:Nat} (h:n≤100000):n≤sizeLine:=zaz5 h (by rw [sizeLine_eq];decide)
theorem zb8 {H:Hp}{p:Addr}{o:HO} (h:H p=none):Same H (upd H p o):=fun b u e=>by rw [za3 (fun z=>by rw [z,h]at e;cases e)];exact e
theorem zan5 {x1} (h:PA X es (dA X.K F g)):PE X (.Tuple es x1 pos) (dE X.K F (dT1 kTup g)):=by
 refine PE.imp (pe_tup h) ?_
 rintro σ H Q ⟨A,t,r,R,e,h⟩
 unfold dT1 at e
 cases e1:g t with
 |none=>rw [e1]at e;cases e
 |some rs =>
  rw [e1]at e
  have e:kTup rs=some r:=e
  unfold kTup at e
  split at e
  case isFalse=>cases e
  rename_i hl
  refine⟨A,t,rs,R,e1,fun vs H1 g1 q1=>⟨by rw [q1.length];exact le_line (by lia),fun p hp=>?_⟩⟩
  have s1:=zb8 (o:=HO.tup vs) hp
  refine h _ _ (g1.trans s1) ?_
  have np:p∉A++F:=zc0 (R.mu.mono g1) hp
  split at e
  ·rename_i c
   cases e
   exact .tup (SqT.of (zb0 za4 np)) (Reps.mono (zb6 s1) (q1.clean R.mu g1 c))
  ·cases e
   exact .tup (SqT.of (zb0 za4 fun z=>np (zav5 _ z))) (Reps.mono (zb6 s1) (q1.cleanF R.mu))
def kLst:List Ev→Option Ev:=fun rs=>if rs.length≤1000∧rs.all Ev.ok then some (.nw (rs.map Ev.d)) else none
theorem zi7 {P:List Addr}{H:Hp}{p:Addr}{o:HO} (h:H p=none):Same (hide P H) (hide (p::P) (upd H p o)):=fun b u e=>by
 obtain⟨n,e⟩:=zd4 e
 have nb:b≠p:=fun z=>by rw [z,h]at e;cases e
 refine zb0 (by rw [za3 nb];exact e) fun z=>?_
 rcases zaw6.mp z with z | z
 ·exact nb z
 ·exact n z
theorem zf4 (h:PA X es (dA X.K F g)):PE X (.List es pos) (dE X.K F (dT1 kLst g)):=by
 refine PE.imp (pe_lst h) ?_
 rintro σ H Q ⟨A,t,r,R,e,h⟩
 unfold dT1 at e
 cases e1:g t with
 |none=>rw [e1]at e;cases e
 |some rs =>
  rw [e1]at e
  have e:kLst rs=some r:=e
  unfold kLst at e
  split at e
  case isFalse=>cases e
  rename_i hl
  cases e
  refine⟨A,t,rs,R,e1,fun vs H1 g1 q1=>⟨by rw [q1.length];exact le_line (by lia),fun p hp=>?_⟩⟩
  have s1:=zb8 (o:=HO.lst vs) hp
  refine h _ _ (g1.trans s1) ⟨p,vs,rfl,?_,za4,Reps.mono (zi7 hp) (q1.clean R.mu g1 hl.2)⟩
  exact Same.free g1 hp
noncomputable def spD (K:zav4) (G:List D→Option Ev):Sp:=fun vs H Q _ => ∃Fo ds r,Lists H Fo∧Reps K (hide Fo H) ds vs∧G ds=some r∧∀v H',Same H H'→RepEv K Fo [] H H' r v→Q v H'
noncomputable def upEv (ok:Bool) (r:Ev):Ev:=if ok then (match r with
  |.cl d=>.cl d
  |.tm d=>.cl d
  |.nw xs=>.nw xs
  |.dn d=>.dn d) else match r with
  |.cl d=>if flat d then .cl d else .tm d
  |.tm d=>if flat d then .cl d else .tm d
  |.nw xs=>if flats xs then .nw xs else .tm (.lst xs)
  |.dn d=>.dn d
def zc5 (G:List D→Option Ev):List Ev→Option Ev:=fun rs=>(G (rs.map Ev.d)).map (upEv (rs.all Ev.ok))
theorem call_up {K:zav4}{A:List Addr}{G:List D→Option Ev}{H0 H:Hp}{rs:List Ev}{r:Ev}{vs:List V}{Q:VK}{E:XK} (m:Lists H0 (A++F)) (g:Same H0 H) (q:RepEvs K F A H0 H rs vs) (e:zc5 G rs=some r)
  (h:∀v H',Same H H'→RepEv K F A H0 H' r v→Q v H'):spD K G vs H Q E:=by
 unfold zc5 at e
 cases e1:G (rs.map Ev.d) with
 |none=>rw [e1]at e;cases e
 |some r0 =>
  rw [e1]at e
  have e:upEv (rs.all Ev.ok) r0=r:=by simpa using e
  have mH:=m.mono g
  by_cases c:rs.all Ev.ok=true
  ·refine⟨A++F,rs.map Ev.d,r0,mH,q.clean m g c,e1,fun v H' g' w=>h v H' g' ?_⟩
   rw [c]at e
   subst e
   cases r0 with
   |cl d=>exact w
   |tm d=>exact w
   |nw xs =>
    obtain⟨p,us,rfl,h1,h2,h3⟩:=w
    exact⟨p,us,rfl,Same.free g h1,h2,h3⟩
   |dn d =>
    obtain⟨B,h1,h2,h3⟩:=w
    exact⟨B,h1,fun b hb=>Same.free g (h2 b hb),h3⟩
  ·refine⟨F,rs.map Ev.d,r0,fun p hp=>mH p (zav5 _ hp),q.cleanF m,e1,fun v H' g' w=>h v H' g' ?_⟩
   have c:rs.all Ev.ok=false:=by simpa using c
   rw [c]at e
   subst e
   have m':=mH.mono g'
   cases r0 with
   |cl d =>
    show RepEv K F A H0 H' (if flat d then .cl d else .tm d) v
    split
    ·rename_i f;exact Rep.hid m' f (Rep.mono (za6 _ _) w)
    ·exact w
   |tm d =>
    show RepEv K F A H0 H' (if flat d then .cl d else .tm d) v
    split
    ·rename_i f;exact Rep.hid m' f (Rep.mono (za6 _ _) w)
    ·exact w
   |nw xs =>
    obtain⟨p,us,rfl,h1,h2,h3⟩:=w
    have np:p∉A++F:=zc0 mH h1
    show RepEv K F A H0 H' (if flats xs then .nw xs else .tm (.lst xs)) _
    split
    ·rename_i f
     refine⟨p,us,rfl,Same.free g h1,h2,Reps.hid (P:=p ::(A++F)) (fun b hb=>?_) f (Reps.mono (za6 _ _) h3)⟩
     rcases zaw6.mp hb with rfl | hb
     ·exact⟨mL us,h2⟩
     ·exact m' b hb
    ·exact .lst (SqL.of (zb0 h2 fun z=>np (zav5 _ z))) (Reps.mono (zb4 H' fun b z=>zav8 _ z) h3)
   |dn d =>
    obtain⟨B,h1,h2,h3⟩:=w
    exact⟨B,h1,fun b hb=>Same.free g (h2 b hb),h3.hid (h3.lists.app m') (za6 _ _)⟩
theorem ped_call {k:Nat}{f:Addr}{fd:FuncData}{ps:List Str}{G:List D→Option Ev}{x:Str}{p:Pos} (Fn:FnOk X.prog X.w X.K X.mg X.base CX0 k f fd ps (spD X.K G)) (hr:Room k X.A) (hg:Gl X x) (hm:X.mg x=some (.ref f)) (hk:zba4 X.K (.ref f)=true)
  (hb:Binds X.K fd ps []) (ha:PA X (a::es) (dA X.K F g)) (hdb:(x ==("__debug__":Str))=false:=by decide) (he:zax8 (a::es) X.env=(false,eval a X.env)::zax8 es X.env:=by rfl)
  (hpl:(zbe1 pos (zax8 es X.env)).any (·.1)=false:=by rfl):PE X (.Call (.Name x p) (a::es) [] pos) (dE X.K F (dT1 (zc5 G) g)):=by
 refine PE.imp (pe_call Fn hr hg hm hk hb .nil (E:=E0) pass0 ha hdb he hpl) ?_
 rintro σ H Q ⟨A,t,r,R,e,h⟩
 unfold dT1 at e
 cases e1:g t with
 |none=>rw [e1]at e;cases e
 |some rs =>
  rw [e1]at e
  refine⟨A,t,rs,R,e1,fun vs H1 g1 q1=>?_⟩
  show spD X.K G (vs++[]) H1 Q E0
  rw [zbc3]
  exact call_up R.mu g1 q1 e fun v H' g' w=>h v H' (g1.trans g') w
noncomputable def CallD (X:Cx) (F:List Addr) (f:Value) (k:List Ev→Option Ev):Prop :=
 ∀(pins:List (Addr×Obj)) (s:zaw4) (σ:L2.St) (H0 H:Hp) (A:List Addr) (xs:List V) (us:List Value) (Q:VK) (rs:List Ev) (r:Ev),Inv X pins σ H s→Lists H0 (A++F)→Same H0 H→Vals xs us→RepEvs X.K F A H0 H rs xs→k rs=some r →
  (∀z H',Same H H'→RepEv X.K F A H0 H' r z→Q z H')→wpAny (model X.prog X.w) X.A (call f us) (EP X pins σ Q) X.xe s
theorem PA.run (ha:PA X es (dA X.K F g)) {k:List Ev→Option Ev}{f:Value} (hc:CallD X F f k) {pins:List (Addr×Obj)}{s:zaw4}{σ:L2.St}{H:Hp}{Q:VK} (p:Pos) (I:Inv X pins σ H s) (h:dE X.K F (dT1 k g) σ H Q) :
  wpAny (model X.prog X.w) X.A (spliced (zbe1 p (zax8 es X.env))) (fun us s1=>wpAny (model X.prog X.w) X.A (call f us) (EP X pins σ Q) X.xe s1) X.xe s:=by
 obtain⟨A,t,r,R,e,h⟩:=h
 unfold dT1 at e
 cases e1:g t with
 |none=>rw [e1]at e;cases e
 |some rs =>
  rw [e1]at e
  refine thn (ha p pins s σ H (fun vs H1=>Same H H1∧RepEvs X.K F A H H1 rs vs) I ⟨A,t,rs,R,e1,fun vs H1 g1 q1=>⟨g1,q1⟩⟩) fun us s1 ⟨vs,H1,I1,r1,g1,q1⟩=>?_
  exact hc pins s1 σ H H1 A vs us Q rs r I1 R.mu g1 r1 q1 e fun z H' g'=>h z H' (g1.trans g')
theorem zb9 {k:List Ev→Option Ev}{x:Str}{p:Pos}{id:String} (hc:CallD X F (.builtin id) k) (hg:Gl X x) (hm:X.mg x=none) (hv:bootBuiltins x=some (.builtin id)) (ha:PA X (a::es) (dA X.K F g)) (hn:x≠"__name__":=by decide) (hdb:(x ==("__debug__":Str))=false:=by decide)
  (he:zax8 (a::es) X.env=(false,eval a X.env)::zax8 es X.env:=by rfl) (hpl:(zbe1 pos (zax8 es X.env)).any (·.1)=false:=by rfl):PE X (.Call (.Name x p) (a::es) [] pos) (dE X.K F (dT1 k g)):=by
 intro pins s σ H Q I h
 refine wpAny_Call_Name_kw (zj3 I hg hm hv ?_ hn hdb)
 exact PyProof.Rows.callWith_builtin1 (PA.run ha hc pos I h) he hpl
theorem zo0 {k:List Ev→Option Ev}{x:Str}{p:Pos}{T:String} (hc:CallD X F (.type T) k) (hg:Gl X x) (hm:X.mg x=none) (hv:bootBuiltins x=some (.type T)) (ha:PA X (a::es) (dA X.K F g)) (hn:x≠"__name__":=by decide) (hdb:(x ==("__debug__":Str))=false:=by decide)
  (he:zax8 (a::es) X.env=(false,eval a X.env)::zax8 es X.env:=by rfl) (hpl:(zbe1 pos (zax8 es X.env)).any (·.1)=false:=by rfl):PE X (.Call (.Name x p) (a::es) [] pos) (dE X.K F (dT1 k g)):=by
 intro pins s σ H Q I h
 refine wpAny_Call_Name_kw (zj3 I hg hm hv ?_ hn hdb)
 exact PyProof.Rows.callWith_type1 (PA.run ha hc pos I h) he hpl
theorem CallD.of {f:Value}{r:List V→Hp→VK→Prop}{k:List Ev→Option Ev} (h:zl5 X f r)
  (i:∀(H0 H:Hp) (A:List Addr) (xs:List V) (rs:List Ev) (e:Ev) (Q:VK),Lists H0 (A++F)→Same H0 H→RepEvs X.K F A H0 H rs xs→k rs=some e→(∀z H',Same H H'→RepEv X.K F A H0 H' e z→Q z H')→r xs H Q):CallD X F f k :=
 fun pins s σ H0 H A xs us Q rs e I m g v q ek hq=>h pins s σ H xs us Q I v (i H0 H A xs rs e Q m g q ek hq)
noncomputable def kAbs:List Ev→Option Ev:=fun rs=>match rs with
 |[r]=>(match r.d with
  |.int i=>some (.cl (.int (if i<0 then -i else i)))
  |_=>none)
 |_=>none
theorem cd_abs:CallD X F (.builtin "abs") kAbs:=CallD.of call_abs fun H0 H A xs rs e Q m g q ek hq=>by
 unfold kAbs at ek
 split at ek
 ·rename_i r
  split at ek
  ·rename_i i z
   cases ek
   cases q with
   |cons q1 q2 =>
    cases q2
    have p:=q1.full
    rw [z]at p
    cases zd2 p
    exact⟨i,rfl,hq _ H (Same.refl H) (.int _)⟩
  ·cases ek
 ·cases ek
noncomputable def kLen:List Ev→Option Ev:=fun rs=>match rs with
 |[r]=>(match r.d with
  |.lst xs=>some (.cl (.int xs.length))
  |.tup xs=>some (.cl (.int xs.length))
  |_=>none)
 |_=>none
theorem zi1:CallD X F (.builtin "len") kLen:=CallD.of zz4 fun H0 H A xs rs e Q m g q ek hq=>by
 unfold kLen at ek
 split at ek
 ·rename_i r
  cases q with
  |cons q1 q2 =>
   cases q2
   have p:=q1.full
   split at ek
   ·rename_i ds z
    cases ek
    rw [z]at p
    cases p with
    |lst h1 h2=>exact⟨_,_,rfl,.inl h1,by rw [h2.length];exact hq _ H (Same.refl H) (.int _)⟩
   ·rename_i ds z
    cases ek
    rw [z]at p
    cases p with
    |tup h1 h2=>exact⟨_,_,rfl,.inr h1,by rw [h2.length];exact hq _ H (Same.refl H) (.int _)⟩
   ·cases ek
 ·cases ek
end
end DL
namespace DL
open PySem.Spec L2
abbrev DT:=Th→Option Bool
def dT (K:zav4) (F:List Addr) (f:DT):TT:=fun σ H Q => ∃A t b,RS K F H A t σ∧f t=some b∧∀H',Same H H'→Q b H'
theorem PT.imp {X:Cx}{e:Expr}{t t':TT} (h:PT X e t) (i:∀σ H Q,t' σ H Q→t σ H Q):PT X e t':=fun pins s σ H Q I q=>h pins s σ H Q I (i σ H Q q)
theorem PW.imp {X:Cx}{e:Expr}{t t':TT} (h:PW X e t) (i:∀σ H Q,t' σ H Q→t σ H Q):PW X e t':=fun w pins s σ H Q I q=>h w pins s σ H Q I (i σ H Q q)
def dBo (f:DE):DT:=fun t=>(f t).bind fun r=>match r.d with
 |.bl b=>some b
 |_=>none
def dAnd (f g:DT):DT:=fun t=>(f t).bind fun b=>if b then g t else some false
def dOr (f g:DT):DT:=fun t=>(f t).bind fun b=>if b then some true else g t
section
variable {X:Cx}{F:List Addr}{a b c:Expr}{es:List Expr}{fa fb fc:DE}{g g':DA}{ft fu:DT}{pos:Pos}{rest:List Expr}
theorem zd3 {op:CmpOp}{k:Ev→Ev→Option Ev} (ho:OpD X F (compareOp op) k) (ha:PE X a (dE X.K F fa)) (hb:PE X b (dE X.K F fb)) (hm:behindInMarks op b=false:=by first | exact nomark _ | (with_unfolding_all rfl)) :
  PT X (.Compare a [op] [b] pos) (dT X.K F (dBo (d2 k fa fb))):=by
 intro pins s σ H Q I h
 obtain⟨A,t,b',R,e,h⟩:=h
 unfold dBo at e
 cases e1:d2 k fa fb t with
 |none=>rw [e1]at e;cases e
 |some r0 =>
  rw [e1]at e
  have w0:dE X.K F (d2 k fa fb) σ H (fun z H'=>Same H H'∧Rep X.K H' r0.d z):=⟨A,t,r0,R,e1,fun v H' g q=>⟨g,q.full⟩⟩
  obtain⟨A2,t2,r1,r2,r,R2,e1',e2',e3,h3,w⟩:=two w0
  refine wpAny_isTrue_Compare1 (bin ha hb I w fun v u s2 x y H2 I2 rx ry q=>?_) hm
  obtain⟨g,q1,q2⟩:=q
  refine thn (ho pins s2 σ H H2 A2 x y v u (fun z H'=>Same H H'∧Rep X.K H' r0.d z) r1 r2 r I2 R2.mu g rx ry q1 q2 e3 fun z H' g'=>h3 z H' (g.trans g')) fun cc s3 ⟨z,H3,I3,r3,g3,q3⟩=>?_
  have e:(match r0.d with | .bl b=>some b | _=>none)=some b':=e
  split at e
  ·rename_i b2 z2
   cases e
   rw [z2]at q3
   cases q3
   cases r3
   exact wpAny_truthy_bool ⟨H3,I3,h H3 g3⟩
  ·cases e
theorem pwd_and1 (ha:PT X a (dT X.K F ft)):PW X (.BoolOp .And [a] pos) (dT X.K F ft):=pw_and1 ha
theorem zam5 (ha:PT X a (dT X.K F ft)):PW X (.BoolOp .Or [a] pos) (dT X.K F ft):=pw_or1 ha
theorem pwd_and (ha:PT X a (dT X.K F ft)) (hb:PW X (.BoolOp .And (b::rest) pos) (dT X.K F fu)):PW X (.BoolOp .And (a::b::rest) pos) (dT X.K F (dAnd ft fu)):=by
 refine PW.imp (pw_and ha hb) ?_
 rintro σ H Q ⟨A,t,r,R,e,h⟩
 unfold dAnd at e
 cases e1:ft t with
 |none=>rw [e1]at e;cases e
 |some r1 =>
  rw [e1]at e
  refine⟨A,t,r1,R,e1,fun H1 g1=>?_⟩
  cases r1 with
  |true=>exact⟨A,t,r,R.grow g1,e,fun H2 g2=>h H2 (g1.trans g2)⟩
  |false=>cases e;exact h H1 g1
theorem pwd_or (ha:PT X a (dT X.K F ft)) (hb:PW X (.BoolOp .Or (b::rest) pos) (dT X.K F fu)):PW X (.BoolOp .Or (a::b::rest) pos) (dT X.K F (dOr ft fu)):=by
 refine PW.imp (pw_or ha hb) ?_
 rintro σ H Q ⟨A,t,r,R,e,h⟩
 unfold dOr at e
 cases e1:ft t with
 |none=>rw [e1]at e;cases e
 |some r1 =>
  rw [e1]at e
  refine⟨A,t,r1,R,e1,fun H1 g1=>?_⟩
  cases r1 with
  |true=>cases e;exact h H1 g1
  |false=>exact⟨A,t,r,R.grow g1,e,fun H2 g2=>h H2 (g1.trans g2)⟩
end
inductive Out where
 |nx (t:Th) |rt (r:Ev) |bk (t:Th) |ct (t:Th)
abbrev DS:=Th→Option Out
def After (K:zav4) (F A:List Addr) (H:Hp) (N:L2.St→Hp→Prop) (t:Th):Prop := ∀σ' H' A',Gr A H A' H'→RS K F H' A' t σ'→N σ' H'
noncomputable def RetEv (K:zav4) (F A:List Addr) (H H':Hp):Ev→V→Prop
 |.cl d,v=>Rep K (hide F H') d v
 |.tm d,v=>Rep K (hide F H') d v
 |.nw xs,v => ∃p vs,v=.ref p∧(p∈A∨H p=none)∧p∉F∧H' p=some (.lst vs)∧Reps K (hide (p::F) H') xs vs
 |.dn d,v => ∃B,B.Nodup∧(∀b∈B,(b∈A∨H b=none)∧b∉F)∧RepD K (hide (B++F) H') H' d v B
def Back (K:zav4) (F A:List Addr) (H:Hp) (N:VK) (r:Ev):Prop := ∀v H' A',Gr A H A' H'→RetEv K F A H H' r v→N v H'
noncomputable def dS (K:zav4) (F:List Addr) (g:DS):TS:=fun E σ H => ∃A t o,RS K F H A t σ∧g t=some o∧match o with
 |.nx t'=>After K F A H E.nx t'
 |.bk t'=>After K F A H E.bk t'
 |.ct t'=>After K F A H E.ct t'
 |.rt r=>Back K F A H E.rt r
end DL
namespace DL
open PySem.Spec L2
theorem RetEv.back {K:zav4}{F A A1:List Addr}{H H1 H':Hp}{r:Ev}{v:V} (g:Gr A H A1 H1) (h:RetEv K F A1 H1 H' r v):RetEv K F A H H' r v:=by
 cases r with
 |cl d=>exact h
 |tm d=>exact h
 |nw xs =>
  obtain⟨p,vs,rfl,h1,h2,h3,h4⟩:=h
  refine⟨p,vs,rfl,?_,h2,h3,h4⟩
  rcases h1 with h1 | h1
  ·exact g.nw p h1
  ·by_cases z:p∈A
   ·exact .inl z
   ·refine .inr ?_
    cases w:H p with
    |none=>rfl
    |some o=>rw [g.kp p o z w]at h1;cases h1
 |dn d =>
  obtain⟨B,h0,h1,h2⟩:=h
  refine⟨B,h0,fun p hp=>⟨?_,(h1 p hp).2⟩,h2⟩
  rcases (h1 p hp).1 with h1 | h1
  ·exact g.nw p h1
  ·by_cases z:p∈A
   ·exact .inl z
   ·refine .inr ?_
    cases w:H p with
    |none=>rfl
    |some o=>rw [g.kp p o z w]at h1;cases h1
theorem After.back {K:zav4}{F A A1:List Addr}{H H1:Hp}{N:L2.St→Hp→Prop}{t:Th} (h:After K F A H N t) (g:Gr A H A1 H1):After K F A1 H1 N t:=fun σ' H' A' g' R=>h σ' H' A' (g.trans g') R
theorem Back.back {K:zav4}{F A A1:List Addr}{H H1:Hp}{N:VK}{r:Ev} (h:Back K F A H N r) (g:Gr A H A1 H1):Back K F A1 H1 N r:=fun v H' A' g' R=>h v H' A' (g.trans g') (R.back g)
theorem PS.imp {X:Cx}{e:Stmt}{t t':TS} (h:PS X e t) (i:∀E σ H,t' E σ H→t E σ H):PS X e t':=fun pins s σ H D I q=>h pins s σ H D I (i D σ H q)
theorem PSs.imp {X:Cx}{e:List Stmt}{t t':TS} (h:PSs X e t) (i:∀E σ H,t' E σ H→t E σ H):PSs X e t':=fun pins s σ H D I q=>h pins s σ H D I (i D σ H q)
theorem Lists.left {H:Hp}{A F:List Addr} (h:Lists H (A++F)):Lists H A:=fun p hp=>h p (zaw1 _ hp)
def zg5:DS:=fun t=>some (.nx t)
noncomputable def dSeq (g1 g2:DS):DS:=fun t=>(g1 t).bind fun o=>match o with
 |.nx t'=>g2 t'
 |.rt r=>some (.rt r)
 |.bk t'=>some (.bk t')
 |.ct t'=>some (.ct t')
section
variable {X:Cx}{F:List Addr}{a b c:Expr}{es:List Expr}{fa fb fc:DE}{g g1 g2:DS}{ft fu:DT}{pos:Pos}{st:Stmt}{rest:List Stmt}
theorem ze8:PSs X [] (dS X.K F zg5):=PSs.imp pss_nil fun E σ H ⟨A,t,o,R,e,h⟩=>by cases e;exact h σ H A (Gr.refl R.mu.left) R
theorem za5 (h1:PS X st (dS X.K F g1)) (h2:PSs X rest (dS X.K F g2)):PSs X (st::rest) (dS X.K F (dSeq g1 g2)):=by
 refine PSs.imp (pss_cons h1 h2) ?_
 rintro E σ H ⟨A,t,o,R,e,h⟩
 unfold dSeq at e
 cases e1:g1 t with
 |none=>rw [e1]at e;cases e
 |some o1 =>
  rw [e1]at e
  refine⟨A,t,o1,R,e1,?_⟩
  cases o1 with
  |nx t' =>
   intro σ' H' A' g' R'
   refine⟨A',t',o,R',e,?_⟩
   cases o with
   |nx t2=>exact After.back h g'
   |bk t2=>exact After.back h g'
   |ct t2=>exact After.back h g'
   |rt r=>exact Back.back h g'
  |rt r=>cases e;exact h
  |bk t2=>cases e;exact h
  |ct t2=>cases e;exact h
theorem zb3 (h1:PS X st (dS X.K F g1)):PSs X [st] (dS X.K F g1):=pss_one h1
def dIfS (c:DT) (g1 g2:DS):DS:=fun t=>(c t).bind fun b=>if b then g1 t else g2 t
theorem zg1 {s1 s2:List Stmt} (hc:PT X c (dT X.K F ft)) (ha:PSs X s1 (dS X.K F g1)) (hb:PSs X s2 (dS X.K F g2)):PS X (.If c s1 s2 pos) (dS X.K F (dIfS ft g1 g2)):=by
 refine PS.imp (ps_if hc ha hb) ?_
 rintro E σ H ⟨A,t,o,R,e,h⟩
 unfold dIfS at e
 cases e1:ft t with
 |none=>rw [e1]at e;cases e
 |some r1 =>
  rw [e1]at e
  refine⟨A,t,r1,R,e1,fun H1 gs=>?_⟩
  have gr:Gr A H A H1:=Gr.of_same R.mu.left gs
  cases r1 with
  |true =>
   refine⟨A,t,o,R.grow gs,e,?_⟩
   cases o with
   |nx t2=>exact After.back h gr
   |bk t2=>exact After.back h gr
   |ct t2=>exact After.back h gr
   |rt r=>exact Back.back h gr
  |false =>
   refine⟨A,t,o,R.grow gs,e,?_⟩
   cases o with
   |nx t2=>exact After.back h gr
   |bk t2=>exact After.back h gr
   |ct t2=>exact After.back h gr
   |rt r=>exact Back.back h gr
def dRet (f:DE):DS:=fun t=>(f t).bind fun r=>some (.rt r)
theorem RetEv.of {K:zav4}{F A:List Addr}{H H':Hp}{r:Ev}{v:V} (m:Lists H (A++F)) (h:RepEv K F A H H' r v):RetEv K F A H H' r v:=by
 cases r with
 |cl d=>exact Rep.mono (zb4 H' fun a z=>zav5 _ z) h
 |tm d=>exact h
 |nw xs =>
  obtain⟨p,vs,rfl,h1,h2,h3⟩:=h
  have np:p∉A++F:=zc0 m h1
  refine⟨p,vs,rfl,.inr h1,fun z=>np (zav5 _ z),h2,Reps.mono (zb4 H' fun a z=>?_) h3⟩
  rcases zaw6.mp z with z | z
  ·rw [z];exact zaw0 ..
  ·exact zav8 _ (zav5 _ z)
 |dn d =>
  obtain⟨B,h1,h2,h3⟩:=h
  refine⟨B,h1,fun b hb=>⟨.inr (h2 b hb),fun z=>zc0 m (h2 b hb) (zav5 _ z)⟩,RepD.mono (zb4 H' fun a z=>?_) h3 fun _ _ _ q=>q⟩
  rcases zax0.mp z with z | z
  ·exact zaw1 _ z
  ·exact zav5 _ (zav5 _ z)
theorem ze7 (ha:PE X a (dE X.K F fa)):PS X (.Return (some a) pos) (dS X.K F (dRet fa)):=by
 refine PS.imp (ps_ret ha) ?_
 rintro E σ H ⟨A,t,o,R,e,h⟩
 unfold dRet at e
 cases e1:fa t with
 |none=>rw [e1]at e;cases e
 |some r1 =>
  rw [e1]at e
  cases e
  exact⟨A,t,r1,R,e1,fun v H' gs q=>h v H' A (Gr.of_same R.mu.left gs) (RetEv.of R.mu q)⟩
noncomputable def zy6 (i:Nat):DS:=fun t=>match t[i]? with
 |some (.own xs)=>some (.rt (.nw xs))
 |some (.val d)=>some (.rt (.cl d))
 |some (.dp d)=>some (.rt (.dn d))
 |_=>none
theorem zm8 (i:Nat) {x:Str}{pos':Pos} (hN:X.N[i]?=some x:=by rfl) (hv:Vis X.env.scope x:=by first | exact Or.inl rfl | exact Or.inr (Or.inl rfl) |exact Or.inr (Or.inr rfl)) (hd:(x ==("__debug__":Str))=false:=by decide)
  (hcd:(x ==("__classdict__":Str))=false:=by decide):PS X (.Return (some (.Name x pos')) pos) (dS X.K F (zy6 i)):=by
 refine PS.imp (ps_ret (zk5 (i:=i) hN hv hd hcd)) ?_
 rintro E σ H ⟨A,t,o,R,e,h⟩
 unfold zy6 at e
 split at e
 ·rename_i ds q
  cases e
  obtain⟨p,vs,h1,h2,h3,h4⟩:=R.rel.getOwn q
  refine⟨_,h1,h _ H A (Gr.refl R.mu.left) ⟨p,vs,rfl,.inl h2,R.dj p h2,h3,Reps.mono (zb4 H fun a z=>?_) h4⟩⟩
  rcases zaw6.mp z with z | z
  ·rw [z];exact zaw1 _ h2
  ·exact zav5 _ z
 ·rename_i d q
  cases e
  obtain⟨v,h1,h2⟩:=R.rel.getVal q
  exact⟨v,h1,h v H A (Gr.refl R.mu.left) (Rep.mono (zb4 H fun a z=>zav5 _ z) h2)⟩
 ·rename_i d q
  cases e
  obtain⟨v,B,h1,h2,h0,h3⟩:=R.rel.getDp R.nd q
  refine⟨v,h1,h v H A (Gr.refl R.mu.left) ⟨B,h0,fun b hb=>⟨.inl (h2 b hb),R.dj b (h2 b hb)⟩,RepD.mono (zb4 H fun a z=>?_) h3 fun _ _ _ q=>q⟩⟩
  rcases zax0.mp z with z | z
  ·exact zaw1 _ (h2 a z)
  ·exact zav5 _ z
 ·cases e
end
theorem RSl.setVal {K:zav4}{H0 H:Hp}{d:D}{v:V} (h:Rep K H0 d v):∀ {t:Th}{σ:L2.St}{A:List Addr} (i:Nat),RSl K H0 H t σ A→i<t.length→∃A',RSl K H0 H (t.set i (.val d)) (σ.set i (some v)) A'∧List.Sublist A' A
 |_,_,_,_,.nil,l=>by simp at l
 |_,_,_,0,.no r,_=>⟨_,.val h r,List.Sublist.refl _⟩
 |_,_,_,0,.val _ r,_=>⟨_,.val h r,List.Sublist.refl _⟩
 |_,_,_,0,.own _ _ r,_=>⟨_,.val h r,List.sublist_cons_self _ _⟩
 |_,_,_,0,.dp _ r,_=>⟨_,.val h r,zbh2 _ _⟩
 |_,_,_,i+1,.no r,l=>let ⟨A',a,b⟩:=RSl.setVal h i r (by simpa using l);⟨A',.no a,b⟩
 |_,_,_,i+1,.val q r,l=>let ⟨A',a,b⟩:=RSl.setVal h i r (by simpa using l);⟨A',.val q a,b⟩
 |_,_,_,i+1,.own q1 q2 r,l=>let ⟨A',a,b⟩:=RSl.setVal h i r (by simpa using l);⟨_,.own q1 q2 a,b.cons₂ _⟩
 |_,_,_,i+1,.dp q r,l=>let ⟨A',a,b⟩:=RSl.setVal h i r (by simpa using l);⟨_,.dp q a,List.Sublist.append (List.Sublist.refl _) b⟩
theorem RSl.setAny {K:zav4}{H0 H:Hp}{s:Sl}{v:V}{B:List Addr} (h:∀ {t:Th}{σ:L2.St}{A:List Addr},RSl K H0 H t σ A→RSl K H0 H (s::t) (some v::σ) (B++A)):∀ {t:Th}{σ:L2.St}{A:List Addr} (i:Nat),RSl K H0 H t σ A→i<t.length →
  ∃A',RSl K H0 H (t.set i s) (σ.set i (some v)) A'∧(∀x∈A',x∈B∨x∈A)∧(A.Nodup→B.Nodup→(∀b∈B,b∉A)→A'.Nodup)
 |_,_,_,_,.nil,l=>by simp at l
 |_,_,A,0,.no r,_=>⟨_,h r,fun x hx=>zax0.mp hx,fun n1 n2 d=>zay0.mpr ⟨n2,n1,fun a ha b hb e=>d a ha (e ▸ hb)⟩⟩
 |_,_,A,0,.val _ r,_=>⟨_,h r,fun x hx=>zax0.mp hx,fun n1 n2 d=>zay0.mpr ⟨n2,n1,fun a ha b hb e=>d a ha (e ▸ hb)⟩⟩
 |_,_,_,0,.own _ _ r,_=>⟨_,h r,fun x hx=>(zax0.mp hx).imp id (zav8 _),fun n1 n2 d=>zay0.mpr ⟨n2,(zay8.mp n1).2,fun a ha b hb e=>d a ha (e ▸ zav8 _ hb)⟩⟩
 |_,_,_,0,.dp _ r,_=>⟨_,h r,fun x hx=>(zax0.mp hx).imp id (zav5 _),fun n1 n2 d=>zay0.mpr ⟨n2,(zay0.mp n1).2.1,fun a ha b hb e=>d a ha (e ▸ zav5 _ hb)⟩⟩
 |_,_,_,i+1,.no r,l=>let ⟨A',a,b,c⟩:=RSl.setAny h i r (by simpa using l);⟨A',.no a,b,c⟩
 |_,_,_,i+1,.val q r,l=>let ⟨A',a,b,c⟩:=RSl.setAny h i r (by simpa using l);⟨A',.val q a,b,c⟩
 |_,_,_,i+1,.own (p:=p2) q1 q2 r,l=>by
  obtain⟨A',a,b,c⟩:=RSl.setAny h i r (by simpa using l)
  refine⟨_,.own q1 q2 a,fun x hx=>?_,fun nd nb np=>?_⟩
  ·rcases zaw6.mp hx with z | z
   ·exact .inr (z ▸ zaw0 ..)
   ·exact (b x z).imp id (zav8 _)
  ·have n1:=zay8.mp nd
   refine zay8.mpr ⟨fun z=>?_,c n1.2 nb fun x hx z=>np x hx (zav8 _ z)⟩
   rcases b _ z with z | z
   ·exact np _ z (zaw0 ..)
   ·exact n1.1 z
 |_,_,_,i+1,.dp (B:=C) q r,l=>by
  obtain⟨A',a,b,c⟩:=RSl.setAny h i r (by simpa using l)
  refine⟨_,.dp q a,fun x hx=>?_,fun nd nb np=>?_⟩
  ·rcases zax0.mp hx with z | z
   ·exact .inr (zaw1 _ z)
   ·exact (b x z).imp id (zav5 _)
  ·have n1:=zay0.mp nd
   refine zay0.mpr ⟨n1.1,c n1.2.1 nb fun x hx z=>np x hx (zav5 _ z),fun x hx y hy e=>?_⟩
   subst e
   rcases b _ hy with z | z
   ·exact np _ z (zaw1 _ hx)
   ·exact n1.2.2 _ hx _ z rfl
theorem RS.putAny {K:zav4}{F A:List Addr}{H H':Hp}{t:Th}{σ:L2.St}{i:Nat}{s:Sl}{v:V}{B:List Addr} (R:RS K F H A t σ) (g:Same H H') (fr:∀b∈B,H b=none) (nb:B.Nodup) (lb:Lists H' B)
  (mk:∀ {t:Th}{σ:L2.St}{A':List Addr},RSl K (hide (B++(A++F)) H') H' t σ A'→RSl K (hide (B++(A++F)) H') H' (s::t) (some v::σ) (B++A')) (hi:i<t.length) :
  ∃A',Gr A H A' H'∧RS K F H' A' (t.set i s) (σ.set i (some v)):=by
 have R':=R.grow g
 have np:∀b∈B,b∉A++F:=fun b hb=>zc0 R.mu (fr b hb)
 have r0:RSl K (hide (B++(A++F)) H') H' t σ A:=RSl.mono (fun b o h=>by
  obtain⟨n,h⟩:=zd4 h
  refine zb0 (g _ _ h) fun z=>?_
  rcases zax0.mp z with z | z
  ·rw [fr b z]at h;cases h
  ·exact n z) R.rel fun b _ o h=>g _ _ h
 obtain⟨A',r1,sub,nd⟩:=RSl.setAny mk i r0 hi
 refine⟨A',⟨fun b o _ h=>g b o h,fun b hb=>by obtain⟨ws,z⟩:=R.mu b (zaw1 _ hb);rw [g _ _ z];simp,fun b hb=>?_⟩,?_,nd R.nd nb fun b hb z=>np b hb (zaw1 _ z),fun b hb=>?_,?_⟩
 ·rcases sub b hb with z | z
  ·exact .inr (fr b z)
  ·exact .inl z
 ·intro b hb
  rcases zax0.mp hb with z | z
  ·rcases sub b z with z | z
   ·exact lb b z
   ·exact R'.mu b (zaw1 _ z)
  ·exact R'.mu b (zav5 _ z)
 ·rcases sub b hb with z | z
  ·exact fun w=>np b z (zav5 _ w)
  ·exact R.dj b z
 ·refine RSl.mono (zb4 H' fun b z=>?_) r1 fun _ _ _ h=>h
  rcases zax0.mp z with z | z
  ·rcases sub b z with z | z
   ·exact zaw1 _ z
   ·exact zav5 _ (zaw1 _ z)
  ·exact zav5 _ (zav5 _ z)
noncomputable def zv8 (t:Th) (i:Nat) (r:Ev):Option Th:=if i<t.length then (match r with
 |.cl d=>some (t.set i (.val d))
 |.tm d=>if flat d then some (t.set i (.val d)) else none
 |.nw xs=>some (t.set i (.own xs))
 |.dn d=>some (t.set i (.dp d))) else none
theorem RS.put {K:zav4}{F A:List Addr}{H H':Hp}{t t':Th}{σ:L2.St}{i:Nat}{r:Ev}{v:V} (R:RS K F H A t σ) (g:Same H H') (q:RepEv K F A H H' r v) (e:zv8 t i r=some t') :
  ∃A',Gr A H A' H'∧RS K F H' A' t' (σ.set i (some v)):=by
 have R':=R.grow g
 have val:∀d,Rep K (hide (A++F) H') d v→i<t.length→∃A',Gr A H A' H'∧RS K F H' A' (t.set i (.val d)) (σ.set i (some v)):=fun d hd hi=>by
  obtain⟨A',r1,sub⟩:=RSl.setVal hd i R'.rel hi
  have sub':∀x∈A',x∈A:=fun x hx=>sub.subset hx
  refine⟨A',⟨fun b o _ h=>g b o h,fun b hb=>by obtain⟨vs,z⟩:=R.mu b (zaw1 _ hb);rw [g _ _ z];simp,fun b hb=>.inl (sub' b hb)⟩,?_,R.nd.sublist sub,fun p hp=>R.dj p (sub' p hp),?_⟩
  ·intro p hp
   rcases zax0.mp hp with z | z
   ·exact R'.mu p (zaw1 _ (sub' p z))
   ·exact R'.mu p (zav5 _ z)
  ·refine RSl.mono (zb4 H' fun a z=>?_) r1 fun _ _ _ h=>h
   rcases zax0.mp z with z | z
   ·exact zaw1 _ (sub' a z)
   ·exact zav5 _ z
 unfold zv8 at e
 split at e
 case isFalse=>cases e
 rename_i hi
 cases r with
 |cl d=>cases e;exact val d q hi
 |tm d =>
  simp only at e
  split at e
  ·rename_i f
   cases e
   exact val d (Rep.hid R'.mu f (Rep.mono (za6 _ _) q)) hi
  ·cases e
 |nw xs =>
  cases e
  obtain⟨p,vs,rfl,h1,h2,h3⟩:=q
  exact R.putAny (B:=[p]) g (fun b hb=>by simp at hb;subst hb;exact h1) (by simp) (fun b hb=>by simp at hb;subst hb;exact⟨mL vs,h2⟩) (fun r=>.own h2 h3 r) hi
 |dn d =>
  cases e
  obtain⟨B,h1,h2,h3⟩:=q
  exact R.putAny (B:=B) g h2 h1 h3.lists (fun r=>.dp h3 r) hi
section
variable {X:Cx}{F:List Addr}{a b c:Expr}{es:List Expr}{fa fb fc:DE}{g g1 g2:DS}{ft fu:DT}{pos:Pos}{st:Stmt}{rest:List Stmt}
def dAsg (i:Nat) (f:DE):DS:=fun t=>(f t).bind fun r=>(zv8 t i r).map Out.nx
theorem zc2 {i:Nat}{x:Str}{pos':Pos} (hN:X.N.Nodup) (hi:X.N[i]?=some x) (hx:Loc X.env.scope x) (he:PE X a (dE X.K F fa)) (hs:swapsWith a (some (.Name x pos')) pos.line X.env=pure false:=by rfl) (hf:X.fn x=true∨X.env.scope.names.lookup x=some .local:=by first | exact .inl rfl | exact .inr rfl | assumption) :
  PS X (.Assign [.Name x pos'] a pos) (dS X.K F (dAsg i fa)):=by
 refine PS.imp (ps_set hN hi hx he hs hf) ?_
 rintro E σ H ⟨A,t,o,R,e,h⟩
 unfold dAsg at e
 cases e1:fa t with
 |none=>rw [e1]at e;cases e
 |some r1 =>
  rw [e1]at e
  have e:(zv8 t i r1).map Out.nx=some o:=e
  cases e2:zv8 t i r1 with
  |none=>rw [e2]at e;cases e
  |some t' =>
   rw [e2]at e
   cases e
   refine⟨A,t,r1,R,e1,fun v H' gs q=>?_⟩
   obtain⟨A',g',R'⟩:=R.put gs q e2
   exact h _ _ _ g' R'
end
end DL
namespace DL
open PySem.Spec L2
noncomputable def TgOk (K:zav4) (F:List Addr) (g:TG) (k:D→Th→Option Th):Prop :=
 ∀σ H A t t' d x (Q:L2.St→Hp→Prop),RS K F H A t σ→Rep K (hide (A++F) H) d x→k d t=some t'→(∀σ2 A2,Gr A H A2 H→RS K F H A2 t' σ2→Q σ2 H)→g x σ H Q
noncomputable def TgsOk (K:zav4) (F:List Addr) (g:TGs) (k:List D→Th→Option Th):Prop :=
 ∀σ H A t t' ds xs (Q:L2.St→Hp→Prop),RS K F H A t σ→Reps K (hide (A++F) H) ds xs→k ds t=some t'→(∀σ2 A2,Gr A H A2 H→RS K F H A2 t' σ2→Q σ2 H)→g xs σ H Q
def za9 (i:Nat):D→Th→Option Th:=fun d t=>zv8 t i (.cl d)
def zar3:List D→Th→Option Th:=fun ds t=>match ds with
 |[]=>some t
 |_=>none
noncomputable def zj4 (k:D→Th→Option Th) (k':List D→Th→Option Th):List D→Th→Option Th:=fun ds t=>match ds with
 |d::r=>(k d t).bind (k' r)
 |[]=>none
noncomputable def zaj4 (n:Nat) (k:List D→Th→Option Th):D→Th→Option Th:=fun d t=>match d with
 |.tup ds=>if ds.length=n then k ds t else none
 |_=>none
theorem zd5 {K:zav4}{F:List Addr} (i:Nat):TgOk K F (gName i) (za9 i):=by
 intro σ H A t t' d x Q R r e h
 obtain⟨A',g,R'⟩:=R.put (i:=i) (r:=.cl d) (Same.refl H) r e
 exact h _ _ g R'
theorem zr7 {K:zav4}{F:List Addr}:TgsOk K F gNil zar3:=by
 intro σ H A t t' ds xs Q R r e h
 cases r with
 |nil=>cases e;exact⟨rfl,h σ A (Gr.refl R.mu.left) R⟩
 |cons _ _=>cases e
theorem zf9 {K:zav4}{F:List Addr}{g:TG}{g':TGs}{k:D→Th→Option Th}{k':List D→Th→Option Th} (h1:TgOk K F g k) (h2:TgsOk K F g' k'):TgsOk K F (gCons g g') (zj4 k k'):=by
 intro σ H A t t' ds xs Q R r e h
 cases r with
 |nil=>cases e
 |@cons d v ds vs r1 r2 =>
  unfold zj4 at e
  cases e1:k d t with
  |none=>simp only [e1]at e;cases e
  |some t1 =>
   simp only [e1]at e
   refine⟨v,vs,rfl,h1 σ H A t t1 d v _ R r1 e1 fun σ2 A2 g2 R2=>?_⟩
   exact h2 σ2 H A2 t1 t' ds vs Q R2 (Reps.mono g2.same r2) e fun σ3 A3 g3 R3=>h σ3 A3 (g2.trans g3) R3
theorem zad6 {K:zav4}{F:List Addr}{n:Nat}{g':TGs}{k':List D→Th→Option Th} (h2:TgsOk K F g' k'):TgOk K F (gTup K n g') (zaj4 n k'):=by
 intro σ H A t t' d x Q R r e h
 unfold zaj4 at e
 split at e
 ·rename_i ds
  split at e
  ·rename_i hl
   cases r with
   |@tup _ p vs h1 hr=>exact⟨p,vs,rfl,SqT.mono (za6 _ _) h1,by rw [hr.length];exact hl,h2 σ H A t t' ds vs Q R hr e h⟩
  ·cases e
 ·cases e
noncomputable def forD (k:D→Th→Option Th) (body:DS):List D→Th→Option Out
 |[],t=>some (.nx t)
 |d::ds,t=>(k d t).bind fun t1=>(body t1).bind fun o=>match o with
  |.nx t'=>forD k body ds t'
  |.ct t'=>forD k body ds t'
  |.bk t'=>some (.nx t')
  |.rt r=>some (.rt r)
noncomputable def Post (K:zav4) (F A:List Addr) (H:Hp) (E:Ends):Out→Prop
 |.nx t'=>After K F A H E.nx t'
 |.bk t'=>After K F A H E.bk t'
 |.ct t'=>After K F A H E.ct t'
 |.rt r=>Back K F A H E.rt r
theorem Post.back {K:zav4}{F A A1:List Addr}{H H1:Hp}{E:Ends}{o:Out} (h:Post K F A H E o) (g:Gr A H A1 H1):Post K F A1 H1 E o:=by
 cases o with
 |nx t2=>exact After.back h g
 |bk t2=>exact After.back h g
 |ct t2=>exact After.back h g
 |rt r=>exact Back.back h g
theorem dS_mk {K:zav4}{F A:List Addr}{g:DS}{E:Ends}{σ:L2.St}{H:Hp}{t:Th}{o:Out} (R:RS K F H A t σ) (e:g t=some o) (p:Post K F A H E o):dS K F g E σ H:=⟨A,t,o,R,e,by cases o<;>exact p⟩
theorem zy5 {K:zav4}{F:List Addr}{g:DS}{E:Ends}{σ:L2.St}{H:Hp} (h:dS K F g E σ H):∃A t o,RS K F H A t σ∧g t=some o∧Post K F A H E o:=by
 obtain⟨A,t,o,R,e,h⟩:=h
 exact⟨A,t,o,R,e,by cases o<;>exact h⟩
section
variable {X:Cx}{F:List Addr}{a b c:Expr}{es:List Expr}{fa fb fc:DE}{g g1 g2:DS}{ft fu:DT}{pos:Pos}{st:Stmt}{rest:List Stmt}{tg:Expr}{gt:TG}{kt:D→Th→Option Th}
theorem zh2 {K:zav4}{J:It}{ds:List D}{E:Ends}{σ:L2.St}{H:Hp}{A:List Addr}{t:Th}{o:Out} (Good:List Addr→Hp→Prop) (ht:TgOk K F gt kt) (R:RS K F H A t σ) (e:forD kt g ds t=some o) (h:Post K F A H E o) (g0:Good A H)
  (keep:∀A H A' H',Good A H→Gr A H A' H'→Good A' H') (stop:∀A H,Good A H→J.stop ds.length H) (go:∀A H i,Good A H→i<ds.length→J.go i H)
  (yld:∀A H i x H',Good A H→Lists H (A++F)→J.yld i H x H'→i<ds.length→Same H H'∧∃d,ds[i]?=some d∧Rep K (hide (A++F) H') d x) :
  ∃W:Nat→Nat→L2.St→Hp→Prop,(∃m,W 0 m σ H)∧∀i m σ H,W i m σ H →
   (J.stop i H∧E.nx σ H)∨(J.go i H∧∃N:L2.St→Hp→Prop,(∀σ' H',N σ' H'→∃m',m' < m∧W (i+1) m' σ' H')∧∀x H',J.yld i H x H'→gt x σ H' fun σ2 H2=>dS K F g { E with nx:=N,ct:=N,bk:=E.nx } σ2 H2):=by
 refine⟨fun i m σ H=>i+m=ds.length∧∃A t o,forD kt g (ds.drop i) t=some o∧RS K F H A t σ∧Post K F A H E o∧Good A H,⟨ds.length,by lia,A,t,o,by simpa using e,R,h,g0⟩,?_⟩
 rintro i m σ H ⟨hm,A,t,o,e,R,h,gd⟩
 cases m with
 |zero =>
  have z:i=ds.length:=by lia
  subst z
  rw [zbi8]at e
  cases e
  exact .inl ⟨stop A H gd,h σ H A (Gr.refl R.mu.left) R⟩
 |succ m =>
  have hi:i<ds.length:=by lia
  refine .inr ⟨go A H i gd hi,fun σ' H'=>i+1+m=ds.length∧∃A t o,forD kt g (ds.drop (i+1)) t=some o∧RS K F H' A t σ'∧Post K F A H' E o∧Good A H',fun σ' H' q=>⟨m,zbg2 m,q⟩,fun x H' y=>?_⟩
  obtain⟨gs,d,hd,rd⟩:=yld A H i x H' gd R.mu y hi
  have ed:ds.drop i=d::ds.drop (i+1):=by
   have hd':ds[i]=d:=by
    rw [zaw2 hi]at hd
    exact Option.some.inj hd
   rw [← hd']
   exact zay4 hi
  rw [ed]at e
  simp only [forD]at e
  cases e1:kt d t with
  |none=>rw [e1]at e;cases e
  |some t1 =>
   rw [e1]at e
   refine ht σ H' A t t1 d x _ (R.grow gs) rd e1 fun σ2 A2 gr3 R2=>?_
   have gr2:Gr A H A2 H':=(Gr.of_same R.mu.left gs).trans gr3
   have e:((g t1).bind fun o=>match o with
     |.nx t'=>forD kt g (ds.drop (i+1)) t'
     |.ct t'=>forD kt g (ds.drop (i+1)) t'
     |.bk t'=>some (.nx t')
     |.rt r=>some (.rt r))=some o:=e
   cases e2:g t1 with
   |none=>rw [e2]at e;cases e
   |some o2 =>
    rw [e2]at e
    refine dS_mk R2 e2 ?_
    cases o2 with
    |nx t'=>exact fun σ' H' A' g' R'=>⟨by lia,A',t',o,e,R',h.back (gr2.trans g'),keep _ _ _ _ gd (gr2.trans g')⟩
    |ct t'=>exact fun σ' H' A' g' R'=>⟨by lia,A',t',o,e,R',h.back (gr2.trans g'),keep _ _ _ _ gd (gr2.trans g')⟩
    |bk t'=>cases e;exact fun σ' H' A' g' R'=>h σ' H' A' (gr2.trans g') R'
    |rt r=>cases e;exact Back.back h gr2
noncomputable def dFor (k:D→Th→Option Th) (f:DE) (body:DS):DS:=fun t=>(f t).bind fun r=>match r.d with
 |.lst ds=>if r.ok then forD k body ds t else none
 |_=>none
theorem zam8 {body:List Stmt} (hp:PassesOwn (model X.prog X.w) X.A X.env X.xe) (hc:X.calm=true) (hl:PE X a (dE X.K F fa)) (hg:PG X tg gt) (ht:TgOk X.K F gt kt) (hb:PSs X body (dS X.K F g))
  (hs:∀x,foldedSetIterable a X.env x=pure x:=by intro _;rfl):PS X (.For tg a body [] pos) (dS X.K F (dFor kt fa g)):=by
 refine PS.imp (zn8 hp hc (zan4 hl) hg hb hs) ?_
 intro E σ H hh
 obtain⟨A,t,o,R,e,h⟩:=zy5 hh
 unfold dFor at e
 cases e1:fa t with
 |none=>rw [e1]at e;cases e
 |some r =>
  rw [e1]at e
  refine⟨A,t,r,R,e1,fun v H1 gs q=>?_⟩
  have e:(match r.d with
   |.lst ds=>if r.ok then forD kt g ds t else none
   |_=>none)=some o:=e
  split at e
  case h_2=>cases e
  rename_i ds z
  split at e
  case isFalse=>cases e
  rename_i ok
  have cl:=q.clean R.mu gs ok
  rw [z]at cl
  cases cl with
  |@lst _ p vs h1 h2 =>
   refine⟨p,rfl,⟨vs,SqL.mono (za6 _ _) h1⟩,?_⟩
   refine zh2 (fun A H=>SqL X.K (hide (A++F) H) p vs∧Reps X.K (hide (A++F) H) ds vs) ht (R.grow gs) e (h.back (Gr.of_same R.mu.left gs)) ⟨h1,h2⟩ (fun A H A' H' q gr=>⟨SqL.mono gr.same q.1,Reps.mono gr.same q.2⟩)
    (fun A H q=>⟨vs,SqL.mono (za6 _ _) q.1,by rw [h2.length];exact zaw7 _⟩) (fun A H i q hi=>?_) (fun A H i x H' q _ y hi=>?_)
   ·have hi':i<vs.length:=by rw [h2.length];exact hi
    exact⟨vs,vs[i],SqL.mono (za6 _ _) q.1,zaw2 hi'⟩
   ·obtain⟨e1,e2⟩:=y
    have z:=e2 vs (SqL.mono (za6 _ _) q.1)
    subst e1
    exact⟨Same.refl _,q.2.getV z⟩
def rngD (lo:Int) (n:Nat):List D:=(zaz7 n).map fun (i:Nat)=>D.int (lo+(i:Int))
def bigI (i:Int):Bool:=decide (-1000000000000≤i∧i≤1000000000000)
noncomputable def zu2 (k:D→Th→Option Th) (f:DE) (body:DS):DS:=fun t=>(f t).bind fun r=>match r.d with
 |.int n=>if bigI n then forD k body (rngD 0 n.toNat) t else none
 |_=>none
theorem zaa8 (lo:Int) (n:Nat):(rngD lo n).length=n:=by simp [rngD]
theorem rng_core {K:zav4}{lo:Int}{n:Nat}{E:Ends}{σ:L2.St}{H:Hp}{A:List Addr}{t:Th}{o:Out} (ht:TgOk K F gt kt) (R:RS K F H A t σ) (e:forD kt g (rngD lo n) t=some o) (h:Post K F A H E o) :
  ∃W:Nat→Nat→L2.St→Hp→Prop,(∃m,W 0 m σ H)∧∀i m σ H,W i m σ H →
   ((Itr lo n).stop i H∧E.nx σ H)∨((Itr lo n).go i H∧∃N:L2.St→Hp→Prop,(∀σ' H',N σ' H'→∃m',m' < m∧W (i+1) m' σ' H')∧∀x H',(Itr lo n).yld i H x H'→gt x σ H' fun σ2 H2=>dS K F g { E with nx:=N,ct:=N,bk:=E.nx } σ2 H2):=by
 refine zh2 (fun _ _=>True) ht R e h trivial (fun _ _ _ _ _ _=>trivial) (fun A H _=>?_) (fun A H i _ hi=>?_) (fun A H i x H' _ _ y hi=>?_)
 ·rw [zaa8];exact zaw7 n
 ·rw [zaa8]at hi;exact hi
 ·rw [zaa8]at hi
  obtain⟨e1,e2⟩:=y
  subst e1
  refine⟨Same.refl _,.int (lo+i),by simp [rngD,hi],?_⟩
  rw [e2];exact .int _
theorem zae7 {body:List Stmt}{p1 p2:Pos} (hp:PassesOwn (model X.prog X.w) X.A X.env X.xe) (hc:X.calm=true) (hgr:Gl X "range") (hm:X.mg "range"=none) (ha:PE X a (dE X.K F fa)) (hg:PG X tg gt) (ht:TgOk X.K F gt kt) (hb:PSs X body (dS X.K F g))
  (hst:zax8 [a] X.env=[(false,eval a X.env)]:=by rfl) (hs:∀x,foldedSetIterable (.Call (.Name "range" p1) [a] [] p2) X.env x=pure x:=by intro _;rfl):PS X (.For tg (.Call (.Name "range" p1) [a] [] p2) body [] pos) (dS X.K F (zu2 kt fa g)):=by
 refine PS.imp (zn8 hp hc (zan3 hgr hm (zg3 ha zk6 hst) hst) hg hb hs) ?_
 intro E σ H hh
 obtain⟨A,t,o,R,e,h⟩:=zy5 hh
 unfold zu2 at e
 cases e1:fa t with
 |none=>rw [e1]at e;cases e
 |some r =>
  rw [e1]at e
  refine⟨A,t,r,R,e1,fun v H1 gs q=>?_⟩
  have e:(match r.d with
   |.int n=>if bigI n then forD kt g (rngD 0 n.toNat) t else none
   |_=>none)=some o:=e
  split at e
  case h_2=>cases e
  rename_i n z
  split at e
  case isFalse=>cases e
  rename_i ok
  simp only [bigI,decide_eq_true_eq]at ok
  have p:=q.full
  rw [z]at p
  cases zd2 p
  exact⟨n,rfl,by lia,by lia,rng_core ht (R.grow gs) e (h.back (Gr.of_same R.mu.left gs))⟩
end
end DL
namespace DL
open PySem.Spec L2
theorem RSl.upd {K:zav4}{H0 H H':Hp}{ds es:List D}{ws:List V}{p:Addr} (hp:H' p=some (.lst ws)) (he:Reps K H0 es ws):∀ {t:Th}{σ:L2.St}{A:List Addr} (i:Nat),RSl K H0 H t σ A→A.Nodup→t[i]?=some (.own ds)→σ[i]?=some (some (.ref p)) →
  (∀q∈A,q≠p→H' q=H q)→RSl K H0 H' (t.set i (.own es)) σ A
 |_,_,_,i,.nil,_,e,_,_=>by simp at e
 |_,_,_,0,.no r,_,e,_,_=>by simp at e
 |_,_,_,0,.val _ r,_,e,_,_=>by simp at e
 |_,_,_,0,.dp _ r,_,e,_,_=>by simp at e
 |_,_,_,i+1,.dp (B:=B) h1 r,nd,e,e2,k=>by
  have n:=zay0.mp nd
  obtain⟨p3,vs3,a1,a2,_⟩:=RSl.getOwn r (i:=i) (ds:=ds) (by simpa using e)
  have:p3=p:=by simpa [a1] using e2
  subst this
  refine .dp (RepD.mono (Same.refl _) h1 fun q hq o w=>?_) (RSl.upd hp he i r n.2.1 (by simpa using e) (by simpa using e2) fun q hq=>k q (zav5 _ hq))
  rw [k q (zaw1 _ hq) (fun z=>n.2.2 q hq p3 a2 z)];exact w
 |_,_,_,0,.own (p:=p2) (A:=A) h1 h2 r,nd,e,e2,k=>by
  simp at e2
  subst e2
  exact .own hp he (RSl.mono (Same.refl _) r fun q hq o h=>by
   have n:q≠p2:=fun z=>(zay8.mp nd).1 (z ▸ hq)
   rw [k q (zav8 _ hq) n];exact h)
 |_,_,_,i+1,.no r,nd,e,e2,k=>.no (RSl.upd hp he i r nd (by simpa using e) (by simpa using e2) k)
 |_,_,_,i+1,.val h r,nd,e,e2,k=>.val h (RSl.upd hp he i r nd (by simpa using e) (by simpa using e2) k)
 |_,_,_,i+1,.own (p:=p2) h1 h2 r,nd,e,e2,k=>by
  have n:=zay8.mp nd
  have e2':=(show _ from e2)
  obtain⟨p3,vs3,a1,a2,_⟩:=RSl.getOwn r (i:=i) (ds:=ds) (by simpa using e)
  have:p3=p:=by simpa [a1] using e2
  subst this
  have np:p2≠p3:=fun z=>n.1 (z ▸ a2)
  refine .own (by rw [k p2 (zaw0 ..) np];exact h1) h2 (RSl.upd hp he i r n.2 (by simpa using e) (by simpa using e2) fun q hq=>k q (zav8 _ hq))
theorem RS.write {K:zav4}{F A:List Addr}{H:Hp}{t:Th}{σ:L2.St}{i:Nat}{ds es:List D}{ws:List V}{p:Addr} (R:RS K F H A t σ) (e:t[i]?=some (.own ds)) (e2:σ[i]?=some (some (.ref p))) (h:Reps K (hide (A++F) H) es ws) :
  RS K F (L2.upd H p (.lst ws)) A (t.set i (.own es)) σ∧Gr A H A (L2.upd H p (.lst ws)):=by
 obtain⟨p',vs,a1,a2,a3,a4⟩:=R.rel.getOwn e
 have:p'=p:=by simpa [a1] using e2
 subst this
 have hh:Same (hide (A++F) H) (hide (A++F) (L2.upd H p' (.lst ws))):=fun b o q=>by
  obtain⟨n,q⟩:=zd4 q
  have nb:b≠p':=fun z=>n (zaw1 _ (z ▸ a2))
  exact zb0 (by rw [za3 nb];exact q) n
 have mu:Lists (L2.upd H p' (.lst ws)) (A++F):=fun q hq=>by
  by_cases z:q=p'
  ·exact⟨mL ws,by rw [z];exact za4⟩
  ·obtain⟨us,w⟩:=R.mu q hq
   exact⟨us,by rw [za3 z];exact w⟩
 refine⟨⟨mu,R.nd,R.dj,RSl.upd za4 (Reps.mono hh h) i (RSl.mono hh R.rel (H':=H) fun _ _ _ h=>h) R.nd e e2 fun q _ n=>za3 n⟩,?_⟩
 refine⟨fun b o n q=>?_,fun b hb=>?_,fun b hb=>.inl hb⟩
 ·rw [za3 (fun z=>n (by rw [z];exact a2))];exact q
 ·obtain⟨us,w⟩:=mu b (zaw1 _ hb)
  rw [w];simp
noncomputable def kApp (t:Th) (i:Nat) (r:Ev):Option Out:=match t[i]? with
 |some (.own xs)=>if r.ok&&decide (xs.length<100000) then some (.nx (t.set i (.own (xs++[r.d])))) else none
 |_=>none
def dApp (i:Nat) (f:DE):DS:=fun t=>(f t).bind (kApp t i)
section
variable {X:Cx}{F:List Addr}{a b c:Expr}{es:List Expr}{fa fb fc:DE}{g g1 g2:DS}{ft fu:DT}{pos:Pos}{st:Stmt}{rest:List Stmt}{tg:Expr}{gt:TG}{kt:D→Th→Option Th}
theorem zh8 (i:Nat) {x:Str}{p0 apos cpos:Pos} (he:PE X a (dE X.K F fa)) (hN:X.N[i]?=some x:=by rfl) (hv:Vis X.env.scope x:=by first | exact Or.inl rfl | exact Or.inr (Or.inl rfl) |exact Or.inr (Or.inr rfl)) (hd:(x ==("__debug__":Str))=false:=by decide)
  (hcd:(x ==("__classdict__":Str))=false:=by decide) (hst:zax8 [a] X.env=[(false,eval a X.env)]:=by rfl)
  (hbase:attributeBase (.Name x p0) "append" X.env (eval (.Name x p0) X.env)=eval (.Name x p0) X.env:=by rfl)
  (hfew:((zbe1 cpos (zax8 [a] X.env)).all (fun x=>!x.1)&&(backToKw cpos (keywordEach [] X.env)).all (fun x=>x.1.isSome)
   && decide ([a].length+([]:List Keyword).length+(if ([]:List Keyword).isEmpty then 0 else 1)<30))=true:=by rfl)
  (hline:(apos.endLine == cpos.line)=true:=by rfl) (hplain:(zbe1 cpos (zax8 [] X.env)).any (·.1)=false:=by rfl)
  (hsw:swapsWith (.Call (.Attribute (.Name x p0) "append" apos) [a] [] cpos) none pos.line X.env=pure false:=by rfl) :
  PS X (.Expr (.Call (.Attribute (.Name x p0) "append" apos) [a] [] cpos) pos) (dS X.K F (dApp i fa)):=by
 refine PS.imp (zan0 (pe_bm zbi1 PySem.F.slot_list_append PySem.F.type_list_append zx2 (zk5 (i:=i) hN hv hd hcd) (zg3 he zk6 hst) hbase hfew hline hst hplain) hsw) ?_
 rintro E σ H ⟨A,t,o,R,e,h⟩
 unfold dApp at e
 cases e1:fa t with
 |none=>rw [e1]at e;cases e
 |some r =>
  rw [e1]at e
  have e:kApp t i r=some o:=e
  unfold kApp at e
  split at e
  case h_2=>cases e
  rename_i xs z
  split at e
  case isFalse=>cases e
  rename_i ok
  simp only [zaw5,decide_eq_true_eq]at ok
  cases e
  obtain⟨p,vs,a1,a2,a3,a4⟩:=R.rel.getOwn z
  refine⟨_,a1,.inl ⟨rfl,vs,SqL.of a3⟩,A,t,r,R,e1,fun y H1 gs q=>⟨p,vs,y,rfl,rfl,gs _ _ a3,?_,?_⟩⟩
  ·have:vs.length<100000:=by rw [a4.length];exact ok.2
   exact zax3 this (by rw [sizeLine_eq];decide)
  ·obtain⟨R',g'⟩:=(R.grow gs).write (es:=xs++[r.d]) (ws:=vs++[y]) z a1 ((Reps.mono (zb6 gs) a4).app (Reps.one (q.clean R.mu gs ok.1)))
   exact h _ _ _ ((Gr.of_same R.mu.left gs).trans g') R'
noncomputable def kIx:Ev→Ev→Option Ev:=fun r1 r2=>match r1.d,r2.d with
 |.lst ds,.int i=>(atI ds i).map fun d=>if r1.ok||flat d then .cl d else .tm d
 |.tup ds,.int i=>(atI ds i).map fun d=>if r1.ok||flat d then .cl d else .tm d
 |_,_=>none
theorem Reps.atI {K:zav4}{H:Hp}{ds:List D}{vs:List V} (r:Reps K H ds vs) {i:Int}{d:D} (e:L2.atI ds i=some d):∃v,L2.atI vs i=some v∧Rep K H d v:=by
 unfold L2.atI at e ⊢
 rw [r.length]
 cases e1:ixN ds.length i with
 |none=>rw [e1]at e;cases e
 |some j=>rw [e1]at e;exact r.get e
theorem zw4 (ha:PE X a (dE X.K F fa)) (hb:PE X b (dE X.K F fb)) (hs:zav2 b:=by intro _ _;rfl):PE X (.Subscript a b pos) (dE X.K F (d2 kIx fa fb)):=by
 refine PE.imp (pe_ix (ix_list.or ix_tup) ha hb hs) ?_
 intro σ H Q h
 obtain⟨A,t,r1,r2,r,R,e1,e2,e,h,w⟩:=two h
 refine⟨A,t,r1,R,e1,fun x H1 gs1 q1=>⟨A,t,r2,R.grow gs1,e2,fun y H2 gs2 q2=>?_⟩⟩
 have q1:=q1.mono gs2
 have gs:=gs1.trans gs2
 have p2:=q2.full
 have m2:=R.mu.mono gs
 have key:∀(P:List Addr),Rep X.K (hide P H2) r1.d x→(∀d v,Rep X.K (hide P H2) d v→RepEv X.K F A H H2 (if r1.ok||flat d then Ev.cl d else Ev.tm d) v)→rIxL X.K x y H2 Q∨rIxT X.K x y H2 Q:=fun P hP fin=>by
  unfold kIx at e
  split at e
  ·rename_i ds i z1 z2
   rw [z2]at p2
   cases zd2 p2
   rw [z1]at hP
   cases hP with
   |@lst _ p vs h1 h2 =>
    cases e4:atI ds i with
    |none=>rw [e4]at e;cases e
    |some d =>
     rw [e4]at e
     have e:(if r1.ok||flat d then Ev.cl d else Ev.tm d)=r:=by simpa using e
     obtain⟨v,e5,rv⟩:=Reps.atI h2 e4
     exact .inl ⟨p,vs,i,v,rfl,rfl,SqL.mono (za6 _ _) h1,e5,h v H2 gs (e ▸ fin d v rv)⟩
  ·rename_i ds i z1 z2
   rw [z2]at p2
   cases zd2 p2
   rw [z1]at hP
   cases hP with
   |@tup _ p vs h1 h2 =>
    cases e4:atI ds i with
    |none=>rw [e4]at e;cases e
    |some d =>
     rw [e4]at e
     have e:(if r1.ok||flat d then Ev.cl d else Ev.tm d)=r:=by simpa using e
     obtain⟨v,e5,rv⟩:=Reps.atI h2 e4
     exact .inr ⟨p,vs,i,v,rfl,rfl,SqT.mono (za6 _ _) h1,e5,h v H2 gs (e ▸ fin d v rv)⟩
  ·cases e
 by_cases c:r1.ok=true
 ·refine key (A++F) (q1.clean R.mu gs c) fun d v rv=>?_
  rw [c,Bool.true_or,if_pos rfl]
  exact rv
 ·refine key F (q1.cleanF R.mu) fun d v rv=>?_
  have c:r1.ok=false:=by simpa using c
  rw [c,zbi5]
  split
  ·rename_i f;exact Rep.hid m2 f (Rep.mono (za6 _ _) rv)
  ·exact rv
noncomputable def kCat:Ev→Ev→Option Ev:=fun r1 r2=>match r1.d,r2.d with
 |.lst ds,.lst es=>if (r1.ok||flats ds)&&(r2.ok||flats es)&&decide (ds.length+es.length≤100000) then some (.nw (ds++es)) else none
 |_,_=>none
theorem RepEv.items {K:zav4}{F A:List Addr}{H H':Hp}{r:Ev}{v:V}{ds:List D} (m:Lists H (A++F)) (gs:Same H H') (q:RepEv K F A H H' r v) (z:r.d=.lst ds) (c:(r.ok||flats ds)=true) :
  ∃p vs,v=.ref p∧SqL K H' p vs∧Reps K (hide (A++F) H') ds vs:=by
 rcases zbj7 _ _ ▸ c with c | c
 ·have w:=q.clean m gs c
  rw [z]at w
  cases w with
  |@lst _ p vs h1 h2=>exact⟨p,vs,rfl,SqL.mono (za6 _ _) h1,h2⟩
 ·have w:=q.full
  rw [z]at w
  cases w with
  |@lst _ p vs h1 h2=>exact⟨p,vs,rfl,h1,Reps.hid (m.mono gs) c h2⟩
theorem cat_any {E:Value→zaw4→Prop}{A:Around}{prog:Program}{w:World}{s:zaw4}{l b:Addr}{vs ws:List Value}{Q:Value→zaw4→Prop} (hl:PlainL s.heap l vs.toArray) (hb:PlainL s.heap b ws.toArray)
  (h:Q (.ref s.heap.objs.size) { s with heap:=s.heap.push { cls:=.type "list",data:=.seq (vs++ws).toArray } }) (hsz:vs.length+ws.length≤sizeLine) :
  wpAny (model prog w) A (binaryOp .Add (.ref l) (.ref b)) Q E s:=by
 obtain⟨⟨cls,dd,data,sl⟩,n,ho,hc,hdd,hd⟩:=id hl
 obtain⟨⟨cls2,dd2,data2,sl2⟩,n2,ho2,hc2,hdd2,hd2⟩:=id hb
 simp only at hc hd hc2 hd2
 subst hc hd hc2 hd2
 have e:vs.toArray++ws.toArray=(vs++ws).toArray:=by simp
 refine concat_meets ⟨_,ho,rfl⟩ ⟨_,ho2,rfl⟩ noFill_list_add seq_list_add PySem.F.slot_list_add PySem.F.entry_list_add (PySem.F.args_list_add_2 _ _) (list_addW l b vs.toArray ws.toArray n n2 dd dd2 sl sl2 (by simpa using hsz)) ⟨ho,ho2,?_⟩
 rw [e]
 exact h
theorem zh5:OpD X F (binaryOp .Add) kCat:=by
 intro pins s σ H0 H A x y v u Q r1 r2 r I m g0 rx ry q1 q2 e hq
 unfold kCat at e
 split at e
 case h_2=>cases e
 rename_i ds es' z1 z2
 split at e
 case isFalse=>cases e
 rename_i c
 simp only [zaw5,decide_eq_true_eq]at c
 cases e
 obtain⟨p,vs,rfl,h1,h2⟩:=q1.items m g0 z1 c.1.1
 obtain⟨p',ws,rfl,h1',h2'⟩:=q2.items m g0 z2 c.1.2
 cases rx
 cases ry
 obtain⟨its,w1,w2,w3⟩:=I.list h1
 obtain⟨its',w1',w2',w3'⟩:=I.list h1'
 have l1:=h2.length
 have l2:=h2'.length
 have l3:=w1.length
 have l4:=w1'.length
 have hz:vs.length+ws.length≤sizeLine:=le_line (by lia)
 refine cat_any w2 w2' ⟨.ref _,_,I.lnew (t':=s.toks) (w1.append w1') (by rw [zax7];exact hz),rfl,?_⟩ (by lia)
 refine hq _ _ (zb8 I.fresh) ⟨_,_,rfl,Same.free g0 I.fresh,za4,Reps.mono (zi7 I.fresh) (h2.app h2')⟩
mutual
def eqD:D→D→Bool
 |.non,.non=>true
 |.bl a,.bl b=>decide (a=b)
 |.int a,.int b=>decide (a=b)
 |.str a,.str b=>decide (a=b)
 |.tup a,.tup b=>eqDs a b
 |.lst a,.lst b=>eqDs a b
 |.dct ks a,.dct ks' b=>decide (ks=ks')&&eqDs a b
 |.pdc a,.pdc b=>decide (a=b)
 |.fdc a,.fdc b=>decide (a=b)
 |.adr a,.adr b=>decide (a=b)
 |_,_=>false
def eqDs:List D→List D→Bool
 |[],[]=>true
 |a::as,b::bs=>eqD a b&&eqDs as bs
 |_,_=>false
end
noncomputable def eqOk:Nat→D→D→Bool
 |_,.non,.non=>true
 |_,.bl _,.bl _=>true
 |_,.int _,.int _=>true
 |_,.str _,.str _=>true
 |_,.non,.int _=>true
 |_,.int _,.non=>true
 |_,.non,.str _=>true
 |_,.str _,.non=>true
 |_,.non,.bl _=>true
 |_,.bl _,.non=>true
 |_,.int _,.str _=>true
 |_,.str _,.int _=>true
 |n+1,.tup xs,.tup ys=>(xs.zip ys).all fun p=>eqOk n p.1 p.2
 |n+1,.lst xs,.lst ys=>(xs.zip ys).all fun p=>eqOk n p.1 p.2
 |_,_,_=>false
theorem dct_cls {pins:List (Addr×Obj)}{s:zaw4}{σ:L2.St}{H:Hp}{p:Addr}{kvs:List (Key×V)} (I:Inv X pins σ H s) (h:H p=some (.dK kvs)):∃o,s.heap.get? p=some o∧o.cls=.type "dict":=by
 obtain⟨_,_,vs,_,m⟩:kvs.length≤sizeLine∧(p == sysModules)=false∧∃vs,KV kvs vs∧s.heap.DictOf (zd0 X.prog X.w) p vs:=I.hok p _ h
 exact m.typeIs
theorem pdc_cls {pins:List (Addr×Obj)}{s:zaw4}{σ:L2.St}{H:Hp}{p:Addr}{kvs:List (List Key×V)} (I:Inv X pins σ H s) (h:H p=some (.dT kvs)):∃o,s.heap.get? p=some o∧o.cls=.type "dict":=by
 obtain⟨_,_,xs,_,o,es,ep,h1,h2,_⟩:=(show ObjOk X.prog X.w H s.heap p (.dT kvs) from I.hok p _ h)
 exact⟨o,h1,h2.1⟩
theorem fdc_cls {pins:List (Addr×Obj)}{s:zaw4}{σ:L2.St}{H:Hp}{p:Addr}{kvs:List (List Key×V)}{o':Obj} (I:Inv X pins σ H s) (h:H p=some (.frz o' (.dT kvs))):∃o,s.heap.get? p=some o∧o.cls=.type "dict":=by
 obtain⟨_,_,_,xs,_,o,es,ep,h1,h2,_⟩:=(show ObjOk X.prog X.w H s.heap p (.frz o' (.dT kvs)) from I.hok p _ h)
 exact⟨o,h1,h2.1⟩
theorem zaq8:∀ {a b:List Int},(a.map Sum.inl:List Key)=b.map Sum.inl→a=b
 |[],[],_=>rfl
 |[],_::_,h=>by simp at h
 |_::_,[],h=>by simp at h
 |x::a,y::b,h=>by
  simp only [zax1,List.cons.injEq,Sum.inl.injEq]at h
  rw [h.1,zaq8 h.2]
theorem zn7 {n:Nat}{H:Hp} (h:∀(d e:D) (v:V),eqOk n d e=true→Rep X.K H d v→Rep X.K H e v→d=e):∀ {ds es:List D}{vs:List V},((ds.zip es).all fun p=>eqOk n p.1 p.2)=true→Reps X.K H ds vs→Reps X.K H es vs→ds=es
 |_,_,_,_,.nil,.nil=>rfl
 |_,_,_,ok,.cons a r,.cons b q=>by
  simp only [zbd3,zaz6,zaw5]at ok
  rw [h _ _ _ ok.1 a b,zn7 h ok.2 r q]
theorem Rep.inj {pins:List (Addr×Obj)}{s:zaw4}{σ:L2.St}{H:Hp} (I:Inv X pins σ H s):∀(n:Nat) (d e:D) (v:V),eqOk n d e=true→Rep X.K H d v→Rep X.K H e v→d=e:=by
 intro n
 induction n with
 |zero =>
  intro d e v ok r q
  cases r<;>cases q<;>first | rfl | simp_all [eqOk]
 |succ n ih =>
  intro d e v ok r q
  cases r with
  |tup h1 r1 =>
   cases q with
   |tup h2 r2 =>
    have ev:=I.tuple_inj h1 h2
    subst ev
    rw [zn7 ih (by simpa [eqOk] using ok) r1 r2]
   |_=>simp [eqOk]at ok
  |lst h1 r1 =>
   cases q with
   |lst h2 r2 =>
    have ev:=I.list_inj h1 h2
    subst ev
    rw [zn7 ih (by simpa [eqOk] using ok) r1 r2]
   |_=>simp [eqOk]at ok
  |_=>cases q<;>first | rfl | simp_all [eqOk]
mutual
theorem zar9:∀ {a b:D},eqD a b=true↔a=b
 |.non,b=>by cases b<;>simp [eqD]
 |.bl _,b=>by cases b<;>simp [eqD]
 |.int _,b=>by cases b<;>simp [eqD]
 |.str _,b=>by cases b<;>simp [eqD]
 |.tup xs,b=>by
  cases b with
  |tup ys=>simp only [eqD,D.tup.injEq];exact eqDs_iff
  |_=>simp [eqD]
 |.lst xs,b=>by
  cases b with
  |lst ys=>simp only [eqD,D.lst.injEq];exact eqDs_iff
  |_=>simp [eqD]
 |.dct ks xs,b=>by
  cases b with
  |dct ks' ys=>simp only [eqD,D.dct.injEq,zaw5,decide_eq_true_eq];rw [eqDs_iff (a:=xs) (b:=ys)]
  |_=>simp [eqD]
 |.pdc a,b=>by cases b<;>simp [eqD]
 |.fdc a,b=>by cases b<;>simp [eqD]
 |.adr a,b=>by cases b<;>simp [eqD]
theorem eqDs_iff:∀ {a b:List D},eqDs a b=true↔a=b
 |[],b=>by cases b<;>simp [eqDs]
 |x::xs,b=>by
  cases b with
  |nil=>simp [eqDs]
  |cons y ys =>
   simp only [eqDs,zaw5,List.cons.injEq]
   rw [zar9 (a:=x) (b:=y),eqDs_iff (a:=xs) (b:=ys)]
end
theorem eqD_true {a b:D}:eqD a b=true↔a=b:=zar9
theorem eqD_false {a b:D}:eqD a b=false↔¬ a=b:=by rw [← eqD_true];simp
def eAt (xs ys:List D) (j:Nat):Bool:=match xs[j]?,ys[j]? with
 |some a,some b=>eqD a b
 |_,_=>true
end
end DL
namespace DL
open PySem.Spec L2
theorem PlainL.isL {h:Heap}{a:Addr}{its:Array Value} (p:PlainL h a its):h.IsList a its:=by
 obtain⟨o,n,e,c,_,d⟩:=p
 exact⟨o,e,c,n,d⟩
section
variable {X:Cx}{F:List Addr}{a b c:Expr}{es:List Expr}{fa fb fc:DE}{g g1 g2:DS}{ft fu:DT}{pos:Pos}{st:Stmt}{rest:List Stmt}{tg:Expr}{gt:TG}{kt:D→Th→Option Th}
def scD:D→Bool
 |.tup _=>false
 |.lst _=>false
 |.dct _ _=>false
 |.pdc _=>false
 |.fdc _=>false
 |.adr _=>false
 |_=>true
theorem eqV_D {K:zav4}{H:Hp}{n:Nat}{d e:D}{v u:V} (r:Rep K H d v) (q:Rep K H e u) (s1:scD d=true) (s2:scD e=true) (ok:eqOk n d e=true):zl1 v=true∧zl1 u=true∧eqV v u=eqD d e:=by
 cases r<;>cases q<;>simp_all [scD,eqOk,zl1,eqV,eqD]
 all_goals (rw [zbb1];simp)
theorem zv1 {xs ys:List D} (h:xs.length=ys.length):(zaz7 xs.length).all (eAt xs ys)=eqD (.lst xs) (.lst ys):=by
 rw [zbb1,eqD_true,zbc8]
 constructor
 ·intro hh
  congr 1
  apply List.ext_getElem h
  intro i h1 h2
  have:=hh i (List.mem_range.mpr h1)
  simp only [eAt,zaw2 h1,zaw2 h2]at this
  exact eqD_true.mp this
 ·intro hh i hi
  injection hh with hh
  subst hh
  simp only [eAt]
  split
  ·rename_i a b z1 z2
   rw [z1]at z2;cases z2
   exact eqD_true.mpr rfl
  ·rfl
theorem zv0 {xs ys:List D}:((zaz7 (min xs.length ys.length)).all (eAt xs ys)&&xs.length == ys.length)=eqD (.tup xs) (.tup ys):=by
 by_cases h:xs.length=ys.length
 ·have e:min xs.length ys.length=xs.length:=by lia
  rw [e,zv1 h,beq_iff_eq.mpr h,Bool.and_true]
  rw [zbb1,eqD_true,eqD_true]
  simp
 ·have e:(xs.length == ys.length)=false:=by simpa using h
  rw [e,Bool.and_false]
  symm
  rw [eqD_false]
  intro z
  injection z with z
  exact h (by rw [z])
theorem zaa1 {n:Nat}{xs ys:List D} (h:((xs.zip ys).all fun p=>eqOk n p.1 p.2)=true) {j:Nat}{x y:D} (hx:xs[j]?=some x) (hy:ys[j]?=some y):eqOk n x y=true:=by
 rw [zbc8]at h
 refine h (x,y) (zbk0 (i:=j) ?_)
 rw [List.getElem?_zip_eq_some]
 exact⟨hx,hy⟩
theorem zx8 {A:Around}:A.in1.units=A.units+1:=rfl
theorem Vals.getL {vs:List V}{us:List Value} (h:Vals vs us) {j:Nat} (hj:j<us.toArray.size):∃v,vs[j]?=some v∧RelV v us.toArray[j]:=by
 have hj':j<vs.length:=by rw [h.length];simpa using hj
 obtain⟨u,e,r⟩:=Vals.get h (zaw2 hj')
 refine⟨_,zaw2 hj',?_⟩
 have:us.toArray[j]=u:=by
  have hj2:j<us.length:=by simpa using hj
  have:=zaw2 hj2
  rw [e]at this
  simpa using (Option.some.inj this).symm
 rw [this];exact r
theorem eqAt_D {pins:List (Addr×Obj)}{s:zaw4}{σ:L2.St}{H:Hp} (I:Inv X pins σ H s):∀(n:Nat) (A:Around) (d e:D) (v u:V) (y z:Value),A.units+n<cLine→eqOk n d e=true→Rep X.K H d v→Rep X.K H e u→RelV v y→RelV u z→SeqAt.EqAt A s y z (eqD d e):=by
 intro n
 induction n with
 |zero =>
  intro A d e v u y z hu ok r q ry rz
  have s1:scD d=true:=by cases d<;>cases e<;>simp_all [scD,eqOk]
  have s2:scD e=true:=by cases d<;>cases e<;>simp_all [scD,eqOk]
  obtain⟨f1,f2,ee⟩:=eqV_D r q s1 s2 ok
  rw [← ee]
  exact zas0 ry rz f1 f2
 |succ n ih =>
  intro A d e v u y z hu ok r q ry rz
  by_cases s1:scD d=true
  ·have s2:scD e=true:=by cases d<;>cases e<;>simp_all [scD,eqOk]
   obtain⟨f1,f2,ee⟩:=eqV_D r q s1 s2 ok
   rw [← ee]
   exact zas0 ry rz f1 f2
  ·have hu':A.in1.units+n<cLine:=by rw [zx8];lia
   have hu0:A.units<cLine:=by lia
   cases r with
   |@tup xs p vs h1 h2 =>
    cases q with
    |@tup ys p' ws h1' h2' =>
     cases ry;cases rz
     by_cases z:p=p'
     ·subst z
      have e:=Rep.inj I _ _ _ _ ok (.tup h1 h2) (.tup h1' h2')
      rw [eqD_true.mpr e]
      exact SeqAt.EqAt.same _
     ·obtain⟨its,w1,w2,_⟩:=I.tuple h1
      obtain⟨its',w1',w2',_⟩:=I.tuple h1'
      refine SeqAt.EqAt.of_refs z ?_
      have k:=SeqAt.RcAt.tuples (A:=A) (e:=eAt xs ys) w2 w2' hu0 (fun j g1 g2=>by
       obtain⟨v1,a1,a2⟩:=Vals.getL w1 g1
       obtain⟨v2,b1,b2⟩:=Vals.getL w1' g2
       obtain⟨x1,c1,c2⟩:=h2.getV a1
       obtain⟨x2,d1,d2⟩:=h2'.getV b1
       have:=ih A.in1 x1 x2 v1 v2 _ _ hu' (zaa1 (by simpa [eqOk] using ok) c1 d1) c2 d2 a2 b2
       have ee:eAt xs ys j=eqD x1 x2:=by simp only [eAt,c1,d1]
       rw [ee];exact this)
      have l1:its.toArray.size=xs.length:=by have:=w1.length;have:=h2.length;simp;lia
      have l2:its'.toArray.size=ys.length:=by have:=w1'.length;have:=h2'.length;simp;lia
      rw [l1,l2,zv0]at k
      exact k
    |_=>simp_all [eqOk]
   |@lst xs p vs h1 h2 =>
    cases q with
    |@lst ys p' ws h1' h2' =>
     cases ry;cases rz
     by_cases z:p=p'
     ·subst z
      have e:=Rep.inj I _ _ _ _ ok (.lst h1 h2) (.lst h1' h2')
      rw [eqD_true.mpr e]
      exact SeqAt.EqAt.same _
     ·obtain⟨its,w1,w2,_⟩:=I.list h1
      obtain⟨its',w1',w2',_⟩:=I.list h1'
      refine SeqAt.EqAt.of_refs z ?_
      have l1:its.toArray.size=xs.length:=by have:=w1.length;have:=h2.length;simp;lia
      have l2:its'.toArray.size=ys.length:=by have:=w1'.length;have:=h2'.length;simp;lia
      by_cases hl:xs.length=ys.length
      ·have k:=SeqAt.RcAt.lists (A:=A) (e:=eAt xs ys) (PlainL.isL w2) (PlainL.isL w2') (by rw [l1,l2];exact hl) hu0 (fun j g1 g2=>by
        obtain⟨v1,a1,a2⟩:=Vals.getL w1 g1
        obtain⟨v2,b1,b2⟩:=Vals.getL w1' g2
        obtain⟨x1,c1,c2⟩:=h2.getV a1
        obtain⟨x2,d1,d2⟩:=h2'.getV b1
        have:=ih A.in1 x1 x2 v1 v2 _ _ hu' (zaa1 (by simpa [eqOk] using ok) c1 d1) c2 d2 a2 b2
        have ee:eAt xs ys j=eqD x1 x2:=by simp only [eAt,c1,d1]
        rw [ee];exact this)
       rw [l1,zv1 hl]at k
       exact k
      ·have ee:eqD (.lst xs) (.lst ys)=false:=eqD_false.mpr fun z=>hl (by injection z with z;rw [z])
       rw [ee]
       exact SeqAt.RcAt.lists_lengths (PlainL.isL w2) (PlainL.isL w2') (by rw [l1,l2];simpa using hl) hu0
    |_=>simp_all [eqOk]
   |dct=>exact absurd ok (by cases e<;>simp [eqOk])
   |pdc=>exact absurd ok (by cases e<;>simp [eqOk])
   |fdc=>exact absurd ok (by cases e<;>simp [eqOk])
   |adr=>exact absurd ok (by cases e<;>simp [eqOk])
   |_=>simp_all [scD]
theorem zad9 {pins:List (Addr×Obj)}{s:zaw4}{σ:L2.St}{H:Hp} (I:Inv X pins σ H s) {n:Nat}{A:Around}{xs ys:List D}{vs ws:List V}{its its':List Value} (hu:A.units+n+1<cLine) (ok:((xs.zip ys).all fun p=>eqOk n p.1 p.2)=true)
  (h2:Reps X.K H xs vs) (h2':Reps X.K H ys ws) (w1:Vals vs its) (w1':Vals ws its'):∀j (g1:j<its.toArray.size) (g2:j<its'.toArray.size),SeqAt.EqAt A.in1 s its.toArray[j] its'.toArray[j] (eAt xs ys j):=fun j g1 g2=>by
 obtain⟨v1,a1,a2⟩:=Vals.getL w1 g1
 obtain⟨v2,b1,b2⟩:=Vals.getL w1' g2
 obtain⟨x1,c1,c2⟩:=h2.getV a1
 obtain⟨x2,d1,d2⟩:=h2'.getV b1
 have:=eqAt_D I n A.in1 x1 x2 v1 v2 _ _ (by rw [zx8];lia) (zaa1 ok c1 d1) c2 d2 a2 b2
 have ee:eAt xs ys j=eqD x1 x2:=by simp only [eAt,c1,d1]
 rw [ee];exact this
def kEq:Ev→Ev→Option Ev:=fun r1 r2=>if eqOk 6 r1.d r2.d then some (.cl (.bl (eqD r1.d r2.d))) else none
def kNe:Ev→Ev→Option Ev:=fun r1 r2=>if eqOk 6 r1.d r2.d then some (.cl (.bl (!eqD r1.d r2.d))) else none
theorem scal_D {K:zav4}{H:Hp}{n:Nat}{d e:D}{v u:V} (r:Rep K H d v) (q:Rep K H e u) (s1:scD d=true) (ok:eqOk n d e=true):scal v u=true∧decide (v=u)=eqD d e:=by
 cases r<;>cases q<;>simp_all [scD,eqOk,scal,eqD]
theorem od_eq (hu:X.A.units+64<cLine):OpD X F (compareOp .Eq) kEq:=by
 intro pins s σ H0 H A x y v u Q r1 r2 r I m g0 rx ry q1 q2 e hq
 unfold kEq at e
 split at e
 case isFalse=>cases e
 rename_i ok
 cases e
 have p1:=q1.full
 have p2:=q2.full
 by_cases s1:scD r1.d=true
 ·obtain⟨a1,a2⟩:=scal_D p1 p2 s1 ok
  exact op_eq pins s σ H x y v u Q I rx ry ⟨a1,by rw [a2];exact hq _ H (Same.refl H) (.bl _)⟩
 ·generalize r1.d=d1 at *
  generalize r2.d=d2 at *
  have hu0:X.A.units<cLine:=by lia
  cases p1 with
  |@tup xs p vs h1 h2 =>
   cases p2 with
   |@tup ys p' ws h1' h2' =>
    cases rx;cases ry
    obtain⟨its,w1,w2,_⟩:=I.tuple h1
    obtain⟨its',w1',w2',_⟩:=I.tuple h1'
    have l1:its.toArray.size=xs.length:=by have:=w1.length;have:=h2.length;simp;lia
    have l2:its'.toArray.size=ys.length:=by have:=w1'.length;have:=h2'.length;simp;lia
    refine SeqAt.eq_tupleAt w2 w2' hu0 (zad9 I (n:=5) (by lia) (by simpa [eqOk] using ok) h2 h2' w1 w1') ?_
    rw [l1,l2,zv0]
    exact⟨.bl _,H,I,rfl,hq _ H (Same.refl H) (.bl _)⟩
   |_=>simp_all [eqOk]
  |@lst xs p vs h1 h2 =>
   cases p2 with
   |@lst ys p' ws h1' h2' =>
    cases rx;cases ry
    obtain⟨its,w1,w2,_⟩:=I.list h1
    obtain⟨its',w1',w2',_⟩:=I.list h1'
    have l1:its.toArray.size=xs.length:=by have:=w1.length;have:=h2.length;simp;lia
    have l2:its'.toArray.size=ys.length:=by have:=w1'.length;have:=h2'.length;simp;lia
    by_cases hl:xs.length=ys.length
    ·refine SeqAt.eq_listAt (PlainL.isL w2) (PlainL.isL w2') (by rw [l1,l2];exact hl) hu0 (zad9 I (n:=5) (by lia) (by simpa [eqOk] using ok) h2 h2' w1 w1') ?_
     rw [l1,zv1 hl]
     exact⟨.bl _,H,I,rfl,hq _ H (Same.refl H) (.bl _)⟩
    ·have ee:eqD (.lst xs) (.lst ys)=false:=eqD_false.mpr fun z=>hl (by injection z with z;rw [z])
     rw [ee]at hq
     exact SeqAt.eq_list_lengthsAt (PlainL.isL w2) (PlainL.isL w2') (by rw [l1,l2];simpa using hl) hu0 ⟨.bl _,H,I,rfl,hq _ H (Same.refl H) (.bl _)⟩
   |_=>simp_all [eqOk]
  |dct=>exact absurd ok (by cases d2<;>simp [eqOk])
  |pdc=>exact absurd ok (by cases d2<;>simp [eqOk])
  |fdc=>exact absurd ok (by cases d2<;>simp [eqOk])
  |adr=>exact absurd ok (by cases d2<;>simp [eqOk])
  |_=>simp_all [scD]
theorem od_ne (hu:X.A.units+64<cLine):OpD X F (compareOp .NotEq) kNe:=by
 intro pins s σ H0 H A x y v u Q r1 r2 r I m g0 rx ry q1 q2 e hq
 unfold kNe at e
 split at e
 case isFalse=>cases e
 rename_i ok
 cases e
 have p1:=q1.full
 have p2:=q2.full
 by_cases s1:scD r1.d=true
 ·obtain⟨a1,a2⟩:=scal_D p1 p2 s1 ok
  exact op_ne pins s σ H x y v u Q I rx ry ⟨a1,by rw [a2];exact hq _ H (Same.refl H) (.bl _)⟩
 ·generalize r1.d=d1 at *
  generalize r2.d=d2 at *
  have hu0:X.A.units<cLine:=by lia
  cases p1 with
  |@tup xs p vs h1 h2 =>
   cases p2 with
   |@tup ys p' ws h1' h2' =>
    cases rx;cases ry
    obtain⟨its,w1,w2,_⟩:=I.tuple h1
    obtain⟨its',w1',w2',_⟩:=I.tuple h1'
    have l1:its.toArray.size=xs.length:=by have:=w1.length;have:=h2.length;simp;lia
    have l2:its'.toArray.size=ys.length:=by have:=w1'.length;have:=h2'.length;simp;lia
    have k:=SeqAt.RcNeAt.tuples (A:=X.A) w2 w2' hu0 (zad9 I (n:=5) (by lia) (by simpa [eqOk] using ok) h2 h2' w1 w1')
    rw [l1,l2,zv0]at k
    exact k _ _ _ _ ⟨.bl _,H,I,rfl,hq _ H (Same.refl H) (.bl _)⟩
   |_=>simp_all [eqOk]
  |@lst xs p vs h1 h2 =>
   cases p2 with
   |@lst ys p' ws h1' h2' =>
    cases rx;cases ry
    obtain⟨its,w1,w2,_⟩:=I.list h1
    obtain⟨its',w1',w2',_⟩:=I.list h1'
    have l1:its.toArray.size=xs.length:=by have:=w1.length;have:=h2.length;simp;lia
    have l2:its'.toArray.size=ys.length:=by have:=w1'.length;have:=h2'.length;simp;lia
    by_cases hl:xs.length=ys.length
    ·have k:=SeqAt.RcNeAt.lists (A:=X.A) (PlainL.isL w2) (PlainL.isL w2') (by rw [l1,l2];exact hl) hu0 (zad9 I (n:=5) (by lia) (by simpa [eqOk] using ok) h2 h2' w1 w1')
     rw [l1,zv1 hl]at k
     exact k _ _ _ _ ⟨.bl _,H,I,rfl,hq _ H (Same.refl H) (.bl _)⟩
    ·have ee:eqD (.lst xs) (.lst ys)=false:=eqD_false.mpr fun z=>hl (by injection z with z;rw [z])
     rw [ee]at hq
     exact SeqAt.RcNeAt.lists_lengths (A:=X.A) (PlainL.isL w2) (PlainL.isL w2') (by rw [l1,l2];simpa using hl) hu0 _ _ _ _ ⟨.bl _,H,I,rfl,hq _ H (Same.refl H) (.bl _)⟩
   |_=>simp_all [eqOk]
  |dct=>exact absurd ok (by cases d2<;>simp [eqOk])
  |pdc=>exact absurd ok (by cases d2<;>simp [eqOk])
  |fdc=>exact absurd ok (by cases d2<;>simp [eqOk])
  |adr=>exact absurd ok (by cases d2<;>simp [eqOk])
  |_=>simp_all [scD]
noncomputable def tyD:D→String
 |.non => "NoneType"
 |.bl _ => "bool"
 |.int _ => "int"
 |.str _ => "str"
 |.tup _ => "tuple"
 |.lst _ => "list"
 |.dct _ _ => "dict"
 |.pdc _ => "dict"
 |.fdc _ => "dict"
 |.adr _ => "NoneType"
def isiT (d:D) (T:String):Bool:=tyD d == T||(tyD d == "bool"&&T == "int")
def isA:D→Bool
 |.adr _=>true
 |_=>false
def dIsi (T:String) (f:DE):DE:=fun t=>(f t).bind fun r=>if isA r.d then none else some (.cl (.bl (isiT r.d T)))
def IsiOk (K:zav4) (T:String):Prop := ∀d:D,PySem.W.kitOne K (.type (tyD d)) (.type T)=some (isiT d T)
theorem ped_isi {T:String}{x:Str}{p p2:Pos} (ok:IsiOk X.K T) (ha:PE X a (dE X.K F fa)) (hg:Gl X "isinstance") (hm:X.mg "isinstance"=none) (hgT:Gl X x) (hmT:X.mg x=none) (hvT:bootBuiltins x=some (.type T)) (hnT:x≠"__name__":=by decide) (hdT:(x ==("__debug__":Str))=false:=by decide)
  (he:zax8 (a::[Expr.Name x p2]) X.env=(false,eval a X.env)::zax8 [.Name x p2] X.env:=by rfl) (he2:zax8 [Expr.Name x p2] X.env=[(false,eval (.Name x p2) X.env)]:=by rfl) (hpl:(zbe1 pos (zax8 [Expr.Name x p2] X.env)).any (·.1)=false:=by rfl) :
  PE X (.Call (.Name "isinstance" p) [a,.Name x p2] [] pos) (dE X.K F (dIsi T fa)):=by
 have rule:zl5 X (.builtin "isinstance") (fun xs H Q => ∃v d,xs=[v,.ty T]∧isA d=false∧Rep X.K H d v∧Q (.bl (isiT d T)) H):=by
  intro pins s σ H xs us Q I r h
  obtain⟨v,d,rfl,na,rp,hq⟩:=h
  obtain⟨u,w',rfl,r1,r2⟩:=vals2 r
  cases (show w'=Value.type T from r2)
  have fin:∀tk,EP X pins σ Q (.bool (isiT d T)) { s with toks:=tk }:=fun tk=>⟨.bl _,H,I.tok tk,rfl,hq⟩
  have e:=ok d
  cases rp with
  |non=>cases (show u=Value.none from r1);exact zbb2 PySem.W.kitx_none I.kIn True.intro e (fun z=>nomatch z) fin
  |bl y=>cases (show u=Value.bool y from r1);exact zbb2 PySem.W.kitx_bool I.kIn True.intro e (fun z=>nomatch z) fin
  |int i=>obtain⟨t,q⟩:=(show ∃t,u=Value.int i t from r1);cases q;exact zbb2 PySem.W.kitx_int I.kIn True.intro e (fun z=>nomatch z) fin
  |str y=>obtain⟨t,q⟩:=(show ∃t,u=Value.str y t from r1);cases q;exact zbb2 PySem.W.kitx_str I.kIn True.intro e (fun z=>nomatch z) fin
  |@tup _ p _ h1 h2 =>
   cases (show u=Value.ref p from r1)
   obtain⟨its,_,⟨o,e1,c1,_⟩,_⟩:=I.tuple h1
   exact zbb2 PySem.W.kitx_tuple I.kIn ⟨o,e1,c1⟩ e (fun z=>nomatch z) fin
  |@lst _ p _ h1 h2 =>
   cases (show u=Value.ref p from r1)
   obtain⟨its,_,⟨o,n,e1,c1,_⟩,_⟩:=I.list h1
   exact zbb2 PySem.W.kitx_list I.kIn ⟨o,e1,c1⟩ e (fun z=>nomatch z) fin
  |@dct _ _ p _ _ h1 h2 =>
   cases (show u=Value.ref p from r1)
   exact zbb2 zbh8 I.kIn (dct_cls I h1) e (fun z=>nomatch z) fin
  |@pdc _ p h1 =>
   cases (show u=Value.ref p from r1)
   exact zbb2 zbh8 I.kIn (pdc_cls I h1) e (fun z=>nomatch z) fin
  |@fdc _ p _ h1 =>
   cases (show u=Value.ref p from r1)
   exact zbb2 zbh8 I.kIn (fdc_cls I h1) e (fun z=>nomatch z) fin
  |adr _=>cases na
 refine PE.imp (pe_callB rule hg hm boot_isinstance (zg3 ha (zg3 (pe_bltn (v:=.ty T) hgT hmT hvT rfl hnT hdT) zk6 he2) he) (by decide) (by decide) he hpl) ?_
 rintro σ H Q ⟨A,t,r,R,e,h⟩
 unfold dIsi at e
 cases e1:fa t with
 |none=>rw [e1]at e;cases e
 |some r1 =>
  rw [e1]at e
  simp only [zav9]at e
  split at e
  case isTrue=>cases e
  rename_i na
  cases e
  exact⟨A,t,r1,R,e1,fun v H' gs q=>⟨v,r1.d,rfl,by simpa using na,q.full,h _ H' gs (.bl _)⟩⟩
end
def zk1 (N:List Str) (ds:List D):Th:=ds.map Sl.val++zax4 (N.length - ds.length) Sl.no
theorem RSl.no_all {K:zav4}{H0 H:Hp}:∀n,RSl K H0 H (zax4 n Sl.no) (zax4 n none) []
 |0=>.nil
 |n+1=>.no (RSl.no_all n)
theorem RSl.start {K:zav4}{H0 H:Hp}{t:Th}{σ:L2.St} (r0:RSl K H0 H t σ []):∀ {ds:List D}{vs:List V},Reps K H0 ds vs→RSl K H0 H (ds.map Sl.val++t) (vs.map some++σ) []
 |_,_,.nil=>r0
 |_,_,.cons h r=>.val h (RSl.start r0 r)
def zh9:Out→Option Ev
 |.rt r=>some r
 |.nx _=>some (.cl .non)
 |_=>none
theorem zl0 {P:Program}{w:World}{K:zav4}{mg:Str→Option Value}{base:BHeap}{x qual:Str}{st:Stmt}{f:Addr}{fd:FuncData}{N ps:List Str}{k:Nat}{G:List D→Option Ev} (Fn:L2.Fun K x qual st f fd) (S:FnScope N ps (zb1 st))
  (hlen:∀ds r,G ds=some r→ds.length=ps.length) (g:DS) (hG:∀ds r,G ds=some r→∃o,g (zk1 N ds)=some o∧zh9 o=some r)
  (hbody:∀(cdv:Value) (A:Around) (outer:List Env) (s:zaw4) (H:Hp) (E:XK) (F:List Addr),Room k (A.deeper (envOfC qual (zb1 st) s.heap.objs.size f cdv)) →
   PSs (cxOf CX0 P w K mg base N qual (zb1 st) f cdv A outer s H E).nox (ze2 st) (dS K F g)):FnOk P w K mg base CX0 (k+1) f fd ps (spD K G):=by
 refine Fn.ok S (fun vs H Q E h=>?_) (fun cdv A outer s H vs Q E hr h=>?_)
 ·obtain⟨Fo,ds,r,_,hr,hg,_⟩:=h
  rw [hr.length];exact hlen ds r hg
 ·obtain⟨Fo,ds,r,hl,hr',hg,cont⟩:=h
  obtain⟨o,ho,hoe⟩:=hG ds r hg
  refine⟨_,hbody cdv A outer s H E Fo hr,dS_mk (A:=[]) (t:=zk1 N ds) ⟨hl,zay7,fun p hp=>(by cases hp),?_⟩ ho ?_⟩
  ·unfold zk1 L2.start
   rw [hr'.length]
   exact RSl.start (RSl.no_all _) hr'
  ·have sm:∀ {A' H'},Gr [] H A' H'→Same H H':=fun g b o q=>g.kp b o (by simp) q
   cases o with
   |nx t' =>
    cases hoe
    exact fun σ' H' A' g' R'=>cont .non H' (sm g') .non
   |bk t'=>cases hoe
   |ct t'=>cases hoe
   |rt r' =>
    cases hoe
    intro v H' A' g' q
    refine cont v H' (sm g') ?_
    cases r with
    |cl d=>exact q
    |tm d=>exact q
    |nw xs =>
     obtain⟨p,vs',rfl,h1,h2,h3,h4⟩:=q
     rcases h1 with h1 | h1
     ·cases h1
     ·exact⟨p,vs',rfl,h1,h3,h4⟩
    |dn d =>
     obtain⟨B,h1,h2,h3⟩:=q
     exact⟨B,h1,fun b hb=>by rcases (h2 b hb).1 with z | z;cases z;exact z,h3⟩
end DL
namespace DL
open PySem.Spec L2
structure Cal (P:Program) (w:World) (K:zav4) (mg:Str→Option Value) (base:BHeap) (x:Str) (k:Nat) (G:List D→Option Ev):Prop where
 ex:∃(a:Addr) (fd:FuncData) (ps:List Str),mg x=some (.ref a)∧zba4 K (.ref a)=true∧L2.Binds K fd ps []∧FnOk P w K mg base CX0 k a fd ps (spD K G)
section
variable {X:Cx}{F:List Addr}{a b c:Expr}{es:List Expr}{fa fb fc:DE}{ga:DA}{pos:Pos}
theorem zc9 {k:Nat}{G:List D→Option Ev}{x:Str}{p:Pos} (c:Cal X.prog X.w X.K X.mg X.base x k G) (hr:Room k X.A) (ha:PA X (a::es) (dA X.K F ga)) (hg:Gl X x:=by rfl) (hdb:(x ==("__debug__":Str))=false:=by decide)
  (he:zax8 (a::es) X.env=(false,eval a X.env)::zax8 es X.env:=by rfl) (hpl:(zbe1 pos (zax8 es X.env)).any (·.1)=false:=by rfl):PE X (.Call (.Name x p) (a::es) [] pos) (dE X.K F (dT1 (zc5 G) ga)):=by
 obtain⟨f,fd,ps,h1,h2,h3,h4⟩:=c.ex
 exact ped_call h4 hr hg h1 h2 h3 ha hdb he hpl
end
structure Df (K:zav4) (mg:Str→Option Value) (x:Str) (st:Stmt) (ps:List Str) (a:Addr) (fd:FuncData):Prop where
 fn:L2.Fun K x x st a fd
 mgx:mg x=some (.ref a)
 bd:L2.Binds K fd ps []
theorem Df.cal {P:Program}{w:World}{K:zav4}{mg:Str→Option Value}{base:BHeap}{x:Str}{st:Stmt}{ps:List Str}{a:Addr}{fd:FuncData}{k:Nat}{G:List D→Option Ev} (d:Df K mg x st ps a fd) (h:FnOk P w K mg base CX0 k a fd ps (spD K G)):Cal P w K mg base x k G :=
 ⟨a,fd,ps,d.mgx,d.fn.kp,d.bd,h⟩
theorem zah3:bootBuiltins "tuple"=some (.type "tuple"):=by decide +kernel
theorem bt_list:bootBuiltins "list"=some (.type "list"):=by decide +kernel
theorem bt_abs:bootBuiltins "abs"=some (.builtin "abs"):=by decide +kernel
end DL
namespace DL
open PySem.Spec L2
theorem cut1 {n:Nat}:∀ {us:List Value},us.length=n+1→∃a t,us=a::t∧t.length=n
 |a::t,h=>⟨a,t,rfl,Nat.succ.inj h⟩
theorem zau4 {K:zav4}{x qual:Str}{st:Stmt}{f:Addr}{fd:FuncData}{p0:Str} (F:L2.Fun K x qual st f fd) (h:∀(kV doc pm:Value) (an:Option Addr) (cdv ct:Value),∀a0:Value,bindArgs (zba8 x qual (zf7 st) (ze2 st) (zb1 st) .none kV doc pm an cdv ct) ⟨[a0],[]⟩=pure [(p0,a0)]):Binds K fd [p0] [] :=
 F.binds fun kV doc pm an cdv ct u0 h0=>by
  obtain⟨a0,u1,rfl,h1⟩:=cut1 h0
  cases zbc6.mp h1
  exact h kV doc pm an cdv ct a0
theorem zz5 {K:zav4}{x qual:Str}{st:Stmt}{f:Addr}{fd:FuncData}{p0 p1:Str} (F:L2.Fun K x qual st f fd) (h:∀(kV doc pm:Value) (an:Option Addr) (cdv ct:Value),∀a0 a1:Value,bindArgs (zba8 x qual (zf7 st) (ze2 st) (zb1 st) .none kV doc pm an cdv ct) ⟨[a0,a1],[]⟩=pure [(p0,a0),(p1,a1)]):Binds K fd [p0,p1] [] :=
 F.binds fun kV doc pm an cdv ct u0 h0=>by
  obtain⟨a0,u1,rfl,h1⟩:=cut1 h0
  obtain⟨a1,u2,rfl,h2⟩:=cut1 h1
  cases zbc6.mp h2
  exact h kV doc pm an cdv ct a0 a1
theorem binds3 {K:zav4}{x qual:Str}{st:Stmt}{f:Addr}{fd:FuncData}{p0 p1 p2:Str} (F:L2.Fun K x qual st f fd) (h:∀(kV doc pm:Value) (an:Option Addr) (cdv ct:Value),∀a0 a1 a2:Value,bindArgs (zba8 x qual (zf7 st) (ze2 st) (zb1 st) .none kV doc pm an cdv ct) ⟨[a0,a1,a2],[]⟩=pure [(p0,a0),(p1,a1),(p2,a2)]):Binds K fd [p0,p1,p2] [] :=
 F.binds fun kV doc pm an cdv ct u0 h0=>by
  obtain⟨a0,u1,rfl,h1⟩:=cut1 h0
  obtain⟨a1,u2,rfl,h2⟩:=cut1 h1
  obtain⟨a2,u3,rfl,h3⟩:=cut1 h2
  cases zbc6.mp h3
  exact h kV doc pm an cdv ct a0 a1 a2
theorem binds4 {K:zav4}{x qual:Str}{st:Stmt}{f:Addr}{fd:FuncData}{p0 p1 p2 p3:Str} (F:L2.Fun K x qual st f fd) (h:∀(kV doc pm:Value) (an:Option Addr) (cdv ct:Value),∀a0 a1 a2 a3:Value,bindArgs (zba8 x qual (zf7 st) (ze2 st) (zb1 st) .none kV doc pm an cdv ct) ⟨[a0,a1,a2,a3],[]⟩=pure [(p0,a0),(p1,a1),(p2,a2),(p3,a3)]):Binds K fd [p0,p1,p2,p3] [] :=
 F.binds fun kV doc pm an cdv ct u0 h0=>by
  obtain⟨a0,u1,rfl,h1⟩:=cut1 h0
  obtain⟨a1,u2,rfl,h2⟩:=cut1 h1
  obtain⟨a2,u3,rfl,h3⟩:=cut1 h2
  obtain⟨a3,u4,rfl,h4⟩:=cut1 h3
  cases zbc6.mp h4
  exact h kV doc pm an cdv ct a0 a1 a2 a3
inductive Hv (K:zav4) (x:Str) (st:Stmt) (f:Addr):Prop
 |mk {od an:Option Addr}{sl:Array (Option Value)}{oc kV dc pm cd ct:Value} (a:zbb4 K mainGlobals x=some (some (.ref f))) (l:K.lookup f=some ⟨oc,od,.func (zba8 x x (zf7 st) (ze2 st) (zb1 st) .none kV dc pm an cd ct),sl⟩) (c:zbg0 K cd x=true) (k:zba4 K (.ref f)=true):Hv K x st f
theorem Hv.fn {K:zav4}{x:Str}{st:Stmt}{f:Addr} (h:Hv K x st f):∃fd,L2.Fun K x x st f fd:=by
 cases h with
 |mk a l c k=>exact⟨_,zar4 l c k⟩
theorem Hv.mg {K:zav4}{x:Str}{st:Stmt}{f:Addr}{hp:Heap}{mg:Str→Option Value} (h:Hv K x st f) (X:K.In hp) (G:hp.Ns mainGlobals mg):mg x=some (.ref f):=by
 cases h with
 |mk a l c k=>exact zbp1 X G a
theorem zq2 {N P:List Str}{sc:Scope} (h1:sc.kind=.function) (h2:sc.isCoroutine=false) (h3:sc.isGenerator=false) (h5:N.take P.length=P) (h:(decide N.Nodup&&(decide (∀x∈P,sc.names.lookup x=some .local∨sc.names.lookup x=some .cell)&&decide (∀y∈sc.names,y.2≠.free)))=true):FnScope N P sc:=by
 rw [zaw5,zaw5,decide_eq_true_eq,decide_eq_true_eq,decide_eq_true_eq]at h
 exact⟨h1,h2,h3,h.1,h5,h.2.1,h.2.2⟩
theorem Hv.bt {K:zav4}{x:Str}{st:Stmt}{f:Addr}{fd:FuncData}{p:Str} (F:L2.Fun K x x st f fd) (h:∀(kV doc pm:Value) (an:Option Addr) (cdv ct:Value) (v:Value),bindArgs (zba8 x x (zf7 st) (ze2 st) (zb1 st) .none kV doc pm an cdv ct) ⟨[v],[]⟩=pure [(p,v)]) (s:zaw4) (v:Value):BindsTo s fd ⟨[v],[]⟩ [(p,v)]:=by
 obtain⟨oc,od,kV,doc,pm,an,cdv,ct,osl,rfl,lk,hcd⟩:=F.ex
 exact .of_eq (h ..)
def locB (sc:Scope) (x:Str):Bool:=match sc.names.lookup x with
 |some .local=>true
 |some .cell=>true
 |_=>false
theorem zb7 {sc:Scope}{x:Str} (h:locB sc x=true):L2.Loc sc x:=by
 unfold locB at h
 unfold L2.Loc
 cases e:sc.names.lookup x with
 |none=>rw [e]at h;cases h
 |some k=>rw [e]at h;cases k<;>first | exact .inl rfl | exact .inr rfl | cases h
end DL
namespace L2
open PySem.Spec
section
variable {X:Cx}{pins:List (Addr×Obj)}{σ:L2.St}{H:Hp}{s:zaw4}{h':Heap}
theorem Inv.turnedNew {t':Nat}{fp:List Addr}{a:Addr}{o:HO} (I:Inv X pins σ H s) (k:∀b u,b∉fp→s.heap.get? b=some u→h'.get? b=some u) (hf:∀b∈fp,FpOk X pins H b) (hp:s.heap.objs.size≤a)
  (new:ObjOk X.prog X.w (upd H a o) h' a o):Inv X pins σ (upd H a o) { s with heap:=h',toks:=t' }:=by
 have ha:H a=none:=I.hok.fresh hp
 have sm:∀b u,H b=some u→upd H a o b=some u:=fun b u e=>by rw [za3 (fun z=>by rw [z,ha]at e;cases e)];exact e
 have nfp:∀b u,H b=some u→b∉fp:=fun b u e z=>by rw [(hf b z).1]at e;cases e
 refine I.step (g':=s.gens) (d':=s.drawn) (ch:=fp) (fun b hb=>?_) (fun b u _ _ hc e _=>k b u hc e) (fun b u _ _ hc e _=>⟨u.slots,k b u hc e⟩) (fun b u _ e n=>?_)
  (fun b u hc e=>⟨u,k b u hc e⟩) (fun b xs e=>sm b _ e) (fun b q u e=>sm b _ e) (fun b ps e=>sm b _ e) (fun m hm=>?_) (fun b u e=>?_) I.bare
 ·obtain⟨f0,f1,f2,f3,f4,f5⟩:=hf b hb
  exact⟨f3,f1,f4,f5⟩
 ·rw [za3 (zay3 (zax3 (zaw9 e) hp))];exact n
 ·obtain⟨q,es,ep,ho,r⟩:=hm
  exact⟨q,es,ep,k _ q (fun z=>(hf _ z).2.1 rfl) ho,r⟩
 ·by_cases z:b=a
  ·subst z
   rw [za4]at e
   cases e
   exact new
  ·rw [za3 z]at e
   refine (I.hok b u e).stay (fun c v hc q=>k c v ?_ q) (fun c q=>sm c _ q) (fun c xs q=>sm c _ q) fun c o u q=>sm c _ q
   rcases hc with w | w
   ·rw [w];exact nfp b u e
   ·exact nfp c _ w
theorem Inv.turnedL {t':Nat}{fp:List Addr} (I:Inv X pins σ H s) (k:∀b u,b∉fp→s.heap.get? b=some u→h'.get? b=some u) (hf:∀b∈fp,FpOk X pins H b):Inv X pins σ H { s with heap:=h',toks:=t' }:=by
 have nfp:∀b u,H b=some u→b∉fp:=fun b u e z=>by rw [(hf b z).1]at e;cases e
 refine I.step (g':=s.gens) (d':=s.drawn) (ch:=fp) (fun b hb=>?_) (fun b u _ _ hc e _=>k b u hc e) (fun b u _ _ hc e _=>⟨u.slots,k b u hc e⟩) (fun b u _ e n=>n)
  (fun b u hc e=>⟨u,k b u hc e⟩) (fun b xs e=>e) (fun b q u e=>e) (fun b ps e=>e) (fun m hm=>?_) (fun b u e=>?_) I.bare
 ·obtain⟨f0,f1,f2,f3,f4,f5⟩:=hf b hb
  exact⟨f3,f1,f4,f5⟩
 ·obtain⟨q,es,ep,ho,r⟩:=hm
  exact⟨q,es,ep,k _ q (fun z=>(hf _ z).2.1 rfl) ho,r⟩
 ·refine (I.hok b u e).stay (fun c v hc q=>k c v ?_ q) (fun c q=>q) (fun c xs q=>q) fun c o u q=>q
  rcases hc with w | w
  ·rw [w];exact nfp b u e
  ·exact nfp c _ w
end
noncomputable def Ite (K:zav4) (a:Addr):It :=
 ⟨fun i H => ∃xs x,SqL K H a xs∧xs[i]?=some x,fun i H x H' => ∃p v,H p=none∧x=.ref p∧H'=upd H p (.tup [.int i,v])∧∀xs,SqL K H a xs→xs[i]?=some v,fun i H => ∃xs,SqL K H a xs∧xs.length≤i⟩
def EnumAt (e it a:Addr) (i:Nat) (h:Heap):Prop:=(∃old,IsEnum h e it (i:Int) old)∧h.IsListIter it a i∧e≠it
theorem zak4 {P:Program}{w:World}{K:zav4}{elts:List Expr}{k:Nat}{pos:Pos} (a e it:Addr):Turn P w K (.Tuple elts k pos) (Ite K a) [e,it] e (EnumAt e it a) where
 mem:=by simp
 obj:=fun i h st b hb=>by
  obtain⟨⟨old,h1⟩,h2,_⟩:=st
  rcases (by simpa using hb:b=e∨b=it) with rfl | rfl
  ·exact⟨_,h1,fun v z=>by cases z⟩
  ·obtain⟨o,e1,c,d⟩:=h2
   exact⟨o,e1,fun v z=>by rw [d]at z;cases z⟩
 keep:=fun i h h' st kk=>by
  obtain⟨⟨old,h1⟩,h2,ne⟩:=st
  exact⟨⟨old,kk e (by simp) _ h1⟩,h2.at fun o q=>kk it (by simp) o q,ne⟩
 item:=by
  intro X hP hw hK hc i pins s σ H E I hf st hg
  subst hP hw hK
  obtain⟨xs,x,hq,hx⟩:=hg
  obtain⟨its,rv,p,hz⟩:=I.list hq
  obtain⟨u,hu,ru⟩:=rv.get hx
  obtain⟨⟨old,h1⟩,h2,ne⟩:=st
  refine wpAny_pyNext_enum_item h1 h2 p.isList (x:=u) (by simpa using hu) ne fun h1' heo hit1 ht1 hz1 hk1=>?_
  refine⟨_,rfl,wpAny_letOwnedTupleGo_enum heo fun h2' he2 hs2=>?_⟩
  replace hs2:Heap.SameBut e h1' h2':=hs2
  have es:e<s.heap.objs.size:=zaw9 h1
  have kp:∀b o,b∉[e,it]→s.heap.get? b=some o→h2'.get? b=some o:=fun b o nb q=>by
   have n1:b≠e:=fun z=>nb (by simp [z])
   have n2:b≠it:=fun z=>nb (by simp [z])
   exact (hs2.2 b n1).trans (hk1 b o n1 n2 q)
  have ht2:h2'.get? s.heap.objs.size=some { cls:=.type "tuple",data:=.seq #[.int i s.toks,u] }:=(hs2.2 _ (zba7 es)).trans ht1
  have I2:Inv X pins σ (upd H s.heap.objs.size (.tup [.int i,x])) { s with heap:=h2',toks:=s.toks+1 }:=I.turnedNew (t':=s.toks+1) kp hf (zaw7 _)
   ⟨by show 2≤sizeLine;decide,[.int i s.toks,u],.cons ⟨_,rfl⟩ (.cons ru .nil),⟨_,ht2,rfl,_,rfl⟩⟩
  refine⟨.ref s.heap.objs.size,_,I2,rfl,⟨s.heap.objs.size,x,I.hok.fresh (zaw7 _),rfl,rfl,fun ys hy=>by rw [I.list_inj hy hq];exact hx⟩,⟨⟨u,?_⟩,?_,ne⟩,fun b hb=>?_⟩
  ·exact he2
  ·exact hit1.extBut hs2.extBut (Ne.symm ne)
  ·rw [za3 (fun z=>?_)]
   ·exact (hf b hb).1
   ·rcases (by simpa using hb:b=e∨b=it) with w' |w'
    ·rw [← z,w']at es;exact absurd es (zba2 _)
    ·obtain⟨o,e1,_⟩:=h2
     have:=zaw9 e1
     rw [← w',z]at this;exact absurd this (zba2 _)
 done:=by
  intro X hP hw hK hc i pins s σ H E I hf st hg
  subst hP hw hK
  obtain⟨xs,hq,hx⟩:=hg
  obtain⟨its,rv,p,hz⟩:=I.list hq
  obtain⟨⟨old,h1⟩,h2,ne⟩:=st
  have hl:=rv.length
  refine wpAny_pyNext_enum_end (I.ok.hd hc) h1 h2 p.isList (by simp;lia) fun h' eb=>⟨rfl,I.turnedL (t':=s.toks) (fun b o nb q=>eb b o (fun z=>nb (by simp [z])) q) hf⟩
 self:=fun _ _ _ _ _ st h=>by
  obtain⟨⟨old,h1⟩,_,_⟩:=st
  exact wpAny_pyIter_enum h1 h
def iEnum (K:zav4) (tl:TE):TI:=fun σ H R=>tl σ H fun x H1 => ∃a,x=.ref a∧(∃xs,SqL K H1 a xs)∧R (Ite K a) H1
theorem zau3:bootBuiltins "enumerate"=some (.type "enumerate"):=by decide +kernel
theorem pi_enum {X:Cx}{l:Expr}{tl:TE}{elts:List Expr}{k:Nat}{tp p pos:Pos} (hg:Gl X "enumerate") (hm:X.mg "enumerate"=none) (hl:PE X l tl) (hs:zax8 [l] X.env=[(false,eval l X.env)]:=by rfl) :
  PI X (.Tuple elts k tp) (.Call (.Name "enumerate" p) [l] [] pos) (iEnum X.K tl):=by
 intro pins s σ H R I h
 refine Call_ (zj3 I hg hm zau3 (PyProof.Rows.callWith_type1 (thn ((zg3 hl zk6 hs) pos pins s σ H (fun vs H1=>match vs with | [x] => ∃a,x=.ref a∧(∃xs,SqL X.K H1 a xs)∧R (Ite X.K a) H1 | _=>False) I h) fun us s1 ⟨vs,H1,I1,r1,q1⟩=>?_) hs rfl))
 cases r1 with
 |nil=>exact q1.elim
 |@cons x u xr ur ru rr =>
  cases rr with
  |cons _ _=>exact q1.elim
  |nil =>
  obtain⟨a,rfl,⟨xs,hq⟩,q⟩:=q1
  cases ru
  obtain⟨its,rv,p,hz⟩:=I1.list hq
  refine call_enumerate_list p.isList fun h' he hit hz' hk=>?_
  have I2:Inv X pins σ H1 { s1 with heap:=h' }:=I1.kept (t':=s1.toks) hk
  refine wpAny_pyIter_enum he ?_
  refine⟨s1.heap.objs.size+1,[s1.heap.objs.size+1,s1.heap.objs.size],EnumAt (s1.heap.objs.size+1) s1.heap.objs.size a,Ite X.K a,H1,rfl,I2,zak4 a _ _,⟨⟨_,he⟩,hit,Nat.succ_ne_self _⟩,fun b hb=>?_,q⟩
  rcases (by simpa using hb:b=s1.heap.objs.size+1∨b=s1.heap.objs.size) with rfl | rfl
  ·exact I1.fpOk (zbh0 _) (I1.hok.fresh (zbh0 _))
  ·exact I1.fpOk (zaw7 _) (I1.hok.fresh (zaw7 _))
end L2
namespace DL
open PySem.Spec L2
def zh3 (i:Nat):List D→List D
 |[]=>[]
 |d::ds=>.tup [.int i,d]::zh3 (i+1) ds
theorem zi0:∀(i:Nat) (ds:List D),(zh3 i ds).length=ds.length
 |_,[]=>rfl
 |i,d::ds=>by simp [zh3,zi0 (i+1) ds]
theorem zp4:∀(i:Nat) (ds:List D) (j:Nat) (d:D),ds[j]?=some d→(zh3 i ds)[j]?=some (.tup [.int ((i+j:Nat):Int),d])
 |_,[],j,d,h=>by simp at h
 |i,e::ds,0,d,h=>by simp at h;subst h;simp [zh3]
 |i,e::ds,j+1,d,h=>by
  have:=zp4 (i+1) ds j d (by simpa using h)
  simp only [zh3,zbb7,this]
  rw [show i+1+j=i+(j+1) by lia]
noncomputable def zy8 (k:D→Th→Option Th) (f:DE) (body:DS):DS:=fun t=>(f t).bind fun r=>match r.d with
 |.lst ds=>if r.ok then forD k body (zh3 0 ds) t else none
 |_=>none
section
variable {X:Cx}{F:List Addr}{a b c:Expr}{es:List Expr}{fa fb fc:DE}{g g1 g2:DS}{pos:Pos}{gt:TG}{kt:D→Th→Option Th}
theorem zaf0 {body:List Stmt}{elts:List Expr}{kk:Nat}{tp p1 p2:Pos} (hp:PassesOwn (model X.prog X.w) X.A X.env X.xe) (hc:X.calm=true) (hge:Gl X "enumerate") (hm:X.mg "enumerate"=none) (hl:PE X a (dE X.K F fa)) (hg:PG X (.Tuple elts kk tp) gt) (ht:TgOk X.K F gt kt) (hb:PSs X body (dS X.K F g))
  (hst:zax8 [a] X.env=[(false,eval a X.env)]:=by rfl) (hs:∀x,foldedSetIterable (.Call (.Name "enumerate" p1) [a] [] p2) X.env x=pure x:=by intro _;rfl):PS X (.For (.Tuple elts kk tp) (.Call (.Name "enumerate" p1) [a] [] p2) body [] pos) (dS X.K F (zy8 kt fa g)):=by
 refine PS.imp (zn8 hp hc (pi_enum hge hm hl hst) hg hb hs) ?_
 intro E σ H hh
 obtain⟨A,t,o,R,e,h⟩:=zy5 hh
 unfold zy8 at e
 cases e1:fa t with
 |none=>rw [e1]at e;cases e
 |some r =>
  rw [e1]at e
  refine⟨A,t,r,R,e1,fun v H1 gs q=>?_⟩
  have e:(match r.d with
   |.lst ds=>if r.ok then forD kt g (zh3 0 ds) t else none
   |_=>none)=some o:=e
  split at e
  case h_2=>cases e
  rename_i ds z
  split at e
  case isFalse=>cases e
  rename_i ok
  have cl:=q.clean R.mu gs ok
  rw [z]at cl
  cases cl with
  |@lst _ p vs h1 h2 =>
   refine⟨p,rfl,⟨vs,SqL.mono (za6 _ _) h1⟩,?_⟩
   refine zh2 (fun A H=>SqL X.K (hide (A++F) H) p vs∧Reps X.K (hide (A++F) H) ds vs) ht (R.grow gs) e (h.back (Gr.of_same R.mu.left gs)) ⟨h1,h2⟩ (fun A H A' H' q gr=>⟨SqL.mono gr.same q.1,Reps.mono gr.same q.2⟩)
    (fun A H q=>⟨vs,SqL.mono (za6 _ _) q.1,by rw [h2.length,zi0];exact zaw7 _⟩) (fun A H i q hi=>?_) (fun A H i x H' q mu y hi=>?_)
   ·have hi':i<vs.length:=by rw [h2.length];rw [zi0]at hi;exact hi
    exact⟨vs,vs[i],SqL.mono (za6 _ _) q.1,zaw2 hi'⟩
   ·obtain⟨l,v,hl0,rfl,rfl,hv⟩:=y
    have zz:=hv vs (SqL.mono (za6 _ _) q.1)
    obtain⟨d,hd,rd⟩:=q.2.getV zz
    have sm:=zb8 (o:=HO.tup [.int i,v]) hl0
    refine⟨sm,_,zp4 0 ds i d hd,?_⟩
    rw [Nat.zero_add]
    exact .tup (SqT.of (zb0 za4 (zc0 mu hl0))) (.cons (.int _) (.cons (Rep.mono (zb6 sm) rd) .nil))
end
end DL
namespace L2
open PySem.Spec
noncomputable def clOf (cells:List (Str×Addr)):List (Str×NameKind)→List (Str×Addr)→List (Str×Addr)
 |[],acc=>acc
 |(n,k)::r,acc=>if k == .free then clOf cells r ((n,(cells.lookup n).getD 0)::acc) else clOf cells r acc
theorem zj8 {cells:List (Str×Addr)}:∀ {names:List (Str×NameKind)}{acc:List (Str×Addr)}{x:Str}{c:Addr},(∀y∈names,y.2=.free→∃c,cells.lookup y.1=some c)→(clOf cells names acc).lookup x=some c→acc.lookup x=some c∨cells.lookup x=some c
 |[],acc,x,c,_,h=>.inl h
 |(n,k)::r,acc,x,c,hy,h=>by
  unfold clOf at h
  have hr:∀y∈r,y.2=.free→∃c,cells.lookup y.1=some c:=fun y h1=>hy y (zav8 _ h1)
  split at h
  ·rename_i hk
   rcases zj8 hr h with z | z
   ·rw [zay9]at z
    split at z
    ·rename_i e
     have e:x=n:=by simpa using e
     obtain⟨c',hc'⟩:=hy (n,k) (zaw0 ..) (by simpa using hk)
     simp only [hc',zbl8]at z
     cases z
     rw [e];exact .inr hc'
    ·exact .inl z
   ·exact .inr z
  ·exact zj8 hr h
theorem zp7 {cells:List (Str×Addr)}:∀ {names:List (Str×NameKind)}{acc:List (Str×Addr)}{x:Str},(∃c,acc.lookup x=some c)→∃c,(clOf cells names acc).lookup x=some c
 |[],acc,x,h=>h
 |(n,k)::r,acc,x,h=>by
  unfold clOf
  split
  ·refine zp7 ?_
   rw [zay9]
   split
   ·exact⟨_,rfl⟩
   ·exact h
  ·exact zp7 h
theorem zi8 {cells:List (Str×Addr)}:∀ {names:List (Str×NameKind)}{acc:List (Str×Addr)}{x:Str},(x,NameKind.free)∈names→∃c,(clOf cells names acc).lookup x=some c
 |(n,k)::r,acc,x,h=>by
  unfold clOf
  rcases zaw6.mp h with z | z
  ·cases z
   rw [if_pos (by rfl)]
   refine zp7 ⟨(cells.lookup n).getD 0,?_⟩
   simp [zay9]
  ·split
   ·exact zi8 z
   ·exact zi8 z
theorem zl9 {scope:Scope}{env:Env} (h:∀y∈scope.names,y.2=.free→∃c,env.cells.lookup y.1=some c):closureFor scope env=pure (clOf env.cells scope.names []):=by
 unfold closureFor
 have key:∀(names:List (Str×NameKind)) (acc:List (Str×Addr)),(∀y∈names,y.2=.free→∃c,env.cells.lookup y.1=some c) →
   (forIn names acc fun (x:Str×NameKind) (cs:List (Str×Addr))=>(do
    if x.2 == .free then
     let a ← cellOf env x.1
     pure (ForInStep.yield ((x.1,a)::cs))
    else pure (ForInStep.yield cs):Sem (ForInStep (List (Str×Addr)))))=pure (clOf env.cells names acc):=by
  intro names
  induction names with
  |nil=>intro acc _;rfl
  |cons y r ih =>
   intro acc hy
   obtain⟨n,k⟩:=y
   have hr:∀y∈r,y.2=.free→∃c,env.cells.lookup y.1=some c:=fun y h1=>hy y (zav8 _ h1)
   rw [zbd7]
   unfold clOf
   by_cases hk:(k == NameKind.free)=true
   ·obtain⟨c,hc⟩:=hy (n,k) (zaw0 ..) (by simpa using hk)
    have hc':cellOf env n=pure c:=by unfold cellOf;rw [hc]
    simp only [hk,if_true,hc']
    rw [← ih _ hr]
    simp only [hc,zbl8]
    rfl
   ·have hk':(k == NameKind.free)=false:=by simpa using hk
    simp only [hk',zaz3,if_false]
    rw [← ih _ hr]
    rfl
 have:=key scope.names [] h
 simp only [bind_pure_comp]at this ⊢
 rw [this]
 rfl
theorem ze1 {env:Env}:∀ {names:List (Str×NameKind)}{x:Str}{k':NameKind},(names.map fun (n,k)=>if (k == NameKind.free&&env.scope.kind == .function&&env.kindOf n == some .cell) then (n,NameKind.cell) else (n,k)).lookup x=some k' →
  ∃k,(x,k)∈names∧(k'=k∨(k=.free∧k'=.cell))
 |[],x,k',h=>by simp at h
 |(n,k)::r,x,k',h=>by
  rw [zax1]at h
  by_cases hc:(k == NameKind.free&&env.scope.kind == .function&&env.kindOf n == some .cell)=true
  ·simp only [hc,if_true,zay9]at h
   split at h
   ·rename_i e
    have e:x=n:=by simpa using e
    cases h
    simp only [zaw5,beq_iff_eq]at hc
    have hk:k=.free:=by simpa using hc.1.1
    exact⟨k,by rw [e];exact zaw0 ..,.inr ⟨hk,rfl⟩⟩
   ·obtain⟨q,a,b⟩:=ze1 h
    exact⟨q,zav8 _ a,b⟩
  ·have hc':(k == NameKind.free&&env.scope.kind == .function&&env.kindOf n == some .cell)=false:=by simpa using hc
   simp only [hc',zaz3,if_false,zay9]at h
   split at h
   ·rename_i e
    have e:x=n:=by simpa using e
    cases h
    exact⟨_,by rw [e];exact zaw0 ..,.inl rfl⟩
   ·obtain⟨q,a,b⟩:=ze1 h
    exact⟨q,zav8 _ a,b⟩
theorem zy9 {prog:Program}{w:World}{A:Around}{R:Result→zaw4→Prop}{s:zaw4}{elt target iter:Expr}{ifs:List Expr}{scope:Scope}{pos:Pos}{it acc:Value}{env:Env} (I:Nat→zaw4→Prop)
  (turn:∀n s,I n s→wpAny (model prog w) A (pyNext it) (fun r s₁=>match r with
   |none=>R (.ok .next) s₁
   |some v=>wpAny (model prog w) A (letOwnedTupleGo target it v) (fun _ s₁'=>wpAny (model prog w) A (assign target env v) (fun _ s₂ =>
     wpAny (model prog w) A (forIn ifs true fun c r=>if r=true then do let ok ← isTrue c env (eval c env);pure (ForInStep.yield ok) else pure (ForInStep.yield r)) (fun ok s₃ =>
      if ok=true then wpAny (model prog w) A (eval elt env) (fun x s₄ =>
       wpAny (model prog w) A (call (.builtin "list.append") [acc,x]) (fun _ s₅ => ∃m,m<n∧I m s₅) (fun _ _=>False) s₄) (fun _ _=>False) s₃
      else ∃m,m<n∧I m s₃) (fun _ _=>False) s₂) (fun _ _=>False) s₁') (fun _ _=>False) s₁) (fun _ _=>False) s)
  (n:Nat) (h:I n s):codeAny (model prog w) A (.compLoop (.ListComp elt [⟨target,iter,ifs,0⟩] scope pos) 0 it acc env) R s:=by
 refine codeAny_loop rfl I (fun n s hI=>?_) n h
 show wpAny _ A ((compTurn (.ListComp elt [⟨target,iter,ifs,0⟩] scope pos) 0 it acc env).onRaise (fun x=>do noteFrame x env;theTreesLotGoes x)) _ _ s
 refine wpAny_noted ?_
 rw [compTurn_list]
 refine zav6 (wpAny_standAt (zav6 (wpAny_mono (turn n s hI) (fun r s₁ h₁=>?_) fun _ _ h'=>h'.elim)))
 cases r with
 |none=>exact zaw3 h₁
 |some v =>
  refine zav6 (wpAny_mono h₁ (fun _ s₁' h₁'=>?_) fun _ _ h'=>h'.elim)
  refine zav6 (wpAny_mono h₁' (fun _ s₂ h₂=>zav6 (wpAny_mono h₂ (fun ok s₃ h₃=>?_) fun _ _ h'=>h'.elim)) fun _ _ h'=>h'.elim)
  cases ok with
  |false=>exact zaw3 ⟨rfl,h₃⟩
  |true =>
   exact zav6 (zav6 (wpAny_mono h₃ (fun x s₄ h₄=>zav6 (wpAny_mono h₄ (fun _ s₅ h₅=>zaw3 (zaw3 ⟨rfl,h₅⟩)) fun _ _ h'=>h'.elim)) fun _ _ h'=>h'.elim))
theorem zu5 {x:Str}{c:Addr}:∀ {names:List (Str×NameKind)}{n:Nat}{acc:List (Str×Addr)},(cellsFrom n names acc).lookup x=some c→acc.lookup x=some c∨n≤c
 |[],n,acc,h=>.inl h
 |(y,k)::r,n,acc,h=>by
  unfold cellsFrom at h
  split at h
  ·rcases zu5 h with z | z
   ·rw [zay9]at z
    split at z
    ·cases z;exact .inr (zaw7 _)
    ·exact .inl z
   ·exact .inr (by lia)
  ·exact zu5 h
theorem zah1 {x:Str}:∀ {names:List (Str×NameKind)}{n:Nat}{acc:List (Str×Addr)},(∃c,acc.lookup x=some c)→∃c,(cellsFrom n names acc).lookup x=some c
 |[],n,acc,h=>h
 |(y,k)::r,n,acc,h=>by
  unfold cellsFrom
  split
  ·refine zah1 ?_
   rw [zay9]
   split
   ·exact⟨_,rfl⟩
   ·exact h
  ·exact zah1 h
theorem zac9 {x:Str}:∀ {names:List (Str×NameKind)}{n:Nat}{acc:List (Str×Addr)},(x,NameKind.cell)∈names→∃c,(cellsFrom n names acc).lookup x=some c
 |(y,k)::r,n,acc,h=>by
  unfold cellsFrom
  rcases zaw6.mp h with z | z
  ·cases z
   rw [if_pos (by rfl)]
   exact zah1 ⟨n,by simp [zay9]⟩
  ·split
   ·exact zac9 z
   ·exact zac9 z
theorem cf_ge {x:Str}{c:Addr}{lo:Nat}:∀ {names:List (Str×NameKind)}{n:Nat}{acc:List (Str×Addr)},lo≤n→(∀c,acc.lookup x=some c→lo≤c)→(cellsFrom n names acc).lookup x=some c→lo≤c
 |[],n,acc,_,ha,h=>ha c h
 |(y,k)::r,n,acc,hn,ha,h=>by
  unfold cellsFrom at h
  split at h
  ·refine cf_ge (n:=n+1) (by lia) (fun c' h'=>?_) h
   rw [zay9]at h'
   split at h'
   ·cases h';exact hn
   ·exact ha c' h'
  ·exact cf_ge hn ha h
theorem zat2 {x:Str}{c:Addr}:∀ {names:List (Str×NameKind)}{n:Nat}{acc:List (Str×Addr)},(x,NameKind.cell)∈names→(cellsFrom n names acc).lookup x=some c→n≤c
 |(y,k)::r,n,acc,hm,h=>by
  unfold cellsFrom at h
  rcases zaw6.mp hm with z | z
  ·cases z
   rw [if_pos (by rfl)]at h
   refine cf_ge (lo:=n) (n:=n+1) (by lia) (fun c' h'=>?_) h
   rw [zay9,beq_self_eq_true]at h'
   cases h'
   exact zaw7 _
  ·split at h
   ·have:=zat2 z h;lia
   ·exact zat2 z h
theorem zat1 {x:Str}:∀ {names:List (Str×NameKind)}{n:Nat}{acc:List (Str×Addr)},(x,NameKind.cell)∉names→(cellsFrom n names acc).lookup x=acc.lookup x
 |[],n,acc,_=>rfl
 |(y,k)::r,n,acc,h=>by
  have hr:(x,NameKind.cell)∉r:=fun z=>h (zav8 _ z)
  unfold cellsFrom
  split
  ·rename_i hk
   rw [zat1 hr,zay9]
   split
   ·rename_i e
    exact absurd (zaw6.mpr (.inl (by rw [show x=y by simpa using e,show k=NameKind.cell by simpa using hk]))) h
   ·rfl
  ·exact zat1 hr
theorem zat3:∀ {names:List (Str×NameKind)}{n:Nat}{acc:List (Str×Addr)},(∀x c,acc.lookup x=some c→c<n)→(∀x y c,acc.lookup x=some c→acc.lookup y=some c→x=y) →
  ∀x y c,(cellsFrom n names acc).lookup x=some c→(cellsFrom n names acc).lookup y=some c→x=y
 |[],n,acc,_,hi=>hi
 |(z,k)::r,n,acc,hb,hi=>by
  unfold cellsFrom
  split
  ·refine zat3 (n:=n+1) (fun x c h=>?_) (fun x y c h1 h2=>?_)
   ·rw [zay9]at h
    split at h
    ·cases h;exact zbg2 _
    ·exact zbc2 (hb x c h)
   ·rw [zay9]at h1 h2
    split at h1
    ·rename_i e1
     cases h1
     split at h2
     ·rename_i e2;rw [show x=z by simpa using e1,show y=z by simpa using e2]
     ·exact absurd (hb y _ h2) (zba2 _)
    ·split at h2
     ·cases h2;exact absurd (hb x _ h1) (zba2 _)
     ·exact hi x y c h1 h2
  ·exact zat3 hb hi
theorem zad0 {x:Str}{c:Addr}:∀ {names:List (Str×NameKind)}{h:Heap}{acc:List (Str×Addr)},(∀c,acc.lookup x=some c→∃v,h.IsCell c v)→(cellsFrom h.objs.size names acc).lookup x=some c→∃v,(pushCells h names).IsCell c v
 |[],h,acc,ha,e=>ha c e
 |(y,k)::r,h,acc,ha,e=>by
  unfold cellsFrom at e
  unfold pushCells
  split at e
  ·rename_i hk
   rw [if_pos hk]
   rw [show h.objs.size+1=(h.push { cls:=.type "cell",data:=.cell none }).objs.size from (zbe6 ..).symm]at e
   refine zad0 (fun c' e'=>?_) e
   rw [zay9]at e'
   split at e'
   ·cases e';exact⟨none,_,zax2 _ rfl,rfl⟩
   ·obtain⟨v,z⟩:=ha c' e'
    exact⟨v,z.keeps fun b o q=>zav7 _ q⟩
  ·rename_i hk
   rw [if_neg hk]
   exact zad0 ha e
theorem zq1 {M:Model}{A:Around}{E:Value→zaw4→Prop}{s:zaw4}{scope:Scope}{globals:Addr}{cl:List (Str×Addr)}{qual:Str}{func:Option Addr}{code:Value}{env:Env}{builtins:Addr}{Q:Env→zaw4→Prop}
  (hQ:∀h',h'.Ns s.heap.objs.size (fun _=>none)→(∀b o,s.heap.get? b=some o→h'.get? b=some o)→(∀x c,(∀c,cl.lookup x=some c→∃v,s.heap.IsCell c v)→(cellsFrom (s.heap.objs.size+1) scope.names cl).lookup x=some c→∃v,h'.IsCell c v) →
   Q (newEnv scope s.heap.objs.size globals (cellsFrom (s.heap.objs.size+1) scope.names cl) qual func code (some env) builtins) { s with heap:=h',toks:=s.toks }) :
  wpAny M A (newFunctionEnv scope globals cl [] qual func code (some env) builtins) Q E s:=by
 simp only [newFunctionEnv,zbk9,if_true]
 refine zav6 (wpAny_alloc ?_)
 refine zav6 (wpAny_layCells _ (fun name kind cells=>by cases hkc:kind == NameKind.cell<;>simp [hkc]) _ _ _ _ ?_)
 have sz:(s.heap.push { cls:=.type "dict",data:=.dict #[] }).objs.size=s.heap.objs.size+1:=zbe6 ..
 rw [show ({ s with heap:=s.heap.push { cls:=.type "dict",data:=.dict #[] } }:zaw4).heap.objs.size=s.heap.objs.size+1 from sz]
 rw [zbe7]
 refine zav6 (zaw3 (zaw3 ?_))
 refine hQ _ ((Heap.Ns.new s.heap (.type "dict")).keeps (pushCells_keeps _ _)) (fun b o e=>pushCells_keeps _ _ b o (zav7 _ e)) fun x c ha e=>?_
 rw [← sz]at e
 exact zad0 (fun c' e'=>let ⟨v,z⟩:=ha c' e';⟨v,z.keeps fun b o q=>zav7 _ q⟩) e
noncomputable abbrev blk (X:Cx) (N':List Str) (scope:Scope) (C:Addr) (s₃:zaw4) (H₃:Hp) (fp:List Addr) (pins:List (Addr×Obj)):Cx :=
 { X with N:=N',s₀:=s₃,H₀:=H₃,env:=compEnvC scope (cellsFrom (C+1) scope.names (clOf X.env.cells scope.names [])) C X.env,outer:=X.stack,stack:=X.stack,ex:=fp,fn:=fun x=>scope.names.lookup x == some .cell,calm:=true,pn:=X.pn++pins,xe:=fun _ _=>False }
structure CompSc (X:Cx) (scope:Scope):Prop where
 kind:scope.kind=.function
 free:∀y∈scope.names,y.2=.free→X.env.kindOf y.1=some .cell∨X.env.kindOf y.1=some .free
 names:∀y∈scope.names,scope.names.lookup y.1=some y.2
section
variable {X:Cx}{pins:List (Addr×Obj)}{σ:L2.St}{H:Hp}{s:zaw4}{scope:Scope}{N':List Str}{fp:List Addr}
theorem CompSc.frees (S:CompSc X scope) (ok:X.Ok):∀y∈scope.names,y.2=.free→∃c,X.env.cells.lookup y.1=some c:=fun y hy hf=>ok.has y.1 (S.free y hy hf)
theorem CompSc.cells (S:CompSc X scope) (ok:X.Ok) {x:Str}{c:Addr} (h:(clOf X.env.cells scope.names []).lookup x=some c):X.env.cells.lookup x=some c:=by
 rcases zj8 (S.frees ok) h with z | z
 ·simp at z
 ·exact z
theorem CompSc.nc (S:CompSc X scope) {x:Str} (h:(x,NameKind.free)∈scope.names):(x,NameKind.cell)∉scope.names:=fun z=>by
 have w1:=S.names _ h
 have w2:=S.names _ z
 rw [show (x,NameKind.cell).1=(x,NameKind.free).1 from rfl,w1]at w2
 cases w2
theorem CompSc.cls (S:CompSc X scope) (I:Inv X pins σ H s) {x:Str}{c:Addr} (h:(clOf X.env.cells scope.names []).lookup x=some c):c<s.heap.objs.size:=by
 obtain⟨v,o,ho,_⟩:=I.cell x c (S.cells I.ok h)
 exact zaw9 ho
theorem CompSc.old (S:CompSc X scope) (I:Inv X pins σ H s) {x:Str}{c:Addr} (h:(cellsFrom (s.heap.objs.size+1) scope.names (clOf X.env.cells scope.names [])).lookup x=some c):X.env.cells.lookup x=some c∨s.heap.objs.size<c:=by
 rcases zu5 h with z | z
 ·exact .inl (S.cells I.ok z)
 ·exact .inr z
theorem blk_ok (I:Inv X pins σ H s) (S:CompSc X scope) (hc:X.calm=true) (hf:∀b∈fp,FpOk X pins H b) (hlt:∀b∈fp,b<s.heap.objs.size):(blk X N' scope s.heap.objs.size s H fp pins).Ok where
 mod:=I.ok.mod
 kind:=S.kind
 glob:=I.ok.glob
 blt:=I.ok.blt
 above:=zaw7 _
 inj:=zat3 (fun x c h=>zbc2 (S.cls I h)) fun x y c h1 h2=>I.ok.inj x y c (S.cells I.ok h1) (S.cells I.ok h2)
 has:=fun x hx=>by
  have hx:(relabel scope X.env).names.lookup x=some .cell∨(relabel scope X.env).names.lookup x=some .free:=hx
  have:(x,NameKind.free)∈scope.names∨(x,NameKind.cell)∈scope.names:=by
   rcases hx with hx | hx
   ·obtain⟨k,a,b⟩:=ze1 hx
    rcases b with b | b
    ·rw [← b]at a;exact .inr a
    ·rw [b.1]at a;exact .inl a
   ·obtain⟨k,a,b⟩:=ze1 hx
    rcases b with b | b
    ·rw [← b]at a;exact .inl a
    ·cases b.2
  rcases this with z | z
  ·exact zah1 (zi8 z)
  ·exact zac9 z
 cab:=fun x c h e=>by
  have h:(scope.names.lookup x == some NameKind.cell)=true:=h
  have h:scope.names.lookup x=some .cell:=by simpa using h
  exact Nat.le_of_succ_le (zat2 (PySem.mem_of_lookup h) e)
 hd:=fun _=>I.ok.hd hc
 frames:=I.ok.frames
 stk:=.inl rfl
 exf:=fun b hb=>⟨zay3 (hlt b hb),fun x c h=>by
  rcases S.old I h with z | z
  ·exact (hf b hb).2.2.2.2.1 x c z
  ·exact zba7 (zbl7 (hlt b hb) z)⟩
 bs:=fun b o e=>I.bs b o e
 bsz:=zaz5 I.ok.bsz I.sz
 noex:=fun b o e hb=>by
  rcases (hf b hb).2.2.2.1 with z | z
  ·exact I.ok.noex b o e z
  ·exact absurd (zax3 (zaw9 e) (zaz5 I.ok.bsz z)) (zba2 _)
 exfs:=fun b hb z=>(zaw6.mp (I.stkSub b z)).elim (hf b hb).2.1 (hf b hb).2.2.1
 funs:=I.stack
 frf:=I.stkFree
 tabs:=fun p hp=>I.base.tbls _ _ (I.ok.tabs p hp)
theorem blk_inv (I:Inv X pins σ H s) (S:CompSc X scope) (hc:X.calm=true) (hf:∀b∈fp,FpOk X pins H b) (hlt:∀b∈fp,b<s.heap.objs.size) {h1:Heap}{t1:Nat}{m:Str→Option Value}{σ':L2.St}
  (hns:h1.Ns s.heap.objs.size m) (hk:∀b o,s.heap.get? b=some o→h1.get? b=some o) (hcl:∀x c,(∀c,(clOf X.env.cells scope.names []).lookup x=some c→∃v,s.heap.IsCell c v)→(cellsFrom (s.heap.objs.size+1) scope.names (clOf X.env.cells scope.names [])).lookup x=some c→∃v,h1.IsCell c v) (hl:σ'.length=N'.length)
  (cap:∀(i:Nat) (x:Str) (v:V),N'[i]?=some x→σ'[i]?=some (some v)→(x,NameKind.free)∈scope.names∧∃j:Nat,X.N[j]?=some x∧σ[j]?=some (some v)) :
  Inv (blk X N' scope s.heap.objs.size s H fp pins) [] σ' H { s with heap:=h1,toks:=t1 } where
 ok:=blk_ok I S hc hf hlt
 os:=rfl
 bare:=I.bare
 base:=Un.kept hk
 loc:=⟨m,hns,fun i x v e1 e2 vs=>by
  obtain⟨hfree,j,j1,j2⟩:=cap i x v e1 e2
  obtain⟨m0,hn0,hl0⟩:=I.loc
  have vis:Vis X.env.scope x:=by
   rcases S.free _ hfree rfl with z | z
   ·exact .inr (.inl z)
   ·exact .inr (.inr z)
  obtain⟨u,r,l⟩:=hl0 j x v j1 j2 vis
  refine⟨u,r,?_⟩
  rcases l with ⟨k,_⟩ | ⟨k,c,e,z⟩
  ·exfalso
   rcases S.free _ hfree rfl with q | q
   ·rw [k]at q;cases q
   ·rw [k]at q;cases q
  ·obtain⟨c',hc'⟩:=zi8 (cells:=X.env.cells) (acc:=[]) hfree
   have e':=S.cells I.ok hc'
   rw [e]at e';cases e'
   refine .inr ⟨?_,c,by rw [show (blk X N' scope s.heap.objs.size s H fp pins).env.cells.lookup x=_ from zat1 (S.nc hfree)];exact hc',?_⟩
   ·have vs:(relabel scope X.env).names.lookup x=some .local∨(relabel scope X.env).names.lookup x=some .cell∨(relabel scope X.env).names.lookup x=some .free:=vs
    rcases vs with q | q
    ·obtain⟨k2,a,b⟩:=ze1 q
     rcases b with b | b
     ·rw [← b]at a
      have w1:=S.names _ a
      have w2:=S.names _ hfree
      rw [show (x,NameKind.local).1=(x,NameKind.free).1 from rfl,w2]at w1
      cases w1
     ·cases b.2
    ·exact q
   ·obtain⟨o,ho,hd⟩:=z
    exact⟨o,hk _ _ ho,hd⟩⟩
 cell:=fun x c h=>hcl x c (fun c' h'=>I.cell x c' (S.cells I.ok h')) h
 free:=I.hok.fresh (zaw7 _)
 freeC:=fun x c h=>by
  rcases S.old I h with z | z
  ·exact I.freeC x c z
  ·exact I.hok.fresh (zbf1 z)
 pin:=fun p hp=>by
  have hp:p∈(X.pn++pins)++[]:=hp
  rw [zbc3]at hp
  obtain⟨a,b,c,d,e⟩:=I.pin p hp
  exact⟨hk _ _ a,b,zay3 (zaw9 a),fun z=>(zaw6.mp (I.stkSub _ z)).elim c d,e⟩
 hok:=I.hok.kept hk
 len:=hl
theorem blk_back {H3 H':Hp}{s':zaw4}{h'':Heap}{σ':L2.St}{C:Addr}{pins':List (Addr×Obj)} (I:Inv X pins σ H3 s) (hf:∀b∈fp,FpOk X pins H3 b) (hC:C=s.heap.objs.size) (I':Inv (blk X N' scope C s H3 fp pins) pins' σ' H' s') (hb:Heap.SameBut C s'.heap h''):Inv X pins σ H' { s' with heap:=h'' }:=by
 subst hC
 have bs:Un (frs X.stack) fp H3 H' s.heap s'.heap:=I'.base
 have nC:∀b o,s.heap.get? b=some o→b≠s.heap.objs.size:=fun b o e=>zay3 (zaw9 e)
 have tr:∀b,b≠s.heap.objs.size→h''.get? b=s'.heap.get? b:=fun b n=>hb.2 b n
 have u:Un (frs X.stack) fp H3 H' s.heap h'' :=
  ⟨fun b o e n h1 h2=>(tr b (nC b o e)).trans (bs.keep b o e n h1 h2),fun b o e n h1 h2=>by obtain⟨sl,q⟩:=bs.slot b o e n h1 h2;exact⟨sl,(tr b (nC b o e)).trans q⟩,bs.free,
   fun b o e h1=>by obtain⟨o',q⟩:=bs.there b o e h1;exact⟨o',(tr b (nC b o e)).trans q⟩,bs.tups,bs.frzs,bs.tbls⟩
 have cf:H' s.heap.objs.size=none:=I'.free
 have hok:HOk X.prog X.w H' h'':=fun b o e=>by
  have nb:b≠s.heap.objs.size:=fun z=>by rw [z,cf]at e;cases e
  refine (I'.hok b o e).stay (fun c v hc q=>(tr c ?_).trans q) (fun _ q=>q) (fun _ _ q=>q) fun _ _ _ q=>q
  rcases hc with w | w
  ·rw [w];exact nb
  ·exact fun z=>by rw [z,cf]at w;cases w
 obtain⟨h0,g0,d0,t0,o0⟩:=s'
 have e:o0=s.os:=I'.os
 subst e
 exact I.call (g':=g0) (t':=t0) (d':=d0) u hok I'.bare fun b hb'=>by
  obtain⟨f0,f1,f2,f3,f4,f5⟩:=hf b hb'
  exact⟨f3,f1,f4,f5⟩
end
end L2
namespace L2
open PySem.Spec
noncomputable def PTs (Y:Cx) (ifs:List Expr) (t:TT):Prop :=
 ∀(pins:List (Addr×Obj)) (s:zaw4) (σ:L2.St) (H:Hp) (Q:Bool→Hp→Prop),Inv Y pins σ H s→t σ H Q →
  wpAny (model Y.prog Y.w) Y.A (forIn ifs true fun c r=>if r=true then do let ok ← isTrue c Y.env (eval c Y.env);pure (ForInStep.yield ok) else pure (ForInStep.yield r)) (TP Y pins σ Q) Y.xe s
theorem pts_nil {Y:Cx}:PTs Y [] (fun _ H Q=>Q true H):=fun pins s σ H Q I h=>wpAny_tests_nil ⟨H,I,h⟩
theorem pts_one {Y:Cx}{c:Expr}{t:TT} (h:PT Y c t):PTs Y [c] t:=fun pins s σ H Q I q=>wpAny_tests_one (h pins s σ H Q I q)
def capV (n:Nat) (cap:List Nat) (σ:L2.St):L2.St:=zax4 n none++cap.map fun j=>(σ[j]?).getD none
noncomputable def tComp (n:Nat) (cap:List Nat) (wi:TI) (g:TG) (tt:TT) (te:TE):TE:=fun σ H Q=>wi σ H fun J H1 => ∀D,H1 D=none→∃W:Nat→Nat→L2.St→Hp→Prop,(∃m,W 0 m (capV n cap σ) (upd H1 D (.lst [])))∧∀i m σ' H',W i m σ' H' →
 (J.stop i H'∧Q (.ref D) H')∨(J.go i H'∧∃N:L2.St→Hp→Prop,(∀σ'' H'',N σ'' H''→∃m',m' < m∧W (i+1) m' σ'' H'')∧∀x H2,J.yld i H' x H2→g x σ' H2 fun σ2 H3=>tt σ2 H3 fun b H4 =>
  if b=true then te σ2 H4 fun v H5 => ∃vs,H5 D=some (.lst vs)∧vs.length<sizeLine∧N σ2 (upd H5 D (.lst (vs++[v]))) else N σ2 H4)
theorem pe_comp {X:Cx}{elt tg iter:Expr}{ifs:List Expr}{scope:Scope}{pos:Pos}{n:Nat}{cap:List Nat}{N':List Str}{wi:TI}{g:TG}{tt:TT}{te:TE} (S:CompSc X scope) (hc:X.calm=true) (hi:PI X tg iter wi)
  (hN:N'.length=n+cap.length) (hcap:∀(k:Nat) (j:Nat),cap[k]?=some j→∃x,N'[n+k]?=some x∧X.N[j]?=some x∧(x,NameKind.free)∈scope.names)
  (hg:∀C s₃ H₃ fp pins,PG (blk X N' scope C s₃ H₃ fp pins) tg g) (ht:∀C s₃ H₃ fp pins,PTs (blk X N' scope C s₃ H₃ fp pins) ifs tt) (he:∀C s₃ H₃ fp pins,PE (blk X N' scope C s₃ H₃ fp pins) elt te)
  (hs:∀x,foldedSetIterable iter X.env x=pure x:=by intro _;rfl):PE X (.ListComp elt [⟨tg,iter,ifs,0⟩] scope pos) (tComp n cap wi g tt te):=by
 intro pins s σ H Q I h
 rw [eval_ListComp]
 refine wpAny_comprehension_free (use:=none) rfl hs (zl9 (S.frees I.ok)) S.kind (fun x hx hl=>by rw [S.names x hx,hl]) (thn (hi pins s σ H _ I h) fun v s1 h1=>thn h1 fun itv s2 h2=>?_)
 obtain⟨it,fp,tn,J,H2,e,I2,T,st2,f2,R⟩:=h2
 subst e
 have lt2:∀b∈fp,b<s2.heap.objs.size:=fun b hb=>by obtain⟨o,e,_⟩:=T.obj _ _ st2 b hb;exact zaw9 e
 have hD:H2 s2.heap.objs.size=none:=I2.fresh
 obtain⟨W,⟨m0,w0⟩,turn⟩:=R s2.heap.objs.size hD
 have I3:Inv X pins σ (upd H2 s2.heap.objs.size (.lst [])) { s2 with heap:=s2.heap.push { cls:=.type "list",data:=.seq ([]:List Value).toArray },toks:=s2.toks }:=I2.lnew (t':=s2.toks) .nil (by simp)
 have f3:∀b∈fp,FpOk X pins (upd H2 s2.heap.objs.size (.lst [])) b:=fun b hb=>⟨by rw [za3 (zay3 (lt2 b hb))];exact (f2 b hb).1,(f2 b hb).2⟩
 refine wpAny_newObj_type (zq1 fun h₁ hns₁ hk hcl₁=>?_)
 have lt3:∀b∈fp,b<(s2.heap.push { cls:=.type "list",data:=.seq ([]:List Value).toArray }).objs.size:=fun b hb=>by rw [zbe6];exact zbc2 (lt2 b hb)
 have I4:Inv (blk X N' scope (s2.heap.push { cls:=.type "list",data:=.seq ([]:List Value).toArray }).objs.size { s2 with heap:=s2.heap.push { cls:=.type "list",data:=.seq ([]:List Value).toArray },toks:=s2.toks } (upd H2 s2.heap.objs.size (.lst [])) fp pins) [] (capV n cap σ) (upd H2 s2.heap.objs.size (.lst [])) { s2 with heap:=h₁,toks:=s2.toks } :=
  blk_inv I3 S hc f3 lt3 (t1:=s2.toks) hns₁ hk hcl₁ (by simp [capV,hN]) (fun i x v e1 e2=>by
   unfold capV at e2
   by_cases hi:i<n
   ·rw [zbg9 (by simpa using hi),zbh9]at e2
    split at e2<;>cases e2
   ·rw [zbg7 (by simpa using hi),zbj3,zba3]at e2
    cases ej:cap[i - n]? with
    |none=>rw [ej]at e2;cases e2
    |some j =>
     rw [ej]at e2
     obtain⟨x',a1,a2,a3⟩:=hcap (i - n) j ej
     have:n+(i - n)=i:=by lia
     rw [this,e1]at a1
     cases a1
     refine⟨a3,j,a2,?_⟩
     have e2:(σ[j]?).getD none=some v:=by simpa using e2
     cases q:σ[j]? with
     |none=>rw [q]at e2;cases e2
     |some z=>rw [q]at e2;have:z=some v:=e2;rw [this])
 have loop:codeAny (model X.prog X.w) X.A (.compLoop (.ListComp elt [⟨tg,iter,ifs,0⟩] scope pos) 0 (.ref it) (.ref s2.heap.objs.size) (compEnvC scope (cellsFrom ((s2.heap.push { cls:=.type "list",data:=.seq ([]:List Value).toArray }).objs.size+1) scope.names (clOf X.env.cells scope.names [])) (s2.heap.push { cls:=.type "list",data:=.seq ([]:List Value).toArray }).objs.size X.env))
   (compPost (model X.prog X.w) X.A X.xe none (EP X pins σ Q) (.ref s2.heap.objs.size) (s2.heap.push { cls:=.type "list",data:=.seq ([]:List Value).toArray }).objs.size) { s2 with heap:=h₁,toks:=s2.toks }:=by
  generalize hY:(blk X N' scope (s2.heap.push { cls:=.type "list",data:=.seq ([]:List Value).toArray }).objs.size { s2 with heap:=s2.heap.push { cls:=.type "list",data:=.seq ([]:List Value).toArray },toks:=s2.toks } (upd H2 s2.heap.objs.size (.lst [])) fp pins)=Y at I4
  have st4:tn 0 h₁:=T.keep _ _ _ st2 fun b hb o e=>hk b o (zav7 _ e)
  have stat:∀ {H':Hp},(∀b∈fp,H' b=none)→∀b∈fp,FpOk Y [] H' b:=fun hn b hb=>by
   subst hY
   obtain⟨f0,f1,f2',f3',f4,f5⟩:=f3 b hb
   exact⟨hn b hb,zay3 (lt3 b hb),fun z=>(zaw6.mp (I3.stkSub b z)).elim f1 f2',.inl hb,fun x c e=>(by
    rcases S.old I3 e with z | z
    ·exact f4 x c z
    ·exact zba7 (zbl7 (lt3 b hb) z)),fun p hp=>f5 p (by simpa using hp)⟩
  have hgY:PG Y tg g:=hY ▸ hg _ _ _ _ _
  have htY:PTs Y ifs tt:=hY ▸ ht _ _ _ _ _
  have heY:PE Y elt te:=hY ▸ he _ _ _ _ _
  have yp:Y.prog=X.prog:=by subst hY;rfl
  have yw:Y.w=X.w:=by subst hY;rfl
  have yK:Y.K=X.K:=by subst hY;rfl
  have yA:Y.A=X.A:=by subst hY;rfl
  have yc:Y.calm=true:=by subst hY;rfl
  have yx:Y.xe=fun _ _=>False:=by subst hY;rfl
  have ye:Y.env=compEnvC scope (cellsFrom ((s2.heap.push { cls:=.type "list",data:=.seq ([]:List Value).toArray }).objs.size+1) scope.names (clOf X.env.cells scope.names [])) (s2.heap.push { cls:=.type "list",data:=.seq ([]:List Value).toArray }).objs.size X.env:=by subst hY;rfl
  rw [← ye]
  refine zy9 (fun n s' => ∃i σ' H',Inv Y [] σ' H' s'∧tn i s'.heap∧(∀b∈fp,H' b=none)∧W i n σ' H') ?_ m0 ⟨0,_,_,I4,st4,fun b hb=>(f3 b hb).1,w0⟩
  rintro n s3 ⟨i,σ3,H3,I5,st3,fr3,w3⟩
  rcases turn i n σ3 H3 w3 with ⟨stop,qn⟩ | ⟨go,N,hNN,step⟩
  ·have d:=T.done Y yp yw yK yc i [] s3 σ3 H3 (fun _ _=>False) I5 (stat fr3) st3 stop
   rw [yA]at d
   refine thn d fun r s4 ⟨hr,I6⟩=>?_
   subst hr
   obtain⟨m,hm,_⟩:=I6.loc
   rw [ye]at hm
   refine⟨m,hm,fun h' hb=>⟨.ref s2.heap.objs.size,H3,?_,rfl,qn⟩⟩
   subst hY
   exact blk_back I3 f3 rfl I6 hb
  ·have d:=T.item Y yp yw yK yc i [] s3 σ3 H3 (fun _ _=>False) I5 (stat fr3) st3 go
   rw [yA]at d
   refine thn d fun r s4 ⟨u,hr,h4⟩=>?_
   subst hr
   refine thn h4 fun _ s5 ⟨x,H5,I6,r5,y5,st5,fr5⟩=>?_
   have I6':=I6.pinned (stat fr5) (T.obj _ _ st5)
   have a:=hgY _ s5 σ3 H5 x u _ I6' r5 (step x H5 y5)
   rw [yp,yw,yA,yx]at a
   refine thn a fun _ s6 ⟨σ6,H6,I7,q6⟩=>?_
   have b:=htY _ s6 σ6 H6 _ I7 q6
   rw [yp,yw,yA,yx]at b
   refine thn b fun ok s7 ⟨H7,I8,q7⟩=>?_
   have again:∀ {s9:zaw4}{H9:Hp},Inv Y ([]++zq8 fp s5.heap) σ6 H9 s9→N σ6 H9→∃m,m<n∧∃i σ' H',Inv Y [] σ' H' s9∧tn i s9.heap∧(∀b∈fp,H' b=none)∧W i m σ' H':=fun {s9 H9} I9 n9=>by
    obtain⟨m',hm,w9⟩:=hNN σ6 H9 n9
    refine⟨m',hm,i+1,σ6,H9,I9.unpinned,T.keep _ _ _ st5 fun b hb o e=>(I9.pin (b,o) (zav5 _ (zav5 _ (ze4 hb e)))).1,fun b hb=>?_,w9⟩
    obtain⟨o,e,d⟩:=T.obj _ _ st5 b hb
    exact (I9.pin (b,o) (zav5 _ (zav5 _ (ze4 hb e)))).2.1
   cases ok with
   |false=>exact iteF (again I8 (by simpa using q7))
   |true =>
    rw [if_pos rfl]at q7
    refine iteT ?_
    have c:=heY _ s7 σ6 H7 _ I8 q7
    rw [yp,yw,yA,yx]at c
    refine thn c fun z s8 ⟨vz,H8,I9,r9,vs,hv,hl,n9⟩=>?_
    have ap:=zx2 (X:=Y) ([]++zq8 fp s5.heap) s8 σ6 H8 (.ref s2.heap.objs.size) [vz] (.ref s2.heap.objs.size) [z] (fun _ H9=>N σ6 H9) I9 rfl (.cons r9 .nil) ⟨_,vs,vz,rfl,rfl,hv,hl,n9⟩
    rw [yp,yw,yA,yx]at ap
    exact thn ap fun _ s9 ⟨_,H9,I10,_,n10⟩=>again I10 n10
 exact codeAny_compStart_list loop (T.self _ 0 _ _ _ (T.keep _ _ _ st2 fun b hb o e=>hk b o (zav7 _ e)) loop)
end L2
namespace DL
open PySem.Spec L2
structure Src (K:zav4) (ds:List D) (J:It) (Good:List Addr→Hp→Prop):Prop where
 keep:∀P H P' H',Good P H→Same (hide P H) (hide P' H')→Good P' H'
 stop:∀P H,Good P H→J.stop ds.length H
 go:∀P H i,Good P H→i<ds.length→J.go i H
 yld:∀P H i x H',Good P H→Lists H P→J.yld i H x H'→i<ds.length→Same H H'∧∃d,ds[i]?=some d∧Rep K (hide P H') d x
abbrev DI:=Th→Option (Bool×List D)
def hidF (b:Bool) (A F:List Addr):List Addr:=if b then A++F else F
noncomputable def dI (K:zav4) (F:List Addr) (fs:DI):TI:=fun σ H R => ∃A t b ds,RS K F H A t σ∧fs t=some (b,ds)∧∀J H1 Good,Same H H1→Src K ds J Good→Good (hidF b A F) H1→R J H1
theorem PI.imp {X:Cx}{tg iter:Expr}{t t':TI} (h:PI X tg iter t) (i:∀σ H R,t' σ H R→t σ H R):PI X tg iter t':=fun pins s σ H R I q=>h pins s σ H R I (i σ H R q)
def fsL (f:DE):DI:=fun t=>(f t).bind fun r=>match r.d with
 |.lst ds=>some (r.ok,ds)
 |_=>none
theorem src_list {K:zav4}{p:Addr}{vs:List V}{ds:List D} (hl:vs.length=ds.length):Src K ds (Itl K p) (fun P H=>SqL K (hide P H) p vs∧Reps K (hide P H) ds vs) where
 keep:=fun P H P' H' q s=>⟨SqL.mono s q.1,Reps.mono s q.2⟩
 stop:=fun P H q=>⟨vs,SqL.mono (za6 _ _) q.1,by lia⟩
 go:=fun P H i q hi=>⟨vs,vs[i]'(by lia),SqL.mono (za6 _ _) q.1,zaw2 (by lia)⟩
 yld:=fun P H i x H' q mu y hi=>by
  obtain⟨e1,e2⟩:=y
  subst e1
  exact⟨Same.refl _,q.2.getV (e2 vs (SqL.mono (za6 _ _) q.1))⟩
theorem RepEv.hidF {K:zav4}{F A:List Addr}{H H':Hp}{r:Ev}{v:V} (m:Lists H (A++F)) (gs:Same H H') (q:RepEv K F A H H' r v):Rep K (hide (DL.hidF r.ok A F) H') r.d v:=by
 unfold DL.hidF
 split
 ·rename_i c;exact q.clean m gs c
 ·exact q.cleanF m
section
variable {X:Cx}{F:List Addr}{a b c:Expr}{es:List Expr}{fa fb fc:DE}{pos:Pos}{tg:Expr}
theorem pid_list (hl:PE X a (dE X.K F fa)):PI X tg a (dI X.K F (fsL fa)):=by
 refine PI.imp (zan4 hl) ?_
 rintro σ H R ⟨A,t,b,ds,RR,e,h⟩
 unfold fsL at e
 cases e1:fa t with
 |none=>rw [e1]at e;cases e
 |some r =>
  rw [e1]at e
  refine⟨A,t,r,RR,e1,fun v H1 gs q=>?_⟩
  have e:(match r.d with | .lst ds=>some (r.ok,ds) |_=>none)=some (b,ds):=e
  split at e
  case h_2=>cases e
  rename_i ds' z
  cases e
  have cl:=RepEv.hidF RR.mu gs q
  rw [z]at cl
  cases cl with
  |@lst _ p vs h1 h2=>exact⟨p,rfl,⟨vs,SqL.mono (za6 _ _) h1⟩,h _ H1 _ gs (src_list h2.length) ⟨h1,h2⟩⟩
end
noncomputable def capD (t:Th):List Nat→Option (Bool×List D)
 |[]=>some (true,[])
 |j::js=>(capD t js).bind fun q=>match t[j]? with
  |some (.val d)=>some (q.1,d::q.2)
  |some (.own xs)=>some (false,.lst xs::q.2)
  |some (.dp d)=>some (false,d::q.2)
  |_=>none
theorem zu8 {K:zav4}{F A:List Addr}{H:Hp}{t:Th}{σ:L2.St} (R:RS K F H A t σ):∀ {cap:List Nat}{b:Bool}{ds:List D},capD t cap=some (b,ds)→∃vs:List V,(cap.map fun j=>(σ[j]?).getD none)=vs.map some∧Reps K (hide (hidF b A F) H) ds vs
 |[],b,ds,e=>by cases e;exact⟨[],rfl,.nil⟩
 |j::js,b,ds,e=>by
  unfold capD at e
  cases e1:capD t js with
  |none=>rw [e1]at e;cases e
  |some q =>
   obtain⟨b',ds'⟩:=q
   rw [e1]at e
   obtain⟨vs,h1,h2⟩:=zu8 R e1
   have e:(match t[j]? with
    |some (.val d)=>some (b',d::ds')
    |some (.own xs)=>some (false,.lst xs::ds')
    |some (.dp d)=>some (false,d::ds')
    |_=>none)=some (b,ds):=e
   have less:∀c:Bool,Same (hide (A++F) H) (hide (hidF c A F) H):=fun c=>zb4 H fun x z=>by
    cases c with
    |true=>exact z
    |false=>exact zav5 _ z
   split at e
   ·rename_i d z
    cases e
    obtain⟨v,a1,a2⟩:=R.rel.getVal z
    exact⟨v::vs,by simp [a1,h1],.cons (Rep.mono (less _) a2) h2⟩
   ·rename_i xs z
    cases e
    obtain⟨p,us,a1,a2,a3,a4⟩:=R.rel.getOwn z
    refine⟨.ref p::vs,by simp [a1,h1],.cons (.lst (SqL.of (zb0 a3 (R.dj p a2))) (Reps.mono (less false) a4)) (Reps.mono (zb4 H fun x z=>?_) h2)⟩
    cases b' with
    |true=>exact zav5 _ z
    |false=>exact z
   ·rename_i d z
    cases e
    obtain⟨v,B,a1,a2,a3,a4⟩:=R.rel.getDp R.nd z
    refine⟨v::vs,by simp [a1,h1],.cons (a4.rep (less false) fun b hb o w=>zb0 w (R.dj b (a2 b hb))) (Reps.mono (zb4 H fun x z=>?_) h2)⟩
    cases b' with
    |true=>exact zav5 _ z
    |false=>exact z
   ·cases e
noncomputable def zd7 (k:D→Th→Option Th) (ft:DT) (fe:DE):List D→Th→Option (List D)
 |[],_=>some []
 |d::ds,t=>(k d t).bind fun t1=>(ft t1).bind fun b=>if b then (fe t1).bind fun r=>(zd7 k ft fe ds t1).map fun xs=>r.d::xs else zd7 k ft fe ds t1
noncomputable def zl8 (n:Nat) (cap:List Nat) (fs:DI) (k:D→Th→Option Th) (ft:DT) (fe:DE):DE:=fun t=>(fs t).bind fun q=>(capD t cap).bind fun c=>if q.2.length≤50000 then (zd7 k ft fe q.2 (zax4 n Sl.no++c.2.map Sl.val)).bind fun xs=>if (q.1&&c.1)||flats xs then some (.nw xs) else none else none
theorem zp5 {k:D→Th→Option Th}{ft:DT}{fe:DE}:∀ {ds:List D}{t:Th}{xs:List D},zd7 k ft fe ds t=some xs→xs.length≤ds.length
 |[],t,xs,e=>by cases e;simp
 |d::ds,t,xs,e=>by
  unfold zd7 at e
  cases e1:k d t with
  |none=>rw [e1]at e;cases e
  |some t1 =>
   rw [e1]at e
   have e:((ft t1).bind fun b=>if b then (fe t1).bind fun r=>(zd7 k ft fe ds t1).map fun xs=>r.d::xs else zd7 k ft fe ds t1)=some xs:=e
   cases e2:ft t1 with
   |none=>rw [e2]at e;cases e
   |some b =>
    rw [e2]at e
    cases b with
    |false=>have:=zp5 (ds:=ds) (t:=t1) e;simp;lia
    |true =>
     have e:((fe t1).bind fun r=>(zd7 k ft fe ds t1).map fun xs=>r.d::xs)=some xs:=e
     cases e3:fe t1 with
     |none=>rw [e3]at e;cases e
     |some r =>
      rw [e3]at e
      have e:((zd7 k ft fe ds t1).map fun xs=>r.d::xs)=some xs:=e
      cases e4:zd7 k ft fe ds t1 with
      |none=>rw [e4]at e;cases e
      |some ys=>rw [e4]at e;cases e;have:=zp5 e4;simp;lia
end DL
namespace DL
open PySem.Spec L2
theorem RSl.noVals {K:zav4}{H0 H:Hp}{vs:List V}{ds:List D} (r:Reps K H0 ds vs):∀n,RSl K H0 H (zax4 n Sl.no++ds.map Sl.val) (zax4 n none++vs.map some) []
 |0=>by simpa using RSl.start (t:=[]) (σ:=[]) .nil r
 |n+1=>.no (RSl.noVals r n)
theorem zk8 {P:List Addr}{H:Hp}{p:Addr}{o:HO} (hp:p∈P):Same (hide P H) (hide P (upd H p o)):=fun b u e=>by
 obtain⟨n,e⟩:=zd4 e
 exact zb0 (by rw [za3 (fun z=>n (by rw [z];exact hp))];exact e) n
theorem RS.updF {K:zav4}{P:List Addr}{H:Hp}{t:Th}{σ:L2.St}{p:Addr}{ws:List V} (R:RS K P H [] t σ) (hp:p∈P):RS K P (upd H p (.lst ws)) [] t σ where
 mu:=fun q hq=>by
  by_cases z:q=p
  ·exact⟨mL ws,by rw [z];exact za4⟩
  ·obtain⟨us,w⟩:=R.mu q hq
   exact⟨us,by rw [za3 z];exact w⟩
 nd:=zay7
 dj:=fun p hp=>by cases hp
 rel:=RSl.mono (zk8 hp) R.rel fun q hq=>by cases hq
theorem zai8 {K:zav4}{P A:List Addr}{H:Hp}{t:Th}{σ:L2.St} (R:RS K P H A t σ) (g:Gr [] H A H):A=[]:=by
 cases A with
 |nil=>rfl
 |cons a r =>
  rcases g.nw a (zaw0 ..) with z | z
  ·cases z
  ·obtain⟨vs,q⟩:=R.mu a (zaw1 _ (zaw0 ..))
   rw [q]at z;cases z
def zy4:DT:=fun _=>some true
theorem PTs.imp {Y:Cx}{ifs:List Expr}{t t':TT} (h:PTs Y ifs t) (i:∀σ H Q,t' σ H Q→t σ H Q):PTs Y ifs t':=fun pins s σ H Q I q=>h pins s σ H Q I (i σ H Q q)
theorem ptsd_nil {Y:Cx}{F:List Addr}:PTs Y [] (dT Y.K F zy4):=PTs.imp pts_nil fun σ H Q ⟨A,t,b,R,e,h⟩=>by cases e;exact h H (Same.refl H)
theorem zae6 {Y:Cx}{F:List Addr}{c:Expr}{ft:DT} (h:PT Y c (dT Y.K F ft)):PTs Y [c] (dT Y.K F ft):=pts_one h
theorem tcomp_of {X:Cx}{F:List Addr}{n:Nat}{cap:List Nat}{fs:DI}{g:TG}{kt:D→Th→Option Th}{ft:DT}{fe:DE} (hk:∀F',TgOk X.K F' g kt) {σ:L2.St}{H:Hp}{Q:VK} (h:dE X.K F (zl8 n cap fs kt ft fe) σ H Q) :
  tComp n cap (dI X.K F fs) g (fun σ H Q => ∃F',dT X.K F' ft σ H Q) (fun σ H Q => ∃F',dE X.K F' fe σ H Q) σ H Q:=by
 obtain⟨A,t,r,R,e,h⟩:=h
 unfold zl8 at e
 cases e1:fs t with
 |none=>rw [e1]at e;cases e
 |some q =>
  obtain⟨b,ds⟩:=q
  cases e2:capD t cap with
  |none=>rw [e1,e2]at e;cases e
  |some q2 =>
   obtain⟨c,caps⟩:=q2
   rw [e1,e2]at e
   have e:(if ds.length≤50000 then (zd7 kt ft fe ds (zax4 n Sl.no++caps.map Sl.val)).bind fun xs=>if (b&&c)||flats xs then some (Ev.nw xs) else none else none)=some r:=e
   split at e
   case isFalse=>cases e
   rename_i hlen
   cases e3:zd7 kt ft fe ds (zax4 n Sl.no++caps.map Sl.val) with
   |none=>rw [e3]at e;cases e
   |some xs =>
    rw [e3]at e
    have e:(if (b&&c)||flats xs then some (Ev.nw xs) else none)=some r:=e
    split at e
    case isFalse=>cases e
    rename_i ok
    cases e
    have xl:=zp5 e3
    obtain⟨cvs,cv1,cv2⟩:=zu8 R e2
    -- what is hidden from the block,but its own list
    obtain⟨F',F'def⟩:∃F',F'=hidF (b&&c) A F:=⟨_,rfl⟩
    have subF:∀x∈F',x∈A++F:=fun x hx=>by
     rw [F'def]at hx
     unfold hidF at hx
     split at hx
     ·exact hx
     ·exact zav5 _ hx
    have lessB:∀H:Hp,Same (hide (hidF b A F) H) (hide F' H):=fun H=>zb4 H fun x hx=>by
     rw [F'def]at hx
     cases b<;>cases c<;>simp [hidF]at hx ⊢<;>first | exact hx | exact .inr hx | (rcases hx with z | z<;>simp [z])
    have lessC:∀H:Hp,Same (hide (hidF c A F) H) (hide F' H):=fun H=>zb4 H fun x hx=>by
     rw [F'def]at hx
     cases b<;>cases c<;>simp [hidF]at hx ⊢<;>first | exact hx | exact .inr hx | (rcases hx with z | z<;>simp [z])
    have wi:tComp n cap (dI X.K F fs) g (fun σ H Q => ∃F',dT X.K F' ft σ H Q) (fun σ H Q => ∃F',dE X.K F' fe σ H Q) σ H Q:=by
     refine⟨A,t,b,ds,R,e1,fun J H1 Good gs src gd Dd hD=>?_⟩
     have H1A:Lists H1 (A++F):=R.mu.mono gs
     have st0:Same (hide F' H1) (hide (Dd::F') (upd H1 Dd (.lst []))):=zi7 hD
     refine⟨fun i m σ' H'=>i+m=ds.length∧∃th acc rest vs,RS X.K (Dd::F') H' [] th σ'∧zd7 kt ft fe (ds.drop i) th=some rest∧acc++rest=xs∧H' Dd=some (.lst vs)∧Reps X.K (hide (Dd::F') H') acc vs∧Same H1 H'∧Good (Dd::F') H',
      ⟨ds.length,by lia,_,[],xs,[],⟨?_,zay7,fun p hp=>(by cases hp),?_⟩,by simpa using e3,rfl,za4,.nil,zb8 hD,src.keep _ _ _ _ gd (fun b o z=>st0 _ _ (lessB _ _ _ z))⟩,?_⟩
     ·intro q hq
      have hq:q∈Dd::F':=hq
      rcases zaw6.mp hq with z | z
      ·exact⟨mL [],by rw [z];exact za4⟩
      ·obtain⟨us,w⟩:=H1A q (subF q z)
       exact⟨us,(zb8 hD) _ _ w⟩
     ·unfold capV
      rw [cv1]
      exact RSl.noVals (Reps.mono (fun b o z=>st0 _ _ (lessC H1 _ _ (zb6 gs _ _ z))) cv2) n
     ·rintro i m σ' H' ⟨hm,th,acc,rest,vs,RR,ec,ex,hv,hr,sm,gg⟩
      cases m with
      |zero =>
       have z:i=ds.length:=by lia
       subst z
       rw [zbi8]at ec
       cases ec
       rw [zbc3]at ex
       subst ex
       refine .inl ⟨src.stop _ _ gg,h _ H' (gs.trans sm) ⟨Dd,vs,rfl,Same.free gs hD,hv,?_⟩⟩
       rcases zbj7 _ _ ▸ ok with k | k
       ·have:F'=A++F:=by rw [F'def];unfold hidF;rw [k];rfl
        rw [← this];exact hr
       ·refine Reps.hid (P:=Dd ::(A++F)) (fun q hq=>?_) k (Reps.mono (za6 _ _) hr)
        rcases zaw6.mp hq with z | z
        ·exact⟨mL vs,by rw [z];exact hv⟩
        ·obtain⟨us,w⟩:=H1A q z
         exact⟨us,sm _ _ w⟩
      |succ m =>
       have hil:i<ds.length:=by lia
       refine .inr ⟨src.go _ _ i gg hil,fun σ' H'=>i+1+m=ds.length∧∃th acc rest vs,RS X.K (Dd::F') H' [] th σ'∧zd7 kt ft fe (ds.drop (i+1)) th=some rest∧acc++rest=xs∧H' Dd=some (.lst vs)∧Reps X.K (hide (Dd::F') H') acc vs∧Same H1 H'∧Good (Dd::F') H',
        fun σ' H' q=>⟨m,zbg2 m,q⟩,fun x H2 y=>?_⟩
       obtain⟨gs2,d,hd,rd⟩:=src.yld _ _ i x H2 gg RR.mu y hil
       have ed:ds.drop i=d::ds.drop (i+1):=by
        have hd':ds[i]=d:=by
         rw [zaw2 hil]at hd
         exact Option.some.inj hd
        rw [← hd']
        exact zay4 hil
       rw [ed]at ec
       unfold zd7 at ec
       cases k1:kt d th with
       |none=>rw [k1]at ec;cases ec
       |some t1 =>
        rw [k1]at ec
        have ec:((ft t1).bind fun b=>if b then (fe t1).bind fun r=>(zd7 kt ft fe (ds.drop (i+1)) t1).map fun xs=>r.d::xs else zd7 kt ft fe (ds.drop (i+1)) t1)=some rest:=ec
        refine hk (Dd::F') σ' H2 [] th t1 d x _ (RR.grow gs2) rd k1 fun σ2 A2 gr2 R2=>?_
        have A20:=zai8 R2 gr2
        subst A20
        cases k2:ft t1 with
        |none=>rw [k2]at ec;cases ec
        |some bb =>
         rw [k2]at ec
         refine⟨Dd::F',[],t1,bb,R2,k2,fun H3 gs3=>?_⟩
         cases bb with
         |false =>
          refine iteF ⟨by lia,t1,acc,rest,vs,R2.grow gs3,ec,ex,gs3 _ _ (gs2 _ _ hv),Reps.mono (zb6 (gs2.trans gs3)) hr,(sm.trans gs2).trans gs3,src.keep _ _ _ _ gg (zb6 (gs2.trans gs3))⟩
         |true =>
          have ec:((fe t1).bind fun r=>(zd7 kt ft fe (ds.drop (i+1)) t1).map fun xs=>r.d::xs)=some rest:=ec
          cases k3:fe t1 with
          |none=>rw [k3]at ec;cases ec
          |some re =>
           rw [k3]at ec
           have ec:((zd7 kt ft fe (ds.drop (i+1)) t1).map fun xs=>re.d::xs)=some rest:=ec
           cases k4:zd7 kt ft fe (ds.drop (i+1)) t1 with
           |none=>rw [k4]at ec;cases ec
           |some ys =>
            rw [k4]at ec
            cases ec
            refine iteT ⟨Dd::F',[],t1,re,R2.grow gs3,k3,fun v H4 gs4 q4=>⟨vs,gs4 _ _ (gs3 _ _ (gs2 _ _ hv)),?_,?_⟩⟩
            ·have l1:=hr.length
             have l2:acc.length+(ys.length+1)=xs.length:=by rw [← ex];simp
             exact zax3 (show vs.length<50000 by lia) (by rw [sizeLine_eq];decide)
            ·have s4:=(gs2.trans gs3).trans gs4
             have hu:Same (hide (Dd::F') H4) (hide (Dd::F') (upd H4 Dd (.lst (vs++[v])))):=zk8 (zaw0 ..)
             have rv:=q4.cleanF ((R2.grow gs3).mu)
             refine⟨by lia,t1,acc++[re.d],ys,vs++[v],RS.updF ((R2.grow gs3).grow gs4) (zaw0 ..),k4,by simpa using ex,za4,?_,?_,?_⟩
             ·exact (Reps.mono (fun b o z=>hu _ _ (zb6 s4 _ _ z)) hr).app (Reps.one (Rep.mono hu rv))
             ·exact fun b o z=>by
               rw [za3 (fun w=>by rw [w,hD]at z;cases z)]
               exact s4 _ _ (sm _ _ z)
             ·exact src.keep _ _ _ _ gg (fun b o z=>hu _ _ (zb6 s4 _ _ z))
    exact wi
theorem ped_comp {X:Cx}{F:List Addr}{elt tg iter:Expr}{ifs:List Expr}{scope:Scope}{pos:Pos}{n:Nat}{cap:List Nat}{N':List Str}{fs:DI}{g:TG}{kt:D→Th→Option Th}{ft:DT}{fe:DE} (S:CompSc X scope) (hc:X.calm=true) (hi:PI X tg iter (dI X.K F fs))
  (hN:N'.length=n+cap.length) (hcap:∀(k:Nat) (j:Nat),cap[k]?=some j→∃x,N'[n+k]?=some x∧X.N[j]?=some x∧(x,NameKind.free)∈scope.names)
  (hg:∀C s₃ H₃ fp pins,PG (blk X N' scope C s₃ H₃ fp pins) tg g) (hk:∀F',TgOk X.K F' g kt) (ht:∀C s₃ H₃ fp pins F',PTs (blk X N' scope C s₃ H₃ fp pins) ifs (dT X.K F' ft)) (he:∀C s₃ H₃ fp pins F',PE (blk X N' scope C s₃ H₃ fp pins) elt (dE X.K F' fe))
  (hs:∀x,foldedSetIterable iter X.env x=pure x:=by intro _;rfl):PE X (.ListComp elt [⟨tg,iter,ifs,0⟩] scope pos) (dE X.K F (zl8 n cap fs kt ft fe)) :=
 PE.imp (pe_comp (g:=g) S hc hi hN hcap hg (fun C s₃ H₃ fp pins pins' s σ H Q I ⟨F',q⟩=>ht C s₃ H₃ fp pins F' pins' s σ H Q I q) (fun C s₃ H₃ fp pins pins' s σ H Q I ⟨F',q⟩=>he C s₃ H₃ fp pins F' pins' s σ H Q I q) hs) fun _ _ _ h=>tcomp_of hk h
noncomputable def zas9 (names:List (Str×NameKind)) (kind:Str→Option NameKind):Bool:=names.all fun y=>(y.2 != .free||kind y.1 == some .cell||kind y.1 == some .free)&&(names.lookup y.1 == some y.2)
theorem compSc {X:Cx}{scope:Scope} (hk:scope.kind=.function:=by rfl) (h:zas9 scope.names X.env.kindOf=true:=by rfl):CompSc X scope:=by
 have h':=zbc8.mp h
 refine⟨hk,fun y hy hf=>?_,fun y hy=>?_⟩
 ·have:=h' y hy
  simp only [zaw5,zbj7,bne_iff_ne,beq_iff_eq]at this
  rcases this.1 with (z | z) |z
  ·exact absurd hf z
  ·exact .inl z
  ·exact .inr z
 ·have:=h' y hy
  simp only [zaw5,beq_iff_eq]at this
  exact this.2
noncomputable def zat8 (N' N:List Str) (n:Nat) (names:List (Str×NameKind)):Nat→List Nat→Bool
 |_,[]=>true
 |k,j::js=>(match N'[n+k]?,N[j]? with
  |some x,some y=>x == y&&names.any fun z=>z.1 == x&&z.2 == .free
  |_,_=>false)&&zat8 N' N n names (k+1) js
theorem zu7 {N' N:List Str}{n:Nat}{names:List (Str×NameKind)}:∀ {cap:List Nat}{k0:Nat},zat8 N' N n names k0 cap=true→∀(k j:Nat),cap[k]?=some j→∃x,N'[n+(k0+k)]?=some x∧N[j]?=some x∧(x,NameKind.free)∈names
 |[],k0,_,k,j,e=>by simp at e
 |i::js,k0,h,k,j,e=>by
  unfold zat8 at h
  rw [zaw5]at h
  cases k with
  |zero =>
   simp at e
   subst e
   have h1:=h.1
   split at h1
   ·rename_i x y z1 z2
    rw [zaw5,beq_iff_eq,zbl9]at h1
    obtain⟨e1,w,w1,w2⟩:=h1
    rw [zaw5,beq_iff_eq,beq_iff_eq]at w2
    obtain⟨a,b⟩:=w
    simp only at w2
    rw [w2.1,w2.2]at w1
    exact⟨x,by simpa using z1,by rw [z2,e1],w1⟩
   ·cases h1
  |succ k =>
   obtain⟨x,a,b,c⟩:=zu7 h.2 k j (by simpa using e)
   exact⟨x,by rw [show k0+(k+1)=k0+1+k by lia];exact a,b,c⟩
theorem zn9 {X:Cx}{F:List Addr}{elt tg iter:Expr}{ifs:List Expr}{scope:Scope}{pos:Pos}{fs:DI}{g:TG}{kt:D→Th→Option Th}{ft:DT}{fe:DE} (n:Nat) (cap:List Nat) (N':List Str) (hc:X.calm=true) (hi:PI X tg iter (dI X.K F fs))
  (hg:∀C s₃ H₃ fp pins,PG (blk X N' scope C s₃ H₃ fp pins) tg g) (hk:∀F',TgOk X.K F' g kt) (ht:∀C s₃ H₃ fp pins F',PTs (blk X N' scope C s₃ H₃ fp pins) ifs (dT X.K F' ft)) (he:∀C s₃ H₃ fp pins F',PE (blk X N' scope C s₃ H₃ fp pins) elt (dE X.K F' fe))
  (hkd:scope.kind=.function:=by rfl) (hcs:zas9 scope.names X.env.kindOf=true:=by rfl) (hN:N'.length=n+cap.length:=by rfl) (hcap:zat8 N' X.N n scope.names 0 cap=true:=by rfl)
  (hs:∀x,foldedSetIterable iter X.env x=pure x:=by intro _;rfl):PE X (.ListComp elt [⟨tg,iter,ifs,0⟩] scope pos) (dE X.K F (zl8 n cap fs kt ft fe)) :=
 ped_comp (compSc hkd hcs) hc hi hN (fun k j e=>by simpa using zu7 hcap k j e) hg hk ht he hs
noncomputable def kIn:Ev→Ev→Option Ev:=fun r1 r2=>match r2.d with
 |.lst ds=>if scD r1.d&&ds.all (fun d=>scD d&&eqOk 0 d r1.d) then some (.cl (.bl (ds.any fun d=>eqD d r1.d))) else none
 |.tup ds=>if scD r1.d&&ds.all (fun d=>scD d&&eqOk 0 d r1.d) then some (.cl (.bl (ds.any fun d=>eqD d r1.d))) else none
 |_=>none
theorem in_D {K:zav4}{H:Hp}{e:D}{u:V} (q:Rep K H e u) (se:scD e=true):∀ {ds:List D}{vs:List V},Reps K H ds vs→ds.all (fun d=>scD d&&eqOk 0 d e)=true→vs.all zl1=true∧inV u vs=ds.any fun d=>eqD d e
 |_,_,.nil,_=>⟨rfl,rfl⟩
 |_,_,.cons h r,k=>by
  simp only [zaz6,zaw5]at k
  obtain⟨f1,f2,e1⟩:=eqV_D h q k.1.1 se k.1.2
  obtain⟨a,b⟩:=in_D q se r (by simpa using k.2)
  unfold inV at b ⊢
  refine⟨by simp [f1,a],?_⟩
  rw [zba5,zba5,e1,b]
theorem zal6 {K:zav4}{H:Hp}{e:D}{u:V} (q:Rep K H e u) (se:scD e=true):zl1 u=true:=by
 cases q<;>simp_all [scD,zl1]
theorem od_in {X:Cx}{F:List Addr}:OpD X F (compareOp .In) kIn:=by
 intro pins s σ H0 H A x y v u Q r1 r2 r I m g0 rx ry q1 q2 e hq
 unfold kIn at e
 have p1:=q1.full
 have p2:=q2.full
 split at e
 ·rename_i ds z
  rw [z]at p2
  split at e
  case isFalse=>cases e
  rename_i c
  rw [zaw5]at c
  cases e
  cases p2 with
  |@lst _ p vs h1 h2 =>
   obtain⟨a,b⟩:=in_D p1 c.1 h2 c.2
   exact zw8 pins s σ H x _ v u Q I rx ry ⟨p,vs,rfl,.inl h1,zal6 p1 c.1,a,by
    show Q (.bl (inV x vs)) H
    rw [b];exact hq _ H (Same.refl H) (.bl _)⟩
 ·rename_i ds z
  rw [z]at p2
  split at e
  case isFalse=>cases e
  rename_i c
  rw [zaw5]at c
  cases e
  cases p2 with
  |@tup _ p vs h1 h2 =>
   obtain⟨a,b⟩:=in_D p1 c.1 h2 c.2
   exact zw8 pins s σ H x _ v u Q I rx ry ⟨p,vs,rfl,.inr h1,zal6 p1 c.1,a,by
    show Q (.bl (inV x vs)) H
    rw [b];exact hq _ H (Same.refl H) (.bl _)⟩
 ·cases e
section
variable {X:Cx}{F:List Addr}{a b c:Expr}{es:List Expr}{fa fb fc:DE}{pos:Pos}
noncomputable def k2I (f:Int→Int→Int):List Ev→Option Ev:=fun rs=>match rs with
 |[r1,r2]=>(match r1.d,r2.d with
  |.int i,.int j=>some (.cl (.int (f i j)))
  |_,_=>none)
 |_=>none
theorem cd_2I {v:Value}{f:Int→Int→Int} (h:zl5 X v (fun xs H Q => ∃i j,xs=[.int i,.int j]∧Q (.int (f i j)) H)):CallD X F v (k2I f):=CallD.of h fun H0 H A xs rs e Q m g q ek hq=>by
 unfold k2I at ek
 split at ek
 ·rename_i r1 r2
  cases q with
  |cons q1 q' =>
   cases q' with
   |cons q2 q3 =>
    cases q3
    split at ek
    ·rename_i i j z1 z2
     cases ek
     have p1:=q1.full
     have p2:=q2.full
     rw [z1]at p1;rw [z2]at p2
     cases zd2 p1;cases zd2 p2
     exact⟨i,j,rfl,hq _ H (Same.refl H) (.int _)⟩
    ·cases ek
 ·cases ek
theorem zat5 (hc:X.calm=true):CallD X F (.builtin "min") (k2I fun i j=>if j<i then j else i):=cd_2I (zau0 hc)
noncomputable def dSlU (hi:DE) (f:DE):DE:=fun t=>(f t).bind fun r=>(hi t).bind fun l=>match r.d,l.d with
 |.lst ds,.int i=>if r.ok||flats ds then some (.nw (ds.take (HT.sIx ds.length ds.length (some i)))) else none
 |_,_=>none
theorem zai4 {p2:Pos} (ha:PE X a (dE X.K F fa)) (hb:PE X b (dE X.K F fb)):PE X (.Subscript a (.Slice none (some b) none p2) pos) (dE X.K F (dSlU fb fa)):=by
 refine PE.imp (pe_slice sl_list ha po_none (po_some hb)) ?_
 rintro σ H Q ⟨A,t,r,R,e,h⟩
 unfold dSlU at e
 cases e1:fa t with
 |none=>rw [e1]at e;cases e
 |some r1 =>
  cases e2:fb t with
  |none=>rw [e1,e2]at e;cases e
  |some r2 =>
   rw [e1,e2]at e
   refine⟨A,t,r1,R,e1,fun x H1 gs1 q1=>⟨A,t,r2,R.grow gs1,e2,fun y H2 gs2 q2=>?_⟩⟩
   have e:(match r1.d,r2.d with
    |.lst ds,.int i=>if r1.ok||flats ds then some (Ev.nw (ds.take (HT.sIx ds.length ds.length (some i)))) else none
    |_,_=>none)=some r:=e
   split at e
   case h_2=>cases e
   rename_i ds i z1 z2
   split at e
   case isFalse=>cases e
   rename_i c
   cases e
   have p2':=q2.full
   rw [z2]at p2'
   cases zd2 p2'
   have gs:=gs1.trans gs2
   obtain⟨p,vs,rfl,h1,h2⟩:=(q1.mono gs2).items R.mu gs z1 c
   refine⟨i,rfl,p,vs,rfl,h1,fun l hl=>h _ _ (gs.trans (zb8 hl)) ⟨l,_,rfl,Same.free gs hl,za4,Reps.mono (zi7 hl) ?_⟩⟩
   have e:cutV vs none (some i)=vs.take (HT.sIx ds.length ds.length (some i)):=by
    unfold cutV
    rw [h2.length,HT.sIx_none]
    simp
   rw [e]
   exact h2.take _
end
end DL
namespace DL
open PySem.Spec L2
section
variable {X:Cx}{F:List Addr}{a b c:Expr}{es:List Expr}{fa fb fc:DE}{g:DS}{pos:Pos}{tg:Expr}{gt:TG}{kt:D→Th→Option Th}
noncomputable def zas7 (k:D→Th→Option Th) (f:DE) (body:DS):DS:=fun t=>(f t).bind fun r=>match r.d with
 |.tup ds=>if r.ok then forD k body ds t else none
 |_=>none
theorem psd_forT {body:List Stmt} (hp:PassesOwn (model X.prog X.w) X.A X.env X.xe) (hc:X.calm=true) (hl:PE X a (dE X.K F fa)) (hg:PG X tg gt) (ht:TgOk X.K F gt kt) (hb:PSs X body (dS X.K F g))
  (hs:∀x,foldedSetIterable a X.env x=pure x:=by intro _;rfl):PS X (.For tg a body [] pos) (dS X.K F (zas7 kt fa g)):=by
 refine PS.imp (zn8 hp hc (pi_tup hl) hg hb hs) ?_
 intro E σ H hh
 obtain⟨A,t,o,R,e,h⟩:=zy5 hh
 unfold zas7 at e
 cases e1:fa t with
 |none=>rw [e1]at e;cases e
 |some r =>
  rw [e1]at e
  refine⟨A,t,r,R,e1,fun v H1 gs q=>?_⟩
  have e:(match r.d with
   |.tup ds=>if r.ok then forD kt g ds t else none
   |_=>none)=some o:=e
  split at e
  case h_2=>cases e
  rename_i ds z
  split at e
  case isFalse=>cases e
  rename_i ok
  have cl:=q.clean R.mu gs ok
  rw [z]at cl
  cases cl with
  |@tup _ p vs h1 h2 =>
   refine⟨p,rfl,⟨vs,SqT.mono (za6 _ _) h1⟩,?_⟩
   refine zh2 (fun A H=>SqT X.K (hide (A++F) H) p vs∧Reps X.K (hide (A++F) H) ds vs) ht (R.grow gs) e (h.back (Gr.of_same R.mu.left gs)) ⟨h1,h2⟩ (fun A H A' H' q gr=>⟨SqT.mono gr.same q.1,Reps.mono gr.same q.2⟩)
    (fun A H q=>⟨vs,SqT.mono (za6 _ _) q.1,by rw [h2.length];exact zaw7 _⟩) (fun A H i q hi=>?_) (fun A H i x H' q _ y hi=>?_)
   ·have hi':i<vs.length:=by rw [h2.length];exact hi
    exact⟨vs,vs[i],SqT.mono (za6 _ _) q.1,zaw2 hi'⟩
   ·obtain⟨e1,e2⟩:=y
    subst e1
    exact⟨Same.refl _,q.2.getV (e2 vs (SqT.mono (za6 _ _) q.1))⟩
noncomputable def dCh (k k':Ev→Ev→Option Ev) (fa fb fc:DE):DT:=fun t=>(fa t).bind fun r1=>(fb t).bind fun r2=>(k r1 r2).bind fun r=>match r.d with
 |.bl true=>(fc t).bind fun r3=>(k' r2 r3).bind fun r'=>match r'.d with
  |.bl z=>some z
  |_=>none
 |.bl false=>some false
 |_=>none
noncomputable def rK (X:Cx) (F:List Addr) (k:Ev→Ev→Option Ev) (A:List Addr) (H0:Hp):R2:=fun x y H Q=>Lists H0 (A++F)∧Same H0 H∧∃r1 r2 r,RepEv X.K F A H0 H r1 x∧RepEv X.K F A H0 H r2 y∧k r1 r2=some r∧∀z H',Same H H'→RepEv X.K F A H0 H' r z→Q z H'
theorem OpD.toR {f:Value→Value→Sem Value}{k:Ev→Ev→Option Ev} (h:OpD X F f k) (A:List Addr) (H0:Hp):OpR X f (rK X F k A H0) :=
 fun pins s σ H x y v u Q I rx ry ⟨m,gs,r1,r2,r,q1,q2,e,hq⟩=>h pins s σ H0 H A x y v u Q r1 r2 r I m gs rx ry q1 q2 e hq
theorem zam7 {op op':CmpOp}{k k':Ev→Ev→Option Ev} (ho:OpD X F (compareOp op) k) (ho':OpD X F (compareOp op') k') (ha:PE X a (dE X.K F fa)) (hb:PE X b (dE X.K F fb)) (hc:PE X c (dE X.K F fc))
  (hm:lastMarks [op,op'] [b,c]=false:=by with_unfolding_all rfl):PT X (.Compare a [op,op'] [b,c] pos) (dT X.K F (dCh k k' fa fb fc)):=by
 intro pins s σ H Q I h
 obtain⟨A,t,bb,R,e,h⟩:=h
 refine pt_chain (ho.toR A H) (ho'.toR A H) ha hb hc hm pins s σ H Q I ?_
 unfold dCh at e
 cases e1:fa t with
 |none=>rw [e1]at e;cases e
 |some r1 =>
  cases e2:fb t with
  |none=>rw [e1,e2]at e;cases e
  |some r2 =>
   cases e3:k r1 r2 with
   |none=>rw [e1,e2]at e;simp only [zav9,e3]at e;cases e
   |some r =>
    rw [e1,e2]at e
    simp only [zav9,e3]at e
    refine⟨A,t,r1,R,e1,fun x H1 gs1 q1=>⟨A,t,r2,R.grow gs1,e2,fun y H2 gs2 q2=>?_⟩⟩
    have gs:=gs1.trans gs2
    refine⟨R.mu,gs,r1,r2,r,q1.mono gs2,q2.back gs1,e3,fun z H3 gs3 q3=>?_⟩
    have p:=q3.full
    split at e
    ·rename_i zz
     rw [zz]at p
     cases p
     refine⟨true,rfl,iteT ?_⟩
     cases e4:fc t with
     |none=>rw [e4]at e;cases e
     |some r3 =>
      rw [e4]at e
      simp only [zav9]at e
      cases e5:k' r2 r3 with
      |none=>rw [e5]at e;cases e
      |some r' =>
       rw [e5]at e
       simp only [zav9]at e
       refine⟨A,t,r3,(R.grow gs).grow gs3,e4,fun w H4 gs4 q4=>⟨R.mu,(gs.trans gs3).trans gs4,r2,r3,r',(q2.back gs1).mono (gs3.trans gs4),q4.back (gs.trans gs3),e5,fun z2 H5 gs5 q5=>?_⟩⟩
       have p5:=q5.full
       split at e
       ·rename_i z3 zz3
        cases e
        rw [zz3]at p5
        cases p5
        exact⟨_,rfl,h H5 (((gs.trans gs3).trans gs4).trans gs5)⟩
       ·cases e
    ·rename_i zz
     rw [zz]at p
     cases p
     cases e
     exact⟨false,rfl,iteF ⟨false,rfl,h H3 (gs.trans gs3)⟩⟩
    ·cases e
end
end DL
namespace DL
open PySem.Spec L2
def ze9:List D→Option (List Int)
 |[]=>some []
 |.int i::r=>(ze9 r).map fun ns=>i::ns
 |_::_=>none
theorem zf2:∀ {ds:List D}{ns:List Int},ze9 ds=some ns→ds=ns.map D.int
 |[],ns,e=>by cases e;rfl
 |.int i::r,ns,e=>by
  unfold ze9 at e
  cases e1:ze9 r with
  |none=>rw [e1]at e;cases e
  |some m=>rw [e1]at e;cases e;rw [zf2 e1];rfl
 |.non::r,ns,e=>by cases e
 |.bl _::r,ns,e=>by cases e
 |.str _::r,ns,e=>by cases e
 |.tup _::r,ns,e=>by cases e
 |.lst _::r,ns,e=>by cases e
theorem zf5 (ns:List Int):ze9 (ns.map D.int)=some ns:=by
 induction ns with
 |nil=>rfl
 |cons n r ih=>simp [ze9,ih]
theorem ze0 {K:zav4}{H:Hp}:∀ {ns:List Int}{vs:List V},Reps K H (ns.map D.int) vs→vs=ns.map V.int
 |[],_,.nil=>rfl
 |n::r,_,.cons h q=>by cases zd2 h;rw [ze0 q];rfl
theorem zac0 (i j:Int):eqD (.int i) (.int j)=decide (i=j):=by
 rw [zbb1,eqD_true];simp
theorem sm_iff {i:Int}:sm i=true↔i.natAbs<bnd:=by simp [sm]
theorem sm_lt {i:Int} (h:i.natAbs<2 ^ 256):sm i=true:=sm_iff.mpr (zax3 h (by unfold bnd;exact zbb5 (by decide) (by decide)))
theorem sm_of {i:Int} (h1 : -10000000000000000000000000000000000000000000000000000000000000000000000000000<i) (h2:i<10000000000000000000000000000000000000000000000000000000000000000000000000000):sm i=true:=by
 apply sm_lt
 have:(2:Nat) ^ 256=115792089237316195423570985008687907853269984665640564039457584007913129639936:=by decide
 lia
theorem zb5 {g1 g2:DS}{t t':Th} (h:g1 t=some (.nx t')):dSeq g1 g2 t=g2 t':=by simp [dSeq,h]
theorem seq_rt {g1 g2:DS}{t:Th}{r:Ev} (h:g1 t=some (.rt r)):dSeq g1 g2 t=some (.rt r):=by simp [dSeq,h]
theorem RepDs.length {K:zav4}{H0 H:Hp}:∀ {ds:List D}{vs:List V}{B:List Addr},RepDs K H0 H ds vs B→vs.length=ds.length
 |_,_,_,.nil=>rfl
 |_,_,_,.cons _ r=>by simp [RepDs.length r]
noncomputable def putP:D→List Int→D→Option D
 |_,[],e=>some e
 |.tup ds,n::ns,e=>(ixN ds.length n).bind fun j=>(ds[j]?).bind fun x=>(putP x ns e).map fun y=>.tup (ds.set j y)
 |.lst ds,n::ns,e=>(ixN ds.length n).bind fun j=>(ds[j]?).bind fun x=>(putP x ns e).map fun y=>.lst (ds.set j y)
 |_,_::_,_=>none
noncomputable def Fin (K:zav4) (H0 H:Hp) (d:D) (v:V) (B:List Addr) (ns:List Int) (p:Addr) (B1:List Addr):Prop :=
 ∀H0' H' es ws B2 d2,Same H0 H0'→H' p=some (.lst ws)→RepDs K H0' H' es ws B2→B2.Sublist B1→putP d ns (.lst es)=some d2→(∀q∈B,q≠p→∀o,H q=some o→H' q=some o)→B.Nodup→∃B',RepD K H0' H' d2 v B'∧B'.Sublist B
theorem RSl.focusDp {K:zav4}{H0 H:Hp}:∀ {t:Th}{σ:L2.St}{A:List Addr},RSl K H0 H t σ A→A.Nodup→∀ {i:Nat}{d:D},t[i]?=some (.dp d)→∃v B,σ[i]?=some (some v)∧(∀b∈B,b∈A)∧B.Nodup∧RepD K H0 H d v B ∧
  ∀H0' H' d2 B2,Same H0 H0'→RepD K H0' H' d2 v B2→B2.Sublist B→(∀q∈A,q∉B→∀o,H q=some o→H' q=some o)→∃A2,RSl K H0' H' (t.set i (.dp d2)) σ A2∧A2.Sublist A:=by
 intro _ _ _ h
 induction h with
 |nil =>
  intro n i d e
  simp at e
 |@no _ _ _ _ r ih =>
  intro n i d e
  cases i with
  |zero =>
   simp at e
  |succ i =>
   obtain⟨v,B,a,b,n',c,k⟩:=ih n (i:=i) (d:=d) (by simpa using e)
   refine⟨v,B,by simpa using a,b,n',c,fun H0' H' d2 B2 s q sb w=>?_⟩
   obtain⟨A2,x,y⟩:=k H0' H' d2 B2 s q sb w
   exact⟨A2,.no x,y⟩
 |@val _ v _ _ _ h r ih =>
  intro n i d e
  cases i with
  |zero =>
   simp at e
  |succ i =>
   obtain⟨v,B,a,b,n',c,k⟩:=ih n (i:=i) (d:=d) (by simpa using e)
   refine⟨v,B,by simpa using a,b,n',c,fun H0' H' d2 B2 s q sb w=>?_⟩
   obtain⟨A2,x,y⟩:=k H0' H' d2 B2 s q sb w
   exact⟨A2,.val (Rep.mono s h) x,y⟩
 |@own p _ _ _ _ _ h1 h2 r ih =>
  intro n i d e
  cases i with
  |zero =>
   simp at e
  |succ i =>
   have n0:=zay8.mp n
   obtain⟨v,B,a,b,n',c,k⟩:=ih n0.2 (i:=i) (d:=d) (by simpa using e)
   refine⟨v,B,by simpa using a,fun x hx=>zav8 _ (b x hx),n',c,fun H0' H' d2 B2 s q sb w=>?_⟩
   obtain⟨A2,x,y⟩:=k H0' H' d2 B2 s q sb (fun q hq=>w q (zav8 _ hq))
   exact⟨p::A2,.own (w p (zaw0 ..) (fun z=>n0.1 (b p z)) _ h1) (Reps.mono s h2) x,y.cons₂ _⟩
 |@dp _ v C _ _ _ h r ih =>
  intro n i d e
  cases i with
  |zero =>
   simp at e;subst e
   have n0:=zay0.mp n
   refine⟨v,C,rfl,fun x hx=>zaw1 _ hx,n0.1,h,fun H0' H' d2 B2 s q sb w=>?_⟩
   exact⟨_,.dp q (RSl.mono s r fun p hp=>w p (zav5 _ hp) fun z=>n0.2.2 p z p hp rfl),List.Sublist.append sb (List.Sublist.refl _)⟩
  |succ i =>
   have n0:=zay0.mp n
   obtain⟨v,B,a,b,n',c,k⟩:=ih n0.2.1 (i:=i) (d:=d) (by simpa using e)
   refine⟨v,B,by simpa using a,fun x hx=>zav5 _ (b x hx),n',c,fun H0' H' d2 B2 s q sb w=>?_⟩
   obtain⟨A2,x,y⟩:=k H0' H' d2 B2 s q sb (fun q hq=>w q (zav5 _ hq))
   exact⟨C++A2,.dp (RepD.mono s h fun p hp=>w p (zaw1 _ hp) fun z=>n0.2.2 p hp p (b p z) rfl) x,List.Sublist.append (List.Sublist.refl _) y⟩
abbrev DN:=Th→Option (D×List Nat)
abbrev DNs:=Th→Option (List D×List Nat)
section
variable {X:Cx}{F:List Addr}{a b c o:Expr}{es:List Expr}{fa fb fc:DE}{fs:List DE}{ga:DA}{g g1 g2:DS}{ft fu:DT}{pos:Pos}{st:Stmt}{rest:List Stmt}{tg:Expr}{gt:TG}{kt:D→Th→Option Th}
theorem Reps.rep {K:zav4}{H:Hp}{ds:List D}{vs:List V} (r:Reps K H ds vs):∀k:Nat,Reps K H (zax4 k ds).flatten (zax4 k vs).flatten
 |0=>by simpa using .nil
 |k+1=>by simpa [zaz4] using r.app (Reps.rep r k)
end
end DL
namespace DL
open PySem.Spec L2
def Itr3 (lo c:Int) (n:Nat):It:=⟨fun i _=>i<n,fun i H x H'=>H'=H∧x=.int (lo+i*c),fun i _=>n≤i⟩
theorem zaa3 {P:Program}{w:World}{K:zav4}{tg:Expr} (it:Addr) (lo c:Int) (n:Nat):Turn P w K tg (Itr3 lo c n) [it] it (fun i h=>IsRangeIter h it (lo+(i:Nat)*c) ((n:Int) - (i:Nat)) c) where
 mem:=zaw8.mpr rfl
 obj:=fun i h st b hb=>by
  cases zaw8.mp hb
  refine⟨_,st,fun v z=>?_⟩
  have z':Data.fields _=Data.cell v:=z
  cases z'
 keep:=fun i h h' st k=>k it (zaw8.mpr rfl) _ st
 item:=fun X hP hw hK hc i pins s σ H E I hf st hg=>by
  subst hP hw hK
  obtain⟨f0,f1,f2,f3,f4,f5⟩:=hf it (zaw8.mpr rfl)
  refine (Walks.range (prog:=X.prog) (w:=X.w) (I.ok.hd hc) it lo c n).item i s _ _ hg st fun v h' tk hv st' kk=>?_
  obtain⟨t,rfl⟩:=hv
  have I1:L2.Inv X pins σ H { s with heap:=h',toks:=tk }:=I.turned (fun b o hb e=>kk b o (fun z=>hb (zaw8.mp z)) e) f0 f1 f3 f4 f5
  exact⟨_,rfl,zar2 (s:={ s with heap:=h',toks:=tk }) (n := "range_iterator") st' rfl rfl (by decide) ⟨.int (lo+i*c),H,I1,⟨t,rfl⟩,⟨rfl,rfl⟩,st',fun b hb=>(hf b hb).1⟩⟩
 done:=fun X hP hw hK hc i pins s σ H E I hf st hg=>by
  subst hP hw hK
  obtain⟨f0,f1,f2,f3,f4,f5⟩:=hf it (zaw8.mpr rfl)
  have hg':n≤i:=hg
  exact wpAny_pyNext_range_end (I.ok.hd hc) st (by lia) fun h' eb=>⟨rfl,I.turned (t':=s.toks) (fun b o hb e=>eb b o hb e) f0 f1 f3 f4 f5⟩
 self:=fun _ _ _ _ _ st h=>wpAny_pyIter_rangeiter st h
def zk4 (a b c:Int):Bool:=Builtin.Range.small a b c&&decide (c≠0∧c.natAbs<1000000∧0≤Builtin.Range.rangeSize a b c)
def rng3 (a b c:Int):List D:=(zaz7 (Builtin.Range.rangeSize a b c).toNat).map fun i=>.int (a+(i:Nat)*c)
section
variable {X:Cx}{F:List Addr}{a b c o:Expr}{es:List Expr}{fa fb fc:DE}{fs:List DE}{ga:DA}{g g1 g2:DS}{ft fu:DT}{pos:Pos}{st:Stmt}{rest:List Stmt}{tg:Expr}{gt:TG}{kt:D→Th→Option Th}
theorem zam3 {pins:List (Addr×Obj)}{σ:L2.St}{H:Hp}{s:zaw4}{R:It→Hp→Prop}{E:Value→zaw4→Prop}{lo hi k:Int}{t u v:Tok}{tk:Nat} (I:L2.Inv X pins σ H s) (ok:zk4 lo hi k=true)
  (q:R (Itr3 lo k (Builtin.Range.rangeSize lo hi k).toNat) H):wpAny (model X.prog X.w) X.A (pyIter (.ref s.heap.objs.size)) (PIE X pins σ tg R) E { s with heap:=s.heap.push { cls:=.type "range",data:=.fields #[.int lo t,.int hi u,.int k v] },toks:=tk }:=by
 simp only [zk4,zaw5,decide_eq_true_eq]at ok
 have I1:L2.Inv X pins σ H { s with heap:=s.heap.push { cls:=.type "range",data:=.fields #[.int lo t,.int hi u,.int k v] },toks:=tk }:=I.kept fun b o e=>zav7 _ e
 refine wpAny_pyIter_range (IsRange.new ..) ok.1 ⟨_,[_],_,_,H,rfl,I1.kept (t':=tk) fun b o e=>zav7 _ e,zaa3 _ lo k _,?_,fun b hb=>?_,q⟩
 ·have e1:lo+((0:Nat):Int)*k=lo:=by simp
  have e2:(((Builtin.Range.rangeSize lo hi k).toNat:Nat):Int) - ((0:Nat):Int)=Builtin.Range.rangeSize lo hi k:=by lia
  show IsRangeIter _ _ (lo+((0:Nat):Int)*k) ((((Builtin.Range.rangeSize lo hi k).toNat:Nat):Int) - ((0:Nat):Int)) k
  rw [e1,e2]
  exact zax2 _ rfl
 ·cases zaw8.mp hb
  exact I1.fpOk (zaw7 _) (I1.hok.fresh (zaw7 _))
noncomputable def iRng3 (ta:TA):TI:=fun σ H R=>ta σ H fun vs H1 => ∃i j k:Int,vs=[.int i,.int j,.int k]∧zk4 i j k=true∧R (Itr3 i k (Builtin.Range.rangeSize i j k).toNat) H1
theorem zan2 {ta:TA}{p pos:Pos} (hg:Gl X "range") (hm:X.mg "range"=none) (ha:PA X [a,b,c] ta) (hs:zax8 [a,b,c] X.env=(false,eval a X.env)::zax8 [b,c] X.env:=by rfl) (hs2:(zbe1 pos (zax8 [b,c] X.env)).any (·.1)=false:=by rfl) :
  PI X tg (.Call (.Name "range" p) [a,b,c] [] pos) (iRng3 ta):=by
 intro pins s σ H R I h
 refine Call_ (zj3 I hg hm boot_range (PyProof.Rows.callWith_type1 (thn (ha pos pins s σ H _ I h) fun us s1 ⟨vs,H1,I1,r1,q1⟩=>?_) hs hs2))
 obtain⟨i,j,k,e,ok,q⟩:=q1
 subst e
 cases r1 with
 |cons r rr =>
  cases rr with
  |cons r' rr =>
   cases rr with
   |cons r'' rr =>
    cases rr
    obtain⟨t,rfl⟩:=r
    obtain⟨t',rfl⟩:=r'
    obtain⟨t'',rfl⟩:=r''
    have ok':=ok
    simp only [zk4,zaw5,decide_eq_true_eq]at ok'
    have lg:k.natAbs.log2<9000:=zbf3 (zap7 (k:=20) (by have:=ok'.2.2.1;lia)) (by decide)
    exact call_range_3 ok'.2.1 (zam3 I1 ok q) (.inl (PyProof.noPylong_of_log2 lg))
theorem zs4 (a b c:Int):(rng3 a b c).length=(Builtin.Range.rangeSize a b c).toNat:=by simp [rng3]
noncomputable def in3 (g:DA):Th→Option (Int×Int×Int):=fun t=>(g t).bind fun rs=>match rs.map Ev.d with
 |[.int i,.int j,.int k]=>if zk4 i j k then some (i,j,k) else none
 |_=>none
theorem in3_run {t:Th}{q:Int×Int×Int} (e:in3 ga t=some q):∃rs,ga t=some rs∧rs.map Ev.d=[.int q.1,.int q.2.1,.int q.2.2]∧zk4 q.1 q.2.1 q.2.2=true:=by
 unfold in3 at e
 cases e1:ga t with
 |none=>rw [e1]at e;cases e
 |some rs =>
  rw [e1]at e
  simp only [zav9]at e
  split at e
  ·rename_i i j k z
   split at e
   ·rename_i ok;cases e;exact⟨rs,rfl,z,ok⟩
   ·cases e
  ·cases e
theorem evs3 {K:zav4}{A:List Addr}{H H':Hp}{rs:List Ev}{vs:List V}{i j k:Int} (q:RepEvs K F A H H' rs vs) (z:rs.map Ev.d=[.int i,.int j,.int k]):vs=[.int i,.int j,.int k]:=by
 have:=q.full
 rw [z]at this
 exact ze0 (ns:=[i,j,k]) this
def zaj6 (k:D→Th→Option Th) (f:DA) (body:DS):DS:=fun t=>(in3 f t).bind fun q=>forD k body (rng3 q.1 q.2.1 q.2.2) t
theorem psd_rng3 {body:List Stmt}{p1 p2:Pos} (hp:PassesOwn (model X.prog X.w) X.A X.env X.xe) (hc:X.calm=true) (hgr:Gl X "range") (hm:X.mg "range"=none) (ha:PA X [a,b,c] (dA X.K F ga)) (hg:PG X tg gt) (ht:TgOk X.K F gt kt) (hb:PSs X body (dS X.K F g))
  (hst:zax8 [a,b,c] X.env=(false,eval a X.env)::zax8 [b,c] X.env:=by rfl) (hst2:(zbe1 p2 (zax8 [b,c] X.env)).any (·.1)=false:=by rfl) (hs:∀x,foldedSetIterable (.Call (.Name "range" p1) [a,b,c] [] p2) X.env x=pure x:=by intro _;rfl) :
  PS X (.For tg (.Call (.Name "range" p1) [a,b,c] [] p2) body [] pos) (dS X.K F (zaj6 kt ga g)):=by
 refine PS.imp (zn8 hp hc (zan2 hgr hm ha hst hst2) hg hb hs) ?_
 intro E σ H hh
 obtain⟨A,t,o,R,e,h⟩:=zy5 hh
 unfold zaj6 at e
 cases e1:in3 ga t with
 |none=>rw [e1]at e;cases e
 |some q =>
  rw [e1]at e
  obtain⟨rs,w1,w2,w3⟩:=in3_run e1
  refine⟨A,t,rs,R,w1,fun vs H1 gs q1=>⟨_,_,_,evs3 q1 w2,w3,?_⟩⟩
  refine zh2 (ds:=rng3 q.1 q.2.1 q.2.2) (fun _ _=>True) ht (R.grow gs) e (h.back (Gr.of_same R.mu.left gs)) trivial (fun _ _ _ _ _ _=>trivial) (fun A H _=>?_) (fun A H i _ hi=>?_) (fun A H i x H' _ _ y hi=>?_)
  ·rw [zs4];exact zaw7 _
  ·rw [zs4]at hi;exact hi
  ·rw [zs4]at hi
   obtain⟨e1,e2⟩:=y
   subst e1
   refine⟨Same.refl _,.int (q.1+i*q.2.2),by simp [rng3,hi],?_⟩
   rw [e2];exact .int _
end
end DL
namespace DL
open PySem.Spec L2
def mkG (k:Nat) (N:List Str) (g:DS):List D→Option Ev:=fun ds=>if ds.length=k then (g (zk1 N ds)).bind zh9 else none
theorem zg4 {k:Nat}{N:List Str}{g:DS}{ds:List D}{r:Ev} (e:mkG k N g ds=some r):ds.length=k:=by
 unfold mkG at e
 split at e
 ·assumption
 ·cases e
theorem zj2 {k:Nat}{N:List Str}{g:DS}{ds:List D}{r:Ev} (e:mkG k N g ds=some r):∃o,g (zk1 N ds)=some o∧zh9 o=some r:=by
 unfold mkG at e
 split at e
 ·cases e1:g (zk1 N ds) with
  |none=>rw [e1]at e;cases e
  |some o=>rw [e1]at e;exact⟨o,rfl,e⟩
 ·cases e
section
variable {X:Cx}{F:List Addr}{a b c o:Expr}{es:List Expr}{fa fb fc:DE}{fs:List DE}{ga:DA}{g g1 g2:DS}{ft fu:DT}{pos:Pos}{st:Stmt}{rest:List Stmt}{tg:Expr}{gt:TG}{kt:D→Th→Option Th}
def zf0:Int→List Int→Int
 |m,[]=>m
 |m,n::r=>zf0 (if n<m then n else m) r
theorem zo4:∀(r:List Int) (m:Int),zf0 m r∈m::r∧∀a∈m::r,zf0 m r≤a
 |[],m=>⟨by simp [zf0],by simp [zf0]⟩
 |n::r,m=>by
  obtain⟨h1,h2⟩:=zo4 r (if n<m then n else m)
  have h3:=h2 (if n<m then n else m) (zaw0 ..)
  have k1:(if n<m then n else m)≤m:=by split<;>lia
  have k2:(if n<m then n else m)≤n:=by split<;>lia
  refine⟨?_,fun a ha=>?_⟩
  ·show zf0 (if n<m then n else m) r∈m::n::r
   rcases zaw6.mp h1 with z | z
   ·rw [z];split<;>simp
   ·simp [z]
  ·show zf0 (if n<m then n else m) r≤a
   rcases zaw6.mp ha with z | z
   ·subst z;lia
   ·rcases zaw6.mp z with w | w
    ·subst w;lia
    ·exact h2 a (zav8 _ w)
theorem zao7 {ys:Array (Int×Tok)}{j:Nat} (hj:j<ys.size):numAt ys j∈ys.toList.map (·.1):=by
 rw [numAt_eq];exact getD_mem (by simpa using hj)
theorem zat9 (hc:X.calm=true):zl5 X (.builtin "min") (fun xs H Q => ∃(p:Addr) (ns:List Int) (M:Int),xs=[.ref p]∧SqL X.K H p (ns.map V.int)∧M∈ns∧(∀a∈ns,M≤a)∧Q (.int M) H):=by
 intro pins s σ H xs us Q I r h
 obtain⟨p,ns,M,rfl,hs,hm,hle,q⟩:=h
 obtain⟨u,rfl,ru⟩:=zv2 r
 cases ru
 obtain⟨its,rv,pl,_⟩:=I.list hs
 have hi:IntsAre its ns:=zi6 rv
 obtain⟨ys,e⟩:=hi.allInts.items
 have hl:s.heap.IsList p (intItems ys):=by rw [← e];exact PlainL.isL pl
 have hns:ys.toList.map (·.1)=ns:=by
  have e2:numsOf (intItems ys).toList=ns:=by rw [← e];exact hi.numsOf
  rw [← nums_intItems];exact e2
 have hsz:0<ys.size:=by
  have:0<ns.length:=zbb9 hm
  rw [← hns]at this;simpa using this
 refine min_intList (I.ok.hd hc) hl hsz fun v h' tk hv hk=>?_
 obtain⟨t,rfl⟩:=intItems_at hv
 obtain⟨h1,h2⟩:=argBest_lt (numAt ys) (ys.size - 1)
 refine⟨.int M,H,I.kept (t':=tk) hk,⟨t,?_⟩,q⟩
 have a1:=hle _ (hns ▸ zao7 (ys:=ys) (j:=argBest (fun i j=>decide (numAt ys i<numAt ys j)) (ys.size - 1)) (by lia))
 rw [← hns]at hm
 obtain⟨j,hj,ej⟩:=mem_getD hm
 have hj':j<ys.size:=by simpa using hj
 have a2:=h2 j (by lia)
 rw [numAt_eq ys j,ej]at a2
 congr 1
 lia
end
end DL
namespace DL
open PySem.Spec L2
section
variable {X:Cx}{F:List Addr}{a b c o:Expr}{es:List Expr}{fa fb fc:DE}{fs:List DE}{ga:DA}{g g1 g2:DS}{ft fu:DT}{pos:Pos}{st:Stmt}{rest:List Stmt}{tg:Expr}{gt:TG}{kt:D→Th→Option Th}
noncomputable def zaj1 (f:Int→List Int→Int):List Ev→Option Ev:=fun rs=>match rs with
 |[r]=>(match r.d with
  |.lst ds=>(match ze9 ds with
   |some (n::ns)=>some (.cl (.int (f n ns)))
   |_=>none)
  |_=>none)
 |_=>none
theorem cd_extr {id':String}{f:Int→List Int→Int} (h:∀n ns,zl5 X (.builtin id') (fun xs H Q => ∃p:Addr,xs=[.ref p]∧SqL X.K H p ((n::ns).map V.int)∧Q (.int (f n ns)) H)):CallD X F (.builtin id') (zaj1 f):=by
 intro pins s σ H0 H A xs us Q rs r I m g v q ek hq
 unfold zaj1 at ek
 split at ek
 case h_2=>cases ek
 rename_i r0
 cases q with
 |@cons _ y _ ys q1 q2 =>
  cases q2
  split at ek
  case h_2=>cases ek
  rename_i ds z
  split at ek
  case h_2=>cases ek
  rename_i n ns z2
  cases ek
  have p:=q1.full
  rw [z,zf2 z2]at p
  cases p with
  |@lst _ l ws h1 h2 =>
   rw [ze0 h2]at h1
   exact h n ns pins s σ H _ us Q I v ⟨l,rfl,h1,hq _ H (Same.refl H) (.int _)⟩
theorem cd_minL (hc:X.calm=true):CallD X F (.builtin "min") (zaj1 zf0) :=
 cd_extr fun n ns pins s σ H xs us Q I v ⟨p,e,h1,q⟩=>zat9 hc pins s σ H xs us Q I v ⟨p,n::ns,zf0 n ns,e,h1,(zo4 ns n).1,(zo4 ns n).2,q⟩
theorem vals_get:∀ {xs:List V}{us:List Value},xs.length=us.length→(∀(i:Nat) (x:V) (u:Value),xs[i]?=some x→us[i]?=some u→RelV x u)→Vals xs us
 |[],[],_,_=>.nil
 |[],_::_,h,_=>by simp at h
 |_::_,[],h,_=>by simp at h
 |x::xs,u::us,h,k=>.cons (k 0 x u rfl rfl) (vals_get (by simpa using h) fun i y w e1 e2=>k (i+1) y w (by simpa using e1) (by simpa using e2))
end
end DL
namespace L2
open PySem.Spec
theorem bt_zip:bootBuiltins "zip"=some (.type "zip"):=by decide +kernel
end L2
namespace DL
open PySem.Spec L2
section
variable {X:Cx}{F:List Addr}{a b c:Expr}{es:List Expr}{fa fb fc:DE}{g g1 g2:DS}{pos:Pos}{gt:TG}{kt:D→Th→Option Th}
def zipD:List D→List D→List D
 |x::xs,y::ys=>.tup [x,y]::zipD xs ys
 |_,_=>[]
theorem zr3:∀(xs ys:List D),(zipD xs ys).length=min xs.length ys.length
 |[],ys=>by simp [zipD]
 |x::xs,[]=>by simp [zipD]
 |x::xs,y::ys=>by simp [zipD,zr3 xs ys]
theorem zad5:∀(xs ys:List D) (j:Nat) (x y:D),xs[j]?=some x→ys[j]?=some y→(zipD xs ys)[j]?=some (.tup [x,y])
 |[],ys,j,x,y,e1,e2=>by simp at e1
 |x'::xs,[],j,x,y,e1,e2=>by simp at e2
 |x'::xs,y'::ys,0,x,y,e1,e2=>by simp at e1 e2;subst e1;subst e2;rfl
 |x'::xs,y'::ys,j+1,x,y,e1,e2=>by simpa [zipD] using zad5 xs ys j x y (by simpa using e1) (by simpa using e2)
end
end DL
namespace DL
open PySem.Spec L2
section
variable {X:Cx}{F:List Addr}{a b c o:Expr}{es:List Expr}{fa fb fc:DE}{fs:List DE}{ga:DA}{g g1 g2:DS}{ft fu:DT}{pos:Pos}{st:Stmt}{rest:List Stmt}{tg:Expr}{gt:TG}{kt:D→Th→Option Th}
def insI (n:Int):List Int→List Int
 |[]=>[n]
 |m::r=>if n≤m then n::m::r else m::insI n r
def sortI':List Int→List Int
 |[]=>[]
 |n::r=>insI n (sortI' r)
theorem zo9 (n:Int):∀r:List Int,(insI n r).Perm (n::r)
 |[]=>List.Perm.refl _
 |m::r=>by
  unfold insI
  split
  ·exact List.Perm.refl _
  ·exact (List.Perm.cons m (zo9 n r)).trans (List.Perm.swap n m r)
theorem sortI'_perm:∀r:List Int,(sortI' r).Perm r
 |[]=>List.Perm.refl _
 |n::r=>(zo9 n _).trans (List.Perm.cons n (sortI'_perm r))
theorem zo8 (n:Int):∀r:List Int,r.Pairwise (·≤·)→(insI n r).Pairwise (·≤·)
 |[],_=>by simp [insI]
 |m::r,h=>by
  unfold insI
  have hc:=zbd4.mp h
  split
  ·rename_i hle
   refine zbd4.mpr ⟨fun x hx=>?_,h⟩
   rcases zaw6.mp hx with rfl | z
   ·exact hle
   ·exact Int.le_trans hle (hc.1 x z)
  ·rename_i hle
   refine zbd4.mpr ⟨fun x hx=>?_,zo8 n r hc.2⟩
   rcases zaw6.mp ((zo9 n r).mem_iff.mp hx) with rfl | z
   ·lia
   ·exact hc.1 x z
theorem sortI'_sorted:∀r:List Int,(sortI' r).Pairwise (·≤·)
 |[]=>List.Pairwise.nil
 |n::r=>zo8 n _ (sortI'_sorted r)
theorem sorted_uniq:∀ {xs ys:List Int},xs.Perm ys→xs.Pairwise (·≤·)→ys.Pairwise (·≤·)→xs=ys
 |[],ys,p,_,_=>(List.Perm.nil_eq p)
 |x::xs,[],p,_,_=>absurd p.length_eq (by simp)
 |x::xs,y::ys,p,h1,h2=>by
  have c1:=zbd4.mp h1
  have c2:=zbd4.mp h2
  have e:x=y:=by
   have m1:x∈y::ys:=p.mem_iff.mp (zaw0 ..)
   have m2:y∈x::xs:=p.mem_iff.mpr (zaw0 ..)
   have l1:y≤x:=by rcases zaw6.mp m1 with z | z;lia;exact c2.1 x z
   have l2:x≤y:=by rcases zaw6.mp m2 with z | z;lia;exact c1.1 y z
   lia
  subst e
  rw [sorted_uniq (List.Perm.cons_inv p) c1.2 c2.2]
theorem zz2:zl5 X (.builtin "sorted") (fun xs H Q => ∃(p:Addr) (ns:List Int),xs=[.ref p]∧SqL X.K H p (ns.map V.int)∧ns.length<64∧∀l,H l=none→Q (.ref l) (upd H l (.lst ((sortI' ns).map V.int)))):=by
 intro pins s σ H xs us Q I r h
 obtain⟨p,ns,rfl,hs,h64,q⟩:=h
 obtain⟨u,rfl,ru⟩:=zv2 r
 cases ru
 obtain⟨its,rv,pl,_⟩:=I.list hs
 have hi:IntsAre its ns:=zi6 rv
 have hl:=hi.length
 refine sorted_ints (PlainL.isL pl) hi (by lia) fun out ns' hI hp ho=>?_
 have e:ns'=sortI' ns:=sorted_uniq (hp.trans (sortI'_perm ns).symm) ho (sortI'_sorted ns)
 subst e
 obtain⟨k,ek⟩:=sortedAll_at s.heap its out
 have fr:s.heap.objs.size≤s.heap.objs.size+1:=zbh0 _
 refine⟨.ref _,_,I.laid (o:=HO.lst ((sortI' ns).map V.int)) (t':=s.toks) (fun b o e=>sortedAll_old e) fr ⟨?_,out.toList,k,zk0 hI,by simpa [seqObj] using ek⟩,rfl,q _ (I.hok.fresh fr)⟩
 refine le_line ?_
 rw [zay5,(sortI'_perm ns).length_eq];lia
noncomputable def zx6:List Ev→Option Ev:=fun rs=>match rs with
 |[r]=>(match r.d with
  |.lst ds=>(ze9 ds).bind fun ns=>if ns.length<64 then some (.nw ((sortI' ns).map D.int)) else none
  |_=>none)
 |_=>none
theorem cd_sortI:CallD X F (.builtin "sorted") zx6:=CallD.of zz2 fun H0 H A xs rs e Q m g q ek hq=>by
 unfold zx6 at ek
 split at ek
 case h_2=>cases ek
 cases q with
 |cons q1 q2 =>
  cases q2
  split at ek
  case h_2=>cases ek
  rename_i ds z
  cases e1:ze9 ds with
  |none=>rw [e1]at ek;cases ek
  |some ns =>
   rw [e1]at ek
   simp only [zav9]at ek
   split at ek
   case isFalse=>cases ek
   rename_i c
   cases ek
   have p:=q1.full
   rw [z,zf2 e1]at p
   cases p with
   |lst h1 h2 =>
    rw [ze0 h2]at h1
    exact⟨_,ns,rfl,h1,c,fun l hl=>hq _ _ (zb8 hl) ⟨l,_,rfl,Same.free g hl,za4,Reps.ints _⟩⟩
end
end DL
namespace DL
open PySem.Spec L2
section
variable {X:Cx}{F:List Addr}{a b c o:Expr}{es:List Expr}{fa fb fc:DE}{ga:DA}{pos:Pos}
def kRev:Ev→Option Ev:=fun r=>match r.d with
 |.lst ds=>if r.ok||flats ds then some (.nw ds.reverse) else none
 |_=>none
theorem Reps.rev {K:zav4}{H:Hp}:∀ {ds:List D}{vs:List V},Reps K H ds vs→Reps K H ds.reverse vs.reverse
 |_,_,.nil=>.nil
 |_,_,.cons h r=>by rw [zbe0,zbe0];exact (Reps.rev r).app (Reps.one h)
theorem ped_rev {p2 p3 p4:Pos}{j} (ha:PE X a (dE X.K F fa)):PE X (.Subscript a (.Slice none none (some (.UnaryOp .USub (.Constant (.int 1) j p3) p4)) p2) pos) (dE X.K F (d1 kRev fa)):=by
 intro pins s σ H Q I h
 obtain⟨A,t,r,R,e,h⟩:=h
 unfold d1 at e
 cases e1:fa t with
 |none=>rw [e1]at e;cases e
 |some r1 =>
  rw [e1]at e
  have e:kRev r1=some r:=e
  unfold kRev at e
  split at e
  case h_2=>cases e
  rename_i ds z
  split at e
  case isFalse=>cases e
  rename_i ok
  cases e
  refine Subscript_ (thn (ha pins s σ H (fun x H1=>Same H H1∧RepEv X.K F A H H1 r1 x) I ⟨A,t,r1,R,e1,fun x H1 gs q=>⟨gs,q⟩⟩) fun v s1 ⟨x,H1,I1,rx,gs,q⟩=>?_)
  obtain⟨p,vs,rfl,h1,h2⟩:=q.items R.mu gs z ok
  cases rx
  refine wpAny_Slice ?_
  rw [evalPart_none]
  refine zaw3 (zaw3 ?_)
  rw [evalPart_some]
  refine thn ((zs9 (F:=F) (zb2 (i:=1))) pins s1 σ H1 (fun y H2=>y=.int (-1)∧H2=H1∨(y=.int (-1)∧Same H1 H2)) I1 ⟨A,t,.cl (.int (-1)),R.grow gs,rfl,fun y H2 gs2 q2=>.inr ⟨zd2 q2.full,gs2⟩⟩) fun u s2 ⟨y,H2,I2,ry,qy⟩=>?_
  have gs2:Same H1 H2:=by rcases qy with ⟨_,e⟩ | ⟨_,e⟩;rw [e];exact Same.refl _;exact e
  have ey:y=.int (-1):=by rcases qy with ⟨e,_⟩ | ⟨e,_⟩<;>exact e
  subst ey
  obtain⟨tk,rfl⟩:=ry
  obtain⟨its,rv,pl,hz⟩:=I2.list (SqL.mono gs2 h1)
  have I3:L2.Inv X pins σ H2 { s2 with heap:=s2.heap.push { cls:=.type "slice",data:=.fields #[.none,.none,.int (-1) tk] } }:=I2.kept (t':=s2.toks) fun b ob q=>zav7 _ q
  have hl:=PlainL.isL pl
  show wpAny (model X.prog X.w) X.A (subscriptTail a (.Slice none none (some (.UnaryOp .USub (.Constant (.int 1) j p3) p4)) p2) (.ref p) (.ref s2.heap.objs.size)) (EP X pins σ Q) X.xe { s2 with heap:=s2.heap.push { cls:=.type "slice",data:=.fields #[.none,.none,.int (-1) tk] } }
  refine tail_any (ops:=[.ref p,.ref s2.heap.objs.size]) (hl.push _).typeIs slot_list_getitem.lookup (wpAny_getItem_list_slice (hl.push _) (Heap.IsSliceOf.new ..) .none .none (.int (-1) tk) (by simp) ?_ ?_) (by with_unfolding_all rfl)
  ·have l1:=rv.length
   have hn:=I3.fresh
   refine⟨.ref _,_,?_,rfl,h _ _ ((gs.trans gs2).trans (zb8 hn)) ⟨_,vs.reverse,rfl,Same.free (gs.trans gs2) hn,za4,Reps.mono (zi7 hn) (Reps.mono (zb6 gs2) h2).rev⟩⟩
   refine I3.laid (o:=HO.lst vs.reverse) (t':=s2.toks) (fun b ob q=>zav7 _ q) (zaw7 _) ⟨by rw [zbk4];exact hz,its.reverse,0,rv.reverse,?_⟩
   rw [PySem.W.krv_pick]
   exact zax2 _ rfl
  ·rw [zax9, ← rv.length];exact hz
noncomputable def zaj7 (i:Nat) (f:DE):DE:=fun t=>(f t).bind fun r=>match t[i]?,r.d with
 |some (.own xs),.int k=>if flats xs&&decide (xs.length≤1000 ∧ -1000000≤k∧k≤100) then some (.nw (zax4 k.toNat xs).flatten) else none
 |_,_=>none
theorem ped_repO (i:Nat) {x:Str}{p0:Pos} (hb:PE X b (dE X.K F fb)) (hN:X.N[i]?=some x:=by rfl) (hv:Vis X.env.scope x:=by first | exact Or.inl rfl | exact Or.inr (Or.inl rfl) |exact Or.inr (Or.inr rfl)) (hd:(x ==("__debug__":Str))=false:=by decide)
  (hcd:(x ==("__classdict__":Str))=false:=by decide):PE X (.BinOp (.Name x p0) .Mult b pos) (dE X.K F (zaj7 i fb)):=by
 intro pins s σ H Q I h
 obtain⟨A,t,r,R,e,h⟩:=h
 unfold zaj7 at e
 cases e1:fb t with
 |none=>rw [e1]at e;cases e
 |some r1 =>
  rw [e1]at e
  simp only [zav9]at e
  split at e
  case h_2=>cases e
  rename_i xs k z1 z2
  split at e
  case isFalse=>cases e
  rename_i ok
  simp only [zaw5,decide_eq_true_eq]at ok
  cases e
  obtain⟨p,vs,a1,a2,a3,a4⟩:=R.rel.getOwn z1
  refine wpAny_BinOp (bin (zk5 (i:=i) hN hv hd hcd) hb I (R:=fun y u H2=>y=.ref p∧u=.int k∧Same H H2) ⟨_,a1,A,t,r1,R,e1,fun u H2 gs q=>?_⟩ fun v u s2 y w H2 I2 ry rw' q=>?_)
  ·have p2:=q.full
   rw [z2]at p2
   exact⟨rfl,zd2 p2,gs⟩
  ·obtain⟨rfl,rfl,gs⟩:=q
   have hz:vs.length*k.toNat≤sizeLine:=by
    refine le_line ?_
    rw [a4.length]
    have h5:k.toNat≤100:=by lia
    exact zaz5 (Nat.mul_le_mul ok.2.1 h5) (by decide)
   refine op_rep pins s2 σ H2 _ _ v u Q I2 ry rw' ⟨p,k,vs,rfl,rfl,gs _ _ a3,by lia,by lia,hz,fun l hl=>h _ _ (gs.trans (zb8 hl)) ⟨l,_,rfl,Same.free gs hl,za4,?_⟩⟩
   have mH:=R.mu.mono gs
   exact Reps.mono (zi7 hl) (Reps.rep (Reps.mono (zb6 gs) a4) _)
end
end DL
namespace L2
open PySem.W
def bndS:Nat:=2 ^ 1048576
theorem zq6:∀ {ns:List Int}{n:Int},n∈ns→WData.weight (.int n)≤WData.weightAll (ns.map WData.int)
 |m::r,n,h=>by
  rw [zax1]
  unfold WData.weightAll
  rcases zaw6.mp h with rfl | z
  ·lia
  ·have:=zq6 z;lia
theorem bnd_of {ns:List Int} (h:WData.layableAll [WData.list (ns.map WData.int)]=true):∀n∈ns,n.natAbs<bndS:=fun n hn=>by
 have h1:WData.layable (WData.list (ns.map WData.int))=true:=by simpa [WData.layableAll] using h
 have h2:WData.weight (WData.list (ns.map WData.int))≤2 ^ 20:=by
  unfold WData.layable at h1
  simp only [zaw5,decide_eq_true_eq]at h1
  exact h1.2
 have h3:WData.weight (.int n)≤2 ^ 20:=by
  refine zaz5 (zq6 hn) ?_
  have e:WData.weight (WData.list (ns.map WData.int))=WData.weightAll (ns.map WData.int):=by simp [WData.weight]
  rw [← e];exact h2
 by_cases z:n=0
 ·subst z;unfold bndS;exact Nat.pow_pos (by decide)
 ·have h4:n.natAbs.log2+1≤2 ^ 20:=by
   have:WData.weight (.int n)=n.natAbs.log2+1:=by simp [WData.weight,z]
   rw [← this];exact h3
  have h5:n.natAbs.log2<1048576:=by lia
  exact (Nat.log2_lt (by lia)).mp h5
end L2
namespace DL
open PySem.Spec L2
section
variable {X:Cx}{F:List Addr}
def bndB:Nat:=2 ^ 1100000
def smB (i:Int):Bool:=decide (i.natAbs<bndB)
def cMulB (i j:Int):Bool:=smB i&&smB j
theorem cMulB.ok {i j:Int} (h:cMulB i j=true):IntMulOk i j:=by
 simp only [cMulB,smB,zaw5,decide_eq_true_eq]at h
 refine mulOk_of_bits (m:=1100001) (n:=1100001) ?_ ?_ (by decide)
 ·exact intBits_le (zax3 h.1 (by unfold bndB;exact zbb5 (by decide) (by decide)))
 ·exact intBits_le (zax3 h.2 (by unfold bndB;exact zbb5 (by decide) (by decide)))
theorem zab2:OpD X F (binaryOp .Mult) (kI cMulB fun i j=>.int (i*j)):=zt0 (C:=IntMulOk) (opI fun _ _ _ _ _ _ _ hc q=>mul_int q hc) (fun _ _ h=>cMulB.ok h) fun _ _ _=>.int _
end
end DL
namespace DL
open PySem.Spec L2
section
variable {X:Cx}{F:List Addr}{a b c o:Expr}{es:List Expr}{fa fb fc:DE}{ga:DA}{pos:Pos}
theorem zah6:∀ {xs:List V}{us:List Value} (k:Nat),Vals xs us→Vals (xs.eraseIdx k) (us.eraseIdx k):=fun k r=>r.eraseIdx k
theorem zag5 (n:Int):∀ns:List Int,ns.eraseIdx (ns.idxOf n)=ns.erase n
 |[]=>rfl
 |m::ns=>by
  by_cases h:m=n
  ·subst h;simp [List.idxOf_cons]
  ·have h':(m == n)=false:=by simpa using h
   simp [List.idxOf_cons,h',List.erase_cons,zag5 n ns]
theorem zm1 {α β:Type} (f:α→β):∀(xs:List α) (k:Nat),(xs.map f).eraseIdx k=(xs.eraseIdx k).map f
 |[],_=>rfl
 |_::_,0=>rfl
 |x::xs,k+1=>by simp [zm1 f xs k]
noncomputable def rRemove:V→List V→Hp→VK→Prop:=fun x vs H Q => ∃(l:Addr) (ns:List Int) (n:Int),x=.ref l∧vs=[.int n]∧H l=some (.lst (ns.map V.int))∧n∈ns∧Q .non (upd H l (.lst ((ns.erase n).map V.int)))
theorem zap1:MtM X "list.remove" rRemove:=by
 intro pins s σ H x vs v us Q I rx rv h
 obtain⟨l,ns,n,rfl,rfl,hH,hn,q⟩:=h
 cases rx
 obtain⟨u,rfl,ru⟩:=rv.one
 obtain⟨t,rfl⟩:=ru
 obtain⟨z,its,m,r,hl,e⟩:=I.lstM hH
 have hi:IntsAre its ns:=zi6 r
 have hlen:=hi.length
 have hj:ns.idxOf n<ns.length:=List.idxOf_lt_length_iff.mpr hn
 refine call_meets zbh6 ⟨_,e,rfl⟩ PySem.F.entry_list_remove (PySem.F.args_list_remove_2 _ _)
  (MeetsSeq.list_remove l its.toArray m (.int n t) (isInt n) (fun y hy=>eq_isInt n t hi y (by simpa using hy)) (ns.idxOf n) (by simpa [hlen] using hj) ?_ ?_ ?_) ⟨e,?_⟩
 ·show isInt n its[ns.idxOf n]=true
  rw [isInt_at n hi _ (by lia) hj]
  simpa using List.getElem_idxOf hj
 ·intro j hjs hlt
  show isInt n its[j]=false
  rw [isInt_at n hi j (by simpa using hjs) (by lia)]
  exact ne_of_lt_idxOf hlt _
 ·rw [zax9];simp at z hl;lia
 ·refine⟨.non,_,I.lset (its':=its.eraseIdx (ns.idxOf n)) hH e ?_ (?_:Vals ((ns.erase n).map V.int) _) ?_,rfl,q⟩
  ·show its.toArray.eraseIdxIfInBounds _=_
   rw [zbf6]
  ·have:=zah6 (ns.idxOf n) r
   rw [zm1,zag5]at this
   exact this
  ·have:=zbb0 hn
   simp at z ⊢
   lia
noncomputable def kRem (t:Th) (i:Nat) (r:Ev):Option Out:=match t[i]?,r.d with
 |some (.own xs),.int n=>(ze9 xs).bind fun ns=>if ns.contains n then some (.nx (t.set i (.own ((ns.erase n).map D.int)))) else none
 |_,_=>none
def dRem (i:Nat) (f:DE):DS:=fun t=>(f t).bind (kRem t i)
theorem psd_rem (i:Nat) {x:Str}{p0 apos cpos:Pos} (he:PE X a (dE X.K F fa)) (hN:X.N[i]?=some x:=by rfl) (hv:Vis X.env.scope x:=by first | exact Or.inl rfl | exact Or.inr (Or.inl rfl) |exact Or.inr (Or.inr rfl)) (hd:(x ==("__debug__":Str))=false:=by decide)
  (hcd:(x ==("__classdict__":Str))=false:=by decide) (hst:zax8 [a] X.env=[(false,eval a X.env)]:=by rfl)
  (hbase:attributeBase (.Name x p0) "remove" X.env (eval (.Name x p0) X.env)=eval (.Name x p0) X.env:=by rfl)
  (hfew:((zbe1 cpos (zax8 [a] X.env)).all (fun x=>!x.1)&&(backToKw cpos (keywordEach [] X.env)).all (fun x=>x.1.isSome)
   && decide ([a].length+([]:List Keyword).length+(if ([]:List Keyword).isEmpty then 0 else 1)<30))=true:=by rfl)
  (hline:(apos.endLine == cpos.line)=true:=by rfl) (hplain:(zbe1 cpos (zax8 [] X.env)).any (·.1)=false:=by rfl)
  (hsw:swapsWith (.Call (.Attribute (.Name x p0) "remove" apos) [a] [] cpos) none pos.line X.env=pure false:=by rfl) :
  PS X (.Expr (.Call (.Attribute (.Name x p0) "remove" apos) [a] [] cpos) pos) (dS X.K F (dRem i fa)):=by
 refine PS.imp (zan0 (pe_bm zbi1 zbh6 PySem.F.type_list_remove zap1 (zk5 (i:=i) hN hv hd hcd) (zg3 he zk6 hst) hbase hfew hline hst hplain) hsw) ?_
 rintro E σ H ⟨A,t,o,R,e,h⟩
 unfold dRem at e
 cases e1:fa t with
 |none=>rw [e1]at e;cases e
 |some r =>
  rw [e1]at e
  have e:kRem t i r=some o:=e
  unfold kRem at e
  split at e
  case h_2=>cases e
  rename_i xs n z zr
  cases e3:ze9 xs with
  |none=>rw [e3]at e;cases e
  |some ns =>
   rw [e3]at e
   simp only [zav9]at e
   split at e
   case isFalse=>cases e
   rename_i ok
   simp only [List.contains_iff_mem]at ok
   cases e
   obtain⟨p,vs,a1,a2,a3,a4⟩:=R.rel.getOwn z
   rw [zf2 e3]at a4
   have a5:=ze0 a4
   subst a5
   refine⟨_,a1,.inl ⟨rfl,_,SqL.of a3⟩,A,t,r,R,e1,fun y H1 gs q=>⟨p,ns,n,rfl,?_,gs _ _ a3,ok,?_⟩⟩
   ·have p1:=q.full
    rw [zr]at p1
    cases zd2 p1
    rfl
   ·obtain⟨R',g'⟩:=(R.grow gs).write (es:=(ns.erase n).map D.int) (ws:=(ns.erase n).map V.int) z a1 (Reps.ints _)
    exact h _ _ _ ((Gr.of_same R.mu.left gs).trans g') R'
noncomputable def kDel (t:Th) (i:Nat) (k:Ev):Option Out:=match t[i]?,k.d with
 |some (.own xs),.int n=>if decide (-1000000≤n∧n≤1000000) then (ixN xs.length n).map fun j=>.nx (t.set i (.own (xs.eraseIdx j))) else none
 |_,_=>none
def dDel (i:Nat) (f:DE):DS:=fun t=>(f t).bind (kDel t i)
theorem Reps.erase {K:zav4}{H:Hp}:∀ {ds:List D}{vs:List V} (j:Nat),Reps K H ds vs→Reps K H (ds.eraseIdx j) (vs.eraseIdx j)
 |_,_,_,.nil=>.nil
 |_,_,0,.cons _ rs=>rs
 |_,_,j+1,.cons r rs=>.cons r (Reps.erase j rs)
theorem psd_del (i:Nat) {x:Str}{p0 tpos:Pos} (hb:PE X b (dE X.K F fb)) (hN:X.N[i]?=some x:=by rfl) (hv:Vis X.env.scope x:=by first | exact Or.inl rfl | exact Or.inr (Or.inl rfl) |exact Or.inr (Or.inr rfl)) (hd:(x ==("__debug__":Str))=false:=by decide)
  (hcd:(x ==("__classdict__":Str))=false:=by decide):PS X (.Delete [.Subscript (.Name x p0) b tpos] pos) (dS X.K F (dDel i fb)):=by
 intro pins s σ H E I h
 obtain⟨A,t,oo,R,e,h⟩:=h
 unfold dDel at e
 cases e1:fb t with
 |none=>rw [e1]at e;cases e
 |some kk =>
  rw [e1]at e
  have e:kDel t i kk=some oo:=e
  unfold kDel at e
  split at e
  case h_2=>cases e
  rename_i xs n z z2
  split at e
  case isFalse=>cases e
  rename_i hn
  simp only [decide_eq_true_eq]at hn
  cases e3:ixN xs.length n with
  |none=>rw [e3]at e;cases e
  |some j =>
   rw [e3]at e
   cases e
   obtain⟨p,vs,a1,a2,a3,a4⟩:=R.rel.getOwn z
   refine wpAny_Delete (wpAny_deleteEach_cons ?_)
   rw [arm_delete_Subscript]
   refine zav6 (thn (zk5 (i:=i) hN hv hd hcd pins s σ H (fun x H1=>x=.ref p∧H1=H) I ⟨_,a1,rfl,rfl⟩) fun ov s1 ⟨x1,H1,I1,r1,q1⟩=>?_)
   obtain⟨rfl,rfl⟩:=q1
   refine zav6 (wpAny_holding (thn (hb pins s1 σ H1 (fun y H2 => ∃gs:Same H1 H2,RepEv X.K F A H1 H2 kk y) I1 ⟨A,t,kk,R,e1,fun y H2 gs q=>⟨gs,q⟩⟩) fun iv s2 ⟨y,H2,I2,r2,q2⟩=>?_))
   obtain⟨gs,q2⟩:=q2
   have p2:=q2.full
   rw [z2]at p2
   cases zd2 p2
   cases r1
   obtain⟨tk,rfl⟩:=r2
   have hj:=zaq6 (by rw [← a4.length]at e3;exact e3)
   obtain⟨R',g'⟩:=(R.grow gs).write (es:=xs.eraseIdx j) (ws:=vs.eraseIdx j) z a1 (Reps.erase j (Reps.mono (zb6 gs) a4))
   refine zav6 (wpAny_standAt (zav6 (wpAny_holding (del_list I2 (gs _ _ a3) (by lia) (by lia) hj.1 fun s3 I3=>?_))))
   refine wpAny_release (wpAny_deleteEach_nil ?_)
   exact⟨σ,_,I3,h _ _ _ ((Gr.of_same R.mu.left gs).trans g') R'⟩
end
end DL
namespace DL
open PySem.Spec L2
noncomputable def spM (K:zav4) (G:List D→Option Ev):Sp:=fun vs H Q _ => ∃(Fo:List Addr) (p:Addr) (ws vs':List V) (xs ds:List D) (d:D),vs=.ref p::vs'∧Lists H (p::Fo)∧p∉Fo∧H p=some (.lst ws)∧Reps K (hide (p::Fo) H) xs ws∧Reps K (hide (p::Fo) H) ds vs'∧G (.lst xs::ds)=some (.cl d)∧scD d=true ∧
 ∀v H',(∀b o,b≠p→H b=some o→H' b=some o)→H' p≠none→(∀Hx,Rep K Hx d v)→Q v H'
structure CalM (P:Program) (w:World) (K:zav4) (mg:Str→Option Value) (base:BHeap) (x:Str) (k:Nat) (G:List D→Option Ev):Prop where
 ex:∃(a:Addr) (fd:FuncData) (ps:List Str),mg x=some (.ref a)∧zba4 K (.ref a)=true∧L2.Binds K fd ps []∧FnOk P w K mg base CX0 k a fd ps (spM K G)
def sV:D→V
 |.bl b=>.bl b
 |.int i=>.int i
 |.str x=>.str x
 |_=>.non
def keyD:D→Option Key
 |.int i=>some (Sum.inl i)
 |.str x=>some (Sum.inr x)
 |_=>none
theorem zae4 {K:zav4}{H:Hp}{d:D}{v:V} (r:Rep K H d v) (s:scD d=true):v=sV d:=by
 cases r with
 |non=>rfl
 |bl b=>rfl
 |int i=>rfl
 |str x=>rfl
 |tup _ _=>cases s
 |lst _ _=>cases s
 |dct _ _ _=>cases s
 |pdc _=>cases s
 |fdc _=>cases s
 |adr _=>cases s
theorem zal4 {K:zav4}{H:Hp}:∀ {d:D},scD d=true→Rep K H d (sV d)
 |.non,_=>.non
 |.bl b,_=>.bl b
 |.int i,_=>.int i
 |.str x,_=>.str x
 |.tup _,s=>by cases s
 |.lst _,s=>by cases s
 |.dct _ _,s=>by cases s
 |.pdc _,s=>by cases s
 |.fdc _,s=>by cases s
 |.adr _,s=>by cases s
theorem sc_flatD:∀ {d:D},scD d=true→flat d=true
 |.non,_=>rfl
 |.bl b,_=>rfl
 |.int i,_=>rfl
 |.str x,_=>rfl
 |.tup _,s=>by cases s
 |.lst _,s=>by cases s
 |.dct _ _,s=>by cases s
 |.pdc _,s=>by cases s
 |.fdc _,s=>by cases s
 |.adr _,s=>by cases s
theorem zaa9 {K:zav4}{H:Hp}:∀ {ds:List D}{vs:List V},Reps K H ds vs→ds.all scD=true→vs=ds.map sV
 |_,_,.nil,_=>rfl
 |_,_,.cons h r,s=>by
  simp only [zaz6,zaw5]at s
  rw [zae4 h s.1,zaa9 r s.2];rfl
theorem zae3 {K:zav4}{H0 H:Hp}:∀ {ds:List D}{vs:List V}{B:List Addr},RepDs K H0 H ds vs B→ds.all scD=true→vs=ds.map sV∧B=[]
 |_,_,_,.nil,_=>⟨rfl,rfl⟩
 |_,_,_,.cons h r,s=>by
  simp only [zaz6,zaw5]at s
  obtain⟨a,b⟩:=zae3 r s.2
  subst a b
  cases h with
  |flat f q=>rw [zae4 q s.1];exact⟨rfl,rfl⟩
  |tup _ _=>exact absurd s.1 (by simp [scD])
  |lst _ _=>exact absurd s.1 (by simp [scD])
  |dct _ _ _=>exact absurd s.1 (by simp [scD])
  |pdc _=>exact absurd s.1 (by simp [scD])
theorem zae0 {K:zav4}{H0 H:Hp}:∀ {ds:List D},ds.all scD=true→RepDs K H0 H ds (ds.map sV) []
 |[],_=>.nil
 |d::ds,s=>by
  simp only [zaz6,zaw5]at s
  exact .cons (B:=[]) (C:=[]) (.flat (sc_flatD s.1) (zal4 s.1)) (zae0 s.2)
theorem RS.placeD {K:zav4}{F A:List Addr}{H:Hp}{t:Th}{σ:L2.St}{i:Nat}{ks:List Key}{ds:List D} (R:RS K F H A t σ) (e:t[i]?=some (.dp (.dct ks ds))) (sc:ds.all scD=true) :
  ∃p,σ[i]?=some (some (.ref p))∧p∈A∧ks.length=ds.length∧H p=some (.dK (mkKV ks (ds.map sV))) ∧
   ∀H1 ks2 ds2,Same H H1→ks2.length=ds2.length→ds2.all scD=true →
    ∃A2,RS K F (L2.upd H1 p (.dK (mkKV ks2 (ds2.map sV)))) A2 (t.set i (.dp (.dct ks2 ds2))) σ∧Gr A H A2 (L2.upd H1 p (.dK (mkKV ks2 (ds2.map sV)))):=by
 obtain⟨v,B,a1,a2,a3,a4,a5⟩:=R.rel.focusDp R.nd e
 cases a4 with
 |flat f _=>simp [flat]at f
 |@dct _ _ p vs B' l h r =>
  obtain⟨rfl,rfl⟩:=zae3 r sc
  have pA:p∈A:=a2 p (by simp)
  refine⟨p,a1,pA,by simpa using l,h,fun H1 ks2 ds2 gs l2 sc2=>?_⟩
  have hh:Same (hide (A++F) H) (hide (A++F) (L2.upd H1 p (.dK (mkKV ks2 (ds2.map sV))))):=fun b o q=>by
   obtain⟨n,q⟩:=zd4 q
   have nb:b≠p:=fun z=>n (zaw1 _ (z ▸ pA))
   exact zb0 (by rw [za3 nb];exact gs _ _ q) n
  obtain⟨A2,d1,d3⟩:=a5 _ _ (.dct ks2 ds2) [p] hh (.dct (by simpa using l2) za4 (zae0 sc2)) (List.Sublist.refl _) (fun q hq nq o w=>by rw [za3 (by simpa using nq)];exact gs _ _ w)
  have sub:∀x∈A2,x∈A:=fun x hx=>d3.subset hx
  have mu:Lists (L2.upd H1 p (.dK (mkKV ks2 (ds2.map sV)))) (A++F):=fun q hq=>by
   by_cases z:q=p
   ·exact⟨mD _,by rw [z];exact za4⟩
   ·obtain⟨us,w⟩:=R.mu q hq
    exact⟨us,by rw [za3 z];exact gs _ _ w⟩
  refine⟨A2,⟨fun q hq=>mu q ?_,R.nd.sublist d3,fun q hq=>R.dj q (sub q hq),RSl.mono (zb4 _ fun a z=>?_) d1 fun _ _ _ h=>h⟩,fun b o n h=>?_,fun b hb=>?_,fun b hb=>.inl (sub b hb)⟩
  ·exact (zax0.mp hq).elim (fun z=>zaw1 _ (sub q z)) (fun z=>zav5 _ z)
  ·exact (zax0.mp z).elim (fun z=>zaw1 _ (sub a z)) (fun z=>zav5 _ z)
  ·rw [za3 (fun z=>n (by rw [z];exact pA))];exact gs _ _ h
  ·obtain⟨us,w⟩:=mu b (zaw1 _ hb)
   rw [w];simp
def zh6:List Key→List D→Key→Option D
 |k'::ks,d::ds,k=>if k'=k then some d else zh6 ks ds k
 |_,_,_=>none
def hasK (ks:List Key) (k:Key):Bool:=ks.any fun k'=>decide (k'=k)
noncomputable def zh1 (ks:List Key) (ds:List D) (k:Key) (d:D):List Key×List D :=
 if hasK ks k then (ks,zbg3 (fun k' d'=>if k'=k then d else d') ks ds) else (ks++[k],ds++[d])
theorem zr5 (k:Key):∀ {ks:List Key}{ds:List D},ks.length=ds.length→valV (mkKV ks (ds.map sV)) k=(zh6 ks ds k).map sV
 |[],[],_=>rfl
 |k'::ks,d::ds,h=>by
  have i:=zr5 k (ks:=ks) (ds:=ds) (by simpa using h)
  unfold mkKV at i ⊢
  simp only [zax1,zbd3,zh6]
  by_cases e:k'=k
  ·rw [zi2 (p:=(k',sV d)) e,if_pos e];rfl
  ·rw [zi3 (p:=(k',sV d)) e,if_neg e,i]
 |[],_::_,h=>by simp at h
 |_::_,[],h=>by simp at h
theorem zt6 (k:Key):∀ {ks:List Key}{vs:List V},ks.length=vs.length→(valV (mkKV ks vs) k).isSome=hasK ks k
 |[],[],_=>rfl
 |k'::ks,d::ds,h=>by
  have i:=zt6 k (ks:=ks) (vs:=ds) (by simpa using h)
  unfold mkKV hasK at i ⊢
  simp only [zbd3,zba5]
  by_cases e:k'=k
  ·rw [zi2 (p:=(k',d)) e,decide_eq_true e];rfl
  ·rw [zi3 (p:=(k',d)) e,decide_eq_false e,i];rfl
 |[],_::_,h=>by simp at h
 |_::_,[],h=>by simp at h
section
variable {X:Cx}{F:List Addr}{a b c o:Expr}{es:List Expr}{fa fb fc:DE}{ga:DA}{pos:Pos}
def zy7:DE:=fun _=>some (.dn (.dct [] []))
theorem zn0:PE X (.Dict [] [] pos) (dE X.K F zy7):=by
 refine PE.imp pe_dnewK ?_
 rintro σ H Q ⟨A,t,r,R,e,h⟩
 cases e
 intro p hp
 refine h _ _ (zb8 hp) ⟨[p],by simp,fun b hb=>by simp at hb;subst hb;exact hp,.dct (vs:=[]) rfl za4 .nil⟩
noncomputable def kInD (neg:Bool):Ev→Ev→Option Ev:=fun r1 r2=>match r2.d with
 |.dct ks ds=>(keyD r1.d).map fun k=>.cl (.bl (if neg then !hasK ks k else hasK ks k))
 |_=>none
theorem zo6 {K:zav4}{H:Hp}{d:D}{v:V}{k:Key} (r:Rep K H d v) (e:keyD d=some k):v=kV k:=by
 cases r<;>cases e<;>rfl
theorem zao3 (hu:X.A.units+64<cLine):OpD X F (compareOp .NotIn) (kInD true):=by
 intro pins s σ H0 H A x y v u Q r1 r2 r I m g0 rx ry q1 q2 e hq
 unfold kInD at e
 split at e
 case h_2=>cases e
 rename_i ks ds z
 cases ek:keyD r1.d with
 |none=>rw [ek]at e;cases e
 |some k =>
  rw [ek]at e
  cases e
  have p1:=zo6 q1.full ek
  have p2:=q2.full
  rw [z]at p2
  cases p2 with
  |@dct _ _ p vs l h1 h2 =>
   subst p1
   cases (show u=Value.ref p from ry)
   refine d_notIn (by lia) I (DGet.k h1) rx fun s' I'=>?_
   rw [zt6 k l]
   exact⟨.bl _,H,I',rfl,hq _ H (Same.refl H) (.bl _)⟩
noncomputable def zt5:List Ev→Option Ev:=fun rs=>match rs with
 |[r]=>(match r.d with
  |.dct ks _=>some (.cl (.int ks.length))
  |_=>none)
 |_=>none
theorem zat6:CallD X F (.builtin "len") zt5:=CallD.of zau1 fun H0 H A xs rs e Q m g q ek hq=>by
 unfold zt5 at ek
 split at ek
 case h_2=>cases ek
 rename_i r
 split at ek
 case h_2=>cases ek
 rename_i ks ds z
 cases ek
 cases q with
 |cons q1 q2 =>
  cases q2
  have p:=q1.full
  rw [z]at p
  cases p with
  |@dct _ _ p vs l h1 h2 =>
   refine⟨p,_,rfl,h1,?_⟩
   have:(mkKV ks vs).length=ks.length:=by unfold mkKV;rw [List.length_zip];lia
   rw [this]
   exact hq _ H (Same.refl H) (.int _)
theorem put_zip (k:Key) (d:D) {ks:List Key}{ds:List D} (h:ks.length=ds.length):putK (mkKV ks (ds.map sV)) k (sV d)=mkKV (zh1 ks ds k d).1 ((zh1 ks ds k d).2.map sV)∧(zh1 ks ds k d).1.length=(zh1 ks ds k d).2.length:=by
 have ha:(mkKV ks (ds.map sV)).any (fun kv=>decide (kv.1=k))=hasK ks k:=by
  rw [zr6,zt6 k (by simpa using h)]
 unfold putK zh1
 rw [ha]
 by_cases hc:hasK ks k=true
 ·rw [if_pos hc,if_pos hc]
  refine⟨?_,by simp;lia⟩
  clear hc ha
  unfold mkKV
  induction ks generalizing ds with
  |nil=>simp
  |cons k' ks ih =>
   cases ds with
   |nil=>simp at h
   |cons d' ds =>
    have i:=ih (ds:=ds) (by simpa using h)
    simp only [zax1,zbd3,zbc9,i]
    by_cases e:k'=k
    ·simp [e]
    ·simp [e]
 ·rw [if_neg hc,if_neg hc]
  refine⟨?_,by simp;lia⟩
  unfold mkKV
  rw [zbc5,List.zip_append (by simpa using h)]
  rfl
theorem put_sc {ks:List Key}{k:Key}{d:D} (sd:scD d=true):∀ {ds:List D},ds.all scD=true→(zh1 ks ds k d).2.all scD=true:=fun {ds} s=>by
 unfold zh1
 split
 ·show (zbg3 _ ks ds).all scD=true
  rename_i hc
  clear hc
  induction ks generalizing ds with
  |nil=>simp
  |cons k' ks ih =>
   cases ds with
   |nil=>simp
   |cons d' ds =>
    simp only [zaz6,zaw5]at s
    simp only [zbc9,zaz6,zaw5]
    refine⟨?_,ih s.2⟩
    split
    ·exact sd
    ·exact s.1
 ·show (ds++[d]).all scD=true
  rw [List.all_append,s]
  simp [sd]
noncomputable def zab7 (t:Th) (i:Nat) (r k:Ev):Option Out:=match t[i]?,keyD k.d with
 |some (.dp (.dct ks ds)),some kk=>if ds.all scD&&scD r.d&&decide (ks.length<100000) then some (.nx (t.set i (.dp (.dct (zh1 ks ds kk r.d).1 (zh1 ks ds kk r.d).2)))) else none
 |_,_=>none
def zu3 (i:Nat) (fk fv:DE):DS:=fun t=>(fv t).bind fun r=>(fk t).bind fun k=>zab7 t i r k
theorem zs7 (i:Nat) {x:Str}{p0 tpos:Pos} (hu:X.A.units+64<cLine) (hb:PE X b (dE X.K F fb)) (he:PE X a (dE X.K F fa)) (hN:X.N[i]?=some x:=by rfl) (hv:Vis X.env.scope x:=by first | exact Or.inl rfl | exact Or.inr (Or.inl rfl) |exact Or.inr (Or.inr rfl)) (hd:(x ==("__debug__":Str))=false:=by decide)
  (hcd:(x ==("__classdict__":Str))=false:=by decide) (hs:swapsWith a (some (.Subscript (.Name x p0) b tpos)) pos.line X.env=pure false:=by rfl) :
  PS X (.Assign [.Subscript (.Name x p0) b tpos] a pos) (dS X.K F (zu3 i fb fa)):=by
 refine PS.imp (zan1 (by lia) (zk5 (i:=i) hN hv hd hcd) hb he hs) ?_
 rintro E σ H ⟨A,t,o,R,e,h⟩
 unfold zu3 at e
 cases e1:fa t with
 |none=>rw [e1]at e;cases e
 |some r =>
  cases e2:fb t with
  |none=>rw [e1,e2]at e;cases e
  |some kk =>
   rw [e1,e2]at e
   have e:zab7 t i r kk=some o:=e
   unfold zab7 at e
   split at e
   case h_2=>cases e
   rename_i ks ds k z ek
   split at e
   case isFalse=>cases e
   rename_i ok
   simp only [zaw5,decide_eq_true_eq]at ok
   cases e
   obtain⟨p,a1,a2,l,hp,mk⟩:=R.placeD z ok.1.1
   refine⟨A,t,r,R,e1,fun v0 H1 gs1 q1=>⟨_,a1,A,t,kk,R.grow gs1,e2,fun y H2 gs2 q2=>?_⟩⟩
   have gs:=gs1.trans gs2
   have ey:=zo6 q2.full ek
   have ev:=zae4 q1.full ok.1.2
   subst ey ev
   obtain⟨pz,pl⟩:=put_zip k r.d l
   obtain⟨A2,R',g'⟩:=mk H2 _ _ gs pl (put_sc ok.1.2 ok.1.1)
   have hlen:(mkKV ks (ds.map sV)).length<sizeLine:=by
    unfold mkKV
    rw [List.length_zip]
    exact zbf3 (Nat.min_le_left _ _) (zax3 ok.2 (by rw [sizeLine_eq];decide))
   refine⟨p,_,rfl,DPut.k (gs _ _ hp) hlen,?_⟩
   rw [pz]
   exact h _ _ _ g' R'
end
end DL
namespace DL
open PySem.Spec L2
theorem zt7 {k:Key}{d:D}:∀ {ks:List Key}{ds:List D},ds.all scD=true→zh6 ks ds k=some d→scD d=true
 |[],ds,_,e=>by simp [zh6]at e
 |_::_,[],_,e=>by simp [zh6]at e
 |k'::ks,d'::ds,s,e=>by
  simp only [zaz6,zaw5]at s
  unfold zh6 at e
  split at e
  ·cases e;exact s.1
  ·exact zt7 s.2 e
section
variable {X:Cx}{F:List Addr}{a b c o:Expr}{es:List Expr}{fa fb fc:DE}{ga:DA}{pos:Pos}
noncomputable def zaq3:Ev→Ev→Option Ev:=fun r1 r2=>match r1.d,keyD r2.d with
 |.dct ks ds,some k=>if ds.all scD then (zh6 ks ds k).map Ev.cl else none
 |_,_=>none
theorem ped_dget (hu:X.A.units+64<cLine) (ha:PE X a (dE X.K F fa)) (hb:PE X b (dE X.K F fb)) (hs:NoSl b:=by intro _ _;rfl):PE X (.Subscript a b pos) (dE X.K F (d2 zaq3 fa fb)):=by
 refine PE.imp (zan8 (by lia) ha hb hs) ?_
 intro σ H Q h
 obtain⟨A,t,r1,r2,r,R,e1,e2,e,h,w⟩:=two h
 refine⟨A,t,r1,R,e1,fun x H1 gs1 q1=>⟨A,t,r2,R.grow gs1,e2,fun y H2 gs2 q2=>?_⟩⟩
 have gs:=gs1.trans gs2
 have p1:=(q1.mono gs2).full
 have p2:=q2.full
 unfold zaq3 at e
 split at e
 case h_2=>cases e
 rename_i ks ds k z ek
 split at e
 case isFalse=>cases e
 rename_i sc
 cases eg:zh6 ks ds k with
 |none=>rw [eg]at e;cases e
 |some d =>
  rw [eg]at e
  cases e
  rw [z]at p1
  cases p1 with
  |@dct _ _ p vs l h1 h2 =>
   have ev:=zaa9 h2 sc
   subst ev
   have ey:=zo6 p2 ek
   subst ey
   have l':ks.length=ds.length:=by simpa using l
   have hv:=zr5 k (ks:=ks) (ds:=ds) l'
   rw [eg]at hv
   have sd:=zt7 sc eg
   refine⟨p,sV d,rfl,?_,h _ H2 gs (zal4 sd)⟩
   have:=DGet.k (k:=k) h1
   rw [hv]at this
   exact this
noncomputable def dDG2 (fa fb fc:DE):DE:=fun t=>(fa t).bind fun r1=>(fb t).bind fun r2=>(fc t).bind fun r3=>match r1.d,keyD r2.d with
 |.dct ks ds,some k=>if ds.all scD&&scD r3.d then some (.cl ((zh6 ks ds k).getD r3.d)) else none
 |_,_=>none
theorem zan7 {apos cpos:Pos} (hu:X.A.units+64<cLine) (ha:PE X a (dE X.K F fa)) (hb:PE X b (dE X.K F fb)) (hc:PE X c (dE X.K F fc)) (m:M2 X a "get" apos b c cpos:=by exact⟨rfl,rfl,rfl,rfl⟩):PE X (.Call (.Attribute a "get" apos) [b,c] [] cpos) (dE X.K F (dDG2 fa fb fc)):=by
 refine PE.imp (zaf2 (by lia) ha hb hc m) ?_
 rintro σ H Q ⟨A,t,r,R,e,h⟩
 unfold dDG2 at e
 cases e1:fa t with
 |none=>rw [e1]at e;cases e
 |some r1 =>
  cases e2:fb t with
  |none=>rw [e1,e2]at e;cases e
  |some r2 =>
   cases e3:fc t with
   |none=>rw [e1,e2,e3]at e;cases e
   |some r3 =>
    rw [e1,e2,e3]at e
    simp only [zav9]at e
    split at e
    case h_2=>cases e
    rename_i ks ds k z ek
    split at e
    case isFalse=>cases e
    rename_i sc
    simp only [zaw5]at sc
    cases e
    refine⟨A,t,r1,R,e1,fun x H1 gs1 q1=>?_⟩
    have p1:=q1.full
    rw [z]at p1
    cases p1 with
    |@dct _ _ p vs l h1 h2 =>
     have ev:=zaa9 h2 sc.1
     subst ev
     have l':ks.length=ds.length:=by simpa using l
     refine⟨p,rfl,.inl ⟨_,.inl h1⟩,A,t,r2,R.grow gs1,e2,fun y H2 gs2 q2=>⟨A,t,r3,(R.grow gs1).grow gs2,e3,fun y3 H3 gs3 q3=>?_⟩⟩
     have ey:=zo6 q2.full ek
     have e3':=zae4 q3.full sc.2
     subst ey e3'
     have hv:=zr5 k (ks:=ks) (ds:=ds) l'
     refine⟨_,DGet.k (gs3 _ _ (gs2 _ _ h1)),?_⟩
     rw [hv]
     have fin:((zh6 ks ds k).map sV).getD (sV r3.d)=sV ((zh6 ks ds k).getD r3.d):=by cases zh6 ks ds k<;>rfl
     rw [fin]
     refine h _ H3 ((gs1.trans gs2).trans gs3) (zal4 ?_)
     cases eg:zh6 ks ds k with
     |none=>exact sc.2
     |some d=>exact zt7 sc.1 eg
noncomputable def ze3:List Key→List D→Key→List Key×List D
 |k'::ks,d::ds,k=>if k'=k then ze3 ks ds k else (k' ::(ze3 ks ds k).1,d ::(ze3 ks ds k).2)
 |_,_,_=>([],[])
theorem zag7 (k:Key):∀ {ks:List Key}{ds:List D},ks.length=ds.length→zac2 (mkKV ks (ds.map sV)) k=mkKV (ze3 ks ds k).1 ((ze3 ks ds k).2.map sV)∧(ze3 ks ds k).1.length=(ze3 ks ds k).2.length
 |[],[],_=>⟨rfl,rfl⟩
 |k'::ks,d::ds,h=>by
  obtain⟨i1,i2⟩:=zag7 k (ks:=ks) (ds:=ds) (by simpa using h)
  unfold mkKV zac2 at i1 ⊢
  unfold ze3
  simp only [zax1,zbd3]
  by_cases e:k'=k
  ·rw [if_pos e,zay1 (by simpa using e)]
   exact⟨i1,i2⟩
  ·rw [if_neg e,zay2 (by simpa using e),i1]
   exact⟨rfl,by simpa using i2⟩
 |[],_::_,h=>by simp at h
 |_::_,[],h=>by simp at h
theorem zac1 {k:Key}:∀ {ks:List Key}{ds:List D},ds.all scD=true→(ze3 ks ds k).2.all scD=true
 |[],ds,_=>by simp [ze3]
 |_::_,[],_=>by simp [ze3]
 |k'::ks,d::ds,s=>by
  simp only [zaz6,zaw5]at s
  unfold ze3
  split
  ·exact zac1 s.2
  ·simp only [zaz6,zaw5]
   exact⟨s.1,zac1 s.2⟩
noncomputable def zaq4 (t:Th) (i:Nat) (k:Ev):Option Out:=match t[i]?,keyD k.d with
 |some (.dp (.dct ks ds)),some kk=>if ds.all scD&&hasK ks kk then some (.nx (t.set i (.dp (.dct (ze3 ks ds kk).1 (ze3 ks ds kk).2)))) else none
 |_,_=>none
def zac6 (i:Nat) (fk:DE):DS:=fun t=>(fk t).bind fun k=>zaq4 t i k
theorem psd_ddel (i:Nat) {x:Str}{p0 tpos:Pos} (hb:PE X b (dE X.K F fb)) (hN:X.N[i]?=some x:=by rfl) (hv:Vis X.env.scope x:=by first | exact Or.inl rfl | exact Or.inr (Or.inl rfl) |exact Or.inr (Or.inr rfl)) (hd:(x ==("__debug__":Str))=false:=by decide)
  (hcd:(x ==("__classdict__":Str))=false:=by decide) :
  PS X (.Delete [.Subscript (.Name x p0) b tpos] pos) (dS X.K F (zac6 i fb)):=by
 refine PS.imp (ps_ddel (zk5 (i:=i) hN hv hd hcd) hb) ?_
 rintro E σ H ⟨A,t,o,R,e,h⟩
 unfold zac6 at e
 cases e2:fb t with
 |none=>rw [e2]at e;cases e
 |some kk =>
  rw [e2]at e
  have e:zaq4 t i kk=some o:=e
  unfold zaq4 at e
  split at e
  case h_2=>cases e
  rename_i ks ds k z ek
  split at e
  case isFalse=>cases e
  rename_i ok
  simp only [zaw5]at ok
  cases e
  obtain⟨p,a1,a2,l,hp,mk⟩:=R.placeD z ok.1
  refine⟨_,a1,A,t,kk,R,e2,fun y H2 gs q2=>?_⟩
  have ey:=zo6 q2.full ek
  subst ey
  obtain⟨dz,dl⟩:=zag7 k l
  obtain⟨A2,R',g'⟩:=mk H2 _ _ gs dl (zac1 ok.1)
  refine⟨p,_,k,rfl,gs _ _ hp,rfl,?_,?_⟩
  ·rw [zt6 k (by simpa using l)];exact ok.2
  ·rw [dz]
   exact h _ _ _ g' R'
end
end DL
namespace DL
open PySem.Spec L2
theorem pkv_len (ps:List (List Int×Int)):(pkv ps).length=ps.length:=by simp [pkv]
theorem RS.placeP {K:zav4}{F A:List Addr}{H:Hp}{t:Th}{σ:L2.St}{i:Nat}{ps:List (List Int×Int)} (R:RS K F H A t σ) (e:t[i]?=some (.dp (.pdc ps))) :
  ∃p,σ[i]?=some (some (.ref p))∧p∈A∧H p=some (.dT (pkv ps)) ∧
   ∀H2 ps2,(∀b o,b≠p→H b=some o→H2 b=some o)→H2 p=some (.dT (pkv ps2))→∃A2,RS K F H2 A2 (t.set i (.dp (.pdc ps2))) σ∧Gr A H A2 H2:=by
 obtain⟨v,B,a1,a2,a3,a4,a5⟩:=R.rel.focusDp R.nd e
 cases a4 with
 |flat f _=>simp [flat]at f
 |@pdc _ p h =>
  have pA:p∈A:=a2 p (by simp)
  refine⟨p,a1,pA,h,fun H2 ps2 kp hp=>?_⟩
  have hh:Same (hide (A++F) H) (hide (A++F) H2):=fun b o q=>by
   obtain⟨n,q⟩:=zd4 q
   exact zb0 (kp b o (fun z=>n (zaw1 _ (z ▸ pA))) q) n
  obtain⟨A2,d1,d3⟩:=a5 _ _ (.pdc ps2) [p] hh (.pdc hp) (List.Sublist.refl _) (fun q hq nq o w=>kp q o (by simpa using nq) w)
  have sub:∀x∈A2,x∈A:=fun x hx=>d3.subset hx
  have mu:Lists H2 (A++F):=fun q hq=>by
   by_cases z:q=p
   ·exact⟨mT _,by rw [z];exact hp⟩
   ·obtain⟨us,w⟩:=R.mu q hq
    exact⟨us,kp q _ z w⟩
  refine⟨A2,⟨fun q hq=>mu q ?_,R.nd.sublist d3,fun q hq=>R.dj q (sub q hq),RSl.mono (zb4 _ fun a z=>?_) d1 fun _ _ _ h=>h⟩,fun b o n h=>?_,fun b hb=>?_,fun b hb=>.inl (sub b hb)⟩
  ·exact (zax0.mp hq).elim (fun z=>zaw1 _ (sub q z)) (fun z=>zav5 _ z)
  ·exact (zax0.mp z).elim (fun z=>zaw1 _ (sub a z)) (fun z=>zav5 _ z)
  ·exact kp b o (fun z=>n (z ▸ pA)) h
  ·obtain⟨us,w⟩:=mu b (zaw1 _ hb)
   rw [w];simp
section
variable {X:Cx}{F:List Addr}{a b c o:Expr}{es:List Expr}{fa fb fc:DE}{ga:DA}{pos pos1:Pos}
def dNewP:DE:=fun _=>some (.dn (.pdc []))
theorem ped_newP:PE X (.Dict [] [] pos) (dE X.K F dNewP):=by
 refine PE.imp pe_dnewT ?_
 rintro σ H Q ⟨A,t,r,R,e,h⟩
 cases e
 intro p hp
 refine h _ _ (zb8 hp) ⟨[p],by simp,fun b hb=>by simp at hb;subst hb;exact hp,.pdc za4⟩
end
end DL
namespace PySem.SeqAt
open PySem.Spec
def fstD (e c:Nat→Bool):List Nat→Bool
 |[]=>false
 |j::r=>if e j then fstD e c r else c j
noncomputable def OpAt (op:CmpOp) (A:Around) (s:zaw4) (a b:Value) (k:Bool):Prop := ∀(prog:Program) (w:World) (E:Value→zaw4→Prop) (Q:Value→zaw4→Prop),Q (.bool k) s→wpAny (model prog w) A (richCompare op a b) Q E s
theorem zah9 (l b:Addr) (items items2:Array Value) (n n2:Nat) (dd dd2:Option Addr) (sl sl2:Array (Option Value)) (e c:Nat→Bool) :
  Meets (Builtin.«tuple.__lt__» ⟨[.ref l,.ref b],[]⟩)
   (fun A R s=>s.heap.get? l=some { cls:=.type "tuple",dict:=dd,data:=.seq items n,slots:=sl }∧s.heap.get? b=some { cls:=.type "tuple",dict:=dd2,data:=.seq items2 n2,slots:=sl2 } ∧
    (∀j (h1:j<items.size) (h2:j<items2.size),EqAt A.in1 s items[j] items2[j] (e j))∧(∀j (h1:j<items.size) (h2:j<items2.size),e j=false→OpAt .Lt A.in1 s items[j] items2[j] (c j))∧items.size=items2.size ∧
    R (.ok (.ret (.bool (fstD e c (zaz7 items.size))))) s) :=
 .of_wp fun prog w A R s h=>by
  obtain⟨hp,g,d,tk,os⟩:=s;obtain⟨hl,hb,he,hcc,hsz,h⟩:=h
  have f2:=AutoSeq1.sub_tuple_tuple
  have hZ:(items.toList.zip items2.toList).length=items.size:=by simp [hsz]
  wp_walk using wpAny_loadPart' hl,wpAny_loadPart' hb,wpAny_forIn_list _ (fun rest b s'=>b.1=none∧s'=⟨hp,g,d,tk,os⟩∧∃i,rest=(items.toList.zip items2.toList).drop i ∧
   R (.ok (.ret (.bool (fstD e c ((zaz7 items.size).drop i))))) ⟨hp,g,d,tk,os⟩) _
  case turn =>
   rintro ⟨y,x⟩ rest b s' ⟨hb',rfl,i,hz,hR⟩
   have hlt:i<(items.toList.zip items2.toList).length:=by
    rcases zbk1 i (items.toList.zip items2.toList).length with h' |h'
    ·exact h'
    ·rw [zbd0 h']at hz;cases hz
   have h1:i<items.size:=hZ ▸ hlt
   have h2:i<items2.size:=hsz ▸ h1
   rw [zay4 hlt]at hz
   injection hz with hyx hrest
   have hy:y=items[i]:=by have:=congrArg Prod.fst hyx;simpa using this
   have hx:x=items2[i]:=by have:=congrArg Prod.snd hyx;simpa using this
   subst hy hx
   have hd:(zaz7 items.size).drop i=i ::(zaz7 items.size).drop (i+1):=by simp [zay4,h1]
   rw [hd,fstD]at hR
   refine zav6 (he i h1 h2 prog w _ _ ?_)
   cases hy:e i with
   |true =>
    rw [hy]at hR
    wp_walk
    exact⟨rfl,rfl,i+1,hrest,by simpa using hR⟩
   |false =>
    rw [hy]at hR
    simp only [Bool.not_false,if_true]
    refine zav6 (wpAny_rule (zav6 (hcc i h1 h2 hy prog w _ _ ?_)))
    wp_walk
    exact⟨_,rfl,by simpa using hR⟩
  case fin =>
   rintro ⟨b1,b2⟩ s' ⟨hb',rfl,i,hz,hR⟩
   simp only at hb'
   subst hb'
   have hge:items.size≤i:=by
    rcases zbk1 i (items.toList.zip items2.toList).length with h' |h'
    ·rw [zay4 h']at hz;cases hz
    ·exact hZ ▸ h'
   rw [zbd0 (by simpa using hge)]at hR
   wp_walk
   exact⟨_,rfl,by simpa [Builtin.Tuple.tupleCompareSizes,hsz,fstD] using hR⟩
  case h =>
   exact⟨rfl,rfl,0,rfl,by simpa using h⟩
theorem OpAt.tuples_lt {A:Around}{s:zaw4}{l b:Addr}{items items2:Array Value}{e c:Nat→Bool} (hl:s.heap.IsTuple l items) (hb:s.heap.IsTuple b items2) (hu:A.units<cLine) (hsz:items.size=items2.size)
  (he:∀j (h1:j<items.size) (h2:j<items2.size),EqAt A.in1 s items[j] items2[j] (e j)) (hc:∀j (h1:j<items.size) (h2:j<items2.size),e j=false→OpAt .Lt A.in1 s items[j] items2[j] (c j)) :
  OpAt .Lt A s (.ref l) (.ref b) (fstD e c (zaz7 items.size)):=fun prog w E Q h=>by
 obtain⟨⟨cls,dd,data,sl⟩,ho,hc1,n,hd⟩:=id hl
 obtain⟨⟨cls2,dd2,data2,sl2⟩,ho2,hc2,n2,hd2⟩:=id hb
 simp only at hc1 hd hc2 hd2
 subst hc1 hd hc2 hd2
 exact richCompare_meets_room (op:=.Lt) ⟨_,ho,rfl⟩ ⟨_,ho2,rfl⟩ F.slot_tuple_lt F.entry_tuple_lt (F.args_tuple_lt_2 _ _) (zah9 l b items items2 n n2 dd dd2 sl sl2 e c)
  ⟨ho,ho2,he,hc,hsz,show Value.bool _≠Value.notImplemented∧Q (.bool (fstD e c (zaz7 items.size))) s from ⟨(fun x=>nomatch x),h⟩⟩ hu
theorem zai0 (l b:Addr) (items items2:Array Value) (n n2:Nat) (dd dd2:Option Addr) (sl sl2:Array (Option Value)) (e c:Nat→Bool) :
  Meets (Builtin.«tuple.__gt__» ⟨[.ref l,.ref b],[]⟩)
   (fun A R s=>s.heap.get? l=some { cls:=.type "tuple",dict:=dd,data:=.seq items n,slots:=sl }∧s.heap.get? b=some { cls:=.type "tuple",dict:=dd2,data:=.seq items2 n2,slots:=sl2 } ∧
    (∀j (h1:j<items.size) (h2:j<items2.size),EqAt A.in1 s items[j] items2[j] (e j))∧(∀j (h1:j<items.size) (h2:j<items2.size),e j=false→OpAt .Gt A.in1 s items[j] items2[j] (c j))∧items.size=items2.size ∧
    R (.ok (.ret (.bool (fstD e c (zaz7 items.size))))) s) :=
 .of_wp fun prog w A R s h=>by
  obtain⟨hp,g,d,tk,os⟩:=s;obtain⟨hl,hb,he,hcc,hsz,h⟩:=h
  have f2:=AutoSeq1.sub_tuple_tuple
  have hZ:(items.toList.zip items2.toList).length=items.size:=by simp [hsz]
  wp_walk using wpAny_loadPart' hl,wpAny_loadPart' hb,wpAny_forIn_list _ (fun rest b s'=>b.1=none∧s'=⟨hp,g,d,tk,os⟩∧∃i,rest=(items.toList.zip items2.toList).drop i ∧
   R (.ok (.ret (.bool (fstD e c ((zaz7 items.size).drop i))))) ⟨hp,g,d,tk,os⟩) _
  case turn =>
   rintro ⟨y,x⟩ rest b s' ⟨hb',rfl,i,hz,hR⟩
   have hlt:i<(items.toList.zip items2.toList).length:=by
    rcases zbk1 i (items.toList.zip items2.toList).length with h' |h'
    ·exact h'
    ·rw [zbd0 h']at hz;cases hz
   have h1:i<items.size:=hZ ▸ hlt
   have h2:i<items2.size:=hsz ▸ h1
   rw [zay4 hlt]at hz
   injection hz with hyx hrest
   have hy:y=items[i]:=by have:=congrArg Prod.fst hyx;simpa using this
   have hx:x=items2[i]:=by have:=congrArg Prod.snd hyx;simpa using this
   subst hy hx
   have hd:(zaz7 items.size).drop i=i ::(zaz7 items.size).drop (i+1):=by simp [zay4,h1]
   rw [hd,fstD]at hR
   refine zav6 (he i h1 h2 prog w _ _ ?_)
   cases hy:e i with
   |true =>
    rw [hy]at hR
    wp_walk
    exact⟨rfl,rfl,i+1,hrest,by simpa using hR⟩
   |false =>
    rw [hy]at hR
    simp only [Bool.not_false,if_true]
    refine zav6 (wpAny_rule (zav6 (hcc i h1 h2 hy prog w _ _ ?_)))
    wp_walk
    exact⟨_,rfl,by simpa using hR⟩
  case fin =>
   rintro ⟨b1,b2⟩ s' ⟨hb',rfl,i,hz,hR⟩
   simp only at hb'
   subst hb'
   have hge:items.size≤i:=by
    rcases zbk1 i (items.toList.zip items2.toList).length with h' |h'
    ·rw [zay4 h']at hz;cases hz
    ·exact hZ ▸ h'
   rw [zbd0 (by simpa using hge)]at hR
   wp_walk
   exact⟨_,rfl,by simpa [Builtin.Tuple.tupleCompareSizes,hsz,fstD] using hR⟩
  case h =>
   exact⟨rfl,rfl,0,rfl,by simpa using h⟩
theorem OpAt.tuples_gt {A:Around}{s:zaw4}{l b:Addr}{items items2:Array Value}{e c:Nat→Bool} (hl:s.heap.IsTuple l items) (hb:s.heap.IsTuple b items2) (hu:A.units<cLine) (hsz:items.size=items2.size)
  (he:∀j (h1:j<items.size) (h2:j<items2.size),EqAt A.in1 s items[j] items2[j] (e j)) (hc:∀j (h1:j<items.size) (h2:j<items2.size),e j=false→OpAt .Gt A.in1 s items[j] items2[j] (c j)) :
  OpAt .Gt A s (.ref l) (.ref b) (fstD e c (zaz7 items.size)):=fun prog w E Q h=>by
 obtain⟨⟨cls,dd,data,sl⟩,ho,hc1,n,hd⟩:=id hl
 obtain⟨⟨cls2,dd2,data2,sl2⟩,ho2,hc2,n2,hd2⟩:=id hb
 simp only at hc1 hd hc2 hd2
 subst hc1 hd hc2 hd2
 exact richCompare_meets_room (op:=.Gt) ⟨_,ho,rfl⟩ ⟨_,ho2,rfl⟩ F.slot_tuple_gt F.entry_tuple_gt (F.args_tuple_gt_2 _ _) (zai0 l b items items2 n n2 dd dd2 sl sl2 e c)
  ⟨ho,ho2,he,hc,hsz,show Value.bool _≠Value.notImplemented∧Q (.bool (fstD e c (zaz7 items.size))) s from ⟨(fun x=>nomatch x),h⟩⟩ hu
end PySem.SeqAt
namespace L2
open PySem.Spec
section
variable {X:Cx}{pins:List (Addr×Obj)}{σ:L2.St}{H:Hp}{s:zaw4}{h':Heap}
theorem Inv.tabs (I:Inv X pins σ H s) {p:Addr×Str} (hp:p∈X.base.tabs):H p.1=some (.tbl p.2):=I.base.tbls _ _ (I.ok.tabs p hp)
theorem Inv.coded {t':Nat}{P c f:Addr}{q:Str}{oc fo:Obj} (I:Inv X pins σ H s) (hP:H P=some (.tbl q)) (hx:∀b o,b≠P→s.heap.get? b=some o→h'.get? b=some o)
  (hc:h'.get? c=some oc) (hf:h'.get? f=some fo) (nc:H c=none∨H c=some (.frz oc (.own 0))) (lc:H c=none→s.heap.objs.size≤c) (lf:s.heap.objs.size≤f) (hcf:c≠f)
  (new:ObjOk X.prog X.w (upd (upd H c (.frz oc (.own 0))) f (.frz fo (.own 0))) h' P (.tbl q)) :
  Inv X pins σ (upd (upd H c (.frz oc (.own 0))) f (.frz fo (.own 0))) { s with heap:=h',toks:=t' }:=by
 have hfn:H f=none:=I.hok.fresh lf
 have sm:∀b u,H b=some u→upd (upd H c (.frz oc (.own 0))) f (.frz fo (.own 0)) b=some u:=fun b u e=>by
  have nf:b≠f:=fun z=>by rw [z,hfn]at e;cases e
  rw [za3 nf]
  by_cases z:b=c
  ·subst z
   rcases nc with n | n
   ·rw [n]at e;cases e
   ·rw [n]at e;cases e;rw [za4]
  ·rw [za3 z];exact e
 have nP:∀b,H b=none→b≠P:=fun b n z=>by rw [z,hP]at n;cases n
 have none':∀b o,s.heap.get? b=some o→H b=none→upd (upd H c (.frz oc (.own 0))) f (.frz fo (.own 0)) b=none:=fun b o e n=>by
  have nf:b≠f:=fun z=>zba2 _ (zax3 (zaw9 (z ▸ e)) lf)
  have ncb:b≠c:=fun z=>by
   rcases nc with w | w
   ·exact zba2 _ (zax3 (zaw9 (z ▸ e)) (lc w))
   ·rw [← z,n]at w;cases w
  rw [za3 nf,za3 ncb];exact n
 have hPs:∃o',h'.get? P=some o':=by obtain⟨ps,e,_⟩:=new;exact⟨_,e⟩
 refine I.step (g':=s.gens) (d':=s.drawn) (ch:=[]) (fun _ z=>nomatch z) (fun b o _ _ _ e n=>hx b o (nP b n) e) (fun b o _ _ _ e n=>⟨o.slots,hx b o (nP b n) e⟩) (fun b o _ e n=>none' b o e n)
  (fun b o _ e=>?_) (fun b xs e=>sm b _ e) (fun b o u e=>sm b _ e) (fun b q e=>sm b _ e) (fun m hm=>?_) (fun b u e=>?_) I.bare
 ·by_cases z:b=P
  ·subst z;exact hPs
  ·exact⟨o,hx b o z e⟩
 ·obtain⟨o,es,ep,ho,r⟩:=hm
  exact⟨o,es,ep,hx _ o (nP _ I.free) ho,r⟩
 ·by_cases zf:b=f
  ·subst zf;rw [za4]at e;cases e;exact⟨hf,fo,hf⟩
  ·by_cases zc:b=c
   ·subst zc
    rw [za3 hcf,za4]at e;cases e;exact⟨hc,oc,hc⟩
   ·rw [za3 zf,za3 zc]at e
    by_cases zP:b=P
    ·subst zP
     rw [hP]at e;cases e;exact new
    ·refine (I.hok b u e).stay (fun c' v hc' w=>hx c' v ?_ w) (fun c' w=>sm c' _ w) (fun c' xs w=>sm c' _ w) fun c' o u' w=>sm c' _ w
     rcases hc' with w | w
     ·rw [w];exact zP
     ·exact fun z=>by rw [z,hP]at w;cases w
end
noncomputable abbrev lamE (X:Cx) (qual:Str) (scope:Scope) (L f:Addr) (cd:Value):Env:=PySem.W.envX qual scope L f cd (clOf X.env.cells scope.names [])
noncomputable abbrev lamX (X:Cx) (N':List Str) (qual:Str) (scope:Scope) (A':Around) (L f:Addr) (cd:Value) (s₃:zaw4) (H₃:Hp):Cx :=
 { X with N:=N',s₀:=s₃,H₀:=H₃,A:=A'.deeper (lamE X qual scope L f cd),env:=lamE X qual scope L f cd,outer:=X.stack,stack:=lamE X qual scope L f cd::X.stack,ex:=[],fn:=(fun _=>false),calm:=true,pn:=[],xe:=(fun _ _=>False) }
section
variable {X:Cx}{pins:List (Addr×Obj)}{σ:L2.St}{H:Hp}{s:zaw4}{scope:Scope}{N':List Str}{qual:Str}{A':Around}{f:Addr}{cd:Value}
theorem lam_ok (I:Inv X pins σ H s) (S:CompSc X scope) (S0:∀y∈scope.names,y.2≠.cell) (hA:A'.handled=none) (hfr:A'.frames=X.A.frames):(lamX X N' qual scope A' s.heap.objs.size f cd s H).Ok where
 mod:=I.ok.mod
 kind:=S.kind
 glob:=rfl
 blt:=rfl
 above:=zaw7 _
 inj:=fun x y c h1 h2=>I.ok.inj x y c (S.cells I.ok h1) (S.cells I.ok h2)
 has:=fun x hx=>by
  have hx:scope.names.lookup x=some .cell∨scope.names.lookup x=some .free:=hx
  rcases hx with hx | hx
  ·exact absurd rfl (S0 _ (PySem.mem_of_lookup hx))
  ·exact zi8 (PySem.mem_of_lookup hx)
 cab:=fun x c h _=>by cases h
 hd:=fun _=>hA
 frames:=Around.frames_deeper (by rw [hfr];exact I.ok.frames)
 stk:=.inr ⟨rfl,rfl⟩
 exf:=fun b hb=>absurd (show b∈([]:List Addr) from hb) (by simp)
 bs:=fun b o e=>I.bs b o e
 bsz:=zaz5 I.ok.bsz I.sz
 noex:=fun b o e hb=>absurd (show b∈([]:List Addr) from hb) (by simp)
 exfs:=fun b hb=>absurd (show b∈([]:List Addr) from hb) (by simp)
 funs:=I.stack
 frf:=I.stkFree
 tabs:=fun p hp=>I.tabs hp
theorem lam_inv (I:Inv X pins σ H s) (S:CompSc X scope) (S0:∀y∈scope.names,y.2≠.cell) (hA:A'.handled=none) (hfr:A'.frames=X.A.frames) {h1:Heap}{t1:Nat}{x0:Str}{u0:Value}{v0:V}{cs:L2.St}
  (hns:h1.Ns s.heap.objs.size (fun x=>[(x0,u0)].reverse.lookup x)) (hk:∀b o,s.heap.get? b=some o→h1.get? b=some o) (r0:RelV v0 u0) (h0:N'[0]?=some x0) (hx0:scope.names.lookup x0=some .local) (hl:cs.length+1=N'.length)
  (cap:∀(i:Nat) (x:Str) (v:V),N'[i+1]?=some x→cs[i]?=some (some v)→(x,NameKind.free)∈scope.names∧∃j:Nat,X.N[j]?=some x∧σ[j]?=some (some v)) :
  Inv (lamX X N' qual scope A' s.heap.objs.size f cd s H) [] (some v0::cs) H { s with heap:=h1,toks:=t1 } where
 ok:=lam_ok I S S0 hA hfr
 os:=rfl
 bare:=I.bare
 base:=Un.kept hk
 loc:=⟨_,hns,fun i x v e1 e2 vs=>by
  cases i with
  |zero =>
   rw [show (lamX X N' qual scope A' s.heap.objs.size f cd s H).N=N' from rfl,h0]at e1
   cases e1
   cases e2
   exact⟨u0,r0,.inl ⟨hx0,by simp⟩⟩
  |succ i =>
   obtain⟨hfree,j,j1,j2⟩:=cap i x v e1 e2
   obtain⟨m0,hn0,hl0⟩:=I.loc
   have vis:Vis X.env.scope x:=by
    rcases S.free _ hfree rfl with z | z
    ·exact .inr (.inl z)
    ·exact .inr (.inr z)
   obtain⟨u,r,l⟩:=hl0 j x v j1 j2 vis
   refine⟨u,r,?_⟩
   rcases l with ⟨k,_⟩ | ⟨k,c,e,z⟩
   ·exfalso
    rcases S.free _ hfree rfl with q | q
    ·rw [k]at q;cases q
    ·rw [k]at q;cases q
   ·obtain⟨c',hc'⟩:=zi8 (cells:=X.env.cells) (acc:=[]) hfree
    have e':=S.cells I.ok hc'
    rw [e]at e';cases e'
    refine .inr ⟨.inr (S.names _ hfree),c,hc',?_⟩
    obtain⟨o,ho,hd⟩:=z
    exact⟨o,hk _ _ ho,hd⟩⟩
 cell:=fun x c h=>by
  obtain⟨v,o,ho,hd⟩:=I.cell x c (S.cells I.ok h)
  exact⟨v,o,hk _ _ ho,hd⟩
 free:=I.hok.fresh (zaw7 _)
 freeC:=fun x c h=>I.freeC x c (S.cells I.ok h)
 pin:=fun p hp=>absurd (show p∈([]:List (Addr×Obj)) from hp) (by simp)
 hok:=I.hok.kept hk
 len:=by simpa using hl
theorem lam_run {Q:VK}{params:Arguments}{body:Expr}{pm ctv:Value}{c:Addr}{oc:Obj}{vsc:Array Value}{tq:Tok}{te:TE}{x0:Str}{u0:Value}{v0:V}{cap:List Nat}{E:Value→zaw4→Prop}
  (I:Inv X pins σ H s) (S:CompSc X scope) (S0:∀y∈scope.names,y.2≠.cell) (hA:A'.handled=none) (hfr:A'.frames=X.A.frames) (hdp:A'.depth<recursionLimit)
  (hf:H f=some (.frz (zbd8 "<lambda>" qual params body scope (clOf X.env.cells scope.names []) pm c ctv) (.own 0))) (hc:H c=some (.frz oc (.own 0))) (hod:oc.data=.fields vsc) (hq:vsc[1]?=some (.str qual tq))
  (hco:scope.isCoroutine=false) (hgen:scope.isGenerator=false)
  (hbind:bindArgs (zbk5 "<lambda>" qual params body scope (clOf X.env.cells scope.names []) pm (.ref c) ctv) ⟨[u0],[]⟩=pure [(x0,u0)])
  (r0:RelV v0 u0) (h0:N'[0]?=some x0) (hx0:scope.names.lookup x0=some .local) (hl:N'.length=1+cap.length)
  (hcap:∀(k:Nat) (j:Nat),cap[k]?=some j→∃x,N'[1+k]?=some x∧X.N[j]?=some x∧(x,NameKind.free)∈scope.names)
  (he:∀L s₃ H₃,PE (lamX X N' qual scope A' L f (.ref c) s₃ H₃) body te)
  (h:te (some v0::cap.map fun j=>(σ[j]?).getD none) H Q) :
  wpAny (model X.prog X.w) A' (call (.ref f) [u0]) (EP X pins σ Q) E s:=by
 obtain⟨gf,_⟩:=I.hok f _ hf
 obtain⟨gc,_⟩:=I.hok c _ hc
 refine wpAny_call (PySem.W.kla_callFunE hdp gf rfl hco hgen rfl ⟨c,oc,vsc,tq,rfl,gc,hod,hq⟩ ?_)
 rw [hbind]
 refine zaw3 (wpAny_newFunctionEnv S0 (fun y hy=>?_) (fun h₁ hns hsb=>⟨I.nolimit.fresh _ hsb,?_⟩) S.kind)
 ·have:y=(x0,u0):=by simpa using hy
  rw [this];exact hx0
 ·have hk:∀b o,s.heap.get? b=some o→h₁.get? b=some o:=fun b o e=>hsb.extBut b o (zay3 (zaw9 e)) (zav7 _ e)
  have J:=lam_inv (N':=N') (qual:=qual) (f:=f) (cd:=.ref c) (t1:=s.toks + [(x0,u0)].length) (cs:=cap.map fun j=>(σ[j]?).getD none) I S S0 hA hfr hns hk r0 h0 hx0 (by simp [hl];lia) (fun i x v e1 e2=>by
   rw [zba3]at e2
   cases ej:cap[i]? with
   |none=>rw [ej]at e2;cases e2
   |some j =>
    rw [ej]at e2
    obtain⟨x',a1,a2,a3⟩:=hcap i j ej
    rw [Nat.add_comm 1 i,e1]at a1
    cases a1
    refine⟨a3,j,a2,?_⟩
    have e2:(σ[j]?).getD none=some v:=by simpa using e2
    cases q:σ[j]? with
    |none=>rw [q]at e2;cases e2
    |some z=>rw [q]at e2;have:z=some v:=e2;rw [this])
  refine PySem.W.kla_codeExpr (wpAny_mono (he _ _ _ [] _ _ H Q J h) (fun v s' hs=>?_) fun e s' hF=>False.elim hF)
  obtain⟨v',H',K,rv,q⟩:=hs
  exact I.after ⟨v',H',K.os,K.bare,K.base,K.hok,rv,q⟩
theorem lam_make {E:Value→zaw4→Prop}{Q:Value→zaw4→Prop}{params:Arguments}{body:Expr}{pos:Pos}{c P:Addr}{q:Str}
  (I:Inv X pins σ H s) (S:CompSc X scope) (hcode:X.env.code=.ref c) (C:zbe8 X.base c P) (hP:(P,q)∈X.base.tabs) (hq:X.env.qual++"<lambda>"=q) (hdef:defaultsOf params X.env=([],[]))
  (h:∀f c' oc vs tk pm ctv s',Inv X pins σ (upd (upd H c' (.frz oc (.own 0))) f (.frz (zbd8 "<lambda>" q params body scope (clOf X.env.cells scope.names []) pm c' ctv) (.own 0))) s' →
   (H c'=none∨H c'=some (.frz oc (.own 0)))→H f=none→c'≠f→oc.data=.fields vs→vs[1]?=some (.str q tk)→Q (.ref f) s') :
  wpAny (model X.prog X.w) X.A (eval (.Lambda params body scope pos) X.env) Q E s:=by
 have hPt:=I.tabs hP
 obtain⟨ps,gP,tr,cod⟩:=I.hok P _ hPt
 have Ck:=C.keeps I.bk
 have hns:s.heap.Ns mainGlobals X.mg:=I.mod.glob.keeps I.bk
 obtain⟨bm,ob,b1,b2,b3,b4,b5,b6⟩:=I.mod.bm
 have hgP:mainGlobals≠P:=fun z=>by
  obtain⟨o,es,ep,e,hd,_⟩:=hns
  rw [z,gP]at e;cases e;cases hd
 have hbP:bm≠P:=fun z=>by
  have e:=I.bk _ _ b3
  rw [z,gP]at e;cases e;cases b4
 have hbG:bm≠mainGlobals:=fun z=>by
  obtain⟨o,es,ep,e,hd,_⟩:=I.mod.glob
  rw [z,e]at b3;cases b3;rw [hd]at b6;cases b6
 subst hq
 refine PySem.W.kla_eval hdef ?_
 cases hf:codeAmong pos ps.toList with
 |none =>
  refine PySem.W.kla_makeFunction (mg:=X.mg) (zl9 (S.frees I.ok)) I.ok.glob hns hcode Ck gP tr hf hgP ⟨bm,ob,b1,b2,hbG,hbP,I.bk _ _ b3,b4,b5,b6⟩ fun c' ctv h' tk hx hge hlt hrec htb=>?_
  obtain⟨c₂,oc,vs,t,e2,hoc,hd,hv⟩:=hrec
  cases e2
  have nc:H c'=none:=I.hok.fresh hge
  have lf:s.heap.objs.size≤h'.objs.size:=zbf1 (zbf3 hge hlt)
  have nf:H h'.objs.size=none:=I.hok.fresh lf
  refine h h'.objs.size c' oc vs t _ ctv _ (I.coded hPt (fun b o n e=>zav7 _ (hx b o n e)) (zav7 _ hoc) (zax2 _ rfl) (.inl nc) (fun _=>hge) lf (zay3 hlt) ?_) (.inl nc) nf (zay3 hlt) hd hv
  refine⟨_,zav7 _ htb,?_,fun pos' cv e=>?_⟩
  ·rw [zbk6]
   exact TriplesOk_snoc _ _ _ _ tr
  ·have key:∀l:List Value,TriplesOk l→codeAmong pos' (l++[rawInt pos.line,rawInt pos.col,.ref c'])=some cv→codeAmong pos' l=some cv∨cv=.ref c':=by
    intro l
    fun_induction TriplesOk l with
    |case1 =>
     intro _ e
     simp only [zbd5,codeAmong,rawInt]at e
     split at e
     ·cases e;exact .inr rfl
     ·cases e
    |case2 a t b u x rest ih =>
     intro hr e
     simp only [zbg4,codeAmong]at e ⊢
     split at e
     ·rename_i w;rw [if_pos w];exact .inl e
     ·rename_i w;rw [if_neg w];exact ih hr e
    |case3 l h1 h2=>intro h;exact h.elim
   rw [zbk6]at e
   have sm:∀b u,H b=some u→upd (upd H c' (.frz oc (.own 0))) h'.objs.size (.frz (zbd8 "<lambda>" (X.env.qual++"<lambda>") params body scope (clOf X.env.cells scope.names []) ((X.mg "__name__").getD .none) c' ctv) (.own 0)) b=some u:=fun b u e=>by
    rw [za3 (fun z=>by rw [z,nf]at e;cases e),za3 (fun z=>by rw [z,nc]at e;cases e)];exact e
   rcases key _ tr e with w | w
   ·obtain⟨c3,oc3,vs3,t3,a1,a2,a3⟩:=cod pos' cv w
    exact⟨c3,oc3,vs3,t3,a1,sm _ _ a2,a3⟩
   ·exact⟨c',oc,vs,t,w,by rw [za3 (zay3 hlt),za4],hd,hv⟩
 |some cv =>
  obtain⟨c',oc,vs,t,rfl,hcH,hd,hv⟩:=cod pos cv hf
  refine PySem.W.kla_makeFunctionHit (mg:=X.mg) (zl9 (S.frees I.ok)) I.ok.glob hns hcode Ck gP tr hf ⟨bm,ob,b1,b2,hbG,hbP,I.bk _ _ b3,b4,b5,b6⟩ fun ctv h' tk hk hsz=>?_
  have lf:s.heap.objs.size≤h'.objs.size:=hsz
  have nf:H h'.objs.size=none:=I.hok.fresh lf
  obtain⟨gc,_⟩:=I.hok c' _ hcH
  have ne:c'≠h'.objs.size:=fun z=>by rw [z,nf]at hcH;cases hcH
  have sm:∀b u,H b=some u→upd (upd H c' (.frz oc (.own 0))) h'.objs.size (.frz (zbd8 "<lambda>" (X.env.qual++"<lambda>") params body scope (clOf X.env.cells scope.names []) ((X.mg "__name__").getD .none) c' ctv) (.own 0)) b=some u:=fun b u e=>by
   rw [za3 (fun z=>by rw [z,nf]at e;cases e)]
   by_cases z:b=c'
   ·subst z;rw [hcH]at e;cases e;rw [za4]
   ·rw [za3 z];exact e
  refine h h'.objs.size c' oc vs t _ ctv _ (I.coded hPt (fun b o n e=>zav7 _ (hk b o e)) (zav7 _ (hk _ _ gc)) (zax2 _ rfl) (.inr hcH) (fun n=>by rw [hcH]at n;cases n) lf ne ?_) (.inr hcH) nf ne hd hv
  refine⟨ps,zav7 _ (hk _ _ gP),tr,fun pos' cv e=>?_⟩
  obtain⟨c3,oc3,vs3,t3,a1,a2,a3⟩:=cod pos' cv e
  exact⟨c3,oc3,vs3,t3,a1,sm _ _ a2,a3⟩
end
end L2
namespace L2
open PySem.Spec
noncomputable def CmpR (X:Cx) (op:CmpOp) (p:V→V→Hp→Bool→Prop):Prop :=
 ∀(pins:List (Addr×Obj)) (s:zaw4) (σ:L2.St) (H:Hp) (y z:V) (u u':Value) (c:Bool) (Q:Value→zaw4→Prop) (E:Value→zaw4→Prop),Inv X pins σ H s→RelV y u→RelV z u'→p y z H c →
  (∀s',Inv X pins σ H s'→(∀b o,s.heap.get? b=some o→s'.heap.get? b=some o)→Q (.bool c) s')→wpAny (model X.prog X.w) X.A.in1 (richCompare op u u') Q E s
theorem Vals.two2 {a b:V}{us:List Value} (h:Vals [a,b] us):∃u v,us=[u,v]∧RelV a u∧RelV b v:=by
 cases h with
 |cons r t=>cases t with
  |cons r' t'=>cases t';exact⟨_,_,rfl,r,r'⟩
section
variable {X:Cx}{σ:L2.St}{l f S it:Addr}{xs:List V}{KT:V→Hp→VK→Prop}{p:V→V→Hp→Bool→Prop}{W:Nat→V→V→Hp→Prop}{Q:VK}{pins:List (Addr×Obj)}
theorem kl_min (hcm:X.calm=true) (hcmp:CmpR X .Lt p)
  (turn:∀(x:V) (H1:Hp) (s1:zaw4) (pins1:List (Addr×Obj)) (Q1:VK) (u:Value),Inv X pins1 σ H1 s1→RelV x u→KT x H1 Q1→wpAny (model X.prog X.w) X.A.in1 (call (.ref f) [u]) (EP X pins1 σ Q1) (fun _ _=>False) s1)
  (hW:∀j b k H1,W j b k H1→SqL X.K H1 l xs∧H1 S=some (.lst [b,k]))
  (stp:∀j b k H1 x,W j b k H1→xs[j]?=some x→KT x H1 fun k' H2 => ∃c,p k' k H2 c∧H2 S=some (.lst [b,k])∧(c=true→W (j+1) x k' (upd H2 S (.lst [x,k'])))∧(c=false→W (j+1) b k H2))
  (fin:∀b k H1,W xs.length b k H1→Q b (upd H1 S (.lst []))) (hli:l≠it) :
  ∀(m j:Nat) (b k:V) (H:Hp) (s:zaw4),xs.length - j=m→j≤xs.length→W j b k H→Inv X pins σ H s→s.heap.IsListIter it l j→FpOk X pins H it →
   codeAny (model X.prog X.w) X.A (.builtin "min.loop" ⟨[.ref it,.ref f,.ref S],[]⟩) (fun r s'=>match r with | .ok (.ret u)=>EP X pins σ Q u s' | .ok _=>False | .error _=>False) s:=by
 have hname:(toString "min"++toString ".loop":String) = "min.loop":=by decide
 intro m
 induction m with
 |zero =>
  intro j b k H s hm hj w I hit fpo
  have hin:j=xs.length:=by lia
  obtain⟨hl,hS⟩:=hW j b k H w
  obtain⟨its,rv,pl,_⟩:=I.list hl
  have hsz:its.toArray.size=xs.length:=by simp [rv.length]
  have hSI:S≠it:=fun z=>by rw [z,fpo.1]at hS;cases hS
  obtain⟨_,bk,nS,rS,gS⟩:=I.hok S _ hS
  obtain⟨ub,uk,rfl,rb,rk⟩:=rS.two2
  have Wk:=Walks.list (prog:=X.prog) (w:=X.w) (A:=X.A.in1) (I.ok.hd hcm) it l hli its.toArray
  refine codeAny_builtin zbf7 ?_
  rw [Around.under_plainId zaz8 _]
  show wpAny _ X.A.in1 (seqItems? (.ref S) >>= _) _ _ _
  refine zav6 (wpAny_seqItems gS rfl ?_)
  show wpAny _ X.A.in1 (tryCatch (pyNext (.ref it)) _ >>= _) _ _ _
  refine zav6 (wpAny_tryCatch (Wk.done _ _ _ ⟨by rw [hsz, ← hin];exact hit,DL.PlainL.isL pl⟩ fun h' tk' hk'=>?_))
  have I1:=I.turned (t':=tk') (fun c o n e=>hk' c o (by simpa using n) e) fpo.1 fpo.2.1 fpo.2.2.2.1 fpo.2.2.2.2.1 fpo.2.2.2.2.2
  have gS1:=hk' S _ (by simpa using hSI) gS
  show wpAny _ X.A.in1 (updateSeq S (fun _ => #[]) >>= _) _ _ _
  refine zav6 (wpAny_updateSeq gS1 rfl (zav6 (wpAny_letGo (zaw3 ?_))))
  have g2:=get?_update_seq gS1 (fun _=>(#[]:Array Value))
  refine⟨b,_,I1.write (t':=tk') (o:=.lst []) (by rw [hS];trivial) (.inl rfl) (fun c o n e=>(zaz1 _ _ (Ne.symm n)).trans e) ⟨_,g2⟩ ⟨by simp,[],_,.nil,g2⟩,rb,?_⟩
  subst hin
  exact fin b k H w
 |succ m ih =>
  intro j b k H s hm hj w I hit fpo
  have hlt:j<xs.length:=by lia
  obtain⟨hl,hS⟩:=hW j b k H w
  obtain⟨its,rv,pl,_⟩:=I.list hl
  have hsz:its.toArray.size=xs.length:=by simp [rv.length]
  have hSI:S≠it:=fun z=>by rw [z,fpo.1]at hS;cases hS
  obtain⟨_,bk,nS,rS,gS⟩:=I.hok S _ hS
  obtain⟨ub,uk,rfl,rb,rk⟩:=rS.two2
  have Wk:=Walks.list (prog:=X.prog) (w:=X.w) (A:=X.A.in1) (I.ok.hd hcm) it l hli its.toArray
  refine codeAny_builtin zbf7 ?_
  rw [Around.under_plainId zaz8 _]
  show wpAny _ X.A.in1 (seqItems? (.ref S) >>= _) _ _ _
  refine zav6 (wpAny_seqItems gS rfl ?_)
  show wpAny _ X.A.in1 (tryCatch (pyNext (.ref it)) _ >>= _) _ _ _
  refine zav6 (wpAny_tryCatch (Wk.item j _ _ _ (by rw [hsz];exact hlt) ⟨hit,DL.PlainL.isL pl⟩ fun v h' tk' hP hst' hk'=>?_))
  have hv:its[j]?=some v:=by simpa using hP
  have hx:xs[j]?=some (xs[j]'hlt):=zaw2 hlt
  obtain⟨v',e',rx⟩:=rv.get hx
  rw [hv]at e'
  cases e'
  generalize xs[j]'hlt=x at hx rx
  have I1:=I.turned (t':=tk') (fun c o n e=>hk' c o (by simpa using n) e) fpo.1 fpo.2.1 fpo.2.2.2.1 fpo.2.2.2.2.1 fpo.2.2.2.2.2
  obtain⟨oI,hoI,hoc,hod⟩:=id hst'.1
  have I2:=I1.pinned (fp:=[it]) (fun c hc=>by rw [zaw8.mp hc];exact fpo) (fun c hc=>by rw [zaw8.mp hc];exact⟨oI,hoI,fun z e=>by rw [hod]at e;cases e⟩)
  show wpAny _ X.A.in1 (tryCatch (holding [v] (call (.ref f) [v])) _ >>= _) _ _ _
  refine zav6 (wpAny_tryCatch (wpAny_holding (wpAny_mono (turn x H _ _ _ v I2 rx (stp j b k H x w hx)) (fun y s3 hs3=>?_) fun _ _ hF=>hF.elim)))
  obtain⟨k',H2,I3,rk',c,hc,hS2,w1,w0⟩:=hs3
  have pn:=I3.pin (it,oI) (zav5 _ (zav5 _ (ze4 (by simp) hoI)))
  obtain⟨_,bk2,nS2,rS2,gS2⟩:=I3.hok S _ hS2
  obtain⟨ub2,uk2,rfl,rb2,rk2⟩:=rS2.two2
  show wpAny _ X.A.in1 (tryCatch (holding [v,y] (richCompare .Lt y uk >>= _)) _ >>= _) _ _ _
  refine zav6 (wpAny_tryCatch (wpAny_holding (zav6 (hcmp _ _ _ _ _ _ _ _ _ _ _ I3 rk' rk hc fun s4 I4 g4=>?_))))
  refine zav6 (wpAny_holding (wpAny_truthy_bool ?_))
  refine zav6 (wpAny_letGo (zaw3 ?_))
  have I5:=I4.unpinned
  have pn4:=I4.pin (it,oI) (zav5 _ (zav5 _ (ze4 (by simp) hoI)))
  have fp5:FpOk X pins H2 it:=⟨pn4.2.1,fpo.2⟩
  have gS4:=g4 _ _ gS2
  cases c with
  |true =>
   simp only [if_true]
   refine zav6 (wpAny_updateSeq gS4 rfl (zav6 (wpAny_letGo ?_)))
   rw [hname]
   have g5:=get?_update_seq gS4 (fun _ => #[v,y])
   have I6:=I5.write (t':=s4.toks) (o:=.lst [x,k']) (by rw [hS2];trivial) (.inl rfl) (fun c o n e=>(zaz1 _ _ (Ne.symm n)).trans e) ⟨_,g5⟩ ⟨by simp [sizeLine],[v,y],_,.cons rx (.cons rk' .nil),g5⟩
   refine zaw3 ⟨plainId_quiet zaz8 _,ih (j+1) x k' _ _ (by lia) hlt (w1 rfl) I6 ⟨oI,(zaz1 _ _ hSI).trans pn4.1,hoc,hod⟩ ⟨by rw [za3 (Ne.symm hSI)];exact fp5.1,fpo.2⟩⟩
  |false =>
   simp only [zaz3,if_false]
   refine zav6 (wpAny_letGo ?_)
   rw [hname]
   exact zaw3 ⟨plainId_quiet zaz8 _,ih (j+1) b k H2 _ (by lia) hlt (w0 rfl) I5 ⟨oI,pn4.1,hoc,hod⟩ fp5⟩
theorem ka_min (a v:Value):argsOk "min" ⟨[a],[(Str.ofString "key",v)]⟩:=by unfold argsOk;kernel_rfl
theorem kc_min {H:Hp}{s:zaw4}{E:Value→zaw4→Prop} (hcm:X.calm=true) (hcmp:CmpR X .Lt p)
  (turn:∀(x:V) (H1:Hp) (s1:zaw4) (pins1:List (Addr×Obj)) (Q1:VK) (u:Value),Inv X pins1 σ H1 s1→RelV x u→KT x H1 Q1→wpAny (model X.prog X.w) X.A.in1 (call (.ref f) [u]) (EP X pins1 σ Q1) (fun _ _=>False) s1)
  (I:Inv X pins σ H s) (hl:SqL X.K H l xs) (hx:xs[0]?=some x0)
  (h:∀S,H S=none→∃W:Nat→V→V→Hp→Prop,(∀j b k H1,W j b k H1→SqL X.K H1 l xs∧H1 S=some (.lst [b,k])) ∧
   (KT x0 (upd H S (.lst [])) fun k H2=>H2 S=some (.lst [])∧W 1 x0 k (upd H2 S (.lst [x0,k]))) ∧
   (∀j b k H1 x,W j b k H1→xs[j]?=some x→KT x H1 fun k' H2 => ∃c,p k' k H2 c∧H2 S=some (.lst [b,k])∧(c=true→W (j+1) x k' (upd H2 S (.lst [x,k'])))∧(c=false→W (j+1) b k H2)) ∧
   (∀b k H1,W xs.length b k H1→Q b (upd H1 S (.lst [])))) :
  wpAny (model X.prog X.w) X.A (call (.builtin "min") [.ref l] [(Str.ofString "key",.ref f)]) (EP X pins σ Q) E s:=by
 have hname:(toString "min"++toString ".loop":String) = "min.loop":=by decide
 obtain⟨its,rv,pl,_⟩:=I.list hl
 have hls:=DL.PlainL.isL pl
 obtain⟨ol,hol,_⟩:=id hls
 have hll:l<s.heap.objs.size:=zaw9 hol
 have hlen:0<xs.length:=(zba6.mp hx).1
 refine kmk_tree PySem.F.kind_min PySem.F.plain_min PySem.F.entry_min (ka_min _ _) ?_
 show wpAny _ X.A.in1 (Builtin.Builtins.bindParams "min" ["key", "default"] 0 ⟨[],[(Str.ofString "key",.ref f)]⟩ >>= _) _ _ s
 refine zav6 (wpAny_of_eq (show Builtin.Builtins.bindParams "min" ["key", "default"] 0 ⟨[],[(Str.ofString "key",.ref f)]⟩=pure [some (.ref f),none] from rfl) ?_)
 refine zav6 (zaw3 ?_)
 refine zav6 (wpAny_pyIter_list hls ?_)
 refine zav6 (wpAny_newList ?_ (zba1 _))
 rw [hname]
 refine zaw3 ⟨plainId_quiet zaz8 _,?_⟩
 have I1:Inv X pins σ H { s with heap:=s.heap.push { cls:=.type "list_iterator",data:=.fields #[.ref l,.int 0 0] },toks:=s.toks }:=I.kept (fun _ _ e=>zav7 _ e)
 have I2:=I1.lnew (its:=[]) (t':=s.toks) .nil (by simp)
 have hS:(s.heap.push { cls:=.type "list_iterator",data:=.fields #[.ref l,.int 0 0] }).objs.size=s.heap.objs.size+1:=zbe6 ..
 generalize hSS:(s.heap.push { cls:=.type "list_iterator",data:=.fields #[.ref l,.int 0 0] }).objs.size=S at hS I2 ⊢
 have nS:H S=none:=I.hok.fresh (by lia)
 obtain⟨W,hW,k0,stp,fin⟩:=h S nS
 have nit:H s.heap.objs.size=none:=I.fresh
 have hSI:S≠s.heap.objs.size:=by lia
 have fpo0:FpOk X pins H s.heap.objs.size:=I.fpOk (zaw7 _) nit
 have fpo:FpOk X pins (upd H S (.lst [])) s.heap.objs.size:=⟨by rw [za3 (Ne.symm hSI)];exact nit,fpo0.2⟩
 have hl1:SqL X.K (upd H S (.lst [])) l xs:=by
  refine (show Same H (upd H S (.lst [])) from fun b o e=>?_).seq hl
  rw [za3 (fun z=>by rw [z,nS]at e;cases e)];exact e
 have hli:l≠s.heap.objs.size:=zay3 hll
 obtain⟨its1,rv1,pl1,_⟩:=I2.list hl1
 have hsz:its1.toArray.size=xs.length:=by simp [rv1.length]
 have gI:((s.heap.push { cls:=.type "list_iterator",data:=.fields #[.ref l,.int 0 0] }).push { cls:=.type "list",data:=.seq ([]:List Value).toArray }).get? s.heap.objs.size=some { cls:=.type "list_iterator",data:=.fields #[.ref l,.int 0 0] } :=
  zav7 _ (zax2 _ rfl)
 have gS:((s.heap.push { cls:=.type "list_iterator",data:=.fields #[.ref l,.int 0 0] }).push { cls:=.type "list",data:=.seq ([]:List Value).toArray }).get? S=some (seqObj "list" #[] 0):=hSS ▸ zax2 _ rfl
 have Wk:=Walks.list (prog:=X.prog) (w:=X.w) (A:=X.A.in1) (I.ok.hd hcm) s.heap.objs.size l hli its1.toArray
 refine codeAny_builtin zbf7 ?_
 rw [Around.under_plainId zaz8 _]
 show wpAny _ X.A.in1 (seqItems? (.ref S) >>= _) _ _ _
 refine zav6 (wpAny_seqItems gS rfl ?_)
 show wpAny _ X.A.in1 (tryCatch (pyNext (.ref s.heap.objs.size)) _ >>= _) _ _ _
 refine zav6 (wpAny_tryCatch (Wk.item 0 _ _ _ (by rw [hsz];exact hlen) ⟨⟨_,gI,rfl,rfl⟩,DL.PlainL.isL pl1⟩ fun v h' tk' hP hst' hk'=>?_))
 have hv:its1[0]?=some v:=by simpa using hP
 obtain⟨v',e',rx⟩:=rv1.get hx
 rw [hv]at e'
 cases e'
 have I3:=I2.turned (t':=tk') (fun c o n e=>hk' c o (by simpa using n) e) fpo.1 fpo.2.1 fpo.2.2.2.1 fpo.2.2.2.2.1 fpo.2.2.2.2.2
 obtain⟨oI,hoI,hoc,hod⟩:=id hst'.1
 have I4:=I3.pinned (fp:=[s.heap.objs.size]) (fun c hc=>by rw [zaw8.mp hc];exact fpo) (fun c hc=>by rw [zaw8.mp hc];exact⟨oI,hoI,fun z e=>by rw [hod]at e;cases e⟩)
 show wpAny _ X.A.in1 (tryCatch (holding [v] (call (.ref f) [v])) _ >>= _) _ _ _
 refine zav6 (wpAny_tryCatch (wpAny_holding (wpAny_mono (turn x0 _ _ _ _ v I4 rx k0) (fun y s3 hs3=>?_) fun _ _ hF=>hF.elim)))
 obtain⟨k',H2,I5,rk',hS2,w1⟩:=hs3
 have pn:=I5.pin (s.heap.objs.size,oI) (zav5 _ (zav5 _ (ze4 (by simp) hoI)))
 obtain⟨_,bk2,nS2,rS2,gS2⟩:=I5.hok S _ hS2
 cases rS2
 show wpAny _ X.A.in1 (updateSeq S (fun _ => #[v,y]) >>= _) _ _ _
 refine zav6 (wpAny_updateSeq gS2 rfl ?_)
 rw [hname]
 have g5:=get?_update_seq gS2 (fun _ => #[v,y])
 have I6:=I5.unpinned.write (t':=s3.toks) (o:=.lst [x0,k']) (by rw [hS2];trivial) (.inl rfl) (fun c o n e=>(zaz1 _ _ (Ne.symm n)).trans e) ⟨_,g5⟩ ⟨by simp [sizeLine],[v,y],_,.cons rx (.cons rk' .nil),g5⟩
 refine zaw3 ⟨plainId_quiet zaz8 _,codeAny_mono (kl_min hcm hcmp turn hW stp fin hli _ 1 x0 k' _ _ rfl hlen w1 I6 ⟨oI,(zaz1 _ _ hSI).trans pn.1,hoc,hod⟩ ⟨by rw [za3 (Ne.symm hSI)];exact pn.2.1,fpo.2⟩) fun r s' hr=>?_⟩
 cases r with
 |error e=>exact hr.elim
 |ok fl=>cases fl with
  |ret u=>exact hr
  |next=>exact hr.elim
  |brk=>exact hr.elim
  |cont=>exact hr.elim
end
end L2
namespace DL
open PySem.Spec L2
def cmpI (mx:Bool) (i j:Int):Bool:=if mx then decide (i > j) else decide (i<j)
def lexI (mx:Bool):List Int→List Int→Bool
 |i::r,j::q=>if decide (i=j) then lexI mx r q else cmpI mx i j
 |_,_=>false
noncomputable def cmpD (mx:Bool):D→D→Option Bool
 |.int i,.int j=>some (cmpI mx i j)
 |.tup xs,.tup ys=>(ze9 xs).bind fun is=>(ze9 ys).bind fun js=>if is.length=js.length then some (lexI mx is js) else none
 |_,_=>none
theorem zar5 {mx:Bool}:∀ {is js:List Int}{e c:Nat→Bool},is.length=js.length→(∀j a b,is[j]?=some a→js[j]?=some b→e j=decide (a=b)∧c j=cmpI mx a b)→SeqAt.fstD e c (zaz7 is.length)=lexI mx is js
 |[],[],e,c,_,_=>rfl
 |i::r,j::q,e,c,hl,h=>by
  have h0:=h 0 i j rfl rfl
  have shift:∀l:List Nat,SeqAt.fstD e c (l.map Nat.succ)=SeqAt.fstD (fun k=>e (k+1)) (fun k=>c (k+1)) l:=by
   intro l
   induction l with
   |nil=>rfl
   |cons a l ih=>simp only [zax1,SeqAt.fstD,ih]
  rw [zax6,List.range_succ_eq_map,SeqAt.fstD,shift,h0.1,h0.2,lexI,zar5 (mx:=mx) (is:=r) (js:=q) (by simpa using hl) fun k a b h1 h2=>h (k+1) a b (by simpa using h1) (by simpa using h2)]
 |[],_::_,_,_,hl,_=>by simp at hl
 |_::_,[],_,_,hl,_=>by simp at hl
def pD (K:zav4) (mx:Bool):V→V→Hp→Bool→Prop:=fun y z H c => ∃d e,Rep K H d y∧Rep K H e z∧cmpD mx d e=some c
section
variable {X:Cx}
theorem cmp_D {mx:Bool}{op:CmpOp} (hop:op=if mx then .Gt else .Lt) (hu:X.A.units+64<cLine):CmpR X op (pD X.K mx):=by
 rintro pins s σ H y z u u' c Q E I ry rz ⟨d,e,rd,re,hc⟩ h
 have hs:=h s I fun _ _ e=>e
 have icmp:∀ {A:Around}{i j:Int}{t t':Tok},SeqAt.OpAt op A s (.int i t) (.int j t') (cmpI mx i j):=fun {A i j t t'} prog w E Q hq=>by
  cases mx with
  |false =>
   subst hop
   exact CmpOf.ints_lt (prog:=prog) (w:=w) (A:=A) (P:=fun (n:Nat) v => ∃t,v=.int (if n=0 then i else j) t) (fun n=>if n=0 then i else j) (fun _ _ h=>h) 0 1 _ _ _ _ _ ⟨t,rfl⟩ ⟨t',rfl⟩ hq
  |true =>
   subst hop
   exact CmpOf.ints_gt (prog:=prog) (w:=w) (A:=A) (P:=fun (n:Nat) v => ∃t,v=.int (if n=0 then i else j) t) (fun n=>if n=0 then i else j) (fun _ _ h=>h) 0 1 _ _ _ _ _ ⟨t,rfl⟩ ⟨t',rfl⟩ hq
 cases rd with
 |int i =>
  cases re with
  |int j =>
   obtain⟨t,rfl⟩:=ry
   obtain⟨t',rfl⟩:=rz
   simp only [cmpD]at hc
   cases hc
   exact icmp _ _ _ _ hs
  |_=>simp [cmpD]at hc
 |@tup xs pa vs h1 h2 =>
  cases re with
  |@tup ys pb ws g1 g2 =>
   simp only [cmpD]at hc
   cases e1:ze9 xs with
   |none=>rw [e1]at hc;cases hc
   |some is =>
    cases e2:ze9 ys with
    |none=>rw [e1,e2]at hc;cases hc
    |some js =>
     rw [e1,e2]at hc
     simp only [zav9]at hc
     split at hc
     case isFalse=>cases hc
     rename_i hl
     cases hc
     have x1:=zf2 e1
     have x2:=zf2 e2
     subst x1 x2
     have v1:=ze0 h2
     have v2:=ze0 g2
     subst v1 v2
     cases ry
     cases rz
     obtain⟨its,w1,w2,_⟩:=I.tuple h1
     obtain⟨its',w1',w2',_⟩:=I.tuple g1
     have l1:its.toArray.size=is.length:=by have:=w1.length;simp at this;simp [← this]
     have l2:its'.toArray.size=js.length:=by have:=w1'.length;simp at this;simp [← this]
     have at1:∀j (hj:j<its.toArray.size),∃t,its.toArray[j]=.int (is[j]'(by lia)) t:=fun j hj=>by
      obtain⟨v,e,r⟩:=Vals.getL w1 hj
      have hj':j<is.length:=by lia
      rw [zba3,zaw2 hj']at e
      cases e
      exact r
     have at2:∀j (hj:j<its'.toArray.size),∃t,its'.toArray[j]=.int (js[j]'(by lia)) t:=fun j hj=>by
      obtain⟨v,e,r⟩:=Vals.getL w1' hj
      have hj':j<js.length:=by lia
      rw [zba3,zaw2 hj']at e
      cases e
      exact r
     have he:∀j (q1:j<its.toArray.size) (q2:j<its'.toArray.size),SeqAt.EqAt X.A.in1.in1 s its.toArray[j] its'.toArray[j] (decide (is.getD j 0=js.getD j 0)):=fun j q1 q2=>by
      obtain⟨t,z1⟩:=at1 j q1
      obtain⟨t',z2⟩:=at2 j q2
      have k1:is.getD j 0=is[j]'(by lia):=by rw [zaz0,zaw2 (by lia)];rfl
      have k2:js.getD j 0=js[j]'(by lia):=by rw [zaz0,zaw2 (by lia)];rfl
      rw [z1,z2,k1,k2]
      have q:=eqAt_D I 6 X.A.in1.in1 (.int (is[j]'(by lia))) (.int (js[j]'(by lia))) _ _ (.int (is[j]'(by lia)) t) (.int (js[j]'(by lia)) t') (by show X.A.units+1+1+6<cLine;lia) (by rfl) (.int _) (.int _) ⟨t,rfl⟩ ⟨t',rfl⟩
      have:eqD (.int (is[j]'(by lia))) (.int (js[j]'(by lia)))=decide ((is[j]'(by lia))=(js[j]'(by lia))):=by
       cases w:decide ((is[j]'(by lia))=(js[j]'(by lia))) with
       |true=>rw [eqD_true];simp at w;rw [w]
       |false=>rw [eqD_false];simp at w;intro k;injection k with k;exact w k
      rw [← this];exact q
     have hcc:∀j (q1:j<its.toArray.size) (q2:j<its'.toArray.size),(decide (is.getD j 0=js.getD j 0))=false→SeqAt.OpAt op X.A.in1.in1 s its.toArray[j] its'.toArray[j] (cmpI mx (is.getD j 0) (js.getD j 0)):=fun j q1 q2 _=>by
      obtain⟨t,z1⟩:=at1 j q1
      obtain⟨t',z2⟩:=at2 j q2
      have k1:is.getD j 0=is[j]'(by lia):=by rw [zaz0,zaw2 (by lia)];rfl
      have k2:js.getD j 0=js[j]'(by lia):=by rw [zaz0,zaw2 (by lia)];rfl
      rw [z1,z2,k1,k2]
      exact icmp
     have hz:its.toArray.size=its'.toArray.size:=by lia
     have fl:=zar5 (mx:=mx) (is:=is) (js:=js) (e:=fun j=>decide (is.getD j 0=js.getD j 0)) (c:=fun j=>cmpI mx (is.getD j 0) (js.getD j 0)) hl (fun j a b z1 z2=>by simp [z1,z2])
     rw [← fl, ← l1]at hs
     cases mx with
     |false=>subst hop;exact SeqAt.OpAt.tuples_lt (A:=X.A.in1) w2 w2' (by show X.A.units+1<cLine;lia) hz he hcc _ _ _ _ hs
     |true=>subst hop;exact SeqAt.OpAt.tuples_gt (A:=X.A.in1) w2 w2' (by show X.A.units+1<cLine;lia) hz he hcc _ _ _ _ hs
  |_=>simp [cmpD]at hc
 |_=>simp [cmpD]at hc
end
noncomputable def zj9 (mx:Bool) (fb:DE) (cs:List D):D→D→List D→Option D
 |b,_,[]=>some b
 |b,k,d::ds=>(fb (.val d::cs.map Sl.val)).bind fun r=>if flat r.d then (cmpD mx r.d k).bind fun c=>if c then zj9 mx fb cs d r.d ds else zj9 mx fb cs b k ds else none
noncomputable def dKey (mx:Bool) (cap:List Nat) (fa fb:DE):DE:=fun t=>(fa t).bind fun r=>(capD t cap).bind fun c=>match r.d with
 |.lst (d::ds)=>if (ze9 (d::ds)).isSome then (fb (.val d::c.2.map Sl.val)).bind fun k=>if flat k.d then (zj9 mx fb c.2 d k.d ds).map Ev.cl else none else none
 |_=>none
theorem zp0 {S:Addr}{H0 H1:Hp} (h:Same H0 (hide [S] H1)):Same H0 H1:=fun b o e=>za6 _ _ b o (h b o e)
theorem zy0 {S:Addr}{H0 H1:Hp}{o:HO} (h:Same H0 (hide [S] H1)):Same H0 (hide [S] (upd H1 S o)):=fun b u e=>by
 obtain⟨n,w⟩:=zd4 (h b u e)
 have n:b≠S:=by simpa using n
 exact zb0 (by rw [za3 n];exact w) (by simpa using n)
theorem zp1 {S:Addr}{H0 H1 H2:Hp} (h:Same H0 (hide [S] H1)) (g:Same H1 H2):Same H0 (hide [S] H2):=h.trans (zb6 g)
theorem zag4 {K:zav4}{H H2:Hp}{S:Addr}{d:D}{v:V}{xs:List V} (f:flat d=true) (hS:H S=some (.lst xs)) (r:Rep K H d v) (g:Same (hide [S] H) H2):Rep K H2 d v :=
 Rep.mono g (Rep.hid (P:=[S]) (fun p hp=>by rw [zaw8.mp hp];exact⟨mL xs,hS⟩) f r)
section
variable {X:Cx}{F:List Addr}{a body:Expr}{fa fb:DE}{pos:Pos}{scope:Scope}{N':List Str}{cap:List Nat}
theorem zai5 {p0 kp lp:Pos}{params:Arguments}{q x0:Str}{c P:Addr} (hcm:X.calm=true) (hu:X.A.units+64<cLine) (hdp:X.A.depth<recursionLimit) (hcode:X.env.code=.ref c) (C:zbe8 X.base c P) (hP:(P,q)∈X.base.tabs) (hg:Gl X "min") (hm:X.mg "min"=none) (S:CompSc X scope) (S0:∀y∈scope.names,y.2≠.cell)
  (ha:PE X a (dE X.K F fa)) (hb:∀F' L f c' s₃ H₃,PE (lamX X N' q scope X.A.in1 L f (.ref c') s₃ H₃) body (dE X.K F' fb))
  (hl:N'.length=1+cap.length) (h0:N'[0]?=some x0) (hx0:scope.names.lookup x0=some .local)
  (hcap:∀(k:Nat) (j:Nat),cap[k]?=some j→∃x,N'[1+k]?=some x∧X.N[j]?=some x∧(x,NameKind.free)∈scope.names)
  (hq:X.env.qual++"<lambda>"=q:=by rfl) (hco:scope.isCoroutine=false:=by rfl) (hgen:scope.isGenerator=false:=by rfl) (hdef:defaultsOf params X.env=([],[]):=by rfl)
  (hbind:∀cl pm c' ctv u0,bindArgs (zbk5 "<lambda>" q params body scope cl pm (.ref c') ctv) ⟨[u0],[]⟩=pure [(x0,u0)]:=by intros;rfl)
  (hst:zax8 [a] X.env=[(false,eval a X.env)]:=by rfl)
  (he:zbe1 pos (zax8 [a] X.env)=(false,eval a X.env)::zbe1 pos (zax8 [] X.env):=by rfl) (hplain:(zbe1 pos (zax8 [a] X.env)).any (·.1)=false:=by rfl)
  (hall:(backToKw pos (keywordEach [⟨some "key",.Lambda params body scope lp,kp⟩] X.env)).all (·.1.isSome)=true:=by rfl) (hkw:(backToKw pos (keywordEach [⟨some "key",.Lambda params body scope lp,kp⟩] X.env)).any (·.1.isNone)=false:=by rfl) :
  PE X (.Call (.Name "min" p0) [a] [⟨some "key",.Lambda params body scope lp,kp⟩] pos) (dE X.K F (dKey false cap fa fb)):=by
 intro pins s σ H Q I h
 obtain⟨A,t,r,R,e,h⟩:=h
 unfold dKey at e
 cases e1:fa t with
 |none=>rw [e1]at e;cases e
 |some r1 =>
  cases e2:capD t cap with
  |none=>rw [e1,e2]at e;cases e
  |some cc =>
   obtain⟨bb,cs⟩:=cc
   rw [e1,e2]at e
   simp only [zav9]at e
   split at e
   case h_2=>cases e
   rename_i d ds z
   split at e
   case isFalse=>cases e
   rename_i hi
   obtain⟨ns,hns⟩:=zbh5.mp hi
   cases e3:fb (.val d::cs.map Sl.val) with
   |none=>rw [e3]at e;cases e
   |some k =>
    rw [e3]at e
    simp only [zav9]at e
    split at e
    case isFalse=>cases e
    rename_i hfk
    cases e4:zj9 false fb cs d k.d ds with
    |none=>rw [e4]at e;cases e
    |some res =>
     rw [e4]at e
     cases e
     refine wpAny_Call_Name_kw (zj3 I hg hm (show bootBuiltins "min"=some (.builtin "min") by decide +kernel) (callWith_kw (env:=X.env) ?_ he hplain hall hkw))
     refine thn ((zg3 ha zk6 hst) pos pins s σ H (fun vs H1 => ∃x,vs=[x]∧Same H H1∧RepEv X.K F A H H1 r1 x) I ⟨A,t,r1,R,e1,fun x H1 gs q=>⟨x,rfl,gs,q⟩⟩) fun us s1 ⟨vs,H1,I1,rv,x,ex,gs,q1⟩=>?_
     subst ex
     obtain⟨u,rfl,ru⟩:=rv.one
     have p:=q1.full
     have xe:=zf2 hns
     rw [z,xe]at p
     cases p with
     |@lst _ l ws h1 h2 =>
      have we:=ze0 h2
      subst we
      cases ru
      refine kws_cons (lam_make I1 S hcode C hP hq hdef fun f c' oc vs tk pm ctv s3 I3 hc' nf ncf hod hv=>kws_nil ?_)
      generalize hH3:upd (upd H1 c' (.frz oc (.own 0))) f (.frz (zbd8 "<lambda>" q params body scope (clOf X.env.cells scope.names []) pm c' ctv) (.own 0))=H3 at I3
      have g13:Same H1 H3:=fun b o w=>by
       subst hH3
       rw [za3 (fun z=>by rw [z,nf]at w;cases w)]
       by_cases zc:b=c'
       ·subst zc
        rcases hc' with n | n
        ·rw [n]at w;cases w
        ·rw [n]at w;cases w;rw [za4]
       ·rw [za3 zc];exact w
      have ff:H3 f=some (.frz (zbd8 "<lambda>" q params body scope (clOf X.env.cells scope.names []) pm c' ctv) (.own 0)):=by subst hH3;rw [za4]
      have fc:H3 c'=some (.frz oc (.own 0)):=by subst hH3;rw [za3 ncf,za4]
      have g03:Same H H3:=gs.trans g13
      have R3:=R.grow g03
      obtain⟨cvs,ecv,rcs⟩:=zu8 R3 e2
      have muF:Lists H3 (hidF bb A F):=fun p hp=>R3.mu p (by
       unfold hidF at hp
       split at hp
       ·exact hp
       ·exact zav5 _ hp)
      let KT:V→Hp→VK→Prop:=fun x Hx Qx=>Same H3 Hx∧dE X.K (hidF bb A F) fb (some x::cap.map fun j=>(σ[j]?).getD none) Hx Qx
      have turn:∀(x:V) (Hx:Hp) (sx:zaw4) (px:List (Addr×Obj)) (Qx:VK) (u:Value),Inv X px σ Hx sx→RelV x u→KT x Hx Qx→wpAny (model X.prog X.w) X.A.in1 (call (.ref f) [u]) (EP X px σ Qx) (fun _ _=>False) sx :=
       fun x Hx sx px Qx u Ix rx hk=>lam_run (N':=N') (cap:=cap) (A':=X.A.in1) Ix S S0 (I.ok.hd hcm) rfl hdp (hk.1 _ _ ff) (hk.1 _ _ fc) hod hv hco hgen (hbind _ _ _ _ _) rx h0 hx0 hl hcap (fun L s₃ H₃=>hb _ L f c' s₃ H₃) hk.2
      have mk:∀ {n:Int}{Hx:Hp}{rr:Ev}{Qx:VK},Same H3 Hx→fb (.val (.int n)::cs.map Sl.val)=some rr→(∀v Hy,Same Hx Hy→Rep X.K Hy rr.d v→Qx v Hy)→KT (.int n) Hx Qx:=fun {n Hx rr Qx} gx er hq=>by
       refine⟨gx,[],_,rr,⟨by simpa using muF.mono gx,zay7,fun p hp=>(by cases hp),?_⟩,er,fun v Hy gy qy=>hq v Hy gy qy.full⟩
       rw [zbd5,ecv]
       refine .val (.int n) ?_
       have:=RSl.start (K:=X.K) (H:=Hx) (t:=[]) (σ:=[]) .nil (Reps.mono (zb6 gx) rcs)
       simpa using this
      have hx0':(ns.map V.int)[0]?=some (V.int (ns.headD 0)):=by
       cases ns with
       |nil=>simp at xe
       |cons n0 nr=>rfl
      have ed:d=.int (ns.headD 0)∧ds=ns.tail.map D.int:=by
       cases ns with
       |nil=>simp at xe
       |cons n0 nr=>simp at xe;exact⟨by simpa using xe.1,by simpa using xe.2⟩
      obtain⟨ed1,ed2⟩:=ed
      subst ed1 ed2
      have hl3:SqL X.K H3 l (ns.map V.int):=g13.seq h1
      refine kc_min (KT:=KT) (p:=pD X.K false) hcm (cmp_D (by rfl) hu) turn I3 hl3 hx0' fun Sa nS=>?_
      refine⟨fun j b kv Hx=>Same H3 (hide [Sa] Hx)∧Hx Sa=some (.lst [b,kv])∧∃(ib:Int) (dk:D),b=.int ib∧flat dk=true∧Rep X.K (hide [Sa] Hx) dk kv∧zj9 false fb cs (.int ib) dk ((ns.drop j).map D.int)=some res,?_,?_,?_,?_⟩
      ·rintro j b kv Hx ⟨g,hS,_⟩
       exact⟨(zp0 g).seq hl3,hS⟩
      ·have g0:Same H3 (hide [Sa] (upd H3 Sa (.lst []))):=fun b o w=>zb0 (by rw [za3 (fun z=>by rw [z,nS]at w;cases w)];exact w) (by simpa using fun z=>by rw [z,nS]at w;cases w)
       refine mk (zp0 g0) e3 fun v Hy gy ry=>?_
       have hS:Hy Sa=some (.lst []):=gy _ _ za4
       refine⟨hS,zy0 (zp1 g0 gy),za4,ns.headD 0,k.d,rfl,hfk,zag4 hfk hS ry ?_,?_⟩
       ·intro b o w
        obtain⟨n,w⟩:=zd4 w
        exact zb0 (by rw [za3 (by simpa using n)];exact w) n
       ·rw [← e4,List.drop_one]
      ·rintro j b kv Hx x ⟨g,hS,ib,dk,rfl,hf,rk,eb⟩ hx
       rw [zba3]at hx
       cases en:ns[j]? with
       |none=>rw [en]at hx;cases hx
       |some n =>
        rw [en]at hx
        cases hx
        have hj:j<ns.length:=(zba6.mp en).1
        have ej:ns.drop j=n::ns.drop (j+1):=by rw [zay4 hj];rw [zaw2 hj]at en;cases en;rfl
        rw [ej,zax1]at eb
        unfold zj9 at eb
        cases er:fb (.val (.int n)::cs.map Sl.val) with
        |none=>rw [er]at eb;cases eb
        |some rr =>
         rw [er]at eb
         simp only [zav9]at eb
         split at eb
         case isFalse=>cases eb
         rename_i hfr
         cases ec:cmpD false rr.d dk with
         |none=>rw [ec]at eb;cases eb
         |some c =>
          rw [ec]at eb
          simp only [zav9]at eb
          refine mk (zp0 g) er fun v Hy gy ry=>⟨c,⟨rr.d,dk,ry,Rep.mono ((za6 _ _).trans gy) rk,ec⟩,gy _ _ hS,fun z=>?_,fun z=>?_⟩
          ·subst z
           have hSy:=gy _ _ hS
           refine⟨zy0 (zp1 g gy),za4,n,rr.d,rfl,hfr,zag4 hfr hSy ry ?_,by simpa using eb⟩
           intro b o w
           obtain⟨n,w⟩:=zd4 w
           exact zb0 (by rw [za3 (by simpa using n)];exact w) n
          ·subst z
           exact⟨zp1 g gy,gy _ _ hS,ib,dk,rfl,hf,Rep.mono (zb6 gy) rk,by simpa using eb⟩
      ·rintro b kv Hx ⟨g,hS,ib,dk,rfl,hf,rk,eb⟩
       rw [zay5,zbi8]at eb
       have eb:some (D.int ib)=some res:=eb
       cases eb
       refine h _ _ (g03.trans ?_) (.int ib)
       intro b o w
       obtain⟨n,w⟩:=zd4 (g b o w)
       rw [za3 (by simpa using n)];exact w
end
end DL
namespace L2
open PySem.Spec PySem.W
def lamOf (x:Str):Str:=x++".<locals>."++"<lambda>"
theorem zx3 {β:Type}:∀ {l:List (Nat×β)}{a:Nat}{o:β},l.lookup a=some o→(a,o)∈l
 |[],_,_,e=>by cases e
 |(b,x)::r,a,o,e=>by
  rw [zay9]at e
  cases hb:a == b with
  |true=>rw [hb]at e;cases e;rw [eq_of_beq hb];exact .head _
  |false=>rw [hb]at e;exact .tail _ (zx3 e)
def tbOf (K:Frag) (names:List Str):List (Addr×Str):=names.filterMap fun x=>(tabIn K x).map fun q=>(q.2,lamOf x)
theorem mem_tbOf {K:Frag}{names:List Str}{x:Str}{c P:Addr} (hx:x∈names) (h:tabIn K x=some (c,P)):(P,lamOf x)∈tbOf K names:=zbf2.mpr ⟨x,hx,by rw [h];rfl⟩
theorem of_tbOf {K:Frag}{names:List Str}{p:Addr×Str} (h:p∈tbOf K names):∃x∈names,∃c,tabIn K x=some (c,p.1):=by
 obtain⟨x,hx,e⟩:=zbf2.mp h
 cases q:tabIn K x with
 |none=>rw [q]at e;cases e
 |some r=>rw [q]at e;cases e;exact⟨x,hx,r.1,q⟩
def TbOk (K:Frag) (names:List Str):Prop := ∀p∈tbOf K names,(tbOf K names).lookup p.1=some p.2∧K.lookup p.1=none
theorem tbOk_one {K:Frag}{x:Str}{c P:Addr} (h:tabIn K x=some (c,P)) (n:K.lookup P=none):TbOk K [x]:=fun p hp=>by
 have e:tbOf K [x]=[(P,lamOf x)]:=by simp [tbOf,h]
 rw [e]at hp ⊢
 rw [zaw8.mp hp]
 exact⟨by simp,n⟩
theorem zap9 {P:Program}{w:World}{K:Frag}{mg mb:Str→Option Value}{CX:CXT}{k:Nat}{fa a:Addr}{fd:FuncData}{x:Str}{sp:Sp}{s₁:zaw4}{vs:List Value}{ns:List Int}{names:List Str}
  (KX:K.In s₁.heap) (hns:s₁.heap.Ns mainGlobals mg) (hb:s₁.heap.Ns builtinsNs mb) (hbb:∀x:Str,x≠"__name__"→mb x=bootBuiltins x) (hlim:s₁.heap.NoLimit)
  (hbm:∃(bm:Addr) (ob:Obj),mg "__builtins__"=some (.ref bm)∧bm≠builtinsNs∧s₁.heap.get? bm=some ob∧ob.cls=.type "module"∧ob.dict=some builtinsNs∧ob.data=.plain) (hg:s₁.gens = #[])
  (ha:s₁.heap.get? a=some { cls:=.type "list",data:=.seq vs.toArray }) (hi:IntsAre vs ns) (hl:ns.length≤sizeLine) (hr:Room k callerA)
  (hT:∀x∈names,∀c P,tabIn K x=some (c,P)→CodeHd s₁.heap c P∧s₁.heap.get? P=some (tabObj #[])) (hn:TbOk K names)
  (F:∀base:BHeap,base.tabs=tbOf K names→K.In base→base.Ns mainGlobals mg→(∀x∈names,∀c P,tabIn K x=some (c,P)→CodeHd base c P)→FnOk P w K mg base CX k fa fd [x] sp)
  (hbind:∀(s:zaw4) (u:Value),BindsTo s fd ⟨[u],[]⟩ [(x,u)]) (hsp:∀H:Hp,SqL K H a (ns.map V.int)→sp [.ref a] H (fun v _=>v=.bl true) fun _ _ _=>False)
  (hCX:∀H e s',CX [] H s₁ (fun _ _ _=>False) e s'→False) :
  codeAny (model P w) callerA (.call (.ref fa) ⟨[.ref a],[]⟩) (fun r s'=>r=.ok (.ret (.bool true))∧OldK s₁.heap s'.heap∧s'.os=s₁.os∧AllBare s'.gens) s₁:=by
 have rv:=zk0 hi
 have lenV:=hi.length
 have tabH:∀p∈tbOf K names,∃c,CodeHd s₁.heap c p.1∧s₁.heap.get? p.1=some (tabObj #[]):=fun p hp=>by
  obtain⟨y,hy,c,e⟩:=of_tbOf hp
  exact⟨c,hT y hy c p.1 e⟩
 have core:∀H:Hp,SqL K H a (ns.map V.int)→HOk P w H s₁.heap→(∀p∈tbOf K names,H p.1=some (.tbl p.2)) →
   (∀b o,H b=some o→(b=a∧K.lookup a=none∧∃ob xs,o=.frz ob (.lst xs))∨∃q,o=.tbl q∧(b,q)∈tbOf K names) →
   codeAny (model P w) callerA (.call (.ref fa) ⟨[.ref a],[]⟩) (fun r s'=>r=.ok (.ret (.bool true))∧OldK s₁.heap s'.heap∧s'.os=s₁.os∧AllBare s'.gens) s₁:=by
  intro H hS hok hTB hH
  have free:∀ {b:Addr}{o:Obj},s₁.heap.get? b=some o→(o.cls=.type "list"→False)→o≠tabObj #[]→H b=none:=fun {b o} e n1 n2=>by
   cases q:H b with
   |none=>rfl
   |some u =>
    rcases hH b u q with ⟨rfl,_⟩ | ⟨qq,rfl,hm⟩
    ·rw [ha]at e;cases e;exact (n1 rfl).elim
    ·obtain⟨c,_,e2⟩:=tabH _ hm
     have e2:s₁.heap.get? b=some (tabObj #[]):=e2
     rw [e]at e2;cases e2;exact (n2 rfl).elim
  have nsK:∀ {b:Addr}{m:Str→Option Value},s₁.heap.Ns b m→(hidT s₁.heap H).Ns b m:=fun {b m} ⟨o,es,ep,e,d,r⟩=>⟨o,es,ep,zn2 e (by
   cases q:H b with
   |none=>rfl
   |some u =>
    rcases hH b u q with ⟨rfl,_⟩ | ⟨qq,rfl,hm⟩
    ·rw [ha]at e;cases e;cases d
    ·obtain⟨c,_,e2⟩:=tabH _ hm
     have e2:s₁.heap.get? b=some (tabObj #[]):=e2
     rw [e]at e2;cases e2;cases d),d,r⟩
  have hKb:K.In (hidT s₁.heap H):=fun b o e=>zn2 (KX b o e) (by
   cases q:H b with
   |none=>rfl
   |some u =>
    rcases hH b u q with ⟨rfl,n,_⟩ | ⟨qq,rfl,hm⟩
    ·rw [n]at e;cases e
    ·have n:K.lookup b=none:=(hn _ hm).2
     rw [n]at e;cases e)
  have hM:Mod K mg ⟨hidT s₁.heap H,tbOf K names⟩:=⟨hKb,nsK hns,⟨mb,nsK hb,hbb⟩,let ⟨mc,h1,h2⟩:=hlim;⟨mc,nsK h1,h2⟩,by
   obtain⟨bm,ob,b1,b2,b3,b4,b5,b6⟩:=hbm
   exact⟨bm,ob,b1,b2,zn2 b3 (free b3 (fun z=>by rw [b4]at z;simp at z) fun z=>by rw [z]at b4;cases b4),b4,b5,b6⟩⟩
  have hCd:∀x∈names,∀c P,tabIn K x=some (c,P)→CodeHd (hidT s₁.heap H) c P:=fun x hx c P e=>by
   obtain⟨⟨o,vs,file,tf,flags,tg,inF,text,tt,e1,r1,r⟩,_⟩:=hT x hx c P e
   exact⟨o,vs,file,tf,flags,tg,inF,text,tt,zn2 e1 (free e1 (fun z=>by rw [r1]at z;simp at z) fun z=>by rw [z]at r1;cases r1),r1,r⟩
  have e0:Env0 P w K mg ⟨hidT s₁.heap H,tbOf K names⟩ callerA [] s₁ H:=⟨rfl,hM,fun b o e=>of_hidT e,Nat.le_of_eq (zaq9 _ _),trivial,fun b hb=>absurd (show b∈([]:List Addr) from hb) (by simp),hok,.of_eq hg,hTB⟩
  refine codeAny_mono ((F ⟨hidT s₁.heap H,tbOf K names⟩ rfl hKb (nsK hns) hCd).run callerA [] s₁ H ⟨[.ref a],[]⟩ [.ref a] [.ref a] _ _ hr e0 (hbind s₁ (.ref a)) (.cons rfl .nil) (hsp H hS)) fun r s' h=>?_
  cases r with
  |error e=>exact (hCX H e s' h).elim
  |ok fl =>
   cases fl with
   |next=>exact False.elim h
   |brk=>exact False.elim h
   |cont=>exact False.elim h
   |ret u =>
    obtain⟨v,H',os,bare,un,hok',r',q⟩:=h
    have q':v=.bl true:=q
    subst q'
    obtain rfl:u=Value.bool true:=r'
    have kp:∀b o,s₁.heap.get? b=some o→s'.heap.get? b=some o∨∃qq,H b=some (.tbl qq):=fun b o e=>by
     cases q:H b with
     |none=>exact .inl (un.keep b o e q (by intro z;exact absurd (show b∈([]:List Addr) from z) (by simp)) (by simp))
     |some u =>
      rcases hH b u q with ⟨rfl,_,ob,xs,rfl⟩ | ⟨qq,rfl,hm⟩
      ·obtain⟨e1,_⟩:=hok b _ q
       obtain⟨e2,_⟩:=hok' b _ (un.frzs b ob _ q)
       rw [e]at e1;cases e1
       exact .inl e2
      ·exact .inr ⟨qq,rfl⟩
    refine⟨rfl,⟨fun b o e=>?_,fun b o e=>?_⟩,os,bare⟩
    ·rcases kp b o e with z | ⟨qq,z⟩
     ·exact .inl z
     ·rcases hH b _ z with ⟨_,_,ob,xs,z2⟩ | ⟨q2,z2,hm⟩
      ·cases z2
      ·obtain⟨c,C,e2⟩:=tabH _ hm
       have e2:s₁.heap.get? b=some (tabObj #[]):=e2
       rw [e]at e2
       cases e2
       obtain⟨ps,e3,_⟩:=hok' b _ (un.tbls b _ z)
       have C:CodeHd s₁.heap c b:=C
       exact .inr (.inl ⟨(C.tab e).isCodeTable,rfl, #[],ps,rfl,by simpa using e3⟩)
    ·rcases kp b o e with z | ⟨qq,z⟩
     ·exact⟨o,z⟩
     ·obtain⟨ps,e3,_⟩:=hok' b _ (un.tbls b _ z)
      exact⟨_,e3⟩
 have tabO:∀(H:Hp) (p:Addr×Str),p∈tbOf K names→ObjOk P w H s₁.heap p.1 (.tbl p.2):=fun H p hp=>by
  obtain⟨c,_,e⟩:=tabH p hp
  exact⟨#[],e,trivial,fun pos cv z=>by cases z⟩
 have lk:∀b q,(tbOf K names).lookup b=some q→(b,q)∈tbOf K names:=fun b q e=>zx3 e
 have aT:∀q,(a,q)∈tbOf K names→False:=fun q hm=>by
  obtain⟨c,_,e⟩:=tabH _ hm
  have e:s₁.heap.get? a=some (tabObj #[]):=e
  rw [ha]at e;cases e
 cases hk:K.lookup a with
 |some o =>
  have e:=KX a o hk
  rw [ha]at e
  cases e
  refine core (fun b=>((tbOf K names).lookup b).map HO.tbl) (.inr ⟨_,vs.toArray,_,hk,rfl,rfl,rfl,by rw [zax9,lenV];exact hl,by simpa using rv⟩) (fun b u z=>?_) (fun p hp=>by simp only [(hn p hp).1,zbd9]) fun b u z=>?_
  ·cases q:(tbOf K names).lookup b with
   |none=>simp only [q]at z;cases z
   |some qq=>simp only [q]at z;cases z;exact tabO _ _ (lk b qq q)
  ·cases q:(tbOf K names).lookup b with
   |none=>simp only [q]at z;cases z
   |some qq=>simp only [q]at z;cases z;exact .inr ⟨qq,rfl,lk b qq q⟩
 |none =>
  refine core (fun b=>if b=a then some (.frz { cls:=.type "list",data:=.seq vs.toArray } (.lst (ns.map V.int))) else ((tbOf K names).lookup b).map HO.tbl) (.inl (.inr ⟨{ cls:=.type "list",data:=.seq vs.toArray },if_pos rfl⟩)) (fun b u z=>?_) (fun p hp=>?_) fun b u z=>?_
  ·by_cases hb:b=a
   ·have z':=(if_pos hb).symm.trans z
    cases z'
    subst hb
    exact⟨ha,by rw [zay5];exact hl,vs,_,rv,ha⟩
   ·have z':=(if_neg hb).symm.trans z
    cases q:(tbOf K names).lookup b with
    |none=>simp only [q]at z';cases z'
    |some qq=>simp only [q]at z';cases z';exact tabO _ _ (lk b qq q)
  ·have:p.1≠a:=fun e=>aT p.2 (by rw [← e];exact hp)
   simp only [this,if_false,(hn p hp).1,zbd9]
  ·by_cases hb:b=a
   ·have z':=(if_pos hb).symm.trans z
    cases z'
    exact .inl ⟨hb,hk,_,_,rfl⟩
   ·have z':=(if_neg hb).symm.trans z
    cases q:(tbOf K names).lookup b with
    |none=>simp only [q]at z';cases z'
    |some qq=>simp only [q]at z';cases z';exact .inr ⟨qq,rfl,lk b qq q⟩
end L2
namespace L2
open PySem.W
theorem walk_ofT {l:zbm9}{n k:Nat}{q:Program}{loose:List Str}{XP:(Str→Option Value)→Heap→Prop}{YP:World→Heap→Prop}{d:DefRec}{K:Params→zav4}{CX:World→CXT}{sp:World→Sp}{x:Str}{names:List Str}
  (hn:l.most=some n) (hn2:n≤sizeLine) (hdf:d.params.defaults=[]) (hr:Room k callerA)
  (hY:∀(w:World) (h:Heap),YP w h→(K w.params).In h) (hrec:∀x∈names,∃dr,(recsOf q).find? (fun e=>e.name == x)=some dr)
  (F:∀(w:World) (mg:Str→Option Value) (fa:Addr) (h:Heap),(K w.params).In h→h.Ns mainGlobals mg→mg d.name=some (.ref fa) →
   TbOk (K w.params) names∧∃fd:FuncData,(∀(s:zaw4) (u:Value),BindsTo s fd ⟨[u],[]⟩ [(x,u)]) ∧
    ∀base:BHeap,base.tabs=tbOf (K w.params) names→(K w.params).In base→base.Ns mainGlobals mg→(∀x∈names,∀c P,tabIn (K w.params) x=some (c,P)→CodeHd base c P)→FnOk l.prog w (K w.params) mg base (CX w) k fa fd [x] (sp w))
  (hsp:∀(w:World) (H:Hp) (a:Addr) (ns:List Int),ns.length≤n→(∀i∈ns,i.natAbs<bndS)→SqL (K w.params) H a (ns.map V.int)→sp w [.ref a] H (fun v _=>v=.bl true) fun _ _ _=>False)
  (hCX:∀(w:World) (H:Hp) (s:zaw4) (e:Value) (s':zaw4),CX w [] H s (fun _ _ _=>False) e s'→False) :
  zbp4 q loose XP YP l.row.toRowW d [] (fun f vs=>PySem.call f vs):=by
 intro w s₀ s₁ mg mb G Y fa o pm cd doc dV kV ho hd hcd hD hmg hg args vals as hpre hlay hrd hwl hlo
 obtain rfl:dV=.none:=Dflts.none hD hdf
 obtain rfl:kV=.none:=Dflts.noKw hD
 obtain⟨a,vs,ns,rfl,rfl,hobj,hints,hlen⟩:=Att.script_of hn hpre hwl
 have hb:=bnd_of hlay
 have KX:=hY w _ Y
 obtain⟨hok,fd,hbd,hF⟩:=F w mg fa _ KX G.T.g hmg
 refine enter_call (codeAny_mono (zap9 KX G.T.g G.T.b G.T.builtins G.T.nolimit G.T.bmain hg hobj hints (zaz5 hlen hn2) hr (fun x hx c P e=>by
  obtain⟨dr,h⟩:=hrec x hx
  exact tab_of G.T KX h e) hok hF hbd (fun H hS=>hsp w H a ns hlen hb hS) fun H e s'=>hCX w H s₁ e s') fun r s' hq=>?_)
 obtain⟨rfl,h2,h3,h4⟩:=hq
 exact⟨.inl ⟨.bool true,.bool true,[],rfl,fun _=>rfl,.bool true,Att.post_true l _,fun _=>⟨List.Pairwise.nil,fun _ hm=>(nomatch hm)⟩⟩,h2,h3,h4⟩
end L2
namespace DL
open PySem.Spec L2
theorem _root_.L2.Room.dep {k:Nat}{A:Around} (r:Room k A):A.depth<recursionLimit:=by have:=r.dp;lia
theorem _root_.L2.Room.lam {k:Nat}{A:Around} (r:Room (k+2) A) (env:Env):Room k (A.in1.deeper env):=r.in1.deeper env
def isSt:Expr→Bool
 |.Starred _ _=>true
 |_=>false
theorem zr8 {a:Expr}{es:List Expr}{env:Env} (h:isSt a=false):zax8 (a::es) env=(false,eval a env)::zax8 es env:=by
 cases a<;>first | rfl | cases h
section
variable {X:Cx}{F:List Addr}{a body:Expr}{fa fb:DE}{pos:Pos}{scope:Scope}
def lamNo (names:List (Str×NameKind)):Bool:=names.all fun y=>y.2 != .cell
theorem lamNo_of {names:List (Str×NameKind)} (h:lamNo names=true):∀y∈names,y.2≠.cell:=fun y hy=>by
 have:=zbc8.mp h y hy
 simpa using this
theorem ped_kmin {p0 kp lp:Pos}{params:Arguments}{q x0:Str}{c P:Addr} (cap:List Nat) (N':List Str) (kl:Nat) (hrl:Room (kl+2) X.A) (hcm:X.calm=true) (hu:X.A.units+64<cLine) (hdp:X.A.depth<recursionLimit) (hcode:X.env.code=.ref c) (C:zbe8 X.base c P) (hP:(P,q)∈X.base.tabs) (hg:Gl X "min") (hm:X.mg "min"=none)
  (ha:PE X a (dE X.K F fa)) (hb:∀F' L f c' s₃ H₃,Room kl (lamX X N' q scope X.A.in1 L f (.ref c') s₃ H₃).A→PE (lamX X N' q scope X.A.in1 L f (.ref c') s₃ H₃) body (dE X.K F' fb))
  (hkd:scope.kind=.function:=by rfl) (hcs:zas9 scope.names X.env.kindOf=true:=by rfl) (hln:lamNo scope.names=true:=by rfl) (hl:N'.length=1+cap.length:=by rfl) (h0:N'[0]?=some x0:=by rfl) (hx0:scope.names.lookup x0=some .local:=by rfl)
  (hcap:zat8 N' X.N 1 scope.names 0 cap=true:=by rfl)
  (hq:X.env.qual++"<lambda>"=q:=by rfl) (hco:scope.isCoroutine=false:=by rfl) (hgen:scope.isGenerator=false:=by rfl) (hdef:defaultsOf params X.env=([],[]):=by rfl)
  (hbind:∀cl pm c' ctv u0,bindArgs (zbk5 "<lambda>" q params body scope cl pm (.ref c') ctv) ⟨[u0],[]⟩=pure [(x0,u0)]:=by intros;rfl)
  (hst:zax8 [a] X.env=[(false,eval a X.env)]:=by rfl)
  (he:zbe1 pos (zax8 [a] X.env)=(false,eval a X.env)::zbe1 pos (zax8 [] X.env):=by rfl) (hplain:(zbe1 pos (zax8 [a] X.env)).any (·.1)=false:=by rfl)
  (hall:(backToKw pos (keywordEach [⟨some "key",.Lambda params body scope lp,kp⟩] X.env)).all (·.1.isSome)=true:=by rfl) (hkw:(backToKw pos (keywordEach [⟨some "key",.Lambda params body scope lp,kp⟩] X.env)).any (·.1.isNone)=false:=by rfl) :
  PE X (.Call (.Name "min" p0) [a] [⟨some "key",.Lambda params body scope lp,kp⟩] pos) (dE X.K F (dKey false cap fa fb)) :=
 zai5 hcm hu hdp hcode C hP hg hm (compSc hkd hcs) (lamNo_of hln) ha (fun F' L f c' s₃ H₃=>hb F' L f c' s₃ H₃ (hrl.lam _)) hl h0 hx0 (fun k j e=>by simpa using zu7 hcap k j e) hq hco hgen hdef hbind hst he hplain hall hkw
end
theorem _root_.L2.Fun.okC {P:Program}{w:World}{K:zav4}{mg:Str→Option Value}{base:BHeap}{x qual:Str}{st:Stmt}{f:Addr}{fd:FuncData}{N ps:List Str}{k:Nat}{sp:Sp} (F:L2.Fun K x qual st f fd) (S:FnScope N ps (zb1 st)) (len:∀vs H Q E,sp vs H Q E→vs.length=ps.length)
  (hbody:∀(A:Around) (outer:List Env) (s:zaw4) (H:Hp) (vs:List V) (Q:VK) (E:XK),Room k (A.deeper (envOfC qual (zb1 st) s.heap.objs.size f fd.code))→sp vs H Q E →
   ∃t,PSs (cxOf CX0 P w K mg base N qual (zb1 st) f fd.code A outer s H E).nox (ze2 st) t∧t { nx:=fun _ H'=>Q .non H',rt:=Q } (start N vs) H):FnOk P w K mg base CX0 (k+1) f fd ps sp:=by
 obtain⟨oc,od,kV,doc,pm,an,cdv,ct,osl,rfl,lk,hcd⟩:=F.ex
 refine fn_of lk hcd S len fun A outer s H vs Q E hr hsp=>?_
 obtain⟨t,h,q⟩:=hbody A outer s H vs Q E hr hsp
 exact⟨t,h.nox,q⟩
theorem fun_okC {P:Program}{w:World}{K:zav4}{mg:Str→Option Value}{base:BHeap}{x qual:Str}{st:Stmt}{f:Addr}{fd:FuncData}{N ps:List Str}{k:Nat}{G:List D→Option Ev} (Fn:L2.Fun K x qual st f fd) (S:FnScope N ps (zb1 st))
  (hlen:∀ds r,G ds=some r→ds.length=ps.length) (g:DS) (hG:∀ds r,G ds=some r→∃o,g (zk1 N ds)=some o∧zh9 o=some r)
  (hbody:∀(A:Around) (outer:List Env) (s:zaw4) (H:Hp) (E:XK) (F:List Addr),Room k (A.deeper (envOfC qual (zb1 st) s.heap.objs.size f fd.code)) →
   PSs (cxOf CX0 P w K mg base N qual (zb1 st) f fd.code A outer s H E).nox (ze2 st) (dS K F g)):FnOk P w K mg base CX0 (k+1) f fd ps (spD K G):=by
 refine Fn.okC S (fun vs H Q E h=>?_) (fun A outer s H vs Q E hr h=>?_)
 ·obtain⟨Fo,ds,r,_,hr,hg,_⟩:=h
  rw [hr.length];exact hlen ds r hg
 ·obtain⟨Fo,ds,r,hl,hr',hg,cont⟩:=h
  obtain⟨o,ho,hoe⟩:=hG ds r hg
  refine⟨_,hbody A outer s H E Fo hr,dS_mk (A:=[]) (t:=zk1 N ds) ⟨hl,zay7,fun p hp=>(by cases hp),?_⟩ ho ?_⟩
  ·unfold zk1 L2.start
   rw [hr'.length]
   exact RSl.start (RSl.no_all _) hr'
  ·have sm:∀ {A' H'},Gr [] H A' H'→Same H H':=fun g b o q=>g.kp b o (by simp) q
   cases o with
   |nx t' =>
    cases hoe
    exact fun σ' H' A' g' R'=>cont .non H' (sm g') .non
   |bk t'=>cases hoe
   |ct t'=>cases hoe
   |rt r' =>
    cases hoe
    intro v H' A' g' q
    refine cont v H' (sm g') ?_
    cases r with
    |cl d=>exact q
    |tm d=>exact q
    |nw xs =>
     obtain⟨p,vs',rfl,h1,h2,h3,h4⟩:=q
     rcases h1 with h1 | h1
     ·cases h1
     ·exact⟨p,vs',rfl,h1,h3,h4⟩
    |dn d =>
     obtain⟨B,h1,h2,h3⟩:=q
     exact⟨B,h1,fun b hb=>by rcases (h2 b hb).1 with z | z;cases z;exact z,h3⟩
theorem code_tab {K:zav4}{x:Str}{f c P:Addr}{oc:Value}{od:Option Addr}{fd:FuncData}{sl:Array (Option Value)} (h:zbf8 K x=some (c,P)) (ha:zbb4 K mainGlobals x=some (some (.ref f))) (hl:K.lookup f=some ⟨oc,od,.func fd,sl⟩):fd.code=.ref c:=by
 unfold zbf8 at h
 rw [ha]at h
 simp only [hl]at h
 split at h
 ·rename_i c' hc
  split at h
  ·split at h
   ·cases h;exact hc
   ·cases h
  ·cases h
 ·cases h
end DL
namespace DL
open PySem.Spec L2
abbrev DM:=Th→Option (D×Th)
abbrev DMs:=Th→Option (List D×Th)
structure Mv (K:zav4) (F A:List Addr) (H H':Hp) (B A':List Addr) (t':Th) (σ:L2.St):Prop where
 sm:Same H H'
 nd:B.Nodup
 dj:∀b∈B,b∉F
 rs:RS K (B++F) H' A' t' σ
 fr:∀b∈B,b∈A∨H b=none
 sb:∀b∈A',b∈A
def tabOk (K:zav4) (x:Str):Bool:=match zbf8 K x with
 |some q=>(K.lookup q.2).isNone
 |none=>false
theorem tabOk_of {K:zav4}{x:Str} (h:tabOk K x=true):∃c P,zbf8 K x=some (c,P)∧K.lookup P=none:=by
 unfold tabOk at h
 split at h
 ·rename_i q e
  exact⟨q.1,q.2,e,by simpa using h⟩
 ·cases h
end DL
namespace TS
section
variable (κ π:Keyed→Int)
def rk (x:Keyed):Int:=κ x*1048576+π x
def Ris (l:List Keyed):Prop:=l.Pairwise fun a b=>rk κ π a≤rk κ π b
def Below (l m:List Keyed):Prop := ∀a∈l,∀b∈m,rk κ π a≤rk κ π b
variable {κ π}
structure Lo (X Y out:List Keyed) (i j:Nat):Prop where
 pm:out.Perm (X.take i++Y.take j)
 rs:Ris κ π out
 bx:Below κ π out (X.drop i)
 by':Below κ π out (Y.drop j)
variable {X Y out:List Keyed}{i j:Nat}
structure Hi (X Y out:List Keyed) (i j:Nat):Prop where
 pm:out.Perm (X.drop i++Y.drop j)
 rs:Ris κ π out.reverse
 bx:Below κ π (X.take i) out
 by':Below κ π (Y.take j) out
end
end TS
namespace TS
structure Cmp (M:Model) (A:Around) (E:Value→zaw4→Prop) (s:zaw4) (κ π:Keyed→Int) (a₀:Array Keyed) (kd:SortKind):Prop where
 lt:∀(st:SortSt) (x y:Keyed) (Q:Option Bool→SortSt→Prop),kindOf st=kd→x∈a₀.toList→y∈a₀.toList→Q (some (decide (κ x<κ y))) st→wpS M A E s (lt' x y) Q st
 pi:∀x∈a₀.toList,0≤π x∧π x<1048576
section
variable {M:Model}{A:Around}{E:Value→zaw4→Prop}{s:zaw4}{κ π:Keyed→Int}{a₀:Array Keyed}{kd:SortKind} (C:Cmp M A E s κ π a₀ kd)
structure SameS (st st':SortSt):Prop where
 arr:arrOf st'=arrOf st
 knd:kindOf st'=kindOf st
 pnd:pendingOf st'=pendingOf st
 fld:failedOf st'=failedOf st
theorem SameS.trans {a b c:SortSt} (h:SameS a b) (g:SameS b c):SameS a c:=⟨g.arr.trans h.arr,g.knd.trans h.knd,g.pnd.trans h.pnd,g.fld.trans h.fld⟩
structure Two (κ π:Keyed→Int) (a₀:Array Keyed) (xs ys:Array Keyed):Prop where
 mx:∀x∈xs.toList,x∈a₀.toList
 my:∀y∈ys.toList,y∈a₀.toList
 rx:Ris κ π xs.toList
 ry:Ris κ π ys.toList
 sep:∀x∈xs.toList,∀y∈ys.toList,π x≤π y
 px:0<xs.size
 py:0<ys.size
 first:∀x y,xs[0]?=some x→ys[0]?=some y→κ y<κ x
 last:∀x,xs[xs.size - 1]?=some x→∀y∈ys.toList,κ y<κ x
variable {xs ys:Array Keyed}{st:SortSt} (hk:kindOf st=kd) (T:Two κ π a₀ xs ys)
end
end TS
namespace TS
section
variable {M:Model}{A:Around}{E:Value→zaw4→Prop}{s:zaw4}{κ π:Keyed→Int}{a₀:Array Keyed}{kd:SortKind} (C:Cmp M A E s κ π a₀ kd)
def sepL (π:Keyed→Int) (l m:List Keyed):Prop := ∀a∈l,∀b∈m,π a≤π b
end
end TS
namespace TS
def kA (f:Keyed→Int) (xs:Array Keyed) (i:Nat):Int:=match xs[i]? with
 |some p=>f p
 |none=>0
structure Chg (xs zs:Array Keyed) (lo hi:Nat):Prop where
 pm:zs.Perm xs
 out:∀i,i<lo∨hi≤i→zs[i]?=xs[i]?
 ins:∀i,lo≤i→i<hi→∃j,lo≤j∧j<hi∧zs[i]?=xs[j]?
theorem Chg.size {xs zs:Array Keyed}{lo hi:Nat} (h:Chg xs zs lo hi):zs.size=xs.size:=h.pm.size_eq
section
variable {M:Model}{A:Around}{E:Value→zaw4→Prop}{s:zaw4}{κ π:Keyed→Int}{a₀:Array Keyed}{kd:SortKind} (C:Cmp M A E s κ π a₀ kd)
def rA (κ π:Keyed→Int) (xs:Array Keyed) (i:Nat):Int:=kA κ xs i*1048576+kA π xs i
structure TB (a₀:Array Keyed) (kd:SortKind) (st:SortSt):Prop where
 pm:(arrOf st).Perm a₀
 kind:kindOf st=kd
 fld:failedOf st=none
theorem TB.size {st:SortSt} (h:TB a₀ kd st):(arrOf st).size=a₀.size:=h.pm.size_eq
theorem TB.set {st:SortSt} (h:TB a₀ kd st) {zs:Array Keyed} (hp:zs.Perm (arrOf st)):TB a₀ kd (setArr st zs):=⟨hp.trans h.pm,h.kind,h.fld⟩
end
end TS
namespace TS
section
variable {M:Model}{A:Around}{E:Value→zaw4→Prop}{s:zaw4}{κ π:Keyed→Int}{a₀:Array Keyed}{kd:SortKind} (C:Cmp M A E s κ π a₀ kd)
structure Dn (κ π:Keyed→Int) (a₀:Array Keyed) (kd:SortKind) (st0:SortSt) (lo x q:Nat) (st:SortSt):Prop where
 tb:TB a₀ kd st
 pd:pendingOf st=pendingOf st0
 ch:Chg (arrOf st0) (arrOf st) lo (lo+x)
 le:q+1≤x
 un:∀i,lo+x - (q+1)≤i→(arrOf st)[i]?=(arrOf st0)[i]?
 eq:∀i,lo+x - (q+1)≤i→i<lo+x→kA κ (arrOf st) i=kA κ (arrOf st) (lo+x - 1)
 fl:∀i j,lo≤i→i≤j→j<lo+x - (q+1)→rA κ π (arrOf st) j≤rA κ π (arrOf st) i
 gt:∀i,lo≤i→i<lo+x - (q+1)→kA κ (arrOf st) (lo+x - 1)<kA κ (arrOf st) i
end
end TS
namespace TS
noncomputable def MatchP:Nat→List (List Keyed)→List (Nat×Nat×Nat)→Prop
 |_,[],[]=>True
 |lo,L::Ls,q::ps=>q.1=lo∧q.2.1=L.length∧MatchP (lo+L.length) Ls ps
 |_,_,_=>False
theorem MatchP.len:∀ {lo:Nat}{Ls:List (List Keyed)}{ps:List (Nat×Nat×Nat)},MatchP lo Ls ps→Ls.length=ps.length
 |_,[],[],_=>rfl
 |_,L::Ls,q::ps,h=>by simp [MatchP.len h.2.2]
 |_,[],_::_,h=>h.elim
 |_,_::_,[],h=>h.elim
section
variable {M:Model}{A:Around}{E:Value→zaw4→Prop}{s:zaw4}{κ π:Keyed→Int}{a₀:Array Keyed}{kd:SortKind} (C:Cmp M A E s κ π a₀ kd)
structure Runs (κ π:Keyed→Int) (a₀:Array Keyed) (kd:SortKind) (st:SortSt) (Ls:List (List Keyed)) (post:List Keyed):Prop where
 tb:TB a₀ kd st
 ar:(arrOf st).toList=Ls.flatten++post
 mt:MatchP 0 Ls (pendingOf st).toList
 ok:∀L∈Ls,Ris κ π L∧L≠[]
 sp:Ls.Pairwise (sepL π)
end
end TS
namespace TS
section
variable {M:Model}{A:Around}{E:Value→zaw4→Prop}{s:zaw4}{κ π:Keyed→Int}{a₀:Array Keyed}{kd:SortKind} (C:Cmp M A E s κ π a₀ kd)
structure Btw (κ π:Keyed→Int) (a₀:Array Keyed) (kd:SortKind) (lo:Nat) (st:SortSt) (Ls:List (List Keyed)) (rest:List Keyed):Prop where
 rn:Runs κ π a₀ kd st Ls rest
 ln:Ls.flatten.length=lo
 sp:sepL π Ls.flatten rest
 up:rest.Pairwise fun a b=>π a≤π b
end
end TS
namespace TS
section
variable {prog:Program}{w:World}{A:Around}{E:Value→zaw4→Prop}{s:zaw4}
def nP (z:Keyed):Int×Int:=(numOf z.1,numOf z.2)
end
end TS
namespace L2
open PySem.Spec TS
section
variable {prog:Program}{w:World}{A:Around}{E:Value→zaw4→Prop}{s:zaw4}
theorem zal2 {u:Value}{kw:List (Str×Value)}{Q:Value→zaw4→Prop}{P:List Value→Prop} (ha1:argsOk "sorted" ⟨[u],kw⟩) (ha2:∀x,argsOk "list.sort" ⟨[.ref x],kw⟩)
  (col:∀R:List Value→zaw4→Prop,(∀(h':Heap) (tk:Nat) (us:List Value),(∀b o,s.heap.get? b=some o→h'.get? b=some o)→s.heap.objs.size≤h'.objs.size→P us→us.length≤100000→R us { s with heap:=h',toks:=tk })→wpAny (model prog w) A.in1 (collect u) R E s)
  (srt:∀(h':Heap) (tk:Nat) (us:List Value),(∀b o,s.heap.get? b=some o→h'.get? b=some o)→s.heap.objs.size≤h'.objs.size→P us→us.length≤100000 →
   wpAny (model prog w) A.in1.in1 (Builtin.«list.sort» ⟨[.ref h'.objs.size],kw⟩) (fun fin s'=>fin=.done (.ret .none)∧Q (.ref h'.objs.size) s') E { s with heap:=h'.push (seqObj "list" us.toArray 0),toks:=tk }) :
  wpAny (model prog w) A (call (.builtin "sorted") [u] kw) Q E s:=by
 refine call_function_entry_kw kind_sorted plain_sorted entry_sorted ha1 ?_
 unfold Builtin.«sorted»
 refine zav6 (m:=checkCount "sorted" 1 1 _) (zaw3 ?_)
 refine zav6 (col _ fun h' tk us hk hz hp hl=>?_)
 refine zav6 (wpAny_newList ?_ (by rw [sizeLine_eq];lia))
 have hoL:(h'.push (seqObj "list" us.toArray 0)).get? h'.objs.size=some (seqObj "list" us.toArray 0):=zax2 _ rfl
 refine zav6 (wpAny_holding (wpAny_call_entry_kw slot_list_sort ⟨_,hoL,rfl⟩ entry_list_sort ?_ (ha2 _)))
 refine wpAny_mono (srt h' tk us hk hz hp hl) (fun fin s' hq=>?_) fun _ _ e=>e
 obtain⟨rfl,hq⟩:=hq
 exact⟨_,rfl,zaw3 ⟨_,rfl,hq⟩⟩
end
end L2
namespace DL
open PySem.Spec L2 TS
def natsI (n:Nat):List Int:=(zaz7 n).map fun (i:Nat)=>(i:Int)
end DL
namespace TS
def RawD (h:Heap) (d:Addr) (es:Array DictEntry) (ep:Nat):Prop := ∃o,h.get? d=some o∧o.ExactDict∧o.data=.dict es ep
theorem RawD.ty {s:zaw4}{d:Addr}{es:Array DictEntry}{ep:Nat} (x:RawD s.heap d es ep):s.TypeIs (.ref d) "dict":=let ⟨o,a,r,_⟩:=x;⟨o,a,r.1⟩
section
variable {prog:Program}{w:World}{A:Around}{E:Value→zaw4→Prop}{s:zaw4}
theorem raw_iter {d:Addr}{es:Array DictEntry}{ep:Nat}{Q:Value→zaw4→Prop} (nm:(d == sysModules)=false) (x:RawD s.heap d es ep)
  (q:Q (.ref s.heap.objs.size) { s with heap:=s.heap.push { cls:=.type "dict_keyiterator",data:=.fields #[.ref d,.int 0 0,.int es.size 0,.int ep 0] } }):wpAny (model prog w) A (pyIter (.ref d)) Q E s:=by
 have ty:=x.ty
 obtain⟨o,a,r,dd⟩:=x
 refine wpAny_pyIter_slot ty F.slot_dict_iter (wpAny_call_entry F.slot_dict_iter ty F.entry_dict_iter ?_ (F.args_dict_iter_1 _))
 unfold Builtin.«dict.__iter__» Builtin.Dict.dictSlotNone
 refine zav6 (zav6 (wpAny_notOrdered_dict ty ?_))
 show wpAny _ _ (pure (Value.ref d)) _ _ s
 refine zaw3 ?_
 show wpAny _ _ (Builtin.Dict.showsAll d >>= _) _ _ s
 unfold Builtin.Dict.showsAll
 rw [if_neg (by rw [nm];exact zax5)]
 refine zav6 (zaw3 (zav6 (wpAny_dictEntries a dd (zav6 (wpAny_dictEpoch a dd ?_)))))
 exact zav6 (wpAny_newObj_type (zaw3 ⟨_,rfl, "dict_keyiterator",_,⟨_,zax2 _ rfl,rfl⟩,F.slot_dict_keyiterator_next.lookup,by simpa [rawInt] using q⟩))
theorem raw_head {it d:Addr}{i ep:Nat}{es:Array DictEntry}{Q:Option Value→zaw4→Prop} (ki:s.heap.IsKeyIter it d i es.size ep) (x:RawD s.heap d es ep) (hi:i<es.size)
  (q:∀h',h'.IsKeyIter it d (i+1) es.size ep→Heap.SameBut it s.heap h'→Q (some es[i].key) { s with heap:=h' }):wpAny (model prog w) A (pyNext (.ref it)) Q E s:=by
 have ty:=ki.typeIs
 obtain⟨o,ho,hc,hd⟩:=ki
 obtain⟨od,a,r,dd⟩:=x
 have ow:Builtin.Dict_items.ownsTuple "dict_keyiterator"=false:=by decide
 have nn : ¬ ((Value.ref d == Value.none)=true):=zax5
 unfold pyNext
 refine zav6 (wpAny_attempt (wpAny_callSpecial?_slot (name:=Str.ofString "__next__") ty F.slot_dict_keyiterator_next (wpAny_call_entry F.slot_dict_keyiterator_next ty F.entry_dict_keyiterator_next ?_ (F.args_dict_keyiterator_next_1 _))))
 refine zav6 (zaw3 (zav6 (zav6 ?_)))
 first | refine zav6 (wpAny_typeNameOfWhole_keyiter ty (zaw3 (zav6 (wpAny_fieldsOf ho hd ?_)))) |refine zav6 (wpAny_typeNameOf_keyiter ty (zaw3 (zav6 (wpAny_fieldsOf ho hd ?_))))
 simp only [ow,zaz3,if_false]
 show wpAny _ _ (if (Value.ref d == Value.none)=true then _ else _) _ _ s
 rw [if_neg nn]
 refine zav6 (zaw3 (zav6 (wpAny_dictEntries a dd ?_)))
 rw [if_neg (by simp)]
 refine zav6 (zaw3 (zav6 (wpAny_dictEpoch a dd ?_)))
 rw [if_neg (by simp)]
 refine zaw3 ?_
 have ng : ¬ ((i:Int)<0):=by lia
 simp only [ng,if_false,zbc1,zbh3 hi]
 refine zav6 ?_
 first | refine zav6 (wpAny_typeNameOfWhole_keyiter ty (zaw3 (zav6 (wpAny_isOneOf_keyiter ty ?_)))) |refine zav6 (wpAny_typeNameOf_keyiter ty (zaw3 (zav6 (wpAny_isOneOf_keyiter ty ?_))))
 show wpAny _ _ (setField (.ref it) 1 (rawInt ((i:Int)+1)) >>= _) _ _ s
 refine zav6 (wpAny_setField ho hd (by simp) ?_)
 have k2:(s.heap.update it (Obj.mapFields (·.setIfInBounds 1 (rawInt ((i:Int)+1))))).IsKeyIter it d (i+1) es.size ep:=⟨_,Heap.get?_update_self _ ho (Obj.isFreed_of_fields (Obj.data_mapFields hd _)),(Obj.cls_mapFields ..).trans hc,by rw [Obj.data_mapFields hd];simp [rawInt]⟩
 refine zav6 (wpAny_holding (zav6 (wpAny_isOneOf_keyiter (s:={ s with heap:=s.heap.update it (Obj.mapFields (·.setIfInBounds 1 (rawInt ((i:Int)+1)))) }) k2.typeIs ?_)))
 show wpAny _ _ (pure es[i].key) _ _ _
 exact zaw3 (zaw3 ⟨_,rfl,zaw3 (q _ k2 (Heap.SameBut.update ..))⟩)
theorem raw_end {it d:Addr}{ep:Nat}{es:Array DictEntry}{Q:Option Value→zaw4→Prop} (hh:A.handled=none) (ki:s.heap.IsKeyIter it d es.size es.size ep) (x:RawD s.heap d es ep)
  (q:∀h',Heap.ExtBut it s.heap h'→Q none { s with heap:=h' }):wpAny (model prog w) A (pyNext (.ref it)) Q E s:=by
 have ty:=ki.typeIs
 obtain⟨o,ho,hc,hd⟩:=ki
 obtain⟨od,a,r,dd⟩:=x
 have ow:Builtin.Dict_items.ownsTuple "dict_keyiterator"=false:=by decide
 have nn : ¬ ((Value.ref d == Value.none)=true):=zax5
 unfold pyNext
 refine zav6 (wpAny_attempt (wpAny_callSpecial?_slot (name:=Str.ofString "__next__") ty F.slot_dict_keyiterator_next (wpAny_call_entry F.slot_dict_keyiterator_next ty F.entry_dict_keyiterator_next ?_ (F.args_dict_keyiterator_next_1 _))))
 refine zav6 (zaw3 (zav6 (zav6 ?_)))
 first | refine zav6 (wpAny_typeNameOfWhole_keyiter ty (zaw3 (zav6 (wpAny_fieldsOf ho hd ?_)))) |refine zav6 (wpAny_typeNameOf_keyiter ty (zaw3 (zav6 (wpAny_fieldsOf ho hd ?_))))
 simp only [ow,zaz3,if_false]
 show wpAny _ _ (if (Value.ref d == Value.none)=true then _ else _) _ _ s
 rw [if_neg nn]
 refine zav6 (zaw3 (zav6 (wpAny_dictEntries a dd ?_)))
 rw [if_neg (by simp)]
 refine zav6 (zaw3 (zav6 (wpAny_dictEpoch a dd ?_)))
 rw [if_neg (by simp)]
 refine zaw3 ?_
 have ng : ¬ ((es.size:Int)<0):=by lia
 simp only [ng,if_false,zbc1,Array.getElem?_eq_none (zaw7 es.size)]
 refine zav6 ?_
 first | refine zav6 (wpAny_typeNameOfWhole_keyiter ty (zaw3 ?_)) |refine zav6 (wpAny_typeNameOf_keyiter ty (zaw3 ?_))
 show wpAny _ _ (setField (.ref it) 0 .none >>= _) _ _ s
 refine zav6 (wpAny_setField ho hd (by simp) ?_)
 show wpAny _ _ (newExc (.type "StopIteration") [] >>= _) _ _ _
 refine zav6 ?_
 simp only [newExc,newTuple]
 refine zav6 (wpAny_newObj_type (zav6 (m:=firstArgMember _ _) (wpAny_of_eq (a:=Value.none) (by first | rfl | (simp only [firstArgMember];rfl)) ?_)) (by size_fits))
 refine wpAny_newObj_type ?_ (by size_fits)
 simp only [raiseNew]
 refine zav6 (wpAny_handled ?_)
 rw [show A.in1.handled=none from hh]
 refine zav6 (zaw3 (wpAny_throw ?_))
 refine zav6 (wpAny_isInstance (T := "StopIteration") (b:=true) ⟨_,zax2 _ rfl,rfl⟩ isSubtype_stop ?_)
 exact zaw3 (q _ (((Heap.SameBut.update ..).extBut.push _).push _))
end
end TS
namespace TS
def adr:Value→Addr
 |.ref a=>a
 |_=>0
end TS
namespace DL
open PySem.Spec L2
noncomputable def spT (K:zav4) (G:D→List D→List D→D→Option (List Int×List Int)):Sp:=fun vs H Q _ => ∃(v0 v3:V) (p q:Addr) (ws us:List V) (d0 d3:D) (xs ys:List D) (r:List Int×List Int),vs=[v0,.ref p,.ref q,v3]∧p≠q∧H p=some (.lst ws)∧H q=some (.lst us) ∧
 Rep K (hide [p,q] H) d0 v0∧Reps K (hide [p,q] H) xs ws∧Reps K (hide [p,q] H) ys us∧Rep K (hide [p,q] H) d3 v3∧G d0 xs ys d3=some r ∧
 ∀H',(∀b o,b≠p→b≠q→H b=some o→H' b=some o)→H' p=some (.lst (r.1.map V.int))→H' q=some (.lst (r.2.map V.int))→Q .non H'
structure CalT (P:Program) (w:World) (K:zav4) (mg:Str→Option Value) (base:BHeap) (x:Str) (k:Nat) (G:D→List D→List D→D→Option (List Int×List Int)):Prop where
 ex:∃(a:Addr) (fd:FuncData) (ps:List Str),mg x=some (.ref a)∧zba4 K (.ref a)=true∧L2.Binds K fd ps []∧FnOk P w K mg base CX0 k a fd ps (spT K G)
end DL
namespace TS
noncomputable def RawS (h:Heap) (a:Addr) (es:Array (Int×Value)) (ep:Nat) (t:SetTable):Prop := ∃o,h.get? a=some o∧o.ExactSet∧o.data=.set es ep t∧t.fits es.size=true
noncomputable def ItS (h:Heap) (I:Addr) (f:Value) (i:Nat) (a:Addr) (n ep:Nat):Prop := ∃o,h.get? I=some o∧o.cls=.type "set_iterator"∧o.data=.fields #[f,.int i 0,.ref a,.int n 0,.int ep 0]
theorem ItS.ty {s:zaw4}{I a:Addr}{f:Value}{i n ep:Nat} (x:ItS s.heap I f i a n ep):s.TypeIs (.ref I) "set_iterator":=let ⟨o,g,c,_⟩:=x;⟨o,g,c⟩
theorem RawS.ty {s:zaw4}{a:Addr}{es:Array (Int×Value)}{ep:Nat}{t:SetTable} (x:RawS s.heap a es ep t):s.TypeIs (.ref a) "set":=let ⟨o,g,r,_⟩:=x;⟨o,g,r.1⟩
end TS
namespace L2
open PySem.Spec
open AutoSeq1 (wpAny_loadPart')
theorem zr4 {M:Model}{A:Around}{E:Value→zaw4→Prop}{s:zaw4}{a:Addr}{Q:Option Obj→zaw4→Prop} (h:Q (s.heap.get? a) s):wpAny M A (loadIfAlive a) Q E s:=by
 intro Γ p hp
 unfold loadIfAlive
 rw [Sem.wp_loadIfAlive]
 exact zaw3 h Γ p hp
noncomputable def IsZ (h:Heap) (z TI TO:Addr):Prop := ∃(f0:Value) (b1:Bool),(f0=.none∨∃a:Nat,f0=rawInt a)∧h.get? z=some { cls:=.type "zip",dict:=none,data:=.fields #[f0,.bool b1,.bool false,.ref TI,.ref TO],slots := #[] }
section
variable {prog:Program}{w:World}{A:Around}{E:Value→zaw4→Prop}{s:zaw4}
theorem zar7 {z TI TO:Addr}{f0:Value}{b1:Bool}{Q:Bool→zaw4→Prop} (hf:f0=.none∨∃a:Nat,f0=rawInt a) (hz:s.heap.get? z=some { cls:=.type "zip",dict:=none,data:=.fields #[f0,.bool b1,.bool false,.ref TI,.ref TO],slots := #[] })
  (h1:Q true s) (h2:∀h',(∃b,h'.get? z=some { cls:=.type "zip",dict:=none,data:=.fields #[f0,.bool b,.bool false,.ref TI,.ref TO],slots := #[] })→Heap.SameBut z s.heap h'→Q false { s with heap:=h' }) :
  wpAny (model prog w) A (Builtin.SmallTypes.ownedTupleIsFree (.ref z)) Q E s:=by
 unfold Builtin.SmallTypes.ownedTupleIsFree
 rcases hf with rfl | ⟨a,rfl⟩
 ·exact zav6 (wpAny_field hz rfl (x:=.none) rfl (zaw3 h1))
 ·refine zav6 (wpAny_field hz rfl (x:=rawInt a) rfl ?_)
  show wpAny _ _ (loadIfAlive _ >>= _) _ _ s
  refine zav6 (zr4 ?_)
  cases e:s.heap.get? (Int.toNat (a:Int)) with
  |none =>
   simp only [Option.isNone_none,if_true]
   exact zaw3 h1
  |some o =>
   simp only [Option.isNone_some,zaz3,if_false]
   refine zav6 (wpAny_field hz rfl (x:=.bool b1) rfl ?_)
   cases b1 with
   |true =>
    have:(Value.bool true != Value.bool true)=false:=by decide
    simp only [this,zaz3,if_false]
    exact zaw3 (h2 s.heap ⟨_,hz⟩ (Heap.SameBut.refl ..))
   |false =>
    have:(Value.bool false != Value.bool true)=true:=by decide
    simp only [this,if_true]
    refine zav6 (wpAny_setField_rec hz (by simp) fun h' hz' hs'=>zaw3 (h2 h' ⟨true,hz'⟩ hs'))
theorem zitem {z TI TO i1 i2 l1 l2:Addr}{k1 k2:Nat}{xs ys:Array Value}{x y:Value}{Q:Value→zaw4→Prop} (D:ZipApart z TI TO i1 i2 l1 l2)
  (hZ:IsZ s.heap z TI TO) (hTI:IsPair s.heap TI (.ref i1) (.ref i2)) (hTO:∃a b,IsPair s.heap TO a b)
  (h1:s.heap.IsListIter i1 l1 k1) (h2:s.heap.IsListIter i2 l2 k2) (hl1:s.heap.IsList l1 xs) (hl2:s.heap.IsList l2 ys) (hx:xs[k1]?=some x) (hy:ys[k2]?=some y)
  (hQ:∀h',IsZ h' z TI TO→(∃a b,IsPair h' TO a b)→h'.IsListIter i1 l1 (k1+1)→h'.IsListIter i2 l2 (k2+1)→IsPair h' s.heap.objs.size x y→h'.objs.size=s.heap.objs.size+1 →
   (∀c o,c≠z→c≠TO→c≠i1→c≠i2→s.heap.get? c=some o→h'.get? c=some o)→Q (.ref s.heap.objs.size) { s with heap:=h' }) :
  wpAny (model prog w) A (Builtin.«zip.__next__» ⟨[.ref z],[]⟩) (fun fin s' => ∃v,fin=.done (.ret v)∧Q v s') E s:=by
 obtain⟨f0,b1,hf,hz⟩:=hZ
 obtain⟨a,b,hTO⟩:=hTO
 show wpAny _ _ (field (.ref z) 2 >>= _) _ _ _
 refine zav6 (wpAny_field hz rfl (x:=.bool false) rfl ?_)
 show wpAny _ _ (field (.ref z) 3 >>= _) _ _ _
 refine zav6 (wpAny_field hz rfl (x:=.ref TI) rfl ?_)
 refine zav6 (wpAny_seqItems hTI rfl ?_)
 show wpAny _ _ (Builtin.SmallTypes.ownedTupleIsFree (.ref z) >>= _) _ _ _
 refine zav6 (zar7 hf hz ?_ fun h₀ ⟨b2,hz₀⟩ hs₀=>?_)
 ·simp only [if_true]
  refine zav6 (wpAny_rule ?_)
  refine zav6 (wpAny_field hz rfl (x:=.ref TO) rfl ?_)
  refine zav6 (wpAny_setField_rec hz (by simp) fun h₁ hz₁ hs₁=>?_)
  replace hz₁:h₁.get? z=some { cls:=.type "zip",dict:=none,data:=.fields #[.ellipsis,.bool b1,.bool false,.ref TI,.ref TO],slots := #[] }:=hz₁
  refine zav6 ?_
  simp only [zbm0,List.zipIdx_nil,zbd7,zbe7]
  refine zav6 (zav6 (wpAny_onRaise ?_))
  show wpAny _ _ (Builtin.SmallTypes.nextOf (.ref i1) >>= _) _ _ _
  refine zav6 (wpAny_nextOf_list_item (h1.extBut hs₁.extBut D.i1z) (hl1.extBut hs₁.extBut D.l1z) hx fun h₂ h1₂ hs₂=>zaw3 ?_)
  have hTO₂:IsPair h₂ TO a b:=hs₂.extBut _ _ D.TOi1 (hs₁.extBut _ _ D.TOz hTO)
  refine zav6 (wpAny_seqItems hTO₂ rfl ?_)
  refine zav6 (wpAny_updateSeq_pair hTO₂ fun h₃ hTO₃ hs₃=>?_)
  replace hTO₃:IsPair h₃ TO x b:=hTO₃
  refine zav6 (wpAny_letGo (zaw3 ?_))
  refine zav6 (zav6 (wpAny_onRaise ?_))
  show wpAny _ _ (Builtin.SmallTypes.nextOf (.ref i2) >>= _) _ _ _
  refine zav6 (wpAny_nextOf_list_item (((h2.extBut hs₁.extBut D.i2z).extBut hs₂.extBut D.i12.symm).extBut hs₃.extBut D.TOi2.symm)
   (((hl2.extBut hs₁.extBut D.l2z).extBut hs₂.extBut D.l2i1).extBut hs₃.extBut D.l2TO) hy fun h₄ h2₄ hs₄=>zaw3 ?_)
  have hTO₄:IsPair h₄ TO x b:=hs₄.extBut _ _ D.TOi2 hTO₃
  refine zav6 (wpAny_seqItems hTO₄ rfl ?_)
  refine zav6 (wpAny_updateSeq_pair hTO₄ fun h₅ hTO₅ hs₅=>?_)
  replace hTO₅:IsPair h₅ TO x y:=hTO₅
  refine zav6 (wpAny_letGo (zaw3 (zaw3 ?_)))
  refine zav6 (wpAny_seqItems hTO₅ rfl ?_)
  refine zav6 (wpAny_newTuple ?_)
  have hsz:h₅.objs.size=s.heap.objs.size:=by rw [hs₅.1,hs₄.1,hs₃.1,hs₂.1,hs₁.1]
  have hz₅:=hs₅.extBut _ _ D.TOz.symm (hs₄.extBut _ _ D.i2z.symm (hs₃.extBut _ _ D.TOz.symm (hs₂.extBut _ _ D.i1z.symm hz₁)))
  have hk₅:∀c o,c≠z→c≠TO→c≠i1→c≠i2→s.heap.get? c=some o→h₅.get? c=some o:=fun c o c1 c2 c3 c4 e =>
   hs₅.extBut _ _ c2 (hs₄.extBut _ _ c4 (hs₃.extBut _ _ c2 (hs₂.extBut _ _ c3 (hs₁.extBut _ _ c1 e))))
  have h1₅:h₅.IsListIter i1 l1 (k1+1):=((h1₂.extBut hs₃.extBut D.TOi1.symm).extBut hs₄.extBut D.i12).extBut hs₅.extBut D.TOi1.symm
  have h2₅:h₅.IsListIter i2 l2 (k2+1):=h2₄.extBut hs₅.extBut D.TOi2.symm
  have hzlt:z<h₅.objs.size:=zaw9 hz₅
  show wpAny _ _ (Builtin.SmallTypes.ownedTupleHandOut (.ref z) (.ref h₅.objs.size) >>= _) _ _ _
  refine zav6 ?_
  unfold Builtin.SmallTypes.ownedTupleHandOut
  have hz₆:=zav7 { cls:=.type "tuple",data:=.seq #[x,y] } hz₅
  refine zav6 (wpAny_setField_rec hz₆ (by simp) fun h₇ hz₇ hs₇=>?_)
  refine wpAny_setField_rec hz₇ (by simp) fun h₈ hz₈ hs₈=>?_
  have up:∀c o,c≠z→h₅.get? c=some o→h₈.get? c=some o:=fun c o c1 e=>hs₈.extBut _ _ c1 (hs₇.extBut _ _ c1 (zav7 _ e))
  have hT₈:IsPair h₈ h₅.objs.size x y:=hs₈.extBut _ _ (zba7 hzlt) (hs₇.extBut _ _ (zba7 hzlt) (zax2 _ rfl))
  have hz8:h₈.objs.size=h₅.objs.size+1:=by rw [hs₈.1,hs₇.1,zbe6]
  rw [hsz]at hT₈ hz8
  refine zaw3 ⟨_,rfl,?_⟩
  show Q (.ref h₅.objs.size) _
  rw [hsz]
  exact hQ h₈ ⟨_,false,.inr ⟨_,rfl⟩,hz₈⟩ ⟨x,y,up _ _ D.TOz hTO₅⟩ (h1₅.at fun o e=>up _ o D.i1z e) (h2₅.at fun o e=>up _ o D.i2z e) hT₈ hz8 fun c o c1 c2 c3 c4 e=>up c o c1 (hk₅ c o c1 c2 c3 c4 e)
 ·simp only [zaz3,if_false]
  show wpAny _ _ (forIn (#[Value.ref i1,.ref i2]:Array Value) _ _ >>= _) _ _ _
  rw [← zbl0]
  simp only [zbd7,zbe7]
  refine zav6 ?_
  refine zav6 (zav6 (wpAny_holding ?_))
  show wpAny _ _ (Builtin.SmallTypes.nextOf (.ref i1) >>= _) _ _ _
  refine zav6 (wpAny_nextOf_list_item (h1.extBut hs₀.extBut D.i1z) (hl1.extBut hs₀.extBut D.l1z) hx fun h₂ h1₂ hs₂=>zaw3 (zaw3 ?_))
  refine zav6 (zav6 (wpAny_holding ?_))
  show wpAny _ _ (Builtin.SmallTypes.nextOf (.ref i2) >>= _) _ _ _
  refine zav6 (wpAny_nextOf_list_item ((h2.extBut hs₀.extBut D.i2z).extBut hs₂.extBut D.i12.symm) ((hl2.extBut hs₀.extBut D.l2z).extBut hs₂.extBut D.l2i1) hy fun h₄ h2₄ hs₄=>zaw3 (zaw3 (zaw3 ?_)))
  refine zav6 (wpAny_newTuple (hsz:=by show 2≤sizeLine;decide) ?_)
  have hsz:h₄.objs.size=s.heap.objs.size:=by rw [hs₄.1,hs₂.1,hs₀.1]
  have up:∀c o,c≠z→c≠i1→c≠i2→s.heap.get? c=some o→(h₄.push { cls:=.type "tuple",data:=.seq #[x,y] }).get? c=some o:=fun c o c1 c3 c4 e=>zav7 _ (hs₄.extBut _ _ c4 (hs₂.extBut _ _ c3 (hs₀.extBut _ _ c1 e)))
  have hz₄:=zav7 { cls:=.type "tuple",data:=.seq #[x,y] } (hs₄.extBut _ _ D.i2z.symm (hs₂.extBut _ _ D.i1z.symm hz₀))
  refine zaw3 ⟨_,rfl,?_⟩
  show Q (.ref h₄.objs.size) _
  have q:=hQ (h₄.push { cls:=.type "tuple",data:=.seq #[x,y] }) ⟨f0,b2,hf,hz₄⟩ ⟨a,b,up _ _ D.TOz D.TOi1 D.TOi2 hTO⟩ ((h1₂.extBut hs₄.extBut D.i12).at fun o e=>zav7 _ e) (h2₄.at fun o e=>zav7 _ e) (by rw [← hsz];exact zax2 _ rfl) (by rw [zbe6,hsz]) fun c o c1 c2 c3 c4 e=>up c o c1 c3 c4 e
  rw [hsz]
  exact q
theorem zend {z TI TO i1 i2 l1 l2:Addr}{k1 k2:Nat}{xs ys:Array Value}{Q:Fin→zaw4→Prop} (hh:A.handled=none) (D:ZipApart z TI TO i1 i2 l1 l2)
  (hZ:IsZ s.heap z TI TO) (hTI:IsPair s.heap TI (.ref i1) (.ref i2)) (hTO:∃a b,IsPair s.heap TO a b)
  (h1:s.heap.IsListIter i1 l1 k1) (h2:s.heap.IsListIter i2 l2 k2) (hl1:s.heap.IsList l1 xs) (hl2:s.heap.IsList l2 ys) (hend:xs[k1]?=none∨ys[k2]?=none)
  (hE:∀h' e,(∀c o,c≠z→c≠TO→c≠i1→c≠i2→s.heap.get? c=some o→h'.get? c=some o)→(∃o,h'.get? e=some o∧o.cls=.type "StopIteration")→E (.ref e) { s with heap:=h' }) :
  wpAny (model prog w) A (Builtin.«zip.__next__» ⟨[.ref z],[]⟩) Q E s:=by
 obtain⟨f0,b1,hf,hz⟩:=hZ
 obtain⟨a,b,hTO⟩:=hTO
 show wpAny _ _ (field (.ref z) 2 >>= _) _ _ _
 refine zav6 (wpAny_field hz rfl (x:=.bool false) rfl ?_)
 show wpAny _ _ (field (.ref z) 3 >>= _) _ _ _
 refine zav6 (wpAny_field hz rfl (x:=.ref TI) rfl ?_)
 refine zav6 (wpAny_seqItems hTI rfl ?_)
 show wpAny _ _ (Builtin.SmallTypes.ownedTupleIsFree (.ref z) >>= _) _ _ _
 refine zav6 (zar7 hf hz ?_ fun h₀ ⟨b2,hz₀⟩ hs₀=>?_)
 ·simp only [if_true]
  refine zav6 (wpAny_rule ?_)
  refine zav6 (wpAny_field hz rfl (x:=.ref TO) rfl ?_)
  refine zav6 (wpAny_setField_rec hz (by simp) fun h₁ hz₁ hs₁=>?_)
  replace hz₁:h₁.get? z=some { cls:=.type "zip",dict:=none,data:=.fields #[.ellipsis,.bool b1,.bool false,.ref TI,.ref TO],slots := #[] }:=hz₁
  refine zav6 ?_
  simp only [zbm0,List.zipIdx_nil,zbd7,zbe7]
  refine zav6 (zav6 (wpAny_onRaise ?_))
  show wpAny _ _ (Builtin.SmallTypes.nextOf (.ref i1) >>= _) _ _ _
  cases hx:xs[k1]? with
  |none =>
   refine zav6 (wpAny_nextOf_list_end hh (h1.extBut hs₁.extBut D.i1z) (hl1.extBut hs₁.extBut D.l1z) hx fun h₂ e hs₂ he=>?_)
   obtain⟨oe,hoe,hce⟩:=he
   have hz₂:=hs₂ _ _ D.i1z.symm hz₁
   have hez:e≠z:=fun x=>by subst x;rw [hz₂]at hoe;cases hoe;simp at hce
   refine wpAny_setField_rec hz₂ (by simp) fun h₃ _ hs₃=>hE h₃ e (fun c o c1 _ c3 _ x=>hs₃.extBut _ _ c1 (hs₂ _ _ c3 (hs₁.extBut _ _ c1 x))) ⟨oe,hs₃.extBut _ _ hez hoe,hce⟩
  |some x =>
   have hy:ys[k2]?=none:=by rcases hend with h | h;rw [hx]at h;cases h;exact h
   refine zav6 (wpAny_nextOf_list_item (h1.extBut hs₁.extBut D.i1z) (hl1.extBut hs₁.extBut D.l1z) hx fun h₂ h1₂ hs₂=>zaw3 ?_)
   have hTO₂:IsPair h₂ TO a b:=hs₂.extBut _ _ D.TOi1 (hs₁.extBut _ _ D.TOz hTO)
   refine zav6 (wpAny_seqItems hTO₂ rfl ?_)
   refine zav6 (wpAny_updateSeq_pair hTO₂ fun h₃ hTO₃ hs₃=>?_)
   refine zav6 (wpAny_letGo (zaw3 ?_))
   refine zav6 (zav6 (wpAny_onRaise ?_))
   show wpAny _ _ (Builtin.SmallTypes.nextOf (.ref i2) >>= _) _ _ _
   refine zav6 (wpAny_nextOf_list_end hh (((h2.extBut hs₁.extBut D.i2z).extBut hs₂.extBut D.i12.symm).extBut hs₃.extBut D.TOi2.symm)
    (((hl2.extBut hs₁.extBut D.l2z).extBut hs₂.extBut D.l2i1).extBut hs₃.extBut D.l2TO) hy fun h₄ e hs₄ he=>?_)
   obtain⟨oe,hoe,hce⟩:=he
   have hz₄:=hs₄ _ _ D.i2z.symm (hs₃.extBut _ _ D.TOz.symm (hs₂.extBut _ _ D.i1z.symm hz₁))
   have hez:e≠z:=fun x=>by subst x;rw [hz₄]at hoe;cases hoe;simp at hce
   refine wpAny_setField_rec hz₄ (by simp) fun h₅ _ hs₅=>hE h₅ e (fun c o c1 c2 c3 c4 x=>hs₅.extBut _ _ c1 (hs₄ _ _ c4 (hs₃.extBut _ _ c2 (hs₂.extBut _ _ c3 (hs₁.extBut _ _ c1 x))))) ⟨oe,hs₅.extBut _ _ hez hoe,hce⟩
 ·simp only [zaz3,if_false]
  show wpAny _ _ (forIn (#[Value.ref i1,.ref i2]:Array Value) _ _ >>= _) _ _ _
  rw [← zbl0]
  simp only [zbd7,zbe7]
  refine zav6 ?_
  refine zav6 (zav6 (wpAny_holding ?_))
  show wpAny _ _ (Builtin.SmallTypes.nextOf (.ref i1) >>= _) _ _ _
  cases hx:xs[k1]? with
  |none =>
   refine zav6 (wpAny_nextOf_list_end hh (h1.extBut hs₀.extBut D.i1z) (hl1.extBut hs₀.extBut D.l1z) hx fun h₂ e hs₂ he=>hE h₂ e (fun c o c1 _ c3 _ x=>hs₂ _ _ c3 (hs₀.extBut _ _ c1 x)) he)
  |some x =>
   have hy:ys[k2]?=none:=by rcases hend with h | h;rw [hx]at h;cases h;exact h
   refine zav6 (wpAny_nextOf_list_item (h1.extBut hs₀.extBut D.i1z) (hl1.extBut hs₀.extBut D.l1z) hx fun h₂ h1₂ hs₂=>zaw3 (zaw3 ?_))
   refine zav6 (zav6 (wpAny_holding ?_))
   show wpAny _ _ (Builtin.SmallTypes.nextOf (.ref i2) >>= _) _ _ _
   exact zav6 (wpAny_nextOf_list_end hh ((h2.extBut hs₀.extBut D.i2z).extBut hs₂.extBut D.i12.symm) ((hl2.extBut hs₀.extBut D.l2z).extBut hs₂.extBut D.l2i1) hy fun h₄ e hs₄ he=>hE h₄ e (fun c o c1 _ c3 c4 x=>hs₄ _ _ c4 (hs₂.extBut _ _ c3 (hs₀.extBut _ _ c1 x))) he)
theorem nz_item {z TI TO i1 i2 l1 l2:Addr}{k1 k2:Nat}{xs ys:Array Value}{x y:Value}{Q:Value→zaw4→Prop} (D:ZipApart z TI TO i1 i2 l1 l2)
  (hZ:IsZ s.heap z TI TO) (hTI:IsPair s.heap TI (.ref i1) (.ref i2)) (hTO:∃a b,IsPair s.heap TO a b)
  (h1:s.heap.IsListIter i1 l1 k1) (h2:s.heap.IsListIter i2 l2 k2) (hl1:s.heap.IsList l1 xs) (hl2:s.heap.IsList l2 ys) (hx:xs[k1]?=some x) (hy:ys[k2]?=some y)
  (hQ:∀h',IsZ h' z TI TO→(∃a b,IsPair h' TO a b)→h'.IsListIter i1 l1 (k1+1)→h'.IsListIter i2 l2 (k2+1)→IsPair h' s.heap.objs.size x y→h'.objs.size=s.heap.objs.size+1 →
   (∀c o,c≠z→c≠TO→c≠i1→c≠i2→s.heap.get? c=some o→h'.get? c=some o)→Q (.ref s.heap.objs.size) { s with heap:=h' }) :
  wpAny (model prog w) A (Builtin.SmallTypes.nextOf (.ref z)) Q E s:=by
 have hT:s.TypeIs (.ref z) "zip":=by obtain⟨f0,b1,hf,hz⟩:=hZ;exact⟨_,hz,rfl⟩
 unfold Builtin.SmallTypes.nextOf
 exact zav6 (wpAny_callSpecial?_slot (name:=Str.ofString "__next__") hT F.slot_zip_next
  (wpAny_call_entry F.slot_zip_next hT F.entry_zip_next
   (zitem D hZ hTI hTO h1 h2 hl1 hl2 hx hy fun h' a1 a2 a3 a4 a5 a6 a7=>zaw3 (hQ h' a1 a2 a3 a4 a5 a6 a7)) (F.args_zip_next_1 _)))
theorem nz_end {z TI TO i1 i2 l1 l2:Addr}{k1 k2:Nat}{xs ys:Array Value}{Q:Value→zaw4→Prop} (hh:A.handled=none) (D:ZipApart z TI TO i1 i2 l1 l2)
  (hZ:IsZ s.heap z TI TO) (hTI:IsPair s.heap TI (.ref i1) (.ref i2)) (hTO:∃a b,IsPair s.heap TO a b)
  (h1:s.heap.IsListIter i1 l1 k1) (h2:s.heap.IsListIter i2 l2 k2) (hl1:s.heap.IsList l1 xs) (hl2:s.heap.IsList l2 ys) (hend:xs[k1]?=none∨ys[k2]?=none)
  (hE:∀h' e,(∀c o,c≠z→c≠TO→c≠i1→c≠i2→s.heap.get? c=some o→h'.get? c=some o)→(∃o,h'.get? e=some o∧o.cls=.type "StopIteration")→E (.ref e) { s with heap:=h' }) :
  wpAny (model prog w) A (Builtin.SmallTypes.nextOf (.ref z)) Q E s:=by
 have hT:s.TypeIs (.ref z) "zip":=by obtain⟨f0,b1,hf,hz⟩:=hZ;exact⟨_,hz,rfl⟩
 unfold Builtin.SmallTypes.nextOf
 exact zav6 (wpAny_callSpecial?_slot (name:=Str.ofString "__next__") hT F.slot_zip_next
  (wpAny_call_entry F.slot_zip_next hT F.entry_zip_next
   (zend hh D hZ hTI hTO h1 h2 hl1 hl2 hend hE) (F.args_zip_next_1 _)))
end
end L2
namespace L2
open PySem.Spec
open AutoSeq1 (wpAny_loadPart')
section
variable {prog:Program}{w:World}{A:Around}{E:Value→zaw4→Prop}{s:zaw4}
noncomputable def ZSt (z TI TO i1 i2 l1 l2:Addr) (i:Nat) (h:Heap):Prop:=IsZ h z TI TO∧IsPair h TI (.ref i1) (.ref i2)∧(∃a b,IsPair h TO a b)∧h.IsListIter i1 l1 i∧h.IsListIter i2 l2 i
theorem ZSt.at {z TI TO i1 i2 l1 l2:Addr}{i:Nat}{h h':Heap} (st:ZSt z TI TO i1 i2 l1 l2 i h) (k:∀b∈[z,TI,TO,i1,i2],∀o,h.get? b=some o→h'.get? b=some o):ZSt z TI TO i1 i2 l1 l2 i h':=by
 obtain⟨⟨f0,b1,hf,h1⟩,h2,⟨a,c,h3⟩,h4,h5⟩:=st
 exact⟨⟨f0,b1,hf,k z (by simp) _ h1⟩,k TI (by simp) _ h2,⟨a,c,k TO (by simp) _ h3⟩,h4.at fun o q=>k i1 (by simp) o q,h5.at fun o q=>k i2 (by simp) o q⟩
theorem ez_item {e z TI TO i1 i2 l1 l2:Addr}{i:Nat}{xs ys:Array Value}{x y old:Value}{Q:Value→zaw4→Prop} (D:ZipApart z TI TO i1 i2 l1 l2) (hne:e∉[z,TI,TO,i1,i2])
  (he:IsEnum s.heap e z i old) (st:ZSt z TI TO i1 i2 l1 l2 i s.heap) (hl1:s.heap.IsList l1 xs) (hl2:s.heap.IsList l2 ys) (hx:xs[i]?=some x) (hy:ys[i]?=some y)
  (hQ:∀h' item,IsEnumOut h' e z ((i:Int)+1) item (s.heap.objs.size+1)→ZSt z TI TO i1 i2 l1 l2 (i+1) h' →
   IsPair h' s.heap.objs.size x y→h'.get? (s.heap.objs.size+1)=some { cls:=.type "tuple",data:=.seq #[.int i s.toks,.ref s.heap.objs.size] } →
   (∀b o,b≠e→b∉[z,TI,TO,i1,i2]→s.heap.get? b=some o→h'.get? b=some o)→Q (.ref (s.heap.objs.size+1)) { s with heap:=h',toks:=s.toks+1 }) :
  wpAny (model prog w) A (Builtin.«enumerate.__next__» ⟨[.ref e],[]⟩) (fun fin s' => ∃v,fin=.done (.ret v)∧Q v s') E s:=by
 obtain⟨hp,g,d,tk,os⟩:=s
 have hel:e<hp.objs.size:=zaw9 he
 simp only [zaw6,zbb6,or_false,not_or]at hne
 obtain⟨n1,n2,n3,n4,n5⟩:=hne
 obtain⟨s1,s2,s3,s4,s5⟩:=st
 show wpAny _ _ (field (.ref e) 2 >>= _) _ _ _
 refine zav6 (wpAny_field he rfl (x:=.ref z) rfl ?_)
 refine zav6 (nz_item D s1 s2 s3 s4 s5 hl1 hl2 hx hy fun h₁ z1 z3 z4 z5 zp zs zk=>?_)
 replace zk:∀c o,c≠z→c≠TO→c≠i1→c≠i2→hp.get? c=some o→h₁.get? c=some o:=zk
 replace zs:h₁.objs.size=hp.objs.size+1:=zs
 replace zp:IsPair h₁ hp.objs.size x y:=zp
 have he₁:IsEnum h₁ e z i old:=zk _ _ n1 n3 n4 n5 he
 have st₁:ZSt z TI TO i1 i2 l1 l2 (i+1) h₁:=⟨z1,zk _ _ D.TIz D.TITO D.TIi1 D.TIi2 s2,z3,z4,z5⟩
 have zk':∀b o,b∉[z,TI,TO,i1,i2]→hp.get? b=some o→h₁.get? b=some o:=fun b o hb q=>by
  simp only [zaw6,zbb6,or_false,not_or]at hb
  exact zk b o hb.1 hb.2.2.1 hb.2.2.2.1 hb.2.2.2.2 q
 have kE:∀ {h h':Heap},Heap.SameBut e h h'→∀b∈[z,TI,TO,i1,i2],∀o,h.get? b=some o→h'.get? b=some o:=fun hs b hb o q=>by
  refine hs.extBut b o ?_ q
  rintro rfl
  simp only [zaw6,zbb6,or_false]at hb
  rcases hb with hb | hb | hb | hb | hb
  ·exact n1 hb
  ·exact n2 hb
  ·exact n3 hb
  ·exact n4 hb
  ·exact n5 hb
 clear zk z1 z3 z4 z5
 show wpAny _ _ (field (.ref e) 3 >>= _) _ _ ⟨h₁,g,d,tk,os⟩
 refine zav6 (wpAny_field he₁ rfl (x:=rawInt i) rfl ?_)
 show wpAny _ _ (field (.ref e) 4 >>= _) _ _ ⟨h₁,g,d,tk,os⟩
 refine zav6 (wpAny_field he₁ rfl (x:=.none) rfl ?_)
 show wpAny _ _ (mkInt i >>= _) _ _ ⟨h₁,g,d,tk,os⟩
 refine zav6 (wpAny_mkInt ?_)
 show wpAny _ _ (setField (.ref e) 3 (rawInt ((i:Int)+1)) >>= _) _ _ ⟨h₁,g,d,tk+1,os⟩
 refine zav6 (wpAny_setField_rec he₁ (by simp) fun h₂ he₂ hs₂=>?_)
 replace hs₂:Heap.SameBut e h₁ h₂:=hs₂
 replace he₂:IsEnum h₂ e z ((i:Int)+1) old:=he₂
 show wpAny _ _ (setField (.ref e) 4 .none >>= _) _ _ ⟨h₂,g,d,tk+1,os⟩
 refine zav6 (wpAny_setField_rec he₂ (by simp) fun h₃ he₃ hs₃=>?_)
 replace hs₃:Heap.SameBut e h₂ h₃:=hs₃
 replace he₃:IsEnum h₃ e z ((i:Int)+1) old:=he₃
 show wpAny _ _ (newTuple [.int i tk,.ref hp.objs.size] >>= _) _ _ ⟨h₃,g,d,tk+1,os⟩
 refine zav6 (wpAny_newTuple ?_)
 have he₄:IsEnum (h₃.push { cls:=.type "tuple",data:=.seq #[.int i tk,.ref hp.objs.size] }) e z ((i:Int)+1) old:=zav7 _ he₃
 generalize hh₄:h₃.push { cls:=.type "tuple",data:=.seq #[.int i tk,.ref hp.objs.size] }=h₄ at he₄
 have hsz:h₃.objs.size=hp.objs.size+1:=by rw [hs₃.1,hs₂.1,zs]
 have ht₄:h₄.get? (hp.objs.size+1)=some { cls:=.type "tuple",data:=.seq #[.int i tk,.ref hp.objs.size] }:=by rw [← hh₄, ← hsz];exact zax2 _ rfl
 have up₄:∀b o,h₃.get? b=some o→h₄.get? b=some o:=fun b o q=>by rw [← hh₄];exact zav7 _ q
 have hk₄:∀b o,b≠e→h₁.get? b=some o→h₄.get? b=some o:=fun b o hbe q=>up₄ b o (hs₃.extBut b o hbe (hs₂.extBut b o hbe q))
 have st₄:ZSt z TI TO i1 i2 l1 l2 (i+1) h₄:=((st₁.at (kE hs₂)).at (kE hs₃)).at fun b _ o q=>up₄ b o q
 have zp₄:IsPair h₄ hp.objs.size x y:=hk₄ _ _ (zba7 hel) zp
 show wpAny _ _ (Builtin.SmallTypes.ownedTupleIsFree (.ref e) >>= _) _ _ ⟨h₄,g,d,tk+1,os⟩
 rw [hsz]
 refine zav6 ?_
 ·unfold Builtin.SmallTypes.ownedTupleIsFree
  refine zav6 (wpAny_field he₄ rfl (x:=.none) rfl (zaw3 ?_))
  simp only [if_true]
  refine zav6 (wpAny_rule ?_)
  refine zav6 (wpAny_field he₄ rfl (x:=old) rfl ?_)
  refine zav6 (wpAny_setField_rec he₄ (by simp) fun h₅ he₅ hs₅=>?_)
  replace hs₅:Heap.SameBut e h₄ h₅:=hs₅
  replace he₅:IsEnum h₅ e z ((i:Int)+1) (.ref hp.objs.size):=he₅
  show wpAny _ _ (Builtin.SmallTypes.ownedTupleHandOut (.ref e) (.ref (hp.objs.size+1)) >>= _) _ _ ⟨h₅,g,d,tk+1,os⟩
  refine zav6 ?_
  ·unfold Builtin.SmallTypes.ownedTupleHandOut
   refine zav6 (wpAny_setField_rec he₅ (by simp) fun h₆ he₆ hs₆=>?_)
   replace hs₆:Heap.SameBut e h₅ h₆:=hs₆
   replace he₆:IsEnumOut h₆ e z ((i:Int)+1) (.ref hp.objs.size) (hp.objs.size+1):=he₆
   refine wpAny_setField_rec he₆ (by simp) fun h₇ he₇ hs₇=>?_
   replace hs₇:Heap.SameBut e h₆ h₇:=hs₇
   replace he₇:IsEnumOut h₇ e z ((i:Int)+1) (.ref hp.objs.size) (hp.objs.size+1):=he₇
   have hk₇:∀b o,b≠e→h₄.get? b=some o→h₇.get? b=some o:=fun b o hbe q=>hs₇.extBut b o hbe (hs₆.extBut b o hbe (hs₅.extBut b o hbe q))
   refine zav6 (wpAny_letGo (zaw3 ⟨_,rfl,hQ h₇ _ he₇ (((st₄.at (kE hs₅)).at (kE hs₆)).at (kE hs₇)) (hk₇ _ _ (zba7 hel) zp₄) (hk₇ _ _ (zba7 (zbc2 hel)) ht₄) fun b o hbe hb q=>hk₇ b o hbe (hk₄ b o hbe (zk' b o hb q))⟩))
theorem zai7 {e z TI TO i1 i2 l1 l2:Addr}{i:Nat}{xs ys:Array Value}{x y old:Value}{Q:Option Value→zaw4→Prop} (D:ZipApart z TI TO i1 i2 l1 l2) (hne:e∉[z,TI,TO,i1,i2])
  (he:IsEnum s.heap e z i old) (st:ZSt z TI TO i1 i2 l1 l2 i s.heap) (hl1:s.heap.IsList l1 xs) (hl2:s.heap.IsList l2 ys) (hx:xs[i]?=some x) (hy:ys[i]?=some y)
  (hQ:∀h' item,IsEnumOut h' e z ((i:Int)+1) item (s.heap.objs.size+1)→ZSt z TI TO i1 i2 l1 l2 (i+1) h' →
   IsPair h' s.heap.objs.size x y→h'.get? (s.heap.objs.size+1)=some { cls:=.type "tuple",data:=.seq #[.int i s.toks,.ref s.heap.objs.size] } →
   (∀b o,b≠e→b∉[z,TI,TO,i1,i2]→s.heap.get? b=some o→h'.get? b=some o)→Q (some (.ref (s.heap.objs.size+1))) { s with heap:=h',toks:=s.toks+1 }) :
  wpAny (model prog w) A (pyNext (.ref e)) Q E s:=by
 have hT:s.TypeIs (.ref e) "enumerate":=⟨_,he,rfl⟩
 unfold pyNext
 exact zav6 (wpAny_attempt (wpAny_callSpecial?_slot (name:=Str.ofString "__next__") hT F.slot_enumerate_next
  (wpAny_call_entry F.slot_enumerate_next hT F.entry_enumerate_next
   (ez_item D hne he st hl1 hl2 hx hy fun h' item a b c d k=>zaw3 (hQ h' item a b c d k)) (F.args_enumerate_next_1 _))))
theorem zao6 {e z TI TO i1 i2 l1 l2:Addr}{i:Nat}{xs ys:Array Value}{old:Value}{Q:Option Value→zaw4→Prop} (hh:A.handled=none) (D:ZipApart z TI TO i1 i2 l1 l2)
  (he:IsEnum s.heap e z i old) (st:ZSt z TI TO i1 i2 l1 l2 i s.heap) (hl1:s.heap.IsList l1 xs) (hl2:s.heap.IsList l2 ys) (hend:xs[i]?=none∨ys[i]?=none)
  (hQ:∀h',(∀c o,c∉[z,TI,TO,i1,i2]→s.heap.get? c=some o→h'.get? c=some o)→Q none { s with heap:=h' }) :
  wpAny (model prog w) A (pyNext (.ref e)) Q E s:=by
 have hT:s.TypeIs (.ref e) "enumerate":=⟨_,he,rfl⟩
 unfold pyNext
 refine zav6 (wpAny_attempt (wpAny_callSpecial?_slot (name:=Str.ofString "__next__") hT F.slot_enumerate_next
  (wpAny_call_entry F.slot_enumerate_next hT F.entry_enumerate_next ?_ (F.args_enumerate_next_1 _))))
 show wpAny _ _ (field (.ref e) 2 >>= _) _ _ _
 refine zav6 (wpAny_field he rfl (x:=.ref z) rfl ?_)
 obtain⟨s1,s2,s3,s4,s5⟩:=st
 refine zav6 (nz_end hh D s1 s2 s3 s4 s5 hl1 hl2 hend fun h' x hk hx'=>?_)
 obtain⟨o,ho,hc⟩:=hx'
 refine zav6 (wpAny_isInstance (T := "StopIteration") (b:=true) ⟨o,ho,hc⟩ isSubtype_stop ?_)
 refine zaw3 (hQ _ fun c o hc q=>?_)
 simp only [zaw6,zbb6,or_false,not_or]at hc
 exact hk c o hc.1 hc.2.2.1 hc.2.2.2.1 hc.2.2.2.2 q
end
theorem zi9 (z TI TO:Addr) :
  Meets (Builtin.«enumerate.__new__» ⟨[.type "enumerate",.ref z],[]⟩) (fun _ R s=>IsZip s.heap z TI TO .none ∧
   R (.ok (.ret (.ref s.heap.objs.size)))
    { s with heap:=s.heap.push { cls:=.type "enumerate",data:=.fields #[.none,.bool false,.ref z,rawInt 0,.none,.none] } }) :=
 .of_wp fun prog w A R s h=>by
  obtain⟨hp,g,d,tk,os⟩:=s;obtain⟨hl,h⟩:=h
  have hsub:=sub_enumerate
  have hL:IsZip (Shared.heap ⟨hp,g,d,tk,os⟩) z TI TO .none:=hl
  wp_walk using wpAny_loadPart' hl
  refine wpAny_stack_any fun st=>zaw3 ?_
  split
  ·rename_i c _ _ _ _ _
   cases (c == Value.type "enumerate")
   ·wp_walk using wpAny_loadPart' hl,wpAny_pyIter_zip hL
    exact⟨_,rfl,h⟩
   ·wp_walk using wpAny_loadPart' hl,wpAny_pyIter_zip hL
    exact⟨_,rfl,h⟩
  ·wp_walk using wpAny_loadPart' hl,wpAny_pyIter_zip hL
   exact⟨_,rfl,h⟩
theorem zl3 {prog:Program}{w:World}{A:Around}{E:Value→zaw4→Prop}{s:zaw4}{z TI TO:Addr}{Q:Value→zaw4→Prop} (hz:IsZip s.heap z TI TO .none)
  (h:∀h',IsEnum h' s.heap.objs.size z 0 .none→(∀b o,s.heap.get? b=some o→h'.get? b=some o)→Q (.ref s.heap.objs.size) { s with heap:=h' }) :
  wpAny (model prog w) A (call (.type "enumerate") [.ref z]) Q E s:=by
 refine callType_new F.called_enumerate (by decide) (F.typeCall_enumerate_1 _) (F.newCall_enumerate_1 _) (fun obj=>F.args_object_init_2 obj _) F.entry_enumerate_new
  (zi9 z TI TO) ⟨hz,?_⟩
 have he:IsEnum (s.heap.push { cls:=.type "enumerate",data:=.fields #[.none,.bool false,.ref z,rawInt 0,.none,.none] }) s.heap.objs.size z 0 .none:=zax2 _ rfl
 exact⟨⟨_,he,rfl⟩,h _ he fun b o x=>zav7 _ x⟩
end L2
namespace L2
open PySem.Spec
section
variable {X:Cx}{pins:List (Addr×Obj)}{σ:L2.St}{H:Hp}{s:zaw4}{h':Heap}
theorem Inv.turnedNew2 {t':Nat}{fp:List Addr}{a a2:Addr}{o o2:HO} (I:Inv X pins σ H s) (k:∀b u,b∉fp→s.heap.get? b=some u→h'.get? b=some u) (hf:∀b∈fp,FpOk X pins H b) (hp:s.heap.objs.size≤a) (hp2:s.heap.objs.size≤a2)
  (new:ObjOk X.prog X.w (upd (upd H a o) a2 o2) h' a o) (new2:ObjOk X.prog X.w (upd (upd H a o) a2 o2) h' a2 o2):Inv X pins σ (upd (upd H a o) a2 o2) { s with heap:=h',toks:=t' }:=by
 have ha:H a=none:=I.hok.fresh hp
 have ha2:H a2=none:=I.hok.fresh hp2
 have sm:∀b u,H b=some u→upd (upd H a o) a2 o2 b=some u:=fun b u e=>by rw [za3 (fun z=>by rw [z,ha2]at e;cases e),za3 (fun z=>by rw [z,ha]at e;cases e)];exact e
 have nfp:∀b u,H b=some u→b∉fp:=fun b u e z=>by rw [(hf b z).1]at e;cases e
 refine I.step (g':=s.gens) (d':=s.drawn) (ch:=fp) (fun b hb=>?_) (fun b u _ _ hc e _=>k b u hc e) (fun b u _ _ hc e _=>⟨u.slots,k b u hc e⟩) (fun b u _ e n=>?_)
  (fun b u hc e=>⟨u,k b u hc e⟩) (fun b xs e=>sm b _ e) (fun b q u e=>sm b _ e) (fun b ps e=>sm b _ e) (fun m hm=>?_) (fun b u e=>?_) I.bare
 ·obtain⟨f0,f1,f2,f3,f4,f5⟩:=hf b hb
  exact⟨f3,f1,f4,f5⟩
 ·rw [za3 (zay3 (zax3 (zaw9 e) hp2)),za3 (zay3 (zax3 (zaw9 e) hp))];exact n
 ·obtain⟨q,es,ep,ho,r⟩:=hm
  exact⟨q,es,ep,k _ q (fun z=>(hf _ z).2.1 rfl) ho,r⟩
 ·by_cases z2:b=a2
  ·subst z2
   rw [za4]at e
   cases e
   exact new2
  rw [za3 z2]at e
  by_cases z:b=a
  ·subst z
   rw [za4]at e
   cases e
   exact new
  ·rw [za3 z]at e
   refine (I.hok b u e).stay (fun c v hc q=>k c v ?_ q) (fun c q=>sm c _ q) (fun c xs q=>sm c _ q) fun c o u q=>sm c _ q
   rcases hc with w | w
   ·rw [w];exact nfp b u e
   ·exact nfp c _ w
end
noncomputable def Itez (K:zav4) (a b:Addr):It :=
 ⟨fun i H => ∃xs ys x y,SqL K H a xs∧SqL K H b ys∧xs[i]?=some x∧ys[i]?=some y,
  fun i H x H' => ∃p q v u,H p=none∧H q=none∧q≠p∧x=.ref p∧H'=upd (upd H q (.tup [v,u])) p (.tup [.int i,.ref q])∧(∀xs,SqL K H a xs→xs[i]?=some v)∧∀ys,SqL K H b ys→ys[i]?=some u,
  fun i H => ∃xs ys,SqL K H a xs∧SqL K H b ys∧i=min xs.length ys.length⟩
def EzAt (e z TI TO i1 i2 l1 l2:Addr) (i:Nat) (h:Heap):Prop:=(∃old,IsEnum h e z (i:Int) old)∧ZSt z TI TO i1 i2 l1 l2 i h
theorem turn_ez {P:Program}{w:World}{K:zav4}{elts:List Expr}{k:Nat}{pos:Pos} (l1 l2 e z TI TO i1 i2:Addr) (D:ZipApart z TI TO i1 i2 l1 l2) (hne:e∉[z,TI,TO,i1,i2]):Turn P w K (.Tuple elts k pos) (Itez K l1 l2) (e::[z,TI,TO,i1,i2]) e (EzAt e z TI TO i1 i2 l1 l2) where
 mem:=zaw0 ..
 obj:=fun i h st b hb=>by
  obtain⟨⟨old,h0⟩,⟨f0,b1,_,h1⟩,h2,⟨a,c,h3⟩,h4,h5⟩:=st
  simp only [zaw6,zbb6,or_false]at hb
  rcases hb with rfl | rfl | rfl | rfl | rfl | rfl
  ·exact⟨_,h0,fun v q=>by cases q⟩
  ·exact⟨_,h1,fun v q=>by cases q⟩
  ·exact⟨_,h2,fun v q=>by cases q⟩
  ·exact⟨_,h3,fun v q=>by cases q⟩
  ·obtain⟨o,e1,_,d⟩:=h4
   exact⟨o,e1,fun v q=>by rw [d]at q;cases q⟩
  ·obtain⟨o,e1,_,d⟩:=h5
   exact⟨o,e1,fun v q=>by rw [d]at q;cases q⟩
 keep:=fun i h h' st kk=>by
  obtain⟨⟨old,h0⟩,st⟩:=st
  exact⟨⟨old,kk e (by simp) _ h0⟩,st.at fun b hb o q=>kk b (zav8 _ hb) o q⟩
 item:=by
  intro X hP hw hK hc i pins s σ H E I hf st hg
  subst hP hw hK
  obtain⟨xs,ys,x,y,hq1,hq2,hx,hy⟩:=hg
  obtain⟨its1,rv1,p1,_⟩:=I.list hq1
  obtain⟨its2,rv2,p2,_⟩:=I.list hq2
  obtain⟨u1,hu1,ru1⟩:=rv1.get hx
  obtain⟨u2,hu2,ru2⟩:=rv2.get hy
  obtain⟨⟨old,h0⟩,st⟩:=st
  refine zai7 D hne h0 st p1.isList p2.isList (x:=u1) (y:=u2) (by simpa using hu1) (by simpa using hu2) fun h1 item heo st1 hpair htup hk=>?_
  refine⟨_,rfl,wpAny_letOwnedTupleGo_enum heo fun h2 he2 hs2=>?_⟩
  replace hs2:Heap.SameBut e h1 h2:=hs2
  have es:e<s.heap.objs.size:=zaw9 h0
  have kp:∀b o,b∉e::[z,TI,TO,i1,i2]→s.heap.get? b=some o→h2.get? b=some o:=fun b o nb q=>by
   rw [zaw6,not_or]at nb
   exact (hs2.2 b nb.1).trans (hk b o nb.1 nb.2 q)
  have hp2:IsPair h2 s.heap.objs.size u1 u2:=(hs2.2 _ (zba7 es)).trans hpair
  have ht2:=(hs2.2 _ (zba7 (zbc2 es))).trans htup
  have nz:s.heap.objs.size≠s.heap.objs.size+1:=zay3 (zbg2 _)
  have I2:Inv X pins σ (upd (upd H s.heap.objs.size (.tup [x,y])) (s.heap.objs.size+1) (.tup [.int i,.ref s.heap.objs.size])) { s with heap:=h2,toks:=s.toks+1 }:=I.turnedNew2 (t':=s.toks+1) kp hf (zaw7 _) (zbh0 _)
   ⟨by show 2≤sizeLine;decide,[u1,u2],.cons ru1 (.cons ru2 .nil),⟨_,hp2,rfl,_,rfl⟩⟩
   ⟨by show 2≤sizeLine;decide,[.int i s.toks,.ref s.heap.objs.size],.cons ⟨_,rfl⟩ (.cons rfl .nil),⟨_,ht2,rfl,_,rfl⟩⟩
  refine⟨.ref (s.heap.objs.size+1),_,I2,rfl,⟨_,_,x,y,I.hok.fresh (zbh0 _),I.hok.fresh (zaw7 _),nz,rfl,rfl,fun as ha=>by rw [I.list_inj ha hq1];exact hx,fun bs hb=>by rw [I.list_inj hb hq2];exact hy⟩,⟨⟨_,he2⟩,st1.at fun b hb o q=>hs2.extBut b o (fun z=>hne (z ▸ hb)) q⟩,fun b hb=>?_⟩
  have hlt:b<s.heap.objs.size:=by
   obtain⟨⟨f0,b1,_,z1⟩,z2,⟨a,c,z3⟩,⟨_,z4,_⟩,⟨_,z5,_⟩⟩:=st
   simp only [zaw6,zbb6,or_false]at hb
   rcases hb with rfl | rfl | rfl | rfl | rfl | rfl
   ·exact es
   ·exact zaw9 z1
   ·exact zaw9 z2
   ·exact zaw9 z3
   ·exact zaw9 z4
   ·exact zaw9 z5
  rw [za3 (zay3 (zbc2 hlt)),za3 (zay3 hlt)]
  exact (hf b hb).1
 done:=by
  intro X hP hw hK hc i pins s σ H E I hf st hg
  subst hP hw hK
  obtain⟨xs,ys,hq1,hq2,hi⟩:=hg
  obtain⟨its1,rv1,p1,_⟩:=I.list hq1
  obtain⟨its2,rv2,p2,_⟩:=I.list hq2
  obtain⟨⟨old,h0⟩,st⟩:=st
  have e1:=rv1.length
  have e2:=rv2.length
  refine zao6 (I.ok.hd hc) D h0 st p1.isList p2.isList ?_ fun h' kp=>⟨rfl,I.turnedL (t':=s.toks) (fun b o nb q=>kp b o (fun w=>nb (zav8 _ w)) q) hf⟩
  by_cases z:its1.length≤i
  ·left;simp;lia
  ·right;simp;lia
 self:=fun _ _ _ _ _ st h=>by
  obtain⟨⟨old,h1⟩,_⟩:=st
  exact wpAny_pyIter_enum h1 h
noncomputable def iEz (K:zav4) (ta:TA):TI:=fun σ H R=>ta σ H fun vs H1 => ∃a b,vs=[.ref a,.ref b]∧(∃xs,SqL K H1 a xs)∧(∃ys,SqL K H1 b ys)∧R (Itez K a b) H1
theorem pi_ez {X:Cx}{a b:Expr}{ta:TA}{elts:List Expr}{k:Nat}{tp p0 pos0 p pos:Pos} (hge:Gl X "enumerate") (hme:X.mg "enumerate"=none) (hg:Gl X "zip") (hm:X.mg "zip"=none) (ha:PA X [a,b] ta) (hs:zax8 [a,b] X.env=(false,eval a X.env)::zax8 [b] X.env:=by rfl) (hs2:(zbe1 pos (zax8 [b] X.env)).any (·.1)=false:=by rfl)
  (hs0:zax8 [.Call (.Name "zip" p) [a,b] [] pos] X.env=[(false,eval (.Call (.Name "zip" p) [a,b] [] pos) X.env)]:=by rfl) :
  PI X (.Tuple elts k tp) (.Call (.Name "enumerate" p0) [.Call (.Name "zip" p) [a,b] [] pos] [] pos0) (iEz X.K ta):=by
 intro pins s σ H R I h
 refine Call_ (zj3 I hge hme zau3 (PyProof.Rows.callWith_type1 ?_ hs0 rfl))
 rw [hs0]
 show wpAny _ _ (spliced ((false,eval (.Call (.Name "zip" p) [a,b] [] pos) X.env)::zbe1 pos0 [])) _ _ s
 refine Calls.spliced_cons ?_
 refine Call_ (zj3 I hg hm bt_zip (PyProof.Rows.callWith_type1 (thn (ha pos pins s σ H _ I h) fun us s1 ⟨vs,H1,I1,r1,q1⟩=>?_) hs hs2))
 obtain⟨l1,l2,rfl,⟨xs,hx⟩,⟨ys,hy⟩,q⟩:=q1
 obtain⟨u,w,rfl,ru,rw'⟩:=r1.two
 cases ru;cases rw'
 obtain⟨its1,rv1,p1,_⟩:=I1.list hx
 obtain⟨its2,rv2,p2,_⟩:=I1.list hy
 have t1:l1<s1.heap.objs.size:=by obtain⟨_,e,_⟩:=p1.isList;exact zaw9 e
 have t2:l2<s1.heap.objs.size:=by obtain⟨_,e,_⟩:=p2.isList;exact zaw9 e
 refine call_zip_2 p1.isList p2.isList fun h' z1 z2 z3 z4 z5 z6 hk=>?_
 refine Calls.spliced_nil ?_
 refine zl3 z1 fun h2 he hk2=>?_
 replace he:IsEnum h2 h'.objs.size (s1.heap.objs.size+4) 0 .none:=he
 have I2:Inv X pins σ H1 { s1 with heap:=h2 }:=I1.kept (t':=s1.toks) fun c o q=>hk2 c o (hk c o q)
 show wpAny _ _ (pyIter (.ref h'.objs.size)) _ _ _
 rw [z6]at he ⊢
 refine wpAny_pyIter_enum he ?_
 have st:ZSt (s1.heap.objs.size+4) (s1.heap.objs.size+2) (s1.heap.objs.size+3) s1.heap.objs.size (s1.heap.objs.size+1) l1 l2 0 h2:=⟨⟨_,false,.inl rfl,hk2 _ _ z1⟩,hk2 _ _ z2,⟨_,_,hk2 _ _ z3⟩,z4.at fun o q=>hk2 _ o q,z5.at fun o q=>hk2 _ o q⟩
 refine⟨s1.heap.objs.size+5,(s1.heap.objs.size+5)::[s1.heap.objs.size+4,s1.heap.objs.size+2,s1.heap.objs.size+3,s1.heap.objs.size,s1.heap.objs.size+1],EzAt _ _ _ _ _ _ l1 l2,Itez X.K l1 l2,H1,rfl,I2,turn_ez l1 l2 _ _ _ _ _ _ (zipApart_new t1 t2) ?_,⟨⟨_,he⟩,st⟩,fun c hc=>?_,q⟩
 ·intro w
  simp only [zaw6,zbb6,or_false]at w
  have n:(s1.heap.objs.size:Nat)+5=s1.heap.objs.size+4∨(s1.heap.objs.size:Nat)+5=s1.heap.objs.size+2∨(s1.heap.objs.size:Nat)+5=s1.heap.objs.size+3∨(s1.heap.objs.size:Nat)+5=s1.heap.objs.size∨(s1.heap.objs.size:Nat)+5=s1.heap.objs.size+1:=w
  lia
 have le:s1.heap.objs.size≤c:=by
  simp only [zaw6,zbb6,or_false]at hc
  rcases hc with rfl | rfl | rfl | rfl | rfl | rfl
  ·exact zbd1 _ _
  ·exact zbd1 _ _
  ·exact zbd1 _ _
  ·exact zbd1 _ _
  ·exact zaw7 _
  ·exact zbd1 _ _
 exact I1.fpOk le (I1.hok.fresh le)
end L2
namespace DL
open PySem.Spec L2
section
variable {X:Cx}{F:List Addr}{a b c:Expr}{es:List Expr}{fa fb fc:DE}{g g1 g2:DS}{pos:Pos}{gt:TG}{kt:D→Th→Option Th}
noncomputable def zr1 (k:D→Th→Option Th) (f f':DE) (body:DS):DS:=fun t=>(f t).bind fun r=>(f' t).bind fun r'=>match r.d,r'.d with
 |.lst ds,.lst es=>if r.ok&&r'.ok then forD k body (zh3 0 (zipD ds es)) t else none
 |_,_=>none
theorem zam9 {body:List Stmt}{elts:List Expr}{kk:Nat}{tp p0 p1 p2 p3:Pos} (hp:PassesOwn (model X.prog X.w) X.A X.env X.xe) (hc:X.calm=true) (hg0:Gl X "enumerate") (hm0:X.mg "enumerate"=none) (hge:Gl X "zip") (hm:X.mg "zip"=none) (ha:PE X a (dE X.K F fa)) (hb':PE X b (dE X.K F fb)) (hg:PG X (.Tuple elts kk tp) gt) (ht:TgOk X.K F gt kt) (hb:PSs X body (dS X.K F g))
  (hst:zax8 [a,b] X.env=(false,eval a X.env)::zax8 [b] X.env:=by rfl) (hst1:zax8 [b] X.env=[(false,eval b X.env)]:=by rfl) (hst2:(zbe1 p2 (zax8 [b] X.env)).any (·.1)=false:=by rfl) (hs:∀x,foldedSetIterable (.Call (.Name "enumerate" p0) [.Call (.Name "zip" p1) [a,b] [] p2] [] p3) X.env x=pure x:=by intro _;rfl) :
  PS X (.For (.Tuple elts kk tp) (.Call (.Name "enumerate" p0) [.Call (.Name "zip" p1) [a,b] [] p2] [] p3) body [] pos) (dS X.K F (zr1 kt fa fb g)):=by
 refine PS.imp (zn8 hp hc (pi_ez hg0 hm0 hge hm (zg3 ha (zg3 hb' zk6 hst1) hst) hst hst2 rfl) hg hb hs) ?_
 intro E σ H hh
 obtain⟨A,t,o,R,e,h⟩:=zy5 hh
 unfold zr1 at e
 cases e1:fa t with
 |none=>rw [e1]at e;cases e
 |some r =>
 cases e2:fb t with
 |none=>rw [e1,e2]at e;cases e
 |some r' =>
  rw [e1,e2]at e
  refine⟨A,t,r,R,e1,fun v H1 gs1 q1=>⟨A,t,r',R.grow gs1,e2,fun v2 H2 gs2 q2=>?_⟩⟩
  have e:(match r.d,r'.d with
   |.lst ds,.lst es=>if r.ok&&r'.ok then forD kt g (zh3 0 (zipD ds es)) t else none
   |_,_=>none)=some o:=e
  split at e
  case h_2=>cases e
  rename_i ds es z1 z2
  split at e
  case isFalse=>cases e
  rename_i ok
  rw [zaw5]at ok
  have gs:=gs1.trans gs2
  have cl:=(q1.mono gs2).clean R.mu gs ok.1
  rw [z1]at cl
  have cl2:=(q2.back gs1).clean R.mu gs ok.2
  rw [z2]at cl2
  cases cl with
  |@lst _ p vs h1 h2 =>
  cases cl2 with
  |@lst _ p' ws h1' h2' =>
   refine⟨p,p',rfl,⟨vs,SqL.mono (za6 _ _) h1⟩,⟨ws,SqL.mono (za6 _ _) h1'⟩,?_⟩
   refine zh2 (ds:=zh3 0 (zipD ds es)) (fun A H=>(SqL X.K (hide (A++F) H) p vs∧Reps X.K (hide (A++F) H) ds vs)∧SqL X.K (hide (A++F) H) p' ws∧Reps X.K (hide (A++F) H) es ws) ht (R.grow gs) e (h.back (Gr.of_same R.mu.left gs)) ⟨⟨h1,h2⟩,h1',h2'⟩
    (fun A H A' H' q gr=>⟨⟨SqL.mono gr.same q.1.1,Reps.mono gr.same q.1.2⟩,SqL.mono gr.same q.2.1,Reps.mono gr.same q.2.2⟩)
    (fun A H q=>⟨vs,ws,SqL.mono (za6 _ _) q.1.1,SqL.mono (za6 _ _) q.2.1,by rw [zi0,zr3,h2.length,h2'.length]⟩) (fun A H i q hi=>?_) (fun A H i x H' q mu y hi=>?_)
   ·rw [zi0,zr3]at hi
    have hi1:i<vs.length:=by rw [h2.length];lia
    have hi2:i<ws.length:=by rw [h2'.length];lia
    exact⟨vs,ws,vs[i],ws[i],SqL.mono (za6 _ _) q.1.1,SqL.mono (za6 _ _) q.2.1,zaw2 hi1,zaw2 hi2⟩
   ·obtain⟨l,l',v,u,hl0,hl0',hne,rfl,rfl,hv,hu⟩:=y
    obtain⟨d,hd,rd⟩:=q.1.2.getV (hv vs (SqL.mono (za6 _ _) q.1.1))
    obtain⟨d',hd',rd'⟩:=q.2.2.getV (hu ws (SqL.mono (za6 _ _) q.2.1))
    have sm1:=zb8 (o:=HO.tup [v,u]) hl0'
    have nl:upd H l' (.tup [v,u]) l=none:=by rw [za3 (Ne.symm hne)];exact hl0
    have sm2:=zb8 (o:=HO.tup [.int i,.ref l']) nl
    have sm:=sm1.trans sm2
    refine⟨sm,_,zp4 0 _ i _ (zad5 ds es i d d' hd hd'),?_⟩
    rw [Nat.zero_add]
    have mu':=zc0 mu hl0
    have mu2:=zc0 mu hl0'
    exact .tup (SqT.of (zb0 za4 mu')) (.cons (.int _) (.cons (.tup (SqT.of (zb0 (by rw [za3 hne];exact za4) mu2)) (.cons (Rep.mono (zb6 sm) rd) (.cons (Rep.mono (zb6 sm) rd') .nil))) .nil))
end
end DL
namespace L2
open PySem.Spec
theorem rel_key {k:Key}{v:Value} (h:zab6 k v=true):RelV (kV k) v:=by
 rcases zc8 h with ⟨i,t,rfl,rfl⟩ | ⟨x,t,rfl,rfl⟩
 ·exact⟨t,rfl⟩
 ·exact⟨t,rfl⟩
theorem vals_get:∀ {xs:List V}{us:List Value},xs.length=us.length→(∀(j:Nat) (a:V) (b:Value),xs[j]?=some a→us[j]?=some b→RelV a b)→Vals xs us
 |[],[],_,_=>.nil
 |[],_::_,h,_=>by simp at h
 |_::_,[],h,_=>by simp at h
 |x::xs,u::us,h,k=>.cons (k 0 x u rfl rfl) (vals_get (by simpa using h) fun j a b ha hb=>k (j+1) a b (by simpa using ha) (by simpa using hb))
theorem kv_get {κ:Type}:∀ {kvs:List (κ×V)}{vs:List (κ×Value)},KV kvs vs→∀ {j:Nat}{p:κ×V}{q:κ×Value},kvs[j]?=some p→vs[j]?=some q→p.1=q.1
 |_,_,.nil,j,p,q,e,_=>by simp at e
 |_,_,.cons h r,0,p,q,e1,e2=>by simp at e1 e2;subst e1;subst e2;exact h.1
 |_,_,.cons h r,j+1,p,q,e1,e2=>kv_get r (by simpa using e1) (by simpa using e2)
section
variable {X:Cx}
theorem zaj9 (hc:X.calm=true):zl5 X (.type "list") (fun xs H Q => ∃p kvs,xs=[V.ref p]∧H p=some (.dK kvs)∧∀l,H l=none→Q (.ref l) (upd H l (.lst (kvs.map fun kv=>kV kv.1)))):=by
 intro pins s σ H xs us Q I r h
 obtain⟨p,kvs,rfl,hd,q⟩:=h
 obtain⟨u,rfl,rx⟩:=zv2 r
 cases rx
 obtain⟨hz,lo,vs,kv,hD⟩:=dk_of I.hok hd
 obtain⟨ep,hat⟩:=hD.dictAt
 have hlen:kvs.length=vs.length:=Paired.length kv
 refine PySem.W.kdl_call (PySem.W.kdl_dict (knd:=zd0 X.prog X.w) (kvs:=vs) (ep:=ep) lo) (I.ok.hd hc) hat (by rw [← hlen];exact hz) fun h' tk acc c kp e it=>?_
 refine⟨.ref s.heap.objs.size,_,I.laid (o:=HO.lst (kvs.map fun kv=>kV kv.1)) kp (zaw7 _) ⟨by rw [zay5];exact hz,acc.toList,c,?_,e⟩,rfl,q _ (I.hok.fresh (zaw7 _))⟩
 obtain⟨i1,i2⟩:=it
 refine vals_get (by simp [i1,hlen]) fun j a b ha hb=>?_
 obtain⟨k,x,e1,e2⟩:=i2 j b (by rw [← zbj4];exact hb)
 rw [zba3]at ha
 cases ej:kvs[j]? with
 |none=>rw [ej]at ha;cases ha
 |some kv' =>
  rw [ej]at ha
  cases ha
  have:=kv_get kv ej e1
  show RelV (kV kv'.1) b
  rw [this]
  exact rel_key e2
end
end L2
namespace DL
open PySem.Spec L2
section
variable {X:Cx}{F:List Addr}
def kD:Key→D
 |.inl i=>.int i
 |.inr x=>.str x
theorem zs6 {K:zav4}{H:Hp}:∀ks:List Key,Reps K H (ks.map kD) (ks.map kV)
 |[]=>.nil
 |.inl i::ks=>.cons (.int i) (zs6 ks)
 |.inr x::ks=>.cons (.str x) (zs6 ks)
theorem zag0:∀ {ks:List Key}{vs:List V},ks.length=vs.length→(mkKV ks vs).map (fun kv=>kV kv.1)=ks.map kV
 |[],[],_=>rfl
 |[],_::_,h=>by simp at h
 |_::_,[],h=>by simp at h
 |k::ks,v::vs,h=>by
  have:=zag0 (ks:=ks) (vs:=vs) (by simpa using h)
  unfold mkKV at this ⊢
  simpa using this
noncomputable def zq9:List Ev→Option Ev:=fun rs=>match rs with
 |[r]=>(match r.d with
  |.dct ks _=>some (.nw (ks.map kD))
  |_=>none)
 |_=>none
theorem cd_listD (hc:X.calm=true):CallD X F (.type "list") zq9:=CallD.of (zaj9 hc) fun H0 H A xs rs e Q m g q ek hq=>by
 unfold zq9 at ek
 split at ek
 case h_2=>cases ek
 rename_i r
 split at ek
 case h_2=>cases ek
 rename_i ks ds z
 cases ek
 cases q with
 |cons q1 q2 =>
  cases q2
  have p:=q1.full
  rw [z]at p
  cases p with
  |@dct _ _ p vs l h1 h2 =>
   refine⟨p,_,rfl,h1,fun a ha=>hq _ _ (zb8 ha) ⟨a,_,rfl,Same.free g ha,za4,?_⟩⟩
   rw [zag0 l]
   exact zs6 ks
end
end DL
namespace DL
open PySem.Spec L2
structure Lent (K:zav4) (F:List Addr) (ir jx:Nat) (ds:List D) (k:Nat) (A0:List Addr) (Hb:Hp) (p r:Addr) (C1 C2:List Addr) (A:List Addr) (H:Hp) (σ:L2.St):Prop where
 nd:(p ::(C1++r::C2)).Nodup
 dj:∀b∈p ::(C1++r::C2),b∉F
 s1:σ[ir]?=some (some (.ref p))
 s2:σ[jx]?=some (some (.ref r))
 gr:Gr A0 Hb (A++p ::(C1++C2)) H
 kp:∀b∈p ::(C1++C2),∀o,Hb b=some o→H b=some o
 re:∀(H01 H1:Hp) (xs':List D),xs'.all scD=true→H1 r=some (.lst (xs'.map sV))→(∀b∈p ::(C1++C2),∀o,Hb b=some o→H1 b=some o)→Same (hide (A0++F) Hb) H01→RepD K H01 H1 (.lst (ds.set k (.lst xs'))) (.ref p) (p ::(C1++r::C2))
def fsT (f:DE):DI:=fun t=>(f t).bind fun r=>match r.d with
 |.tup ds=>some (r.ok,ds)
 |_=>none
theorem src_tup {K:zav4}{p:Addr}{vs:List V}{ds:List D} (hl:vs.length=ds.length):Src K ds (Itt K p) (fun P H=>SqT K (hide P H) p vs∧Reps K (hide P H) ds vs) where
 keep:=fun P H P' H' q s=>⟨SqT.mono s q.1,Reps.mono s q.2⟩
 stop:=fun P H q=>⟨vs,SqT.mono (za6 _ _) q.1,by lia⟩
 go:=fun P H i q hi=>⟨vs,vs[i]'(by lia),SqT.mono (za6 _ _) q.1,zaw2 (by lia)⟩
 yld:=fun P H i x H' q mu y hi=>by
  obtain⟨e1,e2⟩:=y
  subst e1
  exact⟨Same.refl _,q.2.getV (e2 vs (SqT.mono (za6 _ _) q.1))⟩
section
variable {X:Cx}{F:List Addr}{a:Expr}{fa:DE}{tg:Expr}
theorem pid_tup (hl:PE X a (dE X.K F fa)):PI X tg a (dI X.K F (fsT fa)):=by
 refine PI.imp (pi_tup hl) ?_
 rintro σ H R ⟨A,t,b,ds,RR,e,h⟩
 unfold fsT at e
 cases e1:fa t with
 |none=>rw [e1]at e;cases e
 |some r =>
  rw [e1]at e
  refine⟨A,t,r,RR,e1,fun v H1 gs q=>?_⟩
  have e:(match r.d with | .tup ds=>some (r.ok,ds) |_=>none)=some (b,ds):=e
  split at e
  case h_2=>cases e
  rename_i ds' z
  cases e
  have cl:=RepEv.hidF RR.mu gs q
  rw [z]at cl
  cases cl with
  |@tup _ p vs h1 h2=>exact⟨p,rfl,⟨vs,SqT.mono (za6 _ _) h1⟩,h _ H1 _ gs (src_tup h2.length) ⟨h1,h2⟩⟩
end
end DL
namespace DL
open PySem.Spec L2
structure HJ (K:zav4) (F A0:List Addr) (H0:Hp) (B A':List Addr) (tt:Th) (i:Nat) (p0:Addr) (vs:List V) (p1:Addr) (vs1:List V) (L:List Addr) (n:Nat) (σ:L2.St) (H:Hp):Prop where
 rs:RS K (B++F) H A' tt σ
 nm:σ[i]?=some (some (.ref p0))
 tp:SqT K (hide (A'++(B++F)) H) p0 vs
 l1:H p1=some (.lst vs1)
 ll:∀b∈L,∃us:List V,H b=some (.lst us)∧us.length≤n
 gr:Gr A0 H0 A' H
end DL
namespace L2
open PySem.Spec TS
noncomputable def Itd (d:Addr) (o:Obj) (bs:List Addr):It :=
 ⟨fun i H=>(∃u,H d=some (.frz o u))∧i<bs.length,fun i H x H'=>H'=H∧∃b,bs[i]?=some b∧x=.ref b,fun i H=>(∃u,H d=some (.frz o u))∧bs.length=i⟩
theorem zak5 {P:Program}{w:World}{K:zav4}{tg:Expr} (d it:Addr) {o:Obj}{es:Array DictEntry}{ep:Nat}{bs:List Addr} (ex:o.ExactDict) (dd:o.data=.dict es ep) (hk:es.toList.map (·.key)=bs.map Value.ref) :
  Turn P w K tg (Itd d o bs) [it] it (fun i h=>h.IsKeyIter it d i es.size ep) where
 mem:=by simp
 obj:=fun i h st b hb=>by
  have e:b=it:=by simpa using hb
  subst e
  obtain⟨o,e,c,d⟩:=st
  exact⟨o,e,fun v z=>by rw [d]at z;cases z⟩
 keep:=fun i h h' st k=>Heap.IsKeyIter.at st fun o e=>k it (by simp) o e
 item:=by
  intro X hP hw hK hc i pins s σ H E I hf st hg
  subst hP hw hK
  obtain⟨⟨u,hd⟩,hi⟩:=hg
  have ho:s.heap.get? d=some o:=(show ObjOk X.prog X.w H s.heap d (.frz o u) from I.hok d _ hd).1
  have hsz:es.size=bs.length:=by have:=congrArg List.length hk;simpa using this
  obtain⟨f0,f1,f2,f3,f4,f5⟩:=hf it (by simp)
  refine raw_head st ⟨o,ho,ex,dd⟩ (by lia) fun h' st' sb=>?_
  have I1:Inv X pins σ H { s with heap:=h' }:=I.turned (t':=s.toks) (fun b o hb e=>(sb.2 b hb).trans e) f0 f1 f3 f4 f5
  obtain⟨oi,e,c,d⟩:=id st'
  have ek:(es[i]'(by lia)).key=.ref bs[i]:=by
   have h1:(es.toList.map (·.key))[i]?=(bs.map Value.ref)[i]?:=by rw [hk]
   simp only [zba3,zbj4]at h1
   rw [zbh3 (by lia),zaw2 hi]at h1
   simpa using h1
  exact⟨_,rfl,zar2 (s:={ s with heap:=h' }) e c d (by decide) ⟨.ref bs[i],H,I1,by rw [ek];rfl,⟨rfl,bs[i],zaw2 hi,rfl⟩,st',fun b hb=>(hf b hb).1⟩⟩
 done:=by
  intro X hP hw hK hc i pins s σ H E I hf st hg
  subst hP hw hK
  obtain⟨⟨u,hd⟩,hi⟩:=hg
  have ho:s.heap.get? d=some o:=(show ObjOk X.prog X.w H s.heap d (.frz o u) from I.hok d _ hd).1
  have hsz:es.size=bs.length:=by have:=congrArg List.length hk;simpa using this
  obtain⟨f0,f1,f2,f3,f4,f5⟩:=hf it (by simp)
  have ei:i=es.size:=by lia
  subst ei
  exact raw_end (I.ok.hd hc) st ⟨o,ho,ex,dd⟩ fun h' eb=>⟨rfl,I.turned (t':=s.toks) (fun b o hb e=>eb b o hb e) f0 f1 f3 f4 f5⟩
 self:=fun _ _ _ _ _ st h=>wpAny_pyIter_keyiter st h
noncomputable def KeysAt (H:Hp) (kvs:List (List Key×V)) (bs:List Addr):Prop:=Paired (fun (kv:List Key×V) (b:Addr)=>H b=some (.tup (kv.1.map kV))) kvs bs
theorem zx5 {H:Hp}:∀ {kvs:List (List Key×V)}{xs:List (List Key×Addr×Value)},KT H kvs xs→KeysAt H kvs (xs.map (·.2.1))
 |_,_,.nil=>.nil
 |_,_,.cons h r=>.cons h.2.1 (zx5 r)
noncomputable def iDic (tl:TE):TI:=fun σ H R=>tl σ H fun x H1 => ∃a o kvs,x=.ref a∧H1 a=some (.frz o (.dT kvs))∧∀bs,KeysAt H1 kvs bs→R (Itd a o bs) H1
theorem pi_dic {X:Cx}{tg l:Expr}{tl:TE} (hl:PE X l tl):PI X tg l (iDic tl):=by
 intro pins s σ H R I h
 refine thn (hl pins s σ H _ I h) fun v s1 ⟨x,H1,I1,r1,q1⟩=>?_
 obtain⟨a,o,kvs,e,hq,q⟩:=q1
 subst e
 cases r1
 obtain⟨e0,_,nm,xs,pr,o',es,ep,e1,ex,d,ek,_⟩:=(show ObjOk X.prog X.w H1 s1.heap a (.frz o (.dT kvs)) from I1.hok a _ hq)
 rw [e0]at e1
 cases e1
 refine raw_iter nm ⟨o,e0,ex,d⟩ ?_
 refine⟨s1.heap.objs.size,[s1.heap.objs.size],_,_,H1,rfl,I1.kept (t':=s1.toks) fun b o e=>zav7 _ e,zak5 a _ (bs:=xs.map (·.2.1)) ex d ?_,⟨_,zax2 _ rfl,rfl,rfl⟩,fun b hb=>?_,q _ (zx5 pr)⟩
 ·rw [ek,zbf4,zbf4]
  rfl
 ·have e:b=s1.heap.objs.size:=by simpa using hb
  subst e
  exact I1.fpOk (zaw7 _) (I1.hok.fresh (zaw7 _))
end L2
namespace TS
section
variable {prog:Program}{w:World}{A:Around}{E:Value→zaw4→Prop}{s:zaw4}
theorem zac8 {l:Addr}{vs:List Value}{Q:List Value→zaw4→Prop} (hl:IsTup s.heap l vs.toArray) (hsz:vs.length≤sizeLine)
  (h:∀h',(∀b o,s.heap.get? b=some o→h'.get? b=some o)→s.heap.objs.size≤h'.objs.size→Q vs { s with heap:=h' }):wpAny (model prog w) A (collect (.ref l)) Q E s:=by
 obtain⟨o,ho,hc,n,hd⟩:=id hl
 have en:(s.heap.push (seqObj "list" #[] 0)).get? s.heap.objs.size=some (seqObj "list" #[] 0):=zax2 _ rfl
 have et:(s.heap.push (seqObj "list" #[] 0)).get? l=some o:=zav7 _ ho
 unfold collect
 refine zav6 (wpAny_runValue (codeAny_builtin entry_proto_collect' (zav6 (wpAny_newList (zaw3 ⟨Code.quiet_builtin _ (by decide +kernel),codeAny_builtin entry_list_iadd' ?_⟩)))))
 show wpAny _ _ (Builtin.List.listExtendWith (.ref s.heap.objs.size) (.ref l) (.ref s.heap.objs.size)) _ _ { s with heap:=s.heap.push (seqObj "list" #[] 0) }
 unfold Builtin.List.listExtendWith
 refine zav6 (wpAny_typeOf (T := "tuple") ⟨o,et,hc⟩ ?_)
 have ht:(Value.type "tuple" == Value.type "tuple")=true:=by rfl
 rw [if_pos (by rw [ht];simp)]
 refine zav6 (listItems_at et hd (zav6 (listItems_at (xs := #[]) (n:=0) en rfl ?_)))
 rw [if_neg (by simp)]
 refine zav6 (listUpdate_at (xs := #[]) (n:=0) en rfl ?_ (zba1 _) (by show (#[]++vs.toArray).size≤sizeLine+1;simp only [Array.size_append,zax9,zbc4];lia))
 refine zaw3 (zav6 (wpAny_load (get?_update_seq en _) ?_))
 show wpAny _ _ (pure ((#[]:Array Value)++vs.toArray).toList) Q E _
 rw [show ((#[]:Array Value)++vs.toArray).toList=vs by simp]
 refine zaw3 (h _ (fun b o e=>?_) ?_)
 ·exact (zaz1 _ _ (zba7 (zaw9 e))).trans (zav7 _ e)
 ·rw [Heap.size_update]
  exact zbf1 (zaw9 en)
end
end TS
namespace L2
open PySem.Spec TS
section
variable {X:Cx}
theorem zz1:zl5 X (.builtin "sorted") (fun xs H Q => ∃(p:Addr) (ns:List Int),xs=[.ref p]∧SqT X.K H p (ns.map V.int)∧ns.length<64∧∀l,H l=none→Q (.ref l) (upd H l (.lst ((DL.sortI' ns).map V.int)))):=by
 intro pins s σ H xs us Q I r h
 obtain⟨p,ns,rfl,hs,h64,q⟩:=h
 obtain⟨u,rfl,ru⟩:=zv2 r
 cases ru
 obtain⟨its,rv,pl,hz0⟩:=I.tuple hs
 have hi:IntsAre its ns:=zi6 rv
 have hl:=hi.length
 refine zal2 (P:=fun us=>us=its) (args_sorted1 _) (fun _=>args_list_sort _) (fun R hR=>?_) (fun h' tk us hk hz hu hlen=>?_)
 ·exact zac8 pl (by rw [← rv.length];exact hz0) fun h' hk hz=>hR h' s.toks its hk hz rfl (by lia)
 ·subst hu
  refine list_sort_tree (zax2 _ rfl) hi (by lia) fun out ns' ho hp' hs'=>⟨rfl,?_⟩
  have g0:(h'.push (seqObj "list" us.toArray 0)).get? h'.objs.size=some (seqObj "list" us.toArray 0):=zax2 _ rfl
  obtain⟨e1,g1⟩:∃e1,((h'.push (seqObj "list" us.toArray 0)).update h'.objs.size (Obj.mapSeq fun _=>(#[]:Array Value))).get? h'.objs.size=some (seqObj "list" #[] e1):=⟨_,get?_update_seq g0 fun _ => #[]⟩
  obtain⟨k,g2⟩:∃k,(sortedHeap (h'.push (seqObj "list" us.toArray 0)) h'.objs.size us out).get? h'.objs.size=some (seqObj "list" out k):=⟨_,get?_update_seq (zav7 _ (zav7 _ g1)) fun _=>out⟩
  have en:ns'=DL.sortI' ns:=DL.sorted_uniq (hp'.trans (DL.sortI'_perm ns).symm) hs' (DL.sortI'_sorted ns)
  subst en
  refine⟨.ref _,_,I.laid (o:=HO.lst ((DL.sortI' ns).map V.int)) (fun b o e=>?_) hz ⟨?_,out.toList,k,zk0 ho,by simpa [seqObj] using g2⟩,rfl,q _ (I.hok.fresh hz)⟩
  ·have e2:=hk b o e
   have nb:h'.objs.size≠b:=zba7 (zaw9 e2)
   unfold sortedHeap
   exact (zaz1 _ _ nb).trans (zav7 _ (zav7 _ ((zaz1 _ _ nb).trans (zav7 _ e2))))
  ·refine DL.le_line ?_
   rw [zay5,(DL.sortI'_perm _).length_eq];lia
end
end L2
namespace L2
open PySem.Spec
section
variable {X:Cx}
theorem op_catT0 {pins:List (Addr×Obj)}{s:zaw4}{σ:L2.St}{H:Hp}{Q:VK}{a b:Addr}{ys:List V} (I:Inv X pins σ H s) (ha:SqT X.K H a []) (hb:SqT X.K H b ys) (q:Q (.ref b) H) :
  wpAny (model X.prog X.w) X.A (binaryOp .Add (.ref a) (.ref b)) (EP X pins σ Q) X.xe s:=by
 obtain⟨its,r1,p1,_⟩:=I.tuple ha
 obtain⟨its2,r2,p2,_⟩:=I.tuple hb
 cases r1
 obtain⟨⟨cls,dd,data,sl⟩,ho,hc,n,hd⟩:=id p1
 obtain⟨⟨cls2,dd2,data2,sl2⟩,ho2,hc2,n2,hd2⟩:=id p2
 simp only at hc hd hc2 hd2
 subst hc hd hc2 hd2
 exact concat_meets ⟨_,ho,rfl⟩ ⟨_,ho2,rfl⟩ noFill_tuple_add seq_tuple_add zbf5 zbf0 (zbe5 _ _)
  (tuple_addW0 a b _ its2.toArray n n2 dd dd2 sl sl2 (by simp)) ⟨ho,ho2,⟨.ref b,H,I,rfl,q⟩⟩
end
noncomputable def tDispT (tk tv:TE):TE:=fun σ H Q => ∀p,H p=none→tk σ (upd H p (.dT [])) fun y H1=>tv σ H1 fun v H2 => ∃b k,y=.ref b∧H2 p=some (.dT [])∧H2 b=some (.tup (k.map kV))∧Q (.ref p) (upd H2 p (.dT [(k,v)]))
theorem pe_dispT {X:Cx}{k v:Expr}{pos:Pos}{tk tv:TE} (hu:X.A.units+64<cLine) (hk:PE X k tk) (hv:PE X v tv):PE X (.Dict [some k] [v] pos) (tDispT tk tv):=by
 intro pins s σ H Q I q
 have hn:=I.hok.fresh (zaw7 s.heap.objs.size)
 have I1:=I.laid (a:=s.heap.objs.size) (o:=.dT []) (h':=s.heap.push { cls:=.type "dict",data:=.dict #[] }) (t':=s.toks) (fun _ _ q=>zav7 _ q) (zaw7 _) (zag6 s.heap I.big)
 rw [arm_eval_Dict,zip_pairTrees [some k] [v] X.env pos rfl rfl,dictDisplay_pairs _ (by simp [pairTrees]) (by simp [pairTrees])]
 refine zav6 (wpAny_standAt (zav6 ?_))
 unfold subDict
 refine zav6 (wpAny_alloc (zav6 (wpAny_holding ?_)))
 rw [if_pos (by simp [pairTrees])]
 refine zav6 (pairTrees_cons_walk (thn (hk pins _ σ _ _ I1 (q _ hn)) fun kv s1 ⟨y,H1,I2,ry,q1⟩=>thn (hv pins s1 σ H1 _ I2 q1) fun vv s2 ⟨z,H2,I3,rz,b,kk,ey,hp,hb,q2⟩=>pairTrees_nil_walk ?_))
 subst ey
 cases (show kv=Value.ref b from ry)
 refine wpAny_holding ?_
 obtain⟨z0,hd,xs,rel,dd⟩:=dt_of I3.hok hp
 cases rel
 rw [zbd7]
 refine zav6 (zav6 (zav6 (wpAny_dictSet_heap (knd:=tupleKind (zd0 X.prog X.w)) (show X.A.units<cLine by lia) (key_of I3.hok hb) dd (fun h' dd' hs=>zaw3 ?_) (by simp))))
 dsimp only
 rw [zbe7]
 refine zaw3 (zaw3 (zaw3 (zaw3 ?_)))
 obtain⟨qo,es,ep,hq,h2,h3,h4,_,h5⟩:=dd'
 have nw:ObjOk X.prog X.w (upd H2 s.heap.objs.size (.dT [(kk,z)])) h' s.heap.objs.size (.dT [(kk,z)]):=by
  refine⟨?_,hd,_,((KT.put (kvs:=[]) .nil kk hb rz).keeps fun c ys ec=>?_),qo,es,ep,hq,h2,h3,h4,h5⟩
  ·rw [sizeLine_eq];simp
  ·rw [za3 (zap0 ec hp (fun z=>nomatch z))]
   exact ec
 exact⟨.ref s.heap.objs.size,_,zu0 I3 (by rw [hp];exact True.intro) hs ⟨qo,hq⟩ nw,rfl,q2⟩
end L2
namespace DL
open PySem.Spec L2
theorem zn1 (ks:List Int):(ks.map Sum.inl:List Key).map kV=ks.map V.int:=by rw [zbf4];rfl
theorem flats_ints:∀ns:List Int,flats (ns.map D.int)=true
 |[]=>rfl
 |n::ns=>by simp [flats,flat,flats_ints ns]
def zc1:List (List Int×Int)→List Int→Option Int
 |[],_=>none
 |p::ps,k=>if p.1=k then some p.2 else zc1 ps k
noncomputable def putT (ps:List (List Int×Int)) (k:List Int) (w:Int):List (List Int×Int):=if (ps.any fun q=>decide (q.1=k))=true then ps.map fun q=>if q.1=k then (q.1,w) else q else ps++[(k,w)]
theorem inl_iff {a b:List Int}:((a.map Sum.inl:List Key)=b.map Sum.inl)↔a=b:=⟨zaq8,fun h=>by rw [h]⟩
theorem zaa2 (k:List Int):∀ps:List (List Int×Int),valV (pkv ps) (k.map Sum.inl)=(zc1 ps k).map V.int
 |[]=>rfl
 |p::ps=>by
  have ih:=zaa2 k ps
  show valV ((p.1.map Sum.inl,V.int p.2)::pkv ps) _=_
  unfold zc1
  by_cases e:p.1=k
  ·rw [if_pos e,zi2 (inl_iff.mpr e)];rfl
  ·rw [if_neg e,zi3 (fun z=>e (inl_iff.mp z)),ih]
theorem putK_pkv (ps:List (List Int×Int)) (k:List Int) (w:Int):putK (pkv ps) (k.map Sum.inl) (V.int w)=pkv (putT ps k w):=by
 unfold putK putT
 have e:((pkv ps).any fun kv=>decide (kv.1=k.map Sum.inl))=ps.any fun q=>decide (q.1=k):=by
  unfold pkv
  rw [List.any_map]
  congr 1
  funext q
  show decide ((q.1.map Sum.inl:List Key)=k.map Sum.inl)=decide (q.1=k)
  rw [decide_eq_decide]
  exact inl_iff
 rw [e]
 by_cases m:(ps.any fun q=>decide (q.1=k))=true
 ·rw [if_pos m,if_pos m]
  unfold pkv
  rw [zbf4,zbf4]
  refine zbe9 fun q _=>?_
  show (if (q.1.map Sum.inl:List Key)=k.map Sum.inl then _ else _)=_
  by_cases z:q.1=k
  ·rw [if_pos (inl_iff.mpr z)];simp [Function.comp,z]
  ·rw [if_neg (fun y=>z (inl_iff.mp y))];simp [Function.comp,z]
 ·rw [if_neg m,if_neg m]
  unfold pkv
  rw [zbc5]
  rfl
theorem rep_tupI {K:zav4}{H:Hp}{ds:List D}{ns:List Int}{v:V} (r:Rep K H (.tup ds) v) (e:ze9 ds=some ns):∃b,v=.ref b∧H b=some (.tup (ns.map V.int)):=by
 rw [zf2 e]at r
 cases r with
 |@tup _ b vs h1 h2 =>
  rw [ze0 h2]at h1
  exact⟨b,rfl,h1⟩
section
variable {X:Cx}{F:List Addr}{a b c:Expr}{es:List Expr}{fa fb fc fk fv:DE}{ga:DA}{g g1 g2:DS}{pos:Pos}{tg:Expr}{gt:TG}{kt:D→Th→Option Th}{st:Stmt}
def tupI:D→Option (List Int)
 |.tup ds=>ze9 ds
 |_=>none
theorem zg6 {K:zav4}{H:Hp}{d:D}{ns:List Int}{v:V} (r:Rep K H d v) (e:tupI d=some ns):∃b,v=.ref b∧H b=some (.tup (ns.map V.int)):=by
 unfold tupI at e
 split at e
 ·exact rep_tupI r e
 ·cases e
noncomputable def zaj2:Ev→Ev→Option Ev:=fun r1 r2=>match tupI r1.d,tupI r2.d with
 |some ns,some ms=>if ns.length+ms.length≤1000 then some (.cl (.tup ((ns++ms).map D.int))) else none
 |_,_=>none
theorem od_catT:OpD X F (binaryOp .Add) zaj2:=by
 intro pins s σ H0 H A x y v u Q r1 r2 r I m g0 rx ry q1 q2 e hq
 unfold zaj2 at e
 split at e
 case h_2=>cases e
 rename_i ns ms z1 z2
 split at e
 case isFalse=>cases e
 rename_i hl
 cases e
 obtain⟨p1,rfl,h1⟩:=zg6 q1.full z1
 obtain⟨p2,rfl,h2⟩:=zg6 q2.full z2
 have fin:∀(p:Addr) (ks:List Int),H p=some (.tup (ks.map V.int))→RepEv X.K F A H0 H (.cl (.tup (ks.map D.int))) (.ref p):=fun p ks h =>
  Rep.hid (m.mono g0) (by simp [flat,flats_ints]) (.tup (SqT.of h) (Reps.ints ks))
 cases rx
 cases ry
 by_cases e1:ns=[]
 ·subst e1
  exact op_catT0 I (SqT.of h1) (SqT.of h2) (hq _ H (Same.refl H) (by simpa using fin p2 ms h2))
 ·refine op_catT pins s σ H (.ref p1) (.ref p2) _ _ Q I rfl rfl ⟨p1,p2,_,_,rfl,rfl,SqT.of h1,SqT.of h2,by simpa using e1,by simp only [zay5];rw [sizeLine_eq];lia,fun w=>?_,fun w p hp=>?_⟩
  ·have:ms=[]:=by simpa using w
   subst this
   exact hq _ H (Same.refl H) (by simpa using fin p1 ns h1)
  ·have hp0:H0 p=none:=by
    cases w0:H0 p with
    |none=>rfl
    |some o=>rw [g0 _ _ w0]at hp;cases hp
   refine hq _ _ (zb8 hp) (.tup (SqT.of (zb0 za4 (zc0 m hp0))) ?_)
   rw [← zbc5]
   exact Reps.ints _
noncomputable def zaj0:List Ev→Option Ev:=fun rs=>match rs with
 |[r]=>(match r.d with
  |.lst ds=>(ze9 ds).map fun ns=>.cl (.tup (ns.map D.int))
  |_=>none)
 |_=>none
theorem zat4:CallD X F (.type "tuple") zaj0:=CallD.of zu9 fun H0 H A xs rs e Q m g q ek hq=>by
 unfold zaj0 at ek
 split at ek
 case h_2=>cases ek
 cases q with
 |cons q1 q2 =>
  cases q2
  split at ek
  case h_2=>cases ek
  rename_i ds z
  cases e1:ze9 ds with
  |none=>rw [e1]at ek;cases ek
  |some ns =>
   rw [e1]at ek
   cases ek
   have p:=q1.full
   rw [z,zf2 e1]at p
   cases p with
   |@lst _ l ws h1 h2 =>
    rw [ze0 h2]at h1
    refine⟨l,_,rfl,.inl ⟨h1,fun l' hl=>?_⟩⟩
    have hp0:H0 l'=none:=by
     cases w0:H0 l' with
     |none=>rfl
     |some o=>rw [g _ _ w0]at hl;cases hl
    exact hq _ _ (zb8 hl) (.tup (SqT.of (zb0 za4 (zc0 m hp0))) (Reps.ints ns))
noncomputable def zag1:List Ev→Option Ev:=fun rs=>match rs with
 |[r]=>(tupI r.d).bind fun ns=>if ns.length<64 then some (.nw ((sortI' ns).map D.int)) else none
 |_=>none
theorem cd_sortT:CallD X F (.builtin "sorted") zag1:=CallD.of zz1 fun H0 H A xs rs e Q m g q ek hq=>by
 unfold zag1 at ek
 split at ek
 case h_2=>cases ek
 cases q with
 |cons q1 q2 =>
  cases q2
  rename_i r v
  cases e1:tupI r.d with
  |none=>rw [e1]at ek;cases ek
  |some ns =>
   rw [e1]at ek
   simp only [zav9]at ek
   split at ek
   case isFalse=>cases ek
   rename_i c
   cases ek
   obtain⟨p1,rfl,h1⟩:=zg6 q1.full e1
   exact⟨_,ns,rfl,SqT.of h1,c,fun l hl=>hq _ _ (zb8 hl) ⟨l,_,rfl,Same.free g hl,za4,Reps.ints _⟩⟩
def psD:D→Option (List (List Int×Int))
 |.pdc ps=>some ps
 |.fdc ps=>some ps
 |_=>none
theorem zam1 {K:zav4}{H:Hp}{d:D}{ps:List (List Int×Int)}{v:V} (r:Rep K H d v) (e:psD d=some ps):∃p,v=.ref p∧Rd H p (.dT (pkv ps)):=by
 cases r with
 |pdc h=>cases e;exact⟨_,rfl,.inl h⟩
 |fdc h=>cases e;exact⟨_,rfl,.inr ⟨_,h⟩⟩
 |_=>cases e
theorem Rd.mono {H H':Hp}{p:Addr}{u:HO} (e:Same H H') (h:Rd H p u):Rd H' p u:=h.imp (e _ _) fun ⟨o,h⟩=>⟨o,e _ _ h⟩
noncomputable def zj0:Ev→Ev→Option Ev:=fun r1 r2=>match psD r1.d,tupI r2.d with
 |some ps,some k=>(zc1 ps k).map fun w=>.cl (.int w)
 |_,_=>none
theorem zm9 (hu:X.A.units+64<cLine) (ha:PE X a (dE X.K F fa)) (hb:PE X b (dE X.K F fb)) (hs:NoSl b:=by intro _ _;rfl):PE X (.Subscript a b pos) (dE X.K F (d2 zj0 fa fb)):=by
 refine PE.imp (zan8 (by lia) ha hb hs) ?_
 intro σ H Q h
 obtain⟨A,t,r1,r2,r,R,e1,e2,e,h,w⟩:=two h
 refine⟨A,t,r1,R,e1,fun x H1 gs1 q1=>⟨A,t,r2,R.grow gs1,e2,fun y H2 gs2 q2=>?_⟩⟩
 have gs:=gs1.trans gs2
 unfold zj0 at e
 split at e
 case h_2=>cases e
 rename_i ps k z1 z2
 cases eg:zc1 ps k with
 |none=>rw [eg]at e;cases e
 |some d =>
  rw [eg]at e
  cases e
  obtain⟨p,rfl,h1⟩:=zam1 (q1.mono gs2).full z1
  obtain⟨b',rfl,h2⟩:=zg6 q2.full z2
  refine⟨p,V.int d,rfl,.inr ⟨_,k.map Sum.inl,b',h1,rfl,by rw [zn1];exact h2,?_⟩,h _ H2 gs (.int d)⟩
  rw [zaa2,eg];rfl
noncomputable def dTG2 (fa fb fc:DE):DE:=fun t=>(fa t).bind fun r1=>(fb t).bind fun r2=>(fc t).bind fun r3=>match psD r1.d,tupI r2.d,r3.d with
 |some ps,some k,.int v=>some (.cl (.int ((zc1 ps k).getD v)))
 |_,_,_=>none
theorem zw3 {apos cpos:Pos} (hu:X.A.units+64<cLine) (ha:PE X a (dE X.K F fa)) (hb:PE X b (dE X.K F fb)) (hc:PE X c (dE X.K F fc)) (m:M2 X a "get" apos b c cpos:=by exact⟨rfl,rfl,rfl,rfl⟩):PE X (.Call (.Attribute a "get" apos) [b,c] [] cpos) (dE X.K F (dTG2 fa fb fc)):=by
 refine PE.imp (zaf2 (by lia) ha hb hc m) ?_
 rintro σ H Q ⟨A,t,r,R,e,h⟩
 unfold dTG2 at e
 cases e1:fa t with
 |none=>rw [e1]at e;cases e
 |some r1 =>
  cases e2:fb t with
  |none=>rw [e1,e2]at e;cases e
  |some r2 =>
   cases e3:fc t with
   |none=>rw [e1,e2,e3]at e;cases e
   |some r3 =>
    rw [e1,e2,e3]at e
    simp only [zav9]at e
    split at e
    case h_2=>cases e
    rename_i ps k v z1 z2 z3
    cases e
    refine⟨A,t,r1,R,e1,fun x H1 gs1 q1=>?_⟩
    obtain⟨p,rfl,h1⟩:=zam1 q1.full z1
    refine⟨p,rfl,.inr ⟨_,h1⟩,A,t,r2,R.grow gs1,e2,fun y H2 gs2 q2=>⟨A,t,r3,R.grow (gs1.trans gs2),e3,fun z H3 gs3 q3=>?_⟩⟩
    have p3:=q3.full
    rw [z3]at p3
    cases zd2 p3
    obtain⟨b',rfl,h2⟩:=zg6 (q2.mono gs3).full z2
    refine⟨_,.inr ⟨_,k.map Sum.inl,b',Rd.mono (gs2.trans gs3) h1,rfl,by rw [zn1];exact h2,rfl⟩,?_⟩
    rw [zaa2]
    have:(Option.map V.int (zc1 ps k)).getD (V.int v)=V.int ((zc1 ps k).getD v):=by cases zc1 ps k<;>rfl
    rw [this]
    exact h _ H3 ((gs1.trans gs2).trans gs3) (.int _)
noncomputable def zac5 (i:Nat) (fk fv:DE):DS:=fun t=>(fv t).bind fun rv=>(fk t).bind fun rk=>match t[i]?,tupI rk.d,rv.d with
 |some (.dp (.pdc ps)),some k,.int w=>if ps.length<100000 then some (.nx (t.set i (.dp (.pdc (putT ps k w))))) else none
 |_,_,_=>none
theorem zae8 (i:Nat) {x:Str}{p0 tpos:Pos} (hu:X.A.units+64<cLine) (hb:PE X b (dE X.K F fb)) (he:PE X a (dE X.K F fa)) (hN:X.N[i]?=some x:=by rfl) (hv:Vis X.env.scope x:=by first | exact Or.inl rfl | exact Or.inr (Or.inl rfl) |exact Or.inr (Or.inr rfl)) (hd:(x ==("__debug__":Str))=false:=by decide)
  (hcd:(x ==("__classdict__":Str))=false:=by decide) (hs:swapsWith a (some (.Subscript (.Name x p0) b tpos)) pos.line X.env=pure false:=by rfl) :
  PS X (.Assign [.Subscript (.Name x p0) b tpos] a pos) (dS X.K F (zac5 i fb fa)):=by
 refine PS.imp (zan1 (by lia) (zk5 (i:=i) hN hv hd hcd) hb he hs) ?_
 rintro E σ H ⟨A,t,o,R,e,h⟩
 unfold zac5 at e
 cases e1:fa t with
 |none=>rw [e1]at e;cases e
 |some r =>
  cases e2:fb t with
  |none=>rw [e1,e2]at e;cases e
  |some kk =>
   rw [e1,e2]at e
   simp only [zav9]at e
   split at e
   case h_2=>cases e
   rename_i ps k w z z2 z3
   split at e
   case isFalse=>cases e
   rename_i hlen
   cases e
   obtain⟨p,a1,a2,a3,a4⟩:=R.placeP z
   refine⟨A,t,r,R,e1,fun v H1 gs1 q1=>⟨_,a1,A,t,kk,R.grow gs1,e2,fun y H2 gs2 q2=>?_⟩⟩
   have gs:=gs1.trans gs2
   have ev:=q1.full
   rw [z3]at ev
   cases zd2 ev
   obtain⟨b',rfl,h2⟩:=zg6 q2.full z2
   refine⟨p,_,rfl,DPut.t (k:=k.map Sum.inl) (gs _ _ a3) (by rw [zn1];exact h2) (by rw [pkv_len];exact zax3 hlen (by rw [sizeLine_eq];decide)),?_⟩
   obtain⟨A2,R2,gr⟩:=a4 (upd H2 p (.dT (putK (pkv ps) (k.map Sum.inl) (V.int w)))) (putT ps k w) (fun b' o n w'=>by
    rw [za3 n]
    exact gs _ _ w') (by rw [za4,putK_pkv])
   exact h _ _ _ gr R2
end
end DL
namespace DL
open PySem.Spec L2
section
variable {X:Cx}{F:List Addr}{a b:Expr}{fa fb:DE}{g:DS}{pos:Pos}{tg:Expr}{gt:TG}{kt:D→Th→Option Th}{st:Stmt}
def zah0 (fv:DE):DE:=fun t=>(fv t).bind fun r=>match r.d with
 |.int w=>some (.dn (.pdc [([],w)]))
 |_=>none
theorem zan6 {x1}{tpos:Pos} (hu:X.A.units+64<cLine) (hv:PE X a (dE X.K F fa)):PE X (.Dict [some (.Tuple [] x1 tpos)] [a] pos) (dE X.K F (zah0 fa)):=by
 refine PE.imp (pe_dispT hu (pe_tup zk6) hv) ?_
 rintro σ H Q ⟨A,t,r,R,e,h⟩
 unfold zah0 at e
 cases e1:fa t with
 |none=>rw [e1]at e;cases e
 |some r1 =>
  rw [e1]at e
  simp only [zav9]at e
  split at e
  case h_2=>cases e
  rename_i w z
  cases e
  intro p hp
  refine⟨by rw [sizeLine_eq];simp,fun b hb=>?_⟩
  have nb:b≠p:=fun z=>by rw [z,za4]at hb;cases hb
  have hb0:H b=none:=by rw [za3 nb]at hb;exact hb
  have s1:Same H (upd (upd H p (.dT [])) b (.tup [])):=(zb8 hp).trans (zb8 hb)
  refine⟨A,t,r1,R.grow s1,e1,fun v H2 gs q=>?_⟩
  have ev:=q.full
  rw [z]at ev
  cases zd2 ev
  have hp2:H2 p=some (.dT []):=gs _ _ (by rw [za3 (Ne.symm nb)];exact za4)
  have hb2:H2 b=some (.tup []):=gs _ _ za4
  refine⟨b,[],rfl,hp2,hb2,h _ _ (fun c o hc=>?_) ⟨[p],by simp,fun c hc=>by simp at hc;subst hc;exact hp,.pdc (ps:=[([],w)]) za4⟩⟩
  have nc:c≠p:=fun z=>by rw [z,hp]at hc;cases hc
  rw [za3 nc]
  exact gs _ _ (s1 _ _ hc)
end
theorem RSl.toF {K:zav4}{H0 H:Hp}:∀ {t:Th}{σ:L2.St}{A:List Addr},RSl K H0 H t σ A→A.Nodup→∀ {i:Nat}{ps:List (List Int×Int)},t[i]?=some (.dp (.pdc ps))→∃p A',H p=some (.dT (pkv ps))∧A'.Sublist A∧p∈A∧p∉A' ∧
  ∀H0' H' o,Same H0 H0'→H0' p=some (.frz o (.dT (pkv ps)))→(∀q∈A',∀o,H q=some o→H' q=some o)→RSl K H0' H' (t.set i (.val (.fdc ps))) σ A':=by
 intro _ _ _ h
 induction h with
 |nil =>
  intro n i ps e
  simp at e
 |@no _ _ _ _ r ih =>
  intro n i ps e
  cases i with
  |zero=>simp at e
  |succ i =>
   obtain⟨p,A',a1,a2,a3,a4,k⟩:=ih n (i:=i) (ps:=ps) (by simpa using e)
   exact⟨p,A',a1,a2,a3,a4,fun H0' H' o s q w=>.no (k H0' H' o s q w)⟩
 |@val _ v _ _ _ h r ih =>
  intro n i ps e
  cases i with
  |zero=>simp at e
  |succ i =>
   obtain⟨p,A',a1,a2,a3,a4,k⟩:=ih n (i:=i) (ps:=ps) (by simpa using e)
   exact⟨p,A',a1,a2,a3,a4,fun H0' H' o s q w=>.val (Rep.mono s h) (k H0' H' o s q w)⟩
 |@own p0 _ _ _ _ _ h1 h2 r ih =>
  intro n i ps e
  cases i with
  |zero=>simp at e
  |succ i =>
   have n0:=zay8.mp n
   obtain⟨p,A',a1,a2,a3,a4,k⟩:=ih n0.2 (i:=i) (ps:=ps) (by simpa using e)
   refine⟨p,p0::A',a1,a2.cons₂ _,zav8 _ a3,fun z=>?_,fun H0' H' o s q w=>.own (w p0 (zaw0 ..) _ h1) (Reps.mono s h2) (k H0' H' o s q fun x hx=>w x (zav8 _ hx))⟩
   rcases zaw6.mp z with z | z
   ·exact n0.1 (z ▸ a3)
   ·exact a4 z
 |@dp _ v C _ _ _ h r ih =>
  intro n i ps e
  have n0:=zay0.mp n
  cases i with
  |zero =>
   simp at e;subst e
   cases h with
   |flat f _=>simp [flat]at f
   |@pdc _ p hp =>
    refine⟨p,_,hp,zbh2 _ _,by simp,fun z=>n0.2.2 p (by simp) p z rfl,fun H0' H' o s q w=>.val (.fdc q) (RSl.mono s r w)⟩
  |succ i =>
   obtain⟨p,A',a1,a2,a3,a4,k⟩:=ih n0.2.1 (i:=i) (ps:=ps) (by simpa using e)
   refine⟨p,C++A',a1,List.Sublist.append (List.Sublist.refl _) a2,zav5 _ a3,fun z=>?_,fun H0' H' o s q w=>.dp (RepD.mono s h fun x hx=>w x (zaw1 _ hx)) (k H0' H' o s q fun x hx=>w x (zav5 _ hx))⟩
   rcases zax0.mp z with z | z
   ·exact n0.2.2 p z p a3 rfl
   ·exact a4 z
theorem RS.toF {K:zav4}{F A:List Addr}{H:Hp}{t:Th}{σ:L2.St}{i:Nat}{ps:List (List Int×Int)} (R:RS K F H A t σ) (e:t[i]?=some (.dp (.pdc ps))) :
  ∃p,H p=some (.dT (pkv ps))∧∀o,∃A2,RS K F (upd H p (.frz o (.dT (pkv ps)))) A2 (t.set i (.val (.fdc ps))) σ∧Gr A H A2 (upd H p (.frz o (.dT (pkv ps)))):=by
 obtain⟨p,A',a1,a2,a3,a4,k⟩:=R.rel.toF R.nd e
 have sub:∀x∈A',x∈A:=fun x hx=>a2.subset hx
 have nF:p∉F:=R.dj p a3
 refine⟨p,a1,fun o=>⟨A',⟨fun q hq=>?_,R.nd.sublist a2,fun q hq=>R.dj q (sub q hq),k _ _ o (fun b u w=>?_) (zb0 za4 fun z=>(zax0.mp z).elim a4 nF) fun q hq u w=>?_⟩,⟨fun b u n w=>?_,fun b hb=>?_,fun b hb=>.inl (sub b hb)⟩⟩⟩
 ·have np:q≠p:=fun z=>by
   subst z
   exact (zax0.mp hq).elim a4 nF
  obtain⟨us,w⟩:=R.mu q ((zax0.mp hq).elim (fun z=>zaw1 _ (sub q z)) fun z=>zav5 _ z)
  exact⟨us,by rw [za3 np];exact w⟩
 ·obtain⟨n,w⟩:=zd4 w
  refine zb0 ?_ fun z=>n ((zax0.mp z).elim (fun z=>zaw1 _ (sub b z)) fun z=>zav5 _ z)
  rw [za3 (show b≠p from fun z=>n (z ▸ zaw1 _ a3))]
  exact w
 ·rw [za3 (show q≠p from fun z=>a4 (z ▸ hq))]
  exact w
 ·rw [za3 (show b≠p from fun z=>n (z ▸ a3))]
  exact w
 ·by_cases z:b=p
  ·rw [z,za4];simp
  ·obtain⟨us,w⟩:=R.mu b (zaw1 _ hb)
   rw [za3 z,w];simp
def zaj8 (i:Nat) (g:DS):DS:=fun t=>match t[i]? with
 |some (.dp (.pdc ps))=>g (t.set i (.val (.fdc ps)))
 |_=>none
theorem zae9 {X:Cx}{F:List Addr}{g:DS}{st:Stmt} (i:Nat) (h:PS X st (dS X.K F g)):PS X st (dS X.K F (zaj8 i g)):=by
 intro pins s σ H D I q
 obtain⟨A,t,o,R,e,p⟩:=zy5 q
 unfold zaj8 at e
 split at e
 case h_2=>cases e
 rename_i ps z
 obtain⟨a,h1,k⟩:=R.toF z
 have ok:=(show ObjOk X.prog X.w H s.heap a (.dT (pkv ps)) from I.hok a _ h1)
 obtain⟨ob,ho⟩:∃ob,s.heap.get? a=some ob:=by
  obtain⟨_,_,_,_,ob,_,_,e1,_⟩:=id ok
  exact⟨ob,e1⟩
 obtain⟨A2,R2,gr⟩:=k ob
 have I2:Inv X pins σ (upd H a (.frz ob (.dT (pkv ps)))) { s with heap:=s.heap,toks:=s.toks }:=I.write (x:=a) (e:=a) (by rw [h1];exact True.intro) (.inl rfl) (fun _ _ _ w=>w) ⟨ob,ho⟩ ⟨ho,ok.stay (fun _ _ _ w=>w) (fun b w=>by rw [za3 (zap0 w h1 fun z=>nomatch z)];exact w) (fun b xs w=>by rw [za3 (zap0 w h1 fun z=>nomatch z)];exact w) fun b o' u w=>by rw [za3 (zap0 w h1 fun z=>nomatch z)];exact w⟩
 exact h pins s σ _ D I2 (dS_mk R2 e (p.back gr))
def zk7 (ps:List (List Int×Int)):List D:=ps.map fun q=>.tup (q.1.map D.int)
theorem zo5 {K:zav4}{H:Hp}:∀ {ps:List (List Int×Int)}{bs:List Addr},KeysAt H (pkv ps) bs→Reps K H (zk7 ps) (bs.map V.ref)
 |[],_,.nil=>.nil
 |q::ps,_,.cons h r=>.cons (.tup (SqT.of (by have h:H _=some (.tup ((q.1.map Sum.inl:List Key).map kV)):=h;rw [zn1]at h;exact h)) (Reps.ints _)) (zo5 r)
theorem KeysAt.hid {H:Hp}{P:List Addr} (m:Lists H P):∀ {kvs:List (List Key×V)}{bs:List Addr},KeysAt H kvs bs→KeysAt (hide P H) kvs bs
 |_,_,.nil=>.nil
 |_,_,.cons h r=>.cons (SqT.hid (K:=[]) m h) (KeysAt.hid m r)
theorem KeysAt.len {H:Hp}:∀ {ps:List (List Int×Int)}{bs:List Addr},KeysAt H (pkv ps) bs→bs.length=(zk7 ps).length
 |[],_,.nil=>rfl
 |q::ps,_,.cons h r=>by simp [zk7,KeysAt.len r]
noncomputable def dForD (k:D→Th→Option Th) (f:DE) (body:DS):DS:=fun t=>(f t).bind fun r=>match r.d with
 |.fdc ps=>if r.ok then forD k body (zk7 ps) t else none
 |_=>none
def fsD (f:DE):DI:=fun t=>(f t).bind fun r=>match r.d with
 |.fdc ps=>some (r.ok,zk7 ps)
 |_=>none
theorem zal1 {K:zav4}{p:Addr}{o:Obj}{u:HO}{bs:List Addr}{ds:List D} (hl:bs.length=ds.length):Src K ds (Itd p o bs) (fun P H=>hide P H p=some (.frz o u)∧Reps K (hide P H) ds (bs.map V.ref)) where
 keep:=fun P H P' H' q s=>⟨s _ _ q.1,Reps.mono s q.2⟩
 stop:=fun P H q=>⟨⟨u,(zd4 q.1).2⟩,hl⟩
 go:=fun P H i q hi=>⟨⟨u,(zd4 q.1).2⟩,by lia⟩
 yld:=fun P H i x H' q mu y hi=>by
  obtain⟨e1,b,e2,e3⟩:=y
  subst e1 e3
  exact⟨Same.refl _,q.2.getV (by rw [zba3,e2];rfl)⟩
section
variable {X:Cx}{F:List Addr}{a b:Expr}{fa fb:DE}{g:DS}{pos:Pos}{tg:Expr}{gt:TG}{kt:D→Th→Option Th}{st:Stmt}
theorem pid_dic (hl:PE X a (dE X.K F fa)):PI X tg a (dI X.K F (fsD fa)):=by
 refine PI.imp (pi_dic hl) ?_
 rintro σ H R ⟨A,t,b,ds,RR,e,h⟩
 unfold fsD at e
 cases e1:fa t with
 |none=>rw [e1]at e;cases e
 |some r =>
  rw [e1]at e
  refine⟨A,t,r,RR,e1,fun v H1 gs q=>?_⟩
  have e:(match r.d with | .fdc ps=>some (r.ok,zk7 ps) |_=>none)=some (b,ds):=e
  split at e
  case h_2=>cases e
  rename_i ps z
  cases e
  have cl:=RepEv.hidF RR.mu gs q
  rw [z]at cl
  cases cl with
  |@fdc _ p o h1 =>
   refine⟨p,o,_,rfl,(zd4 h1).2,fun bs hk=>h _ H1 _ gs (zal1 (KeysAt.len hk)) ⟨h1,zo5 (KeysAt.hid ?_ hk)⟩⟩
   have m:=RR.mu.mono gs
   unfold hidF
   split
   ·exact m
   ·exact fun q hq=>m q (zav5 _ hq)
theorem psd_forD {body:List Stmt} (hp:PassesOwn (model X.prog X.w) X.A X.env X.xe) (hc:X.calm=true) (hl:PE X a (dE X.K F fa)) (hg:PG X tg gt) (ht:TgOk X.K F gt kt) (hb:PSs X body (dS X.K F g))
  (hs:∀x,foldedSetIterable a X.env x=pure x:=by intro _;rfl):PS X (.For tg a body [] pos) (dS X.K F (dForD kt fa g)):=by
 refine PS.imp (zn8 hp hc (pi_dic hl) hg hb hs) ?_
 intro E σ H hh
 obtain⟨A,t,o,R,e,h⟩:=zy5 hh
 unfold dForD at e
 cases e1:fa t with
 |none=>rw [e1]at e;cases e
 |some r =>
  rw [e1]at e
  refine⟨A,t,r,R,e1,fun v H1 gs q=>?_⟩
  have e:(match r.d with
   |.fdc ps=>if r.ok then forD kt g (zk7 ps) t else none
   |_=>none)=some o:=e
  split at e
  case h_2=>cases e
  rename_i ps z
  split at e
  case isFalse=>cases e
  rename_i ok
  have cl:=q.clean R.mu gs ok
  rw [z]at cl
  cases cl with
  |@fdc _ p ob h1 =>
   refine⟨p,ob,_,rfl,(zd4 h1).2,fun bs hk=>?_⟩
   have S:=zal1 (K:=X.K) (p:=p) (o:=ob) (u:=.dT (pkv ps)) (ds:=zk7 ps) (KeysAt.len hk)
   exact zh2 (fun A H=>hide (A++F) H p=some (.frz ob (.dT (pkv ps)))∧Reps X.K (hide (A++F) H) (zk7 ps) (bs.map V.ref)) ht (R.grow gs) e (h.back (Gr.of_same R.mu.left gs)) ⟨h1,zo5 (KeysAt.hid (R.mu.mono gs) hk)⟩ (fun A H A' H' q gr=>S.keep _ _ _ _ q gr.same)
    (fun A H q=>S.stop _ _ q) (fun A H i q hi=>S.go _ _ i q hi) (fun A H i x H' q m y hi=>S.yld _ _ i x H' q m y hi)
end
end DL
namespace KX
open PySem.Spec L2 DL
abbrev qA:=kOr (kI tt2 fun i j=>.int (i+j)) kCat
abbrev qS:=kI tt2 fun i j=>.int (i - j)
abbrev qV:=kI cDiv fun i j=>.int (i.fdiv j)
abbrev qR:=kI cMod fun i j=>.int (i.fmod j)
abbrev qL:=kI tt2 fun i j=>.bl (decide (i<j))
abbrev qE:=kI tt2 fun i j=>.bl (decide (i≤j))
abbrev qG:=kI tt2 fun i j=>.bl (decide (j<i))
abbrev qN:=k2I fun i j=>if j<i then j else i
abbrev qP:=kI cPow fun i j=>.int (i ^ j.toNat)
theorem zai3 {a b:Nat} (h:a+1≤b):2 ^ a+2 ^ a≤2 ^ b:=by
 have h:=zbb5 (n:=2) (by decide) h
 rwa [Nat.pow_succ,Nat.mul_two]at h
theorem bnd_two:bndS+bndS≤bndB:=by unfold bndS bndB;exact @zai3 1048576 1100000 (by decide)
theorem zp9:1000000000000000000000000000000000000≤bndS:=by
 have:(2:Nat) ^ 120≤2 ^ 1048576:=zbb5 (by decide) (by decide)
 unfold bndS
 exact zaz5 (by decide) this
theorem zv6 {i:Int} (h0:0≤i) (h:i<(bndS:Int)+1000000):smB i=true:=by
 have h1:=bnd_two
 have h2:=zp9
 unfold smB
 exact decide_eq_true (by lia)
theorem zah4 (t:Th) {f:DE}{i:Nat}{xs:List D}{d:D} (hf:f t=some (.cl d)) (hi:t[i]?=some (.own xs)) (hl:xs.length<100000):dApp i f t=some (.nx (t.set i (.own (xs++[d])))):=by
 unfold dApp
 rw [hf]
 simp only [zav9,kApp,hi,Ev.ok,Ev.d,hl,decide_true,Bool.and_self,if_true]
theorem zr2 (t:Th) {f:DE}{i:Nat}{d:D} (hf:f t=some (.cl d)) (hi:i<t.length):dAsg i f t=some (.nx (t.set i (.val d))):=by
 unfold dAsg
 rw [hf]
 simp only [zav9,zv8,hi,if_true,zbd9]
theorem flats_ints:∀xs:List Int,flats (xs.map D.int)=true
 |[]=>rfl
 |x::xs=>by
  have:=flats_ints xs
  simp [flats,flat,this]
theorem zaa5 {k:List Ev→Option Ev}{fa fb:DE}{t:Th}{ra rb:Ev} (h1:fa t=some ra) (h2:fb t=some rb):dT1 k (za2 fa (za2 fb dNil)) t=k [ra,rb]:=by
 simp [dT1,za2,dNil,h1,h2]
theorem zj1 {k:Ev→Ev→Option Ev}{fa fb:DE}{t:Th}{ra rb:Ev} (h1:fa t=some ra) (h2:fb t=some rb):d2 k fa fb t=k ra rb:=by
 simp [d2,h1,h2]
theorem t4_of {k:List Ev→Option Ev}{fa fb fc fd:DE}{t:Th}{ra rb rc rd:Ev} (h1:fa t=some ra) (h2:fb t=some rb) (h3:fc t=some rc) (h4:fd t=some rd):dT1 k (za2 fa (za2 fb (za2 fc (za2 fd dNil)))) t=k [ra,rb,rc,rd]:=by
 simp [dT1,za2,dNil,h1,h2,h3,h4]
theorem t3_of {k:List Ev→Option Ev}{fa fb fc:DE}{t:Th}{ra rb rc:Ev} (h1:fa t=some ra) (h2:fb t=some rb) (h3:fc t=some rc):dT1 k (za2 fa (za2 fb (za2 fc dNil))) t=k [ra,rb,rc]:=by
 simp [dT1,za2,dNil,h1,h2,h3]
theorem zl6 {k:List Ev→Option Ev}{fa:DE}{t:Th}{ra:Ev} (h1:fa t=some ra):dT1 k (za2 fa dNil) t=k [ra]:=by
 simp [dT1,za2,dNil,h1]
theorem zaa0 {t:Th}{f:DE}{i:Nat}{d:D} (hf:f t=some (.cl d)) (hi:i<t.length):dAsg i f t=some (.nx (t.set i (.val d))):=zr2 t hf hi
theorem zav1 {t:Th}{f:DE}{i:Nat}{xs:List D} (hf:f t=some (.nw xs)) (hi:i<t.length):dAsg i f t=some (.nx (t.set i (.own xs))):=by
 unfold dAsg
 rw [hf]
 simp only [zav9,zv8,hi,if_true,zbd9]
theorem ix_nat (n b:Nat) (h:b<n):ixN n (b:Int)=some b:=by unfold ixN;rw [if_pos (by lia),if_pos (by lia)];simp
theorem get_map (L:List Int) (b:Nat) (h:b<L.length):(L.map D.int)[b]?=some (.int (L.getD b 0)):=by simp [zaz0,h]
theorem at_map (L:List Int) (b:Nat) (h:b<L.length):atI (L.map D.int) (b:Int)=some (.int (L.getD b 0)):=by
 unfold atI
 rw [ix_nat _ _ (by simpa using h)]
 exact get_map L b h
theorem ixEv {r1 r2:Ev} (L:List Int) (b:Nat) (h:b<L.length) (h1:r1.d=.lst (L.map D.int)) (h2:r2.d=.int (b:Int)):kIx r1 r2=some (.cl (.int (L.getD b 0))):=by
 unfold kIx
 rw [h1,h2]
 show (atI (L.map D.int) (b:Int)).map _=_
 rw [at_map L b h]
 simp [flat]
theorem zx9 {c:DT}{g1 g2:DS}{t:Th}{b:Bool} (h:c t=some b):dIfS c g1 g2 t=if b then g1 t else g2 t:=by
 unfold dIfS;rw [h];rfl
theorem zaj3 {c:DT}{g1 g2:DS}{t:Th}{b:Bool} (h:c t=some b) (hb:b=true):dIfS c g1 g2 t=g1 t:=by
 rw [zx9 h,hb];rfl
theorem ifs_f {c:DT}{g1 g2:DS}{t:Th}{b:Bool} (h:c t=some b) (hb:b=false):dIfS c g1 g2 t=g2 t:=by
 rw [zx9 h,hb];rfl
theorem in_ints {r1 r2:Ev} (p:Int) (K:List Int) (h1:r1.d=.int p) (h2:r2.d=.lst (K.map D.int)):kIn r1 r2=some (.cl (.bl (decide (p∈K)))):=by
 unfold kIn
 rw [h1,h2]
 clear h2
 have e1:(K.map D.int).all (fun d=>scD d&&eqOk 0 d (.int p))=true:=by
  rw [zbc8]
  intro d hd
  obtain⟨k,_,rfl⟩:=zbe3.mp hd
  rfl
 have e2:(K.map D.int).any (fun d=>eqD d (.int p))=decide (p∈K):=by
  induction K with
  |nil=>rfl
  |cons k K ih =>
   have e1':(K.map D.int).all (fun d=>scD d&&eqOk 0 d (.int p))=true:=by
    simp only [zax1,zaz6,zaw5]at e1;exact e1.2
   rw [zax1,zba5,ih e1',zac0]
   by_cases h:k=p
   ·subst h;simp
   ·have : ¬ p=k:=fun q=>h q.symm
    simp [h,this]
 show (if scD (.int p)&&(K.map D.int).all (fun d=>scD d&&eqOk 0 d (.int p)) then some (Ev.cl (.bl ((K.map D.int).any fun d=>eqD d (.int p)))) else none)=_
 rw [e1,e2]
 rfl
theorem bo_in {fa fb:DE}{t:Th}{r1 r2:Ev} (p:Int) (K:List Int) (ha:fa t=some r1) (hb:fb t=some r2) (h1:r1.d=.int p) (h2:r2.d=.lst (K.map D.int)):dBo (d2 kIn fa fb) t=some (decide (p∈K)):=by
 unfold dBo
 rw [zj1 ha hb,in_ints p K h1 h2]
 rfl
theorem rem_of {t:Th}{f:DE}{i:Nat}{r:Ev}{K:List Int}{p:Int} (hf:f t=some r) (hr:r.d=.int p) (hi:t[i]?=some (.own (K.map D.int))) (hp:p∈K):dRem i f t=some (.nx (t.set i (.own ((K.erase p).map D.int)))):=by
 unfold dRem
 rw [hf]
 show kRem t i r=_
 unfold kRem
 rw [hi,hr]
 show (ze9 (K.map D.int)).bind _=_
 rw [zf5]
 show (if K.contains p=true then _ else _)=_
 rw [if_pos (by simpa using hp)]
theorem del0_of {t:Th}{i:Nat}{x:D}{xs:List D} (hi:t[i]?=some (.own (x::xs))):dDel i (dC (.int 0)) t=some (.nx (t.set i (.own xs))):=by
 unfold dDel
 show kDel t i (.cl (.int 0))=_
 unfold kDel
 rw [hi]
 show (if decide (-1000000≤(0:Int)∧(0:Int)≤1000000)=true then (ixN (x::xs).length 0).map _ else none)=_
 rw [if_pos (by decide),show ixN (x::xs).length 0=some 0 from ix_nat _ 0 (by simp)]
 rfl
theorem zq0 (t:Th) {f:DE}{i:Nat}{xs:List Int}{p:Int} (hf:f t=some (.cl (.int p))) (hi:t[i]?=some (.own (xs.map D.int))) (hl:xs.length<100000):dApp i f t=some (.nx (t.set i (.own ((xs++[p]).map D.int)))):=by
 rw [zah4 t hf hi (by simpa using hl)]
 simp
theorem seq_rt {g1 g2:DS}{t:Th}{r:Ev} (h:g1 t=some (.rt r)):dSeq g1 g2 t=some (.rt r):=by simp [dSeq,h]
theorem grd {c:DT}{g:DS}{t:Th}{b:Bool} (h:c t=some b) (hb:b=false):dIfS c g zg5 t=some (.nx t):=(ifs_f h hb).trans rfl
theorem bnd {g:Option Out}{r:Ev} (h:g=some (.rt r)):g.bind zh9=some r:=by rw [h];rfl
theorem zah5 {fa fb:DE}{t:Th}{a b:Int} (h1:fa t=some (.cl (.int a))) (h2:fb t=some (.cl (.int b))):(d2 qA fa fb) t=some (.cl (.int (a+b))):=(zj1 h1 h2).trans rfl
theorem sub_of {fa fb:DE}{t:Th}{a b:Int} (h1:fa t=some (.cl (.int a))) (h2:fb t=some (.cl (.int b))):(d2 qS fa fb) t=some (.cl (.int (a - b))):=(zj1 h1 h2).trans rfl
theorem zap2 {fa fb:DE}{t:Th}{a b:Int} (h1:fa t=some (.cl (.int a))) (h2:fb t=some (.cl (.int b))) (hb:b≠0):(d2 qR fa fb) t=some (.cl (.int (a.fmod b))):=by
 rw [zj1 h1 h2]
 show (if cMod a b=true then _ else none)=_
 rw [if_pos (by unfold cMod;exact decide_eq_true hb)]
theorem lt_of {fa fb:DE}{t:Th}{a b:Int} (h1:fa t=some (.cl (.int a))) (h2:fb t=some (.cl (.int b))):dBo (d2 qL fa fb) t=some (decide (a<b)):=by
 unfold dBo;rw [zj1 h1 h2];rfl
theorem gt_of {fa fb:DE}{t:Th}{a b:Int} (h1:fa t=some (.cl (.int a))) (h2:fb t=some (.cl (.int b))):dBo (d2 qG fa fb) t=some (decide (b<a)):=by
 unfold dBo;rw [zj1 h1 h2];rfl
theorem zar8 {fa fb:DE}{t:Th}{a b:Int} (h1:fa t=some (.cl (.int a))) (h2:fb t=some (.cl (.int b))):dBo (d2 kEq fa fb) t=some (decide (a=b)):=by
 unfold dBo;rw [zj1 h1 h2]
 have:kEq (.cl (.int a)) (.cl (.int b))=some (.cl (.bl (eqD (.int a) (.int b)))):=rfl
 rw [this,zac0];rfl
theorem neI_of {fa fb:DE}{t:Th}{a b:Int} (h1:fa t=some (.cl (.int a))) (h2:fb t=some (.cl (.int b))):dBo (d2 kNe fa fb) t=some (!decide (a=b)):=by
 unfold dBo;rw [zj1 h1 h2]
 have:kNe (.cl (.int a)) (.cl (.int b))=some (.cl (.bl (!eqD (.int a) (.int b)))):=rfl
 rw [this,zac0];rfl
theorem or_of {f g:DT}{t:Th}{a b:Bool} (h1:f t=some a) (h2:a=false→g t=some b):dOr f g t=some (a||b):=by
 unfold dOr;rw [h1]
 cases a with
 |true=>rfl
 |false=>simp [h2 rfl]
theorem or_of2 {f g:DT}{t:Th}{a b:Bool} (h1:f t=some a) (h2:g t=some b):dOr f g t=some (a||b):=or_of h1 fun _=>h2
theorem and_of2 {f g:DT}{t:Th}{a b:Bool} (h1:f t=some a) (h2:g t=some b):dAnd f g t=some (a&&b):=by
 unfold dAnd;rw [h1];cases a<;>simp [h2]
theorem zo3 {t:Th}{f:DE}{r:Ev}{xs:List Int} (h:f t=some r) (hr:r.d=.lst (xs.map D.int)):(dT1 kLen (za2 f dNil)) t=some (.cl (.int (xs.length:Int))):=by
 rw [zl6 h]
 unfold kLen
 simp only [hr,zay5]
theorem zaq5 {fa fb:DE}{t:Th}{r1 r2:Ev} (L:List Int) (b:Nat) (ha:fa t=some r1) (hb:fb t=some r2) (h:b<L.length) (h1:r1.d=.lst (L.map D.int)) (h2:r2.d=.int (b:Int)):(d2 kIx fa fb) t=some (.cl (.int (L.getD b 0))):=by
 rw [zj1 ha hb,ixEv L b h h1 h2]
theorem calln {G:List D→Option Ev}{rs:List Ev}{xs:List Int} (h:G (rs.map Ev.d)=some (.nw (xs.map D.int))):zc5 G rs=some (.nw (xs.map D.int)):=by
 unfold zc5
 rw [h]
 simp only [zbd9,upEv]
 split
 ·rfl
 ·simp [flats_ints]
theorem callc {G:List D→Option Ev}{rs:List Ev}{d:D} (h:G (rs.map Ev.d)=some (.cl d)) (hf:flat d=true):zc5 G rs=some (.cl d):=by
 unfold zc5
 rw [h]
 simp only [zbd9,upEv]
 split
 ·rfl
 ·simp [hf]
theorem cns {f:DE}{g:DA}{t:Th}{r:Ev}{rs:List Ev} (h1:f t=some r) (h2:g t=some rs):za2 f g t=some (r::rs):=by
 unfold za2;rw [h1,h2];rfl
theorem zae2 {f:DE}{t:Th}{r:Ev} (h:f t=some r):dRet f t=some (.rt r):=by
 unfold dRet;rw [h];rfl
theorem rng1_of {k0:D→Th→Option Th}{b:DS}{t:Th}{f:DE}{r:Ev}{n:Nat} (h:f t=some r) (hr:r.d=.int (n:Int)) (hn:n≤100000):zu2 k0 f b t=forD k0 b ((natsI n).map D.int) t:=by
 unfold zu2
 rw [h]
 simp only [zav9,hr]
 rw [if_pos (by unfold bigI;exact decide_eq_true (by lia)),zbc1]
 congr 1
 unfold rngD natsI
 simp
theorem sorti_of {f:DE}{t:Th}{r:Ev}{xs:List Int} (h:f t=some r) (hr:r.d=.lst (xs.map D.int)) (hl:xs.length<64):(dT1 zx6 (za2 f dNil)) t=some (.nw ((sortI' xs).map D.int)):=by
 rw [zl6 h]
 unfold zx6
 simp only [hr,zf5,zav9]
 rw [if_pos hl]
def stG (W:Int→Int) (b x:Int):Int:=if W b<W x then x else b
theorem zau5 {fb:DE}{W:Int→Int}{cs:List D}:∀(l:List Int) (b:Int),(∀x∈l,fb (.val (.int x)::cs.map Sl.val)=some (.cl (.int (W x))))→zj9 true fb cs (.int b) (.int (W b)) (l.map D.int)=some (.int (l.foldl (stG W) b))
 |[],b,_=>rfl
 |x::l,b,h=>by
  have e:=h x (zaw0 ..)
  simp only [zax1,zj9,e,zav9,Ev.d,flat,if_true,cmpD,cmpI,zbg8]
  have ih:=fun b=>zau5 l b fun y hy=>h y (zav8 _ hy)
  by_cases c:W b<W x
  ·rw [if_pos (decide_eq_true c),show stG W b x=x from if_pos c];exact ih x
  ·rw [if_neg (by simpa using c),show stG W b x=b from if_neg c];exact ih b
theorem key_of {fa fb:DE}{W:Int→Int}{cs:List D}{b:Bool}{cap:List Nat}{t:Th}{r:Ev}{x:Int}{l:List Int} (ha:fa t=some r) (hr:r.d=.lst ((x::l).map D.int)) (hc:capD t cap=some (b,cs)) (h:∀y∈x::l,fb (.val (.int y)::cs.map Sl.val)=some (.cl (.int (W y)))):dKey true cap fa fb t=some (.cl (.int (l.foldl (stG W) x))):=by
 unfold dKey
 rw [ha,hc]
 simp only [zav9,hr,zax1]
 rw [show (ze9 (D.int x::l.map D.int)).isSome=true by rw [← zax1 (f:=D.int),zf5];rfl,if_pos rfl,h x (zaw0 ..)]
 simp only [zav9,Ev.d,flat,if_true]
 rw [zau5 l x fun y hy=>h y (zav8 _ hy)]
 rfl
def dV (P:List Int) (V:Int→Int):D:=.dct (P.map Sum.inl) (P.map fun p=>.int (V p))
def adP (P:List Int) (p:Int):List Int:=if p∈P then P else P++[p]
def upV (V:Int→Int) (p v:Int):Int→Int:=fun q=>if q=p then v else V q
theorem adP_len (P:List Int) (p:Int):(adP P p).length≤P.length+1:=by unfold adP;split<;>simp
theorem zu1 {P:List Int}{V W:Int→Int} (h:∀p∈P,V p=W p):dV P V=dV P W:=by
 unfold dV
 congr 1
 exact zbe9 fun p hp=>by rw [h p hp]
theorem has_V (p:Int):∀P:List Int,hasK (P.map Sum.inl) (Sum.inl p)=decide (p∈P)
 |[]=>rfl
 |q::P=>by
  have i:=has_V p P
  unfold hasK at i ⊢
  rw [zax1,zba5,i]
  by_cases h:q=p
  ·subst h;simp
  ·have h' : ¬ (Sum.inl q:Key)=Sum.inl p:=fun z=>h (by injection z)
   have : ¬ p=q:=fun z=>h z.symm
   rw [decide_eq_false h']
   simp [this]
theorem sc_V (V:Int→Int):∀P:List Int,(P.map fun p=>D.int (V p)).all scD=true
 |[]=>rfl
 |_::P=>by simp only [zax1,zaz6,sc_V V P];rfl
theorem get_V (V:Int→Int) (p:Int):∀P:List Int,zh6 (P.map Sum.inl) (P.map fun p=>D.int (V p)) (Sum.inl p)=if p∈P then some (.int (V p)) else none
 |[]=>rfl
 |q::P=>by
  simp only [zax1,zh6,get_V V p P]
  by_cases h:q=p
  ·subst h;simp
  ·have h' : ¬ (Sum.inl q:Key)=Sum.inl p:=fun z=>h (by injection z)
   have : ¬ p=q:=fun z=>h z.symm
   rw [if_neg h']
   simp [this]
theorem zip_V (V:Int→Int) (p v:Int):∀P:List Int,zbg3 (fun (k':Key) d'=>if k'=Sum.inl p then D.int v else d') (P.map Sum.inl) (P.map fun p=>D.int (V p))=P.map fun q=>D.int (upV V p v q)
 |[]=>rfl
 |q::P=>by
  simp only [zax1,zbc9,zip_V V p v P]
  by_cases h:q=p
  ·subst h;simp [upV]
  ·have h' : ¬ (Sum.inl q:Key)=Sum.inl p:=fun z=>h (by injection z)
   rw [if_neg h']
   simp [upV,h]
theorem put_V (P:List Int) (V:Int→Int) (p v:Int):D.dct (zh1 (P.map Sum.inl) (P.map fun p=>.int (V p)) (Sum.inl p) (.int v)).1 (zh1 (P.map Sum.inl) (P.map fun p=>.int (V p)) (Sum.inl p) (.int v)).2=dV (adP P p) (upV V p v):=by
 unfold zh1 adP
 rw [has_V]
 by_cases h:p∈P
 ·rw [decide_eq_true h,if_pos rfl,if_pos h]
  show D.dct (P.map Sum.inl) (zbg3 _ _ _)=_
  rw [zip_V]
  rfl
 ·rw [decide_eq_false h,if_neg (by decide),if_neg h]
  unfold dV
  have e:(P.map fun q=>D.int (upV V p v q))=P.map fun q=>D.int (V q):=zbe9 fun q hq=>by
   have:q≠p:=fun z=>h (z ▸ hq)
   simp [upV,this]
  simp only [zbc5,zax1,zbe2,e]
  simp [upV]
theorem drop_V (V:Int→Int) (p:Int):∀P:List Int,ze3 (P.map Sum.inl) (P.map fun p=>D.int (V p)) (Sum.inl p)=((P.filter fun q=>decide (q≠p)).map Sum.inl,(P.filter fun q=>decide (q≠p)).map fun p=>D.int (V p))
 |[]=>rfl
 |q::P=>by
  simp only [zax1,ze3,drop_V V p P]
  by_cases h:q=p
  ·subst h;simp
  ·have h' : ¬ (Sum.inl q:Key)=Sum.inl p:=fun z=>h (by injection z)
   rw [if_neg h']
   simp [h]
theorem zt9 {t:Th}{i:Nat}{fk fv:DE}{P:List Int}{V:Int→Int}{p v:Int}{rk rv:Ev} (hv:fv t=some rv) (ev:rv.d=.int v) (hk:fk t=some rk) (ek:rk.d=.int p) (hi:t[i]?=some (.dp (dV P V))) (hl:P.length<10000):zu3 i fk fv t=some (.nx (t.set i (.dp (dV (adP P p) (upV V p v))))):=by
 unfold zu3
 rw [hv,hk]
 show zab7 t i rv rk=_
 unfold zab7
 rw [hi,ek,ev]
 show (if (P.map fun p=>D.int (V p)).all scD&&scD (.int v)&&decide ((P.map Sum.inl).length<100000) then some (Out.nx (t.set i (.dp (.dct (zh1 (P.map Sum.inl) (P.map fun p=>.int (V p)) (Sum.inl p) (.int v)).1 (zh1 (P.map Sum.inl) (P.map fun p=>.int (V p)) (Sum.inl p) (.int v)).2)))) else none)=_
 rw [if_pos (by rw [sc_V];simp [scD];lia),put_V]
theorem ddelV_of {t:Th}{i:Nat}{fk:DE}{P:List Int}{V:Int→Int}{p:Int}{rk:Ev} (hk:fk t=some rk) (ek:rk.d=.int p) (hi:t[i]?=some (.dp (dV P V))) (hp:p∈P):zac6 i fk t=some (.nx (t.set i (.dp (dV (P.filter fun q=>decide (q≠p)) V)))):=by
 unfold zac6
 rw [hk]
 show zaq4 t i rk=_
 unfold zaq4
 rw [hi,ek]
 show (if (P.map fun p=>D.int (V p)).all scD&&hasK (P.map Sum.inl) (Sum.inl p) then some (Out.nx (t.set i (.dp (.dct (ze3 (P.map Sum.inl) (P.map fun p=>.int (V p)) (Sum.inl p)).1 (ze3 (P.map Sum.inl) (P.map fun p=>.int (V p)) (Sum.inl p)).2)))) else none)=_
 rw [if_pos (by rw [sc_V,has_V,decide_eq_true hp];rfl),drop_V]
 rfl
theorem zao8 {t:Th}{f1 f2:DE}{P:List Int}{V:Int→Int}{p:Int}{r2:Ev} (h1:f1 t=some (.cl (.int p))) (h2:f2 t=some r2) (e2:r2.d=dV P V):dBo (d2 (kInD true) f1 f2) t=some (!decide (p∈P)):=by
 unfold dBo
 rw [zj1 h1 h2]
 unfold kInD
 rw [e2]
 show (match D.bl (!hasK (P.map Sum.inl) (Sum.inl p)) with
  |.bl b=>some b
  |_=>none)=_
 rw [has_V]
theorem lenV_of {t:Th}{f:DE}{P:List Int}{V:Int→Int}{r:Ev} (h:f t=some r) (e:r.d=dV P V):(dT1 zt5 (za2 f dNil)) t=some (.cl (.int (P.length:Int))):=by
 rw [zl6 h]
 unfold zt5
 simp only [e]
 show some (Ev.cl (D.int ((P.map Sum.inl).length:Int)))=_
 rw [zay5]
theorem dgetV_of {t:Th}{fa fb:DE}{P:List Int}{V:Int→Int}{p:Int}{ra rb:Ev} (ha:fa t=some ra) (ea:ra.d=dV P V) (hb:fb t=some rb) (eb:rb.d=.int p) (hp:p∈P):(d2 zaq3 fa fb) t=some (.cl (.int (V p))):=by
 rw [zj1 ha hb]
 unfold zaq3
 rw [ea,eb]
 show (if (P.map fun p=>D.int (V p)).all scD then (zh6 (P.map Sum.inl) (P.map fun p=>D.int (V p)) (Sum.inl p)).map Ev.cl else none)=_
 rw [if_pos (sc_V V P),get_V,if_pos hp]
 rfl
theorem dg2V_of {t:Th}{fa fb fc:DE}{P:List Int}{V:Int→Int}{p n:Int}{ra rb rc:Ev} (ha:fa t=some ra) (ea:ra.d=dV P V) (hb:fb t=some rb) (eb:rb.d=.int p) (hc:fc t=some rc) (ec:rc.d=.int n):(dDG2 fa fb fc) t=some (.cl (.int (if p∈P then V p else n))):=by
 unfold dDG2
 rw [ha,hb,hc]
 simp only [zav9]
 rw [ea,eb,ec]
 show (if (P.map fun p=>D.int (V p)).all scD&&scD (.int n) then some (Ev.cl ((zh6 (P.map Sum.inl) (P.map fun p=>D.int (V p)) (Sum.inl p)).getD (.int n))) else none)=_
 rw [if_pos (by rw [sc_V];rfl),get_V]
 by_cases h:p∈P
 ·rw [if_pos h,if_pos h];rfl
 ·rw [if_neg h,if_neg h];rfl
theorem keys_V (P:List Int):(P.map (Sum.inl:Int→Key)).map kD=P.map D.int:=by rw [zbf4];rfl
theorem listV_of {t:Th}{f:DE}{P:List Int}{V:Int→Int}{r:Ev} (h:f t=some r) (e:r.d=dV P V):(dT1 zq9 (za2 f dNil)) t=some (.nw (P.map D.int)):=by
 rw [zl6 h]
 unfold zq9
 simp only [e]
 show some (Ev.nw ((P.map (Sum.inl:Int→Key)).map kD))=_
 rw [keys_V]
def ltr (n:Int):Nat→List Int→Int→Int
 |_,[],_=>n
 |i,x::xs,p=>if x=p then (i:Int) else ltr n (i+1) xs p
def nxs (n:Int):Nat→List Int→List Int
 |_,[]=>[]
 |i,x::xs=>ltr n (i+1) xs x::nxs n (i+1) xs
theorem zao5 (n:Int):∀(ps:List Int) (i:Nat),(nxs n i ps).length=ps.length
 |[],_=>rfl
 |_::ps,i=>by simp [nxs,zao5 n ps]
theorem ltr_ne {n:Int}{i:Nat}{x:Int}{xs:List Int}{p:Int} (h:p≠x):ltr n i (x::xs) p=ltr n (i+1) xs p:=by
 show (if x=p then (i:Int) else ltr n (i+1) xs p)=_
 rw [if_neg (Ne.symm h)]
def frt (v:Int→Int):Int→List Int→Int
 |b,[]=>b
 |b,q::r=>frt v (if v b<v q∨(v q=v b∧q<b) then q else b) r
def farP (v:Int→Int):List Int→Int
 |[]=>0
 |b::r=>frt v b r
def Fo (v:Int→Int) (p q:Int):Prop:=v q<v p∨(v q=v p∧p≤q)
theorem zar6 (v:Int→Int):∀(r:List Int) (b:Int),(frt v b r=b∨frt v b r∈r)∧Fo v (frt v b r) b∧∀q∈r,Fo v (frt v b r) q
 |[],b=>⟨.inl rfl,.inr ⟨rfl,zbj2 _⟩,fun q hq=>by cases hq⟩
 |q::r,b=>by
  unfold frt
  by_cases c:v b<v q∨(v q=v b∧q<b)
  ·rw [if_pos c]
   obtain⟨h1,h2,h3⟩:=zar6 v r q
   refine⟨.inr ?_,?_,?_⟩
   ·rcases h1 with h | h
    ·rw [h];exact zaw0 ..
    ·exact zav8 _ h
   ·unfold Fo at h2 ⊢;lia
   ·intro z hz
    rcases zaw6.mp hz with rfl | hz
    ·exact h2
    ·exact h3 z hz
  ·rw [if_neg c]
   obtain⟨h1,h2,h3⟩:=zar6 v r b
   refine⟨?_,h2,?_⟩
   ·rcases h1 with h | h
    ·exact .inl h
    ·exact .inr (zav8 _ h)
   ·intro z hz
    rcases zaw6.mp hz with rfl | hz
    ·unfold Fo at h2 ⊢;lia
    ·exact h3 z hz
theorem zt8 {v:Int→Int}{K:List Int} (h:K≠[]):farP v K∈K∧∀q∈K,Fo v (farP v K) q:=by
 cases K with
 |nil=>exact absurd rfl h
 |cons b r =>
  obtain⟨h1,h2,h3⟩:=zar6 v r b
  refine⟨?_,?_⟩
  ·show frt v b r∈b::r
   rcases h1 with h | h
   ·rw [h];exact zaw0 ..
   ·exact zav8 _ h
  ·intro q hq
   rcases zaw6.mp hq with rfl | hq
   ·exact h2
   ·exact h3 q hq
noncomputable def stA (v:Int→Int) (room:Nat) (K:List Int) (x:Int):List Int:=if x∈K then K else (if K.length=room then K.filter fun q=>decide (q≠farP v K) else K)++[x]
noncomputable def runA (n:Int) (room:Nat):List Int→Nat→List Int→List Int
 |[],_,_=>[]
 |x::xs,i,K=>(if x∈K then [] else [(i:Int)])++runA n room xs (i+1) (stA (ltr n (i+1) xs) room K x)
theorem zl2 {p:Int}:∀ {K:List Int},K.Nodup→p∈K→(K.filter fun q=>decide (q≠p)).length+1=K.length
 |[],_,h=>by cases h
 |b::r,nd,h=>by
  rw [zay8]at nd
  by_cases e:b=p
  ·subst e
   have:(r.filter fun q=>decide (q≠b))=r:=zbg6.mpr fun q hq=>decide_eq_true fun z=>nd.1 (z ▸ hq)
   rw [zay1 (by simp),this]
   rfl
  ·have:=zl2 (K:=r) nd.2 (by rcases zaw6.mp h with z | z;exact absurd z.symm e;exact z)
   rw [zay2 (by simpa using e),zax6,zax6,this]
theorem zv5 {v:Int→Int}{room:Nat} (r0:0<room) {K:List Int}{x:Int} (nd:K.Nodup) (hl:K.length≤room):(stA v room K x).Nodup∧(stA v room K x).length≤room:=by
 unfold stA
 by_cases hx:x∈K
 ·rw [if_pos hx];exact⟨nd,hl⟩
 ·rw [if_neg hx]
  by_cases hr:K.length=room
  ·rw [if_pos hr]
   have hne:K≠[]:=fun z=>by rw [z]at hr;simp at hr;lia
   have:=zl2 nd (zt8 (v:=v) hne).1
   refine⟨?_,by simp only [zax7,zax6,zbc4];lia⟩
   rw [zay0]
   refine⟨nd.filter _,by simp,fun a ha b hb=>?_⟩
   rw [zaw8.mp hb]
   exact fun z=>hx (z ▸ (zaz2.mp ha).1)
  ·rw [if_neg hr]
   refine⟨?_,by simp only [zax7,zax6,zbc4];lia⟩
   rw [zay0]
   refine⟨nd,by simp,fun a ha b hb=>?_⟩
   rw [zaw8.mp hb]
   exact fun z=>hx (z ▸ ha)
theorem for_I {k:D→Th→Option Th}{b:DS}{f:Nat→D}{P:Nat→Th→Prop}{n:Nat} (hb:∀x,x<n→∀t,P x t→∃t1 t2,k (f x) t=some t1∧b t1=some (.nx t2)∧P (x+1) t2):∀(m i:Nat) (t:Th),i+m=n→P i t→∃t',forD k b ((List.range' i m).map f) t=some (.nx t')∧P n t'
 |0,i,t,e,h=>⟨t,rfl,by rw [← e];exact h⟩
 |m+1,i,t,e,h=>by
  obtain⟨t1,t2,e1,e2,h2⟩:=hb i (by lia) t h
  obtain⟨t',e3,h'⟩:=for_I hb m (i+1) t2 (by lia) h2
  refine⟨t',?_,h'⟩
  rw [zbm1,zax1]
  simp only [forD,e1,e2,zav9,e3]
theorem for_I0 {k:D→Th→Option Th}{b:DS}{f:Nat→D}{P:Nat→Th→Prop}{n:Nat} (hb:∀x,x<n→∀t,P x t→∃t1 t2,k (f x) t=some t1∧b t1=some (.nx t2)∧P (x+1) t2) (t:Th) (h:P 0 t):∃t',forD k b ((zaz7 n).map f) t=some (.nx t')∧P n t':=by
 have:=for_I hb n 0 t (by lia) h
 rwa [zbk2]
def DI (n:Int) (P:List Int) (V:Int→Int) (i:Nat) (ps:List Int):Prop := ∀q,(if q∈P then V q else n)=ltr n i (ps.drop i) q
theorem zag8 {ps:List Int}{a:Nat} (h:a<ps.length):ps.drop a=ps.getD a 0::ps.drop (a+1):=by
 rw [zay4 h,zaz0,zaw2 h]
 rfl
theorem DI_step {n:Int}{P:List Int}{V:Int→Int}{a:Nat}{ps:List Int} (h:DI n P V (a+1) ps) (ha:a<ps.length):DI n (adP P (ps.getD a 0)) (upV V (ps.getD a 0) (a:Int)) a ps:=fun q=>by
 rw [zag8 ha]
 have hq:=h q
 show _=if ps.getD a 0=q then (a:Int) else ltr n (a+1) (ps.drop (a+1)) q
 have mem:∀z,z∈adP P (ps.getD a 0)↔z∈P∨z=ps.getD a 0:=fun z=>by
  unfold adP
  split
  ·rename_i w
   exact⟨.inl,fun y=>y.elim id fun y=>y ▸ w⟩
  ·simp
 by_cases e:q=ps.getD a 0
 ·rw [if_pos ((mem q).mpr (.inr e)),if_pos e.symm]
  simp [upV,e]
 ·rw [if_neg (fun z:ps.getD a 0=q=>e z.symm), ← hq]
  have:(q∈adP P (ps.getD a 0))=(q∈P):=propext ⟨fun z=>((mem q).mp z).resolve_right e,fun z=>(mem q).mpr (.inl z)⟩
  by_cases c:q∈P
  ·rw [if_pos (by rw [this];exact c),if_pos c];exact if_neg e
  ·rw [if_neg (by rw [this];exact c),if_neg c]
theorem DI_nil (n:Int) (ps:List Int):DI n [] (fun _=>0) ps.length ps:=fun q=>by simp [ltr]
theorem nxs_app (n:Int) {ps:List Int}{a:Nat} (h:a<ps.length):nxs n a (ps.drop a)=ltr n (a+1) (ps.drop (a+1)) (ps.getD a 0)::nxs n (a+1) (ps.drop (a+1)):=by
 rw [zag8 h]
 rfl
theorem zs5 (n:Nat):Builtin.Range.rangeSize ((n:Int) - 1) (-1) (-1)=(n:Int):=by
 unfold Builtin.Range.rangeSize
 rw [if_neg (by lia)]
 by_cases c:(n:Int) - 1 > -1
 ·rw [if_pos c,show (- -1:Int)=1 by decide,Int.ediv_one];lia
 ·rw [if_neg c];lia
theorem rev_ok {n:Nat} (hn:n≤1000):zk4 ((n:Int) - 1) (-1) (-1)=true:=by
 unfold zk4
 rw [zs5,decide_eq_true ⟨by decide,by decide,by lia⟩,Bool.and_true]
 have fit:∀x:Int, -2000≤x→x≤2000→Builtin.Range.rangeFitsLong x=true:=fun x h0 h1=>by
  unfold Builtin.Range.rangeFitsLong
  have e:(2:Int) ^ 63=9223372036854775808:=by decide
  rw [e,zaw5,decide_eq_true_eq,decide_eq_true_eq]
  lia
 unfold Builtin.Range.small
 rw [zs5,fit _ (by lia) (by lia),fit _ (by lia) (by lia),fit _ (by lia) (by lia),if_neg (by decide),fit _ (by decide) (by decide)]
 simp
theorem rev_is {n:Nat}:rng3 ((n:Int) - 1) (-1) (-1)=(zaz7 n).map fun (j:Nat)=>D.int ((n:Int) - 1 - (j:Int)):=by
 unfold rng3
 rw [zs5,zbc1]
 refine zbe9 fun j _=>?_
 congr 1
 lia
theorem zao9 {f:DE}{t:Th}{a:Int} (h:f t=some (.cl (.int a))):(d1 kNeg f) t=some (.cl (.int (-a))):=by
 unfold d1
 rw [h]
 rfl
def rwD (r:List Int):D:=.lst (r.map D.int)
def mD (M:List (List Int)):D:=.lst (M.map rwD)
def gM (M:List (List Int)) (i j:Int):Int:=(M.getD i.toNat []).getD j.toNat 0
structure Sq (n:Nat) (M:List (List Int)):Prop where
 len:M.length=n
 row:∀r∈M,r.length=n
def lowI (L:List Int):Int:=zf0 (L.headD 0) L.tail
theorem zaa6:∀ {l C:List Int},l.Nodup→(∀x∈l,x∈C)→l.length≤C.length
 |[],C,_,_=>zba1 _
 |x::l,C,nd,h=>by
  rw [zay8]at nd
  have hx:=h x (zaw0 ..)
  have:=zaa6 (l:=l) (C:=C.erase x) nd.2 fun y hy=>(List.mem_erase_of_ne (fun e=>nd.1 (by rw [← e];exact hy))).mpr (h y (zav8 _ hy))
  rw [zbb0 hx]at this
  have:=zbb9 hx
  simp only [zax6]
  lia
theorem zm3 {ft:DT}{p:Int→Bool}{ext:Th}:∀(l:List Int) (s:Sl),(∀x∈l,ft (.val (.int x)::ext)=some (p x))→zd7 (za9 0) ft (dVar 0) (l.map D.int) (s::ext)=some ((l.filter p).map D.int)
 |[],s,_=>rfl
 |x::l,s,h=>by
  have e0:za9 0 (.int x) (s::ext)=some (.val (.int x)::ext):=rfl
  have e1:=h x (zaw0 ..)
  have ih:=zm3 l (.val (.int x)) fun y hy=>h y (zav8 _ hy)
  simp only [zax1,zd7,e0,zav9,e1]
  cases c:p x with
  |true=>rw [zay2 c,if_pos rfl,ih];rfl
  |false=>rw [zay1 (by simp [c]),if_neg (by simp),ih]
def nr (M:List (List Int)) (C:List Int) (p:Int):Int:=lowI (C.map (gM M p))
structure CIn (n:Nat) (C:List Int):Prop where
 ne:0<C.length
 rg:∀x∈C,0≤x∧x<(n:Int)
structure Pol (room:Nat) (K:List Int) (x:Int) (K':List Int):Prop where
 has:x∈K'
 hit:x∈K→∀q,q∈K'↔q∈K
 old:∀q∈K',q=x∨q∈K
 nd:K'.Nodup
 len:K'.length≤room
inductive Rn (room:Nat):List Int→List Int→Nat→Prop
 |nil (K:List Int):Rn room K [] 0
 |cons {K K' xs:List Int}{x:Int}{m:Nat}:Pol room K x K'→Rn room K' xs m→Rn room K (x::xs) ((if x∈K then 0 else 1)+m)
theorem zab8 {K:List Int}{x:Int} (h:x∉K):(K.filter fun q=>decide (q≠x))=K:=zbg6.mpr fun q hq=>decide_eq_true fun z=>h (z ▸ hq)
theorem zal0 {v:Int→Int}{room:Nat} (r0:0<room) {K:List Int} (x:Int) (nd:K.Nodup) (hl:K.length≤room):Pol room K x (stA v room K x):=by
 obtain⟨a,b⟩:=zv5 (v:=v) (x:=x) r0 nd hl
 refine⟨?_,fun hx q=>?_,fun q hq=>?_,a,b⟩
 ·unfold stA
  split
  ·assumption
  ·simp
 ·unfold stA
  rw [if_pos hx]
 ·unfold stA at hq
  split at hq
  ·exact .inr hq
  ·rw [zax0,zaw8]at hq
   rcases hq with hq | hq
   ·split at hq
    ·exact .inr (zaz2.mp hq).1
    ·exact .inr hq
   ·exact .inl hq
theorem zal9 {n:Int}{room:Nat} (r0:0<room):∀(ps:List Int) (i:Nat) (K:List Int),K.Nodup→K.length≤room→Rn room K ps (runA n room ps i K).length
 |[],_,K,_,_=>.nil K
 |x::xs,i,K,nd,hl=>by
  obtain⟨nd',hl'⟩:=zv5 (v:=ltr n (i+1) xs) (x:=x) r0 nd hl
  have:=Rn.cons (zal0 (v:=ltr n (i+1) xs) r0 x nd hl) (zal9 (n:=n) r0 xs (i+1) _ nd' hl')
  unfold runA
  rw [zax7]
  have e:(if x∈K then ([]:List Int) else [(i:Int)]).length=if x∈K then 0 else 1:=by split<;>rfl
  rw [e]
  exact this
def cnt (v:Int→Int) (t:Int) (K:List Int):Nat:=(K.filter fun q=>decide (v q≤t)).length
theorem cnt_le {v:Int→Int}{t:Int}{K:List Int}:cnt v t K≤K.length:=zbc0 _ _
theorem cnt_sub {v:Int→Int}{t:Int}{K L:List Int} (nd:K.Nodup) (h:∀q∈K,q∈L):cnt v t K≤cnt v t L :=
 zaa6 (nd.filter _) fun q hq=>zaz2.mpr ⟨h q (zaz2.mp hq).1,(zaz2.mp hq).2⟩
theorem cnt_all {v:Int→Int}{t:Int}{K:List Int} (h:∀q∈K,v q≤t):cnt v t K=K.length:=by
 unfold cnt
 rw [zbg6.mpr fun q hq=>decide_eq_true (h q hq)]
theorem zu4 {v:Int→Int}{t:Int}{K:List Int} (h:∀q∈K,t<v q):cnt v t K=0:=by
 unfold cnt
 rw [zbi9.mpr fun q hq=>by have:=h q hq;simp;lia]
 rfl
theorem zp6 {v w:Int→Int}{t x:Int} (hx:v x≤t) (hv:∀q,q≠x→v q=w q):∀ {K:List Int},K.Nodup→cnt v t K=(if x∈K then 1 else 0)+cnt w t (K.filter fun q=>decide (q≠x))
 |[],_=>rfl
 |b::r,nd=>by
  rw [zay8]at nd
  have ih:=zp6 hx hv (K:=r) nd.2
  unfold cnt at ih ⊢
  by_cases e:b=x
  ·subst e
   rw [zay2 (by simpa using hx),zax6,ih,if_neg nd.1,if_pos (zaw0 ..),zay1 (by simp)]
   lia
  ·have m:(x∈b::r)↔x∈r:=by
    rw [zaw6]
    exact⟨fun z=>z.elim (fun y=>absurd y.symm e) id,.inr⟩
   rw [zay2 (l:=r) (a:=b) (p:=fun q=>decide (q≠x)) (by simpa using e)]
   have mm:(if x∈b::r then 1 else 0)=if x∈r then 1 else 0:=by simp only [m]
   rw [mm]
   by_cases c:w b≤t
   ·rw [zay2 (by rw [hv b e];simpa using c),zay2 (by simpa using c),zax6,zax6,ih]
    lia
   ·rw [zay1 (by rw [hv b e];simpa using c),zay1 (by simpa using c),ih]
theorem cnt_x {w:Int→Int}{t x:Int}:∀ {K:List Int},K.Nodup→x∈K→cnt w t K=(if w x≤t then 1 else 0)+cnt w t (K.filter fun q=>decide (q≠x))
 |[],_,h=>by cases h
 |b::r,nd,h=>by
  rw [zay8]at nd
  by_cases e:b=x
  ·subst e
   rw [zay1 (by simp),zab8 nd.1]
   unfold cnt
   by_cases c:w b≤t
   ·rw [zay2 (by simpa using c),if_pos c,zax6];lia
   ·rw [zay1 (by simpa using c),if_neg c];lia
  ·have hr:x∈r:=by
    rcases zaw6.mp h with z | z
    ·exact absurd z.symm e
    ·exact z
   have ih:=cnt_x (w:=w) (t:=t) nd.2 hr
   rw [zay2 (l:=r) (a:=b) (p:=fun q=>decide (q≠x)) (by simpa using e)]
   unfold cnt at ih ⊢
   by_cases c:w b≤t
   ·rw [zay2 (by simpa using c),zay2 (by simpa using c),zax6,zax6,ih];lia
   ·rw [zay1 (by simpa using c),zay1 (by simpa using c),ih]
theorem ltr_ge {n:Int}:∀(ps:List Int) (i:Nat) (q:Int),(i:Int)+ps.length≤n→(i:Int)≤ltr n i ps q∧ltr n i ps q≤n
 |[],i,q,h=>by
  show (i:Int)≤n∧n≤n
  simp at h
  lia
 |x::xs,i,q,h=>by
  rw [zax6]at h
  show (i:Int)≤(if x=q then (i:Int) else ltr n (i+1) xs q)∧(if x=q then (i:Int) else ltr n (i+1) xs q)≤n
  split
  ·lia
  ·have:=ltr_ge (n:=n) xs (i+1) q (by lia)
   lia
theorem zaf5 {n:Int}{i:Nat}{x:Int}{xs:List Int}:ltr n i (x::xs) x=(i:Int):=if_pos rfl
theorem zau6 {n:Int}{room:Nat} (r0:0<room) {room':Nat} (hr:room'≤room):∀(ps:List Int) (i:Nat) (A B:List Int) (m:Nat) (d:Int),(i:Int)+ps.length≤n→A.Nodup→A.length≤room→B.Nodup→0≤d→(∀t,(cnt (ltr n i ps) t B:Int)≤cnt (ltr n i ps) t A+d)→Rn room' B ps m→((runA n room ps i A).length:Int)≤m+d
 |[],i,A,B,m,d,_,_,_,_,d0,_,_=>by
  show (0:Int)≤_
  lia
 |x::xs,i,A,B,_,d,hn,ndA,hA,ndB,d0,hc,.cons (K':=B') (m:=m') P R=>by
  rw [zax6]at hn
  let W:=ltr n (i+1) xs
  have hv:∀q,q≠x→ltr n i (x::xs) q=W q:=fun q hq=>ltr_ne hq
  have wge:∀q,(i:Int)+1≤W q:=fun q=>by have:=(ltr_ge (n:=n) xs (i+1) q (by lia)).1;show (i:Int)+1≤ltr n (i+1) xs q;lia
  obtain⟨nd',hl'⟩:=zv5 (v:=W) (x:=x) r0 ndA hA
  have pA:=zal0 (v:=W) r0 x ndA hA
  let a:Nat:=if x∈A then 1 else 0
  let b:Nat:=if x∈B then 1 else 0
  -- what is asked of the others
  have key:∀t,(i:Int)≤t→(b:Int)+cnt W t (B.filter fun q=>decide (q≠x))≤a+cnt W t (A.filter fun q=>decide (q≠x))+d:=fun t ht=>by
   have:=hc t
   rw [zp6 (w:=W) (by rw [zaf5];exact ht) hv ndA,zp6 (w:=W) (by rw [zaf5];exact ht) hv ndB]at this
   lia
  have k0:(b:Int)≤a+d:=by
   have:=key i (zbj2 _)
   rw [zu4 (K:=B.filter _) fun q _=>by have:=wge q;lia,zu4 (K:=A.filter _) fun q _=>by have:=wge q;lia]at this
   lia
  have rb:∀t,cnt W t (B'.filter fun q=>decide (q≠x))≤cnt W t (B.filter fun q=>decide (q≠x)):=fun t=>cnt_sub (P.nd.filter _) fun q hq=>by
   obtain⟨q1,q2⟩:=zaz2.mp hq
   have q3:q≠x:=by simpa using q2
   exact zaz2.mpr ⟨(P.old q q1).resolve_left q3,q2⟩
  have lb:(B'.filter fun q=>decide (q≠x)).length+1≤room:=by
   have:=zl2 P.nd P.has
   have:=P.len
   lia
  have fin:∀t,(cnt W t (B'.filter fun q=>decide (q≠x)):Int)≤cnt W t ((stA W room A x).filter fun q=>decide (q≠x))+(d+a - b):=fun t=>by
   by_cases ht:t<(i:Int)
   ·rw [zu4 fun q _=>by have:=wge q;lia]
    lia
   have kt:=key t (by lia)
   have rt:=rb t
   by_cases hx:x∈A
   ·have:stA W room A x=A:=by unfold stA;rw [if_pos hx]
    rw [this]
    lia
   ·have a0:a=0:=if_neg hx
    have f0:=zab8 hx
    by_cases hf:A.length=room
    ·have e:(stA W room A x).filter (fun q=>decide (q≠x))=A.filter fun q=>decide (q≠farP W A):=by
      unfold stA
      rw [if_neg hx,if_pos hf,zbh4,zay1 (by simp),List.filter_nil,zbc3]
      exact zab8 fun z=>hx (zaz2.mp z).1
     have hne:A≠[]:=fun z=>by rw [z]at hf;simp at hf;lia
     obtain⟨g1,g2⟩:=zt8 (v:=W) hne
     rw [e]
     by_cases hw:W (farP W A)≤t
     ·have:cnt W t (A.filter fun q=>decide (q≠farP W A))=(A.filter fun q=>decide (q≠farP W A)).length:=cnt_all fun q hq=>by
       have:=g2 q (zaz2.mp hq).1
       unfold Fo at this
       lia
      rw [this]
      have l1:=zl2 ndA g1
      have l2:=cnt_le (v:=W) (t:=t) (K:=B'.filter fun q=>decide (q≠x))
      lia
     ·have:cnt W t (A.filter fun q=>decide (q≠farP W A))=cnt W t A:=by
       have:=cnt_x (w:=W) (t:=t) ndA g1
       rw [if_neg hw]at this
       lia
      rw [this]
      rw [f0]at kt
      lia
    ·have e:(stA W room A x).filter (fun q=>decide (q≠x))=A.filter fun q=>decide (q≠x):=by
      unfold stA
      rw [if_neg hx,if_neg hf,zbh4,zay1 (by simp),List.filter_nil,zbc3]
     rw [e]
     lia
  have ih:=zau6 (n:=n) r0 hr xs (i+1) (stA W room A x) B' m' (d+a - b) (by lia) nd' hl' P.nd (by lia) (fun t=>by
   have f:=fin t
   show (cnt W t B':Int)≤cnt W t (stA W room A x)+_
   rw [cnt_x P.nd P.has,cnt_x nd' pA.has]
   lia) R
  show (((if x∈A then [] else [(i:Int)])++runA n room xs (i+1) (stA W room A x)).length:Int)≤_
  rw [zax7]
  have ea:((if x∈A then ([]:List Int) else [(i:Int)]).length:Int)=1 - a:=by
   show _=(1:Int) - ((if x∈A then 1 else 0:Nat):Int)
   split<;>simp
  have eb:((if x∈B then 0 else 1:Nat):Int)=1 - b:=by
   show _=(1:Int) - ((if x∈B then 1 else 0:Nat):Int)
   split<;>simp
  lia
def addP (P:List Int) (p:Int):List Int:=if p∈P then P else P++[p]
noncomputable def runS (room:Nat):List Int→Nat→List Int→List Int→List Int
 |[],_,_,B=>B
 |p::ps,i,P,B=>if i=0∨(p∉P∧P.length=room) then runS room ps (i+1) [p] (B++[(i:Int)]) else runS room ps (i+1) (addP P p) B
theorem addP_nd {P:List Int}{p:Int} (nd:P.Nodup):(addP P p).Nodup:=by
 unfold addP
 split
 ·exact nd
 ·rename_i h
  rw [zay0]
  exact⟨nd,by simp,fun a ha b hb=>by rw [zaw8.mp hb];exact fun z=>h (z ▸ ha)⟩
theorem addP_mem {P:List Int}{p q:Int}:q∈addP P p↔q∈P∨q=p:=by
 unfold addP
 split
 ·rename_i w
  exact⟨.inl,fun y=>y.elim id fun y=>y ▸ w⟩
 ·simp
theorem zai1 {room:Nat}:∀(ps:List Int) (i:Nat) (K P B:List Int) (m:Nat),Rn room K ps m→P.Nodup→K.Nodup→K.length≤room→(i=0→K=[])→(∀q∈P,q∈K)→(runS room ps i P B).length≤B.length+m∧True
 |ps,i,K,P,B,m,R,nP,nK,hK,h0,sub=>by
  -- with one more: whatever P is
  have gen:∀(ps:List Int) (i:Nat) (K P B:List Int) (m:Nat),Rn room K ps m→P.Nodup→K.Nodup→K.length≤room→(i=0→K=[])→((∀q∈P,q∈K)→(runS room ps i P B).length≤B.length+m)∧(0<i→(runS room ps i P B).length≤B.length+m+1):=by
   intro ps
   induction ps with
   |nil =>
    intro i K P B m R nP nK hK h0
    exact⟨fun _=>zbd1 _ _,fun _=>by show B.length≤_;lia⟩
   |cons x xs ih =>
    intro i K P B m R nP nK hK h0
    cases R with
    |@cons _ K' _ _ m' pol R =>
     by_cases c:i=0∨(x∉P∧P.length=room)
     ·have e:runS room (x::xs) i P B=runS room xs (i+1) [x] (B++[(i:Int)]):=if_pos c
      have ih':=(ih (i+1) K' [x] (B++[(i:Int)]) m' R (by simp) pol.nd pol.len (fun z=>absurd z (zbd2 i))).1 (fun q hq=>by rw [zaw8.mp hq];exact pol.has)
      rw [zax7,zay6]at ih'
      rw [e]
      refine⟨fun sub=>?_,fun _=>?_⟩
      ·have hx:x∉K:=by
        rcases c with c | ⟨c1,c2⟩
        ·rw [h0 c];simp
        ·intro hx
         have l:=zaa6 (l:=x::P) (C:=K) (zay8.mpr ⟨c1,nP⟩) fun q hq=>by
          rcases zaw6.mp hq with rfl | hq
          ·exact hx
          ·exact sub q hq
         rw [zax6]at l
         lia
       rw [if_neg hx]
       lia
      ·split<;>lia
     ·have e:runS room (x::xs) i P B=runS room xs (i+1) (addP P x) B:=if_neg c
      have ih':=ih (i+1) K' (addP P x) B m' R (addP_nd nP) pol.nd pol.len (fun z=>absurd z (zbd2 i))
      rw [e]
      refine⟨fun sub=>?_,fun hi=>?_⟩
      ·by_cases hx:x∈K
       ·rw [if_pos hx]
        have:=ih'.1 fun q hq=>by
         rw [addP_mem]at hq
         rcases hq with hq | rfl
         ·exact (pol.hit hx q).mpr (sub q hq)
         ·exact pol.has
        lia
       ·rw [if_neg hx]
        have:=ih'.2 (Nat.succ_pos i)
        lia
      ·have:=ih'.2 (Nat.succ_pos i)
       split<;>lia
  exact⟨(gen ps i K P B m R nP nK hK h0).1 sub,trivial⟩
def stK (room:Nat) (K:List Int) (p:Int):List Int:=(if p∈K then K.erase p else if K.length=room then K.drop 1 else K)++[p]
def stM (K M:List Int) (i:Nat) (p:Int):List Int:=if p∈K then M else M++[(i:Int)]
noncomputable def runM (room:Nat):List Int→Nat→List Int→List Int→List Int
 |[],_,_,M=>M
 |p::ps,i,K,M=>runM room ps (i+1) (stK room K p) (stM K M i p)
theorem zak9 {room:Nat} (r0:0<room) {K:List Int} (x:Int) (nd:K.Nodup) (hl:K.length≤room):Pol room K x (stK room K x):=by
 have hsub:∀q∈(if x∈K then K.erase x else if K.length=room then K.drop 1 else K),q∈K:=fun q hq=>by
  split at hq
  ·exact List.mem_of_mem_erase hq
  ·split at hq
   ·exact List.mem_of_mem_drop hq
   ·exact hq
 have hnx:x∉(if x∈K then K.erase x else if K.length=room then K.drop 1 else K):=fun z=>by
  by_cases hx:x∈K
  ·rw [if_pos hx]at z
   exact (List.Nodup.mem_erase_iff nd).mp z |>.1 rfl
  ·exact hx (hsub x z)
 refine⟨by unfold stK;simp,fun hx q=>?_,fun q hq=>?_,?_,?_⟩
 ·unfold stK
  rw [if_pos hx,zax0,zaw8,nd.mem_erase_iff]
  constructor
  ·rintro (⟨_,h⟩ |rfl)
   ·exact h
   ·exact hx
  ·intro h
   by_cases z:q=x
   ·exact .inr z
   ·exact .inl ⟨z,h⟩
 ·unfold stK at hq
  rw [zax0,zaw8]at hq
  exact hq.elim (fun h=>.inr (hsub q h)) .inl
 ·unfold stK
  rw [zay0]
  refine⟨?_,by simp,fun a ha b hb=>by rw [zaw8.mp hb];exact fun z=>hnx (z ▸ ha)⟩
  split
  ·exact nd.erase _
  ·split
   ·exact nd.sublist (List.drop_sublist 1 K)
   ·exact nd
 ·unfold stK
  rw [zax7,zay6]
  split
  ·rename_i hx
   have:=zbb0 hx
   have:=zbb9 hx
   lia
  ·split
   ·rw [zbg1];lia
   ·lia
theorem zs3 (room:Nat):∀(ps:List Int) (i:Nat) (K M:List Int),runM room ps i K M=M++runM room ps i K []
 |[],i,K,M=>by simp [runM]
 |p::ps,i,K,M=>by
  show runM room ps (i+1) (stK room K p) (stM K M i p)=M++runM room ps (i+1) (stK room K p) (stM K [] i p)
  rw [zs3 room ps (i+1) _ (stM K M i p),zs3 room ps (i+1) _ (stM K [] i p)]
  unfold stM
  split<;>simp
theorem zn6 (room:Nat) (p:Int) (ps:List Int) (i:Nat) (K:List Int):runM room (p::ps) i K []=(if p∈K then [] else [(i:Int)])++runM room ps (i+1) (stK room K p) []:=by
 show runM room ps (i+1) (stK room K p) (stM K [] i p)=_
 rw [zs3]
 unfold stM
 split<;>simp
theorem zal7 {room:Nat} (r0:0<room):∀(ps:List Int) (i:Nat) (K:List Int),K.Nodup→K.length≤room→Rn room K ps (runM room ps i K []).length
 |[],_,K,_,_=>.nil K
 |x::xs,i,K,nd,hl=>by
  have pol:=zak9 r0 x nd hl
  have:=Rn.cons pol (zal7 r0 xs (i+1) _ pol.nd pol.len)
  rw [zn6,zax7]
  have e:(if x∈K then ([]:List Int) else [(i:Int)]).length=if x∈K then 0 else 1:=by split<;>rfl
  rw [e]
  exact this
theorem zk3 (room:Nat):∀(ps:List Int) (i:Nat) (P B:List Int),runS room ps i P B=B++runS room ps i P []
 |[],i,P,B=>by simp [runS]
 |p::ps,i,P,B=>by
  unfold runS
  split
  ·rw [zk3 room ps (i+1) [p] (B++[(i:Int)]),zk3 room ps (i+1) [p] ([]++[(i:Int)])];simp
  ·rw [zk3 room ps (i+1) _ B]
theorem three_le {room:Nat} (r0:0<room) (ps:List Int):(runS room ps 0 [] []).length≤(runA (ps.length:Int) room ps 0 []).length∧(runA (ps.length:Int) room ps 0 []).length≤(runM room ps 0 [] []).length:=by
 have a:=(zai1 ps 0 [] [] [] _ (zal9 (n:=(ps.length:Int)) r0 ps 0 [] zay7 (zba1 _)) zay7 zay7 (zba1 _) (fun _=>rfl) (fun q hq=>hq)).1
 have b:=zau6 (n:=(ps.length:Int)) r0 (zaw7 room) ps 0 [] [] _ 0 (by simp) zay7 (zba1 _) zay7 (zbj2 _) (fun t=>by simp) (zal7 r0 ps 0 [] zay7 (zba1 _))
 simp at a
 lia
def btw (lo hi:Int) (M:List Int):Nat:=(M.filter fun a=>decide (lo≤a)&&decide (a<hi)).length
theorem zal8 (room:Nat):∀(ps:List Int) (i:Nat) (K:List Int),∀a∈runM room ps i K [],(i:Int)≤a∧a<(i:Int)+ps.length
 |[],i,K,a,h=>by cases h
 |x::xs,i,K,a,h=>by
  rw [zn6,zax0]at h
  rw [zax6]
  rcases h with h | h
  ·split at h
   ·cases h
   ·rw [zaw8.mp h];lia
  ·have:=zal8 room xs (i+1) _ a h
   lia
theorem zs2 (room:Nat):∀(ps:List Int) (i:Nat) (P:List Int),∀a∈runS room ps i P [],(i:Int)≤a∧a<(i:Int)+ps.length
 |[],i,P,a,h=>by cases h
 |x::xs,i,P,a,h=>by
  rw [zax6]
  unfold runS at h
  split at h
  ·rw [zk3,zax0]at h
   rcases h with h | h
   ·rw [zbd5,zaw8]at h;lia
   ·have:=zs2 room xs (i+1) _ a h
    lia
  ·have:=zs2 room xs (i+1) _ a h
   lia
def Suf (K P:List Int):Prop := ∃K0 Q:List Int,K=K0++Q∧Q.Perm P
theorem suf_new (room:Nat) (K:List Int) (x:Int):Suf (stK room K x) [x]:=⟨_,[x],rfl,.refl _⟩
theorem suf_step {room:Nat}{K P:List Int}{x:Int} (nd:K.Nodup) (hl:K.length≤room) (h:Suf K P) (hb : ¬ (x∉P∧P.length=room)):Suf (stK room K x) (addP P x):=by
 obtain⟨K0,Q,rfl,pm⟩:=h
 have ml:∀q,q∈Q↔q∈P:=fun q=>pm.mem_iff
 unfold stK addP
 by_cases hx:x∈K0++Q
 ·rw [if_pos hx]
  by_cases hp:x∈P
  ·have hq:=(ml x).mpr hp
   have n0:x∉K0:=fun z=>(zay0.mp nd).2.2 x z x hq rfl
   rw [if_pos hp,List.erase_append_right _ n0,zbb8]
   refine⟨K0,Q.erase x++[x],rfl,?_⟩
   exact (List.perm_append_comm.trans (List.perm_cons_erase hq).symm).trans pm
  ·have nq:x∉Q:=fun z=>hp ((ml x).mp z)
   have h0:x∈K0:=(zax0.mp hx).resolve_right nq
   rw [if_neg hp,List.erase_append_left _ h0,zbb8]
   exact⟨K0.erase x,Q++[x],rfl,pm.append_right _⟩
 ·have hp:x∉P:=fun z=>hx (zav5 _ ((ml x).mpr z))
  rw [if_neg hx,if_neg hp]
  by_cases hf:(K0++Q).length=room
  ·rw [if_pos hf]
   cases K0 with
   |nil =>
    exact absurd ⟨hp,by rw [← pm.length_eq];simpa using hf⟩ hb
   |cons y r =>
    refine⟨r,Q++[x],?_,pm.append_right _⟩
    rw [zbg4,List.drop_one,List.tail_cons,zbb8]
  ·rw [if_neg hf]
   exact⟨K0,Q++[x],by rw [zbb8],pm.append_right _⟩
theorem zj6 {room:Nat} (r0:0<room):∀(ps:List Int) (i:Nat) (K P:List Int) (c:Nat),K.Nodup→K.length≤room→P.length≤room→c≤P.length→(i=0→P=[])→(0<i→Suf K P) →
  (i≠0→c+btw i ((runS room ps i P []++[(i:Int)+ps.length]).getD 0 0) (runM room ps i K [])≤room) ∧
  ∀k,k<(runS room ps i P []).length→btw ((runS room ps i P []).getD k 0) ((runS room ps i P []++[(i:Int)+ps.length]).getD (k+1) 0) (runM room ps i K [])≤room
 |[],i,K,P,c,_,_,hP,hc,_,_=>⟨fun _=>by simp [runM,btw];lia,fun k hk=>by simp [runS]at hk⟩
 |x::xs,i,K,P,c,nd,hl,hP,hc,h0,hS=>by
  have pol:=zak9 r0 x nd hl
  have N:(i:Int)+((x::xs).length:Int)=((i+1:Nat):Int)+(xs.length:Int):=by simp;lia
  rw [N,zn6]
  have bt:∀lo hi M,btw lo hi ((if x∈K then [] else [(i:Int)])++M)=(if x∈K then 0 else if lo≤(i:Int)∧(i:Int)<hi then 1 else 0)+btw lo hi M:=fun lo hi M=>by
   unfold btw
   rw [zbh4,zax7]
   congr 1
   split
   ·rfl
   ·by_cases z:lo≤(i:Int)∧(i:Int)<hi
    ·rw [if_pos z,zay2 (by simpa using z)];rfl
    ·rw [if_neg z,zay1 (by simpa using z)];rfl
  have low:∀lo lo' hi:Int,lo≤(i:Int)+1→lo'≤(i:Int)+1→btw lo hi (runM room xs (i+1) (stK room K x) [])=btw lo' hi (runM room xs (i+1) (stK room K x) []):=fun lo lo' hi hlo hlo'=>by
   unfold btw
   congr 1
   refine List.filter_congr fun a ha=>?_
   have:=(zal8 room xs (i+1) _ a ha).1
   rw [decide_eq_true (by lia:lo≤a),decide_eq_true (by lia:lo'≤a)]
  by_cases cb:i=0∨(x∉P∧P.length=room)
  ·have e:runS room (x::xs) i P []=(i:Int)::runS room xs (i+1) [x] []:=by
    have:runS room (x::xs) i P []=runS room xs (i+1) [x] ([]++[(i:Int)]):=if_pos cb
    rw [this,zk3]
    rfl
   obtain⟨i1,i2⟩:=zj6 r0 xs (i+1) (stK room K x) [x] (if x∈K then 0 else 1) pol.nd pol.len (by show 1≤room;lia) (by split<;>simp) (fun z=>absurd z (zbd2 i)) (fun _=>suf_new room K x)
   rw [e,zbg4]
   refine⟨fun hi=>?_,fun k hk=>?_⟩
   ·rw [zbk7,bt]
    have z:btw (i:Int) (i:Int) (runM room xs (i+1) (stK room K x) [])=0:=by
     unfold btw
     rw [zbi9.mpr fun a _=>by simp]
     rfl
    rw [z,if_neg (c:=(i:Int)≤i∧(i:Int)<i) (by lia)]
    split<;>lia
   ·rw [zbk8]
    cases k with
    |zero =>
     rw [zbk7,bt]
     have i1:=i1 (zbd2 i)
     rw [low (i:Int) ((i+1:Nat):Int) _ (by lia) (by lia)]
     have:(if x∈K then 0 else if (i:Int)≤(i:Int)∧(i:Int)<(runS room xs (i+1) [x] []++[((i+1:Nat):Int)+(xs.length:Int)]).getD 0 0 then 1 else 0)≤if x∈K then 0 else 1:=by
      split
      ·exact zaw7 _
      ·split<;>lia
     lia
    |succ k =>
     rw [zbk8,bt]
     have hk':k<(runS room xs (i+1) [x] []).length:=by simpa using hk
     have g:=(zs2 room xs (i+1) [x] ((runS room xs (i+1) [x] []).getD k 0) (by rw [zaz0,zaw2 hk'];exact zbj0 hk')).1
     rw [if_neg (c:=(runS room xs (i+1) [x] []).getD k 0≤(i:Int)∧_) (by lia)]
     have:=i2 k hk'
     split<;>lia
  ·have e:runS room (x::xs) i P []=runS room xs (i+1) (addP P x) []:=if_neg cb
   have i0:i≠0:=fun z=>cb (.inl z)
   have nb : ¬ (x∉P∧P.length=room):=fun z=>cb (.inr z)
   have sf:=hS (by lia)
   have hit:x∈P→x∈K:=fun hp=>by
    obtain⟨K0,Q,rfl,pm⟩:=sf
    exact zav5 _ (pm.mem_iff.mpr hp)
   have al:(addP P x).length≤room∧(x∉K→(addP P x).length=P.length+1)∧P.length≤(addP P x).length:=by
    unfold addP
    by_cases hp:x∈P
    ·rw [if_pos hp];exact⟨hP,fun z=>absurd (hit hp) z,zaw7 _⟩
    ·rw [if_neg hp,zax7,zay6]
     have:P.length≠room:=fun z=>nb ⟨hp,z⟩
     exact⟨by lia,fun _=>rfl,by lia⟩
   obtain⟨i1,i2⟩:=zj6 r0 xs (i+1) (stK room K x) (addP P x) (c+if x∈K then 0 else 1) pol.nd pol.len al.1 (by
    have:=al.2.2
    by_cases hx:x∈K
    ·rw [if_pos hx];lia
    ·have:=al.2.1 hx
     rw [if_neg hx];lia) (fun z=>absurd z (zbd2 i)) (fun _=>suf_step nd hl sf nb)
   rw [e]
   refine⟨fun _=>?_,fun k hk=>?_⟩
   ·rw [bt]
    have i1:=i1 (zbd2 i)
    rw [low (i:Int) ((i+1:Nat):Int) _ (by lia) (by lia)]
    have:(if x∈K then 0 else if (i:Int)≤(i:Int)∧(i:Int)<(runS room xs (i+1) (addP P x) []++[((i+1:Nat):Int)+(xs.length:Int)]).getD 0 0 then 1 else 0)≤if x∈K then 0 else 1:=by
     split
     ·exact zaw7 _
     ·split<;>lia
    lia
   ·rw [bt]
    have g:=(zs2 room xs (i+1) (addP P x) ((runS room xs (i+1) (addP P x) []).getD k 0) (by rw [zaz0,zaw2 hk];exact zbj0 hk)).1
    rw [if_neg (c:=(runS room xs (i+1) (addP P x) []).getD k 0≤(i:Int)∧_) (by lia)]
    have:=i2 k hk
    split<;>lia
abbrev Wys:=List (List Int×Int)
noncomputable def behK (room:Nat) (K:List Int) (x:Int):List (List Int):=if x∈K then [] else if K.length<room then [sortI' (K++[x])] else K.map fun g=>sortI' ((K.filter fun q=>decide (q≠g))++[x])
def putM (M:Wys) (k:List Int) (c:Int):Wys:=putT M k (if c<(zc1 M k).getD c then c else (zc1 M k).getD c)
noncomputable def zh7 (room:Nat) (x:Int) (W M:Wys) (k:List Int):Wys:=(behK room k x).foldl (fun M o=>putM M o ((zc1 W k).getD 0+1)) (if x∈k then putM M k ((zc1 W k).getD 0) else M)
def zh4 (room:Nat) (W:Wys) (x:Int):Wys:=(W.map (·.1)).foldl (zh7 room x W) []
def runW (room:Nat) (W:Wys) (xs:List Int):Wys:=xs.foldl (zh4 room) W
theorem zaf6 (k k':List Int) (w:Int):∀ps:Wys,zc1 (ps.map fun q=>if q.1=k then (q.1,w) else q) k'=if k'=k then (zc1 ps k).map (fun _=>w) else zc1 ps k'
 |[]=>by simp [zc1]
 |p::ps=>by
  have ih:=zaf6 k k' w ps
  rw [zax1]
  by_cases e:p.1=k
  ·rw [if_pos e]
   unfold zc1
   show (if p.1=k' then _ else _)=_
   by_cases e':k'=k
   ·rw [if_pos (e.trans e'.symm),if_pos e',if_pos e];rfl
   ·rw [if_neg (fun z=>e' (z.symm.trans e)),if_neg e',ih,if_neg e',if_neg (fun z=>e' (z.symm.trans e))]
  ·rw [if_neg e]
   unfold zc1
   by_cases e':k'=k
   ·subst e'
    rw [if_neg e,if_pos rfl,ih,if_pos rfl,if_neg e]
   ·rw [if_neg e',ih,if_neg e']
theorem zaf7 (k k':List Int) (w:Int):∀ps:Wys,zc1 (ps++[(k,w)]) k'=(zc1 ps k').or (if k=k' then some w else none)
 |[]=>by simp [zc1]
 |p::ps=>by
  have ih:=zaf7 k k' w ps
  rw [zbg4]
  unfold zc1
  by_cases e:p.1=k'
  ·rw [if_pos e,if_pos e];rfl
  ·rw [if_neg e,if_neg e,ih]
theorem zaf8 (k:List Int):∀ps:Wys,(ps.any fun q=>decide (q.1=k))=(zc1 ps k).isSome
 |[]=>rfl
 |p::ps=>by
  rw [zba5,zaf8 k ps]
  show _=(if p.1=k then some p.2 else zc1 ps k).isSome
  by_cases e:p.1=k
  ·rw [if_pos e];simp [e]
  ·rw [if_neg e,decide_eq_false e];exact zbi5 _
theorem zt3 (ps:Wys) (k k':List Int) (w:Int):zc1 (putT ps k w) k'=if k'=k then some w else zc1 ps k':=by
 unfold putT
 rw [zaf8]
 cases h:zc1 ps k with
 |none =>
  rw [if_neg (by simp),zaf7]
  by_cases e:k'=k
  ·subst e;rw [h,if_pos rfl];rfl
  ·rw [if_neg e,if_neg (fun z=>e z.symm)]
   cases zc1 ps k'<;>rfl
 |some c =>
  rw [if_pos (by simp),zaf6,h]
  rfl
theorem putT_len (ps:Wys) (k:List Int) (w:Int):(putT ps k w).length≤ps.length+1:=by unfold putT;split<;>simp
theorem zm7 (M:Wys) (k:List Int) (c:Int):(putM M k c).length≤M.length+1:=putT_len _ _ _
theorem zt4:∀ {ps:Wys}{k:List Int}{c:Int},zc1 ps k=some c→k∈ps.map (·.1)
 |[],_,_,h=>by cases h
 |p::ps,k,c,h=>by
  unfold zc1 at h
  by_cases e:p.1=k
  ·rw [zax1,e];exact zaw0 ..
  ·rw [if_neg e]at h;exact zav8 _ (zt4 h)
theorem zi5:∀ {ps:Wys}{k:List Int},k∈ps.map (·.1)→∃c,zc1 ps k=some c
 |[],_,h=>by cases h
 |p::ps,k,h=>by
  unfold zc1
  by_cases e:p.1=k
  ·rw [if_pos e];exact⟨_,rfl⟩
  ·rw [if_neg e]
   rw [zax1]at h
   rcases zaw6.mp h with h | h
   ·exact absurd h.symm e
   ·exact zi5 h
def Org (P:List Int→Int→Prop) (M:Wys):Prop := ∀k c,zc1 M k=some c→P k c
theorem zan9 {P:List Int→Int→Prop}{M:Wys} (h:Org P M) {k:List Int}{c:Int} (p:P k c):Org P (putM M k c):=fun k' c' e=>by
 unfold putM at e
 rw [zt3]at e
 by_cases z:k'=k
 ·subst z
  rw [if_pos rfl]at e
  cases e
  split
  ·exact p
  ·cases q:zc1 M k' with
   |none=>exact p
   |some d=>exact h _ _ q
 ·rw [if_neg z]at e
  exact h _ _ e
theorem zaf3 {P:List Int→Int→Prop}{c:Int}:∀(os:List (List Int)) {M:Wys},Org P M→(∀o∈os,P o c)→Org P (os.foldl (fun M o=>putM M o c) M)
 |[],_,h,_=>h
 |o::os,M,h,p=>zaf3 os (zan9 h (p o (zaw0 ..))) fun o ho=>p o (zav8 _ ho)
def Frm (room:Nat) (x:Int) (W:Wys) (k':List Int) (c':Int):Prop := ∃k c,zc1 W k=some c∧((x∈k∧k'=k∧c'=c)∨(k'∈behK room k x∧c'=c+1))
theorem org_step {room:Nat}{x:Int}{W M:Wys}{k:List Int} (h:Org (Frm room x W) M) (hk:k∈W.map (·.1)):Org (Frm room x W) (zh7 room x W M k):=by
 obtain⟨c,hc⟩:=zi5 hk
 unfold zh7
 rw [hc]
 refine zaf3 _ ?_ fun o ho=>⟨k,c,hc,.inr ⟨ho,rfl⟩⟩
 split
 ·exact zan9 h ⟨k,c,hc,.inl ⟨by assumption,rfl,rfl⟩⟩
 ·exact h
theorem zw6 {room:Nat}{x:Int}{W:Wys}:∀(ks:List (List Int)) {M:Wys},Org (Frm room x W) M→(∀k∈ks,k∈W.map (·.1))→Org (Frm room x W) (ks.foldl (zh7 room x W) M)
 |[],_,h,_=>h
 |k::ks,M,h,p=>zw6 ks (org_step h (p k (zaw0 ..))) fun o ho=>p o (zav8 _ ho)
theorem zw7 (room:Nat) (x:Int) (W:Wys):Org (Frm room x W) (zh4 room W x):=zw6 _ (fun k c e=>by cases e) fun k hk=>hk
def Has (M:Wys) (k:List Int) (c:Int):Prop := ∃a,zc1 M k=some a∧a≤c
theorem zar0 {M:Wys}{k:List Int}{c:Int} (k':List Int) (c':Int) (h:Has M k c):Has (putM M k' c') k c:=by
 obtain⟨a,h1,h2⟩:=h
 unfold Has putM
 rw [zt3]
 by_cases z:k=k'
 ·subst z
  rw [if_pos rfl,h1]
  refine⟨_,rfl,?_⟩
  show (if c' < a then c' else a)≤c
  split<;>lia
 ·rw [if_neg z];exact⟨a,h1,h2⟩
theorem zag2 (M:Wys) (k:List Int) (c:Int):Has (putM M k c) k c:=by
 unfold Has putM
 rw [zt3,if_pos rfl]
 refine⟨_,rfl,?_⟩
 split<;>lia
theorem zn3 {k:List Int}{c d:Int}:∀(os:List (List Int)) {M:Wys},Has M k c→Has (os.foldl (fun M o=>putM M o d) M) k c
 |[],_,h=>h
 |o::os,M,h=>zn3 os (zar0 o d h)
theorem zp2 {k:List Int}{d:Int}:∀(os:List (List Int)) {M:Wys},k∈os→Has (os.foldl (fun M o=>putM M o d) M) k d
 |o::os,M,h=>by
  rcases zaw6.mp h with rfl | h
  ·exact zn3 os (zag2 M k d)
  ·exact zp2 os h
theorem has_step {room:Nat}{x:Int}{W M:Wys}{k k':List Int}{c:Int} (h:Has M k c):Has (zh7 room x W M k') k c:=by
 unfold zh7
 refine zn3 _ ?_
 split
 ·exact zar0 _ _ h
 ·exact h
theorem zy1 {room:Nat}{x:Int}{W:Wys}{k:List Int}{c:Int}:∀(ks:List (List Int)) {M:Wys},Has M k c→Has (ks.foldl (zh7 room x W) M) k c
 |[],_,h=>h
 |k'::ks,M,h=>zy1 ks (has_step h)
theorem zag3 {room:Nat}{x:Int}{W:Wys}{k k':List Int}{c c':Int} (hc:zc1 W k=some c) (hf:(x∈k∧k'=k∧c'=c)∨(k'∈behK room k x∧c'=c+1)):∀(ks:List (List Int)) {M:Wys},k∈ks→Has (ks.foldl (zh7 room x W) M) k' c'
 |k0::ks,M,h=>by
  rcases zaw6.mp h with rfl | h
  ·refine zy1 ks ?_
   unfold zh7
   rw [hc]
   rcases hf with ⟨h1,rfl,rfl⟩ | ⟨h1,rfl⟩
   ·rw [if_pos h1]
    exact zn3 _ (zag2 M k' c')
   ·exact zp2 _ h1
  ·exact zag3 hc hf ks h
theorem zy2 {room:Nat}{x:Int}{W:Wys}{k k':List Int}{c c':Int} (hc:zc1 W k=some c) (hf:(x∈k∧k'=k∧c'=c)∨(k'∈behK room k x∧c'=c+1)):Has (zh4 room W x) k' c':=zag3 hc hf _ (zt4 hc)
theorem filt_ok {K:List Int}{g x:Int}{room:Nat} (nd:K.Nodup) (hg:g∈K) (hl:K.length≤room) (hx:x∉K):((K.filter fun q=>decide (q≠g))++[x]).Nodup∧((K.filter fun q=>decide (q≠g))++[x]).length≤room:=by
 have:=zl2 nd hg
 refine⟨?_,?_⟩
 ·rw [zay0]
  refine⟨nd.filter _,by simp,fun a ha b hb=>?_⟩
  rw [zaw8]at hb
  subst hb
  exact fun z=>hx (z ▸ (zaz2.mp ha).1)
 ·rw [zax7,zay6];lia
theorem pol_of {room:Nat}{K L:List Int}{x:Int} (hx:x∉K) (hm:x∈L) (ho:∀q∈L,q=x∨q∈K) (nd:L.Nodup) (hl:L.length≤room):Pol room K x (sortI' L):=by
 have p:=sortI'_perm L
 exact⟨p.mem_iff.mpr hm,fun h=>absurd h hx,fun q hq=>ho q (p.mem_iff.mp hq),p.nodup_iff.mpr nd,by rw [p.length_eq];exact hl⟩
theorem zau8 {room:Nat}{K K':List Int}{x:Int} (nd:K.Nodup) (hl:K.length≤room) (h:K'∈behK room K x):x∉K∧Pol room K x K':=by
 unfold behK at h
 split at h
 ·cases h
 rename_i hx
 refine⟨hx,?_⟩
 split at h
 ·rename_i hr
  rw [zaw8]at h
  subst h
  refine pol_of hx (by simp) (fun q hq=>?_) ?_ (by rw [zax7,zay6];lia)
  ·rw [zax0,zaw8]at hq
   exact hq.symm
  ·rw [zay0]
   exact⟨nd,by simp,fun a ha b hb=>by rw [zaw8]at hb;subst hb;exact fun z=>hx (z ▸ ha)⟩
 ·obtain⟨g,hg,rfl⟩:=zbe3.mp h
  obtain⟨a,b⟩:=filt_ok nd hg hl hx
  refine pol_of hx (by simp) (fun q hq=>?_) a b
  rw [zax0,zaw8]at hq
  rcases hq with hq | hq
  ·exact .inr (zaz2.mp hq).1
  ·exact .inl hq
def OkW (room:Nat) (W:Wys):Prop:=Org (fun k _=>k.Nodup∧k.length≤room) W
theorem zx1 {room:Nat}{W:Wys} (x:Int) (h:OkW room W):OkW room (zh4 room W x):=fun k' c' e=>by
 obtain⟨k,c,hc,(⟨_,rfl,_⟩ | ⟨hb,_⟩)⟩:=zw7 room x W k' c' e
 ·exact h _ _ hc
 ·have:=(zau8 (h _ _ hc).1 (h _ _ hc).2 hb).2
  exact⟨this.nd,this.len⟩
theorem zw1 {room:Nat}:∀(xs:List Int) {W:Wys},OkW room W→∀k' c',zc1 (runW room W xs) k'=some c'→∃(k:List Int) (c:Int) (m:Nat),zc1 W k=some c∧Rn room k xs m∧c'=c+m
 |[],W,h,k',c',e=>⟨k',c',0,e,.nil k',by lia⟩
 |x::xs,W,h,k',c',e=>by
  obtain⟨k1,c1,m1,h1,r1,e1⟩:=zw1 xs (zx1 x h) k' c' e
  obtain⟨k,c,hc,(⟨hx,rfl,rfl⟩ | ⟨hb,rfl⟩)⟩:=zw7 room x W k1 c1 h1
  ·have o:=h _ _ hc
   have:=Rn.cons (room:=room) (K:=k1) (x:=x) ⟨hx,fun _ _=>Iff.rfl,fun q hq=>.inr hq,o.1,o.2⟩ r1
   rw [if_pos hx]at this
   exact⟨k1,c1,0+m1,hc,this,by lia⟩
  ·have o:=h _ _ hc
   obtain⟨hx,p⟩:=zau8 o.1 o.2 hb
   have:=Rn.cons p r1
   rw [if_neg hx]at this
   exact⟨k,c,1+m1,hc,this,by lia⟩
theorem zal3 {a b:List Int} (p:a.Perm b):sortI' a=sortI' b:=sorted_uniq (((sortI'_perm a).trans p).trans (sortI'_perm b).symm) (sortI'_sorted a) (sortI'_sorted b)
theorem zw2 {n:Int}{room:Nat} (r0:0<room):∀(xs:List Int) (i:Nat) (K:List Int) {W:Wys}{c:Int},Has W (sortI' K) c→K.Nodup→K.length≤room→∃k',Has (runW room W xs) k' (c+(runA n room xs i K).length)
 |[],i,K,W,c,h,_,_=>⟨_,by simpa [runA,runW] using h⟩
 |x::xs,i,K,W,c,h,nd,hl=>by
  obtain⟨a,h1,h2⟩:=h
  obtain⟨nd',hl'⟩:=zv5 (v:=ltr n (i+1) xs) (x:=x) r0 nd hl
  have pm:=sortI'_perm K
  have key:Has (zh4 room W x) (sortI' (stA (ltr n (i+1) xs) room K x)) (c+(if x∈K then 0 else 1)):=by
   by_cases hx:x∈K
   ·rw [if_pos hx]
    have e:stA (ltr n (i+1) xs) room K x=K:=by unfold stA;rw [if_pos hx]
    rw [e]
    obtain⟨b,b1,b2⟩:=zy2 (room:=room) (x:=x) h1 (.inl ⟨pm.mem_iff.mpr hx,rfl,rfl⟩)
    exact⟨b,b1,by lia⟩
   ·rw [if_neg hx]
    have hx':x∉sortI' K:=fun z=>hx (pm.mem_iff.mp z)
    have m:sortI' (stA (ltr n (i+1) xs) room K x)∈behK room (sortI' K) x:=by
     unfold behK
     rw [if_neg hx',pm.length_eq]
     unfold stA
     rw [if_neg hx]
     by_cases hr:K.length<room
     ·rw [if_pos hr,if_neg (by lia),zaw8]
      exact zal3 (pm.symm.append_right [x])
     ·rw [if_neg hr,if_pos (by lia)]
      have kn:K≠[]:=fun z=>by rw [z]at hr;simp at hr;lia
      exact zbe3.mpr ⟨farP (ltr n (i+1) xs) K,pm.mem_iff.mpr (zt8 kn).1,zal3 ((pm.filter _).append_right [x])⟩
    obtain⟨b,b1,b2⟩:=zy2 (room:=room) (x:=x) h1 (.inr ⟨m,rfl⟩)
    exact⟨b,b1,by lia⟩
  obtain⟨k',q⟩:=zw2 (n:=n) r0 xs (i+1) _ key nd' hl'
  refine⟨k',?_⟩
  have e:(runA n room (x::xs) i K).length=(if x∈K then 0 else 1)+(runA n room xs (i+1) (stA (ltr n (i+1) xs) room K x)).length:=by
   show ((if x∈K then [] else [(i:Int)])++_).length=_
   rw [zax7]
   split<;>rfl
  rw [e]
  obtain⟨b,b1,b2⟩:=q
  refine⟨b,b1,?_⟩
  split at b2<;>split<;>first | lia | contradiction
theorem best_W {room:Nat} (r0:0<room) (ps:List Int):(∃k,zc1 (runW room [([],0)] ps) k=some ((runA (ps.length:Int) room ps 0 []).length:Int))∧∀k c,zc1 (runW room [([],0)] ps) k=some c→((runA (ps.length:Int) room ps 0 []).length:Int)≤c:=by
 have lo:∀k c,zc1 (runW room [([],0)] ps) k=some c→((runA (ps.length:Int) room ps 0 []).length:Int)≤c:=fun k c e=>by
  obtain⟨k0,c0,m,h1,h2,h3⟩:=zw1 ps (W:=[([],0)]) (room:=room) (fun k c e=>by
   unfold zc1 at e
   by_cases z:([]:List Int)=k
   ·subst z;exact⟨zay7,zba1 _⟩
   ·rw [if_neg z]at e;cases e) k c e
  unfold zc1 at h1
  by_cases z:([]:List Int)=k0
  ·subst z
   rw [if_pos rfl]at h1
   cases h1
   have b:=zau6 (n:=(ps.length:Int)) r0 (zaw7 room) ps 0 [] [] _ 0 (by simp) zay7 (zba1 _) zay7 (zbj2 _) (fun t=>by simp) h2
   lia
  ·rw [if_neg z]at h1;cases h1
 refine⟨?_,lo⟩
 obtain⟨k,a,h1,h2⟩:=zw2 (n:=(ps.length:Int)) r0 ps 0 [] (W:=[([],0)]) (c:=0) ⟨0,rfl,zbj2 _⟩ zay7 (zba1 _)
 have:=lo k a h1
 exact⟨k,by rw [h1];congr 1;lia⟩
theorem zae5 {d:Int}:∀(os:List (List Int)) (M:Wys),(os.foldl (fun M o=>putM M o d) M).length≤M.length+os.length
 |[],M=>by simp
 |o::os,M=>by
  have:=zae5 (d:=d) os (putM M o d)
  have:=zm7 M o d
  simp only [zbg8,zax6]
  lia
theorem zau9 {room:Nat}{K:List Int}{x:Int} (hl:K.length≤3):(behK room K x).length+(if x∈K then 1 else 0)≤3:=by
 unfold behK
 split
 ·simp
 ·split
  ·simp
  ·simp;lia
theorem zad8 {room:Nat}{x:Int}{W M:Wys}{k:List Int} (hl:k.length≤3):(zh7 room x W M k).length≤M.length+3:=by
 unfold zh7
 refine zaz5 (zae5 _ _) ?_
 have:=zau9 (room:=room) (x:=x) hl
 split
 ·rename_i h
  rw [if_pos h]at this
  have:=zm7 M k ((zc1 W k).getD 0)
  lia
 ·rename_i h
  rw [if_neg h]at this
  lia
theorem zv4 {room:Nat}{x:Int}{W:Wys}:∀(ks:List (List Int)) (M:Wys),(∀k∈ks,k.length≤3)→(ks.foldl (zh7 room x W) M).length≤M.length+3*ks.length
 |[],M,_=>by simp
 |k::ks,M,h=>by
  have:=zv4 (room:=room) (x:=x) (W:=W) ks (zh7 room x W M k) fun k hk=>h k (zav8 _ hk)
  have:=zad8 (room:=room) (x:=x) (W:=W) (M:=M) (h k (zaw0 ..))
  simp only [zbg8,zax6]
  lia
def top (i:Nat):Stmt:=PySem.Challenge.pw_nearenough_k50_whole_all_ways.main.body.getD i (.Pass ⟨0,0,0,0⟩)
abbrev zm6:Stmt:=top 1
abbrev zh0:Stmt:=top 2
abbrev zc3:Stmt:=top 3
abbrev ze6:Stmt:=top 4
abbrev zg9:Stmt:=top 5
abbrev zf1:Stmt:=top 7
abbrev zk2:Stmt:=top 9
abbrev zg0:Stmt:=top 11
abbrev zi4:Stmt:=top 12
abbrev s_law:Stmt:=top 13
structure Blt (mg:Str→Option Value):Prop where
 n_abs:mg "abs"=none
 n_enumerate:mg "enumerate"=none
 n_len:mg "len"=none
 n_list:mg "list"=none
 n_min:mg "min"=none
 n_range:mg "range"=none
 n_sorted:mg "sorted"=none
 n_tuple:mg "tuple"=none
 n_zip:mg "zip"=none
variable {P:Program}{w:World}{K:zav4}{mg:Str→Option Value}{base:BHeap}{ad:Addr}{fd:FuncData}
theorem zal5:FnScope ["room", "asks", "kept", "missed", "at", "page"] ["room", "asks"] (zb1 zm6):=zq2 rfl rfl rfl rfl (by decide +kernel)
noncomputable def zak2:DS:=(dSeq (dIfS (dBo (d2 kIn (dVar 5) (dVar 2))) (dRem 2 (dVar 5)) (dApp 3 (dVar 4)))
  (dSeq (dApp 2 (dVar 5))
  (dIfS (dBo (d2 qG (dT1 kLen (za2 (dVar 2) dNil)) (dVar 0))) (dDel 2 (dC (.int 0))) zg5)))
def ktE:D→Th→Option Th:=(zaj4 2 (zj4 (za9 4) (zj4 (za9 5) zar3)))
def zn4:DS :=
 (dSeq (dAsg 2 (dT1 kLst dNil)) (dSeq (dAsg 3 (dT1 kLst dNil)) (dSeq (zy8 ktE (dVar 1) zak2) (zy6 3))))
def zl4:List D→Option Ev:=mkG 2 ["room", "asks", "kept", "missed", "at", "page"] zn4
theorem zao0 (Fn:L2.Fun K "misses" "misses" zm6 ad fd) (bu:Blt mg) :FnOk P w K mg base CX0 1 ad fd ["room", "asks"] (spD K zl4):=by
 have SC:=zal5
 refine zl0 (k:=0) Fn SC (fun _ _ e=>zg4 e) zn4 (fun _ _ e=>zj2 e) (fun cdv A outer s H E F hr=>?_)
 refine za5 ?_ ?_
 ·exact (zc2 (i:=2) SC.nd rfl (zb7 rfl) (zf4 za7))
 refine za5 ?_ ?_
 ·exact (zc2 (i:=3) SC.nd rfl (zb7 rfl) (zf4 za7))
 refine za5 ?_ ?_
 ·exact (zaf0 PassesOwn.never rfl rfl bu.n_enumerate (za0 1) (zaf1 rfl (zg2 (zd6 (i:=4) SC.nd rfl (zb7 rfl)) (zg2 (zd6 (i:=5) SC.nd rfl (zb7 rfl)) zs8))) (zad6 (zf9 (zd5 4) (zf9 (zd5 5) zr7))) (za5 (zg1 (zd3 od_in (za0 5) (za0 2)) (zb3 (psd_rem 2 (za0 5))) (zb3 (zh8 3 (za0 4))))
  (za5 (zh8 2 (za0 5))
  (zb3 (zg1 (zd3 od_gt (zb9 zi1 rfl bu.n_len PySem.boot_len (za1 (za0 2) za7)) (za0 0)) (zb3 (psd_del 2 zb2)) ze8)))))
 exact zb3 (zm8 3)
theorem zw0:FnScope ["asks", "later", "told", "at"] ["asks"] (zb1 zh0):=zq2 rfl rfl rfl rfl (by decide +kernel)
noncomputable def bdNx:DS:=(dSeq (dApp 2 (dDG2 (dVar 1) (d2 kIx (dVar 0) (dVar 3)) (dT1 kLen (za2 (dVar 0) dNil)))) (zu3 1 (d2 kIx (dVar 0) (dVar 3)) (dVar 3)))
noncomputable def zp3:DS :=
 (dSeq (dAsg 1 zy7) (dSeq (dAsg 2 (dT1 kLst dNil)) (dSeq (zaj6 (za9 3) (za2 (d2 qS (dT1 kLen (za2 (dVar 0) dNil)) (dC (.int 1))) (za2 (d1 kNeg (dC (.int 1))) (za2 (d1 kNeg (dC (.int 1))) dNil))) bdNx) (dRet (d1 kRev (dVar 2))))))
def ze5:List D→Option Ev:=mkG 1 ["asks", "later", "told", "at"] zp3
theorem zx0 (Fn:L2.Fun K "next_asks" "next_asks" zh0 ad fd) (bu:Blt mg) :FnOk P w K mg base CX0 1 ad fd ["asks"] (spD K ze5):=by
 have SC:=zw0
 refine zl0 (k:=0) Fn SC (fun _ _ e=>zg4 e) zp3 (fun _ _ e=>zj2 e) (fun cdv A outer s H E F hr=>?_)
 refine za5 ?_ ?_
 ·exact (zc2 (i:=1) SC.nd rfl (zb7 rfl) zn0)
 refine za5 ?_ ?_
 ·exact (zc2 (i:=2) SC.nd rfl (zb7 rfl) (zf4 za7))
 refine za5 ?_ ?_
 ·exact (psd_rng3 PassesOwn.never rfl rfl bu.n_range (za1 (zc4 od_sub (zb9 zi1 rfl bu.n_len PySem.boot_len (za1 (za0 0) za7)) zb2) (za1 (zs9 zb2) (za1 (zs9 zb2) za7))) (zd6 (i:=3) SC.nd rfl (zb7 rfl)) (zd5 3) (za5 (zh8 2 (zan7 hr.units (za0 1) (zw4 (za0 0) (za0 3)) (zb9 zi1 rfl bu.n_len PySem.boot_len (za1 (za0 0) za7))))
  (zb3 (zs7 1 hr.units (zw4 (za0 0) (za0 3)) (za0 3)))))
 exact zb3 (ze7 (ped_rev (za0 2)))
theorem zm4:FnScope ["kept"] ["kept"] (zb1 zc3):=zq2 rfl rfl rfl rfl (by decide +kernel)
def feF:DE:=(dT1 kTup (za2 (d1 kNeg (d2 zaq3 (dVar 1) (dVar 0))) (za2 (dVar 0) dNil)))
def zf6:DS :=
 (dRet (dKey false [0] (dT1 zq9 (za2 (dVar 0) dNil)) feF))
def zc6:List D→Option Ev:=mkG 1 ["kept"] zf6
theorem zm5 (Fn:L2.Fun K "farthest_page" "farthest_page" zc3 ad fd) (bu:Blt mg) {lc lP:Addr} (hcd:fd.code=.ref lc) (hC:zbe8 base lc lP) (hP:(lP,lamOf "farthest_page")∈base.tabs) :FnOk P w K mg base CX0 4 ad fd ["kept"] (spD K zc6):=by
 have SC:=zm4
 refine fun_okC (k:=3) Fn SC (fun _ _ e=>zg4 e) zf6 (fun _ _ e=>zj2 e) (fun A outer s H E F hr=>?_)
 exact zb3 (ze7 (ped_kmin [0] ["page", "kept"] 0 (hr.mono (by decide)) rfl hr.units hr.dep hcd hC hP rfl bu.n_min (zo0 (cd_listD rfl) rfl bu.n_list bt_list (za1 (za0 0) za7)) (fun _ _ _ _ _ _ hr=>(zan5 (za1 (zs9 (ped_dget hr.units (za0 1) (za0 0))) (za1 (za0 0) za7))))))
theorem zn5:FnScope ["room", "asks", "kept", "missed", "at", "page", "coming"] ["room", "asks"] (zb1 ze6):=zq2 rfl rfl rfl rfl (by decide +kernel)
noncomputable def bdA:DS:=(dSeq (dIfS (dBo (d2 (kInD true) (dVar 5) (dVar 2))) (dSeq (dApp 3 (dVar 4))
  (dIfS (dBo (d2 kEq (dT1 zt5 (za2 (dVar 2) dNil)) (dVar 0))) (zac6 2 (dT1 (zc5 zc6) (za2 (dVar 2) dNil))) zg5)) zg5)
  (zu3 2 (dVar 5) (dVar 6)))
def ktA:D→Th→Option Th:=(zaj4 2 (zj4 (za9 4) (zj4 (zaj4 2 (zj4 (za9 5) (zj4 (za9 6) zar3))) zar3)))
noncomputable def zj5:DS :=
 (dSeq (dAsg 2 zy7) (dSeq (dAsg 3 (dT1 kLst dNil)) (dSeq (zr1 ktA (dVar 1) (dT1 (zc5 ze5) (za2 (dVar 1) dNil)) bdA) (zy6 3))))
def zd1:List D→Option Ev:=mkG 2 ["room", "asks", "kept", "missed", "at", "page", "coming"] zj5
theorem zo1 (Fn:L2.Fun K "misses_ahead" "misses_ahead" ze6 ad fd) (bu:Blt mg) (c_next_asks:Cal P w K mg base "next_asks" 1 ze5) (c_farthest_page:Cal P w K mg base "farthest_page" 4 zc6):FnOk P w K mg base CX0 5 ad fd ["room", "asks"] (spD K zd1):=by
 have SC:=zn5
 refine zl0 (k:=4) Fn SC (fun _ _ e=>zg4 e) zj5 (fun _ _ e=>zj2 e) (fun cdv A outer s H E F hr=>?_)
 refine za5 ?_ ?_
 ·exact (zc2 (i:=2) SC.nd rfl (zb7 rfl) zn0)
 refine za5 ?_ ?_
 ·exact (zc2 (i:=3) SC.nd rfl (zb7 rfl) (zf4 za7))
 refine za5 ?_ ?_
 ·exact (zam9 PassesOwn.never rfl rfl bu.n_enumerate rfl bu.n_zip (za0 1) (zc9 c_next_asks (hr.mono (by decide)) (za1 (za0 1) za7)) (zaf1 rfl (zg2 (zd6 (i:=4) SC.nd rfl (zb7 rfl)) (zg2 (zaf1 rfl (zg2 (zd6 (i:=5) SC.nd rfl (zb7 rfl)) (zg2 (zd6 (i:=6) SC.nd rfl (zb7 rfl)) zs8))) zs8))) (zad6 (zf9 (zd5 4) (zf9 (zad6 (zf9 (zd5 5) (zf9 (zd5 6) zr7))) zr7))) (za5 (zg1 (zd3 (zao3 hr.units) (za0 5) (za0 2)) (za5 (zh8 3 (za0 4))
  (zb3 (zg1 (zd3 (od_eq hr.units) (zb9 zat6 rfl bu.n_len PySem.boot_len (za1 (za0 2) za7)) (za0 0)) (zb3 (psd_ddel 2 (zc9 c_farthest_page (hr.mono (by decide)) (za1 (za0 2) za7)))) ze8))) ze8)
  (zb3 (zs7 2 hr.units (za0 5) (za0 6)))))
 exact zb3 (zm8 3)
theorem zv9:FnScope ["room", "asks", "begins", "had", "at", "page"] ["room", "asks"] (zb1 zg9):=zq2 rfl rfl rfl rfl (by decide +kernel)
noncomputable def zak1:DS:=(dSeq (dIfS (dOr (dBo (d2 kEq (dVar 4) (dC (.int 0)))) (dAnd (dBo (d2 (kInD true) (dVar 5) (dVar 3))) (dBo (d2 kEq (dT1 zt5 (za2 (dVar 3) dNil)) (dVar 0))))) (dSeq (dApp 2 (dVar 4))
  (dAsg 3 zy7)) zg5)
  (zu3 3 (dVar 5) (dC (.bl true))))
def zj7:DS :=
 (dSeq (dAsg 2 (dT1 kLst dNil)) (dSeq (dAsg 3 zy7) (dSeq (zy8 ktE (dVar 1) zak1) (zy6 2))))
def zf8:List D→Option Ev:=mkG 2 ["room", "asks", "begins", "had", "at", "page"] zj7
theorem zw9 (Fn:L2.Fun K "stretches" "stretches" zg9 ad fd) (bu:Blt mg) :FnOk P w K mg base CX0 1 ad fd ["room", "asks"] (spD K zf8):=by
 have SC:=zv9
 refine zl0 (k:=0) Fn SC (fun _ _ e=>zg4 e) zj7 (fun _ _ e=>zj2 e) (fun cdv A outer s H E F hr=>?_)
 refine za5 ?_ ?_
 ·exact (zc2 (i:=2) SC.nd rfl (zb7 rfl) (zf4 za7))
 refine za5 ?_ ?_
 ·exact (zc2 (i:=3) SC.nd rfl (zb7 rfl) zn0)
 refine za5 ?_ ?_
 ·exact (zaf0 PassesOwn.never rfl rfl bu.n_enumerate (za0 1) (zaf1 rfl (zg2 (zd6 (i:=4) SC.nd rfl (zb7 rfl)) (zg2 (zd6 (i:=5) SC.nd rfl (zb7 rfl)) zs8))) (zad6 (zf9 (zd5 4) (zf9 (zd5 5) zr7))) (za5 (zg1 (L2.PW.pt (pwd_or (zd3 (od_eq hr.units) (za0 4) zb2) (zam5 (L2.PW.pt (pwd_and (zd3 (zao3 hr.units) (za0 5) (za0 3)) (pwd_and1 (zd3 (od_eq hr.units) (zb9 zat6 rfl bu.n_len PySem.boot_len (za1 (za0 3) za7)) (za0 0)))))))) (za5 (zh8 2 (za0 4))
  (zb3 (zc2 (i:=3) SC.nd rfl (zb7 rfl) zn0))) ze8)
  (zb3 (zs7 3 hr.units (za0 5) zw5))))
 exact zb3 (zm8 2)
theorem zq3:FnScope ["_law_script", "_law_k"] ["_law_script", "_law_k"] (zb1 zf1):=zq2 rfl rfl rfl rfl (by decide +kernel)
noncomputable def zd9:DS :=
 (dSeq (dIfS (dBo (d2 qL (dVar 1) (dT1 kLen (za2 (dVar 0) dNil)))) (dRet (d2 kIx (dVar 0) (dVar 1))) zg5) (dRet (dC (.int 0))))
def za8:List D→Option Ev:=mkG 2 ["_law_script", "_law_k"] zd9
theorem zq4 (Fn:L2.Fun K "_law_cell_at" "_law_cell_at" zf1 ad fd) (bu:Blt mg) :FnOk P w K mg base CX0 1 ad fd ["_law_script", "_law_k"] (spD K za8):=by
 have SC:=zq3
 refine zl0 (k:=0) Fn SC (fun _ _ e=>zg4 e) zd9 (fun _ _ e=>zj2 e) (fun cdv A outer s H E F hr=>?_)
 refine za5 ?_ ?_
 ·exact (zg1 (zd3 od_lt (za0 1) (zb9 zi1 rfl bu.n_len PySem.boot_len (za1 (za0 0) za7))) (zb3 (ze7 (zw4 (za0 0) (za0 1)))) ze8)
 exact zb3 (ze7 zb2)
theorem zai2:FnScope ["_law_script", "_law_at", "_law_many", "_law_most", "_law_rest", "_law_number", "_law_found", "_law_k"] ["_law_script", "_law_at", "_law_many", "_law_most"] (zb1 zk2):=zq2 rfl rfl rfl rfl (by decide +kernel)
def rowA:DS:=(dSeq (dApp 6 (d2 qR (dVar 4) (dVar 3)))
  (dAsg 4 (d2 qV (dVar 4) (dVar 3))))
noncomputable def rowN1:DE:=(d2 qR (d2 (kI cMulB fun i j=>.int (i*j)) (d2 qA (d2 qA (dVar 5) (d2 (kI cMulB fun i j=>.int (i*j)) (dVar 7) (dVar 7))) (dC (.int 1))) (dC (.int 314159265358979323846264338327))) (d2 qA (d2 qP (dC (.int 10)) (dC (.int 30))) (dC (.int 57))))
noncomputable def rowN2:DE:=(d2 qR (d2 (kI cMulB fun i j=>.int (i*j)) (d2 qA (dVar 5) (dVar 7)) (dC (.int 271828182845904523536028747135))) (d2 qA (d2 qP (dC (.int 10)) (dC (.int 30))) (dC (.int 57))))
def rowX:DE:=(d2 qR (d2 qV (dVar 5) (d2 qP (dC (.int 10)) (dC (.int 9)))) (dVar 3))
def rowB:DS:=(dSeq (dAsg 5 rowN1) (dSeq (dAsg 5 rowN2) (dApp 6 rowX)))
def zl7:DS:=(dIfS (dBo (d2 qG (dVar 4) (dC (.int 0)))) rowA rowB)
noncomputable def zk9:DS :=
 (dSeq (dAsg 4 (dT1 kAbs (za2 (dT1 (zc5 za8) (za2 (dVar 0) (za2 (dVar 1) dNil))) dNil))) (dSeq (dAsg 5 (dVar 4)) (dSeq (dIfS (dBo (d2 kEq (d2 qR (dT1 (zc5 za8) (za2 (dVar 0) (za2 (dC (.int 0)) dNil))) (dC (.int 2))) (dC (.int 1)))) (dAsg 4 (dC (.int 0))) zg5) (dSeq (dAsg 6 (dT1 kLst dNil)) (dSeq (zu2 (za9 7) (dT1 qN (za2 (dVar 2) (za2 (dC (.int 60)) dNil))) zl7) (dRet (dSlU (dVar 2) (zaj7 6 (d2 qA (dC (.int 1)) (d2 qV (dVar 2) (dC (.int 60))))))))))))
noncomputable def zg7:List D→Option Ev:=mkG 4 ["_law_script", "_law_at", "_law_many", "_law_most", "_law_rest", "_law_number", "_law_found", "_law_k"] zk9
theorem zai6 (Fn:L2.Fun K "_law_row" "_law_row" zk2 ad fd) (bu:Blt mg) (c_law_cell_at:Cal P w K mg base "_law_cell_at" 1 za8):FnOk P w K mg base CX0 2 ad fd ["_law_script", "_law_at", "_law_many", "_law_most"] (spD K zg7):=by
 have SC:=zai2
 refine zl0 (k:=1) Fn SC (fun _ _ e=>zg4 e) zk9 (fun _ _ e=>zj2 e) (fun cdv A outer s H E F hr=>?_)
 refine za5 ?_ ?_
 ·exact (zc2 (i:=4) SC.nd rfl (zb7 rfl) (zb9 cd_abs rfl bu.n_abs bt_abs (za1 (zc9 c_law_cell_at (hr.mono (by decide)) (za1 (za0 0) (za1 (za0 1) za7))) za7)))
 refine za5 ?_ ?_
 ·exact (zc2 (i:=5) SC.nd rfl (zb7 rfl) (za0 4))
 refine za5 ?_ ?_
 ·exact (zg1 (zd3 (od_eq hr.units) (zc4 zm0 (zc9 c_law_cell_at (hr.mono (by decide)) (za1 (za0 0) (za1 zb2 za7))) zb2) zb2) (zb3 (zc2 (i:=4) SC.nd rfl (zb7 rfl) zb2)) ze8)
 refine za5 ?_ ?_
 ·exact (zc2 (i:=6) SC.nd rfl (zb7 rfl) (zf4 za7))
 refine za5 ?_ ?_
 ·exact (zae7 PassesOwn.never rfl rfl bu.n_range (zb9 (zat5 rfl) rfl bu.n_min (by decide +kernel) (za1 (za0 2) (za1 zb2 za7))) (zd6 (i:=7) SC.nd rfl (zb7 rfl)) (zd5 7) (zb3 (zg1 (zd3 od_gt (za0 4) zb2) (za5 (zh8 6 (zc4 zm0 (za0 4) (za0 3)))
  (zb3 (zc2 (i:=4) SC.nd rfl (zb7 rfl) (zc4 zao4 (za0 4) (za0 3))))) (za5 (zc2 (i:=5) SC.nd rfl (zb7 rfl) (zc4 zm0 (zc4 zab2 (zc4 (od_add.or zh5) (zc4 (od_add.or zh5) (za0 5) (zc4 zab2 (za0 7) (za0 7))) zb2) zb2) (zc4 (od_add.or zh5) (zc4 zao2 zb2 zb2) zb2)))
  (za5 (zc2 (i:=5) SC.nd rfl (zb7 rfl) (zc4 zm0 (zc4 zab2 (zc4 (od_add.or zh5) (za0 5) (za0 7)) zb2) (zc4 (od_add.or zh5) (zc4 zao2 zb2 zb2) zb2)))
  (zb3 (zh8 6 (zc4 zm0 (zc4 zao4 (za0 5) (zc4 zao2 zb2 zb2)) (za0 3)))))))))
 exact zb3 (ze7 (zai4 (ped_repO 6 (zc4 (od_add.or zh5) zb2 (zc4 zao4 (za0 2) zb2))) (za0 2)))
theorem zs0:FnScope ["_law_room", "_law_kept", "_law_page", "_law_found", "_law_gone"] ["_law_room", "_law_kept", "_law_page"] (zb1 zg0):=zq2 rfl rfl rfl rfl (by decide +kernel)
noncomputable def bdBh:DS:=(dApp 3 (dT1 zaj0 (za2 (dT1 zx6 (za2 (d2 qA (zl8 1 [4] (fsT (dVar 1)) (za9 0) (dBo (d2 kNe (dVar 0) (dVar 1))) (dVar 0)) (dT1 kLst (za2 (dVar 2) dNil))) dNil)) dNil)))
noncomputable def zm2:DS :=
 (dSeq (dIfS (dBo (d2 kIn (dVar 2) (dVar 1))) (dRet (dT1 kLst dNil)) zg5) (dSeq (dIfS (dBo (d2 qL (dT1 kLen (za2 (dVar 1) dNil)) (dVar 0))) (dRet (dT1 kLst (za2 (dT1 zaj0 (za2 (dT1 zag1 (za2 (d2 zaj2 (dVar 1) (dT1 kTup (za2 (dVar 2) dNil))) dNil)) dNil)) dNil))) zg5) (dSeq (dAsg 3 (dT1 kLst dNil)) (dSeq (zas7 (za9 4) (dVar 1) bdBh) (zy6 3)))))
def zd8:List D→Option Ev:=mkG 3 ["_law_room", "_law_kept", "_law_page", "_law_found", "_law_gone"] zm2
theorem zt1 (Fn:L2.Fun K "_law_behind" "_law_behind" zg0 ad fd) (bu:Blt mg) :FnOk P w K mg base CX0 1 ad fd ["_law_room", "_law_kept", "_law_page"] (spD K zd8):=by
 have SC:=zs0
 refine zl0 (k:=0) Fn SC (fun _ _ e=>zg4 e) zm2 (fun _ _ e=>zj2 e) (fun cdv A outer s H E F hr=>?_)
 refine za5 ?_ ?_
 ·exact (zg1 (zd3 od_in (za0 2) (za0 1)) (zb3 (ze7 (zf4 za7))) ze8)
 refine za5 ?_ ?_
 ·exact (zg1 (zd3 od_lt (zb9 zi1 rfl bu.n_len PySem.boot_len (za1 (za0 1) za7)) (za0 0)) (zb3 (ze7 (zf4 (za1 (zo0 zat4 rfl bu.n_tuple zah3 (za1 (zb9 cd_sortT rfl bu.n_sorted boot_sorted (za1 (zc4 od_catT (za0 1) (zan5 (za1 (za0 2) za7))) za7)) za7)) za7)))) ze8)
 refine za5 ?_ ?_
 ·exact (zc2 (i:=3) SC.nd rfl (zb7 rfl) (zf4 za7))
 refine za5 ?_ ?_
 ·exact (psd_forT PassesOwn.never rfl (za0 1) (zd6 (i:=4) SC.nd rfl (zb7 rfl)) (zd5 4) (zb3 (zh8 3 (zo0 zat4 rfl bu.n_tuple zah3 (za1 (zb9 cd_sortI rfl bu.n_sorted boot_sorted (za1 (zc4 (od_add.or zh5) (zn9 1 [4] ["_law_one", "_law_gone"] rfl (pid_tup (za0 1)) (fun _ _ _ _ _=>(zd6 (i:=0) (show List.Nodup (["_law_one", "_law_gone"]:List Str) by decide +kernel) rfl (zb7 rfl))) (fun _=>(zd5 0)) (fun _ _ _ _ _ _=>(zae6 (zd3 (od_ne hr.units) (za0 0) (za0 1)))) (fun _ _ _ _ _ _=>(za0 0))) (zf4 (za1 (za0 2) za7))) za7)) za7)))))
 exact zb3 (zm8 3)
theorem zaa7:FnScope ["_law_room", "_law_asks", "_law_ways", "_law_page", "_law_more", "_law_kept", "_law_other", "_law_cost"] ["_law_room", "_law_asks"] (zb1 zi4):=zq2 rfl rfl rfl rfl (by decide +kernel)
noncomputable def bd2:DS:=(dSeq (dAsg 7 (d2 qA (d2 zj0 (dVar 2) (dVar 5)) (dC (.int 1))))
  (zac5 4 (dVar 6) (dT1 qN (za2 (dTG2 (dVar 4) (dVar 6) (dVar 7)) (za2 (dVar 7) dNil)))))
noncomputable def bd1:DS:=(dSeq (dIfS (dBo (d2 kIn (dVar 3) (dVar 5))) (zac5 4 (dVar 5) (dT1 qN (za2 (dTG2 (dVar 4) (dVar 5) (d2 zj0 (dVar 2) (dVar 5))) (za2 (d2 zj0 (dVar 2) (dVar 5)) dNil)))) zg5)
  (dFor (za9 6) (dT1 (zc5 zd8) (za2 (dVar 0) (za2 (dVar 5) (za2 (dVar 3) dNil)))) bd2))
def bd0:DS:=(dSeq (dAsg 4 dNewP) (dSeq (dForD (za9 5) (dVar 2) bd1) (zaj8 4 (dAsg 2 (dVar 4)))))
noncomputable def zr0:DS :=
 (dSeq (dAsg 2 (zah0 (dC (.int 0)))) (dSeq (zaj8 2 (dFor (za9 3) (dVar 1) bd0)) (dRet (dT1 (zaj1 zf0) (za2 (zl8 1 [2] (fsD (dVar 2)) (za9 0) zy4 (d2 zj0 (dVar 1) (dVar 0))) dNil)))))
noncomputable def zg8:List D→Option Ev:=mkG 2 ["_law_room", "_law_asks", "_law_ways", "_law_page", "_law_more", "_law_kept", "_law_other", "_law_cost"] zr0
theorem zab1 (Fn:L2.Fun K "_law_best" "_law_best" zi4 ad fd) (bu:Blt mg) (c_law_behind:Cal P w K mg base "_law_behind" 1 zd8):FnOk P w K mg base CX0 2 ad fd ["_law_room", "_law_asks"] (spD K zg8):=by
 have SC:=zaa7
 refine zl0 (k:=1) Fn SC (fun _ _ e=>zg4 e) zr0 (fun _ _ e=>zj2 e) (fun cdv A outer s H E F hr=>?_)
 refine za5 ?_ ?_
 ·exact (zc2 (i:=2) SC.nd rfl (zb7 rfl) (zan6 hr.units zb2))
 refine za5 ?_ ?_
 ·exact (zae9 2 (zam8 PassesOwn.never rfl (za0 1) (zd6 (i:=3) SC.nd rfl (zb7 rfl)) (zd5 3) (za5 (zc2 (i:=4) SC.nd rfl (zb7 rfl) ped_newP)
  (za5 (psd_forD PassesOwn.never rfl (za0 2) (zd6 (i:=5) SC.nd rfl (zb7 rfl)) (zd5 5) (za5 (zg1 (zd3 od_in (za0 3) (za0 5)) (zb3 (zae8 4 hr.units (za0 5) (zb9 (zat5 rfl) rfl bu.n_min (by decide +kernel) (za1 (zw3 hr.units (za0 4) (za0 5) (zm9 hr.units (za0 2) (za0 5))) (za1 (zm9 hr.units (za0 2) (za0 5)) za7))))) ze8)
  (zb3 (zam8 PassesOwn.never rfl (zc9 c_law_behind (hr.mono (by decide)) (za1 (za0 0) (za1 (za0 5) (za1 (za0 3) za7)))) (zd6 (i:=6) SC.nd rfl (zb7 rfl)) (zd5 6) (za5 (zc2 (i:=7) SC.nd rfl (zb7 rfl) (zc4 (od_add.or zh5) (zm9 hr.units (za0 2) (za0 5)) zb2))
  (zb3 (zae8 4 hr.units (za0 6) (zb9 (zat5 rfl) rfl bu.n_min (by decide +kernel) (za1 (zw3 hr.units (za0 4) (za0 6) (za0 7)) (za1 (za0 7) za7))))))))))
  (zb3 (zae9 4 (zc2 (i:=2) SC.nd rfl (zb7 rfl) (za0 4))))))))
 exact zb3 (ze7 (zb9 (cd_minL rfl) rfl bu.n_min (by decide +kernel) (za1 (zn9 1 [2] ["_law_kept", "_law_ways"] rfl (pid_dic (za0 2)) (fun _ _ _ _ _=>(zd6 (i:=0) (show List.Nodup (["_law_kept", "_law_ways"]:List Str) by decide +kernel) rfl (zb7 rfl))) (fun _=>(zd5 0)) (fun _ _ _ _ _ _=>ptsd_nil) (fun _ _ _ _ _ _=>(zm9 hr.units (za0 1) (za0 0)))) za7)))
theorem sc_law:FnScope ["_law_script", "_law_room", "_law_many", "_law_asks", "_law_best_here", "_law_begins", "_law_missed", "_law_k", "_law_end"] ["_law_script"] (zb1 s_law):=zq2 rfl rfl rfl rfl (by decide +kernel)
noncomputable def bdS3:DS:=(dSeq (dAsg 8 (d2 kIx (d2 qA (dVar 5) (dT1 kLst (za2 (dT1 kLen (za2 (dVar 3) dNil)) dNil))) (d2 qA (dVar 7) (dC (.int 1)))))
  (dIfS (dBo (d2 qG (dT1 kLen (za2 (zl8 1 [8,5,7] (fsL (dVar 6)) (za9 0) (dCh qE qL (d2 kIx (dVar 2) (dVar 3)) (dVar 0) (dVar 1)) (dVar 0)) dNil)) (dVar 1))) (dRet (dC (.bl false))) zg5))
noncomputable def g_law:DS :=
 (dSeq (dAsg 1 (d2 qA (dC (.int 1)) (d2 qR (dT1 (zc5 za8) (za2 (dVar 0) (za2 (dC (.int 1)) dNil))) (dC (.int 3))))) (dSeq (dAsg 2 (d2 qR (dT1 (zc5 za8) (za2 (dVar 0) (za2 (dC (.int 3)) dNil))) (dC (.int 10)))) (dSeq (dAsg 3 (dT1 (zc5 zg7) (za2 (dVar 0) (za2 (dC (.int 4)) (za2 (dVar 2) (za2 (d2 qA (dC (.int 2)) (d2 qR (dT1 (zc5 za8) (za2 (dVar 0) (za2 (dC (.int 2)) dNil))) (dC (.int 4)))) dNil)))))) (dSeq (dAsg 4 (dT1 (zc5 zg8) (za2 (dVar 1) (za2 (dVar 3) dNil)))) (dSeq (dAsg 5 (dT1 (zc5 zf8) (za2 (dVar 1) (za2 (dVar 3) dNil)))) (dSeq (dAsg 6 (dT1 (zc5 zl4) (za2 (dVar 1) (za2 (dVar 3) dNil)))) (dSeq (dIfS (dBo (d2 kNe (dT1 kLen (za2 (dT1 (zc5 zd1) (za2 (dVar 1) (za2 (dVar 3) dNil))) dNil)) (dVar 4))) (dRet (dC (.bl false))) zg5) (dSeq (dIfS (dOr (dBo (d2 qG (dT1 kLen (za2 (dVar 5) dNil)) (dVar 4))) (dBo (d2 qL (dT1 kLen (za2 (dVar 6) dNil)) (dVar 4)))) (dRet (dC (.bl false))) zg5) (dSeq (zu2 (za9 7) (dT1 kLen (za2 (dVar 5) dNil)) bdS3) (dRet (dC (.bl true))))))))))))
noncomputable def G_law:List D→Option Ev:=mkG 1 ["_law_script", "_law_room", "_law_many", "_law_asks", "_law_best_here", "_law_begins", "_law_missed", "_law_k", "_law_end"] g_law
theorem ok_law (Fn:L2.Fun K "law" "law" s_law ad fd) (bu:Blt mg) (c_law_cell_at:Cal P w K mg base "_law_cell_at" 1 za8) (c_law_row:Cal P w K mg base "_law_row" 2 zg7) (c_law_best:Cal P w K mg base "_law_best" 2 zg8) (c_stretches:Cal P w K mg base "stretches" 1 zf8) (c_misses:Cal P w K mg base "misses" 1 zl4) (c_misses_ahead:Cal P w K mg base "misses_ahead" 5 zd1):FnOk P w K mg base CX0 6 ad fd ["_law_script"] (spD K G_law):=by
 have SC:=sc_law
 refine zl0 (k:=5) Fn SC (fun _ _ e=>zg4 e) g_law (fun _ _ e=>zj2 e) (fun cdv A outer s H E F hr=>?_)
 refine za5 ?_ ?_
 ·exact (zc2 (i:=1) SC.nd rfl (zb7 rfl) (zc4 (od_add.or zh5) zb2 (zc4 zm0 (zc9 c_law_cell_at (hr.mono (by decide)) (za1 (za0 0) (za1 zb2 za7))) zb2)))
 refine za5 ?_ ?_
 ·exact (zc2 (i:=2) SC.nd rfl (zb7 rfl) (zc4 zm0 (zc9 c_law_cell_at (hr.mono (by decide)) (za1 (za0 0) (za1 zb2 za7))) zb2))
 refine za5 ?_ ?_
 ·exact (zc2 (i:=3) SC.nd rfl (zb7 rfl) (zc9 c_law_row (hr.mono (by decide)) (by refine za1 ?_ ?_ ?_;exact (za0 0);exact (by refine za1 ?_ ?_ ?_;exact zb2;exact (by refine za1 ?_ ?_ ?_;exact (za0 2);exact (by refine za1 ?_ ?_ ?_;exact (zc4 (od_add.or zh5) zb2 (zc4 zm0 (zc9 c_law_cell_at (hr.mono (by decide)) (za1 (za0 0) (za1 zb2 za7))) zb2));exact za7;exact (zr8 rfl));exact (zr8 rfl));exact (zr8 rfl));exact (zr8 rfl))))
 refine za5 ?_ ?_
 ·exact (zc2 (i:=4) SC.nd rfl (zb7 rfl) (zc9 c_law_best (hr.mono (by decide)) (za1 (za0 1) (za1 (za0 3) za7))))
 refine za5 ?_ ?_
 ·exact (zc2 (i:=5) SC.nd rfl (zb7 rfl) (zc9 c_stretches (hr.mono (by decide)) (za1 (za0 1) (za1 (za0 3) za7))))
 refine za5 ?_ ?_
 ·exact (zc2 (i:=6) SC.nd rfl (zb7 rfl) (zc9 c_misses (hr.mono (by decide)) (za1 (za0 1) (za1 (za0 3) za7))))
 refine za5 ?_ ?_
 ·exact (zg1 (zd3 (od_ne hr.units) (zb9 zi1 rfl bu.n_len PySem.boot_len (za1 (zc9 c_misses_ahead (hr.mono (by decide)) (za1 (za0 1) (za1 (za0 3) za7))) za7)) (za0 4)) (zb3 (ze7 zw5)) ze8)
 refine za5 ?_ ?_
 ·exact (zg1 (L2.PW.pt (pwd_or (zd3 od_gt (zb9 zi1 rfl bu.n_len PySem.boot_len (za1 (za0 5) za7)) (za0 4)) (zam5 (zd3 od_lt (zb9 zi1 rfl bu.n_len PySem.boot_len (za1 (za0 6) za7)) (za0 4))))) (zb3 (ze7 zw5)) ze8)
 refine za5 ?_ ?_
 ·exact (zae7 PassesOwn.never rfl rfl bu.n_range (zb9 zi1 rfl bu.n_len PySem.boot_len (za1 (za0 5) za7)) (zd6 (i:=7) SC.nd rfl (zb7 rfl)) (zd5 7) (za5 (zc2 (i:=8) SC.nd rfl (zb7 rfl) (zw4 (zc4 (od_add.or zh5) (za0 5) (zf4 (za1 (zb9 zi1 rfl bu.n_len PySem.boot_len (za1 (za0 3) za7)) za7))) (zc4 (od_add.or zh5) (za0 7) zb2)))
  (zb3 (zg1 (zd3 od_gt (zb9 zi1 rfl bu.n_len PySem.boot_len (za1 (zn9 1 [8,5,7] ["_law_at", "_law_end", "_law_begins", "_law_k"] rfl (pid_list (za0 6)) (fun _ _ _ _ _=>(zd6 (i:=0) (show List.Nodup (["_law_at", "_law_end", "_law_begins", "_law_k"]:List Str) by decide +kernel) rfl (zb7 rfl))) (fun _=>(zd5 0)) (fun _ _ _ _ _ _=>(zae6 (zam7 od_le od_lt (zw4 (za0 2) (za0 3)) (za0 0) (za0 1)))) (fun _ _ _ _ _ _=>(za0 0))) za7)) (za0 1)) (zb3 (ze7 zw5)) ze8))))
 exact zb3 (ze7 zw5)
end KX
set_option maxHeartbeats 1000000
namespace KX
open PySem.Spec L2 DL
abbrev tD (k:List Int):D:=.tup (k.map D.int)
theorem zq7 (k:List Int):tupI (tD k)=some k:=zf5 k
theorem inT_of {fa fb:DE}{t:Th}{x:Int}{k:List Int}{r:Ev} (h1:fa t=some (.cl (.int x))) (h2:fb t=some r) (e:r.d=tD k):dBo (d2 kIn fa fb) t=some (decide (x∈k)):=by
 unfold dBo
 rw [zj1 h1 h2]
 unfold kIn
 rw [e]
 show ((if (scD (.int x)&&(k.map D.int).all fun d=>scD d&&eqOk 0 d (.int x))=true then some (Ev.cl (.bl ((k.map D.int).any fun d=>eqD d (.int x)))) else none).bind fun r=>match r.d with | .bl b=>some b | _=>none)=_
 have c:(scD (.int x)&&(k.map D.int).all fun d=>scD d&&eqOk 0 d (.int x))=true:=by
  rw [zaw5]
  refine⟨rfl,zbc8.mpr fun d hd=>?_⟩
  obtain⟨y,_,rfl⟩:=zbe3.mp hd
  rfl
 rw [if_pos c]
 show some ((k.map D.int).any fun d=>eqD d (.int x))=_
 congr 1
 rw [zbb1,zbl9,decide_eq_true_eq]
 constructor
 ·rintro ⟨d,hd,e⟩
  obtain⟨y,hy,rfl⟩:=zbe3.mp hd
  have:y=x:=by simpa [eqD] using e
  exact this ▸ hy
 ·intro h
  exact⟨.int x,zbe3.mpr ⟨x,h,rfl⟩,by simp [eqD]⟩
theorem lenT_of {f:DE}{t:Th}{r:Ev}{k:List Int} (h:f t=some r) (e:r.d=tD k):(dT1 kLen (za2 f dNil)) t=some (.cl (.int (k.length:Int))):=by
 rw [zl6 h]
 unfold kLen
 simp [e]
theorem zak6 {f:DE}{t:Th}{r:Ev}{k:List Int} (h:f t=some r) (e:r.d=.lst (k.map D.int)):(dT1 zaj0 (za2 f dNil)) t=some (.cl (tD k)):=by
 rw [zl6 h]
 unfold zaj0
 simp [e,zf5]
theorem zas8 {cap:List Nat}{f:DE}{ft:DT}{t:Th}{r:Ev}{xs:List Int}{p:Int→Bool}{c:List D} (hf:f t=some r) (hr:r.d=tD xs) (ho:r.ok=true) (hn:xs.length≤50000) (hc:capD t cap=some (true,c)) (he:∀x∈xs,ft (.val (.int x)::c.map Sl.val)=some (p x)) :
  (zl8 1 cap (fsT f) (za9 0) ft (dVar 0)) t=some (.nw ((xs.filter p).map D.int)):=by
 have key:∀(xs:List Int) (s:Sl),(∀x∈xs,ft (.val (.int x)::c.map Sl.val)=some (p x))→zd7 (za9 0) ft (dVar 0) (xs.map D.int) (s::c.map Sl.val)=some ((xs.filter p).map D.int):=by
  intro xs
  induction xs with
  |nil=>intro s _;rfl
  |cons x xs ih =>
   intro s h
   have h1:=h x (zaw0 ..)
   have h2:=ih (.val (.int x)) fun y hy=>h y (zav8 _ hy)
   show (zd7 (za9 0) ft (dVar 0) (.int x::xs.map D.int) (s::c.map Sl.val))=_
   unfold zd7
   show ((ft (.val (.int x)::c.map Sl.val)).bind fun b=>if b then (dVar 0 (.val (.int x)::c.map Sl.val)).bind fun r=>(zd7 (za9 0) ft (dVar 0) (xs.map D.int) (.val (.int x)::c.map Sl.val)).map fun xs=>r.d::xs else zd7 (za9 0) ft (dVar 0) (xs.map D.int) (.val (.int x)::c.map Sl.val))=_
   rw [h1,h2,zav9,zbi6]
   cases p x<;>rfl
 unfold zl8
 have e1:fsT f t=some (true,xs.map D.int):=by
  unfold fsT
  rw [hf,zav9,hr]
  show some (r.ok,xs.map D.int)=_
  rw [ho]
 rw [e1,zav9,hc,zav9,zay5,if_pos hn]
 show (zd7 (za9 0) ft (dVar 0) (xs.map D.int) (Sl.no::c.map Sl.val)).bind _=_
 rw [key xs .no he]
 rfl
theorem zat7 {fa fb:DE}{t:Th}{r1 r2:Ev}{xs ys:List Int} (h1:fa t=some r1) (h2:fb t=some r2) (e1:r1.d=.lst (xs.map D.int)) (e2:r2.d=.lst (ys.map D.int)) (hl:xs.length+ys.length≤100000):(d2 qA fa fb) t=some (.nw ((xs++ys).map D.int)):=by
 rw [zj1 h1 h2]
 (try unfold qA);unfold kOr kI
 rw [e1,e2]
 show kCat r1 r2=_
 unfold kCat
 rw [e1,e2]
 show (if _ then _ else _)=_
 rw [if_pos]
 ·rw [zbc5]
 ·simp [flats_ints]
  lia
theorem zap5 (s0:Sl) {K:List Int}{x:Int} (hK:K.length<60):∀(gs:List Int) (Fs:List (List Int)) (s4:Sl),Fs.length+gs.length<1000→∃u4,forD (za9 4) bdBh (gs.map D.int) [s0,.val (tD K),.val (.int x),.own (Fs.map tD),s4]=some (.nx [s0,.val (tD K),.val (.int x),.own ((Fs++gs.map fun g=>sortI' ((K.filter fun q=>decide (q≠g))++[x])).map tD),u4])
 |[],Fs,s4,_=>⟨s4,by simp [forD]⟩
 |g::gs,Fs,s4,h=>by
  rw [zax6]at h
  let t:Th:=[s0,.val (tD K),.val (.int x),.own (Fs.map tD),.val (.int g)]
  have c:=zas8 (cap:=[4]) (f:=dVar 1) (t:=t) (r:=.cl (tD K)) (xs:=K) (p:=fun q=>decide (q≠g)) (c:=[.int g]) (ft:=dBo (d2 kNe (dVar 0) (dVar 1))) rfl rfl rfl (by lia) rfl (fun q _=>(neI_of (fa:=dVar 0) (fb:=dVar 1) (t:=[.val (.int q),.val (.int g)]) (a:=q) (b:=g) rfl rfl).trans (by simp))
  have c2:=zat7 (ys:=[x]) c (rfl:dT1 kLst (za2 (dVar 2) dNil) t=some (.nw [.int x])) rfl rfl (by have:=zbc0 (fun q=>decide (q≠g)) K;simp only [zay6];lia)
  have c3:=zak6 (sorti_of c2 rfl (by have:=zbc0 (fun q=>decide (q≠g)) K;simp only [zax7,zay6];lia)) rfl
  have e:=zah4 t (i:=3) (xs:=Fs.map tD) c3 rfl (by rw [zay5];lia)
  obtain⟨u4,ih⟩:=zap5 s0 (x:=x) hK gs (Fs++[sortI' ((K.filter fun q=>decide (q≠g))++[x])]) (.val (.int g)) (by simp only [zax7,zay6];lia)
  refine⟨u4,?_⟩
  show forD (za9 4) bdBh (.int g::gs.map D.int) [s0,.val (tD K),.val (.int x),.own (Fs.map tD),s4]=_
  unfold forD
  show (bdBh t).bind _=_
  unfold bdBh
  rw [e,zav9]
  show forD (za9 4) bdBh (gs.map D.int) [s0,.val (tD K),.val (.int x),.own (Fs.map tD++[tD (sortI' ((K.filter fun q=>decide (q≠g))++[x]))]),.val (.int g)]=_
  rw [show Fs.map tD++[tD (sortI' ((K.filter fun q=>decide (q≠g))++[x]))]=(Fs++[sortI' ((K.filter fun q=>decide (q≠g))++[x])]).map tD by rw [zbc5];rfl,ih,zbb8]
  rfl
theorem zau7 {room:Nat}{K:List Int}{x:Int} (hK:K.length<60):zd8 [.int (room:Int),tD K,.int x]=some (.nw ((behK room K x).map tD)):=by
 let t:Th:=[.val (.int (room:Int)),.val (tD K),.val (.int x),.no,.no]
 have c1:=inT_of (fa:=dVar 2) (fb:=dVar 1) (t:=t) (x:=x) (k:=K) (r:=.cl (tD K)) rfl rfl rfl
 show (dSeq _ (dSeq _ (dSeq _ (dSeq (zas7 (za9 4) (dVar 1) bdBh) _))) t).bind zh9=_
 refine bnd ?_
 unfold behK
 by_cases hx:x∈K
 ·rw [if_pos hx]
  exact seq_rt ((zaj3 c1 (decide_eq_true hx)).trans rfl)
 ·rw [if_neg hx]
  refine (zb5 (grd c1 (decide_eq_false hx))).trans ?_
  have c2:=lt_of (lenT_of (f:=dVar 1) (t:=t) (r:=.cl (tD K)) (k:=K) rfl rfl) (rfl:dVar 0 t=some (.cl (.int (room:Int))))
  by_cases hr:K.length<room
  ·rw [if_pos hr]
   refine seq_rt ((zaj3 c2 (decide_eq_true (by lia))).trans (zae2 ?_))
   have e1:d2 zaj2 (dVar 1) (dT1 kTup (za2 (dVar 2) dNil)) t=some (.cl (tD (K++[x]))):=by
    rw [zj1 (rfl:dVar 1 t=some (.cl (tD K))) (rfl:dT1 kTup (za2 (dVar 2) dNil) t=some (.cl (.tup [.int x])))]
    unfold zaj2
    show (match tupI (tD K),tupI (tD [x]) with | some _,some _=>_ | _,_=>none)=_
    rw [zq7,zq7]
    show (if K.length + [x].length≤1000 then _ else _)=_
    rw [if_pos (by simp only [zay6];lia)]
   have e2:dT1 zag1 (za2 (d2 zaj2 (dVar 1) (dT1 kTup (za2 (dVar 2) dNil))) dNil) t=some (.nw ((sortI' (K++[x])).map D.int)):=by
    rw [zl6 e1]
    show (tupI (tD (K++[x]))).bind _=_
    rw [zq7,zav9,if_pos (by simp only [zax7,zay6];lia)]
   have e3:=zak6 e2 rfl
   rw [zl6 e3]
   rfl
  ·rw [if_neg hr]
   refine (zb5 (grd c2 (decide_eq_false (by lia)))).trans ?_
   have E3:dAsg 3 (dT1 kLst dNil) t=some (.nx [.val (.int (room:Int)),.val (tD K),.val (.int x),.own [],.no]):=rfl
   refine (zb5 E3).trans ?_
   obtain⟨u4,e4⟩:=zap5 (.val (.int (room:Int))) (x:=x) hK K [] .no (by simp only [zbc4];lia)
   have E4:zas7 (za9 4) (dVar 1) bdBh [.val (.int (room:Int)),.val (tD K),.val (.int x),.own [],.no]=some (.nx [.val (.int (room:Int)),.val (tD K),.val (.int x),.own ((K.map fun g=>sortI' ((K.filter fun q=>decide (q≠g))++[x])).map tD),u4]):=by
    rw [zbd5]at e4
    exact e4
   exact (zb5 E4).trans rfl
theorem zaa4 {fa fb:DE}{t:Th}{r1 r2:Ev}{W:Wys}{k:List Int}{c:Int} (h1:fa t=some r1) (e1:psD r1.d=some W) (h2:fb t=some r2) (e2:r2.d=tD k) (hc:zc1 W k=some c):(d2 zj0 fa fb) t=some (.cl (.int c)):=by
 rw [zj1 h1 h2]
 unfold zj0
 rw [e1,e2,zq7]
 show (zc1 W k).map _=_
 rw [hc];rfl
theorem tg2_of {fa fb fc:DE}{t:Th}{r1 r2:Ev}{W:Wys}{k:List Int}{c:Int} (h1:fa t=some r1) (e1:psD r1.d=some W) (h2:fb t=some r2) (e2:r2.d=tD k) (h3:fc t=some (.cl (.int c))):dTG2 fa fb fc t=some (.cl (.int ((zc1 W k).getD c))):=by
 unfold dTG2
 rw [h1,zav9,h2,zav9,h3,zav9,e1,e2,zq7]
 rfl
theorem putT_of {fk fv:DE}{t:Th}{i:Nat}{r:Ev}{M:Wys}{k:List Int}{c:Int} (hv:fv t=some (.cl (.int c))) (hk:fk t=some r) (e:r.d=tD k) (hi:t[i]?=some (.dp (.pdc M))) (hl:M.length<100000):zac5 i fk fv t=some (.nx (t.set i (.dp (.pdc (putT M k c))))):=by
 unfold zac5
 rw [hv,zav9,hk,zav9,hi,e,zq7]
 show (if M.length<100000 then _ else _)=_
 rw [if_pos hl]
theorem min2_of {fa fb:DE}{t:Th}{a b:Int} (h1:fa t=some (.cl (.int a))) (h2:fb t=some (.cl (.int b))):(dT1 qN (za2 fa (za2 fb dNil))) t=some (.cl (.int (if b<a then b else a))):=by
 rw [zaa5 h1 h2];rfl
theorem zam6 {fk fc:DE}{t:Th}{r:Ev}{M:Wys}{k:List Int}{c:Int} (hk:fk t=some r) (e:r.d=tD k) (h4:t[4]?=some (.dp (.pdc M))) (hc:fc t=some (.cl (.int c))) (hl:M.length<100000) :
  zac5 4 fk (dT1 qN (za2 (dTG2 (dVar 4) fk fc) (za2 fc dNil))) t=some (.nx (t.set 4 (.dp (.pdc (putM M k c))))):=by
 have h:dVar 4 t=some (.tm (.pdc M)):=by unfold dVar;rw [h4]
 exact putT_of (min2_of (tg2_of h rfl hk e hc) hc) hk e h4 hl
theorem loop_2 (s0 s1 s3:Sl) {W:Wys}{k:List Int}{c:Int} (hc:zc1 W k=some c):∀(os:List (List Int)) (M:Wys) (s6 s7:Sl),M.length+os.length<90000→∃u6 u7,forD (za9 6) bd2 (os.map tD) [s0,s1,.val (.fdc W),s3,.dp (.pdc M),.val (tD k),s6,s7]=some (.nx [s0,s1,.val (.fdc W),s3,.dp (.pdc (os.foldl (fun M o=>putM M o (c+1)) M)),.val (tD k),u6,u7])
 |[],M,s6,s7,_=>⟨s6,s7,rfl⟩
 |o::os,M,s6,s7,h=>by
  rw [zax6]at h
  let t:Th:=[s0,s1,.val (.fdc W),s3,.dp (.pdc M),.val (tD k),.val (tD o),s7]
  have E1:=zaa0 (i:=7) (zah5 (zaa4 (fa:=dVar 2) (fb:=dVar 5) (t:=t) (r1:=.cl (.fdc W)) (r2:=.cl (tD k)) rfl rfl rfl rfl hc) (rfl:dC (.int 1) t=some (.cl (.int 1)))) (by simp [t])
  let t1:Th:=[s0,s1,.val (.fdc W),s3,.dp (.pdc M),.val (tD k),.val (tD o),.val (.int (c+1))]
  have E2:=zam6 (fk:=dVar 6) (fc:=dVar 7) (t:=t1) (r:=.cl (tD o)) (M:=M) (k:=o) (c:=c+1) rfl rfl rfl rfl (by lia)
  have pl:=zm7 M o (c+1)
  obtain⟨u6,u7,ih⟩:=loop_2 s0 s1 s3 hc os (putM M o (c+1)) (.val (tD o)) (.val (.int (c+1))) (by lia)
  refine⟨u6,u7,?_⟩
  have E:bd2 t=some (.nx [s0,s1,.val (.fdc W),s3,.dp (.pdc (putM M o (c+1))),.val (tD k),.val (tD o),.val (.int (c+1))]):=(zb5 E1).trans E2
  show forD (za9 6) bd2 (tD o::os.map tD) [s0,s1,.val (.fdc W),s3,.dp (.pdc M),.val (tD k),s6,s7]=_
  unfold forD
  show (bd2 t).bind _=_
  rw [E,zav9]
  exact ih
theorem zad2 {room:Nat}{K:List Int}{x:Int} (hK:K.length<60):zc5 zd8 [.cl (.int (room:Int)),.cl (tD K),.cl (.int x)]=some (.nw ((behK room K x).map tD)):=by
 have e:zd8 [.int (room:Int),tD K,.int x]=_:=zau7 (room:=room) (x:=x) hK
 simp [zc5,Ev.d,e,upEv,Ev.ok]
theorem turn_1 (s1 s6 s7:Sl) {room:Nat}{x:Int}{W M:Wys}{k:List Int} (hk:k∈W.map (·.1)) (k3:k.length≤3) (hM:M.length<80000):∃u6 u7,bd1 [.val (.int (room:Int)),s1,.val (.fdc W),.val (.int x),.dp (.pdc M),.val (tD k),s6,s7]=some (.nx [.val (.int (room:Int)),s1,.val (.fdc W),.val (.int x),.dp (.pdc (zh7 room x W M k)),.val (tD k),u6,u7]):=by
 obtain⟨c,hc⟩:=zi5 hk
 let t:Th:=[.val (.int (room:Int)),s1,.val (.fdc W),.val (.int x),.dp (.pdc M),.val (tD k),s6,s7]
 have c1:=inT_of (fa:=dVar 3) (fb:=dVar 5) (t:=t) (x:=x) (k:=k) (r:=.cl (tD k)) rfl rfl rfl
 have bl:(behK room k x).length≤3:=by
  have:=zau9 (room:=room) (x:=x) k3
  lia
 have fin:∀M0:Wys,M0.length<85000→∃u6 u7,dFor (za9 6) (dT1 (zc5 zd8) (za2 (dVar 0) (za2 (dVar 5) (za2 (dVar 3) dNil)))) bd2 [.val (.int (room:Int)),s1,.val (.fdc W),.val (.int x),.dp (.pdc M0),.val (tD k),s6,s7]=some (.nx [.val (.int (room:Int)),s1,.val (.fdc W),.val (.int x),.dp (.pdc ((behK room k x).foldl (fun M o=>putM M o (c+1)) M0)),.val (tD k),u6,u7]):=fun M0 h0=>by
  obtain⟨u6,u7,e⟩:=loop_2 (.val (.int (room:Int))) s1 (.val (.int x)) hc (behK room k x) M0 s6 s7 (by lia)
  refine⟨u6,u7,?_⟩
  unfold dFor
  rw [t3_of (rfl:dVar 0 [.val (.int (room:Int)),s1,.val (.fdc W),.val (.int x),.dp (.pdc M0),.val (tD k),s6,s7]=some (.cl (.int (room:Int)))) (rfl:dVar 5 _=some (.cl (tD k))) (rfl:dVar 3 _=some (.cl (.int x))),zad2 (by lia),zav9]
  exact e
 have ec:(zc1 W k).getD 0=c:=by rw [hc];rfl
 unfold zh7
 rw [ec]
 by_cases hx:x∈k
 ·rw [if_pos hx]
  have E1:=zam6 (fk:=dVar 5) (fc:=d2 zj0 (dVar 2) (dVar 5)) (t:=t) (r:=.cl (tD k)) (M:=M) (k:=k) (c:=c) rfl rfl rfl (zaa4 (fa:=dVar 2) (fb:=dVar 5) (t:=t) (r1:=.cl (.fdc W)) (r2:=.cl (tD k)) rfl rfl rfl rfl hc) (by lia)
  have pl:=zm7 M k c
  obtain⟨u6,u7,e⟩:=fin (putM M k c) (by lia)
  exact⟨u6,u7,(zb5 ((zaj3 c1 (decide_eq_true hx)).trans E1)).trans e⟩
 ·rw [if_neg hx]
  obtain⟨u6,u7,e⟩:=fin M (by lia)
  exact⟨u6,u7,(zb5 (grd c1 (decide_eq_false hx))).trans e⟩
theorem loop_1 (s1:Sl) {room:Nat}{x:Int}{W:Wys}:∀(ks:List (List Int)) (M:Wys) (s5 s6 s7:Sl),(∀k∈ks,k∈W.map (·.1)∧k.length≤3)→M.length+3*ks.length<80000→∃u5 u6 u7,forD (za9 5) bd1 (ks.map tD) [.val (.int (room:Int)),s1,.val (.fdc W),.val (.int x),.dp (.pdc M),s5,s6,s7]=some (.nx [.val (.int (room:Int)),s1,.val (.fdc W),.val (.int x),.dp (.pdc (ks.foldl (zh7 room x W) M)),u5,u6,u7])
 |[],M,s5,s6,s7,_,_=>⟨s5,s6,s7,rfl⟩
 |k::ks,M,s5,s6,s7,hk,h=>by
  rw [zax6]at h
  obtain⟨h1,h2⟩:=hk k (zaw0 ..)
  obtain⟨v6,v7,e⟩:=turn_1 s1 s6 s7 (room:=room) (x:=x) (M:=M) h1 h2 (by lia)
  have:=zad8 (room:=room) (x:=x) (W:=W) (M:=M) h2
  obtain⟨u5,u6,u7,ih⟩:=loop_1 s1 (room:=room) (x:=x) ks (zh7 room x W M k) (.val (tD k)) v6 v7 (fun k hk'=>hk k (zav8 _ hk')) (by lia)
  refine⟨u5,u6,u7,?_⟩
  show forD (za9 5) bd1 (tD k::ks.map tD) [.val (.int (room:Int)),s1,.val (.fdc W),.val (.int x),.dp (.pdc M),s5,s6,s7]=_
  unfold forD
  show (bd1 [.val (.int (room:Int)),s1,.val (.fdc W),.val (.int x),.dp (.pdc M),.val (tD k),s6,s7]).bind _=_
  rw [e,zav9]
  exact ih
theorem zaq2 (W:Wys):zk7 W=(W.map (·.1)).map tD:=by unfold zk7;rw [zbf4];rfl
theorem turn_0 (s1 s4 s5 s6 s7:Sl) {room:Nat}{x:Int}{W:Wys} (hW:∀k∈W.map (·.1),k.length≤3) (hl:W.length<20000):∃u4 u5 u6 u7,bd0 [.val (.int (room:Int)),s1,.val (.fdc W),.val (.int x),s4,s5,s6,s7]=some (.nx [.val (.int (room:Int)),s1,.val (.fdc (zh4 room W x)),.val (.int x),u4,u5,u6,u7]):=by
 have E1:dAsg 4 dNewP [.val (.int (room:Int)),s1,.val (.fdc W),.val (.int x),s4,s5,s6,s7]=some (.nx [.val (.int (room:Int)),s1,.val (.fdc W),.val (.int x),.dp (.pdc []),s5,s6,s7]):=rfl
 obtain⟨u5,u6,u7,e⟩:=loop_1 s1 (room:=room) (x:=x) (W:=W) (W.map (·.1)) [] s5 s6 s7 (fun k hk=>⟨hk,hW k hk⟩) (by rw [zay5,zbc4];lia)
 have E2:dForD (za9 5) (dVar 2) bd1 [.val (.int (room:Int)),s1,.val (.fdc W),.val (.int x),.dp (.pdc []),s5,s6,s7]=some (.nx [.val (.int (room:Int)),s1,.val (.fdc W),.val (.int x),.dp (.pdc (zh4 room W x)),u5,u6,u7]):=by
  refine Eq.trans ?_ e
  show forD (za9 5) bd1 (zk7 W) _=_
  rw [zaq2]
 exact⟨_,_,_,_,(zb5 E1).trans ((zb5 E2).trans rfl)⟩
theorem ok_keys {room:Nat} (h3:room≤3) {W:Wys} (h:OkW room W):∀k∈W.map (·.1),k.length≤3:=fun k hk=>by
 obtain⟨c,hc⟩:=zi5 hk
 have:=(h k c hc).2
 lia
theorem zam0 {room:Nat}{x:Int}{W:Wys} (h:∀k∈W.map (·.1),k.length≤3):(zh4 room W x).length≤3*W.length:=by
 have:=zv4 (room:=room) (x:=x) (W:=W) (W.map (·.1)) [] h
 rw [zay5,zbc4]at this
 unfold zh4
 lia
theorem loop_0 (s1:Sl) {room:Nat} (h3:room≤3):∀(ps:List Int) (W:Wys) (s3 s4 s5 s6 s7:Sl),OkW room W→W.length*3 ^ ps.length<20000→∃u3 u4 u5 u6 u7,forD (za9 3) bd0 (ps.map D.int) [.val (.int (room:Int)),s1,.val (.fdc W),s3,s4,s5,s6,s7]=some (.nx [.val (.int (room:Int)),s1,.val (.fdc (runW room W ps)),u3,u4,u5,u6,u7])∧(runW room W ps).length<20000
 |[],W,s3,s4,s5,s6,s7,_,h=>⟨s3,s4,s5,s6,s7,rfl,by simpa [runW] using h⟩
 |x::ps,W,s3,s4,s5,s6,s7,ok,h=>by
  have p1:1≤3 ^ ps.length:=Nat.pos_of_ne_zero (by simp)
  rw [zax6,Nat.pow_succ]at h
  have hw:W.length<20000:=by
   have:W.length*1≤W.length*(3 ^ ps.length*3):=Nat.mul_le_mul_left _ (by lia)
   lia
  have hk:=ok_keys h3 ok
  have rl:=zam0 (room:=room) (x:=x) hk
  obtain⟨v4,v5,v6,v7,e⟩:=turn_0 s1 s4 s5 s6 s7 (room:=room) (x:=x) hk hw
  have hn:(zh4 room W x).length*3 ^ ps.length<20000:=by
   have h1:(zh4 room W x).length*3 ^ ps.length≤(3*W.length)*3 ^ ps.length:=Nat.mul_le_mul_right _ rl
   have h2:(3*W.length)*3 ^ ps.length=W.length*(3 ^ ps.length*3):=by rw [zbl6 3 W.length,Nat.mul_assoc,zbl6 3]
   lia
  obtain⟨u3,u4,u5,u6,u7,ih,il⟩:=loop_0 s1 h3 ps (zh4 room W x) (.val (.int x)) v4 v5 v6 v7 (zx1 x ok) hn
  refine⟨u3,u4,u5,u6,u7,?_,il⟩
  show forD (za9 3) bd0 (.int x::ps.map D.int) [.val (.int (room:Int)),s1,.val (.fdc W),s3,s4,s5,s6,s7]=_
  unfold forD
  show (bd0 [.val (.int (room:Int)),s1,.val (.fdc W),.val (.int x),s4,s5,s6,s7]).bind _=_
  rw [e,zav9]
  exact ih
theorem zaf9:∀(r:List Int) (m a:Int),(a=m∨a∈r)→a≤m→(∀b∈r,a≤b)→zf0 m r=a
 |[],m,a,h,_,_=>by
  rcases h with h | h
  ·exact h.symm
  ·cases h
 |n::r,m,a,h,h1,h2=>by
  have hn:=h2 n (zaw0 ..)
  show zf0 (if n<m then n else m) r=a
  refine zaf9 r _ a ?_ (by split<;>lia) fun b hb=>h2 b (zav8 _ hb)
  rcases h with h | h
  ·left;split<;>lia
  ·rcases zaw6.mp h with z | z
   ·left;split<;>lia
   ·exact .inr z
theorem zz0 {W:Wys}:∀(ks:List (List Int)) (s:Sl),(∀k∈ks,k∈W.map (·.1))→zd7 (za9 0) zy4 (d2 zj0 (dVar 1) (dVar 0)) (ks.map tD) [s,.val (.fdc W)]=some ((ks.map fun k=>(zc1 W k).getD 0).map D.int)
 |[],s,_=>rfl
 |k::ks,s,h=>by
  obtain⟨c,hc⟩:=zi5 (h k (zaw0 ..))
  have e:=zaa4 (fa:=dVar 1) (fb:=dVar 0) (t:=[.val (tD k),.val (.fdc W)]) (r1:=.cl (.fdc W)) (r2:=.cl (tD k)) rfl rfl rfl rfl hc
  have ih:=zz0 (W:=W) ks (.val (tD k)) fun k' hk'=>h k' (zav8 _ hk')
  show zd7 (za9 0) zy4 (d2 zj0 (dVar 1) (dVar 0)) (tD k::ks.map tD) [s,.val (.fdc W)]=_
  unfold zd7
  show (d2 zj0 (dVar 1) (dVar 0) [.val (tD k),.val (.fdc W)]).bind (fun r=>(zd7 (za9 0) zy4 (d2 zj0 (dVar 1) (dVar 0)) (ks.map tD) [.val (tD k),.val (.fdc W)]).map fun xs=>r.d::xs)=_
  rw [e,ih,zav9,zax1,hc]
  rfl
theorem lbest_is {room:Nat} (r0:0<room) (r3:room≤3) {ps:List Int} (hp:ps.length≤9):zg8 [.int (room:Int),.lst (ps.map D.int)]=some (.cl (.int ((runA (ps.length:Int) room ps 0 []).length:Int))):=by
 let P:Sl:=.val (.lst (ps.map D.int))
 have E1:dAsg 2 (zah0 (dC (.int 0))) [.val (.int (room:Int)),P,.no,.no,.no,.no,.no,.no]=some (.nx [.val (.int (room:Int)),P,.dp (.pdc [([],0)]),.no,.no,.no,.no,.no]):=rfl
 have ok0:OkW room [([],0)]:=fun k c e=>by
  unfold zc1 at e
  by_cases z:([]:List Int)=k
  ·subst z;exact⟨zay7,zba1 _⟩
  ·rw [if_neg z]at e;cases e
 have p9:3 ^ ps.length≤3 ^ 9:=zbb5 (by decide) hp
 obtain⟨u3,u4,u5,u6,u7,e,hl⟩:=loop_0 P (room:=room) r3 ps [([],0)] .no .no .no .no .no ok0 (by simp only [zay6,Nat.one_mul];exact zbf3 p9 (by decide))
 have E2:zaj8 2 (dFor (za9 3) (dVar 1) bd0) [.val (.int (room:Int)),P,.dp (.pdc [([],0)]),.no,.no,.no,.no,.no]=some (.nx [.val (.int (room:Int)),P,.val (.fdc (runW room [([],0)] ps)),u3,u4,u5,u6,u7]):=e
 obtain⟨⟨k,hk⟩,lo⟩:=best_W r0 ps
 generalize hW:runW room [([],0)] ps=W at *
 generalize ((runA (ps.length:Int) room ps 0 []).length:Int)=b at *
 have c3:(zl8 1 [2] (fsD (dVar 2)) (za9 0) zy4 (d2 zj0 (dVar 1) (dVar 0))) [.val (.int (room:Int)),P,.val (.fdc W),u3,u4,u5,u6,u7]=some (.nw (((W.map (·.1)).map fun k=>(zc1 W k).getD 0).map D.int)):=by
  show (if (zk7 W).length≤50000 then (zd7 (za9 0) zy4 (d2 zj0 (dVar 1) (dVar 0)) (zk7 W) [.no,.val (.fdc W)]).bind _ else none)=_
  rw [zaq2,zay5,zay5,if_pos (by lia),zz0 _ _ fun k hk=>hk]
  rfl
 have hv:∀v∈(W.map (·.1)).map (fun k=>(zc1 W k).getD 0),b≤v:=fun v hv=>by
  obtain⟨k',hk',rfl⟩:=zbe3.mp hv
  obtain⟨c,hc⟩:=zi5 hk'
  rw [hc]
  exact lo k' c hc
 have hb:b∈(W.map (·.1)).map (fun k=>(zc1 W k).getD 0):=zbe3.mpr ⟨k,zt4 hk,by rw [hk];rfl⟩
 have E3:(dRet (dT1 (zaj1 zf0) (za2 (zl8 1 [2] (fsD (dVar 2)) (za9 0) zy4 (d2 zj0 (dVar 1) (dVar 0))) dNil))) [.val (.int (room:Int)),P,.val (.fdc W),u3,u4,u5,u6,u7]=some (.rt (.cl (.int b))):=by
  refine zae2 ?_
  rw [zl6 c3]
  generalize (W.map (·.1)).map (fun k=>(zc1 W k).getD 0)=L at *
  unfold zaj1
  show (match ze9 (L.map D.int) with | some (n::ns)=>some (Ev.cl (.int (zf0 n ns))) |_=>none)=_
  rw [zf5]
  cases L with
  |nil=>cases hb
  |cons n ns =>
   show some (Ev.cl (.int (zf0 n ns)))=_
   rw [zaf9 ns n b (zaw6.mp hb) (hv n (zaw0 ..)) fun v h=>hv v (zav8 _ h)]
 show (dSeq _ (dSeq (zaj8 2 (dFor (za9 3) (dVar 1) bd0)) _) [.val (.int (room:Int)),P,.no,.no,.no,.no,.no,.no]).bind zh9=_
 exact bnd ((zb5 E1).trans ((zb5 E2).trans E3))
theorem zau2 {room:Nat} (r0:0<room) (r3:room≤3) {ps:List Int} (hp:ps.length≤9) {r1 r2:Ev} (h1:r1.d=.int (room:Int)) (h2:r2.d=.lst (ps.map D.int)):zc5 zg8 [r1,r2]=some (.cl (.int ((runA (ps.length:Int) room ps 0 []).length:Int))):=callc (by rw [zax1,zax1,zbe2,h1,h2];exact lbest_is r0 r3 hp) rfl
end KX
set_option maxHeartbeats 4000000
namespace KX
open PySem.Spec L2 DL
def RInv (q num rest:Int) (xs:List Int):Prop:=0≤rest∧0≤num∧num<(bndS:Int)∧∀x∈xs,0≤x∧x<q
theorem big30:(d2 qA (d2 qP (dC (.int 10)) (dC (.int 30))) (dC (.int 57)))=fun _=>some (.cl (.int 1000000000000000000000000000057)):=by
 funext t
 simp [d2,dC,kI,cPow,kOr,tt2,Ev.d]
theorem big9:(d2 qP (dC (.int 10)) (dC (.int 9)))=fun _=>some (.cl (.int 1000000000)):=by
 funext t
 simp [d2,dC,kI,cPow,kOr,tt2,Ev.d]
theorem n1_of (s0 s1 s2 s3 s4 s6:Sl) {num k:Int} (h0:0≤num) (h1:num<(bndS:Int)) (k0:0≤k) (k1:k<60):rowN1 [s0,s1,s2,s3,s4,.val (.int num),s6,.val (.int k)]=some (.cl (.int (((num+k*k+1)*314159265358979323846264338327).fmod 1000000000000000000000000000057))):=by
 have b:=zp9
 have kk:k*k≤60*60:=Int.mul_le_mul (by lia) (by lia) k0 (by decide)
 have kk0:0≤k*k:=Int.mul_nonneg k0 k0
 have c1:cMulB k k=true:=by simp only [cMulB];rw [zv6 k0 (by lia)];rfl
 have c2:cMulB (num+k*k+1) 314159265358979323846264338327=true:=by
  simp only [cMulB];rw [zv6 (i:=num+k*k+1) (by lia) (by lia),zv6 (i:=314159265358979323846264338327) (by decide) (by lia)];rfl
 unfold rowN1
 rw [big30]
 have e1:(d2 (kI cMulB fun i j=>.int (i*j)) (dVar 7) (dVar 7)) [s0,s1,s2,s3,s4,.val (.int num),s6,.val (.int k)]=some (.cl (.int (k*k))):=by
  simp only [d2,dVar,zbb7,zbc7,zav9,kI,Ev.d,c1,if_true]
 have e2:(d2 qA (dVar 5) (d2 (kI cMulB fun i j=>.int (i*j)) (dVar 7) (dVar 7))) [s0,s1,s2,s3,s4,.val (.int num),s6,.val (.int k)]=some (.cl (.int (num+k*k))):=by
  unfold d2 at e1 ⊢
  rw [e1]
  rfl
 have e3:(d2 qA (d2 qA (dVar 5) (d2 (kI cMulB fun i j=>.int (i*j)) (dVar 7) (dVar 7))) (dC (.int 1))) [s0,s1,s2,s3,s4,.val (.int num),s6,.val (.int k)]=some (.cl (.int (num+k*k+1))):=by
  unfold d2 at e2 ⊢
  rw [e2]
  rfl
 have e4:(d2 (kI cMulB fun i j=>.int (i*j)) (d2 qA (d2 qA (dVar 5) (d2 (kI cMulB fun i j=>.int (i*j)) (dVar 7) (dVar 7))) (dC (.int 1))) (dC (.int 314159265358979323846264338327))) [s0,s1,s2,s3,s4,.val (.int num),s6,.val (.int k)]=some (.cl (.int ((num+k*k+1)*314159265358979323846264338327))):=by
  unfold d2 at e3 ⊢
  rw [e3]
  simp only [dC,zav9,kI,Ev.d,c2,if_true]
 unfold d2 at e4 ⊢
 rw [e4]
 rfl
theorem n2_of (s0 s1 s2 s3 s4 s6:Sl) {num k:Int} (h0:0≤num) (h1:num<(bndS:Int)) (k0:0≤k) (k1:k<60):rowN2 [s0,s1,s2,s3,s4,.val (.int num),s6,.val (.int k)]=some (.cl (.int (((num+k)*271828182845904523536028747135).fmod 1000000000000000000000000000057))):=by
 have b:=zp9
 have c2:cMulB (num+k) 271828182845904523536028747135=true:=by
  simp only [cMulB];rw [zv6 (i:=num+k) (by lia) (by lia),zv6 (i:=271828182845904523536028747135) (by decide) (by lia)];rfl
 unfold rowN2
 rw [big30]
 have e4:(d2 (kI cMulB fun i j=>.int (i*j)) (d2 qA (dVar 5) (dVar 7)) (dC (.int 271828182845904523536028747135))) [s0,s1,s2,s3,s4,.val (.int num),s6,.val (.int k)]=some (.cl (.int ((num+k)*271828182845904523536028747135))):=by
  simp only [d2,dVar,dC,zbb7,zbc7,zav9,kOr,kI,tt2,Ev.d,c2,if_true]
 unfold d2 at e4 ⊢
 rw [e4]
 rfl
theorem x_of (s0 s1 s2 s4 s6 s7:Sl) {num q:Int} (hq:0<q):rowX [s0,s1,s2,.val (.int q),s4,.val (.int num),s6,s7]=some (.cl (.int ((num.fdiv 1000000000).fmod q))):=by
 unfold rowX
 rw [big9]
 show (if cDiv num 1000000000=true then some (Ev.cl (.int (num.fdiv 1000000000))) else none).bind (fun r1=>(some (Ev.cl (.int q))).bind fun r2=>qR r1 r2)=_
 rw [if_pos (by unfold cDiv;rw [sm_of (by decide) (by decide)];rfl)]
 show (if cMod (num.fdiv 1000000000) q=true then some (Ev.cl (.int ((num.fdiv 1000000000).fmod q))) else none)=_
 rw [if_pos (by unfold cMod;exact decide_eq_true (by lia))]
theorem rowB_of {s0 s1 s2 s7:Sl}{q rest num a b x:Int}{xs:List Int} (hl:(xs.map D.int).length<100000) (h1:rowN1 [s0,s1,s2,.val (.int q),.val (.int rest),.val (.int num),.own (xs.map D.int),s7]=some (.cl (.int a))) (h2:rowN2 [s0,s1,s2,.val (.int q),.val (.int rest),.val (.int a),.own (xs.map D.int),s7]=some (.cl (.int b))) (h3:rowX [s0,s1,s2,.val (.int q),.val (.int rest),.val (.int b),.own (xs.map D.int),s7]=some (.cl (.int x))) :
  rowB [s0,s1,s2,.val (.int q),.val (.int rest),.val (.int num),.own (xs.map D.int),s7]=some (.nx [s0,s1,s2,.val (.int q),.val (.int rest),.val (.int b),.own ((xs++[x]).map D.int),s7]):=by
 unfold rowB
 rw [zb5 (zr2 _ h1 (i:=5) (by simp))]
 refine (zb5 (zr2 _ h2 (i:=5) (by simp))).trans ?_
 refine (zah4 _ (i:=6) h3 rfl hl).trans ?_
 simp
theorem turn_R (s0 s1 s2:Sl) {q num rest k:Int}{xs:List Int} (hq:0<q) (hs:sm q=true) (I:RInv q num rest xs) (hl:xs.length<1000) (k0:0≤k) (k1:k<60):∃num' rest' xs',RInv q num' rest' xs'∧xs'.length=xs.length+1 ∧
  zl7 [s0,s1,s2,.val (.int q),.val (.int rest),.val (.int num),.own (xs.map D.int),.val (.int k)]=some (.nx [s0,s1,s2,.val (.int q),.val (.int rest'),.val (.int num'),.own (xs'.map D.int),.val (.int k)]):=by
 obtain⟨r0,n0,n1,hx⟩:=I
 have hl':(xs.map D.int).length<100000:=by simp;lia
 have et:(dBo (d2 qG (dVar 4) (dC (.int 0)))) [s0,s1,s2,.val (.int q),.val (.int rest),.val (.int num),.own (xs.map D.int),.val (.int k)]=some (decide (0<rest)):=rfl
 unfold zl7 dIfS
 rw [et]
 by_cases hr:0<rest
 ·rw [decide_eq_true hr]
  refine⟨num,rest.fdiv q,xs++[rest.fmod q],⟨Int.fdiv_nonneg r0 (by lia),n0,n1,fun x hx'=>?_⟩,by simp,?_⟩
  ·rcases zax0.mp hx' with w | w
   ·exact hx x w
   ·simp at w;subst w
    exact⟨zaz9 _ hq,zbb3 _ hq⟩
  ·show rowA _=_
   unfold rowA
   have e1:(d2 qR (dVar 4) (dVar 3)) [s0,s1,s2,.val (.int q),.val (.int rest),.val (.int num),.own (xs.map D.int),.val (.int k)]=some (.cl (.int (rest.fmod q))):=by
    show (if cMod rest q=true then some (Ev.cl (.int (rest.fmod q))) else none)=_
    rw [if_pos (by unfold cMod;exact decide_eq_true (by lia))]
   rw [zb5 (zah4 _ e1 (i:=6) rfl hl')]
   have e2:(d2 qV (dVar 4) (dVar 3)) [s0,s1,s2,.val (.int q),.val (.int rest),.val (.int num),.own (xs.map D.int++[.int (rest.fmod q)]),.val (.int k)]=some (.cl (.int (rest.fdiv q))):=by
    show (if cDiv rest q=true then some (Ev.cl (.int (rest.fdiv q))) else none)=_
    rw [if_pos (by unfold cDiv;rw [hs];simp;lia)]
   refine (zr2 _ e2 (i:=4) (by simp)).trans ?_
   simp
 ·rw [decide_eq_false hr]
  have hb:=zp9
  have N1:=n1_of s0 s1 s2 (.val (.int q)) (.val (.int rest)) (.own (xs.map D.int)) n0 n1 k0 k1
  have ha0:0≤((num+k*k+1)*314159265358979323846264338327).fmod 1000000000000000000000000000057:=zaz9 _ (by decide)
  have ha1:((num+k*k+1)*314159265358979323846264338327).fmod 1000000000000000000000000000057<1000000000000000000000000000057:=zbb3 _ (by decide)
  generalize ((num+k*k+1)*314159265358979323846264338327).fmod 1000000000000000000000000000057=a at N1 ha0 ha1
  have N2:=n2_of s0 s1 s2 (.val (.int q)) (.val (.int rest)) (.own (xs.map D.int)) (num:=a) ha0 (by lia) k0 k1
  have hb0:0≤((a+k)*271828182845904523536028747135).fmod 1000000000000000000000000000057:=zaz9 _ (by decide)
  have hb1:((a+k)*271828182845904523536028747135).fmod 1000000000000000000000000000057<1000000000000000000000000000057:=zbb3 _ (by decide)
  generalize ((a+k)*271828182845904523536028747135).fmod 1000000000000000000000000000057=b at N2 hb0 hb1
  refine⟨b,rest,xs++[(b.fdiv 1000000000).fmod q],⟨r0,hb0,by lia,fun x hx'=>?_⟩,by simp,?_⟩
  ·rcases zax0.mp hx' with w | w
   ·exact hx x w
   ·simp at w;subst w
    exact⟨zaz9 _ hq,zbb3 _ hq⟩
  ·simp only [zav9,zaz3,if_false]
   exact rowB_of hl' N1 N2 (x_of _ _ _ _ _ _ hq)
theorem loop_R (s0 s1 s2:Sl) {q:Int} (hq:0<q) (hs:sm q=true):∀(n j:Nat) (num rest:Int) (xs:List Int) (s7:Sl),RInv q num rest xs→xs.length+n<1000→j+n≤60→∃num' rest' xs' u7,RInv q num' rest' xs'∧xs'.length=xs.length+n ∧
  forD (za9 7) zl7 ((List.range' j n).map fun (i:Nat)=>D.int (0+(i:Int))) [s0,s1,s2,.val (.int q),.val (.int rest),.val (.int num),.own (xs.map D.int),s7]=some (.nx [s0,s1,s2,.val (.int q),.val (.int rest'),.val (.int num'),.own (xs'.map D.int),u7])
 |0,j,num,rest,xs,s7,I,_,_=>⟨num,rest,xs,s7,I,rfl,rfl⟩
 |n+1,j,num,rest,xs,s7,I,hl,hj=>by
  obtain⟨num1,rest1,xs1,I1,l1,e1⟩:=turn_R s0 s1 s2 (k:=0+(j:Int)) hq hs I (by lia) (by lia) (by lia)
  obtain⟨num',rest',xs',u7,I',l',e'⟩:=loop_R s0 s1 s2 hq hs n (j+1) num1 rest1 xs1 (.val (.int (0+(j:Int)))) I1 (by lia) (by lia)
  refine⟨num',rest',xs',u7,I',by lia,?_⟩
  have e0:za9 7 (.int (0+(j:Int))) [s0,s1,s2,.val (.int q),.val (.int rest),.val (.int num),.own (xs.map D.int),s7]=some [s0,s1,s2,.val (.int q),.val (.int rest),.val (.int num),.own (xs.map D.int),.val (.int (0+(j:Int)))]:=rfl
  simp only [zbm1,zax1,forD,e0,zav9,e1]
  exact e'
theorem cell_of (ns:List Int) (hb:∀n∈ns,n.natAbs<bndS) (k:Nat):∃v:Int,v.natAbs<bndS∧za8 [.lst (ns.map D.int),.int (k:Int)]=some (.cl (.int v)):=by
 have hbig:=zp9
 by_cases h:k<ns.length
 ·refine⟨ns[k],hb _ (zbj0 h),?_⟩
  have h1:((k:Int)<((ns.map D.int).length:Int)):=by simp;lia
  have h2:atI (ns.map D.int) (k:Int)=some (.int ns[k]):=by
   unfold atI ixN
   rw [if_pos (by lia),if_pos h1]
   simp [h]
  show (zd9 [.val (.lst (ns.map D.int)),.val (.int (k:Int))]).bind zh9=_
  simp only [zd9,dSeq,dIfS,dBo,d2,dVar,dT1,za2,dNil,kLen,Ev.d,kI,tt2,zav9,zbc7,zbb7,if_true]
  rw [decide_eq_true h1]
  simp [dRet,d2,dVar,kIx,Ev.d,h2,zh9,Ev.ok]
 ·refine⟨0,by simp;lia,?_⟩
  have h1 : ¬ ((k:Int)<((ns.map D.int).length:Int)):=by simp;lia
  show (zd9 [.val (.lst (ns.map D.int)),.val (.int (k:Int))]).bind zh9=_
  simp only [zd9,dSeq,dIfS,dBo,d2,dVar,dT1,za2,dNil,kLen,Ev.d,kI,tt2,zav9,zbc7,zbb7,if_true]
  rw [decide_eq_false h1]
  simp [dRet,zg5,dC,zh9]
theorem zp8 (ns:List Int) (hb:∀n∈ns,n.natAbs<bndS) (k:Nat):∃v:Int,v.natAbs<bndS∧zc5 za8 [.cl (.lst (ns.map D.int)),.cl (.int (k:Int))]=some (.cl (.int v)):=by
 obtain⟨v,h,e⟩:=cell_of ns hb k
 exact⟨v,h,by simp [zc5,Ev.d,e,upEv,Ev.ok]⟩
theorem row_top (ns:List Int) (hb:∀n∈ns,n.natAbs<bndS) (at' many:Nat) (q:Int):∃num rest:Int,0≤num∧num<(bndS:Int)∧0≤rest∧∀g:DS,
  (dSeq (dAsg 4 (dT1 kAbs (za2 (dT1 (zc5 za8) (za2 (dVar 0) (za2 (dVar 1) dNil))) dNil)))
  (dSeq (dAsg 5 (dVar 4))
  (dSeq (dIfS (dBo (d2 kEq (d2 qR (dT1 (zc5 za8) (za2 (dVar 0) (za2 (dC (.int 0)) dNil))) (dC (.int 2))) (dC (.int 1)))) (dAsg 4 (dC (.int 0))) zg5)
  (dSeq (dAsg 6 (dT1 kLst dNil)) g)))) [.val (.lst (ns.map D.int)),.val (.int (at':Int)),.val (.int (many:Int)),.val (.int q),.no,.no,.no,.no]=g [.val (.lst (ns.map D.int)),.val (.int (at':Int)),.val (.int (many:Int)),.val (.int q),.val (.int rest),.val (.int num),.own [],.no]:=by
 obtain⟨v,hv,ev⟩:=zp8 ns hb at'
 obtain⟨w,hw,ew⟩:=zp8 ns hb 0
 have hw':zc5 za8 [.cl (.lst (ns.map D.int)),.cl (.int 0)]=some (.cl (.int w)):=ew
 let a:Int:=if v<0 then -v else v
 have ha:0≤a:=by show 0≤(if v<0 then -v else v);split<;>lia
 have ha2:a<(bndS:Int):=by show (if v<0 then -v else v)<_;split<;>lia
 refine⟨a,if w.fmod 2=1 then 0 else a,ha,ha2,by split<;>lia,fun g=>?_⟩
 have e1:(dT1 kAbs (za2 (dT1 (zc5 za8) (za2 (dVar 0) (za2 (dVar 1) dNil))) dNil)) [.val (.lst (ns.map D.int)),.val (.int (at':Int)),.val (.int (many:Int)),.val (.int q),.no,.no,.no,.no]=some (.cl (.int a)):=by
  simp [dT1,za2,dNil,dVar,ev,kAbs,Ev.d,a]
 rw [zb5 (zr2 _ e1 (by simp))]
 have e2:(dVar 4) ([.val (.lst (ns.map D.int)),.val (.int (at':Int)),.val (.int (many:Int)),.val (.int q),.no,.no,.no,.no].set 4 (.val (.int a)))=some (.cl (.int a)):=rfl
 rw [zb5 (zr2 _ e2 (by simp))]
 have e3:(dBo (d2 kEq (d2 qR (dT1 (zc5 za8) (za2 (dVar 0) (za2 (dC (.int 0)) dNil))) (dC (.int 2))) (dC (.int 1)))) [.val (.lst (ns.map D.int)),.val (.int (at':Int)),.val (.int (many:Int)),.val (.int q),.val (.int a),.val (.int a),.no,.no]=some (decide (w.fmod 2=1)):=by
  simp [dBo,d2,dVar,dT1,za2,dNil,dC,hw',kI,cMod,Ev.d,kEq,eqOk,eqD]
 have e4:(dIfS (dBo (d2 kEq (d2 qR (dT1 (zc5 za8) (za2 (dVar 0) (za2 (dC (.int 0)) dNil))) (dC (.int 2))) (dC (.int 1)))) (dAsg 4 (dC (.int 0))) zg5) [.val (.lst (ns.map D.int)),.val (.int (at':Int)),.val (.int (many:Int)),.val (.int q),.val (.int a),.val (.int a),.no,.no]=some (.nx [.val (.lst (ns.map D.int)),.val (.int (at':Int)),.val (.int (many:Int)),.val (.int q),.val (.int (if w.fmod 2=1 then 0 else a)),.val (.int a),.no,.no]):=by
  unfold dIfS
  rw [e3]
  by_cases hw2:w.fmod 2=1
  ·rw [decide_eq_true hw2,if_pos hw2];rfl
  ·rw [decide_eq_false hw2,if_neg hw2];rfl
 refine (zb5 e4).trans ?_
 rfl
theorem zap4 {α:Type}{x:α}{xs:List α}:∀ {k:Nat},x∈(zax4 k xs).flatten→x∈xs
 |0,h=>by simp at h
 |k+1,h=>by
  rw [zaz4,zba9]at h
  rcases zax0.mp h with w | w
  ·exact w
  ·exact zap4 w
theorem zam2 {α β:Type} (f:α→β) (xs:List α):∀k:Nat,(zax4 k (xs.map f)).flatten=((zax4 k xs).flatten).map f
 |0=>rfl
 |k+1=>by rw [zaz4,zba9,zam2 f xs k,zaz4,zba9,zbc5]
theorem zab0 {α:Type} (xs:List α):∀k:Nat,((zax4 k xs).flatten).length=k*xs.length
 |0=>by simp
 |k+1=>by rw [zaz4,zba9,zax7,zab0 xs k,Nat.succ_mul];lia
theorem ret_row (s0 s1 s3 s4 s5 s7:Sl) {many:Nat}{xs:List Int} (hm:many≤900) (hl:xs.length=min many 60):(dRet (dSlU (dVar 2) (zaj7 6 (d2 qA (dC (.int 1)) (d2 qV (dVar 2) (dC (.int 60))))))) [s0,s1,.val (.int (many:Int)),s3,s4,s5,.own (xs.map D.int),s7]=some (.rt (.nw ((((zax4 (1+many / 60) xs).flatten).take many).map D.int))):=by
 have hd:((many:Int).fdiv 60)=((many / 60:Nat):Int):=by
  rw [Int.fdiv_eq_ediv_of_nonneg _ (by decide)];rfl
 have e1:(d2 qA (dC (.int 1)) (d2 qV (dVar 2) (dC (.int 60)))) [s0,s1,.val (.int (many:Int)),s3,s4,s5,.own (xs.map D.int),s7]=some (.cl (.int (1+(many:Int).fdiv 60))):=by
  have:(d2 qV (dVar 2) (dC (.int 60))) [s0,s1,.val (.int (many:Int)),s3,s4,s5,.own (xs.map D.int),s7]=some (.cl (.int ((many:Int).fdiv 60))):=by
   show (if cDiv (many:Int) 60=true then some (Ev.cl (.int ((many:Int).fdiv 60))) else none)=_
   rw [if_pos (by simp only [cDiv];rw [sm_of (by decide) (by decide)];rfl)]
  unfold d2 at this ⊢
  rw [this]
  rfl
 have e2:(zaj7 6 (d2 qA (dC (.int 1)) (d2 qV (dVar 2) (dC (.int 60))))) [s0,s1,.val (.int (many:Int)),s3,s4,s5,.own (xs.map D.int),s7]=some (.nw (zax4 (1+many / 60) (xs.map D.int)).flatten):=by
  unfold zaj7
  rw [e1]
  show (if (flats (xs.map D.int)&&decide ((xs.map D.int).length≤1000 ∧ -1000000≤1+(many:Int).fdiv 60∧1+(many:Int).fdiv 60≤100))=true then some (Ev.nw (zax4 (1+(many:Int).fdiv 60).toNat (xs.map D.int)).flatten) else none)=_
  rw [if_pos (by rw [flats_ints,hd];simp;lia),hd,show (1+((many / 60:Nat):Int)).toNat=1+many / 60 by lia]
 unfold dRet dSlU
 rw [e2]
 show some (Out.rt (Ev.nw ((zax4 (1+many / 60) (xs.map D.int)).flatten.take (HT.sIx (zax4 (1+many / 60) (xs.map D.int)).flatten.length (zax4 (1+many / 60) (xs.map D.int)).flatten.length (some (many:Int))))))=_
 rw [HT.sIx_nat,zam2,zay5, ← List.map_take]
 have hlen:=zab0 xs (1+many / 60)
 rw [hl]at hlen
 have:many≤(1+many / 60)*min many 60:=by
  by_cases h:many<60
  ·rw [zbj8 (by lia)];exact zbj1 _ (by lia)
  ·rw [Nat.min_eq_right (by lia)];lia
 rw [hlen,zbj8 this]
theorem row_of (ns:List Int) (hb:∀n∈ns,n.natAbs<bndS) (at' many:Nat) (hm:many≤900) {q:Int} (hq:0<q) (hs:sm q=true):∃xs:List Int,xs.length=many∧(∀x∈xs,0≤x∧x<q)∧zg7 [.lst (ns.map D.int),.int (at':Int),.int (many:Int),.int q]=some (.nw (xs.map D.int)):=by
 obtain⟨num,rest,n0,n1,r0,e⟩:=row_top ns hb at' many q
 obtain⟨num',rest',xs,u7,I,l,e'⟩:=loop_R (.val (.lst (ns.map D.int))) (.val (.int (at':Int))) (.val (.int (many:Int))) hq hs (min many 60) 0 num rest [] .no ⟨r0,n0,n1,fun x hx=>by cases hx⟩ (by simp;lia) (by lia)
 have l:xs.length=min many 60:=by simpa using l
 refine⟨((zax4 (1+many / 60) xs).flatten).take many,?_,fun x hx=>I.2.2.2 x (zap4 (List.mem_of_mem_take hx)),?_⟩
 ·have hlen:=zab0 xs (1+many / 60)
  rw [l]at hlen
  have:many≤(1+many / 60)*min many 60:=by
   by_cases h:many<60
   ·rw [zbj8 (by lia)];exact zbj1 _ (by lia)
   ·rw [Nat.min_eq_right (by lia)];lia
  rw [zbi4];lia
 show (zk9 [.val (.lst (ns.map D.int)),.val (.int (at':Int)),.val (.int (many:Int)),.val (.int q),.no,.no,.no,.no]).bind zh9=_
 have eg:zk9 [.val (.lst (ns.map D.int)),.val (.int (at':Int)),.val (.int (many:Int)),.val (.int q),.no,.no,.no,.no]=some (.rt (.nw ((((zax4 (1+many / 60) xs).flatten).take many).map D.int))):=by
  refine (e _).trans ?_
  have e5:(zu2 (za9 7) (dT1 qN (za2 (dVar 2) (za2 (dC (.int 60)) dNil))) zl7) [.val (.lst (ns.map D.int)),.val (.int (at':Int)),.val (.int (many:Int)),.val (.int q),.val (.int rest),.val (.int num),.own [],.no]=some (.nx [.val (.lst (ns.map D.int)),.val (.int (at':Int)),.val (.int (many:Int)),.val (.int q),.val (.int rest'),.val (.int num'),.own (xs.map D.int),u7]):=by
   show (if bigI (if (60:Int)<(many:Int) then 60 else (many:Int))=true then forD (za9 7) zl7 (rngD 0 (if (60:Int)<(many:Int) then 60 else (many:Int)).toNat) _ else none)=_
   have em:(if (60:Int)<(many:Int) then 60 else (many:Int))=((min many 60:Nat):Int):=by split<;>lia
   rw [em,if_pos (by unfold bigI;exact decide_eq_true (by lia)),zbc1]
   unfold rngD
   rw [zbk2]
   exact e'
  refine (zb5 e5).trans ?_
  exact ret_row _ _ _ _ _ _ hm l
 rw [eg];rfl
theorem call_row (ns:List Int) (hb:∀n∈ns,n.natAbs<bndS) (at' many:Nat) (hm:many≤900) {q:Int} (hq:0<q) (hs:sm q=true):∃xs:List Int,xs.length=many∧(∀x∈xs,0≤x∧x<q)∧zc5 zg7 [.cl (.lst (ns.map D.int)),.cl (.int (at':Int)),.cl (.int (many:Int)),.cl (.int q)]=some (.nw (xs.map D.int)):=by
 obtain⟨xs,h1,h2,e⟩:=row_of ns hb at' many hm hq hs
 exact⟨xs,h1,h2,by simp [zc5,Ev.d,e,upEv,Ev.ok]⟩
theorem zu6 (ns:List Int) (hb:∀n∈ns,n.natAbs<bndS) (k:Nat) (r:Th):∃v:Int,v.natAbs<bndS∧(dT1 (zc5 za8) (za2 (dVar 0) (za2 (dC (.int (k:Int))) dNil))) (.val (.lst (ns.map D.int))::r)=some (.cl (.int v)):=by
 obtain⟨v,h,e⟩:=zp8 ns hb k
 exact⟨v,h,(zaa5 (ra:=.cl (.lst (ns.map D.int))) (rb:=.cl (.int (k:Int))) rfl rfl).trans e⟩
theorem turn_Nx {ps:List Int}{P:List Int}{V:Int→Int}{T:List Int}{a:Nat} (ha:a<ps.length) (hd:DI (ps.length:Int) P V (a+1) ps) (hp:P.length<9000) (ht:T.length<9000):bdNx [.val (.lst (ps.map D.int)),.dp (dV P V),.own (T.map D.int),.val (.int (a:Int))]=some (.nx [.val (.lst (ps.map D.int)),.dp (dV (adP P (ps.getD a 0)) (upV V (ps.getD a 0) (a:Int))),.own ((T++[ltr (ps.length:Int) (a+1) (ps.drop (a+1)) (ps.getD a 0)]).map D.int),.val (.int (a:Int))]):=by
 let t:Th:=[.val (.lst (ps.map D.int)),.dp (dV P V),.own (T.map D.int),.val (.int (a:Int))]
 have ix:∀s1 s2,(d2 kIx (dVar 0) (dVar 3)) [.val (.lst (ps.map D.int)),s1,s2,.val (.int (a:Int))]=some (.cl (.int (ps.getD a 0))):=fun s1 s2=>zaq5 (r1:=.cl (.lst (ps.map D.int))) (r2:=.cl (.int (a:Int))) ps a rfl rfl ha rfl rfl
 have e1:=dg2V_of (t:=t) (fa:=dVar 1) (ra:=.tm (dV P V)) rfl rfl (ix _ _) rfl (zo3 (xs:=ps) (f:=dVar 0) (t:=t) (r:=.cl (.lst (ps.map D.int))) rfl rfl) rfl
 rw [hd]at e1
 have E1:=zq0 t (i:=2) (xs:=T) e1 rfl (by lia)
 have E2:=zt9 (t:=[.val (.lst (ps.map D.int)),.dp (dV P V),.own ((T++[ltr (ps.length:Int) (a+1) (ps.drop (a+1)) (ps.getD a 0)]).map D.int),.val (.int (a:Int))]) (i:=1) (fv:=dVar 3) (v:=(a:Int)) rfl rfl (ix _ _) rfl rfl (by lia)
 exact (zb5 E1).trans E2
theorem next_is (ps:List Int) (hn:ps.length≤900):ze5 [.lst (ps.map D.int)]=some (.nw ((nxs (ps.length:Int) 0 ps).map D.int)):=by
 have E1:dAsg 1 zy7 [.val (.lst (ps.map D.int)),.no,.no,.no]=some (.nx [.val (.lst (ps.map D.int)),.dp (dV [] fun _=>0),.no,.no]):=rfl
 have E2:dAsg 2 (dT1 kLst dNil) [.val (.lst (ps.map D.int)),.dp (dV [] fun _=>0),.no,.no]=some (.nx [.val (.lst (ps.map D.int)),.dp (dV [] fun _=>0),.own (([]:List Int).map D.int),.no]):=rfl
 obtain⟨t',e3,P,V,T,u,hd,hp,ht,rfl⟩:=for_I0 (k:=za9 3) (b:=bdNx) (n:=ps.length) (f:=fun j=>D.int ((ps.length:Int) - 1 - (j:Int))) (P:=fun j t => ∃P V T u,DI (ps.length:Int) P V (ps.length - j) ps∧P.length≤j∧T=(nxs (ps.length:Int) (ps.length - j) (ps.drop (ps.length - j))).reverse∧t=[.val (.lst (ps.map D.int)),.dp (dV P V),.own (T.map D.int),u]) (fun j hj t ⟨P,V,T,u,hd,hp,ht,et⟩=>by
  subst et
  obtain⟨a,ha,ea⟩:∃a:Nat,ps.length - j=a+1∧(ps.length:Int) - 1 - (j:Int)=(a:Int):=⟨ps.length - j - 1,by lia,by lia⟩
  have ea2:ps.length - (j+1)=a:=by lia
  rw [ha]at hd ht
  rw [ea,ea2]
  have al:a<ps.length:=by lia
  have tl:T.length<9000:=by rw [ht,zbk4,zao5,zbg1];lia
  have e:=turn_Nx al hd (by lia) tl
  refine⟨_,_,rfl,e,_,_,_,_,DI_step hd al,zaz5 (adP_len _ _) (by lia),?_,rfl⟩
  rw [nxs_app _ al,zbe0,ht]) [.val (.lst (ps.map D.int)),.dp (dV [] fun _=>0),.own (([]:List Int).map D.int),.no] ⟨[],fun _=>0,[],.no,DI_nil _ _,zba1 _,by simp [nxs],rfl⟩
 rw [Nat.sub_self]at ht
 have E3:zaj6 (za9 3) (za2 (d2 qS (dT1 kLen (za2 (dVar 0) dNil)) (dC (.int 1))) (za2 (d1 kNeg (dC (.int 1))) (za2 (d1 kNeg (dC (.int 1))) dNil))) bdNx [.val (.lst (ps.map D.int)),.dp (dV [] fun _=>0),.own (([]:List Int).map D.int),.no]=some (.nx [.val (.lst (ps.map D.int)),.dp (dV P V),.own (T.map D.int),u]):=by
  unfold zaj6 in3
  have w1:=sub_of (zo3 (xs:=ps) (f:=dVar 0) (t:=[.val (.lst (ps.map D.int)),.dp (dV [] fun _=>0),.own (([]:List Int).map D.int),.no]) (r:=.cl (.lst (ps.map D.int))) rfl rfl) (rfl:dC (.int 1) _=some (.cl (.int 1)))
  rw [cns w1 (cns (zao9 (a:=1) rfl) (cns (zao9 (a:=1) rfl) rfl))]
  show (if zk4 ((ps.length:Int) - 1) (-1) (-1)=true then some ((ps.length:Int) - 1,(-1:Int),(-1:Int)) else none).bind (fun q=>forD (za9 3) bdNx (rng3 q.1 q.2.1 q.2.2) _)=_
  rw [if_pos (rev_ok (by lia)),zav9,rev_is]
  exact e3
 have E4:(dRet (d1 kRev (dVar 2))) [.val (.lst (ps.map D.int)),.dp (dV P V),.own (T.map D.int),u]=some (.rt (.nw ((nxs (ps.length:Int) 0 ps).map D.int))):=by
  refine zae2 ?_
  show kRev (.tm (.lst (T.map D.int)))=_
  unfold kRev
  show (if (false||flats (T.map D.int))=true then some (Ev.nw (T.map D.int).reverse) else none)=_
  rw [flats_ints]
  rw [if_pos (by rfl), ← List.map_reverse,ht,List.reverse_reverse]
  rfl
 show (dSeq _ (dSeq _ (dSeq (zaj6 _ _ bdNx) _)) [.val (.lst (ps.map D.int)),.no,.no,.no]).bind zh9=_
 exact bnd ((zb5 E1).trans ((zb5 E2).trans ((zb5 E3).trans E4)))
theorem feF_is {P:List Int}{V:Int→Int}{p:Int} (hp:p∈P):feF [.val (.int p),.val (dV P V)]=some (.cl (.tup [.int (-V p),.int p])):=by
 unfold feF
 exact (zaa5 (zao9 (dgetV_of (fa:=dVar 1) (fb:=dVar 0) (t:=[.val (.int p),.val (dV P V)]) (ra:=.cl (dV P V)) rfl rfl (rb:=.cl (.int p)) rfl rfl hp)) (rfl:dVar 0 [.val (.int p),.val (dV P V)]=some (.cl (.int p)))).trans rfl
theorem best_F {P:List Int}{V:Int→Int}:∀(l:List Int) (b:Int),b∈P→(∀x∈l,x∈P)→zj9 false feF [dV P V] (.int b) (.tup [.int (-V b),.int b]) (l.map D.int)=some (.int (frt V b l))
 |[],b,_,_=>rfl
 |x::l,b,hb,h=>by
  have hx:=h x (zaw0 ..)
  have e:=feF_is (V:=V) hx
  have ih:=fun b hb=>best_F (P:=P) (V:=V) l b hb fun y hy=>h y (zav8 _ hy)
  have c:cmpD false (.tup [.int (-V x),.int x]) (.tup [.int (-V b),.int b])=some (decide (V b<V x∨(V x=V b∧x<b))):=by
   show some (lexI false [-V x,x] [-V b,b])=_
   unfold lexI lexI lexI
   unfold cmpI
   by_cases h1 : -V x = -V b
   ·have:V x=V b:=by lia
    rw [if_pos (decide_eq_true h1)]
    by_cases h2:x=b
    ·subst h2;simp
    ·rw [if_neg (by simpa using h2)]
     simp [this]
   ·rw [if_neg (by simpa using h1)]
    have:V x≠V b:=by lia
    simp only [zaz3,if_false]
    congr 1
    exact decide_eq_decide.mpr (by lia)
  show zj9 false feF [dV P V] (.int b) (.tup [.int (-V b),.int b]) (D.int x::l.map D.int)=_
  unfold zj9
  show ((feF [.val (.int x),.val (dV P V)]).bind fun r=>if flat r.d=true then (cmpD false r.d (.tup [.int (-V b),.int b])).bind fun c=>if c=true then zj9 false feF [dV P V] (.int x) r.d (l.map D.int) else zj9 false feF [dV P V] (.int b) (.tup [.int (-V b),.int b]) (l.map D.int) else none)=_
  rw [e,zav9]
  show (if flat (.tup [.int (-V x),.int x])=true then (cmpD false (.tup [.int (-V x),.int x]) (.tup [.int (-V b),.int b])).bind _ else none)=_
  rw [if_pos (by rfl:flat (.tup [.int (-V x),.int x])=true),c,zav9]
  unfold frt
  by_cases z:V b<V x∨(V x=V b∧x<b)
  ·rw [if_pos (decide_eq_true z),if_pos z]
   exact ih x hx
  ·rw [if_neg (by simpa using z),if_neg z]
   exact ih b hb
theorem zab9 {P:List Int}{V:Int→Int} (hP:P≠[]):zc6 [dV P V]=some (.cl (.int (farP V P))):=by
 cases P with
 |nil=>exact absurd rfl hP
 |cons b l =>
  refine bnd (g:=zf6 [.val (dV (b::l) V)]) (zae2 ?_)
  show dKey false [0] (dT1 zq9 (za2 (dVar 0) dNil)) feF [.val (dV (b::l) V)]=_
  unfold dKey
  rw [listV_of (f:=dVar 0) (t:=[.val (dV (b::l) V)]) (r:=.cl (dV (b::l) V)) rfl rfl,zav9]
  show (if (ze9 (D.int b::l.map D.int)).isSome=true then (feF [.val (.int b),.val (dV (b::l) V)]).bind fun k=>if flat k.d=true then (zj9 false feF [dV (b::l) V] (.int b) k.d (l.map D.int)).map Ev.cl else none else none)=_
  have i:(ze9 (D.int b::l.map D.int)).isSome=true:=by
   have:=zf5 (b::l)
   rw [zax1]at this
   rw [this];rfl
  rw [if_pos i,feF_is (zaw0 ..),zav9]
  show (if flat (.tup [.int (-V b),.int b])=true then (zj9 false feF [dV (b::l) V] (.int b) (.tup [.int (-V b),.int b]) (l.map D.int)).map Ev.cl else none)=_
  rw [if_pos (by rfl:flat (.tup [.int (-V b),.int b])=true),best_F l b (zaw0 ..) fun x hx=>zav8 _ hx]
  rfl
theorem turn_A (s1:Sl) {room:Nat} (r0:0<room) (hr:room≤1000) {K:List Int} (nd:K.Nodup) (hl:K.length≤room) {V W:Int→Int}{M:List Int} (hm:M.length<9000) (i:Nat) (x:Int) (hV:∀q∈K,q≠x→V q=W q):∃u,bdA [.val (.int (room:Int)),s1,.dp (dV K V),.own (M.map D.int),.val (.int (i:Int)),.val (.int x),.val (.int (W x))]=some (.nx [.val (.int (room:Int)),s1,.dp (dV (stA W room K x) W),.own ((M++(if x∈K then [] else [(i:Int)])).map D.int),.val (.int (i:Int)),.val (.int x),u]):=by
 let t:Th:=[.val (.int (room:Int)),s1,.dp (dV K V),.own (M.map D.int),.val (.int (i:Int)),.val (.int x),.val (.int (W x))]
 have c1:=zao8 (t:=t) (f1:=dVar 5) (f2:=dVar 2) (r2:=.tm (dV K V)) (p:=x) rfl rfl rfl
 refine⟨.val (.int (W x)),?_⟩
 by_cases hx:x∈K
 ·rw [decide_eq_true hx]at c1
  have E1:=grd (g:=(dSeq (dApp 3 (dVar 4)) (dIfS (dBo (d2 kEq (dT1 zt5 (za2 (dVar 2) dNil)) (dVar 0))) (zac6 2 (dT1 (zc5 zc6) (za2 (dVar 2) dNil))) zg5))) c1 rfl
  have E2:=zt9 (t:=t) (i:=2) (fk:=dVar 5) (fv:=dVar 6) (P:=K) (V:=V) (p:=x) (v:=W x) rfl rfl rfl rfl rfl (by lia)
  refine ((zb5 E1).trans E2).trans ?_
  have e:dV (adP K x) (upV V x (W x))=dV (stA W room K x) W:=by
   unfold adP stA
   rw [if_pos hx,if_pos hx]
   exact zu1 fun q hq=>by
    unfold upV
    by_cases z:q=x
    ·rw [if_pos z,z]
    ·rw [if_neg z];exact hV q hq z
  rw [e,if_pos hx,zbc3]
  rfl
 ·rw [decide_eq_false hx]at c1
  have hVW:∀q∈K,V q=W q:=fun q hq=>hV q hq fun z=>hx (z ▸ hq)
  rw [zu1 hVW]
  let t:Th:=[.val (.int (room:Int)),s1,.dp (dV K W),.own (M.map D.int),.val (.int (i:Int)),.val (.int x),.val (.int (W x))]
  have c1:=zao8 (t:=t) (f1:=dVar 5) (f2:=dVar 2) (r2:=.tm (dV K W)) (p:=x) rfl rfl rfl
  rw [decide_eq_false hx]at c1
  have A1:=zq0 t (f:=dVar 4) (i:=3) (p:=(i:Int)) (xs:=M) rfl rfl (by lia)
  let t1:Th:=[.val (.int (room:Int)),s1,.dp (dV K W),.own ((M++[(i:Int)]).map D.int),.val (.int (i:Int)),.val (.int x),.val (.int (W x))]
  have c2:=zar8 (lenV_of (f:=dVar 2) (t:=t1) (r:=.tm (dV K W)) rfl rfl) (rfl:dVar 0 t1=some (.cl (.int (room:Int))))
  obtain⟨K',hK',e2⟩:∃K',K'=(if K.length=room then K.filter fun q=>decide (q≠farP W K) else K)∧(dIfS (dBo (d2 kEq (dT1 zt5 (za2 (dVar 2) dNil)) (dVar 0))) (zac6 2 (dT1 (zc5 zc6) (za2 (dVar 2) dNil))) zg5) t1=some (.nx [.val (.int (room:Int)),s1,.dp (dV K' W),.own ((M++[(i:Int)]).map D.int),.val (.int (i:Int)),.val (.int x),.val (.int (W x))]):=by
   by_cases z:K.length=room
   ·rw [if_pos z]
    have hne:K≠[]:=fun y=>by rw [y]at z;simp at z;lia
    refine⟨_,rfl,(zaj3 c2 (decide_eq_true (by lia))).trans ?_⟩
    have cf:(dT1 (zc5 zc6) (za2 (dVar 2) dNil)) t1=some (.cl (.int (farP W K))):=(zl6 (rfl:dVar 2 t1=some (.tm (dV K W)))).trans (callc (zab9 hne) rfl)
    exact ddelV_of (t:=t1) (i:=2) cf rfl rfl (zt8 hne).1
   ·rw [if_neg z]
    exact⟨_,rfl,grd c2 (decide_eq_false (by lia))⟩
  have E1:=(zaj3 (g2:=zg5) c1 rfl).trans ((zb5 A1).trans e2)
  have hK'l:K'.length≤room:=by
   rw [hK'];split
   ·exact zaz5 (zbc0 _ _) hl
   ·exact hl
  have nx:x∉K':=by
   rw [hK'];split
   ·exact fun z=>hx (zaz2.mp z).1
   ·exact hx
  have E2:=zt9 (t:=[.val (.int (room:Int)),s1,.dp (dV K' W),.own ((M++[(i:Int)]).map D.int),.val (.int (i:Int)),.val (.int x),.val (.int (W x))]) (i:=2) (fk:=dVar 5) (fv:=dVar 6) (P:=K') (V:=W) (p:=x) (v:=W x) rfl rfl rfl rfl rfl (by lia)
  refine ((zb5 E1).trans E2).trans ?_
  have e:dV (adP K' x) (upV W x (W x))=dV (stA W room K x) W:=by
   have:adP K' x=stA W room K x:=by
    unfold adP stA
    rw [if_neg nx,if_neg hx,hK']
   rw [this]
   exact zu1 fun q hq=>by
    unfold upV
    by_cases z:q=x
    ·rw [if_pos z,z]
    ·rw [if_neg z]
  rw [e,if_neg hx]
  rfl
theorem loop_A (s1:Sl) {n:Int}{room:Nat} (r0:0<room) (hr:room≤1000):∀(ps:List Int) (i:Nat) (K M:List Int) (V:Int→Int) (s4 s5 s6:Sl),K.Nodup→K.length≤room→M.length+ps.length<9000→(∀q∈K,V q=ltr n i ps q)→∃K' V' u4 u5 u6,forD ktA bdA (zh3 i (zipD (ps.map D.int) ((nxs n i ps).map D.int))) [.val (.int (room:Int)),s1,.dp (dV K V),.own (M.map D.int),s4,s5,s6]=some (.nx [.val (.int (room:Int)),s1,.dp (dV K' V'),.own ((M++runA n room ps i K).map D.int),u4,u5,u6])
 |[],i,K,M,V,s4,s5,s6,_,_,_,_=>⟨K,V,s4,s5,s6,by simp [nxs,zipD,zh3,runA,forD]⟩
 |x::ps,i,K,M,V,s4,s5,s6,nd,hl,hm,hV=>by
  rw [zax6]at hm
  obtain⟨u,e⟩:=turn_A s1 r0 hr nd hl (V:=V) (W:=ltr n (i+1) ps) (M:=M) (by lia) i x (fun q hq z=>by rw [hV q hq,ltr_ne z])
  obtain⟨nd',hl'⟩:=zv5 (v:=ltr n (i+1) ps) (x:=x) r0 nd hl
  obtain⟨K',V',u4,u5,u6,e2⟩:=loop_A s1 (n:=n) r0 hr ps (i+1) (stA (ltr n (i+1) ps) room K x) (M++(if x∈K then [] else [(i:Int)])) (ltr n (i+1) ps) (.val (.int (i:Int))) (.val (.int x)) u nd' hl' (by rw [zax7];split<;>simp<;>lia) (fun _ _=>rfl)
  refine⟨K',V',u4,u5,u6,?_⟩
  have k0:ktA (.tup [.int (i:Int),.tup [.int x,.int (ltr n (i+1) ps x)]]) [.val (.int (room:Int)),s1,.dp (dV K V),.own (M.map D.int),s4,s5,s6]=some [.val (.int (room:Int)),s1,.dp (dV K V),.own (M.map D.int),.val (.int (i:Int)),.val (.int x),.val (.int (ltr n (i+1) ps x))]:=rfl
  show forD ktA bdA (D.tup [.int (i:Int),.tup [.int x,.int (ltr n (i+1) ps x)]]::zh3 (i+1) (zipD (ps.map D.int) ((nxs n (i+1) ps).map D.int))) _=_
  simp only [forD,k0,e,zav9]
  rw [e2]
  simp only [runA,zbb8]
theorem ahead_is {room:Nat} (r0:0<room) (hr:room≤1000) (ps:List Int) (hp:ps.length≤900):zd1 [.int (room:Int),.lst (ps.map D.int)]=some (.nw ((runA (ps.length:Int) room ps 0 []).map D.int)):=by
 have E1:dAsg 2 zy7 [.val (.int (room:Int)),.val (.lst (ps.map D.int)),.no,.no,.no,.no,.no]=some (.nx [.val (.int (room:Int)),.val (.lst (ps.map D.int)),.dp (dV [] fun _=>0),.no,.no,.no,.no]):=rfl
 have E2:dAsg 3 (dT1 kLst dNil) [.val (.int (room:Int)),.val (.lst (ps.map D.int)),.dp (dV [] fun _=>0),.no,.no,.no,.no]=some (.nx [.val (.int (room:Int)),.val (.lst (ps.map D.int)),.dp (dV [] fun _=>0),.own (([]:List Int).map D.int),.no,.no,.no]):=rfl
 let t2:Th:=[.val (.int (room:Int)),.val (.lst (ps.map D.int)),.dp (dV [] fun _=>0),.own (([]:List Int).map D.int),.no,.no,.no]
 obtain⟨K',V',u4,u5,u6,e3⟩:=loop_A (.val (.lst (ps.map D.int))) (n:=(ps.length:Int)) r0 hr ps 0 [] [] (fun _=>0) .no .no .no zay7 (zba1 _) (by simp;lia) (fun q hq=>by cases hq)
 have c:(dT1 (zc5 ze5) (za2 (dVar 1) dNil)) t2=some (.nw ((nxs (ps.length:Int) 0 ps).map D.int)):=(zl6 (rfl:dVar 1 t2=some (.cl (.lst (ps.map D.int))))).trans (calln (next_is ps hp))
 have E3:zr1 ktA (dVar 1) (dT1 (zc5 ze5) (za2 (dVar 1) dNil)) bdA t2=some (.nx [.val (.int (room:Int)),.val (.lst (ps.map D.int)),.dp (dV K' V'),.own (([]++runA (ps.length:Int) room ps 0 []).map D.int),u4,u5,u6]):=by
  unfold zr1
  rw [c]
  exact e3
 rw [zbd5]at E3
 show (dSeq _ (dSeq _ (dSeq (zr1 ktA _ _ bdA) _)) [.val (.int (room:Int)),.val (.lst (ps.map D.int)),.no,.no,.no,.no,.no]).bind zh9=_
 refine bnd ((zb5 E1).trans ((zb5 E2).trans ((zb5 E3).trans ?_)))
 rfl
theorem zak0 {room:Nat} (r0:0<room) (hr:room≤1000) (ps:List Int) (hp:ps.length≤900) {r1 r2:Ev} (h1:r1.d=.int (room:Int)) (h2:r2.d=.lst (ps.map D.int)):zc5 zd1 [r1,r2]=some (.nw ((runA (ps.length:Int) room ps 0 []).map D.int)) :=
 calln (by simp only [zax1,zbe2,h1,h2];exact ahead_is r0 hr ps hp)
theorem stK_len {room:Nat} (h0:0<room) {K:List Int} (h:K.length≤room) (p:Int):(stK room K p).length≤room:=by
 unfold stK
 rw [zax7]
 split
 ·rename_i hp
  rw [zbb0 hp]
  have:=zbb9 hp
  simp;lia
 ·split
  ·rw [zbg1];simp;lia
  ·simp;lia
theorem zak8 {K M:List Int}{i:Nat}{p:Int}:(stM K M i p).length≤M.length+1:=by
 unfold stM;split<;>simp
theorem turn_P (s1:Sl) {room:Nat} (h0:0<room) {K M:List Int} (hK:K.length≤room) (hr:room≤20) (hM:M.length<1000) (i:Nat) (p:Int) :
  zak2 [.val (.int (room:Int)),s1,.own (K.map D.int),.own (M.map D.int),.val (.int (i:Int)),.val (.int p)]=some (.nx [.val (.int (room:Int)),s1,.own ((stK room K p).map D.int),.own ((stM K M i p).map D.int),.val (.int (i:Int)),.val (.int p)]):=by
 have c1:dBo (d2 kIn (dVar 5) (dVar 2)) [.val (.int (room:Int)),s1,.own (K.map D.int),.own (M.map D.int),.val (.int (i:Int)),.val (.int p)]=some (decide (p∈K)):=bo_in (r1:=.cl (.int p)) (r2:=.tm (.lst (K.map D.int))) p K rfl rfl rfl rfl
 have last:∀K1 M1:List Int,K1.length<1000→(dSeq (dApp 2 (dVar 5))
  (dIfS (dBo (d2 qG (dT1 kLen (za2 (dVar 2) dNil)) (dVar 0))) (dDel 2 (dC (.int 0))) zg5)) [.val (.int (room:Int)),s1,.own (K1.map D.int),.own (M1.map D.int),.val (.int (i:Int)),.val (.int p)]=some (.nx [.val (.int (room:Int)),s1,.own ((if room<K1.length+1 then (K1++[p]).drop 1 else K1++[p]).map D.int),.own (M1.map D.int),.val (.int (i:Int)),.val (.int p)]):=fun K1 M1 h1=>by
  have a1:=zq0 [.val (.int (room:Int)),s1,.own (K1.map D.int),.own (M1.map D.int),.val (.int (i:Int)),.val (.int p)] (f:=dVar 5) (i:=2) (p:=p) rfl rfl (xs:=K1) (by lia)
  refine (zb5 a1).trans ?_
  have c2:(dBo (d2 qG (dT1 kLen (za2 (dVar 2) dNil)) (dVar 0))) [.val (.int (room:Int)),s1,.own ((K1++[p]).map D.int),.own (M1.map D.int),.val (.int (i:Int)),.val (.int p)]=some (decide (room<K1.length+1)):=by
   show some (decide ((room:Int)<(((K1++[p]).map D.int).length:Int)))=_
   congr 1
   apply decide_eq_decide.mpr
   simp
   lia
  refine (zx9 c2).trans ?_
  by_cases hc:room<K1.length+1
  ·rw [decide_eq_true hc,if_pos rfl,if_pos hc]
   cases hx:K1++[p] with
   |nil=>simp at hx
   |cons x xs =>
    refine (del0_of (x:=.int x) (xs:=xs.map D.int) rfl).trans ?_
    rfl
  ·rw [decide_eq_false hc,if_neg (by decide),if_neg hc]
   rfl
 unfold zak2
 by_cases hp:p∈K
 ·have b1:(dIfS (dBo (d2 kIn (dVar 5) (dVar 2))) (dRem 2 (dVar 5)) (dApp 3 (dVar 4))) [.val (.int (room:Int)),s1,.own (K.map D.int),.own (M.map D.int),.val (.int (i:Int)),.val (.int p)]=some (.nx [.val (.int (room:Int)),s1,.own ((K.erase p).map D.int),.own (M.map D.int),.val (.int (i:Int)),.val (.int p)]):=by
   rw [zx9 c1,decide_eq_true hp,if_pos rfl]
   exact rem_of (r:=.cl (.int p)) rfl rfl rfl hp
  refine (zb5 b1).trans ?_
  have hl:=zbb0 hp
  have hl2:=zbb9 hp
  refine (last (K.erase p) M (by lia)).trans ?_
  rw [if_neg (by lia)]
  unfold stK stM
  rw [if_pos hp,if_pos hp]
 ·have b1:(dIfS (dBo (d2 kIn (dVar 5) (dVar 2))) (dRem 2 (dVar 5)) (dApp 3 (dVar 4))) [.val (.int (room:Int)),s1,.own (K.map D.int),.own (M.map D.int),.val (.int (i:Int)),.val (.int p)]=some (.nx [.val (.int (room:Int)),s1,.own (K.map D.int),.own ((M++[(i:Int)]).map D.int),.val (.int (i:Int)),.val (.int p)]):=by
   rw [zx9 c1,decide_eq_false hp,if_neg (by decide)]
   exact zq0 _ rfl rfl (by lia)
  refine (zb5 b1).trans ?_
  refine (last K (M++[(i:Int)]) (by lia)).trans ?_
  unfold stK stM
  rw [if_neg hp,if_neg hp]
  by_cases hc:K.length=room
  ·rw [if_pos (by lia),if_pos hc]
   have:(K++[p]).drop 1=K.drop 1++[p]:=by
    cases K with
    |nil=>simp at hc;lia
    |cons x xs=>rfl
   rw [this]
  ·rw [if_neg (by lia),if_neg hc]
theorem loop_P (s1:Sl) {room:Nat} (h0:0<room) (hr:room≤20):∀(ps:List Int) (i:Nat) (K M:List Int) (s4 s5:Sl),K.length≤room→M.length+ps.length<1000→∃K' u4 u5,forD ktE zak2 (zh3 i (ps.map D.int)) [.val (.int (room:Int)),s1,.own (K.map D.int),.own (M.map D.int),s4,s5]=some (.nx [.val (.int (room:Int)),s1,.own K',.own ((runM room ps i K M).map D.int),u4,u5])
 |[],i,K,M,s4,s5,_,_=>⟨_,s4,s5,rfl⟩
 |p::ps,i,K,M,s4,s5,hK,hM=>by
  have hm:=zak8 (K:=K) (M:=M) (i:=i) (p:=p)
  simp only [zax6]at hM
  obtain⟨K',u4,u5,e'⟩:=loop_P s1 h0 hr ps (i+1) (stK room K p) (stM K M i p) (.val (.int (i:Int))) (.val (.int p)) (stK_len h0 hK p) (by lia)
  refine⟨K',u4,u5,?_⟩
  have e0:ktE (.tup [.int (i:Int),.int p]) [.val (.int (room:Int)),s1,.own (K.map D.int),.own (M.map D.int),s4,s5]=some [.val (.int (room:Int)),s1,.own (K.map D.int),.own (M.map D.int),.val (.int (i:Int)),.val (.int p)]:=rfl
  have e1:=turn_P s1 h0 hK hr (M:=M) (by lia) i p
  simp only [zax1,zh3,forD,e0,zav9,e1]
  exact e'
theorem zap3 {room:Nat} (h0:0<room) (hr:room≤20) (ps:List Int) (hp:ps.length<1000):zl4 [.int (room:Int),.lst (ps.map D.int)]=some (.nw ((runM room ps 0 [] []).map D.int)):=by
 show (zn4 [.val (.int (room:Int)),.val (.lst (ps.map D.int)),.no,.no,.no,.no]).bind zh9=_
 obtain⟨K',u4,u5,e⟩:=loop_P (.val (.lst (ps.map D.int))) h0 hr ps 0 [] [] .no .no (by simp) (by simpa using hp)
 have e1:(zy8 ktE (dVar 1) zak2) [.val (.int (room:Int)),.val (.lst (ps.map D.int)),.own [],.own [],.no,.no]=_:=e
 have:zn4 [.val (.int (room:Int)),.val (.lst (ps.map D.int)),.no,.no,.no,.no]=some (.rt (.nw ((runM room ps 0 [] []).map D.int))):=by
  show dSeq (zy8 ktE (dVar 1) zak2) (zy6 3) [.val (.int (room:Int)),.val (.lst (ps.map D.int)),.own [],.own [],.no,.no]=_
  rw [zb5 e1]
  rfl
 rw [this];rfl
theorem zae1 (room:Nat):∀(ps:List Int) (i:Nat) (K M:List Int),(runM room ps i K M).length≤M.length+ps.length
 |[],_,_,M=>by simp [runM]
 |p::ps,i,K,M=>by
  have h1:=zae1 room ps (i+1) (stK room K p) (stM K M i p)
  have h2:=zak8 (K:=K) (M:=M) (i:=i) (p:=p)
  simp only [runM,zax6]
  lia
theorem addP_len (P:List Int) (p:Int):(addP P p).length≤P.length+1:=by unfold addP;split<;>simp
def dctP (P:List Int):D:=.dct (P.map Sum.inl) (P.map fun _=>.bl true)
theorem zar1 (p:Int):∀P:List Int,hasK (P.map Sum.inl) (Sum.inl p)=decide (p∈P)
 |[]=>rfl
 |q::P=>by
  have i:=zar1 p P
  unfold hasK at i ⊢
  rw [zax1,zba5,i]
  by_cases h:q=p
  ·subst h;simp
  ·have h' : ¬ (Sum.inl q:Key)=Sum.inl p:=fun z=>h (by injection z)
   have : ¬ p=q:=fun z=>h z.symm
   rw [decide_eq_false h']
   simp [this]
theorem zad4 (p:Int):∀P:List Int,zbg3 (fun (k':Key) d'=>if k'=Sum.inl p then D.bl true else d') (P.map Sum.inl) (P.map fun _=>D.bl true)=P.map fun _=>D.bl true
 |[]=>rfl
 |q::P=>by
  simp only [zax1,zbc9,zad4 p P]
  split<;>rfl
theorem put_P (P:List Int) (p:Int):D.dct (zh1 (P.map Sum.inl) (P.map fun _=>.bl true) (Sum.inl p) (.bl true)).1 (zh1 (P.map Sum.inl) (P.map fun _=>.bl true) (Sum.inl p) (.bl true)).2=dctP (addP P p):=by
 unfold zh1 addP
 rw [zar1]
 by_cases h:p∈P
 ·rw [decide_eq_true h,if_pos rfl,if_pos h]
  show D.dct (P.map Sum.inl) (zbg3 _ _ _)=_
  rw [zad4]
  rfl
 ·rw [decide_eq_false h,if_neg (by decide),if_neg h]
  unfold dctP
  simp
theorem all_sc:∀P:List Int,(P.map fun _=>D.bl true).all scD=true
 |[]=>rfl
 |_::P=>by simp only [zax1,zaz6,all_sc P];rfl
theorem zag9 {t:Th}{i:Nat}{fk fv:DE}{P:List Int}{p:Int} (hv:fv t=some (.cl (.bl true))) (hk:fk t=some (.cl (.int p))) (hi:t[i]?=some (.dp (dctP P))) (hl:P.length<1000):zu3 i fk fv t=some (.nx (t.set i (.dp (dctP (addP P p))))):=by
 unfold zu3
 rw [hv,hk]
 show zab7 t i (.cl (.bl true)) (.cl (.int p))=_
 unfold zab7
 rw [hi]
 show (if (P.map fun _=>D.bl true).all scD&&scD (.bl true)&&decide ((P.map Sum.inl).length<100000) then some (Out.nx (t.set i (.dp (.dct (zh1 (P.map Sum.inl) (P.map fun _=>.bl true) (Sum.inl p) (.bl true)).1 (zh1 (P.map Sum.inl) (P.map fun _=>.bl true) (Sum.inl p) (.bl true)).2)))) else none)=_
 rw [if_pos (by rw [all_sc];simp [scD];lia),put_P]
theorem ninP_of {t:Th}{f1 f2:DE}{P:List Int}{p:Int} (h1:f1 t=some (.cl (.int p))) (h2:f2 t=some (.tm (dctP P))):dBo (d2 (kInD true) f1 f2) t=some (!decide (p∈P)):=by
 unfold dBo
 rw [zj1 h1 h2]
 show (match D.bl (!hasK (P.map Sum.inl) (Sum.inl p)) with
  |.bl b=>some b
  |_=>none)=_
 rw [zar1]
theorem lenP_of {t:Th}{f:DE}{P:List Int} (h:f t=some (.tm (dctP P))):(dT1 zt5 (za2 f dNil)) t=some (.cl (.int (P.length:Int))):=by
 rw [zl6 h]
 show some (Ev.cl (.int ((P.map Sum.inl:List Key).length:Int)))=_
 rw [zay5]
def ktS:D→Th→Option Th:=(zaj4 2 (zj4 (za9 4) (zj4 (za9 5) zar3)))
theorem turn_S2 (s1:Sl) {room:Nat}{P B:List Int} (hP:P.length<900) (hB:B.length<900) (i:Nat) (p:Int) :
  zak1 [.val (.int (room:Int)),s1,.own (B.map D.int),.dp (dctP P),.val (.int (i:Int)),.val (.int p)]=some (.nx [.val (.int (room:Int)),s1,.own ((if i=0∨(p∉P∧P.length=room) then B++[(i:Int)] else B).map D.int),.dp (dctP (if i=0∨(p∉P∧P.length=room) then [p] else addP P p)),.val (.int (i:Int)),.val (.int p)]):=by
 have cc:=or_of2 (zar8 (fa:=dVar 4) (fb:=dC (.int 0)) (a:=(i:Int)) (b:=0) (t:=[.val (.int (room:Int)),s1,.own (B.map D.int),.dp (dctP P),.val (.int (i:Int)),.val (.int p)]) rfl rfl) (and_of2 (ninP_of (f1:=dVar 5) (f2:=dVar 3) (p:=p) (P:=P) rfl rfl) (zar8 (lenP_of (f:=dVar 3) (P:=P) rfl) (fb:=dVar 0) (b:=(room:Int)) rfl))
 unfold zak1
 by_cases h:i=0∨(p∉P∧P.length=room)
 ·simp only [if_pos h]
  have hb:(decide ((i:Int)=0)||(!decide (p∈P)&&decide ((P.length:Int)=(room:Int))))=true:=by
   rcases h with h | ⟨h1,h2⟩
   ·rw [decide_eq_true (by lia)];rfl
   ·rw [decide_eq_false h1,decide_eq_true (show (P.length:Int)=(room:Int) by lia)];simp
  have e1:(dSeq (dApp 2 (dVar 4)) (dAsg 3 zy7)) [.val (.int (room:Int)),s1,.own (B.map D.int),.dp (dctP P),.val (.int (i:Int)),.val (.int p)]=some (.nx [.val (.int (room:Int)),s1,.own ((B++[(i:Int)]).map D.int),.dp (dctP []),.val (.int (i:Int)),.val (.int p)]) :=
   (zb5 (zq0 _ (f:=dVar 4) (i:=2) (p:=(i:Int)) (xs:=B) rfl rfl (by lia))).trans rfl
  refine (zb5 ((zaj3 cc hb).trans e1)).trans ?_
  exact zag9 (P:=[]) (p:=p) rfl rfl rfl (by simp)
 ·simp only [if_neg h]
  have hb:(decide ((i:Int)=0)||(!decide (p∈P)&&decide ((P.length:Int)=(room:Int))))=false:=by
   have h1 : ¬ i=0:=fun z=>h (.inl z)
   rw [decide_eq_false (by lia),zbi5]
   by_cases hp:p∈P
   ·rw [decide_eq_true hp];rfl
   ·rw [decide_eq_false hp,decide_eq_false (fun z=>h (.inr ⟨hp,by lia⟩))];rfl
  refine (zb5 (grd cc hb)).trans ?_
  exact zag9 (P:=P) (p:=p) rfl rfl rfl (by lia)
theorem zab5 (s1:Sl) (room:Nat):∀(ps:List Int) (i:Nat) (P B:List Int) (s4 s5:Sl),P.length+ps.length<850→B.length+ps.length<850→∃u3 u4 u5,forD ktS zak1 (zh3 i (ps.map D.int)) [.val (.int (room:Int)),s1,.own (B.map D.int),.dp (dctP P),s4,s5]=some (.nx [.val (.int (room:Int)),s1,.own ((runS room ps i P B).map D.int),u3,u4,u5])
 |[],i,P,B,s4,s5,_,_=>⟨_,s4,s5,rfl⟩
 |p::ps,i,P,B,s4,s5,hP,hB=>by
  simp only [zax6]at hP hB
  have e0:ktS (.tup [.int (i:Int),.int p]) [.val (.int (room:Int)),s1,.own (B.map D.int),.dp (dctP P),s4,s5]=some [.val (.int (room:Int)),s1,.own (B.map D.int),.dp (dctP P),.val (.int (i:Int)),.val (.int p)]:=rfl
  have e1:=turn_S2 s1 (room:=room) (P:=P) (B:=B) (by lia) (by lia) i p
  have ha:=addP_len P p
  by_cases h:i=0∨(p∉P∧P.length=room)
  ·simp only [if_pos h]at e1
   obtain⟨u3,u4,u5,e'⟩:=zab5 s1 room ps (i+1) [p] (B++[(i:Int)]) (.val (.int (i:Int))) (.val (.int p)) (by simp;lia) (by simp;lia)
   refine⟨u3,u4,u5,?_⟩
   simp only [zax1,zh3,forD,e0,zav9,e1]
   rw [show runS room (p::ps) i P B=runS room ps (i+1) [p] (B++[(i:Int)]) by simp only [runS];rw [if_pos h]]
   exact e'
  ·simp only [if_neg h]at e1
   obtain⟨u3,u4,u5,e'⟩:=zab5 s1 room ps (i+1) (addP P p) B (.val (.int (i:Int))) (.val (.int p)) (by lia) (by lia)
   refine⟨u3,u4,u5,?_⟩
   simp only [zax1,zh3,forD,e0,zav9,e1]
   rw [show runS room (p::ps) i P B=runS room ps (i+1) (addP P p) B by simp only [runS];rw [if_neg h]]
   exact e'
theorem zv3 (room:Nat) (ps:List Int) (hp:ps.length≤500):zf8 [.int (room:Int),.lst (ps.map D.int)]=some (.nw ((runS room ps 0 [] []).map D.int)):=by
 show (zj7 [.val (.int (room:Int)),.val (.lst (ps.map D.int)),.no,.no,.no,.no]).bind zh9=_
 obtain⟨u3,u4,u5,e⟩:=zab5 (.val (.lst (ps.map D.int))) room ps 0 [] [] .no .no (by simp;lia) (by simp;lia)
 have e:(zy8 ktS (dVar 1) zak1) [.val (.int (room:Int)),.val (.lst (ps.map D.int)),.own [],.dp (dctP []),.no,.no]=_:=e
 refine bnd ?_
 show dSeq (zy8 ktS (dVar 1) zak1) (zy6 2) [.val (.int (room:Int)),.val (.lst (ps.map D.int)),.own [],.dp (dctP []),.no,.no]=_
 exact (zb5 e).trans rfl
theorem zs1 (room:Nat):∀(ps:List Int) (i:Nat) (P B:List Int),(runS room ps i P B).length≤B.length+ps.length
 |[],_,_,B=>by simp [runS]
 |p::ps,i,P,B=>by
  simp only [runS,zax6]
  split
  ·have:=zs1 room ps (i+1) [p] (B++[(i:Int)])
   simp at this;lia
  ·have:=zs1 room ps (i+1) (addP P p) B
   lia
theorem zq5 (room:Nat) (ps:List Int) (hp:ps.length≤500) {r1 r2:Ev} (h1:r1.d=.int (room:Int)) (h2:r2.d=.lst (ps.map D.int)):zc5 zf8 [r1,r2]=some (.nw ((runS room ps 0 [] []).map D.int)) :=
 calln (by simp only [zax1,zbe2,h1,h2];exact zv3 room ps hp)
theorem zad1 {room:Nat} (h0:0<room) (hr:room≤20) (ps:List Int) (hp:ps.length<1000) {r1 r2:Ev} (h1:r1.d=.int (room:Int)) (h2:r2.d=.lst (ps.map D.int)):zc5 zl4 [r1,r2]=some (.nw ((runM room ps 0 [] []).map D.int)) :=
 calln (by simp only [zax1,zbe2,h1,h2];exact zap3 h0 hr ps hp)
end KX
set_option maxHeartbeats 1000000
namespace KX
open PySem.Spec L2 DL
theorem zat0 {cap:List Nat}{f:DE}{ft:DT}{t:Th}{r:Ev}{xs:List Int}{p:Int→Bool}{b:Bool}{c:List D} (hf:f t=some r) (hr:r.d=.lst (xs.map D.int)) (hn:xs.length≤50000) (hc:capD t cap=some (b,c)) (he:∀x∈xs,ft (.val (.int x)::c.map Sl.val)=some (p x)) :
  (zl8 1 cap (fsL f) (za9 0) ft (dVar 0)) t=some (.nw ((xs.filter p).map D.int)):=by
 unfold zl8
 have e1:fsL f t=some (r.ok,xs.map D.int):=by
  unfold fsL
  rw [hf]
  simp only [zav9,hr]
 have e2:zd7 (za9 0) ft (dVar 0) (xs.map D.int) (Sl.no::c.map Sl.val)=some ((xs.filter p).map D.int):=zm3 _ _ he
 rw [e1,hc]
 simp only [zav9]
 rw [if_pos (by simpa using hn)]
 show (zd7 (za9 0) ft (dVar 0) (xs.map D.int) (Sl.no::c.map Sl.val)).bind _=_
 rw [e2]
 simp only [zav9,flats_ints,Bool.or_true,if_true]
theorem chLl_of {fa fb fc:DE}{t:Th}{a b c:Int} (h1:fa t=some (.cl (.int a))) (h2:fb t=some (.cl (.int b))) (h3:fc t=some (.cl (.int c))):dCh qE qL fa fb fc t=some (decide (a≤b)&&decide (b<c)):=by
 unfold dCh
 rw [h1,h2,h3]
 show (match D.bl (decide (a≤b)) with
  |.bl true=>some (decide (b<c))
  |.bl false=>some false
  |_=>none)=_
 cases decide (a≤b)<;>rfl
theorem turn_S3 (s0 s2 s4:Sl) {room:Nat}{ps M B:List Int} (hm:M.length≤1000) (hB:B.length≤1000) {k:Nat} (hk:k<B.length) (hc:btw (B.getD k 0) ((B++[(ps.length:Int)]).getD (k+1) 0) M≤room) (s8:Sl) :
  ∃u8,bdS3 [s0,.val (.int (room:Int)),s2,.own (ps.map D.int),s4,.own (B.map D.int),.own (M.map D.int),.val (.int (k:Int)),s8]=some (.nx [s0,.val (.int (room:Int)),s2,.own (ps.map D.int),s4,.own (B.map D.int),.own (M.map D.int),.val (.int (k:Int)),u8]):=by
 let t:Th:=[s0,.val (.int (room:Int)),s2,.own (ps.map D.int),s4,.own (B.map D.int),.own (M.map D.int),.val (.int (k:Int)),s8]
 let e:=(B++[(ps.length:Int)]).getD (k+1) 0
 have l1:(dT1 kLst (za2 (dT1 kLen (za2 (dVar 3) dNil)) dNil)) t=some (.nw ([(ps.length:Int)].map D.int)):=(zl6 (zo3 (xs:=ps) (f:=dVar 3) (t:=t) (r:=.tm (.lst (ps.map D.int))) rfl rfl)).trans rfl
 have l2:=zat7 (fa:=dVar 5) (t:=t) (r1:=.tm (.lst (B.map D.int))) (xs:=B) (ys:=[(ps.length:Int)]) rfl l1 rfl rfl (by simp;lia)
 have l3:=zah5 (fa:=dVar 7) (fb:=dC (.int 1)) (t:=t) (a:=(k:Int)) (b:=1) rfl rfl
 have E1:=zaa0 (i:=8) (zaq5 (B++[(ps.length:Int)]) (k+1) l2 l3 (by simp;lia) rfl (by show D.int ((k:Int)+1)=D.int ((k+1:Nat):Int);rfl)) (by simp [t])
 let t1:Th:=[s0,.val (.int (room:Int)),s2,.own (ps.map D.int),s4,.own (B.map D.int),.own (M.map D.int),.val (.int (k:Int)),.val (.int e)]
 have c:=zat0 (cap:=[8,5,7]) (f:=dVar 6) (t:=t1) (r:=.tm (.lst (M.map D.int))) (xs:=M) (p:=fun a=>decide (B.getD k 0≤a)&&decide (a<e)) (b:=false) (c:=[.int e,.lst (B.map D.int),.int (k:Int)]) (ft:=(dCh qE qL (d2 kIx (dVar 2) (dVar 3)) (dVar 0) (dVar 1))) rfl rfl (by lia) rfl (fun x _=>chLl_of (zaq5 (fa:=dVar 2) (fb:=dVar 3) (t:=[.val (.int x),.val (.int e),.val (.lst (B.map D.int)),.val (.int (k:Int))]) (r1:=.cl (.lst (B.map D.int))) (r2:=.cl (.int (k:Int))) B k rfl rfl hk rfl rfl) rfl rfl)
 have g:=gt_of (zo3 c rfl) (rfl:dVar 1 t1=some (.cl (.int (room:Int))))
 have E2:=grd (g:=dRet (dC (.bl false))) g (decide_eq_false (by
  have:(M.filter fun a=>decide (B.getD k 0≤a)&&decide (a<e)).length≤room:=hc
  lia))
 exact⟨_,(zb5 E1).trans E2⟩
theorem law_true (ns:List Int) (hl:ns.length≤63) (hb:∀n∈ns,n.natAbs<bndS):G_law [.lst (ns.map D.int)]=some (.cl (.bl true)):=by
 let N:Sl:=.val (.lst (ns.map D.int))
 obtain⟨v1,_,c1⟩:=zu6 ns hb 1 [.no,.no,.no,.no,.no,.no,.no,.no]
 obtain⟨room,r0,r3,er⟩:∃r:Nat,0<r∧r≤3∧1+v1.fmod 3=(r:Int):=by
  have h0:0≤v1.fmod 3:=zaz9 _ (by decide)
  have h1:v1.fmod 3<3:=zbb3 _ (by decide)
  exact⟨(1+v1.fmod 3).toNat,by lia,by lia,by lia⟩
 have a1:=zah5 (fa:=dC (.int 1)) (t:=[N,.no,.no,.no,.no,.no,.no,.no,.no]) (a:=1) rfl (zap2 (fb:=dC (.int 3)) (b:=3) c1 rfl (by decide))
 rw [er]at a1
 have E1:=zaa0 (i:=1) a1 (by simp)
 let S1:Sl:=.val (.int (room:Int))
 obtain⟨v3,_,c3⟩:=zu6 ns hb 3 [S1,.no,.no,.no,.no,.no,.no,.no]
 obtain⟨n,n9,en⟩:∃n:Nat,n≤9∧v3.fmod 10=(n:Int):=by
  have h0:0≤v3.fmod 10:=zaz9 _ (by decide)
  have h1:v3.fmod 10<10:=zbb3 _ (by decide)
  exact⟨(v3.fmod 10).toNat,by lia,by lia⟩
 have a2:=zap2 (fb:=dC (.int 10)) (b:=10) c3 rfl (by decide)
 rw [en]at a2
 have E2:=zaa0 (i:=2) a2 (by simp)
 let S2:Sl:=.val (.int (n:Int))
 obtain⟨v2,_,c2⟩:=zu6 ns hb 2 [S1,S2,.no,.no,.no,.no,.no,.no]
 have h0:0≤v2.fmod 4:=zaz9 _ (by decide)
 have h1:v2.fmod 4<4:=zbb3 _ (by decide)
 have a3:=zah5 (fa:=dC (.int 2)) (t:=[N,S1,S2,.no,.no,.no,.no,.no,.no]) (a:=2) rfl (zap2 (fb:=dC (.int 4)) (b:=4) c2 rfl (by decide))
 obtain⟨ps,pl,_,cr⟩:=call_row ns hb 4 n (by lia) (q:=2+v2.fmod 4) (by lia) (sm_of (by lia) (by lia))
 have E3:dAsg 3 (dT1 (zc5 zg7) (za2 (dVar 0) (za2 (dC (.int 4)) (za2 (dVar 2) (za2 (d2 qA (dC (.int 2)) (d2 qR (dT1 (zc5 za8) (za2 (dVar 0) (za2 (dC (.int 2)) dNil))) (dC (.int 4)))) dNil))))) [N,S1,S2,.no,.no,.no,.no,.no,.no]=some (.nx [N,S1,S2,.own (ps.map D.int),.no,.no,.no,.no,.no]):=by
  refine zav1 (i:=3) (xs:=ps.map D.int) ?_ (by simp)
  exact (t4_of (rfl:dVar 0 [N,S1,S2,.no,.no,.no,.no,.no,.no]=some (.cl (.lst (ns.map D.int)))) (rfl:dC (.int 4) _=some (.cl (.int ((4:Nat):Int)))) (rfl:dVar 2 _=some (.cl (.int (n:Int)))) a3).trans cr
 let S3:Sl:=.own (ps.map D.int)
 let M:=runM room ps 0 [] []
 let A:=runA (ps.length:Int) room ps 0 []
 let B:=runS room ps 0 [] []
 have ml:M.length≤400:=by
  have:=zae1 room ps 0 [] []
  simp at this
  show (runM room ps 0 [] []).length≤400
  lia
 have bl:B.length≤400:=by
  have:=zs1 room ps 0 [] []
  simp at this
  show (runS room ps 0 [] []).length≤400
  lia
 have E4:=zaa0 (i:=4) (t:=[N,S1,S2,S3,.no,.no,.no,.no,.no]) ((zaa5 (rfl:dVar 1 _=some (.cl (.int (room:Int)))) (rfl:dVar 3 _=some (.tm (.lst (ps.map D.int))))).trans (zau2 r0 r3 (by lia) rfl rfl)) (by simp)
 let S4:Sl:=.val (.int (A.length:Int))
 have E5:=zav1 (i:=5) (t:=[N,S1,S2,S3,S4,.no,.no,.no,.no]) ((zaa5 (rfl:dVar 1 _=some (.cl (.int (room:Int)))) (rfl:dVar 3 _=some (.tm (.lst (ps.map D.int))))).trans (zq5 room ps (by lia) rfl rfl)) (by simp)
 let S5:Sl:=.own (B.map D.int)
 have E6:=zav1 (i:=6) (t:=[N,S1,S2,S3,S4,S5,.no,.no,.no]) ((zaa5 (rfl:dVar 1 _=some (.cl (.int (room:Int)))) (rfl:dVar 3 _=some (.tm (.lst (ps.map D.int))))).trans (zad1 r0 (by lia) ps (by lia) rfl rfl)) (by simp)
 let S6:Sl:=.own (M.map D.int)
 let t6:Th:=[N,S1,S2,S3,S4,S5,S6,.no,.no]
 have ca:(dT1 (zc5 zd1) (za2 (dVar 1) (za2 (dVar 3) dNil))) t6=some (.nw (A.map D.int)):=(zaa5 (rfl:dVar 1 t6=some (.cl (.int (room:Int)))) (rfl:dVar 3 t6=some (.tm (.lst (ps.map D.int))))).trans (zak0 r0 (by lia) ps (by lia) rfl rfl)
 have E7:=grd (g:=dRet (dC (.bl false))) (neI_of (zo3 ca rfl) (rfl:dVar 4 t6=some (.cl (.int (A.length:Int))))) (by rw [decide_eq_true rfl];rfl)
 have th:=three_le r0 ps
 have th1:B.length≤A.length:=th.1
 have th2:A.length≤M.length:=th.2
 have lB:∀s7 s8,(dT1 kLen (za2 (dVar 5) dNil)) [N,S1,S2,S3,S4,S5,S6,s7,s8]=some (.cl (.int (B.length:Int))):=fun _ _=>zo3 (xs:=B) (f:=dVar 5) (r:=.tm (.lst (B.map D.int))) rfl rfl
 have lM:=zo3 (xs:=M) (f:=dVar 6) (t:=t6) (r:=.tm (.lst (M.map D.int))) rfl rfl
 have E8:=grd (g:=dRet (dC (.bl false))) (or_of2 (gt_of (lB .no .no) (rfl:dVar 4 t6=some (.cl (.int (A.length:Int))))) (lt_of lM (rfl:dVar 4 t6=some (.cl (.int (A.length:Int)))))) (by
  rw [decide_eq_false (by lia),decide_eq_false (by lia)]
  rfl)
 have per:=(zj6 r0 ps 0 [] [] 0 zay7 (zba1 _) (zba1 _) (zaw7 _) (fun _=>rfl) (fun z=>absurd z (zba2 _))).2
 have per:∀k,k<B.length→btw (B.getD k 0) ((B++[(ps.length:Int)]).getD (k+1) 0) M≤room:=fun k hk=>by
  have:=per k hk
  rw [show (((0:Nat):Int)+(ps.length:Int))=(ps.length:Int) by lia]at this
  exact this
 obtain⟨t',e9,u7,u8,rfl⟩:=for_I0 (k:=za9 7) (b:=bdS3) (n:=B.length) (f:=fun j=>D.int (j:Int)) (P:=fun _ t => ∃u7 u8,t=[N,S1,S2,S3,S4,S5,S6,u7,u8]) (fun k hk t ⟨u7,u8,et⟩=>by
  subst et
  obtain⟨v8,e⟩:=turn_S3 N S2 S4 (room:=room) (ps:=ps) (M:=M) (B:=B) (by lia) (by lia) hk (per k hk) u8
  exact⟨_,_,rfl,e,_,v8,rfl⟩) t6 ⟨.no,.no,rfl⟩
 have E9:zu2 (za9 7) (dT1 kLen (za2 (dVar 5) dNil)) bdS3 t6=some (.nx [N,S1,S2,S3,S4,S5,S6,u7,u8]):=by
  rw [rng1_of (n:=B.length) (lB _ _) rfl (by lia)]
  have:(natsI B.length).map D.int=(zaz7 B.length).map fun (j:Nat)=>D.int (j:Int):=by unfold natsI;simp
  rw [this]
  exact e9
 show (dSeq _ (dSeq _ (dSeq _ (dSeq _ (dSeq _ (dSeq _ (dSeq _ (dSeq _ (dSeq (zu2 _ _ bdS3) _)))))))) [N,.no,.no,.no,.no,.no,.no,.no,.no]).bind zh9=_
 refine bnd ?_
 refine (zb5 E1).trans ?_
 refine (zb5 E2).trans ?_
 refine (zb5 E3).trans ?_
 refine (zb5 E4).trans ?_
 refine (zb5 E5).trans ?_
 refine (zb5 E6).trans ?_
 refine (zb5 E7).trans ?_
 refine (zb5 E8).trans ?_
 refine (zb5 E9).trans ?_
 rfl
end KX
set_option maxHeartbeats 4000000
namespace KX
open PySem.Spec L2 DL
def spLaw (K:zav4):Sp:=spD K G_law
theorem all_mk {P:Program}{w:World}{K:zav4}{h:Heap}{mg:Str→Option Value}{fa:Addr} (X:K.In h) (G:h.Ns mainGlobals mg) (hfa:mg "law"=some (.ref fa)) {f0:Addr}{f1:Addr}{f2:Addr}{od2 an2:Option Addr}{sl2:Array (Option Value)}{oc2 kV2 dc2 pm2 cd2 ct2:Value}{f3:Addr}{f4:Addr}{f5:Addr}{f6:Addr}{f7:Addr}{f8:Addr}{f9:Addr}
  (h0:Hv K "misses" zm6 f0)
  (h1:Hv K "next_asks" zh0 f1)
  (a2:zbb4 K mainGlobals "farthest_page"=some (some (.ref f2))) (l2:K.lookup f2=some ⟨oc2,od2,.func (zba8 "farthest_page" "farthest_page" (zf7 zc3) (ze2 zc3) (zb1 zc3) .none kV2 dc2 pm2 an2 cd2 ct2),sl2⟩) (c2:zbg0 K cd2 "farthest_page"=true) (k2:zba4 K (.ref f2)=true)
  (h3:Hv K "misses_ahead" ze6 f3)
  (h4:Hv K "stretches" zg9 f4)
  (h5:Hv K "_law_cell_at" zf1 f5)
  (h6:Hv K "_law_row" zk2 f6)
  (h7:Hv K "_law_behind" zg0 f7)
  (h8:Hv K "_law_best" zi4 f8)
  (h9:Hv K "law" s_law f9)
  (z_abs:zbb4 K mainGlobals "abs"=some none) (z_enumerate:zbb4 K mainGlobals "enumerate"=some none) (z_len:zbb4 K mainGlobals "len"=some none) (z_list:zbb4 K mainGlobals "list"=some none) (z_min:zbb4 K mainGlobals "min"=some none) (z_range:zbb4 K mainGlobals "range"=some none) (z_sorted:zbb4 K mainGlobals "sorted"=some none) (z_tuple:zbb4 K mainGlobals "tuple"=some none) (z_zip:zbb4 K mainGlobals "zip"=some none)  (tk2:tabOk K "farthest_page"=true) :
  TbOk K ["farthest_page"]∧∃fd:FuncData,(∀(s:zaw4) (v:Value),BindsTo s fd ⟨[v],[]⟩ [("_law_script",v)])∧∀base:BHeap,base.tabs=tbOf K ["farthest_page"]→K.In base→base.Ns mainGlobals mg→(∀x∈(["farthest_page"]:List Str),∀c P,zbf8 K x=some (c,P)→zbe8 base c P)→FnOk P w K mg base CX0 6 fa fd ["_law_script"] (spLaw K):=by
 have e:=hfa.symm.trans (h9.mg X G)
 cases e
 have bu:Blt mg:=⟨zba0 X G z_abs,zba0 X G z_enumerate,zba0 X G z_len,zba0 X G z_list,zba0 X G z_min,zba0 X G z_range,zba0 X G z_sorted,zba0 X G z_tuple,zba0 X G z_zip⟩
 obtain⟨_,u0⟩:=h0.fn
 have d0:Df K mg "misses" zm6 ["room", "asks"] f0 _:=⟨u0,h0.mg X G,zz5 u0 fun _ _ _ _ _ _ _ _=>rfl⟩
 obtain⟨_,u1⟩:=h1.fn
 have d1:Df K mg "next_asks" zh0 ["asks"] f1 _:=⟨u1,h1.mg X G,zau4 u1 fun _ _ _ _ _ _ _=>rfl⟩
 have d2:Df K mg "farthest_page" zc3 ["kept"] f2 _:=⟨zar4 (st:=zc3) l2 c2 k2,zbp1 X G a2,zau4 (zar4 (st:=zc3) l2 c2 k2) fun _ _ _ _ _ _ _=>rfl⟩
 obtain⟨_,u3⟩:=h3.fn
 have d3:Df K mg "misses_ahead" ze6 ["room", "asks"] f3 _:=⟨u3,h3.mg X G,zz5 u3 fun _ _ _ _ _ _ _ _=>rfl⟩
 obtain⟨_,u4⟩:=h4.fn
 have d4:Df K mg "stretches" zg9 ["room", "asks"] f4 _:=⟨u4,h4.mg X G,zz5 u4 fun _ _ _ _ _ _ _ _=>rfl⟩
 obtain⟨_,u5⟩:=h5.fn
 have d5:Df K mg "_law_cell_at" zf1 ["_law_script", "_law_k"] f5 _:=⟨u5,h5.mg X G,zz5 u5 fun _ _ _ _ _ _ _ _=>rfl⟩
 obtain⟨_,u6⟩:=h6.fn
 have d6:Df K mg "_law_row" zk2 ["_law_script", "_law_at", "_law_many", "_law_most"] f6 _:=⟨u6,h6.mg X G,binds4 u6 fun _ _ _ _ _ _ _ _ _ _=>rfl⟩
 obtain⟨_,u7⟩:=h7.fn
 have d7:Df K mg "_law_behind" zg0 ["_law_room", "_law_kept", "_law_page"] f7 _:=⟨u7,h7.mg X G,binds3 u7 fun _ _ _ _ _ _ _ _ _=>rfl⟩
 obtain⟨_,u8⟩:=h8.fn
 have d8:Df K mg "_law_best" zi4 ["_law_room", "_law_asks"] f8 _:=⟨u8,h8.mg X G,zz5 u8 fun _ _ _ _ _ _ _ _=>rfl⟩
 obtain⟨_,u9⟩:=h9.fn
 have d9:Df K mg "law" s_law ["_law_script"] fa _:=⟨u9,h9.mg X G,zau4 u9 fun _ _ _ _ _ _ _=>rfl⟩
 obtain⟨tc2,tp2,tb2,tn2⟩:=tabOk_of tk2
 refine⟨tbOk_one tb2 tn2,_,Hv.bt u9 fun _ _ _ _ _ _ _=>rfl,fun base ht _ _ hCd=>?_⟩
 have F_misses:=zao0 (P:=P) (w:=w) (base:=base) d0.fn bu
 have F_next_asks:=zx0 (P:=P) (w:=w) (base:=base) d1.fn bu
 have F_farthest_page:=zm5 (P:=P) (w:=w) (base:=base) d2.fn bu (code_tab tb2 a2 l2) (hCd "farthest_page" (by simp) _ _ tb2) (by rw [ht];exact mem_tbOf (by simp) tb2)
 have F_misses_ahead:=zo1 (P:=P) (w:=w) (base:=base) d3.fn bu (d1.cal F_next_asks) (d2.cal F_farthest_page)
 have F_stretches:=zw9 (P:=P) (w:=w) (base:=base) d4.fn bu
 have F_law_cell_at:=zq4 (P:=P) (w:=w) (base:=base) d5.fn bu
 have F_law_row:=zai6 (P:=P) (w:=w) (base:=base) d6.fn bu (d5.cal F_law_cell_at)
 have F_law_behind:=zt1 (P:=P) (w:=w) (base:=base) d7.fn bu
 have F_law_best:=zab1 (P:=P) (w:=w) (base:=base) d8.fn bu (d7.cal F_law_behind)
 have F_law:=ok_law (P:=P) (w:=w) (base:=base) d9.fn bu (d5.cal F_law_cell_at) (d6.cal F_law_row) (d8.cal F_law_best) (d4.cal F_stretches) (d0.cal F_misses) (d3.cal F_misses_ahead)
 exact F_law
theorem walk {l:zbm9}{q:Program}{loose:List Str}{XP:(Str→Option Value)→Heap→Prop}{YP:World→Heap→Prop}{d:DefRec}{K:Params→zav4} (hn:l.most=some 63) (hdf:d.params.defaults=[])
  (hY:∀(w:World) (h:Heap),YP w h→(K w.params).In h) (hrec:∀x∈(["farthest_page"]:List Str),∃dr,(recsOf q).find? (fun e=>e.name == x)=some dr)
  (Fx:∀(w:World) (mg:Str→Option Value) (fa:Addr) (h:Heap),(K w.params).In h→h.Ns mainGlobals mg→mg d.name=some (.ref fa) →
   TbOk (K w.params) ["farthest_page"]∧∃fd:FuncData,(∀(s:zaw4) (u:Value),BindsTo s fd ⟨[u],[]⟩ [("_law_script",u)])∧∀base:BHeap,base.tabs=tbOf (K w.params) ["farthest_page"]→(K w.params).In base→base.Ns mainGlobals mg→(∀x∈(["farthest_page"]:List Str),∀c P,zbf8 (K w.params) x=some (c,P)→zbe8 base c P)→FnOk l.prog w (K w.params) mg base CX0 6 fa fd ["_law_script"] (spLaw (K w.params))) :
  zbp4 q loose XP YP l.row.toRowW d [] (fun f vs=>PySem.call f vs) :=
 L2.walk_ofT (n:=63) (k:=6) (x := "_law_script") (names:=["farthest_page"]) (CX:=fun _=>CX0) (sp:=fun w=>spLaw (K w.params)) hn (by decide) hdf ⟨rfl,by decide,by decide⟩ hY hrec Fx
  (fun _ H a ns hl hb hS=>⟨[],[.lst (ns.map .int)],.cl (.bl true),fun p hp=>(by cases hp),.cons (.lst (by rw [hide_nil];exact hS) (Reps.ints ns)) .nil,law_true ns hl hb,fun v H' _ q=>by cases q;rfl⟩) fun _ _ _ _ _ z=>z
end KX
open PySem PySem.W PyProof.Rows
set_option maxRecDepth 100000 in
set_option maxHeartbeats 0 in
theorem PySem.Challenge.cw_nearenough_k50_whole_all_ways_holds : PySem.Challenge.rw_nearenough_k50_whole_all_ways.Holds := by
 w_on;o_law;k_head;(case hw=>w_witness2)
 k_fill
 refine KX.walk (l:=PySem.Challenge.rw_nearenough_k50_whole_all_ways) rfl rfl (fun w h Y=>by first | exact PySem.W.kIn_of Y | exact PySem.W.km_in_of Y) (by intro x hx;simp at hx;subst hx;exact⟨_,rfl⟩) ?F
 case F =>
  intro w mg fa h KI G hmg
  refine' KX.all_mk KI G hmg ?h0 ?h1 ?a2 ?l2 ?c2 ?k2 ?h3 ?h4 ?h5 ?h6 ?h7 ?h8 ?h9 ?z_abs ?z_enumerate ?z_len ?z_list ?z_min ?z_range ?z_sorted ?z_tuple ?z_zip ?tk2
  (case tk2=>kernel_rfl)
  (case a2=>k_is);(case l2=>k_is);(case c2=>k_is);(case k2=>k_is)
  all_goals try (refine' DL.Hv.mk ?a ?l ?c ?k;(case a=>k_is);(case l=>k_is);(case c=>k_is);(case k=>k_is))
  all_goals try k_is

