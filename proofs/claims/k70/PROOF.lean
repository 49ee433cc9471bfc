import PyProof.Rows.All
import Wide.All
import OpenK.AllK
import Wide.FinOn
import PyProof.EqAt
import PyProof.EqKinds
import PyProof.NeKinds
import PyProof.TupleCall
import PyProof.EnumFor
import PyProof.EnumMake
import PyProof.CompFree
import PyProof.Rows.SumAny
import PyProof.Rows.Range3
import PyProof.CompUse
import KE.LcSums
import PyProof.ListRange
import PyProof.Rows.MinMaxN
import KE.KIntText
import PyProof.StrCalls2
import PyProof.StrBlockH
import PyProof.Rows.ZipForRows
import PyProof.Rows.SortRev
import KE.KRevSl
import KE.KMinKey
import PyProof.Rows.SetFrom
import PyProof.Rows.SeqMore2
import Lean
import PyProof.WalkInts
import KE.KLam
import KE.KNest
import PyProof.Rows.SortRuns
import KE.KSortKey
import PyProof.Conv_int_bool
import KE.KListMore
import PyProof.DictWalks
import KE.KSortTup
import KE.KDictList
import KE.KRevIter
import PyProof.SetKind
import PyProof.SetScanFacts
import PyProof.DictUpdate
import PyProof.Rows.TupAdd
import PyProof.Rows.SeqMore
import PySem.Challenge.RW_nearenough_k70_trees_and_costs
noncomputable section
open PySem.F renaming plainAttrs_list→zbo3
open Int renaming fmod_nonneg_of_pos→zbh9,fmod_lt_of_pos→zbj6,le_refl→zbm3,toNat_of_nonneg→zbp6,toNat_natCast→zbq5
open Nat renaming lt_of_lt_of_le→zbf0,le_refl→zbf6,ne_of_lt→zbg0,le_trans→zbh3,lt_irrefl→zbi3,lt_succ_self→zbi6,le_add_right→zbk3,lt_succ_of_lt→zbk8,ne_of_gt→zbm4,pow_le_pow_right→zbm8,le_of_lt→zbn7,lt_trans→zbo0,zero_add→zbp1,lt_of_le_of_lt→zbp8,zero_le→zbr4,le_succ→zbr6
open PySem renaming Shared→zbe5,starEach→zbe7,wpAny_bind→zbf2,wpAny_pure→zbg4,backTo→zbl0
open PySem.Heap renaming get?_push_of_some→zbe4,lt_size→zbe6,get?_push_size→zbg5,size_push→zbm2,get?_update_other→zbo7
open Bool renaming and_eq_true→zbe0,false_ne_true→zbf1,eq_iff_iff→zbj3,or_true→zbj5,false_eq_true→zbl3,false_or→zbl6,and_true→zbl7,true_and→zbl9,true_or→zbm7,or_eq_true→zbn4
open Option renaming bind_some→zbd9,map_some→zbj4,isSome_some→zbp7,getD_none→zbq9,getD_some→zbr0
open PySem.W renaming Frag→zbd4,mg_none_of→zbg1,nsIn→zbh5,keepIn→zbh6,fnOf→zbi0,kia_one→zbi5,findIn→zbl1,codeIn→zbn8,methodObj→zbo1,kitx_dict→zbo2,cellsFrom_some→zbo5,instObj→zbo8,lookIn→zbp2,hasDictIn→zbq2,specialIn→zbq3,plainGet→zbq8,OpenLaw→zbr3,CodeHd→zbs5,WalkO→zbt3,tabIn→zbt8
open List renaming mem_append_right→zbd3,mem_append_left→zbd5,mem_cons_of_mem→zbd6,mem_cons_self→zbd7,mem_append→zbd8,getElem?_eq_getElem→zbe1,mem_singleton→zbe2,mem_cons→zbe3,replicate→zbe8,getD_eq_getElem?_getD→zbe9,length_cons→zbf3,map_cons→zbf4,size_toArray→zbf5,length_map→zbf7,length_append→zbf8,nodup_append→zbf9,lookup_cons→zbg2,nodup_cons→zbg3,length_singleton→zbg6,getElem?_eq_some_iff→zbg7,getElem?_append_left→zbg8,drop_eq_getElem_cons→zbg9,filter_cons→zbh0,all_cons→zbh1,getElem?_map→zbh2,zip_cons_cons→zbh4,getElem?_append_right→zbh7,range→zbh8,mem_map→zbi1,length_filter_le→zbi2,append_nil→zbi4,length_eq_zero_iff→zbi7,mem_range→zbi8,any_cons→zbi9,replicate_succ→zbj0,nodup_nil→zbj1,take_of_length_le→zbj2,append_assoc→zbj7,getElem?_replicate→zbj8,getElem?_cons_succ→zbj9,sublist_cons_self→zbk0,drop_length→zbk1,not_mem_nil→zbk2,pairwise_cons→zbk4,length_replicate→zbk5,mem_filter→zbk6,find?_cons→zbk7,sublist_append_right→zbk9,getElem_mem→zbl2,map_map→zbl4,map_append→zbl5,zipWith_cons_cons→zbl8,reverse_cons→zbm0,flatten_cons→zbm1,mem_of_getElem?→zbm5,length_drop→zbm6,all_eq_true→zbm9,filterMap_cons→zbn0,length_reverse→zbn1,foldl_cons→zbn2,length_nil→zbn3,perm_ext_iff_of_nodup→zbn5,mem_filterMap→zbn6,map_nil→zbn9,getElem?_set_self→zbo4,length_take→zbo6,of_mem_zip→zbo9,getElem?_set_ne→zbp0,getElem?_range→zbp3,map_congr_left→zbp4,filter_sublist→zbp5,zip_nil_right→zbq1,length_range→zbq4,zipWith→zbr1,foldl→zbt1
open PySem PyProof.Rows
set_option Elab.async false
set_option linter.all false
set_option maxRecDepth 100000
namespace L2
open PySem.Spec
abbrev Key:=Sum Int Str
def zat1:Key→Value→Bool
 |.inl k,v=>Value.isInt k v
 |.inr x,v=>Value.isStrOf x v
def keyH (w:World):Key→Int
 |.inl k=>hashInt k
 |.inr x=>hashStr w x
theorem zf3:∀ {k:Key}{v:Value},zat1 k v=true→(∃i t,k=Sum.inl i∧v=Value.int i t)∨(∃x t,k=Sum.inr x∧v=Value.str x t)
 |.inl i,v,h=>by
  obtain⟨t,e⟩:=Value.isInt_shape (k:=i) (v:=v) h
  exact .inl ⟨i,t,rfl,e⟩
 |.inr x,v,h=>by
  obtain⟨t,e⟩:=Value.isStrOf_shape (x:=x) (v:=v) h
  exact .inr ⟨x,t,rfl,e⟩
theorem zaz2 (i:Int) (t:Tok):zat1 (.inl i) (.int i t)=true:=by simp [zat1,Value.isInt]
theorem zaz1 (x:Str) (t:Tok):zat1 (.inr x) (.str x t)=true:=by simp [zat1,Value.isStrOf]
theorem key_ll (a b:Int):decide ((Sum.inl a:Key)=Sum.inl b)=(a == b):=by
 by_cases e:a=b
 ·subst e;simp
 ·have h : ¬ (Sum.inl a:Key)=Sum.inl b:=fun q=>e (Sum.inl.inj q)
  rw [decide_eq_false h]
  exact (beq_eq_false_iff_ne.mpr e).symm
theorem key_rr (a b:Str):decide ((Sum.inr a:Key)=Sum.inr b)=decide (a=b):=by
 by_cases e:a=b
 ·subst e;simp
 ·have h : ¬ (Sum.inr a:Key)=Sum.inr b:=fun q=>e (Sum.inr.inj q)
  rw [decide_eq_false h,decide_eq_false e]
theorem key_lr (a:Int) (b:Str):decide ((Sum.inl a:Key)=Sum.inr b)=false:=decide_eq_false (fun q=>nomatch q)
theorem key_rl (a:Str) (b:Int):decide ((Sum.inr a:Key)=Sum.inl b)=false:=decide_eq_false (fun q=>nomatch q)
noncomputable def zh1 (prog:Program) (w:World):PySem.KeyKind prog w Key where
 is:=zat1
 hash:=keyH w
 inj:=fun v a b ha hb=>by
  rcases zf3 ha with ⟨i,t,rfl,rfl⟩ | ⟨x,t,rfl,rfl⟩
  ·rcases zf3 hb with ⟨j,u,rfl,e⟩ | ⟨y,u,rfl,e⟩
   ·injection e with e1 _;rw [e1]
   ·exact nomatch e
  ·rcases zf3 hb with ⟨j,u,rfl,e⟩ | ⟨y,u,rfl,e⟩
   ·exact nomatch e
   ·injection e with e1 _;rw [e1]
 byValue:=fun k v h=>by
  rcases zf3 h with ⟨i,t,rfl,rfl⟩ | ⟨x,t,rfl,rfl⟩<;>rfl
 pyHash:=fun hv h=>by
  rcases zf3 hv with ⟨i,t,rfl,rfl⟩ | ⟨x,t,rfl,rfl⟩
  ·exact wpAny_pyHash_int h
  ·exact wpAny_pyHash_str h
 eqBool:=fun hu hv h=>by
  rcases zf3 hu with ⟨i,t,rfl,rfl⟩ | ⟨x,t,rfl,rfl⟩
  ·rcases zf3 hv with ⟨j,u,rfl,rfl⟩ | ⟨y,u,rfl,rfl⟩
   ·rw [key_ll]at h;exact wpAny_eqBool_int h
   ·rw [key_lr]at h;exact SeqAt.EqAt.int_str i t y u _ _ _ _ h
  ·rcases zf3 hv with ⟨j,u,rfl,rfl⟩ | ⟨y,u,rfl,rfl⟩
   ·rw [key_rl]at h;exact SeqAt.EqAt.str_int x t j u _ _ _ _ h
   ·rw [key_rr]at h;exact wpAny_eqBool_str h
 «strs»:=fun k x t v h=>by
  rcases zf3 h with ⟨i,u,rfl,e⟩ | ⟨y,u,rfl,e⟩
  ·exact nomatch e
  ·injection e with e1 _
   subst e1
   cases v<;>rfl
theorem zal8 (prog:Program) (w:World) (i:Int) (t:Tok):(zh1 prog w).is (.inl i) (.int i t)=true:=zaz2 i t
theorem zal7 (prog:Program) (w:World) (x:Str) (t:Tok):(zh1 prog w).is (.inr x) (.str x t)=true:=zaz1 x t
inductive V where
 |non | bl (b:Bool) |int (i:Int) |str (x:Str) |byt (b:Array UInt8) |flt (b:UInt64) |ref (a:Addr) |ty (n:String)
 deriving DecidableEq
noncomputable def RelV:V→Value→Prop
 |.non,u=>u=Value.none
 |.bl b,u=>u=Value.bool b
 |.int i,u => ∃t,u=Value.int i t
 |.str x,u => ∃t,u=Value.str x t
 |.byt b,u => ∃t,u=Value.bytes b t
 |.flt b,u => ∃t,u=Value.float b t
 |.ref a,u=>u=Value.ref a
 |.ty n,u=>u=Value.type n
abbrev Vals:List V→List Value→Prop:=Paired RelV
theorem Vals.length {xs:List V}{us:List Value} (r:Vals xs us):xs.length=us.length:=Paired.length r
theorem Vals.get:∀ {xs:List V}{us:List Value}{i:Nat}{x:V},Vals xs us→xs[i]?=some x→∃u,us[i]?=some u∧RelV x u
 |_,_,_,_,.nil,e=>by simp at e
 |_,_,0,_,.cons r _,e=>by simp at e;subst e;exact⟨_,rfl,r⟩
 |_,_,i+1,x,.cons _ t,e=>by
  obtain⟨u,h1,h2⟩:=Vals.get (i:=i) (x:=x) t (by simpa using e)
  exact⟨u,by simpa using h1,h2⟩
theorem Vals.set {x:V}{u:Value} (r:RelV x u):∀ {xs:List V}{us:List Value} (i:Nat),Vals xs us→Vals (xs.set i x) (us.set i u)
 |_,_,_,.nil=>.nil
 |_,_,0,.cons _ t=>.cons r t
 |_,_,i+1,.cons q t=>.cons q (Vals.set r i t)
theorem Vals.append:∀ {xs ys:List V}{us ws:List Value},Vals xs us→Vals ys ws→Vals (xs++ys) (us++ws)
 |_,_,_,_,.nil,s=>s
 |_,_,_,_,.cons r t,s=>.cons r (Vals.append t s)
theorem Vals.take:∀ {xs:List V}{us:List Value} (n:Nat),Vals xs us→Vals (xs.take n) (us.take n)
 |_,_,0,_=>.nil
 |_,_,_+1,.nil=>.nil
 |_,_,n+1,.cons r t=>.cons r (Vals.take n t)
theorem Vals.drop:∀ {xs:List V}{us:List Value} (n:Nat),Vals xs us→Vals (xs.drop n) (us.drop n)
 |_,_,0,r=>r
 |_,_,_+1,.nil=>.nil
 |_,_,n+1,.cons _ t=>Vals.drop n t
def RelO:Option V→Option Value→Prop
 |some v,some u=>RelV v u
 |none,none=>True
 |_,_=>False
def KV {κ:Type}:List (κ×V)→List (κ×Value)→Prop:=Paired fun (p:κ×V) (q:κ×Value)=>p.1=q.1∧RelV p.2 q.2
def kV:Key→V
 |.inl i=>.int i
 |.inr x=>.str x
inductive HO where
 /-- a list -/
 |lst (xs:List V)
 /-- a tuple (never changes) -/
 |tup (xs:List V)
 /-- a dict whose keys are ints and texts;one whose keys are tuples of ints and texts (the empty one is both) -/
 |dK (kvs:List (Key×V)) |dT (kvs:List (List Key×V))
 /-- a set of ints: its members,its size -/
 |set (S:Int→Bool) (n:Nat)
 /-- an instance of the class at C,its dict at dx,its attributes -/
 |ins (C dx:Addr) (fs:List (Str×V))
 /-- the dict of the instance at x -/
 |own (x:Addr)
 /-- the dict of an exception -/
 |xd (fs:List (Str×V))
 /-- a bound method,f of x -/
 |met (f x:Addr)
 /-- a range object lo,lo+1,.. below hi -/
 |rng (lo hi:Int)
 /-- a thing that is known to the object (the script;a dict while a loop walks it): read,never written while it is so -/
 |frz (o:Obj) (u:HO)
 /-- a code object's table -/
 |tbl (q:Str)
 /-- any other thing,by what is true of its one object (a def of one's own: SetO a S n:=HO.ext fun h=>..) -/
 |ext (φ:Heap→Prop)
abbrev Hp:=Addr→Option HO
def upd (H:Hp) (a:Addr) (o:HO):Hp:=fun b=>if b=a then some o else H b
theorem zb9 {H:Hp}{a:Addr}{o:HO}:upd H a o a=some o:=by unfold upd;rw [if_pos rfl]
theorem zc8 {H:Hp}{a b:Addr}{o:HO} (h:b≠a):upd H a o b=H b:=by unfold upd;rw [if_neg h]
theorem zj5 {H:Hp}{a b:Addr}{o:HO} (h:H a=some o) (h':H b=none):a≠b:=by
 intro e;subst e;rw [h]at h';cases h'
section
variable (P:Program) (w:World)
noncomputable def ObjOk (H:Hp) (h:Heap) (a:Addr):HO→Prop
 |.lst xs=>xs.length≤sizeLine∧∃(its:List Value) (n:Nat),Vals xs its∧h.get? a=some { cls:=.type "list",data:=.seq its.toArray n }
 |.tup xs=>xs.length≤sizeLine∧∃its:List Value,Vals xs its∧IsTup h a its.toArray
 |.dK kvs=>kvs.length≤sizeLine∧(a == sysModules)=false∧∃vs,KV kvs vs∧h.DictOf (zh1 P w) a vs
 |.dT kvs=>kvs.length≤sizeLine∧(a == sysModules)=false∧∃xs:List (List Key×Addr×Value),
   Paired (fun (p:List Key×V) (q:List Key×Addr×Value)=>p.1=q.1∧H q.2.1=some (.tup (p.1.map kV))∧RelV p.2 q.2.2) kvs xs ∧
   ∃o es ep,h.get? a=some o∧o.ExactDict∧o.data=.dict es ep∧es.toList=xs.map (entryOfKey (tupleKind (zh1 P w)))∧(xs.map (·.1)).Nodup
 |.set S n=>h.SetOf (intKind P w) a S n
 |.ins C dx fs=>H dx=some (.own a)∧fs.length≤1000∧dx≠a∧h.get? a=some (zbo8 C dx) ∧
   ∃mA,h.Ns1 dx mA∧(∀f,RelO (fs.lookup f) (mA f))∧PySem.Within mA (fs.map (·.1))
 |.own _ => ∃o,h.get? a=some o
 |.xd fs => ∃mA,h.Ns1 a mA∧∀f,RelO (fs.lookup f) (mA f)
 |.rng lo hi => ∃t u v,h.get? a=some { cls:=.type "range",data:=.fields #[.int lo t,.int hi u,.int 1 v] }
 |.frz o u=>h.get? a=some o∧ObjOk H h a u
 |.tbl q => ∃ps:Array Value,h.get? a=some { cls:=.none,data:=.fields ps }∧TriplesOk ps.toList∧∀pos cv,codeAmong pos ps.toList=some cv→∃(c:Addr) (oc:Obj) (vs:Array Value) (tk:Tok),cv=.ref c∧H c=some (.frz oc (.own 0))∧oc.data=.fields vs∧vs[1]?=some (.str q tk)
 |.met f x=>h.get? a=some (zbo1 (.ref f) (.ref x))
 |.ext φ=>φ h∧(∃o,h.get? a=some o)∧∀h1 h2:Heap,φ h1→(∀o,h1.get? a=some o→h2.get? a=some o)→φ h2
def HOk (H:Hp) (h:Heap):Prop := ∀a o,H a=some o→ObjOk P w H h a o
end
section
variable {P:Program}{w:World}{H H':Hp}{h h':Heap}{a:Addr}{o:HO}
theorem ObjOk.lt (x:ObjOk P w H h a o):a<h.objs.size:=by
 cases o with
 |lst xs=>obtain⟨_,_,_,_,e⟩:=x;exact zbe6 e
 |tup xs=>obtain⟨_,_,_,p⟩:=x;exact p.lt
 |dK kvs=>obtain⟨_,_,_,_,o,_,_,e,_⟩:=x;exact zbe6 e
 |dT kvs=>obtain⟨_,_,_,_,o,_,_,e,_⟩:=x;exact zbe6 e
 |set S n=>obtain⟨o,_,_,_,e,_⟩:=x;exact zbe6 e
 |ins C dx fs=>obtain⟨_,_,_,e,_⟩:=x;exact zbe6 e
 |own y=>obtain⟨_,e⟩:=x;exact zbe6 e
 |xd fs=>obtain⟨_,⟨_,_,_,e,_⟩,_⟩:=x;exact zbe6 e
 |rng lo hi=>obtain⟨_,_,_,e⟩:=x;exact zbe6 e
 |frz ob u=>obtain⟨e,_⟩:=x;exact zbe6 e
 |tbl q=>obtain⟨_,e,_⟩:=x;exact zbe6 e
 |met f y=>exact zbe6 (show h.get? a=some _ from x)
 |ext φ=>obtain⟨_,⟨_,e⟩,_⟩:=x;exact zbe6 e
theorem Paired.mapP {α β:Type}{F G:α→β→Prop}:∀ {l₁:List α}{l₂:List β},Paired F l₁ l₂→(∀a b,F a b→G a b)→Paired G l₁ l₂
 |_,_,.nil,_=>.nil
 |_,_,.cons r t,f=>.cons (f _ _ r) (Paired.mapP t f)
theorem ObjOk.stay (x:ObjOk P w H h a o) (k:∀b u,(b=a∨H b=some (.own a))→h.get? b=some u→h'.get? b=some u)
  (ho:∀b,H b=some (.own a)→H' b=some (.own a)) (ht:∀b xs,H b=some (.tup xs)→H' b=some (.tup xs)) (hz:∀b o u,H b=some (.frz o u)→H' b=some (.frz o u)):ObjOk P w H' h' a o:=by
 induction o with
 |lst xs=>obtain⟨z,its,n,r,e⟩:=x;exact⟨z,its,n,r,k _ _ (.inl rfl) e⟩
 |tup xs=>obtain⟨z,its,r,ob,e,c⟩:=x;exact⟨z,its,r,ob,k _ _ (.inl rfl) e,c⟩
 |dK kvs=>obtain⟨z,y,vs,r,ob,es,ep,e,c⟩:=x;exact⟨z,y,vs,r,ob,es,ep,k _ _ (.inl rfl) e,c⟩
 |dT kvs =>
  obtain⟨z,y,xs,r,ob,es,ep,e,c⟩:=x
  exact⟨z,y,xs,Paired.mapP r fun p q z=>⟨z.1,ht _ _ z.2.1,z.2.2⟩,ob,es,ep,k _ _ (.inl rfl) e,c⟩
 |set S n=>obtain⟨ob,es,ep,t,e,c⟩:=x;exact⟨ob,es,ep,t,k _ _ (.inl rfl) e,c⟩
 |ins C dx fs =>
  obtain⟨d,z,ne,e,mA,⟨od,es,ep,e2,c⟩,r⟩:=x
  exact⟨ho _ d,z,ne,k _ _ (.inl rfl) e,mA,⟨od,es,ep,k _ _ (.inr d) e2,c⟩,r⟩
 |own y=>obtain⟨ob,e⟩:=x;exact⟨ob,k _ _ (.inl rfl) e⟩
 |xd fs=>obtain⟨mA,⟨od,es,ep,e,c⟩,r⟩:=x;exact⟨mA,⟨od,es,ep,k _ _ (.inl rfl) e,c⟩,r⟩
 |rng lo hi=>obtain⟨t,u,v,e⟩:=x;exact⟨t,u,v,k _ _ (.inl rfl) e⟩
 |frz ob u ih=>obtain⟨e,q⟩:=x;exact⟨k _ _ (.inl rfl) e,ih q⟩
 |tbl q=>obtain⟨ps,e,t,r⟩:=x;exact⟨ps,k _ _ (.inl rfl) e,t,fun pos cv z=>let ⟨c,oc,vs,tk,a1,a2,a3⟩:=r pos cv z;⟨c,oc,vs,tk,a1,hz _ _ _ a2,a3⟩⟩
 |met f y =>
  have e:h.get? a=some (zbo1 (.ref f) (.ref y)):=x
  show h'.get? a=some (zbo1 (.ref f) (.ref y))
  exact k a _ (.inl rfl) e
 |ext φ=>obtain⟨p,⟨o,e⟩,st⟩:=x;exact⟨st _ _ p fun o q=>k _ _ (.inl rfl) q,⟨o,k _ _ (.inl rfl) e⟩,st⟩
theorem HOk.lt (x:HOk P w H h) (e:H a=some o):a<h.objs.size:=(x a o e).lt
theorem HOk.fresh (x:HOk P w H h) (e:h.objs.size≤a):H a=none:=by
 cases q:H a with
 |none=>rfl
 |some u=>exact absurd (zbf0 (x.lt q) e) (zbi3 _)
theorem HOk.kept (x:HOk P w H h) (k:∀b u,h.get? b=some u→h'.get? b=some u):HOk P w H h':=fun a o e =>
 (x a o e).stay (fun b u _ q=>k b u q) (fun _ q=>q) (fun _ _ q=>q) fun _ _ _ q=>q
theorem HOk.laid (x:HOk P w H h) (k:∀b u,h.get? b=some u→h'.get? b=some u) (hp:h.objs.size≤a) (new:ObjOk P w (upd H a o) h' a o):HOk P w (upd H a o) h':=fun b u e=>by
 have hn:=x.fresh hp
 by_cases hb:b=a
 ·subst hb;rw [zb9]at e;cases e;exact new
 ·rw [zc8 hb]at e
  exact (x b u e).stay (fun c v _ q=>k c v q) (fun c q=>by rw [zc8 (zj5 q hn)];exact q) (fun c xs q=>by rw [zc8 (zj5 q hn)];exact q) fun c o u q=>by rw [zc8 (zj5 q hn)];exact q
end
def Rd (H:Hp) (a:Addr) (u:HO):Prop:=H a=some u∨∃o,H a=some (.frz o u)
theorem Rd.ok {P:Program}{w:World}{H:Hp}{h:Heap}{a:Addr}{u:HO} (r:Rd H a u) (x:HOk P w H h):ObjOk P w H h a u:=by
 rcases r with r | ⟨o,r⟩
 ·exact x a u r
 ·obtain⟨_,q⟩:=x a _ r
  exact q
noncomputable def Mut:Option HO→Prop
 |some (.lst _)=>True
 |some (.dK _)=>True
 |some (.dT _)=>True
 |some (.set _ _)=>True
 |some (.ins _ _ _)=>True
 |some (.ext _)=>True
 |_=>False
section
variable {P:Program}{w:World}{H:Hp}{h h':Heap}{x e:Addr}{o':HO}
theorem HOk.write (ok:HOk P w H h) (mu:Mut (H x)) (he:e=x∨H e=some (.own x)) (k:∀b u,b≠e→h.get? b=some u→h'.get? b=some u) (heo:∃u,h'.get? e=some u)
  (new:ObjOk P w (upd H x o') h' x o'):HOk P w (upd H x o') h':=fun b u q=>by
 have nown:∀c y,H c=some (.own y)→c≠x:=fun c y r z=>by subst z;rw [r]at mu;exact mu
 have ntup:∀c xs,H c=some (.tup xs)→c≠x:=fun c xs r z=>by subst z;rw [r]at mu;exact mu
 by_cases hb:b=x
 ·subst hb;rw [zb9]at q;cases q;exact new
 ·rw [zc8 hb]at q
  by_cases hbe:b=e
  ·have q':H b=some (.own x):=by
    rcases he with z | z
    ·exact absurd (hbe.trans z) hb
    ·rw [hbe];exact z
   rw [q]at q';cases q'
   obtain⟨v,hv⟩:=heo
   exact⟨v,by rw [hbe];exact hv⟩
  ·refine (ok b u q).stay (fun c v hc r=>k c v ?_ r) (fun c r=>by rw [zc8 (nown c b r)];exact r) (fun c xs r=>by rw [zc8 (ntup c xs r)];exact r) fun c o u r=>by rw [zc8 (fun z=>by subst z;rw [r]at mu;exact mu)];exact r
   rcases hc with rfl | hc
   ·exact hbe
   ·rintro rfl
    rcases he with z | z
    ·exact nown c b hc z
    ·rw [hc]at z;cases z;exact hb rfl
end
structure Un (fs ex:List Addr) (H H':Hp) (h h':Heap):Prop where
 keep:∀b o,h.get? b=some o→H b=none→b∉fs→b∉ex→h'.get? b=some o
 slot:∀b o,h.get? b=some o→H b=none→b∈fs→b∉ex→∃sl,h'.get? b=some { o with slots:=sl }
 free:∀b o,h.get? b=some o→H b=none→b∉ex→H' b=none
 there:∀b o,h.get? b=some o→b∉ex→∃o',h'.get? b=some o'
 tups:∀b xs,H b=some (.tup xs)→H' b=some (.tup xs)
 frzs:∀b o u,H b=some (.frz o u)→H' b=some (.frz o u)
 tbls:∀b q,H b=some (.tbl q)→H' b=some (.tbl q)
section
variable {fs fs' ex ex':List Addr}{H H1 H2:Hp}{h h1 h2 h':Heap}{a x e:Addr}{o:HO}
theorem Un.any (u:Un fs ex H H1 h h1) {b:Addr}{ob:Obj} (q:h.get? b=some ob) (n:H b=none) (hx:b∉ex):∃sl,h1.get? b=some { ob with slots:=sl }:=by
 by_cases hb:b∈fs
 ·exact u.slot b ob q n hb hx
 ·exact⟨ob.slots,u.keep b ob q n hb hx⟩
theorem Un.kept (k:∀b u,h.get? b=some u→h'.get? b=some u):Un fs ex H H h h' :=
 ⟨fun b ob q _ _ _=>k b ob q,fun b ob q _ _ _=>⟨ob.slots,k b ob q⟩,fun _ _ _ n _=>n,fun b ob q _=>⟨ob,k b ob q⟩,fun _ _ q=>q,fun _ _ _ q=>q,fun _ _ q=>q⟩
theorem Un.refl:Un fs ex H H h h:=Un.kept fun _ _ q=>q
theorem Un.laid (k:∀b u,h.get? b=some u→h'.get? b=some u) (hp:h.objs.size≤a) (hn:H a=none):Un fs ex H (upd H a o) h h' where
 keep:=fun b u q _ _ _=>k b u q
 slot:=fun b u q _ _ _=>⟨u.slots,k b u q⟩
 free:=fun b u q n _=>by rw [zc8 (zbg0 (zbf0 (zbe6 q) hp))];exact n
 there:=fun b u q _=>⟨u,k b u q⟩
 tups:=fun b xs q=>by rw [zc8 (zj5 q hn)];exact q
 frzs:=fun b u xs q=>by rw [zc8 (zj5 q hn)];exact q
 tbls:=fun b ps q=>by rw [zc8 (zj5 q hn)];exact q
theorem Un.write (mu:Mut (H x)) (he:e=x∨H e=some (.own x)) (k:∀b u,b≠e→h.get? b=some u→h'.get? b=some u) (heo:∃u,h'.get? e=some u):Un fs ex H (upd H x o) h h':=by
 have hx:∀b,H b=none→b≠x:=fun b n z=>by subst z;rw [n]at mu;exact mu
 have hb:∀b,H b=none→b≠e:=fun b n z=>by
  subst z
  rcases he with r | r
  ·exact hx b n r
  ·rw [n]at r;cases r
 have hm:∀b u,H b=some u → ¬ Mut (some u)→b≠x:=fun b u q nm z=>by subst z;rw [q]at mu;exact nm mu
 refine⟨fun b u q n _ _=>k b u (hb b n) q,fun b u q n _ _=>⟨u.slots,k b u (hb b n) q⟩,fun b u q n _=>by rw [zc8 (hx b n)];exact n,fun b u q _=>?_,
  fun b xs q=>by rw [zc8 (hm b _ q fun z=>z)];exact q,fun b u xs q=>by rw [zc8 (hm b _ q fun z=>z)];exact q,fun b ps q=>by rw [zc8 (hm b _ q fun z=>z)];exact q⟩
 by_cases hbe:b=e
 ·subst hbe;exact heo
 ·exact⟨u,k b u hbe q⟩
end
def trk (h:Heap) (H:Hp):List Addr:=(zbh8 h.objs.size).filter fun a=>(H a).isSome
def hidT (h:Heap) (H:Hp):Heap:=PySem.W.hideAll h (trk h H)
theorem zaz9 (h:Heap) (H:Hp):(hidT h H).objs.size=h.objs.size:=PySem.W.hideAll_size _ _
theorem zu6 {h:Heap}{H:Hp}{b:Addr}{o:Obj} (e:h.get? b=some o) (n:H b=none):(hidT h H).get? b=some o :=
 PySem.W.hideAll_get _ e fun hm=>by
  have q:(H b).isSome=true:=(zbk6.mp hm).2
  rw [n]at q;simp at q
theorem of_hidT {h:Heap}{H:Hp}{b:Addr}{o:Obj} (e:(hidT h H).get? b=some o):h.get? b=some o∧H b=none:=by
 have e':h.get? b=some o:=PySem.W.of_hideAll (trk h H) e
 refine⟨e',?_⟩
 cases q:H b with
 |none=>rfl
 |some x =>
  have hm:b∈trk h H:=zbk6.mpr ⟨zbi8.mpr (zbe6 e'),by simp [q]⟩
  have z:(hidT h H).get? b=none:=PySem.W.hideAll_none (trk h H) hm
  rw [z]at e;cases e
noncomputable def allNews (g h:Heap) (L:Addr):List (Addr×Obj):=(zbh8 h.objs.size).filterMap fun a=>if a=L∨(g.get? a).isSome=true then none else (h.get? a).map fun o=>(a,o)
def rest (g h:Heap) (L d:Addr):List (Addr×Obj):=(allNews g h L).filter fun p=>decide (p.1≠d)
end L2
namespace L2
open PySem.Spec
structure BHeap extends Heap where
 tabs:List (Addr×Str)
instance:Coe BHeap Heap:=⟨BHeap.toHeap⟩
structure Mod (K:zbd4) (mg:Str→Option Value) (base:BHeap):Prop where
 kin:K.In base
 glob:base.Ns mainGlobals mg
 blt:∃mb,base.Ns builtinsNs mb∧∀x:Str,x≠"__name__"→mb x=bootBuiltins x
 nolimit:base.NoLimit
 bm:∃(bm:Addr) (ob:Obj),mg "__builtins__"=some (.ref bm)∧bm≠builtinsNs∧base.get? bm=some ob∧ob.cls=.type "module"∧ob.dict=some builtinsNs∧ob.data=.plain
structure Cx where
 prog:Program
 w:World
 K:zbd4
 mg:Str→Option Value
 base:BHeap
 A:Around
 N:List Str
 s₀:zbe5
 H₀:Hp
 env:Env
 outer:List Env
 stack:List Env
 ex:List Addr
 fn:Str→Bool
 calm:Bool
 pn:List (Addr×Obj)
 xe:Value→zbe5→Prop
def frs (l:List Env):List Addr:=l.filterMap (·.frame)
abbrev Cx.fs (X:Cx):List Addr:=frs X.outer
def Vis (sc:Scope) (x:Str):Prop:=sc.names.lookup x=some .local∨sc.names.lookup x=some .cell∨sc.names.lookup x=some .free
def Loc (sc:Scope) (x:Str):Prop:=sc.names.lookup x=some .local∨sc.names.lookup x=some .cell
noncomputable def Look (env:Env) (h:Heap) (m:Str→Option Value) (x:Str) (u:Value):Prop :=
 (env.kindOf x=some .local∧m x=some u)∨((env.kindOf x=some .cell∨env.kindOf x=some .free)∧∃c,env.cells.lookup x=some c∧h.IsCell c (some u))
structure Cx.Ok (X:Cx):Prop where
 mod:Mod X.K X.mg X.base
 kind:X.env.scope.kind=.function
 glob:X.env.globals=mainGlobals
 blt:X.env.builtins=builtinsNs
 above:X.s₀.heap.objs.size≤X.env.locals
 inj:∀x y c,X.env.cells.lookup x=some c→X.env.cells.lookup y=some c→x=y
 has:∀x,(X.env.kindOf x=some .cell∨X.env.kindOf x=some .free)→∃c,X.env.cells.lookup x=some c
 cab:∀x c,X.fn x=true→X.env.cells.lookup x=some c→X.s₀.heap.objs.size≤c
 hd:X.calm=true→X.A.handled=none
 frames:X.A.frames=some X.stack
 stk:X.stack=X.outer∨(X.stack=X.env::X.outer∧X.env.frame=some X.env.locals)
 exf:∀b∈X.ex,b≠X.env.locals∧∀x c,X.env.cells.lookup x=some c→c≠b
 bs:∀b o,X.base.get? b=some o→X.s₀.heap.get? b=some o∧X.H₀ b=none
 bsz:X.base.objs.size≤X.s₀.heap.objs.size
 noex:∀b o,X.base.get? b=some o→b∉X.ex
 exfs:∀b∈X.ex,b∉X.fs
 funs:X.s₀.heap.FunFrames X.base X.outer
 frf:∀b∈X.fs,X.H₀ b=none
 tabs:∀p∈X.base.tabs,X.H₀ p.1=some (.tbl p.2)
structure Inv (X:Cx) (pins:List (Addr×Obj)) (σ:List (Option V)) (H:Hp) (s:zbe5):Prop where
 ok:X.Ok
 os:s.os=X.s₀.os
 bare:AllBare s.gens
 base:Un X.fs X.ex X.H₀ H X.s₀.heap s.heap
 loc:∃m,s.heap.Ns X.env.locals m∧∀(i:Nat) (x:Str) (v:V),X.N[i]?=some x→σ[i]?=some (some v)→Vis X.env.scope x→∃u,RelV v u∧Look X.env s.heap m x u
 cell:∀x c,X.env.cells.lookup x=some c→∃v,s.heap.IsCell c v
 free:H X.env.locals=none
 freeC:∀x c,X.env.cells.lookup x=some c→H c=none
 pin:∀p∈X.pn++pins,s.heap.get? p.1=some p.2∧H p.1=none∧p.1≠X.env.locals∧p.1∉X.fs∧∀v,p.2.data≠.cell v
 hok:HOk X.prog X.w H s.heap
 len:σ.length=X.N.length
section
variable {X:Cx}{pins:List (Addr×Obj)}{σ:List (Option V)}{H H':Hp}{s:zbe5}{h':Heap}
theorem Cx.Ok.nofr (ok:X.Ok) {b:Addr}{o:Obj} (e:X.base.get? b=some o):b∉X.fs:=fun hb=>by
 have:=(ok.funs.mem hb).1
 rw [e]at this;cases this
theorem Inv.bs (I:Inv X pins σ H s):∀b o,X.base.get? b=some o→s.heap.get? b=some o∧H b=none:=fun b o e =>
 ⟨I.base.keep b o (I.ok.bs b o e).1 (I.ok.bs b o e).2 (I.ok.nofr e) (I.ok.noex b o e),I.base.free b o (I.ok.bs b o e).1 (I.ok.bs b o e).2 (I.ok.noex b o e)⟩
theorem Inv.bk (I:Inv X pins σ H s):∀b o,X.base.get? b=some o→s.heap.get? b=some o:=fun b o e=>(I.bs b o e).1
theorem Inv.mod (I:Inv X pins σ H s):Mod X.K X.mg X.base:=I.ok.mod
theorem Inv.kIn (I:Inv X pins σ H s):X.K.In s.heap:=I.ok.mod.kin.keeps I.bk
theorem Inv.lt (I:Inv X pins σ H s):X.env.locals<s.heap.objs.size:=let ⟨_,hn,_⟩:=I.loc;hn.lt
theorem Inv.sz (I:Inv X pins σ H s):X.s₀.heap.objs.size≤s.heap.objs.size:=zbh3 I.ok.above (zbn7 I.lt)
theorem Inv.nofs (I:Inv X pins σ H s) {a:Addr} (h:s.heap.objs.size≤a):a∉X.fs:=fun hb=>by
 obtain⟨_,o,ho,_⟩:=I.ok.funs.mem hb
 exact absurd (zbf0 (zbe6 ho) (zbh3 I.sz h)) (zbi3 _)
theorem Inv.cne (I:Inv X pins σ H s):∀x c,X.env.cells.lookup x=some c→c≠X.env.locals:=fun x c e z=>by
 obtain⟨v,o,ho,hd⟩:=I.cell x c e
 obtain⟨m,⟨o',es,ep,ho',hd',_⟩,_⟩:=I.loc
 rw [z,ho']at ho;cases ho;rw [hd']at hd;cases hd
theorem Inv.funs (I:Inv X pins σ H s):s.heap.FunFrames X.base X.outer:=by
 have all:∀(l:List Env),(∀b∈frs l,b∈X.fs)→X.s₀.heap.FunFrames X.base l→s.heap.FunFrames X.base l:=by
  intro l
  induction l with
  |nil=>intro _ _;trivial
  |cons env r ih =>
   intro hs hl
   obtain⟨hk,⟨L,o,hf,hn,ho,hd⟩,hr⟩:=hl
   have hL:L∈X.fs:=hs L (by unfold frs;rw [zbn0,hf];exact zbd7)
   obtain⟨sl,e⟩:=I.base.slot L o ho (I.ok.frf L hL) hL fun z=>I.ok.exfs L z hL
   exact⟨hk,⟨L,_,hf,hn,e,hd⟩,ih (fun b hb=>hs b (by unfold frs;rw [zbn0,hf];exact zbd6 _ hb)) hr⟩
 exact all X.outer (fun _ hb=>hb) I.ok.funs
theorem Inv.stack (I:Inv X pins σ H s):s.heap.FunFrames X.base X.stack:=by
 rcases I.ok.stk with e | ⟨e,hf⟩
 ·rw [e];exact I.funs
 ·rw [e]
  obtain⟨m,hn,_⟩:=I.loc
  refine .cons (by rw [I.ok.kind];decide) hf hn ?_ I.funs
  exact Heap.get?_none_of_le (zbh3 I.ok.bsz I.ok.above)
theorem Inv.stkSub (I:Inv X pins σ H s):∀b∈frs X.stack,b∈X.env.locals::X.fs:=fun b hb=>by
 rcases I.ok.stk with e | ⟨e,hf⟩
 ·rw [e]at hb;exact zbd6 _ hb
 ·rw [e]at hb
  unfold frs at hb
  rw [zbn0,hf]at hb
  exact hb
theorem Inv.stkFree (I:Inv X pins σ H s):∀b∈frs X.stack,H b=none:=fun b hb=>by
 rcases zbe3.mp (I.stkSub b hb) with e | hb
 ·rw [e];exact I.free
 ·obtain⟨_,o,ho,_⟩:=I.ok.funs.mem hb
  exact I.base.free b o ho (I.ok.frf b hb) fun z=>I.ok.exfs b z hb
theorem Inv.step {g':Array GenState}{t':Nat}{d':Drawn}{ch:List Addr} (I:Inv X pins σ H s)
  (hch:∀b∈ch,(b∈X.ex∨X.s₀.heap.objs.size≤b)∧b≠X.env.locals∧(∀x c,X.env.cells.lookup x=some c→c≠b)∧∀p∈X.pn++pins,p.1≠b)
  (keep:∀b o,b≠X.env.locals→b∉X.fs→b∉ch→s.heap.get? b=some o→H b=none→h'.get? b=some o)
  (slot:∀b o,b≠X.env.locals→b∈X.fs→b∉ch→s.heap.get? b=some o→H b=none→∃sl,h'.get? b=some { o with slots:=sl }) (free:∀b o,b∉ch→s.heap.get? b=some o→H b=none→H' b=none)
  (there:∀b o,b∉ch→s.heap.get? b=some o→∃o',h'.get? b=some o')
  (tups:∀b xs,H b=some (.tup xs)→H' b=some (.tup xs)) (frzs:∀b o u,H b=some (.frz o u)→H' b=some (.frz o u)) (tbls:∀b q,H b=some (.tbl q)→H' b=some (.tbl q))
  (ns:∀m,s.heap.Ns X.env.locals m→h'.Ns X.env.locals m) (hok:HOk X.prog X.w H' h') (hg:AllBare g') :
  Inv X pins σ H' { s with heap:=h',gens:=g',drawn:=d',toks:=t' }:=by
 have neL:∀b o,X.s₀.heap.get? b=some o→b≠X.env.locals:=fun b o e=>zbg0 (zbf0 (zbe6 e) I.ok.above)
 have neC:∀b o,X.s₀.heap.get? b=some o→b∉X.ex→b∉ch:=fun b o e hx hb=>by
  rcases (hch b hb).1 with z | z
  ·exact hx z
  ·exact absurd (zbf0 (zbe6 e) z) (zbi3 _)
 have cellK:∀x c,X.env.cells.lookup x=some c→∀v,s.heap.IsCell c v→h'.IsCell c v:=fun x c e v ⟨o,ho,hd⟩=>by
  have nch:c∉ch:=fun z=>(hch c z).2.2.1 x c e rfl
  by_cases hc:c∈X.fs
  ·obtain⟨sl,q⟩:=slot c o (I.cne x c e) hc nch ho (I.freeC x c e)
   exact⟨_,q,hd⟩
  ·exact⟨o,keep c o (I.cne x c e) hc nch ho (I.freeC x c e),hd⟩
 refine⟨I.ok,I.os,hg,⟨fun b o e n hb hx=>?_,fun b o e n hb hx=>?_,fun b o e n hx=>?_,fun b o e hx=>?_,fun b xs e=>tups b xs (I.base.tups b xs e),fun b o xs e=>frzs b o xs (I.base.frzs b o xs e),fun b ps e=>?_⟩,?_,fun x c e=>?_,?_,fun x c e=>?_,fun p hp=>?_,hok,I.len⟩
 ·exact keep b o (neL b o e) hb (neC b o e hx) (I.base.keep b o e n hb hx) (I.base.free b o e n hx)
 ·obtain⟨sl,e1⟩:=I.base.slot b o e n hb hx
  obtain⟨sl',e2⟩:=slot b _ (neL b o e) hb (neC b o e hx) e1 (I.base.free b o e n hx)
  exact⟨sl',e2⟩
 ·obtain⟨o',e1⟩:=I.base.there b o e hx
  exact free b o' (neC b o e hx) e1 (I.base.free b o e n hx)
 ·obtain⟨o',e1⟩:=I.base.there b o e hx
  exact there b o' (neC b o e hx) e1
 ·exact tbls b _ (I.base.tbls b ps e)
 ·obtain⟨m,hn,hl⟩:=I.loc
  refine⟨m,ns m hn,fun i x v e1 e2 e3=>?_⟩
  obtain⟨u,r,l⟩:=hl i x v e1 e2 e3
  refine⟨u,r,?_⟩
  rcases l with l | ⟨k,c,e,z⟩
  ·exact .inl l
  ·exact .inr ⟨k,c,e,cellK x c e _ z⟩
 ·obtain⟨v,z⟩:=I.cell x c e
  exact⟨v,cellK x c e v z⟩
 ·obtain⟨m,⟨o,_,_,ho,_⟩,_⟩:=I.loc
  exact free _ o (fun z=>(hch _ z).2.1 rfl) ho I.free
 ·obtain⟨v,o,ho,hd⟩:=I.cell x c e
  exact free c o (fun z=>(hch c z).2.2.1 x c e rfl) ho (I.freeC x c e)
 ·obtain⟨e,n,ne,nf,d⟩:=I.pin p hp
  have nch:p.1∉ch:=fun z=>(hch p.1 z).2.2.2 p hp rfl
  exact⟨keep p.1 p.2 ne nf nch e n,free p.1 p.2 nch e n,ne,nf,d⟩
theorem Inv.un {t':Nat} (I:Inv X pins σ H s) (u:Un X.fs [] H H' s.heap h') (hok:HOk X.prog X.w H' h'):Inv X pins σ H' { s with heap:=h',toks:=t' }:=by
 obtain⟨m,⟨o,es,ep,ho,r⟩,_⟩:=id I.loc
 obtain⟨sl,hL⟩:=u.any ho I.free (by simp)
 exact I.step (g':=s.gens) (d':=s.drawn) (ch:=[]) (fun _ z=>nomatch z) (fun b o _ hb _ e n=>u.keep b o e n hb (by simp)) (fun b o _ hb _ e n=>u.slot b o e n hb (by simp)) (fun b o _ e n=>u.free b o e n (by simp)) (fun b o _ e=>u.there b o e (by simp)) u.tups u.frzs u.tbls (fun m' hm=>by
  obtain⟨o',es',ep',ho',r'⟩:=hm
  rw [ho]at ho';cases ho'
  exact⟨_,es',ep',hL,r'⟩) hok I.bare
theorem Inv.call {g':Array GenState}{t':Nat}{d':Drawn}{ch:List Addr} (I:Inv X pins σ H s) (u:Un (frs X.stack) ch H H' s.heap h') (hok:HOk X.prog X.w H' h') (hg:AllBare g')
  (hch:∀b∈ch,(b∈X.ex∨X.s₀.heap.objs.size≤b)∧b≠X.env.locals∧(∀x c,X.env.cells.lookup x=some c→c≠b)∧∀p∈X.pn++pins,p.1≠b) :
  Inv X pins σ H' { s with heap:=h',gens:=g',drawn:=d',toks:=t' }:=by
 obtain⟨m,⟨o,es,ep,ho,r⟩,_⟩:=id I.loc
 obtain⟨sl,hL⟩:=u.any ho I.free fun z=>(hch _ z).2.1 rfl
 exact I.step (ch:=ch) hch (fun b o hL hb hc e n=>u.keep b o e n (fun z=>(zbe3.mp (I.stkSub b z)).elim hL hb) hc) (fun b o _ _ hc e n=>u.any e n hc) (fun b o hc e n=>u.free b o e n hc) (fun b o hc e=>u.there b o e hc) u.tups u.frzs u.tbls (fun m' hm=>by
  obtain⟨o',es',ep',ho',r'⟩:=hm
  rw [ho]at ho';cases ho'
  exact⟨_,es',ep',hL,r'⟩) hok hg
theorem Inv.turned {t':Nat}{it:Addr} (I:Inv X pins σ H s) (k:∀b o,b≠it→s.heap.get? b=some o→h'.get? b=some o) (hn:H it=none) (hL:it≠X.env.locals)
  (h1:it∈X.ex∨X.s₀.heap.objs.size≤it) (h2:∀x c,X.env.cells.lookup x=some c→c≠it) (h3:∀p∈X.pn++pins,p.1≠it):Inv X pins σ H { s with heap:=h',toks:=t' }:=by
 have nit:∀b u,H b=some u→b≠it:=fun b u e z=>by rw [z,hn]at e;cases e
 refine I.step (g':=s.gens) (d':=s.drawn) (ch:=[it]) (fun b hb=>?_) (fun b o _ _ hc e _=>k b o (fun z=>hc (by simp [z])) e) (fun b o _ _ hc e _=>⟨o.slots,k b o (fun z=>hc (by simp [z])) e⟩) (fun _ _ _ _ n=>n)
  (fun b o hc e=>⟨o,k b o (fun z=>hc (by simp [z])) e⟩) (fun _ _ e=>e) (fun _ _ _ e=>e) (fun _ _ e=>e) (fun m hm=>?_) (fun b u e=>?_) I.bare
 ·have e:b=it:=by simpa using hb
  subst e
  exact⟨h1,hL,h2,h3⟩
 ·obtain⟨o,es,ep,ho,r⟩:=hm
  exact⟨o,es,ep,k _ o (Ne.symm hL) ho,r⟩
 ·refine (I.hok b u e).stay (fun c v hc q=>k c v ?_ q) (fun _ q=>q) (fun _ _ q=>q) fun _ _ _ q=>q
  rcases hc with z | z
  ·rw [z];exact nit b u e
  ·exact nit c _ z
theorem Inv.tok (I:Inv X pins σ H s) (t:Nat):Inv X pins σ H { s with toks:=t }:=I.un (h':=s.heap) (t':=t) Un.refl I.hok
theorem Inv.kept {t':Nat} (I:Inv X pins σ H s) (k:∀b u,s.heap.get? b=some u→h'.get? b=some u):Inv X pins σ H { s with heap:=h',toks:=t' }:=I.un (Un.kept k) (I.hok.kept k)
theorem Inv.laid {a:Addr}{o:HO}{t':Nat} (I:Inv X pins σ H s) (k:∀b u,s.heap.get? b=some u→h'.get? b=some u) (hp:s.heap.objs.size≤a) (new:ObjOk X.prog X.w (upd H a o) h' a o) :
  Inv X pins σ (upd H a o) { s with heap:=h',toks:=t' }:=I.un (Un.laid k hp (I.hok.fresh hp)) (I.hok.laid k hp new)
theorem Inv.write {x e:Addr}{o:HO}{t':Nat} (I:Inv X pins σ H s) (mu:Mut (H x)) (he:e=x∨H e=some (.own x)) (k:∀b u,b≠e→s.heap.get? b=some u→h'.get? b=some u) (heo:∃u,h'.get? e=some u)
  (new:ObjOk X.prog X.w (upd H x o) h' x o):Inv X pins σ (upd H x o) { s with heap:=h',toks:=t' }:=I.un (Un.write mu he k heo) (I.hok.write mu he k heo new)
theorem Inv.pins_of {pins':List (Addr×Obj)} (I:Inv X pins σ H s) (h:∀p∈pins',s.heap.get? p.1=some p.2∧H p.1=none∧p.1≠X.env.locals∧p.1∉X.fs∧∀v,p.2.data≠.cell v):Inv X pins' σ H s :=
 ⟨I.ok,I.os,I.bare,I.base,I.loc,I.cell,I.free,I.freeC,fun p hp=>(zbd8.mp hp).elim (fun z=>I.pin p (zbd5 _ z)) (h p),I.hok,I.len⟩
theorem zap6 {N:List Str} (hN:N.Nodup) {i j:Nat}{x:Str} (a:N[i]?=some x) (b:N[j]?=some x):i=j:=by
 obtain⟨h1,e1⟩:=zbg7.mp a
 obtain⟨h2,e2⟩:=zbg7.mp b
 exact (List.getElem_inj hN).mp (e1.trans e2.symm)
theorem zae7 {M:Model}{A:Around}{E:Value→zbe5→Prop}{i:Nat}{x:Str}{v:V}{u:Value}{Q:Unit→zbe5→Prop} (I:Inv X pins σ H s) (hN:X.N.Nodup) (hi:X.N[i]?=some x) (hx:Loc X.env.scope x) (r:RelV v u)
  (h:∀s',Inv X pins (σ.set i (some v)) H s'→(∃a,Heap.SameBut a s.heap s'.heap∧(a=X.env.locals∨X.env.cells.lookup x=some a))→Q () s') (hf:X.fn x=true∨X.env.scope.names.lookup x=some .local:=by first | exact .inl rfl | exact .inr rfl | assumption):wpAny M A (storeName X.env x u) Q E s:=by
 obtain⟨m,hn,hl⟩:=id I.loc
 have hcls:(X.env.scope.kind == .class||(X.env.scope.kind == .module&&X.env.locals != X.env.globals))=false:=by rw [I.ok.kind];rfl
 have hiσ:i<σ.length:=by rw [I.len];exact (zbg7.mp hi).1
 have cne:=I.cne
 have tracked:∀ {a:Addr}{h':Heap},(∃o,s.heap.get? a=some o∧H a=none)→Heap.SameBut a s.heap h'→HOk X.prog X.w H h':=fun {a h'} ha hs b ob e=>by
  obtain⟨_,_,hfree⟩:=ha
  refine (I.hok b ob e).stay (fun c w' hc q=>(hs.2 c ?_).trans q) (fun _ q=>q) (fun _ _ q=>q) fun _ _ _ q=>q
  rintro rfl
  rcases hc with rfl | hc
  ·rw [hfree]at e;cases e
  ·rw [hfree]at hc;cases hc
 rcases hx with hk | hk
 ·refine wpAny_storeName_local hk hn (fun h' hn' hs=>?_) hcls
  obtain⟨oL,_,_,hoL,_⟩:=id hn
  refine h _ ⟨I.ok,I.os,I.bare,⟨fun b o e n hb hx=>?_,fun b o e n hb hx=>?_,I.base.free,fun b o e hx=>?_,I.base.tups,I.base.frzs,I.base.tbls⟩,⟨_,hn',fun j y v' e1 e2 e3=>?_⟩,fun y c e=>?_,I.free,I.freeC,fun p hp=>?_,tracked ⟨oL,hoL,I.free⟩ hs,by simpa using I.len⟩ ⟨_,hs,.inl rfl⟩
  ·exact (hs.2 b (zbg0 (zbf0 (zbe6 e) I.ok.above))).trans (I.base.keep b o e n hb hx)
  ·obtain⟨sl,e1⟩:=I.base.slot b o e n hb hx
   exact⟨sl,(hs.2 b (zbg0 (zbf0 (zbe6 e) I.ok.above))).trans e1⟩
  ·obtain⟨o',e1⟩:=I.base.there b o e hx
   exact⟨o',(hs.2 b (zbg0 (zbf0 (zbe6 e) I.ok.above))).trans e1⟩
  ·by_cases hj:j=i
   ·subst hj
    rw [hi]at e1;cases e1
    rw [zbo4 hiσ]at e2
    cases e2
    exact⟨u,r,.inl ⟨hk,by simp⟩⟩
   ·rw [zbp0 (Ne.symm hj)]at e2
    obtain⟨u',r',q⟩:=hl j y v' e1 e2 e3
    refine⟨u',r',?_⟩
    rcases q with ⟨k,e⟩ | ⟨k,c,e,z⟩
    ·refine .inl ⟨k,?_⟩
     have:y≠x:=fun e=>hj (zap6 hN e1 (e ▸ hi))
     simp [this,e]
    ·exact .inr ⟨k,c,e,z.sameBut hs (cne y c e)⟩
  ·obtain⟨w',z⟩:=I.cell y c e
   exact⟨w',z.sameBut hs (cne y c e)⟩
  ·obtain⟨e,n,ne,nf,d⟩:=I.pin p hp
   exact⟨(hs.2 p.1 ne).trans e,n,ne,nf,d⟩
 ·have hfn:X.fn x=true:=by
   rcases hf with z | z
   ·exact z
   ·rw [z]at hk;cases hk
  obtain⟨c,hc⟩:=I.ok.has x (.inl hk)
  obtain⟨w',z⟩:=I.cell x c hc
  refine wpAny_storeName_cell I.ok.kind hk hc z (fun h' hc' hs=>?_)
  obtain⟨oc,hoc,hocd⟩:=id z
  refine h { s with heap:=h' } ⟨I.ok,I.os,I.bare,⟨fun b o e n hb hx=>?_,fun b o e n hb hx=>?_,I.base.free,fun b o e hx=>?_,I.base.tups,I.base.frzs,I.base.tbls⟩,⟨m,hn.sameBut hs (Ne.symm (cne x c hc)),fun j y v' e1 e2 e3=>?_⟩,fun y c' e=>?_,I.free,I.freeC,fun p hp=>?_,tracked ⟨oc,hoc,I.freeC x c hc⟩ hs,by simpa using I.len⟩ ⟨c,hs,.inr hc⟩
  ·exact (hs.2 b (zbg0 (zbf0 (zbe6 e) (I.ok.cab x c hfn hc)))).trans (I.base.keep b o e n hb hx)
  ·obtain⟨sl,e1⟩:=I.base.slot b o e n hb hx
   exact⟨sl,(hs.2 b (zbg0 (zbf0 (zbe6 e) (I.ok.cab x c hfn hc)))).trans e1⟩
  ·obtain⟨o',e1⟩:=I.base.there b o e hx
   exact⟨o',(hs.2 b (zbg0 (zbf0 (zbe6 e) (I.ok.cab x c hfn hc)))).trans e1⟩
  ·by_cases hj:j=i
   ·subst hj
    rw [hi]at e1;cases e1
    rw [zbo4 hiσ]at e2
    cases e2
    exact⟨u,r,.inr ⟨.inl hk,c,hc,hc'⟩⟩
   ·rw [zbp0 (Ne.symm hj)]at e2
    obtain⟨u',r',q⟩:=hl j y v' e1 e2 e3
    refine⟨u',r',?_⟩
    rcases q with q | ⟨k,c',e,z'⟩
    ·exact .inl q
    ·refine .inr ⟨k,c',e,z'.sameBut hs ?_⟩
     rintro rfl
     exact hj (zap6 hN e1 (I.ok.inj _ _ _ e hc ▸ hi))
  ·by_cases hcc:c'=c
   ·subst hcc;exact⟨_,hc'⟩
   ·obtain⟨w2,z2⟩:=I.cell y c' e
    exact⟨w2,z2.sameBut hs hcc⟩
  ·obtain⟨e,n,ne,nf,d⟩:=I.pin p hp
   refine⟨(hs.2 p.1 ?_).trans e,n,ne,nf,d⟩
   intro q
   rw [q,hoc]at e
   have q':oc=p.2:=Option.some.inj e
   exact d w' (by rw [← q'];exact hocd)
theorem zan5 {M:Model}{A:Around}{E:Value→zbe5→Prop}{i:Nat}{x:Str}{v:V}{u:Value}{Q:Unit→zbe5→Prop} (I:Inv X pins σ H s) (hN:X.N.Nodup) (hi:X.N[i]?=some x) (hx:Loc X.env.scope x) (r:RelV v u)
  (h:∀s',Inv X pins (σ.set i (some v)) H s'→Q () s') (hf:X.fn x=true∨X.env.scope.names.lookup x=some .local:=by first | exact .inl rfl | exact .inr rfl | assumption):wpAny M A (storeName X.env x u) Q E s :=
 zae7 I hN hi hx r (fun s' I' _=>h s' I') hf
end
abbrev XK:=Value→Option Addr→Hp→Prop
abbrev St:=List (Option V)
abbrev VK:=V→Hp→Prop
abbrev TE:=St→Hp→VK→Prop
abbrev TT:=St→Hp→(Bool→Hp→Prop)→Prop
abbrev TA:=St→Hp→(List V→Hp→Prop)→Prop
structure Ends where
 nx:St→Hp→Prop
 rt:VK
 bk:St→Hp→Prop:=fun _ _=>False
 ct:St→Hp→Prop:=fun _ _=>False
abbrev TS:=Ends→St→Hp→Prop
def EP (X:Cx) (pins:List (Addr×Obj)) (σ:St) (Q:VK) (u:Value) (s':zbe5):Prop := ∃v H',Inv X pins σ H' s'∧RelV v u∧Q v H'
def TP (X:Cx) (pins:List (Addr×Obj)) (σ:St) (Q:Bool→Hp→Prop) (b:Bool) (s':zbe5):Prop := ∃H',Inv X pins σ H' s'∧Q b H'
noncomputable def AP (X:Cx) (pins:List (Addr×Obj)) (σ:St) (Q:List V→Hp→Prop) (us:List Value) (s':zbe5):Prop := ∃vs H',Inv X pins σ H' s'∧Vals vs us∧Q vs H'
noncomputable def SP (X:Cx) (pins:List (Addr×Obj)) (D:Ends) (f:Flow) (s':zbe5):Prop :=
 match f with
 |.next => ∃σ' H',Inv X pins σ' H' s'∧D.nx σ' H'
 |.brk => ∃σ' H',Inv X pins σ' H' s'∧D.bk σ' H'
 |.cont => ∃σ' H',Inv X pins σ' H' s'∧D.ct σ' H'
 |.ret u => ∃v σ' H',Inv X pins σ' H' s'∧RelV v u∧D.rt v H'
noncomputable def PE (X:Cx) (e:Expr) (t:TE):Prop :=
 ∀(pins:List (Addr×Obj)) (s:zbe5) (σ:St) (H:Hp) (Q:VK),Inv X pins σ H s→t σ H Q→wpAny (model X.prog X.w) X.A (eval e X.env) (EP X pins σ Q) X.xe s
noncomputable def PT (X:Cx) (e:Expr) (t:TT):Prop :=
 ∀(pins:List (Addr×Obj)) (s:zbe5) (σ:St) (H:Hp) (Q:Bool→Hp→Prop),Inv X pins σ H s→t σ H Q→wpAny (model X.prog X.w) X.A (isTrue e X.env (eval e X.env)) (TP X pins σ Q) X.xe s
noncomputable def PW (X:Cx) (e:Expr) (t:TT):Prop :=
 ∀(whole:Sem Value) (pins:List (Addr×Obj)) (s:zbe5) (σ:St) (H:Hp) (Q:Bool→Hp→Prop),Inv X pins σ H s→t σ H Q→wpAny (model X.prog X.w) X.A (isTrue e X.env whole) (TP X pins σ Q) X.xe s
theorem PW.pt {X:Cx}{e:Expr}{t:TT} (h:PW X e t):PT X e t:=h _
noncomputable def PA (X:Cx) (es:List Expr) (t:TA):Prop :=
 ∀(pos:Pos) (pins:List (Addr×Obj)) (s:zbe5) (σ:St) (H:Hp) (Q:List V→Hp→Prop),Inv X pins σ H s→t σ H Q→wpAny (model X.prog X.w) X.A (spliced (zbl0 pos (zbe7 es X.env))) (AP X pins σ Q) X.xe s
noncomputable def PS (X:Cx) (st:Stmt) (t:TS):Prop :=
 ∀(pins:List (Addr×Obj)) (s:zbe5) (σ:St) (H:Hp) (D:Ends),Inv X pins σ H s→t D σ H→wpAny (model X.prog X.w) X.A (exec st X.env) (SP X pins D) X.xe s
noncomputable def PSs (X:Cx) (st:List Stmt) (t:TS):Prop :=
 ∀(pins:List (Addr×Obj)) (s:zbe5) (σ:St) (H:Hp) (D:Ends),Inv X pins σ H s→t D σ H→wpAny (model X.prog X.w) X.A (execs st X.env) (SP X pins D) X.xe s
theorem thn {α:Type}{t:Sem α}{Q Q':α→zbe5→Prop}{M:Model}{A:Around}{E:Value→zbe5→Prop}{s:zbe5} (h:wpAny M A t Q E s) (hQ:∀a s,Q a s→Q' a s):wpAny M A t Q' E s:=wpAny_mono h hQ fun _ _ x=>x
end L2
namespace L2
open PySem.Spec
section
variable {X:Cx}
theorem bin {a b:Expr}{ta tb:TE} (ha:PE X a ta) (hb:PE X b tb) {pins:List (Addr×Obj)}{s:zbe5}{σ:St}{H:Hp}{R:V→V→Hp→Prop} (I:Inv X pins σ H s) (h:ta σ H fun x H1=>tb σ H1 fun y H2=>R x y H2)
  {α:Type}{Q:α→zbe5→Prop}{f:Value→Value→Sem α}
  (hf:∀v u s2 x y H2,Inv X pins σ H2 s2→RelV x v→RelV y u→R x y H2→wpAny (model X.prog X.w) X.A (f v u) Q X.xe s2) :
  wpAny (model X.prog X.w) X.A (eval a X.env) (fun v s₁=>wpAny (model X.prog X.w) X.A (eval b X.env) (fun u s₂=>wpAny (model X.prog X.w) X.A (f v u) Q X.xe s₂) X.xe s₁) X.xe s:=by
 refine thn (ha pins s σ H _ I h) fun v s1 ⟨x,H1,I1,r1,q1⟩=>?_
 refine thn (hb pins s1 σ H1 _ I1 q1) fun u s2 ⟨y,H2,I2,r2,q2⟩=>?_
 exact hf v u s2 x y H2 I2 r1 r2 q2
def tVar (i:Nat):TE:=fun σ H Q => ∃v,σ[i]?=some (some v)∧Q v H
def tC (v:V):TE:=fun _ H Q=>Q v H
theorem zz7 {i:Nat}{x:Str}{pos:Pos} (hN:X.N[i]?=some x) (hv:Vis X.env.scope x) (hd:(x ==("__debug__":Str))=false:=by decide) (hcd:(x ==("__classdict__":Str))=false:=by decide):PE X (.Name x pos) (tVar i):=by
 intro pins s σ H Q I h
 obtain⟨v,e,h⟩:=h
 obtain⟨m,hn,hl⟩:=I.loc
 obtain⟨u,r,l⟩:=hl i x v hN e hv
 have fin:EP X pins σ Q u s:=⟨v,H,I,r,h⟩
 rcases l with ⟨hk,hm⟩ | ⟨hk,c,hc,hcell⟩
 ·exact wpAny_Name (wpAny_loadName_local I.ok.kind hk hn hm fin) hd
 ·rcases hk with hk | hk
  ·exact wpAny_Name (wpAny_loadName_cell I.ok.kind hk hc hcell fin) hd
  ·exact wpAny_Name (wpAny_loadName_free I.ok.kind hk hc hcell fin hcd) hd
theorem zaw9 {i j pos}:PE X (.Constant (.int i) j pos) (tC (.int i)):=fun _ _ _ H _ I h=>wpAny_Constant_int ⟨.int i,H,I.tok _,⟨_,rfl⟩,h⟩
theorem pe_bl {b j pos}:PE X (.Constant (.bool b) j pos) (tC (.bl b)):=fun _ _ _ H _ I h=>Constant_bool ⟨.bl b,H,I,rfl,h⟩
def Gl (X:Cx) (x:Str):Prop:=X.env.kindOf x=some .globalImplicit
theorem ld_glob {E:Value→zbe5→Prop}{pins:List (Addr×Obj)}{s:zbe5}{σ:St}{H:Hp}{x:Str}{u:Value}{pos:Pos}{Q:Value→zbe5→Prop} (I:Inv X pins σ H s) (hg:Gl X x) (hm:X.mg x=some u) (h:Q u s)
  (hd:(x ==("__debug__":Str))=false:=by decide):wpAny (model X.prog X.w) X.A (eval (.Name x pos) X.env) Q E s :=
 Calls.Name_function_global I.ok.kind hg (Calls.loadGlobal_global (by rw [I.ok.glob];exact I.mod.glob.keeps I.bk) hm h) hd
theorem zm4 {E:Value→zbe5→Prop}{pins:List (Addr×Obj)}{s:zbe5}{σ:St}{H:Hp}{x:Str}{u:Value}{pos:Pos}{Q:Value→zbe5→Prop} (I:Inv X pins σ H s) (hg:Gl X x) (hm:X.mg x=none) (hv:bootBuiltins x=some u) (h:Q u s)
  (hn:x≠"__name__":=by decide) (hd:(x ==("__debug__":Str))=false:=by decide):wpAny (model X.prog X.w) X.A (eval (.Name x pos) X.env) Q E s:=by
 obtain⟨mb,h1,h2⟩:=I.mod.blt
 exact Calls.Name_function_global I.ok.kind hg (Calls.loadGlobal_builtin (by rw [I.ok.glob];exact I.mod.glob.keeps I.bk) hm (by rw [I.ok.blt];exact h1.keeps I.bk) ((h2 x hn).trans hv) h) hd
theorem pe_bltn {x:Str}{v:V}{u:Value}{pos:Pos} (hg:Gl X x) (hm:X.mg x=none) (hv:bootBuiltins x=some u) (r:RelV v u) (hn:x≠"__name__":=by decide) (hd:(x ==("__debug__":Str))=false:=by decide):PE X (.Name x pos) (tC v) :=
 fun _ _ _ H _ I h=>zm4 I hg hm hv ⟨v,H,I,r,h⟩ hn hd
variable {a b:Expr}{ta tb:TE}{pos:Pos}
variable {tA tB':TT}{rest:List Expr}
def tAnd (t u:TT):TT:=fun σ H Q=>t σ H fun c H1=>if c=true then u σ H1 Q else Q false H1
def tOr (t u:TT):TT:=fun σ H Q=>t σ H fun c H1=>if c=true then Q true H1 else u σ H1 Q
def tNot (t:TT):TT:=fun σ H Q=>t σ H fun c H1=>Q (!c) H1
theorem zav2 (ha:PT X a tA):PW X (.BoolOp .And [a] pos) tA:=by
 intro wh pins s σ H Q I h
 refine isTrue_and (thn (ha pins s σ H Q I h) fun c s1 e=>?_)
 cases c with
 |true=>exact isTrue_and_nil e
 |false=>exact e
theorem pw_or1 (ha:PT X a tA):PW X (.BoolOp .Or [a] pos) tA:=by
 intro wh pins s σ H Q I h
 refine isTrue_or (thn (ha pins s σ H Q I h) fun c s1 e=>?_)
 cases c with
 |false=>exact isTrue_or_nil e
 |true=>exact e
theorem pw_and (ha:PT X a tA) (hb:PW X (.BoolOp .And (b::rest) pos) tB'):PW X (.BoolOp .And (a::b::rest) pos) (tAnd tA tB'):=by
 intro wh pins s σ H Q I h
 refine isTrue_and (thn (ha pins s σ H _ I h) fun c s1 ⟨H1,I1,q1⟩=>?_)
 cases c with
 |true=>exact hb wh pins s1 σ H1 Q I1 q1
 |false=>exact⟨H1,I1,q1⟩
theorem pw_or (ha:PT X a tA) (hb:PW X (.BoolOp .Or (b::rest) pos) tB'):PW X (.BoolOp .Or (a::b::rest) pos) (tOr tA tB'):=by
 intro wh pins s σ H Q I h
 refine isTrue_or (thn (ha pins s σ H _ I h) fun c s1 ⟨H1,I1,q1⟩=>?_)
 cases c with
 |true=>exact⟨H1,I1,q1⟩
 |false=>exact hb wh pins s1 σ H1 Q I1 q1
theorem pt_not (ha:PT X a tA):PT X (.UnaryOp .Not a pos) (tNot tA):=by
 intro pins s σ H Q I h
 exact isTrue_not (ha pins s σ H (fun c H1=>Q (!c) H1) I h)
def tAndV (ta tb:TE):TE:=fun σ H Q=>ta σ H fun x H1 => ∃c,x=.bl c∧if c=true then tb σ H1 Q else Q (.bl false) H1
theorem pe_one {op}{t:TE} (h:PE X a t):PE X (.BoolOp op [a] pos) t:=fun pins s σ H Q I hw=>BoolOp_one (h pins s σ H Q I hw)
theorem pe_and (ha:PE X a ta) (hb:PE X (.BoolOp .And (b::rest) pos) tb):PE X (.BoolOp .And (a::b::rest) pos) (tAndV ta tb):=by
 intro pins s σ H Q I h
 refine BoolOp_and (thn (ha pins s σ H _ I h) fun v s1 ⟨x,H1,I1,r1,q1⟩=>?_)
 obtain⟨c,rfl,q1⟩:=q1
 cases r1
 refine wpAny_truthy_bool ?_
 cases c with
 |true=>exact hb pins s1 σ H1 Q I1 q1
 |false=>exact⟨.bl false,H1,I1,rfl,q1⟩
def tIf (t:TT) (ta tb:TE):TE:=fun σ H Q=>t σ H fun c H1=>if c=true then ta σ H1 Q else tb σ H1 Q
theorem pe_ifExp {c:Expr} (hc:PT X c tA) (ha:PE X a ta) (hb:PE X b tb):PE X (.IfExp c a b pos) (tIf tA ta tb):=by
 intro pins s σ H Q I h
 refine wpAny_IfExp (thn (hc pins s σ H _ I h) fun d s1 ⟨H1,I1,q1⟩=>?_)
 cases d with
 |true=>exact ha pins s1 σ H1 Q I1 q1
 |false=>exact hb pins s1 σ H1 Q I1 q1
end
end L2
namespace L2
open PySem.Spec
noncomputable def SqL (K:zbd4) (H:Hp) (a:Addr) (xs:List V):Prop :=
 Rd H a (.lst xs) ∨
  ∃(o:Obj) (its:Array Value) (n:Nat),K.lookup a=some o∧o.cls=.type "list"∧o.dict=none∧o.data=.seq its n∧its.size≤sizeLine∧Vals xs its.toList
def SqT (K:zbd4) (H:Hp) (a:Addr) (xs:List V):Prop:=H a=some (.tup xs)
noncomputable def absV:Value→Option V
 |.none=>some .non
 |.bool b=>some (.bl b)
 |.int i _=>some (.int i)
 |.str x _=>some (.str x)
 |.bytes b _=>some (.byt b)
 |.float b _=>some (.flt b)
 |.ref a=>some (.ref a)
 |.type n=>some (.ty n)
 |_=>none
theorem RelV.abs {x:V}{u:Value} (r:RelV x u):absV u=some x:=by
 cases x with
 |non=>cases r;rfl
 |bl _=>cases r;rfl
 |int _=>obtain⟨t,rfl⟩:=r;rfl
 |str _=>obtain⟨t,rfl⟩:=r;rfl
 |byt _=>obtain⟨t,rfl⟩:=r;rfl
 |flt _=>obtain⟨t,rfl⟩:=r;rfl
 |ref _=>cases r;rfl
 |ty _=>cases r;rfl
theorem RelV.inj {x y:V}{u:Value} (r:RelV x u) (q:RelV y u):x=y:=Option.some.inj (r.abs.symm.trans q.abs)
theorem Vals.inj:∀ {xs ys:List V}{us:List Value},Vals xs us→Vals ys us→xs=ys
 |_,_,_,.nil,.nil=>rfl
 |_,_,_,.cons r t,.cons r' t'=>by rw [r.inj r',Vals.inj t t']
section
variable {X:Cx}{pins:List (Addr×Obj)}{σ:St}{H:Hp}{s:zbe5}{a:Addr}{xs ys:List V}
theorem SqL.of {K:zbd4} (h:H a=some (.lst xs)):SqL K H a xs:=.inl (.inl h)
theorem SqT.of {K:zbd4} (h:H a=some (.tup xs)):SqT K H a xs:=h
theorem Inv.list (I:Inv X pins σ H s) (h:SqL X.K H a xs):∃its:List Value,Vals xs its∧PlainL s.heap a its.toArray∧xs.length≤sizeLine:=by
 rcases h with h | ⟨o,its,n,hk,hc,hd,hs,hz,r⟩
 ·obtain⟨z,its,n,r,e⟩:=h.ok I.hok
  exact⟨its,r,⟨_,n,e,rfl,rfl,rfl⟩,z⟩
 ·refine⟨its.toList,r,⟨o,n,I.kIn a o hk,hc,hd,by simpa using hs⟩,?_⟩
  have e:=r.length
  simp only [Array.length_toList]at e
  lia
theorem Inv.tuple (I:Inv X pins σ H s) (h:SqT X.K H a xs):∃its:List Value,Vals xs its∧IsTup s.heap a its.toArray∧xs.length≤sizeLine:=by
 obtain⟨z,its,r,p⟩:=(show ObjOk X.prog X.w H s.heap a (.tup xs) from I.hok a _ h)
 exact⟨its,r,p,z⟩
theorem Inv.list_inj (I:Inv X pins σ H s) (h:SqL X.K H a xs) (h':SqL X.K H a ys):xs=ys:=by
 obtain⟨its,r,⟨o,n,e,_,_,d⟩,_⟩:=I.list h
 obtain⟨its',r',⟨o',n',e',_,_,d'⟩,_⟩:=I.list h'
 rw [e]at e';cases e'
 rw [d]at d'
 injection d' with d1 _
 have:its=its':=by simpa using congrArg Array.toList d1
 subst this
 exact r.inj r'
theorem Inv.tuple_inj (I:Inv X pins σ H s) (h:SqT X.K H a xs) (h':SqT X.K H a ys):xs=ys:=by
 obtain⟨its,r,⟨o,e,_,n,d⟩,_⟩:=I.tuple h
 obtain⟨its',r',⟨o',e',_,n',d'⟩,_⟩:=I.tuple h'
 rw [e]at e';cases e'
 rw [d]at d'
 injection d' with d1 _
 have:its=its':=by simpa using congrArg Array.toList d1
 subst this
 exact r.inj r'
end
abbrev Cx.wish (X:Cx) (E:Value→zbe5→Prop):Cx:={ X with xe:=E }
abbrev Cx.nox (X:Cx):Cx:=X.wish fun _ _=>False
theorem Cx.Ok.wish {X:Cx} (ok:X.Ok) (E:Value→zbe5→Prop):(X.wish E).Ok :=
 ⟨ok.mod,ok.kind,ok.glob,ok.blt,ok.above,ok.inj,ok.has,ok.cab,ok.hd,ok.frames,ok.stk,ok.exf,ok.bs,ok.bsz,ok.noex,ok.exfs,ok.funs,ok.frf,ok.tabs⟩
theorem Cx.Ok.unwish {X:Cx}{E:Value→zbe5→Prop} (ok:(X.wish E).Ok):X.Ok :=
 ⟨ok.mod,ok.kind,ok.glob,ok.blt,ok.above,ok.inj,ok.has,ok.cab,ok.hd,ok.frames,ok.stk,ok.exf,ok.bs,ok.bsz,ok.noex,ok.exfs,ok.funs,ok.frf,ok.tabs⟩
section
variable {X:Cx}{pins:List (Addr×Obj)}{σ:St}{H:Hp}{s:zbe5}{E:Value→zbe5→Prop}
theorem Inv.wish (I:Inv X pins σ H s) (E:Value→zbe5→Prop):Inv (X.wish E) pins σ H s:=⟨I.ok.wish E,I.os,I.bare,I.base,I.loc,I.cell,I.free,I.freeC,I.pin,I.hok,I.len⟩
theorem Inv.unwish (I:Inv (X.wish E) pins σ H s):Inv X pins σ H s:=⟨I.ok.unwish,I.os,I.bare,I.base,I.loc,I.cell,I.free,I.freeC,I.pin,I.hok,I.len⟩
theorem SP.unwish {D:Ends}{f:Flow}{s':zbe5} (h:SP (X.wish E) pins D f s'):SP X pins D f s':=by
 cases f with
 |next=>obtain⟨σ',H',I,q⟩:=h;exact⟨σ',H',I.unwish,q⟩
 |brk=>obtain⟨σ',H',I,q⟩:=h;exact⟨σ',H',I.unwish,q⟩
 |cont=>obtain⟨σ',H',I,q⟩:=h;exact⟨σ',H',I.unwish,q⟩
 |ret u=>obtain⟨v,σ',H',I,r,q⟩:=h;exact⟨v,σ',H',I.unwish,r,q⟩
theorem PSs.nox {st:List Stmt}{t:TS} (h:PSs X.nox st t):PSs X st t:=fun pins s σ H D I hw =>
 wpAny_mono (h pins s σ H D (I.wish _) hw) (fun _ _ q=>q.unwish) fun _ _ z=>False.elim z
end
section
variable {X:Cx}{st:Stmt}{rest:List Stmt}{t u:TS}{e:Expr}{te:TE}{pos:Pos}
def tNext:TS:=fun D σ H=>D.nx σ H
def tSeq (t u:TS):TS:=fun D σ H=>t { D with nx:=u D } σ H
theorem zav7:PSs X [] tNext:=fun _ _ σ H _ I h=>wpAny_execs_nil ⟨σ,H,I,h⟩
theorem zao7 (h1:PS X st t) (h2:PSs X rest u):PSs X (st::rest) (tSeq t u):=by
 intro pins s σ H D I h
 refine wpAny_execs_cons (thn (h1 pins s σ H { D with nx:=u D } I h) fun f s1 q=>?_)
 cases f with
 |next =>
  obtain⟨σ',H',I',q⟩:=q
  exact h2 pins s1 σ' H' D I' q
 |ret v=>exact q
 |brk=>exact q
 |cont=>exact q
theorem zav6 (h1:PS X st t):PSs X [st] t:=by
 intro pins s σ H D I h
 refine wpAny_execs_cons (thn (h1 pins s σ H D I h) fun f s1 q=>?_)
 cases f with
 |next=>exact wpAny_execs_nil q
 |ret v=>exact q
 |brk=>exact q
 |cont=>exact q
theorem Inv.quiet {pins:List (Addr×Obj)}{σ:St}{H:Hp}{s:zbe5} (I:Inv X pins σ H s):interactive X.env=false:=by simp [interactive,I.ok.kind]
def tDrop (te:TE):TS:=fun D σ H=>te σ H fun _ H1=>D.nx σ H1
theorem ps_expr (he:PE X e te) (hs:swapsWith e none pos.line X.env=pure false:=by rfl):PS X (.Expr e pos) (tDrop te):=by
 intro pins s σ H D I h
 exact wpAny_Expr_any (thn (he pins s σ H _ I h) fun v s1 ⟨x,H1,I1,r1,q1⟩=>⟨σ,H1,I1,q1⟩) I.quiet hs
def tRet (te:TE):TS:=fun D σ H=>te σ H D.rt
theorem zav9 (he:PE X e te):PS X (.Return (some e) pos) (tRet te):=by
 intro pins s σ H D I h
 exact wpAny_Return_some (thn (he pins s σ H _ I h) fun v s1 ⟨x,H1,I1,r1,q1⟩=>⟨x,σ,H1,I1,r1,q1⟩)
def tIfS (c:TT) (t u:TS):TS:=fun D σ H=>c σ H fun b H1=>if b=true then t D σ H1 else u D σ H1
theorem ps_if {c:Expr}{a b:List Stmt}{tc:TT} (hc:PT X c tc) (ha:PSs X a t) (hb:PSs X b u):PS X (.If c a b pos) (tIfS tc t u):=by
 intro pins s σ H D I h
 refine wpAny_If (thn (hc pins s σ H _ I h) fun d s1 ⟨H1,I1,q1⟩=>?_)
 cases d with
 |true=>exact ha pins s1 σ H1 D I1 q1
 |false=>exact hb pins s1 σ H1 D I1 q1
end
abbrev TG:=V→St→Hp→(St→Hp→Prop)→Prop
abbrev TGs:=List V→St→Hp→(St→Hp→Prop)→Prop
noncomputable def PG (X:Cx) (target:Expr) (t:TG):Prop :=
 ∀(pins:List (Addr×Obj)) (s:zbe5) (σ:St) (H:Hp) (v:V) (u:Value) (Q:St→Hp→Prop),Inv X pins σ H s→RelV v u→t v σ H Q →
  wpAny (model X.prog X.w) X.A (assign target X.env u) (fun _ s' => ∃σ' H',Inv X pins σ' H' s'∧Q σ' H') X.xe s
noncomputable def PGs (X:Cx) (ts:List Expr) (t:TGs):Prop :=
 ∀(pins:List (Addr×Obj)) (s:zbe5) (σ:St) (H:Hp) (vs:List V) (us:List Value) (Q:St→Hp→Prop),Inv X pins σ H s→Vals vs us→t vs σ H Q →
  wpAny (model X.prog X.w) X.A (assignInOrder ((assignEach ts X.env).map (·.2)) us) (fun _ s' => ∃σ' H',Inv X pins σ' H' s'∧Q σ' H') X.xe s
abbrev TSet:=V→V→V→Hp→(Hp→Prop)→Prop
noncomputable def PSet (X:Cx) (t:TSet):Prop :=
 ∀(pins:List (Addr×Obj)) (s:zbe5) (σ:St) (H:Hp) (o i v:V) (ov iv u:Value) (Q:Hp→Prop),Inv X pins σ H s→RelV o ov→RelV i iv→RelV v u→t o i v H Q →
  wpAny (model X.prog X.w) X.A (setItem ov iv u) (fun _ s' => ∃H',Inv X pins σ H' s'∧Q H') X.xe s
section
variable {X:Cx}{pos:Pos}
def gName (i:Nat):TG:=fun v σ H Q=>Q (σ.set i (some v)) H
theorem zc5 {i:Nat}{x:Str} (hN:X.N.Nodup) (hi:X.N[i]?=some x) (hx:Loc X.env.scope x) (hf:X.fn x=true∨X.env.scope.names.lookup x=some .local:=by first | exact .inl rfl | exact .inr rfl | assumption):PG X (.Name x pos) (gName i):=by
 intro pins s σ H v u Q I r h
 exact wpAny_assign_Name (zan5 I hN hi hx r (fun s' I'=>⟨_,H,I',h⟩) hf)
def gNil:TGs:=fun vs σ H Q=>vs=[]∧Q σ H
def gCons (t:TG) (u:TGs):TGs:=fun vs σ H Q => ∃v r,vs=v::r∧t v σ H fun σ' H'=>u r σ' H' Q
theorem zw5:PGs X [] gNil:=by
 intro pins s σ H vs us Q I r h
 obtain⟨e,h⟩:=h
 subst e
 cases r
 exact assignInOrder_nil ⟨σ,H,I,h⟩
theorem zi8 {e:Expr}{es:List Expr}{t:TG}{u:TGs} (h1:PG X e t) (h2:PGs X es u)
  (hs:(assignEach (e::es) X.env).map (·.2)=assign e X.env ::(assignEach es X.env).map (·.2):=by rfl):PGs X (e::es) (gCons t u):=by
 intro pins s σ H vs us Q I r h
 obtain⟨v,vr,e1,h⟩:=h
 subst e1
 cases r with
 |cons r rr =>
  rw [hs]
  refine assignInOrder_cons (thn (h1 pins s σ H _ _ _ I r h) fun _ s1 ⟨σ1,H1,I1,q1⟩=>?_)
  exact h2 pins s1 σ1 H1 _ _ Q I1 rr q1
def gTup (K:zbd4) (n:Nat) (t:TGs):TG:=fun v σ H Q => ∃a xs,v=.ref a∧SqT K H a xs∧xs.length=n∧t xs σ H Q
theorem zap1 {es:List Expr}{k:Nat}{t:TGs}{n:Nat} (hc:X.calm=true) (h:PGs X es t)
  (hn:(assignEach es X.env).length=n:=by rfl) (hst:(assignEach es X.env).findIdx? (·.1)=none:=by rfl):PG X (.Tuple es k pos) (gTup X.K n t):=by
 intro pins s σ H v u Q I r hw
 obtain⟨a,xs,e1,hq,hl,hw⟩:=hw
 subst e1
 cases r
 obtain⟨its,rv,ht,hz⟩:=I.tuple hq
 refine assign_Tuple_tuple (I.ok.hd hc) ht (by simp [hn, ← hl,rv.length]) hst fun h' hx=>?_
 have I1:Inv X pins σ H { s with heap:=h' }:=I.kept (t':=s.toks) fun b o e=>hx b o (zbg0 (zbe6 e)) e
 exact h pins _ σ H xs _ Q I1 (by simpa using rv) hw
def gSub (to ti:TE) (t:TSet):TG:=fun v σ H Q=>to σ H fun o H1=>ti σ H1 fun i H2=>t o i v H2 fun H3=>Q σ H3
theorem pg_sub {o i:Expr}{to ti:TE}{t:TSet} (ho:PE X o to) (hi:PE X i ti) (hs:PSet X t)
  (ha:∀v,assign (.Subscript o i pos) X.env v=(do
   let ov ← holding [v] (eval o X.env)
   let iv ← holding [v,ov] (eval i X.env)
   standAt pos
   holding [v,ov,iv] (setItem ov iv v)
   release [v,ov,iv] []):=by intro _;rfl):PG X (.Subscript o i pos) (gSub to ti t):=by
 intro pins s σ H v u Q I r h
 rw [ha]
 refine zbf2 (wpAny_holding (thn (ho pins s σ H _ I h) fun ov s1 ⟨x,H1,I1,r1,q1⟩=>?_))
 refine zbf2 (wpAny_holding (thn (hi pins s1 σ H1 _ I1 q1) fun iv s2 ⟨y,H2,I2,r2,q2⟩=>?_))
 refine zbf2 (wpAny_standAt (zbf2 (wpAny_holding (thn (hs pins s2 σ H2 x y v ov iv u _ I2 r1 r2 r q2) fun _ s3 ⟨H3,I3,q3⟩=>?_))))
 exact wpAny_release ⟨σ,H3,I3,q3⟩
def tAsg (te:TE) (g:TG):TS:=fun D σ H=>te σ H fun x H1=>g x σ H1 D.nx
theorem ps_asg {tg e:Expr}{te:TE}{g:TG} (he:PE X e te) (hg:PG X tg g) (hs:swapsWithSole [tg] e pos.line X.env=pure false:=by rfl) (hw:swappedStores [tg] e X.env=pure none:=by rfl)
  (h1:(assignEach [tg] X.env).map (·.2)=[assign tg X.env]:=by rfl):PS X (.Assign [tg] e pos) (tAsg te g):=by
 intro pins s σ H D I h
 refine wpAny_Assign_stores (thn (he pins s σ H _ I h) fun v s1 ⟨x,H1,I1,r1,q1⟩=>?_) hs hw
 rw [h1]
 exact thn (hg pins s1 σ H1 x v _ I1 r1 q1) fun _ s2 q=>q
theorem ps_set {i:Nat}{x:Str}{e:Expr}{te:TE}{pos':Pos} (hN:X.N.Nodup) (hi:X.N[i]?=some x) (hx:Loc X.env.scope x) (he:PE X e te) (hs:swapsWith e (some (.Name x pos')) pos.line X.env=pure false:=by rfl) (hf:X.fn x=true∨X.env.scope.names.lookup x=some .local:=by first | exact .inl rfl | exact .inr rfl | assumption) :
  PS X (.Assign [.Name x pos'] e pos) (tAsg te (gName i)):=by
 intro pins s σ H D I h
 refine wpAny_Assign_Name (thn (he pins s σ H _ I h) fun v s1 ⟨y,H1,I1,r1,q1⟩=>?_) hs
 exact zan5 I1 hN hi hx r1 (fun s2 I2=>⟨_,H1,I2,q1⟩) hf
end
section
variable {X:Cx}{pos:Pos}
noncomputable def tWhile (c:TT) (tb:TS):TS:=fun D σ H => ∃W:Nat→St→Hp→Prop,(∃m,W m σ H)∧∀m σ H,W m σ H →
 c σ H fun b H1=>if b=true then ∃N:St→Hp→Prop,(∀σ' H',N σ' H'→∃m',m' < m∧W m' σ' H')∧tb { D with nx:=N,ct:=N,bk:=D.nx } σ H1 else D.nx σ H1
theorem ps_while {c:Expr}{body:List Stmt}{tc:TT}{tb:TS} (hp:PassesOwn (model X.prog X.w) X.A X.env X.xe) (hc:PT X c tc) (hb:PSs X body tb):PS X (.While c body [] pos) (tWhile tc tb):=by
 intro pins s σ H D I h
 obtain⟨W,⟨m0,w0⟩,turn⟩:=h
 refine wpAny_While (codeAny_whileLoop (fun n s' => ∃σ' H',Inv X pins σ' H' s'∧W n σ' H') ?_ m0 ⟨σ,H,I,w0⟩)
 rintro n s1 ⟨σ1,H1,I1,w1⟩
 refine wpAny_passesOwn hp (thn (hc pins s1 σ1 H1 _ I1 (turn n σ1 H1 w1)) fun b s2 ⟨H2,I2,q2⟩=>?_)
 cases b with
 |true =>
  obtain⟨N,hN,q2⟩:=q2
  rw [if_pos rfl]
  refine wpAny_passesOwn hp (thn (hb pins s2 σ1 H2 _ I2 q2) fun f s3 q3=>?_)
  cases f with
  |next =>
   obtain⟨σ3,H3,I3,n3⟩:=q3
   obtain⟨m',hm,w3⟩:=hN σ3 H3 n3
   exact⟨m',hm,σ3,H3,I3,w3⟩
  |cont =>
   obtain⟨σ3,H3,I3,n3⟩:=q3
   obtain⟨m',hm,w3⟩:=hN σ3 H3 n3
   exact⟨m',hm,σ3,H3,I3,w3⟩
  |brk=>exact q3
  |ret v=>exact q3
 |false =>
  rw [if_neg zbf1]
  exact wpAny_execs_nil ⟨σ1,H2,I2,q2⟩
end
structure It where
 go:Nat→Hp→Prop
 yld:Nat→Hp→V→Hp→Prop
 stop:Nat→Hp→Prop
noncomputable def FpOk (X:Cx) (pins:List (Addr×Obj)) (H:Hp) (b:Addr):Prop :=
 H b=none∧b≠X.env.locals∧b∉X.fs∧(b∈X.ex∨X.s₀.heap.objs.size≤b)∧(∀x c,X.env.cells.lookup x=some c→c≠b)∧∀p∈X.pn++pins,p.1≠b
theorem Inv.fpOk {X:Cx}{pins:List (Addr×Obj)}{σ:St}{H H':Hp}{s:zbe5}{b:Addr} (I:Inv X pins σ H s) (hb:s.heap.objs.size≤b) (hn:H' b=none):FpOk X pins H' b:=by
 refine⟨hn,zbm4 (zbf0 I.lt hb),I.nofs hb,.inr (zbh3 I.sz hb),fun x c e z=>?_,fun p hp z=>?_⟩
 ·obtain⟨v,q⟩:=I.cell x c e
  exact absurd (zbf0 q.lt (by rw [z];exact hb)) (zbi3 _)
 ·exact absurd (zbf0 (zbe6 (I.pin p hp).1) (by rw [z];exact hb)) (zbi3 _)
structure Turn (P:Program) (w:World) (K:zbd4) (tg:Expr) (J:It) (fp:List Addr) (it:Addr) (tn:Nat→Heap→Prop):Prop where
 mem:it∈fp
 obj:∀i h,tn i h→∀b∈fp,∃o,h.get? b=some o∧∀v,o.data≠.cell v
 keep:∀i h h',tn i h→(∀b∈fp,∀o,h.get? b=some o→h'.get? b=some o)→tn i h'
 item:∀(X:Cx),X.prog=P→X.w=w→X.K=K→X.calm=true→∀(i:Nat) (pins:List (Addr×Obj)) (s:zbe5) (σ:St) (H:Hp) (E:Value→zbe5→Prop),Inv X pins σ H s→(∀b∈fp,FpOk X pins H b)→tn i s.heap→J.go i H →
  wpAny (model P w) X.A (pyNext (.ref it)) (fun r s1 => ∃u,r=some u ∧
   wpAny (model P w) X.A (letOwnedTupleGo tg (.ref it) u) (fun _ s2 => ∃x H',Inv X pins σ H' s2∧RelV x u∧J.yld i H x H'∧tn (i+1) s2.heap∧∀b∈fp,H' b=none) E s1) E s
 done:∀(X:Cx),X.prog=P→X.w=w→X.K=K→X.calm=true→∀(i:Nat) (pins:List (Addr×Obj)) (s:zbe5) (σ:St) (H:Hp) (E:Value→zbe5→Prop),Inv X pins σ H s→(∀b∈fp,FpOk X pins H b)→tn i s.heap→J.stop i H →
  wpAny (model P w) X.A (pyNext (.ref it)) (fun r s1=>r=none∧Inv X pins σ H s1) E s
 self:∀(A:Around) (i:Nat) (s:zbe5) (Q:Value→zbe5→Prop) (E:Value→zbe5→Prop),tn i s.heap→Q (.ref it) s→wpAny (model P w) A (pyIter (.ref it)) Q E s
abbrev TI:=St→Hp→(It→Hp→Prop)→Prop
noncomputable def PIE (X:Cx) (pins:List (Addr×Obj)) (σ:St) (tg:Expr) (R:It→Hp→Prop) (itv:Value) (s2:zbe5):Prop :=
 ∃(it:Addr) (fp:List Addr) (tn:Nat→Heap→Prop) (J:It) (H':Hp),itv=.ref it∧Inv X pins σ H' s2∧Turn X.prog X.w X.K tg J fp it tn∧tn 0 s2.heap∧(∀b∈fp,FpOk X pins H' b)∧R J H'
noncomputable def PI (X:Cx) (tg iter:Expr) (wi:TI):Prop :=
 ∀(pins:List (Addr×Obj)) (s:zbe5) (σ:St) (H:Hp) (R:It→Hp→Prop),Inv X pins σ H s→wi σ H R →
  wpAny (model X.prog X.w) X.A (eval iter X.env) (fun v s1=>wpAny (model X.prog X.w) X.A (pyIter v) (PIE X pins σ tg R) X.xe s1) X.xe s
theorem go_of {M:Model}{A:Around}{E:Value→zbe5→Prop}{s:zbe5}{tg:Expr}{it:Addr}{u:Value}{o:Obj}{n:String}{vs:Array Value}{Q:Unit→zbe5→Prop} (ho:s.heap.get? it=some o) (hc:o.cls=.type n) (hd:o.data=.fields vs)
  (hn:["enumerate", "zip", "dict_itemiterator", "dict_reverseitemiterator", "odict_iterator", "itertools.zip_longest", "itertools.pairwise"].contains n=false) (hQ:Q () s):wpAny M A (letOwnedTupleGo tg (.ref it) u) Q E s:=by
 unfold letOwnedTupleGo
 cases tg<;>first
  |exact zbg4 hQ
  |(cases u<;>first
    |exact zbg4 hQ
    |(refine zbf2 (wpAny_load ho ?_)
      rw [hc,hd]
      show wpAny M A (if (["enumerate", "zip", "dict_itemiterator", "dict_reverseitemiterator", "odict_iterator", "itertools.zip_longest", "itertools.pairwise"].contains n&&vs[0]? == some (rawInt _))=true then _ else _) Q E s
      rw [if_neg (by intro h;rw [hn,Bool.false_and]at h;cases h)]
      exact zbg4 hQ))
noncomputable def Itl (K:zbd4) (a:Addr):It :=
 ⟨fun i H => ∃xs x,SqL K H a xs∧xs[i]?=some x,fun i H x H'=>H'=H∧∀xs,SqL K H a xs→xs[i]?=some x,fun i H => ∃xs,SqL K H a xs∧xs.length≤i⟩
noncomputable def Itt (K:zbd4) (a:Addr):It :=
 ⟨fun i H => ∃xs x,SqT K H a xs∧xs[i]?=some x,fun i H x H'=>H'=H∧∀xs,SqT K H a xs→xs[i]?=some x,fun i H => ∃xs,SqT K H a xs∧xs.length≤i⟩
def Itr (lo:Int) (n:Nat):It:=⟨fun i _=>i<n,fun i H x H'=>H'=H∧x=.int (lo+i),fun i _=>n≤i⟩
theorem zau3 {P:Program}{w:World}{K:zbd4}{tg:Expr} (a it:Addr):Turn P w K tg (Itl K a) [it] it (fun i h=>h.IsListIter it a i) where
 mem:=by simp
 obj:=fun i h st b hb=>by
  have e:b=it:=by simpa using hb
  subst e
  obtain⟨o,e,c,d⟩:=st
  exact⟨o,e,fun v z=>by rw [d]at z;cases z⟩
 keep:=fun i h h' st k=>st.at fun o e=>k it (by simp) o e
 item:=by
  intro X hP hw hK hc i pins s σ H E I hf st hg
  subst hP hw hK
  obtain⟨xs,x,hq,hx⟩:=hg
  obtain⟨its,rv,p,hz⟩:=I.list hq
  obtain⟨u,hu,ru⟩:=rv.get hx
  obtain⟨f0,f1,f2,f3,f4,f5⟩:=hf it (by simp)
  refine wpAny_pyNext_list_item st p.isList (x:=u) (by simpa using hu) fun h' st' sb=>?_
  have I1:Inv X pins σ H { s with heap:=h' }:=I.turned (t':=s.toks) (fun b o hb e=>(sb.2 b hb).trans e) f0 f1 f3 f4 f5
  obtain⟨o,e,c,d⟩:=id st'
  exact⟨u,rfl,go_of (s:={ s with heap:=h' }) e c d (by decide) ⟨x,H,I1,ru,⟨rfl,fun ys hy=>by rw [I.list_inj hy hq];exact hx⟩,st',fun b hb=>(hf b hb).1⟩⟩
 done:=by
  intro X hP hw hK hc i pins s σ H E I hf st hg
  subst hP hw hK
  obtain⟨xs,hq,hx⟩:=hg
  obtain⟨its,rv,p,hz⟩:=I.list hq
  obtain⟨f0,f1,f2,f3,f4,f5⟩:=hf it (by simp)
  have hl:=rv.length
  exact wpAny_pyNext_list_end (I.ok.hd hc) st p.isList (by simp;lia) fun h' eb=>⟨rfl,I.turned (t':=s.toks) (fun b o hb e=>eb b o hb e) f0 f1 f3 f4 f5⟩
 self:=fun _ _ _ _ _ st h=>wpAny_pyIter_listiter st h
theorem zar6 {P:Program}{w:World}{K:zbd4}{tg:Expr} (a it:Addr):Turn P w K tg (Itt K a) [it] it (fun i h=>h.IsTupleIter it a i) where
 mem:=by simp
 obj:=fun i h st b hb=>by
  have e:b=it:=by simpa using hb
  subst e
  obtain⟨o,e,c,d⟩:=st
  exact⟨o,e,fun v z=>by rw [d]at z;cases z⟩
 keep:=fun i h h' st k=>st.at fun o e=>k it (by simp) o e
 item:=by
  intro X hP hw hK hc i pins s σ H E I hf st hg
  subst hP hw hK
  obtain⟨xs,x,hq,hx⟩:=hg
  obtain⟨its,rv,p,hz⟩:=I.tuple hq
  obtain⟨u,hu,ru⟩:=rv.get hx
  obtain⟨f0,f1,f2,f3,f4,f5⟩:=hf it (by simp)
  refine wpAny_pyNext_tuple_item st (show s.heap.IsTuple a its.toArray from p) (x:=u) (by simpa using hu) fun h' st' sb=>?_
  have I1:Inv X pins σ H { s with heap:=h' }:=I.turned (t':=s.toks) (fun b o hb e=>(sb.2 b hb).trans e) f0 f1 f3 f4 f5
  obtain⟨o,e,c,d⟩:=id st'
  exact⟨u,rfl,go_of (s:={ s with heap:=h' }) e c d (by decide) ⟨x,H,I1,ru,⟨rfl,fun ys hy=>by rw [I.tuple_inj hy hq];exact hx⟩,st',fun b hb=>(hf b hb).1⟩⟩
 done:=by
  intro X hP hw hK hc i pins s σ H E I hf st hg
  subst hP hw hK
  obtain⟨xs,hq,hx⟩:=hg
  obtain⟨its,rv,p,hz⟩:=I.tuple hq
  obtain⟨f0,f1,f2,f3,f4,f5⟩:=hf it (by simp)
  have hl:=rv.length
  exact wpAny_pyNext_tuple_end (I.ok.hd hc) st (show s.heap.IsTuple a its.toArray from p) (by simp;lia) fun h' eb=>⟨rfl,I.turned (t':=s.toks) (fun b o hb e=>eb b o hb e) f0 f1 f3 f4 f5⟩
 self:=fun _ _ _ _ _ st h=>wpAny_pyIter_tupleiter st h
theorem zar7 {P:Program}{w:World}{K:zbd4}{tg:Expr} (it:Addr) (lo:Int) (n:Nat):Turn P w K tg (Itr lo n) [it] it (fun i h=>IsRangeIter h it (lo+(i:Nat)*1) ((n:Int) - (i:Nat)) 1) where
 mem:=by simp
 obj:=fun i h st b hb=>by
  have e:b=it:=by simpa using hb
  subst e
  exact⟨_,st,fun v z=>by
   have z':Data.fields _=Data.cell v:=z
   cases z'⟩
 keep:=fun i h h' st k=>k it (by simp) _ st
 item:=by
  intro X hP hw hK hc i pins s σ H E I hf st hg
  subst hP hw hK
  obtain⟨f0,f1,f2,f3,f4,f5⟩:=hf it (by simp)
  have W:=Walks.range (prog:=X.prog) (w:=X.w) (I.ok.hd hc) it lo 1 n
  refine W.item i s _ _ hg st fun v h' tk hv st' kk=>?_
  obtain⟨t,rfl⟩:=hv
  have I1:Inv X pins σ H { s with heap:=h',toks:=tk }:=I.turned (fun b o hb e=>kk b o (by simpa using hb) e) f0 f1 f3 f4 f5
  refine⟨_,rfl,go_of (s:={ s with heap:=h',toks:=tk }) (n := "range_iterator") st' rfl rfl (by decide) ⟨.int (lo+i),H,I1,⟨t,?_⟩,⟨rfl,rfl⟩,st',fun b hb=>(hf b hb).1⟩⟩
  rw [Int.mul_one]
 done:=by
  intro X hP hw hK hc i pins s σ H E I hf st hg
  subst hP hw hK
  obtain⟨f0,f1,f2,f3,f4,f5⟩:=hf it (by simp)
  exact wpAny_pyNext_range_end (I.ok.hd hc) st (by have:n≤i:=hg;lia) fun h' eb=>⟨rfl,I.turned (t':=s.toks) (fun b o hb e=>eb b o hb e) f0 f1 f3 f4 f5⟩
 self:=fun _ _ _ _ _ st h=>wpAny_pyIter_rangeiter st h
end L2
namespace L2
open PySem.Spec
section
variable {X:Cx}{tg:Expr}
def iList (K:zbd4) (tl:TE):TI:=fun σ H R=>tl σ H fun x H1 => ∃a,x=.ref a∧(∃xs,SqL K H1 a xs)∧R (Itl K a) H1
def iTup (K:zbd4) (tl:TE):TI:=fun σ H R=>tl σ H fun x H1 => ∃a,x=.ref a∧(∃xs,SqT K H1 a xs)∧R (Itt K a) H1
theorem zak5 {l:Expr}{tl:TE} (hl:PE X l tl):PI X tg l (iList X.K tl):=by
 intro pins s σ H R I h
 refine thn (hl pins s σ H _ I h) fun v s1 ⟨x,H1,I1,r1,q1⟩=>?_
 obtain⟨a,e,⟨xs,hq⟩,q⟩:=q1
 subst e
 cases r1
 obtain⟨its,rv,p,hz⟩:=I1.list hq
 refine wpAny_pyIter_list p.isList ?_
 refine⟨s1.heap.objs.size,[s1.heap.objs.size],_,_,H1,rfl,I1.kept (t':=s1.toks) fun b o e=>zbe4 _ e,zau3 a _,⟨_,zbg5 _ rfl,rfl,rfl⟩,fun b hb=>?_,q⟩
 have e:b=s1.heap.objs.size:=by simpa using hb
 subst e
 exact I1.fpOk (zbf6 _) (I1.hok.fresh (zbf6 _))
theorem pi_tup {l:Expr}{tl:TE} (hl:PE X l tl):PI X tg l (iTup X.K tl):=by
 intro pins s σ H R I h
 refine thn (hl pins s σ H _ I h) fun v s1 ⟨x,H1,I1,r1,q1⟩=>?_
 obtain⟨a,e,⟨xs,hq⟩,q⟩:=q1
 subst e
 cases r1
 obtain⟨its,rv,p,hz⟩:=I1.tuple hq
 refine wpAny_pyIter_tuple (show s1.heap.IsTuple a its.toArray from p) ?_
 refine⟨s1.heap.objs.size,[s1.heap.objs.size],_,_,H1,rfl,I1.kept (t':=s1.toks) fun b o e=>zbe4 _ e,zar6 a _,⟨_,zbg5 _ rfl,rfl,rfl⟩,fun b hb=>?_,q⟩
 have e:b=s1.heap.objs.size:=by simpa using hb
 subst e
 exact I1.fpOk (zbf6 _) (I1.hok.fresh (zbf6 _))
theorem zao2 {pins:List (Addr×Obj)}{σ:St}{H:Hp}{s:zbe5}{R:It→Hp→Prop}{E:Value→zbe5→Prop}{lo hi:Int}{t u v:Tok}{tk:Nat} (I:Inv X pins σ H s) (h1 : -(2 ^ 62)≤lo) (h2:lo<2 ^ 62) (h3 : -(2 ^ 62)≤hi) (h4:hi<2 ^ 62)
  (q:R (Itr lo (hi - lo).toNat) H):wpAny (model X.prog X.w) X.A (pyIter (.ref s.heap.objs.size)) (PIE X pins σ tg R) E { s with heap:=s.heap.push { cls:=.type "range",data:=.fields #[.int lo t,.int hi u,.int 1 v] },toks:=tk }:=by
 refine wpAny_pyIter_range (IsRange.new ..) (small_one h1 h2 h3 h4) ?_
 have I1:Inv X pins σ H { s with heap:=s.heap.push { cls:=.type "range",data:=.fields #[.int lo t,.int hi u,.int 1 v] },toks:=tk }:=I.kept fun b o e=>zbe4 _ e
 refine⟨(s.heap.push { cls:=.type "range",data:=.fields #[.int lo t,.int hi u,.int 1 v] }).objs.size,[(s.heap.push { cls:=.type "range",data:=.fields #[.int lo t,.int hi u,.int 1 v] }).objs.size],_,_,H,rfl,
  I1.kept (t':=tk) fun b o e=>zbe4 _ e,zar7 _ lo (hi - lo).toNat,?_,fun b hb=>?_,q⟩
 ·have e1:lo+((0:Nat):Int)*1=lo:=by simp
  have e2:(((hi - lo).toNat:Nat):Int) - ((0:Nat):Int)=Builtin.Range.rangeSize lo hi 1:=by rw [rangeSize_one];split<;>lia
  show IsRangeIter _ _ (lo+((0:Nat):Int)*1) ((((hi - lo).toNat:Nat):Int) - ((0:Nat):Int)) 1
  rw [e1,e2]
  exact zbg5 _ rfl
 ·have e:b=(s.heap.push { cls:=.type "range",data:=.fields #[.int lo t,.int hi u,.int 1 v] }).objs.size:=by simpa using hb
  subst e
  exact I1.fpOk (zbf6 _) (I1.hok.fresh (zbf6 _))
def iRng1 (ta:TA):TI:=fun σ H R=>ta σ H fun vs H1 => ∃j:Int,vs=[.int j] ∧ -(2 ^ 62)≤j∧j<2 ^ 62∧R (Itr 0 j.toNat) H1
noncomputable def iRng2 (ta:TA):TI:=fun σ H R=>ta σ H fun vs H1 => ∃i j:Int,vs=[.int i,.int j]∧(-(2 ^ 62)≤i∧i<2 ^ 62 ∧ -(2 ^ 62)≤j∧j<2 ^ 62)∧R (Itr i (j - i).toNat) H1
theorem zw4 {a:Expr}{ta:TA}{p pos:Pos} (hg:Gl X "range") (hm:X.mg "range"=none) (ha:PA X [a] ta) (hs:zbe7 [a] X.env=[(false,eval a X.env)]:=by rfl):PI X tg (.Call (.Name "range" p) [a] [] pos) (iRng1 ta):=by
 intro pins s σ H R I h
 refine Call_ (zm4 I hg hm boot_range (PyProof.Rows.callWith_type1 (thn (ha pos pins s σ H _ I h) fun us s1 ⟨vs,H1,I1,r1,q1⟩=>?_) hs rfl))
 obtain⟨j,e,q1,q2,q⟩:=q1
 subst e
 cases r1 with
 |cons r rr =>
  cases rr
  obtain⟨t,rfl⟩:=r
  exact call_range_1 (zao2 I1 (by lia) (by lia) q1 q2 (by simpa using q))
theorem zaf1 {a b:Expr}{ta:TA}{p pos:Pos} (hg:Gl X "range") (hm:X.mg "range"=none) (ha:PA X [a,b] ta) (hs:zbe7 [a,b] X.env=[(false,eval a X.env),(false,eval b X.env)]:=by rfl) (hs2:zbe7 [b] X.env=[(false,eval b X.env)]:=by rfl) :
  PI X tg (.Call (.Name "range" p) [a,b] [] pos) (iRng2 ta):=by
 intro pins s σ H R I h
 refine Call_ (zm4 I hg hm boot_range (PyProof.Rows.callWith_type1 (thn (ha pos pins s σ H _ I h) fun us s1 ⟨vs,H1,I1,r1,q1⟩=>?_) (by rw [hs,hs2]) (by rw [hs2];rfl)))
 obtain⟨i,j,e,⟨q1,q2,q3,q4⟩,q⟩:=q1
 subst e
 cases r1 with
 |cons r rr =>
  cases rr with
  |cons r' rr =>
   cases rr
   obtain⟨t,rfl⟩:=r
   obtain⟨t',rfl⟩:=r'
   exact call_range_2 (zao2 I1 q1 q2 q3 q4 q)
noncomputable def tFor (wi:TI) (g:TG) (tb:TS):TS:=fun D σ H=>wi σ H fun J H1 => ∃W:Nat→Nat→St→Hp→Prop,(∃m,W 0 m σ H1)∧∀i m σ H,W i m σ H →
 (J.stop i H∧D.nx σ H)∨(J.go i H∧∃N:St→Hp→Prop,(∀σ' H',N σ' H'→∃m',m' < m∧W (i+1) m' σ' H')∧∀x H',J.yld i H x H'→g x σ H' fun σ2 H2=>tb { D with nx:=N,ct:=N,bk:=D.nx } σ2 H2)
def zo8 (fp:List Addr) (h:Heap):List (Addr×Obj):=fp.filterMap fun b=>(h.get? b).map fun o=>(b,o)
theorem zf4 {fp:List Addr}{h:Heap}{b:Addr}{o:Obj} (hb:b∈fp) (e:h.get? b=some o):(b,o)∈zo8 fp h:=zbn6.mpr ⟨b,hb,by rw [e];rfl⟩
theorem zax2 {fp:List Addr}{h:Heap}{p:Addr×Obj} (hp:p∈zo8 fp h):p.1∈fp∧h.get? p.1=some p.2:=by
 obtain⟨b,hb,e⟩:=zbn6.mp hp
 cases q:h.get? b with
 |none=>rw [q]at e;cases e
 |some o =>
  rw [q]at e
  have e':(b,o)=p:=Option.some.inj e
  subst e'
  exact⟨hb,q⟩
theorem Inv.pinned {pins:List (Addr×Obj)}{σ:St}{H:Hp}{s:zbe5}{fp:List Addr} (I:Inv X pins σ H s) (hf:∀b∈fp,FpOk X pins H b) (ho:∀b∈fp,∃o,s.heap.get? b=some o∧∀v,o.data≠.cell v):Inv X (pins++zo8 fp s.heap) σ H s :=
 I.pins_of fun p hp=>(zbd8.mp hp).elim (fun z=>I.pin p (zbd3 _ z)) fun z=>by
  obtain⟨hb,e⟩:=zax2 z
  obtain⟨f0,f1,f2,_⟩:=hf p.1 hb
  obtain⟨o,e',d⟩:=ho p.1 hb
  rw [e]at e';cases e'
  exact⟨e,f0,f1,f2,d⟩
theorem Inv.unpinned {pins pl:List (Addr×Obj)}{σ:St}{H:Hp}{s:zbe5} (I:Inv X (pins++pl) σ H s):Inv X pins σ H s:=I.pins_of fun p hp=>I.pin p (zbd3 _ (zbd5 _ hp))
theorem zao8 {iter:Expr}{body:List Stmt}{wi:TI}{g:TG}{tb:TS}{pos:Pos} (hp:PassesOwn (model X.prog X.w) X.A X.env X.xe) (hc:X.calm=true) (hi:PI X tg iter wi) (hg:PG X tg g) (hb:PSs X body tb)
  (hs:∀x,foldedSetIterable iter X.env x=pure x:=by intro _;rfl):PS X (.For tg iter body [] pos) (tFor wi g tb):=by
 intro pins s σ H D I h
 refine wpAny_For (thn (hi pins s σ H _ I h) fun v s1 h1=>thn h1 fun itv s2 h2=>?_) hs
 obtain⟨it,fp,tn,J,H2,e,I2,T,st2,f2,W,⟨m0,w0⟩,turn⟩:=h2
 subst e
 -- what stays true of the iterator's objects through the loop
 have stat:∀ {H':Hp},(∀b∈fp,H' b=none)→∀b∈fp,FpOk X pins H' b:=fun hn b hb=>⟨hn b hb,(f2 b hb).2⟩
 refine codeAny_forLoop_any (fun n s' => ∃i σ' H',Inv X pins σ' H' s'∧tn i s'.heap∧(∀b∈fp,H' b=none)∧W i n σ' H') ?_ m0 ⟨0,σ,H2,I2,st2,fun b hb=>(f2 b hb).1,w0⟩
 rintro n s3 ⟨i,σ3,H3,I3,st3,fr3,w3⟩
 rcases turn i n σ3 H3 w3 with ⟨stop,qn⟩ | ⟨go,N,hN,step⟩
 ·refine wpAny_passesOwn hp (thn (T.done X rfl rfl rfl hc i pins s3 σ3 H3 X.xe I3 (stat fr3) st3 stop) fun r s4 ⟨hr,I4⟩=>?_)
  subst hr
  exact wpAny_execs_nil ⟨σ3,H3,I4,qn⟩
 ·refine wpAny_passesOwn hp (thn (T.item X rfl rfl rfl hc i pins s3 σ3 H3 X.xe I3 (stat fr3) st3 go) fun r s4 ⟨u,hr,h4⟩=>?_)
  subst hr
  refine wpAny_passesOwn hp (thn h4 fun _ s5 ⟨x,H5,I5,r5,y5,st5,fr5⟩=>?_)
  have I5':=I5.pinned (stat fr5) (T.obj _ _ st5)
  refine wpAny_passesOwn hp (thn (hg _ s5 σ3 H5 x u _ I5' r5 (step x H5 y5)) fun _ s6 ⟨σ6,H6,I6,q6⟩=>?_)
  refine wpAny_passesOwn hp (thn (hb _ s6 σ6 H6 _ I6 q6) fun f s7 q7=>?_)
  have again:∀ {σ7:St}{H7:Hp},Inv X (pins++zo8 fp s5.heap) σ7 H7 s7→N σ7 H7→∃m,m<n∧∃i σ' H',Inv X pins σ' H' s7∧tn i s7.heap∧(∀b∈fp,H' b=none)∧W i m σ' H':=fun {σ7 H7} I7 n7=>by
   obtain⟨m',hm,w7⟩:=hN σ7 H7 n7
   refine⟨m',hm,i+1,σ7,H7,I7.unpinned,T.keep _ _ _ st5 fun b hb o e=>(I7.pin (b,o) (zbd3 _ (zbd3 _ (zf4 hb e)))).1,fun b hb=>?_,w7⟩
   obtain⟨o,e,d⟩:=T.obj _ _ st5 b hb
   exact (I7.pin (b,o) (zbd3 _ (zbd3 _ (zf4 hb e)))).2.1
  cases f with
  |next=>obtain⟨σ7,H7,I7,n7⟩:=q7;exact again I7 n7
  |cont=>obtain⟨σ7,H7,I7,n7⟩:=q7;exact again I7 n7
  |brk=>obtain⟨σ7,H7,I7,q7⟩:=q7;exact⟨σ7,H7,I7.unpinned,q7⟩
  |ret v=>obtain⟨x7,σ7,H7,I7,r7,q7⟩:=q7;exact⟨x7,σ7,H7,I7.unpinned,r7,q7⟩
end
end L2
namespace L2
open PySem.Spec
abbrev R2:=V→V→Hp→VK→Prop
noncomputable def OpR (X:Cx) (f:Value→Value→Sem Value) (r:R2):Prop :=
 ∀(pins:List (Addr×Obj)) (s:zbe5) (σ:St) (H:Hp) (x y:V) (v u:Value) (Q:VK),Inv X pins σ H s→RelV x v→RelV y u→r x y H Q →
  wpAny (model X.prog X.w) X.A (f v u) (EP X pins σ Q) X.xe s
noncomputable def UnR (X:Cx) (f:Value→Sem Value) (r:V→Hp→VK→Prop):Prop :=
 ∀(pins:List (Addr×Obj)) (s:zbe5) (σ:St) (H:Hp) (x:V) (v:Value) (Q:VK),Inv X pins σ H s→RelV x v→r x H Q →
  wpAny (model X.prog X.w) X.A (f v) (EP X pins σ Q) X.xe s
noncomputable def zs8 (X:Cx) (f:Value) (r:List V→Hp→VK→Prop):Prop :=
 ∀(pins:List (Addr×Obj)) (s:zbe5) (σ:St) (H:Hp) (xs:List V) (us:List Value) (Q:VK),Inv X pins σ H s→Vals xs us→r xs H Q →
  wpAny (model X.prog X.w) X.A (call f us) (EP X pins σ Q) X.xe s
noncomputable def TruR (X:Cx) (r:V→Hp→(Bool→Hp→Prop)→Prop):Prop :=
 ∀(pins:List (Addr×Obj)) (s:zbe5) (σ:St) (H:Hp) (x:V) (v:Value) (Q:Bool→Hp→Prop),Inv X pins σ H s→RelV x v→r x H Q →
  wpAny (model X.prog X.w) X.A (truthy v) (TP X pins σ Q) X.xe s
def tOp (r:R2) (ta tb:TE):TE:=fun σ H Q=>ta σ H fun x H1=>tb σ H1 fun y H2=>r x y H2 Q
def tUn (r:V→Hp→VK→Prop) (ta:TE):TE:=fun σ H Q=>ta σ H fun x H1=>r x H1 Q
def rI (C:Int→Int→Prop) (g:Int→Int→V):R2:=fun x y H Q => ∃i j,x=.int i∧y=.int j∧C i j∧Q (g i j) H
def rI0 (g:Int→Int→V):R2:=fun x y H Q => ∃i j,x=.int i∧y=.int j∧Q (g i j) H
def rU (g:Int→V):V→Hp→VK→Prop:=fun x H Q => ∃i,x=.int i∧Q (g i) H
section
variable {X:Cx}{a b c:Expr}{ta tb tc:TE}{pos:Pos}
theorem binT (ha:PE X a ta) (hb:PE X b tb) {pins:List (Addr×Obj)}{s:zbe5}{σ:St}{H:Hp}{R:V→V→Hp→Prop} (I:Inv X pins σ H s)
  (h:ta σ H fun x H1=>tb σ H1 fun y H2=>R x y H2) {Q:Value→zbe5→Prop}{f:Value→Value→Sem Value}
  (hf:∀v u s2 x y H2,Inv X pins σ H2 s2→RelV x v→RelV y u→R x y H2→wpAny (model X.prog X.w) X.A (f v u) Q X.xe s2) :
  wpAny (model X.prog X.w) X.A (eval a X.env) (fun v s₁=>wpAny (model X.prog X.w) X.A (eval b X.env) (fun u s₂=>wpAny (model X.prog X.w) X.A (f v u) Q X.xe s₂) X.xe s₁) X.xe s:=by
 refine thn (ha pins s σ H _ I h) fun v s1 ⟨x,H1,I1,r1,q1⟩=>?_
 refine thn (hb pins s1 σ H1 _ I1 q1) fun u s2 ⟨y,H2,I2,r2,q2⟩=>?_
 exact hf v u s2 x y H2 I2 r1 r2 q2
theorem pe_un {op:UnaryOp}{r:V→Hp→VK→Prop} (ho:UnR X (unaryOp op) r) (ha:PE X a ta):PE X (.UnaryOp op a pos) (tUn r ta):=by
 intro pins s σ H Q I h
 exact UnaryOp_ (thn (ha pins s σ H _ I h) fun v s1 ⟨x,H1,I1,r1,q1⟩=>ho pins s1 σ H1 x v Q I1 r1 q1)
theorem opI {f:Value→Value→Sem Value}{C:Int→Int→Prop}{g:Int→Int→Int}
  (rule:∀(i j:Int) (t u:Tok) (s:zbe5) (Q:Value→zbe5→Prop) (E:Value→zbe5→Prop),C i j→Q (.int (g i j) s.toks) { s with toks:=s.toks+1 }→wpAny (model X.prog X.w) X.A (f (.int i t) (.int j u)) Q E s) :
  OpR X f (rI C fun i j=>.int (g i j)):=by
 intro pins s σ H x y v u Q I rx ry h
 obtain⟨i,j,rfl,rfl,hc,q⟩:=h
 obtain⟨t,rfl⟩:=rx
 obtain⟨t',rfl⟩:=ry
 exact rule i j t t' s _ _ hc ⟨.int (g i j),H,I.tok _,⟨_,rfl⟩,q⟩
theorem opI0 {f:Value→Value→Sem Value}{g:Int→Int→Int}
  (rule:∀(i j:Int) (t u:Tok) (s:zbe5) (Q:Value→zbe5→Prop) (E:Value→zbe5→Prop),Q (.int (g i j) s.toks) { s with toks:=s.toks+1 }→wpAny (model X.prog X.w) X.A (f (.int i t) (.int j u)) Q E s) :
  OpR X f (rI0 fun i j=>.int (g i j)):=by
 intro pins s σ H x y v u Q I rx ry h
 obtain⟨i,j,rfl,rfl,q⟩:=h
 obtain⟨t,rfl⟩:=rx
 obtain⟨t',rfl⟩:=ry
 exact rule i j t t' s _ _ ⟨.int (g i j),H,I.tok _,⟨_,rfl⟩,q⟩
theorem opB0 {f:Value→Value→Sem Value}{g:Int→Int→Bool}
  (rule:∀(i j:Int) (t u:Tok) (s:zbe5) (Q:Value→zbe5→Prop) (E:Value→zbe5→Prop),Q (.bool (g i j)) s→wpAny (model X.prog X.w) X.A (f (.int i t) (.int j u)) Q E s) :
  OpR X f (rI0 fun i j=>.bl (g i j)):=by
 intro pins s σ H x y v u Q I rx ry h
 obtain⟨i,j,rfl,rfl,q⟩:=h
 obtain⟨t,rfl⟩:=rx
 obtain⟨t',rfl⟩:=ry
 exact rule i j t t' s _ _ ⟨.bl (g i j),H,I,rfl,q⟩
def CPow (i j:Int):Prop:=0≤j∧j≤1000000∧i.natAbs<2 ^ 64
theorem op_add:OpR X (binaryOp .Add) (rI0 fun i j=>.int (i+j)):=opI0 fun _ _ _ _ _ _ _ q=>add_int q
theorem op_sub:OpR X (binaryOp .Sub) (rI0 fun i j=>.int (i - j)):=opI0 fun _ _ _ _ _ _ _ q=>sub_int q
theorem op_modN:OpR X (binaryOp .Mod) (rI (fun _ j=>j≠0) fun i j=>.int (i.fmod j)):=opI fun _ _ _ _ _ _ _ hc q=>mod_int' hc q
theorem op_pow:OpR X (binaryOp .Pow) (rI CPow fun i j=>.int (i ^ j.toNat)):=opI fun _ _ _ _ _ _ _ hc q=>pow_int_small hc.1 hc.2.1 hc.2.2 q
theorem unI {f:Value→Sem Value}{g:Int→Int}
  (rule:∀(i:Int) (t:Tok) (s:zbe5) (Q:Value→zbe5→Prop) (E:Value→zbe5→Prop),Q (.int (g i) s.toks) { s with toks:=s.toks+1 }→wpAny (model X.prog X.w) X.A (f (.int i t)) Q E s) :
  UnR X f (rU fun i=>.int (g i)):=by
 intro pins s σ H x v Q I rx h
 obtain⟨i,rfl,q⟩:=h
 obtain⟨t,rfl⟩:=rx
 exact rule i t s _ _ ⟨.int (g i),H,I.tok _,⟨_,rfl⟩,q⟩
theorem un_neg:UnR X (unaryOp .USub) (rU fun i=>.int (-i)):=unI fun _ _ _ _ _ q=>neg_int q
end
noncomputable def scal:V→V→Bool
 |.non,.non=>true | .non,.int _=>true | .int _,.non=>true | .non,.bl _=>true | .bl _,.non=>true | .non,.str _=>true | .str _,.non=>true
 |.int _,.int _=>true | .bl _,.bl _=>true | .str _,.str _=>true | .byt _,.byt _=>true
 |.int _,.str _=>true | .str _,.int _=>true | .bl _,.str _=>true | .str _,.bl _=>true
 |_,_=>false
def rEq:R2:=fun x y H Q=>scal x y=true∧Q (.bl (decide (x=y))) H
def rNe:R2:=fun x y H Q=>scal x y=true∧Q (.bl (!decide (x=y))) H
theorem zbb0 {i j:Int}:decide (V.int i=V.int j)=(i == j):=by
 rw [zbj3]
 simp
theorem dec_bl {i j:Bool}:decide (V.bl i=V.bl j)=(i == j):=by
 rw [zbj3]
 simp
theorem zba9 {i j:Str}:decide (V.str i=V.str j)=(i == j):=by
 rw [zbj3]
 simp
theorem zbb1 {i j:Array UInt8}:decide (V.byt i=V.byt j)=(i.toList == j.toList):=by
 rw [zbj3]
 cases i
 cases j
 simp
section
variable {X:Cx}{a b c:Expr}{ta tb tc:TE}{pos:Pos}
theorem ze1 {pins:List (Addr×Obj)}{σ:St}{H:Hp}{s:zbe5}{Q:VK}{k k':Bool} (I:Inv X pins σ H s) (q:Q (.bl k) H) (e:k=k'):EP X pins σ Q (.bool k') s:=by
 subst e
 exact⟨.bl k,H,I,rfl,q⟩
theorem op_eq:OpR X (compareOp .Eq) rEq:=by
 intro pins s σ H x y v u Q I rx ry h
 obtain⟨hs,q⟩:=h
 cases x with
 |non =>
  cases rx
  cases y with
  |non=>cases ry;exact PySem.EqNone.eq_none_none (ze1 I q (by simp))
  |bl j=>cases ry;exact PySem.EqNone.eq_none_bool (ze1 I q (by simp))
  |int j=>obtain⟨t',rfl⟩:=ry;exact PySem.EqNone.eq_none_int (ze1 I q (by simp))
  |str j=>obtain⟨t',rfl⟩:=ry;exact PySem.EqNone.eq_none_str (ze1 I q (by simp))
  |_=>exact absurd (show false=true from hs) zbf1
 |bl i =>
  cases rx
  cases y with
  |non=>cases ry;exact PySem.EqNone.eq_bool_none (ze1 I q (by simp))
  |bl j=>cases ry;exact eq_bool (ze1 I q dec_bl)
  |str j=>obtain⟨t',rfl⟩:=ry;exact PySem.EqMixed.eq_bool_str (ze1 I q (by simp))
  |_=>exact absurd (show false=true from hs) zbf1
 |int i =>
  obtain⟨t,rfl⟩:=rx
  cases y with
  |non=>cases ry;exact PySem.EqNone.eq_int_none (ze1 I q (by simp))
  |int j=>obtain⟨t',rfl⟩:=ry;exact eq_int (ze1 I q zbb0)
  |str j=>obtain⟨t',rfl⟩:=ry;exact PySem.EqMixed.eq_int_str (ze1 I q (by simp))
  |_=>exact absurd (show false=true from hs) zbf1
 |str i =>
  obtain⟨t,rfl⟩:=rx
  cases y with
  |non=>cases ry;exact PySem.EqNone.eq_str_none (ze1 I q (by simp))
  |bl j=>cases ry;exact PySem.EqMixed.eq_str_bool (ze1 I q (by simp))
  |int j=>obtain⟨t',rfl⟩:=ry;exact PySem.EqMixed.eq_str_int (ze1 I q (by simp))
  |str j=>obtain⟨t',rfl⟩:=ry;exact eq_str (ze1 I q zba9)
  |_=>exact absurd (show false=true from hs) zbf1
 |byt i =>
  obtain⟨t,rfl⟩:=rx
  cases y with
  |byt j=>obtain⟨t',rfl⟩:=ry;exact PySem.W.eq_bytes (ze1 I q zbb1)
  |_=>exact absurd (show false=true from hs) zbf1
 |_=>cases y<;>exact absurd (show false=true from hs) zbf1
theorem op_ne:OpR X (compareOp .NotEq) rNe:=by
 intro pins s σ H x y v u Q I rx ry h
 obtain⟨hs,q⟩:=h
 cases x with
 |non =>
  cases rx
  cases y with
  |non=>cases ry;exact PySem.EqNone.ne_none_none (ze1 I q (by simp))
  |bl j=>cases ry;exact PySem.EqNone.ne_none_bool (ze1 I q (by simp))
  |int j=>obtain⟨t',rfl⟩:=ry;exact PySem.EqNone.ne_none_int (ze1 I q (by simp))
  |str j=>obtain⟨t',rfl⟩:=ry;exact PySem.EqNone.ne_none_str (ze1 I q (by simp))
  |_=>exact absurd (show false=true from hs) zbf1
 |bl i =>
  cases rx
  cases y with
  |non=>cases ry;exact PySem.EqNone.ne_bool_none (ze1 I q (by simp))
  |bl j=>cases ry;exact ne_bool (ze1 I q (congrArg not dec_bl))
  |str j=>obtain⟨t',rfl⟩:=ry;exact PySem.EqMixed.ne_bool_str (ze1 I q (by simp))
  |_=>exact absurd (show false=true from hs) zbf1
 |int i =>
  obtain⟨t,rfl⟩:=rx
  cases y with
  |non=>cases ry;exact PySem.EqNone.ne_int_none (ze1 I q (by simp))
  |int j=>obtain⟨t',rfl⟩:=ry;exact ne_int (ze1 I q (congrArg not zbb0))
  |str j=>obtain⟨t',rfl⟩:=ry;exact PySem.EqMixed.ne_int_str (ze1 I q (by simp))
  |_=>exact absurd (show false=true from hs) zbf1
 |str i =>
  obtain⟨t,rfl⟩:=rx
  cases y with
  |non=>cases ry;exact PySem.EqNone.ne_str_none (ze1 I q (by simp))
  |bl j=>cases ry;exact PySem.EqMixed.ne_str_bool (ze1 I q (by simp))
  |int j=>obtain⟨t',rfl⟩:=ry;exact PySem.EqMixed.ne_str_int (ze1 I q (by simp))
  |str j=>obtain⟨t',rfl⟩:=ry;exact ne_str (ze1 I q (congrArg not zba9))
  |_=>exact absurd (show false=true from hs) zbf1
 |byt i =>
  obtain⟨t,rfl⟩:=rx
  cases y with
  |byt j=>obtain⟨t',rfl⟩:=ry;exact PySem.W.ne_bytes (ze1 I q (congrArg not zbb1))
  |_=>exact absurd (show false=true from hs) zbf1
 |_=>cases y<;>exact absurd (show false=true from hs) zbf1
theorem op_lt:OpR X (compareOp .Lt) (rI0 fun i j=>.bl (decide (i<j))):=opB0 fun _ _ _ _ _ _ _ q=>lt_int q
theorem op_le:OpR X (compareOp .LtE) (rI0 fun i j=>.bl (decide (i≤j))):=opB0 fun _ _ _ _ _ _ _ q=>le_int q
theorem op_gt:OpR X (compareOp .Gt) (rI0 fun i j=>.bl (decide (j<i))):=opB0 fun _ _ _ _ _ _ _ q=>gt_int q
theorem zap5 (b:Expr) {op:CmpOp} (h:op≠.In:=by decide) (h2:op≠.NotIn:=by decide):behindInMarks op b=false:=by
 have e1:(op == CmpOp.In)=false:=by cases op<;>first | rfl | exact absurd rfl h
 have e2:(op == CmpOp.NotIn)=false:=by cases op<;>first | rfl | exact absurd rfl h2
 cases b<;>simp [behindInMarks,e1,e2]
def tTest (t:TE):TT:=fun σ H Q=>t σ H fun x H' => ∃k,x=.bl k∧Q k H'
noncomputable def tChain (r r':R2) (ta tb tc:TE):TE:=fun σ H Q=>ta σ H fun x H1=>tb σ H1 fun y H2=>r x y H2 fun z H3 => ∃k,z=.bl k ∧
 (if k=true then tc σ H3 fun w' H4=>r' y w' H4 Q else Q (.bl false) H3)
theorem pt_chain {op op':CmpOp}{r r':R2} (ho:OpR X (compareOp op) r) (ho':OpR X (compareOp op') r') (ha:PE X a ta) (hb:PE X b tb) (hc:PE X c tc)
  (hm:lastMarks [op,op'] [b,c]=false:=by with_unfolding_all rfl):PT X (.Compare a [op,op'] [b,c] pos) (tTest (tChain r r' ta tb tc)):=by
 intro pins s σ H Q I h
 refine isTrue_chain (thn (ha pins s σ H _ I h) fun v s1 ⟨x,H1,I1,r1,q1⟩=>test_link (thn (hb pins s1 σ H1 _ I1 q1) fun u s2 ⟨y,H2,I2,r2,q2⟩ =>
  thn (ho pins s2 σ H2 x y v u _ I2 r1 r2 q2) fun d s3 ⟨z,H3,I3,r3,k,e,q3⟩=>?_)) hm
 subst e
 cases r3
 refine wpAny_truthy_bool ?_
 cases k with
 |false =>
  obtain⟨k',e',q'⟩:=q3
  cases e'
  exact ite_ff ⟨H3,I3,q'⟩
 |true =>
  refine ite_tt (test_last (thn (hc pins s3 σ H3 _ I3 q3) fun w' s4 ⟨z',H4,I4,r4,q4⟩=>thn (ho' pins s4 σ H4 y z' u w' _ I4 r2 r4 q4) fun d' s5 ⟨z2,H5,I5,r5,k2,e2,q5⟩=>?_))
  subst e2
  cases r5
  exact wpAny_truthy_bool ⟨H5,I5,q5⟩
noncomputable def TruV (K:zbd4) (x:V) (H:Hp) (k:Bool):Prop :=
 match x with
 |.non=>k=false
 |.bl b=>k=b
 |.int i=>k=(i != 0)
 |.str y=>y.length≤sizeLine∧k=((y.length:Int) != 0)
 |.byt y=>y.size≤sizeLine∧k=((y.size:Int) != 0)
 |.ref p=>(∃xs,SqL K H p xs∧k=!xs.isEmpty)∨(∃xs,SqT K H p xs∧k=!xs.isEmpty)∨∃kvs,H p=some (.dK kvs)∧k=!kvs.isEmpty
 |_=>False
theorem zat5 {κ:Type}{kvs:List (κ×V)}{vs:List (κ×Value)} (r:KV kvs vs):(!vs.isEmpty)=!kvs.isEmpty:=by
 cases r<;>rfl
theorem zaa1 {xs:List V}{its:List Value} (r:Vals xs its):(!its.toArray.isEmpty)=!xs.isEmpty:=by
 cases r<;>simp
theorem zaf8:(sizeLine:Nat)<2 ^ 63:=by rw [sizeLine_eq];decide
theorem tru_ok:TruR X (fun x H Q => ∃k,TruV X.K x H k∧Q k H):=by
 intro pins s σ H x v Q I rx h
 obtain⟨k,e,q⟩:=h
 have hl:=zaf8
 have hs:sizeLine=16777216:=sizeLine_eq
 cases x with
 |non =>
  cases rx
  have e':k=false:=e
  subst e'
  exact truthy_none ⟨H,I,q⟩
 |bl b =>
  cases rx
  have e':k=b:=e
  subst e'
  exact wpAny_truthy_bool ⟨H,I,q⟩
 |int i =>
  obtain⟨t,rfl⟩:=rx
  have e':k=(i != 0):=e
  subst e'
  exact PySem.P.truthy_int ⟨H,I,q⟩
 |str y =>
  obtain⟨t,rfl⟩:=rx
  obtain⟨hy,e'⟩:y.length≤sizeLine∧k=((y.length:Int) != 0):=e
  subst e'
  exact PySem.P.truthy_str (by lia) ⟨H,I.tok _,q⟩
 |byt y =>
  obtain⟨t,rfl⟩:=rx
  obtain⟨hy,e'⟩:y.size≤sizeLine∧k=((y.size:Int) != 0):=e
  subst e'
  exact PySem.W.truthy_bytes (by lia) ⟨H,I.tok _,q⟩
 |ref p =>
  cases rx
  have e':(∃xs,SqL X.K H p xs∧k=!xs.isEmpty)∨(∃xs,SqT X.K H p xs∧k=!xs.isEmpty)∨∃kvs,H p=some (.dK kvs)∧k=!kvs.isEmpty:=e
  rcases e' with ⟨xs,hx,e'⟩ | ⟨xs,hx,e'⟩ | ⟨kvs,hx,e'⟩
  ·subst e'
   obtain⟨its,r,pl,hz⟩:=I.list hx
   have hlen:=r.length
   exact wpAny_truthy_list pl.isList (by simp only [zbf5];lia) ⟨H,I.tok _,by rw [zaa1 r];exact q⟩
  ·subst e'
   obtain⟨its,r,pl,hz⟩:=I.tuple hx
   have hlen:=r.length
   exact truthy_tuple pl (by simp only [zbf5];lia) ⟨H,I.tok _,by rw [zaa1 r];exact q⟩
  ·subst e'
   obtain⟨hz,hS,vs,r,m⟩:kvs.length≤sizeLine∧(p == sysModules)=false∧∃vs,KV kvs vs∧s.heap.DictOf (zh1 X.prog X.w) p vs:=I.hok p _ hx
   have hlen:kvs.length=vs.length:=Paired.length r
   exact wpAny_truthy_dict hS m (by lia) ⟨H,I.tok _,by rw [zat5 r];exact q⟩
 |_=>exact (show False from e).elim
theorem pt_truth (ha:PE X a ta) (he:∀whole,isTrue a X.env whole=(do let v ← whole;standAt a.pos;holding [v] (truthy v))) :
  PT X a (fun σ H Q=>ta σ H fun x H' => ∃k,TruV X.K x H' k∧Q k H'):=by
 intro pins s σ H Q I h
 exact isTrue_plain (thn (ha pins s σ H _ I h) fun v s1 ⟨x,H1,I1,r1,q1⟩=>tru_ok pins s1 σ H1 x v Q I1 r1 q1) (he _)
theorem zar5 {x:V}{us:List Value} (r:Vals [x] us):∃u,us=[u]∧RelV x u:=by
 cases r with
 |cons r1 r2=>cases r2;exact⟨_,rfl,r1⟩
theorem vals2 {x y:V}{us:List Value} (r:Vals [x,y] us):∃u w',us=[u,w']∧RelV x u∧RelV y w':=by
 cases r with
 |cons r1 r2 =>
  cases r2 with
  |cons r3 r4=>cases r4;exact⟨_,_,rfl,r1,r3⟩
theorem zbc1 (hc:X.calm=true):zs8 X (.builtin "max") (fun xs H Q => ∃i j,xs=[.int i,.int j]∧Q (.int (if j > i then j else i)) H):=by
 intro pins s σ H xs us Q I r h
 obtain⟨i,j,rfl,q⟩:=h
 obtain⟨u,w',rfl,⟨t,rfl⟩,⟨t',rfl⟩⟩:=vals2 r
 refine max_two_ints (I.ok.hd hc) fun h' tk k=>⟨_,H,I.kept k,?_,q⟩
 by_cases hj:j > i
 ·rw [if_pos hj,if_pos hj];exact⟨_,rfl⟩
 ·rw [if_neg hj,if_neg hj];exact⟨_,rfl⟩
theorem zbc0 (hc:X.calm=true):zs8 X (.builtin "min") (fun xs H Q => ∃i j,xs=[.int i,.int j]∧Q (.int (if j<i then j else i)) H):=by
 intro pins s σ H xs us Q I r h
 obtain⟨i,j,rfl,q⟩:=h
 obtain⟨u,w',rfl,⟨t,rfl⟩,⟨t',rfl⟩⟩:=vals2 r
 refine min_two_ints (I.ok.hd hc) fun h' tk k=>⟨_,H,I.kept k,?_,q⟩
 by_cases hj:j<i
 ·rw [if_pos hj,if_pos hj];exact⟨_,rfl⟩
 ·rw [if_neg hj,if_neg hj];exact⟨_,rfl⟩
end
end L2
namespace L2
open PySem.Spec
structure ObjM (h:Heap) (x dx C:Addr) (mA:Str→Option Value):Prop where
 obj:h.get? x=some (zbo8 C dx)
 ns:h.Ns1 dx mA
 ne:dx≠x
theorem zay4 {h:Heap}{dx:Addr}{mA:Str→Option Value} (n:h.Ns1 dx mA):∃od,h.get? dx=some od∧∀name,zbp2 name od=some (mA name):=by
 obtain⟨o,es,ep,ho,hd,hk,_,hm⟩:=n
 refine⟨o,ho,fun name=>?_⟩
 have e:=hm name
 unfold nsFind findBy at e
 rw [← Array.find?_toList]at e
 unfold zbp2
 rw [hd]
 dsimp only
 split
 ·rename_i y q
  rw [q]at e
  exact congrArg some e
 ·rename_i q
  rw [q]at e
  have a:es.toList.any (·.refKey)=false:=by
   rw [List.any_eq_false]
   intro y hy
   obtain⟨z,t,hkey⟩:=hk y (Array.mem_toList_iff.mp hy)
   simp [DictEntry.refKey,hkey]
  have a' : ¬ es.toList.any (·.refKey)=true:=by rw [a];exact zbf1
  rw [if_neg a']
  exact congrArg some e
theorem ObjM.look {h:Heap}{x dx C:Addr}{mA:Str→Option Value} (I:ObjM h x dx C mA):∃od,PySem.W.InstAt h x (zbo8 C dx) C (some od)∧∀name,zbp2 name od=some (mA name) :=
 let ⟨od,ho,hl⟩:=zay4 I.ns
 ⟨od,⟨I.obj,rfl,rfl,ho⟩,hl⟩
section
variable {prog:Program}{w:World}{A:Around}{E:Value→zbe5→Prop}{s:zbe5}{K:zbd4}{x dx C f:Addr}{mA:Str→Option Value}{name:Str}{v:Value}
theorem get_map {expr:Bool}{Q:Value→zbe5→Prop} (X:K.In s.heap) (I:ObjM s.heap x dx C mA) (hg:zbq8 K C name=true) (hh:zbq2 K C=true)
  (ha:zbl1 K (.ref C) name=some none) (hv:mA name=some v) (hv':PySem.W.handedIn v=true) (h:Q v { s with toks:=s.toks+1 }) :
  wpAny (model prog w) A (getAttr (.ref x) name expr) Q E s:=by
 obtain⟨od,J,hl⟩:=I.look
 exact PySem.W.get_value X J (PySem.W.plainGet_of hg).1 (PySem.W.findObj_own hh ha rfl (by rw [hl,hv])) hv' h
end
structure Cls (K:zbd4) (C:Addr):Prop where
 pg:zbq8 K C Str.empty=true
 hd:zbq2 K C=true
 po:PySem.W.plainOver K C=true
 sa:zbl1 K (.ref C) "__setattr__"=some (some (.builtin "object.__setattr__"))
structure Con (K:zbd4) (C:Addr) (f:Str) (v:V) (u:Value):Prop where
 at_:zbl1 K (.ref C) f=some (some u)
 rel:RelV v u
 get:zbq3 K u "__get__"=some none
 cp:PySem.W.copiedNames.contains f=false
structure Meth (K:zbd4) (C:Addr) (m:Str) (f:Addr):Prop where
 at_:zbl1 K (.ref C) m=some (some (.ref f))
 fn:PySem.W.isFn K (.ref f)=true
 kp:zbh6 K (.ref f)=true
section
variable {X:Cx}{pins:List (Addr×Obj)}{σ:St}{H:Hp}{s:zbe5}{A:Around}{E:Value→zbe5→Prop}{Q:Value→zbe5→Prop}{c:Value}{b:Bool}
inductive TyOf (K:zbd4) (H:Hp):V→Value→Prop where
 |non:TyOf K H .non (.type "NoneType")
 |bl (x:Bool):TyOf K H (.bl x) (.type "bool")
 |int (i:Int):TyOf K H (.int i) (.type "int")
 |str (x:Str):TyOf K H (.str x) (.type "str")
 |flt (x:UInt64):TyOf K H (.flt x) (.type "float")
 |lst {a:Addr}{xs:List V} (e:H a=some (.lst xs)):TyOf K H (.ref a) (.type "list")
 |frz {a:Addr}{o:Obj}{xs:List V} (e:H a=some (.frz o (.lst xs))):TyOf K H (.ref a) (.type "list")
 |tup {a:Addr}{xs:List V} (e:H a=some (.tup xs)):TyOf K H (.ref a) (.type "tuple")
 |dK {a:Addr}{kvs:List (Key×V)} (e:H a=some (.dK kvs)):TyOf K H (.ref a) (.type "dict")
 |dT {a:Addr}{kvs:List (List Key×V)} (e:H a=some (.dT kvs)):TyOf K H (.ref a) (.type "dict")
 |ins {a C dx:Addr}{fs:List (Str×V)} (e:H a=some (.ins C dx fs)) (cl:Cls K C) (ha:zbl1 K (.ref C) "__class__"=some (some (.builtin "object.__class__")))
   (hn:zbq3 K (.builtin "object.__class__") "__get__"=some (some (.builtin "getset_descriptor.__get__"))) (htk:PySem.W.takesIn K (.builtin "object.__class__")=some true)
   (hm:PySem.W.mroIn K C (.type "object")=some true):TyOf K H (.ref a) (.ref C)
end
end L2
namespace L2
open PySem.Spec
structure Room (k:Nat) (A:Around):Prop where
 hd:A.handled=none
 dp:A.depth+3*k+5<recursionLimit
 un:A.units+16*k+200<cLine
theorem Room.mono {j k:Nat}{A:Around} (r:Room k A) (h:j≤k):Room j A:=⟨r.hd,by have:=r.dp;lia,by have:=r.un;lia⟩
theorem Room.deeper {k:Nat}{A:Around} (r:Room (k+1) A) (env:Env):Room k (A.deeper env) :=
 ⟨r.hd,by have:=r.dp;show A.depth+1+3*k+5<_;lia,by have:=r.un;show A.units+3+16*k+200<_;lia⟩
theorem Room.depth {k:Nat}{A:Around} (r:Room k A):A.depth<recursionLimit:=by have:=r.dp;lia
theorem Room.units {k:Nat}{A:Around} (r:Room k A):A.units+64<cLine:=by have:=r.un;lia
def tNil:TA:=fun _ H Q=>Q [] H
def tCons (ta:TE) (tr:TA):TA:=fun σ H Q=>ta σ H fun x H1=>tr σ H1 fun xs H2=>Q (x::xs) H2
section
variable {X:Cx}{e:Expr}{es:List Expr}{te:TE}{t:TA}{pos:Pos}
theorem zl3:PA X [] tNil:=fun _ _ _ _ H Q I h=>Calls.spliced_nil ⟨[],H,I,.nil,h⟩
theorem zf7 (ha:PE X e te) (hr:PA X es t) (hs:zbe7 (e::es) X.env=(false,eval e X.env)::zbe7 es X.env:=by rfl):PA X (e::es) (tCons te t):=by
 intro pos pins s σ H Q I h
 rw [hs]
 show wpAny _ _ (spliced ((false,eval e X.env)::zbl0 pos (zbe7 es X.env))) _ _ s
 refine Calls.spliced_cons (thn (ha pins s σ H _ I h) fun u s1 ⟨x,H1,I1,r1,q1⟩=>?_)
 exact thn (hr pos pins s1 σ H1 _ I1 q1) fun us s2 ⟨xs,H2,I2,r2,q2⟩=>⟨x::xs,H2,I2,.cons r1 r2,q2⟩
def tTup (t:TA):TE:=fun σ H Q=>t σ H fun xs H1=>xs.length≤sizeLine∧∀p,H1 p=none→Q (.ref p) (upd H1 p (.tup xs))
def tLst (t:TA):TE:=fun σ H Q=>t σ H fun xs H1=>xs.length≤sizeLine∧∀p,H1 p=none→Q (.ref p) (upd H1 p (.lst xs))
theorem pe_tup {x1} (h:PA X es t):PE X (.Tuple es x1 pos) (tTup t):=by
 intro pins s σ H Q I hq
 refine wpAny_Tuple_spliced (thn (h pos pins s σ H _ I hq) fun us s1 ⟨xs,H1,I1,r,z,q⟩=>⟨by rw [← r.length];exact z,?_⟩)
 have hf:H1 s1.heap.objs.size=none:=I1.hok.fresh (zbf6 _)
 refine⟨.ref s1.heap.objs.size,upd H1 s1.heap.objs.size (.tup xs),I1.laid (t':=s1.toks) (fun b u e=>zbe4 _ e) (zbf6 _) ?_,rfl,q _ hf⟩
 exact⟨z,us,r,⟨_,zbg5 _ rfl,rfl,_,rfl⟩⟩
theorem pe_lst (h:PA X es t):PE X (.List es pos) (tLst t):=by
 intro pins s σ H Q I hq
 refine wpAny_List_spliced (thn (h pos pins s σ H _ I hq) fun us s1 ⟨xs,H1,I1,r,z,q⟩=>⟨by rw [← r.length];exact z,?_⟩)
 have hf:H1 s1.heap.objs.size=none:=I1.hok.fresh (zbf6 _)
 refine⟨.ref s1.heap.objs.size,upd H1 s1.heap.objs.size (.lst xs),I1.laid (t':=s1.toks) (fun b u e=>zbe4 _ e) (zbf6 _) ?_,rfl,q _ hf⟩
 exact⟨z,us,0,r,zbg5 _ rfl⟩
end
abbrev Sp:=List V→Hp→VK→XK→Prop
abbrev CXT:=List Env→Hp→zbe5→XK→Value→zbe5→Prop
structure Env0 (P:Program) (w:World) (K:zbd4) (mg:Str→Option Value) (base:BHeap) (A:Around) (outer:List Env) (s:zbe5) (H:Hp):Prop where
 frames:A.frames=some outer
 mod:Mod K mg base
 bs:∀b o,base.get? b=some o→s.heap.get? b=some o∧H b=none
 bsz:base.objs.size≤s.heap.objs.size
 funs:s.heap.FunFrames base outer
 frf:∀b∈frs outer,H b=none
 hok:HOk P w H s.heap
 bare:AllBare s.gens
 tabs:∀p∈base.tabs,H p.1=some (.tbl p.2)
noncomputable def CE (outer:List Env) (P:Program) (w:World) (H:Hp) (s:zbe5) (Q:VK) (u:Value) (s':zbe5):Prop :=
 ∃v H',s'.os=s.os∧AllBare s'.gens∧Un (frs outer) [] H H' s.heap s'.heap∧HOk P w H' s'.heap∧RelV v u∧Q v H'
noncomputable def CR (CX:CXT) (outer:List Env) (P:Program) (w:World) (H:Hp) (s:zbe5) (Q:VK) (E:XK) (r:Result) (s':zbe5):Prop :=
 match r with
 |.ok (.ret u)=>CE outer P w H s Q u s'
 |.ok _=>False
 |.error e=>CX outer H s E e s'
structure FnOk (P:Program) (w:World) (K:zbd4) (mg:Str→Option Value) (base:BHeap) (CX:CXT) (k:Nat) (f:Addr) (fd:FuncData) (ps:List Str) (sp:Sp):Prop where
 len:∀vs H Q E,sp vs H Q E→vs.length=ps.length
 run:∀(A:Around) (outer:List Env) (s:zbe5) (H:Hp) (args:Args) (us:List Value) (vs:List V) (Q:VK) (E:XK),Room k A→Env0 P w K mg base A outer s H→BindsTo s fd args (ps.zip us)→Vals vs us→sp vs H Q E →
  codeAny (model P w) A (.call (.ref f) args) (CR CX outer P w H s Q E) s
section
variable {X:Cx}{pins:List (Addr×Obj)}{σ:St}{H:Hp}{s s':zbe5}
theorem Inv.env0 (I:Inv X pins σ H s):Env0 X.prog X.w X.K X.mg X.base X.A X.stack s H :=
 ⟨I.ok.frames,I.ok.mod,I.bs,zbh3 I.ok.bsz I.sz,I.stack,I.stkFree,I.hok,I.bare,fun p hp=>I.base.tbls _ _ (I.ok.tabs p hp)⟩
theorem Inv.after {Q:VK}{u:Value} (I:Inv X pins σ H s) (h:CE X.stack X.prog X.w H s Q u s'):EP X pins σ Q u s':=by
 obtain⟨v,H',os,bare,un,hok,r,q⟩:=h
 obtain⟨hh,g,d,t,os'⟩:=s'
 obtain rfl:os'=s.os:=os
 exact⟨v,H',I.call (h':=hh) (g':=g) (d':=d) (t':=t) (ch:=[]) un hok bare (fun b z=>absurd z (by simp)),r,q⟩
end
def tCall (sp:Sp) (dvs:List V) (E:XK) (t:TA):TE:=fun σ H Q=>t σ H fun vs H1=>sp (vs++dvs) H1 Q E
noncomputable def Binds (K:zbd4) (fd:FuncData) (ps:List Str) (ds:List Value):Prop :=
 ∀(s:zbe5) (us:List Value),K.In s.heap→(us++ds).length=ps.length→BindsTo s fd ⟨us,[]⟩ (ps.zip (us++ds))
theorem Binds.all {K:zbd4}{fd:FuncData}{ps:List Str} (h:∀us:List Value,us.length=ps.length→bindArgs fd ⟨us,[]⟩=pure (ps.zip us)):Binds K fd ps []:=fun s us _ hl=>by
 rw [zbi4]at hl ⊢
 exact .of_eq (h us hl)
noncomputable def zbd2 (CX:CXT) (X:Cx) (E:XK):Prop := ∀(pins:List (Addr×Obj)) (σ:St) (H:Hp) (s:zbe5) (e:Value) (s':zbe5),Inv X pins σ H s→CX X.stack H s E e s'→X.xe e s'
section
variable {X:Cx}{CX:CXT}{k:Nat}{f C:Addr}{fd:FuncData}{ps:List Str}{sp:Sp}{dvs:List V}{ds:List Value}{E:XK}{x m:Str}{p pos apos:Pos}{e o:Expr}{es:List Expr}{ta:TE}{t:TA}
theorem run_fn {pins:List (Addr×Obj)}{σ:St}{H:Hp}{s:zbe5}{Q:VK}{us:List Value}{vs:List V} (F:FnOk X.prog X.w X.K X.mg X.base CX k f fd ps sp) (hr:Room k X.A) (hb:Binds X.K fd ps ds) (hd:Vals dvs ds) (hx:zbd2 CX X E)
  (I:Inv X pins σ H s) (r:Vals vs us) (h:sp (vs++dvs) H Q E):wpAny (model X.prog X.w) X.A (call (.ref f) us) (EP X pins σ Q) X.xe s:=by
 have r2:Vals (vs++dvs) (us++ds):=r.append hd
 have hl:(us++ds).length=ps.length:=by rw [← r2.length];exact F.len _ _ _ _ h
 refine wpAny_call (codeAny_mono (F.run X.A X.stack s H ⟨us,[]⟩ (us++ds) (vs++dvs) Q E hr I.env0 (hb s us I.kIn hl) r2 h) fun r s' hq=>?_)
 cases r with
 |error e=>exact hx pins σ H s e s' I hq
 |ok fl =>
  cases fl with
  |ret u=>exact I.after hq
  |next=>exact False.elim hq
  |brk=>exact False.elim hq
  |cont=>exact False.elim hq
theorem zac6 (F:FnOk X.prog X.w X.K X.mg X.base CX k f fd ps sp) (hr:Room k X.A) (hg:Gl X x) (hm:X.mg x=some (.ref f)) (hk:zbh6 X.K (.ref f)=true) (hb:Binds X.K fd ps ds) (hd:Vals dvs ds) (hx:zbd2 CX X E)
  (ha:PA X (e::es) t) (hdb:(x ==("__debug__":Str))=false:=by decide) (he:zbe7 (e::es) X.env=(false,eval e X.env)::zbe7 es X.env:=by rfl) (hpl:(zbl0 pos (zbe7 es X.env)).any (·.1)=false:=by rfl) :
  PE X (.Call (.Name x p) (e::es) [] pos) (tCall sp dvs E t):=by
 intro pins s σ H Q I h
 refine wpAny_Call_Name_kw (ld_glob I hg hm ?_ hdb)
 refine PySem.W.callWith_K (h₀:=X.base) I.ok.mod.kin hk (thn (ha pos pins s σ H _ I h) fun us s1 ⟨vs,H1,I1,r,q⟩=>⟨I1.kIn,?_⟩) he hpl
 exact run_fn F hr hb hd hx I1 r q
structure Mk (K:zbd4) (C f:Addr):Prop where
 makes:PySem.W.makesIn K C=true
 init:zbl1 K (.ref C) "__init__"=some (some (.ref f))
 fn:PySem.W.isFn K (.ref f)=true
 kp:zbh6 K (.ref C)=true
end
section
variable {X:Cx}{CX:CXT}{k:Nat}{f C:Addr}{fd:FuncData}{ps ks:List Str}{sp:Sp}{E:XK}{x m:Str}{p pos apos kpos:Pos}{e o:Expr}{es:List Expr}{kws:List Keyword}{te ta:TE}{t tk:TA}{nm:Option Str}
structure KBinds (K:zbd4) (fd:FuncData) (ps ks:List Str) (g:List Value→List Value→List Value) (gV:List V→List V→List V):Prop where
 to:∀(s:zbe5) (us ws:List Value),K.In s.heap→(g us ws).length=ps.length→BindsTo s fd ⟨us,ks.zip ws⟩ (ps.zip (g us ws))
 rel:∀ {vs:List V}{us:List Value}{zs:List V}{ws:List Value},Vals vs us→Vals zs ws→Vals (gV vs zs) (g us ws)
variable {g:List Value→List Value→List Value}{gV:List V→List V→List V}
end
structure FnScope (N P:List Str) (sc:Scope):Prop where
 kind:sc.kind=.function
 co:sc.isCoroutine=false
 gen:sc.isGenerator=false
 nd:N.Nodup
 pre:N.take P.length=P
 par:∀x∈P,sc.names.lookup x=some .local∨sc.names.lookup x=some .cell
 nofree:∀y∈sc.names,y.2≠.free
theorem zai3 {kindOf:Str→Option NameKind}{x:Str}:∀ {binds:List (Str×Value)}{m:Str→Option Value},(∀v,(x,v)∉binds)→bindL kindOf binds m x=m x
 |[],_,_=>rfl
 |(n,v)::r,m,h=>by
  unfold bindL
  rw [zai3 fun w hw=>h w (zbd6 _ hw)]
  split
  ·have:x≠n:=by rintro rfl;exact h v zbd7
   simp [this]
  ·rfl
theorem zai5 {kindOf:Str→Option NameKind}{x:Str}:∀ {binds:List (Str×Value)}{m:Str→Option Value},(∀v,(x,v)∉binds)→bindC kindOf binds m x=m x
 |[],_,_=>rfl
 |(n,v)::r,m,h=>by
  unfold bindC
  rw [zai5 fun w hw=>h w (zbd6 _ hw)]
  split
  ·rfl
  ·have:x≠n:=by rintro rfl;exact h v zbd7
   simp [this]
theorem zai4 {kindOf:Str→Option NameKind}{x:Str}{v:Value}:∀ {P:List Str}{vs:List Value}{i:Nat}{m:Str→Option Value},P.Nodup→P[i]?=some x→vs[i]?=some v→kindOf x=some .local →
  bindL kindOf (P.zip vs) m x=some v
 |[],_,_,_,_,h,_,_=>by simp at h
 |_::_,[],_,_,_,_,h,_=>by simp at h
 |p::P,w::vs,0,m,nd,h1,h2,hk=>by
  simp at h1 h2;subst h1;subst h2
  show bindL kindOf ((p,w)::P.zip vs) m p=_
  unfold bindL
  rw [zai3 fun v hv=>(zbg3.mp nd).1 (zbo9 hv).1,if_pos hk]
  simp
 |p::P,w::vs,i+1,m,nd,h1,h2,hk=>by
  show bindL kindOf ((p,w)::P.zip vs) m x=_
  unfold bindL
  exact zai4 (i:=i) (zbg3.mp nd).2 (by simpa using h1) (by simpa using h2) hk
theorem zai6 {kindOf:Str→Option NameKind}{x:Str}{v:Value}:∀ {P:List Str}{vs:List Value}{i:Nat}{m:Str→Option Value},P.Nodup→P[i]?=some x→vs[i]?=some v→kindOf x≠some .local →
  bindC kindOf (P.zip vs) m x=some v
 |[],_,_,_,_,h,_,_=>by simp at h
 |_::_,[],_,_,_,_,h,_=>by simp at h
 |p::P,w::vs,0,m,nd,h1,h2,hk=>by
  simp at h1 h2;subst h1;subst h2
  show bindC kindOf ((p,w)::P.zip vs) m p=_
  unfold bindC
  rw [zai5 fun v hv=>(zbg3.mp nd).1 (zbo9 hv).1,if_neg hk]
  simp
 |p::P,w::vs,i+1,m,nd,h1,h2,hk=>by
  show bindC kindOf ((p,w)::P.zip vs) m x=_
  unfold bindC
  exact zai6 (i:=i) (zbg3.mp nd).2 (by simpa using h1) (by simpa using h2) hk
def start (N:List Str) (vs:List V):St:=vs.map some++zbe8 (N.length - vs.length) none
noncomputable def cxOf (CX:CXT) (P:Program) (w:World) (K:zbd4) (mg:Str→Option Value) (base:BHeap) (N:List Str) (qual:Str) (scope:Scope) (f:Addr) (cd:Value) (A:Around) (outer:List Env) (s:zbe5) (H:Hp) (E:XK):Cx where
 prog:=P
 w:=w
 K:=K
 mg:=mg
 base:=base
 A:=A.deeper (envOfC qual scope s.heap.objs.size f cd)
 N:=N
 s₀:=s
 H₀:=H
 env:=envOfC qual scope s.heap.objs.size f cd
 outer:=outer
 stack:=envOfC qual scope s.heap.objs.size f cd::outer
 ex:=[]
 calm:=true
 fn:=fun _=>true
 pn:=[]
 xe:=fun e s'=>wpAny (model P w) (A.deeper (envOfC qual scope s.heap.objs.size f cd)) (leaving (envOfC qual scope s.heap.objs.size f cd) e) (fun _ s''=>CX outer H s E e s'') (fun e' s''=>CX outer H s E e' s'') s'
theorem zar0 {sc:Scope}{n:Nat}{x:Str} (h:sc.names.lookup x=some .cell):∃c,(cellsFrom n sc.names []).lookup x=some c:=by
 have q:=zbo5 sc.names n [] (.inl h)
 exact Option.isSome_iff_exists.mp q
theorem zaz8 {CX:CXT}{P:Program}{w:World}{K:zbd4}{mg:Str→Option Value}{base:BHeap}{N ps:List Str}{qual:Str}{scope:Scope}{f:Addr}{cd:Value}{A:Around}{outer:List Env}{s s1:zbe5}{H:Hp}{E:XK}{us:List Value}{vs:List V}
  (S:FnScope N ps scope) (hd:A.handled=none) (e0:Env0 P w K mg base A outer s H) (hl:vs.length=ps.length) (r:Vals vs us)
  (x:InCallC s s.heap.objs.size (bindL (envOfC qual scope s.heap.objs.size f cd).kindOf (ps.zip us) fun _=>none) (cellsFrom (s.heap.objs.size+1) scope.names []) (bindC (envOfC qual scope s.heap.objs.size f cd).kindOf (ps.zip us) fun _=>none) s1) :
  Inv (cxOf CX P w K mg base N qual scope f cd A outer s H E) [] (start N vs) H s1:=by
 have hpl:ps.length≤N.length:=by have:=congrArg List.length S.pre;rw [zbo6]at this;lia
 obtain⟨h1,tk,rfl,hk⟩:=x.done
 have noA:∀b:Addr,b∉(cxOf CX P w K mg base N qual scope f cd A outer s H E).ex:=fun b z=>absurd (show b∈([]:List Addr) from z) (by simp)
 refine⟨⟨e0.mod,S.kind,rfl,rfl,zbf6 _,fun y z c h1 h2=>?_,fun y hy=>?_,fun y c _ h=>?_,fun _=>hd,Around.frames_deeper e0.frames,.inr ⟨rfl,rfl⟩,fun b z=>absurd z (noA b),e0.bs,e0.bsz,fun b _ _=>noA b,fun b z=>absurd z (noA b),e0.funs,e0.frf,e0.tabs⟩,
  rfl,e0.bare,Un.kept hk,⟨_,x.toInCall.ns,fun i y v h1 h2 h3=>?_⟩,fun y c h=>⟨_,x.cell y c h⟩,e0.hok.fresh (zbf6 _),fun y c h=>?_,fun p hp=>absurd (show p∈([]:List (Addr×Obj)) from hp) (by simp),e0.hok.kept hk,?_⟩
 ·exact name_of_addr x.apart (PySem.mem_of_lookup h1) (PySem.mem_of_lookup h2)
 ·have hy:scope.names.lookup y=some .cell∨scope.names.lookup y=some .free:=hy
  rcases hy with hy | hy
  ·exact zar0 hy
  ·exact absurd rfl (S.nofree _ (PySem.mem_of_lookup hy))
 ·exact zbn7 (x.above y c (PySem.mem_of_lookup h))
 ·have hi:i<vs.length:=by
   unfold start at h2
   by_cases hi:i<vs.length
   ·exact hi
   ·rw [zbh7 (by simpa using hi)]at h2
    rw [zbj8]at h2
    split at h2<;>cases h2
  have ha:vs[i]?=some v:=by
   unfold start at h2
   rw [zbg8 (by simpa using hi),zbh2]at h2
   cases e:vs[i]? with
   |none=>rw [e]at h2;cases h2
   |some a=>rw [e]at h2;cases h2;rfl
  obtain⟨u,hu,rv⟩:=r.get ha
  have hp:ps[i]?=some y:=by
   rw [← S.pre,List.getElem?_take_of_lt (by lia)];exact h1
  have ndP:ps.Nodup:=by rw [← S.pre];exact S.nd.sublist (List.take_sublist _ _)
  refine⟨u,rv,?_⟩
  rcases S.par y (zbm5 hp) with k | k
  ·exact .inl ⟨k,zai4 ndP hp hu k⟩
  ·obtain⟨c,e⟩:=zar0 (n:=s.heap.objs.size+1) k
   refine .inr ⟨.inl k,c,e,?_⟩
   have q:=x.cell y c e
   rw [zai6 ndP hp hu (by show scope.names.lookup y≠_;rw [k];decide)]at q
   exact q
 ·exact e0.hok.fresh (zbn7 (x.above y c (PySem.mem_of_lookup h)))
 ·unfold start
  show _=N.length
  rw [zbf8,zbf7,zbk5]
  lia
theorem fn_of {CX:CXT}{P:Program}{w:World}{K:zbd4}{mg:Str→Option Value}{base:BHeap}{k:Nat}{f:Addr}{name qual:Str}{params:Arguments}{body:List Stmt}{scope:Scope}{dV kV doc pm cdv ct oc:Value}{an od:Option Addr}
  {osl:Array (Option Value)}{N ps:List Str}{sp:Sp} (lk:K.lookup f=some ⟨oc,od,.func (zbi0 name qual params body scope dV kV doc pm an cdv ct),osl⟩) (hcd:zbn8 K cdv qual=true) (S:FnScope N ps scope)
  (len:∀vs H Q E,sp vs H Q E→vs.length=ps.length)
  (hbody:∀(A:Around) (outer:List Env) (s:zbe5) (H:Hp) (vs:List V) (Q:VK) (E:XK),Room k (A.deeper (envOfC qual scope s.heap.objs.size f cdv))→sp vs H Q E →
   ∃t,PSs (cxOf CX P w K mg base N qual scope f cdv A outer s H E) body t∧t { nx:=fun _ H'=>Q .non H',rt:=Q } (start N vs) H) :
  FnOk P w K mg base CX (k+1) f (zbi0 name qual params body scope dV kV doc pm an cdv ct) ps sp:=by
 refine⟨len,fun A outer s H args us vs Q E hr e0 hb r hsp=>?_⟩
 have hl:=len _ _ _ _ hsp
 have KX:K.In s.heap:=e0.mod.kin.keeps fun b o e=>(e0.bs b o e).1
 have lim:s.heap.NoLimit:=e0.mod.nolimit.keeps fun b o e=>(e0.bs b o e).1
 have hkind:∀y∈ps.zip us,scope.names.lookup y.1=some .local∨(scope.names.lookup y.1=some .cell∧((cellsFrom (s.heap.objs.size+1) scope.names []).lookup y.1).isSome=true):=fun ⟨n,v⟩ hy=>by
  rcases S.par n (zbo9 hy).1 with q | q
  ·exact .inl q
  ·exact .inr ⟨q,zbo5 _ _ _ (.inl q)⟩
 refine codeAny_call_function hr.depth (KX _ _ lk) rfl S.co S.gen rfl (PySem.W.codeRec_of KX hcd) (hb _ _ _ _ ?_)
 refine wpAny_newFunctionEnv_cells S.kind hkind fun env he s1 x=>?_
 subst he
 refine⟨lim.keeps x.toInCall.keep,codeAny_func ?_⟩
 obtain⟨t,ht,hq⟩:=hbody A outer s H vs Q E (hr.deeper _) hsp
 have I:Inv (cxOf CX P w K mg base N qual scope f cdv A outer s H E) [] (start N vs) H s1:=zaz8 S hr.hd e0 hl r x
 refine wpAny_mono (ht [] s1 (start N vs) H _ I hq) (fun fl s' hs=>?_) fun e s' hs=>hs
 have fin:∀ {σ':St}{H':Hp}{v:V}{u:Value},Inv (cxOf CX P w K mg base N qual scope f cdv A outer s H E) [] σ' H' s'→RelV v u→Q v H'→CE outer P w H s Q u s' :=
  fun {σ' H' v u} J rv q=>⟨v,H',J.os,J.bare,J.base,J.hok,rv,q⟩
 cases fl with
 |ret u =>
  obtain⟨v,σ',H',J,rv,q⟩:=hs
  exact fin J rv q
 |next =>
  obtain⟨σ',H',J,q⟩:=hs
  exact fin (v:=V.non) (u:=Value.none) J rfl q
 |brk =>
  obtain⟨_,_,_,q⟩:=hs
  exact False.elim q
 |cont =>
  obtain⟨_,_,_,q⟩:=hs
  exact False.elim q
end L2
namespace L2
open PySem.Spec
section
variable {X:Cx}{x:Str}{p pos:Pos}{e:Expr}{es:List Expr}{t:TA}{id T:String}{r:List V→Hp→VK→Prop}
def tCB (r:List V→Hp→VK→Prop) (t:TA):TE:=fun σ H Q=>t σ H fun vs H1=>r vs H1 Q
theorem pe_callB (hc:zs8 X (.builtin id) r) (hg:Gl X x) (hm:X.mg x=none) (hv:bootBuiltins x=some (.builtin id)) (ha:PA X (e::es) t) (hn:x≠"__name__":=by decide) (hdb:(x ==("__debug__":Str))=false:=by decide)
  (he:zbe7 (e::es) X.env=(false,eval e X.env)::zbe7 es X.env:=by rfl) (hpl:(zbl0 pos (zbe7 es X.env)).any (·.1)=false:=by rfl):PE X (.Call (.Name x p) (e::es) [] pos) (tCB r t):=by
 intro pins s σ H Q I h
 refine wpAny_Call_Name_kw (zm4 I hg hm hv ?_ hn hdb)
 exact PyProof.Rows.callWith_builtin1 (thn (ha pos pins s σ H _ I h) fun us s1 ⟨vs,H1,I1,r1,q1⟩=>hc pins s1 σ H1 vs us Q I1 r1 q1) he hpl
end
end L2
namespace HT
section
variable {prog:Program}{w:World}{A:Around}{E:Value→zbe5→Prop}{s:zbe5}
def sIx (n d:Nat):Option Int→Nat
 |none=>d
 |some v=>if v<0 then (v+(n:Int)).toNat else min v.toNat n
theorem sIx_none (n d:Nat):sIx n d none=d:=rfl
theorem sIx_le (n d:Nat) (hd:d≤n) (o:Option Int):sIx n d o≤n:=by
 cases o with
 |none=>exact hd
 |some v =>
  show (if v<0 then (v+(n:Int)).toNat else min v.toNat n)≤n
  by_cases hv:v<0
  ·rw [if_pos hv];lia
  ·rw [if_neg hv];exact Nat.min_le_right _ _
end
end HT
namespace L2
open PySem.Spec
abbrev TO:=St→Hp→(Option Int→Hp→Prop)→Prop
noncomputable def PO (X:Cx) (e:Option Expr) (t:TO):Prop :=
 ∀(pins:List (Addr×Obj)) (s:zbe5) (σ:St) (H:Hp) (Q:Option Int→Hp→Prop),Inv X pins σ H s→t σ H Q →
  wpAny (model X.prog X.w) X.A (evalPart e X.env) (fun u s' => ∃o H',Inv X pins σ H' s'∧IsPart u o∧Q o H') X.xe s
def tNoPart:TO:=fun _ H Q=>Q none H
def tPart (t:TE):TO:=fun σ H Q=>t σ H fun x H1 => ∃i,x=.int i∧Q (some i) H1
theorem zs4 {ns:List Int}:∀ {us:List Value},Vals (ns.map V.int) us→IntsAre us ns:=by
 induction ns with
 |nil=>intro us r;rw [zbn9]at r;cases r;exact .nil
 |cons n ns ih =>
  intro us r
  rw [zbf4]at r
  cases r with
  |cons r1 r2 =>
   obtain⟨t,e⟩:=r1
   subst e
   exact .cons n t (ih r2)
section
variable {X:Cx}{e:Expr}{te:TE}{lo hi:Option Expr}{tl th:TO}{pos p2:Pos}
theorem zaw2:PO X none tNoPart:=by
 intro pins s σ H Q I h
 rw [evalPart_none]
 exact zbg4 ⟨none,H,I,.none,h⟩
theorem zaw1 (h:PE X e te):PO X (some e) (tPart te):=by
 intro pins s σ H Q I hw
 rw [evalPart_some]
 refine thn (h pins s σ H _ I hw) fun u s1 ⟨x,H1,I1,r1,q1⟩=>?_
 obtain⟨i,rfl,q⟩:=q1
 obtain⟨t,rfl⟩:=r1
 exact⟨some i,H1,I1,.int i t,q⟩
noncomputable def SlR (X:Cx) (r:V→Option Int→Option Int→Hp→VK→Prop):Prop :=
 ∀(pins:List (Addr×Obj)) (s:zbe5) (σ:St) (H:Hp) (x:V) (v vl vu:Value) (lo hi:Option Int) (sl:Addr) (Q:VK),Inv X pins σ H s→RelV x v→s.heap.IsSliceOf sl vl vu .none→IsPart vl lo→IsPart vu hi→r x lo hi H Q →
  ∃T id,typeLookup (.type T) "__getitem__"=pure (some (.builtin id))∧s.TypeIs v T∧wpAny (model X.prog X.w) X.A (getItem v (.ref sl)) (EP X pins σ Q) X.xe s
noncomputable def tSl (r:V→Option Int→Option Int→Hp→VK→Prop) (te:TE) (tl th:TO):TE:=fun σ H Q=>te σ H fun x H1=>tl σ H1 fun l H2=>th σ H2 fun u H3=>r x l u H3 Q
theorem zap3 {r:V→Option Int→Option Int→Hp→VK→Prop} (hr:SlR X r) (he:PE X e te) (hl:PO X lo tl) (hu:PO X hi th):PE X (.Subscript e (.Slice lo hi none p2) pos) (tSl r te tl th):=by
 intro pins s σ H Q I h
 refine Subscript_ (thn (he pins s σ H _ I h) fun v s1 ⟨x,H1,I1,r1,q1⟩=>?_)
 refine wpAny_Slice (thn (hl pins s1 σ H1 _ I1 q1) fun vl s2 ⟨l,H2,I2,pl,q2⟩=>thn (hu pins s2 σ H2 _ I2 q2) fun vu s3 ⟨u,H3,I3,pu,q3⟩=>?_)
 rw [evalPart_none]
 refine zbg4 ?_
 have I4:Inv X pins σ H3 { s3 with heap:=s3.heap.push { cls:=.type "slice",data:=.fields #[vl,vu,.none] } }:=I3.kept (t':=s3.toks) fun b ob q=>zbe4 _ q
 obtain⟨T,id,hT,ht,hg⟩:=hr pins { s3 with heap:=s3.heap.push { cls:=.type "slice",data:=.fields #[vl,vu,.none] } } σ H3 x v vl vu l u s3.heap.objs.size Q I4 r1 (Heap.IsSliceOf.new ..) pl pu q3
 show wpAny (model X.prog X.w) X.A (subscriptTail e (.Slice lo hi none p2) v (.ref s3.heap.objs.size)) (EP X pins σ Q) X.xe { s3 with heap:=s3.heap.push { cls:=.type "slice",data:=.fields #[vl,vu,.none] } }
 exact tail_any (ops:=[.ref s3.heap.objs.size,v]) ht hT hg (by with_unfolding_all rfl)
noncomputable def cutV (xs:List V) (lo hi:Option Int):List V:=(xs.drop (HT.sIx xs.length 0 lo)).take (HT.sIx xs.length xs.length hi - HT.sIx xs.length 0 lo)
theorem zam5 (xs:List V) (lo hi:Option Int):(cutV xs lo hi).length≤xs.length:=by
 unfold cutV
 rw [zbo6,zbm6]
 lia
end
end L2
namespace L2
open PySem.Spec
noncomputable def ixN (n:Nat) (i:Int):Option Nat:=if 0≤i then (if i<n then some i.toNat else none) else if -(n:Int)≤i then some (i+n).toNat else none
def atI {α:Type} (xs:List α) (i:Int):Option α:=(ixN xs.length i).bind fun j=>xs[j]?
theorem zaz7 {n:Nat}{i:Int}{j:Nat} (h:ixN n i=some j):seqIndex? i n=some j∧j<n ∧ -(n:Int)≤i∧i<n:=by
 unfold ixN at h
 by_cases h0:0≤i
 ·rw [if_pos h0]at h
  by_cases h1:i<n
  ·rw [if_pos h1]at h
   have e:i.toNat=j:=Option.some.inj h
   exact⟨by rw [seqIndex_of h0 h1,e],by lia,by lia,h1⟩
  ·rw [if_neg h1]at h;cases h
 ·rw [if_neg h0]at h
  by_cases h1 : -(n:Int)≤i
  ·rw [if_pos h1]at h
   have e:(i+n).toNat=j:=Option.some.inj h
   exact⟨by rw [seqIndex_neg (by lia) h1,e],by lia,h1,by lia⟩
  ·rw [if_neg h1]at h;cases h
theorem zbc8 {α:Type}{xs:List α}{i:Int}{v:α} (h:atI xs i=some v):∃j,seqIndex? i xs.length=some j∧xs[j]?=some v∧j<xs.length ∧ -(xs.length:Int)≤i∧i<xs.length:=by
 unfold atI at h
 cases e:ixN xs.length i with
 |none=>rw [e]at h;cases h
 |some j =>
  rw [e]at h
  obtain⟨h1,h2,h3,h4⟩:=zaz7 e
  exact⟨j,h1,h,h2,h3,h4⟩
def zae5 (b:Expr):Prop := ∀o i,subscripted b false o i=operate [o,i] (getItem o i)
noncomputable def IxR (X:Cx) (r:R2):Prop :=
 ∀(value slice:Expr) (pins:List (Addr×Obj)) (s:zbe5) (σ:St) (H:Hp) (x y:V) (v u:Value) (Q:VK),Inv X pins σ H s→RelV x v→RelV y u→r x y H Q →
  subscripted slice false v u=operate [v,u] (getItem v u)→wpAny (model X.prog X.w) X.A (subscriptTail value slice v u) (EP X pins σ Q) X.xe s
noncomputable def MtR (X:Cx) (id:String) (r:V→List V→Hp→VK→Prop):Prop :=
 ∀(pins:List (Addr×Obj)) (s:zbe5) (σ:St) (H:Hp) (x:V) (xs:List V) (v:Value) (us:List Value) (Q:VK),Inv X pins σ H s→RelV x v→Vals xs us→r x xs H Q →
  wpAny (model X.prog X.w) X.A (call (.builtin id) (v::us)) (EP X pins σ Q) X.xe s
section
variable {X:Cx}{a b:Expr}{ta tb:TE}{pos:Pos}
theorem IxR.or {r r':R2} (h:IxR X r) (h':IxR X r'):IxR X (fun x y H Q=>r x y H Q∨r' x y H Q):=by
 intro value slice pins s σ H x y v u Q I rx ry q hs
 rcases q with q | q
 ·exact h value slice pins s σ H x y v u Q I rx ry q hs
 ·exact h' value slice pins s σ H x y v u Q I rx ry q hs
theorem pe_ix {r:R2} (hr:IxR X r) (ha:PE X a ta) (hb:PE X b tb) (hs:zae5 b):PE X (.Subscript a b pos) (tOp r ta tb):=by
 intro pins s σ H Q I h
 exact Subscript_ (binT ha hb I h fun v u s2 x y H2 I2 rx ry q=>hr a b pins s2 σ H2 x y v u Q I2 rx ry q (hs _ _))
def rIxL (K:zbd4):R2:=fun x y H Q => ∃p xs i v,x=.ref p∧y=.int i∧SqL K H p xs∧atI xs i=some v∧Q v H
def rIxT (K:zbd4):R2:=fun x y H Q => ∃p xs i v,x=.ref p∧y=.int i∧SqT K H p xs∧atI xs i=some v∧Q v H
theorem ix_list:IxR X (rIxL X.K):=by
 intro value slice pins s σ H x y v u Q I rx ry h hs
 obtain⟨p,xs,i,z,rfl,rfl,hq,he,q⟩:=h
 cases rx
 obtain⟨t,rfl⟩:=ry
 obtain⟨its,r,pl,hz⟩:=I.list hq
 obtain⟨j,h1,h2,h3,h4,h5⟩:=zbc8 he
 obtain⟨w,ew,rw'⟩:=r.get h2
 have hl:=r.length
 have hn:=zaf8
 have fin:EP X pins σ Q w s:=⟨z,H,I,rw',q⟩
 by_cases h0:0≤i
 ·have hj:i.toNat=j:=by
   rw [seqIndex_of h0 h5]at h1
   exact Option.some.inj h1
  exact item_listR pl.isList h0 (by lia) (by rw [hj];simpa using ew) fin hs
 ·have hj:(i+(its.toArray.size:Int)).toNat=j:=by
   rw [seqIndex_neg (by lia) h4]at h1
   rw [zbf5, ← hl]
   exact Option.some.inj h1
  exact subscriptTail_builtinR (x:=w) pl.isList.typeIs slot_list_getitem.lookup
   (wpAny_getItem_list_neg (Q:=fun r s'=>r=w∧EP X pins σ Q r s') pl.isList (by lia) (by rw [zbf5]<;>lia) (by lia) (by rw [hj];simpa using ew) ⟨rfl,fin⟩) hs
theorem zaz6:IxR X (rIxT X.K):=by
 intro value slice pins s σ H x y v u Q I rx ry h hs
 obtain⟨p,xs,i,z,rfl,rfl,hq,he,q⟩:=h
 cases rx
 obtain⟨t,rfl⟩:=ry
 obtain⟨its,r,pl,hz⟩:=I.tuple hq
 obtain⟨j,h1,h2,h3,h4,h5⟩:=zbc8 he
 obtain⟨w,ew,rw'⟩:=r.get h2
 have hl:=r.length
 have hn:=zaf8
 have fin:EP X pins σ Q w s:=⟨z,H,I,rw',q⟩
 exact subscriptTail_builtinR (x:=w) pl.typeIs slot_tuple_getitem.lookup
  (getItem_tuple (j:=j) (Q:=fun r s'=>r=w∧EP X pins σ Q r s') pl (by lia) (by lia) (by rw [zbf5, ← hl];exact h1) (by simpa using ew) ⟨rfl,fin⟩) hs
theorem zas9 (its:List Value) (n j:Nat) (u:Value):Obj.mapSeq (·.setIfInBounds j u) { cls:=.type "list",data:=.seq its.toArray n }={ cls:=.type "list",data:=.seq (its.set j u).toArray n }:=by
 simp [Obj.mapSeq]
theorem Inv.lst {pins:List (Addr×Obj)}{σ:St}{H:Hp}{s:zbe5}{p:Addr}{xs:List V} (I:Inv X pins σ H s) (h:H p=some (.lst xs)) :
  ∃(its:List Value) (n:Nat),Vals xs its∧s.heap.get? p=some { cls:=.type "list",data:=.seq its.toArray n }∧xs.length≤sizeLine:=by
 obtain⟨z,its,n,r,e⟩:=I.hok p _ h
 exact⟨its,n,r,e,z⟩
theorem Inv.lstUpd {pins:List (Addr×Obj)}{σ:St}{H:Hp}{s:zbe5}{p:Addr}{xs ys:List V}{its its':List Value}{n n':Nat}{f:Obj→Obj} (I:Inv X pins σ H s) (h:H p=some (.lst xs))
  (ho:s.heap.get? p=some { cls:=.type "list",data:=.seq its.toArray n }) (hf:f { cls:=.type "list",data:=.seq its.toArray n }={ cls:=.type "list",data:=.seq its'.toArray n' }) (r:Vals ys its') (hz:ys.length≤sizeLine) (t:Nat) :
  Inv X pins σ (upd H p (.lst ys)) { s with heap:=s.heap.update p f,toks:=t }:=by
 have e:(s.heap.update p f).get? p=some { cls:=.type "list",data:=.seq its'.toArray n' }:=by
  rw [Heap.get?_update_self f ho (by rw [hf]<;>rfl),hf]
 refine I.write (x:=p) (e:=p) (by rw [h];trivial) (.inl rfl) (fun b u hb q=>(zbo7 _ _ (Ne.symm hb)).trans q) ⟨_,e⟩ ?_
 exact⟨hz,its',n',r,e⟩
noncomputable def rSetL:V→V→V→Hp→(Hp→Prop)→Prop:=fun o i v H Q => ∃p xs k j,o=.ref p∧i=.int k∧H p=some (.lst xs)∧ixN xs.length k=some j∧Q (upd H p (.lst (xs.set j v)))
theorem set_list:PSet X rSetL:=by
 intro pins s σ H o i v ov iv u Q I ro ri rv h
 obtain⟨p,xs,k,j,rfl,rfl,hp,hj,q⟩:=h
 cases ro
 obtain⟨t,rfl⟩:=ri
 obtain⟨its,n,r,ho,hz⟩:=I.lst hp
 obtain⟨h1,h2,h3,h4⟩:=zaz7 hj
 have hl:=r.length
 have hn:=zaf8
 have I':Inv X pins σ (upd H p (.lst (xs.set j v))) { s with heap:=s.heap.update p (Obj.mapSeq (·.setIfInBounds j u)) } :=
  I.lstUpd hp ho (zas9 its n j u) (r.set rv j) (by rw [List.length_set];exact hz) s.toks
 by_cases h0:0≤k
 ·have hk:k.toNat=j:=by
   rw [seqIndex_of h0 h4]at h1
   exact Option.some.inj h1
  exact PySem.W.ki_setAt ho h0 (by lia) (by rw [zbf5, ← hl];exact h4) (by rw [hk];exact⟨_,I',q⟩)
 ·have hk:(k+(its.toArray.size:Int)).toNat=j:=by
   rw [seqIndex_neg (by lia) h3]at h1
   rw [zbf5, ← hl]
   exact Option.some.inj h1
  exact PySem.W.ki_setBack ho (by lia) (by rw [zbf5, ← hl];exact h3) (by lia) (by rw [hk];exact⟨_,I',q⟩)
theorem zae9 (lo hi:Option Int) (n:Nat):(sliceBounds lo hi none n).1=((HT.sIx n 0 lo:Nat):Int)∧(sliceBounds lo hi none n).2.1=((HT.sIx n n hi:Nat):Int)∧(sliceBounds lo hi none n).2.2=1:=by
 refine⟨?_,?_,rfl⟩
 ·cases lo with
  |none=>simp [sliceBounds,HT.sIx]
  |some i =>
   simp only [sliceBounds,HT.sIx,zbq9,show (1:Int) > 0 by decide,if_true]
   by_cases h:i<0
   ·simp only [h,if_true]<;>lia
   ·simp only [h,if_false]<;>lia
 ·cases hi with
  |none=>simp [sliceBounds,HT.sIx]
  |some i =>
   simp only [sliceBounds,HT.sIx,zbq9,show (1:Int) > 0 by decide,if_true]
   by_cases h:i<0
   ·simp only [h,if_true]<;>lia
   ·simp only [h,if_false]<;>lia
theorem zab1 (its:List Value) (lo hi:Option Int):slicePick its.toArray lo hi none=((its.drop (HT.sIx its.length 0 lo)).take (HT.sIx its.length its.length hi - HT.sIx its.length 0 lo)).toArray:=by
 obtain⟨h1,h2,h3⟩:=zae9 lo hi its.toArray.size
 unfold slicePick
 rw [h1,h2,h3]
 simp only [sliceRange_one,pick_run,zbf5]<;>rfl
noncomputable def rSlL (K:zbd4):V→Option Int→Option Int→Hp→VK→Prop:=fun x lo hi H Q => ∃a xs,x=.ref a∧SqL K H a xs∧∀p,H p=none→Q (.ref p) (upd H p (.lst (cutV xs lo hi)))
theorem zav0:SlR X (rSlL X.K):=by
 intro pins s σ H x v vl vu lo hi sl Q I rx hs pl pu h
 obtain⟨a,xs,rfl,hx,q⟩:=h
 cases rx
 obtain⟨its,r,ht,hz⟩:=I.list hx
 have hlen:=r.length
 refine⟨"list",_,slot_list_getitem.lookup,ht.isList.typeIs,?_⟩
 refine wpAny_getItem_list_slice ht.isList hs pl pu .none (by simp) ?_ (by rw [zbf5]<;>lia)
 rw [zab1, ← hlen]
 refine⟨.ref s.heap.objs.size,_,I.laid (t':=s.toks) (o:=.lst (cutV xs lo hi)) (fun b ob q=>zbe4 _ q) (zbf6 _) ?_,rfl,q _ (I.hok.fresh (zbf6 _))⟩
 exact⟨zbh3 (zam5 xs lo hi) hz,_,0,(r.drop (HT.sIx xs.length 0 lo)).take (HT.sIx xs.length xs.length hi - HT.sIx xs.length 0 lo),zbg5 _ rfl⟩
def zr7:V→Bool
 |.non=>true
 |.bl _=>true
 |.int _=>true
 |.str _=>true
 |_=>false
noncomputable def eqV:V→V→Bool
 |.non,.non=>true
 |.bl a,.bl b=>a == b
 |.bl a,.int b=>(if a then 1 else 0) == b
 |.int a,.bl b=>a ==(if b then 1 else 0)
 |.int a,.int b=>a == b
 |.str a,.str b=>a == b
 |_,_=>false
theorem zba6 {A:Around}{s:zbe5}{y x:V}{u v:Value} (ry:RelV y u) (rx:RelV x v) (fy:zr7 y=true) (fx:zr7 x=true):SeqAt.EqAt A s u v (eqV y x):=by
 cases y with
 |non =>
  cases ry
  cases x with
  |non=>cases rx;exact SeqAt.EqAt.same _
  |bl b=>cases rx;exact SeqAt.EqAt.none_bool b
  |int b=>obtain⟨t,rfl⟩:=rx;exact SeqAt.EqAt.none_int b t
  |str b=>obtain⟨t,rfl⟩:=rx;exact SeqAt.EqAt.none_str b t
  |_=>exact absurd (show false=true from fx) zbf1
 |bl a =>
  cases ry
  cases x with
  |non=>cases rx;exact SeqAt.EqAt.bool_none a
  |bl b=>cases rx;exact SeqAt.EqAt.bool_bool a b
  |int b=>obtain⟨t,rfl⟩:=rx;exact SeqAt.EqAt.bool_int a b t
  |str b=>obtain⟨t,rfl⟩:=rx;exact SeqAt.EqAt.bool_str a b t
  |_=>exact absurd (show false=true from fx) zbf1
 |int a =>
  obtain⟨t',rfl⟩:=ry
  cases x with
  |non=>cases rx;exact SeqAt.EqAt.int_none a t'
  |bl b=>cases rx;exact SeqAt.EqAt.int_bool a t' b
  |int b=>obtain⟨t,rfl⟩:=rx;exact SeqAt.EqAt.int_int a t' b t
  |str b=>obtain⟨t,rfl⟩:=rx;exact SeqAt.EqAt.int_str a t' b t
  |_=>exact absurd (show false=true from fx) zbf1
 |str a =>
  obtain⟨t',rfl⟩:=ry
  cases x with
  |non=>cases rx;exact SeqAt.EqAt.str_none a t'
  |bl b=>cases rx;exact SeqAt.EqAt.str_bool a t' b
  |int b=>obtain⟨t,rfl⟩:=rx;exact SeqAt.EqAt.str_int a t' b t
  |str b=>obtain⟨t,rfl⟩:=rx;exact SeqAt.EqAt.str_str a t' b t
  |_=>exact absurd (show false=true from fx) zbf1
 |_=>exact absurd (show false=true from fy) zbf1
noncomputable def eqU (x:V) (u:Value):Bool:=match u with
 |.none=>eqV .non x
 |.bool b=>eqV (.bl b) x
 |.int i _=>eqV (.int i) x
 |.str z _=>eqV (.str z) x
 |_=>false
theorem eqU_of {x y:V}{u:Value} (r:RelV y u) (f:zr7 y=true):eqU x u=eqV y x:=by
 cases y with
 |non=>cases r;rfl
 |bl b=>cases r;rfl
 |int i=>obtain⟨t,rfl⟩:=r;rfl
 |str z=>obtain⟨t,rfl⟩:=r;rfl
 |_=>exact absurd (show false=true from f) zbf1
theorem zy4 {x:V}:∀ {xs:List V}{us:List Value},Vals xs us→xs.all zr7=true→us.any (eqU x)=xs.any fun y=>eqV y x
 |_,_,.nil,_=>rfl
 |y::xs,u::us,.cons r t,f=>by
  rw [zbh1,zbe0]at f
  rw [zbi9,zbi9,eqU_of r f.1,zy4 t f.2]
theorem zr3 {A:Around}{s:zbe5}{x:V}{v:Value} (rx:RelV x v) (fx:zr7 x=true):∀ {xs:List V}{us:List Value},Vals xs us→xs.all zr7=true→∀u∈us,SeqAt.EqAt A s u v (eqU x u)
 |_,_,.nil,_=>fun u hu=>by cases hu
 |y::xs,u::us,.cons r t,f=>fun u' hu=>by
  rw [zbh1,zbe0]at f
  rcases zbe3.mp hu with rfl | hu
  ·rw [eqU_of r f.1];exact zba6 r rx f.1 fx
  ·exact zr3 rx fx t f.2 u' hu
def inV (x:V) (xs:List V):Bool:=xs.any fun y=>eqV y x
noncomputable def rIn (K:zbd4) (neg:Bool):R2:=fun x y H Q => ∃p xs,y=.ref p∧(SqL K H p xs∨SqT K H p xs)∧zr7 x=true∧xs.all zr7=true∧Q (.bl (if neg then !inV x xs else inV x xs)) H
theorem zaf4:OpR X (compareOp .In) (rIn X.K false):=by
 intro pins s σ H x y v u Q I rx ry h
 obtain⟨p,xs,rfl,hq,fx,fs,q⟩:=h
 cases ry
 rcases hq with hq | hq
 ·obtain⟨its,r,pl,hz⟩:=I.list hq
  refine SeqAt.in_listAt (eqU x) pl.isList (fun w hw=>zr3 rx fx r fs w (by simpa using hw)) ⟨.bl _,H,I,rfl,?_⟩
  rw [show its.toArray.any (eqU x)=its.any (eqU x) by simp,zy4 r fs]
  exact q
 ·obtain⟨its,r,pl,hz⟩:=I.tuple hq
  refine SeqAt.in_tupleAt (eqU x) pl (fun w hw=>zr3 rx fx r fs w (by simpa using hw)) ⟨.bl _,H,I,rfl,?_⟩
  rw [show its.toArray.any (eqU x)=its.any (eqU x) by simp,zy4 r fs]
  exact q
theorem zt0:OpR X (compareOp .NotIn) (rIn X.K true):=by
 intro pins s σ H x y v u Q I rx ry h
 obtain⟨p,xs,rfl,hq,fx,fs,q⟩:=h
 cases ry
 rcases hq with hq | hq
 ·obtain⟨its,r,pl,hz⟩:=I.list hq
  refine SeqAt.notIn_listAt (eqU x) pl.isList (fun w hw=>zr3 rx fx r fs w (by simpa using hw)) ⟨.bl _,H,I,rfl,?_⟩
  rw [show its.toArray.any (eqU x)=its.any (eqU x) by simp,zy4 r fs]
  exact q
 ·obtain⟨its,r,pl,hz⟩:=I.tuple hq
  refine SeqAt.notIn_tupleAt (eqU x) pl (fun w hw=>zr3 rx fx r fs w (by simpa using hw)) ⟨.bl _,H,I,rfl,?_⟩
  rw [show its.toArray.any (eqU x)=its.any (eqU x) by simp,zy4 r fs]
  exact q
theorem zai2:zs8 X (.builtin "len") (fun xs H Q => ∃p ys,xs=[.ref p]∧(SqL X.K H p ys∨SqT X.K H p ys)∧Q (.int ys.length) H):=by
 intro pins s σ H xs us Q I r h
 obtain⟨p,ys,rfl,hq,q⟩:=h
 obtain⟨u,rfl,rx⟩:=zar5 r
 cases rx
 have hn:=zaf8
 rcases hq with hq | hq
 ·obtain⟨its,r',pl,hz⟩:=I.list hq
  have hlen:=r'.length
  exact Calls.call_len_list pl.isList (by simp only [zbf5]<;>lia) ⟨.int ys.length,H,I.tok _,⟨s.toks+1,by rw [zbf5,hlen]⟩,q⟩
 ·obtain⟨its,r',pl,hz⟩:=I.tuple hq
  have hlen:=r'.length
  exact len_tuple pl (by simp only [zbf5]<;>lia) ⟨.int ys.length,H,I.tok _,⟨s.toks+1,by rw [zbf5,hlen]⟩,q⟩
theorem zai1:zs8 X (.type "list") (fun xs H Q => ∃p ys,xs=[.ref p]∧(SqL X.K H p ys∨SqT X.K H p ys)∧∀l,H l=none→Q (.ref l) (upd H l (.lst ys))):=by
 intro pins s σ H xs us Q I r h
 obtain⟨p,ys,rfl,hq,q⟩:=h
 obtain⟨u,rfl,rx⟩:=zar5 r
 cases rx
 have fin:∀(its:List Value),Vals ys its→ys.length≤sizeLine→∀(h':Heap) (c':Nat),(∀b o',s.heap.get? b=some o'→h'.get? b=some o') →
   h'.get? s.heap.objs.size=some { cls:=.type "list",dict:=none,data:=.seq its.toArray c',slots := #[] }→EP X pins σ Q (.ref s.heap.objs.size) { s with heap:=h' }:=fun its r' hz h' c' kp e =>
  ⟨.ref s.heap.objs.size,_,I.laid (t':=s.toks) kp (zbf6 _) (show ObjOk X.prog X.w _ h' _ (.lst ys) from ⟨hz,its,c',r',e⟩),rfl,q _ (I.hok.fresh (zbf6 _))⟩
 rcases hq with hq | hq
 ·obtain⟨its,r',pl,hz⟩:=I.list hq
  have hlen:=r'.length
  obtain⟨o,ho,hc,n,hd⟩:=pl.isList
  exact call_list_seq p (.inl rfl) ho hc hd (fun h' c' kp e=>fin its r' hz h' c' kp e) (by simp only [zbf5]<;>lia)
 ·obtain⟨its,r',pl,hz⟩:=I.tuple hq
  have hlen:=r'.length
  obtain⟨o,ho,hc,n,hd⟩:=pl
  exact call_list_seq p (.inr rfl) ho hc hd (fun h' c' kp e=>fin its r' hz h' c' kp e) (by simp only [zbf5]<;>lia)
noncomputable def tyV (K:zbd4) (T:String) (x:V) (H:Hp):Prop:=match x with
 |.str _=>T = "str"
 |.int _=>T = "int"
 |.ref p=>(T = "list"∧∃xs,SqL K H p xs)∨(T = "tuple"∧∃o,K.lookup p=some o∧o.cls=.type "tuple"∧o.dict=none) ∨
   (T = "dict"∧((∃kvs,H p=some (.dK kvs))∨∃kvs,H p=some (.dT kvs)))∨(T = "set"∧∃S n,H p=some (.set S n))
 |_=>False
theorem tyV_is {pins:List (Addr×Obj)}{σ:St}{H:Hp}{s:zbe5}{T:String}{x:V}{v:Value} (I:Inv X pins σ H s) (r:RelV x v) (ty:tyV X.K T x H) :
  s.TypeIs v T∧∀a,v=.ref a→∃ob,s.heap.get? a=some ob∧ob.dict=none:=by
 cases x with
 |str z =>
  obtain⟨t,rfl⟩:=r
  cases (show T = "str" from ty)
  exact⟨typeIs_str s z t,fun _ e=>nomatch e⟩
 |int i =>
  obtain⟨t,rfl⟩:=r
  cases (show T = "int" from ty)
  exact⟨typeIs_int s i t,fun _ e=>nomatch e⟩
 |ref p =>
  cases r
  rcases ty with ⟨rfl,xs,hq⟩ | ⟨rfl,o,hk,hc,hd⟩ | ⟨rfl,hk⟩ | ⟨rfl,S,n,hk⟩
  ·obtain⟨its,_,pl,_⟩:=I.list hq
   refine⟨pl.isList.typeIs,fun a e=>?_⟩
   cases e
   obtain⟨o,n,e,c,hd,_⟩:=pl
   exact⟨o,e,hd⟩
  ·refine⟨⟨o,I.kIn p o hk,hc⟩,fun a e=>?_⟩
   cases e
   exact⟨o,I.kIn _ o hk,hd⟩
  ·have z:∃o,s.heap.get? p=some o∧o.ExactDict:=by
    rcases hk with ⟨kvs,hk⟩ | ⟨kvs,hk⟩
    ·obtain⟨_,_,_,_,o,_,_,e,ex,_⟩:=I.hok p _ hk
     exact⟨o,e,ex⟩
    ·obtain⟨_,_,_,_,o,_,_,e,ex,_⟩:=I.hok p _ hk
     exact⟨o,e,ex⟩
   obtain⟨o,e,ex⟩:=z
   refine⟨⟨o,e,ex.1⟩,fun a e2=>?_⟩
   cases e2
   exact⟨o,e,ex.2.1⟩
  ·obtain⟨o,_,_,_,e,ex,_⟩:=I.hok p _ hk
   refine⟨⟨o,e,ex.1⟩,fun a e2=>?_⟩
   cases e2
   exact⟨o,e,ex.2.1⟩
 |_=>exact False.elim ty
noncomputable def tBM (K:zbd4) (T:String) (r:V→List V→Hp→VK→Prop) (to:TE) (t:TA):TE:=fun σ H Q=>to σ H fun x H1=>tyV K T x H1∧t σ H1 fun xs H2=>r x xs H2 Q
variable {o e:Expr}{es:List Expr}{to:TE}{t:TA}{name:Str}{apos cpos:Pos}{T id:String}{r:V→List V→Hp→VK→Prop}
theorem pe_bm (pa:PlainAttrs T) (slot:Slot T name id) (hty:typeOf (.builtin id)=pure (.type "method_descriptor")) (hm:MtR X id r) (ho:PE X o to) (ha:PA X (e::es) t)
  (hbase:attributeBase o name X.env (eval o X.env)=eval o X.env:=by rfl)
  (hfew:((zbl0 cpos (zbe7 (e::es) X.env)).all (fun x=>!x.1)&&(backToKw cpos (keywordEach [] X.env)).all (fun x=>x.1.isSome)
   && decide ((e::es).length+([]:List Keyword).length+(if ([]:List Keyword).isEmpty then 0 else 1)<30))=true:=by rfl)
  (hline:(apos.endLine == cpos.line)=true:=by rfl) (hs:zbe7 (e::es) X.env=(false,eval e X.env)::zbe7 es X.env:=by rfl) (hplain:(zbl0 cpos (zbe7 es X.env)).any (·.1)=false:=by rfl) :
  PE X (.Call (.Attribute o name apos) (e::es) [] cpos) (tBM X.K T r to t):=by
 intro pins s σ H Q I h
 refine wpAny_Call_method_late hbase hfew hline rfl (thn (ho pins s σ H _ I h) fun v s1 ⟨x,H1,I1,r1,ty,q1⟩=>?_)
 obtain⟨h1,h2⟩:=tyV_is I1 r1 ty
 refine⟨T,id,pa,slot,hty,h1,h2,?_⟩
 have hA:=ha cpos pins s1 σ H1 _ I1 q1
 rw [hs]at hA ⊢
 refine Calls.callWith_builtin (by show (false||(zbl0 cpos (zbe7 es X.env)).any (·.1))=false;rw [hplain]<;>rfl) (Calls.evalArgs_plain ?_)
 exact thn hA fun us s2 ⟨vs,H2,I2,r2,q2⟩=>hm pins s2 σ H2 x vs v us Q I2 r1 r2 q2
end
end L2
namespace L2
open PySem.Spec
noncomputable def MtM (X:Cx) (id:String) (r:V→List V→Hp→VK→Prop):Prop :=
 ∀(pins:List (Addr×Obj)) (s:zbe5) (σ:St) (H:Hp) (x:V) (xs:List V) (v:Value) (us:List Value) (Q:VK),Inv X pins σ H s→RelV x v→Vals xs us→r x xs H Q →
  wpAny (model X.prog X.w) X.A (call (.builtin id) (v::us)) (EP X pins σ Q) X.xe s
theorem Vals.one:∀ {x:V}{us:List Value},Vals [x] us→∃u,us=[u]∧RelV x u
 |_,_,.cons r .nil=>⟨_,rfl,r⟩
theorem Vals.two:∀ {x y:V}{us:List Value},Vals [x,y] us→∃u v,us=[u,v]∧RelV x u∧RelV y v
 |_,_,_,.cons r (.cons q .nil)=>⟨_,_,rfl,r,q⟩
theorem Vals.reverse {xs:List V}{us:List Value} (h:Vals xs us):Vals xs.reverse us.reverse:=by
 induction h with
 |nil=>exact .nil
 |cons r t ih=>rw [zbm0,zbm0];exact Vals.append ih (.cons r .nil)
theorem Vals.rep {xs:List V}{us:List Value} (h:Vals xs us):∀k:Nat,Vals (zbe8 k xs).flatten (zbe8 k us).flatten
 |0=>.nil
 |k+1=>by
  rw [zbj0,zbj0,zbm1,zbm1]
  exact Vals.append h (Vals.rep h k)
theorem zag5 (its:List Value):∀(k:Nat) (acc:List Value),
  zbt1 (fun x1 x2=>x1++x2) acc.toArray (zbe8 k its.toArray)=(acc++(zbe8 k its).flatten).toArray
 |0,acc=>by simp
 |k+1,acc=>by
  have e:acc.toArray++its.toArray=(acc++its).toArray:=by simp
  have e2:(acc++its)++(zbe8 k its).flatten=acc++(zbe8 (k+1) its).flatten:=by
   rw [zbj0,zbm1,zbj7]
  rw [← e2, ← zag5 its k (acc++its), ← e,zbj0,zbn2]
section
variable {X:Cx}{pins:List (Addr×Obj)}{σ:St}{H:Hp}{s:zbe5}{l b:Addr}{xs ys zs:List V}
theorem Inv.lset {its its':List Value}{n:Nat}{f:Array Value→Array Value}{t':Nat} (I:Inv X pins σ H s) (hH:H l=some (.lst xs))
  (e:s.heap.get? l=some { cls:=.type "list",data:=.seq its.toArray n }) (hf:f its.toArray=its'.toArray) (hv:Vals ys its') (hz:ys.length≤sizeLine) :
  Inv X pins σ (upd H l (.lst ys)) { s with heap:=s.heap.update l (Obj.mapSeq f),toks:=t' }:=by
 have q:=PySem.IsL.update e f
 rw [hf]at q
 refine I.write (x:=l) (e:=l) (by rw [hH];exact trivial) (.inl rfl) (fun b' u hb hu=>(zbo7 s.heap (Obj.mapSeq f) (Ne.symm hb)).trans hu) ⟨_,q⟩ ?_
 exact⟨hz,its',_,hv,q⟩
theorem Inv.lnew {its:List Value}{t':Nat} (I:Inv X pins σ H s) (hv:Vals ys its) (hz:ys.length≤sizeLine) :
  Inv X pins σ (upd H s.heap.objs.size (.lst ys)) { s with heap:=s.heap.push { cls:=.type "list",data:=.seq its.toArray },toks:=t' } :=
 I.laid (fun _ _ q=>zbe4 _ q) (zbf6 _) ⟨hz,its,0,hv,zbg5 _ rfl⟩
theorem Inv.fresh (I:Inv X pins σ H s):H s.heap.objs.size=none:=I.hok.fresh (zbf6 _)
theorem Inv.lstM (I:Inv X pins σ H s) (hH:H l=some (.lst xs)):xs.length≤sizeLine∧∃(its:List Value) (n:Nat),Vals xs its∧xs.length=its.length∧s.heap.get? l=some { cls:=.type "list",data:=.seq its.toArray n }:=by
 obtain⟨z,its,n,r,e⟩:=I.hok l _ hH
 exact⟨z,its,n,r,r.length,e⟩
theorem notLongL {n:Nat} (h:n≤sizeLine):Builtin.List.listTooLong n=false:=by
 unfold Builtin.List.listTooLong
 exact decide_eq_false (by lia)
end
section
variable {X:Cx}
noncomputable def rAppend:V→List V→Hp→VK→Prop:=fun x vs H Q => ∃l xs y,x=.ref l∧vs=[y]∧H l=some (.lst xs)∧xs.length<sizeLine∧Q .non (upd H l (.lst (xs++[y])))
theorem zx1:MtM X "list.append" rAppend:=by
 intro pins s σ H x vs v us Q I rx rv h
 obtain⟨l,xs,y,rfl,rfl,hH,hz,q⟩:=h
 cases rx
 obtain⟨u,rfl,ru⟩:=rv.one
 obtain⟨z,its,n,r,hl,e⟩:=I.lstM hH
 refine call_meets F.slot_list_append ⟨_,e,rfl⟩ F.entry_list_append (F.args_list_append_2 _ _) (PySem.list_append l its.toArray n u (by rw [zbf5];lia)) ⟨e,?_⟩
 refine⟨.non,_,I.lset (its':=its++[u]) hH e (by simp) (r.append (.cons ru .nil)) ?_,rfl,q⟩
 rw [zbf8,zbg6]
 lia
noncomputable def rRep:R2:=fun x y H Q => ∃l k xs,x=.ref l∧y=.int k∧H l=some (.lst xs) ∧ -(2 ^ 63)≤k∧k<2 ^ 63∧xs.length*k.toNat≤sizeLine ∧
 ∀p,H p=none→Q (.ref p) (upd H p (.lst (zbe8 k.toNat xs).flatten))
theorem len_rep {α:Type} (xs:List α) (k:Nat):(zbe8 k xs).flatten.length=k*xs.length:=by
 induction k with
 |zero=>simp
 |succ k ih=>rw [zbj0,zbm1,zbf8,ih,Nat.succ_mul,Nat.add_comm]
theorem op_rep:OpR X (binaryOp .Mult) rRep:=by
 intro pins s σ H x y v u Q I rx ry h
 obtain⟨l,k,xs,rfl,rfl,hH,h1,h2,hz,q⟩:=h
 cases rx
 obtain⟨t,rfl⟩:=ry
 obtain⟨z,its,n,r,hl,e⟩:=I.lstM hH
 have hlen:its.toArray.size*k.toNat≤sizeLine:=by rw [zbf5, ← hl];exact hz
 have hcap : ¬ its.toArray.size*k.toNat >(2 ^ 63 - 1) / 8:=by
  have:(sizeLine:Nat)≤(2 ^ 63 - 1) / 8:=by decide
  lia
 have hfit : ¬ (!Builtin.List.listFitsIndex k)=true:=by
  rw [fitsIndex_both h1 h2]
  exact zbf1
 have hlong : ¬ Builtin.List.listTooLong (its.toArray.size*k.toNat)=true:=by
  rw [notLongL hlen]
  exact zbf1
 have hnew:zbt1 (fun x1 x2=>x1++x2) #[] (zbe8 (if its.toArray.isEmpty=true then 0 else k.toNat) its.toArray)=(zbe8 k.toNat its).flatten.toArray:=by
  have f0:∀m:Nat,zbt1 (fun x1 x2=>x1++x2) #[] (zbe8 m its.toArray)=(zbe8 m its).flatten.toArray:=fun m=>by
   have:=zag5 its m []
   rw [List.nil_append]at this
   exact this
  rw [f0]
  cases its with
  |nil=>simp
  |cons a r'=>rw [if_neg (by simp)]
 refine wpAny_binaryOp_repeat_ref (T := "list") (U := "int") (by decide) ⟨_,e,rfl⟩ (fun s'=>typeIs_int s' k t) noFill_list_mul F.fills_int_mul F.slot_int_rmul repeat_list F.slot_int_index.lookup
  (call_meets F.slot_int_rmul (typeIs_int s k t) F.entry_int_rmul (F.args_int_rmul_2 _ _) (int___rmul___int_list k t l its.toArray n)
   ⟨e,rfl,⟨_,e,rfl⟩,call_meets F.slot_list_mul ⟨_,e,rfl⟩ F.entry_list_mul (F.args_list_mul_2 _ _) (AutoListH.list___mul___list_int_3 l its.toArray n k t hfit hcap hlong) ⟨e,?_⟩⟩)
 rw [hnew]
 exact⟨.ref _,_,I.lnew (t':=s.toks) (r.rep k.toNat) (by rw [len_rep,Nat.mul_comm];exact hz),rfl,q _ I.fresh⟩
end
end L2
namespace Att
open PySem.W PySem.Calls
theorem zx3 {P:Params}{h:Heap}:∀(ns:List Int) (vs:List Value),WellAll P h vs (ns.map WData.int)→IntsAre vs ns:=by
 intro ns
 induction ns with
 |nil =>
  intro vs w
  rw [zbn9]at w
  cases w
  exact .nil
 |cons n ns ih =>
  intro vs w
  rw [zbf4]at w
  cases w with
  |cons a b =>
   cases a
   exact .cons _ _ (ih _ b)
theorem script_of {l:OpenLaw}{n:Nat} (hn:l.most=some n) {P:Params}{h:Heap}{args:List WData}{vals:List Value}
  (hpre:l.row.toRowW.claim.pre args=true) (hwl:WellAll P h vals args) :
  ∃a vs ns,vals=[Value.ref a]∧args=[WData.list (ns.map WData.int)]∧h.get? a=some { cls:=.type "list",data:=.seq vs.toArray }∧IntsAre vs ns∧ns.length≤n:=by
 have hsh:WShape.hasAll [] args [.list .int]=true:=(pre_splitW hpre).1
 have hc:l.pre.holds [] { args:=args }=true:=(pre_splitW hpre).2
 obtain⟨d,r,rfl,h1,h2⟩:=hasAllW_cons hsh
 obtain rfl:=hasAllW_nil h2
 obtain⟨xs,rfl,h3⟩:=hasW_list h1
 obtain⟨ns,rfl⟩:=items_int h3
 have hlen:ns.length≤n:=by
  unfold OpenLaw.pre at hc
  have h4:(WTm.not (.lt (.lit (.int (n:Int))) (.len (.arg 0)))).holds [] { args:=[.list (ns.map .int)] }=true:=by
   have h4:=(holds_andW hc).1
   rw [hn]at h4
   exact h4
  have h5:=condW_of h4 (w_not (w_lt w_lit (w_len_list (w_arg rfl))))
  rw [zbf7]at h5
  refine Nat.le_of_not_lt fun q=>?_
  have q':(n:Int)<((ns.length:Nat):Int):=by lia
  first
   |(rw [decide_eq_true q']at h5;exact absurd h5 (by decide))
   |(simp at h5;lia)
 cases hwl with
 |cons w1 w2 =>
  cases w2
  cases w1 with
  |list ho hall=>exact⟨_,_,ns,rfl,rfl,ho,zx3 ns _ hall,hlen⟩
theorem post_true (l:OpenLaw) (args:List WData):l.row.toRowW.claim.post args (.bool true) args=true :=
 postW_of (r:=l.row.toRowW) (X:=(true == true))
  (show WShape.has [] (.bool true) .bool=true by first | rfl | decide | simp [WShape.has,WShape.arms,WShape.armsAll])
  (show (WTm.eq .res (.lit (.bool true))).value [] { args:=args,res:=some (.bool true),after:=args }=some (.bool (true == true)) from w_eq_bool (w_res rfl) w_lit) rfl
end Att
namespace L2
open PySem.Spec
theorem zv1:∀ {vs:List Value}{ns:List Int},IntsAre vs ns→Vals (ns.map V.int) vs
 |_,_,.nil=>.nil
 |_,_,.cons n t h=>.cons ⟨t,rfl⟩ (zv1 h)
noncomputable def zj9 (s:Stmt):Arguments:=match s with
 |.FunctionDef _ a _ _ _ _ _ _ _ _=>a
 |_=>{ posonlyargs:=[],args:=[],vararg:=none,kwonlyargs:=[],kw_defaults:=[],kwarg:=none,defaults:=[] }
def zh3 (s:Stmt):List Stmt:=match s with
 |.FunctionDef _ _ b _ _ _ _ _ _ _=>b
 |_=>[]
noncomputable def zb4 (s:Stmt):Scope:=match s with
 |.FunctionDef _ _ _ _ _ _ sc _ _ _=>sc
 |_=>{ kind:=.function,names:=[],isGenerator:=false,isCoroutine:=false }
abbrev CX0:CXT:=fun _ _ _ _ _ _=>False
abbrev E0:XK:=fun _ _ _=>False
theorem pass0 {X:Cx}:zbd2 CX0 X E0:=fun _ _ _ _ _ _ _ h=>h.elim
structure Fun (K:zbd4) (x qual:Str) (st:Stmt) (f:Addr) (fd:FuncData):Prop where
 ex:∃(oc:Value) (od:Option Addr) (kV doc pm:Value) (an:Option Addr) (cdv ct:Value) (osl:Array (Option Value)),
  fd=zbi0 x qual (zj9 st) (zh3 st) (zb4 st) .none kV doc pm an cdv ct∧K.lookup f=some ⟨oc,od,.func fd,osl⟩∧zbn8 K cdv qual=true
 kp:zbh6 K (.ref f)=true
section
variable {P:Program}{w:World}{K:zbd4}{mg:Str→Option Value}{base:BHeap}
theorem Fun.ok {x qual:Str}{st:Stmt}{f:Addr}{fd:FuncData}{N ps:List Str}{k:Nat}{sp:Sp} (F:Fun K x qual st f fd) (S:FnScope N ps (zb4 st)) (len:∀vs H Q E,sp vs H Q E→vs.length=ps.length)
  (hbody:∀(cdv:Value) (A:Around) (outer:List Env) (s:zbe5) (H:Hp) (vs:List V) (Q:VK) (E:XK),Room k (A.deeper (envOfC qual (zb4 st) s.heap.objs.size f cdv))→sp vs H Q E →
   ∃t,PSs (cxOf CX0 P w K mg base N qual (zb4 st) f cdv A outer s H E).nox (zh3 st) t∧t { nx:=fun _ H'=>Q .non H',rt:=Q } (start N vs) H):FnOk P w K mg base CX0 (k+1) f fd ps sp:=by
 obtain⟨oc,od,kV,doc,pm,an,cdv,ct,osl,rfl,lk,hcd⟩:=F.ex
 refine fn_of lk hcd S len fun A outer s H vs Q E hr hsp=>?_
 obtain⟨t,h,q⟩:=hbody cdv A outer s H vs Q E hr hsp
 exact⟨t,h.nox,q⟩
theorem Fun.binds {x qual:Str}{st:Stmt}{f:Addr}{fd:FuncData}{ps:List Str} (F:Fun K x qual st f fd)
  (h:∀(kV doc pm:Value) (an:Option Addr) (cdv ct:Value) (us:List Value),us.length=ps.length→bindArgs (zbi0 x qual (zj9 st) (zh3 st) (zb4 st) .none kV doc pm an cdv ct) ⟨us,[]⟩=pure (ps.zip us)):Binds K fd ps []:=by
 obtain⟨oc,od,kV,doc,pm,an,cdv,ct,osl,rfl,lk,hcd⟩:=F.ex
 exact .all (h kV doc pm an cdv ct)
theorem fun_mk {x qual:Str}{st:Stmt}{f:Addr}{oc:Value}{od an:Option Addr}{osl:Array (Option Value)}{kV doc pm cdv ct:Value} (l:K.lookup f=some ⟨oc,od,.func (zbi0 x qual (zj9 st) (zh3 st) (zb4 st) .none kV doc pm an cdv ct),osl⟩)
  (c:zbn8 K cdv qual=true) (k:zbh6 K (.ref f)=true):Fun K x qual st f (zbi0 x qual (zj9 st) (zh3 st) (zb4 st) .none kV doc pm an cdv ct):=⟨⟨oc,od,kV,doc,pm,an,cdv,ct,osl,rfl,l,c⟩,k⟩
end
theorem iteF {A B:Prop} (h:B):if false=true then A else B:=by
 rw [if_neg zbf1]
 exact h
theorem iteT {A B:Prop} (h:A):if true=true then A else B:=by
 rw [if_pos rfl]
 exact h
def Same (H H':Hp):Prop := ∀b o,H b=some o→H' b=some o
theorem Same.refl (H:Hp):Same H H:=fun _ _ h=>h
theorem Same.trans {H H1 H2:Hp} (a:Same H H1) (b:Same H1 H2):Same H H2:=fun c o h=>b c o (a c o h)
theorem Same.free {H H':Hp} (e:Same H H') {l:Addr} (h:H' l=Option.none):H l=Option.none:=by
 cases q:H l with
 |none=>rfl
 |some o =>
  rw [e l o q]at h
  cases h
theorem Same.seq {K:zbd4}{H H':Hp}{a:Addr}{xs:List V} (e:Same H H') (h:SqL K H a xs):SqL K H' a xs:=by
 rcases h with (h | ⟨o,h⟩) |h
 ·exact .inl (.inl (e _ _ h))
 ·exact .inl (.inr ⟨o,e _ _ h⟩)
 ·exact .inr h
end L2
set_option maxHeartbeats 4000000
namespace L2
open PySem.Spec
section
variable {κ:Type} [DecidableEq κ]
def valV (kvs:List (κ×V)) (k:κ):Option V:=(kvs.find? fun kv=>decide (kv.1=k)).map (·.2)
noncomputable def putK (kvs:List (κ×V)) (k:κ) (v:V):List (κ×V) :=
 if (kvs.any fun kv=>decide (kv.1=k))=true then kvs.map (fun kv=>if kv.1=k then (kv.1,v) else kv) else kvs++[(k,v)]
theorem zt8 {p:κ×V}{r:List (κ×V)}{k:κ} (e:p.1=k):valV (p::r) k=some p.2:=by simp [valV,zbk7,e]
theorem zt9 {p:κ×V}{r:List (κ×V)}{k:κ} (e : ¬ p.1=k):valV (p::r) k=valV r k:=by simp [valV,zbk7,e]
theorem zan1 (k:κ):∀kvs:List (κ×V),(kvs.any fun kv=>decide (kv.1=k))=(valV kvs k).isSome
 |[]=>rfl
 |p::r=>by
  rw [zbi9]
  by_cases e:p.1=k
  ·simp only [zt8 e,decide_eq_true e,zbm7,zbp7]
  ·rw [zt9 e,decide_eq_false e,zbl6];exact zan1 k r
theorem zam1 (kvs:List (κ×V)) (k:κ) (v:V):(putK kvs k v).length≤kvs.length+1:=by
 unfold putK
 split
 ·rw [zbf7];lia
 ·rw [zbf8,zbf3,zbn3];lia
theorem RelO.isSome_eq {o:Option V}{u:Option Value} (r:RelO o u):o.isSome=u.isSome:=by
 cases o with
 |none=>cases u with
  |none=>rfl
  |some _=>exact (show False from r).elim
 |some _=>cases u with
  |none=>exact (show False from r).elim
  |some _=>rfl
theorem RelO.getD {o:Option V}{u:Option Value}{d:V}{d':Value} (r:RelO o u) (rd:RelV d d'):RelV (o.getD d) (u.getD d'):=by
 cases o with
 |none=>cases u with
  |none=>exact rd
  |some _=>exact (show False from r).elim
 |some _=>cases u with
  |none=>exact (show False from r).elim
  |some _=>exact r
theorem KV.val {kvs:List (κ×V)}{vs:List (κ×Value)} (r:KV kvs vs) (k:κ):RelO (valV kvs k) (valueAt vs k):=by
 unfold KV at r
 induction r with
 |nil=>exact True.intro
 |@cons p q ps qs h t ih =>
  obtain⟨h1,h2⟩:=h
  by_cases e:p.1=k
  ·have e':q.1=k:=h1.symm.trans e
   have b:valueAt (q::qs) k=some q.2:=by simp [valueAt,zbk7,e']
   rw [zt8 e,b];exact h2
  ·have e' : ¬ q.1=k:=fun z=>e (h1.trans z)
   have b:valueAt (q::qs) k=valueAt qs k:=by simp [valueAt,zbk7,e']
   rw [zt9 e,b];exact ih
theorem KV.any {kvs:List (κ×V)}{vs:List (κ×Value)} (r:KV kvs vs) (k:κ):(kvs.any fun kv=>decide (kv.1=k))=vs.any fun kv=>decide (kv.1=k):=by
 unfold KV at r
 induction r with
 |nil=>rfl
 |cons h t ih=>rw [zbi9,zbi9,ih,h.1]
theorem KV.repl {kvs:List (κ×V)}{vs:List (κ×Value)} (r:KV kvs vs) (k:κ) {y:V}{u:Value} (ry:RelV y u) :
  KV (kvs.map fun kv=>if kv.1=k then (kv.1,y) else kv) (vs.map fun kv=>if kv.1=k then (kv.1,u) else kv):=by
 unfold KV at r ⊢
 induction r with
 |nil=>exact .nil
 |@cons p q ps qs h t ih =>
  rw [zbf4,zbf4]
  refine .cons ?_ ih
  obtain⟨h1,h2⟩:=h
  by_cases e:p.1=k
  ·rw [if_pos e,if_pos (h1.symm.trans e)];exact⟨h1,ry⟩
  ·rw [if_neg e,if_neg (fun z=>e (h1.trans z))];exact⟨h1,h2⟩
theorem KV.put {kvs:List (κ×V)}{vs:List (κ×Value)} (r:KV kvs vs) (k:κ) {y:V}{u:Value} (ry:RelV y u):KV (putK kvs k y) (stored vs k u):=by
 unfold putK stored
 rw [r.any k]
 by_cases e:(vs.any fun kv=>decide (kv.1=k))=true
 ·rw [if_pos e,if_pos e];exact r.repl k ry
 ·rw [if_neg e,if_neg e];exact Paired.snoc r ⟨rfl,ry⟩
theorem KV.length {kvs:List (κ×V)}{vs:List (κ×Value)} (r:KV kvs vs):kvs.length=vs.length:=Paired.length r
end
theorem kV_is {P:Program}{w:World}{k:Key}{u:Value} (r:RelV (kV k) u):(zh1 P w).is k u=true:=by
 cases k with
 |inl i=>obtain⟨t,e⟩:=(show ∃t,u=Value.int i t from r);subst e;exact zal8 P w i t
 |inr x=>obtain⟨t,e⟩:=(show ∃t,u=Value.str x t from r);subst e;exact zal7 P w x t
theorem zag0 {P:Program}{w:World}:∀ {ks:List Key}{us:List Value},Vals (ks.map kV) us→ItemsAre (zh1 P w) ks us
 |[],_,r=>by rw [zbn9]at r;cases r;exact .nil
 |k::ks,_,r=>by
  rw [zbf4]at r
  cases r with
  |cons h t=>exact .cons (kV_is h) (zag0 t)
noncomputable abbrev KT (H:Hp):List (List Key×V)→List (List Key×Addr×Value)→Prop:=Paired fun p q=>p.1=q.1∧H q.2.1=some (.tup (p.1.map kV))∧RelV p.2 q.2.2
theorem KT.val {H:Hp}{kvs:List (List Key×V)}{xs:List (List Key×Addr×Value)} (r:KT H kvs xs) (k:List Key):RelO (valV kvs k) ((atKey xs k).map (·.2)):=by
 induction r with
 |nil=>exact True.intro
 |@cons p q ps qs h t ih =>
  obtain⟨h1,_,h2⟩:=h
  by_cases e:p.1=k
  ·have e':q.1=k:=h1.symm.trans e
   have b:atKey (q::qs) k=some q.2:=by simp [atKey,zbk7,e']
   rw [zt8 e,b];exact h2
  ·have e' : ¬ q.1=k:=fun z=>e (h1.trans z)
   have b:atKey (q::qs) k=atKey qs k:=by simp [atKey,zbk7,e']
   rw [zt9 e,b];exact ih
section
variable {P:Program}{w:World}{H:Hp}{h:Heap}{a:Addr}
theorem rd_of {u:HO} (ok:HOk P w H h) (e:Rd H a u):ObjOk P w H h a u:=e.ok ok
theorem dk_rd {kvs:List (Key×V)} (ok:HOk P w H h) (e:Rd H a (.dK kvs)):kvs.length≤sizeLine∧(a == sysModules)=false∧∃vs,KV kvs vs∧h.DictOf (zh1 P w) a vs :=
 show ObjOk P w H h a (.dK kvs) from rd_of ok e
theorem dk_of {kvs:List (Key×V)} (ok:HOk P w H h) (e:H a=some (.dK kvs)):kvs.length≤sizeLine∧(a == sysModules)=false∧∃vs,KV kvs vs∧h.DictOf (zh1 P w) a vs:=dk_rd ok (.inl e)
theorem key_of {ks:List Key} (ok:HOk P w H h) (e:H a=some (.tup (ks.map kV))):(tupleKind (zh1 P w)).is h ks a:=by
 obtain⟨_,its,r,o,h1,h2,n,h3⟩:=(show ObjOk P w H h a (.tup (ks.map kV)) from ok a _ e)
 exact⟨o,its.toArray,n,h1,h2,h3,by simpa using zag0 r⟩
theorem dt_rd {kvs:List (List Key×V)} (ok:HOk P w H h) (e:Rd H a (.dT kvs)):kvs.length≤sizeLine∧(a == sysModules)=false ∧
  ∃xs,KT H kvs xs∧h.DictOfH (tupleKind (zh1 P w)) a xs:=by
 obtain⟨z,y,xs,r,o,es,ep,h1,h2,h3,h4,h5⟩:=(show ObjOk P w H h a (.dT kvs) from rd_of ok e)
 refine⟨z,y,xs,r,o,es,ep,h1,h2,h3,h4,fun x hx=>?_,h5⟩
 have all:∀ {l:List (List Key×V)}{m:List (List Key×Addr×Value)},KT H l m→∀x∈m,(tupleKind (zh1 P w)).is h x.1 x.2.1:=by
  intro l m q
  induction q with
  |nil=>intro x hx;exact nomatch hx
  |@cons p q ps qs hq t ih =>
   intro x hx
   rcases zbe3.mp hx with e | hx
   ·subst e
    exact key_of ok (by rw [← hq.1];exact hq.2.1)
   ·exact ih x hx
 exact all r x hx
end
noncomputable def DGet (H:Hp) (a:Addr) (y:V) (r:Option V):Prop :=
 (∃kvs k,Rd H a (.dK kvs)∧y=kV k∧r=valV kvs k)∨∃kvs k b,Rd H a (.dT kvs)∧y=.ref b∧H b=some (.tup (k.map kV))∧r=valV kvs k
theorem DGet.k {H:Hp}{a:Addr}{kvs:List (Key×V)}{k:Key} (e:H a=some (.dK kvs)):DGet H a (kV k) (valV kvs k):=.inl ⟨kvs,k,.inl e,rfl,rfl⟩
section
variable {X:Cx}{pins:List (Addr×Obj)}{σ:St}{H:Hp}{s:zbe5}{a:Addr}{y v:V}{u r:Value}{o:Option V}{A:Around}{E:Value→zbe5→Prop}
theorem Inv.big (I:Inv X pins σ H s):sysModules<s.heap.objs.size:=by
 have h:mainGlobals<s.heap.objs.size:=(I.mod.glob.keeps I.bk).lt
 exact zbo0 (by decide) h
theorem d_notIn {Q:Value→zbe5→Prop} (hu:A.units+1<cLine) (I:Inv X pins σ H s) (g:DGet H a y o) (ry:RelV y u) (h:∀s',Inv X pins σ H s'→Q (.bool (!o.isSome)) s') :
  wpAny (model X.prog X.w) A (compareOp .NotIn u (.ref a)) Q E s:=by
 rcases g with ⟨kvs,k,e,ey,l⟩ | ⟨kvs,k,b,e,ey,eb,l⟩
 ·subst ey
  obtain⟨z,hd,vs,rel,dd⟩:=dk_rd I.hok e
  refine wpAny_notIn_of (kV_is ry) hd dd.mapOf ?_
  rw [← (rel.val k).isSome_eq, ← l]
  exact h _ (I.tok _)
 ·subst ey
  cases (show u=Value.ref b from ry)
  obtain⟨z,hd,xs,rel,dd⟩:=dt_rd I.hok e
  refine wpAny_notIn_heap (tupleKind_room_in1 hu) (key_of I.hok eb) hd dd ?_
  have q:=(rel.val k).isSome_eq
  rw [Option.isSome_map]at q
  rw [← q, ← l]
  exact h _ (I.tok _)
theorem d_write {h':Heap}{t':Nat}{ob:HO} (I:Inv X pins σ H s) (mu:Mut (H a)) (hs:Heap.SameBut a s.heap h') (he:∃q,h'.get? a=some q) (new:ObjOk X.prog X.w (upd H a ob) h' a ob) :
  Inv X pins σ (upd H a ob) { s with heap:=h',toks:=t' } :=
 I.write (x:=a) (e:=a) mu (.inl rfl) (fun b q hb z=>(hs.2 b hb).trans z) he new
theorem dk_new {P:Program}{w:World}{H':Hp}{h':Heap}{kvs:List (Key×V)}{vs:List (Key×Value)} (z:kvs.length≤sizeLine) (hd:(a == sysModules)=false) (rel:KV kvs vs) (dd:h'.DictOf (zh1 P w) a vs) :
  ObjOk P w H' h' a (.dK kvs):=⟨z,hd,vs,rel,dd⟩
end
theorem dk_empty {P:Program}{w:World}{H:Hp} (h:Heap) (hb:sysModules<h.objs.size):ObjOk P w H (h.push { cls:=.type "dict",data:=.dict #[] }) h.objs.size (.dK []) :=
 ⟨zbr4 _,beq_eq_false_iff_ne.mpr (Ne.symm (zbg0 hb)),[],.nil,Heap.DictOf.new h⟩
structure M1 (X:Cx) (o:Expr) (m:Str) (apos:Pos) (e:Expr) (cpos:Pos):Prop where
 base:attributeBase o m X.env (eval o X.env)=eval o X.env
 few:((zbl0 cpos (zbe7 [e] X.env)).all (fun x=>!x.1)&&(backToKw cpos (keywordEach [] X.env)).all (fun x=>x.1.isSome)
  && decide (([e]:List Expr).length+([]:List Keyword).length+(if ([]:List Keyword).isEmpty then 0 else 1)<30))=true
 line:(apos.endLine == cpos.line)=true
 trees:zbl0 cpos (zbe7 [e] X.env)=[(false,eval e X.env)]
structure M2 (X:Cx) (o:Expr) (m:Str) (apos:Pos) (e f:Expr) (cpos:Pos):Prop where
 base:attributeBase o m X.env (eval o X.env)=eval o X.env
 few:((zbl0 cpos (zbe7 [e,f] X.env)).all (fun x=>!x.1)&&(backToKw cpos (keywordEach [] X.env)).all (fun x=>x.1.isSome)
  && decide (([e,f]:List Expr).length+([]:List Keyword).length+(if ([]:List Keyword).isEmpty then 0 else 1)<30))=true
 line:(apos.endLine == cpos.line)=true
 trees:zbl0 cpos (zbe7 [e,f] X.env)=[(false,eval e X.env),(false,eval f X.env)]
end L2
namespace DL
open PySem.Spec L2
inductive D where
 |non | bl (b:Bool) |int (i:Int) |str (x:Str) |tup (xs:List D) |lst (xs:List D) |dct (ks:List Key) (ds:List D) |pdc (ps:List (List Int×Int)) |fdc (ps:List (List Int×Int)) |adr (p:Addr)
def mkKV (ks:List Key) (vs:List V):List (Key×V):=ks.zip vs
def pkv (ps:List (List Int×Int)):List (List Key×V):=ps.map fun q=>(q.1.map Sum.inl,V.int q.2)
mutual
inductive Rep (K:zbd4) (H:Hp):D→V→Prop
 |non:Rep K H .non .non
 |bl (b:Bool):Rep K H (.bl b) (.bl b)
 |int (i:Int):Rep K H (.int i) (.int i)
 |str (x:Str):Rep K H (.str x) (.str x)
 |tup {ds:List D}{p:Addr}{vs:List V}:SqT K H p vs→Reps K H ds vs→Rep K H (.tup ds) (.ref p)
 |lst {ds:List D}{p:Addr}{vs:List V}:SqL K H p vs→Reps K H ds vs→Rep K H (.lst ds) (.ref p)
 |dct {ks:List Key}{ds:List D}{p:Addr}{vs:List V}:ks.length=vs.length→H p=some (.dK (mkKV ks vs))→Reps K H ds vs→Rep K H (.dct ks ds) (.ref p)
 |pdc {ps:List (List Int×Int)}{p:Addr}:H p=some (.dT (pkv ps))→Rep K H (.pdc ps) (.ref p)
 |fdc {ps:List (List Int×Int)}{p:Addr}{o:Obj}:H p=some (.frz o (.dT (pkv ps)))→Rep K H (.fdc ps) (.ref p)
 |adr (p:Addr):Rep K H (.adr p) (.ref p)
inductive Reps (K:zbd4) (H:Hp):List D→List V→Prop
 |nil:Reps K H [] []
 |cons {d:D}{v:V}{ds:List D}{vs:List V}:Rep K H d v→Reps K H ds vs→Reps K H (d::ds) (v::vs)
end
theorem SqL.mono {K:zbd4}{H H':Hp}{a:Addr}{xs:List V} (e:Same H H') (h:SqL K H a xs):SqL K H' a xs:=e.seq h
theorem SqT.mono {K:zbd4}{H H':Hp}{a:Addr}{xs:List V} (e:Same H H') (h:SqT K H a xs):SqT K H' a xs:=by
 exact e _ _ h
mutual
theorem Rep.mono {K:zbd4}{H H':Hp} (e:Same H H'):∀ {d:D}{v:V},Rep K H d v→Rep K H' d v
 |_,_,.non=>.non
 |_,_,.bl b=>.bl b
 |_,_,.int i=>.int i
 |_,_,.str x=>.str x
 |_,_,.tup h r=>.tup (SqT.mono e h) (Reps.mono e r)
 |_,_,.lst h r=>.lst (SqL.mono e h) (Reps.mono e r)
 |_,_,.dct l h r=>.dct l (e _ _ h) (Reps.mono e r)
 |_,_,.pdc h=>.pdc (e _ _ h)
 |_,_,.fdc h=>.fdc (e _ _ h)
 |_,_,.adr p=>.adr p
theorem Reps.mono {K:zbd4}{H H':Hp} (e:Same H H'):∀ {ds:List D}{vs:List V},Reps K H ds vs→Reps K H' ds vs
 |_,_,.nil=>.nil
 |_,_,.cons h r=>.cons (Rep.mono e h) (Reps.mono e r)
end
theorem Reps.length {K:zbd4}{H:Hp}:∀ {ds:List D}{vs:List V},Reps K H ds vs→vs.length=ds.length
 |_,_,.nil=>rfl
 |_,_,.cons _ r=>by simp [Reps.length r]
theorem Reps.get {K:zbd4}{H:Hp}:∀ {ds:List D}{vs:List V},Reps K H ds vs→∀ {i:Nat}{d:D},ds[i]?=some d→∃v,vs[i]?=some v∧Rep K H d v
 |_,_,.nil,i,d,e=>by simp at e
 |_,_,.cons (v:=v) h r,0,d,e=>by simp at e;subst e;exact⟨v,rfl,h⟩
 |_,_,.cons h r,i+1,d,e=>by
  obtain⟨v,a,b⟩:=Reps.get r (i:=i) (d:=d) (by simpa using e)
  exact⟨v,by simpa using a,b⟩
theorem Reps.getV {K:zbd4}{H:Hp}:∀ {ds:List D}{vs:List V},Reps K H ds vs→∀ {i:Nat}{v:V},vs[i]?=some v→∃d,ds[i]?=some d∧Rep K H d v
 |_,_,.nil,i,d,e=>by simp at e
 |_,_,.cons (d:=d) h r,0,v,e=>by simp at e;subst e;exact⟨d,rfl,h⟩
 |_,_,.cons h r,i+1,v,e=>by
  obtain⟨d,a,b⟩:=Reps.getV r (i:=i) (v:=v) (by simpa using e)
  exact⟨d,by simpa using a,b⟩
theorem Reps.app {K:zbd4}{H:Hp}:∀ {ds:List D}{vs:List V}{es:List D}{us:List V},Reps K H ds vs→Reps K H es us→Reps K H (ds++es) (vs++us)
 |_,_,_,_,.nil,r=>r
 |_,_,_,_,.cons h r,q=>.cons h (Reps.app r q)
theorem Reps.take {K:zbd4}{H:Hp}:∀ {ds:List D}{vs:List V} (n:Nat),Reps K H ds vs→Reps K H (ds.take n) (vs.take n)
 |_,_,0,_=>by simp;exact .nil
 |_,_,n+1,.nil=>by simp;exact .nil
 |_,_,n+1,.cons h r=>by simpa using .cons h (Reps.take n r)
theorem Reps.drop {K:zbd4}{H:Hp}:∀ {ds:List D}{vs:List V} (n:Nat),Reps K H ds vs→Reps K H (ds.drop n) (vs.drop n)
 |_,_,0,r=>by simpa using r
 |_,_,n+1,.nil=>by simp;exact .nil
 |_,_,n+1,.cons h r=>by simpa using Reps.drop n r
theorem Reps.one {K:zbd4}{H:Hp}{d:D}{v:V} (h:Rep K H d v):Reps K H [d] [v]:=.cons h .nil
theorem Reps.ints {K:zbd4}{H:Hp}:∀ns:List Int,Reps K H (ns.map D.int) (ns.map V.int)
 |[]=>.nil
 |n::ns=>.cons (.int n) (Reps.ints ns)
mutual
def flat:D→Bool
 |.lst _=>false
 |.dct _ _=>false
 |.pdc _=>false
 |.tup xs=>flats xs
 |_=>true
def flats:List D→Bool
 |[]=>true
 |d::ds=>flat d&&flats ds
end
def hide (P:List Addr) (H:Hp):Hp:=fun a=>if a∈P then none else H a
theorem za9 (P:List Addr) (H:Hp):Same (hide P H) H:=fun b o e=>by
 unfold hide at e
 split at e
 ·cases e
 ·exact e
theorem zc2 {P:List Addr}{H:Hp}{a:Addr}{o:HO} (h:H a=some o) (n:a∉P):hide P H a=some o:=by
 unfold hide;rw [if_neg n];exact h
theorem zh9 {P:List Addr}{H:Hp}{a:Addr}{o:HO} (h:hide P H a=some o):a∉P∧H a=some o:=by
 unfold hide at h
 split at h
 ·cases h
 ·exact⟨by assumption,h⟩
theorem hide_nil (H:Hp):hide [] H=H:=by funext a;simp [hide]
theorem zb2 {P P':List Addr} (H:Hp) (h:∀a∈P',a∈P):Same (hide P H) (hide P' H):=fun b o e=>by
 obtain⟨n,e⟩:=zh9 e
 exact zc2 e fun z=>n (h b z)
def mutO:HO→Bool
 |.lst _=>true
 |.dK _=>true
 |.dT _=>true
 |.ins _ _ _=>true
 |.own _=>true
 |_=>false
abbrev MO:={o:HO // mutO o=true}
def mL (vs:List V):MO:=⟨.lst vs,rfl⟩
def mD (kvs:List (Key×V)):MO:=⟨.dK kvs,rfl⟩
def mT (kvs:List (List Key×V)):MO:=⟨.dT kvs,rfl⟩
def Lists (H:Hp) (P:List Addr):Prop := ∀p∈P,∃o:MO,H p=some o.1
theorem Lists.mono {H H':Hp}{P:List Addr} (h:Lists H P) (e:Same H H'):Lists H' P:=fun p hp=>let ⟨vs,q⟩:=h p hp;⟨vs,e _ _ q⟩
theorem SqT.hid {K:zbd4}{H:Hp}{P:List Addr}{a:Addr}{xs:List V} (m:Lists H P) (h:SqT K H a xs):SqT K (hide P H) a xs:=by
 have h:H a=some (.tup xs):=h
 exact zc2 h fun z=>by obtain⟨⟨vs,w⟩,q⟩:=m _ z;rw [q]at h;cases h;cases w
mutual
theorem Rep.hid {K:zbd4}{H:Hp}{P:List Addr} (m:Lists H P):∀ {d:D}{v:V},flat d=true→Rep K H d v→Rep K (hide P H) d v
 |_,_,_,.non=>.non
 |_,_,_,.bl b=>.bl b
 |_,_,_,.int i=>.int i
 |_,_,_,.str x=>.str x
 |_,_,f,.tup h r=>.tup (SqT.hid m h) (Reps.hid m (by simpa [flat] using f) r)
 |_,_,f,.lst h r=>by simp [flat]at f
 |_,_,f,.dct _ h r=>by simp [flat]at f
 |_,_,f,.pdc h=>by simp [flat]at f
 |_,_,_,.adr p=>.adr p
 |_,_,_,.fdc h=>.fdc (zc2 h fun z=>by obtain⟨⟨vs,w⟩,q⟩:=m _ z;rw [q]at h;cases h;cases w)
theorem Reps.hid {K:zbd4}{H:Hp}{P:List Addr} (m:Lists H P):∀ {ds:List D}{vs:List V},flats ds=true→Reps K H ds vs→Reps K (hide P H) ds vs
 |_,_,_,.nil=>.nil
 |_,_,f,.cons h r=>by
  simp [flats]at f
  exact .cons (Rep.hid m f.1 h) (Reps.hid m f.2 r)
end
mutual
inductive RepD (K:zbd4) (H0 H:Hp):D→V→List Addr→Prop
 |flat {d:D}{v:V}:flat d=true→Rep K H0 d v→RepD K H0 H d v []
 |tup {ds:List D}{p:Addr}{vs:List V}{B:List Addr}:SqT K H0 p vs→RepDs K H0 H ds vs B→RepD K H0 H (.tup ds) (.ref p) B
 |lst {ds:List D}{p:Addr}{vs:List V}{B:List Addr}:H p=some (.lst vs)→RepDs K H0 H ds vs B→RepD K H0 H (.lst ds) (.ref p) (p::B)
 |dct {ks:List Key}{ds:List D}{p:Addr}{vs:List V}{B:List Addr}:ks.length=vs.length→H p=some (.dK (mkKV ks vs))→RepDs K H0 H ds vs B→RepD K H0 H (.dct ks ds) (.ref p) (p::B)
 |pdc {ps:List (List Int×Int)}{p:Addr}:H p=some (.dT (pkv ps))→RepD K H0 H (.pdc ps) (.ref p) [p]
inductive RepDs (K:zbd4) (H0 H:Hp):List D→List V→List Addr→Prop
 |nil:RepDs K H0 H [] [] []
 |cons {d:D}{v:V}{ds:List D}{vs:List V}{B C:List Addr}:RepD K H0 H d v B→RepDs K H0 H ds vs C→RepDs K H0 H (d::ds) (v::vs) (B++C)
end
mutual
theorem RepD.mono {K:zbd4}{H0 H H0' H':Hp} (e:Same H0 H0'):∀ {d:D}{v:V}{B:List Addr},RepD K H0 H d v B→(∀p∈B,∀o,H p=some o→H' p=some o)→RepD K H0' H' d v B
 |_,_,_,.flat f r,_=>.flat f (Rep.mono e r)
 |_,_,_,.tup h r,k=>.tup (SqT.mono e h) (RepDs.mono e r k)
 |_,_,_,.lst h r,k=>.lst (k _ (zbd7 ..) _ h) (RepDs.mono e r fun p hp=>k p (zbd6 _ hp))
 |_,_,_,.dct l h r,k=>.dct l (k _ (zbd7 ..) _ h) (RepDs.mono e r fun p hp=>k p (zbd6 _ hp))
 |_,_,_,.pdc h,k=>.pdc (k _ (zbd7 ..) _ h)
theorem RepDs.mono {K:zbd4}{H0 H H0' H':Hp} (e:Same H0 H0'):∀ {ds:List D}{vs:List V}{B:List Addr},RepDs K H0 H ds vs B→(∀p∈B,∀o,H p=some o→H' p=some o)→RepDs K H0' H' ds vs B
 |_,_,_,.nil,_=>.nil
 |_,_,_,.cons h r,k=>.cons (RepD.mono e h fun p hp=>k p (zbd5 _ hp)) (RepDs.mono e r fun p hp=>k p (zbd3 _ hp))
end
mutual
theorem RepD.rep {K:zbd4}{H0 H H1:Hp} (e:Same H0 H1):∀ {d:D}{v:V}{B:List Addr},RepD K H0 H d v B→(∀p∈B,∀o,H p=some o→H1 p=some o)→Rep K H1 d v
 |_,_,_,.flat f r,_=>Rep.mono e r
 |_,_,_,.tup h r,k=>.tup (SqT.mono e h) (RepDs.rep e r k)
 |_,_,_,.lst h r,k=>.lst (SqL.of (k _ (zbd7 ..) _ h)) (RepDs.rep e r fun p hp=>k p (zbd6 _ hp))
 |_,_,_,.dct l h r,k=>.dct l (k _ (zbd7 ..) _ h) (RepDs.rep e r fun p hp=>k p (zbd6 _ hp))
 |_,_,_,.pdc h,k=>.pdc (k _ (zbd7 ..) _ h)
theorem RepDs.rep {K:zbd4}{H0 H H1:Hp} (e:Same H0 H1):∀ {ds:List D}{vs:List V}{B:List Addr},RepDs K H0 H ds vs B→(∀p∈B,∀o,H p=some o→H1 p=some o)→Reps K H1 ds vs
 |_,_,_,.nil,_=>.nil
 |_,_,_,.cons h r,k=>.cons (RepD.rep e h fun p hp=>k p (zbd5 _ hp)) (RepDs.rep e r fun p hp=>k p (zbd3 _ hp))
end
mutual
theorem RepD.lists {K:zbd4}{H0 H:Hp}:∀ {d:D}{v:V}{B:List Addr},RepD K H0 H d v B→Lists H B
 |_,_,_,.flat f r=>fun p hp=>by cases hp
 |_,_,_,.tup h r=>RepDs.lists r
 |_,_,_,.lst h r=>fun p hp=>by
  rcases zbe3.mp hp with rfl | hp
  ·exact⟨mL _,h⟩
  ·exact RepDs.lists r p hp
 |_,_,_,.dct _ h r=>fun p hp=>by
  rcases zbe3.mp hp with rfl | hp
  ·exact⟨mD _,h⟩
  ·exact RepDs.lists r p hp
 |_,_,_,.pdc h=>fun p hp=>by
  rw [zbe2]at hp
  subst hp
  exact⟨mT _,h⟩
theorem RepDs.lists {K:zbd4}{H0 H:Hp}:∀ {ds:List D}{vs:List V}{B:List Addr},RepDs K H0 H ds vs B→Lists H B
 |_,_,_,.nil=>fun p hp=>by cases hp
 |_,_,_,.cons h r=>fun p hp=>(zbd8.mp hp).elim (RepD.lists h p) (RepDs.lists r p)
end
mutual
theorem RepD.hid {K:zbd4}{H0 H:Hp}{P:List Addr} (m:Lists H P) (e:Same H0 H):∀ {d:D}{v:V}{B:List Addr},RepD K H0 H d v B→RepD K (hide P H) H d v B
 |_,_,_,.flat f r=>.flat f (Rep.hid m f (Rep.mono e r))
 |_,_,_,.tup h r=>.tup (SqT.hid m (SqT.mono e h)) (RepDs.hid m e r)
 |_,_,_,.lst h r=>.lst h (RepDs.hid m e r)
 |_,_,_,.dct l h r=>.dct l h (RepDs.hid m e r)
 |_,_,_,.pdc h=>.pdc h
theorem RepDs.hid {K:zbd4}{H0 H:Hp}{P:List Addr} (m:Lists H P) (e:Same H0 H):∀ {ds:List D}{vs:List V}{B:List Addr},RepDs K H0 H ds vs B→RepDs K (hide P H) H ds vs B
 |_,_,_,.nil=>.nil
 |_,_,_,.cons h r=>.cons (RepD.hid m e h) (RepDs.hid m e r)
end
theorem Lists.app {H:Hp}{P Q:List Addr} (h:Lists H P) (k:Lists H Q):Lists H (P++Q):=fun p hp=>(zbd8.mp hp).elim (h p) (k p)
inductive Ev where
 |cl (d:D) |tm (d:D) |nw (xs:List D) |dn (d:D)
def Ev.d:Ev→D
 |.cl d=>d
 |.tm d=>d
 |.nw xs=>.lst xs
 |.dn d=>d
noncomputable def RepEv (K:zbd4) (F A:List Addr) (H H':Hp):Ev→V→Prop
 |.cl d,v=>Rep K (hide (A++F) H') d v
 |.tm d,v=>Rep K (hide F H') d v
 |.nw xs,v => ∃p vs,v=.ref p∧H p=none∧H' p=some (.lst vs)∧Reps K (hide (p ::(A++F)) H') xs vs
 |.dn d,v => ∃B,B.Nodup∧(∀b∈B,H b=none)∧RepD K (hide (B++(A++F)) H') H' d v B
theorem zc3 {P:List Addr}{H H':Hp} (e:Same H H'):Same (hide P H) (hide P H'):=fun b o h=>by
 obtain⟨n,h⟩:=zh9 h
 exact zc2 (e _ _ h) n
theorem RepEv.mono {K:zbd4}{F A:List Addr}{H H1 H2:Hp}{r:Ev}{v:V} (h:RepEv K F A H H1 r v) (e:Same H1 H2):RepEv K F A H H2 r v:=by
 cases r with
 |cl d=>exact Rep.mono (zc3 e) h
 |tm d=>exact Rep.mono (zc3 e) h
 |nw xs =>
  obtain⟨p,vs,rfl,h1,h2,h3⟩:=h
  exact⟨p,vs,rfl,h1,e _ _ h2,Reps.mono (zc3 e) h3⟩
 |dn d =>
  obtain⟨B,h1,h2,h3⟩:=h
  exact⟨B,h1,h2,RepD.mono (zc3 e) h3 fun p _ o q=>e _ _ q⟩
theorem RepEv.back {K:zbd4}{F A:List Addr}{H0 H H1:Hp}{r:Ev}{v:V} (h:RepEv K F A H H1 r v) (e:Same H0 H):RepEv K F A H0 H1 r v:=by
 cases r with
 |cl d=>exact h
 |tm d=>exact h
 |nw xs =>
  obtain⟨p,vs,rfl,h1,h2,h3⟩:=h
  refine⟨p,vs,rfl,?_,h2,h3⟩
  cases q:H0 p with
  |none=>rfl
  |some o=>rw [e _ _ q]at h1;cases h1
 |dn d =>
  obtain⟨B,h1,h2,h3⟩:=h
  exact⟨B,h1,fun b hb=>Same.free e (h2 b hb),h3⟩
theorem RepEv.full {K:zbd4}{F A:List Addr}{H H':Hp}{r:Ev}{v:V} (h:RepEv K F A H H' r v):Rep K H' r.d v:=by
 cases r with
 |cl d=>exact Rep.mono (za9 _ _) h
 |tm d=>exact Rep.mono (za9 _ _) h
 |nw xs =>
  obtain⟨p,vs,rfl,h1,h2,h3⟩:=h
  exact .lst (SqL.of h2) (Reps.mono (za9 _ _) h3)
 |dn d =>
  obtain⟨B,h1,h2,h3⟩:=h
  exact h3.rep (za9 _ _) fun _ _ _ q=>q
theorem zd2 {H:Hp}{P:List Addr}{p:Addr} (m:Lists H P) (h:H p=none):p∉P:=fun z=>by
 obtain⟨vs,q⟩:=m _ z
 rw [q]at h;cases h
theorem RepEv.cleanF {K:zbd4}{F A:List Addr}{H H':Hp}{r:Ev}{v:V} (m:Lists H (A++F)) (h:RepEv K F A H H' r v):Rep K (hide F H') r.d v:=by
 cases r with
 |cl d=>exact Rep.mono (zb2 H' fun a z=>zbd3 _ z) h
 |tm d=>exact h
 |nw xs =>
  obtain⟨p,vs,rfl,h1,h2,h3⟩:=h
  have n:p∉F:=fun z=>zd2 m h1 (zbd3 _ z)
  exact .lst (SqL.of (zc2 h2 n)) (Reps.mono (zb2 H' fun a z=>zbd6 _ (zbd3 _ z)) h3)
 |dn d =>
  obtain⟨B,h1,h2,h3⟩:=h
  refine h3.rep (zb2 H' fun a z=>zbd3 _ (zbd3 _ z)) fun b hb o q=>zc2 q fun z=>?_
  exact zd2 m (h2 b hb) (zbd3 _ z)
def Ev.ok:Ev→Bool
 |.cl _=>true
 |.tm d=>flat d
 |.nw _=>true
 |.dn _=>true
theorem RepEv.clean {K:zbd4}{F A:List Addr}{H H':Hp}{r:Ev}{v:V} (m:Lists H (A++F)) (e:Same H H') (h:RepEv K F A H H' r v) (c:r.ok=true):Rep K (hide (A++F) H') r.d v:=by
 cases r with
 |cl d=>exact h
 |tm d =>
  have m':Lists H' (A++F):=m.mono e
  exact Rep.hid m' c (Rep.mono (za9 _ _) h)
 |nw xs =>
  obtain⟨p,vs,rfl,h1,h2,h3⟩:=h
  have n:p∉A++F:=zd2 m h1
  exact .lst (SqL.of (zc2 h2 n)) (Reps.mono (zb2 H' fun a z=>zbd6 _ z) h3)
 |dn d =>
  obtain⟨B,h1,h2,h3⟩:=h
  exact h3.rep (zb2 H' fun a z=>zbd3 _ z) fun b hb o q=>zc2 q fun z=>zd2 m (h2 b hb) z
inductive Sl where
 |no | val (d:D) |own (xs:List D) |dp (d:D)
abbrev Th:=List Sl
inductive RSl (K:zbd4) (H0 H:Hp):Th→L2.St→List Addr→Prop
 |nil:RSl K H0 H [] [] []
 |no {x:Option V}{t:Th}{σ:L2.St}{A:List Addr}:RSl K H0 H t σ A→RSl K H0 H (.no::t) (x::σ) A
 |val {d:D}{v:V}{t:Th}{σ:L2.St}{A:List Addr}:Rep K H0 d v→RSl K H0 H t σ A→RSl K H0 H (.val d::t) (some v::σ) A
 |own {p:Addr}{vs:List V}{ds:List D}{t:Th}{σ:L2.St}{A:List Addr}:H p=some (.lst vs)→Reps K H0 ds vs→RSl K H0 H t σ A→RSl K H0 H (.own ds::t) (some (.ref p)::σ) (p::A)
 |dp {d:D}{v:V}{B:List Addr}{t:Th}{σ:L2.St}{A:List Addr}:RepD K H0 H d v B→RSl K H0 H t σ A→RSl K H0 H (.dp d::t) (some v::σ) (B++A)
structure RS (K:zbd4) (F:List Addr) (H:Hp) (A:List Addr) (t:Th) (σ:L2.St):Prop where
 mu:Lists H (A++F)
 nd:A.Nodup
 dj:∀p∈A,p∉F
 rel:RSl K (hide (A++F) H) H t σ A
theorem RSl.mono {K:zbd4}{H0 H H0' H':Hp} (e0:Same H0 H0'):∀ {t:Th}{σ:L2.St}{A:List Addr},RSl K H0 H t σ A→(∀p∈A,∀o,H p=some o→H' p=some o)→RSl K H0' H' t σ A:=by
 intro _ _ _ h
 induction h with
 |nil =>
  intro w0
  exact .nil
 |@no _ _ _ _ r ih =>
  intro e
  exact .no (ih e)
 |@val _ _ _ _ _ h r ih =>
  intro e
  exact .val (Rep.mono e0 h) (ih e)
 |@own _ _ _ _ _ _ h1 h2 r ih =>
  intro e
  exact .own (e _ (zbd7 ..) _ h1) (Reps.mono e0 h2) (ih fun p hp=>e p (zbd6 _ hp))
 |@dp _ _ _ _ _ _ h r ih =>
  intro e
  exact .dp (RepD.mono e0 h fun p hp=>e p (zbd5 _ hp)) (ih fun p hp=>e p (zbd3 _ hp))
theorem RS.grow {K:zbd4}{F A:List Addr}{H H':Hp}{t:Th}{σ:L2.St} (h:RS K F H A t σ) (e:Same H H'):RS K F H' A t σ :=
 ⟨h.mu.mono e,h.nd,h.dj,h.rel.mono (zc3 e) fun p _ o q=>e _ _ q⟩
theorem RSl.getVal {K:zbd4}{H0 H:Hp}:∀ {t:Th}{σ:L2.St}{A:List Addr},RSl K H0 H t σ A→∀ {i:Nat}{d:D},t[i]?=some (.val d)→∃v,σ[i]?=some (some v)∧Rep K H0 d v:=by
 intro _ _ _ h
 induction h with
 |nil =>
  intro i d e
  simp at e
 |@no _ _ _ _ r ih =>
  intro i d e
  cases i with
  |zero =>
   simp at e
  |succ i =>
   simpa using ih (i:=i) (by simpa using e)
 |@val _ v _ _ _ h r ih =>
  intro i d e
  cases i with
  |zero =>
   simp at e;subst e;exact⟨v,rfl,h⟩
  |succ i =>
   simpa using ih (i:=i) (by simpa using e)
 |@own _ _ _ _ _ _ _ _ r ih =>
  intro i d e
  cases i with
  |zero =>
   simp at e
  |succ i =>
   simpa using ih (i:=i) (by simpa using e)
 |@dp _ _ _ _ _ _ _ r ih =>
  intro i d e
  cases i with
  |zero =>
   simp at e
  |succ i =>
   simpa using ih (i:=i) (by simpa using e)
theorem RSl.getOwn {K:zbd4}{H0 H:Hp}:∀ {t:Th}{σ:L2.St}{A:List Addr},RSl K H0 H t σ A→∀ {i:Nat}{ds:List D},t[i]?=some (.own ds)→∃p vs,σ[i]?=some (some (.ref p))∧p∈A∧H p=some (.lst vs)∧Reps K H0 ds vs:=by
 intro _ _ _ h
 induction h with
 |nil =>
  intro i d e
  simp at e
 |@no _ _ _ _ r ih =>
  intro i d e
  cases i with
  |zero =>
   simp at e
  |succ i =>
   simpa using ih (i:=i) (by simpa using e)
 |@val _ v _ _ _ h r ih =>
  intro i d e
  cases i with
  |zero =>
   simp at e
  |succ i =>
   simpa using ih (i:=i) (by simpa using e)
 |@own p vs _ _ _ _ h1 h2 r ih =>
  intro i d e
  cases i with
  |zero =>
   simp at e;subst e;exact⟨p,vs,rfl,zbd7 ..,h1,h2⟩
  |succ i =>
   obtain⟨p,vs,a,b,c,f⟩:=ih (i:=i) (ds:=d) (by simpa using e)
   exact⟨p,vs,by simpa using a,zbd6 _ b,c,f⟩
 |@dp _ _ _ _ _ _ _ r ih =>
  intro i d e
  cases i with
  |zero =>
   simp at e
  |succ i =>
   obtain⟨p,vs,a,b,c,f⟩:=ih (i:=i) (ds:=d) (by simpa using e)
   exact⟨p,vs,by simpa using a,zbd3 _ b,c,f⟩
theorem RSl.getDp {K:zbd4}{H0 H:Hp}:∀ {t:Th}{σ:L2.St}{A:List Addr},RSl K H0 H t σ A→A.Nodup→∀ {i:Nat}{d:D},t[i]?=some (.dp d)→∃v B,σ[i]?=some (some v)∧(∀b∈B,b∈A)∧B.Nodup∧RepD K H0 H d v B:=by
 intro _ _ _ h
 induction h with
 |nil =>
  intro n i d e
  simp at e
 |@no _ _ _ _ r ih =>
  intro n i d e
  cases i with
  |zero =>
   simp at e
  |succ i =>
   simpa using ih n (i:=i) (by simpa using e)
 |@val _ v _ _ _ h r ih =>
  intro n i d e
  cases i with
  |zero =>
   simp at e
  |succ i =>
   simpa using ih n (i:=i) (by simpa using e)
 |@own _ _ _ _ _ _ _ _ r ih =>
  intro n i d e
  cases i with
  |zero =>
   simp at e
  |succ i =>
   obtain⟨v,B,a,b,n',c⟩:=ih (zbg3.mp n).2 (i:=i) (d:=d) (by simpa using e)
   exact⟨v,B,by simpa using a,fun x hx=>zbd6 _ (b x hx),n',c⟩
 |@dp _ v B _ _ _ h r ih =>
  intro n i d e
  cases i with
  |zero =>
   simp at e;subst e;exact⟨v,B,rfl,fun x hx=>zbd5 _ hx,(zbf9.mp n).1,h⟩
  |succ i =>
   obtain⟨v,B,a,b,n',c⟩:=ih (zbf9.mp n).2.1 (i:=i) (d:=d) (by simpa using e)
   exact⟨v,B,by simpa using a,fun x hx=>zbd3 _ (b x hx),n',c⟩
structure Gr (A:List Addr) (H:Hp) (A':List Addr) (H':Hp):Prop where
 kp:∀b o,b∉A→H b=some o→H' b=some o
 al:∀b∈A,H' b≠none
 nw:∀b∈A',b∈A∨H b=none
theorem Gr.refl {A:List Addr}{H:Hp} (m:Lists H A):Gr A H A H:=⟨fun _ _ _ h=>h,fun b hb=>by obtain⟨vs,q⟩:=m b hb;rw [q];simp,fun b h=>.inl h⟩
theorem Gr.of_same {A:List Addr}{H H':Hp} (m:Lists H A) (e:Same H H'):Gr A H A H':=⟨fun _ _ _ h=>e _ _ h,fun b hb=>by obtain⟨vs,q⟩:=m b hb;rw [e _ _ q];simp,fun b h=>.inl h⟩
theorem Gr.trans {A A1 A2:List Addr}{H H1 H2:Hp} (a:Gr A H A1 H1) (b:Gr A1 H1 A2 H2):Gr A H A2 H2 where
 kp:=fun x o n h=>b.kp x o (fun z=>by rcases a.nw x z with q | q;exact n q;rw [q]at h;cases h) (a.kp x o n h)
 al:=fun x hx=>by
  by_cases z:x∈A1
  ·exact b.al x z
  ·have:=a.al x hx
   cases q:H1 x with
   |none=>exact absurd q this
   |some o=>rw [b.kp x o z q];simp
 nw:=fun x hx=>by
  rcases b.nw x hx with q | q
  ·exact a.nw x q
  ·by_cases z:x∈A
   ·exact .inl z
   ·refine .inr ?_
    cases w:H x with
    |none=>rfl
    |some o=>rw [a.kp x o z w]at q;cases q
theorem Gr.same {F A A':List Addr}{H H':Hp} (g:Gr A H A' H'):Same (hide (A++F) H) (hide (A'++F) H'):=fun b o h=>by
 obtain⟨n,h⟩:=zh9 h
 have n1:b∉A:=fun z=>n (zbd5 _ z)
 refine zc2 (g.kp b o n1 h) fun z=>?_
 rcases zbd8.mp z with z | z
 ·rcases g.nw b z with q | q
  ·exact n1 q
  ·rw [q]at h;cases h
 ·exact n (zbd3 _ z)
end DL
namespace DL
open PySem.Spec L2
abbrev DE:=Th→Option Ev
noncomputable def dE (K:zbd4) (F:List Addr) (f:DE):TE:=fun σ H Q => ∃A t r,RS K F H A t σ∧f t=some r∧∀v H',Same H H'→RepEv K F A H H' r v→Q v H'
theorem PE.imp {X:Cx}{e:Expr}{t t':TE} (h:PE X e t) (i:∀σ H Q,t' σ H Q→t σ H Q):PE X e t':=fun pins s σ H Q I q=>h pins s σ H Q I (i σ H Q q)
section
variable {X:Cx}{F:List Addr}{a b c:Expr}{fa fb fc:DE}{pos:Pos}
noncomputable def dVar (i:Nat):DE:=fun t=>match t[i]? with
 |some (.val d)=>some (.cl d)
 |some (.own xs)=>some (.tm (.lst xs))
 |some (.dp d)=>some (.tm d)
 |_=>none
theorem za0 (i:Nat) {x:Str} (hN:X.N[i]?=some x:=by rfl) (hv:Vis X.env.scope x:=by first | exact Or.inl rfl | exact Or.inr (Or.inl rfl) |exact Or.inr (Or.inr rfl)) (hd:(x ==("__debug__":Str))=false:=by decide)
  (hcd:(x ==("__classdict__":Str))=false:=by decide):PE X (.Name x pos) (dE X.K F (dVar i)):=by
 refine PE.imp (zz7 (i:=i) hN hv hd hcd) ?_
 rintro σ H Q ⟨A,t,r,R,e,h⟩
 unfold dVar at e
 split at e
 ·rename_i d q
  cases e
  obtain⟨v,h1,h2⟩:=R.rel.getVal q
  exact⟨v,h1,h v H (Same.refl H) h2⟩
 ·rename_i ds q
  cases e
  obtain⟨p,vs,h1,h2,h3,h4⟩:=R.rel.getOwn q
  refine⟨_,h1,h _ H (Same.refl H) ?_⟩
  exact .lst (SqL.of (zc2 h3 (R.dj p h2))) (Reps.mono (zb2 H fun a z=>zbd3 _ z) h4)
 ·rename_i d q
  cases e
  obtain⟨v,B,h1,h2,h0,h3⟩:=R.rel.getDp R.nd q
  refine⟨_,h1,h _ H (Same.refl H) ?_⟩
  exact h3.rep (zb2 H fun a z=>zbd3 _ z) fun b hb o w=>zc2 w (R.dj b (h2 b hb))
 ·cases e
def dC (d:D):DE:=fun _=>some (.cl d)
theorem za4 {i j pos}:PE X (.Constant (.int i) j pos) (dE X.K F (dC (.int i))):=PE.imp zaw9 fun σ H Q ⟨A,t,r,R,e,h⟩=>by cases e;exact h _ H (Same.refl H) (.int i)
theorem zw7 {b j pos}:PE X (.Constant (.bool b) j pos) (dE X.K F (dC (.bl b))):=PE.imp pe_bl fun σ H Q ⟨A,t,r,R,e,h⟩=>by cases e;exact h _ H (Same.refl H) (.bl b)
noncomputable def OpD (X:Cx) (F:List Addr) (f:Value→Value→Sem Value) (k:Ev→Ev→Option Ev):Prop :=
 ∀(pins:List (Addr×Obj)) (s:zbe5) (σ:L2.St) (H0 H:Hp) (A:List Addr) (x y:V) (v u:Value) (Q:VK) (r1 r2 r:Ev),Inv X pins σ H s→Lists H0 (A++F)→Same H0 H→RelV x v→RelV y u →
  RepEv X.K F A H0 H r1 x→RepEv X.K F A H0 H r2 y→k r1 r2=some r→(∀z H',Same H H'→RepEv X.K F A H0 H' r z→Q z H')→wpAny (model X.prog X.w) X.A (f v u) (EP X pins σ Q) X.xe s
def d2 (k:Ev→Ev→Option Ev) (fa fb:DE):DE:=fun t=>(fa t).bind fun r1=>(fb t).bind fun r2=>k r1 r2
theorem two {k:Ev→Ev→Option Ev}{σ:L2.St}{H:Hp}{Q:VK} (h:dE X.K F (d2 k fa fb) σ H Q):∃A t r1 r2 r,RS X.K F H A t σ∧fa t=some r1∧fb t=some r2∧k r1 r2=some r ∧
  (∀v H',Same H H'→RepEv X.K F A H H' r v→Q v H')∧dE X.K F fa σ H fun x H1=>dE X.K F fb σ H1 fun y H2=>Same H H2∧RepEv X.K F A H H2 r1 x∧RepEv X.K F A H H2 r2 y:=by
 obtain⟨A,t,r,R,e,h⟩:=h
 unfold d2 at e
 cases e1:fa t with
 |none=>rw [e1]at e;cases e
 |some r1 =>
  cases e2:fb t with
  |none=>rw [e1,e2]at e;cases e
  |some r2 =>
   rw [e1,e2]at e
   exact⟨A,t,r1,r2,r,R,e1,e2,e,h,A,t,r1,R,e1,fun x H1 g1 q1=>⟨A,t,r2,R.grow g1,e2,fun y H2 g2 q2=>⟨g1.trans g2,q1.mono g2,q2.back g1⟩⟩⟩
theorem zd4 {op:Operator}{k:Ev→Ev→Option Ev} (ho:OpD X F (binaryOp op) k) (ha:PE X a (dE X.K F fa)) (hb:PE X b (dE X.K F fb)):PE X (.BinOp a op b pos) (dE X.K F (d2 k fa fb)):=by
 intro pins s σ H Q I h
 obtain⟨A,t,r1,r2,r,R,e1,e2,e,h,w⟩:=two h
 refine wpAny_BinOp (bin ha hb I w fun v u s2 x y H2 I2 rx ry q=>?_)
 obtain⟨g,q1,q2⟩:=q
 exact ho pins s2 σ H H2 A x y v u Q r1 r2 r I2 R.mu g rx ry q1 q2 e fun z H' g'=>h z H' (g.trans g')
theorem zs3 {op:CmpOp}{k:Ev→Ev→Option Ev} (ho:OpD X F (compareOp op) k) (ha:PE X a (dE X.K F fa)) (hb:PE X b (dE X.K F fb)) (hm:behindInMarks op b=false:=by first | exact zap5 _ | (with_unfolding_all rfl)) :
  PE X (.Compare a [op] [b] pos) (dE X.K F (d2 k fa fb)):=by
 intro pins s σ H Q I h
 obtain⟨A,t,r1,r2,r,R,e1,e2,e,h,w⟩:=two h
 refine wpAny_Compare1 (bin ha hb I w fun v u s2 x y H2 I2 rx ry q=>?_) hm
 obtain⟨g,q1,q2⟩:=q
 exact ho pins s2 σ H H2 A x y v u Q r1 r2 r I2 R.mu g rx ry q1 q2 e fun z H' g'=>h z H' (g.trans g')
noncomputable def kI (C:Int→Int→Bool) (g:Int→Int→D):Ev→Ev→Option Ev:=fun r1 r2=>match r1.d,r2.d with
 |.int i,.int j=>if C i j then some (.cl (g i j)) else none
 |_,_=>none
theorem zd7 {K:zbd4}{H:Hp}{i:Int}{v:V} (h:Rep K H (.int i) v):v=.int i:=by cases h;rfl
theorem zac7 {f:Value→Value→Sem Value}{C:Int→Int→Prop}{g:Int→Int→V}{C':Int→Int→Bool}{g':Int→Int→D} (h:OpR X f (rI C g)) (hc:∀i j,C' i j=true→C i j)
  (hg:∀H i j,Rep X.K H (g' i j) (g i j)):OpD X F f (kI C' g'):=by
 intro pins s σ H0 H A x y v u Q r1 r2 r I m g0 rx ry q1 q2 e hq
 have p1:=q1.full
 have p2:=q2.full
 unfold kI at e
 split at e
 ·rename_i i j d1 d2
  split at e
  ·rename_i c
   cases e
   rw [d1]at p1;rw [d2]at p2
   cases zd7 p1;cases zd7 p2
   exact h pins s σ H _ _ v u Q I rx ry ⟨i,j,rfl,rfl,hc i j c,hq _ H (Same.refl H) (hg _ i j)⟩
  ·cases e
 ·cases e
theorem zav1 {f:Value→Value→Sem Value}{g:Int→Int→V} (h:OpR X f (rI0 g)):OpR X f (rI (fun _ _=>True) g):=fun pins s σ H x y v u Q I rx ry ⟨i,j,e1,e2,_,q⟩=>h pins s σ H x y v u Q I rx ry ⟨i,j,e1,e2,q⟩
def tt2:Int→Int→Bool:=fun _ _=>true
theorem od_add:OpD X F (binaryOp .Add) (kI tt2 fun i j=>.int (i+j)):=zac7 (zav1 op_add) (fun _ _ _=>trivial) fun _ _ _=>.int _
theorem zax3:OpD X F (binaryOp .Sub) (kI tt2 fun i j=>.int (i - j)):=zac7 (zav1 op_sub) (fun _ _ _=>trivial) fun _ _ _=>.int _
def bnd:Nat:=2 ^ 4096
def sm (i:Int):Bool:=decide (i.natAbs<bnd)
def cMul (i j:Int):Bool:=sm i&&sm j
def cDiv (_ j:Int):Bool:=sm j&&decide (j≠0)
theorem zay5 {n k:Nat} (h:n<2 ^ k):n.log2≤k:=by
 by_cases z:n=0
 ·subst z;simp
 ·exact zbn7 ((Nat.log2_lt z).mpr h)
theorem cMul.ok {i j:Int} (h:cMul i j=true):IntMulOk i j:=by
 simp only [cMul,sm,zbe0,decide_eq_true_eq]at h
 refine mulOk_of_bits (m:=4097) (n:=4097) ?_ ?_ (by decide)
 ·exact intBits_le (zbf0 h.1 (by unfold bnd;exact zbm8 (by decide) (by decide)))
 ·exact intBits_le (zbf0 h.2 (by unfold bnd;exact zbm8 (by decide) (by decide)))
theorem od_mul:OpD X F (binaryOp .Mult) (kI cMul fun i j=>.int (i*j)):=zac7 (C:=IntMulOk) (opI fun _ _ _ _ _ _ _ hc q=>mul_int q hc) (fun _ _ h=>cMul.ok h) fun _ _ _=>.int _
theorem cDiv.ok {i j:Int} (h:cDiv i j=true):j≠0∧j.natAbs.log2<9000:=by
 simp only [cDiv,sm,zbe0,decide_eq_true_eq]at h
 have:=zay5 h.1
 exact⟨h.2,by lia⟩
theorem od_div:OpD X F (binaryOp .FloorDiv) (kI cDiv fun i j=>.int (i.fdiv j)):=zac7 (C:=fun _ j=>j≠0∧j.natAbs.log2<9000) (opI fun _ _ _ _ _ _ _ hc q=>floordiv_int hc.1 q (.inl (PyProof.noPylong_of_log2 hc.2))) (fun _ _ h=>cDiv.ok h) fun _ _ _=>.int _
def cMod (_ j:Int):Bool:=decide (j≠0)
theorem zx0:OpD X F (binaryOp .Mod) (kI cMod fun i j=>.int (i.fmod j)):=zac7 op_modN (fun i j h=>by simpa [cMod] using h) fun _ _ _=>.int _
def cPow (i j:Int):Bool:=decide (0≤j∧j≤1000∧i.natAbs<18446744073709551616)
theorem zap4:OpD X F (binaryOp .Pow) (kI cPow fun i j=>.int (i ^ j.toNat)):=zac7 op_pow (fun i j h=>by
 simp only [cPow,decide_eq_true_eq]at h
 exact⟨h.1,by lia,by show i.natAbs<2 ^ 64;lia⟩) fun _ _ _=>.int _
theorem zas8:OpD X F (compareOp .Lt) (kI tt2 fun i j=>.bl (decide (i<j))):=zac7 (zav1 op_lt) (fun _ _ _=>trivial) fun _ _ _=>.bl _
theorem od_le:OpD X F (compareOp .LtE) (kI tt2 fun i j=>.bl (decide (i≤j))):=zac7 (zav1 op_le) (fun _ _ _=>trivial) fun _ _ _=>.bl _
theorem od_gt:OpD X F (compareOp .Gt) (kI tt2 fun i j=>.bl (decide (j<i))):=zac7 (zav1 op_gt) (fun _ _ _=>trivial) fun _ _ _=>.bl _
def kOr (k k':Ev→Ev→Option Ev):Ev→Ev→Option Ev:=fun r1 r2=>match k r1 r2 with
 |some r=>some r
 |none=>k' r1 r2
theorem OpD.or {f:Value→Value→Sem Value}{k k':Ev→Ev→Option Ev} (h:OpD X F f k) (h':OpD X F f k'):OpD X F f (kOr k k'):=by
 intro pins s σ H0 H A x y v u Q r1 r2 r I m g0 rx ry q1 q2 e hq
 unfold kOr at e
 split at e
 ·rename_i z
  cases e
  exact h pins s σ H0 H A x y v u Q r1 r2 _ I m g0 rx ry q1 q2 z hq
 ·exact h' pins s σ H0 H A x y v u Q r1 r2 _ I m g0 rx ry q1 q2 e hq
def d1 (k:Ev→Option Ev) (fa:DE):DE:=fun t=>(fa t).bind k
def kNeg:Ev→Option Ev:=fun r=>match r.d with
 |.int i=>some (.cl (.int (-i)))
 |_=>none
theorem zaw6 (ha:PE X a (dE X.K F fa)):PE X (.UnaryOp .USub a pos) (dE X.K F (d1 kNeg fa)):=by
 refine PE.imp (pe_un un_neg ha) ?_
 rintro σ H Q ⟨A,t,r,R,e,h⟩
 unfold d1 at e
 cases e1:fa t with
 |none=>rw [e1]at e;cases e
 |some r1 =>
  rw [e1]at e
  refine⟨A,t,r1,R,e1,fun x H1 g1 q1=>?_⟩
  have e:kNeg r1=some r:=e
  unfold kNeg at e
  split at e
  ·rename_i i z
   cases e
   have p:=q1.full
   rw [z]at p
   exact⟨i,zd7 p,h _ H1 g1 (.int _)⟩
  ·cases e
end
end DL
namespace DL
open PySem.Spec L2
inductive RepEvs (K:zbd4) (F A:List Addr) (H H':Hp):List Ev→List V→Prop
 |nil:RepEvs K F A H H' [] []
 |cons {r:Ev}{v:V}{rs:List Ev}{vs:List V}:RepEv K F A H H' r v→RepEvs K F A H H' rs vs→RepEvs K F A H H' (r::rs) (v::vs)
theorem RepEvs.back {K:zbd4}{F A:List Addr}{H0 H H1:Hp} (e:Same H0 H):∀ {rs:List Ev}{vs:List V},RepEvs K F A H H1 rs vs→RepEvs K F A H0 H1 rs vs
 |_,_,.nil=>.nil
 |_,_,.cons h r=>.cons (h.back e) (RepEvs.back e r)
theorem RepEvs.full {K:zbd4}{F A:List Addr}{H H':Hp}:∀ {rs:List Ev}{vs:List V},RepEvs K F A H H' rs vs→Reps K H' (rs.map Ev.d) vs
 |_,_,.nil=>.nil
 |_,_,.cons h r=>.cons h.full (RepEvs.full r)
theorem RepEvs.cleanF {K:zbd4}{F A:List Addr}{H H':Hp} (m:Lists H (A++F)):∀ {rs:List Ev}{vs:List V},RepEvs K F A H H' rs vs→Reps K (hide F H') (rs.map Ev.d) vs
 |_,_,.nil=>.nil
 |_,_,.cons h r=>.cons (h.cleanF m) (RepEvs.cleanF m r)
theorem RepEvs.clean {K:zbd4}{F A:List Addr}{H H':Hp} (m:Lists H (A++F)) (e:Same H H'):∀ {rs:List Ev}{vs:List V},RepEvs K F A H H' rs vs→rs.all Ev.ok=true→Reps K (hide (A++F) H') (rs.map Ev.d) vs
 |_,_,.nil,_=>.nil
 |_,_,.cons h r,c=>by
  simp only [zbh1,zbe0]at c
  exact .cons (h.clean m e c.1) (RepEvs.clean m e r c.2)
abbrev DA:=Th→Option (List Ev)
noncomputable def dA (K:zbd4) (F:List Addr) (f:DA):TA:=fun σ H Q => ∃A t rs,RS K F H A t σ∧f t=some rs∧∀vs H',Same H H'→RepEvs K F A H H' rs vs→Q vs H'
theorem PA.imp {X:Cx}{e:List Expr}{t t':TA} (h:PA X e t) (i:∀σ H Q,t' σ H Q→t σ H Q):PA X e t':=fun pos pins s σ H Q I q=>h pos pins s σ H Q I (i σ H Q q)
def dNil:DA:=fun _=>some []
def za2 (f:DE) (g:DA):DA:=fun t=>(f t).bind fun r=>(g t).bind fun rs=>some (r::rs)
section
variable {X:Cx}{F:List Addr}{a b c:Expr}{es:List Expr}{fa fb fc:DE}{g:DA}{pos:Pos}
theorem zb0:PA X [] (dA X.K F dNil):=PA.imp zl3 fun σ H Q ⟨A,t,rs,R,e,h⟩=>by cases e;exact h [] H (Same.refl H) .nil
theorem za3 (ha:PE X a (dE X.K F fa)) (hr:PA X es (dA X.K F g)) (hs:zbe7 (a::es) X.env=(false,eval a X.env)::zbe7 es X.env:=by rfl):PA X (a::es) (dA X.K F (za2 fa g)):=by
 refine PA.imp (zf7 ha hr hs) ?_
 rintro σ H Q ⟨A,t,rs,R,e,h⟩
 unfold za2 at e
 cases e1:fa t with
 |none=>rw [e1]at e;cases e
 |some r1 =>
  cases e2:g t with
  |none=>rw [e1,e2]at e;cases e
  |some rs2 =>
   rw [e1,e2]at e
   cases e
   exact⟨A,t,r1,R,e1,fun x H1 g1 q1=>⟨A,t,rs2,R.grow g1,e2,fun xs H2 g2 q2=>h _ _ (g1.trans g2) (.cons (q1.mono g2) (q2.back g1))⟩⟩
noncomputable def kTup:List Ev→Option Ev:=fun rs=>if rs.length≤1000 then (if rs.all Ev.ok then some (.cl (.tup (rs.map Ev.d))) else some (.tm (.tup (rs.map Ev.d)))) else none
def dT1 (k:List Ev→Option Ev) (g:DA):DE:=fun t=>(g t).bind k
theorem RepEvs.length {K:zbd4}{F A:List Addr}{H H':Hp}:∀ {rs:List Ev}{vs:List V},RepEvs K F A H H' rs vs→vs.length=rs.length
 |_,_,.nil=>rfl
 |_,_,.cons _ r=>by simp [RepEvs.length r]
theorem zn0 {n:Nat} (h:n≤100000):n≤sizeLine:=zbh3 h (by rw [sizeLine_eq];decide)
theorem zd1 {H:Hp}{p:Addr}{o:HO} (h:H p=none):Same H (upd H p o):=fun b u e=>by rw [zc8 (fun z=>by rw [z,h]at e;cases e)];exact e
theorem zak6 {x1} (h:PA X es (dA X.K F g)):PE X (.Tuple es x1 pos) (dE X.K F (dT1 kTup g)):=by
 refine PE.imp (pe_tup h) ?_
 rintro σ H Q ⟨A,t,r,R,e,h⟩
 unfold dT1 at e
 cases e1:g t with
 |none=>rw [e1]at e;cases e
 |some rs =>
  rw [e1]at e
  have e:kTup rs=some r:=e
  unfold kTup at e
  split at e
  case isFalse=>cases e
  rename_i hl
  refine⟨A,t,rs,R,e1,fun vs H1 g1 q1=>⟨by rw [q1.length];exact zn0 (by lia),fun p hp=>?_⟩⟩
  have s1:=zd1 (o:=HO.tup vs) hp
  refine h _ _ (g1.trans s1) ?_
  have np:p∉A++F:=zd2 (R.mu.mono g1) hp
  split at e
  ·rename_i c
   cases e
   exact .tup (SqT.of (zc2 zb9 np)) (Reps.mono (zc3 s1) (q1.clean R.mu g1 c))
  ·cases e
   exact .tup (SqT.of (zc2 zb9 fun z=>np (zbd3 _ z))) (Reps.mono (zc3 s1) (q1.cleanF R.mu))
def kLst:List Ev→Option Ev:=fun rs=>if rs.length≤1000∧rs.all Ev.ok then some (.nw (rs.map Ev.d)) else none
theorem zj0 {P:List Addr}{H:Hp}{p:Addr}{o:HO} (h:H p=none):Same (hide P H) (hide (p::P) (upd H p o)):=fun b u e=>by
 obtain⟨n,e⟩:=zh9 e
 have nb:b≠p:=fun z=>by rw [z,h]at e;cases e
 refine zc2 (by rw [zc8 nb];exact e) fun z=>?_
 rcases zbe3.mp z with z | z
 ·exact nb z
 ·exact n z
theorem zh8 (h:PA X es (dA X.K F g)):PE X (.List es pos) (dE X.K F (dT1 kLst g)):=by
 refine PE.imp (pe_lst h) ?_
 rintro σ H Q ⟨A,t,r,R,e,h⟩
 unfold dT1 at e
 cases e1:g t with
 |none=>rw [e1]at e;cases e
 |some rs =>
  rw [e1]at e
  have e:kLst rs=some r:=e
  unfold kLst at e
  split at e
  case isFalse=>cases e
  rename_i hl
  cases e
  refine⟨A,t,rs,R,e1,fun vs H1 g1 q1=>⟨by rw [q1.length];exact zn0 (by lia),fun p hp=>?_⟩⟩
  have s1:=zd1 (o:=HO.lst vs) hp
  refine h _ _ (g1.trans s1) ⟨p,vs,rfl,?_,zb9,Reps.mono (zj0 hp) (q1.clean R.mu g1 hl.2)⟩
  exact Same.free g1 hp
noncomputable def spD (K:zbd4) (G:List D→Option Ev):Sp:=fun vs H Q _ => ∃Fo ds r,Lists H Fo∧Reps K (hide Fo H) ds vs∧G ds=some r∧∀v H',Same H H'→RepEv K Fo [] H H' r v→Q v H'
noncomputable def upEv (ok:Bool) (r:Ev):Ev:=if ok then (match r with
  |.cl d=>.cl d
  |.tm d=>.cl d
  |.nw xs=>.nw xs
  |.dn d=>.dn d) else match r with
  |.cl d=>if flat d then .cl d else .tm d
  |.tm d=>if flat d then .cl d else .tm d
  |.nw xs=>if flats xs then .nw xs else .tm (.lst xs)
  |.dn d=>.dn d
def zf0 (G:List D→Option Ev):List Ev→Option Ev:=fun rs=>(G (rs.map Ev.d)).map (upEv (rs.all Ev.ok))
theorem call_up {K:zbd4}{A:List Addr}{G:List D→Option Ev}{H0 H:Hp}{rs:List Ev}{r:Ev}{vs:List V}{Q:VK}{E:XK} (m:Lists H0 (A++F)) (g:Same H0 H) (q:RepEvs K F A H0 H rs vs) (e:zf0 G rs=some r)
  (h:∀v H',Same H H'→RepEv K F A H0 H' r v→Q v H'):spD K G vs H Q E:=by
 unfold zf0 at e
 cases e1:G (rs.map Ev.d) with
 |none=>rw [e1]at e;cases e
 |some r0 =>
  rw [e1]at e
  have e:upEv (rs.all Ev.ok) r0=r:=by simpa using e
  have mH:=m.mono g
  by_cases c:rs.all Ev.ok=true
  ·refine⟨A++F,rs.map Ev.d,r0,mH,q.clean m g c,e1,fun v H' g' w=>h v H' g' ?_⟩
   rw [c]at e
   subst e
   cases r0 with
   |cl d=>exact w
   |tm d=>exact w
   |nw xs =>
    obtain⟨p,us,rfl,h1,h2,h3⟩:=w
    exact⟨p,us,rfl,Same.free g h1,h2,h3⟩
   |dn d =>
    obtain⟨B,h1,h2,h3⟩:=w
    exact⟨B,h1,fun b hb=>Same.free g (h2 b hb),h3⟩
  ·refine⟨F,rs.map Ev.d,r0,fun p hp=>mH p (zbd3 _ hp),q.cleanF m,e1,fun v H' g' w=>h v H' g' ?_⟩
   have c:rs.all Ev.ok=false:=by simpa using c
   rw [c]at e
   subst e
   have m':=mH.mono g'
   cases r0 with
   |cl d =>
    show RepEv K F A H0 H' (if flat d then .cl d else .tm d) v
    split
    ·rename_i f;exact Rep.hid m' f (Rep.mono (za9 _ _) w)
    ·exact w
   |tm d =>
    show RepEv K F A H0 H' (if flat d then .cl d else .tm d) v
    split
    ·rename_i f;exact Rep.hid m' f (Rep.mono (za9 _ _) w)
    ·exact w
   |nw xs =>
    obtain⟨p,us,rfl,h1,h2,h3⟩:=w
    have np:p∉A++F:=zd2 mH h1
    show RepEv K F A H0 H' (if flats xs then .nw xs else .tm (.lst xs)) _
    split
    ·rename_i f
     refine⟨p,us,rfl,Same.free g h1,h2,Reps.hid (P:=p ::(A++F)) (fun b hb=>?_) f (Reps.mono (za9 _ _) h3)⟩
     rcases zbe3.mp hb with rfl | hb
     ·exact⟨mL us,h2⟩
     ·exact m' b hb
    ·exact .lst (SqL.of (zc2 h2 fun z=>np (zbd3 _ z))) (Reps.mono (zb2 H' fun b z=>zbd6 _ z) h3)
   |dn d =>
    obtain⟨B,h1,h2,h3⟩:=w
    exact⟨B,h1,fun b hb=>Same.free g (h2 b hb),h3.hid (h3.lists.app m') (za9 _ _)⟩
theorem ped_call {k:Nat}{f:Addr}{fd:FuncData}{ps:List Str}{G:List D→Option Ev}{x:Str}{p:Pos} (Fn:FnOk X.prog X.w X.K X.mg X.base CX0 k f fd ps (spD X.K G)) (hr:Room k X.A) (hg:Gl X x) (hm:X.mg x=some (.ref f)) (hk:zbh6 X.K (.ref f)=true)
  (hb:Binds X.K fd ps []) (ha:PA X (a::es) (dA X.K F g)) (hdb:(x ==("__debug__":Str))=false:=by decide) (he:zbe7 (a::es) X.env=(false,eval a X.env)::zbe7 es X.env:=by rfl)
  (hpl:(zbl0 pos (zbe7 es X.env)).any (·.1)=false:=by rfl):PE X (.Call (.Name x p) (a::es) [] pos) (dE X.K F (dT1 (zf0 G) g)):=by
 refine PE.imp (zac6 Fn hr hg hm hk hb .nil (E:=E0) pass0 ha hdb he hpl) ?_
 rintro σ H Q ⟨A,t,r,R,e,h⟩
 unfold dT1 at e
 cases e1:g t with
 |none=>rw [e1]at e;cases e
 |some rs =>
  rw [e1]at e
  refine⟨A,t,rs,R,e1,fun vs H1 g1 q1=>?_⟩
  show spD X.K G (vs++[]) H1 Q E0
  rw [zbi4]
  exact call_up R.mu g1 q1 e fun v H' g' w=>h v H' (g1.trans g') w
noncomputable def CallD (X:Cx) (F:List Addr) (f:Value) (k:List Ev→Option Ev):Prop :=
 ∀(pins:List (Addr×Obj)) (s:zbe5) (σ:L2.St) (H0 H:Hp) (A:List Addr) (xs:List V) (us:List Value) (Q:VK) (rs:List Ev) (r:Ev),Inv X pins σ H s→Lists H0 (A++F)→Same H0 H→Vals xs us→RepEvs X.K F A H0 H rs xs→k rs=some r →
  (∀z H',Same H H'→RepEv X.K F A H0 H' r z→Q z H')→wpAny (model X.prog X.w) X.A (call f us) (EP X pins σ Q) X.xe s
theorem PA.run (ha:PA X es (dA X.K F g)) {k:List Ev→Option Ev}{f:Value} (hc:CallD X F f k) {pins:List (Addr×Obj)}{s:zbe5}{σ:L2.St}{H:Hp}{Q:VK} (p:Pos) (I:Inv X pins σ H s) (h:dE X.K F (dT1 k g) σ H Q) :
  wpAny (model X.prog X.w) X.A (spliced (zbl0 p (zbe7 es X.env))) (fun us s1=>wpAny (model X.prog X.w) X.A (call f us) (EP X pins σ Q) X.xe s1) X.xe s:=by
 obtain⟨A,t,r,R,e,h⟩:=h
 unfold dT1 at e
 cases e1:g t with
 |none=>rw [e1]at e;cases e
 |some rs =>
  rw [e1]at e
  refine thn (ha p pins s σ H (fun vs H1=>Same H H1∧RepEvs X.K F A H H1 rs vs) I ⟨A,t,rs,R,e1,fun vs H1 g1 q1=>⟨g1,q1⟩⟩) fun us s1 ⟨vs,H1,I1,r1,g1,q1⟩=>?_
  exact hc pins s1 σ H H1 A vs us Q rs r I1 R.mu g1 r1 q1 e fun z H' g'=>h z H' (g1.trans g')
theorem zb8 {k:List Ev→Option Ev}{x:Str}{p:Pos}{id:String} (hc:CallD X F (.builtin id) k) (hg:Gl X x) (hm:X.mg x=none) (hv:bootBuiltins x=some (.builtin id)) (ha:PA X (a::es) (dA X.K F g)) (hn:x≠"__name__":=by decide) (hdb:(x ==("__debug__":Str))=false:=by decide)
  (he:zbe7 (a::es) X.env=(false,eval a X.env)::zbe7 es X.env:=by rfl) (hpl:(zbl0 pos (zbe7 es X.env)).any (·.1)=false:=by rfl):PE X (.Call (.Name x p) (a::es) [] pos) (dE X.K F (dT1 k g)):=by
 intro pins s σ H Q I h
 refine wpAny_Call_Name_kw (zm4 I hg hm hv ?_ hn hdb)
 exact PyProof.Rows.callWith_builtin1 (PA.run ha hc pos I h) he hpl
theorem zr2 {k:List Ev→Option Ev}{x:Str}{p:Pos}{T:String} (hc:CallD X F (.type T) k) (hg:Gl X x) (hm:X.mg x=none) (hv:bootBuiltins x=some (.type T)) (ha:PA X (a::es) (dA X.K F g)) (hn:x≠"__name__":=by decide) (hdb:(x ==("__debug__":Str))=false:=by decide)
  (he:zbe7 (a::es) X.env=(false,eval a X.env)::zbe7 es X.env:=by rfl) (hpl:(zbl0 pos (zbe7 es X.env)).any (·.1)=false:=by rfl):PE X (.Call (.Name x p) (a::es) [] pos) (dE X.K F (dT1 k g)):=by
 intro pins s σ H Q I h
 refine wpAny_Call_Name_kw (zm4 I hg hm hv ?_ hn hdb)
 exact PyProof.Rows.callWith_type1 (PA.run ha hc pos I h) he hpl
theorem CallD.of {f:Value}{r:List V→Hp→VK→Prop}{k:List Ev→Option Ev} (h:zs8 X f r)
  (i:∀(H0 H:Hp) (A:List Addr) (xs:List V) (rs:List Ev) (e:Ev) (Q:VK),Lists H0 (A++F)→Same H0 H→RepEvs X.K F A H0 H rs xs→k rs=some e→(∀z H',Same H H'→RepEv X.K F A H0 H' e z→Q z H')→r xs H Q):CallD X F f k :=
 fun pins s σ H0 H A xs us Q rs e I m g v q ek hq=>h pins s σ H xs us Q I v (i H0 H A xs rs e Q m g q ek hq)
noncomputable def kLen:List Ev→Option Ev:=fun rs=>match rs with
 |[r]=>(match r.d with
  |.lst xs=>some (.cl (.int xs.length))
  |.tup xs=>some (.cl (.int xs.length))
  |_=>none)
 |_=>none
theorem zk2:CallD X F (.builtin "len") kLen:=CallD.of zai2 fun H0 H A xs rs e Q m g q ek hq=>by
 unfold kLen at ek
 split at ek
 ·rename_i r
  cases q with
  |cons q1 q2 =>
   cases q2
   have p:=q1.full
   split at ek
   ·rename_i ds z
    cases ek
    rw [z]at p
    cases p with
    |lst h1 h2=>exact⟨_,_,rfl,.inl h1,by rw [h2.length];exact hq _ H (Same.refl H) (.int _)⟩
   ·rename_i ds z
    cases ek
    rw [z]at p
    cases p with
    |tup h1 h2=>exact⟨_,_,rfl,.inr h1,by rw [h2.length];exact hq _ H (Same.refl H) (.int _)⟩
   ·cases ek
 ·cases ek
end
end DL
namespace DL
open PySem.Spec L2
abbrev DT:=Th→Option Bool
def dT (K:zbd4) (F:List Addr) (f:DT):TT:=fun σ H Q => ∃A t b,RS K F H A t σ∧f t=some b∧∀H',Same H H'→Q b H'
theorem PT.imp {X:Cx}{e:Expr}{t t':TT} (h:PT X e t) (i:∀σ H Q,t' σ H Q→t σ H Q):PT X e t':=fun pins s σ H Q I q=>h pins s σ H Q I (i σ H Q q)
theorem PW.imp {X:Cx}{e:Expr}{t t':TT} (h:PW X e t) (i:∀σ H Q,t' σ H Q→t σ H Q):PW X e t':=fun w pins s σ H Q I q=>h w pins s σ H Q I (i σ H Q q)
noncomputable def truD:D→Option Bool
 |.non=>some false
 |.bl b=>some b
 |.int i=>some (i != 0)
 |.tup xs=>some (!xs.isEmpty)
 |.lst xs=>some (!xs.isEmpty)
 |.dct ks _=>some (!ks.isEmpty)
 |.pdc _=>none
 |.fdc _=>none
 |.adr _=>none
 |.str y=>if y.length≤100000 then some ((y.length:Int) != 0) else none
theorem zp8 {α β:Type}{xs:List α}{ys:List β} (h:xs.length=ys.length):xs.isEmpty=ys.isEmpty:=by
 cases xs<;>cases ys<;>simp_all
theorem truV_of {K:zbd4}{H:Hp}{d:D}{v:V}{b:Bool} (r:Rep K H d v) (e:truD d=some b):TruV K v H b:=by
 cases r with
 |non=>cases e;rfl
 |bl b=>cases e;rfl
 |int i=>cases e;rfl
 |str x =>
  simp only [truD]at e
  split at e
  ·cases e;exact⟨zn0 (by assumption),rfl⟩
  ·cases e
 |tup h1 h2=>cases e;exact .inr (.inl ⟨_,h1,by rw [zp8 h2.length]⟩)
 |lst h1 h2=>cases e;exact .inl ⟨_,h1,by rw [zp8 h2.length]⟩
 |@dct ks ds p vs l h1 h2 =>
  cases e
  have e1:(mkKV ks vs).length=ks.length:=by unfold mkKV;rw [List.length_zip];lia
  exact .inr (.inr ⟨_,h1,by rw [zp8 e1]⟩)
 |pdc h=>cases e
 |fdc h=>cases e
 |adr _=>cases e
def dTr (f:DE):DT:=fun t=>(f t).bind fun r=>truD r.d
def dBo (f:DE):DT:=fun t=>(f t).bind fun r=>match r.d with
 |.bl b=>some b
 |_=>none
def dIf (c:DT) (fa fb:DE):DE:=fun t=>(c t).bind fun b=>if b then fa t else fb t
def dAnd (f g:DT):DT:=fun t=>(f t).bind fun b=>if b then g t else some false
def dOr (f g:DT):DT:=fun t=>(f t).bind fun b=>if b then some true else g t
def dNot (f:DT):DT:=fun t=>(f t).bind fun b=>some (!b)
section
variable {X:Cx}{F:List Addr}{a b c:Expr}{es:List Expr}{fa fb fc:DE}{g g':DA}{ft fu:DT}{pos:Pos}{rest:List Expr}
theorem zw2 (ha:PE X a (dE X.K F fa)) (he:∀whole,isTrue a X.env whole=(do let v ← whole;standAt a.pos;holding [v] (truthy v)):=by intro _;rfl):PT X a (dT X.K F (dTr fa)):=by
 refine PT.imp (pt_truth ha he) ?_
 rintro σ H Q ⟨A,t,r,R,e,h⟩
 unfold dTr at e
 cases e1:fa t with
 |none=>rw [e1]at e;cases e
 |some r1 =>
  rw [e1]at e
  exact⟨A,t,r1,R,e1,fun v H' g' q=>⟨r,truV_of q.full e,h H' g'⟩⟩
theorem zd0 {op:CmpOp}{k:Ev→Ev→Option Ev} (ho:OpD X F (compareOp op) k) (ha:PE X a (dE X.K F fa)) (hb:PE X b (dE X.K F fb)) (hm:behindInMarks op b=false:=by first | exact zap5 _ | (with_unfolding_all rfl)) :
  PT X (.Compare a [op] [b] pos) (dT X.K F (dBo (d2 k fa fb))):=by
 intro pins s σ H Q I h
 obtain⟨A,t,b',R,e,h⟩:=h
 unfold dBo at e
 cases e1:d2 k fa fb t with
 |none=>rw [e1]at e;cases e
 |some r0 =>
  rw [e1]at e
  have w0:dE X.K F (d2 k fa fb) σ H (fun z H'=>Same H H'∧Rep X.K H' r0.d z):=⟨A,t,r0,R,e1,fun v H' g q=>⟨g,q.full⟩⟩
  obtain⟨A2,t2,r1,r2,r,R2,e1',e2',e3,h3,w⟩:=two w0
  refine wpAny_isTrue_Compare1 (bin ha hb I w fun v u s2 x y H2 I2 rx ry q=>?_) hm
  obtain⟨g,q1,q2⟩:=q
  refine thn (ho pins s2 σ H H2 A2 x y v u (fun z H'=>Same H H'∧Rep X.K H' r0.d z) r1 r2 r I2 R2.mu g rx ry q1 q2 e3 fun z H' g'=>h3 z H' (g.trans g')) fun cc s3 ⟨z,H3,I3,r3,g3,q3⟩=>?_
  have e:(match r0.d with | .bl b=>some b | _=>none)=some b':=e
  split at e
  ·rename_i b2 z2
   cases e
   rw [z2]at q3
   cases q3
   cases r3
   exact wpAny_truthy_bool ⟨H3,I3,h H3 g3⟩
  ·cases e
theorem zu1 (ha:PT X a (dT X.K F ft)):PW X (.BoolOp .And [a] pos) (dT X.K F ft):=zav2 ha
theorem zak0 (ha:PT X a (dT X.K F ft)):PW X (.BoolOp .Or [a] pos) (dT X.K F ft):=pw_or1 ha
theorem zab8 (ha:PT X a (dT X.K F ft)) (hb:PW X (.BoolOp .And (b::rest) pos) (dT X.K F fu)):PW X (.BoolOp .And (a::b::rest) pos) (dT X.K F (dAnd ft fu)):=by
 refine PW.imp (pw_and ha hb) ?_
 rintro σ H Q ⟨A,t,r,R,e,h⟩
 unfold dAnd at e
 cases e1:ft t with
 |none=>rw [e1]at e;cases e
 |some r1 =>
  rw [e1]at e
  refine⟨A,t,r1,R,e1,fun H1 g1=>?_⟩
  cases r1 with
  |true=>exact⟨A,t,r,R.grow g1,e,fun H2 g2=>h H2 (g1.trans g2)⟩
  |false=>cases e;exact h H1 g1
theorem zao3 (ha:PT X a (dT X.K F ft)) (hb:PW X (.BoolOp .Or (b::rest) pos) (dT X.K F fu)):PW X (.BoolOp .Or (a::b::rest) pos) (dT X.K F (dOr ft fu)):=by
 refine PW.imp (pw_or ha hb) ?_
 rintro σ H Q ⟨A,t,r,R,e,h⟩
 unfold dOr at e
 cases e1:ft t with
 |none=>rw [e1]at e;cases e
 |some r1 =>
  rw [e1]at e
  refine⟨A,t,r1,R,e1,fun H1 g1=>?_⟩
  cases r1 with
  |true=>cases e;exact h H1 g1
  |false=>exact⟨A,t,r,R.grow g1,e,fun H2 g2=>h H2 (g1.trans g2)⟩
theorem zac0 (ha:PT X a (dT X.K F ft)):PT X (.UnaryOp .Not a pos) (dT X.K F (dNot ft)):=by
 refine PT.imp (pt_not ha) ?_
 rintro σ H Q ⟨A,t,r,R,e,h⟩
 unfold dNot at e
 cases e1:ft t with
 |none=>rw [e1]at e;cases e
 |some r1 =>
  rw [e1]at e
  cases e
  exact⟨A,t,r1,R,e1,fun H1 g1=>h H1 g1⟩
def zbb4 (f g:DE):DE:=fun t=>(f t).bind fun r=>match r.d with
 |.bl b=>if b then g t else some (.cl (.bl false))
 |_=>none
theorem ped_one {op} (h:PE X a (dE X.K F fa)):PE X (.BoolOp op [a] pos) (dE X.K F fa):=pe_one h
theorem ped_and (ha:PE X a (dE X.K F fa)) (hb:PE X (.BoolOp .And (b::rest) pos) (dE X.K F fb)):PE X (.BoolOp .And (a::b::rest) pos) (dE X.K F (zbb4 fa fb)):=by
 refine PE.imp (pe_and ha hb) ?_
 rintro σ H Q ⟨A,t,r,R,e,h⟩
 unfold zbb4 at e
 cases e1:fa t with
 |none=>rw [e1]at e;cases e
 |some r1 =>
  rw [e1]at e
  refine⟨A,t,r1,R,e1,fun v H1 g1 q1=>?_⟩
  have p:=q1.full
  have e:(match r1.d with | .bl b=>if b then fb t else some (.cl (.bl false)) |_=>none)=some r:=e
  split at e
  ·rename_i b2 z
   rw [z]at p
   cases p
   refine⟨b2,rfl,?_⟩
   cases b2 with
   |true=>exact⟨A,t,r,R.grow g1,e,fun v2 H2 g2 q2=>h v2 H2 (g1.trans g2) (q2.back g1)⟩
   |false=>cases e;exact h _ H1 g1 (.bl false)
  ·cases e
theorem ped_if (hc:PT X c (dT X.K F ft)) (ha:PE X a (dE X.K F fa)) (hb:PE X b (dE X.K F fb)):PE X (.IfExp c a b pos) (dE X.K F (dIf ft fa fb)):=by
 refine PE.imp (pe_ifExp hc ha hb) ?_
 rintro σ H Q ⟨A,t,r,R,e,h⟩
 unfold dIf at e
 cases e1:ft t with
 |none=>rw [e1]at e;cases e
 |some r1 =>
  rw [e1]at e
  refine⟨A,t,r1,R,e1,fun H1 g1=>?_⟩
  cases r1 with
  |true=>exact⟨A,t,r,R.grow g1,e,fun v2 H2 g2 q2=>h v2 H2 (g1.trans g2) (q2.back g1)⟩
  |false=>exact⟨A,t,r,R.grow g1,e,fun v2 H2 g2 q2=>h v2 H2 (g1.trans g2) (q2.back g1)⟩
end
inductive Out where
 |nx (t:Th) |rt (r:Ev) |bk (t:Th) |ct (t:Th)
abbrev DS:=Th→Option Out
def After (K:zbd4) (F A:List Addr) (H:Hp) (N:L2.St→Hp→Prop) (t:Th):Prop := ∀σ' H' A',Gr A H A' H'→RS K F H' A' t σ'→N σ' H'
noncomputable def RetEv (K:zbd4) (F A:List Addr) (H H':Hp):Ev→V→Prop
 |.cl d,v=>Rep K (hide F H') d v
 |.tm d,v=>Rep K (hide F H') d v
 |.nw xs,v => ∃p vs,v=.ref p∧(p∈A∨H p=none)∧p∉F∧H' p=some (.lst vs)∧Reps K (hide (p::F) H') xs vs
 |.dn d,v => ∃B,B.Nodup∧(∀b∈B,(b∈A∨H b=none)∧b∉F)∧RepD K (hide (B++F) H') H' d v B
def Back (K:zbd4) (F A:List Addr) (H:Hp) (N:VK) (r:Ev):Prop := ∀v H' A',Gr A H A' H'→RetEv K F A H H' r v→N v H'
noncomputable def dS (K:zbd4) (F:List Addr) (g:DS):TS:=fun E σ H => ∃A t o,RS K F H A t σ∧g t=some o∧match o with
 |.nx t'=>After K F A H E.nx t'
 |.bk t'=>After K F A H E.bk t'
 |.ct t'=>After K F A H E.ct t'
 |.rt r=>Back K F A H E.rt r
end DL
namespace DL
open PySem.Spec L2
theorem RetEv.back {K:zbd4}{F A A1:List Addr}{H H1 H':Hp}{r:Ev}{v:V} (g:Gr A H A1 H1) (h:RetEv K F A1 H1 H' r v):RetEv K F A H H' r v:=by
 cases r with
 |cl d=>exact h
 |tm d=>exact h
 |nw xs =>
  obtain⟨p,vs,rfl,h1,h2,h3,h4⟩:=h
  refine⟨p,vs,rfl,?_,h2,h3,h4⟩
  rcases h1 with h1 | h1
  ·exact g.nw p h1
  ·by_cases z:p∈A
   ·exact .inl z
   ·refine .inr ?_
    cases w:H p with
    |none=>rfl
    |some o=>rw [g.kp p o z w]at h1;cases h1
 |dn d =>
  obtain⟨B,h0,h1,h2⟩:=h
  refine⟨B,h0,fun p hp=>⟨?_,(h1 p hp).2⟩,h2⟩
  rcases (h1 p hp).1 with h1 | h1
  ·exact g.nw p h1
  ·by_cases z:p∈A
   ·exact .inl z
   ·refine .inr ?_
    cases w:H p with
    |none=>rfl
    |some o=>rw [g.kp p o z w]at h1;cases h1
theorem After.back {K:zbd4}{F A A1:List Addr}{H H1:Hp}{N:L2.St→Hp→Prop}{t:Th} (h:After K F A H N t) (g:Gr A H A1 H1):After K F A1 H1 N t:=fun σ' H' A' g' R=>h σ' H' A' (g.trans g') R
theorem Back.back {K:zbd4}{F A A1:List Addr}{H H1:Hp}{N:VK}{r:Ev} (h:Back K F A H N r) (g:Gr A H A1 H1):Back K F A1 H1 N r:=fun v H' A' g' R=>h v H' A' (g.trans g') (R.back g)
theorem PS.imp {X:Cx}{e:Stmt}{t t':TS} (h:PS X e t) (i:∀E σ H,t' E σ H→t E σ H):PS X e t':=fun pins s σ H D I q=>h pins s σ H D I (i D σ H q)
theorem PSs.imp {X:Cx}{e:List Stmt}{t t':TS} (h:PSs X e t) (i:∀E σ H,t' E σ H→t E σ H):PSs X e t':=fun pins s σ H D I q=>h pins s σ H D I (i D σ H q)
theorem Lists.left {H:Hp}{A F:List Addr} (h:Lists H (A++F)):Lists H A:=fun p hp=>h p (zbd5 _ hp)
def zi0:DS:=fun t=>some (.nx t)
noncomputable def dSeq (g1 g2:DS):DS:=fun t=>(g1 t).bind fun o=>match o with
 |.nx t'=>g2 t'
 |.rt r=>some (.rt r)
 |.bk t'=>some (.bk t')
 |.ct t'=>some (.ct t')
section
variable {X:Cx}{F:List Addr}{a b c:Expr}{es:List Expr}{fa fb fc:DE}{g g1 g2:DS}{ft fu:DT}{pos:Pos}{st:Stmt}{rest:List Stmt}
theorem zh7:PSs X [] (dS X.K F zi0):=PSs.imp zav7 fun E σ H ⟨A,t,o,R,e,h⟩=>by cases e;exact h σ H A (Gr.refl R.mu.left) R
theorem zc1 (h1:PS X st (dS X.K F g1)) (h2:PSs X rest (dS X.K F g2)):PSs X (st::rest) (dS X.K F (dSeq g1 g2)):=by
 refine PSs.imp (zao7 h1 h2) ?_
 rintro E σ H ⟨A,t,o,R,e,h⟩
 unfold dSeq at e
 cases e1:g1 t with
 |none=>rw [e1]at e;cases e
 |some o1 =>
  rw [e1]at e
  refine⟨A,t,o1,R,e1,?_⟩
  cases o1 with
  |nx t' =>
   intro σ' H' A' g' R'
   refine⟨A',t',o,R',e,?_⟩
   cases o with
   |nx t2=>exact After.back h g'
   |bk t2=>exact After.back h g'
   |ct t2=>exact After.back h g'
   |rt r=>exact Back.back h g'
  |rt r=>cases e;exact h
  |bk t2=>cases e;exact h
  |ct t2=>cases e;exact h
theorem zc9 (h1:PS X st (dS X.K F g1)):PSs X [st] (dS X.K F g1):=zav6 h1
def dIfS (c:DT) (g1 g2:DS):DS:=fun t=>(c t).bind fun b=>if b then g1 t else g2 t
theorem zl2 {s1 s2:List Stmt} (hc:PT X c (dT X.K F ft)) (ha:PSs X s1 (dS X.K F g1)) (hb:PSs X s2 (dS X.K F g2)):PS X (.If c s1 s2 pos) (dS X.K F (dIfS ft g1 g2)):=by
 refine PS.imp (ps_if hc ha hb) ?_
 rintro E σ H ⟨A,t,o,R,e,h⟩
 unfold dIfS at e
 cases e1:ft t with
 |none=>rw [e1]at e;cases e
 |some r1 =>
  rw [e1]at e
  refine⟨A,t,r1,R,e1,fun H1 gs=>?_⟩
  have gr:Gr A H A H1:=Gr.of_same R.mu.left gs
  cases r1 with
  |true =>
   refine⟨A,t,o,R.grow gs,e,?_⟩
   cases o with
   |nx t2=>exact After.back h gr
   |bk t2=>exact After.back h gr
   |ct t2=>exact After.back h gr
   |rt r=>exact Back.back h gr
  |false =>
   refine⟨A,t,o,R.grow gs,e,?_⟩
   cases o with
   |nx t2=>exact After.back h gr
   |bk t2=>exact After.back h gr
   |ct t2=>exact After.back h gr
   |rt r=>exact Back.back h gr
def dRet (f:DE):DS:=fun t=>(f t).bind fun r=>some (.rt r)
theorem RetEv.of {K:zbd4}{F A:List Addr}{H H':Hp}{r:Ev}{v:V} (m:Lists H (A++F)) (h:RepEv K F A H H' r v):RetEv K F A H H' r v:=by
 cases r with
 |cl d=>exact Rep.mono (zb2 H' fun a z=>zbd3 _ z) h
 |tm d=>exact h
 |nw xs =>
  obtain⟨p,vs,rfl,h1,h2,h3⟩:=h
  have np:p∉A++F:=zd2 m h1
  refine⟨p,vs,rfl,.inr h1,fun z=>np (zbd3 _ z),h2,Reps.mono (zb2 H' fun a z=>?_) h3⟩
  rcases zbe3.mp z with z | z
  ·rw [z];exact zbd7 ..
  ·exact zbd6 _ (zbd3 _ z)
 |dn d =>
  obtain⟨B,h1,h2,h3⟩:=h
  refine⟨B,h1,fun b hb=>⟨.inr (h2 b hb),fun z=>zd2 m (h2 b hb) (zbd3 _ z)⟩,RepD.mono (zb2 H' fun a z=>?_) h3 fun _ _ _ q=>q⟩
  rcases zbd8.mp z with z | z
  ·exact zbd5 _ z
  ·exact zbd3 _ (zbd3 _ z)
theorem zf2 (ha:PE X a (dE X.K F fa)):PS X (.Return (some a) pos) (dS X.K F (dRet fa)):=by
 refine PS.imp (zav9 ha) ?_
 rintro E σ H ⟨A,t,o,R,e,h⟩
 unfold dRet at e
 cases e1:fa t with
 |none=>rw [e1]at e;cases e
 |some r1 =>
  rw [e1]at e
  cases e
  exact⟨A,t,r1,R,e1,fun v H' gs q=>h v H' A (Gr.of_same R.mu.left gs) (RetEv.of R.mu q)⟩
noncomputable def zah2 (i:Nat):DS:=fun t=>match t[i]? with
 |some (.own xs)=>some (.rt (.nw xs))
 |some (.val d)=>some (.rt (.cl d))
 |some (.dp d)=>some (.rt (.dn d))
 |_=>none
theorem zu2 (i:Nat) {x:Str}{pos':Pos} (hN:X.N[i]?=some x:=by rfl) (hv:Vis X.env.scope x:=by first | exact Or.inl rfl | exact Or.inr (Or.inl rfl) |exact Or.inr (Or.inr rfl)) (hd:(x ==("__debug__":Str))=false:=by decide)
  (hcd:(x ==("__classdict__":Str))=false:=by decide):PS X (.Return (some (.Name x pos')) pos) (dS X.K F (zah2 i)):=by
 refine PS.imp (zav9 (zz7 (i:=i) hN hv hd hcd)) ?_
 rintro E σ H ⟨A,t,o,R,e,h⟩
 unfold zah2 at e
 split at e
 ·rename_i ds q
  cases e
  obtain⟨p,vs,h1,h2,h3,h4⟩:=R.rel.getOwn q
  refine⟨_,h1,h _ H A (Gr.refl R.mu.left) ⟨p,vs,rfl,.inl h2,R.dj p h2,h3,Reps.mono (zb2 H fun a z=>?_) h4⟩⟩
  rcases zbe3.mp z with z | z
  ·rw [z];exact zbd5 _ h2
  ·exact zbd3 _ z
 ·rename_i d q
  cases e
  obtain⟨v,h1,h2⟩:=R.rel.getVal q
  exact⟨v,h1,h v H A (Gr.refl R.mu.left) (Rep.mono (zb2 H fun a z=>zbd3 _ z) h2)⟩
 ·rename_i d q
  cases e
  obtain⟨v,B,h1,h2,h0,h3⟩:=R.rel.getDp R.nd q
  refine⟨v,h1,h v H A (Gr.refl R.mu.left) ⟨B,h0,fun b hb=>⟨.inl (h2 b hb),R.dj b (h2 b hb)⟩,RepD.mono (zb2 H fun a z=>?_) h3 fun _ _ _ q=>q⟩⟩
  rcases zbd8.mp z with z | z
  ·exact zbd5 _ (h2 a z)
  ·exact zbd3 _ z
 ·cases e
end
theorem RSl.setVal {K:zbd4}{H0 H:Hp}{d:D}{v:V} (h:Rep K H0 d v):∀ {t:Th}{σ:L2.St}{A:List Addr} (i:Nat),RSl K H0 H t σ A→i<t.length→∃A',RSl K H0 H (t.set i (.val d)) (σ.set i (some v)) A'∧List.Sublist A' A
 |_,_,_,_,.nil,l=>by simp at l
 |_,_,_,0,.no r,_=>⟨_,.val h r,List.Sublist.refl _⟩
 |_,_,_,0,.val _ r,_=>⟨_,.val h r,List.Sublist.refl _⟩
 |_,_,_,0,.own _ _ r,_=>⟨_,.val h r,zbk0 _ _⟩
 |_,_,_,0,.dp _ r,_=>⟨_,.val h r,zbk9 _ _⟩
 |_,_,_,i+1,.no r,l=>let ⟨A',a,b⟩:=RSl.setVal h i r (by simpa using l);⟨A',.no a,b⟩
 |_,_,_,i+1,.val q r,l=>let ⟨A',a,b⟩:=RSl.setVal h i r (by simpa using l);⟨A',.val q a,b⟩
 |_,_,_,i+1,.own q1 q2 r,l=>let ⟨A',a,b⟩:=RSl.setVal h i r (by simpa using l);⟨_,.own q1 q2 a,b.cons₂ _⟩
 |_,_,_,i+1,.dp q r,l=>let ⟨A',a,b⟩:=RSl.setVal h i r (by simpa using l);⟨_,.dp q a,List.Sublist.append (List.Sublist.refl _) b⟩
theorem RSl.setAny {K:zbd4}{H0 H:Hp}{s:Sl}{v:V}{B:List Addr} (h:∀ {t:Th}{σ:L2.St}{A:List Addr},RSl K H0 H t σ A→RSl K H0 H (s::t) (some v::σ) (B++A)):∀ {t:Th}{σ:L2.St}{A:List Addr} (i:Nat),RSl K H0 H t σ A→i<t.length →
  ∃A',RSl K H0 H (t.set i s) (σ.set i (some v)) A'∧(∀x∈A',x∈B∨x∈A)∧(A.Nodup→B.Nodup→(∀b∈B,b∉A)→A'.Nodup)
 |_,_,_,_,.nil,l=>by simp at l
 |_,_,A,0,.no r,_=>⟨_,h r,fun x hx=>zbd8.mp hx,fun n1 n2 d=>zbf9.mpr ⟨n2,n1,fun a ha b hb e=>d a ha (e ▸ hb)⟩⟩
 |_,_,A,0,.val _ r,_=>⟨_,h r,fun x hx=>zbd8.mp hx,fun n1 n2 d=>zbf9.mpr ⟨n2,n1,fun a ha b hb e=>d a ha (e ▸ hb)⟩⟩
 |_,_,_,0,.own _ _ r,_=>⟨_,h r,fun x hx=>(zbd8.mp hx).imp id (zbd6 _),fun n1 n2 d=>zbf9.mpr ⟨n2,(zbg3.mp n1).2,fun a ha b hb e=>d a ha (e ▸ zbd6 _ hb)⟩⟩
 |_,_,_,0,.dp _ r,_=>⟨_,h r,fun x hx=>(zbd8.mp hx).imp id (zbd3 _),fun n1 n2 d=>zbf9.mpr ⟨n2,(zbf9.mp n1).2.1,fun a ha b hb e=>d a ha (e ▸ zbd3 _ hb)⟩⟩
 |_,_,_,i+1,.no r,l=>let ⟨A',a,b,c⟩:=RSl.setAny h i r (by simpa using l);⟨A',.no a,b,c⟩
 |_,_,_,i+1,.val q r,l=>let ⟨A',a,b,c⟩:=RSl.setAny h i r (by simpa using l);⟨A',.val q a,b,c⟩
 |_,_,_,i+1,.own (p:=p2) q1 q2 r,l=>by
  obtain⟨A',a,b,c⟩:=RSl.setAny h i r (by simpa using l)
  refine⟨_,.own q1 q2 a,fun x hx=>?_,fun nd nb np=>?_⟩
  ·rcases zbe3.mp hx with z | z
   ·exact .inr (z ▸ zbd7 ..)
   ·exact (b x z).imp id (zbd6 _)
  ·have n1:=zbg3.mp nd
   refine zbg3.mpr ⟨fun z=>?_,c n1.2 nb fun x hx z=>np x hx (zbd6 _ z)⟩
   rcases b _ z with z | z
   ·exact np _ z (zbd7 ..)
   ·exact n1.1 z
 |_,_,_,i+1,.dp (B:=C) q r,l=>by
  obtain⟨A',a,b,c⟩:=RSl.setAny h i r (by simpa using l)
  refine⟨_,.dp q a,fun x hx=>?_,fun nd nb np=>?_⟩
  ·rcases zbd8.mp hx with z | z
   ·exact .inr (zbd5 _ z)
   ·exact (b x z).imp id (zbd3 _)
  ·have n1:=zbf9.mp nd
   refine zbf9.mpr ⟨n1.1,c n1.2.1 nb fun x hx z=>np x hx (zbd3 _ z),fun x hx y hy e=>?_⟩
   subst e
   rcases b _ hy with z | z
   ·exact np _ z (zbd5 _ hx)
   ·exact n1.2.2 _ hx _ z rfl
theorem RS.putAny {K:zbd4}{F A:List Addr}{H H':Hp}{t:Th}{σ:L2.St}{i:Nat}{s:Sl}{v:V}{B:List Addr} (R:RS K F H A t σ) (g:Same H H') (fr:∀b∈B,H b=none) (nb:B.Nodup) (lb:Lists H' B)
  (mk:∀ {t:Th}{σ:L2.St}{A':List Addr},RSl K (hide (B++(A++F)) H') H' t σ A'→RSl K (hide (B++(A++F)) H') H' (s::t) (some v::σ) (B++A')) (hi:i<t.length) :
  ∃A',Gr A H A' H'∧RS K F H' A' (t.set i s) (σ.set i (some v)):=by
 have R':=R.grow g
 have np:∀b∈B,b∉A++F:=fun b hb=>zd2 R.mu (fr b hb)
 have r0:RSl K (hide (B++(A++F)) H') H' t σ A:=RSl.mono (fun b o h=>by
  obtain⟨n,h⟩:=zh9 h
  refine zc2 (g _ _ h) fun z=>?_
  rcases zbd8.mp z with z | z
  ·rw [fr b z]at h;cases h
  ·exact n z) R.rel fun b _ o h=>g _ _ h
 obtain⟨A',r1,sub,nd⟩:=RSl.setAny mk i r0 hi
 refine⟨A',⟨fun b o _ h=>g b o h,fun b hb=>by obtain⟨ws,z⟩:=R.mu b (zbd5 _ hb);rw [g _ _ z];simp,fun b hb=>?_⟩,?_,nd R.nd nb fun b hb z=>np b hb (zbd5 _ z),fun b hb=>?_,?_⟩
 ·rcases sub b hb with z | z
  ·exact .inr (fr b z)
  ·exact .inl z
 ·intro b hb
  rcases zbd8.mp hb with z | z
  ·rcases sub b z with z | z
   ·exact lb b z
   ·exact R'.mu b (zbd5 _ z)
  ·exact R'.mu b (zbd3 _ z)
 ·rcases sub b hb with z | z
  ·exact fun w=>np b z (zbd3 _ w)
  ·exact R.dj b z
 ·refine RSl.mono (zb2 H' fun b z=>?_) r1 fun _ _ _ h=>h
  rcases zbd8.mp z with z | z
  ·rcases sub b z with z | z
   ·exact zbd5 _ z
   ·exact zbd3 _ (zbd5 _ z)
  ·exact zbd3 _ (zbd3 _ z)
noncomputable def zl7 (t:Th) (i:Nat) (r:Ev):Option Th:=if i<t.length then (match r with
 |.cl d=>some (t.set i (.val d))
 |.tm d=>if flat d then some (t.set i (.val d)) else none
 |.nw xs=>some (t.set i (.own xs))
 |.dn d=>some (t.set i (.dp d))) else none
theorem RS.put {K:zbd4}{F A:List Addr}{H H':Hp}{t t':Th}{σ:L2.St}{i:Nat}{r:Ev}{v:V} (R:RS K F H A t σ) (g:Same H H') (q:RepEv K F A H H' r v) (e:zl7 t i r=some t') :
  ∃A',Gr A H A' H'∧RS K F H' A' t' (σ.set i (some v)):=by
 have R':=R.grow g
 have val:∀d,Rep K (hide (A++F) H') d v→i<t.length→∃A',Gr A H A' H'∧RS K F H' A' (t.set i (.val d)) (σ.set i (some v)):=fun d hd hi=>by
  obtain⟨A',r1,sub⟩:=RSl.setVal hd i R'.rel hi
  have sub':∀x∈A',x∈A:=fun x hx=>sub.subset hx
  refine⟨A',⟨fun b o _ h=>g b o h,fun b hb=>by obtain⟨vs,z⟩:=R.mu b (zbd5 _ hb);rw [g _ _ z];simp,fun b hb=>.inl (sub' b hb)⟩,?_,R.nd.sublist sub,fun p hp=>R.dj p (sub' p hp),?_⟩
  ·intro p hp
   rcases zbd8.mp hp with z | z
   ·exact R'.mu p (zbd5 _ (sub' p z))
   ·exact R'.mu p (zbd3 _ z)
  ·refine RSl.mono (zb2 H' fun a z=>?_) r1 fun _ _ _ h=>h
   rcases zbd8.mp z with z | z
   ·exact zbd5 _ (sub' a z)
   ·exact zbd3 _ z
 unfold zl7 at e
 split at e
 case isFalse=>cases e
 rename_i hi
 cases r with
 |cl d=>cases e;exact val d q hi
 |tm d =>
  simp only at e
  split at e
  ·rename_i f
   cases e
   exact val d (Rep.hid R'.mu f (Rep.mono (za9 _ _) q)) hi
  ·cases e
 |nw xs =>
  cases e
  obtain⟨p,vs,rfl,h1,h2,h3⟩:=q
  exact R.putAny (B:=[p]) g (fun b hb=>by simp at hb;subst hb;exact h1) (by simp) (fun b hb=>by simp at hb;subst hb;exact⟨mL vs,h2⟩) (fun r=>.own h2 h3 r) hi
 |dn d =>
  cases e
  obtain⟨B,h1,h2,h3⟩:=q
  exact R.putAny (B:=B) g h2 h1 h3.lists (fun r=>.dp h3 r) hi
section
variable {X:Cx}{F:List Addr}{a b c:Expr}{es:List Expr}{fa fb fc:DE}{g g1 g2:DS}{ft fu:DT}{pos:Pos}{st:Stmt}{rest:List Stmt}
def dAsg (i:Nat) (f:DE):DS:=fun t=>(f t).bind fun r=>(zl7 t i r).map Out.nx
theorem zd3 {i:Nat}{x:Str}{pos':Pos} (hN:X.N.Nodup) (hi:X.N[i]?=some x) (hx:Loc X.env.scope x) (he:PE X a (dE X.K F fa)) (hs:swapsWith a (some (.Name x pos')) pos.line X.env=pure false:=by rfl) (hf:X.fn x=true∨X.env.scope.names.lookup x=some .local:=by first | exact .inl rfl | exact .inr rfl | assumption) :
  PS X (.Assign [.Name x pos'] a pos) (dS X.K F (dAsg i fa)):=by
 refine PS.imp (ps_set hN hi hx he hs hf) ?_
 rintro E σ H ⟨A,t,o,R,e,h⟩
 unfold dAsg at e
 cases e1:fa t with
 |none=>rw [e1]at e;cases e
 |some r1 =>
  rw [e1]at e
  have e:(zl7 t i r1).map Out.nx=some o:=e
  cases e2:zl7 t i r1 with
  |none=>rw [e2]at e;cases e
  |some t' =>
   rw [e2]at e
   cases e
   refine⟨A,t,r1,R,e1,fun v H' gs q=>?_⟩
   obtain⟨A',g',R'⟩:=R.put gs q e2
   exact h _ _ _ g' R'
end
end DL
namespace DL
open PySem.Spec L2
noncomputable def TgOk (K:zbd4) (F:List Addr) (g:TG) (k:D→Th→Option Th):Prop :=
 ∀σ H A t t' d x (Q:L2.St→Hp→Prop),RS K F H A t σ→Rep K (hide (A++F) H) d x→k d t=some t'→(∀σ2 A2,Gr A H A2 H→RS K F H A2 t' σ2→Q σ2 H)→g x σ H Q
noncomputable def zbd1 (K:zbd4) (F:List Addr) (g:TGs) (k:List D→Th→Option Th):Prop :=
 ∀σ H A t t' ds xs (Q:L2.St→Hp→Prop),RS K F H A t σ→Reps K (hide (A++F) H) ds xs→k ds t=some t'→(∀σ2 A2,Gr A H A2 H→RS K F H A2 t' σ2→Q σ2 H)→g xs σ H Q
def za6 (i:Nat):D→Th→Option Th:=fun d t=>zl7 t i (.cl d)
def zp9:List D→Th→Option Th:=fun ds t=>match ds with
 |[]=>some t
 |_=>none
noncomputable def ze0 (k:D→Th→Option Th) (k':List D→Th→Option Th):List D→Th→Option Th:=fun ds t=>match ds with
 |d::r=>(k d t).bind (k' r)
 |[]=>none
noncomputable def zr5 (n:Nat) (k:List D→Th→Option Th):D→Th→Option Th:=fun d t=>match d with
 |.tup ds=>if ds.length=n then k ds t else none
 |_=>none
theorem zc4 {K:zbd4}{F:List Addr} (i:Nat):TgOk K F (gName i) (za6 i):=by
 intro σ H A t t' d x Q R r e h
 obtain⟨A',g,R'⟩:=R.put (i:=i) (r:=.cl d) (Same.refl H) r e
 exact h _ _ g R'
theorem zv3 {K:zbd4}{F:List Addr}:zbd1 K F gNil zp9:=by
 intro σ H A t t' ds xs Q R r e h
 cases r with
 |nil=>cases e;exact⟨rfl,h σ A (Gr.refl R.mu.left) R⟩
 |cons _ _=>cases e
theorem zi5 {K:zbd4}{F:List Addr}{g:TG}{g':TGs}{k:D→Th→Option Th}{k':List D→Th→Option Th} (h1:TgOk K F g k) (h2:zbd1 K F g' k'):zbd1 K F (gCons g g') (ze0 k k'):=by
 intro σ H A t t' ds xs Q R r e h
 cases r with
 |nil=>cases e
 |@cons d v ds vs r1 r2 =>
  unfold ze0 at e
  cases e1:k d t with
  |none=>simp only [e1]at e;cases e
  |some t1 =>
   simp only [e1]at e
   refine⟨v,vs,rfl,h1 σ H A t t1 d v _ R r1 e1 fun σ2 A2 g2 R2=>?_⟩
   exact h2 σ2 H A2 t1 t' ds vs Q R2 (Reps.mono g2.same r2) e fun σ3 A3 g3 R3=>h σ3 A3 (g2.trans g3) R3
theorem zan3 {K:zbd4}{F:List Addr}{n:Nat}{g':TGs}{k':List D→Th→Option Th} (h2:zbd1 K F g' k'):TgOk K F (gTup K n g') (zr5 n k'):=by
 intro σ H A t t' d x Q R r e h
 unfold zr5 at e
 split at e
 ·rename_i ds
  split at e
  ·rename_i hl
   cases r with
   |@tup _ p vs h1 hr=>exact⟨p,vs,rfl,SqT.mono (za9 _ _) h1,by rw [hr.length];exact hl,h2 σ H A t t' ds vs Q R hr e h⟩
  ·cases e
 ·cases e
def zz0 (k:D→Th→Option Th) (f:DE):DS:=fun t=>(f t).bind fun r=>if r.ok then (k r.d t).map Out.nx else none
section
variable {X:Cx}{F:List Addr}{a b c:Expr}{es:List Expr}{fa fb fc:DE}{g g1 g2:DS}{ft fu:DT}{pos:Pos}{st:Stmt}{rest:List Stmt}{tg:Expr}{gt:TG}{kt:D→Th→Option Th}
theorem zak2 (he:PE X a (dE X.K F fa)) (hg:PG X tg gt) (ht:TgOk X.K F gt kt) (hs:swapsWithSole [tg] a pos.line X.env=pure false:=by rfl) (hw:swappedStores [tg] a X.env=pure none:=by rfl)
  (h1:(assignEach [tg] X.env).map (·.2)=[assign tg X.env]:=by rfl):PS X (.Assign [tg] a pos) (dS X.K F (zz0 kt fa)):=by
 refine PS.imp (ps_asg he hg hs hw h1) ?_
 rintro E σ H ⟨A,t,o,R,e,h⟩
 unfold zz0 at e
 cases e1:fa t with
 |none=>rw [e1]at e;cases e
 |some r1 =>
  rw [e1]at e
  have e:(if r1.ok then (kt r1.d t).map Out.nx else none)=some o:=e
  split at e
  case isFalse=>cases e
  rename_i ok
  cases e2:kt r1.d t with
  |none=>rw [e2]at e;cases e
  |some t' =>
   rw [e2]at e
   cases e
   refine⟨A,t,r1,R,e1,fun v H' gs q=>?_⟩
   exact ht σ H' A t t' r1.d v E.nx (R.grow gs) (q.clean R.mu gs ok) e2 fun σ2 A2 g2 R2=>h σ2 H' A2 ((Gr.of_same R.mu.left gs).trans g2) R2
end
noncomputable def forD (k:D→Th→Option Th) (body:DS):List D→Th→Option Out
 |[],t=>some (.nx t)
 |d::ds,t=>(k d t).bind fun t1=>(body t1).bind fun o=>match o with
  |.nx t'=>forD k body ds t'
  |.ct t'=>forD k body ds t'
  |.bk t'=>some (.nx t')
  |.rt r=>some (.rt r)
noncomputable def whD (c:DT) (body:DS):Nat→Th→Option Out
 |0,_=>none
 |n+1,t=>(c t).bind fun b=>if b then (body t).bind fun o=>match o with
  |.nx t'=>whD c body n t'
  |.ct t'=>whD c body n t'
  |.bk t'=>some (.nx t')
  |.rt r=>some (.rt r) else some (.nx t)
def zbb2 (fu:Th→Nat) (c:DT) (body:DS):DS:=fun t=>whD c body (fu t) t
noncomputable def Post (K:zbd4) (F A:List Addr) (H:Hp) (E:Ends):Out→Prop
 |.nx t'=>After K F A H E.nx t'
 |.bk t'=>After K F A H E.bk t'
 |.ct t'=>After K F A H E.ct t'
 |.rt r=>Back K F A H E.rt r
theorem Post.back {K:zbd4}{F A A1:List Addr}{H H1:Hp}{E:Ends}{o:Out} (h:Post K F A H E o) (g:Gr A H A1 H1):Post K F A1 H1 E o:=by
 cases o with
 |nx t2=>exact After.back h g
 |bk t2=>exact After.back h g
 |ct t2=>exact After.back h g
 |rt r=>exact Back.back h g
theorem zbb3 {K:zbd4}{F A:List Addr}{g:DS}{E:Ends}{σ:L2.St}{H:Hp}{t:Th}{o:Out} (R:RS K F H A t σ) (e:g t=some o) (p:Post K F A H E o):dS K F g E σ H:=⟨A,t,o,R,e,by cases o<;>exact p⟩
theorem zat6 {K:zbd4}{F:List Addr}{g:DS}{E:Ends}{σ:L2.St}{H:Hp} (h:dS K F g E σ H):∃A t o,RS K F H A t σ∧g t=some o∧Post K F A H E o:=by
 obtain⟨A,t,o,R,e,h⟩:=h
 exact⟨A,t,o,R,e,by cases o<;>exact h⟩
section
variable {X:Cx}{F:List Addr}{a b c:Expr}{es:List Expr}{fa fb fc:DE}{g g1 g2:DS}{ft fu:DT}{pos:Pos}{st:Stmt}{rest:List Stmt}{tg:Expr}{gt:TG}{kt:D→Th→Option Th}
theorem zav8 {body:List Stmt} (m:Th→Nat) (hp:PassesOwn (model X.prog X.w) X.A X.env X.xe) (hc:PT X c (dT X.K F ft)) (hb:PSs X body (dS X.K F g)):PS X (.While c body [] pos) (dS X.K F (zbb2 m ft g)):=by
 refine PS.imp (ps_while hp hc hb) ?_
 intro E σ H hh
 obtain⟨A,t,o,R,e,h⟩:=zat6 hh
 refine⟨fun n σ H => ∃A t o,whD ft g n t=some o∧RS X.K F H A t σ∧Post X.K F A H E o,⟨m t,A,t,o,e,R,h⟩,?_⟩
 rintro n σ H ⟨A,t,o,e,R,h⟩
 cases n with
 |zero=>cases e
 |succ n =>
  simp only [whD]at e
  cases e1:ft t with
  |none=>rw [e1]at e;cases e
  |some b =>
   rw [e1]at e
   refine⟨A,t,b,R,e1,fun H1 gs=>?_⟩
   have gr:Gr A H A H1:=Gr.of_same R.mu.left gs
   cases b with
   |false =>
    have e:some (Out.nx t)=some o:=e
    cases e
    exact iteF (h σ H1 A gr (R.grow gs))
   |true =>
    have e:((g t).bind fun o=>match o with
     |.nx t'=>whD ft g n t'
     |.ct t'=>whD ft g n t'
     |.bk t'=>some (.nx t')
     |.rt r=>some (.rt r))=some o:=e
    refine iteT ⟨fun σ' H' => ∃A t o,whD ft g n t=some o∧RS X.K F H' A t σ'∧Post X.K F A H' E o,fun σ' H' q=>⟨n,zbi6 n,q⟩,?_⟩
    cases e2:g t with
    |none=>rw [e2]at e;cases e
    |some o2 =>
     rw [e2]at e
     refine zbb3 (R.grow gs) e2 ?_
     cases o2 with
     |nx t'=>exact fun σ' H' A' g' R'=>⟨A',t',o,e,R',h.back (gr.trans g')⟩
     |ct t'=>exact fun σ' H' A' g' R'=>⟨A',t',o,e,R',h.back (gr.trans g')⟩
     |bk t'=>cases e;exact fun σ' H' A' g' R'=>h σ' H' A' (gr.trans g') R'
     |rt r=>cases e;exact Back.back h gr
theorem zaq2 {K:zbd4}{J:It}{ds:List D}{E:Ends}{σ:L2.St}{H:Hp}{A:List Addr}{t:Th}{o:Out} (Good:List Addr→Hp→Prop) (ht:TgOk K F gt kt) (R:RS K F H A t σ) (e:forD kt g ds t=some o) (h:Post K F A H E o) (g0:Good A H)
  (keep:∀A H A' H',Good A H→Gr A H A' H'→Good A' H') (stop:∀A H,Good A H→J.stop ds.length H) (go:∀A H i,Good A H→i<ds.length→J.go i H)
  (yld:∀A H i x H',Good A H→Lists H (A++F)→J.yld i H x H'→i<ds.length→Same H H'∧∃d,ds[i]?=some d∧Rep K (hide (A++F) H') d x) :
  ∃W:Nat→Nat→L2.St→Hp→Prop,(∃m,W 0 m σ H)∧∀i m σ H,W i m σ H →
   (J.stop i H∧E.nx σ H)∨(J.go i H∧∃N:L2.St→Hp→Prop,(∀σ' H',N σ' H'→∃m',m' < m∧W (i+1) m' σ' H')∧∀x H',J.yld i H x H'→gt x σ H' fun σ2 H2=>dS K F g { E with nx:=N,ct:=N,bk:=E.nx } σ2 H2):=by
 refine⟨fun i m σ H=>i+m=ds.length∧∃A t o,forD kt g (ds.drop i) t=some o∧RS K F H A t σ∧Post K F A H E o∧Good A H,⟨ds.length,by lia,A,t,o,by simpa using e,R,h,g0⟩,?_⟩
 rintro i m σ H ⟨hm,A,t,o,e,R,h,gd⟩
 cases m with
 |zero =>
  have z:i=ds.length:=by lia
  subst z
  rw [zbk1]at e
  cases e
  exact .inl ⟨stop A H gd,h σ H A (Gr.refl R.mu.left) R⟩
 |succ m =>
  have hi:i<ds.length:=by lia
  refine .inr ⟨go A H i gd hi,fun σ' H'=>i+1+m=ds.length∧∃A t o,forD kt g (ds.drop (i+1)) t=some o∧RS K F H' A t σ'∧Post K F A H' E o∧Good A H',fun σ' H' q=>⟨m,zbi6 m,q⟩,fun x H' y=>?_⟩
  obtain⟨gs,d,hd,rd⟩:=yld A H i x H' gd R.mu y hi
  have ed:ds.drop i=d::ds.drop (i+1):=by
   have hd':ds[i]=d:=by
    rw [zbe1 hi]at hd
    exact Option.some.inj hd
   rw [← hd']
   exact zbg9 hi
  rw [ed]at e
  simp only [forD]at e
  cases e1:kt d t with
  |none=>rw [e1]at e;cases e
  |some t1 =>
   rw [e1]at e
   refine ht σ H' A t t1 d x _ (R.grow gs) rd e1 fun σ2 A2 gr3 R2=>?_
   have gr2:Gr A H A2 H':=(Gr.of_same R.mu.left gs).trans gr3
   have e:((g t1).bind fun o=>match o with
     |.nx t'=>forD kt g (ds.drop (i+1)) t'
     |.ct t'=>forD kt g (ds.drop (i+1)) t'
     |.bk t'=>some (.nx t')
     |.rt r=>some (.rt r))=some o:=e
   cases e2:g t1 with
   |none=>rw [e2]at e;cases e
   |some o2 =>
    rw [e2]at e
    refine zbb3 R2 e2 ?_
    cases o2 with
    |nx t'=>exact fun σ' H' A' g' R'=>⟨by lia,A',t',o,e,R',h.back (gr2.trans g'),keep _ _ _ _ gd (gr2.trans g')⟩
    |ct t'=>exact fun σ' H' A' g' R'=>⟨by lia,A',t',o,e,R',h.back (gr2.trans g'),keep _ _ _ _ gd (gr2.trans g')⟩
    |bk t'=>cases e;exact fun σ' H' A' g' R'=>h σ' H' A' (gr2.trans g') R'
    |rt r=>cases e;exact Back.back h gr2
noncomputable def dFor (k:D→Th→Option Th) (f:DE) (body:DS):DS:=fun t=>(f t).bind fun r=>match r.d with
 |.lst ds=>if r.ok then forD k body ds t else none
 |_=>none
theorem zak1 {body:List Stmt} (hp:PassesOwn (model X.prog X.w) X.A X.env X.xe) (hc:X.calm=true) (hl:PE X a (dE X.K F fa)) (hg:PG X tg gt) (ht:TgOk X.K F gt kt) (hb:PSs X body (dS X.K F g))
  (hs:∀x,foldedSetIterable a X.env x=pure x:=by intro _;rfl):PS X (.For tg a body [] pos) (dS X.K F (dFor kt fa g)):=by
 refine PS.imp (zao8 hp hc (zak5 hl) hg hb hs) ?_
 intro E σ H hh
 obtain⟨A,t,o,R,e,h⟩:=zat6 hh
 unfold dFor at e
 cases e1:fa t with
 |none=>rw [e1]at e;cases e
 |some r =>
  rw [e1]at e
  refine⟨A,t,r,R,e1,fun v H1 gs q=>?_⟩
  have e:(match r.d with
   |.lst ds=>if r.ok then forD kt g ds t else none
   |_=>none)=some o:=e
  split at e
  case h_2=>cases e
  rename_i ds z
  split at e
  case isFalse=>cases e
  rename_i ok
  have cl:=q.clean R.mu gs ok
  rw [z]at cl
  cases cl with
  |@lst _ p vs h1 h2 =>
   refine⟨p,rfl,⟨vs,SqL.mono (za9 _ _) h1⟩,?_⟩
   refine zaq2 (fun A H=>SqL X.K (hide (A++F) H) p vs∧Reps X.K (hide (A++F) H) ds vs) ht (R.grow gs) e (h.back (Gr.of_same R.mu.left gs)) ⟨h1,h2⟩ (fun A H A' H' q gr=>⟨SqL.mono gr.same q.1,Reps.mono gr.same q.2⟩)
    (fun A H q=>⟨vs,SqL.mono (za9 _ _) q.1,by rw [h2.length];exact zbf6 _⟩) (fun A H i q hi=>?_) (fun A H i x H' q _ y hi=>?_)
   ·have hi':i<vs.length:=by rw [h2.length];exact hi
    exact⟨vs,vs[i],SqL.mono (za9 _ _) q.1,zbe1 hi'⟩
   ·obtain⟨e1,e2⟩:=y
    have z:=e2 vs (SqL.mono (za9 _ _) q.1)
    subst e1
    exact⟨Same.refl _,q.2.getV z⟩
def rngD (lo:Int) (n:Nat):List D:=(zbh8 n).map fun (i:Nat)=>D.int (lo+(i:Int))
def bigI (i:Int):Bool:=decide (-1000000000000≤i∧i≤1000000000000)
noncomputable def zat7 (k:D→Th→Option Th) (f:DE) (body:DS):DS:=fun t=>(f t).bind fun r=>match r.d with
 |.int n=>if bigI n then forD k body (rngD 0 n.toNat) t else none
 |_=>none
noncomputable def zah1 (k:D→Th→Option Th) (f f':DE) (body:DS):DS:=fun t=>(f t).bind fun r=>(f' t).bind fun r'=>match r.d,r'.d with
 |.int lo,.int n=>if bigI n&&bigI lo then forD k body (rngD lo (n - lo).toNat) t else none
 |_,_=>none
theorem zs0 (lo:Int) (n:Nat):(rngD lo n).length=n:=by simp [rngD]
theorem zao0 {K:zbd4}{lo:Int}{n:Nat}{E:Ends}{σ:L2.St}{H:Hp}{A:List Addr}{t:Th}{o:Out} (ht:TgOk K F gt kt) (R:RS K F H A t σ) (e:forD kt g (rngD lo n) t=some o) (h:Post K F A H E o) :
  ∃W:Nat→Nat→L2.St→Hp→Prop,(∃m,W 0 m σ H)∧∀i m σ H,W i m σ H →
   ((Itr lo n).stop i H∧E.nx σ H)∨((Itr lo n).go i H∧∃N:L2.St→Hp→Prop,(∀σ' H',N σ' H'→∃m',m' < m∧W (i+1) m' σ' H')∧∀x H',(Itr lo n).yld i H x H'→gt x σ H' fun σ2 H2=>dS K F g { E with nx:=N,ct:=N,bk:=E.nx } σ2 H2):=by
 refine zaq2 (fun _ _=>True) ht R e h trivial (fun _ _ _ _ _ _=>trivial) (fun A H _=>?_) (fun A H i _ hi=>?_) (fun A H i x H' _ _ y hi=>?_)
 ·rw [zs0];exact zbf6 n
 ·rw [zs0]at hi;exact hi
 ·rw [zs0]at hi
  obtain⟨e1,e2⟩:=y
  subst e1
  refine⟨Same.refl _,.int (lo+i),by simp [rngD,hi],?_⟩
  rw [e2];exact .int _
theorem psd_rng1 {body:List Stmt}{p1 p2:Pos} (hp:PassesOwn (model X.prog X.w) X.A X.env X.xe) (hc:X.calm=true) (hgr:Gl X "range") (hm:X.mg "range"=none) (ha:PE X a (dE X.K F fa)) (hg:PG X tg gt) (ht:TgOk X.K F gt kt) (hb:PSs X body (dS X.K F g))
  (hst:zbe7 [a] X.env=[(false,eval a X.env)]:=by rfl) (hs:∀x,foldedSetIterable (.Call (.Name "range" p1) [a] [] p2) X.env x=pure x:=by intro _;rfl):PS X (.For tg (.Call (.Name "range" p1) [a] [] p2) body [] pos) (dS X.K F (zat7 kt fa g)):=by
 refine PS.imp (zao8 hp hc (zw4 hgr hm (zf7 ha zl3 hst) hst) hg hb hs) ?_
 intro E σ H hh
 obtain⟨A,t,o,R,e,h⟩:=zat6 hh
 unfold zat7 at e
 cases e1:fa t with
 |none=>rw [e1]at e;cases e
 |some r =>
  rw [e1]at e
  refine⟨A,t,r,R,e1,fun v H1 gs q=>?_⟩
  have e:(match r.d with
   |.int n=>if bigI n then forD kt g (rngD 0 n.toNat) t else none
   |_=>none)=some o:=e
  split at e
  case h_2=>cases e
  rename_i n z
  split at e
  case isFalse=>cases e
  rename_i ok
  simp only [bigI,decide_eq_true_eq]at ok
  have p:=q.full
  rw [z]at p
  cases zd7 p
  exact⟨n,rfl,by lia,by lia,zao0 ht (R.grow gs) e (h.back (Gr.of_same R.mu.left gs))⟩
theorem psd_rng2 {body:List Stmt}{p1 p2:Pos} (hp:PassesOwn (model X.prog X.w) X.A X.env X.xe) (hc:X.calm=true) (hgr:Gl X "range") (hm:X.mg "range"=none) (ha:PE X a (dE X.K F fa)) (hb':PE X b (dE X.K F fb)) (hg:PG X tg gt) (ht:TgOk X.K F gt kt) (hb:PSs X body (dS X.K F g))
  (hst:zbe7 [a,b] X.env=[(false,eval a X.env),(false,eval b X.env)]:=by rfl) (hst2:zbe7 [b] X.env=[(false,eval b X.env)]:=by rfl) (hs:∀x,foldedSetIterable (.Call (.Name "range" p1) [a,b] [] p2) X.env x=pure x:=by intro _;rfl) :
  PS X (.For tg (.Call (.Name "range" p1) [a,b] [] p2) body [] pos) (dS X.K F (zah1 kt fa fb g)):=by
 refine PS.imp (zao8 hp hc (zaf1 hgr hm (zf7 ha (zf7 hb' zl3 hst2) (by rw [hst,hst2])) hst hst2) hg hb hs) ?_
 intro E σ H hh
 obtain⟨A,t,o,R,e,h⟩:=zat6 hh
 unfold zah1 at e
 cases e1:fa t with
 |none=>rw [e1]at e;cases e
 |some r =>
  cases e2:fb t with
  |none=>rw [e1,e2]at e;cases e
  |some r' =>
   rw [e1,e2]at e
   refine⟨A,t,r,R,e1,fun v H1 gs q=>⟨A,t,r',R.grow gs,e2,fun v2 H2 gs2 q2=>?_⟩⟩
   have e:(match r.d,r'.d with
    |.int lo,.int n=>if bigI n&&bigI lo then forD kt g (rngD lo (n - lo).toNat) t else none
    |_,_=>none)=some o:=e
   split at e
   case h_2=>cases e
   rename_i lo n z1 z2
   split at e
   case isFalse=>cases e
   rename_i ok
   simp only [bigI,zbe0,decide_eq_true_eq]at ok
   have p:=q.full
   rw [z1]at p
   cases zd7 p
   have p':=q2.full
   rw [z2]at p'
   cases zd7 p'
   exact⟨lo,n,rfl,⟨by lia,by lia,by lia,by lia⟩,zao0 ht (R.grow (gs.trans gs2)) e (h.back (Gr.of_same R.mu.left (gs.trans gs2)))⟩
end
end DL
namespace DL
open PySem.Spec L2
theorem RSl.upd {K:zbd4}{H0 H H':Hp}{ds es:List D}{ws:List V}{p:Addr} (hp:H' p=some (.lst ws)) (he:Reps K H0 es ws):∀ {t:Th}{σ:L2.St}{A:List Addr} (i:Nat),RSl K H0 H t σ A→A.Nodup→t[i]?=some (.own ds)→σ[i]?=some (some (.ref p)) →
  (∀q∈A,q≠p→H' q=H q)→RSl K H0 H' (t.set i (.own es)) σ A
 |_,_,_,i,.nil,_,e,_,_=>by simp at e
 |_,_,_,0,.no r,_,e,_,_=>by simp at e
 |_,_,_,0,.val _ r,_,e,_,_=>by simp at e
 |_,_,_,0,.dp _ r,_,e,_,_=>by simp at e
 |_,_,_,i+1,.dp (B:=B) h1 r,nd,e,e2,k=>by
  have n:=zbf9.mp nd
  obtain⟨p3,vs3,a1,a2,_⟩:=RSl.getOwn r (i:=i) (ds:=ds) (by simpa using e)
  have:p3=p:=by simpa [a1] using e2
  subst this
  refine .dp (RepD.mono (Same.refl _) h1 fun q hq o w=>?_) (RSl.upd hp he i r n.2.1 (by simpa using e) (by simpa using e2) fun q hq=>k q (zbd3 _ hq))
  rw [k q (zbd5 _ hq) (fun z=>n.2.2 q hq p3 a2 z)];exact w
 |_,_,_,0,.own (p:=p2) (A:=A) h1 h2 r,nd,e,e2,k=>by
  simp at e2
  subst e2
  exact .own hp he (RSl.mono (Same.refl _) r fun q hq o h=>by
   have n:q≠p2:=fun z=>(zbg3.mp nd).1 (z ▸ hq)
   rw [k q (zbd6 _ hq) n];exact h)
 |_,_,_,i+1,.no r,nd,e,e2,k=>.no (RSl.upd hp he i r nd (by simpa using e) (by simpa using e2) k)
 |_,_,_,i+1,.val h r,nd,e,e2,k=>.val h (RSl.upd hp he i r nd (by simpa using e) (by simpa using e2) k)
 |_,_,_,i+1,.own (p:=p2) h1 h2 r,nd,e,e2,k=>by
  have n:=zbg3.mp nd
  have e2':=(show _ from e2)
  obtain⟨p3,vs3,a1,a2,_⟩:=RSl.getOwn r (i:=i) (ds:=ds) (by simpa using e)
  have:p3=p:=by simpa [a1] using e2
  subst this
  have np:p2≠p3:=fun z=>n.1 (z ▸ a2)
  refine .own (by rw [k p2 (zbd7 ..) np];exact h1) h2 (RSl.upd hp he i r n.2 (by simpa using e) (by simpa using e2) fun q hq=>k q (zbd6 _ hq))
theorem RS.write {K:zbd4}{F A:List Addr}{H:Hp}{t:Th}{σ:L2.St}{i:Nat}{ds es:List D}{ws:List V}{p:Addr} (R:RS K F H A t σ) (e:t[i]?=some (.own ds)) (e2:σ[i]?=some (some (.ref p))) (h:Reps K (hide (A++F) H) es ws) :
  RS K F (L2.upd H p (.lst ws)) A (t.set i (.own es)) σ∧Gr A H A (L2.upd H p (.lst ws)):=by
 obtain⟨p',vs,a1,a2,a3,a4⟩:=R.rel.getOwn e
 have:p'=p:=by simpa [a1] using e2
 subst this
 have hh:Same (hide (A++F) H) (hide (A++F) (L2.upd H p' (.lst ws))):=fun b o q=>by
  obtain⟨n,q⟩:=zh9 q
  have nb:b≠p':=fun z=>n (zbd5 _ (z ▸ a2))
  exact zc2 (by rw [zc8 nb];exact q) n
 have mu:Lists (L2.upd H p' (.lst ws)) (A++F):=fun q hq=>by
  by_cases z:q=p'
  ·exact⟨mL ws,by rw [z];exact zb9⟩
  ·obtain⟨us,w⟩:=R.mu q hq
   exact⟨us,by rw [zc8 z];exact w⟩
 refine⟨⟨mu,R.nd,R.dj,RSl.upd zb9 (Reps.mono hh h) i (RSl.mono hh R.rel (H':=H) fun _ _ _ h=>h) R.nd e e2 fun q _ n=>zc8 n⟩,?_⟩
 refine⟨fun b o n q=>?_,fun b hb=>?_,fun b hb=>.inl hb⟩
 ·rw [zc8 (fun z=>n (by rw [z];exact a2))];exact q
 ·obtain⟨us,w⟩:=mu b (zbd5 _ hb)
  rw [w];simp
noncomputable def kApp (t:Th) (i:Nat) (r:Ev):Option Out:=match t[i]? with
 |some (.own xs)=>if r.ok&&decide (xs.length<100000) then some (.nx (t.set i (.own (xs++[r.d])))) else none
 |_=>none
def dApp (i:Nat) (f:DE):DS:=fun t=>(f t).bind (kApp t i)
section
variable {X:Cx}{F:List Addr}{a b c:Expr}{es:List Expr}{fa fb fc:DE}{g g1 g2:DS}{ft fu:DT}{pos:Pos}{st:Stmt}{rest:List Stmt}{tg:Expr}{gt:TG}{kt:D→Th→Option Th}
theorem zac3 (i:Nat) {x:Str}{p0 apos cpos:Pos} (he:PE X a (dE X.K F fa)) (hN:X.N[i]?=some x:=by rfl) (hv:Vis X.env.scope x:=by first | exact Or.inl rfl | exact Or.inr (Or.inl rfl) |exact Or.inr (Or.inr rfl)) (hd:(x ==("__debug__":Str))=false:=by decide)
  (hcd:(x ==("__classdict__":Str))=false:=by decide) (hst:zbe7 [a] X.env=[(false,eval a X.env)]:=by rfl)
  (hbase:attributeBase (.Name x p0) "append" X.env (eval (.Name x p0) X.env)=eval (.Name x p0) X.env:=by rfl)
  (hfew:((zbl0 cpos (zbe7 [a] X.env)).all (fun x=>!x.1)&&(backToKw cpos (keywordEach [] X.env)).all (fun x=>x.1.isSome)
   && decide ([a].length+([]:List Keyword).length+(if ([]:List Keyword).isEmpty then 0 else 1)<30))=true:=by rfl)
  (hline:(apos.endLine == cpos.line)=true:=by rfl) (hplain:(zbl0 cpos (zbe7 [] X.env)).any (·.1)=false:=by rfl)
  (hsw:swapsWith (.Call (.Attribute (.Name x p0) "append" apos) [a] [] cpos) none pos.line X.env=pure false:=by rfl) :
  PS X (.Expr (.Call (.Attribute (.Name x p0) "append" apos) [a] [] cpos) pos) (dS X.K F (dApp i fa)):=by
 refine PS.imp (ps_expr (pe_bm zbo3 PySem.F.slot_list_append PySem.F.type_list_append zx1 (zz7 (i:=i) hN hv hd hcd) (zf7 he zl3 hst) hbase hfew hline hst hplain) hsw) ?_
 rintro E σ H ⟨A,t,o,R,e,h⟩
 unfold dApp at e
 cases e1:fa t with
 |none=>rw [e1]at e;cases e
 |some r =>
  rw [e1]at e
  have e:kApp t i r=some o:=e
  unfold kApp at e
  split at e
  case h_2=>cases e
  rename_i xs z
  split at e
  case isFalse=>cases e
  rename_i ok
  simp only [zbe0,decide_eq_true_eq]at ok
  cases e
  obtain⟨p,vs,a1,a2,a3,a4⟩:=R.rel.getOwn z
  refine⟨_,a1,.inl ⟨rfl,vs,SqL.of a3⟩,A,t,r,R,e1,fun y H1 gs q=>⟨p,vs,y,rfl,rfl,gs _ _ a3,?_,?_⟩⟩
  ·have:vs.length<100000:=by rw [a4.length];exact ok.2
   exact zbf0 this (by rw [sizeLine_eq];decide)
  ·obtain⟨R',g'⟩:=(R.grow gs).write (es:=xs++[r.d]) (ws:=vs++[y]) z a1 ((Reps.mono (zc3 gs) a4).app (Reps.one (q.clean R.mu gs ok.1)))
   exact h _ _ _ ((Gr.of_same R.mu.left gs).trans g') R'
noncomputable def kIx:Ev→Ev→Option Ev:=fun r1 r2=>match r1.d,r2.d with
 |.lst ds,.int i=>(atI ds i).map fun d=>if r1.ok||flat d then .cl d else .tm d
 |.tup ds,.int i=>(atI ds i).map fun d=>if r1.ok||flat d then .cl d else .tm d
 |_,_=>none
theorem Reps.atI {K:zbd4}{H:Hp}{ds:List D}{vs:List V} (r:Reps K H ds vs) {i:Int}{d:D} (e:L2.atI ds i=some d):∃v,L2.atI vs i=some v∧Rep K H d v:=by
 unfold L2.atI at e ⊢
 rw [r.length]
 cases e1:ixN ds.length i with
 |none=>rw [e1]at e;cases e
 |some j=>rw [e1]at e;exact r.get e
theorem zc7 (ha:PE X a (dE X.K F fa)) (hb:PE X b (dE X.K F fb)) (hs:zae5 b:=by intro _ _;rfl):PE X (.Subscript a b pos) (dE X.K F (d2 kIx fa fb)):=by
 refine PE.imp (pe_ix (ix_list.or zaz6) ha hb hs) ?_
 intro σ H Q h
 obtain⟨A,t,r1,r2,r,R,e1,e2,e,h,w⟩:=two h
 refine⟨A,t,r1,R,e1,fun x H1 gs1 q1=>⟨A,t,r2,R.grow gs1,e2,fun y H2 gs2 q2=>?_⟩⟩
 have q1:=q1.mono gs2
 have gs:=gs1.trans gs2
 have p2:=q2.full
 have m2:=R.mu.mono gs
 have key:∀(P:List Addr),Rep X.K (hide P H2) r1.d x→(∀d v,Rep X.K (hide P H2) d v→RepEv X.K F A H H2 (if r1.ok||flat d then Ev.cl d else Ev.tm d) v)→rIxL X.K x y H2 Q∨rIxT X.K x y H2 Q:=fun P hP fin=>by
  unfold kIx at e
  split at e
  ·rename_i ds i z1 z2
   rw [z2]at p2
   cases zd7 p2
   rw [z1]at hP
   cases hP with
   |@lst _ p vs h1 h2 =>
    cases e4:atI ds i with
    |none=>rw [e4]at e;cases e
    |some d =>
     rw [e4]at e
     have e:(if r1.ok||flat d then Ev.cl d else Ev.tm d)=r:=by simpa using e
     obtain⟨v,e5,rv⟩:=Reps.atI h2 e4
     exact .inl ⟨p,vs,i,v,rfl,rfl,SqL.mono (za9 _ _) h1,e5,h v H2 gs (e ▸ fin d v rv)⟩
  ·rename_i ds i z1 z2
   rw [z2]at p2
   cases zd7 p2
   rw [z1]at hP
   cases hP with
   |@tup _ p vs h1 h2 =>
    cases e4:atI ds i with
    |none=>rw [e4]at e;cases e
    |some d =>
     rw [e4]at e
     have e:(if r1.ok||flat d then Ev.cl d else Ev.tm d)=r:=by simpa using e
     obtain⟨v,e5,rv⟩:=Reps.atI h2 e4
     exact .inr ⟨p,vs,i,v,rfl,rfl,SqT.mono (za9 _ _) h1,e5,h v H2 gs (e ▸ fin d v rv)⟩
  ·cases e
 by_cases c:r1.ok=true
 ·refine key (A++F) (q1.clean R.mu gs c) fun d v rv=>?_
  rw [c,zbm7,if_pos rfl]
  exact rv
 ·refine key F (q1.cleanF R.mu) fun d v rv=>?_
  have c:r1.ok=false:=by simpa using c
  rw [c,zbl6]
  split
  ·rename_i f;exact Rep.hid m2 f (Rep.mono (za9 _ _) rv)
  ·exact rv
noncomputable def kCat:Ev→Ev→Option Ev:=fun r1 r2=>match r1.d,r2.d with
 |.lst ds,.lst es=>if (r1.ok||flats ds)&&(r2.ok||flats es)&&decide (ds.length+es.length≤100000) then some (.nw (ds++es)) else none
 |_,_=>none
theorem RepEv.items {K:zbd4}{F A:List Addr}{H H':Hp}{r:Ev}{v:V}{ds:List D} (m:Lists H (A++F)) (gs:Same H H') (q:RepEv K F A H H' r v) (z:r.d=.lst ds) (c:(r.ok||flats ds)=true) :
  ∃p vs,v=.ref p∧SqL K H' p vs∧Reps K (hide (A++F) H') ds vs:=by
 rcases zbn4 _ _ ▸ c with c | c
 ·have w:=q.clean m gs c
  rw [z]at w
  cases w with
  |@lst _ p vs h1 h2=>exact⟨p,vs,rfl,SqL.mono (za9 _ _) h1,h2⟩
 ·have w:=q.full
  rw [z]at w
  cases w with
  |@lst _ p vs h1 h2=>exact⟨p,vs,rfl,h1,Reps.hid (m.mono gs) c h2⟩
theorem cat_any {E:Value→zbe5→Prop}{A:Around}{prog:Program}{w:World}{s:zbe5}{l b:Addr}{vs ws:List Value}{Q:Value→zbe5→Prop} (hl:PlainL s.heap l vs.toArray) (hb:PlainL s.heap b ws.toArray)
  (h:Q (.ref s.heap.objs.size) { s with heap:=s.heap.push { cls:=.type "list",data:=.seq (vs++ws).toArray } }) (hsz:vs.length+ws.length≤sizeLine) :
  wpAny (model prog w) A (binaryOp .Add (.ref l) (.ref b)) Q E s:=by
 obtain⟨⟨cls,dd,data,sl⟩,n,ho,hc,hdd,hd⟩:=id hl
 obtain⟨⟨cls2,dd2,data2,sl2⟩,n2,ho2,hc2,hdd2,hd2⟩:=id hb
 simp only at hc hd hc2 hd2
 subst hc hd hc2 hd2
 have e:vs.toArray++ws.toArray=(vs++ws).toArray:=by simp
 refine concat_meets ⟨_,ho,rfl⟩ ⟨_,ho2,rfl⟩ noFill_list_add seq_list_add PySem.F.slot_list_add PySem.F.entry_list_add (PySem.F.args_list_add_2 _ _) (list_addW l b vs.toArray ws.toArray n n2 dd dd2 sl sl2 (by simpa using hsz)) ⟨ho,ho2,?_⟩
 rw [e]
 exact h
theorem ze6:OpD X F (binaryOp .Add) kCat:=by
 intro pins s σ H0 H A x y v u Q r1 r2 r I m g0 rx ry q1 q2 e hq
 unfold kCat at e
 split at e
 case h_2=>cases e
 rename_i ds es' z1 z2
 split at e
 case isFalse=>cases e
 rename_i c
 simp only [zbe0,decide_eq_true_eq]at c
 cases e
 obtain⟨p,vs,rfl,h1,h2⟩:=q1.items m g0 z1 c.1.1
 obtain⟨p',ws,rfl,h1',h2'⟩:=q2.items m g0 z2 c.1.2
 cases rx
 cases ry
 obtain⟨its,w1,w2,w3⟩:=I.list h1
 obtain⟨its',w1',w2',w3'⟩:=I.list h1'
 have l1:=h2.length
 have l2:=h2'.length
 have l3:=w1.length
 have l4:=w1'.length
 have hz:vs.length+ws.length≤sizeLine:=zn0 (by lia)
 refine cat_any w2 w2' ⟨.ref _,_,I.lnew (t':=s.toks) (w1.append w1') (by rw [zbf8];exact hz),rfl,?_⟩ (by lia)
 refine hq _ _ (zd1 I.fresh) ⟨_,_,rfl,Same.free g0 I.fresh,zb9,Reps.mono (zj0 I.fresh) (h2.app h2')⟩
mutual
def eqD:D→D→Bool
 |.non,.non=>true
 |.bl a,.bl b=>decide (a=b)
 |.int a,.int b=>decide (a=b)
 |.str a,.str b=>decide (a=b)
 |.tup a,.tup b=>eqDs a b
 |.lst a,.lst b=>eqDs a b
 |.dct ks a,.dct ks' b=>decide (ks=ks')&&eqDs a b
 |.pdc a,.pdc b=>decide (a=b)
 |.fdc a,.fdc b=>decide (a=b)
 |.adr a,.adr b=>decide (a=b)
 |_,_=>false
def eqDs:List D→List D→Bool
 |[],[]=>true
 |a::as,b::bs=>eqD a b&&eqDs as bs
 |_,_=>false
end
noncomputable def eqOk:Nat→D→D→Bool
 |_,.non,.non=>true
 |_,.bl _,.bl _=>true
 |_,.int _,.int _=>true
 |_,.str _,.str _=>true
 |_,.non,.int _=>true
 |_,.int _,.non=>true
 |_,.non,.str _=>true
 |_,.str _,.non=>true
 |_,.non,.bl _=>true
 |_,.bl _,.non=>true
 |_,.int _,.str _=>true
 |_,.str _,.int _=>true
 |n+1,.tup xs,.tup ys=>(xs.zip ys).all fun p=>eqOk n p.1 p.2
 |n+1,.lst xs,.lst ys=>(xs.zip ys).all fun p=>eqOk n p.1 p.2
 |_,_,_=>false
theorem dct_cls {pins:List (Addr×Obj)}{s:zbe5}{σ:L2.St}{H:Hp}{p:Addr}{kvs:List (Key×V)} (I:Inv X pins σ H s) (h:H p=some (.dK kvs)):∃o,s.heap.get? p=some o∧o.cls=.type "dict":=by
 obtain⟨_,_,vs,_,m⟩:kvs.length≤sizeLine∧(p == sysModules)=false∧∃vs,KV kvs vs∧s.heap.DictOf (zh1 X.prog X.w) p vs:=I.hok p _ h
 exact m.typeIs
theorem pdc_cls {pins:List (Addr×Obj)}{s:zbe5}{σ:L2.St}{H:Hp}{p:Addr}{kvs:List (List Key×V)} (I:Inv X pins σ H s) (h:H p=some (.dT kvs)):∃o,s.heap.get? p=some o∧o.cls=.type "dict":=by
 obtain⟨_,_,xs,_,o,es,ep,h1,h2,_⟩:=(show ObjOk X.prog X.w H s.heap p (.dT kvs) from I.hok p _ h)
 exact⟨o,h1,h2.1⟩
theorem fdc_cls {pins:List (Addr×Obj)}{s:zbe5}{σ:L2.St}{H:Hp}{p:Addr}{kvs:List (List Key×V)}{o':Obj} (I:Inv X pins σ H s) (h:H p=some (.frz o' (.dT kvs))):∃o,s.heap.get? p=some o∧o.cls=.type "dict":=by
 obtain⟨_,_,_,xs,_,o,es,ep,h1,h2,_⟩:=(show ObjOk X.prog X.w H s.heap p (.frz o' (.dT kvs)) from I.hok p _ h)
 exact⟨o,h1,h2.1⟩
theorem zw1 {n:Nat}{H:Hp} (h:∀(d e:D) (v:V),eqOk n d e=true→Rep X.K H d v→Rep X.K H e v→d=e):∀ {ds es:List D}{vs:List V},((ds.zip es).all fun p=>eqOk n p.1 p.2)=true→Reps X.K H ds vs→Reps X.K H es vs→ds=es
 |_,_,_,_,.nil,.nil=>rfl
 |_,_,_,ok,.cons a r,.cons b q=>by
  simp only [zbh4,zbh1,zbe0]at ok
  rw [h _ _ _ ok.1 a b,zw1 h ok.2 r q]
theorem Rep.inj {pins:List (Addr×Obj)}{s:zbe5}{σ:L2.St}{H:Hp} (I:Inv X pins σ H s):∀(n:Nat) (d e:D) (v:V),eqOk n d e=true→Rep X.K H d v→Rep X.K H e v→d=e:=by
 intro n
 induction n with
 |zero =>
  intro d e v ok r q
  cases r<;>cases q<;>first | rfl | simp_all [eqOk]
 |succ n ih =>
  intro d e v ok r q
  cases r with
  |tup h1 r1 =>
   cases q with
   |tup h2 r2 =>
    have ev:=I.tuple_inj h1 h2
    subst ev
    rw [zw1 ih (by simpa [eqOk] using ok) r1 r2]
   |_=>simp [eqOk]at ok
  |lst h1 r1 =>
   cases q with
   |lst h2 r2 =>
    have ev:=I.list_inj h1 h2
    subst ev
    rw [zw1 ih (by simpa [eqOk] using ok) r1 r2]
   |_=>simp [eqOk]at ok
  |_=>cases q<;>first | rfl | simp_all [eqOk]
mutual
theorem zba5:∀ {a b:D},eqD a b=true↔a=b
 |.non,b=>by cases b<;>simp [eqD]
 |.bl _,b=>by cases b<;>simp [eqD]
 |.int _,b=>by cases b<;>simp [eqD]
 |.str _,b=>by cases b<;>simp [eqD]
 |.tup xs,b=>by
  cases b with
  |tup ys=>simp only [eqD,D.tup.injEq];exact eqDs_iff
  |_=>simp [eqD]
 |.lst xs,b=>by
  cases b with
  |lst ys=>simp only [eqD,D.lst.injEq];exact eqDs_iff
  |_=>simp [eqD]
 |.dct ks xs,b=>by
  cases b with
  |dct ks' ys=>simp only [eqD,D.dct.injEq,zbe0,decide_eq_true_eq];rw [eqDs_iff (a:=xs) (b:=ys)]
  |_=>simp [eqD]
 |.pdc a,b=>by cases b<;>simp [eqD]
 |.fdc a,b=>by cases b<;>simp [eqD]
 |.adr a,b=>by cases b<;>simp [eqD]
theorem eqDs_iff:∀ {a b:List D},eqDs a b=true↔a=b
 |[],b=>by cases b<;>simp [eqDs]
 |x::xs,b=>by
  cases b with
  |nil=>simp [eqDs]
  |cons y ys =>
   simp only [eqDs,zbe0,List.cons.injEq]
   rw [zba5 (a:=x) (b:=y),eqDs_iff (a:=xs) (b:=ys)]
end
theorem eqD_true {a b:D}:eqD a b=true↔a=b:=zba5
theorem eqD_false {a b:D}:eqD a b=false↔¬ a=b:=by rw [← eqD_true];simp
def eAt (xs ys:List D) (j:Nat):Bool:=match xs[j]?,ys[j]? with
 |some a,some b=>eqD a b
 |_,_=>true
end
end DL
namespace DL
open PySem.Spec L2
theorem PlainL.isL {h:Heap}{a:Addr}{its:Array Value} (p:PlainL h a its):h.IsList a its:=by
 obtain⟨o,n,e,c,_,d⟩:=p
 exact⟨o,e,c,n,d⟩
section
variable {X:Cx}{F:List Addr}{a b c:Expr}{es:List Expr}{fa fb fc:DE}{g g1 g2:DS}{ft fu:DT}{pos:Pos}{st:Stmt}{rest:List Stmt}{tg:Expr}{gt:TG}{kt:D→Th→Option Th}
def scD:D→Bool
 |.tup _=>false
 |.lst _=>false
 |.dct _ _=>false
 |.pdc _=>false
 |.fdc _=>false
 |.adr _=>false
 |_=>true
theorem eqV_D {K:zbd4}{H:Hp}{n:Nat}{d e:D}{v u:V} (r:Rep K H d v) (q:Rep K H e u) (s1:scD d=true) (s2:scD e=true) (ok:eqOk n d e=true):zr7 v=true∧zr7 u=true∧eqV v u=eqD d e:=by
 cases r<;>cases q<;>simp_all [scD,eqOk,zr7,eqV,eqD]
 all_goals (rw [zbj3];simp)
theorem zae4 {xs ys:List D} (h:xs.length=ys.length):(zbh8 xs.length).all (eAt xs ys)=eqD (.lst xs) (.lst ys):=by
 rw [zbj3,eqD_true,zbm9]
 constructor
 ·intro hh
  congr 1
  apply List.ext_getElem h
  intro i h1 h2
  have:=hh i (zbi8.mpr h1)
  simp only [eAt,zbe1 h1,zbe1 h2]at this
  exact eqD_true.mp this
 ·intro hh i hi
  injection hh with hh
  subst hh
  simp only [eAt]
  split
  ·rename_i a b z1 z2
   rw [z1]at z2;cases z2
   exact eqD_true.mpr rfl
  ·rfl
theorem zae3 {xs ys:List D}:((zbh8 (min xs.length ys.length)).all (eAt xs ys)&&xs.length == ys.length)=eqD (.tup xs) (.tup ys):=by
 by_cases h:xs.length=ys.length
 ·have e:min xs.length ys.length=xs.length:=by lia
  rw [e,zae4 h,beq_iff_eq.mpr h,zbl7]
  rw [zbj3,eqD_true,eqD_true]
  simp
 ·have e:(xs.length == ys.length)=false:=by simpa using h
  rw [e,Bool.and_false]
  symm
  rw [eqD_false]
  intro z
  injection z with z
  exact h (by rw [z])
theorem zai7 {n:Nat}{xs ys:List D} (h:((xs.zip ys).all fun p=>eqOk n p.1 p.2)=true) {j:Nat}{x y:D} (hx:xs[j]?=some x) (hy:ys[j]?=some y):eqOk n x y=true:=by
 rw [zbm9]at h
 refine h (x,y) (zbm5 (i:=j) ?_)
 rw [List.getElem?_zip_eq_some]
 exact⟨hx,hy⟩
theorem zag1 {A:Around}:A.in1.units=A.units+1:=rfl
theorem Vals.getL {vs:List V}{us:List Value} (h:Vals vs us) {j:Nat} (hj:j<us.toArray.size):∃v,vs[j]?=some v∧RelV v us.toArray[j]:=by
 have hj':j<vs.length:=by rw [h.length];simpa using hj
 obtain⟨u,e,r⟩:=Vals.get h (zbe1 hj')
 refine⟨_,zbe1 hj',?_⟩
 have:us.toArray[j]=u:=by
  have hj2:j<us.length:=by simpa using hj
  have:=zbe1 hj2
  rw [e]at this
  simpa using (Option.some.inj this).symm
 rw [this];exact r
theorem eqAt_D {pins:List (Addr×Obj)}{s:zbe5}{σ:L2.St}{H:Hp} (I:Inv X pins σ H s):∀(n:Nat) (A:Around) (d e:D) (v u:V) (y z:Value),A.units+n<cLine→eqOk n d e=true→Rep X.K H d v→Rep X.K H e u→RelV v y→RelV u z→SeqAt.EqAt A s y z (eqD d e):=by
 intro n
 induction n with
 |zero =>
  intro A d e v u y z hu ok r q ry rz
  have s1:scD d=true:=by cases d<;>cases e<;>simp_all [scD,eqOk]
  have s2:scD e=true:=by cases d<;>cases e<;>simp_all [scD,eqOk]
  obtain⟨f1,f2,ee⟩:=eqV_D r q s1 s2 ok
  rw [← ee]
  exact zba6 ry rz f1 f2
 |succ n ih =>
  intro A d e v u y z hu ok r q ry rz
  by_cases s1:scD d=true
  ·have s2:scD e=true:=by cases d<;>cases e<;>simp_all [scD,eqOk]
   obtain⟨f1,f2,ee⟩:=eqV_D r q s1 s2 ok
   rw [← ee]
   exact zba6 ry rz f1 f2
  ·have hu':A.in1.units+n<cLine:=by rw [zag1];lia
   have hu0:A.units<cLine:=by lia
   cases r with
   |@tup xs p vs h1 h2 =>
    cases q with
    |@tup ys p' ws h1' h2' =>
     cases ry;cases rz
     by_cases z:p=p'
     ·subst z
      have e:=Rep.inj I _ _ _ _ ok (.tup h1 h2) (.tup h1' h2')
      rw [eqD_true.mpr e]
      exact SeqAt.EqAt.same _
     ·obtain⟨its,w1,w2,_⟩:=I.tuple h1
      obtain⟨its',w1',w2',_⟩:=I.tuple h1'
      refine SeqAt.EqAt.of_refs z ?_
      have k:=SeqAt.RcAt.tuples (A:=A) (e:=eAt xs ys) w2 w2' hu0 (fun j g1 g2=>by
       obtain⟨v1,a1,a2⟩:=Vals.getL w1 g1
       obtain⟨v2,b1,b2⟩:=Vals.getL w1' g2
       obtain⟨x1,c1,c2⟩:=h2.getV a1
       obtain⟨x2,d1,d2⟩:=h2'.getV b1
       have:=ih A.in1 x1 x2 v1 v2 _ _ hu' (zai7 (by simpa [eqOk] using ok) c1 d1) c2 d2 a2 b2
       have ee:eAt xs ys j=eqD x1 x2:=by simp only [eAt,c1,d1]
       rw [ee];exact this)
      have l1:its.toArray.size=xs.length:=by have:=w1.length;have:=h2.length;simp;lia
      have l2:its'.toArray.size=ys.length:=by have:=w1'.length;have:=h2'.length;simp;lia
      rw [l1,l2,zae3]at k
      exact k
    |_=>simp_all [eqOk]
   |@lst xs p vs h1 h2 =>
    cases q with
    |@lst ys p' ws h1' h2' =>
     cases ry;cases rz
     by_cases z:p=p'
     ·subst z
      have e:=Rep.inj I _ _ _ _ ok (.lst h1 h2) (.lst h1' h2')
      rw [eqD_true.mpr e]
      exact SeqAt.EqAt.same _
     ·obtain⟨its,w1,w2,_⟩:=I.list h1
      obtain⟨its',w1',w2',_⟩:=I.list h1'
      refine SeqAt.EqAt.of_refs z ?_
      have l1:its.toArray.size=xs.length:=by have:=w1.length;have:=h2.length;simp;lia
      have l2:its'.toArray.size=ys.length:=by have:=w1'.length;have:=h2'.length;simp;lia
      by_cases hl:xs.length=ys.length
      ·have k:=SeqAt.RcAt.lists (A:=A) (e:=eAt xs ys) (PlainL.isL w2) (PlainL.isL w2') (by rw [l1,l2];exact hl) hu0 (fun j g1 g2=>by
        obtain⟨v1,a1,a2⟩:=Vals.getL w1 g1
        obtain⟨v2,b1,b2⟩:=Vals.getL w1' g2
        obtain⟨x1,c1,c2⟩:=h2.getV a1
        obtain⟨x2,d1,d2⟩:=h2'.getV b1
        have:=ih A.in1 x1 x2 v1 v2 _ _ hu' (zai7 (by simpa [eqOk] using ok) c1 d1) c2 d2 a2 b2
        have ee:eAt xs ys j=eqD x1 x2:=by simp only [eAt,c1,d1]
        rw [ee];exact this)
       rw [l1,zae4 hl]at k
       exact k
      ·have ee:eqD (.lst xs) (.lst ys)=false:=eqD_false.mpr fun z=>hl (by injection z with z;rw [z])
       rw [ee]
       exact SeqAt.RcAt.lists_lengths (PlainL.isL w2) (PlainL.isL w2') (by rw [l1,l2];simpa using hl) hu0
    |_=>simp_all [eqOk]
   |dct=>exact absurd ok (by cases e<;>simp [eqOk])
   |pdc=>exact absurd ok (by cases e<;>simp [eqOk])
   |fdc=>exact absurd ok (by cases e<;>simp [eqOk])
   |adr=>exact absurd ok (by cases e<;>simp [eqOk])
   |_=>simp_all [scD]
theorem zan7 {pins:List (Addr×Obj)}{s:zbe5}{σ:L2.St}{H:Hp} (I:Inv X pins σ H s) {n:Nat}{A:Around}{xs ys:List D}{vs ws:List V}{its its':List Value} (hu:A.units+n+1<cLine) (ok:((xs.zip ys).all fun p=>eqOk n p.1 p.2)=true)
  (h2:Reps X.K H xs vs) (h2':Reps X.K H ys ws) (w1:Vals vs its) (w1':Vals ws its'):∀j (g1:j<its.toArray.size) (g2:j<its'.toArray.size),SeqAt.EqAt A.in1 s its.toArray[j] its'.toArray[j] (eAt xs ys j):=fun j g1 g2=>by
 obtain⟨v1,a1,a2⟩:=Vals.getL w1 g1
 obtain⟨v2,b1,b2⟩:=Vals.getL w1' g2
 obtain⟨x1,c1,c2⟩:=h2.getV a1
 obtain⟨x2,d1,d2⟩:=h2'.getV b1
 have:=eqAt_D I n A.in1 x1 x2 v1 v2 _ _ (by rw [zag1];lia) (zai7 ok c1 d1) c2 d2 a2 b2
 have ee:eAt xs ys j=eqD x1 x2:=by simp only [eAt,c1,d1]
 rw [ee];exact this
def kEq:Ev→Ev→Option Ev:=fun r1 r2=>if eqOk 6 r1.d r2.d then some (.cl (.bl (eqD r1.d r2.d))) else none
def kNe:Ev→Ev→Option Ev:=fun r1 r2=>if eqOk 6 r1.d r2.d then some (.cl (.bl (!eqD r1.d r2.d))) else none
theorem scal_D {K:zbd4}{H:Hp}{n:Nat}{d e:D}{v u:V} (r:Rep K H d v) (q:Rep K H e u) (s1:scD d=true) (ok:eqOk n d e=true):scal v u=true∧decide (v=u)=eqD d e:=by
 cases r<;>cases q<;>simp_all [scD,eqOk,scal,eqD]
theorem zp6 (hu:X.A.units+64<cLine):OpD X F (compareOp .Eq) kEq:=by
 intro pins s σ H0 H A x y v u Q r1 r2 r I m g0 rx ry q1 q2 e hq
 unfold kEq at e
 split at e
 case isFalse=>cases e
 rename_i ok
 cases e
 have p1:=q1.full
 have p2:=q2.full
 by_cases s1:scD r1.d=true
 ·obtain⟨a1,a2⟩:=scal_D p1 p2 s1 ok
  exact op_eq pins s σ H x y v u Q I rx ry ⟨a1,by rw [a2];exact hq _ H (Same.refl H) (.bl _)⟩
 ·generalize r1.d=d1 at *
  generalize r2.d=d2 at *
  have hu0:X.A.units<cLine:=by lia
  cases p1 with
  |@tup xs p vs h1 h2 =>
   cases p2 with
   |@tup ys p' ws h1' h2' =>
    cases rx;cases ry
    obtain⟨its,w1,w2,_⟩:=I.tuple h1
    obtain⟨its',w1',w2',_⟩:=I.tuple h1'
    have l1:its.toArray.size=xs.length:=by have:=w1.length;have:=h2.length;simp;lia
    have l2:its'.toArray.size=ys.length:=by have:=w1'.length;have:=h2'.length;simp;lia
    refine SeqAt.eq_tupleAt w2 w2' hu0 (zan7 I (n:=5) (by lia) (by simpa [eqOk] using ok) h2 h2' w1 w1') ?_
    rw [l1,l2,zae3]
    exact⟨.bl _,H,I,rfl,hq _ H (Same.refl H) (.bl _)⟩
   |_=>simp_all [eqOk]
  |@lst xs p vs h1 h2 =>
   cases p2 with
   |@lst ys p' ws h1' h2' =>
    cases rx;cases ry
    obtain⟨its,w1,w2,_⟩:=I.list h1
    obtain⟨its',w1',w2',_⟩:=I.list h1'
    have l1:its.toArray.size=xs.length:=by have:=w1.length;have:=h2.length;simp;lia
    have l2:its'.toArray.size=ys.length:=by have:=w1'.length;have:=h2'.length;simp;lia
    by_cases hl:xs.length=ys.length
    ·refine SeqAt.eq_listAt (PlainL.isL w2) (PlainL.isL w2') (by rw [l1,l2];exact hl) hu0 (zan7 I (n:=5) (by lia) (by simpa [eqOk] using ok) h2 h2' w1 w1') ?_
     rw [l1,zae4 hl]
     exact⟨.bl _,H,I,rfl,hq _ H (Same.refl H) (.bl _)⟩
    ·have ee:eqD (.lst xs) (.lst ys)=false:=eqD_false.mpr fun z=>hl (by injection z with z;rw [z])
     rw [ee]at hq
     exact SeqAt.eq_list_lengthsAt (PlainL.isL w2) (PlainL.isL w2') (by rw [l1,l2];simpa using hl) hu0 ⟨.bl _,H,I,rfl,hq _ H (Same.refl H) (.bl _)⟩
   |_=>simp_all [eqOk]
  |dct=>exact absurd ok (by cases d2<;>simp [eqOk])
  |pdc=>exact absurd ok (by cases d2<;>simp [eqOk])
  |fdc=>exact absurd ok (by cases d2<;>simp [eqOk])
  |adr=>exact absurd ok (by cases d2<;>simp [eqOk])
  |_=>simp_all [scD]
theorem zax4 (hu:X.A.units+64<cLine):OpD X F (compareOp .NotEq) kNe:=by
 intro pins s σ H0 H A x y v u Q r1 r2 r I m g0 rx ry q1 q2 e hq
 unfold kNe at e
 split at e
 case isFalse=>cases e
 rename_i ok
 cases e
 have p1:=q1.full
 have p2:=q2.full
 by_cases s1:scD r1.d=true
 ·obtain⟨a1,a2⟩:=scal_D p1 p2 s1 ok
  exact op_ne pins s σ H x y v u Q I rx ry ⟨a1,by rw [a2];exact hq _ H (Same.refl H) (.bl _)⟩
 ·generalize r1.d=d1 at *
  generalize r2.d=d2 at *
  have hu0:X.A.units<cLine:=by lia
  cases p1 with
  |@tup xs p vs h1 h2 =>
   cases p2 with
   |@tup ys p' ws h1' h2' =>
    cases rx;cases ry
    obtain⟨its,w1,w2,_⟩:=I.tuple h1
    obtain⟨its',w1',w2',_⟩:=I.tuple h1'
    have l1:its.toArray.size=xs.length:=by have:=w1.length;have:=h2.length;simp;lia
    have l2:its'.toArray.size=ys.length:=by have:=w1'.length;have:=h2'.length;simp;lia
    have k:=SeqAt.RcNeAt.tuples (A:=X.A) w2 w2' hu0 (zan7 I (n:=5) (by lia) (by simpa [eqOk] using ok) h2 h2' w1 w1')
    rw [l1,l2,zae3]at k
    exact k _ _ _ _ ⟨.bl _,H,I,rfl,hq _ H (Same.refl H) (.bl _)⟩
   |_=>simp_all [eqOk]
  |@lst xs p vs h1 h2 =>
   cases p2 with
   |@lst ys p' ws h1' h2' =>
    cases rx;cases ry
    obtain⟨its,w1,w2,_⟩:=I.list h1
    obtain⟨its',w1',w2',_⟩:=I.list h1'
    have l1:its.toArray.size=xs.length:=by have:=w1.length;have:=h2.length;simp;lia
    have l2:its'.toArray.size=ys.length:=by have:=w1'.length;have:=h2'.length;simp;lia
    by_cases hl:xs.length=ys.length
    ·have k:=SeqAt.RcNeAt.lists (A:=X.A) (PlainL.isL w2) (PlainL.isL w2') (by rw [l1,l2];exact hl) hu0 (zan7 I (n:=5) (by lia) (by simpa [eqOk] using ok) h2 h2' w1 w1')
     rw [l1,zae4 hl]at k
     exact k _ _ _ _ ⟨.bl _,H,I,rfl,hq _ H (Same.refl H) (.bl _)⟩
    ·have ee:eqD (.lst xs) (.lst ys)=false:=eqD_false.mpr fun z=>hl (by injection z with z;rw [z])
     rw [ee]at hq
     exact SeqAt.RcNeAt.lists_lengths (A:=X.A) (PlainL.isL w2) (PlainL.isL w2') (by rw [l1,l2];simpa using hl) hu0 _ _ _ _ ⟨.bl _,H,I,rfl,hq _ H (Same.refl H) (.bl _)⟩
   |_=>simp_all [eqOk]
  |dct=>exact absurd ok (by cases d2<;>simp [eqOk])
  |pdc=>exact absurd ok (by cases d2<;>simp [eqOk])
  |fdc=>exact absurd ok (by cases d2<;>simp [eqOk])
  |adr=>exact absurd ok (by cases d2<;>simp [eqOk])
  |_=>simp_all [scD]
noncomputable def tyD:D→String
 |.non => "NoneType"
 |.bl _ => "bool"
 |.int _ => "int"
 |.str _ => "str"
 |.tup _ => "tuple"
 |.lst _ => "list"
 |.dct _ _ => "dict"
 |.pdc _ => "dict"
 |.fdc _ => "dict"
 |.adr _ => "NoneType"
def isiT (d:D) (T:String):Bool:=tyD d == T||(tyD d == "bool"&&T == "int")
def isA:D→Bool
 |.adr _=>true
 |_=>false
def dIsi (T:String) (f:DE):DE:=fun t=>(f t).bind fun r=>if isA r.d then none else some (.cl (.bl (isiT r.d T)))
def IsiOk (K:zbd4) (T:String):Prop := ∀d:D,PySem.W.kitOne K (.type (tyD d)) (.type T)=some (isiT d T)
theorem zak7 {T:String}{x:Str}{p p2:Pos} (ok:IsiOk X.K T) (ha:PE X a (dE X.K F fa)) (hg:Gl X "isinstance") (hm:X.mg "isinstance"=none) (hgT:Gl X x) (hmT:X.mg x=none) (hvT:bootBuiltins x=some (.type T)) (hnT:x≠"__name__":=by decide) (hdT:(x ==("__debug__":Str))=false:=by decide)
  (he:zbe7 (a::[Expr.Name x p2]) X.env=(false,eval a X.env)::zbe7 [.Name x p2] X.env:=by rfl) (he2:zbe7 [Expr.Name x p2] X.env=[(false,eval (.Name x p2) X.env)]:=by rfl) (hpl:(zbl0 pos (zbe7 [Expr.Name x p2] X.env)).any (·.1)=false:=by rfl) :
  PE X (.Call (.Name "isinstance" p) [a,.Name x p2] [] pos) (dE X.K F (dIsi T fa)):=by
 have rule:zs8 X (.builtin "isinstance") (fun xs H Q => ∃v d,xs=[v,.ty T]∧isA d=false∧Rep X.K H d v∧Q (.bl (isiT d T)) H):=by
  intro pins s σ H xs us Q I r h
  obtain⟨v,d,rfl,na,rp,hq⟩:=h
  obtain⟨u,w',rfl,r1,r2⟩:=vals2 r
  cases (show w'=Value.type T from r2)
  have fin:∀tk,EP X pins σ Q (.bool (isiT d T)) { s with toks:=tk }:=fun tk=>⟨.bl _,H,I.tok tk,rfl,hq⟩
  have e:=ok d
  cases rp with
  |non=>cases (show u=Value.none from r1);exact zbi5 PySem.W.kitx_none I.kIn True.intro e (fun z=>nomatch z) fin
  |bl y=>cases (show u=Value.bool y from r1);exact zbi5 PySem.W.kitx_bool I.kIn True.intro e (fun z=>nomatch z) fin
  |int i=>obtain⟨t,q⟩:=(show ∃t,u=Value.int i t from r1);cases q;exact zbi5 PySem.W.kitx_int I.kIn True.intro e (fun z=>nomatch z) fin
  |str y=>obtain⟨t,q⟩:=(show ∃t,u=Value.str y t from r1);cases q;exact zbi5 PySem.W.kitx_str I.kIn True.intro e (fun z=>nomatch z) fin
  |@tup _ p _ h1 h2 =>
   cases (show u=Value.ref p from r1)
   obtain⟨its,_,⟨o,e1,c1,_⟩,_⟩:=I.tuple h1
   exact zbi5 PySem.W.kitx_tuple I.kIn ⟨o,e1,c1⟩ e (fun z=>nomatch z) fin
  |@lst _ p _ h1 h2 =>
   cases (show u=Value.ref p from r1)
   obtain⟨its,_,⟨o,n,e1,c1,_⟩,_⟩:=I.list h1
   exact zbi5 PySem.W.kitx_list I.kIn ⟨o,e1,c1⟩ e (fun z=>nomatch z) fin
  |@dct _ _ p _ _ h1 h2 =>
   cases (show u=Value.ref p from r1)
   exact zbi5 zbo2 I.kIn (dct_cls I h1) e (fun z=>nomatch z) fin
  |@pdc _ p h1 =>
   cases (show u=Value.ref p from r1)
   exact zbi5 zbo2 I.kIn (pdc_cls I h1) e (fun z=>nomatch z) fin
  |@fdc _ p _ h1 =>
   cases (show u=Value.ref p from r1)
   exact zbi5 zbo2 I.kIn (fdc_cls I h1) e (fun z=>nomatch z) fin
  |adr _=>cases na
 refine PE.imp (pe_callB rule hg hm boot_isinstance (zf7 ha (zf7 (pe_bltn (v:=.ty T) hgT hmT hvT rfl hnT hdT) zl3 he2) he) (by decide) (by decide) he hpl) ?_
 rintro σ H Q ⟨A,t,r,R,e,h⟩
 unfold dIsi at e
 cases e1:fa t with
 |none=>rw [e1]at e;cases e
 |some r1 =>
  rw [e1]at e
  simp only [zbd9]at e
  split at e
  case isTrue=>cases e
  rename_i na
  cases e
  exact⟨A,t,r1,R,e1,fun v H' gs q=>⟨v,r1.d,rfl,by simpa using na,q.full,h _ H' gs (.bl _)⟩⟩
end
def zz5 (N:List Str) (ds:List D):Th:=ds.map Sl.val++zbe8 (N.length - ds.length) Sl.no
theorem RSl.no_all {K:zbd4}{H0 H:Hp}:∀n,RSl K H0 H (zbe8 n Sl.no) (zbe8 n none) []
 |0=>.nil
 |n+1=>.no (RSl.no_all n)
theorem RSl.start {K:zbd4}{H0 H:Hp}{t:Th}{σ:L2.St} (r0:RSl K H0 H t σ []):∀ {ds:List D}{vs:List V},Reps K H0 ds vs→RSl K H0 H (ds.map Sl.val++t) (vs.map some++σ) []
 |_,_,.nil=>r0
 |_,_,.cons h r=>.val h (RSl.start r0 r)
def zp5:Out→Option Ev
 |.rt r=>some r
 |.nx _=>some (.cl .non)
 |_=>none
theorem zn4 {P:Program}{w:World}{K:zbd4}{mg:Str→Option Value}{base:BHeap}{x qual:Str}{st:Stmt}{f:Addr}{fd:FuncData}{N ps:List Str}{k:Nat}{G:List D→Option Ev} (Fn:L2.Fun K x qual st f fd) (S:FnScope N ps (zb4 st))
  (hlen:∀ds r,G ds=some r→ds.length=ps.length) (g:DS) (hG:∀ds r,G ds=some r→∃o,g (zz5 N ds)=some o∧zp5 o=some r)
  (hbody:∀(cdv:Value) (A:Around) (outer:List Env) (s:zbe5) (H:Hp) (E:XK) (F:List Addr),Room k (A.deeper (envOfC qual (zb4 st) s.heap.objs.size f cdv)) →
   PSs (cxOf CX0 P w K mg base N qual (zb4 st) f cdv A outer s H E).nox (zh3 st) (dS K F g)):FnOk P w K mg base CX0 (k+1) f fd ps (spD K G):=by
 refine Fn.ok S (fun vs H Q E h=>?_) (fun cdv A outer s H vs Q E hr h=>?_)
 ·obtain⟨Fo,ds,r,_,hr,hg,_⟩:=h
  rw [hr.length];exact hlen ds r hg
 ·obtain⟨Fo,ds,r,hl,hr',hg,cont⟩:=h
  obtain⟨o,ho,hoe⟩:=hG ds r hg
  refine⟨_,hbody cdv A outer s H E Fo hr,zbb3 (A:=[]) (t:=zz5 N ds) ⟨hl,zbj1,fun p hp=>(by cases hp),?_⟩ ho ?_⟩
  ·unfold zz5 L2.start
   rw [hr'.length]
   exact RSl.start (RSl.no_all _) hr'
  ·have sm:∀ {A' H'},Gr [] H A' H'→Same H H':=fun g b o q=>g.kp b o (by simp) q
   cases o with
   |nx t' =>
    cases hoe
    exact fun σ' H' A' g' R'=>cont .non H' (sm g') .non
   |bk t'=>cases hoe
   |ct t'=>cases hoe
   |rt r' =>
    cases hoe
    intro v H' A' g' q
    refine cont v H' (sm g') ?_
    cases r with
    |cl d=>exact q
    |tm d=>exact q
    |nw xs =>
     obtain⟨p,vs',rfl,h1,h2,h3,h4⟩:=q
     rcases h1 with h1 | h1
     ·cases h1
     ·exact⟨p,vs',rfl,h1,h3,h4⟩
    |dn d =>
     obtain⟨B,h1,h2,h3⟩:=q
     exact⟨B,h1,fun b hb=>by rcases (h2 b hb).1 with z | z;cases z;exact z,h3⟩
end DL
namespace DL
open PySem.Spec L2
structure Cal (P:Program) (w:World) (K:zbd4) (mg:Str→Option Value) (base:BHeap) (x:Str) (k:Nat) (G:List D→Option Ev):Prop where
 ex:∃(a:Addr) (fd:FuncData) (ps:List Str),mg x=some (.ref a)∧zbh6 K (.ref a)=true∧L2.Binds K fd ps []∧FnOk P w K mg base CX0 k a fd ps (spD K G)
section
variable {X:Cx}{F:List Addr}{a b c:Expr}{es:List Expr}{fa fb fc:DE}{ga:DA}{pos:Pos}
theorem ze9 {k:Nat}{G:List D→Option Ev}{x:Str}{p:Pos} (c:Cal X.prog X.w X.K X.mg X.base x k G) (hr:Room k X.A) (ha:PA X (a::es) (dA X.K F ga)) (hg:Gl X x:=by rfl) (hdb:(x ==("__debug__":Str))=false:=by decide)
  (he:zbe7 (a::es) X.env=(false,eval a X.env)::zbe7 es X.env:=by rfl) (hpl:(zbl0 pos (zbe7 es X.env)).any (·.1)=false:=by rfl):PE X (.Call (.Name x p) (a::es) [] pos) (dE X.K F (dT1 (zf0 G) ga)):=by
 obtain⟨f,fd,ps,h1,h2,h3,h4⟩:=c.ex
 exact ped_call h4 hr hg h1 h2 h3 ha hdb he hpl
end
structure Df (K:zbd4) (mg:Str→Option Value) (x:Str) (st:Stmt) (ps:List Str) (a:Addr) (fd:FuncData):Prop where
 fn:L2.Fun K x x st a fd
 mgx:mg x=some (.ref a)
 bd:L2.Binds K fd ps []
theorem Df.cal {P:Program}{w:World}{K:zbd4}{mg:Str→Option Value}{base:BHeap}{x:Str}{st:Stmt}{ps:List Str}{a:Addr}{fd:FuncData}{k:Nat}{G:List D→Option Ev} (d:Df K mg x st ps a fd) (h:FnOk P w K mg base CX0 k a fd ps (spD K G)):Cal P w K mg base x k G :=
 ⟨a,fd,ps,d.mgx,d.fn.kp,d.bd,h⟩
theorem isi_int {K:zbd4}:IsiOk K "int":=fun d=>by cases d<;>rfl
theorem zaq0 {K:zbd4}:IsiOk K "bool":=fun d=>by cases d<;>rfl
theorem bt_int:bootBuiltins "int"=some (.type "int"):=by decide +kernel
theorem zbc3:bootBuiltins "bool"=some (.type "bool"):=by decide +kernel
theorem zae1:bootBuiltins "list"=some (.type "list"):=by decide +kernel
end DL
namespace DL
open PySem.Spec L2
theorem cut1 {n:Nat}:∀ {us:List Value},us.length=n+1→∃a t,us=a::t∧t.length=n
 |a::t,h=>⟨a,t,rfl,Nat.succ.inj h⟩
theorem binds1 {K:zbd4}{x qual:Str}{st:Stmt}{f:Addr}{fd:FuncData}{p0:Str} (F:L2.Fun K x qual st f fd) (h:∀(kV doc pm:Value) (an:Option Addr) (cdv ct:Value),∀a0:Value,bindArgs (zbi0 x qual (zj9 st) (zh3 st) (zb4 st) .none kV doc pm an cdv ct) ⟨[a0],[]⟩=pure [(p0,a0)]):Binds K fd [p0] [] :=
 F.binds fun kV doc pm an cdv ct u0 h0=>by
  obtain⟨a0,u1,rfl,h1⟩:=cut1 h0
  cases zbi7.mp h1
  exact h kV doc pm an cdv ct a0
theorem zm6 {K:zbd4}{x qual:Str}{st:Stmt}{f:Addr}{fd:FuncData}{p0 p1:Str} (F:L2.Fun K x qual st f fd) (h:∀(kV doc pm:Value) (an:Option Addr) (cdv ct:Value),∀a0 a1:Value,bindArgs (zbi0 x qual (zj9 st) (zh3 st) (zb4 st) .none kV doc pm an cdv ct) ⟨[a0,a1],[]⟩=pure [(p0,a0),(p1,a1)]):Binds K fd [p0,p1] [] :=
 F.binds fun kV doc pm an cdv ct u0 h0=>by
  obtain⟨a0,u1,rfl,h1⟩:=cut1 h0
  obtain⟨a1,u2,rfl,h2⟩:=cut1 h1
  cases zbi7.mp h2
  exact h kV doc pm an cdv ct a0 a1
theorem binds3 {K:zbd4}{x qual:Str}{st:Stmt}{f:Addr}{fd:FuncData}{p0 p1 p2:Str} (F:L2.Fun K x qual st f fd) (h:∀(kV doc pm:Value) (an:Option Addr) (cdv ct:Value),∀a0 a1 a2:Value,bindArgs (zbi0 x qual (zj9 st) (zh3 st) (zb4 st) .none kV doc pm an cdv ct) ⟨[a0,a1,a2],[]⟩=pure [(p0,a0),(p1,a1),(p2,a2)]):Binds K fd [p0,p1,p2] [] :=
 F.binds fun kV doc pm an cdv ct u0 h0=>by
  obtain⟨a0,u1,rfl,h1⟩:=cut1 h0
  obtain⟨a1,u2,rfl,h2⟩:=cut1 h1
  obtain⟨a2,u3,rfl,h3⟩:=cut1 h2
  cases zbi7.mp h3
  exact h kV doc pm an cdv ct a0 a1 a2
theorem binds4 {K:zbd4}{x qual:Str}{st:Stmt}{f:Addr}{fd:FuncData}{p0 p1 p2 p3:Str} (F:L2.Fun K x qual st f fd) (h:∀(kV doc pm:Value) (an:Option Addr) (cdv ct:Value),∀a0 a1 a2 a3:Value,bindArgs (zbi0 x qual (zj9 st) (zh3 st) (zb4 st) .none kV doc pm an cdv ct) ⟨[a0,a1,a2,a3],[]⟩=pure [(p0,a0),(p1,a1),(p2,a2),(p3,a3)]):Binds K fd [p0,p1,p2,p3] [] :=
 F.binds fun kV doc pm an cdv ct u0 h0=>by
  obtain⟨a0,u1,rfl,h1⟩:=cut1 h0
  obtain⟨a1,u2,rfl,h2⟩:=cut1 h1
  obtain⟨a2,u3,rfl,h3⟩:=cut1 h2
  obtain⟨a3,u4,rfl,h4⟩:=cut1 h3
  cases zbi7.mp h4
  exact h kV doc pm an cdv ct a0 a1 a2 a3
theorem binds5 {K:zbd4}{x qual:Str}{st:Stmt}{f:Addr}{fd:FuncData}{p0 p1 p2 p3 p4:Str} (F:L2.Fun K x qual st f fd) (h:∀(kV doc pm:Value) (an:Option Addr) (cdv ct:Value),∀a0 a1 a2 a3 a4:Value,bindArgs (zbi0 x qual (zj9 st) (zh3 st) (zb4 st) .none kV doc pm an cdv ct) ⟨[a0,a1,a2,a3,a4],[]⟩=pure [(p0,a0),(p1,a1),(p2,a2),(p3,a3),(p4,a4)]):Binds K fd [p0,p1,p2,p3,p4] [] :=
 F.binds fun kV doc pm an cdv ct u0 h0=>by
  obtain⟨a0,u1,rfl,h1⟩:=cut1 h0
  obtain⟨a1,u2,rfl,h2⟩:=cut1 h1
  obtain⟨a2,u3,rfl,h3⟩:=cut1 h2
  obtain⟨a3,u4,rfl,h4⟩:=cut1 h3
  obtain⟨a4,u5,rfl,h5⟩:=cut1 h4
  cases zbi7.mp h5
  exact h kV doc pm an cdv ct a0 a1 a2 a3 a4
inductive Hv (K:zbd4) (x:Str) (st:Stmt) (f:Addr):Prop
 |mk {od an:Option Addr}{sl:Array (Option Value)}{oc kV dc pm cd ct:Value} (a:zbh5 K mainGlobals x=some (some (.ref f))) (l:K.lookup f=some ⟨oc,od,.func (zbi0 x x (zj9 st) (zh3 st) (zb4 st) .none kV dc pm an cd ct),sl⟩) (c:zbn8 K cd x=true) (k:zbh6 K (.ref f)=true):Hv K x st f
theorem Hv.fn {K:zbd4}{x:Str}{st:Stmt}{f:Addr} (h:Hv K x st f):∃fd,L2.Fun K x x st f fd:=by
 cases h with
 |mk a l c k=>exact⟨_,fun_mk l c k⟩
theorem Hv.mg {K:zbd4}{x:Str}{st:Stmt}{f:Addr}{hp:Heap}{mg:Str→Option Value} (h:Hv K x st f) (X:K.In hp) (G:hp.Ns mainGlobals mg):mg x=some (.ref f):=by
 cases h with
 |mk a l c k=>exact PySem.W.mg_of X G a
theorem zm7 {N P:List Str}{sc:Scope} (h1:sc.kind=.function) (h2:sc.isCoroutine=false) (h3:sc.isGenerator=false) (h5:N.take P.length=P) (h:(decide N.Nodup&&(decide (∀x∈P,sc.names.lookup x=some .local∨sc.names.lookup x=some .cell)&&decide (∀y∈sc.names,y.2≠.free)))=true):FnScope N P sc:=by
 rw [zbe0,zbe0,decide_eq_true_eq,decide_eq_true_eq,decide_eq_true_eq]at h
 exact⟨h1,h2,h3,h.1,h5,h.2.1,h.2.2⟩
theorem Hv.bt {K:zbd4}{x:Str}{st:Stmt}{f:Addr}{fd:FuncData}{p:Str} (F:L2.Fun K x x st f fd) (h:∀(kV doc pm:Value) (an:Option Addr) (cdv ct:Value) (v:Value),bindArgs (zbi0 x x (zj9 st) (zh3 st) (zb4 st) .none kV doc pm an cdv ct) ⟨[v],[]⟩=pure [(p,v)]) (s:zbe5) (v:Value):BindsTo s fd ⟨[v],[]⟩ [(p,v)]:=by
 obtain⟨oc,od,kV,doc,pm,an,cdv,ct,osl,rfl,lk,hcd⟩:=F.ex
 exact .of_eq (h ..)
def locB (sc:Scope) (x:Str):Bool:=match sc.names.lookup x with
 |some .local=>true
 |some .cell=>true
 |_=>false
theorem zb3 {sc:Scope}{x:Str} (h:locB sc x=true):L2.Loc sc x:=by
 unfold locB at h
 unfold L2.Loc
 cases e:sc.names.lookup x with
 |none=>rw [e]at h;cases h
 |some k=>rw [e]at h;cases k<;>first | exact .inl rfl | exact .inr rfl | cases h
end DL
namespace L2
open PySem.Spec
section
variable {X:Cx}{pins:List (Addr×Obj)}{σ:L2.St}{H:Hp}{s:zbe5}{h':Heap}
theorem Inv.turnedNew {t':Nat}{fp:List Addr}{a:Addr}{o:HO} (I:Inv X pins σ H s) (k:∀b u,b∉fp→s.heap.get? b=some u→h'.get? b=some u) (hf:∀b∈fp,FpOk X pins H b) (hp:s.heap.objs.size≤a)
  (new:ObjOk X.prog X.w (upd H a o) h' a o):Inv X pins σ (upd H a o) { s with heap:=h',toks:=t' }:=by
 have ha:H a=none:=I.hok.fresh hp
 have sm:∀b u,H b=some u→upd H a o b=some u:=fun b u e=>by rw [zc8 (fun z=>by rw [z,ha]at e;cases e)];exact e
 have nfp:∀b u,H b=some u→b∉fp:=fun b u e z=>by rw [(hf b z).1]at e;cases e
 refine I.step (g':=s.gens) (d':=s.drawn) (ch:=fp) (fun b hb=>?_) (fun b u _ _ hc e _=>k b u hc e) (fun b u _ _ hc e _=>⟨u.slots,k b u hc e⟩) (fun b u _ e n=>?_)
  (fun b u hc e=>⟨u,k b u hc e⟩) (fun b xs e=>sm b _ e) (fun b q u e=>sm b _ e) (fun b ps e=>sm b _ e) (fun m hm=>?_) (fun b u e=>?_) I.bare
 ·obtain⟨f0,f1,f2,f3,f4,f5⟩:=hf b hb
  exact⟨f3,f1,f4,f5⟩
 ·rw [zc8 (zbg0 (zbf0 (zbe6 e) hp))];exact n
 ·obtain⟨q,es,ep,ho,r⟩:=hm
  exact⟨q,es,ep,k _ q (fun z=>(hf _ z).2.1 rfl) ho,r⟩
 ·by_cases z:b=a
  ·subst z
   rw [zb9]at e
   cases e
   exact new
  ·rw [zc8 z]at e
   refine (I.hok b u e).stay (fun c v hc q=>k c v ?_ q) (fun c q=>sm c _ q) (fun c xs q=>sm c _ q) fun c o u q=>sm c _ q
   rcases hc with w | w
   ·rw [w];exact nfp b u e
   ·exact nfp c _ w
theorem Inv.turnedL {t':Nat}{fp:List Addr} (I:Inv X pins σ H s) (k:∀b u,b∉fp→s.heap.get? b=some u→h'.get? b=some u) (hf:∀b∈fp,FpOk X pins H b):Inv X pins σ H { s with heap:=h',toks:=t' }:=by
 have nfp:∀b u,H b=some u→b∉fp:=fun b u e z=>by rw [(hf b z).1]at e;cases e
 refine I.step (g':=s.gens) (d':=s.drawn) (ch:=fp) (fun b hb=>?_) (fun b u _ _ hc e _=>k b u hc e) (fun b u _ _ hc e _=>⟨u.slots,k b u hc e⟩) (fun b u _ e n=>n)
  (fun b u hc e=>⟨u,k b u hc e⟩) (fun b xs e=>e) (fun b q u e=>e) (fun b ps e=>e) (fun m hm=>?_) (fun b u e=>?_) I.bare
 ·obtain⟨f0,f1,f2,f3,f4,f5⟩:=hf b hb
  exact⟨f3,f1,f4,f5⟩
 ·obtain⟨q,es,ep,ho,r⟩:=hm
  exact⟨q,es,ep,k _ q (fun z=>(hf _ z).2.1 rfl) ho,r⟩
 ·refine (I.hok b u e).stay (fun c v hc q=>k c v ?_ q) (fun c q=>q) (fun c xs q=>q) fun c o u q=>q
  rcases hc with w | w
  ·rw [w];exact nfp b u e
  ·exact nfp c _ w
end
noncomputable def Ite (K:zbd4) (a:Addr):It :=
 ⟨fun i H => ∃xs x,SqL K H a xs∧xs[i]?=some x,fun i H x H' => ∃p v,H p=none∧x=.ref p∧H'=upd H p (.tup [.int i,v])∧∀xs,SqL K H a xs→xs[i]?=some v,fun i H => ∃xs,SqL K H a xs∧xs.length≤i⟩
def EnumAt (e it a:Addr) (i:Nat) (h:Heap):Prop:=(∃old,IsEnum h e it (i:Int) old)∧h.IsListIter it a i∧e≠it
theorem zau4 {P:Program}{w:World}{K:zbd4}{elts:List Expr}{k:Nat}{pos:Pos} (a e it:Addr):Turn P w K (.Tuple elts k pos) (Ite K a) [e,it] e (EnumAt e it a) where
 mem:=by simp
 obj:=fun i h st b hb=>by
  obtain⟨⟨old,h1⟩,h2,_⟩:=st
  rcases (by simpa using hb:b=e∨b=it) with rfl | rfl
  ·exact⟨_,h1,fun v z=>by cases z⟩
  ·obtain⟨o,e1,c,d⟩:=h2
   exact⟨o,e1,fun v z=>by rw [d]at z;cases z⟩
 keep:=fun i h h' st kk=>by
  obtain⟨⟨old,h1⟩,h2,ne⟩:=st
  exact⟨⟨old,kk e (by simp) _ h1⟩,h2.at fun o q=>kk it (by simp) o q,ne⟩
 item:=by
  intro X hP hw hK hc i pins s σ H E I hf st hg
  subst hP hw hK
  obtain⟨xs,x,hq,hx⟩:=hg
  obtain⟨its,rv,p,hz⟩:=I.list hq
  obtain⟨u,hu,ru⟩:=rv.get hx
  obtain⟨⟨old,h1⟩,h2,ne⟩:=st
  refine wpAny_pyNext_enum_item h1 h2 p.isList (x:=u) (by simpa using hu) ne fun h1' heo hit1 ht1 hz1 hk1=>?_
  refine⟨_,rfl,wpAny_letOwnedTupleGo_enum heo fun h2' he2 hs2=>?_⟩
  replace hs2:Heap.SameBut e h1' h2':=hs2
  have es:e<s.heap.objs.size:=zbe6 h1
  have kp:∀b o,b∉[e,it]→s.heap.get? b=some o→h2'.get? b=some o:=fun b o nb q=>by
   have n1:b≠e:=fun z=>nb (by simp [z])
   have n2:b≠it:=fun z=>nb (by simp [z])
   exact (hs2.2 b n1).trans (hk1 b o n1 n2 q)
  have ht2:h2'.get? s.heap.objs.size=some { cls:=.type "tuple",data:=.seq #[.int i s.toks,u] }:=(hs2.2 _ (zbm4 es)).trans ht1
  have I2:Inv X pins σ (upd H s.heap.objs.size (.tup [.int i,x])) { s with heap:=h2',toks:=s.toks+1 }:=I.turnedNew (t':=s.toks+1) kp hf (zbf6 _)
   ⟨by show 2≤sizeLine;decide,[.int i s.toks,u],.cons ⟨_,rfl⟩ (.cons ru .nil),⟨_,ht2,rfl,_,rfl⟩⟩
  refine⟨.ref s.heap.objs.size,_,I2,rfl,⟨s.heap.objs.size,x,I.hok.fresh (zbf6 _),rfl,rfl,fun ys hy=>by rw [I.list_inj hy hq];exact hx⟩,⟨⟨u,?_⟩,?_,ne⟩,fun b hb=>?_⟩
  ·exact he2
  ·exact hit1.extBut hs2.extBut (Ne.symm ne)
  ·rw [zc8 (fun z=>?_)]
   ·exact (hf b hb).1
   ·rcases (by simpa using hb:b=e∨b=it) with w' |w'
    ·rw [← z,w']at es;exact absurd es (zbi3 _)
    ·obtain⟨o,e1,_⟩:=h2
     have:=zbe6 e1
     rw [← w',z]at this;exact absurd this (zbi3 _)
 done:=by
  intro X hP hw hK hc i pins s σ H E I hf st hg
  subst hP hw hK
  obtain⟨xs,hq,hx⟩:=hg
  obtain⟨its,rv,p,hz⟩:=I.list hq
  obtain⟨⟨old,h1⟩,h2,ne⟩:=st
  have hl:=rv.length
  refine wpAny_pyNext_enum_end (I.ok.hd hc) h1 h2 p.isList (by simp;lia) fun h' eb=>⟨rfl,I.turnedL (t':=s.toks) (fun b o nb q=>eb b o (fun z=>nb (by simp [z])) q) hf⟩
 self:=fun _ _ _ _ _ st h=>by
  obtain⟨⟨old,h1⟩,_,_⟩:=st
  exact wpAny_pyIter_enum h1 h
def iEnum (K:zbd4) (tl:TE):TI:=fun σ H R=>tl σ H fun x H1 => ∃a,x=.ref a∧(∃xs,SqL K H1 a xs)∧R (Ite K a) H1
theorem bt_enum:bootBuiltins "enumerate"=some (.type "enumerate"):=by decide +kernel
theorem pi_enum {X:Cx}{l:Expr}{tl:TE}{elts:List Expr}{k:Nat}{tp p pos:Pos} (hg:Gl X "enumerate") (hm:X.mg "enumerate"=none) (hl:PE X l tl) (hs:zbe7 [l] X.env=[(false,eval l X.env)]:=by rfl) :
  PI X (.Tuple elts k tp) (.Call (.Name "enumerate" p) [l] [] pos) (iEnum X.K tl):=by
 intro pins s σ H R I h
 refine Call_ (zm4 I hg hm bt_enum (PyProof.Rows.callWith_type1 (thn ((zf7 hl zl3 hs) pos pins s σ H (fun vs H1=>match vs with | [x] => ∃a,x=.ref a∧(∃xs,SqL X.K H1 a xs)∧R (Ite X.K a) H1 | _=>False) I h) fun us s1 ⟨vs,H1,I1,r1,q1⟩=>?_) hs rfl))
 cases r1 with
 |nil=>exact q1.elim
 |@cons x u xr ur ru rr =>
  cases rr with
  |cons _ _=>exact q1.elim
  |nil =>
  obtain⟨a,rfl,⟨xs,hq⟩,q⟩:=q1
  cases ru
  obtain⟨its,rv,p,hz⟩:=I1.list hq
  refine call_enumerate_list p.isList fun h' he hit hz' hk=>?_
  have I2:Inv X pins σ H1 { s1 with heap:=h' }:=I1.kept (t':=s1.toks) hk
  refine wpAny_pyIter_enum he ?_
  refine⟨s1.heap.objs.size+1,[s1.heap.objs.size+1,s1.heap.objs.size],EnumAt (s1.heap.objs.size+1) s1.heap.objs.size a,Ite X.K a,H1,rfl,I2,zau4 a _ _,⟨⟨_,he⟩,hit,Nat.succ_ne_self _⟩,fun b hb=>?_,q⟩
  rcases (by simpa using hb:b=s1.heap.objs.size+1∨b=s1.heap.objs.size) with rfl | rfl
  ·exact I1.fpOk (zbr6 _) (I1.hok.fresh (zbr6 _))
  ·exact I1.fpOk (zbf6 _) (I1.hok.fresh (zbf6 _))
end L2
namespace DL
open PySem.Spec L2
def zq1 (i:Nat):List D→List D
 |[]=>[]
 |d::ds=>.tup [.int i,d]::zq1 (i+1) ds
theorem zr8:∀(i:Nat) (ds:List D),(zq1 i ds).length=ds.length
 |_,[]=>rfl
 |i,d::ds=>by simp [zq1,zr8 (i+1) ds]
theorem zag9:∀(i:Nat) (ds:List D) (j:Nat) (d:D),ds[j]?=some d→(zq1 i ds)[j]?=some (.tup [.int ((i+j:Nat):Int),d])
 |_,[],j,d,h=>by simp at h
 |i,e::ds,0,d,h=>by simp at h;subst h;simp [zq1]
 |i,e::ds,j+1,d,h=>by
  have:=zag9 (i+1) ds j d (by simpa using h)
  simp only [zq1,zbj9,this]
  rw [show i+1+j=i+(j+1) by lia]
end DL
namespace L2
open PySem.Spec
noncomputable def clOf (cells:List (Str×Addr)):List (Str×NameKind)→List (Str×Addr)→List (Str×Addr)
 |[],acc=>acc
 |(n,k)::r,acc=>if k == .free then clOf cells r ((n,(cells.lookup n).getD 0)::acc) else clOf cells r acc
theorem zq4 {cells:List (Str×Addr)}:∀ {names:List (Str×NameKind)}{acc:List (Str×Addr)}{x:Str}{c:Addr},(∀y∈names,y.2=.free→∃c,cells.lookup y.1=some c)→(clOf cells names acc).lookup x=some c→acc.lookup x=some c∨cells.lookup x=some c
 |[],acc,x,c,_,h=>.inl h
 |(n,k)::r,acc,x,c,hy,h=>by
  unfold clOf at h
  have hr:∀y∈r,y.2=.free→∃c,cells.lookup y.1=some c:=fun y h1=>hy y (zbd6 _ h1)
  split at h
  ·rename_i hk
   rcases zq4 hr h with z | z
   ·rw [zbg2]at z
    split at z
    ·rename_i e
     have e:x=n:=by simpa using e
     obtain⟨c',hc'⟩:=hy (n,k) (zbd7 ..) (by simpa using hk)
     simp only [hc',zbr0]at z
     cases z
     rw [e];exact .inr hc'
    ·exact .inl z
   ·exact .inr z
  ·exact zq4 hr h
theorem zy2 {cells:List (Str×Addr)}:∀ {names:List (Str×NameKind)}{acc:List (Str×Addr)}{x:Str},(∃c,acc.lookup x=some c)→∃c,(clOf cells names acc).lookup x=some c
 |[],acc,x,h=>h
 |(n,k)::r,acc,x,h=>by
  unfold clOf
  split
  ·refine zy2 ?_
   rw [zbg2]
   split
   ·exact⟨_,rfl⟩
   ·exact h
  ·exact zy2 h
theorem zu9 {cells:List (Str×Addr)}:∀ {names:List (Str×NameKind)}{acc:List (Str×Addr)}{x:Str},(x,NameKind.free)∈names→∃c,(clOf cells names acc).lookup x=some c
 |(n,k)::r,acc,x,h=>by
  unfold clOf
  rcases zbe3.mp h with z | z
  ·cases z
   rw [if_pos (by rfl)]
   refine zy2 ⟨(cells.lookup n).getD 0,?_⟩
   simp [zbg2]
  ·split
   ·exact zu9 z
   ·exact zu9 z
theorem zs7 {scope:Scope}{env:Env} (h:∀y∈scope.names,y.2=.free→∃c,env.cells.lookup y.1=some c):closureFor scope env=pure (clOf env.cells scope.names []):=by
 unfold closureFor
 have key:∀(names:List (Str×NameKind)) (acc:List (Str×Addr)),(∀y∈names,y.2=.free→∃c,env.cells.lookup y.1=some c) →
   (forIn names acc fun (x:Str×NameKind) (cs:List (Str×Addr))=>(do
    if x.2 == .free then
     let a ← cellOf env x.1
     pure (ForInStep.yield ((x.1,a)::cs))
    else pure (ForInStep.yield cs):Sem (ForInStep (List (Str×Addr)))))=pure (clOf env.cells names acc):=by
  intro names
  induction names with
  |nil=>intro acc _;rfl
  |cons y r ih =>
   intro acc hy
   obtain⟨n,k⟩:=y
   have hr:∀y∈r,y.2=.free→∃c,env.cells.lookup y.1=some c:=fun y h1=>hy y (zbd6 _ h1)
   rw [List.forIn_cons]
   unfold clOf
   by_cases hk:(k == NameKind.free)=true
   ·obtain⟨c,hc⟩:=hy (n,k) (zbd7 ..) (by simpa using hk)
    have hc':cellOf env n=pure c:=by unfold cellOf;rw [hc]
    simp only [hk,if_true,hc']
    rw [← ih _ hr]
    simp only [hc,zbr0]
    rfl
   ·have hk':(k == NameKind.free)=false:=by simpa using hk
    simp only [hk',zbl3,if_false]
    rw [← ih _ hr]
    rfl
 have:=key scope.names [] h
 simp only [bind_pure_comp]at this ⊢
 rw [this]
 rfl
theorem zg6 {env:Env}:∀ {names:List (Str×NameKind)}{x:Str}{k':NameKind},(names.map fun (n,k)=>if (k == NameKind.free&&env.scope.kind == .function&&env.kindOf n == some .cell) then (n,NameKind.cell) else (n,k)).lookup x=some k' →
  ∃k,(x,k)∈names∧(k'=k∨(k=.free∧k'=.cell))
 |[],x,k',h=>by simp at h
 |(n,k)::r,x,k',h=>by
  rw [zbf4]at h
  by_cases hc:(k == NameKind.free&&env.scope.kind == .function&&env.kindOf n == some .cell)=true
  ·simp only [hc,if_true,zbg2]at h
   split at h
   ·rename_i e
    have e:x=n:=by simpa using e
    cases h
    simp only [zbe0,beq_iff_eq]at hc
    have hk:k=.free:=by simpa using hc.1.1
    exact⟨k,by rw [e];exact zbd7 ..,.inr ⟨hk,rfl⟩⟩
   ·obtain⟨q,a,b⟩:=zg6 h
    exact⟨q,zbd6 _ a,b⟩
  ·have hc':(k == NameKind.free&&env.scope.kind == .function&&env.kindOf n == some .cell)=false:=by simpa using hc
   simp only [hc',zbl3,if_false,zbg2]at h
   split at h
   ·rename_i e
    have e:x=n:=by simpa using e
    cases h
    exact⟨_,by rw [e];exact zbd7 ..,.inl rfl⟩
   ·obtain⟨q,a,b⟩:=zg6 h
    exact⟨q,zbd6 _ a,b⟩
theorem zt3 {prog:Program}{w:World}{A:Around}{R:Result→zbe5→Prop}{s:zbe5}{elt target iter:Expr}{ifs:List Expr}{scope:Scope}{pos:Pos}{it acc:Value}{env:Env} (I:Nat→zbe5→Prop)
  (turn:∀n s,I n s→wpAny (model prog w) A (pyNext it) (fun r s₁=>match r with
   |none=>R (.ok .next) s₁
   |some v=>wpAny (model prog w) A (letOwnedTupleGo target it v) (fun _ s₁'=>wpAny (model prog w) A (assign target env v) (fun _ s₂ =>
     wpAny (model prog w) A (forIn ifs true fun c r=>if r=true then do let ok ← isTrue c env (eval c env);pure (ForInStep.yield ok) else pure (ForInStep.yield r)) (fun ok s₃ =>
      if ok=true then wpAny (model prog w) A (eval elt env) (fun x s₄ =>
       wpAny (model prog w) A (call (.builtin "list.append") [acc,x]) (fun _ s₅ => ∃m,m<n∧I m s₅) (fun _ _=>False) s₄) (fun _ _=>False) s₃
      else ∃m,m<n∧I m s₃) (fun _ _=>False) s₂) (fun _ _=>False) s₁') (fun _ _=>False) s₁) (fun _ _=>False) s)
  (n:Nat) (h:I n s):codeAny (model prog w) A (.compLoop (.ListComp elt [⟨target,iter,ifs,0⟩] scope pos) 0 it acc env) R s:=by
 refine codeAny_loop rfl I (fun n s hI=>?_) n h
 show wpAny _ A ((compTurn (.ListComp elt [⟨target,iter,ifs,0⟩] scope pos) 0 it acc env).onRaise (fun x=>do noteFrame x env;theTreesLotGoes x)) _ _ s
 refine wpAny_noted ?_
 rw [compTurn_list]
 refine zbf2 (wpAny_standAt (zbf2 (wpAny_mono (turn n s hI) (fun r s₁ h₁=>?_) fun _ _ h'=>h'.elim)))
 cases r with
 |none=>exact zbg4 h₁
 |some v =>
  refine zbf2 (wpAny_mono h₁ (fun _ s₁' h₁'=>?_) fun _ _ h'=>h'.elim)
  refine zbf2 (wpAny_mono h₁' (fun _ s₂ h₂=>zbf2 (wpAny_mono h₂ (fun ok s₃ h₃=>?_) fun _ _ h'=>h'.elim)) fun _ _ h'=>h'.elim)
  cases ok with
  |false=>exact zbg4 ⟨rfl,h₃⟩
  |true =>
   exact zbf2 (zbf2 (wpAny_mono h₃ (fun x s₄ h₄=>zbf2 (wpAny_mono h₄ (fun _ s₅ h₅=>zbg4 (zbg4 ⟨rfl,h₅⟩)) fun _ _ h'=>h'.elim)) fun _ _ h'=>h'.elim))
theorem zad7 {x:Str}{c:Addr}:∀ {names:List (Str×NameKind)}{n:Nat}{acc:List (Str×Addr)},(cellsFrom n names acc).lookup x=some c→acc.lookup x=some c∨n≤c
 |[],n,acc,h=>.inl h
 |(y,k)::r,n,acc,h=>by
  unfold cellsFrom at h
  split at h
  ·rcases zad7 h with z | z
   ·rw [zbg2]at z
    split at z
    ·cases z;exact .inr (zbf6 _)
    ·exact .inl z
   ·exact .inr (by lia)
  ·exact zad7 h
theorem zaq9 {x:Str}:∀ {names:List (Str×NameKind)}{n:Nat}{acc:List (Str×Addr)},(∃c,acc.lookup x=some c)→∃c,(cellsFrom n names acc).lookup x=some c
 |[],n,acc,h=>h
 |(y,k)::r,n,acc,h=>by
  unfold cellsFrom
  split
  ·refine zaq9 ?_
   rw [zbg2]
   split
   ·exact⟨_,rfl⟩
   ·exact h
  ·exact zaq9 h
theorem zam6 {x:Str}:∀ {names:List (Str×NameKind)}{n:Nat}{acc:List (Str×Addr)},(x,NameKind.cell)∈names→∃c,(cellsFrom n names acc).lookup x=some c
 |(y,k)::r,n,acc,h=>by
  unfold cellsFrom
  rcases zbe3.mp h with z | z
  ·cases z
   rw [if_pos (by rfl)]
   exact zaq9 ⟨n,by simp [zbg2]⟩
  ·split
   ·exact zam6 z
   ·exact zam6 z
theorem cf_ge {x:Str}{c:Addr}{lo:Nat}:∀ {names:List (Str×NameKind)}{n:Nat}{acc:List (Str×Addr)},lo≤n→(∀c,acc.lookup x=some c→lo≤c)→(cellsFrom n names acc).lookup x=some c→lo≤c
 |[],n,acc,_,ha,h=>ha c h
 |(y,k)::r,n,acc,hn,ha,h=>by
  unfold cellsFrom at h
  split at h
  ·refine cf_ge (n:=n+1) (by lia) (fun c' h'=>?_) h
   rw [zbg2]at h'
   split at h'
   ·cases h';exact hn
   ·exact ha c' h'
  ·exact cf_ge hn ha h
theorem zbb8 {x:Str}{c:Addr}:∀ {names:List (Str×NameKind)}{n:Nat}{acc:List (Str×Addr)},(x,NameKind.cell)∈names→(cellsFrom n names acc).lookup x=some c→n≤c
 |(y,k)::r,n,acc,hm,h=>by
  unfold cellsFrom at h
  rcases zbe3.mp hm with z | z
  ·cases z
   rw [if_pos (by rfl)]at h
   refine cf_ge (lo:=n) (n:=n+1) (by lia) (fun c' h'=>?_) h
   rw [zbg2,beq_self_eq_true]at h'
   cases h'
   exact zbf6 _
  ·split at h
   ·have:=zbb8 z h;lia
   ·exact zbb8 z h
theorem zbb7 {x:Str}:∀ {names:List (Str×NameKind)}{n:Nat}{acc:List (Str×Addr)},(x,NameKind.cell)∉names→(cellsFrom n names acc).lookup x=acc.lookup x
 |[],n,acc,_=>rfl
 |(y,k)::r,n,acc,h=>by
  have hr:(x,NameKind.cell)∉r:=fun z=>h (zbd6 _ z)
  unfold cellsFrom
  split
  ·rename_i hk
   rw [zbb7 hr,zbg2]
   split
   ·rename_i e
    exact absurd (zbe3.mpr (.inl (by rw [show x=y by simpa using e,show k=NameKind.cell by simpa using hk]))) h
   ·rfl
  ·exact zbb7 hr
theorem zbb9:∀ {names:List (Str×NameKind)}{n:Nat}{acc:List (Str×Addr)},(∀x c,acc.lookup x=some c→c<n)→(∀x y c,acc.lookup x=some c→acc.lookup y=some c→x=y) →
  ∀x y c,(cellsFrom n names acc).lookup x=some c→(cellsFrom n names acc).lookup y=some c→x=y
 |[],n,acc,_,hi=>hi
 |(z,k)::r,n,acc,hb,hi=>by
  unfold cellsFrom
  split
  ·refine zbb9 (n:=n+1) (fun x c h=>?_) (fun x y c h1 h2=>?_)
   ·rw [zbg2]at h
    split at h
    ·cases h;exact zbi6 _
    ·exact zbk8 (hb x c h)
   ·rw [zbg2]at h1 h2
    split at h1
    ·rename_i e1
     cases h1
     split at h2
     ·rename_i e2;rw [show x=z by simpa using e1,show y=z by simpa using e2]
     ·exact absurd (hb y _ h2) (zbi3 _)
    ·split at h2
     ·cases h2;exact absurd (hb x _ h1) (zbi3 _)
     ·exact hi x y c h1 h2
  ·exact zbb9 hb hi
theorem zam7 {x:Str}{c:Addr}:∀ {names:List (Str×NameKind)}{h:Heap}{acc:List (Str×Addr)},(∀c,acc.lookup x=some c→∃v,h.IsCell c v)→(cellsFrom h.objs.size names acc).lookup x=some c→∃v,(pushCells h names).IsCell c v
 |[],h,acc,ha,e=>ha c e
 |(y,k)::r,h,acc,ha,e=>by
  unfold cellsFrom at e
  unfold pushCells
  split at e
  ·rename_i hk
   rw [if_pos hk]
   rw [show h.objs.size+1=(h.push { cls:=.type "cell",data:=.cell none }).objs.size from (zbm2 ..).symm]at e
   refine zam7 (fun c' e'=>?_) e
   rw [zbg2]at e'
   split at e'
   ·cases e';exact⟨none,_,zbg5 _ rfl,rfl⟩
   ·obtain⟨v,z⟩:=ha c' e'
    exact⟨v,z.keeps fun b o q=>zbe4 _ q⟩
  ·rename_i hk
   rw [if_neg hk]
   exact zam7 ha e
theorem zk8 {M:Model}{A:Around}{E:Value→zbe5→Prop}{s:zbe5}{scope:Scope}{globals:Addr}{cl:List (Str×Addr)}{qual:Str}{func:Option Addr}{code:Value}{env:Env}{builtins:Addr}{Q:Env→zbe5→Prop}
  (hQ:∀h',h'.Ns s.heap.objs.size (fun _=>none)→(∀b o,s.heap.get? b=some o→h'.get? b=some o)→(∀x c,(∀c,cl.lookup x=some c→∃v,s.heap.IsCell c v)→(cellsFrom (s.heap.objs.size+1) scope.names cl).lookup x=some c→∃v,h'.IsCell c v) →
   Q (newEnv scope s.heap.objs.size globals (cellsFrom (s.heap.objs.size+1) scope.names cl) qual func code (some env) builtins) { s with heap:=h',toks:=s.toks }) :
  wpAny M A (newFunctionEnv scope globals cl [] qual func code (some env) builtins) Q E s:=by
 simp only [newFunctionEnv,zbp7,if_true]
 refine zbf2 (wpAny_alloc ?_)
 refine zbf2 (wpAny_layCells _ (fun name kind cells=>by cases hkc:kind == NameKind.cell<;>simp [hkc]) _ _ _ _ ?_)
 have sz:(s.heap.push { cls:=.type "dict",data:=.dict #[] }).objs.size=s.heap.objs.size+1:=zbm2 ..
 rw [show ({ s with heap:=s.heap.push { cls:=.type "dict",data:=.dict #[] } }:zbe5).heap.objs.size=s.heap.objs.size+1 from sz]
 rw [List.forIn_nil]
 refine zbf2 (zbg4 (zbg4 ?_))
 refine hQ _ ((Heap.Ns.new s.heap (.type "dict")).keeps (pushCells_keeps _ _)) (fun b o e=>pushCells_keeps _ _ b o (zbe4 _ e)) fun x c ha e=>?_
 rw [← sz]at e
 exact zam7 (fun c' e'=>let ⟨v,z⟩:=ha c' e';⟨v,z.keeps fun b o q=>zbe4 _ q⟩) e
noncomputable abbrev blk (X:Cx) (N':List Str) (scope:Scope) (C:Addr) (s₃:zbe5) (H₃:Hp) (fp:List Addr) (pins:List (Addr×Obj)):Cx :=
 { X with N:=N',s₀:=s₃,H₀:=H₃,env:=compEnvC scope (cellsFrom (C+1) scope.names (clOf X.env.cells scope.names [])) C X.env,outer:=X.stack,stack:=X.stack,ex:=fp,fn:=fun x=>scope.names.lookup x == some .cell,calm:=true,pn:=X.pn++pins,xe:=fun _ _=>False }
structure CompSc (X:Cx) (scope:Scope):Prop where
 kind:scope.kind=.function
 free:∀y∈scope.names,y.2=.free→X.env.kindOf y.1=some .cell∨X.env.kindOf y.1=some .free
 names:∀y∈scope.names,scope.names.lookup y.1=some y.2
section
variable {X:Cx}{pins:List (Addr×Obj)}{σ:L2.St}{H:Hp}{s:zbe5}{scope:Scope}{N':List Str}{fp:List Addr}
theorem CompSc.frees (S:CompSc X scope) (ok:X.Ok):∀y∈scope.names,y.2=.free→∃c,X.env.cells.lookup y.1=some c:=fun y hy hf=>ok.has y.1 (S.free y hy hf)
theorem CompSc.cells (S:CompSc X scope) (ok:X.Ok) {x:Str}{c:Addr} (h:(clOf X.env.cells scope.names []).lookup x=some c):X.env.cells.lookup x=some c:=by
 rcases zq4 (S.frees ok) h with z | z
 ·simp at z
 ·exact z
theorem CompSc.nc (S:CompSc X scope) {x:Str} (h:(x,NameKind.free)∈scope.names):(x,NameKind.cell)∉scope.names:=fun z=>by
 have w1:=S.names _ h
 have w2:=S.names _ z
 rw [show (x,NameKind.cell).1=(x,NameKind.free).1 from rfl,w1]at w2
 cases w2
theorem CompSc.cls (S:CompSc X scope) (I:Inv X pins σ H s) {x:Str}{c:Addr} (h:(clOf X.env.cells scope.names []).lookup x=some c):c<s.heap.objs.size:=by
 obtain⟨v,o,ho,_⟩:=I.cell x c (S.cells I.ok h)
 exact zbe6 ho
theorem CompSc.old (S:CompSc X scope) (I:Inv X pins σ H s) {x:Str}{c:Addr} (h:(cellsFrom (s.heap.objs.size+1) scope.names (clOf X.env.cells scope.names [])).lookup x=some c):X.env.cells.lookup x=some c∨s.heap.objs.size<c:=by
 rcases zad7 h with z | z
 ·exact .inl (S.cells I.ok z)
 ·exact .inr z
theorem blk_ok (I:Inv X pins σ H s) (S:CompSc X scope) (hc:X.calm=true) (hf:∀b∈fp,FpOk X pins H b) (hlt:∀b∈fp,b<s.heap.objs.size):(blk X N' scope s.heap.objs.size s H fp pins).Ok where
 mod:=I.ok.mod
 kind:=S.kind
 glob:=I.ok.glob
 blt:=I.ok.blt
 above:=zbf6 _
 inj:=zbb9 (fun x c h=>zbk8 (S.cls I h)) fun x y c h1 h2=>I.ok.inj x y c (S.cells I.ok h1) (S.cells I.ok h2)
 has:=fun x hx=>by
  have hx:(relabel scope X.env).names.lookup x=some .cell∨(relabel scope X.env).names.lookup x=some .free:=hx
  have:(x,NameKind.free)∈scope.names∨(x,NameKind.cell)∈scope.names:=by
   rcases hx with hx | hx
   ·obtain⟨k,a,b⟩:=zg6 hx
    rcases b with b | b
    ·rw [← b]at a;exact .inr a
    ·rw [b.1]at a;exact .inl a
   ·obtain⟨k,a,b⟩:=zg6 hx
    rcases b with b | b
    ·rw [← b]at a;exact .inl a
    ·cases b.2
  rcases this with z | z
  ·exact zaq9 (zu9 z)
  ·exact zam6 z
 cab:=fun x c h e=>by
  have h:(scope.names.lookup x == some NameKind.cell)=true:=h
  have h:scope.names.lookup x=some .cell:=by simpa using h
  exact Nat.le_of_succ_le (zbb8 (PySem.mem_of_lookup h) e)
 hd:=fun _=>I.ok.hd hc
 frames:=I.ok.frames
 stk:=.inl rfl
 exf:=fun b hb=>⟨zbg0 (hlt b hb),fun x c h=>by
  rcases S.old I h with z | z
  ·exact (hf b hb).2.2.2.2.1 x c z
  ·exact zbm4 (zbo0 (hlt b hb) z)⟩
 bs:=fun b o e=>I.bs b o e
 bsz:=zbh3 I.ok.bsz I.sz
 noex:=fun b o e hb=>by
  rcases (hf b hb).2.2.2.1 with z | z
  ·exact I.ok.noex b o e z
  ·exact absurd (zbf0 (zbe6 e) (zbh3 I.ok.bsz z)) (zbi3 _)
 exfs:=fun b hb z=>(zbe3.mp (I.stkSub b z)).elim (hf b hb).2.1 (hf b hb).2.2.1
 funs:=I.stack
 frf:=I.stkFree
 tabs:=fun p hp=>I.base.tbls _ _ (I.ok.tabs p hp)
theorem zam9 (I:Inv X pins σ H s) (S:CompSc X scope) (hc:X.calm=true) (hf:∀b∈fp,FpOk X pins H b) (hlt:∀b∈fp,b<s.heap.objs.size) {h1:Heap}{t1:Nat}{m:Str→Option Value}{σ':L2.St}
  (hns:h1.Ns s.heap.objs.size m) (hk:∀b o,s.heap.get? b=some o→h1.get? b=some o) (hcl:∀x c,(∀c,(clOf X.env.cells scope.names []).lookup x=some c→∃v,s.heap.IsCell c v)→(cellsFrom (s.heap.objs.size+1) scope.names (clOf X.env.cells scope.names [])).lookup x=some c→∃v,h1.IsCell c v) (hl:σ'.length=N'.length)
  (cap:∀(i:Nat) (x:Str) (v:V),N'[i]?=some x→σ'[i]?=some (some v)→(x,NameKind.free)∈scope.names∧∃j:Nat,X.N[j]?=some x∧σ[j]?=some (some v)) :
  Inv (blk X N' scope s.heap.objs.size s H fp pins) [] σ' H { s with heap:=h1,toks:=t1 } where
 ok:=blk_ok I S hc hf hlt
 os:=rfl
 bare:=I.bare
 base:=Un.kept hk
 loc:=⟨m,hns,fun i x v e1 e2 vs=>by
  obtain⟨hfree,j,j1,j2⟩:=cap i x v e1 e2
  obtain⟨m0,hn0,hl0⟩:=I.loc
  have vis:Vis X.env.scope x:=by
   rcases S.free _ hfree rfl with z | z
   ·exact .inr (.inl z)
   ·exact .inr (.inr z)
  obtain⟨u,r,l⟩:=hl0 j x v j1 j2 vis
  refine⟨u,r,?_⟩
  rcases l with ⟨k,_⟩ | ⟨k,c,e,z⟩
  ·exfalso
   rcases S.free _ hfree rfl with q | q
   ·rw [k]at q;cases q
   ·rw [k]at q;cases q
  ·obtain⟨c',hc'⟩:=zu9 (cells:=X.env.cells) (acc:=[]) hfree
   have e':=S.cells I.ok hc'
   rw [e]at e';cases e'
   refine .inr ⟨?_,c,by rw [show (blk X N' scope s.heap.objs.size s H fp pins).env.cells.lookup x=_ from zbb7 (S.nc hfree)];exact hc',?_⟩
   ·have vs:(relabel scope X.env).names.lookup x=some .local∨(relabel scope X.env).names.lookup x=some .cell∨(relabel scope X.env).names.lookup x=some .free:=vs
    rcases vs with q | q
    ·obtain⟨k2,a,b⟩:=zg6 q
     rcases b with b | b
     ·rw [← b]at a
      have w1:=S.names _ a
      have w2:=S.names _ hfree
      rw [show (x,NameKind.local).1=(x,NameKind.free).1 from rfl,w2]at w1
      cases w1
     ·cases b.2
    ·exact q
   ·obtain⟨o,ho,hd⟩:=z
    exact⟨o,hk _ _ ho,hd⟩⟩
 cell:=fun x c h=>hcl x c (fun c' h'=>I.cell x c' (S.cells I.ok h')) h
 free:=I.hok.fresh (zbf6 _)
 freeC:=fun x c h=>by
  rcases S.old I h with z | z
  ·exact I.freeC x c z
  ·exact I.hok.fresh (zbn7 z)
 pin:=fun p hp=>by
  have hp:p∈(X.pn++pins)++[]:=hp
  rw [zbi4]at hp
  obtain⟨a,b,c,d,e⟩:=I.pin p hp
  exact⟨hk _ _ a,b,zbg0 (zbe6 a),fun z=>(zbe3.mp (I.stkSub _ z)).elim c d,e⟩
 hok:=I.hok.kept hk
 len:=hl
theorem zae2 {H3 H':Hp}{s':zbe5}{h'':Heap}{σ':L2.St}{C:Addr}{pins':List (Addr×Obj)} (I:Inv X pins σ H3 s) (hf:∀b∈fp,FpOk X pins H3 b) (hC:C=s.heap.objs.size) (I':Inv (blk X N' scope C s H3 fp pins) pins' σ' H' s') (hb:Heap.SameBut C s'.heap h''):Inv X pins σ H' { s' with heap:=h'' }:=by
 subst hC
 have bs:Un (frs X.stack) fp H3 H' s.heap s'.heap:=I'.base
 have nC:∀b o,s.heap.get? b=some o→b≠s.heap.objs.size:=fun b o e=>zbg0 (zbe6 e)
 have tr:∀b,b≠s.heap.objs.size→h''.get? b=s'.heap.get? b:=fun b n=>hb.2 b n
 have u:Un (frs X.stack) fp H3 H' s.heap h'' :=
  ⟨fun b o e n h1 h2=>(tr b (nC b o e)).trans (bs.keep b o e n h1 h2),fun b o e n h1 h2=>by obtain⟨sl,q⟩:=bs.slot b o e n h1 h2;exact⟨sl,(tr b (nC b o e)).trans q⟩,bs.free,
   fun b o e h1=>by obtain⟨o',q⟩:=bs.there b o e h1;exact⟨o',(tr b (nC b o e)).trans q⟩,bs.tups,bs.frzs,bs.tbls⟩
 have cf:H' s.heap.objs.size=none:=I'.free
 have hok:HOk X.prog X.w H' h'':=fun b o e=>by
  have nb:b≠s.heap.objs.size:=fun z=>by rw [z,cf]at e;cases e
  refine (I'.hok b o e).stay (fun c v hc q=>(tr c ?_).trans q) (fun _ q=>q) (fun _ _ q=>q) fun _ _ _ q=>q
  rcases hc with w | w
  ·rw [w];exact nb
  ·exact fun z=>by rw [z,cf]at w;cases w
 obtain⟨h0,g0,d0,t0,o0⟩:=s'
 have e:o0=s.os:=I'.os
 subst e
 exact I.call (g':=g0) (t':=t0) (d':=d0) u hok I'.bare fun b hb'=>by
  obtain⟨f0,f1,f2,f3,f4,f5⟩:=hf b hb'
  exact⟨f3,f1,f4,f5⟩
end
end L2
namespace L2
open PySem.Spec
noncomputable def PTs (Y:Cx) (ifs:List Expr) (t:TT):Prop :=
 ∀(pins:List (Addr×Obj)) (s:zbe5) (σ:L2.St) (H:Hp) (Q:Bool→Hp→Prop),Inv Y pins σ H s→t σ H Q →
  wpAny (model Y.prog Y.w) Y.A (forIn ifs true fun c r=>if r=true then do let ok ← isTrue c Y.env (eval c Y.env);pure (ForInStep.yield ok) else pure (ForInStep.yield r)) (TP Y pins σ Q) Y.xe s
theorem zav4 {Y:Cx}:PTs Y [] (fun _ H Q=>Q true H):=fun pins s σ H Q I h=>wpAny_tests_nil ⟨H,I,h⟩
theorem zav3 {Y:Cx}{c:Expr}{t:TT} (h:PT Y c t):PTs Y [c] t:=fun pins s σ H Q I q=>wpAny_tests_one (h pins s σ H Q I q)
def capV (n:Nat) (cap:List Nat) (σ:L2.St):L2.St:=zbe8 n none++cap.map fun j=>(σ[j]?).getD none
noncomputable def zar9 (n:Nat) (cap:List Nat) (wi:TI) (g:TG) (tt:TT) (te:TE):TE:=fun σ H Q=>wi σ H fun J H1 => ∀D,H1 D=none→∃W:Nat→Nat→L2.St→Hp→Prop,(∃m,W 0 m (capV n cap σ) (upd H1 D (.lst [])))∧∀i m σ' H',W i m σ' H' →
 (J.stop i H'∧Q (.ref D) H')∨(J.go i H'∧∃N:L2.St→Hp→Prop,(∀σ'' H'',N σ'' H''→∃m',m' < m∧W (i+1) m' σ'' H'')∧∀x H2,J.yld i H' x H2→g x σ' H2 fun σ2 H3=>tt σ2 H3 fun b H4 =>
  if b=true then te σ2 H4 fun v H5 => ∃vs,H5 D=some (.lst vs)∧vs.length<sizeLine∧N σ2 (upd H5 D (.lst (vs++[v]))) else N σ2 H4)
theorem zax1 {X:Cx}{elt tg iter:Expr}{ifs:List Expr}{scope:Scope}{pos:Pos}{n:Nat}{cap:List Nat}{N':List Str}{wi:TI}{g:TG}{tt:TT}{te:TE} (S:CompSc X scope) (hc:X.calm=true) (hi:PI X tg iter wi)
  (hN:N'.length=n+cap.length) (hcap:∀(k:Nat) (j:Nat),cap[k]?=some j→∃x,N'[n+k]?=some x∧X.N[j]?=some x∧(x,NameKind.free)∈scope.names)
  (hg:∀C s₃ H₃ fp pins,PG (blk X N' scope C s₃ H₃ fp pins) tg g) (ht:∀C s₃ H₃ fp pins,PTs (blk X N' scope C s₃ H₃ fp pins) ifs tt) (he:∀C s₃ H₃ fp pins,PE (blk X N' scope C s₃ H₃ fp pins) elt te)
  (hs:∀x,foldedSetIterable iter X.env x=pure x:=by intro _;rfl):PE X (.ListComp elt [⟨tg,iter,ifs,0⟩] scope pos) (zar9 n cap wi g tt te):=by
 intro pins s σ H Q I h
 rw [eval_ListComp]
 refine wpAny_comprehension_free (use:=none) rfl hs (zs7 (S.frees I.ok)) S.kind (fun x hx hl=>by rw [S.names x hx,hl]) (thn (hi pins s σ H _ I h) fun v s1 h1=>thn h1 fun itv s2 h2=>?_)
 obtain⟨it,fp,tn,J,H2,e,I2,T,st2,f2,R⟩:=h2
 subst e
 have lt2:∀b∈fp,b<s2.heap.objs.size:=fun b hb=>by obtain⟨o,e,_⟩:=T.obj _ _ st2 b hb;exact zbe6 e
 have hD:H2 s2.heap.objs.size=none:=I2.fresh
 obtain⟨W,⟨m0,w0⟩,turn⟩:=R s2.heap.objs.size hD
 have I3:Inv X pins σ (upd H2 s2.heap.objs.size (.lst [])) { s2 with heap:=s2.heap.push { cls:=.type "list",data:=.seq ([]:List Value).toArray },toks:=s2.toks }:=I2.lnew (t':=s2.toks) .nil (by simp)
 have f3:∀b∈fp,FpOk X pins (upd H2 s2.heap.objs.size (.lst [])) b:=fun b hb=>⟨by rw [zc8 (zbg0 (lt2 b hb))];exact (f2 b hb).1,(f2 b hb).2⟩
 refine wpAny_newObj_type (zk8 fun h₁ hns₁ hk hcl₁=>?_)
 have lt3:∀b∈fp,b<(s2.heap.push { cls:=.type "list",data:=.seq ([]:List Value).toArray }).objs.size:=fun b hb=>by rw [zbm2];exact zbk8 (lt2 b hb)
 have I4:Inv (blk X N' scope (s2.heap.push { cls:=.type "list",data:=.seq ([]:List Value).toArray }).objs.size { s2 with heap:=s2.heap.push { cls:=.type "list",data:=.seq ([]:List Value).toArray },toks:=s2.toks } (upd H2 s2.heap.objs.size (.lst [])) fp pins) [] (capV n cap σ) (upd H2 s2.heap.objs.size (.lst [])) { s2 with heap:=h₁,toks:=s2.toks } :=
  zam9 I3 S hc f3 lt3 (t1:=s2.toks) hns₁ hk hcl₁ (by simp [capV,hN]) (fun i x v e1 e2=>by
   unfold capV at e2
   by_cases hi:i<n
   ·rw [zbg8 (by simpa using hi),zbj8]at e2
    split at e2<;>cases e2
   ·rw [zbh7 (by simpa using hi),zbk5,zbh2]at e2
    cases ej:cap[i - n]? with
    |none=>rw [ej]at e2;cases e2
    |some j =>
     rw [ej]at e2
     obtain⟨x',a1,a2,a3⟩:=hcap (i - n) j ej
     have:n+(i - n)=i:=by lia
     rw [this,e1]at a1
     cases a1
     refine⟨a3,j,a2,?_⟩
     have e2:(σ[j]?).getD none=some v:=by simpa using e2
     cases q:σ[j]? with
     |none=>rw [q]at e2;cases e2
     |some z=>rw [q]at e2;have:z=some v:=e2;rw [this])
 have loop:codeAny (model X.prog X.w) X.A (.compLoop (.ListComp elt [⟨tg,iter,ifs,0⟩] scope pos) 0 (.ref it) (.ref s2.heap.objs.size) (compEnvC scope (cellsFrom ((s2.heap.push { cls:=.type "list",data:=.seq ([]:List Value).toArray }).objs.size+1) scope.names (clOf X.env.cells scope.names [])) (s2.heap.push { cls:=.type "list",data:=.seq ([]:List Value).toArray }).objs.size X.env))
   (compPost (model X.prog X.w) X.A X.xe none (EP X pins σ Q) (.ref s2.heap.objs.size) (s2.heap.push { cls:=.type "list",data:=.seq ([]:List Value).toArray }).objs.size) { s2 with heap:=h₁,toks:=s2.toks }:=by
  generalize hY:(blk X N' scope (s2.heap.push { cls:=.type "list",data:=.seq ([]:List Value).toArray }).objs.size { s2 with heap:=s2.heap.push { cls:=.type "list",data:=.seq ([]:List Value).toArray },toks:=s2.toks } (upd H2 s2.heap.objs.size (.lst [])) fp pins)=Y at I4
  have st4:tn 0 h₁:=T.keep _ _ _ st2 fun b hb o e=>hk b o (zbe4 _ e)
  have stat:∀ {H':Hp},(∀b∈fp,H' b=none)→∀b∈fp,FpOk Y [] H' b:=fun hn b hb=>by
   subst hY
   obtain⟨f0,f1,f2',f3',f4,f5⟩:=f3 b hb
   exact⟨hn b hb,zbg0 (lt3 b hb),fun z=>(zbe3.mp (I3.stkSub b z)).elim f1 f2',.inl hb,fun x c e=>(by
    rcases S.old I3 e with z | z
    ·exact f4 x c z
    ·exact zbm4 (zbo0 (lt3 b hb) z)),fun p hp=>f5 p (by simpa using hp)⟩
  have hgY:PG Y tg g:=hY ▸ hg _ _ _ _ _
  have htY:PTs Y ifs tt:=hY ▸ ht _ _ _ _ _
  have heY:PE Y elt te:=hY ▸ he _ _ _ _ _
  have yp:Y.prog=X.prog:=by subst hY;rfl
  have yw:Y.w=X.w:=by subst hY;rfl
  have yK:Y.K=X.K:=by subst hY;rfl
  have yA:Y.A=X.A:=by subst hY;rfl
  have yc:Y.calm=true:=by subst hY;rfl
  have yx:Y.xe=fun _ _=>False:=by subst hY;rfl
  have ye:Y.env=compEnvC scope (cellsFrom ((s2.heap.push { cls:=.type "list",data:=.seq ([]:List Value).toArray }).objs.size+1) scope.names (clOf X.env.cells scope.names [])) (s2.heap.push { cls:=.type "list",data:=.seq ([]:List Value).toArray }).objs.size X.env:=by subst hY;rfl
  rw [← ye]
  refine zt3 (fun n s' => ∃i σ' H',Inv Y [] σ' H' s'∧tn i s'.heap∧(∀b∈fp,H' b=none)∧W i n σ' H') ?_ m0 ⟨0,_,_,I4,st4,fun b hb=>(f3 b hb).1,w0⟩
  rintro n s3 ⟨i,σ3,H3,I5,st3,fr3,w3⟩
  rcases turn i n σ3 H3 w3 with ⟨stop,qn⟩ | ⟨go,N,hNN,step⟩
  ·have d:=T.done Y yp yw yK yc i [] s3 σ3 H3 (fun _ _=>False) I5 (stat fr3) st3 stop
   rw [yA]at d
   refine thn d fun r s4 ⟨hr,I6⟩=>?_
   subst hr
   obtain⟨m,hm,_⟩:=I6.loc
   rw [ye]at hm
   refine⟨m,hm,fun h' hb=>⟨.ref s2.heap.objs.size,H3,?_,rfl,qn⟩⟩
   subst hY
   exact zae2 I3 f3 rfl I6 hb
  ·have d:=T.item Y yp yw yK yc i [] s3 σ3 H3 (fun _ _=>False) I5 (stat fr3) st3 go
   rw [yA]at d
   refine thn d fun r s4 ⟨u,hr,h4⟩=>?_
   subst hr
   refine thn h4 fun _ s5 ⟨x,H5,I6,r5,y5,st5,fr5⟩=>?_
   have I6':=I6.pinned (stat fr5) (T.obj _ _ st5)
   have a:=hgY _ s5 σ3 H5 x u _ I6' r5 (step x H5 y5)
   rw [yp,yw,yA,yx]at a
   refine thn a fun _ s6 ⟨σ6,H6,I7,q6⟩=>?_
   have b:=htY _ s6 σ6 H6 _ I7 q6
   rw [yp,yw,yA,yx]at b
   refine thn b fun ok s7 ⟨H7,I8,q7⟩=>?_
   have again:∀ {s9:zbe5}{H9:Hp},Inv Y ([]++zo8 fp s5.heap) σ6 H9 s9→N σ6 H9→∃m,m<n∧∃i σ' H',Inv Y [] σ' H' s9∧tn i s9.heap∧(∀b∈fp,H' b=none)∧W i m σ' H':=fun {s9 H9} I9 n9=>by
    obtain⟨m',hm,w9⟩:=hNN σ6 H9 n9
    refine⟨m',hm,i+1,σ6,H9,I9.unpinned,T.keep _ _ _ st5 fun b hb o e=>(I9.pin (b,o) (zbd3 _ (zbd3 _ (zf4 hb e)))).1,fun b hb=>?_,w9⟩
    obtain⟨o,e,d⟩:=T.obj _ _ st5 b hb
    exact (I9.pin (b,o) (zbd3 _ (zbd3 _ (zf4 hb e)))).2.1
   cases ok with
   |false=>exact iteF (again I8 (by simpa using q7))
   |true =>
    rw [if_pos rfl]at q7
    refine iteT ?_
    have c:=heY _ s7 σ6 H7 _ I8 q7
    rw [yp,yw,yA,yx]at c
    refine thn c fun z s8 ⟨vz,H8,I9,r9,vs,hv,hl,n9⟩=>?_
    have ap:=zx1 (X:=Y) ([]++zo8 fp s5.heap) s8 σ6 H8 (.ref s2.heap.objs.size) [vz] (.ref s2.heap.objs.size) [z] (fun _ H9=>N σ6 H9) I9 rfl (.cons r9 .nil) ⟨_,vs,vz,rfl,rfl,hv,hl,n9⟩
    rw [yp,yw,yA,yx]at ap
    exact thn ap fun _ s9 ⟨_,H9,I10,_,n10⟩=>again I10 n10
 exact codeAny_compStart_list loop (T.self _ 0 _ _ _ (T.keep _ _ _ st2 fun b hb o e=>hk b o (zbe4 _ e)) loop)
theorem zao9 {X:Cx}{i₀:Nat}{y₀:Str}{py spos:Pos}{elt tg iter:Expr}{ifs:List Expr}{scope:Scope}{pos:Pos}{n:Nat}{cap:List Nat}{N':List Str}{wi:TI}{g:TG}{tt:TT}{te:TE} (S:CompSc X scope) (hc:X.calm=true) (hi:PI X tg iter wi)
  (hN:N'.length=n+cap.length) (hcap:∀(k:Nat) (j:Nat),cap[k]?=some j→∃x,N'[n+k]?=some x∧X.N[j]?=some x∧(x,NameKind.free)∈scope.names)
  (hg:∀C s₃ H₃ fp pins,PG (blk X N' scope C s₃ H₃ fp pins) tg g) (ht:∀C s₃ H₃ fp pins,PTs (blk X N' scope C s₃ H₃ fp pins) ifs tt) (he:∀C s₃ H₃ fp pins,PE (blk X N' scope C s₃ H₃ fp pins) elt te)
  (hNd:X.N.Nodup) (hi₀:X.N[i₀]?=some y₀) (hy:Loc X.env.scope y₀) (hsw:swapsWith (.ListComp elt [⟨tg,iter,ifs,0⟩] scope pos) (some (.Name y₀ py)) spos.line X.env=pure true) (hf:X.fn y₀=true∨X.env.scope.names.lookup y₀=some .local)
  (hs:∀x,foldedSetIterable iter X.env x=pure x:=by intro _;rfl):PS X (.Assign [.Name y₀ py] (.ListComp elt [⟨tg,iter,ifs,0⟩] scope pos) spos) (fun D σ H=>zar9 n cap wi g tt te σ H fun v H1=>D.nx (σ.set i₀ (some v)) H1):=by
 intro pins s σ H Ed I h
 rw [exec_Assign_Name_used y₀ py _ spos hsw]
 refine zbf2 (wpAny_standAt (zbf2 ?_))
 show wpAny (model X.prog X.w) X.A (comprehension (.ListComp elt [⟨tg,iter,ifs,0⟩] scope pos) scope X.env _ (newList []) false (eval iter X.env) (some (assign (.Name y₀ py) X.env)) >>= fun _=>pure ()) _ _ s
 refine zbf2 (thn (Q:=fun _ s'=>SP X pins Ed .next s') ?_ fun _ s' hq=>zbg4 (zbg4 hq))
 refine wpAny_comprehension_free (use:=some (assign (.Name y₀ py) X.env)) rfl hs (zs7 (S.frees I.ok)) S.kind (fun x hx hl=>by rw [S.names x hx,hl]) (thn (hi pins s σ H _ I h) fun v s1 h1=>thn h1 fun itv s2 h2=>?_)
 obtain⟨it,fp,tn,J,H2,e,I2,T,st2,f2,R⟩:=h2
 subst e
 have lt2:∀b∈fp,b<s2.heap.objs.size:=fun b hb=>by obtain⟨o,e,_⟩:=T.obj _ _ st2 b hb;exact zbe6 e
 have hD:H2 s2.heap.objs.size=none:=I2.fresh
 obtain⟨W,⟨m0,w0⟩,turn⟩:=R s2.heap.objs.size hD
 have I3:Inv X pins σ (upd H2 s2.heap.objs.size (.lst [])) { s2 with heap:=s2.heap.push { cls:=.type "list",data:=.seq ([]:List Value).toArray },toks:=s2.toks }:=I2.lnew (t':=s2.toks) .nil (by simp)
 have f3:∀b∈fp,FpOk X pins (upd H2 s2.heap.objs.size (.lst [])) b:=fun b hb=>⟨by rw [zc8 (zbg0 (lt2 b hb))];exact (f2 b hb).1,(f2 b hb).2⟩
 refine wpAny_newObj_type (zk8 fun h₁ hns₁ hk hcl₁=>?_)
 have lt3:∀b∈fp,b<(s2.heap.push { cls:=.type "list",data:=.seq ([]:List Value).toArray }).objs.size:=fun b hb=>by rw [zbm2];exact zbk8 (lt2 b hb)
 have I4:Inv (blk X N' scope (s2.heap.push { cls:=.type "list",data:=.seq ([]:List Value).toArray }).objs.size { s2 with heap:=s2.heap.push { cls:=.type "list",data:=.seq ([]:List Value).toArray },toks:=s2.toks } (upd H2 s2.heap.objs.size (.lst [])) fp pins) [] (capV n cap σ) (upd H2 s2.heap.objs.size (.lst [])) { s2 with heap:=h₁,toks:=s2.toks } :=
  zam9 I3 S hc f3 lt3 (t1:=s2.toks) hns₁ hk hcl₁ (by simp [capV,hN]) (fun i x v e1 e2=>by
   unfold capV at e2
   by_cases hi:i<n
   ·rw [zbg8 (by simpa using hi),zbj8]at e2
    split at e2<;>cases e2
   ·rw [zbh7 (by simpa using hi),zbk5,zbh2]at e2
    cases ej:cap[i - n]? with
    |none=>rw [ej]at e2;cases e2
    |some j =>
     rw [ej]at e2
     obtain⟨x',a1,a2,a3⟩:=hcap (i - n) j ej
     have:n+(i - n)=i:=by lia
     rw [this,e1]at a1
     cases a1
     refine⟨a3,j,a2,?_⟩
     have e2:(σ[j]?).getD none=some v:=by simpa using e2
     cases q:σ[j]? with
     |none=>rw [q]at e2;cases e2
     |some z=>rw [q]at e2;have:z=some v:=e2;rw [this])
 have loop:codeAny (model X.prog X.w) X.A (.compLoop (.ListComp elt [⟨tg,iter,ifs,0⟩] scope pos) 0 (.ref it) (.ref s2.heap.objs.size) (compEnvC scope (cellsFrom ((s2.heap.push { cls:=.type "list",data:=.seq ([]:List Value).toArray }).objs.size+1) scope.names (clOf X.env.cells scope.names [])) (s2.heap.push { cls:=.type "list",data:=.seq ([]:List Value).toArray }).objs.size X.env))
   (compPost (model X.prog X.w) X.A X.xe (some (assign (.Name y₀ py) X.env)) (fun _ s'=>SP X pins Ed .next s') (.ref s2.heap.objs.size) (s2.heap.push { cls:=.type "list",data:=.seq ([]:List Value).toArray }).objs.size) { s2 with heap:=h₁,toks:=s2.toks }:=by
  generalize hY:(blk X N' scope (s2.heap.push { cls:=.type "list",data:=.seq ([]:List Value).toArray }).objs.size { s2 with heap:=s2.heap.push { cls:=.type "list",data:=.seq ([]:List Value).toArray },toks:=s2.toks } (upd H2 s2.heap.objs.size (.lst [])) fp pins)=Y at I4
  have st4:tn 0 h₁:=T.keep _ _ _ st2 fun b hb o e=>hk b o (zbe4 _ e)
  have stat:∀ {H':Hp},(∀b∈fp,H' b=none)→∀b∈fp,FpOk Y [] H' b:=fun hn b hb=>by
   subst hY
   obtain⟨f0,f1,f2',f3',f4,f5⟩:=f3 b hb
   exact⟨hn b hb,zbg0 (lt3 b hb),fun z=>(zbe3.mp (I3.stkSub b z)).elim f1 f2',.inl hb,fun x c e=>(by
    rcases S.old I3 e with z | z
    ·exact f4 x c z
    ·exact zbm4 (zbo0 (lt3 b hb) z)),fun p hp=>f5 p (by simpa using hp)⟩
  have hgY:PG Y tg g:=hY ▸ hg _ _ _ _ _
  have htY:PTs Y ifs tt:=hY ▸ ht _ _ _ _ _
  have heY:PE Y elt te:=hY ▸ he _ _ _ _ _
  have yp:Y.prog=X.prog:=by subst hY;rfl
  have yw:Y.w=X.w:=by subst hY;rfl
  have yK:Y.K=X.K:=by subst hY;rfl
  have yA:Y.A=X.A:=by subst hY;rfl
  have yc:Y.calm=true:=by subst hY;rfl
  have yx:Y.xe=fun _ _=>False:=by subst hY;rfl
  have ye:Y.env=compEnvC scope (cellsFrom ((s2.heap.push { cls:=.type "list",data:=.seq ([]:List Value).toArray }).objs.size+1) scope.names (clOf X.env.cells scope.names [])) (s2.heap.push { cls:=.type "list",data:=.seq ([]:List Value).toArray }).objs.size X.env:=by subst hY;rfl
  rw [← ye]
  refine zt3 (fun n s' => ∃i σ' H',Inv Y [] σ' H' s'∧tn i s'.heap∧(∀b∈fp,H' b=none)∧W i n σ' H') ?_ m0 ⟨0,_,_,I4,st4,fun b hb=>(f3 b hb).1,w0⟩
  rintro n s3 ⟨i,σ3,H3,I5,st3,fr3,w3⟩
  rcases turn i n σ3 H3 w3 with ⟨stop,qn⟩ | ⟨go,N,hNN,step⟩
  ·have d:=T.done Y yp yw yK yc i [] s3 σ3 H3 (fun _ _=>False) I5 (stat fr3) st3 stop
   rw [yA]at d
   refine thn d fun r s4 ⟨hr,I6⟩=>?_
   subst hr
   obtain⟨m,hm,_⟩:=I6.loc
   rw [ye]at hm
   subst hY
   have IX:=zae2 I3 f3 rfl I6 (h'':=s4.heap) ⟨rfl,fun _ _=>rfl⟩
   have cf:H3 (s2.heap.push { cls:=.type "list",data:=.seq ([]:List Value).toArray }).objs.size=none:=I6.free
   have fC:FpOk X pins H3 (s2.heap.push { cls:=.type "list",data:=.seq ([]:List Value).toArray }).objs.size:=I3.fpOk (zbf6 _) cf
   obtain⟨c0,c1,c2,c3,c4,c5⟩:=fC
   refine wpAny_assign_Name (zae7 (s:=s4) IX hNd hi₀ hy (v:=.ref s2.heap.objs.size) rfl (fun s5 I7 ⟨a,sb,ha⟩=>?_) hf)
   have na:a≠(s2.heap.push { cls:=.type "list",data:=.seq ([]:List Value).toArray }).objs.size:=by
    rcases ha with z | z
    ·rw [z];exact fun w=>c1 w.symm
    ·exact c4 _ _ z
   refine⟨m,hm.sameBut sb (Ne.symm na),fun h' hb=>⟨_,H3,?_,qn⟩⟩
   exact I7.turned (t':=s5.toks) (fun b o n e=>(hb.2 b n).trans e) c0 c1 c3 c4 c5
  ·have d:=T.item Y yp yw yK yc i [] s3 σ3 H3 (fun _ _=>False) I5 (stat fr3) st3 go
   rw [yA]at d
   refine thn d fun r s4 ⟨u,hr,h4⟩=>?_
   subst hr
   refine thn h4 fun _ s5 ⟨x,H5,I6,r5,y5,st5,fr5⟩=>?_
   have I6':=I6.pinned (stat fr5) (T.obj _ _ st5)
   have a:=hgY _ s5 σ3 H5 x u _ I6' r5 (step x H5 y5)
   rw [yp,yw,yA,yx]at a
   refine thn a fun _ s6 ⟨σ6,H6,I7,q6⟩=>?_
   have b:=htY _ s6 σ6 H6 _ I7 q6
   rw [yp,yw,yA,yx]at b
   refine thn b fun ok s7 ⟨H7,I8,q7⟩=>?_
   have again:∀ {s9:zbe5}{H9:Hp},Inv Y ([]++zo8 fp s5.heap) σ6 H9 s9→N σ6 H9→∃m,m<n∧∃i σ' H',Inv Y [] σ' H' s9∧tn i s9.heap∧(∀b∈fp,H' b=none)∧W i m σ' H':=fun {s9 H9} I9 n9=>by
    obtain⟨m',hm,w9⟩:=hNN σ6 H9 n9
    refine⟨m',hm,i+1,σ6,H9,I9.unpinned,T.keep _ _ _ st5 fun b hb o e=>(I9.pin (b,o) (zbd3 _ (zbd3 _ (zf4 hb e)))).1,fun b hb=>?_,w9⟩
    obtain⟨o,e,d⟩:=T.obj _ _ st5 b hb
    exact (I9.pin (b,o) (zbd3 _ (zbd3 _ (zf4 hb e)))).2.1
   cases ok with
   |false=>exact iteF (again I8 (by simpa using q7))
   |true =>
    rw [if_pos rfl]at q7
    refine iteT ?_
    have c:=heY _ s7 σ6 H7 _ I8 q7
    rw [yp,yw,yA,yx]at c
    refine thn c fun z s8 ⟨vz,H8,I9,r9,vs,hv,hl,n9⟩=>?_
    have ap:=zx1 (X:=Y) ([]++zo8 fp s5.heap) s8 σ6 H8 (.ref s2.heap.objs.size) [vz] (.ref s2.heap.objs.size) [z] (fun _ H9=>N σ6 H9) I9 rfl (.cons r9 .nil) ⟨_,vs,vz,rfl,rfl,hv,hl,n9⟩
    rw [yp,yw,yA,yx]at ap
    exact thn ap fun _ s9 ⟨_,H9,I10,_,n10⟩=>again I10 n10
 exact codeAny_compStart_list loop (T.self _ 0 _ _ _ (T.keep _ _ _ st2 fun b hb o e=>hk b o (zbe4 _ e)) loop)
end L2
namespace DL
open PySem.Spec L2
structure Src (K:zbd4) (ds:List D) (J:It) (Good:List Addr→Hp→Prop):Prop where
 keep:∀P H P' H',Good P H→Same (hide P H) (hide P' H')→Good P' H'
 stop:∀P H,Good P H→J.stop ds.length H
 go:∀P H i,Good P H→i<ds.length→J.go i H
 yld:∀P H i x H',Good P H→Lists H P→J.yld i H x H'→i<ds.length→Same H H'∧∃d,ds[i]?=some d∧Rep K (hide P H') d x
abbrev DI:=Th→Option (Bool×List D)
def hidF (b:Bool) (A F:List Addr):List Addr:=if b then A++F else F
noncomputable def dI (K:zbd4) (F:List Addr) (fs:DI):TI:=fun σ H R => ∃A t b ds,RS K F H A t σ∧fs t=some (b,ds)∧∀J H1 Good,Same H H1→Src K ds J Good→Good (hidF b A F) H1→R J H1
theorem PI.imp {X:Cx}{tg iter:Expr}{t t':TI} (h:PI X tg iter t) (i:∀σ H R,t' σ H R→t σ H R):PI X tg iter t':=fun pins s σ H R I q=>h pins s σ H R I (i σ H R q)
def fsL (f:DE):DI:=fun t=>(f t).bind fun r=>match r.d with
 |.lst ds=>some (r.ok,ds)
 |_=>none
def fsE (f:DE):DI:=fun t=>(f t).bind fun r=>match r.d with
 |.lst ds=>some (r.ok,zq1 0 ds)
 |_=>none
noncomputable def fsR1 (f:DE):DI:=fun t=>(f t).bind fun r=>match r.d with
 |.int n=>if bigI n then some (true,rngD 0 n.toNat) else none
 |_=>none
noncomputable def fsR2 (f f':DE):DI:=fun t=>(f t).bind fun r=>(f' t).bind fun r'=>match r.d,r'.d with
 |.int lo,.int n=>if bigI n&&bigI lo then some (true,rngD lo (n - lo).toNat) else none
 |_,_=>none
theorem zan6 {K:zbd4}{p:Addr}{vs:List V}{ds:List D} (hl:vs.length=ds.length):Src K ds (Itl K p) (fun P H=>SqL K (hide P H) p vs∧Reps K (hide P H) ds vs) where
 keep:=fun P H P' H' q s=>⟨SqL.mono s q.1,Reps.mono s q.2⟩
 stop:=fun P H q=>⟨vs,SqL.mono (za9 _ _) q.1,by lia⟩
 go:=fun P H i q hi=>⟨vs,vs[i]'(by lia),SqL.mono (za9 _ _) q.1,zbe1 (by lia)⟩
 yld:=fun P H i x H' q mu y hi=>by
  obtain⟨e1,e2⟩:=y
  subst e1
  exact⟨Same.refl _,q.2.getV (e2 vs (SqL.mono (za9 _ _) q.1))⟩
theorem src_enum {K:zbd4}{p:Addr}{vs:List V}{ds:List D} (hl:vs.length=ds.length):Src K (zq1 0 ds) (Ite K p) (fun P H=>SqL K (hide P H) p vs∧Reps K (hide P H) ds vs) where
 keep:=fun P H P' H' q s=>⟨SqL.mono s q.1,Reps.mono s q.2⟩
 stop:=fun P H q=>⟨vs,SqL.mono (za9 _ _) q.1,by rw [zr8];lia⟩
 go:=fun P H i q hi=>by
  rw [zr8]at hi
  exact⟨vs,vs[i]'(by lia),SqL.mono (za9 _ _) q.1,zbe1 (by lia)⟩
 yld:=fun P H i x H' q mu y hi=>by
  obtain⟨l,v,hl0,rfl,rfl,hv⟩:=y
  obtain⟨d,hd,rd⟩:=q.2.getV (hv vs (SqL.mono (za9 _ _) q.1))
  have sm:=zd1 (o:=HO.tup [.int i,v]) hl0
  refine⟨sm,_,zag9 0 ds i d hd,?_⟩
  rw [zbp1]
  exact .tup (SqT.of (zc2 zb9 (zd2 mu hl0))) (.cons (.int _) (.cons (Rep.mono (zc3 sm) rd) .nil))
theorem zai9 {K:zbd4}{lo:Int}{n:Nat}:Src K (rngD lo n) (Itr lo n) (fun _ _=>True) where
 keep:=fun _ _ _ _ _ _=>trivial
 stop:=fun P H _=>by rw [zs0];exact zbf6 n
 go:=fun P H i _ hi=>by rw [zs0]at hi;exact hi
 yld:=fun P H i x H' _ _ y hi=>by
  rw [zs0]at hi
  obtain⟨e1,e2⟩:=y
  subst e1
  refine⟨Same.refl _,.int (lo+i),by simp [rngD,hi],?_⟩
  rw [e2];exact .int _
theorem RepEv.hidF {K:zbd4}{F A:List Addr}{H H':Hp}{r:Ev}{v:V} (m:Lists H (A++F)) (gs:Same H H') (q:RepEv K F A H H' r v):Rep K (hide (DL.hidF r.ok A F) H') r.d v:=by
 unfold DL.hidF
 split
 ·rename_i c;exact q.clean m gs c
 ·exact q.cleanF m
section
variable {X:Cx}{F:List Addr}{a b c:Expr}{es:List Expr}{fa fb fc:DE}{pos:Pos}{tg:Expr}
theorem zr1 (hl:PE X a (dE X.K F fa)):PI X tg a (dI X.K F (fsL fa)):=by
 refine PI.imp (zak5 hl) ?_
 rintro σ H R ⟨A,t,b,ds,RR,e,h⟩
 unfold fsL at e
 cases e1:fa t with
 |none=>rw [e1]at e;cases e
 |some r =>
  rw [e1]at e
  refine⟨A,t,r,RR,e1,fun v H1 gs q=>?_⟩
  have e:(match r.d with | .lst ds=>some (r.ok,ds) |_=>none)=some (b,ds):=e
  split at e
  case h_2=>cases e
  rename_i ds' z
  cases e
  have cl:=RepEv.hidF RR.mu gs q
  rw [z]at cl
  cases cl with
  |@lst _ p vs h1 h2=>exact⟨p,rfl,⟨vs,SqL.mono (za9 _ _) h1⟩,h _ H1 _ gs (zan6 h2.length) ⟨h1,h2⟩⟩
theorem pid_enum {elts:List Expr}{kk:Nat}{tp p1 p2:Pos} (hge:Gl X "enumerate") (hm:X.mg "enumerate"=none) (hl:PE X a (dE X.K F fa)) (hst:zbe7 [a] X.env=[(false,eval a X.env)]:=by rfl):PI X (.Tuple elts kk tp) (.Call (.Name "enumerate" p1) [a] [] p2) (dI X.K F (fsE fa)):=by
 refine PI.imp (pi_enum hge hm hl hst) ?_
 rintro σ H R ⟨A,t,b,ds,RR,e,h⟩
 unfold fsE at e
 cases e1:fa t with
 |none=>rw [e1]at e;cases e
 |some r =>
  rw [e1]at e
  refine⟨A,t,r,RR,e1,fun v H1 gs q=>?_⟩
  have e:(match r.d with | .lst ds=>some (r.ok,zq1 0 ds) |_=>none)=some (b,ds):=e
  split at e
  case h_2=>cases e
  rename_i ds' z
  cases e
  have cl:=RepEv.hidF RR.mu gs q
  rw [z]at cl
  cases cl with
  |@lst _ p vs h1 h2=>exact⟨p,rfl,⟨vs,SqL.mono (za9 _ _) h1⟩,h _ H1 _ gs (src_enum h2.length) ⟨h1,h2⟩⟩
theorem zu3 {p1 p2:Pos} (hgr:Gl X "range") (hm:X.mg "range"=none) (ha:PE X a (dE X.K F fa)) (hst:zbe7 [a] X.env=[(false,eval a X.env)]:=by rfl):PI X tg (.Call (.Name "range" p1) [a] [] p2) (dI X.K F (fsR1 fa)):=by
 refine PI.imp (zw4 hgr hm (zf7 ha zl3 hst) hst) ?_
 rintro σ H R ⟨A,t,b,ds,RR,e,h⟩
 unfold fsR1 at e
 cases e1:fa t with
 |none=>rw [e1]at e;cases e
 |some r =>
  rw [e1]at e
  refine⟨A,t,r,RR,e1,fun v H1 gs q=>?_⟩
  have e:(match r.d with | .int n=>if bigI n then some (true,rngD 0 n.toNat) else none | _=>none)=some (b,ds):=e
  split at e
  case h_2=>cases e
  rename_i n z
  split at e
  case isFalse=>cases e
  rename_i ok
  simp only [bigI,decide_eq_true_eq]at ok
  cases e
  have p:=q.full
  rw [z]at p
  cases zd7 p
  exact⟨n,rfl,by lia,by lia,h _ H1 _ gs zai9 trivial⟩
theorem zap0 {p1 p2:Pos} (hgr:Gl X "range") (hm:X.mg "range"=none) (ha:PE X a (dE X.K F fa)) (hb:PE X b (dE X.K F fb)) (hst:zbe7 [a,b] X.env=[(false,eval a X.env),(false,eval b X.env)]:=by rfl) (hst2:zbe7 [b] X.env=[(false,eval b X.env)]:=by rfl) :
  PI X tg (.Call (.Name "range" p1) [a,b] [] p2) (dI X.K F (fsR2 fa fb)):=by
 refine PI.imp (zaf1 hgr hm (zf7 ha (zf7 hb zl3 hst2) (by rw [hst,hst2])) hst hst2) ?_
 rintro σ H R ⟨A,t,b,ds,RR,e,h⟩
 unfold fsR2 at e
 cases e1:fa t with
 |none=>rw [e1]at e;cases e
 |some r =>
  cases e2:fb t with
  |none=>rw [e1,e2]at e;cases e
  |some r' =>
   rw [e1,e2]at e
   refine⟨A,t,r,RR,e1,fun v H1 gs q=>⟨A,t,r',RR.grow gs,e2,fun v2 H2 gs2 q2=>?_⟩⟩
   have e:(match r.d,r'.d with
    |.int lo,.int n=>if bigI n&&bigI lo then some (true,rngD lo (n - lo).toNat) else none
    |_,_=>none)=some (b,ds):=e
   split at e
   case h_2=>cases e
   rename_i lo n z1 z2
   split at e
   case isFalse=>cases e
   rename_i ok
   simp only [bigI,zbe0,decide_eq_true_eq]at ok
   cases e
   have p:=q.full
   rw [z1]at p
   cases zd7 p
   have p':=q2.full
   rw [z2]at p'
   cases zd7 p'
   exact⟨lo,n,rfl,⟨by lia,by lia,by lia,by lia⟩,h _ H2 _ (gs.trans gs2) zai9 trivial⟩
end
noncomputable def capD (t:Th):List Nat→Option (Bool×List D)
 |[]=>some (true,[])
 |j::js=>(capD t js).bind fun q=>match t[j]? with
  |some (.val d)=>some (q.1,d::q.2)
  |some (.own xs)=>some (false,.lst xs::q.2)
  |some (.dp d)=>some (false,d::q.2)
  |_=>none
theorem zv0 {K:zbd4}{F A:List Addr}{H:Hp}{t:Th}{σ:L2.St} (R:RS K F H A t σ):∀ {cap:List Nat}{b:Bool}{ds:List D},capD t cap=some (b,ds)→∃vs:List V,(cap.map fun j=>(σ[j]?).getD none)=vs.map some∧Reps K (hide (hidF b A F) H) ds vs
 |[],b,ds,e=>by cases e;exact⟨[],rfl,.nil⟩
 |j::js,b,ds,e=>by
  unfold capD at e
  cases e1:capD t js with
  |none=>rw [e1]at e;cases e
  |some q =>
   obtain⟨b',ds'⟩:=q
   rw [e1]at e
   obtain⟨vs,h1,h2⟩:=zv0 R e1
   have e:(match t[j]? with
    |some (.val d)=>some (b',d::ds')
    |some (.own xs)=>some (false,.lst xs::ds')
    |some (.dp d)=>some (false,d::ds')
    |_=>none)=some (b,ds):=e
   have less:∀c:Bool,Same (hide (A++F) H) (hide (hidF c A F) H):=fun c=>zb2 H fun x z=>by
    cases c with
    |true=>exact z
    |false=>exact zbd3 _ z
   split at e
   ·rename_i d z
    cases e
    obtain⟨v,a1,a2⟩:=R.rel.getVal z
    exact⟨v::vs,by simp [a1,h1],.cons (Rep.mono (less _) a2) h2⟩
   ·rename_i xs z
    cases e
    obtain⟨p,us,a1,a2,a3,a4⟩:=R.rel.getOwn z
    refine⟨.ref p::vs,by simp [a1,h1],.cons (.lst (SqL.of (zc2 a3 (R.dj p a2))) (Reps.mono (less false) a4)) (Reps.mono (zb2 H fun x z=>?_) h2)⟩
    cases b' with
    |true=>exact zbd3 _ z
    |false=>exact z
   ·rename_i d z
    cases e
    obtain⟨v,B,a1,a2,a3,a4⟩:=R.rel.getDp R.nd z
    refine⟨v::vs,by simp [a1,h1],.cons (a4.rep (less false) fun b hb o w=>zc2 w (R.dj b (a2 b hb))) (Reps.mono (zb2 H fun x z=>?_) h2)⟩
    cases b' with
    |true=>exact zbd3 _ z
    |false=>exact z
   ·cases e
noncomputable def zf1 (k:D→Th→Option Th) (ft:DT) (fe:DE):List D→Th→Option (List D)
 |[],_=>some []
 |d::ds,t=>(k d t).bind fun t1=>(ft t1).bind fun b=>if b then (fe t1).bind fun r=>(zf1 k ft fe ds t1).map fun xs=>r.d::xs else zf1 k ft fe ds t1
noncomputable def zg4 (n:Nat) (cap:List Nat) (fs:DI) (k:D→Th→Option Th) (ft:DT) (fe:DE):DE:=fun t=>(fs t).bind fun q=>(capD t cap).bind fun c=>if q.2.length≤50000 then (zf1 k ft fe q.2 (zbe8 n Sl.no++c.2.map Sl.val)).bind fun xs=>if (q.1&&c.1)||flats xs then some (.nw xs) else none else none
theorem zy1 {k:D→Th→Option Th}{ft:DT}{fe:DE}:∀ {ds:List D}{t:Th}{xs:List D},zf1 k ft fe ds t=some xs→xs.length≤ds.length
 |[],t,xs,e=>by cases e;simp
 |d::ds,t,xs,e=>by
  unfold zf1 at e
  cases e1:k d t with
  |none=>rw [e1]at e;cases e
  |some t1 =>
   rw [e1]at e
   have e:((ft t1).bind fun b=>if b then (fe t1).bind fun r=>(zf1 k ft fe ds t1).map fun xs=>r.d::xs else zf1 k ft fe ds t1)=some xs:=e
   cases e2:ft t1 with
   |none=>rw [e2]at e;cases e
   |some b =>
    rw [e2]at e
    cases b with
    |false=>have:=zy1 (ds:=ds) (t:=t1) e;simp;lia
    |true =>
     have e:((fe t1).bind fun r=>(zf1 k ft fe ds t1).map fun xs=>r.d::xs)=some xs:=e
     cases e3:fe t1 with
     |none=>rw [e3]at e;cases e
     |some r =>
      rw [e3]at e
      have e:((zf1 k ft fe ds t1).map fun xs=>r.d::xs)=some xs:=e
      cases e4:zf1 k ft fe ds t1 with
      |none=>rw [e4]at e;cases e
      |some ys=>rw [e4]at e;cases e;have:=zy1 e4;simp;lia
end DL
namespace DL
open PySem.Spec L2
theorem RSl.noVals {K:zbd4}{H0 H:Hp}{vs:List V}{ds:List D} (r:Reps K H0 ds vs):∀n,RSl K H0 H (zbe8 n Sl.no++ds.map Sl.val) (zbe8 n none++vs.map some) []
 |0=>by simpa using RSl.start (t:=[]) (σ:=[]) .nil r
 |n+1=>.no (RSl.noVals r n)
theorem zh2 {P:List Addr}{H:Hp}{p:Addr}{o:HO} (hp:p∈P):Same (hide P H) (hide P (upd H p o)):=fun b u e=>by
 obtain⟨n,e⟩:=zh9 e
 exact zc2 (by rw [zc8 (fun z=>n (by rw [z];exact hp))];exact e) n
theorem RS.updF {K:zbd4}{P:List Addr}{H:Hp}{t:Th}{σ:L2.St}{p:Addr}{ws:List V} (R:RS K P H [] t σ) (hp:p∈P):RS K P (upd H p (.lst ws)) [] t σ where
 mu:=fun q hq=>by
  by_cases z:q=p
  ·exact⟨mL ws,by rw [z];exact zb9⟩
  ·obtain⟨us,w⟩:=R.mu q hq
   exact⟨us,by rw [zc8 z];exact w⟩
 nd:=zbj1
 dj:=fun p hp=>by cases hp
 rel:=RSl.mono (zh2 hp) R.rel fun q hq=>by cases hq
theorem zo3 {K:zbd4}{P A:List Addr}{H:Hp}{t:Th}{σ:L2.St} (R:RS K P H A t σ) (g:Gr [] H A H):A=[]:=by
 cases A with
 |nil=>rfl
 |cons a r =>
  rcases g.nw a (zbd7 ..) with z | z
  ·cases z
  ·obtain⟨vs,q⟩:=R.mu a (zbd5 _ (zbd7 ..))
   rw [q]at z;cases z
def zf8:DT:=fun _=>some true
theorem PTs.imp {Y:Cx}{ifs:List Expr}{t t':TT} (h:PTs Y ifs t) (i:∀σ H Q,t' σ H Q→t σ H Q):PTs Y ifs t':=fun pins s σ H Q I q=>h pins s σ H Q I (i σ H Q q)
theorem zl9 {Y:Cx}{F:List Addr}:PTs Y [] (dT Y.K F zf8):=PTs.imp zav4 fun σ H Q ⟨A,t,b,R,e,h⟩=>by cases e;exact h H (Same.refl H)
theorem zq9 {Y:Cx}{F:List Addr}{c:Expr}{ft:DT} (h:PT Y c (dT Y.K F ft)):PTs Y [c] (dT Y.K F ft):=zav3 h
theorem zan4 {X:Cx}{F:List Addr}{n:Nat}{cap:List Nat}{fs:DI}{g:TG}{kt:D→Th→Option Th}{ft:DT}{fe:DE} (hk:∀F',TgOk X.K F' g kt) {σ:L2.St}{H:Hp}{Q:VK} (h:dE X.K F (zg4 n cap fs kt ft fe) σ H Q) :
  zar9 n cap (dI X.K F fs) g (fun σ H Q => ∃F',dT X.K F' ft σ H Q) (fun σ H Q => ∃F',dE X.K F' fe σ H Q) σ H Q:=by
 obtain⟨A,t,r,R,e,h⟩:=h
 unfold zg4 at e
 cases e1:fs t with
 |none=>rw [e1]at e;cases e
 |some q =>
  obtain⟨b,ds⟩:=q
  cases e2:capD t cap with
  |none=>rw [e1,e2]at e;cases e
  |some q2 =>
   obtain⟨c,caps⟩:=q2
   rw [e1,e2]at e
   have e:(if ds.length≤50000 then (zf1 kt ft fe ds (zbe8 n Sl.no++caps.map Sl.val)).bind fun xs=>if (b&&c)||flats xs then some (Ev.nw xs) else none else none)=some r:=e
   split at e
   case isFalse=>cases e
   rename_i hlen
   cases e3:zf1 kt ft fe ds (zbe8 n Sl.no++caps.map Sl.val) with
   |none=>rw [e3]at e;cases e
   |some xs =>
    rw [e3]at e
    have e:(if (b&&c)||flats xs then some (Ev.nw xs) else none)=some r:=e
    split at e
    case isFalse=>cases e
    rename_i ok
    cases e
    have xl:=zy1 e3
    obtain⟨cvs,cv1,cv2⟩:=zv0 R e2
    -- what is hidden from the block,but its own list
    obtain⟨F',F'def⟩:∃F',F'=hidF (b&&c) A F:=⟨_,rfl⟩
    have subF:∀x∈F',x∈A++F:=fun x hx=>by
     rw [F'def]at hx
     unfold hidF at hx
     split at hx
     ·exact hx
     ·exact zbd3 _ hx
    have lessB:∀H:Hp,Same (hide (hidF b A F) H) (hide F' H):=fun H=>zb2 H fun x hx=>by
     rw [F'def]at hx
     cases b<;>cases c<;>simp [hidF]at hx ⊢<;>first | exact hx | exact .inr hx | (rcases hx with z | z<;>simp [z])
    have lessC:∀H:Hp,Same (hide (hidF c A F) H) (hide F' H):=fun H=>zb2 H fun x hx=>by
     rw [F'def]at hx
     cases b<;>cases c<;>simp [hidF]at hx ⊢<;>first | exact hx | exact .inr hx | (rcases hx with z | z<;>simp [z])
    have wi:zar9 n cap (dI X.K F fs) g (fun σ H Q => ∃F',dT X.K F' ft σ H Q) (fun σ H Q => ∃F',dE X.K F' fe σ H Q) σ H Q:=by
     refine⟨A,t,b,ds,R,e1,fun J H1 Good gs src gd Dd hD=>?_⟩
     have H1A:Lists H1 (A++F):=R.mu.mono gs
     have st0:Same (hide F' H1) (hide (Dd::F') (upd H1 Dd (.lst []))):=zj0 hD
     refine⟨fun i m σ' H'=>i+m=ds.length∧∃th acc rest vs,RS X.K (Dd::F') H' [] th σ'∧zf1 kt ft fe (ds.drop i) th=some rest∧acc++rest=xs∧H' Dd=some (.lst vs)∧Reps X.K (hide (Dd::F') H') acc vs∧Same H1 H'∧Good (Dd::F') H',
      ⟨ds.length,by lia,_,[],xs,[],⟨?_,zbj1,fun p hp=>(by cases hp),?_⟩,by simpa using e3,rfl,zb9,.nil,zd1 hD,src.keep _ _ _ _ gd (fun b o z=>st0 _ _ (lessB _ _ _ z))⟩,?_⟩
     ·intro q hq
      have hq:q∈Dd::F':=hq
      rcases zbe3.mp hq with z | z
      ·exact⟨mL [],by rw [z];exact zb9⟩
      ·obtain⟨us,w⟩:=H1A q (subF q z)
       exact⟨us,(zd1 hD) _ _ w⟩
     ·unfold capV
      rw [cv1]
      exact RSl.noVals (Reps.mono (fun b o z=>st0 _ _ (lessC H1 _ _ (zc3 gs _ _ z))) cv2) n
     ·rintro i m σ' H' ⟨hm,th,acc,rest,vs,RR,ec,ex,hv,hr,sm,gg⟩
      cases m with
      |zero =>
       have z:i=ds.length:=by lia
       subst z
       rw [zbk1]at ec
       cases ec
       rw [zbi4]at ex
       subst ex
       refine .inl ⟨src.stop _ _ gg,h _ H' (gs.trans sm) ⟨Dd,vs,rfl,Same.free gs hD,hv,?_⟩⟩
       rcases zbn4 _ _ ▸ ok with k | k
       ·have:F'=A++F:=by rw [F'def];unfold hidF;rw [k];rfl
        rw [← this];exact hr
       ·refine Reps.hid (P:=Dd ::(A++F)) (fun q hq=>?_) k (Reps.mono (za9 _ _) hr)
        rcases zbe3.mp hq with z | z
        ·exact⟨mL vs,by rw [z];exact hv⟩
        ·obtain⟨us,w⟩:=H1A q z
         exact⟨us,sm _ _ w⟩
      |succ m =>
       have hil:i<ds.length:=by lia
       refine .inr ⟨src.go _ _ i gg hil,fun σ' H'=>i+1+m=ds.length∧∃th acc rest vs,RS X.K (Dd::F') H' [] th σ'∧zf1 kt ft fe (ds.drop (i+1)) th=some rest∧acc++rest=xs∧H' Dd=some (.lst vs)∧Reps X.K (hide (Dd::F') H') acc vs∧Same H1 H'∧Good (Dd::F') H',
        fun σ' H' q=>⟨m,zbi6 m,q⟩,fun x H2 y=>?_⟩
       obtain⟨gs2,d,hd,rd⟩:=src.yld _ _ i x H2 gg RR.mu y hil
       have ed:ds.drop i=d::ds.drop (i+1):=by
        have hd':ds[i]=d:=by
         rw [zbe1 hil]at hd
         exact Option.some.inj hd
        rw [← hd']
        exact zbg9 hil
       rw [ed]at ec
       unfold zf1 at ec
       cases k1:kt d th with
       |none=>rw [k1]at ec;cases ec
       |some t1 =>
        rw [k1]at ec
        have ec:((ft t1).bind fun b=>if b then (fe t1).bind fun r=>(zf1 kt ft fe (ds.drop (i+1)) t1).map fun xs=>r.d::xs else zf1 kt ft fe (ds.drop (i+1)) t1)=some rest:=ec
        refine hk (Dd::F') σ' H2 [] th t1 d x _ (RR.grow gs2) rd k1 fun σ2 A2 gr2 R2=>?_
        have A20:=zo3 R2 gr2
        subst A20
        cases k2:ft t1 with
        |none=>rw [k2]at ec;cases ec
        |some bb =>
         rw [k2]at ec
         refine⟨Dd::F',[],t1,bb,R2,k2,fun H3 gs3=>?_⟩
         cases bb with
         |false =>
          refine iteF ⟨by lia,t1,acc,rest,vs,R2.grow gs3,ec,ex,gs3 _ _ (gs2 _ _ hv),Reps.mono (zc3 (gs2.trans gs3)) hr,(sm.trans gs2).trans gs3,src.keep _ _ _ _ gg (zc3 (gs2.trans gs3))⟩
         |true =>
          have ec:((fe t1).bind fun r=>(zf1 kt ft fe (ds.drop (i+1)) t1).map fun xs=>r.d::xs)=some rest:=ec
          cases k3:fe t1 with
          |none=>rw [k3]at ec;cases ec
          |some re =>
           rw [k3]at ec
           have ec:((zf1 kt ft fe (ds.drop (i+1)) t1).map fun xs=>re.d::xs)=some rest:=ec
           cases k4:zf1 kt ft fe (ds.drop (i+1)) t1 with
           |none=>rw [k4]at ec;cases ec
           |some ys =>
            rw [k4]at ec
            cases ec
            refine iteT ⟨Dd::F',[],t1,re,R2.grow gs3,k3,fun v H4 gs4 q4=>⟨vs,gs4 _ _ (gs3 _ _ (gs2 _ _ hv)),?_,?_⟩⟩
            ·have l1:=hr.length
             have l2:acc.length+(ys.length+1)=xs.length:=by rw [← ex];simp
             exact zbf0 (show vs.length<50000 by lia) (by rw [sizeLine_eq];decide)
            ·have s4:=(gs2.trans gs3).trans gs4
             have hu:Same (hide (Dd::F') H4) (hide (Dd::F') (upd H4 Dd (.lst (vs++[v])))):=zh2 (zbd7 ..)
             have rv:=q4.cleanF ((R2.grow gs3).mu)
             refine⟨by lia,t1,acc++[re.d],ys,vs++[v],RS.updF ((R2.grow gs3).grow gs4) (zbd7 ..),k4,by simpa using ex,zb9,?_,?_,?_⟩
             ·exact (Reps.mono (fun b o z=>hu _ _ (zc3 s4 _ _ z)) hr).app (Reps.one (Rep.mono hu rv))
             ·exact fun b o z=>by
               rw [zc8 (fun w=>by rw [w,hD]at z;cases z)]
               exact s4 _ _ (sm _ _ z)
             ·exact src.keep _ _ _ _ gg (fun b o z=>hu _ _ (zc3 s4 _ _ z))
    exact wi
theorem ped_comp {X:Cx}{F:List Addr}{elt tg iter:Expr}{ifs:List Expr}{scope:Scope}{pos:Pos}{n:Nat}{cap:List Nat}{N':List Str}{fs:DI}{g:TG}{kt:D→Th→Option Th}{ft:DT}{fe:DE} (S:CompSc X scope) (hc:X.calm=true) (hi:PI X tg iter (dI X.K F fs))
  (hN:N'.length=n+cap.length) (hcap:∀(k:Nat) (j:Nat),cap[k]?=some j→∃x,N'[n+k]?=some x∧X.N[j]?=some x∧(x,NameKind.free)∈scope.names)
  (hg:∀C s₃ H₃ fp pins,PG (blk X N' scope C s₃ H₃ fp pins) tg g) (hk:∀F',TgOk X.K F' g kt) (ht:∀C s₃ H₃ fp pins F',PTs (blk X N' scope C s₃ H₃ fp pins) ifs (dT X.K F' ft)) (he:∀C s₃ H₃ fp pins F',PE (blk X N' scope C s₃ H₃ fp pins) elt (dE X.K F' fe))
  (hs:∀x,foldedSetIterable iter X.env x=pure x:=by intro _;rfl):PE X (.ListComp elt [⟨tg,iter,ifs,0⟩] scope pos) (dE X.K F (zg4 n cap fs kt ft fe)) :=
 PE.imp (zax1 (g:=g) S hc hi hN hcap hg (fun C s₃ H₃ fp pins pins' s σ H Q I ⟨F',q⟩=>ht C s₃ H₃ fp pins F' pins' s σ H Q I q) (fun C s₃ H₃ fp pins pins' s σ H Q I ⟨F',q⟩=>he C s₃ H₃ fp pins F' pins' s σ H Q I q) hs) fun _ _ _ h=>zan4 hk h
noncomputable def zy0 (names:List (Str×NameKind)) (kind:Str→Option NameKind):Bool:=names.all fun y=>(y.2 != .free||kind y.1 == some .cell||kind y.1 == some .free)&&(names.lookup y.1 == some y.2)
theorem zah9 {X:Cx}{scope:Scope} (hk:scope.kind=.function:=by rfl) (h:zy0 scope.names X.env.kindOf=true:=by rfl):CompSc X scope:=by
 have h':=zbm9.mp h
 refine⟨hk,fun y hy hf=>?_,fun y hy=>?_⟩
 ·have:=h' y hy
  simp only [zbe0,zbn4,bne_iff_ne,beq_iff_eq]at this
  rcases this.1 with (z | z) |z
  ·exact absurd hf z
  ·exact .inl z
  ·exact .inr z
 ·have:=h' y hy
  simp only [zbe0,beq_iff_eq]at this
  exact this.2
noncomputable def zae0 (N' N:List Str) (n:Nat) (names:List (Str×NameKind)):Nat→List Nat→Bool
 |_,[]=>true
 |k,j::js=>(match N'[n+k]?,N[j]? with
  |some x,some y=>x == y&&names.any fun z=>z.1 == x&&z.2 == .free
  |_,_=>false)&&zae0 N' N n names (k+1) js
theorem zo4 {N' N:List Str}{n:Nat}{names:List (Str×NameKind)}:∀ {cap:List Nat}{k0:Nat},zae0 N' N n names k0 cap=true→∀(k j:Nat),cap[k]?=some j→∃x,N'[n+(k0+k)]?=some x∧N[j]?=some x∧(x,NameKind.free)∈names
 |[],k0,_,k,j,e=>by simp at e
 |i::js,k0,h,k,j,e=>by
  unfold zae0 at h
  rw [zbe0]at h
  cases k with
  |zero =>
   simp at e
   subst e
   have h1:=h.1
   split at h1
   ·rename_i x y z1 z2
    rw [zbe0,beq_iff_eq,List.any_eq_true]at h1
    obtain⟨e1,w,w1,w2⟩:=h1
    rw [zbe0,beq_iff_eq,beq_iff_eq]at w2
    obtain⟨a,b⟩:=w
    simp only at w2
    rw [w2.1,w2.2]at w1
    exact⟨x,by simpa using z1,by rw [z2,e1],w1⟩
   ·cases h1
  |succ k =>
   obtain⟨x,a,b,c⟩:=zo4 h.2 k j (by simpa using e)
   exact⟨x,by rw [show k0+(k+1)=k0+1+k by lia];exact a,b,c⟩
theorem zh0 {X:Cx}{F:List Addr}{elt tg iter:Expr}{ifs:List Expr}{scope:Scope}{pos:Pos}{fs:DI}{g:TG}{kt:D→Th→Option Th}{ft:DT}{fe:DE} (n:Nat) (cap:List Nat) (N':List Str) (hc:X.calm=true) (hi:PI X tg iter (dI X.K F fs))
  (hg:∀C s₃ H₃ fp pins,PG (blk X N' scope C s₃ H₃ fp pins) tg g) (hk:∀F',TgOk X.K F' g kt) (ht:∀C s₃ H₃ fp pins F',PTs (blk X N' scope C s₃ H₃ fp pins) ifs (dT X.K F' ft)) (he:∀C s₃ H₃ fp pins F',PE (blk X N' scope C s₃ H₃ fp pins) elt (dE X.K F' fe))
  (hkd:scope.kind=.function:=by rfl) (hcs:zy0 scope.names X.env.kindOf=true:=by rfl) (hN:N'.length=n+cap.length:=by rfl) (hcap:zae0 N' X.N n scope.names 0 cap=true:=by rfl)
  (hs:∀x,foldedSetIterable iter X.env x=pure x:=by intro _;rfl):PE X (.ListComp elt [⟨tg,iter,ifs,0⟩] scope pos) (dE X.K F (zg4 n cap fs kt ft fe)) :=
 ped_comp (zah9 hkd hcs) hc hi hN (fun k j e=>by simpa using zo4 hcap k j e) hg hk ht he hs
noncomputable def kIn:Ev→Ev→Option Ev:=fun r1 r2=>match r2.d with
 |.lst ds=>if scD r1.d&&ds.all (fun d=>scD d&&eqOk 0 d r1.d) then some (.cl (.bl (ds.any fun d=>eqD d r1.d))) else none
 |.tup ds=>if scD r1.d&&ds.all (fun d=>scD d&&eqOk 0 d r1.d) then some (.cl (.bl (ds.any fun d=>eqD d r1.d))) else none
 |_=>none
theorem in_D {K:zbd4}{H:Hp}{e:D}{u:V} (q:Rep K H e u) (se:scD e=true):∀ {ds:List D}{vs:List V},Reps K H ds vs→ds.all (fun d=>scD d&&eqOk 0 d e)=true→vs.all zr7=true∧inV u vs=ds.any fun d=>eqD d e
 |_,_,.nil,_=>⟨rfl,rfl⟩
 |_,_,.cons h r,k=>by
  simp only [zbh1,zbe0]at k
  obtain⟨f1,f2,e1⟩:=eqV_D h q k.1.1 se k.1.2
  obtain⟨a,b⟩:=in_D q se r (by simpa using k.2)
  unfold inV at b ⊢
  refine⟨by simp [f1,a],?_⟩
  rw [zbi9,zbi9,e1,b]
theorem zab5 {K:zbd4}{H:Hp}{e:D}{u:V} (q:Rep K H e u) (se:scD e=true):zr7 u=true:=by
 cases q<;>simp_all [scD,zr7]
theorem od_in {X:Cx}{F:List Addr}:OpD X F (compareOp .In) kIn:=by
 intro pins s σ H0 H A x y v u Q r1 r2 r I m g0 rx ry q1 q2 e hq
 unfold kIn at e
 have p1:=q1.full
 have p2:=q2.full
 split at e
 ·rename_i ds z
  rw [z]at p2
  split at e
  case isFalse=>cases e
  rename_i c
  rw [zbe0]at c
  cases e
  cases p2 with
  |@lst _ p vs h1 h2 =>
   obtain⟨a,b⟩:=in_D p1 c.1 h2 c.2
   exact zaf4 pins s σ H x _ v u Q I rx ry ⟨p,vs,rfl,.inl h1,zab5 p1 c.1,a,by
    show Q (.bl (inV x vs)) H
    rw [b];exact hq _ H (Same.refl H) (.bl _)⟩
 ·rename_i ds z
  rw [z]at p2
  split at e
  case isFalse=>cases e
  rename_i c
  rw [zbe0]at c
  cases e
  cases p2 with
  |@tup _ p vs h1 h2 =>
   obtain⟨a,b⟩:=in_D p1 c.1 h2 c.2
   exact zaf4 pins s σ H x _ v u Q I rx ry ⟨p,vs,rfl,.inr h1,zab5 p1 c.1,a,by
    show Q (.bl (inV x vs)) H
    rw [b];exact hq _ H (Same.refl H) (.bl _)⟩
 ·cases e
end DL
namespace L2
open PySem.Spec
abbrev EMS:=Addr→L2.St→Hp→(L2.St→Hp→Prop)→Prop
noncomputable def emT (e:Expr) (g2:Comprehension) (acc:Value) (env:Env):Sem Unit:=do
 let x ← eval g2.iter env
 standAt g2.iter.pos
 let x ← foldedSetIterable g2.iter env x
 let _ ← runOwn (.compStart e 1 (← holding [x] (pyIter x)) acc env) env
noncomputable def PEm (Y:Cx) (tree:Sem Unit) (em:L2.St→Hp→(L2.St→Hp→Prop)→Prop):Prop :=
 ∀(pins:List (Addr×Obj)) (s:zbe5) (σ:L2.St) (H:Hp) (R:L2.St→Hp→Prop),Inv Y pins σ H s→em σ H R→wpAny (model Y.prog Y.w) Y.A tree (fun _ s' => ∃σ' H',Inv Y pins σ' H' s'∧R σ' H') Y.xe s
end L2
namespace DL
open PySem.Spec L2
section
variable {X:Cx}{F:List Addr}{a b c:Expr}{es:List Expr}{fa fb fc:DE}{pos:Pos}
noncomputable def zj4:List Ev→Option Ev:=fun rs=>match rs with
 |[r]=>(match r.d with
  |.lst ds=>if r.ok||flats ds then some (.nw ds) else none
  |_=>none)
 |_=>none
theorem zad8:CallD X F (.type "list") zj4:=CallD.of zai1 fun H0 H A xs rs e Q m g q ek hq=>by
 unfold zj4 at ek
 split at ek
 ·rename_i r
  cases q with
  |cons q1 q2 =>
   cases q2
   split at ek
   ·rename_i ds z
    split at ek
    case isFalse=>cases ek
    rename_i c
    cases ek
    obtain⟨p,vs,rfl,h1,h2⟩:=q1.items m g z c
    exact⟨p,vs,rfl,.inl h1,fun l hl=>hq _ _ (zd1 hl) ⟨l,vs,rfl,Same.free g hl,zb9,Reps.mono (zj0 hl) h2⟩⟩
   ·cases ek
 ·cases ek
noncomputable def k2I (f:Int→Int→Int):List Ev→Option Ev:=fun rs=>match rs with
 |[r1,r2]=>(match r1.d,r2.d with
  |.int i,.int j=>some (.cl (.int (f i j)))
  |_,_=>none)
 |_=>none
theorem cd_2I {v:Value}{f:Int→Int→Int} (h:zs8 X v (fun xs H Q => ∃i j,xs=[.int i,.int j]∧Q (.int (f i j)) H)):CallD X F v (k2I f):=CallD.of h fun H0 H A xs rs e Q m g q ek hq=>by
 unfold k2I at ek
 split at ek
 ·rename_i r1 r2
  cases q with
  |cons q1 q' =>
   cases q' with
   |cons q2 q3 =>
    cases q3
    split at ek
    ·rename_i i j z1 z2
     cases ek
     have p1:=q1.full
     have p2:=q2.full
     rw [z1]at p1;rw [z2]at p2
     cases zd7 p1;cases zd7 p2
     exact⟨i,j,rfl,hq _ H (Same.refl H) (.int _)⟩
    ·cases ek
 ·cases ek
theorem cd_min (hc:X.calm=true):CallD X F (.builtin "min") (k2I fun i j=>if j<i then j else i):=cd_2I (zbc0 hc)
theorem cd_max (hc:X.calm=true):CallD X F (.builtin "max") (k2I fun i j=>if j > i then j else i):=cd_2I (zbc1 hc)
noncomputable def dSlF (lo:DE) (f:DE):DE:=fun t=>(f t).bind fun r=>(lo t).bind fun l=>match r.d,l.d with
 |.lst ds,.int i=>if r.ok||flats ds then some (.nw (ds.drop (HT.sIx ds.length 0 (some i)))) else none
 |_,_=>none
theorem zs2 {p2:Pos} (ha:PE X a (dE X.K F fa)) (hb:PE X b (dE X.K F fb)):PE X (.Subscript a (.Slice (some b) none none p2) pos) (dE X.K F (dSlF fb fa)):=by
 refine PE.imp (zap3 zav0 ha (zaw1 hb) zaw2) ?_
 rintro σ H Q ⟨A,t,r,R,e,h⟩
 unfold dSlF at e
 cases e1:fa t with
 |none=>rw [e1]at e;cases e
 |some r1 =>
  cases e2:fb t with
  |none=>rw [e1,e2]at e;cases e
  |some r2 =>
   rw [e1,e2]at e
   refine⟨A,t,r1,R,e1,fun x H1 gs1 q1=>⟨A,t,r2,R.grow gs1,e2,fun y H2 gs2 q2=>?_⟩⟩
   have e:(match r1.d,r2.d with
    |.lst ds,.int i=>if r1.ok||flats ds then some (Ev.nw (ds.drop (HT.sIx ds.length 0 (some i)))) else none
    |_,_=>none)=some r:=e
   split at e
   case h_2=>cases e
   rename_i ds i z1 z2
   split at e
   case isFalse=>cases e
   rename_i c
   cases e
   have p2':=q2.full
   rw [z2]at p2'
   cases zd7 p2'
   have gs:=gs1.trans gs2
   obtain⟨p,vs,rfl,h1,h2⟩:=(q1.mono gs2).items R.mu gs z1 c
   refine⟨i,rfl,p,vs,rfl,h1,fun l hl=>h _ _ (gs.trans (zd1 hl)) ⟨l,_,rfl,Same.free gs hl,zb9,Reps.mono (zj0 hl) ?_⟩⟩
   have hle:=HT.sIx_le ds.length 0 (by lia) (some i)
   have e:cutV vs (some i) none=vs.drop (HT.sIx ds.length 0 (some i)):=by
    unfold cutV
    rw [h2.length,HT.sIx_none]
    apply zbj2
    rw [zbm6,h2.length]
    exact zbf6 _
   rw [e]
   exact h2.drop _
noncomputable def dSlU (hi:DE) (f:DE):DE:=fun t=>(f t).bind fun r=>(hi t).bind fun l=>match r.d,l.d with
 |.lst ds,.int i=>if r.ok||flats ds then some (.nw (ds.take (HT.sIx ds.length ds.length (some i)))) else none
 |_,_=>none
theorem zs1 {p2:Pos} (ha:PE X a (dE X.K F fa)) (hb:PE X b (dE X.K F fb)):PE X (.Subscript a (.Slice none (some b) none p2) pos) (dE X.K F (dSlU fb fa)):=by
 refine PE.imp (zap3 zav0 ha zaw2 (zaw1 hb)) ?_
 rintro σ H Q ⟨A,t,r,R,e,h⟩
 unfold dSlU at e
 cases e1:fa t with
 |none=>rw [e1]at e;cases e
 |some r1 =>
  cases e2:fb t with
  |none=>rw [e1,e2]at e;cases e
  |some r2 =>
   rw [e1,e2]at e
   refine⟨A,t,r1,R,e1,fun x H1 gs1 q1=>⟨A,t,r2,R.grow gs1,e2,fun y H2 gs2 q2=>?_⟩⟩
   have e:(match r1.d,r2.d with
    |.lst ds,.int i=>if r1.ok||flats ds then some (Ev.nw (ds.take (HT.sIx ds.length ds.length (some i)))) else none
    |_,_=>none)=some r:=e
   split at e
   case h_2=>cases e
   rename_i ds i z1 z2
   split at e
   case isFalse=>cases e
   rename_i c
   cases e
   have p2':=q2.full
   rw [z2]at p2'
   cases zd7 p2'
   have gs:=gs1.trans gs2
   obtain⟨p,vs,rfl,h1,h2⟩:=(q1.mono gs2).items R.mu gs z1 c
   refine⟨i,rfl,p,vs,rfl,h1,fun l hl=>h _ _ (gs.trans (zd1 hl)) ⟨l,_,rfl,Same.free gs hl,zb9,Reps.mono (zj0 hl) ?_⟩⟩
   have e:cutV vs none (some i)=vs.take (HT.sIx ds.length ds.length (some i)):=by
    unfold cutV
    rw [h2.length,HT.sIx_none]
    simp
   rw [e]
   exact h2.take _
end
end DL
namespace DL
open PySem.Spec L2
section
variable {X:Cx}{F:List Addr}{a b c:Expr}{es:List Expr}{fa fb fc:DE}{g:DS}{pos:Pos}{tg:Expr}{gt:TG}{kt:D→Th→Option Th}
noncomputable def dCh (k k':Ev→Ev→Option Ev) (fa fb fc:DE):DT:=fun t=>(fa t).bind fun r1=>(fb t).bind fun r2=>(k r1 r2).bind fun r=>match r.d with
 |.bl true=>(fc t).bind fun r3=>(k' r2 r3).bind fun r'=>match r'.d with
  |.bl z=>some z
  |_=>none
 |.bl false=>some false
 |_=>none
noncomputable def rK (X:Cx) (F:List Addr) (k:Ev→Ev→Option Ev) (A:List Addr) (H0:Hp):R2:=fun x y H Q=>Lists H0 (A++F)∧Same H0 H∧∃r1 r2 r,RepEv X.K F A H0 H r1 x∧RepEv X.K F A H0 H r2 y∧k r1 r2=some r∧∀z H',Same H H'→RepEv X.K F A H0 H' r z→Q z H'
theorem OpD.toR {f:Value→Value→Sem Value}{k:Ev→Ev→Option Ev} (h:OpD X F f k) (A:List Addr) (H0:Hp):OpR X f (rK X F k A H0) :=
 fun pins s σ H x y v u Q I rx ry ⟨m,gs,r1,r2,r,q1,q2,e,hq⟩=>h pins s σ H0 H A x y v u Q r1 r2 r I m gs rx ry q1 q2 e hq
theorem zav5 {op op':CmpOp}{k k':Ev→Ev→Option Ev} (ho:OpD X F (compareOp op) k) (ho':OpD X F (compareOp op') k') (ha:PE X a (dE X.K F fa)) (hb:PE X b (dE X.K F fb)) (hc:PE X c (dE X.K F fc))
  (hm:lastMarks [op,op'] [b,c]=false:=by with_unfolding_all rfl):PT X (.Compare a [op,op'] [b,c] pos) (dT X.K F (dCh k k' fa fb fc)):=by
 intro pins s σ H Q I h
 obtain⟨A,t,bb,R,e,h⟩:=h
 refine pt_chain (ho.toR A H) (ho'.toR A H) ha hb hc hm pins s σ H Q I ?_
 unfold dCh at e
 cases e1:fa t with
 |none=>rw [e1]at e;cases e
 |some r1 =>
  cases e2:fb t with
  |none=>rw [e1,e2]at e;cases e
  |some r2 =>
   cases e3:k r1 r2 with
   |none=>rw [e1,e2]at e;simp only [zbd9,e3]at e;cases e
   |some r =>
    rw [e1,e2]at e
    simp only [zbd9,e3]at e
    refine⟨A,t,r1,R,e1,fun x H1 gs1 q1=>⟨A,t,r2,R.grow gs1,e2,fun y H2 gs2 q2=>?_⟩⟩
    have gs:=gs1.trans gs2
    refine⟨R.mu,gs,r1,r2,r,q1.mono gs2,q2.back gs1,e3,fun z H3 gs3 q3=>?_⟩
    have p:=q3.full
    split at e
    ·rename_i zz
     rw [zz]at p
     cases p
     refine⟨true,rfl,iteT ?_⟩
     cases e4:fc t with
     |none=>rw [e4]at e;cases e
     |some r3 =>
      rw [e4]at e
      simp only [zbd9]at e
      cases e5:k' r2 r3 with
      |none=>rw [e5]at e;cases e
      |some r' =>
       rw [e5]at e
       simp only [zbd9]at e
       refine⟨A,t,r3,(R.grow gs).grow gs3,e4,fun w H4 gs4 q4=>⟨R.mu,(gs.trans gs3).trans gs4,r2,r3,r',(q2.back gs1).mono (gs3.trans gs4),q4.back (gs.trans gs3),e5,fun z2 H5 gs5 q5=>?_⟩⟩
       have p5:=q5.full
       split at e
       ·rename_i z3 zz3
        cases e
        rw [zz3]at p5
        cases p5
        exact⟨_,rfl,h H5 (((gs.trans gs3).trans gs4).trans gs5)⟩
       ·cases e
    ·rename_i zz
     rw [zz]at p
     cases p
     cases e
     exact⟨false,rfl,iteF ⟨false,rfl,h H3 (gs.trans gs3)⟩⟩
    ·cases e
end
end DL
namespace DL
open PySem.Spec L2
def zm8:List D→Option (List Int)
 |[]=>some []
 |.int i::r=>(zm8 r).map fun ns=>i::ns
 |_::_=>none
theorem zu5:∀ {ds:List D}{ns:List Int},zm8 ds=some ns→ds=ns.map D.int
 |[],ns,e=>by cases e;rfl
 |.int i::r,ns,e=>by
  unfold zm8 at e
  cases e1:zm8 r with
  |none=>rw [e1]at e;cases e
  |some m=>rw [e1]at e;cases e;rw [zu5 e1];rfl
 |.non::r,ns,e=>by cases e
 |.bl _::r,ns,e=>by cases e
 |.str _::r,ns,e=>by cases e
 |.tup _::r,ns,e=>by cases e
 |.lst _::r,ns,e=>by cases e
theorem zn1 (ns:List Int):zm8 (ns.map D.int)=some ns:=by
 induction ns with
 |nil=>rfl
 |cons n r ih=>simp [zm8,ih]
theorem zj6 {K:zbd4}{H:Hp}:∀ {ns:List Int}{vs:List V},Reps K H (ns.map D.int) vs→vs=ns.map V.int
 |[],_,.nil=>rfl
 |n::r,_,.cons h q=>by cases zd7 h;rw [zj6 q];rfl
section
variable {X:Cx}{F:List Addr}{a b c:Expr}{es:List Expr}{fa fb fc:DE}{pos:Pos}
theorem call_sum (hc:X.calm=true):zs8 X (.builtin "sum") (fun xs H Q => ∃(p:Addr) (ns:List Int),xs=[.ref p]∧SqL X.K H p (ns.map V.int)∧Q (.int ns.sum) H):=by
 intro pins s σ H xs us Q I r h
 obtain⟨p,ns,rfl,hs,q⟩:=h
 obtain⟨u,rfl,ru⟩:=zar5 r
 cases ru
 obtain⟨its,rv,pl,_⟩:=I.list hs
 have hi:IntsAre its ns:=zs4 rv
 obtain⟨ys,e⟩:=hi.allInts.items
 have hl:s.heap.IsList p (intItems ys):=by rw [← e];exact PlainL.isL pl
 refine sum_intListG (I.ok.hd hc) hl fun h' tk t' hk=>⟨.int _,H,I.kept (t':=tk) hk,⟨t',rfl⟩,?_⟩
 have en:=nums_intItems ys
 rw [preSum_eq,zbj2 (by simp)]
 have e2:numsOf (intItems ys).toList=ns:=by rw [← e];exact hi.numsOf
 rw [← nums_intItems,e2]
 exact q
noncomputable def kSum:List Ev→Option Ev:=fun rs=>match rs with
 |[r]=>(match r.d with
  |.lst ds=>(zm8 ds).map fun ns=>.cl (.int ns.sum)
  |_=>none)
 |_=>none
theorem zar1 (hc:X.calm=true):CallD X F (.builtin "sum") kSum:=CallD.of (call_sum hc) fun H0 H A xs rs e Q m g q ek hq=>by
 unfold kSum at ek
 split at ek
 ·rename_i r
  cases q with
  |cons q1 q2 =>
   cases q2
   split at ek
   ·rename_i ds z
    cases e1:zm8 ds with
    |none=>rw [e1]at ek;cases ek
    |some ns =>
     rw [e1]at ek
     cases ek
     have p:=q1.full
     rw [z,zu5 e1]at p
     cases p with
     |lst h1 h2 =>
      rw [zj6 h2]at h1
      exact⟨_,ns,rfl,h1,hq _ H (Same.refl H) (.int _)⟩
   ·cases ek
 ·cases ek
end
end DL
namespace DL
open PySem.Spec L2
theorem zba4 (i j:Int):eqD (.int i) (.int j)=decide (i=j):=by
 rw [zbj3,eqD_true];simp
theorem sm_iff {i:Int}:sm i=true↔i.natAbs<bnd:=by simp [sm]
theorem sm_lt {i:Int} (h:i.natAbs<2 ^ 256):sm i=true:=sm_iff.mpr (zbf0 h (by unfold bnd;exact zbm8 (by decide) (by decide)))
theorem zau9 {i:Int} (h1 : -10000000000000000000000000000000000000000000000000000000000000000000000000000<i) (h2:i<10000000000000000000000000000000000000000000000000000000000000000000000000000):sm i=true:=by
 apply sm_lt
 have:(2:Nat) ^ 256=115792089237316195423570985008687907853269984665640564039457584007913129639936:=by decide
 lia
theorem zd9 {g1 g2:DS}{t t':Th} (h:g1 t=some (.nx t')):dSeq g1 g2 t=g2 t':=by simp [dSeq,h]
theorem seq_rt {g1 g2:DS}{t:Th}{r:Ev} (h:g1 t=some (.rt r)):dSeq g1 g2 t=some (.rt r):=by simp [dSeq,h]
theorem RepDs.length {K:zbd4}{H0 H:Hp}:∀ {ds:List D}{vs:List V}{B:List Addr},RepDs K H0 H ds vs B→vs.length=ds.length
 |_,_,_,.nil=>rfl
 |_,_,_,.cons _ r=>by simp [RepDs.length r]
abbrev DN:=Th→Option (D×List Nat)
abbrev DNs:=Th→Option (List D×List Nat)
section
variable {X:Cx}{F:List Addr}{a b c o:Expr}{es:List Expr}{fa fb fc:DE}{fs:List DE}{ga:DA}{g g1 g2:DS}{ft fu:DT}{pos:Pos}{st:Stmt}{rest:List Stmt}{tg:Expr}{gt:TG}{kt:D→Th→Option Th}
theorem rep_bl {K:zbd4}{H:Hp}{p:Bool}{v:V} (h:Rep K H (.bl p) v):v=.bl p:=by cases h;rfl
noncomputable def kRep:Ev→Ev→Option Ev:=fun r1 r2=>match r1,r2.d with
 |.nw xs,.int k=>if xs.length≤100&&decide (-1000000≤k∧k≤1000) then some (.nw (zbe8 k.toNat xs).flatten) else none
 |_,_=>none
theorem Reps.rep {K:zbd4}{H:Hp}{ds:List D}{vs:List V} (r:Reps K H ds vs):∀k:Nat,Reps K H (zbe8 k ds).flatten (zbe8 k vs).flatten
 |0=>by simpa using .nil
 |k+1=>by simpa [zbj0] using r.app (Reps.rep r k)
theorem zz8:OpD X F (binaryOp .Mult) kRep:=by
 intro pins s σ H0 H A x y v u Q r1 r2 r I m g0 rx ry q1 q2 e hq
 unfold kRep at e
 split at e
 ·rename_i xs k z
  split at e
  ·rename_i ok
   simp only [zbe0,decide_eq_true_eq]at ok
   cases e
   have p2:=q2.full
   rw [z]at p2
   cases zd7 p2
   obtain⟨p,vs,rfl,h1,h2,h3⟩:=q1
   refine op_rep pins s σ H _ _ v u Q I rx ry ⟨p,k,vs,rfl,rfl,h2,by lia,by lia,?_,fun l hl=>hq _ _ (zd1 hl) ⟨l,_,rfl,Same.free g0 hl,zb9,Reps.mono (zj0 hl) (Reps.rep (Reps.mono (zb2 H fun a z=>zbd6 _ z) h3) _)⟩⟩
   refine zn0 ?_
   rw [h3.length]
   have h5:k.toNat≤1000:=by lia
   exact zbh3 (Nat.mul_le_mul ok.1 h5) (by decide)
  ·cases e
 ·cases e
def blsD:List D→Option (List Bool)
 |[]=>some []
 |.bl i::r=>(blsD r).map fun ns=>i::ns
 |_::_=>none
theorem zbc5:∀ {ds:List D}{ns:List Bool},blsD ds=some ns→ds=ns.map D.bl
 |[],ns,e=>by cases e;rfl
 |.bl i::r,ns,e=>by
  unfold blsD at e
  cases e1:blsD r with
  |none=>rw [e1]at e;cases e
  |some m=>rw [e1]at e;cases e;rw [zbc5 e1];rfl
 |.non::r,ns,e=>by cases e
 |.int _::r,ns,e=>by cases e
 |.str _::r,ns,e=>by cases e
 |.tup _::r,ns,e=>by cases e
 |.lst _::r,ns,e=>by cases e
theorem zao1 {K:zbd4}{H:Hp}:∀ {ns:List Bool}{vs:List V},Reps K H (ns.map D.bl) vs→vs=ns.map V.bl
 |[],_,.nil=>rfl
 |n::r,_,.cons h q=>by cases rep_bl h;rw [zao1 q];rfl
theorem zar2:∀ {bs:List Bool}{its:List Value},Vals (bs.map V.bl) its→LSm.BoolsAre its bs
 |[],its,h=>by cases h;exact .nil
 |b::bs,its,h=>by
  cases h with
  |cons r rr=>cases r;exact .cons b (zar2 rr)
theorem zz1 (hc:X.calm=true):zs8 X (.builtin "all") (fun xs H Q => ∃(p:Addr) (bs:List Bool),xs=[.ref p]∧SqL X.K H p (bs.map V.bl)∧Q (.bl (bs.all id)) H):=by
 intro pins s σ H xs us Q I r h
 obtain⟨p,bs,rfl,hs,q⟩:=h
 obtain⟨u,rfl,ru⟩:=zar5 r
 cases ru
 obtain⟨its,rv,pl,_⟩:=I.list hs
 have hb:=zar2 rv
 have hl:=PlainL.isL pl
 have hlt:p<s.heap.objs.size:=by obtain⟨_,e,_⟩:=hl;exact zbe6 e
 refine call_all_walk (wpAny_pyIter_list hl ⟨s.heap.objs.size,[s.heap.objs.size,p],[s.heap.objs.size],its.toArray.size,_,_,fun i=>(bs[i]?).getD true,rfl,
  Walks.list (A:=X.A.in1) (I.ok.hd hc) _ p (zbg0 hlt) its.toArray,⟨⟨_,zbg5 _ rfl,rfl,rfl⟩,hl.push _⟩,fun i v s' Q' E' hP hQ=>?_,fun h' tk hk=>?_⟩)
 ·obtain⟨b,e,rfl⟩:=hb.get i v (by simpa using hP)
  have hQ:Q' ((bs[i]?).getD true) s':=hQ
  rw [e]at hQ
  exact wpAny_truthy_bool hQ
 ·have e:((zbh8 its.toArray.size).all fun i=>(bs[i]?).getD true)=bs.all id:=by
   rw [zbf5,hb.length,LSm.range_all]
  refine⟨.bl _,H,I.kept (t':=tk) (LSm.kept_iter hk),rfl,?_⟩
  rw [e];exact q
noncomputable def kBls (f:List Bool→Bool):List Ev→Option Ev:=fun rs=>match rs with
 |[r]=>(match r.d with
  |.lst ds=>(blsD ds).map fun bs=>.cl (.bl (f bs))
  |_=>none)
 |_=>none
theorem cd_bls {id':String}{f:List Bool→Bool} (h:zs8 X (.builtin id') (fun xs H Q => ∃(p:Addr) (bs:List Bool),xs=[.ref p]∧SqL X.K H p (bs.map V.bl)∧Q (.bl (f bs)) H)):CallD X F (.builtin id') (kBls f):=by
 refine CallD.of h fun H0 H A xs rs e Q m g q ek hq=>?_
 unfold kBls at ek
 split at ek
 case h_2=>cases ek
 rename_i r
 cases q with
 |@cons _ v _ vs q1 q2 =>
  cases q2
  split at ek
  case h_2=>cases ek
  rename_i ds z
  cases e1:blsD ds with
  |none=>rw [e1]at ek;cases ek
  |some bs =>
   rw [e1]at ek
   cases ek
   have p:=q1.full
   rw [z,zbc5 e1]at p
   cases p with
   |@lst _ l us h1 h2 =>
    have:=zao1 h2
    subst this
    exact⟨l,bs,rfl,h1,hq _ H (Same.refl H) (.bl _)⟩
end
end DL
namespace DL
open PySem.Spec L2
def zw0 (a b c:Int):Bool:=Builtin.Range.small a b c&&decide (c≠0∧c.natAbs<1000000∧0≤Builtin.Range.rangeSize a b c)
def rng3 (a b c:Int):List D:=(zbh8 (Builtin.Range.rangeSize a b c).toNat).map fun i=>.int (a+(i:Nat)*c)
def mkG (k:Nat) (N:List Str) (g:DS):List D→Option Ev:=fun ds=>if ds.length=k then (g (zz5 N ds)).bind zp5 else none
theorem zj7 {k:Nat}{N:List Str}{g:DS}{ds:List D}{r:Ev} (e:mkG k N g ds=some r):ds.length=k:=by
 unfold mkG at e
 split at e
 ·assumption
 ·cases e
theorem zm9 {k:Nat}{N:List Str}{g:DS}{ds:List D}{r:Ev} (e:mkG k N g ds=some r):∃o,g (zz5 N ds)=some o∧zp5 o=some r:=by
 unfold mkG at e
 split at e
 ·cases e1:g (zz5 N ds) with
  |none=>rw [e1]at e;cases e
  |some o=>rw [e1]at e;exact⟨o,rfl,e⟩
 ·cases e
section
variable {X:Cx}{F:List Addr}{elt tg iter:Expr}{ifs:List Expr}{scope:Scope}{pos spos py:Pos}{fs:DI}{g:TG}{kt:D→Th→Option Th}{ft:DT}{fe fc:DE}{i:Nat}{y:Str}
theorem compU {n:Nat}{cap:List Nat}{N':List Str} (up:∀ {σ:L2.St}{H:Hp}{Q:VK},dE X.K F fc σ H Q→zar9 n cap (dI X.K F fs) g (fun σ H Q => ∃F',dT X.K F' ft σ H Q) (fun σ H Q => ∃F',dE X.K F' fe σ H Q) σ H Q) (hc:X.calm=true) (hi:PI X tg iter (dI X.K F fs))
  (hg:∀C s₃ H₃ fp pins,PG (blk X N' scope C s₃ H₃ fp pins) tg g) (ht:∀C s₃ H₃ fp pins F',PTs (blk X N' scope C s₃ H₃ fp pins) ifs (dT X.K F' ft)) (he:∀C s₃ H₃ fp pins F',PE (blk X N' scope C s₃ H₃ fp pins) elt (dE X.K F' fe))
  (hNd:X.N.Nodup) (hi₀:X.N[i]?=some y) (hy:Loc X.env.scope y) (hsw:swapsWith (.ListComp elt [⟨tg,iter,ifs,0⟩] scope pos) (some (.Name y py)) spos.line X.env=pure true) (hf:X.fn y=true∨X.env.scope.names.lookup y=some .local)
  (hkd:scope.kind=.function) (hcs:zy0 scope.names X.env.kindOf=true) (hN:N'.length=n+cap.length) (hcap:zae0 N' X.N n scope.names 0 cap=true) (hs:∀x,foldedSetIterable iter X.env x=pure x) :
  PS X (.Assign [.Name y py] (.ListComp elt [⟨tg,iter,ifs,0⟩] scope pos) spos) (dS X.K F (dAsg i fc)):=by
 refine PS.imp (zao9 (g:=g) (wi:=dI X.K F fs) (tt:=fun σ H Q => ∃F',dT X.K F' ft σ H Q) (te:=fun σ H Q => ∃F',dE X.K F' fe σ H Q) (zah9 hkd hcs) hc hi hN (fun k j e=>by simpa using zo4 hcap k j e) hg (fun C s₃ H₃ fp pins pins' s σ H Q I ⟨F',q⟩=>ht C s₃ H₃ fp pins F' pins' s σ H Q I q) (fun C s₃ H₃ fp pins pins' s σ H Q I ⟨F',q⟩=>he C s₃ H₃ fp pins F' pins' s σ H Q I q) hNd hi₀ hy hsw hf hs) ?_
 rintro E σ H ⟨A,t,o,R,e,h⟩
 unfold dAsg at e
 cases e1:fc t with
 |none=>rw [e1]at e;cases e
 |some r1 =>
  rw [e1]at e
  have e:(zl7 t i r1).map Out.nx=some o:=e
  cases e2:zl7 t i r1 with
  |none=>rw [e2]at e;cases e
  |some t' =>
   rw [e2]at e
   cases e
   refine up ⟨A,t,r1,R,e1,fun v H' gs q=>?_⟩
   obtain⟨A',g',R'⟩:=R.put gs q e2
   exact h _ _ _ g' R'
theorem psd_setC (n:Nat) (cap:List Nat) (N':List Str) (hNd:X.N.Nodup) (hi₀:X.N[i]?=some y) (hy:Loc X.env.scope y) (hc:X.calm=true) (hi:PI X tg iter (dI X.K F fs))
  (hg:∀C s₃ H₃ fp pins,PG (blk X N' scope C s₃ H₃ fp pins) tg g) (hk:∀F',TgOk X.K F' g kt) (ht:∀C s₃ H₃ fp pins F',PTs (blk X N' scope C s₃ H₃ fp pins) ifs (dT X.K F' ft)) (he:∀C s₃ H₃ fp pins F',PE (blk X N' scope C s₃ H₃ fp pins) elt (dE X.K F' fe))
  (hsw:swapsWith (.ListComp elt [⟨tg,iter,ifs,0⟩] scope pos) (some (.Name y py)) spos.line X.env=pure true:=by rfl) (hf:X.fn y=true∨X.env.scope.names.lookup y=some .local:=by first | exact .inl rfl | exact .inr rfl)
  (hkd:scope.kind=.function:=by rfl) (hcs:zy0 scope.names X.env.kindOf=true:=by rfl) (hN:N'.length=n+cap.length:=by rfl) (hcap:zae0 N' X.N n scope.names 0 cap=true:=by rfl)
  (hs:∀x,foldedSetIterable iter X.env x=pure x:=by intro _;rfl):PS X (.Assign [.Name y py] (.ListComp elt [⟨tg,iter,ifs,0⟩] scope pos) spos) (dS X.K F (dAsg i (zg4 n cap fs kt ft fe))) :=
 compU (fun h=>zan4 hk h) hc hi hg ht he hNd hi₀ hy hsw hf hkd hcs hN hcap hs
end
end DL
namespace DL
open PySem.Spec L2
section
variable {X:Cx}{F:List Addr}{a b c o:Expr}{es:List Expr}{fa fb fc:DE}{fs:List DE}{ga:DA}{g g1 g2:DS}{ft fu:DT}{pos:Pos}{st:Stmt}{rest:List Stmt}{tg:Expr}{gt:TG}{kt:D→Th→Option Th}
noncomputable def kNin:Ev→Ev→Option Ev:=fun r1 r2=>match r2.d with
 |.lst ds=>if scD r1.d&&ds.all (fun d=>scD d&&eqOk 0 d r1.d) then some (.cl (.bl (!ds.any fun d=>eqD d r1.d))) else none
 |.tup ds=>if scD r1.d&&ds.all (fun d=>scD d&&eqOk 0 d r1.d) then some (.cl (.bl (!ds.any fun d=>eqD d r1.d))) else none
 |_=>none
theorem zz9:OpD X F (compareOp .NotIn) kNin:=by
 intro pins s σ H0 H A x y v u Q r1 r2 r I m g0 rx ry q1 q2 e hq
 unfold kNin at e
 have p1:=q1.full
 have p2:=q2.full
 split at e
 ·rename_i ds z
  rw [z]at p2
  split at e
  case isFalse=>cases e
  rename_i c
  rw [zbe0]at c
  cases e
  cases p2 with
  |@lst _ p vs h1 h2 =>
   obtain⟨a,b⟩:=in_D p1 c.1 h2 c.2
   exact zt0 pins s σ H x _ v u Q I rx ry ⟨p,vs,rfl,.inl h1,zab5 p1 c.1,a,by
    show Q (.bl (!inV x vs)) H
    rw [b];exact hq _ H (Same.refl H) (.bl _)⟩
 ·rename_i ds z
  rw [z]at p2
  split at e
  case isFalse=>cases e
  rename_i c
  rw [zbe0]at c
  cases e
  cases p2 with
  |@tup _ p vs h1 h2 =>
   obtain⟨a,b⟩:=in_D p1 c.1 h2 c.2
   exact zt0 pins s σ H x _ v u Q I rx ry ⟨p,vs,rfl,.inr h1,zab5 p1 c.1,a,by
    show Q (.bl (!inV x vs)) H
    rw [b];exact hq _ H (Same.refl H) (.bl _)⟩
 ·cases e
end
end DL
namespace DL
open PySem.Spec L2
section
variable {X:Cx}{F:List Addr}{a b c o:Expr}{es:List Expr}{fa fb fc:DE}{fs:List DE}{ga:DA}{g g1 g2:DS}{ft fu:DT}{pos:Pos}{st:Stmt}{rest:List Stmt}{tg:Expr}{gt:TG}{kt:D→Th→Option Th}
theorem zat9:bootBuiltins "list"=some (.type "list"):=by decide +kernel
theorem vals_get:∀ {xs:List V}{us:List Value},xs.length=us.length→(∀(i:Nat) (x:V) (u:Value),xs[i]?=some x→us[i]?=some u→RelV x u)→Vals xs us
 |[],[],_,_=>.nil
 |[],_::_,h,_=>by simp at h
 |_::_,[],h,_=>by simp at h
 |x::xs,u::us,h,k=>.cons (k 0 x u rfl rfl) (vals_get (by simpa using h) fun i y w e1 e2=>k (i+1) y w (by simpa using e1) (by simpa using e2))
theorem zat3 {lo k:Int}{n:Nat}{acc:Array Value} (h:ItemsOf (fun i v => ∃t,v=.int (lo+i*k) t) acc n):Vals ((zbh8 n).map fun i=>V.int (lo+(i:Nat)*k)) acc.toList:=by
 refine vals_get (by simp [h.1]) fun i x u e1 e2=>?_
 obtain⟨t,rfl⟩:=h.2 i u (by simpa using e2)
 have hi:i<n:=by
  cases Nat.lt_or_ge i n with
  |inl z=>exact z
  |inr z=>rw [zbh2,List.getElem?_eq_none (by simpa using z)]at e1;cases e1
 rw [zbh2,zbp3 hi]at e1
 simp at e1
 subst e1
 exact⟨t,rfl⟩
theorem zad1 {pins:List (Addr×Obj)}{σ:L2.St}{H:Hp}{s:zbe5}{Q:VK}{lo hi k:Int}{t u v:Tok}{tk:Nat} (hc:X.calm=true) (I:L2.Inv X pins σ H s) (ok:zw0 lo hi k=true) (sz:Builtin.Range.rangeSize lo hi k≤50000)
  (q:∀p,H p=none→Q (.ref p) (upd H p (.lst ((zbh8 (Builtin.Range.rangeSize lo hi k).toNat).map fun i=>V.int (lo+(i:Nat)*k))))) :
  wpAny (model X.prog X.w) X.A (call (.type "list") [.ref s.heap.objs.size]) (EP X pins σ Q) X.xe { s with heap:=s.heap.push { cls:=.type "range",data:=.fields #[.int lo t,.int hi u,.int k v] },toks:=tk }:=by
 simp only [zw0,zbe0,decide_eq_true_eq]at ok
 have I1:L2.Inv X pins σ H { s with heap:=s.heap.push { cls:=.type "range",data:=.fields #[.int lo t,.int hi u,.int k v] },toks:=tk }:=I.kept fun b o e=>zbe4 _ e
 have en:Builtin.Range.rangeSize lo hi k=(((Builtin.Range.rangeSize lo hi k).toNat:Nat):Int):=by lia
 refine call_list_range (I.ok.hd hc) (IsRange.new ..) ok.1 en (by lia) fun h' tk' acc c' hk hS hacc=>?_
 refine⟨.ref _,_,I1.laid (o:=HO.lst ((zbh8 (Builtin.Range.rangeSize lo hi k).toNat).map fun i=>V.int (lo+(i:Nat)*k))) (t':=tk') hk (zbf6 _) ⟨?_,acc.toList,c',zat3 hacc,by simpa using hS⟩,rfl,q _ I1.fresh⟩
 refine zn0 ?_
 rw [zbf7,zbq4];lia
noncomputable def rArgs:List D→Option (Int×Int×Int)
 |[.int n]=>some (0,n,1)
 |[.int i,.int j]=>some (i,j,1)
 |[.int i,.int j,.int k]=>some (i,j,k)
 |_=>none
noncomputable def zah3 (g:DA):DE:=fun t=>(g t).bind fun rs=>(rArgs (rs.map Ev.d)).bind fun q=>if zw0 q.1 q.2.1 q.2.2&&decide (Builtin.Range.rangeSize q.1 q.2.1 q.2.2≤50000) then some (.nw (rng3 q.1 q.2.1 q.2.2)) else none
theorem zaw7 {p0 p1 p2:Pos} (hc:X.calm=true) (hgl:Gl X "list") (hml:X.mg "list"=none) (hgr:Gl X "range") (hmr:X.mg "range"=none) (ha:PA X (a::es) (dA X.K F ga))
  (hst:zbe7 [.Call (.Name "range" p1) (a::es) [] p2] X.env=[(false,eval (.Call (.Name "range" p1) (a::es) [] p2) X.env)]:=by rfl)
  (hst1:zbe7 (a::es) X.env=(false,eval a X.env)::zbe7 es X.env:=by rfl) (hst2:(zbl0 p2 (zbe7 es X.env)).any (·.1)=false:=by rfl) :
  PE X (.Call (.Name "list" p0) [.Call (.Name "range" p1) (a::es) [] p2] [] pos) (dE X.K F (zah3 ga)):=by
 intro pins s σ H Q I h
 obtain⟨A,t,r,R,e,h⟩:=h
 unfold zah3 at e
 cases e1:ga t with
 |none=>rw [e1]at e;cases e
 |some rs =>
  rw [e1]at e
  simp only [zbd9]at e
  cases e2:rArgs (rs.map Ev.d) with
  |none=>rw [e2]at e;cases e
  |some q =>
   rw [e2]at e
   simp only [zbd9]at e
   split at e
   case isFalse=>cases e
   rename_i ok
   simp only [zbe0,decide_eq_true_eq]at ok
   cases e
   have mk:∀(H1:Hp),Same H H1→∀p,H1 p=none→Q (.ref p) (upd H1 p (.lst ((zbh8 (Builtin.Range.rangeSize q.1 q.2.1 q.2.2).toNat).map fun i=>V.int (q.1+(i:Nat)*q.2.2)))):=fun H1 g1 p hp=>by
    refine h _ _ (g1.trans (zd1 hp)) ⟨p,_,rfl,Same.free g1 hp,zb9,?_⟩
    have e3:rng3 q.1 q.2.1 q.2.2=((zbh8 (Builtin.Range.rangeSize q.1 q.2.1 q.2.2).toNat).map fun i=>q.1+(i:Nat)*q.2.2).map D.int:=by simp [rng3]
    have e4:((zbh8 (Builtin.Range.rangeSize q.1 q.2.1 q.2.2).toNat).map fun i=>V.int (q.1+(i:Nat)*q.2.2))=((zbh8 (Builtin.Range.rangeSize q.1 q.2.1 q.2.2).toNat).map fun i=>q.1+(i:Nat)*q.2.2).map V.int:=by simp
    rw [e3,e4]
    exact Reps.ints _
   refine wpAny_Call_Name_kw (zm4 I hgl hml zat9 (PyProof.Rows.callWith_type1 ?_ (by rw [hst];rfl) rfl))
   rw [hst]
   show wpAny _ _ (spliced ((false,eval (.Call (.Name "range" p1) (a::es) [] p2) X.env)::zbl0 pos (zbe7 [] X.env))) _ _ s
   refine Calls.spliced_cons (Call_ (zm4 I hgr hmr boot_range (PyProof.Rows.callWith_type1 (thn (ha p2 pins s σ H (fun vs H1=>Same H H1∧RepEvs X.K F A H H1 rs vs) I ⟨A,t,rs,R,e1,fun vs H1 g1 q1=>⟨g1,q1⟩⟩) fun us s1 ⟨vs,H1,I1,r1,g1,q1⟩=>?_) hst1 hst2)))
   have full:=q1.full
   obtain⟨q0,qh,qk⟩:=q
   unfold rArgs at e2
   split at e2
   ·rename_i n z
    cases e2
    rw [z]at full
    have ev:=zj6 (ns:=[qh]) full
    subst ev
    obtain⟨u,rfl,ru⟩:=r1.one
    obtain⟨t1,rfl⟩:=ru
    exact call_range_1 (Calls.spliced_nil (zad1 hc I1 ok.1 ok.2 (mk H1 g1)))
   ·rename_i i j z
    cases e2
    rw [z]at full
    have ev:=zj6 (ns:=[q0,qh]) full
    subst ev
    obtain⟨u,w,rfl,ru,rw'⟩:=r1.two
    obtain⟨t1,rfl⟩:=ru
    obtain⟨t2,rfl⟩:=rw'
    exact call_range_2 (Calls.spliced_nil (zad1 hc I1 ok.1 ok.2 (mk H1 g1)))
   ·rename_i i j k z
    cases e2
    rw [z]at full
    have ev:=zj6 (ns:=[q0,qh,qk]) full
    subst ev
    cases r1 with
    |cons r rr =>
     cases rr with
     |cons r' rr =>
      cases rr with
      |cons r'' rr =>
       cases rr
       obtain⟨t1,rfl⟩:=r
       obtain⟨t2,rfl⟩:=r'
       obtain⟨t3,rfl⟩:=r''
       have ok':=ok.1
       simp only [zw0,zbe0,decide_eq_true_eq]at ok'
       have lg:qk.natAbs.log2<9000:=zbp8 (zay5 (k:=20) (by have:=ok'.2.2.1;lia)) (by decide)
       exact call_range_3 ok'.2.1 (Calls.spliced_nil (zad1 hc I1 ok.1 ok.2 (mk H1 g1))) (.inl (PyProof.noPylong_of_log2 lg))
   ·cases e2
end
end DL
namespace DL
open PySem.Spec L2
def frzD:Sl→Sl
 |.own xs=>.val (.lst xs)
 |.dp d=>.val d
 |s=>s
def frzT (t:Th) (i:Nat):Th:=match t[i]? with
 |some s=>t.set i (frzD s)
 |none=>t
theorem zr6 (s:Sl) (t:Th) (i:Nat):frzT (s::t) (i+1)=s::frzT t i:=by
 unfold frzT
 simp only [zbj9]
 cases t[i]?<;>simp
theorem RSl.give {K:zbd4}{H0 H:Hp}:∀ {t:Th}{σ:L2.St}{A:List Addr} (i:Nat),RSl K H0 H t σ A→A.Nodup→∃(B A':List Addr),A'.Sublist A∧(∀b∈B,b∈A∧b∉A')∧∀H1,Same H0 H1→(∀b∈B,∀o,H b=some o→H1 b=some o)→RSl K H1 H (frzT t i) σ A'
 |_,_,_,i,.nil,_=>⟨[],[],List.Sublist.refl _,fun b hb=>(by cases hb),fun H1 e _=>by simpa [frzT] using RSl.nil⟩
 |_,_,A,0,.no r,n=>⟨[],A,List.Sublist.refl _,fun b hb=>(by cases hb),fun H1 e _=>.no (RSl.mono e r fun _ _ _ h=>h)⟩
 |_,_,A,0,.val h r,n=>⟨[],A,List.Sublist.refl _,fun b hb=>(by cases hb),fun H1 e _=>.val (Rep.mono e h) (RSl.mono e r fun _ _ _ h=>h)⟩
 |_,_,_,0,.own (p:=p) (A:=A) h1 h2 r,n=>by
  have n0:=zbg3.mp n
  refine⟨[p],A,zbk0 _ _,fun b hb=>?_,fun H1 e k=>?_⟩
  ·simp at hb;subst hb;exact⟨zbd7 ..,n0.1⟩
  ·exact .val (.lst (SqL.of (k p (by simp) _ h1)) (Reps.mono e h2)) (RSl.mono e r fun _ _ _ h=>h)
 |_,_,_,0,.dp (B:=B) (A:=A) h r,n=>by
  have n0:=zbf9.mp n
  refine⟨B,A,zbk9 _ _,fun b hb=>⟨zbd5 _ hb,fun z=>n0.2.2 b hb b z rfl⟩,fun H1 e k=>?_⟩
  exact .val (h.rep e k) (RSl.mono e r fun _ _ _ h=>h)
 |_,_,_,i+1,.no r,n=>by
  obtain⟨B,A',a1,a2,a3⟩:=RSl.give i r n
  refine⟨B,A',a1,a2,fun H1 e k=>?_⟩
  rw [zr6];exact .no (a3 H1 e k)
 |_,_,_,i+1,.val h r,n=>by
  obtain⟨B,A',a1,a2,a3⟩:=RSl.give i r n
  refine⟨B,A',a1,a2,fun H1 e k=>?_⟩
  rw [zr6];exact .val (Rep.mono e h) (a3 H1 e k)
 |_,_,_,i+1,.own (p:=p) h1 h2 r,n=>by
  have n0:=zbg3.mp n
  obtain⟨B,A',a1,a2,a3⟩:=RSl.give i r n0.2
  refine⟨B,p::A',a1.cons₂ _,fun b hb=>⟨zbd6 _ (a2 b hb).1,fun z=>?_⟩,fun H1 e k=>?_⟩
  ·rcases zbe3.mp z with w | w
   ·exact n0.1 (w ▸ (a2 b hb).1)
   ·exact (a2 b hb).2 w
  ·rw [zr6];exact .own h1 (Reps.mono e h2) (a3 H1 e k)
 |_,_,_,i+1,.dp (B:=C) h r,n=>by
  have n0:=zbf9.mp n
  obtain⟨B,A',a1,a2,a3⟩:=RSl.give i r n0.2.1
  refine⟨B,C++A',List.Sublist.append (List.Sublist.refl _) a1,fun b hb=>⟨zbd3 _ (a2 b hb).1,fun z=>?_⟩,fun H1 e k=>?_⟩
  ·rcases zbd8.mp z with w | w
   ·exact n0.2.2 b w b (a2 b hb).1 rfl
   ·exact (a2 b hb).2 w
  ·rw [zr6];exact .dp (RepD.mono e h fun _ _ _ w=>w) (a3 H1 e k)
theorem RS.give {K:zbd4}{F A:List Addr}{H:Hp}{t:Th}{σ:L2.St} (R:RS K F H A t σ) (i:Nat):∃A',RS K F H A' (frzT t i) σ∧Gr A H A' H:=by
 obtain⟨B,A',a1,a2,a3⟩:=R.rel.give i R.nd
 have sub:∀x∈A',x∈A:=fun x hx=>a1.subset hx
 refine⟨A',⟨fun q hq=>R.mu q ((zbd8.mp hq).elim (fun z=>zbd5 _ (sub q z)) fun z=>zbd3 _ z),R.nd.sublist a1,fun p hp=>R.dj p (sub p hp),a3 _ (zb2 H fun a z=>(zbd8.mp z).elim (fun z=>zbd5 _ (sub a z)) fun z=>zbd3 _ z) fun b hb o h=>zc2 h fun z=>?_⟩,⟨fun _ _ _ h=>h,fun b hb=>?_,fun b hb=>.inl (sub b hb)⟩⟩
 ·rcases zbd8.mp z with w | w
  ·exact (a2 b hb).2 w
  ·exact R.dj b (a2 b hb).1 w
 ·obtain⟨vs,q⟩:=R.mu b (zbd5 _ hb)
  rw [q];simp
def dFrz (i:Nat) (g:DS):DS:=fun t=>g (frzT t i)
theorem dS_frz {K:zbd4}{F:List Addr}{g:DS}{i:Nat}{E:Ends}{σ:L2.St}{H:Hp} (h:dS K F (dFrz i g) E σ H):dS K F g E σ H:=by
 obtain⟨A,t,o,R,e,p⟩:=zat6 h
 obtain⟨A',R',gr⟩:=R.give i
 exact zbb3 R' e (p.back gr)
theorem zac2 {X:Cx}{F:List Addr}{g:DS}{st:Stmt} (i:Nat) (h:PS X st (dS X.K F g)):PS X st (dS X.K F (dFrz i g)):=PS.imp h fun _ _ _ q=>dS_frz q
end DL
namespace L2
open PySem.Spec
noncomputable def Itz (K:zbd4) (a b:Addr):It :=
 ⟨fun i H => ∃xs ys x y,SqL K H a xs∧SqL K H b ys∧xs[i]?=some x∧ys[i]?=some y,
  fun i H x H' => ∃p v u,H p=none∧x=.ref p∧H'=upd H p (.tup [v,u])∧(∀xs,SqL K H a xs→xs[i]?=some v)∧∀ys,SqL K H b ys→ys[i]?=some u,
  fun i H => ∃xs ys,SqL K H a xs∧SqL K H b ys∧i=min xs.length ys.length⟩
noncomputable def ZipAt (z TI TO i1 i2 l1 l2:Addr) (i:Nat) (h:Heap):Prop:=IsZip h z TI TO .none∧IsPair h TI (.ref i1) (.ref i2)∧(∃a b,IsPair h TO a b)∧h.IsListIter i1 l1 i∧h.IsListIter i2 l2 i
theorem turn_zip {P:Program}{w:World}{K:zbd4}{elts:List Expr}{k:Nat}{pos:Pos} (l1 l2 z TI TO i1 i2:Addr) (D:ZipApart z TI TO i1 i2 l1 l2):Turn P w K (.Tuple elts k pos) (Itz K l1 l2) [z,TI,TO,i1,i2] z (ZipAt z TI TO i1 i2 l1 l2) where
 mem:=zbd7 ..
 obj:=fun i h st b hb=>by
  obtain⟨h1,h2,⟨a,c,h3⟩,h4,h5⟩:=st
  simp only [zbe3,zbk2,or_false]at hb
  rcases hb with rfl | rfl | rfl | rfl | rfl
  ·exact⟨_,h1,fun v q=>by cases q⟩
  ·exact⟨_,h2,fun v q=>by cases q⟩
  ·exact⟨_,h3,fun v q=>by cases q⟩
  ·obtain⟨o,e1,_,d⟩:=h4
   exact⟨o,e1,fun v q=>by rw [d]at q;cases q⟩
  ·obtain⟨o,e1,_,d⟩:=h5
   exact⟨o,e1,fun v q=>by rw [d]at q;cases q⟩
 keep:=fun i h h' st kk=>by
  obtain⟨h1,h2,⟨a,c,h3⟩,h4,h5⟩:=st
  exact⟨kk z (by simp) _ h1,kk TI (by simp) _ h2,⟨a,c,kk TO (by simp) _ h3⟩,h4.at fun o q=>kk i1 (by simp) o q,h5.at fun o q=>kk i2 (by simp) o q⟩
 item:=fun X hP hw hK hc i pins s σ H E I hf st hg=>by
  subst hP hw hK
  obtain⟨xs,ys,x,y,hq1,hq2,hx,hy⟩:=hg
  obtain⟨its1,rv1,p1,_⟩:=I.list hq1
  obtain⟨its2,rv2,p2,_⟩:=I.list hq2
  obtain⟨u1,hu1,ru1⟩:=rv1.get hx
  obtain⟨u2,hu2,ru2⟩:=rv2.get hy
  have W:=WalksT.zip2 (prog:=X.prog) (w:=X.w) (I.ok.hd hc) z TI TO i1 i2 l1 l2 D its1.toArray its2.toArray
  have L1:i<its1.length:=(zbg7.mp hu1).1
  have L2':i<its2.length:=(zbg7.mp hu2).1
  obtain⟨z1,z2,z3,z4,z5⟩:=st
  refine W.item i s _ _ (by simp;lia) ⟨z1,z2,z3,z4,z5,p1.isList,p2.isList⟩ fun T vals h1 tk pt hT it md kp=>?_
  obtain⟨w1,w2,e1,e2,rfl⟩:=pt
  have e1':w1=u1:=by
   have:its1[i]?=some w1:=by simpa using e1
   rw [hu1]at this;exact (Option.some.inj this).symm
  have e2':w2=u2:=by
   have:its2[i]?=some w2:=by simpa using e2
   rw [hu2]at this;exact (Option.some.inj this).symm
  subst e1';subst e2'
  have nT:=W.apart i T h1 md
  refine⟨_,rfl,W.go elts k pos i T { s with heap:=h1,toks:=tk } _ _ md fun h2 st2 kp2=>?_⟩
  have kk:∀b o,b∉[z,TI,TO,i1,i2]→s.heap.get? b=some o→h2.get? b=some o:=fun b o nb q=>by
   have nw:b∉[z,TO,i1,i2]:=fun w=>nb (by simp only [zbe3,zbk2,or_false]at w ⊢;rcases w with w | w | w | w<;>simp [w])
   exact kp2 b o nw (kp b o nw q)
  obtain⟨o,t1,t2,t3⟩:=it
  have it2:IsTup h2 T #[w1,w2]:=⟨o,kp2 T o nT t1,t2,t3⟩
  have I2:Inv X pins σ (upd H T (.tup [x,y])) { s with heap:=h2,toks:=tk }:=I.turnedNew (t':=tk) kk hf hT
   ⟨by show 2≤sizeLine;decide,[w1,w2],.cons ru1 (.cons ru2 .nil),it2⟩
  obtain⟨y1,y2,y3,y4,y5,_,_⟩:=st2
  refine⟨.ref T,_,I2,rfl,⟨T,x,y,I.hok.fresh hT,rfl,rfl,fun as ha=>by rw [I.list_inj ha hq1];exact hx,fun bs hb=>by rw [I.list_inj hb hq2];exact hy⟩,⟨y1,y2,y3,y4,y5⟩,fun b hb=>?_⟩
  have hlt:b<s.heap.objs.size:=by
   simp only [zbe3,zbk2,or_false]at hb
   rcases hb with rfl | rfl | rfl | rfl | rfl
   ·exact zbe6 z1
   ·exact zbe6 z2
   ·obtain⟨_,_,e⟩:=z3;exact zbe6 e
   ·obtain⟨_,e,_⟩:=z4;exact zbe6 e
   ·obtain⟨_,e,_⟩:=z5;exact zbe6 e
  have nb:b≠T:=fun e=>by rw [e]at hlt;exact absurd hlt (Nat.not_lt.mpr hT)
  rw [zc8 nb]
  exact (hf b hb).1
 done:=fun X hP hw hK hc i pins s σ H E I hf st hg=>by
  subst hP hw hK
  obtain⟨xs,ys,hq1,hq2,hi⟩:=hg
  obtain⟨its1,rv1,p1,_⟩:=I.list hq1
  obtain⟨its2,rv2,p2,_⟩:=I.list hq2
  have W:=WalksT.zip2 (prog:=X.prog) (w:=X.w) (I.ok.hd hc) z TI TO i1 i2 l1 l2 D its1.toArray its2.toArray
  have e:i=min its1.toArray.size its2.toArray.size:=by
   have:=rv1.length;have:=rv2.length
   simp only [zbf5];lia
  obtain⟨z1,z2,z3,z4,z5⟩:=st
  refine W.done s _ _ (e ▸ ⟨z1,z2,z3,z4,z5,p1.isList,p2.isList⟩) fun h' tk kp=>⟨rfl,I.turnedL (t':=tk) (fun b o nb q=>kp b o (fun w=>nb (by simp only [zbe3,zbk2,or_false]at w ⊢;rcases w with w | w | w | w<;>simp [w])) q) hf⟩
 self:=fun X i s Q E st h=>by
  obtain⟨z1,_⟩:=st
  exact wpAny_pyIter_zip z1 h
noncomputable def iZip (K:zbd4) (ta:TA):TI:=fun σ H R=>ta σ H fun vs H1 => ∃a b,vs=[.ref a,.ref b]∧(∃xs,SqL K H1 a xs)∧(∃ys,SqL K H1 b ys)∧R (Itz K a b) H1
theorem bt_zip:bootBuiltins "zip"=some (.type "zip"):=by decide +kernel
theorem pi_zip {X:Cx}{a b:Expr}{ta:TA}{elts:List Expr}{k:Nat}{tp p pos:Pos} (hg:Gl X "zip") (hm:X.mg "zip"=none) (ha:PA X [a,b] ta) (hs:zbe7 [a,b] X.env=(false,eval a X.env)::zbe7 [b] X.env:=by rfl) (hs2:(zbl0 pos (zbe7 [b] X.env)).any (·.1)=false:=by rfl) :
  PI X (.Tuple elts k tp) (.Call (.Name "zip" p) [a,b] [] pos) (iZip X.K ta):=by
 intro pins s σ H R I h
 refine Call_ (zm4 I hg hm bt_zip (PyProof.Rows.callWith_type1 (thn (ha pos pins s σ H _ I h) fun us s1 ⟨vs,H1,I1,r1,q1⟩=>?_) hs hs2))
 obtain⟨l1,l2,rfl,⟨xs,hx⟩,⟨ys,hy⟩,q⟩:=q1
 obtain⟨u,w,rfl,ru,rw'⟩:=r1.two
 cases ru;cases rw'
 obtain⟨its1,rv1,p1,_⟩:=I1.list hx
 obtain⟨its2,rv2,p2,_⟩:=I1.list hy
 have t1:l1<s1.heap.objs.size:=by obtain⟨_,e,_⟩:=p1.isList;exact zbe6 e
 have t2:l2<s1.heap.objs.size:=by obtain⟨_,e,_⟩:=p2.isList;exact zbe6 e
 refine call_zip_2 p1.isList p2.isList fun h' z1 z2 z3 z4 z5 z6 hk=>?_
 have I2:Inv X pins σ H1 { s1 with heap:=h' }:=I1.kept (t':=s1.toks) hk
 refine wpAny_pyIter_zip z1 ⟨s1.heap.objs.size+4,[s1.heap.objs.size+4,s1.heap.objs.size+2,s1.heap.objs.size+3,s1.heap.objs.size,s1.heap.objs.size+1],ZipAt _ _ _ _ _ l1 l2,Itz X.K l1 l2,H1,rfl,I2,turn_zip l1 l2 _ _ _ _ _ (zipApart_new t1 t2),⟨z1,z2,⟨_,_,z3⟩,z4,z5⟩,fun c hc=>?_,q⟩
 have le:s1.heap.objs.size≤c:=by
  simp only [zbe3,zbk2,or_false]at hc
  rcases hc with rfl | rfl | rfl | rfl | rfl
  ·exact zbk3 _ _
  ·exact zbk3 _ _
  ·exact zbk3 _ _
  ·exact zbf6 _
  ·exact zbk3 _ _
 exact I1.fpOk le (I1.hok.fresh le)
end L2
namespace DL
open PySem.Spec L2
section
variable {X:Cx}{F:List Addr}{a b c:Expr}{es:List Expr}{fa fb fc:DE}{g g1 g2:DS}{pos:Pos}{gt:TG}{kt:D→Th→Option Th}
def zipD:List D→List D→List D
 |x::xs,y::ys=>.tup [x,y]::zipD xs ys
 |_,_=>[]
theorem zt7:∀(xs ys:List D),(zipD xs ys).length=min xs.length ys.length
 |[],ys=>by simp [zipD]
 |x::xs,[]=>by simp [zipD]
 |x::xs,y::ys=>by simp [zipD,zt7 xs ys]
theorem zan0:∀(xs ys:List D) (j:Nat) (x y:D),xs[j]?=some x→ys[j]?=some y→(zipD xs ys)[j]?=some (.tup [x,y])
 |[],ys,j,x,y,e1,e2=>by simp at e1
 |x'::xs,[],j,x,y,e1,e2=>by simp at e2
 |x'::xs,y'::ys,0,x,y,e1,e2=>by simp at e1 e2;subst e1;subst e2;rfl
 |x'::xs,y'::ys,j+1,x,y,e1,e2=>by simpa [zipD] using zan0 xs ys j x y (by simpa using e1) (by simpa using e2)
end
end DL
namespace DL
open PySem.Spec L2
section
variable {X:Cx}{F:List Addr}{a b c o:Expr}{es:List Expr}{fa fb fc:DE}{fs:List DE}{ga:DA}{g g1 g2:DS}{ft fu:DT}{pos:Pos}{st:Stmt}{rest:List Stmt}{tg:Expr}{gt:TG}{kt:D→Th→Option Th}
def insI (n:Int):List Int→List Int
 |[]=>[n]
 |m::r=>if n≤m then n::m::r else m::insI n r
def zd6:List Int→List Int
 |[]=>[]
 |n::r=>insI n (zd6 r)
theorem zx5 (n:Int):∀r:List Int,(insI n r).Perm (n::r)
 |[]=>List.Perm.refl _
 |m::r=>by
  unfold insI
  split
  ·exact List.Perm.refl _
  ·exact (List.Perm.cons m (zx5 n r)).trans (List.Perm.swap n m r)
theorem zd5:∀r:List Int,(zd6 r).Perm r
 |[]=>List.Perm.refl _
 |n::r=>(zx5 n _).trans (List.Perm.cons n (zd5 r))
theorem zx4 (n:Int):∀r:List Int,r.Pairwise (·≤·)→(insI n r).Pairwise (·≤·)
 |[],_=>by simp [insI]
 |m::r,h=>by
  unfold insI
  have hc:=zbk4.mp h
  split
  ·rename_i hle
   refine zbk4.mpr ⟨fun x hx=>?_,h⟩
   rcases zbe3.mp hx with rfl | z
   ·exact hle
   ·exact Int.le_trans hle (hc.1 x z)
  ·rename_i hle
   refine zbk4.mpr ⟨fun x hx=>?_,zx4 n r hc.2⟩
   rcases zbe3.mp ((zx5 n r).mem_iff.mp hx) with rfl | z
   ·lia
   ·exact hc.1 x z
theorem zj1:∀r:List Int,(zd6 r).Pairwise (·≤·)
 |[]=>List.Pairwise.nil
 |n::r=>zx4 n _ (zj1 r)
theorem zp0:∀ {xs ys:List Int},xs.Perm ys→xs.Pairwise (·≤·)→ys.Pairwise (·≤·)→xs=ys
 |[],ys,p,_,_=>(List.Perm.nil_eq p)
 |x::xs,[],p,_,_=>absurd p.length_eq (by simp)
 |x::xs,y::ys,p,h1,h2=>by
  have c1:=zbk4.mp h1
  have c2:=zbk4.mp h2
  have e:x=y:=by
   have m1:x∈y::ys:=p.mem_iff.mp (zbd7 ..)
   have m2:y∈x::xs:=p.mem_iff.mpr (zbd7 ..)
   have l1:y≤x:=by rcases zbe3.mp m1 with z | z;lia;exact c2.1 x z
   have l2:x≤y:=by rcases zbe3.mp m2 with z | z;lia;exact c1.1 y z
   lia
  subst e
  rw [zp0 (List.Perm.cons_inv p) c1.2 c2.2]
theorem zai0:zs8 X (.builtin "sorted") (fun xs H Q => ∃(p:Addr) (ns:List Int),xs=[.ref p]∧SqL X.K H p (ns.map V.int)∧ns.length<64∧∀l,H l=none→Q (.ref l) (upd H l (.lst ((zd6 ns).map V.int)))):=by
 intro pins s σ H xs us Q I r h
 obtain⟨p,ns,rfl,hs,h64,q⟩:=h
 obtain⟨u,rfl,ru⟩:=zar5 r
 cases ru
 obtain⟨its,rv,pl,_⟩:=I.list hs
 have hi:IntsAre its ns:=zs4 rv
 have hl:=hi.length
 refine sorted_ints (PlainL.isL pl) hi (by lia) fun out ns' hI hp ho=>?_
 have e:ns'=zd6 ns:=zp0 (hp.trans (zd5 ns).symm) ho (zj1 ns)
 subst e
 obtain⟨k,ek⟩:=sortedAll_at s.heap its out
 have fr:s.heap.objs.size≤s.heap.objs.size+1:=zbr6 _
 refine⟨.ref _,_,I.laid (o:=HO.lst ((zd6 ns).map V.int)) (t':=s.toks) (fun b o e=>sortedAll_old e) fr ⟨?_,out.toList,k,zv1 hI,by simpa [seqObj] using ek⟩,rfl,q _ (I.hok.fresh fr)⟩
 refine zn0 ?_
 rw [zbf7,(zd5 ns).length_eq];lia
noncomputable def zm5:List Ev→Option Ev:=fun rs=>match rs with
 |[r]=>(match r.d with
  |.lst ds=>(zm8 ds).bind fun ns=>if ns.length<64 then some (.nw ((zd6 ns).map D.int)) else none
  |_=>none)
 |_=>none
theorem zr9:CallD X F (.builtin "sorted") zm5:=CallD.of zai0 fun H0 H A xs rs e Q m g q ek hq=>by
 unfold zm5 at ek
 split at ek
 case h_2=>cases ek
 cases q with
 |cons q1 q2 =>
  cases q2
  split at ek
  case h_2=>cases ek
  rename_i ds z
  cases e1:zm8 ds with
  |none=>rw [e1]at ek;cases ek
  |some ns =>
   rw [e1]at ek
   simp only [zbd9]at ek
   split at ek
   case isFalse=>cases ek
   rename_i c
   cases ek
   have p:=q1.full
   rw [z,zu5 e1]at p
   cases p with
   |lst h1 h2 =>
    rw [zj6 h2]at h1
    exact⟨_,ns,rfl,h1,c,fun l hl=>hq _ _ (zd1 hl) ⟨l,_,rfl,Same.free g hl,zb9,Reps.ints _⟩⟩
end
end DL
namespace DL
open PySem.Spec L2
section
variable {X:Cx}{F:List Addr}{a b c o:Expr}{es:List Expr}{fa fb fc:DE}{ga:DA}{pos:Pos}
def kRev:Ev→Option Ev:=fun r=>match r.d with
 |.lst ds=>if r.ok||flats ds then some (.nw ds.reverse) else none
 |_=>none
theorem Reps.rev {K:zbd4}{H:Hp}:∀ {ds:List D}{vs:List V},Reps K H ds vs→Reps K H ds.reverse vs.reverse
 |_,_,.nil=>.nil
 |_,_,.cons h r=>by rw [zbm0,zbm0];exact (Reps.rev r).app (Reps.one h)
theorem ped_rev {p2 p3 p4:Pos}{j} (ha:PE X a (dE X.K F fa)):PE X (.Subscript a (.Slice none none (some (.UnaryOp .USub (.Constant (.int 1) j p3) p4)) p2) pos) (dE X.K F (d1 kRev fa)):=by
 intro pins s σ H Q I h
 obtain⟨A,t,r,R,e,h⟩:=h
 unfold d1 at e
 cases e1:fa t with
 |none=>rw [e1]at e;cases e
 |some r1 =>
  rw [e1]at e
  have e:kRev r1=some r:=e
  unfold kRev at e
  split at e
  case h_2=>cases e
  rename_i ds z
  split at e
  case isFalse=>cases e
  rename_i ok
  cases e
  refine Subscript_ (thn (ha pins s σ H (fun x H1=>Same H H1∧RepEv X.K F A H H1 r1 x) I ⟨A,t,r1,R,e1,fun x H1 gs q=>⟨gs,q⟩⟩) fun v s1 ⟨x,H1,I1,rx,gs,q⟩=>?_)
  obtain⟨p,vs,rfl,h1,h2⟩:=q.items R.mu gs z ok
  cases rx
  refine wpAny_Slice ?_
  rw [evalPart_none]
  refine zbg4 (zbg4 ?_)
  rw [evalPart_some]
  refine thn ((zaw6 (F:=F) (za4 (i:=1))) pins s1 σ H1 (fun y H2=>y=.int (-1)∧H2=H1∨(y=.int (-1)∧Same H1 H2)) I1 ⟨A,t,.cl (.int (-1)),R.grow gs,rfl,fun y H2 gs2 q2=>.inr ⟨zd7 q2.full,gs2⟩⟩) fun u s2 ⟨y,H2,I2,ry,qy⟩=>?_
  have gs2:Same H1 H2:=by rcases qy with ⟨_,e⟩ | ⟨_,e⟩;rw [e];exact Same.refl _;exact e
  have ey:y=.int (-1):=by rcases qy with ⟨e,_⟩ | ⟨e,_⟩<;>exact e
  subst ey
  obtain⟨tk,rfl⟩:=ry
  obtain⟨its,rv,pl,hz⟩:=I2.list (SqL.mono gs2 h1)
  have I3:L2.Inv X pins σ H2 { s2 with heap:=s2.heap.push { cls:=.type "slice",data:=.fields #[.none,.none,.int (-1) tk] } }:=I2.kept (t':=s2.toks) fun b ob q=>zbe4 _ q
  have hl:=PlainL.isL pl
  show wpAny (model X.prog X.w) X.A (subscriptTail a (.Slice none none (some (.UnaryOp .USub (.Constant (.int 1) j p3) p4)) p2) (.ref p) (.ref s2.heap.objs.size)) (EP X pins σ Q) X.xe { s2 with heap:=s2.heap.push { cls:=.type "slice",data:=.fields #[.none,.none,.int (-1) tk] } }
  refine tail_any (ops:=[.ref p,.ref s2.heap.objs.size]) (hl.push _).typeIs slot_list_getitem.lookup (wpAny_getItem_list_slice (hl.push _) (Heap.IsSliceOf.new ..) .none .none (.int (-1) tk) (by simp) ?_ ?_) (by with_unfolding_all rfl)
  ·have l1:=rv.length
   have hn:=I3.fresh
   refine⟨.ref _,_,?_,rfl,h _ _ ((gs.trans gs2).trans (zd1 hn)) ⟨_,vs.reverse,rfl,Same.free (gs.trans gs2) hn,zb9,Reps.mono (zj0 hn) (Reps.mono (zc3 gs2) h2).rev⟩⟩
   refine I3.laid (o:=HO.lst vs.reverse) (t':=s2.toks) (fun b ob q=>zbe4 _ q) (zbf6 _) ⟨by rw [zbn1];exact hz,its.reverse,0,rv.reverse,?_⟩
   rw [PySem.W.krv_pick]
   exact zbg5 _ rfl
  ·rw [zbf5, ← rv.length];exact hz
end
end DL
namespace L2
open PySem.W
def bndS:Nat:=2 ^ 1048576
theorem zz2:∀ {ns:List Int}{n:Int},n∈ns→WData.weight (.int n)≤WData.weightAll (ns.map WData.int)
 |m::r,n,h=>by
  rw [zbf4]
  unfold WData.weightAll
  rcases zbe3.mp h with rfl | z
  ·lia
  ·have:=zz2 z;lia
theorem bnd_of {ns:List Int} (h:WData.layableAll [WData.list (ns.map WData.int)]=true):∀n∈ns,n.natAbs<bndS:=fun n hn=>by
 have h1:WData.layable (WData.list (ns.map WData.int))=true:=by simpa [WData.layableAll] using h
 have h2:WData.weight (WData.list (ns.map WData.int))≤2 ^ 20:=by
  unfold WData.layable at h1
  simp only [zbe0,decide_eq_true_eq]at h1
  exact h1.2
 have h3:WData.weight (.int n)≤2 ^ 20:=by
  refine zbh3 (zz2 hn) ?_
  have e:WData.weight (WData.list (ns.map WData.int))=WData.weightAll (ns.map WData.int):=by simp [WData.weight]
  rw [← e];exact h2
 by_cases z:n=0
 ·subst z;unfold bndS;exact Nat.pow_pos (by decide)
 ·have h4:n.natAbs.log2+1≤2 ^ 20:=by
   have:WData.weight (.int n)=n.natAbs.log2+1:=by simp [WData.weight,z]
   rw [← this];exact h3
  have h5:n.natAbs.log2<1048576:=by lia
  exact (Nat.log2_lt (by lia)).mp h5
end L2
namespace DL
open PySem.Spec L2
theorem RSl.lose {K:zbd4}{H0 H:Hp}{p:Addr}{xs:List D}:∀ {t:Th}{σ:L2.St}{A:List Addr} (i:Nat),RSl K H0 H t σ A→A.Nodup→t[i]?=some (.own xs)→σ[i]?=some (some (.ref p)) →
  ∃A':List Addr,A'.Sublist A∧p∉A'∧∀H0' H1,Same H0 H0'→(∀b∈A',∀o,H b=some o→H1 b=some o)→RSl K H0' H1 (t.set i .no) σ A'
 |_,_,_,i,.nil,_,e,_=>by simp at e
 |_,_,_,0,.no r,_,e,_=>by simp at e
 |_,_,_,0,.val h r,_,e,_=>by simp at e
 |_,_,_,0,.dp h r,_,e,_=>by simp at e
 |_,_,_,0,.own (p:=q) (A:=A) h1 h2 r,n,e,f=>by
  have n0:=zbg3.mp n
  have:q=p:=by simpa using f
  subst this
  exact⟨A,zbk0 _ _,n0.1,fun H0' H1 s k=>.no (RSl.mono s r k)⟩
 |_,_,_,i+1,.no r,n,e,f=>by
  obtain⟨A',a1,a2,a3⟩:=RSl.lose i r n (by simpa using e) (by simpa using f)
  exact⟨A',a1,a2,fun H0' H1 s k=>.no (a3 H0' H1 s k)⟩
 |_,_,_,i+1,.val h r,n,e,f=>by
  obtain⟨A',a1,a2,a3⟩:=RSl.lose i r n (by simpa using e) (by simpa using f)
  exact⟨A',a1,a2,fun H0' H1 s k=>.val (Rep.mono s h) (a3 H0' H1 s k)⟩
 |_,_,_,i+1,.own (p:=q) h1 h2 r,n,e,f=>by
  have n0:=zbg3.mp n
  obtain⟨_,_,b1,b2,_,_⟩:=r.getOwn (i:=i) (ds:=xs) (by simpa using e)
  have f':=f
  rw [zbj9,b1]at f'
  cases f'
  obtain⟨A',a1,a2,a3⟩:=RSl.lose i r n0.2 (by simpa using e) (by simpa using f)
  refine⟨q::A',a1.cons₂ _,fun z=>?_,fun H0' H1 s k=>.own (k q (by simp) _ h1) (Reps.mono s h2) (a3 H0' H1 s fun b hb=>k b (zbd6 _ hb))⟩
  rcases zbe3.mp z with w | w
  ·exact n0.1 (w ▸ b2)
  ·exact a2 w
 |_,_,_,i+1,.dp (B:=C) h r,n,e,f=>by
  have n0:=zbf9.mp n
  obtain⟨_,_,b1,b2,_,_⟩:=r.getOwn (i:=i) (ds:=xs) (by simpa using e)
  have f':=f
  rw [zbj9,b1]at f'
  cases f'
  obtain⟨A',a1,a2,a3⟩:=RSl.lose i r n0.2.1 (by simpa using e) (by simpa using f)
  refine⟨C++A',List.Sublist.append (List.Sublist.refl _) a1,fun z=>?_,fun H0' H1 s k=>.dp (RepD.mono s h fun b hb=>k b (zbd5 _ hb)) (a3 H0' H1 s fun b hb=>k b (zbd3 _ hb))⟩
  rcases zbd8.mp z with w | w
  ·exact n0.2.2 p w p b2 rfl
  ·exact a2 w
noncomputable def spM (K:zbd4) (G:List D→Option Ev):Sp:=fun vs H Q _ => ∃(Fo:List Addr) (p:Addr) (ws vs':List V) (xs ds:List D) (d:D),vs=.ref p::vs'∧Lists H (p::Fo)∧p∉Fo∧H p=some (.lst ws)∧Reps K (hide (p::Fo) H) xs ws∧Reps K (hide (p::Fo) H) ds vs'∧G (.lst xs::ds)=some (.cl d)∧scD d=true ∧
 ∀v H',(∀b o,b≠p→H b=some o→H' b=some o)→H' p≠none→(∀Hx,Rep K Hx d v)→Q v H'
structure CalM (P:Program) (w:World) (K:zbd4) (mg:Str→Option Value) (base:BHeap) (x:Str) (k:Nat) (G:List D→Option Ev):Prop where
 ex:∃(a:Addr) (fd:FuncData) (ps:List Str),mg x=some (.ref a)∧zbh6 K (.ref a)=true∧L2.Binds K fd ps []∧FnOk P w K mg base CX0 k a fd ps (spM K G)
def sV:D→V
 |.bl b=>.bl b
 |.int i=>.int i
 |.str x=>.str x
 |_=>.non
def keyD:D→Option Key
 |.int i=>some (Sum.inl i)
 |.str x=>some (Sum.inr x)
 |_=>none
theorem rep_sc {K:zbd4}{H:Hp}{d:D}{v:V} (r:Rep K H d v) (s:scD d=true):v=sV d:=by
 cases r with
 |non=>rfl
 |bl b=>rfl
 |int i=>rfl
 |str x=>rfl
 |tup _ _=>cases s
 |lst _ _=>cases s
 |dct _ _ _=>cases s
 |pdc _=>cases s
 |fdc _=>cases s
 |adr _=>cases s
theorem sc_rep {K:zbd4}{H:Hp}:∀ {d:D},scD d=true→Rep K H d (sV d)
 |.non,_=>.non
 |.bl b,_=>.bl b
 |.int i,_=>.int i
 |.str x,_=>.str x
 |.tup _,s=>by cases s
 |.lst _,s=>by cases s
 |.dct _ _,s=>by cases s
 |.pdc _,s=>by cases s
 |.fdc _,s=>by cases s
 |.adr _,s=>by cases s
theorem sc_flatD:∀ {d:D},scD d=true→flat d=true
 |.non,_=>rfl
 |.bl b,_=>rfl
 |.int i,_=>rfl
 |.str x,_=>rfl
 |.tup _,s=>by cases s
 |.lst _,s=>by cases s
 |.dct _ _,s=>by cases s
 |.pdc _,s=>by cases s
 |.fdc _,s=>by cases s
 |.adr _,s=>by cases s
theorem zan8 {K:zbd4}{H0 H:Hp}:∀ {ds:List D},ds.all scD=true→RepDs K H0 H ds (ds.map sV) []
 |[],_=>.nil
 |d::ds,s=>by
  simp only [zbh1,zbe0]at s
  exact .cons (B:=[]) (C:=[]) (.flat (sc_flatD s.1) (sc_rep s.1)) (zan8 s.2)
def hasK (ks:List Key) (k:Key):Bool:=ks.any fun k'=>decide (k'=k)
noncomputable def zt5 (ks:List Key) (ds:List D) (k:Key) (d:D):List Key×List D :=
 if hasK ks k then (ks,zbr1 (fun k' d'=>if k'=k then d else d') ks ds) else (ks++[k],ds++[d])
theorem zam4 (k:Key):∀ {ks:List Key}{vs:List V},ks.length=vs.length→(valV (mkKV ks vs) k).isSome=hasK ks k
 |[],[],_=>rfl
 |k'::ks,d::ds,h=>by
  have i:=zam4 k (ks:=ks) (vs:=ds) (by simpa using h)
  unfold mkKV hasK at i ⊢
  simp only [zbh4,zbi9]
  by_cases e:k'=k
  ·rw [zt8 (p:=(k',d)) e,decide_eq_true e];rfl
  ·rw [zt9 (p:=(k',d)) e,decide_eq_false e,i];rfl
 |[],_::_,h=>by simp at h
 |_::_,[],h=>by simp at h
section
variable {X:Cx}{F:List Addr}{a b c o:Expr}{es:List Expr}{fa fb fc:DE}{ga:DA}{pos:Pos}
noncomputable def kInD (neg:Bool):Ev→Ev→Option Ev:=fun r1 r2=>match r2.d with
 |.dct ks ds=>(keyD r1.d).map fun k=>.cl (.bl (if neg then !hasK ks k else hasK ks k))
 |_=>none
theorem zaz0 {K:zbd4}{H:Hp}{d:D}{v:V}{k:Key} (r:Rep K H d v) (e:keyD d=some k):v=kV k:=by
 cases r<;>cases e<;>rfl
theorem od_ninD (hu:X.A.units+64<cLine):OpD X F (compareOp .NotIn) (kInD true):=by
 intro pins s σ H0 H A x y v u Q r1 r2 r I m g0 rx ry q1 q2 e hq
 unfold kInD at e
 split at e
 case h_2=>cases e
 rename_i ks ds z
 cases ek:keyD r1.d with
 |none=>rw [ek]at e;cases e
 |some k =>
  rw [ek]at e
  cases e
  have p1:=zaz0 q1.full ek
  have p2:=q2.full
  rw [z]at p2
  cases p2 with
  |@dct _ _ p vs l h1 h2 =>
   subst p1
   cases (show u=Value.ref p from ry)
   refine d_notIn (by lia) I (DGet.k h1) rx fun s' I'=>?_
   rw [zam4 k l]
   exact⟨.bl _,H,I',rfl,hq _ H (Same.refl H) (.bl _)⟩
theorem put_zip (k:Key) (d:D) {ks:List Key}{ds:List D} (h:ks.length=ds.length):putK (mkKV ks (ds.map sV)) k (sV d)=mkKV (zt5 ks ds k d).1 ((zt5 ks ds k d).2.map sV)∧(zt5 ks ds k d).1.length=(zt5 ks ds k d).2.length:=by
 have ha:(mkKV ks (ds.map sV)).any (fun kv=>decide (kv.1=k))=hasK ks k:=by
  rw [zan1,zam4 k (by simpa using h)]
 unfold putK zt5
 rw [ha]
 by_cases hc:hasK ks k=true
 ·rw [if_pos hc,if_pos hc]
  refine⟨?_,by simp;lia⟩
  clear hc ha
  unfold mkKV
  induction ks generalizing ds with
  |nil=>simp
  |cons k' ks ih =>
   cases ds with
   |nil=>simp at h
   |cons d' ds =>
    have i:=ih (ds:=ds) (by simpa using h)
    simp only [zbf4,zbh4,zbl8,i]
    by_cases e:k'=k
    ·simp [e]
    ·simp [e]
 ·rw [if_neg hc,if_neg hc]
  refine⟨?_,by simp;lia⟩
  unfold mkKV
  rw [zbl5,List.zip_append (by simpa using h)]
  rfl
theorem put_sc {ks:List Key}{k:Key}{d:D} (sd:scD d=true):∀ {ds:List D},ds.all scD=true→(zt5 ks ds k d).2.all scD=true:=fun {ds} s=>by
 unfold zt5
 split
 ·show (zbr1 _ ks ds).all scD=true
  rename_i hc
  clear hc
  induction ks generalizing ds with
  |nil=>simp
  |cons k' ks ih =>
   cases ds with
   |nil=>simp
   |cons d' ds =>
    simp only [zbh1,zbe0]at s
    simp only [zbl8,zbh1,zbe0]
    refine⟨?_,ih s.2⟩
    split
    ·exact sd
    ·exact s.1
 ·show (ds++[d]).all scD=true
  rw [List.all_append,s]
  simp [sd]
end
end DL
namespace DL
open PySem.Spec L2
def cmpI (mx:Bool) (i j:Int):Bool:=if mx then decide (i > j) else decide (i<j)
def lexI (mx:Bool):List Int→List Int→Bool
 |i::r,j::q=>if decide (i=j) then lexI mx r q else cmpI mx i j
 |_,_=>false
noncomputable def cmpD (mx:Bool):D→D→Option Bool
 |.int i,.int j=>some (cmpI mx i j)
 |.tup xs,.tup ys=>(zm8 xs).bind fun is=>(zm8 ys).bind fun js=>if is.length=js.length then some (lexI mx is js) else none
 |_,_=>none
def pD (K:zbd4) (mx:Bool):V→V→Hp→Bool→Prop:=fun y z H c => ∃d e,Rep K H d y∧Rep K H e z∧cmpD mx d e=some c
noncomputable def zbc7 (mx:Bool) (fb:DE) (cs:List D):D→D→List D→Option D
 |b,_,[]=>some b
 |b,k,d::ds=>(fb (.val d::cs.map Sl.val)).bind fun r=>if flat r.d then (cmpD mx r.d k).bind fun c=>if c then zbc7 mx fb cs d r.d ds else zbc7 mx fb cs b k ds else none
noncomputable def dKey (mx:Bool) (cap:List Nat) (fa fb:DE):DE:=fun t=>(fa t).bind fun r=>(capD t cap).bind fun c=>match r.d with
 |.lst (d::ds)=>if (zm8 (d::ds)).isSome then (fb (.val d::c.2.map Sl.val)).bind fun k=>if flat k.d then (zbc7 mx fb c.2 d k.d ds).map Ev.cl else none else none
 |_=>none
end DL
namespace L2
open PySem.Spec PySem.W
def lamOf (x:Str):Str:=x++".<locals>."++"<lambda>"
theorem zaf6 {β:Type}:∀ {l:List (Nat×β)}{a:Nat}{o:β},l.lookup a=some o→(a,o)∈l
 |[],_,_,e=>by cases e
 |(b,x)::r,a,o,e=>by
  rw [zbg2]at e
  cases hb:a == b with
  |true=>rw [hb]at e;cases e;rw [eq_of_beq hb];exact .head _
  |false=>rw [hb]at e;exact .tail _ (zaf6 e)
def tbOf (K:Frag) (names:List Str):List (Addr×Str):=names.filterMap fun x=>(tabIn K x).map fun q=>(q.2,lamOf x)
theorem of_tbOf {K:Frag}{names:List Str}{p:Addr×Str} (h:p∈tbOf K names):∃x∈names,∃c,tabIn K x=some (c,p.1):=by
 obtain⟨x,hx,e⟩:=zbn6.mp h
 cases q:tabIn K x with
 |none=>rw [q]at e;cases e
 |some r=>rw [q]at e;cases e;exact⟨x,hx,r.1,q⟩
def TbOk (K:Frag) (names:List Str):Prop := ∀p∈tbOf K names,(tbOf K names).lookup p.1=some p.2∧K.lookup p.1=none
theorem tbOk_nil {K:Frag}:TbOk K []:=fun p hp=>by cases hp
theorem zay8 {P:Program}{w:World}{K:Frag}{mg mb:Str→Option Value}{CX:CXT}{k:Nat}{fa a:Addr}{fd:FuncData}{x:Str}{sp:Sp}{s₁:zbe5}{vs:List Value}{ns:List Int}{names:List Str}
  (KX:K.In s₁.heap) (hns:s₁.heap.Ns mainGlobals mg) (hb:s₁.heap.Ns builtinsNs mb) (hbb:∀x:Str,x≠"__name__"→mb x=bootBuiltins x) (hlim:s₁.heap.NoLimit)
  (hbm:∃(bm:Addr) (ob:Obj),mg "__builtins__"=some (.ref bm)∧bm≠builtinsNs∧s₁.heap.get? bm=some ob∧ob.cls=.type "module"∧ob.dict=some builtinsNs∧ob.data=.plain) (hg:s₁.gens = #[])
  (ha:s₁.heap.get? a=some { cls:=.type "list",data:=.seq vs.toArray }) (hi:IntsAre vs ns) (hl:ns.length≤sizeLine) (hr:Room k callerA)
  (hT:∀x∈names,∀c P,tabIn K x=some (c,P)→CodeHd s₁.heap c P∧s₁.heap.get? P=some (tabObj #[])) (hn:TbOk K names)
  (F:∀base:BHeap,base.tabs=tbOf K names→K.In base→base.Ns mainGlobals mg→(∀x∈names,∀c P,tabIn K x=some (c,P)→CodeHd base c P)→FnOk P w K mg base CX k fa fd [x] sp)
  (hbind:∀(s:zbe5) (u:Value),BindsTo s fd ⟨[u],[]⟩ [(x,u)]) (hsp:∀H:Hp,SqL K H a (ns.map V.int)→sp [.ref a] H (fun v _=>v=.bl true) fun _ _ _=>False)
  (hCX:∀H e s',CX [] H s₁ (fun _ _ _=>False) e s'→False) :
  codeAny (model P w) callerA (.call (.ref fa) ⟨[.ref a],[]⟩) (fun r s'=>r=.ok (.ret (.bool true))∧OldK s₁.heap s'.heap∧s'.os=s₁.os∧AllBare s'.gens) s₁:=by
 have rv:=zv1 hi
 have lenV:=hi.length
 have tabH:∀p∈tbOf K names,∃c,CodeHd s₁.heap c p.1∧s₁.heap.get? p.1=some (tabObj #[]):=fun p hp=>by
  obtain⟨y,hy,c,e⟩:=of_tbOf hp
  exact⟨c,hT y hy c p.1 e⟩
 have core:∀H:Hp,SqL K H a (ns.map V.int)→HOk P w H s₁.heap→(∀p∈tbOf K names,H p.1=some (.tbl p.2)) →
   (∀b o,H b=some o→(b=a∧K.lookup a=none∧∃ob xs,o=.frz ob (.lst xs))∨∃q,o=.tbl q∧(b,q)∈tbOf K names) →
   codeAny (model P w) callerA (.call (.ref fa) ⟨[.ref a],[]⟩) (fun r s'=>r=.ok (.ret (.bool true))∧OldK s₁.heap s'.heap∧s'.os=s₁.os∧AllBare s'.gens) s₁:=by
  intro H hS hok hTB hH
  have free:∀ {b:Addr}{o:Obj},s₁.heap.get? b=some o→(o.cls=.type "list"→False)→o≠tabObj #[]→H b=none:=fun {b o} e n1 n2=>by
   cases q:H b with
   |none=>rfl
   |some u =>
    rcases hH b u q with ⟨rfl,_⟩ | ⟨qq,rfl,hm⟩
    ·rw [ha]at e;cases e;exact (n1 rfl).elim
    ·obtain⟨c,_,e2⟩:=tabH _ hm
     have e2:s₁.heap.get? b=some (tabObj #[]):=e2
     rw [e]at e2;cases e2;exact (n2 rfl).elim
  have nsK:∀ {b:Addr}{m:Str→Option Value},s₁.heap.Ns b m→(hidT s₁.heap H).Ns b m:=fun {b m} ⟨o,es,ep,e,d,r⟩=>⟨o,es,ep,zu6 e (by
   cases q:H b with
   |none=>rfl
   |some u =>
    rcases hH b u q with ⟨rfl,_⟩ | ⟨qq,rfl,hm⟩
    ·rw [ha]at e;cases e;cases d
    ·obtain⟨c,_,e2⟩:=tabH _ hm
     have e2:s₁.heap.get? b=some (tabObj #[]):=e2
     rw [e]at e2;cases e2;cases d),d,r⟩
  have hKb:K.In (hidT s₁.heap H):=fun b o e=>zu6 (KX b o e) (by
   cases q:H b with
   |none=>rfl
   |some u =>
    rcases hH b u q with ⟨rfl,n,_⟩ | ⟨qq,rfl,hm⟩
    ·rw [n]at e;cases e
    ·have n:K.lookup b=none:=(hn _ hm).2
     rw [n]at e;cases e)
  have hM:Mod K mg ⟨hidT s₁.heap H,tbOf K names⟩:=⟨hKb,nsK hns,⟨mb,nsK hb,hbb⟩,let ⟨mc,h1,h2⟩:=hlim;⟨mc,nsK h1,h2⟩,by
   obtain⟨bm,ob,b1,b2,b3,b4,b5,b6⟩:=hbm
   exact⟨bm,ob,b1,b2,zu6 b3 (free b3 (fun z=>by rw [b4]at z;simp at z) fun z=>by rw [z]at b4;cases b4),b4,b5,b6⟩⟩
  have hCd:∀x∈names,∀c P,tabIn K x=some (c,P)→CodeHd (hidT s₁.heap H) c P:=fun x hx c P e=>by
   obtain⟨⟨o,vs,file,tf,flags,tg,inF,text,tt,e1,r1,r⟩,_⟩:=hT x hx c P e
   exact⟨o,vs,file,tf,flags,tg,inF,text,tt,zu6 e1 (free e1 (fun z=>by rw [r1]at z;simp at z) fun z=>by rw [z]at r1;cases r1),r1,r⟩
  have e0:Env0 P w K mg ⟨hidT s₁.heap H,tbOf K names⟩ callerA [] s₁ H:=⟨rfl,hM,fun b o e=>of_hidT e,Nat.le_of_eq (zaz9 _ _),trivial,fun b hb=>absurd (show b∈([]:List Addr) from hb) (by simp),hok,.of_eq hg,hTB⟩
  refine codeAny_mono ((F ⟨hidT s₁.heap H,tbOf K names⟩ rfl hKb (nsK hns) hCd).run callerA [] s₁ H ⟨[.ref a],[]⟩ [.ref a] [.ref a] _ _ hr e0 (hbind s₁ (.ref a)) (.cons rfl .nil) (hsp H hS)) fun r s' h=>?_
  cases r with
  |error e=>exact (hCX H e s' h).elim
  |ok fl =>
   cases fl with
   |next=>exact False.elim h
   |brk=>exact False.elim h
   |cont=>exact False.elim h
   |ret u =>
    obtain⟨v,H',os,bare,un,hok',r',q⟩:=h
    have q':v=.bl true:=q
    subst q'
    obtain rfl:u=Value.bool true:=r'
    have kp:∀b o,s₁.heap.get? b=some o→s'.heap.get? b=some o∨∃qq,H b=some (.tbl qq):=fun b o e=>by
     cases q:H b with
     |none=>exact .inl (un.keep b o e q (by intro z;exact absurd (show b∈([]:List Addr) from z) (by simp)) (by simp))
     |some u =>
      rcases hH b u q with ⟨rfl,_,ob,xs,rfl⟩ | ⟨qq,rfl,hm⟩
      ·obtain⟨e1,_⟩:=hok b _ q
       obtain⟨e2,_⟩:=hok' b _ (un.frzs b ob _ q)
       rw [e]at e1;cases e1
       exact .inl e2
      ·exact .inr ⟨qq,rfl⟩
    refine⟨rfl,⟨fun b o e=>?_,fun b o e=>?_⟩,os,bare⟩
    ·rcases kp b o e with z | ⟨qq,z⟩
     ·exact .inl z
     ·rcases hH b _ z with ⟨_,_,ob,xs,z2⟩ | ⟨q2,z2,hm⟩
      ·cases z2
      ·obtain⟨c,C,e2⟩:=tabH _ hm
       have e2:s₁.heap.get? b=some (tabObj #[]):=e2
       rw [e]at e2
       cases e2
       obtain⟨ps,e3,_⟩:=hok' b _ (un.tbls b _ z)
       have C:CodeHd s₁.heap c b:=C
       exact .inr (.inl ⟨(C.tab e).isCodeTable,rfl, #[],ps,rfl,by simpa using e3⟩)
    ·rcases kp b o e with z | ⟨qq,z⟩
     ·exact⟨o,z⟩
     ·obtain⟨ps,e3,_⟩:=hok' b _ (un.tbls b _ z)
      exact⟨_,e3⟩
 have tabO:∀(H:Hp) (p:Addr×Str),p∈tbOf K names→ObjOk P w H s₁.heap p.1 (.tbl p.2):=fun H p hp=>by
  obtain⟨c,_,e⟩:=tabH p hp
  exact⟨#[],e,trivial,fun pos cv z=>by cases z⟩
 have lk:∀b q,(tbOf K names).lookup b=some q→(b,q)∈tbOf K names:=fun b q e=>zaf6 e
 have aT:∀q,(a,q)∈tbOf K names→False:=fun q hm=>by
  obtain⟨c,_,e⟩:=tabH _ hm
  have e:s₁.heap.get? a=some (tabObj #[]):=e
  rw [ha]at e;cases e
 cases hk:K.lookup a with
 |some o =>
  have e:=KX a o hk
  rw [ha]at e
  cases e
  refine core (fun b=>((tbOf K names).lookup b).map HO.tbl) (.inr ⟨_,vs.toArray,_,hk,rfl,rfl,rfl,by rw [zbf5,lenV];exact hl,by simpa using rv⟩) (fun b u z=>?_) (fun p hp=>by simp only [(hn p hp).1,zbj4]) fun b u z=>?_
  ·cases q:(tbOf K names).lookup b with
   |none=>simp only [q]at z;cases z
   |some qq=>simp only [q]at z;cases z;exact tabO _ _ (lk b qq q)
  ·cases q:(tbOf K names).lookup b with
   |none=>simp only [q]at z;cases z
   |some qq=>simp only [q]at z;cases z;exact .inr ⟨qq,rfl,lk b qq q⟩
 |none =>
  refine core (fun b=>if b=a then some (.frz { cls:=.type "list",data:=.seq vs.toArray } (.lst (ns.map V.int))) else ((tbOf K names).lookup b).map HO.tbl) (.inl (.inr ⟨{ cls:=.type "list",data:=.seq vs.toArray },if_pos rfl⟩)) (fun b u z=>?_) (fun p hp=>?_) fun b u z=>?_
  ·by_cases hb:b=a
   ·have z':=(if_pos hb).symm.trans z
    cases z'
    subst hb
    exact⟨ha,by rw [zbf7];exact hl,vs,_,rv,ha⟩
   ·have z':=(if_neg hb).symm.trans z
    cases q:(tbOf K names).lookup b with
    |none=>simp only [q]at z';cases z'
    |some qq=>simp only [q]at z';cases z';exact tabO _ _ (lk b qq q)
  ·have:p.1≠a:=fun e=>aT p.2 (by rw [← e];exact hp)
   simp only [this,if_false,(hn p hp).1,zbj4]
  ·by_cases hb:b=a
   ·have z':=(if_pos hb).symm.trans z
    cases z'
    exact .inl ⟨hb,hk,_,_,rfl⟩
   ·have z':=(if_neg hb).symm.trans z
    cases q:(tbOf K names).lookup b with
    |none=>simp only [q]at z';cases z'
    |some qq=>simp only [q]at z';cases z';exact .inr ⟨qq,rfl,lk b qq q⟩
end L2
namespace L2
open PySem.W
theorem walk_ofT {l:zbr3}{n k:Nat}{q:Program}{loose:List Str}{XP:(Str→Option Value)→Heap→Prop}{YP:World→Heap→Prop}{d:DefRec}{K:Params→zbd4}{CX:World→CXT}{sp:World→Sp}{x:Str}{names:List Str}
  (hn:l.most=some n) (hn2:n≤sizeLine) (hdf:d.params.defaults=[]) (hr:Room k callerA)
  (hY:∀(w:World) (h:Heap),YP w h→(K w.params).In h) (hrec:∀x∈names,∃dr,(recsOf q).find? (fun e=>e.name == x)=some dr)
  (F:∀(w:World) (mg:Str→Option Value) (fa:Addr) (h:Heap),(K w.params).In h→h.Ns mainGlobals mg→mg d.name=some (.ref fa) →
   TbOk (K w.params) names∧∃fd:FuncData,(∀(s:zbe5) (u:Value),BindsTo s fd ⟨[u],[]⟩ [(x,u)]) ∧
    ∀base:BHeap,base.tabs=tbOf (K w.params) names→(K w.params).In base→base.Ns mainGlobals mg→(∀x∈names,∀c P,tabIn (K w.params) x=some (c,P)→CodeHd base c P)→FnOk l.prog w (K w.params) mg base (CX w) k fa fd [x] (sp w))
  (hsp:∀(w:World) (H:Hp) (a:Addr) (ns:List Int),ns.length≤n→(∀i∈ns,i.natAbs<bndS)→SqL (K w.params) H a (ns.map V.int)→sp w [.ref a] H (fun v _=>v=.bl true) fun _ _ _=>False)
  (hCX:∀(w:World) (H:Hp) (s:zbe5) (e:Value) (s':zbe5),CX w [] H s (fun _ _ _=>False) e s'→False) :
  zbt3 q loose XP YP l.row.toRowW d [] (fun f vs=>PySem.call f vs):=by
 intro w s₀ s₁ mg mb G Y fa o pm cd doc dV kV ho hd hcd hD hmg hg args vals as hpre hlay hrd hwl hlo
 obtain rfl:dV=.none:=Dflts.none hD hdf
 obtain rfl:kV=.none:=Dflts.noKw hD
 obtain⟨a,vs,ns,rfl,rfl,hobj,hints,hlen⟩:=Att.script_of hn hpre hwl
 have hb:=bnd_of hlay
 have KX:=hY w _ Y
 obtain⟨hok,fd,hbd,hF⟩:=F w mg fa _ KX G.T.g hmg
 refine enter_call (codeAny_mono (zay8 KX G.T.g G.T.b G.T.builtins G.T.nolimit G.T.bmain hg hobj hints (zbh3 hlen hn2) hr (fun x hx c P e=>by
  obtain⟨dr,h⟩:=hrec x hx
  exact tab_of G.T KX h e) hok hF hbd (fun H hS=>hsp w H a ns hlen hb hS) fun H e s'=>hCX w H s₁ e s') fun r s' hq=>?_)
 obtain⟨rfl,h2,h3,h4⟩:=hq
 exact⟨.inl ⟨.bool true,.bool true,[],rfl,fun _=>rfl,.bool true,Att.post_true l _,fun _=>⟨List.Pairwise.nil,fun _ hm=>(nomatch hm)⟩⟩,h2,h3,h4⟩
end L2
namespace DL
open PySem.Spec L2
def isSt:Expr→Bool
 |.Starred _ _=>true
 |_=>false
theorem zf9 {a:Expr}{es:List Expr}{env:Env} (h:isSt a=false):zbe7 (a::es) env=(false,eval a env)::zbe7 es env:=by
 cases a<;>first | rfl | cases h
abbrev DM:=Th→Option (D×Th)
abbrev DMs:=Th→Option (List D×Th)
structure Mv (K:zbd4) (F A:List Addr) (H H':Hp) (B A':List Addr) (t':Th) (σ:L2.St):Prop where
 sm:Same H H'
 nd:B.Nodup
 dj:∀b∈B,b∉F
 rs:RS K (B++F) H' A' t' σ
 fr:∀b∈B,b∈A∨H b=none
 sb:∀b∈A',b∈A
end DL
namespace TS
section
variable (κ π:Keyed→Int)
def rk (x:Keyed):Int:=κ x*1048576+π x
def Ris (l:List Keyed):Prop:=l.Pairwise fun a b=>rk κ π a≤rk κ π b
def Below (l m:List Keyed):Prop := ∀a∈l,∀b∈m,rk κ π a≤rk κ π b
variable {κ π}
structure Lo (X Y out:List Keyed) (i j:Nat):Prop where
 pm:out.Perm (X.take i++Y.take j)
 rs:Ris κ π out
 bx:Below κ π out (X.drop i)
 by':Below κ π out (Y.drop j)
variable {X Y out:List Keyed}{i j:Nat}
structure Hi (X Y out:List Keyed) (i j:Nat):Prop where
 pm:out.Perm (X.drop i++Y.drop j)
 rs:Ris κ π out.reverse
 bx:Below κ π (X.take i) out
 by':Below κ π (Y.take j) out
end
end TS
namespace TS
structure Cmp (M:Model) (A:Around) (E:Value→zbe5→Prop) (s:zbe5) (κ π:Keyed→Int) (a₀:Array Keyed) (kd:SortKind):Prop where
 lt:∀(st:SortSt) (x y:Keyed) (Q:Option Bool→SortSt→Prop),kindOf st=kd→x∈a₀.toList→y∈a₀.toList→Q (some (decide (κ x<κ y))) st→wpS M A E s (lt' x y) Q st
 pi:∀x∈a₀.toList,0≤π x∧π x<1048576
section
variable {M:Model}{A:Around}{E:Value→zbe5→Prop}{s:zbe5}{κ π:Keyed→Int}{a₀:Array Keyed}{kd:SortKind} (C:Cmp M A E s κ π a₀ kd)
structure SameS (st st':SortSt):Prop where
 arr:arrOf st'=arrOf st
 knd:kindOf st'=kindOf st
 pnd:pendingOf st'=pendingOf st
 fld:failedOf st'=failedOf st
structure Two (κ π:Keyed→Int) (a₀:Array Keyed) (xs ys:Array Keyed):Prop where
 mx:∀x∈xs.toList,x∈a₀.toList
 my:∀y∈ys.toList,y∈a₀.toList
 rx:Ris κ π xs.toList
 ry:Ris κ π ys.toList
 sep:∀x∈xs.toList,∀y∈ys.toList,π x≤π y
 px:0<xs.size
 py:0<ys.size
 first:∀x y,xs[0]?=some x→ys[0]?=some y→κ y<κ x
 last:∀x,xs[xs.size - 1]?=some x→∀y∈ys.toList,κ y<κ x
noncomputable def Res (κ π:Keyed→Int) (xs ys:Array Keyed) (st:SortSt) (o:Array Keyed) (st':SortSt):Prop:=SameS st st'∧Ris κ π o.toList∧o.toList.Perm (xs.toList++ys.toList)
variable {xs ys:Array Keyed}{st:SortSt} (hk:kindOf st=kd) (T:Two κ π a₀ xs ys)
end
end TS
namespace TS
section
variable {M:Model}{A:Around}{E:Value→zbe5→Prop}{s:zbe5}{κ π:Keyed→Int}{a₀:Array Keyed}{kd:SortKind} (C:Cmp M A E s κ π a₀ kd)
def sepL (π:Keyed→Int) (l m:List Keyed):Prop := ∀a∈l,∀b∈m,π a≤π b
end
end TS
namespace TS
def kA (f:Keyed→Int) (xs:Array Keyed) (i:Nat):Int:=match xs[i]? with
 |some p=>f p
 |none=>0
structure Chg (xs zs:Array Keyed) (lo hi:Nat):Prop where
 pm:zs.Perm xs
 out:∀i,i<lo∨hi≤i→zs[i]?=xs[i]?
 ins:∀i,lo≤i→i<hi→∃j,lo≤j∧j<hi∧zs[i]?=xs[j]?
theorem Chg.size {xs zs:Array Keyed}{lo hi:Nat} (h:Chg xs zs lo hi):zs.size=xs.size:=h.pm.size_eq
section
variable {M:Model}{A:Around}{E:Value→zbe5→Prop}{s:zbe5}{κ π:Keyed→Int}{a₀:Array Keyed}{kd:SortKind} (C:Cmp M A E s κ π a₀ kd)
def rA (κ π:Keyed→Int) (xs:Array Keyed) (i:Nat):Int:=kA κ xs i*1048576+kA π xs i
structure TB (a₀:Array Keyed) (kd:SortKind) (st:SortSt):Prop where
 pm:(arrOf st).Perm a₀
 kind:kindOf st=kd
 fld:failedOf st=none
theorem TB.size {st:SortSt} (h:TB a₀ kd st):(arrOf st).size=a₀.size:=h.pm.size_eq
end
end TS
namespace TS
section
variable {M:Model}{A:Around}{E:Value→zbe5→Prop}{s:zbe5}{κ π:Keyed→Int}{a₀:Array Keyed}{kd:SortKind} (C:Cmp M A E s κ π a₀ kd)
structure Dn (κ π:Keyed→Int) (a₀:Array Keyed) (kd:SortKind) (st0:SortSt) (lo x q:Nat) (st:SortSt):Prop where
 tb:TB a₀ kd st
 pd:pendingOf st=pendingOf st0
 ch:Chg (arrOf st0) (arrOf st) lo (lo+x)
 le:q+1≤x
 un:∀i,lo+x - (q+1)≤i→(arrOf st)[i]?=(arrOf st0)[i]?
 eq:∀i,lo+x - (q+1)≤i→i<lo+x→kA κ (arrOf st) i=kA κ (arrOf st) (lo+x - 1)
 fl:∀i j,lo≤i→i≤j→j<lo+x - (q+1)→rA κ π (arrOf st) j≤rA κ π (arrOf st) i
 gt:∀i,lo≤i→i<lo+x - (q+1)→kA κ (arrOf st) (lo+x - 1)<kA κ (arrOf st) i
end
end TS
namespace TS
noncomputable def MatchP:Nat→List (List Keyed)→List (Nat×Nat×Nat)→Prop
 |_,[],[]=>True
 |lo,L::Ls,q::ps=>q.1=lo∧q.2.1=L.length∧MatchP (lo+L.length) Ls ps
 |_,_,_=>False
section
variable {M:Model}{A:Around}{E:Value→zbe5→Prop}{s:zbe5}{κ π:Keyed→Int}{a₀:Array Keyed}{kd:SortKind} (C:Cmp M A E s κ π a₀ kd)
structure Runs (κ π:Keyed→Int) (a₀:Array Keyed) (kd:SortKind) (st:SortSt) (Ls:List (List Keyed)) (post:List Keyed):Prop where
 tb:TB a₀ kd st
 ar:(arrOf st).toList=Ls.flatten++post
 mt:MatchP 0 Ls (pendingOf st).toList
 ok:∀L∈Ls,Ris κ π L∧L≠[]
 sp:Ls.Pairwise (sepL π)
end
end TS
namespace TS
section
variable {M:Model}{A:Around}{E:Value→zbe5→Prop}{s:zbe5}{κ π:Keyed→Int}{a₀:Array Keyed}{kd:SortKind} (C:Cmp M A E s κ π a₀ kd)
structure Btw (κ π:Keyed→Int) (a₀:Array Keyed) (kd:SortKind) (lo:Nat) (st:SortSt) (Ls:List (List Keyed)) (rest:List Keyed):Prop where
 rn:Runs κ π a₀ kd st Ls rest
 ln:Ls.flatten.length=lo
 sp:sepL π Ls.flatten rest
 up:rest.Pairwise fun a b=>π a≤π b
end
end TS
namespace TS
section
variable {prog:Program}{w:World}{A:Around}{E:Value→zbe5→Prop}{s:zbe5}
def nP (z:Keyed):Int×Int:=(numOf z.1,numOf z.2)
end
end TS
namespace DL
open PySem.Spec L2 TS
def zb5 (n:Nat):List Int:=(zbh8 n).map fun (i:Nat)=>(i:Int)
theorem zu4 {i:Int} (h0:0≤i) (h1:i≤100000):Builtin.Range.rangeFitsLong i=true:=by
 unfold Builtin.Range.rangeFitsLong
 have e:(2:Int) ^ 63=9223372036854775808:=by decide
 rw [e]
 simp only [zbe0,decide_eq_true_eq]
 lia
theorem small_of {n:Int} (h0:0≤n) (h1:n≤100000):Builtin.Range.small 0 n 1=true:=by
 have rs:Builtin.Range.rangeSize 0 n 1=n:=by simp only [Builtin.Range.rangeSize];lia
 unfold Builtin.Range.small
 rw [rs,zu4 (i:=0) (by lia) (by lia),zu4 h0 h1,zu4 (i:=1) (by lia) (by lia),if_pos (by lia),zu4 (i:=n+(1 - 1)) (by lia) (by lia),zbj5]
 rfl
end DL
namespace DL
open PySem.Spec L2
section
variable {X:Cx}{F:List Addr}
noncomputable def zat2:List Ev→Option Ev:=fun rs=>match rs with
 |[r]=>(match r.d with
  |.bl b=>some (.cl (.int (if b then 1 else 0)))
  |_=>none)
 |_=>none
theorem zbc2:zs8 X (.type "int") (fun xs H Q => ∃b:Bool,xs=[.bl b]∧Q (.int (if b then 1 else 0)) H):=by
 intro pins s σ H xs us Q I r h
 obtain⟨b,rfl,q⟩:=h
 obtain⟨u,rfl,ru⟩:=zar5 r
 cases ru
 exact PySem.call_int_bool ⟨.int _,H,I.tok _,⟨_,rfl⟩,q⟩
theorem cd_intB:CallD X F (.type "int") zat2:=CallD.of zbc2 fun H0 H A xs rs e Q m g q ek hq=>by
 unfold zat2 at ek
 split at ek
 case h_2=>cases ek
 cases q with
 |cons q1 q2 =>
  cases q2
  split at ek
  case h_2=>cases ek
  rename_i b z
  cases ek
  have p:=q1.full
  rw [z]at p
  cases p
  exact⟨b,rfl,hq _ H (Same.refl H) (.int _)⟩
end
end DL
namespace TS
section
variable {prog:Program}{w:World}{A:Around}{E:Value→zbe5→Prop}{s:zbe5}
theorem zip_same {α:Type}:∀l:List α,l.zip l=l.map fun x=>(x,x)
 |[]=>rfl
 |x::l=>by rw [zbh4,zip_same l];rfl
end
end TS
namespace TS
def adr:Value→Addr
 |.ref a=>a
 |_=>0
end TS
namespace DL
open PySem.Spec L2
noncomputable def spT (K:zbd4) (G:D→List D→List D→D→Option (List Int×List Int)):Sp:=fun vs H Q _ => ∃(v0 v3:V) (p q:Addr) (ws us:List V) (d0 d3:D) (xs ys:List D) (r:List Int×List Int),vs=[v0,.ref p,.ref q,v3]∧p≠q∧H p=some (.lst ws)∧H q=some (.lst us) ∧
 Rep K (hide [p,q] H) d0 v0∧Reps K (hide [p,q] H) xs ws∧Reps K (hide [p,q] H) ys us∧Rep K (hide [p,q] H) d3 v3∧G d0 xs ys d3=some r ∧
 ∀H',(∀b o,b≠p→b≠q→H b=some o→H' b=some o)→H' p=some (.lst (r.1.map V.int))→H' q=some (.lst (r.2.map V.int))→Q .non H'
structure CalT (P:Program) (w:World) (K:zbd4) (mg:Str→Option Value) (base:BHeap) (x:Str) (k:Nat) (G:D→List D→List D→D→Option (List Int×List Int)):Prop where
 ex:∃(a:Addr) (fd:FuncData) (ps:List Str),mg x=some (.ref a)∧zbh6 K (.ref a)=true∧L2.Binds K fd ps []∧FnOk P w K mg base CX0 k a fd ps (spT K G)
section
variable {X:Cx}{F:List Addr}{a b c:Expr}{es:List Expr}{fa fb fc:DE}{g g1 g2:DS}{pos:Pos}{gt gt2:TG}{kt kt2:D→Th→Option Th}
noncomputable def fsZ (f f':DE):DI:=fun t=>(f t).bind fun r=>(f' t).bind fun r'=>match r.d,r'.d with
 |.lst ds,.lst es=>some (r.ok&&r'.ok,zipD ds es)
 |_,_=>none
theorem src_zip {K:zbd4}{p p':Addr}{vs ws:List V}{ds es:List D} (hl:vs.length=ds.length) (hl':ws.length=es.length):Src K (zipD ds es) (Itz K p p') (fun P H=>(SqL K (hide P H) p vs∧Reps K (hide P H) ds vs)∧SqL K (hide P H) p' ws∧Reps K (hide P H) es ws) where
 keep:=fun P H P' H' q s=>⟨⟨SqL.mono s q.1.1,Reps.mono s q.1.2⟩,SqL.mono s q.2.1,Reps.mono s q.2.2⟩
 stop:=fun P H q=>⟨vs,ws,SqL.mono (za9 _ _) q.1.1,SqL.mono (za9 _ _) q.2.1,by rw [zt7,hl,hl']⟩
 go:=fun P H i q hi=>by
  rw [zt7]at hi
  have hi1:i<vs.length:=by lia
  have hi2:i<ws.length:=by lia
  exact⟨vs,ws,vs[i],ws[i],SqL.mono (za9 _ _) q.1.1,SqL.mono (za9 _ _) q.2.1,zbe1 hi1,zbe1 hi2⟩
 yld:=fun P H i x H' q mu y hi=>by
  obtain⟨l,v,u,hl0,rfl,rfl,hv,hu⟩:=y
  obtain⟨d,hd,rd⟩:=q.1.2.getV (hv vs (SqL.mono (za9 _ _) q.1.1))
  obtain⟨d',hd',rd'⟩:=q.2.2.getV (hu ws (SqL.mono (za9 _ _) q.2.1))
  have sm:=zd1 (o:=HO.tup [v,u]) hl0
  refine⟨sm,_,zan0 ds es i d d' hd hd',?_⟩
  exact .tup (SqT.of (zc2 zb9 (zd2 mu hl0))) (.cons (Rep.mono (zc3 sm) rd) (.cons (Rep.mono (zc3 sm) rd') .nil))
theorem zaq1 {K:zbd4}{A F:List Addr}{H:Hp}{b b':Bool}{d:D}{v:V} (h:Rep K (hide (hidF b A F) H) d v):Rep K (hide (hidF (b&&b') A F) H) d v:=by
 cases b with
 |false=>exact h
 |true =>
  cases b' with
  |true=>exact h
  |false=>exact Rep.mono (zb2 _ fun a z=>zbd3 _ z) h
theorem pid_zip {elts:List Expr}{kk:Nat}{tp p1 p2:Pos} (hge:Gl X "zip") (hm:X.mg "zip"=none) (ha:PE X a (dE X.K F fa)) (hb:PE X b (dE X.K F fb)) (hst:zbe7 [a,b] X.env=(false,eval a X.env)::zbe7 [b] X.env:=by rfl) (hst1:zbe7 [b] X.env=[(false,eval b X.env)]:=by rfl) (hst2:(zbl0 p2 (zbe7 [b] X.env)).any (·.1)=false:=by rfl) :
  PI X (.Tuple elts kk tp) (.Call (.Name "zip" p1) [a,b] [] p2) (dI X.K F (fsZ fa fb)):=by
 refine PI.imp (pi_zip hge hm (zf7 ha (zf7 hb zl3 hst1) hst) hst hst2) ?_
 rintro σ H R ⟨A,t,bb,ds,RR,e,h⟩
 unfold fsZ at e
 cases e1:fa t with
 |none=>rw [e1]at e;cases e
 |some r =>
 cases e2:fb t with
 |none=>rw [e1,e2]at e;cases e
 |some r' =>
  rw [e1,e2]at e
  refine⟨A,t,r,RR,e1,fun v H1 gs1 q1=>⟨A,t,r',RR.grow gs1,e2,fun v2 H2 gs2 q2=>?_⟩⟩
  have e:(match r.d,r'.d with
   |.lst ds,.lst es=>some (r.ok&&r'.ok,zipD ds es)
   |_,_=>none)=some (bb,ds):=e
  split at e
  case h_2=>cases e
  rename_i xs ys z1 z2
  cases e
  have gs:=gs1.trans gs2
  have cl:=zaq1 (b':=r'.ok) (RepEv.hidF RR.mu gs (q1.mono gs2))
  rw [z1]at cl
  have cl2:=zaq1 (b':=r.ok) (RepEv.hidF RR.mu gs (q2.back gs1))
  rw [z2,Bool.and_comm]at cl2
  cases cl with
  |@lst _ p vs h1 h2 =>
  cases cl2 with
  |@lst _ p' ws h1' h2'=>exact⟨p,p',rfl,⟨vs,SqL.mono (za9 _ _) h1⟩,⟨ws,SqL.mono (za9 _ _) h1'⟩,h _ H2 _ gs (src_zip h2.length h2'.length) ⟨⟨h1,h2⟩,h1',h2'⟩⟩
end
end DL
namespace TS
section
variable {prog:Program}{w:World}{A:Around}{E:Value→zbe5→Prop}{s:zbe5}
theorem zah0 {I:Addr}{fp:List Addr}{items:Array Value}{St:Nat→Heap→Prop} (W:Walks prog w A I fp [I] items.size (fun i v=>items[i]?=some v) St):∀(n i:Nat) (s:zbe5) (Q:List Value→zbe5→Prop),St i s.heap→i+n≤items.size →
  (∀h' tk,St (i+n) h'→(∀b o,b≠I→s.heap.get? b=some o→h'.get? b=some o)→Q ((items.toList.drop i).take n) { s with heap:=h',toks:=tk })→wpAny (model prog w) A (draw (.ref I) n) Q E s
 |0,i,s,Q,st,_,hQ=>by
  show wpAny _ _ (pure []) Q E s
  exact zbg4 (by simpa using hQ s.heap s.toks st fun _ _ _ e=>e)
 |n+1,i,s,Q,st,hle,hQ=>by
  have lt:i<items.size:=by lia
  show wpAny _ _ (pyNext (.ref I) >>= _) Q E s
  refine zbf2 (W.item i s _ _ lt st fun v h1 tk p st1 k1=>?_)
  have ev:v=items[i]:=by
   rw [Array.getElem?_eq_getElem lt]at p
   exact (Option.some.inj p).symm
  subst ev
  refine zbf2 (wpAny_holding (zah0 W n (i+1) _ _ st1 (by lia) fun h2 tk2 st2 k2=>zbg4 ?_))
  have hd:items.toList.drop i=items[i]::items.toList.drop (i+1):=by simp [zbg9,lt]
  have:=hQ h2 tk2 (by rw [show i+(n+1)=i+1+n by lia];exact st2) fun b o nb e=>k2 b o nb (k1 b o (by simpa using nb) e)
  rw [hd,List.take_succ_cons]at this
  exact this
theorem zai8 {l:Addr}{items:Array Value}{targets:List (Bool×(Value→Sem Unit))}{Q:Unit→zbe5→Prop} (hh:A.handled=none) (hl:s.heap.IsList l items) (hn:targets.length=items.size) (hs:targets.findIdx? (·.1)=none)
  (h:∀h' tk,(∀b o,s.heap.get? b=some o→h'.get? b=some o)→wpAny (model prog w) A (assignInOrder (targets.map (·.2)) items.toList) Q E { s with heap:=h',toks:=tk }) :
  wpAny (model prog w) A (unpack (.ref l) targets) Q E s:=by
 have ll:l<s.heap.objs.size:=by obtain⟨o,g,_⟩:=hl;exact zbe6 g
 unfold unpack
 rw [hn,hs]
 refine zbf2 (wpAny_holding ?_)
 unfold unpackItems
 refine zbf2 ?_
 unfold notIterableAtAll
 refine zbf2 (wpAny_specialOf hl.typeIs F.slot_list_iter.lookup ?_)
 refine zbg4 ?_
 simp only [zbl3,if_false]
 refine zbf2 (wpAny_holding (wpAny_pyIter_list hl ?_))
 have W:=Walks.list (prog:=prog) (w:=w) (A:=A) hh s.heap.objs.size l (zbg0 ll) items
 refine zbf2 (wpAny_holding (zah0 W items.size 0 _ _ ⟨⟨_,zbg5 _ rfl,rfl,rfl⟩,hl.push _⟩ (by lia) fun h1 tk st1 k1=>?_))
 have hall:List.take items.size (List.drop 0 items.toList)=items.toList:=by
  rw [List.drop_zero];exact zbj2 (by simp)
 rw [hall,if_neg (by simp)]
 rw [zbp1]at st1
 refine zbf2 (wpAny_holding (W.done _ _ _ st1 fun h2 tk2 k2=>?_))
 simp only [Option.isSome_none,zbl3,if_false]
 refine zbg4 (h h2 tk2 fun b o e=>k2 b o (fun z=>absurd (zbe6 e) (by rw [zbe2.mp z];exact zbi3 _)) (k1 b o (zbg0 (zbe6 e)) (zbe4 _ e)))
end
end TS
namespace L2
open PySem.Spec TS
section
variable {X:Cx}{pos:Pos}
def gLst (K:zbd4) (n:Nat) (t:TGs):TG:=fun v σ H Q => ∃a xs,v=.ref a∧SqL K H a xs∧xs.length=n∧t xs σ H Q
theorem pg_lst {es:List Expr}{k:Nat}{t:TGs}{n:Nat} (hc:X.calm=true) (h:PGs X es t) (hn:(assignEach es X.env).length=n:=by rfl) (hst:(assignEach es X.env).findIdx? (·.1)=none:=by rfl):PG X (.Tuple es k pos) (gLst X.K n t):=by
 intro pins s σ H v u Q I r hw
 obtain⟨a,xs,e1,hq,hl,hw⟩:=hw
 subst e1
 cases r
 obtain⟨its,rv,pl,hz⟩:=I.list hq
 rw [arm_assign_Tuple]
 refine zbf2 (wpAny_standAt (zai8 (I.ok.hd hc) (DL.PlainL.isL pl) (by simp [hn, ← hl,rv.length]) hst fun h' tk hk=>?_))
 exact h pins _ σ H xs _ Q (I.kept (t':=tk) hk) (by simpa using rv) hw
end
end L2
namespace DL
open PySem.Spec L2
noncomputable def gkLst (n:Nat) (k:List D→Th→Option Th):D→Th→Option Th:=fun d t=>match d with
 |.lst ds=>if ds.length=n then k ds t else none
 |_=>none
theorem tg_lst {K:zbd4}{F:List Addr}{n:Nat}{g':TGs}{k':List D→Th→Option Th} (h2:zbd1 K F g' k'):TgOk K F (gLst K n g') (gkLst n k'):=by
 intro σ H A t t' d x Q R r e h
 unfold gkLst at e
 split at e
 ·rename_i ds
  split at e
  ·rename_i hl
   cases r with
   |@lst _ p vs h1 hr=>exact⟨p,vs,rfl,SqL.mono (za9 _ _) h1,by rw [hr.length];exact hl,h2 σ H A t t' ds vs Q R hr e h⟩
  ·cases e
 ·cases e
end DL
namespace L2
open PySem.Spec
theorem vals_get:∀ {xs:List V}{us:List Value},xs.length=us.length→(∀(j:Nat) (a:V) (b:Value),xs[j]?=some a→us[j]?=some b→RelV a b)→Vals xs us
 |[],[],_,_=>.nil
 |[],_::_,h,_=>by simp at h
 |_::_,[],h,_=>by simp at h
 |x::xs,u::us,h,k=>.cons (k 0 x u rfl rfl) (vals_get (by simpa using h) fun j a b ha hb=>k (j+1) a b (by simpa using ha) (by simpa using hb))
end L2
namespace DL
open PySem.Spec L2
structure Lent (K:zbd4) (F:List Addr) (ir jx:Nat) (ds:List D) (k:Nat) (A0:List Addr) (Hb:Hp) (p r:Addr) (C1 C2:List Addr) (A:List Addr) (H:Hp) (σ:L2.St):Prop where
 nd:(p ::(C1++r::C2)).Nodup
 dj:∀b∈p ::(C1++r::C2),b∉F
 s1:σ[ir]?=some (some (.ref p))
 s2:σ[jx]?=some (some (.ref r))
 gr:Gr A0 Hb (A++p ::(C1++C2)) H
 kp:∀b∈p ::(C1++C2),∀o,Hb b=some o→H b=some o
 re:∀(H01 H1:Hp) (xs':List D),xs'.all scD=true→H1 r=some (.lst (xs'.map sV))→(∀b∈p ::(C1++C2),∀o,Hb b=some o→H1 b=some o)→Same (hide (A0++F) Hb) H01→RepD K H01 H1 (.lst (ds.set k (.lst xs'))) (.ref p) (p ::(C1++r::C2))
def fsT (f:DE):DI:=fun t=>(f t).bind fun r=>match r.d with
 |.tup ds=>some (r.ok,ds)
 |_=>none
theorem src_tup {K:zbd4}{p:Addr}{vs:List V}{ds:List D} (hl:vs.length=ds.length):Src K ds (Itt K p) (fun P H=>SqT K (hide P H) p vs∧Reps K (hide P H) ds vs) where
 keep:=fun P H P' H' q s=>⟨SqT.mono s q.1,Reps.mono s q.2⟩
 stop:=fun P H q=>⟨vs,SqT.mono (za9 _ _) q.1,by lia⟩
 go:=fun P H i q hi=>⟨vs,vs[i]'(by lia),SqT.mono (za9 _ _) q.1,zbe1 (by lia)⟩
 yld:=fun P H i x H' q mu y hi=>by
  obtain⟨e1,e2⟩:=y
  subst e1
  exact⟨Same.refl _,q.2.getV (e2 vs (SqT.mono (za9 _ _) q.1))⟩
section
variable {X:Cx}{F:List Addr}{a:Expr}{fa:DE}{tg:Expr}
theorem zac4 (hl:PE X a (dE X.K F fa)):PI X tg a (dI X.K F (fsT fa)):=by
 refine PI.imp (pi_tup hl) ?_
 rintro σ H R ⟨A,t,b,ds,RR,e,h⟩
 unfold fsT at e
 cases e1:fa t with
 |none=>rw [e1]at e;cases e
 |some r =>
  rw [e1]at e
  refine⟨A,t,r,RR,e1,fun v H1 gs q=>?_⟩
  have e:(match r.d with | .tup ds=>some (r.ok,ds) |_=>none)=some (b,ds):=e
  split at e
  case h_2=>cases e
  rename_i ds' z
  cases e
  have cl:=RepEv.hidF RR.mu gs q
  rw [z]at cl
  cases cl with
  |@tup _ p vs h1 h2=>exact⟨p,rfl,⟨vs,SqT.mono (za9 _ _) h1⟩,h _ H1 _ gs (src_tup h2.length) ⟨h1,h2⟩⟩
end
end DL
namespace L2
open PySem.Spec
theorem d_set {X:Cx}{pins:List (Addr×Obj)}{σ:L2.St}{H:Hp}{s:zbe5}{a:Addr}{kvs:List (Key×V)}{k:Key}{v:V}{u r:Value}{A:Around}{E:Value→zbe5→Prop}{Q:Unit→zbe5→Prop} (I:Inv X pins σ H s) (e:H a=some (.dK kvs)) (ry:RelV (kV k) u) (rv:RelV v r) (l:kvs.length<sizeLine) (h:∀s',Inv X pins σ (upd H a (.dK (putK kvs k v))) s'→Q () s') :
  wpAny (model X.prog X.w) A (dictSet a u r) Q E s:=by
 obtain⟨z,hd,vs,rel,dd⟩:=dk_of I.hok e
 have hz:vs.length≤sizeLine:=by rw [← rel.length];exact z
 have hl:(putK kvs k v).length≤sizeLine:=by have:=zam1 kvs k v;lia
 refine wpAny_dictSet_pairs (hsz:=hz) (kV_is ry) dd fun h' dd' hs=>h _ ?_
 have he:∃q,h'.get? a=some q:=let ⟨q,_,_,hq,_⟩:=dd';⟨q,hq⟩
 exact d_write I (by rw [e];exact True.intro) hs he (dk_new hl hd (rel.put k rv) dd')
theorem zah8 {kx vx target iter:Expr}{ifs:List Expr}{g2:Comprehension}{scope:Scope}{pos:Pos}{it acc:Value}{env:Env} (h2:g2.is_async=0) :
  compTurn (.DictComp kx vx [⟨target,iter,ifs,0⟩,g2] scope pos) 0 it acc env=(do
   standAt iter.pos
   match ← pyNext it with
   |none=>pure (.done .next)
   |some v =>
    letOwnedTupleGo target it v
    assign target env v
    let mut ok:=true
    for c in ifs do
     if ok then ok ← isTrue c env (eval c env)
    if ok then emT (.DictComp kx vx [⟨target,iter,ifs,0⟩,g2] scope pos) g2 acc env
    again (.compLoop (.DictComp kx vx [⟨target,iter,ifs,0⟩,g2] scope pos) 0 it acc env)):=by
 obtain⟨t2,i2,f2,a2⟩:=g2
 have h2:a2=0:=h2
 subst h2
 simp only [emT,bind_assoc,pure_bind]
 rfl
theorem zah7 {kx vx iter:Expr}{ifs:List Expr}{g1:Comprehension}{target:Expr}{scope:Scope}{pos:Pos}{it:Value}{D:Addr}{env:Env} :
  compTurn (.DictComp kx vx [g1,⟨target,iter,ifs,0⟩] scope pos) 1 it (.ref D) env=(do
   standAt iter.pos
   match ← pyNext it with
   |none=>pure (.done .next)
   |some v =>
    letOwnedTupleGo target it v
    assign target env v
    let mut ok:=true
    for c in ifs do
     if ok then ok ← isTrue c env (eval c env)
    if ok then (do
      let kv ← eval kx env
      let vv ← holding [kv] (eval vx env)
      standAt { kx.pos with endLine:=vx.pos.endLine,endCol:=vx.pos.endCol }
      holding [kv,vv] (dictSet D kv vv))
    again (.compLoop (.DictComp kx vx [g1,⟨target,iter,ifs,0⟩] scope pos) 1 it (.ref D) env)):=by rfl
theorem zt2 {prog:Program}{w:World}{A:Around}{R:Result→zbe5→Prop}{s:zbe5}{kx vx target:Expr}{ip:Pos}{gens:List Comprehension}{depth:Nat}{ifs:List Expr}{scope:Scope}{pos:Pos}{it acc:Value}{env:Env} (em:Sem Unit)
  (heq:compTurn (.DictComp kx vx gens scope pos) depth it acc env=(do
   standAt ip
   match ← pyNext it with
   |none=>pure (.done .next)
   |some v =>
    letOwnedTupleGo target it v
    assign target env v
    let mut ok:=true
    for c in ifs do
     if ok then ok ← isTrue c env (eval c env)
    if ok then em
    again (.compLoop (.DictComp kx vx gens scope pos) depth it acc env))) (I:Nat→zbe5→Prop)
  (turn:∀n s,I n s→wpAny (model prog w) A (pyNext it) (fun r s₁=>match r with
   |none=>R (.ok .next) s₁
   |some v=>wpAny (model prog w) A (letOwnedTupleGo target it v) (fun _ s₁'=>wpAny (model prog w) A (assign target env v) (fun _ s₂ =>
     wpAny (model prog w) A (forIn ifs true fun c r=>if r=true then do let ok ← isTrue c env (eval c env);pure (ForInStep.yield ok) else pure (ForInStep.yield r)) (fun ok s₃ =>
      if ok=true then wpAny (model prog w) A em (fun _ s₅ => ∃m,m<n∧I m s₅) (fun _ _=>False) s₃
      else ∃m,m<n∧I m s₃) (fun _ _=>False) s₂) (fun _ _=>False) s₁') (fun _ _=>False) s₁) (fun _ _=>False) s)
  (n:Nat) (h:I n s):codeAny (model prog w) A (.compLoop (.DictComp kx vx gens scope pos) depth it acc env) R s:=by
 refine codeAny_loop rfl I (fun n s hI=>?_) n h
 show wpAny _ A ((compTurn (.DictComp kx vx gens scope pos) depth it acc env).onRaise (fun x=>do noteFrame x env;theTreesLotGoes x)) _ _ s
 refine wpAny_noted ?_
 rw [heq]
 refine zbf2 (wpAny_standAt (zbf2 (wpAny_mono (turn n s hI) (fun r s₁ h₁=>?_) fun _ _ h'=>h'.elim)))
 cases r with
 |none=>exact zbg4 h₁
 |some v =>
  refine zbf2 (wpAny_mono h₁ (fun _ s₁' h₁'=>?_) fun _ _ h'=>h'.elim)
  refine zbf2 (wpAny_mono h₁' (fun _ s₂ h₂=>zbf2 (wpAny_mono h₂ (fun ok s₃ h₃=>?_) fun _ _ h'=>h'.elim)) fun _ _ h'=>h'.elim)
  cases ok with
  |false=>exact zbg4 ⟨rfl,h₃⟩
  |true=>exact zbf2 (wpAny_mono h₃ (fun _ s₅ h₅=>zbg4 ⟨rfl,h₅⟩) fun _ _ h'=>h'.elim)
theorem zo6 {prog:Program}{w:World}{A:Around}{R:Result→zbe5→Prop}{s:zbe5}{kx vx target iter ifs g1 scope pos it acc env}
  (h0:codeAny (model prog w) A (.compLoop (.DictComp kx vx [g1,⟨target,iter,ifs,0⟩] scope pos) 1 it acc env) R s)
  (h:wpAny (model prog w) A (pyIter it) (fun it' s'=>codeAny (model prog w) A (.compLoop (.DictComp kx vx [g1,⟨target,iter,ifs,0⟩] scope pos) 1 it' acc env) R s')
   (notedBy (model prog w) A env fun x s'=>R (.error x) s') s) :
  codeAny (model prog w) A (.compStart (.DictComp kx vx [g1,⟨target,iter,ifs,0⟩] scope pos) 1 it acc env) R s:=by
 refine codeAny_of_tree ?_
 show wpAny _ _ ((compStart (.DictComp kx vx [g1,⟨target,iter,ifs,0⟩] scope pos) 1 it acc env).onRaise (fun x=>do noteFrame x env;standAt theWindowsPlace)) _ _ s
 refine wpAny_notedAt ?_
 unfold compStart
 show wpAny _ _ (ask >>= _) _ _ s
 refine zbf2 (wpAny_askSetting (wpAny_ite ?_))
 split
 ·first
   |exact zbf2 (zbg4 (zbg4 (And.intro rfl h0)))
   |exact zbg4 (And.intro rfl h0)
 ·first
   |exact zbf2 (wpAny_rule (zbf2 (wpAny_standAt (zbf2 (wpAny_mono h (fun it' s' h'=>zbg4 (And.intro rfl h')) fun _ _ x=>x)))))
   |(refine zbf2 (wpAny_rule ?_);show wpAny _ _ (standAt iter.pos >>= _) _ _ s;exact zbf2 (wpAny_standAt (zbf2 (wpAny_mono h (fun it' s' h'=>zbg4 (And.intro rfl h')) fun _ _ x=>x))))
noncomputable def zau6 (n:Nat) (cap:List Nat) (wi:TI) (g:TG) (tt:TT) (em:EMS):TE:=fun σ H Q=>wi σ H fun J H1 => ∀D,H1 D=none→∃W:Nat→Nat→L2.St→Hp→Prop,(∃m,W 0 m (capV n cap σ) (upd H1 D (.dK [])))∧∀i m σ' H',W i m σ' H' →
 (J.stop i H'∧Q (.ref D) H')∨(J.go i H'∧∃N:L2.St→Hp→Prop,(∀σ'' H'',N σ'' H''→∃m',m' < m∧W (i+1) m' σ'' H'')∧∀x H2,J.yld i H' x H2→g x σ' H2 fun σ2 H3=>tt σ2 H3 fun b H4 =>
  if b=true then em D σ2 H4 N else N σ2 H4)
noncomputable def zau5 (wi:TI) (g:TG) (tt:TT) (tk tv:TE):EMS:=fun D σ H R=>wi σ H fun J H1 => ∃W:Nat→Nat→L2.St→Hp→Prop,(∃m,W 0 m σ H1)∧∀i m σ' H',W i m σ' H' →
 (J.stop i H'∧R σ' H')∨(J.go i H'∧∃N:L2.St→Hp→Prop,(∀σ'' H'',N σ'' H''→∃m',m' < m∧W (i+1) m' σ'' H'')∧∀x H2,J.yld i H' x H2→g x σ' H2 fun σ2 H3=>tt σ2 H3 fun b H4 =>
  if b=true then tk σ2 H4 fun x H5=>tv σ2 H5 fun y H6 => ∃kvs k,x=kV k∧H6 D=some (.dK kvs)∧kvs.length<sizeLine∧N σ2 (upd H6 D (.dK (putK kvs k y))) else N σ2 H4)
theorem zas5 {Y:Cx}{kx vx tg iter:Expr}{ifs:List Expr}{g1:Comprehension}{scope:Scope}{pos:Pos}{wi:TI}{g:TG}{tt:TT}{tk tv:TE}{D:Addr} (yc:Y.calm=true) (yx:Y.xe=fun _ _=>False) (hi:PI Y tg iter wi) (hg:PG Y tg g) (ht:PTs Y ifs tt) (hk:PE Y kx tk) (hv:PE Y vx tv)
  (hs:∀x,foldedSetIterable iter Y.env x=pure x:=by intro _;rfl):PEm Y (emT (.DictComp kx vx [g1,⟨tg,iter,ifs,0⟩] scope pos) ⟨tg,iter,ifs,0⟩ (.ref D) Y.env) (zau5 wi g tt tk tv D):=by
 intro pins s σ H R I h
 unfold emT
 refine zbf2 (thn (hi pins s σ H _ I h) fun v s1 h1=>zbf2 (wpAny_standAt (zbf2 (wpAny_of_eq (hs v) (zbf2 (wpAny_holding (thn h1 fun itv s2 h2=>?_)))))))
 obtain⟨it,fp,tn,J,H2,e,I2,T,st2,f2,W,⟨m0,w0⟩,turn⟩:=h2
 subst e
 refine zbf2 (wpAny_runOwn ?_)
 have stat:∀ {H':Hp},(∀b∈fp,H' b=none)→∀b∈fp,FpOk Y pins H' b:=fun hn b hb=>⟨hn b hb,(f2 b hb).2⟩
 have loop:∀s2',Inv Y pins σ H2 s2'→tn 0 s2'.heap→codeAny (model Y.prog Y.w) Y.A (.compLoop (.DictComp kx vx [g1,⟨tg,iter,ifs,0⟩] scope pos) 1 (.ref it) (.ref D) Y.env)
   (fun r s'=>match r with | .ok f=>wpAny (model Y.prog Y.w) Y.A (pure ()) (fun _ s' => ∃σ' H',Inv Y pins σ' H' s'∧R σ' H') Y.xe s' | .error e=>cameBackBy (model Y.prog Y.w) Y.A Y.env Y.xe e s') s2':=by
  intro s2' I2' st2'
  refine zt2 (do
      let kv ← eval kx Y.env
      let vv ← holding [kv] (eval vx Y.env)
      standAt { kx.pos with endLine:=vx.pos.endLine,endCol:=vx.pos.endCol }
      holding [kv,vv] (dictSet D kv vv)) zah7 (fun n s' => ∃i σ' H',Inv Y pins σ' H' s'∧tn i s'.heap∧(∀b∈fp,H' b=none)∧W i n σ' H') ?_ m0 ⟨0,_,_,I2',st2',fun b hb=>(f2 b hb).1,w0⟩
  rintro n s3 ⟨i,σ3,H3,I5,st3,fr3,w3⟩
  rcases turn i n σ3 H3 w3 with ⟨stop,qn⟩ | ⟨go,N,hNN,step⟩
  ·refine thn (T.done Y rfl rfl rfl yc i pins s3 σ3 H3 (fun _ _=>False) I5 (stat fr3) st3 stop) fun r s4 ⟨hr,I6⟩=>?_
   subst hr
   exact zbg4 ⟨σ3,H3,I6,qn⟩
  ·refine thn (T.item Y rfl rfl rfl yc i pins s3 σ3 H3 (fun _ _=>False) I5 (stat fr3) st3 go) fun r s4 ⟨u,hr,h4⟩=>?_
   subst hr
   refine thn h4 fun _ s5 ⟨x,H5,I6,r5,y5,st5,fr5⟩=>?_
   have I6':=I6.pinned (stat fr5) (T.obj _ _ st5)
   have a:=hg _ s5 σ3 H5 x u _ I6' r5 (step x H5 y5)
   rw [yx]at a
   refine thn a fun _ s6 ⟨σ6,H6,I7,q6⟩=>?_
   have b:=ht _ s6 σ6 H6 _ I7 q6
   rw [yx]at b
   refine thn b fun ok s7 ⟨H7,I8,q7⟩=>?_
   have again:∀ {s9:zbe5}{H9:Hp},Inv Y (pins++zo8 fp s5.heap) σ6 H9 s9→N σ6 H9→∃m,m<n∧∃i σ' H',Inv Y pins σ' H' s9∧tn i s9.heap∧(∀b∈fp,H' b=none)∧W i m σ' H':=fun {s9 H9} I9 n9=>by
    obtain⟨m',hm,w9⟩:=hNN σ6 H9 n9
    refine⟨m',hm,i+1,σ6,H9,I9.unpinned,T.keep _ _ _ st5 fun b hb o e=>(I9.pin (b,o) (zbd3 _ (zbd3 _ (zf4 hb e)))).1,fun b hb=>?_,w9⟩
    obtain⟨o,e,d⟩:=T.obj _ _ st5 b hb
    exact (I9.pin (b,o) (zbd3 _ (zbd3 _ (zf4 hb e)))).2.1
   cases ok with
   |false=>exact iteF (again I8 (by simpa using q7))
   |true =>
    rw [if_pos rfl]at q7
    refine iteT ?_
    have c:=hk _ s7 σ6 H7 _ I8 q7
    rw [yx]at c
    refine zbf2 (thn c fun kv s8 ⟨vk,H8,I9,rk,q9⟩=>zbf2 (wpAny_holding ?_))
    have d:=hv _ s8 σ6 H8 _ I9 q9
    rw [yx]at d
    refine thn d fun vv s9 ⟨vy,H9,I10,rv,kvs,kk,ek,hD,hl,n9⟩=>zbf2 (wpAny_standAt (wpAny_holding ?_))
    subst ek
    exact d_set I10 hD rk rv hl fun s' I11=>again I11 n9
 exact zo6 (loop s2 I2 st2) (T.self _ 0 _ _ _ st2 (loop s2 I2 st2))
theorem zax0 {X:Cx}{kx vx tg iter:Expr}{ifs:List Expr}{scope:Scope}{pos:Pos}{n:Nat}{cap:List Nat}{N':List Str}{wi:TI}{g:TG}{tt:TT}{em:EMS}{g2:Comprehension} (S:CompSc X scope) (hc:X.calm=true) (hi:PI X tg iter wi)
  (hN:N'.length=n+cap.length) (hcap:∀(k:Nat) (j:Nat),cap[k]?=some j→∃x,N'[n+k]?=some x∧X.N[j]?=some x∧(x,NameKind.free)∈scope.names)
  (hg:∀C s₃ H₃ fp pins,PG (blk X N' scope C s₃ H₃ fp pins) tg g) (ht:∀C s₃ H₃ fp pins,PTs (blk X N' scope C s₃ H₃ fp pins) ifs tt) (he:∀C s₃ H₃ fp pins D,PEm (blk X N' scope C s₃ H₃ fp pins) (emT (.DictComp kx vx [⟨tg,iter,ifs,0⟩,g2] scope pos) g2 (.ref D) (blk X N' scope C s₃ H₃ fp pins).env) (em D))
  (h2:g2.is_async=0) (hs:∀x,foldedSetIterable iter X.env x=pure x:=by intro _;rfl):PE X (.DictComp kx vx [⟨tg,iter,ifs,0⟩,g2] scope pos) (zau6 n cap wi g tt em):=by
 intro pins s σ H Q I h
 rw [arm_eval_DictComp]
 refine wpAny_comprehension_free (use:=none) rfl hs (zs7 (S.frees I.ok)) S.kind (fun x hx hl=>by rw [S.names x hx,hl]) (thn (hi pins s σ H _ I h) fun v s1 h1=>thn h1 fun itv s2 h2=>?_)
 obtain⟨it,fp,tn,J,H2,e,I2,T,st2,f2,R⟩:=h2
 subst e
 have lt2:∀b∈fp,b<s2.heap.objs.size:=fun b hb=>by obtain⟨o,e,_⟩:=T.obj _ _ st2 b hb;exact zbe6 e
 have hD:H2 s2.heap.objs.size=none:=I2.fresh
 obtain⟨W,⟨m0,w0⟩,turn⟩:=R s2.heap.objs.size hD
 have I3:Inv X pins σ (upd H2 s2.heap.objs.size (.dK [])) { s2 with heap:=s2.heap.push { cls:=.type "dict",data:=.dict #[] },toks:=s2.toks }:=I2.laid (a:=s2.heap.objs.size) (o:=.dK []) (t':=s2.toks) (fun _ _ q=>zbe4 _ q) (zbf6 _) (dk_empty s2.heap I2.big)
 have f3:∀b∈fp,FpOk X pins (upd H2 s2.heap.objs.size (.dK [])) b:=fun b hb=>⟨by rw [zc8 (zbg0 (lt2 b hb))];exact (f2 b hb).1,(f2 b hb).2⟩
 refine wpAny_newObj_type (zk8 fun h₁ hns₁ hk hcl₁=>?_)
 have lt3:∀b∈fp,b<(s2.heap.push { cls:=.type "dict",data:=.dict #[] }).objs.size:=fun b hb=>by rw [zbm2];exact zbk8 (lt2 b hb)
 have I4:Inv (blk X N' scope (s2.heap.push { cls:=.type "dict",data:=.dict #[] }).objs.size { s2 with heap:=s2.heap.push { cls:=.type "dict",data:=.dict #[] },toks:=s2.toks } (upd H2 s2.heap.objs.size (.dK [])) fp pins) [] (capV n cap σ) (upd H2 s2.heap.objs.size (.dK [])) { s2 with heap:=h₁,toks:=s2.toks } :=
  zam9 I3 S hc f3 lt3 (t1:=s2.toks) hns₁ hk hcl₁ (by simp [capV,hN]) (fun i x v e1 e2=>by
   unfold capV at e2
   by_cases hi:i<n
   ·rw [zbg8 (by simpa using hi),zbj8]at e2
    split at e2<;>cases e2
   ·rw [zbh7 (by simpa using hi),zbk5,zbh2]at e2
    cases ej:cap[i - n]? with
    |none=>rw [ej]at e2;cases e2
    |some j =>
     rw [ej]at e2
     obtain⟨x',a1,a2,a3⟩:=hcap (i - n) j ej
     have:n+(i - n)=i:=by lia
     rw [this,e1]at a1
     cases a1
     refine⟨a3,j,a2,?_⟩
     have e2:(σ[j]?).getD none=some v:=by simpa using e2
     cases q:σ[j]? with
     |none=>rw [q]at e2;cases e2
     |some z=>rw [q]at e2;have:z=some v:=e2;rw [this])
 have loop:codeAny (model X.prog X.w) X.A (.compLoop (.DictComp kx vx [⟨tg,iter,ifs,0⟩,g2] scope pos) 0 (.ref it) (.ref s2.heap.objs.size) (compEnvC scope (cellsFrom ((s2.heap.push { cls:=.type "dict",data:=.dict #[] }).objs.size+1) scope.names (clOf X.env.cells scope.names [])) (s2.heap.push { cls:=.type "dict",data:=.dict #[] }).objs.size X.env))
   (compPost (model X.prog X.w) X.A X.xe none (EP X pins σ Q) (.ref s2.heap.objs.size) (s2.heap.push { cls:=.type "dict",data:=.dict #[] }).objs.size) { s2 with heap:=h₁,toks:=s2.toks }:=by
  generalize hY:(blk X N' scope (s2.heap.push { cls:=.type "dict",data:=.dict #[] }).objs.size { s2 with heap:=s2.heap.push { cls:=.type "dict",data:=.dict #[] },toks:=s2.toks } (upd H2 s2.heap.objs.size (.dK [])) fp pins)=Y at I4
  have st4:tn 0 h₁:=T.keep _ _ _ st2 fun b hb o e=>hk b o (zbe4 _ e)
  have stat:∀ {H':Hp},(∀b∈fp,H' b=none)→∀b∈fp,FpOk Y [] H' b:=fun hn b hb=>by
   subst hY
   obtain⟨f0,f1,f2',f3',f4,f5⟩:=f3 b hb
   exact⟨hn b hb,zbg0 (lt3 b hb),fun z=>(zbe3.mp (I3.stkSub b z)).elim f1 f2',.inl hb,fun x c e=>(by
    rcases S.old I3 e with z | z
    ·exact f4 x c z
    ·exact zbm4 (zbo0 (lt3 b hb) z)),fun p hp=>f5 p (by simpa using hp)⟩
  have hgY:PG Y tg g:=hY ▸ hg _ _ _ _ _
  have htY:PTs Y ifs tt:=hY ▸ ht _ _ _ _ _
  have heY:PEm Y (emT (.DictComp kx vx [⟨tg,iter,ifs,0⟩,g2] scope pos) g2 (.ref s2.heap.objs.size) Y.env) (em s2.heap.objs.size):=by subst hY;exact he _ _ _ _ _ _
  have yp:Y.prog=X.prog:=by subst hY;rfl
  have yw:Y.w=X.w:=by subst hY;rfl
  have yK:Y.K=X.K:=by subst hY;rfl
  have yA:Y.A=X.A:=by subst hY;rfl
  have yc:Y.calm=true:=by subst hY;rfl
  have yx:Y.xe=fun _ _=>False:=by subst hY;rfl
  have ye:Y.env=compEnvC scope (cellsFrom ((s2.heap.push { cls:=.type "dict",data:=.dict #[] }).objs.size+1) scope.names (clOf X.env.cells scope.names [])) (s2.heap.push { cls:=.type "dict",data:=.dict #[] }).objs.size X.env:=by subst hY;rfl
  rw [← ye]
  refine zt2 (emT (.DictComp kx vx [⟨tg,iter,ifs,0⟩,g2] scope pos) g2 (.ref s2.heap.objs.size) Y.env) (zah8 h2) (fun n s' => ∃i σ' H',Inv Y [] σ' H' s'∧tn i s'.heap∧(∀b∈fp,H' b=none)∧W i n σ' H') ?_ m0 ⟨0,_,_,I4,st4,fun b hb=>(f3 b hb).1,w0⟩
  rintro n s3 ⟨i,σ3,H3,I5,st3,fr3,w3⟩
  rcases turn i n σ3 H3 w3 with ⟨stop,qn⟩ | ⟨go,N,hNN,step⟩
  ·have d:=T.done Y yp yw yK yc i [] s3 σ3 H3 (fun _ _=>False) I5 (stat fr3) st3 stop
   rw [yA]at d
   refine thn d fun r s4 ⟨hr,I6⟩=>?_
   subst hr
   obtain⟨m,hm,_⟩:=I6.loc
   rw [ye]at hm
   refine⟨m,hm,fun h' hb=>⟨.ref s2.heap.objs.size,H3,?_,rfl,qn⟩⟩
   subst hY
   exact zae2 I3 f3 rfl I6 hb
  ·have d:=T.item Y yp yw yK yc i [] s3 σ3 H3 (fun _ _=>False) I5 (stat fr3) st3 go
   rw [yA]at d
   refine thn d fun r s4 ⟨u,hr,h4⟩=>?_
   subst hr
   refine thn h4 fun _ s5 ⟨x,H5,I6,r5,y5,st5,fr5⟩=>?_
   have I6':=I6.pinned (stat fr5) (T.obj _ _ st5)
   have a:=hgY _ s5 σ3 H5 x u _ I6' r5 (step x H5 y5)
   rw [yp,yw,yA,yx]at a
   refine thn a fun _ s6 ⟨σ6,H6,I7,q6⟩=>?_
   have b:=htY _ s6 σ6 H6 _ I7 q6
   rw [yp,yw,yA,yx]at b
   refine thn b fun ok s7 ⟨H7,I8,q7⟩=>?_
   have again:∀ {s9:zbe5}{σ9:L2.St}{H9:Hp},Inv Y ([]++zo8 fp s5.heap) σ9 H9 s9→N σ9 H9→∃m,m<n∧∃i σ' H',Inv Y [] σ' H' s9∧tn i s9.heap∧(∀b∈fp,H' b=none)∧W i m σ' H':=fun {s9 σ9 H9} I9 n9=>by
    obtain⟨m',hm,w9⟩:=hNN σ9 H9 n9
    refine⟨m',hm,i+1,σ9,H9,I9.unpinned,T.keep _ _ _ st5 fun b hb o e=>(I9.pin (b,o) (zbd3 _ (zbd3 _ (zf4 hb e)))).1,fun b hb=>?_,w9⟩
    obtain⟨o,e,d⟩:=T.obj _ _ st5 b hb
    exact (I9.pin (b,o) (zbd3 _ (zbd3 _ (zf4 hb e)))).2.1
   cases ok with
   |false=>exact iteF (again I8 (by simpa using q7))
   |true =>
    rw [if_pos rfl]at q7
    refine iteT ?_
    have c:=heY _ s7 σ6 H7 _ I8 q7
    rw [yp,yw,yA,yx]at c
    exact thn c fun _ s8 ⟨σ8,H8,I9,n9⟩=>again I9 n9
 exact codeAny_compStart_dict loop (T.self _ 0 _ _ _ (T.keep _ _ _ st2 fun b hb o e=>hk b o (zbe4 _ e)) loop)
end L2
namespace DL
open PySem.Spec L2
abbrev KD:=List Key×List D
noncomputable def stKD (a:KD) (x y:Ev):Option KD:=match keyD x.d with
 |some kk=>if scD y.d&&decide (a.1.length<50000) then some (zt5 a.1 a.2 kk y.d) else none
 |none=>none
noncomputable def zk0 (k:D→Th→Option Th) (ft:DT) (fk fv:DE):List D→Th→KD→Option (KD×Th)
 |[],t,a=>some (a,t)
 |d::ds,t,a=>(k d t).bind fun t1=>(ft t1).bind fun b=>if b then (fk t1).bind fun x=>(fv t1).bind fun y=>(stKD a x y).bind fun a1=>zk0 k ft fk fv ds t1 a1 else zk0 k ft fk fv ds t1 a
noncomputable def zk1 (k:D→Th→Option Th) (ft:DT) (fs2:DI) (k2:D→Th→Option Th) (ft2:DT) (fk fv:DE):List D→Th→KD→Option KD
 |[],_,a=>some a
 |d::ds,t,a=>(k d t).bind fun t1=>(ft t1).bind fun b=>if b then (fs2 t1).bind fun q=>(zk0 k2 ft2 fk fv q.2 t1 a).bind fun p=>zk1 k ft fs2 k2 ft2 fk fv ds p.2 p.1 else zk1 k ft fs2 k2 ft2 fk fv ds t1 a
noncomputable def zx8 (n:Nat) (cap:List Nat) (fs:DI) (k:D→Th→Option Th) (ft:DT) (fs2:DI) (k2:D→Th→Option Th) (ft2:DT) (fk fv:DE):DE:=fun t=>(fs t).bind fun q=>(capD t cap).bind fun c =>
 (zk1 k ft fs2 k2 ft2 fk fv q.2 (zbe8 n Sl.no++c.2.map Sl.val) ([],[])).map fun a=>.dn (.dct a.1 a.2)
def mK (kvs:List (Key×V)):MO:=⟨.dK kvs,rfl⟩
theorem RS.updFK {K:zbd4}{P:List Addr}{H:Hp}{t:Th}{σ:L2.St}{p:Addr}{kvs:List (Key×V)} (R:RS K P H [] t σ) (hp:p∈P):RS K P (upd H p (.dK kvs)) [] t σ where
 mu:=fun q hq=>by
  by_cases z:q=p
  ·exact⟨mK kvs,by rw [z];exact zb9⟩
  ·obtain⟨us,w⟩:=R.mu q hq
   exact⟨us,by rw [zc8 z];exact w⟩
 nd:=zbj1
 dj:=fun p hp=>by cases hp
 rel:=RSl.mono (zh2 hp) R.rel fun q hq=>by cases hq
def OkKD (a:KD):Prop:=a.1.length=a.2.length∧a.2.all scD=true
abbrev kvKD (a:KD):List (Key×V):=mkKV a.1 (a.2.map sV)
theorem zar8 {X:Cx}{F:List Addr}{n:Nat}{cap:List Nat}{fs fs2:DI}{g g2:TG}{kt kt2:D→Th→Option Th}{ft ft2:DT}{fk fv:DE} (hk:∀F',TgOk X.K F' g kt) (hk2:∀F',TgOk X.K F' g2 kt2) {σ:L2.St}{H:Hp}{Q:VK} (h:dE X.K F (zx8 n cap fs kt ft fs2 kt2 ft2 fk fv) σ H Q) :
  zau6 n cap (dI X.K F fs) g (fun σ H Q => ∃F',dT X.K F' ft σ H Q) (zau5 (fun σ H R => ∃F',dI X.K F' fs2 σ H R) g2 (fun σ H Q => ∃F',dT X.K F' ft2 σ H Q) (fun σ H Q => ∃F',dE X.K F' fk σ H Q) (fun σ H Q => ∃F',dE X.K F' fv σ H Q)) σ H Q:=by
 obtain⟨A,t,r,R,e,h⟩:=h
 unfold zx8 at e
 cases e1:fs t with
 |none=>rw [e1]at e;cases e
 |some q =>
  obtain⟨b,ds⟩:=q
  cases e2:capD t cap with
  |none=>rw [e1,e2]at e;cases e
  |some q2 =>
   obtain⟨c,caps⟩:=q2
   rw [e1,e2]at e
   simp only [zbd9]at e
   cases e3:zk1 kt ft fs2 kt2 ft2 fk fv ds (zbe8 n Sl.no++caps.map Sl.val) ([],[]) with
   |none=>rw [e3]at e;cases e
   |some xs =>
    rw [e3]at e
    cases e
    obtain⟨cvs,cv1,cv2⟩:=zv0 R e2
    obtain⟨F',F'def⟩:∃F',F'=hidF (b&&c) A F:=⟨_,rfl⟩
    have subF:∀x∈F',x∈A++F:=fun x hx=>by
     rw [F'def]at hx
     unfold hidF at hx
     split at hx
     ·exact hx
     ·exact zbd3 _ hx
    have lessB:∀H:Hp,Same (hide (hidF b A F) H) (hide F' H):=fun H=>zb2 H fun x hx=>by
     rw [F'def]at hx
     cases b<;>cases c<;>simp [hidF]at hx ⊢<;>first | exact hx | exact .inr hx | (rcases hx with z | z<;>simp [z])
    have lessC:∀H:Hp,Same (hide (hidF c A F) H) (hide F' H):=fun H=>zb2 H fun x hx=>by
     rw [F'def]at hx
     cases b<;>cases c<;>simp [hidF]at hx ⊢<;>first | exact hx | exact .inr hx | (rcases hx with z | z<;>simp [z])
    refine⟨A,t,b,ds,R,e1,fun J H1 Good gs src gd Dd hD=>?_⟩
    have H1A:Lists H1 (A++F):=R.mu.mono gs
    have st0:Same (hide F' H1) (hide (Dd::F') (upd H1 Dd (.dK []))):=zj0 hD
    refine⟨fun i m σ' H'=>i+m=ds.length∧∃th a,RS X.K (Dd::F') H' [] th σ'∧zk1 kt ft fs2 kt2 ft2 fk fv (ds.drop i) th a=some xs∧H' Dd=some (.dK (kvKD a))∧OkKD a∧Same H1 H'∧Good (Dd::F') H',
     ⟨ds.length,by lia,_,([],[]),⟨?_,zbj1,fun p hp=>(by cases hp),?_⟩,by simpa using e3,zb9,⟨rfl,rfl⟩,zd1 hD,src.keep _ _ _ _ gd (fun b o z=>st0 _ _ (lessB _ _ _ z))⟩,?_⟩
    ·intro q hq
     have hq:q∈Dd::F':=hq
     rcases zbe3.mp hq with z | z
     ·exact⟨mK [],by rw [z];exact zb9⟩
     ·obtain⟨us,w⟩:=H1A q (subF q z)
      exact⟨us,(zd1 hD) _ _ w⟩
    ·unfold capV
     rw [cv1]
     exact RSl.noVals (Reps.mono (fun b o z=>st0 _ _ (lessC H1 _ _ (zc3 gs _ _ z))) cv2) n
    ·rintro i m σ' H' ⟨hm,th,a,RR,ec,hv,ok,sm,gg⟩
     cases m with
     |zero =>
      have z:i=ds.length:=by lia
      subst z
      rw [zbk1]at ec
      cases ec
      exact .inl ⟨src.stop _ _ gg,h _ H' (gs.trans sm) ⟨[Dd],by simp,fun b hb=>by simp at hb;subst hb;exact Same.free gs hD,.dct (vs:=xs.2.map sV) (by simpa using ok.1) hv (zan8 ok.2)⟩⟩
     |succ m =>
      have hil:i<ds.length:=by lia
      refine .inr ⟨src.go _ _ i gg hil,fun σ' H'=>i+1+m=ds.length∧∃th a,RS X.K (Dd::F') H' [] th σ'∧zk1 kt ft fs2 kt2 ft2 fk fv (ds.drop (i+1)) th a=some xs∧H' Dd=some (.dK (kvKD a))∧OkKD a∧Same H1 H'∧Good (Dd::F') H',
       fun σ' H' q=>⟨m,zbi6 m,q⟩,fun x H2 y=>?_⟩
      obtain⟨gs2,d,hd,rd⟩:=src.yld _ _ i x H2 gg RR.mu y hil
      have ed:ds.drop i=d::ds.drop (i+1):=by
       have hd':ds[i]=d:=by
        rw [zbe1 hil]at hd
        exact Option.some.inj hd
       rw [← hd']
       exact zbg9 hil
      rw [ed]at ec
      unfold zk1 at ec
      cases k1:kt d th with
      |none=>rw [k1]at ec;cases ec
      |some t1 =>
       rw [k1]at ec
       simp only [zbd9]at ec
       refine hk (Dd::F') σ' H2 [] th t1 d x _ (RR.grow gs2) rd k1 fun σ2 A2 gr2 R2=>?_
       have A20:=zo3 R2 gr2
       subst A20
       cases k2:ft t1 with
       |none=>rw [k2]at ec;cases ec
       |some bb =>
        rw [k2]at ec
        simp only [zbd9]at ec
        refine⟨Dd::F',[],t1,bb,R2,k2,fun H3 gs3=>?_⟩
        cases bb with
        |false =>
         refine iteF ⟨by lia,t1,a,R2.grow gs3,by simpa using ec,gs3 _ _ (gs2 _ _ hv),ok,(sm.trans gs2).trans gs3,src.keep _ _ _ _ gg (zc3 (gs2.trans gs3))⟩
        |true =>
         simp only [if_true]at ec
         cases k3:fs2 t1 with
         |none=>rw [k3]at ec;cases ec
         |some q2 =>
          obtain⟨b2,ds2⟩:=q2
          rw [k3]at ec
          simp only [zbd9]at ec
          cases k4:zk0 kt2 ft2 fk fv ds2 t1 a with
          |none=>rw [k4]at ec;cases ec
          |some pp =>
           obtain⟨aE,tE⟩:=pp
           rw [k4]at ec
           simp only [zbd9]at ec
           have k5:=ec
           refine iteT ⟨Dd::F',[],t1,b2,ds2,R2.grow gs3,k3,fun J2 H4 Good2 gs4 src2 gd2=>?_⟩
           have gd2:Good2 (Dd::F') H4:=by
            have e9:hidF b2 [] (Dd::F')=Dd::F':=by unfold hidF;split<;>simp
            rw [e9]at gd2;exact gd2
           have s4:=(gs2.trans gs3).trans gs4
           refine⟨fun j k σj Hj=>j+k=ds2.length∧∃tj aj,RS X.K (Dd::F') Hj [] tj σj∧zk0 kt2 ft2 fk fv (ds2.drop j) tj aj=some (aE,tE)∧Hj Dd=some (.dK (kvKD aj))∧OkKD aj∧Same H1 Hj∧Good (Dd::F') Hj∧Good2 (Dd::F') Hj,
            ⟨ds2.length,by lia,t1,a,(R2.grow gs3).grow gs4,by simpa using k4,s4 _ _ hv,ok,sm.trans s4,src.keep _ _ _ _ gg (zc3 s4),gd2⟩,?_⟩
           rintro j k σj Hj ⟨hjk,tj,aj,Rj,ej,hvj,okj,smj,ggj,gg2⟩
           cases k with
           |zero =>
            have z:j=ds2.length:=by lia
            subst z
            rw [zbk1]at ej
            cases ej
            exact .inl ⟨src2.stop _ _ gg2,by lia,_,_,Rj,k5,hvj,okj,smj,ggj⟩
           |succ k =>
            have hjl:j<ds2.length:=by lia
            refine .inr ⟨src2.go _ _ j gg2 hjl,fun σj Hj=>j+1+k=ds2.length∧∃tj aj,RS X.K (Dd::F') Hj [] tj σj∧zk0 kt2 ft2 fk fv (ds2.drop (j+1)) tj aj=some (aE,tE)∧Hj Dd=some (.dK (kvKD aj))∧OkKD aj∧Same H1 Hj∧Good (Dd::F') Hj∧Good2 (Dd::F') Hj,
             fun σ' H' q=>⟨k,zbi6 k,q⟩,fun xj H5 yj=>?_⟩
            obtain⟨gs5,dj,hdj,rdj⟩:=src2.yld _ _ j xj H5 gg2 Rj.mu yj hjl
            have edj:ds2.drop j=dj::ds2.drop (j+1):=by
             have hd':ds2[j]=dj:=by
              rw [zbe1 hjl]at hdj
              exact Option.some.inj hdj
             rw [← hd']
             exact zbg9 hjl
            rw [edj]at ej
            unfold zk0 at ej
            cases w1:kt2 dj tj with
            |none=>rw [w1]at ej;cases ej
            |some t6 =>
             rw [w1]at ej
             simp only [zbd9]at ej
             refine hk2 (Dd::F') σj H5 [] tj t6 dj xj _ (Rj.grow gs5) rdj w1 fun σ6 A6 gr6 R6=>?_
             have A60:=zo3 R6 gr6
             subst A60
             cases w2:ft2 t6 with
             |none=>rw [w2]at ej;cases ej
             |some b6 =>
              rw [w2]at ej
              simp only [zbd9]at ej
              refine⟨Dd::F',[],t6,b6,R6,w2,fun H6 gs6=>?_⟩
              cases b6 with
              |false =>
               exact iteF ⟨by lia,t6,aj,R6.grow gs6,by simpa using ej,gs6 _ _ (gs5 _ _ hvj),okj,(smj.trans gs5).trans gs6,src.keep _ _ _ _ ggj (zc3 (gs5.trans gs6)),src2.keep _ _ _ _ gg2 (zc3 (gs5.trans gs6))⟩
              |true =>
               simp only [if_true]at ej
               cases w3:fk t6 with
               |none=>rw [w3]at ej;cases ej
               |some rk =>
                rw [w3]at ej
                simp only [zbd9]at ej
                cases w4:fv t6 with
                |none=>rw [w4]at ej;cases ej
                |some rv =>
                 rw [w4]at ej
                 simp only [zbd9]at ej
                 cases w5:stKD aj rk rv with
                 |none=>rw [w5]at ej;cases ej
                 |some a1 =>
                  rw [w5]at ej
                  simp only [zbd9]at ej
                  unfold stKD at w5
                  split at w5
                  case h_2=>cases w5
                  rename_i kk ek
                  split at w5
                  case isFalse=>cases w5
                  rename_i c5
                  rw [zbe0,decide_eq_true_eq]at c5
                  cases w5
                  refine iteT ⟨Dd::F',[],t6,rk,R6.grow gs6,w3,fun x H7 gs7 q7=>⟨Dd::F',[],t6,rv,(R6.grow gs6).grow gs7,w4,fun y H8 gs8 q8=>?_⟩⟩
                  have ex:=zaz0 q7.full ek
                  have ey:=rep_sc q8.full c5.1
                  subst ex ey
                  have s8:=((gs5.trans gs6).trans gs7).trans gs8
                  obtain⟨pz,pl⟩:=put_zip kk rv.d okj.1
                  have hu:Same (hide (Dd::F') H8) (hide (Dd::F') (upd H8 Dd (.dK (putK (kvKD aj) kk (sV rv.d))))):=zh2 (zbd7 ..)
                  refine⟨kvKD aj,kk,rfl,s8 _ _ hvj,?_,by lia,t6,zt5 aj.1 aj.2 kk rv.d,RS.updFK (((R6.grow gs6).grow gs7).grow gs8) (zbd7 ..),ej,?_,⟨pl,put_sc c5.1 okj.2⟩,?_,?_,?_⟩
                  ·unfold kvKD mkKV
                   rw [List.length_zip]
                   exact zbp8 (Nat.min_le_left _ _) (zbf0 c5.2 (by rw [sizeLine_eq];decide))
                  ·rw [zb9];exact congrArg (fun z=>some (HO.dK z)) pz
                  ·exact fun b o z=>by
                    rw [zc8 (fun w=>by rw [w,hD]at z;cases z)]
                    exact s8 _ _ (smj _ _ z)
                  ·exact src.keep _ _ _ _ ggj (fun b o z=>hu _ _ (zc3 s8 _ _ z))
                  ·exact src2.keep _ _ _ _ gg2 (fun b o z=>hu _ _ (zc3 s8 _ _ z))
theorem zak8 {X:Cx}{F:List Addr}{kx vx tg iter tg2 iter2:Expr}{ifs ifs2:List Expr}{scope:Scope}{pos:Pos}{fs fs2:DI}{g g2:TG}{kt kt2:D→Th→Option Th}{ft ft2:DT}{fk fv:DE} (n:Nat) (cap:List Nat) (N':List Str) (hc:X.calm=true) (hi:PI X tg iter (dI X.K F fs))
  (hg:∀C s₃ H₃ fp pins,PG (blk X N' scope C s₃ H₃ fp pins) tg g) (hk:∀F',TgOk X.K F' g kt) (ht:∀C s₃ H₃ fp pins F',PTs (blk X N' scope C s₃ H₃ fp pins) ifs (dT X.K F' ft))
  (hi2:∀C s₃ H₃ fp pins F',PI (blk X N' scope C s₃ H₃ fp pins) tg2 iter2 (dI X.K F' fs2)) (hg2:∀C s₃ H₃ fp pins,PG (blk X N' scope C s₃ H₃ fp pins) tg2 g2) (hk2:∀F',TgOk X.K F' g2 kt2) (ht2:∀C s₃ H₃ fp pins F',PTs (blk X N' scope C s₃ H₃ fp pins) ifs2 (dT X.K F' ft2))
  (hkx:∀C s₃ H₃ fp pins F',PE (blk X N' scope C s₃ H₃ fp pins) kx (dE X.K F' fk)) (hvx:∀C s₃ H₃ fp pins F',PE (blk X N' scope C s₃ H₃ fp pins) vx (dE X.K F' fv))
  (hkd:scope.kind=.function:=by rfl) (hcs:zy0 scope.names X.env.kindOf=true:=by rfl) (hN:N'.length=n+cap.length:=by rfl) (hcap:zae0 N' X.N n scope.names 0 cap=true:=by rfl)
  (hs:∀x,foldedSetIterable iter X.env x=pure x:=by intro _;rfl) (hs2:∀C s₃ H₃ fp pins x,foldedSetIterable iter2 (blk X N' scope C s₃ H₃ fp pins).env x=pure x:=by intros;rfl) :
  PE X (.DictComp kx vx [⟨tg,iter,ifs,0⟩,⟨tg2,iter2,ifs2,0⟩] scope pos) (dE X.K F (zx8 n cap fs kt ft fs2 kt2 ft2 fk fv)) :=
 PE.imp (zax0 (g:=g) (zah9 hkd hcs) hc hi hN (fun k j e=>by simpa using zo4 hcap k j e) hg (fun C s₃ H₃ fp pins pins' s σ H Q I ⟨F',q⟩=>ht C s₃ H₃ fp pins F' pins' s σ H Q I q)
  (fun C s₃ H₃ fp pins D=>zas5 rfl rfl (fun pins' s σ H R I ⟨F',q⟩=>hi2 C s₃ H₃ fp pins F' pins' s σ H R I q) (hg2 C s₃ H₃ fp pins) (fun pins' s σ H Q I ⟨F',q⟩=>ht2 C s₃ H₃ fp pins F' pins' s σ H Q I q) (fun pins' s σ H Q I ⟨F',q⟩=>hkx C s₃ H₃ fp pins F' pins' s σ H Q I q) (fun pins' s σ H Q I ⟨F',q⟩=>hvx C s₃ H₃ fp pins F' pins' s σ H Q I q) (hs2 C s₃ H₃ fp pins)) rfl hs) fun _ _ _ h=>zar8 hk hk2 h
structure HJ (K:zbd4) (F A0:List Addr) (H0:Hp) (B A':List Addr) (tt:Th) (i:Nat) (p0:Addr) (vs:List V) (p1:Addr) (vs1:List V) (L:List Addr) (n:Nat) (σ:L2.St) (H:Hp):Prop where
 rs:RS K (B++F) H A' tt σ
 nm:σ[i]?=some (some (.ref p0))
 tp:SqT K (hide (A'++(B++F)) H) p0 vs
 l1:H p1=some (.lst vs1)
 ll:∀b∈L,∃us:List V,H b=some (.lst us)∧us.length≤n
 gr:Gr A0 H0 A' H
theorem flats_ints:∀ns:List Int,flats (ns.map D.int)=true
 |[]=>rfl
 |n::ns=>by simp [flats,flat,flats_ints ns]
structure Res where
 γ:Type
 rel:zbd4→Hp→Addr→γ→List Addr→Prop
 mono:∀ {K:zbd4}{H H':Hp}{p:Addr}{w:γ}{B:List Addr},rel K H p w B→(∀b o,H b=some o→(mutO o=false∨b∈B)→H' b=some o)→rel K H' p w B
 lists:∀ {K:zbd4}{H:Hp}{p:Addr}{w:γ}{B:List Addr},rel K H p w B→Lists H B
structure RW (ρ:Res) (K:zbd4) (F:List Addr) (H:Hp) (A:List Addr) (t:Th) (σ:L2.St) (p:Addr) (w:ρ.γ) (B:List Addr):Prop where
 rs:RS K (B++F) H A t σ
 rel:ρ.rel K H p w B
 nd:B.Nodup
 dj:∀b∈B,b∉F
def Ch (B:List Addr) (H H':Hp):Prop := ∀b o,b∉B→H b=some o→H' b=some o
theorem Ch.refl {B:List Addr}{H:Hp}:Ch B H H:=fun _ _ _ h=>h
theorem Ch.of {B:List Addr}{H H':Hp} (g:Same H H'):Ch B H H':=fun b o _ h=>g b o h
theorem Ch.trans {B:List Addr}{H H1 H2:Hp} (a:Ch B H H1) (b:Ch B H1 H2):Ch B H H2:=fun x o n h=>b x o n (a x o n h)
def mixH (B:List Addr) (H H':Hp):Hp:=fun b=>if b∈B then H' b else H b
theorem zal9 {B:List Addr}{H H':Hp}{b:Addr} (h:b∈B):mixH B H H' b=H' b:=if_pos h
theorem zm0 {B:List Addr}{H H':Hp}{b:Addr} (h:b∉B):mixH B H H' b=H b:=if_neg h
theorem zi9 {B:List Addr}{H H':Hp} (c:Ch B H H'):Same (mixH B H H') H':=fun b o h=>by
 by_cases z:b∈B
 ·rwa [zal9 z]at h
 ·rw [zm0 z]at h;exact c b o z h
section
variable {ρ:Res}{K:zbd4}{F A A' B B':List Addr}{H H' H1 H2:Hp}{t t':Th}{σ σ':L2.St}{p:Addr}{w w':ρ.γ}{r:Ev}{v:V}
theorem RW.grow (R:RW ρ K F H A t σ p w B) (g:Same H H'):RW ρ K F H' A t σ p w B:=⟨R.rs.grow g,ρ.mono R.rel fun b o h _=>g b o h,R.nd,R.dj⟩
theorem RW.notA (R:RW ρ K F H A t σ p w B) {b:Addr} (hb:b∈B):b∉A:=fun z=>R.rs.dj b z (zbd5 _ hb)
theorem RW.step (R:RW ρ K F H A t σ p w B) (g:Gr A H A' H') (R':RS K (B++F) H' A' t' σ'):RW ρ K F H' A' t' σ' p w B :=
 ⟨R',ρ.mono R.rel fun b o h k=>g.kp b o (fun z=>by
  rcases k with k | k
  ·obtain⟨⟨u,m⟩,e⟩:=R.rs.mu b (zbd5 _ z)
   have m:mutO u=true:=m
   rw [h]at e;cases e
   rw [k]at m;cases m
  ·exact R.notA k z) h,R.nd,R.dj⟩
theorem RW.chg (R:RW ρ K F H A t σ p w B) (c:Ch B H H') (q:ρ.rel K H' p w' B):RW ρ K F H' A t σ p w' B:=by
 have hs:Same (hide (A++(B++F)) H) (hide (A++(B++F)) H'):=fun b o h=>by
  obtain⟨n,h⟩:=zh9 h
  exact zc2 (c b o (fun z=>n (zbd3 _ (zbd5 _ z))) h) n
 refine⟨⟨fun b hb=>?_,R.rs.nd,R.rs.dj,RSl.mono hs R.rs.rel fun b hb o h=>c b o (fun z=>R.notA z hb) h⟩,q,R.nd,R.dj⟩
 by_cases z:b∈B
 ·exact ρ.lists q b z
 ·obtain⟨o,e⟩:=R.rs.mu b hb
  exact⟨o,c b _ z e⟩
theorem RW.al (R:RW ρ K F H A t σ p w B) {b:Addr} (hb:b∈B):H b≠none:=by
 obtain⟨o,e⟩:=ρ.lists R.rel b hb
 rw [e];simp
theorem RW.mixL (R:RW ρ K F H A t σ p w B) (R':RW ρ K F H' A t σ p w' B):Lists (mixH B H H') (A++(B++F)):=fun b hb=>by
 by_cases z:b∈B
 ·rw [zal9 z];exact ρ.lists R'.rel b z
 ·rw [zm0 z];exact R.rs.mu b hb
theorem RW.mixR (R:RW ρ K F H A t σ p w B) (R':RW ρ K F H' A t σ p w' B):RS K (B++F) (mixH B H H') A t σ:=by
 refine⟨R.mixL R',R.rs.nd,R.rs.dj,RSl.mono (fun b o h=>?_) R.rs.rel fun b hb o h=>by rw [zm0 fun z=>R.notA z hb];exact h⟩
 obtain⟨n,h⟩:=zh9 h
 exact zc2 (by rw [zm0 fun z=>n (zbd3 _ (zbd5 _ z))];exact h) n
theorem RepEv.mixI (R:RW ρ K F H A t σ p w B) (h:RepEv K (B++F) A H H2 r v):RepEv K (B++F) A (mixH B H H1) H2 r v:=by
 have fr:∀ {b:Addr},H b=none→mixH B H H1 b=none:=fun {b} e=>by rw [zm0 fun z=>R.al z e];exact e
 cases r with
 |cl d=>exact h
 |tm d=>exact h
 |nw xs =>
  obtain⟨q,vs,rfl,h1,h2,h3⟩:=h
  exact⟨q,vs,rfl,fr h1,h2,h3⟩
 |dn d =>
  obtain⟨C,h1,h2,h3⟩:=h
  exact⟨C,h1,fun b hb=>fr (h2 b hb),h3⟩
theorem RepEv.mixO (R':RW ρ K F H1 A t σ p w' B) (h:RepEv K (B++F) A (mixH B H H1) H2 r v):RepEv K (B++F) A H H2 r v:=by
 have fr:∀ {b:Addr},mixH B H H1 b=none→H b=none:=fun {b} e=>by
  by_cases z:b∈B
  ·rw [zal9 z]at e;exact absurd e (R'.al z)
  ·rwa [zm0 z]at e
 cases r with
 |cl d=>exact h
 |tm d=>exact h
 |nw xs =>
  obtain⟨q,vs,rfl,h1,h2,h3⟩:=h
  exact⟨q,vs,rfl,fr h1,h2,h3⟩
 |dn d =>
  obtain⟨C,h1,h2,h3⟩:=h
  exact⟨C,h1,fun b hb=>fr (h2 b hb),h3⟩
theorem RepEv.surv (R:RW ρ K F H A t σ p w B) (h:RepEv K (B++F) A H H1 r v) (c:Ch B H1 H2):RepEv K (B++F) A H H2 r v:=by
 have hs:∀P:List Addr,(∀b∈B,b∈P)→Same (hide P H1) (hide P H2):=fun P hP b o h=>by
  obtain⟨n,h⟩:=zh9 h
  exact zc2 (c b o (fun z=>n (hP b z)) h) n
 have s1:=hs (A++(B++F)) fun b hb=>zbd3 _ (zbd5 _ hb)
 cases r with
 |cl d=>exact Rep.mono s1 h
 |tm d=>exact Rep.mono (hs (B++F) fun b hb=>zbd5 _ hb) h
 |nw xs =>
  obtain⟨q,vs,rfl,h1,h2,h3⟩:=h
  exact⟨q,vs,rfl,h1,c q _ (fun z=>R.al z h1) h2,Reps.mono (hs _ fun b hb=>zbd6 _ (zbd3 _ (zbd5 _ hb))) h3⟩
 |dn d =>
  obtain⟨C,h1,h2,h3⟩:=h
  exact⟨C,h1,h2,RepD.mono (hs _ fun b hb=>zbd3 _ (zbd3 _ (zbd5 _ hb))) h3 fun b hb o e=>c b o (fun z=>R.al z (h2 b hb)) e⟩
theorem RepEv.early (R1:RW ρ K F H1 A t σ p w B) (c:Ch B H H1) (h:RepEv K (B++F) A H1 H2 r v):RepEv K (B++F) A H H2 r v:=by
 have fr:∀ {b:Addr},H1 b=none→H b=none:=fun {b} e=>by
  cases z:H b with
  |none=>rfl
  |some o =>
   by_cases y:b∈B
   ·exact absurd e (R1.al y)
   ·rw [c b o y z]at e;cases e
 cases r with
 |cl d=>exact h
 |tm d=>exact h
 |nw xs =>
  obtain⟨q,vs,rfl,h1,h2,h3⟩:=h
  exact⟨q,vs,rfl,fr h1,h2,h3⟩
 |dn d =>
  obtain⟨C,h1,h2,h3⟩:=h
  exact⟨C,h1,fun b hb=>fr (h2 b hb),h3⟩
theorem RepEvs.early (R1:RW ρ K F H1 A t σ p w B) (c:Ch B H H1):∀ {rs:List Ev}{vs:List V},RepEvs K (B++F) A H1 H2 rs vs→RepEvs K (B++F) A H H2 rs vs
 |_,_,.nil=>.nil
 |_,_,.cons h r=>.cons (h.early R1 c) (RepEvs.early R1 c r)
theorem RepEvs.mixI (R:RW ρ K F H A t σ p w B):∀ {rs:List Ev}{vs:List V},RepEvs K (B++F) A H H2 rs vs→RepEvs K (B++F) A (mixH B H H1) H2 rs vs
 |_,_,.nil=>.nil
 |_,_,.cons h r=>.cons (h.mixI R) (RepEvs.mixI R r)
end
abbrev WE (ρ:Res):=Th→ρ.γ→Option (Ev×ρ.γ)
abbrev WA (ρ:Res):=Th→ρ.γ→Option (List Ev×ρ.γ)
abbrev WT (ρ:Res):=Th→ρ.γ→Option (Bool×ρ.γ)
noncomputable def wE (ρ:Res) (K:zbd4) (F:List Addr) (p:Addr) (f:WE ρ):TE:=fun σ H Q => ∃A B t w r w',RW ρ K F H A t σ p w B∧f t w=some (r,w')∧∀v H',Ch B H H'→RW ρ K F H' A t σ p w' B→RepEv K (B++F) A H H' r v→Q v H'
noncomputable def wA (ρ:Res) (K:zbd4) (F:List Addr) (p:Addr) (f:WA ρ):TA:=fun σ H Q => ∃A B t w rs w',RW ρ K F H A t σ p w B∧f t w=some (rs,w')∧∀vs H',Ch B H H'→RW ρ K F H' A t σ p w' B→RepEvs K (B++F) A H H' rs vs→Q vs H'
noncomputable def wT (ρ:Res) (K:zbd4) (F:List Addr) (p:Addr) (f:WT ρ):TT:=fun σ H Q => ∃A B t w b w',RW ρ K F H A t σ p w B∧f t w=some (b,w')∧∀H',Ch B H H'→RW ρ K F H' A t σ p w' B→Q b H'
def eLf (ρ:Res) (f:DE):WE ρ:=fun t w=>(f t).map fun r=>(r,w)
def tLf (ρ:Res) (f:DT):WT ρ:=fun t w=>(f t).map fun r=>(r,w)
noncomputable def eOp {ρ:Res} (k:Ev→Ev→Option Ev) (fa fb:WE ρ):WE ρ:=fun t w=>(fa t w).bind fun q1=>(fb t q1.2).bind fun q2=>(k q1.1 q2.1).map fun r=>(r,q2.2)
def aNil {ρ:Res}:WA ρ:=fun _ w=>some ([],w)
def zb1 {ρ:Res} (f:WE ρ) (g:WA ρ):WA ρ:=fun t w=>(f t w).bind fun q1=>(g t q1.2).bind fun q2=>some (q1.1::q2.1,q2.2)
def eT1 {ρ:Res} (k:List Ev→Option Ev) (g:WA ρ):WE ρ:=fun t w=>(g t w).bind fun q=>(k q.1).map fun r=>(r,q.2)
def tBo {ρ:Res} (f:WE ρ):WT ρ:=fun t w=>(f t w).bind fun q=>match q.1.d with
 |.bl b=>some (b,q.2)
 |_=>none
def tNot {ρ:Res} (f:WT ρ):WT ρ:=fun t w=>(f t w).map fun q=>(!q.1,q.2)
def tOr {ρ:Res} (f g:WT ρ):WT ρ:=fun t w=>(f t w).bind fun q=>if q.1 then some q else g t q.2
def tAnd {ρ:Res} (f g:WT ρ):WT ρ:=fun t w=>(f t w).bind fun q=>if q.1 then g t q.2 else some q
section
variable {ρ:Res}{X:Cx}{F:List Addr}{p:Addr}{a b c:Expr}{es rest:List Expr}{fa fb fc:WE ρ}{g:WA ρ}{ft fu:WT ρ}{pos:Pos}
theorem za5 {f:DE} (h:∀F',PE X a (dE X.K F' f)):PE X a (wE ρ X.K F p (eLf ρ f)):=by
 rintro pins s σ H Q I ⟨A,B,t,w,r,w',R,e,k⟩
 unfold eLf at e
 cases e1:f t with
 |none=>rw [e1]at e;cases e
 |some r1 =>
  rw [e1]at e
  cases e
  exact h (B++F) pins s σ H Q I ⟨A,t,_,R.rs,e1,fun v H' gs q=>k v H' (Ch.of gs) (R.grow gs) q⟩
theorem zo2 {f:DT} (h:∀F',PT X a (dT X.K F' f)):PT X a (wT ρ X.K F p (tLf ρ f)):=by
 rintro pins s σ H Q I ⟨A,B,t,w,r,w',R,e,k⟩
 unfold tLf at e
 cases e1:f t with
 |none=>rw [e1]at e;cases e
 |some r1 =>
  rw [e1]at e
  cases e
  exact h (B++F) pins s σ H Q I ⟨A,t,_,R.rs,e1,fun H' gs=>k H' (Ch.of gs) (R.grow gs)⟩
theorem twoW {k:Ev→Ev→Option Ev}{σ:L2.St}{H:Hp}{Q:VK} (h:wE ρ X.K F p (eOp k fa fb) σ H Q):∃A B t w r1 r2 r w',RW ρ X.K F H A t σ p w B∧k r1 r2=some r ∧
  (∀v H',Ch B H H'→RW ρ X.K F H' A t σ p w' B→RepEv X.K (B++F) A H H' r v→Q v H') ∧
  wE ρ X.K F p fa σ H fun x H1=>wE ρ X.K F p fb σ H1 fun y H2=>Ch B H H2∧RW ρ X.K F H2 A t σ p w' B∧RepEv X.K (B++F) A H H2 r1 x∧RepEv X.K (B++F) A H H2 r2 y:=by
 obtain⟨A,B,t,w,r,w',R,e,h⟩:=h
 unfold eOp at e
 cases e1:fa t w with
 |none=>rw [e1]at e;cases e
 |some q1 =>
  rw [e1]at e
  have e:((fb t q1.2).bind fun q2=>(k q1.1 q2.1).map fun r=>(r,q2.2))=some (r,w'):=e
  cases e2:fb t q1.2 with
  |none=>rw [e2]at e;cases e
  |some q2 =>
   rw [e2]at e
   have e:((k q1.1 q2.1).map fun r=>(r,q2.2))=some (r,w'):=e
   cases e3:k q1.1 q2.1 with
   |none=>rw [e3]at e;cases e
   |some r0 =>
    rw [e3]at e
    cases e
    exact⟨A,B,t,w,q1.1,q2.1,_,_,R,e3,h,A,B,t,w,q1.1,q1.2,R,e1,fun x H1 c1 R1 v1=>⟨A,B,t,q1.2,q2.1,q2.2,R1,e2,fun y H2 c2 R2 v2=>⟨c1.trans c2,R2,v1.surv R c2,v2.early R1 c1⟩⟩⟩
theorem finW {A B:List Addr}{t:Th}{σ:L2.St}{H H2 H3:Hp}{w w':ρ.γ}{r:Ev}{z:V}{Q:VK} (R:RW ρ X.K F H A t σ p w B) (R2:RW ρ X.K F H2 A t σ p w' B) (c:Ch B H H2) (gs:Same H2 H3) (q:RepEv X.K (B++F) A (mixH B H H2) H3 r z)
  (h:∀v H',Ch B H H'→RW ρ X.K F H' A t σ p w' B→RepEv X.K (B++F) A H H' r v→Q v H'):Q z H3:=h z H3 (c.trans (Ch.of gs)) (R2.grow gs) (q.mixO R2)
theorem zh5 {op:Operator}{k:Ev→Ev→Option Ev} (ho:∀F',OpD X F' (binaryOp op) k) (ha:PE X a (wE ρ X.K F p fa)) (hb:PE X b (wE ρ X.K F p fb)):PE X (.BinOp a op b pos) (wE ρ X.K F p (eOp k fa fb)):=by
 intro pins s σ H Q I h
 obtain⟨A,B,t,w,r1,r2,r,w',R,e,h,k⟩:=twoW h
 refine wpAny_BinOp (bin ha hb I k fun v u s2 x y H2 I2 rx ry q=>?_)
 obtain⟨c,R2,q1,q2⟩:=q
 exact ho (B++F) pins s2 σ (mixH B H H2) H2 A x y v u Q r1 r2 r I2 (R.mixL R2) (zi9 c) rx ry (q1.mixI R) (q2.mixI R) e fun z H' g' q'=>finW R R2 c g' q' h
theorem pew_cmp {op:CmpOp}{k:Ev→Ev→Option Ev} (ho:∀F',OpD X F' (compareOp op) k) (ha:PE X a (wE ρ X.K F p fa)) (hb:PE X b (wE ρ X.K F p fb)) (hm:behindInMarks op b=false:=by first | exact zap5 _ | (with_unfolding_all rfl)) :
  PE X (.Compare a [op] [b] pos) (wE ρ X.K F p (eOp k fa fb)):=by
 intro pins s σ H Q I h
 obtain⟨A,B,t,w,r1,r2,r,w',R,e,h,k⟩:=twoW h
 refine wpAny_Compare1 (bin ha hb I k fun v u s2 x y H2 I2 rx ry q=>?_) hm
 obtain⟨c,R2,q1,q2⟩:=q
 exact ho (B++F) pins s2 σ (mixH B H H2) H2 A x y v u Q r1 r2 r I2 (R.mixL R2) (zi9 c) rx ry (q1.mixI R) (q2.mixI R) e fun z H' g' q'=>finW R R2 c g' q' h
theorem zab9 {op:CmpOp}{k:Ev→Ev→Option Ev} (ho:∀F',OpD X F' (compareOp op) k) (ha:PE X a (wE ρ X.K F p fa)) (hb:PE X b (wE ρ X.K F p fb)) (hm:behindInMarks op b=false:=by first | exact zap5 _ | (with_unfolding_all rfl)) :
  PT X (.Compare a [op] [b] pos) (wT ρ X.K F p (tBo (eOp k fa fb))):=by
 rintro pins s σ H Q I ⟨A0,B0,t0,w0,b',w0',R0,e0,h0⟩
 unfold tBo at e0
 cases e1:eOp k fa fb t0 w0 with
 |none=>rw [e1]at e0;cases e0
 |some q0 =>
  rw [e1]at e0
  have e0:(match q0.1.d with | .bl b=>some (b,q0.2) |_=>none)=some (b',w0'):=e0
  have w1:wE ρ X.K F p (eOp k fa fb) σ H (fun z H'=>Ch B0 H H'∧RW ρ X.K F H' A0 t0 σ p q0.2 B0∧Rep X.K H' q0.1.d z):=⟨A0,B0,t0,w0,q0.1,q0.2,R0,e1,fun v H' c R q=>⟨c,R,q.full⟩⟩
  obtain⟨A,B,t,w,r1,r2,r,w',R,e,h,k⟩:=twoW w1
  refine wpAny_isTrue_Compare1 (bin ha hb I k fun v u s2 x y H2 I2 rx ry q=>?_) hm
  obtain⟨c,R2,q1,q2⟩:=q
  refine thn (ho (B++F) pins s2 σ (mixH B H H2) H2 A x y v u (fun z H'=>Ch B0 H H'∧RW ρ X.K F H' A0 t0 σ p q0.2 B0∧Rep X.K H' q0.1.d z) r1 r2 r I2 (R.mixL R2) (zi9 c) rx ry (q1.mixI R) (q2.mixI R) e fun z H' g' q'=>finW R R2 c g' q' h) fun cc s3 ⟨z,H3,I3,r3,c3,R3,q3⟩=>?_
  split at e0
  ·rename_i b2 z2
   cases e0
   rw [z2]at q3
   cases q3
   cases r3
   exact wpAny_truthy_bool ⟨H3,I3,h0 H3 c3 R3⟩
  ·cases e0
theorem pww_one {op} (ha:PT X a (wT ρ X.K F p ft)):PW X (.BoolOp op [a] pos) (wT ρ X.K F p ft):=by
 cases op with
 |And=>exact zav2 ha
 |Or=>exact pw_or1 ha
theorem pww_or (ha:PT X a (wT ρ X.K F p ft)) (hb:PW X (.BoolOp .Or (b::rest) pos) (wT ρ X.K F p fu)):PW X (.BoolOp .Or (a::b::rest) pos) (wT ρ X.K F p (tOr ft fu)):=by
 refine PW.imp (pw_or ha hb) ?_
 rintro σ H Q ⟨A,B,t,w,r,w',R,e,h⟩
 unfold tOr at e
 cases e1:ft t w with
 |none=>rw [e1]at e;cases e
 |some q =>
  rw [e1]at e
  obtain⟨q1,q2⟩:=q
  refine⟨A,B,t,w,q1,q2,R,e1,fun H1 c1 R1=>?_⟩
  cases q1 with
  |true=>cases e;exact h H1 c1 R1
  |false=>exact⟨A,B,t,q2,r,w',R1,e,fun H2 c2 R2=>h H2 (c1.trans c2) R2⟩
theorem zc6:PA X [] (wA ρ X.K F p aNil):=PA.imp zl3 fun σ H Q ⟨A,B,t,w,rs,w',R,e,h⟩=>by cases e;exact h [] H Ch.refl R .nil
theorem za8 (ha:PE X a (wE ρ X.K F p fa)) (hr:PA X es (wA ρ X.K F p g)) (hs:zbe7 (a::es) X.env=(false,eval a X.env)::zbe7 es X.env:=by rfl):PA X (a::es) (wA ρ X.K F p (zb1 fa g)):=by
 refine PA.imp (zf7 ha hr hs) ?_
 rintro σ H Q ⟨A,B,t,w,rs,w',R,e,h⟩
 unfold zb1 at e
 cases e1:fa t w with
 |none=>rw [e1]at e;cases e
 |some q1 =>
  rw [e1]at e
  have e:((g t q1.2).bind fun q2=>some (q1.1::q2.1,q2.2))=some (rs,w'):=e
  cases e2:g t q1.2 with
  |none=>rw [e2]at e;cases e
  |some q2 =>
   rw [e2]at e
   cases e
   exact⟨A,B,t,w,q1.1,q1.2,R,e1,fun x H1 c1 R1 v1=>⟨A,B,t,q1.2,q2.1,q2.2,R1,e2,fun xs H2 c2 R2 v2=>h _ _ (c1.trans c2) R2 (.cons (v1.surv R c2) (v2.early R1 c1))⟩⟩
theorem oneW {k:List Ev→Option Ev}{σ:L2.St}{H:Hp}{Q:VK} (h:wE ρ X.K F p (eT1 k g) σ H Q):∃A B t w rs r w',RW ρ X.K F H A t σ p w B∧g t w=some (rs,w')∧k rs=some r ∧
  (∀v H',Ch B H H'→RW ρ X.K F H' A t σ p w' B→RepEv X.K (B++F) A H H' r v→Q v H'):=by
 obtain⟨A,B,t,w,r,w',R,e,h⟩:=h
 unfold eT1 at e
 cases e1:g t w with
 |none=>rw [e1]at e;cases e
 |some q1 =>
  rw [e1]at e
  have e:((k q1.1).map fun r=>(r,q1.2))=some (r,w'):=e
  cases e2:k q1.1 with
  |none=>rw [e2]at e;cases e
  |some r0 =>
   rw [e2]at e
   cases e
   exact⟨A,B,t,w,q1.1,_,_,R,e1,e2,h⟩
theorem PA.runW (ha:PA X es (wA ρ X.K F p g)) {k:List Ev→Option Ev}{f:Value} (hc:∀F',CallD X F' f k) {pins:List (Addr×Obj)}{s:zbe5}{σ:L2.St}{H:Hp}{Q:VK} (q:Pos) (I:Inv X pins σ H s) (h:wE ρ X.K F p (eT1 k g) σ H Q) :
  wpAny (model X.prog X.w) X.A (spliced (zbl0 q (zbe7 es X.env))) (fun us s1=>wpAny (model X.prog X.w) X.A (call f us) (EP X pins σ Q) X.xe s1) X.xe s:=by
 obtain⟨A,B,t,w,rs,r,w',R,e1,e,h⟩:=oneW h
 refine thn (ha q pins s σ H (fun vs H1=>Ch B H H1∧RW ρ X.K F H1 A t σ p w' B∧RepEvs X.K (B++F) A H H1 rs vs) I ⟨A,B,t,w,rs,w',R,e1,fun vs H1 c R1 q1=>⟨c,R1,q1⟩⟩) fun us s1 ⟨vs,H1,I1,r1,c,R1,q1⟩=>?_
 exact hc (B++F) pins s1 σ (mixH B H H1) H1 A vs us Q rs r I1 (R.mixL R1) (zi9 c) r1 (q1.mixI R) e fun z H' g' q'=>finW R R1 c g' q' h
theorem zaw4 {k:List Ev→Option Ev}{x:Str}{q:Pos}{id:String} (hc:∀F',CallD X F' (.builtin id) k) (hg:Gl X x) (hm:X.mg x=none) (hv:bootBuiltins x=some (.builtin id)) (ha:PA X (a::es) (wA ρ X.K F p g)) (hn:x≠"__name__":=by decide) (hdb:(x ==("__debug__":Str))=false:=by decide)
  (he:zbe7 (a::es) X.env=(false,eval a X.env)::zbe7 es X.env:=by rfl) (hpl:(zbl0 pos (zbe7 es X.env)).any (·.1)=false:=by rfl):PE X (.Call (.Name x q) (a::es) [] pos) (wE ρ X.K F p (eT1 k g)):=by
 intro pins s σ H Q I h
 refine wpAny_Call_Name_kw (zm4 I hg hm hv ?_ hn hdb)
 exact PyProof.Rows.callWith_builtin1 (PA.runW ha hc pos I h) he hpl
theorem zaw3 {k:List Ev→Option Ev}{x:Str}{q:Pos}{T:String} (hc:∀F',CallD X F' (.type T) k) (hg:Gl X x) (hm:X.mg x=none) (hv:bootBuiltins x=some (.type T)) (ha:PA X (a::es) (wA ρ X.K F p g)) (hn:x≠"__name__":=by decide) (hdb:(x ==("__debug__":Str))=false:=by decide)
  (he:zbe7 (a::es) X.env=(false,eval a X.env)::zbe7 es X.env:=by rfl) (hpl:(zbl0 pos (zbe7 es X.env)).any (·.1)=false:=by rfl):PE X (.Call (.Name x q) (a::es) [] pos) (wE ρ X.K F p (eT1 k g)):=by
 intro pins s σ H Q I h
 refine wpAny_Call_Name_kw (zm4 I hg hm hv ?_ hn hdb)
 exact PyProof.Rows.callWith_type1 (PA.runW ha hc pos I h) he hpl
theorem zac5 (ha:PA X es (wA ρ X.K F p g)):PE X (.List es pos) (wE ρ X.K F p (eT1 kLst g)):=by
 refine PE.imp (pe_lst ha) ?_
 intro σ H Q h
 obtain⟨A,B,t,w,rs,r,w',R,e1,e,h⟩:=oneW h
 unfold kLst at e
 split at e
 case isFalse=>cases e
 rename_i hl
 cases e
 refine⟨A,B,t,w,rs,w',R,e1,fun vs H1 c R1 q1=>⟨by rw [q1.length];exact zn0 (by lia),fun q hq=>?_⟩⟩
 have s1:=zd1 (o:=HO.lst vs) hq
 exact finW (r:=.nw (rs.map Ev.d)) R R1 c s1 ⟨q,vs,rfl,Same.free (zi9 c) hq,zb9,Reps.mono (zj0 hq) ((q1.mixI (H1:=H1) R).clean (R.mixL R1) (zi9 c) hl.2)⟩ h
theorem ixV {A:List Addr}{H0 H2:Hp}{x y:V}{Q:VK}{r1 r2 r:Ev} (m:Lists H0 (A++F)) (gs:Same H0 H2) (q1:RepEv X.K F A H0 H2 r1 x) (q2:RepEv X.K F A H0 H2 r2 y) (e:kIx r1 r2=some r) (h:∀v,RepEv X.K F A H0 H2 r v→Q v H2):rIxL X.K x y H2 Q∨rIxT X.K x y H2 Q:=by
 have p2:=q2.full
 have m2:=m.mono gs
 have key:∀(P:List Addr),Rep X.K (hide P H2) r1.d x→(∀d v,Rep X.K (hide P H2) d v→RepEv X.K F A H0 H2 (if r1.ok||flat d then Ev.cl d else Ev.tm d) v)→rIxL X.K x y H2 Q∨rIxT X.K x y H2 Q:=fun P hP fin=>by
  unfold kIx at e
  split at e
  ·rename_i ds i z1 z2
   rw [z2]at p2
   cases zd7 p2
   rw [z1]at hP
   cases hP with
   |@lst _ p vs h1 h2 =>
    cases e4:atI ds i with
    |none=>rw [e4]at e;cases e
    |some d =>
     rw [e4]at e
     have e:(if r1.ok||flat d then Ev.cl d else Ev.tm d)=r:=by simpa using e
     obtain⟨v,e5,rv⟩:=Reps.atI h2 e4
     exact .inl ⟨p,vs,i,v,rfl,rfl,SqL.mono (za9 _ _) h1,e5,h v (e ▸ fin d v rv)⟩
  ·rename_i ds i z1 z2
   rw [z2]at p2
   cases zd7 p2
   rw [z1]at hP
   cases hP with
   |@tup _ p vs h1 h2 =>
    cases e4:atI ds i with
    |none=>rw [e4]at e;cases e
    |some d =>
     rw [e4]at e
     have e:(if r1.ok||flat d then Ev.cl d else Ev.tm d)=r:=by simpa using e
     obtain⟨v,e5,rv⟩:=Reps.atI h2 e4
     exact .inr ⟨p,vs,i,v,rfl,rfl,SqT.mono (za9 _ _) h1,e5,h v (e ▸ fin d v rv)⟩
  ·cases e
 by_cases c:r1.ok=true
 ·refine key (A++F) (q1.clean m gs c) fun d v rv=>?_
  rw [c,zbm7,if_pos rfl]
  exact rv
 ·refine key F (q1.cleanF m) fun d v rv=>?_
  have c:r1.ok=false:=by simpa using c
  rw [c,zbl6]
  split
  ·rename_i f;exact Rep.hid m2 f (Rep.mono (za9 _ _) rv)
  ·exact rv
theorem zaf2 (ha:PE X a (wE ρ X.K F p fa)) (hb:PE X b (wE ρ X.K F p fb)) (hs:zae5 b:=by intro _ _;rfl):PE X (.Subscript a b pos) (wE ρ X.K F p (eOp kIx fa fb)):=by
 refine PE.imp (pe_ix (ix_list.or zaz6) ha hb hs) ?_
 rintro σ H Q h0
 obtain⟨A,B,t,w,r1,r2,r,w',R,e,h,k⟩:=twoW h0
 obtain⟨A1,B1,t1,w1,r11,w11,R1,e1,k1⟩:=k
 refine⟨A1,B1,t1,w1,r11,w11,R1,e1,fun x H1 c1 R1' q1=>?_⟩
 obtain⟨A2,B2,t2,w2,r22,w22,R2,e2',k2⟩:=k1 x H1 c1 R1' q1
 refine⟨A2,B2,t2,w2,r22,w22,R2,e2',fun y H2 c2 R2' q2=>?_⟩
 obtain⟨c,R3,v1,v2⟩:=k2 y H2 c2 R2' q2
 exact ixV (X:=X) (R.mixL R3) (zi9 c) (v1.mixI R) (v2.mixI R) e fun v q=>finW R R3 c (Same.refl _) q h
end
end DL
namespace DL
open PySem.Spec L2
inductive OW (γ:Type) where
 |nx (t:Th) (w:γ) |rt (r:Ev) (w:γ) |bk (t:Th) (w:γ) |ct (t:Th) (w:γ)
abbrev WS (ρ:Res):=Th→ρ.γ→Option (OW ρ.γ)
noncomputable def zar3 (ρ:Res) (K:zbd4) (F:List Addr) (p:Addr) (A B:List Addr) (H:Hp) (N:L2.St→Hp→Prop) (t:Th) (w:ρ.γ):Prop := ∀σ' H' A' B',Gr (A++B) H (A'++B') H'→RW ρ K F H' A' t σ' p w B'→N σ' H'
noncomputable def BackW (ρ:Res) (K:zbd4) (F:List Addr) (p:Addr) (A B:List Addr) (H:Hp) (N:VK) (r:Ev) (w:ρ.γ):Prop := ∀v H' A' B',Gr (A++B) H (A'++B') H'→ρ.rel K H' p w B'→B'.Nodup→(∀b∈B',b∉F)→RetEv K (B'++F) (A++B) H H' r v→N v H'
noncomputable def PostW (ρ:Res) (K:zbd4) (F:List Addr) (p:Addr) (A B:List Addr) (H:Hp) (E:Ends):OW ρ.γ→Prop
 |.nx t w=>zar3 ρ K F p A B H E.nx t w
 |.bk t w=>zar3 ρ K F p A B H E.bk t w
 |.ct t w=>zar3 ρ K F p A B H E.ct t w
 |.rt r w=>BackW ρ K F p A B H E.rt r w
noncomputable def wS (ρ:Res) (K:zbd4) (F:List Addr) (p:Addr) (g:WS ρ):TS:=fun E σ H => ∃A B t w o,RW ρ K F H A t σ p w B∧g t w=some o∧PostW ρ K F p A B H E o
theorem PostW.back {ρ:Res}{K:zbd4}{F:List Addr}{p:Addr}{A B A1 B1:List Addr}{H H1:Hp}{E:Ends}{o:OW ρ.γ} (h:PostW ρ K F p A B H E o) (g:Gr (A++B) H (A1++B1) H1):PostW ρ K F p A1 B1 H1 E o:=by
 cases o with
 |nx t w=>exact fun σ' H' A' B' g' R=>h σ' H' A' B' (g.trans g') R
 |bk t w=>exact fun σ' H' A' B' g' R=>h σ' H' A' B' (g.trans g') R
 |ct t w=>exact fun σ' H' A' B' g' R=>h σ' H' A' B' (g.trans g') R
 |rt r w=>exact fun v H' A' B' g' q n d R=>h v H' A' B' (g.trans g') q n d (R.back g)
section
variable {ρ:Res}{K:zbd4}{F A A' B B':List Addr}{H H' H1 H2:Hp}{t t':Th}{σ σ':L2.St}{p:Addr}{w w':ρ.γ}{r:Ev}{v:V}
theorem RW.grA (R:RW ρ K F H A t σ p w B) (g:Gr A H A' H'):Gr (A++B) H (A'++B) H' where
 kp:=fun b o n h=>g.kp b o (fun z=>n (zbd5 _ z)) h
 al:=fun b hb=>by
  rcases zbd8.mp hb with z | z
  ·exact g.al b z
  ·obtain⟨o,e⟩:=ρ.lists R.rel b z
   rw [g.kp b _ (R.notA z) e];simp
 nw:=fun b hb=>by
  rcases zbd8.mp hb with z | z
  ·exact (g.nw b z).imp (zbd5 _) id
  ·exact .inl (zbd3 _ z)
theorem RW.grB (c:Ch B H H') (R':RW ρ K F H' A t σ p w' B):Gr (A++B) H (A++B) H' where
 kp:=fun b o n h=>c b o (fun z=>n (zbd3 _ z)) h
 al:=fun b hb=>by
  rcases zbd8.mp hb with z | z
  ·obtain⟨o,e⟩:=R'.rs.mu b (zbd5 _ z)
   rw [e];simp
  ·exact R'.al z
 nw:=fun b hb=>.inl hb
theorem RetEv.weak (h:RetEv K F A H H' r v) (s:∀b∈A,b∈A'):RetEv K F A' H H' r v:=by
 cases r with
 |cl d=>exact h
 |tm d=>exact h
 |nw xs =>
  obtain⟨q,vs,rfl,h1,h2,h3,h4⟩:=h
  exact⟨q,vs,rfl,h1.imp (s q) id,h2,h3,h4⟩
 |dn d =>
  obtain⟨C,h0,h1,h2⟩:=h
  exact⟨C,h0,fun b hb=>⟨(h1 b hb).1.imp (s b) id,(h1 b hb).2⟩,h2⟩
theorem RW.put {i:Nat} (R:RW ρ K F H A t σ p w B) (c:Ch B H H') (R':RW ρ K F H' A t σ p w' B) (q:RepEv K (B++F) A H H' r v) (e:zl7 t i r=some t') :
  ∃A',Gr (A++B) H (A'++B) H'∧RW ρ K F H' A' t' (σ.set i (some v)) p w' B:=by
 obtain⟨A',g,RR⟩:=(R.mixR R').put (zi9 c) (q.mixI (H1:=H') R) e
 refine⟨A',⟨fun b o n h=>c b o (fun z=>n (zbd3 _ z)) h,fun b hb=>?_,fun b hb=>?_⟩,RR,R'.rel,R'.nd,R'.dj⟩
 ·rcases zbd8.mp hb with z | z
  ·exact g.al b z
  ·exact R'.al z
 ·rcases zbd8.mp hb with z | z
  ·rcases g.nw b z with y | y
   ·exact .inl (zbd5 _ y)
   ·by_cases x:b∈B
    ·exact .inl (zbd3 _ x)
    ·rw [zm0 x]at y
     exact .inr y
  ·exact .inl (zbd3 _ z)
end
def oL {γ:Type} (w:γ):Out→OW γ
 |.nx t=>.nx t w
 |.rt r=>.rt r w
 |.bk t=>.bk t w
 |.ct t=>.ct t w
def sLf (ρ:Res) (g:DS):WS ρ:=fun t w=>(g t).map (oL w)
def zv7 {ρ:Res}:WS ρ:=fun t w=>some (.nx t w)
noncomputable def sSeq {ρ:Res} (g1 g2:WS ρ):WS ρ:=fun t w=>(g1 t w).bind fun o=>match o with
 |.nx t' w'=>g2 t' w'
 |.rt r w'=>some (.rt r w')
 |.bk t' w'=>some (.bk t' w')
 |.ct t' w'=>some (.ct t' w')
def sIf {ρ:Res} (c:WT ρ) (g1 g2:WS ρ):WS ρ:=fun t w=>(c t w).bind fun q=>if q.1 then g1 t q.2 else g2 t q.2
def sRet {ρ:Res} (f:WE ρ):WS ρ:=fun t w=>(f t w).map fun q=>.rt q.1 q.2
def sAsg {ρ:Res} (i:Nat) (f:WE ρ):WS ρ:=fun t w=>(f t w).bind fun q=>(zl7 t i q.1).map fun t'=>.nx t' q.2
noncomputable def forW {ρ:Res} (k:D→Th→Option Th) (body:WS ρ):List D→Th→ρ.γ→Option (OW ρ.γ)
 |[],t,w=>some (.nx t w)
 |d::ds,t,w=>(k d t).bind fun t1=>(body t1 w).bind fun o=>match o with
  |.nx t' w'=>forW k body ds t' w'
  |.ct t' w'=>forW k body ds t' w'
  |.bk t' w'=>some (.nx t' w')
  |.rt r w'=>some (.rt r w')
section
variable {ρ:Res}{X:Cx}{F:List Addr}{p:Addr}{a b c:Expr}{es rest:List Expr}{fa fb fc:WE ρ}{g g1 g2:WS ρ}{ft fu:WT ρ}{pos:Pos}{st:Stmt}{sts:List Stmt}{tg:Expr}{gt:TG}{kt:D→Th→Option Th}
theorem ze7 {f:DS} (h:∀F',PS X st (dS X.K F' f)):PS X st (wS ρ X.K F p (sLf ρ f)):=by
 rintro pins s σ H E I ⟨A,B,t,w,o,R,e,k⟩
 unfold sLf at e
 cases e1:f t with
 |none=>rw [e1]at e;cases e
 |some o1 =>
  rw [e1]at e
  have e:oL w o1=o:=by simpa using e
  subst e
  refine h (B++F) pins s σ H E I (zbb3 R.rs e1 ?_)
  cases o1 with
  |nx t'=>exact fun σ' H' A' g' R'=>k σ' H' A' B (R.grA g') (R.step g' R')
  |bk t'=>exact fun σ' H' A' g' R'=>k σ' H' A' B (R.grA g') (R.step g' R')
  |ct t'=>exact fun σ' H' A' g' R'=>k σ' H' A' B (R.grA g') (R.step g' R')
  |rt r =>
   refine fun v H' A' g' q=>k v H' A' B (R.grA g') (ρ.mono R.rel fun b o h y=>g'.kp b o (fun z=>?_) h) R.nd R.dj (q.weak fun b hb=>zbd5 _ hb)
   rcases y with y | y
   ·obtain⟨⟨u,m⟩,e⟩:=R.rs.mu b (zbd5 _ z)
    have m:mutO u=true:=m
    rw [h]at e;cases e
    rw [y]at m;cases m
   ·exact R.notA y z
theorem zp4:PSs X [] (wS ρ X.K F p zv7):=by
 refine PSs.imp zav7 ?_
 rintro E σ H ⟨A,B,t,w,o,R,e,h⟩
 cases e
 refine h σ H A B (Gr.refl fun b hb=>?_) R
 rcases zbd8.mp hb with z | z
 ·exact R.rs.mu b (zbd5 _ z)
 ·exact ρ.lists R.rel b z
theorem zc0 (h1:PS X st (wS ρ X.K F p g1)) (h2:PSs X sts (wS ρ X.K F p g2)):PSs X (st::sts) (wS ρ X.K F p (sSeq g1 g2)):=by
 refine PSs.imp (zao7 h1 h2) ?_
 rintro E σ H ⟨A,B,t,w,o,R,e,h⟩
 unfold sSeq at e
 cases e1:g1 t w with
 |none=>rw [e1]at e;cases e
 |some o1 =>
  rw [e1]at e
  refine⟨A,B,t,w,o1,R,e1,?_⟩
  cases o1 with
  |nx t' w'=>exact fun σ' H' A' B' g' R'=>⟨A',B',t',w',o,R',e,h.back g'⟩
  |rt r w'=>cases e;exact h
  |bk t2 w'=>cases e;exact h
  |ct t2 w'=>cases e;exact h
theorem zf6 (h1:PS X st (wS ρ X.K F p g1)):PSs X [st] (wS ρ X.K F p g1):=zav6 h1
theorem zw3 {s1 s2:List Stmt} (hc:PT X c (wT ρ X.K F p ft)) (ha:PSs X s1 (wS ρ X.K F p g1)) (hb:PSs X s2 (wS ρ X.K F p g2)):PS X (.If c s1 s2 pos) (wS ρ X.K F p (sIf ft g1 g2)):=by
 refine PS.imp (ps_if hc ha hb) ?_
 rintro E σ H ⟨A,B,t,w,o,R,e,h⟩
 unfold sIf at e
 cases e1:ft t w with
 |none=>rw [e1]at e;cases e
 |some q =>
  rw [e1]at e
  obtain⟨r1,w1⟩:=q
  refine⟨A,B,t,w,r1,w1,R,e1,fun H1 c1 R1=>?_⟩
  cases r1 with
  |true=>exact⟨A,B,t,w1,o,R1,e,h.back (RW.grB c1 R1)⟩
  |false=>exact⟨A,B,t,w1,o,R1,e,h.back (RW.grB c1 R1)⟩
theorem zp3 (ha:PE X a (wE ρ X.K F p fa)):PS X (.Return (some a) pos) (wS ρ X.K F p (sRet fa)):=by
 refine PS.imp (zav9 ha) ?_
 rintro E σ H ⟨A,B,t,w,o,R,e,h⟩
 unfold sRet at e
 cases e1:fa t w with
 |none=>rw [e1]at e;cases e
 |some q =>
  rw [e1]at e
  cases e
  exact⟨A,B,t,w,q.1,q.2,R,e1,fun v H' c R' y=>h v H' A B (RW.grB c R') R'.rel R'.nd R'.dj ((RetEv.of R.rs.mu y).weak fun b hb=>zbd5 _ hb)⟩
theorem zh6 {i:Nat}{x:Str}{pos':Pos} (hN:X.N.Nodup) (hi:X.N[i]?=some x) (hx:Loc X.env.scope x) (he:PE X a (wE ρ X.K F p fa)) (hs:swapsWith a (some (.Name x pos')) pos.line X.env=pure false:=by rfl) (hf:X.fn x=true∨X.env.scope.names.lookup x=some .local:=by first | exact .inl rfl | exact .inr rfl | assumption) :
  PS X (.Assign [.Name x pos'] a pos) (wS ρ X.K F p (sAsg i fa)):=by
 refine PS.imp (ps_set hN hi hx he hs hf) ?_
 rintro E σ H ⟨A,B,t,w,o,R,e,h⟩
 unfold sAsg at e
 cases e1:fa t w with
 |none=>rw [e1]at e;cases e
 |some q =>
  rw [e1]at e
  have e:((zl7 t i q.1).map fun t'=>OW.nx t' q.2)=some o:=e
  cases e2:zl7 t i q.1 with
  |none=>rw [e2]at e;cases e
  |some t' =>
   rw [e2]at e
   cases e
   refine⟨A,B,t,w,q.1,q.2,R,e1,fun v H' c R' y=>?_⟩
   obtain⟨A',g',RR⟩:=R.put c R' y e2
   exact h _ _ _ _ g' RR
theorem zba2 {K:zbd4}{J:It}{ds:List D}{E:Ends}{σ:L2.St}{H:Hp}{A B:List Addr}{t:Th}{w:ρ.γ}{o:OW ρ.γ}{Good:List Addr→Hp→Prop} (S:Src K ds J Good) (ht:∀F',TgOk K F' gt kt) (R:RW ρ K F H A t σ p w B) (e:forW kt g ds t w=some o) (h:PostW ρ K F p A B H E o) (g0:Good (A++(B++F)) H) :
  ∃W:Nat→Nat→L2.St→Hp→Prop,(∃m,W 0 m σ H)∧∀i m σ H,W i m σ H →
   (J.stop i H∧E.nx σ H)∨(J.go i H∧∃N:L2.St→Hp→Prop,(∀σ' H',N σ' H'→∃m',m' < m∧W (i+1) m' σ' H')∧∀x H',J.yld i H x H'→gt x σ H' fun σ2 H2=>wS ρ K F p g { E with nx:=N,ct:=N,bk:=E.nx } σ2 H2):=by
 have same:∀ {A B A' B':List Addr}{H H':Hp},Gr (A++B) H (A'++B') H'→Same (hide (A++(B++F)) H) (hide (A'++(B'++F)) H'):=fun {A B A' B' H H'} g=>by
  have:=g.same (F:=F)
  rwa [zbj7,zbj7]at this
 refine⟨fun i m σ H=>i+m=ds.length∧∃A B t w o,forW kt g (ds.drop i) t w=some o∧RW ρ K F H A t σ p w B∧PostW ρ K F p A B H E o∧Good (A++(B++F)) H,⟨ds.length,by lia,A,B,t,w,o,by simpa using e,R,h,g0⟩,?_⟩
 rintro i m σ H ⟨hm,A,B,t,w,o,e,R,h,gd⟩
 cases m with
 |zero =>
  have z:i=ds.length:=by lia
  subst z
  rw [zbk1]at e
  cases e
  refine .inl ⟨S.stop _ _ gd,h σ H A B (Gr.refl fun b hb=>?_) R⟩
  rcases zbd8.mp hb with z | z
  ·exact R.rs.mu b (zbd5 _ z)
  ·exact ρ.lists R.rel b z
 |succ m =>
  have hi:i<ds.length:=by lia
  refine .inr ⟨S.go _ _ i gd hi,fun σ' H'=>i+1+m=ds.length∧∃A B t w o,forW kt g (ds.drop (i+1)) t w=some o∧RW ρ K F H' A t σ' p w B∧PostW ρ K F p A B H' E o∧Good (A++(B++F)) H',fun σ' H' q=>⟨m,zbi6 m,q⟩,fun x H' y=>?_⟩
  obtain⟨gs,d,hd,rd⟩:=S.yld _ _ i x H' gd R.rs.mu y hi
  have ed:ds.drop i=d::ds.drop (i+1):=by
   have hd':ds[i]=d:=by
    rw [zbe1 hi]at hd
    exact Option.some.inj hd
   rw [← hd']
   exact zbg9 hi
  rw [ed]at e
  simp only [forW]at e
  cases e1:kt d t with
  |none=>rw [e1]at e;cases e
  |some t1 =>
   rw [e1]at e
   have R0:=R.grow gs
   refine ht (B++F) σ H' A t t1 d x _ R0.rs rd e1 fun σ2 A2 gr3 R2=>?_
   have RW2:=R0.step gr3 R2
   have gr2:Gr (A++B) H (A2++B) H':=(RW.grB (Ch.of gs) R0).trans (R0.grA gr3)
   have e:((g t1 w).bind fun o=>match o with
     |.nx t' w'=>forW kt g (ds.drop (i+1)) t' w'
     |.ct t' w'=>forW kt g (ds.drop (i+1)) t' w'
     |.bk t' w'=>some (.nx t' w')
     |.rt r w'=>some (.rt r w'))=some o:=e
   cases e2:g t1 w with
   |none=>rw [e2]at e;cases e
   |some o2 =>
    rw [e2]at e
    refine⟨A2,B,t1,w,o2,RW2,e2,?_⟩
    cases o2 with
    |nx t' w'=>exact fun σ' H' A' B' g' R'=>⟨by lia,A',B',t',w',o,e,R',h.back (gr2.trans g'),S.keep _ _ _ _ gd (same (gr2.trans g'))⟩
    |ct t' w'=>exact fun σ' H' A' B' g' R'=>⟨by lia,A',B',t',w',o,e,R',h.back (gr2.trans g'),S.keep _ _ _ _ gd (same (gr2.trans g'))⟩
    |bk t' w'=>cases e;exact fun σ' H' A' B' g' R'=>h σ' H' A' B' (gr2.trans g') R'
    |rt r w'=>cases e;exact PostW.back (o:=.rt r w') h gr2
end
end DL
namespace DL
open PySem.Spec L2
def zae8 (N:List Str) (p:Addr) (ds:List D):Th:=.val (.adr p) ::(ds.map Sl.val++zbe8 (N.length - 1 - ds.length) Sl.no)
def outW {γ:Type}:OW γ→Option (Ev×γ)
 |.rt r w=>some (r,w)
 |.nx _ w=>some (.cl .non,w)
 |_=>none
def runW {ρ:Res} (N:List Str) (g:Addr→WS ρ) (p:Addr) (w:ρ.γ) (ds:List D):Option (Ev×ρ.γ):=(g p (zae8 N p ds) w).bind outW
open Classical in
noncomputable def mkW {ρ:Res} (k:Nat) (N:List Str) (g:Addr→WS ρ):ρ.γ→List D→Option (Ev×ρ.γ):=fun w ds =>
 if ds.length+1=k then (if h:∃o,∀p,runW N g p w ds=some o then some h.choose else none) else none
theorem mkW_of {ρ:Res}{k:Nat}{N:List Str}{g:Addr→WS ρ}{w:ρ.γ}{ds:List D}{o:Ev×ρ.γ} (hl:ds.length+1=k) (h:∀p,runW N g p w ds=some o):mkW k N g w ds=some o:=by
 unfold mkW
 have hx:∃o,∀p,runW N g p w ds=some o:=⟨o,h⟩
 rw [if_pos hl,dif_pos hx]
 have:=hx.choose_spec 0
 rw [h 0]at this
 exact this.symm
theorem zax8 {ρ:Res}{k:Nat}{N:List Str}{g:Addr→WS ρ}{w:ρ.γ}{ds:List D}{o:Ev×ρ.γ} (h:mkW k N g w ds=some o):ds.length+1=k∧∀p,runW N g p w ds=some o:=by
 unfold mkW at h
 split at h
 case isFalse=>cases h
 rename_i hl
 split at h
 case isFalse=>cases h
 rename_i hx
 cases h
 exact⟨hl,hx.choose_spec⟩
noncomputable def spX (ρ:Res) (K:zbd4) (G:ρ.γ→List D→Option (Ev×ρ.γ)):Sp:=fun vs H Q _ => ∃(Fo:List Addr) (p:Addr) (B:List Addr) (w:ρ.γ) (ds:List D) (r:Ev) (w':ρ.γ) (vs':List V),vs=.ref p::vs'∧Lists H (B++Fo)∧B.Nodup∧(∀b∈B,b∉Fo)∧ρ.rel K H p w B ∧
 Reps K (hide (B++Fo) H) ds vs'∧G w ds=some (r,w')∧∀v H',Ch B H H'→ρ.rel K H' p w' B→RepEv K (B++Fo) [] H H' r v→Q v H'
def Fixed (ρ:Res):Prop := ∀ {K:zbd4}{H H':Hp}{p:Addr}{w w':ρ.γ}{B B':List Addr},ρ.rel K H p w B→ρ.rel K H' p w' B'→B'=B
theorem zq0 {ρ:Res} (fx:Fixed ρ) {P:Program}{w:World}{K:zbd4}{mg:Str→Option Value}{base:BHeap}{x qual:Str}{st:Stmt}{f:Addr}{fd:FuncData}{N ps:List Str}{k m:Nat} (Fn:L2.Fun K x qual st f fd) (S:FnScope N ps (zb4 st)) (hm:ps.length=m) (g:Addr→WS ρ)
  (hbody:∀(cdv:Value) (A:Around) (outer:List Env) (s:zbe5) (H:Hp) (E:XK) (F:List Addr) (p:Addr),Room k (A.deeper (envOfC qual (zb4 st) s.heap.objs.size f cdv)) →
   PSs (cxOf CX0 P w K mg base N qual (zb4 st) f cdv A outer s H E).nox (zh3 st) (wS ρ K F p (g p))):FnOk P w K mg base CX0 (k+1) f fd ps (spX ρ K (mkW m N g)):=by
 refine Fn.ok S (fun vs H Q E h=>?_) (fun cdv A outer s H vs Q E hr h=>?_)
 ·obtain⟨Fo,p,B,w,ds,r,w',vs',rfl,_,_,_,_,h2,hg,_⟩:=h
  have:=(zax8 hg).1
  rw [zbf3,h2.length,hm];exact this
 ·obtain⟨Fo,p,B,w,ds,r,w',vs',rfl,hl,nd,dj,rel,h2,hg,cont⟩:=h
  have hrun:=(zax8 hg).2 p
  unfold runW at hrun
  cases ho:g p (zae8 N p ds) w with
  |none=>rw [ho]at hrun;cases hrun
  |some o =>
   rw [ho]at hrun
   have hrun:outW o=some (r,w'):=hrun
   refine⟨_,hbody cdv A outer s H E Fo p hr,[],B,zae8 N p ds,w,o,⟨⟨hl,zbj1,fun q hq=>(by cases hq),?_⟩,rel,nd,dj⟩,ho,?_⟩
   ·unfold zae8 L2.start
    simp only [zbf4,List.cons_append,zbf3,h2.length]
    refine .val (.adr p) ?_
    have:=RSl.start (K:=K) (H0:=hide ([]++(B++Fo)) H) (H:=H) (RSl.no_all (N.length - (ds.length+1))) h2
    have e:N.length - 1 - ds.length=N.length - (ds.length+1):=by lia
    rw [e]
    exact this
   ·have ch:∀ {A' B' H'},Gr ([]++B) H (A'++B') H'→Ch B H H':=fun g b o n q=>g.kp b o n q
    cases o with
    |nx t' w1 =>
     cases hrun
     exact fun σ' H' A' B' g' R'=>cont .non H' (ch g') (fx rel R'.rel ▸ R'.rel) .non
    |bk t' w1=>cases hrun
    |ct t' w1=>cases hrun
    |rt r' w1 =>
     cases hrun
     intro v H' A' B' g' q n d y
     have eB:=fx rel q
     subst eB
     refine cont v H' (ch g') q ?_
     have fr:∀ {b:Addr},(b∈[]++B'∨H b=none)→b∉B'++Fo→H b=none:=fun h n=>by
      rcases h with h | h
      ·exact absurd (zbd5 _ h) n
      ·exact h
     cases r with
     |cl d=>exact y
     |tm d=>exact y
     |nw xs =>
      obtain⟨q,vs',rfl,h1,h2,h3,h4⟩:=y
      exact⟨q,vs',rfl,fr h1 h2,h3,h4⟩
     |dn d =>
      obtain⟨C,h1,h2,h3⟩:=y
      exact⟨C,h1,fun b hb=>fr (h2 b hb).1 (h2 b hb).2,h3⟩
structure CalX (ρ:Res) (P:Program) (w:World) (K:zbd4) (mg:Str→Option Value) (base:BHeap) (x:Str) (k:Nat) (G:ρ.γ→List D→Option (Ev×ρ.γ)):Prop where
 ex:∃(a:Addr) (fd:FuncData) (ps:List Str),mg x=some (.ref a)∧zbh6 K (.ref a)=true∧L2.Binds K fd ps []∧FnOk P w K mg base CX0 k a fd ps (spX ρ K G)
theorem Df.calX {ρ:Res}{P:Program}{w:World}{K:zbd4}{mg:Str→Option Value}{base:BHeap}{x:Str}{st:Stmt}{ps:List Str}{a:Addr}{fd:FuncData}{k:Nat}{G:ρ.γ→List D→Option (Ev×ρ.γ)} (d:Df K mg x st ps a fd) (h:FnOk P w K mg base CX0 k a fd ps (spX ρ K G)):CalX ρ P w K mg base x k G :=
 ⟨a,fd,ps,d.mgx,d.fn.kp,d.bd,h⟩
noncomputable def eX {ρ:Res} (p:Addr) (G:ρ.γ→List D→Option (Ev×ρ.γ)) (ga:WA ρ):WE ρ:=fun t w=>(ga t w).bind fun q=>match q.1 with
 |.cl (.adr q0)::rs=>if q0=p then (G q.2 (rs.map Ev.d)).map fun z=>(upEv (rs.all Ev.ok) z.1,z.2) else none
 |_=>none
theorem up_of {K:zbd4}{F A B:List Addr}{H H1 H':Hp}{r:Ev}{v:V}{ok:Bool} (m1:Lists H1 (A++(B++F))) (m':Lists H' (A++(B++F))) (fr:∀b,H1 b=none→H b=none) (w:RepEv K (B++(if ok then A++F else F)) [] H1 H' r v):RepEv K (B++F) A H H' (upEv ok r) v:=by
 cases ok with
 |true =>
  have le:∀P:List Addr,Same (hide (P++([]++(B++(A++F)))) H') (hide (P++(A++(B++F))) H'):=fun P=>zb2 H' fun b hb=>by
   simp only [zbd8,zbk2,false_or]at hb ⊢
   rcases hb with z | z | z | z<;>simp [z]
  cases r with
  |cl d=>exact Rep.mono (le []) w
  |tm d =>
   refine Rep.mono (zb2 H' fun b hb=>?_) w
   simp only [zbd8,if_true]at hb ⊢
   rcases hb with z | z | z<;>simp [z]
  |nw xs =>
   obtain⟨q,us,rfl,h1,h2,h3⟩:=w
   exact⟨q,us,rfl,fr _ h1,h2,Reps.mono (le [q]) h3⟩
  |dn d =>
   obtain⟨C,h1,h2,h3⟩:=w
   exact⟨C,h1,fun b hb=>fr _ (h2 b hb),RepD.mono (le C) h3 fun _ _ _ q=>q⟩
 |false =>
  cases r with
  |cl d =>
   show RepEv K (B++F) A H H' (if flat d then .cl d else .tm d) v
   split
   ·rename_i f;exact Rep.hid m' f (Rep.mono (za9 _ _) w)
   ·exact w
  |tm d =>
   show RepEv K (B++F) A H H' (if flat d then .cl d else .tm d) v
   split
   ·rename_i f;exact Rep.hid m' f (Rep.mono (za9 _ _) w)
   ·exact w
  |nw xs =>
   obtain⟨q,us,rfl,h1,h2,h3⟩:=w
   have np:q∉A++(B++F):=zd2 m1 h1
   show RepEv K (B++F) A H H' (if flats xs then .nw xs else .tm (.lst xs)) _
   split
   ·rename_i f
    refine⟨q,us,rfl,fr _ h1,h2,Reps.hid (P:=q ::(A++(B++F))) (fun b hb=>?_) f (Reps.mono (za9 _ _) h3)⟩
    rcases zbe3.mp hb with rfl | hb
    ·exact⟨mL us,h2⟩
    ·exact m' b hb
   ·exact .lst (SqL.of (zc2 h2 fun z=>np (zbd3 _ z))) (Reps.mono (zb2 H' fun b z=>zbd6 _ z) h3)
  |dn d =>
   obtain⟨C,h1,h2,h3⟩:=w
   exact⟨C,h1,fun b hb=>fr _ (h2 b hb),h3.hid (h3.lists.app m') (za9 _ _)⟩
section
variable {ρ:Res}{X:Cx}{F:List Addr}{p:Addr}{a b c:Expr}{es rest:List Expr}{fa fb fc:WE ρ}{ga:WA ρ}{pos:Pos}{st:Stmt}{sts:List Stmt}
theorem zb7 {k:Nat}{G:ρ.γ→List D→Option (Ev×ρ.γ)}{x:Str}{q:Pos} (c:CalX ρ X.prog X.w X.K X.mg X.base x k G) (hr:Room k X.A) (ha:PA X (a::es) (wA ρ X.K F p ga)) (hg:Gl X x:=by rfl) (hdb:(x ==("__debug__":Str))=false:=by decide)
  (he:zbe7 (a::es) X.env=(false,eval a X.env)::zbe7 es X.env:=by rfl) (hpl:(zbl0 pos (zbe7 es X.env)).any (·.1)=false:=by rfl):PE X (.Call (.Name x q) (a::es) [] pos) (wE ρ X.K F p (eX p G ga)):=by
 obtain⟨f,fd,ps,h1,h2,h3,h4⟩:=c.ex
 refine PE.imp (zac6 h4 hr hg h1 h2 h3 .nil (E:=E0) pass0 ha hdb he hpl) ?_
 rintro σ H Q ⟨A,B,t,w,r,w',R,e,h⟩
 unfold eX at e
 cases e1:ga t w with
 |none=>rw [e1]at e;cases e
 |some q1 =>
  rw [e1]at e
  obtain⟨rs0,w1⟩:=q1
  refine⟨A,B,t,w,rs0,w1,R,e1,fun vs H1 c R1 y=>?_⟩
  show spX ρ X.K G (vs++[]) H1 Q E0
  rw [zbi4]
  simp only [zbd9]at e
  split at e
  case h_2=>cases e
  rename_i q0 rs
  split at e
  case isFalse=>cases e
  rename_i eq0
  subst eq0
  cases y with
  |@cons _ v0 _ vs' y1 y2 =>
   have y1:Rep X.K (hide (A++(B++F)) H1) (.adr q0) v0:=y1
   cases y1
   cases e2:G w1 (rs.map Ev.d) with
   |none=>rw [e2]at e;cases e
   |some z =>
    rw [e2]at e
    obtain⟨r0,w0⟩:=z
    have e:some (upEv (rs.all Ev.ok) r0,w0)=some (r,w'):=e
    cases e
    have fr:∀b,H1 b=none→H b=none:=fun b e=>by
     cases z:H b with
     |none=>rfl
     |some o =>
      by_cases y:b∈B
      ·exact absurd e (R1.al y)
      ·rw [c b o y z]at e;cases e
    refine⟨if rs.all Ev.ok then A++F else F,q0,B,w1,rs.map Ev.d,r0,w',vs',rfl,fun b hb=>?_,R1.nd,fun b hb z=>?_,R1.rel,?_,e2,fun v H' c' rel' w2=>?_⟩
    ·refine R1.rs.mu b ?_
     split at hb<;>simp only [zbd8]at hb ⊢
     ·rcases hb with z | z | z<;>simp [z]
     ·rcases hb with z | z<;>simp [z]
    ·split at z
     ·rcases zbd8.mp z with z | z
      ·exact R1.notA hb z
      ·exact R1.dj b hb z
     ·exact R1.dj b hb z
    ·by_cases ok:rs.all Ev.ok=true
     ·rw [if_pos ok]
      refine Reps.mono (zb2 H1 fun b hb=>?_) ((y2.mixI (H1:=H1) R).clean (R.mixL R1) (zi9 c) ok)
      simp only [zbd8]at hb ⊢
      rcases hb with z | z | z<;>simp [z]
     ·rw [if_neg ok]
      exact (y2.mixI (H1:=H1) R).cleanF (R.mixL R1)
    ·have R2:=R1.chg c' rel'
     exact h v H' (c.trans c') R2 (up_of R1.rs.mu R2.rs.mu fr w2)
end
noncomputable def za1:Res where
 γ:=Int×Int
 rel:=fun K H p w B=>B=[p]∧H p=some (.lst [.int w.1,.int w.2])
 mono:=fun {K H H' p w B} ⟨e,h⟩ k=>⟨e,k p _ h (.inr (by rw [e];exact zbe2.mpr rfl))⟩
 lists:=fun {K H p w B} ⟨e,h⟩ b hb=>by
  subst e
  rw [zbe2.mp hb]
  exact⟨mL _,h⟩
theorem zak4:Fixed za1:=fun {K H H' p w w' B B'} h h'=>h'.1.trans h.1.symm
noncomputable def ePg (p:Addr) (i:Nat) (k:Int):WE za1:=fun t w=>match t[i]? with
 |some (.val (.adr q))=>if q=p then (if k=0 then some (.cl (.int w.1),w) else if k=1 then some (.cl (.int w.2),w) else none) else none
 |_=>none
noncomputable def sPs (p:Addr) (i:Nat) (k:Int) (f:WE za1):WS za1:=fun t w=>(f t w).bind fun q=>match t[i]?,q.1.d with
 |some (.val (.adr q0)),.int n=>if q0=p then (if k=0 then some (.nx t (n,q.2.2)) else if k=1 then some (.nx t (q.2.1,n)) else none) else none
 |_,_=>none
section
variable {X:Cx}{F:List Addr}{p:Addr}{a b c:Expr}{es rest:List Expr}{fa fb fc:WE za1}{ga:WA za1}{pos:Pos}{st:Stmt}{sts:List Stmt}
theorem zz6 (i:Nat) {x:Str}{k:Int}{j:Nat}{p1 p2:Pos} (hN:X.N[i]?=some x:=by rfl) (hv:Vis X.env.scope x:=by first | exact Or.inl rfl | exact Or.inr (Or.inl rfl) |exact Or.inr (Or.inr rfl)) (hd:(x ==("__debug__":Str))=false:=by decide)
  (hcd:(x ==("__classdict__":Str))=false:=by decide) (hs:zae5 (.Constant (.int k) j p2):=by intro _ _;rfl):PE X (.Subscript (.Name x p1) (.Constant (.int k) j p2) pos) (wE za1 X.K F p (ePg p i k)):=by
 refine PE.imp (pe_ix (ix_list.or zaz6) (zz7 (i:=i) hN hv hd hcd) zaw9 hs) ?_
 rintro σ H Q ⟨A,B,t,w,r,w',R,e,h⟩
 unfold ePg at e
 split at e
 case h_2=>cases e
 rename_i q z
 split at e
 case isFalse=>cases e
 rename_i eq0
 subst eq0
 obtain⟨v,h1,h2⟩:=R.rs.rel.getVal z
 cases h2
 have hp:=R.rel.2
 refine⟨_,h1,.inl ?_⟩
 by_cases k0:k=0
 ·subst k0
  rw [if_pos rfl]at e
  cases e
  exact⟨q,_,0,.int w.1,rfl,rfl,SqL.of hp,rfl,h _ H Ch.refl R (.int _)⟩
 ·rw [if_neg k0]at e
  by_cases k1:k=1
  ·subst k1
   rw [if_pos rfl]at e
   cases e
   exact⟨q,_,1,.int w.2,rfl,rfl,SqL.of hp,rfl,h _ H Ch.refl R (.int _)⟩
  ·rw [if_neg k1]at e;cases e
theorem psw_ps (i:Nat) {x:Str}{k:Int}{j:Nat}{p0 p2 tpos:Pos} (he:PE X a (wE za1 X.K F p fa)) (hN:X.N[i]?=some x:=by rfl) (hv:Vis X.env.scope x:=by first | exact Or.inl rfl | exact Or.inr (Or.inl rfl) |exact Or.inr (Or.inr rfl)) (hd:(x ==("__debug__":Str))=false:=by decide)
  (hcd:(x ==("__classdict__":Str))=false:=by decide)
  (ha:∀v,assign (.Subscript (.Name x p0) (.Constant (.int k) j p2) tpos) X.env v=(do
   let ov ← holding [v] (eval (.Name x p0) X.env)
   let iv ← holding [v,ov] (eval (.Constant (.int k) j p2) X.env)
   standAt tpos
   holding [v,ov,iv] (setItem ov iv v)
   release [v,ov,iv] []):=by intro _;rfl)
  (hs:swapsWithSole [.Subscript (.Name x p0) (.Constant (.int k) j p2) tpos] a pos.line X.env=pure false:=by rfl) (hw:swappedStores [.Subscript (.Name x p0) (.Constant (.int k) j p2) tpos] a X.env=pure none:=by rfl)
  (h1:(assignEach [.Subscript (.Name x p0) (.Constant (.int k) j p2) tpos] X.env).map (·.2)=[assign (.Subscript (.Name x p0) (.Constant (.int k) j p2) tpos) X.env]:=by rfl) :
  PS X (.Assign [.Subscript (.Name x p0) (.Constant (.int k) j p2) tpos] a pos) (wS za1 X.K F p (sPs p i k fa)):=by
 refine PS.imp (ps_asg he (pg_sub (zz7 (i:=i) hN hv hd hcd) zaw9 set_list ha) hs hw h1) ?_
 rintro E σ H ⟨A,B,t,w,o,R,e,h⟩
 unfold sPs at e
 cases e1:fa t w with
 |none=>rw [e1]at e;cases e
 |some q1 =>
  rw [e1]at e
  obtain⟨r1,w1⟩:=q1
  simp only [zbd9]at e
  split at e
  case h_2=>cases e
  rename_i q0 n z1 z2
  split at e
  case isFalse=>cases e
  rename_i eq0
  subst eq0
  refine⟨A,B,t,w,r1,w1,R,e1,fun v H1 c R1 y=>?_⟩
  obtain⟨u,s1,s2⟩:=R1.rs.rel.getVal z1
  cases s2
  have y:=y.full
  rw [z2]at y
  cases zd7 y
  have hp:=R1.rel.2
  have eB:=R1.rel.1
  have fin:∀(w2:Int×Int),Ch B H1 (upd H1 q0 (.lst [.int w2.1,.int w2.2]))∧RW za1 X.K F (upd H1 q0 (.lst [.int w2.1,.int w2.2])) A t σ q0 w2 B:=fun w2=>by
   have cc:Ch B H1 (upd H1 q0 (.lst [.int w2.1,.int w2.2])):=fun b o nb hb=>by
    rw [zc8 (fun z=>nb (by rw [eB,z];exact zbe2.mpr rfl))];exact hb
   exact⟨cc,R1.chg cc ⟨eB,zb9⟩⟩
  refine⟨_,s1,?_⟩
  by_cases k0:k=0
  ·subst k0
   rw [if_pos rfl]at e
   cases e
   obtain⟨cc,RR⟩:=fin (n,w1.2)
   exact⟨q0,_,0,0,rfl,rfl,hp,rfl,h _ _ _ _ ((RW.grB c R1).trans (RW.grB cc RR)) RR⟩
  ·rw [if_neg k0]at e
   by_cases k1:k=1
   ·subst k1
    rw [if_pos rfl]at e
    cases e
    obtain⟨cc,RR⟩:=fin (w1.1,n)
    exact⟨q0,_,1,1,rfl,rfl,hp,rfl,h _ _ _ _ ((RW.grB c R1).trans (RW.grB cc RR)) RR⟩
   ·rw [if_neg k1]at e;cases e
end
end DL
namespace DL
open PySem.Spec L2
abbrev WI (ρ:Res):=Th→ρ.γ→Option ((Bool×List D)×ρ.γ)
noncomputable def wI (ρ:Res) (K:zbd4) (F:List Addr) (p:Addr) (fs:WI ρ):TI:=fun σ H R => ∃A B t w b ds w',RW ρ K F H A t σ p w B∧fs t w=some ((b,ds),w')∧∀J H1 Good,Ch B H H1→RW ρ K F H1 A t σ p w' B→Src K ds J Good→Good (hidF b A (B++F)) H1→R J H1
def iLf (ρ:Res) (fs:DI):WI ρ:=fun t w=>(fs t).map fun q=>(q,w)
def iLs {ρ:Res} (f:WE ρ):WI ρ:=fun t w=>(f t w).bind fun q=>match q.1.d with
 |.lst ds=>some ((q.1.ok,ds),q.2)
 |_=>none
noncomputable def iRg {ρ:Res} (f:WE ρ):WI ρ:=fun t w=>(f t w).bind fun q=>match q.1.d with
 |.int n=>if bigI n then some ((true,rngD 0 n.toNat),q.2) else none
 |_=>none
noncomputable def zg5 {ρ:Res} (k:D→Th→Option Th) (ft:WT ρ) (fe:WE ρ):List D→Th→ρ.γ→Option (List D×ρ.γ)
 |[],_,w=>some ([],w)
 |d::ds,t,w=>(k d t).bind fun t1=>(ft t1 w).bind fun q=>if q.1 then (fe t1 q.2).bind fun z=>(zg5 k ft fe ds t1 z.2).map fun ys=>(z.1.d::ys.1,ys.2) else zg5 k ft fe ds t1 q.2
noncomputable def zq3 {ρ:Res} (n:Nat) (cap:List Nat) (fs:WI ρ) (k:D→Th→Option Th) (ft:WT ρ) (fe:WE ρ):WE ρ:=fun t w=>(fs t w).bind fun q=>(capD t cap).bind fun c=>if q.1.2.length≤50000 then (zg5 k ft fe q.1.2 (zbe8 n Sl.no++c.2.map Sl.val) q.2).bind fun ys=>if (q.1.1&&c.1)||flats ys.1 then some (.nw ys.1,ys.2) else none else none
theorem zx9 {ρ:Res}{k:D→Th→Option Th}{ft:WT ρ}{fe:WE ρ}:∀ {ds:List D}{t:Th}{w:ρ.γ}{ys:List D×ρ.γ},zg5 k ft fe ds t w=some ys→ys.1.length≤ds.length
 |[],t,w,ys,e=>by cases e;simp
 |d::ds,t,w,ys,e=>by
  unfold zg5 at e
  cases e1:k d t with
  |none=>rw [e1]at e;cases e
  |some t1 =>
   rw [e1]at e
   have e:((ft t1 w).bind fun q=>if q.1 then (fe t1 q.2).bind fun z=>(zg5 k ft fe ds t1 z.2).map fun ys=>(z.1.d::ys.1,ys.2) else zg5 k ft fe ds t1 q.2)=some ys:=e
   cases e2:ft t1 w with
   |none=>rw [e2]at e;cases e
   |some q =>
    rw [e2]at e
    obtain⟨b,w1⟩:=q
    cases b with
    |false=>have:=zx9 (ds:=ds) (t:=t1) e;simp;lia
    |true =>
     have e:((fe t1 w1).bind fun z=>(zg5 k ft fe ds t1 z.2).map fun ys=>(z.1.d::ys.1,ys.2))=some ys:=e
     cases e3:fe t1 w1 with
     |none=>rw [e3]at e;cases e
     |some z =>
      rw [e3]at e
      have e:((zg5 k ft fe ds t1 z.2).map fun ys=>(z.1.d::ys.1,ys.2))=some ys:=e
      cases e4:zg5 k ft fe ds t1 z.2 with
      |none=>rw [e4]at e;cases e
      |some us=>rw [e4]at e;cases e;have:=zx9 e4;simp;lia
theorem RW.updF {ρ:Res}{K:zbd4}{P B:List Addr}{H:Hp}{t:Th}{σ:L2.St}{p d:Addr}{w:ρ.γ}{vs ws:List V} (R:RW ρ K P H [] t σ p w B) (hd:d∈P) (e:H d=some (.lst vs)):RW ρ K P (upd H d (.lst ws)) [] t σ p w B :=
 ⟨RS.updF R.rs (zbd3 _ hd),ρ.mono R.rel fun b o h k=>by
  rw [zc8]
  ·exact h
  ·intro z
   subst z
   rcases k with k | k
   ·rw [e]at h;cases h;cases k
   ·exact R.dj _ k hd,R.nd,R.dj⟩
theorem zae6 {ρ:Res}{X:Cx}{F:List Addr}{p:Addr}{n:Nat}{cap:List Nat}{fs:WI ρ}{g:TG}{kt:D→Th→Option Th}{ft:WT ρ}{fe:WE ρ} (hk:∀F',TgOk X.K F' g kt) {σ:L2.St}{H:Hp}{Q:VK} (h:wE ρ X.K F p (zq3 n cap fs kt ft fe) σ H Q) :
  zar9 n cap (wI ρ X.K F p fs) g (fun σ H Q => ∃F',wT ρ X.K F' p ft σ H Q) (fun σ H Q => ∃F',wE ρ X.K F' p fe σ H Q) σ H Q:=by
 obtain⟨A,B,t,w,r,w',R,e,h⟩:=h
 unfold zq3 at e
 cases e1:fs t w with
 |none=>rw [e1]at e;cases e
 |some q =>
  obtain⟨⟨b,ds⟩,w1⟩:=q
  cases e2:capD t cap with
  |none=>rw [e1,e2]at e;cases e
  |some q2 =>
   obtain⟨c,caps⟩:=q2
   rw [e1,e2]at e
   have e:(if ds.length≤50000 then (zg5 kt ft fe ds (zbe8 n Sl.no++caps.map Sl.val) w1).bind fun ys=>if (b&&c)||flats ys.1 then some (Ev.nw ys.1,ys.2) else none else none)=some (r,w'):=e
   split at e
   case isFalse=>cases e
   rename_i hlen
   cases e3:zg5 kt ft fe ds (zbe8 n Sl.no++caps.map Sl.val) w1 with
   |none=>rw [e3]at e;cases e
   |some ys0 =>
    obtain⟨xs,wf⟩:=ys0
    rw [e3]at e
    have e:(if (b&&c)||flats xs then some (Ev.nw xs,wf) else none)=some (r,w'):=e
    split at e
    case isFalse=>cases e
    rename_i ok
    cases e
    have xl:=zx9 e3
    have xl:xs.length≤ds.length:=xl
    refine⟨A,B,t,w,b,ds,w1,R,e1,fun J H1 Good ch R1 src gd Dd hD=>?_⟩
    obtain⟨cvs,cv1,cv2⟩:=zv0 R1.rs e2
    obtain⟨F',F'def⟩:∃F',F'=hidF (b&&c) A F:=⟨_,rfl⟩
    have subF:∀x∈F',x∈A++F:=fun x hx=>by
     rw [F'def]at hx
     unfold hidF at hx
     split at hx
     ·exact hx
     ·exact zbd3 _ hx
    have nB:Dd∉B:=fun z=>R1.al z hD
    have djF:∀x∈B,x∉Dd::F':=fun x hx z=>by
     rcases zbe3.mp z with y | y
     ·exact nB (y ▸ hx)
     ·rcases zbd8.mp (subF x y) with u | u
      ·exact R1.notA hx u
      ·exact R1.dj x hx u
    have lessB:∀H:Hp,Same (hide (hidF b A (B++F)) H) (hide (B++F') H):=fun H=>zb2 H fun x hx=>by
     rw [F'def]at hx
     cases b<;>cases c<;>simp [hidF]at hx ⊢<;>first | exact hx | (rcases hx with z | z | z<;>simp [z]) | (rcases hx with z | z<;>simp [z])
    have lessC:∀H:Hp,Same (hide (hidF c A (B++F)) H) (hide (B++F') H):=fun H=>zb2 H fun x hx=>by
     rw [F'def]at hx
     cases b<;>cases c<;>simp [hidF]at hx ⊢<;>first | exact hx | (rcases hx with z | z | z<;>simp [z]) | (rcases hx with z | z<;>simp [z])
    have st0:Same (hide (B++F') H1) (hide (B++(Dd::F')) (upd H1 Dd (.lst []))):=fun x o z=>by
     obtain⟨nx,z⟩:=zh9 z
     have nd:x≠Dd:=fun y=>by rw [y,hD]at z;cases z
     refine zc2 (by rw [zc8 nd];exact z) fun y=>?_
     rcases zbd8.mp y with y | y
     ·exact nx (zbd5 _ y)
     ·rcases zbe3.mp y with y | y
      ·exact nd y
      ·exact nx (zbd3 _ y)
    have inP:Dd∈B++(Dd::F'):=zbd3 _ (zbd7 ..)
    have chP:∀ {Ha Hb:Hp},Ch B Ha Hb→Same (hide (B++(Dd::F')) Ha) (hide (B++(Dd::F')) Hb):=fun c x o z=>by
     obtain⟨nx,z⟩:=zh9 z
     exact zc2 (c x o (fun y=>nx (zbd5 _ y)) z) nx
    refine⟨fun i m σ' H'=>i+m=ds.length∧∃th wn acc rest vs,RW ρ X.K (Dd::F') H' [] th σ' p wn B∧zg5 kt ft fe (ds.drop i) th wn=some (rest,w')∧acc++rest=xs∧H' Dd=some (.lst vs)∧Reps X.K (hide (B++(Dd::F')) H') acc vs∧Ch B H1 H'∧Good (B++(Dd::F')) H',
     ⟨ds.length,by lia,_,w1,[],xs,[],⟨⟨?_,zbj1,fun p hp=>(by cases hp),?_⟩,ρ.mono R1.rel fun x o z _=>by rw [zc8 (fun y=>by rw [y,hD]at z;cases z)];exact z,R1.nd,djF⟩,by simpa using e3,rfl,zb9,.nil,Ch.of (zd1 hD),src.keep _ _ _ _ gd (fun x o z=>st0 _ _ (lessB _ _ _ z))⟩,?_⟩
    ·intro q hq
     have hq:q∈B++(Dd::F'):=hq
     by_cases z:q=Dd
     ·exact⟨mL [],by rw [z];exact zb9⟩
     ·have:q∈A++(B++F):=by
       rcases zbd8.mp hq with y | y
       ·exact zbd3 _ (zbd5 _ y)
       ·rcases zbe3.mp y with y | y
        ·exact absurd y z
        ·rcases zbd8.mp (subF q y) with u | u
         ·exact zbd5 _ u
         ·exact zbd3 _ (zbd3 _ u)
      obtain⟨us,y⟩:=R1.rs.mu q this
      exact⟨us,by rw [zc8 z];exact y⟩
    ·unfold capV
     rw [cv1]
     exact RSl.noVals (Reps.mono (fun x o z=>st0 _ _ (lessC H1 _ _ z)) cv2) n
    ·rintro i m σ' H' ⟨hm,th,wn,acc,rest,vs,RR,ec,ex,hv,hr,sm,gg⟩
     cases m with
     |zero =>
      have z:i=ds.length:=by lia
      subst z
      rw [zbk1]at ec
      cases ec
      rw [zbi4]at ex
      subst ex
      have R2:=R1.chg sm RR.rel
      have fr:H Dd=none:=by
       cases z:H Dd with
       |none=>rfl
       |some o=>rw [ch Dd o nB z]at hD;cases hD
      refine .inl ⟨src.stop _ _ gg,h _ H' (ch.trans sm) R2 ⟨Dd,vs,rfl,fr,hv,?_⟩⟩
      rcases zbn4 _ _ ▸ ok with k | k
      ·have:F'=A++F:=by rw [F'def];unfold hidF;rw [k];rfl
       refine Reps.mono (zb2 H' fun x hx=>?_) hr
       rw [this]
       simp only [zbd8,zbe3]at hx ⊢
       rcases hx with z | z | z | z<;>simp [z]
      ·refine Reps.hid (P:=Dd ::(A++(B++F))) (fun q hq=>?_) k (Reps.mono (za9 _ _) hr)
       rcases zbe3.mp hq with z | z
       ·exact⟨mL vs,by rw [z];exact hv⟩
       ·exact R2.rs.mu q z
     |succ m =>
      have hil:i<ds.length:=by lia
      refine .inr ⟨src.go _ _ i gg hil,fun σ' H'=>i+1+m=ds.length∧∃th wn acc rest vs,RW ρ X.K (Dd::F') H' [] th σ' p wn B∧zg5 kt ft fe (ds.drop (i+1)) th wn=some (rest,w')∧acc++rest=xs∧H' Dd=some (.lst vs)∧Reps X.K (hide (B++(Dd::F')) H') acc vs∧Ch B H1 H'∧Good (B++(Dd::F')) H',
       fun σ' H' q=>⟨m,zbi6 m,q⟩,fun x H2 y=>?_⟩
      obtain⟨gs2,d,hd,rd⟩:=src.yld _ _ i x H2 gg RR.rs.mu y hil
      have ed:ds.drop i=d::ds.drop (i+1):=by
       have hd':ds[i]=d:=by
        rw [zbe1 hil]at hd
        exact Option.some.inj hd
       rw [← hd']
       exact zbg9 hil
      rw [ed]at ec
      unfold zg5 at ec
      cases k1:kt d th with
      |none=>rw [k1]at ec;cases ec
      |some t1 =>
       rw [k1]at ec
       have ec:((ft t1 wn).bind fun q=>if q.1 then (fe t1 q.2).bind fun z=>(zg5 kt ft fe (ds.drop (i+1)) t1 z.2).map fun ys=>(z.1.d::ys.1,ys.2) else zg5 kt ft fe (ds.drop (i+1)) t1 q.2)=some (rest,w'):=ec
       have R0:=RR.grow gs2
       refine hk (B++(Dd::F')) σ' H2 [] th t1 d x _ R0.rs rd k1 fun σ2 A2 gr2 R2=>?_
       have A20:=zo3 R2 gr2
       subst A20
       have RW2:=R0.step gr2 R2
       cases k2:ft t1 wn with
       |none=>rw [k2]at ec;cases ec
       |some bb =>
        rw [k2]at ec
        obtain⟨bb,w2⟩:=bb
        refine⟨Dd::F',[],B,t1,wn,bb,w2,RW2,k2,fun H3 c3 R3=>?_⟩
        have c23:=(Ch.of (B:=B) gs2).trans c3
        cases bb with
        |false =>
         exact iteF ⟨by lia,t1,w2,acc,rest,vs,R3,ec,ex,c23 _ _ nB hv,Reps.mono (chP c23) hr,sm.trans c23,src.keep _ _ _ _ gg (chP c23)⟩
        |true =>
         have ec:((fe t1 w2).bind fun z=>(zg5 kt ft fe (ds.drop (i+1)) t1 z.2).map fun ys=>(z.1.d::ys.1,ys.2))=some (rest,w'):=ec
         cases k3:fe t1 w2 with
         |none=>rw [k3]at ec;cases ec
         |some re =>
          rw [k3]at ec
          obtain⟨re,w3⟩:=re
          have ec:((zg5 kt ft fe (ds.drop (i+1)) t1 w3).map fun ys=>(re.d::ys.1,ys.2))=some (rest,w'):=ec
          cases k4:zg5 kt ft fe (ds.drop (i+1)) t1 w3 with
          |none=>rw [k4]at ec;cases ec
          |some ys =>
           rw [k4]at ec
           obtain⟨ys,w4⟩:=ys
           cases ec
           refine iteT ⟨Dd::F',[],B,t1,w2,re,w3,R3,k3,fun v H4 c4 R4 q4=>?_⟩
           have c24:=c23.trans c4
           have hv4:H4 Dd=some (.lst vs):=c24 _ _ nB hv
           refine⟨vs,hv4,?_,?_⟩
           ·have l1:=hr.length
            have l2:acc.length+(ys.length+1)=xs.length:=by rw [← ex];simp
            exact zbf0 (show vs.length<50000 by lia) (by rw [sizeLine_eq];decide)
           ·have hu:Same (hide (B++(Dd::F')) H4) (hide (B++(Dd::F')) (upd H4 Dd (.lst (vs++[v])))):=zh2 inP
            have rv:=q4.cleanF R3.rs.mu
            refine⟨by lia,t1,w3,acc++[re.d],ys,vs++[v],R4.updF (zbd7 ..) hv4,k4,by simpa using ex,zb9,?_,?_,?_⟩
            ·exact (Reps.mono (fun x o z=>hu _ _ (chP c24 _ _ z)) hr).app (Reps.one (Rep.mono hu rv))
            ·exact fun x o nx z=>by
              rw [zc8 (fun y=>by rw [y,hD]at z;cases z)]
              exact c24 _ _ nx (sm _ _ nx z)
            ·exact src.keep _ _ _ _ gg (fun x o z=>hu _ _ (chP c24 _ _ z))
section
variable {ρ:Res}{X:Cx}{F:List Addr}{p:Addr}{a b c:Expr}{es rest:List Expr}{fa fb fc:WE ρ}{ga:WA ρ}{pos:Pos}{st:Stmt}{sts:List Stmt}{tg:Expr}
theorem pew_comp {elt iter:Expr}{ifs:List Expr}{scope:Scope}{n:Nat}{cap:List Nat}{N':List Str}{fs:WI ρ}{g:TG}{kt:D→Th→Option Th}{ft:WT ρ}{fe:WE ρ} (S:CompSc X scope) (hc:X.calm=true) (hi:PI X tg iter (wI ρ X.K F p fs))
  (hN:N'.length=n+cap.length) (hcap:∀(k:Nat) (j:Nat),cap[k]?=some j→∃x,N'[n+k]?=some x∧X.N[j]?=some x∧(x,NameKind.free)∈scope.names)
  (hg:∀C s₃ H₃ fp pins,PG (blk X N' scope C s₃ H₃ fp pins) tg g) (hk:∀F',TgOk X.K F' g kt) (ht:∀C s₃ H₃ fp pins F',PTs (blk X N' scope C s₃ H₃ fp pins) ifs (wT ρ X.K F' p ft)) (he:∀C s₃ H₃ fp pins F',PE (blk X N' scope C s₃ H₃ fp pins) elt (wE ρ X.K F' p fe))
  (hs:∀x,foldedSetIterable iter X.env x=pure x:=by intro _;rfl):PE X (.ListComp elt [⟨tg,iter,ifs,0⟩] scope pos) (wE ρ X.K F p (zq3 n cap fs kt ft fe)) :=
 PE.imp (zax1 (g:=g) S hc hi hN hcap hg (fun C s₃ H₃ fp pins pins' s σ H Q I ⟨F',q⟩=>ht C s₃ H₃ fp pins F' pins' s σ H Q I q) (fun C s₃ H₃ fp pins pins' s σ H Q I ⟨F',q⟩=>he C s₃ H₃ fp pins F' pins' s σ H Q I q) hs) fun _ _ _ h=>zae6 hk h
def zv4 {ρ:Res}:WT ρ:=fun _ w=>some (true,w)
theorem zao5 {Y:Cx}:PTs Y [] (wT ρ Y.K F p zv4):=PTs.imp zav4 fun σ H Q ⟨A,B,t,w,b,w',R,e,h⟩=>by cases e;exact h H Ch.refl R
theorem zao4 {Y:Cx}{c:Expr}{ft:WT ρ} (h:PT Y c (wT ρ Y.K F p ft)):PTs Y [c] (wT ρ Y.K F p ft):=zav3 h
theorem zr0 {fs:DI} (h:∀F',PI X tg a (dI X.K F' fs)):PI X tg a (wI ρ X.K F p (iLf ρ fs)):=by
 rintro pins s σ H R I ⟨A,B,t,w,b,ds,w',RR,e,k⟩
 unfold iLf at e
 cases e1:fs t with
 |none=>rw [e1]at e;cases e
 |some q =>
  rw [e1]at e
  cases e
  exact h (B++F) pins s σ H R I ⟨A,t,b,ds,RR.rs,e1,fun J H1 Good gs S gd=>k J H1 Good (Ch.of gs) (RR.grow gs) S gd⟩
theorem piw_list (hl:PE X a (wE ρ X.K F p fa)):PI X tg a (wI ρ X.K F p (iLs fa)):=by
 refine PI.imp (zak5 hl) ?_
 rintro σ H R ⟨A,B,t,w,b,ds,w',RR,e,h⟩
 unfold iLs at e
 cases e1:fa t w with
 |none=>rw [e1]at e;cases e
 |some q =>
  rw [e1]at e
  obtain⟨r,w1⟩:=q
  refine⟨A,B,t,w,r,w1,RR,e1,fun v H1 c R1 y=>?_⟩
  have e:(match r.d with | .lst ds=>some ((r.ok,ds),w1) |_=>none)=some ((b,ds),w'):=e
  split at e
  case h_2=>cases e
  rename_i ds' z
  cases e
  have cl:=RepEv.hidF (RR.mixL R1) (zi9 c) (y.mixI (H1:=H1) RR)
  rw [z]at cl
  cases cl with
  |@lst _ q vs h1 h2=>exact⟨q,rfl,⟨vs,SqL.mono (za9 _ _) h1⟩,h _ H1 _ c R1 (zan6 h2.length) ⟨h1,h2⟩⟩
noncomputable def zab7 {ρ:Res} (k:D→Th→Option Th) (fs:WI ρ) (body:WS ρ):WS ρ:=fun t w=>(fs t w).bind fun q=>if q.1.1 then forW k body q.1.2 t q.2 else none
theorem zac1 {body:List Stmt}{fs:WI ρ}{g:WS ρ}{gt:TG}{kt:D→Th→Option Th} (hp:PassesOwn (model X.prog X.w) X.A X.env X.xe) (hc:X.calm=true) (hi:PI X tg a (wI ρ X.K F p fs)) (hg:PG X tg gt) (ht:∀F',TgOk X.K F' gt kt) (hb:PSs X body (wS ρ X.K F p g))
  (hs:∀x,foldedSetIterable a X.env x=pure x:=by intro _;rfl):PS X (.For tg a body [] pos) (wS ρ X.K F p (zab7 kt fs g)):=by
 rintro pins s σ H E I ⟨A,B,t,w,o,R,e,h⟩
 unfold zab7 at e
 cases e1:fs t w with
 |none=>rw [e1]at e;cases e
 |some q =>
  rw [e1]at e
  obtain⟨⟨bb,ds⟩,w1⟩:=q
  have e:(if bb then forW kt g ds t w1 else none)=some o:=e
  cases bb with
  |false=>cases e
  |true =>
   refine zao8 hp hc hi hg hb hs pins s σ H E I ⟨A,B,t,w,true,ds,w1,R,e1,fun J H1 Good c R1 S gd=>?_⟩
   exact zba2 S ht R1 e (h.back (RW.grB c R1)) gd
end
end DL
namespace DL
open PySem.Spec L2
theorem RSl.noVal {K:zbd4}{H0 H:Hp}{d:D}{v:V} (hr:Rep K H0 d v) {t:Th}{σ:L2.St}{A:List Addr} (h:RSl K H0 H t σ A):∀i:Nat,t[i]?=some .no→σ[i]?=some (some v)→RSl K H0 H (t.set i (.val d)) σ A:=by
 induction h with
 |nil=>intro i e;simp at e
 |no r ih =>
  intro i e f
  cases i with
  |zero =>
   simp at f
   subst f
   exact .val hr r
  |succ i=>exact .no (ih i (by simpa using e) (by simpa using f))
 |val h r ih =>
  intro i e f
  cases i with
  |zero=>simp at e
  |succ i=>exact .val h (ih i (by simpa using e) (by simpa using f))
 |own h1 h2 r ih =>
  intro i e f
  cases i with
  |zero=>simp at e
  |succ i=>exact .own h1 h2 (ih i (by simpa using e) (by simpa using f))
 |dp h r ih =>
  intro i e f
  cases i with
  |zero=>simp at e
  |succ i=>exact .dp h (ih i (by simpa using e) (by simpa using f))
theorem RSl.forget {K:zbd4}{H0 H:Hp}{t:Th}{σ:L2.St}{A:List Addr} (h:RSl K H0 H t σ A):∀i:Nat,∃A',A'.Sublist A∧RSl K H0 H (t.set i .no) σ A':=by
 induction h with
 |nil=>intro i;exact⟨[],List.Sublist.refl _,.nil⟩
 |no r ih =>
  intro i
  cases i with
  |zero=>exact⟨_,List.Sublist.refl _,.no r⟩
  |succ i=>obtain⟨A',s,q⟩:=ih i;exact⟨A',s,.no q⟩
 |val h r ih =>
  intro i
  cases i with
  |zero=>exact⟨_,List.Sublist.refl _,.no r⟩
  |succ i=>obtain⟨A',s,q⟩:=ih i;exact⟨A',s,.val h q⟩
 |own h1 h2 r ih =>
  intro i
  cases i with
  |zero=>exact⟨_,zbk0 _ _,.no r⟩
  |succ i=>obtain⟨A',s,q⟩:=ih i;exact⟨_,s.cons₂ _,.own h1 h2 q⟩
 |dp h r ih =>
  intro i
  cases i with
  |zero=>exact⟨_,zbk9 _ _,.no r⟩
  |succ i=>obtain⟨A',s,q⟩:=ih i;exact⟨_,List.Sublist.append (List.Sublist.refl _) s,.dp h q⟩
theorem RetEv.lessF {K:zbd4}{F B A:List Addr}{H H':Hp}{r:Ev}{v:V} (h:RetEv K (B++F) A H H' r v):RetEv K F A H H' r v:=by
 have le:∀P:List Addr,Same (hide (P++(B++F)) H') (hide (P++F) H'):=fun P=>zb2 H' fun b hb=>by
  rcases zbd8.mp hb with z | z
  ·exact zbd5 _ z
  ·exact zbd3 _ (zbd3 _ z)
 cases r with
 |cl d=>exact Rep.mono (le []) h
 |tm d=>exact Rep.mono (le []) h
 |nw xs =>
  obtain⟨q,vs,rfl,h1,h2,h3,h4⟩:=h
  exact⟨q,vs,rfl,h1,fun z=>h2 (zbd3 _ z),h3,Reps.mono (le [q]) h4⟩
 |dn d =>
  obtain⟨C,h0,h1,h2⟩:=h
  exact⟨C,h0,fun b hb=>⟨(h1 b hb).1,fun z=>(h1 b hb).2 (zbd3 _ z)⟩,RepD.mono (le C) h2 fun _ _ _ q=>q⟩
noncomputable def zas0 {γ:Type} (i:Nat):OW γ→Out
 |.nx t _=>.nx (t.set i .no)
 |.rt r _=>.rt r
 |.bk t _=>.bk (t.set i .no)
 |.ct t _=>.ct (t.set i .no)
open Classical in
noncomputable def dInW (i:Nat) (g:Addr→WS za1):DS:=fun t=>match t[i]? with
 |some (.own [.int c,.int n])=>if h:∃o,∀p,(g p (t.set i (.val (.adr p))) (c,n)).map (zas0 i)=some o then some h.choose else none
 |_=>none
open Classical in
theorem inW_of {i:Nat}{g:Addr→WS za1}{t:Th}{c n:Int}{o:Out} (e:t[i]?=some (.own [.int c,.int n])) (h:∀p,(g p (t.set i (.val (.adr p))) (c,n)).map (zas0 i)=some o):dInW i g t=some o:=by
 unfold dInW
 have hx:∃o,∀p,(g p (t.set i (.val (.adr p))) (c,n)).map (zas0 i)=some o:=⟨o,h⟩
 rw [e]
 show (if h:∃o,∀p,(g p (t.set i (.val (.adr p))) (c,n)).map (zas0 i)=some o then some h.choose else none)=some o
 rw [dif_pos hx]
 have:=hx.choose_spec 0
 rw [h 0]at this
 exact this.symm
section
variable {X:Cx}{F:List Addr}{a b c:Expr}{es:List Expr}{fa fb:DE}{ga:DA}{pos:Pos}{st:Stmt}{sts:List Stmt}
theorem psd_inW (i:Nat) {g:Addr→WS za1} (h:∀p,PSs X sts (wS za1 X.K F p (g p))):PSs X sts (dS X.K F (dInW i g)):=by
 intro pins s σ H E I q
 obtain⟨A,t,o,R,e,post⟩:=zat6 q
 unfold dInW at e
 split at e
 case h_2=>cases e
 rename_i c n z
 split at e
 case isFalse=>cases e
 rename_i hx
 have hall:=hx.choose_spec
 have eo:hx.choose=o:=by simpa using e
 rw [eo]at hall
 obtain⟨p,vs,b1,b2,b3,b4⟩:=R.rel.getOwn z
 have ev:vs=[.int c,.int n]:=by
  cases b4 with
  |cons r1 r' =>
   cases r' with
   |cons r2 r3=>cases r3;cases r1;cases r2;rfl
 subst ev
 obtain⟨A',sub,pn,mk⟩:=R.rel.lose i R.nd z b1
 have subm:∀b∈A',b∈A:=fun b hb=>sub.subset hb
 have hs:Same (hide (A++F) H) (hide (A'++([p]++F)) H):=zb2 H fun b hb=>by
  rcases zbd8.mp hb with y | y
  ·exact zbd5 _ (subm b y)
  ·rcases zbd8.mp y with y | y
   ·rw [zbe2.mp y];exact zbd5 _ b2
   ·exact zbd3 _ y
 have hi:i<t.length:=(zbg7.mp z).1
 have rel:RSl X.K (hide (A'++([p]++F)) H) H (t.set i (.val (.adr p))) σ A':=by
  have:=RSl.noVal (.adr p) (mk _ H hs fun _ _ _ w=>w) i (by simp [hi]) b1
  rwa [List.set_set]at this
 have RWp:RW za1 X.K F H A' (t.set i (.val (.adr p))) σ p (c,n) [p]:=⟨⟨fun b hb=>?_,R.nd.sublist sub,fun b hb w=>?_,rel⟩,⟨rfl,b3⟩,(by simp),fun b hb=>?_⟩
 ·have hp:=hall p
  cases ho:g p (t.set i (.val (.adr p))) (c,n) with
  |none=>rw [ho]at hp;cases hp
  |some ow =>
   rw [ho]at hp
   have hp:zas0 i ow=o:=by simpa using hp
   refine h p pins s σ H E I ⟨A',[p],_,(c,n),ow,RWp,ho,?_⟩
   have gr:∀ {A2 B2 A3:List Addr}{H':Hp},Gr (A'++[p]) H (A2++B2) H'→(∀b∈A3,b∈A2)→Gr A H A3 H':=fun {A2 B2 A3 H'} g s3=>by
    have nA:∀b,b∉A→b∉A'++[p]:=fun b nb w=>by
     rcases zbd8.mp w with w | w
     ·exact nb (subm b w)
     ·rw [zbe2.mp w]at nb;exact nb b2
    refine⟨fun b o' nb w=>g.kp b o' (nA b nb) w,fun b hb=>?_,fun b hb=>?_⟩
    ·by_cases w:b∈A'++[p]
     ·exact g.al b w
     ·obtain⟨u,y⟩:=R.mu b (zbd5 _ hb)
      rw [g.kp b _ w y];simp
    ·rcases g.nw b (zbd5 _ (s3 b hb)) with w | w
     ·by_cases y:b∈A
      ·exact .inl y
      ·exact absurd w (nA b y)
     ·exact .inr w
   have after:∀ {N:L2.St→Hp→Prop}{t':Th}{w':Int×Int},After X.K F A H N (t'.set i .no)→zar3 za1 X.K F p A' [p] H N t' w':=fun {N t' w'} k σ' H' A2 B2 g R2=>by
    obtain⟨A3,s3,q3⟩:=R2.rs.rel.forget i
    have m3:∀b∈A3,b∈A2:=fun b hb=>s3.subset hb
    refine k σ' H' A3 (gr g m3) ⟨fun b hb=>R2.rs.mu b ?_,R2.rs.nd.sublist s3,fun b hb w=>R2.rs.dj b (m3 b hb) (zbd3 _ w),RSl.mono (zb2 H' fun b hb=>?_) q3 fun _ _ _ w=>w⟩
    ·rcases zbd8.mp hb with w | w
     ·exact zbd5 _ (m3 b w)
     ·exact zbd3 _ (zbd3 _ w)
    ·rcases zbd8.mp hb with w | w
     ·exact zbd5 _ (m3 b w)
     ·exact zbd3 _ (zbd3 _ w)
   cases ow with
   |nx t' w'=>subst hp;exact after post
   |bk t' w'=>subst hp;exact after post
   |ct t' w'=>subst hp;exact after post
   |rt r w' =>
    subst hp
    intro v H' A2 B2 g rel' nd dj y
    refine post v H' [] (gr (A2:=A2) (B2:=B2) g fun b hb=>nomatch hb) (y.lessF.weak fun b hb=>?_)
    rcases zbd8.mp hb with w | w
    ·exact subm b w
    ·rw [zbe2.mp w];exact b2
 ·rcases zbd8.mp hb with w | w
  ·exact R.mu b (zbd5 _ (subm b w))
  ·rcases zbd8.mp w with w | w
   ·rw [zbe2.mp w];exact⟨mL _,b3⟩
   ·exact R.mu b (zbd3 _ w)
 ·rcases zbd8.mp w with w | w
  ·rw [zbe2.mp w]at hb;exact pn hb
  ·exact R.dj b (subm b hb) w
 ·rw [zbe2.mp hb];exact R.dj p b2
noncomputable def zaz5 (G:Int×Int→List D→Option (Ev×(Int×Int))):List Ev→Option Ev:=fun rs=>match rs with
 |.nw [.int c,.int n]::rs=>if flats (rs.map Ev.d) then (G (c,n) (rs.map Ev.d)).map fun z=>upEv true z.1 else none
 |_=>none
theorem zaf5 {K:zbd4}{G:Int×Int→List D→Option (Ev×(Int×Int))}{A:List Addr}{H H1:Hp}{q:Addr}{c n:Int}{ds:List D}{vs':List V}{z:Ev×(Int×Int)}{Q:VK}{E:XK} (m:Lists H (A++F)) (gs:Same H H1) (hq:H q=none) (hq1:H1 q=some (.lst [.int c,.int n])) (rp:Reps K (hide (q ::(A++F)) H1) ds vs') (e2:G (c,n) ds=some z)
  (h:∀v H',Same H H'→RepEv K F A H H' (upEv true z.1) v→Q v H'):spX za1 K G (.ref q::vs') H1 Q E:=by
 obtain⟨r0,w0⟩:=z
 have nq:q∉A++F:=zd2 m hq
 refine⟨A++F,q,[q],(c,n),ds,r0,w0,vs',rfl,fun b hb=>?_,(by simp),fun b hb=>?_,⟨rfl,hq1⟩,rp,e2,fun v H' ch rel' w2=>?_⟩
 ·rcases zbd8.mp hb with w | w
  ·rw [zbe2.mp w];exact⟨mL _,hq1⟩
  ·exact m.mono gs b w
 ·rw [zbe2.mp hb];exact nq
 ·have fr:∀b,H1 b=none→H b=none:=fun b e=>Same.free gs e
  have sm:Same H H':=fun b o w=>ch b o (fun y=>by rw [zbe2.mp y,hq]at w;cases w) (gs b o w)
  refine h v H' sm ?_
  have m':Lists H' (A++([q]++F)):=fun b hb=>by
   by_cases y:b=q
   ·exact⟨mL [.int w0.1,.int w0.2],by rw [y];exact rel'.2⟩
   ·have hb':b∈A++F:=by
     rcases zbd8.mp hb with w | w
     ·exact zbd5 _ w
     ·rcases zbd8.mp w with w | w
      ·exact absurd (zbe2.mp w) y
      ·exact zbd3 _ w
    exact m.mono sm b hb'
  have m1:Lists H1 (A++([q]++F)):=fun b hb=>by
   by_cases y:b=q
   ·exact⟨mL _,by rw [y];exact hq1⟩
   ·have hb':b∈A++F:=by
     rcases zbd8.mp hb with w | w
     ·exact zbd5 _ w
     ·rcases zbd8.mp w with w | w
      ·exact absurd (zbe2.mp w) y
      ·exact zbd3 _ w
    exact m.mono gs b hb'
  have u:RepEv K ([q]++F) A H H' (upEv true r0) v:=up_of (ok:=true) m1 m' fr w2
  have le:∀P:List Addr,Same (hide (P++(A++([q]++F))) H') (hide (P++(A++F)) H'):=fun P=>zb2 H' fun b hb=>by
   simp only [zbd8]at hb ⊢
   rcases hb with w | w | w<;>simp [w]
  cases ur:upEv true r0 with
  |cl d=>rw [ur]at u;exact Rep.mono (le []) u
  |tm d =>
   rw [ur]at u
   refine Rep.mono (zb2 H' fun b hb=>zbd3 _ hb) u
  |nw xs =>
   rw [ur]at u
   obtain⟨l,us,rfl,h1,h2,h3⟩:=u
   exact⟨l,us,rfl,h1,h2,Reps.mono (le [l]) h3⟩
  |dn d =>
   rw [ur]at u
   obtain⟨C,h1,h2,h3⟩:=u
   exact⟨C,h1,h2,RepD.mono (le C) h3 fun _ _ _ q=>q⟩
theorem ped_newX {k:Nat}{G:Int×Int→List D→Option (Ev×(Int×Int))}{x:Str}{q:Pos} (c:CalX za1 X.prog X.w X.K X.mg X.base x k G) (hr:Room k X.A) (ha:PA X (a::es) (dA X.K F ga)) (hg:Gl X x:=by rfl) (hdb:(x ==("__debug__":Str))=false:=by decide)
  (he:zbe7 (a::es) X.env=(false,eval a X.env)::zbe7 es X.env:=by rfl) (hpl:(zbl0 pos (zbe7 es X.env)).any (·.1)=false:=by rfl):PE X (.Call (.Name x q) (a::es) [] pos) (dE X.K F (dT1 (zaz5 G) ga)):=by
 obtain⟨f,fd,ps,h1,h2,h3,h4⟩:=c.ex
 refine PE.imp (zac6 h4 hr hg h1 h2 h3 .nil (E:=E0) pass0 ha hdb he hpl) ?_
 rintro σ H Q ⟨A,t,r,R,e,h⟩
 unfold dT1 at e
 cases e1:ga t with
 |none=>rw [e1]at e;cases e
 |some rs0 =>
  have e:zaz5 G rs0=some r:=by rw [e1]at e;exact e
  refine⟨A,t,rs0,R,e1,fun vs H1 gs y=>?_⟩
  show spX za1 X.K G (vs++[]) H1 Q E0
  rw [zbi4]
  unfold zaz5 at e
  split at e
  case h_2=>cases e
  rename_i cc n rs
  split at e
  case isFalse=>cases e
  rename_i fl
  cases e2:G (cc,n) (rs.map Ev.d) with
  |none=>rw [e2]at e;cases e
  |some z =>
   rw [e2]at e
   have e:upEv true z.1=r:=by simpa using e
   subst e
   cases y with
   |cons y1 y2 =>
    obtain⟨l,us,rfl,g1,g2,g3⟩:=y1
    cases g3 with
    |cons r1 r' =>
     cases r' with
     |cons r2 r3 =>
      cases r3;cases r1;cases r2
      refine zaf5 R.mu gs g1 g2 (Reps.hid (fun b hb=>?_) fl y2.full) e2 h
      rcases zbe3.mp hb with w | w
      ·exact⟨mL _,by rw [w];exact g2⟩
      ·exact R.mu.mono gs b w
noncomputable def zaa8 (G:Int×Int→List D→Option (Ev×(Int×Int))) (fa:DE) (j:Nat):DE:=fun t=>(fa t).bind fun r=>match r,t[j]? with
 |.nw [.int c,.int n],some (.val d)=>(G (c,n) [d]).map fun z=>upEv true z.1
 |_,_=>none
theorem zaw5 (j:Nat) {k:Nat}{G:Int×Int→List D→Option (Ev×(Int×Int))}{x y:Str}{q py:Pos} (c:CalX za1 X.prog X.w X.K X.mg X.base x k G) (hr:Room k X.A) (ha:PE X a (dE X.K F fa)) (hN:X.N[j]?=some y:=by rfl) (hv:Vis X.env.scope y:=by first | exact Or.inl rfl | exact Or.inr (Or.inl rfl) |exact Or.inr (Or.inr rfl)) (hd:(y ==("__debug__":Str))=false:=by decide)
  (hcd:(y ==("__classdict__":Str))=false:=by decide) (hg:Gl X x:=by rfl) (hdb:(x ==("__debug__":Str))=false:=by decide)
  (he:zbe7 [a,.Name y py] X.env=(false,eval a X.env)::zbe7 [.Name y py] X.env:=by rfl) (he2:zbe7 [.Name y py] X.env=[(false,eval (.Name y py) X.env)]:=by rfl) (hpl:(zbl0 pos (zbe7 [.Name y py] X.env)).any (·.1)=false:=by rfl):PE X (.Call (.Name x q) [a,.Name y py] [] pos) (dE X.K F (zaa8 G fa j)):=by
 obtain⟨f,fd,ps,h1,h2,h3,h4⟩:=c.ex
 refine PE.imp (zac6 h4 hr hg h1 h2 h3 .nil (E:=E0) pass0 (zf7 ha (zf7 (zz7 (i:=j) hN hv hd hcd) zl3 he2) he) hdb he hpl) ?_
 rintro σ H Q ⟨A,t,r,R,e,h⟩
 unfold zaa8 at e
 cases e1:fa t with
 |none=>rw [e1]at e;cases e
 |some r0 =>
  rw [e1]at e
  simp only [zbd9]at e
  split at e
  case h_2=>cases e
  rename_i cc n d z
  cases e2:G (cc,n) [d] with
  |none=>rw [e2]at e;cases e
  |some u =>
   rw [e2]at e
   have e:upEv true u.1=r:=by simpa using e
   subst e
   obtain⟨v,s1,s2⟩:=R.rel.getVal z
   refine⟨A,t,_,R,e1,fun w H1 gs y=>⟨v,s1,?_⟩⟩
   obtain⟨l,us,rfl,g1,g2,g3⟩:=y
   cases g3 with
   |cons r1 r' =>
    cases r' with
    |cons r2 r3 =>
     cases r3;cases r1;cases r2
     show spX za1 X.K G ([.ref l,v]++[]) H1 Q E0
     rw [zbi4]
     refine zaf5 R.mu gs g1 g2 (Reps.one (Rep.mono (fun b o w=>?_) s2)) e2 h
     obtain⟨nb,w⟩:=zh9 w
     refine zc2 (gs _ _ w) fun y=>?_
     rcases zbe3.mp y with y | y
     ·rw [y,g1]at w;cases w
     ·exact nb y
end
end DL
namespace DL
open PySem.Spec L2
section
variable {ρ:Res}{X:Cx}{F:List Addr}{p:Addr}{a b c:Expr}{es rest:List Expr}{fa fb fc:WE ρ}{ga:WA ρ}{pos:Pos}{st:Stmt}{sts:List Stmt}{tg:Expr}
theorem zw6 {elt iter:Expr}{ifs:List Expr}{scope:Scope}{fs:WI ρ}{g:TG}{kt:D→Th→Option Th}{ft:WT ρ}{fe:WE ρ} (n:Nat) (cap:List Nat) (N':List Str) (hc:X.calm=true) (hi:PI X tg iter (wI ρ X.K F p fs))
  (hg:∀C s₃ H₃ fp pins,PG (blk X N' scope C s₃ H₃ fp pins) tg g) (hk:∀F',TgOk X.K F' g kt) (ht:∀C s₃ H₃ fp pins F',PTs (blk X N' scope C s₃ H₃ fp pins) ifs (wT ρ X.K F' p ft)) (he:∀C s₃ H₃ fp pins F',PE (blk X N' scope C s₃ H₃ fp pins) elt (wE ρ X.K F' p fe))
  (hkd:scope.kind=.function:=by rfl) (hcs:zy0 scope.names X.env.kindOf=true:=by rfl) (hN:N'.length=n+cap.length:=by rfl) (hcap:zae0 N' X.N n scope.names 0 cap=true:=by rfl)
  (hs:∀x,foldedSetIterable iter X.env x=pure x:=by intro _;rfl):PE X (.ListComp elt [⟨tg,iter,ifs,0⟩] scope pos) (wE ρ X.K F p (zq3 n cap fs kt ft fe)) :=
 pew_comp (zah9 hkd hcs) hc hi hN (fun k j e=>by simpa using zo4 hcap k j e) hg hk ht he hs
theorem psw_setC {i:Nat}{y:Str}{py spos:Pos}{elt iter:Expr}{ifs:List Expr}{scope:Scope}{fs:WI ρ}{g:TG}{kt:D→Th→Option Th}{ft:WT ρ}{fe:WE ρ} (n:Nat) (cap:List Nat) (N':List Str) (hNd:X.N.Nodup) (hi₀:X.N[i]?=some y) (hy:Loc X.env.scope y) (hc:X.calm=true) (hi:PI X tg iter (wI ρ X.K F p fs))
  (hg:∀C s₃ H₃ fp pins,PG (blk X N' scope C s₃ H₃ fp pins) tg g) (hk:∀F',TgOk X.K F' g kt) (ht:∀C s₃ H₃ fp pins F',PTs (blk X N' scope C s₃ H₃ fp pins) ifs (wT ρ X.K F' p ft)) (he:∀C s₃ H₃ fp pins F',PE (blk X N' scope C s₃ H₃ fp pins) elt (wE ρ X.K F' p fe))
  (hsw:swapsWith (.ListComp elt [⟨tg,iter,ifs,0⟩] scope pos) (some (.Name y py)) spos.line X.env=pure true:=by rfl) (hf:X.fn y=true∨X.env.scope.names.lookup y=some .local:=by first | exact .inl rfl | exact .inr rfl)
  (hkd:scope.kind=.function:=by rfl) (hcs:zy0 scope.names X.env.kindOf=true:=by rfl) (hN:N'.length=n+cap.length:=by rfl) (hcap:zae0 N' X.N n scope.names 0 cap=true:=by rfl)
  (hs:∀x,foldedSetIterable iter X.env x=pure x:=by intro _;rfl):PS X (.Assign [.Name y py] (.ListComp elt [⟨tg,iter,ifs,0⟩] scope pos) spos) (wS ρ X.K F p (sAsg i (zq3 n cap fs kt ft fe))):=by
 refine PS.imp (zao9 (g:=g) (wi:=wI ρ X.K F p fs) (tt:=fun σ H Q => ∃F',wT ρ X.K F' p ft σ H Q) (te:=fun σ H Q => ∃F',wE ρ X.K F' p fe σ H Q) (zah9 hkd hcs) hc hi hN (fun k j e=>by simpa using zo4 hcap k j e) hg (fun C s₃ H₃ fp pins pins' s σ H Q I ⟨F',q⟩=>ht C s₃ H₃ fp pins F' pins' s σ H Q I q) (fun C s₃ H₃ fp pins pins' s σ H Q I ⟨F',q⟩=>he C s₃ H₃ fp pins F' pins' s σ H Q I q) hNd hi₀ hy hsw hf hs) ?_
 rintro E σ H ⟨A,B,t,w,o,R,e,h⟩
 refine zae6 hk ?_
 unfold sAsg at e
 cases e1:zq3 n cap fs kt ft fe t w with
 |none=>rw [e1]at e;cases e
 |some q =>
  rw [e1]at e
  have e:((zl7 t i q.1).map fun t'=>OW.nx t' q.2)=some o:=e
  cases e2:zl7 t i q.1 with
  |none=>rw [e2]at e;cases e
  |some t' =>
   rw [e2]at e
   cases e
   refine⟨A,B,t,w,q.1,q.2,R,e1,fun v H' c R' y=>?_⟩
   obtain⟨A',g',RR⟩:=R.put c R' y e2
   exact h _ _ _ _ g' RR
theorem piw_rng {p1 p2:Pos} (hgr:Gl X "range") (hm:X.mg "range"=none) (ha:PE X a (wE ρ X.K F p fa)) (hst:zbe7 [a] X.env=[(false,eval a X.env)]:=by rfl):PI X tg (.Call (.Name "range" p1) [a] [] p2) (wI ρ X.K F p (iRg fa)):=by
 refine PI.imp (zw4 hgr hm (zf7 ha zl3 hst) hst) ?_
 rintro σ H R ⟨A,B,t,w,b,ds,w',RR,e,h⟩
 unfold iRg at e
 cases e1:fa t w with
 |none=>rw [e1]at e;cases e
 |some q =>
  rw [e1]at e
  obtain⟨r,w1⟩:=q
  refine⟨A,B,t,w,r,w1,RR,e1,fun v H1 c R1 y=>?_⟩
  have e:(match r.d with | .int n=>if bigI n then some ((true,rngD 0 n.toNat),w1) else none | _=>none)=some ((b,ds),w'):=e
  split at e
  case h_2=>cases e
  rename_i n z
  split at e
  case isFalse=>cases e
  rename_i ok
  cases e
  simp only [bigI,decide_eq_true_eq]at ok
  have y:=y.full
  rw [z]at y
  cases zd7 y
  exact⟨n,rfl,by lia,by lia,h _ H1 _ c R1 zai9 trivial⟩
theorem PW.ptw {ft:WT ρ} (h:PW X a (wT ρ X.K F p ft)):PT X a (wT ρ X.K F p ft):=fun pins s σ H Q I q=>h _ pins s σ H Q I q
end
end DL
namespace DL
open PySem.Spec L2
section
variable {X:Cx}{F:List Addr}{a b c:Expr}{fa fb:DE}
noncomputable def rCnt (K:zbd4):V→List V→Hp→VK→Prop:=fun x vs H Q => ∃(l:Addr) (ns:List Int) (n:Int),x=.ref l∧vs=[.int n]∧SqL K H l (ns.map V.int)∧Q (.int (ns.count n:Nat)) H
theorem mt_count:MtR X "list.count" (rCnt X.K):=by
 intro pins s σ H x xs v us Q I rx rs h
 obtain⟨l,ns,n,rfl,rfl,hs,q⟩:=h
 cases rx
 obtain⟨u,rfl,ru⟩:=Vals.one rs
 obtain⟨t,rfl⟩:=ru
 obtain⟨its,rv,pl,_⟩:=I.list hs
 exact count_list_ints (PlainL.isL pl) (zs4 rv) ⟨.int _,H,I.tok _,⟨_,rfl⟩,q⟩
noncomputable def kCnt:Ev→Ev→Option Ev:=fun r1 r2=>match r1.d,r2.d with
 |.lst ds,.int n=>(zm8 ds).map fun ns=>.cl (.int (ns.count n:Nat))
 |_,_=>none
theorem zaw8 {apos cpos:Pos} (ha:PE X a (dE X.K F fa)) (hb:PE X b (dE X.K F fb)) (hst:zbe7 [b] X.env=[(false,eval b X.env)]:=by rfl)
  (hbase:attributeBase a "count" X.env (eval a X.env)=eval a X.env:=by rfl)
  (hfew:((zbl0 cpos (zbe7 [b] X.env)).all (fun x=>!x.1)&&(backToKw cpos (keywordEach [] X.env)).all (fun x=>x.1.isSome)
   && decide ([b].length+([]:List Keyword).length+(if ([]:List Keyword).isEmpty then 0 else 1)<30))=true:=by rfl)
  (hline:(apos.endLine == cpos.line)=true:=by rfl) (hplain:(zbl0 cpos (zbe7 [] X.env)).any (·.1)=false:=by rfl):PE X (.Call (.Attribute a "count" apos) [b] [] cpos) (dE X.K F (d2 kCnt fa fb)):=by
 refine PE.imp (pe_bm zbo3 PySem.F.slot_list_count PySem.F.type_list_count mt_count ha (zf7 hb zl3 hst) hbase hfew hline hst hplain) ?_
 intro σ H Q h
 obtain⟨A,t,r1,r2,r,R,e1,e2,e,h,w⟩:=two h
 unfold kCnt at e
 split at e
 case h_2=>cases e
 rename_i ds n z1 z2
 cases e3:zm8 ds with
 |none=>rw [e3]at e;cases e
 |some ns =>
  rw [e3]at e
  cases e
  refine⟨A,t,r1,R,e1,fun u H1 gs q=>?_⟩
  have p:=q.full
  rw [z1,zu5 e3]at p
  cases p with
  |@lst _ l vs h1 h2 =>
   rw [zj6 h2]at h1
   refine⟨.inl ⟨rfl,_,h1⟩,A,t,r2,R.grow gs,e2,fun u2 H2 gs2 q2=>?_⟩
   have p2:=q2.full
   rw [z2]at p2
   cases zd7 p2
   exact⟨l,ns,n,rfl,rfl,SqL.mono gs2 h1,h _ H2 (gs.trans gs2) (.int _)⟩
end
end DL
namespace KX
open PySem.Spec L2 DL
abbrev qA:=kOr (kI tt2 fun i j=>.int (i+j)) kCat
abbrev qS:=kI tt2 fun i j=>.int (i - j)
abbrev qM:=kOr (kI cMul fun i j=>.int (i*j)) kRep
abbrev qV:=kI cDiv fun i j=>.int (i.fdiv j)
abbrev qR:=kI cMod fun i j=>.int (i.fmod j)
abbrev qL:=kI tt2 fun i j=>.bl (decide (i<j))
abbrev qE:=kI tt2 fun i j=>.bl (decide (i≤j))
abbrev qG:=kI tt2 fun i j=>.bl (decide (j<i))
abbrev qN:=k2I fun i j=>if j<i then j else i
abbrev qX:=k2I fun i j=>if j > i then j else i
abbrev qP:=kI cPow fun i j=>.int (i ^ j.toNat)
theorem app_of (t:Th) {f:DE}{i:Nat}{xs:List D}{d:D} (hf:f t=some (.cl d)) (hi:t[i]?=some (.own xs)) (hl:xs.length<100000):dApp i f t=some (.nx (t.set i (.own (xs++[d])))):=by
 unfold dApp
 rw [hf]
 simp only [zbd9,kApp,hi,Ev.ok,Ev.d,hl,decide_true,Bool.and_self,if_true]
theorem asg_of (t:Th) {f:DE}{i:Nat}{d:D} (hf:f t=some (.cl d)) (hi:i<t.length):dAsg i f t=some (.nx (t.set i (.val d))):=by
 unfold dAsg
 rw [hf]
 simp only [zbd9,zl7,hi,if_true,zbj4]
theorem flats_ints:∀xs:List Int,flats (xs.map D.int)=true
 |[]=>rfl
 |x::xs=>by
  have:=flats_ints xs
  simp [flats,flat,this]
theorem zq6 {k:List Ev→Option Ev}{fa fb:DE}{t:Th}{ra rb:Ev} (h1:fa t=some ra) (h2:fb t=some rb):dT1 k (za2 fa (za2 fb dNil)) t=k [ra,rb]:=by
 simp [dT1,za2,dNil,h1,h2]
theorem zh4 {k:Ev→Ev→Option Ev}{fa fb:DE}{t:Th}{ra rb:Ev} (h1:fa t=some ra) (h2:fb t=some rb):d2 k fa fb t=k ra rb:=by
 simp [d2,h1,h2]
theorem t4_of {k:List Ev→Option Ev}{fa fb fc fd:DE}{t:Th}{ra rb rc rd:Ev} (h1:fa t=some ra) (h2:fb t=some rb) (h3:fc t=some rc) (h4:fd t=some rd):dT1 k (za2 fa (za2 fb (za2 fc (za2 fd dNil)))) t=k [ra,rb,rc,rd]:=by
 simp [dT1,za2,dNil,h1,h2,h3,h4]
theorem t3_of {k:List Ev→Option Ev}{fa fb fc:DE}{t:Th}{ra rb rc:Ev} (h1:fa t=some ra) (h2:fb t=some rb) (h3:fc t=some rc):dT1 k (za2 fa (za2 fb (za2 fc dNil))) t=k [ra,rb,rc]:=by
 simp [dT1,za2,dNil,h1,h2,h3]
theorem zab0 {k:List Ev→Option Ev}{fa:DE}{t:Th}{ra:Ev} (h1:fa t=some ra):dT1 k (za2 fa dNil) t=k [ra]:=by
 simp [dT1,za2,dNil,h1]
theorem zy3 {t:Th}{f:DE}{i:Nat}{d:D} (hf:f t=some (.cl d)) (hi:i<t.length):dAsg i f t=some (.nx (t.set i (.val d))):=asg_of t hf hi
theorem zo9 {t:Th}{f:DE}{i:Nat}{xs:List D} (hf:f t=some (.nw xs)) (hi:i<t.length):dAsg i f t=some (.nx (t.set i (.own xs))):=by
 unfold dAsg
 rw [hf]
 simp only [zbd9,zl7,hi,if_true,zbj4]
theorem ix_nat (n b:Nat) (h:b<n):ixN n (b:Int)=some b:=by unfold ixN;rw [if_pos (by lia),if_pos (by lia)];simp
theorem get_map (L:List Int) (b:Nat) (h:b<L.length):(L.map D.int)[b]?=some (.int (L.getD b 0)):=by simp [zbe9,h]
theorem at_map (L:List Int) (b:Nat) (h:b<L.length):atI (L.map D.int) (b:Int)=some (.int (L.getD b 0)):=by
 unfold atI
 rw [ix_nat _ _ (by simpa using h)]
 exact get_map L b h
theorem ixEv {r1 r2:Ev} (L:List Int) (b:Nat) (h:b<L.length) (h1:r1.d=.lst (L.map D.int)) (h2:r2.d=.int (b:Int)):kIx r1 r2=some (.cl (.int (L.getD b 0))):=by
 unfold kIx
 rw [h1,h2]
 show (atI (L.map D.int) (b:Int)).map _=_
 rw [at_map L b h]
 simp [flat]
theorem ifs_of {c:DT}{g1 g2:DS}{t:Th}{b:Bool} (h:c t=some b):dIfS c g1 g2 t=if b then g1 t else g2 t:=by
 unfold dIfS;rw [h];rfl
theorem zag2 {c:DT}{g1 g2:DS}{t:Th}{b:Bool} (h:c t=some b) (hb:b=true):dIfS c g1 g2 t=g1 t:=by
 rw [ifs_of h,hb];rfl
theorem ifs_f {c:DT}{g1 g2:DS}{t:Th}{b:Bool} (h:c t=some b) (hb:b=false):dIfS c g1 g2 t=g2 t:=by
 rw [ifs_of h,hb];rfl
theorem in_ints {r1 r2:Ev} (p:Int) (K:List Int) (h1:r1.d=.int p) (h2:r2.d=.lst (K.map D.int)):kIn r1 r2=some (.cl (.bl (decide (p∈K)))):=by
 unfold kIn
 rw [h1,h2]
 clear h2
 have e1:(K.map D.int).all (fun d=>scD d&&eqOk 0 d (.int p))=true:=by
  rw [zbm9]
  intro d hd
  obtain⟨k,_,rfl⟩:=zbi1.mp hd
  rfl
 have e2:(K.map D.int).any (fun d=>eqD d (.int p))=decide (p∈K):=by
  induction K with
  |nil=>rfl
  |cons k K ih =>
   have e1':(K.map D.int).all (fun d=>scD d&&eqOk 0 d (.int p))=true:=by
    simp only [zbf4,zbh1,zbe0]at e1;exact e1.2
   rw [zbf4,zbi9,ih e1',zba4]
   by_cases h:k=p
   ·subst h;simp
   ·have : ¬ p=k:=fun q=>h q.symm
    simp [h,this]
 show (if scD (.int p)&&(K.map D.int).all (fun d=>scD d&&eqOk 0 d (.int p)) then some (Ev.cl (.bl ((K.map D.int).any fun d=>eqD d (.int p)))) else none)=_
 rw [e1,e2]
 rfl
theorem bo_in {fa fb:DE}{t:Th}{r1 r2:Ev} (p:Int) (K:List Int) (ha:fa t=some r1) (hb:fb t=some r2) (h1:r1.d=.int p) (h2:r2.d=.lst (K.map D.int)):dBo (d2 kIn fa fb) t=some (decide (p∈K)):=by
 unfold dBo
 rw [zh4 ha hb,in_ints p K h1 h2]
 rfl
theorem zbc9 (t:Th) {f:DE}{i:Nat}{xs:List Int}{p:Int} (hf:f t=some (.cl (.int p))) (hi:t[i]?=some (.own (xs.map D.int))) (hl:xs.length<100000):dApp i f t=some (.nx (t.set i (.own ((xs++[p]).map D.int)))):=by
 rw [app_of t hf hi (by simpa using hl)]
 simp
theorem seq_rt {g1 g2:DS}{t:Th}{r:Ev} (h:g1 t=some (.rt r)):dSeq g1 g2 t=some (.rt r):=by simp [dSeq,h]
theorem grd {c:DT}{g:DS}{t:Th}{b:Bool} (h:c t=some b) (hb:b=false):dIfS c g zi0 t=some (.nx t):=(ifs_f h hb).trans rfl
theorem zba1 {c:DT}{g:DS}{t:Th}{b:Bool}{d:D} (h:c t=some b) (hb:b=true):dIfS c (dRet (dC d)) g t=some (.rt (.cl d)):=(zag2 h hb).trans rfl
theorem bnd {g:Option Out}{r:Ev} (h:g=some (.rt r)):g.bind zp5=some r:=by rw [h];rfl
theorem zk3 {fa fb:DE}{t:Th}{a b:Int} (h1:fa t=some (.cl (.int a))) (h2:fb t=some (.cl (.int b))):(d2 qA fa fb) t=some (.cl (.int (a+b))):=(zh4 h1 h2).trans rfl
theorem sub_of {fa fb:DE}{t:Th}{a b:Int} (h1:fa t=some (.cl (.int a))) (h2:fb t=some (.cl (.int b))):(d2 qS fa fb) t=some (.cl (.int (a - b))):=(zh4 h1 h2).trans rfl
theorem mod_of {fa fb:DE}{t:Th}{a b:Int} (h1:fa t=some (.cl (.int a))) (h2:fb t=some (.cl (.int b))) (hb:b≠0):(d2 qR fa fb) t=some (.cl (.int (a.fmod b))):=by
 rw [zh4 h1 h2]
 show (if cMod a b=true then _ else none)=_
 rw [if_pos (by unfold cMod;exact decide_eq_true hb)]
theorem zax7 {fa fb:DE}{t:Th}{a b:Int} (h1:fa t=some (.cl (.int a))) (h2:fb t=some (.cl (.int b))) (ha:sm a=true) (hb:sm b=true):(d2 qM fa fb) t=some (.cl (.int (a*b))):=by
 rw [zh4 h1 h2]
 have:cMul a b=true:=by simp only [cMul];rw [ha,hb];rfl
 simp [kOr,kI,Ev.d,this]
theorem pow12 (t:Th):(d2 qP (dC (.int 10)) (dC (.int 12))) t=some (.cl (.int 1000000000000)):=by
 simp [d2,dC,kI,cPow,kOr,tt2,Ev.d]
theorem lt_of {fa fb:DE}{t:Th}{a b:Int} (h1:fa t=some (.cl (.int a))) (h2:fb t=some (.cl (.int b))):dBo (d2 qL fa fb) t=some (decide (a<b)):=by
 unfold dBo;rw [zh4 h1 h2];rfl
theorem gt_of {fa fb:DE}{t:Th}{a b:Int} (h1:fa t=some (.cl (.int a))) (h2:fb t=some (.cl (.int b))):dBo (d2 qG fa fb) t=some (decide (b<a)):=by
 unfold dBo;rw [zh4 h1 h2];rfl
theorem zag8 {fa fb:DE}{t:Th}{a b:Int} (h1:fa t=some (.cl (.int a))) (h2:fb t=some (.cl (.int b))):dBo (d2 kEq fa fb) t=some (decide (a=b)):=by
 unfold dBo;rw [zh4 h1 h2]
 have:kEq (.cl (.int a)) (.cl (.int b))=some (.cl (.bl (eqD (.int a) (.int b)))):=rfl
 rw [this,zba4];rfl
theorem or_of {f g:DT}{t:Th}{a b:Bool} (h1:f t=some a) (h2:a=false→g t=some b):dOr f g t=some (a||b):=by
 unfold dOr;rw [h1]
 cases a with
 |true=>rfl
 |false=>simp [h2 rfl]
theorem zaf3 {f g:DT}{t:Th}{a b:Bool} (h1:f t=some a) (h2:g t=some b):dOr f g t=some (a||b):=or_of h1 fun _=>h2
theorem zbd0 {f g:DT}{t:Th}{a b:Bool} (h1:f t=some a) (h2:g t=some b):dAnd f g t=some (a&&b):=by
 unfold dAnd;rw [h1];cases a<;>simp [h2]
theorem zr4 {t:Th}{f:DE}{r:Ev}{xs:List Int} (h:f t=some r) (hr:r.d=.lst (xs.map D.int)):(dT1 kLen (za2 f dNil)) t=some (.cl (.int (xs.length:Int))):=by
 rw [zab0 h]
 unfold kLen
 simp only [hr,zbf7]
theorem zaf9 {fa fb:DE}{t:Th}{r1 r2:Ev} (L:List Int) (b:Nat) (ha:fa t=some r1) (hb:fb t=some r2) (h:b<L.length) (h1:r1.d=.lst (L.map D.int)) (h2:r2.d=.int (b:Int)):(d2 kIx fa fb) t=some (.cl (.int (L.getD b 0))):=by
 rw [zh4 ha hb,ixEv L b h h1 h2]
theorem zam8 {G:List D→Option Ev}{rs:List Ev}{xs:List Int} (h:G (rs.map Ev.d)=some (.nw (xs.map D.int))):zf0 G rs=some (.nw (xs.map D.int)):=by
 unfold zf0
 rw [h]
 simp only [zbj4,upEv]
 split
 ·rfl
 ·simp [flats_ints]
theorem zat8 {G:List D→Option Ev}{rs:List Ev}{d:D} (h:G (rs.map Ev.d)=some (.cl d)) (hf:flat d=true):zf0 G rs=some (.cl d):=by
 unfold zf0
 rw [h]
 simp only [zbj4,upEv]
 split
 ·rfl
 ·simp [hf]
theorem not_of {f:DT}{t:Th}{b:Bool} (h:f t=some b):dNot f t=some (!b):=by
 unfold dNot;rw [h];rfl
theorem zo7 {f:DE}{t:Th}{r:Ev} (h:f t=some r):dRet f t=some (.rt r):=by
 unfold dRet;rw [h];rfl
theorem zaj0 (n:Nat):Builtin.Range.rangeSize 0 (n:Int) 1=(n:Int):=by
 unfold Builtin.Range.rangeSize
 rw [if_pos (by lia)]
 split<;>lia
theorem ok_of {n:Nat} (hn:n≤1000):zw0 0 (n:Int) 1=true:=by
 unfold zw0
 rw [small_of (by lia) (by lia),zaj0,decide_eq_true (by lia)]
 rfl
theorem lr_of {f:DE}{t:Th}{n:Nat} (h:f t=some (.cl (.int (n:Int)))) (hn:n≤1000):(zah3 (za2 f dNil)) t=some (.nw ((zb5 n).map D.int)):=by
 have e:(za2 f dNil) t=some [.cl (.int (n:Int))]:=by simp [za2,dNil,h]
 have e2:rArgs ([Ev.cl (.int (n:Int))].map Ev.d)=some (0,(n:Int),1):=rfl
 have c:(zw0 0 (n:Int) 1&&decide (Builtin.Range.rangeSize 0 (n:Int) 1≤50000))=true:=by
  rw [ok_of hn,zaj0,decide_eq_true (by lia)];rfl
 unfold zah3
 rw [e,zbd9,e2,zbd9,if_pos c]
 unfold rng3 zb5
 rw [zaj0,zbq5]
 simp
theorem rng1_of {k0:D→Th→Option Th}{b:DS}{t:Th}{f:DE}{r:Ev}{n:Nat} (h:f t=some r) (hr:r.d=.int (n:Int)) (hn:n≤100000):zat7 k0 f b t=forD k0 b ((zb5 n).map D.int) t:=by
 unfold zat7
 rw [h]
 simp only [zbd9,hr]
 rw [if_pos (by unfold bigI;exact decide_eq_true (by lia)),zbq5]
 congr 1
 unfold rngD zb5
 simp
def am (L:List Int):Nat→Nat
 |0=>0
 |k+1=>if L.getD k 0<L.getD (am L k) 0 then k else am L k
theorem list_of {f:DE}{t:Th}{r:Ev}{xs:List Int} (h:f t=some r) (hr:r.d=.lst (xs.map D.int)):(dT1 zj4 (za2 f dNil)) t=some (.nw (xs.map D.int)):=by
 rw [zab0 h]
 unfold zj4
 simp only [hr,flats_ints,zbj5,if_true]
theorem zu0 {f:DE}{t:Th}{r:Ev}{xs:List Int} (h:f t=some r) (hr:r.d=.lst (xs.map D.int)) (hl:xs.length<64):(dT1 zm5 (za2 f dNil)) t=some (.nw ((zd6 xs).map D.int)):=by
 rw [zab0 h]
 unfold zm5
 simp only [hr,zn1,zbd9]
 rw [if_pos hl]
theorem zaq5 {k:D→Th→Option Th}{fe:DE}{f:Int→Int}{ext:Th} (hk:∀(s:Sl) (x:Int),k (.int x) (s::ext)=some (.val (.int x)::ext)):∀(xs:List Int) (s:Sl),(∀x∈xs,fe (.val (.int x)::ext)=some (.cl (.int (f x))))→zf1 k zf8 fe (xs.map D.int) (s::ext)=some ((xs.map f).map D.int)
 |[],s,_=>rfl
 |x::xs,s,hf=>by
  simp only [zbf4,zf1,hk,zbd9,zf8,hf x (zbd7 ..),if_true]
  rw [zaq5 hk xs _ fun y hy=>hf y (zbd6 _ hy)]
  rfl
theorem zaq8 {cap:List Nat}{f:DE}{fe:DE}{t:Th}{r:Ev}{xs:List Int}{g:Int→Int}{b:Bool}{c:List D} (hf:f t=some r) (hr:r.d=.lst (xs.map D.int)) (hn:xs.length≤50000) (hc:capD t cap=some (b,c)) (he:∀x∈xs,fe (.val (.int x)::c.map Sl.val)=some (.cl (.int (g x)))) :
  (zg4 1 cap (fsL f) (za6 0) zf8 fe) t=some (.nw ((xs.map g).map D.int)):=by
 unfold zg4
 have e1:fsL f t=some (r.ok,xs.map D.int):=by
  unfold fsL
  rw [hf]
  simp only [zbd9,hr]
 have e2:zf1 (za6 0) zf8 fe (xs.map D.int) (Sl.no::c.map Sl.val)=some ((xs.map g).map D.int):=zaq5 (fun _ _=>rfl) _ _ he
 rw [e1,hc]
 simp only [zbd9]
 rw [if_pos (by simpa using hn)]
 show (zf1 (za6 0) zf8 fe (xs.map D.int) (Sl.no::c.map Sl.val)).bind _=_
 rw [e2]
 simp only [zbd9,flats_ints,zbj5,if_true]
theorem zau7 {f:DE}{t:Th}{r:Ev}{xs:List Int} (h:f t=some r) (hr:r.d=.lst (xs.map D.int)):(dT1 kSum (za2 f dNil)) t=some (.cl (.int xs.sum)):=by
 rw [zab0 h]
 unfold kSum
 simp only [hr,zn1]
 rfl
theorem for_P {k:D→Th→Option Th}{b:DS}{P:Th→Prop}:∀(ds:List D),(∀d∈ds,∀t,P t→∃t1 t2,k d t=some t1∧b t1=some (.nx t2)∧P t2)→∀t,P t→∃t',forD k b ds t=some (.nx t')∧P t'
 |[],_,t,h=>⟨t,rfl,h⟩
 |d::ds,hd,t,h=>by
  obtain⟨t1,t2,e1,e2,h2⟩:=hd d (zbd7 ..) t h
  obtain⟨t',e,h'⟩:=for_P ds (fun d' hd'=>hd d' (zbd6 _ hd')) t2 h2
  exact⟨t',by simp only [forD,e1,e2,zbd9];exact e,h'⟩
def stG (W:Int→Int) (b x:Int):Int:=if W b<W x then x else b
theorem zbc6 {fb:DE}{W:Int→Int}{cs:List D}:∀(l:List Int) (b:Int),(∀x∈l,fb (.val (.int x)::cs.map Sl.val)=some (.cl (.int (W x))))→zbc7 true fb cs (.int b) (.int (W b)) (l.map D.int)=some (.int (l.foldl (stG W) b))
 |[],b,_=>rfl
 |x::l,b,h=>by
  have e:=h x (zbd7 ..)
  simp only [zbf4,zbc7,e,zbd9,Ev.d,flat,if_true,cmpD,cmpI,zbn2]
  have ih:=fun b=>zbc6 l b fun y hy=>h y (zbd6 _ hy)
  by_cases c:W b<W x
  ·rw [if_pos (decide_eq_true c),show stG W b x=x from if_pos c];exact ih x
  ·rw [if_neg (by simpa using c),show stG W b x=b from if_neg c];exact ih b
theorem key_of {fa fb:DE}{W:Int→Int}{cs:List D}{b:Bool}{cap:List Nat}{t:Th}{r:Ev}{x:Int}{l:List Int} (ha:fa t=some r) (hr:r.d=.lst ((x::l).map D.int)) (hc:capD t cap=some (b,cs)) (h:∀y∈x::l,fb (.val (.int y)::cs.map Sl.val)=some (.cl (.int (W y)))):dKey true cap fa fb t=some (.cl (.int (l.foldl (stG W) x))):=by
 unfold dKey
 rw [ha,hc]
 simp only [zbd9,hr,zbf4]
 rw [show (zm8 (D.int x::l.map D.int)).isSome=true by rw [← zbf4 (f:=D.int),zn1];rfl,if_pos rfl,h x (zbd7 ..)]
 simp only [zbd9,Ev.d,flat,if_true]
 rw [zbc6 l x fun y hy=>h y (zbd6 _ hy)]
 rfl
def pD (p:Int×Int):D:=.tup [.int p.1,.int p.2]
theorem zaq3:∀ts:List (Int×Int),flats (ts.map pD)=true
 |[]=>rfl
 |p::ts=>by simp only [zbf4,flats,zaq3 ts];rfl
theorem zba3 (n:Nat):∀ts:List (Int×Int),eqOk (n+2) (.lst (ts.map pD)) (.lst (ts.map pD))=true
 |[]=>rfl
 |p::ts=>by
  have:=zba3 n ts
  simp only [eqOk]at this ⊢
  simp only [zbf4,zbh4,zbh1,this,zbl7]
  cases n<;>rfl
theorem list_pD {f:DE}{t:Th}{r:Ev}{ts:List (Int×Int)} (h:f t=some r) (hr:r.d=.lst (ts.map pD)):(dT1 zj4 (za2 f dNil)) t=some (.nw (ts.map pD)):=by
 rw [zab0 h]
 unfold zj4
 simp only [hr,zaq3,zbj5,if_true]
def rwD (r:List Int):D:=.lst (r.map D.int)
def mD (M:List (List Int)):D:=.lst (M.map rwD)
structure Sq (n:Nat) (M:List (List Int)):Prop where
 len:M.length=n
 row:∀r∈M,r.length=n
theorem zap7 {fa fb:DE}{t:Th}{r1 r2:Ev} (p:Int) (K:List Int) (ha:fa t=some r1) (hb:fb t=some r2) (h1:r1.d=.int p) (h2:r2.d=.lst (K.map D.int)):dBo (d2 kNin fa fb) t=some (!decide (p∈K)):=by
 have e:=bo_in p K ha hb h1 h2
 unfold dBo at e ⊢
 rw [zh4 ha hb]at e ⊢
 unfold kIn at e
 unfold kNin
 rw [h2]at e ⊢
 simp only at e ⊢
 split at e
 ·rename_i c
  rw [if_pos c]
  simp only [zbd9,Ev.d,Option.some.injEq]at e ⊢
  rw [e]
 ·cases e
theorem zap8 {n:Nat}{x:Int} (h0:0≤x) (h1:x<(n:Int)):x∈zb5 n:=by
 unfold zb5
 exact zbi1.mpr ⟨x.toNat,zbi8.mpr (by lia),by lia⟩
theorem zau8:∀ {l C:List Int},l.Nodup→(∀x∈l,x∈C)→l.length≤C.length
 |[],C,_,_=>zbr4 _
 |x::l,C,nd,h=>by
  rw [zbg3]at nd
  have hx:=h x (zbd7 ..)
  have:=zau8 (l:=l) (C:=C.erase x) nd.2 fun y hy=>(List.mem_erase_of_ne (fun e=>nd.1 (by rw [← e];exact hy))).mpr (h y (zbd6 _ hy))
  rw [List.length_erase_of_mem hx]at this
  have:=List.length_pos_of_mem hx
  simp only [zbf3]
  lia
theorem nats_nd (n:Nat):(zb5 n).Nodup:=by
 unfold zb5
 refine List.pairwise_map.mpr ?_
 exact (List.nodup_range (n:=n)).imp fun h e=>h (by lia)
end KX
set_option maxHeartbeats 1000000
namespace KX
abbrev Hd:=List (Int×Nat)
def nwS (hd:Hd) (s:List Int):List Int:=s.filter fun x=>decide (x∉hd.map Prod.fst)
structure Pt (w:Nat→Nat) (L N:Nat):Prop where
 eq:∀m,1≤m→m≤N→m*w m=L
def Hw (w:Nat→Nat):Nat→Nat
 |0=>0
 |n+1=>Hw w n+w (n+1)
theorem Hw_mono (w:Nat→Nat) {a b:Nat} (h:a≤b):Hw w a≤Hw w b:=by
 induction b with
 |zero=>rw [Nat.le_zero.mp h];exact zbf6 _
 |succ b ih =>
  rcases Nat.lt_or_eq_of_le h with h | h
  ·exact zbh3 (ih (by lia)) (zbk3 _ _)
  ·rw [h];exact zbf6 _
def paid (w:Nat→Nat) (hd:Hd) (s:List Int):Nat:=(hd.map fun p=>if p.1∈s then w p.2 else 0).sum
def totW (w:Nat→Nat) (hd:Hd):Nat:=(hd.map fun p=>w p.2).sum
structure GI (ss:List (List Int)) (w:Nat→Nat) (L:Nat) (hd:Hd) (n:Nat):Prop where
 nd:(hd.map Prod.fst).Nodup
 tt:totW w hd=n*L
 pay:∀s∈ss,paid w hd s+Hw w (nwS hd s).length≤Hw w s.length
 sub:∀x∈hd.map Prod.fst,∃s∈ss,x∈s
theorem GI.nil (ss:List (List Int)) (w:Nat→Nat) (L:Nat):GI ss w L [] 0:=by
 refine⟨zbj1,by simp [totW],fun s _=>?_,fun x hx=>nomatch hx⟩
 show 0+Hw w (nwS [] s).length≤_
 rw [zbp1]
 exact Hw_mono w (zbi2 _ _)
end KX
namespace KX
open PySem.Spec L2 DL
theorem asg_dn {t:Th}{f:DE}{i:Nat}{d:D} (hf:f t=some (.dn d)) (hi:i<t.length):dAsg i f t=some (.nx (t.set i (.dp d))):=by
 unfold dAsg
 rw [hf]
 simp only [zbd9,zl7,hi,if_true,zbj4]
theorem zad4 {k:D→Th→Option Th}{b:DS}{d:D}{ds:List D}{t t1 t2:Th} (h1:k d t=some t1) (h2:b t1=some (.nx t2)):forD k b (d::ds) t=forD k b ds t2:=by simp [forD,h1,h2]
theorem forD_rt {k:D→Th→Option Th}{b:DS}{d:D}{ds:List D}{t t1:Th}{r:Ev} (h1:k d t=some t1) (h2:b t1=some (.rt r)):forD k b (d::ds) t=some (.rt r):=by simp [forD,h1,h2]
theorem zaq7 {α:Type}{e:α→D}{ft:DT}{fe:DE}{p:α→Bool}{f:α→D}{ext:Th}:∀(xs:List α) (s:Sl),(∀x∈xs,ft (.val (e x)::ext)=some (p x))→(∀x∈xs,p x=true→∃r,fe (.val (e x)::ext)=some r∧r.d=f x)→zf1 (za6 0) ft fe (xs.map e) (s::ext)=some ((xs.filter p).map f)
 |[],s,_,_=>rfl
 |x::l,s,h,h'=>by
  have i:=zaq7 (p:=p) (f:=f) l (.val (e x)) (fun y hy=>h y (zbd6 _ hy)) (fun y hy=>h' y (zbd6 _ hy))
  show ((ft (.val (e x)::ext)).bind fun b=>if b then (fe (.val (e x)::ext)).bind fun r=>(zf1 (za6 0) ft fe (l.map e) (.val (e x)::ext)).map fun xs=>r.d::xs else zf1 (za6 0) ft fe (l.map e) (.val (e x)::ext))=_
  rw [h x (zbd7 ..),i]
  cases hp:p x with
  |false=>rw [List.filter_cons_of_neg (by rw [hp];decide)];rfl
  |true =>
   obtain⟨r,e1,e2⟩:=h' x (zbd7 ..) hp
   rw [e1,List.filter_cons_of_pos hp,zbf4, ← e2]
   rfl
theorem rng_nats (n:Nat):rngD 0 n=(zb5 n).map D.int:=by
 unfold rngD zb5
 rw [zbl4]
 refine zbp4 fun x _=>?_
 show D.int (0+(x:Int))=D.int (x:Int)
 rw [Int.zero_add]
theorem dcompR {ft:DT}{fe f:DE}{p:Int→Bool}{g:Int→D}{cap:List Nat}{t:Th}{r:Ev}{n:Nat}{b:Bool}{c:List D} (hf:f t=some r) (hr:r.d=.int (n:Int)) (hc:capD t cap=some (b,c)) (hl:n≤50000)
  (h1:∀x∈zb5 n,ft (.val (.int x)::c.map Sl.val)=some (p x)) (h2:∀x∈zb5 n,p x=true→∃r,fe (.val (.int x)::c.map Sl.val)=some r∧r.d=g x) (h3:flats (((zb5 n).filter p).map g)=true∨b=true):zg4 1 cap (fsR1 f) (za6 0) ft fe t=some (.nw (((zb5 n).filter p).map g)):=by
 unfold zg4
 have e1:fsR1 f t=some (true,(zb5 n).map D.int):=by
  unfold fsR1;rw [hf];simp only [zbd9,hr]
  rw [if_pos (by unfold bigI;simp;lia), ← rng_nats]
  rfl
 have e2:zf1 (za6 0) ft fe ((zb5 n).map D.int) (Sl.no::c.map Sl.val)=some (((zb5 n).filter p).map g):=zaq7 (zb5 n) _ h1 h2
 rw [e1,hc]
 simp only [zbd9]
 rw [if_pos (by simpa [zb5] using hl)]
 show (zf1 (za6 0) ft fe ((zb5 n).map D.int) (Sl.no::c.map Sl.val)).bind _=_
 rw [e2]
 show (if ((true&&b)||flats (((zb5 n).filter p).map g))=true then _ else _)=_
 rw [if_pos (by rcases h3 with h | h<;>rw [h]<;>simp)]
def kN (n:Int):Key:=Sum.inl n
theorem zba0 (x:Int):∀ks:List Int,hasK (ks.map kN) (kN x)=decide (x∈ks)
 |[]=>rfl
 |k::ks=>by
  have i:=zba0 x ks
  unfold hasK at i ⊢
  rw [zbf4,zbi9,i]
  by_cases h:k=x
  ·subst h;simp
  ·have h' : ¬ kN k=kN x:=fun z=>h (by cases z;rfl)
   rw [decide_eq_false h']
   have:(x∈k::ks)=(x∈ks):=by rw [zbe3];simp [show ¬ x=k from fun z=>h z.symm]
   simp only [this,zbl6]
def putN (ks:List Int) (x:Int):List Int:=if x∈ks then ks else ks++[x]
def ttD (_:Int):D:=.bl true
theorem zip_same {ks:List Int}{x:Int}:∀ls:List Int,zbr1 (fun k' d'=>if k'=kN x then D.bl true else d') (ls.map kN) (ls.map ttD)=ls.map ttD
 |[]=>rfl
 |l::ls=>by
  rw [zbf4,zbf4,zbl8,zip_same (ks:=ks) ls]
  congr 1
  split<;>rfl
theorem put_tt (ks:List Int) (x:Int):zt5 (ks.map kN) (ks.map ttD) (kN x) (.bl true)=((putN ks x).map kN,(putN ks x).map ttD):=by
 unfold zt5 putN
 rw [zba0]
 by_cases h:x∈ks
 ·rw [decide_eq_true h,if_pos rfl,if_pos h,zip_same (ks:=ks) ks]
 ·rw [decide_eq_false h,if_neg (by decide),if_neg h]
  simp [kN,ttD]
structure AllK (M:Nat) (ks:List Int):Prop where
 nd:ks.Nodup
 lt:∀x∈ks,0≤x∧x<(M:Int)
theorem AllK.len {M:Nat}{ks:List Int} (h:AllK M ks):ks.length≤M:=by
 have:=zau8 (l:=ks) (C:=zb5 M) h.nd fun x hx=>zap8 (h.lt x hx).1 (h.lt x hx).2
 simpa [zb5] using this
theorem AllK.put {M:Nat}{ks:List Int}{x:Int} (h:AllK M ks) (h0:0≤x) (h1:x<(M:Int)):AllK M (putN ks x):=by
 unfold putN
 split
 ·exact h
 ·rename_i n
  refine⟨zbf9.mpr ⟨h.nd,by simp,fun a ha b hb e=>?_⟩,fun y hy=>?_⟩
  ·rw [zbe2]at hb;subst hb;subst e;exact n ha
  ·rcases zbd8.mp hy with z | z
   ·exact h.lt y z
   ·rw [zbe2]at z;subst z;exact⟨h0,h1⟩
theorem mem_putN {ks:List Int}{x y:Int}:y∈putN ks x↔y∈ks∨y=x:=by
 unfold putN
 split
 ·rename_i h
  exact⟨.inl,fun z=>z.elim id fun e=>e ▸ h⟩
 ·simp
theorem AllK.fold {M:Nat}:∀ {s ks:List Int},AllK M ks→(∀x∈s,0≤x∧x<(M:Int))→AllK M (s.foldl putN ks)
 |[],ks,h,_=>h
 |x::s,ks,h,hs=>AllK.fold (s:=s) (h.put (hs x (by simp)).1 (hs x (by simp)).2) fun y hy=>hs y (zbd6 _ hy)
theorem zaf7 {y:Int}:∀ {s ks:List Int},y∈s.foldl putN ks↔y∈ks∨y∈s
 |[],ks=>by simp
 |x::s,ks=>by
  rw [zbn2,zaf7 (s:=s),mem_putN,zbe3,or_assoc]
def kdT (ks:List Int):KD:=(ks.map kN,ks.map ttD)
theorem lk_in {M:Nat} (hM:M≤1000) {a S:Sl}:∀ {s:List Int}{ks:List Int}{u:Sl},AllK M ks→(∀x∈s,0≤x∧x<(M:Int))→∃u',zk0 (za6 1) zf8 (dVar 1) (dC (.bl true)) (s.map D.int) [a,u,S] (kdT ks)=some (kdT (s.foldl putN ks),[a,u',S])
 |[],ks,u,_,_=>⟨u,rfl⟩
 |x::s,ks,u,h,hs=>by
  have hx:=hs x (by simp)
  obtain⟨u',e⟩:=lk_in hM (a:=a) (S:=S) (s:=s) (u:=.val (.int x)) (h.put hx.1 hx.2) fun y hy=>hs y (zbd6 _ hy)
  refine⟨u',?_⟩
  have st:stKD (kdT ks) (.cl (.int x)) (.cl (.bl true))=some (kdT (putN ks x)):=by
   unfold stKD
   show (if (true&&decide ((ks.map kN).length<50000))=true then some (zt5 (ks.map kN) (ks.map ttD) (kN x) (.bl true)) else none)=_
   have:=h.len
   rw [if_pos (by rw [decide_eq_true (by rw [zbf7];lia)];rfl),put_tt]
   rfl
  show ((stKD (kdT ks) (.cl (.int x)) (.cl (.bl true))).bind fun a1=>zk0 (za6 1) zf8 (dVar 1) (dC (.bl true)) (s.map D.int) [a,.val (.int x),S] a1)=_
  rw [st]
  exact e
section
variable {ρ:Res}{t t':Th}{w w1 w2:ρ.γ}{r r1 r2:Ev}{rs:List Ev}{p:Addr}
theorem zba8 {f:DE} (h:f t=some r):eLf ρ f t w=some (r,w):=by simp [eLf,h]
theorem ze2 {k:Ev→Ev→Option Ev}{fa fb:WE ρ} (h1:fa t w=some (r1,w1)) (h2:fb t w1=some (r2,w2)) (hk:k r1 r2=some r):eOp k fa fb t w=some (r,w2):=by simp [eOp,h1,h2,hk]
theorem zl1:(aNil:WA ρ) t w=some ([],w):=rfl
theorem ze8 {f:WE ρ}{g:WA ρ} (h1:f t w=some (r,w1)) (h2:g t w1=some (rs,w2)):zb1 f g t w=some (r::rs,w2):=by simp [zb1,h1,h2]
theorem zaa7 {k:List Ev→Option Ev}{g:WA ρ} (h:g t w=some (rs,w1)) (hk:k rs=some r):eT1 k g t w=some (r,w1):=by simp [eT1,h,hk]
theorem eX_of {G:ρ.γ→List D→Option (Ev×ρ.γ)}{ga:WA ρ} (h:ga t w=some (.cl (.adr p)::rs,w1)) (hG:G w1 (rs.map Ev.d)=some (r,w2)):eX p G ga t w=some (upEv (rs.all Ev.ok) r,w2):=by simp [eX,h,hG]
theorem zz4 {f:WE ρ}{b:Bool} (h:f t w=some (.cl (.bl b),w1)):tBo f t w=some (b,w1):=by simp [tBo,h,Ev.d]
theorem zq5 {f:DT}{b:Bool} (h:f t=some b):tLf ρ f t w=some (b,w):=by simp [tLf,h]
theorem tOr_t {f g:WT ρ} (h:f t w=some (true,w1)):tOr f g t w=some (true,w1):=by simp [DL.tOr,h]
theorem tOr_f {f g:WT ρ} (h:f t w=some (false,w1)):tOr f g t w=g t w1:=by simp [DL.tOr,h]
theorem zm3 {g:DS} (h:g t=some (.nx t')):sLf ρ g t w=some (.nx t' w):=by simp [sLf,h,oL]
theorem zv8 {g:DS} (h:g t=some (.rt r)):sLf ρ g t w=some (.rt r w):=by simp [sLf,h,oL]
theorem zb6 {g1 g2:WS ρ} (h:g1 t w=some (.nx t' w1)):sSeq g1 g2 t w=g2 t' w1:=by simp [sSeq,h]
theorem zp1 {g1 g2:WS ρ} (h:g1 t w=some (.rt r w1)):sSeq g1 g2 t w=some (.rt r w1):=by simp [sSeq,h]
theorem zaj9 {c:WT ρ}{g1 g2:WS ρ} (h:c t w=some (true,w1)):sIf c g1 g2 t w=g1 t w1:=by simp [sIf,h]
theorem zy7 {c:WT ρ}{g1 g2:WS ρ} (h:c t w=some (false,w1)):sIf c g1 g2 t w=g2 t w1:=by simp [sIf,h]
theorem zp2 {f:WE ρ} (h:f t w=some (r,w1)):sRet f t w=some (.rt r w1):=by simp [sRet,h]
theorem zl8 {f:WE ρ}{i:Nat}{d:D} (h:f t w=some (.cl d,w1)) (hi:i<t.length):sAsg i f t w=some (.nx (t.set i (.val d)) w1):=by simp [sAsg,h,zl7,hi]
theorem zv9 {f:WE ρ}{i:Nat}{xs:List D} (h:f t w=some (.nw xs,w1)) (hi:i<t.length):sAsg i f t w=some (.nx (t.set i (.own xs)) w1):=by simp [sAsg,h,zl7,hi]
theorem zab6 {k:D→Th→Option Th}{fs:WI ρ}{b:WS ρ}{ds:List D} (h:fs t w=some ((true,ds),w1)):zab7 k fs b t w=forW k b ds t w1:=by simp [zab7,h]
theorem zag3 {fs:DI}{q:Bool×List D} (h:fs t=some q):iLf ρ fs t w=some (q,w):=by simp [iLf,h]
theorem iRg_of {f:WE ρ}{n:Nat} (h:f t w=some (.cl (.int (n:Int)),w1)) (hn:n≤100000):iRg f t w=some ((true,(zb5 n).map D.int),w1):=by
 unfold iRg
 rw [h]
 show (if bigI (n:Int) then some ((true,rngD 0 (n:Int).toNat),w1) else none)=_
 rw [if_pos (by unfold bigI;exact decide_eq_true (by lia))]
 have:rngD 0 (n:Int).toNat=(zb5 n).map D.int:=by unfold rngD zb5;simp
 rw [this]
theorem zx7 {k:D→Th→Option Th}{b:WS ρ}{d:D}{ds:List D}{t1 t2:Th} (h1:k d t=some t1) (h2:b t1 w=some (.nx t2 w1)):forW k b (d::ds) t w=forW k b ds t2 w1:=by simp [forW,h1,h2]
theorem zad6 {k:D→Th→Option Th}{ft:WT ρ}{fe:WE ρ}{d:D}{ds:List D}{t1:Th}{ys:List D×ρ.γ}{w3:ρ.γ} (h1:k d t=some t1) (h2:ft t1 w=some (true,w1)) (h3:fe t1 w1=some (r,w2)) (h4:zg5 k ft fe ds t1 w2=some (ys.1,w3)):zg5 k ft fe (d::ds) t w=some (r.d::ys.1,w3):=by simp [zg5,h1,h2,h3,h4]
theorem zbb6 {k:D→Th→Option Th}{ft:WT ρ}{fe:WE ρ}{d:D}{ds:List D}{t1:Th} (h1:k d t=some t1) (h2:ft t1 w=some (false,w1)):zg5 k ft fe (d::ds) t w=zg5 k ft fe ds t1 w1:=by simp [zg5,h1,h2]
theorem zu8 {n:Nat}{cap:List Nat}{fs:WI ρ}{k:D→Th→Option Th}{ft:WT ρ}{fe:WE ρ}{b c:Bool}{ds cs ys:List D} (h1:fs t w=some ((b,ds),w1)) (h2:capD t cap=some (c,cs)) (hl:ds.length≤50000) (h3:zg5 k ft fe ds (zbe8 n Sl.no++cs.map Sl.val) w1=some (ys,w2)) (hf:flats ys=true):zq3 n cap fs k ft fe t w=some (.nw ys,w2):=by
 unfold zq3
 rw [h1]
 show ((capD t cap).bind fun c=>if ds.length≤50000 then (zg5 k ft fe ds (zbe8 n Sl.no++c.2.map Sl.val) w1).bind fun ys=>if (b&&c.1)||flats ys.1 then some (Ev.nw ys.1,ys.2) else none else none)=_
 rw [h2]
 show (if ds.length≤50000 then (zg5 k ft fe ds (zbe8 n Sl.no++cs.map Sl.val) w1).bind fun ys=>if (b&&c)||flats ys.1 then some (Ev.nw ys.1,ys.2) else none else none)=_
 rw [if_pos hl,h3]
 show (if (b&&c)||flats ys then some (Ev.nw ys,w2) else none)=_
 rw [hf,zbj5,if_pos rfl]
theorem zk7 {k:Nat}{N:List Str}{g:Addr→WS ρ}{ds:List D} (hl:ds.length+1=k) (h:∀p,g p (zae8 N p ds) w=some (.rt r w1)):mkW k N g w ds=some (r,w1):=mkW_of hl fun p=>by unfold runW;rw [h p];rfl
end
structure PoolOk (w:Int×Int):Prop where
 c0:0≤w.1
 n0:0≤w.2
 n1:w.2<2147483647
theorem eLp {f:DE}{t:Th}{w:Int×Int}{r:Ev} (h:f t=some r):eLf za1 f t w=some (r,w):=zba8 (ρ:=za1) h
theorem zd8 {G:Int×Int→List D→Option (Ev×(Int×Int))}{i:Nat}{fm:DE}{t:Th}{p:Addr}{w w':Int×Int}{m r:Int} (hi:t[i]?=some (.val (.adr p))) (hm:fm t=some (.cl (.int m))) (hG:G w [.int m]=some (.cl (.int r),w')) :
  eX (ρ:=za1) p G (zb1 (eLf za1 (dVar i)) (zb1 (eLf za1 fm) aNil)) t w=some (.cl (.int r),w'):=by
 have h0:dVar i t=some (.cl (.adr p)):=by unfold dVar;rw [hi]
 exact eX_of (rs:=[.cl (.int m)]) (ze8 (ρ:=za1) (zba8 h0) (ze8 (ρ:=za1) (zba8 hm) zl1)) hG
theorem zap2 {i:Nat}{t:Th}{p:Addr}{w:Int×Int} (hi:t[i]?=some (.val (.adr p))):ePg p i 0 t w=some (.cl (.int w.1),w):=by simp [ePg,hi];rfl
theorem pg1_of {i:Nat}{t:Th}{p:Addr}{w:Int×Int} (hi:t[i]?=some (.val (.adr p))):ePg p i 1 t w=some (.cl (.int w.2),w):=by simp [ePg,hi];rfl
theorem ps0_of {i:Nat}{t:Th}{p:Addr}{w w1:Int×Int}{f:WE za1}{n:Int} (hi:t[i]?=some (.val (.adr p))) (h:f t w=some (.cl (.int n),w1)):sPs p i 0 f t w=some (.nx t (n,w1.2)):=by
 unfold sPs
 rw [h,hi]
 exact if_pos rfl
theorem ps1_of {i:Nat}{t:Th}{p:Addr}{w w1:Int×Int}{f:WE za1}{n:Int} (hi:t[i]?=some (.val (.adr p))) (h:f t w=some (.cl (.int n),w1)):sPs p i 1 f t w=some (.nx t (w1.1,n)):=by
 unfold sPs
 rw [h,hi]
 exact if_pos rfl
theorem zx2 {a b:Int} (h:b≠0):qR (.cl (.int a)) (.cl (.int b))=some (.cl (.int (a.fmod b))):=by
 show (if cMod a b then some (Ev.cl (.int (a.fmod b))) else none)=_
 rw [if_pos (by unfold cMod;exact decide_eq_true h)]
theorem zaz4 {a b:Int} (h:b≠0) (hs:sm b=true):qV (.cl (.int a)) (.cl (.int b))=some (.cl (.int (a.fdiv b))):=by
 show (if cDiv a b then some (Ev.cl (.int (a.fdiv b))) else none)=_
 rw [if_pos (by unfold cDiv;rw [hs,decide_eq_true h];rfl)]
theorem zam2 {a b:Int} (ha:sm a=true) (hs:sm b=true):qM (.cl (.int a)) (.cl (.int b))=some (.cl (.int (a*b))):=by
 (try unfold qA);(try unfold qM);unfold kOr
 have:(kI cMul fun i j=>.int (i*j)) (.cl (.int a)) (.cl (.int b))=some (.cl (.int (a*b))):=by
  show (if cMul a b then some (Ev.cl (.int (a*b))) else none)=_
  rw [if_pos (by unfold cMul;rw [ha,hs];rfl)]
 rw [this]
theorem zad2 {a b:Int}:qA (.cl (.int a)) (.cl (.int b))=some (.cl (.int (a+b))):=rfl
theorem ksub_of {a b:Int}:qS (.cl (.int a)) (.cl (.int b))=some (.cl (.int (a - b))):=rfl
theorem zaz3 {a b:Int}:kEq (.cl (.int a)) (.cl (.int b))=some (.cl (.bl (decide (a=b)))):=rfl
theorem zay9 {a b:Int}:qG (.cl (.int a)) (.cl (.int b))=some (.cl (.bl (decide (b<a)))):=rfl
theorem sm_lt {a:Int} (h0:0≤a) (h1:a<1000000000000000000):sm a=true:=zau9 (by lia) (by lia)
end KX
namespace KX
open PySem.Spec L2 DL
abbrev Eg:=Int×Int
inductive Eqv (es:List Eg):Int→Int→Prop
 |refl (u:Int):Eqv es u u
 |edge {a b:Int}:(a,b)∈es→Eqv es a b
 |symm {u v:Int}:Eqv es u v→Eqv es v u
 |trans {u v w:Int}:Eqv es u v→Eqv es v w→Eqv es u w
theorem Eqv.mono {es es':List Eg} (k:∀e∈es,e∈es') {u v:Int} (h:Eqv es u v):Eqv es' u v:=by
 induction h with
 |refl u=>exact .refl u
 |edge h=>exact .edge (k _ h)
 |symm _ ih=>exact .symm ih
 |trans _ _ i1 i2=>exact .trans i1 i2
theorem Eqv.pred {es:List Eg}{p:Int→Prop} (k:∀e∈es,(p e.1↔p e.2)) {u v:Int} (h:Eqv es u v):p u↔p v:=by
 induction h with
 |refl u=>exact Iff.rfl
 |edge h=>exact k _ h
 |symm _ ih=>exact ih.symm
 |trans _ _ i1 i2=>exact i1.trans i2
theorem Eqv.ends {es:List Eg}{u v:Int} (h:Eqv es u v):u=v∨((∃e∈es,u=e.1∨u=e.2)∧∃e∈es,v=e.1∨v=e.2):=by
 induction h with
 |refl u=>exact .inl rfl
 |edge h=>exact .inr ⟨⟨_,h,.inl rfl⟩,⟨_,h,.inr rfl⟩⟩
 |symm _ ih =>
  rcases ih with h | ⟨a,b⟩
  ·exact .inl h.symm
  ·exact .inr ⟨b,a⟩
 |trans _ _ i1 i2 =>
  rcases i1 with h | ⟨a,b⟩
  ·subst h;exact i2
  ·rcases i2 with h | ⟨c,d⟩
   ·subst h;exact .inr ⟨a,b⟩
   ·exact .inr ⟨a,d⟩
def rlb (f:Int→Int) (a b:Int):Int→Int:=fun v=>if f v=(if f a<f b then f b else f a) then (if f a<f b then f a else f b) else f v
def lls (f:Int→Int) (es:List Eg):Int→Int:=es.foldl (fun f e=>rlb f e.1 e.2) f
structure LL (es:List Eg) (f:Int→Int):Prop where
 own:∀v,Eqv es v (f v)
 one:∀e∈es,f e.1=f e.2
 low:∀v,0≤v→0≤f v∧f v≤v
theorem LL.nil:LL [] id:=⟨fun v=>.refl v,fun e h=>(by cases h),fun v h=>⟨h,zbm3 _⟩⟩
theorem LL.step {es:List Eg}{f:Int→Int} (h:LL es f) {e:Eg} (a0:0≤e.1) (b0:0≤e.2):LL (es++[e]) (rlb f e.1 e.2):=by
 have mo:∀ {u v},Eqv es u v→Eqv (es++[e]) u v:=fun q=>q.mono fun x hx=>zbd5 _ hx
 have ab:Eqv (es++[e]) (f e.1) (f e.2):=((mo (h.own e.1)).symm.trans (.edge (zbd3 _ (zbe2.mpr rfl)))).trans (mo (h.own e.2))
 refine⟨fun v=>?_,fun x hx=>?_,fun v hv=>?_⟩
 ·have o:=mo (h.own v)
  unfold rlb
  by_cases c:f e.1<f e.2
  ·simp only [if_pos c]
   split
   ·rename_i z;rw [z]at o;exact o.trans ab.symm
   ·exact o
  ·simp only [if_neg c]
   split
   ·rename_i z;rw [z]at o;exact o.trans ab
   ·exact o
 ·rcases zbd8.mp hx with z | z
  ·unfold rlb;rw [h.one x z]
  ·rw [zbe2.mp z]
   unfold rlb
   by_cases c:f e.1<f e.2
   ·simp only [if_pos c]
    rw [if_neg (by lia)]
    simp
   ·simp only [if_neg c]
    by_cases c2:f e.2=f e.1
    ·rw [c2];simp
    ·rw [if_neg c2]
     simp
 ·have l1:=h.low e.1 a0
  have l2:=h.low e.2 b0
  have l3:=h.low v hv
  unfold rlb
  by_cases c:f e.1<f e.2
  ·simp only [if_pos c]
   split<;>lia
  ·simp only [if_neg c]
   split<;>lia
theorem LL.run:∀(es es0:List Eg) {f:Int→Int},LL es0 f→(∀e∈es,0≤e.1∧0≤e.2)→LL (es0++es) (lls f es)
 |[],es0,f,h,_=>by rw [zbi4];exact h
 |e::es,es0,f,h,k=>by
  have:=LL.run es (es0++[e]) (h.step (k e (zbd7 ..)).1 (k e (zbd7 ..)).2) fun x hx=>k x (zbd6 _ hx)
  rw [zbj7]at this
  exact this
def ll (es:List Eg):Int→Int:=lls id es
theorem ll_ok {es:List Eg} (k:∀e∈es,0≤e.1∧0≤e.2):LL es (ll es):=LL.run es [] LL.nil k
theorem LL.iff {es:List Eg}{f:Int→Int} (h:LL es f) (u v:Int):f u=f v↔Eqv es u v:=by
 constructor
 ·intro e
  exact (h.own u).trans (e ▸ (h.own v).symm)
 ·intro q
  induction q with
  |refl u=>rfl
  |edge q=>exact h.one _ q
  |symm _ ih=>exact ih.symm
  |trans _ _ i1 i2=>exact i1.trans i2
theorem LL.zero {es:List Eg}{f:Int→Int} (h:LL es f) (v:Int):f v=0↔Eqv es 0 v:=by
 have z:f 0=0:=by have:=h.low 0 (zbm3 _);lia
 rw [← h.iff,z]
 exact⟨fun e=>e.symm,fun e=>e.symm⟩
theorem zag7 {V:List Int}{p q:Int→Bool} (h:∀v∈V,p v=true→q v=true):(V.filter p).length≤(V.filter q).length:=by
 induction V with
 |nil=>simp
 |cons a V ih =>
  have:=ih fun v hv=>h v (zbd6 _ hv)
  have ha:=h a (zbd7 ..)
  rw [zbh0,zbh0]
  cases hp:p a with
  |false=>cases q a<;>simp<;>lia
  |true=>rw [ha hp];simp;lia
theorem zaq4 {V:List Int} (nd:V.Nodup) {p q:Int→Bool}{x:Int} (h:∀v∈V,v≠x→p v=true→q v=true):(V.filter p).length≤(V.filter q).length+1:=by
 induction V with
 |nil=>simp
 |cons a V ih =>
  have n:=zbg3.mp nd
  have:=ih n.2 fun v hv=>h v (zbd6 _ hv)
  by_cases z:a=x
  ·have k:=zag7 (V:=V) (p:=p) (q:=q) fun v hv=>h v (zbd6 _ hv) fun y=>n.1 (by rw [z, ← y];exact hv)
   rw [zbh0,zbh0]
   cases p a<;>cases q a<;>simp<;>lia
  ·have ha:=h a (zbd7 ..) z
   rw [zbh0,zbh0]
   cases hp:p a with
   |false=>cases q a<;>simp<;>lia
   |true=>rw [ha hp];simp;lia
theorem zan9 {V:List Int} (nd:V.Nodup) {C:Int→Bool}:∀(es:List Eg) (f:Int→Int),(∀v,C (f v)=C v)→(∀e∈es,C e.1=C e.2) →
  (V.filter fun v=>C v&&decide (f v=v)).length≤(V.filter fun v=>C v&&decide (lls f es v=v)).length+(es.filter fun e=>C e.1).length
 |[],f,_,_=>zbk3 _ _
 |e::es,f,h1,h2=>by
  have ce:=h2 e (zbd7 ..)
  have hc:∀v,C (rlb f e.1 e.2 v)=C v:=fun v=>by
   unfold rlb
   by_cases c:f e.1<f e.2
   ·simp only [if_pos c]
    split
    ·rename_i z;rw [h1,ce, ← h1 e.2, ← z,h1]
    ·exact h1 v
   ·simp only [if_neg c]
    split
    ·rename_i z;rw [h1, ← ce, ← h1 e.1, ← z,h1]
    ·exact h1 v
  have ih:=zan9 nd es (rlb f e.1 e.2) hc fun x hx=>h2 x (zbd6 _ hx)
  have keep:∀v,v≠(if f e.1<f e.2 then f e.2 else f e.1)→f v=v→rlb f e.1 e.2 v=v:=fun v n z=>by
   unfold rlb
   rw [if_neg (by rw [z];exact n)]
   exact z
  have st:(V.filter fun v=>C v&&decide (f v=v)).length≤(V.filter fun v=>C v&&decide (rlb f e.1 e.2 v=v)).length+(if C e.1 then 1 else 0):=by
   cases cc:C e.1 with
   |true =>
    refine zaq4 nd (x:=if f e.1<f e.2 then f e.2 else f e.1) fun v _ n z=>?_
    simp only [zbe0,decide_eq_true_eq]at z ⊢
    exact⟨z.1,keep v n z.2⟩
   |false =>
    refine zag7 fun v _ z=>?_
    simp only [zbe0,decide_eq_true_eq]at z ⊢
    refine⟨z.1,keep v (fun y=>?_) z.2⟩
    have:C v=false:=by
     rw [y]
     split
     ·rw [h1, ← ce,cc]
     ·rw [h1,cc]
    rw [this]at z
    cases z.1
  show _≤(V.filter fun v=>C v&&decide (lls (rlb f e.1 e.2) es v=v)).length+_
  rw [zbh0]
  cases cc:C e.1 with
  |true=>rw [cc]at st;simp at st ⊢;lia
  |false=>rw [cc]at st;simp at st ⊢;lia
theorem comp_le {V:List Int} (nd:V.Nodup) {es:List Eg} (k:∀e∈es,0≤e.1∧0≤e.2):(V.filter fun v=>decide (ll es v=0)).length≤1+(es.filter fun e=>decide (ll es e.1=0)).length:=by
 have L:=ll_ok k
 have h:=zan9 nd (C:=fun v=>decide (ll es v=0)) es id (fun v=>rfl) fun e he=>by show decide (ll es e.1=0)=decide (ll es e.2=0);rw [L.one e he]
 have e1:(V.filter fun v=>decide (ll es v=0)&&decide (id v=v))=V.filter fun v=>decide (ll es v=0):=by
  congr 1
  funext v
  simp
 rw [e1]at h
 have e2:(V.filter fun v=>decide (ll es v=0)&&decide (lls id es v=v)).length≤1:=by
  have:=zaq4 nd (p:=fun v=>decide (ll es v=0)&&decide (lls id es v=v)) (q:=fun _=>false) (x:=0) fun v _ n z=>by
   simp only [zbe0,decide_eq_true_eq]at z
   exact absurd (z.2.symm.trans z.1) n
  rw [show (V.filter fun _=>false)=[] from List.filter_eq_nil_iff.mpr fun _ _=>by simp]at this
  exact this
 lia
theorem tree_iff {M:Nat} (hM:0<M) {es:List Eg} (k:∀e∈es,(0≤e.1∧e.1<(M:Int))∧0≤e.2∧e.2<(M:Int)) {V R P:List Int} (nV:V.Nodup) (mV:∀v,v∈V↔0≤v∧v<(M:Int)) (nR:R.Nodup) (mR:∀v,v∈R↔Eqv es 0 v) (nP:P.Nodup) (mP:∀v,v∈P↔v=0∨∃e∈es,v=e.1∨v=e.2) :
  ((V.filter fun v=>decide (ll es v=0)).length=es.length+1)↔(P.length=es.length+1∧zd6 R=zd6 P):=by
 have k':∀e∈es,0≤e.1∧0≤e.2:=fun e he=>⟨(k e he).1.1,(k e he).2.1⟩
 have L:=ll_ok k'
 have pR:(V.filter fun v=>decide (ll es v=0)).Perm R:=by
  refine (zbn5 (nV.sublist zbp5) nR).mpr fun v=>?_
  rw [zbk6,mV,mR,decide_eq_true_eq,L.zero]
  refine⟨fun z=>z.2,fun z=>⟨?_,z⟩⟩
  rcases z.ends with y | ⟨_,e,he,y | y⟩
  ·subst y;lia
  ·rw [y];exact (k e he).1
  ·rw [y];exact (k e he).2
 have sub:∀v∈R,v∈P:=fun v hv=>by
  rw [mP]
  rcases ((mR v).mp hv).ends with y | ⟨_,y⟩
  ·exact .inl y.symm
  ·exact .inr y
 constructor
 ·intro h
  have c:=comp_le nV k'
  have all:∀e∈es,decide (ll es e.1=0)=true:=by
   have:(es.filter fun e=>decide (ll es e.1=0)).length=es.length:=by
    have:=zbi2 (fun e:Eg=>decide (ll es e.1=0)) es
    lia
   exact List.length_filter_eq_length_iff.mp this
  have sup:∀v∈P,v∈R:=fun v hv=>by
   rw [mR]
   rcases (mP v).mp hv with y | ⟨e,he,y⟩
   ·rw [y];exact .refl 0
   ·have z:=(L.zero e.1).mp (by simpa using all e he)
    rcases y with y | y
    ·rw [y];exact z
    ·rw [y];exact z.trans (.edge he)
  have pp:R.Perm P:=(zbn5 nR nP).mpr fun v=>⟨sub v,sup v⟩
  refine⟨?_,zp0 (((zd5 R).trans pp).trans (zd5 P).symm) (zj1 R) (zj1 P)⟩
  rw [← pp.length_eq, ← pR.length_eq,h]
 ·rintro ⟨h1,h2⟩
  have:=congrArg List.length h2
  rw [(zd5 R).length_eq,(zd5 P).length_eq]at this
  rw [pR.length_eq,this,h1]
end KX
set_option maxHeartbeats 4000000
namespace KX
open PySem.Spec L2 DL
def top (i:Nat):Stmt:=PySem.Challenge.pw_nearenough_k70_trees_and_costs.main.body.getD i (.Pass ⟨0,0,0,0⟩)
abbrev zi6:Stmt:=top 1
abbrev zk4:Stmt:=top 3
abbrev zq8:Stmt:=top 5
abbrev zg9:Stmt:=top 6
abbrev zi7:Stmt:=top 7
abbrev zn9:Stmt:=top 9
abbrev zn8:Stmt:=top 10
abbrev zn5:Stmt:=top 11
abbrev zq7:Stmt:=top 12
abbrev zk5:Stmt:=top 13
abbrev zo0:Stmt:=top 14
abbrev zj2:Stmt:=top 15
abbrev zk6:Stmt:=top 16
abbrev zj3:Stmt:=top 17
abbrev zn6:Stmt:=top 18
abbrev zo1:Stmt:=top 19
abbrev zn7:Stmt:=top 20
abbrev s_law:Stmt:=top 21
structure Blt (mg:Str→Option Value):Prop where
 n_all:mg "all"=none
 n_bool:mg "bool"=none
 n_enumerate:mg "enumerate"=none
 n_int:mg "int"=none
 n_isinstance:mg "isinstance"=none
 n_len:mg "len"=none
 n_list:mg "list"=none
 n_max:mg "max"=none
 n_min:mg "min"=none
 n_range:mg "range"=none
 n_sorted:mg "sorted"=none
 n_sum:mg "sum"=none
 n_zip:mg "zip"=none
noncomputable section
variable {P:Program}{w:World}{K:zbd4}{mg:Str→Option Value}{base:BHeap}{ad:Addr}{fd:FuncData}
theorem zv5:FnScope ["web", "numbers", "many", "ties", "least", "at", "low", "high"] ["web", "numbers"] (zb4 zi6):=zm7 rfl rfl rfl rfl (by decide +kernel)
noncomputable def bdLl:DS:=(dSeq (zz0 (gkLst 2 (ze0 (za6 6) (ze0 (za6 7) zp9))) (dT1 zm5 (za2 (zg4 1 [4] (fsT (d2 kIx (dVar 3) (dVar 5))) (za6 0) zf8 (d2 kIx (dVar 1) (dVar 0))) dNil)))
  (dAsg 4 (zg4 1 [6,7] (fsL (dVar 4)) (za6 0) zf8 (dIf (dBo (d2 kEq (dVar 0) (dVar 2))) (dVar 1) (dVar 0)))))
noncomputable def zk9:DS :=
 (dSeq (zz0 (zr5 2 (ze0 (za6 2) (ze0 (za6 3) zp9))) (dVar 0)) (dSeq (dAsg 4 (zah3 (za2 (dVar 2) dNil))) (dSeq (dFor (za6 5) (dVar 1) bdLl) (zah2 4))))
def zf5:List D→Option Ev:=mkG 2 ["web", "numbers", "many", "ties", "least", "at", "low", "high"] zk9
theorem zw8 (Fn:L2.Fun K "least_led_to" "least_led_to" zi6 ad fd) (bu:Blt mg) :FnOk P w K mg base CX0 1 ad fd ["web", "numbers"] (spD K zf5):=by
 have SC:=zv5
 refine zn4 (k:=0) Fn SC (fun _ _ e=>zj7 e) zk9 (fun _ _ e=>zm9 e) (fun cdv A outer s H E F hr=>?_)
 refine zc1 ?_ ?_
 ·exact (zak2 (za0 0) (zap1 rfl (zi8 (zc5 (i:=2) SC.nd rfl (zb3 rfl)) (zi8 (zc5 (i:=3) SC.nd rfl (zb3 rfl)) zw5))) (zan3 (zi5 (zc4 2) (zi5 (zc4 3) zv3))))
 refine zc1 ?_ ?_
 ·exact (zd3 (i:=4) SC.nd rfl (zb3 rfl) (zaw7 rfl rfl bu.n_list rfl bu.n_range (za3 (za0 2) zb0)))
 refine zc1 ?_ ?_
 ·exact (zak1 PassesOwn.never rfl (za0 1) (zc5 (i:=5) SC.nd rfl (zb3 rfl)) (zc4 5) (zc1 (zak2 (zb8 zr9 rfl bu.n_sorted boot_sorted (za3 (zh0 1 [4] ["end", "least"] rfl (zac4 (zc7 (za0 3) (za0 5))) (fun _ _ _ _ _=>(zc5 (i:=0) (show List.Nodup (["end", "least"]:List Str) by decide +kernel) rfl (zb3 rfl))) (fun _=>(zc4 0)) (fun _ _ _ _ _ _=>zl9) (fun _ _ _ _ _ _=>(zc7 (za0 1) (za0 0)))) zb0)) (pg_lst rfl (zi8 (zc5 (i:=6) SC.nd rfl (zb3 rfl)) (zi8 (zc5 (i:=7) SC.nd rfl (zb3 rfl)) zw5))) (tg_lst (zi5 (zc4 6) (zi5 (zc4 7) zv3))))
  (zc9 (zd3 (i:=4) SC.nd rfl (zb3 rfl) (zh0 1 [6,7] ["own", "low", "high"] rfl (zr1 (za0 4)) (fun _ _ _ _ _=>(zc5 (i:=0) (show List.Nodup (["own", "low", "high"]:List Str) by decide +kernel) rfl (zb3 rfl))) (fun _=>(zc4 0)) (fun _ _ _ _ _ _=>zl9) (fun _ _ _ _ _ _=>(ped_if (zd0 (zp6 hr.units) (za0 0) (za0 2)) (za0 1) (za0 0))))))))
 exact zc9 (zu2 4)
theorem zab2:FnScope ["numbers", "many"] ["numbers", "many"] (zb4 zk4):=zm7 rfl rfl rfl rfl (by decide +kernel)
noncomputable def zn2:DS :=
 (dRet (dT1 (kBls fun bs=>bs.all id) (za2 (zg4 2 [] (fsZ (d2 qA (dT1 kLst (za2 (d1 kNeg (dC (.int 1))) dNil)) (dVar 0)) (d2 qA (dVar 0) (dT1 kLst (za2 (dVar 1) dNil)))) (zr5 2 (ze0 (za6 0) (ze0 (za6 1) zp9))) zf8 (d2 qL (dVar 0) (dVar 1))) dNil)))
def zg7:List D→Option Ev:=mkG 2 ["numbers", "many"] zn2
theorem zac8 (Fn:L2.Fun K "rise_below" "rise_below" zk4 ad fd) (bu:Blt mg) :FnOk P w K mg base CX0 1 ad fd ["numbers", "many"] (spD K zg7):=by
 have SC:=zab2
 refine zn4 (k:=0) Fn SC (fun _ _ e=>zj7 e) zn2 (fun _ _ e=>zm9 e) (fun cdv A outer s H E F hr=>?_)
 exact zc9 (zf2 (zb8 (cd_bls (zz1 rfl)) rfl bu.n_all (by decide +kernel) (za3 (zh0 2 [] ["low", "high"] rfl (pid_zip rfl bu.n_zip (zd4 (od_add.or ze6) (zh8 (za3 (zaw6 za4) zb0)) (za0 0)) (zd4 (od_add.or ze6) (za0 0) (zh8 (za3 (za0 1) zb0)))) (fun _ _ _ _ _=>(zap1 rfl (zi8 (zc5 (i:=0) (show List.Nodup (["low", "high"]:List Str) by decide +kernel) rfl (zb3 rfl)) (zi8 (zc5 (i:=1) (show List.Nodup (["low", "high"]:List Str) by decide +kernel) rfl (zb3 rfl)) zw5)))) (fun _=>(zan3 (zi5 (zc4 0) (zi5 (zc4 1) zv3)))) (fun _ _ _ _ _ _=>zl9) (fun _ _ _ _ _ _=>(zs3 zas8 (za0 0) (za0 1)))) zb0)))
theorem zas2:FnScope ["web", "ties"] ["web", "ties"] (zb4 zq8):=zm7 rfl rfl rfl rfl (by decide +kernel)
noncomputable def zx6:DS :=
 (dSeq (dIfS (dNot (dTr (dT1 (zf0 zg7) (za2 (dVar 1) (za2 (dT1 kLen (za2 (d2 kIx (dVar 0) (dC (.int 1))) dNil)) dNil))))) (dRet (dC (.bl false))) zi0) (dRet (d2 kEq (d2 kCnt (dT1 (zf0 zf5) (za2 (dVar 0) (za2 (dVar 1) dNil))) (dC (.int 0))) (d2 qA (dT1 kLen (za2 (dVar 1) dNil)) (dC (.int 1))))))
def zl6:List D→Option Ev:=mkG 2 ["web", "ties"] zx6
theorem zas7 (Fn:L2.Fun K "is_tree" "is_tree" zq8 ad fd) (bu:Blt mg) (c_rise_below:Cal P w K mg base "rise_below" 1 zg7) (c_least_led_to:Cal P w K mg base "least_led_to" 1 zf5):FnOk P w K mg base CX0 2 ad fd ["web", "ties"] (spD K zl6):=by
 have SC:=zas2
 refine zn4 (k:=1) Fn SC (fun _ _ e=>zj7 e) zx6 (fun _ _ e=>zm9 e) (fun cdv A outer s H E F hr=>?_)
 refine zc1 ?_ ?_
 ·exact (zl2 (zac0 (zw2 (ze9 c_rise_below (hr.mono (by decide)) (za3 (za0 1) (za3 (zb8 zk2 rfl bu.n_len PySem.boot_len (za3 (zc7 (za0 0) za4) zb0)) zb0))))) (zc9 (zf2 zw7)) zh7)
 exact zc9 (zf2 (zs3 (zp6 hr.units) (zaw8 (ze9 c_least_led_to (hr.mono (by decide)) (za3 (za0 0) (za3 (za0 1) zb0))) za4) (zd4 (od_add.or ze6) (zb8 zk2 rfl bu.n_len PySem.boot_len (za3 (za0 1) zb0)) za4)))
theorem zt4:FnScope ["web", "fees", "ties", "ends"] ["web", "fees", "ties"] (zb4 zg9):=zm7 rfl rfl rfl rfl (by decide +kernel)
noncomputable def zj8:DS :=
 (dSeq (dAsg 3 (zx8 2 [0] (fsL (dVar 2)) (za6 0) zf8 (fsT (d2 kIx (d2 kIx (dVar 2) (dC (.int 1))) (dVar 0))) (za6 1) zf8 (dVar 1) (dC (.bl true)))) (dRet (dT1 kSum (za2 (zg4 1 [3,1] (fsR2 (dC (.int 1)) (d2 kIx (dVar 0) (dC (.int 0)))) (za6 0) (dBo (d2 (kInD true) (dVar 0) (dVar 1))) (d2 kIx (dVar 2) (dVar 0))) dNil))))
def zg0:List D→Option Ev:=mkG 3 ["web", "fees", "ties", "ends"] zj8
theorem zt6 (Fn:L2.Fun K "fees_left_out" "fees_left_out" zg9 ad fd) (bu:Blt mg) :FnOk P w K mg base CX0 1 ad fd ["web", "fees", "ties"] (spD K zg0):=by
 have SC:=zt4
 refine zn4 (k:=0) Fn SC (fun _ _ e=>zj7 e) zj8 (fun _ _ e=>zm9 e) (fun cdv A outer s H E F hr=>?_)
 refine zc1 ?_ ?_
 ·exact (zd3 (i:=3) SC.nd rfl (zb3 rfl) (zak8 2 [0] ["at", "end", "web"] rfl (zr1 (za0 2)) (fun _ _ _ _ _=>(zc5 (i:=0) (show List.Nodup (["at", "end", "web"]:List Str) by decide +kernel) rfl (zb3 rfl))) (fun _=>(zc4 0)) (fun _ _ _ _ _ _=>zl9) (fun _ _ _ _ _ _=>(zac4 (zc7 (zc7 (za0 2) za4) (za0 0)))) (fun _ _ _ _ _=>(zc5 (i:=1) (show List.Nodup (["at", "end", "web"]:List Str) by decide +kernel) rfl (zb3 rfl))) (fun _=>(zc4 1)) (fun _ _ _ _ _ _=>zl9) (fun _ _ _ _ _ _=>(za0 1)) (fun _ _ _ _ _ _=>zw7)))
 exact zc9 (zf2 (zb8 (zar1 rfl) rfl bu.n_sum (by decide +kernel) (za3 (zh0 1 [3,1] ["point", "ends", "fees"] rfl (zap0 rfl bu.n_range za4 (zc7 (za0 0) za4)) (fun _ _ _ _ _=>(zc5 (i:=0) (show List.Nodup (["point", "ends", "fees"]:List Str) by decide +kernel) rfl (zb3 rfl))) (fun _=>(zc4 0)) (fun _ _ _ _ _ _=>(zq9 (zd0 (od_ninD hr.units) (za0 0) (za0 1)))) (fun _ _ _ _ _ _=>(zc7 (za0 2) (za0 0)))) zb0)))
theorem zv6:FnScope ["web", "weights", "fees", "ties"] ["web", "weights", "fees", "ties"] (zb4 zi7):=zm7 rfl rfl rfl rfl (by decide +kernel)
noncomputable def zl0:DS :=
 (dRet (d2 qA (dT1 kSum (za2 (zg4 1 [1] (fsL (dVar 3)) (za6 0) zf8 (d2 kIx (dVar 1) (dVar 0))) dNil)) (dT1 (zf0 zg0) (za2 (dVar 0) (za2 (dVar 2) (za2 (dVar 3) dNil))))))
def ze5:List D→Option Ev:=mkG 4 ["web", "weights", "fees", "ties"] zl0
theorem zw9 (Fn:L2.Fun K "cost_of_tree" "cost_of_tree" zi7 ad fd) (bu:Blt mg) (c_fees_left_out:Cal P w K mg base "fees_left_out" 1 zg0):FnOk P w K mg base CX0 2 ad fd ["web", "weights", "fees", "ties"] (spD K ze5):=by
 have SC:=zv6
 refine zn4 (k:=1) Fn SC (fun _ _ e=>zj7 e) zl0 (fun _ _ e=>zm9 e) (fun cdv A outer s H E F hr=>?_)
 exact zc9 (zf2 (zd4 (od_add.or ze6) (zb8 (zar1 rfl) rfl bu.n_sum (by decide +kernel) (za3 (zh0 1 [1] ["at", "weights"] rfl (zr1 (za0 3)) (fun _ _ _ _ _=>(zc5 (i:=0) (show List.Nodup (["at", "weights"]:List Str) by decide +kernel) rfl (zb3 rfl))) (fun _=>(zc4 0)) (fun _ _ _ _ _ _=>zl9) (fun _ _ _ _ _ _=>(zc7 (za0 1) (za0 0)))) zb0)) (ze9 c_fees_left_out (hr.mono (by decide)) (za3 (za0 0) (za3 (za0 2) (za3 (za0 3) zb0))))))
theorem zaj6:FnScope ["_law_script", "_law_k", "_law_cell", "_law_number"] ["_law_script", "_law_k"] (zb4 zn9):=zm7 rfl rfl rfl rfl (by decide +kernel)
noncomputable def zs5:DS :=
 (dSeq (dAsg 2 (dC (.int 0))) (dSeq (dIfS (dBo (d2 qL (dVar 1) (dT1 kLen (za2 (dVar 0) dNil)))) (dAsg 2 (d2 kIx (dVar 0) (dVar 1))) zi0) (dSeq (dAsg 3 (d2 qR (d2 qP (d2 qA (d2 qA (d2 qR (dVar 2) (dC (.int 2147483629))) (d2 qM (d2 qM (dC (.int 104729)) (dVar 1)) (dVar 1))) (dC (.int 11))) (dC (.int 3))) (dC (.int 2147483647)))) (dSeq (dIfS (dBo (d2 qL (dVar 2) (d2 qP (dC (.int 10)) (dC (.int 18))))) (dAsg 2 (dC (.int 0))) zi0) (dRet (dT1 kLst (za2 (dVar 2) (za2 (dVar 3) dNil))))))))
def zg2:List D→Option Ev:=mkG 2 ["_law_script", "_law_k", "_law_cell", "_law_number"] zs5
theorem zal3 (Fn:L2.Fun K "_law_pool" "_law_pool" zn9 ad fd) (bu:Blt mg) :FnOk P w K mg base CX0 1 ad fd ["_law_script", "_law_k"] (spD K zg2):=by
 have SC:=zaj6
 refine zn4 (k:=0) Fn SC (fun _ _ e=>zj7 e) zs5 (fun _ _ e=>zm9 e) (fun cdv A outer s H E F hr=>?_)
 refine zc1 ?_ ?_
 ·exact (zd3 (i:=2) SC.nd rfl (zb3 rfl) za4)
 refine zc1 ?_ ?_
 ·exact (zl2 (zd0 zas8 (za0 1) (zb8 zk2 rfl bu.n_len PySem.boot_len (za3 (za0 0) zb0))) (zc9 (zd3 (i:=2) SC.nd rfl (zb3 rfl) (zc7 (za0 0) (za0 1)))) zh7)
 refine zc1 ?_ ?_
 ·exact (zd3 (i:=3) SC.nd rfl (zb3 rfl) (zd4 zx0 (zd4 zap4 (zd4 (od_add.or ze6) (zd4 (od_add.or ze6) (zd4 zx0 (za0 2) za4) (zd4 (od_mul.or zz8) (zd4 (od_mul.or zz8) za4 (za0 1)) (za0 1))) za4) za4) za4))
 refine zc1 ?_ ?_
 ·exact (zl2 (zd0 zas8 (za0 2) (zd4 zap4 za4 za4)) (zc9 (zd3 (i:=2) SC.nd rfl (zb3 rfl) za4)) zh7)
 exact zc9 (zf2 (zh8 (za3 (za0 2) (za3 (za0 3) zb0))))
theorem zaj5:FnScope ["_law_pool_here", "_law_many", "_law_found"] ["_law_pool_here", "_law_many"] (zb4 zn8):=zm7 rfl rfl rfl rfl (by decide +kernel)
noncomputable def zaa5 (p:Addr):WS za1 :=
 (sSeq (sIf (tBo (eOp qG (ePg p 0 0) (eLf za1 (dC (.int 0))))) (sSeq (sAsg 2 (eOp qR (ePg p 0 0) (eLf za1 (dVar 1))))
  (sSeq (sPs p 0 0 (eOp qV (ePg p 0 0) (eLf za1 (dVar 1))))
  (sLf za1 (zah2 2)))) zv7)
  (sSeq (sPs p 0 1 (eOp qR (eOp qA (eOp qM (ePg p 0 1) (eLf za1 (dC (.int 48271)))) (eLf za1 (dC (.int 11)))) (eLf za1 (dC (.int 2147483647)))))
  (sRet (eOp qR (eOp qV (eOp qR (eOp qM (ePg p 0 1) (ePg p 0 1)) (eLf za1 (dC (.int 2147483629)))) (eLf za1 (dC (.int 64)))) (eLf za1 (dVar 1))))))
def za7:Int×Int→List D→Option (Ev×(Int×Int)):=mkW (ρ:=za1) 2 ["_law_pool_here", "_law_many", "_law_found"] zaa5
theorem zal2 (Fn:L2.Fun K "_law_take" "_law_take" zn8 ad fd) (bu:Blt mg) :FnOk P w K mg base CX0 1 ad fd ["_law_pool_here", "_law_many"] (spX za1 K za7):=by
 have SC:=zaj5
 refine zq0 zak4 (k:=0) (m:=2) Fn SC rfl zaa5 (fun cdv A outer s H E F p hr=>?_)
 refine zc0 ?_ ?_
 ·exact (zw3 (zab9 (fun _=>od_gt) (zz6 0) (za5 fun _=>za4)) (zc0 (zh6 (i:=2) SC.nd rfl (zb3 rfl) (zh5 (fun _=>zx0) (zz6 0) (za5 fun _=>(za0 1))))
  (zc0 (psw_ps 0 (zh5 (fun _=>od_div) (zz6 0) (za5 fun _=>(za0 1))))
  (zf6 (ze7 fun F=>(zu2 2))))) zp4)
 refine zc0 ?_ ?_
 ·exact (psw_ps 0 (zh5 (fun _=>zx0) (zh5 (fun _=>(od_add.or ze6)) (zh5 (fun _=>(od_mul.or zz8)) (zz6 0) (za5 fun _=>za4)) (za5 fun _=>za4)) (za5 fun _=>za4)))
 exact zf6 (zp3 (zh5 (fun _=>zx0) (zh5 (fun _=>od_div) (zh5 (fun _=>zx0) (zh5 (fun _=>(od_mul.or zz8)) (zz6 0) (zz6 0)) (za5 fun _=>za4)) (za5 fun _=>za4)) (za5 fun _=>(za0 1))))
theorem zaj2:FnScope ["_law_pool_here", "_law_many"] ["_law_pool_here", "_law_many"] (zb4 zn5):=zm7 rfl rfl rfl rfl (by decide +kernel)
noncomputable def zaa2 (p:Addr):WS za1 :=
 (sRet (eOp qR (eOp qA (eOp qM (eX p za7 (zb1 (eLf za1 (dVar 0)) (zb1 (eLf za1 (dC (.int 1000003))) aNil))) (eLf za1 (dC (.int 1000003)))) (eX p za7 (zb1 (eLf za1 (dVar 0)) (zb1 (eLf za1 (dC (.int 1000003))) aNil)))) (eLf za1 (dVar 1))))
def zi1:Int×Int→List D→Option (Ev×(Int×Int)):=mkW (ρ:=za1) 2 ["_law_pool_here", "_law_many"] zaa2
theorem zak9 (Fn:L2.Fun K "_law_wide" "_law_wide" zn5 ad fd) (bu:Blt mg) (c_law_take:CalX za1 P w K mg base "_law_take" 1 za7):FnOk P w K mg base CX0 2 ad fd ["_law_pool_here", "_law_many"] (spX za1 K zi1):=by
 have SC:=zaj2
 refine zq0 zak4 (k:=1) (m:=2) Fn SC rfl zaa2 (fun cdv A outer s H E F p hr=>?_)
 exact zf6 (zp3 (zh5 (fun _=>zx0) (zh5 (fun _=>(od_add.or ze6)) (zh5 (fun _=>(od_mul.or zz8)) (zb7 c_law_take (hr.mono (by decide)) (za8 (za5 fun _=>za0 0) (za8 (za5 fun _=>za4) zc6))) (za5 fun _=>za4)) (zb7 c_law_take (hr.mono (by decide)) (za8 (za5 fun _=>za0 0) (za8 (za5 fun _=>za4) zc6)))) (za5 fun _=>(za0 1))))
theorem zas1:FnScope ["_law_pool_here", "_law_most", "_law_many", "_law_dense", "_law_line", "_law_ties_here", "_law_one", "_law_other"] ["_law_pool_here", "_law_most"] (zb4 zq7):=zm7 rfl rfl rfl rfl (by decide +kernel)
noncomputable def zag4 (p:Addr):WS za1 :=
 (sSeq (sAsg 2 (eOp qA (eLf za1 (dC (.int 1))) (eX p za7 (zb1 (eLf za1 (dVar 0)) (zb1 (eLf za1 (dVar 1)) aNil)))))
  (sSeq (sAsg 3 (eOp kIx (eLf za1 (dT1 kLst (za2 (dC (.int 2)) (za2 (dC (.int 3)) (za2 (dC (.int 6)) dNil))))) (eX p za7 (zb1 (eLf za1 (dVar 0)) (zb1 (eLf za1 (dC (.int 3))) aNil)))))
  (sSeq (sAsg 4 (eX p za7 (zb1 (eLf za1 (dVar 0)) (zb1 (eLf za1 (dC (.int 3))) aNil))))
  (sSeq (sLf za1 (dAsg 5 (dT1 kLst dNil)))
  (sSeq (zab7 (za6 6) (iLf za1 (fsR1 (dVar 2))) (zab7 (za6 7) (iLf za1 (fsR2 (d2 qA (dVar 6) (dC (.int 1))) (dVar 2))) (sIf (tOr (tBo (eOp kEq (eX p za7 (zb1 (eLf za1 (dVar 0)) (zb1 (eLf za1 (dVar 3)) aNil))) (eLf za1 (dC (.int 0))))) (tLf za1 (dAnd (dBo (d2 qG (dVar 4) (dC (.int 0)))) (dBo (d2 kEq (dVar 7) (d2 qA (dVar 6) (dC (.int 1)))))))) (sLf za1 (dApp 5 (dT1 kTup (za2 (dVar 6) (za2 (dVar 7) dNil))))) zv7)))
  (sLf za1 (dFrz 5 (dRet (dT1 kTup (za2 (dVar 2) (za2 (dVar 5) dNil)))))))))))
noncomputable def zl4:Int×Int→List D→Option (Ev×(Int×Int)):=mkW (ρ:=za1) 2 ["_law_pool_here", "_law_most", "_law_many", "_law_dense", "_law_line", "_law_ties_here", "_law_one", "_law_other"] zag4
theorem zas6 (Fn:L2.Fun K "_law_web" "_law_web" zq7 ad fd) (bu:Blt mg) (c_law_take:CalX za1 P w K mg base "_law_take" 1 za7):FnOk P w K mg base CX0 2 ad fd ["_law_pool_here", "_law_most"] (spX za1 K zl4):=by
 have SC:=zas1
 refine zq0 zak4 (k:=1) (m:=2) Fn SC rfl zag4 (fun cdv A outer s H E F p hr=>?_)
 refine zc0 ?_ ?_
 ·exact (zh6 (i:=2) SC.nd rfl (zb3 rfl) (zh5 (fun _=>(od_add.or ze6)) (za5 fun _=>za4) (zb7 c_law_take (hr.mono (by decide)) (za8 (za5 fun _=>za0 0) (za8 (za5 fun _=>(za0 1)) zc6)))))
 refine zc0 ?_ ?_
 ·exact (zh6 (i:=3) SC.nd rfl (zb3 rfl) (zaf2 (za5 fun _=>(zh8 (za3 za4 (za3 za4 (za3 za4 zb0))))) (zb7 c_law_take (hr.mono (by decide)) (za8 (za5 fun _=>za0 0) (za8 (za5 fun _=>za4) zc6)))))
 refine zc0 ?_ ?_
 ·exact (zh6 (i:=4) SC.nd rfl (zb3 rfl) (zb7 c_law_take (hr.mono (by decide)) (za8 (za5 fun _=>za0 0) (za8 (za5 fun _=>za4) zc6))))
 refine zc0 ?_ ?_
 ·exact (ze7 fun F=>(zd3 (i:=5) SC.nd rfl (zb3 rfl) (zh8 zb0)))
 refine zc0 ?_ ?_
 ·exact (zac1 PassesOwn.never rfl (zr0 fun _=>(zu3 rfl bu.n_range (za0 2))) (zc5 (i:=6) SC.nd rfl (zb3 rfl)) (fun _=>(zc4 6)) (zf6 (zac1 PassesOwn.never rfl (zr0 fun _=>(zap0 rfl bu.n_range (zd4 (od_add.or ze6) (za0 6) za4) (za0 2))) (zc5 (i:=7) SC.nd rfl (zb3 rfl)) (fun _=>(zc4 7)) (zf6 (zw3 (PW.ptw (pww_or (zab9 (fun _=>(zp6 hr.units)) (zb7 c_law_take (hr.mono (by decide)) (za8 (za5 fun _=>za0 0) (za8 (za5 fun _=>(za0 3)) zc6))) (za5 fun _=>za4)) (pww_one (zo2 fun _=>(L2.PW.pt (zab8 (zd0 od_gt (za0 4) za4) (zu1 (zd0 (zp6 hr.units) (za0 7) (zd4 (od_add.or ze6) (za0 6) za4))))))))) (zf6 (ze7 fun F=>(zac3 5 (zak6 (za3 (za0 6) (za3 (za0 7) zb0)))))) zp4)))))
 exact zf6 (ze7 fun F=>(zac2 5 (zf2 (zak6 (za3 (za0 2) (za3 (za0 5) zb0))))))
theorem zab3:FnScope ["_law_pool_here", "_law_way"] ["_law_pool_here"] (zb4 zk5):=zm7 rfl rfl rfl rfl (by decide +kernel)
noncomputable def zt1 (p:Addr):WS za1 :=
 (sSeq (sAsg 1 (eX p za7 (zb1 (eLf za1 (dVar 0)) (zb1 (eLf za1 (dC (.int 8))) aNil))))
  (sSeq (sLf za1 (dIfS (dBo (d2 kEq (dVar 1) (dC (.int 0)))) (dRet (dC (.int 0))) zi0))
  (sSeq (sIf (tLf za1 (dBo (d2 qL (dVar 1) (dC (.int 6))))) (sRet (eX p za7 (zb1 (eLf za1 (dVar 0)) (zb1 (eLf za1 (dC (.int 10))) aNil)))) zv7)
  (sRet (eX p zi1 (zb1 (eLf za1 (dVar 0)) (zb1 (eLf za1 (d2 qA (d2 qP (dC (.int 10)) (dC (.int 12))) (dC (.int 1)))) aNil)))))))
def ze3:Int×Int→List D→Option (Ev×(Int×Int)):=mkW (ρ:=za1) 1 ["_law_pool_here", "_law_way"] zt1
theorem zac9 (Fn:L2.Fun K "_law_weight" "_law_weight" zk5 ad fd) (bu:Blt mg) (c_law_take:CalX za1 P w K mg base "_law_take" 1 za7) (c_law_wide:CalX za1 P w K mg base "_law_wide" 2 zi1):FnOk P w K mg base CX0 3 ad fd ["_law_pool_here"] (spX za1 K ze3):=by
 have SC:=zab3
 refine zq0 zak4 (k:=2) (m:=1) Fn SC rfl zt1 (fun cdv A outer s H E F p hr=>?_)
 refine zc0 ?_ ?_
 ·exact (zh6 (i:=1) SC.nd rfl (zb3 rfl) (zb7 c_law_take (hr.mono (by decide)) (za8 (za5 fun _=>za0 0) (za8 (za5 fun _=>za4) zc6))))
 refine zc0 ?_ ?_
 ·exact (ze7 fun F=>(zl2 (zd0 (zp6 hr.units) (za0 1) za4) (zc9 (zf2 za4)) zh7))
 refine zc0 ?_ ?_
 ·exact (zw3 (zo2 fun _=>(zd0 zas8 (za0 1) za4)) (zf6 (zp3 (zb7 c_law_take (hr.mono (by decide)) (za8 (za5 fun _=>za0 0) (za8 (za5 fun _=>za4) zc6))))) zp4)
 exact zf6 (zp3 (zb7 c_law_wide (hr.mono (by decide)) (za8 (za5 fun _=>za0 0) (za8 (za5 fun _=>(zd4 (od_add.or ze6) (zd4 zap4 za4 za4) za4)) zc6))))
theorem zaj7:FnScope ["_law_pool_here", "_law_many", "_law_great"] ["_law_pool_here", "_law_many"] (zb4 zo0):=zm7 rfl rfl rfl rfl (by decide +kernel)
noncomputable def zaa6 (p:Addr):WS za1 :=
 (sSeq (sAsg 2 (eOp kIx (eLf za1 (dT1 kLst (za2 (dC (.int 10)) (za2 (dC (.int 40)) (za2 (d2 qA (d2 qP (dC (.int 10)) (dC (.int 12))) (dC (.int 1))) dNil))))) (eX p za7 (zb1 (eLf za1 (dVar 0)) (zb1 (eLf za1 (dC (.int 3))) aNil)))))
  (sRet (zq3 1 [0,2] (iLf za1 (fsR1 (dVar 1))) (za6 0) zv4 (eOp kIx (eT1 kLst (zb1 (eLf za1 (dC (.int 0))) (zb1 (eX p zi1 (zb1 (eLf za1 (dVar 1)) (zb1 (eLf za1 (dVar 2)) aNil))) aNil))) (eT1 zat2 (zb1 (eOp qG (eX p za7 (zb1 (eLf za1 (dVar 1)) (zb1 (eLf za1 (dC (.int 5))) aNil))) (eLf za1 (dC (.int 0)))) aNil))))))
def zi3:Int×Int→List D→Option (Ev×(Int×Int)):=mkW (ρ:=za1) 2 ["_law_pool_here", "_law_many", "_law_great"] zaa6
theorem zal4 (Fn:L2.Fun K "_law_fees" "_law_fees" zo0 ad fd) (bu:Blt mg) (c_law_take:CalX za1 P w K mg base "_law_take" 1 za7) (c_law_wide:CalX za1 P w K mg base "_law_wide" 2 zi1):FnOk P w K mg base CX0 3 ad fd ["_law_pool_here", "_law_many"] (spX za1 K zi3):=by
 have SC:=zaj7
 refine zq0 zak4 (k:=2) (m:=2) Fn SC rfl zaa6 (fun cdv A outer s H E F p hr=>?_)
 refine zc0 ?_ ?_
 ·exact (zh6 (i:=2) SC.nd rfl (zb3 rfl) (zaf2 (za5 fun _=>(zh8 (za3 za4 (za3 za4 (za3 (zd4 (od_add.or ze6) (zd4 zap4 za4 za4) za4) zb0))))) (zb7 c_law_take (hr.mono (by decide)) (za8 (za5 fun _=>za0 0) (za8 (za5 fun _=>za4) zc6)))))
 exact zf6 (zp3 (zw6 1 [0,2] ["_law_point", "_law_pool_here", "_law_great"] rfl (zr0 fun _=>(zu3 rfl bu.n_range (za0 1))) (fun _ _ _ _ _=>(zc5 (i:=0) (show List.Nodup (["_law_point", "_law_pool_here", "_law_great"]:List Str) by decide +kernel) rfl (zb3 rfl))) (fun _=>(zc4 0)) (fun _ _ _ _ _ _=>zao5) (fun _ _ _ _ _ _=>(zaf2 (zac5 (za8 (za5 fun _=>za4) (za8 (zb7 c_law_wide (hr.mono (by decide)) (za8 (za5 fun _=>za0 1) (za8 (za5 fun _=>(za0 2)) zc6))) zc6))) (zaw3 (fun _=>cd_intB) rfl bu.n_int bt_int (za8 (pew_cmp (fun _=>od_gt) (zb7 c_law_take (hr.mono (by decide)) (za8 (za5 fun _=>za0 1) (za8 (za5 fun _=>za4) zc6))) (za5 fun _=>za4)) zc6))))))
theorem zy5:FnScope ["_law_web_here", "_law_ties_here", "_law_start", "_law_found", "_law_at", "_law_number", "_law_one", "_law_other"] ["_law_web_here", "_law_ties_here", "_law_start"] (zb4 zj2):=zm7 rfl rfl rfl rfl (by decide +kernel)
noncomputable def bdR1:DS:=(dSeq (zz0 (zr5 2 (ze0 (za6 6) (ze0 (za6 7) zp9))) (d2 kIx (d2 kIx (dVar 0) (dC (.int 1))) (dVar 5)))
  (dSeq (dIfS (dAnd (dBo (d2 kEq (dVar 6) (d2 kIx (dVar 3) (dVar 4)))) (dBo (d2 kNin (dVar 7) (dVar 3)))) (dApp 3 (dVar 7)) zi0)
  (dIfS (dAnd (dBo (d2 kEq (dVar 7) (d2 kIx (dVar 3) (dVar 4)))) (dBo (d2 kNin (dVar 6) (dVar 3)))) (dApp 3 (dVar 6)) zi0)))
def bdRw:DS:=(dSeq (dFor (za6 5) (dVar 1) bdR1) (dAsg 4 (d2 qA (dVar 4) (dC (.int 1)))))
noncomputable def zm1:DS :=
 (dSeq (dAsg 3 (dT1 kLst (za2 (dVar 2) dNil))) (dSeq (dAsg 4 (dC (.int 0))) (dSeq (zbb2 (fun t=>100) (dBo (d2 qL (dVar 4) (dT1 kLen (za2 (dVar 3) dNil)))) bdRw) (zah2 3))))
noncomputable def zg1:List D→Option Ev:=mkG 3 ["_law_web_here", "_law_ties_here", "_law_start", "_law_found", "_law_at", "_law_number", "_law_one", "_law_other"] zm1
theorem zy8 (Fn:L2.Fun K "_law_reached" "_law_reached" zj2 ad fd) (bu:Blt mg) :FnOk P w K mg base CX0 1 ad fd ["_law_web_here", "_law_ties_here", "_law_start"] (spD K zg1):=by
 have SC:=zy5
 refine zn4 (k:=0) Fn SC (fun _ _ e=>zj7 e) zm1 (fun _ _ e=>zm9 e) (fun cdv A outer s H E F hr=>?_)
 refine zc1 ?_ ?_
 ·exact (zd3 (i:=3) SC.nd rfl (zb3 rfl) (zh8 (za3 (za0 2) zb0)))
 refine zc1 ?_ ?_
 ·exact (zd3 (i:=4) SC.nd rfl (zb3 rfl) za4)
 refine zc1 ?_ ?_
 ·exact (zav8 (fun t=>100) PassesOwn.never (zd0 zas8 (za0 4) (zb8 zk2 rfl bu.n_len PySem.boot_len (za3 (za0 3) zb0))) (zc1 (zak1 PassesOwn.never rfl (za0 1) (zc5 (i:=5) SC.nd rfl (zb3 rfl)) (zc4 5) (zc1 (zak2 (zc7 (zc7 (za0 0) za4) (za0 5)) (zap1 rfl (zi8 (zc5 (i:=6) SC.nd rfl (zb3 rfl)) (zi8 (zc5 (i:=7) SC.nd rfl (zb3 rfl)) zw5))) (zan3 (zi5 (zc4 6) (zi5 (zc4 7) zv3))))
  (zc1 (zl2 (L2.PW.pt (zab8 (zd0 (zp6 hr.units) (za0 6) (zc7 (za0 3) (za0 4))) (zu1 (zd0 zz9 (za0 7) (za0 3))))) (zc9 (zac3 3 (za0 7))) zh7)
  (zc9 (zl2 (L2.PW.pt (zab8 (zd0 (zp6 hr.units) (za0 7) (zc7 (za0 3) (za0 4))) (zu1 (zd0 zz9 (za0 6) (za0 3))))) (zc9 (zac3 3 (za0 6))) zh7)))))
  (zc9 (zd3 (i:=4) SC.nd rfl (zb3 rfl) (zd4 (od_add.or ze6) (za0 4) za4)))))
 exact zc9 (zu2 3)
theorem zab4:FnScope ["_law_web_here", "_law_ties_here", "_law_found", "_law_number"] ["_law_web_here", "_law_ties_here"] (zb4 zk6):=zm7 rfl rfl rfl rfl (by decide +kernel)
noncomputable def bdPt:DS:=(dAsg 2 (d2 qA (dVar 2) (zg4 1 [2] (fsT (d2 kIx (d2 kIx (dVar 0) (dC (.int 1))) (dVar 3))) (za6 0) (dBo (d2 kNin (dVar 0) (dVar 1))) (dVar 0))))
noncomputable def zn3:DS :=
 (dSeq (dAsg 2 (dT1 kLst (za2 (dC (.int 0)) dNil))) (dSeq (dFor (za6 3) (dVar 1) bdPt) (dRet (dT1 zm5 (za2 (dVar 2) dNil)))))
def zg8:List D→Option Ev:=mkG 2 ["_law_web_here", "_law_ties_here", "_law_found", "_law_number"] zn3
theorem zad0 (Fn:L2.Fun K "_law_points" "_law_points" zk6 ad fd) (bu:Blt mg) :FnOk P w K mg base CX0 1 ad fd ["_law_web_here", "_law_ties_here"] (spD K zg8):=by
 have SC:=zab4
 refine zn4 (k:=0) Fn SC (fun _ _ e=>zj7 e) zn3 (fun _ _ e=>zm9 e) (fun cdv A outer s H E F hr=>?_)
 refine zc1 ?_ ?_
 ·exact (zd3 (i:=2) SC.nd rfl (zb3 rfl) (zh8 (za3 za4 zb0)))
 refine zc1 ?_ ?_
 ·exact (zak1 PassesOwn.never rfl (za0 1) (zc5 (i:=3) SC.nd rfl (zb3 rfl)) (zc4 3) (zc9 (zd3 (i:=2) SC.nd rfl (zb3 rfl) (zd4 (od_add.or ze6) (za0 2) (zh0 1 [2] ["_law_point", "_law_found"] rfl (zac4 (zc7 (zc7 (za0 0) za4) (za0 3))) (fun _ _ _ _ _=>(zc5 (i:=0) (show List.Nodup (["_law_point", "_law_found"]:List Str) by decide +kernel) rfl (zb3 rfl))) (fun _=>(zc4 0)) (fun _ _ _ _ _ _=>(zq9 (zd0 zz9 (za0 0) (za0 1)))) (fun _ _ _ _ _ _=>(za0 0)))))))
 exact zc9 (zf2 (zb8 zr9 rfl bu.n_sorted boot_sorted (za3 (za0 2) zb0)))
theorem zy6:FnScope ["_law_web_here", "_law_ties_here", "_law_k", "_law_points_here"] ["_law_web_here", "_law_ties_here"] (zb4 zj3):=zm7 rfl rfl rfl rfl (by decide +kernel)
noncomputable def bdCk:DS:=(dIfS (dOr (dNot (dCh qE qL (dC (.int 0)) (d2 kIx (dVar 1) (dVar 2)) (dT1 kLen (za2 (d2 kIx (dVar 0) (dC (.int 1))) dNil)))) (dAnd (dBo (d2 qG (dVar 2) (dC (.int 0)))) (dBo (d2 qE (d2 kIx (dVar 1) (dVar 2)) (d2 kIx (dVar 1) (d2 qS (dVar 2) (dC (.int 1)))))))) (dRet (dC (.bl false))) zi0)
noncomputable def zm2:DS :=
 (dSeq (zat7 (za6 2) (dT1 kLen (za2 (dVar 1) dNil)) bdCk) (dSeq (dAsg 3 (dT1 (zf0 zg8) (za2 (dVar 0) (za2 (dVar 1) dNil)))) (dRet (zbb4 (d2 kEq (dT1 kLen (za2 (dVar 3) dNil)) (d2 qA (dT1 kLen (za2 (dVar 1) dNil)) (dC (.int 1)))) (d2 kEq (dT1 zm5 (za2 (dT1 (zf0 zg1) (za2 (dVar 0) (za2 (dVar 1) (za2 (dC (.int 0)) dNil)))) dNil)) (dVar 3))))))
def zg3:List D→Option Ev:=mkG 2 ["_law_web_here", "_law_ties_here", "_law_k", "_law_points_here"] zm2
theorem zy9 (Fn:L2.Fun K "_law_is_tree" "_law_is_tree" zj3 ad fd) (bu:Blt mg) (c_law_points:Cal P w K mg base "_law_points" 1 zg8) (c_law_reached:Cal P w K mg base "_law_reached" 1 zg1):FnOk P w K mg base CX0 2 ad fd ["_law_web_here", "_law_ties_here"] (spD K zg3):=by
 have SC:=zy6
 refine zn4 (k:=1) Fn SC (fun _ _ e=>zj7 e) zm2 (fun _ _ e=>zm9 e) (fun cdv A outer s H E F hr=>?_)
 refine zc1 ?_ ?_
 ·exact (psd_rng1 PassesOwn.never rfl rfl bu.n_range (zb8 zk2 rfl bu.n_len PySem.boot_len (za3 (za0 1) zb0)) (zc5 (i:=2) SC.nd rfl (zb3 rfl)) (zc4 2) (zc9 (zl2 (L2.PW.pt (zao3 (zac0 (zav5 od_le zas8 za4 (zc7 (za0 1) (za0 2)) (zb8 zk2 rfl bu.n_len PySem.boot_len (za3 (zc7 (za0 0) za4) zb0)))) (zak0 (L2.PW.pt (zab8 (zd0 od_gt (za0 2) za4) (zu1 (zd0 od_le (zc7 (za0 1) (za0 2)) (zc7 (za0 1) (zd4 zax3 (za0 2) za4))))))))) (zc9 (zf2 zw7)) zh7)))
 refine zc1 ?_ ?_
 ·exact (zd3 (i:=3) SC.nd rfl (zb3 rfl) (ze9 c_law_points (hr.mono (by decide)) (za3 (za0 0) (za3 (za0 1) zb0))))
 exact zc9 (zf2 (ped_and (zs3 (zp6 hr.units) (zb8 zk2 rfl bu.n_len PySem.boot_len (za3 (za0 3) zb0)) (zd4 (od_add.or ze6) (zb8 zk2 rfl bu.n_len PySem.boot_len (za3 (za0 1) zb0)) za4)) (ped_one (zs3 (zp6 hr.units) (zb8 zr9 rfl bu.n_sorted boot_sorted (za3 (ze9 c_law_reached (hr.mono (by decide)) (za3 (za0 0) (za3 (za0 1) (za3 za4 zb0)))) zb0)) (za0 3)))))
theorem zaj3:FnScope ["_law_pool_here", "_law_web_here", "_law_points_here", "_law_ties_here", "_law_turn", "_law_some", "_law_number"] ["_law_pool_here", "_law_web_here"] (zb4 zn6):=zm7 rfl rfl rfl rfl (by decide +kernel)
noncomputable def zaa3 (p:Addr):WS za1 :=
 (sSeq (sLf za1 (dAsg 2 (dT1 kLst (za2 (dC (.int 0)) dNil))))
  (sSeq (sLf za1 (dAsg 3 (dT1 kLst dNil)))
  (sSeq (zab7 (za6 4) (iRg (eX p za7 (zb1 (eLf za1 (dVar 0)) (zb1 (eLf za1 (d2 kIx (dVar 1) (dC (.int 0)))) aNil)))) (sSeq (sLf za1 (dAsg 5 (zg4 2 [2] (fsE (d2 kIx (dVar 1) (dC (.int 1)))) (zr5 2 (ze0 (za6 0) (ze0 (za6 1) zp9))) (dBo (d2 kNe (d2 kIn (d2 kIx (dVar 1) (dC (.int 0))) (dVar 2)) (d2 kIn (d2 kIx (dVar 1) (dC (.int 1))) (dVar 2)))) (dVar 0))))
  (sIf (tLf za1 (dBo (d2 kNe (dVar 5) (dT1 kLst dNil)))) (sSeq (sAsg 6 (eOp kIx (eLf za1 (dVar 5)) (eX p za7 (zb1 (eLf za1 (dVar 0)) (zb1 (eLf za1 (dT1 kLen (za2 (dVar 5) dNil))) aNil)))))
  (sSeq (sLf za1 (dApp 3 (dVar 6)))
  (sLf za1 (dAsg 2 (d2 qA (dVar 2) (zg4 1 [2] (fsT (d2 kIx (d2 kIx (dVar 1) (dC (.int 1))) (dVar 6))) (za6 0) (dBo (d2 kNin (dVar 0) (dVar 1))) (dVar 0))))))) zv7)))
  (sLf za1 (dRet (dT1 zm5 (za2 (dVar 3) dNil)))))))
noncomputable def zl5:Int×Int→List D→Option (Ev×(Int×Int)):=mkW (ρ:=za1) 2 ["_law_pool_here", "_law_web_here", "_law_points_here", "_law_ties_here", "_law_turn", "_law_some", "_law_number"] zaa3
theorem zal0 (Fn:L2.Fun K "_law_tree" "_law_tree" zn6 ad fd) (bu:Blt mg) (c_law_take:CalX za1 P w K mg base "_law_take" 1 za7):FnOk P w K mg base CX0 2 ad fd ["_law_pool_here", "_law_web_here"] (spX za1 K zl5):=by
 have SC:=zaj3
 refine zq0 zak4 (k:=1) (m:=2) Fn SC rfl zaa3 (fun cdv A outer s H E F p hr=>?_)
 refine zc0 ?_ ?_
 ·exact (ze7 fun F=>(zd3 (i:=2) SC.nd rfl (zb3 rfl) (zh8 (za3 za4 zb0))))
 refine zc0 ?_ ?_
 ·exact (ze7 fun F=>(zd3 (i:=3) SC.nd rfl (zb3 rfl) (zh8 zb0)))
 refine zc0 ?_ ?_
 ·exact (zac1 PassesOwn.never rfl (piw_rng rfl bu.n_range (zb7 c_law_take (hr.mono (by decide)) (za8 (za5 fun _=>za0 0) (za8 (za5 fun _=>(zc7 (za0 1) za4)) zc6)))) (zc5 (i:=4) SC.nd rfl (zb3 rfl)) (fun _=>(zc4 4)) (zc0 (ze7 fun F=>(psd_setC (i:=5) 2 [2] ["_law_k", "_law_tie", "_law_points_here"] SC.nd rfl (Or.inl rfl) rfl (pid_enum rfl bu.n_enumerate (zc7 (za0 1) za4)) (fun _ _ _ _ _=>(zap1 rfl (zi8 (zc5 (i:=0) (show List.Nodup (["_law_k", "_law_tie", "_law_points_here"]:List Str) by decide +kernel) rfl (zb3 rfl)) (zi8 (zc5 (i:=1) (show List.Nodup (["_law_k", "_law_tie", "_law_points_here"]:List Str) by decide +kernel) rfl (zb3 rfl)) zw5)))) (fun _=>(zan3 (zi5 (zc4 0) (zi5 (zc4 1) zv3)))) (fun _ _ _ _ _ _=>(zq9 (zd0 (zax4 hr.units) (zs3 od_in (zc7 (za0 1) za4) (za0 2)) (zs3 od_in (zc7 (za0 1) za4) (za0 2))))) (fun _ _ _ _ _ _=>(za0 0))))
  (zf6 (zw3 (zo2 fun _=>(zd0 (zax4 hr.units) (za0 5) (zh8 zb0))) (zc0 (zh6 (i:=6) SC.nd rfl (zb3 rfl) (zaf2 (za5 fun _=>(za0 5)) (zb7 c_law_take (hr.mono (by decide)) (za8 (za5 fun _=>za0 0) (za8 (za5 fun _=>(zb8 zk2 rfl bu.n_len PySem.boot_len (za3 (za0 5) zb0))) zc6)))))
  (zc0 (ze7 fun F=>(zac3 3 (za0 6)))
  (zf6 (ze7 fun F=>(zd3 (i:=2) SC.nd rfl (zb3 rfl) (zd4 (od_add.or ze6) (za0 2) (zh0 1 [2] ["_law_point", "_law_points_here"] rfl (zac4 (zc7 (zc7 (za0 1) za4) (za0 6))) (fun _ _ _ _ _=>(zc5 (i:=0) (show List.Nodup (["_law_point", "_law_points_here"]:List Str) by decide +kernel) rfl (zb3 rfl))) (fun _=>(zc4 0)) (fun _ _ _ _ _ _=>(zq9 (zd0 zz9 (za0 0) (za0 1)))) (fun _ _ _ _ _ _=>(za0 0))))))))) zp4))))
 exact zf6 (ze7 fun F=>(zf2 (zb8 zr9 rfl bu.n_sorted boot_sorted (za3 (za0 3) zb0))))
theorem zaj8:FnScope ["_law_web_here", "_law_weights", "_law_fees_here", "_law_ties_here", "_law_often", "_law_points_here", "_law_left"] ["_law_web_here", "_law_weights", "_law_fees_here", "_law_ties_here", "_law_often"] (zb4 zo1):=zm7 rfl rfl rfl rfl (by decide +kernel)
noncomputable def zs6:DS :=
 (dSeq (dAsg 5 (dT1 (zf0 zg8) (za2 (dVar 0) (za2 (dVar 3) dNil)))) (dSeq (dAsg 6 (dT1 kSum (za2 (zg4 1 [5,2] (fsR1 (d2 kIx (dVar 0) (dC (.int 0)))) (za6 0) (dBo (d2 kNin (dVar 0) (dVar 1))) (d2 kIx (dVar 2) (dVar 0))) dNil))) (dRet (d2 qA (dT1 kSum (za2 (zg4 1 [1] (fsL (dVar 3)) (za6 0) zf8 (d2 kIx (dVar 1) (dVar 0))) dNil)) (d2 qM (dVar 4) (dVar 6))))))
noncomputable def zi4:List D→Option Ev:=mkG 5 ["_law_web_here", "_law_weights", "_law_fees_here", "_law_ties_here", "_law_often", "_law_points_here", "_law_left"] zs6
theorem zal5 (Fn:L2.Fun K "_law_cost" "_law_cost" zo1 ad fd) (bu:Blt mg) (c_law_points:Cal P w K mg base "_law_points" 1 zg8):FnOk P w K mg base CX0 2 ad fd ["_law_web_here", "_law_weights", "_law_fees_here", "_law_ties_here", "_law_often"] (spD K zi4):=by
 have SC:=zaj8
 refine zn4 (k:=1) Fn SC (fun _ _ e=>zj7 e) zs6 (fun _ _ e=>zm9 e) (fun cdv A outer s H E F hr=>?_)
 refine zc1 ?_ ?_
 ·exact (zd3 (i:=5) SC.nd rfl (zb3 rfl) (ze9 c_law_points (hr.mono (by decide)) (za3 (za0 0) (za3 (za0 3) zb0))))
 refine zc1 ?_ ?_
 ·exact (zd3 (i:=6) SC.nd rfl (zb3 rfl) (zb8 (zar1 rfl) rfl bu.n_sum (by decide +kernel) (za3 (zh0 1 [5,2] ["_law_point", "_law_points_here", "_law_fees_here"] rfl (zu3 rfl bu.n_range (zc7 (za0 0) za4)) (fun _ _ _ _ _=>(zc5 (i:=0) (show List.Nodup (["_law_point", "_law_points_here", "_law_fees_here"]:List Str) by decide +kernel) rfl (zb3 rfl))) (fun _=>(zc4 0)) (fun _ _ _ _ _ _=>(zq9 (zd0 zz9 (za0 0) (za0 1)))) (fun _ _ _ _ _ _=>(zc7 (za0 2) (za0 0)))) zb0)))
 exact zc9 (zf2 (zd4 (od_add.or ze6) (zb8 (zar1 rfl) rfl bu.n_sum (by decide +kernel) (za3 (zh0 1 [1] ["_law_number", "_law_weights"] rfl (zr1 (za0 3)) (fun _ _ _ _ _=>(zc5 (i:=0) (show List.Nodup (["_law_number", "_law_weights"]:List Str) by decide +kernel) rfl (zb3 rfl))) (fun _=>(zc4 0)) (fun _ _ _ _ _ _=>zl9) (fun _ _ _ _ _ _=>(zc7 (za0 1) (za0 0)))) zb0)) (zd4 (od_mul.or zz8) (za0 4) (za0 6))))
theorem zaj4:FnScope ["_law_pool_here", "_law_web_here", "_law_ties_here", "_law_way", "_law_at", "_law_more"] ["_law_pool_here", "_law_web_here"] (zb4 zn7):=zm7 rfl rfl rfl rfl (by decide +kernel)
noncomputable def zaa4 (p:Addr):WS za1 :=
 (sSeq (sAsg 2 (eX p zl5 (zb1 (eLf za1 (dVar 0)) (zb1 (eLf za1 (dVar 1)) aNil))))
  (sSeq (sIf (tBo (eOp kEq (eX p za7 (zb1 (eLf za1 (dVar 0)) (zb1 (eLf za1 (dC (.int 3))) aNil))) (eLf za1 (dC (.int 0))))) (sAsg 2 (zq3 1 [0] (iLf za1 (fsR1 (dT1 kLen (za2 (d2 kIx (dVar 1) (dC (.int 1))) dNil)))) (za6 0) (tBo (eOp kEq (eX p za7 (zb1 (eLf za1 (dVar 1)) (zb1 (eLf za1 (dC (.int 2))) aNil))) (eLf za1 (dC (.int 0))))) (eLf za1 (dVar 0)))) zv7)
  (sSeq (sAsg 3 (eX p za7 (zb1 (eLf za1 (dVar 0)) (zb1 (eLf za1 (dC (.int 6))) aNil))))
  (sSeq (sAsg 4 (eX p za7 (zb1 (eLf za1 (dVar 0)) (zb1 (eLf za1 (d2 qA (dT1 kLen (za2 (dVar 2) dNil)) (dC (.int 1)))) aNil))))
  (sSeq (sAsg 5 (eT1 kLst (zb1 (eX p za7 (zb1 (eLf za1 (dVar 0)) (zb1 (eLf za1 (d2 qA (dT1 kLen (za2 (d2 kIx (dVar 1) (dC (.int 1))) dNil)) (dC (.int 1)))) aNil))) (zb1 (eOp qS (eLf za1 (d2 qS (dC (.int 0)) (dC (.int 1)))) (eX p za7 (zb1 (eLf za1 (dVar 0)) (zb1 (eLf za1 (dC (.int 9))) aNil)))) (zb1 (eOp qA (eLf za1 (dT1 kLen (za2 (d2 kIx (dVar 1) (dC (.int 1))) dNil))) (eX p za7 (zb1 (eLf za1 (dVar 0)) (zb1 (eLf za1 (dC (.int 9))) aNil)))) aNil)))))
  (sSeq (sIf (tLf za1 (dBo (d2 kEq (dVar 3) (dC (.int 2))))) (sRet (eOp qA (eOp qA (eLf za1 (dSlU (dVar 4) (dVar 2))) (eT1 kLst (zb1 (eOp kIx (eLf za1 (dVar 5)) (eX p za7 (zb1 (eLf za1 (dVar 0)) (zb1 (eLf za1 (dC (.int 3))) aNil)))) aNil))) (eLf za1 (dSlF (dVar 4) (dVar 2))))) zv7)
  (sSeq (sLf za1 (dIfS (dBo (d2 kEq (dVar 3) (dC (.int 3)))) (dRet (d2 qA (dSlU (dVar 4) (dVar 2)) (d1 kRev (dSlF (dVar 4) (dVar 2))))) zi0))
  (sSeq (sLf za1 (dIfS (dBo (d2 kEq (dVar 3) (dC (.int 4)))) (dRet (d2 qA (dSlU (dVar 4) (dVar 2)) (dSlF (d2 qA (dVar 4) (dC (.int 1))) (dVar 2)))) zi0))
  (sSeq (sIf (tLf za1 (dBo (d2 kEq (dVar 3) (dC (.int 5))))) (sRet (eT1 zm5 (zb1 (eOp qA (eLf za1 (dVar 2)) (zq3 1 [2] (iLs (eT1 kLst (zb1 (eX p za7 (zb1 (eLf za1 (dVar 0)) (zb1 (eLf za1 (d2 qA (dT1 kLen (za2 (d2 kIx (dVar 1) (dC (.int 1))) dNil)) (dC (.int 1)))) aNil))) aNil))) (za6 0) (tLf za1 (dBo (d2 kNin (dVar 0) (dVar 1)))) (eLf za1 (dVar 0)))) aNil))) zv7)
  (sLf za1 (zah2 2)))))))))))
noncomputable def zi2:Int×Int→List D→Option (Ev×(Int×Int)):=mkW (ρ:=za1) 2 ["_law_pool_here", "_law_web_here", "_law_ties_here", "_law_way", "_law_at", "_law_more"] zaa4
theorem zal1 (Fn:L2.Fun K "_law_ties" "_law_ties" zn7 ad fd) (bu:Blt mg) (c_law_tree:CalX za1 P w K mg base "_law_tree" 2 zl5) (c_law_take:CalX za1 P w K mg base "_law_take" 1 za7):FnOk P w K mg base CX0 3 ad fd ["_law_pool_here", "_law_web_here"] (spX za1 K zi2):=by
 have SC:=zaj4
 refine zq0 zak4 (k:=2) (m:=2) Fn SC rfl zaa4 (fun cdv A outer s H E F p hr=>?_)
 refine zc0 ?_ ?_
 ·exact (zh6 (i:=2) SC.nd rfl (zb3 rfl) (zb7 c_law_tree (hr.mono (by decide)) (za8 (za5 fun _=>za0 0) (za8 (za5 fun _=>(za0 1)) zc6))))
 refine zc0 ?_ ?_
 ·exact (zw3 (zab9 (fun _=>(zp6 hr.units)) (zb7 c_law_take (hr.mono (by decide)) (za8 (za5 fun _=>za0 0) (za8 (za5 fun _=>za4) zc6))) (za5 fun _=>za4)) (zf6 (zh6 (i:=2) SC.nd rfl (zb3 rfl) (zw6 1 [0] ["_law_number", "_law_pool_here"] rfl (zr0 fun _=>(zu3 rfl bu.n_range (zb8 zk2 rfl bu.n_len PySem.boot_len (za3 (zc7 (za0 1) za4) zb0)))) (fun _ _ _ _ _=>(zc5 (i:=0) (show List.Nodup (["_law_number", "_law_pool_here"]:List Str) by decide +kernel) rfl (zb3 rfl))) (fun _=>(zc4 0)) (fun _ _ _ _ _ _=>(zao4 (zab9 (fun _=>(zp6 hr.units)) (zb7 c_law_take (hr.mono (by decide)) (za8 (za5 fun _=>za0 1) (za8 (za5 fun _=>za4) zc6))) (za5 fun _=>za4)))) (fun _ _ _ _ _ _=>(za5 fun _=>(za0 0)))))) zp4)
 refine zc0 ?_ ?_
 ·exact (zh6 (i:=3) SC.nd rfl (zb3 rfl) (zb7 c_law_take (hr.mono (by decide)) (za8 (za5 fun _=>za0 0) (za8 (za5 fun _=>za4) zc6))))
 refine zc0 ?_ ?_
 ·exact (zh6 (i:=4) SC.nd rfl (zb3 rfl) (zb7 c_law_take (hr.mono (by decide)) (za8 (za5 fun _=>za0 0) (za8 (za5 fun _=>(zd4 (od_add.or ze6) (zb8 zk2 rfl bu.n_len PySem.boot_len (za3 (za0 2) zb0)) za4)) zc6))))
 refine zc0 ?_ ?_
 ·exact (zh6 (i:=5) SC.nd rfl (zb3 rfl) (zac5 (za8 (zb7 c_law_take (hr.mono (by decide)) (za8 (za5 fun _=>za0 0) (za8 (za5 fun _=>(zd4 (od_add.or ze6) (zb8 zk2 rfl bu.n_len PySem.boot_len (za3 (zc7 (za0 1) za4) zb0)) za4)) zc6))) (za8 (zh5 (fun _=>zax3) (za5 fun _=>(zd4 zax3 za4 za4)) (zb7 c_law_take (hr.mono (by decide)) (za8 (za5 fun _=>za0 0) (za8 (za5 fun _=>za4) zc6)))) (za8 (zh5 (fun _=>(od_add.or ze6)) (za5 fun _=>(zb8 zk2 rfl bu.n_len PySem.boot_len (za3 (zc7 (za0 1) za4) zb0))) (zb7 c_law_take (hr.mono (by decide)) (za8 (za5 fun _=>za0 0) (za8 (za5 fun _=>za4) zc6)))) zc6)))))
 refine zc0 ?_ ?_
 ·exact (zw3 (zo2 fun _=>(zd0 (zp6 hr.units) (za0 3) za4)) (zf6 (zp3 (zh5 (fun _=>(od_add.or ze6)) (zh5 (fun _=>(od_add.or ze6)) (za5 fun _=>(zs1 (za0 2) (za0 4))) (zac5 (za8 (zaf2 (za5 fun _=>(za0 5)) (zb7 c_law_take (hr.mono (by decide)) (za8 (za5 fun _=>za0 0) (za8 (za5 fun _=>za4) zc6)))) zc6))) (za5 fun _=>(zs2 (za0 2) (za0 4)))))) zp4)
 refine zc0 ?_ ?_
 ·exact (ze7 fun F=>(zl2 (zd0 (zp6 hr.units) (za0 3) za4) (zc9 (zf2 (zd4 (od_add.or ze6) (zs1 (za0 2) (za0 4)) (ped_rev (zs2 (za0 2) (za0 4)))))) zh7))
 refine zc0 ?_ ?_
 ·exact (ze7 fun F=>(zl2 (zd0 (zp6 hr.units) (za0 3) za4) (zc9 (zf2 (zd4 (od_add.or ze6) (zs1 (za0 2) (za0 4)) (zs2 (za0 2) (zd4 (od_add.or ze6) (za0 4) za4))))) zh7))
 refine zc0 ?_ ?_
 ·exact (zw3 (zo2 fun _=>(zd0 (zp6 hr.units) (za0 3) za4)) (zf6 (zp3 (zaw4 (fun _=>zr9) rfl bu.n_sorted boot_sorted (za8 (zh5 (fun _=>(od_add.or ze6)) (za5 fun _=>(za0 2)) (zw6 1 [2] ["_law_number", "_law_ties_here"] rfl (piw_list (zac5 (za8 (zb7 c_law_take (hr.mono (by decide)) (za8 (za5 fun _=>za0 0) (za8 (za5 fun _=>(zd4 (od_add.or ze6) (zb8 zk2 rfl bu.n_len PySem.boot_len (za3 (zc7 (za0 1) za4) zb0)) za4)) zc6))) zc6))) (fun _ _ _ _ _=>(zc5 (i:=0) (show List.Nodup (["_law_number", "_law_ties_here"]:List Str) by decide +kernel) rfl (zb3 rfl))) (fun _=>(zc4 0)) (fun _ _ _ _ _ _=>(zao4 (zo2 fun _=>(zd0 zz9 (za0 0) (za0 1))))) (fun _ _ _ _ _ _=>(za5 fun _=>(za0 0))))) zc6)))) zp4)
 exact zf6 (ze7 fun F=>(zu2 2))
theorem sc_law:FnScope ["_law_script", "_law_web_here", "_law_pool_here", "_law_weights", "_law_fees_here", "_law_k", "_law_ties_here", "_law_handed", "_law_found", "_law_cost_here"] ["_law_script"] (zb4 s_law):=zm7 rfl rfl rfl rfl (by decide +kernel)
noncomputable def g_law:DS :=
 (dSeq (dAsg 1 (dT1 (zaz5 zl4) (za2 (dT1 (zf0 zg2) (za2 (dVar 0) (za2 (dC (.int 0)) dNil))) (za2 (dC (.int 9)) dNil)))) (dSeq (dAsg 2 (dT1 (zf0 zg2) (za2 (dVar 0) (za2 (dC (.int 1)) dNil)))) (dInW 2 fun p=>(sSeq (sAsg 3 (zq3 1 [2] (iLf za1 (fsL (d2 kIx (dVar 1) (dC (.int 1))))) (za6 0) zv4 (eX p ze3 (zb1 (eLf za1 (dVar 1)) aNil)))) (sSeq (sAsg 4 (eX p zi3 (zb1 (eLf za1 (dVar 2)) (zb1 (eLf za1 (d2 kIx (dVar 1) (dC (.int 0)))) aNil)))) (sSeq (sLf za1 (dFrz 4 (dFrz 3 (zah1 (za6 5) (dC (.int 2)) (dT1 qX (za2 (dC (.int 4)) (za2 (dT1 qN (za2 (dT1 kLen (za2 (dVar 0) dNil)) (za2 (dC (.int 62)) dNil))) dNil))) (dSeq (dAsg 6 (zaa8 zi2 (dT1 (zf0 zg2) (za2 (dVar 0) (za2 (dVar 5) dNil))) 1)) (dSeq (dFrz 6 (dAsg 7 (dT1 kLst (za2 (dT1 kTup (za2 (d2 kIx (dVar 1) (dC (.int 0))) (za2 (dT1 zj4 (za2 (d2 kIx (dVar 1) (dC (.int 1))) dNil)) dNil))) (za2 (dT1 zj4 (za2 (dVar 3) dNil)) (za2 (dT1 zj4 (za2 (dVar 4) dNil)) (za2 (dT1 zj4 (za2 (dVar 6) dNil)) dNil))))))) (dSeq (dAsg 8 (dT1 (zf0 zl6) (za2 (d2 kIx (dVar 7) (dC (.int 0))) (za2 (d2 kIx (dVar 7) (dC (.int 3))) dNil)))) (dSeq (dIfS (dOr (dNot (dTr (dIsi "bool" (dVar 8)))) (dBo (d2 kNe (dVar 8) (dT1 (zf0 zg3) (za2 (dVar 1) (za2 (dVar 6) dNil)))))) (dRet (dC (.bl false))) zi0) (dSeq (dIfS (dTr (dVar 8)) (dSeq (dAsg 9 (dT1 (zf0 ze5) (za2 (d2 kIx (dVar 7) (dC (.int 0))) (za2 (d2 kIx (dVar 7) (dC (.int 1))) (za2 (d2 kIx (dVar 7) (dC (.int 2))) (za2 (d2 kIx (dVar 7) (dC (.int 3))) dNil)))))) (dIfS (dOr (dNot (dTr (dIsi "int" (dVar 9)))) (dOr (dTr (dIsi "bool" (dVar 9))) (dBo (d2 kNe (dVar 9) (dT1 (zf0 zi4) (za2 (dVar 1) (za2 (dVar 3) (za2 (dVar 4) (za2 (dVar 6) (za2 (dC (.int 1)) dNil)))))))))) (dRet (dC (.bl false))) zi0)) zi0) (dIfS (dBo (d2 kNe (dVar 7) (dT1 kLst (za2 (dVar 1) (za2 (dVar 3) (za2 (dVar 4) (za2 (dVar 6) dNil))))))) (dRet (dC (.bl false))) zi0)))))))))) (sLf za1 (dRet (dC (.bl true))))))))))
noncomputable def G_law:List D→Option Ev:=mkG 1 ["_law_script", "_law_web_here", "_law_pool_here", "_law_weights", "_law_fees_here", "_law_k", "_law_ties_here", "_law_handed", "_law_found", "_law_cost_here"] g_law
theorem ok_law (Fn:L2.Fun K "law" "law" s_law ad fd) (bu:Blt mg) (c_law_web:CalX za1 P w K mg base "_law_web" 2 zl4) (c_law_pool:Cal P w K mg base "_law_pool" 1 zg2) (c_law_weight:CalX za1 P w K mg base "_law_weight" 3 ze3) (c_law_fees:CalX za1 P w K mg base "_law_fees" 3 zi3) (c_law_ties:CalX za1 P w K mg base "_law_ties" 3 zi2) (c_is_tree:Cal P w K mg base "is_tree" 2 zl6) (c_law_is_tree:Cal P w K mg base "_law_is_tree" 2 zg3) (c_cost_of_tree:Cal P w K mg base "cost_of_tree" 2 ze5) (c_law_cost:Cal P w K mg base "_law_cost" 2 zi4):FnOk P w K mg base CX0 4 ad fd ["_law_script"] (spD K G_law):=by
 have SC:=sc_law
 refine zn4 (k:=3) Fn SC (fun _ _ e=>zj7 e) g_law (fun _ _ e=>zm9 e) (fun cdv A outer s H E F hr=>?_)
 refine zc1 ?_ ?_
 ·exact (zd3 (i:=1) SC.nd rfl (zb3 rfl) (ped_newX c_law_web (hr.mono (by decide)) (za3 (ze9 c_law_pool (hr.mono (by decide)) (za3 (za0 0) (za3 za4 zb0))) (za3 za4 zb0))))
 refine zc1 ?_ ?_
 ·exact (zd3 (i:=2) SC.nd rfl (zb3 rfl) (ze9 c_law_pool (hr.mono (by decide)) (za3 (za0 0) (za3 za4 zb0))))
 exact (psd_inW 2 fun p=>(zc0 (psw_setC (i:=3) 1 [2] ["_law_tie", "_law_pool_here"] SC.nd rfl (Or.inl rfl) rfl (zr0 fun _=>(zr1 (zc7 (za0 1) za4))) (fun _ _ _ _ _=>(zc5 (i:=0) (show List.Nodup (["_law_tie", "_law_pool_here"]:List Str) by decide +kernel) rfl (zb3 rfl))) (fun _=>(zc4 0)) (fun _ _ _ _ _ _=>zao5) (fun _ _ _ _ _ _=>(zb7 c_law_weight (hr.mono (by decide)) (za8 (za5 fun _=>za0 1) zc6))))
  (zc0 (zh6 (i:=4) SC.nd rfl (zb3 rfl) (zb7 c_law_fees (hr.mono (by decide)) (za8 (za5 fun _=>za0 2) (za8 (za5 fun _=>(zc7 (za0 1) za4)) zc6))))
  (zc0 (ze7 fun F=>(zac2 4 (zac2 3 (psd_rng2 PassesOwn.never rfl rfl bu.n_range za4 (zb8 (cd_max rfl) rfl bu.n_max (by decide +kernel) (za3 za4 (za3 (zb8 (cd_min rfl) rfl bu.n_min (by decide +kernel) (za3 (zb8 zk2 rfl bu.n_len PySem.boot_len (za3 (za0 0) zb0)) (za3 za4 zb0))) zb0))) (zc5 (i:=5) SC.nd rfl (zb3 rfl)) (zc4 5) (zc1 (zd3 (i:=6) SC.nd rfl (zb3 rfl) (zaw5 1 c_law_ties (hr.mono (by decide)) (ze9 c_law_pool (hr.mono (by decide)) (za3 (za0 0) (za3 (za0 5) zb0)))))
  (zc1 (zac2 6 (by refine @zd3 _ F _ _ _ 7 _ _ ?_ ?_ ?_ ?_ ?_ ?_;exact SC.nd;exact rfl;(first | exact Or.inl rfl | exact Or.inr rfl);exact (by refine zh8 ?_;exact (by refine za3 ?_ ?_ ?_;exact (zak6 (za3 (zc7 (za0 1) za4) (za3 (zr2 zad8 rfl bu.n_list zae1 (za3 (zc7 (za0 1) za4) zb0)) zb0)));exact (by refine za3 ?_ ?_ ?_;exact (zr2 zad8 rfl bu.n_list zae1 (za3 (za0 3) zb0));exact (by refine za3 ?_ ?_ ?_;exact (zr2 zad8 rfl bu.n_list zae1 (za3 (za0 4) zb0));exact (by refine za3 ?_ ?_ ?_;exact (zr2 zad8 rfl bu.n_list zae1 (za3 (za0 6) zb0));exact zb0;exact (zf9 rfl));exact (zf9 rfl));exact (zf9 rfl));exact (zf9 rfl)));exact rfl;(first | exact .inl rfl | exact .inr rfl | assumption)))
  (zc1 (zd3 (i:=8) SC.nd rfl (zb3 rfl) (ze9 c_is_tree (hr.mono (by decide)) (za3 (zc7 (za0 7) za4) (za3 (zc7 (za0 7) za4) zb0))))
  (zc1 (zl2 (L2.PW.pt (zao3 (zac0 (zw2 (zak7 zaq0 (za0 8) rfl bu.n_isinstance rfl bu.n_bool zbc3))) (zak0 (zd0 (zax4 hr.units) (za0 8) (ze9 c_law_is_tree (hr.mono (by decide)) (za3 (za0 1) (za3 (za0 6) zb0))))))) (zc9 (zf2 zw7)) zh7)
  (zc1 (zl2 (zw2 (za0 8)) (zc1 (zd3 (i:=9) SC.nd rfl (zb3 rfl) (ze9 c_cost_of_tree (hr.mono (by decide)) (by refine za3 ?_ ?_ ?_;exact (zc7 (za0 7) za4);exact (by refine za3 ?_ ?_ ?_;exact (zc7 (za0 7) za4);exact (by refine za3 ?_ ?_ ?_;exact (zc7 (za0 7) za4);exact (by refine za3 ?_ ?_ ?_;exact (zc7 (za0 7) za4);exact zb0;exact (zf9 rfl));exact (zf9 rfl));exact (zf9 rfl));exact (zf9 rfl))))
  (zc9 (zl2 (L2.PW.pt (zao3 (zac0 (zw2 (zak7 isi_int (za0 9) rfl bu.n_isinstance rfl bu.n_int bt_int))) (zao3 (zw2 (zak7 zaq0 (za0 9) rfl bu.n_isinstance rfl bu.n_bool zbc3)) (zak0 (zd0 (zax4 hr.units) (za0 9) (ze9 c_law_cost (hr.mono (by decide)) (by refine za3 ?_ ?_ ?_;exact (za0 1);exact (by refine za3 ?_ ?_ ?_;exact (za0 3);exact (by refine za3 ?_ ?_ ?_;exact (za0 4);exact (by refine za3 ?_ ?_ ?_;exact (za0 6);exact (by refine za3 ?_ ?_ ?_;exact za4;exact zb0;exact (zf9 rfl));exact (zf9 rfl));exact (zf9 rfl));exact (zf9 rfl));exact (zf9 rfl)))))))) (zc9 (zf2 zw7)) zh7))) zh7)
  (zc9 (zl2 (zd0 (zax4 hr.units) (za0 7) (by refine zh8 ?_;exact (by refine za3 ?_ ?_ ?_;exact (za0 1);exact (by refine za3 ?_ ?_ ?_;exact (za0 3);exact (by refine za3 ?_ ?_ ?_;exact (za0 4);exact (by refine za3 ?_ ?_ ?_;exact (za0 6);exact zb0;exact (zf9 rfl));exact (zf9 rfl));exact (zf9 rfl));exact (zf9 rfl)))) (zc9 (zf2 zw7)) zh7)))))))))))
  (zf6 (ze7 fun F=>(zf2 zw7)))))))
end
end KX
set_option maxHeartbeats 1000000
namespace KX
open PySem.Spec L2 DL
theorem zaw0 {fa fb:DE}{t:Th}{a b:Int} (h1:fa t=some (.cl (.int a))) (h2:fb t=some (.cl (.int b))) (h:cPow a b=true):(d2 qP fa fb) t=some (.cl (.int (a ^ b.toNat))):=by
 rw [zh4 h1 h2]
 show (if cPow a b then some (Ev.cl (.int (a ^ b.toNat))) else none)=_
 rw [if_pos h]
theorem zak3 (ns:List Int) (hl:ns.length≤63) {k:Nat} (hk:k≤100):∃c n:Int,PoolOk (c,n)∧zg2 [.lst (ns.map D.int),.int (k:Int)]=some (.nw [.int c,.int n]):=by
 let N:Sl:=.val (.lst (ns.map D.int))
 let K:Sl:=.val (.int (k:Int))
 have E1:dAsg 2 (dC (.int 0)) [N,K,.no,.no]=some (.nx [N,K,.val (.int 0),.no]):=rfl
 have c1:=lt_of (fa:=dVar 1) (t:=[N,K,.val (.int 0),.no]) (a:=(k:Int)) rfl (zr4 (xs:=ns) (f:=dVar 0) (t:=[N,K,.val (.int 0),.no]) (r:=.cl (.lst (ns.map D.int))) rfl rfl)
 obtain⟨v,E2⟩:∃v:Int,(dIfS (dBo (d2 qL (dVar 1) (dT1 kLen (za2 (dVar 0) dNil)))) (dAsg 2 (d2 kIx (dVar 0) (dVar 1))) zi0) [N,K,.val (.int 0),.no]=some (.nx [N,K,.val (.int v),.no]):=by
  by_cases h:(k:Int)<(ns.length:Int)
  ·have e:=zaf9 (fa:=dVar 0) (fb:=dVar 1) (t:=[N,K,.val (.int 0),.no]) (r1:=.cl (.lst (ns.map D.int))) (r2:=.cl (.int (k:Int))) ns k rfl rfl (by lia) rfl rfl
   exact⟨_,(zag2 c1 (decide_eq_true h)).trans (zy3 (i:=2) e (by simp))⟩
  ·exact⟨0,grd c1 (decide_eq_false h)⟩
 let t2:Th:=[N,K,.val (.int v),.no]
 have f0:0≤v.fmod 2147483629:=zbh9 _ (by decide)
 have f1:v.fmod 2147483629<2147483629:=zbj6 _ (by decide)
 have kk:(k:Int)*(k:Int)≤10000:=by
  have:k*k≤100*100:=Nat.mul_le_mul hk hk
  have e:((k*k:Nat):Int)=(k:Int)*(k:Int):=Int.natCast_mul k k
  lia
 have k0:0≤(k:Int)*(k:Int):=Int.mul_nonneg (by lia) (by lia)
 have m1:=zax7 (fa:=dC (.int 104729)) (fb:=dVar 1) (t:=t2) (a:=104729) (b:=(k:Int)) rfl rfl (zau9 (by decide) (by decide)) (zau9 (by lia) (by lia))
 have m2:=zax7 (fb:=dVar 1) (t:=t2) (b:=(k:Int)) m1 rfl (zau9 (by lia) (by lia)) (zau9 (by lia) (by lia))
 have em:104729*(k:Int)*(k:Int)=104729*((k:Int)*(k:Int)):=Int.mul_assoc _ _ _
 rw [em]at m2
 have a1:=zk3 (zk3 (mod_of (fa:=dVar 2) (fb:=dC (.int 2147483629)) (t:=t2) (a:=v) (b:=2147483629) rfl rfl (by decide)) m2) (rfl:dC (.int 11) t2=some (.cl (.int 11)))
 have p1:=zaw0 a1 (rfl:dC (.int 3) t2=some (.cl (.int 3))) (by unfold cPow;exact decide_eq_true (by lia))
 have n1:=mod_of p1 (rfl:dC (.int 2147483647) t2=some (.cl (.int 2147483647))) (by decide)
 have g0:=zbh9 ((v.fmod 2147483629+104729*((k:Int)*(k:Int))+11) ^ (3:Int).toNat) (show (0:Int)<2147483647 by decide)
 have g1:=zbj6 ((v.fmod 2147483629+104729*((k:Int)*(k:Int))+11) ^ (3:Int).toNat) (show (0:Int)<2147483647 by decide)
 generalize ((v.fmod 2147483629+104729*((k:Int)*(k:Int))+11) ^ (3:Int).toNat).fmod 2147483647=n at *
 have E3:=zy3 (i:=3) n1 (by simp [t2])
 let t3:Th:=[N,K,.val (.int v),.val (.int n)]
 have p2:=zaw0 (fa:=dC (.int 10)) (fb:=dC (.int 18)) (t:=t3) (a:=10) (b:=18) rfl rfl (by decide)
 have c4:=lt_of (fa:=dVar 2) (t:=t3) (a:=v) rfl p2
 obtain⟨c,c0,E4⟩:∃c:Int,0≤c∧(dIfS (dBo (d2 qL (dVar 2) (d2 qP (dC (.int 10)) (dC (.int 18))))) (dAsg 2 (dC (.int 0))) zi0) t3=some (.nx [N,K,.val (.int c),.val (.int n)]):=by
  by_cases h:v<(10:Int) ^ (18:Int).toNat
  ·exact⟨0,zbm3 _,(zag2 c4 (decide_eq_true h)).trans rfl⟩
  ·have:(0:Int)≤(10:Int) ^ (18:Int).toNat:=by decide
   exact⟨v,by lia,grd c4 (decide_eq_false h)⟩
 refine⟨c,n,⟨c0,g0,g1⟩,?_⟩
 show (zs5 [N,K,.no,.no]).bind zp5=_
 refine bnd ?_
 exact (zd9 E1).trans ((zd9 E2).trans ((zd9 E3).trans ((zd9 E4).trans rfl)))
theorem ze4 {w:Int×Int} (hw:PoolOk w) {m:Int} (m0:0<m) (hs:sm m=true):∃(r:Int) (w':Int×Int),0≤r∧r<m∧PoolOk w'∧za7 w [.int m]=some (.cl (.int r),w'):=by
 obtain⟨h0,h1,h2⟩:=hw
 by_cases hc:0<w.1
 ·refine⟨w.1.fmod m,(w.1.fdiv m,w.2),zbh9 _ m0,zbj6 _ m0,⟨Int.fdiv_nonneg h0 (by lia),h1,h2⟩,zk7 rfl fun p=>?_⟩
  let t0:Th:=[.val (.adr p),.val (.int m),.no]
  let t1:Th:=[.val (.adr p),.val (.int m),.val (.int (w.1.fmod m))]
  have e1:=zz4 (ze2 (ρ:=za1) (zap2 (i:=0) (t:=t0) (p:=p) (w:=w) rfl) (eLp (rfl:dC (.int 0) t0=some (.cl (.int 0)))) zay9)
  rw [decide_eq_true hc]at e1
  have e2:=zl8 (i:=2) (ze2 (ρ:=za1) (zap2 (i:=0) (t:=t0) (p:=p) (w:=w) rfl) (eLp (rfl:dVar 1 t0=some (.cl (.int m)))) (zx2 (by lia))) (by simp [t0])
  have e3:=ps0_of (i:=0) (t:=t1) (p:=p) (w:=w) rfl (ze2 (ρ:=za1) (zap2 (i:=0) (t:=t1) (p:=p) (w:=w) rfl) (eLp (rfl:dVar 1 t1=some (.cl (.int m)))) (zaz4 (by lia) hs))
  refine zp1 ((zaj9 e1).trans ((zb6 e2).trans ((zb6 e3).trans ?_)))
  rfl
 ·obtain⟨n',hn'⟩:∃n',n'=(w.2*48271+11).fmod 2147483647:=⟨_,rfl⟩
  have n0:0≤n':=by rw [hn'];exact zbh9 _ (by decide)
  have n1:n' < 2147483647:=by rw [hn'];exact zbj6 _ (by decide)
  refine⟨(((n'*n').fmod 2147483629).fdiv 64).fmod m,(w.1,n'),zbh9 _ m0,zbj6 _ m0,⟨h0,n0,n1⟩,zk7 rfl fun p=>?_⟩
  let t0:Th:=[.val (.adr p),.val (.int m),.no]
  have e1:=zz4 (ze2 (ρ:=za1) (zap2 (i:=0) (t:=t0) (p:=p) (w:=w) rfl) (eLp (rfl:dC (.int 0) t0=some (.cl (.int 0)))) zay9)
  rw [decide_eq_false hc]at e1
  have e2:=ps1_of (i:=0) (t:=t0) (p:=p) (w:=w) rfl (ze2 (ρ:=za1) (ze2 (ρ:=za1) (ze2 (ρ:=za1) (pg1_of (i:=0) (t:=t0) (p:=p) (w:=w) rfl) (eLp (rfl:dC (.int 48271) t0=some (.cl (.int 48271)))) (zam2 (sm_lt h1 (by lia)) (sm_lt (by decide) (by decide)))) (eLp (rfl:dC (.int 11) t0=some (.cl (.int 11)))) zad2) (eLp (rfl:dC (.int 2147483647) t0=some (.cl (.int 2147483647)))) (zx2 (by decide)))
  rw [← hn']at e2
  have g1:=pg1_of (i:=0) (t:=t0) (p:=p) (w:=(w.1,n')) rfl
  have e3:=zp2 (ze2 (ρ:=za1) (ze2 (ρ:=za1) (ze2 (ρ:=za1) (ze2 (ρ:=za1) g1 g1 (zam2 (sm_lt n0 (by lia)) (sm_lt n0 (by lia)))) (eLp (rfl:dC (.int 2147483629) t0=some (.cl (.int 2147483629)))) (zx2 (by decide))) (eLp (rfl:dC (.int 64) t0=some (.cl (.int 64)))) (zaz4 (by decide) (sm_lt (by decide) (by decide)))) (eLp (rfl:dVar 1 t0=some (.cl (.int m)))) (zx2 (by lia)))
  exact (zb6 ((zy7 e1).trans rfl)).trans ((zb6 e2).trans e3)
theorem zau1 {w:Int×Int} (hw:PoolOk w) {m:Int} (m0:0<m):∃(r:Int) (w':Int×Int),0≤r∧r<m∧PoolOk w'∧zi1 w [.int m]=some (.cl (.int r),w'):=by
 obtain⟨a,w1,a0,a1,o1,e1⟩:=ze4 hw (m:=1000003) (by decide) (sm_lt (by decide) (by decide))
 obtain⟨b,w2,b0,b1,o2,e2⟩:=ze4 o1 (m:=1000003) (by decide) (sm_lt (by decide) (by decide))
 refine⟨(a*1000003+b).fmod m,w2,zbh9 _ m0,zbj6 _ m0,o2,zk7 rfl fun p=>?_⟩
 let t0:Th:=[.val (.adr p),.val (.int m)]
 have d1:=zd8 (i:=0) (t:=t0) (p:=p) rfl (rfl:dC (.int 1000003) t0=some (.cl (.int 1000003))) e1
 have d2':=zd8 (i:=0) (t:=t0) (p:=p) rfl (rfl:dC (.int 1000003) t0=some (.cl (.int 1000003))) e2
 exact zp2 (ze2 (ρ:=za1) (ze2 (ρ:=za1) (ze2 (ρ:=za1) d1 (eLp (rfl:dC (.int 1000003) t0=some (.cl (.int 1000003)))) (zam2 (sm_lt a0 (by lia)) (sm_lt (by decide) (by decide)))) d2' zad2) (eLp (rfl:dVar 1 t0=some (.cl (.int m)))) (zx2 (by lia)))
theorem zau2 {w:Int×Int} (hw:PoolOk w):∃(r:Int) (w':Int×Int),0≤r∧r≤1000000000000∧PoolOk w'∧ze3 w []=some (.cl (.int r),w'):=by
 obtain⟨a,w1,a0,a1,o1,e1⟩:=ze4 hw (m:=8) (by decide) (sm_lt (by decide) (by decide))
 have first:∀p,sAsg 1 (eX p za7 (zb1 (eLf za1 (dVar 0)) (zb1 (eLf za1 (dC (.int 8))) aNil))) [.val (.adr p),.no] w=some (.nx [.val (.adr p),.val (.int a)] w1):=fun p=>zl8 (i:=1) (zd8 (i:=0) (t:=[.val (.adr p),.no]) (p:=p) rfl rfl e1) (by simp)
 have q:∀p:Addr,dBo (d2 kEq (dVar 1) (dC (.int 0))) [.val (.adr p),.val (.int a)]=some (decide (a=0)):=fun p=>zag8 (fa:=dVar 1) (fb:=dC (.int 0)) (a:=a) (b:=0) rfl rfl
 by_cases h0:a=0
 ·refine⟨0,w1,zbm3 _,by decide,o1,zk7 rfl fun p=>?_⟩
  refine (zb6 (first p)).trans (zp1 (zv8 ((zag2 (q p) (decide_eq_true h0)).trans rfl)))
 ·have skip:∀p:Addr,sLf za1 (dIfS (dBo (d2 kEq (dVar 1) (dC (.int 0)))) (dRet (dC (.int 0))) zi0) [.val (.adr p),.val (.int a)] w1=some (.nx [.val (.adr p),.val (.int a)] w1):=fun p=>zm3 (grd (q p) (decide_eq_false h0))
  have q2:∀p:Addr,tLf za1 (dBo (d2 qL (dVar 1) (dC (.int 6)))) [.val (.adr p),.val (.int a)] w1=some (decide (a<6),w1):=fun p=>zq5 (lt_of (fa:=dVar 1) (fb:=dC (.int 6)) (a:=a) (b:=6) rfl rfl)
  by_cases h6:a<6
  ·obtain⟨b,w2,b0,b1,o2,e2⟩:=ze4 o1 (m:=10) (by decide) (sm_lt (by decide) (by decide))
   refine⟨b,w2,b0,by lia,o2,zk7 rfl fun p=>?_⟩
   have z:=q2 p
   rw [decide_eq_true h6]at z
   exact (zb6 (first p)).trans ((zb6 (skip p)).trans (zp1 ((zaj9 z).trans (zp2 (zd8 (i:=0) (t:=[.val (.adr p),.val (.int a)]) (p:=p) rfl rfl e2)))))
  ·obtain⟨b,w2,b0,b1,o2,e2⟩:=zau1 o1 (m:=1000000000001) (by decide)
   refine⟨b,w2,b0,by lia,o2,zk7 rfl fun p=>?_⟩
   have z:=q2 p
   rw [decide_eq_false h6]at z
   have pw:=zk3 (zaw0 (fa:=dC (.int 10)) (fb:=dC (.int 12)) (t:=[.val (.adr p),.val (.int a)]) (a:=10) (b:=12) rfl rfl (by decide)) (rfl:dC (.int 1) _=some (.cl (.int 1)))
   exact (zb6 (first p)).trans ((zb6 (skip p)).trans ((zb6 ((zy7 z).trans rfl)).trans (zp2 (zd8 (i:=0) (t:=[.val (.adr p),.val (.int a)]) (p:=p) (m:=1000000000001) rfl pw e2))))
structure WebOk (M:Nat) (ts:List (Int×Int)):Prop where
 pos:0<M
 lt:∀e∈ts,0≤e.1∧e.1<e.2∧e.2<(M:Int)
noncomputable def bdI (p:Addr):WS za1:=(sIf (tOr (tBo (eOp kEq (eX p za7 (zb1 (eLf za1 (dVar 0)) (zb1 (eLf za1 (dVar 3)) aNil))) (eLf za1 (dC (.int 0))))) (tLf za1 (dAnd (dBo (d2 qG (dVar 4) (dC (.int 0)))) (dBo (d2 kEq (dVar 7) (d2 qA (dVar 6) (dC (.int 1)))))))) (sLf za1 (dApp 5 (dT1 kTup (za2 (dVar 6) (za2 (dVar 7) dNil))))) zv7)
theorem app_pD {t:Th}{ts:List (Int×Int)}{a b:Int} (h6:t[6]?=some (.val (.int a))) (h7:t[7]?=some (.val (.int b))) (h5:t[5]?=some (.own (ts.map pD))) (hl:ts.length<100000):dApp 5 (dT1 kTup (za2 (dVar 6) (za2 (dVar 7) dNil))) t=some (.nx (t.set 5 (.own ((ts++[(a,b)]).map pD)))):=by
 have e6:dVar 6 t=some (.cl (.int a)):=by unfold dVar;rw [h6]
 have e7:dVar 7 t=some (.cl (.int b)):=by unfold dVar;rw [h7]
 have:=app_of t (i:=5) (d:=pD (a,b)) ((zq6 (k:=kTup) e6 e7).trans rfl) h5 (by rw [zbf7];exact hl)
 rw [this,zbl5]
 rfl
theorem loop_I {M:Nat}{a dn ln:Int} (a0:0≤a) (d0:0<dn) (d1:dn≤100):∀(bs:List Int) (ts:List (Int×Int)) (w:Int×Int),PoolOk w→(∀b∈bs,a<b∧b<(M:Int))→ts.length+bs.length<100000→(∀e∈ts,0≤e.1∧e.1<e.2∧e.2<(M:Int)) →
  ∃(ts':List (Int×Int)) (w':Int×Int),PoolOk w'∧ts'.length≤ts.length+bs.length∧(∀e∈ts',0≤e.1∧e.1<e.2∧e.2<(M:Int))∧∀(p:Addr) (s1 s7:Sl),∃u7,forW (za6 7) (bdI p) (bs.map D.int) [.val (.adr p),s1,.val (.int (M:Int)),.val (.int dn),.val (.int ln),.own (ts.map pD),.val (.int a),s7] w=some (.nx [.val (.adr p),s1,.val (.int (M:Int)),.val (.int dn),.val (.int ln),.own (ts'.map pD),.val (.int a),u7] w')
 |[],ts,w,ok,_,_,ht=>⟨ts,w,ok,by simp,ht,fun p s1 s7=>⟨s7,rfl⟩⟩
 |b::bs,ts,w,ok,hb,hl,ht=>by
  rw [zbf3]at hl
  obtain⟨b1,b2⟩:=hb b (zbd7 ..)
  obtain⟨r,w1,r0,r1,o1,e1⟩:=ze4 ok (m:=dn) d0 (sm_lt (by lia) (by lia))
  have rest:=fun ts h1 h2=>loop_I (M:=M) (ln:=ln) a0 d0 d1 bs ts w1 o1 (fun b hb'=>hb b (zbd6 _ hb')) h1 h2
  have dr:∀(p:Addr) (s1 s7:Sl),eOp kEq (eX p za7 (zb1 (eLf za1 (dVar 0)) (zb1 (eLf za1 (dVar 3)) aNil))) (eLf za1 (dC (.int 0))) [.val (.adr p),s1,.val (.int (M:Int)),.val (.int dn),.val (.int ln),.own (ts.map pD),.val (.int a),.val (.int b)] w=some (.cl (.bl (decide (r=0))),w1):=fun p s1 s7=>ze2 (ρ:=za1) (zd8 (i:=0) (p:=p) rfl rfl e1) (eLp rfl) zaz3
  have c2:∀(p:Addr) (s1:Sl),(dAnd (dBo (d2 qG (dVar 4) (dC (.int 0)))) (dBo (d2 kEq (dVar 7) (d2 qA (dVar 6) (dC (.int 1)))))) [.val (.adr p),s1,.val (.int (M:Int)),.val (.int dn),.val (.int ln),.own (ts.map pD),.val (.int a),.val (.int b)]=some (decide (0<ln)&&decide (b=a+1)):=fun p s1=>by
   unfold dAnd
   rw [gt_of (fa:=dVar 4) (fb:=dC (.int 0)) (a:=ln) (b:=0) rfl rfl,zag8 (fa:=dVar 7) (a:=b) (b:=a+1) rfl (zk3 (fa:=dVar 6) (fb:=dC (.int 1)) (a:=a) (b:=1) rfl rfl)]
   cases decide (0<ln)<;>rfl
  have yes:(∀(p:Addr) (s1:Sl),(tOr (tBo (eOp kEq (eX p za7 (zb1 (eLf za1 (dVar 0)) (zb1 (eLf za1 (dVar 3)) aNil))) (eLf za1 (dC (.int 0))))) (tLf za1 (dAnd (dBo (d2 qG (dVar 4) (dC (.int 0)))) (dBo (d2 kEq (dVar 7) (d2 qA (dVar 6) (dC (.int 1)))))))) [.val (.adr p),s1,.val (.int (M:Int)),.val (.int dn),.val (.int ln),.own (ts.map pD),.val (.int a),.val (.int b)] w=some (true,w1))∨∀(p:Addr) (s1:Sl),(tOr (tBo (eOp kEq (eX p za7 (zb1 (eLf za1 (dVar 0)) (zb1 (eLf za1 (dVar 3)) aNil))) (eLf za1 (dC (.int 0))))) (tLf za1 (dAnd (dBo (d2 qG (dVar 4) (dC (.int 0)))) (dBo (d2 kEq (dVar 7) (d2 qA (dVar 6) (dC (.int 1)))))))) [.val (.adr p),s1,.val (.int (M:Int)),.val (.int dn),.val (.int ln),.own (ts.map pD),.val (.int a),.val (.int b)] w=some (false,w1):=by
   by_cases z:r=0
   ·refine .inl fun p s1=>?_
    have:=zz4 (ρ:=za1) (dr p s1 .no)
    rw [decide_eq_true z]at this
    exact tOr_t this
   ·have fst:∀(p:Addr) (s1:Sl),_:=fun p s1=>by
     have:=zz4 (ρ:=za1) (dr p s1 .no)
     rw [decide_eq_false z]at this
     exact (tOr_f (g:=(tLf za1 (dAnd (dBo (d2 qG (dVar 4) (dC (.int 0)))) (dBo (d2 kEq (dVar 7) (d2 qA (dVar 6) (dC (.int 1)))))))) this).trans (zq5 (ρ:=za1) (c2 p s1))
    cases hh:decide (0<ln)&&decide (b=a+1) with
    |true=>exact .inl fun p s1=>by have:=fst p s1;rw [hh]at this;exact this
    |false=>exact .inr fun p s1=>by have:=fst p s1;rw [hh]at this;exact this
  rcases yes with yes | no
  ·have el:(ts++[(a,b)]).length=ts.length+1:=by simp
   obtain⟨ts',w',o',l',h',run⟩:=rest (ts++[(a,b)]) (by lia) (fun e he=>by
    rcases zbd8.mp he with z | z
    ·exact ht e z
    ·rw [zbe2.mp z];exact⟨a0,b1,b2⟩)
   refine⟨ts',w',o',by rw [zbf3];lia,h',fun p s1 s7=>?_⟩
   obtain⟨u7,e⟩:=run p s1 (.val (.int b))
   refine⟨u7,(zx7 (ρ:=za1) (rfl:za6 7 (.int b) [.val (.adr p),s1,.val (.int (M:Int)),.val (.int dn),.val (.int ln),.own (ts.map pD),.val (.int a),s7]=some [.val (.adr p),s1,.val (.int (M:Int)),.val (.int dn),.val (.int ln),.own (ts.map pD),.val (.int a),.val (.int b)]) ((zaj9 (yes p s1)).trans (zm3 (app_pD (t:=[.val (.adr p),s1,.val (.int (M:Int)),.val (.int dn),.val (.int ln),.own (ts.map pD),.val (.int a),.val (.int b)]) rfl rfl rfl (by lia))))).trans e⟩
  ·obtain⟨ts',w',o',l',h',run⟩:=rest ts (by lia) ht
   refine⟨ts',w',o',by rw [zbf3];lia,h',fun p s1 s7=>?_⟩
   obtain⟨u7,e⟩:=run p s1 (.val (.int b))
   exact⟨u7,(zx7 (ρ:=za1) (rfl:za6 7 (.int b) [.val (.adr p),s1,.val (.int (M:Int)),.val (.int dn),.val (.int ln),.own (ts.map pD),.val (.int a),s7]=some [.val (.adr p),s1,.val (.int (M:Int)),.val (.int dn),.val (.int ln),.own (ts.map pD),.val (.int a),.val (.int b)]) ((zy7 (no p s1)).trans rfl)).trans e⟩
noncomputable def bdO (p:Addr):WS za1:=(zab7 (za6 7) (iLf za1 (fsR2 (d2 qA (dVar 6) (dC (.int 1))) (dVar 2))) (bdI p))
def above (a:Int) (M:Nat):List Int:=(zbh8 ((M:Int) - (a+1)).toNat).map fun (i:Nat)=>a+1+(i:Int)
theorem above_in {a:Int}{M:Nat}:∀b∈above a M,a<b∧b<(M:Int):=fun b hb=>by
 obtain⟨i,hi,rfl⟩:=zbi1.mp hb
 have:=zbi8.mp hi
 lia
theorem loop_O {M:Nat} (hM:M≤60) {dn ln:Int} (d0:0<dn) (d1:dn≤100):∀(as:List Int) (ts:List (Int×Int)) (w:Int×Int),PoolOk w→(∀a∈as,0≤a∧a<(M:Int))→ts.length+60*as.length<90000→(∀e∈ts,0≤e.1∧e.1<e.2∧e.2<(M:Int)) →
  ∃(ts':List (Int×Int)) (w':Int×Int),PoolOk w'∧ts'.length≤ts.length+(as.map fun a=>(above a M).length).sum∧(∀e∈ts',0≤e.1∧e.1<e.2∧e.2<(M:Int))∧∀(p:Addr) (s1 s6 s7:Sl),∃u6 u7,forW (za6 6) (bdO p) (as.map D.int) [.val (.adr p),s1,.val (.int (M:Int)),.val (.int dn),.val (.int ln),.own (ts.map pD),s6,s7] w=some (.nx [.val (.adr p),s1,.val (.int (M:Int)),.val (.int dn),.val (.int ln),.own (ts'.map pD),u6,u7] w')
 |[],ts,w,ok,_,_,ht=>⟨ts,w,ok,by simp,ht,fun p s1 s6 s7=>⟨s6,s7,rfl⟩⟩
 |a::as,ts,w,ok,ha,hl,ht=>by
  rw [zbf3]at hl
  obtain⟨a0,a1⟩:=ha a (zbd7 ..)
  have al:(above a M).length≤60:=by unfold above;rw [zbf7,zbq4];lia
  obtain⟨ts1,w1,o1,l1,h1,run1⟩:=loop_I (M:=M) (ln:=ln) a0 d0 d1 (above a M) ts w ok above_in (by lia) ht
  obtain⟨ts',w',o',l',h',run⟩:=loop_O hM (ln:=ln) d0 d1 as ts1 w1 o1 (fun b hb=>ha b (zbd6 _ hb)) (by lia) h1
  refine⟨ts',w',o',by rw [zbf4,List.sum_cons];lia,h',fun p s1 s6 s7=>?_⟩
  obtain⟨v7,e1⟩:=run1 p s1 s7
  obtain⟨u6,u7,e⟩:=run p s1 (.val (.int a)) v7
  refine⟨u6,u7,?_⟩
  let t:Th:=[.val (.adr p),s1,.val (.int (M:Int)),.val (.int dn),.val (.int ln),.own (ts.map pD),.val (.int a),s7]
  have rg:fsR2 (d2 qA (dVar 6) (dC (.int 1))) (dVar 2) t=some (true,(above a M).map D.int):=by
   unfold fsR2
   rw [zk3 (fa:=dVar 6) (fb:=dC (.int 1)) (t:=t) (a:=a) (b:=1) rfl rfl]
   show (if bigI (M:Int)&&bigI (a+1) then some (true,rngD (a+1) ((M:Int) - (a+1)).toNat) else none)=_
   rw [if_pos (by unfold bigI;rw [decide_eq_true (by lia),decide_eq_true (by lia)];rfl)]
   unfold above rngD
   rw [zbl4]
   rfl
  exact (zx7 (ρ:=za1) (t1:=t) rfl ((zab6 (ρ:=za1) (zag3 (ρ:=za1) rg)).trans e1)).trans e
theorem few_ties:∀M:Nat,M≤9→((zb5 M).map fun a=>(above a M).length).sum≤36:=by
 intro M h
 rcases (by lia:M=0∨M=1∨M=2∨M=3∨M=4∨M=5∨M=6∨M=7∨M=8∨M=9) with rfl | rfl | rfl | rfl | rfl | rfl | rfl | rfl | rfl | rfl<;>decide
theorem web_is {w:Int×Int} (hw:PoolOk w) {m:Int} (m0:0<m) (m1:m≤60):∃(M:Nat) (ts:List (Int×Int)) (w':Int×Int),WebOk M ts∧(M:Int)≤m∧ts.length≤((zb5 M).map fun a=>(above a M).length).sum∧PoolOk w'∧zl4 w [.int m]=some (.cl (.tup [.int (M:Int),.lst (ts.map pD)]),w'):=by
 obtain⟨a,w1,a0,a1,o1,e1⟩:=ze4 hw (m:=m) m0 (sm_lt (by lia) (by lia))
 obtain⟨b,w2,b0,b1,o2,e2⟩:=ze4 o1 (m:=3) (by decide) (sm_lt (by decide) (by decide))
 obtain⟨c,w3,c0,c1,o3,e3⟩:=ze4 o2 (m:=3) (by decide) (sm_lt (by decide) (by decide))
 obtain⟨M,hM⟩:∃M:Nat,1+a=(M:Int):=⟨(1+a).toNat,by lia⟩
 obtain⟨dn,d0,d1,ed⟩:∃dn:Int,0<dn∧dn≤100∧kIx (.nw [.int 2,.int 3,.int 6]) (.cl (.int b))=some (.cl (.int dn)):=by
  rcases (by lia:b=0∨b=1∨b=2) with rfl | rfl | rfl
  ·exact⟨2,by decide,by decide,rfl⟩
  ·exact⟨3,by decide,by decide,rfl⟩
  ·exact⟨6,by decide,by decide,rfl⟩
 obtain⟨ts,w',o',l',h',run⟩:=loop_O (M:=M) (by lia) (ln:=c) d0 d1 (zb5 M) [] w3 o3 (fun x hx=>by
  unfold zb5 at hx
  obtain⟨i,hi,rfl⟩:=zbi1.mp hx
  have:=zbi8.mp hi
  lia) (by unfold zb5;simp;lia) (fun e he=>by cases he)
 refine⟨M,ts,w',⟨by lia,h'⟩,by lia,by rw [zbn3,zbp1]at l';exact l',o',zk7 rfl fun p=>?_⟩
 obtain⟨u6,u7,e⟩:=run p (.val (.int m)) .no .no
 let t0:Th:=[.val (.adr p),.val (.int m),.no,.no,.no,.no,.no,.no]
 have E1:=zl8 (i:=2) (ze2 (ρ:=za1) (eLp (rfl:dC (.int 1) t0=some (.cl (.int 1)))) (zd8 (i:=0) (t:=t0) (p:=p) rfl (rfl:dVar 1 t0=some (.cl (.int m))) e1) zad2) (by simp [t0])
 rw [hM]at E1
 let t1:Th:=[.val (.adr p),.val (.int m),.val (.int (M:Int)),.no,.no,.no,.no,.no]
 have E2:=zl8 (i:=3) (ze2 (ρ:=za1) (eLp (rfl:dT1 kLst (za2 (dC (.int 2)) (za2 (dC (.int 3)) (za2 (dC (.int 6)) dNil))) t1=some (.nw [.int 2,.int 3,.int 6]))) (zd8 (i:=0) (t:=t1) (p:=p) rfl (rfl:dC (.int 3) t1=some (.cl (.int 3))) e2) ed) (by simp [t1])
 let t2:Th:=[.val (.adr p),.val (.int m),.val (.int (M:Int)),.val (.int dn),.no,.no,.no,.no]
 have E3:=zl8 (ρ:=za1) (i:=4) (zd8 (i:=0) (t:=t2) (p:=p) rfl (rfl:dC (.int 3) t2=some (.cl (.int 3))) e3) (by simp [t2])
 let t4:Th:=[.val (.adr p),.val (.int m),.val (.int (M:Int)),.val (.int dn),.val (.int c),.own [],.no,.no]
 have rg:fsR1 (dVar 2) t4=some (true,(zb5 M).map D.int):=by
  show (if bigI (M:Int) then some (true,rngD 0 (M:Int).toNat) else none)=_
  rw [if_pos (by unfold bigI;exact decide_eq_true (by lia))]
  unfold rngD zb5
  simp
 have E5:=(zab6 (ρ:=za1) (k:=za6 6) (b:=bdO p) (zag3 (ρ:=za1) (w:=w3) rg)).trans e
 show (sSeq _ (sSeq _ (sSeq _ (sSeq _ (sSeq (zab7 (za6 6) (iLf za1 (fsR1 (dVar 2))) (bdO p)) _)))):WS za1) t0 w=_
 refine (zb6 E1).trans ((zb6 E2).trans ((zb6 E3).trans ((zb6 (zm3 (t':=t4) rfl)).trans ((zb6 E5).trans ?_))))
 exact zv8 rfl
noncomputable def feF (p:Addr):WE za1:=(eOp kIx (eT1 kLst (zb1 (eLf za1 (dC (.int 0))) (zb1 (eX p zi1 (zb1 (eLf za1 (dVar 1)) (zb1 (eLf za1 (dVar 2)) aNil))) aNil))) (eT1 zat2 (zb1 (eOp qG (eX p za7 (zb1 (eLf za1 (dVar 1)) (zb1 (eLf za1 (dC (.int 5))) aNil))) (eLf za1 (dC (.int 0)))) aNil)))
theorem zaq6 {g:Int} (g0:0<g) (g1:g≤1000000000001):∀(xs:List Int) (w:Int×Int),PoolOk w→∃(fs:List Int) (w':Int×Int),PoolOk w'∧fs.length=xs.length∧(∀f∈fs,0≤f∧f≤1000000000000)∧∀(p:Addr) (s:Sl),zg5 (za6 0) zv4 (feF p) (xs.map D.int) [s,.val (.adr p),.val (.int g)] w=some (fs.map D.int,w')
 |[],w,ok=>⟨[],w,ok,rfl,fun f hf=>(by cases hf),fun p s=>rfl⟩
 |x::xs,w,ok=>by
  obtain⟨a,w1,a0,a1,o1,e1⟩:=zau1 ok (m:=g) g0
  obtain⟨b,w2,b0,b1,o2,e2⟩:=ze4 o1 (m:=5) (by decide) (sm_lt (by decide) (by decide))
  obtain⟨fs,w',o',l',h',run⟩:=zaq6 g0 g1 xs w2 o2
  obtain⟨v,v0,v1,ev⟩:∃v:Int,0≤v∧v≤1000000000000∧kIx (.nw [.int 0,.int a]) (.cl (.int (if decide (0<b) then 1 else 0)))=some (.cl (.int v)):=by
   by_cases z:0<b
   ·rw [decide_eq_true z];exact⟨a,a0,by lia,rfl⟩
   ·rw [decide_eq_false z];exact⟨0,by decide,by decide,rfl⟩
  refine⟨v::fs,w',o',by rw [zbf3,zbf3,l'],fun f hf=>?_,fun p s=>?_⟩
  ·rcases zbe3.mp hf with z | z
   ·rw [z];exact⟨v0,v1⟩
   ·exact h' f z
  ·let t:Th:=[.val (.int x),.val (.adr p),.val (.int g)]
   have d1:=zaa7 (ρ:=za1) (k:=kLst) (ze8 (ρ:=za1) (eLp (rfl:dC (.int 0) t=some (.cl (.int 0)))) (ze8 (ρ:=za1) (zd8 (i:=1) (t:=t) (p:=p) rfl (rfl:dVar 2 t=some (.cl (.int g))) e1) (zl1 (ρ:=za1)))) (rfl:kLst [.cl (.int 0),.cl (.int a)]=some (.nw [.int 0,.int a]))
   have d2':=zaa7 (ρ:=za1) (k:=zat2) (ze8 (ρ:=za1) (ze2 (ρ:=za1) (zd8 (i:=1) (t:=t) (p:=p) rfl (rfl:dC (.int 5) t=some (.cl (.int 5))) e2) (eLp (rfl:dC (.int 0) t=some (.cl (.int 0)))) zay9) (zl1 (ρ:=za1))) (rfl:zat2 [.cl (.bl (decide (0<b)))]=some (.cl (.int (if decide (0<b) then 1 else 0))))
   have fe:feF p t w=some (.cl (.int v),w2):=ze2 (ρ:=za1) d1 d2' ev
   exact zad6 (ρ:=za1) (k:=za6 0) (ft:=zv4) (ys:=(fs.map D.int,w')) (t1:=t) rfl rfl fe (run p (.val (.int x)))
theorem fees_is {w:Int×Int} (hw:PoolOk w) {M:Nat} (hM:M≤60):∃(fs:List Int) (w':Int×Int),PoolOk w'∧fs.length=M∧(∀f∈fs,0≤f∧f≤1000000000000)∧zi3 w [.int (M:Int)]=some (.nw (fs.map D.int),w'):=by
 obtain⟨b,w1,b0,b1,o1,e1⟩:=ze4 hw (m:=3) (by decide) (sm_lt (by decide) (by decide))
 obtain⟨g,g0,g1,eg⟩:∃g:Int,0<g∧g≤1000000000001∧kIx (.nw [.int 10,.int 40,.int 1000000000001]) (.cl (.int b))=some (.cl (.int g)):=by
  rcases (by lia:b=0∨b=1∨b=2) with rfl | rfl | rfl
  ·exact⟨10,by decide,by decide,rfl⟩
  ·exact⟨40,by decide,by decide,rfl⟩
  ·exact⟨1000000000001,by decide,by decide,rfl⟩
 obtain⟨fs,w',o',l',h',run⟩:=zaq6 g0 g1 (zb5 M) w1 o1
 refine⟨fs,w',o',by rw [l'];unfold zb5;simp,h',zk7 rfl fun p=>?_⟩
 let t0:Th:=[.val (.adr p),.val (.int (M:Int)),.no]
 have pw:=zk3 (pow12 t0) (rfl:dC (.int 1) t0=some (.cl (.int 1)))
 have l0:dT1 kLst (za2 (dC (.int 10)) (za2 (dC (.int 40)) (za2 (d2 qA (d2 qP (dC (.int 10)) (dC (.int 12))) (dC (.int 1))) dNil))) t0=some (.nw [.int 10,.int 40,.int 1000000000001]):=(t3_of (rfl:dC (.int 10) t0=some (.cl (.int 10))) (rfl:dC (.int 40) t0=some (.cl (.int 40))) pw).trans rfl
 have E1:=zl8 (i:=2) (ze2 (ρ:=za1) (eLp l0) (zd8 (i:=0) (t:=t0) (p:=p) rfl (rfl:dC (.int 3) t0=some (.cl (.int 3))) e1) eg) (by simp [t0])
 let t1:Th:=[.val (.adr p),.val (.int (M:Int)),.val (.int g)]
 have rg:fsR1 (dVar 1) t1=some (true,(zb5 M).map D.int):=by
  show (if bigI (M:Int) then some (true,rngD 0 (M:Int).toNat) else none)=_
  rw [if_pos (by unfold bigI;exact decide_eq_true (by lia))]
  unfold rngD zb5
  simp
 have E2:=zp2 (zu8 (ρ:=za1) (n:=1) (cap:=[0,2]) (k:=za6 0) (ft:=zv4) (fe:=feF p) (c:=true) (cs:=[.adr p,.int g]) (zag3 (ρ:=za1) (w:=w1) rg) rfl (by rw [zbf7];unfold zb5;simp;lia) (run p .no) (flats_ints fs))
 exact (zb6 E1).trans E2
theorem zbb5:∀(ts:List (Int×Int)) (w:Int×Int),PoolOk w→∃(ws:List Int) (w':Int×Int),PoolOk w'∧ws.length=ts.length∧(∀x∈ws,0≤x∧x≤1000000000000)∧∀(p:Addr) (s:Sl),zg5 (ρ:=za1) (za6 0) zv4 (eX p ze3 (zb1 (eLf za1 (dVar 1)) aNil)) (ts.map pD) [s,.val (.adr p)] w=some (ws.map D.int,w')
 |[],w,ok=>⟨[],w,ok,rfl,fun f hf=>(by cases hf),fun p s=>rfl⟩
 |x::xs,w,ok=>by
  obtain⟨a,w1,a0,a1,o1,e1⟩:=zau2 ok
  obtain⟨fs,w',o',l',h',run⟩:=zbb5 xs w1 o1
  refine⟨a::fs,w',o',by rw [zbf3,zbf3,l'],fun f hf=>?_,fun p s=>?_⟩
  ·rcases zbe3.mp hf with z | z
   ·rw [z];exact⟨a0,a1⟩
   ·exact h' f z
  ·let t:Th:=[.val (pD x),.val (.adr p)]
   have fe:eX (ρ:=za1) p ze3 (zb1 (eLf za1 (dVar 1)) aNil) t w=some (.cl (.int a),w1):=eX_of (ρ:=za1) (rs:=[]) (ze8 (ρ:=za1) (eLp (rfl:dVar 1 t=some (.cl (.adr p)))) (zl1 (ρ:=za1))) e1
   exact zad6 (ρ:=za1) (k:=za6 0) (ft:=zv4) (ys:=(fs.map D.int,w')) (t1:=t) rfl rfl fe (run p (.val (pD x)))
theorem zaa0 {fa fb:DE}{t:Th}{r1 r2:Ev} (L:List Int) (b:Int) (ha:fa t=some r1) (hb:fb t=some r2) (h0:0≤b) (h:b<(L.length:Int)) (h1:r1.d=.lst (L.map D.int)) (h2:r2.d=.int b):(d2 kIx fa fb) t=some (.cl (.int (L.getD b.toNat 0))) :=
 zaf9 L b.toNat ha hb (by lia) h1 (by rw [h2,zbp6 h0])
theorem zbc4:∀bs:List Bool,blsD (bs.map D.bl)=some bs
 |[]=>rfl
 |b::bs=>by
  show (blsD (bs.map D.bl)).map (b::·)=_
  rw [zbc4 bs]
  rfl
theorem zag6:∀bs:List Bool,flats (bs.map D.bl)=true
 |[]=>rfl
 |b::bs=>by
  show (flat (D.bl b)&&flats (bs.map D.bl))=true
  rw [zag6 bs]
  rfl
theorem allB_of {f:DE}{t:Th}{bs:List Bool} (h:f t=some (.nw (bs.map D.bl))):(dT1 (kBls fun bs=>bs.all id) (za2 f dNil)) t=some (.cl (.bl (bs.all id))):=by
 rw [zab0 h]
 simp only [kBls,Ev.d,zbc4,zbj4]
def rsB (M:Int):Int→List Int→Bool
 |a,[]=>decide (a<M)
 |a,c::cs=>decide (a<c)&&rsB M c cs
theorem comp_Z {M:Int}:∀(cs:List Int) (a:Int) (s s':Sl),∃bs:List Bool,zf1 (zr5 2 (ze0 (za6 0) (ze0 (za6 1) zp9))) zf8 (d2 qL (dVar 0) (dVar 1)) (zipD ((a::cs).map D.int) ((cs++[M]).map D.int)) [s,s']=some (bs.map D.bl)∧bs.all id=rsB M a cs
 |[],a,s,s'=>⟨[decide (a<M)],rfl,by simp [rsB]⟩
 |c::cs,a,s,s'=>by
  obtain⟨bs,e,h⟩:=comp_Z (M:=M) cs c (.val (.int a)) (.val (.int c))
  refine⟨decide (a<c)::bs,?_,by rw [zbh1,h];rfl⟩
  show (zf1 _ zf8 _ (zipD ((c::cs).map D.int) ((cs++[M]).map D.int)) [.val (.int a),.val (.int c)]).map _=_
  rw [e]
  rfl
theorem zau0 (a:Int) (cs:List Int) (M:Int):(zipD ((a::cs).map D.int) ((cs++[M]).map D.int)).length≤cs.length+1:=by
 rw [zt7]
 simp
theorem rise_is {M:Int}{cs:List Int} (hl:cs.length≤1000):zg7 [.lst (cs.map D.int),.int M]=some (.cl (.bl (rsB M (-1) cs))):=by
 let t:Th:=[.val (.lst (cs.map D.int)),.val (.int M)]
 have c1:(d2 qA (dT1 kLst (za2 (d1 kNeg (dC (.int 1))) dNil)) (dVar 0)) t=some (.nw (((-1)::cs).map D.int)):=by
  rw [zh4 (rfl:(dT1 kLst (za2 (d1 kNeg (dC (.int 1))) dNil)) t=some (.nw [.int (-1)])) (rfl:dVar 0 t=some (.cl (.lst (cs.map D.int))))]
  show kCat (.nw [.int (-1)]) (.cl (.lst (cs.map D.int)))=_
  unfold kCat
  simp only [Ev.d,Ev.ok,zbm7,zbl9]
  rw [if_pos (decide_eq_true (by simp;lia))]
  rfl
 have c2:(d2 qA (dVar 0) (dT1 kLst (za2 (dVar 1) dNil))) t=some (.nw ((cs++[M]).map D.int)):=by
  rw [zh4 (rfl:dVar 0 t=some (.cl (.lst (cs.map D.int)))) (rfl:(dT1 kLst (za2 (dVar 1) dNil)) t=some (.nw [.int M]))]
  show kCat (.cl (.lst (cs.map D.int))) (.nw [.int M])=_
  unfold kCat
  simp only [Ev.d,Ev.ok,zbm7,zbl9]
  rw [if_pos (decide_eq_true (by simp;lia)),zbl5]
  rfl
 obtain⟨bs,e,h⟩:=comp_Z (M:=M) cs (-1) .no .no
 have c3:(zg4 2 [] (fsZ (d2 qA (dT1 kLst (za2 (d1 kNeg (dC (.int 1))) dNil)) (dVar 0)) (d2 qA (dVar 0) (dT1 kLst (za2 (dVar 1) dNil)))) (zr5 2 (ze0 (za6 0) (ze0 (za6 1) zp9))) zf8 (d2 qL (dVar 0) (dVar 1))) t=some (.nw (bs.map D.bl)):=by
  unfold zg4 fsZ
  rw [c1,c2]
  simp only [zbd9,Ev.d]
  show (if (zipD (((-1)::cs).map D.int) ((cs++[M]).map D.int)).length≤50000 then (zf1 _ zf8 _ (zipD (((-1)::cs).map D.int) ((cs++[M]).map D.int)) [.no,.no]).bind _ else none)=_
  rw [if_pos (by have:=zau0 (-1) cs M;lia),e]
  simp only [zbd9,zag6,zbj5,if_true]
 show (zn2 t).bind zp5=_
 rw [← h]
 exact bnd (zo7 (allB_of c3))
theorem zas3 {T:Int}:∀ {L:List Int}{a:Int},rsB T a L=true→a<T∧∀l∈L,a<l∧l<T
 |[],a,h=>⟨by simpa [rsB] using h,fun l hl=>(by cases hl)⟩
 |c::cs,a,h=>by
  simp only [rsB,zbe0,decide_eq_true_eq]at h
  obtain⟨h1,h2⟩:=zas3 h.2
  refine⟨by lia,fun l hl=>?_⟩
  rcases zbe3.mp hl with z | z
  ·rw [z];exact⟨h.1,h1⟩
  ·have:=h2 l z;lia
abbrev wD (M:Nat) (ts:List (Int×Int)):D:=.tup [.int (M:Int),.lst (ts.map pD)]
def tieN (ts:List (Int×Int)) (l:Int):Int×Int:=ts.getD l.toNat (0,0)
def egs (ts:List (Int×Int)) (L:List Int):List Eg:=L.map (tieN ts)
theorem zaa9 {ts:List (Int×Int)}{l:Int} (h0:0≤l) (h1:l<(ts.length:Int)):tieN ts l∈ts:=by
 unfold tieN
 rw [zbe9,zbe1 (by lia)]
 exact zbl2 _
theorem zan2 {fa fb:DE}{t:Th}{r1 r2:Ev}{ts:List (Int×Int)}{l:Int} (ha:fa t=some r1) (hb:fb t=some r2) (h1:r1.d=.lst (ts.map pD)) (h2:r2.d=.int l) (h0:0≤l) (hl:l<(ts.length:Int)):(d2 kIx fa fb) t=some (.cl (pD (tieN ts l))):=by
 rw [zh4 ha hb]
 unfold kIx
 rw [h1,h2]
 show (atI (ts.map pD) l).map _=_
 have:atI (ts.map pD) l=some (pD (tieN ts l)):=by
  unfold L2.atI
  have e:ixN (ts.map pD).length l=some l.toNat:=by
   rw [zbf7]
   unfold L2.ixN
   first
    |(rw [if_pos h0,if_pos (by lia)])
    |(simp only [];split<;>first | rfl | lia)
  rw [e]
  show (ts.map pD)[l.toNat]?=_
  rw [zbh2]
  unfold tieN
  rw [zbe9,zbe1 (by lia)]
  rfl
 rw [this]
 show some (if r1.ok||flat (pD (tieN ts l)) then Ev.cl (pD (tieN ts l)) else Ev.tm (pD (tieN ts l)))=_
 rw [show flat (pD (tieN ts l))=true from rfl,zbj5,if_pos rfl]
theorem sort2 (x y:Int):zd6 [x,y]=[if x<y then x else y,if x<y then y else x]:=by
 show insI x [y]=_
 unfold insI
 by_cases h:x<y
 ·rw [if_pos (by lia),if_pos h,if_pos h]
 ·by_cases e:x=y
  ·subst e;simp
  ·rw [if_neg (by lia),if_neg h,if_neg h]
   rfl
theorem turn_Ll (s0 s1 s2 s6 s7:Sl) {M:Nat} (hM:M≤1000) {ts:List (Int×Int)} (hw:WebOk M ts) {f:Int→Int}{l:Int} (h0:0≤l) (h1:l<(ts.length:Int)) :
  ∃u6 u7,bdLl [s0,s1,s2,.val (.lst (ts.map pD)),.own (((zb5 M).map f).map D.int),.val (.int l),s6,s7]=some (.nx [s0,s1,s2,.val (.lst (ts.map pD)),.own (((zb5 M).map (rlb f (tieN ts l).1 (tieN ts l).2)).map D.int),.val (.int l),u6,u7]):=by
 obtain⟨a0,ab,bM⟩:=hw.lt _ (zaa9 h0 h1)
 let e:=tieN ts l
 let t:Th:=[s0,s1,s2,.val (.lst (ts.map pD)),.own (((zb5 M).map f).map D.int),.val (.int l),s6,s7]
 have et:=zan2 (fa:=dVar 3) (fb:=dVar 5) (t:=t) (r1:=.cl (.lst (ts.map pD))) (r2:=.cl (.int l)) (l:=l) rfl rfl rfl rfl h0 h1
 have nl:(zb5 M).length=M:=by unfold zb5;simp
 have gv:∀v:Int,0≤v→v<(M:Int)→((zb5 M).map f).getD v.toNat 0=f v:=fun v v0 v1=>by
  rw [zbe9,zbh2]
  unfold zb5
  rw [zbh2,zbp3 (by lia)]
  show f (v.toNat:Int)=f v
  rw [zbp6 v0]
 have ix:∀(v:Int),0≤v→v<(M:Int)→(d2 kIx (dVar 1) (dVar 0)) [.val (.int v),.val (.lst (((zb5 M).map f).map D.int))]=some (.cl (.int (f v))):=fun v v0 v1=>by
  have:=zaa0 (fa:=dVar 1) (fb:=dVar 0) (t:=[.val (.int v),.val (.lst (((zb5 M).map f).map D.int))]) (r1:=.cl (.lst (((zb5 M).map f).map D.int))) (r2:=.cl (.int v)) ((zb5 M).map f) v rfl rfl v0 (by rw [zbf7,nl];exact v1) rfl rfl
  rw [gv v v0 v1]at this
  exact this
 have c1:(zg4 1 [4] (fsT (d2 kIx (dVar 3) (dVar 5))) (za6 0) zf8 (d2 kIx (dVar 1) (dVar 0))) t=some (.nw [.int (f e.1),.int (f e.2)]):=by
  unfold zg4 fsT
  rw [et]
  show ((if [D.int e.1,D.int e.2].length≤50000 then (zf1 (za6 0) zf8 (d2 kIx (dVar 1) (dVar 0)) [D.int e.1,D.int e.2] [.no,.val (.lst (((zb5 M).map f).map D.int))]).bind _ else none))=_
  have k1:=ix e.1 a0 (Int.lt_trans ab bM)
  have k2:=ix e.2 (Int.le_of_lt (Int.lt_of_le_of_lt a0 ab)) bM
  have cc:zf1 (za6 0) zf8 (d2 kIx (dVar 1) (dVar 0)) [D.int e.1,D.int e.2] [.no,.val (.lst (((zb5 M).map f).map D.int))]=some [.int (f e.1),.int (f e.2)]:=by
   show ((d2 kIx (dVar 1) (dVar 0)) [.val (.int e.1),.val (.lst (((zb5 M).map f).map D.int))]).bind (fun r=>(((d2 kIx (dVar 1) (dVar 0)) [.val (.int e.2),.val (.lst (((zb5 M).map f).map D.int))]).bind fun r2=>some [r2.d]).map fun xs=>r.d::xs)=_
   rw [k1,k2]
   rfl
  rw [cc]
  rfl
 have c2:=zu0 (xs:=[f e.1,f e.2]) c1 rfl (by simp)
 rw [sort2]at c2
 have E1:zz0 (gkLst 2 (ze0 (za6 6) (ze0 (za6 7) zp9))) (dT1 zm5 (za2 (zg4 1 [4] (fsT (d2 kIx (dVar 3) (dVar 5))) (za6 0) zf8 (d2 kIx (dVar 1) (dVar 0))) dNil)) t=some (.nx [s0,s1,s2,.val (.lst (ts.map pD)),.own (((zb5 M).map f).map D.int),.val (.int l),.val (.int (if f e.1<f e.2 then f e.1 else f e.2)),.val (.int (if f e.1<f e.2 then f e.2 else f e.1))]):=by
  unfold zz0
  rw [c2]
  rfl
 let t1:Th:=[s0,s1,s2,.val (.lst (ts.map pD)),.own (((zb5 M).map f).map D.int),.val (.int l),.val (.int (if f e.1<f e.2 then f e.1 else f e.2)),.val (.int (if f e.1<f e.2 then f e.2 else f e.1))]
 have c3:=zaq8 (cap:=[6,7]) (f:=dVar 4) (t:=t1) (r:=.tm (.lst (((zb5 M).map f).map D.int))) (xs:=(zb5 M).map f) (g:=fun x=>if x=(if f e.1<f e.2 then f e.2 else f e.1) then (if f e.1<f e.2 then f e.1 else f e.2) else x) (b:=true) (c:=[.int (if f e.1<f e.2 then f e.1 else f e.2),.int (if f e.1<f e.2 then f e.2 else f e.1)]) (fe:=(dIf (dBo (d2 kEq (dVar 0) (dVar 2))) (dVar 1) (dVar 0))) rfl rfl (by rw [zbf7,nl];lia) rfl (fun x _=>by
  unfold dIf
  rw [zag8 (fa:=dVar 0) (fb:=dVar 2) (a:=x) (b:=(if f e.1<f e.2 then f e.2 else f e.1)) rfl rfl]
  by_cases z:x=(if f e.1<f e.2 then f e.2 else f e.1)
  ·rw [decide_eq_true z,if_pos z];rfl
  ·rw [decide_eq_false z,if_neg z];rfl)
 have em:((zb5 M).map f).map (fun x=>if x=(if f e.1<f e.2 then f e.2 else f e.1) then (if f e.1<f e.2 then f e.1 else f e.2) else x)=(zb5 M).map (rlb f e.1 e.2):=by rw [zbl4];rfl
 rw [em]at c3
 exact⟨_,_,(zd9 E1).trans (zo9 (i:=4) c3 (by simp [t1]))⟩
theorem zay2 (s0 s1 s2:Sl) {M:Nat} (hM:M≤1000) {ts:List (Int×Int)} (hw:WebOk M ts):∀(L:List Int) (f:Int→Int) (s5 s6 s7:Sl),(∀l∈L,0≤l∧l<(ts.length:Int)) →
  ∃u5 u6 u7,forD (za6 5) bdLl (L.map D.int) [s0,s1,s2,.val (.lst (ts.map pD)),.own (((zb5 M).map f).map D.int),s5,s6,s7]=some (.nx [s0,s1,s2,.val (.lst (ts.map pD)),.own (((zb5 M).map (lls f (egs ts L))).map D.int),u5,u6,u7])
 |[],f,s5,s6,s7,_=>⟨s5,s6,s7,rfl⟩
 |l::L,f,s5,s6,s7,h=>by
  obtain⟨h0,h1⟩:=h l (zbd7 ..)
  obtain⟨v6,v7,e⟩:=turn_Ll s0 s1 s2 s6 s7 hM hw (f:=f) h0 h1
  obtain⟨u5,u6,u7,ih⟩:=zay2 s0 s1 s2 hM hw L (rlb f (tieN ts l).1 (tieN ts l).2) (.val (.int l)) v6 v7 fun l' hl'=>h l' (zbd6 _ hl')
  exact⟨u5,u6,u7,(zad4 rfl e).trans ih⟩
theorem zay7 {M:Nat} (hM:M≤1000) {ts:List (Int×Int)} (hw:WebOk M ts) {L:List Int} (h:∀l∈L,0≤l∧l<(ts.length:Int)):zf5 [wD M ts,.lst (L.map D.int)]=some (.nw (((zb5 M).map (ll (egs ts L))).map D.int)):=by
 let W:Sl:=.val (wD M ts)
 let N:Sl:=.val (.lst (L.map D.int))
 have E1:zz0 (zr5 2 (ze0 (za6 2) (ze0 (za6 3) zp9))) (dVar 0) [W,N,.no,.no,.no,.no,.no,.no]=some (.nx [W,N,.val (.int (M:Int)),.val (.lst (ts.map pD)),.no,.no,.no,.no]):=rfl
 have E2:=zo9 (i:=4) (lr_of (f:=dVar 2) (t:=[W,N,.val (.int (M:Int)),.val (.lst (ts.map pD)),.no,.no,.no,.no]) (n:=M) rfl hM) (by simp)
 have e0:(zb5 M).map D.int=((zb5 M).map id).map D.int:=by rw [List.map_id]
 obtain⟨u5,u6,u7,e⟩:=zay2 W N (.val (.int (M:Int))) hM hw L id .no .no .no h
 have E3:dFor (za6 5) (dVar 1) bdLl [W,N,.val (.int (M:Int)),.val (.lst (ts.map pD)),.own ((zb5 M).map D.int),.no,.no,.no]=some (.nx [W,N,.val (.int (M:Int)),.val (.lst (ts.map pD)),.own (((zb5 M).map (lls id (egs ts L))).map D.int),u5,u6,u7]):=by
  rw [e0]
  exact e
 show (zk9 [W,N,.no,.no,.no,.no,.no,.no]).bind zp5=_
 refine bnd ?_
 have E4:zah2 4 [W,N,.val (.int (M:Int)),.val (.lst (ts.map pD)),.own (((zb5 M).map (lls id (egs ts L))).map D.int),u5,u6,u7]=some (.rt (.nw (((zb5 M).map (ll (egs ts L))).map D.int))):=rfl
 exact (zd9 E1).trans ((zd9 E2).trans ((zd9 E3).trans E4))
def zar4 (M:Nat) (es:List Eg):Nat:=((zb5 M).filter fun v=>decide (ll es v=0)).length
def zv2 (M:Nat) (ts:List (Int×Int)) (L:List Int):Bool:=rsB (ts.length:Int) (-1) L&&decide (zar4 M (egs ts L)=L.length+1)
theorem zah4 (f:Int→Int) (a:Int):∀l:List Int,(l.map f).count a=(l.filter fun v=>decide (f v=a)).length
 |[]=>rfl
 |x::l=>by
  rw [zbf4,List.count_cons,zah4 f a l,zbh0]
  by_cases h:f x=a
  ·simp [h]
  ·simp [h]
theorem zat4 {M:Nat} (hM:M≤1000) {ts:List (Int×Int)} (hw:WebOk M ts) {L:List Int} (hl:L.length≤1000):zl6 [wD M ts,.lst (L.map D.int)]=some (.cl (.bl (zv2 M ts L))):=by
 let t:Th:=[.val (wD M ts),.val (.lst (L.map D.int))]
 have l1:(dT1 kLen (za2 (d2 kIx (dVar 0) (dC (.int 1))) dNil)) t=some (.cl (.int (ts.length:Int))):=by
  rw [zab0 (rfl:(d2 kIx (dVar 0) (dC (.int 1))) t=some (.cl (.lst (ts.map pD))))]
  show some (Ev.cl (.int ((ts.map pD).length:Int)))=_
  rw [zbf7]
 have c1:(dT1 (zf0 zg7) (za2 (dVar 1) (za2 (dT1 kLen (za2 (d2 kIx (dVar 0) (dC (.int 1))) dNil)) dNil))) t=some (.cl (.bl (rsB (ts.length:Int) (-1) L))):=(zq6 (rfl:dVar 1 t=some (.cl (.lst (L.map D.int)))) l1).trans (zat8 (rise_is hl) rfl)
 have c2:dNot (dTr (dT1 (zf0 zg7) (za2 (dVar 1) (za2 (dT1 kLen (za2 (d2 kIx (dVar 0) (dC (.int 1))) dNil)) dNil)))) t=some (!rsB (ts.length:Int) (-1) L):=by
  unfold dNot dTr
  rw [c1]
  rfl
 show (zx6 t).bind zp5=_
 refine bnd ?_
 unfold zv2
 cases h:rsB (ts.length:Int) (-1) L with
 |false =>
  rw [h]at c2
  exact seq_rt (zba1 c2 rfl)
 |true =>
  rw [h]at c2
  refine (zd9 (grd c2 rfl)).trans (zo7 ?_)
  have hv:∀l∈L,0≤l∧l<(ts.length:Int):=fun l hl=>by have:=(zas3 h).2 l hl;lia
  have c3:(dT1 (zf0 zf5) (za2 (dVar 0) (za2 (dVar 1) dNil))) t=some (.nw (((zb5 M).map (ll (egs ts L))).map D.int)):=(zq6 (rfl:dVar 0 t=some (.cl (wD M ts))) (rfl:dVar 1 t=some (.cl (.lst (L.map D.int))))).trans (zam8 (zay7 hM hw hv))
  have c4:(d2 kCnt (dT1 (zf0 zf5) (za2 (dVar 0) (za2 (dVar 1) dNil))) (dC (.int 0))) t=some (.cl (.int (zar4 M (egs ts L):Nat))):=by
   rw [zh4 c3 (rfl:dC (.int 0) t=some (.cl (.int 0)))]
   show (zm8 (((zb5 M).map (ll (egs ts L))).map D.int)).map _=_
   rw [zn1]
   show some (Ev.cl (.int ((((zb5 M).map (ll (egs ts L))).count 0:Nat):Int)))=_
   rw [zah4]
   rfl
  have c5:=zk3 (zr4 (xs:=L) (f:=dVar 1) (t:=t) (r:=.cl (.lst (L.map D.int))) rfl rfl) (rfl:dC (.int 1) t=some (.cl (.int 1)))
  rw [zh4 c4 c5]
  show some (Ev.cl (.bl (decide ((zar4 M (egs ts L):Int)=(L.length:Int)+1))))=_
  have eq:decide ((zar4 M (egs ts L):Int)=(L.length:Int)+1)=decide (zar4 M (egs ts L)=L.length+1):=decide_eq_decide.mpr (by lia)
  rw [eq,zbl9]
def zq2 (ts:List (Int×Int)) (L ks:List Int):List Int:=L.foldl (fun ks l=>[(tieN ts l).1,(tieN ts l).2].foldl putN ks) ks
theorem zap9 {ts:List (Int×Int)}{y:Int}:∀ {L ks:List Int},y∈zq2 ts L ks↔y∈ks∨∃l∈L,y=(tieN ts l).1∨y=(tieN ts l).2
 |[],ks=>by simp [zq2]
 |l::L,ks=>by
  show y∈zq2 ts L ([(tieN ts l).1,(tieN ts l).2].foldl putN ks)↔_
  rw [zap9 (L:=L),zaf7,or_assoc]
  simp
theorem web1 {i:Nat}{t:Th}{M:Nat}{ts:List (Int×Int)} (h:t[i]?=some (.val (wD M ts))):(d2 kIx (dVar i) (dC (.int 1))) t=some (.cl (.lst (ts.map pD))):=by
 have:dVar i t=some (.cl (wD M ts)):=by unfold dVar;rw [h]
 rw [zh4 this rfl]
 rfl
theorem web0 {i:Nat}{t:Th}{M:Nat}{ts:List (Int×Int)} (h:t[i]?=some (.val (wD M ts))):(d2 kIx (dVar i) (dC (.int 0))) t=some (.cl (.int (M:Int))):=by
 have:dVar i t=some (.cl (wD M ts)):=by unfold dVar;rw [h]
 rw [zh4 this rfl]
 rfl
theorem zay6 {M:Nat} (hM:M≤1000) {ts:List (Int×Int)} (hw:WebOk M ts):∀ {L ks:List Int}{u v:Sl},AllK M ks→(∀l∈L,0≤l∧l<(ts.length:Int)) →
  zk1 (za6 0) zf8 (fsT (d2 kIx (d2 kIx (dVar 2) (dC (.int 1))) (dVar 0))) (za6 1) zf8 (dVar 1) (dC (.bl true)) (L.map D.int) [u,v,.val (wD M ts)] (kdT ks)=some (kdT (zq2 ts L ks))
 |[],ks,u,v,_,_=>rfl
 |l::L,ks,u,v,h,hn=>by
  obtain⟨h0,h1⟩:=hn l (zbd7 ..)
  obtain⟨a0,ab,bM⟩:=hw.lt _ (zaa9 h0 h1)
  have er:=zan2 (fa:=d2 kIx (dVar 2) (dC (.int 1))) (fb:=dVar 0) (t:=[.val (.int l),v,.val (wD M ts)]) (web1 rfl) rfl rfl rfl h0 h1
  have hx:∀x∈[(tieN ts l).1,(tieN ts l).2],0≤x∧x<(M:Int):=fun x hx=>by
   rcases zbe3.mp hx with z | z
   ·rw [z];exact⟨a0,by lia⟩
   ·rw [zbe2.mp z];exact⟨by lia,bM⟩
  obtain⟨u',e⟩:=lk_in hM (a:=.val (.int l)) (S:=.val (wD M ts)) (u:=v) h hx
  have i:=zay6 hM hw (L:=L) (u:=.val (.int l)) (v:=u') (AllK.fold h hx) fun m hm=>hn m (zbd6 _ hm)
  have ef:fsT (d2 kIx (d2 kIx (dVar 2) (dC (.int 1))) (dVar 0)) [.val (.int l),v,.val (wD M ts)]=some (true,[(tieN ts l).1,(tieN ts l).2].map D.int):=by
   unfold fsT;rw [er];rfl
  show ((fsT (d2 kIx (d2 kIx (dVar 2) (dC (.int 1))) (dVar 0)) [.val (.int l),v,.val (wD M ts)]).bind fun q=>(zk0 (za6 1) zf8 (dVar 1) (dC (.bl true)) q.2 [.val (.int l),v,.val (wD M ts)] (kdT ks)).bind fun p=>zk1 (za6 0) zf8 (fsT (d2 kIx (d2 kIx (dVar 2) (dC (.int 1))) (dVar 0))) (za6 1) zf8 (dVar 1) (dC (.bl true)) (L.map D.int) p.2 p.1)=_
  rw [ef]
  show ((zk0 (za6 1) zf8 (dVar 1) (dC (.bl true)) ([(tieN ts l).1,(tieN ts l).2].map D.int) [.val (.int l),v,.val (wD M ts)] (kdT ks)).bind fun p=>zk1 (za6 0) zf8 (fsT (d2 kIx (d2 kIx (dVar 2) (dC (.int 1))) (dVar 0))) (za6 1) zf8 (dVar 1) (dC (.bl true)) (L.map D.int) p.2 p.1)=_
  rw [e]
  exact i
def zo5 (M:Nat):List Int:=(zbh8 (M - 1)).map fun (i:Nat)=>1+(i:Int)
theorem zax6 {M:Nat} (h:0<M):zb5 M=0::zo5 M:=by
 obtain⟨n,rfl⟩:∃n,M=n+1:=⟨M - 1,by lia⟩
 unfold zb5 zo5
 rw [List.range_succ_eq_map,zbf4,zbl4]
 congr 1
 refine zbp4 fun x _=>?_
 show ((x+1:Nat):Int)=1+(x:Int)
 lia
def vL (fs:List Int) (p:Int):Int:=fs.getD p.toNat 0
def zp7 (M:Nat) (ts:List (Int×Int)) (fs L:List Int):Int:=(((zo5 M).filter fun p=>!decide (p∈zq2 ts L [])).map (vL fs)).sum
def wtS (ws L:List Int):Int:=(L.map (vL ws)).sum
theorem zad3 (f:Int→Int) (xs:List Int):(xs.map fun x=>D.int (f x))=(xs.map f).map D.int:=by rw [zbl4];rfl
theorem left_is {M:Nat} (hM:M≤1000) {ts:List (Int×Int)} (hw:WebOk M ts) {fs L:List Int} (hf:fs.length=M) (hL:∀l∈L,0≤l∧l<(ts.length:Int)) (hl:L.length≤1000):zg0 [wD M ts,.lst (fs.map D.int),.lst (L.map D.int)]=some (.cl (.int (zp7 M ts fs L))):=by
 let t:Th:=[.val (wD M ts),.val (.lst (fs.map D.int)),.val (.lst (L.map D.int)),.no]
 have c1:(zx8 2 [0] (fsL (dVar 2)) (za6 0) zf8 (fsT (d2 kIx (d2 kIx (dVar 2) (dC (.int 1))) (dVar 0))) (za6 1) zf8 (dVar 1) (dC (.bl true))) t=some (.dn (.dct ((zq2 ts L []).map kN) ((zq2 ts L []).map ttD))):=by
  show (zk1 (za6 0) zf8 (fsT (d2 kIx (d2 kIx (dVar 2) (dC (.int 1))) (dVar 0))) (za6 1) zf8 (dVar 1) (dC (.bl true)) (L.map D.int) [.no,.no,.val (wD M ts)] (kdT [])).map _=_
  rw [zay6 hM hw ⟨zbj1,fun x hx=>(by cases hx)⟩ hL]
  rfl
 have E1:=asg_dn (i:=3) c1 (by simp [t])
 let dd:D:=.dct ((zq2 ts L []).map kN) ((zq2 ts L []).map ttD)
 let t1:Th:=[.val (wD M ts),.val (.lst (fs.map D.int)),.val (.lst (L.map D.int)),.dp dd]
 have rg:fsR2 (dC (.int 1)) (d2 kIx (dVar 0) (dC (.int 0))) t1=some (true,(zo5 M).map D.int):=by
  unfold fsR2
  rw [web0 (i:=0) (t:=t1) rfl]
  show (if bigI (M:Int)&&bigI 1 then some (true,rngD 1 ((M:Int) - 1).toNat) else none)=_
  rw [if_pos (by unfold bigI;rw [decide_eq_true (by lia)];rfl)]
  unfold zo5 rngD
  rw [zbl4,show ((M:Int) - 1).toNat=M - 1 by lia]
  rfl
 have c2:(zg4 1 [3,1] (fsR2 (dC (.int 1)) (d2 kIx (dVar 0) (dC (.int 0)))) (za6 0) (dBo (d2 (kInD true) (dVar 0) (dVar 1))) (d2 kIx (dVar 2) (dVar 0))) t1=some (.nw ((((zo5 M).filter fun p=>!decide (p∈zq2 ts L [])).map (vL fs)).map D.int)):=by
  unfold zg4
  rw [rg]
  show (if ((zo5 M).map D.int).length≤50000 then (zf1 (za6 0) (dBo (d2 (kInD true) (dVar 0) (dVar 1))) (d2 kIx (dVar 2) (dVar 0)) ((zo5 M).map D.int) [.no,.val dd,.val (.lst (fs.map D.int))]).bind (fun ys=>if (true&&false)||flats ys then some (Ev.nw ys) else none) else none)=_
  rw [if_pos (by unfold zo5;simp;lia)]
  have k:=zaq7 (e:=D.int) (ft:=dBo (d2 (kInD true) (dVar 0) (dVar 1))) (fe:=d2 kIx (dVar 2) (dVar 0)) (p:=fun p=>!decide (p∈zq2 ts L [])) (f:=fun x=>D.int (vL fs x)) (ext:=[.val dd,.val (.lst (fs.map D.int))]) (zo5 M) .no (fun x hx=>by
   unfold dBo
   rw [zh4 (rfl:dVar 0 [.val (.int x),.val dd,.val (.lst (fs.map D.int))]=some (.cl (.int x))) (rfl:dVar 1 _=some (.cl dd))]
   show some (!hasK ((zq2 ts L []).map kN) (kN x))=_
   rw [zba0]) (fun x hx _=>by
   obtain⟨i,hi,rfl⟩:=zbi1.mp hx
   have hi:=zbi8.mp hi
   exact⟨_,zaa0 (fa:=dVar 2) (fb:=dVar 0) (t:=[.val (.int (1+(i:Int))),.val dd,.val (.lst (fs.map D.int))]) (r1:=.cl (.lst (fs.map D.int))) (r2:=.cl (.int (1+(i:Int)))) fs (1+(i:Int)) rfl rfl (by lia) (by lia) rfl rfl,rfl⟩)
  rw [k,zad3]
  simp only [zbd9,flats_ints,zbj5,if_true]
 have E2:=zo7 (zau7 c2 rfl)
 show (zj8 t).bind zp5=_
 exact bnd ((zd9 E1).trans E2)
theorem wts_of {cap j:Nat}{fL:DE}{t:Th}{r:Ev}{ws L:List Int}{b:Bool} (hf:fL t=some r) (hr:r.d=.lst (L.map D.int)) (hc:capD t [cap]=some (b,[.lst (ws.map D.int)])) (hl:L.length≤1000) (hv:∀l∈L,0≤l∧l<(ws.length:Int)) :
  (dT1 kSum (za2 (zg4 1 [cap] (fsL fL) (za6 0) zf8 (d2 kIx (dVar 1) (dVar 0))) dNil)) t=some (.cl (.int (wtS ws L))):=by
 have c:=zaq8 (cap:=[cap]) (f:=fL) (t:=t) (r:=r) (xs:=L) (g:=vL ws) (b:=b) (c:=[.lst (ws.map D.int)]) (fe:=d2 kIx (dVar 1) (dVar 0)) hf hr (by lia) hc (fun x hx=>zaa0 (fa:=dVar 1) (fb:=dVar 0) (t:=[.val (.int x),.val (.lst (ws.map D.int))]) (r1:=.cl (.lst (ws.map D.int))) (r2:=.cl (.int x)) ws x rfl rfl (hv x hx).1 (hv x hx).2 rfl rfl)
 exact zau7 c rfl
theorem cost_is {M:Nat} (hM:M≤1000) {ts:List (Int×Int)} (hw:WebOk M ts) {ws fs L:List Int} (hws:ws.length=ts.length) (hf:fs.length=M) (hL:∀l∈L,0≤l∧l<(ts.length:Int)) (hl:L.length≤1000):ze5 [wD M ts,.lst (ws.map D.int),.lst (fs.map D.int),.lst (L.map D.int)]=some (.cl (.int (wtS ws L+zp7 M ts fs L))):=by
 let t:Th:=[.val (wD M ts),.val (.lst (ws.map D.int)),.val (.lst (fs.map D.int)),.val (.lst (L.map D.int))]
 have c1:=wts_of (cap:=1) (j:=0) (fL:=dVar 3) (t:=t) (r:=.cl (.lst (L.map D.int))) (ws:=ws) (L:=L) (b:=true) rfl rfl rfl hl (fun l h=>by rw [hws];exact hL l h)
 have c2:(dT1 (zf0 zg0) (za2 (dVar 0) (za2 (dVar 2) (za2 (dVar 3) dNil)))) t=some (.cl (.int (zp7 M ts fs L))):=(t3_of (rfl:dVar 0 t=some (.cl (wD M ts))) (rfl:dVar 2 t=some (.cl (.lst (fs.map D.int)))) (rfl:dVar 3 t=some (.cl (.lst (L.map D.int))))).trans (zat8 (left_is hM hw hf hL hl) rfl)
 show (zl0 t).bind zp5=_
 exact bnd (zo7 (zk3 c1 c2))
def ptF (P:List Int) (e:Eg):List Int:=P++[e.1,e.2].filter fun q=>!decide (q∈P)
def pts (ts:List (Int×Int)) (L P:List Int):List Int:=L.foldl (fun P l=>ptF P (tieN ts l)) P
theorem mem_pts {ts:List (Int×Int)}{y:Int}:∀ {L P:List Int},y∈pts ts L P↔y∈P∨∃l∈L,y=(tieN ts l).1∨y=(tieN ts l).2
 |[],P=>by simp [pts]
 |l::L,P=>by
  show y∈pts ts L (ptF P (tieN ts l))↔_
  rw [mem_pts (L:=L)]
  have:y∈ptF P (tieN ts l)↔y∈P∨y=(tieN ts l).1∨y=(tieN ts l).2:=by
   unfold ptF
   rw [zbd8,zbk6]
   by_cases h:y∈P
   ·simp [h]
   ·simp [h]
  rw [this,or_assoc]
  simp
theorem zao6 {M:Nat}{ts:List (Int×Int)} (hw:WebOk M ts):∀ {L P:List Int},AllK M P→(∀l∈L,0≤l∧l<(ts.length:Int))→AllK M (pts ts L P)
 |[],P,h,_=>h
 |l::L,P,h,hL=>by
  obtain⟨h0,h1⟩:=hL l (zbd7 ..)
  obtain⟨a0,ab,bM⟩:=hw.lt _ (zaa9 h0 h1)
  refine zao6 hw (L:=L) ⟨?_,fun x hx=>?_⟩ fun m hm=>hL m (zbd6 _ hm)
  ·unfold ptF
   refine zbf9.mpr ⟨h.nd,List.Nodup.sublist zbp5 (by simp;lia),fun a ha b hb e=>?_⟩
   have:=(zbk6.mp hb).2
   rw [← e,decide_eq_true ha]at this
   cases this
  ·unfold ptF at hx
   rcases zbd8.mp hx with z | z
   ·exact h.lt x z
   ·rcases zbe3.mp (zbk6.mp z).1 with y | y
    ·rw [y];exact⟨a0,by lia⟩
    ·rw [zbe2.mp y];exact⟨by lia,bM⟩
theorem zad9 {fa fb:DE}{t:Th}{r1 r2:Ev}{xs ys:List Int} (h1:fa t=some r1) (h2:fb t=some r2) (e1:r1.d=.lst (xs.map D.int)) (e2:r2.d=.lst (ys.map D.int)) (hl:xs.length+ys.length≤100000):(d2 qA fa fb) t=some (.nw ((xs++ys).map D.int)):=by
 rw [zh4 h1 h2]
 (try unfold qA);(try unfold qM);unfold kOr kI
 rw [e1,e2]
 show kCat r1 r2=_
 unfold kCat
 rw [e1,e2]
 show (if _ then _ else _)=_
 rw [if_pos]
 ·rw [zbl5]
 ·simp [flats_ints]
  lia
theorem zax5 {iw ip ix:Nat}{t:Th}{M:Nat}{ts:List (Int×Int)}{P:List Int}{l:Int} (hw:t[iw]?=some (.val (wD M ts))) (hp:capD t [ip]=some (false,[.lst (P.map D.int)])) (hx:t[ix]?=some (.val (.int l))) (h0:0≤l) (h1:l<(ts.length:Int)) :
  (zg4 1 [ip] (fsT (d2 kIx (d2 kIx (dVar iw) (dC (.int 1))) (dVar ix))) (za6 0) (dBo (d2 kNin (dVar 0) (dVar 1))) (dVar 0)) t=some (.nw (([(tieN ts l).1,(tieN ts l).2].filter fun q=>!decide (q∈P)).map D.int)):=by
 have ex:dVar ix t=some (.cl (.int l)):=by unfold dVar;rw [hx]
 have er:=zan2 (fa:=d2 kIx (dVar iw) (dC (.int 1))) (fb:=dVar ix) (t:=t) (web1 hw) ex rfl rfl h0 h1
 have ef:fsT (d2 kIx (d2 kIx (dVar iw) (dC (.int 1))) (dVar ix)) t=some (true,[(tieN ts l).1,(tieN ts l).2].map D.int):=by
  unfold fsT;rw [er];rfl
 unfold zg4
 rw [ef,zbd9,hp,zbd9]
 show (if ([(tieN ts l).1,(tieN ts l).2].map D.int).length≤50000 then (zf1 (za6 0) (dBo (d2 kNin (dVar 0) (dVar 1))) (dVar 0) ([(tieN ts l).1,(tieN ts l).2].map D.int) [.no,.val (.lst (P.map D.int))]).bind (fun ys=>if (true&&false)||flats ys then some (Ev.nw ys) else none) else none)=_
 rw [if_pos (by simp)]
 have k:=zaq7 (e:=D.int) (ft:=dBo (d2 kNin (dVar 0) (dVar 1))) (fe:=dVar 0) (p:=fun q=>!decide (q∈P)) (f:=D.int) (ext:=[.val (.lst (P.map D.int))]) [(tieN ts l).1,(tieN ts l).2] .no (fun x hx=>zap7 (fa:=dVar 0) (fb:=dVar 1) (t:=[.val (.int x),.val (.lst (P.map D.int))]) (r1:=.cl (.int x)) (r2:=.cl (.lst (P.map D.int))) x P rfl rfl rfl rfl) (fun x _ _=>⟨_,rfl,rfl⟩)
 rw [k]
 simp only [zbd9,flats_ints,zbj5,if_true]
theorem zay1 (s1:Sl) {M:Nat} (hM:M≤1000) {ts:List (Int×Int)} (hw:WebOk M ts):∀(L P:List Int) (s3:Sl),AllK M P→(∀l∈L,0≤l∧l<(ts.length:Int)) →
  ∃u3,forD (za6 3) bdPt (L.map D.int) [.val (wD M ts),s1,.own (P.map D.int),s3]=some (.nx [.val (wD M ts),s1,.own ((pts ts L P).map D.int),u3])
 |[],P,s3,_,_=>⟨s3,rfl⟩
 |l::L,P,s3,hP,hL=>by
  obtain⟨h0,h1⟩:=hL l (zbd7 ..)
  let t:Th:=[.val (wD M ts),s1,.own (P.map D.int),.val (.int l)]
  have c:=zax5 (iw:=0) (ip:=2) (ix:=3) (t:=t) (P:=P) rfl rfl rfl h0 h1
  have pl:=hP.len
  have fl:=zbi2 (fun q=>!decide (q∈P)) [(tieN ts l).1,(tieN ts l).2]
  have e:=zo9 (i:=2) (zad9 (fa:=dVar 2) (t:=t) (r1:=.tm (.lst (P.map D.int))) (xs:=P) rfl c rfl rfl (by simp at fl;lia)) (by simp [t])
  have h':=zao6 hw (L:=[l]) hP (fun m hm=>by rw [zbe2.mp hm];exact⟨h0,h1⟩)
  obtain⟨u3,ih⟩:=zay1 s1 hM hw L (ptF P (tieN ts l)) (.val (.int l)) h' fun m hm=>hL m (zbd6 _ hm)
  exact⟨u3,(zad4 rfl e).trans ih⟩
theorem one0 {M:Nat} (h:0<M):AllK M [0]:=⟨by simp,fun x hx=>by rw [zbe2.mp hx];lia⟩
theorem zaf0 {M:Nat} (hM:M≤60) {ts:List (Int×Int)} (hw:WebOk M ts) {L:List Int} (hL:∀l∈L,0≤l∧l<(ts.length:Int)):zg8 [wD M ts,.lst (L.map D.int)]=some (.nw ((zd6 (pts ts L [0])).map D.int)):=by
 let W:Sl:=.val (wD M ts)
 let N:Sl:=.val (.lst (L.map D.int))
 have E1:dAsg 2 (dT1 kLst (za2 (dC (.int 0)) dNil)) [W,N,.no,.no]=some (.nx [W,N,.own [.int 0],.no]):=rfl
 obtain⟨u3,e⟩:=zay1 N (by lia) hw L [0] .no (one0 hw.pos) hL
 have E2:dFor (za6 3) (dVar 1) bdPt [W,N,.own [.int 0],.no]=some (.nx [W,N,.own ((pts ts L [0]).map D.int),u3]):=e
 have pl:=(zao6 hw (one0 hw.pos) hL).len
 have E3:=zo7 (zu0 (f:=dVar 2) (t:=[W,N,.own ((pts ts L [0]).map D.int),u3]) (r:=.tm (.lst ((pts ts L [0]).map D.int))) (xs:=pts ts L [0]) rfl rfl (by lia))
 show (zn3 [W,N,.no,.no]).bind zp5=_
 refine bnd ?_
 exact (zd9 E1).trans ((zd9 E2).trans E3)
theorem mem_srt {x:Int}{P:List Int}:x∈zd6 P↔x∈P:=(zd5 P).mem_iff
theorem left_eq {M:Nat} (hM:0<M) (ts:List (Int×Int)) (fs L:List Int):(((zb5 M).filter fun p=>!decide (p∈zd6 (pts ts L [0]))).map (vL fs)).sum=zp7 M ts fs L:=by
 unfold zp7
 rw [zax6 hM,zbh0]
 have z:(0:Int)∈zd6 (pts ts L [0]):=mem_srt.mpr (mem_pts.mpr (.inl (zbe2.mpr rfl)))
 rw [decide_eq_true z]
 show (((zo5 M).filter fun p=>!decide (p∈zd6 (pts ts L [0]))).map (vL fs)).sum=_
 congr 2
 refine List.filter_congr fun p hp=>?_
 congr 1
 refine decide_eq_decide.mpr ?_
 rw [mem_srt,mem_pts,zap9]
 obtain⟨i,_,rfl⟩:=zbi1.mp hp
 have : ¬ (1+(i:Int)=0):=by lia
 simp [this]
theorem sum_le {B:Int} (b0:0≤B):∀ {l:List Int},(∀x∈l,0≤x∧x≤B)→0≤l.sum∧l.sum≤(l.length:Int)*B
 |[],_=>by simp
 |x::l,h=>by
  have i:=sum_le b0 (l:=l) fun y hy=>h y (zbd6 _ hy)
  have:=h x (zbd7 ..)
  rw [List.sum_cons,zbf3]
  have e:((l.length+1:Nat):Int)*B=(l.length:Int)*B+B:=by
   rw [Int.natCast_add,Int.add_mul]
   simp
  lia
theorem vL_in {fs:List Int}{B:Int} (b0:0≤B) (h:∀f∈fs,0≤f∧f≤B) (p:Int):0≤vL fs p∧vL fs p≤B:=by
 unfold vL
 rw [zbe9]
 cases e:fs[p.toNat]? with
 |none=>exact⟨zbm3 _,b0⟩
 |some v=>exact h v (zbm5 e)
theorem left_le {M:Nat} (hM:M≤60) {ts:List (Int×Int)}{fs L:List Int} (hf:∀f∈fs,0≤f∧f≤1000000000000):0≤zp7 M ts fs L∧zp7 M ts fs L≤60000000000000:=by
 have:=sum_le (B:=1000000000000) (by decide) (l:=((zo5 M).filter fun p=>!decide (p∈zq2 ts L [])).map (vL fs)) fun x hx=>by
  obtain⟨p,_,rfl⟩:=zbi1.mp hx
  exact vL_in (by decide) hf p
 have l1:=zbi2 (fun p=>!decide (p∈zq2 ts L [])) (zo5 M)
 have l2:(zo5 M).length≤60:=by unfold zo5;simp;lia
 unfold zp7
 rw [zbf7]at this
 have l3:(((zo5 M).filter fun p=>!decide (p∈zq2 ts L [])).length:Int)*1000000000000≤60*1000000000000:=Int.mul_le_mul_of_nonneg_right (by lia) (by decide)
 lia
theorem lcost_is {M:Nat} (hM:M≤60) {ts:List (Int×Int)} (hw:WebOk M ts) {ws fs L:List Int} (hws:ws.length=ts.length) (hf:fs.length=M) (hfb:∀f∈fs,0≤f∧f≤1000000000000) (hL:∀l∈L,0≤l∧l<(ts.length:Int)) (hl:L.length≤1000) {often:Int} (o0:0≤often) (o1:often≤10):zi4 [wD M ts,.lst (ws.map D.int),.lst (fs.map D.int),.lst (L.map D.int),.int often]=some (.cl (.int (wtS ws L+often*zp7 M ts fs L))):=by
 let t:Th:=[.val (wD M ts),.val (.lst (ws.map D.int)),.val (.lst (fs.map D.int)),.val (.lst (L.map D.int)),.val (.int often),.no,.no]
 have E1:=zo9 (i:=5) (t:=t) ((zq6 (rfl:dVar 0 t=some (.cl (wD M ts))) (rfl:dVar 3 t=some (.cl (.lst (L.map D.int))))).trans (zam8 (zaf0 hM hw hL))) (by simp [t])
 let P:=zd6 (pts ts L [0])
 let t1:Th:=[.val (wD M ts),.val (.lst (ws.map D.int)),.val (.lst (fs.map D.int)),.val (.lst (L.map D.int)),.val (.int often),.own (P.map D.int),.no]
 have c2:=dcompR (ft:=dBo (d2 kNin (dVar 0) (dVar 1))) (fe:=d2 kIx (dVar 2) (dVar 0)) (f:=d2 kIx (dVar 0) (dC (.int 0))) (p:=fun p=>!decide (p∈P)) (g:=fun x=>D.int (vL fs x)) (cap:=[5,2]) (t:=t1) (n:=M) (b:=false) (c:=[.lst (P.map D.int),.lst (fs.map D.int)]) (web0 rfl) rfl rfl (by lia) (fun x _=>zap7 (fa:=dVar 0) (fb:=dVar 1) (t:=[.val (.int x),.val (.lst (P.map D.int)),.val (.lst (fs.map D.int))]) (r1:=.cl (.int x)) (r2:=.cl (.lst (P.map D.int))) x P rfl rfl rfl rfl) (fun x hx _=>by
  unfold zb5 at hx
  obtain⟨i,hi,rfl⟩:=zbi1.mp hx
  have hi:=zbi8.mp hi
  exact⟨_,zaa0 (fa:=dVar 2) (fb:=dVar 0) (t:=[.val (.int (i:Int)),.val (.lst (P.map D.int)),.val (.lst (fs.map D.int))]) (r1:=.cl (.lst (fs.map D.int))) (r2:=.cl (.int (i:Int))) fs (i:Int) rfl rfl (by lia) (by lia) rfl rfl,rfl⟩) (.inl (by rw [zad3];exact flats_ints _))
 rw [zad3]at c2
 have s2:=zau7 c2 rfl
 rw [left_eq hw.pos]at s2
 have E2:=zy3 (i:=6) s2 (by simp [t1])
 let t2:Th:=[.val (wD M ts),.val (.lst (ws.map D.int)),.val (.lst (fs.map D.int)),.val (.lst (L.map D.int)),.val (.int often),.own (P.map D.int),.val (.int (zp7 M ts fs L))]
 have c3:=wts_of (cap:=1) (j:=0) (fL:=dVar 3) (t:=t2) (r:=.cl (.lst (L.map D.int))) (ws:=ws) (L:=L) (b:=true) rfl rfl rfl hl (fun l h=>by rw [hws];exact hL l h)
 have ll:=left_le (M:=M) hM (ts:=ts) (L:=L) hfb
 have c4:=zax7 (fa:=dVar 4) (fb:=dVar 6) (t:=t2) (a:=often) (b:=zp7 M ts fs L) rfl rfl (sm_lt o0 (by lia)) (sm_lt ll.1 (by lia))
 show (zs6 t).bind zp5=_
 exact bnd ((zd9 E1).trans ((zd9 E2).trans (zo7 (zk3 c3 c4))))
noncomputable def scn (x:Int) (R:List Int) (e:Eg):List Int:=if e.2=x∧e.1∉(if e.1=x∧e.2∉R then R++[e.2] else R) then (if e.1=x∧e.2∉R then R++[e.2] else R)++[e.1] else (if e.1=x∧e.2∉R then R++[e.2] else R)
structure Rch (M:Nat) (es:List Eg) (s:Int) (R:List Int):Prop where
 ak:AllK M R
 eq:∀x∈R,Eqv es s x
theorem Rch.add {M:Nat}{es:List Eg}{s x y:Int}{R:List Int} (h:Rch M es s R) (hx:x∈R) (e:Eqv es x y) (n:y∉R) (y0:0≤y) (y1:y<(M:Int)):Rch M es s (R++[y]):=by
 have:putN R y=R++[y]:=by unfold putN;rw [if_neg n]
 refine⟨this ▸ h.ak.put y0 y1,fun z hz=>?_⟩
 rcases zbd8.mp hz with w | w
 ·exact h.eq z w
 ·rw [zbe2.mp w];exact (h.eq x hx).trans e
theorem scn_ok {M:Nat}{es:List Eg}{s x:Int}{R:List Int}{e:Eg} (h:Rch M es s R) (hx:x∈R) (he:e∈es) (r1:0≤e.1∧e.1<(M:Int)) (r2:0≤e.2∧e.2<(M:Int)):Rch M es s (scn x R e)∧(∃T,scn x R e=R++T)∧(e.1=x→e.2∈scn x R e)∧(e.2=x→e.1∈scn x R e):=by
 unfold scn
 have k1:Rch M es s (if e.1=x∧e.2∉R then R++[e.2] else R)∧(∃T,(if e.1=x∧e.2∉R then R++[e.2] else R)=R++T)∧(e.1=x→e.2∈(if e.1=x∧e.2∉R then R++[e.2] else R)):=by
  split
  ·rename_i c
   exact⟨h.add hx (c.1 ▸ .edge he) c.2 r2.1 r2.2,⟨[e.2],rfl⟩,fun _=>by simp⟩
  ·rename_i c
   exact⟨h,⟨[],by simp⟩,fun z=>Classical.byContradiction fun y=>c ⟨z,y⟩⟩
 generalize (if e.1=x∧e.2∉R then R++[e.2] else R)=R1 at *
 obtain⟨h1,⟨T,eT⟩,m1⟩:=k1
 have hx1:x∈R1:=by rw [eT];exact zbd5 _ hx
 split
 ·rename_i c
  exact⟨h1.add hx1 (c.1 ▸ (.symm (.edge he))) c.2 r1.1 r1.2,⟨T++[e.1],by rw [eT,zbj7]⟩,fun z=>zbd5 _ (m1 z),fun _=>by simp⟩
 ·rename_i c
  exact⟨h1,⟨T,eT⟩,m1,fun z=>Classical.byContradiction fun y=>c ⟨z,y⟩⟩
theorem zaj1 {M:Nat}{es:List Eg}{s x:Int} (hr:∀e∈es,(0≤e.1∧e.1<(M:Int))∧0≤e.2∧e.2<(M:Int)):∀(fs:List Eg) {R:List Int},Rch M es s R→x∈R→(∀e∈fs,e∈es)→Rch M es s (fs.foldl (scn x) R)∧(∃T,fs.foldl (scn x) R=R++T)∧∀e∈fs,(e.1=x→e.2∈fs.foldl (scn x) R)∧(e.2=x→e.1∈fs.foldl (scn x) R)
 |[],R,h,_,_=>⟨h,⟨[],by simp⟩,fun e he=>(by cases he)⟩
 |e::fs,R,h,hx,hf=>by
  have he:=hf e (zbd7 ..)
  obtain⟨h1,⟨T,eT⟩,m1,m2⟩:=scn_ok h hx he (hr e he).1 (hr e he).2
  have hx1:x∈scn x R e:=by rw [eT];exact zbd5 _ hx
  obtain⟨h2,⟨U,eU⟩,m3⟩:=zaj1 hr fs h1 hx1 fun e' he'=>hf e' (zbd6 _ he')
  rw [zbn2]
  have up:∀ {y},y∈scn x R e→y∈fs.foldl (scn x) (scn x R e):=fun hy=>by rw [eU];exact zbd5 _ hy
  refine⟨h2,⟨T++U,by rw [eU,eT,zbj7]⟩,fun e' he'=>?_⟩
  rcases zbe3.mp he' with z | z
  ·rw [z];exact⟨fun y=>up (m1 y),fun y=>up (m2 y)⟩
  ·exact m3 e' z
noncomputable def bfs (es:List Eg):Nat→Nat→List Int→List Int
 |0,_,R=>R
 |n+1,a,R=>if a<R.length then bfs es n (a+1) (es.foldl (scn (R.getD a 0)) R) else R
def Cls (es:List Eg) (R:List Int) (x:Int):Prop := ∀e∈es,(e.1=x→e.2∈R)∧(e.2=x→e.1∈R)
theorem bfs_ok {M:Nat}{es:List Eg}{s:Int} (hr:∀e∈es,(0≤e.1∧e.1<(M:Int))∧0≤e.2∧e.2<(M:Int)):∀(n a:Nat) (R:List Int),Rch M es s R→s∈R→(∀x∈R.take a,Cls es R x)→M+1≤n+a→Rch M es s (bfs es n a R)∧s∈bfs es n a R∧∀x∈bfs es n a R,Cls es (bfs es n a R) x
 |0,a,R,h,hs,hc,hn=>⟨h,hs,fun x hx=>hc x (by rw [zbj2 (by have:=h.ak.len;lia)];exact hx)⟩
 |n+1,a,R,h,hs,hc,hn=>by
  unfold bfs
  by_cases c:a<R.length
  ·rw [if_pos c]
   have ea:R.getD a 0=R[a]:=by rw [zbe9,zbe1 c];rfl
   have hx:R.getD a 0∈R:=by rw [ea];exact zbl2 _
   obtain⟨h1,⟨T,eT⟩,m⟩:=zaj1 hr es h hx fun e he=>he
   refine bfs_ok hr n (a+1) _ h1 (by rw [eT];exact zbd5 _ hs) (fun x hx=>?_) (by lia)
   rw [eT,List.take_append_of_le_length (by lia),List.take_succ_eq_append_getElem c]at hx
   rcases zbd8.mp hx with z | z
   ·intro e he
    have:=hc x z e he
    rw [eT]
    exact⟨fun y=>zbd5 _ (this.1 y),fun y=>zbd5 _ (this.2 y)⟩
   ·rw [zbe2.mp z, ← ea]
    exact m
  ·rw [if_neg c]
   exact⟨h,hs,fun x hx=>hc x (by rw [zbj2 (by lia)];exact hx)⟩
theorem bfs_mem {M:Nat}{es:List Eg}{s:Int} (hr:∀e∈es,(0≤e.1∧e.1<(M:Int))∧0≤e.2∧e.2<(M:Int)) (s0:0≤s) (s1:s<(M:Int)) {n:Nat} (hn:M+1≤n):(bfs es n 0 [s]).Nodup∧(bfs es n 0 [s]).length≤M∧∀v,v∈bfs es n 0 [s]↔Eqv es s v:=by
 obtain⟨h,hs,hc⟩:=bfs_ok hr n 0 [s] ⟨⟨by simp,fun x hx=>by rw [zbe2.mp hx];exact⟨s0,s1⟩⟩,fun x hx=>by rw [zbe2.mp hx];exact .refl s⟩ (by simp) (fun x hx=>by simp at hx) (by lia)
 refine⟨h.ak.nd,h.ak.len,fun v=>⟨h.eq v,fun z=>?_⟩⟩
 exact (z.pred (p:=fun v=>v∈bfs es n 0 [s]) fun e he=>⟨fun y=>(hc _ y e he).1 rfl,fun y=>(hc _ y e he).2 rfl⟩).mp hs
theorem half_R {t:Th}{i j:Nat}{R:List Int}{a:Nat}{x y z:Int} (hi:t[i]?=some (.val (.int y))) (hj:t[j]?=some (.val (.int z))) (h3:t[3]?=some (.own (R.map D.int))) (h4:t[4]?=some (.val (.int (a:Int)))) (ha:a<R.length) (hx:R.getD a 0=x) (hl:R.length<1000) :
  dIfS (dAnd (dBo (d2 kEq (dVar i) (d2 kIx (dVar 3) (dVar 4)))) (dBo (d2 kNin (dVar j) (dVar 3)))) (dApp 3 (dVar j)) zi0 t=some (.nx (t.set 3 (.own ((if y=x∧z∉R then R++[z] else R).map D.int)))):=by
 have ei:dVar i t=some (.cl (.int y)):=by unfold dVar;rw [hi]
 have ej:dVar j t=some (.cl (.int z)):=by unfold dVar;rw [hj]
 have e3:dVar 3 t=some (.tm (.lst (R.map D.int))):=by unfold dVar;rw [h3]
 have e4:dVar 4 t=some (.cl (.int (a:Int))):=by unfold dVar;rw [h4]
 have ix:=zaf9 (fa:=dVar 3) (fb:=dVar 4) R a e3 e4 ha rfl rfl
 rw [hx]at ix
 have c:=zbd0 (zag8 ei ix) (zap7 (fa:=dVar j) (fb:=dVar 3) z R ej e3 rfl rfl)
 by_cases h:y=x∧z∉R
 ·rw [decide_eq_true h.1,decide_eq_false h.2]at c
  rw [if_pos h]
  exact (zag2 c rfl).trans (zbc9 t (i:=3) (xs:=R) ej h3 (by lia))
 ·have:(decide (y=x)&&!decide (z∈R))=false:=by
   by_cases h1:y=x
   ·have h2:z∈R:=Classical.byContradiction fun q=>h ⟨h1,q⟩
    rw [decide_eq_true h2];simp
   ·rw [decide_eq_false h1];rfl
  rw [this]at c
  rw [if_neg h]
  refine (grd c rfl).trans ?_
  congr 2
  symm
  obtain⟨hlt,eq⟩:=zbg7.mp h3
  rw [← eq,List.set_getElem_self]
theorem turn_R1 (s1 s2 s6 s7:Sl) {M:Nat}{ts:List (Int×Int)}{R:List Int}{a:Nat}{x l:Int} (h0:0≤l) (h1:l<(ts.length:Int)) (ha:a<R.length) (hx:R.getD a 0=x) (hl:R.length<900) :
  ∃u6 u7,bdR1 [.val (wD M ts),s1,s2,.own (R.map D.int),.val (.int (a:Int)),.val (.int l),s6,s7]=some (.nx [.val (wD M ts),s1,s2,.own ((scn x R (tieN ts l)).map D.int),.val (.int (a:Int)),.val (.int l),u6,u7]):=by
 have et:=zan2 (fa:=d2 kIx (dVar 0) (dC (.int 1))) (fb:=dVar 5) (t:=[.val (wD M ts),s1,s2,.own (R.map D.int),.val (.int (a:Int)),.val (.int l),s6,s7]) (web1 rfl) rfl rfl rfl h0 h1
 generalize hE:tieN ts l=e at *
 have E1:zz0 (zr5 2 (ze0 (za6 6) (ze0 (za6 7) zp9))) (d2 kIx (d2 kIx (dVar 0) (dC (.int 1))) (dVar 5)) [.val (wD M ts),s1,s2,.own (R.map D.int),.val (.int (a:Int)),.val (.int l),s6,s7]=some (.nx [.val (wD M ts),s1,s2,.own (R.map D.int),.val (.int (a:Int)),.val (.int l),.val (.int e.1),.val (.int e.2)]):=by
  unfold zz0
  rw [et]
  rfl
 have E2:=half_R (t:=[.val (wD M ts),s1,s2,.own (R.map D.int),.val (.int (a:Int)),.val (.int l),.val (.int e.1),.val (.int e.2)]) (i:=6) (j:=7) (y:=e.1) (z:=e.2) rfl rfl rfl rfl ha hx (by lia)
 obtain⟨R1,hR1⟩:∃R1,R1=(if e.1=x∧e.2∉R then R++[e.2] else R):=⟨_,rfl⟩
 rw [← hR1]at E2
 have a1:a<R1.length:=by
  rw [hR1]
  split
  ·rw [zbf8];lia
  ·exact ha
 have x1:R1.getD a 0=x:=by
  rw [hR1]
  split
  ·rw [zbe9,zbg8 ha, ← zbe9];exact hx
  ·exact hx
 have l1:R1.length<1000:=by
  rw [hR1]
  split
  ·rw [zbf8,zbg6];lia
  ·lia
 have E3:=half_R (t:=[.val (wD M ts),s1,s2,.own (R1.map D.int),.val (.int (a:Int)),.val (.int l),.val (.int e.1),.val (.int e.2)]) (i:=7) (j:=6) (y:=e.2) (z:=e.1) rfl rfl rfl rfl a1 x1 l1
 refine⟨.val (.int e.1),.val (.int e.2),(zd9 E1).trans ((zd9 E2).trans (E3.trans ?_))⟩
 rw [hR1]
 rfl
theorem zay0 (s1 s2:Sl) {M:Nat} (hM:M≤800) {ts:List (Int×Int)}{es:List Eg}{s x:Int} (hr:∀e∈es,(0≤e.1∧e.1<(M:Int))∧0≤e.2∧e.2<(M:Int)) {a:Nat}:∀(L:List Int) (R:List Int) (s5 s6 s7:Sl),Rch M es s R→a<R.length→R.getD a 0=x→(∀l∈L,0≤l∧l<(ts.length:Int))→(∀e∈egs ts L,e∈es) →
  ∃u5 u6 u7,forD (za6 5) bdR1 (L.map D.int) [.val (wD M ts),s1,s2,.own (R.map D.int),.val (.int (a:Int)),s5,s6,s7]=some (.nx [.val (wD M ts),s1,s2,.own (((egs ts L).foldl (scn x) R).map D.int),.val (.int (a:Int)),u5,u6,u7])
 |[],R,s5,s6,s7,_,_,_,_,_=>⟨s5,s6,s7,rfl⟩
 |l::L,R,s5,s6,s7,h,ha,hx,hL,hE=>by
  obtain⟨h0,h1⟩:=hL l (zbd7 ..)
  have he:tieN ts l∈es:=hE _ (zbd7 ..)
  have hxm:x∈R:=by
   rw [← hx,zbe9,zbe1 ha]
   exact zbl2 _
  obtain⟨h2,⟨T,eT⟩,_,_⟩:=scn_ok h hxm he (hr _ he).1 (hr _ he).2
  obtain⟨v6,v7,e⟩:=turn_R1 s1 s2 s6 s7 (M:=M) h0 h1 ha hx (by have:=h.ak.len;lia)
  have hx':(scn x R (tieN ts l)).getD a 0=x:=by
   rw [eT,zbe9,zbg8 ha, ← zbe9,hx]
  obtain⟨u5,u6,u7,ih⟩:=zay0 s1 s2 hM hr (x:=x) (a:=a) L (scn x R (tieN ts l)) (.val (.int l)) v6 v7 h2 (by rw [eT,zbf8];lia) hx' (fun m hm=>hL m (zbd6 _ hm)) fun e' he'=>hE e' (zbd6 _ he')
  exact⟨u5,u6,u7,(zad4 rfl e).trans ih⟩
theorem zax9 (s2:Sl) {M:Nat} (hM:M≤800) {ts:List (Int×Int)}{L:List Int}{s:Int} (hr:∀e∈egs ts L,(0≤e.1∧e.1<(M:Int))∧0≤e.2∧e.2<(M:Int)) (hL:∀l∈L,0≤l∧l<(ts.length:Int)):∀(n a:Nat) (R:List Int) (s5 s6 s7:Sl),Rch M (egs ts L) s R→M+1≤n+a →
  ∃u4 u5 u6 u7,whD (dBo (d2 qL (dVar 4) (dT1 kLen (za2 (dVar 3) dNil)))) bdRw n [.val (wD M ts),.val (.lst (L.map D.int)),s2,.own (R.map D.int),.val (.int (a:Int)),s5,s6,s7]=if a≤M then some (.nx [.val (wD M ts),.val (.lst (L.map D.int)),s2,.own ((bfs (egs ts L) n a R).map D.int),u4,u5,u6,u7]) else whD (dBo (d2 qL (dVar 4) (dT1 kLen (za2 (dVar 3) dNil)))) bdRw n [.val (wD M ts),.val (.lst (L.map D.int)),s2,.own (R.map D.int),.val (.int (a:Int)),s5,s6,s7]
 |0,a,R,s5,s6,s7,h,hn=>⟨s2,s5,s6,s7,by rw [if_neg (by lia)]⟩
 |n+1,a,R,s5,s6,s7,h,hn=>by
  by_cases am:a≤M
  ·simp only [if_pos am]
   have c:=lt_of (fa:=dVar 4) (t:=[.val (wD M ts),.val (.lst (L.map D.int)),s2,.own (R.map D.int),.val (.int (a:Int)),s5,s6,s7]) (a:=(a:Int)) rfl (zr4 (xs:=R) (f:=dVar 3) (r:=.tm (.lst (R.map D.int))) rfl rfl)
   by_cases hc:a<R.length
   ·rw [decide_eq_true (by lia)]at c
    obtain⟨v5,v6,v7,e⟩:=zay0 (.val (.lst (L.map D.int))) s2 (s:=s) (x:=R.getD a 0) hM hr (a:=a) L R s5 s6 s7 h hc rfl hL (fun e he=>he)
    have e2:=(zk3 (fa:=dVar 4) (fb:=dC (.int 1)) (t:=[.val (wD M ts),.val (.lst (L.map D.int)),s2,.own (((egs ts L).foldl (scn (R.getD a 0)) R).map D.int),.val (.int (a:Int)),v5,v6,v7]) (a:=(a:Int)) (b:=1) rfl rfl)
    rw [show (a:Int)+1=((a+1:Nat):Int) by lia]at e2
    have E:bdRw [.val (wD M ts),.val (.lst (L.map D.int)),s2,.own (R.map D.int),.val (.int (a:Int)),s5,s6,s7]=some (.nx [.val (wD M ts),.val (.lst (L.map D.int)),s2,.own (((egs ts L).foldl (scn (R.getD a 0)) R).map D.int),.val (.int ((a+1:Nat):Int)),v5,v6,v7]):=(zd9 (g1:=dFor (za6 5) (dVar 1) bdR1) (t:=[.val (wD M ts),.val (.lst (L.map D.int)),s2,.own (R.map D.int),.val (.int (a:Int)),s5,s6,s7]) e).trans (zy3 (i:=4) e2 (by simp))
    have hxm:R.getD a 0∈R:=by
     rw [zbe9,zbe1 hc]
     exact zbl2 _
    obtain⟨h1,_,_⟩:=zaj1 hr (egs ts L) h hxm fun e he=>he
    have rl:=h.ak.len
    obtain⟨u4,u5,u6,u7,ih⟩:=zax9 s2 hM hr hL n (a+1) _ v5 v6 v7 h1 (by lia)
    rw [if_pos (by lia)]at ih
    refine⟨u4,u5,u6,u7,?_⟩
    unfold whD
    rw [c,zbd9,if_pos rfl,E,zbd9]
    have:bfs (egs ts L) (n+1) a R=bfs (egs ts L) n (a+1) ((egs ts L).foldl (scn (R.getD a 0)) R):=by
     show (if a<R.length then _ else R)=_
     rw [if_pos hc]
    rw [this]
    exact ih
   ·rw [decide_eq_false (by lia)]at c
    refine⟨.val (.int (a:Int)),s5,s6,s7,?_⟩
    unfold whD
    rw [c,zbd9,if_neg (by decide)]
    have:bfs (egs ts L) (n+1) a R=R:=by
     show (if a<R.length then _ else R)=_
     rw [if_neg hc]
    rw [this]
  ·exact⟨s2,s5,s6,s7,by rw [if_neg am]⟩
theorem zba7 {M:Nat}{ts:List (Int×Int)} (hw:WebOk M ts) {L:List Int} (hL:∀l∈L,0≤l∧l<(ts.length:Int)):∀e∈egs ts L,(0≤e.1∧e.1<(M:Int))∧0≤e.2∧e.2<(M:Int):=fun e he=>by
 obtain⟨l,hl,rfl⟩:=zbi1.mp he
 obtain⟨a0,ab,bM⟩:=hw.lt _ (zaa9 (hL l hl).1 (hL l hl).2)
 exact⟨⟨a0,by lia⟩,by lia,bM⟩
theorem zas4 {M:Nat} (hM:M≤60) {ts:List (Int×Int)} (hw:WebOk M ts) {L:List Int} (hL:∀l∈L,0≤l∧l<(ts.length:Int)) {s:Int} (s0:0≤s) (s1:s<(M:Int)):zg1 [wD M ts,.lst (L.map D.int),.int s]=some (.nw ((bfs (egs ts L) 100 0 [s]).map D.int)):=by
 let W:Sl:=.val (wD M ts)
 let N:Sl:=.val (.lst (L.map D.int))
 have E1:dAsg 3 (dT1 kLst (za2 (dVar 2) dNil)) [W,N,.val (.int s),.no,.no,.no,.no,.no]=some (.nx [W,N,.val (.int s),.own [.int s],.no,.no,.no,.no]):=rfl
 have E2:dAsg 4 (dC (.int 0)) [W,N,.val (.int s),.own [.int s],.no,.no,.no,.no]=some (.nx [W,N,.val (.int s),.own [.int s],.val (.int 0),.no,.no,.no]):=rfl
 obtain⟨u4,u5,u6,u7,e⟩:=zax9 (.val (.int s)) (M:=M) (by lia) (s:=s) (zba7 hw hL) hL 100 0 [s] .no .no .no ⟨⟨by simp,fun x hx=>by rw [zbe2.mp hx];exact⟨s0,s1⟩⟩,fun x hx=>by rw [zbe2.mp hx];exact .refl s⟩ (by lia)
 rw [if_pos (zbr4 _)]at e
 have E3:zbb2 (fun t=>100) (dBo (d2 qL (dVar 4) (dT1 kLen (za2 (dVar 3) dNil)))) bdRw [W,N,.val (.int s),.own [.int s],.val (.int 0),.no,.no,.no]=some (.nx [W,N,.val (.int s),.own ((bfs (egs ts L) 100 0 [s]).map D.int),u4,u5,u6,u7]):=e
 have E4:zah2 3 [W,N,.val (.int s),.own ((bfs (egs ts L) 100 0 [s]).map D.int),u4,u5,u6,u7]=some (.rt (.nw ((bfs (egs ts L) 100 0 [s]).map D.int))):=rfl
 show (zm1 [W,N,.val (.int s),.no,.no,.no,.no,.no]).bind zp5=_
 refine bnd ?_
 exact (zd9 E1).trans ((zd9 E2).trans ((zd9 E3).trans E4))
noncomputable def chk (T:Int):Option Int→List Int→Bool
 |_,[]=>true
 |none,x::xs=>(decide (0≤x)&&decide (x<T))&&chk T (some x) xs
 |some y,x::xs=>((decide (0≤x)&&decide (x<T))&&decide (y<x))&&chk T (some x) xs
theorem chk_rs {T:Int}:∀(L:List Int) (a:Int),0≤a→a<T→chk T (some a) L=rsB T a L
 |[],a,_,h=>by simp [chk,rsB,h]
 |c::cs,a,h0,h=>by
  show (((decide (0≤c)&&decide (c<T))&&decide (a<c))&&chk T (some c) cs)=(decide (a<c)&&rsB T c cs)
  by_cases ac:a<c
  ·by_cases ct:c<T
   ·rw [chk_rs cs c (by lia) ct,decide_eq_true ac,decide_eq_true ct,decide_eq_true (show 0≤c by lia)]
    rfl
   ·rw [decide_eq_false ct]
    cases h':rsB T c cs with
    |false=>simp
    |true=>exact absurd (zas3 h').1 ct
  ·rw [decide_eq_false ac]
   simp
theorem chk_none {T:Int} (hT:0≤T):∀L:List Int,chk T none L=rsB T (-1) L
 |[]=>by simp [chk,rsB];lia
 |c::cs=>by
  show ((decide (0≤c)&&decide (c<T))&&chk T (some c) cs)=(decide (-1<c)&&rsB T c cs)
  by_cases ac:0≤c
  ·by_cases ct:c<T
   ·rw [chk_rs cs c ac ct,decide_eq_true ac,decide_eq_true ct,decide_eq_true (show -1<c by lia)]
    rfl
   ·rw [decide_eq_false ct]
    cases h':rsB T c cs with
    |false=>simp
    |true=>exact absurd (zas3 h').1 ct
  ·rw [decide_eq_false ac,decide_eq_false (show ¬ -1<c by lia)]
   rfl
theorem chLl_of {fa fb fc:DE}{t:Th}{a b c:Int} (h1:fa t=some (.cl (.int a))) (h2:fb t=some (.cl (.int b))) (h3:fc t=some (.cl (.int c))):dCh qE qL fa fb fc t=some (decide (a≤b)&&decide (b<c)):=by
 unfold dCh
 rw [h1,h2,h3]
 show (match D.bl (decide (a≤b)) with
  |.bl true=>some (decide (b<c))
  |.bl false=>some false
  |_=>none)=_
 cases decide (a≤b)<;>rfl
theorem leB_of {fa fb:DE}{t:Th}{a b:Int} (h1:fa t=some (.cl (.int a))) (h2:fb t=some (.cl (.int b))):dBo (d2 qE fa fb) t=some (decide (a≤b)):=by
 unfold dBo
 rw [zh4 h1 h2]
 rfl
theorem turn_Ck (s3:Sl) {M:Nat}{ts:List (Int×Int)}{L:List Int}{k:Nat}{x:Int} (hk:k<L.length) (hx:L.getD k 0=x):∃b:Bool,bdCk [.val (wD M ts),.val (.lst (L.map D.int)),.val (.int (k:Int)),s3]=some (if b then .nx [.val (wD M ts),.val (.lst (L.map D.int)),.val (.int (k:Int)),s3] else .rt (.cl (.bl false)))∧b=((decide (0≤x)&&decide (x<(ts.length:Int)))&&(decide (k=0)||decide (L.getD (k - 1) 0<x))):=by
 let t:Th:=[.val (wD M ts),.val (.lst (L.map D.int)),.val (.int (k:Int)),s3]
 have ix:=zaf9 (fa:=dVar 1) (fb:=dVar 2) (t:=t) (r1:=.cl (.lst (L.map D.int))) (r2:=.cl (.int (k:Int))) L k rfl rfl hk rfl rfl
 rw [hx]at ix
 have l1:(dT1 kLen (za2 (d2 kIx (dVar 0) (dC (.int 1))) dNil)) t=some (.cl (.int (ts.length:Int))):=by
  rw [zab0 (web1 (i:=0) (t:=t) rfl)]
  show some (Ev.cl (.int ((ts.map pD).length:Int)))=_
  rw [zbf7]
 have c1:=not_of (chLl_of (rfl:dC (.int 0) t=some (.cl (.int 0))) ix l1)
 have g:=gt_of (fa:=dVar 2) (fb:=dC (.int 0)) (t:=t) (a:=(k:Int)) (b:=0) rfl rfl
 refine⟨_,?_,rfl⟩
 by_cases k0:k=0
 ·have c2:dAnd (dBo (d2 qG (dVar 2) (dC (.int 0)))) (dBo (d2 qE (d2 kIx (dVar 1) (dVar 2)) (d2 kIx (dVar 1) (d2 qS (dVar 2) (dC (.int 1)))))) t=some false:=by
   unfold dAnd
   rw [g,decide_eq_false (by lia)]
   rfl
  have c:=zaf3 c1 c2
  rw [decide_eq_true k0,zbm7,zbl7]
  cases h:decide (0≤x)&&decide (x<(ts.length:Int)) with
  |true=>rw [h]at c;exact grd c rfl
  |false=>rw [h]at c;exact zba1 c rfl
 ·have i2:=zaf9 (fa:=dVar 1) (fb:=d2 qS (dVar 2) (dC (.int 1))) (t:=t) (r1:=.cl (.lst (L.map D.int))) L (k - 1) rfl (sub_of (fa:=dVar 2) (fb:=dC (.int 1)) (t:=t) (a:=(k:Int)) (b:=1) rfl rfl) (by lia) rfl (by show D.int ((k:Int) - 1)=D.int ((k - 1:Nat):Int);congr 1;lia)
  have c2:=zbd0 g (leB_of ix i2)
  have c:=zaf3 c1 c2
  rw [decide_eq_true (show (0:Int)<(k:Int) by lia),zbl9]at c
  rw [decide_eq_false k0,zbl6]
  have e:decide (x≤L.getD (k - 1) 0)=!decide (L.getD (k - 1) 0<x):=by
   by_cases z:L.getD (k - 1) 0<x
   ·rw [decide_eq_true z,decide_eq_false (by lia)];rfl
   ·rw [decide_eq_false z,decide_eq_true (by lia)];rfl
  rw [e]at c
  cases h:decide (0≤x)&&decide (x<(ts.length:Int))<;>cases h2:decide (L.getD (k - 1) 0<x)<;>rw [h,h2]at c
  ·exact zba1 c rfl
  ·exact zba1 c rfl
  ·exact zba1 c rfl
  ·exact grd c rfl
theorem zay3 (s3:Sl) {M:Nat}{ts:List (Int×Int)}{L:List Int}:∀(suf pre:List Int) (s2:Sl),L=pre++suf→∃u2,forD (za6 2) bdCk ((List.range' pre.length suf.length).map fun (i:Nat)=>D.int (i:Int)) [.val (wD M ts),.val (.lst (L.map D.int)),s2,s3]=some (if chk (ts.length:Int) pre.getLast? suf then .nx [.val (wD M ts),.val (.lst (L.map D.int)),u2,s3] else .rt (.cl (.bl false)))
 |[],pre,s2,_=>⟨s2,by simp [chk,forD]⟩
 |x::suf,pre,s2,hL=>by
  have hk:pre.length<L.length:=by rw [hL];simp
  have hx:L.getD pre.length 0=x:=by rw [hL,zbe9,zbh7 (zbf6 _)];simp
  obtain⟨b,e,hb⟩:=turn_Ck s3 (M:=M) (ts:=ts) hk hx
  have eb:chk (ts.length:Int) pre.getLast? (x::suf)=(b&&chk (ts.length:Int) (some x) suf):=by
   rw [hb]
   cases pre with
   |nil=>simp [chk]
   |cons a pre =>
    have gl:(a::pre).getLast?=some (L.getD ((a::pre).length - 1) 0):=by
     rw [hL,zbe9,zbg8 (by simp),List.getLast?_eq_getElem?]
     rw [zbe1 (show (a::pre).length - 1<(a::pre).length by simp)]
     rfl
    rw [gl]
    show (((decide (0≤x)&&decide (x<(ts.length:Int)))&&decide (L.getD ((a::pre).length - 1) 0<x))&&chk (ts.length:Int) (some x) suf)=_
    rw [decide_eq_false (show ¬ (a::pre).length=0 by simp),zbl6]
  rw [zbf3,List.range'_succ,zbf4]
  cases hbb:b with
  |false =>
   rw [hbb]at e eb
   refine⟨s2,(forD_rt (t1:=[.val (wD M ts),.val (.lst (L.map D.int)),.val (.int (pre.length:Int)),s3]) rfl e).trans ?_⟩
   rw [eb]
   rfl
  |true =>
   rw [hbb]at e eb
   obtain⟨u2,ih⟩:=zay3 s3 (M:=M) (ts:=ts) (L:=L) suf (pre++[x]) (.val (.int (pre.length:Int))) (by rw [hL];simp)
   refine⟨u2,(zad4 (t1:=[.val (wD M ts),.val (.lst (L.map D.int)),.val (.int (pre.length:Int)),s3]) rfl e).trans ?_⟩
   have e1:(pre++[x]).length=pre.length+1:=by simp
   have e2:(pre++[x]).getLast?=some x:=by simp
   rw [e1,e2]at ih
   rw [eb,zbl9]
   exact ih
theorem zad5:∀xs ys:List Int,eqDs (xs.map D.int) (ys.map D.int)=decide (xs=ys)
 |[],[]=>rfl
 |[],y::ys=>by simp [eqDs]
 |x::xs,[]=>by simp [eqDs]
 |x::xs,y::ys=>by
  show (decide (x=y)&&eqDs (xs.map D.int) (ys.map D.int))=_
  rw [zad5 xs ys]
  by_cases h:x=y
  ·subst h;simp
  ·simp [h]
theorem zu7 (n:Nat):∀xs ys:List Int,(((xs.map D.int).zip (ys.map D.int)).all fun p=>eqOk n p.1 p.2)=true
 |[],ys=>by simp
 |x::xs,[]=>by simp
 |x::xs,y::ys=>by
  rw [zbf4,zbf4,zbh4,zbh1,zu7 n xs ys,zbl7]
  cases n<;>rfl
theorem eqL_of {fa fb:DE}{t:Th}{r1 r2:Ev} (xs ys:List Int) (ha:fa t=some r1) (hb:fb t=some r2) (h1:r1.d=.lst (xs.map D.int)) (h2:r2.d=.lst (ys.map D.int)):(d2 kEq fa fb) t=some (.cl (.bl (decide (xs=ys)))):=by
 rw [zh4 ha hb]
 unfold kEq
 rw [h1,h2]
 have:eqOk 6 (.lst (xs.map D.int)) (.lst (ys.map D.int))=true:=by
  show (((xs.map D.int).zip (ys.map D.int)).all fun p=>eqOk 5 p.1 p.2)=true
  exact zu7 5 xs ys
 rw [if_pos this]
 show some (Ev.cl (.bl (eqDs (xs.map D.int) (ys.map D.int))))=_
 rw [zad5]
theorem zat0 {M:Nat} (hM:M≤60) {ts:List (Int×Int)} (hw:WebOk M ts) {L:List Int} (hl:L.length≤1000):zg3 [wD M ts,.lst (L.map D.int)]=some (.cl (.bl (zv2 M ts L))):=by
 let W:Sl:=.val (wD M ts)
 let N:Sl:=.val (.lst (L.map D.int))
 obtain⟨u2,e⟩:=zay3 .no (M:=M) (ts:=ts) L [] .no rfl
 have E1:zat7 (za6 2) (dT1 kLen (za2 (dVar 1) dNil)) bdCk [W,N,.no,.no]=some (if chk (ts.length:Int) none L then .nx [W,N,u2,.no] else .rt (.cl (.bl false))):=by
  rw [rng1_of (n:=L.length) (zr4 (xs:=L) (f:=dVar 1) (t:=[W,N,.no,.no]) (r:=.cl (.lst (L.map D.int))) rfl rfl) rfl (by lia)]
  have:(zb5 L.length).map D.int=(List.range' 0 L.length).map fun (j:Nat)=>D.int (j:Int):=by unfold zb5;rw [zbl4,List.range_eq_range'];rfl
  rw [this]
  exact e
 rw [chk_none (by lia)]at E1
 show (zm2 [W,N,.no,.no]).bind zp5=_
 refine bnd ?_
 unfold zv2
 cases h:rsB (ts.length:Int) (-1) L with
 |false=>rw [h]at E1;exact seq_rt E1
 |true =>
  rw [h]at E1
  have hL:∀l∈L,0≤l∧l<(ts.length:Int):=fun l hl=>by have:=(zas3 h).2 l hl;lia
  let P:=pts ts L [0]
  have pk:=zao6 hw (one0 hw.pos) hL
  have E2:=zo9 (i:=3) (t:=[W,N,u2,.no]) ((zq6 (rfl:dVar 0 [W,N,u2,.no]=some (.cl (wD M ts))) (rfl:dVar 1 _=some (.cl (.lst (L.map D.int))))).trans (zam8 (zaf0 hM hw hL))) (by simp)
  let t2:Th:=[W,N,u2,.own ((zd6 P).map D.int)]
  obtain⟨nR,lR,mR⟩:=bfs_mem (zba7 hw hL) (zbm3 0) (by have:=hw.pos;lia) (n:=100) (by lia)
  let R:=bfs (egs ts L) 100 0 [0]
  have c1:(d2 kEq (dT1 kLen (za2 (dVar 3) dNil)) (d2 qA (dT1 kLen (za2 (dVar 1) dNil)) (dC (.int 1)))) t2=some (.cl (.bl (decide (P.length=L.length+1)))):=by
   rw [zh4 (zr4 (xs:=zd6 P) (f:=dVar 3) (t:=t2) (r:=.tm (.lst ((zd6 P).map D.int))) rfl rfl) (zk3 (zr4 (xs:=L) (f:=dVar 1) (t:=t2) (r:=.cl (.lst (L.map D.int))) rfl rfl) (rfl:dC (.int 1) t2=some (.cl (.int 1))))]
   show some (Ev.cl (.bl (decide (((zd6 P).length:Int)=(L.length:Int)+1))))=_
   rw [(zd5 P).length_eq]
   have:decide ((P.length:Int)=(L.length:Int)+1)=decide (P.length=L.length+1):=decide_eq_decide.mpr (by lia)
   rw [this]
  have cr:(dT1 (zf0 zg1) (za2 (dVar 0) (za2 (dVar 1) (za2 (dC (.int 0)) dNil)))) t2=some (.nw (R.map D.int)):=(t3_of (rfl:dVar 0 t2=some (.cl (wD M ts))) (rfl:dVar 1 t2=some (.cl (.lst (L.map D.int)))) (rfl:dC (.int 0) t2=some (.cl (.int 0)))).trans (zam8 (zas4 hM hw hL (zbm3 0) (by have:=hw.pos;lia)))
  have c2:=eqL_of (zd6 R) (zd6 P) (zu0 cr rfl (by have:R.length≤M:=lR;lia)) (rfl:dVar 3 t2=some (.tm (.lst ((zd6 P).map D.int)))) rfl rfl
  have E3:dRet (zbb4 (d2 kEq (dT1 kLen (za2 (dVar 3) dNil)) (d2 qA (dT1 kLen (za2 (dVar 1) dNil)) (dC (.int 1)))) (d2 kEq (dT1 zm5 (za2 (dT1 (zf0 zg1) (za2 (dVar 0) (za2 (dVar 1) (za2 (dC (.int 0)) dNil)))) dNil)) (dVar 3))) t2=some (.rt (.cl (.bl (decide (P.length=L.length+1)&&decide (zd6 R=zd6 P))))):=by
   refine zo7 ?_
   unfold zbb4
   rw [c1]
   show (if decide (P.length=L.length+1) then _ else some (Ev.cl (.bl false)))=_
   rw [c2]
   cases decide (P.length=L.length+1)<;>rfl
  refine (zd9 E1).trans ((zd9 E2).trans (E3.trans ?_))
  have ti:=tree_iff (es:=egs ts L) hw.pos (zba7 hw hL) (V:=zb5 M) (R:=R) (P:=P) (nats_nd M) (fun v=>⟨fun hv=>by
   unfold zb5 at hv
   obtain⟨i,hi,rfl⟩:=zbi1.mp hv
   have:=zbi8.mp hi
   lia,fun ⟨a,b⟩=>zap8 a b⟩) nR mR pk.nd (fun v=>by
   show v∈pts ts L [0]↔_
   rw [mem_pts,zbe2]
   refine or_congr Iff.rfl ⟨fun ⟨l,hl,z⟩=>⟨_,zbi1.mpr ⟨l,hl,rfl⟩,z⟩,fun ⟨e,he,z⟩=>?_⟩
   obtain⟨l,hl,rfl⟩:=zbi1.mp he
   exact⟨l,hl,z⟩)
  have el:(egs ts L).length=L.length:=by unfold egs;rw [zbf7]
  rw [el]at ti
  have:(decide (P.length=L.length+1)&&decide (zd6 R=zd6 P))=(true&&decide (zar4 M (egs ts L)=L.length+1)):=by
   rw [zbl9, ← Bool.decide_and]
   exact decide_eq_decide.mpr ti.symm
  rw [this]
theorem inV {fa fb:DE}{t:Th}{r1 r2:Ev} (p:Int) (K:List Int) (ha:fa t=some r1) (hb:fb t=some r2) (h1:r1.d=.int p) (h2:r2.d=.lst (K.map D.int)):∃r,(d2 kIn fa fb) t=some r∧r.d=.bl (decide (p∈K)):=by
 have e:=bo_in p K ha hb h1 h2
 unfold dBo at e
 cases h:(d2 kIn fa fb) t with
 |none=>rw [h]at e;cases e
 |some r =>
  rw [h,zbd9]at e
  refine⟨r,rfl,?_⟩
  split at e
  ·rename_i b z
   rw [z]
   cases e
   rfl
  ·cases e
theorem zah5 {P:List Int}:∀(ts:List (Int×Int)) (i:Nat) (s s':Sl),∃S:List Int,S.length≤ts.length∧(∀x∈S,(i:Int)≤x∧x<(i:Int)+ts.length)∧zf1 (zr5 2 (ze0 (za6 0) (ze0 (za6 1) zp9))) (dBo (d2 kNe (d2 kIn (d2 kIx (dVar 1) (dC (.int 0))) (dVar 2)) (d2 kIn (d2 kIx (dVar 1) (dC (.int 1))) (dVar 2)))) (dVar 0) (zq1 i (ts.map pD)) [s,s',.val (.lst (P.map D.int))]=some (S.map D.int)
 |[],i,s,s'=>⟨[],by simp,fun x hx=>(by cases hx),rfl⟩
 |e::ts,i,s,s'=>by
  let t:Th:=[.val (.int (i:Int)),.val (pD e),.val (.lst (P.map D.int))]
  obtain⟨S,l,h,c⟩:=zah5 (P:=P) ts (i+1) (.val (.int (i:Int))) (.val (pD e))
  obtain⟨r1,e1,d1⟩:=inV (fa:=d2 kIx (dVar 1) (dC (.int 0))) (fb:=dVar 2) (t:=t) (r1:=.cl (.int e.1)) (r2:=.cl (.lst (P.map D.int))) e.1 P rfl rfl rfl rfl
  obtain⟨r2,e2,d2'⟩:=inV (fa:=d2 kIx (dVar 1) (dC (.int 1))) (fb:=dVar 2) (t:=t) (r1:=.cl (.int e.2)) (r2:=.cl (.lst (P.map D.int))) e.2 P rfl rfl rfl rfl
  obtain⟨b,eb⟩:∃b:Bool,(dBo (d2 kNe (d2 kIn (d2 kIx (dVar 1) (dC (.int 0))) (dVar 2)) (d2 kIn (d2 kIx (dVar 1) (dC (.int 1))) (dVar 2)))) t=some b:=by
   unfold dBo
   rw [zh4 e1 e2]
   unfold kNe
   rw [d1,d2']
   exact⟨_,rfl⟩
  have h':∀x∈S,(i:Int)≤x∧x<(i:Int)+((e::ts).length:Int):=fun x hx=>by
   have:=h x hx
   rw [zbf3]
   lia
  have st:zf1 (zr5 2 (ze0 (za6 0) (ze0 (za6 1) zp9))) (dBo (d2 kNe (d2 kIn (d2 kIx (dVar 1) (dC (.int 0))) (dVar 2)) (d2 kIn (d2 kIx (dVar 1) (dC (.int 1))) (dVar 2)))) (dVar 0) (zq1 i ((e::ts).map pD)) [s,s',.val (.lst (P.map D.int))]=(if b then ((dVar 0 t).bind fun r=>(some (S.map D.int)).map fun xs=>r.d::xs) else some (S.map D.int)):=by
   show ((dBo (d2 kNe (d2 kIn (d2 kIx (dVar 1) (dC (.int 0))) (dVar 2)) (d2 kIn (d2 kIx (dVar 1) (dC (.int 1))) (dVar 2)))) t).bind (fun b=>if b then (dVar 0 t).bind fun r=>(zf1 _ _ _ (zq1 (i+1) (ts.map pD)) t).map fun xs=>r.d::xs else zf1 _ _ _ (zq1 (i+1) (ts.map pD)) t)=_
   rw [eb,zbd9,c]
  cases b with
  |true =>
   refine⟨(i:Int)::S,by rw [zbf3,zbf3];lia,fun x hx=>?_,st⟩
   rcases zbe3.mp hx with z | z
   ·rw [z,zbf3];lia
   ·exact h' x z
  |false=>exact⟨S,by rw [zbf3];lia,h',st⟩
theorem neNil {f:DE}{t:Th}{r:Ev}{S:List Int} (h:f t=some r) (hr:r.d=.lst (S.map D.int)):dBo (d2 kNe f (dT1 kLst dNil)) t=some (!decide (S=[])):=by
 unfold dBo
 rw [zh4 h (rfl:dT1 kLst dNil t=some (.nw []))]
 unfold kNe
 rw [hr]
 show ((if eqOk 6 (.lst (S.map D.int)) (.lst (([]:List Int).map D.int)) then some (Ev.cl (.bl (!eqDs (S.map D.int) (([]:List Int).map D.int)))) else none).bind _)=_
 have:eqOk 6 (.lst (S.map D.int)) (.lst (([]:List Int).map D.int))=true:=by
  show (((S.map D.int).zip (([]:List Int).map D.int)).all fun p=>eqOk 5 p.1 p.2)=true
  exact zu7 5 S []
 rw [if_pos this,zad5]
 rfl
noncomputable def bdTr (p:Addr):WS za1:=(sSeq (sLf za1 (dAsg 5 (zg4 2 [2] (fsE (d2 kIx (dVar 1) (dC (.int 1)))) (zr5 2 (ze0 (za6 0) (ze0 (za6 1) zp9))) (dBo (d2 kNe (d2 kIn (d2 kIx (dVar 1) (dC (.int 0))) (dVar 2)) (d2 kIn (d2 kIx (dVar 1) (dC (.int 1))) (dVar 2)))) (dVar 0))))
  (sIf (tLf za1 (dBo (d2 kNe (dVar 5) (dT1 kLst dNil)))) (sSeq (sAsg 6 (eOp kIx (eLf za1 (dVar 5)) (eX p za7 (zb1 (eLf za1 (dVar 0)) (zb1 (eLf za1 (dT1 kLen (za2 (dVar 5) dNil))) aNil)))))
  (sSeq (sLf za1 (dApp 3 (dVar 6)))
  (sLf za1 (dAsg 2 (d2 qA (dVar 2) (zg4 1 [2] (fsT (d2 kIx (d2 kIx (dVar 1) (dC (.int 1))) (dVar 6))) (za6 0) (dBo (d2 kNin (dVar 0) (dVar 1))) (dVar 0))))))) zv7))
theorem zam0 {M:Nat}{ts:List (Int×Int)} (ht:ts.length≤2000):∀(xs P Q:List Int) (w:Int×Int),PoolOk w→P.length+2*xs.length<1000→Q.length+xs.length<1000→(∀l∈Q,0≤l∧l<(ts.length:Int)) →
  ∃(P' Q':List Int) (w':Int×Int),PoolOk w'∧Q'.length≤Q.length+xs.length∧(∀l∈Q',0≤l∧l<(ts.length:Int))∧∀(p:Addr) (s4 s5 s6:Sl),∃u4 u5 u6,forW (za6 4) (bdTr p) (xs.map D.int) [.val (.adr p),.val (wD M ts),.own (P.map D.int),.own (Q.map D.int),s4,s5,s6] w=some (.nx [.val (.adr p),.val (wD M ts),.own (P'.map D.int),.own (Q'.map D.int),u4,u5,u6] w')
 |[],P,Q,w,ok,_,_,hQ=>⟨P,Q,w,ok,by simp,hQ,fun p s4 s5 s6=>⟨s4,s5,s6,rfl⟩⟩
 |x::xs,P,Q,w,ok,hP,hl,hQ=>by
  rw [zbf3]at hP hl
  obtain⟨S,sl,sh,sc⟩:=zah5 (P:=P) ts 0 .no .no
  have c1:∀(p:Addr) (s5 s6:Sl),dAsg 5 (zg4 2 [2] (fsE (d2 kIx (dVar 1) (dC (.int 1)))) (zr5 2 (ze0 (za6 0) (ze0 (za6 1) zp9))) (dBo (d2 kNe (d2 kIn (d2 kIx (dVar 1) (dC (.int 0))) (dVar 2)) (d2 kIn (d2 kIx (dVar 1) (dC (.int 1))) (dVar 2)))) (dVar 0)) [.val (.adr p),.val (wD M ts),.own (P.map D.int),.own (Q.map D.int),.val (.int x),s5,s6]=some (.nx [.val (.adr p),.val (wD M ts),.own (P.map D.int),.own (Q.map D.int),.val (.int x),.own (S.map D.int),s6]):=fun p s5 s6=>by
   refine zo9 (i:=5) (xs:=S.map D.int) ?_ (by simp)
   unfold zg4 fsE
   rw [web1 (i:=1) (t:=[.val (.adr p),.val (wD M ts),.own (P.map D.int),.own (Q.map D.int),.val (.int x),s5,s6]) rfl]
   show (if (zq1 0 (ts.map pD)).length≤50000 then (zf1 _ _ _ (zq1 0 (ts.map pD)) [.no,.no,.val (.lst (P.map D.int))]).bind (fun ys=>if (true&&false)||flats ys then some (Ev.nw ys) else none) else none)=_
   rw [if_pos (by rw [zr8,zbf7];lia),sc,zbd9,flats_ints,zbj5,if_pos rfl]
  have c2:∀(p:Addr) (s6:Sl),tLf za1 (dBo (d2 kNe (dVar 5) (dT1 kLst dNil))) [.val (.adr p),.val (wD M ts),.own (P.map D.int),.own (Q.map D.int),.val (.int x),.own (S.map D.int),s6] w=some (!decide (S=[]),w):=fun p s6=>zq5 (ρ:=za1) (neNil (f:=dVar 5) (r:=.tm (.lst (S.map D.int))) rfl rfl)
  by_cases hS:S=[]
  ·obtain⟨P',Q',w',o',l',h',run⟩:=zam0 (M:=M) ht xs P Q w ok (by lia) (by lia) hQ
   refine⟨P',Q',w',o',by rw [zbf3];lia,h',fun p s4 s5 s6=>?_⟩
   obtain⟨u4,u5,u6,e⟩:=run p (.val (.int x)) (.own (S.map D.int)) s6
   refine⟨u4,u5,u6,?_⟩
   have z:=c2 p s6
   rw [decide_eq_true hS]at z
   exact (zx7 (ρ:=za1) (t1:=[.val (.adr p),.val (wD M ts),.own (P.map D.int),.own (Q.map D.int),.val (.int x),s5,s6]) rfl ((zb6 (ρ:=za1) (zm3 (c1 p s5 s6))).trans ((zy7 (ρ:=za1) z).trans rfl))).trans e
  ·have s0:0<S.length:=List.length_pos_iff.mpr hS
   obtain⟨r,w1,r0,r1,o1,e1⟩:=ze4 ok (m:=(S.length:Int)) (by lia) (sm_lt (by lia) (by lia))
   let l:=S.getD r.toNat 0
   have lm:l∈S:=by
    show S.getD r.toNat 0∈S
    rw [zbe9,zbe1 (by lia)]
    exact zbl2 _
   have lb:0≤l∧l<(ts.length:Int):=by have:=sh l lm;lia
   let P2:=P++([(tieN ts l).1,(tieN ts l).2].filter fun q=>!decide (q∈P))
   have fl:=zbi2 (fun q=>!decide (q∈P)) [(tieN ts l).1,(tieN ts l).2]
   have p2l:P2.length≤P.length+2:=by
    show (P++_).length≤_
    rw [zbf8]
    simp at fl
    lia
   obtain⟨P',Q',w',o',l',h',run⟩:=zam0 (M:=M) ht xs P2 (Q++[l]) w1 o1 (by lia) (by rw [zbf8,zbg6];lia) (fun m hm=>by
    rcases zbd8.mp hm with z | z
    ·exact hQ m z
    ·rw [zbe2.mp z];exact lb)
   rw [zbf8,zbg6]at l'
   refine⟨P',Q',w',o',by rw [zbf3];lia,h',fun p s4 s5 s6=>?_⟩
   obtain⟨u4,u5,u6,e⟩:=run p (.val (.int x)) (.own (S.map D.int)) (.val (.int l))
   refine⟨u4,u5,u6,?_⟩
   have z:=c2 p s6
   rw [decide_eq_false hS]at z
   let t1:Th:=[.val (.adr p),.val (wD M ts),.own (P.map D.int),.own (Q.map D.int),.val (.int x),.own (S.map D.int),s6]
   have ix:kIx (.tm (.lst (S.map D.int))) (.cl (.int r))=some (.cl (.int l)):=by
    have:=zaa0 (fa:=dVar 5) (fb:=dC (.int r)) (t:=t1) (r1:=.tm (.lst (S.map D.int))) (r2:=.cl (.int r)) S r rfl rfl r0 r1 rfl rfl
    rw [zh4 (rfl:dVar 5 t1=some (.tm (.lst (S.map D.int)))) (rfl:dC (.int r) t1=some (.cl (.int r)))]at this
    exact this
   have A1:=zl8 (ρ:=za1) (i:=6) (ze2 (ρ:=za1) (eLp (rfl:dVar 5 t1=some (.tm (.lst (S.map D.int))))) (zd8 (i:=0) (t:=t1) (p:=p) rfl (zr4 (xs:=S) (f:=dVar 5) (t:=t1) (r:=.tm (.lst (S.map D.int))) rfl rfl) e1) ix) (by simp [t1])
   let t2:Th:=[.val (.adr p),.val (wD M ts),.own (P.map D.int),.own (Q.map D.int),.val (.int x),.own (S.map D.int),.val (.int l)]
   have A2:=zbc9 t2 (f:=dVar 6) (i:=3) (p:=l) (xs:=Q) rfl rfl (by lia)
   let t3:Th:=[.val (.adr p),.val (wD M ts),.own (P.map D.int),.own ((Q++[l]).map D.int),.val (.int x),.own (S.map D.int),.val (.int l)]
   have A3:=zo9 (i:=2) (zad9 (fa:=dVar 2) (t:=t3) (r1:=.tm (.lst (P.map D.int))) (xs:=P) rfl (zax5 (iw:=1) (ip:=2) (ix:=6) (t:=t3) (P:=P) rfl rfl rfl lb.1 lb.2) rfl rfl (by simp at fl;lia)) (by simp [t3])
   exact (zx7 (ρ:=za1) (t1:=[.val (.adr p),.val (wD M ts),.own (P.map D.int),.own (Q.map D.int),.val (.int x),s5,s6]) rfl ((zb6 (ρ:=za1) (zm3 (c1 p s5 s6))).trans ((zaj9 (ρ:=za1) z).trans ((zb6 (ρ:=za1) A1).trans ((zb6 (ρ:=za1) (zm3 A2)).trans (zm3 A3)))))).trans e
theorem tree_is {w:Int×Int} (hw:PoolOk w) {M:Nat} (hM:0<M) (hM6:M≤60) {ts:List (Int×Int)} (ht:ts.length≤2000):∃(Q:List Int) (w':Int×Int),PoolOk w'∧Q.length≤M∧(∀l∈Q,0≤l∧l<(ts.length:Int))∧zl5 w [wD M ts]=some (.nw (Q.map D.int),w'):=by
 obtain⟨r,w1,r0,r1,o1,e1⟩:=ze4 hw (m:=(M:Int)) (by lia) (sm_lt (by lia) (by lia))
 obtain⟨n,rfl⟩:∃n:Nat,r=(n:Int):=⟨r.toNat,by lia⟩
 have nl:(zb5 n).length=n:=by unfold zb5;simp
 obtain⟨P',Q',w',o',l',h',run⟩:=zam0 (M:=M) ht (zb5 n) [0] [] w1 o1 (by rw [nl,zbg6];lia) (by rw [nl,zbn3];lia) (fun l hl=>by cases hl)
 rw [nl,zbn3]at l'
 refine⟨zd6 Q',w',o',by rw [(zd5 Q').length_eq];lia,fun l hl=>h' l (mem_srt.mp hl),zk7 rfl fun p=>?_⟩
 obtain⟨u4,u5,u6,e⟩:=run p .no .no .no
 let t0:Th:=[.val (.adr p),.val (wD M ts),.no,.no,.no,.no,.no]
 let t2:Th:=[.val (.adr p),.val (wD M ts),.own (([0]:List Int).map D.int),.own (([]:List Int).map D.int),.no,.no,.no]
 have E3:=(zab6 (ρ:=za1) (k:=za6 4) (b:=bdTr p) (iRg_of (ρ:=za1) (zd8 (i:=0) (t:=t2) (p:=p) rfl (web0 (i:=1) (t:=t2) rfl) e1) (by lia))).trans e
 have E4:=zo7 (zu0 (f:=dVar 3) (t:=[.val (.adr p),.val (wD M ts),.own (P'.map D.int),.own (Q'.map D.int),u4,u5,u6]) (r:=.tm (.lst (Q'.map D.int))) (xs:=Q') rfl rfl (by lia))
 exact (zb6 (ρ:=za1) (zm3 (t':=[.val (.adr p),.val (wD M ts),.own [.int 0],.no,.no,.no,.no]) rfl)).trans ((zb6 (ρ:=za1) (zm3 (t':=t2) rfl)).trans ((zb6 (ρ:=za1) E3).trans (zv8 E4)))
theorem slu_of {fa fb:DE}{t:Th}{r:Ev}{xs:List Int}{i:Int} (ha:fa t=some r) (hb:fb t=some (.cl (.int i))) (hr:r.d=.lst (xs.map D.int)):(dSlU fb fa) t=some (.nw ((xs.take (HT.sIx xs.length xs.length (some i))).map D.int)):=by
 unfold dSlU
 rw [ha,hb]
 simp only [zbd9,hr]
 show (if (r.ok||flats (xs.map D.int))=true then some (Ev.nw ((xs.map D.int).take (HT.sIx (xs.map D.int).length (xs.map D.int).length (some i)))) else none)=_
 rw [flats_ints,if_pos (by simp),zbf7, ← List.map_take]
theorem slf_of {fa fb:DE}{t:Th}{r:Ev}{xs:List Int}{i:Int} (ha:fa t=some r) (hb:fb t=some (.cl (.int i))) (hr:r.d=.lst (xs.map D.int)):(dSlF fb fa) t=some (.nw ((xs.drop (HT.sIx xs.length 0 (some i))).map D.int)):=by
 unfold dSlF
 rw [ha,hb]
 simp only [zbd9,hr]
 show (if (r.ok||flats (xs.map D.int))=true then some (Ev.nw ((xs.map D.int).drop (HT.sIx (xs.map D.int).length 0 (some i)))) else none)=_
 rw [flats_ints,if_pos (by simp),zbf7, ← List.map_drop]
theorem rev_of {f:DE}{t:Th}{r:Ev}{xs:List Int} (h:f t=some r) (hr:r.d=.lst (xs.map D.int)):(d1 kRev f) t=some (.nw (xs.reverse.map D.int)):=by
 unfold d1 kRev
 rw [h]
 simp only [zbd9,hr,flats_ints,zbj5,if_true]
 rw [List.map_reverse]
theorem zam3 {r1 r2:Ev}{xs ys:List Int} (e1:r1.d=.lst (xs.map D.int)) (e2:r2.d=.lst (ys.map D.int)) (hl:xs.length+ys.length≤100000):qA r1 r2=some (.nw ((xs++ys).map D.int)):=by
 (try unfold qA);(try unfold qM);unfold kOr kI
 rw [e1,e2]
 show kCat r1 r2=_
 unfold kCat
 rw [e1,e2]
 show (if _ then _ else _)=_
 rw [if_pos]
 ·rw [zbl5]
 ·simp [flats_ints]
  lia
theorem zah6:∀(xs:List Int) (w:Int×Int),PoolOk w→∃(S:List Int) (w':Int×Int),PoolOk w'∧S.length≤xs.length∧∀(p:Addr) (s:Sl),zg5 (ρ:=za1) (za6 0) (tBo (eOp kEq (eX p za7 (zb1 (eLf za1 (dVar 1)) (zb1 (eLf za1 (dC (.int 2))) aNil))) (eLf za1 (dC (.int 0))))) (eLf za1 (dVar 0)) (xs.map D.int) [s,.val (.adr p)] w=some (S.map D.int,w')
 |[],w,ok=>⟨[],w,ok,zbf6 _,fun p s=>rfl⟩
 |x::xs,w,ok=>by
  obtain⟨a,w1,a0,a1,o1,e1⟩:=ze4 ok (m:=2) (by decide) (sm_lt (by decide) (by decide))
  obtain⟨S,w',o',l',run⟩:=zah6 xs w1 o1
  have ct:∀p:Addr,(tBo (eOp kEq (eX p za7 (zb1 (eLf za1 (dVar 1)) (zb1 (eLf za1 (dC (.int 2))) aNil))) (eLf za1 (dC (.int 0))))) [.val (.int x),.val (.adr p)] w=some (decide (a=0),w1):=fun p=>zz4 (ρ:=za1) (ze2 (ρ:=za1) (zd8 (i:=1) (t:=[.val (.int x),.val (.adr p)]) (p:=p) rfl rfl e1) (eLp rfl) zaz3)
  by_cases h:a=0
  ·refine⟨x::S,w',o',by rw [zbf3,zbf3];lia,fun p s=>?_⟩
   have z:=ct p
   rw [decide_eq_true h]at z
   exact zad6 (ρ:=za1) (k:=za6 0) (ys:=(S.map D.int,w')) (t1:=[.val (.int x),.val (.adr p)]) rfl z (eLp (rfl:dVar 0 [.val (.int x),.val (.adr p)]=some (.cl (.int x)))) (run p (.val (.int x)))
  ·refine⟨S,w',o',by rw [zbf3];lia,fun p s=>?_⟩
   have z:=ct p
   rw [decide_eq_false h]at z
   exact (zbb6 (ρ:=za1) (k:=za6 0) (t1:=[.val (.int x),.val (.adr p)]) rfl z).trans (run p (.val (.int x)))
theorem lenW {i:Nat}{t:Th}{M:Nat}{ts:List (Int×Int)} (h:t[i]?=some (.val (wD M ts))):(dT1 kLen (za2 (d2 kIx (dVar i) (dC (.int 1))) dNil)) t=some (.cl (.int (ts.length:Int))):=by
 rw [zab0 (web1 h)]
 show some (Ev.cl (.int ((ts.map pD).length:Int)))=_
 rw [zbf7]
theorem zs9 {f:DE}{t:Th}{i j:Int} (h:f t=some (.cl (.int i))):dBo (d2 kEq f (dC (.int j))) t=some (decide (i=j)):=zag8 h rfl
theorem ties_is {w:Int×Int} (hw:PoolOk w) {M:Nat} (hM:0<M) (hM6:M≤60) {ts:List (Int×Int)} (ht:ts.length≤60):∃(L:List Int) (w':Int×Int),PoolOk w'∧L.length≤200∧zi2 w [wD M ts]=some (.nw (L.map D.int),w'):=by
 obtain⟨Q0,w1,o1,l1,h1,e1⟩:=tree_is hw hM hM6 (ts:=ts) (by lia)
 obtain⟨a,w2,a0,a1,o2,e2⟩:=ze4 o1 (m:=3) (by decide) (sm_lt (by decide) (by decide))
 let t0:Addr→Th:=fun p=>[.val (.adr p),.val (wD M ts),.no,.no,.no,.no]
 let t1:Addr→Th:=fun p=>[.val (.adr p),.val (wD M ts),.own (Q0.map D.int),.no,.no,.no]
 have E1:∀p,sAsg (ρ:=za1) 2 (eX p zl5 (zb1 (eLf za1 (dVar 0)) (zb1 (eLf za1 (dVar 1)) aNil))) (t0 p) w=some (.nx (t1 p) w1):=fun p=>by
  refine zv9 (ρ:=za1) (i:=2) (xs:=Q0.map D.int) ?_ (by simp [t0])
  have:=eX_of (ρ:=za1) (p:=p) (rs:=[.cl (wD M ts)]) (ze8 (ρ:=za1) (eLp (rfl:dVar 0 (t0 p)=some (.cl (.adr p)))) (ze8 (ρ:=za1) (eLp (w:=w) (rfl:dVar 1 (t0 p)=some (.cl (wD M ts)))) (zl1 (ρ:=za1)))) e1
  exact this
 -- behind the first choice
 obtain⟨Q,w3,o3,lQ,E2⟩:∃(Q:List Int) (w3:Int×Int),PoolOk w3∧Q.length≤60∧∀p,(sIf (tBo (eOp kEq (eX p za7 (zb1 (eLf za1 (dVar 0)) (zb1 (eLf za1 (dC (.int 3))) aNil))) (eLf za1 (dC (.int 0))))) (sAsg 2 (zq3 1 [0] (iLf za1 (fsR1 (dT1 kLen (za2 (d2 kIx (dVar 1) (dC (.int 1))) dNil)))) (za6 0) (tBo (eOp kEq (eX p za7 (zb1 (eLf za1 (dVar 1)) (zb1 (eLf za1 (dC (.int 2))) aNil))) (eLf za1 (dC (.int 0))))) (eLf za1 (dVar 0)))) zv7:WS za1) (t1 p) w1=some (.nx [.val (.adr p),.val (wD M ts),.own (Q.map D.int),.no,.no,.no] w3):=by
  have c:∀p,(tBo (eOp kEq (eX p za7 (zb1 (eLf za1 (dVar 0)) (zb1 (eLf za1 (dC (.int 3))) aNil))) (eLf za1 (dC (.int 0)))):WT za1) (t1 p) w1=some (decide (a=0),w2):=fun p=>zz4 (ρ:=za1) (ze2 (ρ:=za1) (zd8 (i:=0) (t:=t1 p) (p:=p) rfl rfl e2) (eLp rfl) zaz3)
  by_cases h:a=0
  ·obtain⟨S,w3,o3,l3,run⟩:=zah6 (zb5 ts.length) w2 o2
   have nl:(zb5 ts.length).length=ts.length:=by unfold zb5;simp
   refine⟨S,w3,o3,by lia,fun p=>?_⟩
   have z:=c p
   rw [decide_eq_true h]at z
   have rg:fsR1 (dT1 kLen (za2 (d2 kIx (dVar 1) (dC (.int 1))) dNil)) (t1 p)=some (true,(zb5 ts.length).map D.int):=by
    unfold fsR1
    rw [lenW (i:=1) (t:=t1 p) rfl]
    show (if bigI (ts.length:Int) then some (true,rngD 0 (ts.length:Int).toNat) else none)=_
    rw [if_pos (by unfold bigI;exact decide_eq_true (by lia))]
    unfold rngD zb5
    simp
   exact (zaj9 (ρ:=za1) z).trans (zv9 (ρ:=za1) (i:=2) (zu8 (ρ:=za1) (n:=1) (cap:=[0]) (k:=za6 0) (c:=true) (cs:=[.adr p]) (zag3 (ρ:=za1) (w:=w2) rg) rfl (by rw [zbf7,nl];lia) (run p .no) (flats_ints S)) (by simp [t1]))
  ·refine⟨Q0,w2,o2,by lia,fun p=>?_⟩
   have z:=c p
   rw [decide_eq_false h]at z
   exact (zy7 (ρ:=za1) z).trans rfl
 obtain⟨b,w4,b0,b1,o4,e4⟩:=ze4 o3 (m:=6) (by decide) (sm_lt (by decide) (by decide))
 obtain⟨c,w5,c0,c1,o5,e5⟩:=ze4 o4 (m:=(Q.length:Int)+1) (by lia) (sm_lt (by lia) (by lia))
 obtain⟨d,w6,d0,d9,o6,e6⟩:=ze4 o5 (m:=(ts.length:Int)+1) (by lia) (sm_lt (by lia) (by lia))
 obtain⟨f,w7,f0,f1,o7,e7⟩:=ze4 o6 (m:=9) (by decide) (sm_lt (by decide) (by decide))
 obtain⟨g,w8,g0,g1,o8,e8⟩:=ze4 o7 (m:=9) (by decide) (sm_lt (by decide) (by decide))
 let t2:Addr→Th:=fun p=>[.val (.adr p),.val (wD M ts),.own (Q.map D.int),.no,.no,.no]
 let t3:Addr→Th:=fun p=>[.val (.adr p),.val (wD M ts),.own (Q.map D.int),.val (.int b),.no,.no]
 let t4:Addr→Th:=fun p=>[.val (.adr p),.val (wD M ts),.own (Q.map D.int),.val (.int b),.val (.int c),.no]
 let mo:List Int:=[d,0 - 1 - f,(ts.length:Int)+g]
 let t5:Addr→Th:=fun p=>[.val (.adr p),.val (wD M ts),.own (Q.map D.int),.val (.int b),.val (.int c),.own (mo.map D.int)]
 have E3:∀p,sAsg (ρ:=za1) 3 (eX p za7 (zb1 (eLf za1 (dVar 0)) (zb1 (eLf za1 (dC (.int 6))) aNil))) (t2 p) w3=some (.nx (t3 p) w4):=fun p=>zl8 (ρ:=za1) (i:=3) (zd8 (i:=0) (t:=t2 p) (p:=p) rfl rfl e4) (by simp [t2])
 have E4:∀p,sAsg (ρ:=za1) 4 (eX p za7 (zb1 (eLf za1 (dVar 0)) (zb1 (eLf za1 (d2 qA (dT1 kLen (za2 (dVar 2) dNil)) (dC (.int 1)))) aNil))) (t3 p) w4=some (.nx (t4 p) w5):=fun p=>zl8 (ρ:=za1) (i:=4) (zd8 (i:=0) (t:=t3 p) (p:=p) rfl (zk3 (zr4 (xs:=Q) (f:=dVar 2) (t:=t3 p) (r:=.tm (.lst (Q.map D.int))) rfl rfl) rfl) e5) (by simp [t3])
 have E5:∀p,sAsg (ρ:=za1) 5 (eT1 kLst (zb1 (eX p za7 (zb1 (eLf za1 (dVar 0)) (zb1 (eLf za1 (d2 qA (dT1 kLen (za2 (d2 kIx (dVar 1) (dC (.int 1))) dNil)) (dC (.int 1)))) aNil))) (zb1 (eOp qS (eLf za1 (d2 qS (dC (.int 0)) (dC (.int 1)))) (eX p za7 (zb1 (eLf za1 (dVar 0)) (zb1 (eLf za1 (dC (.int 9))) aNil)))) (zb1 (eOp qA (eLf za1 (dT1 kLen (za2 (d2 kIx (dVar 1) (dC (.int 1))) dNil))) (eX p za7 (zb1 (eLf za1 (dVar 0)) (zb1 (eLf za1 (dC (.int 9))) aNil)))) aNil)))) (t4 p) w5=some (.nx (t5 p) w8):=fun p=>by
  have x1:=zd8 (i:=0) (t:=t4 p) (p:=p) rfl (zk3 (lenW (i:=1) (t:=t4 p) rfl) (rfl:dC (.int 1) (t4 p)=some (.cl (.int 1)))) e6
  have x2:=ze2 (ρ:=za1) (eLp (w:=w6) (sub_of (fa:=dC (.int 0)) (fb:=dC (.int 1)) (t:=t4 p) (a:=0) (b:=1) rfl rfl)) (zd8 (i:=0) (t:=t4 p) (p:=p) rfl (rfl:dC (.int 9) (t4 p)=some (.cl (.int 9))) e7) ksub_of
  have x3:=ze2 (ρ:=za1) (eLp (w:=w7) (lenW (i:=1) (t:=t4 p) rfl)) (zd8 (i:=0) (t:=t4 p) (p:=p) rfl (rfl:dC (.int 9) (t4 p)=some (.cl (.int 9))) e8) zad2
  exact zv9 (ρ:=za1) (i:=5) (zaa7 (ρ:=za1) (ze8 (ρ:=za1) x1 (ze8 (ρ:=za1) x2 (ze8 (ρ:=za1) x3 (zl1 (ρ:=za1))))) (rfl:kLst [.cl (.int d),.cl (.int (0 - 1 - f)),.cl (.int ((ts.length:Int)+g))]=some (.nw (mo.map D.int)))) (by simp [t4])
 have sU:∀p,(dSlU (dVar 4) (dVar 2)) (t5 p)=some (.nw ((Q.take (HT.sIx Q.length Q.length (some c))).map D.int)):=fun p=>slu_of (fa:=dVar 2) (fb:=dVar 4) (t:=t5 p) (r:=.tm (.lst (Q.map D.int))) rfl rfl rfl
 have sF:∀p,(dSlF (dVar 4) (dVar 2)) (t5 p)=some (.nw ((Q.drop (HT.sIx Q.length 0 (some c))).map D.int)):=fun p=>slf_of (fa:=dVar 2) (fb:=dVar 4) (t:=t5 p) (r:=.tm (.lst (Q.map D.int))) rfl rfl rfl
 have v3:∀p,dVar 3 (t5 p)=some (.cl (.int b)):=fun p=>rfl
 have lU:(Q.take (HT.sIx Q.length Q.length (some c))).length≤60:=by rw [zbo6];lia
 have lF:(Q.drop (HT.sIx Q.length 0 (some c))).length≤60:=by rw [zbm6];lia
 have head:∀(p:Addr) {o:OW (Int×Int)}{tl:WS za1},tl (t5 p) w8=some o→_:=fun p {o tl} (h:tl (t5 p) w8=some o)=>(zb6 (ρ:=za1) (E1 p)).trans ((zb6 (ρ:=za1) (E2 p)).trans ((zb6 (ρ:=za1) (E3 p)).trans ((zb6 (ρ:=za1) (E4 p)).trans ((zb6 (ρ:=za1) (E5 p)).trans h))))
 by_cases b2:b=2
 ·obtain⟨r,w9,r0,r1,o9,e9⟩:=ze4 o8 (m:=3) (by decide) (sm_lt (by decide) (by decide))
  refine⟨(Q.take (HT.sIx Q.length Q.length (some c))++[mo.getD r.toNat 0])++Q.drop (HT.sIx Q.length 0 (some c)),w9,o9,by rw [zbf8,zbf8,zbg6];lia,zk7 rfl fun p=>head p ?_⟩
  have z:=zq5 (ρ:=za1) (w:=w8) (zs9 (j:=2) (v3 p))
  rw [decide_eq_true b2]at z
  refine zp1 (ρ:=za1) ((zaj9 (ρ:=za1) z).trans (zp2 (ρ:=za1) ?_))
  have ix:kIx (.tm (.lst (mo.map D.int))) (.cl (.int r))=some (.cl (.int (mo.getD r.toNat 0))):=by
   have:=zaa0 (fa:=dVar 5) (fb:=dC (.int r)) (t:=t5 p) (r1:=.tm (.lst (mo.map D.int))) (r2:=.cl (.int r)) mo r rfl rfl r0 (by simp [mo];lia) rfl rfl
   rw [zh4 (rfl:dVar 5 (t5 p)=some (.tm (.lst (mo.map D.int)))) (rfl:dC (.int r) (t5 p)=some (.cl (.int r)))]at this
   exact this
  have y1:=zaa7 (ρ:=za1) (ze8 (ρ:=za1) (ze2 (ρ:=za1) (eLp (w:=w8) (rfl:dVar 5 (t5 p)=some (.tm (.lst (mo.map D.int))))) (zd8 (i:=0) (t:=t5 p) (p:=p) rfl (rfl:dC (.int 3) (t5 p)=some (.cl (.int 3))) e9) ix) (zl1 (ρ:=za1))) (rfl:kLst [.cl (.int (mo.getD r.toNat 0))]=some (.nw (([mo.getD r.toNat 0]:List Int).map D.int)))
  exact ze2 (ρ:=za1) (ze2 (ρ:=za1) (eLp (sU p)) y1 (zam3 rfl rfl (by rw [zbg6];lia))) (eLp (sF p)) (zam3 rfl rfl (by rw [zbf8,zbg6];lia))
 ·have n2:∀p,(tLf za1 (dBo (d2 kEq (dVar 3) (dC (.int 2)))):WT za1) (t5 p) w8=some (false,w8):=fun p=>by
   have z:=zq5 (ρ:=za1) (w:=w8) (zs9 (j:=2) (v3 p))
   rw [decide_eq_false b2]at z
   exact z
  by_cases b3:b=3
  ·refine⟨Q.take (HT.sIx Q.length Q.length (some c))++(Q.drop (HT.sIx Q.length 0 (some c))).reverse,w8,o8,by rw [zbf8,zbn1];lia,zk7 rfl fun p=>head p ?_⟩
   refine (zb6 (ρ:=za1) ((zy7 (ρ:=za1) (n2 p)).trans rfl)).trans (zp1 (ρ:=za1) (zv8 (ρ:=za1) ((zag2 (zs9 (j:=3) (v3 p)) (decide_eq_true b3)).trans (zo7 (zad9 (sU p) (rev_of (sF p) rfl) rfl rfl (by rw [zbn1];lia))))))
  ·have n3:∀p,sLf za1 (dIfS (dBo (d2 kEq (dVar 3) (dC (.int 3)))) (dRet (d2 qA (dSlU (dVar 4) (dVar 2)) (d1 kRev (dSlF (dVar 4) (dVar 2))))) zi0) (t5 p) w8=some (.nx (t5 p) w8):=fun p=>zm3 (ρ:=za1) (grd (zs9 (j:=3) (v3 p)) (decide_eq_false b3))
   by_cases b4:b=4
   ·have sF':∀p,(dSlF (d2 qA (dVar 4) (dC (.int 1))) (dVar 2)) (t5 p)=some (.nw ((Q.drop (HT.sIx Q.length 0 (some (c+1)))).map D.int)):=fun p=>slf_of (fa:=dVar 2) (t:=t5 p) (r:=.tm (.lst (Q.map D.int))) rfl (zk3 (fa:=dVar 4) (fb:=dC (.int 1)) (a:=c) (b:=1) rfl rfl) rfl
    have lF':(Q.drop (HT.sIx Q.length 0 (some (c+1)))).length≤60:=by rw [zbm6];lia
    refine⟨Q.take (HT.sIx Q.length Q.length (some c))++Q.drop (HT.sIx Q.length 0 (some (c+1))),w8,o8,by rw [zbf8];lia,zk7 rfl fun p=>head p ?_⟩
    exact (zb6 (ρ:=za1) ((zy7 (ρ:=za1) (n2 p)).trans rfl)).trans ((zb6 (ρ:=za1) (n3 p)).trans (zp1 (ρ:=za1) (zv8 (ρ:=za1) ((zag2 (zs9 (j:=4) (v3 p)) (decide_eq_true b4)).trans (zo7 (zad9 (sU p) (sF' p) rfl rfl (by lia)))))))
   ·have n4:∀p,sLf za1 (dIfS (dBo (d2 kEq (dVar 3) (dC (.int 4)))) (dRet (d2 qA (dSlU (dVar 4) (dVar 2)) (dSlF (d2 qA (dVar 4) (dC (.int 1))) (dVar 2)))) zi0) (t5 p) w8=some (.nx (t5 p) w8):=fun p=>zm3 (ρ:=za1) (grd (zs9 (j:=4) (v3 p)) (decide_eq_false b4))
    by_cases b5:b=5
    ·obtain⟨r,w9,r0,r1,o9,e9⟩:=ze4 o8 (m:=(ts.length:Int)+1) (by lia) (sm_lt (by lia) (by lia))
     have lf:=zbi2 (fun x=>!decide (x∈Q)) [r]
     rw [zbg6]at lf
     refine⟨zd6 (Q++[r].filter fun x=>!decide (x∈Q)),w9,o9,by rw [(zd5 _).length_eq,zbf8];lia,zk7 rfl fun p=>head p ?_⟩
     have z:=zq5 (ρ:=za1) (w:=w8) (zs9 (j:=5) (v3 p))
     rw [decide_eq_true b5]at z
     have y1:=zaa7 (ρ:=za1) (ze8 (ρ:=za1) (zd8 (i:=0) (t:=t5 p) (p:=p) rfl (zk3 (lenW (i:=1) (t:=t5 p) rfl) (rfl:dC (.int 1) (t5 p)=some (.cl (.int 1)))) e9) (zl1 (ρ:=za1))) (rfl:kLst [.cl (.int r)]=some (.nw [.int r]))
     have il:(iLs (eT1 kLst (zb1 (eX p za7 (zb1 (eLf za1 (dVar 0)) (zb1 (eLf za1 (d2 qA (dT1 kLen (za2 (d2 kIx (dVar 1) (dC (.int 1))) dNil)) (dC (.int 1)))) aNil))) aNil)):WI za1) (t5 p) w8=some ((true,[.int r]),w9):=by
      unfold iLs
      rw [y1]
      rfl
     have nn:=zap7 (fa:=dVar 0) (fb:=dVar 1) (t:=[.val (.int r),.val (.lst (Q.map D.int))]) (r1:=.cl (.int r)) (r2:=.cl (.lst (Q.map D.int))) r Q rfl rfl rfl rfl
     have cw:zg5 (ρ:=za1) (za6 0) (tLf za1 (dBo (d2 kNin (dVar 0) (dVar 1)))) (eLf za1 (dVar 0)) [.int r] [.no,.val (.lst (Q.map D.int))] w9=some ((([r].filter fun x=>!decide (x∈Q))).map D.int,w9):=by
      cases h:decide (r∈Q) with
      |true =>
       rw [h]at nn
       refine (zbb6 (ρ:=za1) (k:=za6 0) (fe:=eLf za1 (dVar 0)) (ds:=[]) (w1:=w9) (t1:=[.val (.int r),.val (.lst (Q.map D.int))]) rfl (zq5 (ρ:=za1) nn)).trans ?_
       have hf:([r].filter fun x=>!decide (x∈Q))=[]:=by rw [zbh0,h];rfl
       rw [hf]
       rfl
      |false =>
       rw [h]at nn
       refine (zad6 (ρ:=za1) (k:=za6 0) (ds:=[]) (ys:=([],w9)) (t1:=[.val (.int r),.val (.lst (Q.map D.int))]) (w1:=w9) (w2:=w9) (w3:=w9) rfl (zq5 (ρ:=za1) nn) (eLp (rfl:dVar 0 [.val (.int r),.val (.lst (Q.map D.int))]=some (.cl (.int r)))) rfl).trans ?_
       have hf:([r].filter fun x=>!decide (x∈Q))=[r]:=by rw [zbh0,h];rfl
       rw [hf]
       rfl
     have y2:=zu8 (ρ:=za1) (n:=1) (cap:=[2]) (k:=za6 0) (c:=false) (cs:=[.lst (Q.map D.int)]) (t:=t5 p) il rfl (by simp) cw (flats_ints _)
     have y3:=ze2 (ρ:=za1) (eLp (w:=w8) (rfl:dVar 2 (t5 p)=some (.tm (.lst (Q.map D.int))))) y2 (zam3 (xs:=Q) (ys:=[r].filter fun x=>!decide (x∈Q)) rfl rfl (by lia))
     have ks:zm5 [.nw ((Q++[r].filter fun x=>!decide (x∈Q)).map D.int)]=some (.nw ((zd6 (Q++[r].filter fun x=>!decide (x∈Q))).map D.int)):=by
      show (zm8 ((Q++[r].filter fun x=>!decide (x∈Q)).map D.int)).bind _=_
      rw [zn1,zbd9,if_pos (by rw [zbf8];lia)]
     exact (zb6 (ρ:=za1) ((zy7 (ρ:=za1) (n2 p)).trans rfl)).trans ((zb6 (ρ:=za1) (n3 p)).trans ((zb6 (ρ:=za1) (n4 p)).trans (zp1 (ρ:=za1) ((zaj9 (ρ:=za1) z).trans (zp2 (ρ:=za1) (zaa7 (ρ:=za1) (ze8 (ρ:=za1) y3 (zl1 (ρ:=za1))) ks))))))
    ·refine⟨Q,w8,o8,by lia,zk7 rfl fun p=>head p ?_⟩
     have z:=zq5 (ρ:=za1) (w:=w8) (zs9 (j:=5) (v3 p))
     rw [decide_eq_false b5]at z
     exact (zb6 (ρ:=za1) ((zy7 (ρ:=za1) (n2 p)).trans rfl)).trans ((zb6 (ρ:=za1) (n3 p)).trans ((zb6 (ρ:=za1) (n4 p)).trans ((zb6 (ρ:=za1) ((zy7 (ρ:=za1) z).trans rfl)).trans (zv8 (ρ:=za1) rfl))))
noncomputable def hD (M:Nat) (ts:List (Int×Int)) (ws fs L:List Int):List D:=[wD M ts,.lst (ws.map D.int),.lst (fs.map D.int),.lst (L.map D.int)]
theorem eqOk_hD (M:Nat) (ts:List (Int×Int)) (ws fs L:List Int):eqOk 6 (.lst (hD M ts ws fs L)) (.lst (hD M ts ws fs L))=true:=by
 have e1:eqOk 5 (wD M ts) (wD M ts)=true:=by
  show ((([D.int (M:Int),.lst (ts.map pD)]:List D).zip [D.int (M:Int),.lst (ts.map pD)]).all fun p=>eqOk 4 p.1 p.2)=true
  simp only [zbh4,zbq1,zbh1,List.all_nil,zbl7]
  rw [show eqOk 4 (.int (M:Int)) (.int (M:Int))=true from rfl,zba3 2 ts]
  rfl
 have e2:∀xs:List Int,eqOk 5 (.lst (xs.map D.int)) (.lst (xs.map D.int))=true:=fun xs=>by
  show (((xs.map D.int).zip (xs.map D.int)).all fun p=>eqOk 4 p.1 p.2)=true
  exact zu7 4 xs xs
 show (((hD M ts ws fs L).zip (hD M ts ws fs L)).all fun p=>eqOk 5 p.1 p.2)=true
 unfold hD
 simp only [zbh4,zbq1,zbh1,List.all_nil,zbl7]
 rw [e1,e2,e2,e2]
 rfl
theorem zal6 {fa fb:DE}{t:Th}{r1 r2:Ev}{d:D} (ha:fa t=some r1) (hb:fb t=some r2) (h1:r1.d=d) (h2:r2.d=d) (ok:eqOk 6 d d=true):dBo (d2 kNe fa fb) t=some false:=by
 unfold dBo
 rw [zh4 ha hb]
 unfold kNe
 rw [h1,h2,if_pos ok,eqD_true.mpr rfl]
 rfl
theorem neB_same {fa fb:DE}{t:Th}{r1 r2:Ev}{b:Bool} (ha:fa t=some r1) (hb:fb t=some r2) (h1:r1.d=.bl b) (h2:r2.d=.bl b):dBo (d2 kNe fa fb) t=some false:=zal6 ha hb h1 h2 rfl
noncomputable def bdL:DS:=(dSeq (dAsg 6 (zaa8 zi2 (dT1 (zf0 zg2) (za2 (dVar 0) (za2 (dVar 5) dNil))) 1))
  (dSeq (dFrz 6 (dAsg 7 (dT1 kLst (za2 (dT1 kTup (za2 (d2 kIx (dVar 1) (dC (.int 0))) (za2 (dT1 zj4 (za2 (d2 kIx (dVar 1) (dC (.int 1))) dNil)) dNil))) (za2 (dT1 zj4 (za2 (dVar 3) dNil)) (za2 (dT1 zj4 (za2 (dVar 4) dNil)) (za2 (dT1 zj4 (za2 (dVar 6) dNil)) dNil)))))))
  (dSeq (dAsg 8 (dT1 (zf0 zl6) (za2 (d2 kIx (dVar 7) (dC (.int 0))) (za2 (d2 kIx (dVar 7) (dC (.int 3))) dNil))))
  (dSeq (dIfS (dOr (dNot (dTr (dIsi "bool" (dVar 8)))) (dBo (d2 kNe (dVar 8) (dT1 (zf0 zg3) (za2 (dVar 1) (za2 (dVar 6) dNil)))))) (dRet (dC (.bl false))) zi0)
  (dSeq (dIfS (dTr (dVar 8)) (dSeq (dAsg 9 (dT1 (zf0 ze5) (za2 (d2 kIx (dVar 7) (dC (.int 0))) (za2 (d2 kIx (dVar 7) (dC (.int 1))) (za2 (d2 kIx (dVar 7) (dC (.int 2))) (za2 (d2 kIx (dVar 7) (dC (.int 3))) dNil))))))
  (dIfS (dOr (dNot (dTr (dIsi "int" (dVar 9)))) (dOr (dTr (dIsi "bool" (dVar 9))) (dBo (d2 kNe (dVar 9) (dT1 (zf0 zi4) (za2 (dVar 1) (za2 (dVar 3) (za2 (dVar 4) (za2 (dVar 6) (za2 (dC (.int 1)) dNil)))))))))) (dRet (dC (.bl false))) zi0)) zi0)
  (dIfS (dBo (d2 kNe (dVar 7) (dT1 kLst (za2 (dVar 1) (za2 (dVar 3) (za2 (dVar 4) (za2 (dVar 6) dNil))))))) (dRet (dC (.bl false))) zi0))))))
theorem turn_L (ns:List Int) (hl:ns.length≤63) {M:Nat} (hM:M≤9) {ts:List (Int×Int)} (hw:WebOk M ts) (ht:ts.length≤36) {ws fs:List Int} (hws:ws.length=ts.length) (hf:fs.length=M) (hfb:∀f∈fs,0≤f∧f≤1000000000000) {k:Nat} (hk:k≤100) (s2 s6 s7 s8 s9:Sl) :
  ∃u6 u7 u8 u9,bdL [.val (.lst (ns.map D.int)),.val (wD M ts),s2,.val (.lst (ws.map D.int)),.val (.lst (fs.map D.int)),.val (.int (k:Int)),s6,s7,s8,s9]=some (.nx [.val (.lst (ns.map D.int)),.val (wD M ts),s2,.val (.lst (ws.map D.int)),.val (.lst (fs.map D.int)),.val (.int (k:Int)),u6,u7,u8,u9]):=by
 let N:Sl:=.val (.lst (ns.map D.int))
 let W:Sl:=.val (wD M ts)
 let A:Sl:=.val (.lst (ws.map D.int))
 let B:Sl:=.val (.lst (fs.map D.int))
 let K:Sl:=.val (.int (k:Int))
 obtain⟨c,n,po,ep⟩:=zak3 ns hl (k:=k) hk
 obtain⟨L,w',_,lL,eL⟩:=ties_is po hw.pos (by lia) (ts:=ts) (by lia)
 let t0:Th:=[N,W,s2,A,B,K,s6,s7,s8,s9]
 have c1:zaa8 zi2 (dT1 (zf0 zg2) (za2 (dVar 0) (za2 (dVar 5) dNil))) 1 t0=some (.nw (L.map D.int)):=by
  unfold zaa8
  rw [(zq6 (rfl:dVar 0 t0=some (.cl (.lst (ns.map D.int)))) (rfl:dVar 5 t0=some (.cl (.int (k:Int))))).trans (zam8 (xs:=[c,n]) ep)]
  show (zi2 (c,n) [wD M ts]).map _=_
  rw [eL]
  rfl
 have E1:=zo9 (i:=6) c1 (by simp [t0])
 let S6:Sl:=.val (.lst (L.map D.int))
 let t1:Th:=[N,W,s2,A,B,K,S6,s7,s8,s9]
 have q1:(dT1 kTup (za2 (d2 kIx (dVar 1) (dC (.int 0))) (za2 (dT1 zj4 (za2 (d2 kIx (dVar 1) (dC (.int 1))) dNil)) dNil))) t1=some (.cl (wD M ts)):=(zq6 (web0 (i:=1) (t:=t1) rfl) (list_pD (web1 (i:=1) (t:=t1) rfl) rfl)).trans rfl
 have q2:∀(i:Nat) (xs:List Int),dVar i t1=some (.cl (.lst (xs.map D.int)))→(dT1 zj4 (za2 (dVar i) dNil)) t1=some (.nw (xs.map D.int)):=fun i xs h=>list_of h rfl
 have E2:dFrz 6 (dAsg 7 (dT1 kLst (za2 (dT1 kTup (za2 (d2 kIx (dVar 1) (dC (.int 0))) (za2 (dT1 zj4 (za2 (d2 kIx (dVar 1) (dC (.int 1))) dNil)) dNil))) (za2 (dT1 zj4 (za2 (dVar 3) dNil)) (za2 (dT1 zj4 (za2 (dVar 4) dNil)) (za2 (dT1 zj4 (za2 (dVar 6) dNil)) dNil)))))) [N,W,s2,A,B,K,.own (L.map D.int),s7,s8,s9]=some (.nx [N,W,s2,A,B,K,S6,.own (hD M ts ws fs L),s8,s9]):=by
  refine Eq.trans (b:=dAsg 7 (dT1 kLst (za2 (dT1 kTup (za2 (d2 kIx (dVar 1) (dC (.int 0))) (za2 (dT1 zj4 (za2 (d2 kIx (dVar 1) (dC (.int 1))) dNil)) dNil))) (za2 (dT1 zj4 (za2 (dVar 3) dNil)) (za2 (dT1 zj4 (za2 (dVar 4) dNil)) (za2 (dT1 zj4 (za2 (dVar 6) dNil)) dNil))))) t1) rfl ?_
  exact zo9 (i:=7) (xs:=hD M ts ws fs L) ((t4_of q1 (q2 3 ws rfl) (q2 4 fs rfl) (q2 6 L rfl)).trans rfl) (by simp [t1])
 let S7:Sl:=.own (hD M ts ws fs L)
 let t2:Th:=[N,W,s2,A,B,K,S6,S7,s8,s9]
 have h0:∀s8 s9,(d2 kIx (dVar 7) (dC (.int 0))) [N,W,s2,A,B,K,S6,S7,s8,s9]=some (.tm (wD M ts)):=fun _ _=>rfl
 have h1:∀s8 s9,∃r,(d2 kIx (dVar 7) (dC (.int 1))) [N,W,s2,A,B,K,S6,S7,s8,s9]=some r∧r.d=.lst (ws.map D.int):=fun _ _=>⟨_,rfl,by show Ev.d (if (false||flat (.lst (ws.map D.int)))=true then _ else _)=_;rfl⟩
 have h2:∀s8 s9,∃r,(d2 kIx (dVar 7) (dC (.int 2))) [N,W,s2,A,B,K,S6,S7,s8,s9]=some r∧r.d=.lst (fs.map D.int):=fun _ _=>⟨_,rfl,rfl⟩
 have h3:∀s8 s9,∃r,(d2 kIx (dVar 7) (dC (.int 3))) [N,W,s2,A,B,K,S6,S7,s8,s9]=some r∧r.d=.lst (L.map D.int):=fun _ _=>⟨_,rfl,rfl⟩
 obtain⟨r3,e3,d3⟩:=h3 s8 s9
 have c3:(dT1 (zf0 zl6) (za2 (d2 kIx (dVar 7) (dC (.int 0))) (za2 (d2 kIx (dVar 7) (dC (.int 3))) dNil))) t2=some (.cl (.bl (zv2 M ts L))):=(zq6 (h0 s8 s9) e3).trans (zat8 (by rw [zbf4,zbf4,zbn9,d3];exact zat4 (by lia) hw (by lia)) rfl)
 have E3:=zy3 (i:=8) c3 (by simp [t2])
 let S8:Sl:=.val (.bl (zv2 M ts L))
 let t3:Th:=[N,W,s2,A,B,K,S6,S7,S8,s9]
 have c4:(dT1 (zf0 zg3) (za2 (dVar 1) (za2 (dVar 6) dNil))) t3=some (.cl (.bl (zv2 M ts L))):=(zq6 (rfl:dVar 1 t3=some (.cl (wD M ts))) (rfl:dVar 6 t3=some (.cl (.lst (L.map D.int))))).trans (zat8 (zat0 (by lia) hw (by lia)) rfl)
 have E4:=grd (g:=dRet (dC (.bl false))) (zaf3 (rfl:(dNot (dTr (dIsi "bool" (dVar 8)))) t3=some false) (neB_same (rfl:dVar 8 t3=some (.cl (.bl (zv2 M ts L)))) c4 rfl rfl)) rfl
 obtain⟨u9,E5⟩:∃u9,(dIfS (dTr (dVar 8)) (dSeq (dAsg 9 (dT1 (zf0 ze5) (za2 (d2 kIx (dVar 7) (dC (.int 0))) (za2 (d2 kIx (dVar 7) (dC (.int 1))) (za2 (d2 kIx (dVar 7) (dC (.int 2))) (za2 (d2 kIx (dVar 7) (dC (.int 3))) dNil))))))
  (dIfS (dOr (dNot (dTr (dIsi "int" (dVar 9)))) (dOr (dTr (dIsi "bool" (dVar 9))) (dBo (d2 kNe (dVar 9) (dT1 (zf0 zi4) (za2 (dVar 1) (za2 (dVar 3) (za2 (dVar 4) (za2 (dVar 6) (za2 (dC (.int 1)) dNil)))))))))) (dRet (dC (.bl false))) zi0)) zi0) t3=some (.nx [N,W,s2,A,B,K,S6,S7,S8,u9]):=by
  have ct:dTr (dVar 8) t3=some (zv2 M ts L):=rfl
  cases hb:zv2 M ts L with
  |false=>rw [hb]at ct;exact⟨s9,grd ct rfl⟩
  |true =>
   rw [hb]at ct
   have hr:rsB (ts.length:Int) (-1) L=true:=by unfold zv2 at hb;exact (zbe0 _ _ ▸ hb).1
   have hL:∀l∈L,0≤l∧l<(ts.length:Int):=fun l hl=>by have:=(zas3 hr).2 l hl;lia
   obtain⟨r1,e1,d1'⟩:=h1 S8 s9
   obtain⟨r2,e2,d2'⟩:=h2 S8 s9
   obtain⟨r3,e3,d3⟩:=h3 S8 s9
   have c5:(dT1 (zf0 ze5) (za2 (d2 kIx (dVar 7) (dC (.int 0))) (za2 (d2 kIx (dVar 7) (dC (.int 1))) (za2 (d2 kIx (dVar 7) (dC (.int 2))) (za2 (d2 kIx (dVar 7) (dC (.int 3))) dNil))))) t3=some (.cl (.int (wtS ws L+zp7 M ts fs L))):=(t4_of (h0 S8 s9) e1 e2 e3).trans (zat8 (by rw [zbf4,zbf4,zbf4,zbf4,zbn9,d1',d2',d3];exact cost_is (by lia) hw hws hf hL (by lia)) rfl)
   have A5:=zy3 (i:=9) c5 (by simp [t3])
   let t4:Th:=[N,W,s2,A,B,K,S6,S7,S8,.val (.int (wtS ws L+zp7 M ts fs L))]
   have c6:(dT1 (zf0 zi4) (za2 (dVar 1) (za2 (dVar 3) (za2 (dVar 4) (za2 (dVar 6) (za2 (dC (.int 1)) dNil)))))) t4=some (.cl (.int (wtS ws L+zp7 M ts fs L))):=by
    have:=lcost_is (by lia) hw hws hf hfb hL (by lia) (often:=1) (by decide) (by decide)
    rw [Int.one_mul]at this
    exact (zat8 (rs:=[.cl (wD M ts),.cl (.lst (ws.map D.int)),.cl (.lst (fs.map D.int)),.cl (.lst (L.map D.int)),.cl (.int 1)]) this rfl)
   have A6:=grd (g:=dRet (dC (.bl false))) (zaf3 (rfl:(dNot (dTr (dIsi "int" (dVar 9)))) t4=some false) (zaf3 (rfl:(dTr (dIsi "bool" (dVar 9))) t4=some false) (zal6 (rfl:dVar 9 t4=some (.cl (.int (wtS ws L+zp7 M ts fs L)))) c6 rfl rfl rfl))) rfl
   exact⟨_,(zag2 ct rfl).trans ((zd9 A5).trans A6)⟩
 let t5:Th:=[N,W,s2,A,B,K,S6,S7,S8,u9]
 have c7:(dT1 kLst (za2 (dVar 1) (za2 (dVar 3) (za2 (dVar 4) (za2 (dVar 6) dNil))))) t5=some (.nw (hD M ts ws fs L)):=rfl
 have E6:=grd (g:=dRet (dC (.bl false))) (zal6 (rfl:dVar 7 t5=some (.tm (.lst (hD M ts ws fs L)))) c7 rfl rfl (eqOk_hD M ts ws fs L)) rfl
 exact⟨_,_,_,_,(zd9 E1).trans ((zd9 E2).trans ((zd9 E3).trans ((zd9 E4).trans ((zd9 E5).trans E6))))⟩
theorem law_true (ns:List Int) (hl:ns.length≤63) (hb:∀n∈ns,n.natAbs<bndS):G_law [.lst (ns.map D.int)]=some (.cl (.bl true)):=by
 let N:Sl:=.val (.lst (ns.map D.int))
 let t0:Th:=[N,.no,.no,.no,.no,.no,.no,.no,.no,.no]
 obtain⟨c0,n0,po0,ep0⟩:=zak3 ns hl (k:=0) (by decide)
 obtain⟨M,ts,w',hw,mM,lts,_,ew⟩:=web_is po0 (m:=9) (by decide) (by decide)
 have hM:M≤9:=by lia
 have ht:ts.length≤36:=zbh3 lts (few_ties M hM)
 have c1:(dT1 (zaz5 zl4) (za2 (dT1 (zf0 zg2) (za2 (dVar 0) (za2 (dC (.int 0)) dNil))) (za2 (dC (.int 9)) dNil))) t0=some (.cl (wD M ts)):=by
  rw [zq6 ((zq6 (rfl:dVar 0 t0=some (.cl (.lst (ns.map D.int)))) (rfl:dC (.int 0) t0=some (.cl (.int ((0:Nat):Int))))).trans (zam8 (xs:=[c0,n0]) ep0)) (rfl:dC (.int 9) t0=some (.cl (.int 9)))]
  show (if flats [D.int 9] then (zl4 (c0,n0) [.int 9]).map _ else none)=_
  rw [if_pos (by rfl),ew]
  rfl
 have E1:=zy3 (i:=1) c1 (by simp [t0])
 let W:Sl:=.val (wD M ts)
 let t1:Th:=[N,W,.no,.no,.no,.no,.no,.no,.no,.no]
 obtain⟨c,n,po,ep⟩:=zak3 ns hl (k:=1) (by decide)
 have E2:=zo9 (i:=2) (t:=t1) ((zq6 (rfl:dVar 0 t1=some (.cl (.lst (ns.map D.int)))) (rfl:dC (.int 1) t1=some (.cl (.int ((1:Nat):Int))))).trans (zam8 (xs:=[c,n]) ep)) (by simp [t1])
 let t2:Th:=[N,W,.own [.int c,.int n],.no,.no,.no,.no,.no,.no,.no]
 obtain⟨ws,w1,o1,lws,_,run1⟩:=zbb5 ts (c,n) po
 obtain⟨fs,w2,o2,lfs,hfb,ef⟩:=fees_is o1 (M:=M) (by lia)
 have E3:dInW 2 (fun p=>(sSeq (sAsg 3 (zq3 1 [2] (iLf za1 (fsL (d2 kIx (dVar 1) (dC (.int 1))))) (za6 0) zv4 (eX p ze3 (zb1 (eLf za1 (dVar 1)) aNil))))
  (sSeq (sAsg 4 (eX p zi3 (zb1 (eLf za1 (dVar 2)) (zb1 (eLf za1 (d2 kIx (dVar 1) (dC (.int 0)))) aNil))))
  (sSeq (sLf za1 (dFrz 4 (dFrz 3 (zah1 (za6 5) (dC (.int 2)) (dT1 qX (za2 (dC (.int 4)) (za2 (dT1 qN (za2 (dT1 kLen (za2 (dVar 0) dNil)) (za2 (dC (.int 62)) dNil))) dNil))) bdL))))
  (sLf za1 (dRet (dC (.bl true)))))))) t2=some (.rt (.cl (.bl true))):=by
  refine inW_of (c:=c) (n:=n) rfl fun p=>?_
  let t3:Th:=[N,W,.val (.adr p),.no,.no,.no,.no,.no,.no,.no]
  have fl:fsL (d2 kIx (dVar 1) (dC (.int 1))) t3=some (true,ts.map pD):=by
   unfold fsL
   rw [web1 (i:=1) (t:=t3) rfl]
   rfl
  have F1:=zv9 (ρ:=za1) (i:=3) (zu8 (ρ:=za1) (n:=1) (cap:=[2]) (k:=za6 0) (ft:=zv4) (fe:=eX p ze3 (zb1 (eLf za1 (dVar 1)) aNil)) (t:=t3) (c:=true) (cs:=[.adr p]) (zag3 (ρ:=za1) (w:=(c,n)) fl) rfl (by rw [zbf7];lia) (run1 p .no) (flats_ints ws)) (by simp [t3])
  let t4:Th:=[N,W,.val (.adr p),.own (ws.map D.int),.no,.no,.no,.no,.no,.no]
  have F2:=zv9 (ρ:=za1) (i:=4) (t:=t4) (w:=w1) (w1:=w2) (xs:=fs.map D.int) (eX_of (ρ:=za1) (p:=p) (G:=zi3) (rs:=[.cl (.int (M:Int))]) (ze8 (ρ:=za1) (eLp (rfl:dVar 2 t4=some (.cl (.adr p)))) (ze8 (ρ:=za1) (eLp (w:=w1) (web0 (i:=1) (t:=t4) rfl)) (zl1 (ρ:=za1)))) ef) (by simp [t4])
  let A:Sl:=.val (.lst (ws.map D.int))
  let B:Sl:=.val (.lst (fs.map D.int))
  let t5:Th:=[N,W,.val (.adr p),A,B,.no,.no,.no,.no,.no]
  obtain⟨m,m0,m1,em⟩:∃m:Int,4≤m∧m≤62∧(dT1 qX (za2 (dC (.int 4)) (za2 (dT1 qN (za2 (dT1 kLen (za2 (dVar 0) dNil)) (za2 (dC (.int 62)) dNil))) dNil))) t5=some (.cl (.int m)):=by
   have l0:=zr4 (xs:=ns) (f:=dVar 0) (t:=t5) (r:=.cl (.lst (ns.map D.int))) rfl rfl
   have m1:(dT1 qN (za2 (dT1 kLen (za2 (dVar 0) dNil)) (za2 (dC (.int 62)) dNil))) t5=some (.cl (.int (if (62:Int)<(ns.length:Int) then 62 else (ns.length:Int)))):=(zq6 l0 (rfl:dC (.int 62) t5=some (.cl (.int 62)))).trans rfl
   obtain⟨q,q1,eq⟩:∃q:Int,q≤62∧(if (62:Int)<(ns.length:Int) then 62 else (ns.length:Int))=q:=⟨_,by split<;>lia,rfl⟩
   rw [eq]at m1
   have m2:=zq6 (k:=k2I fun i j=>if j > i then j else i) (rfl:dC (.int 4) t5=some (.cl (.int 4))) m1
   refine⟨if q > 4 then q else 4,?_,?_,m2.trans rfl⟩
   ·split<;>lia
   ·split<;>lia
  have F3:∃t',forD (za6 5) bdL ((zbh8 (m - 2).toNat).map fun (i:Nat)=>D.int (2+(i:Int))) t5=some (.nx t')∧∃s5 s6 s7 s8 s9,t'=[N,W,.val (.adr p),A,B,s5,s6,s7,s8,s9]:=by
   refine for_P (P:=fun t => ∃s5 s6 s7 s8 s9,t=[N,W,.val (.adr p),A,B,s5,s6,s7,s8,s9]) _ (fun d hd t ⟨s5,s6,s7,s8,s9,et⟩=>?_) t5 ⟨_,_,_,_,_,rfl⟩
   subst et
   obtain⟨i,hi,rfl⟩:=zbi1.mp hd
   have hi:=zbi8.mp hi
   obtain⟨u6,u7,u8,u9,e⟩:=turn_L ns hl hM hw ht lws lfs hfb (k:=2+i) (by lia) (.val (.adr p)) s6 s7 s8 s9
   have ei:(2:Int)+(i:Int)=((2+i:Nat):Int):=by lia
   rw [ei]
   exact⟨_,_,rfl,e,_,_,_,_,_,rfl⟩
  obtain⟨t',e',s5,s6,s7,s8,s9,rfl⟩:=F3
  have F4:dFrz 4 (dFrz 3 (zah1 (za6 5) (dC (.int 2)) (dT1 qX (za2 (dC (.int 4)) (za2 (dT1 qN (za2 (dT1 kLen (za2 (dVar 0) dNil)) (za2 (dC (.int 62)) dNil))) dNil))) bdL)) [N,W,.val (.adr p),.own (ws.map D.int),.own (fs.map D.int),.no,.no,.no,.no,.no]=some (.nx [N,W,.val (.adr p),A,B,s5,s6,s7,s8,s9]):=by
   refine Eq.trans (b:=zah1 (za6 5) (dC (.int 2)) (dT1 qX (za2 (dC (.int 4)) (za2 (dT1 qN (za2 (dT1 kLen (za2 (dVar 0) dNil)) (za2 (dC (.int 62)) dNil))) dNil))) bdL t5) rfl ?_
   unfold zah1
   rw [em]
   show (if bigI m&&bigI 2 then forD (za6 5) bdL (rngD 2 (m - 2).toNat) t5 else none)=_
   rw [if_pos (by unfold bigI;rw [decide_eq_true (by lia)];rfl)]
   exact e'
  have run:(sSeq (sAsg 3 (zq3 1 [2] (iLf za1 (fsL (d2 kIx (dVar 1) (dC (.int 1))))) (za6 0) zv4 (eX p ze3 (zb1 (eLf za1 (dVar 1)) aNil))))
  (sSeq (sAsg 4 (eX p zi3 (zb1 (eLf za1 (dVar 2)) (zb1 (eLf za1 (d2 kIx (dVar 1) (dC (.int 0)))) aNil))))
  (sSeq (sLf za1 (dFrz 4 (dFrz 3 (zah1 (za6 5) (dC (.int 2)) (dT1 qX (za2 (dC (.int 4)) (za2 (dT1 qN (za2 (dT1 kLen (za2 (dVar 0) dNil)) (za2 (dC (.int 62)) dNil))) dNil))) bdL))))
  (sLf za1 (dRet (dC (.bl true)))))):WS za1) t3 (c,n)=some (.rt (.cl (.bl true)) w2):=(zb6 (ρ:=za1) F1).trans ((zb6 (ρ:=za1) F2).trans ((zb6 (ρ:=za1) (zm3 (ρ:=za1) F4)).trans (zv8 (ρ:=za1) rfl)))
  exact (congrArg (Option.map (zas0 2)) run).trans rfl
 show (g_law t0).bind zp5=_
 refine bnd ?_
 exact (zd9 E1).trans ((zd9 E2).trans E3)
end KX
set_option maxHeartbeats 4000000
namespace KX
open PySem.Spec L2 DL
def spLaw (K:zbd4):Sp:=spD K G_law
theorem all_mk {P:Program}{w:World}{K:zbd4}{h:Heap}{mg:Str→Option Value}{fa:Addr} (X:K.In h) (G:h.Ns mainGlobals mg) (hfa:mg "law"=some (.ref fa)) {f0:Addr}{f1:Addr}{f2:Addr}{f3:Addr}{f4:Addr}{f5:Addr}{f6:Addr}{f7:Addr}{f8:Addr}{f9:Addr}{f10:Addr}{f11:Addr}{f12:Addr}{f13:Addr}{f14:Addr}{f15:Addr}{f16:Addr}{f17:Addr}
  (h0:Hv K "least_led_to" zi6 f0)
  (h1:Hv K "rise_below" zk4 f1)
  (h2:Hv K "is_tree" zq8 f2)
  (h3:Hv K "fees_left_out" zg9 f3)
  (h4:Hv K "cost_of_tree" zi7 f4)
  (h5:Hv K "_law_pool" zn9 f5)
  (h6:Hv K "_law_take" zn8 f6)
  (h7:Hv K "_law_wide" zn5 f7)
  (h8:Hv K "_law_web" zq7 f8)
  (h9:Hv K "_law_weight" zk5 f9)
  (h10:Hv K "_law_fees" zo0 f10)
  (h11:Hv K "_law_reached" zj2 f11)
  (h12:Hv K "_law_points" zk6 f12)
  (h13:Hv K "_law_is_tree" zj3 f13)
  (h14:Hv K "_law_tree" zn6 f14)
  (h15:Hv K "_law_cost" zo1 f15)
  (h16:Hv K "_law_ties" zn7 f16)
  (h17:Hv K "law" s_law f17)
  (z_all:zbh5 K mainGlobals "all"=some none) (z_bool:zbh5 K mainGlobals "bool"=some none) (z_enumerate:zbh5 K mainGlobals "enumerate"=some none) (z_int:zbh5 K mainGlobals "int"=some none) (z_isinstance:zbh5 K mainGlobals "isinstance"=some none) (z_len:zbh5 K mainGlobals "len"=some none) (z_list:zbh5 K mainGlobals "list"=some none) (z_max:zbh5 K mainGlobals "max"=some none) (z_min:zbh5 K mainGlobals "min"=some none) (z_range:zbh5 K mainGlobals "range"=some none) (z_sorted:zbh5 K mainGlobals "sorted"=some none) (z_sum:zbh5 K mainGlobals "sum"=some none) (z_zip:zbh5 K mainGlobals "zip"=some none)   :
  TbOk K []∧∃fd:FuncData,(∀(s:zbe5) (v:Value),BindsTo s fd ⟨[v],[]⟩ [("_law_script",v)])∧∀base:BHeap,base.tabs=tbOf K []→K.In base→base.Ns mainGlobals mg→(∀x∈([]:List Str),∀c P,zbt8 K x=some (c,P)→zbs5 base c P)→FnOk P w K mg base CX0 4 fa fd ["_law_script"] (spLaw K):=by
 have e:=hfa.symm.trans (h17.mg X G)
 cases e
 have bu:Blt mg:=⟨zbg1 X G z_all,zbg1 X G z_bool,zbg1 X G z_enumerate,zbg1 X G z_int,zbg1 X G z_isinstance,zbg1 X G z_len,zbg1 X G z_list,zbg1 X G z_max,zbg1 X G z_min,zbg1 X G z_range,zbg1 X G z_sorted,zbg1 X G z_sum,zbg1 X G z_zip⟩
 obtain⟨_,u0⟩:=h0.fn
 have d0:Df K mg "least_led_to" zi6 ["web", "numbers"] f0 _:=⟨u0,h0.mg X G,zm6 u0 fun _ _ _ _ _ _ _ _=>rfl⟩
 obtain⟨_,u1⟩:=h1.fn
 have d1:Df K mg "rise_below" zk4 ["numbers", "many"] f1 _:=⟨u1,h1.mg X G,zm6 u1 fun _ _ _ _ _ _ _ _=>rfl⟩
 obtain⟨_,u2⟩:=h2.fn
 have d2:Df K mg "is_tree" zq8 ["web", "ties"] f2 _:=⟨u2,h2.mg X G,zm6 u2 fun _ _ _ _ _ _ _ _=>rfl⟩
 obtain⟨_,u3⟩:=h3.fn
 have d3:Df K mg "fees_left_out" zg9 ["web", "fees", "ties"] f3 _:=⟨u3,h3.mg X G,binds3 u3 fun _ _ _ _ _ _ _ _ _=>rfl⟩
 obtain⟨_,u4⟩:=h4.fn
 have d4:Df K mg "cost_of_tree" zi7 ["web", "weights", "fees", "ties"] f4 _:=⟨u4,h4.mg X G,binds4 u4 fun _ _ _ _ _ _ _ _ _ _=>rfl⟩
 obtain⟨_,u5⟩:=h5.fn
 have d5:Df K mg "_law_pool" zn9 ["_law_script", "_law_k"] f5 _:=⟨u5,h5.mg X G,zm6 u5 fun _ _ _ _ _ _ _ _=>rfl⟩
 obtain⟨_,u6⟩:=h6.fn
 have d6:Df K mg "_law_take" zn8 ["_law_pool_here", "_law_many"] f6 _:=⟨u6,h6.mg X G,zm6 u6 fun _ _ _ _ _ _ _ _=>rfl⟩
 obtain⟨_,u7⟩:=h7.fn
 have d7:Df K mg "_law_wide" zn5 ["_law_pool_here", "_law_many"] f7 _:=⟨u7,h7.mg X G,zm6 u7 fun _ _ _ _ _ _ _ _=>rfl⟩
 obtain⟨_,u8⟩:=h8.fn
 have d8:Df K mg "_law_web" zq7 ["_law_pool_here", "_law_most"] f8 _:=⟨u8,h8.mg X G,zm6 u8 fun _ _ _ _ _ _ _ _=>rfl⟩
 obtain⟨_,u9⟩:=h9.fn
 have d9:Df K mg "_law_weight" zk5 ["_law_pool_here"] f9 _:=⟨u9,h9.mg X G,binds1 u9 fun _ _ _ _ _ _ _=>rfl⟩
 obtain⟨_,u10⟩:=h10.fn
 have d10:Df K mg "_law_fees" zo0 ["_law_pool_here", "_law_many"] f10 _:=⟨u10,h10.mg X G,zm6 u10 fun _ _ _ _ _ _ _ _=>rfl⟩
 obtain⟨_,u11⟩:=h11.fn
 have d11:Df K mg "_law_reached" zj2 ["_law_web_here", "_law_ties_here", "_law_start"] f11 _:=⟨u11,h11.mg X G,binds3 u11 fun _ _ _ _ _ _ _ _ _=>rfl⟩
 obtain⟨_,u12⟩:=h12.fn
 have d12:Df K mg "_law_points" zk6 ["_law_web_here", "_law_ties_here"] f12 _:=⟨u12,h12.mg X G,zm6 u12 fun _ _ _ _ _ _ _ _=>rfl⟩
 obtain⟨_,u13⟩:=h13.fn
 have d13:Df K mg "_law_is_tree" zj3 ["_law_web_here", "_law_ties_here"] f13 _:=⟨u13,h13.mg X G,zm6 u13 fun _ _ _ _ _ _ _ _=>rfl⟩
 obtain⟨_,u14⟩:=h14.fn
 have d14:Df K mg "_law_tree" zn6 ["_law_pool_here", "_law_web_here"] f14 _:=⟨u14,h14.mg X G,zm6 u14 fun _ _ _ _ _ _ _ _=>rfl⟩
 obtain⟨_,u15⟩:=h15.fn
 have d15:Df K mg "_law_cost" zo1 ["_law_web_here", "_law_weights", "_law_fees_here", "_law_ties_here", "_law_often"] f15 _:=⟨u15,h15.mg X G,binds5 u15 fun _ _ _ _ _ _ _ _ _ _ _=>rfl⟩
 obtain⟨_,u16⟩:=h16.fn
 have d16:Df K mg "_law_ties" zn7 ["_law_pool_here", "_law_web_here"] f16 _:=⟨u16,h16.mg X G,zm6 u16 fun _ _ _ _ _ _ _ _=>rfl⟩
 obtain⟨_,u17⟩:=h17.fn
 have d17:Df K mg "law" s_law ["_law_script"] fa _:=⟨u17,h17.mg X G,binds1 u17 fun _ _ _ _ _ _ _=>rfl⟩
 refine⟨tbOk_nil,_,Hv.bt u17 fun _ _ _ _ _ _ _=>rfl,fun base ht _ _ hCd=>?_⟩
 have F_least_led_to:=zw8 (P:=P) (w:=w) (base:=base) d0.fn bu
 have F_rise_below:=zac8 (P:=P) (w:=w) (base:=base) d1.fn bu
 have F_is_tree:=zas7 (P:=P) (w:=w) (base:=base) d2.fn bu (d1.cal F_rise_below) (d0.cal F_least_led_to)
 have F_fees_left_out:=zt6 (P:=P) (w:=w) (base:=base) d3.fn bu
 have F_cost_of_tree:=zw9 (P:=P) (w:=w) (base:=base) d4.fn bu (d3.cal F_fees_left_out)
 have F_law_pool:=zal3 (P:=P) (w:=w) (base:=base) d5.fn bu
 have F_law_take:=zal2 (P:=P) (w:=w) (base:=base) d6.fn bu
 have F_law_wide:=zak9 (P:=P) (w:=w) (base:=base) d7.fn bu (d6.calX F_law_take)
 have F_law_web:=zas6 (P:=P) (w:=w) (base:=base) d8.fn bu (d6.calX F_law_take)
 have F_law_weight:=zac9 (P:=P) (w:=w) (base:=base) d9.fn bu (d6.calX F_law_take) (d7.calX F_law_wide)
 have F_law_fees:=zal4 (P:=P) (w:=w) (base:=base) d10.fn bu (d6.calX F_law_take) (d7.calX F_law_wide)
 have F_law_reached:=zy8 (P:=P) (w:=w) (base:=base) d11.fn bu
 have F_law_points:=zad0 (P:=P) (w:=w) (base:=base) d12.fn bu
 have F_law_is_tree:=zy9 (P:=P) (w:=w) (base:=base) d13.fn bu (d12.cal F_law_points) (d11.cal F_law_reached)
 have F_law_tree:=zal0 (P:=P) (w:=w) (base:=base) d14.fn bu (d6.calX F_law_take)
 have F_law_cost:=zal5 (P:=P) (w:=w) (base:=base) d15.fn bu (d12.cal F_law_points)
 have F_law_ties:=zal1 (P:=P) (w:=w) (base:=base) d16.fn bu (d14.calX F_law_tree) (d6.calX F_law_take)
 have F_law:=ok_law (P:=P) (w:=w) (base:=base) d17.fn bu (d8.calX F_law_web) (d5.cal F_law_pool) (d9.calX F_law_weight) (d10.calX F_law_fees) (d16.calX F_law_ties) (d2.cal F_is_tree) (d13.cal F_law_is_tree) (d4.cal F_cost_of_tree) (d15.cal F_law_cost)
 exact F_law
theorem walk {l:zbr3}{q:Program}{loose:List Str}{XP:(Str→Option Value)→Heap→Prop}{YP:World→Heap→Prop}{d:DefRec}{K:Params→zbd4} (hn:l.most=some 63) (hdf:d.params.defaults=[])
  (hY:∀(w:World) (h:Heap),YP w h→(K w.params).In h) (hrec:∀x∈([]:List Str),∃dr,(recsOf q).find? (fun e=>e.name == x)=some dr)
  (Fx:∀(w:World) (mg:Str→Option Value) (fa:Addr) (h:Heap),(K w.params).In h→h.Ns mainGlobals mg→mg d.name=some (.ref fa) →
   TbOk (K w.params) []∧∃fd:FuncData,(∀(s:zbe5) (u:Value),BindsTo s fd ⟨[u],[]⟩ [("_law_script",u)])∧∀base:BHeap,base.tabs=tbOf (K w.params) []→(K w.params).In base→base.Ns mainGlobals mg→(∀x∈([]:List Str),∀c P,zbt8 (K w.params) x=some (c,P)→zbs5 base c P)→FnOk l.prog w (K w.params) mg base CX0 4 fa fd ["_law_script"] (spLaw (K w.params))) :
  zbt3 q loose XP YP l.row.toRowW d [] (fun f vs=>PySem.call f vs) :=
 L2.walk_ofT (n:=63) (k:=4) (x := "_law_script") (names:=[]) (CX:=fun _=>CX0) (sp:=fun w=>spLaw (K w.params)) hn (by decide) hdf ⟨rfl,by decide,by decide⟩ hY hrec Fx
  (fun _ H a ns hl hb hS=>⟨[],[.lst (ns.map .int)],.cl (.bl true),fun p hp=>(by cases hp),.cons (.lst (by rw [hide_nil];exact hS) (Reps.ints ns)) .nil,law_true ns hl hb,fun v H' _ q=>by cases q;rfl⟩) fun _ _ _ _ _ z=>z
end KX
open PySem PySem.W PyProof.Rows
set_option maxRecDepth 100000 in
set_option maxHeartbeats 0 in
theorem PySem.Challenge.cw_nearenough_k70_trees_and_costs_holds : PySem.Challenge.rw_nearenough_k70_trees_and_costs.Holds := by
 w_on;o_law;k_head;(case hw=>w_witness2)
 k_fill
 refine KX.walk (l:=PySem.Challenge.rw_nearenough_k70_trees_and_costs) rfl rfl (fun w h Y=>by first | exact PySem.W.kIn_of Y | exact PySem.W.km_in_of Y) (by intro x hx;simp at hx) ?F
 case F =>
  intro w mg fa h KI G hmg
  refine' KX.all_mk KI G hmg ?h0 ?h1 ?h2 ?h3 ?h4 ?h5 ?h6 ?h7 ?h8 ?h9 ?h10 ?h11 ?h12 ?h13 ?h14 ?h15 ?h16 ?h17 ?z_all ?z_bool ?z_enumerate ?z_int ?z_isinstance ?z_len ?z_list ?z_max ?z_min ?z_range ?z_sorted ?z_sum ?z_zip
  all_goals try (refine' DL.Hv.mk ?a ?l ?c ?k;(case a=>k_is);(case l=>k_is);(case c=>k_is);(case k=>k_is))
  all_goals try k_is

