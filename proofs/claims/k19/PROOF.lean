import PyProof.Rows.All
import Wide.All
import OpenK.AllK
import Wide.FinOn
import PyProof.EqAt
import PyProof.EqKinds
import PyProof.NeKinds
import PyProof.TupleCall
import PyProof.EnumFor
import PyProof.EnumMake
import PyProof.CompFree
import PyProof.Rows.SumAny
import PyProof.Rows.Range3
import PyProof.CompUse
import KE.LcSums
import PyProof.ListRange
import PyProof.Rows.MinMaxN
import KE.KIntText
import PyProof.StrCalls2
import PyProof.StrBlockH
import PyProof.Rows.ZipForRows
import PyProof.Rows.SortRev
import KE.KRevSl
import KE.KMinKey
import PyProof.Rows.SetFrom
import PyProof.Rows.SeqMore2
import Lean
import PyProof.WalkInts
import KE.KLam
import KE.KNest
import PyProof.Rows.SortRuns
import KE.KSortKey
import PyProof.Conv_int_bool
import KE.KListMore
import PyProof.DictWalks
import KE.KSortTup
import KE.KDictList
import KE.KRevIter
import PyProof.SetKind
import PyProof.SetScanFacts
import PySem.Challenge.RW_nearenough_k19_tree_and_tour
noncomputable section
open Array renaming length_toList→zbd4
open Int renaming toNat_of_nonneg→zax4,toNat_natCast→zbb8,le_refl→zbg5
open PySem.F renaming plain_min_loop→zau9,plainAttrs_list→zav1,entry_min_loop→zaz5,slot_list_append→zbb0,type_list_append→zbb1,slot_list_remove→zbb4
open Nat renaming lt_of_lt_of_le→zas5,le_refl→zat4,ne_of_lt→zau2,lt_succ_self→zav5,le_trans→zaw5,lt_irrefl→zax5,lt_succ_of_lt→zay5,pow_le_pow_right→zay6,le_of_lt→zba6,ne_of_gt→zba7,lt_trans→zba9,mul_le_mul→zbb2,lt_or_ge→zbb3,zero_le→zbd7,lt_of_le_of_lt→zbd9
open PySem.Heap renaming get?_push_of_some→zas3,lt_size→zat1,get?_update_other→zau8,get?_push_size→zav0,size_push→zaz0
open PySem renaming wpAny_bind→zas0,Shared→zas4,starEach→zat2,wpAny_pure→zat9,backTo→zay7
open Bool renaming and_eq_true→zar9,false_ne_true→zas6,and_true→zaw3,eq_iff_iff→zaw6,false_eq_true→zba4,or_true→zbb5,or_eq_true→zbc7
open Option renaming bind_some→zar2,map_some→zau4,getD_some→zay9,isSome_map→zbb7,isSome_some→zbd8
open PySem.W renaming Frag→zaq9,mg_none_of→zav2,keepIn→zav3,fnOf→zav8,kia_one→zaw8,nsIn→zax8,findIn→zay8,codeIn→zba8,methodObj→zbb6,cellsFrom_some→zbb9,instObj→zbc3,lookIn→zbd5,hasDictIn→zbe1,specialIn→zbe2,kitx_dict→zbe3,plainGet→zbe6,OpenLaw→zbf9,CodeHd→zbh4,WalkO→zbi7,tabIn→zbj0
open List renaming mem_append_right→zaq8,mem_append_left→zar0,mem_cons_of_mem→zar1,mem_append→zar3,mem_cons_self→zar4,getElem?_eq_getElem→zar5,replicate→zar6,getD_eq_getElem?_getD→zar7,mem_cons→zar8,map_cons→zas1,mem_singleton→zas2,length_map→zas7,size_toArray→zas8,nodup_append→zas9,drop_eq_getElem_cons→zat0,nodup_cons→zat3,length_append→zat5,range→zat6,getElem?_map→zat7,getElem?_replicate→zat8,all_cons→zau0,lookup_cons→zau1,length_cons→zau3,replicate_succ→zau5,append_nil→zau6,mem_map→zau7,nodup_nil→zav4,getElem?_eq_some_iff→zav6,length_singleton→zav7,length_eq_zero_iff→zav9,count_append→zaw0,flatMap_cons→zaw1,any_cons→zaw2,drop_of_length_le→zaw4,getElem?_append_right→zaw7,getElem?_append_left→zaw9,zip_cons_cons→zax0,getElem?_set_ne→zax1,length_erase_of_mem→zax2,append_assoc→zax3,getElem?_set_self→zax6,drop_length→zax7,pairwise_cons→zax9,count_pos_iff→zay0,length_replicate→zay1,getElem?_eq_none→zay2,find?_cons→zay3,flatten_cons→zay4,mem_filter→zaz1,map_append→zaz2,eraseIdxIfInBounds_toArray→zaz3,zipWith_cons_cons→zaz4,mem_of_mem_erase→zaz6,mem_range→zaz7,mem_erase_of_ne→zaz8,filterMap_cons→zaz9,length_reverse→zba0,length_set→zba1,mem_filterMap→zba2,sublist_append_right→zba3,count_eq_zero→zba5,all_eq_true→zbc0,length_pos_of_mem→zbc1,dropLast_eq_take→zbc2,of_mem_zip→zbc4,nil_append→zbc5,length_nil→zbc6,count_cons→zbc8,mem_of_getElem?→zbc9,map_nil→zbd0,zipWith→zbd1,nodup_iff_count→zbd2,map_map→zbd3,length_pos_iff→zbd6,count_flatMap→zbe0,ext_getElem?→zbe4,getElem?_set→zbe5,filter_cons→zbe7,map_fst_zip→zbe8,map_snd_zip→zbe9,map_set→zbf0,getElem_mem→zbf1,mem_flatMap→zbf3,foldl→zbi1
open PySem PyProof.Rows
set_option Elab.async false
set_option linter.all false
set_option maxRecDepth 100000
namespace L2
open PySem.Spec
abbrev Key:=Sum Int Str
def zah9:Key→Value→Bool
 |.inl k,v=>Value.isInt k v
 |.inr x,v=>Value.isStrOf x v
def keyH (w:World):Key→Int
 |.inl k=>hashInt k
 |.inr x=>hashStr w x
theorem zd4:∀ {k:Key}{v:Value},zah9 k v=true→(∃i t,k=Sum.inl i∧v=Value.int i t)∨(∃x t,k=Sum.inr x∧v=Value.str x t)
 |.inl i,v,h=>by
  obtain⟨t,e⟩:=Value.isInt_shape (k:=i) (v:=v) h
  exact .inl ⟨i,t,rfl,e⟩
 |.inr x,v,h=>by
  obtain⟨t,e⟩:=Value.isStrOf_shape (x:=x) (v:=v) h
  exact .inr ⟨x,t,rfl,e⟩
theorem zan0 (i:Int) (t:Tok):zah9 (.inl i) (.int i t)=true:=by simp [zah9,Value.isInt]
theorem zam9 (x:Str) (t:Tok):zah9 (.inr x) (.str x t)=true:=by simp [zah9,Value.isStrOf]
theorem key_ll (a b:Int):decide ((Sum.inl a:Key)=Sum.inl b)=(a == b):=by
 by_cases e:a=b
 ·subst e;simp
 ·have h : ¬ (Sum.inl a:Key)=Sum.inl b:=fun q=>e (Sum.inl.inj q)
  rw [decide_eq_false h]
  exact (beq_eq_false_iff_ne.mpr e).symm
theorem key_rr (a b:Str):decide ((Sum.inr a:Key)=Sum.inr b)=decide (a=b):=by
 by_cases e:a=b
 ·subst e;simp
 ·have h : ¬ (Sum.inr a:Key)=Sum.inr b:=fun q=>e (Sum.inr.inj q)
  rw [decide_eq_false h,decide_eq_false e]
theorem key_lr (a:Int) (b:Str):decide ((Sum.inl a:Key)=Sum.inr b)=false:=decide_eq_false (fun q=>nomatch q)
theorem key_rl (a:Str) (b:Int):decide ((Sum.inr a:Key)=Sum.inl b)=false:=decide_eq_false (fun q=>nomatch q)
noncomputable def zd8 (prog:Program) (w:World):PySem.KeyKind prog w Key where
 is:=zah9
 hash:=keyH w
 inj:=fun v a b ha hb=>by
  rcases zd4 ha with ⟨i,t,rfl,rfl⟩ | ⟨x,t,rfl,rfl⟩
  ·rcases zd4 hb with ⟨j,u,rfl,e⟩ | ⟨y,u,rfl,e⟩
   ·injection e with e1 _;rw [e1]
   ·exact nomatch e
  ·rcases zd4 hb with ⟨j,u,rfl,e⟩ | ⟨y,u,rfl,e⟩
   ·exact nomatch e
   ·injection e with e1 _;rw [e1]
 byValue:=fun k v h=>by
  rcases zd4 h with ⟨i,t,rfl,rfl⟩ | ⟨x,t,rfl,rfl⟩<;>rfl
 pyHash:=fun hv h=>by
  rcases zd4 hv with ⟨i,t,rfl,rfl⟩ | ⟨x,t,rfl,rfl⟩
  ·exact wpAny_pyHash_int h
  ·exact wpAny_pyHash_str h
 eqBool:=fun hu hv h=>by
  rcases zd4 hu with ⟨i,t,rfl,rfl⟩ | ⟨x,t,rfl,rfl⟩
  ·rcases zd4 hv with ⟨j,u,rfl,rfl⟩ | ⟨y,u,rfl,rfl⟩
   ·rw [key_ll]at h;exact wpAny_eqBool_int h
   ·rw [key_lr]at h;exact SeqAt.EqAt.int_str i t y u _ _ _ _ h
  ·rcases zd4 hv with ⟨j,u,rfl,rfl⟩ | ⟨y,u,rfl,rfl⟩
   ·rw [key_rl]at h;exact SeqAt.EqAt.str_int x t j u _ _ _ _ h
   ·rw [key_rr]at h;exact wpAny_eqBool_str h
 «strs»:=fun k x t v h=>by
  rcases zd4 h with ⟨i,u,rfl,e⟩ | ⟨y,u,rfl,e⟩
  ·exact nomatch e
  ·injection e with e1 _
   subst e1
   cases v<;>rfl
theorem zab0 (prog:Program) (w:World) (i:Int) (t:Tok):(zd8 prog w).is (.inl i) (.int i t)=true:=zan0 i t
theorem zaa9 (prog:Program) (w:World) (x:Str) (t:Tok):(zd8 prog w).is (.inr x) (.str x t)=true:=zam9 x t
inductive V where
 |non | bl (b:Bool) |int (i:Int) |str (x:Str) |byt (b:Array UInt8) |flt (b:UInt64) |ref (a:Addr) |ty (n:String)
 deriving DecidableEq
noncomputable def RelV:V→Value→Prop
 |.non,u=>u=Value.none
 |.bl b,u=>u=Value.bool b
 |.int i,u => ∃t,u=Value.int i t
 |.str x,u => ∃t,u=Value.str x t
 |.byt b,u => ∃t,u=Value.bytes b t
 |.flt b,u => ∃t,u=Value.float b t
 |.ref a,u=>u=Value.ref a
 |.ty n,u=>u=Value.type n
abbrev Vals:List V→List Value→Prop:=Paired RelV
theorem Vals.length {xs:List V}{us:List Value} (r:Vals xs us):xs.length=us.length:=Paired.length r
theorem Vals.get:∀ {xs:List V}{us:List Value}{i:Nat}{x:V},Vals xs us→xs[i]?=some x→∃u,us[i]?=some u∧RelV x u
 |_,_,_,_,.nil,e=>by simp at e
 |_,_,0,_,.cons r _,e=>by simp at e;subst e;exact⟨_,rfl,r⟩
 |_,_,i+1,x,.cons _ t,e=>by
  obtain⟨u,h1,h2⟩:=Vals.get (i:=i) (x:=x) t (by simpa using e)
  exact⟨u,by simpa using h1,h2⟩
theorem Vals.set {x:V}{u:Value} (r:RelV x u):∀ {xs:List V}{us:List Value} (i:Nat),Vals xs us→Vals (xs.set i x) (us.set i u)
 |_,_,_,.nil=>.nil
 |_,_,0,.cons _ t=>.cons r t
 |_,_,i+1,.cons q t=>.cons q (Vals.set r i t)
theorem Vals.append:∀ {xs ys:List V}{us ws:List Value},Vals xs us→Vals ys ws→Vals (xs++ys) (us++ws)
 |_,_,_,_,.nil,s=>s
 |_,_,_,_,.cons r t,s=>.cons r (Vals.append t s)
theorem Vals.drop:∀ {xs:List V}{us:List Value} (n:Nat),Vals xs us→Vals (xs.drop n) (us.drop n)
 |_,_,0,r=>r
 |_,_,_+1,.nil=>.nil
 |_,_,n+1,.cons _ t=>Vals.drop n t
def RelO:Option V→Option Value→Prop
 |some v,some u=>RelV v u
 |none,none=>True
 |_,_=>False
def KV {κ:Type}:List (κ×V)→List (κ×Value)→Prop:=Paired fun (p:κ×V) (q:κ×Value)=>p.1=q.1∧RelV p.2 q.2
def kV:Key→V
 |.inl i=>.int i
 |.inr x=>.str x
inductive HO where
 /-- a list -/
 |lst (xs:List V)
 /-- a tuple (never changes) -/
 |tup (xs:List V)
 /-- a dict whose keys are ints and texts;one whose keys are tuples of ints and texts (the empty one is both) -/
 |dK (kvs:List (Key×V)) |dT (kvs:List (List Key×V))
 /-- a set of ints: its members,its size -/
 |set (S:Int→Bool) (n:Nat)
 /-- an instance of the class at C,its dict at dx,its attributes -/
 |ins (C dx:Addr) (fs:List (Str×V))
 /-- the dict of the instance at x -/
 |own (x:Addr)
 /-- the dict of an exception -/
 |xd (fs:List (Str×V))
 /-- a bound method,f of x -/
 |met (f x:Addr)
 /-- a range object lo,lo+1,.. below hi -/
 |rng (lo hi:Int)
 /-- a thing that is known to the object (the script;a dict while a loop walks it): read,never written while it is so -/
 |frz (o:Obj) (u:HO)
 /-- a code object's table -/
 |tbl (q:Str)
 /-- any other thing,by what is true of its one object (a def of one's own: SetO a S n:=HO.ext fun h=>..) -/
 |ext (φ:Heap→Prop)
abbrev Hp:=Addr→Option HO
def upd (H:Hp) (a:Addr) (o:HO):Hp:=fun b=>if b=a then some o else H b
theorem zb0 {H:Hp}{a:Addr}{o:HO}:upd H a o a=some o:=by unfold upd;rw [if_pos rfl]
theorem zb4 {H:Hp}{a b:Addr}{o:HO} (h:b≠a):upd H a o b=H b:=by unfold upd;rw [if_neg h]
theorem ne_of {H:Hp}{a b:Addr}{o u:HO} (h:H a=some o) (h':H b=some u) (d:o≠u):a≠b:=by
 intro e;subst e;rw [h]at h';exact d (Option.some.inj h')
theorem zg2 {H:Hp}{a b:Addr}{o:HO} (h:H a=some o) (h':H b=none):a≠b:=by
 intro e;subst e;rw [h]at h';cases h'
section
variable (P:Program) (w:World)
noncomputable def ObjOk (H:Hp) (h:Heap) (a:Addr):HO→Prop
 |.lst xs=>xs.length≤sizeLine∧∃(its:List Value) (n:Nat),Vals xs its∧h.get? a=some { cls:=.type "list",data:=.seq its.toArray n }
 |.tup xs=>xs.length≤sizeLine∧∃its:List Value,Vals xs its∧IsTup h a its.toArray
 |.dK kvs=>kvs.length≤sizeLine∧(a == sysModules)=false∧∃vs,KV kvs vs∧h.DictOf (zd8 P w) a vs
 |.dT kvs=>kvs.length≤sizeLine∧(a == sysModules)=false∧∃xs:List (List Key×Addr×Value),
   Paired (fun (p:List Key×V) (q:List Key×Addr×Value)=>p.1=q.1∧H q.2.1=some (.tup (p.1.map kV))∧RelV p.2 q.2.2) kvs xs ∧
   ∃o es ep,h.get? a=some o∧o.ExactDict∧o.data=.dict es ep∧es.toList=xs.map (entryOfKey (tupleKind (zd8 P w)))∧(xs.map (·.1)).Nodup
 |.set S n=>h.SetOf (intKind P w) a S n
 |.ins C dx fs=>H dx=some (.own a)∧fs.length≤1000∧dx≠a∧h.get? a=some (zbc3 C dx) ∧
   ∃mA,h.Ns1 dx mA∧(∀f,RelO (fs.lookup f) (mA f))∧PySem.Within mA (fs.map (·.1))
 |.own _ => ∃o,h.get? a=some o
 |.xd fs => ∃mA,h.Ns1 a mA∧∀f,RelO (fs.lookup f) (mA f)
 |.rng lo hi => ∃t u v,h.get? a=some { cls:=.type "range",data:=.fields #[.int lo t,.int hi u,.int 1 v] }
 |.frz o u=>h.get? a=some o∧ObjOk H h a u
 |.tbl q => ∃ps:Array Value,h.get? a=some { cls:=.none,data:=.fields ps }∧TriplesOk ps.toList∧∀pos cv,codeAmong pos ps.toList=some cv→∃(c:Addr) (oc:Obj) (vs:Array Value) (tk:Tok),cv=.ref c∧H c=some (.frz oc (.own 0))∧oc.data=.fields vs∧vs[1]?=some (.str q tk)
 |.met f x=>h.get? a=some (zbb6 (.ref f) (.ref x))
 |.ext φ=>φ h∧(∃o,h.get? a=some o)∧∀h1 h2:Heap,φ h1→(∀o,h1.get? a=some o→h2.get? a=some o)→φ h2
def HOk (H:Hp) (h:Heap):Prop := ∀a o,H a=some o→ObjOk P w H h a o
end
section
variable {P:Program}{w:World}{H H':Hp}{h h':Heap}{a:Addr}{o:HO}
theorem ObjOk.lt (x:ObjOk P w H h a o):a<h.objs.size:=by
 cases o with
 |lst xs=>obtain⟨_,_,_,_,e⟩:=x;exact zat1 e
 |tup xs=>obtain⟨_,_,_,p⟩:=x;exact p.lt
 |dK kvs=>obtain⟨_,_,_,_,o,_,_,e,_⟩:=x;exact zat1 e
 |dT kvs=>obtain⟨_,_,_,_,o,_,_,e,_⟩:=x;exact zat1 e
 |set S n=>obtain⟨o,_,_,_,e,_⟩:=x;exact zat1 e
 |ins C dx fs=>obtain⟨_,_,_,e,_⟩:=x;exact zat1 e
 |own y=>obtain⟨_,e⟩:=x;exact zat1 e
 |xd fs=>obtain⟨_,⟨_,_,_,e,_⟩,_⟩:=x;exact zat1 e
 |rng lo hi=>obtain⟨_,_,_,e⟩:=x;exact zat1 e
 |frz ob u=>obtain⟨e,_⟩:=x;exact zat1 e
 |tbl q=>obtain⟨_,e,_⟩:=x;exact zat1 e
 |met f y=>exact zat1 (show h.get? a=some _ from x)
 |ext φ=>obtain⟨_,⟨_,e⟩,_⟩:=x;exact zat1 e
theorem Paired.mapP {α β:Type}{F G:α→β→Prop}:∀ {l₁:List α}{l₂:List β},Paired F l₁ l₂→(∀a b,F a b→G a b)→Paired G l₁ l₂
 |_,_,.nil,_=>.nil
 |_,_,.cons r t,f=>.cons (f _ _ r) (Paired.mapP t f)
theorem ObjOk.stay (x:ObjOk P w H h a o) (k:∀b u,(b=a∨H b=some (.own a))→h.get? b=some u→h'.get? b=some u)
  (ho:∀b,H b=some (.own a)→H' b=some (.own a)) (ht:∀b xs,H b=some (.tup xs)→H' b=some (.tup xs)) (hz:∀b o u,H b=some (.frz o u)→H' b=some (.frz o u)):ObjOk P w H' h' a o:=by
 induction o with
 |lst xs=>obtain⟨z,its,n,r,e⟩:=x;exact⟨z,its,n,r,k _ _ (.inl rfl) e⟩
 |tup xs=>obtain⟨z,its,r,ob,e,c⟩:=x;exact⟨z,its,r,ob,k _ _ (.inl rfl) e,c⟩
 |dK kvs=>obtain⟨z,y,vs,r,ob,es,ep,e,c⟩:=x;exact⟨z,y,vs,r,ob,es,ep,k _ _ (.inl rfl) e,c⟩
 |dT kvs =>
  obtain⟨z,y,xs,r,ob,es,ep,e,c⟩:=x
  exact⟨z,y,xs,Paired.mapP r fun p q z=>⟨z.1,ht _ _ z.2.1,z.2.2⟩,ob,es,ep,k _ _ (.inl rfl) e,c⟩
 |set S n=>obtain⟨ob,es,ep,t,e,c⟩:=x;exact⟨ob,es,ep,t,k _ _ (.inl rfl) e,c⟩
 |ins C dx fs =>
  obtain⟨d,z,ne,e,mA,⟨od,es,ep,e2,c⟩,r⟩:=x
  exact⟨ho _ d,z,ne,k _ _ (.inl rfl) e,mA,⟨od,es,ep,k _ _ (.inr d) e2,c⟩,r⟩
 |own y=>obtain⟨ob,e⟩:=x;exact⟨ob,k _ _ (.inl rfl) e⟩
 |xd fs=>obtain⟨mA,⟨od,es,ep,e,c⟩,r⟩:=x;exact⟨mA,⟨od,es,ep,k _ _ (.inl rfl) e,c⟩,r⟩
 |rng lo hi=>obtain⟨t,u,v,e⟩:=x;exact⟨t,u,v,k _ _ (.inl rfl) e⟩
 |frz ob u ih=>obtain⟨e,q⟩:=x;exact⟨k _ _ (.inl rfl) e,ih q⟩
 |tbl q=>obtain⟨ps,e,t,r⟩:=x;exact⟨ps,k _ _ (.inl rfl) e,t,fun pos cv z=>let ⟨c,oc,vs,tk,a1,a2,a3⟩:=r pos cv z;⟨c,oc,vs,tk,a1,hz _ _ _ a2,a3⟩⟩
 |met f y =>
  have e:h.get? a=some (zbb6 (.ref f) (.ref y)):=x
  show h'.get? a=some (zbb6 (.ref f) (.ref y))
  exact k a _ (.inl rfl) e
 |ext φ=>obtain⟨p,⟨o,e⟩,st⟩:=x;exact⟨st _ _ p fun o q=>k _ _ (.inl rfl) q,⟨o,k _ _ (.inl rfl) e⟩,st⟩
theorem HOk.lt (x:HOk P w H h) (e:H a=some o):a<h.objs.size:=(x a o e).lt
theorem HOk.fresh (x:HOk P w H h) (e:h.objs.size≤a):H a=none:=by
 cases q:H a with
 |none=>rfl
 |some u=>exact absurd (zas5 (x.lt q) e) (zax5 _)
theorem HOk.kept (x:HOk P w H h) (k:∀b u,h.get? b=some u→h'.get? b=some u):HOk P w H h':=fun a o e =>
 (x a o e).stay (fun b u _ q=>k b u q) (fun _ q=>q) (fun _ _ q=>q) fun _ _ _ q=>q
theorem HOk.laid (x:HOk P w H h) (k:∀b u,h.get? b=some u→h'.get? b=some u) (hp:h.objs.size≤a) (new:ObjOk P w (upd H a o) h' a o):HOk P w (upd H a o) h':=fun b u e=>by
 have hn:=x.fresh hp
 by_cases hb:b=a
 ·subst hb;rw [zb0]at e;cases e;exact new
 ·rw [zb4 hb]at e
  exact (x b u e).stay (fun c v _ q=>k c v q) (fun c q=>by rw [zb4 (zg2 q hn)];exact q) (fun c xs q=>by rw [zb4 (zg2 q hn)];exact q) fun c o u q=>by rw [zb4 (zg2 q hn)];exact q
end
def Rd (H:Hp) (a:Addr) (u:HO):Prop:=H a=some u∨∃o,H a=some (.frz o u)
theorem Rd.ok {P:Program}{w:World}{H:Hp}{h:Heap}{a:Addr}{u:HO} (r:Rd H a u) (x:HOk P w H h):ObjOk P w H h a u:=by
 rcases r with r | ⟨o,r⟩
 ·exact x a u r
 ·obtain⟨_,q⟩:=x a _ r
  exact q
noncomputable def Mut:Option HO→Prop
 |some (.lst _)=>True
 |some (.dK _)=>True
 |some (.dT _)=>True
 |some (.set _ _)=>True
 |some (.ins _ _ _)=>True
 |some (.ext _)=>True
 |_=>False
section
variable {P:Program}{w:World}{H:Hp}{h h':Heap}{x e:Addr}{o':HO}
theorem HOk.write (ok:HOk P w H h) (mu:Mut (H x)) (he:e=x∨H e=some (.own x)) (k:∀b u,b≠e→h.get? b=some u→h'.get? b=some u) (heo:∃u,h'.get? e=some u)
  (new:ObjOk P w (upd H x o') h' x o'):HOk P w (upd H x o') h':=fun b u q=>by
 have nown:∀c y,H c=some (.own y)→c≠x:=fun c y r z=>by subst z;rw [r]at mu;exact mu
 have ntup:∀c xs,H c=some (.tup xs)→c≠x:=fun c xs r z=>by subst z;rw [r]at mu;exact mu
 by_cases hb:b=x
 ·subst hb;rw [zb0]at q;cases q;exact new
 ·rw [zb4 hb]at q
  by_cases hbe:b=e
  ·have q':H b=some (.own x):=by
    rcases he with z | z
    ·exact absurd (hbe.trans z) hb
    ·rw [hbe];exact z
   rw [q]at q';cases q'
   obtain⟨v,hv⟩:=heo
   exact⟨v,by rw [hbe];exact hv⟩
  ·refine (ok b u q).stay (fun c v hc r=>k c v ?_ r) (fun c r=>by rw [zb4 (nown c b r)];exact r) (fun c xs r=>by rw [zb4 (ntup c xs r)];exact r) fun c o u r=>by rw [zb4 (fun z=>by subst z;rw [r]at mu;exact mu)];exact r
   rcases hc with rfl | hc
   ·exact hbe
   ·rintro rfl
    rcases he with z | z
    ·exact nown c b hc z
    ·rw [hc]at z;cases z;exact hb rfl
end
structure Un (fs ex:List Addr) (H H':Hp) (h h':Heap):Prop where
 keep:∀b o,h.get? b=some o→H b=none→b∉fs→b∉ex→h'.get? b=some o
 slot:∀b o,h.get? b=some o→H b=none→b∈fs→b∉ex→∃sl,h'.get? b=some { o with slots:=sl }
 free:∀b o,h.get? b=some o→H b=none→b∉ex→H' b=none
 there:∀b o,h.get? b=some o→b∉ex→∃o',h'.get? b=some o'
 tups:∀b xs,H b=some (.tup xs)→H' b=some (.tup xs)
 frzs:∀b o u,H b=some (.frz o u)→H' b=some (.frz o u)
 tbls:∀b q,H b=some (.tbl q)→H' b=some (.tbl q)
section
variable {fs fs' ex ex':List Addr}{H H1 H2:Hp}{h h1 h2 h':Heap}{a x e:Addr}{o:HO}
theorem Un.any (u:Un fs ex H H1 h h1) {b:Addr}{ob:Obj} (q:h.get? b=some ob) (n:H b=none) (hx:b∉ex):∃sl,h1.get? b=some { ob with slots:=sl }:=by
 by_cases hb:b∈fs
 ·exact u.slot b ob q n hb hx
 ·exact⟨ob.slots,u.keep b ob q n hb hx⟩
theorem Un.trans (a:Un fs ex H H1 h h1) (b:Un fs ex H1 H2 h1 h2):Un fs ex H H2 h h2 where
 keep:=fun c ob q n hc hx=>b.keep c ob (a.keep c ob q n hc hx) (a.free c ob q n hx) hc hx
 slot:=fun c ob q n hc hx=>by
  obtain⟨sl,e1⟩:=a.slot c ob q n hc hx
  obtain⟨sl',e2⟩:=b.slot c _ e1 (a.free c ob q n hx) hc hx
  exact⟨sl',e2⟩
 free:=fun c ob q n hx=>by
  obtain⟨o',e1⟩:=a.there c ob q hx
  exact b.free c o' e1 (a.free c ob q n hx) hx
 there:=fun c ob q hx=>by
  obtain⟨o',e1⟩:=a.there c ob q hx
  exact b.there c o' e1 hx
 tups:=fun c xs q=>b.tups c xs (a.tups c xs q)
 frzs:=fun c ob xs q=>b.frzs c ob xs (a.frzs c ob xs q)
 tbls:=fun c q e=>b.tbls c q (a.tbls c q e)
theorem Un.kept (k:∀b u,h.get? b=some u→h'.get? b=some u):Un fs ex H H h h' :=
 ⟨fun b ob q _ _ _=>k b ob q,fun b ob q _ _ _=>⟨ob.slots,k b ob q⟩,fun _ _ _ n _=>n,fun b ob q _=>⟨ob,k b ob q⟩,fun _ _ q=>q,fun _ _ _ q=>q,fun _ _ q=>q⟩
theorem Un.refl:Un fs ex H H h h:=Un.kept fun _ _ q=>q
theorem Un.laid (k:∀b u,h.get? b=some u→h'.get? b=some u) (hp:h.objs.size≤a) (hn:H a=none):Un fs ex H (upd H a o) h h' where
 keep:=fun b u q _ _ _=>k b u q
 slot:=fun b u q _ _ _=>⟨u.slots,k b u q⟩
 free:=fun b u q n _=>by rw [zb4 (zau2 (zas5 (zat1 q) hp))];exact n
 there:=fun b u q _=>⟨u,k b u q⟩
 tups:=fun b xs q=>by rw [zb4 (zg2 q hn)];exact q
 frzs:=fun b u xs q=>by rw [zb4 (zg2 q hn)];exact q
 tbls:=fun b ps q=>by rw [zb4 (zg2 q hn)];exact q
theorem Un.write (mu:Mut (H x)) (he:e=x∨H e=some (.own x)) (k:∀b u,b≠e→h.get? b=some u→h'.get? b=some u) (heo:∃u,h'.get? e=some u):Un fs ex H (upd H x o) h h':=by
 have hx:∀b,H b=none→b≠x:=fun b n z=>by subst z;rw [n]at mu;exact mu
 have hb:∀b,H b=none→b≠e:=fun b n z=>by
  subst z
  rcases he with r | r
  ·exact hx b n r
  ·rw [n]at r;cases r
 have hm:∀b u,H b=some u → ¬ Mut (some u)→b≠x:=fun b u q nm z=>by subst z;rw [q]at mu;exact nm mu
 refine⟨fun b u q n _ _=>k b u (hb b n) q,fun b u q n _ _=>⟨u.slots,k b u (hb b n) q⟩,fun b u q n _=>by rw [zb4 (hx b n)];exact n,fun b u q _=>?_,
  fun b xs q=>by rw [zb4 (hm b _ q fun z=>z)];exact q,fun b u xs q=>by rw [zb4 (hm b _ q fun z=>z)];exact q,fun b ps q=>by rw [zb4 (hm b _ q fun z=>z)];exact q⟩
 by_cases hbe:b=e
 ·subst hbe;exact heo
 ·exact⟨u,k b u hbe q⟩
end
def trk (h:Heap) (H:Hp):List Addr:=(zat6 h.objs.size).filter fun a=>(H a).isSome
def hidT (h:Heap) (H:Hp):Heap:=PySem.W.hideAll h (trk h H)
theorem zan9 (h:Heap) (H:Hp):(hidT h H).objs.size=h.objs.size:=PySem.W.hideAll_size _ _
theorem zp8 {h:Heap}{H:Hp}{b:Addr}{o:Obj} (e:h.get? b=some o) (n:H b=none):(hidT h H).get? b=some o :=
 PySem.W.hideAll_get _ e fun hm=>by
  have q:(H b).isSome=true:=(zaz1.mp hm).2
  rw [n]at q;simp at q
theorem of_hidT {h:Heap}{H:Hp}{b:Addr}{o:Obj} (e:(hidT h H).get? b=some o):h.get? b=some o∧H b=none:=by
 have e':h.get? b=some o:=PySem.W.of_hideAll (trk h H) e
 refine⟨e',?_⟩
 cases q:H b with
 |none=>rfl
 |some x =>
  have hm:b∈trk h H:=zaz1.mpr ⟨zaz7.mpr (zat1 e'),by simp [q]⟩
  have z:(hidT h H).get? b=none:=PySem.W.hideAll_none (trk h H) hm
  rw [z]at e;cases e
noncomputable def allNews (g h:Heap) (L:Addr):List (Addr×Obj):=(zat6 h.objs.size).filterMap fun a=>if a=L∨(g.get? a).isSome=true then none else (h.get? a).map fun o=>(a,o)
def rest (g h:Heap) (L d:Addr):List (Addr×Obj):=(allNews g h L).filter fun p=>decide (p.1≠d)
end L2
namespace L2
open PySem.Spec
structure BHeap extends Heap where
 tabs:List (Addr×Str)
instance:Coe BHeap Heap:=⟨BHeap.toHeap⟩
structure Mod (K:zaq9) (mg:Str→Option Value) (base:BHeap):Prop where
 kin:K.In base
 glob:base.Ns mainGlobals mg
 blt:∃mb,base.Ns builtinsNs mb∧∀x:Str,x≠"__name__"→mb x=bootBuiltins x
 nolimit:base.NoLimit
 bm:∃(bm:Addr) (ob:Obj),mg "__builtins__"=some (.ref bm)∧bm≠builtinsNs∧base.get? bm=some ob∧ob.cls=.type "module"∧ob.dict=some builtinsNs∧ob.data=.plain
structure Cx where
 prog:Program
 w:World
 K:zaq9
 mg:Str→Option Value
 base:BHeap
 A:Around
 N:List Str
 s₀:zas4
 H₀:Hp
 env:Env
 outer:List Env
 stack:List Env
 ex:List Addr
 fn:Str→Bool
 calm:Bool
 pn:List (Addr×Obj)
 xe:Value→zas4→Prop
def frs (l:List Env):List Addr:=l.filterMap (·.frame)
abbrev Cx.fs (X:Cx):List Addr:=frs X.outer
def Vis (sc:Scope) (x:Str):Prop:=sc.names.lookup x=some .local∨sc.names.lookup x=some .cell∨sc.names.lookup x=some .free
def Loc (sc:Scope) (x:Str):Prop:=sc.names.lookup x=some .local∨sc.names.lookup x=some .cell
noncomputable def Look (env:Env) (h:Heap) (m:Str→Option Value) (x:Str) (u:Value):Prop :=
 (env.kindOf x=some .local∧m x=some u)∨((env.kindOf x=some .cell∨env.kindOf x=some .free)∧∃c,env.cells.lookup x=some c∧h.IsCell c (some u))
structure Cx.Ok (X:Cx):Prop where
 mod:Mod X.K X.mg X.base
 kind:X.env.scope.kind=.function
 glob:X.env.globals=mainGlobals
 blt:X.env.builtins=builtinsNs
 above:X.s₀.heap.objs.size≤X.env.locals
 inj:∀x y c,X.env.cells.lookup x=some c→X.env.cells.lookup y=some c→x=y
 has:∀x,(X.env.kindOf x=some .cell∨X.env.kindOf x=some .free)→∃c,X.env.cells.lookup x=some c
 cab:∀x c,X.fn x=true→X.env.cells.lookup x=some c→X.s₀.heap.objs.size≤c
 hd:X.calm=true→X.A.handled=none
 frames:X.A.frames=some X.stack
 stk:X.stack=X.outer∨(X.stack=X.env::X.outer∧X.env.frame=some X.env.locals)
 exf:∀b∈X.ex,b≠X.env.locals∧∀x c,X.env.cells.lookup x=some c→c≠b
 bs:∀b o,X.base.get? b=some o→X.s₀.heap.get? b=some o∧X.H₀ b=none
 bsz:X.base.objs.size≤X.s₀.heap.objs.size
 noex:∀b o,X.base.get? b=some o→b∉X.ex
 exfs:∀b∈X.ex,b∉X.fs
 funs:X.s₀.heap.FunFrames X.base X.outer
 frf:∀b∈X.fs,X.H₀ b=none
 tabs:∀p∈X.base.tabs,X.H₀ p.1=some (.tbl p.2)
structure Inv (X:Cx) (pins:List (Addr×Obj)) (σ:List (Option V)) (H:Hp) (s:zas4):Prop where
 ok:X.Ok
 os:s.os=X.s₀.os
 bare:AllBare s.gens
 base:Un X.fs X.ex X.H₀ H X.s₀.heap s.heap
 loc:∃m,s.heap.Ns X.env.locals m∧∀(i:Nat) (x:Str) (v:V),X.N[i]?=some x→σ[i]?=some (some v)→Vis X.env.scope x→∃u,RelV v u∧Look X.env s.heap m x u
 cell:∀x c,X.env.cells.lookup x=some c→∃v,s.heap.IsCell c v
 free:H X.env.locals=none
 freeC:∀x c,X.env.cells.lookup x=some c→H c=none
 pin:∀p∈X.pn++pins,s.heap.get? p.1=some p.2∧H p.1=none∧p.1≠X.env.locals∧p.1∉X.fs∧∀v,p.2.data≠.cell v
 hok:HOk X.prog X.w H s.heap
 len:σ.length=X.N.length
section
variable {X:Cx}{pins:List (Addr×Obj)}{σ:List (Option V)}{H H':Hp}{s:zas4}{h':Heap}
theorem Cx.Ok.nofr (ok:X.Ok) {b:Addr}{o:Obj} (e:X.base.get? b=some o):b∉X.fs:=fun hb=>by
 have:=(ok.funs.mem hb).1
 rw [e]at this;cases this
theorem Inv.bs (I:Inv X pins σ H s):∀b o,X.base.get? b=some o→s.heap.get? b=some o∧H b=none:=fun b o e =>
 ⟨I.base.keep b o (I.ok.bs b o e).1 (I.ok.bs b o e).2 (I.ok.nofr e) (I.ok.noex b o e),I.base.free b o (I.ok.bs b o e).1 (I.ok.bs b o e).2 (I.ok.noex b o e)⟩
theorem Inv.bk (I:Inv X pins σ H s):∀b o,X.base.get? b=some o→s.heap.get? b=some o:=fun b o e=>(I.bs b o e).1
theorem Inv.mod (I:Inv X pins σ H s):Mod X.K X.mg X.base:=I.ok.mod
theorem Inv.kIn (I:Inv X pins σ H s):X.K.In s.heap:=I.ok.mod.kin.keeps I.bk
theorem Inv.lt (I:Inv X pins σ H s):X.env.locals<s.heap.objs.size:=let ⟨_,hn,_⟩:=I.loc;hn.lt
theorem Inv.sz (I:Inv X pins σ H s):X.s₀.heap.objs.size≤s.heap.objs.size:=zaw5 I.ok.above (zba6 I.lt)
theorem Inv.nofs (I:Inv X pins σ H s) {a:Addr} (h:s.heap.objs.size≤a):a∉X.fs:=fun hb=>by
 obtain⟨_,o,ho,_⟩:=I.ok.funs.mem hb
 exact absurd (zas5 (zat1 ho) (zaw5 I.sz h)) (zax5 _)
theorem Inv.cne (I:Inv X pins σ H s):∀x c,X.env.cells.lookup x=some c→c≠X.env.locals:=fun x c e z=>by
 obtain⟨v,o,ho,hd⟩:=I.cell x c e
 obtain⟨m,⟨o',es,ep,ho',hd',_⟩,_⟩:=I.loc
 rw [z,ho']at ho;cases ho;rw [hd']at hd;cases hd
theorem Inv.funs (I:Inv X pins σ H s):s.heap.FunFrames X.base X.outer:=by
 have all:∀(l:List Env),(∀b∈frs l,b∈X.fs)→X.s₀.heap.FunFrames X.base l→s.heap.FunFrames X.base l:=by
  intro l
  induction l with
  |nil=>intro _ _;trivial
  |cons env r ih =>
   intro hs hl
   obtain⟨hk,⟨L,o,hf,hn,ho,hd⟩,hr⟩:=hl
   have hL:L∈X.fs:=hs L (by unfold frs;rw [zaz9,hf];exact zar4)
   obtain⟨sl,e⟩:=I.base.slot L o ho (I.ok.frf L hL) hL fun z=>I.ok.exfs L z hL
   exact⟨hk,⟨L,_,hf,hn,e,hd⟩,ih (fun b hb=>hs b (by unfold frs;rw [zaz9,hf];exact zar1 _ hb)) hr⟩
 exact all X.outer (fun _ hb=>hb) I.ok.funs
theorem Inv.stack (I:Inv X pins σ H s):s.heap.FunFrames X.base X.stack:=by
 rcases I.ok.stk with e | ⟨e,hf⟩
 ·rw [e];exact I.funs
 ·rw [e]
  obtain⟨m,hn,_⟩:=I.loc
  refine .cons (by rw [I.ok.kind];decide) hf hn ?_ I.funs
  exact Heap.get?_none_of_le (zaw5 I.ok.bsz I.ok.above)
theorem Inv.stkSub (I:Inv X pins σ H s):∀b∈frs X.stack,b∈X.env.locals::X.fs:=fun b hb=>by
 rcases I.ok.stk with e | ⟨e,hf⟩
 ·rw [e]at hb;exact zar1 _ hb
 ·rw [e]at hb
  unfold frs at hb
  rw [zaz9,hf]at hb
  exact hb
theorem Inv.stkFree (I:Inv X pins σ H s):∀b∈frs X.stack,H b=none:=fun b hb=>by
 rcases zar8.mp (I.stkSub b hb) with e | hb
 ·rw [e];exact I.free
 ·obtain⟨_,o,ho,_⟩:=I.ok.funs.mem hb
  exact I.base.free b o ho (I.ok.frf b hb) fun z=>I.ok.exfs b z hb
theorem Inv.step {g':Array GenState}{t':Nat}{d':Drawn}{ch:List Addr} (I:Inv X pins σ H s)
  (hch:∀b∈ch,(b∈X.ex∨X.s₀.heap.objs.size≤b)∧b≠X.env.locals∧(∀x c,X.env.cells.lookup x=some c→c≠b)∧∀p∈X.pn++pins,p.1≠b)
  (keep:∀b o,b≠X.env.locals→b∉X.fs→b∉ch→s.heap.get? b=some o→H b=none→h'.get? b=some o)
  (slot:∀b o,b≠X.env.locals→b∈X.fs→b∉ch→s.heap.get? b=some o→H b=none→∃sl,h'.get? b=some { o with slots:=sl }) (free:∀b o,b∉ch→s.heap.get? b=some o→H b=none→H' b=none)
  (there:∀b o,b∉ch→s.heap.get? b=some o→∃o',h'.get? b=some o')
  (tups:∀b xs,H b=some (.tup xs)→H' b=some (.tup xs)) (frzs:∀b o u,H b=some (.frz o u)→H' b=some (.frz o u)) (tbls:∀b q,H b=some (.tbl q)→H' b=some (.tbl q))
  (ns:∀m,s.heap.Ns X.env.locals m→h'.Ns X.env.locals m) (hok:HOk X.prog X.w H' h') (hg:AllBare g') :
  Inv X pins σ H' { s with heap:=h',gens:=g',drawn:=d',toks:=t' }:=by
 have neL:∀b o,X.s₀.heap.get? b=some o→b≠X.env.locals:=fun b o e=>zau2 (zas5 (zat1 e) I.ok.above)
 have neC:∀b o,X.s₀.heap.get? b=some o→b∉X.ex→b∉ch:=fun b o e hx hb=>by
  rcases (hch b hb).1 with z | z
  ·exact hx z
  ·exact absurd (zas5 (zat1 e) z) (zax5 _)
 have cellK:∀x c,X.env.cells.lookup x=some c→∀v,s.heap.IsCell c v→h'.IsCell c v:=fun x c e v ⟨o,ho,hd⟩=>by
  have nch:c∉ch:=fun z=>(hch c z).2.2.1 x c e rfl
  by_cases hc:c∈X.fs
  ·obtain⟨sl,q⟩:=slot c o (I.cne x c e) hc nch ho (I.freeC x c e)
   exact⟨_,q,hd⟩
  ·exact⟨o,keep c o (I.cne x c e) hc nch ho (I.freeC x c e),hd⟩
 refine⟨I.ok,I.os,hg,⟨fun b o e n hb hx=>?_,fun b o e n hb hx=>?_,fun b o e n hx=>?_,fun b o e hx=>?_,fun b xs e=>tups b xs (I.base.tups b xs e),fun b o xs e=>frzs b o xs (I.base.frzs b o xs e),fun b ps e=>?_⟩,?_,fun x c e=>?_,?_,fun x c e=>?_,fun p hp=>?_,hok,I.len⟩
 ·exact keep b o (neL b o e) hb (neC b o e hx) (I.base.keep b o e n hb hx) (I.base.free b o e n hx)
 ·obtain⟨sl,e1⟩:=I.base.slot b o e n hb hx
  obtain⟨sl',e2⟩:=slot b _ (neL b o e) hb (neC b o e hx) e1 (I.base.free b o e n hx)
  exact⟨sl',e2⟩
 ·obtain⟨o',e1⟩:=I.base.there b o e hx
  exact free b o' (neC b o e hx) e1 (I.base.free b o e n hx)
 ·obtain⟨o',e1⟩:=I.base.there b o e hx
  exact there b o' (neC b o e hx) e1
 ·exact tbls b _ (I.base.tbls b ps e)
 ·obtain⟨m,hn,hl⟩:=I.loc
  refine⟨m,ns m hn,fun i x v e1 e2 e3=>?_⟩
  obtain⟨u,r,l⟩:=hl i x v e1 e2 e3
  refine⟨u,r,?_⟩
  rcases l with l | ⟨k,c,e,z⟩
  ·exact .inl l
  ·exact .inr ⟨k,c,e,cellK x c e _ z⟩
 ·obtain⟨v,z⟩:=I.cell x c e
  exact⟨v,cellK x c e v z⟩
 ·obtain⟨m,⟨o,_,_,ho,_⟩,_⟩:=I.loc
  exact free _ o (fun z=>(hch _ z).2.1 rfl) ho I.free
 ·obtain⟨v,o,ho,hd⟩:=I.cell x c e
  exact free c o (fun z=>(hch c z).2.2.1 x c e rfl) ho (I.freeC x c e)
 ·obtain⟨e,n,ne,nf,d⟩:=I.pin p hp
  have nch:p.1∉ch:=fun z=>(hch p.1 z).2.2.2 p hp rfl
  exact⟨keep p.1 p.2 ne nf nch e n,free p.1 p.2 nch e n,ne,nf,d⟩
theorem Inv.un {t':Nat} (I:Inv X pins σ H s) (u:Un X.fs [] H H' s.heap h') (hok:HOk X.prog X.w H' h'):Inv X pins σ H' { s with heap:=h',toks:=t' }:=by
 obtain⟨m,⟨o,es,ep,ho,r⟩,_⟩:=id I.loc
 obtain⟨sl,hL⟩:=u.any ho I.free (by simp)
 exact I.step (g':=s.gens) (d':=s.drawn) (ch:=[]) (fun _ z=>nomatch z) (fun b o _ hb _ e n=>u.keep b o e n hb (by simp)) (fun b o _ hb _ e n=>u.slot b o e n hb (by simp)) (fun b o _ e n=>u.free b o e n (by simp)) (fun b o _ e=>u.there b o e (by simp)) u.tups u.frzs u.tbls (fun m' hm=>by
  obtain⟨o',es',ep',ho',r'⟩:=hm
  rw [ho]at ho';cases ho'
  exact⟨_,es',ep',hL,r'⟩) hok I.bare
theorem Inv.call {g':Array GenState}{t':Nat}{d':Drawn}{ch:List Addr} (I:Inv X pins σ H s) (u:Un (frs X.stack) ch H H' s.heap h') (hok:HOk X.prog X.w H' h') (hg:AllBare g')
  (hch:∀b∈ch,(b∈X.ex∨X.s₀.heap.objs.size≤b)∧b≠X.env.locals∧(∀x c,X.env.cells.lookup x=some c→c≠b)∧∀p∈X.pn++pins,p.1≠b) :
  Inv X pins σ H' { s with heap:=h',gens:=g',drawn:=d',toks:=t' }:=by
 obtain⟨m,⟨o,es,ep,ho,r⟩,_⟩:=id I.loc
 obtain⟨sl,hL⟩:=u.any ho I.free fun z=>(hch _ z).2.1 rfl
 exact I.step (ch:=ch) hch (fun b o hL hb hc e n=>u.keep b o e n (fun z=>(zar8.mp (I.stkSub b z)).elim hL hb) hc) (fun b o _ _ hc e n=>u.any e n hc) (fun b o hc e n=>u.free b o e n hc) (fun b o hc e=>u.there b o e hc) u.tups u.frzs u.tbls (fun m' hm=>by
  obtain⟨o',es',ep',ho',r'⟩:=hm
  rw [ho]at ho';cases ho'
  exact⟨_,es',ep',hL,r'⟩) hok hg
theorem Inv.turned {t':Nat}{it:Addr} (I:Inv X pins σ H s) (k:∀b o,b≠it→s.heap.get? b=some o→h'.get? b=some o) (hn:H it=none) (hL:it≠X.env.locals)
  (h1:it∈X.ex∨X.s₀.heap.objs.size≤it) (h2:∀x c,X.env.cells.lookup x=some c→c≠it) (h3:∀p∈X.pn++pins,p.1≠it):Inv X pins σ H { s with heap:=h',toks:=t' }:=by
 have nit:∀b u,H b=some u→b≠it:=fun b u e z=>by rw [z,hn]at e;cases e
 refine I.step (g':=s.gens) (d':=s.drawn) (ch:=[it]) (fun b hb=>?_) (fun b o _ _ hc e _=>k b o (fun z=>hc (by simp [z])) e) (fun b o _ _ hc e _=>⟨o.slots,k b o (fun z=>hc (by simp [z])) e⟩) (fun _ _ _ _ n=>n)
  (fun b o hc e=>⟨o,k b o (fun z=>hc (by simp [z])) e⟩) (fun _ _ e=>e) (fun _ _ _ e=>e) (fun _ _ e=>e) (fun m hm=>?_) (fun b u e=>?_) I.bare
 ·have e:b=it:=by simpa using hb
  subst e
  exact⟨h1,hL,h2,h3⟩
 ·obtain⟨o,es,ep,ho,r⟩:=hm
  exact⟨o,es,ep,k _ o (Ne.symm hL) ho,r⟩
 ·refine (I.hok b u e).stay (fun c v hc q=>k c v ?_ q) (fun _ q=>q) (fun _ _ q=>q) fun _ _ _ q=>q
  rcases hc with z | z
  ·rw [z];exact nit b u e
  ·exact nit c _ z
theorem Inv.tok (I:Inv X pins σ H s) (t:Nat):Inv X pins σ H { s with toks:=t }:=I.un (h':=s.heap) (t':=t) Un.refl I.hok
theorem Inv.kept {t':Nat} (I:Inv X pins σ H s) (k:∀b u,s.heap.get? b=some u→h'.get? b=some u):Inv X pins σ H { s with heap:=h',toks:=t' }:=I.un (Un.kept k) (I.hok.kept k)
theorem Inv.laid {a:Addr}{o:HO}{t':Nat} (I:Inv X pins σ H s) (k:∀b u,s.heap.get? b=some u→h'.get? b=some u) (hp:s.heap.objs.size≤a) (new:ObjOk X.prog X.w (upd H a o) h' a o) :
  Inv X pins σ (upd H a o) { s with heap:=h',toks:=t' }:=I.un (Un.laid k hp (I.hok.fresh hp)) (I.hok.laid k hp new)
theorem Inv.write {x e:Addr}{o:HO}{t':Nat} (I:Inv X pins σ H s) (mu:Mut (H x)) (he:e=x∨H e=some (.own x)) (k:∀b u,b≠e→s.heap.get? b=some u→h'.get? b=some u) (heo:∃u,h'.get? e=some u)
  (new:ObjOk X.prog X.w (upd H x o) h' x o):Inv X pins σ (upd H x o) { s with heap:=h',toks:=t' }:=I.un (Un.write mu he k heo) (I.hok.write mu he k heo new)
theorem Inv.pins_of {pins':List (Addr×Obj)} (I:Inv X pins σ H s) (h:∀p∈pins',s.heap.get? p.1=some p.2∧H p.1=none∧p.1≠X.env.locals∧p.1∉X.fs∧∀v,p.2.data≠.cell v):Inv X pins' σ H s :=
 ⟨I.ok,I.os,I.bare,I.base,I.loc,I.cell,I.free,I.freeC,fun p hp=>(zar3.mp hp).elim (fun z=>I.pin p (zar0 _ z)) (h p),I.hok,I.len⟩
theorem zae9 {N:List Str} (hN:N.Nodup) {i j:Nat}{x:Str} (a:N[i]?=some x) (b:N[j]?=some x):i=j:=by
 obtain⟨h1,e1⟩:=zav6.mp a
 obtain⟨h2,e2⟩:=zav6.mp b
 exact (List.getElem_inj hN).mp (e1.trans e2.symm)
theorem zv8 {M:Model}{A:Around}{E:Value→zas4→Prop}{i:Nat}{x:Str}{v:V}{u:Value}{Q:Unit→zas4→Prop} (I:Inv X pins σ H s) (hN:X.N.Nodup) (hi:X.N[i]?=some x) (hx:Loc X.env.scope x) (r:RelV v u)
  (h:∀s',Inv X pins (σ.set i (some v)) H s'→(∃a,Heap.SameBut a s.heap s'.heap∧(a=X.env.locals∨X.env.cells.lookup x=some a))→Q () s') (hf:X.fn x=true∨X.env.scope.names.lookup x=some .local:=by first | exact .inl rfl | exact .inr rfl | assumption):wpAny M A (storeName X.env x u) Q E s:=by
 obtain⟨m,hn,hl⟩:=id I.loc
 have hcls:(X.env.scope.kind == .class||(X.env.scope.kind == .module&&X.env.locals != X.env.globals))=false:=by rw [I.ok.kind];rfl
 have hiσ:i<σ.length:=by rw [I.len];exact (zav6.mp hi).1
 have cne:=I.cne
 have tracked:∀ {a:Addr}{h':Heap},(∃o,s.heap.get? a=some o∧H a=none)→Heap.SameBut a s.heap h'→HOk X.prog X.w H h':=fun {a h'} ha hs b ob e=>by
  obtain⟨_,_,hfree⟩:=ha
  refine (I.hok b ob e).stay (fun c w' hc q=>(hs.2 c ?_).trans q) (fun _ q=>q) (fun _ _ q=>q) fun _ _ _ q=>q
  rintro rfl
  rcases hc with rfl | hc
  ·rw [hfree]at e;cases e
  ·rw [hfree]at hc;cases hc
 rcases hx with hk | hk
 ·refine wpAny_storeName_local hk hn (fun h' hn' hs=>?_) hcls
  obtain⟨oL,_,_,hoL,_⟩:=id hn
  refine h _ ⟨I.ok,I.os,I.bare,⟨fun b o e n hb hx=>?_,fun b o e n hb hx=>?_,I.base.free,fun b o e hx=>?_,I.base.tups,I.base.frzs,I.base.tbls⟩,⟨_,hn',fun j y v' e1 e2 e3=>?_⟩,fun y c e=>?_,I.free,I.freeC,fun p hp=>?_,tracked ⟨oL,hoL,I.free⟩ hs,by simpa using I.len⟩ ⟨_,hs,.inl rfl⟩
  ·exact (hs.2 b (zau2 (zas5 (zat1 e) I.ok.above))).trans (I.base.keep b o e n hb hx)
  ·obtain⟨sl,e1⟩:=I.base.slot b o e n hb hx
   exact⟨sl,(hs.2 b (zau2 (zas5 (zat1 e) I.ok.above))).trans e1⟩
  ·obtain⟨o',e1⟩:=I.base.there b o e hx
   exact⟨o',(hs.2 b (zau2 (zas5 (zat1 e) I.ok.above))).trans e1⟩
  ·by_cases hj:j=i
   ·subst hj
    rw [hi]at e1;cases e1
    rw [zax6 hiσ]at e2
    cases e2
    exact⟨u,r,.inl ⟨hk,by simp⟩⟩
   ·rw [zax1 (Ne.symm hj)]at e2
    obtain⟨u',r',q⟩:=hl j y v' e1 e2 e3
    refine⟨u',r',?_⟩
    rcases q with ⟨k,e⟩ | ⟨k,c,e,z⟩
    ·refine .inl ⟨k,?_⟩
     have:y≠x:=fun e=>hj (zae9 hN e1 (e ▸ hi))
     simp [this,e]
    ·exact .inr ⟨k,c,e,z.sameBut hs (cne y c e)⟩
  ·obtain⟨w',z⟩:=I.cell y c e
   exact⟨w',z.sameBut hs (cne y c e)⟩
  ·obtain⟨e,n,ne,nf,d⟩:=I.pin p hp
   exact⟨(hs.2 p.1 ne).trans e,n,ne,nf,d⟩
 ·have hfn:X.fn x=true:=by
   rcases hf with z | z
   ·exact z
   ·rw [z]at hk;cases hk
  obtain⟨c,hc⟩:=I.ok.has x (.inl hk)
  obtain⟨w',z⟩:=I.cell x c hc
  refine wpAny_storeName_cell I.ok.kind hk hc z (fun h' hc' hs=>?_)
  obtain⟨oc,hoc,hocd⟩:=id z
  refine h { s with heap:=h' } ⟨I.ok,I.os,I.bare,⟨fun b o e n hb hx=>?_,fun b o e n hb hx=>?_,I.base.free,fun b o e hx=>?_,I.base.tups,I.base.frzs,I.base.tbls⟩,⟨m,hn.sameBut hs (Ne.symm (cne x c hc)),fun j y v' e1 e2 e3=>?_⟩,fun y c' e=>?_,I.free,I.freeC,fun p hp=>?_,tracked ⟨oc,hoc,I.freeC x c hc⟩ hs,by simpa using I.len⟩ ⟨c,hs,.inr hc⟩
  ·exact (hs.2 b (zau2 (zas5 (zat1 e) (I.ok.cab x c hfn hc)))).trans (I.base.keep b o e n hb hx)
  ·obtain⟨sl,e1⟩:=I.base.slot b o e n hb hx
   exact⟨sl,(hs.2 b (zau2 (zas5 (zat1 e) (I.ok.cab x c hfn hc)))).trans e1⟩
  ·obtain⟨o',e1⟩:=I.base.there b o e hx
   exact⟨o',(hs.2 b (zau2 (zas5 (zat1 e) (I.ok.cab x c hfn hc)))).trans e1⟩
  ·by_cases hj:j=i
   ·subst hj
    rw [hi]at e1;cases e1
    rw [zax6 hiσ]at e2
    cases e2
    exact⟨u,r,.inr ⟨.inl hk,c,hc,hc'⟩⟩
   ·rw [zax1 (Ne.symm hj)]at e2
    obtain⟨u',r',q⟩:=hl j y v' e1 e2 e3
    refine⟨u',r',?_⟩
    rcases q with q | ⟨k,c',e,z'⟩
    ·exact .inl q
    ·refine .inr ⟨k,c',e,z'.sameBut hs ?_⟩
     rintro rfl
     exact hj (zae9 hN e1 (I.ok.inj _ _ _ e hc ▸ hi))
  ·by_cases hcc:c'=c
   ·subst hcc;exact⟨_,hc'⟩
   ·obtain⟨w2,z2⟩:=I.cell y c' e
    exact⟨w2,z2.sameBut hs hcc⟩
  ·obtain⟨e,n,ne,nf,d⟩:=I.pin p hp
   refine⟨(hs.2 p.1 ?_).trans e,n,ne,nf,d⟩
   intro q
   rw [q,hoc]at e
   have q':oc=p.2:=Option.some.inj e
   exact d w' (by rw [← q'];exact hocd)
theorem zp5 {M:Model}{A:Around}{E:Value→zas4→Prop}{i:Nat}{x:Str}{v:V}{u:Value}{Q:Unit→zas4→Prop} (I:Inv X pins σ H s) (hN:X.N.Nodup) (hi:X.N[i]?=some x) (hx:Loc X.env.scope x) (r:RelV v u)
  (h:∀s',Inv X pins (σ.set i (some v)) H s'→Q () s') (hf:X.fn x=true∨X.env.scope.names.lookup x=some .local:=by first | exact .inl rfl | exact .inr rfl | assumption):wpAny M A (storeName X.env x u) Q E s :=
 zv8 I hN hi hx r (fun s' I' _=>h s' I') hf
end
abbrev XK:=Value→Option Addr→Hp→Prop
abbrev St:=List (Option V)
abbrev VK:=V→Hp→Prop
abbrev TE:=St→Hp→VK→Prop
abbrev TT:=St→Hp→(Bool→Hp→Prop)→Prop
abbrev TA:=St→Hp→(List V→Hp→Prop)→Prop
structure Ends where
 nx:St→Hp→Prop
 rt:VK
 bk:St→Hp→Prop:=fun _ _=>False
 ct:St→Hp→Prop:=fun _ _=>False
abbrev TS:=Ends→St→Hp→Prop
def EP (X:Cx) (pins:List (Addr×Obj)) (σ:St) (Q:VK) (u:Value) (s':zas4):Prop := ∃v H',Inv X pins σ H' s'∧RelV v u∧Q v H'
def TP (X:Cx) (pins:List (Addr×Obj)) (σ:St) (Q:Bool→Hp→Prop) (b:Bool) (s':zas4):Prop := ∃H',Inv X pins σ H' s'∧Q b H'
noncomputable def AP (X:Cx) (pins:List (Addr×Obj)) (σ:St) (Q:List V→Hp→Prop) (us:List Value) (s':zas4):Prop := ∃vs H',Inv X pins σ H' s'∧Vals vs us∧Q vs H'
noncomputable def SP (X:Cx) (pins:List (Addr×Obj)) (D:Ends) (f:Flow) (s':zas4):Prop :=
 match f with
 |.next => ∃σ' H',Inv X pins σ' H' s'∧D.nx σ' H'
 |.brk => ∃σ' H',Inv X pins σ' H' s'∧D.bk σ' H'
 |.cont => ∃σ' H',Inv X pins σ' H' s'∧D.ct σ' H'
 |.ret u => ∃v σ' H',Inv X pins σ' H' s'∧RelV v u∧D.rt v H'
noncomputable def PE (X:Cx) (e:Expr) (t:TE):Prop :=
 ∀(pins:List (Addr×Obj)) (s:zas4) (σ:St) (H:Hp) (Q:VK),Inv X pins σ H s→t σ H Q→wpAny (model X.prog X.w) X.A (eval e X.env) (EP X pins σ Q) X.xe s
noncomputable def PT (X:Cx) (e:Expr) (t:TT):Prop :=
 ∀(pins:List (Addr×Obj)) (s:zas4) (σ:St) (H:Hp) (Q:Bool→Hp→Prop),Inv X pins σ H s→t σ H Q→wpAny (model X.prog X.w) X.A (isTrue e X.env (eval e X.env)) (TP X pins σ Q) X.xe s
noncomputable def PW (X:Cx) (e:Expr) (t:TT):Prop :=
 ∀(whole:Sem Value) (pins:List (Addr×Obj)) (s:zas4) (σ:St) (H:Hp) (Q:Bool→Hp→Prop),Inv X pins σ H s→t σ H Q→wpAny (model X.prog X.w) X.A (isTrue e X.env whole) (TP X pins σ Q) X.xe s
theorem PW.pt {X:Cx}{e:Expr}{t:TT} (h:PW X e t):PT X e t:=h _
noncomputable def PA (X:Cx) (es:List Expr) (t:TA):Prop :=
 ∀(pos:Pos) (pins:List (Addr×Obj)) (s:zas4) (σ:St) (H:Hp) (Q:List V→Hp→Prop),Inv X pins σ H s→t σ H Q→wpAny (model X.prog X.w) X.A (spliced (zay7 pos (zat2 es X.env))) (AP X pins σ Q) X.xe s
noncomputable def PS (X:Cx) (st:Stmt) (t:TS):Prop :=
 ∀(pins:List (Addr×Obj)) (s:zas4) (σ:St) (H:Hp) (D:Ends),Inv X pins σ H s→t D σ H→wpAny (model X.prog X.w) X.A (exec st X.env) (SP X pins D) X.xe s
noncomputable def PSs (X:Cx) (st:List Stmt) (t:TS):Prop :=
 ∀(pins:List (Addr×Obj)) (s:zas4) (σ:St) (H:Hp) (D:Ends),Inv X pins σ H s→t D σ H→wpAny (model X.prog X.w) X.A (execs st X.env) (SP X pins D) X.xe s
theorem thn {α:Type}{t:Sem α}{Q Q':α→zas4→Prop}{M:Model}{A:Around}{E:Value→zas4→Prop}{s:zas4} (h:wpAny M A t Q E s) (hQ:∀a s,Q a s→Q' a s):wpAny M A t Q' E s:=wpAny_mono h hQ fun _ _ x=>x
end L2
namespace L2
open PySem.Spec
section
variable {X:Cx}
theorem bin {a b:Expr}{ta tb:TE} (ha:PE X a ta) (hb:PE X b tb) {pins:List (Addr×Obj)}{s:zas4}{σ:St}{H:Hp}{R:V→V→Hp→Prop} (I:Inv X pins σ H s) (h:ta σ H fun x H1=>tb σ H1 fun y H2=>R x y H2)
  {α:Type}{Q:α→zas4→Prop}{f:Value→Value→Sem α}
  (hf:∀v u s2 x y H2,Inv X pins σ H2 s2→RelV x v→RelV y u→R x y H2→wpAny (model X.prog X.w) X.A (f v u) Q X.xe s2) :
  wpAny (model X.prog X.w) X.A (eval a X.env) (fun v s₁=>wpAny (model X.prog X.w) X.A (eval b X.env) (fun u s₂=>wpAny (model X.prog X.w) X.A (f v u) Q X.xe s₂) X.xe s₁) X.xe s:=by
 refine thn (ha pins s σ H _ I h) fun v s1 ⟨x,H1,I1,r1,q1⟩=>?_
 refine thn (hb pins s1 σ H1 _ I1 q1) fun u s2 ⟨y,H2,I2,r2,q2⟩=>?_
 exact hf v u s2 x y H2 I2 r1 r2 q2
def tVar (i:Nat):TE:=fun σ H Q => ∃v,σ[i]?=some (some v)∧Q v H
def tC (v:V):TE:=fun _ H Q=>Q v H
theorem zj6 {i:Nat}{x:Str}{pos:Pos} (hN:X.N[i]?=some x) (hv:Vis X.env.scope x) (hd:(x ==("__debug__":Str))=false:=by decide) (hcd:(x ==("__classdict__":Str))=false:=by decide):PE X (.Name x pos) (tVar i):=by
 intro pins s σ H Q I h
 obtain⟨v,e,h⟩:=h
 obtain⟨m,hn,hl⟩:=I.loc
 obtain⟨u,r,l⟩:=hl i x v hN e hv
 have fin:EP X pins σ Q u s:=⟨v,H,I,r,h⟩
 rcases l with ⟨hk,hm⟩ | ⟨hk,c,hc,hcell⟩
 ·exact wpAny_Name (wpAny_loadName_local I.ok.kind hk hn hm fin) hd
 ·rcases hk with hk | hk
  ·exact wpAny_Name (wpAny_loadName_cell I.ok.kind hk hc hcell fin) hd
  ·exact wpAny_Name (wpAny_loadName_free I.ok.kind hk hc hcell fin hcd) hd
theorem pe_int {i j pos}:PE X (.Constant (.int i) j pos) (tC (.int i)):=fun _ _ _ H _ I h=>wpAny_Constant_int ⟨.int i,H,I.tok _,⟨_,rfl⟩,h⟩
theorem pe_bl {b j pos}:PE X (.Constant (.bool b) j pos) (tC (.bl b)):=fun _ _ _ H _ I h=>Constant_bool ⟨.bl b,H,I,rfl,h⟩
def Gl (X:Cx) (x:Str):Prop:=X.env.kindOf x=some .globalImplicit
theorem ld_glob {E:Value→zas4→Prop}{pins:List (Addr×Obj)}{s:zas4}{σ:St}{H:Hp}{x:Str}{u:Value}{pos:Pos}{Q:Value→zas4→Prop} (I:Inv X pins σ H s) (hg:Gl X x) (hm:X.mg x=some u) (h:Q u s)
  (hd:(x ==("__debug__":Str))=false:=by decide):wpAny (model X.prog X.w) X.A (eval (.Name x pos) X.env) Q E s :=
 Calls.Name_function_global I.ok.kind hg (Calls.loadGlobal_global (by rw [I.ok.glob];exact I.mod.glob.keeps I.bk) hm h) hd
theorem zo9 {E:Value→zas4→Prop}{pins:List (Addr×Obj)}{s:zas4}{σ:St}{H:Hp}{x:Str}{u:Value}{pos:Pos}{Q:Value→zas4→Prop} (I:Inv X pins σ H s) (hg:Gl X x) (hm:X.mg x=none) (hv:bootBuiltins x=some u) (h:Q u s)
  (hn:x≠"__name__":=by decide) (hd:(x ==("__debug__":Str))=false:=by decide):wpAny (model X.prog X.w) X.A (eval (.Name x pos) X.env) Q E s:=by
 obtain⟨mb,h1,h2⟩:=I.mod.blt
 exact Calls.Name_function_global I.ok.kind hg (Calls.loadGlobal_builtin (by rw [I.ok.glob];exact I.mod.glob.keeps I.bk) hm (by rw [I.ok.blt];exact h1.keeps I.bk) ((h2 x hn).trans hv) h) hd
theorem pe_bltn {x:Str}{v:V}{u:Value}{pos:Pos} (hg:Gl X x) (hm:X.mg x=none) (hv:bootBuiltins x=some u) (r:RelV v u) (hn:x≠"__name__":=by decide) (hd:(x ==("__debug__":Str))=false:=by decide):PE X (.Name x pos) (tC v) :=
 fun _ _ _ H _ I h=>zo9 I hg hm hv ⟨v,H,I,r,h⟩ hn hd
variable {a b:Expr}{ta tb:TE}{pos:Pos}
variable {tA tB':TT}{rest:List Expr}
def tAnd (t u:TT):TT:=fun σ H Q=>t σ H fun c H1=>if c=true then u σ H1 Q else Q false H1
def tOr (t u:TT):TT:=fun σ H Q=>t σ H fun c H1=>if c=true then Q true H1 else u σ H1 Q
def tNot (t:TT):TT:=fun σ H Q=>t σ H fun c H1=>Q (!c) H1
theorem pw_and1 (ha:PT X a tA):PW X (.BoolOp .And [a] pos) tA:=by
 intro wh pins s σ H Q I h
 refine isTrue_and (thn (ha pins s σ H Q I h) fun c s1 e=>?_)
 cases c with
 |true=>exact isTrue_and_nil e
 |false=>exact e
theorem pw_or1 (ha:PT X a tA):PW X (.BoolOp .Or [a] pos) tA:=by
 intro wh pins s σ H Q I h
 refine isTrue_or (thn (ha pins s σ H Q I h) fun c s1 e=>?_)
 cases c with
 |false=>exact isTrue_or_nil e
 |true=>exact e
theorem pw_and (ha:PT X a tA) (hb:PW X (.BoolOp .And (b::rest) pos) tB'):PW X (.BoolOp .And (a::b::rest) pos) (tAnd tA tB'):=by
 intro wh pins s σ H Q I h
 refine isTrue_and (thn (ha pins s σ H _ I h) fun c s1 ⟨H1,I1,q1⟩=>?_)
 cases c with
 |true=>exact hb wh pins s1 σ H1 Q I1 q1
 |false=>exact⟨H1,I1,q1⟩
theorem pw_or (ha:PT X a tA) (hb:PW X (.BoolOp .Or (b::rest) pos) tB'):PW X (.BoolOp .Or (a::b::rest) pos) (tOr tA tB'):=by
 intro wh pins s σ H Q I h
 refine isTrue_or (thn (ha pins s σ H _ I h) fun c s1 ⟨H1,I1,q1⟩=>?_)
 cases c with
 |true=>exact⟨H1,I1,q1⟩
 |false=>exact hb wh pins s1 σ H1 Q I1 q1
theorem pt_not (ha:PT X a tA):PT X (.UnaryOp .Not a pos) (tNot tA):=by
 intro pins s σ H Q I h
 exact isTrue_not (ha pins s σ H (fun c H1=>Q (!c) H1) I h)
def tAndV (ta tb:TE):TE:=fun σ H Q=>ta σ H fun x H1 => ∃c,x=.bl c∧if c=true then tb σ H1 Q else Q (.bl false) H1
theorem pe_one {op}{t:TE} (h:PE X a t):PE X (.BoolOp op [a] pos) t:=fun pins s σ H Q I hw=>BoolOp_one (h pins s σ H Q I hw)
theorem pe_and (ha:PE X a ta) (hb:PE X (.BoolOp .And (b::rest) pos) tb):PE X (.BoolOp .And (a::b::rest) pos) (tAndV ta tb):=by
 intro pins s σ H Q I h
 refine BoolOp_and (thn (ha pins s σ H _ I h) fun v s1 ⟨x,H1,I1,r1,q1⟩=>?_)
 obtain⟨c,rfl,q1⟩:=q1
 cases r1
 refine wpAny_truthy_bool ?_
 cases c with
 |true=>exact hb pins s1 σ H1 Q I1 q1
 |false=>exact⟨.bl false,H1,I1,rfl,q1⟩
end
end L2
namespace L2
open PySem.Spec
noncomputable def SqL (K:zaq9) (H:Hp) (a:Addr) (xs:List V):Prop :=
 Rd H a (.lst xs) ∨
  ∃(o:Obj) (its:Array Value) (n:Nat),K.lookup a=some o∧o.cls=.type "list"∧o.dict=none∧o.data=.seq its n∧its.size≤sizeLine∧Vals xs its.toList
noncomputable def SqT (K:zaq9) (H:Hp) (a:Addr) (xs:List V):Prop :=
 Rd H a (.tup xs) ∨
  ∃(o:Obj) (its:Array Value) (n:Nat),K.lookup a=some o∧o.cls=.type "tuple"∧o.data=.seq its n∧its.size≤sizeLine∧Vals xs its.toList
noncomputable def absV:Value→Option V
 |.none=>some .non
 |.bool b=>some (.bl b)
 |.int i _=>some (.int i)
 |.str x _=>some (.str x)
 |.bytes b _=>some (.byt b)
 |.float b _=>some (.flt b)
 |.ref a=>some (.ref a)
 |.type n=>some (.ty n)
 |_=>none
theorem RelV.abs {x:V}{u:Value} (r:RelV x u):absV u=some x:=by
 cases x with
 |non=>cases r;rfl
 |bl _=>cases r;rfl
 |int _=>obtain⟨t,rfl⟩:=r;rfl
 |str _=>obtain⟨t,rfl⟩:=r;rfl
 |byt _=>obtain⟨t,rfl⟩:=r;rfl
 |flt _=>obtain⟨t,rfl⟩:=r;rfl
 |ref _=>cases r;rfl
 |ty _=>cases r;rfl
theorem RelV.inj {x y:V}{u:Value} (r:RelV x u) (q:RelV y u):x=y:=Option.some.inj (r.abs.symm.trans q.abs)
theorem Vals.inj:∀ {xs ys:List V}{us:List Value},Vals xs us→Vals ys us→xs=ys
 |_,_,_,.nil,.nil=>rfl
 |_,_,_,.cons r t,.cons r' t'=>by rw [r.inj r',Vals.inj t t']
section
variable {X:Cx}{pins:List (Addr×Obj)}{σ:St}{H:Hp}{s:zas4}{a:Addr}{xs ys:List V}
theorem SqL.of {K:zaq9} (h:H a=some (.lst xs)):SqL K H a xs:=.inl (.inl h)
theorem SqT.of {K:zaq9} (h:H a=some (.tup xs)):SqT K H a xs:=.inl (.inl h)
theorem Inv.list (I:Inv X pins σ H s) (h:SqL X.K H a xs):∃its:List Value,Vals xs its∧PlainL s.heap a its.toArray∧xs.length≤sizeLine:=by
 rcases h with h | ⟨o,its,n,hk,hc,hd,hs,hz,r⟩
 ·obtain⟨z,its,n,r,e⟩:=h.ok I.hok
  exact⟨its,r,⟨_,n,e,rfl,rfl,rfl⟩,z⟩
 ·refine⟨its.toList,r,⟨o,n,I.kIn a o hk,hc,hd,by simpa using hs⟩,?_⟩
  have e:=r.length
  simp only [zbd4]at e
  lia
theorem Inv.tuple (I:Inv X pins σ H s) (h:SqT X.K H a xs):∃its:List Value,Vals xs its∧IsTup s.heap a its.toArray∧xs.length≤sizeLine:=by
 rcases h with h | ⟨o,its,n,hk,hc,hs,hz,r⟩
 ·obtain⟨z,its,r,p⟩:=h.ok I.hok
  exact⟨its,r,p,z⟩
 ·refine⟨its.toList,r,⟨o,I.kIn a o hk,hc,n,by simpa using hs⟩,?_⟩
  have e:=r.length
  simp only [zbd4]at e
  lia
theorem Inv.list_inj (I:Inv X pins σ H s) (h:SqL X.K H a xs) (h':SqL X.K H a ys):xs=ys:=by
 obtain⟨its,r,⟨o,n,e,_,_,d⟩,_⟩:=I.list h
 obtain⟨its',r',⟨o',n',e',_,_,d'⟩,_⟩:=I.list h'
 rw [e]at e';cases e'
 rw [d]at d'
 injection d' with d1 _
 have:its=its':=by simpa using congrArg Array.toList d1
 subst this
 exact r.inj r'
theorem Inv.tuple_inj (I:Inv X pins σ H s) (h:SqT X.K H a xs) (h':SqT X.K H a ys):xs=ys:=by
 obtain⟨its,r,⟨o,e,_,n,d⟩,_⟩:=I.tuple h
 obtain⟨its',r',⟨o',e',_,n',d'⟩,_⟩:=I.tuple h'
 rw [e]at e';cases e'
 rw [d]at d'
 injection d' with d1 _
 have:its=its':=by simpa using congrArg Array.toList d1
 subst this
 exact r.inj r'
end
abbrev Cx.wish (X:Cx) (E:Value→zas4→Prop):Cx:={ X with xe:=E }
abbrev Cx.nox (X:Cx):Cx:=X.wish fun _ _=>False
theorem Cx.Ok.wish {X:Cx} (ok:X.Ok) (E:Value→zas4→Prop):(X.wish E).Ok :=
 ⟨ok.mod,ok.kind,ok.glob,ok.blt,ok.above,ok.inj,ok.has,ok.cab,ok.hd,ok.frames,ok.stk,ok.exf,ok.bs,ok.bsz,ok.noex,ok.exfs,ok.funs,ok.frf,ok.tabs⟩
theorem Cx.Ok.unwish {X:Cx}{E:Value→zas4→Prop} (ok:(X.wish E).Ok):X.Ok :=
 ⟨ok.mod,ok.kind,ok.glob,ok.blt,ok.above,ok.inj,ok.has,ok.cab,ok.hd,ok.frames,ok.stk,ok.exf,ok.bs,ok.bsz,ok.noex,ok.exfs,ok.funs,ok.frf,ok.tabs⟩
section
variable {X:Cx}{pins:List (Addr×Obj)}{σ:St}{H:Hp}{s:zas4}{E:Value→zas4→Prop}
theorem Inv.wish (I:Inv X pins σ H s) (E:Value→zas4→Prop):Inv (X.wish E) pins σ H s:=⟨I.ok.wish E,I.os,I.bare,I.base,I.loc,I.cell,I.free,I.freeC,I.pin,I.hok,I.len⟩
theorem Inv.unwish (I:Inv (X.wish E) pins σ H s):Inv X pins σ H s:=⟨I.ok.unwish,I.os,I.bare,I.base,I.loc,I.cell,I.free,I.freeC,I.pin,I.hok,I.len⟩
theorem SP.unwish {D:Ends}{f:Flow}{s':zas4} (h:SP (X.wish E) pins D f s'):SP X pins D f s':=by
 cases f with
 |next=>obtain⟨σ',H',I,q⟩:=h;exact⟨σ',H',I.unwish,q⟩
 |brk=>obtain⟨σ',H',I,q⟩:=h;exact⟨σ',H',I.unwish,q⟩
 |cont=>obtain⟨σ',H',I,q⟩:=h;exact⟨σ',H',I.unwish,q⟩
 |ret u=>obtain⟨v,σ',H',I,r,q⟩:=h;exact⟨v,σ',H',I.unwish,r,q⟩
theorem PSs.nox {st:List Stmt}{t:TS} (h:PSs X.nox st t):PSs X st t:=fun pins s σ H D I hw =>
 wpAny_mono (h pins s σ H D (I.wish _) hw) (fun _ _ q=>q.unwish) fun _ _ z=>False.elim z
end
section
variable {X:Cx}{st:Stmt}{rest:List Stmt}{t u:TS}{e:Expr}{te:TE}{pos:Pos}
def tNext:TS:=fun D σ H=>D.nx σ H
def tSeq (t u:TS):TS:=fun D σ H=>t { D with nx:=u D } σ H
theorem zak5:PSs X [] tNext:=fun _ _ σ H _ I h=>wpAny_execs_nil ⟨σ,H,I,h⟩
theorem zae2 (h1:PS X st t) (h2:PSs X rest u):PSs X (st::rest) (tSeq t u):=by
 intro pins s σ H D I h
 refine wpAny_execs_cons (thn (h1 pins s σ H { D with nx:=u D } I h) fun f s1 q=>?_)
 cases f with
 |next =>
  obtain⟨σ',H',I',q⟩:=q
  exact h2 pins s1 σ' H' D I' q
 |ret v=>exact q
 |brk=>exact q
 |cont=>exact q
theorem zak4 (h1:PS X st t):PSs X [st] t:=by
 intro pins s σ H D I h
 refine wpAny_execs_cons (thn (h1 pins s σ H D I h) fun f s1 q=>?_)
 cases f with
 |next=>exact wpAny_execs_nil q
 |ret v=>exact q
 |brk=>exact q
 |cont=>exact q
theorem Inv.quiet {pins:List (Addr×Obj)}{σ:St}{H:Hp}{s:zas4} (I:Inv X pins σ H s):interactive X.env=false:=by simp [interactive,I.ok.kind]
def tDrop (te:TE):TS:=fun D σ H=>te σ H fun _ H1=>D.nx σ H1
theorem zq5 (he:PE X e te) (hs:swapsWith e none pos.line X.env=pure false:=by rfl):PS X (.Expr e pos) (tDrop te):=by
 intro pins s σ H D I h
 exact wpAny_Expr_any (thn (he pins s σ H _ I h) fun v s1 ⟨x,H1,I1,r1,q1⟩=>⟨σ,H1,I1,q1⟩) I.quiet hs
def tRet (te:TE):TS:=fun D σ H=>te σ H D.rt
theorem zak9 (he:PE X e te):PS X (.Return (some e) pos) (tRet te):=by
 intro pins s σ H D I h
 exact wpAny_Return_some (thn (he pins s σ H _ I h) fun v s1 ⟨x,H1,I1,r1,q1⟩=>⟨x,σ,H1,I1,r1,q1⟩)
def tIfS (c:TT) (t u:TS):TS:=fun D σ H=>c σ H fun b H1=>if b=true then t D σ H1 else u D σ H1
theorem ps_if {c:Expr}{a b:List Stmt}{tc:TT} (hc:PT X c tc) (ha:PSs X a t) (hb:PSs X b u):PS X (.If c a b pos) (tIfS tc t u):=by
 intro pins s σ H D I h
 refine wpAny_If (thn (hc pins s σ H _ I h) fun d s1 ⟨H1,I1,q1⟩=>?_)
 cases d with
 |true=>exact ha pins s1 σ H1 D I1 q1
 |false=>exact hb pins s1 σ H1 D I1 q1
end
abbrev TG:=V→St→Hp→(St→Hp→Prop)→Prop
abbrev TGs:=List V→St→Hp→(St→Hp→Prop)→Prop
noncomputable def PG (X:Cx) (target:Expr) (t:TG):Prop :=
 ∀(pins:List (Addr×Obj)) (s:zas4) (σ:St) (H:Hp) (v:V) (u:Value) (Q:St→Hp→Prop),Inv X pins σ H s→RelV v u→t v σ H Q →
  wpAny (model X.prog X.w) X.A (assign target X.env u) (fun _ s' => ∃σ' H',Inv X pins σ' H' s'∧Q σ' H') X.xe s
noncomputable def PGs (X:Cx) (ts:List Expr) (t:TGs):Prop :=
 ∀(pins:List (Addr×Obj)) (s:zas4) (σ:St) (H:Hp) (vs:List V) (us:List Value) (Q:St→Hp→Prop),Inv X pins σ H s→Vals vs us→t vs σ H Q →
  wpAny (model X.prog X.w) X.A (assignInOrder ((assignEach ts X.env).map (·.2)) us) (fun _ s' => ∃σ' H',Inv X pins σ' H' s'∧Q σ' H') X.xe s
abbrev TSet:=V→V→V→Hp→(Hp→Prop)→Prop
noncomputable def PSet (X:Cx) (t:TSet):Prop :=
 ∀(pins:List (Addr×Obj)) (s:zas4) (σ:St) (H:Hp) (o i v:V) (ov iv u:Value) (Q:Hp→Prop),Inv X pins σ H s→RelV o ov→RelV i iv→RelV v u→t o i v H Q →
  wpAny (model X.prog X.w) X.A (setItem ov iv u) (fun _ s' => ∃H',Inv X pins σ H' s'∧Q H') X.xe s
section
variable {X:Cx}{pos:Pos}
def zao1 (i:Nat):TG:=fun v σ H Q=>Q (σ.set i (some v)) H
theorem zc7 {i:Nat}{x:Str} (hN:X.N.Nodup) (hi:X.N[i]?=some x) (hx:Loc X.env.scope x) (hf:X.fn x=true∨X.env.scope.names.lookup x=some .local:=by first | exact .inl rfl | exact .inr rfl | assumption):PG X (.Name x pos) (zao1 i):=by
 intro pins s σ H v u Q I r h
 exact wpAny_assign_Name (zp5 I hN hi hx r (fun s' I'=>⟨_,H,I',h⟩) hf)
def gNil:TGs:=fun vs σ H Q=>vs=[]∧Q σ H
def gCons (t:TG) (u:TGs):TGs:=fun vs σ H Q => ∃v r,vs=v::r∧t v σ H fun σ' H'=>u r σ' H' Q
theorem zaa4:PGs X [] gNil:=by
 intro pins s σ H vs us Q I r h
 obtain⟨e,h⟩:=h
 subst e
 cases r
 exact assignInOrder_nil ⟨σ,H,I,h⟩
theorem zl0 {e:Expr}{es:List Expr}{t:TG}{u:TGs} (h1:PG X e t) (h2:PGs X es u)
  (hs:(assignEach (e::es) X.env).map (·.2)=assign e X.env ::(assignEach es X.env).map (·.2):=by rfl):PGs X (e::es) (gCons t u):=by
 intro pins s σ H vs us Q I r h
 obtain⟨v,vr,e1,h⟩:=h
 subst e1
 cases r with
 |cons r rr =>
  rw [hs]
  refine assignInOrder_cons (thn (h1 pins s σ H _ _ _ I r h) fun _ s1 ⟨σ1,H1,I1,q1⟩=>?_)
  exact h2 pins s1 σ1 H1 _ _ Q I1 rr q1
def gTup (K:zaq9) (n:Nat) (t:TGs):TG:=fun v σ H Q => ∃a xs,v=.ref a∧SqT K H a xs∧xs.length=n∧t xs σ H Q
theorem zal2 {es:List Expr}{k:Nat}{t:TGs}{n:Nat} (hc:X.calm=true) (h:PGs X es t)
  (hn:(assignEach es X.env).length=n:=by rfl) (hst:(assignEach es X.env).findIdx? (·.1)=none:=by rfl):PG X (.Tuple es k pos) (gTup X.K n t):=by
 intro pins s σ H v u Q I r hw
 obtain⟨a,xs,e1,hq,hl,hw⟩:=hw
 subst e1
 cases r
 obtain⟨its,rv,ht,hz⟩:=I.tuple hq
 refine assign_Tuple_tuple (I.ok.hd hc) ht (by simp [hn, ← hl,rv.length]) hst fun h' hx=>?_
 have I1:Inv X pins σ H { s with heap:=h' }:=I.kept (t':=s.toks) fun b o e=>hx b o (zau2 (zat1 e)) e
 exact h pins _ σ H xs _ Q I1 (by simpa using rv) hw
def gSub (to ti:TE) (t:TSet):TG:=fun v σ H Q=>to σ H fun o H1=>ti σ H1 fun i H2=>t o i v H2 fun H3=>Q σ H3
theorem pg_sub {o i:Expr}{to ti:TE}{t:TSet} (ho:PE X o to) (hi:PE X i ti) (hs:PSet X t)
  (ha:∀v,assign (.Subscript o i pos) X.env v=(do
   let ov ← holding [v] (eval o X.env)
   let iv ← holding [v,ov] (eval i X.env)
   standAt pos
   holding [v,ov,iv] (setItem ov iv v)
   release [v,ov,iv] []):=by intro _;rfl):PG X (.Subscript o i pos) (gSub to ti t):=by
 intro pins s σ H v u Q I r h
 rw [ha]
 refine zas0 (wpAny_holding (thn (ho pins s σ H _ I h) fun ov s1 ⟨x,H1,I1,r1,q1⟩=>?_))
 refine zas0 (wpAny_holding (thn (hi pins s1 σ H1 _ I1 q1) fun iv s2 ⟨y,H2,I2,r2,q2⟩=>?_))
 refine zas0 (wpAny_standAt (zas0 (wpAny_holding (thn (hs pins s2 σ H2 x y v ov iv u _ I2 r1 r2 r q2) fun _ s3 ⟨H3,I3,q3⟩=>?_))))
 exact wpAny_release ⟨σ,H3,I3,q3⟩
def tAsg (te:TE) (g:TG):TS:=fun D σ H=>te σ H fun x H1=>g x σ H1 D.nx
theorem ps_asg {tg e:Expr}{te:TE}{g:TG} (he:PE X e te) (hg:PG X tg g) (hs:swapsWithSole [tg] e pos.line X.env=pure false:=by rfl) (hw:swappedStores [tg] e X.env=pure none:=by rfl)
  (h1:(assignEach [tg] X.env).map (·.2)=[assign tg X.env]:=by rfl):PS X (.Assign [tg] e pos) (tAsg te g):=by
 intro pins s σ H D I h
 refine wpAny_Assign_stores (thn (he pins s σ H _ I h) fun v s1 ⟨x,H1,I1,r1,q1⟩=>?_) hs hw
 rw [h1]
 exact thn (hg pins s1 σ H1 x v _ I1 r1 q1) fun _ s2 q=>q
theorem ps_set {i:Nat}{x:Str}{e:Expr}{te:TE}{pos':Pos} (hN:X.N.Nodup) (hi:X.N[i]?=some x) (hx:Loc X.env.scope x) (he:PE X e te) (hs:swapsWith e (some (.Name x pos')) pos.line X.env=pure false:=by rfl) (hf:X.fn x=true∨X.env.scope.names.lookup x=some .local:=by first | exact .inl rfl | exact .inr rfl | assumption) :
  PS X (.Assign [.Name x pos'] e pos) (tAsg te (zao1 i)):=by
 intro pins s σ H D I h
 refine wpAny_Assign_Name (thn (he pins s σ H _ I h) fun v s1 ⟨y,H1,I1,r1,q1⟩=>?_) hs
 exact zp5 I1 hN hi hx r1 (fun s2 I2=>⟨_,H1,I2,q1⟩) hf
def tPar (i j:Nat) (ta:TA):TS:=fun D σ H=>ta σ H fun vs H1 => ∃v w,vs=[v,w]∧D.nx ((σ.set i (some v)).set j (some w)) H1
theorem ps_par {i j:Nat}{x y:Str}{a b:Expr}{ta:TA}{px py pt:Pos}{kt k2 pt2} (hc:X.calm=true) (hN:X.N.Nodup) (hi:X.N[i]?=some x) (hj:X.N[j]?=some y) (hij:i≠j)
  (hx:X.env.scope.names.lookup x=some .local) (hy:X.env.scope.names.lookup y=some .local) (ha:PA X [a,b] ta)
  (hw:swappedStores [.Tuple [.Name x px,.Name y py] kt pt] (.Tuple [a,b] k2 pt2) X.env=pure (some [x,y]))
  (hs:swapsWithSole [.Tuple [.Name x px,.Name y py] kt pt] (.Tuple [a,b] k2 pt2) pos.line X.env=pure false:=by rfl) :
  PS X (.Assign [.Tuple [.Name x px,.Name y py] kt pt] (.Tuple [a,b] k2 pt2) pos) (tPar i j ta):=by
 intro pins s σ H D I h
 rw [exec_Assign_arm]
 refine zas0 (wpAny_standAt ?_)
 rw [hs]
 refine zas0 (zat9 ?_)
 rw [if_neg (by decide)]
 refine zas0 (Tuple_ (thn (ha _ pins s σ H _ I h) fun us s1 ⟨vs,H1,I1,r1,q1⟩=>?_))
 obtain⟨v,w,e1,q1⟩:=q1
 subst e1
 obtain⟨u1,u2,rfl,rv,rw'⟩:∃u1 u2,us=[u1,u2]∧RelV v u1∧RelV w u2:=by
  cases r1 with
  |cons p q =>
   cases q with
   |cons p' q' =>
    cases q'
    exact⟨_,_,rfl,p,p'⟩
 refine wpAny_newObj_type ?_ (by show 2≤sizeLine;decide)
 have I2:Inv X pins σ H1 { s1 with heap:=s1.heap.push { cls:=.type "tuple",data:=.seq [u1,u2].toArray } }:=I1.kept (t':=s1.toks) fun b o e=>zas3 _ e
 rw [hw]
 refine zas0 (zat9 ?_)
 show wpAny (model X.prog X.w) X.A (do rule "assign.swapped-stores";let items ← unpackItems (.ref s1.heap.objs.size) 2 none;assignInOrder [fun v=>bindName X.env y v,fun v=>bindName X.env x v] items.reverse;pure Flow.next) _ _ _
 refine zas0 (wpAny_rule (zas0 (unpackItems_tuple (items := #[u1,u2]) (I.ok.hd hc) (IsTup.new s1.heap _) fun h' hx'=>?_)))
 have I3:=I2.kept (h':=h') (t':=s1.toks) fun b o e=>hx' b o (zau2 (zat1 e)) e
 show wpAny _ _ (assignInOrder [fun v=>bindName X.env y v,fun v=>bindName X.env x v] [u2,u1] >>= fun _=>pure Flow.next) _ _ _
 refine zas0 (assignInOrder_cons (wpAny_bindName (zp5 I3 hN hj (.inl hy) rw' (fun s2 I4=>?_) (.inr hy))))
 refine assignInOrder_cons (wpAny_bindName (zp5 I4 hN hi (.inl hx) rv (fun s3 I5=>assignInOrder_nil (zat9 ?_)) (.inr hx)))
 rw [List.set_comm _ _ (Ne.symm hij)]at I5
 exact⟨_,H1,I5,q1⟩
end
section
variable {X:Cx}{pos:Pos}
noncomputable def tWhile (c:TT) (tb:TS):TS:=fun D σ H => ∃W:Nat→St→Hp→Prop,(∃m,W m σ H)∧∀m σ H,W m σ H →
 c σ H fun b H1=>if b=true then ∃N:St→Hp→Prop,(∀σ' H',N σ' H'→∃m',m' < m∧W m' σ' H')∧tb { D with nx:=N,ct:=N,bk:=D.nx } σ H1 else D.nx σ H1
theorem ps_while {c:Expr}{body:List Stmt}{tc:TT}{tb:TS} (hp:PassesOwn (model X.prog X.w) X.A X.env X.xe) (hc:PT X c tc) (hb:PSs X body tb):PS X (.While c body [] pos) (tWhile tc tb):=by
 intro pins s σ H D I h
 obtain⟨W,⟨m0,w0⟩,turn⟩:=h
 refine wpAny_While (codeAny_whileLoop (fun n s' => ∃σ' H',Inv X pins σ' H' s'∧W n σ' H') ?_ m0 ⟨σ,H,I,w0⟩)
 rintro n s1 ⟨σ1,H1,I1,w1⟩
 refine wpAny_passesOwn hp (thn (hc pins s1 σ1 H1 _ I1 (turn n σ1 H1 w1)) fun b s2 ⟨H2,I2,q2⟩=>?_)
 cases b with
 |true =>
  obtain⟨N,hN,q2⟩:=q2
  rw [if_pos rfl]
  refine wpAny_passesOwn hp (thn (hb pins s2 σ1 H2 _ I2 q2) fun f s3 q3=>?_)
  cases f with
  |next =>
   obtain⟨σ3,H3,I3,n3⟩:=q3
   obtain⟨m',hm,w3⟩:=hN σ3 H3 n3
   exact⟨m',hm,σ3,H3,I3,w3⟩
  |cont =>
   obtain⟨σ3,H3,I3,n3⟩:=q3
   obtain⟨m',hm,w3⟩:=hN σ3 H3 n3
   exact⟨m',hm,σ3,H3,I3,w3⟩
  |brk=>exact q3
  |ret v=>exact q3
 |false =>
  rw [if_neg zas6]
  exact wpAny_execs_nil ⟨σ1,H2,I2,q2⟩
end
structure It where
 go:Nat→Hp→Prop
 yld:Nat→Hp→V→Hp→Prop
 stop:Nat→Hp→Prop
noncomputable def FpOk (X:Cx) (pins:List (Addr×Obj)) (H:Hp) (b:Addr):Prop :=
 H b=none∧b≠X.env.locals∧b∉X.fs∧(b∈X.ex∨X.s₀.heap.objs.size≤b)∧(∀x c,X.env.cells.lookup x=some c→c≠b)∧∀p∈X.pn++pins,p.1≠b
theorem Inv.fpOk {X:Cx}{pins:List (Addr×Obj)}{σ:St}{H H':Hp}{s:zas4}{b:Addr} (I:Inv X pins σ H s) (hb:s.heap.objs.size≤b) (hn:H' b=none):FpOk X pins H' b:=by
 refine⟨hn,zba7 (zas5 I.lt hb),I.nofs hb,.inr (zaw5 I.sz hb),fun x c e z=>?_,fun p hp z=>?_⟩
 ·obtain⟨v,q⟩:=I.cell x c e
  exact absurd (zas5 q.lt (by rw [z];exact hb)) (zax5 _)
 ·exact absurd (zas5 (zat1 (I.pin p hp).1) (by rw [z];exact hb)) (zax5 _)
structure Turn (P:Program) (w:World) (K:zaq9) (tg:Expr) (J:It) (fp:List Addr) (it:Addr) (tn:Nat→Heap→Prop):Prop where
 mem:it∈fp
 obj:∀i h,tn i h→∀b∈fp,∃o,h.get? b=some o∧∀v,o.data≠.cell v
 keep:∀i h h',tn i h→(∀b∈fp,∀o,h.get? b=some o→h'.get? b=some o)→tn i h'
 item:∀(X:Cx),X.prog=P→X.w=w→X.K=K→X.calm=true→∀(i:Nat) (pins:List (Addr×Obj)) (s:zas4) (σ:St) (H:Hp) (E:Value→zas4→Prop),Inv X pins σ H s→(∀b∈fp,FpOk X pins H b)→tn i s.heap→J.go i H →
  wpAny (model P w) X.A (pyNext (.ref it)) (fun r s1 => ∃u,r=some u ∧
   wpAny (model P w) X.A (letOwnedTupleGo tg (.ref it) u) (fun _ s2 => ∃x H',Inv X pins σ H' s2∧RelV x u∧J.yld i H x H'∧tn (i+1) s2.heap∧∀b∈fp,H' b=none) E s1) E s
 done:∀(X:Cx),X.prog=P→X.w=w→X.K=K→X.calm=true→∀(i:Nat) (pins:List (Addr×Obj)) (s:zas4) (σ:St) (H:Hp) (E:Value→zas4→Prop),Inv X pins σ H s→(∀b∈fp,FpOk X pins H b)→tn i s.heap→J.stop i H →
  wpAny (model P w) X.A (pyNext (.ref it)) (fun r s1=>r=none∧Inv X pins σ H s1) E s
 self:∀(A:Around) (i:Nat) (s:zas4) (Q:Value→zas4→Prop) (E:Value→zas4→Prop),tn i s.heap→Q (.ref it) s→wpAny (model P w) A (pyIter (.ref it)) Q E s
abbrev TI:=St→Hp→(It→Hp→Prop)→Prop
noncomputable def PIE (X:Cx) (pins:List (Addr×Obj)) (σ:St) (tg:Expr) (R:It→Hp→Prop) (itv:Value) (s2:zas4):Prop :=
 ∃(it:Addr) (fp:List Addr) (tn:Nat→Heap→Prop) (J:It) (H':Hp),itv=.ref it∧Inv X pins σ H' s2∧Turn X.prog X.w X.K tg J fp it tn∧tn 0 s2.heap∧(∀b∈fp,FpOk X pins H' b)∧R J H'
noncomputable def PI (X:Cx) (tg iter:Expr) (wi:TI):Prop :=
 ∀(pins:List (Addr×Obj)) (s:zas4) (σ:St) (H:Hp) (R:It→Hp→Prop),Inv X pins σ H s→wi σ H R →
  wpAny (model X.prog X.w) X.A (eval iter X.env) (fun v s1=>wpAny (model X.prog X.w) X.A (pyIter v) (PIE X pins σ tg R) X.xe s1) X.xe s
theorem go_of {M:Model}{A:Around}{E:Value→zas4→Prop}{s:zas4}{tg:Expr}{it:Addr}{u:Value}{o:Obj}{n:String}{vs:Array Value}{Q:Unit→zas4→Prop} (ho:s.heap.get? it=some o) (hc:o.cls=.type n) (hd:o.data=.fields vs)
  (hn:["enumerate", "zip", "dict_itemiterator", "dict_reverseitemiterator", "odict_iterator", "itertools.zip_longest", "itertools.pairwise"].contains n=false) (hQ:Q () s):wpAny M A (letOwnedTupleGo tg (.ref it) u) Q E s:=by
 unfold letOwnedTupleGo
 cases tg<;>first
  |exact zat9 hQ
  |(cases u<;>first
    |exact zat9 hQ
    |(refine zas0 (wpAny_load ho ?_)
      rw [hc,hd]
      show wpAny M A (if (["enumerate", "zip", "dict_itemiterator", "dict_reverseitemiterator", "odict_iterator", "itertools.zip_longest", "itertools.pairwise"].contains n&&vs[0]? == some (rawInt _))=true then _ else _) Q E s
      rw [if_neg (by intro h;rw [hn,Bool.false_and]at h;cases h)]
      exact zat9 hQ))
noncomputable def Itl (K:zaq9) (a:Addr):It :=
 ⟨fun i H => ∃xs x,SqL K H a xs∧xs[i]?=some x,fun i H x H'=>H'=H∧∀xs,SqL K H a xs→xs[i]?=some x,fun i H => ∃xs,SqL K H a xs∧xs.length≤i⟩
def Itr (lo:Int) (n:Nat):It:=⟨fun i _=>i<n,fun i H x H'=>H'=H∧x=.int (lo+i),fun i _=>n≤i⟩
theorem zaj1 {P:Program}{w:World}{K:zaq9}{tg:Expr} (a it:Addr):Turn P w K tg (Itl K a) [it] it (fun i h=>h.IsListIter it a i) where
 mem:=by simp
 obj:=fun i h st b hb=>by
  have e:b=it:=by simpa using hb
  subst e
  obtain⟨o,e,c,d⟩:=st
  exact⟨o,e,fun v z=>by rw [d]at z;cases z⟩
 keep:=fun i h h' st k=>st.at fun o e=>k it (by simp) o e
 item:=by
  intro X hP hw hK hc i pins s σ H E I hf st hg
  subst hP hw hK
  obtain⟨xs,x,hq,hx⟩:=hg
  obtain⟨its,rv,p,hz⟩:=I.list hq
  obtain⟨u,hu,ru⟩:=rv.get hx
  obtain⟨f0,f1,f2,f3,f4,f5⟩:=hf it (by simp)
  refine wpAny_pyNext_list_item st p.isList (x:=u) (by simpa using hu) fun h' st' sb=>?_
  have I1:Inv X pins σ H { s with heap:=h' }:=I.turned (t':=s.toks) (fun b o hb e=>(sb.2 b hb).trans e) f0 f1 f3 f4 f5
  obtain⟨o,e,c,d⟩:=id st'
  exact⟨u,rfl,go_of (s:={ s with heap:=h' }) e c d (by decide) ⟨x,H,I1,ru,⟨rfl,fun ys hy=>by rw [I.list_inj hy hq];exact hx⟩,st',fun b hb=>(hf b hb).1⟩⟩
 done:=by
  intro X hP hw hK hc i pins s σ H E I hf st hg
  subst hP hw hK
  obtain⟨xs,hq,hx⟩:=hg
  obtain⟨its,rv,p,hz⟩:=I.list hq
  obtain⟨f0,f1,f2,f3,f4,f5⟩:=hf it (by simp)
  have hl:=rv.length
  exact wpAny_pyNext_list_end (I.ok.hd hc) st p.isList (by simp;lia) fun h' eb=>⟨rfl,I.turned (t':=s.toks) (fun b o hb e=>eb b o hb e) f0 f1 f3 f4 f5⟩
 self:=fun _ _ _ _ _ st h=>wpAny_pyIter_listiter st h
theorem zah0 {P:Program}{w:World}{K:zaq9}{tg:Expr} (it:Addr) (lo:Int) (n:Nat):Turn P w K tg (Itr lo n) [it] it (fun i h=>IsRangeIter h it (lo+(i:Nat)*1) ((n:Int) - (i:Nat)) 1) where
 mem:=by simp
 obj:=fun i h st b hb=>by
  have e:b=it:=by simpa using hb
  subst e
  exact⟨_,st,fun v z=>by
   have z':Data.fields _=Data.cell v:=z
   cases z'⟩
 keep:=fun i h h' st k=>k it (by simp) _ st
 item:=by
  intro X hP hw hK hc i pins s σ H E I hf st hg
  subst hP hw hK
  obtain⟨f0,f1,f2,f3,f4,f5⟩:=hf it (by simp)
  have W:=Walks.range (prog:=X.prog) (w:=X.w) (I.ok.hd hc) it lo 1 n
  refine W.item i s _ _ hg st fun v h' tk hv st' kk=>?_
  obtain⟨t,rfl⟩:=hv
  have I1:Inv X pins σ H { s with heap:=h',toks:=tk }:=I.turned (fun b o hb e=>kk b o (by simpa using hb) e) f0 f1 f3 f4 f5
  refine⟨_,rfl,go_of (s:={ s with heap:=h',toks:=tk }) (n := "range_iterator") st' rfl rfl (by decide) ⟨.int (lo+i),H,I1,⟨t,?_⟩,⟨rfl,rfl⟩,st',fun b hb=>(hf b hb).1⟩⟩
  rw [Int.mul_one]
 done:=by
  intro X hP hw hK hc i pins s σ H E I hf st hg
  subst hP hw hK
  obtain⟨f0,f1,f2,f3,f4,f5⟩:=hf it (by simp)
  exact wpAny_pyNext_range_end (I.ok.hd hc) st (by have:n≤i:=hg;lia) fun h' eb=>⟨rfl,I.turned (t':=s.toks) (fun b o hb e=>eb b o hb e) f0 f1 f3 f4 f5⟩
 self:=fun _ _ _ _ _ st h=>wpAny_pyIter_rangeiter st h
end L2
namespace L2
open PySem.Spec
section
variable {X:Cx}{tg:Expr}
def iList (K:zaq9) (tl:TE):TI:=fun σ H R=>tl σ H fun x H1 => ∃a,x=.ref a∧(∃xs,SqL K H1 a xs)∧R (Itl K a) H1
theorem zaa3 {l:Expr}{tl:TE} (hl:PE X l tl):PI X tg l (iList X.K tl):=by
 intro pins s σ H R I h
 refine thn (hl pins s σ H _ I h) fun v s1 ⟨x,H1,I1,r1,q1⟩=>?_
 obtain⟨a,e,⟨xs,hq⟩,q⟩:=q1
 subst e
 cases r1
 obtain⟨its,rv,p,hz⟩:=I1.list hq
 refine wpAny_pyIter_list p.isList ?_
 refine⟨s1.heap.objs.size,[s1.heap.objs.size],_,_,H1,rfl,I1.kept (t':=s1.toks) fun b o e=>zas3 _ e,zaj1 a _,⟨_,zav0 _ rfl,rfl,rfl⟩,fun b hb=>?_,q⟩
 have e:b=s1.heap.objs.size:=by simpa using hb
 subst e
 exact I1.fpOk (zat4 _) (I1.hok.fresh (zat4 _))
theorem range_it {pins:List (Addr×Obj)}{σ:St}{H:Hp}{s:zas4}{R:It→Hp→Prop}{E:Value→zas4→Prop}{lo hi:Int}{t u v:Tok}{tk:Nat} (I:Inv X pins σ H s) (h1 : -(2 ^ 62)≤lo) (h2:lo<2 ^ 62) (h3 : -(2 ^ 62)≤hi) (h4:hi<2 ^ 62)
  (q:R (Itr lo (hi - lo).toNat) H):wpAny (model X.prog X.w) X.A (pyIter (.ref s.heap.objs.size)) (PIE X pins σ tg R) E { s with heap:=s.heap.push { cls:=.type "range",data:=.fields #[.int lo t,.int hi u,.int 1 v] },toks:=tk }:=by
 refine wpAny_pyIter_range (IsRange.new ..) (small_one h1 h2 h3 h4) ?_
 have I1:Inv X pins σ H { s with heap:=s.heap.push { cls:=.type "range",data:=.fields #[.int lo t,.int hi u,.int 1 v] },toks:=tk }:=I.kept fun b o e=>zas3 _ e
 refine⟨(s.heap.push { cls:=.type "range",data:=.fields #[.int lo t,.int hi u,.int 1 v] }).objs.size,[(s.heap.push { cls:=.type "range",data:=.fields #[.int lo t,.int hi u,.int 1 v] }).objs.size],_,_,H,rfl,
  I1.kept (t':=tk) fun b o e=>zas3 _ e,zah0 _ lo (hi - lo).toNat,?_,fun b hb=>?_,q⟩
 ·have e1:lo+((0:Nat):Int)*1=lo:=by simp
  have e2:(((hi - lo).toNat:Nat):Int) - ((0:Nat):Int)=Builtin.Range.rangeSize lo hi 1:=by rw [rangeSize_one];split<;>lia
  show IsRangeIter _ _ (lo+((0:Nat):Int)*1) ((((hi - lo).toNat:Nat):Int) - ((0:Nat):Int)) 1
  rw [e1,e2]
  exact zav0 _ rfl
 ·have e:b=(s.heap.push { cls:=.type "range",data:=.fields #[.int lo t,.int hi u,.int 1 v] }).objs.size:=by simpa using hb
  subst e
  exact I1.fpOk (zat4 _) (I1.hok.fresh (zat4 _))
def iRng1 (ta:TA):TI:=fun σ H R=>ta σ H fun vs H1 => ∃j:Int,vs=[.int j] ∧ -(2 ^ 62)≤j∧j<2 ^ 62∧R (Itr 0 j.toNat) H1
theorem zw4 {a:Expr}{ta:TA}{p pos:Pos} (hg:Gl X "range") (hm:X.mg "range"=none) (ha:PA X [a] ta) (hs:zat2 [a] X.env=[(false,eval a X.env)]:=by rfl):PI X tg (.Call (.Name "range" p) [a] [] pos) (iRng1 ta):=by
 intro pins s σ H R I h
 refine Call_ (zo9 I hg hm boot_range (PyProof.Rows.callWith_type1 (thn (ha pos pins s σ H _ I h) fun us s1 ⟨vs,H1,I1,r1,q1⟩=>?_) hs rfl))
 obtain⟨j,e,q1,q2,q⟩:=q1
 subst e
 cases r1 with
 |cons r rr =>
  cases rr
  obtain⟨t,rfl⟩:=r
  exact call_range_1 (range_it I1 (by lia) (by lia) q1 q2 (by simpa using q))
noncomputable def tFor (wi:TI) (g:TG) (tb:TS):TS:=fun D σ H=>wi σ H fun J H1 => ∃W:Nat→Nat→St→Hp→Prop,(∃m,W 0 m σ H1)∧∀i m σ H,W i m σ H →
 (J.stop i H∧D.nx σ H)∨(J.go i H∧∃N:St→Hp→Prop,(∀σ' H',N σ' H'→∃m',m' < m∧W (i+1) m' σ' H')∧∀x H',J.yld i H x H'→g x σ H' fun σ2 H2=>tb { D with nx:=N,ct:=N,bk:=D.nx } σ2 H2)
def zj9 (fp:List Addr) (h:Heap):List (Addr×Obj):=fp.filterMap fun b=>(h.get? b).map fun o=>(b,o)
theorem zd1 {fp:List Addr}{h:Heap}{b:Addr}{o:Obj} (hb:b∈fp) (e:h.get? b=some o):(b,o)∈zj9 fp h:=zba2.mpr ⟨b,hb,by rw [e];rfl⟩
theorem zal6 {fp:List Addr}{h:Heap}{p:Addr×Obj} (hp:p∈zj9 fp h):p.1∈fp∧h.get? p.1=some p.2:=by
 obtain⟨b,hb,e⟩:=zba2.mp hp
 cases q:h.get? b with
 |none=>rw [q]at e;cases e
 |some o =>
  rw [q]at e
  have e':(b,o)=p:=Option.some.inj e
  subst e'
  exact⟨hb,q⟩
theorem Inv.pinned {pins:List (Addr×Obj)}{σ:St}{H:Hp}{s:zas4}{fp:List Addr} (I:Inv X pins σ H s) (hf:∀b∈fp,FpOk X pins H b) (ho:∀b∈fp,∃o,s.heap.get? b=some o∧∀v,o.data≠.cell v):Inv X (pins++zj9 fp s.heap) σ H s :=
 I.pins_of fun p hp=>(zar3.mp hp).elim (fun z=>I.pin p (zaq8 _ z)) fun z=>by
  obtain⟨hb,e⟩:=zal6 z
  obtain⟨f0,f1,f2,_⟩:=hf p.1 hb
  obtain⟨o,e',d⟩:=ho p.1 hb
  rw [e]at e';cases e'
  exact⟨e,f0,f1,f2,d⟩
theorem Inv.unpinned {pins pl:List (Addr×Obj)}{σ:St}{H:Hp}{s:zas4} (I:Inv X (pins++pl) σ H s):Inv X pins σ H s:=I.pins_of fun p hp=>I.pin p (zaq8 _ (zar0 _ hp))
theorem zal0 {iter:Expr}{body:List Stmt}{wi:TI}{g:TG}{tb:TS}{pos:Pos} (hp:PassesOwn (model X.prog X.w) X.A X.env X.xe) (hc:X.calm=true) (hi:PI X tg iter wi) (hg:PG X tg g) (hb:PSs X body tb)
  (hs:∀x,foldedSetIterable iter X.env x=pure x:=by intro _;rfl):PS X (.For tg iter body [] pos) (tFor wi g tb):=by
 intro pins s σ H D I h
 refine wpAny_For (thn (hi pins s σ H _ I h) fun v s1 h1=>thn h1 fun itv s2 h2=>?_) hs
 obtain⟨it,fp,tn,J,H2,e,I2,T,st2,f2,W,⟨m0,w0⟩,turn⟩:=h2
 subst e
 -- what stays true of the iterator's objects through the loop
 have stat:∀ {H':Hp},(∀b∈fp,H' b=none)→∀b∈fp,FpOk X pins H' b:=fun hn b hb=>⟨hn b hb,(f2 b hb).2⟩
 refine codeAny_forLoop_any (fun n s' => ∃i σ' H',Inv X pins σ' H' s'∧tn i s'.heap∧(∀b∈fp,H' b=none)∧W i n σ' H') ?_ m0 ⟨0,σ,H2,I2,st2,fun b hb=>(f2 b hb).1,w0⟩
 rintro n s3 ⟨i,σ3,H3,I3,st3,fr3,w3⟩
 rcases turn i n σ3 H3 w3 with ⟨stop,qn⟩ | ⟨go,N,hN,step⟩
 ·refine wpAny_passesOwn hp (thn (T.done X rfl rfl rfl hc i pins s3 σ3 H3 X.xe I3 (stat fr3) st3 stop) fun r s4 ⟨hr,I4⟩=>?_)
  subst hr
  exact wpAny_execs_nil ⟨σ3,H3,I4,qn⟩
 ·refine wpAny_passesOwn hp (thn (T.item X rfl rfl rfl hc i pins s3 σ3 H3 X.xe I3 (stat fr3) st3 go) fun r s4 ⟨u,hr,h4⟩=>?_)
  subst hr
  refine wpAny_passesOwn hp (thn h4 fun _ s5 ⟨x,H5,I5,r5,y5,st5,fr5⟩=>?_)
  have I5':=I5.pinned (stat fr5) (T.obj _ _ st5)
  refine wpAny_passesOwn hp (thn (hg _ s5 σ3 H5 x u _ I5' r5 (step x H5 y5)) fun _ s6 ⟨σ6,H6,I6,q6⟩=>?_)
  refine wpAny_passesOwn hp (thn (hb _ s6 σ6 H6 _ I6 q6) fun f s7 q7=>?_)
  have again:∀ {σ7:St}{H7:Hp},Inv X (pins++zj9 fp s5.heap) σ7 H7 s7→N σ7 H7→∃m,m<n∧∃i σ' H',Inv X pins σ' H' s7∧tn i s7.heap∧(∀b∈fp,H' b=none)∧W i m σ' H':=fun {σ7 H7} I7 n7=>by
   obtain⟨m',hm,w7⟩:=hN σ7 H7 n7
   refine⟨m',hm,i+1,σ7,H7,I7.unpinned,T.keep _ _ _ st5 fun b hb o e=>(I7.pin (b,o) (zaq8 _ (zaq8 _ (zd1 hb e)))).1,fun b hb=>?_,w7⟩
   obtain⟨o,e,d⟩:=T.obj _ _ st5 b hb
   exact (I7.pin (b,o) (zaq8 _ (zaq8 _ (zd1 hb e)))).2.1
  cases f with
  |next=>obtain⟨σ7,H7,I7,n7⟩:=q7;exact again I7 n7
  |cont=>obtain⟨σ7,H7,I7,n7⟩:=q7;exact again I7 n7
  |brk=>obtain⟨σ7,H7,I7,q7⟩:=q7;exact⟨σ7,H7,I7.unpinned,q7⟩
  |ret v=>obtain⟨x7,σ7,H7,I7,r7,q7⟩:=q7;exact⟨x7,σ7,H7,I7.unpinned,r7,q7⟩
end
end L2
namespace L2
open PySem.Spec
abbrev R2:=V→V→Hp→VK→Prop
noncomputable def OpR (X:Cx) (f:Value→Value→Sem Value) (r:R2):Prop :=
 ∀(pins:List (Addr×Obj)) (s:zas4) (σ:St) (H:Hp) (x y:V) (v u:Value) (Q:VK),Inv X pins σ H s→RelV x v→RelV y u→r x y H Q →
  wpAny (model X.prog X.w) X.A (f v u) (EP X pins σ Q) X.xe s
noncomputable def zad1 (X:Cx) (f:Value) (r:List V→Hp→VK→Prop):Prop :=
 ∀(pins:List (Addr×Obj)) (s:zas4) (σ:St) (H:Hp) (xs:List V) (us:List Value) (Q:VK),Inv X pins σ H s→Vals xs us→r xs H Q →
  wpAny (model X.prog X.w) X.A (call f us) (EP X pins σ Q) X.xe s
noncomputable def TruR (X:Cx) (r:V→Hp→(Bool→Hp→Prop)→Prop):Prop :=
 ∀(pins:List (Addr×Obj)) (s:zas4) (σ:St) (H:Hp) (x:V) (v:Value) (Q:Bool→Hp→Prop),Inv X pins σ H s→RelV x v→r x H Q →
  wpAny (model X.prog X.w) X.A (truthy v) (TP X pins σ Q) X.xe s
def tOp (r:R2) (ta tb:TE):TE:=fun σ H Q=>ta σ H fun x H1=>tb σ H1 fun y H2=>r x y H2 Q
def rI (C:Int→Int→Prop) (g:Int→Int→V):R2:=fun x y H Q => ∃i j,x=.int i∧y=.int j∧C i j∧Q (g i j) H
def rI0 (g:Int→Int→V):R2:=fun x y H Q => ∃i j,x=.int i∧y=.int j∧Q (g i j) H
def rU (g:Int→V):V→Hp→VK→Prop:=fun x H Q => ∃i,x=.int i∧Q (g i) H
section
variable {X:Cx}{a b c:Expr}{ta tb tc:TE}{pos:Pos}
theorem binT (ha:PE X a ta) (hb:PE X b tb) {pins:List (Addr×Obj)}{s:zas4}{σ:St}{H:Hp}{R:V→V→Hp→Prop} (I:Inv X pins σ H s)
  (h:ta σ H fun x H1=>tb σ H1 fun y H2=>R x y H2) {Q:Value→zas4→Prop}{f:Value→Value→Sem Value}
  (hf:∀v u s2 x y H2,Inv X pins σ H2 s2→RelV x v→RelV y u→R x y H2→wpAny (model X.prog X.w) X.A (f v u) Q X.xe s2) :
  wpAny (model X.prog X.w) X.A (eval a X.env) (fun v s₁=>wpAny (model X.prog X.w) X.A (eval b X.env) (fun u s₂=>wpAny (model X.prog X.w) X.A (f v u) Q X.xe s₂) X.xe s₁) X.xe s:=by
 refine thn (ha pins s σ H _ I h) fun v s1 ⟨x,H1,I1,r1,q1⟩=>?_
 refine thn (hb pins s1 σ H1 _ I1 q1) fun u s2 ⟨y,H2,I2,r2,q2⟩=>?_
 exact hf v u s2 x y H2 I2 r1 r2 q2
theorem opI {f:Value→Value→Sem Value}{C:Int→Int→Prop}{g:Int→Int→Int}
  (rule:∀(i j:Int) (t u:Tok) (s:zas4) (Q:Value→zas4→Prop) (E:Value→zas4→Prop),C i j→Q (.int (g i j) s.toks) { s with toks:=s.toks+1 }→wpAny (model X.prog X.w) X.A (f (.int i t) (.int j u)) Q E s) :
  OpR X f (rI C fun i j=>.int (g i j)):=by
 intro pins s σ H x y v u Q I rx ry h
 obtain⟨i,j,rfl,rfl,hc,q⟩:=h
 obtain⟨t,rfl⟩:=rx
 obtain⟨t',rfl⟩:=ry
 exact rule i j t t' s _ _ hc ⟨.int (g i j),H,I.tok _,⟨_,rfl⟩,q⟩
theorem opI0 {f:Value→Value→Sem Value}{g:Int→Int→Int}
  (rule:∀(i j:Int) (t u:Tok) (s:zas4) (Q:Value→zas4→Prop) (E:Value→zas4→Prop),Q (.int (g i j) s.toks) { s with toks:=s.toks+1 }→wpAny (model X.prog X.w) X.A (f (.int i t) (.int j u)) Q E s) :
  OpR X f (rI0 fun i j=>.int (g i j)):=by
 intro pins s σ H x y v u Q I rx ry h
 obtain⟨i,j,rfl,rfl,q⟩:=h
 obtain⟨t,rfl⟩:=rx
 obtain⟨t',rfl⟩:=ry
 exact rule i j t t' s _ _ ⟨.int (g i j),H,I.tok _,⟨_,rfl⟩,q⟩
theorem opB0 {f:Value→Value→Sem Value}{g:Int→Int→Bool}
  (rule:∀(i j:Int) (t u:Tok) (s:zas4) (Q:Value→zas4→Prop) (E:Value→zas4→Prop),Q (.bool (g i j)) s→wpAny (model X.prog X.w) X.A (f (.int i t) (.int j u)) Q E s) :
  OpR X f (rI0 fun i j=>.bl (g i j)):=by
 intro pins s σ H x y v u Q I rx ry h
 obtain⟨i,j,rfl,rfl,q⟩:=h
 obtain⟨t,rfl⟩:=rx
 obtain⟨t',rfl⟩:=ry
 exact rule i j t t' s _ _ ⟨.bl (g i j),H,I,rfl,q⟩
def CPow (i j:Int):Prop:=0≤j∧j≤1000000∧i.natAbs<2 ^ 64
theorem op_add:OpR X (binaryOp .Add) (rI0 fun i j=>.int (i+j)):=opI0 fun _ _ _ _ _ _ _ q=>add_int q
theorem op_sub:OpR X (binaryOp .Sub) (rI0 fun i j=>.int (i - j)):=opI0 fun _ _ _ _ _ _ _ q=>sub_int q
theorem op_modN:OpR X (binaryOp .Mod) (rI (fun _ j=>j≠0) fun i j=>.int (i.fmod j)):=opI fun _ _ _ _ _ _ _ hc q=>mod_int' hc q
theorem op_pow:OpR X (binaryOp .Pow) (rI CPow fun i j=>.int (i ^ j.toNat)):=opI fun _ _ _ _ _ _ _ hc q=>pow_int_small hc.1 hc.2.1 hc.2.2 q
end
noncomputable def scal:V→V→Bool
 |.non,.non=>true | .non,.int _=>true | .int _,.non=>true | .non,.bl _=>true | .bl _,.non=>true | .non,.str _=>true | .str _,.non=>true
 |.int _,.int _=>true | .bl _,.bl _=>true | .str _,.str _=>true | .byt _,.byt _=>true
 |.int _,.str _=>true | .str _,.int _=>true | .bl _,.str _=>true | .str _,.bl _=>true
 |_,_=>false
def rEq:R2:=fun x y H Q=>scal x y=true∧Q (.bl (decide (x=y))) H
def rNe:R2:=fun x y H Q=>scal x y=true∧Q (.bl (!decide (x=y))) H
theorem zao8 {i j:Int}:decide (V.int i=V.int j)=(i == j):=by
 rw [zaw6]
 simp
theorem dec_bl {i j:Bool}:decide (V.bl i=V.bl j)=(i == j):=by
 rw [zaw6]
 simp
theorem zao7 {i j:Str}:decide (V.str i=V.str j)=(i == j):=by
 rw [zaw6]
 simp
theorem zao9 {i j:Array UInt8}:decide (V.byt i=V.byt j)=(i.toList == j.toList):=by
 rw [zaw6]
 cases i
 cases j
 simp
section
variable {X:Cx}{a b c:Expr}{ta tb tc:TE}{pos:Pos}
theorem zc6 {pins:List (Addr×Obj)}{σ:St}{H:Hp}{s:zas4}{Q:VK}{k k':Bool} (I:Inv X pins σ H s) (q:Q (.bl k) H) (e:k=k'):EP X pins σ Q (.bool k') s:=by
 subst e
 exact⟨.bl k,H,I,rfl,q⟩
theorem op_eq:OpR X (compareOp .Eq) rEq:=by
 intro pins s σ H x y v u Q I rx ry h
 obtain⟨hs,q⟩:=h
 cases x with
 |non =>
  cases rx
  cases y with
  |non=>cases ry;exact PySem.EqNone.eq_none_none (zc6 I q (by simp))
  |bl j=>cases ry;exact PySem.EqNone.eq_none_bool (zc6 I q (by simp))
  |int j=>obtain⟨t',rfl⟩:=ry;exact PySem.EqNone.eq_none_int (zc6 I q (by simp))
  |str j=>obtain⟨t',rfl⟩:=ry;exact PySem.EqNone.eq_none_str (zc6 I q (by simp))
  |_=>exact absurd (show false=true from hs) zas6
 |bl i =>
  cases rx
  cases y with
  |non=>cases ry;exact PySem.EqNone.eq_bool_none (zc6 I q (by simp))
  |bl j=>cases ry;exact eq_bool (zc6 I q dec_bl)
  |str j=>obtain⟨t',rfl⟩:=ry;exact PySem.EqMixed.eq_bool_str (zc6 I q (by simp))
  |_=>exact absurd (show false=true from hs) zas6
 |int i =>
  obtain⟨t,rfl⟩:=rx
  cases y with
  |non=>cases ry;exact PySem.EqNone.eq_int_none (zc6 I q (by simp))
  |int j=>obtain⟨t',rfl⟩:=ry;exact eq_int (zc6 I q zao8)
  |str j=>obtain⟨t',rfl⟩:=ry;exact PySem.EqMixed.eq_int_str (zc6 I q (by simp))
  |_=>exact absurd (show false=true from hs) zas6
 |str i =>
  obtain⟨t,rfl⟩:=rx
  cases y with
  |non=>cases ry;exact PySem.EqNone.eq_str_none (zc6 I q (by simp))
  |bl j=>cases ry;exact PySem.EqMixed.eq_str_bool (zc6 I q (by simp))
  |int j=>obtain⟨t',rfl⟩:=ry;exact PySem.EqMixed.eq_str_int (zc6 I q (by simp))
  |str j=>obtain⟨t',rfl⟩:=ry;exact eq_str (zc6 I q zao7)
  |_=>exact absurd (show false=true from hs) zas6
 |byt i =>
  obtain⟨t,rfl⟩:=rx
  cases y with
  |byt j=>obtain⟨t',rfl⟩:=ry;exact PySem.W.eq_bytes (zc6 I q zao9)
  |_=>exact absurd (show false=true from hs) zas6
 |_=>cases y<;>exact absurd (show false=true from hs) zas6
theorem op_ne:OpR X (compareOp .NotEq) rNe:=by
 intro pins s σ H x y v u Q I rx ry h
 obtain⟨hs,q⟩:=h
 cases x with
 |non =>
  cases rx
  cases y with
  |non=>cases ry;exact PySem.EqNone.ne_none_none (zc6 I q (by simp))
  |bl j=>cases ry;exact PySem.EqNone.ne_none_bool (zc6 I q (by simp))
  |int j=>obtain⟨t',rfl⟩:=ry;exact PySem.EqNone.ne_none_int (zc6 I q (by simp))
  |str j=>obtain⟨t',rfl⟩:=ry;exact PySem.EqNone.ne_none_str (zc6 I q (by simp))
  |_=>exact absurd (show false=true from hs) zas6
 |bl i =>
  cases rx
  cases y with
  |non=>cases ry;exact PySem.EqNone.ne_bool_none (zc6 I q (by simp))
  |bl j=>cases ry;exact ne_bool (zc6 I q (congrArg not dec_bl))
  |str j=>obtain⟨t',rfl⟩:=ry;exact PySem.EqMixed.ne_bool_str (zc6 I q (by simp))
  |_=>exact absurd (show false=true from hs) zas6
 |int i =>
  obtain⟨t,rfl⟩:=rx
  cases y with
  |non=>cases ry;exact PySem.EqNone.ne_int_none (zc6 I q (by simp))
  |int j=>obtain⟨t',rfl⟩:=ry;exact ne_int (zc6 I q (congrArg not zao8))
  |str j=>obtain⟨t',rfl⟩:=ry;exact PySem.EqMixed.ne_int_str (zc6 I q (by simp))
  |_=>exact absurd (show false=true from hs) zas6
 |str i =>
  obtain⟨t,rfl⟩:=rx
  cases y with
  |non=>cases ry;exact PySem.EqNone.ne_str_none (zc6 I q (by simp))
  |bl j=>cases ry;exact PySem.EqMixed.ne_str_bool (zc6 I q (by simp))
  |int j=>obtain⟨t',rfl⟩:=ry;exact PySem.EqMixed.ne_str_int (zc6 I q (by simp))
  |str j=>obtain⟨t',rfl⟩:=ry;exact ne_str (zc6 I q (congrArg not zao7))
  |_=>exact absurd (show false=true from hs) zas6
 |byt i =>
  obtain⟨t,rfl⟩:=rx
  cases y with
  |byt j=>obtain⟨t',rfl⟩:=ry;exact PySem.W.ne_bytes (zc6 I q (congrArg not zao9))
  |_=>exact absurd (show false=true from hs) zas6
 |_=>cases y<;>exact absurd (show false=true from hs) zas6
theorem op_lt:OpR X (compareOp .Lt) (rI0 fun i j=>.bl (decide (i<j))):=opB0 fun _ _ _ _ _ _ _ q=>lt_int q
theorem op_gt:OpR X (compareOp .Gt) (rI0 fun i j=>.bl (decide (j<i))):=opB0 fun _ _ _ _ _ _ _ q=>gt_int q
theorem nomark (b:Expr) {op:CmpOp} (h:op≠.In:=by decide) (h2:op≠.NotIn:=by decide):behindInMarks op b=false:=by
 have e1:(op == CmpOp.In)=false:=by cases op<;>first | rfl | exact absurd rfl h
 have e2:(op == CmpOp.NotIn)=false:=by cases op<;>first | rfl | exact absurd rfl h2
 cases b<;>simp [behindInMarks,e1,e2]
noncomputable def TruV (K:zaq9) (x:V) (H:Hp) (k:Bool):Prop :=
 match x with
 |.non=>k=false
 |.bl b=>k=b
 |.int i=>k=(i != 0)
 |.str y=>y.length≤sizeLine∧k=((y.length:Int) != 0)
 |.byt y=>y.size≤sizeLine∧k=((y.size:Int) != 0)
 |.ref p=>(∃xs,SqL K H p xs∧k=!xs.isEmpty)∨(∃xs,SqT K H p xs∧k=!xs.isEmpty)∨∃kvs,H p=some (.dK kvs)∧k=!kvs.isEmpty
 |_=>False
theorem zai1 {κ:Type}{kvs:List (κ×V)}{vs:List (κ×Value)} (r:KV kvs vs):(!vs.isEmpty)=!kvs.isEmpty:=by
 cases r<;>rfl
theorem zt4 {xs:List V}{its:List Value} (r:Vals xs its):(!its.toArray.isEmpty)=!xs.isEmpty:=by
 cases r<;>simp
theorem zx4:(sizeLine:Nat)<2 ^ 63:=by rw [sizeLine_eq];decide
theorem tru_ok:TruR X (fun x H Q => ∃k,TruV X.K x H k∧Q k H):=by
 intro pins s σ H x v Q I rx h
 obtain⟨k,e,q⟩:=h
 have hl:=zx4
 have hs:sizeLine=16777216:=sizeLine_eq
 cases x with
 |non =>
  cases rx
  have e':k=false:=e
  subst e'
  exact truthy_none ⟨H,I,q⟩
 |bl b =>
  cases rx
  have e':k=b:=e
  subst e'
  exact wpAny_truthy_bool ⟨H,I,q⟩
 |int i =>
  obtain⟨t,rfl⟩:=rx
  have e':k=(i != 0):=e
  subst e'
  exact PySem.P.truthy_int ⟨H,I,q⟩
 |str y =>
  obtain⟨t,rfl⟩:=rx
  obtain⟨hy,e'⟩:y.length≤sizeLine∧k=((y.length:Int) != 0):=e
  subst e'
  exact PySem.P.truthy_str (by lia) ⟨H,I.tok _,q⟩
 |byt y =>
  obtain⟨t,rfl⟩:=rx
  obtain⟨hy,e'⟩:y.size≤sizeLine∧k=((y.size:Int) != 0):=e
  subst e'
  exact PySem.W.truthy_bytes (by lia) ⟨H,I.tok _,q⟩
 |ref p =>
  cases rx
  have e':(∃xs,SqL X.K H p xs∧k=!xs.isEmpty)∨(∃xs,SqT X.K H p xs∧k=!xs.isEmpty)∨∃kvs,H p=some (.dK kvs)∧k=!kvs.isEmpty:=e
  rcases e' with ⟨xs,hx,e'⟩ | ⟨xs,hx,e'⟩ | ⟨kvs,hx,e'⟩
  ·subst e'
   obtain⟨its,r,pl,hz⟩:=I.list hx
   have hlen:=r.length
   exact wpAny_truthy_list pl.isList (by simp only [zas8];lia) ⟨H,I.tok _,by rw [zt4 r];exact q⟩
  ·subst e'
   obtain⟨its,r,pl,hz⟩:=I.tuple hx
   have hlen:=r.length
   exact truthy_tuple pl (by simp only [zas8];lia) ⟨H,I.tok _,by rw [zt4 r];exact q⟩
  ·subst e'
   obtain⟨hz,hS,vs,r,m⟩:kvs.length≤sizeLine∧(p == sysModules)=false∧∃vs,KV kvs vs∧s.heap.DictOf (zd8 X.prog X.w) p vs:=I.hok p _ hx
   have hlen:kvs.length=vs.length:=Paired.length r
   exact wpAny_truthy_dict hS m (by lia) ⟨H,I.tok _,by rw [zai1 r];exact q⟩
 |_=>exact (show False from e).elim
theorem pt_truth (ha:PE X a ta) (he:∀whole,isTrue a X.env whole=(do let v ← whole;standAt a.pos;holding [v] (truthy v))) :
  PT X a (fun σ H Q=>ta σ H fun x H' => ∃k,TruV X.K x H' k∧Q k H'):=by
 intro pins s σ H Q I h
 exact isTrue_plain (thn (ha pins s σ H _ I h) fun v s1 ⟨x,H1,I1,r1,q1⟩=>tru_ok pins s1 σ H1 x v Q I1 r1 q1) (he _)
theorem vals1 {x:V}{us:List Value} (r:Vals [x] us):∃u,us=[u]∧RelV x u:=by
 cases r with
 |cons r1 r2=>cases r2;exact⟨_,rfl,r1⟩
theorem vals2 {x y:V}{us:List Value} (r:Vals [x,y] us):∃u w',us=[u,w']∧RelV x u∧RelV y w':=by
 cases r with
 |cons r1 r2 =>
  cases r2 with
  |cons r3 r4=>cases r4;exact⟨_,_,rfl,r1,r3⟩
end
end L2
namespace L2
open PySem.Spec
structure ObjM (h:Heap) (x dx C:Addr) (mA:Str→Option Value):Prop where
 obj:h.get? x=some (zbc3 C dx)
 ns:h.Ns1 dx mA
 ne:dx≠x
theorem zam4 {h:Heap}{dx:Addr}{mA:Str→Option Value} (n:h.Ns1 dx mA):∃od,h.get? dx=some od∧∀name,zbd5 name od=some (mA name):=by
 obtain⟨o,es,ep,ho,hd,hk,_,hm⟩:=n
 refine⟨o,ho,fun name=>?_⟩
 have e:=hm name
 unfold nsFind findBy at e
 rw [← Array.find?_toList]at e
 unfold zbd5
 rw [hd]
 dsimp only
 split
 ·rename_i y q
  rw [q]at e
  exact congrArg some e
 ·rename_i q
  rw [q]at e
  have a:es.toList.any (·.refKey)=false:=by
   rw [List.any_eq_false]
   intro y hy
   obtain⟨z,t,hkey⟩:=hk y (Array.mem_toList_iff.mp hy)
   simp [DictEntry.refKey,hkey]
  have a' : ¬ es.toList.any (·.refKey)=true:=by rw [a];exact zas6
  rw [if_neg a']
  exact congrArg some e
theorem ObjM.look {h:Heap}{x dx C:Addr}{mA:Str→Option Value} (I:ObjM h x dx C mA):∃od,PySem.W.InstAt h x (zbc3 C dx) C (some od)∧∀name,zbd5 name od=some (mA name) :=
 let ⟨od,ho,hl⟩:=zam4 I.ns
 ⟨od,⟨I.obj,rfl,rfl,ho⟩,hl⟩
section
variable {prog:Program}{w:World}{A:Around}{E:Value→zas4→Prop}{s:zas4}{K:zaq9}{x dx C f:Addr}{mA:Str→Option Value}{name:Str}{v:Value}
theorem get_map {expr:Bool}{Q:Value→zas4→Prop} (X:K.In s.heap) (I:ObjM s.heap x dx C mA) (hg:zbe6 K C name=true) (hh:zbe1 K C=true)
  (ha:zay8 K (.ref C) name=some none) (hv:mA name=some v) (hv':PySem.W.handedIn v=true) (h:Q v { s with toks:=s.toks+1 }) :
  wpAny (model prog w) A (getAttr (.ref x) name expr) Q E s:=by
 obtain⟨od,J,hl⟩:=I.look
 exact PySem.W.get_value X J (PySem.W.plainGet_of hg).1 (PySem.W.findObj_own hh ha rfl (by rw [hl,hv])) hv' h
end
structure Cls (K:zaq9) (C:Addr):Prop where
 pg:zbe6 K C Str.empty=true
 hd:zbe1 K C=true
 po:PySem.W.plainOver K C=true
 sa:zay8 K (.ref C) "__setattr__"=some (some (.builtin "object.__setattr__"))
structure Con (K:zaq9) (C:Addr) (f:Str) (v:V) (u:Value):Prop where
 at_:zay8 K (.ref C) f=some (some u)
 rel:RelV v u
 get:zbe2 K u "__get__"=some none
 cp:PySem.W.copiedNames.contains f=false
structure Meth (K:zaq9) (C:Addr) (m:Str) (f:Addr):Prop where
 at_:zay8 K (.ref C) m=some (some (.ref f))
 fn:PySem.W.isFn K (.ref f)=true
 kp:zav3 K (.ref f)=true
section
variable {X:Cx}{pins:List (Addr×Obj)}{σ:St}{H:Hp}{s:zas4}{A:Around}{E:Value→zas4→Prop}{Q:Value→zas4→Prop}{c:Value}{b:Bool}
inductive TyOf (K:zaq9) (H:Hp):V→Value→Prop where
 |non:TyOf K H .non (.type "NoneType")
 |bl (x:Bool):TyOf K H (.bl x) (.type "bool")
 |int (i:Int):TyOf K H (.int i) (.type "int")
 |str (x:Str):TyOf K H (.str x) (.type "str")
 |flt (x:UInt64):TyOf K H (.flt x) (.type "float")
 |lst {a:Addr}{xs:List V} (e:H a=some (.lst xs)):TyOf K H (.ref a) (.type "list")
 |frz {a:Addr}{o:Obj}{xs:List V} (e:H a=some (.frz o (.lst xs))):TyOf K H (.ref a) (.type "list")
 |tup {a:Addr}{xs:List V} (e:H a=some (.tup xs)):TyOf K H (.ref a) (.type "tuple")
 |dK {a:Addr}{kvs:List (Key×V)} (e:H a=some (.dK kvs)):TyOf K H (.ref a) (.type "dict")
 |dT {a:Addr}{kvs:List (List Key×V)} (e:H a=some (.dT kvs)):TyOf K H (.ref a) (.type "dict")
 |ins {a C dx:Addr}{fs:List (Str×V)} (e:H a=some (.ins C dx fs)) (cl:Cls K C) (ha:zay8 K (.ref C) "__class__"=some (some (.builtin "object.__class__")))
   (hn:zbe2 K (.builtin "object.__class__") "__get__"=some (some (.builtin "getset_descriptor.__get__"))) (htk:PySem.W.takesIn K (.builtin "object.__class__")=some true)
   (hm:PySem.W.mroIn K C (.type "object")=some true):TyOf K H (.ref a) (.ref C)
end
end L2
namespace L2
open PySem.Spec
structure Room (k:Nat) (A:Around):Prop where
 hd:A.handled=none
 dp:A.depth+3*k+5<recursionLimit
 un:A.units+16*k+200<cLine
theorem Room.mono {j k:Nat}{A:Around} (r:Room k A) (h:j≤k):Room j A:=⟨r.hd,by have:=r.dp;lia,by have:=r.un;lia⟩
theorem Room.deeper {k:Nat}{A:Around} (r:Room (k+1) A) (env:Env):Room k (A.deeper env) :=
 ⟨r.hd,by have:=r.dp;show A.depth+1+3*k+5<_;lia,by have:=r.un;show A.units+3+16*k+200<_;lia⟩
theorem Room.depth {k:Nat}{A:Around} (r:Room k A):A.depth<recursionLimit:=by have:=r.dp;lia
theorem Room.units {k:Nat}{A:Around} (r:Room k A):A.units+64<cLine:=by have:=r.un;lia
def tNil:TA:=fun _ H Q=>Q [] H
def tCons (ta:TE) (tr:TA):TA:=fun σ H Q=>ta σ H fun x H1=>tr σ H1 fun xs H2=>Q (x::xs) H2
section
variable {X:Cx}{e:Expr}{es:List Expr}{te:TE}{t:TA}{pos:Pos}
theorem zl6:PA X [] tNil:=fun _ _ _ _ H Q I h=>Calls.spliced_nil ⟨[],H,I,.nil,h⟩
theorem zh9 (ha:PE X e te) (hr:PA X es t) (hs:zat2 (e::es) X.env=(false,eval e X.env)::zat2 es X.env:=by rfl):PA X (e::es) (tCons te t):=by
 intro pos pins s σ H Q I h
 rw [hs]
 show wpAny _ _ (spliced ((false,eval e X.env)::zay7 pos (zat2 es X.env))) _ _ s
 refine Calls.spliced_cons (thn (ha pins s σ H _ I h) fun u s1 ⟨x,H1,I1,r1,q1⟩=>?_)
 exact thn (hr pos pins s1 σ H1 _ I1 q1) fun us s2 ⟨xs,H2,I2,r2,q2⟩=>⟨x::xs,H2,I2,.cons r1 r2,q2⟩
def tTup (t:TA):TE:=fun σ H Q=>t σ H fun xs H1=>xs.length≤sizeLine∧∀p,H1 p=none→Q (.ref p) (upd H1 p (.tup xs))
def tLst (t:TA):TE:=fun σ H Q=>t σ H fun xs H1=>xs.length≤sizeLine∧∀p,H1 p=none→Q (.ref p) (upd H1 p (.lst xs))
theorem pe_tup {x1} (h:PA X es t):PE X (.Tuple es x1 pos) (tTup t):=by
 intro pins s σ H Q I hq
 refine wpAny_Tuple_spliced (thn (h pos pins s σ H _ I hq) fun us s1 ⟨xs,H1,I1,r,z,q⟩=>⟨by rw [← r.length];exact z,?_⟩)
 have hf:H1 s1.heap.objs.size=none:=I1.hok.fresh (zat4 _)
 refine⟨.ref s1.heap.objs.size,upd H1 s1.heap.objs.size (.tup xs),I1.laid (t':=s1.toks) (fun b u e=>zas3 _ e) (zat4 _) ?_,rfl,q _ hf⟩
 exact⟨z,us,r,⟨_,zav0 _ rfl,rfl,_,rfl⟩⟩
theorem pe_lst (h:PA X es t):PE X (.List es pos) (tLst t):=by
 intro pins s σ H Q I hq
 refine wpAny_List_spliced (thn (h pos pins s σ H _ I hq) fun us s1 ⟨xs,H1,I1,r,z,q⟩=>⟨by rw [← r.length];exact z,?_⟩)
 have hf:H1 s1.heap.objs.size=none:=I1.hok.fresh (zat4 _)
 refine⟨.ref s1.heap.objs.size,upd H1 s1.heap.objs.size (.lst xs),I1.laid (t':=s1.toks) (fun b u e=>zas3 _ e) (zat4 _) ?_,rfl,q _ hf⟩
 exact⟨z,us,0,r,zav0 _ rfl⟩
end
abbrev Sp:=List V→Hp→VK→XK→Prop
abbrev CXT:=List Env→Hp→zas4→XK→Value→zas4→Prop
structure Env0 (P:Program) (w:World) (K:zaq9) (mg:Str→Option Value) (base:BHeap) (A:Around) (outer:List Env) (s:zas4) (H:Hp):Prop where
 frames:A.frames=some outer
 mod:Mod K mg base
 bs:∀b o,base.get? b=some o→s.heap.get? b=some o∧H b=none
 bsz:base.objs.size≤s.heap.objs.size
 funs:s.heap.FunFrames base outer
 frf:∀b∈frs outer,H b=none
 hok:HOk P w H s.heap
 bare:AllBare s.gens
 tabs:∀p∈base.tabs,H p.1=some (.tbl p.2)
noncomputable def CE (outer:List Env) (P:Program) (w:World) (H:Hp) (s:zas4) (Q:VK) (u:Value) (s':zas4):Prop :=
 ∃v H',s'.os=s.os∧AllBare s'.gens∧Un (frs outer) [] H H' s.heap s'.heap∧HOk P w H' s'.heap∧RelV v u∧Q v H'
noncomputable def CR (CX:CXT) (outer:List Env) (P:Program) (w:World) (H:Hp) (s:zas4) (Q:VK) (E:XK) (r:Result) (s':zas4):Prop :=
 match r with
 |.ok (.ret u)=>CE outer P w H s Q u s'
 |.ok _=>False
 |.error e=>CX outer H s E e s'
structure FnOk (P:Program) (w:World) (K:zaq9) (mg:Str→Option Value) (base:BHeap) (CX:CXT) (k:Nat) (f:Addr) (fd:FuncData) (ps:List Str) (sp:Sp):Prop where
 len:∀vs H Q E,sp vs H Q E→vs.length=ps.length
 run:∀(A:Around) (outer:List Env) (s:zas4) (H:Hp) (args:Args) (us:List Value) (vs:List V) (Q:VK) (E:XK),Room k A→Env0 P w K mg base A outer s H→BindsTo s fd args (ps.zip us)→Vals vs us→sp vs H Q E →
  codeAny (model P w) A (.call (.ref f) args) (CR CX outer P w H s Q E) s
section
variable {X:Cx}{pins:List (Addr×Obj)}{σ:St}{H:Hp}{s s':zas4}
theorem Inv.env0 (I:Inv X pins σ H s):Env0 X.prog X.w X.K X.mg X.base X.A X.stack s H :=
 ⟨I.ok.frames,I.ok.mod,I.bs,zaw5 I.ok.bsz I.sz,I.stack,I.stkFree,I.hok,I.bare,fun p hp=>I.base.tbls _ _ (I.ok.tabs p hp)⟩
theorem Inv.after {Q:VK}{u:Value} (I:Inv X pins σ H s) (h:CE X.stack X.prog X.w H s Q u s'):EP X pins σ Q u s':=by
 obtain⟨v,H',os,bare,un,hok,r,q⟩:=h
 obtain⟨hh,g,d,t,os'⟩:=s'
 obtain rfl:os'=s.os:=os
 exact⟨v,H',I.call (h':=hh) (g':=g) (d':=d) (t':=t) (ch:=[]) un hok bare (fun b z=>absurd z (by simp)),r,q⟩
end
def tCall (sp:Sp) (dvs:List V) (E:XK) (t:TA):TE:=fun σ H Q=>t σ H fun vs H1=>sp (vs++dvs) H1 Q E
noncomputable def Binds (K:zaq9) (fd:FuncData) (ps:List Str) (ds:List Value):Prop :=
 ∀(s:zas4) (us:List Value),K.In s.heap→(us++ds).length=ps.length→BindsTo s fd ⟨us,[]⟩ (ps.zip (us++ds))
theorem Binds.all {K:zaq9}{fd:FuncData}{ps:List Str} (h:∀us:List Value,us.length=ps.length→bindArgs fd ⟨us,[]⟩=pure (ps.zip us)):Binds K fd ps []:=fun s us _ hl=>by
 rw [zau6]at hl ⊢
 exact .of_eq (h us hl)
noncomputable def zaq7 (CX:CXT) (X:Cx) (E:XK):Prop := ∀(pins:List (Addr×Obj)) (σ:St) (H:Hp) (s:zas4) (e:Value) (s':zas4),Inv X pins σ H s→CX X.stack H s E e s'→X.xe e s'
section
variable {X:Cx}{CX:CXT}{k:Nat}{f C:Addr}{fd:FuncData}{ps:List Str}{sp:Sp}{dvs:List V}{ds:List Value}{E:XK}{x m:Str}{p pos apos:Pos}{e o:Expr}{es:List Expr}{ta:TE}{t:TA}
theorem run_fn {pins:List (Addr×Obj)}{σ:St}{H:Hp}{s:zas4}{Q:VK}{us:List Value}{vs:List V} (F:FnOk X.prog X.w X.K X.mg X.base CX k f fd ps sp) (hr:Room k X.A) (hb:Binds X.K fd ps ds) (hd:Vals dvs ds) (hx:zaq7 CX X E)
  (I:Inv X pins σ H s) (r:Vals vs us) (h:sp (vs++dvs) H Q E):wpAny (model X.prog X.w) X.A (call (.ref f) us) (EP X pins σ Q) X.xe s:=by
 have r2:Vals (vs++dvs) (us++ds):=r.append hd
 have hl:(us++ds).length=ps.length:=by rw [← r2.length];exact F.len _ _ _ _ h
 refine wpAny_call (codeAny_mono (F.run X.A X.stack s H ⟨us,[]⟩ (us++ds) (vs++dvs) Q E hr I.env0 (hb s us I.kIn hl) r2 h) fun r s' hq=>?_)
 cases r with
 |error e=>exact hx pins σ H s e s' I hq
 |ok fl =>
  cases fl with
  |ret u=>exact I.after hq
  |next=>exact False.elim hq
  |brk=>exact False.elim hq
  |cont=>exact False.elim hq
theorem pe_call (F:FnOk X.prog X.w X.K X.mg X.base CX k f fd ps sp) (hr:Room k X.A) (hg:Gl X x) (hm:X.mg x=some (.ref f)) (hk:zav3 X.K (.ref f)=true) (hb:Binds X.K fd ps ds) (hd:Vals dvs ds) (hx:zaq7 CX X E)
  (ha:PA X (e::es) t) (hdb:(x ==("__debug__":Str))=false:=by decide) (he:zat2 (e::es) X.env=(false,eval e X.env)::zat2 es X.env:=by rfl) (hpl:(zay7 pos (zat2 es X.env)).any (·.1)=false:=by rfl) :
  PE X (.Call (.Name x p) (e::es) [] pos) (tCall sp dvs E t):=by
 intro pins s σ H Q I h
 refine wpAny_Call_Name_kw (ld_glob I hg hm ?_ hdb)
 refine PySem.W.callWith_K (h₀:=X.base) I.ok.mod.kin hk (thn (ha pos pins s σ H _ I h) fun us s1 ⟨vs,H1,I1,r,q⟩=>⟨I1.kIn,?_⟩) he hpl
 exact run_fn F hr hb hd hx I1 r q
structure Mk (K:zaq9) (C f:Addr):Prop where
 makes:PySem.W.makesIn K C=true
 init:zay8 K (.ref C) "__init__"=some (some (.ref f))
 fn:PySem.W.isFn K (.ref f)=true
 kp:zav3 K (.ref C)=true
end
section
variable {X:Cx}{CX:CXT}{k:Nat}{f C:Addr}{fd:FuncData}{ps ks:List Str}{sp:Sp}{E:XK}{x m:Str}{p pos apos kpos:Pos}{e o:Expr}{es:List Expr}{kws:List Keyword}{te ta:TE}{t tk:TA}{nm:Option Str}
structure KBinds (K:zaq9) (fd:FuncData) (ps ks:List Str) (g:List Value→List Value→List Value) (gV:List V→List V→List V):Prop where
 to:∀(s:zas4) (us ws:List Value),K.In s.heap→(g us ws).length=ps.length→BindsTo s fd ⟨us,ks.zip ws⟩ (ps.zip (g us ws))
 rel:∀ {vs:List V}{us:List Value}{zs:List V}{ws:List Value},Vals vs us→Vals zs ws→Vals (gV vs zs) (g us ws)
variable {g:List Value→List Value→List Value}{gV:List V→List V→List V}
end
structure FnScope (N P:List Str) (sc:Scope):Prop where
 kind:sc.kind=.function
 co:sc.isCoroutine=false
 gen:sc.isGenerator=false
 nd:N.Nodup
 pre:N.take P.length=P
 par:∀x∈P,sc.names.lookup x=some .local∨sc.names.lookup x=some .cell
 nofree:∀y∈sc.names,y.2≠.free
theorem zz3 {kindOf:Str→Option NameKind}{x:Str}:∀ {binds:List (Str×Value)}{m:Str→Option Value},(∀v,(x,v)∉binds)→bindL kindOf binds m x=m x
 |[],_,_=>rfl
 |(n,v)::r,m,h=>by
  unfold bindL
  rw [zz3 fun w hw=>h w (zar1 _ hw)]
  split
  ·have:x≠n:=by rintro rfl;exact h v zar4
   simp [this]
  ·rfl
theorem zz5 {kindOf:Str→Option NameKind}{x:Str}:∀ {binds:List (Str×Value)}{m:Str→Option Value},(∀v,(x,v)∉binds)→bindC kindOf binds m x=m x
 |[],_,_=>rfl
 |(n,v)::r,m,h=>by
  unfold bindC
  rw [zz5 fun w hw=>h w (zar1 _ hw)]
  split
  ·rfl
  ·have:x≠n:=by rintro rfl;exact h v zar4
   simp [this]
theorem zz4 {kindOf:Str→Option NameKind}{x:Str}{v:Value}:∀ {P:List Str}{vs:List Value}{i:Nat}{m:Str→Option Value},P.Nodup→P[i]?=some x→vs[i]?=some v→kindOf x=some .local →
  bindL kindOf (P.zip vs) m x=some v
 |[],_,_,_,_,h,_,_=>by simp at h
 |_::_,[],_,_,_,_,h,_=>by simp at h
 |p::P,w::vs,0,m,nd,h1,h2,hk=>by
  simp at h1 h2;subst h1;subst h2
  show bindL kindOf ((p,w)::P.zip vs) m p=_
  unfold bindL
  rw [zz3 fun v hv=>(zat3.mp nd).1 (zbc4 hv).1,if_pos hk]
  simp
 |p::P,w::vs,i+1,m,nd,h1,h2,hk=>by
  show bindL kindOf ((p,w)::P.zip vs) m x=_
  unfold bindL
  exact zz4 (i:=i) (zat3.mp nd).2 (by simpa using h1) (by simpa using h2) hk
theorem zz6 {kindOf:Str→Option NameKind}{x:Str}{v:Value}:∀ {P:List Str}{vs:List Value}{i:Nat}{m:Str→Option Value},P.Nodup→P[i]?=some x→vs[i]?=some v→kindOf x≠some .local →
  bindC kindOf (P.zip vs) m x=some v
 |[],_,_,_,_,h,_,_=>by simp at h
 |_::_,[],_,_,_,_,h,_=>by simp at h
 |p::P,w::vs,0,m,nd,h1,h2,hk=>by
  simp at h1 h2;subst h1;subst h2
  show bindC kindOf ((p,w)::P.zip vs) m p=_
  unfold bindC
  rw [zz5 fun v hv=>(zat3.mp nd).1 (zbc4 hv).1,if_neg hk]
  simp
 |p::P,w::vs,i+1,m,nd,h1,h2,hk=>by
  show bindC kindOf ((p,w)::P.zip vs) m x=_
  unfold bindC
  exact zz6 (i:=i) (zat3.mp nd).2 (by simpa using h1) (by simpa using h2) hk
def start (N:List Str) (vs:List V):St:=vs.map some++zar6 (N.length - vs.length) none
noncomputable def cxOf (CX:CXT) (P:Program) (w:World) (K:zaq9) (mg:Str→Option Value) (base:BHeap) (N:List Str) (qual:Str) (scope:Scope) (f:Addr) (cd:Value) (A:Around) (outer:List Env) (s:zas4) (H:Hp) (E:XK):Cx where
 prog:=P
 w:=w
 K:=K
 mg:=mg
 base:=base
 A:=A.deeper (envOfC qual scope s.heap.objs.size f cd)
 N:=N
 s₀:=s
 H₀:=H
 env:=envOfC qual scope s.heap.objs.size f cd
 outer:=outer
 stack:=envOfC qual scope s.heap.objs.size f cd::outer
 ex:=[]
 calm:=true
 fn:=fun _=>true
 pn:=[]
 xe:=fun e s'=>wpAny (model P w) (A.deeper (envOfC qual scope s.heap.objs.size f cd)) (leaving (envOfC qual scope s.heap.objs.size f cd) e) (fun _ s''=>CX outer H s E e s'') (fun e' s''=>CX outer H s E e' s'') s'
theorem zag5 {sc:Scope}{n:Nat}{x:Str} (h:sc.names.lookup x=some .cell):∃c,(cellsFrom n sc.names []).lookup x=some c:=by
 have q:=zbb9 sc.names n [] (.inl h)
 exact Option.isSome_iff_exists.mp q
theorem zan7 {CX:CXT}{P:Program}{w:World}{K:zaq9}{mg:Str→Option Value}{base:BHeap}{N ps:List Str}{qual:Str}{scope:Scope}{f:Addr}{cd:Value}{A:Around}{outer:List Env}{s s1:zas4}{H:Hp}{E:XK}{us:List Value}{vs:List V}
  (S:FnScope N ps scope) (hd:A.handled=none) (e0:Env0 P w K mg base A outer s H) (hl:vs.length=ps.length) (r:Vals vs us)
  (x:InCallC s s.heap.objs.size (bindL (envOfC qual scope s.heap.objs.size f cd).kindOf (ps.zip us) fun _=>none) (cellsFrom (s.heap.objs.size+1) scope.names []) (bindC (envOfC qual scope s.heap.objs.size f cd).kindOf (ps.zip us) fun _=>none) s1) :
  Inv (cxOf CX P w K mg base N qual scope f cd A outer s H E) [] (start N vs) H s1:=by
 have hpl:ps.length≤N.length:=by have:=congrArg List.length S.pre;rw [List.length_take]at this;lia
 obtain⟨h1,tk,rfl,hk⟩:=x.done
 have noA:∀b:Addr,b∉(cxOf CX P w K mg base N qual scope f cd A outer s H E).ex:=fun b z=>absurd (show b∈([]:List Addr) from z) (by simp)
 refine⟨⟨e0.mod,S.kind,rfl,rfl,zat4 _,fun y z c h1 h2=>?_,fun y hy=>?_,fun y c _ h=>?_,fun _=>hd,Around.frames_deeper e0.frames,.inr ⟨rfl,rfl⟩,fun b z=>absurd z (noA b),e0.bs,e0.bsz,fun b _ _=>noA b,fun b z=>absurd z (noA b),e0.funs,e0.frf,e0.tabs⟩,
  rfl,e0.bare,Un.kept hk,⟨_,x.toInCall.ns,fun i y v h1 h2 h3=>?_⟩,fun y c h=>⟨_,x.cell y c h⟩,e0.hok.fresh (zat4 _),fun y c h=>?_,fun p hp=>absurd (show p∈([]:List (Addr×Obj)) from hp) (by simp),e0.hok.kept hk,?_⟩
 ·exact name_of_addr x.apart (PySem.mem_of_lookup h1) (PySem.mem_of_lookup h2)
 ·have hy:scope.names.lookup y=some .cell∨scope.names.lookup y=some .free:=hy
  rcases hy with hy | hy
  ·exact zag5 hy
  ·exact absurd rfl (S.nofree _ (PySem.mem_of_lookup hy))
 ·exact zba6 (x.above y c (PySem.mem_of_lookup h))
 ·have hi:i<vs.length:=by
   unfold start at h2
   by_cases hi:i<vs.length
   ·exact hi
   ·rw [zaw7 (by simpa using hi)]at h2
    rw [zat8]at h2
    split at h2<;>cases h2
  have ha:vs[i]?=some v:=by
   unfold start at h2
   rw [zaw9 (by simpa using hi),zat7]at h2
   cases e:vs[i]? with
   |none=>rw [e]at h2;cases h2
   |some a=>rw [e]at h2;cases h2;rfl
  obtain⟨u,hu,rv⟩:=r.get ha
  have hp:ps[i]?=some y:=by
   rw [← S.pre,List.getElem?_take_of_lt (by lia)];exact h1
  have ndP:ps.Nodup:=by rw [← S.pre];exact S.nd.sublist (List.take_sublist _ _)
  refine⟨u,rv,?_⟩
  rcases S.par y (zbc9 hp) with k | k
  ·exact .inl ⟨k,zz4 ndP hp hu k⟩
  ·obtain⟨c,e⟩:=zag5 (n:=s.heap.objs.size+1) k
   refine .inr ⟨.inl k,c,e,?_⟩
   have q:=x.cell y c e
   rw [zz6 ndP hp hu (by show scope.names.lookup y≠_;rw [k];decide)]at q
   exact q
 ·exact e0.hok.fresh (zba6 (x.above y c (PySem.mem_of_lookup h)))
 ·unfold start
  show _=N.length
  rw [zat5,zas7,zay1]
  lia
theorem fn_of {CX:CXT}{P:Program}{w:World}{K:zaq9}{mg:Str→Option Value}{base:BHeap}{k:Nat}{f:Addr}{name qual:Str}{params:Arguments}{body:List Stmt}{scope:Scope}{dV kV doc pm cdv ct oc:Value}{an od:Option Addr}
  {osl:Array (Option Value)}{N ps:List Str}{sp:Sp} (lk:K.lookup f=some ⟨oc,od,.func (zav8 name qual params body scope dV kV doc pm an cdv ct),osl⟩) (hcd:zba8 K cdv qual=true) (S:FnScope N ps scope)
  (len:∀vs H Q E,sp vs H Q E→vs.length=ps.length)
  (hbody:∀(A:Around) (outer:List Env) (s:zas4) (H:Hp) (vs:List V) (Q:VK) (E:XK),Room k (A.deeper (envOfC qual scope s.heap.objs.size f cdv))→sp vs H Q E →
   ∃t,PSs (cxOf CX P w K mg base N qual scope f cdv A outer s H E) body t∧t { nx:=fun _ H'=>Q .non H',rt:=Q } (start N vs) H) :
  FnOk P w K mg base CX (k+1) f (zav8 name qual params body scope dV kV doc pm an cdv ct) ps sp:=by
 refine⟨len,fun A outer s H args us vs Q E hr e0 hb r hsp=>?_⟩
 have hl:=len _ _ _ _ hsp
 have KX:K.In s.heap:=e0.mod.kin.keeps fun b o e=>(e0.bs b o e).1
 have lim:s.heap.NoLimit:=e0.mod.nolimit.keeps fun b o e=>(e0.bs b o e).1
 have hkind:∀y∈ps.zip us,scope.names.lookup y.1=some .local∨(scope.names.lookup y.1=some .cell∧((cellsFrom (s.heap.objs.size+1) scope.names []).lookup y.1).isSome=true):=fun ⟨n,v⟩ hy=>by
  rcases S.par n (zbc4 hy).1 with q | q
  ·exact .inl q
  ·exact .inr ⟨q,zbb9 _ _ _ (.inl q)⟩
 refine codeAny_call_function hr.depth (KX _ _ lk) rfl S.co S.gen rfl (PySem.W.codeRec_of KX hcd) (hb _ _ _ _ ?_)
 refine wpAny_newFunctionEnv_cells S.kind hkind fun env he s1 x=>?_
 subst he
 refine⟨lim.keeps x.toInCall.keep,codeAny_func ?_⟩
 obtain⟨t,ht,hq⟩:=hbody A outer s H vs Q E (hr.deeper _) hsp
 have I:Inv (cxOf CX P w K mg base N qual scope f cdv A outer s H E) [] (start N vs) H s1:=zan7 S hr.hd e0 hl r x
 refine wpAny_mono (ht [] s1 (start N vs) H _ I hq) (fun fl s' hs=>?_) fun e s' hs=>hs
 have fin:∀ {σ':St}{H':Hp}{v:V}{u:Value},Inv (cxOf CX P w K mg base N qual scope f cdv A outer s H E) [] σ' H' s'→RelV v u→Q v H'→CE outer P w H s Q u s' :=
  fun {σ' H' v u} J rv q=>⟨v,H',J.os,J.bare,J.base,J.hok,rv,q⟩
 cases fl with
 |ret u =>
  obtain⟨v,σ',H',J,rv,q⟩:=hs
  exact fin J rv q
 |next =>
  obtain⟨σ',H',J,q⟩:=hs
  exact fin (v:=V.non) (u:=Value.none) J rfl q
 |brk =>
  obtain⟨_,_,_,q⟩:=hs
  exact False.elim q
 |cont =>
  obtain⟨_,_,_,q⟩:=hs
  exact False.elim q
end L2
namespace L2
open PySem.Spec
section
variable {X:Cx}{x:Str}{p pos:Pos}{e:Expr}{es:List Expr}{t:TA}{id T:String}{r:List V→Hp→VK→Prop}
def tCB (r:List V→Hp→VK→Prop) (t:TA):TE:=fun σ H Q=>t σ H fun vs H1=>r vs H1 Q
theorem pe_callB (hc:zad1 X (.builtin id) r) (hg:Gl X x) (hm:X.mg x=none) (hv:bootBuiltins x=some (.builtin id)) (ha:PA X (e::es) t) (hn:x≠"__name__":=by decide) (hdb:(x ==("__debug__":Str))=false:=by decide)
  (he:zat2 (e::es) X.env=(false,eval e X.env)::zat2 es X.env:=by rfl) (hpl:(zay7 pos (zat2 es X.env)).any (·.1)=false:=by rfl):PE X (.Call (.Name x p) (e::es) [] pos) (tCB r t):=by
 intro pins s σ H Q I h
 refine wpAny_Call_Name_kw (zo9 I hg hm hv ?_ hn hdb)
 exact PyProof.Rows.callWith_builtin1 (thn (ha pos pins s σ H _ I h) fun us s1 ⟨vs,H1,I1,r1,q1⟩=>hc pins s1 σ H1 vs us Q I1 r1 q1) he hpl
end
end L2
namespace L2
open PySem.Spec
abbrev TO:=St→Hp→(Option Int→Hp→Prop)→Prop
theorem zo5 {ns:List Int}:∀ {us:List Value},Vals (ns.map V.int) us→IntsAre us ns:=by
 induction ns with
 |nil=>intro us r;rw [zbd0]at r;cases r;exact .nil
 |cons n ns ih =>
  intro us r
  rw [zas1]at r
  cases r with
  |cons r1 r2 =>
   obtain⟨t,e⟩:=r1
   subst e
   exact .cons n t (ih r2)
noncomputable def ixN (n:Nat) (i:Int):Option Nat:=if 0≤i then (if i<n then some i.toNat else none) else if -(n:Int)≤i then some (i+n).toNat else none
def atI {α:Type} (xs:List α) (i:Int):Option α:=(ixN xs.length i).bind fun j=>xs[j]?
theorem zan6 {n:Nat}{i:Int}{j:Nat} (h:ixN n i=some j):seqIndex? i n=some j∧j<n ∧ -(n:Int)≤i∧i<n:=by
 unfold ixN at h
 by_cases h0:0≤i
 ·rw [if_pos h0]at h
  by_cases h1:i<n
  ·rw [if_pos h1]at h
   have e:i.toNat=j:=Option.some.inj h
   exact⟨by rw [seqIndex_of h0 h1,e],by lia,by lia,h1⟩
  ·rw [if_neg h1]at h;cases h
 ·rw [if_neg h0]at h
  by_cases h1 : -(n:Int)≤i
  ·rw [if_pos h1]at h
   have e:(i+n).toNat=j:=Option.some.inj h
   exact⟨by rw [seqIndex_neg (by lia) h1,e],by lia,h1,by lia⟩
  ·rw [if_neg h1]at h;cases h
theorem zaq4 {α:Type}{xs:List α}{i:Int}{v:α} (h:atI xs i=some v):∃j,seqIndex? i xs.length=some j∧xs[j]?=some v∧j<xs.length ∧ -(xs.length:Int)≤i∧i<xs.length:=by
 unfold atI at h
 cases e:ixN xs.length i with
 |none=>rw [e]at h;cases h
 |some j =>
  rw [e]at h
  obtain⟨h1,h2,h3,h4⟩:=zan6 e
  exact⟨j,h1,h,h2,h3,h4⟩
def zad0 (b:Expr):Prop := ∀o i,subscripted b false o i=operate [o,i] (getItem o i)
noncomputable def IxR (X:Cx) (r:R2):Prop :=
 ∀(value slice:Expr) (pins:List (Addr×Obj)) (s:zas4) (σ:St) (H:Hp) (x y:V) (v u:Value) (Q:VK),Inv X pins σ H s→RelV x v→RelV y u→r x y H Q →
  subscripted slice false v u=operate [v,u] (getItem v u)→wpAny (model X.prog X.w) X.A (subscriptTail value slice v u) (EP X pins σ Q) X.xe s
noncomputable def MtR (X:Cx) (id:String) (r:V→List V→Hp→VK→Prop):Prop :=
 ∀(pins:List (Addr×Obj)) (s:zas4) (σ:St) (H:Hp) (x:V) (xs:List V) (v:Value) (us:List Value) (Q:VK),Inv X pins σ H s→RelV x v→Vals xs us→r x xs H Q →
  wpAny (model X.prog X.w) X.A (call (.builtin id) (v::us)) (EP X pins σ Q) X.xe s
section
variable {X:Cx}{a b:Expr}{ta tb:TE}{pos:Pos}
theorem IxR.or {r r':R2} (h:IxR X r) (h':IxR X r'):IxR X (fun x y H Q=>r x y H Q∨r' x y H Q):=by
 intro value slice pins s σ H x y v u Q I rx ry q hs
 rcases q with q | q
 ·exact h value slice pins s σ H x y v u Q I rx ry q hs
 ·exact h' value slice pins s σ H x y v u Q I rx ry q hs
theorem pe_ix {r:R2} (hr:IxR X r) (ha:PE X a ta) (hb:PE X b tb) (hs:zad0 b):PE X (.Subscript a b pos) (tOp r ta tb):=by
 intro pins s σ H Q I h
 exact Subscript_ (binT ha hb I h fun v u s2 x y H2 I2 rx ry q=>hr a b pins s2 σ H2 x y v u Q I2 rx ry q (hs _ _))
def rIxL (K:zaq9):R2:=fun x y H Q => ∃p xs i v,x=.ref p∧y=.int i∧SqL K H p xs∧atI xs i=some v∧Q v H
def rIxT (K:zaq9):R2:=fun x y H Q => ∃p xs i v,x=.ref p∧y=.int i∧SqT K H p xs∧atI xs i=some v∧Q v H
theorem ix_list:IxR X (rIxL X.K):=by
 intro value slice pins s σ H x y v u Q I rx ry h hs
 obtain⟨p,xs,i,z,rfl,rfl,hq,he,q⟩:=h
 cases rx
 obtain⟨t,rfl⟩:=ry
 obtain⟨its,r,pl,hz⟩:=I.list hq
 obtain⟨j,h1,h2,h3,h4,h5⟩:=zaq4 he
 obtain⟨w,ew,rw'⟩:=r.get h2
 have hl:=r.length
 have hn:=zx4
 have fin:EP X pins σ Q w s:=⟨z,H,I,rw',q⟩
 by_cases h0:0≤i
 ·have hj:i.toNat=j:=by
   rw [seqIndex_of h0 h5]at h1
   exact Option.some.inj h1
  exact item_listR pl.isList h0 (by lia) (by rw [hj];simpa using ew) fin hs
 ·have hj:(i+(its.toArray.size:Int)).toNat=j:=by
   rw [seqIndex_neg (by lia) h4]at h1
   rw [zas8, ← hl]
   exact Option.some.inj h1
  exact subscriptTail_builtinR (x:=w) pl.isList.typeIs slot_list_getitem.lookup
   (wpAny_getItem_list_neg (Q:=fun r s'=>r=w∧EP X pins σ Q r s') pl.isList (by lia) (by rw [zas8]<;>lia) (by lia) (by rw [hj];simpa using ew) ⟨rfl,fin⟩) hs
theorem ix_tup:IxR X (rIxT X.K):=by
 intro value slice pins s σ H x y v u Q I rx ry h hs
 obtain⟨p,xs,i,z,rfl,rfl,hq,he,q⟩:=h
 cases rx
 obtain⟨t,rfl⟩:=ry
 obtain⟨its,r,pl,hz⟩:=I.tuple hq
 obtain⟨j,h1,h2,h3,h4,h5⟩:=zaq4 he
 obtain⟨w,ew,rw'⟩:=r.get h2
 have hl:=r.length
 have hn:=zx4
 have fin:EP X pins σ Q w s:=⟨z,H,I,rw',q⟩
 exact subscriptTail_builtinR (x:=w) pl.typeIs slot_tuple_getitem.lookup
  (getItem_tuple (j:=j) (Q:=fun r s'=>r=w∧EP X pins σ Q r s') pl (by lia) (by lia) (by rw [zas8, ← hl];exact h1) (by simpa using ew) ⟨rfl,fin⟩) hs
theorem zah8 (its:List Value) (n j:Nat) (u:Value):Obj.mapSeq (·.setIfInBounds j u) { cls:=.type "list",data:=.seq its.toArray n }={ cls:=.type "list",data:=.seq (its.set j u).toArray n }:=by
 simp [Obj.mapSeq]
theorem Inv.lst {pins:List (Addr×Obj)}{σ:St}{H:Hp}{s:zas4}{p:Addr}{xs:List V} (I:Inv X pins σ H s) (h:H p=some (.lst xs)) :
  ∃(its:List Value) (n:Nat),Vals xs its∧s.heap.get? p=some { cls:=.type "list",data:=.seq its.toArray n }∧xs.length≤sizeLine:=by
 obtain⟨z,its,n,r,e⟩:=I.hok p _ h
 exact⟨its,n,r,e,z⟩
theorem Inv.lstUpd {pins:List (Addr×Obj)}{σ:St}{H:Hp}{s:zas4}{p:Addr}{xs ys:List V}{its its':List Value}{n n':Nat}{f:Obj→Obj} (I:Inv X pins σ H s) (h:H p=some (.lst xs))
  (ho:s.heap.get? p=some { cls:=.type "list",data:=.seq its.toArray n }) (hf:f { cls:=.type "list",data:=.seq its.toArray n }={ cls:=.type "list",data:=.seq its'.toArray n' }) (r:Vals ys its') (hz:ys.length≤sizeLine) (t:Nat) :
  Inv X pins σ (upd H p (.lst ys)) { s with heap:=s.heap.update p f,toks:=t }:=by
 have e:(s.heap.update p f).get? p=some { cls:=.type "list",data:=.seq its'.toArray n' }:=by
  rw [Heap.get?_update_self f ho (by rw [hf]<;>rfl),hf]
 refine I.write (x:=p) (e:=p) (by rw [h];trivial) (.inl rfl) (fun b u hb q=>(zau8 _ _ (Ne.symm hb)).trans q) ⟨_,e⟩ ?_
 exact⟨hz,its',n',r,e⟩
noncomputable def rSetL:V→V→V→Hp→(Hp→Prop)→Prop:=fun o i v H Q => ∃p xs k j,o=.ref p∧i=.int k∧H p=some (.lst xs)∧ixN xs.length k=some j∧Q (upd H p (.lst (xs.set j v)))
theorem set_list:PSet X rSetL:=by
 intro pins s σ H o i v ov iv u Q I ro ri rv h
 obtain⟨p,xs,k,j,rfl,rfl,hp,hj,q⟩:=h
 cases ro
 obtain⟨t,rfl⟩:=ri
 obtain⟨its,n,r,ho,hz⟩:=I.lst hp
 obtain⟨h1,h2,h3,h4⟩:=zan6 hj
 have hl:=r.length
 have hn:=zx4
 have I':Inv X pins σ (upd H p (.lst (xs.set j v))) { s with heap:=s.heap.update p (Obj.mapSeq (·.setIfInBounds j u)) } :=
  I.lstUpd hp ho (zah8 its n j u) (r.set rv j) (by rw [zba1];exact hz) s.toks
 by_cases h0:0≤k
 ·have hk:k.toNat=j:=by
   rw [seqIndex_of h0 h4]at h1
   exact Option.some.inj h1
  exact PySem.W.ki_setAt ho h0 (by lia) (by rw [zas8, ← hl];exact h4) (by rw [hk];exact⟨_,I',q⟩)
 ·have hk:(k+(its.toArray.size:Int)).toNat=j:=by
   rw [seqIndex_neg (by lia) h3]at h1
   rw [zas8, ← hl]
   exact Option.some.inj h1
  exact PySem.W.ki_setBack ho (by lia) (by rw [zas8, ← hl];exact h3) (by lia) (by rw [hk];exact⟨_,I',q⟩)
def zn8:V→Bool
 |.non=>true
 |.bl _=>true
 |.int _=>true
 |.str _=>true
 |_=>false
noncomputable def eqV:V→V→Bool
 |.non,.non=>true
 |.bl a,.bl b=>a == b
 |.bl a,.int b=>(if a then 1 else 0) == b
 |.int a,.bl b=>a ==(if b then 1 else 0)
 |.int a,.int b=>a == b
 |.str a,.str b=>a == b
 |_,_=>false
theorem zao5 {A:Around}{s:zas4}{y x:V}{u v:Value} (ry:RelV y u) (rx:RelV x v) (fy:zn8 y=true) (fx:zn8 x=true):SeqAt.EqAt A s u v (eqV y x):=by
 cases y with
 |non =>
  cases ry
  cases x with
  |non=>cases rx;exact SeqAt.EqAt.same _
  |bl b=>cases rx;exact SeqAt.EqAt.none_bool b
  |int b=>obtain⟨t,rfl⟩:=rx;exact SeqAt.EqAt.none_int b t
  |str b=>obtain⟨t,rfl⟩:=rx;exact SeqAt.EqAt.none_str b t
  |_=>exact absurd (show false=true from fx) zas6
 |bl a =>
  cases ry
  cases x with
  |non=>cases rx;exact SeqAt.EqAt.bool_none a
  |bl b=>cases rx;exact SeqAt.EqAt.bool_bool a b
  |int b=>obtain⟨t,rfl⟩:=rx;exact SeqAt.EqAt.bool_int a b t
  |str b=>obtain⟨t,rfl⟩:=rx;exact SeqAt.EqAt.bool_str a b t
  |_=>exact absurd (show false=true from fx) zas6
 |int a =>
  obtain⟨t',rfl⟩:=ry
  cases x with
  |non=>cases rx;exact SeqAt.EqAt.int_none a t'
  |bl b=>cases rx;exact SeqAt.EqAt.int_bool a t' b
  |int b=>obtain⟨t,rfl⟩:=rx;exact SeqAt.EqAt.int_int a t' b t
  |str b=>obtain⟨t,rfl⟩:=rx;exact SeqAt.EqAt.int_str a t' b t
  |_=>exact absurd (show false=true from fx) zas6
 |str a =>
  obtain⟨t',rfl⟩:=ry
  cases x with
  |non=>cases rx;exact SeqAt.EqAt.str_none a t'
  |bl b=>cases rx;exact SeqAt.EqAt.str_bool a t' b
  |int b=>obtain⟨t,rfl⟩:=rx;exact SeqAt.EqAt.str_int a t' b t
  |str b=>obtain⟨t,rfl⟩:=rx;exact SeqAt.EqAt.str_str a t' b t
  |_=>exact absurd (show false=true from fx) zas6
 |_=>exact absurd (show false=true from fy) zas6
noncomputable def eqU (x:V) (u:Value):Bool:=match u with
 |.none=>eqV .non x
 |.bool b=>eqV (.bl b) x
 |.int i _=>eqV (.int i) x
 |.str z _=>eqV (.str z) x
 |_=>false
theorem eqU_of {x y:V}{u:Value} (r:RelV y u) (f:zn8 y=true):eqU x u=eqV y x:=by
 cases y with
 |non=>cases r;rfl
 |bl b=>cases r;rfl
 |int i=>obtain⟨t,rfl⟩:=r;rfl
 |str z=>obtain⟨t,rfl⟩:=r;rfl
 |_=>exact absurd (show false=true from f) zas6
theorem zac9 {x:V}:∀ {xs:List V}{us:List Value},Vals xs us→xs.all zn8=true→us.any (eqU x)=xs.any fun y=>eqV y x
 |_,_,.nil,_=>rfl
 |y::xs,u::us,.cons r t,f=>by
  rw [zau0,zar9]at f
  rw [zaw2,zaw2,eqU_of r f.1,zac9 t f.2]
theorem zu8 {A:Around}{s:zas4}{x:V}{v:Value} (rx:RelV x v) (fx:zn8 x=true):∀ {xs:List V}{us:List Value},Vals xs us→xs.all zn8=true→∀u∈us,SeqAt.EqAt A s u v (eqU x u)
 |_,_,.nil,_=>fun u hu=>by cases hu
 |y::xs,u::us,.cons r t,f=>fun u' hu=>by
  rw [zau0,zar9]at f
  rcases zar8.mp hu with rfl | hu
  ·rw [eqU_of r f.1];exact zao5 r rx f.1 fx
  ·exact zu8 rx fx t f.2 u' hu
def inV (x:V) (xs:List V):Bool:=xs.any fun y=>eqV y x
noncomputable def rIn (K:zaq9) (neg:Bool):R2:=fun x y H Q => ∃p xs,y=.ref p∧(SqL K H p xs∨SqT K H p xs)∧zn8 x=true∧xs.all zn8=true∧Q (.bl (if neg then !inV x xs else inV x xs)) H
theorem zw7:OpR X (compareOp .In) (rIn X.K false):=by
 intro pins s σ H x y v u Q I rx ry h
 obtain⟨p,xs,rfl,hq,fx,fs,q⟩:=h
 cases ry
 rcases hq with hq | hq
 ·obtain⟨its,r,pl,hz⟩:=I.list hq
  refine SeqAt.in_listAt (eqU x) pl.isList (fun w hw=>zu8 rx fx r fs w (by simpa using hw)) ⟨.bl _,H,I,rfl,?_⟩
  rw [show its.toArray.any (eqU x)=its.any (eqU x) by simp,zac9 r fs]
  exact q
 ·obtain⟨its,r,pl,hz⟩:=I.tuple hq
  refine SeqAt.in_tupleAt (eqU x) pl (fun w hw=>zu8 rx fx r fs w (by simpa using hw)) ⟨.bl _,H,I,rfl,?_⟩
  rw [show its.toArray.any (eqU x)=its.any (eqU x) by simp,zac9 r fs]
  exact q
theorem zz2:zad1 X (.builtin "len") (fun xs H Q => ∃p ys,xs=[.ref p]∧(SqL X.K H p ys∨SqT X.K H p ys)∧Q (.int ys.length) H):=by
 intro pins s σ H xs us Q I r h
 obtain⟨p,ys,rfl,hq,q⟩:=h
 obtain⟨u,rfl,rx⟩:=vals1 r
 cases rx
 have hn:=zx4
 rcases hq with hq | hq
 ·obtain⟨its,r',pl,hz⟩:=I.list hq
  have hlen:=r'.length
  exact Calls.call_len_list pl.isList (by simp only [zas8]<;>lia) ⟨.int ys.length,H,I.tok _,⟨s.toks+1,by rw [zas8,hlen]⟩,q⟩
 ·obtain⟨its,r',pl,hz⟩:=I.tuple hq
  have hlen:=r'.length
  exact len_tuple pl (by simp only [zas8]<;>lia) ⟨.int ys.length,H,I.tok _,⟨s.toks+1,by rw [zas8,hlen]⟩,q⟩
theorem zz1:zad1 X (.type "list") (fun xs H Q => ∃p ys,xs=[.ref p]∧(SqL X.K H p ys∨SqT X.K H p ys)∧∀l,H l=none→Q (.ref l) (upd H l (.lst ys))):=by
 intro pins s σ H xs us Q I r h
 obtain⟨p,ys,rfl,hq,q⟩:=h
 obtain⟨u,rfl,rx⟩:=vals1 r
 cases rx
 have fin:∀(its:List Value),Vals ys its→ys.length≤sizeLine→∀(h':Heap) (c':Nat),(∀b o',s.heap.get? b=some o'→h'.get? b=some o') →
   h'.get? s.heap.objs.size=some { cls:=.type "list",dict:=none,data:=.seq its.toArray c',slots := #[] }→EP X pins σ Q (.ref s.heap.objs.size) { s with heap:=h' }:=fun its r' hz h' c' kp e =>
  ⟨.ref s.heap.objs.size,_,I.laid (t':=s.toks) kp (zat4 _) (show ObjOk X.prog X.w _ h' _ (.lst ys) from ⟨hz,its,c',r',e⟩),rfl,q _ (I.hok.fresh (zat4 _))⟩
 rcases hq with hq | hq
 ·obtain⟨its,r',pl,hz⟩:=I.list hq
  have hlen:=r'.length
  obtain⟨o,ho,hc,n,hd⟩:=pl.isList
  exact call_list_seq p (.inl rfl) ho hc hd (fun h' c' kp e=>fin its r' hz h' c' kp e) (by simp only [zas8]<;>lia)
 ·obtain⟨its,r',pl,hz⟩:=I.tuple hq
  have hlen:=r'.length
  obtain⟨o,ho,hc,n,hd⟩:=pl
  exact call_list_seq p (.inr rfl) ho hc hd (fun h' c' kp e=>fin its r' hz h' c' kp e) (by simp only [zas8]<;>lia)
noncomputable def tyV (K:zaq9) (T:String) (x:V) (H:Hp):Prop:=match x with
 |.str _=>T = "str"
 |.int _=>T = "int"
 |.ref p=>(T = "list"∧∃xs,SqL K H p xs)∨(T = "tuple"∧∃o,K.lookup p=some o∧o.cls=.type "tuple"∧o.dict=none) ∨
   (T = "dict"∧((∃kvs,H p=some (.dK kvs))∨∃kvs,H p=some (.dT kvs)))∨(T = "set"∧∃S n,H p=some (.set S n))
 |_=>False
theorem tyV_is {pins:List (Addr×Obj)}{σ:St}{H:Hp}{s:zas4}{T:String}{x:V}{v:Value} (I:Inv X pins σ H s) (r:RelV x v) (ty:tyV X.K T x H) :
  s.TypeIs v T∧∀a,v=.ref a→∃ob,s.heap.get? a=some ob∧ob.dict=none:=by
 cases x with
 |str z =>
  obtain⟨t,rfl⟩:=r
  cases (show T = "str" from ty)
  exact⟨typeIs_str s z t,fun _ e=>nomatch e⟩
 |int i =>
  obtain⟨t,rfl⟩:=r
  cases (show T = "int" from ty)
  exact⟨typeIs_int s i t,fun _ e=>nomatch e⟩
 |ref p =>
  cases r
  rcases ty with ⟨rfl,xs,hq⟩ | ⟨rfl,o,hk,hc,hd⟩ | ⟨rfl,hk⟩ | ⟨rfl,S,n,hk⟩
  ·obtain⟨its,_,pl,_⟩:=I.list hq
   refine⟨pl.isList.typeIs,fun a e=>?_⟩
   cases e
   obtain⟨o,n,e,c,hd,_⟩:=pl
   exact⟨o,e,hd⟩
  ·refine⟨⟨o,I.kIn p o hk,hc⟩,fun a e=>?_⟩
   cases e
   exact⟨o,I.kIn _ o hk,hd⟩
  ·have z:∃o,s.heap.get? p=some o∧o.ExactDict:=by
    rcases hk with ⟨kvs,hk⟩ | ⟨kvs,hk⟩
    ·obtain⟨_,_,_,_,o,_,_,e,ex,_⟩:=I.hok p _ hk
     exact⟨o,e,ex⟩
    ·obtain⟨_,_,_,_,o,_,_,e,ex,_⟩:=I.hok p _ hk
     exact⟨o,e,ex⟩
   obtain⟨o,e,ex⟩:=z
   refine⟨⟨o,e,ex.1⟩,fun a e2=>?_⟩
   cases e2
   exact⟨o,e,ex.2.1⟩
  ·obtain⟨o,_,_,_,e,ex,_⟩:=I.hok p _ hk
   refine⟨⟨o,e,ex.1⟩,fun a e2=>?_⟩
   cases e2
   exact⟨o,e,ex.2.1⟩
 |_=>exact False.elim ty
def tBM0 (K:zaq9) (T:String) (r:V→List V→Hp→VK→Prop) (to:TE):TE:=fun σ H Q=>to σ H fun x H1=>tyV K T x H1∧r x [] H1 Q
noncomputable def tBM (K:zaq9) (T:String) (r:V→List V→Hp→VK→Prop) (to:TE) (t:TA):TE:=fun σ H Q=>to σ H fun x H1=>tyV K T x H1∧t σ H1 fun xs H2=>r x xs H2 Q
variable {o e:Expr}{es:List Expr}{to:TE}{t:TA}{name:Str}{apos cpos:Pos}{T id:String}{r:V→List V→Hp→VK→Prop}
theorem pe_bm0 (pa:PlainAttrs T) (slot:Slot T name id) (hty:typeOf (.builtin id)=pure (.type "method_descriptor")) (hm:MtR X id r) (ho:PE X o to)
  (hbase:attributeBase o name X.env (eval o X.env)=eval o X.env:=by rfl) (hline:(apos.endLine == cpos.line)=true:=by rfl):PE X (.Call (.Attribute o name apos) [] [] cpos) (tBM0 X.K T r to):=by
 intro pins s σ H Q I h
 refine wpAny_Call_method0_late hbase hline (thn (ho pins s σ H _ I h) fun v s1 ⟨x,H1,I1,r1,ty,q1⟩=>?_)
 obtain⟨h1,h2⟩:=tyV_is I1 r1 ty
 exact⟨T,id,pa,slot,hty,h1,h2,Calls.callWith_builtin rfl (PySem.evalArgs_none (hm pins s1 σ H1 x [] v [] Q I1 r1 .nil q1))⟩
theorem pe_bm (pa:PlainAttrs T) (slot:Slot T name id) (hty:typeOf (.builtin id)=pure (.type "method_descriptor")) (hm:MtR X id r) (ho:PE X o to) (ha:PA X (e::es) t)
  (hbase:attributeBase o name X.env (eval o X.env)=eval o X.env:=by rfl)
  (hfew:((zay7 cpos (zat2 (e::es) X.env)).all (fun x=>!x.1)&&(backToKw cpos (keywordEach [] X.env)).all (fun x=>x.1.isSome)
   && decide ((e::es).length+([]:List Keyword).length+(if ([]:List Keyword).isEmpty then 0 else 1)<30))=true:=by rfl)
  (hline:(apos.endLine == cpos.line)=true:=by rfl) (hs:zat2 (e::es) X.env=(false,eval e X.env)::zat2 es X.env:=by rfl) (hplain:(zay7 cpos (zat2 es X.env)).any (·.1)=false:=by rfl) :
  PE X (.Call (.Attribute o name apos) (e::es) [] cpos) (tBM X.K T r to t):=by
 intro pins s σ H Q I h
 refine wpAny_Call_method_late hbase hfew hline rfl (thn (ho pins s σ H _ I h) fun v s1 ⟨x,H1,I1,r1,ty,q1⟩=>?_)
 obtain⟨h1,h2⟩:=tyV_is I1 r1 ty
 refine⟨T,id,pa,slot,hty,h1,h2,?_⟩
 have hA:=ha cpos pins s1 σ H1 _ I1 q1
 rw [hs]at hA ⊢
 refine Calls.callWith_builtin (by show (false||(zay7 cpos (zat2 es X.env)).any (·.1))=false;rw [hplain]<;>rfl) (Calls.evalArgs_plain ?_)
 exact thn hA fun us s2 ⟨vs,H2,I2,r2,q2⟩=>hm pins s2 σ H2 x vs v us Q I2 r1 r2 q2
end
end L2
namespace L2
open PySem.Spec
noncomputable def MtM (X:Cx) (id:String) (r:V→List V→Hp→VK→Prop):Prop :=
 ∀(pins:List (Addr×Obj)) (s:zas4) (σ:St) (H:Hp) (x:V) (xs:List V) (v:Value) (us:List Value) (Q:VK),Inv X pins σ H s→RelV x v→Vals xs us→r x xs H Q →
  wpAny (model X.prog X.w) X.A (call (.builtin id) (v::us)) (EP X pins σ Q) X.xe s
theorem Vals.one:∀ {x:V}{us:List Value},Vals [x] us→∃u,us=[u]∧RelV x u
 |_,_,.cons r .nil=>⟨_,rfl,r⟩
theorem Vals.two:∀ {x y:V}{us:List Value},Vals [x,y] us→∃u v,us=[u,v]∧RelV x u∧RelV y v
 |_,_,_,.cons r (.cons q .nil)=>⟨_,_,rfl,r,q⟩
theorem Vals.zero:∀ {us:List Value},Vals [] us→us=[]
 |_,.nil=>rfl
theorem Vals.dropLast {xs:List V}{us:List Value} (h:Vals xs us):Vals xs.dropLast us.dropLast:=by
 induction h with
 |nil=>exact .nil
 |cons r t ih =>
  cases t with
  |nil=>exact .nil
  |cons q t'=>exact .cons r ih
theorem Vals.eraseIdx:∀ {xs:List V}{us:List Value} (i:Nat),Vals xs us→Vals (xs.eraseIdx i) (us.eraseIdx i)
 |_,_,_,.nil=>.nil
 |_,_,0,.cons _ t=>t
 |_,_,i+1,.cons r t=>.cons r (Vals.eraseIdx i t)
theorem Vals.rep {xs:List V}{us:List Value} (h:Vals xs us):∀k:Nat,Vals (zar6 k xs).flatten (zar6 k us).flatten
 |0=>.nil
 |k+1=>by
  rw [zau5,zau5,zay4,zay4]
  exact Vals.append h (Vals.rep h k)
theorem zai3 {α:Type} (l:List α):l.eraseIdx (l.length - 1)=l.dropLast:=by
 induction l with
 |nil=>rfl
 |cons a r ih =>
  cases r with
  |nil=>rfl
  |cons b r =>
   have e:(a::b::r).length - 1=((b::r).length - 1)+1:=by
    have h1:(a::b::r).length=r.length+2:=rfl
    have h2:(b::r).length=r.length+1:=rfl
    lia
   rw [e,List.eraseIdx_cons_succ,ih]
   all_goals rfl
theorem zx9 (its:List Value):∀(k:Nat) (acc:List Value),
  zbi1 (fun x1 x2=>x1++x2) acc.toArray (zar6 k its.toArray)=(acc++(zar6 k its).flatten).toArray
 |0,acc=>by simp
 |k+1,acc=>by
  have e:acc.toArray++its.toArray=(acc++its).toArray:=by simp
  have e2:(acc++its)++(zar6 k its).flatten=acc++(zar6 (k+1) its).flatten:=by
   rw [zau5,zay4,zax3]
  rw [← e2, ← zx9 its k (acc++its), ← e,zau5,List.foldl_cons]
section
variable {X:Cx}{pins:List (Addr×Obj)}{σ:St}{H:Hp}{s:zas4}{l b:Addr}{xs ys zs:List V}
theorem Inv.lset {its its':List Value}{n:Nat}{f:Array Value→Array Value}{t':Nat} (I:Inv X pins σ H s) (hH:H l=some (.lst xs))
  (e:s.heap.get? l=some { cls:=.type "list",data:=.seq its.toArray n }) (hf:f its.toArray=its'.toArray) (hv:Vals ys its') (hz:ys.length≤sizeLine) :
  Inv X pins σ (upd H l (.lst ys)) { s with heap:=s.heap.update l (Obj.mapSeq f),toks:=t' }:=by
 have q:=PySem.IsL.update e f
 rw [hf]at q
 refine I.write (x:=l) (e:=l) (by rw [hH];exact trivial) (.inl rfl) (fun b' u hb hu=>(zau8 s.heap (Obj.mapSeq f) (Ne.symm hb)).trans hu) ⟨_,q⟩ ?_
 exact⟨hz,its',_,hv,q⟩
theorem Inv.lnew {its:List Value}{t':Nat} (I:Inv X pins σ H s) (hv:Vals ys its) (hz:ys.length≤sizeLine) :
  Inv X pins σ (upd H s.heap.objs.size (.lst ys)) { s with heap:=s.heap.push { cls:=.type "list",data:=.seq its.toArray },toks:=t' } :=
 I.laid (fun _ _ q=>zas3 _ q) (zat4 _) ⟨hz,its,0,hv,zav0 _ rfl⟩
theorem Inv.fresh (I:Inv X pins σ H s):H s.heap.objs.size=none:=I.hok.fresh (zat4 _)
theorem Inv.lstM (I:Inv X pins σ H s) (hH:H l=some (.lst xs)):xs.length≤sizeLine∧∃(its:List Value) (n:Nat),Vals xs its∧xs.length=its.length∧s.heap.get? l=some { cls:=.type "list",data:=.seq its.toArray n }:=by
 obtain⟨z,its,n,r,e⟩:=I.hok l _ hH
 exact⟨z,its,n,r,r.length,e⟩
theorem zae8 {n:Nat} (h:n≤sizeLine):Builtin.List.listTooLong n=false:=by
 unfold Builtin.List.listTooLong
 exact decide_eq_false (by lia)
end
section
variable {X:Cx}
noncomputable def rAppend:V→List V→Hp→VK→Prop:=fun x vs H Q => ∃l xs y,x=.ref l∧vs=[y]∧H l=some (.lst xs)∧xs.length<sizeLine∧Q .non (upd H l (.lst (xs++[y])))
theorem zk1:MtM X "list.append" rAppend:=by
 intro pins s σ H x vs v us Q I rx rv h
 obtain⟨l,xs,y,rfl,rfl,hH,hz,q⟩:=h
 cases rx
 obtain⟨u,rfl,ru⟩:=rv.one
 obtain⟨z,its,n,r,hl,e⟩:=I.lstM hH
 refine call_meets F.slot_list_append ⟨_,e,rfl⟩ F.entry_list_append (F.args_list_append_2 _ _) (PySem.list_append l its.toArray n u (by rw [zas8];lia)) ⟨e,?_⟩
 refine⟨.non,_,I.lset (its':=its++[u]) hH e (by simp) (r.append (.cons ru .nil)) ?_,rfl,q⟩
 rw [zat5,zav7]
 lia
noncomputable def rExtend:V→List V→Hp→VK→Prop:=fun x vs H Q => ∃l b xs zs,x=.ref l∧vs=[.ref b]∧H l=some (.lst xs)∧H b=some (.lst zs)∧xs.length+zs.length≤sizeLine∧Q .non (upd H l (.lst (xs++zs)))
theorem zam0:MtM X "list.extend" rExtend:=by
 intro pins s σ H x vs v us Q I rx rv h
 obtain⟨l,b,xs,zs,rfl,rfl,hH,hB,hz,q⟩:=h
 cases rx
 obtain⟨u,rfl,ru⟩:=rv.one
 cases ru
 obtain⟨z,its,n,r,hl,e⟩:=I.lstM hH
 obtain⟨z2,its2,n2,r2,hl2,e2⟩:=I.lstM hB
 have hsz:its.toArray.size+its2.toArray.size≤sizeLine:=by rw [zas8,zas8];lia
 have hlong : ¬ (!its.toArray.isEmpty&&Builtin.List.listTooLong (its.toArray.size+its2.toArray.size))=true:=by
  rw [zae8 hsz,Bool.and_false]
  exact zas6
 refine call_meets F.slot_list_extend ⟨_,e,rfl⟩ F.entry_list_extend (F.args_list_extend_2 _ _)
  (AutoSeq1.list_extend_list_list_0 l its.toArray n b its2.toArray n2 hlong (by rw [zas8];lia) (by lia)) ⟨e,e2,?_⟩
 refine⟨.non,_,I.lset (its':=its++its2) hH e (by simp) (r.append r2) ?_,rfl,q⟩
 rw [zat5]
 lia
noncomputable def rPop:V→List V→Hp→VK→Prop:=fun x vs H Q => ∃l xs y,x=.ref l∧vs=[]∧H l=some (.lst xs)∧xs[xs.length - 1]?=some y∧Q y (upd H l (.lst xs.dropLast))
theorem mt_pop:MtM X "list.pop" rPop:=by
 intro pins s σ H x vs v us Q I rx rv h
 obtain⟨l,xs,y,rfl,rfl,hH,hy,q⟩:=h
 cases rx
 have hus:=rv.zero
 subst hus
 obtain⟨z,its,n,r,hl,e⟩:=I.lstM hH
 obtain⟨u,hu,ru⟩:=r.get hy
 have hy':its.toArray[its.toArray.size - 1]?=some u:=by
  show its.toArray[its.length - 1]?=some u
  rw [← Array.getElem?_toList, ← hl]
  exact hu
 refine call_meets F.slot_list_pop ⟨_,e,rfl⟩ F.entry_list_pop (F.args_list_pop_1 _) (MeetsSeq.list_pop_last l its.toArray n u hy' (by rw [zas8];lia)) ⟨e,?_⟩
 refine⟨y,_,I.lset (its':=its.dropLast) hH e ?_ r.dropLast ?_,ru,q⟩
 ·show its.toArray.eraseIdxIfInBounds (its.toArray.size - 1)=its.dropLast.toArray
  rw [zas8,zaz3,zai3]
 ·rw [List.length_dropLast]
  lia
def rClear:V→List V→Hp→VK→Prop:=fun x vs H Q => ∃l xs,x=.ref l∧vs=[]∧H l=some (.lst xs)∧Q .non (upd H l (.lst []))
theorem mt_clear:MtM X "list.clear" rClear:=by
 intro pins s σ H x vs v us Q I rx rv h
 obtain⟨l,xs,rfl,rfl,hH,q⟩:=h
 cases rx
 have hus:=rv.zero
 subst hus
 obtain⟨z,its,n,r,hl,e⟩:=I.lstM hH
 refine call_meets F.slot_list_clear ⟨_,e,rfl⟩ F.entry_list_clear (F.args_list_clear_1 _) (AutoSeq1.list_clear_list_0 l its.toArray n (by rw [zas8];lia)) ⟨e,?_⟩
 exact⟨.non,_,I.lset (its':=[]) (ys:=[]) hH e rfl .nil (zbd7 _),rfl,q⟩
noncomputable def rRep:R2:=fun x y H Q => ∃l k xs,x=.ref l∧y=.int k∧H l=some (.lst xs) ∧ -(2 ^ 63)≤k∧k<2 ^ 63∧xs.length*k.toNat≤sizeLine ∧
 ∀p,H p=none→Q (.ref p) (upd H p (.lst (zar6 k.toNat xs).flatten))
theorem len_rep {α:Type} (xs:List α) (k:Nat):(zar6 k xs).flatten.length=k*xs.length:=by
 induction k with
 |zero=>simp
 |succ k ih=>rw [zau5,zay4,zat5,ih,Nat.succ_mul,Nat.add_comm]
theorem op_rep:OpR X (binaryOp .Mult) rRep:=by
 intro pins s σ H x y v u Q I rx ry h
 obtain⟨l,k,xs,rfl,rfl,hH,h1,h2,hz,q⟩:=h
 cases rx
 obtain⟨t,rfl⟩:=ry
 obtain⟨z,its,n,r,hl,e⟩:=I.lstM hH
 have hlen:its.toArray.size*k.toNat≤sizeLine:=by rw [zas8, ← hl];exact hz
 have hcap : ¬ its.toArray.size*k.toNat >(2 ^ 63 - 1) / 8:=by
  have:(sizeLine:Nat)≤(2 ^ 63 - 1) / 8:=by decide
  lia
 have hfit : ¬ (!Builtin.List.listFitsIndex k)=true:=by
  rw [fitsIndex_both h1 h2]
  exact zas6
 have hlong : ¬ Builtin.List.listTooLong (its.toArray.size*k.toNat)=true:=by
  rw [zae8 hlen]
  exact zas6
 have hnew:zbi1 (fun x1 x2=>x1++x2) #[] (zar6 (if its.toArray.isEmpty=true then 0 else k.toNat) its.toArray)=(zar6 k.toNat its).flatten.toArray:=by
  have f0:∀m:Nat,zbi1 (fun x1 x2=>x1++x2) #[] (zar6 m its.toArray)=(zar6 m its).flatten.toArray:=fun m=>by
   have:=zx9 its m []
   rw [zbc5]at this
   exact this
  rw [f0]
  cases its with
  |nil=>simp
  |cons a r'=>rw [if_neg (by simp)]
 refine wpAny_binaryOp_repeat_ref (T := "list") (U := "int") (by decide) ⟨_,e,rfl⟩ (fun s'=>typeIs_int s' k t) noFill_list_mul F.fills_int_mul F.slot_int_rmul repeat_list F.slot_int_index.lookup
  (call_meets F.slot_int_rmul (typeIs_int s k t) F.entry_int_rmul (F.args_int_rmul_2 _ _) (int___rmul___int_list k t l its.toArray n)
   ⟨e,rfl,⟨_,e,rfl⟩,call_meets F.slot_list_mul ⟨_,e,rfl⟩ F.entry_list_mul (F.args_list_mul_2 _ _) (AutoListH.list___mul___list_int_3 l its.toArray n k t hfit hcap hlong) ⟨e,?_⟩⟩)
 rw [hnew]
 exact⟨.ref _,_,I.lnew (t':=s.toks) (r.rep k.toNat) (by rw [len_rep,Nat.mul_comm];exact hz),rfl,q _ I.fresh⟩
end
end L2
namespace Att
open PySem.W PySem.Calls
theorem zr1 {P:Params}{h:Heap}:∀(ns:List Int) (vs:List Value),WellAll P h vs (ns.map WData.int)→IntsAre vs ns:=by
 intro ns
 induction ns with
 |nil =>
  intro vs w
  rw [zbd0]at w
  cases w
  exact .nil
 |cons n ns ih =>
  intro vs w
  rw [zas1]at w
  cases w with
  |cons a b =>
   cases a
   exact .cons _ _ (ih _ b)
theorem script_of {l:OpenLaw}{n:Nat} (hn:l.most=some n) {P:Params}{h:Heap}{args:List WData}{vals:List Value}
  (hpre:l.row.toRowW.claim.pre args=true) (hwl:WellAll P h vals args) :
  ∃a vs ns,vals=[Value.ref a]∧args=[WData.list (ns.map WData.int)]∧h.get? a=some { cls:=.type "list",data:=.seq vs.toArray }∧IntsAre vs ns∧ns.length≤n:=by
 have hsh:WShape.hasAll [] args [.list .int]=true:=(pre_splitW hpre).1
 have hc:l.pre.holds [] { args:=args }=true:=(pre_splitW hpre).2
 obtain⟨d,r,rfl,h1,h2⟩:=hasAllW_cons hsh
 obtain rfl:=hasAllW_nil h2
 obtain⟨xs,rfl,h3⟩:=hasW_list h1
 obtain⟨ns,rfl⟩:=items_int h3
 have hlen:ns.length≤n:=by
  unfold OpenLaw.pre at hc
  have h4:(WTm.not (.lt (.lit (.int (n:Int))) (.len (.arg 0)))).holds [] { args:=[.list (ns.map .int)] }=true:=by
   have h4:=(holds_andW hc).1
   rw [hn]at h4
   exact h4
  have h5:=condW_of h4 (w_not (w_lt w_lit (w_len_list (w_arg rfl))))
  rw [zas7]at h5
  refine Nat.le_of_not_lt fun q=>?_
  have q':(n:Int)<((ns.length:Nat):Int):=by lia
  first
   |(rw [decide_eq_true q']at h5;exact absurd h5 (by decide))
   |(simp at h5;lia)
 cases hwl with
 |cons w1 w2 =>
  cases w2
  cases w1 with
  |list ho hall=>exact⟨_,_,ns,rfl,rfl,ho,zr1 ns _ hall,hlen⟩
theorem post_true (l:OpenLaw) (args:List WData):l.row.toRowW.claim.post args (.bool true) args=true :=
 postW_of (r:=l.row.toRowW) (X:=(true == true))
  (show WShape.has [] (.bool true) .bool=true by first | rfl | decide | simp [WShape.has,WShape.arms,WShape.armsAll])
  (show (WTm.eq .res (.lit (.bool true))).value [] { args:=args,res:=some (.bool true),after:=args }=some (.bool (true == true)) from w_eq_bool (w_res rfl) w_lit) rfl
end Att
namespace L2
open PySem.Spec
theorem zm6:∀ {vs:List Value}{ns:List Int},IntsAre vs ns→Vals (ns.map V.int) vs
 |_,_,.nil=>.nil
 |_,_,.cons n t h=>.cons ⟨t,rfl⟩ (zm6 h)
noncomputable def zi4 (s:Stmt):Arguments:=match s with
 |.FunctionDef _ a _ _ _ _ _ _ _ _=>a
 |_=>{ posonlyargs:=[],args:=[],vararg:=none,kwonlyargs:=[],kw_defaults:=[],kwarg:=none,defaults:=[] }
def zf7 (s:Stmt):List Stmt:=match s with
 |.FunctionDef _ _ b _ _ _ _ _ _ _=>b
 |_=>[]
noncomputable def zb6 (s:Stmt):Scope:=match s with
 |.FunctionDef _ _ _ _ _ _ sc _ _ _=>sc
 |_=>{ kind:=.function,names:=[],isGenerator:=false,isCoroutine:=false }
abbrev CX0:CXT:=fun _ _ _ _ _ _=>False
abbrev E0:XK:=fun _ _ _=>False
theorem pass0 {X:Cx}:zaq7 CX0 X E0:=fun _ _ _ _ _ _ _ h=>h.elim
structure Fun (K:zaq9) (x qual:Str) (st:Stmt) (f:Addr) (fd:FuncData):Prop where
 ex:∃(oc:Value) (od:Option Addr) (kV doc pm:Value) (an:Option Addr) (cdv ct:Value) (osl:Array (Option Value)),
  fd=zav8 x qual (zi4 st) (zf7 st) (zb6 st) .none kV doc pm an cdv ct∧K.lookup f=some ⟨oc,od,.func fd,osl⟩∧zba8 K cdv qual=true
 kp:zav3 K (.ref f)=true
section
variable {P:Program}{w:World}{K:zaq9}{mg:Str→Option Value}{base:BHeap}
theorem Fun.ok {x qual:Str}{st:Stmt}{f:Addr}{fd:FuncData}{N ps:List Str}{k:Nat}{sp:Sp} (F:Fun K x qual st f fd) (S:FnScope N ps (zb6 st)) (len:∀vs H Q E,sp vs H Q E→vs.length=ps.length)
  (hbody:∀(cdv:Value) (A:Around) (outer:List Env) (s:zas4) (H:Hp) (vs:List V) (Q:VK) (E:XK),Room k (A.deeper (envOfC qual (zb6 st) s.heap.objs.size f cdv))→sp vs H Q E →
   ∃t,PSs (cxOf CX0 P w K mg base N qual (zb6 st) f cdv A outer s H E).nox (zf7 st) t∧t { nx:=fun _ H'=>Q .non H',rt:=Q } (start N vs) H):FnOk P w K mg base CX0 (k+1) f fd ps sp:=by
 obtain⟨oc,od,kV,doc,pm,an,cdv,ct,osl,rfl,lk,hcd⟩:=F.ex
 refine fn_of lk hcd S len fun A outer s H vs Q E hr hsp=>?_
 obtain⟨t,h,q⟩:=hbody cdv A outer s H vs Q E hr hsp
 exact⟨t,h.nox,q⟩
theorem Fun.binds {x qual:Str}{st:Stmt}{f:Addr}{fd:FuncData}{ps:List Str} (F:Fun K x qual st f fd)
  (h:∀(kV doc pm:Value) (an:Option Addr) (cdv ct:Value) (us:List Value),us.length=ps.length→bindArgs (zav8 x qual (zi4 st) (zf7 st) (zb6 st) .none kV doc pm an cdv ct) ⟨us,[]⟩=pure (ps.zip us)):Binds K fd ps []:=by
 obtain⟨oc,od,kV,doc,pm,an,cdv,ct,osl,rfl,lk,hcd⟩:=F.ex
 exact .all (h kV doc pm an cdv ct)
theorem fun_mk {x qual:Str}{st:Stmt}{f:Addr}{oc:Value}{od an:Option Addr}{osl:Array (Option Value)}{kV doc pm cdv ct:Value} (l:K.lookup f=some ⟨oc,od,.func (zav8 x qual (zi4 st) (zf7 st) (zb6 st) .none kV doc pm an cdv ct),osl⟩)
  (c:zba8 K cdv qual=true) (k:zav3 K (.ref f)=true):Fun K x qual st f (zav8 x qual (zi4 st) (zf7 st) (zb6 st) .none kV doc pm an cdv ct):=⟨⟨oc,od,kV,doc,pm,an,cdv,ct,osl,rfl,l,c⟩,k⟩
end
theorem iteF {A B:Prop} (h:B):if false=true then A else B:=by
 rw [if_neg zas6]
 exact h
theorem iteT {A B:Prop} (h:A):if true=true then A else B:=by
 rw [if_pos rfl]
 exact h
def Same (H H':Hp):Prop := ∀b o,H b=some o→H' b=some o
theorem Same.refl (H:Hp):Same H H:=fun _ _ h=>h
theorem Same.trans {H H1 H2:Hp} (a:Same H H1) (b:Same H1 H2):Same H H2:=fun c o h=>b c o (a c o h)
theorem Same.free {H H':Hp} (e:Same H H') {l:Addr} (h:H' l=Option.none):H l=Option.none:=by
 cases q:H l with
 |none=>rfl
 |some o =>
  rw [e l o q]at h
  cases h
theorem Same.seq {K:zaq9}{H H':Hp}{a:Addr}{xs:List V} (e:Same H H') (h:SqL K H a xs):SqL K H' a xs:=by
 rcases h with (h | ⟨o,h⟩) |h
 ·exact .inl (.inl (e _ _ h))
 ·exact .inl (.inr ⟨o,e _ _ h⟩)
 ·exact .inr h
end L2
set_option maxHeartbeats 4000000
namespace L2
open PySem.Spec
section
variable {κ:Type} [DecidableEq κ]
def valV (kvs:List (κ×V)) (k:κ):Option V:=(kvs.find? fun kv=>decide (kv.1=k)).map (·.2)
noncomputable def putK (kvs:List (κ×V)) (k:κ) (v:V):List (κ×V) :=
 if (kvs.any fun kv=>decide (kv.1=k))=true then kvs.map (fun kv=>if kv.1=k then (kv.1,v) else kv) else kvs++[(k,v)]
def dropK (kvs:List (κ×V)) (k:κ):List (κ×V):=kvs.filter fun kv=>decide (kv.1≠k)
theorem zp1 {p:κ×V}{r:List (κ×V)}{k:κ} (e:p.1=k):valV (p::r) k=some p.2:=by simp [valV,zay3,e]
theorem zp2 {p:κ×V}{r:List (κ×V)}{k:κ} (e : ¬ p.1=k):valV (p::r) k=valV r k:=by simp [valV,zay3,e]
theorem zu0 (k:κ):∀kvs:List (κ×V),(kvs.any fun kv=>decide (kv.1=k))=(valV kvs k).isSome
 |[]=>rfl
 |p::r=>by
  rw [zaw2]
  by_cases e:p.1=k
  ·simp only [zp1 e,decide_eq_true e,Bool.true_or,zbd8]
  ·rw [zp2 e,decide_eq_false e,Bool.false_or];exact zu0 k r
theorem zm0 (kvs:List (κ×V)) (k:κ) (v:V):(putK kvs k v).length≤kvs.length+1:=by
 unfold putK
 split
 ·rw [zas7];lia
 ·rw [zat5,zau3,zbc6];lia
theorem RelO.isSome_eq {o:Option V}{u:Option Value} (r:RelO o u):o.isSome=u.isSome:=by
 cases o with
 |none=>cases u with
  |none=>rfl
  |some _=>exact (show False from r).elim
 |some _=>cases u with
  |none=>exact (show False from r).elim
  |some _=>rfl
theorem KV.val {kvs:List (κ×V)}{vs:List (κ×Value)} (r:KV kvs vs) (k:κ):RelO (valV kvs k) (valueAt vs k):=by
 unfold KV at r
 induction r with
 |nil=>exact True.intro
 |@cons p q ps qs h t ih =>
  obtain⟨h1,h2⟩:=h
  by_cases e:p.1=k
  ·have e':q.1=k:=h1.symm.trans e
   have b:valueAt (q::qs) k=some q.2:=by simp [valueAt,zay3,e']
   rw [zp1 e,b];exact h2
  ·have e' : ¬ q.1=k:=fun z=>e (h1.trans z)
   have b:valueAt (q::qs) k=valueAt qs k:=by simp [valueAt,zay3,e']
   rw [zp2 e,b];exact ih
theorem KV.any {kvs:List (κ×V)}{vs:List (κ×Value)} (r:KV kvs vs) (k:κ):(kvs.any fun kv=>decide (kv.1=k))=vs.any fun kv=>decide (kv.1=k):=by
 unfold KV at r
 induction r with
 |nil=>rfl
 |cons h t ih=>rw [zaw2,zaw2,ih,h.1]
theorem KV.repl {kvs:List (κ×V)}{vs:List (κ×Value)} (r:KV kvs vs) (k:κ) {y:V}{u:Value} (ry:RelV y u) :
  KV (kvs.map fun kv=>if kv.1=k then (kv.1,y) else kv) (vs.map fun kv=>if kv.1=k then (kv.1,u) else kv):=by
 unfold KV at r ⊢
 induction r with
 |nil=>exact .nil
 |@cons p q ps qs h t ih =>
  rw [zas1,zas1]
  refine .cons ?_ ih
  obtain⟨h1,h2⟩:=h
  by_cases e:p.1=k
  ·rw [if_pos e,if_pos (h1.symm.trans e)];exact⟨h1,ry⟩
  ·rw [if_neg e,if_neg (fun z=>e (h1.trans z))];exact⟨h1,h2⟩
theorem KV.put {kvs:List (κ×V)}{vs:List (κ×Value)} (r:KV kvs vs) (k:κ) {y:V}{u:Value} (ry:RelV y u):KV (putK kvs k y) (stored vs k u):=by
 unfold putK stored
 rw [r.any k]
 by_cases e:(vs.any fun kv=>decide (kv.1=k))=true
 ·rw [if_pos e,if_pos e];exact r.repl k ry
 ·rw [if_neg e,if_neg e];exact Paired.snoc r ⟨rfl,ry⟩
theorem KV.drop {kvs:List (κ×V)}{vs:List (κ×Value)} (r:KV kvs vs) (k:κ):KV (dropK kvs k) (without vs k):=by
 unfold KV at r ⊢
 unfold dropK without
 induction r with
 |nil=>exact .nil
 |@cons p q ps qs h t ih =>
  obtain⟨h1,h2⟩:=h
  rw [zbe7,zbe7]
  by_cases e:p.1=k
  ·have a : ¬ decide (p.1≠k)=true:=by simp [e]
   have b : ¬ decide (q.1≠k)=true:=by simp [h1.symm.trans e]
   rw [if_neg a,if_neg b];exact ih
  ·have e' : ¬ q.1=k:=fun z=>e (h1.trans z)
   have a:decide (p.1≠k)=true:=by simp [e]
   have b:decide (q.1≠k)=true:=by simp [e']
   rw [if_pos a,if_pos b];exact .cons ⟨h1,h2⟩ ih
theorem KV.length {kvs:List (κ×V)}{vs:List (κ×Value)} (r:KV kvs vs):kvs.length=vs.length:=Paired.length r
end
theorem zan1 {P:Program}{w:World}{k:Key}{u:Value} (r:RelV (kV k) u):(zd8 P w).is k u=true:=by
 cases k with
 |inl i=>obtain⟨t,e⟩:=(show ∃t,u=Value.int i t from r);subst e;exact zab0 P w i t
 |inr x=>obtain⟨t,e⟩:=(show ∃t,u=Value.str x t from r);subst e;exact zaa9 P w x t
theorem zx5 {P:Program}{w:World}:∀ {ks:List Key}{us:List Value},Vals (ks.map kV) us→ItemsAre (zd8 P w) ks us
 |[],_,r=>by rw [zbd0]at r;cases r;exact .nil
 |k::ks,_,r=>by
  rw [zas1]at r
  cases r with
  |cons h t=>exact .cons (zan1 h) (zx5 t)
noncomputable abbrev KT (H:Hp):List (List Key×V)→List (List Key×Addr×Value)→Prop:=Paired fun p q=>p.1=q.1∧H q.2.1=some (.tup (p.1.map kV))∧RelV p.2 q.2.2
theorem KT.val {H:Hp}{kvs:List (List Key×V)}{xs:List (List Key×Addr×Value)} (r:KT H kvs xs) (k:List Key):RelO (valV kvs k) ((atKey xs k).map (·.2)):=by
 induction r with
 |nil=>exact True.intro
 |@cons p q ps qs h t ih =>
  obtain⟨h1,_,h2⟩:=h
  by_cases e:p.1=k
  ·have e':q.1=k:=h1.symm.trans e
   have b:atKey (q::qs) k=some q.2:=by simp [atKey,zay3,e']
   rw [zp1 e,b];exact h2
  ·have e' : ¬ q.1=k:=fun z=>e (h1.trans z)
   have b:atKey (q::qs) k=atKey qs k:=by simp [atKey,zay3,e']
   rw [zp2 e,b];exact ih
theorem KT.repl {H:Hp}{kvs:List (List Key×V)}{xs:List (List Key×Addr×Value)} (r:KT H kvs xs) (k:List Key) {y:V}{u:Value} (ry:RelV y u) :
  KT H (kvs.map fun kv=>if kv.1=k then (kv.1,y) else kv) (xs.map (putAt k u)):=by
 induction r with
 |nil=>exact .nil
 |@cons p q ps qs h t ih =>
  rw [zas1,zas1]
  refine .cons ?_ ih
  obtain⟨h1,h2,h3⟩:=h
  unfold putAt
  by_cases e:p.1=k
  ·rw [if_pos e,if_pos (h1.symm.trans e)];exact⟨h1,h2,ry⟩
  ·rw [if_neg e,if_neg (fun z=>e (h1.trans z))];exact⟨h1,h2,h3⟩
theorem KT.put {H:Hp}{kvs:List (List Key×V)}{xs:List (List Key×Addr×Value)} (r:KT H kvs xs) (k:List Key) {b:Addr}{y:V}{u:Value} (hb:H b=some (.tup (k.map kV))) (ry:RelV y u) :
  KT H (putK kvs k y) (storedH xs k b u):=by
 have e:(kvs.any fun kv=>decide (kv.1=k))=(atKey xs k).isSome:=by
  rw [zu0,(r.val k).isSome_eq,zbb7]
 unfold putK storedH
 rw [e]
 by_cases q:(atKey xs k).isSome=true
 ·rw [if_pos q,if_pos q];exact r.repl k ry
 ·rw [if_neg q,if_neg q];exact Paired.snoc r ⟨rfl,hb,ry⟩
theorem KT.keeps {H H':Hp}{kvs:List (List Key×V)}{xs:List (List Key×Addr×Value)} (r:KT H kvs xs) (ht:∀b ys,H b=some (.tup ys)→H' b=some (.tup ys)):KT H' kvs xs :=
 Paired.mapP r fun _ _ z=>⟨z.1,ht _ _ z.2.1,z.2.2⟩
section
variable {P:Program}{w:World}{H:Hp}{h:Heap}{a:Addr}
theorem rd_of {u:HO} (ok:HOk P w H h) (e:Rd H a u):ObjOk P w H h a u:=e.ok ok
theorem dk_rd {kvs:List (Key×V)} (ok:HOk P w H h) (e:Rd H a (.dK kvs)):kvs.length≤sizeLine∧(a == sysModules)=false∧∃vs,KV kvs vs∧h.DictOf (zd8 P w) a vs :=
 show ObjOk P w H h a (.dK kvs) from rd_of ok e
theorem dk_of {kvs:List (Key×V)} (ok:HOk P w H h) (e:H a=some (.dK kvs)):kvs.length≤sizeLine∧(a == sysModules)=false∧∃vs,KV kvs vs∧h.DictOf (zd8 P w) a vs:=dk_rd ok (.inl e)
theorem key_of {ks:List Key} (ok:HOk P w H h) (e:H a=some (.tup (ks.map kV))):(tupleKind (zd8 P w)).is h ks a:=by
 obtain⟨_,its,r,o,h1,h2,n,h3⟩:=(show ObjOk P w H h a (.tup (ks.map kV)) from ok a _ e)
 exact⟨o,its.toArray,n,h1,h2,h3,by simpa using zx5 r⟩
theorem dt_rd {kvs:List (List Key×V)} (ok:HOk P w H h) (e:Rd H a (.dT kvs)):kvs.length≤sizeLine∧(a == sysModules)=false ∧
  ∃xs,KT H kvs xs∧h.DictOfH (tupleKind (zd8 P w)) a xs:=by
 obtain⟨z,y,xs,r,o,es,ep,h1,h2,h3,h4,h5⟩:=(show ObjOk P w H h a (.dT kvs) from rd_of ok e)
 refine⟨z,y,xs,r,o,es,ep,h1,h2,h3,h4,fun x hx=>?_,h5⟩
 have all:∀ {l:List (List Key×V)}{m:List (List Key×Addr×Value)},KT H l m→∀x∈m,(tupleKind (zd8 P w)).is h x.1 x.2.1:=by
  intro l m q
  induction q with
  |nil=>intro x hx;exact nomatch hx
  |@cons p q ps qs hq t ih =>
   intro x hx
   rcases zar8.mp hx with e | hx
   ·subst e
    exact key_of ok (by rw [← hq.1];exact hq.2.1)
   ·exact ih x hx
 exact all r x hx
theorem dt_of {kvs:List (List Key×V)} (ok:HOk P w H h) (e:H a=some (.dT kvs)):kvs.length≤sizeLine∧(a == sysModules)=false ∧
  ∃xs,KT H kvs xs∧h.DictOfH (tupleKind (zd8 P w)) a xs:=dt_rd ok (.inl e)
end
noncomputable def DGet (H:Hp) (a:Addr) (y:V) (r:Option V):Prop :=
 (∃kvs k,Rd H a (.dK kvs)∧y=kV k∧r=valV kvs k)∨∃kvs k b,Rd H a (.dT kvs)∧y=.ref b∧H b=some (.tup (k.map kV))∧r=valV kvs k
noncomputable def DPut (H:Hp) (a:Addr) (y v:V) (H':Hp):Prop :=
 (∃kvs k,H a=some (.dK kvs)∧y=kV k∧kvs.length<sizeLine∧H'=upd H a (.dK (putK kvs k v))) ∨
 ∃kvs k b,H a=some (.dT kvs)∧y=.ref b∧H b=some (.tup (k.map kV))∧kvs.length<sizeLine∧H'=upd H a (.dT (putK kvs k v))
theorem DGet.k {H:Hp}{a:Addr}{kvs:List (Key×V)}{k:Key} (e:H a=some (.dK kvs)):DGet H a (kV k) (valV kvs k):=.inl ⟨kvs,k,.inl e,rfl,rfl⟩
theorem DPut.k {H:Hp}{a:Addr}{kvs:List (Key×V)}{k:Key}{v:V} (e:H a=some (.dK kvs)) (hl:kvs.length<sizeLine):DPut H a (kV k) v (upd H a (.dK (putK kvs k v))):=.inl ⟨kvs,k,e,rfl,hl,rfl⟩
section
variable {X:Cx}{pins:List (Addr×Obj)}{σ:St}{H:Hp}{s:zas4}{a:Addr}{y v:V}{u r:Value}{o:Option V}{A:Around}{E:Value→zas4→Prop}
theorem Inv.big (I:Inv X pins σ H s):sysModules<s.heap.objs.size:=by
 have h:mainGlobals<s.heap.objs.size:=(I.mod.glob.keeps I.bk).lt
 exact zba9 (by decide) h
theorem d_in {Q:Value→zas4→Prop} (hu:A.units+1<cLine) (I:Inv X pins σ H s) (g:DGet H a y o) (ry:RelV y u) (h:∀s',Inv X pins σ H s'→Q (.bool o.isSome) s') :
  wpAny (model X.prog X.w) A (compareOp .In u (.ref a)) Q E s:=by
 rcases g with ⟨kvs,k,e,ey,l⟩ | ⟨kvs,k,b,e,ey,eb,l⟩
 ·subst ey
  obtain⟨z,hd,vs,rel,dd⟩:=dk_rd I.hok e
  refine wpAny_in_of (zan1 ry) hd dd.mapOf ?_
  rw [← (rel.val k).isSome_eq, ← l]
  exact h _ (I.tok _)
 ·subst ey
  cases (show u=Value.ref b from ry)
  obtain⟨z,hd,xs,rel,dd⟩:=dt_rd I.hok e
  refine wpAny_in_heap (tupleKind_room_in1 hu) (key_of I.hok eb) hd dd ?_
  have q:=(rel.val k).isSome_eq
  rw [zbb7]at q
  rw [← q, ← l]
  exact h _ (I.tok _)
theorem d_notIn {Q:Value→zas4→Prop} (hu:A.units+1<cLine) (I:Inv X pins σ H s) (g:DGet H a y o) (ry:RelV y u) (h:∀s',Inv X pins σ H s'→Q (.bool (!o.isSome)) s') :
  wpAny (model X.prog X.w) A (compareOp .NotIn u (.ref a)) Q E s:=by
 rcases g with ⟨kvs,k,e,ey,l⟩ | ⟨kvs,k,b,e,ey,eb,l⟩
 ·subst ey
  obtain⟨z,hd,vs,rel,dd⟩:=dk_rd I.hok e
  refine wpAny_notIn_of (zan1 ry) hd dd.mapOf ?_
  rw [← (rel.val k).isSome_eq, ← l]
  exact h _ (I.tok _)
 ·subst ey
  cases (show u=Value.ref b from ry)
  obtain⟨z,hd,xs,rel,dd⟩:=dt_rd I.hok e
  refine wpAny_notIn_heap (tupleKind_room_in1 hu) (key_of I.hok eb) hd dd ?_
  have q:=(rel.val k).isSome_eq
  rw [zbb7]at q
  rw [← q, ← l]
  exact h _ (I.tok _)
theorem zab7 {h':Heap}{t':Nat}{ob:HO} (I:Inv X pins σ H s) (mu:Mut (H a)) (hs:Heap.SameBut a s.heap h') (he:∃q,h'.get? a=some q) (new:ObjOk X.prog X.w (upd H a ob) h' a ob) :
  Inv X pins σ (upd H a ob) { s with heap:=h',toks:=t' } :=
 I.write (x:=a) (e:=a) mu (.inl rfl) (fun b q hb z=>(hs.2 b hb).trans z) he new
theorem dk_new {P:Program}{w:World}{H':Hp}{h':Heap}{kvs:List (Key×V)}{vs:List (Key×Value)} (z:kvs.length≤sizeLine) (hd:(a == sysModules)=false) (rel:KV kvs vs) (dd:h'.DictOf (zd8 P w) a vs) :
  ObjOk P w H' h' a (.dK kvs):=⟨z,hd,vs,rel,dd⟩
theorem zap0 {H':Hp}{Q:Unit→zas4→Prop} (hu:A.units+1<cLine) (I:Inv X pins σ H s) (g:DPut H a y v H') (ry:RelV y u) (rv:RelV v r) (h:∀s',Inv X pins σ H' s'→Q () s') :
  wpAny (model X.prog X.w) A (setItem (.ref a) u r) Q E s:=by
 rcases g with ⟨kvs,k,e,ey,l,eH⟩ | ⟨kvs,k,b,e,ey,eb,l,eH⟩
 ·subst ey eH
  obtain⟨z,hd,vs,rel,dd⟩:=dk_of I.hok e
  have hz:vs.length≤sizeLine:=by rw [← rel.length];exact z
  have hl:(putK kvs k v).length≤sizeLine:=by have:=zm0 kvs k v;lia
  refine wpAny_setItem_pairs (hsz:=hz) (zan1 ry) dd fun h' dd' hs=>h _ ?_
  have he:∃q,h'.get? a=some q:=let ⟨q,_,_,hq,_⟩:=dd';⟨q,hq⟩
  exact zab7 I (by rw [e];exact True.intro) hs he (dk_new hl hd (rel.put k rv) dd')
 ·subst ey eH
  cases (show u=Value.ref b from ry)
  obtain⟨z,hd,xs,rel,dd⟩:=dt_of I.hok e
  have hz:xs.length≤sizeLine:=by rw [← Paired.length rel];exact z
  have hl:(putK kvs k v).length≤sizeLine:=by have:=zm0 kvs k v;lia
  refine wpAny_setItem_heap (hsz:=hz) (tupleKind_room_in1 hu) (key_of I.hok eb) dd fun h' dd' hs=>h _ ?_
  obtain⟨q,es,ep,hq,h2,h3,h4,_,h5⟩:=dd'
  refine zab7 I (by rw [e];exact True.intro) hs ⟨q,hq⟩ ⟨hl,hd,_,(rel.put k eb rv).keeps fun c ys ec=>?_,q,es,ep,hq,h2,h3,h4,h5⟩
  rw [zb4 (ne_of ec e (fun z=>nomatch z))]
  exact ec
end
noncomputable def sDPut (td ty tv:TE):TS:=fun D σ H=>tv σ H fun v H1=>td σ H1 fun x H2=>ty σ H2 fun y H3 => ∃a H4,x=.ref a∧DPut H3 a y v H4∧D.nx σ H4
section
variable {X:Cx}{o i e value:Expr}{pos pos' tpos:Pos}{td ty tv:TE}
theorem ps_dput (hu:X.A.units+1<cLine) (ho:PE X o td) (hi:PE X i ty) (hv:PE X value tv) (hs:swapsWith value (some (.Subscript o i pos')) pos.line X.env=pure false) :
  PS X (.Assign [.Subscript o i pos'] value pos) (sDPut td ty tv):=by
 intro pins s σ H D I h
 refine wpAny_Assign_Subscript (thn (hv pins s σ H _ I h) fun r s1 ⟨v,H1,I1,rv,q1⟩=>thn (ho pins s1 σ H1 _ I1 q1) fun u s2 ⟨x,H2,I2,rx,q2⟩=>thn (hi pins s2 σ H2 _ I2 q2) fun iv s3 ⟨y,H3,I3,ry,a,H4,ex,g,q3⟩=>?_) hs
 subst ex
 obtain rfl:u=Value.ref a:=rx
 exact zap0 hu I3 g ry rv fun s4 I4=>⟨σ,H4,I4,q3⟩
end
theorem dk_empty {P:Program}{w:World}{H:Hp} (h:Heap) (hb:sysModules<h.objs.size):ObjOk P w H (h.push { cls:=.type "dict",data:=.dict #[] }) h.objs.size (.dK []) :=
 ⟨zbd7 _,beq_eq_false_iff_ne.mpr (Ne.symm (zau2 hb)),[],.nil,Heap.DictOf.new h⟩
noncomputable def zaj6:List (TE×TE)→St→Hp→(List (V×V)→Hp→Prop)→Prop
 |[],_,H,Q=>Q [] H
 |(tk,tv)::r,σ,H,Q=>tk σ H fun x H1=>tv σ H1 fun y H2=>zaj6 r σ H2 fun ps H3=>Q ((x,y)::ps) H3
abbrev VV:List (V×V)→List (Value×Value)→Prop:=Paired fun p q=>RelV p.1 q.1∧RelV p.2 q.2
noncomputable def PPs (X:Cx) (pos:Pos) (keys:List (Option Expr)) (values:List Expr) (trs:List (TE×TE)):Prop :=
 ∀(pins:List (Addr×Obj)) (s:zas4) (σ:St) (H:Hp) (Q:List (V×V)→Hp→Prop),Inv X pins σ H s→zaj6 trs σ H Q →
  wpAny (model X.prog X.w) X.A (evalPairs (pairTrees keys values X.env pos)) (fun vs s' => ∃ps H',Inv X pins σ H' s'∧VV ps vs∧Q ps H') X.xe s
theorem pps_nil {X:Cx}{pos:Pos}:PPs X pos [] [] []:=fun pins s σ H Q I h=>pairTrees_nil_walk ⟨[],H,I,.nil,h⟩
theorem pps_cons {X:Cx}{pos:Pos}{k v:Expr}{ks:List (Option Expr)}{vs:List Expr}{tk tv:TE}{trs:List (TE×TE)} (hk:PE X k tk) (hv:PE X v tv) (hr:PPs X pos ks vs trs) :
  PPs X pos (some k::ks) (v::vs) ((tk,tv)::trs):=fun pins s σ H Q I h =>
 pairTrees_cons_walk (thn (hk pins s σ H _ I h) fun u s1 ⟨x,H1,I1,rx,q1⟩=>thn (hv pins s1 σ H1 _ I1 q1) fun w2 s2 ⟨y,H2,I2,ry,q2⟩ =>
  thn (hr pins s2 σ H2 _ I2 q2) fun ws s3 ⟨ps,H3,I3,rel,q3⟩=>⟨(x,y)::ps,H3,I3,.cons ⟨rx,ry⟩ rel,q3⟩)
def zx2 (kvs more:List (Key×V)):List (Key×V):=more.foldl (fun acc kv=>putK acc kv.1 kv.2) kvs
theorem KV.merge:∀ {more:List (Key×V)}{rs:List (Key×Value)}{kvs:List (Key×V)}{vs:List (Key×Value)},KV more rs→KV kvs vs→KV (zx2 kvs more) (merged vs rs):=by
 intro more rs kvs vs r
 unfold KV at r
 induction r generalizing kvs vs with
 |nil=>intro q;exact q
 |@cons p q ps qs h t ih =>
  intro r0
  have e:KV (putK kvs p.1 p.2) (stored vs q.1 q.2):=by
   have:=r0.put p.1 h.2
   rw [← h.1];exact this
  exact ih e
theorem zn5:∀(more kvs:List (Key×V)),(zx2 kvs more).length≤kvs.length+more.length
 |[],kvs=>by show kvs.length≤kvs.length+0;lia
 |p::r,kvs=>by
  have h1:=zn5 r (putK kvs p.1 p.2)
  have h2:=zm0 kvs p.1 p.2
  show (zx2 (putK kvs p.1 p.2) r).length≤_
  rw [zau3];lia
theorem zt8 {P:Program}{w:World}:∀ {kvs:List (Key×V)}{ws:List (Value×Value)},VV (kvs.map fun kv=>(kV kv.1,kv.2)) ws→∃rs,Carries (zd8 P w) ws rs∧KV kvs rs
 |[],_,r=>by rw [zbd0]at r;cases r;exact⟨[],True.intro,.nil⟩
 |p::kvs,_,r=>by
  rw [zas1]at r
  cases r with
  |@cons a b as bs h t =>
   obtain⟨rs,c,q⟩:=zt8 (P:=P) (w:=w) t
   obtain⟨b1,b2⟩:=b
   exact⟨(p.1,b2)::rs,⟨zan1 h.1,rfl,c⟩,.cons ⟨rfl,h.2⟩ q⟩
noncomputable def tDisp (trs:List (TE×TE)):TE:=fun σ H Q => ∀p,H p=none→zaj6 trs σ (upd H p (.dK [])) fun ps H2=>H2 p=some (.dK [])∧∃kvs:List (Key×V),ps=kvs.map (fun kv=>(kV kv.1,kv.2))∧kvs.length≤15∧Q (.ref p) (upd H2 p (.dK (zx2 [] kvs)))
theorem pe_disp {X:Cx}{pos:Pos}{keys:List (Option Expr)}{values:List Expr}{trs:List (TE×TE)} (h:PPs X pos keys values trs) (hall:keys.all (·.isSome)=true) (hl:keys.length=values.length) (h0:keys≠[])
  (h15:keys.length≤15):PE X (.Dict keys values pos) (tDisp trs):=by
 intro pins s σ H Q I q
 have hn:=I.hok.fresh (zat4 s.heap.objs.size)
 have I1:=I.laid (a:=s.heap.objs.size) (o:=.dK []) (h':=s.heap.push { cls:=.type "dict",data:=.dict #[] }) (t':=s.toks) (fun _ _ q=>zas3 _ q) (zat4 _) (dk_empty s.heap I.big)
 refine wpAny_Dict_walk (knd:=zd8 X.prog X.w) hall hl h0 h15 (thn (h pins _ σ _ _ I1 (q _ hn)) fun ws s2 ⟨ps,H2,I2,rel,e,kvs,ep,lk,q2⟩=>?_)
 subst ep
 obtain⟨rs,c,rk⟩:=zt8 (P:=X.prog) (w:=X.w) rel
 obtain⟨z,hd,vs0,r0,dd⟩:=dk_of I2.hok e
 cases r0
 refine⟨rs,c,dd,fun h' dd' hs=>⟨.ref s.heap.objs.size,_,?_,rfl,q2⟩⟩
 have hz:(zx2 [] kvs).length≤sizeLine:=by
  have h1:=zn5 kvs []
  rw [zbc6]at h1
  rw [sizeLine_eq];lia
 have he:∃q,h'.get? s.heap.objs.size=some q:=let ⟨q,_,_,hq,_⟩:=dd';⟨q,hq⟩
 exact zab7 I2 (by rw [e];exact True.intro) hs he (dk_new hz hd (rk.merge .nil) dd')
structure M1 (X:Cx) (o:Expr) (m:Str) (apos:Pos) (e:Expr) (cpos:Pos):Prop where
 base:attributeBase o m X.env (eval o X.env)=eval o X.env
 few:((zay7 cpos (zat2 [e] X.env)).all (fun x=>!x.1)&&(backToKw cpos (keywordEach [] X.env)).all (fun x=>x.1.isSome)
  && decide (([e]:List Expr).length+([]:List Keyword).length+(if ([]:List Keyword).isEmpty then 0 else 1)<30))=true
 line:(apos.endLine == cpos.line)=true
 trees:zay7 cpos (zat2 [e] X.env)=[(false,eval e X.env)]
structure M2 (X:Cx) (o:Expr) (m:Str) (apos:Pos) (e f:Expr) (cpos:Pos):Prop where
 base:attributeBase o m X.env (eval o X.env)=eval o X.env
 few:((zay7 cpos (zat2 [e,f] X.env)).all (fun x=>!x.1)&&(backToKw cpos (keywordEach [] X.env)).all (fun x=>x.1.isSome)
  && decide (([e,f]:List Expr).length+([]:List Keyword).length+(if ([]:List Keyword).isEmpty then 0 else 1)<30))=true
 line:(apos.endLine == cpos.line)=true
 trees:zay7 cpos (zat2 [e,f] X.env)=[(false,eval e X.env),(false,eval f X.env)]
end L2
namespace DL
open PySem.Spec L2
inductive D where
 |non | bl (b:Bool) |int (i:Int) |str (x:Str) |tup (xs:List D) |lst (xs:List D) |dct (ks:List Key) (ds:List D) |pdc (ps:List (Int×Int))
def mkKV (ks:List Key) (vs:List V):List (Key×V):=ks.zip vs
def pkv (ps:List (Int×Int)):List (List Key×V):=ps.map fun q=>([Sum.inl q.1,Sum.inl q.2],V.bl true)
mutual
inductive Rep (K:zaq9) (H:Hp):D→V→Prop
 |non:Rep K H .non .non
 |bl (b:Bool):Rep K H (.bl b) (.bl b)
 |int (i:Int):Rep K H (.int i) (.int i)
 |str (x:Str):Rep K H (.str x) (.str x)
 |tup {ds:List D}{p:Addr}{vs:List V}:SqT K H p vs→Reps K H ds vs→Rep K H (.tup ds) (.ref p)
 |lst {ds:List D}{p:Addr}{vs:List V}:SqL K H p vs→Reps K H ds vs→Rep K H (.lst ds) (.ref p)
 |dct {ks:List Key}{ds:List D}{p:Addr}{vs:List V}:ks.length=vs.length→H p=some (.dK (mkKV ks vs))→Reps K H ds vs→Rep K H (.dct ks ds) (.ref p)
 |pdc {ps:List (Int×Int)}{p:Addr}:H p=some (.dT (pkv ps))→Rep K H (.pdc ps) (.ref p)
inductive Reps (K:zaq9) (H:Hp):List D→List V→Prop
 |nil:Reps K H [] []
 |cons {d:D}{v:V}{ds:List D}{vs:List V}:Rep K H d v→Reps K H ds vs→Reps K H (d::ds) (v::vs)
end
theorem SqL.mono {K:zaq9}{H H':Hp}{a:Addr}{xs:List V} (e:Same H H') (h:SqL K H a xs):SqL K H' a xs:=e.seq h
theorem SqT.mono {K:zaq9}{H H':Hp}{a:Addr}{xs:List V} (e:Same H H') (h:SqT K H a xs):SqT K H' a xs:=by
 rcases h with (h | ⟨o,h⟩) |h
 ·exact .inl (.inl (e _ _ h))
 ·exact .inl (.inr ⟨o,e _ _ h⟩)
 ·exact .inr h
mutual
theorem Rep.mono {K:zaq9}{H H':Hp} (e:Same H H'):∀ {d:D}{v:V},Rep K H d v→Rep K H' d v
 |_,_,.non=>.non
 |_,_,.bl b=>.bl b
 |_,_,.int i=>.int i
 |_,_,.str x=>.str x
 |_,_,.tup h r=>.tup (SqT.mono e h) (Reps.mono e r)
 |_,_,.lst h r=>.lst (SqL.mono e h) (Reps.mono e r)
 |_,_,.dct l h r=>.dct l (e _ _ h) (Reps.mono e r)
 |_,_,.pdc h=>.pdc (e _ _ h)
theorem Reps.mono {K:zaq9}{H H':Hp} (e:Same H H'):∀ {ds:List D}{vs:List V},Reps K H ds vs→Reps K H' ds vs
 |_,_,.nil=>.nil
 |_,_,.cons h r=>.cons (Rep.mono e h) (Reps.mono e r)
end
theorem Reps.length {K:zaq9}{H:Hp}:∀ {ds:List D}{vs:List V},Reps K H ds vs→vs.length=ds.length
 |_,_,.nil=>rfl
 |_,_,.cons _ r=>by simp [Reps.length r]
theorem Reps.get {K:zaq9}{H:Hp}:∀ {ds:List D}{vs:List V},Reps K H ds vs→∀ {i:Nat}{d:D},ds[i]?=some d→∃v,vs[i]?=some v∧Rep K H d v
 |_,_,.nil,i,d,e=>by simp at e
 |_,_,.cons (v:=v) h r,0,d,e=>by simp at e;subst e;exact⟨v,rfl,h⟩
 |_,_,.cons h r,i+1,d,e=>by
  obtain⟨v,a,b⟩:=Reps.get r (i:=i) (d:=d) (by simpa using e)
  exact⟨v,by simpa using a,b⟩
theorem Reps.getV {K:zaq9}{H:Hp}:∀ {ds:List D}{vs:List V},Reps K H ds vs→∀ {i:Nat}{v:V},vs[i]?=some v→∃d,ds[i]?=some d∧Rep K H d v
 |_,_,.nil,i,d,e=>by simp at e
 |_,_,.cons (d:=d) h r,0,v,e=>by simp at e;subst e;exact⟨d,rfl,h⟩
 |_,_,.cons h r,i+1,v,e=>by
  obtain⟨d,a,b⟩:=Reps.getV r (i:=i) (v:=v) (by simpa using e)
  exact⟨d,by simpa using a,b⟩
theorem Reps.app {K:zaq9}{H:Hp}:∀ {ds:List D}{vs:List V}{es:List D}{us:List V},Reps K H ds vs→Reps K H es us→Reps K H (ds++es) (vs++us)
 |_,_,_,_,.nil,r=>r
 |_,_,_,_,.cons h r,q=>.cons h (Reps.app r q)
theorem Reps.take {K:zaq9}{H:Hp}:∀ {ds:List D}{vs:List V} (n:Nat),Reps K H ds vs→Reps K H (ds.take n) (vs.take n)
 |_,_,0,_=>by simp;exact .nil
 |_,_,n+1,.nil=>by simp;exact .nil
 |_,_,n+1,.cons h r=>by simpa using .cons h (Reps.take n r)
theorem Reps.drop {K:zaq9}{H:Hp}:∀ {ds:List D}{vs:List V} (n:Nat),Reps K H ds vs→Reps K H (ds.drop n) (vs.drop n)
 |_,_,0,r=>by simpa using r
 |_,_,n+1,.nil=>by simp;exact .nil
 |_,_,n+1,.cons h r=>by simpa using Reps.drop n r
theorem Reps.one {K:zaq9}{H:Hp}{d:D}{v:V} (h:Rep K H d v):Reps K H [d] [v]:=.cons h .nil
theorem Reps.ints {K:zaq9}{H:Hp}:∀ns:List Int,Reps K H (ns.map D.int) (ns.map V.int)
 |[]=>.nil
 |n::ns=>.cons (.int n) (Reps.ints ns)
mutual
def flat:D→Bool
 |.lst _=>false
 |.dct _ _=>false
 |.pdc _=>false
 |.tup xs=>flats xs
 |_=>true
def flats:List D→Bool
 |[]=>true
 |d::ds=>flat d&&flats ds
end
def hide (P:List Addr) (H:Hp):Hp:=fun a=>if a∈P then none else H a
theorem zb1 (P:List Addr) (H:Hp):Same (hide P H) H:=fun b o e=>by
 unfold hide at e
 split at e
 ·cases e
 ·exact e
theorem zb7 {P:List Addr}{H:Hp}{a:Addr}{o:HO} (h:H a=some o) (n:a∉P):hide P H a=some o:=by
 unfold hide;rw [if_neg n];exact h
theorem zf5 {P:List Addr}{H:Hp}{a:Addr}{o:HO} (h:hide P H a=some o):a∉P∧H a=some o:=by
 unfold hide at h
 split at h
 ·cases h
 ·exact⟨by assumption,h⟩
theorem hide_nil (H:Hp):hide [] H=H:=by funext a;simp [hide]
theorem za7 {P P':List Addr} (H:Hp) (h:∀a∈P',a∈P):Same (hide P H) (hide P' H):=fun b o e=>by
 obtain⟨n,e⟩:=zf5 e
 exact zb7 e fun z=>n (h b z)
def mutO:HO→Bool
 |.lst _=>true
 |.dK _=>true
 |.dT _=>true
 |_=>false
abbrev MO:={o:HO // mutO o=true}
def mL (vs:List V):MO:=⟨.lst vs,rfl⟩
def mD (kvs:List (Key×V)):MO:=⟨.dK kvs,rfl⟩
def mT (kvs:List (List Key×V)):MO:=⟨.dT kvs,rfl⟩
def Lists (H:Hp) (P:List Addr):Prop := ∀p∈P,∃o:MO,H p=some o.1
theorem Lists.mono {H H':Hp}{P:List Addr} (h:Lists H P) (e:Same H H'):Lists H' P:=fun p hp=>let ⟨vs,q⟩:=h p hp;⟨vs,e _ _ q⟩
theorem SqT.hid {K:zaq9}{H:Hp}{P:List Addr}{a:Addr}{xs:List V} (m:Lists H P) (h:SqT K H a xs):SqT K (hide P H) a xs:=by
 rcases h with (h | ⟨o,h⟩) |h
 ·exact .inl (.inl (zb7 h fun z=>by obtain⟨⟨vs,w⟩,q⟩:=m _ z;rw [q]at h;cases h;cases w))
 ·exact .inl (.inr ⟨o,zb7 h fun z=>by obtain⟨⟨vs,w⟩,q⟩:=m _ z;rw [q]at h;cases h;cases w⟩)
 ·exact .inr h
mutual
theorem Rep.hid {K:zaq9}{H:Hp}{P:List Addr} (m:Lists H P):∀ {d:D}{v:V},flat d=true→Rep K H d v→Rep K (hide P H) d v
 |_,_,_,.non=>.non
 |_,_,_,.bl b=>.bl b
 |_,_,_,.int i=>.int i
 |_,_,_,.str x=>.str x
 |_,_,f,.tup h r=>.tup (SqT.hid m h) (Reps.hid m (by simpa [flat] using f) r)
 |_,_,f,.lst h r=>by simp [flat]at f
 |_,_,f,.dct _ h r=>by simp [flat]at f
 |_,_,f,.pdc h=>by simp [flat]at f
theorem Reps.hid {K:zaq9}{H:Hp}{P:List Addr} (m:Lists H P):∀ {ds:List D}{vs:List V},flats ds=true→Reps K H ds vs→Reps K (hide P H) ds vs
 |_,_,_,.nil=>.nil
 |_,_,f,.cons h r=>by
  simp [flats]at f
  exact .cons (Rep.hid m f.1 h) (Reps.hid m f.2 r)
end
mutual
inductive RepD (K:zaq9) (H0 H:Hp):D→V→List Addr→Prop
 |flat {d:D}{v:V}:flat d=true→Rep K H0 d v→RepD K H0 H d v []
 |tup {ds:List D}{p:Addr}{vs:List V}{B:List Addr}:SqT K H0 p vs→RepDs K H0 H ds vs B→RepD K H0 H (.tup ds) (.ref p) B
 |lst {ds:List D}{p:Addr}{vs:List V}{B:List Addr}:H p=some (.lst vs)→RepDs K H0 H ds vs B→RepD K H0 H (.lst ds) (.ref p) (p::B)
 |dct {ks:List Key}{ds:List D}{p:Addr}{vs:List V}{B:List Addr}:ks.length=vs.length→H p=some (.dK (mkKV ks vs))→RepDs K H0 H ds vs B→RepD K H0 H (.dct ks ds) (.ref p) (p::B)
 |pdc {ps:List (Int×Int)}{p:Addr}:H p=some (.dT (pkv ps))→RepD K H0 H (.pdc ps) (.ref p) [p]
inductive RepDs (K:zaq9) (H0 H:Hp):List D→List V→List Addr→Prop
 |nil:RepDs K H0 H [] [] []
 |cons {d:D}{v:V}{ds:List D}{vs:List V}{B C:List Addr}:RepD K H0 H d v B→RepDs K H0 H ds vs C→RepDs K H0 H (d::ds) (v::vs) (B++C)
end
mutual
theorem RepD.mono {K:zaq9}{H0 H H0' H':Hp} (e:Same H0 H0'):∀ {d:D}{v:V}{B:List Addr},RepD K H0 H d v B→(∀p∈B,∀o,H p=some o→H' p=some o)→RepD K H0' H' d v B
 |_,_,_,.flat f r,_=>.flat f (Rep.mono e r)
 |_,_,_,.tup h r,k=>.tup (SqT.mono e h) (RepDs.mono e r k)
 |_,_,_,.lst h r,k=>.lst (k _ (zar4 ..) _ h) (RepDs.mono e r fun p hp=>k p (zar1 _ hp))
 |_,_,_,.dct l h r,k=>.dct l (k _ (zar4 ..) _ h) (RepDs.mono e r fun p hp=>k p (zar1 _ hp))
 |_,_,_,.pdc h,k=>.pdc (k _ (zar4 ..) _ h)
theorem RepDs.mono {K:zaq9}{H0 H H0' H':Hp} (e:Same H0 H0'):∀ {ds:List D}{vs:List V}{B:List Addr},RepDs K H0 H ds vs B→(∀p∈B,∀o,H p=some o→H' p=some o)→RepDs K H0' H' ds vs B
 |_,_,_,.nil,_=>.nil
 |_,_,_,.cons h r,k=>.cons (RepD.mono e h fun p hp=>k p (zar0 _ hp)) (RepDs.mono e r fun p hp=>k p (zaq8 _ hp))
end
mutual
theorem RepD.rep {K:zaq9}{H0 H H1:Hp} (e:Same H0 H1):∀ {d:D}{v:V}{B:List Addr},RepD K H0 H d v B→(∀p∈B,∀o,H p=some o→H1 p=some o)→Rep K H1 d v
 |_,_,_,.flat f r,_=>Rep.mono e r
 |_,_,_,.tup h r,k=>.tup (SqT.mono e h) (RepDs.rep e r k)
 |_,_,_,.lst h r,k=>.lst (SqL.of (k _ (zar4 ..) _ h)) (RepDs.rep e r fun p hp=>k p (zar1 _ hp))
 |_,_,_,.dct l h r,k=>.dct l (k _ (zar4 ..) _ h) (RepDs.rep e r fun p hp=>k p (zar1 _ hp))
 |_,_,_,.pdc h,k=>.pdc (k _ (zar4 ..) _ h)
theorem RepDs.rep {K:zaq9}{H0 H H1:Hp} (e:Same H0 H1):∀ {ds:List D}{vs:List V}{B:List Addr},RepDs K H0 H ds vs B→(∀p∈B,∀o,H p=some o→H1 p=some o)→Reps K H1 ds vs
 |_,_,_,.nil,_=>.nil
 |_,_,_,.cons h r,k=>.cons (RepD.rep e h fun p hp=>k p (zar0 _ hp)) (RepDs.rep e r fun p hp=>k p (zaq8 _ hp))
end
mutual
theorem RepD.lists {K:zaq9}{H0 H:Hp}:∀ {d:D}{v:V}{B:List Addr},RepD K H0 H d v B→Lists H B
 |_,_,_,.flat f r=>fun p hp=>by cases hp
 |_,_,_,.tup h r=>RepDs.lists r
 |_,_,_,.lst h r=>fun p hp=>by
  rcases zar8.mp hp with rfl | hp
  ·exact⟨mL _,h⟩
  ·exact RepDs.lists r p hp
 |_,_,_,.dct _ h r=>fun p hp=>by
  rcases zar8.mp hp with rfl | hp
  ·exact⟨mD _,h⟩
  ·exact RepDs.lists r p hp
 |_,_,_,.pdc h=>fun p hp=>by
  rw [zas2]at hp
  subst hp
  exact⟨mT _,h⟩
theorem RepDs.lists {K:zaq9}{H0 H:Hp}:∀ {ds:List D}{vs:List V}{B:List Addr},RepDs K H0 H ds vs B→Lists H B
 |_,_,_,.nil=>fun p hp=>by cases hp
 |_,_,_,.cons h r=>fun p hp=>(zar3.mp hp).elim (RepD.lists h p) (RepDs.lists r p)
end
mutual
theorem RepD.hid {K:zaq9}{H0 H:Hp}{P:List Addr} (m:Lists H P) (e:Same H0 H):∀ {d:D}{v:V}{B:List Addr},RepD K H0 H d v B→RepD K (hide P H) H d v B
 |_,_,_,.flat f r=>.flat f (Rep.hid m f (Rep.mono e r))
 |_,_,_,.tup h r=>.tup (SqT.hid m (SqT.mono e h)) (RepDs.hid m e r)
 |_,_,_,.lst h r=>.lst h (RepDs.hid m e r)
 |_,_,_,.dct l h r=>.dct l h (RepDs.hid m e r)
 |_,_,_,.pdc h=>.pdc h
theorem RepDs.hid {K:zaq9}{H0 H:Hp}{P:List Addr} (m:Lists H P) (e:Same H0 H):∀ {ds:List D}{vs:List V}{B:List Addr},RepDs K H0 H ds vs B→RepDs K (hide P H) H ds vs B
 |_,_,_,.nil=>.nil
 |_,_,_,.cons h r=>.cons (RepD.hid m e h) (RepDs.hid m e r)
end
theorem RepDs.of_flat {K:zaq9}{H0 H:Hp}:∀ {ds:List D}{vs:List V},flats ds=true→Reps K H0 ds vs→RepDs K H0 H ds vs []
 |_,_,_,.nil=>.nil
 |_,_,f,.cons h r=>by
  simp [flats]at f
  exact .cons (B:=[]) (C:=[]) (.flat f.1 h) (RepDs.of_flat f.2 r)
theorem Lists.app {H:Hp}{P Q:List Addr} (h:Lists H P) (k:Lists H Q):Lists H (P++Q):=fun p hp=>(zar3.mp hp).elim (h p) (k p)
inductive Ev where
 |cl (d:D) |tm (d:D) |nw (xs:List D) |dn (d:D)
def Ev.d:Ev→D
 |.cl d=>d
 |.tm d=>d
 |.nw xs=>.lst xs
 |.dn d=>d
noncomputable def RepEv (K:zaq9) (F A:List Addr) (H H':Hp):Ev→V→Prop
 |.cl d,v=>Rep K (hide (A++F) H') d v
 |.tm d,v=>Rep K (hide F H') d v
 |.nw xs,v => ∃p vs,v=.ref p∧H p=none∧H' p=some (.lst vs)∧Reps K (hide (p ::(A++F)) H') xs vs
 |.dn d,v => ∃B,B.Nodup∧(∀b∈B,H b=none)∧RepD K (hide (B++(A++F)) H') H' d v B
theorem za8 {P:List Addr}{H H':Hp} (e:Same H H'):Same (hide P H) (hide P H'):=fun b o h=>by
 obtain⟨n,h⟩:=zf5 h
 exact zb7 (e _ _ h) n
theorem RepEv.mono {K:zaq9}{F A:List Addr}{H H1 H2:Hp}{r:Ev}{v:V} (h:RepEv K F A H H1 r v) (e:Same H1 H2):RepEv K F A H H2 r v:=by
 cases r with
 |cl d=>exact Rep.mono (za8 e) h
 |tm d=>exact Rep.mono (za8 e) h
 |nw xs =>
  obtain⟨p,vs,rfl,h1,h2,h3⟩:=h
  exact⟨p,vs,rfl,h1,e _ _ h2,Reps.mono (za8 e) h3⟩
 |dn d =>
  obtain⟨B,h1,h2,h3⟩:=h
  exact⟨B,h1,h2,RepD.mono (za8 e) h3 fun p _ o q=>e _ _ q⟩
theorem RepEv.back {K:zaq9}{F A:List Addr}{H0 H H1:Hp}{r:Ev}{v:V} (h:RepEv K F A H H1 r v) (e:Same H0 H):RepEv K F A H0 H1 r v:=by
 cases r with
 |cl d=>exact h
 |tm d=>exact h
 |nw xs =>
  obtain⟨p,vs,rfl,h1,h2,h3⟩:=h
  refine⟨p,vs,rfl,?_,h2,h3⟩
  cases q:H0 p with
  |none=>rfl
  |some o=>rw [e _ _ q]at h1;cases h1
 |dn d =>
  obtain⟨B,h1,h2,h3⟩:=h
  exact⟨B,h1,fun b hb=>Same.free e (h2 b hb),h3⟩
theorem RepEv.full {K:zaq9}{F A:List Addr}{H H':Hp}{r:Ev}{v:V} (h:RepEv K F A H H' r v):Rep K H' r.d v:=by
 cases r with
 |cl d=>exact Rep.mono (zb1 _ _) h
 |tm d=>exact Rep.mono (zb1 _ _) h
 |nw xs =>
  obtain⟨p,vs,rfl,h1,h2,h3⟩:=h
  exact .lst (SqL.of h2) (Reps.mono (zb1 _ _) h3)
 |dn d =>
  obtain⟨B,h1,h2,h3⟩:=h
  exact h3.rep (zb1 _ _) fun _ _ _ q=>q
theorem zc1 {H:Hp}{P:List Addr}{p:Addr} (m:Lists H P) (h:H p=none):p∉P:=fun z=>by
 obtain⟨vs,q⟩:=m _ z
 rw [q]at h;cases h
theorem RepEv.cleanF {K:zaq9}{F A:List Addr}{H H':Hp}{r:Ev}{v:V} (m:Lists H (A++F)) (h:RepEv K F A H H' r v):Rep K (hide F H') r.d v:=by
 cases r with
 |cl d=>exact Rep.mono (za7 H' fun a z=>zaq8 _ z) h
 |tm d=>exact h
 |nw xs =>
  obtain⟨p,vs,rfl,h1,h2,h3⟩:=h
  have n:p∉F:=fun z=>zc1 m h1 (zaq8 _ z)
  exact .lst (SqL.of (zb7 h2 n)) (Reps.mono (za7 H' fun a z=>zar1 _ (zaq8 _ z)) h3)
 |dn d =>
  obtain⟨B,h1,h2,h3⟩:=h
  refine h3.rep (za7 H' fun a z=>zaq8 _ (zaq8 _ z)) fun b hb o q=>zb7 q fun z=>?_
  exact zc1 m (h2 b hb) (zaq8 _ z)
def Ev.ok:Ev→Bool
 |.cl _=>true
 |.tm d=>flat d
 |.nw _=>true
 |.dn _=>true
theorem RepEv.clean {K:zaq9}{F A:List Addr}{H H':Hp}{r:Ev}{v:V} (m:Lists H (A++F)) (e:Same H H') (h:RepEv K F A H H' r v) (c:r.ok=true):Rep K (hide (A++F) H') r.d v:=by
 cases r with
 |cl d=>exact h
 |tm d =>
  have m':Lists H' (A++F):=m.mono e
  exact Rep.hid m' c (Rep.mono (zb1 _ _) h)
 |nw xs =>
  obtain⟨p,vs,rfl,h1,h2,h3⟩:=h
  have n:p∉A++F:=zc1 m h1
  exact .lst (SqL.of (zb7 h2 n)) (Reps.mono (za7 H' fun a z=>zar1 _ z) h3)
 |dn d =>
  obtain⟨B,h1,h2,h3⟩:=h
  exact h3.rep (za7 H' fun a z=>zaq8 _ z) fun b hb o q=>zb7 q fun z=>zc1 m (h2 b hb) z
inductive Sl where
 |no | val (d:D) |own (xs:List D) |dp (d:D)
abbrev Th:=List Sl
inductive RSl (K:zaq9) (H0 H:Hp):Th→L2.St→List Addr→Prop
 |nil:RSl K H0 H [] [] []
 |no {x:Option V}{t:Th}{σ:L2.St}{A:List Addr}:RSl K H0 H t σ A→RSl K H0 H (.no::t) (x::σ) A
 |val {d:D}{v:V}{t:Th}{σ:L2.St}{A:List Addr}:Rep K H0 d v→RSl K H0 H t σ A→RSl K H0 H (.val d::t) (some v::σ) A
 |own {p:Addr}{vs:List V}{ds:List D}{t:Th}{σ:L2.St}{A:List Addr}:H p=some (.lst vs)→Reps K H0 ds vs→RSl K H0 H t σ A→RSl K H0 H (.own ds::t) (some (.ref p)::σ) (p::A)
 |dp {d:D}{v:V}{B:List Addr}{t:Th}{σ:L2.St}{A:List Addr}:RepD K H0 H d v B→RSl K H0 H t σ A→RSl K H0 H (.dp d::t) (some v::σ) (B++A)
structure RS (K:zaq9) (F:List Addr) (H:Hp) (A:List Addr) (t:Th) (σ:L2.St):Prop where
 mu:Lists H (A++F)
 nd:A.Nodup
 dj:∀p∈A,p∉F
 rel:RSl K (hide (A++F) H) H t σ A
theorem RSl.mono {K:zaq9}{H0 H H0' H':Hp} (e0:Same H0 H0'):∀ {t:Th}{σ:L2.St}{A:List Addr},RSl K H0 H t σ A→(∀p∈A,∀o,H p=some o→H' p=some o)→RSl K H0' H' t σ A:=by
 intro _ _ _ h
 induction h with
 |nil =>
  intro w0
  exact .nil
 |@no _ _ _ _ r ih =>
  intro e
  exact .no (ih e)
 |@val _ _ _ _ _ h r ih =>
  intro e
  exact .val (Rep.mono e0 h) (ih e)
 |@own _ _ _ _ _ _ h1 h2 r ih =>
  intro e
  exact .own (e _ (zar4 ..) _ h1) (Reps.mono e0 h2) (ih fun p hp=>e p (zar1 _ hp))
 |@dp _ _ _ _ _ _ h r ih =>
  intro e
  exact .dp (RepD.mono e0 h fun p hp=>e p (zar0 _ hp)) (ih fun p hp=>e p (zaq8 _ hp))
theorem RS.grow {K:zaq9}{F A:List Addr}{H H':Hp}{t:Th}{σ:L2.St} (h:RS K F H A t σ) (e:Same H H'):RS K F H' A t σ :=
 ⟨h.mu.mono e,h.nd,h.dj,h.rel.mono (za8 e) fun p _ o q=>e _ _ q⟩
theorem RSl.getVal {K:zaq9}{H0 H:Hp}:∀ {t:Th}{σ:L2.St}{A:List Addr},RSl K H0 H t σ A→∀ {i:Nat}{d:D},t[i]?=some (.val d)→∃v,σ[i]?=some (some v)∧Rep K H0 d v:=by
 intro _ _ _ h
 induction h with
 |nil =>
  intro i d e
  simp at e
 |@no _ _ _ _ r ih =>
  intro i d e
  cases i with
  |zero =>
   simp at e
  |succ i =>
   simpa using ih (i:=i) (by simpa using e)
 |@val _ v _ _ _ h r ih =>
  intro i d e
  cases i with
  |zero =>
   simp at e;subst e;exact⟨v,rfl,h⟩
  |succ i =>
   simpa using ih (i:=i) (by simpa using e)
 |@own _ _ _ _ _ _ _ _ r ih =>
  intro i d e
  cases i with
  |zero =>
   simp at e
  |succ i =>
   simpa using ih (i:=i) (by simpa using e)
 |@dp _ _ _ _ _ _ _ r ih =>
  intro i d e
  cases i with
  |zero =>
   simp at e
  |succ i =>
   simpa using ih (i:=i) (by simpa using e)
theorem RSl.getOwn {K:zaq9}{H0 H:Hp}:∀ {t:Th}{σ:L2.St}{A:List Addr},RSl K H0 H t σ A→∀ {i:Nat}{ds:List D},t[i]?=some (.own ds)→∃p vs,σ[i]?=some (some (.ref p))∧p∈A∧H p=some (.lst vs)∧Reps K H0 ds vs:=by
 intro _ _ _ h
 induction h with
 |nil =>
  intro i d e
  simp at e
 |@no _ _ _ _ r ih =>
  intro i d e
  cases i with
  |zero =>
   simp at e
  |succ i =>
   simpa using ih (i:=i) (by simpa using e)
 |@val _ v _ _ _ h r ih =>
  intro i d e
  cases i with
  |zero =>
   simp at e
  |succ i =>
   simpa using ih (i:=i) (by simpa using e)
 |@own p vs _ _ _ _ h1 h2 r ih =>
  intro i d e
  cases i with
  |zero =>
   simp at e;subst e;exact⟨p,vs,rfl,zar4 ..,h1,h2⟩
  |succ i =>
   obtain⟨p,vs,a,b,c,f⟩:=ih (i:=i) (ds:=d) (by simpa using e)
   exact⟨p,vs,by simpa using a,zar1 _ b,c,f⟩
 |@dp _ _ _ _ _ _ _ r ih =>
  intro i d e
  cases i with
  |zero =>
   simp at e
  |succ i =>
   obtain⟨p,vs,a,b,c,f⟩:=ih (i:=i) (ds:=d) (by simpa using e)
   exact⟨p,vs,by simpa using a,zaq8 _ b,c,f⟩
theorem RSl.getDp {K:zaq9}{H0 H:Hp}:∀ {t:Th}{σ:L2.St}{A:List Addr},RSl K H0 H t σ A→A.Nodup→∀ {i:Nat}{d:D},t[i]?=some (.dp d)→∃v B,σ[i]?=some (some v)∧(∀b∈B,b∈A)∧B.Nodup∧RepD K H0 H d v B:=by
 intro _ _ _ h
 induction h with
 |nil =>
  intro n i d e
  simp at e
 |@no _ _ _ _ r ih =>
  intro n i d e
  cases i with
  |zero =>
   simp at e
  |succ i =>
   simpa using ih n (i:=i) (by simpa using e)
 |@val _ v _ _ _ h r ih =>
  intro n i d e
  cases i with
  |zero =>
   simp at e
  |succ i =>
   simpa using ih n (i:=i) (by simpa using e)
 |@own _ _ _ _ _ _ _ _ r ih =>
  intro n i d e
  cases i with
  |zero =>
   simp at e
  |succ i =>
   obtain⟨v,B,a,b,n',c⟩:=ih (zat3.mp n).2 (i:=i) (d:=d) (by simpa using e)
   exact⟨v,B,by simpa using a,fun x hx=>zar1 _ (b x hx),n',c⟩
 |@dp _ v B _ _ _ h r ih =>
  intro n i d e
  cases i with
  |zero =>
   simp at e;subst e;exact⟨v,B,rfl,fun x hx=>zar0 _ hx,(zas9.mp n).1,h⟩
  |succ i =>
   obtain⟨v,B,a,b,n',c⟩:=ih (zas9.mp n).2.1 (i:=i) (d:=d) (by simpa using e)
   exact⟨v,B,by simpa using a,fun x hx=>zaq8 _ (b x hx),n',c⟩
structure Gr (A:List Addr) (H:Hp) (A':List Addr) (H':Hp):Prop where
 kp:∀b o,b∉A→H b=some o→H' b=some o
 al:∀b∈A,H' b≠none
 nw:∀b∈A',b∈A∨H b=none
theorem Gr.refl {A:List Addr}{H:Hp} (m:Lists H A):Gr A H A H:=⟨fun _ _ _ h=>h,fun b hb=>by obtain⟨vs,q⟩:=m b hb;rw [q];simp,fun b h=>.inl h⟩
theorem Gr.of_same {A:List Addr}{H H':Hp} (m:Lists H A) (e:Same H H'):Gr A H A H':=⟨fun _ _ _ h=>e _ _ h,fun b hb=>by obtain⟨vs,q⟩:=m b hb;rw [e _ _ q];simp,fun b h=>.inl h⟩
theorem Gr.trans {A A1 A2:List Addr}{H H1 H2:Hp} (a:Gr A H A1 H1) (b:Gr A1 H1 A2 H2):Gr A H A2 H2 where
 kp:=fun x o n h=>b.kp x o (fun z=>by rcases a.nw x z with q | q;exact n q;rw [q]at h;cases h) (a.kp x o n h)
 al:=fun x hx=>by
  by_cases z:x∈A1
  ·exact b.al x z
  ·have:=a.al x hx
   cases q:H1 x with
   |none=>exact absurd q this
   |some o=>rw [b.kp x o z q];simp
 nw:=fun x hx=>by
  rcases b.nw x hx with q | q
  ·exact a.nw x q
  ·by_cases z:x∈A
   ·exact .inl z
   ·refine .inr ?_
    cases w:H x with
    |none=>rfl
    |some o=>rw [a.kp x o z w]at q;cases q
theorem Gr.same {F A A':List Addr}{H H':Hp} (g:Gr A H A' H'):Same (hide (A++F) H) (hide (A'++F) H'):=fun b o h=>by
 obtain⟨n,h⟩:=zf5 h
 have n1:b∉A:=fun z=>n (zar0 _ z)
 refine zb7 (g.kp b o n1 h) fun z=>?_
 rcases zar3.mp z with z | z
 ·rcases g.nw b z with q | q
  ·exact n1 q
  ·rw [q]at h;cases h
 ·exact n (zaq8 _ z)
end DL
namespace DL
open PySem.Spec L2
abbrev DE:=Th→Option Ev
noncomputable def dE (K:zaq9) (F:List Addr) (f:DE):TE:=fun σ H Q => ∃A t r,RS K F H A t σ∧f t=some r∧∀v H',Same H H'→RepEv K F A H H' r v→Q v H'
theorem PE.imp {X:Cx}{e:Expr}{t t':TE} (h:PE X e t) (i:∀σ H Q,t' σ H Q→t σ H Q):PE X e t':=fun pins s σ H Q I q=>h pins s σ H Q I (i σ H Q q)
section
variable {X:Cx}{F:List Addr}{a b c:Expr}{fa fb fc:DE}{pos:Pos}
noncomputable def dVar (i:Nat):DE:=fun t=>match t[i]? with
 |some (.val d)=>some (.cl d)
 |some (.own xs)=>some (.tm (.lst xs))
 |some (.dp d)=>some (.tm d)
 |_=>none
theorem za0 (i:Nat) {x:Str} (hN:X.N[i]?=some x:=by rfl) (hv:Vis X.env.scope x:=by first | exact Or.inl rfl | exact Or.inr (Or.inl rfl) |exact Or.inr (Or.inr rfl)) (hd:(x ==("__debug__":Str))=false:=by decide)
  (hcd:(x ==("__classdict__":Str))=false:=by decide):PE X (.Name x pos) (dE X.K F (dVar i)):=by
 refine PE.imp (zj6 (i:=i) hN hv hd hcd) ?_
 rintro σ H Q ⟨A,t,r,R,e,h⟩
 unfold dVar at e
 split at e
 ·rename_i d q
  cases e
  obtain⟨v,h1,h2⟩:=R.rel.getVal q
  exact⟨v,h1,h v H (Same.refl H) h2⟩
 ·rename_i ds q
  cases e
  obtain⟨p,vs,h1,h2,h3,h4⟩:=R.rel.getOwn q
  refine⟨_,h1,h _ H (Same.refl H) ?_⟩
  exact .lst (SqL.of (zb7 h3 (R.dj p h2))) (Reps.mono (za7 H fun a z=>zaq8 _ z) h4)
 ·rename_i d q
  cases e
  obtain⟨v,B,h1,h2,h0,h3⟩:=R.rel.getDp R.nd q
  refine⟨_,h1,h _ H (Same.refl H) ?_⟩
  exact h3.rep (za7 H fun a z=>zaq8 _ z) fun b hb o w=>zb7 w (R.dj b (h2 b hb))
 ·cases e
def dC (d:D):DE:=fun _=>some (.cl d)
theorem za4 {i j pos}:PE X (.Constant (.int i) j pos) (dE X.K F (dC (.int i))):=PE.imp pe_int fun σ H Q ⟨A,t,r,R,e,h⟩=>by cases e;exact h _ H (Same.refl H) (.int i)
theorem zl5 {b j pos}:PE X (.Constant (.bool b) j pos) (dE X.K F (dC (.bl b))):=PE.imp pe_bl fun σ H Q ⟨A,t,r,R,e,h⟩=>by cases e;exact h _ H (Same.refl H) (.bl b)
noncomputable def OpD (X:Cx) (F:List Addr) (f:Value→Value→Sem Value) (k:Ev→Ev→Option Ev):Prop :=
 ∀(pins:List (Addr×Obj)) (s:zas4) (σ:L2.St) (H0 H:Hp) (A:List Addr) (x y:V) (v u:Value) (Q:VK) (r1 r2 r:Ev),Inv X pins σ H s→Lists H0 (A++F)→Same H0 H→RelV x v→RelV y u →
  RepEv X.K F A H0 H r1 x→RepEv X.K F A H0 H r2 y→k r1 r2=some r→(∀z H',Same H H'→RepEv X.K F A H0 H' r z→Q z H')→wpAny (model X.prog X.w) X.A (f v u) (EP X pins σ Q) X.xe s
def d2 (k:Ev→Ev→Option Ev) (fa fb:DE):DE:=fun t=>(fa t).bind fun r1=>(fb t).bind fun r2=>k r1 r2
theorem two {k:Ev→Ev→Option Ev}{σ:L2.St}{H:Hp}{Q:VK} (h:dE X.K F (d2 k fa fb) σ H Q):∃A t r1 r2 r,RS X.K F H A t σ∧fa t=some r1∧fb t=some r2∧k r1 r2=some r ∧
  (∀v H',Same H H'→RepEv X.K F A H H' r v→Q v H')∧dE X.K F fa σ H fun x H1=>dE X.K F fb σ H1 fun y H2=>Same H H2∧RepEv X.K F A H H2 r1 x∧RepEv X.K F A H H2 r2 y:=by
 obtain⟨A,t,r,R,e,h⟩:=h
 unfold d2 at e
 cases e1:fa t with
 |none=>rw [e1]at e;cases e
 |some r1 =>
  cases e2:fb t with
  |none=>rw [e1,e2]at e;cases e
  |some r2 =>
   rw [e1,e2]at e
   exact⟨A,t,r1,r2,r,R,e1,e2,e,h,A,t,r1,R,e1,fun x H1 g1 q1=>⟨A,t,r2,R.grow g1,e2,fun y H2 g2 q2=>⟨g1.trans g2,q1.mono g2,q2.back g1⟩⟩⟩
theorem zb3 {op:Operator}{k:Ev→Ev→Option Ev} (ho:OpD X F (binaryOp op) k) (ha:PE X a (dE X.K F fa)) (hb:PE X b (dE X.K F fb)):PE X (.BinOp a op b pos) (dE X.K F (d2 k fa fb)):=by
 intro pins s σ H Q I h
 obtain⟨A,t,r1,r2,r,R,e1,e2,e,h,w⟩:=two h
 refine wpAny_BinOp (bin ha hb I w fun v u s2 x y H2 I2 rx ry q=>?_)
 obtain⟨g,q1,q2⟩:=q
 exact ho pins s2 σ H H2 A x y v u Q r1 r2 r I2 R.mu g rx ry q1 q2 e fun z H' g'=>h z H' (g.trans g')
theorem zaa6 {op:CmpOp}{k:Ev→Ev→Option Ev} (ho:OpD X F (compareOp op) k) (ha:PE X a (dE X.K F fa)) (hb:PE X b (dE X.K F fb)) (hm:behindInMarks op b=false:=by first | exact nomark _ | (with_unfolding_all rfl)) :
  PE X (.Compare a [op] [b] pos) (dE X.K F (d2 k fa fb)):=by
 intro pins s σ H Q I h
 obtain⟨A,t,r1,r2,r,R,e1,e2,e,h,w⟩:=two h
 refine wpAny_Compare1 (bin ha hb I w fun v u s2 x y H2 I2 rx ry q=>?_) hm
 obtain⟨g,q1,q2⟩:=q
 exact ho pins s2 σ H H2 A x y v u Q r1 r2 r I2 R.mu g rx ry q1 q2 e fun z H' g'=>h z H' (g.trans g')
noncomputable def kI (C:Int→Int→Bool) (g:Int→Int→D):Ev→Ev→Option Ev:=fun r1 r2=>match r1.d,r2.d with
 |.int i,.int j=>if C i j then some (.cl (g i j)) else none
 |_,_=>none
theorem zg3 {K:zaq9}{H:Hp}{i:Int}{v:V} (h:Rep K H (.int i) v):v=.int i:=by cases h;rfl
theorem zw6 {f:Value→Value→Sem Value}{C:Int→Int→Prop}{g:Int→Int→V}{C':Int→Int→Bool}{g':Int→Int→D} (h:OpR X f (rI C g)) (hc:∀i j,C' i j=true→C i j)
  (hg:∀H i j,Rep X.K H (g' i j) (g i j)):OpD X F f (kI C' g'):=by
 intro pins s σ H0 H A x y v u Q r1 r2 r I m g0 rx ry q1 q2 e hq
 have p1:=q1.full
 have p2:=q2.full
 unfold kI at e
 split at e
 ·rename_i i j d1 d2
  split at e
  ·rename_i c
   cases e
   rw [d1]at p1;rw [d2]at p2
   cases zg3 p1;cases zg3 p2
   exact h pins s σ H _ _ v u Q I rx ry ⟨i,j,rfl,rfl,hc i j c,hq _ H (Same.refl H) (hg _ i j)⟩
  ·cases e
 ·cases e
theorem rI_of {f:Value→Value→Sem Value}{g:Int→Int→V} (h:OpR X f (rI0 g)):OpR X f (rI (fun _ _=>True) g):=fun pins s σ H x y v u Q I rx ry ⟨i,j,e1,e2,_,q⟩=>h pins s σ H x y v u Q I rx ry ⟨i,j,e1,e2,q⟩
def tt2:Int→Int→Bool:=fun _ _=>true
theorem od_add:OpD X F (binaryOp .Add) (kI tt2 fun i j=>.int (i+j)):=zw6 (rI_of op_add) (fun _ _ _=>trivial) fun _ _ _=>.int _
theorem zx1:OpD X F (binaryOp .Sub) (kI tt2 fun i j=>.int (i - j)):=zw6 (rI_of op_sub) (fun _ _ _=>trivial) fun _ _ _=>.int _
def bnd:Nat:=2 ^ 4096
def sm (i:Int):Bool:=decide (i.natAbs<bnd)
def cMul (i j:Int):Bool:=sm i&&sm j
def cDiv (_ j:Int):Bool:=sm j&&decide (j≠0)
theorem zam5 {n k:Nat} (h:n<2 ^ k):n.log2≤k:=by
 by_cases z:n=0
 ·subst z;simp
 ·exact zba6 ((Nat.log2_lt z).mpr h)
theorem cMul.ok {i j:Int} (h:cMul i j=true):IntMulOk i j:=by
 simp only [cMul,sm,zar9,decide_eq_true_eq]at h
 refine mulOk_of_bits (m:=4097) (n:=4097) ?_ ?_ (by decide)
 ·exact intBits_le (zas5 h.1 (by unfold bnd;exact zay6 (by decide) (by decide)))
 ·exact intBits_le (zas5 h.2 (by unfold bnd;exact zay6 (by decide) (by decide)))
theorem od_mul:OpD X F (binaryOp .Mult) (kI cMul fun i j=>.int (i*j)):=zw6 (C:=IntMulOk) (opI fun _ _ _ _ _ _ _ hc q=>mul_int q hc) (fun _ _ h=>cMul.ok h) fun _ _ _=>.int _
theorem cDiv.ok {i j:Int} (h:cDiv i j=true):j≠0∧j.natAbs.log2<9000:=by
 simp only [cDiv,sm,zar9,decide_eq_true_eq]at h
 have:=zam5 h.1
 exact⟨h.2,by lia⟩
theorem zae7:OpD X F (binaryOp .FloorDiv) (kI cDiv fun i j=>.int (i.fdiv j)):=zw6 (C:=fun _ j=>j≠0∧j.natAbs.log2<9000) (opI fun _ _ _ _ _ _ _ hc q=>floordiv_int hc.1 q (.inl (PyProof.noPylong_of_log2 hc.2))) (fun _ _ h=>cDiv.ok h) fun _ _ _=>.int _
def cMod (_ j:Int):Bool:=decide (j≠0)
theorem zg6:OpD X F (binaryOp .Mod) (kI cMod fun i j=>.int (i.fmod j)):=zw6 op_modN (fun i j h=>by simpa [cMod] using h) fun _ _ _=>.int _
def cPow (i j:Int):Bool:=decide (0≤j∧j≤1000∧i.natAbs<18446744073709551616)
theorem od_pow:OpD X F (binaryOp .Pow) (kI cPow fun i j=>.int (i ^ j.toNat)):=zw6 op_pow (fun i j h=>by
 simp only [cPow,decide_eq_true_eq]at h
 exact⟨h.1,by lia,by show i.natAbs<2 ^ 64;lia⟩) fun _ _ _=>.int _
theorem od_lt:OpD X F (compareOp .Lt) (kI tt2 fun i j=>.bl (decide (i<j))):=zw6 (rI_of op_lt) (fun _ _ _=>trivial) fun _ _ _=>.bl _
theorem od_gt:OpD X F (compareOp .Gt) (kI tt2 fun i j=>.bl (decide (j<i))):=zw6 (rI_of op_gt) (fun _ _ _=>trivial) fun _ _ _=>.bl _
def kOr (k k':Ev→Ev→Option Ev):Ev→Ev→Option Ev:=fun r1 r2=>match k r1 r2 with
 |some r=>some r
 |none=>k' r1 r2
theorem OpD.or {f:Value→Value→Sem Value}{k k':Ev→Ev→Option Ev} (h:OpD X F f k) (h':OpD X F f k'):OpD X F f (kOr k k'):=by
 intro pins s σ H0 H A x y v u Q r1 r2 r I m g0 rx ry q1 q2 e hq
 unfold kOr at e
 split at e
 ·rename_i z
  cases e
  exact h pins s σ H0 H A x y v u Q r1 r2 _ I m g0 rx ry q1 q2 z hq
 ·exact h' pins s σ H0 H A x y v u Q r1 r2 _ I m g0 rx ry q1 q2 e hq
def d1 (k:Ev→Option Ev) (fa:DE):DE:=fun t=>(fa t).bind k
end
end DL
namespace DL
open PySem.Spec L2
inductive RepEvs (K:zaq9) (F A:List Addr) (H H':Hp):List Ev→List V→Prop
 |nil:RepEvs K F A H H' [] []
 |cons {r:Ev}{v:V}{rs:List Ev}{vs:List V}:RepEv K F A H H' r v→RepEvs K F A H H' rs vs→RepEvs K F A H H' (r::rs) (v::vs)
theorem RepEvs.back {K:zaq9}{F A:List Addr}{H0 H H1:Hp} (e:Same H0 H):∀ {rs:List Ev}{vs:List V},RepEvs K F A H H1 rs vs→RepEvs K F A H0 H1 rs vs
 |_,_,.nil=>.nil
 |_,_,.cons h r=>.cons (h.back e) (RepEvs.back e r)
theorem RepEvs.full {K:zaq9}{F A:List Addr}{H H':Hp}:∀ {rs:List Ev}{vs:List V},RepEvs K F A H H' rs vs→Reps K H' (rs.map Ev.d) vs
 |_,_,.nil=>.nil
 |_,_,.cons h r=>.cons h.full (RepEvs.full r)
theorem RepEvs.cleanF {K:zaq9}{F A:List Addr}{H H':Hp} (m:Lists H (A++F)):∀ {rs:List Ev}{vs:List V},RepEvs K F A H H' rs vs→Reps K (hide F H') (rs.map Ev.d) vs
 |_,_,.nil=>.nil
 |_,_,.cons h r=>.cons (h.cleanF m) (RepEvs.cleanF m r)
theorem RepEvs.clean {K:zaq9}{F A:List Addr}{H H':Hp} (m:Lists H (A++F)) (e:Same H H'):∀ {rs:List Ev}{vs:List V},RepEvs K F A H H' rs vs→rs.all Ev.ok=true→Reps K (hide (A++F) H') (rs.map Ev.d) vs
 |_,_,.nil,_=>.nil
 |_,_,.cons h r,c=>by
  simp only [zau0,zar9]at c
  exact .cons (h.clean m e c.1) (RepEvs.clean m e r c.2)
abbrev DA:=Th→Option (List Ev)
noncomputable def dA (K:zaq9) (F:List Addr) (f:DA):TA:=fun σ H Q => ∃A t rs,RS K F H A t σ∧f t=some rs∧∀vs H',Same H H'→RepEvs K F A H H' rs vs→Q vs H'
theorem PA.imp {X:Cx}{e:List Expr}{t t':TA} (h:PA X e t) (i:∀σ H Q,t' σ H Q→t σ H Q):PA X e t':=fun pos pins s σ H Q I q=>h pos pins s σ H Q I (i σ H Q q)
def dNil:DA:=fun _=>some []
def za2 (f:DE) (g:DA):DA:=fun t=>(f t).bind fun r=>(g t).bind fun rs=>some (r::rs)
section
variable {X:Cx}{F:List Addr}{a b c:Expr}{es:List Expr}{fa fb fc:DE}{g:DA}{pos:Pos}
theorem za6:PA X [] (dA X.K F dNil):=PA.imp zl6 fun σ H Q ⟨A,t,rs,R,e,h⟩=>by cases e;exact h [] H (Same.refl H) .nil
theorem za1 (ha:PE X a (dE X.K F fa)) (hr:PA X es (dA X.K F g)) (hs:zat2 (a::es) X.env=(false,eval a X.env)::zat2 es X.env:=by rfl):PA X (a::es) (dA X.K F (za2 fa g)):=by
 refine PA.imp (zh9 ha hr hs) ?_
 rintro σ H Q ⟨A,t,rs,R,e,h⟩
 unfold za2 at e
 cases e1:fa t with
 |none=>rw [e1]at e;cases e
 |some r1 =>
  cases e2:g t with
  |none=>rw [e1,e2]at e;cases e
  |some rs2 =>
   rw [e1,e2]at e
   cases e
   exact⟨A,t,r1,R,e1,fun x H1 g1 q1=>⟨A,t,rs2,R.grow g1,e2,fun xs H2 g2 q2=>h _ _ (g1.trans g2) (.cons (q1.mono g2) (q2.back g1))⟩⟩
noncomputable def kTup:List Ev→Option Ev:=fun rs=>if rs.length≤1000 then (if rs.all Ev.ok then some (.cl (.tup (rs.map Ev.d))) else some (.tm (.tup (rs.map Ev.d)))) else none
def dT1 (k:List Ev→Option Ev) (g:DA):DE:=fun t=>(g t).bind k
theorem RepEvs.length {K:zaq9}{F A:List Addr}{H H':Hp}:∀ {rs:List Ev}{vs:List V},RepEvs K F A H H' rs vs→vs.length=rs.length
 |_,_,.nil=>rfl
 |_,_,.cons _ r=>by simp [RepEvs.length r]
theorem zi1 {n:Nat} (h:n≤100000):n≤sizeLine:=zaw5 h (by rw [sizeLine_eq];decide)
theorem zc2 {H:Hp}{p:Addr}{o:HO} (h:H p=none):Same H (upd H p o):=fun b u e=>by rw [zb4 (fun z=>by rw [z,h]at e;cases e)];exact e
theorem zj0 {x1} (h:PA X es (dA X.K F g)):PE X (.Tuple es x1 pos) (dE X.K F (dT1 kTup g)):=by
 refine PE.imp (pe_tup h) ?_
 rintro σ H Q ⟨A,t,r,R,e,h⟩
 unfold dT1 at e
 cases e1:g t with
 |none=>rw [e1]at e;cases e
 |some rs =>
  rw [e1]at e
  have e:kTup rs=some r:=e
  unfold kTup at e
  split at e
  case isFalse=>cases e
  rename_i hl
  refine⟨A,t,rs,R,e1,fun vs H1 g1 q1=>⟨by rw [q1.length];exact zi1 (by lia),fun p hp=>?_⟩⟩
  have s1:=zc2 (o:=HO.tup vs) hp
  refine h _ _ (g1.trans s1) ?_
  have np:p∉A++F:=zc1 (R.mu.mono g1) hp
  split at e
  ·rename_i c
   cases e
   exact .tup (SqT.of (zb7 zb0 np)) (Reps.mono (za8 s1) (q1.clean R.mu g1 c))
  ·cases e
   exact .tup (SqT.of (zb7 zb0 fun z=>np (zaq8 _ z))) (Reps.mono (za8 s1) (q1.cleanF R.mu))
def kLst:List Ev→Option Ev:=fun rs=>if rs.length≤1000∧rs.all Ev.ok then some (.nw (rs.map Ev.d)) else none
theorem zj1 {P:List Addr}{H:Hp}{p:Addr}{o:HO} (h:H p=none):Same (hide P H) (hide (p::P) (upd H p o)):=fun b u e=>by
 obtain⟨n,e⟩:=zf5 e
 have nb:b≠p:=fun z=>by rw [z,h]at e;cases e
 refine zb7 (by rw [zb4 nb];exact e) fun z=>?_
 rcases zar8.mp z with z | z
 ·exact nb z
 ·exact n z
theorem ze2 (h:PA X es (dA X.K F g)):PE X (.List es pos) (dE X.K F (dT1 kLst g)):=by
 refine PE.imp (pe_lst h) ?_
 rintro σ H Q ⟨A,t,r,R,e,h⟩
 unfold dT1 at e
 cases e1:g t with
 |none=>rw [e1]at e;cases e
 |some rs =>
  rw [e1]at e
  have e:kLst rs=some r:=e
  unfold kLst at e
  split at e
  case isFalse=>cases e
  rename_i hl
  cases e
  refine⟨A,t,rs,R,e1,fun vs H1 g1 q1=>⟨by rw [q1.length];exact zi1 (by lia),fun p hp=>?_⟩⟩
  have s1:=zc2 (o:=HO.lst vs) hp
  refine h _ _ (g1.trans s1) ⟨p,vs,rfl,?_,zb0,Reps.mono (zj1 hp) (q1.clean R.mu g1 hl.2)⟩
  exact Same.free g1 hp
noncomputable def spD (K:zaq9) (G:List D→Option Ev):Sp:=fun vs H Q _ => ∃Fo ds r,Lists H Fo∧Reps K (hide Fo H) ds vs∧G ds=some r∧∀v H',Same H H'→RepEv K Fo [] H H' r v→Q v H'
noncomputable def upEv (ok:Bool) (r:Ev):Ev:=if ok then (match r with
  |.cl d=>.cl d
  |.tm d=>.cl d
  |.nw xs=>.nw xs
  |.dn d=>.dn d) else match r with
  |.cl d=>if flat d then .cl d else .tm d
  |.tm d=>if flat d then .cl d else .tm d
  |.nw xs=>if flats xs then .nw xs else .tm (.lst xs)
  |.dn d=>.dn d
def zc4 (G:List D→Option Ev):List Ev→Option Ev:=fun rs=>(G (rs.map Ev.d)).map (upEv (rs.all Ev.ok))
theorem call_up {K:zaq9}{A:List Addr}{G:List D→Option Ev}{H0 H:Hp}{rs:List Ev}{r:Ev}{vs:List V}{Q:VK}{E:XK} (m:Lists H0 (A++F)) (g:Same H0 H) (q:RepEvs K F A H0 H rs vs) (e:zc4 G rs=some r)
  (h:∀v H',Same H H'→RepEv K F A H0 H' r v→Q v H'):spD K G vs H Q E:=by
 unfold zc4 at e
 cases e1:G (rs.map Ev.d) with
 |none=>rw [e1]at e;cases e
 |some r0 =>
  rw [e1]at e
  have e:upEv (rs.all Ev.ok) r0=r:=by simpa using e
  have mH:=m.mono g
  by_cases c:rs.all Ev.ok=true
  ·refine⟨A++F,rs.map Ev.d,r0,mH,q.clean m g c,e1,fun v H' g' w=>h v H' g' ?_⟩
   rw [c]at e
   subst e
   cases r0 with
   |cl d=>exact w
   |tm d=>exact w
   |nw xs =>
    obtain⟨p,us,rfl,h1,h2,h3⟩:=w
    exact⟨p,us,rfl,Same.free g h1,h2,h3⟩
   |dn d =>
    obtain⟨B,h1,h2,h3⟩:=w
    exact⟨B,h1,fun b hb=>Same.free g (h2 b hb),h3⟩
  ·refine⟨F,rs.map Ev.d,r0,fun p hp=>mH p (zaq8 _ hp),q.cleanF m,e1,fun v H' g' w=>h v H' g' ?_⟩
   have c:rs.all Ev.ok=false:=by simpa using c
   rw [c]at e
   subst e
   have m':=mH.mono g'
   cases r0 with
   |cl d =>
    show RepEv K F A H0 H' (if flat d then .cl d else .tm d) v
    split
    ·rename_i f;exact Rep.hid m' f (Rep.mono (zb1 _ _) w)
    ·exact w
   |tm d =>
    show RepEv K F A H0 H' (if flat d then .cl d else .tm d) v
    split
    ·rename_i f;exact Rep.hid m' f (Rep.mono (zb1 _ _) w)
    ·exact w
   |nw xs =>
    obtain⟨p,us,rfl,h1,h2,h3⟩:=w
    have np:p∉A++F:=zc1 mH h1
    show RepEv K F A H0 H' (if flats xs then .nw xs else .tm (.lst xs)) _
    split
    ·rename_i f
     refine⟨p,us,rfl,Same.free g h1,h2,Reps.hid (P:=p ::(A++F)) (fun b hb=>?_) f (Reps.mono (zb1 _ _) h3)⟩
     rcases zar8.mp hb with rfl | hb
     ·exact⟨mL us,h2⟩
     ·exact m' b hb
    ·exact .lst (SqL.of (zb7 h2 fun z=>np (zaq8 _ z))) (Reps.mono (za7 H' fun b z=>zar1 _ z) h3)
   |dn d =>
    obtain⟨B,h1,h2,h3⟩:=w
    exact⟨B,h1,fun b hb=>Same.free g (h2 b hb),h3.hid (h3.lists.app m') (zb1 _ _)⟩
theorem ped_call {k:Nat}{f:Addr}{fd:FuncData}{ps:List Str}{G:List D→Option Ev}{x:Str}{p:Pos} (Fn:FnOk X.prog X.w X.K X.mg X.base CX0 k f fd ps (spD X.K G)) (hr:Room k X.A) (hg:Gl X x) (hm:X.mg x=some (.ref f)) (hk:zav3 X.K (.ref f)=true)
  (hb:Binds X.K fd ps []) (ha:PA X (a::es) (dA X.K F g)) (hdb:(x ==("__debug__":Str))=false:=by decide) (he:zat2 (a::es) X.env=(false,eval a X.env)::zat2 es X.env:=by rfl)
  (hpl:(zay7 pos (zat2 es X.env)).any (·.1)=false:=by rfl):PE X (.Call (.Name x p) (a::es) [] pos) (dE X.K F (dT1 (zc4 G) g)):=by
 refine PE.imp (pe_call Fn hr hg hm hk hb .nil (E:=E0) pass0 ha hdb he hpl) ?_
 rintro σ H Q ⟨A,t,r,R,e,h⟩
 unfold dT1 at e
 cases e1:g t with
 |none=>rw [e1]at e;cases e
 |some rs =>
  rw [e1]at e
  refine⟨A,t,rs,R,e1,fun vs H1 g1 q1=>?_⟩
  show spD X.K G (vs++[]) H1 Q E0
  rw [zau6]
  exact call_up R.mu g1 q1 e fun v H' g' w=>h v H' (g1.trans g') w
noncomputable def CallD (X:Cx) (F:List Addr) (f:Value) (k:List Ev→Option Ev):Prop :=
 ∀(pins:List (Addr×Obj)) (s:zas4) (σ:L2.St) (H0 H:Hp) (A:List Addr) (xs:List V) (us:List Value) (Q:VK) (rs:List Ev) (r:Ev),Inv X pins σ H s→Lists H0 (A++F)→Same H0 H→Vals xs us→RepEvs X.K F A H0 H rs xs→k rs=some r →
  (∀z H',Same H H'→RepEv X.K F A H0 H' r z→Q z H')→wpAny (model X.prog X.w) X.A (call f us) (EP X pins σ Q) X.xe s
theorem PA.run (ha:PA X es (dA X.K F g)) {k:List Ev→Option Ev}{f:Value} (hc:CallD X F f k) {pins:List (Addr×Obj)}{s:zas4}{σ:L2.St}{H:Hp}{Q:VK} (p:Pos) (I:Inv X pins σ H s) (h:dE X.K F (dT1 k g) σ H Q) :
  wpAny (model X.prog X.w) X.A (spliced (zay7 p (zat2 es X.env))) (fun us s1=>wpAny (model X.prog X.w) X.A (call f us) (EP X pins σ Q) X.xe s1) X.xe s:=by
 obtain⟨A,t,r,R,e,h⟩:=h
 unfold dT1 at e
 cases e1:g t with
 |none=>rw [e1]at e;cases e
 |some rs =>
  rw [e1]at e
  refine thn (ha p pins s σ H (fun vs H1=>Same H H1∧RepEvs X.K F A H H1 rs vs) I ⟨A,t,rs,R,e1,fun vs H1 g1 q1=>⟨g1,q1⟩⟩) fun us s1 ⟨vs,H1,I1,r1,g1,q1⟩=>?_
  exact hc pins s1 σ H H1 A vs us Q rs r I1 R.mu g1 r1 q1 e fun z H' g'=>h z H' (g1.trans g')
theorem zd0 {k:List Ev→Option Ev}{x:Str}{p:Pos}{id:String} (hc:CallD X F (.builtin id) k) (hg:Gl X x) (hm:X.mg x=none) (hv:bootBuiltins x=some (.builtin id)) (ha:PA X (a::es) (dA X.K F g)) (hn:x≠"__name__":=by decide) (hdb:(x ==("__debug__":Str))=false:=by decide)
  (he:zat2 (a::es) X.env=(false,eval a X.env)::zat2 es X.env:=by rfl) (hpl:(zay7 pos (zat2 es X.env)).any (·.1)=false:=by rfl):PE X (.Call (.Name x p) (a::es) [] pos) (dE X.K F (dT1 k g)):=by
 intro pins s σ H Q I h
 refine wpAny_Call_Name_kw (zo9 I hg hm hv ?_ hn hdb)
 exact PyProof.Rows.callWith_builtin1 (PA.run ha hc pos I h) he hpl
theorem zq7 {k:List Ev→Option Ev}{x:Str}{p:Pos}{T:String} (hc:CallD X F (.type T) k) (hg:Gl X x) (hm:X.mg x=none) (hv:bootBuiltins x=some (.type T)) (ha:PA X (a::es) (dA X.K F g)) (hn:x≠"__name__":=by decide) (hdb:(x ==("__debug__":Str))=false:=by decide)
  (he:zat2 (a::es) X.env=(false,eval a X.env)::zat2 es X.env:=by rfl) (hpl:(zay7 pos (zat2 es X.env)).any (·.1)=false:=by rfl):PE X (.Call (.Name x p) (a::es) [] pos) (dE X.K F (dT1 k g)):=by
 intro pins s σ H Q I h
 refine wpAny_Call_Name_kw (zo9 I hg hm hv ?_ hn hdb)
 exact PyProof.Rows.callWith_type1 (PA.run ha hc pos I h) he hpl
theorem CallD.of {f:Value}{r:List V→Hp→VK→Prop}{k:List Ev→Option Ev} (h:zad1 X f r)
  (i:∀(H0 H:Hp) (A:List Addr) (xs:List V) (rs:List Ev) (e:Ev) (Q:VK),Lists H0 (A++F)→Same H0 H→RepEvs X.K F A H0 H rs xs→k rs=some e→(∀z H',Same H H'→RepEv X.K F A H0 H' e z→Q z H')→r xs H Q):CallD X F f k :=
 fun pins s σ H0 H A xs us Q rs e I m g v q ek hq=>h pins s σ H xs us Q I v (i H0 H A xs rs e Q m g q ek hq)
noncomputable def kLen:List Ev→Option Ev:=fun rs=>match rs with
 |[r]=>(match r.d with
  |.lst xs=>some (.cl (.int xs.length))
  |.tup xs=>some (.cl (.int xs.length))
  |_=>none)
 |_=>none
theorem zk6:CallD X F (.builtin "len") kLen:=CallD.of zz2 fun H0 H A xs rs e Q m g q ek hq=>by
 unfold kLen at ek
 split at ek
 ·rename_i r
  cases q with
  |cons q1 q2 =>
   cases q2
   have p:=q1.full
   split at ek
   ·rename_i ds z
    cases ek
    rw [z]at p
    cases p with
    |lst h1 h2=>exact⟨_,_,rfl,.inl h1,by rw [h2.length];exact hq _ H (Same.refl H) (.int _)⟩
   ·rename_i ds z
    cases ek
    rw [z]at p
    cases p with
    |tup h1 h2=>exact⟨_,_,rfl,.inr h1,by rw [h2.length];exact hq _ H (Same.refl H) (.int _)⟩
   ·cases ek
 ·cases ek
end
end DL
namespace DL
open PySem.Spec L2
abbrev DT:=Th→Option Bool
def dT (K:zaq9) (F:List Addr) (f:DT):TT:=fun σ H Q => ∃A t b,RS K F H A t σ∧f t=some b∧∀H',Same H H'→Q b H'
theorem PT.imp {X:Cx}{e:Expr}{t t':TT} (h:PT X e t) (i:∀σ H Q,t' σ H Q→t σ H Q):PT X e t':=fun pins s σ H Q I q=>h pins s σ H Q I (i σ H Q q)
theorem PW.imp {X:Cx}{e:Expr}{t t':TT} (h:PW X e t) (i:∀σ H Q,t' σ H Q→t σ H Q):PW X e t':=fun w pins s σ H Q I q=>h w pins s σ H Q I (i σ H Q q)
noncomputable def truD:D→Option Bool
 |.non=>some false
 |.bl b=>some b
 |.int i=>some (i != 0)
 |.tup xs=>some (!xs.isEmpty)
 |.lst xs=>some (!xs.isEmpty)
 |.dct ks _=>some (!ks.isEmpty)
 |.pdc _=>none
 |.str y=>if y.length≤100000 then some ((y.length:Int) != 0) else none
theorem zm1 {α β:Type}{xs:List α}{ys:List β} (h:xs.length=ys.length):xs.isEmpty=ys.isEmpty:=by
 cases xs<;>cases ys<;>simp_all
theorem truV_of {K:zaq9}{H:Hp}{d:D}{v:V}{b:Bool} (r:Rep K H d v) (e:truD d=some b):TruV K v H b:=by
 cases r with
 |non=>cases e;rfl
 |bl b=>cases e;rfl
 |int i=>cases e;rfl
 |str x =>
  simp only [truD]at e
  split at e
  ·cases e;exact⟨zi1 (by assumption),rfl⟩
  ·cases e
 |tup h1 h2=>cases e;exact .inr (.inl ⟨_,h1,by rw [zm1 h2.length]⟩)
 |lst h1 h2=>cases e;exact .inl ⟨_,h1,by rw [zm1 h2.length]⟩
 |@dct ks ds p vs l h1 h2 =>
  cases e
  have e1:(mkKV ks vs).length=ks.length:=by unfold mkKV;rw [List.length_zip];lia
  exact .inr (.inr ⟨_,h1,by rw [zm1 e1]⟩)
 |pdc h=>cases e
def dTr (f:DE):DT:=fun t=>(f t).bind fun r=>truD r.d
def dBo (f:DE):DT:=fun t=>(f t).bind fun r=>match r.d with
 |.bl b=>some b
 |_=>none
def dAnd (f g:DT):DT:=fun t=>(f t).bind fun b=>if b then g t else some false
def dOr (f g:DT):DT:=fun t=>(f t).bind fun b=>if b then some true else g t
def dNot (f:DT):DT:=fun t=>(f t).bind fun b=>some (!b)
section
variable {X:Cx}{F:List Addr}{a b c:Expr}{es:List Expr}{fa fb fc:DE}{g g':DA}{ft fu:DT}{pos:Pos}{rest:List Expr}
theorem zj8 (ha:PE X a (dE X.K F fa)) (he:∀whole,isTrue a X.env whole=(do let v ← whole;standAt a.pos;holding [v] (truthy v)):=by intro _;rfl):PT X a (dT X.K F (dTr fa)):=by
 refine PT.imp (pt_truth ha he) ?_
 rintro σ H Q ⟨A,t,r,R,e,h⟩
 unfold dTr at e
 cases e1:fa t with
 |none=>rw [e1]at e;cases e
 |some r1 =>
  rw [e1]at e
  exact⟨A,t,r1,R,e1,fun v H' g' q=>⟨r,truV_of q.full e,h H' g'⟩⟩
theorem zc8 {op:CmpOp}{k:Ev→Ev→Option Ev} (ho:OpD X F (compareOp op) k) (ha:PE X a (dE X.K F fa)) (hb:PE X b (dE X.K F fb)) (hm:behindInMarks op b=false:=by first | exact nomark _ | (with_unfolding_all rfl)) :
  PT X (.Compare a [op] [b] pos) (dT X.K F (dBo (d2 k fa fb))):=by
 intro pins s σ H Q I h
 obtain⟨A,t,b',R,e,h⟩:=h
 unfold dBo at e
 cases e1:d2 k fa fb t with
 |none=>rw [e1]at e;cases e
 |some r0 =>
  rw [e1]at e
  have w0:dE X.K F (d2 k fa fb) σ H (fun z H'=>Same H H'∧Rep X.K H' r0.d z):=⟨A,t,r0,R,e1,fun v H' g q=>⟨g,q.full⟩⟩
  obtain⟨A2,t2,r1,r2,r,R2,e1',e2',e3,h3,w⟩:=two w0
  refine wpAny_isTrue_Compare1 (bin ha hb I w fun v u s2 x y H2 I2 rx ry q=>?_) hm
  obtain⟨g,q1,q2⟩:=q
  refine thn (ho pins s2 σ H H2 A2 x y v u (fun z H'=>Same H H'∧Rep X.K H' r0.d z) r1 r2 r I2 R2.mu g rx ry q1 q2 e3 fun z H' g'=>h3 z H' (g.trans g')) fun cc s3 ⟨z,H3,I3,r3,g3,q3⟩=>?_
  have e:(match r0.d with | .bl b=>some b | _=>none)=some b':=e
  split at e
  ·rename_i b2 z2
   cases e
   rw [z2]at q3
   cases q3
   cases r3
   exact wpAny_truthy_bool ⟨H3,I3,h H3 g3⟩
  ·cases e
theorem zae1 (ha:PT X a (dT X.K F ft)):PW X (.BoolOp .And [a] pos) (dT X.K F ft):=pw_and1 ha
theorem zl9 (ha:PT X a (dT X.K F ft)):PW X (.BoolOp .Or [a] pos) (dT X.K F ft):=pw_or1 ha
theorem zak3 (ha:PT X a (dT X.K F ft)) (hb:PW X (.BoolOp .And (b::rest) pos) (dT X.K F fu)):PW X (.BoolOp .And (a::b::rest) pos) (dT X.K F (dAnd ft fu)):=by
 refine PW.imp (pw_and ha hb) ?_
 rintro σ H Q ⟨A,t,r,R,e,h⟩
 unfold dAnd at e
 cases e1:ft t with
 |none=>rw [e1]at e;cases e
 |some r1 =>
  rw [e1]at e
  refine⟨A,t,r1,R,e1,fun H1 g1=>?_⟩
  cases r1 with
  |true=>exact⟨A,t,r,R.grow g1,e,fun H2 g2=>h H2 (g1.trans g2)⟩
  |false=>cases e;exact h H1 g1
theorem zl4 (ha:PT X a (dT X.K F ft)) (hb:PW X (.BoolOp .Or (b::rest) pos) (dT X.K F fu)):PW X (.BoolOp .Or (a::b::rest) pos) (dT X.K F (dOr ft fu)):=by
 refine PW.imp (pw_or ha hb) ?_
 rintro σ H Q ⟨A,t,r,R,e,h⟩
 unfold dOr at e
 cases e1:ft t with
 |none=>rw [e1]at e;cases e
 |some r1 =>
  rw [e1]at e
  refine⟨A,t,r1,R,e1,fun H1 g1=>?_⟩
  cases r1 with
  |true=>cases e;exact h H1 g1
  |false=>exact⟨A,t,r,R.grow g1,e,fun H2 g2=>h H2 (g1.trans g2)⟩
theorem zq3 (ha:PT X a (dT X.K F ft)):PT X (.UnaryOp .Not a pos) (dT X.K F (dNot ft)):=by
 refine PT.imp (pt_not ha) ?_
 rintro σ H Q ⟨A,t,r,R,e,h⟩
 unfold dNot at e
 cases e1:ft t with
 |none=>rw [e1]at e;cases e
 |some r1 =>
  rw [e1]at e
  cases e
  exact⟨A,t,r1,R,e1,fun H1 g1=>h H1 g1⟩
def zap3 (f g:DE):DE:=fun t=>(f t).bind fun r=>match r.d with
 |.bl b=>if b then g t else some (.cl (.bl false))
 |_=>none
theorem ped_one {op} (h:PE X a (dE X.K F fa)):PE X (.BoolOp op [a] pos) (dE X.K F fa):=pe_one h
theorem ped_and (ha:PE X a (dE X.K F fa)) (hb:PE X (.BoolOp .And (b::rest) pos) (dE X.K F fb)):PE X (.BoolOp .And (a::b::rest) pos) (dE X.K F (zap3 fa fb)):=by
 refine PE.imp (pe_and ha hb) ?_
 rintro σ H Q ⟨A,t,r,R,e,h⟩
 unfold zap3 at e
 cases e1:fa t with
 |none=>rw [e1]at e;cases e
 |some r1 =>
  rw [e1]at e
  refine⟨A,t,r1,R,e1,fun v H1 g1 q1=>?_⟩
  have p:=q1.full
  have e:(match r1.d with | .bl b=>if b then fb t else some (.cl (.bl false)) |_=>none)=some r:=e
  split at e
  ·rename_i b2 z
   rw [z]at p
   cases p
   refine⟨b2,rfl,?_⟩
   cases b2 with
   |true=>exact⟨A,t,r,R.grow g1,e,fun v2 H2 g2 q2=>h v2 H2 (g1.trans g2) (q2.back g1)⟩
   |false=>cases e;exact h _ H1 g1 (.bl false)
  ·cases e
end
inductive Out where
 |nx (t:Th) |rt (r:Ev) |bk (t:Th) |ct (t:Th)
abbrev DS:=Th→Option Out
def After (K:zaq9) (F A:List Addr) (H:Hp) (N:L2.St→Hp→Prop) (t:Th):Prop := ∀σ' H' A',Gr A H A' H'→RS K F H' A' t σ'→N σ' H'
noncomputable def RetEv (K:zaq9) (F A:List Addr) (H H':Hp):Ev→V→Prop
 |.cl d,v=>Rep K (hide F H') d v
 |.tm d,v=>Rep K (hide F H') d v
 |.nw xs,v => ∃p vs,v=.ref p∧(p∈A∨H p=none)∧p∉F∧H' p=some (.lst vs)∧Reps K (hide (p::F) H') xs vs
 |.dn d,v => ∃B,B.Nodup∧(∀b∈B,(b∈A∨H b=none)∧b∉F)∧RepD K (hide (B++F) H') H' d v B
def Back (K:zaq9) (F A:List Addr) (H:Hp) (N:VK) (r:Ev):Prop := ∀v H' A',Gr A H A' H'→RetEv K F A H H' r v→N v H'
noncomputable def dS (K:zaq9) (F:List Addr) (g:DS):TS:=fun E σ H => ∃A t o,RS K F H A t σ∧g t=some o∧match o with
 |.nx t'=>After K F A H E.nx t'
 |.bk t'=>After K F A H E.bk t'
 |.ct t'=>After K F A H E.ct t'
 |.rt r=>Back K F A H E.rt r
end DL
namespace DL
open PySem.Spec L2
theorem RetEv.back {K:zaq9}{F A A1:List Addr}{H H1 H':Hp}{r:Ev}{v:V} (g:Gr A H A1 H1) (h:RetEv K F A1 H1 H' r v):RetEv K F A H H' r v:=by
 cases r with
 |cl d=>exact h
 |tm d=>exact h
 |nw xs =>
  obtain⟨p,vs,rfl,h1,h2,h3,h4⟩:=h
  refine⟨p,vs,rfl,?_,h2,h3,h4⟩
  rcases h1 with h1 | h1
  ·exact g.nw p h1
  ·by_cases z:p∈A
   ·exact .inl z
   ·refine .inr ?_
    cases w:H p with
    |none=>rfl
    |some o=>rw [g.kp p o z w]at h1;cases h1
 |dn d =>
  obtain⟨B,h0,h1,h2⟩:=h
  refine⟨B,h0,fun p hp=>⟨?_,(h1 p hp).2⟩,h2⟩
  rcases (h1 p hp).1 with h1 | h1
  ·exact g.nw p h1
  ·by_cases z:p∈A
   ·exact .inl z
   ·refine .inr ?_
    cases w:H p with
    |none=>rfl
    |some o=>rw [g.kp p o z w]at h1;cases h1
theorem After.back {K:zaq9}{F A A1:List Addr}{H H1:Hp}{N:L2.St→Hp→Prop}{t:Th} (h:After K F A H N t) (g:Gr A H A1 H1):After K F A1 H1 N t:=fun σ' H' A' g' R=>h σ' H' A' (g.trans g') R
theorem Back.back {K:zaq9}{F A A1:List Addr}{H H1:Hp}{N:VK}{r:Ev} (h:Back K F A H N r) (g:Gr A H A1 H1):Back K F A1 H1 N r:=fun v H' A' g' R=>h v H' A' (g.trans g') (R.back g)
theorem PS.imp {X:Cx}{e:Stmt}{t t':TS} (h:PS X e t) (i:∀E σ H,t' E σ H→t E σ H):PS X e t':=fun pins s σ H D I q=>h pins s σ H D I (i D σ H q)
theorem PSs.imp {X:Cx}{e:List Stmt}{t t':TS} (h:PSs X e t) (i:∀E σ H,t' E σ H→t E σ H):PSs X e t':=fun pins s σ H D I q=>h pins s σ H D I (i D σ H q)
theorem Lists.left {H:Hp}{A F:List Addr} (h:Lists H (A++F)):Lists H A:=fun p hp=>h p (zar0 _ hp)
def zj4:DS:=fun t=>some (.nx t)
noncomputable def dSeq (g1 g2:DS):DS:=fun t=>(g1 t).bind fun o=>match o with
 |.nx t'=>g2 t'
 |.rt r=>some (.rt r)
 |.bk t'=>some (.bk t')
 |.ct t'=>some (.ct t')
section
variable {X:Cx}{F:List Addr}{a b c:Expr}{es:List Expr}{fa fb fc:DE}{g g1 g2:DS}{ft fu:DT}{pos:Pos}{st:Stmt}{rest:List Stmt}
theorem zg5:PSs X [] (dS X.K F zj4):=PSs.imp zak5 fun E σ H ⟨A,t,o,R,e,h⟩=>by cases e;exact h σ H A (Gr.refl R.mu.left) R
theorem za5 (h1:PS X st (dS X.K F g1)) (h2:PSs X rest (dS X.K F g2)):PSs X (st::rest) (dS X.K F (dSeq g1 g2)):=by
 refine PSs.imp (zae2 h1 h2) ?_
 rintro E σ H ⟨A,t,o,R,e,h⟩
 unfold dSeq at e
 cases e1:g1 t with
 |none=>rw [e1]at e;cases e
 |some o1 =>
  rw [e1]at e
  refine⟨A,t,o1,R,e1,?_⟩
  cases o1 with
  |nx t' =>
   intro σ' H' A' g' R'
   refine⟨A',t',o,R',e,?_⟩
   cases o with
   |nx t2=>exact After.back h g'
   |bk t2=>exact After.back h g'
   |ct t2=>exact After.back h g'
   |rt r=>exact Back.back h g'
  |rt r=>cases e;exact h
  |bk t2=>cases e;exact h
  |ct t2=>cases e;exact h
theorem zb5 (h1:PS X st (dS X.K F g1)):PSs X [st] (dS X.K F g1):=zak4 h1
def dIfS (c:DT) (g1 g2:DS):DS:=fun t=>(c t).bind fun b=>if b then g1 t else g2 t
theorem zj5 {s1 s2:List Stmt} (hc:PT X c (dT X.K F ft)) (ha:PSs X s1 (dS X.K F g1)) (hb:PSs X s2 (dS X.K F g2)):PS X (.If c s1 s2 pos) (dS X.K F (dIfS ft g1 g2)):=by
 refine PS.imp (ps_if hc ha hb) ?_
 rintro E σ H ⟨A,t,o,R,e,h⟩
 unfold dIfS at e
 cases e1:ft t with
 |none=>rw [e1]at e;cases e
 |some r1 =>
  rw [e1]at e
  refine⟨A,t,r1,R,e1,fun H1 gs=>?_⟩
  have gr:Gr A H A H1:=Gr.of_same R.mu.left gs
  cases r1 with
  |true =>
   refine⟨A,t,o,R.grow gs,e,?_⟩
   cases o with
   |nx t2=>exact After.back h gr
   |bk t2=>exact After.back h gr
   |ct t2=>exact After.back h gr
   |rt r=>exact Back.back h gr
  |false =>
   refine⟨A,t,o,R.grow gs,e,?_⟩
   cases o with
   |nx t2=>exact After.back h gr
   |bk t2=>exact After.back h gr
   |ct t2=>exact After.back h gr
   |rt r=>exact Back.back h gr
def dRet (f:DE):DS:=fun t=>(f t).bind fun r=>some (.rt r)
theorem RetEv.of {K:zaq9}{F A:List Addr}{H H':Hp}{r:Ev}{v:V} (m:Lists H (A++F)) (h:RepEv K F A H H' r v):RetEv K F A H H' r v:=by
 cases r with
 |cl d=>exact Rep.mono (za7 H' fun a z=>zaq8 _ z) h
 |tm d=>exact h
 |nw xs =>
  obtain⟨p,vs,rfl,h1,h2,h3⟩:=h
  have np:p∉A++F:=zc1 m h1
  refine⟨p,vs,rfl,.inr h1,fun z=>np (zaq8 _ z),h2,Reps.mono (za7 H' fun a z=>?_) h3⟩
  rcases zar8.mp z with z | z
  ·rw [z];exact zar4 ..
  ·exact zar1 _ (zaq8 _ z)
 |dn d =>
  obtain⟨B,h1,h2,h3⟩:=h
  refine⟨B,h1,fun b hb=>⟨.inr (h2 b hb),fun z=>zc1 m (h2 b hb) (zaq8 _ z)⟩,RepD.mono (za7 H' fun a z=>?_) h3 fun _ _ _ q=>q⟩
  rcases zar3.mp z with z | z
  ·exact zar0 _ z
  ·exact zaq8 _ (zaq8 _ z)
theorem zg4 (ha:PE X a (dE X.K F fa)):PS X (.Return (some a) pos) (dS X.K F (dRet fa)):=by
 refine PS.imp (zak9 ha) ?_
 rintro E σ H ⟨A,t,o,R,e,h⟩
 unfold dRet at e
 cases e1:fa t with
 |none=>rw [e1]at e;cases e
 |some r1 =>
  rw [e1]at e
  cases e
  exact⟨A,t,r1,R,e1,fun v H' gs q=>h v H' A (Gr.of_same R.mu.left gs) (RetEv.of R.mu q)⟩
noncomputable def zab9 (i:Nat):DS:=fun t=>match t[i]? with
 |some (.own xs)=>some (.rt (.nw xs))
 |some (.val d)=>some (.rt (.cl d))
 |some (.dp d)=>some (.rt (.dn d))
 |_=>none
theorem zn1 (i:Nat) {x:Str}{pos':Pos} (hN:X.N[i]?=some x:=by rfl) (hv:Vis X.env.scope x:=by first | exact Or.inl rfl | exact Or.inr (Or.inl rfl) |exact Or.inr (Or.inr rfl)) (hd:(x ==("__debug__":Str))=false:=by decide)
  (hcd:(x ==("__classdict__":Str))=false:=by decide):PS X (.Return (some (.Name x pos')) pos) (dS X.K F (zab9 i)):=by
 refine PS.imp (zak9 (zj6 (i:=i) hN hv hd hcd)) ?_
 rintro E σ H ⟨A,t,o,R,e,h⟩
 unfold zab9 at e
 split at e
 ·rename_i ds q
  cases e
  obtain⟨p,vs,h1,h2,h3,h4⟩:=R.rel.getOwn q
  refine⟨_,h1,h _ H A (Gr.refl R.mu.left) ⟨p,vs,rfl,.inl h2,R.dj p h2,h3,Reps.mono (za7 H fun a z=>?_) h4⟩⟩
  rcases zar8.mp z with z | z
  ·rw [z];exact zar0 _ h2
  ·exact zaq8 _ z
 ·rename_i d q
  cases e
  obtain⟨v,h1,h2⟩:=R.rel.getVal q
  exact⟨v,h1,h v H A (Gr.refl R.mu.left) (Rep.mono (za7 H fun a z=>zaq8 _ z) h2)⟩
 ·rename_i d q
  cases e
  obtain⟨v,B,h1,h2,h0,h3⟩:=R.rel.getDp R.nd q
  refine⟨v,h1,h v H A (Gr.refl R.mu.left) ⟨B,h0,fun b hb=>⟨.inl (h2 b hb),R.dj b (h2 b hb)⟩,RepD.mono (za7 H fun a z=>?_) h3 fun _ _ _ q=>q⟩⟩
  rcases zar3.mp z with z | z
  ·exact zar0 _ (h2 a z)
  ·exact zaq8 _ z
 ·cases e
end
theorem RSl.setVal {K:zaq9}{H0 H:Hp}{d:D}{v:V} (h:Rep K H0 d v):∀ {t:Th}{σ:L2.St}{A:List Addr} (i:Nat),RSl K H0 H t σ A→i<t.length→∃A',RSl K H0 H (t.set i (.val d)) (σ.set i (some v)) A'∧List.Sublist A' A
 |_,_,_,_,.nil,l=>by simp at l
 |_,_,_,0,.no r,_=>⟨_,.val h r,List.Sublist.refl _⟩
 |_,_,_,0,.val _ r,_=>⟨_,.val h r,List.Sublist.refl _⟩
 |_,_,_,0,.own _ _ r,_=>⟨_,.val h r,List.sublist_cons_self _ _⟩
 |_,_,_,0,.dp _ r,_=>⟨_,.val h r,zba3 _ _⟩
 |_,_,_,i+1,.no r,l=>let ⟨A',a,b⟩:=RSl.setVal h i r (by simpa using l);⟨A',.no a,b⟩
 |_,_,_,i+1,.val q r,l=>let ⟨A',a,b⟩:=RSl.setVal h i r (by simpa using l);⟨A',.val q a,b⟩
 |_,_,_,i+1,.own q1 q2 r,l=>let ⟨A',a,b⟩:=RSl.setVal h i r (by simpa using l);⟨_,.own q1 q2 a,b.cons₂ _⟩
 |_,_,_,i+1,.dp q r,l=>let ⟨A',a,b⟩:=RSl.setVal h i r (by simpa using l);⟨_,.dp q a,List.Sublist.append (List.Sublist.refl _) b⟩
theorem RSl.setAny {K:zaq9}{H0 H:Hp}{s:Sl}{v:V}{B:List Addr} (h:∀ {t:Th}{σ:L2.St}{A:List Addr},RSl K H0 H t σ A→RSl K H0 H (s::t) (some v::σ) (B++A)):∀ {t:Th}{σ:L2.St}{A:List Addr} (i:Nat),RSl K H0 H t σ A→i<t.length →
  ∃A',RSl K H0 H (t.set i s) (σ.set i (some v)) A'∧(∀x∈A',x∈B∨x∈A)∧(A.Nodup→B.Nodup→(∀b∈B,b∉A)→A'.Nodup)
 |_,_,_,_,.nil,l=>by simp at l
 |_,_,A,0,.no r,_=>⟨_,h r,fun x hx=>zar3.mp hx,fun n1 n2 d=>zas9.mpr ⟨n2,n1,fun a ha b hb e=>d a ha (e ▸ hb)⟩⟩
 |_,_,A,0,.val _ r,_=>⟨_,h r,fun x hx=>zar3.mp hx,fun n1 n2 d=>zas9.mpr ⟨n2,n1,fun a ha b hb e=>d a ha (e ▸ hb)⟩⟩
 |_,_,_,0,.own _ _ r,_=>⟨_,h r,fun x hx=>(zar3.mp hx).imp id (zar1 _),fun n1 n2 d=>zas9.mpr ⟨n2,(zat3.mp n1).2,fun a ha b hb e=>d a ha (e ▸ zar1 _ hb)⟩⟩
 |_,_,_,0,.dp _ r,_=>⟨_,h r,fun x hx=>(zar3.mp hx).imp id (zaq8 _),fun n1 n2 d=>zas9.mpr ⟨n2,(zas9.mp n1).2.1,fun a ha b hb e=>d a ha (e ▸ zaq8 _ hb)⟩⟩
 |_,_,_,i+1,.no r,l=>let ⟨A',a,b,c⟩:=RSl.setAny h i r (by simpa using l);⟨A',.no a,b,c⟩
 |_,_,_,i+1,.val q r,l=>let ⟨A',a,b,c⟩:=RSl.setAny h i r (by simpa using l);⟨A',.val q a,b,c⟩
 |_,_,_,i+1,.own (p:=p2) q1 q2 r,l=>by
  obtain⟨A',a,b,c⟩:=RSl.setAny h i r (by simpa using l)
  refine⟨_,.own q1 q2 a,fun x hx=>?_,fun nd nb np=>?_⟩
  ·rcases zar8.mp hx with z | z
   ·exact .inr (z ▸ zar4 ..)
   ·exact (b x z).imp id (zar1 _)
  ·have n1:=zat3.mp nd
   refine zat3.mpr ⟨fun z=>?_,c n1.2 nb fun x hx z=>np x hx (zar1 _ z)⟩
   rcases b _ z with z | z
   ·exact np _ z (zar4 ..)
   ·exact n1.1 z
 |_,_,_,i+1,.dp (B:=C) q r,l=>by
  obtain⟨A',a,b,c⟩:=RSl.setAny h i r (by simpa using l)
  refine⟨_,.dp q a,fun x hx=>?_,fun nd nb np=>?_⟩
  ·rcases zar3.mp hx with z | z
   ·exact .inr (zar0 _ z)
   ·exact (b x z).imp id (zaq8 _)
  ·have n1:=zas9.mp nd
   refine zas9.mpr ⟨n1.1,c n1.2.1 nb fun x hx z=>np x hx (zaq8 _ z),fun x hx y hy e=>?_⟩
   subst e
   rcases b _ hy with z | z
   ·exact np _ z (zar0 _ hx)
   ·exact n1.2.2 _ hx _ z rfl
theorem RS.putAny {K:zaq9}{F A:List Addr}{H H':Hp}{t:Th}{σ:L2.St}{i:Nat}{s:Sl}{v:V}{B:List Addr} (R:RS K F H A t σ) (g:Same H H') (fr:∀b∈B,H b=none) (nb:B.Nodup) (lb:Lists H' B)
  (mk:∀ {t:Th}{σ:L2.St}{A':List Addr},RSl K (hide (B++(A++F)) H') H' t σ A'→RSl K (hide (B++(A++F)) H') H' (s::t) (some v::σ) (B++A')) (hi:i<t.length) :
  ∃A',Gr A H A' H'∧RS K F H' A' (t.set i s) (σ.set i (some v)):=by
 have R':=R.grow g
 have np:∀b∈B,b∉A++F:=fun b hb=>zc1 R.mu (fr b hb)
 have r0:RSl K (hide (B++(A++F)) H') H' t σ A:=RSl.mono (fun b o h=>by
  obtain⟨n,h⟩:=zf5 h
  refine zb7 (g _ _ h) fun z=>?_
  rcases zar3.mp z with z | z
  ·rw [fr b z]at h;cases h
  ·exact n z) R.rel fun b _ o h=>g _ _ h
 obtain⟨A',r1,sub,nd⟩:=RSl.setAny mk i r0 hi
 refine⟨A',⟨fun b o _ h=>g b o h,fun b hb=>by obtain⟨ws,z⟩:=R.mu b (zar0 _ hb);rw [g _ _ z];simp,fun b hb=>?_⟩,?_,nd R.nd nb fun b hb z=>np b hb (zar0 _ z),fun b hb=>?_,?_⟩
 ·rcases sub b hb with z | z
  ·exact .inr (fr b z)
  ·exact .inl z
 ·intro b hb
  rcases zar3.mp hb with z | z
  ·rcases sub b z with z | z
   ·exact lb b z
   ·exact R'.mu b (zar0 _ z)
  ·exact R'.mu b (zaq8 _ z)
 ·rcases sub b hb with z | z
  ·exact fun w=>np b z (zaq8 _ w)
  ·exact R.dj b z
 ·refine RSl.mono (za7 H' fun b z=>?_) r1 fun _ _ _ h=>h
  rcases zar3.mp z with z | z
  ·rcases sub b z with z | z
   ·exact zar0 _ z
   ·exact zaq8 _ (zar0 _ z)
  ·exact zaq8 _ (zaq8 _ z)
noncomputable def zi6 (t:Th) (i:Nat) (r:Ev):Option Th:=if i<t.length then (match r with
 |.cl d=>some (t.set i (.val d))
 |.tm d=>if flat d then some (t.set i (.val d)) else none
 |.nw xs=>some (t.set i (.own xs))
 |.dn d=>some (t.set i (.dp d))) else none
theorem RS.put {K:zaq9}{F A:List Addr}{H H':Hp}{t t':Th}{σ:L2.St}{i:Nat}{r:Ev}{v:V} (R:RS K F H A t σ) (g:Same H H') (q:RepEv K F A H H' r v) (e:zi6 t i r=some t') :
  ∃A',Gr A H A' H'∧RS K F H' A' t' (σ.set i (some v)):=by
 have R':=R.grow g
 have val:∀d,Rep K (hide (A++F) H') d v→i<t.length→∃A',Gr A H A' H'∧RS K F H' A' (t.set i (.val d)) (σ.set i (some v)):=fun d hd hi=>by
  obtain⟨A',r1,sub⟩:=RSl.setVal hd i R'.rel hi
  have sub':∀x∈A',x∈A:=fun x hx=>sub.subset hx
  refine⟨A',⟨fun b o _ h=>g b o h,fun b hb=>by obtain⟨vs,z⟩:=R.mu b (zar0 _ hb);rw [g _ _ z];simp,fun b hb=>.inl (sub' b hb)⟩,?_,R.nd.sublist sub,fun p hp=>R.dj p (sub' p hp),?_⟩
  ·intro p hp
   rcases zar3.mp hp with z | z
   ·exact R'.mu p (zar0 _ (sub' p z))
   ·exact R'.mu p (zaq8 _ z)
  ·refine RSl.mono (za7 H' fun a z=>?_) r1 fun _ _ _ h=>h
   rcases zar3.mp z with z | z
   ·exact zar0 _ (sub' a z)
   ·exact zaq8 _ z
 unfold zi6 at e
 split at e
 case isFalse=>cases e
 rename_i hi
 cases r with
 |cl d=>cases e;exact val d q hi
 |tm d =>
  simp only at e
  split at e
  ·rename_i f
   cases e
   exact val d (Rep.hid R'.mu f (Rep.mono (zb1 _ _) q)) hi
  ·cases e
 |nw xs =>
  cases e
  obtain⟨p,vs,rfl,h1,h2,h3⟩:=q
  exact R.putAny (B:=[p]) g (fun b hb=>by simp at hb;subst hb;exact h1) (by simp) (fun b hb=>by simp at hb;subst hb;exact⟨mL vs,h2⟩) (fun r=>.own h2 h3 r) hi
 |dn d =>
  cases e
  obtain⟨B,h1,h2,h3⟩:=q
  exact R.putAny (B:=B) g h2 h1 h3.lists (fun r=>.dp h3 r) hi
section
variable {X:Cx}{F:List Addr}{a b c:Expr}{es:List Expr}{fa fb fc:DE}{g g1 g2:DS}{ft fu:DT}{pos:Pos}{st:Stmt}{rest:List Stmt}
def dAsg (i:Nat) (f:DE):DS:=fun t=>(f t).bind fun r=>(zi6 t i r).map Out.nx
theorem zb8 {i:Nat}{x:Str}{pos':Pos} (hN:X.N.Nodup) (hi:X.N[i]?=some x) (hx:Loc X.env.scope x) (he:PE X a (dE X.K F fa)) (hs:swapsWith a (some (.Name x pos')) pos.line X.env=pure false:=by rfl) (hf:X.fn x=true∨X.env.scope.names.lookup x=some .local:=by first | exact .inl rfl | exact .inr rfl | assumption) :
  PS X (.Assign [.Name x pos'] a pos) (dS X.K F (dAsg i fa)):=by
 refine PS.imp (ps_set hN hi hx he hs hf) ?_
 rintro E σ H ⟨A,t,o,R,e,h⟩
 unfold dAsg at e
 cases e1:fa t with
 |none=>rw [e1]at e;cases e
 |some r1 =>
  rw [e1]at e
  have e:(zi6 t i r1).map Out.nx=some o:=e
  cases e2:zi6 t i r1 with
  |none=>rw [e2]at e;cases e
  |some t' =>
   rw [e2]at e
   cases e
   refine⟨A,t,r1,R,e1,fun v H' gs q=>?_⟩
   obtain⟨A',g',R'⟩:=R.put gs q e2
   exact h _ _ _ g' R'
end
end DL
namespace DL
open PySem.Spec L2
noncomputable def TgOk (K:zaq9) (F:List Addr) (g:TG) (k:D→Th→Option Th):Prop :=
 ∀σ H A t t' d x (Q:L2.St→Hp→Prop),RS K F H A t σ→Rep K (hide (A++F) H) d x→k d t=some t'→(∀σ2 A2,Gr A H A2 H→RS K F H A2 t' σ2→Q σ2 H)→g x σ H Q
noncomputable def TgsOk (K:zaq9) (F:List Addr) (g:TGs) (k:List D→Th→Option Th):Prop :=
 ∀σ H A t t' ds xs (Q:L2.St→Hp→Prop),RS K F H A t σ→Reps K (hide (A++F) H) ds xs→k ds t=some t'→(∀σ2 A2,Gr A H A2 H→RS K F H A2 t' σ2→Q σ2 H)→g xs σ H Q
def za3 (i:Nat):D→Th→Option Th:=fun d t=>zi6 t i (.cl d)
def zl3:List D→Th→Option Th:=fun ds t=>match ds with
 |[]=>some t
 |_=>none
noncomputable def zc5 (k:D→Th→Option Th) (k':List D→Th→Option Th):List D→Th→Option Th:=fun ds t=>match ds with
 |d::r=>(k d t).bind (k' r)
 |[]=>none
noncomputable def zj7 (n:Nat) (k:List D→Th→Option Th):D→Th→Option Th:=fun d t=>match d with
 |.tup ds=>if ds.length=n then k ds t else none
 |_=>none
theorem zd2 {K:zaq9}{F:List Addr} (i:Nat):TgOk K F (zao1 i) (za3 i):=by
 intro σ H A t t' d x Q R r e h
 obtain⟨A',g,R'⟩:=R.put (i:=i) (r:=.cl d) (Same.refl H) r e
 exact h _ _ g R'
theorem zaj3 {K:zaq9}{F:List Addr}:TgsOk K F gNil zl3:=by
 intro σ H A t t' ds xs Q R r e h
 cases r with
 |nil=>cases e;exact⟨rfl,h σ A (Gr.refl R.mu.left) R⟩
 |cons _ _=>cases e
theorem zp4 {K:zaq9}{F:List Addr}{g:TG}{g':TGs}{k:D→Th→Option Th}{k':List D→Th→Option Th} (h1:TgOk K F g k) (h2:TgsOk K F g' k'):TgsOk K F (gCons g g') (zc5 k k'):=by
 intro σ H A t t' ds xs Q R r e h
 cases r with
 |nil=>cases e
 |@cons d v ds vs r1 r2 =>
  unfold zc5 at e
  cases e1:k d t with
  |none=>simp only [e1]at e;cases e
  |some t1 =>
   simp only [e1]at e
   refine⟨v,vs,rfl,h1 σ H A t t1 d v _ R r1 e1 fun σ2 A2 g2 R2=>?_⟩
   exact h2 σ2 H A2 t1 t' ds vs Q R2 (Reps.mono g2.same r2) e fun σ3 A3 g3 R3=>h σ3 A3 (g2.trans g3) R3
theorem tg_tup {K:zaq9}{F:List Addr}{n:Nat}{g':TGs}{k':List D→Th→Option Th} (h2:TgsOk K F g' k'):TgOk K F (gTup K n g') (zj7 n k'):=by
 intro σ H A t t' d x Q R r e h
 unfold zj7 at e
 split at e
 ·rename_i ds
  split at e
  ·rename_i hl
   cases r with
   |@tup _ p vs h1 hr=>exact⟨p,vs,rfl,SqT.mono (zb1 _ _) h1,by rw [hr.length];exact hl,h2 σ H A t t' ds vs Q R hr e h⟩
  ·cases e
 ·cases e
section
variable {X:Cx}{F:List Addr}{a b c:Expr}{es:List Expr}{fa fb fc:DE}{g g1 g2:DS}{ft fu:DT}{pos:Pos}{st:Stmt}{rest:List Stmt}{tg:Expr}{gt:TG}{kt:D→Th→Option Th}
noncomputable def kPar (t:Th) (i j:Nat):List Ev→Option Out
 |[r1,r2]=>if r1.ok&&r2.ok then ((zi6 t i (.cl r1.d)).bind fun t1=>zi6 t1 j (.cl r2.d)).map Out.nx else none
 |_=>none
def dPar (i j:Nat) (f:DA):DS:=fun t=>(f t).bind (kPar t i j)
theorem psd_par {i j:Nat}{x y:Str}{ga:DA}{px py pt:Pos}{kt k2 pt2} (hc:X.calm=true) (hN:X.N.Nodup) (hi:X.N[i]?=some x) (hj:X.N[j]?=some y) (hij:i≠j)
  (hx:X.env.scope.names.lookup x=some .local) (hy:X.env.scope.names.lookup y=some .local) (ha:PA X [a,b] (dA X.K F ga))
  (hw:swappedStores [.Tuple [.Name x px,.Name y py] kt pt] (.Tuple [a,b] k2 pt2) X.env=pure (some [x,y]))
  (hs:swapsWithSole [.Tuple [.Name x px,.Name y py] kt pt] (.Tuple [a,b] k2 pt2) pos.line X.env=pure false:=by rfl) :
  PS X (.Assign [.Tuple [.Name x px,.Name y py] kt pt] (.Tuple [a,b] k2 pt2) pos) (dS X.K F (dPar i j ga)):=by
 refine PS.imp (ps_par hc hN hi hj hij hx hy ha hw hs) ?_
 rintro E σ H ⟨A,t,o,R,e,h⟩
 unfold dPar at e
 cases e1:ga t with
 |none=>rw [e1]at e;cases e
 |some rs =>
  rw [e1]at e
  refine⟨A,t,rs,R,e1,fun vs H' gs q=>?_⟩
  have e:kPar t i j rs=some o:=e
  cases q with
  |nil=>cases e
  |@cons r1 _ _ _ q1 q' =>
   cases q' with
   |nil=>cases e
   |@cons r2 _ _ _ q2 q3 =>
   cases q3 with
   |cons _ _=>cases e
   |nil =>
    simp only [kPar]at e
    split at e
    case isFalse=>cases e
    rename_i ok
    simp only [zar9]at ok
    refine⟨_,_,rfl,?_⟩
    cases e2:zi6 t i (.cl r1.d) with
    |none=>rw [e2]at e;cases e
    |some t1 =>
     rw [e2]at e
     have e:(zi6 t1 j (.cl r2.d)).map Out.nx=some o:=e
     cases e3:zi6 t1 j (.cl r2.d) with
     |none=>rw [e3]at e;cases e
     |some t2 =>
      rw [e3]at e
      cases e
      have c2:=q2.clean R.mu gs ok.2
      obtain⟨A1,g1,R1⟩:=(R.grow gs).put (i:=i) (r:=.cl r1.d) (Same.refl H') (q1.clean R.mu gs ok.1) e2
      obtain⟨A2,g2,R2⟩:=R1.put (i:=j) (r:=.cl r2.d) (Same.refl H') (Rep.mono g1.same c2) e3
      exact h _ _ _ (((Gr.of_same R.mu.left gs).trans g1).trans g2) R2
end
noncomputable def forD (k:D→Th→Option Th) (body:DS):List D→Th→Option Out
 |[],t=>some (.nx t)
 |d::ds,t=>(k d t).bind fun t1=>(body t1).bind fun o=>match o with
  |.nx t'=>forD k body ds t'
  |.ct t'=>forD k body ds t'
  |.bk t'=>some (.nx t')
  |.rt r=>some (.rt r)
noncomputable def whD (c:DT) (body:DS):Nat→Th→Option Out
 |0,_=>none
 |n+1,t=>(c t).bind fun b=>if b then (body t).bind fun o=>match o with
  |.nx t'=>whD c body n t'
  |.ct t'=>whD c body n t'
  |.bk t'=>some (.nx t')
  |.rt r=>some (.rt r) else some (.nx t)
def zy4 (fu:Th→Nat) (c:DT) (body:DS):DS:=fun t=>whD c body (fu t) t
noncomputable def Post (K:zaq9) (F A:List Addr) (H:Hp) (E:Ends):Out→Prop
 |.nx t'=>After K F A H E.nx t'
 |.bk t'=>After K F A H E.bk t'
 |.ct t'=>After K F A H E.ct t'
 |.rt r=>Back K F A H E.rt r
theorem Post.back {K:zaq9}{F A A1:List Addr}{H H1:Hp}{E:Ends}{o:Out} (h:Post K F A H E o) (g:Gr A H A1 H1):Post K F A1 H1 E o:=by
 cases o with
 |nx t2=>exact After.back h g
 |bk t2=>exact After.back h g
 |ct t2=>exact After.back h g
 |rt r=>exact Back.back h g
theorem dS_mk {K:zaq9}{F A:List Addr}{g:DS}{E:Ends}{σ:L2.St}{H:Hp}{t:Th}{o:Out} (R:RS K F H A t σ) (e:g t=some o) (p:Post K F A H E o):dS K F g E σ H:=⟨A,t,o,R,e,by cases o<;>exact p⟩
theorem zai4 {K:zaq9}{F:List Addr}{g:DS}{E:Ends}{σ:L2.St}{H:Hp} (h:dS K F g E σ H):∃A t o,RS K F H A t σ∧g t=some o∧Post K F A H E o:=by
 obtain⟨A,t,o,R,e,h⟩:=h
 exact⟨A,t,o,R,e,by cases o<;>exact h⟩
section
variable {X:Cx}{F:List Addr}{a b c:Expr}{es:List Expr}{fa fb fc:DE}{g g1 g2:DS}{ft fu:DT}{pos:Pos}{st:Stmt}{rest:List Stmt}{tg:Expr}{gt:TG}{kt:D→Th→Option Th}
theorem zw3 {body:List Stmt} (m:Th→Nat) (hp:PassesOwn (model X.prog X.w) X.A X.env X.xe) (hc:PT X c (dT X.K F ft)) (hb:PSs X body (dS X.K F g)):PS X (.While c body [] pos) (dS X.K F (zy4 m ft g)):=by
 refine PS.imp (ps_while hp hc hb) ?_
 intro E σ H hh
 obtain⟨A,t,o,R,e,h⟩:=zai4 hh
 refine⟨fun n σ H => ∃A t o,whD ft g n t=some o∧RS X.K F H A t σ∧Post X.K F A H E o,⟨m t,A,t,o,e,R,h⟩,?_⟩
 rintro n σ H ⟨A,t,o,e,R,h⟩
 cases n with
 |zero=>cases e
 |succ n =>
  simp only [whD]at e
  cases e1:ft t with
  |none=>rw [e1]at e;cases e
  |some b =>
   rw [e1]at e
   refine⟨A,t,b,R,e1,fun H1 gs=>?_⟩
   have gr:Gr A H A H1:=Gr.of_same R.mu.left gs
   cases b with
   |false =>
    have e:some (Out.nx t)=some o:=e
    cases e
    exact iteF (h σ H1 A gr (R.grow gs))
   |true =>
    have e:((g t).bind fun o=>match o with
     |.nx t'=>whD ft g n t'
     |.ct t'=>whD ft g n t'
     |.bk t'=>some (.nx t')
     |.rt r=>some (.rt r))=some o:=e
    refine iteT ⟨fun σ' H' => ∃A t o,whD ft g n t=some o∧RS X.K F H' A t σ'∧Post X.K F A H' E o,fun σ' H' q=>⟨n,zav5 n,q⟩,?_⟩
    cases e2:g t with
    |none=>rw [e2]at e;cases e
    |some o2 =>
     rw [e2]at e
     refine dS_mk (R.grow gs) e2 ?_
     cases o2 with
     |nx t'=>exact fun σ' H' A' g' R'=>⟨A',t',o,e,R',h.back (gr.trans g')⟩
     |ct t'=>exact fun σ' H' A' g' R'=>⟨A',t',o,e,R',h.back (gr.trans g')⟩
     |bk t'=>cases e;exact fun σ' H' A' g' R'=>h σ' H' A' (gr.trans g') R'
     |rt r=>cases e;exact Back.back h gr
theorem zaf6 {K:zaq9}{J:It}{ds:List D}{E:Ends}{σ:L2.St}{H:Hp}{A:List Addr}{t:Th}{o:Out} (Good:List Addr→Hp→Prop) (ht:TgOk K F gt kt) (R:RS K F H A t σ) (e:forD kt g ds t=some o) (h:Post K F A H E o) (g0:Good A H)
  (keep:∀A H A' H',Good A H→Gr A H A' H'→Good A' H') (stop:∀A H,Good A H→J.stop ds.length H) (go:∀A H i,Good A H→i<ds.length→J.go i H)
  (yld:∀A H i x H',Good A H→Lists H (A++F)→J.yld i H x H'→i<ds.length→Same H H'∧∃d,ds[i]?=some d∧Rep K (hide (A++F) H') d x) :
  ∃W:Nat→Nat→L2.St→Hp→Prop,(∃m,W 0 m σ H)∧∀i m σ H,W i m σ H →
   (J.stop i H∧E.nx σ H)∨(J.go i H∧∃N:L2.St→Hp→Prop,(∀σ' H',N σ' H'→∃m',m' < m∧W (i+1) m' σ' H')∧∀x H',J.yld i H x H'→gt x σ H' fun σ2 H2=>dS K F g { E with nx:=N,ct:=N,bk:=E.nx } σ2 H2):=by
 refine⟨fun i m σ H=>i+m=ds.length∧∃A t o,forD kt g (ds.drop i) t=some o∧RS K F H A t σ∧Post K F A H E o∧Good A H,⟨ds.length,by lia,A,t,o,by simpa using e,R,h,g0⟩,?_⟩
 rintro i m σ H ⟨hm,A,t,o,e,R,h,gd⟩
 cases m with
 |zero =>
  have z:i=ds.length:=by lia
  subst z
  rw [zax7]at e
  cases e
  exact .inl ⟨stop A H gd,h σ H A (Gr.refl R.mu.left) R⟩
 |succ m =>
  have hi:i<ds.length:=by lia
  refine .inr ⟨go A H i gd hi,fun σ' H'=>i+1+m=ds.length∧∃A t o,forD kt g (ds.drop (i+1)) t=some o∧RS K F H' A t σ'∧Post K F A H' E o∧Good A H',fun σ' H' q=>⟨m,zav5 m,q⟩,fun x H' y=>?_⟩
  obtain⟨gs,d,hd,rd⟩:=yld A H i x H' gd R.mu y hi
  have ed:ds.drop i=d::ds.drop (i+1):=by
   have hd':ds[i]=d:=by
    rw [zar5 hi]at hd
    exact Option.some.inj hd
   rw [← hd']
   exact zat0 hi
  rw [ed]at e
  simp only [forD]at e
  cases e1:kt d t with
  |none=>rw [e1]at e;cases e
  |some t1 =>
   rw [e1]at e
   refine ht σ H' A t t1 d x _ (R.grow gs) rd e1 fun σ2 A2 gr3 R2=>?_
   have gr2:Gr A H A2 H':=(Gr.of_same R.mu.left gs).trans gr3
   have e:((g t1).bind fun o=>match o with
     |.nx t'=>forD kt g (ds.drop (i+1)) t'
     |.ct t'=>forD kt g (ds.drop (i+1)) t'
     |.bk t'=>some (.nx t')
     |.rt r=>some (.rt r))=some o:=e
   cases e2:g t1 with
   |none=>rw [e2]at e;cases e
   |some o2 =>
    rw [e2]at e
    refine dS_mk R2 e2 ?_
    cases o2 with
    |nx t'=>exact fun σ' H' A' g' R'=>⟨by lia,A',t',o,e,R',h.back (gr2.trans g'),keep _ _ _ _ gd (gr2.trans g')⟩
    |ct t'=>exact fun σ' H' A' g' R'=>⟨by lia,A',t',o,e,R',h.back (gr2.trans g'),keep _ _ _ _ gd (gr2.trans g')⟩
    |bk t'=>cases e;exact fun σ' H' A' g' R'=>h σ' H' A' (gr2.trans g') R'
    |rt r=>cases e;exact Back.back h gr2
noncomputable def dFor (k:D→Th→Option Th) (f:DE) (body:DS):DS:=fun t=>(f t).bind fun r=>match r.d with
 |.lst ds=>if r.ok then forD k body ds t else none
 |_=>none
theorem zak8 {body:List Stmt} (hp:PassesOwn (model X.prog X.w) X.A X.env X.xe) (hc:X.calm=true) (hl:PE X a (dE X.K F fa)) (hg:PG X tg gt) (ht:TgOk X.K F gt kt) (hb:PSs X body (dS X.K F g))
  (hs:∀x,foldedSetIterable a X.env x=pure x:=by intro _;rfl):PS X (.For tg a body [] pos) (dS X.K F (dFor kt fa g)):=by
 refine PS.imp (zal0 hp hc (zaa3 hl) hg hb hs) ?_
 intro E σ H hh
 obtain⟨A,t,o,R,e,h⟩:=zai4 hh
 unfold dFor at e
 cases e1:fa t with
 |none=>rw [e1]at e;cases e
 |some r =>
  rw [e1]at e
  refine⟨A,t,r,R,e1,fun v H1 gs q=>?_⟩
  have e:(match r.d with
   |.lst ds=>if r.ok then forD kt g ds t else none
   |_=>none)=some o:=e
  split at e
  case h_2=>cases e
  rename_i ds z
  split at e
  case isFalse=>cases e
  rename_i ok
  have cl:=q.clean R.mu gs ok
  rw [z]at cl
  cases cl with
  |@lst _ p vs h1 h2 =>
   refine⟨p,rfl,⟨vs,SqL.mono (zb1 _ _) h1⟩,?_⟩
   refine zaf6 (fun A H=>SqL X.K (hide (A++F) H) p vs∧Reps X.K (hide (A++F) H) ds vs) ht (R.grow gs) e (h.back (Gr.of_same R.mu.left gs)) ⟨h1,h2⟩ (fun A H A' H' q gr=>⟨SqL.mono gr.same q.1,Reps.mono gr.same q.2⟩)
    (fun A H q=>⟨vs,SqL.mono (zb1 _ _) q.1,by rw [h2.length];exact zat4 _⟩) (fun A H i q hi=>?_) (fun A H i x H' q _ y hi=>?_)
   ·have hi':i<vs.length:=by rw [h2.length];exact hi
    exact⟨vs,vs[i],SqL.mono (zb1 _ _) q.1,zar5 hi'⟩
   ·obtain⟨e1,e2⟩:=y
    have z:=e2 vs (SqL.mono (zb1 _ _) q.1)
    subst e1
    exact⟨Same.refl _,q.2.getV z⟩
def rngD (lo:Int) (n:Nat):List D:=(zat6 n).map fun (i:Nat)=>D.int (lo+(i:Int))
def bigI (i:Int):Bool:=decide (-1000000000000≤i∧i≤1000000000000)
noncomputable def zg8 (k:D→Th→Option Th) (f:DE) (body:DS):DS:=fun t=>(f t).bind fun r=>match r.d with
 |.int n=>if bigI n then forD k body (rngD 0 n.toNat) t else none
 |_=>none
theorem zo0 (lo:Int) (n:Nat):(rngD lo n).length=n:=by simp [rngD]
theorem rng_core {K:zaq9}{lo:Int}{n:Nat}{E:Ends}{σ:L2.St}{H:Hp}{A:List Addr}{t:Th}{o:Out} (ht:TgOk K F gt kt) (R:RS K F H A t σ) (e:forD kt g (rngD lo n) t=some o) (h:Post K F A H E o) :
  ∃W:Nat→Nat→L2.St→Hp→Prop,(∃m,W 0 m σ H)∧∀i m σ H,W i m σ H →
   ((Itr lo n).stop i H∧E.nx σ H)∨((Itr lo n).go i H∧∃N:L2.St→Hp→Prop,(∀σ' H',N σ' H'→∃m',m' < m∧W (i+1) m' σ' H')∧∀x H',(Itr lo n).yld i H x H'→gt x σ H' fun σ2 H2=>dS K F g { E with nx:=N,ct:=N,bk:=E.nx } σ2 H2):=by
 refine zaf6 (fun _ _=>True) ht R e h trivial (fun _ _ _ _ _ _=>trivial) (fun A H _=>?_) (fun A H i _ hi=>?_) (fun A H i x H' _ _ y hi=>?_)
 ·rw [zo0];exact zat4 n
 ·rw [zo0]at hi;exact hi
 ·rw [zo0]at hi
  obtain⟨e1,e2⟩:=y
  subst e1
  refine⟨Same.refl _,.int (lo+i),by simp [rngD,hi],?_⟩
  rw [e2];exact .int _
theorem zh3 {body:List Stmt}{p1 p2:Pos} (hp:PassesOwn (model X.prog X.w) X.A X.env X.xe) (hc:X.calm=true) (hgr:Gl X "range") (hm:X.mg "range"=none) (ha:PE X a (dE X.K F fa)) (hg:PG X tg gt) (ht:TgOk X.K F gt kt) (hb:PSs X body (dS X.K F g))
  (hst:zat2 [a] X.env=[(false,eval a X.env)]:=by rfl) (hs:∀x,foldedSetIterable (.Call (.Name "range" p1) [a] [] p2) X.env x=pure x:=by intro _;rfl):PS X (.For tg (.Call (.Name "range" p1) [a] [] p2) body [] pos) (dS X.K F (zg8 kt fa g)):=by
 refine PS.imp (zal0 hp hc (zw4 hgr hm (zh9 ha zl6 hst) hst) hg hb hs) ?_
 intro E σ H hh
 obtain⟨A,t,o,R,e,h⟩:=zai4 hh
 unfold zg8 at e
 cases e1:fa t with
 |none=>rw [e1]at e;cases e
 |some r =>
  rw [e1]at e
  refine⟨A,t,r,R,e1,fun v H1 gs q=>?_⟩
  have e:(match r.d with
   |.int n=>if bigI n then forD kt g (rngD 0 n.toNat) t else none
   |_=>none)=some o:=e
  split at e
  case h_2=>cases e
  rename_i n z
  split at e
  case isFalse=>cases e
  rename_i ok
  simp only [bigI,decide_eq_true_eq]at ok
  have p:=q.full
  rw [z]at p
  cases zg3 p
  exact⟨n,rfl,by lia,by lia,rng_core ht (R.grow gs) e (h.back (Gr.of_same R.mu.left gs))⟩
end
end DL
namespace DL
open PySem.Spec L2
theorem RSl.upd {K:zaq9}{H0 H H':Hp}{ds es:List D}{ws:List V}{p:Addr} (hp:H' p=some (.lst ws)) (he:Reps K H0 es ws):∀ {t:Th}{σ:L2.St}{A:List Addr} (i:Nat),RSl K H0 H t σ A→A.Nodup→t[i]?=some (.own ds)→σ[i]?=some (some (.ref p)) →
  (∀q∈A,q≠p→H' q=H q)→RSl K H0 H' (t.set i (.own es)) σ A
 |_,_,_,i,.nil,_,e,_,_=>by simp at e
 |_,_,_,0,.no r,_,e,_,_=>by simp at e
 |_,_,_,0,.val _ r,_,e,_,_=>by simp at e
 |_,_,_,0,.dp _ r,_,e,_,_=>by simp at e
 |_,_,_,i+1,.dp (B:=B) h1 r,nd,e,e2,k=>by
  have n:=zas9.mp nd
  obtain⟨p3,vs3,a1,a2,_⟩:=RSl.getOwn r (i:=i) (ds:=ds) (by simpa using e)
  have:p3=p:=by simpa [a1] using e2
  subst this
  refine .dp (RepD.mono (Same.refl _) h1 fun q hq o w=>?_) (RSl.upd hp he i r n.2.1 (by simpa using e) (by simpa using e2) fun q hq=>k q (zaq8 _ hq))
  rw [k q (zar0 _ hq) (fun z=>n.2.2 q hq p3 a2 z)];exact w
 |_,_,_,0,.own (p:=p2) (A:=A) h1 h2 r,nd,e,e2,k=>by
  simp at e2
  subst e2
  exact .own hp he (RSl.mono (Same.refl _) r fun q hq o h=>by
   have n:q≠p2:=fun z=>(zat3.mp nd).1 (z ▸ hq)
   rw [k q (zar1 _ hq) n];exact h)
 |_,_,_,i+1,.no r,nd,e,e2,k=>.no (RSl.upd hp he i r nd (by simpa using e) (by simpa using e2) k)
 |_,_,_,i+1,.val h r,nd,e,e2,k=>.val h (RSl.upd hp he i r nd (by simpa using e) (by simpa using e2) k)
 |_,_,_,i+1,.own (p:=p2) h1 h2 r,nd,e,e2,k=>by
  have n:=zat3.mp nd
  have e2':=(show _ from e2)
  obtain⟨p3,vs3,a1,a2,_⟩:=RSl.getOwn r (i:=i) (ds:=ds) (by simpa using e)
  have:p3=p:=by simpa [a1] using e2
  subst this
  have np:p2≠p3:=fun z=>n.1 (z ▸ a2)
  refine .own (by rw [k p2 (zar4 ..) np];exact h1) h2 (RSl.upd hp he i r n.2 (by simpa using e) (by simpa using e2) fun q hq=>k q (zar1 _ hq))
theorem RS.write {K:zaq9}{F A:List Addr}{H:Hp}{t:Th}{σ:L2.St}{i:Nat}{ds es:List D}{ws:List V}{p:Addr} (R:RS K F H A t σ) (e:t[i]?=some (.own ds)) (e2:σ[i]?=some (some (.ref p))) (h:Reps K (hide (A++F) H) es ws) :
  RS K F (L2.upd H p (.lst ws)) A (t.set i (.own es)) σ∧Gr A H A (L2.upd H p (.lst ws)):=by
 obtain⟨p',vs,a1,a2,a3,a4⟩:=R.rel.getOwn e
 have:p'=p:=by simpa [a1] using e2
 subst this
 have hh:Same (hide (A++F) H) (hide (A++F) (L2.upd H p' (.lst ws))):=fun b o q=>by
  obtain⟨n,q⟩:=zf5 q
  have nb:b≠p':=fun z=>n (zar0 _ (z ▸ a2))
  exact zb7 (by rw [zb4 nb];exact q) n
 have mu:Lists (L2.upd H p' (.lst ws)) (A++F):=fun q hq=>by
  by_cases z:q=p'
  ·exact⟨mL ws,by rw [z];exact zb0⟩
  ·obtain⟨us,w⟩:=R.mu q hq
   exact⟨us,by rw [zb4 z];exact w⟩
 refine⟨⟨mu,R.nd,R.dj,RSl.upd zb0 (Reps.mono hh h) i (RSl.mono hh R.rel (H':=H) fun _ _ _ h=>h) R.nd e e2 fun q _ n=>zb4 n⟩,?_⟩
 refine⟨fun b o n q=>?_,fun b hb=>?_,fun b hb=>.inl hb⟩
 ·rw [zb4 (fun z=>n (by rw [z];exact a2))];exact q
 ·obtain⟨us,w⟩:=mu b (zar0 _ hb)
  rw [w];simp
noncomputable def kApp (t:Th) (i:Nat) (r:Ev):Option Out:=match t[i]? with
 |some (.own xs)=>if r.ok&&decide (xs.length<100000) then some (.nx (t.set i (.own (xs++[r.d])))) else none
 |_=>none
def dApp (i:Nat) (f:DE):DS:=fun t=>(f t).bind (kApp t i)
section
variable {X:Cx}{F:List Addr}{a b c:Expr}{es:List Expr}{fa fb fc:DE}{g g1 g2:DS}{ft fu:DT}{pos:Pos}{st:Stmt}{rest:List Stmt}{tg:Expr}{gt:TG}{kt:D→Th→Option Th}
theorem zo2 (i:Nat) {x:Str}{p0 apos cpos:Pos} (he:PE X a (dE X.K F fa)) (hN:X.N[i]?=some x:=by rfl) (hv:Vis X.env.scope x:=by first | exact Or.inl rfl | exact Or.inr (Or.inl rfl) |exact Or.inr (Or.inr rfl)) (hd:(x ==("__debug__":Str))=false:=by decide)
  (hcd:(x ==("__classdict__":Str))=false:=by decide) (hst:zat2 [a] X.env=[(false,eval a X.env)]:=by rfl)
  (hbase:attributeBase (.Name x p0) "append" X.env (eval (.Name x p0) X.env)=eval (.Name x p0) X.env:=by rfl)
  (hfew:((zay7 cpos (zat2 [a] X.env)).all (fun x=>!x.1)&&(backToKw cpos (keywordEach [] X.env)).all (fun x=>x.1.isSome)
   && decide ([a].length+([]:List Keyword).length+(if ([]:List Keyword).isEmpty then 0 else 1)<30))=true:=by rfl)
  (hline:(apos.endLine == cpos.line)=true:=by rfl) (hplain:(zay7 cpos (zat2 [] X.env)).any (·.1)=false:=by rfl)
  (hsw:swapsWith (.Call (.Attribute (.Name x p0) "append" apos) [a] [] cpos) none pos.line X.env=pure false:=by rfl) :
  PS X (.Expr (.Call (.Attribute (.Name x p0) "append" apos) [a] [] cpos) pos) (dS X.K F (dApp i fa)):=by
 refine PS.imp (zq5 (pe_bm zav1 zbb0 zbb1 zk1 (zj6 (i:=i) hN hv hd hcd) (zh9 he zl6 hst) hbase hfew hline hst hplain) hsw) ?_
 rintro E σ H ⟨A,t,o,R,e,h⟩
 unfold dApp at e
 cases e1:fa t with
 |none=>rw [e1]at e;cases e
 |some r =>
  rw [e1]at e
  have e:kApp t i r=some o:=e
  unfold kApp at e
  split at e
  case h_2=>cases e
  rename_i xs z
  split at e
  case isFalse=>cases e
  rename_i ok
  simp only [zar9,decide_eq_true_eq]at ok
  cases e
  obtain⟨p,vs,a1,a2,a3,a4⟩:=R.rel.getOwn z
  refine⟨_,a1,.inl ⟨rfl,vs,SqL.of a3⟩,A,t,r,R,e1,fun y H1 gs q=>⟨p,vs,y,rfl,rfl,gs _ _ a3,?_,?_⟩⟩
  ·have:vs.length<100000:=by rw [a4.length];exact ok.2
   exact zas5 this (by rw [sizeLine_eq];decide)
  ·obtain⟨R',g'⟩:=(R.grow gs).write (es:=xs++[r.d]) (ws:=vs++[y]) z a1 ((Reps.mono (za8 gs) a4).app (Reps.one (q.clean R.mu gs ok.1)))
   exact h _ _ _ ((Gr.of_same R.mu.left gs).trans g') R'
noncomputable def kIx:Ev→Ev→Option Ev:=fun r1 r2=>match r1.d,r2.d with
 |.lst ds,.int i=>(atI ds i).map fun d=>if r1.ok||flat d then .cl d else .tm d
 |.tup ds,.int i=>(atI ds i).map fun d=>if r1.ok||flat d then .cl d else .tm d
 |_,_=>none
theorem Reps.atI {K:zaq9}{H:Hp}{ds:List D}{vs:List V} (r:Reps K H ds vs) {i:Int}{d:D} (e:L2.atI ds i=some d):∃v,L2.atI vs i=some v∧Rep K H d v:=by
 unfold L2.atI at e ⊢
 rw [r.length]
 cases e1:ixN ds.length i with
 |none=>rw [e1]at e;cases e
 |some j=>rw [e1]at e;exact r.get e
theorem zc9 (ha:PE X a (dE X.K F fa)) (hb:PE X b (dE X.K F fb)) (hs:zad0 b:=by intro _ _;rfl):PE X (.Subscript a b pos) (dE X.K F (d2 kIx fa fb)):=by
 refine PE.imp (pe_ix (ix_list.or ix_tup) ha hb hs) ?_
 intro σ H Q h
 obtain⟨A,t,r1,r2,r,R,e1,e2,e,h,w⟩:=two h
 refine⟨A,t,r1,R,e1,fun x H1 gs1 q1=>⟨A,t,r2,R.grow gs1,e2,fun y H2 gs2 q2=>?_⟩⟩
 have q1:=q1.mono gs2
 have gs:=gs1.trans gs2
 have p2:=q2.full
 have m2:=R.mu.mono gs
 have key:∀(P:List Addr),Rep X.K (hide P H2) r1.d x→(∀d v,Rep X.K (hide P H2) d v→RepEv X.K F A H H2 (if r1.ok||flat d then Ev.cl d else Ev.tm d) v)→rIxL X.K x y H2 Q∨rIxT X.K x y H2 Q:=fun P hP fin=>by
  unfold kIx at e
  split at e
  ·rename_i ds i z1 z2
   rw [z2]at p2
   cases zg3 p2
   rw [z1]at hP
   cases hP with
   |@lst _ p vs h1 h2 =>
    cases e4:atI ds i with
    |none=>rw [e4]at e;cases e
    |some d =>
     rw [e4]at e
     have e:(if r1.ok||flat d then Ev.cl d else Ev.tm d)=r:=by simpa using e
     obtain⟨v,e5,rv⟩:=Reps.atI h2 e4
     exact .inl ⟨p,vs,i,v,rfl,rfl,SqL.mono (zb1 _ _) h1,e5,h v H2 gs (e ▸ fin d v rv)⟩
  ·rename_i ds i z1 z2
   rw [z2]at p2
   cases zg3 p2
   rw [z1]at hP
   cases hP with
   |@tup _ p vs h1 h2 =>
    cases e4:atI ds i with
    |none=>rw [e4]at e;cases e
    |some d =>
     rw [e4]at e
     have e:(if r1.ok||flat d then Ev.cl d else Ev.tm d)=r:=by simpa using e
     obtain⟨v,e5,rv⟩:=Reps.atI h2 e4
     exact .inr ⟨p,vs,i,v,rfl,rfl,SqT.mono (zb1 _ _) h1,e5,h v H2 gs (e ▸ fin d v rv)⟩
  ·cases e
 by_cases c:r1.ok=true
 ·refine key (A++F) (q1.clean R.mu gs c) fun d v rv=>?_
  rw [c,Bool.true_or,if_pos rfl]
  exact rv
 ·refine key F (q1.cleanF R.mu) fun d v rv=>?_
  have c:r1.ok=false:=by simpa using c
  rw [c,Bool.false_or]
  split
  ·rename_i f;exact Rep.hid m2 f (Rep.mono (zb1 _ _) rv)
  ·exact rv
noncomputable def kCat:Ev→Ev→Option Ev:=fun r1 r2=>match r1.d,r2.d with
 |.lst ds,.lst es=>if (r1.ok||flats ds)&&(r2.ok||flats es)&&decide (ds.length+es.length≤100000) then some (.nw (ds++es)) else none
 |_,_=>none
theorem RepEv.items {K:zaq9}{F A:List Addr}{H H':Hp}{r:Ev}{v:V}{ds:List D} (m:Lists H (A++F)) (gs:Same H H') (q:RepEv K F A H H' r v) (z:r.d=.lst ds) (c:(r.ok||flats ds)=true) :
  ∃p vs,v=.ref p∧SqL K H' p vs∧Reps K (hide (A++F) H') ds vs:=by
 rcases zbc7 _ _ ▸ c with c | c
 ·have w:=q.clean m gs c
  rw [z]at w
  cases w with
  |@lst _ p vs h1 h2=>exact⟨p,vs,rfl,SqL.mono (zb1 _ _) h1,h2⟩
 ·have w:=q.full
  rw [z]at w
  cases w with
  |@lst _ p vs h1 h2=>exact⟨p,vs,rfl,h1,Reps.hid (m.mono gs) c h2⟩
theorem cat_any {E:Value→zas4→Prop}{A:Around}{prog:Program}{w:World}{s:zas4}{l b:Addr}{vs ws:List Value}{Q:Value→zas4→Prop} (hl:PlainL s.heap l vs.toArray) (hb:PlainL s.heap b ws.toArray)
  (h:Q (.ref s.heap.objs.size) { s with heap:=s.heap.push { cls:=.type "list",data:=.seq (vs++ws).toArray } }) (hsz:vs.length+ws.length≤sizeLine) :
  wpAny (model prog w) A (binaryOp .Add (.ref l) (.ref b)) Q E s:=by
 obtain⟨⟨cls,dd,data,sl⟩,n,ho,hc,hdd,hd⟩:=id hl
 obtain⟨⟨cls2,dd2,data2,sl2⟩,n2,ho2,hc2,hdd2,hd2⟩:=id hb
 simp only at hc hd hc2 hd2
 subst hc hd hc2 hd2
 have e:vs.toArray++ws.toArray=(vs++ws).toArray:=by simp
 refine concat_meets ⟨_,ho,rfl⟩ ⟨_,ho2,rfl⟩ noFill_list_add seq_list_add PySem.F.slot_list_add PySem.F.entry_list_add (PySem.F.args_list_add_2 _ _) (list_addW l b vs.toArray ws.toArray n n2 dd dd2 sl sl2 (by simpa using hsz)) ⟨ho,ho2,?_⟩
 rw [e]
 exact h
theorem zf2:OpD X F (binaryOp .Add) kCat:=by
 intro pins s σ H0 H A x y v u Q r1 r2 r I m g0 rx ry q1 q2 e hq
 unfold kCat at e
 split at e
 case h_2=>cases e
 rename_i ds es' z1 z2
 split at e
 case isFalse=>cases e
 rename_i c
 simp only [zar9,decide_eq_true_eq]at c
 cases e
 obtain⟨p,vs,rfl,h1,h2⟩:=q1.items m g0 z1 c.1.1
 obtain⟨p',ws,rfl,h1',h2'⟩:=q2.items m g0 z2 c.1.2
 cases rx
 cases ry
 obtain⟨its,w1,w2,w3⟩:=I.list h1
 obtain⟨its',w1',w2',w3'⟩:=I.list h1'
 have l1:=h2.length
 have l2:=h2'.length
 have l3:=w1.length
 have l4:=w1'.length
 have hz:vs.length+ws.length≤sizeLine:=zi1 (by lia)
 refine cat_any w2 w2' ⟨.ref _,_,I.lnew (t':=s.toks) (w1.append w1') (by rw [zat5];exact hz),rfl,?_⟩ (by lia)
 refine hq _ _ (zc2 I.fresh) ⟨_,_,rfl,Same.free g0 I.fresh,zb0,Reps.mono (zj1 I.fresh) (h2.app h2')⟩
mutual
def eqD:D→D→Bool
 |.non,.non=>true
 |.bl a,.bl b=>decide (a=b)
 |.int a,.int b=>decide (a=b)
 |.str a,.str b=>decide (a=b)
 |.tup a,.tup b=>eqDs a b
 |.lst a,.lst b=>eqDs a b
 |.dct ks a,.dct ks' b=>decide (ks=ks')&&eqDs a b
 |.pdc a,.pdc b=>decide (a=b)
 |_,_=>false
def eqDs:List D→List D→Bool
 |[],[]=>true
 |a::as,b::bs=>eqD a b&&eqDs as bs
 |_,_=>false
end
noncomputable def eqOk:Nat→D→D→Bool
 |_,.non,.non=>true
 |_,.bl _,.bl _=>true
 |_,.int _,.int _=>true
 |_,.str _,.str _=>true
 |_,.non,.int _=>true
 |_,.int _,.non=>true
 |_,.non,.str _=>true
 |_,.str _,.non=>true
 |_,.non,.bl _=>true
 |_,.bl _,.non=>true
 |_,.int _,.str _=>true
 |_,.str _,.int _=>true
 |n+1,.tup xs,.tup ys=>(xs.zip ys).all fun p=>eqOk n p.1 p.2
 |n+1,.lst xs,.lst ys=>(xs.zip ys).all fun p=>eqOk n p.1 p.2
 |_,_,_=>false
theorem zr7 {pins:List (Addr×Obj)}{s:zas4}{σ:L2.St}{H:Hp}{p:Addr}{kvs:List (Key×V)} (I:Inv X pins σ H s) (h:H p=some (.dK kvs)):∃o,s.heap.get? p=some o∧o.cls=.type "dict":=by
 obtain⟨_,_,vs,_,m⟩:kvs.length≤sizeLine∧(p == sysModules)=false∧∃vs,KV kvs vs∧s.heap.DictOf (zd8 X.prog X.w) p vs:=I.hok p _ h
 exact m.typeIs
theorem zq8 {pins:List (Addr×Obj)}{s:zas4}{σ:L2.St}{H:Hp}{p:Addr}{kvs:List (List Key×V)} (I:Inv X pins σ H s) (h:H p=some (.dT kvs)):∃o,s.heap.get? p=some o∧o.cls=.type "dict":=by
 obtain⟨_,_,xs,_,o,es,ep,h1,h2,_⟩:=(show ObjOk X.prog X.w H s.heap p (.dT kvs) from I.hok p _ h)
 exact⟨o,h1,h2.1⟩
theorem zal1:∀ {a b:List (Int×Int)},pkv a=pkv b→a=b
 |[],[],_=>rfl
 |[],_::_,h=>by simp [pkv]at h
 |_::_,[],h=>by simp [pkv]at h
 |(x,y)::a,(z,w)::b,h=>by
  simp only [pkv,zas1,List.cons.injEq,Prod.mk.injEq,Sum.inl.injEq,and_true]at h
  rw [h.1.1,h.1.2,zal1 (a:=a) (b:=b) h.2]
theorem zip_inj {ks ks':List Key}{vs vs':List V} (l:ks.length=vs.length) (l':ks'.length=vs'.length) (h:mkKV ks vs=mkKV ks' vs'):ks=ks'∧vs=vs':=by
 unfold mkKV at h
 have h1:=congrArg (List.map Prod.fst) h
 have h2:=congrArg (List.map Prod.snd) h
 rw [zbe8 (by lia),zbe8 (by lia)]at h1
 rw [zbe9 (by lia),zbe9 (by lia)]at h2
 exact⟨h1,h2⟩
theorem Rep.injR {pins:List (Addr×Obj)}{s:zas4}{σ:L2.St}{H:Hp} (I:Inv X pins σ H s):(∀ {d:D}{v:V},Rep X.K H d v→∀e,Rep X.K H e v→d=e)∧∀ {ds:List D}{vs:List V},Reps X.K H ds vs→∀es,Reps X.K H es vs→ds=es:=by
 have cl:∀ {p:Addr}{A B:String},(∃o,s.heap.get? p=some o∧o.cls=.type A)→(∃o,s.heap.get? p=some o∧o.cls=.type B)→A≠B→False:=fun ⟨o,e,c⟩ ⟨o',e',c'⟩ n=>by
  rw [e]at e';cases e'
  rw [c]at c';injection c' with c';exact n c'
 have ct:∀ {p:Addr}{vs:List V},SqT X.K H p vs→∃o,s.heap.get? p=some o∧o.cls=.type "tuple":=fun h=>by
  obtain⟨its,_,⟨o,e,c,_⟩,_⟩:=I.tuple h
  exact⟨o,e,c⟩
 have cL:∀ {p:Addr}{vs:List V},SqL X.K H p vs→∃o,s.heap.get? p=some o∧o.cls=.type "list":=fun h=>by
  obtain⟨its,_,⟨o,n,e,c,_⟩,_⟩:=I.list h
  exact⟨o,e,c⟩
 have key:∀ {d:D}{v:V},Rep X.K H d v→∀e,Rep X.K H e v→d=e:=fun h=>by
  refine Rep.rec (motive_1:=fun d v _ => ∀e,Rep X.K H e v→d=e) (motive_2:=fun ds vs _ => ∀es,Reps X.K H es vs→ds=es) ?_ ?_ ?_ ?_ ?_ ?_ ?_ ?_ ?_ ?_ h
  ·intro e h';cases h';rfl
  ·intro b e h';cases h';rfl
  ·intro b e h';cases h';rfl
  ·intro b e h';cases h';rfl
  ·intro ds p vs h1 r1 ih e h'
   cases h' with
   |tup h2 r2 =>
    have ev:=I.tuple_inj h1 h2
    subst ev
    rw [ih _ r2]
   |lst h2 r2=>exact (cl (ct h1) (cL h2) (by decide +kernel)).elim
   |dct _ h2 r2=>exact (cl (ct h1) (zr7 I h2) (by decide +kernel)).elim
   |pdc h2=>exact (cl (ct h1) (zq8 I h2) (by decide +kernel)).elim
  ·intro ds p vs h1 r1 ih e h'
   cases h' with
   |tup h2 r2=>exact (cl (cL h1) (ct h2) (by decide +kernel)).elim
   |lst h2 r2 =>
    have ev:=I.list_inj h1 h2
    subst ev
    rw [ih _ r2]
   |dct _ h2 r2=>exact (cl (cL h1) (zr7 I h2) (by decide +kernel)).elim
   |pdc h2=>exact (cl (cL h1) (zq8 I h2) (by decide +kernel)).elim
  ·intro ks ds p vs l1 h1 r1 ih e h'
   cases h' with
   |tup h2 r2=>exact (cl (zr7 I h1) (ct h2) (by decide +kernel)).elim
   |lst h2 r2=>exact (cl (zr7 I h1) (cL h2) (by decide +kernel)).elim
   |dct l2 h2 r2 =>
    rw [h1]at h2
    obtain⟨e1,e2⟩:=zip_inj l1 l2 (by injection h2 with h2;injection h2)
    subst e1 e2
    rw [ih _ r2]
   |pdc h2=>rw [h1]at h2;cases h2
  ·intro ps p h1 e h'
   cases h' with
   |tup h2 r2=>exact (cl (zq8 I h1) (ct h2) (by decide +kernel)).elim
   |lst h2 r2=>exact (cl (zq8 I h1) (cL h2) (by decide +kernel)).elim
   |dct _ h2 r2=>rw [h1]at h2;cases h2
   |pdc h2 =>
    rw [h1]at h2
    injection h2 with h2
    injection h2 with h2
    rw [zal1 h2]
  ·intro es h';cases h';rfl
  ·intro d v ds vs h r ih1 ih2 es h'
   cases h' with
   |cons h' r'=>rw [ih1 _ h',ih2 _ r']
 refine⟨key,fun {ds vs} h=>?_⟩
 induction ds generalizing vs with
 |nil=>intro es h';cases h;cases h';rfl
 |cons d ds ih =>
  intro es h'
  cases h with
  |cons h r =>
   cases h' with
   |cons h' r'=>rw [key h _ h',ih r _ r']
theorem Rep.inj {pins:List (Addr×Obj)}{s:zas4}{σ:L2.St}{H:Hp} (I:Inv X pins σ H s) {d e:D}{v:V} (h:Rep X.K H d v) (h':Rep X.K H e v):d=e:=(Rep.injR I).1 h e h'
mutual
theorem zao4:∀ {a b:D},eqD a b=true↔a=b
 |.non,b=>by cases b<;>simp [eqD]
 |.bl _,b=>by cases b<;>simp [eqD]
 |.int _,b=>by cases b<;>simp [eqD]
 |.str _,b=>by cases b<;>simp [eqD]
 |.tup xs,b=>by
  cases b with
  |tup ys=>simp only [eqD,D.tup.injEq];exact eqDs_iff
  |_=>simp [eqD]
 |.lst xs,b=>by
  cases b with
  |lst ys=>simp only [eqD,D.lst.injEq];exact eqDs_iff
  |_=>simp [eqD]
 |.dct ks xs,b=>by
  cases b with
  |dct ks' ys=>simp only [eqD,D.dct.injEq,zar9,decide_eq_true_eq];rw [eqDs_iff (a:=xs) (b:=ys)]
  |_=>simp [eqD]
 |.pdc a,b=>by cases b<;>simp [eqD]
theorem eqDs_iff:∀ {a b:List D},eqDs a b=true↔a=b
 |[],b=>by cases b<;>simp [eqDs]
 |x::xs,b=>by
  cases b with
  |nil=>simp [eqDs]
  |cons y ys =>
   simp only [eqDs,zar9,List.cons.injEq]
   rw [zao4 (a:=x) (b:=y),eqDs_iff (a:=xs) (b:=ys)]
end
theorem eqD_true {a b:D}:eqD a b=true↔a=b:=zao4
theorem eqD_false {a b:D}:eqD a b=false↔¬ a=b:=by rw [← eqD_true];simp
def eAt (xs ys:List D) (j:Nat):Bool:=match xs[j]?,ys[j]? with
 |some a,some b=>eqD a b
 |_,_=>true
end
end DL
namespace DL
open PySem.Spec L2
theorem PlainL.isL {h:Heap}{a:Addr}{its:Array Value} (p:PlainL h a its):h.IsList a its:=by
 obtain⟨o,n,e,c,_,d⟩:=p
 exact⟨o,e,c,n,d⟩
section
variable {X:Cx}{F:List Addr}{a b c:Expr}{es:List Expr}{fa fb fc:DE}{g g1 g2:DS}{ft fu:DT}{pos:Pos}{st:Stmt}{rest:List Stmt}{tg:Expr}{gt:TG}{kt:D→Th→Option Th}
def scD:D→Bool
 |.tup _=>false
 |.lst _=>false
 |.dct _ _=>false
 |.pdc _=>false
 |_=>true
theorem eqV_D {K:zaq9}{H:Hp}{n:Nat}{d e:D}{v u:V} (r:Rep K H d v) (q:Rep K H e u) (s1:scD d=true) (s2:scD e=true) (ok:eqOk n d e=true):zn8 v=true∧zn8 u=true∧eqV v u=eqD d e:=by
 cases r<;>cases q<;>simp_all [scD,eqOk,zn8,eqV,eqD]
 all_goals (rw [zaw6];simp)
theorem zv5 {xs ys:List D} (h:xs.length=ys.length):(zat6 xs.length).all (eAt xs ys)=eqD (.lst xs) (.lst ys):=by
 rw [zaw6,eqD_true,zbc0]
 constructor
 ·intro hh
  congr 1
  apply List.ext_getElem h
  intro i h1 h2
  have:=hh i (zaz7.mpr h1)
  simp only [eAt,zar5 h1,zar5 h2]at this
  exact eqD_true.mp this
 ·intro hh i hi
  injection hh with hh
  subst hh
  simp only [eAt]
  split
  ·rename_i a b z1 z2
   rw [z1]at z2;cases z2
   exact eqD_true.mpr rfl
  ·rfl
theorem zv4 {xs ys:List D}:((zat6 (min xs.length ys.length)).all (eAt xs ys)&&xs.length == ys.length)=eqD (.tup xs) (.tup ys):=by
 by_cases h:xs.length=ys.length
 ·have e:min xs.length ys.length=xs.length:=by lia
  rw [e,zv5 h,beq_iff_eq.mpr h,zaw3]
  rw [zaw6,eqD_true,eqD_true]
  simp
 ·have e:(xs.length == ys.length)=false:=by simpa using h
  rw [e,Bool.and_false]
  symm
  rw [eqD_false]
  intro z
  injection z with z
  exact h (by rw [z])
theorem zz8 {n:Nat}{xs ys:List D} (h:((xs.zip ys).all fun p=>eqOk n p.1 p.2)=true) {j:Nat}{x y:D} (hx:xs[j]?=some x) (hy:ys[j]?=some y):eqOk n x y=true:=by
 rw [zbc0]at h
 refine h (x,y) (zbc9 (i:=j) ?_)
 rw [List.getElem?_zip_eq_some]
 exact⟨hx,hy⟩
theorem zx7 {A:Around}:A.in1.units=A.units+1:=rfl
theorem Vals.getL {vs:List V}{us:List Value} (h:Vals vs us) {j:Nat} (hj:j<us.toArray.size):∃v,vs[j]?=some v∧RelV v us.toArray[j]:=by
 have hj':j<vs.length:=by rw [h.length];simpa using hj
 obtain⟨u,e,r⟩:=Vals.get h (zar5 hj')
 refine⟨_,zar5 hj',?_⟩
 have:us.toArray[j]=u:=by
  have hj2:j<us.length:=by simpa using hj
  have:=zar5 hj2
  rw [e]at this
  simpa using (Option.some.inj this).symm
 rw [this];exact r
theorem zao6 {pins:List (Addr×Obj)}{s:zas4}{σ:L2.St}{H:Hp} (I:Inv X pins σ H s):∀(n:Nat) (A:Around) (d e:D) (v u:V) (y z:Value),A.units+n<cLine→eqOk n d e=true→Rep X.K H d v→Rep X.K H e u→RelV v y→RelV u z→SeqAt.EqAt A s y z (eqD d e):=by
 intro n
 induction n with
 |zero =>
  intro A d e v u y z hu ok r q ry rz
  have s1:scD d=true:=by cases d<;>cases e<;>simp_all [scD,eqOk]
  have s2:scD e=true:=by cases d<;>cases e<;>simp_all [scD,eqOk]
  obtain⟨f1,f2,ee⟩:=eqV_D r q s1 s2 ok
  rw [← ee]
  exact zao5 ry rz f1 f2
 |succ n ih =>
  intro A d e v u y z hu ok r q ry rz
  by_cases s1:scD d=true
  ·have s2:scD e=true:=by cases d<;>cases e<;>simp_all [scD,eqOk]
   obtain⟨f1,f2,ee⟩:=eqV_D r q s1 s2 ok
   rw [← ee]
   exact zao5 ry rz f1 f2
  ·have hu':A.in1.units+n<cLine:=by rw [zx7];lia
   have hu0:A.units<cLine:=by lia
   cases r with
   |@tup xs p vs h1 h2 =>
    cases q with
    |@tup ys p' ws h1' h2' =>
     cases ry;cases rz
     by_cases z:p=p'
     ·subst z
      have e:=Rep.inj I (.tup h1 h2) (.tup h1' h2')
      rw [eqD_true.mpr e]
      exact SeqAt.EqAt.same _
     ·obtain⟨its,w1,w2,_⟩:=I.tuple h1
      obtain⟨its',w1',w2',_⟩:=I.tuple h1'
      refine SeqAt.EqAt.of_refs z ?_
      have k:=SeqAt.RcAt.tuples (A:=A) (e:=eAt xs ys) w2 w2' hu0 (fun j g1 g2=>by
       obtain⟨v1,a1,a2⟩:=Vals.getL w1 g1
       obtain⟨v2,b1,b2⟩:=Vals.getL w1' g2
       obtain⟨x1,c1,c2⟩:=h2.getV a1
       obtain⟨x2,d1,d2⟩:=h2'.getV b1
       have:=ih A.in1 x1 x2 v1 v2 _ _ hu' (zz8 (by simpa [eqOk] using ok) c1 d1) c2 d2 a2 b2
       have ee:eAt xs ys j=eqD x1 x2:=by simp only [eAt,c1,d1]
       rw [ee];exact this)
      have l1:its.toArray.size=xs.length:=by have:=w1.length;have:=h2.length;simp;lia
      have l2:its'.toArray.size=ys.length:=by have:=w1'.length;have:=h2'.length;simp;lia
      rw [l1,l2,zv4]at k
      exact k
    |_=>simp_all [eqOk]
   |@lst xs p vs h1 h2 =>
    cases q with
    |@lst ys p' ws h1' h2' =>
     cases ry;cases rz
     by_cases z:p=p'
     ·subst z
      have e:=Rep.inj I (.lst h1 h2) (.lst h1' h2')
      rw [eqD_true.mpr e]
      exact SeqAt.EqAt.same _
     ·obtain⟨its,w1,w2,_⟩:=I.list h1
      obtain⟨its',w1',w2',_⟩:=I.list h1'
      refine SeqAt.EqAt.of_refs z ?_
      have l1:its.toArray.size=xs.length:=by have:=w1.length;have:=h2.length;simp;lia
      have l2:its'.toArray.size=ys.length:=by have:=w1'.length;have:=h2'.length;simp;lia
      by_cases hl:xs.length=ys.length
      ·have k:=SeqAt.RcAt.lists (A:=A) (e:=eAt xs ys) (PlainL.isL w2) (PlainL.isL w2') (by rw [l1,l2];exact hl) hu0 (fun j g1 g2=>by
        obtain⟨v1,a1,a2⟩:=Vals.getL w1 g1
        obtain⟨v2,b1,b2⟩:=Vals.getL w1' g2
        obtain⟨x1,c1,c2⟩:=h2.getV a1
        obtain⟨x2,d1,d2⟩:=h2'.getV b1
        have:=ih A.in1 x1 x2 v1 v2 _ _ hu' (zz8 (by simpa [eqOk] using ok) c1 d1) c2 d2 a2 b2
        have ee:eAt xs ys j=eqD x1 x2:=by simp only [eAt,c1,d1]
        rw [ee];exact this)
       rw [l1,zv5 hl]at k
       exact k
      ·have ee:eqD (.lst xs) (.lst ys)=false:=eqD_false.mpr fun z=>hl (by injection z with z;rw [z])
       rw [ee]
       exact SeqAt.RcAt.lists_lengths (PlainL.isL w2) (PlainL.isL w2') (by rw [l1,l2];simpa using hl) hu0
    |_=>simp_all [eqOk]
   |dct=>exact absurd ok (by cases e<;>simp [eqOk])
   |pdc=>exact absurd ok (by cases e<;>simp [eqOk])
   |_=>simp_all [scD]
theorem zad7 {pins:List (Addr×Obj)}{s:zas4}{σ:L2.St}{H:Hp} (I:Inv X pins σ H s) {n:Nat}{A:Around}{xs ys:List D}{vs ws:List V}{its its':List Value} (hu:A.units+n+1<cLine) (ok:((xs.zip ys).all fun p=>eqOk n p.1 p.2)=true)
  (h2:Reps X.K H xs vs) (h2':Reps X.K H ys ws) (w1:Vals vs its) (w1':Vals ws its'):∀j (g1:j<its.toArray.size) (g2:j<its'.toArray.size),SeqAt.EqAt A.in1 s its.toArray[j] its'.toArray[j] (eAt xs ys j):=fun j g1 g2=>by
 obtain⟨v1,a1,a2⟩:=Vals.getL w1 g1
 obtain⟨v2,b1,b2⟩:=Vals.getL w1' g2
 obtain⟨x1,c1,c2⟩:=h2.getV a1
 obtain⟨x2,d1,d2⟩:=h2'.getV b1
 have:=zao6 I n A.in1 x1 x2 v1 v2 _ _ (by rw [zx7];lia) (zz8 ok c1 d1) c2 d2 a2 b2
 have ee:eAt xs ys j=eqD x1 x2:=by simp only [eAt,c1,d1]
 rw [ee];exact this
def kEq:Ev→Ev→Option Ev:=fun r1 r2=>if eqOk 6 r1.d r2.d then some (.cl (.bl (eqD r1.d r2.d))) else none
def kNe:Ev→Ev→Option Ev:=fun r1 r2=>if eqOk 6 r1.d r2.d then some (.cl (.bl (!eqD r1.d r2.d))) else none
theorem scal_D {K:zaq9}{H:Hp}{n:Nat}{d e:D}{v u:V} (r:Rep K H d v) (q:Rep K H e u) (s1:scD d=true) (ok:eqOk n d e=true):scal v u=true∧decide (v=u)=eqD d e:=by
 cases r<;>cases q<;>simp_all [scD,eqOk,scal,eqD]
theorem zah7 (hu:X.A.units+64<cLine):OpD X F (compareOp .Eq) kEq:=by
 intro pins s σ H0 H A x y v u Q r1 r2 r I m g0 rx ry q1 q2 e hq
 unfold kEq at e
 split at e
 case isFalse=>cases e
 rename_i ok
 cases e
 have p1:=q1.full
 have p2:=q2.full
 by_cases s1:scD r1.d=true
 ·obtain⟨a1,a2⟩:=scal_D p1 p2 s1 ok
  exact op_eq pins s σ H x y v u Q I rx ry ⟨a1,by rw [a2];exact hq _ H (Same.refl H) (.bl _)⟩
 ·generalize r1.d=d1 at *
  generalize r2.d=d2 at *
  have hu0:X.A.units<cLine:=by lia
  cases p1 with
  |@tup xs p vs h1 h2 =>
   cases p2 with
   |@tup ys p' ws h1' h2' =>
    cases rx;cases ry
    obtain⟨its,w1,w2,_⟩:=I.tuple h1
    obtain⟨its',w1',w2',_⟩:=I.tuple h1'
    have l1:its.toArray.size=xs.length:=by have:=w1.length;have:=h2.length;simp;lia
    have l2:its'.toArray.size=ys.length:=by have:=w1'.length;have:=h2'.length;simp;lia
    refine SeqAt.eq_tupleAt w2 w2' hu0 (zad7 I (n:=5) (by lia) (by simpa [eqOk] using ok) h2 h2' w1 w1') ?_
    rw [l1,l2,zv4]
    exact⟨.bl _,H,I,rfl,hq _ H (Same.refl H) (.bl _)⟩
   |_=>simp_all [eqOk]
  |@lst xs p vs h1 h2 =>
   cases p2 with
   |@lst ys p' ws h1' h2' =>
    cases rx;cases ry
    obtain⟨its,w1,w2,_⟩:=I.list h1
    obtain⟨its',w1',w2',_⟩:=I.list h1'
    have l1:its.toArray.size=xs.length:=by have:=w1.length;have:=h2.length;simp;lia
    have l2:its'.toArray.size=ys.length:=by have:=w1'.length;have:=h2'.length;simp;lia
    by_cases hl:xs.length=ys.length
    ·refine SeqAt.eq_listAt (PlainL.isL w2) (PlainL.isL w2') (by rw [l1,l2];exact hl) hu0 (zad7 I (n:=5) (by lia) (by simpa [eqOk] using ok) h2 h2' w1 w1') ?_
     rw [l1,zv5 hl]
     exact⟨.bl _,H,I,rfl,hq _ H (Same.refl H) (.bl _)⟩
    ·have ee:eqD (.lst xs) (.lst ys)=false:=eqD_false.mpr fun z=>hl (by injection z with z;rw [z])
     rw [ee]at hq
     exact SeqAt.eq_list_lengthsAt (PlainL.isL w2) (PlainL.isL w2') (by rw [l1,l2];simpa using hl) hu0 ⟨.bl _,H,I,rfl,hq _ H (Same.refl H) (.bl _)⟩
   |_=>simp_all [eqOk]
  |dct=>exact absurd ok (by cases d2<;>simp [eqOk])
  |pdc=>exact absurd ok (by cases d2<;>simp [eqOk])
  |_=>simp_all [scD]
theorem zaa8 (hu:X.A.units+64<cLine):OpD X F (compareOp .NotEq) kNe:=by
 intro pins s σ H0 H A x y v u Q r1 r2 r I m g0 rx ry q1 q2 e hq
 unfold kNe at e
 split at e
 case isFalse=>cases e
 rename_i ok
 cases e
 have p1:=q1.full
 have p2:=q2.full
 by_cases s1:scD r1.d=true
 ·obtain⟨a1,a2⟩:=scal_D p1 p2 s1 ok
  exact op_ne pins s σ H x y v u Q I rx ry ⟨a1,by rw [a2];exact hq _ H (Same.refl H) (.bl _)⟩
 ·generalize r1.d=d1 at *
  generalize r2.d=d2 at *
  have hu0:X.A.units<cLine:=by lia
  cases p1 with
  |@tup xs p vs h1 h2 =>
   cases p2 with
   |@tup ys p' ws h1' h2' =>
    cases rx;cases ry
    obtain⟨its,w1,w2,_⟩:=I.tuple h1
    obtain⟨its',w1',w2',_⟩:=I.tuple h1'
    have l1:its.toArray.size=xs.length:=by have:=w1.length;have:=h2.length;simp;lia
    have l2:its'.toArray.size=ys.length:=by have:=w1'.length;have:=h2'.length;simp;lia
    have k:=SeqAt.RcNeAt.tuples (A:=X.A) w2 w2' hu0 (zad7 I (n:=5) (by lia) (by simpa [eqOk] using ok) h2 h2' w1 w1')
    rw [l1,l2,zv4]at k
    exact k _ _ _ _ ⟨.bl _,H,I,rfl,hq _ H (Same.refl H) (.bl _)⟩
   |_=>simp_all [eqOk]
  |@lst xs p vs h1 h2 =>
   cases p2 with
   |@lst ys p' ws h1' h2' =>
    cases rx;cases ry
    obtain⟨its,w1,w2,_⟩:=I.list h1
    obtain⟨its',w1',w2',_⟩:=I.list h1'
    have l1:its.toArray.size=xs.length:=by have:=w1.length;have:=h2.length;simp;lia
    have l2:its'.toArray.size=ys.length:=by have:=w1'.length;have:=h2'.length;simp;lia
    by_cases hl:xs.length=ys.length
    ·have k:=SeqAt.RcNeAt.lists (A:=X.A) (PlainL.isL w2) (PlainL.isL w2') (by rw [l1,l2];exact hl) hu0 (zad7 I (n:=5) (by lia) (by simpa [eqOk] using ok) h2 h2' w1 w1')
     rw [l1,zv5 hl]at k
     exact k _ _ _ _ ⟨.bl _,H,I,rfl,hq _ H (Same.refl H) (.bl _)⟩
    ·have ee:eqD (.lst xs) (.lst ys)=false:=eqD_false.mpr fun z=>hl (by injection z with z;rw [z])
     rw [ee]at hq
     exact SeqAt.RcNeAt.lists_lengths (A:=X.A) (PlainL.isL w2) (PlainL.isL w2') (by rw [l1,l2];simpa using hl) hu0 _ _ _ _ ⟨.bl _,H,I,rfl,hq _ H (Same.refl H) (.bl _)⟩
   |_=>simp_all [eqOk]
  |dct=>exact absurd ok (by cases d2<;>simp [eqOk])
  |pdc=>exact absurd ok (by cases d2<;>simp [eqOk])
  |_=>simp_all [scD]
noncomputable def tyD:D→String
 |.non => "NoneType"
 |.bl _ => "bool"
 |.int _ => "int"
 |.str _ => "str"
 |.tup _ => "tuple"
 |.lst _ => "list"
 |.dct _ _ => "dict"
 |.pdc _ => "dict"
def isiT (d:D) (T:String):Bool:=tyD d == T||(tyD d == "bool"&&T == "int")
def dIsi (T:String) (f:DE):DE:=fun t=>(f t).bind fun r=>some (.cl (.bl (isiT r.d T)))
def IsiOk (K:zaq9) (T:String):Prop := ∀d:D,PySem.W.kitOne K (.type (tyD d)) (.type T)=some (isiT d T)
theorem zq6 {T:String}{x:Str}{p p2:Pos} (ok:IsiOk X.K T) (ha:PE X a (dE X.K F fa)) (hg:Gl X "isinstance") (hm:X.mg "isinstance"=none) (hgT:Gl X x) (hmT:X.mg x=none) (hvT:bootBuiltins x=some (.type T)) (hnT:x≠"__name__":=by decide) (hdT:(x ==("__debug__":Str))=false:=by decide)
  (he:zat2 (a::[Expr.Name x p2]) X.env=(false,eval a X.env)::zat2 [.Name x p2] X.env:=by rfl) (he2:zat2 [Expr.Name x p2] X.env=[(false,eval (.Name x p2) X.env)]:=by rfl) (hpl:(zay7 pos (zat2 [Expr.Name x p2] X.env)).any (·.1)=false:=by rfl) :
  PE X (.Call (.Name "isinstance" p) [a,.Name x p2] [] pos) (dE X.K F (dIsi T fa)):=by
 have rule:zad1 X (.builtin "isinstance") (fun xs H Q => ∃v d,xs=[v,.ty T]∧Rep X.K H d v∧Q (.bl (isiT d T)) H):=by
  intro pins s σ H xs us Q I r h
  obtain⟨v,d,rfl,rp,hq⟩:=h
  obtain⟨u,w',rfl,r1,r2⟩:=vals2 r
  cases (show w'=Value.type T from r2)
  have fin:∀tk,EP X pins σ Q (.bool (isiT d T)) { s with toks:=tk }:=fun tk=>⟨.bl _,H,I.tok tk,rfl,hq⟩
  have e:=ok d
  cases rp with
  |non=>cases (show u=Value.none from r1);exact zaw8 PySem.W.kitx_none I.kIn True.intro e (fun z=>nomatch z) fin
  |bl y=>cases (show u=Value.bool y from r1);exact zaw8 PySem.W.kitx_bool I.kIn True.intro e (fun z=>nomatch z) fin
  |int i=>obtain⟨t,q⟩:=(show ∃t,u=Value.int i t from r1);cases q;exact zaw8 PySem.W.kitx_int I.kIn True.intro e (fun z=>nomatch z) fin
  |str y=>obtain⟨t,q⟩:=(show ∃t,u=Value.str y t from r1);cases q;exact zaw8 PySem.W.kitx_str I.kIn True.intro e (fun z=>nomatch z) fin
  |@tup _ p _ h1 h2 =>
   cases (show u=Value.ref p from r1)
   obtain⟨its,_,⟨o,e1,c1,_⟩,_⟩:=I.tuple h1
   exact zaw8 PySem.W.kitx_tuple I.kIn ⟨o,e1,c1⟩ e (fun z=>nomatch z) fin
  |@lst _ p _ h1 h2 =>
   cases (show u=Value.ref p from r1)
   obtain⟨its,_,⟨o,n,e1,c1,_⟩,_⟩:=I.list h1
   exact zaw8 PySem.W.kitx_list I.kIn ⟨o,e1,c1⟩ e (fun z=>nomatch z) fin
  |@dct _ _ p _ _ h1 h2 =>
   cases (show u=Value.ref p from r1)
   exact zaw8 zbe3 I.kIn (zr7 I h1) e (fun z=>nomatch z) fin
  |@pdc _ p h1 =>
   cases (show u=Value.ref p from r1)
   exact zaw8 zbe3 I.kIn (zq8 I h1) e (fun z=>nomatch z) fin
 refine PE.imp (pe_callB rule hg hm boot_isinstance (zh9 ha (zh9 (pe_bltn (v:=.ty T) hgT hmT hvT rfl hnT hdT) zl6 he2) he) (by decide) (by decide) he hpl) ?_
 rintro σ H Q ⟨A,t,r,R,e,h⟩
 unfold dIsi at e
 cases e1:fa t with
 |none=>rw [e1]at e;cases e
 |some r1 =>
  rw [e1]at e
  cases e
  exact⟨A,t,r1,R,e1,fun v H' gs q=>⟨v,r1.d,rfl,q.full,h _ H' gs (.bl _)⟩⟩
end
def zt0 (N:List Str) (ds:List D):Th:=ds.map Sl.val++zar6 (N.length - ds.length) Sl.no
theorem RSl.no_all {K:zaq9}{H0 H:Hp}:∀n,RSl K H0 H (zar6 n Sl.no) (zar6 n none) []
 |0=>.nil
 |n+1=>.no (RSl.no_all n)
theorem RSl.start {K:zaq9}{H0 H:Hp}{t:Th}{σ:L2.St} (r0:RSl K H0 H t σ []):∀ {ds:List D}{vs:List V},Reps K H0 ds vs→RSl K H0 H (ds.map Sl.val++t) (vs.map some++σ) []
 |_,_,.nil=>r0
 |_,_,.cons h r=>.val h (RSl.start r0 r)
def zo3:Out→Option Ev
 |.rt r=>some r
 |.nx _=>some (.cl .non)
 |_=>none
theorem zk3 {P:Program}{w:World}{K:zaq9}{mg:Str→Option Value}{base:BHeap}{x qual:Str}{st:Stmt}{f:Addr}{fd:FuncData}{N ps:List Str}{k:Nat}{G:List D→Option Ev} (Fn:L2.Fun K x qual st f fd) (S:FnScope N ps (zb6 st))
  (hlen:∀ds r,G ds=some r→ds.length=ps.length) (g:DS) (hG:∀ds r,G ds=some r→∃o,g (zt0 N ds)=some o∧zo3 o=some r)
  (hbody:∀(cdv:Value) (A:Around) (outer:List Env) (s:zas4) (H:Hp) (E:XK) (F:List Addr),Room k (A.deeper (envOfC qual (zb6 st) s.heap.objs.size f cdv)) →
   PSs (cxOf CX0 P w K mg base N qual (zb6 st) f cdv A outer s H E).nox (zf7 st) (dS K F g)):FnOk P w K mg base CX0 (k+1) f fd ps (spD K G):=by
 refine Fn.ok S (fun vs H Q E h=>?_) (fun cdv A outer s H vs Q E hr h=>?_)
 ·obtain⟨Fo,ds,r,_,hr,hg,_⟩:=h
  rw [hr.length];exact hlen ds r hg
 ·obtain⟨Fo,ds,r,hl,hr',hg,cont⟩:=h
  obtain⟨o,ho,hoe⟩:=hG ds r hg
  refine⟨_,hbody cdv A outer s H E Fo hr,dS_mk (A:=[]) (t:=zt0 N ds) ⟨hl,zav4,fun p hp=>(by cases hp),?_⟩ ho ?_⟩
  ·unfold zt0 L2.start
   rw [hr'.length]
   exact RSl.start (RSl.no_all _) hr'
  ·have sm:∀ {A' H'},Gr [] H A' H'→Same H H':=fun g b o q=>g.kp b o (by simp) q
   cases o with
   |nx t' =>
    cases hoe
    exact fun σ' H' A' g' R'=>cont .non H' (sm g') .non
   |bk t'=>cases hoe
   |ct t'=>cases hoe
   |rt r' =>
    cases hoe
    intro v H' A' g' q
    refine cont v H' (sm g') ?_
    cases r with
    |cl d=>exact q
    |tm d=>exact q
    |nw xs =>
     obtain⟨p,vs',rfl,h1,h2,h3,h4⟩:=q
     rcases h1 with h1 | h1
     ·cases h1
     ·exact⟨p,vs',rfl,h1,h3,h4⟩
    |dn d =>
     obtain⟨B,h1,h2,h3⟩:=q
     exact⟨B,h1,fun b hb=>by rcases (h2 b hb).1 with z | z;cases z;exact z,h3⟩
end DL
namespace DL
open PySem.Spec L2
structure Cal (P:Program) (w:World) (K:zaq9) (mg:Str→Option Value) (base:BHeap) (x:Str) (k:Nat) (G:List D→Option Ev):Prop where
 ex:∃(a:Addr) (fd:FuncData) (ps:List Str),mg x=some (.ref a)∧zav3 K (.ref a)=true∧L2.Binds K fd ps []∧FnOk P w K mg base CX0 k a fd ps (spD K G)
section
variable {X:Cx}{F:List Addr}{a b c:Expr}{es:List Expr}{fa fb fc:DE}{ga:DA}{pos:Pos}
theorem zc3 {k:Nat}{G:List D→Option Ev}{x:Str}{p:Pos} (c:Cal X.prog X.w X.K X.mg X.base x k G) (hr:Room k X.A) (ha:PA X (a::es) (dA X.K F ga)) (hg:Gl X x:=by rfl) (hdb:(x ==("__debug__":Str))=false:=by decide)
  (he:zat2 (a::es) X.env=(false,eval a X.env)::zat2 es X.env:=by rfl) (hpl:(zay7 pos (zat2 es X.env)).any (·.1)=false:=by rfl):PE X (.Call (.Name x p) (a::es) [] pos) (dE X.K F (dT1 (zc4 G) ga)):=by
 obtain⟨f,fd,ps,h1,h2,h3,h4⟩:=c.ex
 exact ped_call h4 hr hg h1 h2 h3 ha hdb he hpl
end
structure Df (K:zaq9) (mg:Str→Option Value) (x:Str) (st:Stmt) (ps:List Str) (a:Addr) (fd:FuncData):Prop where
 fn:L2.Fun K x x st a fd
 mgx:mg x=some (.ref a)
 bd:L2.Binds K fd ps []
theorem Df.cal {P:Program}{w:World}{K:zaq9}{mg:Str→Option Value}{base:BHeap}{x:Str}{st:Stmt}{ps:List Str}{a:Addr}{fd:FuncData}{k:Nat}{G:List D→Option Ev} (d:Df K mg x st ps a fd) (h:FnOk P w K mg base CX0 k a fd ps (spD K G)):Cal P w K mg base x k G :=
 ⟨a,fd,ps,d.mgx,d.fn.kp,d.bd,h⟩
theorem isi_bool {K:zaq9}:IsiOk K "bool":=fun d=>by cases d<;>rfl
theorem zx6 {K:zaq9}:IsiOk K "tuple":=fun d=>by cases d<;>rfl
theorem zaf3 {K:zaq9}:IsiOk K "list":=fun d=>by cases d<;>rfl
theorem bt_bool:bootBuiltins "bool"=some (.type "bool"):=by decide +kernel
theorem zag6:bootBuiltins "tuple"=some (.type "tuple"):=by decide +kernel
theorem zs2:bootBuiltins "list"=some (.type "list"):=by decide +kernel
end DL
namespace DL
open PySem.Spec L2
theorem cut1 {n:Nat}:∀ {us:List Value},us.length=n+1→∃a t,us=a::t∧t.length=n
 |a::t,h=>⟨a,t,rfl,Nat.succ.inj h⟩
theorem zaq1 {K:zaq9}{x qual:Str}{st:Stmt}{f:Addr}{fd:FuncData}{p0:Str} (F:L2.Fun K x qual st f fd) (h:∀(kV doc pm:Value) (an:Option Addr) (cdv ct:Value),∀a0:Value,bindArgs (zav8 x qual (zi4 st) (zf7 st) (zb6 st) .none kV doc pm an cdv ct) ⟨[a0],[]⟩=pure [(p0,a0)]):Binds K fd [p0] [] :=
 F.binds fun kV doc pm an cdv ct u0 h0=>by
  obtain⟨a0,u1,rfl,h1⟩:=cut1 h0
  cases zav9.mp h1
  exact h kV doc pm an cdv ct a0
theorem zag7 {K:zaq9}{x qual:Str}{st:Stmt}{f:Addr}{fd:FuncData}{p0 p1:Str} (F:L2.Fun K x qual st f fd) (h:∀(kV doc pm:Value) (an:Option Addr) (cdv ct:Value),∀a0 a1:Value,bindArgs (zav8 x qual (zi4 st) (zf7 st) (zb6 st) .none kV doc pm an cdv ct) ⟨[a0,a1],[]⟩=pure [(p0,a0),(p1,a1)]):Binds K fd [p0,p1] [] :=
 F.binds fun kV doc pm an cdv ct u0 h0=>by
  obtain⟨a0,u1,rfl,h1⟩:=cut1 h0
  obtain⟨a1,u2,rfl,h2⟩:=cut1 h1
  cases zav9.mp h2
  exact h kV doc pm an cdv ct a0 a1
theorem binds3 {K:zaq9}{x qual:Str}{st:Stmt}{f:Addr}{fd:FuncData}{p0 p1 p2:Str} (F:L2.Fun K x qual st f fd) (h:∀(kV doc pm:Value) (an:Option Addr) (cdv ct:Value),∀a0 a1 a2:Value,bindArgs (zav8 x qual (zi4 st) (zf7 st) (zb6 st) .none kV doc pm an cdv ct) ⟨[a0,a1,a2],[]⟩=pure [(p0,a0),(p1,a1),(p2,a2)]):Binds K fd [p0,p1,p2] [] :=
 F.binds fun kV doc pm an cdv ct u0 h0=>by
  obtain⟨a0,u1,rfl,h1⟩:=cut1 h0
  obtain⟨a1,u2,rfl,h2⟩:=cut1 h1
  obtain⟨a2,u3,rfl,h3⟩:=cut1 h2
  cases zav9.mp h3
  exact h kV doc pm an cdv ct a0 a1 a2
theorem binds4 {K:zaq9}{x qual:Str}{st:Stmt}{f:Addr}{fd:FuncData}{p0 p1 p2 p3:Str} (F:L2.Fun K x qual st f fd) (h:∀(kV doc pm:Value) (an:Option Addr) (cdv ct:Value),∀a0 a1 a2 a3:Value,bindArgs (zav8 x qual (zi4 st) (zf7 st) (zb6 st) .none kV doc pm an cdv ct) ⟨[a0,a1,a2,a3],[]⟩=pure [(p0,a0),(p1,a1),(p2,a2),(p3,a3)]):Binds K fd [p0,p1,p2,p3] [] :=
 F.binds fun kV doc pm an cdv ct u0 h0=>by
  obtain⟨a0,u1,rfl,h1⟩:=cut1 h0
  obtain⟨a1,u2,rfl,h2⟩:=cut1 h1
  obtain⟨a2,u3,rfl,h3⟩:=cut1 h2
  obtain⟨a3,u4,rfl,h4⟩:=cut1 h3
  cases zav9.mp h4
  exact h kV doc pm an cdv ct a0 a1 a2 a3
inductive Hv (K:zaq9) (x:Str) (st:Stmt) (f:Addr):Prop
 |mk {od an:Option Addr}{sl:Array (Option Value)}{oc kV dc pm cd ct:Value} (a:zax8 K mainGlobals x=some (some (.ref f))) (l:K.lookup f=some ⟨oc,od,.func (zav8 x x (zi4 st) (zf7 st) (zb6 st) .none kV dc pm an cd ct),sl⟩) (c:zba8 K cd x=true) (k:zav3 K (.ref f)=true):Hv K x st f
theorem Hv.fn {K:zaq9}{x:Str}{st:Stmt}{f:Addr} (h:Hv K x st f):∃fd,L2.Fun K x x st f fd:=by
 cases h with
 |mk a l c k=>exact⟨_,fun_mk l c k⟩
theorem Hv.mg {K:zaq9}{x:Str}{st:Stmt}{f:Addr}{hp:Heap}{mg:Str→Option Value} (h:Hv K x st f) (X:K.In hp) (G:hp.Ns mainGlobals mg):mg x=some (.ref f):=by
 cases h with
 |mk a l c k=>exact PySem.W.mg_of X G a
theorem zs5 {N P:List Str}{sc:Scope} (h1:sc.kind=.function) (h2:sc.isCoroutine=false) (h3:sc.isGenerator=false) (h5:N.take P.length=P) (h:(decide N.Nodup&&(decide (∀x∈P,sc.names.lookup x=some .local∨sc.names.lookup x=some .cell)&&decide (∀y∈sc.names,y.2≠.free)))=true):FnScope N P sc:=by
 rw [zar9,zar9,decide_eq_true_eq,decide_eq_true_eq,decide_eq_true_eq]at h
 exact⟨h1,h2,h3,h.1,h5,h.2.1,h.2.2⟩
theorem Hv.bt {K:zaq9}{x:Str}{st:Stmt}{f:Addr}{fd:FuncData}{p:Str} (F:L2.Fun K x x st f fd) (h:∀(kV doc pm:Value) (an:Option Addr) (cdv ct:Value) (v:Value),bindArgs (zav8 x x (zi4 st) (zf7 st) (zb6 st) .none kV doc pm an cdv ct) ⟨[v],[]⟩=pure [(p,v)]) (s:zas4) (v:Value):BindsTo s fd ⟨[v],[]⟩ [(p,v)]:=by
 obtain⟨oc,od,kV,doc,pm,an,cdv,ct,osl,rfl,lk,hcd⟩:=F.ex
 exact .of_eq (h ..)
def locB (sc:Scope) (x:Str):Bool:=match sc.names.lookup x with
 |some .local=>true
 |some .cell=>true
 |_=>false
theorem zb2 {sc:Scope}{x:Str} (h:locB sc x=true):L2.Loc sc x:=by
 unfold locB at h
 unfold L2.Loc
 cases e:sc.names.lookup x with
 |none=>rw [e]at h;cases h
 |some k=>rw [e]at h;cases k<;>first | exact .inl rfl | exact .inr rfl | cases h
end DL
namespace L2
open PySem.Spec
noncomputable def clOf (cells:List (Str×Addr)):List (Str×NameKind)→List (Str×Addr)→List (Str×Addr)
 |[],acc=>acc
 |(n,k)::r,acc=>if k == .free then clOf cells r ((n,(cells.lookup n).getD 0)::acc) else clOf cells r acc
theorem zm5 {cells:List (Str×Addr)}:∀ {names:List (Str×NameKind)}{acc:List (Str×Addr)}{x:Str}{c:Addr},(∀y∈names,y.2=.free→∃c,cells.lookup y.1=some c)→(clOf cells names acc).lookup x=some c→acc.lookup x=some c∨cells.lookup x=some c
 |[],acc,x,c,_,h=>.inl h
 |(n,k)::r,acc,x,c,hy,h=>by
  unfold clOf at h
  have hr:∀y∈r,y.2=.free→∃c,cells.lookup y.1=some c:=fun y h1=>hy y (zar1 _ h1)
  split at h
  ·rename_i hk
   rcases zm5 hr h with z | z
   ·rw [zau1]at z
    split at z
    ·rename_i e
     have e:x=n:=by simpa using e
     obtain⟨c',hc'⟩:=hy (n,k) (zar4 ..) (by simpa using hk)
     simp only [hc',zay9]at z
     cases z
     rw [e];exact .inr hc'
    ·exact .inl z
   ·exact .inr z
  ·exact zm5 hr h
theorem zs1 {cells:List (Str×Addr)}:∀ {names:List (Str×NameKind)}{acc:List (Str×Addr)}{x:Str},(∃c,acc.lookup x=some c)→∃c,(clOf cells names acc).lookup x=some c
 |[],acc,x,h=>h
 |(n,k)::r,acc,x,h=>by
  unfold clOf
  split
  ·refine zs1 ?_
   rw [zau1]
   split
   ·exact⟨_,rfl⟩
   ·exact h
  ·exact zs1 h
theorem zp9 {cells:List (Str×Addr)}:∀ {names:List (Str×NameKind)}{acc:List (Str×Addr)}{x:Str},(x,NameKind.free)∈names→∃c,(clOf cells names acc).lookup x=some c
 |(n,k)::r,acc,x,h=>by
  unfold clOf
  rcases zar8.mp h with z | z
  ·cases z
   rw [if_pos (by rfl)]
   refine zs1 ⟨(cells.lookup n).getD 0,?_⟩
   simp [zau1]
  ·split
   ·exact zp9 z
   ·exact zp9 z
theorem zo6 {scope:Scope}{env:Env} (h:∀y∈scope.names,y.2=.free→∃c,env.cells.lookup y.1=some c):closureFor scope env=pure (clOf env.cells scope.names []):=by
 unfold closureFor
 have key:∀(names:List (Str×NameKind)) (acc:List (Str×Addr)),(∀y∈names,y.2=.free→∃c,env.cells.lookup y.1=some c) →
   (forIn names acc fun (x:Str×NameKind) (cs:List (Str×Addr))=>(do
    if x.2 == .free then
     let a ← cellOf env x.1
     pure (ForInStep.yield ((x.1,a)::cs))
    else pure (ForInStep.yield cs):Sem (ForInStep (List (Str×Addr)))))=pure (clOf env.cells names acc):=by
  intro names
  induction names with
  |nil=>intro acc _;rfl
  |cons y r ih =>
   intro acc hy
   obtain⟨n,k⟩:=y
   have hr:∀y∈r,y.2=.free→∃c,env.cells.lookup y.1=some c:=fun y h1=>hy y (zar1 _ h1)
   rw [List.forIn_cons]
   unfold clOf
   by_cases hk:(k == NameKind.free)=true
   ·obtain⟨c,hc⟩:=hy (n,k) (zar4 ..) (by simpa using hk)
    have hc':cellOf env n=pure c:=by unfold cellOf;rw [hc]
    simp only [hk,if_true,hc']
    rw [← ih _ hr]
    simp only [hc,zay9]
    rfl
   ·have hk':(k == NameKind.free)=false:=by simpa using hk
    simp only [hk',zba4,if_false]
    rw [← ih _ hr]
    rfl
 have:=key scope.names [] h
 simp only [bind_pure_comp]at this ⊢
 rw [this]
 rfl
theorem ze3 {env:Env}:∀ {names:List (Str×NameKind)}{x:Str}{k':NameKind},(names.map fun (n,k)=>if (k == NameKind.free&&env.scope.kind == .function&&env.kindOf n == some .cell) then (n,NameKind.cell) else (n,k)).lookup x=some k' →
  ∃k,(x,k)∈names∧(k'=k∨(k=.free∧k'=.cell))
 |[],x,k',h=>by simp at h
 |(n,k)::r,x,k',h=>by
  rw [zas1]at h
  by_cases hc:(k == NameKind.free&&env.scope.kind == .function&&env.kindOf n == some .cell)=true
  ·simp only [hc,if_true,zau1]at h
   split at h
   ·rename_i e
    have e:x=n:=by simpa using e
    cases h
    simp only [zar9,beq_iff_eq]at hc
    have hk:k=.free:=by simpa using hc.1.1
    exact⟨k,by rw [e];exact zar4 ..,.inr ⟨hk,rfl⟩⟩
   ·obtain⟨q,a,b⟩:=ze3 h
    exact⟨q,zar1 _ a,b⟩
  ·have hc':(k == NameKind.free&&env.scope.kind == .function&&env.kindOf n == some .cell)=false:=by simpa using hc
   simp only [hc',zba4,if_false,zau1]at h
   split at h
   ·rename_i e
    have e:x=n:=by simpa using e
    cases h
    exact⟨_,by rw [e];exact zar4 ..,.inl rfl⟩
   ·obtain⟨q,a,b⟩:=ze3 h
    exact⟨q,zar1 _ a,b⟩
theorem zp0 {prog:Program}{w:World}{A:Around}{R:Result→zas4→Prop}{s:zas4}{elt target iter:Expr}{ifs:List Expr}{scope:Scope}{pos:Pos}{it acc:Value}{env:Env} (I:Nat→zas4→Prop)
  (turn:∀n s,I n s→wpAny (model prog w) A (pyNext it) (fun r s₁=>match r with
   |none=>R (.ok .next) s₁
   |some v=>wpAny (model prog w) A (letOwnedTupleGo target it v) (fun _ s₁'=>wpAny (model prog w) A (assign target env v) (fun _ s₂ =>
     wpAny (model prog w) A (forIn ifs true fun c r=>if r=true then do let ok ← isTrue c env (eval c env);pure (ForInStep.yield ok) else pure (ForInStep.yield r)) (fun ok s₃ =>
      if ok=true then wpAny (model prog w) A (eval elt env) (fun x s₄ =>
       wpAny (model prog w) A (call (.builtin "list.append") [acc,x]) (fun _ s₅ => ∃m,m<n∧I m s₅) (fun _ _=>False) s₄) (fun _ _=>False) s₃
      else ∃m,m<n∧I m s₃) (fun _ _=>False) s₂) (fun _ _=>False) s₁') (fun _ _=>False) s₁) (fun _ _=>False) s)
  (n:Nat) (h:I n s):codeAny (model prog w) A (.compLoop (.ListComp elt [⟨target,iter,ifs,0⟩] scope pos) 0 it acc env) R s:=by
 refine codeAny_loop rfl I (fun n s hI=>?_) n h
 show wpAny _ A ((compTurn (.ListComp elt [⟨target,iter,ifs,0⟩] scope pos) 0 it acc env).onRaise (fun x=>do noteFrame x env;theTreesLotGoes x)) _ _ s
 refine wpAny_noted ?_
 rw [compTurn_list]
 refine zas0 (wpAny_standAt (zas0 (wpAny_mono (turn n s hI) (fun r s₁ h₁=>?_) fun _ _ h'=>h'.elim)))
 cases r with
 |none=>exact zat9 h₁
 |some v =>
  refine zas0 (wpAny_mono h₁ (fun _ s₁' h₁'=>?_) fun _ _ h'=>h'.elim)
  refine zas0 (wpAny_mono h₁' (fun _ s₂ h₂=>zas0 (wpAny_mono h₂ (fun ok s₃ h₃=>?_) fun _ _ h'=>h'.elim)) fun _ _ h'=>h'.elim)
  cases ok with
  |false=>exact zat9 ⟨rfl,h₃⟩
  |true =>
   exact zas0 (zas0 (wpAny_mono h₃ (fun x s₄ h₄=>zas0 (wpAny_mono h₄ (fun _ s₅ h₅=>zat9 (zat9 ⟨rfl,h₅⟩)) fun _ _ h'=>h'.elim)) fun _ _ h'=>h'.elim))
theorem zv2 {x:Str}{c:Addr}:∀ {names:List (Str×NameKind)}{n:Nat}{acc:List (Str×Addr)},(cellsFrom n names acc).lookup x=some c→acc.lookup x=some c∨n≤c
 |[],n,acc,h=>.inl h
 |(y,k)::r,n,acc,h=>by
  unfold cellsFrom at h
  split at h
  ·rcases zv2 h with z | z
   ·rw [zau1]at z
    split at z
    ·cases z;exact .inr (zat4 _)
    ·exact .inl z
   ·exact .inr (by lia)
  ·exact zv2 h
theorem zag4 {x:Str}:∀ {names:List (Str×NameKind)}{n:Nat}{acc:List (Str×Addr)},(∃c,acc.lookup x=some c)→∃c,(cellsFrom n names acc).lookup x=some c
 |[],n,acc,h=>h
 |(y,k)::r,n,acc,h=>by
  unfold cellsFrom
  split
  ·refine zag4 ?_
   rw [zau1]
   split
   ·exact⟨_,rfl⟩
   ·exact h
  ·exact zag4 h
theorem zac2 {x:Str}:∀ {names:List (Str×NameKind)}{n:Nat}{acc:List (Str×Addr)},(x,NameKind.cell)∈names→∃c,(cellsFrom n names acc).lookup x=some c
 |(y,k)::r,n,acc,h=>by
  unfold cellsFrom
  rcases zar8.mp h with z | z
  ·cases z
   rw [if_pos (by rfl)]
   exact zag4 ⟨n,by simp [zau1]⟩
  ·split
   ·exact zac2 z
   ·exact zac2 z
theorem cf_ge {x:Str}{c:Addr}{lo:Nat}:∀ {names:List (Str×NameKind)}{n:Nat}{acc:List (Str×Addr)},lo≤n→(∀c,acc.lookup x=some c→lo≤c)→(cellsFrom n names acc).lookup x=some c→lo≤c
 |[],n,acc,_,ha,h=>ha c h
 |(y,k)::r,n,acc,hn,ha,h=>by
  unfold cellsFrom at h
  split at h
  ·refine cf_ge (n:=n+1) (by lia) (fun c' h'=>?_) h
   rw [zau1]at h'
   split at h'
   ·cases h';exact hn
   ·exact ha c' h'
  ·exact cf_ge hn ha h
theorem zap8 {x:Str}{c:Addr}:∀ {names:List (Str×NameKind)}{n:Nat}{acc:List (Str×Addr)},(x,NameKind.cell)∈names→(cellsFrom n names acc).lookup x=some c→n≤c
 |(y,k)::r,n,acc,hm,h=>by
  unfold cellsFrom at h
  rcases zar8.mp hm with z | z
  ·cases z
   rw [if_pos (by rfl)]at h
   refine cf_ge (lo:=n) (n:=n+1) (by lia) (fun c' h'=>?_) h
   rw [zau1,beq_self_eq_true]at h'
   cases h'
   exact zat4 _
  ·split at h
   ·have:=zap8 z h;lia
   ·exact zap8 z h
theorem zap7 {x:Str}:∀ {names:List (Str×NameKind)}{n:Nat}{acc:List (Str×Addr)},(x,NameKind.cell)∉names→(cellsFrom n names acc).lookup x=acc.lookup x
 |[],n,acc,_=>rfl
 |(y,k)::r,n,acc,h=>by
  have hr:(x,NameKind.cell)∉r:=fun z=>h (zar1 _ z)
  unfold cellsFrom
  split
  ·rename_i hk
   rw [zap7 hr,zau1]
   split
   ·rename_i e
    exact absurd (zar8.mpr (.inl (by rw [show x=y by simpa using e,show k=NameKind.cell by simpa using hk]))) h
   ·rfl
  ·exact zap7 hr
theorem zap9:∀ {names:List (Str×NameKind)}{n:Nat}{acc:List (Str×Addr)},(∀x c,acc.lookup x=some c→c<n)→(∀x y c,acc.lookup x=some c→acc.lookup y=some c→x=y) →
  ∀x y c,(cellsFrom n names acc).lookup x=some c→(cellsFrom n names acc).lookup y=some c→x=y
 |[],n,acc,_,hi=>hi
 |(z,k)::r,n,acc,hb,hi=>by
  unfold cellsFrom
  split
  ·refine zap9 (n:=n+1) (fun x c h=>?_) (fun x y c h1 h2=>?_)
   ·rw [zau1]at h
    split at h
    ·cases h;exact zav5 _
    ·exact zay5 (hb x c h)
   ·rw [zau1]at h1 h2
    split at h1
    ·rename_i e1
     cases h1
     split at h2
     ·rename_i e2;rw [show x=z by simpa using e1,show y=z by simpa using e2]
     ·exact absurd (hb y _ h2) (zax5 _)
    ·split at h2
     ·cases h2;exact absurd (hb x _ h1) (zax5 _)
     ·exact hi x y c h1 h2
  ·exact zap9 hb hi
theorem zac3 {x:Str}{c:Addr}:∀ {names:List (Str×NameKind)}{h:Heap}{acc:List (Str×Addr)},(∀c,acc.lookup x=some c→∃v,h.IsCell c v)→(cellsFrom h.objs.size names acc).lookup x=some c→∃v,(pushCells h names).IsCell c v
 |[],h,acc,ha,e=>ha c e
 |(y,k)::r,h,acc,ha,e=>by
  unfold cellsFrom at e
  unfold pushCells
  split at e
  ·rename_i hk
   rw [if_pos hk]
   rw [show h.objs.size+1=(h.push { cls:=.type "cell",data:=.cell none }).objs.size from (zaz0 ..).symm]at e
   refine zac3 (fun c' e'=>?_) e
   rw [zau1]at e'
   split at e'
   ·cases e';exact⟨none,_,zav0 _ rfl,rfl⟩
   ·obtain⟨v,z⟩:=ha c' e'
    exact⟨v,z.keeps fun b o q=>zas3 _ q⟩
  ·rename_i hk
   rw [if_neg hk]
   exact zac3 ha e
theorem zh8 {M:Model}{A:Around}{E:Value→zas4→Prop}{s:zas4}{scope:Scope}{globals:Addr}{cl:List (Str×Addr)}{qual:Str}{func:Option Addr}{code:Value}{env:Env}{builtins:Addr}{Q:Env→zas4→Prop}
  (hQ:∀h',h'.Ns s.heap.objs.size (fun _=>none)→(∀b o,s.heap.get? b=some o→h'.get? b=some o)→(∀x c,(∀c,cl.lookup x=some c→∃v,s.heap.IsCell c v)→(cellsFrom (s.heap.objs.size+1) scope.names cl).lookup x=some c→∃v,h'.IsCell c v) →
   Q (newEnv scope s.heap.objs.size globals (cellsFrom (s.heap.objs.size+1) scope.names cl) qual func code (some env) builtins) { s with heap:=h',toks:=s.toks }) :
  wpAny M A (newFunctionEnv scope globals cl [] qual func code (some env) builtins) Q E s:=by
 simp only [newFunctionEnv,zbd8,if_true]
 refine zas0 (wpAny_alloc ?_)
 refine zas0 (wpAny_layCells _ (fun name kind cells=>by cases hkc:kind == NameKind.cell<;>simp [hkc]) _ _ _ _ ?_)
 have sz:(s.heap.push { cls:=.type "dict",data:=.dict #[] }).objs.size=s.heap.objs.size+1:=zaz0 ..
 rw [show ({ s with heap:=s.heap.push { cls:=.type "dict",data:=.dict #[] } }:zas4).heap.objs.size=s.heap.objs.size+1 from sz]
 rw [List.forIn_nil]
 refine zas0 (zat9 (zat9 ?_))
 refine hQ _ ((Heap.Ns.new s.heap (.type "dict")).keeps (pushCells_keeps _ _)) (fun b o e=>pushCells_keeps _ _ b o (zas3 _ e)) fun x c ha e=>?_
 rw [← sz]at e
 exact zac3 (fun c' e'=>let ⟨v,z⟩:=ha c' e';⟨v,z.keeps fun b o q=>zas3 _ q⟩) e
noncomputable abbrev blk (X:Cx) (N':List Str) (scope:Scope) (C:Addr) (s₃:zas4) (H₃:Hp) (fp:List Addr) (pins:List (Addr×Obj)):Cx :=
 { X with N:=N',s₀:=s₃,H₀:=H₃,env:=compEnvC scope (cellsFrom (C+1) scope.names (clOf X.env.cells scope.names [])) C X.env,outer:=X.stack,stack:=X.stack,ex:=fp,fn:=fun x=>scope.names.lookup x == some .cell,calm:=true,pn:=X.pn++pins,xe:=fun _ _=>False }
structure CompSc (X:Cx) (scope:Scope):Prop where
 kind:scope.kind=.function
 free:∀y∈scope.names,y.2=.free→X.env.kindOf y.1=some .cell∨X.env.kindOf y.1=some .free
 names:∀y∈scope.names,scope.names.lookup y.1=some y.2
section
variable {X:Cx}{pins:List (Addr×Obj)}{σ:L2.St}{H:Hp}{s:zas4}{scope:Scope}{N':List Str}{fp:List Addr}
theorem CompSc.frees (S:CompSc X scope) (ok:X.Ok):∀y∈scope.names,y.2=.free→∃c,X.env.cells.lookup y.1=some c:=fun y hy hf=>ok.has y.1 (S.free y hy hf)
theorem CompSc.cells (S:CompSc X scope) (ok:X.Ok) {x:Str}{c:Addr} (h:(clOf X.env.cells scope.names []).lookup x=some c):X.env.cells.lookup x=some c:=by
 rcases zm5 (S.frees ok) h with z | z
 ·simp at z
 ·exact z
theorem CompSc.nc (S:CompSc X scope) {x:Str} (h:(x,NameKind.free)∈scope.names):(x,NameKind.cell)∉scope.names:=fun z=>by
 have w1:=S.names _ h
 have w2:=S.names _ z
 rw [show (x,NameKind.cell).1=(x,NameKind.free).1 from rfl,w1]at w2
 cases w2
theorem CompSc.cls (S:CompSc X scope) (I:Inv X pins σ H s) {x:Str}{c:Addr} (h:(clOf X.env.cells scope.names []).lookup x=some c):c<s.heap.objs.size:=by
 obtain⟨v,o,ho,_⟩:=I.cell x c (S.cells I.ok h)
 exact zat1 ho
theorem CompSc.old (S:CompSc X scope) (I:Inv X pins σ H s) {x:Str}{c:Addr} (h:(cellsFrom (s.heap.objs.size+1) scope.names (clOf X.env.cells scope.names [])).lookup x=some c):X.env.cells.lookup x=some c∨s.heap.objs.size<c:=by
 rcases zv2 h with z | z
 ·exact .inl (S.cells I.ok z)
 ·exact .inr z
theorem blk_ok (I:Inv X pins σ H s) (S:CompSc X scope) (hc:X.calm=true) (hf:∀b∈fp,FpOk X pins H b) (hlt:∀b∈fp,b<s.heap.objs.size):(blk X N' scope s.heap.objs.size s H fp pins).Ok where
 mod:=I.ok.mod
 kind:=S.kind
 glob:=I.ok.glob
 blt:=I.ok.blt
 above:=zat4 _
 inj:=zap9 (fun x c h=>zay5 (S.cls I h)) fun x y c h1 h2=>I.ok.inj x y c (S.cells I.ok h1) (S.cells I.ok h2)
 has:=fun x hx=>by
  have hx:(relabel scope X.env).names.lookup x=some .cell∨(relabel scope X.env).names.lookup x=some .free:=hx
  have:(x,NameKind.free)∈scope.names∨(x,NameKind.cell)∈scope.names:=by
   rcases hx with hx | hx
   ·obtain⟨k,a,b⟩:=ze3 hx
    rcases b with b | b
    ·rw [← b]at a;exact .inr a
    ·rw [b.1]at a;exact .inl a
   ·obtain⟨k,a,b⟩:=ze3 hx
    rcases b with b | b
    ·rw [← b]at a;exact .inl a
    ·cases b.2
  rcases this with z | z
  ·exact zag4 (zp9 z)
  ·exact zac2 z
 cab:=fun x c h e=>by
  have h:(scope.names.lookup x == some NameKind.cell)=true:=h
  have h:scope.names.lookup x=some .cell:=by simpa using h
  exact Nat.le_of_succ_le (zap8 (PySem.mem_of_lookup h) e)
 hd:=fun _=>I.ok.hd hc
 frames:=I.ok.frames
 stk:=.inl rfl
 exf:=fun b hb=>⟨zau2 (hlt b hb),fun x c h=>by
  rcases S.old I h with z | z
  ·exact (hf b hb).2.2.2.2.1 x c z
  ·exact zba7 (zba9 (hlt b hb) z)⟩
 bs:=fun b o e=>I.bs b o e
 bsz:=zaw5 I.ok.bsz I.sz
 noex:=fun b o e hb=>by
  rcases (hf b hb).2.2.2.1 with z | z
  ·exact I.ok.noex b o e z
  ·exact absurd (zas5 (zat1 e) (zaw5 I.ok.bsz z)) (zax5 _)
 exfs:=fun b hb z=>(zar8.mp (I.stkSub b z)).elim (hf b hb).2.1 (hf b hb).2.2.1
 funs:=I.stack
 frf:=I.stkFree
 tabs:=fun p hp=>I.base.tbls _ _ (I.ok.tabs p hp)
theorem zac7 (I:Inv X pins σ H s) (S:CompSc X scope) (hc:X.calm=true) (hf:∀b∈fp,FpOk X pins H b) (hlt:∀b∈fp,b<s.heap.objs.size) {h1:Heap}{t1:Nat}{m:Str→Option Value}{σ':L2.St}
  (hns:h1.Ns s.heap.objs.size m) (hk:∀b o,s.heap.get? b=some o→h1.get? b=some o) (hcl:∀x c,(∀c,(clOf X.env.cells scope.names []).lookup x=some c→∃v,s.heap.IsCell c v)→(cellsFrom (s.heap.objs.size+1) scope.names (clOf X.env.cells scope.names [])).lookup x=some c→∃v,h1.IsCell c v) (hl:σ'.length=N'.length)
  (cap:∀(i:Nat) (x:Str) (v:V),N'[i]?=some x→σ'[i]?=some (some v)→(x,NameKind.free)∈scope.names∧∃j:Nat,X.N[j]?=some x∧σ[j]?=some (some v)) :
  Inv (blk X N' scope s.heap.objs.size s H fp pins) [] σ' H { s with heap:=h1,toks:=t1 } where
 ok:=blk_ok I S hc hf hlt
 os:=rfl
 bare:=I.bare
 base:=Un.kept hk
 loc:=⟨m,hns,fun i x v e1 e2 vs=>by
  obtain⟨hfree,j,j1,j2⟩:=cap i x v e1 e2
  obtain⟨m0,hn0,hl0⟩:=I.loc
  have vis:Vis X.env.scope x:=by
   rcases S.free _ hfree rfl with z | z
   ·exact .inr (.inl z)
   ·exact .inr (.inr z)
  obtain⟨u,r,l⟩:=hl0 j x v j1 j2 vis
  refine⟨u,r,?_⟩
  rcases l with ⟨k,_⟩ | ⟨k,c,e,z⟩
  ·exfalso
   rcases S.free _ hfree rfl with q | q
   ·rw [k]at q;cases q
   ·rw [k]at q;cases q
  ·obtain⟨c',hc'⟩:=zp9 (cells:=X.env.cells) (acc:=[]) hfree
   have e':=S.cells I.ok hc'
   rw [e]at e';cases e'
   refine .inr ⟨?_,c,by rw [show (blk X N' scope s.heap.objs.size s H fp pins).env.cells.lookup x=_ from zap7 (S.nc hfree)];exact hc',?_⟩
   ·have vs:(relabel scope X.env).names.lookup x=some .local∨(relabel scope X.env).names.lookup x=some .cell∨(relabel scope X.env).names.lookup x=some .free:=vs
    rcases vs with q | q
    ·obtain⟨k2,a,b⟩:=ze3 q
     rcases b with b | b
     ·rw [← b]at a
      have w1:=S.names _ a
      have w2:=S.names _ hfree
      rw [show (x,NameKind.local).1=(x,NameKind.free).1 from rfl,w2]at w1
      cases w1
     ·cases b.2
    ·exact q
   ·obtain⟨o,ho,hd⟩:=z
    exact⟨o,hk _ _ ho,hd⟩⟩
 cell:=fun x c h=>hcl x c (fun c' h'=>I.cell x c' (S.cells I.ok h')) h
 free:=I.hok.fresh (zat4 _)
 freeC:=fun x c h=>by
  rcases S.old I h with z | z
  ·exact I.freeC x c z
  ·exact I.hok.fresh (zba6 z)
 pin:=fun p hp=>by
  have hp:p∈(X.pn++pins)++[]:=hp
  rw [zau6]at hp
  obtain⟨a,b,c,d,e⟩:=I.pin p hp
  exact⟨hk _ _ a,b,zau2 (zat1 a),fun z=>(zar8.mp (I.stkSub _ z)).elim c d,e⟩
 hok:=I.hok.kept hk
 len:=hl
theorem zv3 {H3 H':Hp}{s':zas4}{h'':Heap}{σ':L2.St}{C:Addr}{pins':List (Addr×Obj)} (I:Inv X pins σ H3 s) (hf:∀b∈fp,FpOk X pins H3 b) (hC:C=s.heap.objs.size) (I':Inv (blk X N' scope C s H3 fp pins) pins' σ' H' s') (hb:Heap.SameBut C s'.heap h''):Inv X pins σ H' { s' with heap:=h'' }:=by
 subst hC
 have bs:Un (frs X.stack) fp H3 H' s.heap s'.heap:=I'.base
 have nC:∀b o,s.heap.get? b=some o→b≠s.heap.objs.size:=fun b o e=>zau2 (zat1 e)
 have tr:∀b,b≠s.heap.objs.size→h''.get? b=s'.heap.get? b:=fun b n=>hb.2 b n
 have u:Un (frs X.stack) fp H3 H' s.heap h'' :=
  ⟨fun b o e n h1 h2=>(tr b (nC b o e)).trans (bs.keep b o e n h1 h2),fun b o e n h1 h2=>by obtain⟨sl,q⟩:=bs.slot b o e n h1 h2;exact⟨sl,(tr b (nC b o e)).trans q⟩,bs.free,
   fun b o e h1=>by obtain⟨o',q⟩:=bs.there b o e h1;exact⟨o',(tr b (nC b o e)).trans q⟩,bs.tups,bs.frzs,bs.tbls⟩
 have cf:H' s.heap.objs.size=none:=I'.free
 have hok:HOk X.prog X.w H' h'':=fun b o e=>by
  have nb:b≠s.heap.objs.size:=fun z=>by rw [z,cf]at e;cases e
  refine (I'.hok b o e).stay (fun c v hc q=>(tr c ?_).trans q) (fun _ q=>q) (fun _ _ q=>q) fun _ _ _ q=>q
  rcases hc with w | w
  ·rw [w];exact nb
  ·exact fun z=>by rw [z,cf]at w;cases w
 obtain⟨h0,g0,d0,t0,o0⟩:=s'
 have e:o0=s.os:=I'.os
 subst e
 exact I.call (g':=g0) (t':=t0) (d':=d0) u hok I'.bare fun b hb'=>by
  obtain⟨f0,f1,f2,f3,f4,f5⟩:=hf b hb'
  exact⟨f3,f1,f4,f5⟩
end
end L2
namespace L2
open PySem.Spec
noncomputable def PTs (Y:Cx) (ifs:List Expr) (t:TT):Prop :=
 ∀(pins:List (Addr×Obj)) (s:zas4) (σ:L2.St) (H:Hp) (Q:Bool→Hp→Prop),Inv Y pins σ H s→t σ H Q →
  wpAny (model Y.prog Y.w) Y.A (forIn ifs true fun c r=>if r=true then do let ok ← isTrue c Y.env (eval c Y.env);pure (ForInStep.yield ok) else pure (ForInStep.yield r)) (TP Y pins σ Q) Y.xe s
theorem pts_nil {Y:Cx}:PTs Y [] (fun _ H Q=>Q true H):=fun pins s σ H Q I h=>wpAny_tests_nil ⟨H,I,h⟩
theorem pts_one {Y:Cx}{c:Expr}{t:TT} (h:PT Y c t):PTs Y [c] t:=fun pins s σ H Q I q=>wpAny_tests_one (h pins s σ H Q I q)
def capV (n:Nat) (cap:List Nat) (σ:L2.St):L2.St:=zar6 n none++cap.map fun j=>(σ[j]?).getD none
noncomputable def zz9 (n:Nat) (cap:List Nat) (wi:TI) (g:TG) (tt:TT) (te:TE):TE:=fun σ H Q=>wi σ H fun J H1 => ∀D,H1 D=none→∃W:Nat→Nat→L2.St→Hp→Prop,(∃m,W 0 m (capV n cap σ) (upd H1 D (.lst [])))∧∀i m σ' H',W i m σ' H' →
 (J.stop i H'∧Q (.ref D) H')∨(J.go i H'∧∃N:L2.St→Hp→Prop,(∀σ'' H'',N σ'' H''→∃m',m' < m∧W (i+1) m' σ'' H'')∧∀x H2,J.yld i H' x H2→g x σ' H2 fun σ2 H3=>tt σ2 H3 fun b H4 =>
  if b=true then te σ2 H4 fun v H5 => ∃vs,H5 D=some (.lst vs)∧vs.length<sizeLine∧N σ2 (upd H5 D (.lst (vs++[v]))) else N σ2 H4)
theorem pe_comp {X:Cx}{elt tg iter:Expr}{ifs:List Expr}{scope:Scope}{pos:Pos}{n:Nat}{cap:List Nat}{N':List Str}{wi:TI}{g:TG}{tt:TT}{te:TE} (S:CompSc X scope) (hc:X.calm=true) (hi:PI X tg iter wi)
  (hN:N'.length=n+cap.length) (hcap:∀(k:Nat) (j:Nat),cap[k]?=some j→∃x,N'[n+k]?=some x∧X.N[j]?=some x∧(x,NameKind.free)∈scope.names)
  (hg:∀C s₃ H₃ fp pins,PG (blk X N' scope C s₃ H₃ fp pins) tg g) (ht:∀C s₃ H₃ fp pins,PTs (blk X N' scope C s₃ H₃ fp pins) ifs tt) (he:∀C s₃ H₃ fp pins,PE (blk X N' scope C s₃ H₃ fp pins) elt te)
  (hs:∀x,foldedSetIterable iter X.env x=pure x:=by intro _;rfl):PE X (.ListComp elt [⟨tg,iter,ifs,0⟩] scope pos) (zz9 n cap wi g tt te):=by
 intro pins s σ H Q I h
 rw [eval_ListComp]
 refine wpAny_comprehension_free (use:=none) rfl hs (zo6 (S.frees I.ok)) S.kind (fun x hx hl=>by rw [S.names x hx,hl]) (thn (hi pins s σ H _ I h) fun v s1 h1=>thn h1 fun itv s2 h2=>?_)
 obtain⟨it,fp,tn,J,H2,e,I2,T,st2,f2,R⟩:=h2
 subst e
 have lt2:∀b∈fp,b<s2.heap.objs.size:=fun b hb=>by obtain⟨o,e,_⟩:=T.obj _ _ st2 b hb;exact zat1 e
 have hD:H2 s2.heap.objs.size=none:=I2.fresh
 obtain⟨W,⟨m0,w0⟩,turn⟩:=R s2.heap.objs.size hD
 have I3:Inv X pins σ (upd H2 s2.heap.objs.size (.lst [])) { s2 with heap:=s2.heap.push { cls:=.type "list",data:=.seq ([]:List Value).toArray },toks:=s2.toks }:=I2.lnew (t':=s2.toks) .nil (by simp)
 have f3:∀b∈fp,FpOk X pins (upd H2 s2.heap.objs.size (.lst [])) b:=fun b hb=>⟨by rw [zb4 (zau2 (lt2 b hb))];exact (f2 b hb).1,(f2 b hb).2⟩
 refine wpAny_newObj_type (zh8 fun h₁ hns₁ hk hcl₁=>?_)
 have lt3:∀b∈fp,b<(s2.heap.push { cls:=.type "list",data:=.seq ([]:List Value).toArray }).objs.size:=fun b hb=>by rw [zaz0];exact zay5 (lt2 b hb)
 have I4:Inv (blk X N' scope (s2.heap.push { cls:=.type "list",data:=.seq ([]:List Value).toArray }).objs.size { s2 with heap:=s2.heap.push { cls:=.type "list",data:=.seq ([]:List Value).toArray },toks:=s2.toks } (upd H2 s2.heap.objs.size (.lst [])) fp pins) [] (capV n cap σ) (upd H2 s2.heap.objs.size (.lst [])) { s2 with heap:=h₁,toks:=s2.toks } :=
  zac7 I3 S hc f3 lt3 (t1:=s2.toks) hns₁ hk hcl₁ (by simp [capV,hN]) (fun i x v e1 e2=>by
   unfold capV at e2
   by_cases hi:i<n
   ·rw [zaw9 (by simpa using hi),zat8]at e2
    split at e2<;>cases e2
   ·rw [zaw7 (by simpa using hi),zay1,zat7]at e2
    cases ej:cap[i - n]? with
    |none=>rw [ej]at e2;cases e2
    |some j =>
     rw [ej]at e2
     obtain⟨x',a1,a2,a3⟩:=hcap (i - n) j ej
     have:n+(i - n)=i:=by lia
     rw [this,e1]at a1
     cases a1
     refine⟨a3,j,a2,?_⟩
     have e2:(σ[j]?).getD none=some v:=by simpa using e2
     cases q:σ[j]? with
     |none=>rw [q]at e2;cases e2
     |some z=>rw [q]at e2;have:z=some v:=e2;rw [this])
 have loop:codeAny (model X.prog X.w) X.A (.compLoop (.ListComp elt [⟨tg,iter,ifs,0⟩] scope pos) 0 (.ref it) (.ref s2.heap.objs.size) (compEnvC scope (cellsFrom ((s2.heap.push { cls:=.type "list",data:=.seq ([]:List Value).toArray }).objs.size+1) scope.names (clOf X.env.cells scope.names [])) (s2.heap.push { cls:=.type "list",data:=.seq ([]:List Value).toArray }).objs.size X.env))
   (compPost (model X.prog X.w) X.A X.xe none (EP X pins σ Q) (.ref s2.heap.objs.size) (s2.heap.push { cls:=.type "list",data:=.seq ([]:List Value).toArray }).objs.size) { s2 with heap:=h₁,toks:=s2.toks }:=by
  generalize hY:(blk X N' scope (s2.heap.push { cls:=.type "list",data:=.seq ([]:List Value).toArray }).objs.size { s2 with heap:=s2.heap.push { cls:=.type "list",data:=.seq ([]:List Value).toArray },toks:=s2.toks } (upd H2 s2.heap.objs.size (.lst [])) fp pins)=Y at I4
  have st4:tn 0 h₁:=T.keep _ _ _ st2 fun b hb o e=>hk b o (zas3 _ e)
  have stat:∀ {H':Hp},(∀b∈fp,H' b=none)→∀b∈fp,FpOk Y [] H' b:=fun hn b hb=>by
   subst hY
   obtain⟨f0,f1,f2',f3',f4,f5⟩:=f3 b hb
   exact⟨hn b hb,zau2 (lt3 b hb),fun z=>(zar8.mp (I3.stkSub b z)).elim f1 f2',.inl hb,fun x c e=>(by
    rcases S.old I3 e with z | z
    ·exact f4 x c z
    ·exact zba7 (zba9 (lt3 b hb) z)),fun p hp=>f5 p (by simpa using hp)⟩
  have hgY:PG Y tg g:=hY ▸ hg _ _ _ _ _
  have htY:PTs Y ifs tt:=hY ▸ ht _ _ _ _ _
  have heY:PE Y elt te:=hY ▸ he _ _ _ _ _
  have yp:Y.prog=X.prog:=by subst hY;rfl
  have yw:Y.w=X.w:=by subst hY;rfl
  have yK:Y.K=X.K:=by subst hY;rfl
  have yA:Y.A=X.A:=by subst hY;rfl
  have yc:Y.calm=true:=by subst hY;rfl
  have yx:Y.xe=fun _ _=>False:=by subst hY;rfl
  have ye:Y.env=compEnvC scope (cellsFrom ((s2.heap.push { cls:=.type "list",data:=.seq ([]:List Value).toArray }).objs.size+1) scope.names (clOf X.env.cells scope.names [])) (s2.heap.push { cls:=.type "list",data:=.seq ([]:List Value).toArray }).objs.size X.env:=by subst hY;rfl
  rw [← ye]
  refine zp0 (fun n s' => ∃i σ' H',Inv Y [] σ' H' s'∧tn i s'.heap∧(∀b∈fp,H' b=none)∧W i n σ' H') ?_ m0 ⟨0,_,_,I4,st4,fun b hb=>(f3 b hb).1,w0⟩
  rintro n s3 ⟨i,σ3,H3,I5,st3,fr3,w3⟩
  rcases turn i n σ3 H3 w3 with ⟨stop,qn⟩ | ⟨go,N,hNN,step⟩
  ·have d:=T.done Y yp yw yK yc i [] s3 σ3 H3 (fun _ _=>False) I5 (stat fr3) st3 stop
   rw [yA]at d
   refine thn d fun r s4 ⟨hr,I6⟩=>?_
   subst hr
   obtain⟨m,hm,_⟩:=I6.loc
   rw [ye]at hm
   refine⟨m,hm,fun h' hb=>⟨.ref s2.heap.objs.size,H3,?_,rfl,qn⟩⟩
   subst hY
   exact zv3 I3 f3 rfl I6 hb
  ·have d:=T.item Y yp yw yK yc i [] s3 σ3 H3 (fun _ _=>False) I5 (stat fr3) st3 go
   rw [yA]at d
   refine thn d fun r s4 ⟨u,hr,h4⟩=>?_
   subst hr
   refine thn h4 fun _ s5 ⟨x,H5,I6,r5,y5,st5,fr5⟩=>?_
   have I6':=I6.pinned (stat fr5) (T.obj _ _ st5)
   have a:=hgY _ s5 σ3 H5 x u _ I6' r5 (step x H5 y5)
   rw [yp,yw,yA,yx]at a
   refine thn a fun _ s6 ⟨σ6,H6,I7,q6⟩=>?_
   have b:=htY _ s6 σ6 H6 _ I7 q6
   rw [yp,yw,yA,yx]at b
   refine thn b fun ok s7 ⟨H7,I8,q7⟩=>?_
   have again:∀ {s9:zas4}{H9:Hp},Inv Y ([]++zj9 fp s5.heap) σ6 H9 s9→N σ6 H9→∃m,m<n∧∃i σ' H',Inv Y [] σ' H' s9∧tn i s9.heap∧(∀b∈fp,H' b=none)∧W i m σ' H':=fun {s9 H9} I9 n9=>by
    obtain⟨m',hm,w9⟩:=hNN σ6 H9 n9
    refine⟨m',hm,i+1,σ6,H9,I9.unpinned,T.keep _ _ _ st5 fun b hb o e=>(I9.pin (b,o) (zaq8 _ (zaq8 _ (zd1 hb e)))).1,fun b hb=>?_,w9⟩
    obtain⟨o,e,d⟩:=T.obj _ _ st5 b hb
    exact (I9.pin (b,o) (zaq8 _ (zaq8 _ (zd1 hb e)))).2.1
   cases ok with
   |false=>exact iteF (again I8 (by simpa using q7))
   |true =>
    rw [if_pos rfl]at q7
    refine iteT ?_
    have c:=heY _ s7 σ6 H7 _ I8 q7
    rw [yp,yw,yA,yx]at c
    refine thn c fun z s8 ⟨vz,H8,I9,r9,vs,hv,hl,n9⟩=>?_
    have ap:=zk1 (X:=Y) ([]++zj9 fp s5.heap) s8 σ6 H8 (.ref s2.heap.objs.size) [vz] (.ref s2.heap.objs.size) [z] (fun _ H9=>N σ6 H9) I9 rfl (.cons r9 .nil) ⟨_,vs,vz,rfl,rfl,hv,hl,n9⟩
    rw [yp,yw,yA,yx]at ap
    exact thn ap fun _ s9 ⟨_,H9,I10,_,n10⟩=>again I10 n10
 exact codeAny_compStart_list loop (T.self _ 0 _ _ _ (T.keep _ _ _ st2 fun b hb o e=>hk b o (zas3 _ e)) loop)
theorem ps_compU {X:Cx}{i₀:Nat}{y₀:Str}{py spos:Pos}{elt tg iter:Expr}{ifs:List Expr}{scope:Scope}{pos:Pos}{n:Nat}{cap:List Nat}{N':List Str}{wi:TI}{g:TG}{tt:TT}{te:TE} (S:CompSc X scope) (hc:X.calm=true) (hi:PI X tg iter wi)
  (hN:N'.length=n+cap.length) (hcap:∀(k:Nat) (j:Nat),cap[k]?=some j→∃x,N'[n+k]?=some x∧X.N[j]?=some x∧(x,NameKind.free)∈scope.names)
  (hg:∀C s₃ H₃ fp pins,PG (blk X N' scope C s₃ H₃ fp pins) tg g) (ht:∀C s₃ H₃ fp pins,PTs (blk X N' scope C s₃ H₃ fp pins) ifs tt) (he:∀C s₃ H₃ fp pins,PE (blk X N' scope C s₃ H₃ fp pins) elt te)
  (hNd:X.N.Nodup) (hi₀:X.N[i₀]?=some y₀) (hy:Loc X.env.scope y₀) (hsw:swapsWith (.ListComp elt [⟨tg,iter,ifs,0⟩] scope pos) (some (.Name y₀ py)) spos.line X.env=pure true) (hf:X.fn y₀=true∨X.env.scope.names.lookup y₀=some .local)
  (hs:∀x,foldedSetIterable iter X.env x=pure x:=by intro _;rfl):PS X (.Assign [.Name y₀ py] (.ListComp elt [⟨tg,iter,ifs,0⟩] scope pos) spos) (fun D σ H=>zz9 n cap wi g tt te σ H fun v H1=>D.nx (σ.set i₀ (some v)) H1):=by
 intro pins s σ H Ed I h
 rw [exec_Assign_Name_used y₀ py _ spos hsw]
 refine zas0 (wpAny_standAt (zas0 ?_))
 show wpAny (model X.prog X.w) X.A (comprehension (.ListComp elt [⟨tg,iter,ifs,0⟩] scope pos) scope X.env _ (newList []) false (eval iter X.env) (some (assign (.Name y₀ py) X.env)) >>= fun _=>pure ()) _ _ s
 refine zas0 (thn (Q:=fun _ s'=>SP X pins Ed .next s') ?_ fun _ s' hq=>zat9 (zat9 hq))
 refine wpAny_comprehension_free (use:=some (assign (.Name y₀ py) X.env)) rfl hs (zo6 (S.frees I.ok)) S.kind (fun x hx hl=>by rw [S.names x hx,hl]) (thn (hi pins s σ H _ I h) fun v s1 h1=>thn h1 fun itv s2 h2=>?_)
 obtain⟨it,fp,tn,J,H2,e,I2,T,st2,f2,R⟩:=h2
 subst e
 have lt2:∀b∈fp,b<s2.heap.objs.size:=fun b hb=>by obtain⟨o,e,_⟩:=T.obj _ _ st2 b hb;exact zat1 e
 have hD:H2 s2.heap.objs.size=none:=I2.fresh
 obtain⟨W,⟨m0,w0⟩,turn⟩:=R s2.heap.objs.size hD
 have I3:Inv X pins σ (upd H2 s2.heap.objs.size (.lst [])) { s2 with heap:=s2.heap.push { cls:=.type "list",data:=.seq ([]:List Value).toArray },toks:=s2.toks }:=I2.lnew (t':=s2.toks) .nil (by simp)
 have f3:∀b∈fp,FpOk X pins (upd H2 s2.heap.objs.size (.lst [])) b:=fun b hb=>⟨by rw [zb4 (zau2 (lt2 b hb))];exact (f2 b hb).1,(f2 b hb).2⟩
 refine wpAny_newObj_type (zh8 fun h₁ hns₁ hk hcl₁=>?_)
 have lt3:∀b∈fp,b<(s2.heap.push { cls:=.type "list",data:=.seq ([]:List Value).toArray }).objs.size:=fun b hb=>by rw [zaz0];exact zay5 (lt2 b hb)
 have I4:Inv (blk X N' scope (s2.heap.push { cls:=.type "list",data:=.seq ([]:List Value).toArray }).objs.size { s2 with heap:=s2.heap.push { cls:=.type "list",data:=.seq ([]:List Value).toArray },toks:=s2.toks } (upd H2 s2.heap.objs.size (.lst [])) fp pins) [] (capV n cap σ) (upd H2 s2.heap.objs.size (.lst [])) { s2 with heap:=h₁,toks:=s2.toks } :=
  zac7 I3 S hc f3 lt3 (t1:=s2.toks) hns₁ hk hcl₁ (by simp [capV,hN]) (fun i x v e1 e2=>by
   unfold capV at e2
   by_cases hi:i<n
   ·rw [zaw9 (by simpa using hi),zat8]at e2
    split at e2<;>cases e2
   ·rw [zaw7 (by simpa using hi),zay1,zat7]at e2
    cases ej:cap[i - n]? with
    |none=>rw [ej]at e2;cases e2
    |some j =>
     rw [ej]at e2
     obtain⟨x',a1,a2,a3⟩:=hcap (i - n) j ej
     have:n+(i - n)=i:=by lia
     rw [this,e1]at a1
     cases a1
     refine⟨a3,j,a2,?_⟩
     have e2:(σ[j]?).getD none=some v:=by simpa using e2
     cases q:σ[j]? with
     |none=>rw [q]at e2;cases e2
     |some z=>rw [q]at e2;have:z=some v:=e2;rw [this])
 have loop:codeAny (model X.prog X.w) X.A (.compLoop (.ListComp elt [⟨tg,iter,ifs,0⟩] scope pos) 0 (.ref it) (.ref s2.heap.objs.size) (compEnvC scope (cellsFrom ((s2.heap.push { cls:=.type "list",data:=.seq ([]:List Value).toArray }).objs.size+1) scope.names (clOf X.env.cells scope.names [])) (s2.heap.push { cls:=.type "list",data:=.seq ([]:List Value).toArray }).objs.size X.env))
   (compPost (model X.prog X.w) X.A X.xe (some (assign (.Name y₀ py) X.env)) (fun _ s'=>SP X pins Ed .next s') (.ref s2.heap.objs.size) (s2.heap.push { cls:=.type "list",data:=.seq ([]:List Value).toArray }).objs.size) { s2 with heap:=h₁,toks:=s2.toks }:=by
  generalize hY:(blk X N' scope (s2.heap.push { cls:=.type "list",data:=.seq ([]:List Value).toArray }).objs.size { s2 with heap:=s2.heap.push { cls:=.type "list",data:=.seq ([]:List Value).toArray },toks:=s2.toks } (upd H2 s2.heap.objs.size (.lst [])) fp pins)=Y at I4
  have st4:tn 0 h₁:=T.keep _ _ _ st2 fun b hb o e=>hk b o (zas3 _ e)
  have stat:∀ {H':Hp},(∀b∈fp,H' b=none)→∀b∈fp,FpOk Y [] H' b:=fun hn b hb=>by
   subst hY
   obtain⟨f0,f1,f2',f3',f4,f5⟩:=f3 b hb
   exact⟨hn b hb,zau2 (lt3 b hb),fun z=>(zar8.mp (I3.stkSub b z)).elim f1 f2',.inl hb,fun x c e=>(by
    rcases S.old I3 e with z | z
    ·exact f4 x c z
    ·exact zba7 (zba9 (lt3 b hb) z)),fun p hp=>f5 p (by simpa using hp)⟩
  have hgY:PG Y tg g:=hY ▸ hg _ _ _ _ _
  have htY:PTs Y ifs tt:=hY ▸ ht _ _ _ _ _
  have heY:PE Y elt te:=hY ▸ he _ _ _ _ _
  have yp:Y.prog=X.prog:=by subst hY;rfl
  have yw:Y.w=X.w:=by subst hY;rfl
  have yK:Y.K=X.K:=by subst hY;rfl
  have yA:Y.A=X.A:=by subst hY;rfl
  have yc:Y.calm=true:=by subst hY;rfl
  have yx:Y.xe=fun _ _=>False:=by subst hY;rfl
  have ye:Y.env=compEnvC scope (cellsFrom ((s2.heap.push { cls:=.type "list",data:=.seq ([]:List Value).toArray }).objs.size+1) scope.names (clOf X.env.cells scope.names [])) (s2.heap.push { cls:=.type "list",data:=.seq ([]:List Value).toArray }).objs.size X.env:=by subst hY;rfl
  rw [← ye]
  refine zp0 (fun n s' => ∃i σ' H',Inv Y [] σ' H' s'∧tn i s'.heap∧(∀b∈fp,H' b=none)∧W i n σ' H') ?_ m0 ⟨0,_,_,I4,st4,fun b hb=>(f3 b hb).1,w0⟩
  rintro n s3 ⟨i,σ3,H3,I5,st3,fr3,w3⟩
  rcases turn i n σ3 H3 w3 with ⟨stop,qn⟩ | ⟨go,N,hNN,step⟩
  ·have d:=T.done Y yp yw yK yc i [] s3 σ3 H3 (fun _ _=>False) I5 (stat fr3) st3 stop
   rw [yA]at d
   refine thn d fun r s4 ⟨hr,I6⟩=>?_
   subst hr
   obtain⟨m,hm,_⟩:=I6.loc
   rw [ye]at hm
   subst hY
   have IX:=zv3 I3 f3 rfl I6 (h'':=s4.heap) ⟨rfl,fun _ _=>rfl⟩
   have cf:H3 (s2.heap.push { cls:=.type "list",data:=.seq ([]:List Value).toArray }).objs.size=none:=I6.free
   have fC:FpOk X pins H3 (s2.heap.push { cls:=.type "list",data:=.seq ([]:List Value).toArray }).objs.size:=I3.fpOk (zat4 _) cf
   obtain⟨c0,c1,c2,c3,c4,c5⟩:=fC
   refine wpAny_assign_Name (zv8 (s:=s4) IX hNd hi₀ hy (v:=.ref s2.heap.objs.size) rfl (fun s5 I7 ⟨a,sb,ha⟩=>?_) hf)
   have na:a≠(s2.heap.push { cls:=.type "list",data:=.seq ([]:List Value).toArray }).objs.size:=by
    rcases ha with z | z
    ·rw [z];exact fun w=>c1 w.symm
    ·exact c4 _ _ z
   refine⟨m,hm.sameBut sb (Ne.symm na),fun h' hb=>⟨_,H3,?_,qn⟩⟩
   exact I7.turned (t':=s5.toks) (fun b o n e=>(hb.2 b n).trans e) c0 c1 c3 c4 c5
  ·have d:=T.item Y yp yw yK yc i [] s3 σ3 H3 (fun _ _=>False) I5 (stat fr3) st3 go
   rw [yA]at d
   refine thn d fun r s4 ⟨u,hr,h4⟩=>?_
   subst hr
   refine thn h4 fun _ s5 ⟨x,H5,I6,r5,y5,st5,fr5⟩=>?_
   have I6':=I6.pinned (stat fr5) (T.obj _ _ st5)
   have a:=hgY _ s5 σ3 H5 x u _ I6' r5 (step x H5 y5)
   rw [yp,yw,yA,yx]at a
   refine thn a fun _ s6 ⟨σ6,H6,I7,q6⟩=>?_
   have b:=htY _ s6 σ6 H6 _ I7 q6
   rw [yp,yw,yA,yx]at b
   refine thn b fun ok s7 ⟨H7,I8,q7⟩=>?_
   have again:∀ {s9:zas4}{H9:Hp},Inv Y ([]++zj9 fp s5.heap) σ6 H9 s9→N σ6 H9→∃m,m<n∧∃i σ' H',Inv Y [] σ' H' s9∧tn i s9.heap∧(∀b∈fp,H' b=none)∧W i m σ' H':=fun {s9 H9} I9 n9=>by
    obtain⟨m',hm,w9⟩:=hNN σ6 H9 n9
    refine⟨m',hm,i+1,σ6,H9,I9.unpinned,T.keep _ _ _ st5 fun b hb o e=>(I9.pin (b,o) (zaq8 _ (zaq8 _ (zd1 hb e)))).1,fun b hb=>?_,w9⟩
    obtain⟨o,e,d⟩:=T.obj _ _ st5 b hb
    exact (I9.pin (b,o) (zaq8 _ (zaq8 _ (zd1 hb e)))).2.1
   cases ok with
   |false=>exact iteF (again I8 (by simpa using q7))
   |true =>
    rw [if_pos rfl]at q7
    refine iteT ?_
    have c:=heY _ s7 σ6 H7 _ I8 q7
    rw [yp,yw,yA,yx]at c
    refine thn c fun z s8 ⟨vz,H8,I9,r9,vs,hv,hl,n9⟩=>?_
    have ap:=zk1 (X:=Y) ([]++zj9 fp s5.heap) s8 σ6 H8 (.ref s2.heap.objs.size) [vz] (.ref s2.heap.objs.size) [z] (fun _ H9=>N σ6 H9) I9 rfl (.cons r9 .nil) ⟨_,vs,vz,rfl,rfl,hv,hl,n9⟩
    rw [yp,yw,yA,yx]at ap
    exact thn ap fun _ s9 ⟨_,H9,I10,_,n10⟩=>again I10 n10
 exact codeAny_compStart_list loop (T.self _ 0 _ _ _ (T.keep _ _ _ st2 fun b hb o e=>hk b o (zas3 _ e)) loop)
end L2
namespace DL
open PySem.Spec L2
structure Src (K:zaq9) (ds:List D) (J:It) (Good:List Addr→Hp→Prop):Prop where
 keep:∀P H P' H',Good P H→Same (hide P H) (hide P' H')→Good P' H'
 stop:∀P H,Good P H→J.stop ds.length H
 go:∀P H i,Good P H→i<ds.length→J.go i H
 yld:∀P H i x H',Good P H→Lists H P→J.yld i H x H'→i<ds.length→Same H H'∧∃d,ds[i]?=some d∧Rep K (hide P H') d x
abbrev DI:=Th→Option (Bool×List D)
def hidF (b:Bool) (A F:List Addr):List Addr:=if b then A++F else F
noncomputable def dI (K:zaq9) (F:List Addr) (fs:DI):TI:=fun σ H R => ∃A t b ds,RS K F H A t σ∧fs t=some (b,ds)∧∀J H1 Good,Same H H1→Src K ds J Good→Good (hidF b A F) H1→R J H1
theorem PI.imp {X:Cx}{tg iter:Expr}{t t':TI} (h:PI X tg iter t) (i:∀σ H R,t' σ H R→t σ H R):PI X tg iter t':=fun pins s σ H R I q=>h pins s σ H R I (i σ H R q)
def fsL (f:DE):DI:=fun t=>(f t).bind fun r=>match r.d with
 |.lst ds=>some (r.ok,ds)
 |_=>none
noncomputable def fsR1 (f:DE):DI:=fun t=>(f t).bind fun r=>match r.d with
 |.int n=>if bigI n then some (true,rngD 0 n.toNat) else none
 |_=>none
theorem src_list {K:zaq9}{p:Addr}{vs:List V}{ds:List D} (hl:vs.length=ds.length):Src K ds (Itl K p) (fun P H=>SqL K (hide P H) p vs∧Reps K (hide P H) ds vs) where
 keep:=fun P H P' H' q s=>⟨SqL.mono s q.1,Reps.mono s q.2⟩
 stop:=fun P H q=>⟨vs,SqL.mono (zb1 _ _) q.1,by lia⟩
 go:=fun P H i q hi=>⟨vs,vs[i]'(by lia),SqL.mono (zb1 _ _) q.1,zar5 (by lia)⟩
 yld:=fun P H i x H' q mu y hi=>by
  obtain⟨e1,e2⟩:=y
  subst e1
  exact⟨Same.refl _,q.2.getV (e2 vs (SqL.mono (zb1 _ _) q.1))⟩
theorem src_rng {K:zaq9}{lo:Int}{n:Nat}:Src K (rngD lo n) (Itr lo n) (fun _ _=>True) where
 keep:=fun _ _ _ _ _ _=>trivial
 stop:=fun P H _=>by rw [zo0];exact zat4 n
 go:=fun P H i _ hi=>by rw [zo0]at hi;exact hi
 yld:=fun P H i x H' _ _ y hi=>by
  rw [zo0]at hi
  obtain⟨e1,e2⟩:=y
  subst e1
  refine⟨Same.refl _,.int (lo+i),by simp [rngD,hi],?_⟩
  rw [e2];exact .int _
theorem RepEv.hidF {K:zaq9}{F A:List Addr}{H H':Hp}{r:Ev}{v:V} (m:Lists H (A++F)) (gs:Same H H') (q:RepEv K F A H H' r v):Rep K (hide (DL.hidF r.ok A F) H') r.d v:=by
 unfold DL.hidF
 split
 ·rename_i c;exact q.clean m gs c
 ·exact q.cleanF m
section
variable {X:Cx}{F:List Addr}{a b c:Expr}{es:List Expr}{fa fb fc:DE}{pos:Pos}{tg:Expr}
theorem zn2 (hl:PE X a (dE X.K F fa)):PI X tg a (dI X.K F (fsL fa)):=by
 refine PI.imp (zaa3 hl) ?_
 rintro σ H R ⟨A,t,b,ds,RR,e,h⟩
 unfold fsL at e
 cases e1:fa t with
 |none=>rw [e1]at e;cases e
 |some r =>
  rw [e1]at e
  refine⟨A,t,r,RR,e1,fun v H1 gs q=>?_⟩
  have e:(match r.d with | .lst ds=>some (r.ok,ds) |_=>none)=some (b,ds):=e
  split at e
  case h_2=>cases e
  rename_i ds' z
  cases e
  have cl:=RepEv.hidF RR.mu gs q
  rw [z]at cl
  cases cl with
  |@lst _ p vs h1 h2=>exact⟨p,rfl,⟨vs,SqL.mono (zb1 _ _) h1⟩,h _ H1 _ gs (src_list h2.length) ⟨h1,h2⟩⟩
theorem zae6 {p1 p2:Pos} (hgr:Gl X "range") (hm:X.mg "range"=none) (ha:PE X a (dE X.K F fa)) (hst:zat2 [a] X.env=[(false,eval a X.env)]:=by rfl):PI X tg (.Call (.Name "range" p1) [a] [] p2) (dI X.K F (fsR1 fa)):=by
 refine PI.imp (zw4 hgr hm (zh9 ha zl6 hst) hst) ?_
 rintro σ H R ⟨A,t,b,ds,RR,e,h⟩
 unfold fsR1 at e
 cases e1:fa t with
 |none=>rw [e1]at e;cases e
 |some r =>
  rw [e1]at e
  refine⟨A,t,r,RR,e1,fun v H1 gs q=>?_⟩
  have e:(match r.d with | .int n=>if bigI n then some (true,rngD 0 n.toNat) else none | _=>none)=some (b,ds):=e
  split at e
  case h_2=>cases e
  rename_i n z
  split at e
  case isFalse=>cases e
  rename_i ok
  simp only [bigI,decide_eq_true_eq]at ok
  cases e
  have p:=q.full
  rw [z]at p
  cases zg3 p
  exact⟨n,rfl,by lia,by lia,h _ H1 _ gs src_rng trivial⟩
end
noncomputable def capD (t:Th):List Nat→Option (Bool×List D)
 |[]=>some (true,[])
 |j::js=>(capD t js).bind fun q=>match t[j]? with
  |some (.val d)=>some (q.1,d::q.2)
  |some (.own xs)=>some (false,.lst xs::q.2)
  |some (.dp d)=>some (false,d::q.2)
  |_=>none
theorem zq1 {K:zaq9}{F A:List Addr}{H:Hp}{t:Th}{σ:L2.St} (R:RS K F H A t σ):∀ {cap:List Nat}{b:Bool}{ds:List D},capD t cap=some (b,ds)→∃vs:List V,(cap.map fun j=>(σ[j]?).getD none)=vs.map some∧Reps K (hide (hidF b A F) H) ds vs
 |[],b,ds,e=>by cases e;exact⟨[],rfl,.nil⟩
 |j::js,b,ds,e=>by
  unfold capD at e
  cases e1:capD t js with
  |none=>rw [e1]at e;cases e
  |some q =>
   obtain⟨b',ds'⟩:=q
   rw [e1]at e
   obtain⟨vs,h1,h2⟩:=zq1 R e1
   have e:(match t[j]? with
    |some (.val d)=>some (b',d::ds')
    |some (.own xs)=>some (false,.lst xs::ds')
    |some (.dp d)=>some (false,d::ds')
    |_=>none)=some (b,ds):=e
   have less:∀c:Bool,Same (hide (A++F) H) (hide (hidF c A F) H):=fun c=>za7 H fun x z=>by
    cases c with
    |true=>exact z
    |false=>exact zaq8 _ z
   split at e
   ·rename_i d z
    cases e
    obtain⟨v,a1,a2⟩:=R.rel.getVal z
    exact⟨v::vs,by simp [a1,h1],.cons (Rep.mono (less _) a2) h2⟩
   ·rename_i xs z
    cases e
    obtain⟨p,us,a1,a2,a3,a4⟩:=R.rel.getOwn z
    refine⟨.ref p::vs,by simp [a1,h1],.cons (.lst (SqL.of (zb7 a3 (R.dj p a2))) (Reps.mono (less false) a4)) (Reps.mono (za7 H fun x z=>?_) h2)⟩
    cases b' with
    |true=>exact zaq8 _ z
    |false=>exact z
   ·rename_i d z
    cases e
    obtain⟨v,B,a1,a2,a3,a4⟩:=R.rel.getDp R.nd z
    refine⟨v::vs,by simp [a1,h1],.cons (a4.rep (less false) fun b hb o w=>zb7 w (R.dj b (a2 b hb))) (Reps.mono (za7 H fun x z=>?_) h2)⟩
    cases b' with
    |true=>exact zaq8 _ z
    |false=>exact z
   ·cases e
noncomputable def ze7 (k:D→Th→Option Th) (ft:DT) (fe:DE):List D→Th→Option (List D)
 |[],_=>some []
 |d::ds,t=>(k d t).bind fun t1=>(ft t1).bind fun b=>if b then (fe t1).bind fun r=>(ze7 k ft fe ds t1).map fun xs=>r.d::xs else ze7 k ft fe ds t1
noncomputable def zs8 (n:Nat) (cap:List Nat) (fs:DI) (k:D→Th→Option Th) (ft:DT) (fe:DE):DE:=fun t=>(fs t).bind fun q=>(capD t cap).bind fun c=>if q.2.length≤50000 then (ze7 k ft fe q.2 (zar6 n Sl.no++c.2.map Sl.val)).bind fun xs=>if (q.1&&c.1)||flats xs then some (.nw xs) else none else none
theorem zs0 {k:D→Th→Option Th}{ft:DT}{fe:DE}:∀ {ds:List D}{t:Th}{xs:List D},ze7 k ft fe ds t=some xs→xs.length≤ds.length
 |[],t,xs,e=>by cases e;simp
 |d::ds,t,xs,e=>by
  unfold ze7 at e
  cases e1:k d t with
  |none=>rw [e1]at e;cases e
  |some t1 =>
   rw [e1]at e
   have e:((ft t1).bind fun b=>if b then (fe t1).bind fun r=>(ze7 k ft fe ds t1).map fun xs=>r.d::xs else ze7 k ft fe ds t1)=some xs:=e
   cases e2:ft t1 with
   |none=>rw [e2]at e;cases e
   |some b =>
    rw [e2]at e
    cases b with
    |false=>have:=zs0 (ds:=ds) (t:=t1) e;simp;lia
    |true =>
     have e:((fe t1).bind fun r=>(ze7 k ft fe ds t1).map fun xs=>r.d::xs)=some xs:=e
     cases e3:fe t1 with
     |none=>rw [e3]at e;cases e
     |some r =>
      rw [e3]at e
      have e:((ze7 k ft fe ds t1).map fun xs=>r.d::xs)=some xs:=e
      cases e4:ze7 k ft fe ds t1 with
      |none=>rw [e4]at e;cases e
      |some ys=>rw [e4]at e;cases e;have:=zs0 e4;simp;lia
end DL
namespace DL
open PySem.Spec L2
theorem RSl.noVals {K:zaq9}{H0 H:Hp}{vs:List V}{ds:List D} (r:Reps K H0 ds vs):∀n,RSl K H0 H (zar6 n Sl.no++ds.map Sl.val) (zar6 n none++vs.map some) []
 |0=>by simpa using RSl.start (t:=[]) (σ:=[]) .nil r
 |n+1=>.no (RSl.noVals r n)
theorem zf9 {P:List Addr}{H:Hp}{p:Addr}{o:HO} (hp:p∈P):Same (hide P H) (hide P (upd H p o)):=fun b u e=>by
 obtain⟨n,e⟩:=zf5 e
 exact zb7 (by rw [zb4 (fun z=>n (by rw [z];exact hp))];exact e) n
theorem RS.updF {K:zaq9}{P:List Addr}{H:Hp}{t:Th}{σ:L2.St}{p:Addr}{ws:List V} (R:RS K P H [] t σ) (hp:p∈P):RS K P (upd H p (.lst ws)) [] t σ where
 mu:=fun q hq=>by
  by_cases z:q=p
  ·exact⟨mL ws,by rw [z];exact zb0⟩
  ·obtain⟨us,w⟩:=R.mu q hq
   exact⟨us,by rw [zb4 z];exact w⟩
 nd:=zav4
 dj:=fun p hp=>by cases hp
 rel:=RSl.mono (zf9 hp) R.rel fun q hq=>by cases hq
theorem zl1 {K:zaq9}{P A:List Addr}{H:Hp}{t:Th}{σ:L2.St} (R:RS K P H A t σ) (g:Gr [] H A H):A=[]:=by
 cases A with
 |nil=>rfl
 |cons a r =>
  rcases g.nw a (zar4 ..) with z | z
  ·cases z
  ·obtain⟨vs,q⟩:=R.mu a (zar0 _ (zar4 ..))
   rw [q]at z;cases z
def zd9:DT:=fun _=>some true
theorem PTs.imp {Y:Cx}{ifs:List Expr}{t t':TT} (h:PTs Y ifs t) (i:∀σ H Q,t' σ H Q→t σ H Q):PTs Y ifs t':=fun pins s σ H Q I q=>h pins s σ H Q I (i σ H Q q)
theorem zk9 {Y:Cx}{F:List Addr}:PTs Y [] (dT Y.K F zd9):=PTs.imp pts_nil fun σ H Q ⟨A,t,b,R,e,h⟩=>by cases e;exact h H (Same.refl H)
theorem ptsd_one {Y:Cx}{F:List Addr}{c:Expr}{ft:DT} (h:PT Y c (dT Y.K F ft)):PTs Y [c] (dT Y.K F ft):=pts_one h
theorem tcomp_of {X:Cx}{F:List Addr}{n:Nat}{cap:List Nat}{fs:DI}{g:TG}{kt:D→Th→Option Th}{ft:DT}{fe:DE} (hk:∀F',TgOk X.K F' g kt) {σ:L2.St}{H:Hp}{Q:VK} (h:dE X.K F (zs8 n cap fs kt ft fe) σ H Q) :
  zz9 n cap (dI X.K F fs) g (fun σ H Q => ∃F',dT X.K F' ft σ H Q) (fun σ H Q => ∃F',dE X.K F' fe σ H Q) σ H Q:=by
 obtain⟨A,t,r,R,e,h⟩:=h
 unfold zs8 at e
 cases e1:fs t with
 |none=>rw [e1]at e;cases e
 |some q =>
  obtain⟨b,ds⟩:=q
  cases e2:capD t cap with
  |none=>rw [e1,e2]at e;cases e
  |some q2 =>
   obtain⟨c,caps⟩:=q2
   rw [e1,e2]at e
   have e:(if ds.length≤50000 then (ze7 kt ft fe ds (zar6 n Sl.no++caps.map Sl.val)).bind fun xs=>if (b&&c)||flats xs then some (Ev.nw xs) else none else none)=some r:=e
   split at e
   case isFalse=>cases e
   rename_i hlen
   cases e3:ze7 kt ft fe ds (zar6 n Sl.no++caps.map Sl.val) with
   |none=>rw [e3]at e;cases e
   |some xs =>
    rw [e3]at e
    have e:(if (b&&c)||flats xs then some (Ev.nw xs) else none)=some r:=e
    split at e
    case isFalse=>cases e
    rename_i ok
    cases e
    have xl:=zs0 e3
    obtain⟨cvs,cv1,cv2⟩:=zq1 R e2
    -- what is hidden from the block,but its own list
    obtain⟨F',F'def⟩:∃F',F'=hidF (b&&c) A F:=⟨_,rfl⟩
    have subF:∀x∈F',x∈A++F:=fun x hx=>by
     rw [F'def]at hx
     unfold hidF at hx
     split at hx
     ·exact hx
     ·exact zaq8 _ hx
    have lessB:∀H:Hp,Same (hide (hidF b A F) H) (hide F' H):=fun H=>za7 H fun x hx=>by
     rw [F'def]at hx
     cases b<;>cases c<;>simp [hidF]at hx ⊢<;>first | exact hx | exact .inr hx | (rcases hx with z | z<;>simp [z])
    have lessC:∀H:Hp,Same (hide (hidF c A F) H) (hide F' H):=fun H=>za7 H fun x hx=>by
     rw [F'def]at hx
     cases b<;>cases c<;>simp [hidF]at hx ⊢<;>first | exact hx | exact .inr hx | (rcases hx with z | z<;>simp [z])
    have wi:zz9 n cap (dI X.K F fs) g (fun σ H Q => ∃F',dT X.K F' ft σ H Q) (fun σ H Q => ∃F',dE X.K F' fe σ H Q) σ H Q:=by
     refine⟨A,t,b,ds,R,e1,fun J H1 Good gs src gd Dd hD=>?_⟩
     have H1A:Lists H1 (A++F):=R.mu.mono gs
     have st0:Same (hide F' H1) (hide (Dd::F') (upd H1 Dd (.lst []))):=zj1 hD
     refine⟨fun i m σ' H'=>i+m=ds.length∧∃th acc rest vs,RS X.K (Dd::F') H' [] th σ'∧ze7 kt ft fe (ds.drop i) th=some rest∧acc++rest=xs∧H' Dd=some (.lst vs)∧Reps X.K (hide (Dd::F') H') acc vs∧Same H1 H'∧Good (Dd::F') H',
      ⟨ds.length,by lia,_,[],xs,[],⟨?_,zav4,fun p hp=>(by cases hp),?_⟩,by simpa using e3,rfl,zb0,.nil,zc2 hD,src.keep _ _ _ _ gd (fun b o z=>st0 _ _ (lessB _ _ _ z))⟩,?_⟩
     ·intro q hq
      have hq:q∈Dd::F':=hq
      rcases zar8.mp hq with z | z
      ·exact⟨mL [],by rw [z];exact zb0⟩
      ·obtain⟨us,w⟩:=H1A q (subF q z)
       exact⟨us,(zc2 hD) _ _ w⟩
     ·unfold capV
      rw [cv1]
      exact RSl.noVals (Reps.mono (fun b o z=>st0 _ _ (lessC H1 _ _ (za8 gs _ _ z))) cv2) n
     ·rintro i m σ' H' ⟨hm,th,acc,rest,vs,RR,ec,ex,hv,hr,sm,gg⟩
      cases m with
      |zero =>
       have z:i=ds.length:=by lia
       subst z
       rw [zax7]at ec
       cases ec
       rw [zau6]at ex
       subst ex
       refine .inl ⟨src.stop _ _ gg,h _ H' (gs.trans sm) ⟨Dd,vs,rfl,Same.free gs hD,hv,?_⟩⟩
       rcases zbc7 _ _ ▸ ok with k | k
       ·have:F'=A++F:=by rw [F'def];unfold hidF;rw [k];rfl
        rw [← this];exact hr
       ·refine Reps.hid (P:=Dd ::(A++F)) (fun q hq=>?_) k (Reps.mono (zb1 _ _) hr)
        rcases zar8.mp hq with z | z
        ·exact⟨mL vs,by rw [z];exact hv⟩
        ·obtain⟨us,w⟩:=H1A q z
         exact⟨us,sm _ _ w⟩
      |succ m =>
       have hil:i<ds.length:=by lia
       refine .inr ⟨src.go _ _ i gg hil,fun σ' H'=>i+1+m=ds.length∧∃th acc rest vs,RS X.K (Dd::F') H' [] th σ'∧ze7 kt ft fe (ds.drop (i+1)) th=some rest∧acc++rest=xs∧H' Dd=some (.lst vs)∧Reps X.K (hide (Dd::F') H') acc vs∧Same H1 H'∧Good (Dd::F') H',
        fun σ' H' q=>⟨m,zav5 m,q⟩,fun x H2 y=>?_⟩
       obtain⟨gs2,d,hd,rd⟩:=src.yld _ _ i x H2 gg RR.mu y hil
       have ed:ds.drop i=d::ds.drop (i+1):=by
        have hd':ds[i]=d:=by
         rw [zar5 hil]at hd
         exact Option.some.inj hd
        rw [← hd']
        exact zat0 hil
       rw [ed]at ec
       unfold ze7 at ec
       cases k1:kt d th with
       |none=>rw [k1]at ec;cases ec
       |some t1 =>
        rw [k1]at ec
        have ec:((ft t1).bind fun b=>if b then (fe t1).bind fun r=>(ze7 kt ft fe (ds.drop (i+1)) t1).map fun xs=>r.d::xs else ze7 kt ft fe (ds.drop (i+1)) t1)=some rest:=ec
        refine hk (Dd::F') σ' H2 [] th t1 d x _ (RR.grow gs2) rd k1 fun σ2 A2 gr2 R2=>?_
        have A20:=zl1 R2 gr2
        subst A20
        cases k2:ft t1 with
        |none=>rw [k2]at ec;cases ec
        |some bb =>
         rw [k2]at ec
         refine⟨Dd::F',[],t1,bb,R2,k2,fun H3 gs3=>?_⟩
         cases bb with
         |false =>
          refine iteF ⟨by lia,t1,acc,rest,vs,R2.grow gs3,ec,ex,gs3 _ _ (gs2 _ _ hv),Reps.mono (za8 (gs2.trans gs3)) hr,(sm.trans gs2).trans gs3,src.keep _ _ _ _ gg (za8 (gs2.trans gs3))⟩
         |true =>
          have ec:((fe t1).bind fun r=>(ze7 kt ft fe (ds.drop (i+1)) t1).map fun xs=>r.d::xs)=some rest:=ec
          cases k3:fe t1 with
          |none=>rw [k3]at ec;cases ec
          |some re =>
           rw [k3]at ec
           have ec:((ze7 kt ft fe (ds.drop (i+1)) t1).map fun xs=>re.d::xs)=some rest:=ec
           cases k4:ze7 kt ft fe (ds.drop (i+1)) t1 with
           |none=>rw [k4]at ec;cases ec
           |some ys =>
            rw [k4]at ec
            cases ec
            refine iteT ⟨Dd::F',[],t1,re,R2.grow gs3,k3,fun v H4 gs4 q4=>⟨vs,gs4 _ _ (gs3 _ _ (gs2 _ _ hv)),?_,?_⟩⟩
            ·have l1:=hr.length
             have l2:acc.length+(ys.length+1)=xs.length:=by rw [← ex];simp
             exact zas5 (show vs.length<50000 by lia) (by rw [sizeLine_eq];decide)
            ·have s4:=(gs2.trans gs3).trans gs4
             have hu:Same (hide (Dd::F') H4) (hide (Dd::F') (upd H4 Dd (.lst (vs++[v])))):=zf9 (zar4 ..)
             have rv:=q4.cleanF ((R2.grow gs3).mu)
             refine⟨by lia,t1,acc++[re.d],ys,vs++[v],RS.updF ((R2.grow gs3).grow gs4) (zar4 ..),k4,by simpa using ex,zb0,?_,?_,?_⟩
             ·exact (Reps.mono (fun b o z=>hu _ _ (za8 s4 _ _ z)) hr).app (Reps.one (Rep.mono hu rv))
             ·exact fun b o z=>by
               rw [zb4 (fun w=>by rw [w,hD]at z;cases z)]
               exact s4 _ _ (sm _ _ z)
             ·exact src.keep _ _ _ _ gg (fun b o z=>hu _ _ (za8 s4 _ _ z))
    exact wi
theorem ped_comp {X:Cx}{F:List Addr}{elt tg iter:Expr}{ifs:List Expr}{scope:Scope}{pos:Pos}{n:Nat}{cap:List Nat}{N':List Str}{fs:DI}{g:TG}{kt:D→Th→Option Th}{ft:DT}{fe:DE} (S:CompSc X scope) (hc:X.calm=true) (hi:PI X tg iter (dI X.K F fs))
  (hN:N'.length=n+cap.length) (hcap:∀(k:Nat) (j:Nat),cap[k]?=some j→∃x,N'[n+k]?=some x∧X.N[j]?=some x∧(x,NameKind.free)∈scope.names)
  (hg:∀C s₃ H₃ fp pins,PG (blk X N' scope C s₃ H₃ fp pins) tg g) (hk:∀F',TgOk X.K F' g kt) (ht:∀C s₃ H₃ fp pins F',PTs (blk X N' scope C s₃ H₃ fp pins) ifs (dT X.K F' ft)) (he:∀C s₃ H₃ fp pins F',PE (blk X N' scope C s₃ H₃ fp pins) elt (dE X.K F' fe))
  (hs:∀x,foldedSetIterable iter X.env x=pure x:=by intro _;rfl):PE X (.ListComp elt [⟨tg,iter,ifs,0⟩] scope pos) (dE X.K F (zs8 n cap fs kt ft fe)) :=
 PE.imp (pe_comp (g:=g) S hc hi hN hcap hg (fun C s₃ H₃ fp pins pins' s σ H Q I ⟨F',q⟩=>ht C s₃ H₃ fp pins F' pins' s σ H Q I q) (fun C s₃ H₃ fp pins pins' s σ H Q I ⟨F',q⟩=>he C s₃ H₃ fp pins F' pins' s σ H Q I q) hs) fun _ _ _ h=>tcomp_of hk h
noncomputable def zy7 (names:List (Str×NameKind)) (kind:Str→Option NameKind):Bool:=names.all fun y=>(y.2 != .free||kind y.1 == some .cell||kind y.1 == some .free)&&(names.lookup y.1 == some y.2)
theorem zap5 {X:Cx}{scope:Scope} (hk:scope.kind=.function:=by rfl) (h:zy7 scope.names X.env.kindOf=true:=by rfl):CompSc X scope:=by
 have h':=zbc0.mp h
 refine⟨hk,fun y hy hf=>?_,fun y hy=>?_⟩
 ·have:=h' y hy
  simp only [zar9,zbc7,bne_iff_ne,beq_iff_eq]at this
  rcases this.1 with (z | z) |z
  ·exact absurd hf z
  ·exact .inl z
  ·exact .inr z
 ·have:=h' y hy
  simp only [zar9,beq_iff_eq]at this
  exact this.2
noncomputable def zac6 (N' N:List Str) (n:Nat) (names:List (Str×NameKind)):Nat→List Nat→Bool
 |_,[]=>true
 |k,j::js=>(match N'[n+k]?,N[j]? with
  |some x,some y=>x == y&&names.any fun z=>z.1 == x&&z.2 == .free
  |_,_=>false)&&zac6 N' N n names (k+1) js
theorem zq0 {N' N:List Str}{n:Nat}{names:List (Str×NameKind)}:∀ {cap:List Nat}{k0:Nat},zac6 N' N n names k0 cap=true→∀(k j:Nat),cap[k]?=some j→∃x,N'[n+(k0+k)]?=some x∧N[j]?=some x∧(x,NameKind.free)∈names
 |[],k0,_,k,j,e=>by simp at e
 |i::js,k0,h,k,j,e=>by
  unfold zac6 at h
  rw [zar9]at h
  cases k with
  |zero =>
   simp at e
   subst e
   have h1:=h.1
   split at h1
   ·rename_i x y z1 z2
    rw [zar9,beq_iff_eq,List.any_eq_true]at h1
    obtain⟨e1,w,w1,w2⟩:=h1
    rw [zar9,beq_iff_eq,beq_iff_eq]at w2
    obtain⟨a,b⟩:=w
    simp only at w2
    rw [w2.1,w2.2]at w1
    exact⟨x,by simpa using z1,by rw [z2,e1],w1⟩
   ·cases h1
  |succ k =>
   obtain⟨x,a,b,c⟩:=zq0 h.2 k j (by simpa using e)
   exact⟨x,by rw [show k0+(k+1)=k0+1+k by lia];exact a,b,c⟩
theorem zw5 {X:Cx}{F:List Addr}{elt tg iter:Expr}{ifs:List Expr}{scope:Scope}{pos:Pos}{fs:DI}{g:TG}{kt:D→Th→Option Th}{ft:DT}{fe:DE} (n:Nat) (cap:List Nat) (N':List Str) (hc:X.calm=true) (hi:PI X tg iter (dI X.K F fs))
  (hg:∀C s₃ H₃ fp pins,PG (blk X N' scope C s₃ H₃ fp pins) tg g) (hk:∀F',TgOk X.K F' g kt) (ht:∀C s₃ H₃ fp pins F',PTs (blk X N' scope C s₃ H₃ fp pins) ifs (dT X.K F' ft)) (he:∀C s₃ H₃ fp pins F',PE (blk X N' scope C s₃ H₃ fp pins) elt (dE X.K F' fe))
  (hkd:scope.kind=.function:=by rfl) (hcs:zy7 scope.names X.env.kindOf=true:=by rfl) (hN:N'.length=n+cap.length:=by rfl) (hcap:zac6 N' X.N n scope.names 0 cap=true:=by rfl)
  (hs:∀x,foldedSetIterable iter X.env x=pure x:=by intro _;rfl):PE X (.ListComp elt [⟨tg,iter,ifs,0⟩] scope pos) (dE X.K F (zs8 n cap fs kt ft fe)) :=
 ped_comp (zap5 hkd hcs) hc hi hN (fun k j e=>by simpa using zq0 hcap k j e) hg hk ht he hs
noncomputable def kIn:Ev→Ev→Option Ev:=fun r1 r2=>match r2.d with
 |.lst ds=>if scD r1.d&&ds.all (fun d=>scD d&&eqOk 0 d r1.d) then some (.cl (.bl (ds.any fun d=>eqD d r1.d))) else none
 |.tup ds=>if scD r1.d&&ds.all (fun d=>scD d&&eqOk 0 d r1.d) then some (.cl (.bl (ds.any fun d=>eqD d r1.d))) else none
 |_=>none
theorem in_D {K:zaq9}{H:Hp}{e:D}{u:V} (q:Rep K H e u) (se:scD e=true):∀ {ds:List D}{vs:List V},Reps K H ds vs→ds.all (fun d=>scD d&&eqOk 0 d e)=true→vs.all zn8=true∧inV u vs=ds.any fun d=>eqD d e
 |_,_,.nil,_=>⟨rfl,rfl⟩
 |_,_,.cons h r,k=>by
  simp only [zau0,zar9]at k
  obtain⟨f1,f2,e1⟩:=eqV_D h q k.1.1 se k.1.2
  obtain⟨a,b⟩:=in_D q se r (by simpa using k.2)
  unfold inV at b ⊢
  refine⟨by simp [f1,a],?_⟩
  rw [zaw2,zaw2,e1,b]
theorem zak2 {K:zaq9}{H:Hp}{e:D}{u:V} (q:Rep K H e u) (se:scD e=true):zn8 u=true:=by
 cases q<;>simp_all [scD,zn8]
theorem od_in {X:Cx}{F:List Addr}:OpD X F (compareOp .In) kIn:=by
 intro pins s σ H0 H A x y v u Q r1 r2 r I m g0 rx ry q1 q2 e hq
 unfold kIn at e
 have p1:=q1.full
 have p2:=q2.full
 split at e
 ·rename_i ds z
  rw [z]at p2
  split at e
  case isFalse=>cases e
  rename_i c
  rw [zar9]at c
  cases e
  cases p2 with
  |@lst _ p vs h1 h2 =>
   obtain⟨a,b⟩:=in_D p1 c.1 h2 c.2
   exact zw7 pins s σ H x _ v u Q I rx ry ⟨p,vs,rfl,.inl h1,zak2 p1 c.1,a,by
    show Q (.bl (inV x vs)) H
    rw [b];exact hq _ H (Same.refl H) (.bl _)⟩
 ·rename_i ds z
  rw [z]at p2
  split at e
  case isFalse=>cases e
  rename_i c
  rw [zar9]at c
  cases e
  cases p2 with
  |@tup _ p vs h1 h2 =>
   obtain⟨a,b⟩:=in_D p1 c.1 h2 c.2
   exact zw7 pins s σ H x _ v u Q I rx ry ⟨p,vs,rfl,.inr h1,zak2 p1 c.1,a,by
    show Q (.bl (inV x vs)) H
    rw [b];exact hq _ H (Same.refl H) (.bl _)⟩
 ·cases e
end DL
namespace L2
open PySem.Spec
abbrev EMS:=Addr→L2.St→Hp→(L2.St→Hp→Prop)→Prop
noncomputable def emT (e:Expr) (g2:Comprehension) (acc:Value) (env:Env):Sem Unit:=do
 let x ← eval g2.iter env
 standAt g2.iter.pos
 let x ← foldedSetIterable g2.iter env x
 let _ ← runOwn (.compStart e 1 (← holding [x] (pyIter x)) acc env) env
theorem zac1 {elt target iter:Expr}{ifs:List Expr}{g2:Comprehension}{scope:Scope}{pos:Pos}{it acc:Value}{env:Env} (h2:g2.is_async=0) :
  compTurn (.ListComp elt [⟨target,iter,ifs,0⟩,g2] scope pos) 0 it acc env=(do
   standAt iter.pos
   match ← pyNext it with
   |none=>pure (.done .next)
   |some v =>
    letOwnedTupleGo target it v
    assign target env v
    let mut ok:=true
    for c in ifs do
     if ok then ok ← isTrue c env (eval c env)
    if ok then emT (.ListComp elt [⟨target,iter,ifs,0⟩,g2] scope pos) g2 acc env
    again (.compLoop (.ListComp elt [⟨target,iter,ifs,0⟩,g2] scope pos) 0 it acc env)):=by
 obtain⟨t2,i2,f2,a2⟩:=g2
 have h2:a2=0:=h2
 subst h2
 simp only [emT,bind_assoc,pure_bind]
 rfl
theorem zac0 {elt iter:Expr}{ifs:List Expr}{g1:Comprehension}{target:Expr}{scope:Scope}{pos:Pos}{it acc:Value}{env:Env} :
  compTurn (.ListComp elt [g1,⟨target,iter,ifs,0⟩] scope pos) 1 it acc env=(do
   standAt iter.pos
   match ← pyNext it with
   |none=>pure (.done .next)
   |some v =>
    letOwnedTupleGo target it v
    assign target env v
    let mut ok:=true
    for c in ifs do
     if ok then ok ← isTrue c env (eval c env)
    if ok then (do let _ ← call (.builtin "list.append") [acc, ← eval elt env])
    again (.compLoop (.ListComp elt [g1,⟨target,iter,ifs,0⟩] scope pos) 1 it acc env)):=by rfl
theorem zr9 {prog:Program}{w:World}{A:Around}{R:Result→zas4→Prop}{s:zas4}{elt target:Expr}{ip:Pos}{gens:List Comprehension}{depth:Nat}{ifs:List Expr}{scope:Scope}{pos:Pos}{it acc:Value}{env:Env} (em:Sem Unit)
  (heq:compTurn (.ListComp elt gens scope pos) depth it acc env=(do
   standAt ip
   match ← pyNext it with
   |none=>pure (.done .next)
   |some v =>
    letOwnedTupleGo target it v
    assign target env v
    let mut ok:=true
    for c in ifs do
     if ok then ok ← isTrue c env (eval c env)
    if ok then em
    again (.compLoop (.ListComp elt gens scope pos) depth it acc env))) (I:Nat→zas4→Prop)
  (turn:∀n s,I n s→wpAny (model prog w) A (pyNext it) (fun r s₁=>match r with
   |none=>R (.ok .next) s₁
   |some v=>wpAny (model prog w) A (letOwnedTupleGo target it v) (fun _ s₁'=>wpAny (model prog w) A (assign target env v) (fun _ s₂ =>
     wpAny (model prog w) A (forIn ifs true fun c r=>if r=true then do let ok ← isTrue c env (eval c env);pure (ForInStep.yield ok) else pure (ForInStep.yield r)) (fun ok s₃ =>
      if ok=true then wpAny (model prog w) A em (fun _ s₅ => ∃m,m<n∧I m s₅) (fun _ _=>False) s₃
      else ∃m,m<n∧I m s₃) (fun _ _=>False) s₂) (fun _ _=>False) s₁') (fun _ _=>False) s₁) (fun _ _=>False) s)
  (n:Nat) (h:I n s):codeAny (model prog w) A (.compLoop (.ListComp elt gens scope pos) depth it acc env) R s:=by
 refine codeAny_loop rfl I (fun n s hI=>?_) n h
 show wpAny _ A ((compTurn (.ListComp elt gens scope pos) depth it acc env).onRaise (fun x=>do noteFrame x env;theTreesLotGoes x)) _ _ s
 refine wpAny_noted ?_
 rw [heq]
 refine zas0 (wpAny_standAt (zas0 (wpAny_mono (turn n s hI) (fun r s₁ h₁=>?_) fun _ _ h'=>h'.elim)))
 cases r with
 |none=>exact zat9 h₁
 |some v =>
  refine zas0 (wpAny_mono h₁ (fun _ s₁' h₁'=>?_) fun _ _ h'=>h'.elim)
  refine zas0 (wpAny_mono h₁' (fun _ s₂ h₂=>zas0 (wpAny_mono h₂ (fun ok s₃ h₃=>?_) fun _ _ h'=>h'.elim)) fun _ _ h'=>h'.elim)
  cases ok with
  |false=>exact zat9 ⟨rfl,h₃⟩
  |true=>exact zas0 (wpAny_mono h₃ (fun _ s₅ h₅=>zat9 ⟨rfl,h₅⟩) fun _ _ h'=>h'.elim)
theorem zm4 {prog:Program}{w:World}{A:Around}{R:Result→zas4→Prop}{s:zas4}{elt target iter ifs g1 scope pos it acc env}
  (h0:codeAny (model prog w) A (.compLoop (.ListComp elt [g1,⟨target,iter,ifs,0⟩] scope pos) 1 it acc env) R s)
  (h:wpAny (model prog w) A (pyIter it) (fun it' s'=>codeAny (model prog w) A (.compLoop (.ListComp elt [g1,⟨target,iter,ifs,0⟩] scope pos) 1 it' acc env) R s')
   (notedBy (model prog w) A env fun x s'=>R (.error x) s') s) :
  codeAny (model prog w) A (.compStart (.ListComp elt [g1,⟨target,iter,ifs,0⟩] scope pos) 1 it acc env) R s:=by
 refine codeAny_of_tree ?_
 show wpAny _ _ ((compStart (.ListComp elt [g1,⟨target,iter,ifs,0⟩] scope pos) 1 it acc env).onRaise (fun x=>do noteFrame x env;standAt theWindowsPlace)) _ _ s
 refine wpAny_notedAt ?_
 unfold compStart
 show wpAny _ _ (ask >>= _) _ _ s
 refine zas0 (wpAny_askSetting (wpAny_ite ?_))
 split
 ·first
   |exact zas0 (zat9 (zat9 (And.intro rfl h0)))
   |exact zat9 (And.intro rfl h0)
 ·first
   |exact zas0 (wpAny_rule (zas0 (wpAny_standAt (zas0 (wpAny_mono h (fun it' s' h'=>zat9 (And.intro rfl h')) fun _ _ x=>x)))))
   |(refine zas0 (wpAny_rule ?_);show wpAny _ _ (standAt iter.pos >>= _) _ _ s;exact zas0 (wpAny_standAt (zas0 (wpAny_mono h (fun it' s' h'=>zat9 (And.intro rfl h')) fun _ _ x=>x))))
noncomputable def tCompG (n:Nat) (cap:List Nat) (wi:TI) (g:TG) (tt:TT) (em:EMS):TE:=fun σ H Q=>wi σ H fun J H1 => ∀D,H1 D=none→∃W:Nat→Nat→L2.St→Hp→Prop,(∃m,W 0 m (capV n cap σ) (upd H1 D (.lst [])))∧∀i m σ' H',W i m σ' H' →
 (J.stop i H'∧Q (.ref D) H')∨(J.go i H'∧∃N:L2.St→Hp→Prop,(∀σ'' H'',N σ'' H''→∃m',m' < m∧W (i+1) m' σ'' H'')∧∀x H2,J.yld i H' x H2→g x σ' H2 fun σ2 H3=>tt σ2 H3 fun b H4 =>
  if b=true then em D σ2 H4 N else N σ2 H4)
noncomputable def PEm (Y:Cx) (tree:Sem Unit) (em:L2.St→Hp→(L2.St→Hp→Prop)→Prop):Prop :=
 ∀(pins:List (Addr×Obj)) (s:zas4) (σ:L2.St) (H:Hp) (R:L2.St→Hp→Prop),Inv Y pins σ H s→em σ H R→wpAny (model Y.prog Y.w) Y.A tree (fun _ s' => ∃σ' H',Inv Y pins σ' H' s'∧R σ' H') Y.xe s
noncomputable def tInner (wi:TI) (g:TG) (tt:TT) (te:TE):EMS:=fun D σ H R=>wi σ H fun J H1 => ∃W:Nat→Nat→L2.St→Hp→Prop,(∃m,W 0 m σ H1)∧∀i m σ' H',W i m σ' H' →
 (J.stop i H'∧R σ' H')∨(J.go i H'∧∃N:L2.St→Hp→Prop,(∀σ'' H'',N σ'' H''→∃m',m' < m∧W (i+1) m' σ'' H'')∧∀x H2,J.yld i H' x H2→g x σ' H2 fun σ2 H3=>tt σ2 H3 fun b H4 =>
  if b=true then te σ2 H4 fun v H5 => ∃vs,H5 D=some (.lst vs)∧vs.length<sizeLine∧N σ2 (upd H5 D (.lst (vs++[v]))) else N σ2 H4)
theorem zal3 {Y:Cx}{elt tg iter:Expr}{ifs:List Expr}{g1:Comprehension}{scope:Scope}{pos:Pos}{wi:TI}{g:TG}{tt:TT}{te:TE}{D:Addr} (yc:Y.calm=true) (yx:Y.xe=fun _ _=>False) (hi:PI Y tg iter wi) (hg:PG Y tg g) (ht:PTs Y ifs tt) (he:PE Y elt te)
  (hs:∀x,foldedSetIterable iter Y.env x=pure x:=by intro _;rfl):PEm Y (emT (.ListComp elt [g1,⟨tg,iter,ifs,0⟩] scope pos) ⟨tg,iter,ifs,0⟩ (.ref D) Y.env) (tInner wi g tt te D):=by
 intro pins s σ H R I h
 unfold emT
 refine zas0 (thn (hi pins s σ H _ I h) fun v s1 h1=>zas0 (wpAny_standAt (zas0 (wpAny_of_eq (hs v) (zas0 (wpAny_holding (thn h1 fun itv s2 h2=>?_)))))))
 obtain⟨it,fp,tn,J,H2,e,I2,T,st2,f2,W,⟨m0,w0⟩,turn⟩:=h2
 subst e
 refine zas0 (wpAny_runOwn ?_)
 have stat:∀ {H':Hp},(∀b∈fp,H' b=none)→∀b∈fp,FpOk Y pins H' b:=fun hn b hb=>⟨hn b hb,(f2 b hb).2⟩
 have loop:∀s2',Inv Y pins σ H2 s2'→tn 0 s2'.heap→codeAny (model Y.prog Y.w) Y.A (.compLoop (.ListComp elt [g1,⟨tg,iter,ifs,0⟩] scope pos) 1 (.ref it) (.ref D) Y.env)
   (fun r s'=>match r with | .ok f=>wpAny (model Y.prog Y.w) Y.A (pure ()) (fun _ s' => ∃σ' H',Inv Y pins σ' H' s'∧R σ' H') Y.xe s' | .error e=>cameBackBy (model Y.prog Y.w) Y.A Y.env Y.xe e s') s2':=by
  intro s2' I2' st2'
  refine zr9 (do let _ ← call (.builtin "list.append") [.ref D, ← eval elt Y.env]) zac0 (fun n s' => ∃i σ' H',Inv Y pins σ' H' s'∧tn i s'.heap∧(∀b∈fp,H' b=none)∧W i n σ' H') ?_ m0 ⟨0,_,_,I2',st2',fun b hb=>(f2 b hb).1,w0⟩
  rintro n s3 ⟨i,σ3,H3,I5,st3,fr3,w3⟩
  rcases turn i n σ3 H3 w3 with ⟨stop,qn⟩ | ⟨go,N,hNN,step⟩
  ·refine thn (T.done Y rfl rfl rfl yc i pins s3 σ3 H3 (fun _ _=>False) I5 (stat fr3) st3 stop) fun r s4 ⟨hr,I6⟩=>?_
   subst hr
   exact zat9 ⟨σ3,H3,I6,qn⟩
  ·refine thn (T.item Y rfl rfl rfl yc i pins s3 σ3 H3 (fun _ _=>False) I5 (stat fr3) st3 go) fun r s4 ⟨u,hr,h4⟩=>?_
   subst hr
   refine thn h4 fun _ s5 ⟨x,H5,I6,r5,y5,st5,fr5⟩=>?_
   have I6':=I6.pinned (stat fr5) (T.obj _ _ st5)
   have a:=hg _ s5 σ3 H5 x u _ I6' r5 (step x H5 y5)
   rw [yx]at a
   refine thn a fun _ s6 ⟨σ6,H6,I7,q6⟩=>?_
   have b:=ht _ s6 σ6 H6 _ I7 q6
   rw [yx]at b
   refine thn b fun ok s7 ⟨H7,I8,q7⟩=>?_
   have again:∀ {s9:zas4}{H9:Hp},Inv Y (pins++zj9 fp s5.heap) σ6 H9 s9→N σ6 H9→∃m,m<n∧∃i σ' H',Inv Y pins σ' H' s9∧tn i s9.heap∧(∀b∈fp,H' b=none)∧W i m σ' H':=fun {s9 H9} I9 n9=>by
    obtain⟨m',hm,w9⟩:=hNN σ6 H9 n9
    refine⟨m',hm,i+1,σ6,H9,I9.unpinned,T.keep _ _ _ st5 fun b hb o e=>(I9.pin (b,o) (zaq8 _ (zaq8 _ (zd1 hb e)))).1,fun b hb=>?_,w9⟩
    obtain⟨o,e,d⟩:=T.obj _ _ st5 b hb
    exact (I9.pin (b,o) (zaq8 _ (zaq8 _ (zd1 hb e)))).2.1
   cases ok with
   |false=>exact iteF (again I8 (by simpa using q7))
   |true =>
    rw [if_pos rfl]at q7
    refine iteT ?_
    have c:=he _ s7 σ6 H7 _ I8 q7
    rw [yx]at c
    refine zas0 (thn c fun z s8 ⟨vz,H8,I9,r9,vs,hv,hl,n9⟩=>zas0 ?_)
    have ap:=zk1 (X:=Y) (pins++zj9 fp s5.heap) s8 σ6 H8 (.ref D) [vz] (.ref D) [z] (fun _ H9=>N σ6 H9) I9 rfl (.cons r9 .nil) ⟨_,vs,vz,rfl,rfl,hv,hl,n9⟩
    rw [yx]at ap
    exact thn ap fun _ s9 ⟨_,H9,I10,_,n10⟩=>zat9 (again I10 n10)
 exact zm4 (loop s2 I2 st2) (T.self _ 0 _ _ _ st2 (loop s2 I2 st2))
theorem pe_compG {X:Cx}{elt tg iter:Expr}{ifs:List Expr}{scope:Scope}{pos:Pos}{n:Nat}{cap:List Nat}{N':List Str}{wi:TI}{g:TG}{tt:TT}{em:EMS}{g2:Comprehension} (S:CompSc X scope) (hc:X.calm=true) (hi:PI X tg iter wi)
  (hN:N'.length=n+cap.length) (hcap:∀(k:Nat) (j:Nat),cap[k]?=some j→∃x,N'[n+k]?=some x∧X.N[j]?=some x∧(x,NameKind.free)∈scope.names)
  (hg:∀C s₃ H₃ fp pins,PG (blk X N' scope C s₃ H₃ fp pins) tg g) (ht:∀C s₃ H₃ fp pins,PTs (blk X N' scope C s₃ H₃ fp pins) ifs tt) (he:∀C s₃ H₃ fp pins D,PEm (blk X N' scope C s₃ H₃ fp pins) (emT (.ListComp elt [⟨tg,iter,ifs,0⟩,g2] scope pos) g2 (.ref D) (blk X N' scope C s₃ H₃ fp pins).env) (em D))
  (h2:g2.is_async=0) (hs:∀x,foldedSetIterable iter X.env x=pure x:=by intro _;rfl):PE X (.ListComp elt [⟨tg,iter,ifs,0⟩,g2] scope pos) (tCompG n cap wi g tt em):=by
 intro pins s σ H Q I h
 rw [eval_ListComp]
 refine wpAny_comprehension_free (use:=none) rfl hs (zo6 (S.frees I.ok)) S.kind (fun x hx hl=>by rw [S.names x hx,hl]) (thn (hi pins s σ H _ I h) fun v s1 h1=>thn h1 fun itv s2 h2=>?_)
 obtain⟨it,fp,tn,J,H2,e,I2,T,st2,f2,R⟩:=h2
 subst e
 have lt2:∀b∈fp,b<s2.heap.objs.size:=fun b hb=>by obtain⟨o,e,_⟩:=T.obj _ _ st2 b hb;exact zat1 e
 have hD:H2 s2.heap.objs.size=none:=I2.fresh
 obtain⟨W,⟨m0,w0⟩,turn⟩:=R s2.heap.objs.size hD
 have I3:Inv X pins σ (upd H2 s2.heap.objs.size (.lst [])) { s2 with heap:=s2.heap.push { cls:=.type "list",data:=.seq ([]:List Value).toArray },toks:=s2.toks }:=I2.lnew (t':=s2.toks) .nil (by simp)
 have f3:∀b∈fp,FpOk X pins (upd H2 s2.heap.objs.size (.lst [])) b:=fun b hb=>⟨by rw [zb4 (zau2 (lt2 b hb))];exact (f2 b hb).1,(f2 b hb).2⟩
 refine wpAny_newObj_type (zh8 fun h₁ hns₁ hk hcl₁=>?_)
 have lt3:∀b∈fp,b<(s2.heap.push { cls:=.type "list",data:=.seq ([]:List Value).toArray }).objs.size:=fun b hb=>by rw [zaz0];exact zay5 (lt2 b hb)
 have I4:Inv (blk X N' scope (s2.heap.push { cls:=.type "list",data:=.seq ([]:List Value).toArray }).objs.size { s2 with heap:=s2.heap.push { cls:=.type "list",data:=.seq ([]:List Value).toArray },toks:=s2.toks } (upd H2 s2.heap.objs.size (.lst [])) fp pins) [] (capV n cap σ) (upd H2 s2.heap.objs.size (.lst [])) { s2 with heap:=h₁,toks:=s2.toks } :=
  zac7 I3 S hc f3 lt3 (t1:=s2.toks) hns₁ hk hcl₁ (by simp [capV,hN]) (fun i x v e1 e2=>by
   unfold capV at e2
   by_cases hi:i<n
   ·rw [zaw9 (by simpa using hi),zat8]at e2
    split at e2<;>cases e2
   ·rw [zaw7 (by simpa using hi),zay1,zat7]at e2
    cases ej:cap[i - n]? with
    |none=>rw [ej]at e2;cases e2
    |some j =>
     rw [ej]at e2
     obtain⟨x',a1,a2,a3⟩:=hcap (i - n) j ej
     have:n+(i - n)=i:=by lia
     rw [this,e1]at a1
     cases a1
     refine⟨a3,j,a2,?_⟩
     have e2:(σ[j]?).getD none=some v:=by simpa using e2
     cases q:σ[j]? with
     |none=>rw [q]at e2;cases e2
     |some z=>rw [q]at e2;have:z=some v:=e2;rw [this])
 have loop:codeAny (model X.prog X.w) X.A (.compLoop (.ListComp elt [⟨tg,iter,ifs,0⟩,g2] scope pos) 0 (.ref it) (.ref s2.heap.objs.size) (compEnvC scope (cellsFrom ((s2.heap.push { cls:=.type "list",data:=.seq ([]:List Value).toArray }).objs.size+1) scope.names (clOf X.env.cells scope.names [])) (s2.heap.push { cls:=.type "list",data:=.seq ([]:List Value).toArray }).objs.size X.env))
   (compPost (model X.prog X.w) X.A X.xe none (EP X pins σ Q) (.ref s2.heap.objs.size) (s2.heap.push { cls:=.type "list",data:=.seq ([]:List Value).toArray }).objs.size) { s2 with heap:=h₁,toks:=s2.toks }:=by
  generalize hY:(blk X N' scope (s2.heap.push { cls:=.type "list",data:=.seq ([]:List Value).toArray }).objs.size { s2 with heap:=s2.heap.push { cls:=.type "list",data:=.seq ([]:List Value).toArray },toks:=s2.toks } (upd H2 s2.heap.objs.size (.lst [])) fp pins)=Y at I4
  have st4:tn 0 h₁:=T.keep _ _ _ st2 fun b hb o e=>hk b o (zas3 _ e)
  have stat:∀ {H':Hp},(∀b∈fp,H' b=none)→∀b∈fp,FpOk Y [] H' b:=fun hn b hb=>by
   subst hY
   obtain⟨f0,f1,f2',f3',f4,f5⟩:=f3 b hb
   exact⟨hn b hb,zau2 (lt3 b hb),fun z=>(zar8.mp (I3.stkSub b z)).elim f1 f2',.inl hb,fun x c e=>(by
    rcases S.old I3 e with z | z
    ·exact f4 x c z
    ·exact zba7 (zba9 (lt3 b hb) z)),fun p hp=>f5 p (by simpa using hp)⟩
  have hgY:PG Y tg g:=hY ▸ hg _ _ _ _ _
  have htY:PTs Y ifs tt:=hY ▸ ht _ _ _ _ _
  have heY:PEm Y (emT (.ListComp elt [⟨tg,iter,ifs,0⟩,g2] scope pos) g2 (.ref s2.heap.objs.size) Y.env) (em s2.heap.objs.size):=by subst hY;exact he _ _ _ _ _ _
  have yp:Y.prog=X.prog:=by subst hY;rfl
  have yw:Y.w=X.w:=by subst hY;rfl
  have yK:Y.K=X.K:=by subst hY;rfl
  have yA:Y.A=X.A:=by subst hY;rfl
  have yc:Y.calm=true:=by subst hY;rfl
  have yx:Y.xe=fun _ _=>False:=by subst hY;rfl
  have ye:Y.env=compEnvC scope (cellsFrom ((s2.heap.push { cls:=.type "list",data:=.seq ([]:List Value).toArray }).objs.size+1) scope.names (clOf X.env.cells scope.names [])) (s2.heap.push { cls:=.type "list",data:=.seq ([]:List Value).toArray }).objs.size X.env:=by subst hY;rfl
  rw [← ye]
  refine zr9 (emT (.ListComp elt [⟨tg,iter,ifs,0⟩,g2] scope pos) g2 (.ref s2.heap.objs.size) Y.env) (zac1 h2) (fun n s' => ∃i σ' H',Inv Y [] σ' H' s'∧tn i s'.heap∧(∀b∈fp,H' b=none)∧W i n σ' H') ?_ m0 ⟨0,_,_,I4,st4,fun b hb=>(f3 b hb).1,w0⟩
  rintro n s3 ⟨i,σ3,H3,I5,st3,fr3,w3⟩
  rcases turn i n σ3 H3 w3 with ⟨stop,qn⟩ | ⟨go,N,hNN,step⟩
  ·have d:=T.done Y yp yw yK yc i [] s3 σ3 H3 (fun _ _=>False) I5 (stat fr3) st3 stop
   rw [yA]at d
   refine thn d fun r s4 ⟨hr,I6⟩=>?_
   subst hr
   obtain⟨m,hm,_⟩:=I6.loc
   rw [ye]at hm
   refine⟨m,hm,fun h' hb=>⟨.ref s2.heap.objs.size,H3,?_,rfl,qn⟩⟩
   subst hY
   exact zv3 I3 f3 rfl I6 hb
  ·have d:=T.item Y yp yw yK yc i [] s3 σ3 H3 (fun _ _=>False) I5 (stat fr3) st3 go
   rw [yA]at d
   refine thn d fun r s4 ⟨u,hr,h4⟩=>?_
   subst hr
   refine thn h4 fun _ s5 ⟨x,H5,I6,r5,y5,st5,fr5⟩=>?_
   have I6':=I6.pinned (stat fr5) (T.obj _ _ st5)
   have a:=hgY _ s5 σ3 H5 x u _ I6' r5 (step x H5 y5)
   rw [yp,yw,yA,yx]at a
   refine thn a fun _ s6 ⟨σ6,H6,I7,q6⟩=>?_
   have b:=htY _ s6 σ6 H6 _ I7 q6
   rw [yp,yw,yA,yx]at b
   refine thn b fun ok s7 ⟨H7,I8,q7⟩=>?_
   have again:∀ {s9:zas4}{σ9:L2.St}{H9:Hp},Inv Y ([]++zj9 fp s5.heap) σ9 H9 s9→N σ9 H9→∃m,m<n∧∃i σ' H',Inv Y [] σ' H' s9∧tn i s9.heap∧(∀b∈fp,H' b=none)∧W i m σ' H':=fun {s9 σ9 H9} I9 n9=>by
    obtain⟨m',hm,w9⟩:=hNN σ9 H9 n9
    refine⟨m',hm,i+1,σ9,H9,I9.unpinned,T.keep _ _ _ st5 fun b hb o e=>(I9.pin (b,o) (zaq8 _ (zaq8 _ (zd1 hb e)))).1,fun b hb=>?_,w9⟩
    obtain⟨o,e,d⟩:=T.obj _ _ st5 b hb
    exact (I9.pin (b,o) (zaq8 _ (zaq8 _ (zd1 hb e)))).2.1
   cases ok with
   |false=>exact iteF (again I8 (by simpa using q7))
   |true =>
    rw [if_pos rfl]at q7
    refine iteT ?_
    have c:=heY _ s7 σ6 H7 _ I8 q7
    rw [yp,yw,yA,yx]at c
    exact thn c fun _ s8 ⟨σ8,H8,I9,n9⟩=>again I9 n9
 exact codeAny_compStart_list loop (T.self _ 0 _ _ _ (T.keep _ _ _ st2 fun b hb o e=>hk b o (zas3 _ e)) loop)
end L2
namespace DL
open PySem.Spec L2
noncomputable def zk4 (k:D→Th→Option Th) (ft:DT) (fe:DE):List D→Th→Option (List D×Th)
 |[],t=>some ([],t)
 |d::ds,t=>(k d t).bind fun t1=>(ft t1).bind fun b=>if b then (fe t1).bind fun r=>(zk4 k ft fe ds t1).map fun q=>(r.d::q.1,q.2) else zk4 k ft fe ds t1
noncomputable def zk5 (k:D→Th→Option Th) (ft:DT) (fs2:DI) (k2:D→Th→Option Th) (ft2:DT) (fe:DE):List D→Th→Option (List D)
 |[],_=>some []
 |d::ds,t=>(k d t).bind fun t1=>(ft t1).bind fun b=>if b then (fs2 t1).bind fun q=>(zk4 k2 ft2 fe q.2 t1).bind fun p=>(zk5 k ft fs2 k2 ft2 fe ds p.2).map fun xs=>p.1++xs else zk5 k ft fs2 k2 ft2 fe ds t1
noncomputable def zt6 (n:Nat) (cap:List Nat) (fs:DI) (k:D→Th→Option Th) (ft:DT) (fs2:DI) (k2:D→Th→Option Th) (ft2:DT) (fe:DE):DE:=fun t=>(fs t).bind fun q=>(capD t cap).bind fun c =>
 (zk5 k ft fs2 k2 ft2 fe q.2 (zar6 n Sl.no++c.2.map Sl.val)).bind fun xs=>if xs.length≤50000&&flats xs then some (.nw xs) else none
theorem zaj5 {X:Cx}{F:List Addr}{n:Nat}{cap:List Nat}{fs fs2:DI}{g g2:TG}{kt kt2:D→Th→Option Th}{ft ft2:DT}{fe:DE} (hk:∀F',TgOk X.K F' g kt) (hk2:∀F',TgOk X.K F' g2 kt2) {σ:L2.St}{H:Hp}{Q:VK} (h:dE X.K F (zt6 n cap fs kt ft fs2 kt2 ft2 fe) σ H Q) :
  tCompG n cap (dI X.K F fs) g (fun σ H Q => ∃F',dT X.K F' ft σ H Q) (tInner (fun σ H R => ∃F',dI X.K F' fs2 σ H R) g2 (fun σ H Q => ∃F',dT X.K F' ft2 σ H Q) (fun σ H Q => ∃F',dE X.K F' fe σ H Q)) σ H Q:=by
 obtain⟨A,t,r,R,e,h⟩:=h
 unfold zt6 at e
 cases e1:fs t with
 |none=>rw [e1]at e;cases e
 |some q =>
  obtain⟨b,ds⟩:=q
  cases e2:capD t cap with
  |none=>rw [e1,e2]at e;cases e
  |some q2 =>
   obtain⟨c,caps⟩:=q2
   rw [e1,e2]at e
   simp only [zar2]at e
   cases e3:zk5 kt ft fs2 kt2 ft2 fe ds (zar6 n Sl.no++caps.map Sl.val) with
   |none=>rw [e3]at e;cases e
   |some xs =>
    rw [e3]at e
    simp only [zar2]at e
    split at e
    case isFalse=>cases e
    rename_i ok
    rw [zar9,decide_eq_true_eq]at ok
    cases e
    obtain⟨cvs,cv1,cv2⟩:=zq1 R e2
    obtain⟨F',F'def⟩:∃F',F'=hidF (b&&c) A F:=⟨_,rfl⟩
    have subF:∀x∈F',x∈A++F:=fun x hx=>by
     rw [F'def]at hx
     unfold hidF at hx
     split at hx
     ·exact hx
     ·exact zaq8 _ hx
    have lessB:∀H:Hp,Same (hide (hidF b A F) H) (hide F' H):=fun H=>za7 H fun x hx=>by
     rw [F'def]at hx
     cases b<;>cases c<;>simp [hidF]at hx ⊢<;>first | exact hx | exact .inr hx | (rcases hx with z | z<;>simp [z])
    have lessC:∀H:Hp,Same (hide (hidF c A F) H) (hide F' H):=fun H=>za7 H fun x hx=>by
     rw [F'def]at hx
     cases b<;>cases c<;>simp [hidF]at hx ⊢<;>first | exact hx | exact .inr hx | (rcases hx with z | z<;>simp [z])
    refine⟨A,t,b,ds,R,e1,fun J H1 Good gs src gd Dd hD=>?_⟩
    have H1A:Lists H1 (A++F):=R.mu.mono gs
    have st0:Same (hide F' H1) (hide (Dd::F') (upd H1 Dd (.lst []))):=zj1 hD
    refine⟨fun i m σ' H'=>i+m=ds.length∧∃th acc rest vs,RS X.K (Dd::F') H' [] th σ'∧zk5 kt ft fs2 kt2 ft2 fe (ds.drop i) th=some rest∧acc++rest=xs∧H' Dd=some (.lst vs)∧Reps X.K (hide (Dd::F') H') acc vs∧Same H1 H'∧Good (Dd::F') H',
     ⟨ds.length,by lia,_,[],xs,[],⟨?_,zav4,fun p hp=>(by cases hp),?_⟩,by simpa using e3,rfl,zb0,.nil,zc2 hD,src.keep _ _ _ _ gd (fun b o z=>st0 _ _ (lessB _ _ _ z))⟩,?_⟩
    ·intro q hq
     have hq:q∈Dd::F':=hq
     rcases zar8.mp hq with z | z
     ·exact⟨mL [],by rw [z];exact zb0⟩
     ·obtain⟨us,w⟩:=H1A q (subF q z)
      exact⟨us,(zc2 hD) _ _ w⟩
    ·unfold capV
     rw [cv1]
     exact RSl.noVals (Reps.mono (fun b o z=>st0 _ _ (lessC H1 _ _ (za8 gs _ _ z))) cv2) n
    ·rintro i m σ' H' ⟨hm,th,acc,rest,vs,RR,ec,ex,hv,hr,sm,gg⟩
     cases m with
     |zero =>
      have z:i=ds.length:=by lia
      subst z
      rw [zax7]at ec
      cases ec
      rw [zau6]at ex
      subst ex
      refine .inl ⟨src.stop _ _ gg,h _ H' (gs.trans sm) ⟨Dd,vs,rfl,Same.free gs hD,hv,?_⟩⟩
      refine Reps.hid (P:=Dd ::(A++F)) (fun q hq=>?_) ok.2 (Reps.mono (zb1 _ _) hr)
      rcases zar8.mp hq with z | z
      ·exact⟨mL vs,by rw [z];exact hv⟩
      ·obtain⟨us,w⟩:=H1A q z
       exact⟨us,sm _ _ w⟩
     |succ m =>
      have hil:i<ds.length:=by lia
      refine .inr ⟨src.go _ _ i gg hil,fun σ' H'=>i+1+m=ds.length∧∃th acc rest vs,RS X.K (Dd::F') H' [] th σ'∧zk5 kt ft fs2 kt2 ft2 fe (ds.drop (i+1)) th=some rest∧acc++rest=xs∧H' Dd=some (.lst vs)∧Reps X.K (hide (Dd::F') H') acc vs∧Same H1 H'∧Good (Dd::F') H',
       fun σ' H' q=>⟨m,zav5 m,q⟩,fun x H2 y=>?_⟩
      obtain⟨gs2,d,hd,rd⟩:=src.yld _ _ i x H2 gg RR.mu y hil
      have ed:ds.drop i=d::ds.drop (i+1):=by
       have hd':ds[i]=d:=by
        rw [zar5 hil]at hd
        exact Option.some.inj hd
       rw [← hd']
       exact zat0 hil
      rw [ed]at ec
      unfold zk5 at ec
      cases k1:kt d th with
      |none=>rw [k1]at ec;cases ec
      |some t1 =>
       rw [k1]at ec
       simp only [zar2]at ec
       refine hk (Dd::F') σ' H2 [] th t1 d x _ (RR.grow gs2) rd k1 fun σ2 A2 gr2 R2=>?_
       have A20:=zl1 R2 gr2
       subst A20
       cases k2:ft t1 with
       |none=>rw [k2]at ec;cases ec
       |some bb =>
        rw [k2]at ec
        simp only [zar2]at ec
        refine⟨Dd::F',[],t1,bb,R2,k2,fun H3 gs3=>?_⟩
        cases bb with
        |false =>
         refine iteF ⟨by lia,t1,acc,rest,vs,R2.grow gs3,by simpa using ec,ex,gs3 _ _ (gs2 _ _ hv),Reps.mono (za8 (gs2.trans gs3)) hr,(sm.trans gs2).trans gs3,src.keep _ _ _ _ gg (za8 (gs2.trans gs3))⟩
        |true =>
         simp only [if_true]at ec
         cases k3:fs2 t1 with
         |none=>rw [k3]at ec;cases ec
         |some q2 =>
          obtain⟨b2,ds2⟩:=q2
          rw [k3]at ec
          simp only [zar2]at ec
          cases k4:zk4 kt2 ft2 fe ds2 t1 with
          |none=>rw [k4]at ec;cases ec
          |some pp =>
           obtain⟨xs1,tE⟩:=pp
           rw [k4]at ec
           simp only [zar2]at ec
           cases k5:zk5 kt ft fs2 kt2 ft2 fe (ds.drop (i+1)) tE with
           |none=>rw [k5]at ec;cases ec
           |some ys =>
            rw [k5]at ec
            cases ec
            refine iteT ⟨Dd::F',[],t1,b2,ds2,R2.grow gs3,k3,fun J2 H4 Good2 gs4 src2 gd2=>?_⟩
            have gd2:Good2 (Dd::F') H4:=by
             have e9:hidF b2 [] (Dd::F')=Dd::F':=by unfold hidF;split<;>simp
             rw [e9]at gd2;exact gd2
            have s4:=(gs2.trans gs3).trans gs4
            refine⟨fun j k σj Hj=>j+k=ds2.length∧∃tj aj rj vj,RS X.K (Dd::F') Hj [] tj σj∧zk4 kt2 ft2 fe (ds2.drop j) tj=some (rj,tE)∧aj++(rj++ys)=xs∧Hj Dd=some (.lst vj)∧Reps X.K (hide (Dd::F') Hj) aj vj∧Same H1 Hj∧Good (Dd::F') Hj∧Good2 (Dd::F') Hj,
             ⟨ds2.length,by lia,t1,acc,xs1,vs,(R2.grow gs3).grow gs4,by simpa using k4,ex,s4 _ _ hv,Reps.mono (za8 s4) hr,sm.trans s4,src.keep _ _ _ _ gg (za8 s4),gd2⟩,?_⟩
            rintro j k σj Hj ⟨hjk,tj,aj,rj,vj,Rj,ej,exj,hvj,hrj,smj,ggj,gg2⟩
            cases k with
            |zero =>
             have z:j=ds2.length:=by lia
             subst z
             rw [zax7]at ej
             cases ej
             exact .inl ⟨src2.stop _ _ gg2,by lia,_,aj,ys,vj,Rj,k5,by simpa using exj,hvj,hrj,smj,ggj⟩
            |succ k =>
             have hjl:j<ds2.length:=by lia
             refine .inr ⟨src2.go _ _ j gg2 hjl,fun σj Hj=>j+1+k=ds2.length∧∃tj aj rj vj,RS X.K (Dd::F') Hj [] tj σj∧zk4 kt2 ft2 fe (ds2.drop (j+1)) tj=some (rj,tE)∧aj++(rj++ys)=xs∧Hj Dd=some (.lst vj)∧Reps X.K (hide (Dd::F') Hj) aj vj∧Same H1 Hj∧Good (Dd::F') Hj∧Good2 (Dd::F') Hj,
              fun σ' H' q=>⟨k,zav5 k,q⟩,fun xj H5 yj=>?_⟩
             obtain⟨gs5,dj,hdj,rdj⟩:=src2.yld _ _ j xj H5 gg2 Rj.mu yj hjl
             have edj:ds2.drop j=dj::ds2.drop (j+1):=by
              have hd':ds2[j]=dj:=by
               rw [zar5 hjl]at hdj
               exact Option.some.inj hdj
              rw [← hd']
              exact zat0 hjl
             rw [edj]at ej
             unfold zk4 at ej
             cases w1:kt2 dj tj with
             |none=>rw [w1]at ej;cases ej
             |some t6 =>
              rw [w1]at ej
              simp only [zar2]at ej
              refine hk2 (Dd::F') σj H5 [] tj t6 dj xj _ (Rj.grow gs5) rdj w1 fun σ6 A6 gr6 R6=>?_
              have A60:=zl1 R6 gr6
              subst A60
              cases w2:ft2 t6 with
              |none=>rw [w2]at ej;cases ej
              |some b6 =>
               rw [w2]at ej
               simp only [zar2]at ej
               refine⟨Dd::F',[],t6,b6,R6,w2,fun H6 gs6=>?_⟩
               cases b6 with
               |false =>
                exact iteF ⟨by lia,t6,aj,rj,vj,R6.grow gs6,by simpa using ej,exj,gs6 _ _ (gs5 _ _ hvj),Reps.mono (za8 (gs5.trans gs6)) hrj,(smj.trans gs5).trans gs6,src.keep _ _ _ _ ggj (za8 (gs5.trans gs6)),src2.keep _ _ _ _ gg2 (za8 (gs5.trans gs6))⟩
               |true =>
                simp only [if_true]at ej
                cases w3:fe t6 with
                |none=>rw [w3]at ej;cases ej
                |some re =>
                 rw [w3]at ej
                 simp only [zar2]at ej
                 cases w4:zk4 kt2 ft2 fe (ds2.drop (j+1)) t6 with
                 |none=>rw [w4]at ej;cases ej
                 |some qq =>
                  obtain⟨zs,tz⟩:=qq
                  rw [w4]at ej
                  cases ej
                  refine iteT ⟨Dd::F',[],t6,re,R6.grow gs6,w3,fun v H7 gs7 q7=>⟨vj,gs7 _ _ (gs6 _ _ (gs5 _ _ hvj)),?_,?_⟩⟩
                  ·have l1:=hrj.length
                   have l2:aj.length+(zs.length+1+ys.length)=xs.length:=by rw [← exj];simp;lia
                   exact zas5 (show vj.length<50000 by lia) (by rw [sizeLine_eq];decide)
                  ·have s7:=(gs5.trans gs6).trans gs7
                   have hu:Same (hide (Dd::F') H7) (hide (Dd::F') (upd H7 Dd (.lst (vj++[v])))):=zf9 (zar4 ..)
                   have rv:=q7.cleanF ((R6.grow gs6).mu)
                   refine⟨by lia,t6,aj++[re.d],zs,vj++[v],RS.updF ((R6.grow gs6).grow gs7) (zar4 ..),w4,by simpa using exj,zb0,?_,?_,?_,?_⟩
                   ·exact (Reps.mono (fun b o z=>hu _ _ (za8 s7 _ _ z)) hrj).app (Reps.one (Rep.mono hu rv))
                   ·exact fun b o z=>by
                     rw [zb4 (fun w=>by rw [w,hD]at z;cases z)]
                     exact s7 _ _ (smj _ _ z)
                   ·exact src.keep _ _ _ _ ggj (fun b o z=>hu _ _ (za8 s7 _ _ z))
                   ·exact src2.keep _ _ _ _ gg2 (fun b o z=>hu _ _ (za8 s7 _ _ z))
theorem zah5 {X:Cx}{F:List Addr}{elt tg iter tg2 iter2:Expr}{ifs ifs2:List Expr}{scope:Scope}{pos:Pos}{fs fs2:DI}{g g2:TG}{kt kt2:D→Th→Option Th}{ft ft2:DT}{fe:DE} (n:Nat) (cap:List Nat) (N':List Str) (hc:X.calm=true) (hi:PI X tg iter (dI X.K F fs))
  (hg:∀C s₃ H₃ fp pins,PG (blk X N' scope C s₃ H₃ fp pins) tg g) (hk:∀F',TgOk X.K F' g kt) (ht:∀C s₃ H₃ fp pins F',PTs (blk X N' scope C s₃ H₃ fp pins) ifs (dT X.K F' ft))
  (hi2:∀C s₃ H₃ fp pins F',PI (blk X N' scope C s₃ H₃ fp pins) tg2 iter2 (dI X.K F' fs2)) (hg2:∀C s₃ H₃ fp pins,PG (blk X N' scope C s₃ H₃ fp pins) tg2 g2) (hk2:∀F',TgOk X.K F' g2 kt2) (ht2:∀C s₃ H₃ fp pins F',PTs (blk X N' scope C s₃ H₃ fp pins) ifs2 (dT X.K F' ft2))
  (he:∀C s₃ H₃ fp pins F',PE (blk X N' scope C s₃ H₃ fp pins) elt (dE X.K F' fe))
  (hkd:scope.kind=.function:=by rfl) (hcs:zy7 scope.names X.env.kindOf=true:=by rfl) (hN:N'.length=n+cap.length:=by rfl) (hcap:zac6 N' X.N n scope.names 0 cap=true:=by rfl)
  (hs:∀x,foldedSetIterable iter X.env x=pure x:=by intro _;rfl) (hs2:∀C s₃ H₃ fp pins x,foldedSetIterable iter2 (blk X N' scope C s₃ H₃ fp pins).env x=pure x:=by intros;rfl) :
  PE X (.ListComp elt [⟨tg,iter,ifs,0⟩,⟨tg2,iter2,ifs2,0⟩] scope pos) (dE X.K F (zt6 n cap fs kt ft fs2 kt2 ft2 fe)) :=
 PE.imp (pe_compG (g:=g) (zap5 hkd hcs) hc hi hN (fun k j e=>by simpa using zq0 hcap k j e) hg (fun C s₃ H₃ fp pins pins' s σ H Q I ⟨F',q⟩=>ht C s₃ H₃ fp pins F' pins' s σ H Q I q)
  (fun C s₃ H₃ fp pins D=>zal3 rfl rfl (fun pins' s σ H R I ⟨F',q⟩=>hi2 C s₃ H₃ fp pins F' pins' s σ H R I q) (hg2 C s₃ H₃ fp pins) (fun pins' s σ H Q I ⟨F',q⟩=>ht2 C s₃ H₃ fp pins F' pins' s σ H Q I q) (fun pins' s σ H Q I ⟨F',q⟩=>he C s₃ H₃ fp pins F' pins' s σ H Q I q) (hs2 C s₃ H₃ fp pins)) rfl hs) fun _ _ _ h=>zaj5 hk hk2 h
section
variable {X:Cx}{F:List Addr}{a b c:Expr}{es:List Expr}{fa fb fc:DE}{pos:Pos}
noncomputable def zo4:List Ev→Option Ev:=fun rs=>match rs with
 |[r]=>(match r.d with
  |.lst ds=>if r.ok||flats ds then some (.nw ds) else none
  |_=>none)
 |_=>none
theorem zac5:CallD X F (.type "list") zo4:=CallD.of zz1 fun H0 H A xs rs e Q m g q ek hq=>by
 unfold zo4 at ek
 split at ek
 ·rename_i r
  cases q with
  |cons q1 q2 =>
   cases q2
   split at ek
   ·rename_i ds z
    split at ek
    case isFalse=>cases ek
    rename_i c
    cases ek
    obtain⟨p,vs,rfl,h1,h2⟩:=q1.items m g z c
    exact⟨p,vs,rfl,.inl h1,fun l hl=>hq _ _ (zc2 hl) ⟨l,vs,rfl,Same.free g hl,zb0,Reps.mono (zj1 hl) h2⟩⟩
   ·cases ek
 ·cases ek
end
end DL
namespace DL
open PySem.Spec L2
def zf6:List D→Option (List Int)
 |[]=>some []
 |.int i::r=>(zf6 r).map fun ns=>i::ns
 |_::_=>none
theorem zh4:∀ {ds:List D}{ns:List Int},zf6 ds=some ns→ds=ns.map D.int
 |[],ns,e=>by cases e;rfl
 |.int i::r,ns,e=>by
  unfold zf6 at e
  cases e1:zf6 r with
  |none=>rw [e1]at e;cases e
  |some m=>rw [e1]at e;cases e;rw [zh4 e1];rfl
 |.non::r,ns,e=>by cases e
 |.bl _::r,ns,e=>by cases e
 |.str _::r,ns,e=>by cases e
 |.tup _::r,ns,e=>by cases e
 |.lst _::r,ns,e=>by cases e
theorem intsD_map (ns:List Int):zf6 (ns.map D.int)=some ns:=by
 induction ns with
 |nil=>rfl
 |cons n r ih=>simp [zf6,ih]
theorem zd7 {K:zaq9}{H:Hp}:∀ {ns:List Int}{vs:List V},Reps K H (ns.map D.int) vs→vs=ns.map V.int
 |[],_,.nil=>rfl
 |n::r,_,.cons h q=>by cases zg3 h;rw [zd7 q];rfl
theorem zab6 (i j:Int):eqD (.int i) (.int j)=decide (i=j):=by
 rw [zaw6,eqD_true];simp
theorem sm_iff {i:Int}:sm i=true↔i.natAbs<bnd:=by simp [sm]
theorem sm_lt {i:Int} (h:i.natAbs<2 ^ 256):sm i=true:=sm_iff.mpr (zas5 h (by unfold bnd;exact zay6 (by decide) (by decide)))
theorem sm_of {i:Int} (h1 : -10000000000000000000000000000000000000000000000000000000000000000000000000000<i) (h2:i<10000000000000000000000000000000000000000000000000000000000000000000000000000):sm i=true:=by
 apply sm_lt
 have:(2:Nat) ^ 256=115792089237316195423570985008687907853269984665640564039457584007913129639936:=by decide
 lia
theorem fmod_pos {a b:Int} (h:0<b):0≤a.fmod b∧a.fmod b<b:=by
 rw [Int.fmod_eq_emod_of_nonneg a (by lia)]
 exact⟨Int.emod_nonneg a (by lia),Int.emod_lt_of_pos a h⟩
theorem zn9 (d:D):eqD d d=true:=eqD_true.mpr rfl
theorem za9 {g1 g2:DS}{t t':Th} (h:g1 t=some (.nx t')):dSeq g1 g2 t=g2 t':=by simp [dSeq,h]
theorem seq_rt {g1 g2:DS}{t:Th}{r:Ev} (h:g1 t=some (.rt r)):dSeq g1 g2 t=some (.rt r):=by simp [dSeq,h]
theorem RepDs.length {K:zaq9}{H0 H:Hp}:∀ {ds:List D}{vs:List V}{B:List Addr},RepDs K H0 H ds vs B→vs.length=ds.length
 |_,_,_,.nil=>rfl
 |_,_,_,.cons _ r=>by simp [RepDs.length r]
theorem RepDs.focus {K:zaq9}{H0 H:Hp}:∀ {ds:List D}{vs:List V}{B:List Addr},RepDs K H0 H ds vs B→∀ {j:Nat}{d:D},ds[j]?=some d→∃v B1,vs[j]?=some v∧RepD K H0 H d v B1∧(∀b∈B1,b∈B)∧(B.Nodup→B1.Nodup) ∧
  ∀H0' H' d2 B2,Same H0 H0'→RepD K H0' H' d2 v B2→B2.Sublist B1→(∀q∈B,q∉B1→∀o,H q=some o→H' q=some o)→B.Nodup→∃B',RepDs K H0' H' (ds.set j d2) vs B'∧B'.Sublist B
 |_,_,_,.nil,j,d,e=>by simp at e
 |_,_,_,.cons (v:=v) (B:=B) (C:=C) h r,0,d,e=>by
  simp at e;subst e
  refine⟨v,B,rfl,h,fun b hb=>zar0 _ hb,fun n=>(zas9.mp n).1,fun H0' H' d2 B2 s q sb k nd=>⟨B2++C,.cons q (RepDs.mono s r fun p hp o w=>?_),List.Sublist.append sb (List.Sublist.refl _)⟩⟩
  exact k p (zaq8 _ hp) (fun z=>(zas9.mp nd).2.2 p z p hp rfl) o w
 |_,_,_,.cons (v:=v) (B:=B) (C:=C) h r,j+1,d,e=>by
  obtain⟨v1,B1,a1,a2,a3,a5,a4⟩:=RepDs.focus r (j:=j) (d:=d) (by simpa using e)
  refine⟨v1,B1,by simpa using a1,a2,fun b hb=>zaq8 _ (a3 b hb),fun n=>a5 (zas9.mp n).2.1,fun H0' H' d2 B2 s q sb k nd=>?_⟩
  have n:=zas9.mp nd
  obtain⟨B',b1,b2⟩:=a4 H0' H' d2 B2 s q sb (fun q hq=>k q (zaq8 _ hq)) n.2.1
  refine⟨B++B',.cons (RepD.mono s h fun p hp o w=>k p (zar0 _ hp) (fun z=>n.2.2 p hp p (a3 p z) rfl) o w) b1,List.Sublist.append (List.Sublist.refl _) b2⟩
noncomputable def getP:D→List Int→Option D
 |d,[]=>some d
 |.tup ds,n::ns=>(atI ds n).bind fun x=>getP x ns
 |.lst ds,n::ns=>(atI ds n).bind fun x=>getP x ns
 |_,_::_=>none
noncomputable def putP:D→List Int→D→Option D
 |_,[],e=>some e
 |.tup ds,n::ns,e=>(ixN ds.length n).bind fun j=>(ds[j]?).bind fun x=>(putP x ns e).map fun y=>.tup (ds.set j y)
 |.lst ds,n::ns,e=>(ixN ds.length n).bind fun j=>(ds[j]?).bind fun x=>(putP x ns e).map fun y=>.lst (ds.set j y)
 |_,_::_,_=>none
noncomputable def Reach (K:zaq9) (H:Hp):V→List Int→V→Prop
 |v,[],w=>v=w
 |v,n::ns,w => ∃p vs x,v=.ref p∧(SqL K H p vs∨SqT K H p vs)∧atI vs n=some x∧Reach K H x ns w
theorem zy0:∀ {ds:List D}{j:Nat}{d:D},flats ds=true→ds[j]?=some d→flat d=true
 |[],j,d,_,e=>by simp at e
 |x::xs,0,d,f,e=>by simp [flats]at f;simp at e;subst e;exact f.1
 |x::xs,j+1,d,f,e=>by simp [flats]at f;exact zy0 f.2 (by simpa using e)
theorem flat_at {ds:List D}{n:Int}{d:D} (f:flats ds=true) (e:atI ds n=some d):flat d=true:=by
 unfold L2.atI at e
 cases e1:ixN ds.length n with
 |none=>rw [e1]at e;cases e
 |some j=>rw [e1]at e;exact zy0 f e
theorem zy2:∀(ns:List Int) {d d1:D},flat d=true→getP d ns=some d1→flat d1=true
 |[],d,d1,f,e=>by cases e;exact f
 |n::ns,.tup ds,d1,f,e=>by
  simp only [getP]at e
  cases e1:atI ds n with
  |none=>rw [e1]at e;cases e
  |some x=>rw [e1]at e;exact zy2 ns (flat_at (by simpa [flat] using f) e1) e
 |n::ns,.lst ds,d1,f,e=>by simp [flat]at f
 |n::ns,.non,d1,f,e=>by cases e
 |n::ns,.bl _,d1,f,e=>by cases e
 |n::ns,.int _,d1,f,e=>by cases e
 |n::ns,.str _,d1,f,e=>by cases e
noncomputable def Fin (K:zaq9) (H0 H:Hp) (d:D) (v:V) (B:List Addr) (ns:List Int) (p:Addr) (B1:List Addr):Prop :=
 ∀H0' H' es ws B2 d2,Same H0 H0'→H' p=some (.lst ws)→RepDs K H0' H' es ws B2→B2.Sublist B1→putP d ns (.lst es)=some d2→(∀q∈B,q≠p→∀o,H q=some o→H' q=some o)→B.Nodup→∃B',RepD K H0' H' d2 v B'∧B'.Sublist B
theorem atI_of {α:Type}{xs:List α}{n:Int}{x:α} (e:atI xs n=some x):∃j,ixN xs.length n=some j∧xs[j]?=some x:=by
 unfold L2.atI at e
 cases e1:ixN xs.length n with
 |none=>rw [e1]at e;cases e
 |some j=>rw [e1]at e;exact⟨j,rfl,e⟩
theorem RepD.focus {K:zaq9}{H0 H:Hp} (hs:Same H0 H):∀(ns:List Int) {d:D}{v:V}{B:List Addr}{ds1:List D},RepD K H0 H d v B→B.Nodup→getP d ns=some (.lst ds1) →
  ∃p vs1 B1,Reach K H v ns (.ref p)∧H p=some (.lst vs1)∧RepDs K H0 H ds1 vs1 B1∧p∈B∧(∀b∈B1,b∈B)∧p∉B1∧Fin K H0 H d v B ns p B1
 |[],d,v,B,ds1,h,nd,e=>by
  cases e
  cases h with
  |flat f r=>simp [DL.flat]at f
  |@lst _ p vs C h r =>
   refine⟨p,vs,C,rfl,h,r,zar4 ..,fun b hb=>zar1 _ hb,(zat3.mp nd).1,fun H0' H' es ws B2 d2 s e1 e2 sb e3 k nd=>?_⟩
   cases e3
   exact⟨p::B2,.lst e1 e2,sb.cons₂ _⟩
 |n::ns,d,v,B,ds1,h,nd,e=>by
  cases h with
  |flat f r=>exact absurd (zy2 (n::ns) f e) (by simp [DL.flat])
  |dct _ h r=>simp [getP]at e
  |pdc h=>simp [getP]at e
  |@tup ds p0 vs C h r =>
   simp only [getP]at e
   cases e1:atI ds n with
   |none=>rw [e1]at e;cases e
   |some x =>
    rw [e1]at e
    obtain⟨j,j1,j2⟩:=atI_of e1
    obtain⟨v1,B1,a1,a2,a3,a5,a4⟩:=r.focus j2
    obtain⟨p,vs1,B2,b1,b2,b3,b4,b5,b6,b7⟩:=RepD.focus hs ns a2 (a5 nd) e
    have ea:atI vs n=some v1:=by unfold L2.atI;rw [r.length,j1];exact a1
    refine⟨p,vs1,B2,⟨p0,vs,v1,rfl,.inr (SqT.mono hs h),ea,b1⟩,b2,b3,a3 p b4,fun b hb=>a3 b (b5 b hb),b6,fun H0' H' es ws B3 d2 s e1' e2 sb e3 k nd'=>?_⟩
    simp only [putP,j1,zar2,j2]at e3
    cases e4:putP x ns (.lst es) with
    |none=>rw [e4]at e3;cases e3
    |some y =>
     rw [e4]at e3
     cases e3
     obtain⟨B',c1,c2⟩:=b7 H0' H' es ws B3 y s e1' e2 sb e4 (fun q hq=>k q (a3 q hq)) (a5 nd')
     obtain⟨B'',c3,c4⟩:=a4 H0' H' y B' s c1 c2 (fun q hq nq=>k q hq fun z=>nq (z ▸ b4)) nd'
     exact⟨B'',.tup (SqT.mono s h) c3,c4⟩
  |@lst ds p0 vs C h r =>
   simp only [getP]at e
   have n0:=zat3.mp nd
   cases e1:atI ds n with
   |none=>rw [e1]at e;cases e
   |some x =>
    rw [e1]at e
    obtain⟨j,j1,j2⟩:=atI_of e1
    obtain⟨v1,B1,a1,a2,a3,a5,a4⟩:=r.focus j2
    obtain⟨p,vs1,B2,b1,b2,b3,b4,b5,b6,b7⟩:=RepD.focus hs ns a2 (a5 n0.2) e
    have ea:atI vs n=some v1:=by unfold L2.atI;rw [r.length,j1];exact a1
    refine⟨p,vs1,B2,⟨p0,vs,v1,rfl,.inl (SqL.of h),ea,b1⟩,b2,b3,zar1 _ (a3 p b4),fun b hb=>zar1 _ (a3 b (b5 b hb)),b6,fun H0' H' es ws B3 d2 s e1' e2 sb e3 k nd'=>?_⟩
    simp only [putP,j1,zar2,j2]at e3
    cases e4:putP x ns (.lst es) with
    |none=>rw [e4]at e3;cases e3
    |some y =>
     rw [e4]at e3
     cases e3
     obtain⟨B',c1,c2⟩:=b7 H0' H' es ws B3 y s e1' e2 sb e4 (fun q hq=>k q (zar1 _ (a3 q hq))) (a5 n0.2)
     obtain⟨B'',c3,c4⟩:=a4 H0' H' y B' s c1 c2 (fun q hq nq=>k q (zar1 _ hq) fun z=>nq (z ▸ b4)) n0.2
     exact⟨p0::B'',.lst (k p0 (zar4 ..) (fun z=>n0.1 (z ▸ a3 p b4)) _ h) c3,c4.cons₂ _⟩
theorem RSl.focusDp {K:zaq9}{H0 H:Hp}:∀ {t:Th}{σ:L2.St}{A:List Addr},RSl K H0 H t σ A→A.Nodup→∀ {i:Nat}{d:D},t[i]?=some (.dp d)→∃v B,σ[i]?=some (some v)∧(∀b∈B,b∈A)∧B.Nodup∧RepD K H0 H d v B ∧
  ∀H0' H' d2 B2,Same H0 H0'→RepD K H0' H' d2 v B2→B2.Sublist B→(∀q∈A,q∉B→∀o,H q=some o→H' q=some o)→∃A2,RSl K H0' H' (t.set i (.dp d2)) σ A2∧A2.Sublist A:=by
 intro _ _ _ h
 induction h with
 |nil =>
  intro n i d e
  simp at e
 |@no _ _ _ _ r ih =>
  intro n i d e
  cases i with
  |zero =>
   simp at e
  |succ i =>
   obtain⟨v,B,a,b,n',c,k⟩:=ih n (i:=i) (d:=d) (by simpa using e)
   refine⟨v,B,by simpa using a,b,n',c,fun H0' H' d2 B2 s q sb w=>?_⟩
   obtain⟨A2,x,y⟩:=k H0' H' d2 B2 s q sb w
   exact⟨A2,.no x,y⟩
 |@val _ v _ _ _ h r ih =>
  intro n i d e
  cases i with
  |zero =>
   simp at e
  |succ i =>
   obtain⟨v,B,a,b,n',c,k⟩:=ih n (i:=i) (d:=d) (by simpa using e)
   refine⟨v,B,by simpa using a,b,n',c,fun H0' H' d2 B2 s q sb w=>?_⟩
   obtain⟨A2,x,y⟩:=k H0' H' d2 B2 s q sb w
   exact⟨A2,.val (Rep.mono s h) x,y⟩
 |@own p _ _ _ _ _ h1 h2 r ih =>
  intro n i d e
  cases i with
  |zero =>
   simp at e
  |succ i =>
   have n0:=zat3.mp n
   obtain⟨v,B,a,b,n',c,k⟩:=ih n0.2 (i:=i) (d:=d) (by simpa using e)
   refine⟨v,B,by simpa using a,fun x hx=>zar1 _ (b x hx),n',c,fun H0' H' d2 B2 s q sb w=>?_⟩
   obtain⟨A2,x,y⟩:=k H0' H' d2 B2 s q sb (fun q hq=>w q (zar1 _ hq))
   exact⟨p::A2,.own (w p (zar4 ..) (fun z=>n0.1 (b p z)) _ h1) (Reps.mono s h2) x,y.cons₂ _⟩
 |@dp _ v C _ _ _ h r ih =>
  intro n i d e
  cases i with
  |zero =>
   simp at e;subst e
   have n0:=zas9.mp n
   refine⟨v,C,rfl,fun x hx=>zar0 _ hx,n0.1,h,fun H0' H' d2 B2 s q sb w=>?_⟩
   exact⟨_,.dp q (RSl.mono s r fun p hp=>w p (zaq8 _ hp) fun z=>n0.2.2 p z p hp rfl),List.Sublist.append sb (List.Sublist.refl _)⟩
  |succ i =>
   have n0:=zas9.mp n
   obtain⟨v,B,a,b,n',c,k⟩:=ih n0.2.1 (i:=i) (d:=d) (by simpa using e)
   refine⟨v,B,by simpa using a,fun x hx=>zaq8 _ (b x hx),n',c,fun H0' H' d2 B2 s q sb w=>?_⟩
   obtain⟨A2,x,y⟩:=k H0' H' d2 B2 s q sb (fun q hq=>w q (zaq8 _ hq))
   exact⟨C++A2,.dp (RepD.mono s h fun p hp=>w p (zar0 _ hp) fun z=>n0.2.2 p hp p (b p z) rfl) x,List.Sublist.append (List.Sublist.refl _) y⟩
theorem RS.place {K:zaq9}{F A:List Addr}{H:Hp}{t:Th}{σ:L2.St}{i:Nat}{d:D}{ns:List Int}{ds1:List D} (R:RS K F H A t σ) (e:t[i]?=some (.dp d)) (e1:getP d ns=some (.lst ds1)) :
  ∃v p vs1 B1,σ[i]?=some (some v)∧Reach K H v ns (.ref p)∧H p=some (.lst vs1)∧RepDs K (hide (A++F) H) H ds1 vs1 B1∧p∉B1∧p∈A ∧
   ∀H1 es ws B2 d2,Same H H1→(∀H',(∀q,q≠p→H' q=H1 q)→Same (hide (A++F) H) (hide (A++F) H')→RepDs K (hide (A++F) H') H' es ws B2)→B2.Sublist B1→putP d ns (.lst es)=some d2 →
    ∃A2,RS K F (L2.upd H1 p (.lst ws)) A2 (t.set i (.dp d2)) σ∧Gr A H A2 (L2.upd H1 p (.lst ws)):=by
 obtain⟨v,B,a1,a2,a3,a4,a5⟩:=R.rel.focusDp R.nd e
 obtain⟨p,vs1,B1,b1,b2,b3,b4,b5,b6,b7⟩:=a4.focus (zb1 _ _) ns a3 e1
 refine⟨v,p,vs1,B1,a1,b1,b2,b3,b6,a2 p b4,fun H1 es ws B2 d2 gs mk sb ep=>?_⟩
 have pA:p∈A:=a2 p b4
 have hh:Same (hide (A++F) H) (hide (A++F) (L2.upd H1 p (.lst ws))):=fun b o q=>by
  obtain⟨n,q⟩:=zf5 q
  have nb:b≠p:=fun z=>n (zar0 _ (z ▸ pA))
  exact zb7 (by rw [zb4 nb];exact gs _ _ q) n
 have kp:∀q∈A,q≠p→∀o,H q=some o→L2.upd H1 p (.lst ws) q=some o:=fun q _ n o h=>by rw [zb4 n];exact gs _ _ h
 obtain⟨B',c1,c2⟩:=b7 (hide (A++F) (L2.upd H1 p (.lst ws))) (L2.upd H1 p (.lst ws)) es ws B2 d2 hh zb0 (mk _ (fun q n=>zb4 n) hh) sb ep (fun q hq=>kp q (a2 q hq)) a3
 obtain⟨A2,d1,d3⟩:=a5 _ _ d2 B' hh c1 c2 (fun q hq nq=>kp q hq fun z=>nq (z ▸ b4))
 have sub:∀x∈A2,x∈A:=fun x hx=>d3.subset hx
 have mu:Lists (L2.upd H1 p (.lst ws)) (A++F):=fun q hq=>by
  by_cases z:q=p
  ·exact⟨mL ws,by rw [z];exact zb0⟩
  ·obtain⟨us,w⟩:=R.mu q hq
   exact⟨us,by rw [zb4 z];exact gs _ _ w⟩
 refine⟨A2,⟨fun q hq=>mu q ?_,R.nd.sublist d3,fun q hq=>R.dj q (sub q hq),RSl.mono (za7 _ fun a z=>?_) d1 fun _ _ _ h=>h⟩,fun b o n h=>?_,fun b hb=>?_,fun b hb=>.inl (sub b hb)⟩
 ·exact (zar3.mp hq).elim (fun z=>zar0 _ (sub q z)) (fun z=>zaq8 _ z)
 ·exact (zar3.mp z).elim (fun z=>zar0 _ (sub a z)) (fun z=>zaq8 _ z)
 ·rw [zb4 (fun z=>n (by rw [z];exact pA))];exact gs _ _ h
 ·obtain⟨us,w⟩:=mu b (zar0 _ hb)
  rw [w];simp
noncomputable def pthD:List DE→Th→Option (List Int)
 |[],_=>some []
 |f::fs,t=>(f t).bind fun r=>match r.d with
  |.int n=>(pthD fs t).map (n::·)
  |_=>none
theorem zw2 {f:DE}{t:Th}:∀ {fs:List DE}{ns':List Int},pthD (fs++[f]) t=some ns'→∃ns n r,pthD fs t=some ns∧f t=some r∧r.d=.int n∧ns'=ns++[n]
 |[],ns',e=>by
  simp only [zbc5,pthD]at e
  cases e1:f t with
  |none=>rw [e1]at e;cases e
  |some r =>
   rw [e1]at e
   simp only [zar2]at e
   split at e
   ·rename_i n z;cases e;exact⟨[],n,r,rfl,rfl,z,rfl⟩
   ·cases e
 |g::fs,ns',e=>by
  simp only [List.cons_append,pthD]at e
  cases e1:g t with
  |none=>rw [e1]at e;cases e
  |some r =>
   rw [e1]at e
   simp only [zar2]at e
   split at e
   ·rename_i n z
    cases e2:pthD (fs++[f]) t with
    |none=>rw [e2]at e;cases e
    |some ms =>
     rw [e2]at e
     cases e
     obtain⟨ns,m,r',a1,a2,a3,a4⟩:=zw2 e2
     refine⟨n::ns,m,r',?_,a2,a3,by rw [a4];rfl⟩
     simp only [pthD,e1,zar2,z,a1];rfl
   ·cases e
theorem Reach.snoc {K:zaq9}{H:Hp}{n:Int}{w:V}:∀ {ns:List Int}{v:V},Reach K H v (ns++[n]) w→∃p vs,Reach K H v ns (.ref p)∧(SqL K H p vs∨SqT K H p vs)∧atI vs n=some w
 |[],v,h=>by
  obtain⟨p,vs,x,rfl,h1,h2,h3⟩:=h
  cases h3
  exact⟨p,vs,rfl,h1,h2⟩
 |m::ns,v,h=>by
  obtain⟨p,vs,x,rfl,h1,h2,h3⟩:=h
  obtain⟨p',vs',a1,a2,a3⟩:=Reach.snoc h3
  exact⟨p',vs',⟨p,vs,x,rfl,h1,h2,a1⟩,a2,a3⟩
noncomputable def plE (K:zaq9) (F:List Addr) (i:Nat) (fs:List DE):TE:=fun σ H Q => ∃A t v ns w,RS K F H A t σ∧pthD fs t=some ns∧σ[i]?=some (some v)∧Reach K H v ns w∧∀H',Same H H'→Q w H'
section
variable {X:Cx}{F:List Addr}{a b c o:Expr}{es:List Expr}{fa fb fc:DE}{fs:List DE}{g g1 g2:DS}{ft fu:DT}{pos:Pos}{st:Stmt}{rest:List Stmt}{tg:Expr}{gt:TG}{kt:D→Th→Option Th}
theorem zae5 (i:Nat) {x:Str} (hN:X.N[i]?=some x:=by rfl) (hv:Vis X.env.scope x:=by first | exact Or.inl rfl | exact Or.inr (Or.inl rfl) |exact Or.inr (Or.inr rfl)) (hd:(x ==("__debug__":Str))=false:=by decide)
  (hcd:(x ==("__classdict__":Str))=false:=by decide):PE X (.Name x pos) (plE X.K F i []):=by
 refine PE.imp (zj6 (i:=i) hN hv hd hcd) ?_
 rintro σ H Q ⟨A,t,v,ns,w,R,e,h1,h2,h⟩
 cases e
 cases h2
 exact⟨v,h1,h H (Same.refl H)⟩
theorem pl_ix {i:Nat} (ha:PE X a (plE X.K F i fs)) (hb:PE X b (dE X.K F fb)) (hs:zad0 b:=by intro _ _;rfl):PE X (.Subscript a b pos) (plE X.K F i (fs++[fb])):=by
 refine PE.imp (pe_ix (ix_list.or ix_tup) ha hb hs) ?_
 rintro σ H Q ⟨A,t,v,ns,w,R,e,h1,h2,h⟩
 obtain⟨ms,n,r,a1,a2,a3,rfl⟩:=zw2 e
 obtain⟨p,vs,b1,b2,b3⟩:=h2.snoc
 refine⟨A,t,v,ms,.ref p,R,a1,h1,b1,fun H1 gs=>⟨A,t,r,R.grow gs,a2,fun y H2 gs2 q=>?_⟩⟩
 have p2:=q.full
 rw [a3]at p2
 cases zg3 p2
 rcases b2 with b2 | b2
 ·exact .inl ⟨p,vs,n,w,rfl,rfl,SqL.mono (gs.trans gs2) b2,b3,h H2 (gs.trans gs2)⟩
 ·exact .inr ⟨p,vs,n,w,rfl,rfl,SqT.mono (gs.trans gs2) b2,b3,h H2 (gs.trans gs2)⟩
noncomputable def zan5 (t:Th) (i:Nat) (ns:List Int) (r:Ev):Option Out:=match t[i]? with
 |some (.dp d)=>match getP d ns with
  |some (.lst ds)=>if flat r.d&&decide (ds.length<100000) then (putP d ns (.lst (ds++[r.d]))).map fun d2=>.nx (t.set i (.dp d2)) else none
  |_=>none
 |_=>none
def zai5 (i:Nat) (fs:List DE) (f:DE):DS:=fun t=>(pthD fs t).bind fun ns=>(f t).bind (zan5 t i ns)
theorem RepDs.app1 {K:zaq9}{H0 H:Hp}{d:D}{v:V} (q:RepD K H0 H d v []):∀ {ds:List D}{vs:List V}{B:List Addr},RepDs K H0 H ds vs B→RepDs K H0 H (ds++[d]) (vs++[v]) B
 |_,_,_,.nil=>.cons (B:=[]) (C:=[]) q .nil
 |_,_,_,.cons h r=>.cons h (RepDs.app1 q r)
theorem Rep.off {K:zaq9}{H1 H':Hp}{P:List Addr}{p:Addr}{d:D}{v:V}{vs:List V} (m:Lists H1 P) (hp:H1 p=some (.lst vs)) (k:∀q,q≠p→H' q=H1 q) (f:flat d=true) (r:Rep K H1 d v):Rep K (hide P H') d v:=by
 have:=Rep.hid (P:=p::P) (fun b hb=>by
  rcases zar8.mp hb with rfl | hb
  ·exact⟨mL vs,hp⟩
  ·exact m b hb) f r
 refine Rep.mono (fun b o h=>?_) this
 obtain⟨n,h⟩:=zf5 h
 exact zb7 (by rw [k b fun z=>n (z ▸ zar4 ..)];exact h) fun z=>n (zar1 _ z)
theorem psd_appP (i:Nat) {apos cpos:Pos} (ho:PE X o (plE X.K F i fs)) (he:PE X a (dE X.K F fa)) (hst:zat2 [a] X.env=[(false,eval a X.env)]:=by rfl)
  (hbase:attributeBase o "append" X.env (eval o X.env)=eval o X.env:=by rfl)
  (hfew:((zay7 cpos (zat2 [a] X.env)).all (fun x=>!x.1)&&(backToKw cpos (keywordEach [] X.env)).all (fun x=>x.1.isSome)
   && decide ([a].length+([]:List Keyword).length+(if ([]:List Keyword).isEmpty then 0 else 1)<30))=true:=by rfl)
  (hline:(apos.endLine == cpos.line)=true:=by rfl) (hplain:(zay7 cpos (zat2 [] X.env)).any (·.1)=false:=by rfl)
  (hsw:swapsWith (.Call (.Attribute o "append" apos) [a] [] cpos) none pos.line X.env=pure false:=by rfl) :
  PS X (.Expr (.Call (.Attribute o "append" apos) [a] [] cpos) pos) (dS X.K F (zai5 i fs fa)):=by
 refine PS.imp (zq5 (pe_bm zav1 zbb0 zbb1 zk1 ho (zh9 he zl6 hst) hbase hfew hline hst hplain) hsw) ?_
 rintro E σ H ⟨A,t,o,R,e,h⟩
 unfold zai5 at e
 cases e0:pthD fs t with
 |none=>rw [e0]at e;cases e
 |some ns =>
 cases e1:fa t with
 |none=>rw [e0,e1]at e;cases e
 |some r =>
  rw [e0,e1]at e
  have e:zan5 t i ns r=some o:=e
  unfold zan5 at e
  split at e
  case h_2=>cases e
  rename_i d z
  split at e
  case h_2=>cases e
  rename_i ds z1
  split at e
  case isFalse=>cases e
  rename_i ok
  simp only [zar9,decide_eq_true_eq]at ok
  cases e3:putP d ns (.lst (ds++[r.d])) with
  |none=>rw [e3]at e;cases e
  |some d2 =>
   rw [e3]at e
   cases e
   obtain⟨v,p,vs1,B1,a1,a2,a3,a4,a5,a6,a7⟩:=R.place z z1
   refine⟨A,t,v,ns,.ref p,R,e0,a1,a2,fun H1 gs=>⟨.inl ⟨rfl,vs1,SqL.of (gs _ _ a3)⟩,A,t,r,R.grow gs,e1,fun y H2 gs2 q=>⟨p,vs1,y,rfl,rfl,gs2 _ _ (gs _ _ a3),?_,?_⟩⟩⟩
   ·have:vs1.length<100000:=by rw [a4.length];exact ok.2
    exact zas5 this (by rw [sizeLine_eq];decide)
   ·have g2:=gs.trans gs2
    obtain⟨A2,R2,gr⟩:=a7 H2 (ds++[r.d]) (vs1++[y]) B1 d2 g2 (fun H' k hh=>by
     refine RepDs.app1 (.flat ok.1 (Rep.off (R.mu.mono g2) (g2 _ _ a3) k ok.1 q.full)) (RepDs.mono hh a4 fun b hb o w=>?_)
     rw [k b fun z=>a5 (z ▸ hb)]
     exact g2 _ _ w) (List.Sublist.refl _) e3
    exact h _ _ _ gr R2
end
end DL
namespace DL
open PySem.Spec L2
noncomputable def toDn:Ev→Option D
 |.cl d=>if flat d then some d else none
 |.tm d=>if flat d then some d else none
 |.nw xs=>if flats xs then some (.lst xs) else none
 |.dn d=>some d
theorem RepEv.toDn {K:zaq9}{F A:List Addr}{H H':Hp}{r:Ev}{v:V}{d:D} (m:Lists H (A++F)) (g:Same H H') (h:RepEv K F A H H' r v) (e:toDn r=some d):RepEv K F A H H' (.dn d) v:=by
 cases r with
 |cl d0 =>
  simp only [DL.toDn]at e
  split at e
  ·rename_i f;cases e
   exact⟨[],zav4,fun b hb=>(by cases hb),.flat f h⟩
  ·cases e
 |tm d0 =>
  simp only [DL.toDn]at e
  split at e
  ·rename_i f;cases e
   exact⟨[],zav4,fun b hb=>(by cases hb),.flat f (Rep.hid (m.mono g) f (Rep.mono (zb1 _ _) h))⟩
  ·cases e
 |nw xs =>
  simp only [DL.toDn]at e
  split at e
  ·rename_i f;cases e
   obtain⟨p,vs,rfl,h1,h2,h3⟩:=h
   exact⟨[p],by simp,fun b hb=>by simp at hb;subst hb;exact h1,.lst h2 (RepDs.of_flat f h3)⟩
  ·cases e
 |dn d0=>cases e;exact h
abbrev DN:=Th→Option (D×List Nat)
abbrev DNs:=Th→Option (List D×List Nat)
theorem RepDs.appD {K:zaq9}{H0 H:Hp}{d:D}{v:V}{C:List Addr} (q:RepD K H0 H d v C):∀ {ds:List D}{vs:List V}{B:List Addr},RepDs K H0 H ds vs B→RepDs K H0 H (ds++[d]) (vs++[v]) (B++C)
 |_,_,_,.nil=>by
  have:=RepDs.cons q .nil
  simpa using this
 |_,_,_,.cons h r=>by
  have:=RepDs.cons h (RepDs.appD q r)
  simpa [zax3] using this
noncomputable def ze4 (k:D→Th→Option Th) (ft:DT) (fe:DE):List D→Th→Option (List D)
 |[],_=>some []
 |d::ds,t=>(k d t).bind fun t1=>(ft t1).bind fun b=>if b then (fe t1).bind fun r=>(toDn r).bind fun d=>(ze4 k ft fe ds t1).map fun xs=>d::xs else ze4 k ft fe ds t1
noncomputable def zh5 (n:Nat) (cap:List Nat) (fs:DI) (k:D→Th→Option Th) (ft:DT) (fe:DE):DE:=fun t=>(fs t).bind fun q=>(capD t cap).bind fun c=>if q.2.length≤50000 then (ze4 k ft fe q.2 (zar6 n Sl.no++c.2.map Sl.val)).map fun xs=>.dn (.lst xs) else none
theorem zr8 {k:D→Th→Option Th}{ft:DT}{fe:DE}:∀ {ds:List D}{t:Th}{xs:List D},ze4 k ft fe ds t=some xs→xs.length≤ds.length
 |[],t,xs,e=>by cases e;simp
 |d::ds,t,xs,e=>by
  unfold ze4 at e
  cases e1:k d t with
  |none=>rw [e1]at e;cases e
  |some t1 =>
   rw [e1]at e
   have e:((ft t1).bind fun b=>if b then (fe t1).bind fun r=>(toDn r).bind fun d=>(ze4 k ft fe ds t1).map fun xs=>d::xs else ze4 k ft fe ds t1)=some xs:=e
   cases e2:ft t1 with
   |none=>rw [e2]at e;cases e
   |some b =>
    rw [e2]at e
    cases b with
    |false=>have:=zr8 (ds:=ds) (t:=t1) e;simp;lia
    |true =>
     have e:((fe t1).bind fun r=>(toDn r).bind fun d=>(ze4 k ft fe ds t1).map fun xs=>d::xs)=some xs:=e
     cases e3:fe t1 with
     |none=>rw [e3]at e;cases e
     |some r =>
      rw [e3]at e
      have e:((toDn r).bind fun d=>(ze4 k ft fe ds t1).map fun xs=>d::xs)=some xs:=e
      cases e5:toDn r with
      |none=>rw [e5]at e;cases e
      |some d0 =>
       rw [e5]at e
       have e:((ze4 k ft fe ds t1).map fun xs=>d0::xs)=some xs:=e
       cases e4:ze4 k ft fe ds t1 with
       |none=>rw [e4]at e;cases e
       |some ys=>rw [e4]at e;cases e;have:=zr8 e4;simp;lia
theorem zaj4 {X:Cx}{F:List Addr}{n:Nat}{cap:List Nat}{fs:DI}{g:TG}{kt:D→Th→Option Th}{ft:DT}{fe:DE} (hk:∀F',TgOk X.K F' g kt) {σ:L2.St}{H:Hp}{Q:VK} (h:dE X.K F (zh5 n cap fs kt ft fe) σ H Q) :
  zz9 n cap (dI X.K F fs) g (fun σ H Q => ∃F',dT X.K F' ft σ H Q) (fun σ H Q => ∃F',dE X.K F' fe σ H Q) σ H Q:=by
 obtain⟨A,t,r,R,e,h⟩:=h
 unfold zh5 at e
 cases e1:fs t with
 |none=>rw [e1]at e;cases e
 |some q =>
  obtain⟨b,ds⟩:=q
  cases e2:capD t cap with
  |none=>rw [e1,e2]at e;cases e
  |some q2 =>
   obtain⟨c,caps⟩:=q2
   rw [e1,e2]at e
   have e:(if ds.length≤50000 then (ze4 kt ft fe ds (zar6 n Sl.no++caps.map Sl.val)).map fun xs=>Ev.dn (.lst xs) else none)=some r:=e
   split at e
   case isFalse=>cases e
   rename_i hlen
   cases e3:ze4 kt ft fe ds (zar6 n Sl.no++caps.map Sl.val) with
   |none=>rw [e3]at e;cases e
   |some xs =>
    rw [e3]at e
    cases e
    have xl:=zr8 e3
    obtain⟨cvs,cv1,cv2⟩:=zq1 R e2
    -- what is hidden from the block,but its own list
    obtain⟨F',F'def⟩:∃F',F'=hidF (b&&c) A F:=⟨_,rfl⟩
    have subF:∀x∈F',x∈A++F:=fun x hx=>by
     rw [F'def]at hx
     unfold hidF at hx
     split at hx
     ·exact hx
     ·exact zaq8 _ hx
    have lessB:∀H:Hp,Same (hide (hidF b A F) H) (hide F' H):=fun H=>za7 H fun x hx=>by
     rw [F'def]at hx
     cases b<;>cases c<;>simp [hidF]at hx ⊢<;>first | exact hx | exact .inr hx | (rcases hx with z | z<;>simp [z])
    have lessC:∀H:Hp,Same (hide (hidF c A F) H) (hide F' H):=fun H=>za7 H fun x hx=>by
     rw [F'def]at hx
     cases b<;>cases c<;>simp [hidF]at hx ⊢<;>first | exact hx | exact .inr hx | (rcases hx with z | z<;>simp [z])
    have wi:zz9 n cap (dI X.K F fs) g (fun σ H Q => ∃F',dT X.K F' ft σ H Q) (fun σ H Q => ∃F',dE X.K F' fe σ H Q) σ H Q:=by
     refine⟨A,t,b,ds,R,e1,fun J H1 Good gs src gd Dd hD=>?_⟩
     have H1A:Lists H1 (A++F):=R.mu.mono gs
     have st0:Same (hide F' H1) (hide (Dd::F') (upd H1 Dd (.lst []))):=zj1 hD
     refine⟨fun i m σ' H'=>i+m=ds.length∧∃th acc rest vs B,RS X.K (Dd::F') H' [] th σ'∧ze4 kt ft fe (ds.drop i) th=some rest∧acc++rest=xs∧H' Dd=some (.lst vs)∧(RepDs X.K (hide (Dd::F') H') H' acc vs B∧B.Nodup∧Dd∉B∧∀b∈B,H1 b=none)∧Same H1 H'∧Good (Dd::F') H',
      ⟨ds.length,by lia,_,[],xs,[],[],⟨?_,zav4,fun p hp=>(by cases hp),?_⟩,by simpa using e3,rfl,zb0,⟨.nil,zav4,by simp,by simp⟩,zc2 hD,src.keep _ _ _ _ gd (fun b o z=>st0 _ _ (lessB _ _ _ z))⟩,?_⟩
     ·intro q hq
      have hq:q∈Dd::F':=hq
      rcases zar8.mp hq with z | z
      ·exact⟨mL [],by rw [z];exact zb0⟩
      ·obtain⟨us,w⟩:=H1A q (subF q z)
       exact⟨us,(zc2 hD) _ _ w⟩
     ·unfold capV
      rw [cv1]
      exact RSl.noVals (Reps.mono (fun b o z=>st0 _ _ (lessC H1 _ _ (za8 gs _ _ z))) cv2) n
     ·rintro i m σ' H' ⟨hm,th,acc,rest,vs,B,RR,ec,ex,hv,⟨hr,hnd,hDB,hfr⟩,sm,gg⟩
      cases m with
      |zero =>
       have z:i=ds.length:=by lia
       subst z
       rw [zax7]at ec
       cases ec
       rw [zau6]at ex
       subst ex
       refine .inl ⟨src.stop _ _ gg,h _ H' (gs.trans sm) ⟨Dd::B,zat3.mpr ⟨hDB,hnd⟩,fun x hx=>?_,.lst hv (RepDs.hid (fun q hq=>?_) (zb1 _ _) hr)⟩⟩
       ·rcases zar8.mp hx with rfl | z
        ·exact Same.free gs hD
        ·exact Same.free gs (hfr x z)
       ·rcases zar3.mp hq with z | z
        ·rcases zar8.mp z with rfl | z
         ·exact⟨mL vs,hv⟩
         ·exact hr.lists q z
        ·obtain⟨us,w⟩:=H1A q z
         exact⟨us,sm _ _ w⟩
      |succ m =>
       have hil:i<ds.length:=by lia
       refine .inr ⟨src.go _ _ i gg hil,fun σ' H'=>i+1+m=ds.length∧∃th acc rest vs B,RS X.K (Dd::F') H' [] th σ'∧ze4 kt ft fe (ds.drop (i+1)) th=some rest∧acc++rest=xs∧H' Dd=some (.lst vs)∧(RepDs X.K (hide (Dd::F') H') H' acc vs B∧B.Nodup∧Dd∉B∧∀b∈B,H1 b=none)∧Same H1 H'∧Good (Dd::F') H',
        fun σ' H' q=>⟨m,zav5 m,q⟩,fun x H2 y=>?_⟩
       obtain⟨gs2,d,hd,rd⟩:=src.yld _ _ i x H2 gg RR.mu y hil
       have ed:ds.drop i=d::ds.drop (i+1):=by
        have hd':ds[i]=d:=by
         rw [zar5 hil]at hd
         exact Option.some.inj hd
        rw [← hd']
        exact zat0 hil
       rw [ed]at ec
       unfold ze4 at ec
       cases k1:kt d th with
       |none=>rw [k1]at ec;cases ec
       |some t1 =>
        rw [k1]at ec
        have ec:((ft t1).bind fun b=>if b then (fe t1).bind fun r=>(toDn r).bind fun d=>(ze4 kt ft fe (ds.drop (i+1)) t1).map fun xs=>d::xs else ze4 kt ft fe (ds.drop (i+1)) t1)=some rest:=ec
        refine hk (Dd::F') σ' H2 [] th t1 d x _ (RR.grow gs2) rd k1 fun σ2 A2 gr2 R2=>?_
        have A20:=zl1 R2 gr2
        subst A20
        cases k2:ft t1 with
        |none=>rw [k2]at ec;cases ec
        |some bb =>
         rw [k2]at ec
         refine⟨Dd::F',[],t1,bb,R2,k2,fun H3 gs3=>?_⟩
         cases bb with
         |false =>
          refine iteF ⟨by lia,t1,acc,rest,vs,B,R2.grow gs3,ec,ex,gs3 _ _ (gs2 _ _ hv),⟨RepDs.mono (za8 (gs2.trans gs3)) hr fun p _ o w=>gs3 _ _ (gs2 _ _ w),hnd,hDB,hfr⟩,(sm.trans gs2).trans gs3,src.keep _ _ _ _ gg (za8 (gs2.trans gs3))⟩
         |true =>
          have ec:((fe t1).bind fun r=>(toDn r).bind fun d=>(ze4 kt ft fe (ds.drop (i+1)) t1).map fun xs=>d::xs)=some rest:=ec
          cases k3:fe t1 with
          |none=>rw [k3]at ec;cases ec
          |some re =>
           rw [k3]at ec
           have ec:((toDn re).bind fun d=>(ze4 kt ft fe (ds.drop (i+1)) t1).map fun xs=>d::xs)=some rest:=ec
           cases k5:toDn re with
           |none=>rw [k5]at ec;cases ec
           |some de =>
           rw [k5]at ec
           have ec:((ze4 kt ft fe (ds.drop (i+1)) t1).map fun xs=>de::xs)=some rest:=ec
           cases k4:ze4 kt ft fe (ds.drop (i+1)) t1 with
           |none=>rw [k4]at ec;cases ec
           |some ys =>
            rw [k4]at ec
            cases ec
            refine iteT ⟨Dd::F',[],t1,re,R2.grow gs3,k3,fun v H4 gs4 q4=>⟨vs,gs4 _ _ (gs3 _ _ (gs2 _ _ hv)),?_,?_⟩⟩
            ·have l1:=hr.length
             have l2:acc.length+(ys.length+1)=xs.length:=by rw [← ex];simp
             exact zas5 (show vs.length<50000 by lia) (by rw [sizeLine_eq];decide)
            ·have s3:=gs2.trans gs3
             have s4:=s3.trans gs4
             have hu:Same (hide (Dd::F') H4) (hide (Dd::F') (upd H4 Dd (.lst (vs++[v])))):=zf9 (zar4 ..)
             have mu3:Lists H3 (Dd::F'):=(R2.grow gs3).mu
             obtain⟨B4,n4,f4,r4⟩:=q4.toDn (R2.grow gs3).mu gs4 k5
             have D3:H3 Dd=some (.lst vs):=s3 _ _ hv
             have nD4:Dd∉B4:=fun z=>by rw [f4 _ z]at D3;cases D3
             have off:∀b,b≠Dd→upd H4 Dd (.lst (vs++[v])) b=H4 b:=fun b n=>zb4 n
             refine⟨by lia,t1,acc++[de],ys,vs++[v],B++B4,RS.updF ((R2.grow gs3).grow gs4) (zar4 ..),k4,by simpa using ex,zb0,⟨?_,?_,?_,?_⟩,?_,?_⟩
             ·refine RepDs.appD (RepD.mono hu (RepD.hid (mu3.mono gs4) (zb1 _ _) r4) fun b hb o w=>?_) (RepDs.mono (fun b o z=>hu _ _ (za8 s4 _ _ z)) hr fun b hb o w=>?_)
              ·rw [off b fun z=>nD4 (z ▸ hb)];exact w
              ·rw [off b fun z=>hDB (z ▸ hb)];exact s4 _ _ w
             ·refine zas9.mpr ⟨hnd,n4,fun x hx y hy e=>?_⟩
              subst e
              obtain⟨us,w⟩:=hr.lists x hx
              have:=s3 _ _ w
              rw [f4 x hy]at this;cases this
             ·intro z
              rcases zar3.mp z with z | z
              ·exact hDB z
              ·exact nD4 z
             ·intro b hb
              rcases zar3.mp hb with z | z
              ·exact hfr b z
              ·exact Same.free (sm.trans s3) (f4 b z)
             ·exact fun b o z=>by
               rw [zb4 (fun w=>by rw [w,hD]at z;cases z)]
               exact s4 _ _ (sm _ _ z)
             ·exact src.keep _ _ _ _ gg (fun b o z=>hu _ _ (za8 s4 _ _ z))
    exact wi
section
variable {X:Cx}{F:List Addr}{a b c o:Expr}{es:List Expr}{fa fb fc:DE}{fs:List DE}{ga:DA}{g g1 g2:DS}{ft fu:DT}{pos:Pos}{st:Stmt}{rest:List Stmt}{tg:Expr}{gt:TG}{kt:D→Th→Option Th}
noncomputable def kRep:Ev→Ev→Option Ev:=fun r1 r2=>match r1,r2.d with
 |.nw xs,.int k=>if xs.length≤100&&decide (-1000000≤k∧k≤1000) then some (.nw (zar6 k.toNat xs).flatten) else none
 |_,_=>none
theorem Reps.rep {K:zaq9}{H:Hp}{ds:List D}{vs:List V} (r:Reps K H ds vs):∀k:Nat,Reps K H (zar6 k ds).flatten (zar6 k vs).flatten
 |0=>by simpa using .nil
 |k+1=>by simpa [zau5] using r.app (Reps.rep r k)
theorem zn4:OpD X F (binaryOp .Mult) kRep:=by
 intro pins s σ H0 H A x y v u Q r1 r2 r I m g0 rx ry q1 q2 e hq
 unfold kRep at e
 split at e
 ·rename_i xs k z
  split at e
  ·rename_i ok
   simp only [zar9,decide_eq_true_eq]at ok
   cases e
   have p2:=q2.full
   rw [z]at p2
   cases zg3 p2
   obtain⟨p,vs,rfl,h1,h2,h3⟩:=q1
   refine op_rep pins s σ H _ _ v u Q I rx ry ⟨p,k,vs,rfl,rfl,h2,by lia,by lia,?_,fun l hl=>hq _ _ (zc2 hl) ⟨l,_,rfl,Same.free g0 hl,zb0,Reps.mono (zj1 hl) (Reps.rep (Reps.mono (za7 H fun a z=>zar1 _ z) h3) _)⟩⟩
   refine zi1 ?_
   rw [h3.length]
   have h5:k.toNat≤1000:=by lia
   exact zaw5 (zbb2 ok.1 h5) (by decide)
  ·cases e
 ·cases e
noncomputable def kExt (t:Th) (i:Nat) (r:Ev):Option Out:=match t[i]?,r with
 |some (.own xs),.nw ys=>if decide (xs.length+ys.length≤100000) then some (.nx (t.set i (.own (xs++ys)))) else none
 |_,_=>none
def dExt (i:Nat) (f:DE):DS:=fun t=>(f t).bind (kExt t i)
theorem psd_ext (i:Nat) {x:Str}{p0 apos cpos:Pos} (he:PE X a (dE X.K F fa)) (hN:X.N[i]?=some x:=by rfl) (hv:Vis X.env.scope x:=by first | exact Or.inl rfl | exact Or.inr (Or.inl rfl) |exact Or.inr (Or.inr rfl)) (hd:(x ==("__debug__":Str))=false:=by decide)
  (hcd:(x ==("__classdict__":Str))=false:=by decide) (hst:zat2 [a] X.env=[(false,eval a X.env)]:=by rfl)
  (hbase:attributeBase (.Name x p0) "extend" X.env (eval (.Name x p0) X.env)=eval (.Name x p0) X.env:=by rfl)
  (hfew:((zay7 cpos (zat2 [a] X.env)).all (fun x=>!x.1)&&(backToKw cpos (keywordEach [] X.env)).all (fun x=>x.1.isSome)
   && decide ([a].length+([]:List Keyword).length+(if ([]:List Keyword).isEmpty then 0 else 1)<30))=true:=by rfl)
  (hline:(apos.endLine == cpos.line)=true:=by rfl) (hplain:(zay7 cpos (zat2 [] X.env)).any (·.1)=false:=by rfl)
  (hsw:swapsWith (.Call (.Attribute (.Name x p0) "extend" apos) [a] [] cpos) none pos.line X.env=pure false:=by rfl) :
  PS X (.Expr (.Call (.Attribute (.Name x p0) "extend" apos) [a] [] cpos) pos) (dS X.K F (dExt i fa)):=by
 refine PS.imp (zq5 (pe_bm zav1 PySem.F.slot_list_extend PySem.F.type_list_extend zam0 (zj6 (i:=i) hN hv hd hcd) (zh9 he zl6 hst) hbase hfew hline hst hplain) hsw) ?_
 rintro E σ H ⟨A,t,o,R,e,h⟩
 unfold dExt at e
 cases e1:fa t with
 |none=>rw [e1]at e;cases e
 |some r =>
  rw [e1]at e
  have e:kExt t i r=some o:=e
  unfold kExt at e
  split at e
  case h_2=>cases e
  rename_i xs ys z _
  split at e
  case isFalse=>cases e
  rename_i ok
  simp only [decide_eq_true_eq]at ok
  cases e
  obtain⟨p,vs,a1,a2,a3,a4⟩:=R.rel.getOwn z
  refine⟨_,a1,.inl ⟨rfl,vs,SqL.of a3⟩,A,t,_,R,e1,fun y H1 gs q=>?_⟩
  obtain⟨q0,us,rfl,h1,h2,h3⟩:=q
  refine⟨p,q0,vs,us,rfl,rfl,gs _ _ a3,h2,?_,?_⟩
  ·refine zi1 ?_
   rw [a4.length,h3.length];exact ok
  ·obtain⟨R',g'⟩:=(R.grow gs).write (es:=xs++ys) (ws:=vs++us) z a1 ((Reps.mono (za8 gs) a4).app (Reps.mono (za7 H1 fun a z=>zar1 _ z) h3))
   exact h _ _ _ ((Gr.of_same R.mu.left gs).trans g') R'
end
end DL
namespace DL
open PySem.Spec L2
def zad8 (a b c:Int):Bool:=Builtin.Range.small a b c&&decide (c≠0∧c.natAbs<1000000∧0≤Builtin.Range.rangeSize a b c)
def rng3 (a b c:Int):List D:=(zat6 (Builtin.Range.rangeSize a b c).toNat).map fun i=>.int (a+(i:Nat)*c)
def mkG (k:Nat) (N:List Str) (g:DS):List D→Option Ev:=fun ds=>if ds.length=k then (g (zt0 N ds)).bind zo3 else none
theorem zi0 {k:Nat}{N:List Str}{g:DS}{ds:List D}{r:Ev} (e:mkG k N g ds=some r):ds.length=k:=by
 unfold mkG at e
 split at e
 ·assumption
 ·cases e
theorem zl7 {k:Nat}{N:List Str}{g:DS}{ds:List D}{r:Ev} (e:mkG k N g ds=some r):∃o,g (zt0 N ds)=some o∧zo3 o=some r:=by
 unfold mkG at e
 split at e
 ·cases e1:g (zt0 N ds) with
  |none=>rw [e1]at e;cases e
  |some o=>rw [e1]at e;exact⟨o,rfl,e⟩
 ·cases e
section
variable {X:Cx}{F:List Addr}{elt tg iter:Expr}{ifs:List Expr}{scope:Scope}{pos spos py:Pos}{fs:DI}{g:TG}{kt:D→Th→Option Th}{ft:DT}{fe fc:DE}{i:Nat}{y:Str}
theorem compU {n:Nat}{cap:List Nat}{N':List Str} (up:∀ {σ:L2.St}{H:Hp}{Q:VK},dE X.K F fc σ H Q→zz9 n cap (dI X.K F fs) g (fun σ H Q => ∃F',dT X.K F' ft σ H Q) (fun σ H Q => ∃F',dE X.K F' fe σ H Q) σ H Q) (hc:X.calm=true) (hi:PI X tg iter (dI X.K F fs))
  (hg:∀C s₃ H₃ fp pins,PG (blk X N' scope C s₃ H₃ fp pins) tg g) (ht:∀C s₃ H₃ fp pins F',PTs (blk X N' scope C s₃ H₃ fp pins) ifs (dT X.K F' ft)) (he:∀C s₃ H₃ fp pins F',PE (blk X N' scope C s₃ H₃ fp pins) elt (dE X.K F' fe))
  (hNd:X.N.Nodup) (hi₀:X.N[i]?=some y) (hy:Loc X.env.scope y) (hsw:swapsWith (.ListComp elt [⟨tg,iter,ifs,0⟩] scope pos) (some (.Name y py)) spos.line X.env=pure true) (hf:X.fn y=true∨X.env.scope.names.lookup y=some .local)
  (hkd:scope.kind=.function) (hcs:zy7 scope.names X.env.kindOf=true) (hN:N'.length=n+cap.length) (hcap:zac6 N' X.N n scope.names 0 cap=true) (hs:∀x,foldedSetIterable iter X.env x=pure x) :
  PS X (.Assign [.Name y py] (.ListComp elt [⟨tg,iter,ifs,0⟩] scope pos) spos) (dS X.K F (dAsg i fc)):=by
 refine PS.imp (ps_compU (g:=g) (wi:=dI X.K F fs) (tt:=fun σ H Q => ∃F',dT X.K F' ft σ H Q) (te:=fun σ H Q => ∃F',dE X.K F' fe σ H Q) (zap5 hkd hcs) hc hi hN (fun k j e=>by simpa using zq0 hcap k j e) hg (fun C s₃ H₃ fp pins pins' s σ H Q I ⟨F',q⟩=>ht C s₃ H₃ fp pins F' pins' s σ H Q I q) (fun C s₃ H₃ fp pins pins' s σ H Q I ⟨F',q⟩=>he C s₃ H₃ fp pins F' pins' s σ H Q I q) hNd hi₀ hy hsw hf hs) ?_
 rintro E σ H ⟨A,t,o,R,e,h⟩
 unfold dAsg at e
 cases e1:fc t with
 |none=>rw [e1]at e;cases e
 |some r1 =>
  rw [e1]at e
  have e:(zi6 t i r1).map Out.nx=some o:=e
  cases e2:zi6 t i r1 with
  |none=>rw [e2]at e;cases e
  |some t' =>
   rw [e2]at e
   cases e
   refine up ⟨A,t,r1,R,e1,fun v H' gs q=>?_⟩
   obtain⟨A',g',R'⟩:=R.put gs q e2
   exact h _ _ _ g' R'
theorem zq4 (n:Nat) (cap:List Nat) (N':List Str) (hNd:X.N.Nodup) (hi₀:X.N[i]?=some y) (hy:Loc X.env.scope y) (hc:X.calm=true) (hi:PI X tg iter (dI X.K F fs))
  (hg:∀C s₃ H₃ fp pins,PG (blk X N' scope C s₃ H₃ fp pins) tg g) (hk:∀F',TgOk X.K F' g kt) (ht:∀C s₃ H₃ fp pins F',PTs (blk X N' scope C s₃ H₃ fp pins) ifs (dT X.K F' ft)) (he:∀C s₃ H₃ fp pins F',PE (blk X N' scope C s₃ H₃ fp pins) elt (dE X.K F' fe))
  (hsw:swapsWith (.ListComp elt [⟨tg,iter,ifs,0⟩] scope pos) (some (.Name y py)) spos.line X.env=pure true:=by rfl) (hf:X.fn y=true∨X.env.scope.names.lookup y=some .local:=by first | exact .inl rfl | exact .inr rfl)
  (hkd:scope.kind=.function:=by rfl) (hcs:zy7 scope.names X.env.kindOf=true:=by rfl) (hN:N'.length=n+cap.length:=by rfl) (hcap:zac6 N' X.N n scope.names 0 cap=true:=by rfl)
  (hs:∀x,foldedSetIterable iter X.env x=pure x:=by intro _;rfl):PS X (.Assign [.Name y py] (.ListComp elt [⟨tg,iter,ifs,0⟩] scope pos) spos) (dS X.K F (dAsg i (zh5 n cap fs kt ft fe))) :=
 compU (fun h=>zaj4 hk h) hc hi hg ht he hNd hi₀ hy hsw hf hkd hcs hN hcap hs
end
end DL
namespace DL
open PySem.Spec L2
section
variable {X:Cx}{F:List Addr}{a b c o:Expr}{es:List Expr}{fa fb fc:DE}{fs:List DE}{ga:DA}{g g1 g2:DS}{ft fu:DT}{pos:Pos}{st:Stmt}{rest:List Stmt}{tg:Expr}{gt:TG}{kt:D→Th→Option Th}
theorem zai8:bootBuiltins "list"=some (.type "list"):=by decide +kernel
theorem vals_get:∀ {xs:List V}{us:List Value},xs.length=us.length→(∀(i:Nat) (x:V) (u:Value),xs[i]?=some x→us[i]?=some u→RelV x u)→Vals xs us
 |[],[],_,_=>.nil
 |[],_::_,h,_=>by simp at h
 |_::_,[],h,_=>by simp at h
 |x::xs,u::us,h,k=>.cons (k 0 x u rfl rfl) (vals_get (by simpa using h) fun i y w e1 e2=>k (i+1) y w (by simpa using e1) (by simpa using e2))
theorem zai0 {lo k:Int}{n:Nat}{acc:Array Value} (h:ItemsOf (fun i v => ∃t,v=.int (lo+i*k) t) acc n):Vals ((zat6 n).map fun i=>V.int (lo+(i:Nat)*k)) acc.toList:=by
 refine vals_get (by simp [h.1]) fun i x u e1 e2=>?_
 obtain⟨t,rfl⟩:=h.2 i u (by simpa using e2)
 have hi:i<n:=by
  cases zbb3 i n with
  |inl z=>exact z
  |inr z=>rw [zat7,zay2 (by simpa using z)]at e1;cases e1
 rw [zat7,List.getElem?_range hi]at e1
 simp at e1
 subst e1
 exact⟨t,rfl⟩
theorem zu9 {pins:List (Addr×Obj)}{σ:L2.St}{H:Hp}{s:zas4}{Q:VK}{lo hi k:Int}{t u v:Tok}{tk:Nat} (hc:X.calm=true) (I:L2.Inv X pins σ H s) (ok:zad8 lo hi k=true) (sz:Builtin.Range.rangeSize lo hi k≤50000)
  (q:∀p,H p=none→Q (.ref p) (upd H p (.lst ((zat6 (Builtin.Range.rangeSize lo hi k).toNat).map fun i=>V.int (lo+(i:Nat)*k))))) :
  wpAny (model X.prog X.w) X.A (call (.type "list") [.ref s.heap.objs.size]) (EP X pins σ Q) X.xe { s with heap:=s.heap.push { cls:=.type "range",data:=.fields #[.int lo t,.int hi u,.int k v] },toks:=tk }:=by
 simp only [zad8,zar9,decide_eq_true_eq]at ok
 have I1:L2.Inv X pins σ H { s with heap:=s.heap.push { cls:=.type "range",data:=.fields #[.int lo t,.int hi u,.int k v] },toks:=tk }:=I.kept fun b o e=>zas3 _ e
 have en:Builtin.Range.rangeSize lo hi k=(((Builtin.Range.rangeSize lo hi k).toNat:Nat):Int):=by lia
 refine call_list_range (I.ok.hd hc) (IsRange.new ..) ok.1 en (by lia) fun h' tk' acc c' hk hS hacc=>?_
 refine⟨.ref _,_,I1.laid (o:=HO.lst ((zat6 (Builtin.Range.rangeSize lo hi k).toNat).map fun i=>V.int (lo+(i:Nat)*k))) (t':=tk') hk (zat4 _) ⟨?_,acc.toList,c',zai0 hacc,by simpa using hS⟩,rfl,q _ I1.fresh⟩
 refine zi1 ?_
 rw [zas7,List.length_range];lia
noncomputable def rArgs:List D→Option (Int×Int×Int)
 |[.int n]=>some (0,n,1)
 |[.int i,.int j]=>some (i,j,1)
 |[.int i,.int j,.int k]=>some (i,j,k)
 |_=>none
noncomputable def zy5 (g:DA):DE:=fun t=>(g t).bind fun rs=>(rArgs (rs.map Ev.d)).bind fun q=>if zad8 q.1 q.2.1 q.2.2&&decide (Builtin.Range.rangeSize q.1 q.2.1 q.2.2≤50000) then some (.nw (rng3 q.1 q.2.1 q.2.2)) else none
theorem zal4 {p0 p1 p2:Pos} (hc:X.calm=true) (hgl:Gl X "list") (hml:X.mg "list"=none) (hgr:Gl X "range") (hmr:X.mg "range"=none) (ha:PA X (a::es) (dA X.K F ga))
  (hst:zat2 [.Call (.Name "range" p1) (a::es) [] p2] X.env=[(false,eval (.Call (.Name "range" p1) (a::es) [] p2) X.env)]:=by rfl)
  (hst1:zat2 (a::es) X.env=(false,eval a X.env)::zat2 es X.env:=by rfl) (hst2:(zay7 p2 (zat2 es X.env)).any (·.1)=false:=by rfl) :
  PE X (.Call (.Name "list" p0) [.Call (.Name "range" p1) (a::es) [] p2] [] pos) (dE X.K F (zy5 ga)):=by
 intro pins s σ H Q I h
 obtain⟨A,t,r,R,e,h⟩:=h
 unfold zy5 at e
 cases e1:ga t with
 |none=>rw [e1]at e;cases e
 |some rs =>
  rw [e1]at e
  simp only [zar2]at e
  cases e2:rArgs (rs.map Ev.d) with
  |none=>rw [e2]at e;cases e
  |some q =>
   rw [e2]at e
   simp only [zar2]at e
   split at e
   case isFalse=>cases e
   rename_i ok
   simp only [zar9,decide_eq_true_eq]at ok
   cases e
   have mk:∀(H1:Hp),Same H H1→∀p,H1 p=none→Q (.ref p) (upd H1 p (.lst ((zat6 (Builtin.Range.rangeSize q.1 q.2.1 q.2.2).toNat).map fun i=>V.int (q.1+(i:Nat)*q.2.2)))):=fun H1 g1 p hp=>by
    refine h _ _ (g1.trans (zc2 hp)) ⟨p,_,rfl,Same.free g1 hp,zb0,?_⟩
    have e3:rng3 q.1 q.2.1 q.2.2=((zat6 (Builtin.Range.rangeSize q.1 q.2.1 q.2.2).toNat).map fun i=>q.1+(i:Nat)*q.2.2).map D.int:=by simp [rng3]
    have e4:((zat6 (Builtin.Range.rangeSize q.1 q.2.1 q.2.2).toNat).map fun i=>V.int (q.1+(i:Nat)*q.2.2))=((zat6 (Builtin.Range.rangeSize q.1 q.2.1 q.2.2).toNat).map fun i=>q.1+(i:Nat)*q.2.2).map V.int:=by simp
    rw [e3,e4]
    exact Reps.ints _
   refine wpAny_Call_Name_kw (zo9 I hgl hml zai8 (PyProof.Rows.callWith_type1 ?_ (by rw [hst];rfl) rfl))
   rw [hst]
   show wpAny _ _ (spliced ((false,eval (.Call (.Name "range" p1) (a::es) [] p2) X.env)::zay7 pos (zat2 [] X.env))) _ _ s
   refine Calls.spliced_cons (Call_ (zo9 I hgr hmr boot_range (PyProof.Rows.callWith_type1 (thn (ha p2 pins s σ H (fun vs H1=>Same H H1∧RepEvs X.K F A H H1 rs vs) I ⟨A,t,rs,R,e1,fun vs H1 g1 q1=>⟨g1,q1⟩⟩) fun us s1 ⟨vs,H1,I1,r1,g1,q1⟩=>?_) hst1 hst2)))
   have full:=q1.full
   obtain⟨q0,qh,qk⟩:=q
   unfold rArgs at e2
   split at e2
   ·rename_i n z
    cases e2
    rw [z]at full
    have ev:=zd7 (ns:=[qh]) full
    subst ev
    obtain⟨u,rfl,ru⟩:=r1.one
    obtain⟨t1,rfl⟩:=ru
    exact call_range_1 (Calls.spliced_nil (zu9 hc I1 ok.1 ok.2 (mk H1 g1)))
   ·rename_i i j z
    cases e2
    rw [z]at full
    have ev:=zd7 (ns:=[q0,qh]) full
    subst ev
    obtain⟨u,w,rfl,ru,rw'⟩:=r1.two
    obtain⟨t1,rfl⟩:=ru
    obtain⟨t2,rfl⟩:=rw'
    exact call_range_2 (Calls.spliced_nil (zu9 hc I1 ok.1 ok.2 (mk H1 g1)))
   ·rename_i i j k z
    cases e2
    rw [z]at full
    have ev:=zd7 (ns:=[q0,qh,qk]) full
    subst ev
    cases r1 with
    |cons r rr =>
     cases rr with
     |cons r' rr =>
      cases rr with
      |cons r'' rr =>
       cases rr
       obtain⟨t1,rfl⟩:=r
       obtain⟨t2,rfl⟩:=r'
       obtain⟨t3,rfl⟩:=r''
       have ok':=ok.1
       simp only [zad8,zar9,decide_eq_true_eq]at ok'
       have lg:qk.natAbs.log2<9000:=zbd9 (zam5 (k:=20) (by have:=ok'.2.2.1;lia)) (by decide)
       exact call_range_3 ok'.2.1 (Calls.spliced_nil (zu9 hc I1 ok.1 ok.2 (mk H1 g1))) (.inl (PyProof.noPylong_of_log2 lg))
   ·cases e2
end
end DL
namespace DL
open PySem.Spec L2
section
variable {X:Cx}{F:List Addr}{a b c o:Expr}{es:List Expr}{fa fb fc:DE}{fs:List DE}{ga:DA}{g g1 g2:DS}{ft fu:DT}{pos:Pos}{st:Stmt}{rest:List Stmt}{tg:Expr}{gt:TG}{kt:D→Th→Option Th}
noncomputable def kPop (t:Th) (i j:Nat):Option Out:=match t[j]? with
 |some (.own xs)=>if i=j then none else match xs.getLast? with
  |some d=>(zi6 (t.set j (.own xs.dropLast)) i (.cl d)).map Out.nx
  |none=>none
 |_=>none
def dPop (i j:Nat):DS:=fun t=>kPop t i j
theorem psd_pop {i:Nat} (j:Nat) {x y:Str}{p0 apos cpos pos':Pos} (hNd:X.N.Nodup) (hi:X.N[i]?=some y) (hy:Loc X.env.scope y) (hN:X.N[j]?=some x:=by rfl) (hv:Vis X.env.scope x:=by first | exact Or.inl rfl | exact Or.inr (Or.inl rfl) |exact Or.inr (Or.inr rfl)) (hd:(x ==("__debug__":Str))=false:=by decide)
  (hcd:(x ==("__classdict__":Str))=false:=by decide) (hbase:attributeBase (.Name x p0) "pop" X.env (eval (.Name x p0) X.env)=eval (.Name x p0) X.env:=by rfl)
  (hline:(apos.endLine == cpos.line)=true:=by rfl) (hs:swapsWith (.Call (.Attribute (.Name x p0) "pop" apos) [] [] cpos) (some (.Name y pos')) pos.line X.env=pure false:=by rfl) (hf:X.fn y=true∨X.env.scope.names.lookup y=some .local:=by first | exact .inl rfl | exact .inr rfl | assumption) :
  PS X (.Assign [.Name y pos'] (.Call (.Attribute (.Name x p0) "pop" apos) [] [] cpos) pos) (dS X.K F (dPop i j)):=by
 refine PS.imp (ps_set hNd hi hy (pe_bm0 zav1 PySem.F.slot_list_pop PySem.F.type_list_pop mt_pop (zj6 (i:=j) hN hv hd hcd) hbase hline) hs hf) ?_
 rintro E σ H ⟨A,t,o,R,e,h⟩
 have e:kPop t i j=some o:=e
 unfold kPop at e
 split at e
 case h_2=>cases e
 rename_i xs z
 split at e
 case isTrue=>cases e
 rename_i ne
 split at e
 case h_2=>cases e
 rename_i d z2
 cases e3:zi6 (t.set j (.own xs.dropLast)) i (.cl d) with
 |none=>rw [e3]at e;cases e
 |some t' =>
  rw [e3]at e
  cases e
  obtain⟨p,vs,a1,a2,a3,a4⟩:=R.rel.getOwn z
  have hx:xs[xs.length - 1]?=some d:=by rw [← List.getLast?_eq_getElem?];exact z2
  obtain⟨v,b1,b2⟩:=a4.get hx
  rw [← a4.length]at b1
  refine⟨_,a1,.inl ⟨rfl,vs,SqL.of a3⟩,p,vs,v,rfl,rfl,a3,b1,?_⟩
  have dl:Reps X.K (hide (A++F) H) xs.dropLast vs.dropLast:=by
   rw [zbc2,zbc2,a4.length];exact a4.take _
  obtain⟨R',g'⟩:=R.write (es:=xs.dropLast) (ws:=vs.dropLast) z a1 dl
  obtain⟨A2,g2,R2⟩:=R'.put (i:=i) (r:=.cl d) (v:=v) (Same.refl _) (Rep.mono g'.same b2) e3
  exact h _ _ _ (g'.trans g2) R2
def kClr (t:Th) (i:Nat):Option Out:=match t[i]? with
 |some (.own _)=>some (.nx (t.set i (.own [])))
 |_=>none
def dClr (i:Nat):DS:=fun t=>kClr t i
theorem psd_clr (i:Nat) {x:Str}{p0 apos cpos:Pos} (hN:X.N[i]?=some x:=by rfl) (hv:Vis X.env.scope x:=by first | exact Or.inl rfl | exact Or.inr (Or.inl rfl) |exact Or.inr (Or.inr rfl)) (hd:(x ==("__debug__":Str))=false:=by decide)
  (hcd:(x ==("__classdict__":Str))=false:=by decide) (hbase:attributeBase (.Name x p0) "clear" X.env (eval (.Name x p0) X.env)=eval (.Name x p0) X.env:=by rfl)
  (hline:(apos.endLine == cpos.line)=true:=by rfl) (hsw:swapsWith (.Call (.Attribute (.Name x p0) "clear" apos) [] [] cpos) none pos.line X.env=pure false:=by rfl) :
  PS X (.Expr (.Call (.Attribute (.Name x p0) "clear" apos) [] [] cpos) pos) (dS X.K F (dClr i)):=by
 refine PS.imp (zq5 (pe_bm0 zav1 PySem.F.slot_list_clear PySem.F.type_list_clear mt_clear (zj6 (i:=i) hN hv hd hcd) hbase hline) hsw) ?_
 rintro E σ H ⟨A,t,o,R,e,h⟩
 have e:kClr t i=some o:=e
 unfold kClr at e
 split at e
 case h_2=>cases e
 rename_i xs z
 cases e
 obtain⟨p,vs,a1,a2,a3,a4⟩:=R.rel.getOwn z
 refine⟨_,a1,.inl ⟨rfl,vs,SqL.of a3⟩,p,vs,rfl,rfl,a3,?_⟩
 obtain⟨R',g'⟩:=R.write (es:=[]) (ws:=[]) z a1 .nil
 exact h _ _ _ g' R'
end
end DL
namespace DL
open PySem.Spec L2
section
variable {X:Cx}{F:List Addr}{a b c o:Expr}{es:List Expr}{fa fb fc:DE}{fs:List DE}{ga:DA}{g g1 g2:DS}{ft fu:DT}{pos:Pos}{st:Stmt}{rest:List Stmt}{tg:Expr}{gt:TG}{kt:D→Th→Option Th}
def insI (n:Int):List Int→List Int
 |[]=>[n]
 |m::r=>if n≤m then n::m::r else m::insI n r
def zh0:List Int→List Int
 |[]=>[]
 |n::r=>insI n (zh0 r)
theorem zr3 (n:Int):∀r:List Int,(insI n r).Perm (n::r)
 |[]=>List.Perm.refl _
 |m::r=>by
  unfold insI
  split
  ·exact List.Perm.refl _
  ·exact (List.Perm.cons m (zr3 n r)).trans (List.Perm.swap n m r)
theorem zd3:∀r:List Int,(zh0 r).Perm r
 |[]=>List.Perm.refl _
 |n::r=>(zr3 n _).trans (List.Perm.cons n (zd3 r))
theorem zr2 (n:Int):∀r:List Int,r.Pairwise (·≤·)→(insI n r).Pairwise (·≤·)
 |[],_=>by simp [insI]
 |m::r,h=>by
  unfold insI
  have hc:=zax9.mp h
  split
  ·rename_i hle
   refine zax9.mpr ⟨fun x hx=>?_,h⟩
   rcases zar8.mp hx with rfl | z
   ·exact hle
   ·exact Int.le_trans hle (hc.1 x z)
  ·rename_i hle
   refine zax9.mpr ⟨fun x hx=>?_,zr2 n r hc.2⟩
   rcases zar8.mp ((zr3 n r).mem_iff.mp hx) with rfl | z
   ·lia
   ·exact hc.1 x z
theorem zi5:∀r:List Int,(zh0 r).Pairwise (·≤·)
 |[]=>List.Pairwise.nil
 |n::r=>zr2 n _ (zi5 r)
theorem zl8:∀ {xs ys:List Int},xs.Perm ys→xs.Pairwise (·≤·)→ys.Pairwise (·≤·)→xs=ys
 |[],ys,p,_,_=>(List.Perm.nil_eq p)
 |x::xs,[],p,_,_=>absurd p.length_eq (by simp)
 |x::xs,y::ys,p,h1,h2=>by
  have c1:=zax9.mp h1
  have c2:=zax9.mp h2
  have e:x=y:=by
   have m1:x∈y::ys:=p.mem_iff.mp (zar4 ..)
   have m2:y∈x::xs:=p.mem_iff.mpr (zar4 ..)
   have l1:y≤x:=by rcases zar8.mp m1 with z | z;lia;exact c2.1 x z
   have l2:x≤y:=by rcases zar8.mp m2 with z | z;lia;exact c1.1 y z
   lia
  subst e
  rw [zl8 (List.Perm.cons_inv p) c1.2 c2.2]
theorem zz0:zad1 X (.builtin "sorted") (fun xs H Q => ∃(p:Addr) (ns:List Int),xs=[.ref p]∧SqL X.K H p (ns.map V.int)∧ns.length<64∧∀l,H l=none→Q (.ref l) (upd H l (.lst ((zh0 ns).map V.int)))):=by
 intro pins s σ H xs us Q I r h
 obtain⟨p,ns,rfl,hs,h64,q⟩:=h
 obtain⟨u,rfl,ru⟩:=vals1 r
 cases ru
 obtain⟨its,rv,pl,_⟩:=I.list hs
 have hi:IntsAre its ns:=zo5 rv
 have hl:=hi.length
 refine sorted_ints (PlainL.isL pl) hi (by lia) fun out ns' hI hp ho=>?_
 have e:ns'=zh0 ns:=zl8 (hp.trans (zd3 ns).symm) ho (zi5 ns)
 subst e
 obtain⟨k,ek⟩:=sortedAll_at s.heap its out
 have fr:s.heap.objs.size≤s.heap.objs.size+1:=Nat.le_succ _
 refine⟨.ref _,_,I.laid (o:=HO.lst ((zh0 ns).map V.int)) (t':=s.toks) (fun b o e=>sortedAll_old e) fr ⟨?_,out.toList,k,zm6 hI,by simpa [seqObj] using ek⟩,rfl,q _ (I.hok.fresh fr)⟩
 refine zi1 ?_
 rw [zas7,(zd3 ns).length_eq];lia
noncomputable def zr0:List Ev→Option Ev:=fun rs=>match rs with
 |[r]=>(match r.d with
  |.lst ds=>(zf6 ds).bind fun ns=>if ns.length<64 then some (.nw ((zh0 ns).map D.int)) else none
  |_=>none)
 |_=>none
theorem cd_sortI:CallD X F (.builtin "sorted") zr0:=CallD.of zz0 fun H0 H A xs rs e Q m g q ek hq=>by
 unfold zr0 at ek
 split at ek
 case h_2=>cases ek
 cases q with
 |cons q1 q2 =>
  cases q2
  split at ek
  case h_2=>cases ek
  rename_i ds z
  cases e1:zf6 ds with
  |none=>rw [e1]at ek;cases ek
  |some ns =>
   rw [e1]at ek
   simp only [zar2]at ek
   split at ek
   case isFalse=>cases ek
   rename_i c
   cases ek
   have p:=q1.full
   rw [z,zh4 e1]at p
   cases p with
   |lst h1 h2 =>
    rw [zd7 h2]at h1
    exact⟨_,ns,rfl,h1,c,fun l hl=>hq _ _ (zc2 hl) ⟨l,_,rfl,Same.free g hl,zb0,Reps.ints _⟩⟩
end
end DL
namespace DL
open PySem.Spec L2
section
variable {X:Cx}{F:List Addr}{a b c o:Expr}{es:List Expr}{fa fb fc:DE}{ga:DA}{pos:Pos}
theorem zy3 {xs ns:List Int} (p:xs.Perm ns) (h:xs.Pairwise (· ≥ ·)):xs=(zh0 ns).reverse:=by
 have h1:xs.reverse.Pairwise (·≤·):=List.pairwise_reverse.mpr h
 have h2:xs.reverse.Perm (zh0 ns):=(List.reverse_perm xs).trans (p.trans (zd3 ns).symm)
 have:=zl8 h2 h1 (zi5 ns)
 rw [← this,List.reverse_reverse]
noncomputable def zt1:List Ev→Option Ev:=fun rs=>match rs with
 |[r]=>(match r.d with
  |.lst ds=>(zf6 ds).bind fun ns=>if ns.length<64 then some (.nw ((zh0 ns).reverse.map D.int)) else none
  |_=>none)
 |_=>none
theorem zaa5 {p0 kp kp2:Pos}{j} (hg:Gl X "sorted") (hm:X.mg "sorted"=none) (ha:PE X a (dE X.K F fa)) (hst:zat2 [a] X.env=[(false,eval a X.env)]:=by rfl)
  (he:zay7 pos (zat2 [a] X.env)=(false,eval a X.env)::zay7 pos (zat2 [] X.env):=by rfl) (hplain:(zay7 pos (zat2 [a] X.env)).any (·.1)=false:=by rfl)
  (hall:(backToKw pos (keywordEach [⟨some "reverse",.Constant (.bool true) j kp2,kp⟩] X.env)).all (·.1.isSome)=true:=by rfl) (hkw:(backToKw pos (keywordEach [⟨some "reverse",.Constant (.bool true) j kp2,kp⟩] X.env)).any (·.1.isNone)=false:=by rfl) :
  PE X (.Call (.Name "sorted" p0) [a] [⟨some "reverse",.Constant (.bool true) j kp2,kp⟩] pos) (dE X.K F (dT1 zt1 (za2 fa dNil))):=by
 intro pins s σ H Q I h
 obtain⟨A,t,r,R,e,h⟩:=h
 unfold dT1 za2 dNil at e
 cases e1:fa t with
 |none=>rw [e1]at e;cases e
 |some r1 =>
  rw [e1]at e
  simp only [zar2]at e
  unfold zt1 at e
  simp only at e
  split at e
  case h_2=>cases e
  rename_i ds z
  cases e2:zf6 ds with
  |none=>rw [e2]at e;cases e
  |some ns =>
   rw [e2]at e
   simp only [zar2]at e
   split at e
   case isFalse=>cases e
   rename_i c
   cases e
   refine wpAny_Call_Name_kw (zo9 I hg hm boot_sorted (callWith_kw (env:=X.env) ?_ he hplain hall hkw))
   refine thn ((zh9 ha zl6 hst) pos pins s σ H (fun vs H1 => ∃x,vs=[x]∧Same H H1∧RepEv X.K F A H H1 r1 x) I ⟨A,t,r1,R,e1,fun x H1 gs q=>⟨x,rfl,gs,q⟩⟩) fun us s1 ⟨vs,H1,I1,rv,x,ex,gs,q⟩=>?_
   subst ex
   obtain⟨u,rfl,ru⟩:=rv.one
   have p:=q.full
   rw [z,zh4 e2]at p
   cases p with
   |@lst _ l ws h1 h2 =>
    rw [zd7 h2]at h1
    cases ru
    refine kws_cons (Constant_bool (kws_nil ?_))
    show wpAny (model X.prog X.w) X.A (call (.builtin "sorted") [.ref l] [(Str.ofString "reverse",.bool true)]) (EP X pins σ Q) X.xe s1
    obtain⟨its,rw1,pl,_⟩:=I1.list h1
    have hi:IntsAre its ns:=zo5 rw1
    have hl:=hi.length
    refine sorted_ints_rev (PlainL.isL pl) hi (by lia) fun out ns' hI hp ho=>?_
    have e:ns'=(zh0 ns).reverse:=zy3 hp ho
    subst e
    obtain⟨k,ek⟩:=sortedAll_at s1.heap its out
    have fr:s1.heap.objs.size≤s1.heap.objs.size+1:=Nat.le_succ _
    have hn:=I1.hok.fresh fr
    refine⟨.ref _,_,I1.laid (o:=HO.lst ((zh0 ns).reverse.map V.int)) (t':=s1.toks) (fun b o e=>sortedAll_old e) fr ⟨?_,out.toList,k,zm6 hI,by simpa [seqObj] using ek⟩,rfl,?_⟩
    ·refine zi1 ?_
     rw [zas7,zba0,(zd3 ns).length_eq];lia
    ·exact h _ _ (gs.trans (zc2 hn)) ⟨_,_,rfl,Same.free gs hn,zb0,Reps.ints _⟩
end
end DL
namespace L2
open PySem.W
def bndS:Nat:=2 ^ 1048576
theorem zs9:∀ {ns:List Int}{n:Int},n∈ns→WData.weight (.int n)≤WData.weightAll (ns.map WData.int)
 |m::r,n,h=>by
  rw [zas1]
  unfold WData.weightAll
  rcases zar8.mp h with rfl | z
  ·lia
  ·have:=zs9 z;lia
theorem bnd_of {ns:List Int} (h:WData.layableAll [WData.list (ns.map WData.int)]=true):∀n∈ns,n.natAbs<bndS:=fun n hn=>by
 have h1:WData.layable (WData.list (ns.map WData.int))=true:=by simpa [WData.layableAll] using h
 have h2:WData.weight (WData.list (ns.map WData.int))≤2 ^ 20:=by
  unfold WData.layable at h1
  simp only [zar9,decide_eq_true_eq]at h1
  exact h1.2
 have h3:WData.weight (.int n)≤2 ^ 20:=by
  refine zaw5 (zs9 hn) ?_
  have e:WData.weight (WData.list (ns.map WData.int))=WData.weightAll (ns.map WData.int):=by simp [WData.weight]
  rw [← e];exact h2
 by_cases z:n=0
 ·subst z;unfold bndS;exact Nat.pow_pos (by decide)
 ·have h4:n.natAbs.log2+1≤2 ^ 20:=by
   have:WData.weight (.int n)=n.natAbs.log2+1:=by simp [WData.weight,z]
   rw [← this];exact h3
  have h5:n.natAbs.log2<1048576:=by lia
  exact (Nat.log2_lt (by lia)).mp h5
end L2
namespace DL
open PySem.Spec L2
section
variable {X:Cx}{F:List Addr}{a b c o:Expr}{es:List Expr}{fa fb fc:DE}{ga:DA}{pos:Pos}
theorem zag9:∀ {xs:List V}{us:List Value} (k:Nat),Vals xs us→Vals (xs.eraseIdx k) (us.eraseIdx k):=fun k r=>r.eraseIdx k
theorem zaf8 (n:Int):∀ns:List Int,ns.eraseIdx (ns.idxOf n)=ns.erase n
 |[]=>rfl
 |m::ns=>by
  by_cases h:m=n
  ·subst h;simp [List.idxOf_cons]
  ·have h':(m == n)=false:=by simpa using h
   simp [List.idxOf_cons,h',List.erase_cons,zaf8 n ns]
theorem zo8 {α β:Type} (f:α→β):∀(xs:List α) (k:Nat),(xs.map f).eraseIdx k=(xs.eraseIdx k).map f
 |[],_=>rfl
 |_::_,0=>rfl
 |x::xs,k+1=>by simp [zo8 f xs k]
noncomputable def rRemove:V→List V→Hp→VK→Prop:=fun x vs H Q => ∃(l:Addr) (ns:List Int) (n:Int),x=.ref l∧vs=[.int n]∧H l=some (.lst (ns.map V.int))∧n∈ns∧Q .non (upd H l (.lst ((ns.erase n).map V.int)))
theorem zal9:MtM X "list.remove" rRemove:=by
 intro pins s σ H x vs v us Q I rx rv h
 obtain⟨l,ns,n,rfl,rfl,hH,hn,q⟩:=h
 cases rx
 obtain⟨u,rfl,ru⟩:=rv.one
 obtain⟨t,rfl⟩:=ru
 obtain⟨z,its,m,r,hl,e⟩:=I.lstM hH
 have hi:IntsAre its ns:=zo5 r
 have hlen:=hi.length
 have hj:ns.idxOf n<ns.length:=List.idxOf_lt_length_iff.mpr hn
 refine call_meets zbb4 ⟨_,e,rfl⟩ PySem.F.entry_list_remove (PySem.F.args_list_remove_2 _ _)
  (MeetsSeq.list_remove l its.toArray m (.int n t) (isInt n) (fun y hy=>eq_isInt n t hi y (by simpa using hy)) (ns.idxOf n) (by simpa [hlen] using hj) ?_ ?_ ?_) ⟨e,?_⟩
 ·show isInt n its[ns.idxOf n]=true
  rw [isInt_at n hi _ (by lia) hj]
  simpa using List.getElem_idxOf hj
 ·intro j hjs hlt
  show isInt n its[j]=false
  rw [isInt_at n hi j (by simpa using hjs) (by lia)]
  exact ne_of_lt_idxOf hlt _
 ·rw [zas8];simp at z hl;lia
 ·refine⟨.non,_,I.lset (its':=its.eraseIdx (ns.idxOf n)) hH e ?_ (?_:Vals ((ns.erase n).map V.int) _) ?_,rfl,q⟩
  ·show its.toArray.eraseIdxIfInBounds _=_
   rw [zaz3]
  ·have:=zag9 (ns.idxOf n) r
   rw [zo8,zaf8]at this
   exact this
  ·have:=zax2 hn
   simp at z ⊢
   lia
noncomputable def kRem (t:Th) (i:Nat) (r:Ev):Option Out:=match t[i]?,r.d with
 |some (.own xs),.int n=>(zf6 xs).bind fun ns=>if ns.contains n then some (.nx (t.set i (.own ((ns.erase n).map D.int)))) else none
 |_,_=>none
def dRem (i:Nat) (f:DE):DS:=fun t=>(f t).bind (kRem t i)
theorem psd_rem (i:Nat) {x:Str}{p0 apos cpos:Pos} (he:PE X a (dE X.K F fa)) (hN:X.N[i]?=some x:=by rfl) (hv:Vis X.env.scope x:=by first | exact Or.inl rfl | exact Or.inr (Or.inl rfl) |exact Or.inr (Or.inr rfl)) (hd:(x ==("__debug__":Str))=false:=by decide)
  (hcd:(x ==("__classdict__":Str))=false:=by decide) (hst:zat2 [a] X.env=[(false,eval a X.env)]:=by rfl)
  (hbase:attributeBase (.Name x p0) "remove" X.env (eval (.Name x p0) X.env)=eval (.Name x p0) X.env:=by rfl)
  (hfew:((zay7 cpos (zat2 [a] X.env)).all (fun x=>!x.1)&&(backToKw cpos (keywordEach [] X.env)).all (fun x=>x.1.isSome)
   && decide ([a].length+([]:List Keyword).length+(if ([]:List Keyword).isEmpty then 0 else 1)<30))=true:=by rfl)
  (hline:(apos.endLine == cpos.line)=true:=by rfl) (hplain:(zay7 cpos (zat2 [] X.env)).any (·.1)=false:=by rfl)
  (hsw:swapsWith (.Call (.Attribute (.Name x p0) "remove" apos) [a] [] cpos) none pos.line X.env=pure false:=by rfl) :
  PS X (.Expr (.Call (.Attribute (.Name x p0) "remove" apos) [a] [] cpos) pos) (dS X.K F (dRem i fa)):=by
 refine PS.imp (zq5 (pe_bm zav1 zbb4 PySem.F.type_list_remove zal9 (zj6 (i:=i) hN hv hd hcd) (zh9 he zl6 hst) hbase hfew hline hst hplain) hsw) ?_
 rintro E σ H ⟨A,t,o,R,e,h⟩
 unfold dRem at e
 cases e1:fa t with
 |none=>rw [e1]at e;cases e
 |some r =>
  rw [e1]at e
  have e:kRem t i r=some o:=e
  unfold kRem at e
  split at e
  case h_2=>cases e
  rename_i xs n z zr
  cases e3:zf6 xs with
  |none=>rw [e3]at e;cases e
  |some ns =>
   rw [e3]at e
   simp only [zar2]at e
   split at e
   case isFalse=>cases e
   rename_i ok
   simp only [List.contains_iff_mem]at ok
   cases e
   obtain⟨p,vs,a1,a2,a3,a4⟩:=R.rel.getOwn z
   rw [zh4 e3]at a4
   have a5:=zd7 a4
   subst a5
   refine⟨_,a1,.inl ⟨rfl,_,SqL.of a3⟩,A,t,r,R,e1,fun y H1 gs q=>⟨p,ns,n,rfl,?_,gs _ _ a3,ok,?_⟩⟩
   ·have p1:=q.full
    rw [zr]at p1
    cases zg3 p1
    rfl
   ·obtain⟨R',g'⟩:=(R.grow gs).write (es:=(ns.erase n).map D.int) (ws:=(ns.erase n).map V.int) z a1 (Reps.ints _)
    exact h _ _ _ ((Gr.of_same R.mu.left gs).trans g') R'
theorem Reps.erase {K:zaq9}{H:Hp}:∀ {ds:List D}{vs:List V} (j:Nat),Reps K H ds vs→Reps K H (ds.eraseIdx j) (vs.eraseIdx j)
 |_,_,_,.nil=>.nil
 |_,_,0,.cons _ rs=>rs
 |_,_,j+1,.cons r rs=>.cons r (Reps.erase j rs)
end
end DL
namespace DL
open PySem.Spec L2
noncomputable def spM (K:zaq9) (G:List D→Option Ev):Sp:=fun vs H Q _ => ∃(Fo:List Addr) (p:Addr) (ws vs':List V) (xs ds:List D) (d:D),vs=.ref p::vs'∧Lists H (p::Fo)∧p∉Fo∧H p=some (.lst ws)∧Reps K (hide (p::Fo) H) xs ws∧Reps K (hide (p::Fo) H) ds vs'∧G (.lst xs::ds)=some (.cl d)∧scD d=true ∧
 ∀v H',(∀b o,b≠p→H b=some o→H' b=some o)→H' p≠none→(∀Hx,Rep K Hx d v)→Q v H'
structure CalM (P:Program) (w:World) (K:zaq9) (mg:Str→Option Value) (base:BHeap) (x:Str) (k:Nat) (G:List D→Option Ev):Prop where
 ex:∃(a:Addr) (fd:FuncData) (ps:List Str),mg x=some (.ref a)∧zav3 K (.ref a)=true∧L2.Binds K fd ps []∧FnOk P w K mg base CX0 k a fd ps (spM K G)
def sV:D→V
 |.bl b=>.bl b
 |.int i=>.int i
 |.str x=>.str x
 |_=>.non
def keyD:D→Option Key
 |.int i=>some (Sum.inl i)
 |.str x=>some (Sum.inr x)
 |_=>none
theorem zad9 {K:zaq9}{H:Hp}{d:D}{v:V} (r:Rep K H d v) (s:scD d=true):v=sV d:=by
 cases r with
 |non=>rfl
 |bl b=>rfl
 |int i=>rfl
 |str x=>rfl
 |tup _ _=>cases s
 |lst _ _=>cases s
 |dct _ _ _=>cases s
 |pdc _=>cases s
theorem sc_rep {K:zaq9}{H:Hp}:∀ {d:D},scD d=true→Rep K H d (sV d)
 |.non,_=>.non
 |.bl b,_=>.bl b
 |.int i,_=>.int i
 |.str x,_=>.str x
 |.tup _,s=>by cases s
 |.lst _,s=>by cases s
 |.dct _ _,s=>by cases s
 |.pdc _,s=>by cases s
theorem sc_flatD:∀ {d:D},scD d=true→flat d=true
 |.non,_=>rfl
 |.bl b,_=>rfl
 |.int i,_=>rfl
 |.str x,_=>rfl
 |.tup _,s=>by cases s
 |.lst _,s=>by cases s
 |.dct _ _,s=>by cases s
 |.pdc _,s=>by cases s
theorem zu4 {K:zaq9}{H0 H:Hp}:∀ {ds:List D}{vs:List V}{B:List Addr},RepDs K H0 H ds vs B→ds.all scD=true→vs=ds.map sV∧B=[]
 |_,_,_,.nil,_=>⟨rfl,rfl⟩
 |_,_,_,.cons h r,s=>by
  simp only [zau0,zar9]at s
  obtain⟨a,b⟩:=zu4 r s.2
  subst a b
  cases h with
  |flat f q=>rw [zad9 q s.1];exact⟨rfl,rfl⟩
  |tup _ _=>exact absurd s.1 (by simp [scD])
  |lst _ _=>exact absurd s.1 (by simp [scD])
  |dct _ _ _=>exact absurd s.1 (by simp [scD])
  |pdc _=>exact absurd s.1 (by simp [scD])
theorem zp6 {K:zaq9}{H0 H:Hp}:∀ {ds:List D},ds.all scD=true→RepDs K H0 H ds (ds.map sV) []
 |[],_=>.nil
 |d::ds,s=>by
  simp only [zau0,zar9]at s
  exact .cons (B:=[]) (C:=[]) (.flat (sc_flatD s.1) (sc_rep s.1)) (zp6 s.2)
theorem RS.placeD {K:zaq9}{F A:List Addr}{H:Hp}{t:Th}{σ:L2.St}{i:Nat}{ks:List Key}{ds:List D} (R:RS K F H A t σ) (e:t[i]?=some (.dp (.dct ks ds))) (sc:ds.all scD=true) :
  ∃p,σ[i]?=some (some (.ref p))∧p∈A∧ks.length=ds.length∧H p=some (.dK (mkKV ks (ds.map sV))) ∧
   ∀H1 ks2 ds2,Same H H1→ks2.length=ds2.length→ds2.all scD=true →
    ∃A2,RS K F (L2.upd H1 p (.dK (mkKV ks2 (ds2.map sV)))) A2 (t.set i (.dp (.dct ks2 ds2))) σ∧Gr A H A2 (L2.upd H1 p (.dK (mkKV ks2 (ds2.map sV)))):=by
 obtain⟨v,B,a1,a2,a3,a4,a5⟩:=R.rel.focusDp R.nd e
 cases a4 with
 |flat f _=>simp [flat]at f
 |@dct _ _ p vs B' l h r =>
  obtain⟨rfl,rfl⟩:=zu4 r sc
  have pA:p∈A:=a2 p (by simp)
  refine⟨p,a1,pA,by simpa using l,h,fun H1 ks2 ds2 gs l2 sc2=>?_⟩
  have hh:Same (hide (A++F) H) (hide (A++F) (L2.upd H1 p (.dK (mkKV ks2 (ds2.map sV))))):=fun b o q=>by
   obtain⟨n,q⟩:=zf5 q
   have nb:b≠p:=fun z=>n (zar0 _ (z ▸ pA))
   exact zb7 (by rw [zb4 nb];exact gs _ _ q) n
  obtain⟨A2,d1,d3⟩:=a5 _ _ (.dct ks2 ds2) [p] hh (.dct (by simpa using l2) zb0 (zp6 sc2)) (List.Sublist.refl _) (fun q hq nq o w=>by rw [zb4 (by simpa using nq)];exact gs _ _ w)
  have sub:∀x∈A2,x∈A:=fun x hx=>d3.subset hx
  have mu:Lists (L2.upd H1 p (.dK (mkKV ks2 (ds2.map sV)))) (A++F):=fun q hq=>by
   by_cases z:q=p
   ·exact⟨mD _,by rw [z];exact zb0⟩
   ·obtain⟨us,w⟩:=R.mu q hq
    exact⟨us,by rw [zb4 z];exact gs _ _ w⟩
  refine⟨A2,⟨fun q hq=>mu q ?_,R.nd.sublist d3,fun q hq=>R.dj q (sub q hq),RSl.mono (za7 _ fun a z=>?_) d1 fun _ _ _ h=>h⟩,fun b o n h=>?_,fun b hb=>?_,fun b hb=>.inl (sub b hb)⟩
  ·exact (zar3.mp hq).elim (fun z=>zar0 _ (sub q z)) (fun z=>zaq8 _ z)
  ·exact (zar3.mp z).elim (fun z=>zar0 _ (sub a z)) (fun z=>zaq8 _ z)
  ·rw [zb4 (fun z=>n (by rw [z];exact pA))];exact gs _ _ h
  ·obtain⟨us,w⟩:=mu b (zar0 _ hb)
   rw [w];simp
def hasK (ks:List Key) (k:Key):Bool:=ks.any fun k'=>decide (k'=k)
noncomputable def zn0 (ks:List Key) (ds:List D) (k:Key) (d:D):List Key×List D :=
 if hasK ks k then (ks,zbd1 (fun k' d'=>if k'=k then d else d') ks ds) else (ks++[k],ds++[d])
theorem zv1 (k:Key):∀ {ks:List Key}{vs:List V},ks.length=vs.length→(valV (mkKV ks vs) k).isSome=hasK ks k
 |[],[],_=>rfl
 |k'::ks,d::ds,h=>by
  have i:=zv1 k (ks:=ks) (vs:=ds) (by simpa using h)
  unfold mkKV hasK at i ⊢
  simp only [zax0,zaw2]
  by_cases e:k'=k
  ·rw [zp1 (p:=(k',d)) e,decide_eq_true e];rfl
  ·rw [zp2 (p:=(k',d)) e,decide_eq_false e,i];rfl
 |[],_::_,h=>by simp at h
 |_::_,[],h=>by simp at h
section
variable {X:Cx}{F:List Addr}{a b c o:Expr}{es:List Expr}{fa fb fc:DE}{ga:DA}{pos:Pos}
noncomputable def kInD (neg:Bool):Ev→Ev→Option Ev:=fun r1 r2=>match r2.d with
 |.dct ks ds=>(keyD r1.d).map fun k=>.cl (.bl (if neg then !hasK ks k else hasK ks k))
 |_=>none
theorem zv0 {K:zaq9}{H:Hp}{d:D}{v:V}{k:Key} (r:Rep K H d v) (e:keyD d=some k):v=kV k:=by
 cases r<;>cases e<;>rfl
theorem od_inD (hu:X.A.units+64<cLine):OpD X F (compareOp .In) (kInD false):=by
 intro pins s σ H0 H A x y v u Q r1 r2 r I m g0 rx ry q1 q2 e hq
 unfold kInD at e
 split at e
 case h_2=>cases e
 rename_i ks ds z
 cases ek:keyD r1.d with
 |none=>rw [ek]at e;cases e
 |some k =>
  rw [ek]at e
  cases e
  have p1:=zv0 q1.full ek
  have p2:=q2.full
  rw [z]at p2
  cases p2 with
  |@dct _ _ p vs l h1 h2 =>
   subst p1
   cases (show u=Value.ref p from ry)
   refine d_in (by lia) I (DGet.k h1) rx fun s' I'=>?_
   rw [zv1 k l]
   exact⟨.bl _,H,I',rfl,hq _ H (Same.refl H) (.bl _)⟩
theorem zal7 (hu:X.A.units+64<cLine):OpD X F (compareOp .NotIn) (kInD true):=by
 intro pins s σ H0 H A x y v u Q r1 r2 r I m g0 rx ry q1 q2 e hq
 unfold kInD at e
 split at e
 case h_2=>cases e
 rename_i ks ds z
 cases ek:keyD r1.d with
 |none=>rw [ek]at e;cases e
 |some k =>
  rw [ek]at e
  cases e
  have p1:=zv0 q1.full ek
  have p2:=q2.full
  rw [z]at p2
  cases p2 with
  |@dct _ _ p vs l h1 h2 =>
   subst p1
   cases (show u=Value.ref p from ry)
   refine d_notIn (by lia) I (DGet.k h1) rx fun s' I'=>?_
   rw [zv1 k l]
   exact⟨.bl _,H,I',rfl,hq _ H (Same.refl H) (.bl _)⟩
theorem put_zip (k:Key) (d:D) {ks:List Key}{ds:List D} (h:ks.length=ds.length):putK (mkKV ks (ds.map sV)) k (sV d)=mkKV (zn0 ks ds k d).1 ((zn0 ks ds k d).2.map sV)∧(zn0 ks ds k d).1.length=(zn0 ks ds k d).2.length:=by
 have ha:(mkKV ks (ds.map sV)).any (fun kv=>decide (kv.1=k))=hasK ks k:=by
  rw [zu0,zv1 k (by simpa using h)]
 unfold putK zn0
 rw [ha]
 by_cases hc:hasK ks k=true
 ·rw [if_pos hc,if_pos hc]
  refine⟨?_,by simp;lia⟩
  clear hc ha
  unfold mkKV
  induction ks generalizing ds with
  |nil=>simp
  |cons k' ks ih =>
   cases ds with
   |nil=>simp at h
   |cons d' ds =>
    have i:=ih (ds:=ds) (by simpa using h)
    simp only [zas1,zax0,zaz4,i]
    by_cases e:k'=k
    ·simp [e]
    ·simp [e]
 ·rw [if_neg hc,if_neg hc]
  refine⟨?_,by simp;lia⟩
  unfold mkKV
  rw [zaz2,List.zip_append (by simpa using h)]
  rfl
theorem put_sc {ks:List Key}{k:Key}{d:D} (sd:scD d=true):∀ {ds:List D},ds.all scD=true→(zn0 ks ds k d).2.all scD=true:=fun {ds} s=>by
 unfold zn0
 split
 ·show (zbd1 _ ks ds).all scD=true
  rename_i hc
  clear hc
  induction ks generalizing ds with
  |nil=>simp
  |cons k' ks ih =>
   cases ds with
   |nil=>simp
   |cons d' ds =>
    simp only [zau0,zar9]at s
    simp only [zaz4,zau0,zar9]
    refine⟨?_,ih s.2⟩
    split
    ·exact sd
    ·exact s.1
 ·show (ds++[d]).all scD=true
  rw [List.all_append,s]
  simp [sd]
noncomputable def zan4 (t:Th) (i:Nat) (r k:Ev):Option Out:=match t[i]?,keyD k.d with
 |some (.dp (.dct ks ds)),some kk=>if ds.all scD&&scD r.d&&decide (ks.length<100000) then some (.nx (t.set i (.dp (.dct (zn0 ks ds kk r.d).1 (zn0 ks ds kk r.d).2)))) else none
 |_,_=>none
def zap2 (i:Nat) (fk fv:DE):DS:=fun t=>(fv t).bind fun r=>(fk t).bind fun k=>zan4 t i r k
end
end DL
namespace DL
open PySem.Spec L2
theorem Reach.mono {K:zaq9}{H H':Hp} (g:Same H H') {w:V}:∀ {ns:List Int}{v:V},Reach K H v ns w→Reach K H' v ns w
 |[],v,h=>h
 |n::ns,v,h=>by
  obtain⟨p,vs,x,e,h1,h2,h3⟩:=h
  refine⟨p,vs,x,e,?_,h2,Reach.mono g h3⟩
  rcases h1 with h1 | h1
  ·exact .inl (SqL.mono g h1)
  ·exact .inr (SqT.mono g h1)
theorem zaq6 {j:Nat}{d:D} (hd:scD d=true):∀ {ds:List D}{j:Nat},ds.all scD=true→(ds.set j d).all scD=true
 |[],j,_=>by simp
 |x::ds,0,h=>by
  simp only [zau0,zar9]at h
  simp only [List.set_cons_zero,zau0,hd,h.2,zaw3]
 |x::ds,j+1,h=>by
  simp only [zau0,zar9]at h
  simp only [List.set_cons_succ,zau0,h.1,Bool.true_and]
  exact zaq6 (j:=j) hd h.2
section
variable {X:Cx}{F:List Addr}{a b c o:Expr}{es:List Expr}{fa fb fc:DE}{fs:List DE}{pos:Pos}
noncomputable def kSetP (t:Th) (i:Nat) (ns:List Int) (r k:Ev):Option Out:=match t[i]? with
 |some (.dp d)=>match getP d ns,k.d with
  |some (.lst ds),.int n=>if ds.all scD&&scD r.d then (ixN ds.length n).bind fun j=>(putP d ns (.lst (ds.set j r.d))).map fun d2=>.nx (t.set i (.dp d2)) else none
  |_,_=>none
 |_=>none
noncomputable def zab8 (i:Nat) (fs:List DE) (fk fv:DE):DS:=fun t=>(fv t).bind fun r=>(pthD fs t).bind fun ns=>(fk t).bind fun k=>kSetP t i ns r k
theorem zu5 (i:Nat) {tpos:Pos} (ho:PE X o (plE X.K F i fs)) (hb:PE X b (dE X.K F fb)) (he:PE X a (dE X.K F fa))
  (ha:∀v,assign (.Subscript o b tpos) X.env v=(do
   let ov ← holding [v] (eval o X.env)
   let iv ← holding [v,ov] (eval b X.env)
   standAt tpos
   holding [v,ov,iv] (setItem ov iv v)
   release [v,ov,iv] []):=by intro _;rfl)
  (hs:swapsWithSole [.Subscript o b tpos] a pos.line X.env=pure false:=by rfl) (hw:swappedStores [.Subscript o b tpos] a X.env=pure none:=by rfl)
  (h1:(assignEach [.Subscript o b tpos] X.env).map (·.2)=[assign (.Subscript o b tpos) X.env]:=by rfl) :
  PS X (.Assign [.Subscript o b tpos] a pos) (dS X.K F (zab8 i fs fb fa)):=by
 refine PS.imp (ps_asg he (pg_sub ho hb set_list ha) hs hw h1) ?_
 rintro E σ H ⟨A,t,o',R,e,h⟩
 unfold zab8 at e
 cases e1:fa t with
 |none=>rw [e1]at e;cases e
 |some r =>
 cases e0:pthD fs t with
 |none=>rw [e1,e0]at e;cases e
 |some ns =>
 cases e2:fb t with
 |none=>rw [e1,e0,e2]at e;cases e
 |some kk =>
  rw [e1,e0,e2]at e
  have e:kSetP t i ns r kk=some o':=e
  unfold kSetP at e
  split at e
  case h_2=>cases e
  rename_i d z
  split at e
  case h_2=>cases e
  rename_i ds n z1 z2
  split at e
  case isFalse=>cases e
  rename_i ok
  simp only [zar9]at ok
  cases e4:ixN ds.length n with
  |none=>rw [e4]at e;cases e
  |some j =>
   rw [e4]at e
   simp only [zar2]at e
   cases e3:putP d ns (.lst (ds.set j r.d)) with
   |none=>rw [e3]at e;cases e
   |some d2 =>
    rw [e3]at e
    cases e
    obtain⟨v,p,vs1,B1,a1,a2,a3,a4,a5,a6,a7⟩:=R.place z z1
    obtain⟨rfl,rfl⟩:=zu4 a4 ok.1
    refine⟨A,t,r,R,e1,fun y H1 gs1 q1=>⟨A,t,v,ns,.ref p,R.grow gs1,e0,a1,a2.mono gs1,fun H2 gs2=>⟨A,t,kk,(R.grow gs1).grow gs2,e2,fun w H3 gs3 q2=>?_⟩⟩⟩
    have p2:=q2.full
    rw [z2]at p2
    cases zg3 p2
    have ey:=zad9 q1.full ok.2
    subst ey
    have gs:=(gs1.trans gs2).trans gs3
    refine⟨p,_,n,j,rfl,rfl,gs _ _ a3,by rw [zas7];exact e4,?_⟩
    obtain⟨A2,R2,gr⟩:=a7 H3 (ds.set j r.d) ((ds.set j r.d).map sV) [] d2 gs (fun H' k hh=>zp6 (zaq6 (j:=j) ok.2 ok.1)) (List.nil_sublist _) e3
    rw [zbf0]at R2 gr
    exact h _ _ _ gr R2
end
end DL
namespace DL
open PySem.Spec L2
section
variable {X:Cx}{F:List Addr}{a b c o:Expr}{es:List Expr}{fa fb fc:DE}{ga:DA}{pos pos1:Pos}
noncomputable def spP (G:List (Int×Int)→List Int→Option (List (Int×Int))):Sp:=fun vs H Q _ => ∃(p:Addr) (ps ps':List (Int×Int)) (ns:List Int),vs=.ref p::ns.map V.int∧H p=some (.dT (pkv ps))∧G ps ns=some ps' ∧
 ∀H',(∀b o,b≠p→H b=some o→H' b=some o)→H' p=some (.dT (pkv ps'))→Q .non H'
structure CalP (P:Program) (w:World) (K:zaq9) (mg:Str→Option Value) (base:BHeap) (x:Str) (k:Nat) (G:List (Int×Int)→List Int→Option (List (Int×Int))):Prop where
 ex:∃(a:Addr) (fd:FuncData) (ps:List Str),mg x=some (.ref a)∧zav3 K (.ref a)=true∧L2.Binds K fd ps []∧FnOk P w K mg base CX0 k a fd ps (spP G)
end
end DL
namespace PySem.SeqAt
open PySem.Spec
def fstD (e c:Nat→Bool):List Nat→Bool
 |[]=>false
 |j::r=>if e j then fstD e c r else c j
noncomputable def OpAt (op:CmpOp) (A:Around) (s:zas4) (a b:Value) (k:Bool):Prop := ∀(prog:Program) (w:World) (E:Value→zas4→Prop) (Q:Value→zas4→Prop),Q (.bool k) s→wpAny (model prog w) A (richCompare op a b) Q E s
theorem zah1 (l b:Addr) (items items2:Array Value) (n n2:Nat) (dd dd2:Option Addr) (sl sl2:Array (Option Value)) (e c:Nat→Bool) :
  Meets (Builtin.«tuple.__lt__» ⟨[.ref l,.ref b],[]⟩)
   (fun A R s=>s.heap.get? l=some { cls:=.type "tuple",dict:=dd,data:=.seq items n,slots:=sl }∧s.heap.get? b=some { cls:=.type "tuple",dict:=dd2,data:=.seq items2 n2,slots:=sl2 } ∧
    (∀j (h1:j<items.size) (h2:j<items2.size),EqAt A.in1 s items[j] items2[j] (e j))∧(∀j (h1:j<items.size) (h2:j<items2.size),e j=false→OpAt .Lt A.in1 s items[j] items2[j] (c j))∧items.size=items2.size ∧
    R (.ok (.ret (.bool (fstD e c (zat6 items.size))))) s) :=
 .of_wp fun prog w A R s h=>by
  obtain⟨hp,g,d,tk,os⟩:=s;obtain⟨hl,hb,he,hcc,hsz,h⟩:=h
  have f2:=AutoSeq1.sub_tuple_tuple
  have hZ:(items.toList.zip items2.toList).length=items.size:=by simp [hsz]
  wp_walk using wpAny_loadPart' hl,wpAny_loadPart' hb,wpAny_forIn_list _ (fun rest b s'=>b.1=none∧s'=⟨hp,g,d,tk,os⟩∧∃i,rest=(items.toList.zip items2.toList).drop i ∧
   R (.ok (.ret (.bool (fstD e c ((zat6 items.size).drop i))))) ⟨hp,g,d,tk,os⟩) _
  case turn =>
   rintro ⟨y,x⟩ rest b s' ⟨hb',rfl,i,hz,hR⟩
   have hlt:i<(items.toList.zip items2.toList).length:=by
    rcases zbb3 i (items.toList.zip items2.toList).length with h' |h'
    ·exact h'
    ·rw [zaw4 h']at hz;cases hz
   have h1:i<items.size:=hZ ▸ hlt
   have h2:i<items2.size:=hsz ▸ h1
   rw [zat0 hlt]at hz
   injection hz with hyx hrest
   have hy:y=items[i]:=by have:=congrArg Prod.fst hyx;simpa using this
   have hx:x=items2[i]:=by have:=congrArg Prod.snd hyx;simpa using this
   subst hy hx
   have hd:(zat6 items.size).drop i=i ::(zat6 items.size).drop (i+1):=by simp [zat0,h1]
   rw [hd,fstD]at hR
   refine zas0 (he i h1 h2 prog w _ _ ?_)
   cases hy:e i with
   |true =>
    rw [hy]at hR
    wp_walk
    exact⟨rfl,rfl,i+1,hrest,by simpa using hR⟩
   |false =>
    rw [hy]at hR
    simp only [Bool.not_false,if_true]
    refine zas0 (wpAny_rule (zas0 (hcc i h1 h2 hy prog w _ _ ?_)))
    wp_walk
    exact⟨_,rfl,by simpa using hR⟩
  case fin =>
   rintro ⟨b1,b2⟩ s' ⟨hb',rfl,i,hz,hR⟩
   simp only at hb'
   subst hb'
   have hge:items.size≤i:=by
    rcases zbb3 i (items.toList.zip items2.toList).length with h' |h'
    ·rw [zat0 h']at hz;cases hz
    ·exact hZ ▸ h'
   rw [zaw4 (by simpa using hge)]at hR
   wp_walk
   exact⟨_,rfl,by simpa [Builtin.Tuple.tupleCompareSizes,hsz,fstD] using hR⟩
  case h =>
   exact⟨rfl,rfl,0,rfl,by simpa using h⟩
theorem OpAt.tuples_lt {A:Around}{s:zas4}{l b:Addr}{items items2:Array Value}{e c:Nat→Bool} (hl:s.heap.IsTuple l items) (hb:s.heap.IsTuple b items2) (hu:A.units<cLine) (hsz:items.size=items2.size)
  (he:∀j (h1:j<items.size) (h2:j<items2.size),EqAt A.in1 s items[j] items2[j] (e j)) (hc:∀j (h1:j<items.size) (h2:j<items2.size),e j=false→OpAt .Lt A.in1 s items[j] items2[j] (c j)) :
  OpAt .Lt A s (.ref l) (.ref b) (fstD e c (zat6 items.size)):=fun prog w E Q h=>by
 obtain⟨⟨cls,dd,data,sl⟩,ho,hc1,n,hd⟩:=id hl
 obtain⟨⟨cls2,dd2,data2,sl2⟩,ho2,hc2,n2,hd2⟩:=id hb
 simp only at hc1 hd hc2 hd2
 subst hc1 hd hc2 hd2
 exact richCompare_meets_room (op:=.Lt) ⟨_,ho,rfl⟩ ⟨_,ho2,rfl⟩ F.slot_tuple_lt F.entry_tuple_lt (F.args_tuple_lt_2 _ _) (zah1 l b items items2 n n2 dd dd2 sl sl2 e c)
  ⟨ho,ho2,he,hc,hsz,show Value.bool _≠Value.notImplemented∧Q (.bool (fstD e c (zat6 items.size))) s from ⟨(fun x=>nomatch x),h⟩⟩ hu
theorem zah2 (l b:Addr) (items items2:Array Value) (n n2:Nat) (dd dd2:Option Addr) (sl sl2:Array (Option Value)) (e c:Nat→Bool) :
  Meets (Builtin.«tuple.__gt__» ⟨[.ref l,.ref b],[]⟩)
   (fun A R s=>s.heap.get? l=some { cls:=.type "tuple",dict:=dd,data:=.seq items n,slots:=sl }∧s.heap.get? b=some { cls:=.type "tuple",dict:=dd2,data:=.seq items2 n2,slots:=sl2 } ∧
    (∀j (h1:j<items.size) (h2:j<items2.size),EqAt A.in1 s items[j] items2[j] (e j))∧(∀j (h1:j<items.size) (h2:j<items2.size),e j=false→OpAt .Gt A.in1 s items[j] items2[j] (c j))∧items.size=items2.size ∧
    R (.ok (.ret (.bool (fstD e c (zat6 items.size))))) s) :=
 .of_wp fun prog w A R s h=>by
  obtain⟨hp,g,d,tk,os⟩:=s;obtain⟨hl,hb,he,hcc,hsz,h⟩:=h
  have f2:=AutoSeq1.sub_tuple_tuple
  have hZ:(items.toList.zip items2.toList).length=items.size:=by simp [hsz]
  wp_walk using wpAny_loadPart' hl,wpAny_loadPart' hb,wpAny_forIn_list _ (fun rest b s'=>b.1=none∧s'=⟨hp,g,d,tk,os⟩∧∃i,rest=(items.toList.zip items2.toList).drop i ∧
   R (.ok (.ret (.bool (fstD e c ((zat6 items.size).drop i))))) ⟨hp,g,d,tk,os⟩) _
  case turn =>
   rintro ⟨y,x⟩ rest b s' ⟨hb',rfl,i,hz,hR⟩
   have hlt:i<(items.toList.zip items2.toList).length:=by
    rcases zbb3 i (items.toList.zip items2.toList).length with h' |h'
    ·exact h'
    ·rw [zaw4 h']at hz;cases hz
   have h1:i<items.size:=hZ ▸ hlt
   have h2:i<items2.size:=hsz ▸ h1
   rw [zat0 hlt]at hz
   injection hz with hyx hrest
   have hy:y=items[i]:=by have:=congrArg Prod.fst hyx;simpa using this
   have hx:x=items2[i]:=by have:=congrArg Prod.snd hyx;simpa using this
   subst hy hx
   have hd:(zat6 items.size).drop i=i ::(zat6 items.size).drop (i+1):=by simp [zat0,h1]
   rw [hd,fstD]at hR
   refine zas0 (he i h1 h2 prog w _ _ ?_)
   cases hy:e i with
   |true =>
    rw [hy]at hR
    wp_walk
    exact⟨rfl,rfl,i+1,hrest,by simpa using hR⟩
   |false =>
    rw [hy]at hR
    simp only [Bool.not_false,if_true]
    refine zas0 (wpAny_rule (zas0 (hcc i h1 h2 hy prog w _ _ ?_)))
    wp_walk
    exact⟨_,rfl,by simpa using hR⟩
  case fin =>
   rintro ⟨b1,b2⟩ s' ⟨hb',rfl,i,hz,hR⟩
   simp only at hb'
   subst hb'
   have hge:items.size≤i:=by
    rcases zbb3 i (items.toList.zip items2.toList).length with h' |h'
    ·rw [zat0 h']at hz;cases hz
    ·exact hZ ▸ h'
   rw [zaw4 (by simpa using hge)]at hR
   wp_walk
   exact⟨_,rfl,by simpa [Builtin.Tuple.tupleCompareSizes,hsz,fstD] using hR⟩
  case h =>
   exact⟨rfl,rfl,0,rfl,by simpa using h⟩
theorem OpAt.tuples_gt {A:Around}{s:zas4}{l b:Addr}{items items2:Array Value}{e c:Nat→Bool} (hl:s.heap.IsTuple l items) (hb:s.heap.IsTuple b items2) (hu:A.units<cLine) (hsz:items.size=items2.size)
  (he:∀j (h1:j<items.size) (h2:j<items2.size),EqAt A.in1 s items[j] items2[j] (e j)) (hc:∀j (h1:j<items.size) (h2:j<items2.size),e j=false→OpAt .Gt A.in1 s items[j] items2[j] (c j)) :
  OpAt .Gt A s (.ref l) (.ref b) (fstD e c (zat6 items.size)):=fun prog w E Q h=>by
 obtain⟨⟨cls,dd,data,sl⟩,ho,hc1,n,hd⟩:=id hl
 obtain⟨⟨cls2,dd2,data2,sl2⟩,ho2,hc2,n2,hd2⟩:=id hb
 simp only at hc1 hd hc2 hd2
 subst hc1 hd hc2 hd2
 exact richCompare_meets_room (op:=.Gt) ⟨_,ho,rfl⟩ ⟨_,ho2,rfl⟩ F.slot_tuple_gt F.entry_tuple_gt (F.args_tuple_gt_2 _ _) (zah2 l b items items2 n n2 dd dd2 sl sl2 e c)
  ⟨ho,ho2,he,hc,hsz,show Value.bool _≠Value.notImplemented∧Q (.bool (fstD e c (zat6 items.size))) s from ⟨(fun x=>nomatch x),h⟩⟩ hu
end PySem.SeqAt
namespace L2
open PySem.Spec
noncomputable def CmpR (X:Cx) (op:CmpOp) (p:V→V→Hp→Bool→Prop):Prop :=
 ∀(pins:List (Addr×Obj)) (s:zas4) (σ:L2.St) (H:Hp) (y z:V) (u u':Value) (c:Bool) (Q:Value→zas4→Prop) (E:Value→zas4→Prop),Inv X pins σ H s→RelV y u→RelV z u'→p y z H c →
  (∀s',Inv X pins σ H s'→(∀b o,s.heap.get? b=some o→s'.heap.get? b=some o)→Q (.bool c) s')→wpAny (model X.prog X.w) X.A.in1 (richCompare op u u') Q E s
theorem Vals.two2 {a b:V}{us:List Value} (h:Vals [a,b] us):∃u v,us=[u,v]∧RelV a u∧RelV b v:=by
 cases h with
 |cons r t=>cases t with
  |cons r' t'=>cases t';exact⟨_,_,rfl,r,r'⟩
end L2
namespace DL
open PySem.Spec L2
def cmpI (mx:Bool) (i j:Int):Bool:=if mx then decide (i > j) else decide (i<j)
def lexI (mx:Bool):List Int→List Int→Bool
 |i::r,j::q=>if decide (i=j) then lexI mx r q else cmpI mx i j
 |_,_=>false
noncomputable def cmpD (mx:Bool):D→D→Option Bool
 |.int i,.int j=>some (cmpI mx i j)
 |.tup xs,.tup ys=>(zf6 xs).bind fun is=>(zf6 ys).bind fun js=>if is.length=js.length then some (lexI mx is js) else none
 |_,_=>none
theorem zab4 {mx:Bool}:∀ {is js:List Int}{e c:Nat→Bool},is.length=js.length→(∀j a b,is[j]?=some a→js[j]?=some b→e j=decide (a=b)∧c j=cmpI mx a b)→SeqAt.fstD e c (zat6 is.length)=lexI mx is js
 |[],[],e,c,_,_=>rfl
 |i::r,j::q,e,c,hl,h=>by
  have h0:=h 0 i j rfl rfl
  have shift:∀l:List Nat,SeqAt.fstD e c (l.map Nat.succ)=SeqAt.fstD (fun k=>e (k+1)) (fun k=>c (k+1)) l:=by
   intro l
   induction l with
   |nil=>rfl
   |cons a l ih=>simp only [zas1,SeqAt.fstD,ih]
  rw [zau3,List.range_succ_eq_map,SeqAt.fstD,shift,h0.1,h0.2,lexI,zab4 (mx:=mx) (is:=r) (js:=q) (by simpa using hl) fun k a b h1 h2=>h (k+1) a b (by simpa using h1) (by simpa using h2)]
 |[],_::_,_,_,hl,_=>by simp at hl
 |_::_,[],_,_,hl,_=>by simp at hl
def pD (K:zaq9) (mx:Bool):V→V→Hp→Bool→Prop:=fun y z H c => ∃d e,Rep K H d y∧Rep K H e z∧cmpD mx d e=some c
section
variable {X:Cx}
theorem cmp_D {mx:Bool}{op:CmpOp} (hop:op=if mx then .Gt else .Lt) (hu:X.A.units+64<cLine):CmpR X op (pD X.K mx):=by
 rintro pins s σ H y z u u' c Q E I ry rz ⟨d,e,rd,re,hc⟩ h
 have hs:=h s I fun _ _ e=>e
 have icmp:∀ {A:Around}{i j:Int}{t t':Tok},SeqAt.OpAt op A s (.int i t) (.int j t') (cmpI mx i j):=fun {A i j t t'} prog w E Q hq=>by
  cases mx with
  |false =>
   subst hop
   exact CmpOf.ints_lt (prog:=prog) (w:=w) (A:=A) (P:=fun (n:Nat) v => ∃t,v=.int (if n=0 then i else j) t) (fun n=>if n=0 then i else j) (fun _ _ h=>h) 0 1 _ _ _ _ _ ⟨t,rfl⟩ ⟨t',rfl⟩ hq
  |true =>
   subst hop
   exact CmpOf.ints_gt (prog:=prog) (w:=w) (A:=A) (P:=fun (n:Nat) v => ∃t,v=.int (if n=0 then i else j) t) (fun n=>if n=0 then i else j) (fun _ _ h=>h) 0 1 _ _ _ _ _ ⟨t,rfl⟩ ⟨t',rfl⟩ hq
 cases rd with
 |int i =>
  cases re with
  |int j =>
   obtain⟨t,rfl⟩:=ry
   obtain⟨t',rfl⟩:=rz
   simp only [cmpD]at hc
   cases hc
   exact icmp _ _ _ _ hs
  |_=>simp [cmpD]at hc
 |@tup xs pa vs h1 h2 =>
  cases re with
  |@tup ys pb ws g1 g2 =>
   simp only [cmpD]at hc
   cases e1:zf6 xs with
   |none=>rw [e1]at hc;cases hc
   |some is =>
    cases e2:zf6 ys with
    |none=>rw [e1,e2]at hc;cases hc
    |some js =>
     rw [e1,e2]at hc
     simp only [zar2]at hc
     split at hc
     case isFalse=>cases hc
     rename_i hl
     cases hc
     have x1:=zh4 e1
     have x2:=zh4 e2
     subst x1 x2
     have v1:=zd7 h2
     have v2:=zd7 g2
     subst v1 v2
     cases ry
     cases rz
     obtain⟨its,w1,w2,_⟩:=I.tuple h1
     obtain⟨its',w1',w2',_⟩:=I.tuple g1
     have l1:its.toArray.size=is.length:=by have:=w1.length;simp at this;simp [← this]
     have l2:its'.toArray.size=js.length:=by have:=w1'.length;simp at this;simp [← this]
     have at1:∀j (hj:j<its.toArray.size),∃t,its.toArray[j]=.int (is[j]'(by lia)) t:=fun j hj=>by
      obtain⟨v,e,r⟩:=Vals.getL w1 hj
      have hj':j<is.length:=by lia
      rw [zat7,zar5 hj']at e
      cases e
      exact r
     have at2:∀j (hj:j<its'.toArray.size),∃t,its'.toArray[j]=.int (js[j]'(by lia)) t:=fun j hj=>by
      obtain⟨v,e,r⟩:=Vals.getL w1' hj
      have hj':j<js.length:=by lia
      rw [zat7,zar5 hj']at e
      cases e
      exact r
     have he:∀j (q1:j<its.toArray.size) (q2:j<its'.toArray.size),SeqAt.EqAt X.A.in1.in1 s its.toArray[j] its'.toArray[j] (decide (is.getD j 0=js.getD j 0)):=fun j q1 q2=>by
      obtain⟨t,z1⟩:=at1 j q1
      obtain⟨t',z2⟩:=at2 j q2
      have k1:is.getD j 0=is[j]'(by lia):=by rw [zar7,zar5 (by lia)];rfl
      have k2:js.getD j 0=js[j]'(by lia):=by rw [zar7,zar5 (by lia)];rfl
      rw [z1,z2,k1,k2]
      have q:=zao6 I 6 X.A.in1.in1 (.int (is[j]'(by lia))) (.int (js[j]'(by lia))) _ _ (.int (is[j]'(by lia)) t) (.int (js[j]'(by lia)) t') (by show X.A.units+1+1+6<cLine;lia) (by rfl) (.int _) (.int _) ⟨t,rfl⟩ ⟨t',rfl⟩
      have:eqD (.int (is[j]'(by lia))) (.int (js[j]'(by lia)))=decide ((is[j]'(by lia))=(js[j]'(by lia))):=by
       cases w:decide ((is[j]'(by lia))=(js[j]'(by lia))) with
       |true=>rw [eqD_true];simp at w;rw [w]
       |false=>rw [eqD_false];simp at w;intro k;injection k with k;exact w k
      rw [← this];exact q
     have hcc:∀j (q1:j<its.toArray.size) (q2:j<its'.toArray.size),(decide (is.getD j 0=js.getD j 0))=false→SeqAt.OpAt op X.A.in1.in1 s its.toArray[j] its'.toArray[j] (cmpI mx (is.getD j 0) (js.getD j 0)):=fun j q1 q2 _=>by
      obtain⟨t,z1⟩:=at1 j q1
      obtain⟨t',z2⟩:=at2 j q2
      have k1:is.getD j 0=is[j]'(by lia):=by rw [zar7,zar5 (by lia)];rfl
      have k2:js.getD j 0=js[j]'(by lia):=by rw [zar7,zar5 (by lia)];rfl
      rw [z1,z2,k1,k2]
      exact icmp
     have hz:its.toArray.size=its'.toArray.size:=by lia
     have fl:=zab4 (mx:=mx) (is:=is) (js:=js) (e:=fun j=>decide (is.getD j 0=js.getD j 0)) (c:=fun j=>cmpI mx (is.getD j 0) (js.getD j 0)) hl (fun j a b z1 z2=>by simp [z1,z2])
     rw [← fl, ← l1]at hs
     cases mx with
     |false=>subst hop;exact SeqAt.OpAt.tuples_lt (A:=X.A.in1) w2 w2' (by show X.A.units+1<cLine;lia) hz he hcc _ _ _ _ hs
     |true=>subst hop;exact SeqAt.OpAt.tuples_gt (A:=X.A.in1) w2 w2' (by show X.A.units+1<cLine;lia) hz he hcc _ _ _ _ hs
  |_=>simp [cmpD]at hc
 |_=>simp [cmpD]at hc
end
noncomputable def zaq3 (mx:Bool) (fb:DE) (cs:List D):D→D→List D→Option D
 |b,_,[]=>some b
 |b,k,d::ds=>(fb (.val d::cs.map Sl.val)).bind fun r=>if flat r.d then (cmpD mx r.d k).bind fun c=>if c then zaq3 mx fb cs d r.d ds else zaq3 mx fb cs b k ds else none
noncomputable def dKey (mx:Bool) (cap:List Nat) (fa fb:DE):DE:=fun t=>(fa t).bind fun r=>(capD t cap).bind fun c=>match r.d with
 |.lst (d::ds)=>if (zf6 (d::ds)).isSome then (fb (.val d::c.2.map Sl.val)).bind fun k=>if flat k.d then (zaq3 mx fb c.2 d k.d ds).map Ev.cl else none else none
 |_=>none
end DL
namespace L2
open PySem.Spec PySem.W
def lamOf (x:Str):Str:=x++".<locals>."++"<lambda>"
theorem zx3 {β:Type}:∀ {l:List (Nat×β)}{a:Nat}{o:β},l.lookup a=some o→(a,o)∈l
 |[],_,_,e=>by cases e
 |(b,x)::r,a,o,e=>by
  rw [zau1]at e
  cases hb:a == b with
  |true=>rw [hb]at e;cases e;rw [eq_of_beq hb];exact .head _
  |false=>rw [hb]at e;exact .tail _ (zx3 e)
def tbOf (K:Frag) (names:List Str):List (Addr×Str):=names.filterMap fun x=>(tabIn K x).map fun q=>(q.2,lamOf x)
theorem of_tbOf {K:Frag}{names:List Str}{p:Addr×Str} (h:p∈tbOf K names):∃x∈names,∃c,tabIn K x=some (c,p.1):=by
 obtain⟨x,hx,e⟩:=zba2.mp h
 cases q:tabIn K x with
 |none=>rw [q]at e;cases e
 |some r=>rw [q]at e;cases e;exact⟨x,hx,r.1,q⟩
def TbOk (K:Frag) (names:List Str):Prop := ∀p∈tbOf K names,(tbOf K names).lookup p.1=some p.2∧K.lookup p.1=none
theorem tbOk_nil {K:Frag}:TbOk K []:=fun p hp=>by cases hp
theorem zam7 {P:Program}{w:World}{K:Frag}{mg mb:Str→Option Value}{CX:CXT}{k:Nat}{fa a:Addr}{fd:FuncData}{x:Str}{sp:Sp}{s₁:zas4}{vs:List Value}{ns:List Int}{names:List Str}
  (KX:K.In s₁.heap) (hns:s₁.heap.Ns mainGlobals mg) (hb:s₁.heap.Ns builtinsNs mb) (hbb:∀x:Str,x≠"__name__"→mb x=bootBuiltins x) (hlim:s₁.heap.NoLimit)
  (hbm:∃(bm:Addr) (ob:Obj),mg "__builtins__"=some (.ref bm)∧bm≠builtinsNs∧s₁.heap.get? bm=some ob∧ob.cls=.type "module"∧ob.dict=some builtinsNs∧ob.data=.plain) (hg:s₁.gens = #[])
  (ha:s₁.heap.get? a=some { cls:=.type "list",data:=.seq vs.toArray }) (hi:IntsAre vs ns) (hl:ns.length≤sizeLine) (hr:Room k callerA)
  (hT:∀x∈names,∀c P,tabIn K x=some (c,P)→CodeHd s₁.heap c P∧s₁.heap.get? P=some (tabObj #[])) (hn:TbOk K names)
  (F:∀base:BHeap,base.tabs=tbOf K names→K.In base→base.Ns mainGlobals mg→(∀x∈names,∀c P,tabIn K x=some (c,P)→CodeHd base c P)→FnOk P w K mg base CX k fa fd [x] sp)
  (hbind:∀(s:zas4) (u:Value),BindsTo s fd ⟨[u],[]⟩ [(x,u)]) (hsp:∀H:Hp,SqL K H a (ns.map V.int)→sp [.ref a] H (fun v _=>v=.bl true) fun _ _ _=>False)
  (hCX:∀H e s',CX [] H s₁ (fun _ _ _=>False) e s'→False) :
  codeAny (model P w) callerA (.call (.ref fa) ⟨[.ref a],[]⟩) (fun r s'=>r=.ok (.ret (.bool true))∧OldK s₁.heap s'.heap∧s'.os=s₁.os∧AllBare s'.gens) s₁:=by
 have rv:=zm6 hi
 have lenV:=hi.length
 have tabH:∀p∈tbOf K names,∃c,CodeHd s₁.heap c p.1∧s₁.heap.get? p.1=some (tabObj #[]):=fun p hp=>by
  obtain⟨y,hy,c,e⟩:=of_tbOf hp
  exact⟨c,hT y hy c p.1 e⟩
 have core:∀H:Hp,SqL K H a (ns.map V.int)→HOk P w H s₁.heap→(∀p∈tbOf K names,H p.1=some (.tbl p.2)) →
   (∀b o,H b=some o→(b=a∧K.lookup a=none∧∃ob xs,o=.frz ob (.lst xs))∨∃q,o=.tbl q∧(b,q)∈tbOf K names) →
   codeAny (model P w) callerA (.call (.ref fa) ⟨[.ref a],[]⟩) (fun r s'=>r=.ok (.ret (.bool true))∧OldK s₁.heap s'.heap∧s'.os=s₁.os∧AllBare s'.gens) s₁:=by
  intro H hS hok hTB hH
  have free:∀ {b:Addr}{o:Obj},s₁.heap.get? b=some o→(o.cls=.type "list"→False)→o≠tabObj #[]→H b=none:=fun {b o} e n1 n2=>by
   cases q:H b with
   |none=>rfl
   |some u =>
    rcases hH b u q with ⟨rfl,_⟩ | ⟨qq,rfl,hm⟩
    ·rw [ha]at e;cases e;exact (n1 rfl).elim
    ·obtain⟨c,_,e2⟩:=tabH _ hm
     have e2:s₁.heap.get? b=some (tabObj #[]):=e2
     rw [e]at e2;cases e2;exact (n2 rfl).elim
  have nsK:∀ {b:Addr}{m:Str→Option Value},s₁.heap.Ns b m→(hidT s₁.heap H).Ns b m:=fun {b m} ⟨o,es,ep,e,d,r⟩=>⟨o,es,ep,zp8 e (by
   cases q:H b with
   |none=>rfl
   |some u =>
    rcases hH b u q with ⟨rfl,_⟩ | ⟨qq,rfl,hm⟩
    ·rw [ha]at e;cases e;cases d
    ·obtain⟨c,_,e2⟩:=tabH _ hm
     have e2:s₁.heap.get? b=some (tabObj #[]):=e2
     rw [e]at e2;cases e2;cases d),d,r⟩
  have hKb:K.In (hidT s₁.heap H):=fun b o e=>zp8 (KX b o e) (by
   cases q:H b with
   |none=>rfl
   |some u =>
    rcases hH b u q with ⟨rfl,n,_⟩ | ⟨qq,rfl,hm⟩
    ·rw [n]at e;cases e
    ·have n:K.lookup b=none:=(hn _ hm).2
     rw [n]at e;cases e)
  have hM:Mod K mg ⟨hidT s₁.heap H,tbOf K names⟩:=⟨hKb,nsK hns,⟨mb,nsK hb,hbb⟩,let ⟨mc,h1,h2⟩:=hlim;⟨mc,nsK h1,h2⟩,by
   obtain⟨bm,ob,b1,b2,b3,b4,b5,b6⟩:=hbm
   exact⟨bm,ob,b1,b2,zp8 b3 (free b3 (fun z=>by rw [b4]at z;simp at z) fun z=>by rw [z]at b4;cases b4),b4,b5,b6⟩⟩
  have hCd:∀x∈names,∀c P,tabIn K x=some (c,P)→CodeHd (hidT s₁.heap H) c P:=fun x hx c P e=>by
   obtain⟨⟨o,vs,file,tf,flags,tg,inF,text,tt,e1,r1,r⟩,_⟩:=hT x hx c P e
   exact⟨o,vs,file,tf,flags,tg,inF,text,tt,zp8 e1 (free e1 (fun z=>by rw [r1]at z;simp at z) fun z=>by rw [z]at r1;cases r1),r1,r⟩
  have e0:Env0 P w K mg ⟨hidT s₁.heap H,tbOf K names⟩ callerA [] s₁ H:=⟨rfl,hM,fun b o e=>of_hidT e,Nat.le_of_eq (zan9 _ _),trivial,fun b hb=>absurd (show b∈([]:List Addr) from hb) (by simp),hok,.of_eq hg,hTB⟩
  refine codeAny_mono ((F ⟨hidT s₁.heap H,tbOf K names⟩ rfl hKb (nsK hns) hCd).run callerA [] s₁ H ⟨[.ref a],[]⟩ [.ref a] [.ref a] _ _ hr e0 (hbind s₁ (.ref a)) (.cons rfl .nil) (hsp H hS)) fun r s' h=>?_
  cases r with
  |error e=>exact (hCX H e s' h).elim
  |ok fl =>
   cases fl with
   |next=>exact False.elim h
   |brk=>exact False.elim h
   |cont=>exact False.elim h
   |ret u =>
    obtain⟨v,H',os,bare,un,hok',r',q⟩:=h
    have q':v=.bl true:=q
    subst q'
    obtain rfl:u=Value.bool true:=r'
    have kp:∀b o,s₁.heap.get? b=some o→s'.heap.get? b=some o∨∃qq,H b=some (.tbl qq):=fun b o e=>by
     cases q:H b with
     |none=>exact .inl (un.keep b o e q (by intro z;exact absurd (show b∈([]:List Addr) from z) (by simp)) (by simp))
     |some u =>
      rcases hH b u q with ⟨rfl,_,ob,xs,rfl⟩ | ⟨qq,rfl,hm⟩
      ·obtain⟨e1,_⟩:=hok b _ q
       obtain⟨e2,_⟩:=hok' b _ (un.frzs b ob _ q)
       rw [e]at e1;cases e1
       exact .inl e2
      ·exact .inr ⟨qq,rfl⟩
    refine⟨rfl,⟨fun b o e=>?_,fun b o e=>?_⟩,os,bare⟩
    ·rcases kp b o e with z | ⟨qq,z⟩
     ·exact .inl z
     ·rcases hH b _ z with ⟨_,_,ob,xs,z2⟩ | ⟨q2,z2,hm⟩
      ·cases z2
      ·obtain⟨c,C,e2⟩:=tabH _ hm
       have e2:s₁.heap.get? b=some (tabObj #[]):=e2
       rw [e]at e2
       cases e2
       obtain⟨ps,e3,_⟩:=hok' b _ (un.tbls b _ z)
       have C:CodeHd s₁.heap c b:=C
       exact .inr (.inl ⟨(C.tab e).isCodeTable,rfl, #[],ps,rfl,by simpa using e3⟩)
    ·rcases kp b o e with z | ⟨qq,z⟩
     ·exact⟨o,z⟩
     ·obtain⟨ps,e3,_⟩:=hok' b _ (un.tbls b _ z)
      exact⟨_,e3⟩
 have tabO:∀(H:Hp) (p:Addr×Str),p∈tbOf K names→ObjOk P w H s₁.heap p.1 (.tbl p.2):=fun H p hp=>by
  obtain⟨c,_,e⟩:=tabH p hp
  exact⟨#[],e,trivial,fun pos cv z=>by cases z⟩
 have lk:∀b q,(tbOf K names).lookup b=some q→(b,q)∈tbOf K names:=fun b q e=>zx3 e
 have aT:∀q,(a,q)∈tbOf K names→False:=fun q hm=>by
  obtain⟨c,_,e⟩:=tabH _ hm
  have e:s₁.heap.get? a=some (tabObj #[]):=e
  rw [ha]at e;cases e
 cases hk:K.lookup a with
 |some o =>
  have e:=KX a o hk
  rw [ha]at e
  cases e
  refine core (fun b=>((tbOf K names).lookup b).map HO.tbl) (.inr ⟨_,vs.toArray,_,hk,rfl,rfl,rfl,by rw [zas8,lenV];exact hl,by simpa using rv⟩) (fun b u z=>?_) (fun p hp=>by simp only [(hn p hp).1,zau4]) fun b u z=>?_
  ·cases q:(tbOf K names).lookup b with
   |none=>simp only [q]at z;cases z
   |some qq=>simp only [q]at z;cases z;exact tabO _ _ (lk b qq q)
  ·cases q:(tbOf K names).lookup b with
   |none=>simp only [q]at z;cases z
   |some qq=>simp only [q]at z;cases z;exact .inr ⟨qq,rfl,lk b qq q⟩
 |none =>
  refine core (fun b=>if b=a then some (.frz { cls:=.type "list",data:=.seq vs.toArray } (.lst (ns.map V.int))) else ((tbOf K names).lookup b).map HO.tbl) (.inl (.inr ⟨{ cls:=.type "list",data:=.seq vs.toArray },if_pos rfl⟩)) (fun b u z=>?_) (fun p hp=>?_) fun b u z=>?_
  ·by_cases hb:b=a
   ·have z':=(if_pos hb).symm.trans z
    cases z'
    subst hb
    exact⟨ha,by rw [zas7];exact hl,vs,_,rv,ha⟩
   ·have z':=(if_neg hb).symm.trans z
    cases q:(tbOf K names).lookup b with
    |none=>simp only [q]at z';cases z'
    |some qq=>simp only [q]at z';cases z';exact tabO _ _ (lk b qq q)
  ·have:p.1≠a:=fun e=>aT p.2 (by rw [← e];exact hp)
   simp only [this,if_false,(hn p hp).1,zau4]
  ·by_cases hb:b=a
   ·have z':=(if_pos hb).symm.trans z
    cases z'
    exact .inl ⟨hb,hk,_,_,rfl⟩
   ·have z':=(if_neg hb).symm.trans z
    cases q:(tbOf K names).lookup b with
    |none=>simp only [q]at z';cases z'
    |some qq=>simp only [q]at z';cases z';exact .inr ⟨qq,rfl,lk b qq q⟩
end L2
namespace L2
open PySem.W
theorem walk_ofT {l:zbf9}{n k:Nat}{q:Program}{loose:List Str}{XP:(Str→Option Value)→Heap→Prop}{YP:World→Heap→Prop}{d:DefRec}{K:Params→zaq9}{CX:World→CXT}{sp:World→Sp}{x:Str}{names:List Str}
  (hn:l.most=some n) (hn2:n≤sizeLine) (hdf:d.params.defaults=[]) (hr:Room k callerA)
  (hY:∀(w:World) (h:Heap),YP w h→(K w.params).In h) (hrec:∀x∈names,∃dr,(recsOf q).find? (fun e=>e.name == x)=some dr)
  (F:∀(w:World) (mg:Str→Option Value) (fa:Addr) (h:Heap),(K w.params).In h→h.Ns mainGlobals mg→mg d.name=some (.ref fa) →
   TbOk (K w.params) names∧∃fd:FuncData,(∀(s:zas4) (u:Value),BindsTo s fd ⟨[u],[]⟩ [(x,u)]) ∧
    ∀base:BHeap,base.tabs=tbOf (K w.params) names→(K w.params).In base→base.Ns mainGlobals mg→(∀x∈names,∀c P,tabIn (K w.params) x=some (c,P)→CodeHd base c P)→FnOk l.prog w (K w.params) mg base (CX w) k fa fd [x] (sp w))
  (hsp:∀(w:World) (H:Hp) (a:Addr) (ns:List Int),ns.length≤n→(∀i∈ns,i.natAbs<bndS)→SqL (K w.params) H a (ns.map V.int)→sp w [.ref a] H (fun v _=>v=.bl true) fun _ _ _=>False)
  (hCX:∀(w:World) (H:Hp) (s:zas4) (e:Value) (s':zas4),CX w [] H s (fun _ _ _=>False) e s'→False) :
  zbi7 q loose XP YP l.row.toRowW d [] (fun f vs=>PySem.call f vs):=by
 intro w s₀ s₁ mg mb G Y fa o pm cd doc dV kV ho hd hcd hD hmg hg args vals as hpre hlay hrd hwl hlo
 obtain rfl:dV=.none:=Dflts.none hD hdf
 obtain rfl:kV=.none:=Dflts.noKw hD
 obtain⟨a,vs,ns,rfl,rfl,hobj,hints,hlen⟩:=Att.script_of hn hpre hwl
 have hb:=bnd_of hlay
 have KX:=hY w _ Y
 obtain⟨hok,fd,hbd,hF⟩:=F w mg fa _ KX G.T.g hmg
 refine enter_call (codeAny_mono (zam7 KX G.T.g G.T.b G.T.builtins G.T.nolimit G.T.bmain hg hobj hints (zaw5 hlen hn2) hr (fun x hx c P e=>by
  obtain⟨dr,h⟩:=hrec x hx
  exact tab_of G.T KX h e) hok hF hbd (fun H hS=>hsp w H a ns hlen hb hS) fun H e s'=>hCX w H s₁ e s') fun r s' hq=>?_)
 obtain⟨rfl,h2,h3,h4⟩:=hq
 exact⟨.inl ⟨.bool true,.bool true,[],rfl,fun _=>rfl,.bool true,Att.post_true l _,fun _=>⟨List.Pairwise.nil,fun _ hm=>(nomatch hm)⟩⟩,h2,h3,h4⟩
end L2
namespace DL
open PySem.Spec L2
def isSt:Expr→Bool
 |.Starred _ _=>true
 |_=>false
theorem zf4 {a:Expr}{es:List Expr}{env:Env} (h:isSt a=false):zat2 (a::es) env=(false,eval a env)::zat2 es env:=by
 cases a<;>first | rfl | cases h
theorem RS.putOwned {K:zaq9}{F A:List Addr}{H:Hp}{t:Th}{σ:L2.St}{i:Nat}{d:D}{v:V}{B:List Addr} (R:RS K (B++F) H A t σ) (nb:B.Nodup) (dj:∀b∈B,b∉F) (r:RepD K (hide (A++(B++F)) H) H d v B) (hi:i<t.length) :
  ∃A',(∀x∈A',x∈B∨x∈A)∧RS K F H A' (t.set i (.dp d)) (σ.set i (some v)):=by
 have lb:=r.lists
 obtain⟨A2,r2,sub2,nd2⟩:=RSl.setAny (s:=.dp d) (v:=v) (B:=B) (fun q=>.dp r q) i R.rel hi
 refine⟨A2,sub2,⟨fun p hp=>?_,nd2 R.nd nb (fun b hb z=>R.dj b z (zar0 _ hb)),fun p hp=>?_,RSl.mono (za7 H fun x hx=>?_) r2 fun _ _ _ w=>w⟩⟩
 ·rcases zar3.mp hp with z | z
  ·rcases sub2 p z with w | w
   ·exact lb p w
   ·exact R.mu p (zar0 _ w)
  ·exact R.mu p (zaq8 _ (zaq8 _ z))
 ·rcases sub2 p hp with w | w
  ·exact dj p w
  ·exact fun z=>R.dj p w (zaq8 _ z)
 ·rcases zar3.mp hx with z | z
  ·rcases sub2 x z with w | w
   ·exact zaq8 _ (zar0 _ w)
   ·exact zar0 _ w
  ·exact zaq8 _ (zaq8 _ z)
theorem RS.less {K:zaq9}{F F' A:List Addr}{H:Hp}{t:Th}{σ:L2.St} (R:RS K F H A t σ) (h:∀b∈F',b∈F):RS K F' H A t σ :=
 ⟨fun p hp=>R.mu p ((zar3.mp hp).elim (zar0 _) fun z=>zaq8 _ (h p z)),R.nd,fun p hp z=>R.dj p hp (h p z),
  RSl.mono (za7 H fun x hx=>(zar3.mp hx).elim (zar0 _) fun z=>zaq8 _ (h x z)) R.rel fun _ _ _ w=>w⟩
noncomputable def TgN (K:zaq9) (g:TG) (k:D→Th→Option Th):Prop :=
 ∀F σ H A B t t' d x (Q:L2.St→Hp→Prop),RS K (B++F) H A t σ→B.Nodup→(∀b∈B,b∉F)→RepD K (hide (A++(B++F)) H) H d x B→k d t=some t'→(∀σ2 A2,(∀x∈A2,x∈B∨x∈A)→RS K F H A2 t' σ2→Q σ2 H)→g x σ H Q
noncomputable def TgsN (K:zaq9) (g:TGs) (k:List D→Th→Option Th):Prop :=
 ∀F σ H A B t t' ds xs (Q:L2.St→Hp→Prop),RS K (B++F) H A t σ→B.Nodup→(∀b∈B,b∉F)→RepDs K (hide (A++(B++F)) H) H ds xs B→k ds t=some t'→(∀σ2 A2,(∀x∈A2,x∈B∨x∈A)→RS K F H A2 t' σ2→Q σ2 H)→g xs σ H Q
def zt5 (i:Nat):D→Th→Option Th:=fun d t=>if i<t.length then some (if flat d then t.set i (.val d) else t.set i (.dp d)) else none
theorem zaj2 {K:zaq9} (i:Nat):TgN K (zao1 i) (zt5 i):=by
 intro F σ H A B t t' d x Q R nb dj r e h
 unfold zt5 at e
 split at e
 case isFalse=>cases e
 rename_i hi
 cases e
 split at h
 ·rename_i f
  have R1:RS K F H A t σ:=R.less fun b hb=>zaq8 _ hb
  have rp:Rep K (hide (A++F) H) d x:=Rep.hid R1.mu f (r.rep (zb1 _ _) fun _ _ _ w=>w)
  obtain⟨A',g',R'⟩:=R1.put (i:=i) (r:=.cl d) (v:=x) (t':=t.set i (.val d)) (Same.refl H) rp (by unfold zi6;rw [if_pos hi])
  refine h _ A' (fun y hy=>?_) R'
  rcases g'.nw y hy with z | z
  ·exact .inr z
  ·obtain⟨o,w⟩:=R'.mu y (zar0 _ hy)
   rw [w]at z;cases z
 ·obtain⟨A',sub,R'⟩:=R.putOwned nb dj r hi
  exact h _ A' sub R'
theorem tns_nil {K:zaq9}:TgsN K gNil zl3:=by
 intro F σ H A B t t' ds xs Q R nb dj r e h
 cases r with
 |nil=>cases e;exact⟨rfl,h σ A (fun x hx=>.inr hx) R⟩
 |cons _ _=>cases e
theorem zad5 {K:zaq9}{g:TG}{g':TGs}{k:D→Th→Option Th}{k':List D→Th→Option Th} (h1:TgN K g k) (h2:TgsN K g' k'):TgsN K (gCons g g') (zc5 k k'):=by
 intro F σ H A B t t' ds xs Q R nb dj r e h
 cases r with
 |nil=>cases e
 |@cons d v ds vs B1 C r1 r2 =>
  unfold zc5 at e
  cases e1:k d t with
  |none=>simp only [e1]at e;cases e
  |some t1 =>
   simp only [e1]at e
   have n0:=zas9.mp nb
   have eq:B1++C++F=B1++(C++F):=zax3 ..
   rw [eq]at R r1 r2
   refine⟨v,vs,rfl,h1 (C++F) σ H A B1 t t1 d v _ R n0.1 (fun b hb z=>?_) r1 e1 fun σ2 A2 s2 R2=>?_⟩
   ·rcases zar3.mp z with w | w
    ·exact n0.2.2 b hb b w rfl
    ·exact dj b (zar0 _ hb) w
   ·refine h2 F σ2 H A2 C t1 t' ds vs Q R2 n0.2.1 (fun b hb=>dj b (zaq8 _ hb)) (RepDs.mono (za7 H fun x hx=>?_) r2 fun _ _ _ w=>w) e fun σ3 A3 s3 R3=>h σ3 A3 (fun x hx=>?_) R3
    ·rcases zar3.mp hx with z | z
     ·rcases s2 x z with w | w
      ·exact zaq8 _ (zar0 _ w)
      ·exact zar0 _ w
     ·exact zaq8 _ (zaq8 _ z)
    ·rcases s3 x hx with z | z
     ·exact .inl (zaq8 _ z)
     ·rcases s2 x z with w | w
      ·exact .inl (zar0 _ w)
      ·exact .inr w
theorem tn_tup {K:zaq9}{n:Nat}{g':TGs}{k':List D→Th→Option Th} (h2:TgsN K g' k'):TgN K (gTup K n g') (zj7 n k'):=by
 intro F σ H A B t t' d x Q R nb dj r e h
 unfold zj7 at e
 split at e
 ·rename_i ds
  split at e
  ·rename_i hl
   cases r with
   |flat f r =>
    cases r with
    |@tup _ p vs h1 hr=>exact⟨p,vs,rfl,SqT.mono (zb1 _ _) h1,by rw [hr.length];exact hl,h2 F σ H A [] t t' ds vs Q R nb dj (RepDs.of_flat (by simpa [DL.flat] using f) hr) e h⟩
   |@tup _ p vs _ h1 hr=>exact⟨p,vs,rfl,SqT.mono (zb1 _ _) h1,by rw [hr.length];exact hl,h2 F σ H A B t t' ds vs Q R nb dj hr e h⟩
  ·cases e
 ·cases e
theorem RSl.loseDp {K:zaq9}{H0 H:Hp}:∀ {t:Th}{σ:L2.St}{A:List Addr},RSl K H0 H t σ A→A.Nodup→∀ {i:Nat}{d:D},t[i]?=some (.dp d)→∃v B A',σ[i]?=some (some v)∧RepD K H0 H d v B∧RSl K H0 H (t.set i .no) σ A'∧(∀x∈A',x∈A)∧(∀x∈B,x∈A)∧(∀x∈A,x∈B∨x∈A')∧B.Nodup∧A'.Nodup∧(∀x∈A',x∉B):=by
 intro _ _ _ h
 induction h with
 |nil =>
  intro n i d e
  simp at e
 |@no _ _ _ _ r ih =>
  intro n i d e
  cases i with
  |zero =>
   simp at e
  |succ i =>
   obtain⟨v,B,A',a1,a2,a3,a4⟩:=ih n (i:=i) (d:=d) (by simpa using e)
   exact⟨v,B,A',by simpa using a1,a2,.no a3,a4⟩
 |@val _ _ _ _ _ h r ih =>
  intro n i d e
  cases i with
  |zero =>
   simp at e
  |succ i =>
   obtain⟨v,B,A',a1,a2,a3,a4⟩:=ih n (i:=i) (d:=d) (by simpa using e)
   exact⟨v,B,A',by simpa using a1,a2,.val h a3,a4⟩
 |@own p _ _ _ _ _ h1 h2 r ih =>
  intro n i d e
  cases i with
  |zero =>
   simp at e
  |succ i =>
   have n0:=zat3.mp n
   obtain⟨v,B,A',a1,a2,a3,a4,a5,a6,a7,a8,a9⟩:=ih n0.2 (i:=i) (d:=d) (by simpa using e)
   refine⟨v,B,p::A',by simpa using a1,a2,.own h1 h2 a3,fun x hx=>?_,fun x hx=>zar1 _ (a5 x hx),fun x hx=>?_,a7,zat3.mpr ⟨fun z=>n0.1 (a4 p z),a8⟩,fun x hx z=>?_⟩
   ·rcases zar8.mp hx with w | w
    ·rw [w];exact zar4 ..
    ·exact zar1 _ (a4 x w)
   ·rcases zar8.mp hx with w | w
    ·rw [w];exact .inr (zar4 ..)
    ·exact (a6 x w).imp id (zar1 _)
   ·rcases zar8.mp hx with w | w
    ·exact n0.1 (w ▸ a5 x z)
    ·exact a9 x w z
 |@dp _ v C _ _ A h r ih =>
  intro n i d e
  cases i with
  |zero =>
   simp at e;subst e
   have n0:=zas9.mp n
   exact⟨v,C,A,rfl,h,.no r,fun x hx=>zaq8 _ hx,fun x hx=>zar0 _ hx,fun x hx=>zar3.mp hx,n0.1,n0.2.1,fun x hx z=>n0.2.2 x z x hx rfl⟩
  |succ i =>
   have n0:=zas9.mp n
   obtain⟨v,B,A',a1,a2,a3,a4,a5,a6,a7,a8,a9⟩:=ih n0.2.1 (i:=i) (d:=d) (by simpa using e)
   refine⟨v,B,C++A',by simpa using a1,a2,.dp h a3,fun x hx=>?_,fun x hx=>zaq8 _ (a5 x hx),fun x hx=>?_,a7,zas9.mpr ⟨n0.1,a8,fun x hx y hy e=>n0.2.2 x hx y (a4 y hy) e⟩,fun x hx z=>?_⟩
   ·rcases zar3.mp hx with w | w
    ·exact zar0 _ w
    ·exact zaq8 _ (a4 x w)
   ·rcases zar3.mp hx with w | w
    ·exact .inr (zar0 _ w)
    ·exact (a6 x w).imp id (zaq8 _)
   ·rcases zar3.mp hx with w | w
    ·exact n0.2.2 x w x (a5 x z) rfl
    ·exact a9 x w z
theorem RS.takeDp {K:zaq9}{F A:List Addr}{H:Hp}{t:Th}{σ:L2.St}{i:Nat}{d:D} (R:RS K F H A t σ) (e:t[i]?=some (.dp d)) :
  ∃v B A',σ[i]?=some (some v)∧RS K (B++F) H A' (t.set i .no) σ∧B.Nodup∧(∀b∈B,b∉F)∧RepD K (hide (A'++(B++F)) H) H d v B∧(∀x∈A',x∈A)∧(∀x∈B,x∈A):=by
 obtain⟨v,B,A',a1,a2,a3,a4,a5,a6,a7,a8,a9⟩:=R.rel.loseDp R.nd e
 have s:Same (hide (A++F) H) (hide (A'++(B++F)) H):=za7 H fun x hx=>by
  rcases zar3.mp hx with z | z
  ·exact zar0 _ (a4 x z)
  ·rcases zar3.mp z with z | z
   ·exact zar0 _ (a5 x z)
   ·exact zaq8 _ z
 refine⟨v,B,A',a1,⟨fun p hp=>?_,a8,fun p hp z=>?_,RSl.mono s a3 fun _ _ _ w=>w⟩,a7,fun b hb=>R.dj b (a5 b hb),RepD.mono s a2 fun _ _ _ w=>w,a4,a5⟩
 ·rcases zar3.mp hp with z | z
  ·exact R.mu p (zar0 _ (a4 p z))
  ·rcases zar3.mp z with z | z
   ·exact R.mu p (zar0 _ (a5 p z))
   ·exact R.mu p (zaq8 _ z)
 ·rcases zar3.mp z with z | z
  ·exact a9 p hp z
  ·exact R.dj p (a4 p hp) z
theorem RS.aside {K:zaq9}{F A:List Addr}{H H':Hp}{t:Th}{σ:L2.St}{B:List Addr} (R:RS K F H A t σ) (g:Same H H') (fr:∀b∈B,H b=none) (lb:Lists H' B):RS K (B++F) H' A t σ:=by
 have np:∀b∈B,b∉A++F:=fun b hb=>zc1 R.mu (fr b hb)
 refine⟨fun p hp=>?_,R.nd,fun p hp z=>?_,RSl.mono (fun b o h=>?_) R.rel fun b _ o h=>g _ _ h⟩
 ·rcases zar3.mp hp with z | z
  ·exact (R.mu.mono g) p (zar0 _ z)
  ·rcases zar3.mp z with z | z
   ·exact lb p z
   ·exact (R.mu.mono g) p (zaq8 _ z)
 ·rcases zar3.mp z with z | z
  ·exact np p z (zar0 _ hp)
  ·exact R.dj p hp z
 ·obtain⟨n,h⟩:=zf5 h
  refine zb7 (g _ _ h) fun z=>?_
  rcases zar3.mp z with z | z
  ·exact n (zar0 _ z)
  ·rcases zar3.mp z with z | z
   ·rw [fr b z]at h;cases h
   ·exact n (zaq8 _ z)
section
variable {X:Cx}{F:List Addr}{a b c:Expr}{es:List Expr}{fa fb fc:DE}{pos:Pos}{tg:Expr}{gt:TG}{kt:D→Th→Option Th}
def dUnp (k:Nat) (kt:D→Th→Option Th):DS:=fun t=>match t[k]? with
 |some (.dp d)=>(kt d (t.set k .no)).map Out.nx
 |_=>none
theorem psd_unp (k:Nat) {x:Str}{pos':Pos} (hg:PG X tg gt) (ht:TgN X.K gt kt) (hN:X.N[k]?=some x:=by rfl) (hv:Vis X.env.scope x:=by first | exact Or.inl rfl | exact Or.inr (Or.inl rfl) |exact Or.inr (Or.inr rfl)) (hd:(x ==("__debug__":Str))=false:=by decide)
  (hcd:(x ==("__classdict__":Str))=false:=by decide) (hs:swapsWithSole [tg] (.Name x pos') pos.line X.env=pure false:=by rfl) (hw:swappedStores [tg] (.Name x pos') X.env=pure none:=by rfl)
  (h1:(assignEach [tg] X.env).map (·.2)=[assign tg X.env]:=by rfl):PS X (.Assign [tg] (.Name x pos') pos) (dS X.K F (dUnp k kt)):=by
 refine PS.imp (ps_asg (zj6 (i:=k) hN hv hd hcd) hg hs hw h1) ?_
 rintro E σ H ⟨A,t,o,R,e,h⟩
 unfold dUnp at e
 split at e
 case h_2=>cases e
 rename_i d z
 cases e2:kt d (t.set k .no) with
 |none=>rw [e2]at e;cases e
 |some t' =>
  rw [e2]at e
  cases e
  obtain⟨v,B,A',a1,R1,a3,a4,a5,a6,a7⟩:=R.takeDp z
  refine⟨v,a1,ht F σ H A' B _ t' d v _ R1 a3 a4 a5 e2 fun σ2 A2 s2 R2=>h σ2 H A2 ⟨fun _ _ _ w=>w,fun b hb=>?_,fun b hb=>.inl ?_⟩ R2⟩
  ·obtain⟨us,u⟩:=R.mu b (zar0 _ hb)
   rw [u];simp
  ·rcases s2 b hb with w | w
   ·exact a7 b w
   ·exact a6 b w
end
end DL
namespace DL
open PySem.Spec L2
def zz7 (mx:Bool):D→List D→Option D
 |b,[]=>some b
 |b,d::ds=>(cmpD mx d b).bind fun c=>if c then zz7 mx d ds else zz7 mx b ds
noncomputable def zan2 (mx:Bool):List Ev→Option Ev:=fun rs=>match rs with
 |[r]=>(match r.d with
  |.lst (d::ds)=>(zz7 mx d ds).bind fun x=>if flat x then some (.cl x) else none
  |_=>none)
 |_=>none
section
variable {X:Cx}{pins:List (Addr×Obj)}{σ:L2.St}{l it S:Addr}{xs:List V}{ds:List D}
theorem kn_min {H:Hp}{dres:D}{Q:VK} (hcm:X.calm=true) (hu:X.A.units+64<cLine) (hS:H S=none) (hl:SqL X.K H l xs) (hr:Reps X.K H ds xs) (hli:l≠it) (hSI:S≠it)
  (fin:∀v,Rep X.K H dres v→Q v (upd H S (.lst []))) :
  ∀(m j:Nat) (b:V) (db:D) (s:zas4),xs.length - j=m→j≤xs.length→Inv X pins σ (upd H S (.lst [b,b])) s→s.heap.IsListIter it l j→FpOk X pins (upd H S (.lst [b,b])) it→Rep X.K H db b→zz7 false db (ds.drop j)=some dres →
   codeAny (model X.prog X.w) X.A (.builtin "min.loop" ⟨[.ref it,.none,.ref S],[]⟩) (fun r s'=>match r with | .ok (.ret u)=>EP X pins σ Q u s' | .ok _=>False | .error _=>False) s:=by
 have hname:(toString "min"++toString ".loop":String) = "min.loop":=by decide
 have sm:∀o,Same H (upd H S o):=fun o b u e=>by rw [zb4 (fun z=>by rw [z,hS]at e;cases e)];exact e
 intro m
 induction m with
 |zero =>
  intro j b db s hm hj I hit fpo rb eb
  have hin:j=xs.length:=by lia
  obtain⟨its,rv,pl,_⟩:=I.list ((sm _).seq hl)
  have hsz:its.toArray.size=xs.length:=by simp [rv.length]
  obtain⟨_,bk,nS,rS,gS⟩:=I.hok S _ zb0
  obtain⟨ub,uk,rfl,rb',rk⟩:=rS.two2
  have Wk:=Walks.list (prog:=X.prog) (w:=X.w) (A:=X.A.in1) (I.ok.hd hcm) it l hli its.toArray
  refine codeAny_builtin zaz5 ?_
  rw [Around.under_plainId zau9 _]
  show wpAny _ X.A.in1 (seqItems? (.ref S) >>= _) _ _ _
  refine zas0 (wpAny_seqItems gS rfl ?_)
  show wpAny _ X.A.in1 (tryCatch (pyNext (.ref it)) _ >>= _) _ _ _
  refine zas0 (wpAny_tryCatch (Wk.done _ _ _ ⟨by rw [hsz, ← hin];exact hit,DL.PlainL.isL pl⟩ fun h' tk' hk'=>?_))
  have I1:=I.turned (t':=tk') (fun c o n e=>hk' c o (by simpa using n) e) fpo.1 fpo.2.1 fpo.2.2.2.1 fpo.2.2.2.2.1 fpo.2.2.2.2.2
  have gS1:=hk' S _ (by simpa using hSI) gS
  show wpAny _ X.A.in1 (updateSeq S (fun _ => #[]) >>= _) _ _ _
  refine zas0 (wpAny_updateSeq gS1 rfl (zas0 (wpAny_letGo (zat9 ?_))))
  have g2:=get?_update_seq gS1 (fun _=>(#[]:Array Value))
  have I2:=I1.write (t':=tk') (o:=.lst []) (by rw [zb0];trivial) (.inl rfl) (fun c o n e=>(zau8 _ _ (Ne.symm n)).trans e) ⟨_,g2⟩ ⟨by simp,[],_,.nil,g2⟩
  have ee:upd (upd H S (.lst [b,b])) S (.lst [])=upd H S (.lst []):=by funext c;unfold upd;split<;>rfl
  rw [ee]at I2
  rw [hin,zaw4 (by rw [← hr.length];exact zat4 _)]at eb
  have eb:some db=some dres:=eb
  cases eb
  exact⟨b,_,I2,rb',fin b rb⟩
 |succ m ih =>
  intro j b db s hm hj I hit fpo rb eb
  have hlt:j<xs.length:=by lia
  obtain⟨its,rv,pl,_⟩:=I.list ((sm _).seq hl)
  have hsz:its.toArray.size=xs.length:=by simp [rv.length]
  obtain⟨_,bk,nS,rS,gS⟩:=I.hok S _ zb0
  obtain⟨ub,uk,rfl,rb',rk⟩:=rS.two2
  have Wk:=Walks.list (prog:=X.prog) (w:=X.w) (A:=X.A.in1) (I.ok.hd hcm) it l hli its.toArray
  refine codeAny_builtin zaz5 ?_
  rw [Around.under_plainId zau9 _]
  show wpAny _ X.A.in1 (seqItems? (.ref S) >>= _) _ _ _
  refine zas0 (wpAny_seqItems gS rfl ?_)
  show wpAny _ X.A.in1 (tryCatch (pyNext (.ref it)) _ >>= _) _ _ _
  refine zas0 (wpAny_tryCatch (Wk.item j _ _ _ (by rw [hsz];exact hlt) ⟨hit,DL.PlainL.isL pl⟩ fun v h' tk' hP hst' hk'=>?_))
  have hv:its[j]?=some v:=by simpa using hP
  have hx:xs[j]?=some (xs[j]'hlt):=zar5 hlt
  obtain⟨v',e',rx⟩:=rv.get hx
  rw [hv]at e'
  cases e'
  generalize xs[j]'hlt=x at hx rx
  obtain⟨d,ed,rd⟩:=hr.getV hx
  have I1:=I.turned (t':=tk') (fun c o n e=>hk' c o (by simpa using n) e) fpo.1 fpo.2.1 fpo.2.2.2.1 fpo.2.2.2.2.1 fpo.2.2.2.2.2
  obtain⟨oI,hoI,hoc,hod⟩:=id hst'.1
  have I2:=I1.pinned (fp:=[it]) (fun c hc=>by rw [zas2.mp hc];exact fpo) (fun c hc=>by rw [zas2.mp hc];exact⟨oI,hoI,fun z e=>by rw [hod]at e;cases e⟩)
  have gS1:=hk' S _ (by simpa using hSI) gS
  have hjd:j<ds.length:=by rw [← hr.length];exact hlt
  have ej:ds.drop j=d::ds.drop (j+1):=by rw [zat0 hjd];rw [zar5 hjd]at ed;cases ed;rfl
  rw [ej]at eb
  unfold zz7 at eb
  cases ec:cmpD false d db with
  |none=>rw [ec]at eb;cases eb
  |some c =>
   rw [ec]at eb
   simp only [zar2]at eb
   show wpAny _ X.A.in1 (tryCatch (holding [v,v] (richCompare .Lt v uk >>= _)) _ >>= _) _ _ _
   refine zas0 (wpAny_tryCatch (wpAny_holding (zas0 (cmp_D (mx:=false) (by rfl) hu _ _ _ _ _ _ _ _ _ _ _ I2 rx rk ⟨d,db,Rep.mono (sm _) rd,Rep.mono (sm _) rb,ec⟩ fun s4 I4 g4=>?_))))
   refine zas0 (wpAny_holding (wpAny_truthy_bool ?_))
   refine zas0 (wpAny_letGo (zat9 ?_))
   have I5:=I4.unpinned
   have pn4:=I4.pin (it,oI) (zaq8 _ (zaq8 _ (zd1 (by simp) hoI)))
   have gS4:=g4 _ _ gS1
   cases c with
   |true =>
    simp only [if_true]at eb ⊢
    refine zas0 (wpAny_updateSeq gS4 rfl (zas0 (wpAny_letGo ?_)))
    rw [hname]
    have g5:=get?_update_seq gS4 (fun _ => #[v,v])
    have I6:=I5.write (t':=s4.toks) (o:=.lst [x,x]) (by rw [zb0];trivial) (.inl rfl) (fun c o n e=>(zau8 _ _ (Ne.symm n)).trans e) ⟨_,g5⟩ ⟨by simp [sizeLine],[v,v],_,.cons rx (.cons rx .nil),g5⟩
    have ee:upd (upd H S (.lst [b,b])) S (.lst [x,x])=upd H S (.lst [x,x]):=by funext c;unfold upd;split<;>rfl
    rw [ee]at I6
    refine zat9 ⟨plainId_quiet zau9 _,ih (j+1) x d _ (by lia) hlt I6 ⟨oI,(zau8 _ _ hSI).trans pn4.1,hoc,hod⟩ ⟨?_,fpo.2⟩ rd eb⟩
    have:=fpo.1
    rw [zb4 (Ne.symm hSI)]at this ⊢
    exact this
   |false =>
    simp only [zba4,if_false]at eb ⊢
    refine zas0 (wpAny_letGo ?_)
    rw [hname]
    exact zat9 ⟨plainId_quiet zau9 _,ih (j+1) b db _ (by lia) hlt I5 ⟨oI,pn4.1,hoc,hod⟩ fpo rb eb⟩
theorem na_min (a:Value):argsOk "min" ⟨[a],[]⟩:=by unfold argsOk;kernel_rfl
theorem zaq0 (hcm:X.calm=true) (hu:X.A.units+64<cLine):zad1 X (.builtin "min") (fun ys H Q => ∃(l:Addr) (xs:List V) (d:D) (ds:List D) (dres:D),ys=[.ref l]∧SqL X.K H l xs∧Reps X.K H (d::ds) xs∧zz7 false d ds=some dres∧∀S v,H S=none→Rep X.K H dres v→Q v (upd H S (.lst []))):=by
 intro pins s σ H ys us Q I rr h
 obtain⟨l,xs,d,ds,dres,rfl,hl,hr,eb,fin⟩:=h
 obtain⟨u,rfl,ru⟩:=vals1 rr
 cases ru
 have hname:(toString "min"++toString ".loop":String) = "min.loop":=by decide
 obtain⟨its,rv,pl,_⟩:=I.list hl
 have hls:=DL.PlainL.isL pl
 obtain⟨ol,hol,_⟩:=id hls
 have hll:l<s.heap.objs.size:=zat1 hol
 have hlen:0<xs.length:=by rw [hr.length];simp
 refine kmk_tree PySem.F.kind_min PySem.F.plain_min PySem.F.entry_min (na_min _) ?_
 show wpAny _ X.A.in1 (Builtin.Builtins.bindParams "min" ["key", "default"] 0 ⟨[],[]⟩ >>= _) _ _ s
 refine zas0 (wpAny_of_eq (show Builtin.Builtins.bindParams "min" ["key", "default"] 0 ⟨[],[]⟩=pure [none,none] from rfl) ?_)
 refine zas0 (zat9 ?_)
 refine zas0 (wpAny_pyIter_list hls ?_)
 refine zas0 (wpAny_newList ?_ (zbd7 _))
 rw [hname]
 refine zat9 ⟨plainId_quiet zau9 _,?_⟩
 have I1:Inv X pins σ H { s with heap:=s.heap.push { cls:=.type "list_iterator",data:=.fields #[.ref l,.int 0 0] },toks:=s.toks }:=I.kept (fun _ _ e=>zas3 _ e)
 have I2:=I1.lnew (its:=[]) (t':=s.toks) .nil (by simp)
 have hS:(s.heap.push { cls:=.type "list_iterator",data:=.fields #[.ref l,.int 0 0] }).objs.size=s.heap.objs.size+1:=zaz0 ..
 generalize hSS:(s.heap.push { cls:=.type "list_iterator",data:=.fields #[.ref l,.int 0 0] }).objs.size=S at hS I2 ⊢
 have nS:H S=none:=I.hok.fresh (by lia)
 have nit:H s.heap.objs.size=none:=I.fresh
 have hSI:S≠s.heap.objs.size:=by lia
 have fpo0:FpOk X pins H s.heap.objs.size:=I.fpOk (zat4 _) nit
 have fpo:FpOk X pins (upd H S (.lst [])) s.heap.objs.size:=⟨by rw [zb4 (Ne.symm hSI)];exact nit,fpo0.2⟩
 have sm:∀o,Same H (upd H S o):=fun o b u e=>by rw [zb4 (fun z=>by rw [z,nS]at e;cases e)];exact e
 have hl1:SqL X.K (upd H S (.lst [])) l xs:=(sm _).seq hl
 have hli:l≠s.heap.objs.size:=zau2 hll
 obtain⟨its1,rv1,pl1,_⟩:=I2.list hl1
 have hsz:its1.toArray.size=xs.length:=by simp [rv1.length]
 have gI:((s.heap.push { cls:=.type "list_iterator",data:=.fields #[.ref l,.int 0 0] }).push { cls:=.type "list",data:=.seq ([]:List Value).toArray }).get? s.heap.objs.size=some { cls:=.type "list_iterator",data:=.fields #[.ref l,.int 0 0] } :=
  zas3 _ (zav0 _ rfl)
 have gS:((s.heap.push { cls:=.type "list_iterator",data:=.fields #[.ref l,.int 0 0] }).push { cls:=.type "list",data:=.seq ([]:List Value).toArray }).get? S=some (seqObj "list" #[] 0):=hSS ▸ zav0 _ rfl
 have Wk:=Walks.list (prog:=X.prog) (w:=X.w) (A:=X.A.in1) (I.ok.hd hcm) s.heap.objs.size l hli its1.toArray
 refine codeAny_builtin zaz5 ?_
 rw [Around.under_plainId zau9 _]
 show wpAny _ X.A.in1 (seqItems? (.ref S) >>= _) _ _ _
 refine zas0 (wpAny_seqItems gS rfl ?_)
 show wpAny _ X.A.in1 (tryCatch (pyNext (.ref s.heap.objs.size)) _ >>= _) _ _ _
 refine zas0 (wpAny_tryCatch (Wk.item 0 _ _ _ (by rw [hsz];exact hlen) ⟨⟨_,gI,rfl,rfl⟩,DL.PlainL.isL pl1⟩ fun v h' tk' hP hst' hk'=>?_))
 have hv:its1[0]?=some v:=by simpa using hP
 cases hr with
 |@cons _ x0 _ xr rd rr' =>
 obtain⟨v',e',rx⟩:=rv1.get (show (x0::xr)[0]?=some x0 from rfl)
 rw [hv]at e'
 cases e'
 have I3:=I2.turned (t':=tk') (fun c o n e=>hk' c o (by simpa using n) e) fpo.1 fpo.2.1 fpo.2.2.2.1 fpo.2.2.2.2.1 fpo.2.2.2.2.2
 obtain⟨oI,hoI,hoc,hod⟩:=id hst'.1
 have gS2:=hk' S _ (by simpa using hSI) gS
 show wpAny _ X.A.in1 (updateSeq S (fun _ => #[v,v]) >>= _) _ _ _
 refine zas0 (wpAny_updateSeq gS2 rfl ?_)
 rw [hname]
 have g5:=get?_update_seq gS2 (fun _ => #[v,v])
 have I6:=I3.write (t':=tk') (o:=.lst [x0,x0]) (by rw [zb0];trivial) (.inl rfl) (fun c o n e=>(zau8 _ _ (Ne.symm n)).trans e) ⟨_,g5⟩ ⟨by simp [sizeLine],[v,v],_,.cons rx (.cons rx .nil),g5⟩
 have ee:upd (upd H S (.lst [])) S (.lst [x0,x0])=upd H S (.lst [x0,x0]):=by funext c;unfold upd;split<;>rfl
 rw [ee]at I6
 refine zat9 ⟨plainId_quiet zau9 _,codeAny_mono (kn_min (Q:=Q) (ds:=d::ds) hcm hu nS hl (.cons rd rr') hli hSI (fun v rv=>fin S v nS rv) _ 1 x0 d _ rfl hlen I6 ⟨oI,(zau8 _ _ hSI).trans hoI,hoc,hod⟩ ⟨by rw [zb4 (Ne.symm hSI)];exact nit,fpo.2⟩ rd eb) fun r s' hr=>?_⟩
 cases r with
 |error e=>exact hr.elim
 |ok fl=>cases fl with
  |ret u=>exact hr
  |next=>exact hr.elim
  |brk=>exact hr.elim
  |cont=>exact hr.elim
variable {F:List Addr}
theorem cd_minT (hcm:X.calm=true) (hu:X.A.units+64<cLine):CallD X F (.builtin "min") (zan2 false):=by
 intro pins s σ H0 H A ys us Q rs r I hL gs v rr e hq
 unfold zan2 at e
 split at e
 case h_2=>cases e
 rename_i r1
 split at e
 case h_2=>cases e
 rename_i d ds z
 cases eb:zz7 false d ds with
 |none=>rw [eb]at e;cases e
 |some x =>
  rw [eb]at e
  simp only [zar2]at e
  split at e
  case isFalse=>cases e
  rename_i fx
  cases e
  cases rr with
  |@cons _ y _ _ r1' rn =>
  cases rn
  have p:=r1'.full
  rw [z]at p
  cases p with
  |@lst _ l ws h1 h2 =>
   refine zaq0 hcm hu pins s σ H _ us Q I v ⟨l,ws,d,ds,x,rfl,h1,h2,eb,fun S w nS rw'=>?_⟩
   have sm:Same H (upd H S (.lst [])):=fun b u e=>by rw [zb4 (fun z=>by rw [z,nS]at e;cases e)];exact e
   exact hq w _ sm (Rep.mono (za8 sm) (Rep.hid (hL.mono gs) fx rw'))
end
end DL
namespace DL
open PySem.Spec L2
abbrev DM:=Th→Option (D×Th)
abbrev DMs:=Th→Option (List D×Th)
structure Mv (K:zaq9) (F A:List Addr) (H H':Hp) (B A':List Addr) (t':Th) (σ:L2.St):Prop where
 sm:Same H H'
 nd:B.Nodup
 dj:∀b∈B,b∉F
 rs:RS K (B++F) H' A' t' σ
 fr:∀b∈B,b∈A∨H b=none
 sb:∀b∈A',b∈A
noncomputable def dM (K:zaq9) (F:List Addr) (f:DM):TE:=fun σ H Q => ∃A t d t',RS K F H A t σ∧f t=some (d,t')∧∀v H' B A',Mv K F A H H' B A' t' σ→RepD K (hide (A'++(B++F)) H') H' d v B→Q v H'
noncomputable def dMs (K:zaq9) (F:List Addr) (f:DMs):TA:=fun σ H Q => ∃A t ds t',RS K F H A t σ∧f t=some (ds,t')∧∀vs H' B A',Mv K F A H H' B A' t' σ→RepDs K (hide (A'++(B++F)) H') H' ds vs B→Q vs H'
theorem RSl.loseOwn {K:zaq9}{H0 H:Hp}:∀ {t:Th}{σ:L2.St}{A:List Addr},RSl K H0 H t σ A→A.Nodup→∀ {i:Nat}{ds:List D},t[i]?=some (.own ds)→∃p vs A',σ[i]?=some (some (.ref p))∧H p=some (.lst vs)∧Reps K H0 ds vs∧RSl K H0 H (t.set i .no) σ A'∧(∀x∈A',x∈A)∧p∈A∧(∀x∈A,x=p∨x∈A')∧A'.Nodup∧p∉A':=by
 intro _ _ _ h
 induction h with
 |nil =>
  intro n i d e
  simp at e
 |@no _ _ _ _ r ih =>
  intro n i d e
  cases i with
  |zero =>
   simp at e
  |succ i =>
   obtain⟨v,B,A',a1,a2,a2',a3,a4⟩:=ih n (i:=i) (ds:=d) (by simpa using e)
   exact⟨v,B,A',by simpa using a1,a2,a2',.no a3,a4⟩
 |@val _ _ _ _ _ h r ih =>
  intro n i d e
  cases i with
  |zero =>
   simp at e
  |succ i =>
   obtain⟨v,B,A',a1,a2,a2',a3,a4⟩:=ih n (i:=i) (ds:=d) (by simpa using e)
   exact⟨v,B,A',by simpa using a1,a2,a2',.val h a3,a4⟩
 |@own q vs _ _ _ A h1 h2 r ih =>
  intro n i d e
  cases i with
  |zero =>
   simp at e;subst e
   have n0:=zat3.mp n
   exact⟨q,vs,A,rfl,h1,h2,.no r,fun x hx=>zar1 _ hx,zar4 ..,fun x hx=>zar8.mp hx,n0.2,n0.1⟩
  |succ i =>
   have n0:=zat3.mp n
   obtain⟨p,vs,A',a1,a2,a2',a3,a4,a5,a6,a7,a8⟩:=ih n0.2 (i:=i) (ds:=d) (by simpa using e)
   refine⟨p,vs,q::A',by simpa using a1,a2,a2',.own h1 h2 a3,fun x hx=>?_,zar1 _ a5,fun x hx=>?_,zat3.mpr ⟨fun z=>n0.1 (a4 q z),a7⟩,fun z=>?_⟩
   ·rcases zar8.mp hx with w | w
    ·rw [w];exact zar4 ..
    ·exact zar1 _ (a4 x w)
   ·rcases zar8.mp hx with w | w
    ·rw [w];exact .inr (zar4 ..)
    ·exact (a6 x w).imp id (zar1 _)
   ·rcases zar8.mp z with w | w
    ·exact n0.1 (w ▸ a5)
    ·exact a8 w
 |@dp _ _ C _ _ _ h r ih =>
  intro n i d e
  cases i with
  |zero =>
   simp at e
  |succ i =>
   have n0:=zas9.mp n
   obtain⟨p,vs,A',a1,a2,a2',a3,a4,a5,a6,a7,a8⟩:=ih n0.2.1 (i:=i) (ds:=d) (by simpa using e)
   refine⟨p,vs,C++A',by simpa using a1,a2,a2',.dp h a3,fun x hx=>?_,zaq8 _ a5,fun x hx=>?_,zas9.mpr ⟨n0.1,a7,fun x hx y hy e=>n0.2.2 x hx y (a4 y hy) e⟩,fun z=>?_⟩
   ·rcases zar3.mp hx with w | w
    ·exact zar0 _ w
    ·exact zaq8 _ (a4 x w)
   ·rcases zar3.mp hx with w | w
    ·exact .inr (zar0 _ w)
    ·exact (a6 x w).imp id (zaq8 _)
   ·rcases zar3.mp z with w | w
    ·exact n0.2.2 p w p a5 rfl
    ·exact a8 w
theorem RS.takeOwn {K:zaq9}{F A:List Addr}{H:Hp}{t:Th}{σ:L2.St}{i:Nat}{ds:List D} (R:RS K F H A t σ) (e:t[i]?=some (.own ds)) :
  ∃p vs A',σ[i]?=some (some (.ref p))∧RS K ([p]++F) H A' (t.set i .no) σ∧p∉F∧H p=some (.lst vs)∧Reps K (hide (A'++([p]++F)) H) ds vs∧(∀x∈A',x∈A)∧p∈A:=by
 obtain⟨p,vs,A',a1,a2,a2',a3,a4,a5,a6,a7,a8⟩:=R.rel.loseOwn R.nd e
 have s:Same (hide (A++F) H) (hide (A'++([p]++F)) H):=za7 H fun x hx=>by
  rcases zar3.mp hx with z | z
  ·exact zar0 _ (a4 x z)
  ·rcases zar3.mp z with z | z
   ·rw [zas2.mp z];exact zar0 _ a5
   ·exact zaq8 _ z
 refine⟨p,vs,A',a1,⟨fun q hp=>?_,a7,fun q hp z=>?_,RSl.mono s a3 fun _ _ _ w=>w⟩,R.dj p a5,a2,Reps.mono s a2',a4,a5⟩
 ·rcases zar3.mp hp with z | z
  ·exact R.mu q (zar0 _ (a4 q z))
  ·rcases zar3.mp z with z | z
   ·rw [zas2.mp z];exact R.mu p (zar0 _ a5)
   ·exact R.mu q (zaq8 _ z)
 ·rcases zar3.mp z with z | z
  ·rw [zas2.mp z]at hp;exact a8 hp
  ·exact R.dj q (a4 q hp) z
section
variable {X:Cx}{F:List Addr}{a b c o:Expr}{es:List Expr}{fa fb fc:DE}{fn:DM}{fns:DMs}{pos:Pos}
noncomputable def mOwn (i:Nat):DM:=fun t=>match t[i]? with
 |some (.own xs)=>if flats xs then some (.lst xs,t.set i .no) else none
 |some (.dp d)=>some (d,t.set i .no)
 |some (.val d)=>if flat d then some (d,t) else none
 |_=>none
theorem pm_own (i:Nat) {x:Str} (hN:X.N[i]?=some x:=by rfl) (hv:Vis X.env.scope x:=by first | exact Or.inl rfl | exact Or.inr (Or.inl rfl) |exact Or.inr (Or.inr rfl)) (hd:(x ==("__debug__":Str))=false:=by decide)
  (hcd:(x ==("__classdict__":Str))=false:=by decide):PE X (.Name x pos) (dM X.K F (mOwn i)):=by
 refine PE.imp (zj6 (i:=i) hN hv hd hcd) ?_
 rintro σ H Q ⟨A,t,d,t',R,e,h⟩
 unfold mOwn at e
 split at e
 ·rename_i xs q
  split at e
  case isFalse=>cases e
  rename_i f
  cases e
  obtain⟨p,vs,A',a1,R1,a3,a4,a5,a6,a7⟩:=R.takeOwn q
  exact⟨_,a1,h _ H [p] A' ⟨Same.refl H,by simp,fun b hb=>by rw [zas2.mp hb];exact a3,R1,fun b hb=>by rw [zas2.mp hb];exact .inl a7,a6⟩ (.lst a4 (RepDs.of_flat f a5))⟩
 ·rename_i d0 q
  cases e
  obtain⟨v,B,A',a1,R1,a3,a4,a5,a6,a7⟩:=R.takeDp q
  exact⟨v,a1,h v H B A' ⟨Same.refl H,a3,a4,R1,fun b hb=>.inl (a7 b hb),a6⟩ a5⟩
 ·rename_i d0 q
  split at e
  case isFalse=>cases e
  rename_i f
  cases e
  obtain⟨v,h1,h2⟩:=R.rel.getVal q
  exact⟨v,h1,h v H [] A ⟨Same.refl H,zav4,fun b hb=>(by cases hb),R,fun b hb=>(by cases hb),fun b hb=>hb⟩ (.flat f h2)⟩
 ·cases e
def mOf (f:DE):DM:=fun t=>(f t).bind fun r=>(toDn r).map fun d=>(d,t)
theorem zan8 {A B F:List Addr}{H:Hp}:Same (hide (B++(A++F)) H) (hide (A++(B++F)) H):=za7 H fun x hx=>by
 rcases zar3.mp hx with z | z
 ·exact zaq8 _ (zar0 _ z)
 ·rcases zar3.mp z with z | z
  ·exact zar0 _ z
  ·exact zaq8 _ (zaq8 _ z)
theorem pm_of (he:PE X a (dE X.K F fa)):PE X a (dM X.K F (mOf fa)):=by
 refine PE.imp he ?_
 rintro σ H Q ⟨A,t,d,t',R,e,h⟩
 unfold mOf at e
 cases e1:fa t with
 |none=>rw [e1]at e;cases e
 |some r =>
  rw [e1]at e
  simp only [zar2]at e
  cases e2:toDn r with
  |none=>rw [e2]at e;cases e
  |some d0 =>
   rw [e2]at e
   cases e
   refine⟨A,t,r,R,e1,fun v H' gs q=>?_⟩
   obtain⟨B,b1,b2,b3⟩:=q.toDn R.mu gs e2
   exact h v H' B A ⟨gs,b1,fun b hb z=>zc1 R.mu (b2 b hb) (zaq8 _ z),R.aside gs b2 b3.lists,fun b hb=>.inr (b2 b hb),fun b hb=>hb⟩ (RepD.mono zan8 b3 fun _ _ _ w=>w)
def mNil:DMs:=fun t=>some ([],t)
def zab1 (f:DM) (g:DMs):DMs:=fun t=>(f t).bind fun q=>(g q.2).bind fun w=>some (q.1::w.1,w.2)
theorem pms_nil:PA X [] (dMs X.K F mNil):=PA.imp zl6 fun σ H Q ⟨A,t,ds,t',R,e,h⟩=>by cases e;exact h [] H [] A ⟨Same.refl H,zav4,fun b hb=>(by cases hb),R,fun b hb=>(by cases hb),fun b hb=>hb⟩ .nil
theorem zae4 (ha:∀F,PE X a (dM X.K F fn)) (hr:∀F,PA X es (dMs X.K F fns)) (hs:zat2 (a::es) X.env=(false,eval a X.env)::zat2 es X.env:=by rfl):PA X (a::es) (dMs X.K F (zab1 fn fns)):=by
 intro p pins s σ H Q I h
 obtain⟨A,t,ds,t',R,e,h⟩:=h
 unfold zab1 at e
 cases e1:fn t with
 |none=>rw [e1]at e;cases e
 |some q1 =>
  obtain⟨d1,t1⟩:=q1
  rw [e1]at e
  simp only [zar2]at e
  cases e2:fns t1 with
  |none=>rw [e2]at e;cases e
  |some q2 =>
   obtain⟨ds2,t2⟩:=q2
   rw [e2]at e
   cases e
   rw [hs]
   show wpAny _ _ (spliced ((false,eval a X.env)::zay7 p (zat2 es X.env))) _ _ s
   refine Calls.spliced_cons (thn (ha F pins s σ H (fun v H1 => ∃B1 A1,Mv X.K F A H H1 B1 A1 t1 σ∧RepD X.K (hide (A1++(B1++F)) H1) H1 d1 v B1) I ⟨A,t,d1,t1,R,e1,fun v H1 B1 A1 m1 r1=>⟨B1,A1,m1,r1⟩⟩) fun u s1 ⟨x,H1,I1,rx,B1,A1,m1,r1⟩=>?_)
   refine thn (hr (B1++F) p pins s1 σ H1 (fun vs H2=>Q (x::vs) H2) I1 ⟨A1,t1,ds2,t2,m1.rs,e2,fun vs H2 B2 A2 m2 r2=>?_⟩) fun us s2 ⟨xs,H2,I2,rx2,q2⟩=>⟨x::xs,H2,I2,.cons rx rx2,q2⟩
   have l1:Lists H2 B1:=r1.lists.mono m2.sm
   have d21:∀b∈B2,b∉B1:=fun b hb z=>m2.dj b hb (zar0 _ z)
   have mem:∀x,x∈A2++((B1++B2)++F)→x∈A2++(B2++(B1++F)):=fun x hx=>by
    simp only [zar3]at hx ⊢
    rcases hx with z | (z | z) |z
    ·exact .inl z
    ·exact .inr (.inr (.inl z))
    ·exact .inr (.inl z)
    ·exact .inr (.inr (.inr z))
   have mem':∀x,x∈(B1++B2)++F→x∈B2++(B1++F):=fun x hx=>by
    simp only [zar3]at hx ⊢
    rcases hx with (z | z) |z
    ·exact .inr (.inl z)
    ·exact .inl z
    ·exact .inr (.inr z)
   refine h (x::vs) H2 (B1++B2) A2 ⟨m1.sm.trans m2.sm,zas9.mpr ⟨m1.nd,m2.nd,fun y hy z hz e=>d21 z hz (e ▸ hy)⟩,fun b hb=>?_,m2.rs.less mem',fun b hb=>?_,fun b hb=>m1.sb b (m2.sb b hb)⟩ (.cons (B:=B1) (C:=B2) (RepD.hid (fun y hy=>m2.rs.mu y (mem y hy)) (zb1 _ _) (RepD.mono (H0':=hide B1 H2) (fun b o w=>?_) r1 fun _ _ _ w=>m2.sm _ _ w)) (RepDs.mono (za7 H2 mem) r2 fun _ _ _ w=>w))
   ·rcases zar3.mp hb with z | z
    ·exact m1.dj b z
    ·exact fun w=>m2.dj b z (zaq8 _ w)
   ·rcases zar3.mp hb with z | z
    ·exact m1.fr b z
    ·rcases m2.fr b z with w | w
     ·exact .inl (m1.sb b w)
     ·exact .inr (Same.free m1.sm w)
   ·obtain⟨n,w⟩:=zf5 w
    exact zb7 (m2.sm _ _ w) fun z=>n (zaq8 _ (zar0 _ z))
def mTup (g:DMs):DM:=fun t=>(g t).bind fun q=>if q.1.length≤1000 then some (.tup q.1,q.2) else none
theorem pm_tup {x1} (h:PA X es (dMs X.K F fns)):PE X (.Tuple es x1 pos) (dM X.K F (mTup fns)):=by
 refine PE.imp (pe_tup h) ?_
 rintro σ H Q ⟨A,t,d,t',R,e,h⟩
 unfold mTup at e
 cases e1:fns t with
 |none=>rw [e1]at e;cases e
 |some q =>
  obtain⟨ds,t2⟩:=q
  rw [e1]at e
  simp only [zar2]at e
  split at e
  case isFalse=>cases e
  rename_i hl
  cases e
  refine⟨A,t,ds,t',R,e1,fun vs H1 B A1 m1 r1=>⟨by rw [r1.length];exact zi1 (by lia),fun p hp=>?_⟩⟩
  have s1:=zc2 (o:=HO.tup vs) hp
  have np:p∉A1++(B++F):=zc1 m1.rs.mu hp
  exact h _ _ B A1 ⟨m1.sm.trans s1,m1.nd,m1.dj,m1.rs.grow s1,m1.fr,m1.sb⟩ (.tup (SqT.of (zb7 zb0 np)) (RepDs.mono (za8 s1) r1 fun _ _ _ w=>s1 _ _ w))
def zap1 (f:DM):DS:=fun t=>(f t).bind fun q=>some (.rt (.dn q.1))
theorem psd_retM (ha:PE X a (dM X.K F fn)):PS X (.Return (some a) pos) (dS X.K F (zap1 fn)):=by
 refine PS.imp (zak9 ha) ?_
 rintro E σ H ⟨A,t,o,R,e,h⟩
 unfold zap1 at e
 cases e1:fn t with
 |none=>rw [e1]at e;cases e
 |some q =>
  rw [e1]at e
  cases e
  refine⟨A,t,q.1,q.2,R,e1,fun v H' B A' m r1=>h v H' A (Gr.of_same R.mu.left m.sm) ⟨B,m.nd,fun b hb=>⟨m.fr b hb,m.dj b hb⟩,RepD.mono (za7 H' fun a z=>zaq8 _ z) r1 fun _ _ _ w=>w⟩⟩
end
end DL
namespace TS
section
variable (κ π:Keyed→Int)
def rk (x:Keyed):Int:=κ x*1048576+π x
def Ris (l:List Keyed):Prop:=l.Pairwise fun a b=>rk κ π a≤rk κ π b
def Below (l m:List Keyed):Prop := ∀a∈l,∀b∈m,rk κ π a≤rk κ π b
variable {κ π}
structure Lo (X Y out:List Keyed) (i j:Nat):Prop where
 pm:out.Perm (X.take i++Y.take j)
 rs:Ris κ π out
 bx:Below κ π out (X.drop i)
 by':Below κ π out (Y.drop j)
variable {X Y out:List Keyed}{i j:Nat}
structure Hi (X Y out:List Keyed) (i j:Nat):Prop where
 pm:out.Perm (X.drop i++Y.drop j)
 rs:Ris κ π out.reverse
 bx:Below κ π (X.take i) out
 by':Below κ π (Y.take j) out
end
end TS
namespace TS
structure Cmp (M:Model) (A:Around) (E:Value→zas4→Prop) (s:zas4) (κ π:Keyed→Int) (a₀:Array Keyed) (kd:SortKind):Prop where
 lt:∀(st:SortSt) (x y:Keyed) (Q:Option Bool→SortSt→Prop),kindOf st=kd→x∈a₀.toList→y∈a₀.toList→Q (some (decide (κ x<κ y))) st→wpS M A E s (lt' x y) Q st
 pi:∀x∈a₀.toList,0≤π x∧π x<1048576
section
variable {M:Model}{A:Around}{E:Value→zas4→Prop}{s:zas4}{κ π:Keyed→Int}{a₀:Array Keyed}{kd:SortKind} (C:Cmp M A E s κ π a₀ kd)
structure SameS (st st':SortSt):Prop where
 arr:arrOf st'=arrOf st
 knd:kindOf st'=kindOf st
 pnd:pendingOf st'=pendingOf st
 fld:failedOf st'=failedOf st
theorem SameS.refl (st:SortSt):SameS st st:=⟨rfl,rfl,rfl,rfl⟩
theorem SameS.trans {a b c:SortSt} (h:SameS a b) (g:SameS b c):SameS a c:=⟨g.arr.trans h.arr,g.knd.trans h.knd,g.pnd.trans h.pnd,g.fld.trans h.fld⟩
structure Two (κ π:Keyed→Int) (a₀:Array Keyed) (xs ys:Array Keyed):Prop where
 mx:∀x∈xs.toList,x∈a₀.toList
 my:∀y∈ys.toList,y∈a₀.toList
 rx:Ris κ π xs.toList
 ry:Ris κ π ys.toList
 sep:∀x∈xs.toList,∀y∈ys.toList,π x≤π y
 px:0<xs.size
 py:0<ys.size
 first:∀x y,xs[0]?=some x→ys[0]?=some y→κ y<κ x
 last:∀x,xs[xs.size - 1]?=some x→∀y∈ys.toList,κ y<κ x
variable {xs ys:Array Keyed}{st:SortSt} (hk:kindOf st=kd) (T:Two κ π a₀ xs ys)
end
end TS
namespace TS
section
variable {M:Model}{A:Around}{E:Value→zas4→Prop}{s:zas4}{κ π:Keyed→Int}{a₀:Array Keyed}{kd:SortKind} (C:Cmp M A E s κ π a₀ kd)
def sepL (π:Keyed→Int) (l m:List Keyed):Prop := ∀a∈l,∀b∈m,π a≤π b
end
end TS
namespace TS
def kA (f:Keyed→Int) (xs:Array Keyed) (i:Nat):Int:=match xs[i]? with
 |some p=>f p
 |none=>0
structure Chg (xs zs:Array Keyed) (lo hi:Nat):Prop where
 pm:zs.Perm xs
 out:∀i,i<lo∨hi≤i→zs[i]?=xs[i]?
 ins:∀i,lo≤i→i<hi→∃j,lo≤j∧j<hi∧zs[i]?=xs[j]?
theorem Chg.refl (xs:Array Keyed) (lo hi:Nat):Chg xs xs lo hi:=⟨Array.Perm.refl _,fun _ _=>rfl,fun i h1 h2=>⟨i,h1,h2,rfl⟩⟩
theorem Chg.size {xs zs:Array Keyed}{lo hi:Nat} (h:Chg xs zs lo hi):zs.size=xs.size:=h.pm.size_eq
section
variable {M:Model}{A:Around}{E:Value→zas4→Prop}{s:zas4}{κ π:Keyed→Int}{a₀:Array Keyed}{kd:SortKind} (C:Cmp M A E s κ π a₀ kd)
def rA (κ π:Keyed→Int) (xs:Array Keyed) (i:Nat):Int:=kA κ xs i*1048576+kA π xs i
structure TB (a₀:Array Keyed) (kd:SortKind) (st:SortSt):Prop where
 pm:(arrOf st).Perm a₀
 kind:kindOf st=kd
 fld:failedOf st=none
theorem TB.size {st:SortSt} (h:TB a₀ kd st):(arrOf st).size=a₀.size:=h.pm.size_eq
end
end TS
namespace TS
section
variable {M:Model}{A:Around}{E:Value→zas4→Prop}{s:zas4}{κ π:Keyed→Int}{a₀:Array Keyed}{kd:SortKind} (C:Cmp M A E s κ π a₀ kd)
structure Dn (κ π:Keyed→Int) (a₀:Array Keyed) (kd:SortKind) (st0:SortSt) (lo x q:Nat) (st:SortSt):Prop where
 tb:TB a₀ kd st
 pd:pendingOf st=pendingOf st0
 ch:Chg (arrOf st0) (arrOf st) lo (lo+x)
 le:q+1≤x
 un:∀i,lo+x - (q+1)≤i→(arrOf st)[i]?=(arrOf st0)[i]?
 eq:∀i,lo+x - (q+1)≤i→i<lo+x→kA κ (arrOf st) i=kA κ (arrOf st) (lo+x - 1)
 fl:∀i j,lo≤i→i≤j→j<lo+x - (q+1)→rA κ π (arrOf st) j≤rA κ π (arrOf st) i
 gt:∀i,lo≤i→i<lo+x - (q+1)→kA κ (arrOf st) (lo+x - 1)<kA κ (arrOf st) i
end
end TS
namespace TS
noncomputable def MatchP:Nat→List (List Keyed)→List (Nat×Nat×Nat)→Prop
 |_,[],[]=>True
 |lo,L::Ls,q::ps=>q.1=lo∧q.2.1=L.length∧MatchP (lo+L.length) Ls ps
 |_,_,_=>False
section
variable {M:Model}{A:Around}{E:Value→zas4→Prop}{s:zas4}{κ π:Keyed→Int}{a₀:Array Keyed}{kd:SortKind} (C:Cmp M A E s κ π a₀ kd)
structure Runs (κ π:Keyed→Int) (a₀:Array Keyed) (kd:SortKind) (st:SortSt) (Ls:List (List Keyed)) (post:List Keyed):Prop where
 tb:TB a₀ kd st
 ar:(arrOf st).toList=Ls.flatten++post
 mt:MatchP 0 Ls (pendingOf st).toList
 ok:∀L∈Ls,Ris κ π L∧L≠[]
 sp:Ls.Pairwise (sepL π)
end
end TS
namespace TS
section
variable {M:Model}{A:Around}{E:Value→zas4→Prop}{s:zas4}{κ π:Keyed→Int}{a₀:Array Keyed}{kd:SortKind} (C:Cmp M A E s κ π a₀ kd)
structure Btw (κ π:Keyed→Int) (a₀:Array Keyed) (kd:SortKind) (lo:Nat) (st:SortSt) (Ls:List (List Keyed)) (rest:List Keyed):Prop where
 rn:Runs κ π a₀ kd st Ls rest
 ln:Ls.flatten.length=lo
 sp:sepL π Ls.flatten rest
 up:rest.Pairwise fun a b=>π a≤π b
end
end TS
namespace DL
open PySem.Spec L2 TS
def ze8 (n:Nat):List Int:=(zat6 n).map fun (i:Nat)=>(i:Int)
theorem zk0 (n:Nat):(ze8 n).length=n:=by simp [ze8]
theorem zal8 {n i:Nat}{x:Int} (h:(ze8 n)[i]?=some x):x=(i:Int)∧i<n:=by
 unfold ze8 at h
 rw [zat7]at h
 cases e:(zat6 n)[i]? with
 |none=>rw [e]at h;cases h
 |some j =>
  rw [e]at h
  obtain⟨h1,h2⟩:=zav6.mp e
  simp at h1 h2
  cases h
  exact⟨by rw [h2],h1⟩
end DL
namespace DL
open PySem.Spec L2
noncomputable def dSJ (K:zaq9) (F:List Addr) (J:List Nat) (g:DS):TS:=fun E σ H => ∃A t t',RS K F H A t σ∧g t=some (.nx t')∧∀σ' H' A',Gr A H A' H'→RS K F H' A' t' σ'→(∀k,k∉J→σ'[k]?=σ[k]?)→E.nx σ' H'
section
variable {X:Cx}{F:List Addr}{a b c:Expr}{fa fb fc:DE}{g g1 g2:DS}{ft fu:DT}{pos:Pos}{st:Stmt}{rest:List Stmt}{J:List Nat}
theorem psj_nil:PSs X [] (dSJ X.K F J zj4):=by
 refine PSs.imp zak5 ?_
 rintro E σ H ⟨A,t,t',R,e,h⟩
 cases e
 exact h σ H A (Gr.refl R.mu.left) R fun _ _=>rfl
theorem psj_one (h:PS X st (dSJ X.K F J g)):PSs X [st] (dSJ X.K F J g):=zak4 h
theorem psj_cons (h1:PS X st (dSJ X.K F J g1)) (h2:PSs X rest (dSJ X.K F J g2)):PSs X (st::rest) (dSJ X.K F J (dSeq g1 g2)):=by
 refine PSs.imp (zae2 h1 h2) ?_
 rintro E σ H ⟨A,t,t',R,e,h⟩
 unfold dSeq at e
 cases e1:g1 t with
 |none=>rw [e1]at e;cases e
 |some o =>
  rw [e1]at e
  cases o with
  |nx t1 =>
   refine⟨A,t,t1,R,e1,fun σ' H' A' gr R' q=>⟨A',t1,t',R',e,fun σ2 H2 A2 gr2 R2 q2=>h σ2 H2 A2 (gr.trans gr2) R2 fun k hk=>(q2 k hk).trans (q k hk)⟩⟩
  |bk t1=>cases e
  |ct t1=>cases e
  |rt r=>cases e
theorem psj_if {s1 s2:List Stmt} (hc:PT X c (dT X.K F ft)) (ha:PSs X s1 (dSJ X.K F J g1)) (hb:PSs X s2 (dSJ X.K F J g2)):PS X (.If c s1 s2 pos) (dSJ X.K F J (dIfS ft g1 g2)):=by
 refine PS.imp (ps_if hc ha hb) ?_
 rintro E σ H ⟨A,t,t',R,e,h⟩
 unfold dIfS at e
 cases e1:ft t with
 |none=>rw [e1]at e;cases e
 |some r1 =>
  rw [e1]at e
  refine⟨A,t,r1,R,e1,fun H1 gs=>?_⟩
  have gr:Gr A H A H1:=Gr.of_same R.mu.left gs
  cases r1 with
  |true=>exact⟨A,t,t',R.grow gs,e,fun σ' H' A' g' R' q=>h σ' H' A' (gr.trans g') R' q⟩
  |false=>exact⟨A,t,t',R.grow gs,e,fun σ' H' A' g' R' q=>h σ' H' A' (gr.trans g') R' q⟩
noncomputable def forJ (k:D→Th→Option Th) (body:DS):List D→Th→Option Th
 |[],t=>some t
 |d::ds,t=>(k d t).bind fun t1=>match body t1 with
  |some (.nx t')=>forJ k body ds t'
  |_=>none
noncomputable def dForO (i j:Nat) (g:DS):DS:=fun t=>match t[i]? with
 |some (.own xs)=>(forJ (za3 j) g xs (t.set i .no)).bind fun t'=>if i<t'.length then some (.nx (t'.set i (.own xs))) else none
 |_=>none
theorem RS.putList {K:zaq9}{F A:List Addr}{H:Hp}{t:Th}{σ:L2.St}{i:Nat}{p:Addr}{xs:List D}{vs:List V} (R:RS K ([p]++F) H A t σ) (dj:p∉F) (hp:H p=some (.lst vs)) (r:Reps K (hide (A++([p]++F)) H) xs vs) (hi:i<t.length) (hs:σ[i]?=some (some (.ref p))) :
  ∃A',(∀x∈A',x=p∨x∈A)∧RS K F H A' (t.set i (.own xs)) σ:=by
 obtain⟨A2,r2,sub2,nd2⟩:=RSl.setAny (s:=.own xs) (v:=.ref p) (B:=[p]) (fun q=>.own hp r q) i R.rel hi
 have es:σ.set i (some (.ref p))=σ:=by
  apply zbe4
  intro k
  rw [zbe5]
  split
  ·rename_i e;subst e
   split
   ·exact hs.symm
   ·rename_i hl;rw [zay2 (by lia)]at hs;cases hs
  ·rfl
 rw [es]at r2
 have sub:∀x∈A2,x=p∨x∈A:=fun x hx=>(sub2 x hx).imp (fun z=>zas2.mp z) id
 refine⟨A2,sub,⟨fun q hq=>?_,nd2 R.nd (by simp) (fun b hb z=>R.dj b z (zar0 _ hb)),fun q hq=>?_,RSl.mono (za7 H fun x hx=>?_) r2 fun _ _ _ w=>w⟩⟩
 ·rcases zar3.mp hq with z | z
  ·rcases sub q z with w | w
   ·rw [w];exact⟨mL vs,hp⟩
   ·exact R.mu q (zar0 _ w)
  ·exact R.mu q (zaq8 _ (zaq8 _ z))
 ·rcases sub q hq with w | w
  ·rw [w];exact dj
  ·exact fun z=>R.dj q w (zaq8 _ z)
 ·rcases zar3.mp hx with z | z
  ·rcases sub x z with w | w
   ·rw [w];exact zaq8 _ (zar0 _ (zas2.mpr rfl))
   ·exact zar0 _ w
  ·exact zaq8 _ (zaq8 _ z)
theorem psd_forO {body:List Stmt}{i j:Nat}{x y:Str}{px pt:Pos} (J:List Nat) (hij:i∉J) (hjJ:j∈J) (hp:PassesOwn (model X.prog X.w) X.A X.env X.xe) (hc:X.calm=true) (hN:X.N[i]?=some x) (hg:PG X (.Name y pt) (zao1 j)) (hb:∀F,PSs X body (dSJ X.K F J g))
  (hv:Vis X.env.scope x:=by first | exact Or.inl rfl | exact Or.inr (Or.inl rfl) |exact Or.inr (Or.inr rfl)) (hd:(x ==("__debug__":Str))=false:=by decide) (hcd:(x ==("__classdict__":Str))=false:=by decide) (hs:∀z,foldedSetIterable (.Name x px) X.env z=pure z:=by intro _;rfl) :
  PS X (.For (.Name y pt) (.Name x px) body [] pos) (dS X.K F (dForO i j g)):=by
 intro pins s σ H E I h
 obtain⟨A,t,o,R,e,h⟩:=zai4 h
 unfold dForO at e
 split at e
 case h_2=>cases e
 rename_i xs zi
 cases ef:forJ (za3 j) g xs (t.set i .no) with
 |none=>rw [ef]at e;cases e
 |some te =>
   rw [ef]at e
   simp only [zar2]at e
   split at e
   case isFalse=>cases e
   rename_i hil
   cases e
   obtain⟨p,vs,A',a1,R1,a3,a4,a5,a6,a7⟩:=R.takeOwn zi
   refine (zal0 (tb:=dSJ X.K ([p]++F) J g) hp hc (zaa3 (zj6 (i:=i) hN hv hd hcd)) hg (hb _) hs) pins s σ H E I ?_
   refine⟨_,a1,p,rfl,⟨vs,SqL.of a4⟩,?_⟩
   have gr0:∀A1 H1,Gr A' H A1 H1→Gr A H (p::A1) H1:=fun A1 H1 gr=>by
    have pA':p∉A':=fun z=>R1.dj p z (zar0 _ (zas2.mpr rfl))
    refine⟨fun b o n w=>gr.kp b o (fun z=>n (a6 b z)) w,fun b hb=>?_,fun b hb=>?_⟩
    ·by_cases z:b∈A'
     ·exact gr.al b z
     ·obtain⟨us,u⟩:=R.mu b (zar0 _ hb)
      rw [gr.kp b _ z u];simp
    ·rcases zar8.mp hb with z | z
     ·rw [z];exact .inl a7
     ·rcases gr.nw b z with w | w
      ·exact .inl (a6 b w)
      ·exact .inr w
   refine⟨fun k m σ1 H1=>k+m=xs.length∧∃A1 t1,Gr A' H A1 H1∧RS X.K ([p]++F) H1 A1 t1 σ1∧σ1[i]?=some (some (.ref p))∧H1 p=some (.lst vs)∧Reps X.K (hide (A1++([p]++F)) H1) xs vs∧forJ (za3 j) g (xs.drop k) t1=some te,⟨xs.length,by lia,A',_,Gr.refl R1.mu.left,R1,a1,a4,a5,by simpa using ef⟩,?_⟩
   rintro k m σ1 H1 ⟨hm,A1,t1,gr,R2,s1,hp1,r1,e1⟩
   cases m with
   |zero =>
    have z:k=xs.length:=by lia
    subst z
    rw [zax7]at e1
    cases e1
    refine .inl ⟨⟨vs,SqL.of hp1,by rw [r1.length];exact zat4 _⟩,?_⟩
    obtain⟨A2,sub,R3⟩:=R2.putList (i:=i) a3 hp1 r1 hil s1
    refine h σ1 H1 A2 ?_ R3
    have g2:=gr0 A1 H1 gr
    refine⟨g2.kp,g2.al,fun b hb=>g2.nw b ?_⟩
    rcases sub b hb with w | w
    ·rw [w];exact zar4 ..
    ·exact zar1 _ w
   |succ m =>
    have hk:k<xs.length:=by lia
    have hk':k<vs.length:=by rw [r1.length];exact hk
    refine .inr ⟨⟨vs,vs[k],SqL.of hp1,zar5 hk'⟩,fun σ2 H2=>k+1+m=xs.length∧∃A1 t1,Gr A' H A1 H2∧RS X.K ([p]++F) H2 A1 t1 σ2∧σ2[i]?=some (some (.ref p))∧H2 p=some (.lst vs)∧Reps X.K (hide (A1++([p]++F)) H2) xs vs∧forJ (za3 j) g (xs.drop (k+1)) t1=some te,fun σ2 H2 q=>⟨m,zav5 m,q⟩,fun w H2 yl=>?_⟩
    obtain⟨ey,ew⟩:=yl
    subst ey
    have hw:=ew vs (SqL.of hp1)
    obtain⟨d,hd',rd⟩:=r1.getV hw
    have ed:xs.drop k=d::xs.drop (k+1):=by
     rw [zat0 hk]
     rw [zar5 hk]at hd'
     cases hd';rfl
    rw [ed]at e1
    simp only [forJ]at e1
    cases e2:za3 j d t1 with
    |none=>rw [e2]at e1;cases e1
    |some t2 =>
     rw [e2]at e1
     simp only [zar2]at e1
     obtain⟨A2,gr2,R3⟩:=R2.put (i:=j) (r:=.cl d) (v:=w) (t':=t2) (Same.refl _) rd e2
     cases e3:g t2 with
     |none=>rw [e3]at e1;cases e1
     |some o3 =>
      rw [e3]at e1
      have nji:j≠i:=fun z=>hij (z ▸ hjJ)
      cases o3 with
      |bk t3=>cases e1
      |rt r=>cases e1
      |ct t3=>cases e1
      |nx t3 =>
       refine⟨A2,t2,t3,R3,e3,fun σ3 H3 A3 gr3 R4 q3=>⟨by lia,A3,t3,(gr.trans gr2).trans gr3,R4,?_,?_,?_,e1⟩⟩
       ·rw [q3 i hij,zax1 nji];exact s1
       ·exact gr3.kp p _ (fun z=>R3.dj p z (zar0 _ (zas2.mpr rfl))) hp1
       ·exact Reps.mono gr3.same (Reps.mono gr2.same r1)
end
end DL
namespace DL
open PySem.Spec L2
noncomputable def spT (K:zaq9) (G:D→List D→List D→D→Option (List Int×List Int)):Sp:=fun vs H Q _ => ∃(v0 v3:V) (p q:Addr) (ws us:List V) (d0 d3:D) (xs ys:List D) (r:List Int×List Int),vs=[v0,.ref p,.ref q,v3]∧p≠q∧H p=some (.lst ws)∧H q=some (.lst us) ∧
 Rep K (hide [p,q] H) d0 v0∧Reps K (hide [p,q] H) xs ws∧Reps K (hide [p,q] H) ys us∧Rep K (hide [p,q] H) d3 v3∧G d0 xs ys d3=some r ∧
 ∀H',(∀b o,b≠p→b≠q→H b=some o→H' b=some o)→H' p=some (.lst (r.1.map V.int))→H' q=some (.lst (r.2.map V.int))→Q .non H'
structure CalT (P:Program) (w:World) (K:zaq9) (mg:Str→Option Value) (base:BHeap) (x:Str) (k:Nat) (G:D→List D→List D→D→Option (List Int×List Int)):Prop where
 ex:∃(a:Addr) (fd:FuncData) (ps:List Str),mg x=some (.ref a)∧zav3 K (.ref a)=true∧L2.Binds K fd ps []∧FnOk P w K mg base CX0 k a fd ps (spT K G)
section
variable {X:Cx}{F:List Addr}{a b c o:Expr}{es:List Expr}{fa fb fc:DE}{fs:List DE}{pos:Pos}
theorem RepDs.erase {K:zaq9}{H0 H:Hp}:∀ {ds:List D}{vs:List V}{B:List Addr},RepDs K H0 H ds vs B→∀j:Nat,∃B',RepDs K H0 H (ds.eraseIdx j) (vs.eraseIdx j) B'∧B'.Sublist B
 |_,_,_,.nil,j=>⟨[],by simpa using .nil,List.Sublist.refl _⟩
 |_,_,_,.cons (B:=B) (C:=C) h r,0=>⟨C,by simpa using r,zba3 B C⟩
 |_,_,_,.cons (B:=B) (C:=C) h r,j+1=>by
  obtain⟨B',q,s⟩:=RepDs.erase r j
  exact⟨B++B',by simpa using .cons h q,List.Sublist.append (List.Sublist.refl _) s⟩
end
end DL
namespace L2
open PySem.Spec
theorem vals_get:∀ {xs:List V}{us:List Value},xs.length=us.length→(∀(j:Nat) (a:V) (b:Value),xs[j]?=some a→us[j]?=some b→RelV a b)→Vals xs us
 |[],[],_,_=>.nil
 |[],_::_,h,_=>by simp at h
 |_::_,[],h,_=>by simp at h
 |x::xs,u::us,h,k=>.cons (k 0 x u rfl rfl) (vals_get (by simpa using h) fun j a b ha hb=>k (j+1) a b (by simpa using ha) (by simpa using hb))
end L2
namespace DL
open PySem.Spec L2
structure Lent (K:zaq9) (F:List Addr) (ir jx:Nat) (ds:List D) (k:Nat) (A0:List Addr) (Hb:Hp) (p r:Addr) (C1 C2:List Addr) (A:List Addr) (H:Hp) (σ:L2.St):Prop where
 nd:(p ::(C1++r::C2)).Nodup
 dj:∀b∈p ::(C1++r::C2),b∉F
 s1:σ[ir]?=some (some (.ref p))
 s2:σ[jx]?=some (some (.ref r))
 gr:Gr A0 Hb (A++p ::(C1++C2)) H
 kp:∀b∈p ::(C1++C2),∀o,Hb b=some o→H b=some o
 re:∀(H01 H1:Hp) (xs':List D),xs'.all scD=true→H1 r=some (.lst (xs'.map sV))→(∀b∈p ::(C1++C2),∀o,Hb b=some o→H1 b=some o)→Same (hide (A0++F) Hb) H01→RepD K H01 H1 (.lst (ds.set k (.lst xs'))) (.ref p) (p ::(C1++r::C2))
section
variable {X:Cx}{F:List Addr}{a b:Expr}{fa fb:DE}{pos:Pos}
def zan3 (k r:Ev):Option Ev:=match keyD k.d with
 |some kk=>if scD r.d then some (.dn (.dct [kk] [r.d])) else none
 |none=>none
def zag2 (fk fv:DE):DE:=fun t=>(fk t).bind fun k=>(fv t).bind fun r=>zan3 k r
theorem zal5 (hk:PE X a (dE X.K F fa)) (hv:PE X b (dE X.K F fb)):PE X (.Dict [some a] [b] pos) (dE X.K F (zag2 fa fb)):=by
 refine PE.imp (pe_disp (pps_cons hk hv pps_nil) rfl rfl (by simp) (by simp)) ?_
 rintro σ H Q ⟨A,t,r,R,e,h⟩
 intro p hp
 unfold zag2 at e
 cases e1:fa t with
 |none=>rw [e1]at e;cases e
 |some k =>
  cases e2:fb t with
  |none=>rw [e1,e2]at e;cases e
  |some v =>
   rw [e1,e2]at e
   have e:zan3 k v=some r:=e
   unfold zan3 at e
   split at e
   case h_2=>cases e
   rename_i kk ek
   split at e
   case isFalse=>cases e
   rename_i ok
   cases e
   have g0:=zc2 (o:=.dK []) hp
   refine⟨A,t,k,R.grow g0,e1,fun x H1 gs1 q1=>⟨A,t,v,(R.grow g0).grow gs1,e2,fun y H2 gs2 q2=>?_⟩⟩
   have ex:=zv0 q1.full ek
   have ey:=zad9 q2.full ok
   subst ex ey
   refine⟨gs2 _ _ (gs1 _ _ zb0),[(kk,sV v.d)],rfl,by simp,?_⟩
   refine h _ _ ?_ ⟨[p],by simp,fun b hb=>by simp at hb;subst hb;exact hp,.dct (vs:=[sV v.d]) rfl zb0 (zp6 (ds:=[v.d]) (by simp [ok]))⟩
   intro c o hc
   have n:c≠p:=fun z=>by rw [z,hp]at hc;cases hc
   show upd H2 p _ c=some o
   rw [upd]
   simp only [n,if_false]
   exact gs2 _ _ (gs1 _ _ (g0 _ _ hc))
end
end DL
namespace DL
open PySem.Spec L2
mutual
theorem RepD.fl {K:zaq9}{H0 H:Hp}:∀ {d:D}{v:V}{B:List Addr},RepD K H0 H d v B→flat d=true→Rep K H0 d v∧B=[]
 |_,_,_,.flat _ r,_=>⟨r,rfl⟩
 |_,_,_,.tup h r,f=>⟨.tup h (RepDs.fl r (by simpa [flat] using f)).1,(RepDs.fl r (by simpa [flat] using f)).2⟩
 |_,_,_,.lst _ _,f=>by simp [flat]at f
 |_,_,_,.dct _ _ _,f=>by simp [flat]at f
 |_,_,_,.pdc _,f=>by simp [flat]at f
theorem RepDs.fl {K:zaq9}{H0 H:Hp}:∀ {ds:List D}{vs:List V}{B:List Addr},RepDs K H0 H ds vs B→flats ds=true→Reps K H0 ds vs∧B=[]
 |_,_,_,.nil,_=>⟨.nil,rfl⟩
 |_,_,_,.cons h r,f=>by
  simp only [flats,zar9]at f
  obtain⟨a1,a2⟩:=RepD.fl h f.1
  obtain⟨b1,b2⟩:=RepDs.fl r f.2
  exact⟨.cons a1 b1,by rw [a2,b2];rfl⟩
end
def thwD:Sl→Sl
 |.dp (.lst xs)=>if flats xs then .own xs else .dp (.lst xs)
 |s=>s
def thwT (t:Th) (i:Nat):Th:=match t[i]? with
 |some s=>t.set i (thwD s)
 |none=>t
theorem zm7 (s:Sl) (t:Th) (i:Nat):thwT (s::t) (i+1)=s::thwT t i:=by
 unfold thwT
 simp only [List.getElem?_cons_succ]
 cases t[i]?<;>simp
theorem RSl.thaw {K:zaq9}{H0 H:Hp}{t:Th}{σ:L2.St}{A:List Addr} (h:RSl K H0 H t σ A):∀i,RSl K H0 H (thwT t i) σ A:=by
 induction h with
 |nil=>intro i;exact .nil
 |no r ih =>
  intro i
  cases i with
  |zero=>exact .no r
  |succ i=>rw [zm7];exact .no (ih i)
 |val h r ih =>
  intro i
  cases i with
  |zero=>exact .val h r
  |succ i=>rw [zm7];exact .val h (ih i)
 |own h1 h2 r ih =>
  intro i
  cases i with
  |zero=>exact .own h1 h2 r
  |succ i=>rw [zm7];exact .own h1 h2 (ih i)
 |@dp d v B t σ A h r ih =>
  intro i
  cases i with
  |succ i=>rw [zm7];exact .dp h (ih i)
  |zero =>
   show RSl K H0 H (thwD (.dp d)::t) _ _
   by_cases c:∃xs,d=.lst xs∧flats xs=true
   ·obtain⟨xs,e,f⟩:=c
    subst e
    have e:thwD (.dp (.lst xs))=.own xs:=by simp [thwD,f]
    rw [e]
    cases h with
    |flat z _=>simp [flat]at z
    |lst h1 h2 =>
     obtain⟨a,b⟩:=RepDs.fl h2 f
     subst b
     exact .own h1 a r
   ·have e:thwD (.dp d)=.dp d:=by
     cases d with
     |lst xs =>
      have:flats xs=false:=by
       cases z:flats xs with
       |false=>rfl
       |true=>exact absurd ⟨xs,rfl,z⟩ c
      simp [thwD,this]
     |_=>rfl
    rw [e]
    exact .dp h r
def dThw (i:Nat) (g:DS):DS:=fun t=>g (thwT t i)
theorem dS_thw {K:zaq9}{F:List Addr}{g:DS}{i:Nat}{E:Ends}{σ:L2.St}{H:Hp} (h:dS K F (dThw i g) E σ H):dS K F g E σ H:=by
 obtain⟨A,t,o,R,e,p⟩:=zai4 h
 exact dS_mk (A:=A) ⟨R.mu,R.nd,R.dj,R.rel.thaw i⟩ e p
theorem zak7 {X:Cx}{F:List Addr}{g:DS}{st:Stmt} (i:Nat) (h:PS X st (dS X.K F g)):PS X st (dS X.K F (dThw i g)):=PS.imp h fun _ _ _ q=>dS_thw q
end DL
namespace DL
open PySem.Spec L2
section
variable {X:Cx}{F:List Addr}
noncomputable def kLtT:Ev→Ev→Option Ev:=fun r1 r2=>match r1.d,r2.d with
 |.tup xs,.tup ys=>(zf6 xs).bind fun is=>(zf6 ys).bind fun js=>if is.length=js.length then some (.cl (.bl (lexI false is js))) else none
 |_,_=>none
theorem od_ltT (hu:X.A.units+64<cLine):OpD X F (compareOp .Lt) kLtT:=by
 intro pins s σ H0 H A x y v u Q r1 r2 r I m g0 rx ry q1 q2 hc hq
 unfold kLtT at hc
 have p1:=q1.full
 have p2:=q2.full
 have icmp:∀ {A:Around}{i j:Int}{t t':Tok},SeqAt.OpAt .Lt A s (.int i t) (.int j t') (cmpI false i j):=fun {A i j t t'} prog w E Q hq =>
  CmpOf.ints_lt (prog:=prog) (w:=w) (A:=A) (P:=fun (n:Nat) v => ∃t,v=.int (if n=0 then i else j) t) (fun n=>if n=0 then i else j) (fun _ _ h=>h) 0 1 _ _ _ _ _ ⟨t,rfl⟩ ⟨t',rfl⟩ hq
 split at hc
 case h_2=>cases hc
 rename_i xs ys z1 z2
 rw [z1]at p1
 rw [z2]at p2
 cases p1 with
 |@tup _ pa vs h1 h2 =>
 cases p2 with
 |@tup _ pb ws g1 g2 =>
  cases e1:zf6 xs with
  |none=>rw [e1]at hc;cases hc
  |some is =>
   cases e2:zf6 ys with
   |none=>rw [e1,e2]at hc;cases hc
   |some js =>
    rw [e1,e2]at hc
    simp only [zar2]at hc
    split at hc
    case isFalse=>cases hc
    rename_i hl
    cases hc
    have x1:=zh4 e1
    have x2:=zh4 e2
    subst x1 x2
    have v1:=zd7 h2
    have v2:=zd7 g2
    subst v1 v2
    cases rx
    cases ry
    obtain⟨its,w1,w2,_⟩:=I.tuple h1
    obtain⟨its',w1',w2',_⟩:=I.tuple g1
    have l1:its.toArray.size=is.length:=by have:=w1.length;simp at this;simp [← this]
    have l2:its'.toArray.size=js.length:=by have:=w1'.length;simp at this;simp [← this]
    have at1:∀j (hj:j<its.toArray.size),∃t,its.toArray[j]=.int (is[j]'(by lia)) t:=fun j hj=>by
     obtain⟨v,e,r⟩:=Vals.getL w1 hj
     have hj':j<is.length:=by lia
     rw [zat7,zar5 hj']at e
     cases e
     exact r
    have at2:∀j (hj:j<its'.toArray.size),∃t,its'.toArray[j]=.int (js[j]'(by lia)) t:=fun j hj=>by
     obtain⟨v,e,r⟩:=Vals.getL w1' hj
     have hj':j<js.length:=by lia
     rw [zat7,zar5 hj']at e
     cases e
     exact r
    have he:∀j (q1:j<its.toArray.size) (q2:j<its'.toArray.size),SeqAt.EqAt X.A.in1 s its.toArray[j] its'.toArray[j] (decide (is.getD j 0=js.getD j 0)):=fun j q1 q2=>by
     obtain⟨t,z1⟩:=at1 j q1
     obtain⟨t',z2⟩:=at2 j q2
     have k1:is.getD j 0=is[j]'(by lia):=by rw [zar7,zar5 (by lia)];rfl
     have k2:js.getD j 0=js[j]'(by lia):=by rw [zar7,zar5 (by lia)];rfl
     rw [z1,z2,k1,k2]
     have q:=zao6 I 6 X.A.in1 (.int (is[j]'(by lia))) (.int (js[j]'(by lia))) _ _ (.int (is[j]'(by lia)) t) (.int (js[j]'(by lia)) t') (by show X.A.units+1+6<cLine;lia) (by rfl) (.int _) (.int _) ⟨t,rfl⟩ ⟨t',rfl⟩
     have:eqD (.int (is[j]'(by lia))) (.int (js[j]'(by lia)))=decide ((is[j]'(by lia))=(js[j]'(by lia))):=by
      cases w:decide ((is[j]'(by lia))=(js[j]'(by lia))) with
      |true=>rw [eqD_true];simp at w;rw [w]
      |false=>rw [eqD_false];simp at w;intro k;injection k with k;exact w k
     rw [← this];exact q
    have hcc:∀j (q1:j<its.toArray.size) (q2:j<its'.toArray.size),(decide (is.getD j 0=js.getD j 0))=false→SeqAt.OpAt .Lt X.A.in1 s its.toArray[j] its'.toArray[j] (cmpI false (is.getD j 0) (js.getD j 0)):=fun j q1 q2 _=>by
     obtain⟨t,z1⟩:=at1 j q1
     obtain⟨t',z2⟩:=at2 j q2
     have k1:is.getD j 0=is[j]'(by lia):=by rw [zar7,zar5 (by lia)];rfl
     have k2:js.getD j 0=js[j]'(by lia):=by rw [zar7,zar5 (by lia)];rfl
     rw [z1,z2,k1,k2]
     exact icmp
    have hz:its.toArray.size=its'.toArray.size:=by lia
    have fl:=zab4 (mx:=false) (is:=is) (js:=js) (e:=fun j=>decide (is.getD j 0=js.getD j 0)) (c:=fun j=>cmpI false (is.getD j 0) (js.getD j 0)) hl (fun j a b z1 z2=>by simp [z1,z2])
    have hs:EP X pins σ Q (.bool (lexI false is js)) s:=⟨.bl (lexI false is js),H,I,rfl,hq _ H (Same.refl H) (.bl _)⟩
    rw [← fl, ← l1]at hs
    exact SeqAt.OpAt.tuples_lt (A:=X.A) w2 w2' (by lia) hz he hcc _ _ _ _ hs
end
theorem zab3 {P:Program}{w:World}{K:zaq9}{mg:Str→Option Value}{base:BHeap}{x qual:Str}{st:Stmt}{f:Addr}{fd:FuncData}{N ps:List Str}{k:Nat} (Fn:L2.Fun K x qual st f fd) (S:FnScope N ps (zb6 st)):FnOk P w K mg base CX0 (k+1) f fd ps (spD K fun _=>none):=by
 refine zk3 (k:=k) Fn S (fun _ _ e=>nomatch e) (fun _=>none) (fun _ _ e=>nomatch e) (fun cdv A outer s H E F hr=>?_)
 intro pins s σ H E I h
 obtain⟨A,t,o,_,e,_⟩:=zai4 h
 cases e
end DL
namespace DL
open PySem.Spec L2
section
variable {X:Cx}{F:List Addr}{J:List Nat}{a b:Expr}{fa fb:DE}{pos:Pos}{ss:List Stmt}
theorem zak6:PSs X ss (dSJ X.K F J fun _=>none):=by
 intro pins s σ H E I h
 obtain⟨A,t,t',_,e,_⟩:=h
 cases e
theorem psj_dput (i:Nat) {x:Str}{p0 tpos:Pos} (hu:X.A.units+64<cLine) (hb:PE X b (dE X.K F fb)) (he:PE X a (dE X.K F fa)) (hN:X.N[i]?=some x:=by rfl) (hv:Vis X.env.scope x:=by first | exact Or.inl rfl | exact Or.inr (Or.inl rfl) |exact Or.inr (Or.inr rfl)) (hd:(x ==("__debug__":Str))=false:=by decide)
  (hcd:(x ==("__classdict__":Str))=false:=by decide) (hs:swapsWith a (some (.Subscript (.Name x p0) b tpos)) pos.line X.env=pure false:=by rfl) :
  PS X (.Assign [.Subscript (.Name x p0) b tpos] a pos) (dSJ X.K F J (zap2 i fb fa)):=by
 refine PS.imp (ps_dput (by lia) (zj6 (i:=i) hN hv hd hcd) hb he hs) ?_
 rintro E σ H ⟨A,t,t',R,e,h⟩
 unfold zap2 at e
 cases e1:fa t with
 |none=>rw [e1]at e;cases e
 |some r =>
  cases e2:fb t with
  |none=>rw [e1,e2]at e;cases e
  |some kk =>
   rw [e1,e2]at e
   have e:zan4 t i r kk=some (.nx t'):=e
   unfold zan4 at e
   split at e
   case h_2=>cases e
   rename_i ks ds k z ek
   split at e
   case isFalse=>cases e
   rename_i ok
   simp only [zar9,decide_eq_true_eq]at ok
   cases e
   obtain⟨p,a1,a2,l,hp,mk⟩:=R.placeD z ok.1.1
   refine⟨A,t,r,R,e1,fun v0 H1 gs1 q1=>⟨_,a1,A,t,kk,R.grow gs1,e2,fun y H2 gs2 q2=>?_⟩⟩
   have gs:=gs1.trans gs2
   have ey:=zv0 q2.full ek
   have ev:=zad9 q1.full ok.1.2
   subst ey ev
   obtain⟨pz,pl⟩:=put_zip k r.d l
   obtain⟨A2,R',g'⟩:=mk H2 _ _ gs pl (put_sc ok.1.2 ok.1.1)
   have hlen:(mkKV ks (ds.map sV)).length<sizeLine:=by
    unfold mkKV
    rw [List.length_zip]
    exact zbd9 (Nat.min_le_left _ _) (zas5 ok.2 (by rw [sizeLine_eq];decide))
   refine⟨p,_,rfl,DPut.k (gs _ _ hp) hlen,?_⟩
   rw [pz]
   exact h _ _ _ g' R' fun _ _=>rfl
end
end DL
namespace KX
open PySem.Spec L2 DL
abbrev qA:=kOr (kI tt2 fun i j=>.int (i+j)) kCat
abbrev qS:=kI tt2 fun i j=>.int (i - j)
abbrev qM:=kOr (kI cMul fun i j=>.int (i*j)) kRep
abbrev qV:=kI cDiv fun i j=>.int (i.fdiv j)
abbrev qR:=kI cMod fun i j=>.int (i.fmod j)
abbrev qL:=kI tt2 fun i j=>.bl (decide (i<j))
abbrev qG:=kI tt2 fun i j=>.bl (decide (j<i))
theorem app_of (t:Th) {f:DE}{i:Nat}{xs:List D}{d:D} (hf:f t=some (.cl d)) (hi:t[i]?=some (.own xs)) (hl:xs.length<100000):dApp i f t=some (.nx (t.set i (.own (xs++[d])))):=by
 unfold dApp
 rw [hf]
 simp only [zar2,kApp,hi,Ev.ok,Ev.d,hl,decide_true,Bool.and_self,if_true]
theorem asg_of (t:Th) {f:DE}{i:Nat}{d:D} (hf:f t=some (.cl d)) (hi:i<t.length):dAsg i f t=some (.nx (t.set i (.val d))):=by
 unfold dAsg
 rw [hf]
 simp only [zar2,zi6,hi,if_true,zau4]
theorem ze0:∀xs:List Int,flats (xs.map D.int)=true
 |[]=>rfl
 |x::xs=>by
  have:=ze0 xs
  simp [flats,flat,this]
theorem zu1 {k:List Ev→Option Ev}{fa fb:DE}{t:Th}{ra rb:Ev} (h1:fa t=some ra) (h2:fb t=some rb):dT1 k (za2 fa (za2 fb dNil)) t=k [ra,rb]:=by
 simp [dT1,za2,dNil,h1,h2]
theorem zg1 {k:Ev→Ev→Option Ev}{fa fb:DE}{t:Th}{ra rb:Ev} (h1:fa t=some ra) (h2:fb t=some rb):d2 k fa fb t=k ra rb:=by
 simp [d2,h1,h2]
theorem zr6 (n:Nat):∀xs:List Int,eqOk (n+1) (.lst (xs.map D.int)) (.lst (xs.map D.int))=true
 |[]=>rfl
 |x::xs=>by
  have:=zr6 n xs
  simp only [eqOk]at this ⊢
  simp only [zas1,zax0,zau0,this,zaw3]
  cases n<;>rfl
theorem t4_of {k:List Ev→Option Ev}{fa fb fc fd:DE}{t:Th}{ra rb rc rd:Ev} (h1:fa t=some ra) (h2:fb t=some rb) (h3:fc t=some rc) (h4:fd t=some rd):dT1 k (za2 fa (za2 fb (za2 fc (za2 fd dNil)))) t=k [ra,rb,rc,rd]:=by
 simp [dT1,za2,dNil,h1,h2,h3,h4]
theorem t3_of {k:List Ev→Option Ev}{fa fb fc:DE}{t:Th}{ra rb rc:Ev} (h1:fa t=some ra) (h2:fb t=some rb) (h3:fc t=some rc):dT1 k (za2 fa (za2 fb (za2 fc dNil))) t=k [ra,rb,rc]:=by
 simp [dT1,za2,dNil,h1,h2,h3]
theorem zs4 {k:List Ev→Option Ev}{fa:DE}{t:Th}{ra:Ev} (h1:fa t=some ra):dT1 k (za2 fa dNil) t=k [ra]:=by
 simp [dT1,za2,dNil,h1]
theorem zg9 {t:Th}{f:DE}{i:Nat}{d:D} (hf:f t=some (.cl d)) (hi:i<t.length):dAsg i f t=some (.nx (t.set i (.val d))):=asg_of t hf hi
theorem zag8 {t:Th}{f:DE}{i:Nat}{xs:List D} (hf:f t=some (.nw xs)) (hi:i<t.length):dAsg i f t=some (.nx (t.set i (.own xs))):=by
 unfold dAsg
 rw [hf]
 simp only [zar2,zi6,hi,if_true,zau4]
theorem zt2 (n b:Nat) (h:b<n):ixN n (b:Int)=some b:=by unfold ixN;rw [if_pos (by lia),if_pos (by lia)];simp
theorem get_map (L:List Int) (b:Nat) (h:b<L.length):(L.map D.int)[b]?=some (.int (L.getD b 0)):=by simp [zar7,h]
theorem at_map (L:List Int) (b:Nat) (h:b<L.length):atI (L.map D.int) (b:Int)=some (.int (L.getD b 0)):=by
 unfold atI
 rw [zt2 _ _ (by simpa using h)]
 exact get_map L b h
theorem ixEv {r1 r2:Ev} (L:List Int) (b:Nat) (h:b<L.length) (h1:r1.d=.lst (L.map D.int)) (h2:r2.d=.int (b:Int)):kIx r1 r2=some (.cl (.int (L.getD b 0))):=by
 unfold kIx
 rw [h1,h2]
 show (atI (L.map D.int) (b:Int)).map _=_
 rw [at_map L b h]
 simp [flat]
theorem ifs_of {c:DT}{g1 g2:DS}{t:Th}{b:Bool} (h:c t=some b):dIfS c g1 g2 t=if b then g1 t else g2 t:=by
 unfold dIfS;rw [h];rfl
theorem zai2 {c:DT}{g1 g2:DS}{t:Th}{b:Bool} (h:c t=some b) (hb:b=true):dIfS c g1 g2 t=g1 t:=by
 rw [ifs_of h,hb];rfl
theorem ifs_f {c:DT}{g1 g2:DS}{t:Th}{b:Bool} (h:c t=some b) (hb:b=false):dIfS c g1 g2 t=g2 t:=by
 rw [ifs_of h,hb];rfl
theorem rem_of {t:Th}{f:DE}{i:Nat}{r:Ev}{K:List Int}{p:Int} (hf:f t=some r) (hr:r.d=.int p) (hi:t[i]?=some (.own (K.map D.int))) (hp:p∈K):dRem i f t=some (.nx (t.set i (.own ((K.erase p).map D.int)))):=by
 unfold dRem
 rw [hf]
 show kRem t i r=_
 unfold kRem
 rw [hi,hr]
 show (zf6 (K.map D.int)).bind _=_
 rw [intsD_map]
 show (if K.contains p=true then _ else _)=_
 rw [if_pos (by simpa using hp)]
theorem zs3 (t:Th) {f:DE}{i:Nat}{xs:List Int}{p:Int} (hf:f t=some (.cl (.int p))) (hi:t[i]?=some (.own (xs.map D.int))) (hl:xs.length<100000):dApp i f t=some (.nx (t.set i (.own ((xs++[p]).map D.int)))):=by
 rw [app_of t hf hi (by simpa using hl)]
 simp
theorem seq_rt {g1 g2:DS}{t:Th}{r:Ev} (h:g1 t=some (.rt r)):dSeq g1 g2 t=some (.rt r):=by simp [dSeq,h]
theorem grd {c:DT}{g:DS}{t:Th}{b:Bool} (h:c t=some b) (hb:b=false):dIfS c g zj4 t=some (.nx t):=(ifs_f h hb).trans rfl
theorem bnd {g:Option Out}{r:Ev} (h:g=some (.rt r)):g.bind zo3=some r:=by rw [h];rfl
theorem zh6 {fa fb:DE}{t:Th}{a b:Int} (h1:fa t=some (.cl (.int a))) (h2:fb t=some (.cl (.int b))):(d2 qA fa fb) t=some (.cl (.int (a+b))):=(zg1 h1 h2).trans rfl
theorem zaj8 {fa fb:DE}{t:Th}{a b:Int} (h1:fa t=some (.cl (.int a))) (h2:fb t=some (.cl (.int b))):(d2 qS fa fb) t=some (.cl (.int (a - b))):=(zg1 h1 h2).trans rfl
theorem zg7 {fa fb:DE}{t:Th}{a b:Int} (h1:fa t=some (.cl (.int a))) (h2:fb t=some (.cl (.int b))) (hb:b≠0):(d2 qR fa fb) t=some (.cl (.int (a.fmod b))):=by
 rw [zg1 h1 h2]
 show (if cMod a b=true then _ else none)=_
 rw [if_pos (by unfold cMod;exact decide_eq_true hb)]
theorem zag1 {fa fb:DE}{t:Th}{a b:Int} (h1:fa t=some (.cl (.int a))) (h2:fb t=some (.cl (.int b))) (hb:b≠0) (hs:sm b=true):(d2 qV fa fb) t=some (.cl (.int (a.fdiv b))):=by
 rw [zg1 h1 h2]
 show (if cDiv a b=true then _ else none)=_
 rw [if_pos (by unfold cDiv;rw [hs];simp [hb])]
theorem zo7 {fa fb:DE}{t:Th}{a b:Int} (h1:fa t=some (.cl (.int a))) (h2:fb t=some (.cl (.int b))) (ha:sm a=true) (hb:sm b=true):(d2 qM fa fb) t=some (.cl (.int (a*b))):=by
 rw [zg1 h1 h2]
 have:cMul a b=true:=by simp only [cMul];rw [ha,hb];rfl
 simp [kOr,kI,Ev.d,this]
theorem pow12 (t:Th):(d2 (kI cPow fun i j=>.int (i ^ j.toNat)) (dC (.int 10)) (dC (.int 12))) t=some (.cl (.int 1000000000000)):=by
 simp [d2,dC,kI,cPow,kOr,tt2,Ev.d]
theorem zam2 {fa fb:DE}{t:Th}{a b:Int} (h1:fa t=some (.cl (.int a))) (h2:fb t=some (.cl (.int b))):dBo (d2 qL fa fb) t=some (decide (a<b)):=by
 unfold dBo;rw [zg1 h1 h2];rfl
theorem gt_of {fa fb:DE}{t:Th}{a b:Int} (h1:fa t=some (.cl (.int a))) (h2:fb t=some (.cl (.int b))):dBo (d2 qG fa fb) t=some (decide (b<a)):=by
 unfold dBo;rw [zg1 h1 h2];rfl
theorem zao3 {fa fb:DE}{t:Th}{a b:Int} (h1:fa t=some (.cl (.int a))) (h2:fb t=some (.cl (.int b))):dBo (d2 kEq fa fb) t=some (decide (a=b)):=by
 unfold dBo;rw [zg1 h1 h2]
 have:kEq (.cl (.int a)) (.cl (.int b))=some (.cl (.bl (eqD (.int a) (.int b)))):=rfl
 rw [this,zab6];rfl
theorem neI_of {fa fb:DE}{t:Th}{a b:Int} (h1:fa t=some (.cl (.int a))) (h2:fb t=some (.cl (.int b))):dBo (d2 kNe fa fb) t=some (!decide (a=b)):=by
 unfold dBo;rw [zg1 h1 h2]
 have:kNe (.cl (.int a)) (.cl (.int b))=some (.cl (.bl (!eqD (.int a) (.int b)))):=rfl
 rw [this,zab6];rfl
theorem or_of {f g:DT}{t:Th}{a b:Bool} (h1:f t=some a) (h2:a=false→g t=some b):dOr f g t=some (a||b):=by
 unfold dOr;rw [h1]
 cases a with
 |true=>rfl
 |false=>simp [h2 rfl]
theorem zn3 {f g:DT}{t:Th}{a b:Bool} (h1:f t=some a) (h2:g t=some b):dOr f g t=some (a||b):=or_of h1 fun _=>h2
theorem zaq5 {f g:DT}{t:Th}{a b:Bool} (h1:f t=some a) (h2:g t=some b):dAnd f g t=some (a&&b):=by
 unfold dAnd;rw [h1];cases a<;>simp [h2]
theorem len_of {t:Th}{f:DE}{r:Ev}{xs:List Int} (h:f t=some r) (hr:r.d=.lst (xs.map D.int)):(dT1 kLen (za2 f dNil)) t=some (.cl (.int (xs.length:Int))):=by
 rw [zs4 h]
 unfold kLen
 simp only [hr,zas7]
theorem zaf2 {fa fb:DE}{t:Th}{r1 r2:Ev} (L:List Int) (b:Nat) (ha:fa t=some r1) (hb:fb t=some r2) (h:b<L.length) (h1:r1.d=.lst (L.map D.int)) (h2:r2.d=.int (b:Int)):(d2 kIx fa fb) t=some (.cl (.int (L.getD b 0))):=by
 rw [zg1 ha hb,ixEv L b h h1 h2]
theorem calln {G:List D→Option Ev}{rs:List Ev}{xs:List Int} (h:G (rs.map Ev.d)=some (.nw (xs.map D.int))):zc4 G rs=some (.nw (xs.map D.int)):=by
 unfold zc4
 rw [h]
 simp only [zau4,upEv]
 split
 ·rfl
 ·simp [ze0]
theorem zai6 {G:List D→Option Ev}{rs:List Ev}{d:D} (h:G (rs.map Ev.d)=some (.cl d)) (hf:flat d=true):zc4 G rs=some (.cl d):=by
 unfold zc4
 rw [h]
 simp only [zau4,upEv]
 split
 ·rfl
 ·simp [hf]
theorem tr_of {f:DE}{t:Th}{b:Bool} (h:f t=some (.cl (.bl b))):dTr f t=some b:=by
 unfold dTr;rw [h];rfl
theorem not_of {f:DT}{t:Th}{b:Bool} (h:f t=some b):dNot f t=some (!b):=by
 unfold dNot;rw [h];rfl
theorem ret_of {f:DE}{t:Th}{r:Ev} (h:f t=some r):dRet f t=some (.rt r):=by
 unfold dRet;rw [h];rfl
theorem for_of {k:D→Th→Option Th}{f:DE}{b:DS}{t:Th}{r:Ev}{ds:List D} (h:f t=some r) (hd:r.d=.lst ds) (ho:r.ok=true):dFor k f b t=forD k b ds t:=by
 unfold dFor
 rw [h]
 simp only [zar2,hd,ho,if_true]
theorem zae0 (x:Int):∀m:Nat,(zar6 m [D.int x]).flatten=(zar6 m x).map D.int
 |0=>rfl
 |m+1=>by rw [zau5,zay4,zae0 x m,zau5];rfl
theorem repn_of {fa fb:DE}{t:Th}{x:Int}{m:Nat} (h1:fa t=some (.nw [.int x])) (h2:fb t=some (.cl (.int (m:Int)))) (hm:m≤900):(d2 qM fa fb) t=some (.nw ((zar6 m x).map D.int)):=by
 rw [zg1 h1 h2]
 show (if ([D.int x].length≤100&&decide (-1000000≤(m:Int)∧(m:Int)≤1000))=true then some (Ev.nw (zar6 (m:Int).toNat [D.int x]).flatten) else none)=_
 rw [if_pos (by simp;lia),zbb8,zae0]
theorem zo1 {k0:D→Th→Option Th}{b:DS}{t:Th}{f:DE}{r:Ev}{n:Nat} (h:f t=some r) (hr:r.d=.int (n:Int)) (hn:n≤100000):zg8 k0 f b t=forD k0 b ((ze8 n).map D.int) t:=by
 unfold zg8
 rw [h]
 simp only [zar2,hr]
 rw [if_pos (by unfold bigI;exact decide_eq_true (by lia)),zbb8]
 congr 1
 unfold rngD ze8
 simp
theorem zam6 {f:DE}{t:Th}{r:Ev}{xs:List Int} (h:f t=some r) (hr:r.d=.lst (xs.map D.int)):(dT1 zo4 (za2 f dNil)) t=some (.nw (xs.map D.int)):=by
 rw [zs4 h]
 unfold zo4
 simp only [hr,ze0,zbb5,if_true]
theorem sorti_of {f:DE}{t:Th}{r:Ev}{xs:List Int} (h:f t=some r) (hr:r.d=.lst (xs.map D.int)) (hl:xs.length<64):(dT1 zr0 (za2 f dNil)) t=some (.nw ((zh0 xs).map D.int)):=by
 rw [zs4 h]
 unfold zr0
 simp only [hr,intsD_map,zar2]
 rw [if_pos hl]
theorem for_P {k:D→Th→Option Th}{b:DS}{P:Th→Prop}:∀(ds:List D),(∀d∈ds,∀t,P t→∃t1 t2,k d t=some t1∧b t1=some (.nx t2)∧P t2)→∀t,P t→∃t',forD k b ds t=some (.nx t')∧P t'
 |[],_,t,h=>⟨t,rfl,h⟩
 |d::ds,hd,t,h=>by
  obtain⟨t1,t2,e1,e2,h2⟩:=hd d (zar4 ..) t h
  obtain⟨t',e,h'⟩:=for_P ds (fun d' hd'=>hd d' (zar1 _ hd')) t2 h2
  exact⟨t',by simp only [forD,e1,e2,zar2];exact e,h'⟩
def stG (W:Int→Int) (b x:Int):Int:=if W b<W x then x else b
theorem zaq2 {fb:DE}{W:Int→Int}{cs:List D}:∀(l:List Int) (b:Int),(∀x∈l,fb (.val (.int x)::cs.map Sl.val)=some (.cl (.int (W x))))→zaq3 true fb cs (.int b) (.int (W b)) (l.map D.int)=some (.int (l.foldl (stG W) b))
 |[],b,_=>rfl
 |x::l,b,h=>by
  have e:=h x (zar4 ..)
  simp only [zas1,zaq3,e,zar2,Ev.d,flat,if_true,cmpD,cmpI,List.foldl_cons]
  have ih:=fun b=>zaq2 l b fun y hy=>h y (zar1 _ hy)
  by_cases c:W b<W x
  ·rw [if_pos (decide_eq_true c),show stG W b x=x from if_pos c];exact ih x
  ·rw [if_neg (by simpa using c),show stG W b x=b from if_neg c];exact ih b
theorem key_of {fa fb:DE}{W:Int→Int}{cs:List D}{b:Bool}{cap:List Nat}{t:Th}{r:Ev}{x:Int}{l:List Int} (ha:fa t=some r) (hr:r.d=.lst ((x::l).map D.int)) (hc:capD t cap=some (b,cs)) (h:∀y∈x::l,fb (.val (.int y)::cs.map Sl.val)=some (.cl (.int (W y)))):dKey true cap fa fb t=some (.cl (.int (l.foldl (stG W) x))):=by
 unfold dKey
 rw [ha,hc]
 simp only [zar2,hr,zas1]
 rw [show (zf6 (D.int x::l.map D.int)).isSome=true by rw [← zas1 (f:=D.int),intsD_map];rfl,if_pos rfl,h x (zar4 ..)]
 simp only [zar2,Ev.d,flat,if_true]
 rw [zaq2 l x fun y hy=>h y (zar1 _ hy)]
 rfl
def pD (p:Int×Int):D:=.tup [.int p.1,.int p.2]
theorem zn7:∀ts:List (Int×Int),flats (ts.map pD)=true
 |[]=>rfl
 |p::ts=>by simp only [zas1,flats,zn7 ts];rfl
theorem zao2 (n:Nat):∀ts:List (Int×Int),eqOk (n+2) (.lst (ts.map pD)) (.lst (ts.map pD))=true
 |[]=>rfl
 |p::ts=>by
  have:=zao2 n ts
  simp only [eqOk]at this ⊢
  simp only [zas1,zax0,zau0,this,zaw3]
  cases n<;>rfl
theorem list_pD {f:DE}{t:Th}{r:Ev}{ts:List (Int×Int)} (h:f t=some r) (hr:r.d=.lst (ts.map pD)):(dT1 zo4 (za2 f dNil)) t=some (.nw (ts.map pD)):=by
 rw [zs4 h]
 unfold zo4
 simp only [hr,zn7,zbb5,if_true]
def rwD (r:List Int):D:=.lst (r.map D.int)
def mD (M:List (List Int)):D:=.lst (M.map rwD)
def gM (M:List (List Int)) (i j:Int):Int:=(M.getD i.toNat []).getD j.toNat 0
structure Sq (n:Nat) (M:List (List Int)):Prop where
 len:M.length=n
 row:∀r∈M,r.length=n
theorem Sq.rowD {n:Nat}{M:List (List Int)} (S:Sq n M) {i:Nat} (h:i<n):(M.getD i []).length=n:=by
 have hi:i<M.length:=by rw [S.len];exact h
 rw [zar7,zar5 hi]
 exact S.row _ (zbf1 hi)
theorem row_at {fa fb:DE}{t:Th}{r1:Ev}{M:List (List Int)}{i:Int} (ha:fa t=some r1) (h1:r1.d=mD M) (hb:fb t=some (.cl (.int i))) (i0:0≤i) (il:i<(M.length:Int)):∃r,(d2 kIx fa fb) t=some r∧r.d=rwD (M.getD i.toNat []):=by
 rw [zg1 ha hb]
 unfold kIx
 rw [h1]
 have hl:i.toNat<M.length:=by lia
 have e:atI (M.map rwD) i=some (rwD (M.getD i.toNat [])):=by
  unfold atI
  have:ixN (M.map rwD).length i=some i.toNat:=by
   have:=zt2 (M.map rwD).length i.toNat (by simpa using hl)
   rwa [zax4 i0]at this
  rw [this]
  simp [zar7,hl]
 show ∃r,((atI (M.map rwD) i).map _)=some r∧_
 rw [e]
 refine⟨_,rfl,?_⟩
 dsimp only
 split<;>rfl
theorem zt3 {fa fb fc:DE}{t:Th}{r1:Ev}{n:Nat}{M:List (List Int)} (S:Sq n M) {i j:Int} (ha:fa t=some r1) (h1:r1.d=mD M) (hb:fb t=some (.cl (.int i))) (hc:fc t=some (.cl (.int j))) (i0:0≤i) (il:i<(n:Int)) (j0:0≤j) (jl:j<(n:Int)):(d2 kIx (d2 kIx fa fb) fc) t=some (.cl (.int (gM M i j))):=by
 obtain⟨r,e,hr⟩:=row_at ha h1 hb i0 (by rw [S.len];exact il)
 have hl:=S.rowD (i:=i.toNat) (by lia)
 exact zaf2 (M.getD i.toNat []) j.toNat e hc (by rw [hl];lia) hr (by show D.int j=D.int _;rw [zax4 j0])
theorem zab5 (n:Nat):∀M:List (List Int),eqOk (n+2) (mD M) (mD M)=true
 |[]=>rfl
 |r::M=>by
  have:=zab5 n M
  unfold mD at this ⊢
  simp only [eqOk]at this ⊢
  simp only [zas1,zax0,zau0,this,zaw3]
  exact zr6 n r
theorem eq_mD {r1 r2:Ev} (M:List (List Int)) (h1:r1.d=mD M) (h2:r2.d=mD M):kEq r1 r2=some (.cl (.bl true)):=by
 unfold kEq
 rw [h1,h2,if_pos (zab5 4 M),zn9]
theorem ne_mD {r1 r2:Ev} (M:List (List Int)) (h1:r1.d=mD M) (h2:r2.d=mD M):kNe r1 r2=some (.cl (.bl false)):=by
 unfold kNe
 rw [h1,h2,if_pos (zab5 4 M),zn9]
 rfl
theorem zab2 {t:Th}{f:DE}{r:Ev}{M:List (List Int)} (h:f t=some r) (hr:r.d=mD M):(dT1 kLen (za2 f dNil)) t=some (.cl (.int (M.length:Int))):=by
 rw [zs4 h]
 unfold kLen
 simp only [hr,mD,zas7]
def setM (M:List (List Int)) (i j:Nat) (v:Int):List (List Int):=M.set i ((M.getD i []).set j v)
theorem zak0 {n:Nat}{M:List (List Int)} (S:Sq n M) {i j:Nat} (v:Int) (hi:i<n):Sq n (setM M i j v):=by
 refine⟨by unfold setM;rw [zba1];exact S.len,fun r hr=>?_⟩
 rcases List.mem_or_eq_of_mem_set hr with w | w
 ·exact S.row r w
 ·rw [w,zba1];exact S.rowD hi
theorem zh1 {n:Nat}{M:List (List Int)} (S:Sq n M) {i j:Nat} (v:Int) (hi:i<n) (hj:j<n) (a b:Nat):((setM M i j v).getD a []).getD b 0=if a=i∧b=j then v else (M.getD a []).getD b 0:=by
 unfold setM
 have hl:i<M.length:=by rw [S.len];exact hi
 have hr:=S.rowD hi
 by_cases e:a=i
 ·subst e
  have e1:(M.set a ((M.getD a []).set j v)).getD a []=(M.getD a []).set j v:=by
   rw [zar7,zax6 hl];rfl
  rw [e1]
  by_cases f:b=j
  ·subst f
   rw [if_pos ⟨rfl,rfl⟩,zar7,zax6 (by rw [hr];exact hj)];rfl
  ·rw [if_neg fun w=>f w.2,zar7,zax1 (fun w=>f w.symm), ← zar7]
 ·rw [if_neg fun w=>e w.1]
  have e1:(M.set i ((M.getD i []).set j v)).getD a []=M.getD a []:=by
   rw [zar7,zax1 (fun w=>e w.symm), ← zar7]
  rw [e1]
theorem zak1:∀xs:List Int,(xs.map D.int).all scD=true
 |[]=>rfl
 |x::xs=>by simp only [zas1,zau0,zak1 xs];rfl
theorem zaa0 {t:Th}{fi fk fv:DE}{s:Nat}{n i j:Nat}{M:List (List Int)}{v:Int}{ri rk rv:Ev} (S:Sq n M) (hv:fv t=some rv) (ev:rv.d=.int v) (hi:fi t=some ri) (ei:ri.d=.int (i:Int)) (hk:fk t=some rk) (ek:rk.d=.int (j:Int)) (hs:t[s]?=some (.dp (mD M))) (il:i<n) (jl:j<n):zab8 s [fi] fk fv t=some (.nx (t.set s (.dp (mD (setM M i j v))))):=by
 have hl:i<M.length:=by rw [S.len];exact il
 have hr:=S.rowD il
 have hx:(M.map rwD)[i]?=some (rwD (M.getD i [])):=by
  rw [zat7,zar7,zar5 hl];rfl
 have ixn:ixN (M.map rwD).length (i:Int)=some i:=zt2 _ i (by rw [zas7];exact hl)
 have ga:getP (mD M) [(i:Int)]=some (.lst ((M.getD i []).map D.int)):=by
  unfold mD getP atI
  rw [ixn]
  simp only [zar2,hx]
  rfl
 have pu:putP (mD M) [(i:Int)] (.lst (((M.getD i []).map D.int).set j (.int v)))=some (mD (setM M i j v)):=by
  unfold mD putP
  rw [ixn]
  simp only [zar2,hx]
  simp only [putP,zau4]
  unfold setM
  rw [← zbf0 (f:=D.int),zbf0 (f:=rwD)]
  rfl
 unfold zab8
 rw [hv,hk]
 simp only [pthD,hi,zar2,ei,zau4]
 unfold kSetP
 rw [hs]
 simp only [ga,ek,ev]
 have cc:(((M.getD i []).map D.int).all scD&&scD (D.int v))=true:=by rw [zak1];rfl
 rw [if_pos cc,zas7,zt2 _ j (by rw [hr];exact jl)]
 simp only [zar2,pu,zau4]
theorem zaf0 {n:Nat}{x:Int} (h:x∈ze8 n):0≤x∧x<(n:Int):=by
 obtain⟨i,hi⟩:=List.mem_iff_getElem?.mp h
 obtain⟨q,l⟩:=zal8 hi
 lia
theorem zaj9:∀ {l C:List Int},l.Nodup→(∀x∈l,x∈C)→l.length≤C.length
 |[],C,_,_=>zbd7 _
 |x::l,C,nd,h=>by
  rw [zat3]at nd
  have hx:=h x (zar4 ..)
  have:=zaj9 (l:=l) (C:=C.erase x) nd.2 fun y hy=>(zaz8 (fun e=>nd.1 (by rw [← e];exact hy))).mpr (h y (zar1 _ hy))
  rw [zax2 hx]at this
  have:=zbc1 hx
  simp only [zau3]
  lia
theorem rng_is {f:DE}{t:Th}{n:Nat} (hf:f t=some (.cl (.int (n:Int)))) (hn:n≤50000):fsR1 f t=some (true,(ze8 n).map D.int):=by
 unfold fsR1
 rw [hf]
 simp only [zar2,Ev.d]
 rw [if_pos (by unfold bigI;exact decide_eq_true (by lia)),zbb8]
 congr 2
 unfold rngD ze8
 simp
structure CIn (n:Nat) (C:List Int):Prop where
 ne:0<C.length
 rg:∀x∈C,0≤x∧x<(n:Int)
def dV (P:List Int) (V:Int→Int):D:=.dct (P.map Sum.inl) (P.map fun p=>.int (V p))
def ltr (n:Int):Nat→List Int→Int→Int
 |_,[],_=>n
 |i,x::xs,p=>if x=p then (i:Int) else ltr n (i+1) xs p
def Fo (v:Int→Int) (p q:Int):Prop:=v q<v p∨(v q=v p∧p≤q)
theorem for_I {k:D→Th→Option Th}{b:DS}{f:Nat→D}{P:Nat→Th→Prop}{n:Nat} (hb:∀x,x<n→∀t,P x t→∃t1 t2,k (f x) t=some t1∧b t1=some (.nx t2)∧P (x+1) t2):∀(m i:Nat) (t:Th),i+m=n→P i t→∃t',forD k b ((List.range' i m).map f) t=some (.nx t')∧P n t'
 |0,i,t,e,h=>⟨t,rfl,by rw [← e];exact h⟩
 |m+1,i,t,e,h=>by
  obtain⟨t1,t2,e1,e2,h2⟩:=hb i (by lia) t h
  obtain⟨t',e3,h'⟩:=for_I hb m (i+1) t2 (by lia) h2
  refine⟨t',?_,h'⟩
  rw [List.range'_succ,zas1]
  simp only [forD,e1,e2,zar2,e3]
theorem for_I0 {k:D→Th→Option Th}{b:DS}{f:Nat→D}{P:Nat→Th→Prop}{n:Nat} (hb:∀x,x<n→∀t,P x t→∃t1 t2,k (f x) t=some t1∧b t1=some (.nx t2)∧P (x+1) t2) (t:Th) (h:P 0 t):∃t',forD k b ((zat6 n).map f) t=some (.nx t')∧P n t':=by
 have:=for_I hb n 0 t (by lia) h
 rwa [List.range_eq_range']
def DI (n:Int) (P:List Int) (V:Int→Int) (i:Nat) (ps:List Int):Prop := ∀q,(if q∈P then V q else n)=ltr n i (ps.drop i) q
structure Pol (room:Nat) (K:List Int) (x:Int) (K':List Int):Prop where
 has:x∈K'
 hit:x∈K→∀q,q∈K'↔q∈K
 old:∀q∈K',q=x∨q∈K
 nd:K'.Nodup
 len:K'.length≤room
inductive Rn (room:Nat):List Int→List Int→Nat→Prop
 |nil (K:List Int):Rn room K [] 0
 |cons {K K' xs:List Int}{x:Int}{m:Nat}:Pol room K x K'→Rn room K' xs m→Rn room K (x::xs) ((if x∈K then 0 else 1)+m)
def addP (P:List Int) (p:Int):List Int:=if p∈P then P else P++[p]
end KX
set_option maxHeartbeats 1000000
namespace KX
section
variable {w:Int→Int→Int}
abbrev Ed:=Int×Int
inductive Cn (S:List Int) (F:List Ed):Int→Prop
 |base {v:Int}:v∈S→Cn S F v
 |fw {u v:Int}:(u,v)∈F→Cn S F u→Cn S F v
 |bw {u v:Int}:(v,u)∈F→Cn S F u→Cn S F v
theorem Cn.trans {S:List Int}{G:List Ed}{x u v:Int} (h:Cn (S++[u]) G v) (k:Cn (S++[x]) G u):Cn (S++[x]) G v:=by
 induction h with
 |@base v m =>
  rcases zar3.mp m with z | z
  ·exact .base (zar0 _ z)
  ·rw [zas2.mp z];exact k
 |fw e _ ih=>exact .fw e ih
 |bw e _ ih=>exact .bw e ih
theorem Cn.keep {S:List Int}{F:List Ed}{x v:Int}{e:Ed}{a b:Int} (h:Cn S F v) (he:e=(a,b)∨e=(b,a)) (ha:a∈S) (hb:Cn (S++[x]) (F.erase e) b):Cn (S++[x]) (F.erase e) v:=by
 induction h with
 |base m=>exact .base (zar0 _ m)
 |@fw u v m _ ih =>
  by_cases c:(u,v)=e
  ·rcases he with q | q
   ·rw [q]at c;injection c with c1 c2;exact c2 ▸ hb
   ·rw [q]at c;injection c with c1 c2;exact .base (zar0 _ (c2 ▸ ha))
  ·exact .fw ((zaz8 c).mpr m) ih
 |@bw u v m _ ih =>
  by_cases c:(v,u)=e
  ·rcases he with q | q
   ·rw [q]at c;injection c with c1 c2;exact .base (zar0 _ (c1 ▸ ha))
   ·rw [q]at c;injection c with c1 c2;exact c1 ▸ hb
  ·exact .bw ((zaz8 c).mpr m) ih
inductive Prim (w:Int→Int→Int):List Int→List Int→List Ed→Prop
 |nil {S:List Int}:Prim w S [] []
 |cons {S U:List Int}{p x:Int}{T:List Ed}:p∈S→x∈U→(∀a∈S,∀b∈U,w p x≤w a b)→Prim w (S++[x]) (U.erase x) T→Prim w S U ((p,x)::T)
end
end KX
namespace KX
section
variable {w:Int→Int→Int}
noncomputable def trav (ch:Int→List Int):Nat→List Int→List Int×List Int
 |0,st=>([],st)
 |_+1,[]=>([],[])
 |n+1,q::st=>(q ::(trav ch n (ch q++st)).1,(trav ch n (ch q++st)).2)
theorem zv7 (ch:Int→List Int):∀(n:Nat) (st:List Int),((trav ch n st).1++(trav ch n st).2).Perm (st++(trav ch n st).1.flatMap ch)
 |0,st=>by simp [trav]
 |n+1,[]=>by simp [trav]
 |n+1,q::st=>by
  have ih:=zv7 ch n (ch q++st)
  show (q ::((trav ch n (ch q++st)).1++(trav ch n (ch q++st)).2)).Perm (q ::(st++(ch q++(trav ch n (ch q++st)).1.flatMap ch)))
  refine List.Perm.cons q (ih.trans ?_)
  rw [← zax3]
  exact List.Perm.append_right _ List.perm_append_comm
theorem zad4 (ch:Int→List Int):∀(n:Nat) (st:List Int),(trav ch n st).2=[]∨(trav ch n st).1.length=n
 |0,st=>.inr rfl
 |n+1,[]=>.inl rfl
 |n+1,q::st=>by
  rcases zad4 ch n (ch q++st) with h | h
  ·exact .inl h
  ·exact .inr (by show ((trav ch n (ch q++st)).1.length+1)=_;rw [h])
inductive Grown:List Int→List Ed→Prop
 |nil {S:List Int}:Grown S []
 |cons {S:List Int}{p x:Int}{T:List Ed}:p∈S→x∉S→Grown (S++[x]) T→Grown S ((p,x)::T)
theorem zah4 {S U:List Int}{T:List Ed} (h:Prim w S U T):U.Nodup→(∀v∈U,v∉S)→Grown S T∧(T.map (·.2)).Perm U:=by
 induction h with
 |nil=>exact fun _ _=>⟨.nil,List.Perm.refl _⟩
 |@cons S U p x T hp hx _ _ ih =>
  intro nd hd
  obtain⟨g,q⟩:=ih (nd.erase x) (fun v hv z=>by
   have hv':=(List.Nodup.mem_erase_iff nd).mp hv
   rcases zar3.mp z with q | q
   ·exact hd v hv'.2 q
   ·exact hv'.1 (zas2.mp q))
  exact⟨.cons hp (hd x hx) g,(List.Perm.cons x q).trans (List.perm_cons_erase hx).symm⟩
theorem Grown.new {S:List Int}{T:List Ed} (h:Grown S T):(∀e∈T,e.2∉S)∧(T.map (·.2)).Nodup:=by
 induction h with
 |nil=>exact⟨(fun e he=>nomatch he),zav4⟩
 |@cons S p x T hp hx _ ih =>
  obtain⟨i1,i2⟩:=ih
  refine⟨fun e he=>?_,?_⟩
  ·rcases zar8.mp he with rfl | he
   ·exact hx
   ·exact fun z=>i1 e he (zar0 _ z)
  ·rw [zas1]
   refine zat3.mpr ⟨fun z=>?_,i2⟩
   obtain⟨e,he,ee⟩:=zau7.mp z
   exact i1 e he (zaq8 _ (zas2.mpr ee))
end
end KX
namespace KX
section
variable {w:Int→Int→Int}
structure Hng (T:List Ed) (ch:Int→List Int):Prop where
 p:∀u,(ch u).Perm ((T.filter fun e=>decide (e.1=u)).map (·.2))
theorem Hng.mem {T:List Ed}{ch:Int→List Int} (h:Hng T ch) {u x:Int}:x∈ch u↔(u,x)∈T:=by
 rw [(h.p u).mem_iff,zau7]
 constructor
 ·rintro ⟨e,he,rfl⟩
  have:=zaz1.mp he
  have e1:e.1=u:=by simpa using this.2
  rw [← e1];exact this.1
 ·intro m
  exact⟨(u,x),zaz1.mpr ⟨m,by simp⟩,rfl⟩
theorem new_uniq {T:List Ed} (nd:(T.map (·.2)).Nodup):∀ {p q x:Int},(p,x)∈T→(q,x)∈T→p=q:=by
 induction T with
 |nil=>intro p q x h;cases h
 |cons e T ih =>
  intro p q x h1 h2
  rw [zas1]at nd
  obtain⟨n1,n2⟩:=zat3.mp nd
  rcases zar8.mp h1 with z1 | z1<;>rcases zar8.mp h2 with z2 | z2
  ·rw [← z1]at z2;injection z2 with z2 _;exact z2.symm
  ·exact absurd (zau7.mpr ⟨_,z2,by rw [← z1]⟩) n1
  ·exact absurd (zau7.mpr ⟨_,z1,by rw [← z2]⟩) n1
  ·exact ih n2 z1 z2
theorem ch_nodup {T:List Ed}{ch:Int→List Int} (h:Hng T ch) (nd:(T.map (·.2)).Nodup) (u:Int):(ch u).Nodup:=by
 rw [(h.p u).nodup_iff]
 exact nd.sublist ((List.filter_sublist).map _)
theorem zad6:∀ {l:List Int}{f:Int→Nat},(∀u∈l,f u=0)→(l.map f).sum=0
 |[],f,_=>rfl
 |a::l,f,h=>by
  rw [zas1,List.sum_cons,h a (zar4 ..),zad6 fun u hu=>h u (zar1 _ hu)]
theorem zaj7 (p:Int):∀ {l:List Int}{f:Int→Nat},f p=1→(∀u,u≠p→f u=0)→(l.map f).sum=l.count p
 |[],f,_,_=>rfl
 |a::l,f,h1,h0=>by
  rw [zas1,List.sum_cons,zaj7 p h1 h0,zbc8]
  by_cases c:a=p
  ·rw [c,h1];simp;lia
  ·rw [h0 a c];simp [c]
theorem cnt_new {T:List Ed}{ch:Int→List Int} (h:Hng T ch) (nd:(T.map (·.2)).Nodup) {p x:Int} (m:(p,x)∈T) (l:List Int):(l.flatMap ch).count x=l.count p:=by
 rw [zbe0]
 refine zaj7 p ?_ fun u hu=>?_
 ·exact Nat.le_antisymm (zbd2.mp (ch_nodup h nd p) x) (zay0.mpr (h.mem.mpr m))
 ·exact zba5.mpr fun z=>hu (new_uniq nd (h.mem.mp z) m)
theorem zap6 {T:List Ed}{ch:Int→List Int} (h:Hng T ch) {x:Int} (m:∀p,(p,x)∉T) (l:List Int):(l.flatMap ch).count x=0:=by
 rw [zbe0]
 exact zad6 fun u _=>zba5.mpr fun z=>m u (h.mem.mp z)
theorem zx8 {P:Int→Prop}{S:List Int}{T:List Ed} (h:Grown S T):(∀v∈S,P v)→(∀e∈T,P e.1→P e.2)→∀e∈T,P e.2:=by
 induction h with
 |nil=>exact fun _ _ e he=>nomatch he
 |@cons S p x T hp hx _ ih =>
  intro h1 h2 e he
  have px:P x:=h2 (p,x) (zar4 ..) (h1 p hp)
  rcases zar8.mp he with rfl | he
  ·exact px
  ·refine ih (fun v hv=>?_) (fun e he=>h2 e (zar1 _ he)) e he
   rcases zar3.mp hv with z | z
   ·exact h1 v z
   ·rw [zas2.mp z];exact px
theorem zp3 {T:List Ed}{ch:Int→List Int} (g:Grown [0] T) (h:Hng T ch) {n:Nat} (hn:T.length+2≤n):(trav ch n [0]).2=[]∧(trav ch n [0]).1.Perm (0::T.map (·.2)):=by
 obtain⟨g1,nd⟩:=g.new
 have pm:=zv7 ch n [0]
 have n0:∀p,(p,(0:Int))∉T:=fun p z=>g1 _ z (by simp)
 have c0:((trav ch n [0]).1++(trav ch n [0]).2).count 0=1:=by
  rw [pm.count_eq,zaw0,zap6 h n0];simp
 have cn:∀ {p x:Int},(p,x)∈T→((trav ch n [0]).1++(trav ch n [0]).2).count x=(trav ch n [0]).1.count p:=fun {p x} m=>by
  have nx:x≠0:=fun z=>n0 p (z ▸ m)
  rw [pm.count_eq,zaw0,cnt_new h nd m]
  simp [zbc8,Ne.symm nx]
 have le1:∀e∈T,(trav ch n [0]).1.count e.2≤1:=zx8 (P:=fun v=>(trav ch n [0]).1.count v≤1) g (fun v hv=>by
  rw [zas2.mp hv]
  rw [zaw0]at c0;lia) (fun e he hp=>by
  have:=cn (p:=e.1) (x:=e.2) he
  rw [zaw0]at this;lia)
 have zero:∀v,v∉(0::T.map (·.2))→(trav ch n [0]).1.count v=0:=fun v hv=>by
  have q:((trav ch n [0]).1++(trav ch n [0]).2).count v=0:=by
   rw [pm.count_eq,zaw0,zap6 h (fun p z=>hv (zar1 _ (zau7.mpr ⟨_,z,rfl⟩)))]
   have:v≠0:=fun z=>hv (by rw [z];exact zar4 ..)
   simp [zbc8,Ne.symm this]
  rw [zaw0]at q;lia
 have ndl:(trav ch n [0]).1.Nodup:=zbd2.mpr fun v=>by
  by_cases c:v∈(0::T.map (·.2))
  ·rcases zar8.mp c with z | z
   ·rw [z];rw [zaw0]at c0;lia
   ·obtain⟨e,he,rfl⟩:=zau7.mp z
    exact le1 e he
  ·rw [zero v c];lia
 have sub:∀v∈(trav ch n [0]).1,v∈(0::T.map (·.2)):=fun v hv=>Classical.byContradiction fun c=>by
  have:=zero v c
  exact absurd hv (zba5.mp this)
 have len:=zaj9 ndl sub
 rw [zau3,zas7]at len
 have fin:(trav ch n [0]).2=[]:=by
  rcases zad4 ch n [0] with z | z
  ·exact z
  ·lia
 refine⟨fin,?_⟩
 rw [fin,zau6]at c0
 have cn':∀ {p x:Int},(p,x)∈T→(trav ch n [0]).1.count x=(trav ch n [0]).1.count p:=fun {p x} m=>by
  have:=cn m
  rw [fin,zau6]at this;exact this
 have all:∀e∈T,e.2∈(trav ch n [0]).1:=zx8 (P:=fun v=>v∈(trav ch n [0]).1) g (fun v hv=>by
  rw [zas2.mp hv]
  exact zay0.mp (by lia)) (fun e he hp=>by
  refine zay0.mp ?_
  rw [cn' (p:=e.1) (x:=e.2) he]
  exact zay0.mpr hp)
 refine (List.perm_ext_iff_of_nodup ndl (zat3.mpr ⟨fun z=>?_,nd⟩)).mpr fun v=>⟨sub v,fun hv=>?_⟩
 ·obtain⟨e,he,ee⟩:=zau7.mp z
  exact g1 e he (by rw [ee];simp)
 ·rcases zar8.mp hv with z | z
  ·rw [z];exact zay0.mp (by lia)
  ·obtain⟨e,he,rfl⟩:=zau7.mp z
   exact all e he
def Lw (w:Int→Int→Int) (ht:Int→Int) (p a:Int):Prop:=w p a≤ht p - ht a
theorem Lw.trans (tr:∀a b c,w a c≤w a b+w b c) {ht:Int→Int}{a b c:Int} (h:Lw w ht a b) (k:Lw w ht b c):Lw w ht a c:=by
 have:=tr a b c
 unfold Lw at *
 lia
inductive Chn (w:Int→Int→Int) (T:List Ed) (ht:Int→Int):Int→List Int→Prop
 |nil {c:Int}:Chn w T ht c []
 |cons {c p q:Int}{st:List Int}:(p,q)∈T→Lw w ht c p→Chn w T ht p st→Chn w T ht c (q::st)
end
end KX
namespace KX
open PySem.Spec L2 DL
def wM (n:Nat) (M:List (List Int)) (a b:Int):Int:=(M.getD (a.toNat % n) []).getD (b.toNat % n) 0
theorem wM_is {n:Nat}{M:List (List Int)}{a b:Int} (a0:0≤a) (a1:a<(n:Int)) (b0:0≤b) (b1:b<(n:Int)):wM n M a b=gM M a b:=by
 unfold wM gM
 rw [Nat.mod_eq_of_lt (by lia),Nat.mod_eq_of_lt (by lia)]
abbrev tD (w:Int→Int→Int) (e:Ed):D:=.tup [.int (w e.1 e.2),.int e.1,.int e.2]
def Lq (w:Int→Int→Int) (e f:Ed):Prop:=w e.1 e.2<w f.1 f.2∨(w e.1 e.2=w f.1 f.2∧(e.1<f.1∨(e.1=f.1∧e.2≤f.2)))
theorem Lq.refl (w:Int→Int→Int) (e:Ed):Lq w e e:=.inr ⟨rfl,.inr ⟨rfl,zbg5 _⟩⟩
theorem Lq.trans {w:Int→Int→Int}{e f g:Ed} (h:Lq w e f) (k:Lq w f g):Lq w e g:=by
 unfold Lq at *
 lia
theorem Lq.le {w:Int→Int→Int}{e f:Ed} (h:Lq w e f):w e.1 e.2≤w f.1 f.2:=by
 unfold Lq at h
 lia
theorem cmp_tL (w:Int→Int→Int) (e f:Ed):∃b:Bool,cmpD false (tD w e) (tD w f)=some b∧(b=true→Lq w e f)∧(b=false→Lq w f e):=by
 refine⟨lexI false [w e.1 e.2,e.1,e.2] [w f.1 f.2,f.1,f.2],rfl,fun h=>?_,fun h=>?_⟩
 all_goals
  unfold Lq
  simp only [lexI,cmpI]at h
  by_cases z:w e.1 e.2=w f.1 f.2
  ·rw [decide_eq_true z,if_pos rfl]at h
   by_cases z1:e.1=f.1
   ·rw [decide_eq_true z1,if_pos rfl]at h
    by_cases z2:e.2=f.2
    ·lia
    ·rw [decide_eq_false z2]at h
     simp at h
     lia
   ·rw [decide_eq_false z1]at h
    simp at h
    lia
  ·rw [decide_eq_false z]at h
   simp at h
   lia
theorem zac8 (w:Int→Int→Int):∀(l:List Ed) (e:Ed),∃b:Ed,b∈e::l∧zz7 false (tD w e) (l.map (tD w))=some (tD w b)∧∀f∈e::l,Lq w b f
 |[],e=>⟨e,by simp,rfl,fun f hf=>by simp at hf;subst hf;exact Lq.refl w f⟩
 |d::l,e=>by
  obtain⟨c,ec,ct,cf⟩:=cmp_tL w d e
  cases c with
  |true =>
   obtain⟨b,m,eb,le⟩:=zac8 w l d
   refine⟨b,zar1 _ m,?_,fun f hf=>?_⟩
   ·show (cmpD false (tD w d) (tD w e)).bind _=_
    rw [ec];exact eb
   ·rcases zar8.mp hf with q | q
    ·subst q;exact (le d (by simp)).trans (ct rfl)
    ·exact le f q
  |false =>
   obtain⟨b,m,eb,le⟩:=zac8 w l e
   refine⟨b,?_,?_,fun f hf=>?_⟩
   ·rcases zar8.mp m with q | q
    ·exact zar8.mpr (.inl q)
    ·exact zar1 _ (zar1 _ q)
   ·show (cmpD false (tD w d) (tD w e)).bind _=_
    rw [ec];exact eb
   ·have b0:=le e (by simp)
    rcases zar8.mp hf with q | q
    ·subst q;exact b0
    ·rcases zar8.mp q with q | q
     ·subst q;exact b0.trans (cf rfl)
     ·exact le f (zar1 _ q)
theorem extL_of {f:DE}{t:Th}{r:Ev}{w:Int→Int→Int}{l:List Ed} (h:f t=some r) (hr:r.d=.lst (l.map (tD w))) (hl:l≠[]):∃b∈l,(∀f∈l,Lq w b f)∧(dT1 (zan2 false) (za2 f dNil)) t=some (.cl (tD w b)):=by
 cases l with
 |nil=>exact absurd rfl hl
 |cons e l =>
  obtain⟨b,m,eb,le⟩:=zac8 w l e
  refine⟨b,m,le,?_⟩
  rw [zs4 h]
  unfold zan2
  simp only [hr,zas1,eb,zar2]
  rfl
inductive PrimL (w:Int→Int→Int):List Int→List Int→List Ed→Prop
 |nil {S:List Int}:PrimL w S [] []
 |cons {S U:List Int}{p x:Int}{T:List Ed}:p∈S→x∈U→(∀a∈S,∀b∈U,Lq w (p,x) (a,b))→PrimL w (S++[x]) (U.erase x) T→PrimL w S U ((p,x)::T)
theorem PrimL.prim {w:Int→Int→Int}{S U:List Int}{T:List Ed} (h:PrimL w S U T):Prim w S U T:=by
 induction h with
 |nil=>exact .nil
 |cons hp hx hm _ ih=>exact .cons hp hx (fun a ha b hb=>(hm a ha b hb).le) ih
theorem ranks {S:List Int}{T:List Ed} (h:Grown S T):∃rk:Int→Nat,(∀v∈S,rk v=T.length)∧∀e∈T,rk e.2<rk e.1:=by
 induction h with
 |@nil S=>exact⟨fun _=>0,fun _ _=>rfl,(fun _ he=>nomatch he)⟩
 |@cons S p x T hp hx g ih =>
  obtain⟨rk,h1,h2⟩:=ih
  have nw:=(Grown.new g).1
  refine⟨fun v=>if v∈S then T.length+1 else rk v,fun v hv=>by simp [hv],fun e he=>?_⟩
  have ge:∀v,rk v≤(if v∈S then T.length+1 else rk v):=fun v=>by
   by_cases c:v∈S
   ·rw [if_pos c,h1 v (zar0 _ c)];lia
   ·rw [if_neg c];exact zat4 _
  rcases zar8.mp he with rfl | he
  ·show (if x∈S then T.length+1 else rk x)<(if p∈S then T.length+1 else rk p)
   rw [if_neg hx,if_pos hp,h1 x (zaq8 _ (zas2.mpr rfl))]
   lia
  ·have n2:e.2∉S:=fun z=>nw e he (zar0 _ z)
   have:=h2 e he
   have:=ge e.1
   show (if e.2∈S then T.length+1 else rk e.2)<(if e.1∈S then T.length+1 else rk e.1)
   rw [if_neg n2]
   lia
def pre (ch:Int→List Int):Nat→Int→List Int
 |0,_=>[]
 |n+1,v=>v ::(ch v).flatMap (pre ch n)
theorem zae3 {ch:Int→List Int}{rk:Int→Nat} (h:∀v,∀c∈ch v,rk c<rk v):∀(n:Nat) (v:Int),rk v<n→pre ch n v=pre ch (n+1) v
 |0,v,hv=>by lia
 |n+1,v,hv=>by
  show v ::(ch v).flatMap (pre ch n)=v ::(ch v).flatMap (pre ch (n+1))
  congr 1
  have:∀l:List Int,(∀c∈l,rk c<n)→l.flatMap (pre ch n)=l.flatMap (pre ch (n+1)):=by
   intro l
   induction l with
   |nil=>exact fun _=>rfl
   |cons c l ih =>
    intro hl
    rw [zaw1,zaw1,zae3 h n c (hl c (zar4 ..)),ih fun x hx=>hl x (zar1 _ hx)]
  exact this (ch v) fun c hc=>by have:=h v c hc;lia
theorem zad3 {ch:Int→List Int}{rk:Int→Nat} (h:∀v,∀c∈ch v,rk c<rk v) {n:Nat}:∀(f:Nat) (st:List Int),(trav ch f st).2=[]→(∀x∈st,rk x<n)→(trav ch f st).1=st.flatMap (pre ch n)
 |0,st,e,_=>by
  have:st=[]:=e
  subst this
  rfl
 |f+1,[],_,_=>rfl
 |f+1,q::st,e,hs=>by
  have rq:=hs q (zar4 ..)
  have ih:=zad3 h (n:=n) f (ch q++st) e (fun x hx=>by
   rcases zar3.mp hx with z | z
   ·have:=h q x z;lia
   ·exact hs x (zar1 _ z))
  show q ::(trav ch f (ch q++st)).1=_
  rw [ih,List.flatMap_append,zaw1,zae3 h n q rq]
  rfl
end KX
set_option maxHeartbeats 4000000
namespace KX
open PySem.Spec L2 DL
def dctP (P:List Int):D:=.dct (P.map Sum.inl) (P.map fun _=>.bl true)
theorem zao0 (p:Int):∀P:List Int,hasK (P.map Sum.inl) (Sum.inl p)=decide (p∈P)
 |[]=>rfl
 |q::P=>by
  have i:=zao0 p P
  unfold hasK at i ⊢
  rw [zas1,zaw2,i]
  by_cases h:q=p
  ·subst h;simp
  ·have h' : ¬ (Sum.inl q:Key)=Sum.inl p:=fun z=>h (by injection z)
   have : ¬ p=q:=fun z=>h z.symm
   rw [decide_eq_false h']
   simp [this]
theorem zad2 (p:Int):∀P:List Int,zbd1 (fun (k':Key) d'=>if k'=Sum.inl p then D.bl true else d') (P.map Sum.inl) (P.map fun _=>D.bl true)=P.map fun _=>D.bl true
 |[]=>rfl
 |q::P=>by
  simp only [zas1,zaz4,zad2 p P]
  split<;>rfl
theorem put_P (P:List Int) (p:Int):D.dct (zn0 (P.map Sum.inl) (P.map fun _=>.bl true) (Sum.inl p) (.bl true)).1 (zn0 (P.map Sum.inl) (P.map fun _=>.bl true) (Sum.inl p) (.bl true)).2=dctP (addP P p):=by
 unfold zn0 addP
 rw [zao0]
 by_cases h:p∈P
 ·rw [decide_eq_true h,if_pos rfl,if_pos h]
  show D.dct (P.map Sum.inl) (zbd1 _ _ _)=_
  rw [zad2]
  rfl
 ·rw [decide_eq_false h,if_neg (by decide),if_neg h]
  unfold dctP
  simp
theorem all_sc:∀P:List Int,(P.map fun _=>D.bl true).all scD=true
 |[]=>rfl
 |_::P=>by simp only [zas1,zau0,all_sc P];rfl
theorem dputP_of {t:Th}{i:Nat}{fk fv:DE}{P:List Int}{p:Int} (hv:fv t=some (.cl (.bl true))) (hk:fk t=some (.cl (.int p))) (hi:t[i]?=some (.dp (dctP P))) (hl:P.length<1000):zap2 i fk fv t=some (.nx (t.set i (.dp (dctP (addP P p))))):=by
 unfold zap2
 rw [hv,hk]
 show zan4 t i (.cl (.bl true)) (.cl (.int p))=_
 unfold zan4
 rw [hi]
 show (if (P.map fun _=>D.bl true).all scD&&scD (.bl true)&&decide ((P.map Sum.inl).length<100000) then some (Out.nx (t.set i (.dp (.dct (zn0 (P.map Sum.inl) (P.map fun _=>.bl true) (Sum.inl p) (.bl true)).1 (zn0 (P.map Sum.inl) (P.map fun _=>.bl true) (Sum.inl p) (.bl true)).2)))) else none)=_
 rw [if_pos (by rw [all_sc];simp [scD];lia),put_P]
end KX
set_option maxHeartbeats 1000000
namespace KX
open PySem.Spec L2 DL
theorem zag0 (n:Nat):∀xs ys:List Int,eqOk (n+1) (.lst (xs.map D.int)) (.lst (ys.map D.int))=true
 |[],ys=>by cases ys<;>rfl
 |x::xs,[]=>rfl
 |x::xs,y::ys=>by
  have h:=zag0 n xs ys
  simp only [eqOk]at h ⊢
  simp only [zas1,zax0,zau0,h,zaw3]
  cases n<;>rfl
theorem zam1:∀ {xs ys:List Int},xs.map D.int=ys.map D.int→xs=ys
 |[],[],_=>rfl
 |[],_::_,h=>by cases h
 |_::_,[],h=>by cases h
 |x::xs,y::ys,h=>by
  simp only [zas1,List.cons.injEq,D.int.injEq]at h
  rw [h.1,zam1 h.2]
theorem eqD_ints (xs ys:List Int):eqD (.lst (xs.map D.int)) (.lst (ys.map D.int))=decide (xs=ys):=by
 by_cases h:xs=ys
 ·subst h;rw [zn9,decide_eq_true rfl]
 ·rw [decide_eq_false h]
  exact eqD_false.mpr fun z=>h (zam1 (by injection z))
theorem nel_of {fa fb:DE}{t:Th}{r1 r2:Ev} (xs ys:List Int) (ha:fa t=some r1) (hb:fb t=some r2) (h1:r1.d=.lst (xs.map D.int)) (h2:r2.d=.lst (ys.map D.int)):dBo (d2 kNe fa fb) t=some (!decide (xs=ys)):=by
 unfold dBo
 rw [zg1 ha hb]
 unfold kNe
 rw [h1,h2,if_pos (zag0 5 xs ys),eqD_ints]
 rfl
end KX
set_option maxHeartbeats 4000000
namespace KX
open PySem.Spec L2 DL
def top (i:Nat):Stmt:=PySem.Challenge.pw_nearenough_k19_tree_and_tour.main.body.getD i (.Pass ⟨0,0,0,0⟩)
abbrev zh2:Stmt:=top 1
abbrev zi7:Stmt:=top 2
abbrev zf0:Stmt:=top 3
abbrev zk8:Stmt:=top 5
abbrev zi9:Stmt:=top 6
abbrev zm9:Stmt:=top 7
abbrev zi8:Stmt:=top 8
abbrev zf8:Stmt:=top 9
abbrev zf1:Stmt:=top 10
abbrev s_law:Stmt:=top 11
structure Blt (mg:Str→Option Value):Prop where
 n_bool:mg "bool"=none
 n_isinstance:mg "isinstance"=none
 n_len:mg "len"=none
 n_list:mg "list"=none
 n_min:mg "min"=none
 n_range:mg "range"=none
 n_sorted:mg "sorted"=none
 n_tuple:mg "tuple"=none
variable {P:Program}{w:World}{K:zaq9}{mg:Str→Option Value}{base:BHeap}{ad:Addr}{fd:FuncData}
theorem zu3:FnScope ["roads", "inside", "outside", "tree", "shortest", "place", "new"] ["roads"] (zb6 zh2):=zs5 rfl rfl rfl rfl (by decide +kernel)
def feG:DE:=(dT1 kTup (za2 (d2 kIx (d2 kIx (dVar 3) (dVar 0)) (dVar 1)) (za2 (dVar 0) (za2 (dVar 1) dNil))))
noncomputable def bdG:DS:=(dSeq (dAsg 4 (dT1 (zan2 false) (za2 (zt6 2 [2,0] (fsL (dVar 1)) (za3 0) zd9 (fsL (dVar 2)) (za3 1) zd9 feG) dNil)))
  (dSeq (dPar 5 6 (za2 (d2 kIx (dVar 4) (dC (.int 1))) (za2 (d2 kIx (dVar 4) (dC (.int 2))) dNil)))
  (dSeq (dApp 3 (dT1 kTup (za2 (dVar 5) (za2 (dVar 6) dNil))))
  (dSeq (dApp 1 (dVar 6))
  (dRem 2 (dVar 6))))))
noncomputable def zk2:DS :=
 (dSeq (dAsg 1 (dT1 kLst (za2 (dC (.int 0)) dNil))) (dSeq (dAsg 2 (zy5 (za2 (dC (.int 1)) (za2 (dT1 kLen (za2 (dVar 0) dNil)) dNil)))) (dSeq (dAsg 3 (dT1 kLst dNil)) (dSeq (zy4 (fun _=>60) (dTr (dVar 2)) bdG) (zab9 3)))))
def zh7:List D→Option Ev:=mkG 1 ["roads", "inside", "outside", "tree", "shortest", "place", "new"] zk2
theorem zu7 (Fn:L2.Fun K "grown_tree" "grown_tree" zh2 ad fd) (bu:Blt mg) :FnOk P w K mg base CX0 1 ad fd ["roads"] (spD K zh7):=by
 have SC:=zu3
 refine zk3 (k:=0) Fn SC (fun _ _ e=>zi0 e) zk2 (fun _ _ e=>zl7 e) (fun cdv A outer s H E F hr=>?_)
 refine za5 ?_ ?_
 ·exact (zb8 (i:=1) SC.nd rfl (zb2 rfl) (ze2 (za1 za4 za6)))
 refine za5 ?_ ?_
 ·exact (zb8 (i:=2) SC.nd rfl (zb2 rfl) (zal4 rfl rfl bu.n_list rfl bu.n_range (za1 za4 (za1 (zd0 zk6 rfl bu.n_len PySem.boot_len (za1 (za0 0) za6)) za6))))
 refine za5 ?_ ?_
 ·exact (zb8 (i:=3) SC.nd rfl (zb2 rfl) (ze2 za6))
 refine za5 ?_ ?_
 ·exact (zw3 (fun _=>60) PassesOwn.never (zj8 (za0 2)) (za5 (zb8 (i:=4) SC.nd rfl (zb2 rfl) (zd0 (cd_minT rfl hr.units) rfl bu.n_min (by decide +kernel) (za1 (zah5 2 [2,0] ["place", "new", "outside", "roads"] rfl (zn2 (za0 1)) (fun _ _ _ _ _=>(zc7 (i:=0) (show List.Nodup (["place", "new", "outside", "roads"]:List Str) by decide +kernel) rfl (zb2 rfl))) (fun _=>(zd2 0)) (fun _ _ _ _ _ _=>zk9) (fun _ _ _ _ _ _=>(zn2 (za0 2))) (fun _ _ _ _ _=>(zc7 (i:=1) (show List.Nodup (["place", "new", "outside", "roads"]:List Str) by decide +kernel) rfl (zb2 rfl))) (fun _=>(zd2 1)) (fun _ _ _ _ _ _=>zk9) (fun _ _ _ _ _ _=>(zj0 (za1 (zc9 (zc9 (za0 3) (za0 0)) (za0 1)) (za1 (za0 0) (za1 (za0 1) za6)))))) za6)))
  (za5 (psd_par (i:=5) (j:=6) rfl SC.nd rfl rfl (by decide) rfl rfl (za1 (zc9 (za0 4) za4) (za1 (zc9 (za0 4) za4) za6)) rfl)
  (za5 (zo2 3 (zj0 (za1 (za0 5) (za1 (za0 6) za6))))
  (za5 (zo2 1 (za0 6))
  (zb5 (psd_rem 2 (za0 6))))))))
 exact zb5 (zn1 3)
theorem zv9:FnScope ["many", "tree", "hung", "place", "new", "tour", "waiting"] ["many", "tree"] (zb6 zi7):=zs5 rfl rfl rfl rfl (by decide +kernel)
def bdD:DS:=(dSeq (dPop 3 6)
  (dSeq (dApp 5 (dVar 3))
  (dExt 6 (dT1 zt1 (za2 (d2 kIx (dVar 2) (dVar 3)) dNil)))))
noncomputable def zm2:DS :=
 (dSeq (dAsg 2 (zh5 1 [] (fsR1 (dVar 0)) (za3 0) zd9 (dT1 kLst dNil))) (dSeq (dFor (zj7 2 (zc5 (za3 3) (zc5 (za3 4) zl3))) (dVar 1) (zai5 2 [(dVar 3)] (dVar 4))) (dSeq (dAsg 5 (dT1 kLst dNil)) (dSeq (dAsg 6 (dT1 kLst (za2 (dC (.int 0)) dNil))) (dSeq (zy4 (fun _=>60) (dTr (dVar 6)) bdD) (zab9 5))))))
def ze9:List D→Option Ev:=mkG 2 ["many", "tree", "hung", "place", "new", "tour", "waiting"] zm2
theorem zw8 (Fn:L2.Fun K "tour_down" "tour_down" zi7 ad fd) (bu:Blt mg) :FnOk P w K mg base CX0 1 ad fd ["many", "tree"] (spD K ze9):=by
 have SC:=zv9
 refine zk3 (k:=0) Fn SC (fun _ _ e=>zi0 e) zm2 (fun _ _ e=>zl7 e) (fun cdv A outer s H E F hr=>?_)
 refine za5 ?_ ?_
 ·exact (zq4 (i:=2) 1 [] ["place"] SC.nd rfl (Or.inl rfl) rfl (zae6 rfl bu.n_range (za0 0)) (fun _ _ _ _ _=>(zc7 (i:=0) (show List.Nodup (["place"]:List Str) by decide +kernel) rfl (zb2 rfl))) (fun _=>(zd2 0)) (fun _ _ _ _ _ _=>zk9) (fun _ _ _ _ _ _=>(ze2 za6)))
 refine za5 ?_ ?_
 ·exact (zak8 PassesOwn.never rfl (za0 1) (zal2 rfl (zl0 (zc7 (i:=3) SC.nd rfl (zb2 rfl)) (zl0 (zc7 (i:=4) SC.nd rfl (zb2 rfl)) zaa4))) (tg_tup (zp4 (zd2 3) (zp4 (zd2 4) zaj3))) (zb5 (psd_appP 2 (pl_ix (zae5 2) (za0 3)) (za0 4))))
 refine za5 ?_ ?_
 ·exact (zb8 (i:=5) SC.nd rfl (zb2 rfl) (ze2 za6))
 refine za5 ?_ ?_
 ·exact (zb8 (i:=6) SC.nd rfl (zb2 rfl) (ze2 (za1 za4 za6)))
 refine za5 ?_ ?_
 ·exact (zw3 (fun _=>60) PassesOwn.never (zj8 (za0 6)) (za5 (psd_pop (i:=3) 6 SC.nd rfl (zb2 rfl))
  (za5 (zo2 5 (za0 3))
  (zb5 (psd_ext 6 (zaa5 rfl bu.n_sorted (zc9 (za0 2) (za0 3))))))))
 exact zb5 (zn1 5)
theorem zq2:FnScope ["roads", "tree"] ["roads"] (zb6 zf0):=zs5 rfl rfl rfl rfl (by decide +kernel)
noncomputable def zi3:DS :=
 (dSeq (dAsg 1 (dT1 (zc4 zh7) (za2 (dVar 0) dNil))) (zap1 (mTup (zab1 (mOf (dT1 (zc4 ze9) (za2 (dT1 kLen (za2 (dVar 0) dNil)) (za2 (dVar 1) dNil)))) (zab1 (mOwn 1) mNil)))))
def zc0:List D→Option Ev:=mkG 1 ["roads", "tree"] zi3
theorem zq9 (Fn:L2.Fun K "tour_by_tree" "tour_by_tree" zf0 ad fd) (bu:Blt mg) (c_grown_tree:Cal P w K mg base "grown_tree" 1 zh7) (c_tour_down:Cal P w K mg base "tour_down" 1 ze9):FnOk P w K mg base CX0 2 ad fd ["roads"] (spD K zc0):=by
 have SC:=zq2
 refine zk3 (k:=1) Fn SC (fun _ _ e=>zi0 e) zi3 (fun _ _ e=>zl7 e) (fun cdv A outer s H E F hr=>?_)
 refine za5 ?_ ?_
 ·exact (zb8 (i:=1) SC.nd rfl (zb2 rfl) (zc3 c_grown_tree (hr.mono (by decide)) (za1 (za0 0) za6)))
 exact zb5 (psd_retM (pm_tup (zae4 (fun _=>(pm_of (zc3 c_tour_down (hr.mono (by decide)) (za1 (zd0 zk6 rfl bu.n_len PySem.boot_len (za1 (za0 0) za6)) (za1 (za0 1) za6))))) (fun _=>(zae4 (fun _=>(pm_own 1)) (fun _=>pms_nil))))))
theorem zaa1:FnScope ["_law_script", "_law_k", "_law_number"] ["_law_script", "_law_k"] (zb6 zk8):=zs5 rfl rfl rfl rfl (by decide +kernel)
noncomputable def ze6:DS :=
 (dSeq (dIfS (dBo (d2 qL (dVar 1) (dT1 kLen (za2 (dVar 0) dNil)))) (dRet (d2 kIx (dVar 0) (dVar 1))) zj4) (dSeq (dAsg 2 (d2 qA (d2 qM (dVar 1) (dVar 1)) (dC (.int 7919)))) (dSeq (dIfS (dBo (d2 qG (dT1 kLen (za2 (dVar 0) dNil)) (dC (.int 0)))) (dAsg 2 (d2 qA (dVar 2) (d2 qR (d2 kIx (dVar 0) (d2 qR (d2 qM (dVar 1) (dC (.int 7))) (dT1 kLen (za2 (dVar 0) dNil)))) (dC (.int 2147483629))))) zj4) (dRet (d2 qR (d2 qM (dVar 2) (dVar 2)) (dC (.int 2147483629)))))))
def zb9:List D→Option Ev:=mkG 2 ["_law_script", "_law_k", "_law_number"] ze6
theorem zaa7 (Fn:L2.Fun K "_law_cell" "_law_cell" zk8 ad fd) (bu:Blt mg) :FnOk P w K mg base CX0 1 ad fd ["_law_script", "_law_k"] (spD K zb9):=by
 have SC:=zaa1
 refine zk3 (k:=0) Fn SC (fun _ _ e=>zi0 e) ze6 (fun _ _ e=>zl7 e) (fun cdv A outer s H E F hr=>?_)
 refine za5 ?_ ?_
 ·exact (zj5 (zc8 od_lt (za0 1) (zd0 zk6 rfl bu.n_len PySem.boot_len (za1 (za0 0) za6))) (zb5 (zg4 (zc9 (za0 0) (za0 1)))) zg5)
 refine za5 ?_ ?_
 ·exact (zb8 (i:=2) SC.nd rfl (zb2 rfl) (zb3 (od_add.or zf2) (zb3 (od_mul.or zn4) (za0 1) (za0 1)) za4))
 refine za5 ?_ ?_
 ·exact (zj5 (zc8 od_gt (zd0 zk6 rfl bu.n_len PySem.boot_len (za1 (za0 0) za6)) za4) (zb5 (zb8 (i:=2) SC.nd rfl (zb2 rfl) (zb3 (od_add.or zf2) (za0 2) (zb3 zg6 (zc9 (za0 0) (zb3 zg6 (zb3 (od_mul.or zn4) (za0 1) za4) (zd0 zk6 rfl bu.n_len PySem.boot_len (za1 (za0 0) za6)))) za4)))) zg5)
 exact zb5 (zg4 (zb3 zg6 (zb3 (od_mul.or zn4) (za0 2) (za0 2)) za4))
theorem zw1:FnScope ["_law_cell_here", "_law_k", "_law_number"] ["_law_cell_here", "_law_k"] (zb6 zi9):=zs5 rfl rfl rfl rfl (by decide +kernel)
noncomputable def zj2:DS :=
 (dSeq (dAsg 2 (d2 qR (d2 qM (d2 qA (d2 qA (d2 qA (d2 qR (dVar 0) (dC (.int 2147483629))) (d2 qM (d2 qM (dVar 1) (dVar 1)) (dC (.int 7919)))) (dVar 1)) (dC (.int 1))) (dC (.int 48271))) (dC (.int 2147483587)))) (dSeq (dAsg 2 (d2 qR (d2 qM (dVar 2) (dVar 2)) (dC (.int 2147483629)))) (dRet (d2 qR (d2 qM (d2 qA (dVar 2) (dVar 1)) (dC (.int 69621))) (dC (.int 2147483563))))))
def zd5:List D→Option Ev:=mkG 2 ["_law_cell_here", "_law_k", "_law_number"] zj2
theorem zx0 (Fn:L2.Fun K "_law_mixed" "_law_mixed" zi9 ad fd) (bu:Blt mg) :FnOk P w K mg base CX0 1 ad fd ["_law_cell_here", "_law_k"] (spD K zd5):=by
 have SC:=zw1
 refine zk3 (k:=0) Fn SC (fun _ _ e=>zi0 e) zj2 (fun _ _ e=>zl7 e) (fun cdv A outer s H E F hr=>?_)
 refine za5 ?_ ?_
 ·exact (zb8 (i:=2) SC.nd rfl (zb2 rfl) (zb3 zg6 (zb3 (od_mul.or zn4) (zb3 (od_add.or zf2) (zb3 (od_add.or zf2) (zb3 (od_add.or zf2) (zb3 zg6 (za0 0) za4) (zb3 (od_mul.or zn4) (zb3 (od_mul.or zn4) (za0 1) (za0 1)) za4)) (za0 1)) za4) za4) za4))
 refine za5 ?_ ?_
 ·exact (zb8 (i:=2) SC.nd rfl (zb2 rfl) (zb3 zg6 (zb3 (od_mul.or zn4) (za0 2) (za0 2)) za4))
 exact zb5 (zg4 (zb3 zg6 (zb3 (od_mul.or zn4) (zb3 (od_add.or zf2) (za0 2) (za0 1)) za4) za4))
theorem zah3:FnScope ["_law_cell_here", "_law_many", "_law_bounds", "_law_plain", "_law_found", "_law_k", "_law_bound"] ["_law_cell_here", "_law_many", "_law_bounds", "_law_plain"] (zb6 zm9):=zs5 rfl rfl rfl rfl (by decide +kernel)
noncomputable def bdRw:DS:=(dSeq (dAsg 6 (d2 kIx (dVar 2) (d2 qR (dVar 5) (dT1 kLen (za2 (dVar 2) dNil)))))
  (dIfS (dTr (dVar 3)) (dSeq (dApp 4 (d2 qR (dVar 0) (dVar 6)))
  (dAsg 0 (d2 qV (dVar 0) (dVar 6)))) (dApp 4 (d2 qR (dT1 (zc4 zd5) (za2 (dVar 0) (za2 (dVar 5) dNil))) (dVar 6)))))
def zr4:DS :=
 (dSeq (dAsg 4 (dT1 kLst dNil)) (dSeq (zg8 (za3 5) (dVar 1) bdRw) (zab9 4)))
noncomputable def zk7:List D→Option Ev:=mkG 4 ["_law_cell_here", "_law_many", "_law_bounds", "_law_plain", "_law_found", "_law_k", "_law_bound"] zr4
theorem zah6 (Fn:L2.Fun K "_law_row" "_law_row" zm9 ad fd) (bu:Blt mg) (c_law_mixed:Cal P w K mg base "_law_mixed" 1 zd5):FnOk P w K mg base CX0 2 ad fd ["_law_cell_here", "_law_many", "_law_bounds", "_law_plain"] (spD K zk7):=by
 have SC:=zah3
 refine zk3 (k:=1) Fn SC (fun _ _ e=>zi0 e) zr4 (fun _ _ e=>zl7 e) (fun cdv A outer s H E F hr=>?_)
 refine za5 ?_ ?_
 ·exact (zb8 (i:=4) SC.nd rfl (zb2 rfl) (ze2 za6))
 refine za5 ?_ ?_
 ·exact (zh3 PassesOwn.never rfl rfl bu.n_range (za0 1) (zc7 (i:=5) SC.nd rfl (zb2 rfl)) (zd2 5) (za5 (zb8 (i:=6) SC.nd rfl (zb2 rfl) (zc9 (za0 2) (zb3 zg6 (za0 5) (zd0 zk6 rfl bu.n_len PySem.boot_len (za1 (za0 2) za6)))))
  (zb5 (zj5 (zj8 (za0 3)) (za5 (zo2 4 (zb3 zg6 (za0 0) (za0 6)))
  (zb5 (zb8 (i:=0) SC.nd rfl (zb2 rfl) (zb3 zae7 (za0 0) (za0 6))))) (zb5 (zo2 4 (zb3 zg6 (zc3 c_law_mixed (hr.mono (by decide)) (za1 (za0 0) (za1 (za0 5) za6))) (za0 6))))))))
 exact zb5 (zn1 4)
theorem zw0:FnScope ["_law_script", "_law_start", "_law_many", "_law_plain", "_law_bound", "_law_roads_here", "_law_one", "_law_told", "_law_k", "_law_third", "_law_other", "_law_way"] ["_law_script", "_law_start", "_law_many"] (zb6 zi8):=zs5 rfl rfl rfl rfl (by decide +kernel)
def mR:DE:=(d2 qS (d2 qS (dVar 2) (dC (.int 1))) (dVar 6))
def pK:DE:=(d2 qA (d2 qA (dVar 6) (dC (.int 1))) (dVar 8))
def bdI1:DS:=(dSeq (zab8 5 [(dVar 6)] pK (d2 kIx (dVar 7) (dVar 8))) (zab8 5 [pK] (dVar 6) (d2 kIx (dVar 7) (dVar 8))))
noncomputable def bdO1:DS:=(dSeq (dAsg 7 (dT1 (zc4 zk7) (za2 (dT1 (zc4 zb9) (za2 (dVar 0) (za2 (d2 qA (d2 qA (dVar 1) (dC (.int 1))) (dVar 6)) dNil))) (za2 mR (za2 (dT1 kLst (za2 (dVar 4) dNil)) (za2 (dVar 3) dNil))))))
  (zg8 (za3 8) mR bdI1))
noncomputable def bdT1:DS:=(dSeq (dAsg 11 (d2 qA (d2 kIx (d2 kIx (dVar 5) (dVar 6)) (dVar 9)) (d2 kIx (d2 kIx (dVar 5) (dVar 9)) (dVar 10))))
  (dIfS (dBo (d2 qL (dVar 11) (d2 kIx (d2 kIx (dVar 5) (dVar 6)) (dVar 10)))) (zab8 5 [(dVar 6)] (dVar 10) (dVar 11)) zj4))
noncomputable def mxR:DE:=(dT1 kLst (za2 (dC (.int 4)) (za2 (dC (.int 30)) (za2 (dC (.int 1000)) (za2 (d2 qA (d2 (kI cPow fun i j=>.int (i ^ j.toNat)) (dC (.int 10)) (dC (.int 12))) (dC (.int 1))) dNil)))))
noncomputable def zm3:DS :=
 (dSeq (dAsg 3 (d2 kEq (d2 qR (dT1 (zc4 zb9) (za2 (dVar 0) (za2 (dVar 1) dNil))) (dC (.int 2))) (dC (.int 1)))) (dSeq (dAsg 4 (d2 kIx mxR (d2 qR (d2 qV (dT1 (zc4 zb9) (za2 (dVar 0) (za2 (dVar 1) dNil))) (dC (.int 2))) (dC (.int 4))))) (dSeq (dAsg 5 (zh5 1 [2] (fsR1 (dVar 2)) (za3 0) zd9 (d2 qM (dT1 kLst (za2 (dC (.int 0)) dNil)) (dVar 1)))) (dSeq (zg8 (za3 6) (dVar 2) bdO1) (dSeq (zg8 (za3 9) (dVar 2) (zg8 (za3 6) (dVar 2) (zg8 (za3 10) (dVar 2) bdT1))) (zab9 5))))))
noncomputable def ze5:List D→Option Ev:=mkG 3 ["_law_script", "_law_start", "_law_many", "_law_plain", "_law_bound", "_law_roads_here", "_law_one", "_law_told", "_law_k", "_law_third", "_law_other", "_law_way"] zm3
theorem zw9 (Fn:L2.Fun K "_law_roads" "_law_roads" zi8 ad fd) (bu:Blt mg) (c_law_cell:Cal P w K mg base "_law_cell" 1 zb9) (c_law_row:Cal P w K mg base "_law_row" 2 zk7):FnOk P w K mg base CX0 3 ad fd ["_law_script", "_law_start", "_law_many"] (spD K ze5):=by
 have SC:=zw0
 refine zk3 (k:=2) Fn SC (fun _ _ e=>zi0 e) zm3 (fun _ _ e=>zl7 e) (fun cdv A outer s H E F hr=>?_)
 refine za5 ?_ ?_
 ·exact (zb8 (i:=3) SC.nd rfl (zb2 rfl) (zaa6 (zah7 hr.units) (zb3 zg6 (zc3 c_law_cell (hr.mono (by decide)) (za1 (za0 0) (za1 (za0 1) za6))) za4) za4))
 refine za5 ?_ ?_
 ·exact (zb8 (i:=4) SC.nd rfl (zb2 rfl) (zc9 (by refine ze2 ?_;exact (by refine za1 ?_ ?_ ?_;exact za4;exact (by refine za1 ?_ ?_ ?_;exact za4;exact (by refine za1 ?_ ?_ ?_;exact za4;exact (by refine za1 ?_ ?_ ?_;exact (zb3 (od_add.or zf2) (zb3 od_pow za4 za4) za4);exact za6;exact (zf4 rfl));exact (zf4 rfl));exact (zf4 rfl));exact (zf4 rfl))) (zb3 zg6 (zb3 zae7 (zc3 c_law_cell (hr.mono (by decide)) (za1 (za0 0) (za1 (za0 1) za6))) za4) za4)))
 refine za5 ?_ ?_
 ·exact (zq4 (i:=5) 1 [2] ["_law_place", "_law_many"] SC.nd rfl (Or.inl rfl) rfl (zae6 rfl bu.n_range (za0 2)) (fun _ _ _ _ _=>(zc7 (i:=0) (show List.Nodup (["_law_place", "_law_many"]:List Str) by decide +kernel) rfl (zb2 rfl))) (fun _=>(zd2 0)) (fun _ _ _ _ _ _=>zk9) (fun _ _ _ _ _ _=>(zb3 (od_mul.or zn4) (ze2 (za1 za4 za6)) (za0 1))))
 refine za5 ?_ ?_
 ·exact (zh3 PassesOwn.never rfl rfl bu.n_range (za0 2) (zc7 (i:=6) SC.nd rfl (zb2 rfl)) (zd2 6) (za5 (zb8 (i:=7) SC.nd rfl (zb2 rfl) (zc3 c_law_row (hr.mono (by decide)) (by refine za1 ?_ ?_ ?_;exact (zc3 c_law_cell (hr.mono (by decide)) (za1 (za0 0) (za1 (zb3 (od_add.or zf2) (zb3 (od_add.or zf2) (za0 1) za4) (za0 6)) za6)));exact (by refine za1 ?_ ?_ ?_;exact (zb3 zx1 (zb3 zx1 (za0 2) za4) (za0 6));exact (by refine za1 ?_ ?_ ?_;exact (ze2 (za1 (za0 4) za6));exact (by refine za1 ?_ ?_ ?_;exact (za0 3);exact za6;exact (zf4 rfl));exact (zf4 rfl));exact (zf4 rfl));exact (zf4 rfl))))
  (zb5 (zh3 PassesOwn.never rfl rfl bu.n_range (zb3 zx1 (zb3 zx1 (za0 2) za4) (za0 6)) (zc7 (i:=8) SC.nd rfl (zb2 rfl)) (zd2 8) (za5 (zu5 5 (pl_ix (zae5 5) (za0 6)) (zb3 (od_add.or zf2) (zb3 (od_add.or zf2) (za0 6) za4) (za0 8)) (zc9 (za0 7) (za0 8)))
  (zb5 (zu5 5 (pl_ix (zae5 5) (zb3 (od_add.or zf2) (zb3 (od_add.or zf2) (za0 6) za4) (za0 8))) (za0 6) (zc9 (za0 7) (za0 8)))))))))
 refine za5 ?_ ?_
 ·exact (zh3 PassesOwn.never rfl rfl bu.n_range (za0 2) (zc7 (i:=9) SC.nd rfl (zb2 rfl)) (zd2 9) (zb5 (zh3 PassesOwn.never rfl rfl bu.n_range (za0 2) (zc7 (i:=6) SC.nd rfl (zb2 rfl)) (zd2 6) (zb5 (zh3 PassesOwn.never rfl rfl bu.n_range (za0 2) (zc7 (i:=10) SC.nd rfl (zb2 rfl)) (zd2 10) (za5 (zb8 (i:=11) SC.nd rfl (zb2 rfl) (zb3 (od_add.or zf2) (zc9 (zc9 (za0 5) (za0 6)) (za0 9)) (zc9 (zc9 (za0 5) (za0 9)) (za0 10))))
  (zb5 (zj5 (zc8 od_lt (za0 11) (zc9 (zc9 (za0 5) (za0 6)) (za0 10))) (zb5 (zu5 5 (pl_ix (zae5 5) (za0 6)) (za0 10) (za0 11))) zg5))))))))
 exact zb5 (zn1 5)
theorem zs6:FnScope ["_law_roads_here", "_law_inner", "_law_one", "_law_other", "_law_near", "_law_far", "_law_road"] ["_law_roads_here", "_law_inner", "_law_one", "_law_other"] (zb6 zf8):=zs5 rfl rfl rfl rfl (by decide +kernel)
noncomputable def bdX5:DS:=(dIfS (dAnd (dBo (d2 (kInD false) (dVar 4) (dVar 1))) (dBo (d2 (kInD true) (dVar 5) (dVar 1)))) (dSeq (dAsg 6 (d2 kIx (d2 kIx (dVar 0) (dVar 4)) (dVar 5)))
  (dIfS (dOr (dBo (d2 qL (dVar 6) (d2 kIx (d2 kIx (dVar 0) (dVar 2)) (dVar 3)))) (dAnd (dBo (d2 kEq (dVar 6) (d2 kIx (d2 kIx (dVar 0) (dVar 2)) (dVar 3)))) (dBo (d2 kLtT (dT1 kTup (za2 (dVar 4) (za2 (dVar 5) dNil))) (dT1 kTup (za2 (dVar 2) (za2 (dVar 3) dNil))))))) (dRet (dC (.bl false))) zj4)) zj4)
noncomputable def zj3:DS :=
 (dSeq (dIfS (dOr (dBo (d2 (kInD true) (dVar 2) (dVar 1))) (dBo (d2 (kInD false) (dVar 3) (dVar 1)))) (dRet (dC (.bl false))) zj4) (dSeq (zg8 (za3 4) (dT1 kLen (za2 (dVar 0) dNil)) (zg8 (za3 5) (dT1 kLen (za2 (dVar 0) dNil)) bdX5)) (dRet (dC (.bl true)))))
noncomputable def ze1:List D→Option Ev:=mkG 4 ["_law_roads_here", "_law_inner", "_law_one", "_law_other", "_law_near", "_law_far", "_law_road"] zj3
theorem zs7 (Fn:L2.Fun K "_law_is_next" "_law_is_next" zf8 ad fd) (bu:Blt mg) :FnOk P w K mg base CX0 1 ad fd ["_law_roads_here", "_law_inner", "_law_one", "_law_other"] (spD K ze1):=by
 have SC:=zs6
 refine zk3 (k:=0) Fn SC (fun _ _ e=>zi0 e) zj3 (fun _ _ e=>zl7 e) (fun cdv A outer s H E F hr=>?_)
 refine za5 ?_ ?_
 ·exact (zj5 (L2.PW.pt (zl4 (zc8 (zal7 hr.units) (za0 2) (za0 1)) (zl9 (zc8 (od_inD hr.units) (za0 3) (za0 1))))) (zb5 (zg4 zl5)) zg5)
 refine za5 ?_ ?_
 ·exact (zh3 PassesOwn.never rfl rfl bu.n_range (zd0 zk6 rfl bu.n_len PySem.boot_len (za1 (za0 0) za6)) (zc7 (i:=4) SC.nd rfl (zb2 rfl)) (zd2 4) (zb5 (zh3 PassesOwn.never rfl rfl bu.n_range (zd0 zk6 rfl bu.n_len PySem.boot_len (za1 (za0 0) za6)) (zc7 (i:=5) SC.nd rfl (zb2 rfl)) (zd2 5) (zb5 (zj5 (L2.PW.pt (zak3 (zc8 (od_inD hr.units) (za0 4) (za0 1)) (zae1 (zc8 (zal7 hr.units) (za0 5) (za0 1))))) (za5 (zb8 (i:=6) SC.nd rfl (zb2 rfl) (zc9 (zc9 (za0 0) (za0 4)) (za0 5)))
  (zb5 (zj5 (L2.PW.pt (zl4 (zc8 od_lt (za0 6) (zc9 (zc9 (za0 0) (za0 2)) (za0 3))) (zl9 (L2.PW.pt (zak3 (zc8 (zah7 hr.units) (za0 6) (zc9 (zc9 (za0 0) (za0 2)) (za0 3))) (zae1 (zc8 (od_ltT hr.units) (zj0 (za1 (za0 4) (za1 (za0 5) za6))) (zj0 (za1 (za0 2) (za1 (za0 3) za6)))))))))) (zb5 (zg4 zl5)) zg5))) zg5)))))
 exact zb5 (zg4 zl5)
theorem zm8:FnScope ["_law_tree", "_law_place", "_law_found", "_law_other"] ["_law_tree", "_law_place"] (zb6 zf1):=zs5 rfl rfl rfl rfl (by decide +kernel)
noncomputable def zg0 (Gs:List D→Option Ev):DS :=
 (dSeq (dAsg 2 (dT1 kLst (za2 (dVar 1) dNil)))
  (dSeq (dFor (za3 3) (dT1 zr0 (za2 (zs8 2 [1] (fsL (dVar 0)) (zj7 2 (zc5 (za3 0) (zc5 (za3 1) zl3))) (dBo (d2 kEq (dVar 0) (dVar 2))) (dVar 1)) dNil)) (dAsg 2 (d2 qA (dVar 2) (dT1 (zc4 Gs) (za2 (dVar 0) (za2 (dVar 3) dNil))))))
  (zab9 2)))
def zd6:Nat→List D→Option Ev
 |0=>fun _=>none
 |n+1=>mkG 2 ["_law_tree", "_law_place", "_law_found", "_law_other"] (zg0 (zd6 n))
def zf3:List D→Option Ev:=zd6 44
theorem zu2 {Gs:List D→Option Ev}{m:Nat} (hm:1≤m) (Fn:L2.Fun K "_law_walked" "_law_walked" zf1 ad fd) (bu:Blt mg) (c_law_walked:Cal P w K mg base "_law_walked" m Gs) :FnOk P w K mg base CX0 (m+1) ad fd ["_law_tree", "_law_place"] (spD K (mkG 2 ["_law_tree", "_law_place", "_law_found", "_law_other"] (zg0 Gs))):=by
 have SC:=zm8
 refine zk3 (k:=m) Fn SC (fun _ _ e=>zi0 e) (zg0 Gs) (fun _ _ e=>zl7 e) (fun cdv A outer s H E F hr=>?_)
 refine za5 ?_ ?_
 ·exact (zb8 (i:=2) SC.nd rfl (zb2 rfl) (ze2 (za1 (za0 1) za6)))
 refine za5 ?_ ?_
 ·exact (zak8 PassesOwn.never rfl (zd0 cd_sortI rfl bu.n_sorted boot_sorted (za1 (zw5 2 [1] ["_law_near", "_law_far", "_law_place"] rfl (zn2 (za0 0)) (fun _ _ _ _ _=>(zal2 rfl (zl0 (zc7 (i:=0) (show List.Nodup (["_law_near", "_law_far", "_law_place"]:List Str) by decide +kernel) rfl (zb2 rfl)) (zl0 (zc7 (i:=1) (show List.Nodup (["_law_near", "_law_far", "_law_place"]:List Str) by decide +kernel) rfl (zb2 rfl)) zaa4)))) (fun _=>(tg_tup (zp4 (zd2 0) (zp4 (zd2 1) zaj3)))) (fun _ _ _ _ _ _=>(ptsd_one (zc8 (zah7 hr.units) (za0 0) (za0 2)))) (fun _ _ _ _ _ _=>(za0 1))) za6)) (zc7 (i:=3) SC.nd rfl (zb2 rfl)) (zd2 3) (zb5 (zb8 (i:=2) SC.nd rfl (zb2 rfl) (zb3 (od_add.or zf2) (za0 2) (zc3 c_law_walked (hr.mono (by lia)) (za1 (za0 0) (za1 (za0 3) za6)))))))
 exact zb5 (zn1 2)
theorem zu6 (d:Df K mg "_law_walked" zf1 ["_law_tree", "_law_place"] ad fd) (bu:Blt mg) :FnOk P w K mg base CX0 45 ad fd ["_law_tree", "_law_place"] (spD K zf3):=by
 have all:∀n,FnOk P w K mg base CX0 (1+n) ad fd ["_law_tree", "_law_place"] (spD K (zd6 n)):=by
  intro n
  induction n with
  |zero=>exact zab3 d.fn zm8
  |succ n ih=>exact zu2 (m:=1+n) (by lia) d.fn bu (d.cal ih)
 exact all 44
theorem sc_law:FnScope ["_law_script", "_law_number", "_law_many", "_law_roads_here", "_law_kept", "_law_found", "_law_tour", "_law_tree", "_law_inner", "_law_road", "_law_held", "_law_other"] ["_law_script"] (zb6 s_law):=zs5 rfl rfl rfl rfl (by decide +kernel)
noncomputable def bdRd:DS:=(dSeq (dIfS (dOr (dNot (dTr (dIsi "tuple" (dVar 9)))) (dOr (dBo (d2 kNe (dT1 kLen (za2 (dVar 9) dNil)) (dC (.int 2)))) (dNot (dTr (dT1 (zc4 ze1) (za2 (dVar 3) (za2 (dVar 8) (za2 (d2 kIx (dVar 9) (dC (.int 0))) (za2 (d2 kIx (dVar 9) (dC (.int 1))) dNil))))))))) (fun _=>none) zj4) (zap2 8 (d2 kIx (dVar 9) (dC (.int 1))) (dC (.bl true))))
noncomputable def fO:DE:=(dT1 (zc4 zc0) (za2 (dT1 kLst (za2 (dT1 kLst (za2 (dC (.int 0)) (za2 (dC (.int 3)) (za2 (dC (.int 5)) dNil)))) (za2 (dT1 kLst (za2 (dC (.int 3)) (za2 (dC (.int 0)) (za2 (dC (.int 4)) dNil)))) (za2 (dT1 kLst (za2 (dC (.int 5)) (za2 (dC (.int 4)) (za2 (dC (.int 0)) dNil)))) dNil)))) dNil))
noncomputable def fD:DE:=(dT1 kTup (za2 (dT1 kLst (za2 (dC (.int 0)) (za2 (dC (.int 1)) (za2 (dC (.int 2)) dNil)))) (za2 (dT1 kLst (za2 (dT1 kTup (za2 (dC (.int 0)) (za2 (dC (.int 1)) dNil))) (za2 (dT1 kTup (za2 (dC (.int 1)) (za2 (dC (.int 2)) dNil))) dNil))) dNil)))
noncomputable def g_law:DS :=
 (dSeq (dAsg 1 (dT1 (zc4 zd5) (za2 (dT1 (zc4 zb9) (za2 (dVar 0) (za2 (dC (.int 0)) dNil))) (za2 (dC (.int 1)) dNil)))) (dSeq (dAsg 2 (d2 qA (dC (.int 1)) (d2 qR (dVar 1) (dC (.int 14))))) (dSeq (dIfS (dBo (d2 kEq (d2 qR (d2 qV (dVar 1) (dC (.int 14))) (dC (.int 16))) (dC (.int 7)))) (dAsg 2 (d2 qA (dC (.int 15)) (d2 qR (d2 qV (dVar 1) (dC (.int 224))) (dC (.int 26))))) zj4) (dSeq (dAsg 3 (dT1 (zc4 ze5) (za2 (dVar 0) (za2 (dC (.int 1)) (za2 (dVar 2) dNil))))) (dSeq (dAsg 4 (zh5 1 [] (fsL (dVar 3)) (za3 0) zd9 (dT1 zo4 (za2 (dVar 0) dNil)))) (dSeq (dAsg 5 (dT1 (zc4 zc0) (za2 (dVar 3) dNil))) (dSeq (dIfS (dOr (dNot (dTr (dIsi "tuple" (dVar 5)))) (dOr (dBo (d2 kNe (dT1 kLen (za2 (dVar 5) dNil)) (dC (.int 2)))) (dOr (dBo (d2 kNe (dVar 3) (dVar 4))) (dBo (d2 kNe (dT1 kLen (za2 (d2 kIx (dVar 5) (dC (.int 1))) dNil)) (d2 qS (dVar 2) (dC (.int 1)))))))) (dRet (dC (.bl false))) zj4) (dSeq (dUnp 5 (zj7 2 (zc5 (zt5 6) (zc5 (zt5 7) zl3)))) (dSeq (dIfS (dOr (dNot (dTr (dIsi "list" (dVar 6)))) (dNot (dTr (dIsi "list" (dVar 7))))) (dRet (dC (.bl false))) zj4) (dSeq (dAsg 8 (zag2 (dC (.int 0)) (dC (.bl true)))) (dSeq (dThw 7 (dForO 7 9 bdRd)) (dSeq (dIfS (dOr (dBo (d2 kNe (dVar 6) (dT1 (zc4 zf3) (za2 (dVar 7) (za2 (dC (.int 0)) dNil))))) (dBo (d2 kIn (dC (.bl true)) (zs8 1 [] (fsL (dVar 6)) (za3 0) zd9 (dIsi "bool" (dVar 0)))))) (dRet (dC (.bl false))) zj4) (dSeq (dAsg 10 (dT1 kTup (za2 (dT1 zo4 (za2 (dVar 6) dNil)) (za2 (dT1 zo4 (za2 (dVar 7) dNil)) dNil)))) (dSeq (dAsg 11 fO) (dSeq (dIfS (dOr (dBo (d2 kNe (dVar 11) fD)) (dBo (d2 kNe (dT1 kTup (za2 (dVar 6) (za2 (dVar 7) dNil))) (dVar 10)))) (dRet (dC (.bl false))) zj4) (dSeq (dThw 6 (dApp 6 (dC (.int 0)))) (dSeq (dClr 7) (dRet (zap3 (d2 kEq (dT1 (zc4 zc0) (za2 (dVar 3) dNil)) (dVar 10)) (d2 kEq (dVar 3) (dVar 4)))))))))))))))))))))
noncomputable def G_law:List D→Option Ev:=mkG 1 ["_law_script", "_law_number", "_law_many", "_law_roads_here", "_law_kept", "_law_found", "_law_tour", "_law_tree", "_law_inner", "_law_road", "_law_held", "_law_other"] g_law
theorem ok_law (Fn:L2.Fun K "law" "law" s_law ad fd) (bu:Blt mg) (c_law_cell:Cal P w K mg base "_law_cell" 1 zb9) (c_law_mixed:Cal P w K mg base "_law_mixed" 1 zd5) (c_law_roads:Cal P w K mg base "_law_roads" 3 ze5) (c_tour_by_tree:Cal P w K mg base "tour_by_tree" 2 zc0) (c_law_is_next:Cal P w K mg base "_law_is_next" 1 ze1) (c_law_walked:Cal P w K mg base "_law_walked" 45 zf3):FnOk P w K mg base CX0 46 ad fd ["_law_script"] (spD K G_law):=by
 have SC:=sc_law
 refine zk3 (k:=45) Fn SC (fun _ _ e=>zi0 e) g_law (fun _ _ e=>zl7 e) (fun cdv A outer s H E F hr=>?_)
 refine za5 ?_ ?_
 ·exact (zb8 (i:=1) SC.nd rfl (zb2 rfl) (zc3 c_law_mixed (hr.mono (by decide)) (za1 (zc3 c_law_cell (hr.mono (by decide)) (za1 (za0 0) (za1 za4 za6))) (za1 za4 za6))))
 refine za5 ?_ ?_
 ·exact (zb8 (i:=2) SC.nd rfl (zb2 rfl) (zb3 (od_add.or zf2) za4 (zb3 zg6 (za0 1) za4)))
 refine za5 ?_ ?_
 ·exact (zj5 (zc8 (zah7 hr.units) (zb3 zg6 (zb3 zae7 (za0 1) za4) za4) za4) (zb5 (zb8 (i:=2) SC.nd rfl (zb2 rfl) (zb3 (od_add.or zf2) za4 (zb3 zg6 (zb3 zae7 (za0 1) za4) za4)))) zg5)
 refine za5 ?_ ?_
 ·exact (zb8 (i:=3) SC.nd rfl (zb2 rfl) (zc3 c_law_roads (hr.mono (by decide)) (za1 (za0 0) (za1 za4 (za1 (za0 2) za6)))))
 refine za5 ?_ ?_
 ·exact (zq4 (i:=4) 1 [] ["_law_row_here"] SC.nd rfl (Or.inl rfl) rfl (zn2 (za0 3)) (fun _ _ _ _ _=>(zc7 (i:=0) (show List.Nodup (["_law_row_here"]:List Str) by decide +kernel) rfl (zb2 rfl))) (fun _=>(zd2 0)) (fun _ _ _ _ _ _=>zk9) (fun _ _ _ _ _ _=>(zq7 zac5 rfl bu.n_list zs2 (za1 (za0 0) za6))))
 refine za5 ?_ ?_
 ·exact (zb8 (i:=5) SC.nd rfl (zb2 rfl) (zc3 c_tour_by_tree (hr.mono (by decide)) (za1 (za0 3) za6)))
 refine za5 ?_ ?_
 ·exact (zj5 (L2.PW.pt (zl4 (zq3 (zj8 (zq6 zx6 (za0 5) rfl bu.n_isinstance rfl bu.n_tuple zag6))) (zl4 (zc8 (zaa8 hr.units) (zd0 zk6 rfl bu.n_len PySem.boot_len (za1 (za0 5) za6)) za4) (zl4 (zc8 (zaa8 hr.units) (za0 3) (za0 4)) (zl9 (zc8 (zaa8 hr.units) (zd0 zk6 rfl bu.n_len PySem.boot_len (za1 (zc9 (za0 5) za4) za6)) (zb3 zx1 (za0 2) za4))))))) (zb5 (zg4 zl5)) zg5)
 refine za5 ?_ ?_
 ·exact (psd_unp 5 (zal2 rfl (zl0 (zc7 (i:=6) SC.nd rfl (zb2 rfl)) (zl0 (zc7 (i:=7) SC.nd rfl (zb2 rfl)) zaa4))) (tn_tup (zad5 (zaj2 6) (zad5 (zaj2 7) tns_nil))))
 refine za5 ?_ ?_
 ·exact (zj5 (L2.PW.pt (zl4 (zq3 (zj8 (zq6 zaf3 (za0 6) rfl bu.n_isinstance rfl bu.n_list zs2))) (zl9 (zq3 (zj8 (zq6 zaf3 (za0 7) rfl bu.n_isinstance rfl bu.n_list zs2)))))) (zb5 (zg4 zl5)) zg5)
 refine za5 ?_ ?_
 ·exact (zb8 (i:=8) SC.nd rfl (zb2 rfl) (zal5 za4 zl5))
 refine za5 ?_ ?_
 ·exact (zak7 7 (psd_forO [9] (by decide) (by decide) PassesOwn.never rfl rfl (zc7 (i:=9) SC.nd rfl (zb2 rfl)) (fun _=>(psj_cons (psj_if (L2.PW.pt (zl4 (zq3 (zj8 (zq6 zx6 (za0 9) rfl bu.n_isinstance rfl bu.n_tuple zag6))) (zl4 (zc8 (zaa8 hr.units) (zd0 zk6 rfl bu.n_len PySem.boot_len (za1 (za0 9) za6)) za4) (zl9 (zq3 (zj8 (zc3 c_law_is_next (hr.mono (by decide)) (by refine za1 ?_ ?_ ?_;exact (za0 3);exact (by refine za1 ?_ ?_ ?_;exact (za0 8);exact (by refine za1 ?_ ?_ ?_;exact (zc9 (za0 9) za4);exact (by refine za1 ?_ ?_ ?_;exact (zc9 (za0 9) za4);exact za6;exact (zf4 rfl));exact (zf4 rfl));exact (zf4 rfl));exact (zf4 rfl))))))))) zak6 psj_nil) (psj_one (psj_dput 8 hr.units (zc9 (za0 9) za4) zl5))))))
 refine za5 ?_ ?_
 ·exact (zj5 (L2.PW.pt (zl4 (zc8 (zaa8 hr.units) (za0 6) (zc3 c_law_walked (hr.mono (by decide)) (za1 (za0 7) (za1 za4 za6)))) (zl9 (zc8 od_in zl5 (zw5 1 [] ["_law_place"] rfl (zn2 (za0 6)) (fun _ _ _ _ _=>(zc7 (i:=0) (show List.Nodup (["_law_place"]:List Str) by decide +kernel) rfl (zb2 rfl))) (fun _=>(zd2 0)) (fun _ _ _ _ _ _=>zk9) (fun _ _ _ _ _ _=>(zq6 isi_bool (za0 0) rfl bu.n_isinstance rfl bu.n_bool bt_bool))))))) (zb5 (zg4 zl5)) zg5)
 refine za5 ?_ ?_
 ·exact (zb8 (i:=10) SC.nd rfl (zb2 rfl) (zj0 (za1 (zq7 zac5 rfl bu.n_list zs2 (za1 (za0 6) za6)) (za1 (zq7 zac5 rfl bu.n_list zs2 (za1 (za0 7) za6)) za6))))
 refine za5 ?_ ?_
 ·exact (zb8 (i:=11) SC.nd rfl (zb2 rfl) (zc3 c_tour_by_tree (hr.mono (by decide)) (za1 (ze2 (za1 (ze2 (za1 za4 (za1 za4 (za1 za4 za6)))) (za1 (ze2 (za1 za4 (za1 za4 (za1 za4 za6)))) (za1 (ze2 (za1 za4 (za1 za4 (za1 za4 za6)))) za6)))) za6)))
 refine za5 ?_ ?_
 ·exact (zj5 (L2.PW.pt (zl4 (zc8 (zaa8 hr.units) (za0 11) (zj0 (za1 (ze2 (za1 za4 (za1 za4 (za1 za4 za6)))) (za1 (ze2 (za1 (zj0 (za1 za4 (za1 za4 za6))) (za1 (zj0 (za1 za4 (za1 za4 za6))) za6))) za6)))) (zl9 (zc8 (zaa8 hr.units) (zj0 (za1 (za0 6) (za1 (za0 7) za6))) (za0 10))))) (zb5 (zg4 zl5)) zg5)
 refine za5 ?_ ?_
 ·exact (zak7 6 (zo2 6 za4))
 refine za5 ?_ ?_
 ·exact (psd_clr 7)
 exact zb5 (zg4 (ped_and (zaa6 (zah7 hr.units) (zc3 c_tour_by_tree (hr.mono (by decide)) (za1 (za0 3) za6)) (za0 10)) (ped_one (zaa6 (zah7 hr.units) (za0 3) (za0 4)))))
end KX
namespace KX
open PySem.Spec L2 DL
theorem sm_of {i:Int} (h0 : -1000000000000000000000000000000≤i) (h1:i≤1000000000000000000000000000000):sm i=true:=by
 unfold sm
 refine decide_eq_true ?_
 have e:(2:Nat) ^ 100=1267650600228229401496703205376:=by decide
 have l:i.natAbs<2 ^ 100:=by rw [e];lia
 refine zas5 l ?_
 unfold DL.bnd
 exact zay6 (by decide) (by decide)
theorem fm {a b:Int} (h:0<b):0≤a.fmod b∧a.fmod b<b:=fmod_pos h
theorem mixed_lt (c:Int) (k:Nat) (hk:k<100000):∃m:Int,zd5 [.int c,.int (k:Int)]=some (.cl (.int m))∧0≤m∧m<2147483563:=by
 have f1:=@fm c 2147483629 (by decide)
 have hkk:(k:Int)*(k:Int)<10000000000:=by
  have:k*k≤99999*99999:=zbb2 (by lia) (by lia)
  have e:((k*k:Nat):Int)=(k:Int)*(k:Int):=by simp
  rw [← e];lia
 have hkk0:0≤(k:Int)*(k:Int):=by
  have e:((k*k:Nat):Int)=(k:Int)*(k:Int):=by simp
  rw [← e];lia
 generalize hq:(k:Int)*(k:Int)=q at hkk hkk0
 have f2:=@fm ((c.fmod 2147483629+q*7919+(k:Int)+1)*48271) 2147483587 (by decide)
 generalize h2:((c.fmod 2147483629+q*7919+(k:Int)+1)*48271).fmod 2147483587=n2 at f2
 have f2b:n2*n2≤2147483587*2147483587:=Int.mul_le_mul (by lia) (by lia) (by lia) (by decide)
 have f3:=@fm (n2*n2) 2147483629 (by decide)
 generalize h3:(n2*n2).fmod 2147483629=n3 at f3
 have f4:=@fm ((n3+(k:Int))*69621) 2147483563 (by decide)
 refine⟨((n3+(k:Int))*69621).fmod 2147483563,?_,f4⟩
 refine bnd (g:=zj2 [.val (.int c),.val (.int (k:Int)),.no]) ?_
 unfold zj2
 rw [za9 (zg9 (d:=.int n2) (by
  rw [← h2, ← hq]
  exact zg7 (zo7 (zh6 (zh6 (zh6 (zg7 rfl rfl (by decide)) (zo7 (zo7 rfl rfl (sm_of (by lia) (by lia)) (sm_of (by lia) (by lia))) rfl (by rw [hq];exact sm_of (by lia) (by lia)) (by decide +kernel))) rfl) rfl) rfl (by rw [hq];exact sm_of (by lia) (by lia)) (by decide +kernel)) rfl (by decide)) (by simp))]
 rw [za9 (zg9 (d:=.int n3) (by
  rw [← h3]
  exact zg7 (zo7 rfl rfl (sm_of (by lia) (by lia)) (sm_of (by lia) (by lia))) rfl (by decide)) (by simp))]
 unfold dRet
 rw [zg7 (zo7 (zh6 (a:=n3) (b:=(k:Int)) rfl rfl) rfl (sm_of (by lia) (by lia)) (by decide +kernel)) rfl (by decide)]
 rfl
theorem zaf1 (c:Int) (k:Nat) (hk:k<100000):∃m:Int,zd5 [.int c,.int (k:Int)]=some (.cl (.int m))∧0≤m :=
 let ⟨m,e,h⟩:=mixed_lt c k hk
 ⟨m,e,h.1⟩
theorem zac4 (ns:List Int) (hl:ns.length≤63) (k:Nat) (hk:k<100000):∃c:Int,zb9 [.lst (ns.map D.int),.int (k:Int)]=some (.cl (.int c)):=by
 have len:∀s2,(dT1 kLen (za2 (dVar 0) dNil)) [.val (.lst (ns.map D.int)),.val (.int (k:Int)),s2]=some (.cl (.int (ns.length:Int))):=fun s2=>len_of (xs:=ns) rfl rfl
 by_cases h:k<ns.length
 ·refine⟨ns.getD k 0,bnd (g:=ze6 [.val (.lst (ns.map D.int)),.val (.int (k:Int)),.no]) ?_⟩
  unfold ze6
  refine seq_rt ?_
  rw [zai2 (zam2 rfl (len .no)) (decide_eq_true (by lia))]
  unfold dRet
  rw [zaf2 ns k rfl rfl h rfl rfl]
  rfl
 ·have hkk:(k:Int)*(k:Int)<10000000000:=by
   have:k*k≤99999*99999:=zbb2 (by lia) (by lia)
   have e:((k*k:Nat):Int)=(k:Int)*(k:Int):=by simp
   rw [← e];lia
  have hkk0:0≤(k:Int)*(k:Int):=by
   have e:((k*k:Nat):Int)=(k:Int)*(k:Int):=by simp
   rw [← e];lia
  generalize hq:(k:Int)*(k:Int)=q at hkk hkk0
  have fin:∀n:Int,0≤n→n≤100000000000→∀s0 s1,dRet (d2 qR (d2 qM (dVar 2) (dVar 2)) (dC (.int 2147483629))) [s0,s1,.val (.int n)]=some (.rt (.cl (.int ((n*n).fmod 2147483629)))):=fun n h0 h1 s0 s1=>by
   unfold dRet
   rw [zg7 (zo7 (a:=n) (b:=n) rfl rfl (sm_of (by lia) (by lia)) (sm_of (by lia) (by lia))) rfl (by decide)]
   rfl
  have a1:dAsg 2 (d2 qA (d2 qM (dVar 1) (dVar 1)) (dC (.int 7919))) [.val (.lst (ns.map D.int)),.val (.int (k:Int)),.no]=some (.nx [.val (.lst (ns.map D.int)),.val (.int (k:Int)),.val (.int (q+7919))]):=by
   rw [← hq]
   exact zg9 (zh6 (zo7 rfl rfl (sm_of (by lia) (by lia)) (sm_of (by lia) (by lia))) rfl) (by simp)
  cases ns with
  |nil =>
   refine⟨((q+7919)*(q+7919)).fmod 2147483629,bnd (g:=ze6 [.val (.lst (([]:List Int).map D.int)),.val (.int (k:Int)),.no]) ?_⟩
   unfold ze6
   rw [za9 (grd (zam2 rfl (len .no)) (decide_eq_false (by simp))),za9 a1,za9 (grd (gt_of (len _) rfl) (by simp))]
   exact fin _ (by lia) (by lia) _ _
  |cons n0 r0 =>
   have f0:=@fm ((k:Int)*7) ((n0::r0).length:Int) (by simp)
   obtain⟨m,hm⟩:=Int.eq_ofNat_of_zero_le f0.1
   have hml:m<(n0::r0).length:=by lia
   have f1:=@fm ((n0::r0).getD m 0) 2147483629 (by decide)
   refine⟨((q+7919+((n0::r0).getD m 0).fmod 2147483629)*(q+7919+((n0::r0).getD m 0).fmod 2147483629)).fmod 2147483629,bnd (g:=ze6 [.val (.lst ((n0::r0).map D.int)),.val (.int (k:Int)),.no]) ?_⟩
   unfold ze6
   rw [za9 (grd (zam2 rfl (len .no)) (decide_eq_false (by lia))),za9 a1]
   have a2:dAsg 2 (d2 qA (dVar 2) (d2 qR (d2 kIx (dVar 0) (d2 qR (d2 qM (dVar 1) (dC (.int 7))) (dT1 kLen (za2 (dVar 0) dNil)))) (dC (.int 2147483629)))) [.val (.lst ((n0::r0).map D.int)),.val (.int (k:Int)),.val (.int (q+7919))]=some (.nx [.val (.lst ((n0::r0).map D.int)),.val (.int (k:Int)),.val (.int (q+7919+((n0::r0).getD m 0).fmod 2147483629))]):=by
    refine zg9 (zh6 rfl (zg7 (zaf2 (r2:=.cl (.int (m:Int))) (n0::r0) m rfl ?_ hml rfl rfl) rfl (by decide))) (by simp)
    rw [← hm]
    exact zg7 (zo7 (a:=(k:Int)) (b:=7) rfl rfl (sm_of (by lia) (by lia)) (by decide +kernel)) (len _) (by simp;lia)
   have a3:(dIfS (dBo (d2 qG (dT1 kLen (za2 (dVar 0) dNil)) (dC (.int 0)))) (dAsg 2 (d2 qA (dVar 2) (d2 qR (d2 kIx (dVar 0) (d2 qR (d2 qM (dVar 1) (dC (.int 7))) (dT1 kLen (za2 (dVar 0) dNil)))) (dC (.int 2147483629))))) zj4) [.val (.lst ((n0::r0).map D.int)),.val (.int (k:Int)),.val (.int (q+7919))]=some (.nx [.val (.lst ((n0::r0).map D.int)),.val (.int (k:Int)),.val (.int (q+7919+((n0::r0).getD m 0).fmod 2147483629))]):=by
    rw [zai2 (gt_of (len _) rfl) (decide_eq_true (by simp))]
    exact a2
   rw [za9 a3]
   exact fin _ (by lia) (by lia) _ _
structure Rds (n:Nat) (M:List (List Int)):Prop where
 sq:Sq n M
 nn:∀i j:Nat,i<n→j<n→0≤(M.getD i []).getD j 0
 dg:∀i:Nat,i<n→(M.getD i []).getD i 0=0
theorem eqv_of {fa fb:DE}{t:Th}{a b:Int} (h1:fa t=some (.cl (.int a))) (h2:fb t=some (.cl (.int b))):(d2 kEq fa fb) t=some (.cl (.bl (decide (a=b)))):=by
 rw [zg1 h1 h2]
 have:kEq (.cl (.int a)) (.cl (.int b))=some (.cl (.bl (eqD (.int a) (.int b)))):=rfl
 rw [this,zab6]
noncomputable abbrev tRw (c:Int) (s1:Sl) (q:Int) (b:Bool) (xs:List Int) (s5 s6:Sl):Th:=[.val (.int c),s1,.val (.lst [.int q]),.val (.bl b),.own (xs.map D.int),s5,s6]
theorem turn_rw (c:Int) (s1:Sl) {q:Int} (q0:0<q) (q1:q≤1000000000000000) (b:Bool) (xs:List Int) (hl:xs.length<100000) (k:Nat) (hk:k<100000) (s6:Sl):∃x c',0≤x∧x<q∧bdRw (tRw c s1 q b xs (.val (.int (k:Int))) s6)=some (.nx (tRw c' s1 q b (xs++[x]) (.val (.int (k:Int))) (.val (.int q)))):=by
 have e1:(d2 kIx (dVar 2) (d2 qR (dVar 5) (dT1 kLen (za2 (dVar 2) dNil)))) (tRw c s1 q b xs (.val (.int (k:Int))) s6)=some (.cl (.int q)):=by
  have m:=zg7 (fa:=dVar 5) (fb:=dT1 kLen (za2 (dVar 2) dNil)) (t:=tRw c s1 q b xs (.val (.int (k:Int))) s6) (a:=(k:Int)) (b:=1) rfl rfl (by decide)
  have z:(k:Int).fmod 1=0:=by have:=fm (a:=(k:Int)) (b:=1) (by decide);lia
  rw [z]at m
  exact (zg1 (rfl:dVar 2 _=some (.cl (.lst [.int q]))) m).trans rfl
 have E1:=zg9 (i:=6) e1 (by simp)
 let t:Th:=tRw c s1 q b xs (.val (.int (k:Int))) (.val (.int q))
 have cc:dTr (dVar 3) t=some b:=rfl
 unfold bdRw
 cases b with
 |true =>
  refine⟨c.fmod q,c.fdiv q,(fm q0).1,(fm q0).2,(za9 E1).trans ?_⟩
  refine (zai2 cc rfl).trans ?_
  have a1:=zs3 (i:=4) t (xs:=xs) (zg7 (fa:=dVar 0) (fb:=dVar 6) (t:=t) (a:=c) (b:=q) rfl rfl (by lia)) rfl hl
  refine (za9 a1).trans ?_
  exact zg9 (i:=0) (zag1 (fa:=dVar 0) (fb:=dVar 6) (a:=c) (b:=q) rfl rfl (by lia) (sm_of (by lia) (by lia))) (by simp [t])
 |false =>
  obtain⟨m,em,_⟩:=zaf1 c k hk
  refine⟨m.fmod q,c,(fm q0).1,(fm q0).2,(za9 E1).trans ?_⟩
  refine (ifs_f cc rfl).trans ?_
  have e2:(dT1 (zc4 zd5) (za2 (dVar 0) (za2 (dVar 5) dNil))) t=some (.cl (.int m)):=(zu1 (rfl:dVar 0 t=some (.cl (.int c))) (rfl:dVar 5 t=some (.cl (.int (k:Int))))).trans (zai6 em rfl)
  exact zs3 (i:=4) t (xs:=xs) (zg7 e2 (fb:=dVar 6) (b:=q) rfl (by lia)) rfl hl
theorem row_is (c:Int) {q:Int} (q0:0<q) (q1:q≤1000000000000000) (b:Bool) (m:Nat) (hm:m≤1000):∃xs:List Int,xs.length=m∧(∀x∈xs,0≤x∧x<q)∧zk7 [.int c,.int (m:Int),.lst [.int q],.bl b]=some (.nw (xs.map D.int)):=by
 have L:∀(l:List Nat) (xs:List Int) (c:Int) (s5 s6:Sl),(∀k∈l,k<100000)→xs.length+l.length<100000→(∀x∈xs,0≤x∧x<q)→∃(ys:List Int) (c':Int) (u5 u6:Sl),ys.length=xs.length+l.length∧(∀x∈ys,0≤x∧x<q)∧forD (za3 5) bdRw (l.map fun (k:Nat)=>D.int (k:Int)) (tRw c (.val (.int (m:Int))) q b xs s5 s6)=some (.nx (tRw c' (.val (.int (m:Int))) q b ys u5 u6)):=by
  intro l
  induction l with
  |nil=>exact fun xs c s5 s6 _ _ hx=>⟨xs,c,s5,s6,rfl,hx,rfl⟩
  |cons k l ih =>
   intro xs c s5 s6 hk hl hx
   simp only [zau3]at hl
   obtain⟨x,c',x0,x1,e⟩:=turn_rw c (.val (.int (m:Int))) q0 q1 b xs (by lia) k (hk k (zar4 ..)) s6
   obtain⟨ys,c2,u5,u6,yl,yr,e'⟩:=ih (xs++[x]) c' (.val (.int (k:Int))) (.val (.int q)) (fun j hj=>hk j (zar1 _ hj)) (by simp only [zat5,zav7];lia) (fun y hy=>by
    rcases zar3.mp hy with w | w
    ·exact hx y w
    ·rw [zas2]at w;subst w;exact⟨x0,x1⟩)
   refine⟨ys,c2,u5,u6,by simp only [zat5,zav7]at yl;simp only [zau3];lia,yr,?_⟩
   have e0:za3 5 (.int (k:Int)) (tRw c (.val (.int (m:Int))) q b xs s5 s6)=some (tRw c (.val (.int (m:Int))) q b xs (.val (.int (k:Int))) s6):=rfl
   simp only [zas1,forD,e0,zar2,e]
   exact e'
 obtain⟨ys,c',u5,u6,yl,yr,e⟩:=L (zat6 m) [] c .no .no (fun k hk=>by have:=zaz7.mp hk;lia) (by simp;lia) (fun x hx=>by cases hx)
 refine⟨ys,by simpa using yl,yr,?_⟩
 show (zr4 [.val (.int c),.val (.int (m:Int)),.val (.lst [.int q]),.val (.bl b),.no,.no,.no]).bind zo3=_
 have E1:dAsg 4 (dT1 kLst dNil) [.val (.int c),.val (.int (m:Int)),.val (.lst [.int q]),.val (.bl b),.no,.no,.no]=some (.nx (tRw c (.val (.int (m:Int))) q b [] .no .no)):=rfl
 have en:(ze8 m).map D.int=(zat6 m).map fun (k:Nat)=>D.int (k:Int):=by unfold ze8;rw [zbd3];rfl
 have E2:zg8 (za3 5) (dVar 1) bdRw (tRw c (.val (.int (m:Int))) q b [] .no .no)=some (.nx (tRw c' (.val (.int (m:Int))) q b ys u5 u6)):=(zo1 (r:=.cl (.int (m:Int))) (n:=m) rfl rfl (by lia)).trans ((congrArg (fun l=>forD (za3 5) bdRw l (tRw c (.val (.int (m:Int))) q b [] .no .no)) en).trans e)
 refine bnd ?_
 refine (za9 E1).trans ?_
 refine (za9 E2).trans ?_
 rfl
theorem zaa2 {n:Nat}{M:List (List Int)} (R:Rds n M) {i j:Nat}{v:Int} (hi:i<n) (hj:j<n) (hij:i≠j) (v0:0≤v):Rds n (setM M i j v):=by
 refine⟨zak0 R.sq v hi,fun a b ha hb=>?_,fun a ha=>?_⟩
 ·rw [zh1 R.sq v hi hj]
  split
  ·exact v0
  ·exact R.nn a b ha hb
 ·rw [zh1 R.sq v hi hj,if_neg (fun w=>hij (by rw [← w.1, ← w.2])),R.dg a ha]
theorem rds_zero (n:Nat):Rds n (zar6 n (zar6 n 0)):=by
 have g:∀i j:Nat,((zar6 n (zar6 n (0:Int))).getD i []).getD j 0=0:=fun i j=>by
  simp only [zar7,zat8]
  split
  ·simp only [zay9,zat8]
   split<;>rfl
  ·rfl
 exact⟨⟨by simp,fun r hr=>by rw [List.mem_replicate]at hr;rw [hr.2];simp⟩,fun i j _ _=>by rw [g];exact zbg5 _,fun i _=>g i i⟩
abbrev eM (M:List (List Int)) (i j:Nat):Int:=(M.getD i []).getD j 0
def SyM (n:Nat) (M:List (List Int)):Prop := ∀i j:Nat,i<n→j<n→eM M i j=eM M j i
def nxM (M:List (List Int)) (t i j:Nat):Int:=if eM M i t+eM M t j<eM M i j then eM M i t+eM M t j else eM M i j
def TrM (n k:Nat) (M:List (List Int)):Prop := ∀t i j:Nat,t<k→i<n→j<n→eM M i j≤eM M i t+eM M t j
theorem nx_row {n:Nat}{M:List (List Int)} (R:Rds n M) {t i:Nat} (ht:t<n) (hi:i<n):nxM M t i t=eM M i t:=by
 have:=R.dg t ht
 unfold nxM eM
 rw [this]
 split<;>lia
theorem nx_col {n:Nat}{M:List (List Int)} (R:Rds n M) {t j:Nat} (ht:t<n) (hj:j<n):nxM M t t j=eM M t j:=by
 have:=R.dg t ht
 unfold nxM eM
 rw [this]
 split<;>lia
theorem nx_le {M:List (List Int)} (t i j:Nat):nxM M t i j≤eM M i j∧nxM M t i j≤eM M i t+eM M t j∧(nxM M t i j=eM M i j∨nxM M t i j=eM M i t+eM M t j):=by
 unfold nxM
 split<;>lia
theorem nx_tri {n k:Nat}{M M':List (List Int)} (R:Rds n M) (T:TrM n k M) (hk:k<n) (h:∀i j:Nat,i<n→j<n→eM M' i j=nxM M k i j):TrM n (k+1) M':=by
 intro t i j ht hi hj
 rw [h i j hi hj,h i t hi (by lia),h t j (by lia) hj]
 obtain⟨a1,a2,a3⟩:=nx_le (M:=M) k i j
 by_cases e:t=k
 ·subst e
  rw [nx_row R hk hi,nx_col R hk hj]
  exact a2
 ·have tk:t<k:=by lia
  obtain⟨b1,b2,b3⟩:=nx_le (M:=M) k i t
  obtain⟨c1,c2,c3⟩:=nx_le (M:=M) k t j
  have q1:=T t i j tk hi hj
  have q2:=T t i k tk hi hk
  have q3:=T t k j tk hk hj
  have z1:0≤eM M k t:=R.nn k t hk (by lia)
  have z2:0≤eM M t k:=R.nn t k (by lia) hk
  rcases b3 with b | b<;>rcases c3 with c | c<;>rw [b,c]<;>lia
theorem nx_sym {n k:Nat}{M M':List (List Int)} (S:SyM n M) (hk:k<n) (h:∀i j:Nat,i<n→j<n→eM M' i j=nxM M k i j):SyM n M':=by
 intro i j hi hj
 rw [h i j hi hj,h j i hj hi]
 unfold nxM
 rw [S i j hi hj,S i k hi hk,S k j hk hj,Int.add_comm]
theorem sy_set2 {n:Nat}{M:List (List Int)} (Q:Sq n M) (S:SyM n M) {i j:Nat}{v:Int} (hi:i<n) (hj:j<n):SyM n (setM (setM M i j v) j i v):=by
 intro a b ha hb
 have Q1:=zak0 Q v hi (j:=j)
 show eM (setM (setM M i j v) j i v) a b=eM (setM (setM M i j v) j i v) b a
 unfold eM
 rw [zh1 Q1 v hj hi,zh1 Q1 v hj hi,zh1 Q v hi hj,zh1 Q v hi hj]
 have s:(M.getD a []).getD b 0=(M.getD b []).getD a 0:=S a b ha hb
 by_cases c1:a=j∧b=i
 ·rw [if_pos c1]
  by_cases c2:b=j∧a=i
  ·rw [if_pos c2]
  ·rw [if_neg c2,if_pos ⟨c1.2,c1.1⟩]
 ·rw [if_neg c1]
  by_cases c2:b=j∧a=i
  ·rw [if_pos c2,if_pos ⟨c2.2,c2.1⟩]
  ·rw [if_neg c2,if_neg (fun z=>c2 ⟨z.2,z.1⟩),if_neg (fun z=>c1 ⟨z.2,z.1⟩)]
   exact s
theorem sy_zero (n:Nat):SyM n (zar6 n (zar6 n 0)):=by
 have g:∀i j:Nat,((zar6 n (zar6 n (0:Int))).getD i []).getD j 0=0:=fun i j=>by
  simp only [zar7,zat8]
  split
  ·simp only [zay9,zat8]
   split<;>rfl
  ·rfl
 intro i j _ _
 exact (g i j).trans (g j i).symm
def BdM (n:Nat) (M:List (List Int)):Prop := ∀i j:Nat,i<n→j<n→eM M i j≤1000000000000
theorem bd_set {n:Nat}{M:List (List Int)} (Q:Sq n M) (S:BdM n M) {i j:Nat}{v:Int} (hi:i<n) (hj:j<n) (hv:v≤1000000000000):BdM n (setM M i j v):=by
 intro a b ha hb
 unfold eM
 rw [zh1 Q v hi hj]
 split
 ·exact hv
 ·exact S a b ha hb
theorem bd_zero (n:Nat):BdM n (zar6 n (zar6 n 0)):=by
 have g:∀i j:Nat,((zar6 n (zar6 n (0:Int))).getD i []).getD j 0=0:=fun i j=>by
  simp only [zar7,zat8]
  split
  ·simp only [zay9,zat8]
   split<;>rfl
  ·rfl
 intro i j _ _
 show ((zar6 n (zar6 n (0:Int))).getD i []).getD j 0≤_
 rw [g]
 decide
theorem natsI_dr {n k:Nat} (hk:k<n):(ze8 n).drop k=(k:Int) ::(ze8 n).drop (k+1):=by
 rw [zat0 (by rw [zk0];exact hk)]
 congr 1
 simp [ze8]
theorem for_K {n i:Nat}{b:DS}{P:Nat→Th→Prop} (hb:∀(x:Nat),x<n→∀t,P x t→∃t1 t2,za3 i (.int (x:Int)) t=some t1∧b t1=some (.nx t2)∧P (x+1) t2):∀(j k:Nat) (t:Th),k+j=n→P k t→∃t',forD (za3 i) b (((ze8 n).drop k).map D.int) t=some (.nx t')∧P n t'
 |0,k,t,e,h=>by
  have:k=n:=by lia
  subst this
  rw [show (ze8 k).drop k=[] from List.drop_eq_nil_of_le (by rw [zk0];exact zat4 _)]
  exact⟨t,rfl,h⟩
 |j+1,k,t,e,h=>by
  obtain⟨t1,t2,e1,e2,h2⟩:=hb k (by lia) t h
  obtain⟨t',e',h'⟩:=for_K hb j (k+1) t2 (by lia) h2
  refine⟨t',?_,h'⟩
  rw [natsI_dr (by lia)]
  simp only [zas1,forD,e1,zar2,e2]
  exact e'
theorem rng_K {n:Nat} (hn:n≤1000) {i:Nat}{b:DS}{P:Nat→Th→Prop}{f:DE} (hb:∀(x:Nat),x<n→∀t,P x t→∃t1 t2,za3 i (.int (x:Int)) t=some t1∧b t1=some (.nx t2)∧P (x+1) t2) (t:Th) (hf:f t=some (.cl (.int (n:Int)))) (h:P 0 t):∃t',zg8 (za3 i) f b t=some (.nx t')∧P n t':=by
 obtain⟨t',e,h'⟩:=for_K hb n 0 t (by lia) h
 exact⟨t',(zo1 (n:=n) hf rfl (by lia)).trans e,h'⟩
abbrev tR (a b c d e:Sl) (M:List (List Int)) (s6 s7 s8 s9 s10 s11:Sl):Th:=[a,b,c,d,e,.dp (mD M),s6,s7,s8,s9,s10,s11]
theorem turn_I1 (a b c d e s9 s10 s11:Sl) {n:Nat}{M:List (List Int)} (R:Rds n M) (Y:SyM n M∧BdM n M) {o k:Nat}{ts:List Int} (hk:k<ts.length) (h0:∀x∈ts,0≤x∧x≤1000000000000) (hn:o+1+k<n):∃M',(Rds n M'∧SyM n M'∧BdM n M')∧bdI1 (tR a b c d e M (.val (.int (o:Int))) (.own (ts.map D.int)) (.val (.int (k:Int))) s9 s10 s11)=some (.nx (tR a b c d e M' (.val (.int (o:Int))) (.own (ts.map D.int)) (.val (.int (k:Int))) s9 s10 s11)):=by
 obtain⟨v0,v1⟩:0≤ts.getD k 0∧ts.getD k 0≤1000000000000:=h0 _ (by rw [zar7,zar5 hk];exact zbf1 hk)
 have R1:=zaa2 (v:=ts.getD k 0) R (i:=o) (j:=o+1+k) (by lia) hn (by lia) v0
 have R2:=zaa2 (v:=ts.getD k 0) R1 (i:=o+1+k) (j:=o) hn (by lia) (by lia) v0
 have pk:∀M',pK (tR a b c d e M' (.val (.int (o:Int))) (.own (ts.map D.int)) (.val (.int (k:Int))) s9 s10 s11)=some (.cl (.int (((o+1+k:Nat)):Int))):=fun M'=>by
  have:=zh6 (zh6 (fa:=dVar 6) (fb:=dC (.int 1)) (t:=tR a b c d e M' (.val (.int (o:Int))) (.own (ts.map D.int)) (.val (.int (k:Int))) s9 s10 s11) (a:=(o:Int)) (b:=1) rfl rfl) (rfl:dVar 8 _=some (.cl (.int (k:Int))))
  rw [show ((o+1+k:Nat):Int)=(o:Int)+1+(k:Int) by lia]
  exact this
 have tv:∀M',(d2 kIx (dVar 7) (dVar 8)) (tR a b c d e M' (.val (.int (o:Int))) (.own (ts.map D.int)) (.val (.int (k:Int))) s9 s10 s11)=some (.cl (.int (ts.getD k 0))):=fun M'=>zaf2 (fa:=dVar 7) (fb:=dVar 8) (r1:=.tm (.lst (ts.map D.int))) (r2:=.cl (.int (k:Int))) ts k rfl rfl hk rfl rfl
 have E1:=zaa0 (s:=5) (fi:=dVar 6) (ri:=.cl (.int (o:Int))) R.sq (tv M) rfl rfl rfl (pk M) rfl rfl (i:=o) (j:=o+1+k) (by lia) hn
 have E2:=zaa0 (s:=5) (fk:=dVar 6) (rk:=.cl (.int (o:Int))) R1.sq (tv _) rfl (pk _) rfl rfl rfl rfl (i:=o+1+k) (j:=o) hn (by lia)
 exact⟨_,⟨R2,sy_set2 R.sq Y.1 (by lia) hn,bd_set R1.sq (bd_set R.sq Y.2 (by lia) hn v1) hn (by lia) v1⟩,(za9 E1).trans E2⟩
theorem turn_O1 (ns:List Int) (hl:ns.length≤63) (st:Nat) (hs:st≤1000) {n:Nat} (n1:n≤1000) {q:Int} (q0:0<q) (q1:q≤1000000000001) (pl:Bool) (s9 s10 s11:Sl) {M:List (List Int)} (R:Rds n M∧SyM n M∧BdM n M) {o:Nat} (ho:o<n) (s7 s8:Sl):∃M' u7 u8,(Rds n M'∧SyM n M'∧BdM n M')∧bdO1 (tR (.val (.lst (ns.map D.int))) (.val (.int (st:Int))) (.val (.int (n:Int))) (.val (.bl pl)) (.val (.int q)) M (.val (.int (o:Int))) s7 s8 s9 s10 s11)=some (.nx (tR (.val (.lst (ns.map D.int))) (.val (.int (st:Int))) (.val (.int (n:Int))) (.val (.bl pl)) (.val (.int q)) M' (.val (.int (o:Int))) u7 u8 s9 s10 s11)):=by
 let t:Th:=tR (.val (.lst (ns.map D.int))) (.val (.int (st:Int))) (.val (.int (n:Int))) (.val (.bl pl)) (.val (.int q)) M (.val (.int (o:Int))) s7 s8 s9 s10 s11
 obtain⟨c,ec⟩:=zac4 ns hl (st+1+o) (by lia)
 obtain⟨ts,tl,t0,er⟩:=row_is c q0 (by lia) pl (n - 1 - o) (by lia)
 have em:∀s7',mR (tR (.val (.lst (ns.map D.int))) (.val (.int (st:Int))) (.val (.int (n:Int))) (.val (.bl pl)) (.val (.int q)) M (.val (.int (o:Int))) s7' s8 s9 s10 s11)=some (.cl (.int ((n - 1 - o:Nat):Int))):=fun s7'=>by
  have:=zaj8 (zaj8 (fa:=dVar 2) (fb:=dC (.int 1)) (t:=tR (.val (.lst (ns.map D.int))) (.val (.int (st:Int))) (.val (.int (n:Int))) (.val (.bl pl)) (.val (.int q)) M (.val (.int (o:Int))) s7' s8 s9 s10 s11) (a:=(n:Int)) (b:=1) rfl rfl) (rfl:dVar 6 _=some (.cl (.int (o:Int))))
  rw [show ((n - 1 - o:Nat):Int)=(n:Int) - 1 - (o:Int) by lia]
  exact this
 have e1:(dT1 (zc4 zb9) (za2 (dVar 0) (za2 (d2 qA (d2 qA (dVar 1) (dC (.int 1))) (dVar 6)) dNil))) t=some (.cl (.int c)):=by
  have a:=zh6 (zh6 (fa:=dVar 1) (fb:=dC (.int 1)) (t:=t) (a:=(st:Int)) (b:=1) rfl rfl) (rfl:dVar 6 t=some (.cl (.int (o:Int))))
  rw [show (st:Int)+1+(o:Int)=((st+1+o:Nat):Int) by lia]at a
  exact (zu1 (rfl:dVar 0 t=some (.cl (.lst (ns.map D.int)))) a).trans (zai6 ec rfl)
 have e2:(dT1 (zc4 zk7) (za2 (dT1 (zc4 zb9) (za2 (dVar 0) (za2 (d2 qA (d2 qA (dVar 1) (dC (.int 1))) (dVar 6)) dNil))) (za2 mR (za2 (dT1 kLst (za2 (dVar 4) dNil)) (za2 (dVar 3) dNil))))) t=some (.nw (ts.map D.int)) :=
  (t4_of e1 (em s7) (rfl:(dT1 kLst (za2 (dVar 4) dNil)) t=some (.nw [.int q])) (rfl:dVar 3 t=some (.cl (.bl pl)))).trans (calln er)
 have E1:=zag8 (i:=7) e2 (by simp [t])
 obtain⟨t',e3,M',u8,R',rfl⟩:=for_P (k:=za3 8) (b:=bdI1) (P:=fun t => ∃M' u8,(Rds n M'∧SyM n M'∧BdM n M')∧t=tR (.val (.lst (ns.map D.int))) (.val (.int (st:Int))) (.val (.int (n:Int))) (.val (.bl pl)) (.val (.int q)) M' (.val (.int (o:Int))) (.own (ts.map D.int)) u8 s9 s10 s11) ((ze8 (n - 1 - o)).map D.int) (fun d hd t ⟨M1,u8,R1,et⟩=>by
  obtain⟨x,hx,rfl⟩:=zau7.mp hd
  have xr:=zaf0 hx
  obtain⟨k,rfl⟩:∃k:Nat,x=(k:Int):=⟨x.toNat,by lia⟩
  subst et
  obtain⟨M2,R2,e⟩:=turn_I1 (.val (.lst (ns.map D.int))) (.val (.int (st:Int))) (.val (.int (n:Int))) (.val (.bl pl)) (.val (.int q)) s9 s10 s11 R1.1 R1.2 (o:=o) (k:=k) (ts:=ts) (by lia) (fun x hx=>⟨(t0 x hx).1,by have:=(t0 x hx).2;lia⟩) (by lia)
  exact⟨_,_,rfl,e,M2,_,R2,rfl⟩) (tR (.val (.lst (ns.map D.int))) (.val (.int (st:Int))) (.val (.int (n:Int))) (.val (.bl pl)) (.val (.int q)) M (.val (.int (o:Int))) (.own (ts.map D.int)) s8 s9 s10 s11) ⟨M,s8,R,rfl⟩
 refine⟨M',.own (ts.map D.int),u8,R',(za9 E1).trans ?_⟩
 exact (zo1 (n:=n - 1 - o) (em _) rfl (by lia)).trans e3
theorem turn_T1 (a b c d e s7 s8:Sl) {n:Nat}{M:List (List Int)} (R:Rds n M) {o p th:Nat} (ho:o<n) (hp:p<n) (ht:th<n) (s11:Sl):∃M' u11,(Rds n M'∧∀i j:Nat,eM M' i j=if i=o∧j=p then nxM M th o p else eM M i j)∧bdT1 (tR a b c d e M (.val (.int (o:Int))) s7 s8 (.val (.int (th:Int))) (.val (.int (p:Int))) s11)=some (.nx (tR a b c d e M' (.val (.int (o:Int))) s7 s8 (.val (.int (th:Int))) (.val (.int (p:Int))) u11)):=by
 let t:Th:=tR a b c d e M (.val (.int (o:Int))) s7 s8 (.val (.int (th:Int))) (.val (.int (p:Int))) s11
 have g1:=zt3 (fa:=dVar 5) (fb:=dVar 6) (fc:=dVar 9) (t:=t) (r1:=.tm (mD M)) (i:=(o:Int)) (j:=(th:Int)) R.sq rfl rfl rfl rfl (by lia) (by lia) (by lia) (by lia)
 have g2:=zt3 (fa:=dVar 5) (fb:=dVar 9) (fc:=dVar 10) (t:=t) (r1:=.tm (mD M)) (i:=(th:Int)) (j:=(p:Int)) R.sq rfl rfl rfl rfl (by lia) (by lia) (by lia) (by lia)
 have E1:=zg9 (i:=11) (zh6 g1 g2) (by simp [t])
 let t1:Th:=tR a b c d e M (.val (.int (o:Int))) s7 s8 (.val (.int (th:Int))) (.val (.int (p:Int))) (.val (.int (gM M (o:Int) (th:Int)+gM M (th:Int) (p:Int))))
 have g3:=zt3 (fa:=dVar 5) (fb:=dVar 6) (fc:=dVar 10) (t:=t1) (r1:=.tm (mD M)) (i:=(o:Int)) (j:=(p:Int)) R.sq rfl rfl rfl rfl (by lia) (by lia) (by lia) (by lia)
 have cc:=zam2 (rfl:dVar 11 t1=some (.cl (.int (gM M (o:Int) (th:Int)+gM M (th:Int) (p:Int))))) g3
 have w1:0≤gM M (o:Int) (th:Int):=R.nn o th ho ht
 have w2:0≤gM M (th:Int) (p:Int):=R.nn th p ht hp
 by_cases z:gM M (o:Int) (th:Int)+gM M (th:Int) (p:Int)<gM M (o:Int) (p:Int)
 ·have ne:o≠p:=fun q=>by
   subst q
   have:gM M (o:Int) (o:Int)=0:=R.dg o ho
   lia
  have R1:=zaa2 (v:=gM M (o:Int) (th:Int)+gM M (th:Int) (p:Int)) R (i:=o) (j:=p) ho hp ne (by lia)
  have E2:=zaa0 (s:=5) (t:=t1) (fi:=dVar 6) (fk:=dVar 10) (fv:=dVar 11) (v:=gM M (o:Int) (th:Int)+gM M (th:Int) (p:Int)) (ri:=.cl (.int (o:Int))) (rk:=.cl (.int (p:Int))) (rv:=.cl (.int (gM M (o:Int) (th:Int)+gM M (th:Int) (p:Int)))) R.sq rfl rfl rfl rfl rfl rfl rfl (i:=o) (j:=p) ho hp
  refine⟨_,_,⟨R1,fun i j=>?_⟩,(za9 E1).trans ((zai2 cc (decide_eq_true z)).trans E2)⟩
  have nv:nxM M th o p=gM M (o:Int) (th:Int)+gM M (th:Int) (p:Int):=if_pos z
  rw [nv]
  exact zh1 R.sq _ ho hp i j
 ·refine⟨M,_,⟨R,fun i j=>?_⟩,(za9 E1).trans (grd cc (decide_eq_false z))⟩
  have nv:nxM M th o p=eM M o p:=if_neg z
  rw [nv]
  split
  ·rename_i w;rw [w.1,w.2]
  ·rfl
theorem rng_P {n:Nat} (hn:n≤1000) {i:Nat}{b:DS}{P:Th→Prop}{f:DE} (hP:∀t,P t→f t=some (.cl (.int (n:Int)))) (hb:∀(x:Nat),x<n→∀t,P t→∃t1 t2,za3 i (.int (x:Int)) t=some t1∧b t1=some (.nx t2)∧P t2):∀t,P t→∃t',zg8 (za3 i) f b t=some (.nx t')∧P t':=fun t h=>by
 obtain⟨t',e,h'⟩:=for_P (k:=za3 i) (b:=b) (P:=P) ((ze8 n).map D.int) (fun d hd t1 h1=>by
  obtain⟨x,hx,rfl⟩:=zau7.mp hd
  have xr:=zaf0 hx
  obtain⟨k,rfl⟩:∃k:Nat,x=(k:Int):=⟨x.toNat,by lia⟩
  exact hb k (by lia) t1 h1) t h
 exact⟨t',(zo1 (n:=n) (hP t h) rfl (by lia)).trans e,h'⟩
theorem mxR_of (t:Th):mxR t=some (.nw ([4,30,1000,1000000000001].map D.int)):=by
 unfold mxR
 exact (t4_of (rfl:dC (.int 4) t=some (.cl (.int 4))) (rfl:dC (.int 30) t=some (.cl (.int 30))) (rfl:dC (.int 1000) t=some (.cl (.int 1000))) (zh6 (pow12 t) (rfl:dC (.int 1) t=some (.cl (.int 1))))).trans rfl
theorem zy8 {n:Nat}{ext:Th}{fe:DE}{d:D} (he:∀x:Int,∃r,fe (.val (.int x)::ext)=some r∧toDn r=some d):∀(l:List Int) (s:Sl),ze4 (za3 0) zd9 fe (l.map D.int) (s::ext)=some (zar6 l.length d)
 |[],s=>rfl
 |x::l,s=>by
  obtain⟨r,e,er⟩:=he x
  have e0:za3 0 (.int x) (s::ext)=some (.val (.int x)::ext):=rfl
  have ih:=zy8 (n:=n) he l (.val (.int x))
  simp only [zas1,ze4,e0,zar2,zd9,if_true,e,er,ih,zau4,zau3,zau5]
theorem roads_of (ns:List Int) (hl:ns.length≤63) (st:Nat) (hs:st≤1000) {n:Nat} (n0:0<n) (n1:n≤900):∃M,(Rds n M∧SyM n M∧TrM n n M∧BdM n M)∧ze5 [.lst (ns.map D.int),.int (st:Int),.int (n:Int)]=some (.dn (mD M)):=by
 let N:Sl:=.val (.lst (ns.map D.int))
 let A:Sl:=.val (.int (st:Int))
 let B:Sl:=.val (.int (n:Int))
 obtain⟨c,ec⟩:=zac4 ns hl st (by lia)
 have c1:∀r,(dT1 (zc4 zb9) (za2 (dVar 0) (za2 (dVar 1) dNil))) (N::A::r)=some (.cl (.int c)):=fun r=>(zu1 (rfl:dVar 0 (N::A::r)=some (.cl (.lst (ns.map D.int)))) (rfl:dVar 1 (N::A::r)=some (.cl (.int (st:Int))))).trans (zai6 ec rfl)
 have E1:dAsg 3 (d2 kEq (d2 qR (dT1 (zc4 zb9) (za2 (dVar 0) (za2 (dVar 1) dNil))) (dC (.int 2))) (dC (.int 1))) [N,A,B,.no,.no,.no,.no,.no,.no,.no,.no,.no]=some (.nx [N,A,B,.val (.bl (decide (c.fmod 2=1))),.no,.no,.no,.no,.no,.no,.no,.no]) :=
  zg9 (i:=3) (eqv_of (zg7 (c1 _) (fb:=dC (.int 2)) (b:=2) rfl (by decide)) (fb:=dC (.int 1)) (b:=1) rfl) (by simp)
 generalize decide (c.fmod 2=1)=pl at E1
 obtain⟨k4,hk4,ek⟩:∃k:Nat,k<4∧(c.fdiv 2).fmod 4=(k:Int):=by
  have:=fm (a:=c.fdiv 2) (b:=4) (by decide)
  exact⟨((c.fdiv 2).fmod 4).toNat,by lia,by lia⟩
 obtain⟨q,q0,q1,e2⟩:∃q:Int,0<q∧q≤1000000000001∧(d2 kIx mxR (d2 qR (d2 qV (dT1 (zc4 zb9) (za2 (dVar 0) (za2 (dVar 1) dNil))) (dC (.int 2))) (dC (.int 4)))) [N,A,B,.val (.bl pl),.no,.no,.no,.no,.no,.no,.no,.no]=some (.cl (.int q)):=by
  refine⟨[4,30,1000,1000000000001].getD k4 0,?_,?_,?_⟩
  ·rcases (by lia:k4=0∨k4=1∨k4=2∨k4=3) with rfl | rfl | rfl | rfl<;>simp
  ·rcases (by lia:k4=0∨k4=1∨k4=2∨k4=3) with rfl | rfl | rfl | rfl<;>simp
  ·refine (zg1 (mxR_of _) (zg7 (zag1 (c1 _) (fb:=dC (.int 2)) (b:=2) rfl (by decide) (sm_of (by decide) (by decide))) (fb:=dC (.int 4)) (b:=4) rfl (by decide))).trans ?_
   rw [ek]
   exact ixEv _ k4 (by simpa using hk4) rfl rfl
 have E2:=zg9 (i:=4) e2 (by simp)
 let P3:Sl:=.val (.bl pl)
 let Q4:Sl:=.val (.int q)
 have E3:dAsg 5 (zh5 1 [2] (fsR1 (dVar 2)) (za3 0) zd9 (d2 qM (dT1 kLst (za2 (dC (.int 0)) dNil)) (dVar 1))) [N,A,B,P3,Q4,.no,.no,.no,.no,.no,.no,.no]=some (.nx (tR N A B P3 Q4 (zar6 n (zar6 n 0)) .no .no .no .no .no .no)):=by
  have w1:=rng_is (f:=dVar 2) (t:=[N,A,B,P3,Q4,.no,.no,.no,.no,.no,.no,.no]) (n:=n) rfl (by lia)
  have w2:=zy8 (n:=n) (ext:=[.val (.int (n:Int))]) (fe:=(d2 qM (dT1 kLst (za2 (dC (.int 0)) dNil)) (dVar 1))) (d:=rwD (zar6 n 0)) (fun x=>⟨_,repn_of (x:=0) (m:=n) rfl rfl n1,by simp only [toDn,ze0,if_true];rfl⟩) (ze8 n) .no
  rw [zk0]at w2
  unfold dAsg zh5
  rw [w1]
  show Option.bind (if ((ze8 n).map D.int).length≤50000 then (ze4 (za3 0) zd9 _ ((ze8 n).map D.int) [Sl.no,.val (.int (n:Int))]).map (fun xs=>Ev.dn (.lst xs)) else none) _=_
  rw [if_pos (by rw [zas7,zk0];lia),w2]
  show some (Out.nx [N,A,B,P3,Q4,.dp (.lst (zar6 n (rwD (zar6 n 0)))),.no,.no,.no,.no,.no,.no])=_
  have:zar6 n (rwD (zar6 n 0))=(zar6 n (zar6 n (0:Int))).map rwD:=by rw [List.map_replicate]
  rw [this]
  rfl
 obtain⟨t4,E4,M4,u6,u7,u8,R4,rfl⟩:=rng_P (n:=n) (by lia) (i:=6) (b:=bdO1) (f:=dVar 2) (P:=fun t => ∃M u6 u7 u8,(Rds n M∧SyM n M∧BdM n M)∧t=tR N A B P3 Q4 M u6 u7 u8 .no .no .no) (fun t ⟨M,u6,u7,u8,_,e⟩=>by subst e;rfl) (fun x hx t ⟨M,u6,u7,u8,R,e⟩=>by
  subst e
  obtain⟨M',v7,v8,R',e⟩:=turn_O1 ns hl st hs (by lia) q0 q1 pl .no .no .no R hx u7 u8
  exact⟨_,_,rfl,e,M',_,v7,v8,R',rfl⟩) (tR N A B P3 Q4 (zar6 n (zar6 n 0)) .no .no .no .no .no .no) ⟨_,.no,.no,.no,⟨rds_zero n,sy_zero n,bd_zero n⟩,rfl⟩
 obtain⟨t5,E5,M5,v6,v9,v10,v11,R5,rfl⟩:=rng_K (n:=n) (by lia) (i:=9) (b:=(zg8 (za3 6) (dVar 2) (zg8 (za3 10) (dVar 2) bdT1))) (f:=dVar 2) (P:=fun th t => ∃M v6 v9 v10 v11,(Rds n M∧SyM n M∧TrM n th M∧BdM n M)∧t=tR N A B P3 Q4 M v6 u7 u8 v9 v10 v11) (fun th hth t ⟨M,v6,v9,v10,v11,R0,e⟩=>by
  subst e
  obtain⟨t',e',M',w6,w10,w11,R',rfl⟩:=rng_K (n:=n) (by lia) (i:=6) (b:=(zg8 (za3 10) (dVar 2) bdT1)) (f:=dVar 2) (P:=fun o t => ∃M1 w6 w10 w11,(Rds n M1∧∀i j:Nat,i<n→j<n→eM M1 i j=if i<o then nxM M th i j else eM M i j)∧t=tR N A B P3 Q4 M1 w6 u7 u8 (.val (.int (th:Int))) w10 w11) (fun o ho t ⟨M1,w6,w10,w11,R1,e⟩=>by
   subst e
   obtain⟨t',e',M',x10,x11,R',rfl⟩:=rng_K (n:=n) (by lia) (i:=10) (b:=bdT1) (f:=dVar 2) (P:=fun p t => ∃M2 x10 x11,(Rds n M2∧∀i j:Nat,i<n→j<n→eM M2 i j=if i<o∨(i=o∧j<p) then nxM M th i j else eM M i j)∧t=tR N A B P3 Q4 M2 (.val (.int (o:Int))) u7 u8 (.val (.int (th:Int))) x10 x11) (fun p hp t ⟨M2,x10,x11,R2,e⟩=>by
    subst e
    obtain⟨M',y11,R',e⟩:=turn_T1 N A B P3 Q4 u7 u8 R2.1 ho hp hth x11
    refine⟨_,_,rfl,e,M',_,y11,⟨R'.1,fun i j hi hj=>?_⟩,rfl⟩
    rw [R'.2 i j]
    by_cases z:i=o∧j=p
    ·obtain⟨rfl,rfl⟩:=z
     rw [if_pos ⟨rfl,rfl⟩,if_pos (Or.inr ⟨rfl,zav5 _⟩)]
     have k1:eM M2 i th=eM M i th:=by
      rw [R2.2 i th hi hth]
      split
      ·exact nx_row R0.1 hth hi
      ·rfl
     have k2:eM M2 th j=eM M th j:=by
      rw [R2.2 th j hth hj]
      split
      ·exact nx_col R0.1 hth hj
      ·rfl
     have k3:eM M2 i j=eM M i j:=by
      rw [R2.2 i j hi hj,if_neg (by lia)]
     unfold nxM
     rw [k1,k2,k3]
    ·rw [if_neg z,R2.2 i j hi hj]
     by_cases y:i<o∨(i=o∧j<p)
     ·rw [if_pos y,if_pos (by lia)]
     ·rw [if_neg y,if_neg (by lia)]) (tR N A B P3 Q4 M1 (.val (.int (o:Int))) u7 u8 (.val (.int (th:Int))) w10 w11) rfl ⟨M1,w10,w11,⟨R1.1,fun i j hi hj=>by
      rw [R1.2 i j hi hj]
      by_cases y:i<o
      ·rw [if_pos y,if_pos (Or.inl y)]
      ·rw [if_neg y,if_neg (by lia)]⟩,rfl⟩
   refine⟨_,_,rfl,e',M',_,x10,x11,⟨R'.1,fun i j hi hj=>?_⟩,rfl⟩
   rw [R'.2 i j hi hj]
   by_cases y:i<o∨(i=o∧j<n)
   ·rw [if_pos y,if_pos (by lia)]
   ·rw [if_neg y,if_neg (by lia)]) (tR N A B P3 Q4 M v6 u7 u8 (.val (.int (th:Int))) v10 v11) rfl ⟨M,v6,v10,v11,⟨R0.1,fun i j _ _=>by rw [if_neg (by lia)]⟩,rfl⟩
  have ful:∀i j:Nat,i<n→j<n→eM M' i j=nxM M th i j:=fun i j hi hj=>by rw [R'.2 i j hi hj,if_pos hi]
  exact⟨_,_,rfl,e',M',w6,_,w10,w11,⟨R'.1,nx_sym R0.2.1 hth ful,nx_tri R0.1 R0.2.2.1 hth ful,fun i j hi hj=>by rw [ful i j hi hj];exact Int.le_trans (nx_le (M:=M) th i j).1 (R0.2.2.2 i j hi hj)⟩,rfl⟩) (tR N A B P3 Q4 M4 u6 u7 u8 .no .no .no) rfl ⟨M4,u6,.no,.no,.no,⟨R4.1,R4.2.1,fun t i j ht=>absurd ht (Nat.not_lt_zero t),R4.2.2⟩,rfl⟩
 refine⟨M5,R5,?_⟩
 show (zm3 [N,A,B,.no,.no,.no,.no,.no,.no,.no,.no,.no]).bind zo3=_
 show (dSeq _ (dSeq (dAsg 4 (d2 kIx mxR _)) (dSeq _ (dSeq (zg8 (za3 6) (dVar 2) bdO1) (dSeq (zg8 (za3 9) (dVar 2) (zg8 (za3 6) (dVar 2) (zg8 (za3 10) (dVar 2) bdT1))) _)))) _).bind zo3=_
 refine bnd ?_
 refine (za9 E1).trans ?_
 refine (za9 E2).trans ?_
 refine (za9 E3).trans ?_
 refine (za9 E4).trans ?_
 refine (za9 E5).trans ?_
 rfl
end KX
set_option maxHeartbeats 1000000
namespace KX
open PySem.Spec L2 DL
theorem zy1:∀bs:List Bool,flats (bs.map D.bl)=true
 |[]=>rfl
 |b::bs=>by simp [flats,flat,zy1 bs]
theorem andv_of {f g:DE}{t:Th}{a b:Bool} (h1:f t=some (.cl (.bl a))) (h2:a=true→g t=some (.cl (.bl b))):zap3 f g t=some (.cl (.bl (a&&b))):=by
 unfold zap3
 rw [h1]
 cases a with
 |true=>exact h2 rfl
 |false=>rfl
theorem in_G {n:Nat}{M:List (List Int)} (S:Sq n M) {a:Int} (X:D) (a0:0≤a) (a1:a<(n:Int)):∀(l:List Int) (s1:Sl),(∀x∈l,0≤x∧x<(n:Int))→∃s1',zk4 (za3 1) zd9 feG (l.map D.int) [.val (.int a),s1,.val X,.val (mD M)]=some ((l.map fun b=>tD (wM n M) (a,b)),[.val (.int a),s1',.val X,.val (mD M)])
 |[],s1,_=>⟨s1,rfl⟩
 |b::l,s1,h=>by
  have hb:=h b (zar4 ..)
  obtain⟨s1',ih⟩:=in_G S X a0 a1 l (.val (.int b)) fun x hx=>h x (zar1 _ hx)
  refine⟨s1',?_⟩
  let t:Th:=[.val (.int a),.val (.int b),.val X,.val (mD M)]
  have e0:za3 1 (.int b) [.val (.int a),s1,.val X,.val (mD M)]=some t:=rfl
  have x:=zt3 S (fa:=dVar 3) (fb:=dVar 0) (fc:=dVar 1) (t:=t) (r1:=.cl (mD M)) (i:=a) (j:=b) rfl rfl rfl rfl a0 a1 hb.1 hb.2
  have e2:feG t=some (.cl (tD (wM n M) (a,b))):=by
   unfold tD
   rw [wM_is a0 a1 hb.1 hb.2]
   exact (t3_of x (rfl:dVar 0 t=some (.cl (.int a))) (rfl:dVar 1 t=some (.cl (.int b)))).trans rfl
  simp only [zas1,zk4,e0,zar2,zd9,if_true,e2]
  rw [show zk4 (za3 1) zd9 feG (l.map D.int) t=_ from ih]
  rfl
theorem out_G {n:Nat}{M:List (List Int)} (S:Sq n M) {A:List Int} (hA:∀x∈A,0≤x∧x<(n:Int)):∀(l:List Int) (s0 s1:Sl),(∀x∈l,0≤x∧x<(n:Int))→zk5 (za3 0) zd9 (fsL (dVar 2)) (za3 1) zd9 feG (l.map D.int) [s0,s1,.val (.lst (A.map D.int)),.val (mD M)]=some ((l.flatMap fun a=>A.map fun b=>(a,b)).map (tD (wM n M)))
 |[],s0,s1,_=>rfl
 |a::l,s0,s1,h=>by
  have ha:=h a (zar4 ..)
  obtain⟨s1',e2⟩:=in_G S (.lst (A.map D.int)) ha.1 ha.2 A s1 hA
  have ih:=out_G S hA l (.val (.int a)) s1' fun x hx=>h x (zar1 _ hx)
  have e0:za3 0 (.int a) [s0,s1,.val (.lst (A.map D.int)),.val (mD M)]=some [.val (.int a),s1,.val (.lst (A.map D.int)),.val (mD M)]:=rfl
  have e1:fsL (dVar 2) [.val (.int a),s1,.val (.lst (A.map D.int)),.val (mD M)]=some (true,A.map D.int):=rfl
  simp only [zas1,zk5,e0,zar2,zd9,if_true,e1,e2,ih,zau4,zaw1,zaz2,zbd3]
  rfl
theorem zr5 (A:List Int):∀l:List Int,(l.flatMap fun a=>A.map fun b=>(a,b)).length=l.length*A.length
 |[]=>by simp
 |a::l=>by
  simp only [zaw1,zat5,zas7,zau3,Nat.add_mul,Nat.one_mul,zr5 A l]
  lia
theorem zaf7 (w:Int→Int→Int):∀l:List Ed,flats (l.map (tD w))=true
 |[]=>rfl
 |e::l=>by simp only [zas1,flats,zaf7 w l];rfl
def cdG:DT:=(dTr (dVar 2))
theorem turn_G {n:Nat}{M:List (List Int)} (S:Sq n M) {P U:List Int}{T:List Ed} (hP:∀x∈P,0≤x∧x<(n:Int)) (hU:∀x∈U,0≤x∧x<(n:Int)) (pn:P≠[]) (un:U≠[]) (lp:P.length≤100) (lu:U.length≤100) (lt:T.length≤100) (s4 s5 s6:Sl) :
  ∃(e:Ed) (u4 u5 u6:Sl),e.1∈P∧e.2∈U∧(∀a∈P,∀b∈U,Lq (wM n M) e (a,b))∧bdG [.val (mD M),.own (P.map D.int),.own (U.map D.int),.own (T.map pD),s4,s5,s6]=some (.nx [.val (mD M),.own ((P++[e.2]).map D.int),.own ((U.erase e.2).map D.int),.own ((T++[e]).map pD),u4,u5,u6]):=by
 let t:Th:=[.val (mD M),.own (P.map D.int),.own (U.map D.int),.own (T.map pD),s4,s5,s6]
 have c2:(zt6 2 [2,0] (fsL (dVar 1)) (za3 0) zd9 (fsL (dVar 2)) (za3 1) zd9 feG) t=some (.nw ((P.flatMap fun a=>U.map fun b=>(a,b)).map (tD (wM n M)))):=by
  have e2:=out_G S (A:=U) hU P .no .no hP
  unfold zt6
  show (zk5 (za3 0) zd9 (fsL (dVar 2)) (za3 1) zd9 feG (P.map D.int) [.no,.no,.val (.lst (U.map D.int)),.val (mD M)]).bind _=_
  rw [e2]
  have ll:=zr5 U P
  have:P.length*U.length≤100*100:=zbb2 lp lu
  simp only [zar2,zaf7,zaw3,zas7]
  rw [if_pos (decide_eq_true (by lia))]
 have ne:(P.flatMap fun a=>U.map fun b=>(a,b))≠[]:=fun z=>by
  have:=zr5 U P
  rw [z]at this
  have p1:0<P.length:=zbd6.mpr pn
  have p2:0<U.length:=zbd6.mpr un
  have:=Nat.mul_pos p1 p2
  simp only [zbc6]at *
  lia
 obtain⟨e,m,le,e3⟩:=extL_of c2 rfl ne
 obtain⟨a,ma,mb'⟩:=zbf3.mp m
 obtain⟨b,mb,z⟩:=zau7.mp mb'
 subst z
 refine⟨(a,b),.val (tD (wM n M) (a,b)),.val (.int a),.val (.int b),ma,mb,fun x hx y hy=>le (x,y) (zbf3.mpr ⟨x,hx,zau7.mpr ⟨y,hy,rfl⟩⟩),?_⟩
 have E1:=zg9 (i:=4) e3 (by simp [t])
 have E2:(dPar 5 6 (za2 (d2 kIx (dVar 4) (dC (.int 1))) (za2 (d2 kIx (dVar 4) (dC (.int 2))) dNil))) [.val (mD M),.own (P.map D.int),.own (U.map D.int),.own (T.map pD),.val (tD (wM n M) (a,b)),s5,s6]=some (.nx [.val (mD M),.own (P.map D.int),.own (U.map D.int),.own (T.map pD),.val (tD (wM n M) (a,b)),.val (.int a),.val (.int b)]):=rfl
 let t2:Th:=[.val (mD M),.own (P.map D.int),.own (U.map D.int),.own (T.map pD),.val (tD (wM n M) (a,b)),.val (.int a),.val (.int b)]
 have E3:=app_of (i:=3) t2 (f:=(dT1 kTup (za2 (dVar 5) (za2 (dVar 6) dNil)))) (d:=pD (a,b)) (xs:=T.map pD) rfl rfl (by simp;lia)
 have E4:=zs3 (i:=1) (t2.set 3 (.own (T.map pD++[pD (a,b)]))) (f:=dVar 6) (xs:=P) (p:=b) rfl rfl (by lia)
 have E5:=rem_of (i:=2) (t:=[.val (mD M),.own ((P++[b]).map D.int),.own (U.map D.int),.own (T.map pD++[pD (a,b)]),.val (tD (wM n M) (a,b)),.val (.int a),.val (.int b)]) (f:=dVar 6) (r:=.cl (.int b)) (K:=U) (p:=b) rfl rfl rfl mb
 have:=(za9 E1).trans ((za9 E2).trans ((za9 E3).trans ((za9 E4).trans E5)))
 rw [show ((T++[(a,b)]).map pD)=T.map pD++[pD (a,b)] by simp]
 exact this
theorem zai9 {n:Nat}{M:List (List Int)} (S:Sq n M):∀(m f:Nat) (P U:List Int) (T:List Ed) (s4 s5 s6:Sl),U.length=m→m<f→(∀x∈P,0≤x∧x<(n:Int))→(∀x∈U,0≤x∧x<(n:Int))→P≠[]→P.length+m≤100→T.length+m≤100 →
  ∃(P':List Int) (T':List Ed) (u4 u5 u6:Sl),PrimL (wM n M) P U T'∧T'.length=m∧whD cdG bdG f [.val (mD M),.own (P.map D.int),.own (U.map D.int),.own (T.map pD),s4,s5,s6]=some (.nx [.val (mD M),.own (P'.map D.int),.own [],.own ((T++T').map pD),u4,u5,u6])
 |0,f+1,P,U,T,s4,s5,s6,hm,hf,hP,hU,pn,lp,lt=>by
  cases zav9.mp hm
  refine⟨P,[],s4,s5,s6,.nil,rfl,?_⟩
  rw [zau6]
  rfl
 |m+1,f+1,P,U,T,s4,s5,s6,hm,hf,hP,hU,pn,lp,lt=>by
  have un:U≠[]:=fun z=>by rw [z]at hm;simp at hm
  obtain⟨e,u4,u5,u6,m1,m2,le,eb⟩:=turn_G S (T:=T) hP hU pn un (by lia) (by lia) (by lia) s4 s5 s6
  obtain⟨P',T',v4,v5,v6,pr,lT,ih⟩:=zai9 S m f (P++[e.2]) (U.erase e.2) (T++[e]) u4 u5 u6 (by rw [zax2 m2];lia) (by lia)
   (fun x hx=>by rcases zar3.mp hx with q | q;exact hP x q;rw [zas2]at q;subst q;exact hU _ m2)
   (fun x hx=>hU x (zaz6 hx)) (by simp) (by simp;lia) (by simp;lia)
  refine⟨P',e::T',v4,v5,v6,.cons m1 m2 le pr,by simp [lT],?_⟩
  have cd:cdG [.val (mD M),.own (P.map D.int),.own (U.map D.int),.own (T.map pD),s4,s5,s6]=some true:=by
   cases U with
   |nil=>exact absurd rfl un
   |cons a U=>rfl
  unfold whD
  rw [cd]
  simp only [zar2,if_true,eb]
  rw [ih,zax3]
  rfl
def zn6 (n:Nat):List Int:=(zat6 (n - 1)).map fun k=>((k+1:Nat):Int)
theorem late_of {f:DE}{t:Th}{n:Nat} (h:f t=some (.cl (.int (n:Int)))) (n0:1≤n) (n1:n≤40):(zy5 (za2 (dC (.int 1)) (za2 f dNil))) t=some (.nw ((zn6 n).map D.int)):=by
 unfold zy5
 rw [show (za2 (dC (.int 1)) (za2 f dNil)) t=some [.cl (.int 1),.cl (.int (n:Int))] by simp [za2,dC,h,dNil]]
 rcases (by lia:n=1∨n=2∨n=3∨n=4∨n=5∨n=6∨n=7∨n=8∨n=9∨n=10∨n=11∨n=12∨n=13∨n=14∨n=15∨n=16∨n=17∨n=18∨n=19∨n=20∨n=21∨n=22∨n=23∨n=24∨n=25∨n=26∨n=27∨n=28∨n=29∨n=30∨n=31∨n=32∨n=33∨n=34∨n=35∨n=36∨n=37∨n=38∨n=39∨n=40) with z | z | z | z | z | z | z | z | z | z | z | z | z | z | z | z | z | z | z | z | z | z | z | z | z | z | z | z | z | z | z | z | z | z | z | z | z | z | z | z<;>subst z<;>rfl
theorem zl2 {n:Nat}{x:Int} (h:x∈zn6 n):1≤x∧x<(n:Int):=by
 obtain⟨k,hk,rfl⟩:=zau7.mp h
 have:=zaz7.mp hk
 lia
theorem mem_late {n:Nat}{x:Int} (h0:1≤x) (h1:x<(n:Int)):x∈zn6 n:=zau7.mpr ⟨x.toNat - 1,zaz7.mpr (by lia),by lia⟩
theorem zam8 (n:Nat):(zn6 n).Nodup:=by
 unfold zn6
 refine List.pairwise_map.mpr ?_
 exact (List.nodup_range (n:=n - 1)).imp fun h e=>h (by lia)
theorem tree_is {n:Nat}{M:List (List Int)} (S:Sq n M) (n0:1≤n) (n1:n≤40):∃T:List Ed,PrimL (wM n M) [0] (zn6 n) T∧T.length=n - 1∧zh7 [mD M]=some (.nw (T.map pD)):=by
 let t:Th:=[.val (mD M),.own ([0].map D.int),.no,.no,.no,.no,.no]
 have ln:=zab2 (f:=dVar 0) (t:=t) (r:=.cl (mD M)) rfl rfl
 rw [S.len]at ln
 have E1:dAsg 1 (dT1 kLst (za2 (dC (.int 0)) dNil)) [.val (mD M),.no,.no,.no,.no,.no,.no]=some (.nx t):=rfl
 have E2:=zag8 (i:=2) (late_of ln n0 n1) (by simp [t])
 have ll:(zn6 n).length=n - 1:=by simp [zn6]
 obtain⟨P',T,u4,u5,u6,pr,lT,E4⟩:=zai9 S (n - 1) 60 [0] (zn6 n) [] .no .no .no ll (by lia) (fun x hx=>by simp at hx;lia) (fun x hx=>by have:=zl2 hx;lia) (by simp) (by simp;lia) (by simp;lia)
 refine⟨T,pr,lT,?_⟩
 show (zk2 [.val (mD M),.no,.no,.no,.no,.no,.no]).bind zo3=_
 have E3:dAsg 3 (dT1 kLst dNil) [.val (mD M),.own ([0].map D.int),.own ((zn6 n).map D.int),.no,.no,.no,.no]=some (.nx [.val (mD M),.own ([0].map D.int),.own ((zn6 n).map D.int),.own (([]:List Ed).map pD),.no,.no,.no]):=rfl
 exact bnd ((za9 E1).trans ((za9 E2).trans ((za9 E3).trans ((za9 (show zy4 (fun _=>60) cdG bdG _=_ from E4)).trans rfl))))
def zi2 (T:List Ed) (u:Int):List Int:=(T.filter fun e=>decide (e.1=u)).map (·.2)
def chI (T:List Ed) (u:Int):List Int:=zh0 (zi2 T u)
theorem hngI (T:List Ed):Hng T (chI T):=⟨fun u=>zd3 _⟩
theorem zp7 (T:List Ed) (u:Int):(zi2 T u).length≤T.length:=by
 unfold zi2
 rw [zas7]
 exact List.length_filter_le ..
theorem kids_mem {T:List Ed}{u x:Int} (h:x∈zi2 T u):∃e∈T,e.2=x:=by
 obtain⟨e,he,z⟩:=zau7.mp h
 exact⟨e,(zaz1.mp he).1,z⟩
def hgM (n:Nat) (T:List Ed):List (List Int):=(zat6 n).map fun (p:Nat)=>zi2 T (p:Int)
theorem zaf5 {n:Nat}{T:List Ed}{q:Nat} (h:q<n):(hgM n T)[q]?=some (zi2 T (q:Int)):=by simp [hgM,h]
theorem hg_getD {n:Nat}{T:List Ed}{q:Int} (h0:0≤q) (h1:q<(n:Int)):(hgM n T).getD q.toNat []=zi2 T q:=by
 rw [zar7,zaf5 (by lia),zax4 h0]
 rfl
theorem hg_snoc {n:Nat} (l:List Ed) (e:Ed) (h0:0≤e.1) (h1:e.1<(n:Int)):((hgM n l).map rwD).set e.1.toNat (.lst ((zi2 l e.1).map D.int++[.int e.2]))=(hgM n (l++[e])).map rwD:=by
 apply zbe4
 intro p
 have hl:((hgM n l).map rwD).length=n:=by simp [hgM]
 have kp:zi2 (l++[e]) (p:Int)=zi2 l (p:Int)++(if e.1=(p:Int) then [e.2] else []):=by
  unfold zi2
  rw [List.filter_append,zaz2]
  congr 1
  by_cases z:e.1=(p:Int)<;>simp [z]
 by_cases hp:p<n
 ·rw [zbe5,zat7,zat7,zaf5 hp,zaf5 hp,kp]
  by_cases z:e.1.toNat=p
  ·have z':e.1=(p:Int):=by lia
   rw [if_pos z,if_pos (by lia),if_pos z',z']
   simp [rwD]
  ·rw [if_neg z,if_neg (by lia),zau6]
 ·rw [zay2 (by rw [zba1];lia),zay2 (by simp [hgM];lia)]
theorem appR_of {t:Th}{i a:Nat}{rows ds:List D}{f:DE}{fa:DE}{b:Int} (hi:t[i]?=some (.dp (.lst rows))) (ha:fa t=some (.cl (.int (a:Int)))) (hf:f t=some (.cl (.int b))) (hr:rows[a]?=some (.lst ds)) (hl:ds.length<100000):zai5 i [fa] f t=some (.nx (t.set i (.dp (.lst (rows.set a (.lst (ds++[.int b]))))))):=by
 have la:a<rows.length:=(zav6.mp hr).1
 unfold zai5
 have ep:pthD [fa] t=some [(a:Int)]:=by
  unfold pthD
  rw [ha]
  rfl
 rw [ep,hf]
 show zan5 t i [(a:Int)] (.cl (.int b))=_
 unfold zan5
 rw [hi]
 have eg:getP (.lst rows) [(a:Int)]=some (.lst ds):=by
  show (atI rows (a:Int)).bind (fun x=>getP x [])=_
  unfold atI
  rw [zt2 _ a la]
  show (rows[a]?).bind _=_
  rw [hr]
  rfl
 have eq:putP (.lst rows) [(a:Int)] (.lst (ds++[.int b]))=some (.lst (rows.set a (.lst (ds++[.int b])))):=by
  show (ixN rows.length (a:Int)).bind _=_
  rw [zt2 _ a la]
  show (rows[a]?).bind _=_
  rw [hr]
  rfl
 simp only [eg]
 show (if flat (D.int b)&&decide (ds.length<100000) then _ else none)=_
 rw [decide_eq_true hl]
 show (putP (.lst rows) [(a:Int)] (.lst (ds++[.int b]))).map _=_
 rw [eq]
 rfl
def bdH:DS:=(zai5 2 [(dVar 3)] (dVar 4))
theorem loop_H {s0 s1 s5 s6:Sl}{n:Nat}:∀(T l:List Ed) (s3 s4:Sl),(∀e∈T,0≤e.1∧e.1<(n:Int))→l.length+T.length≤1000→∃u3 u4,forD (zj7 2 (zc5 (za3 3) (zc5 (za3 4) zl3))) bdH (T.map pD) [s0,s1,.dp (mD (hgM n l)),s3,s4,s5,s6]=some (.nx [s0,s1,.dp (mD (hgM n (l++T))),u3,u4,s5,s6])
 |[],l,s3,s4,_,_=>⟨s3,s4,by rw [zau6];rfl⟩
 |e::T,l,s3,s4,h,hl=>by
  simp only [zau3]at hl
  obtain⟨h0,h1⟩:=h e (zar4 ..)
  obtain⟨u3,u4,ih⟩:=loop_H (s0:=s0) (s1:=s1) (s5:=s5) (s6:=s6) (n:=n) T (l++[e]) (.val (.int e.1)) (.val (.int e.2)) (fun v hv=>h v (zar1 _ hv)) (by simp only [zat5,zav7];lia)
  refine⟨u3,u4,?_⟩
  let t:Th:=[s0,s1,.dp (mD (hgM n l)),.val (.int e.1),.val (.int e.2),s5,s6]
  have e0:(zj7 2 (zc5 (za3 3) (zc5 (za3 4) zl3))) (pD e) [s0,s1,.dp (mD (hgM n l)),s3,s4,s5,s6]=some t:=rfl
  have kl:=zp7 l e.1
  have eb:=appR_of (t:=t) (i:=2) (a:=e.1.toNat) (rows:=(hgM n l).map rwD) (ds:=(zi2 l e.1).map D.int) (fa:=dVar 3) (f:=dVar 4) (b:=e.2) rfl (by show some (Ev.cl (.int e.1))=_;rw [zax4 h0]) rfl (by rw [zat7,zaf5 (by lia),zax4 h0];rfl) (by rw [zas7];lia)
  rw [hg_snoc l e h0 h1]at eb
  simp only [zas1,forD,e0,zar2]
  rw [show bdH t=_ from eb]
  rw [show l++e::T=l++[e]++T by simp]
  exact ih
theorem zy9:∀(l:List Int) (s:Sl),ze4 (za3 0) zd9 (dT1 kLst dNil) (l.map D.int) [s]=some (l.map fun _=>rwD [])
 |[],s=>rfl
 |x::l,s=>by
  have ih:=zy9 l (.val (.int x))
  have e0:za3 0 (.int x) [s]=some [.val (.int x)]:=rfl
  rw [zas1]
  unfold ze4
  rw [e0]
  show (ze4 (za3 0) zd9 (dT1 kLst dNil) (l.map D.int) [.val (.int x)]).map _=_
  rw [ih]
  rfl
theorem zap4 {t:Th}{f:DE}{n:Nat} (hn:n≤1000) (hf:f t=some (.cl (.int (n:Int)))):(zh5 1 [] (fsR1 f) (za3 0) zd9 (dT1 kLst dNil)) t=some (.dn (mD (hgM n []))):=by
 unfold zh5
 rw [rng_is hf (by lia)]
 show (if ((ze8 n).map D.int).length≤50000 then (ze4 (za3 0) zd9 (dT1 kLst dNil) ((ze8 n).map D.int) [Sl.no]).map (fun xs=>Ev.dn (.lst xs)) else none)=_
 rw [if_pos (by rw [zas7,zk0];lia),zy9]
 have:(ze8 n).map (fun _=>rwD [])=(hgM n []).map rwD:=by
  unfold ze8 hgM
  rw [zbd3,zbd3]
  rfl
 rw [this]
 rfl
def cdD:DT:=(dTr (dVar 6))
theorem intsD_map:∀xs:List Int,zf6 (xs.map D.int)=some xs
 |[]=>rfl
 |x::xs=>by simp [zf6,intsD_map xs]
theorem turn_D {s0 s1 s3 s4:Sl}{n:Nat}{T:List Ed}{C W:List Int}{q:Int} (q0:0≤q) (q1:q<(n:Int)) (hT:T.length≤40) (hC:C.length≤1000) (hW:W.length≤5000):∃u3,bdD [s0,s1,.dp (mD (hgM n T)),s3,s4,.own (C.map D.int),.own ((W++[q]).map D.int)]=some (.nx [s0,s1,.dp (mD (hgM n T)),u3,s4,.own ((C++[q]).map D.int),.own ((W++(chI T q).reverse).map D.int)]):=by
 refine⟨.val (.int q),?_⟩
 have E1:dPop 3 6 [s0,s1,.dp (mD (hgM n T)),s3,s4,.own (C.map D.int),.own ((W++[q]).map D.int)]=some (.nx [s0,s1,.dp (mD (hgM n T)),.val (.int q),s4,.own (C.map D.int),.own (W.map D.int)]):=by
  show kPop _ 3 6=_
  unfold kPop
  simp [zi6]
 let t:Th:=[s0,s1,.dp (mD (hgM n T)),.val (.int q),s4,.own (C.map D.int),.own (W.map D.int)]
 have E2:=zs3 (i:=5) t (f:=dVar 3) (xs:=C) (p:=q) rfl rfl (by lia)
 let t2:Th:=[s0,s1,.dp (mD (hgM n T)),.val (.int q),s4,.own ((C++[q]).map D.int),.own (W.map D.int)]
 obtain⟨r,er,rd⟩:=row_at (fa:=dVar 2) (fb:=dVar 3) (t:=t2) (r1:=.tm (mD (hgM n T))) (M:=hgM n T) (i:=q) rfl rfl rfl q0 (by simp [hgM];exact q1)
 rw [hg_getD q0 q1]at rd
 have kl:=zp7 T q
 have E3:dExt 6 (dT1 zt1 (za2 (d2 kIx (dVar 2) (dVar 3)) dNil)) t2=some (.nx [s0,s1,.dp (mD (hgM n T)),.val (.int q),s4,.own ((C++[q]).map D.int),.own ((W++(chI T q).reverse).map D.int)]):=by
  have es:(dT1 zt1 (za2 (d2 kIx (dVar 2) (dVar 3)) dNil)) t2=some (.nw ((chI T q).reverse.map D.int)):=by
   rw [zs4 er]
   unfold zt1
   simp only [rd,rwD,intsD_map,zar2]
   rw [if_pos (by lia)]
   rfl
  unfold dExt
  rw [es]
  show (if decide ((W.map D.int).length+((chI T q).reverse.map D.int).length≤100000) then some (Out.nx (t2.set 6 (.own (W.map D.int++(chI T q).reverse.map D.int)))) else none)=_
  have cl:(chI T q).length=(zi2 T q).length:=(zd3 _).length_eq
  rw [if_pos (decide_eq_true (by simp only [zas7,zba0];lia)), ← zaz2]
  rfl
 exact (za9 E1).trans ((za9 E2).trans E3)
theorem zaj0 {s0 s1 s4:Sl}{n:Nat}{T:List Ed} (hT:T.length≤40) (hk:∀e∈T,0≤e.2∧e.2<(n:Int)):∀(f:Nat) (st C:List Int) (s3:Sl),(trav (chI T) f st).2=[]→(∀x∈st,0≤x∧x<(n:Int))→C.length+f≤900→st.length+40*f≤4000 →
  ∃u3,whD cdD bdD (f+1) [s0,s1,.dp (mD (hgM n T)),s3,s4,.own (C.map D.int),.own (st.reverse.map D.int)]=some (.nx [s0,s1,.dp (mD (hgM n T)),u3,s4,.own ((C++(trav (chI T) f st).1).map D.int),.own []])
 |f,[],C,s3,_,_,_,_=>by
  have:(trav (chI T) f []).1=[]:=by cases f<;>rfl
  rw [this,zau6]
  exact⟨s3,rfl⟩
 |0,q::st,C,s3,h,_,_,_=>by cases h
 |f+1,q::st,C,s3,h,hst,lc,ls=>by
  simp only [zau3]at ls
  have hq:=hst q (zar4 ..)
  obtain⟨u3,eb⟩:=turn_D (s0:=s0) (s1:=s1) (s3:=s3) (s4:=s4) (n:=n) (T:=T) (C:=C) (W:=st.reverse) (q:=q) hq.1 hq.2 (by lia) (by lia) (by rw [zba0];lia)
  have cl:(chI T q).length≤T.length:=by rw [show (chI T q).length=_ from (zd3 _).length_eq];exact zp7 T q
  obtain⟨v3,ih⟩:=zaj0 hT hk f (chI T q++st) (C++[q]) u3 h (fun x hx=>by
   rcases zar3.mp hx with m | m
   ·obtain⟨e,he,z⟩:=kids_mem ((zd3 _).mem_iff.mp m)
    rw [← z];exact hk e he
   ·exact hst x (zar1 _ m)) (by simp only [zat5,zav7];lia) (by simp only [zat5];lia)
  refine⟨v3,?_⟩
  rw [List.reverse_cons]
  have cd:cdD [s0,s1,.dp (mD (hgM n T)),s3,s4,.own (C.map D.int),.own ((st.reverse++[q]).map D.int)]=some true:=by
   show truD (.lst ((st.reverse++[q]).map D.int))=some true
   cases st.reverse<;>rfl
  unfold whD
  rw [cd]
  simp only [zar2,if_true,eb]
  rw [List.reverse_append]at ih
  rw [show C++(trav (chI T) (f+1) (q::st)).1=C++[q]++(trav (chI T) f (chI T q++st)).1 by simp [trav]]
  exact ih
theorem down_is {n:Nat}{T:List Ed} (n1:n≤40) (hT:T.length≤39) (g:Grown [0] T) (hk:∀e∈T,(0≤e.1∧e.1<(n:Int))∧0≤e.2∧e.2<(n:Int)) (n0:0<n):ze9 [.int (n:Int),.lst (T.map pD)]=some (.nw ((trav (chI T) 59 [0]).1.map D.int)):=by
 let s0:Sl:=.val (.int (n:Int))
 let s1:Sl:=.val (.lst (T.map pD))
 have E1:dAsg 2 (zh5 1 [] (fsR1 (dVar 0)) (za3 0) zd9 (dT1 kLst dNil)) [s0,s1,.no,.no,.no,.no,.no]=some (.nx [s0,s1,.dp (mD (hgM n [])),.no,.no,.no,.no]):=by
  unfold dAsg
  rw [zap4 (n:=n) (by lia) rfl]
  rfl
 obtain⟨u3,u4,E2⟩:=loop_H (s0:=s0) (s1:=s1) (s5:=.no) (s6:=.no) (n:=n) T [] .no .no (fun e he=>(hk e he).1) (by simp;lia)
 rw [zbc5]at E2
 have E2':dFor (zj7 2 (zc5 (za3 3) (zc5 (za3 4) zl3))) (dVar 1) bdH [s0,s1,.dp (mD (hgM n [])),.no,.no,.no,.no]=some (.nx [s0,s1,.dp (mD (hgM n T)),u3,u4,.no,.no]):=E2
 obtain⟨tn,tp⟩:=zp3 (n:=59) g (hngI T) (by lia)
 obtain⟨v3,E5⟩:=zaj0 (s0:=s0) (s1:=s1) (s4:=u4) (n:=n) (T:=T) (by lia) (fun e he=>(hk e he).2) 59 [0] [] u3 tn (fun x hx=>by simp at hx;lia) (by simp) (by simp)
 have E3:dAsg 5 (dT1 kLst dNil) [s0,s1,.dp (mD (hgM n T)),u3,u4,.no,.no]=some (.nx [s0,s1,.dp (mD (hgM n T)),u3,u4,.own (([]:List Int).map D.int),.no]):=rfl
 have E4:dAsg 6 (dT1 kLst (za2 (dC (.int 0)) dNil)) [s0,s1,.dp (mD (hgM n T)),u3,u4,.own (([]:List Int).map D.int),.no]=some (.nx [s0,s1,.dp (mD (hgM n T)),u3,u4,.own (([]:List Int).map D.int),.own ([0].reverse.map D.int)]):=rfl
 show (zm2 [s0,s1,.no,.no,.no,.no,.no]).bind zo3=_
 exact bnd ((za9 E1).trans ((za9 E2').trans ((za9 E3).trans ((za9 E4).trans ((za9 (show zy4 (fun _=>60) cdD bdD _=_ from E5)).trans rfl)))))
theorem callT {G:List D→Option Ev}{rs:List Ev}{T:List Ed} (h:G (rs.map Ev.d)=some (.nw (T.map pD))):zc4 G rs=some (.nw (T.map pD)):=by
 unfold zc4
 rw [h]
 show some (upEv (rs.all Ev.ok) (.nw (T.map pD)))=_
 unfold upEv
 cases rs.all Ev.ok with
 |true=>rfl
 |false=>simp [zn7]
theorem zai7 {n:Nat}{M:List (List Int)} (S:Sq n M) (n0:1≤n) (n1:n≤40):∃T:List Ed,PrimL (wM n M) [0] (zn6 n) T∧T.length=n - 1∧(∀e∈T,(0≤e.1∧e.1<(n:Int))∧0≤e.2∧e.2<(n:Int))∧Grown [0] T∧(T.map (·.2)).Perm (zn6 n)∧zc0 [mD M]=some (.dn (.tup [.lst ((trav (chI T) 59 [0]).1.map D.int),.lst (T.map pD)])):=by
 obtain⟨T,prL,lT,e1⟩:=tree_is S n0 n1
 have pr:=prL.prim
 obtain⟨g,pm⟩:=zah4 pr (zam8 n) (fun v hv h=>by have:=zl2 hv;simp at h;lia)
 have k2:∀e∈T,0≤e.2∧e.2<(n:Int):=fun e he=>by
  have:=zl2 (pm.mem_iff.mp (zau7.mpr ⟨e,he,rfl⟩))
  lia
 have k1:∀e∈T,0≤e.1∧e.1<(n:Int):=by
  have:∀ {P U:List Int}{T:List Ed},Prim (wM n M) P U T→(∀x∈P,0≤x∧x<(n:Int))→(∀x∈U,0≤x∧x<(n:Int))→∀e∈T,0≤e.1∧e.1<(n:Int):=by
   intro P U T h
   induction h with
   |nil=>intro _ _ e he;cases he
   |cons a b c d ih =>
    intro hP hU e he
    rcases zar8.mp he with z | z
    ·subst z;exact hP _ a
    ·exact ih (fun x hx=>by rcases zar3.mp hx with q | q;exact hP x q;rw [zas2]at q;subst q;exact hU _ b) (fun x hx=>hU x (zaz6 hx)) e z
  exact this pr (fun x hx=>by simp at hx;lia) (fun x hx=>by have:=zl2 hx;lia)
 refine⟨T,prL,lT,fun e he=>⟨k1 e he,k2 e he⟩,g,pm,?_⟩
 have dn:=down_is (n:=n) (T:=T) n1 (by lia) g (fun e he=>⟨k1 e he,k2 e he⟩) (by lia)
 have E1:=zag8 (i:=1) (t:=[.val (mD M),.no]) ((zs4 (rfl:dVar 0 [.val (mD M),.no]=some (.cl (mD M)))).trans (callT e1)) (by simp)
 let t:Th:=[.val (mD M),.own (T.map pD)]
 have ln:=zab2 (f:=dVar 0) (t:=t) (r:=.cl (mD M)) rfl rfl
 rw [S.len]at ln
 have e2:(dT1 (zc4 ze9) (za2 (dT1 kLen (za2 (dVar 0) dNil)) (za2 (dVar 1) dNil))) t=some (.nw ((trav (chI T) 59 [0]).1.map D.int)) :=
  (zu1 ln (rfl:dVar 1 t=some (.tm (.lst (T.map pD))))).trans (calln dn)
 have E2:zap1 (mTup (zab1 (mOf (dT1 (zc4 ze9) (za2 (dT1 kLen (za2 (dVar 0) dNil)) (za2 (dVar 1) dNil)))) (zab1 (mOwn 1) mNil))) t=some (.rt (.dn (.tup [.lst ((trav (chI T) 59 [0]).1.map D.int),.lst (T.map pD)]))):=by
  unfold zap1 mTup zab1 mOf
  rw [e2]
  have q1:toDn (.nw ((trav (chI T) 59 [0]).1.map D.int))=some (.lst ((trav (chI T) 59 [0]).1.map D.int)):=by simp only [toDn,ze0,if_true]
  have q2:mOwn 1 t=some (.lst (T.map pD),t.set 1 .no):=by
   show (if flats (T.map pD) then some (D.lst (T.map pD),t.set 1 .no) else none)=_
   rw [zn7];rfl
  simp only [zar2,q1,zau4,q2]
  rfl
 show (zi3 [.val (mD M),.no]).bind zo3=_
 exact bnd ((za9 E1).trans E2)
theorem forD_nx {k:D→Th→Option Th}{b:DS}{d:D}{ds:List D}{t t1 t2:Th} (h1:k d t=some t1) (h2:b t1=some (.nx t2)):forD k b (d::ds) t=forD k b ds t2:=by simp [forD,h1,h2]
theorem zy6 {q:Int}:∀(T:List Ed) (s0 s1:Sl),ze7 (zj7 2 (zc5 (za3 0) (zc5 (za3 1) zl3))) (dBo (d2 kEq (dVar 0) (dVar 2))) (dVar 1) (T.map pD) [s0,s1,.val (.int q)]=some ((zi2 T q).map D.int)
 |[],s0,s1=>rfl
 |e::T,s0,s1=>by
  let t:Th:=[.val (.int e.1),.val (.int e.2),.val (.int q)]
  have e0:(zj7 2 (zc5 (za3 0) (zc5 (za3 1) zl3))) (pD e) [s0,s1,.val (.int q)]=some t:=rfl
  have c:=zao3 (fa:=dVar 0) (fb:=dVar 2) (t:=t) (a:=e.1) (b:=q) rfl rfl
  have v:dVar 1 t=some (.cl (.int e.2)):=rfl
  have ih:=zy6 (q:=q) T (.val (.int e.1)) (.val (.int e.2))
  by_cases z:e.1=q
  ·have kk:zi2 (e::T) q=e.2::zi2 T q:=by simp [zi2,z]
   rw [decide_eq_true z]at c
   simp only [zas1,ze7,e0,zar2,c,if_true,v]
   rw [show ze7 (zj7 2 (zc5 (za3 0) (zc5 (za3 1) zl3))) (dBo (d2 kEq (dVar 0) (dVar 2))) (dVar 1) (T.map pD) t=_ from ih,kk]
   rfl
  ·have kk:zi2 (e::T) q=zi2 T q:=by simp [zi2,z]
   rw [decide_eq_false z]at c
   simp only [zas1,ze7,e0,zar2,c]
   rw [kk]
   exact ih
theorem sortk_of {T:List Ed} (hl:T.length<64) {q:Int}{s2 s3:Sl}:(dT1 zr0 (za2 (zs8 2 [1] (fsL (dVar 0)) (zj7 2 (zc5 (za3 0) (zc5 (za3 1) zl3))) (dBo (d2 kEq (dVar 0) (dVar 2))) (dVar 1)) dNil)) [.val (.lst (T.map pD)),.val (.int q),s2,s3]=some (.nw ((chI T q).map D.int)):=by
 have c:(zs8 2 [1] (fsL (dVar 0)) (zj7 2 (zc5 (za3 0) (zc5 (za3 1) zl3))) (dBo (d2 kEq (dVar 0) (dVar 2))) (dVar 1)) [.val (.lst (T.map pD)),.val (.int q),s2,s3]=some (.nw ((zi2 T q).map D.int)):=by
  show (if (T.map pD).length≤50000 then (ze7 (zj7 2 (zc5 (za3 0) (zc5 (za3 1) zl3))) (dBo (d2 kEq (dVar 0) (dVar 2))) (dVar 1) (T.map pD) [Sl.no,Sl.no,.val (.int q)]).bind _ else none)=_
  rw [if_pos (by rw [zas7];lia),zy6 T .no .no]
  simp only [zar2,ze0,zbb5,if_true]
 have kl:=zp7 T q
 exact sorti_of c rfl (by lia)
def bdWk (Gs:List D→Option Ev):DS:=(dAsg 2 (d2 qA (dVar 2) (dT1 (zc4 Gs) (za2 (dVar 0) (za2 (dVar 3) dNil)))))
theorem cati_of {fa fb:DE}{t:Th}{r1 r2:Ev}{xs ys:List Int} (h1:fa t=some r1) (h2:fb t=some r2) (e1:r1.d=.lst (xs.map D.int)) (e2:r2.d=.lst (ys.map D.int)) (hl:xs.length+ys.length≤100000):(d2 qA fa fb) t=some (.nw ((xs++ys).map D.int)):=by
 rw [zg1 h1 h2,zaz2]
 have k:kI tt2 (fun i j=>.int (i+j)) r1 r2=none:=by
  (try unfold qA);(try unfold qS);(try unfold qM);(try unfold qV);(try unfold qR);(try unfold qL);(try unfold qG);unfold kI
  rw [e1,e2]
 (try unfold qA);(try unfold qM);unfold kOr
 rw [k]
 show kCat r1 r2=_
 unfold kCat
 rw [e1,e2]
 simp only [ze0,zbb5,Bool.true_and,zas7]
 rw [if_pos (decide_eq_true (by simpa using hl))]
theorem zam3 {T:List Ed}{q:Int}{n:Nat}{G:List D→Option Ev} (hG:∀c∈chI T q,(pre (chI T) n c).length≤1000→G [.lst (T.map pD),.int c]=some (.nw ((pre (chI T) n c).map D.int))):∀(l:List Int) (F:List Int) (s3:Sl),(∀c∈l,c∈chI T q)→F.length+(l.flatMap (pre (chI T) n)).length≤1000→∃u3,forD (za3 3) (bdWk G) (l.map D.int) [.val (.lst (T.map pD)),.val (.int q),.own (F.map D.int),s3]=some (.nx [.val (.lst (T.map pD)),.val (.int q),.own ((F++l.flatMap (pre (chI T) n)).map D.int),u3])
 |[],F,s3,_,_=>⟨s3,by simp [forD]⟩
 |c::l,F,s3,hl,hf=>by
  rw [zaw1,zat5]at hf
  have g1:=hG c (hl c (zar4 ..)) (by lia)
  let t:Th:=[.val (.lst (T.map pD)),.val (.int q),.own (F.map D.int),.val (.int c)]
  have e0:za3 3 (.int c) [.val (.lst (T.map pD)),.val (.int q),.own (F.map D.int),s3]=some t:=rfl
  have e1:(dT1 (zc4 G) (za2 (dVar 0) (za2 (dVar 3) dNil))) t=some (.nw ((pre (chI T) n c).map D.int)):=(zu1 (ra:=.cl (.lst (T.map pD))) (rb:=.cl (.int c)) rfl rfl).trans (calln g1)
  have e2:=cati_of (fa:=dVar 2) (t:=t) (r1:=.tm (.lst (F.map D.int))) (xs:=F) rfl e1 rfl rfl (by lia)
  have eb:bdWk G t=some (.nx [.val (.lst (T.map pD)),.val (.int q),.own ((F++pre (chI T) n c).map D.int),.val (.int c)]):=zag8 (i:=2) e2 (by simp [t])
  obtain⟨u3,ih⟩:=zam3 hG l (F++pre (chI T) n c) (.val (.int c)) (fun x hx=>hl x (zar1 _ hx)) (by rw [zat5];lia)
  refine⟨u3,(forD_nx e0 eb).trans (ih.trans ?_)⟩
  rw [zaw1,zax3]
theorem zv6 {T:List Ed} (hl:T.length≤50) {rk:Int→Nat} (h:∀v,∀c∈chI T v,rk c<rk v):∀(n:Nat) (q:Int),rk q<n→(pre (chI T) n q).length≤1000→zd6 n [.lst (T.map pD),.int q]=some (.nw ((pre (chI T) n q).map D.int))
 |0,q,hq,_=>by lia
 |n+1,q,hq,hp=>by
  have ih:=zv6 hl h n
  have hp':1+((chI T q).flatMap (pre (chI T) n)).length≤1000:=by
   have:(pre (chI T) (n+1) q).length=((chI T q).flatMap (pre (chI T) n)).length+1:=rfl
   lia
  have E1:dAsg 2 (dT1 kLst (za2 (dVar 1) dNil)) [.val (.lst (T.map pD)),.val (.int q),.no,.no]=some (.nx [.val (.lst (T.map pD)),.val (.int q),.own ([q].map D.int),.no]):=rfl
  obtain⟨u3,E2⟩:=zam3 (T:=T) (q:=q) (n:=n) (G:=zd6 n) (fun c hc hk=>ih c (by have:=h q c hc;lia) hk) (chI T q) [q] .no (fun c hc=>hc) hp'
  have sk:=sortk_of (T:=T) (by lia) (q:=q) (s2:=.own ([q].map D.int)) (s3:=.no)
  have E2':dFor (za3 3) (dT1 zr0 (za2 (zs8 2 [1] (fsL (dVar 0)) (zj7 2 (zc5 (za3 0) (zc5 (za3 1) zl3))) (dBo (d2 kEq (dVar 0) (dVar 2))) (dVar 1)) dNil)) (bdWk (zd6 n)) [.val (.lst (T.map pD)),.val (.int q),.own ([q].map D.int),.no]=_:=(for_of sk rfl rfl).trans E2
  show (zg0 (zd6 n) [.val (.lst (T.map pD)),.val (.int q),.no,.no]).bind zo3=_
  exact bnd ((za9 E1).trans ((za9 E2').trans rfl))
theorem zt9 {n:Nat}{T:List Ed} (n1:n≤40) (lT:T.length=n - 1) (g:Grown [0] T):zf3 [.lst (T.map pD),.int 0]=some (.nw ((trav (chI T) 59 [0]).1.map D.int)):=by
 obtain⟨rk,h1,h2⟩:=ranks g
 have h:∀v,∀c∈chI T v,rk c<rk v:=fun v c hc=>h2 (v,c) ((hngI T).mem.mp hc)
 obtain⟨tn,tp⟩:=zp3 (n:=59) g (hngI T) (by lia)
 have r0:rk 0=T.length:=h1 0 (by simp)
 have e0:=zad3 h (n:=44) 59 [0] tn (fun x hx=>by rw [zas2.mp hx,r0];lia)
 have e1:(trav (chI T) 59 [0]).1=pre (chI T) 44 0:=by rw [e0];simp
 have l1:=tp.length_eq
 rw [e1]at l1 ⊢
 rw [zau3,zas7]at l1
 exact zv6 (by lia) h 44 0 (by lia) (by lia)
def InN (n:Nat) (x:Int):Prop:=0≤x∧x<(n:Int)
theorem zaf4 {neg:Bool}{t:Th}{f1 f2:DE}{P:List Int}{p:Int}{r2:Ev} (h1:f1 t=some (.cl (.int p))) (h2:f2 t=some r2) (e2:r2.d=dctP P):dBo (d2 (kInD neg) f1 f2) t=some (if neg then !decide (p∈P) else decide (p∈P)):=by
 unfold dBo
 rw [zg1 h1 h2]
 unfold kInD
 rw [e2]
 show (match D.bl (if neg then !hasK (P.map Sum.inl) (Sum.inl p) else hasK (P.map Sum.inl) (Sum.inl p)) with
  |.bl b=>some b
  |_=>none)=_
 rw [zao0]
noncomputable def tN (M:List (List Int)) (S:List Int) (p x:Int) (s4 s5 s6:Sl):Th:=[.val (mD M),.val (dctP S),.val (.int p),.val (.int x),s4,s5,s6]
theorem not_less {w:Int→Int→Int}{p x a b:Int} (h:Lq w (p,x) (a,b)):(decide (w a b<w p x)||(decide (w a b=w p x)&&lexI false [a,b] [p,x]))=false:=by
 have h':w p x<w a b∨(w p x=w a b∧(p<a∨(p=a∧x≤b))):=h
 simp only [lexI,cmpI]
 rcases h' with q | ⟨q,q2⟩
 ·have z1 : ¬ w a b<w p x:=by lia
  have z2 : ¬ w a b=w p x:=by lia
  simp [z1,z2]
 ·have z1 : ¬ w a b<w p x:=by lia
  rw [decide_eq_false z1,decide_eq_true q.symm]
  rcases q2 with r | ⟨r,r2⟩
  ·have y1 : ¬ a=p:=by lia
   have y2 : ¬ a<p:=by lia
   simp [y1,y2]
  ·rw [decide_eq_true r.symm]
   by_cases y:b=x
   ·simp [y]
   ·have y2 : ¬ b<x:=by lia
    simp [y,y2]
theorem turn_X5 {n:Nat}{M:List (List Int)} (Q:Sq n M) {S:List Int}{p x a b:Int} (hp:InN n p) (hx:InN n x) (ha:InN n a) (hb:InN n b) (h:a∈S→b∉S→Lq (wM n M) (p,x) (a,b)) (s6:Sl):∃u6,bdX5 (tN M S p x (.val (.int a)) (.val (.int b)) s6)=some (.nx (tN M S p x (.val (.int a)) (.val (.int b)) u6)):=by
 let t:Th:=tN M S p x (.val (.int a)) (.val (.int b)) s6
 have c:=zaq5 (zaf4 (neg:=false) (f1:=dVar 4) (f2:=dVar 1) (t:=t) (P:=S) (p:=a) (r2:=.cl (dctP S)) rfl rfl rfl) (zaf4 (neg:=true) (f1:=dVar 5) (f2:=dVar 1) (t:=t) (P:=S) (p:=b) (r2:=.cl (dctP S)) rfl rfl rfl)
 by_cases z:a∈S∧b∉S
 ·have lq:=h z.1 z.2
  have g1:=zt3 (t:=t) (fa:=dVar 0) (fb:=dVar 4) (fc:=dVar 5) (r1:=.cl (mD M)) Q (i:=a) (j:=b) rfl rfl rfl rfl ha.1 ha.2 hb.1 hb.2
  rw [← wM_is ha.1 ha.2 hb.1 hb.2]at g1
  have E1:=zg9 (i:=6) g1 (by simp [t,tN])
  let t2:Th:=tN M S p x (.val (.int a)) (.val (.int b)) (.val (.int (wM n M a b)))
  have g2:=zt3 (t:=t2) (fa:=dVar 0) (fb:=dVar 2) (fc:=dVar 3) (r1:=.cl (mD M)) Q (i:=p) (j:=x) rfl rfl rfl rfl hp.1 hp.2 hx.1 hx.2
  rw [← wM_is hp.1 hp.2 hx.1 hx.2]at g2
  have v6:dVar 6 t2=some (.cl (.int (wM n M a b))):=rfl
  have c3:dBo (d2 kLtT (dT1 kTup (za2 (dVar 4) (za2 (dVar 5) dNil))) (dT1 kTup (za2 (dVar 2) (za2 (dVar 3) dNil)))) t2=some (lexI false [a,b] [p,x]):=rfl
  have c4:=zn3 (zam2 v6 g2) (zaq5 (zao3 v6 g2) c3)
  exact⟨.val (.int (wM n M a b)),(zai2 c (by simp [z.1,z.2])).trans ((za9 (t':=t2) E1).trans (grd c4 (not_less lq)))⟩
 ·refine⟨s6,grd c ?_⟩
  by_cases y:a∈S
  ·have:b∈S:=by
    by_cases y2:b∈S
    ·exact y2
    ·exact absurd ⟨y,y2⟩ z
   simp [this]
  ·simp [y]
theorem next_is {n:Nat}{M:List (List Int)} (Q:Sq n M) (n1:n≤40) {S:List Int}{p x:Int} (hp:InN n p) (hx:InN n x) (pS:p∈S) (xS:x∉S) (h:∀a b,InN n a→InN n b→a∈S→b∉S→Lq (wM n M) (p,x) (a,b)):ze1 [mD M,dctP S,.int p,.int x]=some (.cl (.bl true)):=by
 let t:Th:=tN M S p x .no .no .no
 have c:=zn3 (zaf4 (neg:=true) (f1:=dVar 2) (f2:=dVar 1) (t:=t) (P:=S) (p:=p) (r2:=.cl (dctP S)) rfl rfl rfl) (zaf4 (neg:=false) (f1:=dVar 3) (f2:=dVar 1) (t:=t) (P:=S) (p:=x) (r2:=.cl (dctP S)) rfl rfl rfl)
 have E1:=grd (g:=dRet (dC (.bl false))) c (by simp [pS,xS])
 have en:∀m:Nat,(ze8 m).map D.int=(zat6 m).map fun (i:Nat)=>D.int (i:Int):=fun m=>by simp [ze8]
 have ln:∀s4 s5 s6,(dT1 kLen (za2 (dVar 0) dNil)) (tN M S p x s4 s5 s6)=some (.cl (.int (n:Int))):=fun s4 s5 s6=>by
  have:=zab2 (f:=dVar 0) (t:=tN M S p x s4 s5 s6) (r:=.cl (mD M)) rfl rfl
  rw [Q.len]at this
  exact this
 let bd:DS:=zg8 (za3 5) (dT1 kLen (za2 (dVar 0) dNil)) bdX5
 have inner:∀(a:Nat),a<n→∀s5 s6,∃u5 u6,bd (tN M S p x (.val (.int (a:Int))) s5 s6)=some (.nx (tN M S p x (.val (.int (a:Int))) u5 u6)):=fun a ha s5 s6=>by
  have fr:=zo1 (k0:=za3 5) (b:=bdX5) (ln (.val (.int (a:Int))) s5 s6) rfl (by lia)
  rw [en]at fr
  obtain⟨t',E,u5,u6,rfl⟩:=for_I0 (k:=za3 5) (b:=bdX5) (f:=fun (i:Nat)=>D.int (i:Int)) (n:=n) (P:=fun _ t => ∃u5 u6,t=tN M S p x (.val (.int (a:Int))) u5 u6) (fun b hb t ⟨u5,u6,e⟩=>by
   subst e
   obtain⟨v6,eb⟩:=turn_X5 Q (S:=S) hp hx (a:=(a:Int)) (b:=(b:Int)) ⟨by lia,by lia⟩ ⟨by lia,by lia⟩ (fun q1 q2=>h _ _ ⟨by lia,by lia⟩ ⟨by lia,by lia⟩ q1 q2) u6
   exact⟨_,_,rfl,eb,_,v6,rfl⟩) (tN M S p x (.val (.int (a:Int))) s5 s6) ⟨s5,s6,rfl⟩
  exact⟨u5,u6,fr.trans E⟩
 have fr:=zo1 (k0:=za3 4) (b:=bd) (ln .no .no .no) rfl (by lia)
 rw [en]at fr
 obtain⟨t',E,u4,u5,u6,rfl⟩:=for_I0 (k:=za3 4) (b:=bd) (f:=fun (i:Nat)=>D.int (i:Int)) (n:=n) (P:=fun _ t => ∃u4 u5 u6,t=tN M S p x u4 u5 u6) (fun a ha t ⟨u4,u5,u6,e⟩=>by
  subst e
  obtain⟨v5,v6,eb⟩:=inner a ha u5 u6
  exact⟨_,_,rfl,eb,_,v5,v6,rfl⟩) t ⟨_,_,_,rfl⟩
 show (zj3 t).bind zo3=_
 exact bnd ((za9 E1).trans ((za9 (fr.trans E)).trans rfl))
noncomputable def tG (s0 s1 s2:Sl) (M:List (List Int)) (s4 s5 s6 s7:Sl) (S:List Int) (s9 s10 s11:Sl):Th:=[s0,s1,s2,.dp (mD M),s4,s5,s6,s7,.dp (dctP S),s9,s10,s11]
theorem turn_Rd {n:Nat}{M:List (List Int)} (Q:Sq n M) (n1:n≤40) {S:List Int}{p x:Int} (hp:InN n p) (hx:InN n x) (pS:p∈S) (xS:x∉S) (h:∀a b,InN n a→InN n b→a∈S→b∉S→Lq (wM n M) (p,x) (a,b)) (hl:S.length≤900) (s0 s1 s2 s4 s5 s6 s7 s10 s11:Sl):bdRd (tG s0 s1 s2 M s4 s5 s6 s7 S (.val (pD (p,x))) s10 s11)=some (.nx (tG s0 s1 s2 M s4 s5 s6 s7 (S++[x]) (.val (pD (p,x))) s10 s11)):=by
 let t:Th:=tG s0 s1 s2 M s4 s5 s6 s7 S (.val (pD (p,x))) s10 s11
 have g1:(dT1 (zc4 ze1) (za2 (dVar 3) (za2 (dVar 8) (za2 (d2 kIx (dVar 9) (dC (.int 0))) (za2 (d2 kIx (dVar 9) (dC (.int 1))) dNil))))) t=some (.cl (.bl true)):=(t4_of (ra:=.tm (mD M)) (rb:=.tm (dctP S)) (rc:=.cl (.int p)) (rd:=.cl (.int x)) rfl rfl rfl rfl).trans (zai6 (next_is Q n1 hp hx pS xS h) rfl)
 have c1:(dNot (dTr (dIsi "tuple" (dVar 9)))) t=some false:=rfl
 have c2:dBo (d2 kNe (dT1 kLen (za2 (dVar 9) dNil)) (dC (.int 2))) t=some false:=rfl
 have c:=zn3 c1 (zn3 c2 (not_of (tr_of g1)))
 have E1:dIfS (dOr (dNot (dTr (dIsi "tuple" (dVar 9)))) (dOr (dBo (d2 kNe (dT1 kLen (za2 (dVar 9) dNil)) (dC (.int 2)))) (dNot (dTr (dT1 (zc4 ze1) (za2 (dVar 3) (za2 (dVar 8) (za2 (d2 kIx (dVar 9) (dC (.int 0))) (za2 (d2 kIx (dVar 9) (dC (.int 1))) dNil))))))))) (fun _=>none) zj4 t=some (.nx t):=grd c rfl
 have E2:=dputP_of (t:=t) (i:=8) (fk:=d2 kIx (dVar 9) (dC (.int 1))) (fv:=dC (.bl true)) (P:=S) (p:=x) rfl rfl rfl (by lia)
 have ad:addP S x=S++[x]:=by simp [addP,xS]
 rw [ad]at E2
 exact (za9 E1).trans E2
theorem loop_Rd {n:Nat}{M:List (List Int)} (Q:Sq n M) (n1:n≤40) (s0 s1 s2 s4 s5 s6 s7 s10 s11:Sl) {S U:List Int}{T:List Ed} (h:PrimL (wM n M) S U T):U.Nodup→(∀v∈U,v∉S)→(∀v∈S,InN n v)→(∀v∈U,InN n v)→(∀v,InN n v→v∈S∨v∈U)→S.length+U.length≤800→∀s9,∃(S':List Int) (u9:Sl),forJ (za3 9) bdRd (T.map pD) (tG s0 s1 s2 M s4 s5 s6 s7 S s9 s10 s11)=some (tG s0 s1 s2 M s4 s5 s6 s7 S' u9 s10 s11):=by
 induction h with
 |@nil S=>exact fun _ _ _ _ _ _ s9=>⟨S,s9,rfl⟩
 |@cons S U p x T hp hx hm _ ih =>
  intro nd hd rS rU al hl s9
  have ul:=zax2 hx
  have up:=zbc1 hx
  have eb:=turn_Rd Q n1 (rS p hp) (rU x hx) hp (hd x hx) (fun a b _ hb ha nb=>hm a ha b ((al b hb).resolve_left nb)) (by lia) s0 s1 s2 s4 s5 s6 s7 s10 s11
  obtain⟨S',u9,e⟩:=ih (nd.erase x) (fun v hv z=>by
   have hv':=(List.Nodup.mem_erase_iff nd).mp hv
   rcases zar3.mp z with q | q
   ·exact hd v hv'.2 q
   ·exact hv'.1 (zas2.mp q)) (fun v hv=>by
   rcases zar3.mp hv with q | q
   ·exact rS v q
   ·rw [zas2.mp q];exact rU x hx) (fun v hv=>rU v (zaz6 hv)) (fun v hv=>by
   rcases al v hv with q | q
   ·exact .inl (zar0 _ q)
   ·by_cases c:v=x
    ·exact .inl (zaq8 _ (zas2.mpr c))
    ·exact .inr ((List.Nodup.mem_erase_iff nd).mpr ⟨c,q⟩)) (by rw [zat5,zav7,ul];lia) (.val (pD (p,x)))
  refine⟨S',u9,?_⟩
  have e0:za3 9 (pD (p,x)) (tG s0 s1 s2 M s4 s5 s6 s7 S s9 s10 s11)=some (tG s0 s1 s2 M s4 s5 s6 s7 S (.val (pD (p,x))) s10 s11):=rfl
  have st:∀ {k:D→Th→Option Th}{b:DS}{d:D}{ds:List D}{t t1 t2:Th},k d t=some t1→b t1=some (.nx t2)→forJ k b (d::ds) t=forJ k b ds t2:=fun h1 h2=>by simp [forJ,h1,h2]
  exact (st e0 eb).trans e
theorem zt7:∀(M:List (List Int)) (s:Sl),ze4 (za3 0) zd9 (dT1 zo4 (za2 (dVar 0) dNil)) (M.map rwD) [s]=some (M.map rwD)
 |[],s=>rfl
 |r::M,s=>by
  have e0:za3 0 (rwD r) [s]=some [.val (rwD r)]:=rfl
  have e1:=zam6 (f:=dVar 0) (t:=[.val (rwD r)]) (r:=.cl (rwD r)) (xs:=r) rfl rfl
  have e2:toDn (.nw (r.map D.int))=some (rwD r):=by simp only [toDn,ze0,if_true];rfl
  have ih:=zt7 M (.val (rwD r))
  simp only [zas1,ze4,e0,zar2,zd9,if_true,e1,e2,ih,zau4]
theorem kept_of {t:Th}{i:Nat}{M:List (List Int)}{r:Ev} (h:dVar i t=some r) (hr:r.d=mD M) (hl:M.length≤50000):(zh5 1 [] (fsL (dVar i)) (za3 0) zd9 (dT1 zo4 (za2 (dVar 0) dNil))) t=some (.dn (mD M)):=by
 unfold zh5 fsL
 rw [h]
 simp only [zar2,hr]
 show (if (M.map rwD).length≤50000 then (ze4 (za3 0) zd9 (dT1 zo4 (za2 (dVar 0) dNil)) (M.map rwD) [Sl.no]).map (fun xs=>Ev.dn (.lst xs)) else none)=_
 rw [if_pos (by simpa using hl),zt7]
 rfl
theorem mm (x:Int) (q:Nat) (hq:0<q):∃k:Nat,k<q∧x.fmod (q:Int)=(k:Int):=by
 have f:=fm (a:=x) (b:=(q:Int)) (by lia)
 exact⟨(x.fmod (q:Int)).toNat,by lia,by lia⟩
theorem callD {G:List D→Option Ev}{rs:List Ev}{d:D} (h:G (rs.map Ev.d)=some (.dn d)):zc4 G rs=some (.dn d):=by
 unfold zc4
 rw [h]
 cases rs.all Ev.ok<;>rfl
theorem zaf9 (C:List Int) (T:List Ed):eqOk 6 (.tup [.lst (C.map D.int),.lst (T.map pD)]) (.tup [.lst (C.map D.int),.lst (T.map pD)])=true:=by
 have h1:=zr6 4 C
 have h2:=zao2 3 T
 show ([(D.lst (C.map D.int),D.lst (C.map D.int)),(.lst (T.map pD),.lst (T.map pD))].all fun p=>eqOk 5 p.1 p.2)=true
 simp only [zau0,List.all_nil,h1,h2,zaw3]
theorem zag3:∀(C:List Int) (s:Sl),ze7 (za3 0) zd9 (dIsi "bool" (dVar 0)) (C.map D.int) [s]=some ((C.map fun _=>false).map D.bl)
 |[],s=>rfl
 |x::C,s=>by
  have e0:za3 0 (.int x) [s]=some [.val (.int x)]:=rfl
  have e1:dIsi "bool" (dVar 0) [.val (.int x)]=some (.cl (.bl false)):=rfl
  simp only [zas1,ze7,e0,zar2,zd9,if_true,e1]
  rw [zag3 C]
  rfl
theorem inb_of {t:Th}{f:DE}{C:List Int} (h:f t=some (.nw ((C.map fun _=>false).map D.bl))):dBo (d2 kIn (dC (.bl true)) f) t=some false:=by
 unfold dBo
 rw [zg1 (rfl:dC (.bl true) t=some (.cl (.bl true))) h]
 unfold kIn
 have a1:∀l:List Int,((l.map fun _=>false).map D.bl).all (fun d=>scD d&&eqOk 0 d (.bl true))=true:=by
  intro l
  induction l with
  |nil=>rfl
  |cons x l ih=>simp only [zas1,zau0,ih,zaw3];rfl
 have a2:∀l:List Int,((l.map fun _=>false).map D.bl).any (fun d=>eqD d (.bl true))=false:=by
  intro l
  induction l with
  |nil=>rfl
  |cons x l ih=>simp only [zas1,zaw2,ih,Bool.or_false];rfl
 simp only [Ev.d,a1,a2,zaw3]
 rfl
def D0:D:=.tup [.lst [.int 0,.int 1,.int 2],.lst [.tup [.int 0,.int 1],.tup [.int 1,.int 2]]]
theorem fO_is (t:Th):fO t=some (.dn D0):=by kernel_rfl
theorem fD_is (t:Th):fD t=some (.cl D0):=by kernel_rfl
theorem ne_D0:kNe (.tm D0) (.cl D0)=some (.cl (.bl false)):=by kernel_rfl
theorem law_true (ns:List Int) (hl:ns.length≤63) (hb:∀n∈ns,n.natAbs<bndS):G_law [.lst (ns.map D.int)]=some (.cl (.bl true)):=by
 let A:Sl:=.val (.lst (ns.map D.int))
 let t0:Th:=[A,.no,.no,.no,.no,.no,.no,.no,.no,.no,.no,.no]
 obtain⟨c,ec⟩:=zac4 ns hl 0 (by decide)
 obtain⟨m,em,m0⟩:=zaf1 c 1 (by decide)
 have g1:(dT1 (zc4 zb9) (za2 (dVar 0) (za2 (dC (.int 0)) dNil))) t0=some (.cl (.int c)):=(zu1 (ra:=.cl (.lst (ns.map D.int))) (rb:=.cl (.int 0)) rfl rfl).trans (zai6 ec rfl)
 have g2:(dT1 (zc4 zd5) (za2 (dT1 (zc4 zb9) (za2 (dVar 0) (za2 (dC (.int 0)) dNil))) (za2 (dC (.int 1)) dNil))) t0=some (.cl (.int m)):=(zu1 g1 (rfl:dC (.int 1) t0=some (.cl (.int 1)))).trans (zai6 em rfl)
 have E1:=zg9 (i:=1) g2 (by simp [t0])
 let m':Sl:=.val (.int m)
 let t1:Th:=[A,m',.no,.no,.no,.no,.no,.no,.no,.no,.no,.no]
 have g3:=zg7 (fa:=dVar 1) (fb:=dC (.int 14)) (t:=t1) (a:=m) (b:=14) rfl rfl (by decide)
 obtain⟨q,q1,qe⟩:=mm m 14 (by decide)
 rw [show m.fmod 14=(q:Int) from qe]at g3
 have E2:=zg9 (i:=2) (zh6 (fa:=dC (.int 1)) (a:=1) rfl g3) (by simp [t1])
 let t2:Th:=[A,m',.val (.int (1+(q:Int))),.no,.no,.no,.no,.no,.no,.no,.no,.no]
 obtain⟨n,n0,n1,E3⟩:∃n:Nat,0<n∧n≤40∧dIfS (dBo (d2 kEq (d2 qR (d2 qV (dVar 1) (dC (.int 14))) (dC (.int 16))) (dC (.int 7)))) (dAsg 2 (d2 qA (dC (.int 15)) (d2 qR (d2 qV (dVar 1) (dC (.int 224))) (dC (.int 26))))) zj4 t2=some (.nx [A,m',.val (.int (n:Int)),.no,.no,.no,.no,.no,.no,.no,.no,.no]):=by
  have cc:=zao3 (zg7 (zag1 (fa:=dVar 1) (fb:=dC (.int 14)) (t:=t2) (a:=m) (b:=14) rfl rfl (by decide) (sm_of (by decide) (by decide))) (fb:=dC (.int 16)) (b:=16) rfl (by decide)) (fb:=dC (.int 7)) (b:=7) rfl
  cases z:decide ((m.fdiv 14).fmod 16=7) with
  |false =>
   refine⟨1+q,by lia,by lia,(grd cc z).trans ?_⟩
   rw [show ((1+q:Nat):Int)=1+(q:Int) by lia]
  |true =>
   obtain⟨p,p1,pe⟩:=mm (m.fdiv 224) 26 (by decide)
   have a1:=zg7 (zag1 (fa:=dVar 1) (fb:=dC (.int 224)) (t:=t2) (a:=m) (b:=224) rfl rfl (by decide) (sm_of (by decide) (by decide))) (fb:=dC (.int 26)) (b:=26) rfl (by decide)
   rw [show (m.fdiv 224).fmod 26=(p:Int) from pe]at a1
   have F1:=zg9 (i:=2) (zh6 (fa:=dC (.int 15)) (a:=15) rfl a1) (by simp [t2])
   refine⟨15+p,by lia,by lia,(zai2 cc z).trans (F1.trans ?_)⟩
   rw [show ((15+p:Nat):Int)=15+(p:Int) by lia]
   rfl
 let N:Sl:=.val (.int (n:Int))
 let t3:Th:=[A,m',N,.no,.no,.no,.no,.no,.no,.no,.no,.no]
 obtain⟨M,⟨R,Y,Tr,B⟩,er⟩:=roads_of ns hl 1 (by decide) n0 (by lia)
 have S:=R.sq
 have E4:dAsg 3 (dT1 (zc4 ze5) (za2 (dVar 0) (za2 (dC (.int 1)) (za2 (dVar 2) dNil)))) t3=some (.nx [A,m',N,.dp (mD M),.no,.no,.no,.no,.no,.no,.no,.no]):=by
  unfold dAsg
  rw [(t3_of (ra:=.cl (.lst (ns.map D.int))) (rb:=.cl (.int 1)) (rc:=.cl (.int (n:Int))) rfl rfl rfl:(dT1 (zc4 ze5) (za2 (dVar 0) (za2 (dC (.int 1)) (za2 (dVar 2) dNil)))) t3=_),callD (G:=ze5) (rs:=[.cl (.lst (ns.map D.int)),.cl (.int 1),.cl (.int (n:Int))]) er]
  rfl
 let t4:Th:=[A,m',N,.dp (mD M),.no,.no,.no,.no,.no,.no,.no,.no]
 have E5:dAsg 4 (zh5 1 [] (fsL (dVar 3)) (za3 0) zd9 (dT1 zo4 (za2 (dVar 0) dNil))) t4=some (.nx [A,m',N,.dp (mD M),.dp (mD M),.no,.no,.no,.no,.no,.no,.no]):=by
  unfold dAsg
  rw [kept_of (t:=t4) (i:=3) (M:=M) (r:=.tm (mD M)) rfl rfl (by rw [S.len];lia)]
  rfl
 obtain⟨T,prL,lT,hT,gr,pm,eT⟩:=zai7 S n0 n1
 have wk:=zt9 n1 lT gr
 generalize (trav (chI T) 59 [0]).1=C at wk eT
 have bt:∀t:Th,t[3]?=some (.dp (mD M))→(dT1 (zc4 zc0) (za2 (dVar 3) dNil)) t=some (.dn (.tup [.lst (C.map D.int),.lst (T.map pD)])):=fun t h3=>by
  have v3:dVar 3 t=some (.tm (mD M)):=by unfold dVar;rw [h3]
  exact (zs4 v3).trans (callD eT)
 let H:D:=.tup [.lst (C.map D.int),.lst (T.map pD)]
 let t5:Th:=[A,m',N,.dp (mD M),.dp (mD M),.no,.no,.no,.no,.no,.no,.no]
 let t6:Th:=[A,m',N,.dp (mD M),.dp (mD M),.dp H,.no,.no,.no,.no,.no,.no]
 have E6:dAsg 5 (dT1 (zc4 zc0) (za2 (dVar 3) dNil)) t5=some (.nx t6):=by
  unfold dAsg
  rw [bt t5 rfl]
  rfl
 have c1:(dNot (dTr (dIsi "tuple" (dVar 5)))) t6=some false:=rfl
 have c2:dBo (d2 kNe (dT1 kLen (za2 (dVar 5) dNil)) (dC (.int 2))) t6=some false:=rfl
 have c3:dBo (d2 kNe (dVar 3) (dVar 4)) t6=some false:=by
  unfold dBo
  rw [zg1 (rfl:dVar 3 t6=some (.tm (mD M))) (rfl:dVar 4 t6=some (.tm (mD M))),ne_mD M rfl rfl]
  rfl
 have l4:(dT1 kLen (za2 (d2 kIx (dVar 5) (dC (.int 1))) dNil)) t6=some (.cl (.int (T.length:Int))):=by
  rw [zs4 (ra:=.tm (.lst (T.map pD))) rfl]
  show some (Ev.cl (.int ((T.map pD).length:Int)))=_
  rw [zas7]
 have c4:=neI_of l4 (zaj8 (fa:=dVar 2) (fb:=dC (.int 1)) (t:=t6) (a:=(n:Int)) (b:=1) rfl rfl)
 have E7:=grd (g:=dRet (dC (.bl false))) (zn3 c1 (zn3 c2 (zn3 c3 c4))) (by
  have:(T.length:Int)=(n:Int) - 1:=by lia
  simp [this])
 let t7:Th:=[A,m',N,.dp (mD M),.dp (mD M),.no,.dp (.lst (C.map D.int)),.dp (.lst (T.map pD)),.no,.no,.no,.no]
 have E8:dUnp 5 (zj7 2 (zc5 (zt5 6) (zc5 (zt5 7) zl3))) t6=some (.nx t7):=rfl
 have E9:dIfS (dOr (dNot (dTr (dIsi "list" (dVar 6)))) (dNot (dTr (dIsi "list" (dVar 7))))) (dRet (dC (.bl false))) zj4 t7=some (.nx t7):=rfl
 let t8:Th:=tG A m' N M (.dp (mD M)) .no (.dp (.lst (C.map D.int))) (.dp (.lst (T.map pD))) [0] .no .no .no
 have E10:dAsg 8 (zag2 (dC (.int 0)) (dC (.bl true))) t7=some (.nx t8):=rfl
 obtain⟨S',u9,fj⟩:=loop_Rd S n1 A m' N (.dp (mD M)) .no (.dp (.lst (C.map D.int))) .no .no .no prL (zam8 n) (fun v hv h=>by have:=zl2 hv;simp at h;lia) (fun v hv=>by simp at hv;subst hv;exact⟨zbg5 0,by lia⟩) (fun v hv=>by have:=zl2 hv;exact⟨by lia,this.2⟩) (fun v hv=>by
  by_cases z:v=0
  ·exact .inl (by simp [z])
  ·have:=hv.1;exact .inr (mem_late (by lia) hv.2)) (by simp [zn6];lia) .no
 let t9:Th:=tG A m' N M (.dp (mD M)) .no (.dp (.lst (C.map D.int))) (.own (T.map pD)) S' u9 .no .no
 have E11:dThw 7 (dForO 7 9 bdRd) t8=some (.nx t9):=by
  have tw:thwT t8 7=tG A m' N M (.dp (mD M)) .no (.dp (.lst (C.map D.int))) (.own (T.map pD)) [0] .no .no .no:=by
   show t8.set 7 (if flats (T.map pD) then Sl.own (T.map pD) else _)=_
   rw [zn7]
   rfl
  unfold dThw
  rw [tw]
  show ((forJ (za3 9) bdRd (T.map pD) (tG A m' N M (.dp (mD M)) .no (.dp (.lst (C.map D.int))) .no [0] .no .no .no)).bind fun t'=>if 7<t'.length then some (Out.nx (t'.set 7 (.own (T.map pD)))) else none)=_
  rw [fj]
  rfl
 have w1:(dT1 (zc4 zf3) (za2 (dVar 7) (za2 (dC (.int 0)) dNil))) t9=some (.nw (C.map D.int)):=(zu1 (ra:=.tm (.lst (T.map pD))) (rb:=.cl (.int 0)) rfl rfl).trans (calln wk)
 have d1:=nel_of C C (rfl:dVar 6 t9=some (.tm (.lst (C.map D.int)))) w1 rfl rfl
 have cb:(zs8 1 [] (fsL (dVar 6)) (za3 0) zd9 (dIsi "bool" (dVar 0))) t9=some (.nw ((C.map fun _=>false).map D.bl)):=by
  have lc:C.length≤50000:=by
   obtain⟨tn,tp⟩:=zp3 (n:=59) gr (hngI T) (by lia)
   have e:=zt9 n1 lT gr
   rw [e]at wk
   injection wk with wk
   injection wk with wk
   have:C.length=(trav (chI T) 59 [0]).1.length:=by rw [← zas7 (f:=D.int), ← wk,zas7]
   rw [this,tp.length_eq]
   simp
   lia
  show (if (C.map D.int).length≤50000 then (ze7 (za3 0) zd9 (dIsi "bool" (dVar 0)) (C.map D.int) [Sl.no]).bind _ else none)=_
  rw [if_pos (by rw [zas7];exact lc),zag3]
  simp only [zar2,zy1,zbb5,if_true]
 have E12:=grd (g:=dRet (dC (.bl false))) (zn3 d1 (inb_of cb)) (by simp)
 have l1:=zam6 (f:=dVar 6) (t:=t9) (r:=.tm (.lst (C.map D.int))) (xs:=C) rfl rfl
 have l2:=list_pD (f:=dVar 7) (t:=t9) (r:=.tm (.lst (T.map pD))) (ts:=T) rfl rfl
 have E13:=zg9 (i:=10) (d:=H) ((zu1 (k:=kTup) l1 l2).trans rfl) (by simp [t9,tG])
 let t10:Th:=tG A m' N M (.dp (mD M)) .no (.dp (.lst (C.map D.int))) (.own (T.map pD)) S' u9 (.val H) .no
 let t11:Th:=tG A m' N M (.dp (mD M)) .no (.dp (.lst (C.map D.int))) (.own (T.map pD)) S' u9 (.val H) (.dp D0)
 have E14:dAsg 11 fO t10=some (.nx t11):=by
  unfold dAsg
  rw [fO_is t10]
  rfl
 have c5:dBo (d2 kNe (dVar 11) fD) t11=some false:=by
  unfold dBo
  rw [zg1 (rfl:dVar 11 t11=some (.tm D0)) (fD_is t11),ne_D0]
  rfl
 have c6:dBo (d2 kNe (dT1 kTup (za2 (dVar 6) (za2 (dVar 7) dNil))) (dVar 10)) t11=some false:=by
  unfold dBo
  rw [zg1 (rfl:(dT1 kTup (za2 (dVar 6) (za2 (dVar 7) dNil))) t11=some (.tm H)) (rfl:dVar 10 t11=some (.cl H))]
  unfold kNe
  show Option.bind (if eqOk 6 H H then some (Ev.cl (.bl (!eqD H H))) else none) _=_
  rw [show eqOk 6 H H=true from zaf9 C T,zn9]
  rfl
 have E15:=grd (g:=dRet (dC (.bl false))) (zn3 c5 c6) rfl
 obtain⟨u6,E16⟩:∃u6,dThw 6 (dApp 6 (dC (.int 0))) t11=some (.nx (tG A m' N M (.dp (mD M)) .no u6 (.own (T.map pD)) S' u9 (.val H) (.dp D0))):=by
  have tw:thwT t11 6=tG A m' N M (.dp (mD M)) .no (.own (C.map D.int)) (.own (T.map pD)) S' u9 (.val H) (.dp D0):=by
   show t11.set 6 (if flats (C.map D.int) then Sl.own (C.map D.int) else _)=_
   rw [ze0]
   rfl
  unfold dThw
  rw [tw]
  have lc:C.length<100000:=by
   obtain⟨tn,tp⟩:=zp3 (n:=59) gr (hngI T) (by lia)
   have e:=zt9 n1 lT gr
   rw [e]at wk
   injection wk with wk
   injection wk with wk
   have:C.length=(trav (chI T) 59 [0]).1.length:=by rw [← zas7 (f:=D.int), ← wk,zas7]
   rw [this,tp.length_eq]
   simp
   lia
  exact⟨_,zs3 (tG A m' N M (.dp (mD M)) .no (.own (C.map D.int)) (.own (T.map pD)) S' u9 (.val H) (.dp D0)) (f:=dC (.int 0)) (i:=6) (xs:=C) (p:=0) rfl rfl lc⟩
 let t13:Th:=tG A m' N M (.dp (mD M)) .no u6 (.own []) S' u9 (.val H) (.dp D0)
 have E17:dClr 7 (tG A m' N M (.dp (mD M)) .no u6 (.own (T.map pD)) S' u9 (.val H) (.dp D0))=some (.nx t13):=rfl
 have r1:(d2 kEq (dT1 (zc4 zc0) (za2 (dVar 3) dNil)) (dVar 10)) t13=some (.cl (.bl true)):=by
  rw [zg1 (bt t13 rfl) (rfl:dVar 10 t13=some (.cl H))]
  unfold kEq
  show (if eqOk 6 H H then some (Ev.cl (.bl (eqD H H))) else none)=_
  rw [show eqOk 6 H H=true from zaf9 C T,zn9]
  rfl
 have r2:(d2 kEq (dVar 3) (dVar 4)) t13=some (.cl (.bl true)):=(zg1 (ra:=.tm (mD M)) (rb:=.tm (mD M)) rfl rfl).trans (eq_mD M rfl rfl)
 have E18:=ret_of (andv_of r1 fun _=>r2)
 show (g_law t0).bind zo3=_
 refine bnd ((za9 E1).trans ?_)
 refine (za9 E2).trans ?_
 refine (za9 E3).trans ?_
 refine (za9 E4).trans ?_
 refine (za9 E5).trans ?_
 refine (za9 E6).trans ?_
 refine (za9 E7).trans ?_
 refine (za9 E8).trans ?_
 refine (za9 E9).trans ?_
 refine (za9 E10).trans ?_
 refine (za9 E11).trans ?_
 refine (za9 E12).trans ?_
 refine (za9 E13).trans ?_
 refine (za9 E14).trans ?_
 refine (za9 E15).trans ?_
 refine (za9 E16).trans ?_
 exact (za9 E17).trans E18
end KX
set_option maxHeartbeats 4000000
namespace KX
open PySem.Spec L2 DL
def spLaw (K:zaq9):Sp:=spD K G_law
theorem all_mk {P:Program}{w:World}{K:zaq9}{h:Heap}{mg:Str→Option Value}{fa:Addr} (X:K.In h) (G:h.Ns mainGlobals mg) (hfa:mg "law"=some (.ref fa)) {f0:Addr}{f1:Addr}{f2:Addr}{f3:Addr}{f4:Addr}{f5:Addr}{f6:Addr}{f7:Addr}{f8:Addr}{f9:Addr}
  (h0:Hv K "grown_tree" zh2 f0)
  (h1:Hv K "tour_down" zi7 f1)
  (h2:Hv K "tour_by_tree" zf0 f2)
  (h3:Hv K "_law_cell" zk8 f3)
  (h4:Hv K "_law_mixed" zi9 f4)
  (h5:Hv K "_law_row" zm9 f5)
  (h6:Hv K "_law_roads" zi8 f6)
  (h7:Hv K "_law_is_next" zf8 f7)
  (h8:Hv K "_law_walked" zf1 f8)
  (h9:Hv K "law" s_law f9)
  (z_bool:zax8 K mainGlobals "bool"=some none) (z_isinstance:zax8 K mainGlobals "isinstance"=some none) (z_len:zax8 K mainGlobals "len"=some none) (z_list:zax8 K mainGlobals "list"=some none) (z_min:zax8 K mainGlobals "min"=some none) (z_range:zax8 K mainGlobals "range"=some none) (z_sorted:zax8 K mainGlobals "sorted"=some none) (z_tuple:zax8 K mainGlobals "tuple"=some none)   :
  TbOk K []∧∃fd:FuncData,(∀(s:zas4) (v:Value),BindsTo s fd ⟨[v],[]⟩ [("_law_script",v)])∧∀base:BHeap,base.tabs=tbOf K []→K.In base→base.Ns mainGlobals mg→(∀x∈([]:List Str),∀c P,zbj0 K x=some (c,P)→zbh4 base c P)→FnOk P w K mg base CX0 46 fa fd ["_law_script"] (spLaw K):=by
 have e:=hfa.symm.trans (h9.mg X G)
 cases e
 have bu:Blt mg:=⟨zav2 X G z_bool,zav2 X G z_isinstance,zav2 X G z_len,zav2 X G z_list,zav2 X G z_min,zav2 X G z_range,zav2 X G z_sorted,zav2 X G z_tuple⟩
 obtain⟨_,u0⟩:=h0.fn
 have d0:Df K mg "grown_tree" zh2 ["roads"] f0 _:=⟨u0,h0.mg X G,zaq1 u0 fun _ _ _ _ _ _ _=>rfl⟩
 obtain⟨_,u1⟩:=h1.fn
 have d1:Df K mg "tour_down" zi7 ["many", "tree"] f1 _:=⟨u1,h1.mg X G,zag7 u1 fun _ _ _ _ _ _ _ _=>rfl⟩
 obtain⟨_,u2⟩:=h2.fn
 have d2:Df K mg "tour_by_tree" zf0 ["roads"] f2 _:=⟨u2,h2.mg X G,zaq1 u2 fun _ _ _ _ _ _ _=>rfl⟩
 obtain⟨_,u3⟩:=h3.fn
 have d3:Df K mg "_law_cell" zk8 ["_law_script", "_law_k"] f3 _:=⟨u3,h3.mg X G,zag7 u3 fun _ _ _ _ _ _ _ _=>rfl⟩
 obtain⟨_,u4⟩:=h4.fn
 have d4:Df K mg "_law_mixed" zi9 ["_law_cell_here", "_law_k"] f4 _:=⟨u4,h4.mg X G,zag7 u4 fun _ _ _ _ _ _ _ _=>rfl⟩
 obtain⟨_,u5⟩:=h5.fn
 have d5:Df K mg "_law_row" zm9 ["_law_cell_here", "_law_many", "_law_bounds", "_law_plain"] f5 _:=⟨u5,h5.mg X G,binds4 u5 fun _ _ _ _ _ _ _ _ _ _=>rfl⟩
 obtain⟨_,u6⟩:=h6.fn
 have d6:Df K mg "_law_roads" zi8 ["_law_script", "_law_start", "_law_many"] f6 _:=⟨u6,h6.mg X G,binds3 u6 fun _ _ _ _ _ _ _ _ _=>rfl⟩
 obtain⟨_,u7⟩:=h7.fn
 have d7:Df K mg "_law_is_next" zf8 ["_law_roads_here", "_law_inner", "_law_one", "_law_other"] f7 _:=⟨u7,h7.mg X G,binds4 u7 fun _ _ _ _ _ _ _ _ _ _=>rfl⟩
 obtain⟨_,u8⟩:=h8.fn
 have d8:Df K mg "_law_walked" zf1 ["_law_tree", "_law_place"] f8 _:=⟨u8,h8.mg X G,zag7 u8 fun _ _ _ _ _ _ _ _=>rfl⟩
 obtain⟨_,u9⟩:=h9.fn
 have d9:Df K mg "law" s_law ["_law_script"] fa _:=⟨u9,h9.mg X G,zaq1 u9 fun _ _ _ _ _ _ _=>rfl⟩
 refine⟨tbOk_nil,_,Hv.bt u9 fun _ _ _ _ _ _ _=>rfl,fun base ht _ _ hCd=>?_⟩
 have F_grown_tree:=zu7 (P:=P) (w:=w) (base:=base) d0.fn bu
 have F_tour_down:=zw8 (P:=P) (w:=w) (base:=base) d1.fn bu
 have F_tour_by_tree:=zq9 (P:=P) (w:=w) (base:=base) d2.fn bu (d0.cal F_grown_tree) (d1.cal F_tour_down)
 have F_law_cell:=zaa7 (P:=P) (w:=w) (base:=base) d3.fn bu
 have F_law_mixed:=zx0 (P:=P) (w:=w) (base:=base) d4.fn bu
 have F_law_row:=zah6 (P:=P) (w:=w) (base:=base) d5.fn bu (d4.cal F_law_mixed)
 have F_law_roads:=zw9 (P:=P) (w:=w) (base:=base) d6.fn bu (d3.cal F_law_cell) (d5.cal F_law_row)
 have F_law_is_next:=zs7 (P:=P) (w:=w) (base:=base) d7.fn bu
 have F_law_walked:=zu6 (P:=P) (w:=w) (base:=base) d8 bu
 have F_law:=ok_law (P:=P) (w:=w) (base:=base) d9.fn bu (d3.cal F_law_cell) (d4.cal F_law_mixed) (d6.cal F_law_roads) (d2.cal F_tour_by_tree) (d7.cal F_law_is_next) (d8.cal F_law_walked)
 exact F_law
theorem walk {l:zbf9}{q:Program}{loose:List Str}{XP:(Str→Option Value)→Heap→Prop}{YP:World→Heap→Prop}{d:DefRec}{K:Params→zaq9} (hn:l.most=some 63) (hdf:d.params.defaults=[])
  (hY:∀(w:World) (h:Heap),YP w h→(K w.params).In h) (hrec:∀x∈([]:List Str),∃dr,(recsOf q).find? (fun e=>e.name == x)=some dr)
  (Fx:∀(w:World) (mg:Str→Option Value) (fa:Addr) (h:Heap),(K w.params).In h→h.Ns mainGlobals mg→mg d.name=some (.ref fa) →
   TbOk (K w.params) []∧∃fd:FuncData,(∀(s:zas4) (u:Value),BindsTo s fd ⟨[u],[]⟩ [("_law_script",u)])∧∀base:BHeap,base.tabs=tbOf (K w.params) []→(K w.params).In base→base.Ns mainGlobals mg→(∀x∈([]:List Str),∀c P,zbj0 (K w.params) x=some (c,P)→zbh4 base c P)→FnOk l.prog w (K w.params) mg base CX0 46 fa fd ["_law_script"] (spLaw (K w.params))) :
  zbi7 q loose XP YP l.row.toRowW d [] (fun f vs=>PySem.call f vs) :=
 L2.walk_ofT (n:=63) (k:=46) (x := "_law_script") (names:=[]) (CX:=fun _=>CX0) (sp:=fun w=>spLaw (K w.params)) hn (by decide) hdf ⟨rfl,by decide,by decide⟩ hY hrec Fx
  (fun _ H a ns hl hb hS=>⟨[],[.lst (ns.map .int)],.cl (.bl true),fun p hp=>(by cases hp),.cons (.lst (by rw [hide_nil];exact hS) (Reps.ints ns)) .nil,law_true ns hl hb,fun v H' _ q=>by cases q;rfl⟩) fun _ _ _ _ _ z=>z
end KX
open PySem PySem.W PyProof.Rows
set_option maxRecDepth 100000 in
set_option maxHeartbeats 0 in
theorem PySem.Challenge.cw_nearenough_k19_tree_and_tour_holds : PySem.Challenge.rw_nearenough_k19_tree_and_tour.Holds := by
 w_on;o_law;k_head;(case hw=>w_witness2)
 k_fill
 refine KX.walk (l:=PySem.Challenge.rw_nearenough_k19_tree_and_tour) rfl rfl (fun w h Y=>by first | exact PySem.W.kIn_of Y | exact PySem.W.km_in_of Y) (by intro x hx;simp at hx) ?F
 case F =>
  intro w mg fa h KI G hmg
  refine' KX.all_mk KI G hmg ?h0 ?h1 ?h2 ?h3 ?h4 ?h5 ?h6 ?h7 ?h8 ?h9 ?z_bool ?z_isinstance ?z_len ?z_list ?z_min ?z_range ?z_sorted ?z_tuple
  all_goals try (refine' DL.Hv.mk ?a ?l ?c ?k;(case a=>k_is);(case l=>k_is);(case c=>k_is);(case k=>k_is))
  all_goals try k_is

