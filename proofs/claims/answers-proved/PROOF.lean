import PyProof.Rows.All
import Wide.All
import OpenK.AllK
import Wide.FinOn
import PyProof.EqAt
import PyProof.EqKinds
import PyProof.TupleCall
import Open.SpecLaws
import KE.OsHead
import KE.OsGo
import KE.BitLaws
import PySem.SetOps
import PyProof.Rows.SetFrom
import PyProof.SetRoads
import PyProof.ListNew
import PyProof.CollectWalk
import PyProof.FactsAll.range_iterator_2
import PyProof.Rows.SortShell
import KE.KMinBuiltin
import PyProof.Rows.CallKwBuiltin
import KE.KDictOf
import KE.KItemsList
import PyProof.ZipIter
import PyProof.AttrMissHeap
import KE.KTurns
import PySem.Challenge.RW_cellgraph_s01_answers
set_option linter.all false
set_option Elab.async false
set_option maxRecDepth 100000
open VanbkbNeutral (asked1 callOf encode whole60)
open Vanbkb (Cell)
open PySem.W (Frag WRecords WalkOS callWith_K callWith_K0 codeIn emptyDict findIn fnOf handedIn hasDictIn instObj isFn keepIn lookIn makesIn methodObj mg_of nsIn plainGet plainGet_of plainOver takerIn)
open List (all_eq_true all_map any_cons any_eq_false any_eq_true any_map append_nil cons_append contains_iff_mem drop_eq_getElem_cons drop_zero ext_getElem? filterMap_cons filterMap_cons_none filterMap_cons_some filter_congr filter_cons filter_eq_self filter_map filter_sublist foldl_cons forIn_cons forIn_nil length_append length_cons length_drop length_eq_zero_iff length_eraseIdx_of_lt length_filter_le length_map length_nil length_range length_singleton length_take length_zip length_zipIdx lookup_cons map_append map_congr_left map_cons map_nil map_take mem_append mem_append_left mem_append_right mem_cons mem_cons_of_mem mem_cons_self mem_filter mem_filterMap mem_iff_getElem mem_map mem_of_getElem? mem_of_mem_take mem_range mem_singleton nodup_append nodup_cons nodup_iff_pairwise_ne nodup_nil not_mem_nil of_mem_zip pairwise_append pairwise_cons pairwise_map pairwise_singleton size_toArray take_append_drop take_length take_sublist take_zero zip_cons_cons)
section
namespace L2
open PySem PySem.Spec PyProof.Rows
abbrev Key:=Sum Int Str
def lB:Key->Value->Bool
 | .inl k,v=>Value.isInt k v
 | .inr x,v=>Value.isStrOf x v
def J3 (w:World):Key->Int
 | .inl k=>hashInt k
 | .inr x=>hashStr w x
theorem iz: ∀{k:Key} {v:Value},lB k v=true->(∃i t,k=Sum.inl i/\v=Value.int i t)\/(∃x t,k=Sum.inr x/\v=Value.str x t)
 | .inl i,v,h=>by
  obtain⟨t,e⟩:=Value.isInt_shape (k:=i) (v:=v) h;exact .inl ⟨i,t,rfl,e⟩
 | .inr x,v,h=>by
  obtain⟨t,e⟩:=Value.isStrOf_shape (x:=x) (v:=v) h;exact .inr ⟨x,t,rfl,e⟩
theorem zO (i:Int)(t:Tok):lB (.inl i) (.int i t)=true:=by simp [lB,Value.isInt]
theorem J4 (x:Str)(t:Tok):lB (.inr x) (.str x t)=true:=by simp [lB,Value.isStrOf]
theorem J5 (a b:Int):decide ((Sum.inl a:Key)=Sum.inl b)=(a==b):=by
 by_cases e:a=b
 .subst e;simp
 .have h: ¬ (Sum.inl a:Key)=Sum.inl b:=fun q=>e (Sum.inl.inj q);rw[decide_eq_false h];exact (beq_eq_false_iff_ne.mpr e).symm
theorem J6 (a b:Str):decide ((Sum.inr a:Key)=Sum.inr b)=decide (a=b):=by
 by_cases e:a=b
 .subst e;simp
 .have h: ¬ (Sum.inr a:Key)=Sum.inr b:=fun q=>e (Sum.inr.inj q);rw[decide_eq_false h,decide_eq_false e]
theorem J7 (a:Int)(b:Str):decide ((Sum.inl a:Key)=Sum.inr b)=false:=decide_eq_false (fun q=>nomatch q)
theorem J8 (a:Str)(b:Int):decide ((Sum.inr a:Key)=Sum.inl b)=false:=decide_eq_false (fun q=>nomatch q)
def cV (prog:Program) (w:World):PySem.KeyKind prog w Key where
 is:=lB
 hash:=J3 w
 inj:=fun v a b ha hb=>by
  rcases iz ha with⟨i,t,rfl,rfl⟩ | ⟨x,t,rfl,rfl⟩
  .rcases iz hb with⟨j,u,rfl,e⟩ | ⟨y,u,rfl,e⟩
   .injection e with e1 _;rw[e1]
   .exact nomatch e
  .rcases iz hb with⟨j,u,rfl,e⟩ | ⟨y,u,rfl,e⟩
   .exact nomatch e
   .injection e with e1 _;rw[e1]
 byValue:=fun k v h=>by
  rcases iz h with⟨i,t,rfl,rfl⟩ | ⟨x,t,rfl,rfl⟩<;>rfl
 pyHash:=fun hv h=>by
  rcases iz hv with⟨i,t,rfl,rfl⟩ | ⟨x,t,rfl,rfl⟩
  .exact wpAny_pyHash_int h
  .exact wpAny_pyHash_str h
 eqBool:=fun hu hv h=>by
  rcases iz hu with⟨i,t,rfl,rfl⟩ | ⟨x,t,rfl,rfl⟩
  .rcases iz hv with⟨j,u,rfl,rfl⟩ | ⟨y,u,rfl,rfl⟩
   .rw[J5] at h;exact wpAny_eqBool_int h
   .rw[J7] at h;exact SeqAt.EqAt.int_str i t y u _ _ _ _ h
  .rcases iz hv with⟨j,u,rfl,rfl⟩ | ⟨y,u,rfl,rfl⟩
   .rw[J8] at h;exact SeqAt.EqAt.str_int x t j u _ _ _ _ h
   .rw[J6] at h;exact wpAny_eqBool_str h
 «strs» :=fun k x t v h=>by
  rcases iz h with⟨i,u,rfl,e⟩ | ⟨y,u,rfl,e⟩
  .exact nomatch e
  .injection e with e1 _;subst e1
   cases v<;>rfl
theorem J9 (prog:Program)(w:World)(i:Int)(t:Tok):(cV prog w).is (.inl i) (.int i t)=true:=zO i t
theorem Ka (prog:Program)(w:World)(x:Str)(t:Tok):(cV prog w).is (.inr x) (.str x t)=true:=J4 x t
end L2
namespace L2
open PySem PySem.Spec PyProof.Rows
inductive V where
 | non | bl (b:Bool) | int (i:Int) | str (x:Str) | byt (b:Array UInt8) | flt (b:UInt64) | ref (a:Addr) | ty (n:String)
 deriving DecidableEq
def RelV:V->Value->Prop
 | .non,u=>u=Value.none
 | .bl b,u=>u=Value.bool b
 | .int i,u=> ∃t,u=Value.int i t
 | .str x,u=> ∃t,u=Value.str x t
 | .byt b,u=> ∃t,u=Value.bytes b t
 | .flt b,u=> ∃t,u=Value.float b t
 | .ref a,u=>u=Value.ref a
 | .ty n,u=>u=Value.type n
abbrev Vals:List V->List Value->Prop:=Paired RelV
theorem Vals.length {xs:List V}{us:List Value}(r:Vals xs us):xs.length=us.length:=Paired.length r
theorem Vals.get: ∀{xs:List V} {us:List Value} {i:Nat} {x:V},Vals xs us->xs[i]?=some x-> ∃u,us[i]?=some u/\RelV x u
 | _,_,_,_,.nil,e=>by simp at e
 | _,_,0,_,.cons r _,e=>by simp at e;subst e;exact⟨_,rfl,r⟩
 | _,_,i+1,x,.cons _ t,e=>by
  obtain⟨u,h1,h2⟩:=Vals.get (i:=i) (x:=x) t (by simpa using e);exact⟨u,by simpa using h1,h2⟩
theorem Vals.set {x:V}{u:Value}(r:RelV x u): ∀{xs:List V} {us:List Value} (i:Nat),Vals xs us->Vals (xs.set i x) (us.set i u)
 | _,_,_,.nil=>.nil
 | _,_,0,.cons _ t=>.cons r t
 | _,_,i+1,.cons q t=>.cons q (Vals.set r i t)
theorem Vals.append: ∀{xs ys:List V} {us ws:List Value},Vals xs us->Vals ys ws->Vals (xs++ys) (us++ws)
 | _,_,_,_,.nil,s=>s
 | _,_,_,_,.cons r t,s=>.cons r (Vals.append t s)
theorem Vals.take: ∀{xs:List V} {us:List Value} (n:Nat),Vals xs us->Vals (xs.take n) (us.take n)
 | _,_,0,_=>.nil
 | _,_,_+1,.nil=>.nil
 | _,_,n+1,.cons r t=>.cons r (Vals.take n t)
theorem Vals.drop: ∀{xs:List V} {us:List Value} (n:Nat),Vals xs us->Vals (xs.drop n) (us.drop n)
 | _,_,0,r=>r
 | _,_,_+1,.nil=>.nil
 | _,_,n+1,.cons _ t=>Vals.drop n t
def d7:Option V->Option Value->Prop
 | some v,some u=>RelV v u
 | none,none=>True
 | _,_=>False
def KV {κ:Type}:List (κ×V)->List (κ×Value)->Prop:=Paired fun (p:κ×V) (q:κ×Value)=>p.1=q.1/\RelV p.2 q.2
def kV:Key->V
 | .inl i=>.int i
 | .inr x=>.str x
inductive HO where
 /-- a list -/
 | lst (xs:List V)
 /-- a tuple (never changes) -/
 | tup (xs:List V)
 /-- a dict whose keys are ints and texts;one whose keys are tuples of ints and texts (the empty one is both) -/
 | dK (kvs:List (Key×V)) | dT (kvs:List (List Key×V))
 /-- a set of ints: its members,its size -/
 | set (S:Int->Bool) (n:Nat)
 /-- an instance of the class at C,its dict at dx,its attributes -/
 | ins (C dx:Addr) (fs:List (Str×V))
 /-- the dict of the instance at x -/
 | own (x:Addr)
 /-- the dict of an exception -/
 | xd (fs:List (Str×V))
 /-- a bound method,f of x -/
 | met (f x:Addr)
 /-- a range object lo,lo+1,.. below hi -/
 | rng (lo hi:Int)
 /-- a thing that is known to the object (the script;a dict while a loop walks it): read,never written while it is so -/
 | frz (o:Obj) (u:HO)
 /-- a code object's table -/
 | tbl (ps:Array Value)
 /-- any other thing,by what is true of its one object (a def of one's own: SetO a S n:=HO.ext fun h=>..) -/
 | ext (φ:Heap->Prop)
abbrev Hp:=Addr->Option HO
def upd (H:Hp) (a:Addr) (o:HO):Hp:=fun b=>if b=a then some o else H b
theorem dC {H:Hp}{a:Addr}{o:HO}:upd H a o a=some o:=by unfold upd;rw[if_pos rfl]
theorem bc {H:Hp}{a b:Addr}{o:HO}(h:b≠a):upd H a o b=H b:=by unfold upd;rw[if_neg h]
theorem Kc {H:Hp}{a b:Addr}{o u:HO}(h:H a=some o)(h':H b=some u)(d:o≠u):a≠b:=by
 intro e;subst e;rw[h] at h';exact d (Option.some.inj h')
theorem bW {H:Hp}{a b:Addr}{o:HO}(h:H a=some o)(h':H b=none):a≠b:=by
 intro e;subst e;rw[h] at h';cases h'
section
variable (P:Program)(w:World)
def cB (H:Hp) (h:Heap) (a:Addr):HO->Prop
 | .lst xs=>xs.length<=sizeLine/\ ∃ (its:List Value) (n:Nat),Vals xs its/\h.get? a=some { cls:=.type "list",data:=.seq its.toArray n }
 | .tup xs=>xs.length<=sizeLine/\ ∃its:List Value,Vals xs its/\IsTup h a its.toArray
 | .dK kvs=>kvs.length<=sizeLine/\(a==sysModules)=false/\ ∃vs,KV kvs vs/\h.DictOf (cV P w) a vs
 | .dT kvs=>kvs.length<=sizeLine/\(a==sysModules)=false/\ ∃xs:List (List Key×Addr×Value),
   Paired (fun (p:List Key×V) (q:List Key×Addr×Value)=>p.1=q.1/\H q.2.1=some (.tup (p.1.map kV))/\RelV p.2 q.2.2) kvs xs /\
   ∃o es ep,h.get? a=some o/\o.ExactDict/\o.data= .dict es ep/\es.toList=xs.map (entryOfKey (tupleKind (cV P w)))/\(xs.map (·.1)).Nodup
 | .set S n=>h.SetOf (intKind P w) a S n
 | .ins C dx fs=>H dx=some (.own a)/\fs.length<=1000/\dx≠a/\h.get? a=some (instObj C dx) /\
   ∃mA,h.Ns1 dx mA/\(∀f,d7 (fs.lookup f) (mA f))/\PySem.Within mA (fs.map (·.1))
 | .own _=> ∃o,h.get? a=some o
 | .xd fs=> ∃mA,h.Ns1 a mA/\ ∀f,d7 (fs.lookup f) (mA f)
 | .rng lo hi=> ∃t u v,h.get? a=some { cls:=.type "range",data:=.fields #[.int lo t,.int hi u,.int 1 v] }
 | .frz o u=>h.get? a=some o/\cB H h a u
 | .tbl ps=>h.get? a=some { cls:=.none,data:=.fields ps }
 | .met f x=>h.get? a=some (methodObj (.ref f) (.ref x))
 | .ext φ=>φ h/\(∃o,h.get? a=some o)/\ ∀h1 h2:Heap,φ h1->(∀o,h1.get? a=some o->h2.get? a=some o)->φ h2
def HOk (H:Hp) (h:Heap):Prop:= ∀a o,H a=some o->cB P w H h a o
end
section
variable {P:Program}{w:World}{H H':Hp}{h h':Heap}{a:Addr}{o:HO}
theorem cB.lt (x:cB P w H h a o):a < h.objs.size:=by
 cases o with
 | lst xs=>obtain⟨_,_,_,_,e⟩:=x;exact Heap.lt_size e
 | tup xs=>obtain⟨_,_,_,p⟩:=x;exact p.lt
 | dK kvs=>obtain⟨_,_,_,_,o,_,_,e,_⟩:=x;exact Heap.lt_size e
 | dT kvs=>obtain⟨_,_,_,_,o,_,_,e,_⟩:=x;exact Heap.lt_size e
 | set S n=>obtain⟨o,_,_,_,e,_⟩:=x;exact Heap.lt_size e
 | ins C dx fs=>obtain⟨_,_,_,e,_⟩:=x;exact Heap.lt_size e
 | own y=>obtain⟨_,e⟩:=x;exact Heap.lt_size e
 | xd fs=>obtain⟨_,⟨_,_,_,e,_⟩,_⟩:=x;exact Heap.lt_size e
 | rng lo hi=>obtain⟨_,_,_,e⟩:=x;exact Heap.lt_size e
 | frz ob u=>obtain⟨e,_⟩:=x;exact Heap.lt_size e
 | tbl ps=>exact Heap.lt_size (show h.get? a=some _ from x)
 | met f y=>exact Heap.lt_size (show h.get? a=some _ from x)
 | ext φ=>obtain⟨_,⟨_,e⟩,_⟩:=x;exact Heap.lt_size e
theorem Paired.mapP {α β:Type}{F G:α->β->Prop}: ∀{l₁:List α} {l₂:List β},Paired F l₁ l₂->(∀a b,F a b->G a b)->Paired G l₁ l₂
 | _,_,.nil,_=>.nil
 | _,_,.cons r t,f=>.cons (f _ _ r) (Paired.mapP t f)
theorem cB.stay (x:cB P w H h a o)(k: ∀b u,(b=a\/H b=some (.own a))->h.get? b=some u->h'.get? b=some u)
  (ho: ∀b,H b=some (.own a)->H' b=some (.own a)) (ht: ∀b xs,H b=some (.tup xs)->H' b=some (.tup xs)):cB P w H' h' a o:=by
 induction o with
 | lst xs=>obtain⟨z,its,n,r,e⟩:=x;exact⟨z,its,n,r,k _ _ (.inl rfl) e⟩
 | tup xs=>obtain⟨z,its,r,ob,e,c⟩:=x;exact⟨z,its,r,ob,k _ _ (.inl rfl) e,c⟩
 | dK kvs=>obtain⟨z,y,vs,r,ob,es,ep,e,c⟩:=x;exact⟨z,y,vs,r,ob,es,ep,k _ _ (.inl rfl) e,c⟩
 | dT kvs =>
  obtain⟨z,y,xs,r,ob,es,ep,e,c⟩:=x;exact⟨z,y,xs,Paired.mapP r fun p q z=>⟨z.1,ht _ _ z.2.1,z.2.2⟩,ob,es,ep,k _ _ (.inl rfl) e,c⟩
 | set S n=>obtain⟨ob,es,ep,t,e,c⟩:=x;exact⟨ob,es,ep,t,k _ _ (.inl rfl) e,c⟩
 | ins C dx fs =>
  obtain⟨d,z,ne,e,mA,⟨od,es,ep,e2,c⟩,r⟩:=x;exact⟨ho _ d,z,ne,k _ _ (.inl rfl) e,mA,⟨od,es,ep,k _ _ (.inr d) e2,c⟩,r⟩
 | own y=>obtain⟨ob,e⟩:=x;exact⟨ob,k _ _ (.inl rfl) e⟩
 | xd fs=>obtain⟨mA,⟨od,es,ep,e,c⟩,r⟩:=x;exact⟨mA,⟨od,es,ep,k _ _ (.inl rfl) e,c⟩,r⟩
 | rng lo hi=>obtain⟨t,u,v,e⟩:=x;exact⟨t,u,v,k _ _ (.inl rfl) e⟩
 | frz ob u ih=>obtain⟨e,q⟩:=x;exact⟨k _ _ (.inl rfl) e,ih q⟩
 | tbl ps =>
  have e:h.get? a=some { cls:=.none,data:=.fields ps }:=x;show h'.get? a=some { cls:=.none,data:=.fields ps };exact k a _ (.inl rfl) e
 | met f y =>
  have e:h.get? a=some (methodObj (.ref f) (.ref y)):=x;show h'.get? a=some (methodObj (.ref f) (.ref y));exact k a _ (.inl rfl) e
 | ext φ=>obtain⟨p,⟨o,e⟩,st⟩:=x;exact⟨st _ _ p fun o q=>k _ _ (.inl rfl) q,⟨o,k _ _ (.inl rfl) e⟩,st⟩
theorem HOk.lt (x:HOk P w H h)(e:H a=some o):a < h.objs.size:=(x a o e).lt
theorem HOk.fresh (x:HOk P w H h)(e:h.objs.size<=a):H a=none:=by
 cases q:H a with
 | none=>rfl
 | some u=>exact absurd (Nat.lt_of_lt_of_le (x.lt q) e) (Nat.lt_irrefl _)
theorem HOk.kept (x:HOk P w H h)(k: ∀b u,h.get? b=some u->h'.get? b=some u):HOk P w H h':=fun a o e =>
 (x a o e).stay (fun b u _ q=>k b u q) (fun _ q=>q) fun _ _ q=>q
theorem HOk.laid (x:HOk P w H h)(k: ∀b u,h.get? b=some u->h'.get? b=some u)(hp:h.objs.size<=a)(new:cB P w (upd H a o) h' a o):HOk P w (upd H a o) h':=fun b u e=>by
 have hn:=x.fresh hp
 by_cases hb:b=a
 .subst hb;rw[dC] at e;cases e;exact new
 .rw[bc hb] at e
  exact (x b u e).stay (fun c v _ q=>k c v q) (fun c q=>by rw[bc (bW q hn)];exact q) fun c xs q=>by rw[bc (bW q hn)];exact q
end
def Rd (H:Hp) (a:Addr) (u:HO):Prop:=H a=some u\/ ∃o,H a=some (.frz o u)
theorem Rd.ok {P:Program}{w:World}{H:Hp}{h:Heap}{a:Addr}{u:HO}(r:Rd H a u)(x:HOk P w H h):cB P w H h a u:=by
 rcases r with r | ⟨o,r⟩
 .exact x a u r
 .obtain⟨_,q⟩:=x a _ r;exact q
def Mut:Option HO->Prop
 | some (.lst _)=>True
 | some (.dK _)=>True
 | some (.dT _)=>True
 | some (.set _ _)=>True
 | some (.ins _ _ _)=>True
 | some (.ext _)=>True
 | _=>False
section
variable {P:Program}{w:World}{H:Hp}{h h':Heap}{x e:Addr}{o':HO}
theorem HOk.write (ok:HOk P w H h)(mu:Mut (H x))(he:e=x\/H e=some (.own x))(k: ∀b u,b≠e->h.get? b=some u->h'.get? b=some u)(heo: ∃u,h'.get? e=some u)
  (new:cB P w (upd H x o') h' x o'):HOk P w (upd H x o') h':=fun b u q=>by
 have nown: ∀c y,H c=some (.own y)->c≠x:=fun c y r z=>by subst z;rw[r] at mu;exact mu
 have ntup: ∀c xs,H c=some (.tup xs)->c≠x:=fun c xs r z=>by subst z;rw[r] at mu;exact mu
 by_cases hb:b=x
 .subst hb;rw[dC] at q;cases q;exact new
 .rw[bc hb] at q
  by_cases hbe:b=e
  .have q':H b=some (.own x):=by
    rcases he with z | z
    .exact absurd (hbe.trans z) hb
    .rw[hbe];exact z
   rw[q] at q';cases q';obtain⟨v,hv⟩:=heo;exact⟨v,by rw[hbe];exact hv⟩
  .refine (ok b u q).stay (fun c v hc r=>k c v ?_ r) (fun c r=>by rw[bc (nown c b r)];exact r) fun c xs r=>by rw[bc (ntup c xs r)];exact r
   rcases hc with rfl | hc
   .exact hbe
   .rintro rfl;rcases he with z | z
    .exact nown c b hc z
    .rw[hc] at z;cases z;exact hb rfl
end
structure Un (fs ex:List Addr) (H H':Hp) (h h':Heap):Prop where
 keep: ∀b o,h.get? b=some o->H b=none->b∉fs->b∉ex->h'.get? b=some o
 slot: ∀b o,h.get? b=some o->H b=none->b∈fs->b∉ex-> ∃sl,h'.get? b=some { o with slots:=sl }
 free: ∀b o,h.get? b=some o->H b=none->b∉ex->H' b=none
 there: ∀b o,h.get? b=some o->b∉ex-> ∃o',h'.get? b=some o'
 tups: ∀b xs,H b=some (.tup xs)->H' b=some (.tup xs)
 frzs: ∀b o u,H b=some (.frz o u)->H' b=some (.frz o u)
 tbls: ∀b ps,H b=some (.tbl ps)-> ∃more,H' b=some (.tbl (ps++more))
section
variable {fs fs' ex ex':List Addr}{H H1 H2:Hp}{h h1 h2 h':Heap}{a x e:Addr}{o:HO}
theorem Un.any (u:Un fs ex H H1 h h1){b:Addr}{ob:Obj}(q:h.get? b=some ob)(n:H b=none)(hx:b∉ex): ∃sl,h1.get? b=some { ob with slots:=sl }:=by
 by_cases hb:b∈fs
 .exact u.slot b ob q n hb hx
 .exact⟨ob.slots,u.keep b ob q n hb hx⟩
theorem Un.kept (k: ∀b u,h.get? b=some u->h'.get? b=some u):Un fs ex H H h h' :=
 ⟨fun b ob q _ _ _=>k b ob q,fun b ob q _ _ _=>⟨ob.slots,k b ob q⟩,fun _ _ _ n _=>n,fun b ob q _=>⟨ob,k b ob q⟩,fun _ _ q=>q,fun _ _ _ q=>q,fun _ ps q=>⟨#[],by rw[q];simp⟩⟩
theorem Un.refl:Un fs ex H H h h:=Un.kept fun _ _ q=>q
theorem Un.laid (k: ∀b u,h.get? b=some u->h'.get? b=some u)(hp:h.objs.size<=a)(hn:H a=none):Un fs ex H (upd H a o) h h' where
 keep:=fun b u q _ _ _=>k b u q
 slot:=fun b u q _ _ _=>⟨u.slots,k b u q⟩
 free:=fun b u q n _=>by rw[bc (Nat.ne_of_lt (Nat.lt_of_lt_of_le (Heap.lt_size q) hp))];exact n
 there:=fun b u q _=>⟨u,k b u q⟩
 tups:=fun b xs q=>by rw[bc (bW q hn)];exact q
 frzs:=fun b u xs q=>by rw[bc (bW q hn)];exact q
 tbls:=fun b ps q=>⟨#[],by rw[bc (bW q hn),q];simp⟩
theorem Un.write (mu:Mut (H x))(he:e=x\/H e=some (.own x))(k: ∀b u,b≠e->h.get? b=some u->h'.get? b=some u)(heo: ∃u,h'.get? e=some u):Un fs ex H (upd H x o) h h':=by
 have hx: ∀b,H b=none->b≠x:=fun b n z=>by subst z;rw[n] at mu;exact mu
 have hb: ∀b,H b=none->b≠e:=fun b n z=>by
  subst z;rcases he with r | r
  .exact hx b n r
  .rw[n] at r;cases r
 have hm: ∀b u,H b=some u-> ¬Mut (some u)->b≠x:=fun b u q nm z=>by subst z;rw[q] at mu;exact nm mu
 refine⟨fun b u q n _ _=>k b u (hb b n) q,fun b u q n _ _=>⟨u.slots,k b u (hb b n) q⟩,fun b u q n _=>by rw[bc (hx b n)];exact n,fun b u q _=>?_,
  fun b xs q=>by rw[bc (hm b _ q fun z=>z)];exact q,fun b u xs q=>by rw[bc (hm b _ q fun z=>z)];exact q,fun b ps q=>⟨#[],by rw[bc (hm b _ q fun z=>z),q];simp⟩⟩
 by_cases hbe:b=e
 .subst hbe;exact heo
 .exact⟨u,k b u hbe q⟩
end
def trk (h:Heap) (H:Hp):List Addr:=(List.range h.objs.size).filter fun a=>(H a).isSome
def iB (h:Heap) (H:Hp):Heap:=PySem.W.hideAll h (trk h H)
theorem Kd (h:Heap)(H:Hp):(iB h H).objs.size=h.objs.size:=PySem.W.hideAll_size _ _
theorem Ke {h:Heap}{H:Hp}{b:Addr}{o:Obj}(e:h.get? b=some o)(n:H b=none):(iB h H).get? b=some o :=
 PySem.W.hideAll_get _ e fun hm=>by
  have q:(H b).isSome=true:=(mem_filter.mp hm).2;rw[n] at q;simp at q
theorem Kf {h:Heap}{H:Hp}{b:Addr}{o:Obj}(e:(iB h H).get? b=some o):h.get? b=some o/\H b=none:=by
 have e':h.get? b=some o:=PySem.W.of_hideAll (trk h H) e;refine⟨e',?_⟩
 cases q:H b with
 | none=>rfl
 | some x =>
  have hm:b∈trk h H:=mem_filter.mpr ⟨mem_range.mpr (Heap.lt_size e'),by simp [q]⟩;have z:(iB h H).get? b=none:=PySem.W.hideAll_none (trk h H) hm;rw[z] at e;cases e
end L2
namespace L2
open PySem PySem.Spec PyProof.Rows
structure Mod (K:Frag) (mg:Str->Option Value) (base:Heap):Prop where
 kin:K.In base
 glob:base.Ns mainGlobals mg
 blt: ∃mb,base.Ns builtinsNs mb/\ ∀x:Str,x≠"__name__"->mb x=bootBuiltins x
 nolimit:base.NoLimit
structure Cx where
 prog:Program
 w:World
 K:Frag
 mg:Str->Option Value
 base:Heap
 A:Around
 N:List Str
 s_0:Shared
 H_0:Hp
 env:Env
 outer:List Env
 stack:List Env
 ex:List Addr
 fn:Str->Bool
 calm:Bool
 pn:List (Addr×Obj)
 xe:Value->Shared->Prop
def frs (l:List Env):List Addr:=l.filterMap (·.frame)
abbrev Cx.fs (X:Cx):List Addr:=frs X.outer
def Vis (sc:Scope) (x:Str):Prop:=sc.names.lookup x=some .local\/sc.names.lookup x=some .cell\/sc.names.lookup x=some .free
def Loc (sc:Scope) (x:Str):Prop:=sc.names.lookup x=some .local\/sc.names.lookup x=some .cell
def Look (env:Env) (h:Heap) (m:Str->Option Value) (x:Str) (u:Value):Prop :=
 (env.kindOf x=some .local/\m x=some u)\/((env.kindOf x=some .cell\/env.kindOf x=some .free)/\ ∃c,env.cells.lookup x=some c/\h.IsCell c (some u))
structure Cx.Ok (X:Cx):Prop where
 mod:Mod X.K X.mg X.base
 kind:X.env.scope.kind= .function
 glob:X.env.globals=mainGlobals
 blt:X.env.builtins=builtinsNs
 above:X.s_0.heap.objs.size<=X.env.locals
 inj: ∀x y c,X.env.cells.lookup x=some c->X.env.cells.lookup y=some c->x=y
 has: ∀x,(X.env.kindOf x=some .cell\/X.env.kindOf x=some .free)-> ∃c,X.env.cells.lookup x=some c
 cab: ∀x c,X.fn x=true->X.env.cells.lookup x=some c->X.s_0.heap.objs.size<=c
 hd:X.calm=true->X.A.handled=none
 frames:X.A.frames=some X.stack
 stk:X.stack=X.outer\/(X.stack=X.env::X.outer/\X.env.frame=some X.env.locals)
 exf: ∀b∈X.ex,b≠X.env.locals/\ ∀x c,X.env.cells.lookup x=some c->c≠b
 bs: ∀b o,X.base.get? b=some o->X.s_0.heap.get? b=some o/\X.H_0 b=none
 bsz:X.base.objs.size<=X.s_0.heap.objs.size
 noex: ∀b o,X.base.get? b=some o->b∉X.ex
 exfs: ∀b∈X.ex,b∉X.fs
 funs:X.s_0.heap.FunFrames X.base X.outer
 frf: ∀b∈X.fs,X.H_0 b=none
structure Inv (X:Cx) (pins:List (Addr×Obj)) (σ:List (Option V)) (H:Hp) (s:Shared):Prop where
 ok:X.Ok
 os:s.os=X.s_0.os
 bare:AllBare s.gens
 base:Un X.fs X.ex X.H_0 H X.s_0.heap s.heap
 loc: ∃m,s.heap.Ns X.env.locals m/\ ∀ (i:Nat) (x:Str) (v:V),X.N[i]?=some x->σ[i]?=some (some v)->Vis X.env.scope x-> ∃u,RelV v u/\Look X.env s.heap m x u
 cell: ∀x c,X.env.cells.lookup x=some c-> ∃v,s.heap.IsCell c v
 free:H X.env.locals=none
 freeC: ∀x c,X.env.cells.lookup x=some c->H c=none
 pin: ∀p∈X.pn++pins,s.heap.get? p.1=some p.2/\H p.1=none/\p.1≠X.env.locals/\p.1∉X.fs/\ ∀v,p.2.data≠.cell v
 hok:HOk X.prog X.w H s.heap
 len:σ.length=X.N.length
section
variable {X:Cx}{pins:List (Addr×Obj)}{σ:List (Option V)}{H H':Hp}{s:Shared}{h':Heap}
theorem Cx.Ok.nofr (ok:X.Ok){b:Addr}{o:Obj}(e:X.base.get? b=some o):b∉X.fs:=fun hb=>by
 have:=(ok.funs.mem hb).1;rw[e] at this;cases this
theorem Inv.bs (I:Inv X pins σ H s): ∀b o,X.base.get? b=some o->s.heap.get? b=some o/\H b=none:=fun b o e =>
 ⟨I.base.keep b o (I.ok.bs b o e).1 (I.ok.bs b o e).2 (I.ok.nofr e) (I.ok.noex b o e),I.base.free b o (I.ok.bs b o e).1 (I.ok.bs b o e).2 (I.ok.noex b o e)⟩
theorem Inv.bk (I:Inv X pins σ H s): ∀b o,X.base.get? b=some o->s.heap.get? b=some o:=fun b o e=>(I.bs b o e).1
theorem Inv.mod (I:Inv X pins σ H s):Mod X.K X.mg X.base:=I.ok.mod
theorem Inv.kIn (I:Inv X pins σ H s):X.K.In s.heap:=I.ok.mod.kin.keeps I.bk
theorem Inv.lt (I:Inv X pins σ H s):X.env.locals < s.heap.objs.size:=let ⟨_,hn,_⟩:=I.loc;hn.lt
theorem Inv.sz (I:Inv X pins σ H s):X.s_0.heap.objs.size<=s.heap.objs.size:=Nat.le_trans I.ok.above (Nat.le_of_lt I.lt)
theorem Inv.nofs (I:Inv X pins σ H s){a:Addr}(h:s.heap.objs.size<=a):a∉X.fs:=fun hb=>by
 obtain⟨_,o,ho,_⟩:=I.ok.funs.mem hb;exact absurd (Nat.lt_of_lt_of_le (Heap.lt_size ho) (Nat.le_trans I.sz h)) (Nat.lt_irrefl _)
theorem Inv.cne (I:Inv X pins σ H s): ∀x c,X.env.cells.lookup x=some c->c≠X.env.locals:=fun x c e z=>by
 obtain⟨v,o,ho,hd⟩:=I.cell x c e;obtain⟨m,⟨o',es,ep,ho',hd',_⟩,_⟩:=I.loc;rw[z,ho'] at ho;cases ho;rw[hd'] at hd;cases hd
theorem Inv.funs (I:Inv X pins σ H s):s.heap.FunFrames X.base X.outer:=by
 have all: ∀ (l:List Env),(∀b∈frs l,b∈X.fs)->X.s_0.heap.FunFrames X.base l->s.heap.FunFrames X.base l:=by
  intro l
  induction l with
  | nil=>intro _ _;trivial
  | cons env r ih =>
   intro hs hl;obtain⟨hk,⟨L,o,hf,hn,ho,hd⟩,hr⟩:=hl;have hL:L∈X.fs:=hs L (by unfold frs;rw[filterMap_cons,hf];exact mem_cons_self);obtain⟨sl,e⟩:=I.base.slot L o ho (I.ok.frf L hL) hL fun z=>I.ok.exfs L z hL;exact⟨hk,⟨L,_,hf,hn,e,hd⟩,ih (fun b hb=>hs b (by unfold frs;rw[filterMap_cons,hf];exact mem_cons_of_mem _ hb)) hr⟩
 exact all X.outer (fun _ hb=>hb) I.ok.funs
theorem Inv.stack (I:Inv X pins σ H s):s.heap.FunFrames X.base X.stack:=by
 rcases I.ok.stk with e | ⟨e,hf⟩
 .rw[e];exact I.funs
 .rw[e];obtain⟨m,hn,_⟩:=I.loc;refine .cons (by rw[I.ok.kind];decide) hf hn ?_ I.funs;exact Heap.get?_none_of_le (Nat.le_trans I.ok.bsz I.ok.above)
theorem Inv.stkSub (I:Inv X pins σ H s): ∀b∈frs X.stack,b∈X.env.locals::X.fs:=fun b hb=>by
 rcases I.ok.stk with e | ⟨e,hf⟩
 .rw[e] at hb;exact mem_cons_of_mem _ hb
 .rw[e] at hb;unfold frs at hb;rw[filterMap_cons,hf] at hb;exact hb
theorem Inv.stkFree (I:Inv X pins σ H s): ∀b∈frs X.stack,H b=none:=fun b hb=>by
 rcases mem_cons.mp (I.stkSub b hb) with e | hb
 .rw[e];exact I.free
 .obtain⟨_,o,ho,_⟩:=I.ok.funs.mem hb;exact I.base.free b o ho (I.ok.frf b hb) fun z=>I.ok.exfs b z hb
theorem Inv.step {g':Array GenState}{t':Nat}{d':Drawn}{ch:List Addr}(I:Inv X pins σ H s)
  (hch: ∀b∈ch,(b∈X.ex\/X.s_0.heap.objs.size<=b)/\b≠X.env.locals/\(∀x c,X.env.cells.lookup x=some c->c≠b)/\ ∀p∈X.pn++pins,p.1≠b)
  (keep: ∀b o,b≠X.env.locals->b∉X.fs->b∉ch->s.heap.get? b=some o->H b=none->h'.get? b=some o)
  (slot: ∀b o,b≠X.env.locals->b∈X.fs->b∉ch->s.heap.get? b=some o->H b=none-> ∃sl,h'.get? b=some { o with slots:=sl }) (free: ∀b o,b∉ch->s.heap.get? b=some o->H b=none->H' b=none)
  (there: ∀b o,b∉ch->s.heap.get? b=some o-> ∃o',h'.get? b=some o')
  (tups: ∀b xs,H b=some (.tup xs)->H' b=some (.tup xs)) (frzs: ∀b o u,H b=some (.frz o u)->H' b=some (.frz o u)) (tbls: ∀b ps,H b=some (.tbl ps)-> ∃more,H' b=some (.tbl (ps++more)))
  (ns: ∀m,s.heap.Ns X.env.locals m->h'.Ns X.env.locals m) (hok:HOk X.prog X.w H' h') (hg:AllBare g') :
  Inv X pins σ H' { s with heap:=h',gens:=g',drawn:=d',toks:=t' }:=by
 have neL: ∀b o,X.s_0.heap.get? b=some o->b≠X.env.locals:=fun b o e=>Nat.ne_of_lt (Nat.lt_of_lt_of_le (Heap.lt_size e) I.ok.above)
 have neC: ∀b o,X.s_0.heap.get? b=some o->b∉X.ex->b∉ch:=fun b o e hx hb=>by
  rcases (hch b hb).1 with z | z
  .exact hx z
  .exact absurd (Nat.lt_of_lt_of_le (Heap.lt_size e) z) (Nat.lt_irrefl _)
 have cellK: ∀x c,X.env.cells.lookup x=some c-> ∀v,s.heap.IsCell c v->h'.IsCell c v:=fun x c e v ⟨o,ho,hd⟩=>by
  have nch:c∉ch:=fun z=>(hch c z).2.2.1 x c e rfl
  by_cases hc:c∈X.fs
  .obtain⟨sl,q⟩:=slot c o (I.cne x c e) hc nch ho (I.freeC x c e);exact⟨_,q,hd⟩
  .exact⟨o,keep c o (I.cne x c e) hc nch ho (I.freeC x c e),hd⟩
 refine⟨I.ok,I.os,hg,⟨fun b o e n hb hx=>?_,fun b o e n hb hx=>?_,fun b o e n hx=>?_,fun b o e hx=>?_,fun b xs e=>tups b xs (I.base.tups b xs e),fun b o xs e=>frzs b o xs (I.base.frzs b o xs e),fun b ps e=>?_⟩,?_,fun x c e=>?_,?_,fun x c e=>?_,fun p hp=>?_,hok,I.len⟩
 .exact keep b o (neL b o e) hb (neC b o e hx) (I.base.keep b o e n hb hx) (I.base.free b o e n hx)
 .obtain⟨sl,e1⟩:=I.base.slot b o e n hb hx;obtain⟨sl',e2⟩:=slot b _ (neL b o e) hb (neC b o e hx) e1 (I.base.free b o e n hx);exact⟨sl',e2⟩
 .obtain⟨o',e1⟩:=I.base.there b o e hx;exact free b o' (neC b o e hx) e1 (I.base.free b o e n hx)
 .obtain⟨o',e1⟩:=I.base.there b o e hx;exact there b o' (neC b o e hx) e1
 .obtain⟨m1,e1⟩:=I.base.tbls b ps e;obtain⟨m2,e2⟩:=tbls b _ e1;exact⟨m1++m2,by rw[e2,Array.append_assoc]⟩
 .obtain⟨m,hn,hl⟩:=I.loc;refine⟨m,ns m hn,fun i x v e1 e2 e3=>?_⟩;obtain⟨u,r,l⟩:=hl i x v e1 e2 e3;refine⟨u,r,?_⟩;rcases l with l | ⟨k,c,e,z⟩
  .exact .inl l
  .exact .inr ⟨k,c,e,cellK x c e _ z⟩
 .obtain⟨v,z⟩:=I.cell x c e;exact⟨v,cellK x c e v z⟩
 .obtain⟨m,⟨o,_,_,ho,_⟩,_⟩:=I.loc;exact free _ o (fun z=>(hch _ z).2.1 rfl) ho I.free
 .obtain⟨v,o,ho,hd⟩:=I.cell x c e;exact free c o (fun z=>(hch c z).2.2.1 x c e rfl) ho (I.freeC x c e)
 .obtain⟨e,n,ne,nf,d⟩:=I.pin p hp;have nch:p.1∉ch:=fun z=>(hch p.1 z).2.2.2 p hp rfl;exact⟨keep p.1 p.2 ne nf nch e n,free p.1 p.2 nch e n,ne,nf,d⟩
theorem Inv.un {t':Nat}(I:Inv X pins σ H s)(u:Un X.fs [] H H' s.heap h')(hok:HOk X.prog X.w H' h'):Inv X pins σ H' { s with heap:=h',toks:=t' }:=by
 obtain⟨m,⟨o,es,ep,ho,r⟩,_⟩:=id I.loc;obtain⟨sl,hL⟩:=u.any ho I.free (by simp)
 exact I.step (g':=s.gens) (d':=s.drawn) (ch:=[]) (fun _ z=>nomatch z) (fun b o _ hb _ e n=>u.keep b o e n hb (by simp)) (fun b o _ hb _ e n=>u.slot b o e n hb (by simp)) (fun b o _ e n=>u.free b o e n (by simp)) (fun b o _ e=>u.there b o e (by simp)) u.tups u.frzs u.tbls (fun m' hm=>by
  obtain⟨o',es',ep',ho',r'⟩:=hm;rw[ho] at ho';cases ho'
  exact⟨_,es',ep',hL,r'⟩) hok I.bare
theorem Inv.call {g':Array GenState}{t':Nat}{d':Drawn}{ch:List Addr}(I:Inv X pins σ H s)(u:Un (frs X.stack) ch H H' s.heap h')(hok:HOk X.prog X.w H' h')(hg:AllBare g')
  (hch: ∀b∈ch,(b∈X.ex\/X.s_0.heap.objs.size<=b)/\b≠X.env.locals/\(∀x c,X.env.cells.lookup x=some c->c≠b)/\ ∀p∈X.pn++pins,p.1≠b) :
  Inv X pins σ H' { s with heap:=h',gens:=g',drawn:=d',toks:=t' }:=by
 obtain⟨m,⟨o,es,ep,ho,r⟩,_⟩:=id I.loc;obtain⟨sl,hL⟩:=u.any ho I.free fun z=>(hch _ z).2.1 rfl
 exact I.step (ch:=ch) hch (fun b o hL hb hc e n=>u.keep b o e n (fun z=>(mem_cons.mp (I.stkSub b z)).elim hL hb) hc) (fun b o _ _ hc e n=>u.any e n hc) (fun b o hc e n=>u.free b o e n hc) (fun b o hc e=>u.there b o e hc) u.tups u.frzs u.tbls (fun m' hm=>by
  obtain⟨o',es',ep',ho',r'⟩:=hm;rw[ho] at ho';cases ho'
  exact⟨_,es',ep',hL,r'⟩) hok hg
theorem Inv.turned {t':Nat}{it:Addr}(I:Inv X pins σ H s)(k: ∀b o,b≠it->s.heap.get? b=some o->h'.get? b=some o)(hn:H it=none)(hL:it≠X.env.locals)
  (h1:it∈X.ex\/X.s_0.heap.objs.size<=it) (h2: ∀x c,X.env.cells.lookup x=some c->c≠it) (h3: ∀p∈X.pn++pins,p.1≠it):Inv X pins σ H { s with heap:=h',toks:=t' }:=by
 have nit: ∀b u,H b=some u->b≠it:=fun b u e z=>by rw[z,hn] at e;cases e
 refine I.step (g':=s.gens) (d':=s.drawn) (ch:=[it]) (fun b hb=>?_) (fun b o _ _ hc e _=>k b o (fun z=>hc (by simp [z])) e) (fun b o _ _ hc e _=>⟨o.slots,k b o (fun z=>hc (by simp [z])) e⟩) (fun _ _ _ _ n=>n)
  (fun b o hc e=>⟨o,k b o (fun z=>hc (by simp [z])) e⟩) (fun _ _ e=>e) (fun _ _ _ e=>e) (fun b ps e=>⟨#[],by rw[e];simp⟩) (fun m hm=>?_) (fun b u e=>?_) I.bare
 .have e:b=it:=by simpa using hb
  subst e;exact⟨h1,hL,h2,h3⟩
 .obtain⟨o,es,ep,ho,r⟩:=hm;exact⟨o,es,ep,k _ o (Ne.symm hL) ho,r⟩
 .refine (I.hok b u e).stay (fun c v hc q=>k c v ?_ q) (fun _ q=>q) fun _ _ q=>q;rcases hc with z | z
  .rw[z];exact nit b u e
  .exact nit c _ z
theorem Inv.tok (I:Inv X pins σ H s)(t:Nat):Inv X pins σ H { s with toks:=t }:=I.un (h':=s.heap) (t':=t) Un.refl I.hok
theorem Inv.kept {t':Nat}(I:Inv X pins σ H s)(k: ∀b u,s.heap.get? b=some u->h'.get? b=some u):Inv X pins σ H { s with heap:=h',toks:=t' }:=I.un (Un.kept k) (I.hok.kept k)
theorem Inv.laid {a:Addr}{o:HO}{t':Nat}(I:Inv X pins σ H s)(k: ∀b u,s.heap.get? b=some u->h'.get? b=some u)(hp:s.heap.objs.size<=a)(new:cB X.prog X.w (upd H a o) h' a o) :
  Inv X pins σ (upd H a o) { s with heap:=h',toks:=t' }:=I.un (Un.laid k hp (I.hok.fresh hp)) (I.hok.laid k hp new)
theorem Inv.write {x e:Addr}{o:HO}{t':Nat}(I:Inv X pins σ H s)(mu:Mut (H x))(he:e=x\/H e=some (.own x))(k: ∀b u,b≠e->s.heap.get? b=some u->h'.get? b=some u)(heo: ∃u,h'.get? e=some u)
  (new:cB X.prog X.w (upd H x o) h' x o):Inv X pins σ (upd H x o) { s with heap:=h',toks:=t' }:=I.un (Un.write mu he k heo) (I.hok.write mu he k heo new)
theorem Inv.weak {σ':List (Option V)}(I:Inv X pins σ H s)(hl:σ'.length=σ.length)(w: ∀ (i:Nat) v,σ'[i]?=some (some v)->σ[i]?=some (some v)):Inv X pins σ' H s :=
 ⟨I.ok,I.os,I.bare,I.base,let ⟨m,hn,hl'⟩:=I.loc;⟨m,hn,fun i x v e1 e2 e3=>hl' i x v e1 (w i v e2) e3⟩,I.cell,I.free,I.freeC,I.pin,I.hok,hl.trans I.len⟩
theorem Inv.pins_of {pins':List (Addr×Obj)}(I:Inv X pins σ H s)(h: ∀p∈pins',s.heap.get? p.1=some p.2/\H p.1=none/\p.1≠X.env.locals/\p.1∉X.fs/\ ∀v,p.2.data≠.cell v):Inv X pins' σ H s :=
 ⟨I.ok,I.os,I.bare,I.base,I.loc,I.cell,I.free,I.freeC,fun p hp=>(mem_append.mp hp).elim (fun z=>I.pin p (mem_append_left _ z)) (h p),I.hok,I.len⟩
theorem rW {N:List Str}(hN:N.Nodup){i j:Nat}{x:Str}(a:N[i]?=some x)(b:N[j]?=some x):i=j:=by
 obtain⟨h1,e1⟩:=List.getElem?_eq_some_iff.mp a;obtain⟨h2,e2⟩:=List.getElem?_eq_some_iff.mp b;exact (List.getElem_inj hN).mp (e1.trans e2.symm)
theorem zP {M:Model}{A:Around}{E:Value->Shared->Prop}{i:Nat}{x:Str}{v:V}{u:Value}{Q:Unit->Shared->Prop}(I:Inv X pins σ H s)(hN:X.N.Nodup)(hi:X.N[i]?=some x)(hx:Loc X.env.scope x)(r:RelV v u)
  (h: ∀s',Inv X pins (σ.set i (some v)) H s'->(∃a,Heap.SameBut a s.heap s'.heap/\(a=X.env.locals\/X.env.cells.lookup x=some a))->Q () s') (hf:X.fn x=true\/X.env.scope.names.lookup x=some .local:=by first | exact .inl rfl | exact .inr rfl | assumption):wpAny M A (storeName X.env x u) Q E s:=by
 obtain⟨m,hn,hl⟩:=id I.loc
 have hcls:(X.env.scope.kind==.class||(X.env.scope.kind==.module&&X.env.locals != X.env.globals))=false:=by rw[I.ok.kind];rfl
 have hiσ:i < σ.length:=by rw[I.len];exact (List.getElem?_eq_some_iff.mp hi).1
 have cne:=I.cne
 have tracked: ∀{a:Addr} {h':Heap},(∃o,s.heap.get? a=some o/\H a=none)->Heap.SameBut a s.heap h'->HOk X.prog X.w H h':=fun {a h'} ha hs b ob e=>by
  obtain⟨_,_,hfree⟩:=ha;refine (I.hok b ob e).stay (fun c w' hc q=>(hs.2 c ?_).trans q) (fun _ q=>q) fun _ _ q=>q;rintro rfl;rcases hc with rfl | hc
  .rw[hfree] at e;cases e
  .rw[hfree] at hc;cases hc
 rcases hx with hk | hk
 .refine wpAny_storeName_local hk hn (fun h' hn' hs=>?_) hcls;obtain⟨oL,_,_,hoL,_⟩:=id hn;refine h _ ⟨I.ok,I.os,I.bare,⟨fun b o e n hb hx=>?_,fun b o e n hb hx=>?_,I.base.free,fun b o e hx=>?_,I.base.tups,I.base.frzs,I.base.tbls⟩,⟨_,hn',fun j y v' e1 e2 e3=>?_⟩,fun y c e=>?_,I.free,I.freeC,fun p hp=>?_,tracked ⟨oL,hoL,I.free⟩ hs,by simpa using I.len⟩ ⟨_,hs,.inl rfl⟩
  .exact (hs.2 b (Nat.ne_of_lt (Nat.lt_of_lt_of_le (Heap.lt_size e) I.ok.above))).trans (I.base.keep b o e n hb hx)
  .obtain⟨sl,e1⟩:=I.base.slot b o e n hb hx;exact⟨sl,(hs.2 b (Nat.ne_of_lt (Nat.lt_of_lt_of_le (Heap.lt_size e) I.ok.above))).trans e1⟩
  .obtain⟨o',e1⟩:=I.base.there b o e hx;exact⟨o',(hs.2 b (Nat.ne_of_lt (Nat.lt_of_lt_of_le (Heap.lt_size e) I.ok.above))).trans e1⟩
  .by_cases hj:j=i
   .subst hj;rw[hi] at e1;cases e1;rw[List.getElem?_set_self hiσ] at e2;cases e2;exact⟨u,r,.inl ⟨hk,by simp⟩⟩
   .rw[List.getElem?_set_ne (Ne.symm hj)] at e2;obtain⟨u',r',q⟩:=hl j y v' e1 e2 e3;refine⟨u',r',?_⟩;rcases q with⟨k,e⟩ | ⟨k,c,e,z⟩
    .refine .inl ⟨k,?_⟩;have:y≠x:=fun e=>hj (rW hN e1 (e ▸ hi));simp [this,e]
    .exact .inr ⟨k,c,e,z.sameBut hs (cne y c e)⟩
  .obtain⟨w',z⟩:=I.cell y c e;exact⟨w',z.sameBut hs (cne y c e)⟩
  .obtain⟨e,n,ne,nf,d⟩:=I.pin p hp;exact⟨(hs.2 p.1 ne).trans e,n,ne,nf,d⟩
 .have hfn:X.fn x=true:=by
   rcases hf with z | z
   .exact z
   .rw[z] at hk;cases hk
  obtain⟨c,hc⟩:=I.ok.has x (.inl hk);obtain⟨w',z⟩:=I.cell x c hc;refine wpAny_storeName_cell I.ok.kind hk hc z (fun h' hc' hs=>?_);obtain⟨oc,hoc,hocd⟩:=id z;refine h { s with heap:=h' } ⟨I.ok,I.os,I.bare,⟨fun b o e n hb hx=>?_,fun b o e n hb hx=>?_,I.base.free,fun b o e hx=>?_,I.base.tups,I.base.frzs,I.base.tbls⟩,⟨m,hn.sameBut hs (Ne.symm (cne x c hc)),fun j y v' e1 e2 e3=>?_⟩,fun y c' e=>?_,I.free,I.freeC,fun p hp=>?_,tracked ⟨oc,hoc,I.freeC x c hc⟩ hs,by simpa using I.len⟩ ⟨c,hs,.inr hc⟩
  .exact (hs.2 b (Nat.ne_of_lt (Nat.lt_of_lt_of_le (Heap.lt_size e) (I.ok.cab x c hfn hc)))).trans (I.base.keep b o e n hb hx)
  .obtain⟨sl,e1⟩:=I.base.slot b o e n hb hx;exact⟨sl,(hs.2 b (Nat.ne_of_lt (Nat.lt_of_lt_of_le (Heap.lt_size e) (I.ok.cab x c hfn hc)))).trans e1⟩
  .obtain⟨o',e1⟩:=I.base.there b o e hx;exact⟨o',(hs.2 b (Nat.ne_of_lt (Nat.lt_of_lt_of_le (Heap.lt_size e) (I.ok.cab x c hfn hc)))).trans e1⟩
  .by_cases hj:j=i
   .subst hj;rw[hi] at e1;cases e1;rw[List.getElem?_set_self hiσ] at e2;cases e2;exact⟨u,r,.inr ⟨.inl hk,c,hc,hc'⟩⟩
   .rw[List.getElem?_set_ne (Ne.symm hj)] at e2;obtain⟨u',r',q⟩:=hl j y v' e1 e2 e3;refine⟨u',r',?_⟩;rcases q with q | ⟨k,c',e,z'⟩
    .exact .inl q
    .refine .inr ⟨k,c',e,z'.sameBut hs ?_⟩;rintro rfl;exact hj (rW hN e1 (I.ok.inj _ _ _ e hc ▸ hi))
  .by_cases hcc:c'=c
   .subst hcc;exact⟨_,hc'⟩
   .obtain⟨w2,z2⟩:=I.cell y c' e;exact⟨w2,z2.sameBut hs hcc⟩
  .obtain⟨e,n,ne,nf,d⟩:=I.pin p hp;refine⟨(hs.2 p.1 ?_).trans e,n,ne,nf,d⟩;intro q;rw[q,hoc] at e;have q':oc=p.2:=Option.some.inj e;exact d w' (by rw[<-q'];exact hocd)
theorem rY {M:Model}{A:Around}{E:Value->Shared->Prop}{i:Nat}{x:Str}{v:V}{u:Value}{Q:Unit->Shared->Prop}(I:Inv X pins σ H s)(hN:X.N.Nodup)(hi:X.N[i]?=some x)(hx:Loc X.env.scope x)(r:RelV v u)
  (h: ∀s',Inv X pins (σ.set i (some v)) H s'->Q () s') (hf:X.fn x=true\/X.env.scope.names.lookup x=some .local:=by first | exact .inl rfl | exact .inr rfl | assumption):wpAny M A (storeName X.env x u) Q E s :=
 zP I hN hi hx r (fun s' I' _=>h s' I') hf
theorem Inv.call' {s':Shared}{ch:List Addr}(I:Inv X pins σ H s)(ho:s'.os=s.os)(u:Un (frs X.stack) ch H H' s.heap s'.heap)(hok:HOk X.prog X.w H' s'.heap)(hg:AllBare s'.gens)
  (hch: ∀b∈ch,(b∈X.ex\/X.s_0.heap.objs.size<=b)/\b≠X.env.locals/\(∀x c,X.env.cells.lookup x=some c->c≠b)/\ ∀p∈X.pn++pins,p.1≠b):Inv X pins σ H' s':=by
 obtain⟨h',g',d',t',o'⟩:=s';have e:o'=s.os:=ho;subst e;exact I.call (g':=g') (t':=t') (d':=d') u hok hg hch
end
abbrev XK:=Value->Option Addr->Hp->Prop
abbrev St:=List (Option V)
abbrev VK:=V->Hp->Prop
abbrev TE:=St->Hp->VK->Prop
abbrev TT:=St->Hp->(Bool->Hp->Prop)->Prop
abbrev TA:=St->Hp->(List V->Hp->Prop)->Prop
structure Ends where
 nx:St->Hp->Prop
 rt:VK
 bk:St->Hp->Prop:=fun _ _=>False
 ct:St->Hp->Prop:=fun _ _=>False
abbrev TS:=Ends->St->Hp->Prop
def EP (X:Cx) (pins:List (Addr×Obj)) (σ:St) (Q:VK) (u:Value) (s':Shared):Prop:= ∃v H',Inv X pins σ H' s'/\RelV v u/\Q v H'
def TP (X:Cx) (pins:List (Addr×Obj)) (σ:St) (Q:Bool->Hp->Prop) (b:Bool) (s':Shared):Prop:= ∃H',Inv X pins σ H' s'/\Q b H'
def AP (X:Cx) (pins:List (Addr×Obj)) (σ:St) (Q:List V->Hp->Prop) (us:List Value) (s':Shared):Prop:= ∃vs H',Inv X pins σ H' s'/\Vals vs us/\Q vs H'
def SP (X:Cx) (pins:List (Addr×Obj)) (D:Ends) (f:Flow) (s':Shared):Prop :=
 match f with
 | .next=> ∃σ' H',Inv X pins σ' H' s'/\D.nx σ' H'
 | .brk=> ∃σ' H',Inv X pins σ' H' s'/\D.bk σ' H'
 | .cont=> ∃σ' H',Inv X pins σ' H' s'/\D.ct σ' H'
 | .ret u=> ∃v σ' H',Inv X pins σ' H' s'/\RelV v u/\D.rt v H'
def PE (X:Cx) (e:Expr) (t:TE):Prop :=
 ∀ (pins:List (Addr×Obj)) (s:Shared) (σ:St) (H:Hp) (Q:VK),Inv X pins σ H s->t σ H Q->wpAny (model X.prog X.w) X.A (eval e X.env) (EP X pins σ Q) X.xe s
def PT (X:Cx) (e:Expr) (t:TT):Prop :=
 ∀ (pins:List (Addr×Obj)) (s:Shared) (σ:St) (H:Hp) (Q:Bool->Hp->Prop),Inv X pins σ H s->t σ H Q->wpAny (model X.prog X.w) X.A (isTrue e X.env (eval e X.env)) (TP X pins σ Q) X.xe s
def PW (X:Cx) (e:Expr) (t:TT):Prop :=
 ∀ (whole:Sem Value) (pins:List (Addr×Obj)) (s:Shared) (σ:St) (H:Hp) (Q:Bool->Hp->Prop),Inv X pins σ H s->t σ H Q->wpAny (model X.prog X.w) X.A (isTrue e X.env whole) (TP X pins σ Q) X.xe s
theorem PW.pt {X:Cx}{e:Expr}{t:TT}(h:PW X e t):PT X e t:=h _
def PA (X:Cx) (es:List Expr) (t:TA):Prop :=
 ∀ (pos:Pos) (pins:List (Addr×Obj)) (s:Shared) (σ:St) (H:Hp) (Q:List V->Hp->Prop),Inv X pins σ H s->t σ H Q->wpAny (model X.prog X.w) X.A (spliced (backTo pos (starEach es X.env))) (AP X pins σ Q) X.xe s
def PS (X:Cx) (st:Stmt) (t:TS):Prop :=
 ∀ (pins:List (Addr×Obj)) (s:Shared) (σ:St) (H:Hp) (D:Ends),Inv X pins σ H s->t D σ H->wpAny (model X.prog X.w) X.A (exec st X.env) (SP X pins D) X.xe s
def PSs (X:Cx) (st:List Stmt) (t:TS):Prop :=
 ∀ (pins:List (Addr×Obj)) (s:Shared) (σ:St) (H:Hp) (D:Ends),Inv X pins σ H s->t D σ H->wpAny (model X.prog X.w) X.A (execs st X.env) (SP X pins D) X.xe s
theorem thn {α:Type}{t:Sem α}{Q Q':α->Shared->Prop}{M:Model}{A:Around}{E:Value->Shared->Prop}{s:Shared}(h:wpAny M A t Q E s)(hQ: ∀a s,Q a s->Q' a s):wpAny M A t Q' E s:=wpAny_mono h hQ fun _ _ x=>x
end L2
namespace L2
open PySem PySem.Spec PyProof.Rows
section
variable {X:Cx}
def Kg (i:Nat):TE:=fun σ H Q=> ∃v,σ[i]?=some (some v)/\Q v H
def tC (v:V):TE:=fun _ H Q=>Q v H
theorem rZ {i:Nat}{x:Str}{pos:Pos}(hN:X.N[i]?=some x)(hv:Vis X.env.scope x)(hd:(x==("__debug__":Str))=false:=by decide)(hcd:(x==("__classdict__":Str))=false:=by decide):PE X (.Name x pos) (Kg i):=by
 intro pins s σ H Q I h;obtain⟨v,e,h⟩:=h;obtain⟨m,hn,hl⟩:=I.loc;obtain⟨u,r,l⟩:=hl i x v hN e hv
 have fin:EP X pins σ Q u s:=⟨v,H,I,r,h⟩
 rcases l with⟨hk,hm⟩ | ⟨hk,c,hc,hcell⟩
 .exact wpAny_Name (wpAny_loadName_local I.ok.kind hk hn hm fin) hd
 .rcases hk with hk | hk
  .exact wpAny_Name (wpAny_loadName_cell I.ok.kind hk hc hcell fin) hd
  .exact wpAny_Name (wpAny_loadName_free I.ok.kind hk hc hcell fin hcd) hd
theorem Kh {i j pos}:PE X (.Constant (.int i) j pos) (tC (.int i)):=fun _ _ _ H _ I h=>wpAny_Constant_int ⟨.int i,H,I.tok _,⟨_,rfl⟩,h⟩
theorem Kl {j pos}:PE X (.Constant .none j pos) (tC .non):=fun _ _ _ H _ I h=>Constant_none ⟨.non,H,I,rfl,h⟩
def Gl (X:Cx) (x:Str):Prop:=X.env.kindOf x=some .globalImplicit
theorem oV {E:Value->Shared->Prop}{pins:List (Addr×Obj)}{s:Shared}{σ:St}{H:Hp}{x:Str}{u:Value}{pos:Pos}{Q:Value->Shared->Prop}(I:Inv X pins σ H s)(hg:Gl X x)(hm:X.mg x=some u)(h:Q u s)
  (hd:(x==("__debug__":Str))=false:=by decide):wpAny (model X.prog X.w) X.A (eval (.Name x pos) X.env) Q E s :=
 Calls.Name_function_global I.ok.kind hg (Calls.loadGlobal_global (by rw[I.ok.glob];exact I.mod.glob.keeps I.bk) hm h) hd
theorem jh {E:Value->Shared->Prop}{pins:List (Addr×Obj)}{s:Shared}{σ:St}{H:Hp}{x:Str}{u:Value}{pos:Pos}{Q:Value->Shared->Prop}(I:Inv X pins σ H s)(hg:Gl X x)(hm:X.mg x=none)(hv:bootBuiltins x=some u)(h:Q u s)
  (hn:x≠"__name__":=by decide) (hd:(x==("__debug__":Str))=false:=by decide):wpAny (model X.prog X.w) X.A (eval (.Name x pos) X.env) Q E s:=by
 obtain⟨mb,h1,h2⟩:=I.mod.blt;exact Calls.Name_function_global I.ok.kind hg (Calls.loadGlobal_builtin (by rw[I.ok.glob];exact I.mod.glob.keeps I.bk) hm (by rw[I.ok.blt];exact h1.keeps I.bk) ((h2 x hn).trans hv) h) hd
theorem zQ {x:Str}{v:V}{u:Value}{pos:Pos}(hg:Gl X x)(hm:X.mg x=some u)(r:RelV v u)(hd:(x==("__debug__":Str))=false:=by decide):PE X (.Name x pos) (tC v) :=
 fun _ _ _ H _ I h=>oV I hg hm ⟨v,H,I,r,h⟩ hd
variable {a b:Expr}{ta tb:TE}{pos:Pos}
def PC (X:Cx) (op:CmpOp) (a b:Expr) (t:TE):Prop :=
 ∀ (pins:List (Addr×Obj)) (s:Shared) (σ:St) (H:Hp) (Q:VK),Inv X pins σ H s->t σ H Q ->
  wpAny (model X.prog X.w) X.A (eval a X.env) (fun v s₁=>wpAny (model X.prog X.w) X.A (eval b X.env) (fun u s₂=>wpAny (model X.prog X.w) X.A (compareOp op v u) (EP X pins σ Q) X.xe s₂) X.xe s₁) X.xe s
theorem Km (b:Expr){op:CmpOp}(h:op≠.In)(h2:op≠.NotIn):behindInMarks op b=false:=by
 have e1:(op==CmpOp.In)=false:=by cases op<;>first | rfl | exact absurd rfl h
 have e2:(op==CmpOp.NotIn)=false:=by cases op<;>first | rfl | exact absurd rfl h2
 cases b<;>simp [behindInMarks,e1,e2]
def Ko (ta:TE):TE:=fun σ H Q=>ta σ H fun x H1=>Q (.bl (decide (x= .non))) H1
def Kr (ta:TE):TE:=fun σ H Q=>ta σ H fun x H1=>Q (.bl (!decide (x= .non))) H1
theorem RelV.none_iff {x:V}{v:Value}(r:RelV x v):(v==Value.none)=decide (x= .non):=by
 cases x with
 | non=>cases r;rfl
 | bl _=>cases r;rfl
 | int _=>obtain⟨t,rfl⟩:=r;rfl
 | str _=>obtain⟨t,rfl⟩:=r;rfl
 | byt _=>obtain⟨t,rfl⟩:=r;rfl
 | flt _=>obtain⟨t,rfl⟩:=r;rfl
 | ref _=>cases r;rfl
 | ty _=>cases r;rfl
theorem Ks {j pos'}(ha:PE X a ta):PC X .Is a (.Constant .none j pos') (Ko ta):=by
 intro pins s σ H Q I h;refine thn (ha pins s σ H _ I h) fun v s1 ⟨x,H1,I1,r1,q1⟩=>?_;exact Constant_none (is_none_gen ⟨.bl _,H1,I1,by rw[r1.none_iff];rfl,q1⟩)
theorem Ku {j pos'}(ha:PE X a ta):PC X .IsNot a (.Constant .none j pos') (Kr ta):=by
 intro pins s σ H Q I h;refine thn (ha pins s σ H _ I h) fun v s1 ⟨x,H1,I1,r1,q1⟩=>?_;exact Constant_none (isnot_none_gen ⟨.bl _,H1,I1,by rw[r1.none_iff];rfl,q1⟩)
def tB (t:TE):TT:=fun σ H Q=>t σ H fun x H1=> ∃c,x= .bl c/\Q c H1
theorem zR {op:CmpOp}{t:TE}(h:PC X op a b t)(h1:behindInMarks op b=false:=by first | exact Km _ (by decide) (by decide) | rfl):PT X (.Compare a [op] [b] pos) (tB t):=by
 intro pins s σ H Q I hw;refine wpAny_isTrue_Compare1 (thn (h pins s σ H _ I hw) fun v s1 h1=>thn h1 fun u s2 h2=>thn h2 fun c s3 ⟨x,H1,I1,r1,q1⟩=>?_) h1;obtain⟨d,rfl,q⟩:=q1;cases r1;exact wpAny_truthy_bool ⟨H1,I1,q⟩
theorem Kv {e:Expr}{t:TE}(h:PE X e t)(he: ∀whole,isTrue e X.env whole=(do let v <-whole;standAt e.pos;holding [v] (truthy v)):=by intro _;rfl):PT X e (tB t):=by
 intro pins s σ H Q I hw;refine isTrue_plain (thn (h pins s σ H _ I hw) fun v s1 ⟨x,H1,I1,r1,q1⟩=>?_) (he _);obtain⟨d,rfl,q⟩:=q1;cases r1;exact wpAny_truthy_bool ⟨H1,I1,q⟩
variable {tA tB':TT}{rest:List Expr}
def Kw (t u:TT):TT:=fun σ H Q=>t σ H fun c H1=>if c=true then u σ H1 Q else Q false H1
def tOr (t u:TT):TT:=fun σ H Q=>t σ H fun c H1=>if c=true then Q true H1 else u σ H1 Q
def Ky (t:TT):TT:=fun σ H Q=>t σ H fun c H1=>Q (!c) H1
theorem Kz (ha:PT X a tA):PW X (.BoolOp .And [a] pos) tA:=by
 intro wh pins s σ H Q I h;refine isTrue_and (thn (ha pins s σ H Q I h) fun c s1 e=>?_)
 cases c with
 | true=>exact isTrue_and_nil e
 | false=>exact e
theorem KC (ha:PT X a tA):PW X (.BoolOp .Or [a] pos) tA:=by
 intro wh pins s σ H Q I h;refine isTrue_or (thn (ha pins s σ H Q I h) fun c s1 e=>?_)
 cases c with
 | false=>exact isTrue_or_nil e
 | true=>exact e
theorem KD (ha:PT X a tA)(hb:PW X (.BoolOp .And (b::rest) pos) tB'):PW X (.BoolOp .And (a::b::rest) pos) (Kw tA tB'):=by
 intro wh pins s σ H Q I h;refine isTrue_and (thn (ha pins s σ H _ I h) fun c s1 ⟨H1,I1,q1⟩=>?_)
 cases c with
 | true=>exact hb wh pins s1 σ H1 Q I1 q1
 | false=>exact⟨H1,I1,q1⟩
theorem KH (ha:PT X a tA)(hb:PW X (.BoolOp .Or (b::rest) pos) tB'):PW X (.BoolOp .Or (a::b::rest) pos) (tOr tA tB'):=by
 intro wh pins s σ H Q I h;refine isTrue_or (thn (ha pins s σ H _ I h) fun c s1 ⟨H1,I1,q1⟩=>?_)
 cases c with
 | true=>exact⟨H1,I1,q1⟩
 | false=>exact hb wh pins s1 σ H1 Q I1 q1
theorem KJ (ha:PT X a tA):PT X (.UnaryOp .Not a pos) (Ky tA):=by
 intro pins s σ H Q I h;exact isTrue_not (ha pins s σ H (fun c H1=>Q (!c) H1) I h)
def KN (ta tb:TE):TE:=fun σ H Q=>ta σ H fun x H1=> ∃c,x= .bl c/\if c=true then tb σ H1 Q else Q (.bl false) H1
def KQ (ta tb:TE):TE:=fun σ H Q=>ta σ H fun x H1=> ∃c,x= .bl c/\if c=true then Q (.bl true) H1 else tb σ H1 Q
theorem KR {op}{t:TE}(h:PE X a t):PE X (.BoolOp op [a] pos) t:=fun pins s σ H Q I hw=>BoolOp_one (h pins s σ H Q I hw)
theorem KY (ha:PE X a ta)(hb:PE X (.BoolOp .And (b::rest) pos) tb):PE X (.BoolOp .And (a::b::rest) pos) (KN ta tb):=by
 intro pins s σ H Q I h;refine BoolOp_and (thn (ha pins s σ H _ I h) fun v s1 ⟨x,H1,I1,r1,q1⟩=>?_);obtain⟨c,rfl,q1⟩:=q1;cases r1;refine wpAny_truthy_bool ?_
 cases c with
 | true=>exact hb pins s1 σ H1 Q I1 q1
 | false=>exact⟨.bl false,H1,I1,rfl,q1⟩
theorem KZ (ha:PE X a ta)(hb:PE X (.BoolOp .Or (b::rest) pos) tb):PE X (.BoolOp .Or (a::b::rest) pos) (KQ ta tb):=by
 intro pins s σ H Q I h;refine BoolOp_or (thn (ha pins s σ H _ I h) fun v s1 ⟨x,H1,I1,r1,q1⟩=>?_);obtain⟨c,rfl,q1⟩:=q1;cases r1;refine wpAny_truthy_bool ?_
 cases c with
 | false=>exact hb pins s1 σ H1 Q I1 q1
 | true=>exact⟨.bl true,H1,I1,rfl,q1⟩
def tIf (t:TT) (ta tb:TE):TE:=fun σ H Q=>t σ H fun c H1=>if c=true then ta σ H1 Q else tb σ H1 Q
theorem K4 {c:Expr}(hc:PT X c tA)(ha:PE X a ta)(hb:PE X b tb):PE X (.IfExp c a b pos) (tIf tA ta tb):=by
 intro pins s σ H Q I h;refine wpAny_IfExp (thn (hc pins s σ H _ I h) fun d s1 ⟨H1,I1,q1⟩=>?_)
 cases d with
 | true=>exact ha pins s1 σ H1 Q I1 q1
 | false=>exact hb pins s1 σ H1 Q I1 q1
end
end L2
namespace L2
open PySem PySem.Spec PyProof.Rows
def SqL (K:Frag) (H:Hp) (a:Addr) (xs:List V):Prop :=
 Rd H a (.lst xs) \/
  ∃ (o:Obj) (its:Array Value) (n:Nat),K.lookup a=some o/\o.cls= .type "list"/\o.dict=none/\o.data= .seq its n/\its.size<=sizeLine/\Vals xs its.toList
def SqT (K:Frag) (H:Hp) (a:Addr) (xs:List V):Prop :=
 Rd H a (.tup xs) \/
  ∃ (o:Obj) (its:Array Value) (n:Nat),K.lookup a=some o/\o.cls= .type "tuple"/\o.data= .seq its n/\its.size<=sizeLine/\Vals xs its.toList
def K5:Value->Option V
 | .none=>some .non
 | .bool b=>some (.bl b)
 | .int i _=>some (.int i)
 | .str x _=>some (.str x)
 | .bytes b _=>some (.byt b)
 | .float b _=>some (.flt b)
 | .ref a=>some (.ref a)
 | .type n=>some (.ty n)
 | _=>none
theorem RelV.abs {x:V}{u:Value}(r:RelV x u):K5 u=some x:=by
 cases x with
 | non=>cases r;rfl
 | bl _=>cases r;rfl
 | int _=>obtain⟨t,rfl⟩:=r;rfl
 | str _=>obtain⟨t,rfl⟩:=r;rfl
 | byt _=>obtain⟨t,rfl⟩:=r;rfl
 | flt _=>obtain⟨t,rfl⟩:=r;rfl
 | ref _=>cases r;rfl
 | ty _=>cases r;rfl
theorem RelV.inj {x y:V}{u:Value}(r:RelV x u)(q:RelV y u):x=y:=Option.some.inj (r.abs.symm.trans q.abs)
theorem Vals.inj: ∀{xs ys:List V} {us:List Value},Vals xs us->Vals ys us->xs=ys
 | _,_,_,.nil,.nil=>rfl
 | _,_,_,.cons r t,.cons r' t'=>by rw[r.inj r',Vals.inj t t']
section
variable {X:Cx}{pins:List (Addr×Obj)}{σ:St}{H:Hp}{s:Shared}{a:Addr}{xs ys:List V}
theorem SqL.of {K:Frag}(h:H a=some (.lst xs)):SqL K H a xs:=.inl (.inl h)
theorem SqT.of {K:Frag}(h:H a=some (.tup xs)):SqT K H a xs:=.inl (.inl h)
theorem Inv.list (I:Inv X pins σ H s)(h:SqL X.K H a xs): ∃its:List Value,Vals xs its/\PlainL s.heap a its.toArray/\xs.length<=sizeLine:=by
 rcases h with h | ⟨o,its,n,hk,hc,hd,hs,hz,r⟩
 .obtain⟨z,its,n,r,e⟩:=h.ok I.hok;exact⟨its,r,⟨_,n,e,rfl,rfl,rfl⟩,z⟩
 .refine⟨its.toList,r,⟨o,n,I.kIn a o hk,hc,hd,by simpa using hs⟩,?_⟩;have e:=r.length;simp only[Array.length_toList] at e;omega
theorem Inv.tuple (I:Inv X pins σ H s)(h:SqT X.K H a xs): ∃its:List Value,Vals xs its/\IsTup s.heap a its.toArray/\xs.length<=sizeLine:=by
 rcases h with h | ⟨o,its,n,hk,hc,hs,hz,r⟩
 .obtain⟨z,its,r,p⟩:=h.ok I.hok;exact⟨its,r,p,z⟩
 .refine⟨its.toList,r,⟨o,I.kIn a o hk,hc,n,by simpa using hs⟩,?_⟩;have e:=r.length;simp only[Array.length_toList] at e;omega
theorem Inv.list_inj (I:Inv X pins σ H s)(h:SqL X.K H a xs)(h':SqL X.K H a ys):xs=ys:=by
 obtain⟨its,r,⟨o,n,e,_,_,d⟩,_⟩:=I.list h;obtain⟨its',r',⟨o',n',e',_,_,d'⟩,_⟩:=I.list h';rw[e] at e';cases e';rw[d] at d';injection d' with d1 _
 have:its=its':=by simpa using congrArg Array.toList d1
 subst this;exact r.inj r'
end
abbrev Cx.wish (X:Cx) (E:Value->Shared->Prop):Cx:={ X with xe:=E }
abbrev Cx.nox (X:Cx):Cx:=X.wish fun _ _=>False
theorem Cx.Ok.wish {X:Cx}(ok:X.Ok)(E:Value->Shared->Prop):(X.wish E).Ok :=
 ⟨ok.mod,ok.kind,ok.glob,ok.blt,ok.above,ok.inj,ok.has,ok.cab,ok.hd,ok.frames,ok.stk,ok.exf,ok.bs,ok.bsz,ok.noex,ok.exfs,ok.funs,ok.frf⟩
theorem Cx.Ok.unwish {X:Cx}{E:Value->Shared->Prop}(ok:(X.wish E).Ok):X.Ok :=
 ⟨ok.mod,ok.kind,ok.glob,ok.blt,ok.above,ok.inj,ok.has,ok.cab,ok.hd,ok.frames,ok.stk,ok.exf,ok.bs,ok.bsz,ok.noex,ok.exfs,ok.funs,ok.frf⟩
section
variable {X:Cx}{pins:List (Addr×Obj)}{σ:St}{H:Hp}{s:Shared}{E:Value->Shared->Prop}
theorem Inv.wish (I:Inv X pins σ H s)(E:Value->Shared->Prop):Inv (X.wish E) pins σ H s:=⟨I.ok.wish E,I.os,I.bare,I.base,I.loc,I.cell,I.free,I.freeC,I.pin,I.hok,I.len⟩
theorem Inv.unwish (I:Inv (X.wish E) pins σ H s):Inv X pins σ H s:=⟨I.ok.unwish,I.os,I.bare,I.base,I.loc,I.cell,I.free,I.freeC,I.pin,I.hok,I.len⟩
theorem SP.unwish {D:Ends}{f:Flow}{s':Shared}(h:SP (X.wish E) pins D f s'):SP X pins D f s':=by
 cases f with
 | next=>obtain⟨σ',H',I,q⟩:=h;exact⟨σ',H',I.unwish,q⟩
 | brk=>obtain⟨σ',H',I,q⟩:=h;exact⟨σ',H',I.unwish,q⟩
 | cont=>obtain⟨σ',H',I,q⟩:=h;exact⟨σ',H',I.unwish,q⟩
 | ret u=>obtain⟨v,σ',H',I,r,q⟩:=h;exact⟨v,σ',H',I.unwish,r,q⟩
theorem PSs.nox {st:List Stmt}{t:TS}(h:PSs X.nox st t):PSs X st t:=fun pins s σ H D I hw =>
 wpAny_mono (h pins s σ H D (I.wish _) hw) (fun _ _ q=>q.unwish) fun _ _ z=>False.elim z
end
section
variable {X:Cx}{st:Stmt}{rest:List Stmt}{t u:TS}{e:Expr}{te:TE}{pos:Pos}
def K6:TS:=fun D σ H=>D.nx σ H
def K7 (t u:TS):TS:=fun D σ H=>t { D with nx:=u D } σ H
theorem K8:PSs X [] K6:=fun _ _ σ H _ I h=>wpAny_execs_nil ⟨σ,H,I,h⟩
theorem K9 (h1:PS X st t)(h2:PSs X rest u):PSs X (st::rest) (K7 t u):=by
 intro pins s σ H D I h;refine wpAny_execs_cons (thn (h1 pins s σ H { D with nx:=u D } I h) fun f s1 q=>?_)
 cases f with
 | next =>
  obtain⟨σ',H',I',q⟩:=q;exact h2 pins s1 σ' H' D I' q
 | ret v=>exact q
 | brk=>exact q
 | cont=>exact q
theorem Inv.quiet {pins:List (Addr×Obj)}{σ:St}{H:Hp}{s:Shared}(I:Inv X pins σ H s):interactive X.env=false:=by simp [interactive,I.ok.kind]
def La (te:TE):TS:=fun D σ H=>te σ H fun _ H1=>D.nx σ H1
theorem Lb (he:PE X e te)(hs:swapsWith e none pos.line X.env=pure false:=by rfl):PS X (.Expr e pos) (La te):=by
 intro pins s σ H D I h;exact wpAny_Expr_any (thn (he pins s σ H _ I h) fun v s1 ⟨x,H1,I1,r1,q1⟩=>⟨σ,H1,I1,q1⟩) I.quiet hs
def Ld (te:TE):TS:=fun D σ H=>te σ H D.rt
theorem zT (he:PE X e te):PS X (.Return (some e) pos) (Ld te):=by
 intro pins s σ H D I h;exact wpAny_Return_some (thn (he pins s σ H _ I h) fun v s1 ⟨x,H1,I1,r1,q1⟩=>⟨x,σ,H1,I1,r1,q1⟩)
def Le (c:TT) (t u:TS):TS:=fun D σ H=>c σ H fun b H1=>if b=true then t D σ H1 else u D σ H1
theorem Lf {c:Expr}{a b:List Stmt}{tc:TT}(hc:PT X c tc)(ha:PSs X a t)(hb:PSs X b u):PS X (.If c a b pos) (Le tc t u):=by
 intro pins s σ H D I h;refine wpAny_If (thn (hc pins s σ H _ I h) fun d s1 ⟨H1,I1,q1⟩=>?_)
 cases d with
 | true=>exact ha pins s1 σ H1 D I1 q1
 | false=>exact hb pins s1 σ H1 D I1 q1
end
abbrev TG:=V->St->Hp->(St->Hp->Prop)->Prop
abbrev TGs:=List V->St->Hp->(St->Hp->Prop)->Prop
def PG (X:Cx) (target:Expr) (t:TG):Prop :=
 ∀ (pins:List (Addr×Obj)) (s:Shared) (σ:St) (H:Hp) (v:V) (u:Value) (Q:St->Hp->Prop),Inv X pins σ H s->RelV v u->t v σ H Q ->
  wpAny (model X.prog X.w) X.A (assign target X.env u) (fun _ s'=> ∃σ' H',Inv X pins σ' H' s'/\Q σ' H') X.xe s
def PGs (X:Cx) (ts:List Expr) (t:TGs):Prop :=
 ∀ (pins:List (Addr×Obj)) (s:Shared) (σ:St) (H:Hp) (vs:List V) (us:List Value) (Q:St->Hp->Prop),Inv X pins σ H s->Vals vs us->t vs σ H Q ->
  wpAny (model X.prog X.w) X.A (assignInOrder ((assignEach ts X.env).map (·.2)) us) (fun _ s'=> ∃σ' H',Inv X pins σ' H' s'/\Q σ' H') X.xe s
abbrev TIp:=V->V->Hp->VK->Prop
def PIp (X:Cx) (op:Operator) (t:TIp):Prop :=
 ∀ (pins:List (Addr×Obj)) (s:Shared) (σ:St) (H:Hp) (x y:V) (v u:Value) (Q:VK),Inv X pins σ H s->RelV x v->RelV y u->t x y H Q ->
  wpAny (model X.prog X.w) X.A (inplaceOp op v u) (EP X pins σ Q) X.xe s
section
variable {X:Cx}{pos:Pos}
def iC (i:Nat):TG:=fun v σ H Q=>Q (σ.set i (some v)) H
theorem sr {i:Nat}{x:Str}(hN:X.N.Nodup)(hi:X.N[i]?=some x)(hx:Loc X.env.scope x)(hf:X.fn x=true\/X.env.scope.names.lookup x=some .local:=by first | exact .inl rfl | exact .inr rfl | assumption):PG X (.Name x pos) (iC i):=by
 intro pins s σ H v u Q I r h;exact wpAny_assign_Name (rY I hN hi hx r (fun s' I'=>⟨_,H,I',h⟩) hf)
def zU:TGs:=fun vs σ H Q=>vs=[]/\Q σ H
def su (t:TG) (u:TGs):TGs:=fun vs σ H Q=> ∃v r,vs=v::r/\t v σ H fun σ' H'=>u r σ' H' Q
theorem Lg:PGs X [] zU:=by
 intro pins s σ H vs us Q I r h;obtain⟨e,h⟩:=h;subst e;cases r;exact assignInOrder_nil ⟨σ,H,I,h⟩
theorem zV {e:Expr}{es:List Expr}{t:TG}{u:TGs}(h1:PG X e t)(h2:PGs X es u)
  (hs:(assignEach (e::es) X.env).map (·.2)=assign e X.env::(assignEach es X.env).map (·.2):=by rfl):PGs X (e::es) (su t u):=by
 intro pins s σ H vs us Q I r h;obtain⟨v,vr,e1,h⟩:=h;subst e1
 cases r with
 | cons r rr =>
  rw[hs];refine assignInOrder_cons (thn (h1 pins s σ H _ _ _ I r h) fun _ s1 ⟨σ1,H1,I1,q1⟩=>?_);exact h2 pins s1 σ1 H1 _ _ Q I1 rr q1
def zW (K:Frag) (n:Nat) (t:TGs):TG:=fun v σ H Q=> ∃a xs,v= .ref a/\SqT K H a xs/\xs.length=n/\t xs σ H Q
theorem Lh {es:List Expr}{k:Nat}{t:TGs}{n:Nat}(hc:X.calm=true)(h:PGs X es t)
  (hn:(assignEach es X.env).length=n:=by rfl) (hst:(assignEach es X.env).findIdx? (·.1)=none:=by rfl):PG X (.Tuple es k pos) (zW X.K n t):=by
 intro pins s σ H v u Q I r hw;obtain⟨a,xs,e1,hq,hl,hw⟩:=hw;subst e1;cases r;obtain⟨its,rv,ht,hz⟩:=I.tuple hq;refine assign_Tuple_tuple (I.ok.hd hc) ht (by simp [hn,<-hl,rv.length]) hst fun h' hx=>?_;have I1:Inv X pins σ H { s with heap:=h' }:=I.kept (t':=s.toks) fun b o e=>hx b o (Nat.ne_of_lt (Heap.lt_size e)) e;exact h pins _ σ H xs _ Q I1 (by simpa using rv) hw
def oW (te:TE) (g:TG):TS:=fun D σ H=>te σ H fun x H1=>g x σ H1 D.nx
theorem Li {i:Nat}{x:Str}{e:Expr}{te:TE}{pos':Pos}(hN:X.N.Nodup)(hi:X.N[i]?=some x)(hx:Loc X.env.scope x)(he:PE X e te)(hs:swapsWith e (some (.Name x pos')) pos.line X.env=pure false:=by rfl)(hf:X.fn x=true\/X.env.scope.names.lookup x=some .local:=by first | exact .inl rfl | exact .inr rfl | assumption) :
  PS X (.Assign [.Name x pos'] e pos) (oW te (iC i)):=by
 intro pins s σ H D I h;refine wpAny_Assign_Name (thn (he pins s σ H _ I h) fun v s1 ⟨y,H1,I1,r1,q1⟩=>?_) hs;exact rY I1 hN hi hx r1 (fun s2 I2=>⟨_,H1,I2,q1⟩) hf
def Lj (i:Nat) (te:TE) (ti:TIp):TS:=fun D σ H=> ∃x,σ[i]?=some (some x)/\te σ H fun y H1=>ti x y H1 fun z H2=>D.nx (σ.set i (some z)) H2
theorem Lk {i:Nat}{x:Str}{e:Expr}{te:TE}{op:Operator}{ti:TIp}{pos':Pos}(hN:X.N.Nodup)(hi:X.N[i]?=some x)(hx:Loc X.env.scope x)(he:PE X e te)(ho:PIp X op ti)(hf:X.fn x=true\/X.env.scope.names.lookup x=some .local:=by first | exact .inl rfl | exact .inr rfl | assumption) :
  PS X (.AugAssign (.Name x pos') op e pos) (Lj i te ti):=by
 intro pins s σ H D I h;obtain⟨v,e1,h⟩:=h;obtain⟨m,hn,hl⟩:=I.loc
 have vis:Vis X.env.scope x:=by rcases hx with k | k;exact .inl k;exact .inr (.inl k)
 obtain⟨u,r,l⟩:=hl i x v hi e1 vis;refine wpAny_AugAssign_Name ?_
 have go:wpAny (model X.prog X.w) X.A (eval e X.env) (fun w s₂=>wpAny (model X.prog X.w) X.A (inplaceOp op u w) (fun r s₃=>wpAny (model X.prog X.w) X.A (storeName X.env x r) (fun _=>SP X pins D .next) X.xe s₃) X.xe s₂) X.xe s:=by
  refine thn (he pins s σ H _ I h) fun w s1 ⟨y,H1,I1,r1,q1⟩=>?_;refine thn (ho pins s1 σ H1 v y u w _ I1 r r1 q1) fun z s2 ⟨zv,H2,I2,r2,q2⟩=>?_;exact rY I2 hN hi hx r2 (fun s3 I3=>⟨_,H2,I3,q2⟩) hf
 rcases l with⟨hk,hm⟩ | ⟨hk,c,hc,hcell⟩
 .exact wpAny_loadName_local I.ok.kind hk hn hm go
 .rcases hk with hk | hk
  .exact wpAny_loadName_cell I.ok.kind hk hc hcell go
  .rcases hx with k | k
   .have:X.env.scope.names.lookup x=some .free:=hk;rw[k] at this;cases this
   .have:X.env.scope.names.lookup x=some .free:=hk;rw[k] at this;cases this
def ipI (f:Int->Int->Int):TIp:=fun x y H Q=> ∃i j,x= .int i/\y= .int j/\Q (.int (f i j)) H
theorem Ln:PIp X .Add (ipI fun i j=>i+j):=by
 intro pins s σ H x y v u Q I r1 r2 h;obtain⟨i,j,e1,e2,q⟩:=h;subst e1;subst e2;obtain⟨t,rfl⟩:=r1;obtain⟨t',rfl⟩:=r2;exact iadd_int ⟨.int _,H,I.tok _,⟨_,rfl⟩,q⟩
end
section
variable {X:Cx}{pos:Pos}
def Lp (c:TT) (tb:TS):TS:=fun D σ H=> ∃W:Nat->St->Hp->Prop,(∃m,W m σ H)/\ ∀m σ H,W m σ H ->
 c σ H fun b H1=>if b=true then ∃N:St->Hp->Prop,(∀σ' H',N σ' H'-> ∃m',m' < m/\W m' σ' H')/\tb { D with nx:=N,ct:=N,bk:=D.nx } σ H1 else D.nx σ H1
theorem Lq {c:Expr}{body:List Stmt}{tc:TT}{tb:TS}(hp:PassesOwn (model X.prog X.w) X.A X.env X.xe)(hc:PT X c tc)(hb:PSs X body tb):PS X (.While c body [] pos) (Lp tc tb):=by
 intro pins s σ H D I h;obtain⟨W,⟨m0,w0⟩,turn⟩:=h;refine wpAny_While (codeAny_whileLoop (fun n s'=> ∃σ' H',Inv X pins σ' H' s'/\W n σ' H') ?_ m0 ⟨σ,H,I,w0⟩);rintro n s1 ⟨σ1,H1,I1,w1⟩;refine wpAny_passesOwn hp (thn (hc pins s1 σ1 H1 _ I1 (turn n σ1 H1 w1)) fun b s2 ⟨H2,I2,q2⟩=>?_)
 cases b with
 | true =>
  obtain⟨N,hN,q2⟩:=q2;rw[if_pos rfl];refine wpAny_passesOwn hp (thn (hb pins s2 σ1 H2 _ I2 q2) fun f s3 q3=>?_)
  cases f with
  | next =>
   obtain⟨σ3,H3,I3,n3⟩:=q3;obtain⟨m',hm,w3⟩:=hN σ3 H3 n3;exact⟨m',hm,σ3,H3,I3,w3⟩
  | cont =>
   obtain⟨σ3,H3,I3,n3⟩:=q3;obtain⟨m',hm,w3⟩:=hN σ3 H3 n3;exact⟨m',hm,σ3,H3,I3,w3⟩
  | brk=>exact q3
  | ret v=>exact q3
 | false =>
  rw[if_neg Bool.false_ne_true];exact wpAny_execs_nil ⟨σ1,H2,I2,q2⟩
end
structure It where
 go:Nat->Hp->Prop
 yld:Nat->Hp->V->Hp->Prop
 stop:Nat->Hp->Prop
def gC (X:Cx) (pins:List (Addr×Obj)) (H:Hp) (b:Addr):Prop :=
 H b=none/\b≠X.env.locals/\b∉X.fs/\(b∈X.ex\/X.s_0.heap.objs.size<=b)/\(∀x c,X.env.cells.lookup x=some c->c≠b)/\ ∀p∈X.pn++pins,p.1≠b
theorem Inv.fpOk {X:Cx}{pins:List (Addr×Obj)}{σ:St}{H H':Hp}{s:Shared}{b:Addr}(I:Inv X pins σ H s)(hb:s.heap.objs.size<=b)(hn:H' b=none):gC X pins H' b:=by
 refine⟨hn,Nat.ne_of_gt (Nat.lt_of_lt_of_le I.lt hb),I.nofs hb,.inr (Nat.le_trans I.sz hb),fun x c e z=>?_,fun p hp z=>?_⟩
 .obtain⟨v,q⟩:=I.cell x c e;exact absurd (Nat.lt_of_lt_of_le q.lt (by rw[z];exact hb)) (Nat.lt_irrefl _)
 .exact absurd (Nat.lt_of_lt_of_le (Heap.lt_size (I.pin p hp).1) (by rw[z];exact hb)) (Nat.lt_irrefl _)
structure Turn (P:Program) (w:World) (K:Frag) (tg:Expr) (J:It) (fp:List Addr) (it:Addr) (tn:Nat->Heap->Prop):Prop where
 mem:it∈fp
 obj: ∀i h,tn i h-> ∀b∈fp,∃o,h.get? b=some o/\ ∀v,o.data≠.cell v
 keep: ∀i h h',tn i h->(∀b∈fp,∀o,h.get? b=some o->h'.get? b=some o)->tn i h'
 item: ∀ (X:Cx),X.prog=P->X.w=w->X.K=K->X.calm=true-> ∀ (i:Nat) (pins:List (Addr×Obj)) (s:Shared) (σ:St) (H:Hp) (E:Value->Shared->Prop),Inv X pins σ H s->(∀b∈fp,gC X pins H b)->tn i s.heap->J.go i H ->
  wpAny (model P w) X.A (pyNext (.ref it)) (fun r s1=> ∃u,r=some u /\
   wpAny (model P w) X.A (letOwnedTupleGo tg (.ref it) u) (fun _ s2=> ∃x H',Inv X pins σ H' s2/\RelV x u/\J.yld i H x H'/\tn (i+1) s2.heap/\ ∀b∈fp,H' b=none) E s1) E s
 done: ∀ (X:Cx),X.prog=P->X.w=w->X.K=K->X.calm=true-> ∀ (i:Nat) (pins:List (Addr×Obj)) (s:Shared) (σ:St) (H:Hp) (E:Value->Shared->Prop),Inv X pins σ H s->(∀b∈fp,gC X pins H b)->tn i s.heap->J.stop i H ->
  wpAny (model P w) X.A (pyNext (.ref it)) (fun r s1=>r=none/\Inv X pins σ H s1) E s
 self: ∀ (A:Around) (i:Nat) (s:Shared) (Q:Value->Shared->Prop) (E:Value->Shared->Prop),tn i s.heap->Q (.ref it) s->wpAny (model P w) A (pyIter (.ref it)) Q E s
abbrev TI:=St->Hp->(It->Hp->Prop)->Prop
def PIE (X:Cx) (pins:List (Addr×Obj)) (σ:St) (tg:Expr) (R:It->Hp->Prop) (itv:Value) (s2:Shared):Prop :=
 ∃ (it:Addr) (fp:List Addr) (tn:Nat->Heap->Prop) (J:It) (H':Hp),itv= .ref it/\Inv X pins σ H' s2/\Turn X.prog X.w X.K tg J fp it tn/\tn 0 s2.heap/\(∀b∈fp,gC X pins H' b)/\R J H'
def PI (X:Cx) (tg iter:Expr) (wi:TI):Prop :=
 ∀ (pins:List (Addr×Obj)) (s:Shared) (σ:St) (H:Hp) (R:It->Hp->Prop),Inv X pins σ H s->wi σ H R ->
  wpAny (model X.prog X.w) X.A (eval iter X.env) (fun v s1=>wpAny (model X.prog X.w) X.A (pyIter v) (PIE X pins σ tg R) X.xe s1) X.xe s
theorem zX {M : Model} {A : Around} {E : Value → Shared → Prop} {s : Shared} {tg : Expr} {it : Addr} {u : Value} {o : Obj} {n : String} {vs : Array Value} {Q : Unit → Shared → Prop} (ho : s.heap.get? it = some o) (hc : o.cls = .type n) (hd : o.data = .fields vs)
    (hn : ["enumerate", "zip", "dict_itemiterator", "dict_reverseitemiterator", "odict_iterator", "itertools.zip_longest", "itertools.pairwise"].contains n = false) (hQ : Q () s) : wpAny M A (letOwnedTupleGo tg (.ref it) u) Q E s := by
  unfold letOwnedTupleGo
  cases tg <;> first
    | exact wpAny_pure hQ
    | (cases u <;> first
        | exact wpAny_pure hQ
        | (refine wpAny_bind (wpAny_load ho ?_)
           rw [hc, hd]
           show wpAny M A (if (["enumerate", "zip", "dict_itemiterator", "dict_reverseitemiterator", "odict_iterator", "itertools.zip_longest", "itertools.pairwise"].contains n && vs[0]? == some (rawInt _)) = true then _ else _) Q E s
           rw [if_neg (by intro h; rw [hn, Bool.false_and] at h; cases h)]
           exact wpAny_pure hQ))
def Itl (K:Frag) (a:Addr):It :=
 ⟨fun i H=> ∃xs x,SqL K H a xs/\xs[i]?=some x,fun i H x H'=>H'=H/\ ∀xs,SqL K H a xs->xs[i]?=some x,fun i H=> ∃xs,SqL K H a xs/\xs.length<=i⟩
def Itr (lo:Int) (n:Nat):It:=⟨fun i _=>i < n,fun i H x H'=>H'=H/\x= .int (lo+i),fun i _=>n<=i⟩
theorem Lr {P:Program}{w:World}{K:Frag}{tg:Expr}(a it:Addr):Turn P w K tg (Itl K a) [it] it (fun i h=>h.IsListIter it a i) where
 mem:=by simp
 obj:=fun i h st b hb=>by
  have e:b=it:=by simpa using hb
  subst e;obtain⟨o,e,c,d⟩:=st;exact⟨o,e,fun v z=>by rw[d] at z;cases z⟩
 keep:=fun i h h' st k=>st.at fun o e=>k it (by simp) o e
 item:=by
  intro X hP hw hK hc i pins s σ H E I hf st hg;subst hP hw hK;obtain⟨xs,x,hq,hx⟩:=hg;obtain⟨its,rv,p,hz⟩:=I.list hq;obtain⟨u,hu,ru⟩:=rv.get hx;obtain⟨f0,f1,f2,f3,f4,f5⟩:=hf it (by simp);refine wpAny_pyNext_list_item st p.isList (x:=u) (by simpa using hu) fun h' st' sb=>?_;have I1:Inv X pins σ H { s with heap:=h' }:=I.turned (t':=s.toks) (fun b o hb e=>(sb.2 b hb).trans e) f0 f1 f3 f4 f5;obtain⟨o,e,c,d⟩:=id st';exact⟨u,rfl,zX (s:={ s with heap:=h' }) e c d (by decide) ⟨x,H,I1,ru,⟨rfl,fun ys hy=>by rw[I.list_inj hy hq];exact hx⟩,st',fun b hb=>(hf b hb).1⟩⟩
 done:=by
  intro X hP hw hK hc i pins s σ H E I hf st hg;subst hP hw hK;obtain⟨xs,hq,hx⟩:=hg;obtain⟨its,rv,p,hz⟩:=I.list hq;obtain⟨f0,f1,f2,f3,f4,f5⟩:=hf it (by simp);have hl:=rv.length
  exact wpAny_pyNext_list_end (I.ok.hd hc) st p.isList (by simp;omega) fun h' eb=>⟨rfl,I.turned (t':=s.toks) (fun b o hb e=>eb b o hb e) f0 f1 f3 f4 f5⟩
 self:=fun _ _ _ _ _ st h=>wpAny_pyIter_listiter st h
theorem Ls {P:Program}{w:World}{K:Frag}{tg:Expr}(it:Addr)(lo:Int)(n:Nat):Turn P w K tg (Itr lo n) [it] it (fun i h=>IsRangeIter h it (lo+(i:Nat) * 1) ((n:Int) - (i:Nat)) 1) where
 mem:=by simp
 obj:=fun i h st b hb=>by
  have e:b=it:=by simpa using hb
  subst e
  exact⟨_,st,fun v z=>by
   have z':Data.fields _=Data.cell v:=z
   cases z'⟩
 keep:=fun i h h' st k=>k it (by simp) _ st
 item:=by
  intro X hP hw hK hc i pins s σ H E I hf st hg;subst hP hw hK;obtain⟨f0,f1,f2,f3,f4,f5⟩:=hf it (by simp);have W:=Walks.range (prog:=X.prog) (w:=X.w) (I.ok.hd hc) it lo 1 n;refine W.item i s _ _ hg st fun v h' tk hv st' kk=>?_;obtain⟨t,rfl⟩:=hv;have I1:Inv X pins σ H { s with heap:=h',toks:=tk }:=I.turned (fun b o hb e=>kk b o (by simpa using hb) e) f0 f1 f3 f4 f5;refine⟨_,rfl,zX (s:={ s with heap:=h',toks:=tk }) (n:="range_iterator") st' rfl rfl (by decide) ⟨.int (lo+i),H,I1,⟨t,?_⟩,⟨rfl,rfl⟩,st',fun b hb=>(hf b hb).1⟩⟩;rw[Int.mul_one]
 done:=by
  intro X hP hw hK hc i pins s σ H E I hf st hg;subst hP hw hK;obtain⟨f0,f1,f2,f3,f4,f5⟩:=hf it (by simp)
  exact wpAny_pyNext_range_end (I.ok.hd hc) st (by have:n<=i:=hg;omega) fun h' eb=>⟨rfl,I.turned (t':=s.toks) (fun b o hb e=>eb b o hb e) f0 f1 f3 f4 f5⟩
 self:=fun _ _ _ _ _ st h=>wpAny_pyIter_rangeiter st h
end L2
namespace L2
open PySem PySem.Spec PyProof.Rows
section
variable {X:Cx}{tg:Expr}
def sE (K:Frag) (tl:TE):TI:=fun σ H R=>tl σ H fun x H1=> ∃a,x= .ref a/\(∃xs,SqL K H1 a xs)/\R (Itl K a) H1
theorem zY {l:Expr}{tl:TE}(hl:PE X l tl):PI X tg l (sE X.K tl):=by
 intro pins s σ H R I h;refine thn (hl pins s σ H _ I h) fun v s1 ⟨x,H1,I1,r1,q1⟩=>?_;obtain⟨a,e,⟨xs,hq⟩,q⟩:=q1;subst e;cases r1;obtain⟨its,rv,p,hz⟩:=I1.list hq;refine wpAny_pyIter_list p.isList ?_;refine⟨s1.heap.objs.size,[s1.heap.objs.size],_,_,H1,rfl,I1.kept (t':=s1.toks) fun b o e=>Heap.get?_push_of_some _ e,Lr a _,⟨_,Heap.get?_push_size _ rfl,rfl,rfl⟩,fun b hb=>?_,q⟩
 have e:b=s1.heap.objs.size:=by simpa using hb
 subst e;exact I1.fpOk (Nat.le_refl _) (I1.hok.fresh (Nat.le_refl _))
theorem Lw {pins:List (Addr×Obj)}{σ:St}{H:Hp}{s:Shared}{R:It->Hp->Prop}{E:Value->Shared->Prop}{lo hi:Int}{t u v:Tok}{tk:Nat}(I:Inv X pins σ H s)(h1: -(2 ^ 62)<=lo)(h2:lo < 2 ^ 62)(h3: -(2 ^ 62)<=hi)(h4:hi < 2 ^ 62)
  (q:R (Itr lo (hi - lo).toNat) H):wpAny (model X.prog X.w) X.A (pyIter (.ref s.heap.objs.size)) (PIE X pins σ tg R) E { s with heap:=s.heap.push { cls:=.type "range",data:=.fields #[.int lo t,.int hi u,.int 1 v] },toks:=tk }:=by
 refine wpAny_pyIter_range (IsRange.new ..) (small_one h1 h2 h3 h4) ?_;have I1:Inv X pins σ H { s with heap:=s.heap.push { cls:=.type "range",data:=.fields #[.int lo t,.int hi u,.int 1 v] },toks:=tk }:=I.kept fun b o e=>Heap.get?_push_of_some _ e
 refine⟨(s.heap.push { cls:=.type "range",data:=.fields #[.int lo t,.int hi u,.int 1 v] }).objs.size,[(s.heap.push { cls:=.type "range",data:=.fields #[.int lo t,.int hi u,.int 1 v] }).objs.size],_,_,H,rfl,
  I1.kept (t':=tk) fun b o e=>Heap.get?_push_of_some _ e,Ls _ lo (hi - lo).toNat,?_,fun b hb=>?_,q⟩
 .have e1:lo+((0:Nat):Int) * 1=lo:=by simp
  have e2:(((hi - lo).toNat:Nat):Int) - ((0:Nat):Int)=Builtin.Range.rangeSize lo hi 1:=by rw[rangeSize_one];split<;>omega
  show IsRangeIter _ _ (lo+((0:Nat):Int) * 1) ((((hi - lo).toNat:Nat):Int) - ((0:Nat):Int)) 1;rw[e1,e2];exact Heap.get?_push_size _ rfl
 .have e:b=(s.heap.push { cls:=.type "range",data:=.fields #[.int lo t,.int hi u,.int 1 v] }).objs.size:=by simpa using hb
  subst e;exact I1.fpOk (Nat.le_refl _) (I1.hok.fresh (Nat.le_refl _))
def zZ (ta:TA):TI:=fun σ H R=>ta σ H fun vs H1=> ∃j:Int,vs=[.int j]/\ -(2 ^ 62)<=j/\j < 2 ^ 62/\R (Itr 0 j.toNat) H1
theorem Lx {a:Expr}{ta:TA}{p pos:Pos}(hg:Gl X "range")(hm:X.mg "range"=none)(ha:PA X [a] ta)(hs:starEach [a] X.env=[(false,eval a X.env)]:=by rfl):PI X tg (.Call (.Name "range" p) [a] [] pos) (zZ ta):=by
 intro pins s σ H R I h;refine Call_ (jh I hg hm boot_range (PyProof.Rows.callWith_type1 (thn (ha pos pins s σ H _ I h) fun us s1 ⟨vs,H1,I1,r1,q1⟩=>?_) hs rfl));obtain⟨j,e,q1,q2,q⟩:=q1;subst e
 cases r1 with
 | cons r rr =>
  cases rr;obtain⟨t,rfl⟩:=r;exact call_range_1 (Lw I1 (by omega) (by omega) q1 q2 (by simpa using q))
def Ly (wi:TI) (g:TG) (tb:TS):TS:=fun D σ H=>wi σ H fun J H1=> ∃W:Nat->Nat->St->Hp->Prop,(∃m,W 0 m σ H1)/\ ∀i m σ H,W i m σ H ->
 (J.stop i H/\D.nx σ H)\/(J.go i H/\ ∃N:St->Hp->Prop,(∀σ' H',N σ' H'-> ∃m',m' < m/\W (i+1) m' σ' H')/\ ∀x H',J.yld i H x H'->g x σ H' fun σ2 H2=>tb { D with nx:=N,ct:=N,bk:=D.nx } σ2 H2)
def mL (fp:List Addr) (h:Heap):List (Addr×Obj):=fp.filterMap fun b=>(h.get? b).map fun o=>(b,o)
theorem sG {fp:List Addr}{h:Heap}{b:Addr}{o:Obj}(hb:b∈fp)(e:h.get? b=some o):(b,o)∈mL fp h:=mem_filterMap.mpr ⟨b,hb,by rw[e];rfl⟩
theorem Lz {fp:List Addr}{h:Heap}{p:Addr×Obj}(hp:p∈mL fp h):p.1∈fp/\h.get? p.1=some p.2:=by
 obtain⟨b,hb,e⟩:=mem_filterMap.mp hp
 cases q:h.get? b with
 | none=>rw[q] at e;cases e
 | some o =>
  rw[q] at e;have e':(b,o)=p:=Option.some.inj e;subst e';exact⟨hb,q⟩
theorem Inv.pinned {pins:List (Addr×Obj)}{σ:St}{H:Hp}{s:Shared}{fp:List Addr}(I:Inv X pins σ H s)(hf: ∀b∈fp,gC X pins H b)(ho: ∀b∈fp,∃o,s.heap.get? b=some o/\ ∀v,o.data≠.cell v):Inv X (pins++mL fp s.heap) σ H s :=
 I.pins_of fun p hp=>(mem_append.mp hp).elim (fun z=>I.pin p (mem_append_right _ z)) fun z=>by
  obtain⟨hb,e⟩:=Lz z;obtain⟨f0,f1,f2,_⟩:=hf p.1 hb;obtain⟨o,e',d⟩:=ho p.1 hb;rw[e] at e';cases e';exact⟨e,f0,f1,f2,d⟩
theorem Inv.unpinned {pins pl:List (Addr×Obj)}{σ:St}{H:Hp}{s:Shared}(I:Inv X (pins++pl) σ H s):Inv X pins σ H s:=I.pins_of fun p hp=>I.pin p (mem_append_right _ (mem_append_left _ hp))
theorem LC {iter:Expr}{body:List Stmt}{wi:TI}{g:TG}{tb:TS}{pos:Pos}(hp:PassesOwn (model X.prog X.w) X.A X.env X.xe)(hc:X.calm=true)(hi:PI X tg iter wi)(hg:PG X tg g)(hb:PSs X body tb)
  (hs: ∀x,foldedSetIterable iter X.env x=pure x:=by intro _;rfl):PS X (.For tg iter body [] pos) (Ly wi g tb):=by
 intro pins s σ H D I h;refine wpAny_For (thn (hi pins s σ H _ I h) fun v s1 h1=>thn h1 fun itv s2 h2=>?_) hs;obtain⟨it,fp,tn,J,H2,e,I2,T,st2,f2,W,⟨m0,w0⟩,turn⟩:=h2;subst e
 -- what stays true of the iterator's objects through the loop
 have stat: ∀{H':Hp},(∀b∈fp,H' b=none)-> ∀b∈fp,gC X pins H' b:=fun hn b hb=>⟨hn b hb,(f2 b hb).2⟩
 refine codeAny_forLoop_any (fun n s'=> ∃i σ' H',Inv X pins σ' H' s'/\tn i s'.heap/\(∀b∈fp,H' b=none)/\W i n σ' H') ?_ m0 ⟨0,σ,H2,I2,st2,fun b hb=>(f2 b hb).1,w0⟩;rintro n s3 ⟨i,σ3,H3,I3,st3,fr3,w3⟩;rcases turn i n σ3 H3 w3 with⟨stop,qn⟩ | ⟨go,N,hN,step⟩
 .refine wpAny_passesOwn hp (thn (T.done X rfl rfl rfl hc i pins s3 σ3 H3 X.xe I3 (stat fr3) st3 stop) fun r s4 ⟨hr,I4⟩=>?_);subst hr;exact wpAny_execs_nil ⟨σ3,H3,I4,qn⟩
 .refine wpAny_passesOwn hp (thn (T.item X rfl rfl rfl hc i pins s3 σ3 H3 X.xe I3 (stat fr3) st3 go) fun r s4 ⟨u,hr,h4⟩=>?_);subst hr;refine wpAny_passesOwn hp (thn h4 fun _ s5 ⟨x,H5,I5,r5,y5,st5,fr5⟩=>?_);have I5':=I5.pinned (stat fr5) (T.obj _ _ st5);refine wpAny_passesOwn hp (thn (hg _ s5 σ3 H5 x u _ I5' r5 (step x H5 y5)) fun _ s6 ⟨σ6,H6,I6,q6⟩=>?_);refine wpAny_passesOwn hp (thn (hb _ s6 σ6 H6 _ I6 q6) fun f s7 q7=>?_)
  have again: ∀{σ7:St} {H7:Hp},Inv X (pins++mL fp s5.heap) σ7 H7 s7->N σ7 H7-> ∃m,m < n/\ ∃i σ' H',Inv X pins σ' H' s7/\tn i s7.heap/\(∀b∈fp,H' b=none)/\W i m σ' H':=fun {σ7 H7} I7 n7=>by
   obtain⟨m',hm,w7⟩:=hN σ7 H7 n7;refine⟨m',hm,i+1,σ7,H7,I7.unpinned,T.keep _ _ _ st5 fun b hb o e=>(I7.pin (b,o) (mem_append_right _ (mem_append_right _ (sG hb e)))).1,fun b hb=>?_,w7⟩;obtain⟨o,e,d⟩:=T.obj _ _ st5 b hb;exact (I7.pin (b,o) (mem_append_right _ (mem_append_right _ (sG hb e)))).2.1
  cases f with
  | next=>obtain⟨σ7,H7,I7,n7⟩:=q7;exact again I7 n7
  | cont=>obtain⟨σ7,H7,I7,n7⟩:=q7;exact again I7 n7
  | brk=>obtain⟨σ7,H7,I7,q7⟩:=q7;exact⟨σ7,H7,I7.unpinned,q7⟩
  | ret v=>obtain⟨x7,σ7,H7,I7,r7,q7⟩:=q7;exact⟨x7,σ7,H7,I7.unpinned,r7,q7⟩
end
end L2
namespace L2
open PySem PySem.Spec PyProof.Rows
abbrev R2:=V->V->Hp->VK->Prop
def OpR (X:Cx) (f:Value->Value->Sem Value) (r:R2):Prop :=
 ∀ (pins:List (Addr×Obj)) (s:Shared) (σ:St) (H:Hp) (x y:V) (v u:Value) (Q:VK),Inv X pins σ H s->RelV x v->RelV y u->r x y H Q ->
  wpAny (model X.prog X.w) X.A (f v u) (EP X pins σ Q) X.xe s
def UnR (X:Cx) (f:Value->Sem Value) (r:V->Hp->VK->Prop):Prop :=
 ∀ (pins:List (Addr×Obj)) (s:Shared) (σ:St) (H:Hp) (x:V) (v:Value) (Q:VK),Inv X pins σ H s->RelV x v->r x H Q ->
  wpAny (model X.prog X.w) X.A (f v) (EP X pins σ Q) X.xe s
def gD (X:Cx) (f:Value) (r:List V->Hp->VK->Prop):Prop :=
 ∀ (pins:List (Addr×Obj)) (s:Shared) (σ:St) (H:Hp) (xs:List V) (us:List Value) (Q:VK),Inv X pins σ H s->Vals xs us->r xs H Q ->
  wpAny (model X.prog X.w) X.A (call f us) (EP X pins σ Q) X.xe s
def tOp (r:R2) (ta tb:TE):TE:=fun σ H Q=>ta σ H fun x H1=>tb σ H1 fun y H2=>r x y H2 Q
def tUn (r:V->Hp->VK->Prop) (ta:TE):TE:=fun σ H Q=>ta σ H fun x H1=>r x H1 Q
def rI0 (g:Int->Int->V):R2:=fun x y H Q=> ∃i j,x= .int i/\y= .int j/\Q (g i j) H
def rU (g:Int->V):V->Hp->VK->Prop:=fun x H Q=> ∃i,x= .int i/\Q (g i) H
section
variable {X:Cx}{a b c:Expr}{ta tb tc:TE}{pos:Pos}
theorem sH (ha:PE X a ta)(hb:PE X b tb){pins:List (Addr×Obj)}{s:Shared}{σ:St}{H:Hp}{R:V->V->Hp->Prop}(I:Inv X pins σ H s)
  (h:ta σ H fun x H1=>tb σ H1 fun y H2=>R x y H2) {Q:Value->Shared->Prop} {f:Value->Value->Sem Value}
  (hf: ∀v u s2 x y H2,Inv X pins σ H2 s2->RelV x v->RelV y u->R x y H2->wpAny (model X.prog X.w) X.A (f v u) Q X.xe s2) :
  wpAny (model X.prog X.w) X.A (eval a X.env) (fun v s₁=>wpAny (model X.prog X.w) X.A (eval b X.env) (fun u s₂=>wpAny (model X.prog X.w) X.A (f v u) Q X.xe s₂) X.xe s₁) X.xe s:=by
 refine thn (ha pins s σ H _ I h) fun v s1 ⟨x,H1,I1,r1,q1⟩=>?_;refine thn (hb pins s1 σ H1 _ I1 q1) fun u s2 ⟨y,H2,I2,r2,q2⟩=>?_;exact hf v u s2 x y H2 I2 r1 r2 q2
theorem z6 {op:Operator}{r:R2}(ho:OpR X (binaryOp op) r)(ha:PE X a ta)(hb:PE X b tb):PE X (.BinOp a op b pos) (tOp r ta tb):=by
 intro pins s σ H Q I h;exact wpAny_BinOp (sH ha hb I h fun v u s2 x y H2 I2 rx ry q=>ho pins s2 σ H2 x y v u Q I2 rx ry q)
theorem LK {op:UnaryOp}{r:V->Hp->VK->Prop}(ho:UnR X (unaryOp op) r)(ha:PE X a ta):PE X (.UnaryOp op a pos) (tUn r ta):=by
 intro pins s σ H Q I h;exact UnaryOp_ (thn (ha pins s σ H _ I h) fun v s1 ⟨x,H1,I1,r1,q1⟩=>ho pins s1 σ H1 x v Q I1 r1 q1)
theorem LQ {f:Value->Value->Sem Value}{g:Int->Int->Int}
  (rule: ∀ (i j:Int) (t u:Tok) (s:Shared) (Q:Value->Shared->Prop) (E:Value->Shared->Prop),Q (.int (g i j) s.toks) { s with toks:=s.toks+1 }->wpAny (model X.prog X.w) X.A (f (.int i t) (.int j u)) Q E s) :
  OpR X f (rI0 fun i j=>.int (g i j)):=by
 intro pins s σ H x y v u Q I rx ry h;obtain⟨i,j,rfl,rfl,q⟩:=h;obtain⟨t,rfl⟩:=rx;obtain⟨t',rfl⟩:=ry;exact rule i j t t' s _ _ ⟨.int (g i j),H,I.tok _,⟨_,rfl⟩,q⟩
theorem oX {f:Value->Value->Sem Value}{g:Int->Int->Bool}
  (rule: ∀ (i j:Int) (t u:Tok) (s:Shared) (Q:Value->Shared->Prop) (E:Value->Shared->Prop),Q (.bool (g i j)) s->wpAny (model X.prog X.w) X.A (f (.int i t) (.int j u)) Q E s) :
  OpR X f (rI0 fun i j=>.bl (g i j)):=by
 intro pins s σ H x y v u Q I rx ry h;obtain⟨i,j,rfl,rfl,q⟩:=h;obtain⟨t,rfl⟩:=rx;obtain⟨t',rfl⟩:=ry;exact rule i j t t' s _ _ ⟨.bl (g i j),H,I,rfl,q⟩
theorem LR:OpR X (binaryOp .Add) (rI0 fun i j=>.int (i+j)):=LQ fun _ _ _ _ _ _ _ q=>add_int q
theorem unI {f:Value->Sem Value}{g:Int->Int}
  (rule: ∀ (i:Int) (t:Tok) (s:Shared) (Q:Value->Shared->Prop) (E:Value->Shared->Prop),Q (.int (g i) s.toks) { s with toks:=s.toks+1 }->wpAny (model X.prog X.w) X.A (f (.int i t)) Q E s) :
  UnR X f (rU fun i=>.int (g i)):=by
 intro pins s σ H x v Q I rx h;obtain⟨i,rfl,q⟩:=h;obtain⟨t,rfl⟩:=rx;exact rule i t s _ _ ⟨.int (g i),H,I.tok _,⟨_,rfl⟩,q⟩
theorem Ma:UnR X (unaryOp .USub) (rU fun i=>.int (-i)):=unI fun _ _ _ _ _ q=>neg_int q
end
def z7:V->V->Bool
 | .non,.non=>true | .non,.int _=>true | .int _,.non=>true | .non,.bl _=>true | .bl _,.non=>true | .non,.str _=>true | .str _,.non=>true
 | .int _,.int _=>true | .bl _,.bl _=>true | .str _,.str _=>true | .byt _,.byt _=>true
 | .int _,.str _=>true | .str _,.int _=>true | .bl _,.str _=>true | .str _,.bl _=>true
 | _,_=>false
def rEq:R2:=fun x y H Q=>z7 x y=true/\Q (.bl (decide (x=y))) H
def rNe:R2:=fun x y H Q=>z7 x y=true/\Q (.bl (!decide (x=y))) H
theorem z8 {i j:Int}:decide (V.int i=V.int j)=(i==j):=by
 rw[Bool.eq_iff_iff];simp
theorem z9 {i j:Bool}:decide (V.bl i=V.bl j)=(i==j):=by
 rw[Bool.eq_iff_iff];simp
theorem Aa {i j:Str}:decide (V.str i=V.str j)=(i==j):=by
 rw[Bool.eq_iff_iff];simp
theorem Ab {i j:Array UInt8}:decide (V.byt i=V.byt j)=(i.toList==j.toList):=by
 rw[Bool.eq_iff_iff];cases i;cases j;simp
section
variable {X:Cx}{a b c:Expr}{ta tb tc:TE}{pos:Pos}
theorem bM {pins:List (Addr×Obj)}{σ:St}{H:Hp}{s:Shared}{Q:VK}{k k':Bool}(I:Inv X pins σ H s)(q:Q (.bl k) H)(e:k=k'):EP X pins σ Q (.bool k') s:=by
 subst e;exact⟨.bl k,H,I,rfl,q⟩
theorem Mf:OpR X (compareOp .Eq) rEq:=by
 intro pins s σ H x y v u Q I rx ry h;obtain⟨hs,q⟩:=h
 cases x with
 | non =>
  cases rx
  cases y with
  | non=>cases ry;exact PySem.EqNone.eq_none_none (bM I q (by simp))
  | bl j=>cases ry;exact PySem.EqNone.eq_none_bool (bM I q (by simp))
  | int j=>obtain⟨t',rfl⟩:=ry;exact PySem.EqNone.eq_none_int (bM I q (by simp))
  | str j=>obtain⟨t',rfl⟩:=ry;exact PySem.EqNone.eq_none_str (bM I q (by simp))
  | _=>exact absurd (show false=true from hs) Bool.false_ne_true
 | bl i =>
  cases rx
  cases y with
  | non=>cases ry;exact PySem.EqNone.eq_bool_none (bM I q (by simp))
  | bl j=>cases ry;exact eq_bool (bM I q z9)
  | str j=>obtain⟨t',rfl⟩:=ry;exact PySem.EqMixed.eq_bool_str (bM I q (by simp))
  | _=>exact absurd (show false=true from hs) Bool.false_ne_true
 | int i =>
  obtain⟨t,rfl⟩:=rx
  cases y with
  | non=>cases ry;exact PySem.EqNone.eq_int_none (bM I q (by simp))
  | int j=>obtain⟨t',rfl⟩:=ry;exact eq_int (bM I q z8)
  | str j=>obtain⟨t',rfl⟩:=ry;exact PySem.EqMixed.eq_int_str (bM I q (by simp))
  | _=>exact absurd (show false=true from hs) Bool.false_ne_true
 | str i =>
  obtain⟨t,rfl⟩:=rx
  cases y with
  | non=>cases ry;exact PySem.EqNone.eq_str_none (bM I q (by simp))
  | bl j=>cases ry;exact PySem.EqMixed.eq_str_bool (bM I q (by simp))
  | int j=>obtain⟨t',rfl⟩:=ry;exact PySem.EqMixed.eq_str_int (bM I q (by simp))
  | str j=>obtain⟨t',rfl⟩:=ry;exact eq_str (bM I q Aa)
  | _=>exact absurd (show false=true from hs) Bool.false_ne_true
 | byt i =>
  obtain⟨t,rfl⟩:=rx
  cases y with
  | byt j=>obtain⟨t',rfl⟩:=ry;exact PySem.W.eq_bytes (bM I q Ab)
  | _=>exact absurd (show false=true from hs) Bool.false_ne_true
 | _=>cases y<;>exact absurd (show false=true from hs) Bool.false_ne_true
theorem Mg:OpR X (compareOp .NotEq) rNe:=by
 intro pins s σ H x y v u Q I rx ry h;obtain⟨hs,q⟩:=h
 cases x with
 | non =>
  cases rx
  cases y with
  | non=>cases ry;exact PySem.EqNone.ne_none_none (bM I q (by simp))
  | bl j=>cases ry;exact PySem.EqNone.ne_none_bool (bM I q (by simp))
  | int j=>obtain⟨t',rfl⟩:=ry;exact PySem.EqNone.ne_none_int (bM I q (by simp))
  | str j=>obtain⟨t',rfl⟩:=ry;exact PySem.EqNone.ne_none_str (bM I q (by simp))
  | _=>exact absurd (show false=true from hs) Bool.false_ne_true
 | bl i =>
  cases rx
  cases y with
  | non=>cases ry;exact PySem.EqNone.ne_bool_none (bM I q (by simp))
  | bl j=>cases ry;exact ne_bool (bM I q (congrArg not z9))
  | str j=>obtain⟨t',rfl⟩:=ry;exact PySem.EqMixed.ne_bool_str (bM I q (by simp))
  | _=>exact absurd (show false=true from hs) Bool.false_ne_true
 | int i =>
  obtain⟨t,rfl⟩:=rx
  cases y with
  | non=>cases ry;exact PySem.EqNone.ne_int_none (bM I q (by simp))
  | int j=>obtain⟨t',rfl⟩:=ry;exact ne_int (bM I q (congrArg not z8))
  | str j=>obtain⟨t',rfl⟩:=ry;exact PySem.EqMixed.ne_int_str (bM I q (by simp))
  | _=>exact absurd (show false=true from hs) Bool.false_ne_true
 | str i =>
  obtain⟨t,rfl⟩:=rx
  cases y with
  | non=>cases ry;exact PySem.EqNone.ne_str_none (bM I q (by simp))
  | bl j=>cases ry;exact PySem.EqMixed.ne_str_bool (bM I q (by simp))
  | int j=>obtain⟨t',rfl⟩:=ry;exact PySem.EqMixed.ne_str_int (bM I q (by simp))
  | str j=>obtain⟨t',rfl⟩:=ry;exact ne_str (bM I q (congrArg not Aa))
  | _=>exact absurd (show false=true from hs) Bool.false_ne_true
 | byt i =>
  obtain⟨t,rfl⟩:=rx
  cases y with
  | byt j=>obtain⟨t',rfl⟩:=ry;exact PySem.W.ne_bytes (bM I q (congrArg not Ab))
  | _=>exact absurd (show false=true from hs) Bool.false_ne_true
 | _=>cases y<;>exact absurd (show false=true from hs) Bool.false_ne_true
theorem Ac:OpR X (compareOp .Lt) (rI0 fun i j=>.bl (decide (i < j))):=oX fun _ _ _ _ _ _ _ q=>lt_int q
theorem Mh:OpR X (compareOp .LtE) (rI0 fun i j=>.bl (decide (i<=j))):=oX fun _ _ _ _ _ _ _ q=>le_int q
theorem Ad:OpR X (compareOp .Gt) (rI0 fun i j=>.bl (decide (j < i))):=oX fun _ _ _ _ _ _ _ q=>gt_int q
theorem Mi:OpR X (compareOp .GtE) (rI0 fun i j=>.bl (decide (j<=i))):=oX fun _ _ _ _ _ _ _ q=>ge_int q
theorem ji (b:Expr){op:CmpOp}(h:op≠.In:=by decide)(h2:op≠.NotIn:=by decide):behindInMarks op b=false:=by
 have e1:(op==CmpOp.In)=false:=by cases op<;>first | rfl | exact absurd rfl h
 have e2:(op==CmpOp.NotIn)=false:=by cases op<;>first | rfl | exact absurd rfl h2
 cases b<;>simp [behindInMarks,e1,e2]
theorem Ae {op:CmpOp}{r:R2}(ho:OpR X (compareOp op) r)(ha:PE X a ta)(hb:PE X b tb)(hm:behindInMarks op b=false):PE X (.Compare a [op] [b] pos) (tOp r ta tb):=by
 intro pins s σ H Q I h;exact wpAny_Compare1 (sH ha hb I h fun v u s2 x y H2 I2 rx ry q=>ho pins s2 σ H2 x y v u Q I2 rx ry q) hm
def oY (t:TE):TT:=fun σ H Q=>t σ H fun x H'=> ∃k,x= .bl k/\Q k H'
theorem lC {op:CmpOp}{r:R2}(ho:OpR X (compareOp op) r)(ha:PE X a ta)(hb:PE X b tb)(hm:behindInMarks op b=false):PT X (.Compare a [op] [b] pos) (oY (tOp r ta tb)):=by
 intro pins s σ H Q I h
 refine wpAny_isTrue_Compare1 (thn (ha pins s σ H _ I h) fun v s1 ⟨x,H1,I1,r1,q1⟩=>thn (hb pins s1 σ H1 _ I1 q1) fun u s2 ⟨y,H2,I2,r2,q2⟩ =>
  thn (ho pins s2 σ H2 x y v u _ I2 r1 r2 q2) fun c s3 ⟨z,H3,I3,r3,k,e,q3⟩=>?_) hm
 subst e;cases r3;exact wpAny_truthy_bool ⟨H3,I3,q3⟩
theorem sI:(sizeLine:Nat) < 2 ^ 63:=by rw[sizeLine_eq];decide
theorem vals1 {x:V}{us:List Value}(r:Vals [x] us): ∃u,us=[u]/\RelV x u:=by
 cases r with
 | cons r1 r2=>cases r2;exact⟨_,rfl,r1⟩
end
end L2
namespace L2
open PySem PySem.Spec PyProof.Rows
structure jN (h:Heap) (x dx C:Addr) (mA:Str->Option Value):Prop where
 obj:h.get? x=some (instObj C dx)
 ns:h.Ns1 dx mA
 ne:dx≠x
theorem Mj {h:Heap}{dx:Addr}{mA:Str->Option Value}(n:h.Ns1 dx mA): ∃od,h.get? dx=some od/\ ∀name,lookIn name od=some (mA name):=by
 obtain⟨o,es,ep,ho,hd,hk,_,hm⟩:=n;refine⟨o,ho,fun name=>?_⟩;have e:=hm name;unfold nsFind findBy at e;rw[<-Array.find?_toList] at e;unfold lookIn;rw[hd];dsimp only;split
 .rename_i y q
  rw[q] at e;exact congrArg some e
 .rename_i q
  rw[q] at e
  have a:es.toList.any (·.refKey)=false:=by
   rw[any_eq_false];intro y hy;obtain⟨z,t,hkey⟩:=hk y (Array.mem_toList_iff.mp hy);simp [DictEntry.refKey,hkey]
  have a': ¬es.toList.any (·.refKey)=true:=by rw[a];exact Bool.false_ne_true
  rw[if_neg a'];exact congrArg some e
theorem jN.look {h:Heap}{x dx C:Addr}{mA:Str->Option Value}(I:jN h x dx C mA): ∃od,PySem.W.InstAt h x (instObj C dx) C (some od)/\ ∀name,lookIn name od=some (mA name) :=
 let ⟨od,ho,hl⟩:=Mj I.ns
 ⟨od,⟨I.obj,rfl,rfl,ho⟩,hl⟩
section
variable {prog:Program}{w:World}{A:Around}{E:Value->Shared->Prop}{s:Shared}{K:Frag}{x dx C f:Addr}{mA:Str->Option Value}{name:Str}{v:Value}
theorem Ml {expr:Bool}{Q:Value->Shared->Prop}(X:K.In s.heap)(I:jN s.heap x dx C mA)(hg:plainGet K C name=true)(hh:hasDictIn K C=true)
  (ha:findIn K (.ref C) name=some none) (hv:mA name=some v) (hv':handedIn v=true) (h:Q v { s with toks:=s.toks+1 }) :
  wpAny (model prog w) A (getAttr (.ref x) name expr) Q E s:=by
 obtain⟨od,J,hl⟩:=I.look;exact PySem.W.get_value X J (plainGet_of hg).1 (PySem.W.findObj_own hh ha rfl (by rw[hl,hv])) hv' h
theorem Mm {pl:Sem Bool}{Q:Value×List Value->Shared->Prop}(X:K.In s.heap)(I:jN s.heap x dx C mA)(hg:plainGet K C name=true)
  (hf:findIn K (.ref C) name=some (some (.ref f))) (ht:isFn K (.ref f)=true) (hv:mA name=none) (h:Q (.ref f,[.ref x]) s) :
  wpAny (model prog w) A (getMethod (.ref x) name pl) Q E s:=by
 obtain⟨od,J,hl⟩:=I.look;exact PySem.W.method_fn X J (plainGet_of hg).1 (plainGet_of hg).2 hf (beq_iff_eq.mp ht) (by show (lookIn name od).map (·.isSome)=some false;rw[hl,hv];rfl) h
theorem Mp {ns:List Str}{Q:Unit->Shared->Prop}(X:K.In s.heap)(I:jN s.heap x dx C mA)
  (hs:findIn K (.ref C) "__setattr__"=some (some (.builtin "object.__setattr__"))) (hp:plainOver K C=true) (ht:takerIn K C name=some none) (hh:hasDictIn K C=true)
  (hw:PySem.Within mA ns) (hsz:ns.length<=sizeLine)
  (h: ∀h',jN h' x dx C (fun y=>if y=name then some v else mA y)->Heap.SameBut dx s.heap h'->Q () { s with heap:=h',toks:=s.toks+2 }) :
  wpAny (model prog w) A (setAttr (.ref x) name v) Q E s:=by
 obtain⟨od,J,hl⟩:=I.look;refine PySem.W.set_plain X J hs (PySem.W.osa_open (s:={ s with toks:=s.toks+1 }) (r:=none) X J hp ht fun b=>?_);obtain⟨cd,hc,hd'⟩:=PySem.W.any_some hh;have hx:s.heap.get? x=some ⟨.ref C,some dx,.plain,#[]⟩:=I.obj;refine wpAny_bind (wpAny_pure (wpAny_bind (wpAny_bind (wpAny_loadPart hx (wpAny_bind (PySem.W.Looks.here (s:={ s with toks:=s.toks+1 }) (PySem.W.looks_clsIn X hc) ?_))))));rw[hd'];refine wpAny_pure (a:=some dx) (wpAny_bind (wpAny_pure (wpAny_bind ?_)));refine wpAny_nsSet1 (s:={ s with toks:=s.toks+1 }) I.ns fun h' hn2 hs2=>?_;obtain⟨oD,esD,epD,hoD,hdD,hcD⟩:=hn2.count (PySem.Within.cons name v hw);refine wpAny_bind (wpAny_lookBehind hoD (by rw[hdD];exact pastItsLine_dict (Nat.le_trans hcD (by rw[length_cons];omega))) ?_);exact wpAny_pure (h _ ⟨(hs2.2 _ (Ne.symm I.ne)).trans I.obj,hn2,I.ne⟩ hs2)
theorem Mq {R:Result->Shared->Prop}{vs:List Value}{kw:List (Str×Value)}(X:K.In s.heap)(hm:makesIn K C=true)
  (hi:findIn K (.ref C) "__init__"=some (some (.ref f))) (hf:PySem.W.typeIn K (.ref f)=some (.type "function"))
  (h:codeAny (model prog w) (A.under (.builtin "type.__call__" ⟨.ref C::vs,kw⟩)) (.call (.ref f) ⟨.ref (s.heap.objs.size+1)::vs,kw⟩) (PySem.W.InitBack (s.heap.objs.size+1) R)
   { s with heap:=(s.heap.push emptyDict).push (instObj C s.heap.objs.size) }) :
  codeAny (model prog w) A (.call (.ref C) ⟨vs,kw⟩) R s:=by
 obtain⟨hh,g,d,t,os⟩:=s;exact PySem.W.make_core (PySem.W.makes_of X hm) (PySem.W.looks_findIn X hi) (fun self=>PySem.W.bind_fn X self hf) (.inl rfl) h
end
def dh (f:Str) (v:V):List (Str×V)->List (Str×V)
 | []=>[(f,v)]
 | (g,x)::r=>if g=f then (g,v)::r else (g,x)::dh f v r
theorem Af (f g:Str)(v:V): ∀fs:List (Str×V),(dh f v fs).lookup g=if g=f then some v else fs.lookup g
 | []=>by
  show List.lookup g [(f,v)]=_
  by_cases h:g=f
  .have hb:(g==f)=true:=beq_iff_eq.mpr h;simp only[List.lookup,hb,if_pos h]
  .have hb:(g==f)=false:=beq_eq_false_iff_ne.mpr h;simp only[List.lookup,hb,if_neg h]
 | (k,x)::r=>by
  have ih:=Af f g v r;rw[show dh f v ((k,x)::r)=(if k=f then (k,v)::r else (k,x)::dh f v r) from rfl]
  by_cases hk:k=f
  .rw[if_pos hk]
   by_cases h:g=k
   .have hb:(g==k)=true:=beq_iff_eq.mpr h;simp only[List.lookup,hb,if_pos (h.trans hk)]
   .have hb:(g==k)=false:=beq_eq_false_iff_ne.mpr h;simp only[List.lookup,hb,if_neg (fun e:g=f=>h (e.trans hk.symm))]
  .rw[if_neg hk]
   by_cases h:g=k
   .have hb:(g==k)=true:=beq_iff_eq.mpr h;simp only[List.lookup,hb,if_neg (fun e:g=f=>hk (h.symm.trans e))]
   .have hb:(g==k)=false:=beq_eq_false_iff_ne.mpr h;simp only[List.lookup,hb];exact ih
theorem sJ (f:Str)(v:V): ∀fs:List (Str×V),f∈(dh f v fs).map (·.1)/\ ∀g,g∈fs.map (·.1)->g∈(dh f v fs).map (·.1)
 | []=>⟨by simp [dh],fun g h=>by simp at h⟩
 | (k,x)::r=>by
  obtain⟨i1,i2⟩:=sJ f v r;rw[show dh f v ((k,x)::r)=(if k=f then (k,v)::r else (k,x)::dh f v r) from rfl]
  by_cases hk:k=f
  .rw[if_pos hk];subst hk;exact⟨by simp,fun g h=>by simpa using h⟩
  .rw[if_neg hk];refine⟨?_,fun g h=>?_⟩
   .rw[map_cons];exact mem_cons_of_mem _ i1
   .rw[map_cons] at h ⊢;rcases mem_cons.mp h with e | e
    .exact mem_cons.mpr (.inl e)
    .exact mem_cons_of_mem _ (i2 g e)
theorem Ag (f:Str)(v:V): ∀fs:List (Str×V),(dh f v fs).length<=fs.length+1
 | []=>by simp [dh]
 | (k,x)::r=>by
  have ih:=Ag f v r;rw[show dh f v ((k,x)::r)=(if k=f then (k,v)::r else (k,x)::dh f v r) from rfl]
  by_cases hk:k=f
  .rw[if_pos hk,length_cons,length_cons];omega
  .rw[if_neg hk,length_cons,length_cons];omega
theorem d7.some_of {v:V}{o:Option Value}(r:d7 (some v) o): ∃u,o=some u/\RelV v u:=by
 cases o with
 | none=>exact (show False from r).elim
 | some u=>exact⟨u,rfl,r⟩
theorem d7.none_of {o:Option Value}(r:d7 none o):o=none:=by
 cases o with
 | none=>rfl
 | some u=>exact (show False from r).elim
theorem Mr {v:V}{u:Value}(r:RelV v u):handedIn u=true:=by
 cases v with
 | non=>cases (show u=Value.none from r);rfl
 | bl b=>cases (show u=Value.bool b from r);rfl
 | int i=>obtain⟨t,e⟩:=(show ∃t,u=Value.int i t from r);cases e;rfl
 | str x=>obtain⟨t,e⟩:=(show ∃t,u=Value.str x t from r);cases e;rfl
 | byt b=>obtain⟨t,e⟩:=(show ∃t,u=Value.bytes b t from r);cases e;rfl
 | flt b=>obtain⟨t,e⟩:=(show ∃t,u=Value.float b t from r);cases e;rfl
 | ref a=>cases (show u=Value.ref a from r);rfl
 | ty n=>cases (show u=Value.type n from r);rfl
section
variable {P:Program}{w:World}{H H':Hp}{h h':Heap}{a C dx:Addr}{fs fs':List (Str×V)}
theorem sO (hok:HOk P w H h)(e:H a=some (.ins C dx fs)): ∃mA,jN h a dx C mA/\(∀f,d7 (fs.lookup f) (mA f))/\PySem.Within mA (fs.map (·.1))/\fs.length<=1000/\H dx=some (.own a):=by
 obtain⟨d,z,ne,ob,mA,n,r,q⟩:=(show cB P w H h a (.ins C dx fs) from hok a _ e)
 exact⟨mA,⟨ob,n,ne⟩,r,q,z,d⟩
end
structure Cls (K:Frag) (C:Addr):Prop where
 pg:plainGet K C Str.empty=true
 hd:hasDictIn K C=true
 po:plainOver K C=true
 sa:findIn K (.ref C) "__setattr__"=some (some (.builtin "object.__setattr__"))
theorem Cls.get {K:Frag}{C:Addr}(c:Cls K C)(f:Str):plainGet K C f=true:=c.pg
def cR (K:Frag) (C:Addr) (f:Str):Prop:=findIn K (.ref C) f=some none
theorem cR.taker {K:Frag}{C:Addr}{f:Str}(n:cR K C f):takerIn K C f=some none:=by
 unfold takerIn;rw[show findIn K (.ref C) f=some none from n];rfl
structure Meth (K:Frag) (C:Addr) (m:Str) (f:Addr):Prop where
 at_:findIn K (.ref C) m=some (some (.ref f))
 fn:isFn K (.ref f)=true
 kp:keepIn K (.ref f)=true
section
variable {X:Cx}{pins:List (Addr×Obj)}{σ:St}{H:Hp}{s:Shared}{a C dx:Addr}{fs:List (Str×V)}{f:Str}{v:V}{A:Around}{E:Value->Shared->Prop}
theorem Ah {b:Bool}{Q:Value->Shared->Prop}(I:Inv X pins σ H s)(e:H a=some (.ins C dx fs))(c:Cls X.K C)(n:cR X.K C f)(l:fs.lookup f=some v)
  (h: ∀u s',Inv X pins σ H s'->RelV v u->Q u s'):wpAny (model X.prog X.w) A (getAttr (.ref a) f b) Q E s:=by
 obtain⟨mA,O,r,_,_,_⟩:=sO I.hok e;obtain⟨u,hu,ru⟩:=d7.some_of (v:=v) (o:=mA f) (by rw[<-l];exact r f);exact Ml I.kIn O (c.get f) c.hd n hu (Mr ru) (h u _ (I.tok _) ru)
theorem Ai {m:Str}{g:Addr}{pl:Sem Bool}{Q:Value×List Value->Shared->Prop}(I:Inv X pins σ H s)(e:H a=some (.ins C dx fs))(c:Cls X.K C)(k:Meth X.K C m g)(l:fs.lookup m=none)
  (h:Q (.ref g,[.ref a]) s):wpAny (model X.prog X.w) A (getMethod (.ref a) m pl) Q E s:=by
 obtain⟨mA,O,r,_,_,_⟩:=sO I.hok e;have hn:mA m=none:=d7.none_of (by rw[<-l];exact r m);exact Mm I.kIn O (c.get m) k.at_ k.fn hn h
theorem Aj {y:V}{u:Value}{Q:Unit->Shared->Prop}(I:Inv X pins σ H s)(e:H a=some (.ins C dx fs))(c:Cls X.K C)(n:cR X.K C f)(hl:fs.length < 1000)(ry:RelV y u)
  (h: ∀s',Inv X pins σ (upd H a (.ins C dx (dh f y fs))) s'->Q () s'):wpAny (model X.prog X.w) A (setAttr (.ref a) f u) Q E s:=by
 obtain⟨mA,O,r,wi,_,ho⟩:=sO I.hok e
 have hz:(fs.map (·.1)).length<=sizeLine:=by rw[length_map,sizeLine_eq];omega
 refine Mp I.kIn O c.sa c.po n.taker c.hd wi hz fun h' O' sb=>h _ ?_
 have hd: ∃o,h'.get? dx=some o:=let ⟨o,_,_,e',_⟩:=O'.ns;⟨o,e'⟩
 refine I.write (x:=a) (e:=dx) (by rw[e];exact True.intro) (.inr ho) (fun b q hb z=>(sb.2 b hb).trans z) hd ?_;refine⟨by rw[bc O.ne];exact ho,?_,O.ne,O'.obj,_,O'.ns,fun g=>?_,fun g hg=>?_⟩
 .have:=Ag f y fs;omega
 .show d7 ((dh f y fs).lookup g) (if g=f then some u else mA g);rw[Af]
  by_cases q:g=f
  .rw[if_pos q,if_pos q];exact ry
  .rw[if_neg q,if_neg q];exact r g
 .by_cases q:g=f
  .rw[q];exact (sJ f y fs).1
  .refine (sJ f y fs).2 g (wi g fun z=>hg ?_);show (if g=f then some u else mA g)=none;rw[if_neg q];exact z
theorem Inv.made (I:Inv X pins σ H s):Inv X pins σ (upd (upd H s.heap.objs.size (.own (s.heap.objs.size+1))) (s.heap.objs.size+1) (.ins C s.heap.objs.size []))
  { s with heap:=(s.heap.push emptyDict).push (instObj C s.heap.objs.size) }:=by
 have e1:(s.heap.push emptyDict).get? s.heap.objs.size=some emptyDict:=Heap.get?_push_size s.heap rfl
 have e2:((s.heap.push emptyDict).push (instObj C s.heap.objs.size)).get? (s.heap.objs.size+1)=some (instObj C s.heap.objs.size):=by
  have:=Heap.get?_push_size (s.heap.push emptyDict) (o:=instObj C s.heap.objs.size) rfl
  rwa [Heap.size_push] at this
 have e3:(s.heap.push emptyDict).Ns s.heap.objs.size (fun _=>none):=⟨emptyDict,#[],_,e1,rfl,(fun e he=>absurd he (by simp)),fun _=>rfl⟩
 have I1:=I.laid (a:=s.heap.objs.size) (o:=.own (s.heap.objs.size+1)) (h':=s.heap.push emptyDict) (t':=s.toks) (fun b u q=>Heap.get?_push_of_some _ q) (Nat.le_refl _) ⟨_,e1⟩;refine I1.laid (a:=s.heap.objs.size+1) (o:=.ins C s.heap.objs.size []) (t':=s.toks) (fun b u q=>Heap.get?_push_of_some _ q) (Nat.le_of_eq (Heap.size_push _ _)) ?_;have ne:s.heap.objs.size≠s.heap.objs.size+1:=Nat.ne_of_lt (Nat.lt_succ_self _);refine⟨by rw[bc ne,dC],Nat.zero_le _,ne,e2,fun _=>none,(Heap.Ns1.of_empty e3).at fun o q=>Heap.get?_push_of_some _ q,fun _=>True.intro,fun y hy=>absurd rfl hy⟩
theorem Ms {prog:Program}{w:World}{env:Env}{e:Expr}{f:Str}{pos:Pos}{s:Shared}{Q:Value->Shared->Prop}(hb:attributeBase e f env (eval e env)=eval e env)
  (h:wpAny (model prog w) A (eval e env) (fun o s₁=>wpAny (model prog w) A (getAttr o f true) Q E s₁) E s):wpAny (model prog w) A (eval (.Attribute e f pos) env) Q E s :=
 Attribute_any_ h (by rw[arm_eval_Attribute,hb])
end
def oZ (K:Frag) (ta:TE) (f:Str):TE:=fun σ H Q=>ta σ H fun x H1=> ∃a C dx fs v,x= .ref a/\H1 a=some (.ins C dx fs)/\Cls K C/\cR K C f/\fs.lookup f=some v/\Q v H1
def Ak (K:Frag) (ta tv:TE) (f:Str):TS:=fun D σ H=>tv σ H fun y H1=>ta σ H1 fun x H2=> ∃a C dx fs,x= .ref a/\H2 a=some (.ins C dx fs)/\Cls K C/\cR K C f/\fs.length < 1000 /\
 D.nx σ (upd H2 a (.ins C dx (dh f y fs)))
def Al (X:Cx) (op:Operator) (rd:V->V->Hp->VK->Prop):Prop :=
 ∀ (pins:List (Addr×Obj)) (s:Shared) (σ:St) (H:Hp) (x y:V) (u v:Value) (Q:VK),Inv X pins σ H s->RelV x u->RelV y v->rd x y H Q->wpAny (model X.prog X.w) X.A (inplaceOp op u v) (EP X pins σ Q) X.xe s
def Am (K:Frag) (ta tv:TE) (rd:V->V->Hp->VK->Prop) (f:Str):TS:=fun D σ H=>ta σ H fun x H1=> ∃a C dx fs v,x= .ref a/\H1 a=some (.ins C dx fs)/\Cls K C/\cR K C f/\fs.lookup f=some v /\
 tv σ H1 fun y H2=>rd v y H2 fun z H3=> ∃dx' fs',H3 a=some (.ins C dx' fs')/\fs'.length < 1000/\D.nx σ (upd H3 a (.ins C dx' (dh f z fs')))
section
variable {X:Cx}{o e value:Expr}{f:Str}{pos pos' tpos:Pos}{ta tv:TE}
theorem sS (he:PE X e ta)(hb:attributeBase e f X.env (eval e X.env)=eval e X.env):PE X (.Attribute e f pos) (oZ X.K ta f):=by
 intro pins s σ H Q I h;refine Ms hb (thn (he pins s σ H _ I h) fun u s1 ⟨x,H1,I1,rx,a,C,dx,fs,v,ex,ea,c,n,l,q⟩=>?_);subst ex;obtain rfl:u=Value.ref a:=rx
 exact Ah I1 ea c n l fun u' s2 I2 ru=>⟨v,H1,I2,ru,q⟩
theorem Mt (ha:PE X o ta)(hv:PE X value tv)(hs:swapsWith value (some (.Attribute o f pos')) pos.line X.env=pure false):PS X (.Assign [.Attribute o f pos'] value pos) (Ak X.K ta tv f):=by
 intro pins s σ H D I h;refine plainObj_wpAny_Assign_Attribute (thn (hv pins s σ H _ I h) fun u s1 ⟨y,H1,I1,ry,q⟩=>thn (ha pins s1 σ H1 _ I1 q) fun ov s2 ⟨x,H2,I2,rx,a,C,dx,fs,ex,ea,c,n,l,q2⟩=>?_) hs;subst ex;obtain rfl:ov=Value.ref a:=rx
 exact Aj I2 ea c n l ry fun s3 I3=>⟨σ,_,I3,q2⟩
theorem Mu {op:Operator}{rd:V->V->Hp->VK->Prop}(ha:PE X o ta)(hv:PE X value tv)(hop:Al X op rd):PS X (.AugAssign (.Attribute o f tpos) op value pos) (Am X.K ta tv rd f):=by
 intro pins s σ H D I h;refine wpAny_AugAssign_AttributeAny (thn (ha pins s σ H _ I h) fun ov s1 ⟨x,H1,I1,rx,a,C,dx,fs,v,ex,ea,c,n,l,q⟩=>?_);subst ex;obtain rfl:ov=Value.ref a:=rx;refine Ah I1 ea c n l fun u s2 I2 ru=>thn (hv pins s2 σ H1 _ I2 q) fun w3 s3 ⟨y,H2,I3,ry,q3⟩=>thn (hop pins s3 σ H2 v y u w3 _ I3 ru ry q3) fun w4 s4 ⟨z,H3,I4,rz,dx',fs',ea',l',q4⟩=>?_
 exact Aj I4 ea' c n l' rz fun s5 I5=>⟨σ,_,I5,q4⟩
def Ao:V->V->Hp->VK->Prop:=fun x y H Q=> ∃i j,x= .int i/\y= .int j/\Q (.int (i+j)) H
theorem Mv:Al X .Add Ao:=by
 rintro pins s σ H x y u v Q I rx ry ⟨i,j,rfl,rfl,q⟩
 obtain⟨t,rfl⟩:=(show ∃t,u=Value.int i t from rx)
 obtain⟨t',rfl⟩:=(show ∃t',v=Value.int j t' from ry)
 exact PyProof.Rows.iadd_int ⟨.int (i+j),H,I.tok _,⟨_,rfl⟩,q⟩
end
end L2
namespace L2
open PySem PySem.Spec PyProof.Rows
structure aR (k:Nat) (A:Around):Prop where
 hd:A.handled=none
 dp:A.depth+3 * k+5 < recursionLimit
 un:A.units+16 * k+200 < cLine
theorem aR.mono {j k:Nat}{A:Around}(r:aR k A)(h:j<=k):aR j A:=⟨r.hd,by have:=r.dp;omega,by have:=r.un;omega⟩
theorem aR.deeper {k:Nat}{A:Around}(r:aR (k+1) A)(env:Env):aR k (A.deeper env) :=
 ⟨r.hd,by have:=r.dp;show A.depth+1+3 * k+5 < _;omega,by have:=r.un;show A.units+3+16 * k+200 < _;omega⟩
theorem Mw {A:Around}{C:Addr}{us:List Value}{kw:List (Str×Value)}:(A.under (.builtin "type.__call__" ⟨.ref C::us,kw⟩)).depth=A.depth+1:=by
 first | rfl | simp [Around.under,Code.weight,Code.isCreation,Code.isGuard,Code.isCaller,Code.frames,Code.isFrame,guardIds]
theorem Mx {A:Around}{C:Addr}{us:List Value}{kw:List (Str×Value)}:(A.under (.builtin "type.__call__" ⟨.ref C::us,kw⟩)).units=A.units+1:=by
 first | rfl | simp [Around.under,Code.cUnits,Code.frames,Code.isFrame]
theorem aR.make {k:Nat}{A:Around}(r:aR (k+1) A)(C:Addr)(us:List Value)(kw:List (Str×Value)):aR k (A.under (.builtin "type.__call__" ⟨.ref C::us,kw⟩)) :=
 ⟨r.hd,by have:=r.dp;rw[Mw];omega,by have:=r.un;rw[Mx];omega⟩
theorem aR.depth {k:Nat}{A:Around}(r:aR k A):A.depth < recursionLimit:=by have:=r.dp;omega
theorem aR.units {k:Nat}{A:Around}(r:aR k A):A.units+64 < cLine:=by have:=r.un;omega
def gF:TA:=fun _ H Q=>Q [] H
def lD (ta:TE) (tr:TA):TA:=fun σ H Q=>ta σ H fun x H1=>tr σ H1 fun xs H2=>Q (x::xs) H2
section
variable {X:Cx}{e:Expr}{es:List Expr}{te:TE}{t:TA}{pos:Pos}
theorem cM:PA X [] gF:=fun _ _ _ _ H Q I h=>Calls.spliced_nil ⟨[],H,I,.nil,h⟩
theorem cH (ha:PE X e te)(hr:PA X es t)(hs:starEach (e::es) X.env=(false,eval e X.env)::starEach es X.env:=by rfl):PA X (e::es) (lD te t):=by
 intro pos pins s σ H Q I h;rw[hs];show wpAny _ _ (spliced ((false,eval e X.env)::backTo pos (starEach es X.env))) _ _ s;refine Calls.spliced_cons (thn (ha pins s σ H _ I h) fun u s1 ⟨x,H1,I1,r1,q1⟩=>?_)
 exact thn (hr pos pins s1 σ H1 _ I1 q1) fun us s2 ⟨xs,H2,I2,r2,q2⟩=>⟨x::xs,H2,I2,.cons r1 r2,q2⟩
def My (t:TA):TE:=fun σ H Q=>t σ H fun xs H1=>xs.length<=sizeLine/\ ∀p,H1 p=none->Q (.ref p) (upd H1 p (.tup xs))
def Mz (t:TA):TE:=fun σ H Q=>t σ H fun xs H1=>xs.length<=sizeLine/\ ∀p,H1 p=none->Q (.ref p) (upd H1 p (.lst xs))
theorem MF {x1}(h:PA X es t):PE X (.Tuple es x1 pos) (My t):=by
 intro pins s σ H Q I hq;refine wpAny_Tuple_spliced (thn (h pos pins s σ H _ I hq) fun us s1 ⟨xs,H1,I1,r,z,q⟩=>⟨by rw[<-r.length];exact z,?_⟩);have hf:H1 s1.heap.objs.size=none:=I1.hok.fresh (Nat.le_refl _);refine⟨.ref s1.heap.objs.size,upd H1 s1.heap.objs.size (.tup xs),I1.laid (t':=s1.toks) (fun b u e=>Heap.get?_push_of_some _ e) (Nat.le_refl _) ?_,rfl,q _ hf⟩;exact⟨z,us,r,⟨_,Heap.get?_push_size _ rfl,rfl,_,rfl⟩⟩
theorem MJ (h:PA X es t):PE X (.List es pos) (Mz t):=by
 intro pins s σ H Q I hq;refine wpAny_List_spliced (thn (h pos pins s σ H _ I hq) fun us s1 ⟨xs,H1,I1,r,z,q⟩=>⟨by rw[<-r.length];exact z,?_⟩);have hf:H1 s1.heap.objs.size=none:=I1.hok.fresh (Nat.le_refl _);refine⟨.ref s1.heap.objs.size,upd H1 s1.heap.objs.size (.lst xs),I1.laid (t':=s1.toks) (fun b u e=>Heap.get?_push_of_some _ e) (Nat.le_refl _) ?_,rfl,q _ hf⟩;exact⟨z,us,0,r,Heap.get?_push_size _ rfl⟩
end
abbrev Sp:=List V->Hp->VK->XK->Prop
abbrev CXT:=List Env->Hp->Shared->XK->Value->Shared->Prop
structure jO (P:Program) (w:World) (K:Frag) (mg:Str->Option Value) (base:Heap) (A:Around) (outer:List Env) (s:Shared) (H:Hp):Prop where
 frames:A.frames=some outer
 mod:Mod K mg base
 bs: ∀b o,base.get? b=some o->s.heap.get? b=some o/\H b=none
 bsz:base.objs.size<=s.heap.objs.size
 funs:s.heap.FunFrames base outer
 frf: ∀b∈frs outer,H b=none
 hok:HOk P w H s.heap
 bare:AllBare s.gens
def CE (outer:List Env) (P:Program) (w:World) (H:Hp) (s:Shared) (Q:VK) (u:Value) (s':Shared):Prop :=
 ∃v H',s'.os=s.os/\AllBare s'.gens/\Un (frs outer) [] H H' s.heap s'.heap/\HOk P w H' s'.heap/\RelV v u/\Q v H'
def CR (CX:CXT) (outer:List Env) (P:Program) (w:World) (H:Hp) (s:Shared) (Q:VK) (E:XK) (r:Result) (s':Shared):Prop :=
 match r with
 | .ok (.ret u)=>CE outer P w H s Q u s'
 | .ok _=>False
 | .error e=>CX outer H s E e s'
structure au (P:Program) (w:World) (K:Frag) (mg:Str->Option Value) (base:Heap) (CX:CXT) (k:Nat) (f:Addr) (fd:FuncData) (ps:List Str) (sp:Sp):Prop where
 len: ∀vs H Q E,sp vs H Q E->vs.length=ps.length
 run: ∀ (A:Around) (outer:List Env) (s:Shared) (H:Hp) (args:Args) (us:List Value) (vs:List V) (Q:VK) (E:XK),aR k A->jO P w K mg base A outer s H->BindsTo s fd args (ps.zip us)->Vals vs us->sp vs H Q E ->
  codeAny (model P w) A (.call (.ref f) args) (CR CX outer P w H s Q E) s
theorem au.mono {P:Program}{w:World}{K:Frag}{mg:Str->Option Value}{base:Heap}{CX:CXT}{j k:Nat}{f:Addr}{fd:FuncData}{ps:List Str}{sp:Sp}(F:au P w K mg base CX j f fd ps sp)(h:j<=k) :
  au P w K mg base CX k f fd ps sp:=⟨F.len,fun A outer s H args us vs Q E hr=>F.run A outer s H args us vs Q E (hr.mono h)⟩
theorem au.imp {P:Program}{w:World}{K:Frag}{mg:Str->Option Value}{base:Heap}{CX:CXT}{k:Nat}{f:Addr}{fd:FuncData}{ps:List Str}{sp sp':Sp}(F:au P w K mg base CX k f fd ps sp)
  (h: ∀vs H Q E,sp' vs H Q E->sp vs H Q E):au P w K mg base CX k f fd ps sp' :=
 ⟨fun vs H Q E q=>F.len vs H Q E (h _ _ _ _ q),fun A outer s H args us vs Q E hr he hb hv hs=>F.run A outer s H args us vs Q E hr he hb hv (h _ _ _ _ hs)⟩
theorem jO.make {P:Program}{w:World}{K:Frag}{mg:Str->Option Value}{base:Heap}{A:Around}{outer:List Env}{s:Shared}{H:Hp}(e:jO P w K mg base A outer s H)(C:Addr)(us:List Value)(kw:List (Str×Value)) :
  jO P w K mg base (A.under (.builtin "type.__call__" ⟨.ref C::us,kw⟩)) outer s H:=⟨by first | exact e.frames | (simpa [Around.under,Code.envs,Code.isFrame,pushEnvs] using e.frames),e.mod,e.bs,e.bsz,e.funs,e.frf,e.hok,e.bare⟩
section
variable {X:Cx}{pins:List (Addr×Obj)}{σ:St}{H:Hp}{s s':Shared}
theorem Inv.env0 (I:Inv X pins σ H s):jO X.prog X.w X.K X.mg X.base X.A X.stack s H :=
 ⟨I.ok.frames,I.ok.mod,I.bs,Nat.le_trans I.ok.bsz I.sz,I.stack,I.stkFree,I.hok,I.bare⟩
theorem Inv.after {Q:VK}{u:Value}(I:Inv X pins σ H s)(h:CE X.stack X.prog X.w H s Q u s'):EP X pins σ Q u s':=by
 obtain⟨v,H',os,bare,un,hok,r,q⟩:=h;obtain⟨hh,g,d,t,os'⟩:=s';obtain rfl:os'=s.os:=os;exact⟨v,H',I.call (h':=hh) (g':=g) (d':=d) (t':=t) (ch:=[]) un hok bare (fun b z=>absurd z (by simp)),r,q⟩
end
def jj (sp:Sp) (dvs:List V) (E:XK) (t:TA):TE:=fun σ H Q=>t σ H fun vs H1=>sp (vs++dvs) H1 Q E
def o9 (C:Addr) (m:Str) (sp:Sp) (dvs:List V) (E:XK) (ta:TE) (t:TA):TE:=fun σ H Q=>ta σ H fun x H1=> ∃a dx fs,x= .ref a/\H1 a=some (.ins C dx fs)/\fs.lookup m=none /\
 t σ H1 fun vs H2=>sp (x::(vs++dvs)) H2 Q E
def mO (C:Addr) (sp:Sp) (dvs:List V) (E:XK) (t:TA):TE:=fun σ H Q=>t σ H fun vs H1=> ∀x dx,H1 x=none->H1 dx=none->dx≠x ->
 sp (.ref x::(vs++dvs)) (upd (upd H1 dx (.own x)) x (.ins C dx [])) (fun v H2=>v= .non/\Q (.ref x) H2) E
def Binds (K:Frag) (fd:FuncData) (ps:List Str) (ds:List Value):Prop :=
 ∀ (s:Shared) (us:List Value),K.In s.heap->(us++ds).length=ps.length->BindsTo s fd ⟨us,[]⟩ (ps.zip (us++ds))
theorem Binds.all {K:Frag}{fd:FuncData}{ps:List Str}(h: ∀us:List Value,us.length=ps.length->bindArgs fd ⟨us,[]⟩=pure (ps.zip us)):Binds K fd ps []:=fun s us _ hl=>by
 rw[append_nil] at hl ⊢;exact .of_eq (h us hl)
def jk (CX:CXT) (X:Cx) (E:XK):Prop:= ∀ (pins:List (Addr×Obj)) (σ:St) (H:Hp) (s:Shared) (e:Value) (s':Shared),Inv X pins σ H s->CX X.stack H s E e s'->X.xe e s'
section
variable {X:Cx}{CX:CXT}{k:Nat}{f C:Addr}{fd:FuncData}{ps:List Str}{sp:Sp}{dvs:List V}{ds:List Value}{E:XK}{x m:Str}{p pos apos:Pos}{e o:Expr}{es:List Expr}{ta:TE}{t:TA}
theorem ph {pins:List (Addr×Obj)}{σ:St}{H:Hp}{s:Shared}{Q:VK}{us:List Value}{vs:List V}(F:au X.prog X.w X.K X.mg X.base CX k f fd ps sp)(hr:aR k X.A)(hb:Binds X.K fd ps ds)(hd:Vals dvs ds)(hx:jk CX X E)
  (I:Inv X pins σ H s) (r:Vals vs us) (h:sp (vs++dvs) H Q E):wpAny (model X.prog X.w) X.A (call (.ref f) us) (EP X pins σ Q) X.xe s:=by
 have r2:Vals (vs++dvs) (us++ds):=r.append hd
 have hl:(us++ds).length=ps.length:=by rw[<-r2.length];exact F.len _ _ _ _ h
 refine wpAny_call (codeAny_mono (F.run X.A X.stack s H ⟨us,[]⟩ (us++ds) (vs++dvs) Q E hr I.env0 (hb s us I.kIn hl) r2 h) fun r s' hq=>?_)
 cases r with
 | error e=>exact hx pins σ H s e s' I hq
 | ok fl =>
  cases fl with
  | ret u=>exact I.after hq
  | next=>exact False.elim hq
  | brk=>exact False.elim hq
  | cont=>exact False.elim hq
theorem jP (F:au X.prog X.w X.K X.mg X.base CX k f fd ps sp)(hr:aR k X.A)(hg:Gl X x)(hm:X.mg x=some (.ref f))(hk:keepIn X.K (.ref f)=true)(hb:Binds X.K fd ps ds)(hd:Vals dvs ds)(hx:jk CX X E)
  (ha:PA X (e::es) t) (hdb:(x==("__debug__":Str))=false:=by decide) (he:starEach (e::es) X.env=(false,eval e X.env)::starEach es X.env:=by rfl) (hpl:(backTo pos (starEach es X.env)).any (·.1)=false:=by rfl) :
  PE X (.Call (.Name x p) (e::es) [] pos) (jj sp dvs E t):=by
 intro pins s σ H Q I h;refine wpAny_Call_Name_kw (oV I hg hm ?_ hdb);refine callWith_K (h₀:=X.base) I.ok.mod.kin hk (thn (ha pos pins s σ H _ I h) fun us s1 ⟨vs,H1,I1,r,q⟩=>⟨I1.kIn,?_⟩) he hpl;exact ph F hr hb hd hx I1 r q
theorem Ym {pl:Sem Bool}(he:PE X o ta)(c:Cls X.K C)(hm:Meth X.K C m f)(F:au X.prog X.w X.K X.mg X.base CX k f fd ps sp)(hr:aR k X.A)(hb:Binds X.K fd ps ds)(hd:Vals dvs ds)(hx:jk CX X E)(ha:PA X (e::es) t)
  (hst:starEach (e::es) X.env=(false,eval e X.env)::starEach es X.env:=by rfl) (hpl:(backTo pos (starEach es X.env)).any (·.1)=false:=by rfl)
  (ht:eval (.Call (.Attribute o m apos) (e::es) [] pos) X.env=(do
   let ov <-eval o X.env
   standAt apos.atName
   let (f,first) <-holding [ov] (getMethod ov m pl)
   callWith pos f first (backTo pos (starEach (e::es) X.env)) (backToKw pos (keywordEach [] X.env))):=by rfl) :
  PE X (.Call (.Attribute o m apos) (e::es) [] pos) (o9 C m sp dvs E ta t):=by
 intro pins s σ H Q I h;refine PySem.W.methodCall_KW (pl:=pl) (thn (he pins s σ H _ I h) fun u s1 ⟨x,H1,I1,rx,a,dx,fs,ex,ea,l,q⟩=>?_) ht;subst ex;obtain rfl:u=Value.ref a:=rx;refine Ai I1 ea c hm l ?_;refine callWith_K (first:=[.ref a]) (h₀:=X.base) I.ok.mod.kin hm.kp (thn (ha pos pins s1 σ H1 _ I1 q) fun us s2 ⟨vs,H2,I2,r,q2⟩=>⟨I2.kIn,?_⟩) hst hpl;exact ph (us:=.ref a::us) (vs:=.ref a::vs) F hr hb hd hx I2 (.cons rfl r) q2
theorem Aq {pl:Sem Bool}(he:PE X o ta)(c:Cls X.K C)(hm:Meth X.K C m f)(F:au X.prog X.w X.K X.mg X.base CX k f fd ps sp)(hr:aR k X.A)(hb:Binds X.K fd ps ds)(hd:Vals dvs ds)(hx:jk CX X E)
  (ht:eval (.Call (.Attribute o m apos) [] [] pos) X.env=(do
   let ov <-eval o X.env
   standAt apos.atName
   let (f,first) <-holding [ov] (getMethod ov m pl)
   callWith pos f first (backTo pos (starEach [] X.env)) (backToKw pos (keywordEach [] X.env))):=by rfl) :
  PE X (.Call (.Attribute o m apos) [] [] pos) (o9 C m sp dvs E ta gF):=by
 intro pins s σ H Q I h;refine PySem.W.methodCall_KW (pl:=pl) (thn (he pins s σ H _ I h) fun u s1 ⟨x,H1,I1,rx,a,dx,fs,ex,ea,l,q⟩=>?_) ht;subst ex;obtain rfl:u=Value.ref a:=rx;refine Ai I1 ea c hm l ?_;exact callWith_K0 (first:=[.ref a]) I1.kIn hm.kp (ph (us:=[.ref a]) (vs:=[.ref a]) F hr hb hd hx I1 (.cons rfl .nil) q)
structure Mk (K:Frag) (C f:Addr):Prop where
 makes:makesIn K C=true
 init:findIn K (.ref C) "__init__"=some (some (.ref f))
 fn:isFn K (.ref f)=true
 kp:keepIn K (.ref C)=true
theorem Ar {pins:List (Addr×Obj)}{σ:St}{H:Hp}{s:Shared}{Q:VK}{us:List Value}{vs:List V}(M:Mk X.K C f)(F:au X.prog X.w X.K X.mg X.base CX k f fd ps sp)(hr:aR (k+1) X.A)(hb:Binds X.K fd ps ds)(hd:Vals dvs ds)
  (hx:jk CX X E) (I:Inv X pins σ H s) (r:Vals vs us)
  (h: ∀x dx,H x=none->H dx=none->dx≠x->sp (.ref x::(vs++dvs)) (upd (upd H dx (.own x)) x (.ins C dx [])) (fun v H2=>v= .non/\Q (.ref x) H2) E) :
  wpAny (model X.prog X.w) X.A (call (.ref C) us) (EP X pins σ Q) X.xe s:=by
 have hq:=h (s.heap.objs.size+1) s.heap.objs.size (I.hok.fresh (Nat.le_succ _)) (I.hok.fresh (Nat.le_refl _)) (Nat.ne_of_lt (Nat.lt_succ_self _));have I2:=Inv.made (C:=C) I;have r2:Vals (V.ref (s.heap.objs.size+1)::(vs++dvs)) (Value.ref (s.heap.objs.size+1)::(us++ds)):=.cons rfl (r.append hd)
 have hl:(Value.ref (s.heap.objs.size+1)::us++ds).length=ps.length:=by
  have e:=r2.length;rw[F.len _ _ _ _ hq] at e;exact e.symm
 refine wpAny_call (Mq (f:=f) I.kIn M.makes M.init (beq_iff_eq.mp M.fn) (codeAny_mono (F.run _ X.stack _ _ ⟨Value.ref (s.heap.objs.size+1)::us,[]⟩ (Value.ref (s.heap.objs.size+1)::(us++ds)) _ _ E (hr.make C us [])
  (I2.env0.make C us []) (hb _ (Value.ref (s.heap.objs.size+1)::us) I2.kIn hl) r2 hq) fun r s' hq'=>?_))
 cases r with
 | error e=>exact hx pins σ _ _ e s' I2 hq'
 | ok fl =>
  cases fl with
  | ret u =>
   obtain⟨v,H',I3,rv,ev,q3⟩:=I2.after hq';subst ev;exact⟨rv,⟨V.ref (s.heap.objs.size+1),H',I3,rfl,q3⟩⟩
  | next=>exact False.elim hq'
  | brk=>exact False.elim hq'
  | cont=>exact False.elim hq'
theorem Av (M:Mk X.K C f)(F:au X.prog X.w X.K X.mg X.base CX k f fd ps sp)(hr:aR (k+1) X.A)(hg:Gl X x)(hm:X.mg x=some (.ref C))(hb:Binds X.K fd ps ds)(hd:Vals dvs ds)(hx:jk CX X E)
  (ha:PA X (e::es) t) (hdb:(x==("__debug__":Str))=false:=by decide) (he:starEach (e::es) X.env=(false,eval e X.env)::starEach es X.env:=by rfl) (hpl:(backTo pos (starEach es X.env)).any (·.1)=false:=by rfl) :
  PE X (.Call (.Name x p) (e::es) [] pos) (mO C sp dvs E t):=by
 intro pins s σ H Q I h;refine wpAny_Call_Name_kw (oV I hg hm ?_ hdb);refine callWith_K (h₀:=X.base) I.ok.mod.kin M.kp (thn (ha pos pins s σ H _ I h) fun us s1 ⟨vs,H1,I1,r,q⟩=>⟨I1.kIn,?_⟩) he hpl;exact Ar M F hr hb hd hx I1 r q
theorem MK (M:Mk X.K C f)(F:au X.prog X.w X.K X.mg X.base CX k f fd ps sp)(hr:aR (k+1) X.A)(hg:Gl X x)(hm:X.mg x=some (.ref C))(hb:Binds X.K fd ps ds)(hd:Vals dvs ds)(hx:jk CX X E)
  (hdb:(x==("__debug__":Str))=false:=by decide):PE X (.Call (.Name x p) [] [] pos) (mO C sp dvs E gF):=by
 intro pins s σ H Q I h;refine wpAny_Call_Name_kw (oV I hg hm ?_ hdb);exact callWith_K0 I.kIn M.kp (Ar (us:=[]) M F hr hb hd hx I .nil h)
end
structure ao (N P:List Str) (sc:Scope):Prop where
 kind:sc.kind= .function
 co:sc.isCoroutine=false
 gen:sc.isGenerator=false
 nd:N.Nodup
 pre:N.take P.length=P
 par: ∀x∈P,sc.names.lookup x=some .local\/sc.names.lookup x=some .cell
 nofree: ∀y∈sc.names,y.2≠.free
theorem Aw {kindOf:Str->Option NameKind}{x:Str}: ∀{binds:List (Str×Value)} {m:Str->Option Value},(∀v,(x,v)∉binds)->bindL kindOf binds m x=m x
 | [],_,_=>rfl
 | (n,v)::r,m,h=>by
  unfold bindL;rw[Aw fun w hw=>h w (mem_cons_of_mem _ hw)];split
  .have:x≠n:=by rintro rfl;exact h v mem_cons_self
   simp [this]
  .rfl
theorem Ax {kindOf:Str->Option NameKind}{x:Str}: ∀{binds:List (Str×Value)} {m:Str->Option Value},(∀v,(x,v)∉binds)->bindC kindOf binds m x=m x
 | [],_,_=>rfl
 | (n,v)::r,m,h=>by
  unfold bindC;rw[Ax fun w hw=>h w (mem_cons_of_mem _ hw)];split
  .rfl
  .have:x≠n:=by rintro rfl;exact h v mem_cons_self
   simp [this]
theorem Ay {kindOf:Str->Option NameKind}{x:Str}{v:Value}: ∀{P:List Str} {vs:List Value} {i:Nat} {m:Str->Option Value},P.Nodup->P[i]?=some x->vs[i]?=some v->kindOf x=some .local ->
  bindL kindOf (P.zip vs) m x=some v
 | [],_,_,_,_,h,_,_=>by simp at h
 | _::_,[],_,_,_,_,h,_=>by simp at h
 | p::P,w::vs,0,m,nd,h1,h2,hk=>by
  simp at h1 h2;subst h1;subst h2;show bindL kindOf ((p,w)::P.zip vs) m p=_;unfold bindL;rw[Aw fun v hv=>(nodup_cons.mp nd).1 (of_mem_zip hv).1,if_pos hk];simp
 | p::P,w::vs,i+1,m,nd,h1,h2,hk=>by
  show bindL kindOf ((p,w)::P.zip vs) m x=_;unfold bindL;exact Ay (i:=i) (nodup_cons.mp nd).2 (by simpa using h1) (by simpa using h2) hk
theorem Az {kindOf:Str->Option NameKind}{x:Str}{v:Value}: ∀{P:List Str} {vs:List Value} {i:Nat} {m:Str->Option Value},P.Nodup->P[i]?=some x->vs[i]?=some v->kindOf x≠some .local ->
  bindC kindOf (P.zip vs) m x=some v
 | [],_,_,_,_,h,_,_=>by simp at h
 | _::_,[],_,_,_,_,h,_=>by simp at h
 | p::P,w::vs,0,m,nd,h1,h2,hk=>by
  simp at h1 h2;subst h1;subst h2;show bindC kindOf ((p,w)::P.zip vs) m p=_;unfold bindC;rw[Ax fun v hv=>(nodup_cons.mp nd).1 (of_mem_zip hv).1,if_neg hk];simp
 | p::P,w::vs,i+1,m,nd,h1,h2,hk=>by
  show bindC kindOf ((p,w)::P.zip vs) m x=_;unfold bindC;exact Az (i:=i) (nodup_cons.mp nd).2 (by simpa using h1) (by simpa using h2) hk
def start (N:List Str) (vs:List V):St:=vs.map some++List.replicate (N.length - vs.length) none
def iD (CX:CXT) (P:Program) (w:World) (K:Frag) (mg:Str->Option Value) (base:Heap) (N:List Str) (qual:Str) (scope:Scope) (f:Addr) (cd:Value) (A:Around) (outer:List Env) (s:Shared) (H:Hp) (E:XK):Cx where
 prog:=P
 w:=w
 K:=K
 mg:=mg
 base:=base
 A:=A.deeper (envOfC qual scope s.heap.objs.size f cd)
 N:=N
 s_0:=s
 H_0:=H
 env:=envOfC qual scope s.heap.objs.size f cd
 outer:=outer
 stack:=envOfC qual scope s.heap.objs.size f cd::outer
 ex:=[]
 calm:=true
 fn:=fun _=>true
 pn:=[]
 xe:=fun e s'=>wpAny (model P w) (A.deeper (envOfC qual scope s.heap.objs.size f cd)) (leaving (envOfC qual scope s.heap.objs.size f cd) e) (fun _ s''=>CX outer H s E e s'') (fun e' s''=>CX outer H s E e' s'') s'
theorem Ba {sc:Scope}{n:Nat}{x:Str}(h:sc.names.lookup x=some .cell): ∃c,(cellsFrom n sc.names []).lookup x=some c:=by
 have q:=PySem.W.cellsFrom_some sc.names n [] (.inl h);exact Option.isSome_iff_exists.mp q
theorem MN {CX:CXT}{P:Program}{w:World}{K:Frag}{mg:Str->Option Value}{base:Heap}{N ps:List Str}{qual:Str}{scope:Scope}{f:Addr}{cd:Value}{A:Around}{outer:List Env}{s s1:Shared}{H:Hp}{E:XK}{us:List Value}{vs:List V}
  (S:ao N ps scope) (hd:A.handled=none) (e0:jO P w K mg base A outer s H) (hl:vs.length=ps.length) (r:Vals vs us)
  (x:InCallC s s.heap.objs.size (bindL (envOfC qual scope s.heap.objs.size f cd).kindOf (ps.zip us) fun _=>none) (cellsFrom (s.heap.objs.size+1) scope.names []) (bindC (envOfC qual scope s.heap.objs.size f cd).kindOf (ps.zip us) fun _=>none) s1) :
  Inv (iD CX P w K mg base N qual scope f cd A outer s H E) [] (start N vs) H s1:=by
 have hpl:ps.length<=N.length:=by have:=congrArg List.length S.pre;rw[length_take] at this;omega
 obtain⟨h1,tk,rfl,hk⟩:=x.done;have noA: ∀b:Addr,b∉(iD CX P w K mg base N qual scope f cd A outer s H E).ex:=fun b z=>absurd (show b∈([]:List Addr) from z) (by simp)
 refine⟨⟨e0.mod,S.kind,rfl,rfl,Nat.le_refl _,fun y z c h1 h2=>?_,fun y hy=>?_,fun y c _ h=>?_,fun _=>hd,Around.frames_deeper e0.frames,.inr ⟨rfl,rfl⟩,fun b z=>absurd z (noA b),e0.bs,e0.bsz,fun b _ _=>noA b,fun b z=>absurd z (noA b),e0.funs,e0.frf⟩,
  rfl,e0.bare,Un.kept hk,⟨_,x.toInCall.ns,fun i y v h1 h2 h3=>?_⟩,fun y c h=>⟨_,x.cell y c h⟩,e0.hok.fresh (Nat.le_refl _),fun y c h=>?_,fun p hp=>absurd (show p∈([]:List (Addr×Obj)) from hp) (by simp),e0.hok.kept hk,?_⟩
 .exact name_of_addr x.apart (PySem.mem_of_lookup h1) (PySem.mem_of_lookup h2)
 .have hy:scope.names.lookup y=some .cell\/scope.names.lookup y=some .free:=hy;rcases hy with hy | hy
  .exact Ba hy
  .exact absurd rfl (S.nofree _ (PySem.mem_of_lookup hy))
 .exact Nat.le_of_lt (x.above y c (PySem.mem_of_lookup h))
 .have hi:i < vs.length:=by
   unfold start at h2
   by_cases hi:i < vs.length
   .exact hi
   .rw[List.getElem?_append_right (by simpa using hi)] at h2;rw[List.getElem?_replicate] at h2
    split at h2<;>cases h2
  have ha:vs[i]?=some v:=by
   unfold start at h2;rw[List.getElem?_append_left (by simpa using hi),List.getElem?_map] at h2
   cases e:vs[i]? with
   | none=>rw[e] at h2;cases h2
   | some a=>rw[e] at h2;cases h2;rfl
  obtain⟨u,hu,rv⟩:=r.get ha
  have hp:ps[i]?=some y:=by
   rw[<-S.pre,List.getElem?_take_of_lt (by omega)];exact h1
  have ndP:ps.Nodup:=by rw[<-S.pre];exact S.nd.sublist (take_sublist _ _)
  refine⟨u,rv,?_⟩;rcases S.par y (mem_of_getElem? hp) with k | k
  .exact .inl ⟨k,Ay ndP hp hu k⟩
  .obtain⟨c,e⟩:=Ba (n:=s.heap.objs.size+1) k;refine .inr ⟨.inl k,c,e,?_⟩;have q:=x.cell y c e;rw[Az ndP hp hu (by show scope.names.lookup y≠_;rw[k];decide)] at q;exact q
 .exact e0.hok.fresh (Nat.le_of_lt (x.above y c (PySem.mem_of_lookup h)))
 .unfold start;show _=N.length;rw[length_append,length_map,List.length_replicate];omega
theorem MP {CX:CXT}{P:Program}{w:World}{K:Frag}{mg:Str->Option Value}{base:Heap}{k:Nat}{f:Addr}{name qual:Str}{params:Arguments}{body:List Stmt}{scope:Scope}{dV kV doc pm cdv ct oc:Value}{an od:Option Addr}
  {osl:Array (Option Value)} {N ps:List Str} {sp:Sp} (lk:K.lookup f=some ⟨oc,od,.func (fnOf name qual params body scope dV kV doc pm an cdv ct),osl⟩) (hcd:codeIn K cdv qual=true) (S:ao N ps scope)
  (len: ∀vs H Q E,sp vs H Q E->vs.length=ps.length)
  (hbody: ∀ (A:Around) (outer:List Env) (s:Shared) (H:Hp) (vs:List V) (Q:VK) (E:XK),aR k (A.deeper (envOfC qual scope s.heap.objs.size f cdv))->sp vs H Q E ->
   ∃t,PSs (iD CX P w K mg base N qual scope f cdv A outer s H E) body t/\t { nx:=fun _ H'=>Q .non H',rt:=Q } (start N vs) H) :
  au P w K mg base CX (k+1) f (fnOf name qual params body scope dV kV doc pm an cdv ct) ps sp:=by
 refine⟨len,fun A outer s H args us vs Q E hr e0 hb r hsp=>?_⟩;have hl:=len _ _ _ _ hsp;have KX:K.In s.heap:=e0.mod.kin.keeps fun b o e=>(e0.bs b o e).1;have lim:s.heap.NoLimit:=e0.mod.nolimit.keeps fun b o e=>(e0.bs b o e).1
 have hkind: ∀y∈ps.zip us,scope.names.lookup y.1=some .local\/(scope.names.lookup y.1=some .cell/\((cellsFrom (s.heap.objs.size+1) scope.names []).lookup y.1).isSome=true):=fun ⟨n,v⟩ hy=>by
  rcases S.par n (of_mem_zip hy).1 with q | q
  .exact .inl q
  .exact .inr ⟨q,PySem.W.cellsFrom_some _ _ _ (.inl q)⟩
 refine codeAny_call_function hr.depth (KX _ _ lk) rfl S.co S.gen rfl (PySem.W.codeRec_of KX hcd) (hb _ _ _ _ ?_);refine wpAny_newFunctionEnv_cells S.kind hkind fun env he s1 x=>?_;subst he;refine⟨lim.keeps x.toInCall.keep,codeAny_func ?_⟩;obtain⟨t,ht,hq⟩:=hbody A outer s H vs Q E (hr.deeper _) hsp;have I:Inv (iD CX P w K mg base N qual scope f cdv A outer s H E) [] (start N vs) H s1:=MN S hr.hd e0 hl r x;refine wpAny_mono (ht [] s1 (start N vs) H _ I hq) (fun fl s' hs=>?_) fun e s' hs=>hs
 have fin: ∀{σ':St} {H':Hp} {v:V} {u:Value},Inv (iD CX P w K mg base N qual scope f cdv A outer s H E) [] σ' H' s'->RelV v u->Q v H'->CE outer P w H s Q u s' :=
  fun {σ' H' v u} J rv q=>⟨v,H',J.os,J.bare,J.base,J.hok,rv,q⟩
 cases fl with
 | ret u =>
  obtain⟨v,σ',H',J,rv,q⟩:=hs;exact fin J rv q
 | next =>
  obtain⟨σ',H',J,q⟩:=hs;exact fin (v:=V.non) (u:=Value.none) J rfl q
 | brk =>
  obtain⟨_,_,_,q⟩:=hs;exact False.elim q
 | cont =>
  obtain⟨_,_,_,q⟩:=hs;exact False.elim q
end L2
namespace L2
open PySem PySem.Spec PyProof.Rows
section
variable {X:Cx}{x:Str}{p pos:Pos}{e:Expr}{es:List Expr}{t:TA}{id T:String}{r:List V->Hp->VK->Prop}
def tCB (r:List V->Hp->VK->Prop) (t:TA):TE:=fun σ H Q=>t σ H fun vs H1=>r vs H1 Q
theorem jQ (hc:gD X (.builtin id) r)(hg:Gl X x)(hm:X.mg x=none)(hv:bootBuiltins x=some (.builtin id))(ha:PA X (e::es) t)(hn:x≠"__name__":=by decide)(hdb:(x==("__debug__":Str))=false:=by decide)
  (he:starEach (e::es) X.env=(false,eval e X.env)::starEach es X.env:=by rfl) (hpl:(backTo pos (starEach es X.env)).any (·.1)=false:=by rfl):PE X (.Call (.Name x p) (e::es) [] pos) (tCB r t):=by
 intro pins s σ H Q I h;refine wpAny_Call_Name_kw (jh I hg hm hv ?_ hn hdb);exact PyProof.Rows.callWith_builtin1 (thn (ha pos pins s σ H _ I h) fun us s1 ⟨vs,H1,I1,r1,q1⟩=>hc pins s1 σ H1 vs us Q I1 r1 q1) he hpl
theorem pq (hc:gD X (.type T) r)(hg:Gl X x)(hm:X.mg x=none)(hv:bootBuiltins x=some (.type T))(ha:PA X (e::es) t)(hn:x≠"__name__":=by decide)(hdb:(x==("__debug__":Str))=false:=by decide)
  (he:starEach (e::es) X.env=(false,eval e X.env)::starEach es X.env:=by rfl) (hpl:(backTo pos (starEach es X.env)).any (·.1)=false:=by rfl):PE X (.Call (.Name x p) (e::es) [] pos) (tCB r t):=by
 intro pins s σ H Q I h;refine wpAny_Call_Name_kw (jh I hg hm hv ?_ hn hdb);exact PyProof.Rows.callWith_type1 (thn (ha pos pins s σ H _ I h) fun us s1 ⟨vs,H1,I1,r1,q1⟩=>hc pins s1 σ H1 vs us Q I1 r1 q1) he hpl
end
end L2
namespace HT
open PySem PyProof.Rows
section
variable {prog:Program}{w:World}{A:Around}{E:Value->Shared->Prop}{s:Shared}
def sIx (n d:Nat):Option Int->Nat
 | none=>d
 | some v=>if v < 0 then (v+(n:Int)).toNat else min v.toNat n
end
end HT
namespace L2
open PySem PySem.Spec PyProof.Rows
abbrev TO:=St->Hp->(Option Int->Hp->Prop)->Prop
def PO (X:Cx) (e:Option Expr) (t:TO):Prop :=
 ∀ (pins:List (Addr×Obj)) (s:Shared) (σ:St) (H:Hp) (Q:Option Int->Hp->Prop),Inv X pins σ H s->t σ H Q ->
  wpAny (model X.prog X.w) X.A (evalPart e X.env) (fun u s'=> ∃o H',Inv X pins σ H' s'/\IsPart u o/\Q o H') X.xe s
def Bb:TO:=fun _ H Q=>Q none H
def pA (t:TE):TO:=fun σ H Q=>t σ H fun x H1=> ∃i,x= .int i/\Q (some i) H1
section
variable {X:Cx}{e:Expr}{te:TE}{lo hi:Option Expr}{tl th:TO}{pos p2:Pos}
theorem MT:PO X none Bb:=by
 intro pins s σ H Q I h;rw[evalPart_none];exact wpAny_pure ⟨none,H,I,.none,h⟩
theorem sU (h:PE X e te):PO X (some e) (pA te):=by
 intro pins s σ H Q I hw;rw[evalPart_some];refine thn (h pins s σ H _ I hw) fun u s1 ⟨x,H1,I1,r1,q1⟩=>?_;obtain⟨i,rfl,q⟩:=q1;obtain⟨t,rfl⟩:=r1;exact⟨some i,H1,I1,.int i t,q⟩
def SlR (X:Cx) (r:V->Option Int->Option Int->Hp->VK->Prop):Prop :=
 ∀ (pins:List (Addr×Obj)) (s:Shared) (σ:St) (H:Hp) (x:V) (v vl vu:Value) (lo hi:Option Int) (sl:Addr) (Q:VK),Inv X pins σ H s->RelV x v->s.heap.IsSliceOf sl vl vu .none->IsPart vl lo->IsPart vu hi->r x lo hi H Q ->
  ∃T id,typeLookup (.type T) "__getitem__"=pure (some (.builtin id))/\s.TypeIs v T/\wpAny (model X.prog X.w) X.A (getItem v (.ref sl)) (EP X pins σ Q) X.xe s
def tSl (r:V->Option Int->Option Int->Hp->VK->Prop) (te:TE) (tl th:TO):TE:=fun σ H Q=>te σ H fun x H1=>tl σ H1 fun l H2=>th σ H2 fun u H3=>r x l u H3 Q
theorem Bc {r:V->Option Int->Option Int->Hp->VK->Prop}(hr:SlR X r)(he:PE X e te)(hl:PO X lo tl)(hu:PO X hi th):PE X (.Subscript e (.Slice lo hi none p2) pos) (tSl r te tl th):=by
 intro pins s σ H Q I h;refine Subscript_ (thn (he pins s σ H _ I h) fun v s1 ⟨x,H1,I1,r1,q1⟩=>?_);refine wpAny_Slice (thn (hl pins s1 σ H1 _ I1 q1) fun vl s2 ⟨l,H2,I2,pl,q2⟩=>thn (hu pins s2 σ H2 _ I2 q2) fun vu s3 ⟨u,H3,I3,pu,q3⟩=>?_);rw[evalPart_none];refine wpAny_pure ?_;have I4:Inv X pins σ H3 { s3 with heap:=s3.heap.push { cls:=.type "slice",data:=.fields #[vl,vu,.none] } }:=I3.kept (t':=s3.toks) fun b ob q=>Heap.get?_push_of_some _ q;obtain⟨T,id,hT,ht,hg⟩:=hr pins { s3 with heap:=s3.heap.push { cls:=.type "slice",data:=.fields #[vl,vu,.none] } } σ H3 x v vl vu l u s3.heap.objs.size Q I4 r1 (Heap.IsSliceOf.new ..) pl pu q3;show wpAny (model X.prog X.w) X.A (subscriptTail e (.Slice lo hi none p2) v (.ref s3.heap.objs.size)) (EP X pins σ Q) X.xe { s3 with heap:=s3.heap.push { cls:=.type "slice",data:=.fields #[vl,vu,.none] } };exact tail_any (ops:=[.ref s3.heap.objs.size,v]) ht hT hg (by with_unfolding_all rfl)
def iG (xs:List V) (lo hi:Option Int):List V:=(xs.drop (HT.sIx xs.length 0 lo)).take (HT.sIx xs.length xs.length hi - HT.sIx xs.length 0 lo)
theorem M3 (xs:List V)(lo hi:Option Int):(iG xs lo hi).length<=xs.length:=by
 unfold iG;rw[length_take,length_drop];omega
end
end L2
namespace L2
open PySem PySem.Spec PyProof.Rows
def ixN (n:Nat) (i:Int):Option Nat:=if 0<=i then (if i < n then some i.toNat else none) else if -(n:Int)<=i then some (i+n).toNat else none
def atI {α:Type} (xs:List α) (i:Int):Option α:=(ixN xs.length i).bind fun j=>xs[j]?
theorem Be {n:Nat}{i:Int}{j:Nat}(h:ixN n i=some j):seqIndex? i n=some j/\j < n/\ -(n:Int)<=i/\i < n:=by
 unfold ixN at h
 by_cases h0:0<=i
 .rw[if_pos h0] at h
  by_cases h1:i < n
  .rw[if_pos h1] at h;have e:i.toNat=j:=Option.some.inj h;exact⟨by rw[seqIndex_of h0 h1,e],by omega,by omega,h1⟩
  .rw[if_neg h1] at h;cases h
 .rw[if_neg h0] at h
  by_cases h1: -(n:Int)<=i
  .rw[if_pos h1] at h;have e:(i+n).toNat=j:=Option.some.inj h;exact⟨by rw[seqIndex_neg (by omega) h1,e],by omega,h1,by omega⟩
  .rw[if_neg h1] at h;cases h
theorem Bf {α:Type}{xs:List α}{i:Int}{v:α}(h:atI xs i=some v): ∃j,seqIndex? i xs.length=some j/\xs[j]?=some v/\j < xs.length/\ -(xs.length:Int)<=i/\i < xs.length:=by
 unfold atI at h
 cases e:ixN xs.length i with
 | none=>rw[e] at h;cases h
 | some j =>
  rw[e] at h;obtain⟨h1,h2,h3,h4⟩:=Be e;exact⟨j,h1,h,h2,h3,h4⟩
theorem M4 {α:Type}{xs:List α}{j:Nat}{v:α}(h:xs[j]?=some v):atI xs (j:Int)=some v:=by
 have hj:j < xs.length:=(List.getElem?_eq_some_iff.mp h).1
 have e:ixN xs.length (j:Int)=some j:=by
  unfold ixN;rw[if_pos (by omega),if_pos (by omega)];simp
 unfold atI;rw[e];exact h
def fL (b:Expr):Prop:= ∀o i,subscripted b false o i=operate [o,i] (getItem o i)
def IxR (X:Cx) (r:R2):Prop :=
 ∀ (value slice:Expr) (pins:List (Addr×Obj)) (s:Shared) (σ:St) (H:Hp) (x y:V) (v u:Value) (Q:VK),Inv X pins σ H s->RelV x v->RelV y u->r x y H Q ->
  subscripted slice false v u=operate [v,u] (getItem v u)->wpAny (model X.prog X.w) X.A (subscriptTail value slice v u) (EP X pins σ Q) X.xe s
def MtR (X:Cx) (id:String) (r:V->List V->Hp->VK->Prop):Prop :=
 ∀ (pins:List (Addr×Obj)) (s:Shared) (σ:St) (H:Hp) (x:V) (xs:List V) (v:Value) (us:List Value) (Q:VK),Inv X pins σ H s->RelV x v->Vals xs us->r x xs H Q ->
  wpAny (model X.prog X.w) X.A (call (.builtin id) (v::us)) (EP X pins σ Q) X.xe s
section
variable {X:Cx}{a b:Expr}{ta tb:TE}{pos:Pos}
theorem mQ {r:R2}(hr:IxR X r)(ha:PE X a ta)(hb:PE X b tb)(hs:fL b):PE X (.Subscript a b pos) (tOp r ta tb):=by
 intro pins s σ H Q I h;exact Subscript_ (sH ha hb I h fun v u s2 x y H2 I2 rx ry q=>hr a b pins s2 σ H2 x y v u Q I2 rx ry q (hs _ _))
def pB (K:Frag):R2:=fun x y H Q=> ∃p xs i v,x= .ref p/\y= .int i/\SqL K H p xs/\atI xs i=some v/\Q v H
def sV (K:Frag):R2:=fun x y H Q=> ∃p xs i v,x= .ref p/\y= .int i/\SqT K H p xs/\atI xs i=some v/\Q v H
theorem sW:IxR X (pB X.K):=by
 intro value slice pins s σ H x y v u Q I rx ry h hs;obtain⟨p,xs,i,z,rfl,rfl,hq,he,q⟩:=h;cases rx;obtain⟨t,rfl⟩:=ry;obtain⟨its,r,pl,hz⟩:=I.list hq;obtain⟨j,h1,h2,h3,h4,h5⟩:=Bf he;obtain⟨w,ew,rw'⟩:=r.get h2;have hl:=r.length;have hn:=sI
 have fin:EP X pins σ Q w s:=⟨z,H,I,rw',q⟩
 by_cases h0:0<=i
 .have hj:i.toNat=j:=by
   rw[seqIndex_of h0 h5] at h1;exact Option.some.inj h1
  exact item_listR pl.isList h0 (by omega) (by rw[hj];simpa using ew) fin hs
 .have hj:(i+(its.toArray.size:Int)).toNat=j:=by
   rw[seqIndex_neg (by omega) h4] at h1;rw[size_toArray,<-hl];exact Option.some.inj h1
  exact subscriptTail_builtinR (x:=w) pl.isList.typeIs slot_list_getitem.lookup
   (wpAny_getItem_list_neg (Q:=fun r s'=>r=w/\EP X pins σ Q r s') pl.isList (by omega) (by rw[size_toArray]<;>omega) (by omega) (by rw[hj];simpa using ew) ⟨rfl,fin⟩) hs
theorem Bg:IxR X (sV X.K):=by
 intro value slice pins s σ H x y v u Q I rx ry h hs;obtain⟨p,xs,i,z,rfl,rfl,hq,he,q⟩:=h;cases rx;obtain⟨t,rfl⟩:=ry;obtain⟨its,r,pl,hz⟩:=I.tuple hq;obtain⟨j,h1,h2,h3,h4,h5⟩:=Bf he;obtain⟨w,ew,rw'⟩:=r.get h2;have hl:=r.length;have hn:=sI
 have fin:EP X pins σ Q w s:=⟨z,H,I,rw',q⟩
 exact subscriptTail_builtinR (x:=w) pl.typeIs slot_tuple_getitem.lookup
  (getItem_tuple (j:=j) (Q:=fun r s'=>r=w/\EP X pins σ Q r s') pl (by omega) (by omega) (by rw[size_toArray,<-hl];exact h1) (by simpa using ew) ⟨rfl,fin⟩) hs
theorem M5 (lo hi:Option Int)(n:Nat):(sliceBounds lo hi none n).1=((HT.sIx n 0 lo:Nat):Int)/\(sliceBounds lo hi none n).2.1=((HT.sIx n n hi:Nat):Int)/\(sliceBounds lo hi none n).2.2=1:=by
 refine⟨?_,?_,rfl⟩
 .cases lo with
  | none=>simp [sliceBounds,HT.sIx]
  | some i =>
   simp only[sliceBounds,HT.sIx,Option.getD_none,show (1:Int) > 0 by decide,if_true]
   by_cases h:i < 0
   .simp only[h,if_true]<;>omega
   .simp only[h,if_false]<;>omega
 .cases hi with
  | none=>simp [sliceBounds,HT.sIx]
  | some i =>
   simp only[sliceBounds,HT.sIx,Option.getD_none,show (1:Int) > 0 by decide,if_true]
   by_cases h:i < 0
   .simp only[h,if_true]<;>omega
   .simp only[h,if_false]<;>omega
theorem M6 (its:List Value)(lo hi:Option Int):slicePick its.toArray lo hi none=((its.drop (HT.sIx its.length 0 lo)).take (HT.sIx its.length its.length hi - HT.sIx its.length 0 lo)).toArray:=by
 obtain⟨h1,h2,h3⟩:=M5 lo hi its.toArray.size;unfold slicePick;rw[h1,h2,h3]
 simp only[sliceRange_one,pick_run,size_toArray]<;>rfl
def sX (K:Frag):V->Option Int->Option Int->Hp->VK->Prop:=fun x lo hi H Q=> ∃a xs,x= .ref a/\SqL K H a xs/\ ∀p,H p=none->Q (.ref p) (upd H p (.lst (iG xs lo hi)))
theorem Bh:SlR X (sX X.K):=by
 intro pins s σ H x v vl vu lo hi sl Q I rx hs pl pu h;obtain⟨a,xs,rfl,hx,q⟩:=h;cases rx;obtain⟨its,r,ht,hz⟩:=I.list hx;have hlen:=r.length;refine⟨"list",_,slot_list_getitem.lookup,ht.isList.typeIs,?_⟩;refine wpAny_getItem_list_slice ht.isList hs pl pu .none (by simp) ?_ (by rw[size_toArray]<;>omega);rw[M6,<-hlen];refine⟨.ref s.heap.objs.size,_,I.laid (t':=s.toks) (o:=.lst (iG xs lo hi)) (fun b ob q=>Heap.get?_push_of_some _ q) (Nat.le_refl _) ?_,rfl,q _ (I.hok.fresh (Nat.le_refl _))⟩;exact⟨Nat.le_trans (M3 xs lo hi) hz,_,0,(r.drop (HT.sIx xs.length 0 lo)).take (HT.sIx xs.length xs.length hi - HT.sIx xs.length 0 lo),Heap.get?_push_size _ rfl⟩
def iH:V->Bool
 | .non=>true
 | .bl _=>true
 | .int _=>true
 | .str _=>true
 | _=>false
def eqV:V->V->Bool
 | .non,.non=>true
 | .bl a,.bl b=>a==b
 | .bl a,.int b=>(if a then 1 else 0)==b
 | .int a,.bl b=>a==(if b then 1 else 0)
 | .int a,.int b=>a==b
 | .str a,.str b=>a==b
 | _,_=>false
theorem M7 {A:Around}{s:Shared}{y x:V}{u v:Value}(ry:RelV y u)(rx:RelV x v)(fy:iH y=true)(fx:iH x=true):SeqAt.EqAt A s u v (eqV y x):=by
 cases y with
 | non =>
  cases ry
  cases x with
  | non=>cases rx;exact SeqAt.EqAt.same _
  | bl b=>cases rx;exact SeqAt.EqAt.none_bool b
  | int b=>obtain⟨t,rfl⟩:=rx;exact SeqAt.EqAt.none_int b t
  | str b=>obtain⟨t,rfl⟩:=rx;exact SeqAt.EqAt.none_str b t
  | _=>exact absurd (show false=true from fx) Bool.false_ne_true
 | bl a =>
  cases ry
  cases x with
  | non=>cases rx;exact SeqAt.EqAt.bool_none a
  | bl b=>cases rx;exact SeqAt.EqAt.bool_bool a b
  | int b=>obtain⟨t,rfl⟩:=rx;exact SeqAt.EqAt.bool_int a b t
  | str b=>obtain⟨t,rfl⟩:=rx;exact SeqAt.EqAt.bool_str a b t
  | _=>exact absurd (show false=true from fx) Bool.false_ne_true
 | int a =>
  obtain⟨t',rfl⟩:=ry
  cases x with
  | non=>cases rx;exact SeqAt.EqAt.int_none a t'
  | bl b=>cases rx;exact SeqAt.EqAt.int_bool a t' b
  | int b=>obtain⟨t,rfl⟩:=rx;exact SeqAt.EqAt.int_int a t' b t
  | str b=>obtain⟨t,rfl⟩:=rx;exact SeqAt.EqAt.int_str a t' b t
  | _=>exact absurd (show false=true from fx) Bool.false_ne_true
 | str a =>
  obtain⟨t',rfl⟩:=ry
  cases x with
  | non=>cases rx;exact SeqAt.EqAt.str_none a t'
  | bl b=>cases rx;exact SeqAt.EqAt.str_bool a t' b
  | int b=>obtain⟨t,rfl⟩:=rx;exact SeqAt.EqAt.str_int a t' b t
  | str b=>obtain⟨t,rfl⟩:=rx;exact SeqAt.EqAt.str_str a t' b t
  | _=>exact absurd (show false=true from fx) Bool.false_ne_true
 | _=>exact absurd (show false=true from fy) Bool.false_ne_true
def eqU (x:V) (u:Value):Bool:=match u with
 | .none=>eqV .non x
 | .bool b=>eqV (.bl b) x
 | .int i _=>eqV (.int i) x
 | .str z _=>eqV (.str z) x
 | _=>false
theorem Bj {x y:V}{u:Value}(r:RelV y u)(f:iH y=true):eqU x u=eqV y x:=by
 cases y with
 | non=>cases r;rfl
 | bl b=>cases r;rfl
 | int i=>obtain⟨t,rfl⟩:=r;rfl
 | str z=>obtain⟨t,rfl⟩:=r;rfl
 | _=>exact absurd (show false=true from f) Bool.false_ne_true
theorem mR {x:V}: ∀{xs:List V} {us:List Value},Vals xs us->xs.all iH=true->us.any (eqU x)=xs.any fun y=>eqV y x
 | _,_,.nil,_=>rfl
 | y::xs,u::us,.cons r t,f=>by
  rw[List.all_cons,Bool.and_eq_true] at f;rw[any_cons,any_cons,Bj r f.1,mR t f.2]
theorem mU {A:Around}{s:Shared}{x:V}{v:Value}(rx:RelV x v)(fx:iH x=true): ∀{xs:List V} {us:List Value},Vals xs us->xs.all iH=true-> ∀u∈us,SeqAt.EqAt A s u v (eqU x u)
 | _,_,.nil,_=>fun u hu=>by cases hu
 | y::xs,u::us,.cons r t,f=>fun u' hu=>by
  rw[List.all_cons,Bool.and_eq_true] at f;rcases mem_cons.mp hu with rfl | hu
  .rw[Bj r f.1];exact M7 r rx f.1 fx
  .exact mU rx fx t f.2 u' hu
def inV (x:V) (xs:List V):Bool:=xs.any fun y=>eqV y x
def rIn (K:Frag) (neg:Bool):R2:=fun x y H Q=> ∃p xs,y= .ref p/\(SqL K H p xs\/SqT K H p xs)/\iH x=true/\xs.all iH=true/\Q (.bl (if neg then !inV x xs else inV x xs)) H
theorem sY:OpR X (compareOp .In) (rIn X.K false):=by
 intro pins s σ H x y v u Q I rx ry h;obtain⟨p,xs,rfl,hq,fx,fs,q⟩:=h;cases ry;rcases hq with hq | hq
 .obtain⟨its,r,pl,hz⟩:=I.list hq;refine SeqAt.in_listAt (eqU x) pl.isList (fun w hw=>mU rx fx r fs w (by simpa using hw)) ⟨.bl _,H,I,rfl,?_⟩;rw[show its.toArray.any (eqU x)=its.any (eqU x) by simp,mR r fs];exact q
 .obtain⟨its,r,pl,hz⟩:=I.tuple hq;refine SeqAt.in_tupleAt (eqU x) pl (fun w hw=>mU rx fx r fs w (by simpa using hw)) ⟨.bl _,H,I,rfl,?_⟩;rw[show its.toArray.any (eqU x)=its.any (eqU x) by simp,mR r fs];exact q
theorem M8:OpR X (compareOp .NotIn) (rIn X.K true):=by
 intro pins s σ H x y v u Q I rx ry h;obtain⟨p,xs,rfl,hq,fx,fs,q⟩:=h;cases ry;rcases hq with hq | hq
 .obtain⟨its,r,pl,hz⟩:=I.list hq;refine SeqAt.notIn_listAt (eqU x) pl.isList (fun w hw=>mU rx fx r fs w (by simpa using hw)) ⟨.bl _,H,I,rfl,?_⟩;rw[show its.toArray.any (eqU x)=its.any (eqU x) by simp,mR r fs];exact q
 .obtain⟨its,r,pl,hz⟩:=I.tuple hq;refine SeqAt.notIn_tupleAt (eqU x) pl (fun w hw=>mU rx fx r fs w (by simpa using hw)) ⟨.bl _,H,I,rfl,?_⟩;rw[show its.toArray.any (eqU x)=its.any (eqU x) by simp,mR r fs];exact q
theorem Bk:gD X (.builtin "len") (fun xs H Q=> ∃p ys,xs=[.ref p]/\(SqL X.K H p ys\/SqT X.K H p ys)/\Q (.int ys.length) H):=by
 intro pins s σ H xs us Q I r h;obtain⟨p,ys,rfl,hq,q⟩:=h;obtain⟨u,rfl,rx⟩:=vals1 r;cases rx;have hn:=sI;rcases hq with hq | hq
 .obtain⟨its,r',pl,hz⟩:=I.list hq;have hlen:=r'.length;exact Calls.call_len_list pl.isList (by simp only[size_toArray]<;>omega) ⟨.int ys.length,H,I.tok _,⟨s.toks+1,by rw[size_toArray,hlen]⟩,q⟩
 .obtain⟨its,r',pl,hz⟩:=I.tuple hq;have hlen:=r'.length;exact len_tuple pl (by simp only[size_toArray]<;>omega) ⟨.int ys.length,H,I.tok _,⟨s.toks+1,by rw[size_toArray,hlen]⟩,q⟩
theorem M9:gD X (.type "list") (fun xs H Q=> ∃p ys,xs=[.ref p]/\(SqL X.K H p ys\/SqT X.K H p ys)/\ ∀l,H l=none->Q (.ref l) (upd H l (.lst ys))):=by
 intro pins s σ H xs us Q I r h;obtain⟨p,ys,rfl,hq,q⟩:=h;obtain⟨u,rfl,rx⟩:=vals1 r;cases rx
 have fin: ∀ (its:List Value),Vals ys its->ys.length<=sizeLine-> ∀ (h':Heap) (c':Nat),(∀b o',s.heap.get? b=some o'->h'.get? b=some o') ->
   h'.get? s.heap.objs.size=some { cls:=.type "list",dict:=none,data:=.seq its.toArray c',slots:= #[] }->EP X pins σ Q (.ref s.heap.objs.size) { s with heap:=h' }:=fun its r' hz h' c' kp e =>
  ⟨.ref s.heap.objs.size,_,I.laid (t':=s.toks) kp (Nat.le_refl _) (show cB X.prog X.w _ h' _ (.lst ys) from ⟨hz,its,c',r',e⟩),rfl,q _ (I.hok.fresh (Nat.le_refl _))⟩
 rcases hq with hq | hq
 .obtain⟨its,r',pl,hz⟩:=I.list hq;have hlen:=r'.length;obtain⟨o,ho,hc,n,hd⟩:=pl.isList;exact call_list_seq p (.inl rfl) ho hc hd (fun h' c' kp e=>fin its r' hz h' c' kp e) (by simp only[size_toArray]<;>omega)
 .obtain⟨its,r',pl,hz⟩:=I.tuple hq;have hlen:=r'.length;obtain⟨o,ho,hc,n,hd⟩:=pl;exact call_list_seq p (.inr rfl) ho hc hd (fun h' c' kp e=>fin its r' hz h' c' kp e) (by simp only[size_toArray]<;>omega)
def tyV (K:Frag) (T:String) (x:V) (H:Hp):Prop:=match x with
 | .str _=>T="str"
 | .int _=>T="int"
 | .ref p=>(T="list"/\ ∃xs,SqL K H p xs)\/(T="tuple"/\ ∃o,K.lookup p=some o/\o.cls= .type "tuple"/\o.dict=none) \/
   (T="dict"/\((∃kvs,H p=some (.dK kvs))\/ ∃kvs,H p=some (.dT kvs)))\/(T="set"/\ ∃S n,H p=some (.set S n))
 | _=>False
theorem Nb {pins:List (Addr×Obj)}{σ:St}{H:Hp}{s:Shared}{T:String}{x:V}{v:Value}(I:Inv X pins σ H s)(r:RelV x v)(ty:tyV X.K T x H) :
  s.TypeIs v T/\ ∀a,v= .ref a-> ∃ob,s.heap.get? a=some ob/\ob.dict=none:=by
 cases x with
 | str z =>
  obtain⟨t,rfl⟩:=r;cases (show T="str" from ty);exact⟨typeIs_str s z t,fun _ e=>nomatch e⟩
 | int i =>
  obtain⟨t,rfl⟩:=r;cases (show T="int" from ty);exact⟨typeIs_int s i t,fun _ e=>nomatch e⟩
 | ref p =>
  cases r;rcases ty with⟨rfl,xs,hq⟩ | ⟨rfl,o,hk,hc,hd⟩ | ⟨rfl,hk⟩ | ⟨rfl,S,n,hk⟩
  .obtain⟨its,_,pl,_⟩:=I.list hq;refine⟨pl.isList.typeIs,fun a e=>?_⟩;cases e;obtain⟨o,n,e,c,hd,_⟩:=pl;exact⟨o,e,hd⟩
  .refine⟨⟨o,I.kIn p o hk,hc⟩,fun a e=>?_⟩;cases e;exact⟨o,I.kIn _ o hk,hd⟩
  .have z: ∃o,s.heap.get? p=some o/\o.ExactDict:=by
    rcases hk with⟨kvs,hk⟩ | ⟨kvs,hk⟩
    .obtain⟨_,_,_,_,o,_,_,e,ex,_⟩:=I.hok p _ hk;exact⟨o,e,ex⟩
    .obtain⟨_,_,_,_,o,_,_,e,ex,_⟩:=I.hok p _ hk;exact⟨o,e,ex⟩
   obtain⟨o,e,ex⟩:=z;refine⟨⟨o,e,ex.1⟩,fun a e2=>?_⟩;cases e2;exact⟨o,e,ex.2.1⟩
  .obtain⟨o,_,_,_,e,ex,_⟩:=I.hok p _ hk;refine⟨⟨o,e,ex.1⟩,fun a e2=>?_⟩;cases e2;exact⟨o,e,ex.2.1⟩
 | _=>exact False.elim ty
def tBM (K:Frag) (T:String) (r:V->List V->Hp->VK->Prop) (to:TE) (t:TA):TE:=fun σ H Q=>to σ H fun x H1=>tyV K T x H1/\t σ H1 fun xs H2=>r x xs H2 Q
variable {o e:Expr}{es:List Expr}{to:TE}{t:TA}{name:Str}{apos cpos:Pos}{T id:String}{r:V->List V->Hp->VK->Prop}
theorem pC (pa:PlainAttrs T)(slot:Slot T name id)(hty:typeOf (.builtin id)=pure (.type "method_descriptor"))(hm:MtR X id r)(ho:PE X o to)(ha:PA X (e::es) t)
  (hbase:attributeBase o name X.env (eval o X.env)=eval o X.env:=by rfl)
  (hfew:((backTo cpos (starEach (e::es) X.env)).all (fun x=> !x.1)&&(backToKw cpos (keywordEach [] X.env)).all (fun x=>x.1.isSome)
   && decide ((e::es).length+([]:List Keyword).length+(if ([]:List Keyword).isEmpty then 0 else 1) < 30))=true:=by rfl)
  (hline:(apos.endLine==cpos.line)=true:=by rfl) (hs:starEach (e::es) X.env=(false,eval e X.env)::starEach es X.env:=by rfl) (hplain:(backTo cpos (starEach es X.env)).any (·.1)=false:=by rfl) :
  PE X (.Call (.Attribute o name apos) (e::es) [] cpos) (tBM X.K T r to t):=by
 intro pins s σ H Q I h;refine wpAny_Call_method_late hbase hfew hline rfl (thn (ho pins s σ H _ I h) fun v s1 ⟨x,H1,I1,r1,ty,q1⟩=>?_);obtain⟨h1,h2⟩:=Nb I1 r1 ty;refine⟨T,id,pa,slot,hty,h1,h2,?_⟩;have hA:=ha cpos pins s1 σ H1 _ I1 q1;rw[hs] at hA ⊢;refine Calls.callWith_builtin (by show (false||(backTo cpos (starEach es X.env)).any (·.1))=false;rw[hplain]<;>rfl) (Calls.evalArgs_plain ?_);exact thn hA fun us s2 ⟨vs,H2,I2,r2,q2⟩=>hm pins s2 σ H2 x vs v us Q I2 r1 r2 q2
end
end L2
namespace L2
open PySem PySem.Spec PyProof.Rows
def MtM (X:Cx) (id:String) (r:V->List V->Hp->VK->Prop):Prop :=
 ∀ (pins:List (Addr×Obj)) (s:Shared) (σ:St) (H:Hp) (x:V) (xs:List V) (v:Value) (us:List Value) (Q:VK),Inv X pins σ H s->RelV x v->Vals xs us->r x xs H Q ->
  wpAny (model X.prog X.w) X.A (call (.builtin id) (v::us)) (EP X pins σ Q) X.xe s
theorem Vals.one: ∀{x:V} {us:List Value},Vals [x] us-> ∃u,us=[u]/\RelV x u
 | _,_,.cons r .nil=>⟨_,rfl,r⟩
theorem Vals.two: ∀{x y:V} {us:List Value},Vals [x,y] us-> ∃u v,us=[u,v]/\RelV x u/\RelV y v
 | _,_,_,.cons r (.cons q .nil)=>⟨_,_,rfl,r,q⟩
theorem Vals.eraseIdx: ∀{xs:List V} {us:List Value} (i:Nat),Vals xs us->Vals (xs.eraseIdx i) (us.eraseIdx i)
 | _,_,_,.nil=>.nil
 | _,_,0,.cons _ t=>t
 | _,_,i+1,.cons r t=>.cons r (Vals.eraseIdx i t)
theorem Bl {α:Type}: ∀ (l:List α) (i:Nat),(l.eraseIdx i).length<=l.length
 | [],_=>Nat.le_refl _
 | _::_,0=>Nat.le_succ _
 | _::r,i+1=>Nat.succ_le_succ (Bl r i)
section
variable {X:Cx}{pins:List (Addr×Obj)}{σ:St}{H:Hp}{s:Shared}{l b:Addr}{xs ys zs:List V}
theorem Inv.lset {its its':List Value}{n:Nat}{f:Array Value->Array Value}{t':Nat}(I:Inv X pins σ H s)(hH:H l=some (.lst xs))
  (e:s.heap.get? l=some { cls:=.type "list",data:=.seq its.toArray n }) (hf:f its.toArray=its'.toArray) (hv:Vals ys its') (hz:ys.length<=sizeLine) :
  Inv X pins σ (upd H l (.lst ys)) { s with heap:=s.heap.update l (Obj.mapSeq f),toks:=t' }:=by
 have q:=PySem.IsL.update e f;rw[hf] at q;refine I.write (x:=l) (e:=l) (by rw[hH];exact trivial) (.inl rfl) (fun b' u hb hu=>(Heap.get?_update_other s.heap (Obj.mapSeq f) (Ne.symm hb)).trans hu) ⟨_,q⟩ ?_;exact⟨hz,its',_,hv,q⟩
theorem Inv.lnew {its:List Value}{t':Nat}(I:Inv X pins σ H s)(hv:Vals ys its)(hz:ys.length<=sizeLine) :
  Inv X pins σ (upd H s.heap.objs.size (.lst ys)) { s with heap:=s.heap.push { cls:=.type "list",data:=.seq its.toArray },toks:=t' } :=
 I.laid (fun _ _ q=>Heap.get?_push_of_some _ q) (Nat.le_refl _) ⟨hz,its,0,hv,Heap.get?_push_size _ rfl⟩
theorem Inv.fresh (I:Inv X pins σ H s):H s.heap.objs.size=none:=I.hok.fresh (Nat.le_refl _)
theorem Inv.lstM (I:Inv X pins σ H s)(hH:H l=some (.lst xs)):xs.length<=sizeLine/\ ∃ (its:List Value) (n:Nat),Vals xs its/\xs.length=its.length/\s.heap.get? l=some { cls:=.type "list",data:=.seq its.toArray n }:=by
 obtain⟨z,its,n,r,e⟩:=I.hok l _ hH;exact⟨z,its,n,r,r.length,e⟩
theorem Bm {n:Nat}(h:n<=sizeLine):Builtin.List.listTooLong n=false:=by
 unfold Builtin.List.listTooLong;exact decide_eq_false (by omega)
end
section
variable {X:Cx}
def Bp:V->List V->Hp->VK->Prop:=fun x vs H Q=> ∃l xs y,x= .ref l/\vs=[y]/\H l=some (.lst xs)/\xs.length < sizeLine/\Q .non (upd H l (.lst (xs++[y])))
theorem Nf:MtM X "list.append" Bp:=by
 intro pins s σ H x vs v us Q I rx rv h;obtain⟨l,xs,y,rfl,rfl,hH,hz,q⟩:=h;cases rx;obtain⟨u,rfl,ru⟩:=rv.one;obtain⟨z,its,n,r,hl,e⟩:=I.lstM hH;refine call_meets F.slot_list_append ⟨_,e,rfl⟩ F.entry_list_append (F.args_list_append_2 _ _) (PySem.list_append l its.toArray n u (by rw[size_toArray];omega)) ⟨e,?_⟩;refine⟨.non,_,I.lset (its':=its++[u]) hH e (by simp) (r.append (.cons ru .nil)) ?_,rfl,q⟩;rw[length_append,length_singleton];omega
def Bq:V->List V->Hp->VK->Prop:=fun x vs H Q=> ∃l b xs zs,x= .ref l/\vs=[.ref b]/\H l=some (.lst xs)/\H b=some (.lst zs)/\xs.length+zs.length<=sizeLine/\Q .non (upd H l (.lst (xs++zs)))
theorem Ng:MtM X "list.extend" Bq:=by
 intro pins s σ H x vs v us Q I rx rv h;obtain⟨l,b,xs,zs,rfl,rfl,hH,hB,hz,q⟩:=h;cases rx;obtain⟨u,rfl,ru⟩:=rv.one;cases ru;obtain⟨z,its,n,r,hl,e⟩:=I.lstM hH;obtain⟨z2,its2,n2,r2,hl2,e2⟩:=I.lstM hB
 have hsz:its.toArray.size+its2.toArray.size<=sizeLine:=by rw[size_toArray,size_toArray];omega
 have hlong: ¬ (!its.toArray.isEmpty&&Builtin.List.listTooLong (its.toArray.size+its2.toArray.size))=true:=by
  rw[Bm hsz,Bool.and_false];exact Bool.false_ne_true
 refine call_meets F.slot_list_extend ⟨_,e,rfl⟩ F.entry_list_extend (F.args_list_extend_2 _ _)
  (AutoSeq1.list_extend_list_list_0 l its.toArray n b its2.toArray n2 hlong (by rw[size_toArray];omega) (by omega)) ⟨e,e2,?_⟩
 refine⟨.non,_,I.lset (its':=its++its2) hH e (by simp) (r.append r2) ?_,rfl,q⟩;rw[length_append];omega
def Nh:V->List V->Hp->VK->Prop:=fun x vs H Q=> ∃l xs i k y,x= .ref l/\vs=[.int i]/\H l=some (.lst xs)/\ -(2 ^ 63)<=i/\i < 2 ^ 63/\seqIndex? i xs.length=some k/\xs[k]?=some y/\Q y (upd H l (.lst (xs.eraseIdx k)))
theorem Ni:MtM X "list.pop" Nh:=by
 intro pins s σ H x vs v us Q I rx rv h;obtain⟨l,xs,i,k,y,rfl,rfl,hH,h1,h2,hk,hy,q⟩:=h;cases rx;obtain⟨u,rfl,ru⟩:=rv.one;obtain⟨t,rfl⟩:=ru;obtain⟨z,its,n,r,hl,e⟩:=I.lstM hH;obtain⟨w,hw,rw'⟩:=r.get hy
 refine call_meets F.slot_list_pop ⟨_,e,rfl⟩ F.entry_list_pop (F.args_list_pop_2 _ _)
  (MeetsSeq.list_pop_at l its.toArray n i t k w (fitsIndex_both h1 h2) (by rw[size_toArray,<-hl];exact hk) (by rw[<-Array.getElem?_toList];exact hw) (by rw[size_toArray];omega)) ⟨e,?_⟩
 refine⟨y,_,I.lset (its':=its.eraseIdx k) hH e ?_ (r.eraseIdx k) ?_,rw',q⟩
 .show its.toArray.eraseIdxIfInBounds k=(its.eraseIdx k).toArray;rw[List.eraseIdxIfInBounds_toArray]
 .have:=Bl xs k;omega
def Nj:R2:=fun x y H Q=> ∃l b xs zs,x= .ref l/\y= .ref b/\H l=some (.lst xs)/\H b=some (.lst zs)/\xs.length+zs.length<=sizeLine/\ ∀p,H p=none->Q (.ref p) (upd H p (.lst (xs++zs)))
theorem Nk:OpR X (binaryOp .Add) Nj:=by
 intro pins s σ H x y v u Q I rx ry h;obtain⟨l,b,xs,zs,rfl,rfl,hH,hB,hz,q⟩:=h;cases rx;cases ry;obtain⟨z,its,n,r,hl,e⟩:=I.lstM hH;obtain⟨z2,its2,n2,r2,hl2,e2⟩:=I.lstM hB;refine PySem.P.add_list e e2 ?_ (by rw[size_toArray,size_toArray];omega)
 have ea:its.toArray++its2.toArray=(its++its2).toArray:=by simp
 rw[ea];exact⟨.ref _,_,I.lnew (t':=s.toks) (r.append r2) (by rw[length_append];omega),rfl,q _ I.fresh⟩
end
end L2
namespace L2
open PySem PySem.Spec PyProof.Rows
theorem Vals.ints: ∀{ns:List Int} {us:List Value},Vals (ns.map V.int) us->IntsAre us ns
 | [],us,h=>by
  rw[map_nil] at h;cases h;exact IntsAre.nil
 | n::ns,us,h=>by
  rw[map_cons] at h
  cases h with
  | cons r t =>
   obtain⟨k,rfl⟩:=r;exact IntsAre.cons n k (Vals.ints t)
theorem sZ: ∀{us:List Value} {ns:List Int},IntsAre us ns->Vals (ns.map V.int) us
 | _,_,.nil=>by rw[map_nil];exact Paired.nil
 | _,_,.cons n t h=>by rw[map_cons];exact Paired.cons (show RelV (V.int n) (Value.int n t) from ⟨t,rfl⟩) (sZ h)
theorem Vals.bls: ∀{bs:List Bool} {us:List Value},Vals (bs.map V.bl) us->us=bs.map Value.bool
 | [],us,h=>by
  rw[map_nil] at h;cases h;rfl
 | b::bs,us,h=>by
  rw[map_cons] at h
  cases h with
  | cons r t =>
   cases r;rw[Vals.bls t,map_cons]
theorem Vals.ref1 {a:Addr}{us:List Value}(r:Vals [V.ref a] us):us=[Value.ref a]:=by
 cases r with
 | cons r t =>
  cases t;cases r;rfl
section
variable {X:Cx}
def Nm (K:Frag):List V->Hp->VK->Prop:=fun vs H Q=> ∃ (a:Addr) (ns:List Int),vs=[V.ref a]/\SqL K H a (ns.map V.int)/\ns.length < 64 /\
 ∀ (ns':List Int) (p:Addr),ns'.Perm ns->ns'.Pairwise (·<=·)->H p=none->Q (.ref p) (upd H p (.lst (ns'.map V.int)))
theorem pD {n:Nat}(h:n < 64):n<=sizeLine:=by rw[sizeLine_eq];omega
theorem Np:gD X (.builtin "sorted") (Nm X.K):=by
 intro pins s σ H vs us Q I r h;obtain⟨a,ns,rfl,hs,h64,q⟩:=h;obtain⟨its,rv,hl,_⟩:=I.list hs;rw[Vals.ref1 r];have hi:=rv.ints;refine PyProof.Rows.sorted_ints hl.isList hi (by rw[hi.length];exact h64) fun out ns' h1 h2 h3=>?_;obtain⟨ep,he'⟩:=PyProof.Rows.sortedAll_at s.heap its out
 have hlen:(ns'.map V.int).length<=sizeLine:=by rw[length_map,h2.length_eq];exact pD h64
 exact⟨.ref _,upd H (s.heap.objs.size+1) (.lst (ns'.map V.int)),I.laid (t':=s.toks) (fun _ _=>PyProof.Rows.sortedAll_old) (Nat.le_succ _) ⟨hlen,out.toList,ep,sZ h1,he'⟩,rfl,q ns' _ h2 h3 (I.hok.fresh (Nat.le_succ _))⟩
end
theorem Br {prog:Program}{w:World}{A:Around}{E:Value->Shared->Prop}{s:Shared}{l:Addr}{items:Array Value}{Q:Value->Shared->Prop}(hl:s.heap.IsList l items)
  (h: ∀s₂:Shared,s₂={ s with heap:=s.heap.push { cls:=.type "list_iterator",data:=.fields #[.ref l,.int 0 0] } } ->
   (s₂.heap.IsListIter s.heap.objs.size l 0/\s₂.heap.IsList l items)->l≠s.heap.objs.size->Q (.ref s.heap.objs.size) s₂):wpAny (model prog w) A (pyIter (.ref l)) Q E s:=by
 have hlt:l < s.heap.objs.size:=by obtain⟨_,e,_⟩:=hl;exact Heap.lt_size e
 exact wpAny_pyIter_list hl (h _ rfl ⟨⟨_,Heap.get?_push_size _ rfl,rfl,rfl⟩,hl.push _⟩ (Nat.ne_of_lt hlt))
theorem Bs {prog:Program}{w:World}{A:Around}{bs:List Bool}{its:List Value}(e:its=bs.map Value.bool) :
  TruthOf prog w A (fun i v=>its.toArray[i]?=some v) (fun i=>bs.getD i false):=fun i v s Q E hv hq=>by
 have hv':its[i]?=some v:=by simpa using hv
 rw[e,List.getElem?_map] at hv';obtain⟨b,hb,rfl⟩:=Option.map_eq_some_iff.mp hv'
 have hg:bs.getD i false=b:=by rw[List.getD_eq_getElem?_getD,hb]<;>rfl
 have hq':Q (bs.getD i false) s:=hq;rw[hg] at hq';exact wpAny_truthy_bool hq'
theorem any_range: ∀bs:List Bool,(List.range bs.length).any (fun i=>bs.getD i false)=bs.any id
 | []=>rfl
 | b::bs=>by
  rw[length_cons,List.range_succ_eq_map,any_cons,any_map,any_cons,<-any_range bs]
  all_goals rfl
theorem all_range: ∀bs:List Bool,(List.range bs.length).all (fun i=>bs.getD i false)=bs.all id
 | []=>rfl
 | b::bs=>by
  rw[length_cons,List.range_succ_eq_map,List.all_cons,all_map,List.all_cons,<-all_range bs]
  all_goals rfl
section
variable {X:Cx}
def Nq (K:Frag):List V->Hp->VK->Prop:=fun vs H Q=> ∃ (a:Addr) (bs:List Bool),vs=[V.ref a]/\SqL K H a (bs.map V.bl)/\Q (.bl (bs.any id)) H
def Nr (K:Frag):List V->Hp->VK->Prop:=fun vs H Q=> ∃ (a:Addr) (bs:List Bool),vs=[V.ref a]/\SqL K H a (bs.map V.bl)/\Q (.bl (bs.all id)) H
theorem Nt (hc:X.calm=true):gD X (.builtin "any") (Nq X.K):=by
 intro pins s σ H vs us Q I r h;obtain⟨a,bs,rfl,hs,q⟩:=h;obtain⟨its,rv,hl,_⟩:=I.list hs;rw[Vals.ref1 r];have hb:=rv.bls;refine call_any_walk (Br hl.isList fun s₂ e2 st hne=>?_);subst e2;refine⟨_,_,_,_,_,_,_,rfl,Walks.list (A:=X.A.in1) (I.ok.hd hc) _ a hne its.toArray,st,Bs hb,fun h' tk hk=>?_⟩;refine⟨.bl _,H,I.kept fun b o eo=>hk b o (fun hmem=>?_) (Heap.get?_push_of_some _ eo),?_,q⟩
 .rcases mem_cons.mp hmem with e1 | hmem
  .exact absurd (e1 ▸ Heap.lt_size eo) (Nat.lt_irrefl _)
  .cases hmem
 .show Value.bool _=Value.bool _;rw[<-any_range,hb,size_toArray,length_map]
theorem Nu (hc:X.calm=true):gD X (.builtin "all") (Nr X.K):=by
 intro pins s σ H vs us Q I r h;obtain⟨a,bs,rfl,hs,q⟩:=h;obtain⟨its,rv,hl,_⟩:=I.list hs;rw[Vals.ref1 r];have hb:=rv.bls;refine call_all_walk (Br hl.isList fun s₂ e2 st hne=>?_);subst e2;refine⟨_,_,_,_,_,_,_,rfl,Walks.list (A:=X.A.in1) (I.ok.hd hc) _ a hne its.toArray,st,Bs hb,fun h' tk hk=>?_⟩;refine⟨.bl _,H,I.kept fun b o eo=>hk b o (fun hmem=>?_) (Heap.get?_push_of_some _ eo),?_,q⟩
 .rcases mem_cons.mp hmem with e1 | hmem
  .exact absurd (e1 ▸ Heap.lt_size eo) (Nat.lt_irrefl _)
  .cases hmem
 .show Value.bool _=Value.bool _;rw[<-all_range,hb,size_toArray,length_map]
end
end L2
namespace L2
open PySem PySem.Spec PyProof.Rows
abbrev Bt (h:Heap) (c:Addr) (v:Option Value):Prop:=h.IsCell c v
def Nv (scope sc:Scope):Scope :=
 { scope with names:=scope.names.map fun (n,k)=>if (k==.free&&sc.kind==.function&&sc.names.lookup n==some .cell) then (n,.cell) else (n,k) }
def cT (cells:List (Str×Addr)):List (Str×NameKind)->List (Str×Addr)->List (Str×Addr)
 | [],acc=>acc
 | (n,k)::r,acc=>if k==.free then cT cells r ((n,(cells.lookup n).getD 0)::acc) else cT cells r acc
theorem Bu (env:Env)(f:Str×NameKind->List (Str×Addr)->Sem (ForInStep (List (Str×Addr))))
  (hf: ∀n k c,f (n,k) c=if k==.free then (do let a <-cellOf env n;pure (.yield ((n,a)::c))) else pure (.yield c)) :
  ∀ (names:List (Str×NameKind)) (acc:List (Str×Addr)),(∀y∈names,y.2= .free-> ∃c,env.cells.lookup y.1=some c)->forIn names acc f=pure (cT env.cells names acc)
 | [],acc,_=>by rw[forIn_nil];rfl
 | (n,k)::r,acc,h=>by
  rw[forIn_cons,hf];have ih:=fun acc=>Bu env f hf r acc fun y hy=>h y (mem_cons_of_mem _ hy);unfold cT
  by_cases hk:(k==NameKind.free)=true
  .rw[if_pos hk,if_pos hk];obtain⟨c,hc⟩:=h (n,k) mem_cons_self (by simpa using hk)
   have e:cellOf env n=pure c:=by unfold cellOf;rw[hc]
   rw[e]
   have e2:(env.cells.lookup n).getD 0=c:=by rw[hc];rfl
   rw[e2];exact ih _
  .rw[if_neg hk,if_neg hk];exact ih _
theorem Ny {scope:Scope}{env:Env}(h: ∀y∈scope.names,y.2= .free-> ∃c,env.cells.lookup y.1=some c):closureFor scope env=pure (cT env.cells scope.names []):=by
 simp only[closureFor];rw[Bu env _ (fun n k c=>rfl) scope.names [] h];rfl
theorem mem_lookup {α:Type}: ∀{l:List (Str×α)} {n:Str} {c:α},(n,c)∈l-> ∃c',l.lookup n=some c'
 | (k,v)::r,n,c,h=>by
  rw[lookup_cons]
  cases hb:n==k with
  | true=>exact⟨_,rfl⟩
  | false =>
   rcases mem_cons.mp h with e | h
   .cases e;simp at hb
   .exact mem_lookup h
theorem pF {cells:List (Str×Addr)}: ∀{names:List (Str×NameKind)} {acc:List (Str×Addr)} {n:Str} {c:Addr},(n,c)∈cT cells names acc->(n,c)∈acc\/((n,.free)∈names/\c=(cells.lookup n).getD 0)
 | [],_,_,_,h=>.inl h
 | (m,k)::r,acc,n,c,h=>by
  unfold cT at h;split at h
  .rename_i hk
   have hk:k= .free:=by simpa using hk
   rcases pF h with h | ⟨h1,h2⟩
   .rcases mem_cons.mp h with e | h
    .cases e;exact .inr ⟨hk ▸ mem_cons_self,rfl⟩
    .exact .inl h
   .exact .inr ⟨mem_cons_of_mem _ h1,h2⟩
  .rcases pF h with h | ⟨h1,h2⟩
   .exact .inl h
   .exact .inr ⟨mem_cons_of_mem _ h1,h2⟩
theorem tu {cells:List (Str×Addr)}: ∀{names:List (Str×NameKind)} {acc:List (Str×Addr)} {p:Str×Addr},p∈acc->p∈cT cells names acc
 | [],_,_,h=>h
 | (m,k)::r,acc,p,h=>by
  unfold cT;split
  .exact tu (mem_cons_of_mem _ h)
  .exact tu h
theorem tD {cells:List (Str×Addr)}: ∀{names:List (Str×NameKind)} {acc:List (Str×Addr)} {n:Str},(n,.free)∈names->(n,(cells.lookup n).getD 0)∈cT cells names acc
 | (m,k)::r,acc,n,h=>by
  unfold cT;rcases mem_cons.mp h with e | h
  .cases e;exact tu mem_cons_self
  .split
   .exact tD h
   .exact tD h
theorem mV: ∀{names:List (Str×NameKind)} {h:Heap} {acc:List (Str×Addr)} {x:Str} {c:Addr},(x,c)∈cellsFrom h.objs.size names acc ->
  (x,c)∈acc\/((x,.cell)∈names/\h.objs.size<=c/\Bt (pushCells h names) c none)
 | [],_,_,_,_,h=>.inl h
 | (n,k)::r,h,acc,x,c,hm=>by
  unfold cellsFrom at hm;unfold pushCells;split at hm
  .rename_i hk
   rw[if_pos hk]
   have hk:k= .cell:=by simpa using hk
   rw[<-Heap.size_push h { cls:=.type "cell",data:=.cell none }] at hm;rcases mV hm with hm | ⟨h1,h2,h3⟩
   .rcases mem_cons.mp hm with e | hm
    .cases e;exact .inr ⟨hk ▸ mem_cons_self,Nat.le_refl _,_,pushCells_keeps r _ _ _ (Heap.get?_push_size _ rfl),rfl⟩
    .exact .inl hm
   .rw[Heap.size_push] at h2;exact .inr ⟨mem_cons_of_mem _ h1,Nat.le_of_succ_le h2,h3⟩
  .rename_i hk
   rw[if_neg hk];rcases mV hm with hm | ⟨h1,h2,h3⟩
   .exact .inl hm
   .exact .inr ⟨mem_cons_of_mem _ h1,h2,h3⟩
theorem pG: ∀{names:List (Str×NameKind)} {n:Nat} {acc:List (Str×Addr)} {p:Str×Addr},p∈acc->p∈cellsFrom n names acc
 | [],_,_,_,h=>h
 | (m,k)::r,n,acc,p,h=>by
  unfold cellsFrom;split
  .exact pG (mem_cons_of_mem _ h)
  .exact pG h
theorem tE: ∀{names:List (Str×NameKind)} {n:Nat} {acc:List (Str×Addr)} {x:Str},(x,.cell)∈names-> ∃c,(x,c)∈cellsFrom n names acc
 | (m,k)::r,n,acc,x,h=>by
  unfold cellsFrom;rcases mem_cons.mp h with e | h
  .cases e;exact⟨n,pG mem_cons_self⟩
  .split
   .exact tE h
   .exact tE h
theorem tG: ∀{names:List (Str×NameKind)} {h:Heap} {acc:List (Str×Addr)} {x y:Str} {c:Addr},(∀p∈acc,p.2 < h.objs.size)->(∀x y c,(x,c)∈acc->(y,c)∈acc->x=y) ->
  (x,c)∈cellsFrom h.objs.size names acc->(y,c)∈cellsFrom h.objs.size names acc->x=y
 | [],_,_,_,_,_,_,hi,h1,h2=>hi _ _ _ h1 h2
 | (n,k)::r,h,acc,x,y,c,hl,hi,h1,h2=>by
  unfold cellsFrom at h1 h2;split at h1
  .rename_i hk
   rw[if_pos hk] at h2;rw[<-Heap.size_push h { cls:=.type "cell",data:=.cell none }] at h1 h2;refine tG (h:=h.push _) (fun p hp=>?_) (fun x y c a b=>?_) h1 h2
   .rw[Heap.size_push];rcases mem_cons.mp hp with rfl | hp
    .exact Nat.lt_succ_self _
    .exact Nat.lt_succ_of_lt (hl p hp)
   .rcases mem_cons.mp a with e | a<;>rcases mem_cons.mp b with e' | b
    .cases e;cases e';rfl
    .cases e;exact absurd (hl _ b) (Nat.lt_irrefl _)
    .cases e';exact absurd (hl _ a) (Nat.lt_irrefl _)
    .exact hi _ _ _ a b
  .rename_i hk
   rw[if_neg hk] at h2;exact tG hl hi h1 h2
theorem Nz {M:Model}{A:Around}{E:Value->Shared->Prop}{s:Shared}{scope:Scope}{globals:Addr}{closure:List (Str×Addr)}{qual:Str}{func:Option Addr}{code:Value}{around:Env}{builtins:Addr}{Q:Env->Shared->Prop}
  (h:Q (newEnv scope s.heap.objs.size globals (cellsFrom (s.heap.objs.size+1) scope.names closure) qual func code (some around) builtins)
   { s with heap:=pushCells (s.heap.push { cls:=.type "dict",data:=.dict #[] }) scope.names }) :
  wpAny M A (newFunctionEnv scope globals closure [] qual func code (some around) builtins) Q E s:=by
 simp only[newFunctionEnv,Option.isSome_some,if_true];refine wpAny_bind (wpAny_alloc ?_);refine wpAny_bind (wpAny_layCells _ (fun n k c=>rfl) scope.names closure _ _ ?_);rw[show ({ s with heap:=s.heap.push { cls:=.type "dict",data:=.dict #[] } }:Shared).heap.objs.size=s.heap.objs.size+1 from Heap.size_push ..];rw[forIn_nil];exact wpAny_bind (wpAny_pure (wpAny_pure h))
theorem tH {sc:Scope}: ∀{names:List (Str×NameKind)} {x:Str} {k:NameKind},
  (names.map fun (n,k)=>if (k==NameKind.free&&sc.kind==.function&&sc.names.lookup n==some .cell) then (n,NameKind.cell) else (n,k)).lookup x=some k ->
  ∃k',names.lookup x=some k'/\(k=k'\/(k'= .free/\k= .cell))
 | [],_,_,h=>by simp at h
 | (n,k₀)::r,x,k,h=>by
  have ih:= @tH sc r x k;have h':List.lookup x ((if (k₀==NameKind.free&&sc.kind==.function&&sc.names.lookup n==some .cell)=true then (n,NameKind.cell) else (n,k₀))::(r.map _))=some k:=h
  cases hx:x==n with
  | true =>
   simp only[lookup_cons,hx]
   by_cases hc:(k₀==NameKind.free&&sc.kind==.function&&sc.names.lookup n==some .cell)=true
   .rw[if_pos hc] at h';simp only[lookup_cons,hx] at h';cases h';simp only[Bool.and_eq_true,beq_iff_eq] at hc;exact⟨k₀,rfl,.inr ⟨hc.1.1,rfl⟩⟩
   .rw[if_neg hc] at h';simp only[lookup_cons,hx] at h';cases h';exact⟨_,rfl,.inl rfl⟩
  | false =>
   simp only[lookup_cons,hx]
   by_cases hc:(k₀==NameKind.free&&sc.kind==.function&&sc.names.lookup n==some .cell)=true
   .rw[if_pos hc] at h';simp only[lookup_cons,hx] at h';exact ih h'
   .rw[if_neg hc] at h';simp only[lookup_cons,hx] at h';exact ih h'
structure iI (N:List Str) (sc scope:Scope) (own:List (Str×Nat)):Prop where
 kind:scope.kind= .function
 uniq: ∀y∈scope.names,scope.names.lookup y.1=some y.2
 ix: ∀p∈own,N[p.2]?=some p.1
 free: ∀y∈scope.names,y.2= .free->sc.names.lookup y.1=some .cell\/sc.names.lookup y.1=some .free
 own: ∀y∈scope.names,y.2= .local\/y.2= .cell->y.1∈own.map (·.1)\/y.1∉N
def wipe (σ:St):List Nat->St
 | []=>σ
 | v::vs=>(wipe σ vs).set v none
theorem tK (σ:St): ∀vs:List Nat,(wipe σ vs).length=σ.length
 | []=>rfl
 | v::vs=>by unfold wipe;rw[List.length_set,tK σ vs]
theorem tL {σ:St}{i:Nat}{x:V}: ∀{vs:List Nat},(wipe σ vs)[i]?=some (some x)->σ[i]?=some (some x)/\i∉vs
 | [],h=>⟨h,by simp⟩
 | v::vs,h=>by
  unfold wipe at h
  by_cases hi:v=i
  .subst hi
   by_cases hv:v < (wipe σ vs).length
   .rw[List.getElem?_set_self hv] at h;cases h
   .rw[List.getElem?_eq_none (by simpa using hv)] at h;cases h
  .rw[List.getElem?_set_ne hi] at h;obtain⟨h1,h2⟩:=tL h;exact⟨h1,by simp only[mem_cons,not_or];exact⟨fun e=>hi e.symm,h2⟩⟩
abbrev Cx.blk (X:Cx) (s:Shared) (H:Hp) (scope:Scope) (cenv:Env) (fp:List Addr):Cx:={ X with s_0:=s,H_0:=H,env:=cenv,outer:=X.stack,ex:=fp,fn:=fun x=>scope.names.lookup x==some .cell,pn:=[],xe:=fun _ _=>False }
section
variable {X:Cx}{pins:List (Addr×Obj)}{σ:St}{H:Hp}{s:Shared}
theorem NK {scope:Scope}{own:List (Str×Nat)}{fp:List Addr}(I:Inv X pins σ H s)(ok:iI X.N X.env.scope scope own)(hN:X.N.Nodup)(hfp: ∀b∈fp,gC X pins H b/\b < s.heap.objs.size) :
  Inv (X.blk s H scope (compEnvC scope (cellsFrom (s.heap.objs.size+1) scope.names (cT X.env.cells scope.names [])) s.heap.objs.size X.env) fp) [] (wipe σ (own.map (·.2))) H { s with heap:=pushCells (s.heap.push { cls:=.type "dict",data:=.dict #[] }) scope.names }:=by
 have hfree: ∀y∈scope.names,y.2= .free-> ∃c,X.env.cells.lookup y.1=some c:=fun y hy e=>by
  rcases ok.free y hy e with k | k
  .exact I.ok.has _ (.inl k)
  .exact I.ok.has _ (.inr k)
 generalize hcenv:compEnvC scope (cellsFrom (s.heap.objs.size+1) scope.names (cT X.env.cells scope.names [])) s.heap.objs.size X.env=cenv;have kp: ∀b o,s.heap.get? b=some o->(pushCells (s.heap.push { cls:=.type "dict",data:=.dict #[] }) scope.names).get? b=some o:=fun b o e=>pushCells_keeps _ _ _ _ (Heap.get?_push_of_some _ e)
 have hL:cenv.locals=s.heap.objs.size:=by rw[<-hcenv];rfl
 have hcl:cenv.cells=cellsFrom (s.heap.objs.size+1) scope.names (cT X.env.cells scope.names []):=by rw[<-hcenv];rfl
 have hsc:cenv.scope=Nv scope X.env.scope:=by rw[<-hcenv];rfl
 rw[<-Heap.size_push s.heap { cls:=.type "dict",data:=.dict #[] }] at hcl
 have cm: ∀{y c},(y,c)∈cT X.env.cells scope.names []->X.env.cells.lookup y=some c/\c < s.heap.objs.size:=fun {y c} hm=>by
  rcases pF hm with hm | ⟨h1,rfl⟩
  .cases hm
  .obtain⟨c,hc⟩:=hfree _ h1 rfl;rw[hc];obtain⟨w,z⟩:=I.cell _ _ hc;exact⟨rfl,z.lt⟩
 have mem: ∀{y c},cenv.cells.lookup y=some c->(X.env.cells.lookup y=some c/\c < s.heap.objs.size)\/(s.heap.objs.size+1<=c/\Bt (pushCells (s.heap.push { cls:=.type "dict",data:=.dict #[] }) scope.names) c none):=fun {y c} e=>by
  rw[hcl] at e;rcases mV (PySem.mem_of_lookup e) with hm | ⟨_,h2,h3⟩
  .exact .inl (cm hm)
  .rw[Heap.size_push] at h2;exact .inr ⟨h2,h3⟩
 have look: ∀{y},scope.names.lookup y=some .free-> ∃c,cenv.cells.lookup y=some c/\X.env.cells.lookup y=some c:=fun {y} hl=>by
  have hy:(y,NameKind.free)∈scope.names:=PySem.mem_of_lookup hl;obtain⟨c',e'⟩:=mem_lookup (pG (names:=scope.names) (n:=(s.heap.push { cls:=.type "dict",data:=.dict #[] }).objs.size) (tD (cells:=X.env.cells) (acc:=[]) hy));rw[<-hcl] at e';refine⟨c',e',?_⟩;rw[hcl] at e';rcases mV (PySem.mem_of_lookup e') with hm | ⟨h1,_,_⟩
  .exact (cm hm).1
  .have:=ok.uniq _ h1;rw[hl] at this;cases this
 have okB:(X.blk s H scope cenv fp).Ok:=by
  refine⟨I.ok.mod,by show cenv.scope.kind=_;rw[hsc];exact ok.kind,by show cenv.globals=_;rw[<-hcenv];exact I.ok.glob,by show cenv.builtins=_;rw[<-hcenv];exact I.ok.blt,by show s.heap.objs.size<=cenv.locals;rw[hL];exact Nat.le_refl _,
   fun y z c e1 e2=>?_,fun y hy=>?_,fun y c z e=>?_,I.ok.hd,I.ok.frames,.inl rfl,fun b hb=>⟨?_,fun y c e z=>?_⟩,I.bs,Nat.le_trans I.ok.bsz I.sz,fun b o e hb=>?_,fun b hb z=>?_,I.stack,I.stkFree⟩
  .have e1:cenv.cells.lookup y=some c:=e1;have e2:cenv.cells.lookup z=some c:=e2;rw[hcl] at e1 e2;refine tG (fun p hp=>?_) (fun y z c a b=>I.ok.inj y z c (cm a).1 (cm b).1) (PySem.mem_of_lookup e1) (PySem.mem_of_lookup e2);rw[Heap.size_push];exact Nat.lt_succ_of_lt (cm (y:=p.1) (c:=p.2) hp).2
  .show ∃c,cenv.cells.lookup y=some c
   have key: ∀k,cenv.kindOf y=some k->(k= .cell\/k= .free)-> ∃c,cenv.cells.lookup y=some c:=fun k hk hk'=>by
    unfold Env.kindOf at hk;rw[hsc] at hk;obtain⟨k',e,r⟩:=tH hk
    have:k'= .cell\/k'= .free:=by
     rcases r with rfl | ⟨rfl,_⟩
     .exact hk'
     .exact .inr rfl
    rcases this with rfl | rfl
    .obtain⟨c,hm⟩:=tE (n:=(s.heap.push { cls:=.type "dict",data:=.dict #[] }).objs.size) (acc:=cT X.env.cells scope.names []) (PySem.mem_of_lookup e);obtain⟨c',e'⟩:=mem_lookup hm;exact⟨c',by rw[hcl];exact e'⟩
    .obtain⟨c,h1,_⟩:=look e;exact⟨c,h1⟩
   rcases hy with hy | hy
   .exact key _ hy (.inl rfl)
   .exact key _ hy (.inr rfl)
  .have z:(scope.names.lookup y==some NameKind.cell)=true:=z
   have z:scope.names.lookup y=some .cell:=by simpa using z
   have e:cenv.cells.lookup y=some c:=e;rw[hcl] at e;rcases mV (PySem.mem_of_lookup e) with hm | ⟨_,h2,_⟩
   .rcases pF hm with hm | ⟨h1,_⟩
    .cases hm
    .have q:=ok.uniq _ h1;rw[z] at q;cases q
   .rw[Heap.size_push] at h2;exact Nat.le_of_succ_le h2
  .show b≠cenv.locals;rw[hL];exact Nat.ne_of_lt (hfp b hb).2
  .have e:cenv.cells.lookup y=some c:=e;rcases mem e with⟨h1,_⟩ | ⟨h1,_⟩
   .exact (hfp b hb).1.2.2.2.2.1 y c h1 z
   .have h2:s.heap.objs.size+1<=b:=by rw[<-z];exact h1
    exact absurd (Nat.lt_of_lt_of_le (hfp b hb).2 (Nat.le_of_succ_le h2)) (Nat.lt_irrefl _)
  .rcases (hfp b hb).1.2.2.2.1 with z | z
   .exact I.ok.noex b o e z
   .exact absurd (Nat.lt_of_lt_of_le (Heap.lt_size e) (Nat.le_trans I.ok.bsz z)) (Nat.lt_irrefl _)
  .rcases mem_cons.mp (I.stkSub b z) with z | z
   .exact (hfp b hb).1.2.1 z
   .exact (hfp b hb).1.2.2.1 z
 refine⟨okB,rfl,I.bare,Un.kept kp,⟨fun _=>none,?_,fun i y av e1 e2 e3=>?_⟩,fun y c e=>?_,?_,fun y c e=>?_,fun p hp=>?_,I.hok.kept kp,by rw[tK];exact I.len⟩
 .show Heap.Ns _ cenv.locals _;rw[hL];exact Heap.Ns.keeps (Heap.Ns.new ..) fun b o e=>pushCells_keeps _ _ _ _ e
 .obtain⟨e2,hne⟩:=tL e2
  have hfr:scope.names.lookup y=some .free/\(cenv.kindOf y=some .cell\/cenv.kindOf y=some .free):=by
   have key: ∀k,cenv.scope.names.lookup y=some k->k= .local\/k= .cell\/k= .free->scope.names.lookup y=some .free/\(cenv.kindOf y=some .cell\/cenv.kindOf y=some .free):=fun k hk hk'=>by
    have hk0:=hk;rw[hsc] at hk;obtain⟨k',e,r⟩:=tH hk
    have no: ¬ (k'= .local\/k'= .cell):=fun hh=>by
     rcases ok.own _ (PySem.mem_of_lookup e) hh with e' | e'
     .obtain⟨p,hp,hpy⟩:=mem_map.mp e';have e3:=ok.ix p hp;have:p.1=y:=hpy;rw[this] at e3;exact hne (mem_map.mpr ⟨p,hp,rW hN e3 e1⟩)
     .exact e' (mem_of_getElem? e1)
    rcases r with rfl | ⟨rfl,rfl⟩
    .rcases hk' with rfl | rfl | rfl
     .exact absurd (.inl rfl) no
     .exact absurd (.inr rfl) no
     .exact⟨e,.inr hk0⟩
    .exact⟨e,.inl hk0⟩
   have e3:Vis cenv.scope y:=e3;rcases e3 with e3 | e3 | e3
   .exact key _ e3 (.inl rfl)
   .exact key _ e3 (.inr (.inl rfl))
   .exact key _ e3 (.inr (.inr rfl))
  obtain⟨m,hn,hl⟩:=I.loc;have hvis:Vis X.env.scope y:=(ok.free _ (PySem.mem_of_lookup hfr.1) rfl).elim (fun k=>.inr (.inl k)) (fun k=>.inr (.inr k));obtain⟨w,r,q⟩:=hl i y av e1 e2 hvis;refine⟨w,r,.inr ⟨hfr.2,?_⟩⟩;obtain⟨c,h1,h2⟩:=look hfr.1;rcases q with⟨k,_⟩ | ⟨_,c',e',z⟩
  .have k:X.env.scope.names.lookup y=some .local:=k
   rcases ok.free _ (PySem.mem_of_lookup hfr.1) rfl with k' | k'<;>rw[show X.env.scope.names.lookup y=_ from k'] at k<;>cases k
  .rw[h2] at e';cases e';exact⟨c,h1,z.keeps kp⟩
 .have e:cenv.cells.lookup y=some c:=e;rcases mem e with⟨h1,_⟩ | ⟨_,z⟩
  .obtain⟨w,z⟩:=I.cell y c h1;exact⟨w,z.keeps kp⟩
  .exact⟨_,z⟩
 .show H cenv.locals=none;rw[hL];exact I.hok.fresh (Nat.le_refl _)
 .have e:cenv.cells.lookup y=some c:=e;rcases mem e with⟨h1,_⟩ | ⟨h1,_⟩
  .exact I.freeC y c h1
  .exact I.hok.fresh (Nat.le_of_succ_le h1)
 .exact absurd (show p∈([]:List (Addr×Obj))++[] from hp) (by simp)
theorem NP {E:Value->Shared->Prop}{D:Addr}{xs:List V}{y:V}{v:Value}{Q:Value->Shared->Prop}(I:Inv X pins σ H s)(hD:H D=some (.lst xs))(hz:xs.length < sizeLine)(r:RelV y v)
  (h: ∀s',Inv X pins σ (upd H D (.lst (xs++[y]))) s'->Q .none s'):wpAny (model X.prog X.w) X.A (call (.builtin "list.append") [.ref D,v]) Q E s:=by
 obtain⟨hz',its,n,ri,e⟩:=I.hok D _ hD;have hl:=ri.length;refine append_at (hsz:=by rw[size_toArray];omega) e fun h' sb ho'=>?_;refine h { s with heap:=h' } (I.write (t':=s.toks) (by rw[hD];trivial) (.inl rfl) (fun b u hb q=>(sb.2 b hb).trans q) ⟨_,ho'⟩ ⟨by rw[length_append];exact hz,its++[v],n+1,ri.append (.cons r .nil),?_⟩);rw[ho'];simp
def PTs (X:Cx) (ifs:List Expr) (t:TT):Prop :=
 ∀ (pins:List (Addr×Obj)) (s:Shared) (σ:St) (H:Hp) (Q:Bool->Hp->Prop),Inv X pins σ H s->t σ H Q ->
  wpAny (model X.prog X.w) X.A (forIn ifs true fun c r=>if r=true then do let ok <-isTrue c X.env (eval c X.env);pure (ForInStep.yield ok) else pure (ForInStep.yield r)) (TP X pins σ Q) X.xe s
def NQ:TT:=fun _ H Q=>Q true H
theorem NT:PTs X [] NQ:=fun _ _ _ H _ I h=>wpAny_tests_nil ⟨H,I,h⟩
theorem NZ {c:Expr}{t:TT}(h:PT X c t):PTs X [c] t:=fun pins s σ H Q I hw=>wpAny_tests_one (h pins s σ H Q I hw)
end
theorem lE {α:Type}{t:Sem α}{Q Q':α->Shared->Prop}{M:Model}{A:Around}{E:Value->Shared->Prop}{s:Shared}(h:wpAny M A t Q (fun _ _=>False) s)(hQ: ∀a s,Q a s->Q' a s):wpAny M A t Q' E s:=wpAny_mono h hQ fun _ _ z=>False.elim z
theorem N5 {prog:Program}{w:World}{A:Around}{R:Result->Shared->Prop}{s:Shared}{elt target iter:Expr}{ifs:List Expr}{scope:Scope}{pos:Pos}{it acc:Value}{env:Env}(I:Nat->Shared->Prop)
  (turn: ∀n s,I n s->wpAny (model prog w) A (pyNext it) (fun r s₁=>match r with
   | none=>R (.ok .next) s₁
   | some v=>wpAny (model prog w) A (letOwnedTupleGo target it v) (fun _ s₁'=>wpAny (model prog w) A (assign target env v) (fun _ s₂ =>
     wpAny (model prog w) A (forIn ifs true fun c r=>if r=true then do let ok <-isTrue c env (eval c env);pure (ForInStep.yield ok) else pure (ForInStep.yield r)) (fun ok s₃ =>
      if ok=true then wpAny (model prog w) A (eval elt env) (fun x s₄ =>
       wpAny (model prog w) A (call (.builtin "list.append") [acc,x]) (fun _ s₅=> ∃m,m < n/\I m s₅) (notedBy (model prog w) A env fun e s'=>R (.error e) s') s₄) (notedBy (model prog w) A env fun e s'=>R (.error e) s') s₃
      else ∃m,m < n/\I m s₃) (notedBy (model prog w) A env fun e s'=>R (.error e) s') s₂) (notedBy (model prog w) A env fun e s'=>R (.error e) s') s₁') (notedBy (model prog w) A env fun e s'=>R (.error e) s') s₁) (notedBy (model prog w) A env fun e s'=>R (.error e) s') s)
  (n:Nat) (h:I n s) :
  codeAny (model prog w) A (.compLoop (.ListComp elt [⟨target,iter,ifs,0⟩] scope pos) 0 it acc env) R s:=by
 refine codeAny_loop rfl I (fun n s hI=>?_) n h;show wpAny _ A ((compTurn (.ListComp elt [⟨target,iter,ifs,0⟩] scope pos) 0 it acc env).onRaise (fun x=>do noteFrame x env;theTreesLotGoes x)) _ _ s;refine wpAny_noted ?_;rw[compTurn_list];refine wpAny_bind (wpAny_standAt (wpAny_bind (wpAny_mono (turn n s hI) (fun r s₁ h₁=>?_) fun _ _ h'=>h')))
 cases r with
 | none=>exact wpAny_pure h₁
 | some v =>
  refine wpAny_bind (wpAny_mono h₁ (fun _ s₁' h₁'=>?_) fun _ _ h'=>h');refine wpAny_bind (wpAny_mono h₁' (fun _ s₂ h₂=>wpAny_bind (wpAny_mono h₂ (fun ok s₃ h₃=>?_) fun _ _ h'=>h')) fun _ _ h'=>h')
  cases ok with
  | false=>exact wpAny_pure ⟨rfl,h₃⟩
  | true =>
   exact wpAny_bind (wpAny_bind (wpAny_mono h₃ (fun x s₄ h₄=>wpAny_bind (wpAny_mono h₄ (fun _ s₅ h₅=>wpAny_pure (wpAny_pure ⟨rfl,h₅⟩)) fun _ _ h'=>h')) fun _ _ h'=>h'))
section
variable {X:Cx}
def tLc (wi:TI) (g:TG) (tt:TT) (te:TE) (vs:List Nat):TE:=fun σ H Q=>wi σ H fun J H1=> ∀D,H1 D=none-> ∃W:Nat->Nat->Hp->Prop,(∃m,W 0 m (upd H1 D (.lst [])))/\ ∀i m H,W i m H ->
 (J.stop i H/\Q (.ref D) H)\/(J.go i H/\ ∃Nx:Hp->Prop,(∀H',Nx H'-> ∃m',m' < m/\W (i+1) m' H')/\ ∀x H',J.yld i H x H'->g x (wipe σ vs) H' fun σ2 H2=>wipe σ2 vs=wipe σ vs/\tt σ2 H2 fun b H3 =>
  if b=true then te σ2 H3 fun y H4=> ∃acc,H4 D=some (.lst acc)/\acc.length < sizeLine/\Nx (upd H4 D (.lst (acc++[y]))) else Nx H3)
theorem Bv {pins:List (Addr×Obj)}{s:Shared}{σ:St}{H:Hp}{Q:VK}{elt tg iter:Expr}{ifs:List Expr}{scope:Scope}{own:List (Str×Nat)}{pos pos':Pos}{wi:TI}{g:TG}{tt:TT}{te:TE}{use:Option (Value->Sem Unit)}{Qf:Value->Shared->Prop}
  (hc:X.calm=true) (hN:X.N.Nodup) (I:Inv X pins σ H s) (hi:PI X tg iter wi) (ok:iI X.N X.env.scope scope own)
  (hg: ∀ (s:Shared) (H:Hp) (C:Addr) (cl:List (Str×Addr)) (fp:List Addr),PG (X.blk s H scope (compEnvC scope cl C X.env) fp) tg g) (ht: ∀ (s:Shared) (H:Hp) (C:Addr) (cl:List (Str×Addr)) (fp:List Addr),PTs (X.blk s H scope (compEnvC scope cl C X.env) fp) ifs tt)
  (he: ∀ (s:Shared) (H:Hp) (C:Addr) (cl:List (Str×Addr)) (fp:List Addr),PE (X.blk s H scope (compEnvC scope cl C X.env) fp) elt te) (hs: ∀x,foldedSetIterable iter X.env x=pure x)
  (h:tLc wi g tt te (own.map (·.2)) σ H Q)
  (hRR: ∀D C s' m H',Inv X pins σ H' s'->Q (.ref D) H'->s'.heap.Ns C m->gC X pins H' C->compPost (model X.prog X.w) X.A X.xe use Qf (.ref D) C (.ok .next) s') :
  wpAny (model X.prog X.w) X.A (comprehension (.ListComp elt [⟨tg,iter,ifs,0⟩] scope pos) scope X.env pos' (newList []) false (eval iter X.env) use) Qf X.xe s:=by
 have hfree: ∀y∈scope.names,y.2= .free-> ∃c,X.env.cells.lookup y.1=some c:=fun y hy e=>by
  rcases ok.free y hy e with k | k
  .exact I.ok.has _ (.inl k)
  .exact I.ok.has _ (.inr k)
 refine wpAny_comprehension_free (use:=use) rfl hs (Ny hfree) ok.kind (fun y hy e=>by rw[ok.uniq y hy,e])
  (thn (hi pins s σ H _ I h) fun xv s1 hx=>thn hx fun itv s2 h2=>?_)
 obtain⟨it,fp,tn,J,H2,e,I2,T,st2,f2,q⟩:=h2;subst e;refine wpAny_newObj_type (Nz ?_) (by show 0<=sizeLine;decide);generalize hD:s2.heap.objs.size=D;have hDn:H2 D=none:=I2.hok.fresh (Nat.le_of_eq hD);obtain⟨W,⟨m0,w0⟩,turn⟩:=q D hDn
 -- the new list
 generalize hs3:({ s2 with heap:=s2.heap.push { cls:=.type "list",data:=.seq ([]:List Value).toArray } }:Shared)=s3
 have I3:Inv X pins σ (upd H2 D (.lst [])) s3:=by
  rw[<-hs3];refine I2.laid (t':=s2.toks) (fun b o e=>Heap.get?_push_of_some _ e) (Nat.le_of_eq hD) ⟨Nat.zero_le _,[],0,.nil,?_⟩;rw[<-hD];exact Heap.get?_push_size _ rfl
 have h3:s3.heap=s2.heap.push { cls:=.type "list",data:=.seq ([]:List Value).toArray }:=by rw[<-hs3]
 have sz: ∀b∈fp,b < s2.heap.objs.size:=fun b hb=>by
  obtain⟨o,e,_⟩:=T.obj _ _ st2 b hb;exact Heap.lt_size e
 have f3: ∀b∈fp,gC X pins (upd H2 D (.lst [])) b/\b < s3.heap.objs.size:=fun b hb=>by
  have hlt:=sz b hb;refine⟨⟨?_,(f2 b hb).2⟩,by rw[h3,Heap.size_push];exact Nat.lt_succ_of_lt hlt⟩;rw[bc (by rw[<-hD];exact Nat.ne_of_lt hlt)];exact (f2 b hb).1
 have st3:tn 0 s3.heap:=T.keep _ _ _ st2 fun b _ o e=>by rw[h3];exact Heap.get?_push_of_some _ e
 have I4:=NK I3 ok hN f3;have pg:=hg s3 (upd H2 D (.lst [])) s3.heap.objs.size (cellsFrom (s3.heap.objs.size+1) scope.names (cT X.env.cells scope.names [])) fp;have pt:=ht s3 (upd H2 D (.lst [])) s3.heap.objs.size (cellsFrom (s3.heap.objs.size+1) scope.names (cT X.env.cells scope.names [])) fp;have pe:=he s3 (upd H2 D (.lst [])) s3.heap.objs.size (cellsFrom (s3.heap.objs.size+1) scope.names (cT X.env.cells scope.names [])) fp;show codeAny _ _ (.compStart (.ListComp elt [⟨tg,iter,ifs,0⟩] scope pos) 0 (.ref it) (.ref D) (compEnvC scope (cellsFrom (s3.heap.objs.size+1) scope.names (cT X.env.cells scope.names [])) s3.heap.objs.size X.env)) (compPost (model X.prog X.w) X.A X.xe use Qf (.ref D) s3.heap.objs.size) { s3 with heap:=pushCells (s3.heap.push { cls:=.type "dict",data:=.dict #[] }) scope.names };have nfp: ∀b∈fp,(upd H2 D (.lst [])) b=none:=fun b hb=>(f3 b hb).1.1;generalize hce:compEnvC scope (cellsFrom (s3.heap.objs.size+1) scope.names (cT X.env.cells scope.names [])) s3.heap.objs.size X.env=ce at I4 pg pt pe ⊢
 have cL:ce.locals=s3.heap.objs.size:=by subst hce;rfl
 generalize hH3:upd H2 D (.lst [])=H3 at I3 I4 pg pt pe w0 nfp f3;generalize hs4:({ s3 with heap:=pushCells (s3.heap.push { cls:=.type "dict",data:=.dict #[] }) scope.names }:Shared)=s4 at I4 ⊢
 have st4:tn 0 s4.heap:=T.keep _ _ _ st3 fun b _ o e=>by rw[<-hs4];exact pushCells_keeps _ _ _ _ (Heap.get?_push_of_some _ e)
 have stat: ∀{σ':St} {H':Hp} {s':Shared},Inv (X.blk s3 H3 scope ce fp) [] σ' H' s'->(∀b∈fp,H' b=none)-> ∀b∈fp,gC (X.blk s3 H3 scope ce fp) [] H' b:=fun {σ' H' s'} I' hn b hb =>
  ⟨hn b hb,(I'.ok.exf b hb).1,I'.ok.exfs b hb,.inl hb,fun x c e=>(I'.ok.exf b hb).2 x c e,fun p hp=>absurd (show p∈([]:List (Addr×Obj))++[] from hp) (by simp)⟩
 have loop:codeAny (model X.prog X.w) X.A (.compLoop (.ListComp elt [⟨tg,iter,ifs,0⟩] scope pos) 0 (.ref it) (.ref D) ce) (compPost (model X.prog X.w) X.A X.xe use Qf (.ref D) s3.heap.objs.size) s4:=by
  refine N5 (fun n s'=> ∃i H',Inv (X.blk s3 H3 scope ce fp) [] (wipe σ (own.map (·.2))) H' s'/\tn i s'.heap/\(∀b∈fp,H' b=none)/\W i n H') ?_ m0 ⟨0,H3,I4,st4,nfp,w0⟩;rintro n s5 ⟨i,H5,I5,st5,n5,w5⟩;rcases turn i n H5 w5 with⟨stop,qq⟩ | ⟨go,Nx,hNx,step⟩
  .have td:=T.done (X.blk s3 H3 scope ce fp) rfl rfl rfl hc i [] s5 _ H5 (fun _ _=>False) I5 (stat I5 n5) st5 stop;refine lE td fun r s6 ⟨hr,I6⟩=>?_;subst hr
   -- back in the def's context
   have I7:Inv X pins σ H5 s6:=I3.call' (ch:=fp) I6.os I6.base I6.hok I6.bare fun b hb=>⟨(f3 b hb).1.2.2.2.1,(f3 b hb).1.2.1,(f3 b hb).1.2.2.2.2.1,(f3 b hb).1.2.2.2.2.2⟩
   have nC:H5 s3.heap.objs.size=none:=by
    have z:H5 ce.locals=none:=I6.free;rw[cL] at z;exact z
   obtain⟨m,hn,_⟩:=I6.loc;have hn:s6.heap.Ns ce.locals m:=hn;rw[cL] at hn;exact hRR D s3.heap.objs.size s6 m H5 I7 qq hn (I3.fpOk (Nat.le_refl _) nC)
  .have ti:=T.item (X.blk s3 H3 scope ce fp) rfl rfl rfl hc i [] s5 _ H5 (fun _ _=>False) I5 (stat I5 n5) st5 go;refine lE ti fun r s6 ⟨u,hr,h6⟩=>?_;subst hr;refine lE h6 fun _ s7 ⟨x,H7,I7,r7,y7,st7,n7⟩=>?_;have I7':=I7.pinned (stat I7 n7) (T.obj _ _ st7);refine lE (pg _ s7 _ H7 x u _ I7' r7 (step x H7 y7)) fun _ s8 ⟨σ8,H8,I8,hw8,q8⟩=>?_;refine lE (pt _ s8 σ8 H8 _ I8 q8) fun b s9 ⟨H9,I9,q9⟩=>?_
   -- the turn's end
   have fin: ∀{s':Shared} {H':Hp},Inv (X.blk s3 H3 scope ce fp) ([]++mL fp s7.heap) σ8 H' s'->Nx H'-> ∃m,m < n/\ ∃i H',Inv (X.blk s3 H3 scope ce fp) [] (wipe σ (own.map (·.2))) H' s'/\tn i s'.heap/\(∀b∈fp,H' b=none)/\W i m H':=fun {s' H'} I' nx=>by
    obtain⟨m',hm,w'⟩:=hNx H' nx
    have pin': ∀b∈fp,∀o,s7.heap.get? b=some o->s'.heap.get? b=some o/\H' b=none:=fun b hb o e =>
     let z:=I'.pin (b,o) (mem_append_right _ (mem_append_right _ (sG hb e)))
     ⟨z.1,z.2.1⟩
    have hl:(wipe σ (own.map (·.2))).length=σ8.length:=by rw[<-hw8,tK]
    refine⟨m',hm,i+1,H',(I'.unpinned (pins:=[])).weak hl (fun j v e=>?_),T.keep _ _ _ st7 fun b hb o e=>(pin' b hb o e).1,fun b hb=>?_,w'⟩
    .rw[<-hw8] at e;exact (tL e).1
    .obtain⟨o,e,_⟩:=T.obj _ _ st7 b hb;exact (pin' b hb o e).2
   cases b with
   | false =>
    simp only[Bool.false_eq_true,if_false] at q9 ⊢;exact fin I9 q9
   | true =>
    simp only[if_true] at q9 ⊢;refine lE (pe _ s9 σ8 H9 _ I9 q9) fun z s10 ⟨yv,H10,I10,r10,acc,hD10,hz10,nx⟩=>?_;exact NP (X:=X.blk s3 H3 scope ce fp) I10 hD10 hz10 r10 fun s11 I11=>fin I11 nx
 exact codeAny_compStart_list loop (T.self X.A 0 _ _ _ st4 loop)
theorem N6 {elt tg iter:Expr}{ifs:List Expr}{scope:Scope}{own:List (Str×Nat)}{pos:Pos}{wi:TI}{g:TG}{tt:TT}{te:TE}(hc:X.calm=true)(hN:X.N.Nodup)(hi:PI X tg iter wi)(ok:iI X.N X.env.scope scope own)
  (hg: ∀ (s:Shared) (H:Hp) (C:Addr) (cl:List (Str×Addr)) (fp:List Addr),PG (X.blk s H scope (compEnvC scope cl C X.env) fp) tg g) (ht: ∀ (s:Shared) (H:Hp) (C:Addr) (cl:List (Str×Addr)) (fp:List Addr),PTs (X.blk s H scope (compEnvC scope cl C X.env) fp) ifs tt)
  (he: ∀ (s:Shared) (H:Hp) (C:Addr) (cl:List (Str×Addr)) (fp:List Addr),PE (X.blk s H scope (compEnvC scope cl C X.env) fp) elt te) (hs: ∀x,foldedSetIterable iter X.env x=pure x:=by intro _;rfl) :
  PE X (.ListComp elt [⟨tg,iter,ifs,0⟩] scope pos) (tLc wi g tt te (own.map (·.2))):=by
 intro pins s σ H Q I h;rw[eval_ListComp]
 refine Bv hc hN I hi ok hg ht he hs h fun D C s' m H' I' q hn f=>⟨m,hn,fun h'' sb=>?_⟩
 obtain⟨f0,f1,f2,f3,f4,f5⟩:=f;exact⟨.ref D,H',I'.turned (t':=s'.toks) (fun b o hb e=>(sb.2 b hb).trans e) f0 f1 f3 f4 f5,rfl,q⟩
theorem N7 {i:Nat}{y:Str}{py:Pos}{elt tg iter:Expr}{ifs:List Expr}{scope:Scope}{own:List (Str×Nat)}{pos spos:Pos}{wi:TI}{g:TG}{tt:TT}{te:TE}(hc:X.calm=true)(hN:X.N.Nodup)(hy:X.N[i]?=some y)(hyl:X.env.scope.names.lookup y=some .local)
  (hsw:swapsWith (.ListComp elt [⟨tg,iter,ifs,0⟩] scope pos) (some (.Name y py)) spos.line X.env=pure true) (hi:PI X tg iter wi) (ok:iI X.N X.env.scope scope own)
  (hg: ∀ (s:Shared) (H:Hp) (C:Addr) (cl:List (Str×Addr)) (fp:List Addr),PG (X.blk s H scope (compEnvC scope cl C X.env) fp) tg g) (ht: ∀ (s:Shared) (H:Hp) (C:Addr) (cl:List (Str×Addr)) (fp:List Addr),PTs (X.blk s H scope (compEnvC scope cl C X.env) fp) ifs tt)
  (he: ∀ (s:Shared) (H:Hp) (C:Addr) (cl:List (Str×Addr)) (fp:List Addr),PE (X.blk s H scope (compEnvC scope cl C X.env) fp) elt te) (hs: ∀x,foldedSetIterable iter X.env x=pure x:=by intro _;rfl) :
  PS X (.Assign [.Name y py] (.ListComp elt [⟨tg,iter,ifs,0⟩] scope pos) spos) (oW (tLc wi g tt te (own.map (·.2))) (iC i)):=by
 intro pins s σ H D I h;rw[exec_Assign_Name_used _ _ _ _ hsw];refine wpAny_bind (wpAny_standAt (wpAny_bind ?_));show wpAny _ X.A (do let _ <-comprehension (.ListComp elt [⟨tg,iter,ifs,0⟩] scope pos) scope X.env (firstIterPos [⟨tg,iter,ifs,0⟩] pos) (newList []) false (eval iter X.env) (some (assign (.Name y py) X.env))) _ _ s;have h:tLc wi g tt te (own.map (·.2)) σ H (fun x H1=>iC i x σ H1 D.nx):=h;refine wpAny_bind (thn (Bv (Qf:=fun _ s'=>SP X pins D .next s') hc hN I hi ok hg ht he hs h fun L C s' m H' I' q hn f=>?_) fun _ s' hq=>wpAny_pure (wpAny_pure hq));show wpAny _ _ (assign (.Name y py) X.env (.ref L)) _ _ _;refine wpAny_assign_Name (zP (v:=V.ref L) I' hN hy (.inl hyl) rfl (fun s2 I2 ⟨a,sb,ha⟩=>?_) (.inr hyl));obtain⟨f0,f1,f2,f3,f4,f5⟩:=f
 have haC:C≠a:=by
  rcases ha with z | z
  .rw[z];exact f1
  .exact fun e=>f4 y a z e.symm
 refine⟨m,hn.sameBut sb haC,fun h3 sb3=>?_⟩;exact⟨_,H',I2.turned (t':=s2.toks) (fun b o hb e=>(sb3.2 b hb).trans e) f0 f1 f3 f4 f5,q⟩
end
def tM (N:List Str) (sc scope:Scope) (own:List (Str×Nat)):Bool :=
 (match scope.kind with | .function=>true | _=>false)&&(scope.names.all fun y=>decide (scope.names.lookup y.1=some y.2))&&(own.all fun p=>decide (N[p.2]?=some p.1)) &&
  (scope.names.all fun y=>match y.2 with
   | .free=>(match sc.names.lookup y.1 with | some .cell=>true | some .free=>true | _=>false)
   | .local=>decide (y.1∈own.map (·.1))||decide (y.1∉N)
   | .cell=>decide (y.1∈own.map (·.1))||decide (y.1∉N)
   | _=>true)
theorem N8 {N:List Str}{sc scope:Scope}{own:List (Str×Nat)}(h:tM N sc scope own=true):iI N sc scope own:=by
 unfold tM at h;simp only[Bool.and_eq_true,all_eq_true,decide_eq_true_eq] at h;obtain⟨⟨⟨h1,h2⟩,h3⟩,h4⟩:=h;refine⟨?_,h2,h3,fun y hy e=>?_,fun y hy e=>?_⟩
 .split at h1
  .assumption
  .cases h1
 .have q:=h4 y hy;simp only[e] at q
  split at q<;>first | exact .inl (by assumption) | exact .inr (by assumption) | cases q
 .have q:=h4 y hy
  rcases e with e | e<;>(simp only[e,Bool.or_eq_true,decide_eq_true_eq] at q;exact q)
end L2
namespace L2
open PySem PySem.Spec PyProof.Rows
section
variable {κ:Type}[DecidableEq κ]
def eZ (kvs:List (κ×V)) (k:κ):Option V:=(kvs.find? fun kv=>decide (kv.1=k)).map (·.2)
def putK (kvs:List (κ×V)) (k:κ) (v:V):List (κ×V) :=
 if (kvs.any fun kv=>decide (kv.1=k))=true then kvs.map (fun kv=>if kv.1=k then (kv.1,v) else kv) else kvs++[(k,v)]
theorem tO {p:κ×V}{r:List (κ×V)}{k:κ}(e:p.1=k):eZ (p::r) k=some p.2:=by simp [eZ,List.find?_cons,e]
theorem tQ {p:κ×V}{r:List (κ×V)}{k:κ}(e: ¬p.1=k):eZ (p::r) k=eZ r k:=by simp [eZ,List.find?_cons,e]
theorem Bw (k:κ): ∀kvs:List (κ×V),(kvs.any fun kv=>decide (kv.1=k))=(eZ kvs k).isSome
 | []=>rfl
 | p::r=>by
  rw[any_cons]
  by_cases e:p.1=k
  .simp only[tO e,decide_eq_true e,Bool.true_or,Option.isSome_some]
  .rw[tQ e,decide_eq_false e,Bool.false_or];exact Bw k r
theorem Bx (kvs:List (κ×V))(k:κ)(v:V):(putK kvs k v).length<=kvs.length+1:=by
 unfold putK;split
 .rw[length_map];omega
 .rw[length_append,length_cons,length_nil];omega
theorem d7.isSome_eq {o:Option V}{u:Option Value}(r:d7 o u):o.isSome=u.isSome:=by
 cases o with
 | none=>cases u with
  | none=>rfl
  | some _=>exact (show False from r).elim
 | some _=>cases u with
  | none=>exact (show False from r).elim
  | some _=>rfl
theorem KV.val {kvs:List (κ×V)}{vs:List (κ×Value)}(r:KV kvs vs)(k:κ):d7 (eZ kvs k) (valueAt vs k):=by
 unfold KV at r
 induction r with
 | nil=>exact True.intro
 | @cons p q ps qs h t ih =>
  obtain⟨h1,h2⟩:=h
  by_cases e:p.1=k
  .have e':q.1=k:=h1.symm.trans e
   have b:valueAt (q::qs) k=some q.2:=by simp [valueAt,List.find?_cons,e']
   rw[tO e,b];exact h2
  .have e': ¬q.1=k:=fun z=>e (h1.trans z)
   have b:valueAt (q::qs) k=valueAt qs k:=by simp [valueAt,List.find?_cons,e']
   rw[tQ e,b];exact ih
theorem KV.any {kvs:List (κ×V)}{vs:List (κ×Value)}(r:KV kvs vs)(k:κ):(kvs.any fun kv=>decide (kv.1=k))=vs.any fun kv=>decide (kv.1=k):=by
 unfold KV at r
 induction r with
 | nil=>rfl
 | cons h t ih=>rw[any_cons,any_cons,ih,h.1]
theorem KV.repl {kvs:List (κ×V)}{vs:List (κ×Value)}(r:KV kvs vs)(k:κ){y:V}{u:Value}(ry:RelV y u) :
  KV (kvs.map fun kv=>if kv.1=k then (kv.1,y) else kv) (vs.map fun kv=>if kv.1=k then (kv.1,u) else kv):=by
 unfold KV at r ⊢
 induction r with
 | nil=>exact .nil
 | @cons p q ps qs h t ih =>
  rw[map_cons,map_cons];refine .cons ?_ ih;obtain⟨h1,h2⟩:=h
  by_cases e:p.1=k
  .rw[if_pos e,if_pos (h1.symm.trans e)];exact⟨h1,ry⟩
  .rw[if_neg e,if_neg (fun z=>e (h1.trans z))];exact⟨h1,h2⟩
theorem KV.put {kvs:List (κ×V)}{vs:List (κ×Value)}(r:KV kvs vs)(k:κ){y:V}{u:Value}(ry:RelV y u):KV (putK kvs k y) (stored vs k u):=by
 unfold putK stored;rw[r.any k]
 by_cases e:(vs.any fun kv=>decide (kv.1=k))=true
 .rw[if_pos e,if_pos e];exact r.repl k ry
 .rw[if_neg e,if_neg e];exact Paired.snoc r ⟨rfl,ry⟩
theorem KV.length {kvs:List (κ×V)}{vs:List (κ×Value)}(r:KV kvs vs):kvs.length=vs.length:=Paired.length r
end
theorem tR {P:Program}{w:World}{k:Key}{u:Value}(r:RelV (kV k) u):(cV P w).is k u=true:=by
 cases k with
 | inl i=>obtain⟨t,e⟩:=(show ∃t,u=Value.int i t from r);subst e;exact J9 P w i t
 | inr x=>obtain⟨t,e⟩:=(show ∃t,u=Value.str x t from r);subst e;exact Ka P w x t
theorem BJ {P:Program}{w:World}: ∀{ks:List Key} {us:List Value},Vals (ks.map kV) us->ItemsAre (cV P w) ks us
 | [],_,r=>by rw[map_nil] at r;cases r;exact .nil
 | k::ks,_,r=>by
  rw[map_cons] at r
  cases r with
  | cons h t=>exact .cons (tR h) (BJ t)
abbrev KT (H:Hp):List (List Key×V)->List (List Key×Addr×Value)->Prop:=Paired fun p q=>p.1=q.1/\H q.2.1=some (.tup (p.1.map kV))/\RelV p.2 q.2.2
theorem KT.val {H:Hp}{kvs:List (List Key×V)}{xs:List (List Key×Addr×Value)}(r:KT H kvs xs)(k:List Key):d7 (eZ kvs k) ((atKey xs k).map (·.2)):=by
 induction r with
 | nil=>exact True.intro
 | @cons p q ps qs h t ih =>
  obtain⟨h1,_,h2⟩:=h
  by_cases e:p.1=k
  .have e':q.1=k:=h1.symm.trans e
   have b:atKey (q::qs) k=some q.2:=by simp [atKey,List.find?_cons,e']
   rw[tO e,b];exact h2
  .have e': ¬q.1=k:=fun z=>e (h1.trans z)
   have b:atKey (q::qs) k=atKey qs k:=by simp [atKey,List.find?_cons,e']
   rw[tQ e,b];exact ih
theorem KT.repl {H:Hp}{kvs:List (List Key×V)}{xs:List (List Key×Addr×Value)}(r:KT H kvs xs)(k:List Key){y:V}{u:Value}(ry:RelV y u) :
  KT H (kvs.map fun kv=>if kv.1=k then (kv.1,y) else kv) (xs.map (putAt k u)):=by
 induction r with
 | nil=>exact .nil
 | @cons p q ps qs h t ih =>
  rw[map_cons,map_cons];refine .cons ?_ ih;obtain⟨h1,h2,h3⟩:=h;unfold putAt
  by_cases e:p.1=k
  .rw[if_pos e,if_pos (h1.symm.trans e)];exact⟨h1,h2,ry⟩
  .rw[if_neg e,if_neg (fun z=>e (h1.trans z))];exact⟨h1,h2,h3⟩
theorem KT.put {H:Hp}{kvs:List (List Key×V)}{xs:List (List Key×Addr×Value)}(r:KT H kvs xs)(k:List Key){b:Addr}{y:V}{u:Value}(hb:H b=some (.tup (k.map kV)))(ry:RelV y u) :
  KT H (putK kvs k y) (storedH xs k b u):=by
 have e:(kvs.any fun kv=>decide (kv.1=k))=(atKey xs k).isSome:=by
  rw[Bw,(r.val k).isSome_eq,Option.isSome_map]
 unfold putK storedH;rw[e]
 by_cases q:(atKey xs k).isSome=true
 .rw[if_pos q,if_pos q];exact r.repl k ry
 .rw[if_neg q,if_neg q];exact Paired.snoc r ⟨rfl,hb,ry⟩
theorem KT.keeps {H H':Hp}{kvs:List (List Key×V)}{xs:List (List Key×Addr×Value)}(r:KT H kvs xs)(ht: ∀b ys,H b=some (.tup ys)->H' b=some (.tup ys)):KT H' kvs xs :=
 Paired.mapP r fun _ _ z=>⟨z.1,ht _ _ z.2.1,z.2.2⟩
section
variable {P:Program}{w:World}{H:Hp}{h:Heap}{a:Addr}
theorem BK {u:HO}(ok:HOk P w H h)(e:Rd H a u):cB P w H h a u:=e.ok ok
theorem tU {kvs:List (Key×V)}(ok:HOk P w H h)(e:Rd H a (.dK kvs)):kvs.length<=sizeLine/\(a==sysModules)=false/\ ∃vs,KV kvs vs/\h.DictOf (cV P w) a vs :=
 show cB P w H h a (.dK kvs) from BK ok e
theorem Oa {kvs:List (Key×V)}(ok:HOk P w H h)(e:H a=some (.dK kvs)):kvs.length<=sizeLine/\(a==sysModules)=false/\ ∃vs,KV kvs vs/\h.DictOf (cV P w) a vs:=tU ok (.inl e)
theorem tV {ks:List Key}(ok:HOk P w H h)(e:H a=some (.tup (ks.map kV))):(tupleKind (cV P w)).is h ks a:=by
 obtain⟨_,its,r,o,h1,h2,n,h3⟩:=(show cB P w H h a (.tup (ks.map kV)) from ok a _ e)
 exact⟨o,its.toArray,n,h1,h2,h3,by simpa using BJ r⟩
theorem tW {kvs:List (List Key×V)}(ok:HOk P w H h)(e:Rd H a (.dT kvs)):kvs.length<=sizeLine/\(a==sysModules)=false /\
  ∃xs,KT H kvs xs/\h.DictOfH (tupleKind (cV P w)) a xs:=by
 obtain⟨z,y,xs,r,o,es,ep,h1,h2,h3,h4,h5⟩:=(show cB P w H h a (.dT kvs) from BK ok e)
 refine⟨z,y,xs,r,o,es,ep,h1,h2,h3,h4,fun x hx=>?_,h5⟩
 have all: ∀{l:List (List Key×V)} {m:List (List Key×Addr×Value)},KT H l m-> ∀x∈m,(tupleKind (cV P w)).is h x.1 x.2.1:=by
  intro l m q
  induction q with
  | nil=>intro x hx;exact nomatch hx
  | @cons p q ps qs hq t ih =>
   intro x hx;rcases mem_cons.mp hx with e | hx
   .subst e;exact tV ok (by rw[<-hq.1];exact hq.2.1)
   .exact ih x hx
 exact all r x hx
theorem Ob {kvs:List (List Key×V)}(ok:HOk P w H h)(e:H a=some (.dT kvs)):kvs.length<=sizeLine/\(a==sysModules)=false /\
  ∃xs,KT H kvs xs/\h.DictOfH (tupleKind (cV P w)) a xs:=tW ok (.inl e)
end
def jR (H:Hp) (a:Addr) (y:V) (r:Option V):Prop :=
 (∃kvs k,Rd H a (.dK kvs)/\y=kV k/\r=eZ kvs k)\/ ∃kvs k b,Rd H a (.dT kvs)/\y= .ref b/\H b=some (.tup (k.map kV))/\r=eZ kvs k
def mW (H:Hp) (a:Addr) (y v:V) (H':Hp):Prop :=
 (∃kvs k,H a=some (.dK kvs)/\y=kV k/\kvs.length < sizeLine/\H'=upd H a (.dK (putK kvs k v))) \/
 ∃kvs k b,H a=some (.dT kvs)/\y= .ref b/\H b=some (.tup (k.map kV))/\kvs.length < sizeLine/\H'=upd H a (.dT (putK kvs k v))
theorem jR.k {H:Hp}{a:Addr}{kvs:List (Key×V)}{k:Key}(e:H a=some (.dK kvs)):jR H a (kV k) (eZ kvs k):=.inl ⟨kvs,k,.inl e,rfl,rfl⟩
theorem mW.k {H:Hp}{a:Addr}{kvs:List (Key×V)}{k:Key}{v:V}(e:H a=some (.dK kvs))(hl:kvs.length < sizeLine):mW H a (kV k) v (upd H a (.dK (putK kvs k v))):=.inl ⟨kvs,k,e,rfl,hl,rfl⟩
section
variable {X:Cx}{pins:List (Addr×Obj)}{σ:St}{H:Hp}{s:Shared}{a:Addr}{y v:V}{u r:Value}{o:Option V}{A:Around}{E:Value->Shared->Prop}
theorem Inv.big (I:Inv X pins σ H s):sysModules < s.heap.objs.size:=by
 have h:mainGlobals < s.heap.objs.size:=(I.mod.glob.keeps I.bk).lt;exact Nat.lt_trans (by decide) h
theorem Oc {Q:Value->Shared->Prop}(hu:A.units+1 < cLine)(I:Inv X pins σ H s)(g:jR H a y (some v))(ry:RelV y u)(h: ∀w' s',Inv X pins σ H s'->RelV v w'->Q w' s') :
  wpAny (model X.prog X.w) A (getItem (.ref a) u) Q E s:=by
 rcases g with⟨kvs,k,e,ey,l⟩ | ⟨kvs,k,b,e,ey,eb,l⟩
 .subst ey;obtain⟨z,hd,vs,rel,dd⟩:=tU I.hok e;obtain⟨w',hw,rw'⟩:=d7.some_of (v:=v) (o:=valueAt vs k) (by rw[l];exact rel.val k);exact wpAny_getItem_of (tR ry) dd.mapOf hw (h w' _ (I.tok _) rw')
 .subst ey;cases (show u=Value.ref b from ry);obtain⟨z,hd,xs,rel,dd⟩:=tW I.hok e;obtain⟨w',hw,rw'⟩:=d7.some_of (v:=v) (o:=(atKey xs k).map (·.2)) (by rw[l];exact rel.val k);obtain⟨p,hp,hp2⟩:=Option.map_eq_some_iff.mp hw;refine wpAny_getItem_heap (tupleKind_room_in1 hu) (tV I.hok eb) dd hp ?_;rw[hp2];exact h w' _ (I.tok _) rw'
theorem BL {h':Heap}{t':Nat}{ob:HO}(I:Inv X pins σ H s)(mu:Mut (H a))(hs:Heap.SameBut a s.heap h')(he: ∃q,h'.get? a=some q)(new:cB X.prog X.w (upd H a ob) h' a ob) :
  Inv X pins σ (upd H a ob) { s with heap:=h',toks:=t' } :=
 I.write (x:=a) (e:=a) mu (.inl rfl) (fun b q hb z=>(hs.2 b hb).trans z) he new
theorem Od {P:Program}{w:World}{H':Hp}{h':Heap}{kvs:List (Key×V)}{vs:List (Key×Value)}(z:kvs.length<=sizeLine)(hd:(a==sysModules)=false)(rel:KV kvs vs)(dd:h'.DictOf (cV P w) a vs) :
  cB P w H' h' a (.dK kvs):=⟨z,hd,vs,rel,dd⟩
theorem Oe {H':Hp}{Q:Unit->Shared->Prop}(hu:A.units+1 < cLine)(I:Inv X pins σ H s)(g:mW H a y v H')(ry:RelV y u)(rv:RelV v r)(h: ∀s',Inv X pins σ H' s'->Q () s') :
  wpAny (model X.prog X.w) A (setItem (.ref a) u r) Q E s:=by
 rcases g with⟨kvs,k,e,ey,l,eH⟩ | ⟨kvs,k,b,e,ey,eb,l,eH⟩
 .subst ey eH;obtain⟨z,hd,vs,rel,dd⟩:=Oa I.hok e
  have hz:vs.length<=sizeLine:=by rw[<-rel.length];exact z
  have hl:(putK kvs k v).length<=sizeLine:=by have:=Bx kvs k v;omega
  refine wpAny_setItem_pairs (hsz:=hz) (tR ry) dd fun h' dd' hs=>h _ ?_
  have he: ∃q,h'.get? a=some q:=let ⟨q,_,_,hq,_⟩:=dd';⟨q,hq⟩
  exact BL I (by rw[e];exact True.intro) hs he (Od hl hd (rel.put k rv) dd')
 .subst ey eH;cases (show u=Value.ref b from ry);obtain⟨z,hd,xs,rel,dd⟩:=Ob I.hok e
  have hz:xs.length<=sizeLine:=by rw[<-Paired.length rel];exact z
  have hl:(putK kvs k v).length<=sizeLine:=by have:=Bx kvs k v;omega
  refine wpAny_setItem_heap (hsz:=hz) (tupleKind_room_in1 hu) (tV I.hok eb) dd fun h' dd' hs=>h _ ?_;obtain⟨q,es,ep,hq,h2,h3,h4,_,h5⟩:=dd';refine BL I (by rw[e];exact True.intro) hs ⟨q,hq⟩ ⟨hl,hd,_,(rel.put k eb rv).keeps fun c ys ec=>?_,q,es,ep,hq,h2,h3,h4,h5⟩;rw[bc (Kc ec e (fun z=>nomatch z))];exact ec
end
def pH (i:Expr):Prop:= ∀ov iv,subscripted i false ov iv=operate [ov,iv] (getItem ov iv)
theorem Og {prog:Program}{w:World}{A:Around}{E:Value->Shared->Prop}{s:Shared}{env:Env}{value slice:Expr}{pos:Pos}{T id:String}{Q:Value->Shared->Prop}
  (hl:typeLookup (.type T) "__getitem__"=pure (some (.builtin id))) (hs:pH slice)
  (h:wpAny (model prog w) A (eval value env) (fun o s₁=>wpAny (model prog w) A (eval slice env) (fun i s₂=>s₂.TypeIs o T/\wpAny (model prog w) A (getItem o i) Q E s₂) E s₁) E s) :
  wpAny (model prog w) A (eval (.Subscript value slice pos) env) Q E s:=by
 refine Subscript_ (wpAny_mono h (fun o s₁ h₁=>wpAny_mono h₁ (fun i s₂ h₂=>?_) fun _ _ x=>x) fun _ _ x=>x);obtain⟨hT,h₂⟩:=h₂;unfold subscriptTail;refine wpAny_bind ?_;rw[getitemInPython_of_ne hT.not_modules];refine wpAny_bind (wpAny_specialOf hT hl ?_)
 have fin:wpAny (model prog w) A (subscripted slice false o i) (fun r s₃=>wpAny (model prog w) A (letTemporaryGo value o r >>= fun _=>pure r) Q E s₃) E s₂:=by
  rw[hs o i];exact wpAny_operating (wpAny_mono h₂ (fun r s₃ h₃=>wpAny_bind (wpAny_letTemporaryGo (wpAny_pure h₃))) fun _ _ x=>x)
 first
  | exact wpAny_pure (wpAny_bind fin)
  | exact wpAny_bind (wpAny_pure (wpAny_bind fin))
  | exact wpAny_bind fin
theorem Oh {X:Cx}{pins:List (Addr×Obj)}{σ:St}{H:Hp}{s:Shared}{a:Addr}{y:V}{o:Option V}(I:Inv X pins σ H s)(g:jR H a y o):s.TypeIs (.ref a) "dict":=by
 rcases g with⟨kvs,k,e,_,_⟩ | ⟨kvs,k,b,e,_,_,_⟩
 .obtain⟨_,_,vs,_,dd⟩:=tU I.hok e;exact dd.typeIs
 .obtain⟨_,_,xs,_,dd⟩:=tW I.hok e;exact dd.typeIs
def tX (td ty:TE):TE:=fun σ H Q=>td σ H fun x H1=>ty σ H1 fun y H2=> ∃a v,x= .ref a/\jR H2 a y (some v)/\Q v H2
def BP (td ty tv:TE):TS:=fun D σ H=>tv σ H fun v H1=>td σ H1 fun x H2=>ty σ H2 fun y H3=> ∃a H4,x= .ref a/\mW H3 a y v H4/\D.nx σ H4
section
variable {X:Cx}{o i e value:Expr}{pos pos' tpos:Pos}{td ty tv:TE}
theorem BR (hu:X.A.units+1 < cLine)(ho:PE X o td)(hi:PE X i ty)(hs:pH i):PE X (.Subscript o i pos) (tX td ty):=by
 intro pins s σ H Q I h;refine Og PySem.F.slot_dict_getitem.lookup hs (thn (ho pins s σ H _ I h) fun u s1 ⟨x,H1,I1,rx,q1⟩=>thn (hi pins s1 σ H1 _ I1 q1) fun iv s2 ⟨y,H2,I2,ry,a,v,ex,g,q2⟩=>?_);subst ex;obtain rfl:u=Value.ref a:=rx;exact⟨Oh I2 g,Oc hu I2 g ry fun w' s3 I3 rw'=>⟨v,H2,I3,rw',q2⟩⟩
theorem Oi (hu:X.A.units+1 < cLine)(ho:PE X o td)(hi:PE X i ty)(hv:PE X value tv)(hs:swapsWith value (some (.Subscript o i pos')) pos.line X.env=pure false) :
  PS X (.Assign [.Subscript o i pos'] value pos) (BP td ty tv):=by
 intro pins s σ H D I h;refine wpAny_Assign_Subscript (thn (hv pins s σ H _ I h) fun r s1 ⟨v,H1,I1,rv,q1⟩=>thn (ho pins s1 σ H1 _ I1 q1) fun u s2 ⟨x,H2,I2,rx,q2⟩=>thn (hi pins s2 σ H2 _ I2 q2) fun iv s3 ⟨y,H3,I3,ry,a,H4,ex,g,q3⟩=>?_) hs;subst ex;obtain rfl:u=Value.ref a:=rx
 exact Oe hu I3 g ry rv fun s4 I4=>⟨σ,H4,I4,q3⟩
end
theorem Oj {P:Program}{w:World}{H:Hp}(h:Heap)(hb:sysModules < h.objs.size):cB P w H (h.push { cls:=.type "dict",data:=.dict #[] }) h.objs.size (.dK []) :=
 ⟨Nat.zero_le _,beq_eq_false_iff_ne.mpr (Ne.symm (Nat.ne_of_lt hb)),[],.nil,Heap.DictOf.new h⟩
def Ol:TE:=fun _ H Q=> ∀p,H p=none->Q (.ref p) (upd H p (.dK []))
section
variable {X:Cx}{pos:Pos}
theorem Om:PE X (.Dict [] [] pos) Ol:=fun pins s σ H Q I h =>
 wpAny_Dict_empty ⟨.ref s.heap.objs.size,_,I.laid (a:=s.heap.objs.size) (o:=.dK []) (t':=s.toks) (fun _ _ q=>Heap.get?_push_of_some _ q) (Nat.le_refl _) (Oj s.heap I.big),rfl,h _ (I.hok.fresh (Nat.le_refl _))⟩
end
end L2
namespace L2
open PySem PySem.Spec PyProof.Rows
section
variable {X:Cx}{pins:List (Addr×Obj)}{σ:St}{H:Hp}{s:Shared}{h':Heap}
theorem Inv.turnedNew {t':Nat}{ch:List Addr}{T:Addr}{ob:HO}(I:Inv X pins σ H s)(k: ∀b o,b∉ch->s.heap.get? b=some o->h'.get? b=some o)(hf: ∀b∈ch,gC X pins H b)(hT:s.heap.objs.size<=T)
  (new:cB X.prog X.w (upd H T ob) h' T ob):Inv X pins σ (upd H T ob) { s with heap:=h',toks:=t' }:=by
 have hn:H T=none:=I.hok.fresh hT
 have nit: ∀b u,H b=some u->b∉ch:=fun b u e z=>by
  have q:=(hf b z).1;rw[q] at e;cases e
 refine I.step (g':=s.gens) (d':=s.drawn) (ch:=ch) (fun b hb=>⟨(hf b hb).2.2.2.1,(hf b hb).2.1,(hf b hb).2.2.2.2.1,(hf b hb).2.2.2.2.2⟩) (fun b o _ _ hc e _=>k b o hc e) (fun b o _ _ hc e _=>⟨o.slots,k b o hc e⟩)
  (fun b o _ e n=>?_) (fun b o hc e=>⟨o,k b o hc e⟩) (fun b xs e=>?_) (fun b o u e=>?_) (fun b ps e=>⟨#[],?_⟩) (fun m hm=>?_) (fun b u e=>?_) I.bare
 .rw[bc (Nat.ne_of_lt (Nat.lt_of_lt_of_le (Heap.lt_size e) hT))];exact n
 .rw[bc (bW e hn)];exact e
 .rw[bc (bW e hn)];exact e
 .rw[bc (bW e hn),e];simp
 .obtain⟨o,es,ep,ho,r⟩:=hm;exact⟨o,es,ep,k _ o (fun z=>(hf _ z).2.1 rfl) ho,r⟩
 .by_cases hb:b=T
  .subst hb;rw[dC] at e;cases e;exact new
  .rw[bc hb] at e
   refine (I.hok b u e).stay (fun c v hc q=>k c v ?_ q) (fun c q=>by rw[bc (bW q hn)];exact q) fun c xs q=>by rw[bc (bW q hn)];exact q
   rcases hc with z | z
   .rw[z];exact nit b u e
   .exact nit c _ z
end
def Ite (K:Frag) (a:Addr):It :=
 ⟨fun i H=> ∃ (xs:List V) (x:V),SqL K H a xs/\xs[i]?=some x,fun i H v H'=> ∃T x,v= .ref T/\H T=none/\H'=upd H T (.tup [.int (i:Nat),x])/\ ∀xs,SqL K H a xs->xs[i]?=some x,fun i H=> ∃xs:List V,SqL K H a xs/\xs.length<=i⟩
theorem Oo {P:Program}{w:World}{K:Frag}{elts:List Expr}{kk:Nat}{tpos:Pos}(a e it:Addr) :
  Turn P w K (.Tuple elts kk tpos) (Ite K a) [e,it] e (fun i h=>(∃old,IsEnum h e it ((i:Nat):Int) old)/\h.IsListIter it a i/\e≠it) where
 mem:=by simp
 obj:=fun i h st b hb=>by
  obtain⟨⟨old,he⟩,⟨o,ho,hc,hd⟩,_⟩:=st
  have e':b=e\/b=it:=by simpa using hb
  rcases e' with z | z
  .rw[z];exact⟨_,he,fun v q=>nomatch q⟩
  .rw[z];exact⟨o,ho,fun v q=>by rw[hd] at q;cases q⟩
 keep:=fun i h h' st k=>let ⟨⟨old,he⟩,hi,hne⟩:=st;⟨⟨old,k e (by simp) _ he⟩,hi.at fun o q=>k it (by simp) o q,hne⟩
 item:=by
  intro X hP hw hK hc i pins s σ H E I hf st hg;subst hP hw hK;obtain⟨⟨old,he⟩,hit,hne⟩:=st;obtain⟨xs,x,hq,hx⟩:=hg;obtain⟨its,rv,p,hz⟩:=I.list hq;obtain⟨u,hu,ru⟩:=rv.get hx;have hel:e < s.heap.objs.size:=Heap.lt_size he
  have hil:it < s.heap.objs.size:=by obtain⟨_,q,_⟩:=hit;exact Heap.lt_size q
  refine wpAny_pyNext_enum_item he hit p.isList (x:=u) (by simpa using hu) hne fun h' ho hit' hT hsz hk=>?_;refine⟨_,rfl,wpAny_letOwnedTupleGo_enum (s:={ s with heap:=h',toks:=s.toks+1 }) ho fun h'' he' sb=>?_⟩;have hT2:h''.get? s.heap.objs.size=some { cls:=.type "tuple",data:=.seq #[.int i s.toks,u] }:=(sb.2 _ (Nat.ne_of_gt hel)).trans hT
  have new:cB X.prog X.w (upd H s.heap.objs.size (.tup [.int (i:Nat),x])) h'' s.heap.objs.size (.tup [.int (i:Nat),x]) :=
   ⟨by show 2<=sizeLine;decide,[.int i s.toks,u],.cons ⟨_,rfl⟩ (.cons ru .nil),⟨_,hT2,rfl,_,rfl⟩⟩
  have I1:Inv X pins σ (upd H s.heap.objs.size (.tup [.int (i:Nat),x])) { s with heap:=h'',toks:=s.toks+1 } :=
   I.turnedNew (ch:=[e,it]) (fun b ob hb q=>(sb.2 b (fun z=>hb (by simp [z]))).trans (hk b ob (fun z=>hb (by simp [z])) (fun z=>hb (by simp [z])) q)) hf (Nat.le_refl _) new
  refine⟨.ref s.heap.objs.size,_,I1,rfl,⟨_,x,rfl,I.hok.fresh (Nat.le_refl _),rfl,fun ys hy=>by rw[I.list_inj hy hq];exact hx⟩,⟨⟨u,?_⟩,hit'.at fun o q=>(sb.2 it (Ne.symm hne)).trans q,hne⟩,fun b hb=>?_⟩
  .have e1:((i+1:Nat):Int)=(i:Int)+1:=by omega
   rw[e1];exact he'
  .have hb':b < s.heap.objs.size:=by
    have e':b=e\/b=it:=by simpa using hb
    rcases e' with z | z
    .rw[z];exact hel
    .rw[z];exact hil
   rw[bc (Nat.ne_of_lt hb')];exact (hf b hb).1
 done:=by
  intro X hP hw hK hc i pins s σ H E I hf st hg;subst hP hw hK;obtain⟨⟨old,he⟩,hit,hne⟩:=st;obtain⟨xs,hq,hx⟩:=hg;obtain⟨its,rv,p,hz⟩:=I.list hq;obtain⟨f0,f1,f2,f3,f4,f5⟩:=hf it (by simp);have hl:=rv.length
  exact wpAny_pyNext_enum_end (I.ok.hd hc) he hit p.isList (by simp;omega) fun h' eb=>⟨rfl,I.turned (t':=s.toks) (fun b o hb q=>eb b o hb q) f0 f1 f3 f4 f5⟩
 self:=fun A i s Q E st h=>let ⟨⟨_,he⟩,_⟩:=st;wpAny_pyIter_enum he h
def tY (K:Frag) (ta:TA):TI:=fun σ H R=>ta σ H fun vs H1=> ∃a xs,vs=[.ref a]/\SqL K H1 a xs/\R (Ite K a) H1
theorem BV {X:Cx}{e:Expr}{ta:TA}{p pos tpos:Pos}{elts:List Expr}{kk:Nat}(hg:Gl X "enumerate")(hm:X.mg "enumerate"=none)(ha:PA X [e] ta)(hs:starEach [e] X.env=[(false,eval e X.env)]:=by rfl) :
  PI X (.Tuple elts kk tpos) (.Call (.Name "enumerate" p) [e] [] pos) (tY X.K ta):=by
 intro pins s σ H R I h;refine Call_ (jh I hg hm boot_enumerate (PyProof.Rows.callWith_type1 (thn (ha pos pins s σ H _ I h) fun us s1 ⟨vs,H1,I1,r1,q1⟩=>?_) hs rfl));obtain⟨a,xs,ex,hq,q⟩:=q1;subst ex
 cases r1 with
 | cons r rr =>
  cases rr;cases r;obtain⟨its,rv,p',hz⟩:=I1.list hq;refine call_enumerate_list p'.isList fun h' he hit hsz hk=>wpAny_pyIter_enum he ?_;have I2:Inv X pins σ H1 { s1 with heap:=h' }:=I1.kept (t':=s1.toks) hk;refine⟨s1.heap.objs.size+1,[s1.heap.objs.size+1,s1.heap.objs.size],_,_,H1,rfl,I2,Oo a (s1.heap.objs.size+1) s1.heap.objs.size,⟨⟨.none,he⟩,hit,Nat.succ_ne_self _⟩,fun b hb=>?_,q⟩
  have e':b=s1.heap.objs.size+1\/b=s1.heap.objs.size:=by simpa using hb
  have hle:s1.heap.objs.size<=b:=by
   rcases e' with z | z
   .rw[z];exact Nat.le_add_right _ _
   .rw[z];exact Nat.le_refl _
  exact I1.fpOk hle (I1.hok.fresh hle)
end L2
namespace L2
open PySem PySem.Spec PyProof.Rows
set_option maxRecDepth 100000 in
set_option maxHeartbeats 0 in
def inClass (s:Stmt) (j:Nat):Stmt:=match s with
 | .ClassDef _ _ _ body _ _ _ _ _ _ _=>body.getD j (.Pass ⟨0,0,0,0⟩)
 | _=>.Pass ⟨0,0,0,0⟩
def jT (s:Stmt):Arguments:=match s with
 | .FunctionDef _ a _ _ _ _ _ _ _ _=>a
 | _=>{ posonlyargs:=[],args:=[],vararg:=none,kwonlyargs:=[],kw_defaults:=[],kwarg:=none,defaults:=[] }
def gV (s:Stmt):List Stmt:=match s with
 | .FunctionDef _ _ b _ _ _ _ _ _ _=>b
 | _=>[]
def ak (s:Stmt):Scope:=match s with
 | .FunctionDef _ _ _ _ _ _ sc _ _ _=>sc
 | _=>{ kind:=.function,names:=[],isGenerator:=false,isCoroutine:=false }
abbrev CX0:CXT:=fun _ _ _ _ _ _=>False
abbrev E0:XK:=fun _ _ _=>False
theorem fM {X:Cx}:jk CX0 X E0:=fun _ _ _ _ _ _ _ h=>h.elim
structure Fun (K:Frag) (x qual:Str) (st:Stmt) (f:Addr) (fd:FuncData):Prop where
 ex: ∃ (oc:Value) (od:Option Addr) (kV doc pm:Value) (an:Option Addr) (cdv ct:Value) (osl:Array (Option Value)),
  fd=fnOf x qual (jT st) (gV st) (ak st) .none kV doc pm an cdv ct/\K.lookup f=some ⟨oc,od,.func fd,osl⟩/\codeIn K cdv qual=true
 kp:keepIn K (.ref f)=true
section
variable {P:Program}{w:World}{K:Frag}{mg:Str->Option Value}{base:Heap}
theorem Fun.ok {x qual:Str}{st:Stmt}{f:Addr}{fd:FuncData}{N ps:List Str}{k:Nat}{sp:Sp}(F:Fun K x qual st f fd)(S:ao N ps (ak st))(len: ∀vs H Q E,sp vs H Q E->vs.length=ps.length)
  (hbody: ∀ (cdv:Value) (A:Around) (outer:List Env) (s:Shared) (H:Hp) (vs:List V) (Q:VK) (E:XK),aR k (A.deeper (envOfC qual (ak st) s.heap.objs.size f cdv))->sp vs H Q E ->
   ∃t,PSs (iD CX0 P w K mg base N qual (ak st) f cdv A outer s H E).nox (gV st) t/\t { nx:=fun _ H'=>Q .non H',rt:=Q } (start N vs) H):au P w K mg base CX0 (k+1) f fd ps sp:=by
 obtain⟨oc,od,kV,doc,pm,an,cdv,ct,osl,rfl,lk,hcd⟩:=F.ex;refine MP lk hcd S len fun A outer s H vs Q E hr hsp=>?_;obtain⟨t,h,q⟩:=hbody cdv A outer s H vs Q E hr hsp;exact⟨t,h.nox,q⟩
end
theorem tZ {A:Around}{k:Nat}(hr:aR k A):A.units+1 < cLine:=Nat.lt_of_le_of_lt (Nat.add_le_add_left (by decide:1<=64) _) hr.units
def aB (H H':Hp):Prop:= ∀b o,H b=some o->H' b=some o
theorem aB.refl (H:Hp):aB H H:=fun _ _ h=>h
theorem aB.trans {H H1 H2:Hp}(a:aB H H1)(b:aB H1 H2):aB H H2:=fun c o h=>b c o (a c o h)
theorem aB.free {H H':Hp}(e:aB H H'){l:Addr}(h:H' l=Option.none):H l=Option.none:=by
 cases q:H l with
 | none=>rfl
 | some o =>
  rw[e l o q] at h;cases h
end L2
end
section
set_option maxHeartbeats 2000000
namespace L2
open PySem PySem.Spec PyProof.Rows
open PySem.W (WData Codec OpenSpec Well WellAll ReadsW ReadsAllW)
mutual
/-- x stands for the datum d,lists and tuples all the way -/
inductive Dw (K:Frag) (H:Hp):V->WData->Prop
 | non:Dw K H .non .none
 | bl (b:Bool):Dw K H (.bl b) (.bool b)
 | int (i:Int):Dw K H (.int i) (.int i)
 | str (x:Str):Dw K H (.str x) (.str x)
 | byt (b:Array UInt8):Dw K H (.byt b) (.bytes b.toList)
 | lst {a:Addr} {xs:List V} {ds:List WData}:SqL K H a xs->fX K H xs ds->Dw K H (.ref a) (.list ds)
 | tup {a:Addr} {xs:List V} {ds:List WData}:SqT K H a xs->fX K H xs ds->Dw K H (.ref a) (.tuple ds)
inductive fX (K:Frag) (H:Hp):List V->List WData->Prop
 | nil:fX K H [] []
 | cons {v:V} {vs:List V} {d:WData} {ds:List WData}:Dw K H v d->fX K H vs ds->fX K H (v::vs) (d::ds)
end
theorem BW {K:Frag}{H:Hp}: ∀ns:List Int,fX K H (ns.map V.int) (ns.map WData.int)
 | []=>.nil
 | n::r=>.cons (.int n) (BW r)
theorem BX {K:Frag}{H:Hp}: ∀ (ns:List Int) (xs:List V),fX K H xs (ns.map WData.int)->xs=ns.map V.int
 | [],xs,h=>by
  cases h;rfl
 | n::r,xs,h=>by
  cases h with
  | cons h1 h2 =>
   cases h1
   rw[BX r _ h2]<;>rfl
section
variable {P:Program}{w:World}{K:Frag}{H:Hp}{h:Heap}{R:WRecords}{cl:Str->Option Addr}
theorem Oq {a:Addr}{xs:List V}(hok:HOk P w H h)(KX:K.In h)(q:SqL K H a xs): ∃ (its:List Value) (o:Obj) (n:Nat),Vals xs its/\h.get? a=some o/\o.cls= .type "list"/\o.data= .seq its.toArray n:=by
 rcases q with q | ⟨o,its,n,e,hc,_,hd,_,hv⟩
 .obtain⟨_,its,n,hv,e⟩:=(show cB P w H h a (.lst xs) from q.ok hok)
  exact⟨its,_,n,hv,e,rfl,rfl⟩
 .exact⟨its.toList,o,n,hv,KX _ _ e,hc,by simp [hd]⟩
theorem Ot {a:Addr}{xs:List V}(hok:HOk P w H h)(KX:K.In h)(q:SqT K H a xs): ∃ (its:List Value) (o:Obj) (n:Nat),Vals xs its/\h.get? a=some o/\o.cls= .type "tuple"/\o.data= .seq its.toArray n:=by
 rcases q with q | ⟨o,its,n,e,hc,hd,_,hv⟩
 .obtain⟨_,its,hv,o,e,hc,n,hd⟩:=(show cB P w H h a (.tup xs) from q.ok hok)
  exact⟨its,o,n,hv,e,hc,hd⟩
 .exact⟨its.toList,o,n,hv,KX _ _ e,hc,by simp [hd]⟩
mutual
theorem Dw.reads (hok:HOk P w H h)(KX:K.In h): ∀ (d:WData) (v:V) (u:Value),Dw K H v d->RelV v u-> ∃as,ReadsW R cl h u d as
 | .none,_,_,x,r=>by
  cases x;cases r;exact⟨_,ReadsW.none⟩
 | .bool b,_,_,x,r=>by
  cases x;cases r;exact⟨_,ReadsW.bool b⟩
 | .int i,_,_,x,r=>by
  cases x;obtain⟨t,rfl⟩:=r;exact⟨_,ReadsW.int i t⟩
 | .str s,_,_,x,r=>by
  cases x;obtain⟨t,rfl⟩:=r;exact⟨_,ReadsW.str s t⟩
 | .bytes b,_,_,x,r=>by
  cases x;obtain⟨t,rfl⟩:=r;exact⟨_,ReadsW.bytes _ t⟩
 | .list ds,_,_,x,r=>by
  cases x with
  | lst hs ha =>
   cases r;obtain⟨its,o,n,rv,ho,hc,hd⟩:=Oq hok KX hs;obtain⟨as,hr⟩:=Dw.readsAll hok KX ds _ its ha rv;exact⟨_,ReadsW.list ho hc hd hr⟩
 | .tuple ds,_,_,x,r=>by
  cases x with
  | tup hs ha =>
   cases r;obtain⟨its,o,n,rv,ho,hc,hd⟩:=Ot hok KX hs;obtain⟨as,hr⟩:=Dw.readsAll hok KX ds _ its ha rv;exact⟨_,ReadsW.tuple ho hc hd hr⟩
 | .float _,_,_,x,_=>by cases x
 | .dict _,_,_,x,_=>by cases x
 | .bytearray _,_,_,x,_=>by cases x
 | .set _,_,_,x,_=>by cases x
 | .frozenset _,_,_,x,_=>by cases x
 | .obj _ _,_,_,x,_=>by cases x
theorem Dw.readsAll (hok:HOk P w H h)(KX:K.In h): ∀ (ds:List WData) (vs:List V) (us:List Value),fX K H vs ds->Vals vs us-> ∃as,ReadsAllW R cl h us ds as
 | [],_,_,x,r=>by
  cases x;cases r;exact⟨_,ReadsAllW.nil⟩
 | d::ds,_,_,x,r=>by
  cases x with
  | cons h1 h2 =>
   cases r with
   | cons r1 r2 =>
    obtain⟨as,q1⟩:=Dw.reads hok KX d _ _ h1 r1;obtain⟨bs,q2⟩:=Dw.readsAll hok KX ds _ _ h2 r2;exact⟨_,ReadsAllW.cons q1 q2⟩
end
end
mutual
/-- data that a codec tells -/
def plW:WData->Bool
 | .none=>true
 | .bool _=>true
 | .int _=>true
 | .str _=>true
 | .bytes _=>true
 | .list xs=>fY xs
 | .tuple xs=>fY xs
 | _=>false
def fY:List WData->Bool
 | []=>true
 | x::r=>plW x&&fY r
end
theorem BZ {α:Type}{f:α->WData}(h: ∀a,plW (f a)=true): ∀l:List α,fY (l.map f)=true
 | []=>rfl
 | x::r=>by
  show (plW (f x)&&fY (r.map f))=true
  rw[h x,BZ h r]<;>rfl
theorem jl: ∀ (c:Codec) (a:c.denote),plW (c.enc a)=true
 | .unit,_=>rfl
 | .bool,_=>rfl
 | .int _ _,_=>rfl
 | .nat _ _,_=>rfl
 | .u8,_=>rfl
 | .bytes _ _,_=>rfl
 | .text _ _ _ _,_=>rfl
 | .list _ _ c,a=>BZ (fun x=>jl c x) a
 | .pair c d,a=>by
  show (plW (c.enc a.1)&&(plW (d.enc a.2)&&true))=true
  rw[jl c a.1,jl d a.2]<;>rfl
 | .triple c d e,a=>by
  show (plW (c.enc a.1)&&(plW (d.enc a.2.1)&&(plW (e.enc a.2.2)&&true)))=true
  rw[jl c a.1,jl d a.2.1,jl e a.2.2]<;>rfl
 | .option c,none=>rfl
 | .option c,some x=>jl c x
theorem Ca: ∀ (cs:List Codec) (a:Codec.denoteAll cs),fY (Codec.encAll cs a)=true
 | [],_=>rfl
 | c::cs,a=>by
  show (plW (c.enc a.1)&&fY (Codec.encAll cs a.2))=true
  rw[jl c a.1,Ca cs a.2]<;>rfl
theorem t7: ∀{xs:List WData} {d:WData},d∈xs->d.weight<=WData.weightAll xs
 | [],d,h=>absurd h (by simp)
 | x::r,d,h=>by
  show d.weight<=x.weight+1+WData.weightAll r;rcases mem_cons.mp h with e | m
  .rw[e];omega
  .have z:=t7 m;omega
def toV:Value->V
 | .none=>.non
 | .bool b=>.bl b
 | .int i _=>.int i
 | .str x _=>.str x
 | .bytes b _=>.byt b
 | .ref a=>.ref a
 | _=>.non
def OkU (A:List Addr):Value->Prop
 | .none=>True
 | .bool _=>True
 | .int _ _=>True
 | .str _ _=>True
 | .bytes _ _=>True
 | .ref a=>a∈A
 | _=>False
theorem OkU.mono {A B:List Addr}(h: ∀a∈A,a∈B): ∀{u:Value},OkU A u->OkU B u:=fun {u} x=>by
 cases u with
 | ref a=>exact h a x
 | none=>trivial
 | bool b=>trivial
 | int i t=>trivial
 | str s t=>trivial
 | bytes b t=>trivial
 | _=>exact False.elim x
theorem Ou {A:List Addr}{u:Value}(x:OkU A u):RelV (toV u) u:=by
 cases u with
 | ref a=>rfl
 | none=>rfl
 | bool b=>rfl
 | int i t=>exact⟨t,rfl⟩
 | str s t=>exact⟨t,rfl⟩
 | bytes b t=>exact⟨t,rfl⟩
 | _=>exact False.elim x
theorem lF {A:List Addr}: ∀{vs:List Value},(∀u∈vs,OkU A u)->Vals (vs.map toV) vs
 | [],_=>.nil
 | u::r,h=>.cons (Ou (h u (mem_cons_self ..))) (lF fun x hx=>h x (mem_cons_of_mem _ hx))
def fZ (h:Heap) (A:List Addr) (a:Addr):Prop:= ∃vs:List Value,vs.length<=sizeLine/\(∀u∈vs,OkU A u) /\
 (h.get? a=some { cls:=.type "list",data:=.seq vs.toArray }\/h.get? a=some { cls:=.type "tuple",data:=.seq vs.toArray })
theorem fZ.mono {h:Heap}{A B:List Addr}{a:Addr}(k: ∀a∈A,a∈B)(x:fZ h A a):fZ h B a:=by
 obtain⟨vs,h1,h2,h3⟩:=x;exact⟨vs,h1,fun u hu=>(h2 u hu).mono k,h3⟩
theorem pI {P:Params}{h:Heap}: ∀{vs:List Value} {ds:List WData},WellAll P h vs ds->vs.length=ds.length
 | _,_,.nil=>rfl
 | _,_,.cons _ b=>by
  show _+1=_+1;rw[pI b]
theorem Cd {P:Params}{h:Heap}{v:Value}{ds:List WData}(x:Well P h v (.list ds)): ∃ (a:Addr) (vs:List Value),v= .ref a/\h.get? a=some { cls:=.type "list",data:=.seq vs.toArray }/\WellAll P h vs ds:=by
 cases x with
 | list ho hall=>exact⟨_,_,rfl,ho,hall⟩
theorem Ce {P:Params}{h:Heap}{v:Value}{ds:List WData}(x:Well P h v (.tuple ds)): ∃ (a:Addr) (vs:List Value),v= .ref a/\h.get? a=some { cls:=.type "tuple",data:=.seq vs.toArray }/\WellAll P h vs ds:=by
 cases x with
 | tuple ho hall=>exact⟨_,_,rfl,ho,hall⟩
theorem Cg {P:Params}{h:Heap}{us:List Value}{d:WData}{ds:List WData}(x:WellAll P h us (d::ds)): ∃ (v:Value) (vs:List Value),us=v::vs/\Well P h v d/\WellAll P h vs ds:=by
 cases x with
 | cons a b=>exact⟨_,_,rfl,a,b⟩
theorem Ci {n:Nat}(h:n<=1048576):n<=sizeLine:=Nat.le_trans h (by decide)
section
variable {P:Params}{h:Heap}
mutual
theorem Ov: ∀ (d:WData) (v:Value),Well P h v d->plW d=true->d.weight<=1048576-> ∃A:List Addr,OkU A v/\ ∀a∈A,fZ h A a
 | .none,_,x,_,_=>by
  cases x;exact⟨[],trivial,fun a m=>absurd m (by simp)⟩
 | .bool b,_,x,_,_=>by
  cases x;exact⟨[],trivial,fun a m=>absurd m (by simp)⟩
 | .int i,_,x,_,_=>by
  cases x;exact⟨[],trivial,fun a m=>absurd m (by simp)⟩
 | .str s,_,x,_,_=>by
  cases x;exact⟨[],trivial,fun a m=>absurd m (by simp)⟩
 | .bytes b,_,x,_,_=>by
  cases x;exact⟨[],trivial,fun a m=>absurd m (by simp)⟩
 | .list ds,_,x,p,z=>by
  obtain⟨a,vs,rfl,ho,hall⟩:=Cd x;have z2:WData.weightAll ds<=1048576:=z;obtain⟨A,h1,h2⟩:=pJ ds _ hall p fun d hd=>Nat.le_trans (t7 hd) z2;have k: ∀b∈A,b∈a::A:=fun b hb=>mem_cons_of_mem _ hb;refine⟨a::A,mem_cons_self ..,fun b hb=>?_⟩;rcases mem_cons.mp hb with e | m
  .rw[e];exact⟨vs,Ci (by rw[pI hall];exact Nat.le_trans (PySem.W.length_le_weightAllW ds) z2),fun u hu=>(h1 u hu).mono k,.inl ho⟩
  .exact (h2 b m).mono k
 | .tuple ds,_,x,p,z=>by
  obtain⟨a,vs,rfl,ho,hall⟩:=Ce x;have z2:WData.weightAll ds<=1048576:=z;obtain⟨A,h1,h2⟩:=pJ ds _ hall p fun d hd=>Nat.le_trans (t7 hd) z2;have k: ∀b∈A,b∈a::A:=fun b hb=>mem_cons_of_mem _ hb;refine⟨a::A,mem_cons_self ..,fun b hb=>?_⟩;rcases mem_cons.mp hb with e | m
  .rw[e];exact⟨vs,Ci (by rw[pI hall];exact Nat.le_trans (PySem.W.length_le_weightAllW ds) z2),fun u hu=>(h1 u hu).mono k,.inr ho⟩
  .exact (h2 b m).mono k
 | .float _,_,_,p,_=>Bool.noConfusion (show false=true from p)
 | .dict _,_,_,p,_=>Bool.noConfusion (show false=true from p)
 | .bytearray _,_,_,p,_=>Bool.noConfusion (show false=true from p)
 | .set _,_,_,p,_=>Bool.noConfusion (show false=true from p)
 | .frozenset _,_,_,p,_=>Bool.noConfusion (show false=true from p)
 | .obj _ _,_,_,p,_=>Bool.noConfusion (show false=true from p)
theorem pJ: ∀ (ds:List WData) (vs:List Value),WellAll P h vs ds->fY ds=true->(∀d∈ds,d.weight<=1048576)-> ∃A:List Addr,(∀u∈vs,OkU A u)/\ ∀a∈A,fZ h A a
 | [],_,x,_,_=>by
  cases x;exact⟨[],fun u m=>absurd m (by simp),fun a m=>absurd m (by simp)⟩
 | d::ds,_,x,p,z=>by
  obtain⟨v,vs,rfl,x1,x2⟩:=Cg x;have q:plW d=true/\fY ds=true:=Bool.and_eq_true_iff.mp p;obtain⟨A,a1,a2⟩:=Ov d v x1 q.1 (z d (mem_cons_self ..));obtain⟨B,b1,b2⟩:=pJ ds vs x2 q.2 fun e he=>z e (mem_cons_of_mem _ he);have kA: ∀b∈A,b∈A++B:=fun b hb=>mem_append.mpr (.inl hb);have kB: ∀b∈B,b∈A++B:=fun b hb=>mem_append.mpr (.inr hb);refine⟨A++B,fun u hu=>?_,fun b hb=>?_⟩
  .rcases mem_cons.mp hu with e | m
   .rw[e];exact a1.mono kA
   .exact (b1 u m).mono kB
  .rcases mem_append.mp hb with m | m
   .exact (a2 b m).mono kA
   .exact (b2 b m).mono kB
end
end
def pK (o:Obj):Option HO:=match o.data with
 | .seq vs _=>if (o.cls==Value.type "list")=true then some (.frz o (.lst (vs.toList.map toV))) else some (.frz o (.tup (vs.toList.map toV)))
 | _=>none
def di (K:Frag) (h:Heap) (A:List Addr):Hp:=fun b=>if b∈A then (if (K.lookup b).isNone=true then (h.get? b).bind pK else none) else none
def lG (H:Hp):Prop:= ∀b,H b=none\/ ∃o u,H b=some (.frz o u)
theorem Cj (vs:List Value):pK { cls:=.type "list",data:=.seq vs.toArray }=some (.frz { cls:=.type "list",data:=.seq vs.toArray } (.lst (vs.map toV))):=by
 show (if (Value.type "list"==Value.type "list")=true then some (HO.frz { cls:=.type "list",data:=.seq vs.toArray } (.lst (vs.toArray.toList.map toV))) else some (HO.frz { cls:=.type "list",data:=.seq vs.toArray } (.tup (vs.toArray.toList.map toV))))=_;rw[if_pos (beq_self_eq_true _)]
theorem Ck (vs:List Value):pK { cls:=.type "tuple",data:=.seq vs.toArray }=some (.frz { cls:=.type "tuple",data:=.seq vs.toArray } (.tup (vs.map toV))):=by
 show (if (Value.type "tuple"==Value.type "list")=true then some (HO.frz { cls:=.type "tuple",data:=.seq vs.toArray } (.lst (vs.toArray.toList.map toV))) else some (HO.frz { cls:=.type "tuple",data:=.seq vs.toArray } (.tup (vs.toArray.toList.map toV))))=_;rw[if_neg (by decide)]
section
variable {P:Program}{w:World}{K:Frag}{h:Heap}{A:List Addr}
theorem pL {b:Addr}{o:Obj}(hb:b∈A)(hk:K.lookup b=none)(e:h.get? b=some o):di K h A b=pK o:=by
 unfold di
 rw[if_pos hb,hk,if_pos (show (none:Option Obj).isNone=true from rfl),e]<;>rfl
theorem Ow {b:Addr}{u:HO}(q:di K h A b=some u):b∈A/\K.lookup b=none:=by
 unfold di at q
 by_cases hb:b∈A
 .rw[if_pos hb] at q
  cases hk:K.lookup b with
  | none=>exact⟨hb,rfl⟩
  | some o =>
   rw[hk,if_neg (by simp)] at q;cases q
 .rw[if_neg hb] at q;cases q
theorem pM (ar : ∀ a ∈ A, fZ h A a) {b : Addr} {u : HO} (q : di K h A b = some u) : K.lookup b = none ∧ ∃ vs : List Value, vs.length ≤ sizeLine ∧ (∀ u ∈ vs, OkU A u) ∧
    ((h.get? b = some { cls := .type "list", data := .seq vs.toArray } ∧ u = .frz { cls := .type "list", data := .seq vs.toArray } (.lst (vs.map toV))) ∨
     (h.get? b = some { cls := .type "tuple", data := .seq vs.toArray } ∧ u = .frz { cls := .type "tuple", data := .seq vs.toArray } (.tup (vs.map toV)))) := by
  obtain ⟨hb, hk⟩ := Ow q
  obtain ⟨vs, h1, h2, h3⟩ := ar b hb
  refine ⟨hk, vs, h1, h2, ?_⟩
  rcases h3 with e | e
  · rw [pL hb hk e, Cj] at q
    exact .inl ⟨e, (Option.some.inj q).symm⟩
  · rw [pL hb hk e, Ck] at q
    exact .inr ⟨e, (Option.some.inj q).symm⟩
theorem Ox (ar: ∀a∈A,fZ h A a):lG (di K h A):=fun b=>by
 cases q:di K h A b with
 | none=>exact .inl rfl
 | some u =>
  obtain⟨_,vs,_,_,⟨_,e⟩ | ⟨_,e⟩⟩:=pM ar q
  .exact .inr ⟨_,_,by rw[e]⟩
  .exact .inr ⟨_,_,by rw[e]⟩
theorem Oz (ar: ∀a∈A,fZ h A a):HOk P w (di K h A) h:=fun b u q=>by
 obtain⟨_,vs,h1,h2,⟨e,rfl⟩ | ⟨e,rfl⟩⟩:=pM ar q
 .exact⟨e,by rw[length_map];exact h1,vs,_,lF h2,e⟩
 .exact⟨e,by rw[length_map];exact h1,vs,lF h2,_,e,rfl,_,rfl⟩
theorem pN {c c':Value}{vs us:List Value}(e:(some { cls:=c,data:=.seq vs.toArray }:Option Obj)=some { cls:=c',data:=.seq us.toArray }):c=c'/\vs=us:=by
 have e1:=Option.some.inj e;have e2:c=c':=congrArg Obj.cls e1;have e3:Data.seq vs.toArray=Data.seq us.toArray:=congrArg Obj.data e1;injection e3 with e4;refine⟨e2,?_⟩;have e5:=congrArg Array.toList e4;simpa using e5
theorem OJ (KX:K.In h)(ar: ∀a∈A,fZ h A a){a:Addr}{vs:List Value}(ha:a∈A)(e:h.get? a=some { cls:=.type "list",data:=.seq vs.toArray }):(∀u∈vs,OkU A u)/\SqL K (di K h A) a (vs.map toV):=by
 obtain⟨us,h1,h2,h3⟩:=ar a ha
 have hu:us=vs:=by
  rcases h3 with q | q
  .rw[e] at q;exact (pN q).2.symm
  .rw[e] at q;exact absurd (Value.type.inj (pN q).1) (by decide)
 subst hu;refine⟨h2,?_⟩
 cases hk:K.lookup a with
 | none=>exact .inl (.inr ⟨_,by rw[pL ha hk e,Cj]⟩)
 | some o =>
  have e2:=KX a o hk;rw[e] at e2;obtain rfl:=Option.some.inj e2;exact .inr ⟨_,us.toArray,_,hk,rfl,rfl,rfl,by rw[size_toArray];exact h1,by simpa using lF h2⟩
theorem O1 (KX:K.In h)(ar: ∀a∈A,fZ h A a){a:Addr}{vs:List Value}(ha:a∈A)(e:h.get? a=some { cls:=.type "tuple",data:=.seq vs.toArray }):(∀u∈vs,OkU A u)/\SqT K (di K h A) a (vs.map toV):=by
 obtain⟨us,h1,h2,h3⟩:=ar a ha
 have hu:us=vs:=by
  rcases h3 with q | q
  .rw[e] at q;exact absurd (Value.type.inj (pN q).1) (by decide)
  .rw[e] at q;exact (pN q).2.symm
 subst hu;refine⟨h2,?_⟩
 cases hk:K.lookup a with
 | none=>exact .inl (.inr ⟨_,by rw[pL ha hk e,Ck]⟩)
 | some o =>
  have e2:=KX a o hk;rw[e] at e2;obtain rfl:=Option.some.inj e2;exact .inr ⟨_,us.toArray,_,hk,rfl,rfl,by rw[size_toArray];exact h1,by simpa using lF h2⟩
mutual
theorem O2 {Pm:Params}(KX:K.In h)(ar: ∀a∈A,fZ h A a): ∀ (d:WData) (v:Value),Well Pm h v d->plW d=true->OkU A v->Dw K (di K h A) (toV v) d
 | .none,_,x,_,_=>by
  cases x;exact .non
 | .bool b,_,x,_,_=>by
  cases x;exact .bl b
 | .int i,_,x,_,_=>by
  cases x;exact .int i
 | .str s,_,x,_,_=>by
  cases x;exact .str s
 | .bytes b,_,x,_,_=>by
  cases x;have z:=Dw.byt (K:=K) (H:=di K h A) b.toArray;exact z
 | .list ds,_,x,p,hu=>by
  obtain⟨a,vs,rfl,ho,hall⟩:=Cd x;obtain⟨h2,hs⟩:=OJ KX ar hu ho;exact .lst hs (pO KX ar ds _ hall p h2)
 | .tuple ds,_,x,p,hu=>by
  obtain⟨a,vs,rfl,ho,hall⟩:=Ce x;obtain⟨h2,hs⟩:=O1 KX ar hu ho;exact .tup hs (pO KX ar ds _ hall p h2)
 | .float _,_,_,p,_=>Bool.noConfusion (show false=true from p)
 | .dict _,_,_,p,_=>Bool.noConfusion (show false=true from p)
 | .bytearray _,_,_,p,_=>Bool.noConfusion (show false=true from p)
 | .set _,_,_,p,_=>Bool.noConfusion (show false=true from p)
 | .frozenset _,_,_,p,_=>Bool.noConfusion (show false=true from p)
 | .obj _ _,_,_,p,_=>Bool.noConfusion (show false=true from p)
theorem pO {Pm:Params}(KX:K.In h)(ar: ∀a∈A,fZ h A a): ∀ (ds:List WData) (vs:List Value),WellAll Pm h vs ds->fY ds=true->(∀u∈vs,OkU A u)->fX K (di K h A) (vs.map toV) ds
 | [],_,x,_,_=>by
  cases x;exact .nil
 | d::ds,_,x,p,hu=>by
  obtain⟨v,vs,rfl,x1,x2⟩:=Cg x;have q:plW d=true/\fY ds=true:=Bool.and_eq_true_iff.mp p;exact .cons (O2 KX ar d v x1 q.1 (hu _ (mem_cons_self ..))) (pO KX ar ds vs x2 q.2 fun u m=>hu u (mem_cons_of_mem _ m))
end
end
theorem O3 {P:Program}{w:World}{K:Frag}{mg mb:Str->Option Value}{CX:CXT}{k:Nat}{fa:Addr}{fd:FuncData}{ps:List Str}{sp:Sp}{s₁:Shared}{vals:List Value}{ds:List WData}{R:WRecords}{cl:Str->Option Addr}{d0:WData}
  (KX:K.In s₁.heap) (hns:s₁.heap.Ns mainGlobals mg) (hb:s₁.heap.Ns builtinsNs mb) (hbb: ∀x:Str,x≠"__name__"->mb x=bootBuiltins x) (hlim:s₁.heap.NoLimit) (hg:s₁.gens= #[])
  (hwl:WellAll w.params s₁.heap vals ds) (hpl:fY ds=true) (hwt: ∀d∈ds,d.weight<=1048576) (hr:aR k callerA)
  (F: ∀base:Heap,K.In base->base.Ns mainGlobals mg->au P w K mg base CX k fa fd ps sp) (hbind: ∀ (s:Shared) (us:List Value),us.length=ps.length->BindsTo s fd ⟨us,[]⟩ (ps.zip us)) (hlen:ds.length=ps.length)
  (hsp: ∀ (H:Hp) (xs:List V),lG H->fX K H xs ds->sp xs H (fun v H'=>Dw K H' v d0) fun _ _ _=>False)
  (hCX: ∀H e s',CX [] H s₁ (fun _ _ _=>False) e s'->False) :
  codeAny (model P w) callerA (.call (.ref fa) ⟨vals,[]⟩) (fun r s'=> ∃u as,r= .ok (.ret u)/\ReadsW R cl s'.heap u d0 as/\OldK s₁.heap s'.heap/\s'.os=s₁.os/\AllBare s'.gens) s₁:=by
 obtain⟨A,ho,ar⟩:=pJ ds vals hwl hpl hwt;have hO:lG (di K s₁.heap A):=Ox ar;have hok:HOk P w (di K s₁.heap A) s₁.heap:=Oz ar;have hS:=pO KX ar ds vals hwl hpl ho;have hV:=lF ho;have hK: ∀b u,di K s₁.heap A b=some u->K.lookup b=none:=fun b u q=>(pM ar q).1
 have noA: ∀{b:Addr} {o:Obj} {es:Array DictEntry} {ep:Nat},s₁.heap.get? b=some o->o.data= .dict es ep->di K s₁.heap A b=none:=fun {b o es ep} e d=>by
  cases q:di K s₁.heap A b with
  | none=>rfl
  | some u =>
   obtain⟨_,vs,_,_,⟨e2,_⟩ | ⟨e2,_⟩⟩:=pM ar q
   .rw[e2] at e;cases e;have d':Data.seq vs.toArray _=Data.dict es ep:=d;cases d'
   .rw[e2] at e;cases e;have d':Data.seq vs.toArray _=Data.dict es ep:=d;cases d'
 generalize di K s₁.heap A=H at hO hok hS hK noA;have base_of: ∀{b:Addr} {o:Obj},s₁.heap.get? b=some o->H b=none->(iB s₁.heap H).get? b=some o:=fun e n=>Ke e n
 have nsK: ∀{b:Addr} {m:Str->Option Value},s₁.heap.Ns b m->(iB s₁.heap H).Ns b m:=fun {b m} ⟨o,es,ep,e,d,r⟩=>⟨o,es,ep,base_of e (noA e d),d,r⟩
 have nK: ∀b o,K.lookup b=some o->H b=none:=fun b o e=>by
  cases q:H b with
  | none=>rfl
  | some u =>
   rw[hK b u q] at e;cases e
 have hKb:K.In (iB s₁.heap H):=fun b o e=>base_of (KX b o e) (nK b o e)
 have hM:Mod K mg (iB s₁.heap H):=⟨hKb,nsK hns,⟨mb,nsK hb,hbb⟩,let ⟨mc,h1,h2⟩:=hlim;⟨mc,nsK h1,h2⟩⟩
 have e0:jO P w K mg (iB s₁.heap H) callerA [] s₁ H:=⟨rfl,hM,fun b o e=>Kf e,Nat.le_of_eq (Kd _ _),trivial,fun b hb=>absurd (show b∈([]:List Addr) from hb) (by simp),hok,.of_eq hg⟩
 have hl:vals.length=ps.length:=by rw[pI hwl];exact hlen
 refine codeAny_mono ((F _ hKb (nsK hns)).run callerA [] s₁ H ⟨vals,[]⟩ vals (vals.map toV) _ _ hr e0 (hbind s₁ vals hl) hV (hsp H _ hO hS)) fun r s' x=>?_
 cases r with
 | error e=>exact (hCX H e s' x).elim
 | ok fl =>
  cases fl with
  | next=>exact False.elim x
  | brk=>exact False.elim x
  | cont=>exact False.elim x
  | ret u =>
   obtain⟨v,H',os,bare,un,hok',r',q⟩:=x
   have kept: ∀b o,s₁.heap.get? b=some o->s'.heap.get? b=some o:=fun b o e=>by
    cases q2:H b with
    | none=>exact un.keep b o e q2 (by intro z;exact absurd (show b∈([]:List Addr) from z) (by simp)) (by simp)
    | some u2 =>
     rcases hO b with z | ⟨ob,u3,z⟩
     .rw[q2] at z;cases z
     .have z2:=un.frzs b ob _ z;obtain⟨e1,_⟩:=hok b _ z;obtain⟨e2,_⟩:=hok' b _ z2;rw[e] at e1;cases e1;exact e2
   have KX':K.In s'.heap:=fun b o e=>kept b o (KX b o e);obtain⟨as,hrd⟩:=Dw.reads (R:=R) (cl:=cl) hok' KX' d0 v u q r';exact⟨u,as,rfl,hrd,OldK.of_keep kept,os,bare⟩
theorem O4 {ds:List WData}(h:WData.layableAll ds=true): ∀d∈ds,d.weight<=1048576:=fun d hd =>
 (PySem.W.layableW_iff.mp (all_eq_true.mp h d hd)).2.2
theorem Cm: ∀ (cs:List Codec) (a:Codec.denoteAll cs),(Codec.encAll cs a).length=cs.length
 | [],_=>rfl
 | c::cs,a=>by
  show (Codec.encAll cs a.2).length+1=cs.length+1;rw[Cm cs a.2]
theorem O5 {r:OpenSpec}{k:Nat}{q:Program}{loose:List Str}{XP:(Str->Option Value)->Heap->Prop}{YP:World->Heap->Prop}{d:DefRec}{K:Params->Frag}{CX:World->CXT}{ps:List Str}{sp:World->Sp}
  (hwell:r.wellSaid=true) (hdf:d.params.defaults=[]) (hlen:r.args.length=ps.length) (hr:aR k callerA)
  (hY: ∀ (w:World) (h:Heap),YP w h->(K w.params).In h)
  (F: ∀ (w:World) (mg:Str->Option Value) (fa:Addr) (h:Heap),YP w h->(K w.params).In h->h.Ns mainGlobals mg->mg d.name=some (.ref fa) ->
   ∃fd:FuncData,(∀ (s:Shared) (us:List Value),us.length=ps.length->BindsTo s fd ⟨us,[]⟩ (ps.zip us)) /\
    ∀base:Heap,(K w.params).In base->base.Ns mainGlobals mg->au r.prog w (K w.params) mg base (CX w) k fa fd ps (sp w))
  (hsp: ∀ (w:World) (H:Hp) (xs:List V) (a:Codec.denoteAll r.args),lG H->Codec.withinAll r.args a=true->Codec.app r.args r.asked a=true->fX (K w.params) H xs (Codec.encAll r.args a) ->
   sp w xs H (fun v H'=>Dw (K w.params) H' v (r.ret.enc (Codec.app r.args r.f a))) fun _ _ _=>False)
  (hCX: ∀ (w:World) (H:Hp) (s:Shared) (e:Value) (s':Shared),CX w [] H s (fun _ _ _=>False) e s'->False) :
  WalkOS q loose XP YP r d [] (fun f vs=>PySem.call f vs):=by
 intro w s_0 s₁ mg mb G Y fa o pm cd doc dV kV ho hd hcd hD hmg hg args vals as hpre hlay hrd hwl hlo;obtain⟨a,e1,e2⟩:=PySem.W.os_pre_some hpre;obtain⟨e3,hwi⟩:=Codec.encAll_of_decAll r.args args a e1;subst e3;have KX:=hY w _ Y;obtain⟨fd,hb,hF⟩:=F w mg fa _ Y KX G.T.g hmg
 refine PySem.W.enter_call (codeAny_mono (O3 (R:=[]) (cl:=classAt s_0.heap) (d0:=r.ret.enc (Codec.app r.args r.f a)) KX G.T.g G.T.b G.T.builtins G.T.nolimit hg hwl (Ca _ _) (O4 hlay) hr hF hb (by rw[Cm];exact hlen)
  (fun H xs hO hS=>hsp w H xs a hO hwi e2 hS) fun H e s'=>hCX w H s₁ e s') fun r' s' hq=>?_)
 obtain⟨u,as',rfl,h1,h2,h3,h4⟩:=hq;exact⟨.inl ⟨u,_,as',rfl,fun _=>rfl,h1,(OpenSpec.post_iff hwell hwi _ _).mpr rfl,fun z=>Bool.noConfusion (show false=true from z)⟩,h2,h3,h4⟩
theorem O6 {r:OpenSpec}{k:Nat}{q:Program}{loose:List Str}{XP:(Str->Option Value)->Heap->Prop}{YP:World->Heap->Prop}{d:DefRec}{K:Params->Frag}{CX:CXT}{ps:List Str}{sp:Frag->Sp}
  (hwell:r.wellSaid=true) (hdf:d.params.defaults=[]) (hlen:r.args.length=ps.length) (hr:aR k callerA)
  (hY: ∀ (w:World) (h:Heap),YP w h->(K w.params).In h)
  (F: ∀ (w:World) (mg:Str->Option Value) (fa:Addr) (h:Heap),YP w h->(K w.params).In h->h.Ns mainGlobals mg->mg d.name=some (.ref fa) ->
   ∃fd:FuncData,(∀ (s:Shared) (us:List Value),us.length=ps.length->BindsTo s fd ⟨us,[]⟩ (ps.zip us)) /\
    ∀base:Heap,(K w.params).In base->base.Ns mainGlobals mg->au r.prog w (K w.params) mg base CX k fa fd ps (sp (K w.params)))
  (hsp: ∀ (K:Frag) (H:Hp) (xs:List V) (a:Codec.denoteAll r.args),lG H->Codec.withinAll r.args a=true->Codec.app r.args r.asked a=true->fX K H xs (Codec.encAll r.args a) ->
   sp K xs H (fun v H'=>Dw K H' v (r.ret.enc (Codec.app r.args r.f a))) fun _ _ _=>False)
  (hCX: ∀ (H:Hp) (s:Shared) (e:Value) (s':Shared),CX [] H s (fun _ _ _=>False) e s'->False) :
  WalkOS q loose XP YP r d [] (fun f vs=>PySem.call f vs) :=
 O5 (K:=K) (CX:=fun _=>CX) (sp:=fun w=>sp (K w.params)) hwell hdf hlen hr hY F (fun w H xs a h1 h2 h3 h4=>hsp (K w.params) H xs a h1 h2 h3 h4) fun _ H s e s'=>hCX H s e s'
end L2
end
section
namespace DL
open PySem PySem.Spec PyProof.Rows L2
inductive D where
 | non | bl (b:Bool) | int (i:Int) | lst (l:List D) | tup (l:List D) | obj (C:Addr) (ns:List Str) (l:List D) | frl (ns:List Int)
mutual
def Rep:D->Hp->V->Prop
 | .non,_,v=>v= .non
 | .bl b,_,v=>v= .bl b
 | .int i,_,v=>v= .int i
 | .lst l,H,v=> ∃a xs,v= .ref a/\H a=some (.lst xs)/\l.length<=sizeLine/\aA l H xs
 | .tup l,H,v=> ∃a xs,v= .ref a/\H a=some (.tup xs)/\aA l H xs
 | .obj C ns l,H,v=> ∃a dx xs,v= .ref a/\H a=some (.ins C dx (ns.zip xs))/\ns.length=l.length/\aA l H xs
 | .frl ns,H,v=> ∃a o,v= .ref a/\H a=some (.frz o (.lst (ns.map V.int)))
def aA:List D->Hp->List V->Prop
 | [],_,xs=>xs=[]
 | d::ds,H,xs=> ∃x ys,xs=x::ys/\Rep d H x/\aA ds H ys
end
mutual
theorem Rep.mono {H H':Hp}(h:aB H H'): ∀{d:D} {v:V},Rep d H v->Rep d H' v
 | .non,_,r=>by unfold Rep at r ⊢;exact r
 | .bl _,_,r=>by unfold Rep at r ⊢;exact r
 | .int _,_,r=>by unfold Rep at r ⊢;exact r
 | .lst l,_,r=>by
  unfold Rep at r ⊢;obtain⟨a,xs,e,ha,hl,hr⟩:=r;exact⟨a,xs,e,h _ _ ha,hl,aA.mono h hr⟩
 | .tup l,_,r=>by
  unfold Rep at r ⊢;obtain⟨a,xs,e,ha,hr⟩:=r;exact⟨a,xs,e,h _ _ ha,aA.mono h hr⟩
 | .obj C ns l,_,r=>by
  unfold Rep at r ⊢;obtain⟨a,dx,xs,e,ha,hl,hr⟩:=r;exact⟨a,dx,xs,e,h _ _ ha,hl,aA.mono h hr⟩
 | .frl ns,_,r=>by
  unfold Rep at r ⊢;obtain⟨a,o,e,ha⟩:=r;exact⟨a,o,e,h _ _ ha⟩
theorem aA.mono {H H':Hp}(h:aB H H'): ∀{l:List D} {xs:List V},aA l H xs->aA l H' xs
 | [],_,r=>by unfold aA at r ⊢;exact r
 | d::ds,_,r=>by
  unfold aA at r ⊢;obtain⟨x,ys,e,h1,h2⟩:=r;exact⟨x,ys,e,Rep.mono h h1,aA.mono h h2⟩
end
section
variable {H:Hp}{v:V}
theorem iJ:Rep .non H v↔v= .non:=by unfold Rep;exact Iff.rfl
theorem fc {b:Bool}:Rep (.bl b) H v↔v= .bl b:=by unfold Rep;exact Iff.rfl
theorem aU {i:Int}:Rep (.int i) H v↔v= .int i:=by unfold Rep;exact Iff.rfl
theorem jm {l:List D}:Rep (.lst l) H v↔ ∃a xs,v= .ref a/\H a=some (.lst xs)/\l.length<=sizeLine/\aA l H xs:=by
 rw[Rep.eq_def]
theorem lH {l:List D}:Rep (.tup l) H v↔ ∃a xs,v= .ref a/\H a=some (.tup xs)/\aA l H xs:=by
 rw[Rep.eq_def]
theorem pP {C:Addr}{ns:List Str}{l:List D}:Rep (.obj C ns l) H v↔ ∃a dx xs,v= .ref a/\H a=some (.ins C dx (ns.zip xs))/\ns.length=l.length/\aA l H xs:=by
 rw[Rep.eq_def]
theorem mX {ns:List Int}:Rep (.frl ns) H v↔ ∃a o,v= .ref a/\H a=some (.frz o (.lst (ns.map V.int))):=by
 rw[Rep.eq_def]
theorem bY {xs:List V}:aA [] H xs↔xs=[]:=by unfold aA;exact Iff.rfl
theorem cC {d:D}{l:List D}{xs:List V}:aA (d::l) H xs↔ ∃x ys,xs=x::ys/\Rep d H x/\aA l H ys:=by
 rw[aA.eq_def]
end
section
variable {H:Hp}
theorem aA.length: ∀{l:List D} {xs:List V},aA l H xs->xs.length=l.length
 | [],xs,r=>by rw[bY.mp r];rfl
 | d::l,xs,r=>by
  obtain⟨x,ys,rfl,_,h⟩:=cC.mp r;rw[length_cons,length_cons,aA.length h]
theorem aA.get: ∀{l:List D} {xs:List V} {i:Nat} {d:D},aA l H xs->l[i]?=some d-> ∃x,xs[i]?=some x/\Rep d H x
 | [],_,_,_,_,e=>by cases e
 | d::l,xs,0,d',r,e=>by
  obtain⟨x,ys,rfl,h1,_⟩:=cC.mp r;cases e;exact⟨x,rfl,h1⟩
 | d::l,xs,i+1,d',r,e=>by
  obtain⟨x,ys,rfl,_,h⟩:=cC.mp r;exact aA.get (i:=i) h e
theorem aA.append: ∀{l m:List D} {xs ys:List V},aA l H xs->aA m H ys->aA (l++m) H (xs++ys)
 | [],m,xs,ys,r,q=>by rw[bY.mp r];exact q
 | d::l,m,xs,ys,r,q=>by
  obtain⟨x,zs,rfl,h1,h⟩:=cC.mp r;exact cC.mpr ⟨x,zs++ys,rfl,h1,aA.append h q⟩
theorem aA.one {d:D}{x:V}(h:Rep d H x):aA [d] H [x]:=cC.mpr ⟨x,[],rfl,h,bY.mpr rfl⟩
theorem aA.cons {d:D}{l:List D}{x:V}{xs:List V}(h:Rep d H x)(r:aA l H xs):aA (d::l) H (x::xs):=cC.mpr ⟨x,xs,rfl,h,r⟩
theorem aA.take: ∀{l:List D} {xs:List V} (n:Nat),aA l H xs->aA (l.take n) H (xs.take n)
 | _,_,0,_=>by rw[take_zero,take_zero];exact bY.mpr rfl
 | [],xs,n+1,r=>by rw[bY.mp r];exact bY.mpr rfl
 | d::l,xs,n+1,r=>by
  obtain⟨x,ys,rfl,h1,h⟩:=cC.mp r;exact aA.cons h1 (aA.take n h)
theorem aA.drop: ∀{l:List D} {xs:List V} (n:Nat),aA l H xs->aA (l.drop n) H (xs.drop n)
 | _,_,0,r=>r
 | [],xs,n+1,r=>by rw[bY.mp r];exact bY.mpr rfl
 | d::l,xs,n+1,r=>by
  obtain⟨x,ys,rfl,h1,h⟩:=cC.mp r;exact aA.drop n h
theorem aA.set {d:D}{x:V}(hx:Rep d H x): ∀{l:List D} {xs:List V} (n:Nat),aA l H xs->aA (l.set n d) H (xs.set n x)
 | [],xs,_,r=>by rw[bY.mp r];exact bY.mpr rfl
 | d'::l,xs,0,r=>by
  obtain⟨y,ys,rfl,_,h⟩:=cC.mp r;exact aA.cons hx h
 | d'::l,xs,n+1,r=>by
  obtain⟨y,ys,rfl,h1,h⟩:=cC.mp r;exact aA.cons h1 (aA.set hx n h)
theorem aA.eraseIdx: ∀{l:List D} {xs:List V} (n:Nat),aA l H xs->aA (l.eraseIdx n) H (xs.eraseIdx n)
 | [],xs,n,r=>by rw[bY.mp r];exact bY.mpr rfl
 | d'::l,xs,0,r=>by
  obtain⟨y,ys,rfl,_,h⟩:=cC.mp r;exact h
 | d'::l,xs,n+1,r=>by
  obtain⟨y,ys,rfl,h1,h⟩:=cC.mp r;exact aA.cons h1 (aA.eraseIdx n h)
theorem cW: ∀{l:List Int} {xs:List V},aA (l.map D.int) H xs↔xs=l.map V.int
 | [],xs=>bY
 | i::l,xs=>by
  rw[map_cons,map_cons,cC];constructor
  .rintro⟨x,ys,rfl,h1,h2⟩;rw[aU.mp h1,cW.mp h2]
  .rintro rfl;exact⟨_,_,rfl,aU.mpr rfl,cW.mpr rfl⟩
theorem pQ: ∀{l:List Bool} {xs:List V},aA (l.map D.bl) H xs↔xs=l.map V.bl
 | [],xs=>bY
 | i::l,xs=>by
  rw[map_cons,map_cons,cC];constructor
  .rintro⟨x,ys,rfl,h1,h2⟩;rw[fc.mp h1,pQ.mp h2]
  .rintro rfl;exact⟨_,_,rfl,fc.mpr rfl,pQ.mpr rfl⟩
end
def vis (H:Hp) (O:Addr->Bool):Hp:=fun b=>if O b=true then none else H b
theorem bG {H:Hp}{O:Addr->Bool}{b:Addr}{o:HO}:vis H O b=some o↔O b=false/\H b=some o:=by
 unfold vis
 by_cases h:O b=true
 .rw[if_pos h];exact⟨fun e=>(nomatch e),fun e=>absurd h (by rw[e.1];decide)⟩
 .rw[if_neg h];exact⟨fun e=>⟨by simpa using h,e⟩,fun e=>e.2⟩
theorem d8 {H H':Hp}{O O':Addr->Bool}(h:aB H H')(ho: ∀b,O' b=true->O b=true\/H b=none):aB (vis H O) (vis H' O'):=fun b o e=>by
 obtain⟨h1,h2⟩:=bG.mp e;refine bG.mpr ⟨?_,h b o h2⟩
 cases q:O' b with
 | false=>rfl
 | true =>
  rcases ho b q with z | z
  .rw[z] at h1;cases h1
  .rw[z] at h2;cases h2
theorem cD {H H':Hp}{O:Addr->Bool}(h:aB H H'):aB (vis H O) (vis H' O):=d8 h fun _ z=>.inl z
theorem O7 {H:Hp}{O:Addr->Bool}:aB (vis H O) H:=fun _ _ e=>(bG.mp e).2
inductive SV where
 | d (x:D) | pt (a:Addr)
inductive OD where
 | lst (l:List D) | ins (C:Addr) (ns:List Str) (l:List SV) | dct (kvs:List (Int×Int))
abbrev Gm:=List (Addr×OD)
def bK (G:Hp):SV->V->Prop
 | .d x,v=>Rep x G v
 | .pt a,v=>v= .ref a
theorem bK.mono {G G':Hp}(h:aB G G'): ∀{s:SV} {v:V},bK G s v->bK G' s v
 | .d _,_,r=>Rep.mono h r
 | .pt _,_,r=>r
theorem jU {α β:Type}{F F':α->β->Prop}(h: ∀a b,F a b->F' a b): ∀{l:List α} {m:List β},Paired F l m->Paired F' l m
 | _,_,.nil=>.nil
 | _,_,.cons r t=>.cons (h _ _ r) (jU h t)
def gb (G:Hp):OD->HO->Prop
 | .lst l,o=> ∃xs,o= .lst xs/\l.length<=sizeLine/\aA l G xs
 | .ins C ns l,o=> ∃dx xs,o= .ins C dx (ns.zip xs)/\ns.length=l.length/\Paired (bK G) l xs
 | .dct kvs,o=>kvs.length<=sizeLine/\o= .dK (kvs.map fun q=>(Sum.inl q.1,V.int q.2))
theorem gb.mono {G G':Hp}(h:aB G G'): ∀{w:OD} {o:HO},gb G w o->gb G' w o
 | .lst _,_,⟨xs,e,z,r⟩=>⟨xs,e,z,r.mono h⟩
 | .ins _ _ _,_,⟨dx,xs,e,z,r⟩=>⟨dx,xs,e,z,jU (fun _ _ q=>bK.mono h q) r⟩
 | .dct _,_,r=>r
def hid (O:Addr->Bool) (γ:Gm):Addr->Bool:=fun b=>O b||γ.any fun p=>p.1==b
theorem aQ {O:Addr->Bool}{γ:Gm}{b:Addr}:hid O γ b=true↔O b=true\/b∈γ.map (·.1):=by
 unfold hid;rw[Bool.or_eq_true,any_eq_true,mem_map];exact or_congr_right ⟨fun ⟨p,h,e⟩=>⟨p,h,eq_of_beq e⟩,fun ⟨p,h,e⟩=>⟨p,h,by rw[e];exact beq_self_eq_true _⟩⟩
theorem gf {O:Addr->Bool}{γ:Gm}{b:Addr}:hid O γ b=false↔O b=false/\b∉γ.map (·.1):=by
 have h:= @aQ O γ b
 cases q:hid O γ b with
 | true =>
  have:=h.mp q;refine⟨fun z=>(nomatch z),fun z=>?_⟩;rcases this with t | t
  .rw[z.1] at t;cases t
  .exact absurd t z.2
 | false =>
  refine⟨fun _=>⟨?_,fun z=>?_⟩,fun _=>rfl⟩
  .cases r:O b with
   | false=>rfl
   | true=>rw[h.mpr (.inl r)] at q;cases q
  .rw[h.mpr (.inr z)] at q;cases q
theorem jV {O:Addr->Bool}:hid O []=O:=by
 funext b;unfold hid;rw[List.any_nil,Bool.or_false]
def fj (G:Hp):Option V->Option SV->Prop
 | _,none=>True
 | some v,some s=>bK G s v
 | none,some _=>False
theorem fj.mono {G G':Hp}(h:aB G G'): ∀{x:Option V} {s:Option SV},fj G x s->fj G' x s
 | none,none,_=>trivial
 | some _,none,_=>trivial
 | some _,some _,r=>bK.mono h r
 | none,some _,r=>r
structure Ev (O0:Addr->Bool) (H0:Hp) (σ:L2.St) (H:Hp) (ρ:List (Option SV)) (γ:Gm):Prop where
 slots:Paired (fj (vis H (hid O0 γ))) σ ρ
 own: ∀p∈γ,∃o,H p.1=some o/\gb (vis H (hid O0 γ)) p.2 o
 nd:(γ.map (·.1)).Nodup
 young: ∀p∈γ,O0 p.1=false/\H0 p.1=none
 same:aB H0 H
 live: ∀b,O0 b=true->H0 b≠none
section
variable {O0:Addr->Bool}{H0 H H':Hp}{σ:L2.St}{ρ:List (Option SV)}{γ:Gm}
theorem Ev.grow (I:Ev O0 H0 σ H ρ γ)(h:aB H H'):Ev O0 H0 σ H' ρ γ :=
 have s:aB (vis H (hid O0 γ)) (vis H' (hid O0 γ)):=cD h
 ⟨jU (fun _ _ q=>fj.mono s q) I.slots,fun p hp=>(I.own p hp).elim fun o q=>⟨o,h _ _ q.1,gb.mono s q.2⟩,I.nd,I.young,I.same.trans h,I.live⟩
theorem Ev.hidLive (I:Ev O0 H0 σ H ρ γ){b:Addr}(h:hid O0 γ b=true):H b≠none:=by
 rcases aQ.mp h with z | z
 .intro e;exact I.live b z (I.same.free e)
 .obtain⟨p,hp,e⟩:=mem_map.mp z;obtain⟨o,q,_⟩:=I.own p hp;rw[<-e,q];exact fun z=>nomatch z
theorem Ev.fresh (I:Ev O0 H0 σ H ρ γ){b:Addr}(h:H b=none):hid O0 γ b=false:=by
 cases q:hid O0 γ b with
 | false=>rfl
 | true=>exact absurd h (I.hidLive q)
theorem Cp {α β:Type}{F:α->β->Prop}: ∀{l:List α} {m:List β} {i:Nat} {b:β},Paired F l m->m[i]?=some b-> ∃a,l[i]?=some a/\F a b
 | _,_,_,_,.nil,e=>by cases e
 | _,_,0,_,.cons r _,e=>by cases e;exact⟨_,rfl,r⟩
 | _,_,i+1,_,.cons _ t,e=>Cp (i:=i) t e
theorem t8 {α β:Type}{F:α->β->Prop}{a:α}{b:β}(h:F a b): ∀{l:List α} {m:List β} (i:Nat),Paired F l m->Paired F (l.set i a) (m.set i b)
 | _,_,_,.nil=>.nil
 | _,_,0,.cons _ t=>.cons h t
 | _,_,i+1,.cons r t=>.cons r (t8 h i t)
theorem mY {α β:Type}{F:α->β->Prop}: ∀{l:List α} {m:List β},Paired F l m->l.length=m.length
 | _,_,.nil=>rfl
 | _,_,.cons _ t=>by rw[length_cons,length_cons,mY t]
theorem Ev.slot (I:Ev O0 H0 σ H ρ γ){i:Nat}{s:SV}(h:ρ[i]?=some (some s)): ∃v,σ[i]?=some (some v)/\bK (vis H (hid O0 γ)) s v:=by
 obtain⟨x,hx,r⟩:=Cp I.slots h
 cases x with
 | none=>exact absurd r (by exact fun z=>z)
 | some v=>exact⟨v,hx,r⟩
theorem Ev.set (I:Ev O0 H0 σ H ρ γ){v:V}{s:SV}(i:Nat)(r:bK (vis H (hid O0 γ)) s v):Ev O0 H0 (σ.set i (some v)) H (ρ.set i (some s)) γ :=
 ⟨t8 (F:=fj _) (a:=some v) (b:=some s) r i I.slots,I.own,I.nd,I.young,I.same,I.live⟩
theorem Ev.push (I:Ev O0 H0 σ H ρ γ){a:Addr}{o:HO}{w:OD}(ha:H a=none)(hw:gb (vis H (hid O0 γ)) w o):Ev O0 H0 σ (upd H a o) ρ ((a,w)::γ):=by
 have sm:aB H (upd H a o):=fun b u e=>by rw[bc (bW e ha)];exact e
 have s:aB (vis H (hid O0 γ)) (vis (upd H a o) (hid O0 ((a,w)::γ))):=d8 sm fun b hb=>by
  rcases aQ.mp hb with z | z
  .exact .inl (aQ.mpr (.inl z))
  .rcases mem_cons.mp z with z | z
   .exact .inr (by rw[z];exact ha)
   .exact .inl (aQ.mpr (.inr z))
 have hf:=gf.mp (I.fresh ha);refine⟨jU (fun _ _ q=>fj.mono s q) I.slots,fun p hp=>?_,?_,fun p hp=>?_,I.same.trans sm,I.live⟩
 .rcases mem_cons.mp hp with rfl | hp
  .exact⟨o,dC,gb.mono s hw⟩
  .obtain⟨u,e,q⟩:=I.own p hp;exact⟨u,sm _ _ e,gb.mono s q⟩
 .exact nodup_cons.mpr ⟨hf.2,I.nd⟩
 .rcases mem_cons.mp hp with rfl | hp
  .exact⟨hf.1,I.same.free ha⟩
  .exact I.young p hp
end
end DL
end
section
namespace DL
open PySem PySem.Spec PyProof.Rows L2
section
variable {ι:Type}(F:ι->Cx)
@[irreducible] def SE (e:Expr):TE:=fun σ H Q=> ∀i pins s,Inv (F i) pins σ H s->wpAny (model (F i).prog (F i).w) (F i).A (eval e (F i).env) (EP (F i) pins σ Q) (F i).xe s
@[irreducible] def ST (e:Expr):TT:=fun σ H Q=> ∀i pins s,Inv (F i) pins σ H s->wpAny (model (F i).prog (F i).w) (F i).A (isTrue e (F i).env (eval e (F i).env)) (TP (F i) pins σ Q) (F i).xe s
@[irreducible] def SW (e:Expr):TT:=fun σ H Q=> ∀i whole pins s,Inv (F i) pins σ H s->wpAny (model (F i).prog (F i).w) (F i).A (isTrue e (F i).env whole) (TP (F i) pins σ Q) (F i).xe s
@[irreducible] def SA (es:List Expr):TA:=fun σ H Q=> ∀i pos pins s,Inv (F i) pins σ H s->wpAny (model (F i).prog (F i).w) (F i).A (spliced (backTo pos (starEach es (F i).env))) (AP (F i) pins σ Q) (F i).xe s
@[irreducible] def SS (st:Stmt):TS:=fun D σ H=> ∀i pins s,Inv (F i) pins σ H s->wpAny (model (F i).prog (F i).w) (F i).A (exec st (F i).env) (SP (F i) pins D) (F i).xe s
@[irreducible] def SB (st:List Stmt):TS:=fun D σ H=> ∀i pins s,Inv (F i) pins σ H s->wpAny (model (F i).prog (F i).w) (F i).A (execs st (F i).env) (SP (F i) pins D) (F i).xe s
@[irreducible] def STs (ifs:List Expr):TT:=fun σ H Q=> ∀i pins s,Inv (F i) pins σ H s->wpAny (model (F i).prog (F i).w) (F i).A (forIn ifs true fun c r=>if r=true then do let ok <-isTrue c (F i).env (eval c (F i).env);pure (ForInStep.yield ok) else pure (ForInStep.yield r)) (TP (F i) pins σ Q) (F i).xe s
end
section
variable {ι:Type}{F:ι->Cx}{e:Expr}{es:List Expr}{st:Stmt}{sts:List Stmt}{σ:L2.St}{H:Hp}
theorem SE.pe (i:ι):PE (F i) e (SE F e):=by unfold SE;exact fun pins s _ _ _ I h=>h i pins s I
theorem ST.pt (i:ι):PT (F i) e (ST F e):=by unfold ST;exact fun pins s _ _ _ I h=>h i pins s I
theorem SW.pw (i:ι):PW (F i) e (SW F e):=by unfold SW;exact fun wh pins s _ _ _ I h=>h i wh pins s I
theorem SA.pa (i:ι):PA (F i) es (SA F es):=by unfold SA;exact fun pos pins s _ _ _ I h=>h i pos pins s I
theorem SS.ps (i:ι):PS (F i) st (SS F st):=by unfold SS;exact fun pins s _ _ _ I h=>h i pins s I
theorem SB.ps (i:ι):PSs (F i) sts (SB F sts):=by unfold SB;exact fun pins s _ _ _ I h=>h i pins s I
theorem STs.pts (i:ι):PTs (F i) es (STs F es):=by unfold STs;exact fun pins s _ _ _ I h=>h i pins s I
theorem SE.mk {t:TE}{Q:VK}(h: ∀i,PE (F i) e t)(q:t σ H Q):SE F e σ H Q:=by unfold SE;exact fun i pins s I=>h i pins s σ H Q I q
theorem ST.mk {t:TT}{Q:Bool->Hp->Prop}(h: ∀i,PT (F i) e t)(q:t σ H Q):ST F e σ H Q:=by unfold ST;exact fun i pins s I=>h i pins s σ H Q I q
theorem SW.mk {t:TT}{Q:Bool->Hp->Prop}(h: ∀i,PW (F i) e t)(q:t σ H Q):SW F e σ H Q:=by unfold SW;exact fun i wh pins s I=>h i wh pins s σ H Q I q
theorem SA.mk {t:TA}{Q:List V->Hp->Prop}(h: ∀i,PA (F i) es t)(q:t σ H Q):SA F es σ H Q:=by unfold SA;exact fun i pos pins s I=>h i pos pins s σ H Q I q
theorem SS.mk {t:TS}{D:Ends}(h: ∀i,PS (F i) st t)(q:t D σ H):SS F st D σ H:=by unfold SS;exact fun i pins s I=>h i pins s σ H D I q
theorem SB.mk {t:TS}{D:Ends}(h: ∀i,PSs (F i) sts t)(q:t D σ H):SB F sts D σ H:=by unfold SB;exact fun i pins s I=>h i pins s σ H D I q
theorem STs.mk {t:TT}{Q:Bool->Hp->Prop}(h: ∀i,PTs (F i) es t)(q:t σ H Q):STs F es σ H Q:=by unfold STs;exact fun i pins s I=>h i pins s σ H Q I q
end
abbrev Rho:=List (Option SV)
def YP (t:TE) (ρ:Rho) (γ:Gm) (x:D):Prop:= ∀ ⦃O0 H0 σ H⦄,Ev O0 H0 σ H ρ γ-> ∀Q:VK,(∀v H',aB H H'->Rep x (vis H' (hid O0 γ)) v->Q v H')->t σ H Q
def YR (t:TE) (ρ:Rho) (γ:Gm) (a:Addr):Prop:= ∀ ⦃O0 H0 σ H⦄,Ev O0 H0 σ H ρ γ-> ∀Q:VK,(∀H',aB H H'->Q (.ref a) H')->t σ H Q
def YN (t:TE) (ρ:Rho) (γ:Gm) (l:List D):Prop:= ∀ ⦃O0 H0 σ H⦄,Ev O0 H0 σ H ρ γ-> ∀Q:VK,(∀a xs H1,aB H H1->H1 a=none->l.length<=sizeLine->aA l (vis H1 (hid O0 γ)) xs->Q (.ref a) (upd H1 a (.lst xs)))->t σ H Q
def YL (t:TE) (ρ:Rho) (γ:Gm) (l:List D):Prop:= ∀ ⦃O0 H0 σ H⦄,Ev O0 H0 σ H ρ γ-> ∀Q:VK,(∀a xs H',aB H H'->H' a=some (.lst xs)->l.length<=sizeLine->aA l (vis H' (hid O0 γ)) xs->Q (.ref a) H')->t σ H Q
def YT (t:TT) (ρ:Rho) (γ:Gm) (b:Bool):Prop:= ∀ ⦃O0 H0 σ H⦄,Ev O0 H0 σ H ρ γ-> ∀Q:Bool->Hp->Prop,(∀H',aB H H'->Q b H')->t σ H Q
def YA (t:TA) (ρ:Rho) (γ:Gm) (l:List D):Prop:= ∀ ⦃O0 H0 σ H⦄,Ev O0 H0 σ H ρ γ-> ∀Q:List V->Hp->Prop,(∀vs H',aB H H'->aA l (vis H' (hid O0 γ)) vs->Q vs H')->t σ H Q
def YG (t:TE) (ρ:Rho) (γ:Gm) (P:SV->Gm->Prop):Prop:= ∀ ⦃O0 H0 σ H⦄,Ev O0 H0 σ H ρ γ-> ∀Q:VK,(∀s γ' v H',P s γ'->Ev O0 H0 σ H' ρ γ'->aB (vis H (hid O0 γ)) (vis H' (hid O0 γ'))->bK (vis H' (hid O0 γ')) s v->Q v H')->t σ H Q
def YAG (t:TA) (ρ:Rho) (γ:Gm) (P:List SV->Gm->Prop):Prop:= ∀ ⦃O0 H0 σ H⦄,Ev O0 H0 σ H ρ γ-> ∀Q:List V->Hp->Prop,(∀ss γ' vs H',P ss γ'->Ev O0 H0 σ H' ρ γ'->aB (vis H (hid O0 γ)) (vis H' (hid O0 γ'))->Paired (bK (vis H' (hid O0 γ'))) ss vs->Q vs H')->t σ H Q
theorem fB {H:Hp}{a:Addr}{o:HO}(ha:H a=none):aB H (upd H a o):=fun b u e=>by rw[bc (bW e ha)];exact e
section
variable {t:TE}{ρ:Rho}{γ:Gm}{l:List D}{x:D}{a:Addr}
theorem YN.data (h:YN t ρ γ l):YP t ρ γ (.lst l):=fun O0 H0 σ H I Q k=>h I Q fun a xs H1 s1 ha hl r=>by
 have sg:aB H1 (upd H1 a (.lst xs)):=fB ha;refine k _ _ (s1.trans sg) (jm.mpr ⟨a,xs,rfl,bG.mpr ⟨(I.grow s1).fresh ha,dC⟩,hl,r.mono (cD sg)⟩)
theorem YP.list (h:YP t ρ γ (.lst l)):YL t ρ γ l:=fun O0 H0 σ H I Q k=>h I Q fun v H1 s1 r=>by
 obtain⟨a,xs,rfl,ha,hl,hr⟩:=jm.mp r;exact k a xs H1 s1 (bG.mp ha).2 hl hr
theorem YN.list (h:YN t ρ γ l):YL t ρ γ l:=h.data.list
theorem YR.list (h:YR t ρ γ a)(hm:(a,OD.lst l)∈γ):YL t ρ γ l:=fun O0 H0 σ H I Q k=>h I Q fun H1 s1=>by
 obtain⟨o,e,xs,rfl,hl,r⟩:=(I.grow s1).own _ hm;exact k a xs H1 s1 e hl r
theorem YP.gen {P:SV->Gm->Prop}(h:YP t ρ γ x)(p:P (.d x) γ):YG t ρ γ P:=fun O0 H0 σ H I Q k=>h I Q fun v H1 s1 r=>k (.d x) γ v H1 p (I.grow s1) (cD s1) r
theorem YR.gen {P:SV->Gm->Prop}(h:YR t ρ γ a)(p:P (.pt a) γ):YG t ρ γ P:=fun O0 H0 σ H I Q k=>h I Q fun H1 s1=>k (.pt a) γ _ H1 p (I.grow s1) (cD s1) rfl
theorem YN.gen {P:SV->Gm->Prop}(h:YN t ρ γ l)(p: ∀a,P (.pt a) ((a,.lst l)::γ)):YG t ρ γ P:=fun O0 H0 σ H I Q k=>h I Q fun a xs H1 s1 ha hl r=>by
 have I1:=I.grow s1;refine k (.pt a) _ _ _ (p a) (I1.push ha ⟨xs,rfl,hl,r⟩) ?_ rfl;refine (cD s1).trans (d8 (fB ha) fun b hb=>?_);rcases aQ.mp hb with z | z
 .exact .inl (aQ.mpr (.inl z))
 .rcases mem_cons.mp z with z | z
  .exact .inr (by rw[z];exact ha)
  .exact .inl (aQ.mpr (.inr z))
end
section
variable {ι:Type}(F:ι->Cx)
abbrev DP (e:Expr) (ρ:Rho) (γ:Gm) (x:D):Prop:=YP (SE F e) ρ γ x
abbrev DR (e:Expr) (ρ:Rho) (γ:Gm) (a:Addr):Prop:=YR (SE F e) ρ γ a
abbrev DN (e:Expr) (ρ:Rho) (γ:Gm) (l:List D):Prop:=YN (SE F e) ρ γ l
abbrev DLs (e:Expr) (ρ:Rho) (γ:Gm) (l:List D):Prop:=YL (SE F e) ρ γ l
abbrev DT (e:Expr) (ρ:Rho) (γ:Gm) (b:Bool):Prop:=YT (ST F e) ρ γ b
abbrev DW (e:Expr) (ρ:Rho) (γ:Gm) (b:Bool):Prop:=YT (SW F e) ρ γ b
abbrev DTs (ifs:List Expr) (ρ:Rho) (γ:Gm) (b:Bool):Prop:=YT (STs F ifs) ρ γ b
abbrev DA (es:List Expr) (ρ:Rho) (γ:Gm) (l:List D):Prop:=YA (SA F es) ρ γ l
abbrev DG (e:Expr) (ρ:Rho) (γ:Gm) (P:SV->Gm->Prop):Prop:=YG (SE F e) ρ γ P
abbrev DAG (es:List Expr) (ρ:Rho) (γ:Gm) (P:List SV->Gm->Prop):Prop:=YAG (SA F es) ρ γ P
end
section
variable {ι:Type}{F:ι->Cx}{ρ:Rho}{γ:Gm}{a b c e o:Expr}{es:List Expr}{pos p:Pos}{x y:D}{l m:List D}
theorem pR {k:Nat}{nm:Str}(hr:ρ[k]?=some (some (.d x)))(hN: ∀i,(F i).N[k]?=some nm)(hv: ∀i,Vis (F i).env.scope nm)(hd:(nm==("__debug__":Str))=false:=by decide)(hcd:(nm==("__classdict__":Str))=false:=by decide):DP F (.Name nm pos) ρ γ x :=
 fun O0 H0 σ H I Q k'=>SE.mk (fun i=>rZ (hN i) (hv i) hd hcd) ((I.slot hr).elim fun v q=>⟨v,q.1,k' v H (aB.refl H) q.2⟩)
theorem O8 {k:Nat}{nm:Str}{ad:Addr}(hr:ρ[k]?=some (some (.pt ad)))(hN: ∀i,(F i).N[k]?=some nm)(hv: ∀i,Vis (F i).env.scope nm)(hd:(nm==("__debug__":Str))=false:=by decide)(hcd:(nm==("__classdict__":Str))=false:=by decide):DR F (.Name nm pos) ρ γ ad :=
 fun O0 H0 σ H I Q k'=>SE.mk (fun i=>rZ (hN i) (hv i) hd hcd) ((I.slot hr).elim fun v q=>by
  have e:v= .ref ad:=q.2;subst e
  exact⟨_,q.1,k' H (aB.refl H)⟩)
theorem dm {i:Int}{j}:DP F (.Constant (.int i) j pos) ρ γ (.int i):=fun O0 H0 σ H I Q k=>SE.mk (fun _=>Kh) (k _ H (aB.refl H) (aU.mpr rfl))
theorem pU {j}:DP F (.Constant .none j pos) ρ γ .non:=fun O0 H0 σ H I Q k=>SE.mk (fun _=>Kl) (k _ H (aB.refl H) (iJ.mpr rfl))
theorem O9 {nm:Str}{n:Int}{tk:Tok}(hg: ∀i,Gl (F i) nm)(hm: ∀i,(F i).mg nm=some (.int n tk))(hd:(nm==("__debug__":Str))=false:=by decide):DP F (.Name nm pos) ρ γ (.int n) :=
 fun O0 H0 σ H I Q k=>SE.mk (fun i=>zQ (v:=.int n) (hg i) (hm i) ⟨tk,rfl⟩ hd) (k _ H (aB.refl H) (aU.mpr rfl))
theorem Pa {op:Operator}{g:Int->Int->V}{i j:Int}(ho: ∀i,OpR (F i) (binaryOp op) (rI0 g))(ha:DP F a ρ γ (.int i))(hb:DP F b ρ γ (.int j))(hx: ∀H,Rep x H (g i j)):DP F (.BinOp a op b pos) ρ γ x :=
 fun O0 H0 σ H I Q k=>SE.mk (fun q=>z6 (ho q) (SE.pe q) (SE.pe q)) (ha I _ fun v H1 s1 r1=>hb (I.grow s1) _ fun u H2 s2 r2=>⟨i,j,aU.mp r1,aU.mp r2,k _ H2 (s1.trans s2) (hx _)⟩)
theorem pW {i j:Int}(ha:DP F a ρ γ (.int i))(hb:DP F b ρ γ (.int j)):DP F (.BinOp a .Add b pos) ρ γ (.int (i+j)):=Pa (fun _=>LR) ha hb fun _=>aU.mpr rfl
theorem uc {op:CmpOp}{g:Int->Int->Bool}{i j:Int}(ho: ∀i,OpR (F i) (compareOp op) (rI0 fun i j=>.bl (g i j)))(hm:behindInMarks op b=false)(ha:DP F a ρ γ (.int i))(hb:DP F b ρ γ (.int j)):DP F (.Compare a [op] [b] pos) ρ γ (.bl (g i j)) :=
 fun O0 H0 σ H I Q k=>SE.mk (fun q=>Ae (ho q) (SE.pe q) (SE.pe q) hm) (ha I _ fun v H1 s1 r1=>hb (I.grow s1) _ fun u H2 s2 r2=>⟨i,j,aU.mp r1,aU.mp r2,k _ H2 (s1.trans s2) (fc.mpr rfl)⟩)
theorem Cq {i j:Int}(ha:DP F a ρ γ (.int i))(hb:DP F b ρ γ (.int j)):DP F (.Compare a [.Lt] [b] pos) ρ γ (.bl (decide (i < j))):=uc (fun _=>Ac) (ji _) ha hb
theorem Pb {i j:Int}(ha:DP F a ρ γ (.int i))(hb:DP F b ρ γ (.int j)):DP F (.Compare a [.LtE] [b] pos) ρ γ (.bl (decide (i<=j))):=uc (fun _=>Mh) (ji _) ha hb
theorem Cr {i j:Int}(ha:DP F a ρ γ (.int i))(hb:DP F b ρ γ (.int j)):DP F (.Compare a [.Gt] [b] pos) ρ γ (.bl (decide (j < i))):=uc (fun _=>Ad) (ji _) ha hb
def jW:D->Bool
 | .non=>true
 | _=>false
theorem Cu {x:D}{G:Hp}{v:V}(r:Rep x G v):decide (v= .non)=jW x:=by
 cases x with
 | non=>rw[iJ.mp r];rfl
 | bl _=>rw[fc.mp r];rfl
 | int _=>rw[aU.mp r];rfl
 | lst _=>obtain⟨a,xs,rfl,_⟩:=jm.mp r;rfl
 | tup _=>obtain⟨a,xs,rfl,_⟩:=lH.mp r;rfl
 | obj _ _ _=>obtain⟨a,dx,xs,rfl,_⟩:=pP.mp r;rfl
 | frl _=>obtain⟨a,o,rfl,_⟩:=mX.mp r;rfl
theorem dN {bb:Bool}(ha:DP F a ρ γ (.bl bb))(he: ∀i whole,isTrue a (F i).env whole=(do let v <-whole;standAt a.pos;holding [v] (truthy v)):=by intro _ _;rfl):DT F a ρ γ bb :=
 fun O0 H0 σ H I Q k=>ST.mk (fun q=>Kv (SE.pe q) (he q)) (ha I _ fun v H1 s1 r1=>⟨bb,fc.mp r1,k H1 s1⟩)
theorem ud {op:CmpOp}{g:Int->Int->Bool}{i j:Int}(ho: ∀i,OpR (F i) (compareOp op) (rI0 fun i j=>.bl (g i j)))(hm:behindInMarks op b=false)(ha:DP F a ρ γ (.int i))(hb:DP F b ρ γ (.int j)):DT F (.Compare a [op] [b] pos) ρ γ (g i j) :=
 fun O0 H0 σ H I Q k=>ST.mk (fun q=>lC (ho q) (SE.pe q) (SE.pe q) hm) (ha I _ fun v H1 s1 r1=>hb (I.grow s1) _ fun u H2 s2 r2=>⟨i,j,aU.mp r1,aU.mp r2,_,rfl,k H2 (s1.trans s2)⟩)
theorem Ph {i j:Int}(ha:DP F a ρ γ (.int i))(hb:DP F b ρ γ (.int j)):DT F (.Compare a [.Lt] [b] pos) ρ γ (decide (i < j)):=ud (fun _=>Ac) (ji _) ha hb
theorem pX {i j:Int}(ha:DP F a ρ γ (.int i))(hb:DP F b ρ γ (.int j)):DT F (.Compare a [.Gt] [b] pos) ρ γ (decide (j < i)):=ud (fun _=>Ad) (ji _) ha hb
theorem Pj {i j:Int}(ha:DP F a ρ γ (.int i))(hb:DP F b ρ γ (.int j)):DT F (.Compare a [.GtE] [b] pos) ρ γ (decide (j<=i)):=ud (fun _=>Mi) (ji _) ha hb
theorem pY {i j:Int}(ha:DP F a ρ γ (.int i))(hb:DP F b ρ γ (.int j)):DT F (.Compare a [.Eq] [b] pos) ρ γ (decide (i=j)) :=
 fun O0 H0 σ H I Q k=>ST.mk (fun q=>lC Mf (SE.pe q) (SE.pe q) (ji _)) (ha I _ fun v H1 s1 r1=>hb (I.grow s1) _ fun u H2 s2 r2=>by
  rw[aU.mp r1,aU.mp r2];refine⟨rfl,_,rfl,?_⟩
  have e:decide (V.int i=V.int j)=decide (i=j):=by simp
  rw[e]
  exact k H2 (s1.trans s2))
theorem pZ {i j:Int}(ha:DP F a ρ γ (.int i))(hb:DP F b ρ γ (.int j)):DT F (.Compare a [.NotEq] [b] pos) ρ γ (!decide (i=j)) :=
 fun O0 H0 σ H I Q k=>ST.mk (fun q=>lC Mg (SE.pe q) (SE.pe q) (ji _)) (ha I _ fun v H1 s1 r1=>hb (I.grow s1) _ fun u H2 s2 r2=>by
  rw[aU.mp r1,aU.mp r2];refine⟨rfl,_,rfl,?_⟩
  have e:decide (V.int i=V.int j)=decide (i=j):=by simp
  rw[e]
  exact k H2 (s1.trans s2))
theorem lJ {j}{pos'}(ha:DP F a ρ γ x):DT F (.Compare a [.Is] [.Constant .none j pos'] pos) ρ γ (jW x) :=
 fun O0 H0 σ H I Q k=>ST.mk (fun q=>zR (Ks (SE.pe q))) (ha I _ fun v H1 s1 r1=>⟨_,rfl,by rw[Cu r1];exact k H1 s1⟩)
theorem Cv {j}{pos'}(ha:DP F a ρ γ x):DT F (.Compare a [.IsNot] [.Constant .none j pos'] pos) ρ γ (!jW x) :=
 fun O0 H0 σ H I Q k=>ST.mk (fun q=>zR (Ku (SE.pe q))) (ha I _ fun v H1 s1 r1=>⟨_,rfl,by rw[Cu r1];exact k H1 s1⟩)
theorem w_and {rest:List Expr}{t u:Bool}(ha:DT F a ρ γ t)(hb:t=true->DW F (.BoolOp .And (b::rest) pos) ρ γ u):DW F (.BoolOp .And (a::b::rest) pos) ρ γ (t&&u) :=
 fun O0 H0 σ H I Q k=>SW.mk (fun q=>KD (ST.pt q) (SW.pw q)) (ha I _ fun H1 s1=>by
  cases t with
  | true=>exact hb rfl (I.grow s1) _ fun H2 s2=>k H2 (s1.trans s2)
  | false=>exact k H1 s1)
theorem w_or {rest:List Expr}{t u:Bool}(ha:DT F a ρ γ t)(hb:t=false->DW F (.BoolOp .Or (b::rest) pos) ρ γ u):DW F (.BoolOp .Or (a::b::rest) pos) ρ γ (t||u) :=
 fun O0 H0 σ H I Q k=>SW.mk (fun q=>KH (ST.pt q) (SW.pw q)) (ha I _ fun H1 s1=>by
  cases t with
  | true=>exact k H1 s1
  | false=>exact hb rfl (I.grow s1) _ fun H2 s2=>k H2 (s1.trans s2))
theorem Cw {t:Bool}(ha:DT F a ρ γ t):DW F (.BoolOp .And [a] pos) ρ γ t:=fun O0 H0 σ H I Q k=>SW.mk (fun q=>Kz (ST.pt q)) (ha I _ k)
theorem ue {t:Bool}(ha:DT F a ρ γ t):DW F (.BoolOp .Or [a] pos) ρ γ t:=fun O0 H0 σ H I Q k=>SW.mk (fun q=>KC (ST.pt q)) (ha I _ k)
theorem t_w {t:Bool}(h:DW F a ρ γ t):DT F a ρ γ t:=fun O0 H0 σ H I Q k=>ST.mk (fun q=>(SW.pw q).pt) (h I _ k)
theorem jn {t:Bool}(h:DT F a ρ γ t):DT F (.UnaryOp .Not a pos) ρ γ (!t):=fun O0 H0 σ H I Q k=>ST.mk (fun q=>KJ (ST.pt q)) (h I _ k)
theorem Pk {rest:List Expr}{t u:Bool}(ha:DP F a ρ γ (.bl t))(hb:t=true->DP F (.BoolOp .And (b::rest) pos) ρ γ (.bl u)):DP F (.BoolOp .And (a::b::rest) pos) ρ γ (.bl (t&&u)) :=
 fun O0 H0 σ H I Q k=>SE.mk (fun q=>KY (SE.pe q) (SE.pe q)) (ha I _ fun v H1 s1 r1=>⟨t,fc.mp r1,by
  cases t with
  | true=>exact hb rfl (I.grow s1) _ fun v2 H2 s2=>k v2 H2 (s1.trans s2)
  | false=>exact k _ H1 s1 (fc.mpr rfl)⟩)
theorem Cy {rest:List Expr}{t u:Bool}(ha:DP F a ρ γ (.bl t))(hb:t=false->DP F (.BoolOp .Or (b::rest) pos) ρ γ (.bl u)):DP F (.BoolOp .Or (a::b::rest) pos) ρ γ (.bl (t||u)) :=
 fun O0 H0 σ H I Q k=>SE.mk (fun q=>KZ (SE.pe q) (SE.pe q)) (ha I _ fun v H1 s1 r1=>⟨t,fc.mp r1,by
  cases t with
  | true=>exact k _ H1 s1 (fc.mpr rfl)
  | false=>exact hb rfl (I.grow s1) _ fun v2 H2 s2=>k v2 H2 (s1.trans s2)⟩)
theorem Cz {op}(ha:DP F a ρ γ x):DP F (.BoolOp op [a] pos) ρ γ x:=fun O0 H0 σ H I Q k=>SE.mk (fun q=>KR (SE.pe q)) (ha I _ k)
theorem uf {t:Bool}(hc:DT F c ρ γ t)(ha:t=true->DP F a ρ γ x)(hb:t=false->DP F b ρ γ x):DP F (.IfExp c a b pos) ρ γ x :=
 fun O0 H0 σ H I Q k=>SE.mk (fun q=>K4 (ST.pt q) (SE.pe q) (SE.pe q)) (hc I _ fun H1 s1=>by
  cases t with
  | true=>exact ha rfl (I.grow s1) _ fun v2 H2 s2=>k v2 H2 (s1.trans s2)
  | false=>exact hb rfl (I.grow s1) _ fun v2 H2 s2=>k v2 H2 (s1.trans s2))
theorem ug:DTs F [] ρ γ true:=fun O0 H0 σ H I Q k=>STs.mk (fun _=>NT) (k H (aB.refl H))
theorem cN {t:Bool}(h:DT F c ρ γ t):DTs F [c] ρ γ t:=fun O0 H0 σ H I Q k=>STs.mk (fun q=>NZ (ST.pt q)) (h I _ k)
theorem aW:DA F [] ρ γ []:=fun O0 H0 σ H I Q k=>SA.mk (fun _=>cM) (k _ H (aB.refl H) (bY.mpr rfl))
theorem aG (ha:DP F e ρ γ x)(hr:DA F es ρ γ l)(hs: ∀i,starEach (e::es) (F i).env=(false,eval e (F i).env)::starEach es (F i).env:=by intro _;rfl):DA F (e::es) ρ γ (x::l) :=
 fun O0 H0 σ H I Q k=>SA.mk (fun q=>cH (SE.pe q) (SA.pa q) (hs q)) (ha I _ fun v H1 s1 r1=>hr (I.grow s1) _ fun vs H2 s2 r2=>k _ H2 (s1.trans s2) (aA.cons (r1.mono (cD s2)) r2))
theorem aY (h:DA F es ρ γ l)(hl:l.length<=sizeLine:=by show _<=16777216;decide):DN F (.List es pos) ρ γ l :=
 fun O0 H0 σ H I Q k=>SE.mk (fun q=>MJ (SA.pa q)) (h I _ fun vs H1 s1 r1=>⟨by rw[r1.length];exact hl,fun p hp=>k p vs H1 s1 hp hl r1⟩)
theorem jX {kk}(h:DA F es ρ γ l)(hl:l.length<=sizeLine:=by show _<=16777216;decide):DP F (.Tuple es kk pos) ρ γ (.tup l) :=
 fun O0 H0 σ H I Q k=>SE.mk (fun q=>MF (SA.pa q)) (h I _ fun vs H1 s1 r1=>⟨by rw[r1.length];exact hl,fun p hp=>by
  have sg:aB H1 (upd H1 p (.tup vs)):=fB hp
  exact k _ _ (s1.trans sg) (lH.mpr ⟨p,vs,rfl,bG.mpr ⟨(I.grow s1).fresh hp,dC⟩,r1.mono (cD sg)⟩)⟩)
end
end DL
end
section
namespace DL
open PySem PySem.Spec PyProof.Rows L2
section
variable {ι:Type}{F:ι->Cx}{e:Expr}{σ:L2.St}{H:Hp}
theorem SE.mk2 {t:ι->TE}{Q:VK}(h: ∀i,PE (F i) e (t i))(q: ∀i,t i σ H Q):SE F e σ H Q:=by unfold SE;exact fun i pins s I=>h i pins s σ H Q I (q i)
theorem ST.mk2 {t:ι->TT}{Q:Bool->Hp->Prop}(h: ∀i,PT (F i) e (t i))(q: ∀i,t i σ H Q):ST F e σ H Q:=by unfold ST;exact fun i pins s I=>h i pins s σ H Q I (q i)
end
theorem CJ {G:Hp}{f:Str}{x:D}: ∀{ns:List Str} {l:List D} {xs:List V},aA l G xs->(ns.zip l).lookup f=some x-> ∃v,(ns.zip xs).lookup f=some v/\Rep x G v
 | [],l,xs,_,e=>by simp at e
 | n::ns,[],xs,_,e=>by simp at e
 | n::ns,d::l,xs,r,e=>by
  obtain⟨y,ys,rfl,h1,h2⟩:=cC.mp r;rw[zip_cons_cons,lookup_cons] at e ⊢
  cases q:f==n with
  | true =>
   rw[q] at e;cases e;exact⟨y,rfl,h1⟩
  | false =>
   rw[q] at e;exact CJ h2 e
theorem qb {G:Hp}{f:Str}{x:SV}: ∀{ns:List Str} {l:List SV} {xs:List V},Paired (bK G) l xs->(ns.zip l).lookup f=some x-> ∃v,(ns.zip xs).lookup f=some v/\bK G x v
 | [],l,xs,_,e=>by simp at e
 | n::ns,[],xs,_,e=>by simp at e
 | n::ns,d::l,_,.cons (b:=y) h1 h2,e=>by
  rw[zip_cons_cons,lookup_cons] at e ⊢
  cases q:f==n with
  | true =>
   rw[q] at e;cases e;exact⟨y,rfl,h1⟩
  | false =>
   rw[q] at e;exact qb h2 e
section
variable {ι:Type}{F:ι->Cx}{ρ:Rho}{γ:Gm}{a b c e o:Expr}{es:List Expr}{pos p:Pos}{x y:D}{l m:List D}
theorem jY {C:Addr}{ns:List Str}{ds:List D}{f:Str}(ho:DP F o ρ γ (.obj C ns ds))(hc: ∀i,Cls (F i).K C)(hn: ∀i,cR (F i).K C f)(hl:(ns.zip ds).lookup f=some x)
  (hb: ∀i,attributeBase o f (F i).env (eval o (F i).env)=eval o (F i).env:=by intro _;rfl):DP F (.Attribute o f pos) ρ γ x :=
 fun O0 H0 σ H I Q k=>SE.mk2 (t:=fun i=>oZ (F i).K (SE F o) f) (fun i=>sS (SE.pe i) (hb i)) fun i=>ho I _ fun v H1 s1 r1=>by
  obtain⟨ad,dx,xs,rfl,ha,hlen,r⟩:=pP.mp r1;obtain⟨u,hu,ru⟩:=CJ r hl;exact⟨ad,C,dx,_,u,rfl,(bG.mp ha).2,hc i,hn i,hu,k u H1 s1 ru⟩
theorem iK {O0:Addr->Bool}{H0 H:Hp}{σ:L2.St}(I:Ev O0 H0 σ H ρ γ){ad C:Addr}{ns:List Str}{ss:List SV}(hm:(ad,OD.ins C ns ss)∈γ): ∃dx xs,H ad=some (.ins C dx (ns.zip xs))/\ns.length=ss.length/\Paired (bK (vis H (hid O0 γ))) ss xs:=by
 obtain⟨o,e,dx,xs,rfl,h1,h2⟩:=I.own _ hm;exact⟨dx,xs,e,h1,h2⟩
theorem Pn {ad C:Addr}{ns:List Str}{ss:List SV}{f:Str}(ho:DR F o ρ γ ad)(hm:(ad,OD.ins C ns ss)∈γ)(hc: ∀i,Cls (F i).K C)(hn: ∀i,cR (F i).K C f)(hl:(ns.zip ss).lookup f=some (.d x))
  (hb: ∀i,attributeBase o f (F i).env (eval o (F i).env)=eval o (F i).env:=by intro _;rfl):DP F (.Attribute o f pos) ρ γ x :=
 fun O0 H0 σ H I Q k=>SE.mk2 (t:=fun i=>oZ (F i).K (SE F o) f) (fun i=>sS (SE.pe i) (hb i)) fun i=>ho I _ fun H1 s1=>by
  obtain⟨dx,xs,ha,_,r⟩:=iK (I.grow s1) hm;obtain⟨u,hu,ru⟩:=qb r hl;exact⟨ad,C,dx,_,u,rfl,ha,hc i,hn i,hu,k u H1 s1 ru⟩
theorem Pq {ad ad' C:Addr}{ns:List Str}{ss:List SV}{f:Str}(ho:DR F o ρ γ ad)(hm:(ad,OD.ins C ns ss)∈γ)(hc: ∀i,Cls (F i).K C)(hn: ∀i,cR (F i).K C f)(hl:(ns.zip ss).lookup f=some (.pt ad'))
  (hb: ∀i,attributeBase o f (F i).env (eval o (F i).env)=eval o (F i).env:=by intro _;rfl):DR F (.Attribute o f pos) ρ γ ad' :=
 fun O0 H0 σ H I Q k=>SE.mk2 (t:=fun i=>oZ (F i).K (SE F o) f) (fun i=>sS (SE.pe i) (hb i)) fun i=>ho I _ fun H1 s1=>by
  obtain⟨dx,xs,ha,_,r⟩:=iK (I.grow s1) hm;obtain⟨u,hu,ru⟩:=qb r hl;have e:u= .ref ad':=ru;subst e;exact⟨ad,C,dx,_,_,rfl,ha,hc i,hn i,hu,k H1 s1⟩
theorem qd {α:Type}{xs:List α}{k:Int}{v:α}(h0:0<=k)(h:xs[k.toNat]?=some v):atI xs k=some v:=by
 have:=M4 h
 rwa [Int.toNat_of_nonneg h0] at this
theorem gG {k:Int}(ha:DLs F a ρ γ l)(hb:DP F b ρ γ (.int k))(h0:0<=k)(hx:l[k.toNat]?=some x)(hs:fL b:=by intro _ _;rfl):DP F (.Subscript a b pos) ρ γ x :=
 fun O0 H0 σ H I Q k'=>SE.mk2 (t:=fun i=>tOp (pB (F i).K) (SE F a) (SE F b)) (fun i=>mQ sW (SE.pe i) (SE.pe i) hs) fun i=>ha I _ fun ad xs H1 s1 hl _ r1=>hb (I.grow s1) _ fun u H2 s2 r2=>by
  obtain⟨v,hv,rv⟩:=aA.get (r1.mono (cD s2)) hx;exact⟨ad,xs,k,v,rfl,aU.mp r2,SqL.of (s2 _ _ hl),qd h0 hv,k' v H2 (s1.trans s2) rv⟩
theorem Pr {k:Int}(ha:DP F a ρ γ (.tup l))(hb:DP F b ρ γ (.int k))(h0:0<=k)(hx:l[k.toNat]?=some x)(hs:fL b:=by intro _ _;rfl):DP F (.Subscript a b pos) ρ γ x :=
 fun O0 H0 σ H I Q k'=>SE.mk2 (t:=fun i=>tOp (sV (F i).K) (SE F a) (SE F b)) (fun i=>mQ Bg (SE.pe i) (SE.pe i) hs) fun i=>ha I _ fun v0 H1 s1 r1=>hb (I.grow s1) _ fun u H2 s2 r2=>by
  obtain⟨ad,xs,rfl,hl,r⟩:=lH.mp r1;obtain⟨v,hv,rv⟩:=aA.get (r.mono (cD s2)) hx;exact⟨ad,xs,k,v,rfl,aU.mp r2,SqT.of (s2 _ _ (bG.mp hl).2),qd h0 hv,k' v H2 (s1.trans s2) rv⟩
theorem iM (h:DLs F e ρ γ l)(hg: ∀i,Gl (F i) "len")(hm: ∀i,(F i).mg "len"=none)(he: ∀i,starEach [e] (F i).env=[(false,eval e (F i).env)]:=by intro _;rfl):DP F (.Call (.Name "len" p) [e] [] pos) ρ γ (.int l.length) :=
 fun O0 H0 σ H I Q k=>SE.mk2 (fun i=>jQ Bk (hg i) (hm i) PySem.boot_len (cH (SE.pe i) cM (he i)) (he:=he i)) fun i=>h I _ fun ad xs H1 s1 hl _ r1=>by
  refine⟨ad,xs,rfl,.inl (SqL.of hl),k _ H1 s1 (aU.mpr ?_)⟩;rw[r1.length]
theorem qe (n:Int): ∀ns:List Int,inV (.int n) (ns.map V.int)=ns.contains n
 | []=>rfl
 | a::ns=>by
  have ih:=qe n ns;unfold inV at ih ⊢;rw[map_cons,any_cons,ih,List.contains_cons];congr 1;show (a==n)=(n==a);rw[Bool.eq_iff_iff,beq_iff_eq,beq_iff_eq];exact eq_comm
theorem uh (ns:List Int):(ns.map V.int).all iH=true:=by
 rw[all_map,all_eq_true];exact fun _ _=>rfl
theorem ul {n:Int}{ns:List Int}(ha:DP F a ρ γ (.int n))(hb:DLs F b ρ γ (ns.map D.int))(hm:behindInMarks .In b=false:=by with_unfolding_all rfl):DP F (.Compare a [.In] [b] pos) ρ γ (.bl (ns.contains n)) :=
 fun O0 H0 σ H I Q k=>SE.mk2 (t:=fun i=>tOp (rIn (F i).K false) (SE F a) (SE F b)) (fun i=>Ae sY (SE.pe i) (SE.pe i) hm) fun i=>ha I _ fun v H1 s1 r1=>hb (I.grow s1) _ fun ad xs H2 s2 hl _ r2=>by
  have e:=cW.mp r2;subst e;rw[aU.mp r1];refine⟨ad,_,rfl,.inl (SqL.of hl),rfl,uh ns,?_⟩;rw[if_neg (by decide),qe];exact k _ H2 (s1.trans s2) (fc.mpr rfl)
theorem um {n:Int}{ns:List Int}(ha:DP F a ρ γ (.int n))(hb:DLs F b ρ γ (ns.map D.int))(hm:behindInMarks .In b=false:=by with_unfolding_all rfl):DT F (.Compare a [.In] [b] pos) ρ γ (ns.contains n) :=
 fun O0 H0 σ H I Q k=>ST.mk2 (t:=fun i=>oY (tOp (rIn (F i).K false) (SE F a) (SE F b))) (fun i=>lC sY (SE.pe i) (SE.pe i) hm) fun i=>ha I _ fun v H1 s1 r1=>hb (I.grow s1) _ fun ad xs H2 s2 hl _ r2=>by
  have e:=cW.mp r2;subst e;rw[aU.mp r1];refine⟨ad,_,rfl,.inl (SqL.of hl),rfl,uh ns,_,rfl,?_⟩;rw[if_neg (by decide),qe];exact k H2 (s1.trans s2)
theorem Px {n:Int}{ns:List Int}(ha:DP F a ρ γ (.int n))(hb:DLs F b ρ γ (ns.map D.int))(hm:behindInMarks .NotIn b=false:=by with_unfolding_all rfl):DT F (.Compare a [.NotIn] [b] pos) ρ γ (!ns.contains n) :=
 fun O0 H0 σ H I Q k=>ST.mk2 (t:=fun i=>oY (tOp (rIn (F i).K true) (SE F a) (SE F b))) (fun i=>lC M8 (SE.pe i) (SE.pe i) hm) fun i=>ha I _ fun v H1 s1 r1=>hb (I.grow s1) _ fun ad xs H2 s2 hl _ r2=>by
  have e:=cW.mp r2;subst e;rw[aU.mp r1];refine⟨ad,_,rfl,.inl (SqL.of hl),rfl,uh ns,_,rfl,?_⟩;rw[if_pos rfl,qe];exact k H2 (s1.trans s2)
theorem qg {bs:List Bool}(h:DLs F e ρ γ (bs.map D.bl))(hc: ∀i,(F i).calm=true)(hg: ∀i,Gl (F i) "any")(hm: ∀i,(F i).mg "any"=none)(he: ∀i,starEach [e] (F i).env=[(false,eval e (F i).env)]:=by intro _;rfl):DP F (.Call (.Name "any" p) [e] [] pos) ρ γ (.bl (bs.any id)) :=
 fun O0 H0 σ H I Q k=>SE.mk2 (fun i=>jQ (Nt (hc i)) (hg i) (hm i) boot_any (cH (SE.pe i) cM (he i)) (he:=he i)) fun i=>h I _ fun ad xs H1 s1 hl _ r1=>by
  have e:=pQ.mp r1;subst e;exact⟨ad,bs,rfl,SqL.of hl,k _ H1 s1 (fc.mpr rfl)⟩
theorem CK {bs:List Bool}(h:DLs F e ρ γ (bs.map D.bl))(hc: ∀i,(F i).calm=true)(hg: ∀i,Gl (F i) "all")(hm: ∀i,(F i).mg "all"=none)(he: ∀i,starEach [e] (F i).env=[(false,eval e (F i).env)]:=by intro _;rfl):DP F (.Call (.Name "all" p) [e] [] pos) ρ γ (.bl (bs.all id)) :=
 fun O0 H0 σ H I Q k=>SE.mk2 (fun i=>jQ (Nu (hc i)) (hg i) (hm i) boot_all (cH (SE.pe i) cM (he i)) (he:=he i)) fun i=>h I _ fun ad xs H1 s1 hl _ r1=>by
  have e:=pQ.mp r1;subst e;exact⟨ad,bs,rfl,SqL.of hl,k _ H1 s1 (fc.mpr rfl)⟩
theorem uo: ∀{l m:List Int},l.Perm m->l.Pairwise (·<=·)->m.Pairwise (·<=·)->l=m
 | [],m,h,_,_=>(List.nil_perm.mp h).symm
 | a::l,[],h,_,_=>absurd h.length_eq (by simp)
 | a::l,b::m,h,h1,h2=>by
  have ha:=pairwise_cons.mp h1;have hb:=pairwise_cons.mp h2
  have e:a=b:=by
   have m1:a∈b::m:=h.mem_iff.mp (mem_cons_self ..);have m2:b∈a::l:=h.mem_iff.mpr (mem_cons_self ..);rcases mem_cons.mp m1 with e | m1
   .exact e
   .rcases mem_cons.mp m2 with e | m2
    .exact e.symm
    .have:=ha.1 _ m2;have:=hb.1 _ m1;omega
  subst e;rw[uo (List.Perm.cons_inv h) ha.2 hb.2]
theorem ur {ns out:List Int}(h:DLs F e ρ γ (ns.map D.int))(h64:ns.length < 64)(hp:out.Perm ns)(hs:out.Pairwise (·<=·))(hg: ∀i,Gl (F i) "sorted")(hm: ∀i,(F i).mg "sorted"=none)
  (he: ∀i,starEach [e] (F i).env=[(false,eval e (F i).env)]:=by intro _;rfl):DN F (.Call (.Name "sorted" p) [e] [] pos) ρ γ (out.map D.int) :=
 fun O0 H0 σ H I Q k=>SE.mk2 (fun i=>jQ Np (hg i) (hm i) boot_sorted (cH (SE.pe i) cM (he i)) (he:=he i)) fun i=>h I _ fun ad xs H1 s1 hl _ r1=>by
  have e:=cW.mp r1;subst e;refine⟨ad,ns,rfl,SqL.of hl,h64,fun ns' q h1 h2 h3=>?_⟩;have e:ns'=out:=uo (h1.trans hp.symm) h2 hs;subst e;exact k q _ H1 s1 h3 (by rw[length_map,hp.length_eq];exact pD h64) (cW.mpr rfl)
theorem Py (h:DLs F e ρ γ l)(hg: ∀i,Gl (F i) "list")(hm: ∀i,(F i).mg "list"=none)(he: ∀i,starEach [e] (F i).env=[(false,eval e (F i).env)]:=by intro _;rfl):DN F (.Call (.Name "list" p) [e] [] pos) ρ γ l :=
 fun O0 H0 σ H I Q k=>SE.mk2 (fun i=>pq M9 (hg i) (hm i) PyProof.Rows.boot_list (cH (SE.pe i) cM (he i)) (he:=he i)) fun i=>h I _ fun ad xs H1 s1 hl hz r1=>⟨ad,xs,rfl,.inl (SqL.of hl),fun q hq=>k q xs H1 s1 hq hz r1⟩
theorem gW (ha:DLs F a ρ γ l)(hb:DLs F b ρ γ m)(hz:l.length+m.length<=sizeLine):DN F (.BinOp a .Add b pos) ρ γ (l++m) :=
 fun O0 H0 σ H I Q k=>SE.mk (fun i=>z6 Nk (SE.pe i) (SE.pe i)) (ha I _ fun ad xs H1 s1 hl _ r1=>hb (I.grow s1) _ fun ad' ys H2 s2 hl' _ r2=>by
  refine⟨ad,ad',xs,ys,rfl,rfl,s2 _ _ hl,hl',by rw[r1.length,r2.length];exact hz,fun q hq=>?_⟩
  exact k q _ H2 (s1.trans s2) hq (by rw[length_append];exact hz) ((r1.mono (cD s2)).append r2))
end
end DL
end
section
namespace DL
open PySem PySem.Spec PyProof.Rows L2
section
variable {ι:Type}(F:ι->Cx)
@[irreducible] def SI (tg iter:Expr):TI:=fun σ H R=> ∀i pins s,Inv (F i) pins σ H s->wpAny (model (F i).prog (F i).w) (F i).A (eval iter (F i).env) (fun v s1=>wpAny (model (F i).prog (F i).w) (F i).A (pyIter v) (PIE (F i) pins σ tg R) (F i).xe s1) (F i).xe s
@[irreducible] def SG (tg:Expr):TG:=fun v σ H Q=> ∀i pins s u,Inv (F i) pins σ H s->RelV v u->wpAny (model (F i).prog (F i).w) (F i).A (assign tg (F i).env u) (fun _ s'=> ∃σ' H',Inv (F i) pins σ' H' s'/\Q σ' H') (F i).xe s
abbrev Ib (ι:Type):=ι×Shared×Hp×Addr×List (Str×Addr)×List Addr
def cX (scope:Scope):Ib ι->Cx:=fun j=>(F j.1).blk j.2.1 j.2.2.1 scope (compEnvC scope j.2.2.2.2.1 j.2.2.2.1 (F j.1).env) j.2.2.2.2.2
end
section
variable {ι:Type}{F:ι->Cx}{tg iter:Expr}{σ:L2.St}{H:Hp}
theorem SI.pi (i:ι):PI (F i) tg iter (SI F tg iter):=by unfold SI;exact fun pins s _ _ _ I h=>h i pins s I
theorem SG.pg (i:ι):PG (F i) tg (SG F tg):=by unfold SG;exact fun pins s _ _ _ u _ I r h=>h i pins s u I r
theorem SI.mk2 {t:ι->TI}{R:It->Hp->Prop}(h: ∀i,PI (F i) tg iter (t i))(q: ∀i,t i σ H R):SI F tg iter σ H R:=by unfold SI;exact fun i pins s I=>h i pins s σ H R I (q i)
theorem SG.mk2 {t:ι->TG}{v:V}{Q:L2.St->Hp->Prop}(h: ∀i,PG (F i) tg (t i))(q: ∀i,t i v σ H Q):SG F tg v σ H Q:=by unfold SG;exact fun i pins s u I r=>h i pins s σ H v u Q I r (q i)
end
def qi (J:It) (G:Hp) (O:Addr->Bool) (items:List D):Prop:= ∀H2 O',aB G H2->(∀b,O' b=true->O b=true\/G b=none)->(∀b,O' b=true->H2 b≠none) ->
 (∀i x,items[i]?=some x->J.go i H2/\ ∀v H',J.yld i H2 v H'->aB H2 H'/\Rep x (vis H' O') v)/\ ∀i,items.length<=i->J.stop i H2
def YIo (wi:TI) (ρ:Rho) (γ:Gm) (items:List D):Prop:= ∀ ⦃O0 H0 σ H⦄,Ev O0 H0 σ H ρ γ-> ∀R:It->Hp->Prop,(∀J H1,aB H H1->qi J H1 (hid O0 γ) items->R J H1)->wi σ H R
def YI (wi:TI) (ρ:Rho) (γ:Gm) (items:List D):Prop:= ∀ ⦃O0 H0 σ H⦄,Ev O0 H0 σ H ρ γ-> ∀R:It->Hp->Prop,(∀J H1,aB H H1->qi J (vis H1 (hid O0 γ)) (hid O0 γ) items->R J H1)->wi σ H R
theorem YI.o {wi:TI}{ρ:Rho}{γ:Gm}{items:List D}(h:YI wi ρ γ items):YIo wi ρ γ items:=fun O0 H0 σ H I R k=>h I R fun J H1 s1 q=>k J H1 s1 fun H2 O' s2 h1 h2=>q H2 O' (O7.trans s2) (fun b hb=>(h1 b hb).imp id fun z=>by
 cases e:vis H1 (hid O0 γ) b with
 | none=>rfl
 | some o=>rw[(bG.mp e).2] at z;cases z) h2
abbrev DI {ι:Type} (F:ι->Cx) (tg iter:Expr) (ρ:Rho) (γ:Gm) (items:List D):Prop:=YI (SI F tg iter) ρ γ items
abbrev DIo {ι:Type} (F:ι->Cx) (tg iter:Expr) (ρ:Rho) (γ:Gm) (items:List D):Prop:=YIo (SI F tg iter) ρ γ items
theorem CN {K:Frag}{ad:Addr}{G:Hp}{O:Addr->Bool}{xs:List V}{l:List D}(hl:G ad=some (.lst xs))(r:aA l (vis G O) xs):qi (Itl K ad) G O l:=fun H2 O' s h1 h2=>by
 have hl2:=s _ _ hl;have r2:aA l (vis H2 O') xs:=r.mono (d8 s h1);have uq: ∀{ys},SqL K H2 ad ys-> ∀{zs:List V},SqL K H2 ad zs->True:=fun _ _ _=>trivial;refine⟨fun i x hx=>?_,fun i hi=>⟨xs,SqL.of hl2,by rw[r2.length];exact hi⟩⟩;obtain⟨v,hv,rv⟩:=aA.get r2 hx;refine⟨⟨xs,v,SqL.of hl2,hv⟩,fun u H' y=>?_⟩;obtain⟨rfl,y⟩:=y;have e:=y xs (SqL.of hl2);rw[hv] at e;cases e;exact⟨aB.refl _,rv⟩
theorem CP {H:Hp}{O:Addr->Bool}:vis (vis H O) O=vis H O:=by
 funext b;unfold vis
 by_cases h:O b=true
 .rw[if_pos h,if_pos h]
 .rw[if_neg h,if_neg h]
section
variable {ι:Type}{F:ι->Cx}{ρ:Rho}{γ:Gm}{a b c e o tg iter elt:Expr}{es ifs:List Expr}{pos p:Pos}{x y:D}{l m:List D}
theorem mZ (h:DP F iter ρ γ (.lst l)):DI F tg iter ρ γ l:=fun O0 H0 σ H I R k=>SI.mk2 (t:=fun i=>sE (F i).K (SE F iter)) (fun i=>zY (SE.pe i)) fun i=>h I _ fun v H1 s1 r=>by
 obtain⟨ad,xs,rfl,ha,hl,hr⟩:=jm.mp r;exact⟨ad,rfl,⟨xs,SqL.of (bG.mp ha).2⟩,k _ H1 s1 (CN ha (by rw[CP];exact hr))⟩
theorem bC (h:DLs F iter ρ γ l):DIo F tg iter ρ γ l:=fun O0 H0 σ H I R k=>SI.mk2 (t:=fun i=>sE (F i).K (SE F iter)) (fun i=>zY (SE.pe i)) fun i=>h I _ fun ad xs H1 s1 ha hl hr=>by
 exact⟨ad,rfl,⟨xs,SqL.of ha⟩,k _ H1 s1 (CN ha hr)⟩
theorem ut {n:Nat}(h:DP F a ρ γ (.int n))(hn:n < 2 ^ 62)(hg: ∀i,Gl (F i) "range")(hm: ∀i,(F i).mg "range"=none)(hs: ∀i,starEach [a] (F i).env=[(false,eval a (F i).env)]:=by intro _;rfl):DI F tg (.Call (.Name "range" p) [a] [] pos) ρ γ ((List.range n).map fun k=>.int (k:Nat)) :=
 fun O0 H0 σ H I R k=>SI.mk2 (t:=fun i=>zZ (lD (SE F a) gF)) (fun i=>Lx (hg i) (hm i) (cH (SE.pe i) cM (hs i)) (hs i)) fun i=>h I _ fun v H1 s1 r=>by
  refine⟨(n:Int),by rw[aU.mp r],by omega,by omega,k _ H1 s1 fun H2 O' _ _ _=>⟨fun i x hx=>?_,fun i hi=>?_⟩⟩
  .rw[List.getElem?_map] at hx
   by_cases hlt:i < n
   .rw[List.getElem?_range hlt] at hx;cases hx;refine⟨by show i < ((n:Nat):Int).toNat;omega,fun v' H' y=>?_⟩;obtain⟨rfl,rfl⟩:=y;exact⟨aB.refl _,aU.mpr (by rw[Int.zero_add])⟩
   .rw[List.getElem?_eq_none (by rw[length_range];omega)] at hx;cases hx
  .rw[length_map,length_range] at hi;show ((n:Nat):Int).toNat<=i;omega
theorem CQ {K:Frag}{ad:Addr}{G:Hp}{O:Addr->Bool}{xs:List V}{l:List D}(ha:G ad=some (.lst xs))(hr:aA l (vis G O) xs):qi (Ite K ad) G O (l.zipIdx.map fun q=>.tup [.int (q.2:Nat),q.1]):=fun H2 O' s2 h1 h2=>by
 have hl2:=s2 _ _ ha;have r2:aA l (vis H2 O') xs:=hr.mono (d8 s2 h1);refine⟨fun j x hx=>?_,fun j hj=>⟨xs,SqL.of hl2,by rw[length_map,length_zipIdx] at hj;rw[r2.length];exact hj⟩⟩;rw[List.getElem?_map,List.getElem?_zipIdx] at hx
 cases hd:l[j]? with
 | none=>rw[hd] at hx;cases hx
 | some d =>
  rw[hd] at hx;cases hx;obtain⟨v,hv,rv⟩:=aA.get r2 hd;refine⟨⟨xs,v,SqL.of hl2,hv⟩,fun u H' y=>?_⟩;obtain⟨T,w,rfl,hT,rfl,y⟩:=y;have e:=y xs (SqL.of hl2);rw[hv] at e;cases e;have sg:aB H2 (upd H2 T (.tup [.int (j:Nat),v])):=fB hT
  have hO:O' T=false:=by
   cases q:O' T with
   | false=>rfl
   | true=>exact absurd hT (h2 T q)
  refine⟨sg,lH.mpr ⟨T,_,rfl,bG.mpr ⟨hO,dC⟩,?_⟩⟩;refine aA.cons (aU.mpr ?_) (aA.one (rv.mono (cD sg)));simp
theorem jo {elts:List Expr}{kk:Nat}{tpos:Pos}(h:DLs F e ρ γ l)(hg: ∀i,Gl (F i) "enumerate")(hm: ∀i,(F i).mg "enumerate"=none)(hs: ∀i,starEach [e] (F i).env=[(false,eval e (F i).env)]:=by intro _;rfl) :
  DIo F (.Tuple elts kk tpos) (.Call (.Name "enumerate" p) [e] [] pos) ρ γ (l.zipIdx.map fun q=>.tup [.int (q.2:Nat),q.1]) :=
 fun O0 H0 σ H I R k=>SI.mk2 (t:=fun i=>tY (F i).K (lD (SE F e) gF)) (fun i=>BV (hg i) (hm i) (cH (SE.pe i) cM (hs i)) (hs i)) fun i=>h I _ fun ad xs H1 s1 ha hl hr =>
  ⟨ad,xs,rfl,SqL.of ha,k _ H1 s1 (CQ ha hr)⟩
theorem Pz {elts:List Expr}{kk:Nat}{tpos:Pos}(h:DP F e ρ γ (.lst l))(hg: ∀i,Gl (F i) "enumerate")(hm: ∀i,(F i).mg "enumerate"=none)(hs: ∀i,starEach [e] (F i).env=[(false,eval e (F i).env)]:=by intro _;rfl) :
  DI F (.Tuple elts kk tpos) (.Call (.Name "enumerate" p) [e] [] pos) ρ γ (l.zipIdx.map fun q=>.tup [.int (q.2:Nat),q.1]) :=
 fun O0 H0 σ H I R k=>SI.mk2 (t:=fun i=>tY (F i).K (lD (SE F e) gF)) (fun i=>BV (hg i) (hm i) (cH (SE.pe i) cM (hs i)) (hs i)) fun i=>h I _ fun v H1 s1 r=>by
  obtain⟨ad,xs,rfl,ha,hl,hr⟩:=jm.mp r;exact⟨ad,xs,rfl,SqL.of (bG.mp ha).2,k _ H1 s1 (CQ ha (by rw[CP];exact hr))⟩
def YTg (g:TG) (ρ:Rho) (γ:Gm) (x:D) (ρ':Rho) (vs:List Nat):Prop:= ∀ ⦃O0 H0 σ H⦄,Ev O0 H0 σ H ρ γ-> ∀v,Rep x (vis H (hid O0 γ)) v-> ∀Q:L2.St->Hp->Prop,(∀σ',Ev O0 H0 σ' H ρ' γ->wipe σ' vs=wipe σ vs->Q σ' H)->g v σ H Q
abbrev DTg {ι:Type} (F:ι->Cx) (tg:Expr) (ρ:Rho) (γ:Gm) (x:D) (ρ':Rho) (vs:List Nat):Prop:=YTg (SG F tg) ρ γ x ρ' vs
theorem uv {k:Nat}{x:Option V}: ∀{vs:List Nat} {σ:L2.St},k∉vs->wipe (σ.set k x) vs=(wipe σ vs).set k x
 | [],_,_=>rfl
 | v::vs,σ,h=>by
  show (wipe (σ.set k x) vs).set v none=((wipe σ vs).set v none).set k x;rw[uv (fun z=>h (mem_cons_of_mem _ z)),List.set_comm];exact fun z=>h (by rw[z];exact mem_cons_self ..)
theorem m5 {k:Nat}{x:Option V}: ∀{vs:List Nat} {σ:L2.St},k∈vs->wipe (σ.set k x) vs=wipe σ vs
 | [],_,h=>by cases h
 | v::vs,σ,h=>by
  show (wipe (σ.set k x) vs).set v none=(wipe σ vs).set v none
  by_cases hk:k∈vs
  .rw[m5 hk]
  .have e:k=v:=(mem_cons.mp h).resolve_right hk;subst e;rw[uv hk,List.set_set]
theorem uw: ∀{vs:List Nat} {σ:L2.St},wipe (wipe σ vs) vs=wipe σ vs
 | [],_=>rfl
 | v::vs,σ=>by
  show (wipe ((wipe σ vs).set v none) vs).set v none=(wipe σ vs).set v none
  by_cases hv:v∈vs
  .rw[m5 hv,uw]
  .rw[uv hv,uw,List.set_set]
def lK (ρ:Rho):List Nat->Rho
 | []=>ρ
 | v::vs=>(lK ρ vs).set v none
theorem Ev.wipe {O0:Addr->Bool}{H0 H:Hp}{σ:L2.St}(I:Ev O0 H0 σ H ρ γ): ∀vs,Ev O0 H0 (L2.wipe σ vs) H (lK ρ vs) γ
 | []=>I
 | v::vs =>
  have J:=Ev.wipe I vs
  ⟨t8 (F:=fj _) (a:=none) (b:=none) trivial v J.slots,J.own,J.nd,J.young,J.same,J.live⟩
theorem lM {k:Nat}{nm:Str}{vs:List Nat}(hk:k∈vs)(hN: ∀i,(F i).N.Nodup)(hi: ∀i,(F i).N[k]?=some nm)(hx: ∀i,Loc (F i).env.scope nm)(hf: ∀i,(F i).fn nm=true\/(F i).env.scope.names.lookup nm=some .local):DTg F (.Name nm pos) ρ γ x (ρ.set k (some (.d x))) vs :=
 fun O0 H0 σ H I v r Q q=>SG.mk2 (t:=fun _=>iC k) (fun i=>sr (hN i) (hi i) (hx i) (hf i)) fun i=>q _ (I.set k r) (m5 hk)
theorem CT {k k2:Nat}{nm nm2:Str}{p1 p2:Pos}{kk:Nat}{vs:List Nat}(hk:k∈vs)(hk2:k2∈vs)(hc: ∀i,(F i).calm=true)(hN: ∀i,(F i).N.Nodup)(hi: ∀i,(F i).N[k]?=some nm)(hi2: ∀i,(F i).N[k2]?=some nm2)(hx: ∀i,Loc (F i).env.scope nm)(hx2: ∀i,Loc (F i).env.scope nm2)
  (hf: ∀i,(F i).fn nm=true\/(F i).env.scope.names.lookup nm=some .local) (hf2: ∀i,(F i).fn nm2=true\/(F i).env.scope.names.lookup nm2=some .local):DTg F (.Tuple [.Name nm p1,.Name nm2 p2] kk pos) ρ γ (.tup [x,y]) ((ρ.set k (some (.d x))).set k2 (some (.d y))) vs :=
 fun O0 H0 σ H I v r Q q=>SG.mk2 (t:=fun i=>zW (F i).K 2 (su (iC k) (su (iC k2) zU))) (fun i=>Lh (hc i) (zV (sr (hN i) (hi i) (hx i) (hf i)) (zV (sr (hN i) (hi2 i) (hx2 i) (hf2 i)) Lg))) fun i=>by
  obtain⟨ad,xs,rfl,ha,hr⟩:=lH.mp r;obtain⟨u,us,rfl,r1,hr⟩:=cC.mp hr;obtain⟨w,ws,rfl,r2,hr⟩:=cC.mp hr;cases bY.mp hr;refine⟨ad,_,rfl,SqT.of (bG.mp ha).2,rfl,u,_,rfl,w,_,rfl,rfl,q _ ((I.set (s:=.d x) k r1).set (s:=.d y) k2 r2) ?_⟩;rw[m5 hk2,m5 hk]
theorem Ev.under {O0:Addr->Bool}{H0 H H':Hp}{σ:L2.St}{Dn:Addr}{o:HO}(I:Ev O0 H0 σ H ρ γ)(s:aB H H')(hD:H Dn=none)(hD':H' Dn=some o):Ev (fun b=>O0 b||b==Dn) (fun b=>if b=Dn then some o else H0 b) σ H' ρ γ:=by
 have sv:aB (vis H (hid O0 γ)) (vis H' (hid (fun b=>O0 b||b==Dn) γ)):=d8 s fun b hb=>by
  rcases aQ.mp hb with z | z
  .rcases Bool.or_eq_true _ _ |>.mp z with z | z
   .exact .inl (aQ.mpr (.inl z))
   .exact .inr (by rw[eq_of_beq z];exact hD)
  .exact .inl (aQ.mpr (.inr z))
 refine⟨jU (fun _ _ q=>fj.mono sv q) I.slots,fun q hq=>(I.own q hq).elim fun u z=>⟨u,s _ _ z.1,gb.mono sv z.2⟩,I.nd,fun q hq=>?_,fun b u e=>?_,fun b hb=>?_⟩
 .obtain⟨u,e,_⟩:=I.own q hq;have ne:q.1≠Dn:=bW e hD;refine⟨?_,by rw[if_neg ne];exact (I.young q hq).2⟩;show (O0 q.1||q.1==Dn)=false;rw[(I.young q hq).1,beq_eq_false_iff_ne.mpr ne];rfl
 .by_cases hb:b=Dn
  .rw[if_pos hb] at e;rw[hb,hD'];exact e
  .rw[if_neg hb] at e;exact s _ _ (I.same _ _ e)
 .by_cases hbD:b=Dn
  .rw[if_pos hbD];exact fun z=>nomatch z
  .rw[if_neg hbD];rcases Bool.or_eq_true _ _ |>.mp hb with z | z
   .exact I.live b z
   .exact absurd (eq_of_beq z) hbD
theorem CV {H:Hp}{O:Addr->Bool}{d:Addr}{o:HO}(h:O d=true):vis (upd H d o) O=vis H O:=by
 funext b;unfold vis
 by_cases hb:O b=true
 .rw[if_pos hb,if_pos hb]
 .rw[if_neg hb,if_neg hb];exact bc fun z=>hb (by rw[z];exact h)
theorem jq {α:Type}: ∀{l:List α} {i:Nat} {x:α},l[i]?=some x->l.take (i+1)=l.take i++[x]
 | [],i,x,h=>by simp at h
 | a::l,0,x,h=>by cases h;rfl
 | a::l,i+1,x,h=>by
  show a::l.take (i+1)=a::l.take i++[x];rw[jq (l:=l) (i:=i) h];rfl
theorem CW {α:Type}{items:List α}{g:α->D}{c:α->Bool}{f:α->D}{tr:α->Rho}{wi:TI}{gg:TG}{tt:TT}{te:TE}{vs:List Nat}(hi:YIo wi ρ γ (items.map g))
  (hg: ∀x∈items,YTg gg (lK ρ vs) γ (g x) (tr x) vs) (ht: ∀x∈items,YT tt (tr x) γ (c x)) (he: ∀x∈items,c x=true->YP te (tr x) γ (f x)) (hz:items.length<=sizeLine) :
  YN (tLc wi gg tt te vs) ρ γ ((items.filter c).map f):=fun O0 H0 σ H I Q k=>hi I _ fun J H1 s1 hJ Dn hD=>by
 have I1:=I.grow s1;refine⟨fun i n H2=>n=items.length - i/\i<=items.length/\ ∃acc,H2 Dn=some (.lst acc)/\aA (((items.take i).filter c).map f) (vis H2 (hid (fun b=>O0 b||b==Dn) γ)) acc/\aB H1 H2,⟨items.length,rfl,Nat.zero_le _,[],dC,bY.mpr rfl,fB hD⟩,?_⟩;rintro i n H2 ⟨rfl,hle,acc,hacc,racc,s2⟩
 have hO1: ∀b,hid (fun b=>O0 b||b==Dn) γ b=true->hid O0 γ b=true\/H1 b=none:=fun b hb=>by
  rcases aQ.mp hb with z | z
  .rcases Bool.or_eq_true _ _ |>.mp z with z | z
   .exact .inl (aQ.mpr (.inl z))
   .exact .inr (by rw[eq_of_beq z];exact hD)
  .exact .inl (aQ.mpr (.inr z))
 have E2:=I1.under s2 hD hacc;have hO2: ∀b,hid (fun b=>O0 b||b==Dn) γ b=true->H2 b≠none:=fun b hb=>E2.hidLive hb;have hDh:hid (fun b=>O0 b||b==Dn) γ Dn=true:=aQ.mpr (.inl (by show (O0 Dn||Dn==Dn)=true;rw[beq_self_eq_true,Bool.or_true]));obtain⟨hgo,hstop⟩:=hJ H2 _ s2 hO1 hO2
 by_cases hlt:i < items.length
 .obtain⟨x,hx⟩: ∃x,items[i]?=some x:=⟨_,List.getElem?_eq_getElem hlt⟩
  have hxm:x∈items:=mem_of_getElem? hx;obtain⟨go,yl⟩:=hgo i (g x) (by rw[List.getElem?_map,hx];rfl)
  have hal:acc.length<=i:=by
   have:=racc.length;rw[this,length_map];exact Nat.le_trans (length_filter_le ..) (by rw[length_take];omega)
  refine .inr ⟨go,fun H'=>i+1<=items.length/\ ∃acc,H' Dn=some (.lst acc)/\aA (((items.take (i+1)).filter c).map f) (vis H' (hid (fun b=>O0 b||b==Dn) γ)) acc/\aB H1 H',fun H' q=>⟨items.length - (i+1),by omega,rfl,q⟩,fun v H3 y=>?_⟩;obtain⟨s3,rv⟩:=yl v H3 y;have E3:=(E2.grow s3).wipe vs
  refine hg x hxm E3 v rv _ fun σ' E4 hw=>⟨hw.trans uw,ht x hxm E4 _ fun H4 s4=>?_⟩
  have E5:=E4.grow s4
  cases hc:c x with
  | true =>
   rw[if_pos rfl]
   refine he x hxm hc E5 _ fun y' H5 s5 r5=>⟨acc,s5 _ _ (s4 _ _ (s3 _ _ hacc)),Nat.lt_of_le_of_lt hal (Nat.lt_of_lt_of_le hlt hz),hlt,acc++[y'],dC,?_,?_⟩
   .rw[CV hDh,jq hx,List.filter_append,filter_cons,if_pos hc,List.filter_nil,map_append];exact (racc.mono (cD ((s3.trans s4).trans s5))).append (aA.one r5)
   .intro b o e;rw[bc (bW e hD)];exact s5 _ _ (s4 _ _ (s3 _ _ (s2 _ _ e)))
  | false =>
   rw[if_neg (by decide)];refine⟨hlt,acc,s4 _ _ (s3 _ _ hacc),?_,(s2.trans s3).trans s4⟩;rw[jq hx,List.filter_append,filter_cons,if_neg (by rw[hc];decide),List.filter_nil,append_nil];exact racc.mono (cD (s3.trans s4))
 .have e:i=items.length:=by omega
  subst e;refine .inl ⟨hstop _ (by rw[length_map];exact Nat.le_refl _),?_⟩;rw[take_length] at racc
  have eH:upd (fun b=>if b=Dn then none else H2 b) Dn (.lst acc)=H2:=by
   funext b
   by_cases hb:b=Dn
   .rw[hb,dC,hacc]
   .rw[bc hb];exact if_neg hb
  rw[<-eH];refine k Dn acc _ (fun b o e=>?_) (if_pos rfl) ?_ (racc.mono fun b o e=>?_)
  .have e1:=s1 _ _ e;show (if b=Dn then none else H2 b)=some o;rw[if_neg (bW e1 hD)];exact s2 _ _ e1
  .rw[length_map];exact Nat.le_trans (length_filter_le ..) hz
  .obtain⟨h1,h2⟩:=bG.mp e;have hf:=gf.mp h1
   have hb:b≠Dn:=fun z=>by
    have:=hf.1;rw[z] at this;simp at this
   refine bG.mpr ⟨gf.mpr ⟨?_,hf.2⟩,?_⟩
   .have:=hf.1;simp only[Bool.or_eq_false_iff] at this;exact this.1
   .show (if b=Dn then none else H2 b)=some o;rw[if_neg hb];exact h2
theorem dD {α:Type}{items:List α}{g:α->D}{c:α->Bool}{f:α->D}{tr:α->Rho}{scope:Scope}{own:List (Str×Nat)}(hc: ∀i,(F i).calm=true)(hN: ∀i,(F i).N.Nodup)(hi:DIo F tg iter ρ γ (items.map g))(ok: ∀i,iI (F i).N (F i).env.scope scope own)
  (hg: ∀x∈items,DTg (cX F scope) tg (lK ρ (own.map (·.2))) γ (g x) (tr x) (own.map (·.2))) (ht: ∀x∈items,DTs (cX F scope) ifs (tr x) γ (c x)) (he: ∀x∈items,c x=true->DP (cX F scope) elt (tr x) γ (f x)) (hz:items.length<=sizeLine)
  (hs: ∀i x,foldedSetIterable iter (F i).env x=pure x:=by intro _ _;rfl):DN F (.ListComp elt [⟨tg,iter,ifs,0⟩] scope pos) ρ γ ((items.filter c).map f) :=
 fun O0 H0 σ H I Q k=>SE.mk2 (t:=fun _=>tLc (SI F tg iter) (SG (cX F scope) tg) (STs (cX F scope) ifs) (SE (cX F scope) elt) (own.map (·.2)))
  (fun i=>N6 (hc i) (hN i) (SI.pi i) (ok i) (fun s H C cl fp=>SG.pg (F:=cX F scope) (i,s,H,C,cl,fp)) (fun s H C cl fp=>STs.pts (F:=cX F scope) (i,s,H,C,cl,fp)) (fun s H C cl fp=>SE.pe (F:=cX F scope) (i,s,H,C,cl,fp)) (hs i))
  fun i=>CW hi hg ht he hz I Q k
end
end DL
end
section
namespace DL
open PySem PySem.Spec PyProof.Rows L2
structure Po where
 nx:Rho->Gm->Prop
 rt:SV->Gm->Prop
 bk:Rho->Gm->Prop:=fun _ _=>False
 ct:Rho->Gm->Prop:=fun _ _=>False
def YS (t:TS) (ρ:Rho) (γ:Gm) (P:Po):Prop:= ∀ ⦃O0 H0 σ H⦄,Ev O0 H0 σ H ρ γ-> ∀Dn:Ends,(∀ρ' γ' σ' H',P.nx ρ' γ'->Ev O0 H0 σ' H' ρ' γ'->Dn.nx σ' H') ->
 (∀s γ' v H',P.rt s γ'->Ev O0 H0 [] H' [] γ'->bK (vis H' (hid O0 γ')) s v->Dn.rt v H')->(∀ρ' γ' σ' H',P.bk ρ' γ'->Ev O0 H0 σ' H' ρ' γ'->Dn.bk σ' H')->(∀ρ' γ' σ' H',P.ct ρ' γ'->Ev O0 H0 σ' H' ρ' γ'->Dn.ct σ' H')->t Dn σ H
abbrev DS {ι:Type} (F:ι->Cx) (st:Stmt) (ρ:Rho) (γ:Gm) (P:Po):Prop:=YS (SS F st) ρ γ P
abbrev DB {ι:Type} (F:ι->Cx) (sts:List Stmt) (ρ:Rho) (γ:Gm) (P:Po):Prop:=YS (SB F sts) ρ γ P
theorem qj {G:Hp}:bK G (.d .non) .non:=(iJ (H:=G)).mpr rfl
theorem Ev.bare {O0:Addr->Bool}{H0 H:Hp}{σ:L2.St}{ρ:Rho}{γ:Gm}(I:Ev O0 H0 σ H ρ γ):Ev O0 H0 [] H [] γ:=⟨.nil,I.own,I.nd,I.young,I.same,I.live⟩
section
variable {ι:Type}{F:ι->Cx}{ρ:Rho}{γ:Gm}{a b c e o tg iter elt:Expr}{es ifs:List Expr}{st:Stmt}{sts rest th el:List Stmt}{pos p pos':Pos}{x y:D}{l m:List D}{P:Po}{k:Nat}{nm:Str}
theorem SS.mk2 {t:ι->TS}{D:Ends}{σ:L2.St}{H:Hp}(h: ∀i,PS (F i) st (t i))(q: ∀i,t i D σ H):SS F st D σ H:=by unfold SS;exact fun i pins s I=>h i pins s σ H D I (q i)
theorem aO (h:P.nx ρ γ):DB F [] ρ γ P:=fun O0 H0 σ H I Dn kn kr kb kc=>SB.mk (fun _=>K8) (kn _ _ _ _ h I)
theorem aj (h:DS F st ρ γ { P with nx:=fun ρ' γ'=>DB F rest ρ' γ' P }):DB F (st::rest) ρ γ P:=fun O0 H0 σ H I Dn kn kr kb kc =>
 SB.mk (fun i=>K9 (SS.ps i) (SB.ps i)) (h I { Dn with nx:=SB F rest Dn } (fun ρ' γ' σ' H' q E=>q E Dn kn kr kb kc) kr kb kc)
theorem YS.imp {t:TS}{P':Po}(h:YS t ρ γ P)(h1: ∀ρ' γ',P.nx ρ' γ'->P'.nx ρ' γ')(h2: ∀s γ',P.rt s γ'->P'.rt s γ')(h3: ∀ρ' γ',P.bk ρ' γ'->P'.bk ρ' γ')(h4: ∀ρ' γ',P.ct ρ' γ'->P'.ct ρ' γ'):YS t ρ γ P':=fun O0 H0 σ H I Dn kn kr kb kc =>
 h I Dn (fun ρ' γ' σ' H' q=>kn ρ' γ' σ' H' (h1 _ _ q)) (fun s γ' v H' q=>kr s γ' v H' (h2 _ _ q)) (fun ρ' γ' σ' H' q=>kb ρ' γ' σ' H' (h3 _ _ q)) (fun ρ' γ' σ' H' q=>kc ρ' γ' σ' H' (h4 _ _ q))
theorem bQ (he:DG F e ρ γ (fun s γ'=>P.nx (ρ.set k (some s)) γ'))(hN: ∀i,(F i).N.Nodup)(hi: ∀i,(F i).N[k]?=some nm)(hx: ∀i,Loc (F i).env.scope nm)(hs: ∀i,swapsWith e (some (.Name nm pos')) pos.line (F i).env=pure false)
  (hf: ∀i,(F i).fn nm=true\/(F i).env.scope.names.lookup nm=some .local):DS F (.Assign [.Name nm pos'] e pos) ρ γ P:=fun O0 H0 σ H I Dn kn kr kb kc =>
 SS.mk2 (t:=fun _=>oW (SE F e) (iC k)) (fun i=>Li (hN i) (hi i) (hx i) (SE.pe i) (hs i) (hf i)) fun i=>he I _ fun s γ' v H' q E _ r=>kn _ _ _ _ q (E.set k r)
theorem bj (he:DP F e ρ γ x)(h:P.nx (ρ.set k (some (.d x))) γ)(hN: ∀i,(F i).N.Nodup)(hi: ∀i,(F i).N[k]?=some nm)(hx: ∀i,Loc (F i).env.scope nm)(hs: ∀i,swapsWith e (some (.Name nm pos')) pos.line (F i).env=pure false)
  (hf: ∀i,(F i).fn nm=true\/(F i).env.scope.names.lookup nm=some .local):DS F (.Assign [.Name nm pos'] e pos) ρ γ P:=bQ (he.gen h) hN hi hx hs hf
theorem iQ (he:DN F e ρ γ l)(h: ∀a,P.nx (ρ.set k (some (.pt a))) ((a,.lst l)::γ))(hN: ∀i,(F i).N.Nodup)(hi: ∀i,(F i).N[k]?=some nm)(hx: ∀i,Loc (F i).env.scope nm)(hs: ∀i,swapsWith e (some (.Name nm pos')) pos.line (F i).env=pure false)
  (hf: ∀i,(F i).fn nm=true\/(F i).env.scope.names.lookup nm=some .local):DS F (.Assign [.Name nm pos'] e pos) ρ γ P:=bQ (he.gen h) hN hi hx hs hf
theorem jZ {α:Type}{items:List α}{g:α->D}{c:α->Bool}{f:α->D}{tr:α->Rho}{scope:Scope}{own:List (Str×Nat)}(hc: ∀i,(F i).calm=true)(hN: ∀i,(F i).N.Nodup)(hi:DIo F tg iter ρ γ (items.map g))(ok: ∀i,iI (F i).N (F i).env.scope scope own)
  (hg: ∀x∈items,DTg (cX F scope) tg (lK ρ (own.map (·.2))) γ (g x) (tr x) (own.map (·.2))) (ht: ∀x∈items,DTs (cX F scope) ifs (tr x) γ (c x)) (he: ∀x∈items,c x=true->DP (cX F scope) elt (tr x) γ (f x)) (hz:items.length<=sizeLine)
  (hy: ∀i,(F i).N[k]?=some nm) (hyl: ∀i,(F i).env.scope.names.lookup nm=some .local) (hsw: ∀i,swapsWith (.ListComp elt [⟨tg,iter,ifs,0⟩] scope pos) (some (.Name nm pos')) p.line (F i).env=pure true)
  (h:P.nx (ρ.set k (some (.d (.lst ((items.filter c).map f))))) γ) (hs: ∀i x,foldedSetIterable iter (F i).env x=pure x:=by intro _ _;rfl):DS F (.Assign [.Name nm pos'] (.ListComp elt [⟨tg,iter,ifs,0⟩] scope pos) p) ρ γ P:=fun O0 H0 σ H I Dn kn kr kb kc =>
 SS.mk2 (t:=fun _=>oW (tLc (SI F tg iter) (SG (cX F scope) tg) (STs (cX F scope) ifs) (SE (cX F scope) elt) (own.map fun q:Str×Nat=>q.2)) (iC k))
  (fun i=>N7 (hc i) (hN i) (hy i) (hyl i) (hsw i) (SI.pi i) (ok i) (fun s H C cl fp=>SG.pg (F:=cX F scope) (i,s,H,C,cl,fp)) (fun s H C cl fp=>STs.pts (F:=cX F scope) (i,s,H,C,cl,fp)) (fun s H C cl fp=>SE.pe (F:=cX F scope) (i,s,H,C,cl,fp)) (hs i))
  fun i=>(CW hi hg ht he hz).data.gen (P:=fun s γ'=>P.nx (ρ.set k (some s)) γ') h I _ fun s γ' v H' q E _ r=>kn _ _ _ _ q (E.set k r)
theorem bN (he:DG F e ρ γ P.rt):DS F (.Return (some e) pos) ρ γ P:=fun O0 H0 σ H I Dn kn kr kb kc=>SS.mk (fun i=>zT (SE.pe i)) (he I _ fun s γ' v H' q E _ r=>kr s γ' v H' q E.bare r)
theorem bH (he:DP F e ρ γ x)(h:P.rt (.d x) γ):DS F (.Return (some e) pos) ρ γ P:=bN (he.gen h)
theorem aF (he:DN F e ρ γ l)(h: ∀a,P.rt (.pt a) ((a,.lst l)::γ)):DS F (.Return (some e) pos) ρ γ P:=bN (he.gen h)
theorem d9 (he:DG F e ρ γ (fun _ γ'=>P.nx ρ γ'))(hs: ∀i,swapsWith e none pos.line (F i).env=pure false:=by intro _;rfl):DS F (.Expr e pos) ρ γ P:=fun O0 H0 σ H I Dn kn kr kb kc=>SS.mk (fun i=>Lb (SE.pe i) (hs i)) (he I _ fun s γ' v H' q E _ r=>kn _ _ _ _ q E)
theorem aZ {t:Bool}(hc:DT F c ρ γ t)(ha:t=true->DB F th ρ γ P)(hb:t=false->DB F el ρ γ P):DS F (.If c th el pos) ρ γ P:=fun O0 H0 σ H I Dn kn kr kb kc=>SS.mk (fun i=>Lf (ST.pt i) (SB.ps i) (SB.ps i)) (hc I _ fun H1 s1=>by
 cases t with
 | true=>rw[if_pos rfl];exact ha rfl (I.grow s1) Dn kn kr kb kc
 | false=>rw[if_neg (by decide)];exact hb rfl (I.grow s1) Dn kn kr kb kc)
theorem ql {body:List Stmt}(Pv:Rho->Gm->Prop)(μ:Rho->Gm->Nat)(hp: ∀i,PassesOwn (model (F i).prog (F i).w) (F i).A (F i).env (F i).xe)(h0:Pv ρ γ)
  (hs: ∀ρ γ,Pv ρ γ-> ∃t,DT F c ρ γ t/\(t=true->DB F body ρ γ { nx:=fun ρ' γ'=>Pv ρ' γ'/\μ ρ' γ' < μ ρ γ,rt:=P.rt,bk:=P.nx,ct:=fun ρ' γ'=>Pv ρ' γ'/\μ ρ' γ' < μ ρ γ })/\(t=false->P.nx ρ γ)):DS F (.While c body [] pos) ρ γ P :=
 fun O0 H0 σ H I Dn kn kr kb kc=>SS.mk (fun i=>Lq (hp i) (ST.pt i) (SB.ps i)) (by
  refine⟨fun m σ H=> ∃ρ γ,Pv ρ γ/\m=μ ρ γ/\Ev O0 H0 σ H ρ γ,⟨_,ρ,γ,h0,rfl,I⟩,?_⟩;rintro m σ H ⟨ρ,γ,hp,rfl,E⟩;obtain⟨t,ht,h1,h2⟩:=hs ρ γ hp;refine ht E _ fun H1 s1=>?_
  cases t with
  | true =>
   rw[if_pos rfl];refine⟨fun σ' H'=> ∃ρ' γ',(Pv ρ' γ'/\μ ρ' γ' < μ ρ γ)/\Ev O0 H0 σ' H' ρ' γ',fun σ' H' ⟨ρ',γ',⟨q1,q2⟩,E'⟩=>⟨_,q2,ρ',γ',q1,rfl,E'⟩,?_⟩;exact h1 rfl (E.grow s1) _ (fun ρ' γ' σ' H' q E'=>⟨ρ',γ',q,E'⟩) kr (fun ρ' γ' σ' H' q E'=>kn _ _ _ _ q E') (fun ρ' γ' σ' H' q E'=>⟨ρ',γ',q,E'⟩)
  | false =>
   rw[if_neg (by decide)]
   exact kn _ _ _ _ (h2 rfl) (E.grow s1))
theorem lN {α:Type}{body:List Stmt}{items:List α}{g:α->D}{tr:α->Rho->Rho}{vs:List Nat}(Pv:Nat->Rho->Gm->Prop)(hp: ∀i,PassesOwn (model (F i).prog (F i).w) (F i).A (F i).env (F i).xe)(hc: ∀i,(F i).calm=true)(hi:DI F tg iter ρ γ (items.map g))(h0:Pv 0 ρ γ)
  (hg: ∀i x ρ γ,items[i]?=some x->Pv i ρ γ->DTg F tg ρ γ (g x) (tr x ρ) vs)
  (hb: ∀i x ρ γ,items[i]?=some x->Pv i ρ γ->DB F body (tr x ρ) γ { nx:=Pv (i+1),rt:=P.rt,bk:=P.nx,ct:=Pv (i+1) }) (hd: ∀ρ γ,Pv items.length ρ γ->P.nx ρ γ)
  (hs: ∀i x,foldedSetIterable iter (F i).env x=pure x:=by intro _ _;rfl):DS F (.For tg iter body [] pos) ρ γ P :=
 fun O0 H0 σ H I Dn kn kr kb kc=>SS.mk (fun i=>LC (hp i) (hc i) (SI.pi i) (SG.pg i) (SB.ps i) (hs i)) (hi I _ fun J H1 s1 hJ=>by
  have I1:=I.grow s1;generalize hG:(fun b=>if (hid O0 γ b&& !O0 b)=true then none else H1 b:Hp)=G
  have hGs: ∀b o,G b=some o↔(hid O0 γ b=true->O0 b=true)/\H1 b=some o:=fun b o=>by
   rw[<-hG];show (if (hid O0 γ b&& !O0 b)=true then none else H1 b)=some o↔_
   by_cases q:(hid O0 γ b&& !O0 b)=true
   .rw[if_pos q];rw[Bool.and_eq_true] at q;refine⟨fun z=>(nomatch z),fun z=>?_⟩;have:=z.1 q.1;rw[this] at q;exact absurd q.2 (by decide)
   .rw[if_neg q];refine⟨fun z=>⟨fun hh=>?_,z⟩,fun z=>z.2⟩
    cases r:O0 b with
    | true=>rfl
    | false=>exact absurd (by rw[hh,r];rfl) q
  have E0:Ev O0 G σ H1 ρ γ:=by
   refine⟨I1.slots,I1.own,I1.nd,fun q hq=>⟨(I1.young q hq).1,?_⟩,fun b o e=>((hGs b o).mp e).2,fun b hb=>?_⟩
   .cases r:G q.1 with
    | none=>rfl
    | some o =>
     have:=((hGs _ _).mp r).1 (aQ.mpr (.inr (mem_map.mpr ⟨q,hq,rfl⟩)));rw[(I1.young q hq).1] at this;cases this
   .obtain⟨o,ho⟩:=Option.ne_none_iff_exists'.mp (I1.live b hb);rw[(hGs b o).mpr ⟨fun _=>hb,I1.same _ _ ho⟩];exact fun z=>nomatch z
  have hH0: ∀b o,H0 b=some o->G b=some o:=fun b o e=>(hGs b o).mpr ⟨fun hh=>(by
   rcases aQ.mp hh with z | z
   .exact z
   .obtain⟨q',hq',eq'⟩:=mem_map.mp z;have:=(I1.young q' hq').2;rw[eq',e] at this
    cases this),I1.same _ _ e⟩
  have back: ∀{σ' H' ρ' γ'},Ev O0 G σ' H' ρ' γ'->Ev O0 H0 σ' H' ρ' γ':=by
   intro σ' H' ρ' γ' E;refine⟨E.slots,E.own,E.nd,fun q hq=>⟨(E.young q hq).1,?_⟩,fun b o e=>E.same b o (hH0 b o e),I.live⟩
   cases r:H0 q.1 with
   | none=>rfl
   | some o =>
    have:=hH0 _ _ r;rw[(E.young q hq).2] at this;cases this
  have vG:aB (vis H1 (hid O0 γ)) G:=fun b o e=>by
   obtain⟨h1,h2⟩:=bG.mp e;exact (hGs b o).mpr ⟨fun z=>(by rw[h1] at z;cases z),h2⟩
  refine⟨fun i m σ H=>m=items.length - i/\i<=items.length/\ ∃ρ γ,Pv i ρ γ/\Ev O0 G σ H ρ γ,⟨_,rfl,Nat.zero_le _,ρ,γ,h0,E0⟩,?_⟩;rintro i m σ2 H2 ⟨rfl,hle,ρ2,γ2,hp2,E2⟩
  obtain⟨hgo,hstop⟩:=hJ H2 (hid O0 γ2) (vG.trans E2.same) (fun b hb=>by
   rcases aQ.mp hb with z | z
   .exact .inl (aQ.mpr (.inl z))
   .obtain⟨q',hq',eq'⟩:=mem_map.mp z;refine .inr ?_
    cases r:vis H1 (hid O0 γ) b with
    | none=>rfl
    | some o =>
     have:=(E2.young q' hq').2;rw[eq',vG _ _ r] at this
     cases this) (fun b hb=>E2.hidLive hb)
  by_cases hlt:i < items.length
  .obtain⟨x,hx⟩: ∃x,items[i]?=some x:=⟨_,List.getElem?_eq_getElem hlt⟩
   obtain⟨go,yl⟩:=hgo i (g x) (by rw[List.getElem?_map,hx];rfl);refine .inr ⟨go,fun σ' H'=>i+1<=items.length/\ ∃ρ' γ',Pv (i+1) ρ' γ'/\Ev O0 G σ' H' ρ' γ',fun σ' H' q=>⟨_,by omega,rfl,q⟩,fun v H3 y=>?_⟩;obtain⟨s3,rv⟩:=yl v H3 y;refine hg i x ρ2 γ2 hx hp2 (E2.grow s3) v rv _ fun σ' E4 _=>?_;exact hb i x ρ2 γ2 hx hp2 E4 _ (fun ρ' γ' σ' H' q E'=>⟨hlt,ρ',γ',q,E'⟩) (fun s γ' v H' q E' r=>kr s γ' v H' q (back E') r) (fun ρ' γ' σ' H' q E'=>kn _ _ _ _ q (back E')) (fun ρ' γ' σ' H' q E'=>⟨hlt,ρ',γ',q,E'⟩)
  .have e:i=items.length:=by omega
   subst e
   exact .inl ⟨hstop _ (by rw[length_map];exact Nat.le_refl _),kn _ _ _ _ (hd _ _ hp2) (back E2)⟩)
def cF (γ:Gm) (a:Addr) (w:OD):Gm:=γ.map fun p=>if p.1=a then (a,w) else p
theorem gY (γ:Gm)(a:Addr)(w:OD):(cF γ a w).map (·.1)=γ.map (·.1):=by
 unfold cF;rw[List.map_map];refine map_congr_left fun p _=>?_;show (if p.1=a then (a,w) else p).1=p.1;split
 .rename_i h;exact h.symm
 .rfl
theorem PB (O:Addr->Bool)(γ:Gm)(a:Addr)(w:OD):hid O (cF γ a w)=hid O γ:=by
 funext b;rw[Bool.eq_iff_iff,aQ,aQ,gY]
theorem Ev.write {O0:Addr->Bool}{H0 H:Hp}{σ:L2.St}(I:Ev O0 H0 σ H ρ γ){ad:Addr}{o:HO}{w0 w:OD}(hm:(ad,w0)∈γ)(hw:gb (vis H (hid O0 γ)) w o):Ev O0 H0 σ (upd H ad o) ρ (cF γ ad w)/\vis (upd H ad o) (hid O0 (cF γ ad w))=vis H (hid O0 γ):=by
 have hh:hid O0 γ ad=true:=aQ.mpr (.inr (mem_map.mpr ⟨_,hm,rfl⟩))
 have ev:vis (upd H ad o) (hid O0 (cF γ ad w))=vis H (hid O0 γ):=by rw[PB,CV hh]
 refine⟨⟨by rw[ev];exact I.slots,fun q hq=>?_,by rw[gY];exact I.nd,fun q hq=>?_,fun b u e=>?_,I.live⟩,ev⟩
 .rw[ev];obtain⟨q0,hq0,e0⟩:=mem_map.mp hq
  by_cases hqa:q0.1=ad
  .rw[if_pos hqa] at e0;subst e0;exact⟨o,dC,hw⟩
  .rw[if_neg hqa] at e0;subst e0;obtain⟨u,h1,h2⟩:=I.own q0 hq0;exact⟨u,by rw[bc hqa];exact h1,h2⟩
 .have:q.1∈γ.map (·.1):=by rw[<-gY γ ad w];exact mem_map.mpr ⟨q,hq,rfl⟩
  obtain⟨q',hq',e'⟩:=mem_map.mp this;rw[<-e'];exact I.young q' hq'
 .have ne:b≠ad:=fun z=>by
   have:=(I.young _ hm).2;rw[show (ad,w0).1=b from z.symm,e] at this;cases this
  rw[bc ne];exact I.same _ _ e
theorem j0 {ad:Addr}{apos:Pos}(ho:DR F o ρ γ ad)(hm:(ad,OD.lst l)∈γ)(he:DP F e ρ γ x)(hz:l.length < sizeLine){Pp:SV->Gm->Prop}(h:Pp (.d .non) (cF γ ad (.lst (l++[x]))))
  (hbase: ∀i,attributeBase o "append" (F i).env (eval o (F i).env)=eval o (F i).env:=by intro _;rfl)
  (hs: ∀i,starEach [e] (F i).env=[(false,eval e (F i).env)]:=by intro _;rfl) (hline:(apos.endLine==pos.line)=true:=by rfl):DG F (.Call (.Attribute o "append" apos) [e] [] pos) ρ γ Pp :=
 fun O0 H0 σ H I Q k=>SE.mk2 (t:=fun i=>tBM (F i).K "list" Bp (SE F o) (lD (SE F e) gF)) (fun i=>pC PySem.F.plainAttrs_list PySem.F.slot_list_append PySem.F.type_list_append Nf (SE.pe i) (cH (SE.pe i) cM (hs i)) (hbase i) (by rw[hs i];rfl) hline (hs i)) fun i=>ho I _ fun H1 s1=>by
  obtain⟨o1,e1,xs1,rfl,_,r1⟩:=(I.grow s1).own _ hm;refine⟨.inl ⟨rfl,xs1,SqL.of e1⟩,he (I.grow s1) _ fun v H2 s2 r2=>?_⟩;obtain⟨o2,e2,xs,rfl,_,r⟩:=((I.grow s1).grow s2).own _ hm;refine⟨ad,xs,v,rfl,rfl,e2,by rw[r.length];exact hz,?_⟩;obtain⟨E,ev⟩:=((I.grow s1).grow s2).write (w:=.lst (l++[x])) (o:=.lst (xs++[v])) hm ⟨xs++[v],rfl,by rw[length_append];exact hz,r.append (aA.one r2)⟩;refine k _ _ _ _ h E ?_ qj;rw[ev];exact cD (s1.trans s2)
theorem lO {ad:Addr}{apos:Pos}(ho:DR F o ρ γ ad)(hm:(ad,OD.lst l)∈γ)(he:DLs F e ρ γ m)(hz:l.length+m.length<=sizeLine){Pp:SV->Gm->Prop}(h:Pp (.d .non) (cF γ ad (.lst (l++m))))
  (hbase: ∀i,attributeBase o "extend" (F i).env (eval o (F i).env)=eval o (F i).env:=by intro _;rfl)
  (hs: ∀i,starEach [e] (F i).env=[(false,eval e (F i).env)]:=by intro _;rfl) (hline:(apos.endLine==pos.line)=true:=by rfl):DG F (.Call (.Attribute o "extend" apos) [e] [] pos) ρ γ Pp :=
 fun O0 H0 σ H I Q k=>SE.mk2 (t:=fun i=>tBM (F i).K "list" Bq (SE F o) (lD (SE F e) gF)) (fun i=>pC PySem.F.plainAttrs_list PySem.F.slot_list_extend PySem.F.type_list_extend Ng (SE.pe i) (cH (SE.pe i) cM (hs i)) (hbase i) (by rw[hs i];rfl) hline (hs i)) fun i=>ho I _ fun H1 s1=>by
  obtain⟨o1,e1,xs1,rfl,_,r1⟩:=(I.grow s1).own _ hm;refine⟨.inl ⟨rfl,xs1,SqL.of e1⟩,he (I.grow s1) _ fun ad' ys H2 s2 hl _ r2=>?_⟩;obtain⟨o2,e2,xs,rfl,_,r⟩:=((I.grow s1).grow s2).own _ hm;refine⟨ad,ad',xs,ys,rfl,rfl,e2,hl,by rw[r.length,r2.length];exact hz,?_⟩;obtain⟨E,ev⟩:=((I.grow s1).grow s2).write (w:=.lst (l++m)) (o:=.lst (xs++ys)) hm ⟨xs++ys,rfl,by rw[length_append];exact hz,r.append r2⟩;refine k _ _ _ _ h E ?_ qj;rw[ev];exact cD (s1.trans s2)
end
end DL
end
section
namespace DL
open PySem PySem.Spec PyProof.Rows L2
def rm (H:Hp) (γ:Gm):Hp:=fun b=>if b∈γ.map (·.1) then none else H b
theorem iR {H:Hp}{γ:Gm}{b:Addr}{o:HO}:rm H γ b=some o↔b∉γ.map (·.1)/\H b=some o:=by
 unfold rm
 by_cases h:b∈γ.map (·.1)
 .rw[if_pos h];exact⟨fun e=>(nomatch e),fun e=>absurd h e.1⟩
 .rw[if_neg h];exact⟨fun e=>⟨h,e⟩,fun e=>e.2⟩
theorem cY {H:Hp}:rm H []=H:=by
 funext b;unfold rm;rw[if_neg (by simp)]
theorem CZ {H:Hp}{γ:Gm}{b:Addr}(h:b∈γ.map (·.1)):rm H γ b=none:=by
 unfold rm;rw[if_pos h]
abbrev Fsp:=List SV->Gm->(SV->Gm->Prop)->Prop
def spF (Φ:Fsp):Sp:=fun vs H Q _=> ∃ (O0:Addr->Bool) (ss:List SV) (γ:Gm) (P:SV->Gm->Prop),Ev O0 (rm H γ) (vs.map some) H (ss.map some) γ/\Φ ss γ P/\ ∀s γ' v H',P s γ'->Ev O0 (rm H γ) [] H' [] γ'->bK (vis H' (hid O0 γ')) s v->Q v H'
def ux (N:List Str) (ss:List SV):Rho:=ss.map some++List.replicate (N.length - ss.length) none
theorem Dc {α β:Type}{R:α->β->Prop}: ∀{l l':List α} {m m':List β},Paired R l m->Paired R l' m'->Paired R (l++l') (m++m')
 | _,_,_,_,.nil,q=>q
 | _,_,_,_,.cons r t,q=>.cons r (Dc t q)
theorem Dd {G:Hp}: ∀n,Paired (fj G) (List.replicate n none) (List.replicate n none)
 | 0=>.nil
 | n+1=>.cons trivial (Dd n)
section
variable {Pg:Program}{w:World}{K:Frag}{mg:Str->Option Value}{base:Heap}
theorem j4 {x qual:Str}{st:Stmt}{f:Addr}{fd:FuncData}{N ps:List Str}{k:Nat}{Φ:Fsp}(Fu:Fun K x qual st f fd)(S:ao N ps (ak st))(len: ∀ss γ P,Φ ss γ P->ss.length=ps.length)
  (body: ∀ (cdv:Value) (A:Around) (outer:List Env) (s:Shared) (H:Hp) (E:XK),aR k (A.deeper (envOfC qual (ak st) s.heap.objs.size f cdv))-> ∀ss γ P,Φ ss γ P ->
   DB (fun _:Unit=>(iD CX0 Pg w K mg base N qual (ak st) f cdv A outer s H E).nox) (gV st) (ux N ss) γ { nx:=fun _ γ'=>P (.d .non) γ',rt:=P }):au Pg w K mg base CX0 (k+1) f fd ps (spF Φ):=by
 refine Fu.ok S (fun vs H Q E h=>?_) (fun cdv A outer s H vs Q E hr h=>?_)
 .obtain⟨O0,ss,γ,P,I,hΦ,_⟩:=h;have:=mY I.slots;rw[length_map,length_map] at this;rw[this];exact len _ _ _ hΦ
 .obtain⟨O0,ss,γ,P,I,hΦ,kk⟩:=h;have hl:=mY I.slots;rw[length_map,length_map] at hl;refine⟨SB (fun _:Unit=>(iD CX0 Pg w K mg base N qual (ak st) f cdv A outer s H E).nox) (gV st),SB.ps (F:=fun _:Unit=>(iD CX0 Pg w K mg base N qual (ak st) f cdv A outer s H E).nox) (),?_⟩
  have I0:Ev O0 (rm H γ) (L2.start N vs) H (ux N ss) γ:=by
   refine⟨?_,I.own,I.nd,I.young,I.same,I.live⟩;unfold L2.start ux;rw[hl];exact Dc I.slots (Dd _)
  exact body cdv A outer s H E hr ss γ P hΦ I0 _ (fun ρ' γ' σ' H' q E'=>kk (.d .non) γ' .non H' q E'.bare qj) (fun s γ' v H' q E' r=>kk s γ' v H' q E' r) (fun _ _ _ _ q=>q.elim) (fun _ _ _ _ q=>q.elim)
structure FnAt (Pg:Program) (w:World) (K:Frag) (mg:Str->Option Value) (base:Heap) (x:Str) (ps:List Str) (k:Nat) (Φ:Fsp):Prop where
 ex: ∃ (f:Addr) (fd:FuncData),mg x=some (.ref f)/\keepIn K (.ref f)=true/\Binds K fd ps []/\au Pg w K mg base CX0 k f fd ps (spF Φ)
end
theorem lQ {G:Hp}: ∀{ds:List D} {vs:List V},aA ds G vs->Paired (fj G) (vs.map some) ((ds.map SV.d).map some)
 | [],vs,r=>by rw[bY.mp r];exact .nil
 | d::ds,vs,r=>by
  obtain⟨x,ys,rfl,h1,h2⟩:=cC.mp r;exact .cons h1 (lQ h2)
theorem De {G:Hp}: ∀{ss:List SV} {vs:List V},Paired (bK G) ss vs->Paired (fj G) (vs.map some) (ss.map some)
 | _,_,.nil=>.nil
 | _,_,.cons r t=>.cons r (De t)
section
variable {ι:Type}{F:ι->Cx}{ρ:Rho}{γ:Gm}{a b c e o:Expr}{es:List Expr}{pos p:Pos}{x y:D}{l m ds:List D}{nm:Str}{ps:List Str}{k:Nat}{Φ:Fsp}
theorem bD (fa: ∀i,FnAt (F i).prog (F i).w (F i).K (F i).mg (F i).base nm ps k Φ)(ha:DA F (e::es) ρ γ ds)(hΦ:Φ (ds.map .d) [] (fun s γ'=>s= .d y/\γ'=[]))(hr: ∀i,aR k (F i).A)(hg: ∀i,Gl (F i) nm)
  (hdb:(nm==("__debug__":Str))=false:=by decide) (he: ∀i,starEach (e::es) (F i).env=(false,eval e (F i).env)::starEach es (F i).env:=by intro _;rfl) (hpl: ∀i,(backTo pos (starEach es (F i).env)).any (·.1)=false:=by intro _;rfl) :
  DP F (.Call (.Name nm p) (e::es) [] pos) ρ γ y:=fun O0 H0 σ H I Q k'=>SE.mk2 (t:=fun _=>jj (spF Φ) [] E0 (SA F (e::es))) (fun i=>by
   obtain⟨f,fd,h1,h2,h3,h4⟩:=(fa i).ex
   exact jP h4 (hr i) (hg i) h1 h2 h3 .nil fM (SA.pa i) hdb (he i) (hpl i)) fun i=>ha I _ fun vs H1 s1 r=>by
  have I1:=I.grow s1;refine⟨hid O0 γ,ds.map .d,[],_,⟨?_,fun q hq=>(by cases hq),nodup_nil,fun q hq=>(by cases hq),by rw[cY];exact aB.refl _,fun b hb=>by rw[cY];exact I1.hidLive hb⟩,hΦ,?_⟩
  .rw[jV,append_nil];exact lQ r
  .rintro s γ' v H' ⟨rfl,rfl⟩ E' r'
   have sm:aB H1 H':=by
    have:=E'.same
    rwa [cY] at this
   rw[jV] at r';exact k' v H' (s1.trans sm) r'
theorem qm {H:Hp}{ad:Addr}{o:HO}(h:H ad=some o):upd (fun b=>if b=ad then none else H b) ad o=H:=by
 funext b
 by_cases hb:b=ad
 .rw[hb,dC,h]
 .rw[bc hb];exact if_neg hb
theorem bx (fa: ∀i,FnAt (F i).prog (F i).w (F i).K (F i).mg (F i).base nm ps k Φ)(ha:DA F (e::es) ρ γ ds)(hΦ:Φ (ds.map .d) [] (fun s γ'=> ∃ad,s= .pt ad/\γ'=[(ad,.lst l)]))(hr: ∀i,aR k (F i).A)(hg: ∀i,Gl (F i) nm)
  (hdb:(nm==("__debug__":Str))=false:=by decide) (he: ∀i,starEach (e::es) (F i).env=(false,eval e (F i).env)::starEach es (F i).env:=by intro _;rfl) (hpl: ∀i,(backTo pos (starEach es (F i).env)).any (·.1)=false:=by intro _;rfl) :
  DN F (.Call (.Name nm p) (e::es) [] pos) ρ γ l:=fun O0 H0 σ H I Q k'=>SE.mk2 (t:=fun _=>jj (spF Φ) [] E0 (SA F (e::es))) (fun i=>by
   obtain⟨f,fd,h1,h2,h3,h4⟩:=(fa i).ex
   exact jP h4 (hr i) (hg i) h1 h2 h3 .nil fM (SA.pa i) hdb (he i) (hpl i)) fun i=>ha I _ fun vs H1 s1 r=>by
  have I1:=I.grow s1;refine⟨hid O0 γ,ds.map .d,[],_,⟨?_,fun q hq=>(by cases hq),nodup_nil,fun q hq=>(by cases hq),by rw[cY];exact aB.refl _,fun b hb=>by rw[cY];exact I1.hidLive hb⟩,hΦ,?_⟩
  .rw[jV,append_nil];exact lQ r
  .rintro s γ' v H' ⟨ad,rfl,rfl⟩ E' r';have ev:v= .ref ad:=r';subst ev
   have sm:aB H1 H':=by
    have:=E'.same
    rwa [cY] at this
   have ym:=E'.young _ (mem_singleton.mpr rfl);rw[cY] at ym;obtain⟨o1,e1,xs,rfl,hz,rr⟩:=E'.own _ (mem_singleton.mpr rfl);rw[<-qm e1];refine k' ad xs _ (fun b o q=>?_) (if_pos rfl) hz (rr.mono fun b o q=>?_)
   .have q1:=s1 _ _ q;show (if b=ad then none else H' b)=some o;rw[if_neg (bW q1 ym.2)];exact sm _ _ q1
   .obtain⟨h1,h2⟩:=bG.mp q;obtain⟨h3,h4⟩:=gf.mp h1;refine bG.mpr ⟨h3,?_⟩;show (if b=ad then none else H' b)=some o;rw[if_neg (fun z=>h4 (by rw[z];exact mem_singleton.mpr rfl))];exact h2
theorem Ev.give {O0:Addr->Bool}{H0 H1:Hp}{σ:L2.St}{γ1 γu γf:Gm}{ss:List SV}{vs:List V}(I:Ev O0 H0 σ H1 ρ γ1)(hp:γ1.Perm (γu++γf))(r:Paired (bK (vis H1 (hid O0 γ1))) ss vs) :
  Ev (hid O0 γf) (rm H1 γu) (vs.map some) H1 (ss.map some) γu/\ ∀s γ' v H',Ev (hid O0 γf) (rm H1 γu) [] H' [] γ'->bK (vis H' (hid (hid O0 γf) γ')) s v ->
   Ev O0 H0 σ H' ρ (γ'++γf)/\aB (vis H1 (hid O0 γ1)) (vis H' (hid O0 (γ'++γf)))/\bK (vis H' (hid O0 (γ'++γf))) s v:=by
 have hk: ∀b,b∈γ1.map (·.1)↔b∈γu.map (·.1)\/b∈γf.map (·.1):=fun b=>by
  rw[(hp.map (·.1)).mem_iff,map_append,mem_append]
 have eh:hid (hid O0 γf) γu=hid O0 γ1:=by
  funext b;rw[Bool.eq_iff_iff,aQ,aQ,aQ,hk b];exact⟨fun h=>h.elim (fun h=>h.elim .inl fun h=>.inr (.inr h)) fun h=>.inr (.inl h),fun h=>h.elim (fun h=>.inl (.inl h)) fun h=>h.elim .inr fun h=>.inl (.inr h)⟩
 have nd:((γu++γf).map (·.1)).Nodup:=(hp.map (·.1)).nodup_iff.mp I.nd;rw[map_append,nodup_append] at nd;obtain⟨nu,nf,dj⟩:=nd;have mu: ∀q∈γu,q∈γ1:=fun q hq=>hp.mem_iff.mpr (mem_append.mpr (.inl hq));have mf: ∀q∈γf,q∈γ1:=fun q hq=>hp.mem_iff.mpr (mem_append.mpr (.inr hq));refine⟨⟨by rw[eh];exact De r,fun q hq=>by rw[eh];exact I.own q (mu q hq),nu,fun q hq=>⟨?_,CZ (mem_map.mpr ⟨q,hq,rfl⟩)⟩,fun b o e=>(iR.mp e).2,fun b hb=>?_⟩,?_⟩
 .refine gf.mpr ⟨(I.young q (mu q hq)).1,fun z=>?_⟩;exact dj _ (mem_map.mpr ⟨q,hq,rfl⟩) _ z rfl
 .have h1:H1 b≠none:=I.hidLive (by rw[<-eh];exact aQ.mpr (.inl hb));obtain⟨o,ho⟩:=Option.ne_none_iff_exists'.mp h1
  have:b∉γu.map (·.1):=fun z=>by
   obtain⟨q,hq,e⟩:=mem_map.mp z;rcases aQ.mp hb with t | t
   .have:=(I.young q (mu q hq)).1;rw[e,t] at this;cases this
   .exact dj _ z _ t rfl
  rw[iR.mpr ⟨this,ho⟩];exact fun z=>nomatch z
 .intro s γ' v H' E rs
  have eh':hid (hid O0 γf) γ'=hid O0 (γ'++γf):=by
   funext b;rw[Bool.eq_iff_iff,aQ,aQ,aQ,map_append,mem_append];exact⟨fun h=>h.elim (fun h=>h.elim .inl fun h=>.inr (.inr h)) fun h=>.inr (.inl h),fun h=>h.elim (fun h=>.inl (.inl h)) fun h=>h.elim .inr fun h=>.inl (.inr h)⟩
  have h0u: ∀b o,H0 b=some o->b∉γu.map (·.1):=fun b o e z=>by
   obtain⟨q,hq,eq⟩:=mem_map.mp z;have:=(I.young q (mu q hq)).2;rw[eq,e] at this;cases this
  have sv:aB (vis H1 (hid O0 γ1)) (vis H' (hid O0 (γ'++γf))):=fun b o e=>by
   obtain⟨h1,h2⟩:=bG.mp e;obtain⟨h3,h4⟩:=gf.mp h1;have hbu:b∉γu.map (·.1):=fun z=>h4 ((hk b).mpr (.inl z));have hr:rm H1 γu b=some o:=iR.mpr ⟨hbu,h2⟩;refine bG.mpr ⟨?_,E.same _ _ hr⟩;rw[<-eh'];refine gf.mpr ⟨gf.mpr ⟨h3,fun z=>h4 ((hk b).mpr (.inr z))⟩,fun z=>?_⟩;obtain⟨q,hq,eq⟩:=mem_map.mp z;have:=(E.young q hq).2;rw[eq,hr] at this;cases this
  rw[eh'] at rs;refine⟨⟨jU (fun _ _ q=>fj.mono sv q) I.slots,fun q hq=>?_,?_,fun q hq=>?_,fun b o e=>E.same _ _ (iR.mpr ⟨h0u b o e,I.same _ _ e⟩),I.live⟩,sv,rs⟩
  .rcases mem_append.mp hq with z | z
   .rw[<-eh'];exact E.own q z
   .obtain⟨u,h1,h2⟩:=I.own q (mf q z);exact⟨u,E.same _ _ (iR.mpr ⟨fun t=>dj _ t _ (mem_map.mpr ⟨q,z,rfl⟩) rfl,h1⟩),gb.mono sv h2⟩
  .rw[map_append,nodup_append];refine⟨E.nd,nf,fun u hu v hv e=>?_⟩;subst e;obtain⟨q,hq,eq⟩:=mem_map.mp hu;have:=(gf.mp (E.young q hq).1).2;rw[eq] at this;exact this hv
  .rcases mem_append.mp hq with z | z
   .refine⟨(gf.mp (E.young q z).1).1,?_⟩
    cases r0:H0 q.1 with
    | none=>rfl
    | some u =>
     have:=(E.young q z).2;rw[iR.mpr ⟨h0u _ _ r0,I.same _ _ r0⟩] at this;cases this
   .exact I.young q (mf q z)
theorem PJ {P:SV->Gm->Prop}(fa: ∀i,FnAt (F i).prog (F i).w (F i).K (F i).mg (F i).base nm ps k Φ)(ha:DAG F (e::es) ρ γ (fun ss γ1=> ∃γu γf Pu,γ1.Perm (γu++γf)/\Φ ss γu Pu/\ ∀s γ',Pu s γ'->P s (γ'++γf)))(hr: ∀i,aR k (F i).A)(hg: ∀i,Gl (F i) nm)
  (hdb:(nm==("__debug__":Str))=false:=by decide) (he: ∀i,starEach (e::es) (F i).env=(false,eval e (F i).env)::starEach es (F i).env:=by intro _;rfl) (hpl: ∀i,(backTo pos (starEach es (F i).env)).any (·.1)=false:=by intro _;rfl) :
  DG F (.Call (.Name nm p) (e::es) [] pos) ρ γ P:=fun O0 H0 σ H I Q k'=>SE.mk2 (t:=fun _=>jj (spF Φ) [] E0 (SA F (e::es))) (fun i=>by
   obtain⟨f,fd,h1,h2,h3,h4⟩:=(fa i).ex
   exact jP h4 (hr i) (hg i) h1 h2 h3 .nil fM (SA.pa i) hdb (he i) (hpl i)) fun i=>ha I _ fun ss γ1 vs H1 hP E1 s1 r=>by
  obtain⟨γu,γf,Pu,hp,hΦ,hq⟩:=hP;obtain⟨E2,back⟩:=E1.give hp r;refine⟨hid O0 γf,ss,γu,Pu,by rw[append_nil];exact E2,hΦ,fun s γ' v H' z E' r'=>?_⟩;obtain⟨E3,sv,rs⟩:=back s γ' v H' E' r';exact k' s _ v H' (hq s γ' z) E3 (s1.trans sv) rs
theorem iT {P:List SV->Gm->Prop}(h:P [] γ):DAG F [] ρ γ P:=fun O0 H0 σ H I Q k=>SA.mk (fun _=>cM) (k [] γ [] H h I (aB.refl _) .nil)
theorem bZ {P:List SV->Gm->Prop}(ha:DG F e ρ γ (fun s γ1=>DAG F es ρ γ1 (fun ss γ2=>P (s::ss) γ2)))(hs: ∀i,starEach (e::es) (F i).env=(false,eval e (F i).env)::starEach es (F i).env:=by intro _;rfl):DAG F (e::es) ρ γ P :=
 fun O0 H0 σ H I Q k=>SA.mk (fun q=>cH (SE.pe q) (SA.pa q) (hs q)) (ha I _ fun s γ1 v H1 hP E1 s1 r1=>hP E1 _ fun ss γ2 vs H2 hP2 E2 s2 r2=>k _ _ _ H2 hP2 E2 (s1.trans s2) (.cons (bK.mono s2 r1) r2))
end
end DL
end
section
namespace L2
open PySem PySem.Spec PyProof.Rows
section
variable {X:Cx}
theorem Vals.ins {x:V}{u:Value}(r:RelV x u){xs:List V}{us:List Value}(k:Nat)(h:Vals xs us):Vals (xs.take k++x::xs.drop k) (us.take k++u::us.drop k):=Vals.append (h.take k) (.cons r (h.drop k))
def PK:V->List V->Hp->VK->Prop:=fun x vs H Q=> ∃l xs i y,x= .ref l/\vs=[.int i,y]/\H l=some (.lst xs)/\0<=i/\i < 2 ^ 62/\i.toNat<=xs.length/\xs.length < sizeLine/\Q .non (upd H l (.lst (xs.take i.toNat++y::xs.drop i.toNat)))
theorem PL:MtM X "list.insert" PK:=by
 intro pins s σ H x vs v us Q I rx rv h;obtain⟨l,xs,i,y,rfl,rfl,hH,h0,h1,hk,hz,q⟩:=h;cases rx;obtain⟨u1,u2,rfl,ru1,ru2⟩:=rv.two;obtain⟨t,rfl⟩:=ru1;obtain⟨z,its,n,r,hl,e⟩:=I.lstM hH;have hf:Builtin.List.listFitsIndex i=true:=Bool.and_eq_true_iff.mpr ⟨decide_eq_true (by omega),decide_eq_true (by omega)⟩;refine call_meets F.slot_list_insert ⟨_,e,rfl⟩ F.entry_list_insert (F.args_list_insert_3 _ _ _) (AutoSeq1.list_insert_list_int_val_1 l its.toArray n i t u2 (by simp [hf]) (by rw[size_toArray];omega)) ⟨e,?_⟩;refine⟨.non,_,I.lset (its':=its.take i.toNat++u2::its.drop i.toNat) hH e ?_ (Vals.ins ru2 i.toNat r) ?_,rfl,q⟩
 .show (its.toArray.extract 0 (if i < 0 then (i+(its.toArray.size:Int)).toNat else min i.toNat its.toArray.size)).push u2++its.toArray.extract (if i < 0 then (i+(its.toArray.size:Int)).toNat else min i.toNat its.toArray.size)=_;rw[if_neg (by omega),show min i.toNat its.toArray.size=i.toNat by rw[size_toArray];omega];exact PySem.W.kl_ins_eq its i.toNat u2
 .rw[length_append,length_cons,length_take,length_drop];omega
theorem PN {l b:Addr}{mine more:Array Value}{ep et:Nat}{tup:Obj}(few:mine.size+more.size<=sizeLine) :
  Meets (Builtin.«list.extend» ⟨[.ref l,.ref b],[]⟩) fun _ R s=>s.heap.get? l=some { cls:=.type "list",data:=.seq mine ep }/\(s.heap.get? b=some tup/\tup.cls= .type "tuple"/\tup.data= .seq more et) /\
   R (.ok (.ret .none)) { s with heap:=s.heap.update l (Obj.mapSeq (·++more)) }:=by
 rintro prog w A R s ⟨atL,⟨atB,isT,itemsT⟩,after⟩;show wpAny _ _ (Builtin.List.listExtendWith (.ref l) (.ref b) .none) _ _ s;unfold Builtin.List.listExtendWith;refine wpAny_bind (wpAny_typeOf (T:="tuple") ⟨tup,atB,isT⟩ ?_);rw[if_pos (show (Builtin.List.listSameRef (.ref l) (.ref b)||Value.type "tuple"==.type "list"||Value.type "tuple"==.type "tuple")=true by rw[show (Value.type "tuple"==.type "tuple")=true from rfl,Bool.or_true])];refine wpAny_bind (listItems_at atB itemsT (wpAny_bind (listItems_at atL rfl ?_)));rw[if_neg (by rw[Bm few,Bool.and_false];exact Bool.false_ne_true)];exact wpAny_bind (listUpdate_at atL rfl (wpAny_pure after) (by omega) (by show (mine++more).size<=_;rw[Array.size_append];omega))
def Df:V->List V->Hp->VK->Prop:=fun x vs H Q=> ∃l b xs zs,x= .ref l/\vs=[.ref b]/\H l=some (.lst xs)/\H b=some (.tup zs)/\xs.length+zs.length<=sizeLine/\Q .non (upd H l (.lst (xs++zs)))
theorem PP:MtM X "list.extend" Df:=by
 intro pins s σ H x vs v us Q I rx rv h;obtain⟨l,b,xs,zs,rfl,rfl,hH,hB,hz,q⟩:=h;cases rx;obtain⟨u,rfl,ru⟩:=rv.one;cases ru;obtain⟨z,its,n,r,hl,e⟩:=I.lstM hH;obtain⟨z2,its2,r2,o,e2,hc,n2,hd⟩:=I.hok b _ hB;have hl2:=r2.length;refine call_meets F.slot_list_extend ⟨_,e,rfl⟩ F.entry_list_extend (F.args_list_extend_2 _ _) (PN (more:=its2.toArray) (et:=n2) (tup:=o) (by rw[size_toArray,size_toArray];omega)) ⟨e,⟨e2,hc,hd⟩,?_⟩;refine⟨.non,_,I.lset (its':=its++its2) hH e (by simp) (r.append r2) ?_,rfl,q⟩;rw[length_append];omega
theorem Dg {α β:Type}(f:α->β): ∀ (l:List α) (i:Nat),(l.eraseIdx i).map f=(l.map f).eraseIdx i
 | [],_=>rfl
 | _::_,0=>rfl
 | a::l,i+1=>by rw[List.eraseIdx_cons_succ,map_cons,map_cons,List.eraseIdx_cons_succ,Dg f l i]
theorem Dh {α:Type}: ∀ (l:List α) (i:Nat),(l.eraseIdx i).length<=l.length
 | [],_=>Nat.le_refl _
 | _::_,0=>Nat.le_succ _
 | _::r,i+1=>Nat.succ_le_succ (Dh r i)
end
end L2
namespace DL
open PySem PySem.Spec PyProof.Rows L2
section
variable {ι:Type}{F:ι->Cx}{ρ:Rho}{γ:Gm}{a b c e e2 o:Expr}{es:List Expr}{pos p:Pos}{x y:D}{l m ds:List D}{nm:Str}{ps:List Str}{k:Nat}{Φ:Fsp}{P:Po}
theorem PQ {ns:List Int}(h:DP F e ρ γ (.frl ns))(hg: ∀i,Gl (F i) "len")(hm: ∀i,(F i).mg "len"=none)(he: ∀i,starEach [e] (F i).env=[(false,eval e (F i).env)]:=by intro _;rfl):DP F (.Call (.Name "len" p) [e] [] pos) ρ γ (.int ns.length) :=
 fun O0 H0 σ H I Q k=>SE.mk2 (fun i=>jQ Bk (hg i) (hm i) PySem.boot_len (cH (SE.pe i) cM (he i)) (he:=he i)) fun i=>h I _ fun v0 H1 s1 r1=>by
  obtain⟨ad,ob,rfl,hl⟩:=mX.mp r1;refine⟨ad,_,rfl,.inl (.inl (.inr ⟨ob,(bG.mp hl).2⟩)),k _ H1 s1 (aU.mpr ?_)⟩;rw[length_map]
theorem Di {ns:List Int}{k n:Int}(ha:DP F a ρ γ (.frl ns))(hb:DP F b ρ γ (.int k))(h0:0<=k)(hx:ns[k.toNat]?=some n)(hs:fL b:=by intro _ _;rfl):DP F (.Subscript a b pos) ρ γ (.int n) :=
 fun O0 H0 σ H I Q k'=>SE.mk2 (t:=fun i=>tOp (pB (F i).K) (SE F a) (SE F b)) (fun i=>mQ sW (SE.pe i) (SE.pe i) hs) fun i=>ha I _ fun v0 H1 s1 r1=>hb (I.grow s1) _ fun u H2 s2 r2=>by
  obtain⟨ad,ob,rfl,hl⟩:=mX.mp r1;exact⟨ad,_,k,.int n,rfl,aU.mp r2,.inl (.inr ⟨ob,s2 _ _ (bG.mp hl).2⟩),qd h0 (by rw[List.getElem?_map,hx];rfl),k' _ H2 (s1.trans s2) (aU.mpr rfl)⟩
theorem PX {lo hi:Int}{xs:List V}(h0:0<=lo)(h1:lo<=hi)(h2:hi<=xs.length):iG xs (some lo) (some hi)=(xs.drop lo.toNat).take (hi.toNat - lo.toNat):=by
 unfold iG HT.sIx;simp only;congr 1
 .rw[if_neg (by omega)];rw[if_neg (by omega)];omega
 .rw[if_neg (by omega)];congr 1;omega
end
end DL
end
section
namespace DL
open PySem PySem.Spec PyProof.Rows L2
section
variable {ι:Type}{F:ι->Cx}{ρ:Rho}{γ:Gm}{a b c e e2 o:Expr}{es:List Expr}{pos p apos:Pos}{x y:D}{l m ds:List D}{nm:Str}{ps:List Str}{k:Nat}{Φ:Fsp}{P:Po}
theorem m6 {G:Hp}{i:Int}{v:V}:bK G (.d (.int i)) v↔v= .int i:=aU (H:=G)
theorem P0 {G:Hp}{xs:List V}{lo hi:Int}(r:aA l G xs)(h0:0<=lo)(h1:lo<=hi)(h2:hi<=l.length):aA ((l.drop lo.toNat).take (hi.toNat - lo.toNat)) G (iG xs (some lo) (some hi)):=by
 rw[PX h0 h1 (by rw[r.length];exact h2)];exact (r.drop _).take _
theorem Qa {ns:List Int}{lo hi:Int}(ha:DP F a ρ γ (.frl ns))(hb:DP F b ρ γ (.int lo))(hc:DP F c ρ γ (.int hi))(h0:0<=lo)(h1:lo<=hi)(h2:hi<=ns.length)(hz:ns.length<=sizeLine) :
  DN F (.Subscript a (.Slice (some b) (some c) none p) pos) ρ γ (((ns.drop lo.toNat).take (hi.toNat - lo.toNat)).map D.int) :=
 fun O0 H0 σ H I Q k=>SE.mk2 (t:=fun i=>tSl (sX (F i).K) (SE F a) (pA (SE F b)) (pA (SE F c))) (fun i=>Bc Bh (SE.pe i) (sU (SE.pe i)) (sU (SE.pe i))) fun i=>ha I _ fun v0 H1 s1 r1=>hb (I.grow s1) _ fun u H2 s2 r2=>⟨lo,aU.mp r2,hc ((I.grow s1).grow s2) _ fun u3 H3 s3 r3=>⟨hi,aU.mp r3,by
  obtain⟨ad,ob,rfl,hl⟩:=mX.mp r1;refine⟨ad,_,rfl,.inl (.inr ⟨ob,s3 _ _ (s2 _ _ (bG.mp hl).2)⟩),fun q hq=>k q _ H3 ((s1.trans s2).trans s3) hq ?_ ?_⟩
  .rw[length_map,length_take,length_drop];omega
  .have:=P0 (l:=ns.map D.int) (G:=vis H3 (hid O0 γ)) (xs:=ns.map V.int) (cW.mpr rfl) h0 h1 (by rw[length_map];exact h2);rw[<-List.map_drop,<-map_take] at this
   exact this⟩⟩
theorem Dj {id:String}{mn:Str}{r:V->List V->Hp->VK->Prop}{ad:Addr}{l':List D}{y:D}(ho:DR F o ρ γ ad)(hm:(ad,OD.lst l)∈γ)(he:DA F (e::es) ρ γ ds){Pp:SV->Gm->Prop}(h:Pp (.d y) (cF γ ad (.lst l')))
  (slot:Slot "list" mn id) (hty:typeOf (.builtin id)=pure (.type "method_descriptor")) (mt: ∀i,MtM (F i) id r)
  (hr: ∀ (G:Hp) (H:Hp) (xs vs:List V) (Q:VK),H ad=some (.lst xs)->aA l G xs->aA ds G vs->(∀v xs',aA l' G xs'->Rep y G v->Q v (upd H ad (.lst xs')))->r (.ref ad) vs H Q) (hz:l'.length<=sizeLine)
  (hbase: ∀i,attributeBase o mn (F i).env (eval o (F i).env)=eval o (F i).env:=by intro _;rfl)
  (hfew: ∀i,((backTo pos (starEach (e::es) (F i).env)).all (fun x=> !x.1)&&(backToKw pos (keywordEach [] (F i).env)).all (fun x=>x.1.isSome)&&decide ((e::es).length+([]:List Keyword).length+(if ([]:List Keyword).isEmpty then 0 else 1) < 30))=true:=by intro _;rfl)
  (hline:(apos.endLine==pos.line)=true:=by rfl) (hs: ∀i,starEach (e::es) (F i).env=(false,eval e (F i).env)::starEach es (F i).env:=by intro _;rfl) (hpl: ∀i,(backTo pos (starEach es (F i).env)).any (·.1)=false:=by intro _;rfl) :
  DG F (.Call (.Attribute o mn apos) (e::es) [] pos) ρ γ Pp :=
 fun O0 H0 σ H I Q k=>SE.mk2 (t:=fun i=>tBM (F i).K "list" r (SE F o) (SA F (e::es))) (fun i=>pC PySem.F.plainAttrs_list slot hty (mt i) (SE.pe i) (SA.pa i) (hbase i) (hfew i) hline (hs i) (hpl i)) fun i=>ho I _ fun H1 s1=>by
  obtain⟨o1,e1,xs1,rfl,_,r1⟩:=(I.grow s1).own _ hm;refine⟨.inl ⟨rfl,xs1,SqL.of e1⟩,he (I.grow s1) _ fun vs H2 s2 r2=>?_⟩;obtain⟨o2,e2,xs,rfl,_,rr⟩:=((I.grow s1).grow s2).own _ hm;refine hr _ H2 xs vs _ e2 rr r2 fun v xs' r3 r4=>?_;obtain⟨E,ev⟩:=((I.grow s1).grow s2).write (w:=.lst l') (o:=.lst xs') hm ⟨xs',rfl,hz,r3⟩;refine k _ _ _ _ h E ?_ (by rw[ev];exact r4);rw[ev];exact cD (s1.trans s2)
theorem Dk {ad:Addr}{n:Int}(ho:DR F o ρ γ ad)(hm:(ad,OD.lst l)∈γ)(he:DA F [e,e2] ρ γ [.int n,x]){Pp:SV->Gm->Prop}(h:Pp (.d .non) (cF γ ad (.lst (l.take n.toNat++x::l.drop n.toNat))))(h0:0<=n)(h1:n.toNat<=l.length)(hz:l.length < sizeLine)
  (hbase: ∀i,attributeBase o "insert" (F i).env (eval o (F i).env)=eval o (F i).env:=by intro _;rfl)
  (hfew: ∀i,((backTo pos (starEach [e,e2] (F i).env)).all (fun x=> !x.1)&&(backToKw pos (keywordEach [] (F i).env)).all (fun x=>x.1.isSome)&&decide (([e,e2]:List Expr).length+([]:List Keyword).length+(if ([]:List Keyword).isEmpty then 0 else 1) < 30))=true:=by intro _;rfl)
  (hline:(apos.endLine==pos.line)=true:=by rfl) (hs: ∀i,starEach [e,e2] (F i).env=(false,eval e (F i).env)::starEach [e2] (F i).env:=by intro _;rfl) (hpl: ∀i,(backTo pos (starEach [e2] (F i).env)).any (·.1)=false:=by intro _;rfl) :
  DG F (.Call (.Attribute o "insert" apos) [e,e2] [] pos) ρ γ Pp :=
 Dj ho hm he h PySem.F.slot_list_insert PySem.F.type_list_insert (fun _=>PL) (fun G H xs vs Q hH r1 r2 kk=>by
  obtain⟨v,vs',rfl,rv,r2⟩:=cC.mp r2;obtain⟨u,us',rfl,ru,r2⟩:=cC.mp r2;cases bY.mp r2;have hl:=r1.length;refine⟨ad,xs,n,u,rfl,by rw[aU.mp rv],hH,h0,?_,by omega,by omega,kk _ _ ((r1.take _).append (aA.cons ru (r1.drop _))) (iJ.mpr rfl)⟩;have:sizeLine=16777216:=sizeLine_eq
  omega) (by rw[length_append,length_cons,length_take,length_drop];omega) hbase hfew hline hs hpl
theorem Qc {ad:Addr}{n:Int}(ho:DR F o ρ γ ad)(hm:(ad,OD.lst l)∈γ)(he:DA F [e] ρ γ [.int n])(hx:l[n.toNat]?=some x){Pp:SV->Gm->Prop}(h:Pp (.d x) (cF γ ad (.lst (l.eraseIdx n.toNat))))(h0:0<=n)(hz:l.length<=sizeLine)
  (hbase: ∀i,attributeBase o "pop" (F i).env (eval o (F i).env)=eval o (F i).env:=by intro _;rfl)
  (hfew: ∀i,((backTo pos (starEach [e] (F i).env)).all (fun x=> !x.1)&&(backToKw pos (keywordEach [] (F i).env)).all (fun x=>x.1.isSome)&&decide (([e]:List Expr).length+([]:List Keyword).length+(if ([]:List Keyword).isEmpty then 0 else 1) < 30))=true:=by intro _;rfl)
  (hline:(apos.endLine==pos.line)=true:=by rfl) (hs: ∀i,starEach [e] (F i).env=(false,eval e (F i).env)::starEach [] (F i).env:=by intro _;rfl) (hpl: ∀i,(backTo pos (starEach [] (F i).env)).any (·.1)=false:=by intro _;rfl) :
  DG F (.Call (.Attribute o "pop" apos) [e] [] pos) ρ γ Pp :=
 Dj ho hm he h PySem.F.slot_list_pop PySem.F.type_list_pop (fun _=>Ni) (fun G H xs vs Q hH r1 r2 kk=>by
  obtain⟨v,vs',rfl,rv,r2⟩:=cC.mp r2;cases bY.mp r2;have hl:=r1.length;obtain⟨u,hu,ru⟩:=r1.get hx;have hlt:=(List.getElem?_eq_some_iff.mp hu).1;have:sizeLine=16777216:=sizeLine_eq;refine⟨ad,xs,n,n.toNat,u,rfl,by rw[aU.mp rv],hH,by omega,by omega,?_,hu,kk _ _ (r1.eraseIdx _) ru⟩
  have e1:ixN xs.length n=some n.toNat:=by
   unfold ixN;rw[if_pos h0,if_pos (by omega)]
  exact (Be e1).1) (Nat.le_trans (Dh _ _) hz) hbase hfew hline hs hpl
theorem Qd {ad:Addr}(ho:DR F o ρ γ ad)(hm:(ad,OD.lst l)∈γ)(he:DA F [e] ρ γ [.tup m]){Pp:SV->Gm->Prop}(h:Pp (.d .non) (cF γ ad (.lst (l++m))))(hz:l.length+m.length<=sizeLine)
  (hbase: ∀i,attributeBase o "extend" (F i).env (eval o (F i).env)=eval o (F i).env:=by intro _;rfl)
  (hs: ∀i,starEach [e] (F i).env=[(false,eval e (F i).env)]:=by intro _;rfl) (hline:(apos.endLine==pos.line)=true:=by rfl):DG F (.Call (.Attribute o "extend" apos) [e] [] pos) ρ γ Pp :=
 fun O0 H0 σ H I Q k=>SE.mk2 (t:=fun i=>tBM (F i).K "list" Df (SE F o) (SA F [e])) (fun i=>pC PySem.F.plainAttrs_list PySem.F.slot_list_extend PySem.F.type_list_extend PP (SE.pe i) (SA.pa i) (hbase i) (by rw[hs i];rfl) hline (hs i)) fun i=>ho I _ fun H1 s1=>by
  obtain⟨o1,e1,xs1,rfl,_,r1⟩:=(I.grow s1).own _ hm;refine⟨.inl ⟨rfl,xs1,SqL.of e1⟩,he (I.grow s1) _ fun vs H2 s2 r2=>?_⟩;obtain⟨o2,e2,xs,rfl,_,r⟩:=((I.grow s1).grow s2).own _ hm;obtain⟨v,vs',rfl,rv,r2⟩:=cC.mp r2;cases bY.mp r2;obtain⟨ad',ys,rfl,hl,r2⟩:=lH.mp rv;refine⟨ad,ad',xs,ys,rfl,rfl,e2,(bG.mp hl).2,by rw[r.length,r2.length];exact hz,?_⟩;obtain⟨E,ev⟩:=((I.grow s1).grow s2).write (w:=.lst (l++m)) (o:=.lst (xs++ys)) hm ⟨xs++ys,rfl,by rw[length_append];exact hz,r.append r2⟩;refine k _ _ _ _ h E ?_ qj;rw[ev];exact cD (s1.trans s2)
def iU (f:Str) (s:SV):List Str->List SV->List SV
 | [],_=>[s]
 | _::_,[]=>[s]
 | g::ns,x::l=>if g=f then s::l else x::iU f s ns l
def putN (f:Str):List Str->List Str
 | []=>[f]
 | g::ns=>if g=f then g::ns else g::putN f ns
theorem uy {G:Hp}{f:Str}{s:SV}{v:V}(hv:bK G s v): ∀{ns:List Str} {ss:List SV} {xs:List V},ns.length=ss.length->Paired (bK G) ss xs-> ∃ys,dh f v (ns.zip xs)=(putN f ns).zip ys/\Paired (bK G) (iU f s ns ss) ys/\(putN f ns).length=(iU f s ns ss).length
 | [],[],_,_,.nil=>⟨[v],rfl,.cons hv .nil,rfl⟩
 | g::ns,x::ss,_,hl,.cons (b:=u) r t=>by
  show ∃ys,(if g=f then (g,v)::ns.zip _ else (g,u)::dh f v (ns.zip _))=_/\_;unfold putN iU
  by_cases h:g=f
  .rw[if_pos h,if_pos h,if_pos h];exact⟨v::_,rfl,.cons hv t,by simpa using hl⟩
  .rw[if_neg h,if_neg h,if_neg h];obtain⟨ys,h1,h2,h3⟩:=uy hv (by simpa using hl) t;exact⟨u::ys,by rw[h1];rfl,.cons r h2,by simpa using h3⟩
theorem lR {ad C:Addr}{ns:List Str}{ss:List SV}{f:Str}(he:DG F e ρ γ (fun s γ'=>(∃ss',(ad,OD.ins C ns ss')∈γ'/\P.nx ρ (cF γ' ad (.ins C (putN f ns) (iU f s ns ss'))))/\DR F o ρ γ' ad))(hc: ∀i,Cls (F i).K C)(hn: ∀i,cR (F i).K C f)(hlen:ns.length < 1000)
  (hs: ∀i,swapsWith e (some (.Attribute o f p)) pos.line (F i).env=pure false:=by intro _;rfl):DS F (.Assign [.Attribute o f p] e pos) ρ γ P :=
 fun O0 H0 σ H I Dn kn kr kb kc=>SS.mk2 (t:=fun i=>Ak (F i).K (SE F o) (SE F e) f) (fun i=>Mt (SE.pe i) (SE.pe i) (hs i)) fun i=>he I _ fun s γ' v H1 hP E1 _ r1=>by
  obtain⟨⟨ss',hm,hq⟩,ho⟩:=hP;refine ho E1 _ fun H2 s2=>?_;have E2:=E1.grow s2;obtain⟨dx,xs,hH,hl,rr⟩:=iK E2 hm;obtain⟨ys,h1,h2,h3⟩:=uy (f:=f) (bK.mono (cD s2) r1) hl rr;refine⟨ad,C,dx,_,rfl,hH,hc i,hn i,?_,?_⟩
  .have:=mY rr;rw[length_zip];omega
  .rw[h1];obtain⟨E,ev⟩:=E2.write (w:=.ins C (putN f ns) (iU f s ns ss')) (o:=.ins C dx ((putN f ns).zip ys)) hm ⟨dx,ys,rfl,h3,h2⟩;exact kn _ _ _ _ hq E
theorem gh {ad C:Addr}{ns:List Str}{ss:List SV}{f:Str}(he:DP F e ρ γ x)(ho:DR F o ρ γ ad)(hm:(ad,OD.ins C ns ss)∈γ)(h:P.nx ρ (cF γ ad (.ins C (putN f ns) (iU f (.d x) ns ss))))(hc: ∀i,Cls (F i).K C)(hn: ∀i,cR (F i).K C f)(hlen:ns.length < 1000)
  (hs: ∀i,swapsWith e (some (.Attribute o f p)) pos.line (F i).env=pure false:=by intro _;rfl):DS F (.Assign [.Attribute o f p] e pos) ρ γ P :=
 lR (ss:=ss) (he.gen ⟨⟨ss,hm,h⟩,ho⟩) hc hn hlen hs
theorem Qe {ad C:Addr}{ns:List Str}{ss:List SV}{f:Str}{i j:Int}(ho:DR F o ρ γ ad)(hm:(ad,OD.ins C ns ss)∈γ)(hl:(ns.zip ss).lookup f=some (.d (.int i)))(he:DP F e ρ γ (.int j))(h:P.nx ρ (cF γ ad (.ins C (putN f ns) (iU f (.d (.int (i+j))) ns ss))))(hc: ∀i,Cls (F i).K C)(hn: ∀i,cR (F i).K C f)(hlen:ns.length < 1000) :
  DS F (.AugAssign (.Attribute o f p) .Add e pos) ρ γ P :=
 fun O0 H0 σ H I Dn kn kr kb kc=>SS.mk2 (t:=fun i=>Am (F i).K (SE F o) (SE F e) Ao f) (fun i=>Mu (SE.pe i) (SE.pe i) Mv) fun q=>ho I _ fun H1 s1=>by
  obtain⟨dx,xs,hH,hlen',rr⟩:=iK (I.grow s1) hm;obtain⟨u,hu,ru⟩:=qb rr hl;refine⟨ad,C,dx,_,u,rfl,hH,hc q,hn q,hu,he (I.grow s1) _ fun v H2 s2 r2=>⟨i,j,m6.mp ru,aU.mp r2,?_⟩⟩;have E2:=(I.grow s1).grow s2;obtain⟨dx2,xs2,hH2,hl2,rr2⟩:=iK E2 hm;obtain⟨ys,h1,h2,h3⟩:=uy (f:=f) (s:=.d (.int (i+j))) (v:=.int (i+j)) (G:=vis H2 (hid O0 γ)) (m6.mpr rfl) hl2 rr2;refine⟨dx2,_,hH2,?_,?_⟩
  .have:=mY rr2;rw[length_zip];omega
  .rw[h1];obtain⟨E,ev⟩:=E2.write (w:=.ins C (putN f ns) (iU f (.d (.int (i+j))) ns ss)) (o:=.ins C dx2 ((putN f ns).zip ys)) hm ⟨dx2,ys,rfl,h3,h2⟩;exact kn _ _ _ _ h E
theorem Dl {i j:Int}(hr:ρ[k]?=some (some (.d (.int i))))(he:DP F e ρ γ (.int j))(h:P.nx (ρ.set k (some (.d (.int (i+j))))) γ)(hN: ∀i,(F i).N.Nodup)(hi: ∀i,(F i).N[k]?=some nm)(hx: ∀i,Loc (F i).env.scope nm)
  (hf: ∀i,(F i).fn nm=true\/(F i).env.scope.names.lookup nm=some .local):DS F (.AugAssign (.Name nm p) .Add e pos) ρ γ P :=
 fun O0 H0 σ H I Dn kn kr kb kc=>SS.mk (fun q=>Lk (hN q) (hi q) (hx q) (SE.pe q) Ln (hf q)) (by
  obtain⟨v,hv,rv⟩:=I.slot hr;refine⟨v,hv,he I _ fun u H1 s1 r1=>⟨i,j,m6.mp rv,aU.mp r1,?_⟩⟩
  exact kn _ _ _ _ h ((I.grow s1).set (s:=.d (.int (i+j))) k (m6.mpr rfl)))
def fC (O:Addr->Bool) (γ:Gm) (bs:List Addr):Addr->Bool:=fun b=>hid O γ b&& !bs.contains b
theorem m7 {O:Addr->Bool}{bs:List Addr}{H:Hp}:aB (vis H (hid O γ)) (vis H (fC O γ bs)):=d8 (aB.refl H) fun b hb=>by
 unfold fC at hb;rw[Bool.and_eq_true] at hb;exact .inl hb.1
theorem uz {O:Addr->Bool}{bs:List Addr}{b:Addr}(h:b∈bs):fC O γ bs b=false:=by
 unfold fC;rw[contains_iff_mem.mpr h];simp
def YAb (t:TA) (ρ:Rho) (γ:Gm) (ds:List D) (bs:List Addr):Prop:= ∀ ⦃O0 H0 σ H⦄,Ev O0 H0 σ H ρ γ-> ∀Q:List V->Hp->Prop,(∀vs H',aB H H'->aA ds (vis H' (fC O0 γ bs)) vs->Q vs H')->t σ H Q
abbrev DAb (F:ι->Cx) (es:List Expr) (ρ:Rho) (γ:Gm) (ds:List D) (bs:List Addr):Prop:=YAb (SA F es) ρ γ ds bs
theorem Dm {bs:List Addr}:DAb F [] ρ γ [] bs:=fun O0 H0 σ H I Q k=>SA.mk (fun _=>cM) (k _ H (aB.refl H) (bY.mpr rfl))
theorem Do {bs:List Addr}(ha:DP F e ρ γ x)(hr:DAb F es ρ γ l bs)(hs: ∀i,starEach (e::es) (F i).env=(false,eval e (F i).env)::starEach es (F i).env:=by intro _;rfl):DAb F (e::es) ρ γ (x::l) bs :=
 fun O0 H0 σ H I Q k=>SA.mk (fun q=>cH (SE.pe q) (SA.pa q) (hs q)) (ha I _ fun v H1 s1 r1=>hr (I.grow s1) _ fun vs H2 s2 r2=>k _ H2 (s1.trans s2) (aA.cons ((r1.mono (cD s2)).mono m7) r2))
theorem Dp {bs:List Addr}{ad:Addr}(ha:DR F e ρ γ ad)(hm:(ad,OD.lst m)∈γ)(hb:ad∈bs)(hr:DAb F es ρ γ l bs)(hs: ∀i,starEach (e::es) (F i).env=(false,eval e (F i).env)::starEach es (F i).env:=by intro _;rfl):DAb F (e::es) ρ γ (.lst m::l) bs :=
 fun O0 H0 σ H I Q k=>SA.mk (fun q=>cH (SE.pe q) (SA.pa q) (hs q)) (ha I _ fun H1 s1=>hr (I.grow s1) _ fun vs H2 s2 r2=>by
  obtain⟨o1,e1,xs,rfl,hz,r1⟩:=((I.grow s1).grow s2).own _ hm
  exact k _ H2 (s1.trans s2) (aA.cons (jm.mpr ⟨ad,xs,rfl,bG.mpr ⟨uz hb,e1⟩,hz,r1.mono m7⟩) r2))
theorem uA {G:Hp}: ∀{fs:List D} {xs:List V},Paired (bK G) (fs.map SV.d) xs->aA fs G xs
 | [],_,.nil=>bY.mpr rfl
 | _::_,_,.cons r t=>aA.cons r (uA t)
def Flat:D->Prop
 | .non=>True
 | .bl _=>True
 | .int _=>True
 | _=>False
theorem Flat.rep {G G':Hp}{v:V}: ∀{x:D},Flat x->Rep x G v->Rep x G' v
 | .non,_,r=>iJ.mpr (iJ.mp r)
 | .bl _,_,r=>fc.mpr (fc.mp r)
 | .int _,_,r=>aU.mpr (aU.mp r)
theorem Ev.lend {O0:Addr->Bool}{H0 H:Hp}{σ:L2.St}{bs:List Addr}{vs:List V}(I:Ev O0 H0 σ H ρ γ)(r:aA ds (vis H (fC O0 γ bs)) vs):Ev (fC O0 γ bs) (rm H []) (vs.map some) H ((ds.map SV.d).map some) []:=by
 refine⟨?_,fun q hq=>(by cases hq),nodup_nil,fun q hq=>(by cases hq),by rw[cY];exact aB.refl _,fun b hb=>?_⟩
 .rw[jV];exact lQ r
 .rw[cY];unfold fC at hb;rw[Bool.and_eq_true] at hb;exact I.hidLive hb.1
theorem m8 {bs:List Addr}(fa: ∀i,FnAt (F i).prog (F i).w (F i).K (F i).mg (F i).base nm ps k Φ)(ha:DAb F (e::es) ρ γ ds bs)(hy:Flat y)(hΦ:Φ (ds.map .d) [] (fun s γ'=>s= .d y/\γ'=[]))(hr: ∀i,aR k (F i).A)(hg: ∀i,Gl (F i) nm)
  (hdb:(nm==("__debug__":Str))=false:=by decide) (he: ∀i,starEach (e::es) (F i).env=(false,eval e (F i).env)::starEach es (F i).env:=by intro _;rfl) (hpl: ∀i,(backTo pos (starEach es (F i).env)).any (·.1)=false:=by intro _;rfl) :
  DP F (.Call (.Name nm p) (e::es) [] pos) ρ γ y:=fun O0 H0 σ H I Q k'=>SE.mk2 (t:=fun _=>jj (spF Φ) [] E0 (SA F (e::es))) (fun i=>by
   obtain⟨f,fd,h1,h2,h3,h4⟩:=(fa i).ex
   exact jP h4 (hr i) (hg i) h1 h2 h3 .nil fM (SA.pa i) hdb (he i) (hpl i)) fun i=>ha I _ fun vs H1 s1 r=>by
  refine⟨fC O0 γ bs,ds.map .d,[],_,by rw[append_nil];exact (I.grow s1).lend r,hΦ,?_⟩;rintro s γ' v H' ⟨rfl,rfl⟩ E' r'
  have sm:aB H1 H':=by
   have:=E'.same
   rwa [cY] at this
  exact k' v H' (s1.trans sm) (hy.rep r')
theorem m9 {bs:List Addr}{ns:List Int}(fa: ∀i,FnAt (F i).prog (F i).w (F i).K (F i).mg (F i).base nm ps k Φ)(ha:DAb F (e::es) ρ γ ds bs)(hΦ:Φ (ds.map .d) [] (fun s γ'=> ∃ad,s= .pt ad/\γ'=[(ad,.lst (ns.map D.int))]))(hr: ∀i,aR k (F i).A)(hg: ∀i,Gl (F i) nm)
  (hdb:(nm==("__debug__":Str))=false:=by decide) (he: ∀i,starEach (e::es) (F i).env=(false,eval e (F i).env)::starEach es (F i).env:=by intro _;rfl) (hpl: ∀i,(backTo pos (starEach es (F i).env)).any (·.1)=false:=by intro _;rfl) :
  DN F (.Call (.Name nm p) (e::es) [] pos) ρ γ (ns.map D.int):=fun O0 H0 σ H I Q k'=>SE.mk2 (t:=fun _=>jj (spF Φ) [] E0 (SA F (e::es))) (fun i=>by
   obtain⟨f,fd,h1,h2,h3,h4⟩:=(fa i).ex
   exact jP h4 (hr i) (hg i) h1 h2 h3 .nil fM (SA.pa i) hdb (he i) (hpl i)) fun i=>ha I _ fun vs H1 s1 r=>by
  refine⟨fC O0 γ bs,ds.map .d,[],_,by rw[append_nil];exact (I.grow s1).lend r,hΦ,?_⟩;rintro s γ' v H' ⟨ad,rfl,rfl⟩ E' r';have ev:v= .ref ad:=r';subst ev
  have sm:aB H1 H':=by
   have:=E'.same
   rwa [cY] at this
  have ym:=E'.young _ (mem_singleton.mpr rfl);rw[cY] at ym;obtain⟨o1,e1,xs,rfl,hz,rr⟩:=E'.own _ (mem_singleton.mpr rfl);rw[<-qm e1];refine k' ad xs _ (fun b o q=>?_) (if_pos rfl) hz (cW.mpr (cW.mp rr));have q1:=s1 _ _ q;show (if b=ad then none else H' b)=some o;rw[if_neg (bW q1 ym.2)];exact sm _ _ q1
end
end DL
end
section
namespace DL
open PySem PySem.Spec PyProof.Rows L2
structure jr (Pg:Program) (w:World) (K:Frag) (mg:Str->Option Value) (base:Heap) (x:Str) (C:Addr) (ps:List Str) (k:Nat) (Φ:Fsp):Prop where
 at_:mg x=some (.ref C)
 ex: ∃ (f:Addr) (fd:FuncData),Mk K C f/\Binds K fd ps []/\au Pg w K mg base CX0 k f fd ps (spF Φ)
structure MethAt (Pg:Program) (w:World) (K:Frag) (mg:Str->Option Value) (base:Heap) (C:Addr) (m:Str) (ps:List Str) (k:Nat) (Φ:Fsp):Prop where
 cl:Cls K C
 ex: ∃ (f:Addr) (fd:FuncData),Meth K C m f/\Binds K fd ps []/\au Pg w K mg base CX0 k f fd ps (spF Φ)
section
variable {ι:Type}{F:ι->Cx}{ρ:Rho}{γ:Gm}{a b c e e2 o:Expr}{es:List Expr}{pos p apos:Pos}{x y:D}{l m ds:List D}{nm:Str}{ps:List Str}{k:Nat}{Φ:Fsp}{P:Po}{C:Addr}{ns:List Str}{fs:List D}
theorem uB {G:Hp}{v:V}:bK G (.d .non) v↔v= .non:=iJ (H:=G)
theorem Dq {G:Hp}: ∀{fs:List D} {xs:List V},aA fs G xs->Paired (bK G) (fs.map SV.d) xs
 | [],xs,r=>by rw[bY.mp r];exact .nil
 | _::_,xs,r=>by
  obtain⟨y,ys,rfl,h1,h2⟩:=cC.mp r;exact .cons h1 (Dq h2)
theorem Ev.newborn {O0:Addr->Bool}{H0 H:Hp}{σ:L2.St}{vs:List V}{xd dx:Addr}(I:Ev O0 H0 σ H ρ γ)(r:aA ds (vis H (hid O0 γ)) vs)(hx:H xd=none)(hdx:H dx=none)(hne:dx≠xd) :
  Ev (hid O0 γ) (rm (upd (upd H dx (.own xd)) xd (.ins C dx [])) [(xd,.ins C [] [])]) ((V.ref xd::vs).map some) (upd (upd H dx (.own xd)) xd (.ins C dx [])) ((SV.pt xd::ds.map SV.d).map some) [(xd,.ins C [] [])]:=by
 have sg:aB H (upd (upd H dx (.own xd)) xd (.ins C dx [])):=fun b o e=>by rw[bc (bW e hx),bc (bW e hdx)];exact e
 have hO:hid O0 γ xd=false:=I.fresh hx
 have sv:aB (vis H (hid O0 γ)) (vis (upd (upd H dx (.own xd)) xd (.ins C dx [])) (hid (hid O0 γ) [(xd,.ins C [] [])])):=d8 sg fun b hb=>by
  rcases aQ.mp hb with z | z
  .exact .inl z
  .exact .inr (by rw[mem_singleton.mp z];exact hx)
 refine⟨.cons rfl (lQ (r.mono sv)),fun q hq=>?_,nodup_cons.mpr ⟨by simp,nodup_nil⟩,fun q hq=>?_,fun b o e=>(iR.mp e).2,fun b hb=>?_⟩
 .rw[mem_singleton.mp hq];exact⟨_,dC,dx,[],rfl,rfl,.nil⟩
 .rw[mem_singleton.mp hq];exact⟨hO,CZ (mem_singleton.mpr rfl)⟩
 .obtain⟨o,ho⟩:=Option.ne_none_iff_exists'.mp (I.hidLive hb);rw[iR.mpr ⟨fun z=>?_,sg _ _ ho⟩]
  .exact fun z=>nomatch z
  .rw[mem_singleton.mp z] at hb;rw[hO] at hb;cases hb
theorem nj (fa: ∀i,jr (F i).prog (F i).w (F i).K (F i).mg (F i).base nm C ps k Φ)(ha:DA F (e::es) ρ γ ds)(hΦ: ∀xd,Φ (.pt xd::ds.map .d) [(xd,.ins C [] [])] (fun s γ'=>s= .d .non/\γ'=[(xd,.ins C ns (fs.map .d))]))(hr: ∀i,aR (k+1) (F i).A)(hg: ∀i,Gl (F i) nm)
  (hdb:(nm==("__debug__":Str))=false:=by decide) (he: ∀i,starEach (e::es) (F i).env=(false,eval e (F i).env)::starEach es (F i).env:=by intro _;rfl) (hpl: ∀i,(backTo pos (starEach es (F i).env)).any (·.1)=false:=by intro _;rfl) :
  DP F (.Call (.Name nm p) (e::es) [] pos) ρ γ (.obj C ns fs):=fun O0 H0 σ H I Q k'=>SE.mk2 (t:=fun _=>mO C (spF Φ) [] E0 (SA F (e::es))) (fun i=>by
   obtain⟨f,fd,h2,h3,h4⟩:=(fa i).ex
   exact Av h2 h4 (hr i) (hg i) (fa i).at_ h3 .nil fM (SA.pa i) hdb (he i) (hpl i)) fun i=>ha I _ fun vs H1 s1 r xd dx hx hdx hne=>by
  have I1:=I.grow s1;refine⟨hid O0 γ,_,_,_,by rw[append_nil];exact I1.newborn r hx hdx hne,hΦ xd,?_⟩;rintro s γ' v H' ⟨rfl,rfl⟩ E' r';have sg:aB H1 H':=fun b o q=>E'.same _ _ (iR.mpr ⟨fun z=>(by rw[mem_singleton.mp z,hx] at q;cases q),by rw[bc (bW q hx),bc (bW q hdx)];exact q⟩);refine⟨uB.mp r',k' _ H' (s1.trans sg) ?_⟩;obtain⟨dx',xs,hH,hlen,rr⟩:=iK E' (mem_singleton.mpr rfl);refine pP.mpr ⟨xd,dx',xs,rfl,bG.mpr ⟨I1.fresh hx,hH⟩,by simpa using hlen,(uA rr).mono fun b o q=>?_⟩;obtain⟨h1,h2⟩:=bG.mp q;exact bG.mpr ⟨(gf.mp h1).1,h2⟩
theorem Qg {Pp:SV->Gm->Prop}(fa: ∀i,jr (F i).prog (F i).w (F i).K (F i).mg (F i).base nm C ps k Φ)(ha:DA F (e::es) ρ γ ds)(hΦ: ∀xd,Φ (.pt xd::ds.map .d) [(xd,.ins C [] [])] (fun s γ'=>s= .d .non/\Pp (.pt xd) (γ'++γ)))(hr: ∀i,aR (k+1) (F i).A)(hg: ∀i,Gl (F i) nm)
  (hdb:(nm==("__debug__":Str))=false:=by decide) (he: ∀i,starEach (e::es) (F i).env=(false,eval e (F i).env)::starEach es (F i).env:=by intro _;rfl) (hpl: ∀i,(backTo pos (starEach es (F i).env)).any (·.1)=false:=by intro _;rfl) :
  DG F (.Call (.Name nm p) (e::es) [] pos) ρ γ Pp:=fun O0 H0 σ H I Q k'=>SE.mk2 (t:=fun _=>mO C (spF Φ) [] E0 (SA F (e::es))) (fun i=>by
   obtain⟨f,fd,h2,h3,h4⟩:=(fa i).ex
   exact Av h2 h4 (hr i) (hg i) (fa i).at_ h3 .nil fM (SA.pa i) hdb (he i) (hpl i)) fun i=>ha I _ fun vs H1 s1 r xd dx hx hdx hne=>by
  have I1:=I.grow s1
  have sgn:aB H1 (upd (upd H1 dx (.own xd)) xd (.ins C dx [])):=fun b o e=>by rw[bc (bW e hx),bc (bW e hdx)];exact e
  have hOx:hid O0 γ xd=false:=I1.fresh hx
  -- the heap with the newborn,everything as it was
  have E0':Ev O0 H0 σ (upd (upd H1 dx (.own xd)) xd (.ins C dx [])) ρ ((xd,.ins C [] [])::γ):=by
   have:=(I1.grow (show aB H1 (upd H1 dx (.own xd)) from fB hdx)).push (a:=xd) (o:=.ins C dx []) (w:=.ins C [] []) (by rw[bc (Ne.symm hne)];exact hx) ⟨dx,[],rfl,rfl,.nil⟩;exact this
  have sv:aB (vis H1 (hid O0 γ)) (vis (upd (upd H1 dx (.own xd)) xd (.ins C dx [])) (hid O0 ((xd,.ins C [] [])::γ))):=d8 sgn fun b hb=>by
   rcases aQ.mp hb with z | z
   .exact .inl (aQ.mpr (.inl z))
   .rcases mem_cons.mp z with z | z
    .exact .inr (by rw[z];exact hx)
    .exact .inl (aQ.mpr (.inr z))
  obtain⟨E2,back⟩:=E0'.give (γu:=[(xd,.ins C [] [])]) (γf:=γ) (ss:=SV.pt xd::ds.map SV.d) (vs:=V.ref xd::vs) (List.Perm.refl _) (.cons rfl (Dq (r.mono sv)));refine⟨hid O0 γ,_,_,_,by rw[append_nil];exact E2,hΦ xd,?_⟩;rintro s γ' v H' ⟨rfl,hp⟩ E' r';obtain⟨E3,sv3,_⟩:=back _ γ' v H' E' r';exact⟨uB.mp r',k' (.pt xd) _ _ H' hp E3 ((cD s1).trans (sv.trans sv3)) rfl⟩
theorem Qh {Pp:SV->Gm->Prop}(fa: ∀i,jr (F i).prog (F i).w (F i).K (F i).mg (F i).base nm C ps k Φ)(hΦ: ∀xd,Φ [.pt xd] [(xd,.ins C [] [])] (fun s γ'=>s= .d .non/\Pp (.pt xd) (γ'++γ)))(hr: ∀i,aR (k+1) (F i).A)(hg: ∀i,Gl (F i) nm)
  (hdb:(nm==("__debug__":Str))=false:=by decide):DG F (.Call (.Name nm p) [] [] pos) ρ γ Pp:=fun O0 H0 σ H I Q k'=>SE.mk2 (t:=fun _=>mO C (spF Φ) [] E0 gF) (fun i=>by
   obtain⟨f,fd,h2,h3,h4⟩:=(fa i).ex
   exact MK h2 h4 (hr i) (hg i) (fa i).at_ h3 .nil fM hdb) fun i xd dx hx hdx hne=>by
  have sgn:aB H (upd (upd H dx (.own xd)) xd (.ins C dx [])):=fun b o e=>by rw[bc (bW e hx),bc (bW e hdx)];exact e
  have E0':Ev O0 H0 σ (upd (upd H dx (.own xd)) xd (.ins C dx [])) ρ ((xd,.ins C [] [])::γ):=(I.grow (show aB H (upd H dx (.own xd)) from fB hdx)).push (a:=xd) (o:=.ins C dx []) (w:=.ins C [] []) (by rw[bc (Ne.symm hne)];exact hx) ⟨dx,[],rfl,rfl,.nil⟩
  have sv:aB (vis H (hid O0 γ)) (vis (upd (upd H dx (.own xd)) xd (.ins C dx [])) (hid O0 ((xd,.ins C [] [])::γ))):=d8 sgn fun b hb=>by
   rcases aQ.mp hb with z | z
   .exact .inl (aQ.mpr (.inl z))
   .rcases mem_cons.mp z with z | z
    .exact .inr (by rw[z];exact hx)
    .exact .inl (aQ.mpr (.inr z))
  obtain⟨E2,back⟩:=E0'.give (γu:=[(xd,.ins C [] [])]) (γf:=γ) (ss:=[SV.pt xd]) (vs:=[V.ref xd]) (List.Perm.refl _) (.cons rfl .nil);refine⟨hid O0 γ,_,_,_,E2,hΦ xd,?_⟩;rintro s γ' v H' ⟨rfl,hp⟩ E' r';obtain⟨E3,sv3,_⟩:=back _ γ' v H' E' r';exact⟨uB.mp r',k' (.pt xd) _ _ H' hp E3 (sv.trans sv3) rfl⟩
theorem uC {α:Type}{f:Str}: ∀{ns:List Str} {xs:List α},f∉ns->(ns.zip xs).lookup f=none
 | [],_,_=>rfl
 | _::_,[],_=>rfl
 | n::ns,x::xs,h=>by
  rw[zip_cons_cons,lookup_cons];have:(f==n)=false:=beq_eq_false_iff_ne.mpr fun z=>h (by rw[z];exact mem_cons_self ..);rw[this];exact uC fun z=>h (mem_cons_of_mem _ z)
theorem Dr {Pp:SV->Gm->Prop}{mn:Str}{ad:Addr}{ss:List SV}{γu γf:Gm}{Pu:SV->Gm->Prop}{pl:Sem Bool}(fa: ∀i,MethAt (F i).prog (F i).w (F i).K (F i).mg (F i).base C mn ps k Φ)(ho:DR F o ρ γ ad)(hm:(ad,OD.ins C ns ss)∈γ)(hno:mn∉ns)
  (hp:γ.Perm (γu++γf)) (hΦ:Φ [.pt ad] γu Pu) (hP: ∀s γ',Pu s γ'->Pp s (γ'++γf)) (hr: ∀i,aR k (F i).A)
  (ht: ∀i,eval (.Call (.Attribute o mn apos) [] [] pos) (F i).env=(do
   let ov <-eval o (F i).env
   standAt apos.atName
   let (f,first) <-holding [ov] (getMethod ov mn pl)
   callWith pos f first (backTo pos (starEach [] (F i).env)) (backToKw pos (keywordEach [] (F i).env))):=by intro _;rfl):DG F (.Call (.Attribute o mn apos) [] [] pos) ρ γ Pp :=
 fun O0 H0 σ H I Q k'=>SE.mk2 (t:=fun _=>o9 C mn (spF Φ) [] E0 (SE F o) gF) (fun i=>by
   obtain⟨f,fd,h2,h3,h4⟩:=(fa i).ex
   exact Aq (SE.pe i) (fa i).cl h2 h4 (hr i) h3 .nil fM (ht i)) fun i=>ho I _ fun H1 s1=>by
  have I1:=I.grow s1;obtain⟨dx,xs,hH,hlen,rr⟩:=iK I1 hm;obtain⟨E2,back⟩:=I1.give (ss:=[SV.pt ad]) (vs:=[V.ref ad]) hp (.cons rfl .nil);refine⟨ad,dx,_,rfl,hH,uC hno,hid O0 γf,[.pt ad],γu,Pu,E2,hΦ,fun s γ' v H' z E' r'=>?_⟩;obtain⟨E3,sv3,r3⟩:=back s γ' v H' E' r';exact k' s _ v H' (hP s γ' z) E3 ((cD s1).trans sv3) r3
theorem Qi {mn:Str}{ad:Addr}{pl:Sem Bool}(fa: ∀i,MethAt (F i).prog (F i).w (F i).K (F i).mg (F i).base C mn ps k Φ)(ho:DR F o ρ γ ad)(hm:(ad,OD.ins C ns (fs.map SV.d))∈γ)(hno:mn∉ns)
  (hy:Flat y) (hΦ:Φ [.d (.obj C ns fs)] [] (fun s γ'=>s= .d y/\γ'=[])) (hr: ∀i,aR k (F i).A)
  (ht: ∀i,eval (.Call (.Attribute o mn apos) [] [] pos) (F i).env=(do
   let ov <-eval o (F i).env
   standAt apos.atName
   let (f,first) <-holding [ov] (getMethod ov mn pl)
   callWith pos f first (backTo pos (starEach [] (F i).env)) (backToKw pos (keywordEach [] (F i).env))):=by intro _;rfl):DP F (.Call (.Attribute o mn apos) [] [] pos) ρ γ y :=
 fun O0 H0 σ H I Q k'=>SE.mk2 (t:=fun _=>o9 C mn (spF Φ) [] E0 (SE F o) gF) (fun i=>by
   obtain⟨f,fd,h2,h3,h4⟩:=(fa i).ex
   exact Aq (SE.pe i) (fa i).cl h2 h4 (hr i) h3 .nil fM (ht i)) fun i=>ho I _ fun H1 s1=>by
  have I1:=I.grow s1;obtain⟨dx,xs,hH,hlen,rr⟩:=iK I1 hm;have r:aA [.obj C ns fs] (vis H1 (fC O0 γ [ad])) [.ref ad]:=aA.one (pP.mpr ⟨ad,dx,xs,rfl,bG.mpr ⟨uz (mem_singleton.mpr rfl),hH⟩,by simpa using hlen,(uA rr).mono m7⟩);refine⟨ad,dx,_,rfl,hH,uC hno,fC O0 γ [ad],[.d (.obj C ns fs)],[],_,I1.lend r,hΦ,?_⟩;rintro s γ' v H' ⟨rfl,rfl⟩ E' r'
  have sm:aB H1 H':=by
   have:=E'.same
   rwa [cY] at this
  exact k' v H' (s1.trans sm) (hy.rep r')
theorem Qj {T:Addr}{xs:List V}{n:Int}{f:Addr}{Pp:SV->Gm->Prop}(hg: ∀i,Gl (F i) nm)(hm: ∀i,(F i).mg nm=some (.ref T))(hT: ∀i H,SqT (F i).K H T xs)(hb:DG F b ρ γ (fun s γ'=>s= .d (.int n)/\Pp (.pt f) γ'))(h0:0<=n)(hx:xs[n.toNat]?=some (.ref f))
  (hd:(nm==("__debug__":Str))=false:=by decide) (hs:fL b:=by intro _ _;rfl):DG F (.Subscript (.Name nm p) b pos) ρ γ Pp :=
 fun O0 H0 σ H I Q k'=>SE.mk2 (t:=fun i=>tOp (sV (F i).K) (tC (.ref T)) (SE F b)) (fun i=>mQ Bg (zQ (hg i) (hm i) rfl hd) (SE.pe i) hs) fun i=>hb I _ fun s γ' v H1 hP E1 sv r=>by
  obtain⟨rfl,hP⟩:=hP;exact⟨T,xs,n,.ref f,rfl,m6.mp r,hT i H1,qd h0 hx,k' (.pt f) γ' _ H1 hP E1 sv rfl⟩
structure uD (Pg:Program) (w:World) (K:Frag) (mg:Str->Option Value) (base:Heap) (f:Addr) (ps:List Str) (k:Nat) (Φ:Fsp):Prop where
 kp:keepIn K (.ref f)=true
 ex: ∃ (fd:FuncData),Binds K fd ps []/\au Pg w K mg base CX0 k f fd ps (spF Φ)
theorem Qk {j:Nat}{f:Addr}{Pp:SV->Gm->Prop}(hv:ρ[j]?=some (some (.pt f)))(hN: ∀i,(F i).N[j]?=some nm)(hvis: ∀i,Vis (F i).env.scope nm)(fa: ∀i,uD (F i).prog (F i).w (F i).K (F i).mg (F i).base f ps k Φ)
  (ha:DAG F (e::es) ρ γ (fun ss γ1=> ∃γu γf Pu,γ1.Perm (γu++γf)/\Φ ss γu Pu/\ ∀s γ',Pu s γ'->Pp s (γ'++γf))) (hr: ∀i,aR k (F i).A)
  (hdb:(nm==("__debug__":Str))=false:=by decide) (hcd:(nm==("__classdict__":Str))=false:=by decide) (he: ∀i,starEach (e::es) (F i).env=(false,eval e (F i).env)::starEach es (F i).env:=by intro _;rfl) (hpl: ∀i,(backTo pos (starEach es (F i).env)).any (·.1)=false:=by intro _;rfl) :
  DG F (.Call (.Name nm p) (e::es) [] pos) ρ γ Pp:=fun O0 H0 σ H I Q k'=>by
 unfold SE;intro i pins s Iv;obtain⟨v,hσ,rv⟩:=I.slot hv;have ev:v= .ref f:=rv;subst ev;refine wpAny_Call_Name_kw (thn (rZ (hN i) (hvis i) hdb hcd pins s σ H (fun v H'=>v= .ref f/\H'=H) Iv ⟨_,hσ,rfl,rfl⟩) fun u s0 ⟨x0,H00,I0,rx,hx0,hH0⟩=>?_);subst hx0 hH0;obtain rfl:u=Value.ref f:=rx;obtain⟨fd,h3,h4⟩:=(fa i).ex;refine callWith_K (h₀:=(F i).base) I0.ok.mod.kin (fa i).kp (thn (SA.pa (es:=e::es) i pos pins s0 σ H00 _ I0 (ha I (fun vs H1=>spF Φ (vs++[]) H1 Q E0) fun ss γ1 vs H1 hP E1 s1 r=>?_)) fun us s1 ⟨vs,H1,I1,r,q⟩=>⟨I1.kIn,?_⟩) (he i) (hpl i)
 .obtain⟨γu,γf,Pu,hp,hΦ,hq⟩:=hP;obtain⟨E2,back⟩:=E1.give hp r;refine⟨hid O0 γf,ss,γu,Pu,by rw[append_nil];exact E2,hΦ,fun s γ' v H' z E' r'=>?_⟩;obtain⟨E3,sv,rs⟩:=back s γ' v H' E' r';exact k' s _ v H' (hq s γ' z) E3 (s1.trans sv) rs
 .exact ph h4 (hr i) h3 .nil fM I1 r q
theorem Ev.give_up {O0:Addr->Bool}{H0 H:Hp}{σ:L2.St}{ad:Addr}{γ':Gm}(I:Ev O0 H0 σ H ρ γ)(hp:γ.Perm ((ad,.lst l)::γ')):Rep (.lst l) (vis H (hid O0 γ')) (.ref ad)/\Ev O0 H0 σ H ρ γ':=by
 have hm:(ad,OD.lst l)∈γ:=hp.mem_iff.mpr (mem_cons_self ..);have nd:(((ad,OD.lst l)::γ').map (·.1)).Nodup:=(hp.map (·.1)).nodup_iff.mp I.nd;rw[map_cons,nodup_cons] at nd
 have s:aB (vis H (hid O0 γ)) (vis H (hid O0 γ')):=d8 (aB.refl H) fun b hb=>by
  rcases aQ.mp hb with z | z
  .exact .inl (aQ.mpr (.inl z))
  .exact .inl (aQ.mpr (.inr ((hp.map (·.1)).mem_iff.mpr (mem_cons_of_mem _ z))))
 obtain⟨o,e,xs,rfl,z,r⟩:=I.own _ hm;refine⟨jm.mpr ⟨ad,xs,rfl,bG.mpr ⟨gf.mpr ⟨(I.young _ hm).1,nd.1⟩,e⟩,z,r.mono s⟩,?_⟩;exact⟨jU (fun _ _ q=>fj.mono s q) I.slots,fun q hq=>(I.own q (hp.mem_iff.mpr (mem_cons_of_mem _ hq))).elim fun u z=>⟨u,z.1,gb.mono s z.2⟩,nd.2,fun q hq=>I.young q (hp.mem_iff.mpr (mem_cons_of_mem _ hq)),I.same,I.live⟩
theorem j5 {t:TS}{ad:Addr}{γ':Gm}(hr:ρ[k]?=some (some (.pt ad)))(hp:γ.Perm ((ad,.lst l)::γ'))(h:YS t (ρ.set k (some (.d (.lst l)))) γ' P):YS t ρ γ P:=fun O0 H0 σ H I Dn kn kr kb kc=>by
 obtain⟨rp,E⟩:=I.give_up hp;obtain⟨v,hv,rv⟩:=I.slot hr;have ev:v= .ref ad:=rv;subst ev
 have:σ.set k (some (V.ref ad))=σ:=by
  apply ext_getElem?;intro i
  by_cases h:k=i
  .subst h;rw[List.getElem?_set_self (List.getElem?_eq_some_iff.mp hv).1,hv]
  .rw[List.getElem?_set_ne h]
 have E2:=E.set (s:=.d (.lst l)) (v:=.ref ad) k rp;rw[this] at E2;exact h E2 Dn kn kr kb kc
end
end DL
end
section
namespace SetS
open PySem
def eN (xs:Array Nat):Prop:=xs.toList.Pairwise (· < ·)
theorem eN.get {xs:Array Nat}(h:eN xs){i j a b:Nat}(hi:xs[i]?=some a)(hj:xs[j]?=some b)(hij:i < j):a < b:=by
 rw[<-Array.getElem?_toList] at hi hj;obtain⟨li,rfl⟩:=List.getElem?_eq_some_iff.mp hi;obtain⟨lj,rfl⟩:=List.getElem?_eq_some_iff.mp hj;exact List.pairwise_iff_getElem.mp h i j li lj hij
theorem qp {xs:Array Nat}(h:eN xs)(j:Nat): ∀ (fuel lo hi:Nat),hi<=xs.size->lo<=hi->hi - lo<=fuel->(∀k a,k < lo->xs[k]?=some a->a < j)->(∀k a,hi<=k->xs[k]?=some a->j<=a) ->
  (∀k a,k < SetTable.below.go xs j fuel lo hi->xs[k]?=some a->a < j)/\ ∀k a,SetTable.below.go xs j fuel lo hi<=k->xs[k]?=some a->j<=a
 | 0,lo,hi,h1,h2,h3,h4,h5=>by
  have e:lo=hi:=by omega
  subst e;exact⟨h4,h5⟩
 | fuel+1,lo,hi,h1,h2,h3,h4,h5=>by
  show (∀k a,k < (if lo < hi then (if xs.getD ((lo+hi) / 2) j < j then SetTable.below.go xs j fuel ((lo+hi) / 2+1) hi else SetTable.below.go xs j fuel lo ((lo+hi) / 2)) else lo)->xs[k]?=some a->a < j)/\ ∀k a,(if lo < hi then (if xs.getD ((lo+hi) / 2) j < j then SetTable.below.go xs j fuel ((lo+hi) / 2+1) hi else SetTable.below.go xs j fuel lo ((lo+hi) / 2)) else lo)<=k->xs[k]?=some a->j<=a
  by_cases hlt:lo < hi
  .rw[if_pos hlt]
   have hm:(lo+hi) / 2 < xs.size:=by omega
   have hg:xs[(lo+hi) / 2]?=some xs[(lo+hi) / 2]:=Array.getElem?_eq_getElem hm
   have hd:xs.getD ((lo+hi) / 2) j=xs[(lo+hi) / 2]:=by
    rw[Array.getD_eq_getD_getElem?,hg];rfl
   rw[hd]
   by_cases hc:xs[(lo+hi) / 2] < j
   .rw[if_pos hc];refine qp h j fuel _ hi h1 (by omega) (by omega) (fun k a hk hka=>?_) h5
    by_cases hkm:k=(lo+hi) / 2
    .subst hkm;rw[hg] at hka;cases hka;exact hc
    .have:=h.get hka hg (by omega);omega
   .rw[if_neg hc];refine qp h j fuel lo _ (by omega) (by omega) (by omega) h4 (fun k a hk hka=>?_)
    by_cases hkm:k=(lo+hi) / 2
    .subst hkm;rw[hg] at hka;cases hka;omega
    .have:=h.get hg hka (by omega);omega
  .rw[if_neg hlt]
   have e:lo=hi:=by omega
   subst e;exact⟨h4,h5⟩
theorem Ds {xs:Array Nat}(h:eN xs){j k a:Nat}(hk:k < SetTable.below xs j)(ha:xs[k]?=some a):a < j :=
 (qp h j xs.size 0 xs.size (Nat.le_refl _) (Nat.zero_le _) (by omega) (fun k a hk=>by omega) (fun k a hk hka=>by rw[Array.getElem?_eq_none hk] at hka;cases hka)).1 k a hk ha
theorem uE {xs:Array Nat}(h:eN xs){j k a:Nat}(hk:SetTable.below xs j<=k)(ha:xs[k]?=some a):j<=a :=
 (qp h j xs.size 0 xs.size (Nat.le_refl _) (Nat.zero_le _) (by omega) (fun k a hk=>by omega) (fun k a hk hka=>by rw[Array.getElem?_eq_none hk] at hka;cases hka)).2 k a hk ha
theorem Ql {xs:Array Nat}(h:eN xs)(j:Nat):SetTable.below xs j<=xs.size:=by
 have key: ∀ (fuel lo hi:Nat),lo<=hi->hi<=xs.size->SetTable.below.go xs j fuel lo hi<=xs.size:=by
  intro fuel
  induction fuel with
  | zero=>intro lo hi h1 h2;show lo<=_;omega
  | succ fuel ih =>
   intro lo hi h1 h2;show (if lo < hi then (if xs.getD ((lo+hi) / 2) j < j then SetTable.below.go xs j fuel ((lo+hi) / 2+1) hi else SetTable.below.go xs j fuel lo ((lo+hi) / 2)) else lo)<=_;split
   .split
    .exact ih _ _ (by omega) h2
    .exact ih _ _ (by omega) (by omega)
   .omega
 exact key _ _ _ (Nat.zero_le _) (Nat.le_refl _)
theorem eN.insert {xs:Array Nat}(h:eN xs){j:Nat}(hno:xs[SetTable.below xs j]?≠some j):eN (SetTable.insertAt xs (SetTable.below xs j) j):=by
 unfold eN;rw[show (SetTable.insertAt xs (SetTable.below xs j) j).toList=xs.toList.take (SetTable.below xs j)++j::xs.toList.drop (SetTable.below xs j) by simp [SetTable.insertAt,List.extract_eq_take_drop,List.take_of_length_le]]
 have hlo: ∀a∈xs.toList.take (SetTable.below xs j),a < j:=fun a ha=>by
  obtain⟨k,hk⟩:=List.getElem?_of_mem ha;rw[List.getElem?_take] at hk;split at hk
  .rename_i hkb
   exact Ds h hkb (by rw[<-Array.getElem?_toList];exact hk)
  .cases hk
 have hhi: ∀a∈xs.toList.drop (SetTable.below xs j),j < a:=fun a ha=>by
  obtain⟨k,hk⟩:=List.getElem?_of_mem ha;rw[List.getElem?_drop] at hk
  have hk':xs[SetTable.below xs j+k]?=some a:=by rw[<-Array.getElem?_toList];exact hk
  have h1:=uE h (Nat.le_add_right _ k) hk'
  by_cases e:a=j
  .subst e
   cases k with
   | zero=>exact absurd hk' hno
   | succ k =>
    have hlt:SetTable.below xs a < xs.size:=by
     have:=(Array.getElem?_eq_some_iff.mp hk').1;omega
    have h2:=uE h (Nat.le_refl _) (Array.getElem?_eq_getElem hlt);have h3:=h.get (Array.getElem?_eq_getElem hlt) hk' (by omega);omega
  .omega
 have hp:(xs.toList.take (SetTable.below xs j)++xs.toList.drop (SetTable.below xs j)).Pairwise (· < ·):=by rw[take_append_drop];exact h
 rw[pairwise_append] at hp;rw[pairwise_append];refine⟨hp.1,pairwise_cons.mpr ⟨hhi,hp.2.1⟩,fun a ha b hb=>?_⟩;rcases mem_cons.mp hb with e | hb
 .rw[e];exact hlo a ha
 .exact hp.2.2 a ha b hb
def j6 (t:SetTable):Prop:=t.plain=true->eN t.place
theorem uF (t:SetTable)(hs:Nat->Int)(h:Int): ∀ (fuel:Nat) (p:SetTable.Probe) (j:Nat) (d:Option Nat),(∀k,p.dummy=some k->t.place[SetTable.below t.place k]?≠some k)->SetTable.probe.go t hs h fuel p=some (.empty j d)->t.place[SetTable.below t.place (d.getD j)]?≠some (d.getD j)
 | 0,p,j,d,_,e=>by cases e
 | fuel+1,p,j,d,hp,e=>by
  have e':(match t.slot p.j with | .empty=>some (SetTable.Met.empty p.j p.dummy) | .dummy=>SetTable.probe.go t hs h fuel (t.advance { p with dummy:=some p.j }) | .live i=>if hs i==h then some (SetTable.Met.candidate p.j i (t.advance p)) else SetTable.probe.go t hs h fuel (t.advance p))=some (.empty j d):=e
  have hadv: ∀q:SetTable.Probe,(t.advance q).dummy=q.dummy:=fun q=>by
   unfold SetTable.advance
   split<;>rfl
  have hnl: ∀k,(∀i,t.slot k≠.live i)->t.place[SetTable.below t.place k]?≠some k:=fun k hk z=>by
   refine hk (SetTable.below t.place k) ?_;unfold SetTable.slot;simp only[z];rw[if_pos (by simp)]
  cases hsl:t.slot p.j with
  | empty =>
   rw[hsl] at e';injection e' with e';injection e' with e1 e2;subst e1 e2
   cases hd:p.dummy with
   | none =>
    show t.place[SetTable.below t.place p.j]?≠some p.j
    exact hnl p.j fun i z=>by rw[hsl] at z;cases z
   | some k=>exact hp k hd
  | dummy =>
   rw[hsl] at e';refine uF t hs h fuel _ j d (fun k hk=>?_) e';rw[hadv] at hk;injection hk with hk;subst hk
   exact hnl p.j fun i z=>by rw[hsl] at z;cases z
  | live i =>
   rw[hsl] at e';simp only at e';split at e'
   .injection e' with e';cases e'
   .exact uF t hs h fuel _ j d (fun k hk=>hp k (by rw[hadv] at hk;exact hk)) e'
theorem Qm {t:SetTable}{h:Int}{slot:Nat}{wd:Bool}(e:t.freeSlot h=some (slot,wd)):t.place[SetTable.below t.place slot]?≠some slot:=by
 unfold SetTable.freeSlot at e;split at e
 .rename_i j d hp
  injection e with e;injection e with e1 e2;subst e1;exact uF t _ h _ _ j d (fun k hk=>by unfold SetTable.probeStart at hk;cases hk) hp
 .cases e
theorem qt (t:SetTable)(n:Nat):j6 (t.standIn n):=fun h=>by cases h
theorem Dt {t:SetTable}(ht:j6 t)(es:Array (Int×Value))(h:Int)(x:Value):j6 (layNew t es h x).2.1/\(layNew t es h x).2.1.led=t.led:=by
 unfold layNew;split
 .rename_i slot wd e
  have hput:j6 (t.put slot).1:=fun hp=>(ht hp).insert (Qm e);show j6 ((t.put slot).1.orStandIn _)/\((t.put slot).1.orStandIn _).led=t.led;unfold SetTable.orStandIn;split
  .exact⟨hput,rfl⟩
  .exact⟨qt _ _,rfl⟩
 .exact⟨qt _ _,rfl⟩
theorem Du (f:Nat->Option Nat): ∀ (l:List Nat),l.Pairwise (· < ·)->((l.filterMap fun j=>(f j).map (j,·)).map (·.1)).Pairwise (· < ·)
 | [],_=>List.Pairwise.nil
 | a::l,h=>by
  obtain⟨h1,h2⟩:=pairwise_cons.mp h;have ih:=Du f l h2
  cases e:f a with
  | none=>rw[filterMap_cons_none (by rw[e];rfl)];exact ih
  | some b =>
   rw[filterMap_cons_some (b:=(a,b)) (by rw[e];rfl),map_cons];refine pairwise_cons.mpr ⟨fun c hc=>?_,ih⟩;obtain⟨q,hq,rfl⟩:=mem_map.mp hc;obtain⟨j,hj,ej⟩:=mem_filterMap.mp hq
   cases ef:f j with
   | none=>rw[ef] at ej;cases ej
   | some v =>
    rw[ef] at ej;cases ej;exact h1 j hj
theorem Dv {t:SetTable}(es:Array (Int×Value))(wanted:Nat):j6 (relayAll t es wanted).2.1/\(relayAll t es wanted).2.1.led=t.led:=by
 unfold relayAll;split
 .rename_i t' order e
  dsimp only;split
  .unfold SetTable.relaid SetTable.laid at e
   cases hl:SetTable.layClean (SetTable.sizeAbove wanted - 1) (es.map (·.1)) with
   | none=>rw[hl] at e;cases e
   | some owner =>
    rw[hl] at e;injection e with e;injection e with e1 e2;subst e1;refine⟨fun _=>?_,rfl⟩;unfold eN;simp only;exact Du _ _ List.pairwise_lt_range
  .exact⟨qt _ _,rfl⟩
 .exact⟨qt _ _,rfl⟩
theorem uG {α:Type}: ∀ (l:List α) (i:Nat) (h:i < l.length),(l[i]::l.eraseIdx i).Perm l
 | a::l,0,_=>List.Perm.refl _
 | a::l,i+1,h=>(List.Perm.swap a _ _).trans ((uG l i (by simpa using h)).cons a)
theorem Dy {α:Type}(next:Nat->Nat): ∀ (fuel k:Nat) (left:List α) (out:Array α),fuel=left.length->List.Perm (pickOrder.go next fuel k left out).toList (out.toList++left)
 | 0,k,left,out,h=>by
  have e:left=[]:=List.eq_nil_of_length_eq_zero h.symm;subst e;rw[append_nil];exact List.Perm.refl _
 | fuel+1,k,left,out,h=>by
  have hlt:next k % left.length < left.length:=Nat.mod_lt _ (by omega)
  show List.Perm (match left[next k % left.length]? with | some x=>pickOrder.go next fuel (k+1) (left.eraseIdx (next k % left.length)) (out.push x) | none=>out).toList _;rw[List.getElem?_eq_getElem hlt];simp only;refine (Dy next fuel (k+1) _ _ (by rw[length_eraseIdx_of_lt hlt];omega)).trans ?_;rw[Array.toList_push,List.append_assoc];refine List.Perm.append_left _ ?_;rw[List.singleton_append];exact uG left _ hlt
theorem Qn {α:Type}(next:Nat->Nat)(xs:Array α):List.Perm (pickOrder next xs).toList xs.toList:=by
 have:=Dy next xs.size 0 xs.toList #[] (by simp)
 simpa [pickOrder] using this
end SetS
end
section
namespace SetS
open PySem
def kOf:Value->Int
 | .int k _=>k
 | _=>0
def qu (es:Array (Int×Value)) (t:SetTable) (k:Int) (tk:Tok):Array (Int×Value)×SetTable :=
 let L:=layNew t es (hashInt k) (.int k tk)
 if (!L.2.2.1&&L.2.1.tooFull)=true then ((relayAll L.2.1 L.1 (SetTable.grown L.1.size)).1,(relayAll L.2.1 L.1 (SetTable.grown L.1.size)).2.1) else (L.1,L.2.1)
structure Tab (led:Bool) (es:Array (Int×Value)) (t:SetTable) (ks:List Int):Prop where
 item: ∀e∈es.toList,∃k tk,e=(hashInt k,Value.int k tk)
 keys:(es.toList.map fun e=>kOf e.2).Perm ks
 nd:ks.Nodup
 fit:t.fits es.size=true
 rise:j6 t
 led:t.led=led
theorem Tab.size {led:Bool}{es:Array (Int×Value)}{t:SetTable}{ks:List Int}(x:Tab led es t ks):es.size=ks.length:=by
 rw[<-x.keys.length_eq,length_map,Array.length_toList]
theorem Qo (led:Bool):Tab led #[] (.fresh 0 0 led) []:=⟨fun e h=>by simp at h,List.Perm.refl _,nodup_nil,rfl,fun _=>List.Pairwise.nil,rfl⟩
theorem Tab.add {led:Bool}{es:Array (Int×Value)}{t:SetTable}{ks:List Int}(x:Tab led es t ks){k:Int}(new:k∉ks)(tk:Tok):Tab led (qu es t k tk).1 (qu es t k tk).2 (ks++[k]):=by
 have p1:(layNew t es (hashInt k) (.int k tk)).1.toList.Perm (es.toList++[(hashInt k,.int k tk)]):=by
  have:=layNew_perm t es (hashInt k) (.int k tk)
  rwa [Array.toList_push] at this
 have mid:Tab led (layNew t es (hashInt k) (.int k tk)).1 (layNew t es (hashInt k) (.int k tk)).2.1 (ks++[k]):=by
  refine⟨fun e he=>?_,?_,?_,layNew_fits ..,(Dt x.rise es _ _).1,(Dt x.rise es _ _).2.trans x.led⟩
  .rcases mem_append.mp (p1.mem_iff.mp he) with q | q
   .exact x.item e q
   .exact⟨k,tk,mem_singleton.mp q⟩
  .refine (p1.map _).trans ?_;rw[map_append];exact x.keys.append_right _
  .exact nodup_append.mpr ⟨x.nd,nodup_cons.mpr ⟨not_mem_nil,nodup_nil⟩,fun a ha b hb e=>new (by rw[<-mem_singleton.mp hb,<-e];exact ha)⟩
 unfold qu;simp only;split
 .have p2:=relayAll_perm (layNew t es (hashInt k) (.int k tk)).2.1 (layNew t es (hashInt k) (.int k tk)).1 (SetTable.grown (layNew t es (hashInt k) (.int k tk)).1.size);exact⟨fun e he=>mid.item e (p2.mem_iff.mp he),(p2.map _).trans mid.keys,mid.nd,relayAll_fits ..,(Dv _ _).1,(Dv _ _).2.trans mid.led⟩
 .exact mid
def SetAt (led:Bool) (h:Heap) (a:Addr) (ks:List Int):Prop:= ∃o es ep t,h.get? a=some o/\o.ExactSet/\o.data= .set es ep t/\Tab led es t ks
section
variable {prog:Program}{w:World}{A:Around}{E:Value->Shared->Prop}{s:Shared}
theorem Tab.elems {led:Bool}{es:Array (Int×Value)}{t:SetTable}{ks:List Int}(x:Tab led es t ks):ElemsOf (intKind prog w) es.toList:=fun e he=>by
 obtain⟨k,tk,rfl⟩:=x.item e he;exact⟨⟨k,intKind_is _ _ _ _,rfl⟩,rfl⟩
theorem Tab.met {led:Bool}{es:Array (Int×Value)}{t:SetTable}{ks:List Int}(x:Tab led es t ks)(k:Int):(es.toList.findIdx? fun e=>(intKind prog w).is k e.2).isSome=decide (k∈ks):=by
 have iff:(∃e∈es.toList,(intKind prog w).is k e.2=true)↔k∈ks:=by
  rw[<-x.keys.mem_iff,mem_map];refine⟨fun ⟨e,h1,h2⟩=>⟨e,h1,?_⟩,fun ⟨e,h1,h2⟩=>⟨e,h1,?_⟩⟩
  .obtain⟨tk,q⟩:=Value.isInt_shape (k:=k) (v:=e.2) h2;rw[q];rfl
  .obtain⟨j,tk,rfl⟩:=x.item e h1;have:j=k:=h2;subst this;exact intKind_is _ _ _ _
 rw[Bool.eq_iff_iff,decide_eq_true_eq,<-iff,List.findIdx?_isSome,any_eq_true]
theorem Dz {h:Heap}{a:Addr}{o:Obj}{es es2:Array (Int×Value)}{ep:Nat}{t t2:SetTable}(g:h.get? a=some o)(d:o.data= .set es ep t):(h.update a (Obj.putSet es2 t2)).get? a=some { o with data:=.set es2 (ep+1) t2 }:=by
 have q:=Heap.get?_update_self (Obj.putSet es2 t2) g (by rw[putSet_of es2 t2 d];rfl)
 rwa [putSet_of es2 t2 d] at q
theorem stored {mark:Bool->Sem Unit}(quiet: ∀ (b:Bool) (s1:Shared) (R:Unit->Shared->Prop),R () s1->wpAny (model prog w) A (mark b) R E s1){a:Addr}{ks:List Int}{led:Bool}{o:Obj}{es e1:Array (Int×Value)}{ep:Nat}{t t1:SetTable}{wd:Bool}{R:Option Bool->Shared->Prop}
  (got:s.heap.get? a=some o) (ex:o.ExactSet) (data:o.data= .set es ep t) (few:e1.size<=sizeLine)
  (tab:Tab led (if (!wd&&t1.tooFull)=true then ((relayAll t1 e1 (SetTable.grown e1.size)).1,(relayAll t1 e1 (SetTable.grown e1.size)).2.1) else (e1,t1)).1 (if (!wd&&t1.tooFull)=true then ((relayAll t1 e1 (SetTable.grown e1.size)).1,(relayAll t1 e1 (SetTable.grown e1.size)).2.1) else (e1,t1)).2 ks)
  (fin: ∀h',Heap.SameBut a s.heap h'->SetAt led h' a ks->R (some true) { s with heap:=h' }) :
  wpAny (model prog w) A (do
   storeSet a e1 t1
   if (!wd&&t1.tooFull)=true then do
    mark (relayAll t1 e1 (SetTable.grown e1.size)).2.2
    storeSet a (relayAll t1 e1 (SetTable.grown e1.size)).1 (relayAll t1 e1 (SetTable.grown e1.size)).2.1
    pure (some true)
   else (pure (some true):Sem (Option Bool))) R E s:=by
 have g1:=Dz (es2:=e1) (t2:=t1) got data;refine wpAny_bind (wpAny_storeSet_of got data ?_ few)
 by_cases full:(!wd&&t1.tooFull)=true
 .rw[if_pos full] at tab ⊢
  have few2:(relayAll t1 e1 (SetTable.grown e1.size)).1.size<=sizeLine:=by
   have p:=(relayAll_perm t1 e1 (SetTable.grown e1.size)).length_eq;rw[Array.length_toList,Array.length_toList] at p;omega
  exact wpAny_bind (quiet _ _ _ (wpAny_bind (wpAny_storeSet_of g1 rfl (wpAny_pure (fin _ ((Heap.SameBut.update ..).trans (Heap.SameBut.update ..)) ⟨_,_,_,_,Dz g1 rfl,ex,rfl,tab⟩)) few2)))
 .rw[if_neg full] at tab ⊢;exact wpAny_pure (fin _ (Heap.SameBut.update ..) ⟨_,_,_,_,g1,ex,rfl,tab⟩)
theorem add_int {a:Addr}{ks:List Int}{k:Int}{tk:Tok}{led:Bool}{Q:Bool->Shared->Prop}(at_:SetAt led s.heap a ks)(room:ks.length+1 < scanBound)
  (there:k∈ks->Q false s) (new:k∉ks-> ∀h',Heap.SameBut a s.heap h'->SetAt led h' a (ks++[k])->Q true { s with heap:=h' }):wpAny (model prog w) A (setAddHashed a (.int k tk) (hashInt k)) Q E s:=by
 obtain⟨o,es,ep,t,got,ex,data,tab⟩:=at_
 have few:es.size < scanBound:=by rw[tab.size];omega
 have met:=tab.met (prog:=prog) (w:=w) k;unfold setAddHashed;refine wpAny_holding ?_;unfold setAddHashedIn;refine wpAny_bind (wpAny_setState_of got data tab.fit ?_);simp only;rw[if_pos (byScan_of (x:=.int k tk) rfl few (tab.elems (prog:=prog) (w:=w)))];unfold setAddByScan;refine wpAny_bind (wpAny_bind (wpAny_rule (wpAny_bind (wpAny_setScan_of (knd:=intKind prog w) (k:=k) (intKind_is _ _ _ _) got data tab.fit tab.elems ?_))))
 cases seen:es.toList.findIdx? fun e=>(intKind prog w).is k e.2 with
 | some j =>
  rw[seen] at met;exact wpAny_pure (wpAny_pure (there (of_decide_eq_true met.symm)))
 | none =>
  rw[seen] at met;have out:k∉ks:=of_decide_eq_false met.symm;have big:=tab.add out tk
  have few1:(layNew t es (hashInt k) (.int k tk)).1.size<=sizeLine:=fits_of_scanBound (by
   have p:=(layNew_perm t es (hashInt k) (.int k tk)).length_eq;rw[Array.length_toList,Array.length_toList,Array.size_push,tab.size] at p
   omega)
  unfold qu at big;simp only at big ⊢;generalize layNew t es (hashInt k) (.int k tk)=L at few1 big ⊢;obtain⟨e1,t1,wd,gave⟩:=L;simp only at few1 big ⊢;refine wpAny_bind ?_
  have marks: ∀ (b:Bool) (s1:Shared) (R:Unit->Shared->Prop),R () s1->wpAny (model prog w) A (match b with | true=>rule "set.scan.the-table-gave-way" | false=>pure ()) R E s1:=fun b s1 R r=>by
   cases b with
   | true=>exact wpAny_rule r
   | false=>exact wpAny_pure r
  refine marks gave s _ ?_;split
  .refine wpAny_bind ?_;rw[hashByValue_scannable 8 (x:=.int k tk) rfl];exact wpAny_pure (stored marks got ex data few1 big fun h' sb at2=>wpAny_pure (new out h' sb at2))
  .exact wpAny_bind (wpAny_pure (stored marks got ex data few1 big fun h' sb at2=>wpAny_pure (new out h' sb at2)))
end
end SetS
end
section
namespace SetS
open PySem
def comes:List Int->List Int->List Int
 | acc,[]=>acc
 | acc,k::r=>comes (if k∈acc then acc else acc++[k]) r
theorem comes_mem: ∀{l acc:List Int} {k:Int},k∈comes acc l↔k∈acc\/k∈l
 | [],acc,k=>by show k∈acc↔_;simp
 | j::r,acc,k=>by
  show k∈comes (if j∈acc then acc else acc++[j]) r↔_;rw[comes_mem,mem_cons];split
  .rename_i h
   exact⟨fun q=>q.elim .inl fun q=>.inr (.inr q),fun q=>q.elim .inl fun q=>q.elim (fun e=>.inl (by rw[e];exact h)) .inr⟩
  .rw[mem_append,mem_singleton,or_assoc]
theorem comes_nodup: ∀{l acc:List Int},acc.Nodup->(comes acc l).Nodup
 | [],_,h=>h
 | j::r,acc,h=>by
  refine comes_nodup (l:=r) ?_;split
  .exact h
  .rename_i n
   exact nodup_append.mpr ⟨h,nodup_cons.mpr ⟨not_mem_nil,nodup_nil⟩,fun a ha b hb e=>n (by rw[<-mem_singleton.mp hb,<-e];exact ha)⟩
theorem comes_len: ∀{l acc:List Int},(comes acc l).length<=acc.length+l.length
 | [],acc=>Nat.le_refl _
 | j::r,acc=>by
  refine Nat.le_trans (comes_len (l:=r)) ?_;rw[length_cons];split
  .omega
  .show (acc++[j]).length+r.length<=_;rw[length_append];exact Nat.le_of_eq (by rw[length_singleton];omega)
section
variable {prog:Program}{w:World}{A:Around}{E:Value->Shared->Prop}{s:Shared}
theorem SetAt.keep {led:Bool}{h h':Heap}{a:Addr}{ks:List Int}(x:SetAt led h a ks)(k: ∀o,h.get? a=some o->h'.get? a=some o):SetAt led h' a ks:=by
 obtain⟨o,es,ep,t,g,r⟩:=x;exact⟨o,es,ep,t,k o g,r⟩
theorem enters {id:String}{Bi:Builtin}{args:Args}{R:Result->Shared->Prop}(known:entryFor table id=some Bi)(plain:plainId id=true)
  (h:wpAny (model prog w) A.in1 (Bi args) (fun fin s'=>match fin with | .done f=>R (.ok f) s' | .again c=>c.quiet=true/\codeAny (model prog w) A c R s') (fun e s'=>R (.error e) s') s):codeAny (model prog w) A (.builtin id args) R s :=
 codeAny_builtin known ((Around.under_plainId (A:=A) plain args).symm ▸ h)
theorem fills {led:Bool}{S I l:Addr}{items:Array Value}{ns:List Int}(hh:A.handled=none)(hSI:S≠I)(hSl:S≠l)(hIl:I≠l)(hlen:ns.length=items.size)(hint: ∀ (i:Nat) (v:Value),items[i]?=some v-> ∃k t,ns[i]?=some k/\v= .int k t)(hroom:items.size+1 < scanBound){R:Result->Shared->Prop} :
  ∀ (m i:Nat) (s:Shared) (acc:List Int),items.size - i=m->i<=items.size->acc.length<=i->s.heap.IsListIter I l i->s.heap.IsList l items->SetAt led s.heap S acc ->
   (∀h' tk,(∀b o,b≠S->b≠I->s.heap.get? b=some o->h'.get? b=some o)->SetAt led h' S (comes acc (ns.drop i))->R (.ok (.ret .none)) { s with heap:=h',toks:=tk }) ->
   (codeAny (model prog w) A (.builtin "set.update.loop" ⟨[.ref S,.ref I],[]⟩) R s):=by
 intro m
 induction m with
 | zero =>
  intro i s acc hm hi ha it li at_ fin
  have e:i=items.size:=by omega
  refine enters PyProof.Rows.F.entry_set_update_loop PyProof.Rows.F.plain_set_update_loop (wpAny_bind (wpAny_pyNext_list_end (A:=A.in1) hh it li (Array.getElem?_eq_none (by omega)) fun h' keep=>?_));refine wpAny_pure (fin h' s.toks (fun b o _ hb q=>keep b o hb q) ?_);rw[List.drop_of_length_le (by omega)];exact at_.keep fun o q=>keep S o hSI q
 | succ m ih =>
  intro i s acc hm hi ha it li at_ fin;have hlt:i < items.size:=Nat.lt_of_sub_eq_succ hm;obtain⟨k,t,hk,hv⟩:=hint i items[i] (Array.getElem?_eq_getElem hlt)
  have hd:ns.drop i=k::ns.drop (i+1):=by
   obtain⟨q,rfl⟩:=List.getElem?_eq_some_iff.mp hk;exact drop_eq_getElem_cons q
  rw[hd] at fin;refine enters PyProof.Rows.F.entry_set_update_loop PyProof.Rows.F.plain_set_update_loop (wpAny_bind (wpAny_pyNext_list_item it li (x:=.int k t) (by rw[<-hv];exact Array.getElem?_eq_getElem hlt) fun h1 it1 but1=>?_));have at1:SetAt led h1 S acc:=at_.keep fun o q=>(but1.2 S hSI).trans q
  have li1:h1.IsList l items:=by
   obtain⟨o,q,r⟩:=li;exact⟨o,(but1.2 l (Ne.symm hIl)).trans q,r⟩
  have again: ∀ (s2:Shared) (acc2:List Int),(∃h2 tk,s2={ s with heap:=h2,toks:=tk }/\(∀b o,b≠S->h1.get? b=some o->h2.get? b=some o)/\SetAt led h2 S acc2)->acc2=(if k∈acc then acc else acc++[k]) ->
    codeAny (model prog w) A (.builtin "set.update.loop" ⟨[.ref S,.ref I],[]⟩) R s2:=by
   rintro s2 acc2 ⟨h2,tk,rfl,k2,at2⟩ rfl;refine ih (i+1) _ _ (by omega) hlt ?_ ?_ ?_ at2 fun h' tk' keep at'=>?_
   .split
    .omega
    .rw[length_append];exact Nat.succ_le_succ ha
   .obtain⟨o,q,r⟩:=it1;exact⟨o,k2 I o (Ne.symm hSI) q,r⟩
   .obtain⟨o,q,r⟩:=li1;exact⟨o,k2 l o (Ne.symm hSl) q,r⟩
   .exact fin h' tk' (fun b o h1' h2' q=>keep b o h1' h2' (k2 b o h1' ((but1.2 b h2').trans q))) at'
  refine wpAny_bind (wpAny_holding ?_);unfold setAdd;refine wpAny_holding (wpAny_bind ((intKind prog w).pyHash (k:=k) (intKind_is _ _ _ _) ?_));refine add_int (s:={ s with heap:=h1,toks:=s.toks+1 }) at1 (by omega) (fun there=>?_) (fun new h2 but2 at2=>?_)
  .exact wpAny_pure ⟨plainId_quiet PyProof.Rows.F.plain_set_update_loop _,again _ acc ⟨h1,s.toks+1,rfl,fun b o _ q=>q,at1⟩ (if_pos there).symm⟩
  .exact wpAny_pure ⟨plainId_quiet PyProof.Rows.F.plain_set_update_loop _,again _ (acc++[k]) ⟨h2,s.toks+1,rfl,fun b o hb q=>(but2.2 b hb).trans q,at2⟩ (if_neg new).symm⟩
theorem news (a:Value){Q:Value->Shared->Prop}(h:Q (.ref s.heap.objs.size) { s with heap:=s.heap.push { cls:=.type "set",data:=.set #[] 0 (.fresh 0 0 (!w.params.followText "set-order")) } }) :
  codeAny (model prog w) A (.call (.builtin "set.__new__") ⟨[.type "set",a],[]⟩) (wants Q E) s:=by
 refine codeAny_of_tree (wpAny_bind (m:=checkBuiltinCall "set.__new__" ⟨[.type "set",a],[]⟩) (wpAny_of_eq (F.newCall_set_1 a) (wpAny_pure ⟨plainId_quiet F.plain_set_new _,enters F.entry_set_new F.plain_set_new ?_⟩)));have sub:isSubtype (.type "set") (.type "set")=pure true:=sub_set_self
 show wpAny _ _ (do
  let c <-Builtin.Frozenset.newClass "set" ⟨[.type "set",a],[]⟩
  let r <-newSet c.1
  ret r) _ _ s
 refine wpAny_bind ?_;unfold Builtin.Frozenset.newClass;refine wpAny_bind (m:=isType (.type "set")) (wpAny_of_eq (a:=true) rfl ?_);refine wpAny_bind (m:=isSubtype (.type "set") (.type "set")) (wpAny_of_eq sub ?_);refine wpAny_pure ?_;refine wpAny_bind ?_;unfold newSet setsByText;exact wpAny_bind (wpAny_bind (wpAny_askSetting (wpAny_pure (wpAny_newObj_type (wpAny_pure h) (Nat.zero_le _)))))
end
end SetS
end
section
namespace SetS
open PySem
section
variable {prog:Program}{w:World}{A:Around}{E:Value->Shared->Prop}{s:Shared}
abbrev ledOf (w:World):Bool:= !w.params.followText "set-order"
abbrev iV (w:World):Obj:={ cls:=.type "set",data:=.set #[] 0 (.fresh 0 0 (ledOf w)) }
theorem inits {l S:Addr}{items:Array Value}{ns:List Int}(hh:A.handled=none)(hlen:ns.length=items.size)(hint: ∀ (i:Nat) (v:Value),items[i]?=some v-> ∃k t,ns[i]?=some k/\v= .int k t)(hroom:items.size+1 < scanBound)
  (atS:s.heap.get? S=some (iV w)) (li:s.heap.IsList l items) {R:Result->Shared->Prop} (err: ∀e s',E e s'->R (.error e) s')
  (fin: ∀h' tk,(∀b o,b≠S->s.heap.get? b=some o->h'.get? b=some o)->SetAt (ledOf w) h' S (comes [] ns)->R (.ok (.ret .none)) { s with heap:=h',toks:=tk }) :
  wpAny (model prog w) A.in1 (Builtin.«set.__init__» ⟨[.ref S,.ref l],[]⟩) (fun f s'=>match f with | .done f=>R (.ok f) s' | .again c=>c.quiet=true/\codeAny (model prog w) A c R s') (fun e s'=>R (.error e) s') s:=by
 obtain⟨ol,gotL,clsL,nl,datL⟩:=id li
 have hT:s.TypeIs (.ref S) "set":=⟨_,atS,rfl⟩
 have hTl:s.TypeIs (.ref l) "list":=⟨ol,gotL,clsL⟩
 have ne:S≠l:=fun e=>by
  rw[e,gotL] at atS;have q:ol.cls=(iV w).cls:=congrArg Obj.cls (Option.some.inj atS);rw[clsL] at q;exact absurd (show Value.type "list"=Value.type "set" from q) (by decide)
 obtain⟨lc,ld,ldat,lsl⟩:=ol;obtain rfl:lc= .type "list":=clsL;obtain rfl:ldat= .seq items nl:=datL;have n1:isSubtype (.type "list") (.type "set")=pure false:=F.sub_list_set;have n2:isSubtype (.type "list") (.type "frozenset")=pure false:=F.sub_list_frozenset
 have n3:(Value.type "list"==.type "dict")=false:=by decide
 unfold Builtin.«set.__init__» Builtin.Frozenset.updateFrom noKeywords;generalize walker:pyIter=start
 wp_walk
 subst walker;refine wpAny_pyIter_list li (wpAny_bind (wpAny_runValue ?_));have lS:S < s.heap.objs.size:=Heap.lt_size atS;have lL:l < s.heap.objs.size:=Heap.lt_size gotL
 refine fills (led:=ledOf w) (I:=s.heap.objs.size) (l:=l) (items:=items) (ns:=ns) (A:=A.in1) hh (Nat.ne_of_lt lS) ne (Nat.ne_of_gt lL) hlen hint hroom items.size 0 _ [] (Nat.sub_zero _) (Nat.zero_le _) (Nat.le_refl _) ⟨_,Heap.get?_push_size _ rfl,rfl,rfl⟩ (li.push _)
  ⟨iV w,_,_,_,Heap.get?_push_of_some _ atS,⟨rfl,rfl,rfl⟩,rfl,Qo _⟩ fun h' tk keep at_=>?_
 refine wpAny_pure (wpAny_pure (fin h' tk (fun b o hb q=>keep b o hb (Nat.ne_of_lt (Heap.lt_size q)) (Heap.get?_push_of_some _ q)) ?_))
 rwa [drop_zero] at at_
theorem set_of_ints {l:Addr}{items:Array Value}{ns:List Int}{Q:Value->Shared->Prop}(hh:A.handled=none)(li:s.heap.IsList l items)(hlen:ns.length=items.size)(hint: ∀ (i:Nat) (v:Value),items[i]?=some v-> ∃k t,ns[i]?=some k/\v= .int k t)(hroom:items.size+1 < scanBound)
  (h: ∀h' tk,(∀b o,s.heap.get? b=some o->h'.get? b=some o)->SetAt (ledOf w) h' s.heap.objs.size (comes [] ns)->Q (.ref s.heap.objs.size) { s with heap:=h',toks:=tk }):wpAny (model prog w) A (call (.type "set") [.ref l]) Q E s:=by
 obtain⟨c0,tl0,chain⟩:=F.called_set.mro;have maker:=F.called_set.made;have self_:=F.called_set.sub;have other:=F.called_set.notType;have may:=F.called_set.canCreate;have fits1:=F.typeCall_set_1 (.ref l);refine wpAny_call (codeAny_of_tree (wpAny_pure ⟨Code.quiet_builtin _ (by decide +kernel),codeAny_builtin F.entry_type_call ?_⟩));rw[Around.under_plain (A:=A) (weight_type_call_type "set" [.ref l] []) rfl]
 repeat (any_goals first | wp_step | assumption)
 refine codeAny_mono (news (.ref l) (E:=fun _ _=>False) (Q:=fun v s1=>v= .ref s.heap.objs.size/\s1={ s with heap:=s.heap.push (iV w) }) ⟨rfl,rfl⟩) fun r s1 made=>?_
 cases r with
 | error e=>exact made.elim
 | ok fl =>
  cases fl with
  | next=>exact made.elim
  | brk=>exact made.elim
  | cont=>exact made.elim
  | ret obj =>
   obtain⟨rfl,rfl⟩:=made;have atS:(s.heap.push (iV w)).get? s.heap.objs.size=some (iV w):=Heap.get?_push_size _ rfl
   have hT:Shared.TypeIs { s with heap:=s.heap.push (iV w) } (.ref s.heap.objs.size) "set":=⟨_,atS,rfl⟩
   refine wpAny_bind (wpAny_isInstance hT self_ (wpAny_bind (wpAny_holding (wpAny_callSpecial?_slot hT F.called_set.init (wpAny_call ?_)))))
   have filled:codeAny (model prog w) A.in1 (.call (.builtin "set.__init__") ⟨[.ref s.heap.objs.size,.ref l],[]⟩) (fun r s2=>r= .ok (.ret .none)/\ ∃h' tk,s2={ s with heap:=h',toks:=tk }/\(∀b o,s.heap.get? b=some o->h'.get? b=some o)/\SetAt (ledOf w) h' s.heap.objs.size (comes [] ns)) { s with heap:=s.heap.push (iV w) }:=by
    refine codeAny_call_builtin_code (plainId_quiet F.called_set.init.plain _) (check_set_init_1 hT (enters F.entry_set_init F.called_set.init.plain ?_))
    exact inits (s:={ s with heap:=s.heap.push (iV w) }) (l:=l) (A:=A.in1) (E:=fun _ _=>False) (ns:=ns) (R:=fun r s2=>r= .ok (.ret .none)/\ ∃h' tk,s2={ s with heap:=h',toks:=tk }/\(∀b o,s.heap.get? b=some o->h'.get? b=some o)/\SetAt (ledOf w) h' s.heap.objs.size (comes [] ns)) hh hlen hint hroom atS (li.push _) (fun _ _ z=>z.elim) fun h' tk keep at_ =>
     ⟨rfl,h',tk,rfl,fun b o q=>keep b o (Nat.ne_of_lt (Heap.lt_size q)) (Heap.get?_push_of_some _ q),at_⟩
   refine codeAny_mono filled ?_;rintro r s2 ⟨rfl,h',tk,rfl,keep,at_⟩;exact wpAny_pure (h h' tk keep at_)
end
end SetS
end
section
namespace SetS
open PySem
theorem slot_next:Slot "set_iterator" "__next__" "set_iterator.__next__":=.of (owner:="set_iterator") (n:="__next__") (by rw[typeLookup_type,builtinLookup_eq_fast];kernel_rfl) (by decide +kernel) (by decide +kernel) (by decide +kernel) (by first | exact .inl (by decide +kernel) | exact .inr (by decide +kernel)) (by rw[isSubtype_type];kernel_rfl)
theorem Qp:Manifest.owners.lookup (String.ofList ['r','o','t','a','r','e','t','i','_','t','e','s'].reverse)=some Manifest.sig_set_iterator:=by kernel_rfl
theorem entry_next:entryFor table "set_iterator.__next__"=some Builtin.«set_iterator.__next__» :=entryFor_of_tree (by kernel_rfl)
theorem args_next (a:Value):argsOk "set_iterator.__next__" ⟨[a],[]⟩:=by unfold argsOk;rw[signature?_of (id:="set_iterator.__next__") (n:=['_','_','t','x','e','n','_','_']) (o:=['r','o','t','a','r','e','t','i','_','t','e','s']) (by kernel_rfl) Qp];kernel_rfl
theorem Qq:entryFor table "set.__iter__"=some Builtin.«frozenset.__iter__» :=entryFor_alias (id':="frozenset.__iter__") (by kernel_rfl) rfl (by decide +kernel) (by kernel_rfl)
section
variable {prog:Program}{w:World}{A:Around}{E:Value->Shared->Prop}{s:Shared}
theorem draws {src:Source}{n:Nat}{Q:Nat->Shared->Prop}(hn:n≠0)(h: ∀i,i < n->Q i { s with drawn:=s.drawn.bump src }):wpAny (model prog w) A (choose src n) Q E s:=fun Γ p hΓ=>by
 rw[choose,Sem.wp_choose];exact⟨hn,by rw[Sem.wp_pure];exact h _ (Nat.mod_lt _ (Nat.pos_of_ne_zero hn))⟩
theorem DK {α:Type}: ∀ (xs:List α) (s:Shared) {Q:List α->Shared->Prop},(∀ys d,ys.Perm xs->Q ys { s with drawn:=d })->wpAny (model prog w) A (drawOrder xs.length xs) Q E s
 | [],s,Q,h=>wpAny_pure (h [] s.drawn (List.Perm.refl _))
 | x::xs,s,Q,h=>by
  show wpAny _ _ (choose .order (x::xs).length >>= _) _ _ s;refine wpAny_bind (draws (by simp) fun i hi=>?_);rw[List.getElem?_eq_getElem hi];refine wpAny_bind ?_
  have e:((x::xs).eraseIdx i).length=xs.length:=by rw[length_eraseIdx_of_lt hi];rfl
  have ih:=DK ((x::xs).eraseIdx i) { s with drawn:=s.drawn.bump .order } (Q:=fun ys s'=>Q ((x::xs)[i]::ys) s') fun ys d p=>h _ d ((p.cons _).trans (uG _ i hi));rw[e] at ih;exact wpAny_mono ih (fun ys s' q=>wpAny_pure q) fun _ _ z=>z
termination_by xs=>xs.length
decreasing_by rw[length_eraseIdx_of_lt hi];simp
abbrev fO (first:Value) (i:Nat) (S:Addr) (n ep:Nat):Obj:={ cls:=.type "set_iterator",data:=.fields #[first,rawInt i,.ref S,rawInt n,rawInt ep] }
theorem starts {S:Addr}{o:Obj}{es:Array (Int×Value)}{ep:Nat}{t:SetTable}{Q:Value->Shared->Prop}(got:s.heap.get? S=some o)(ex:o.ExactSet)(data:o.data= .set es ep t)(fit:t.fits es.size=true)(small:es.size<=sizeLine)
  (plain:(!w.params.followText "set-order"&&(!t.plain&&decide (es.size > 1)))=false->Q (.ref s.heap.objs.size) { s with heap:=s.heap.push (fO (rawInt 0) 0 S es.size ep) })
  (drawn: ∀ (ps:List Nat) d,w.params.followText "set-order"=false->ps.Perm (List.range es.size)->Q (.ref (s.heap.objs.size+1)) { s with heap:=(s.heap.push { cls:=.type "tuple",data:=.seq (ps.map fun (i:Nat)=>rawInt i).toArray }).push (fO (.ref s.heap.objs.size) 0 S es.size ep),drawn:=d }) :
  wpAny (model prog w) A (pyIter (.ref S)) Q E s:=by
 have hT:s.TypeIs (.ref S) "set":=⟨o,got,ex.1⟩
 refine wpAny_pyIter_slot hT F.slot_set_iter (wpAny_call_entry F.slot_set_iter hT Qq ?_ (F.args_set_iter_1 _))
 show wpAny _ _ (do
  let n <-Builtin.Frozenset.sizeOf S
  let first <-if <-setDrawn S then newTuple ((<-drawOrder n (List.range n)).map fun (i:Nat)=>rawInt i) else pure (rawInt 0)
  ret (<-newFields "set_iterator" [first,rawInt 0,.ref S,rawInt n,rawInt (<-setEpoch S)])) _ _ s
 unfold Builtin.Frozenset.sizeOf setEntries;refine wpAny_bind (wpAny_bind (wpAny_bind (wpAny_setState_of got data fit (wpAny_pure (wpAny_pure ?_)))));unfold setDrawn setsByText;refine wpAny_bind (wpAny_bind (wpAny_setState_of got data fit (wpAny_bind (wpAny_bind (wpAny_askSetting (wpAny_pure (wpAny_pure ?_)))))))
 have last: ∀ (first:Value) (s1:Shared),s1.heap.get? S=some o->Q (.ref s1.heap.objs.size) { s1 with heap:=s1.heap.push (fO first 0 S es.size ep) }->wpAny (model prog w) A.in1 (do
   let e <-setEpoch S
   let v <-newFields "set_iterator" [first,rawInt 0,.ref S,rawInt es.size,rawInt e]
   ret v) (fun fin s'=> ∃v,fin=Fin.done (Flow.ret v)/\ ∃T' r,s'.TypeIs v T'/\typeLookup (.type T') "__next__"=pure (some r)/\Q v s') E s1:=fun first s1 g q =>
  wpAny_bind (wpAny_setEpoch_of g data fit (wpAny_bind (wpAny_newObj_type (wpAny_pure ⟨_,rfl,"set_iterator",_,⟨_,Heap.get?_push_size _ rfl,rfl⟩,slot_next.lookup,q⟩))))
 split
 .rename_i c0
  have c:(!w.params.followText "set-order"&&(!t.plain&&decide (es.size > 1)))=true:=c0
  have dr:=DK (prog:=prog) (w:=w) (A:=A.in1) (E:=E) (List.range es.size) s (Q:=fun ps s1=>wpAny (model prog w) A.in1 (do
    let first <-newTuple (ps.map fun (i:Nat)=>rawInt i)
    let e <-setEpoch S
    let v <-newFields "set_iterator" [first,rawInt 0,.ref S,rawInt es.size,rawInt e]
    ret v) (fun fin s'=> ∃v,fin=Fin.done (Flow.ret v)/\ ∃T' r,s'.TypeIs v T'/\typeLookup (.type T') "__next__"=pure (some r)/\Q v s') E s1) fun ps d p=>?_
  .rw[length_range] at dr;exact wpAny_bind dr
  .have few:ps.length<=sizeLine:=by
    rw[p.length_eq,length_range];exact small
   refine wpAny_bind (wpAny_newObj_type (last _ _ (Heap.get?_push_of_some _ got) ?_) ?_)
   .have q:=drawn ps d (by cases h:w.params.followText "set-order" with | false=>rfl | true=>rw[h] at c;simp at c) p;rw[<-Heap.size_push s.heap { cls:=.type "tuple",data:=.seq (ps.map fun (i:Nat)=>rawInt i).toArray }] at q;exact q
   .show (ps.map fun (i:Nat)=>rawInt i).toArray.size<=sizeLine;rw[size_toArray,length_map];exact few
 .rename_i c0
  have c: ¬ (!w.params.followText "set-order"&&(!t.plain&&decide (es.size > 1)))=true:=c0;exact wpAny_bind (wpAny_pure (last _ s got (plain (Bool.eq_false_iff.mpr c))))
inductive Way (w:World) (h:Heap) (S ep:Addr) (es:Array (Int×Value)) (t:SetTable):(Nat->Value)->List Value->Prop
 | text (ht:w.params.followText "set-order"=true):Way w h S ep es t (fun _=>rawInt 0) ((pickOrder (w.params.setOrder S ep) es).toList.map (·.2))
 | led (ht:w.params.followText "set-order"=false) (hd:(!t.plain&&decide (es.size > 1))=false) (hl:t.led=true) (hr:eN t.place):Way w h S ep es t (fun i=>rawInt (if i=0 then 0 else t.place.getD (i - 1) 0+1:Nat)) (es.toList.map (·.2))
 | drawn (ht:w.params.followText "set-order"=false) (T:Addr) (ps:List Nat) (hp:ps.Perm (List.range es.size)) (hT:h.get? T=some { cls:=.type "tuple",data:=.seq (ps.map fun (i:Nat)=>rawInt i).toArray }):Way w h S ep es t (fun _=>.ref T) (ps.filterMap fun p=>(es[p]?).map (·.2))
theorem Way.perm {h:Heap}{S ep:Addr}{es:Array (Int×Value)}{t:SetTable}{f:Nat->Value}{xs:List Value}(x:Way w h S ep es t f xs):xs.Perm (es.toList.map (·.2)):=by
 cases x with
 | text _=>exact (Qn _ es).map _
 | led _ _ _ _=>exact List.Perm.refl _
 | drawn _ T ps hp _ =>
  refine (hp.filterMap _).trans ?_
  have e:(List.range es.size).filterMap (fun p=>(es[p]?).map (·.2))=((List.range es.size).filterMap fun p=>es[p]?).map (·.2):=by rw[List.map_filterMap]
  rw[e,filterMap_getElem?_range]
theorem DQ {S:Addr}{o:Obj}{es:Array (Int×Value)}{ep:Nat}{t:SetTable}{f:Nat->Value}{xs:List Value}(got:s.heap.get? S=some o)(data:o.data= .set es ep t)(fit:t.fits es.size=true)(x:Way w s.heap S ep es t f xs)(i slot:Nat)(hf:f i=rawInt slot)(hi:i<=es.size){Q:Option (Value×Nat)->Shared->Prop}
  (item: ∀v next,xs[i]?=some v->f (i+1)=rawInt (next:Nat)->Q (some (v,next)) s) (done:xs[i]?=none->Q none s):wpAny (model prog w) A (setNext S slot i ep) Q E s:=by
 unfold setNext;refine wpAny_bind (wpAny_setState_of got data fit ?_);unfold setsByText;refine wpAny_bind (wpAny_bind (wpAny_askSetting (wpAny_pure ?_)))
 have psz:t.place.size=es.size:=by
  have q:=fit;unfold SetTable.fits at q;rw[Bool.and_eq_true,beq_iff_eq] at q;exact q.1
 cases x with
 | text ht =>
  have z:slot=0:=by
   have q:rawInt ((0:Nat):Int)=rawInt slot:=hf;injection q with q;exact (Int.ofNat.inj q).symm
  subst z;rw[if_pos (show (model prog w).w.params.followText "set-order"=true from ht),if_neg (show ¬ (ep != ep)=true by simp)];refine wpAny_bind ?_;unfold setWalk setsByText;refine wpAny_bind (wpAny_setState_of got data fit (wpAny_bind (wpAny_bind (wpAny_askSetting (wpAny_pure ?_)))));rw[if_pos (show (model prog w).w.params.followText "set-order"=true from ht)];refine wpAny_bind (wpAny_askSetting (wpAny_pure (wpAny_pure ?_)))
  have look:((pickOrder (w.params.setOrder S ep) es).toList.map (·.2))[i]?=((pickOrder (w.params.setOrder S ep) es)[i]?).map (·.2):=by rw[List.getElem?_map,Array.getElem?_toList]
  show Q (((pickOrder (w.params.setOrder S ep) es)[i]?).map fun e=>(e.2,0)) s
  cases e:(pickOrder (w.params.setOrder S ep) es)[i]? with
  | none=>exact done (by rw[look,e];rfl)
  | some v=>exact item v.2 0 (by rw[look,e];rfl) rfl
 | led ht hd hl hr =>
  have z:slot=if i=0 then 0 else t.place.getD (i - 1) 0+1:=by
   have q:rawInt ((if i=0 then 0 else t.place.getD (i - 1) 0+1:Nat):Int)=rawInt slot:=hf;injection q with q;exact (Int.ofNat.inj q).symm
  have at_:SetTable.below t.place slot=i:=by
   have lo: ∀k a,k < i->t.place[k]?=some a->a < slot:=fun k a hk ha=>by
    have h1:i - 1 < t.place.size:=by omega
    have h2:t.place[i - 1]?=some (t.place.getD (i - 1) 0):=by rw[Array.getD_eq_getD_getElem?,Array.getElem?_eq_getElem h1];rfl
    rw[z,if_neg (by omega)]
    by_cases q:k=i - 1
    .rw[q,h2] at ha;injection ha with ha;omega
    .have:=hr.get ha h2 (by omega);omega
   have up: ∀k a,i<=k->t.place[k]?=some a->slot<=a:=fun k a hk ha=>by
    rw[z];split
    .omega
    .rename_i ni
     have h1:i - 1 < t.place.size:=by omega
     have h2:t.place[i - 1]?=some (t.place.getD (i - 1) 0):=by rw[Array.getD_eq_getD_getElem?,Array.getElem?_eq_getElem h1];rfl
     have:=hr.get h2 ha (by omega);omega
   have le:=Ql hr slot
   by_cases c1:SetTable.below t.place slot < i
   .have h1:SetTable.below t.place slot < t.place.size:=by omega
    have q1:=uE hr (Nat.le_refl _) (Array.getElem?_eq_getElem h1);have q2:=lo _ _ c1 (Array.getElem?_eq_getElem h1);omega
   .by_cases c2:i < SetTable.below t.place slot
    .have h1:i < t.place.size:=by omega
     have q1:=Ds hr c2 (Array.getElem?_eq_getElem h1);have q2:=up _ _ (Nat.le_refl _) (Array.getElem?_eq_getElem h1);omega
    .omega
  rw[if_neg (show ¬ (model prog w).w.params.followText "set-order"=true by rw[show (model prog w).w.params.followText "set-order"=false from ht];decide)];split
  .rename_i c
   exact absurd (show (!t.plain&&decide (es.size > 1))=true from c) (by rw[hd];decide)
  refine wpAny_bind ?_;show wpAny _ _ (if (!t.led&& !es.isEmpty)=true then unsupported "set:maker-not-led" else pure ()) _ _ s;rw[if_neg (show ¬ (!t.led&& !es.isEmpty)=true by rw[hl];simp)];refine wpAny_pure (wpAny_pure ?_);simp only[at_]
  by_cases lt:i < es.size
  .have h1:i < t.place.size:=by omega
   rw[Array.getElem?_eq_getElem lt,Array.getElem?_eq_getElem h1];refine item es[i].2 (t.place[i]+1) ?_ ?_
   .rw[List.getElem?_map,Array.getElem?_toList,Array.getElem?_eq_getElem lt];rfl
   .show rawInt ((if i+1=0 then 0 else t.place.getD (i+1 - 1) 0+1:Nat):Int)=_;rw[if_neg (by omega),Nat.add_sub_cancel,Array.getD_eq_getD_getElem?,Array.getElem?_eq_getElem h1];rfl
  .rw[Array.getElem?_eq_none (by omega)];exact done (by rw[List.getElem?_map,Array.getElem?_toList,Array.getElem?_eq_none (by omega)];rfl)
 | drawn ht T ps hp hT=>exact absurd (show Value.ref T=rawInt slot from hf) (fun z=>nomatch z)
theorem filterMap_some {α β:Type}{f:α->Option β}{g:α->β}: ∀{l:List α},(∀a∈l,f a=some (g a))->l.filterMap f=l.map g
 | [],_=>rfl
 | a::l,h=>by rw[filterMap_cons_some (h a (mem_cons_self ..)),map_cons,filterMap_some fun b hb=>h b (mem_cons_of_mem _ hb)]
theorem next_item {I S:Addr}{o:Obj}{es:Array (Int×Value)}{ep:Nat}{t:SetTable}{f:Nat->Value}{xs:List Value}{i:Nat}{v:Value}{Q:Option Value->Shared->Prop}(hit:s.heap.get? I=some (fO (f i) i S es.size ep))(got:s.heap.get? S=some o)(data:o.data= .set es ep t)(fit:t.fits es.size=true)(x:Way w s.heap S ep es t f xs)
  (hv:xs[i]?=some v) (h: ∀h',Heap.SameBut I s.heap h'->h'.get? I=some (fO (f (i+1)) (i+1) S es.size ep)->Q (some v) { s with heap:=h' }):wpAny (model prog w) A (pyNext (.ref I)) Q E s:=by
 have hT:s.TypeIs (.ref I) "set_iterator":=⟨_,hit,rfl⟩
 have lt:i < es.size:=by
  have q:=(List.getElem?_eq_some_iff.mp hv).1;rw[x.perm.length_eq,length_map,Array.length_toList] at q;exact q
 unfold pyNext;refine wpAny_bind (wpAny_attempt (wpAny_callSpecial?_slot (name:=Str.ofString "__next__") hT slot_next (wpAny_call_entry slot_next hT entry_next ?_ (args_next _))));unfold Builtin.«set_iterator.__next__»;refine wpAny_bind (m:=slotArgs "__next__" 0 ⟨[.ref I],[]⟩) (wpAny_pure (wpAny_bind (wpAny_fieldsOf hit rfl ?_)));simp only;refine wpAny_bind ?_;unfold setEntries;refine wpAny_bind (wpAny_setState_of got data fit (wpAny_pure ?_));rw[if_neg (by simp)]
 have store: ∀ (first:Value) (j:Nat) {h1:Heap},h1.get? I=some (fO first j S es.size ep)-> ∀ (k:Nat) (u:Value),(h1.update I (Obj.mapFields (·.setIfInBounds k u))).get? I=some { cls:=.type "set_iterator",data:=.fields (#[first,rawInt j,.ref S,rawInt es.size,rawInt ep].setIfInBounds k u) }:=fun first j h1 g k u=>Heap.get?_update_self (Obj.mapFields (·.setIfInBounds k u)) g rfl
 by_cases num: ∃slot:Nat,f i=rawInt slot
 .obtain⟨slot,hf⟩:=num;rw[hf] at hit ⊢;refine wpAny_bind (DQ (slot:=slot) (i:=i) got data fit x hf (Nat.le_of_lt lt) (fun u next hu hn=>?_) fun no=>?_)
  .rw[hv] at hu;injection hu with hu;subst hu;refine wpAny_bind (wpAny_setField hit rfl (by simp) ?_);have g1:=store _ i hit 0 (rawInt next);refine wpAny_bind (wpAny_setField g1 rfl (by simp) (wpAny_pure ⟨v,rfl,wpAny_pure (h _ ((Heap.SameBut.update ..).trans (Heap.SameBut.update ..)) ?_)⟩));rw[hn];exact store (rawInt next) i g1 1 (rawInt (i+1))
  .rw[hv] at no;cases no
 .cases x with
  | text ht=>exact absurd ⟨0,rfl⟩ num
  | led ht hd hl hr=>exact absurd ⟨_,rfl⟩ num
  | drawn ht T ps hp hTup =>
   have pi: ∃p,ps[i]?=some p/\ ∃e,es[p]?=some e/\e.2=v:=by
    have all:ps.filterMap (fun p=>(es[p]?).map (·.2))=ps.map fun p=>((es[p]?).map (·.2)).getD .none:=by
     refine filterMap_some fun p hpm=>?_;have:p < es.size:=mem_range.mp (hp.mem_iff.mp hpm);rw[Array.getElem?_eq_getElem this];rfl
    rw[all,List.getElem?_map] at hv
    cases hpi:ps[i]? with
    | none=>rw[hpi] at hv;cases hv
    | some p =>
     rw[hpi] at hv;have hpl:p < es.size:=mem_range.mp (hp.mem_iff.mp (mem_of_getElem? hpi));rw[Option.map_some,Array.getElem?_eq_getElem hpl] at hv;exact⟨p,rfl,es[p],Array.getElem?_eq_getElem hpl,Option.some.inj hv⟩
   obtain⟨p,hpi,e,he,rfl⟩:=pi;refine wpAny_bind (wpAny_seqItems hTup rfl ?_)
   have look:(ps.map fun (k:Nat)=>rawInt k).toArray[((i:Nat):Int).toNat]?=some (rawInt p):=by
    rw[Int.toNat_natCast,List.getElem?_toArray,List.getElem?_map,hpi];rfl
   simp only[look];refine wpAny_bind ?_;unfold setNextDrawn;refine wpAny_bind (wpAny_setState_of got data fit ?_);simp only[Int.toNat_natCast];rw[if_neg (by simp),he];refine wpAny_pure ?_;have g1:=store (.ref T) i hit 1 (rawInt (i+1));exact wpAny_bind (wpAny_setField hit rfl (by simp) (wpAny_pure ⟨_,rfl,wpAny_pure (h _ (Heap.SameBut.update ..) g1)⟩))
theorem stops {α:Type}{Q:α->Shared->Prop}(hh:A.handled=none)(h: ∀e h',(∀b o,s.heap.get? b=some o->h'.get? b=some o)->Shared.TypeIs { s with heap:=h' } e "StopIteration"->E e { s with heap:=h' }):wpAny (model prog w) A (newExc (.type "StopIteration") [] >>= fun e=>raiseNew e) Q E s:=by
 refine wpAny_bind ?_;unfold newExc newTuple;refine wpAny_bind (wpAny_newObj_type ?_ (Nat.zero_le _));refine wpAny_bind (m:=firstArgMember _ _) (wpAny_of_eq (a:=Value.none) (by first | rfl | (unfold firstArgMember;rfl)) (wpAny_newObj_type ?_));unfold raiseNew;refine wpAny_bind (wpAny_handled ?_);rw[hh];refine wpAny_bind (wpAny_pure (wpAny_throw ?_));refine h (.ref _) _ (fun b o q=>Heap.get?_push_of_some _ (Heap.get?_push_of_some _ q)) ?_;exact⟨_,Heap.get?_push_size _ rfl,rfl⟩
theorem next_end {I S:Addr}{o:Obj}{es:Array (Int×Value)}{ep:Nat}{t:SetTable}{f:Nat->Value}{xs:List Value}{Q:Option Value->Shared->Prop}(hh:A.handled=none)(hit:s.heap.get? I=some (fO (f es.size) es.size S es.size ep))(got:s.heap.get? S=some o)(data:o.data= .set es ep t)(fit:t.fits es.size=true)(x:Way w s.heap S ep es t f xs)
  (h: ∀h',(∀b u,b≠I->s.heap.get? b=some u->h'.get? b=some u)->Q none { s with heap:=h' }):wpAny (model prog w) A (pyNext (.ref I)) Q E s:=by
 have hT:s.TypeIs (.ref I) "set_iterator":=⟨_,hit,rfl⟩
 have len:xs.length=es.size:=by rw[x.perm.length_eq,length_map,Array.length_toList]
 have out:xs[es.size]?=none:=List.getElem?_eq_none (by omega)
 have fin: ∀ (h1:Heap),(∀b u,b≠I->s.heap.get? b=some u->h1.get? b=some u)->wpAny (model prog w) A.in1 (newExc (.type "StopIteration") [] >>= fun e=>raiseNew e) (fun fin s'=> ∃v,fin=Fin.done (Flow.ret v)/\wpAny (model prog w) A (pure (some v)) Q E s') (fun e s'=>wpAny (model prog w) A (do
   let c <-isInstance e (.type "StopIteration")
   if c=true then pure none else throw e) Q E s') { s with heap:=h1 }:=fun h1 k1 =>
  stops (A:=A.in1) hh fun e h' k2 ty=>wpAny_bind (wpAny_isInstance ty isSubtype_stop (wpAny_pure (h h' fun b u hb q=>k2 b u (k1 b u hb q))))
 unfold pyNext;refine wpAny_bind (wpAny_attempt (wpAny_callSpecial?_slot (name:=Str.ofString "__next__") hT slot_next (wpAny_call_entry slot_next hT entry_next ?_ (args_next _))));unfold Builtin.«set_iterator.__next__»;refine wpAny_bind (m:=slotArgs "__next__" 0 ⟨[.ref I],[]⟩) (wpAny_pure (wpAny_bind (wpAny_fieldsOf hit rfl ?_)));simp only;refine wpAny_bind ?_;unfold setEntries;refine wpAny_bind (wpAny_setState_of got data fit (wpAny_pure ?_));rw[if_neg (by simp)];have other: ∀ (h1:Heap) (g:Obj->Obj) b u,b≠I->h1.get? b=some u->(h1.update I g).get? b=some u:=fun h1 g b u hb q=>(Heap.get?_update_other h1 g (Ne.symm hb)).trans q
 by_cases num: ∃slot:Nat,f es.size=rawInt slot
 .obtain⟨slot,hf⟩:=num;rw[hf] at hit ⊢;refine wpAny_bind (DQ (slot:=slot) (i:=es.size) got data fit x hf (Nat.le_refl _) (fun u next hu hn=>?_) fun no=>?_)
  .rw[out] at hu;cases hu
  .exact wpAny_bind (wpAny_setField hit rfl (by simp) (fin _ (other _ _)))
 .cases x with
  | text ht=>exact absurd ⟨0,rfl⟩ num
  | led ht hd hl hr=>exact absurd ⟨_,rfl⟩ num
  | drawn ht T ps hp hTup =>
   refine wpAny_bind (wpAny_seqItems hTup rfl ?_)
   have look:(ps.map fun (k:Nat)=>rawInt k).toArray[((es.size:Nat):Int).toNat]?=none:=by
    rw[Int.toNat_natCast,List.getElem?_toArray];exact List.getElem?_eq_none (by rw[length_map,hp.length_eq,length_range];exact Nat.le_refl _)
   simp only[look];refine wpAny_bind (wpAny_setField hit rfl (by simp) ?_);have g1:=Heap.get?_update_self (Obj.mapFields (·.setIfInBounds 0 (rawInt 0))) hit rfl;exact wpAny_bind (wpAny_setField g1 rfl (by simp) (fin _ fun b u hb q=>other _ _ b u hb (other _ _ b u hb q)))
end
end SetS
end
section
namespace SetS
open PySem PyProof.Rows
section
variable {prog:Program}{w:World}{A:Around}{E:Value->Shared->Prop}{s:Shared}
theorem Way.keep {h h':Heap}{S ep:Addr}{es:Array (Int×Value)}{t:SetTable}{f:Nat->Value}{xs:List Value}(x:Way w h S ep es t f xs)(fs:List Addr)(k: ∀b u,b∉fs->h.get? b=some u->h'.get? b=some u)(hno: ∀T,f 0= .ref T->T∉fs):Way w h' S ep es t f xs:=by
 cases x with
 | text ht=>exact .text ht
 | led ht hd hl hr=>exact .led ht hd hl hr
 | drawn ht T ps hp hT=>exact .drawn ht T ps hp (k T _ (hno T rfl) hT)
abbrev eE (xs:Array Value) (n:Nat):Obj:={ cls:=.type "list",data:=.seq xs n }
theorem takes {I S L:Addr}{o:Obj}{es:Array (Int×Value)}{ep:Nat}{t:SetTable}{f:Nat->Value}{xs:List Value}{res:Value}(hh:A.handled=none)(hIS:I≠S)(hIL:I≠L)(hSL:S≠L)(hf: ∀T,f 0= .ref T->T≠I/\T≠L)(data:o.data= .set es ep t)(fit:t.fits es.size=true)(small:es.size<=sizeLine){R:Result->Shared->Prop} :
  ∀ (m i:Nat) (s:Shared) (n:Nat),es.size - i=m->i<=es.size->s.heap.get? I=some (fO (f i) i S es.size ep)->s.heap.get? S=some o->Way w s.heap S ep es t f xs->s.heap.get? L=some (eE (xs.take i).toArray n) ->
   (∀h' n',(∀b u,b≠I->b≠L->s.heap.get? b=some u->h'.get? b=some u)->h'.get? L=some (eE xs.toArray n')->R (.ok (.ret res)) { s with heap:=h' }) ->
   codeAny (model prog w) A (.builtin "list.extend.loop" ⟨[.ref L,.ref I,res],[]⟩) R s:=by
 intro m
 induction m with
 | zero =>
  intro i s n hm hi hit got x atL fin
  have e:i=es.size:=by omega
  subst e
  have len:xs.length=es.size:=by rw[x.perm.length_eq,length_map,Array.length_toList]
  refine enters F.entry_extend_loop F.plain_extend_loop (wpAny_bind (next_end (A:=A.in1) hh hit got data fit x fun h' keep=>wpAny_pure (fin h' n (fun b u hb _ q=>keep b u hb q) ?_)));rw[<-len,take_length] at atL;exact keep L _ (Ne.symm hIL) atL
 | succ m ih =>
  intro i s n hm hi hit got x atL fin
  have len:xs.length=es.size:=by rw[x.perm.length_eq,length_map,Array.length_toList]
  have lt:i < xs.length:=by omega
  refine enters F.entry_extend_loop F.plain_extend_loop (wpAny_bind (next_item hit got data fit x (List.getElem?_eq_getElem lt) fun h1 but hit1=>?_));have atL1:h1.get? L=some (eE (xs.take i).toArray n):=(but.2 L (Ne.symm hIL)).trans atL;refine wpAny_bind (listUpdate_at (s:={ s with heap:=h1 }) atL1 rfl ?_ (by rw[size_toArray,length_take];omega) (by rw[Array.size_push,size_toArray,length_take];omega));have up: ∀b u,b≠I->b≠L->s.heap.get? b=some u->(h1.update L (Obj.mapSeq (·.push xs[i]))).get? b=some u:=fun b u h1' h2' q=>(Heap.get?_update_other _ _ (Ne.symm h2')).trans ((but.2 b h1').trans q)
  obtain⟨n2,atL2⟩: ∃n2,(h1.update L (Obj.mapSeq (·.push xs[i]))).get? L=some (eE (xs.take (i+1)).toArray n2):=by
   have e:(xs.take i).toArray.push xs[i]=(xs.take (i+1)).toArray:=by rw[List.push_toArray,List.take_succ_eq_append_getElem lt]
   exact⟨_,by rw[<-e];exact get?_update_seq atL1 (·.push xs[i])⟩
  refine wpAny_pure ⟨plainId_quiet F.plain_extend_loop _,ih (i+1) _ n2 (by omega) (by omega) ((Heap.get?_update_other _ _ (Ne.symm hIL)).trans hit1) (up S _ (Ne.symm hIS) hSL got) (x.keep [I,L] (fun b u hb q=>up b u (fun z=>hb (by rw[z];simp)) (fun z=>hb (by rw[z];simp)) q) fun T q=>?_) atL2 fun h' n' keep atL'=>?_⟩
  .have:=hf T q;simp [this.1,this.2]
  .exact fin h' n' (fun b u h1' h2' q=>keep b u h1' h2' (up b u h1' h2' q)) atL'
theorem hints {S:Addr}(hT:s.TypeIs (.ref S) "set"){Q:Bool->Shared->Prop}(h:Q false s):wpAny (model prog w) A (Builtin.List.listLengthHint (.ref S)) Q E s:=by
 have parts:splitId "set.__len__"=some ("set","__len__"):=by decide +kernel
 unfold Builtin.List.listLengthHint;refine wpAny_bind (wpAny_specialOf hT F.slot_set_len.lookup ?_);simp only[parts];refine wpAny_bind (wpAny_isInstance hT sub_set_self ?_);refine wpAny_ite_split (fun c=>absurd c (by decide)) fun _=>?_;refine wpAny_ite_split (fun _=>?_) fun c=>absurd (by decide +kernel) c;exact wpAny_bind (wpAny_typeOf hT (wpAny_pure h))
theorem Qs {S L:Addr}{o:Obj}{es:Array (Int×Value)}{ep:Nat}{t:SetTable}{ks:List Int}{n:Nat}{res:Value}(hh:A.handled=none)(got:s.heap.get? S=some o)(ex:o.ExactSet)(data:o.data= .set es ep t)(tab:Tab (ledOf w) es t ks)(small:es.size<=sizeLine)(atL:s.heap.get? L=some (eE #[] n)){R:Result->Shared->Prop}
  (fin: ∀ (xs:List Value) (h':Heap) (d:Drawn) (n':Nat),xs.Perm (es.toList.map (·.2))->(∀b u,b≠L->s.heap.get? b=some u->h'.get? b=some u)->h'.get? L=some (eE xs.toArray n')->R (.ok (.ret res)) { s with heap:=h',drawn:=d }) :
  wpAny (model prog w) A.in1 (Builtin.List.listExtendWith (.ref L) (.ref S) res) (fun f s'=>match f with | .done f=>R (.ok f) s' | .again c=>c.quiet=true/\codeAny (model prog w) A c R s') (fun e s'=>R (.error e) s') s:=by
 have hT:s.TypeIs (.ref S) "set":=⟨o,got,ex.1⟩
 have ne:S≠L:=fun z=>by
  rw[z,atL] at got
  have q:(eE #[] n).cls=Value.type "set":=by rw[Option.some.inj got];exact ex.1
  exact absurd (show Value.type "list"=Value.type "set" from q) (by decide)
 have lL:L < s.heap.objs.size:=Heap.lt_size atL;have lS:S < s.heap.objs.size:=Heap.lt_size got
 -- from an iterator at I on
 have go: ∀ (I:Addr) (f:Nat->Value) (xs:List Value) (s1:Shared) (n1:Nat),I≠S->I≠L->(∀T,f 0= .ref T->T≠I/\T≠L)->s.heap.objs.size<=I->(∃h1 d1,s1={ s with heap:=h1,drawn:=d1 }/\(∀b u,b≠L->s.heap.get? b=some u->h1.get? b=some u)) ->
   s1.heap.get? I=some (fO (f 0) 0 S es.size ep)->Way w s1.heap S ep es t f xs->s1.heap.get? L=some (eE #[] n1)->codeAny (model prog w) A (.builtin "list.extend.loop" ⟨[.ref L,.ref I,res],[]⟩) R s1:=by
  rintro I f xs s1 n1 hIS hIL hf hI ⟨h1,d1,rfl,k1⟩ hit x at1;refine takes hh hIS hIL ne hf data tab.fit small es.size 0 _ n1 (Nat.sub_zero _) (Nat.zero_le _) hit (k1 S _ ne got) x at1 fun h' n' keep at2=>?_;exact fin xs h' d1 n' x.perm (fun b u hb q=>keep b u (fun z=>absurd (Heap.lt_size q) (by rw[z];exact Nat.not_lt.mpr hI)) hb (k1 b u hb q)) at2
 unfold Builtin.List.listExtendWith;refine wpAny_bind (wpAny_typeOf hT ?_)
 rw[if_neg (show ¬ (Builtin.List.listSameRef (.ref L) (.ref S)||Value.type "set"==.type "list"||Value.type "set"==.type "tuple")=true by
  rw[show Builtin.List.listSameRef (.ref L) (.ref S)=false from beq_eq_false_iff_ne.mpr (Ne.symm ne),show (Value.type "set"==.type "list")=false by decide,show (Value.type "set"==.type "tuple")=false by decide];decide)]
 -- the rest,once the iterator stands
 have rest: ∀ (I:Addr) (f:Nat->Value) (xs:List Value) (s1:Shared),I≠S->I≠L->(∀T,f 0= .ref T->T≠I/\T≠L)->s.heap.objs.size<=I->(∃h1 d1,s1={ s with heap:=h1,drawn:=d1 }/\(∀b u,s.heap.get? b=some u->h1.get? b=some u)) ->
   s1.heap.get? I=some (fO (f 0) 0 S es.size ep)->Way w s1.heap S ep es t f xs->wpAny (model prog w) A.in1 (do
    let room <-holding [.ref I] (Builtin.List.listLengthHint (.ref S))
    if (room||["set","frozenset","dict","dict_keys","dict_values","dict_items"].any (Value.type "set"==.type ·))=true then do
     rule "list.extend.makes-room"
     Builtin.List.listTouch (.ref L)
     again (.builtin "list.extend.loop" ⟨[.ref L,.ref I,res],[]⟩)
    else again (.builtin "list.extend.loop" ⟨[.ref L,.ref I,res],[]⟩)) (fun f s'=>match f with | .done f=>R (.ok f) s' | .again c=>c.quiet=true/\codeAny (model prog w) A c R s') (fun e s'=>R (.error e) s') s1:=by
  rintro I f xs s1 hIS hIL hf hI ⟨h1,d1,rfl,k1⟩ hit x
  have hT1:Shared.TypeIs { s with heap:=h1,drawn:=d1 } (.ref S) "set":=⟨o,k1 S _ got,ex.1⟩
  refine wpAny_bind (wpAny_holding (hints hT1 ?_));rw[if_pos (by decide)];refine wpAny_bind (wpAny_rule (wpAny_bind ?_));have at1:=k1 L _ atL;have at2:=get?_update_seq at1 (·.push Value.none);have at3:=get?_update_seq at2 (·.pop);unfold Builtin.List.listTouch;refine wpAny_bind (listUpdate_at at1 rfl (listUpdate_at at2 rfl ?_ (by decide) (by decide)) (by decide) (by decide));have oth: ∀b u,b≠L->h1.get? b=some u->((h1.update L (Obj.mapSeq (·.push Value.none))).update L (Obj.mapSeq (·.pop))).get? b=some u:=fun b u hb q=>(Heap.get?_update_other _ _ (Ne.symm hb)).trans ((Heap.get?_update_other _ _ (Ne.symm hb)).trans q);refine wpAny_pure ⟨plainId_quiet F.plain_extend_loop _,go I f xs _ _ hIS hIL hf hI ⟨_,d1,rfl,fun b u hb q=>oth b u hb (k1 b u q)⟩ (oth I _ hIL hit) (x.keep [L] (fun b u hb q=>oth b u (fun z=>hb (by rw[z];simp)) q) fun T q=>?_) at3⟩;have:=(hf T q).2;simp [this]
 refine wpAny_bind (starts got ex data tab.fit small (fun c=>?_) fun ps d c p=>?_)
 .have k0: ∀b u,s.heap.get? b=some u->(s.heap.push (fO (rawInt 0) 0 S es.size ep)).get? b=some u:=fun b u q=>Heap.get?_push_of_some _ q;have g0:=Heap.get?_push_size s.heap (o:=fO (rawInt 0) 0 S es.size ep) rfl
  by_cases ht:w.params.followText "set-order"=true
  .exact rest s.heap.objs.size (fun _=>rawInt 0) _ _ (Nat.ne_of_gt lS) (Nat.ne_of_gt lL) (fun T z=>nomatch z) (Nat.le_refl _) ⟨_,s.drawn,rfl,k0⟩ g0 (.text ht)
  .have hf:w.params.followText "set-order"=false:=Bool.eq_false_iff.mpr ht;rw[hf] at c;have hd:(!t.plain&&decide (es.size > 1))=false:=c
   have led:t.led=true:=by rw[tab.led];show (!w.params.followText "set-order")=true;rw[hf];rfl
   have rise:eN t.place:=by
    cases pl:t.plain with
    | true=>exact tab.rise pl
    | false =>
     rw[pl] at hd
     have sz:t.place.size<=1:=by
      have q:=tab.fit;unfold SetTable.fits at q;rw[Bool.and_eq_true,beq_iff_eq] at q;have: ¬es.size > 1:=of_decide_eq_false (by simpa using hd);omega
     unfold eN
     match hl:t.place.toList with
     | []=>exact List.Pairwise.nil
     | [a]=>exact pairwise_singleton _ _
     | a::b::r =>
      have q:=congrArg List.length hl;rw[Array.length_toList] at q;simp at q;omega
   exact rest s.heap.objs.size (fun i=>rawInt (if i=0 then 0 else t.place.getD (i - 1) 0+1:Nat)) _ _ (Nat.ne_of_gt lS) (Nat.ne_of_gt lL) (fun T z=>nomatch z) (Nat.le_refl _) ⟨_,s.drawn,rfl,k0⟩ g0 (.led hf hd led rise)
 .have gT:(s.heap.push { cls:=.type "tuple",data:=.seq (ps.map fun (i:Nat)=>rawInt i).toArray }).get? s.heap.objs.size=some { cls:=.type "tuple",data:=.seq (ps.map fun (i:Nat)=>rawInt i).toArray }:=Heap.get?_push_size _ rfl;refine rest (s.heap.objs.size+1) (fun _=>.ref s.heap.objs.size) _ _ (Nat.ne_of_gt (Nat.lt_succ_of_lt lS)) (Nat.ne_of_gt (Nat.lt_succ_of_lt lL)) (fun T z=>?_) (Nat.le_succ _) ⟨_,d,rfl,fun b u q=>Heap.get?_push_of_some _ (Heap.get?_push_of_some _ q)⟩ ?_ (.drawn c s.heap.objs.size ps p (Heap.get?_push_of_some _ gT))
  .injection z with z;subst z;exact⟨Nat.ne_of_lt (Nat.lt_succ_self _),Nat.ne_of_gt lL⟩
  .have:=Heap.get?_push_size (s.heap.push { cls:=.type "tuple",data:=.seq (ps.map fun (i:Nat)=>rawInt i).toArray }) (o:=fO (.ref s.heap.objs.size) 0 S es.size ep) rfl
   rwa [Heap.size_push] at this
theorem sorted_set {S:Addr}{ks:List Int}{Q:Value->Shared->Prop}(hh:A.handled=none)(at_:SetAt (ledOf w) s.heap S ks)(few:ks.length < 64)
  (h: ∀ (out:Array Value) (ns:List Int) (p:Addr) (h':Heap) (d:Drawn),IntsAre out.toList ns->ns.Perm ks->ns.Pairwise (·<=·)->s.heap.objs.size<=p->(∀b u,s.heap.get? b=some u->h'.get? b=some u)->(∃n,h'.get? p=some (eE out n))->Q (.ref p) { s with heap:=h',drawn:=d }) :
  wpAny (model prog w) A (call (.builtin "sorted") [.ref S]) Q E s:=by
 obtain⟨o,es,ep,t,got,ex,data,tab⟩:=at_;have size:es.size=ks.length:=tab.size
 have small:es.size<=sizeLine:=by rw[sizeLine_eq];omega
 refine Calls.call_function_entry kind_sorted plain_sorted entry_sorted (args_sorted1 _) ?_;unfold Builtin.«sorted»;refine wpAny_bind (m:=checkCount "sorted" 1 1 _) (wpAny_pure (wpAny_bind ?_));unfold collect;have grown: ∀b u,s.heap.get? b=some u->(s.heap.push (eE #[] 0)).get? b=some u:=fun b u q=>Heap.get?_push_of_some _ q;have newL:(s.heap.push (eE #[] 0)).get? s.heap.objs.size=some (eE #[] 0):=Heap.get?_push_size _ rfl
 have filled:codeAny (model prog w) A.in1 (.builtin "list.__iadd__" ⟨[.ref s.heap.objs.size,.ref S],[]⟩) (fun r s'=>r= .ok (.ret (.ref s.heap.objs.size))/\ ∃ (xs:List Value) (h':Heap) (d:Drawn) (n':Nat),xs.Perm (es.toList.map (·.2))/\(∀b u,s.heap.get? b=some u->h'.get? b=some u)/\h'.get? s.heap.objs.size=some (eE xs.toArray n')/\s'={ s with heap:=h',drawn:=d })
   { s with heap:=s.heap.push (eE #[] 0) }:=by
  refine enters entry_list_iadd' (by decide +kernel) ?_;show wpAny _ _ (Builtin.List.listExtendWith (.ref s.heap.objs.size) (.ref S) (.ref s.heap.objs.size)) _ _ _
  exact Qs (s:={ s with heap:=s.heap.push (eE #[] 0) }) (A:=A.in1) (R:=fun r s'=>r= .ok (.ret (.ref s.heap.objs.size))/\ ∃ (xs:List Value) (h':Heap) (d:Drawn) (n':Nat),xs.Perm (es.toList.map (·.2))/\(∀b u,s.heap.get? b=some u->h'.get? b=some u)/\h'.get? s.heap.objs.size=some (eE xs.toArray n')/\s'={ s with heap:=h',drawn:=d })
   hh (grown _ _ got) ex data tab small newL fun xs h' d n' p keep atL=>⟨rfl,xs,h',d,n',p,fun b u q=>keep b u (Nat.ne_of_lt (Heap.lt_size q)) (grown b u q),atL,rfl⟩
 refine wpAny_bind (wpAny_runValue (enters entry_proto_collect' (by decide +kernel) ?_));refine wpAny_bind (wpAny_newList (wpAny_pure ⟨Code.quiet_builtin _ (by decide +kernel),codeAny_mono filled ?_⟩));rintro r s' ⟨rfl,xs,h',d,n',p,keep,atL,rfl⟩;refine wpAny_bind (wpAny_load atL (wpAny_pure ?_))
 have hints: ∃ns:List Int,IntsAre xs ns/\ns.Perm ks:=by
  have all: ∀v∈xs,∃k tk,v=Value.int k tk:=fun v hv=>by
   obtain⟨e,he,q⟩:=mem_map.mp (p.mem_iff.mp hv);obtain⟨k,tk,r⟩:=tab.item e he;rw[r] at q;exact⟨k,tk,q.symm⟩
  have are: ∀l:List Value,(∀v∈l,∃k tk,v=Value.int k tk)->IntsAre l (l.map kOf):=by
   intro l
   induction l with
   | nil=>intro _;exact .nil
   | cons v l ih =>
    intro hl;obtain⟨k,tk,rfl⟩:=hl v (mem_cons_self ..);exact .cons k tk (ih fun u hu=>hl u (mem_cons_of_mem _ hu))
  refine⟨xs.map kOf,are xs all,?_⟩;have q:=p.map kOf;rw[List.map_map] at q;exact q.trans tab.keys
 obtain⟨ns,hI,pk⟩:=hints
 have len:xs.length=ks.length:=by rw[p.length_eq,length_map,Array.length_toList,size]
 refine wpAny_bind (wpAny_newList ?_);have atN:(h'.push (seqObj "list" xs.toArray 0)).get? h'.objs.size=some (seqObj "list" xs.toArray 0):=Heap.get?_push_size _ rfl;have older:s.heap.objs.size<=h'.objs.size:=Nat.le_of_lt (Heap.lt_size atL);refine wpAny_bind (wpAny_holding (wpAny_call_entry slot_list_sort ⟨_,atN,rfl⟩ entry_list_sort (list_sort_tree atN hI (by omega) fun out ns' i1 i2 i3=>⟨_,rfl,?_⟩) (args_list_sort _)))
 have old: ∀b u,b≠h'.objs.size->(h'.push (seqObj "list" xs.toArray 0)).get? b=some u->(sortedHeap (h'.push (seqObj "list" xs.toArray 0)) h'.objs.size xs out).get? b=some u:=fun b u hb q=>by
  unfold sortedHeap;exact (Heap.get?_update_other _ _ (Ne.symm hb)).trans (Heap.get?_push_of_some _ (Heap.get?_push_of_some _ ((Heap.get?_update_other _ _ (Ne.symm hb)).trans q)))
 refine wpAny_pure ⟨_,rfl,h out ns' h'.objs.size _ d i1 (i2.trans pk) i3 older (fun b u q=>?_) ?_⟩
 .have q1:=keep b u q;exact old b u (Nat.ne_of_lt (Heap.lt_size q1)) (Heap.get?_push_of_some _ q1)
 .unfold sortedHeap;have g1:=get?_update_seq atN (fun _=>(#[]:Array Value));exact⟨_,get?_update_seq (Heap.get?_push_of_some _ (Heap.get?_push_of_some _ g1)) (fun _=>out)⟩
end
end SetS
end
section
namespace L2
open PySem PySem.Spec PyProof.Rows
section
variable {X:Cx}
def qw (w:World) (a:Addr) (ks:List Int):HO:=.ext fun h=>SetS.SetAt (SetS.ledOf w) h a ks
theorem Inv.redrawn {pins:List (Addr×Obj)}{σ:L2.St}{H:Hp}{s:Shared}(I:Inv X pins σ H s)(d:Drawn):Inv X pins σ H { s with drawn:=d }:=by
 cases I
 constructor<;>assumption
theorem DX (hc:X.calm=true):gD X (.type "set") (fun vs H Q=> ∃ (a:Addr) (ns:List Int),vs=[.ref a]/\SqL X.K H a (ns.map V.int)/\ns.length+1 < scanBound/\ ∀p,H p=none->Q (.ref p) (upd H p (qw X.w p (SetS.comes [] ns)))):=by
 intro pins s σ H vs us Q I r h;obtain⟨a,ns,rfl,hs,hz,q⟩:=h;obtain⟨its,rv,hl,_⟩:=I.list hs;rw[Vals.ref1 r];have hlen:=rv.length;rw[length_map] at hlen;refine SetS.set_of_ints (ns:=ns) (I.ok.hd hc) hl.isList (by rw[size_toArray];exact hlen) (fun i v hv=>?_) (by rw[size_toArray];omega) fun h' tk keep at_=>?_
 .have hv':its[i]?=some v:=by simpa using hv
  have hi:i < ns.length:=by rw[hlen];exact (List.getElem?_eq_some_iff.mp hv').1
  obtain⟨u,hu,ru⟩:=rv.get (i:=i) (x:=V.int ns[i]) (by rw[List.getElem?_map,List.getElem?_eq_getElem hi];rfl);rw[hv'] at hu;injection hu with hu;subst hu;obtain⟨t,e⟩:=ru;exact⟨ns[i],t,List.getElem?_eq_getElem hi,e⟩
 .refine⟨.ref s.heap.objs.size,_,I.laid (t':=tk) keep (Nat.le_refl _) ?_,rfl,q _ (I.hok.fresh (Nat.le_refl _))⟩;obtain⟨o,es,ep,t,g,rest⟩:=id at_;exact⟨at_,⟨o,g⟩,fun h1 h2 x k=>x.keep k⟩
theorem Qt (hc:X.calm=true):gD X (.builtin "sorted") (fun vs H Q=> ∃ (p:Addr) (ks:List Int),vs=[.ref p]/\H p=some (qw X.w p ks)/\ks.length < 64/\ ∀ (ns:List Int) (q:Addr),ns.Perm ks->ns.Pairwise (·<=·)->H q=none->Q (.ref q) (upd H q (.lst (ns.map V.int)))):=by
 intro pins s σ H vs us Q I r h;obtain⟨p,ks,rfl,hp,hz,q⟩:=h;rw[Vals.ref1 r];obtain⟨at_,_,_⟩:=I.hok p _ hp;refine SetS.sorted_set (I.ok.hd hc) at_ hz fun out ns pn h' d i1 i2 i3 le keep new=>?_;obtain⟨n,g⟩:=new;have hlen:ns.length=ks.length:=i2.length_eq;have hv:Vals (ns.map V.int) out.toList:=sZ i1;refine⟨.ref pn,_,(I.laid (a:=pn) (o:=.lst (ns.map V.int)) (t':=s.toks) keep le ?_).redrawn d,rfl,q ns pn i2 i3 (I.hok.fresh le)⟩;exact⟨by rw[length_map,hlen];exact pD hz,out.toList,n,hv,by rw[g]⟩
theorem Qu:gD X (.builtin "len") (fun vs H Q=> ∃ (p:Addr) (ks:List Int),vs=[.ref p]/\H p=some (qw X.w p ks)/\ks.length < 4096/\Q (.int ks.length) H):=by
 intro pins s σ H vs us Q I r h;obtain⟨p,ks,rfl,hp,hz,q⟩:=h;rw[Vals.ref1 r];obtain⟨⟨o,es,ep,t,g,ex,data,tab⟩,_,_⟩:=I.hok p _ hp;have sz:=tab.size;refine call_len_set g ex data tab.fit (by omega) ⟨.int ks.length,H,?_,⟨_,by rw[sz]⟩,q⟩;exact (I.tok _).tok _
end
end L2
namespace L2
open PySem PySem.Spec PyProof.Rows
section
variable {X:Cx}
def Qv (ta:TA):TE:=fun σ H Q=>ta σ H fun vs H1=> ∃j:Int,vs=[.int j]/\ -(2 ^ 62)<=j/\j < 2 ^ 62/\ ∀p,H1 p=none->Q (.ref p) (upd H1 p (.rng 0 j))
theorem Qw {a:Expr}{ta:TA}{p pos:Pos}(hg:Gl X "range")(hm:X.mg "range"=none)(ha:PA X [a] ta)(hs:starEach [a] X.env=[(false,eval a X.env)]:=by rfl):PE X (.Call (.Name "range" p) [a] [] pos) (Qv ta):=by
 intro pins s σ H Q I h;refine Call_ (jh I hg hm boot_range (PyProof.Rows.callWith_type1 (thn (ha pos pins s σ H _ I h) fun us s1 ⟨vs,H1,I1,r1,q1⟩=>?_) hs rfl));obtain⟨j,rfl,lo,hi,q⟩:=q1;obtain⟨u,rfl,ru⟩:=vals1 r1;obtain⟨t,rfl⟩:=ru;refine call_range_1 ⟨.ref s1.heap.objs.size,_,I1.laid (fun b o e=>Heap.get?_push_of_some _ e) (Nat.le_refl _) ?_,rfl,q _ (I1.hok.fresh (Nat.le_refl _))⟩;exact⟨_,_,_,Heap.get?_push_size _ rfl⟩
theorem Qx (hc:X.calm=true):gD X (.type "list") (fun vs H Q=> ∃ (p:Addr) (j:Int) (n:Nat),vs=[.ref p]/\H p=some (.rng 0 j)/\ -(2 ^ 62)<=j/\j < 2 ^ 62/\j.toNat=n/\n<=2 ^ 24/\ ∀l,H l=none->Q (.ref l) (upd H l (.lst ((List.range n).map fun (k:Nat)=>V.int k)))):=by
 intro pins s σ H vs us Q I r h;obtain⟨p,j,n,rfl,hp,lo,hi,hn,hz,q⟩:=h;rw[Vals.ref1 r];obtain⟨t,u,v,g⟩:=I.hok p _ hp;refine call_list_range (I.ok.hd hc) (n:=n) g (small_one (by omega) (by omega) lo hi) ?_ hz fun h' tk acc c keep new items=>?_
 .rw[rangeSize_one]
  split<;>omega
 .refine⟨.ref s.heap.objs.size,_,I.laid (t':=tk) keep (Nat.le_refl _) ?_,rfl,q _ (I.hok.fresh (Nat.le_refl _))⟩
  have vs: ∀ (m:Nat) (l:List Value),l.length=m->(∀ (i:Nat) (v:Value),l[i]?=some v-> ∃t,v= .int (i:Nat) t)->Vals ((List.range m).map fun (k:Nat)=>V.int k) l:=by
   intro m
   induction m with
   | zero=>intro l hl _;rw[length_eq_zero_iff.mp hl];exact .nil
   | succ m ih =>
    intro l hl hv
    have hlt:m < l.length:=by omega
    have e:l=l.take m++[l[m]]:=by
     conv=>lhs;rw[<-take_length (l:=l),hl,List.take_succ_eq_append_getElem hlt]
    rw[e,List.range_succ,map_append];refine Vals.append (ih _ (by rw[length_take];omega) fun i v hi'=>?_) (.cons ?_ .nil)
    .rw[List.getElem?_take] at hi';split at hi'
     .exact hv i v hi'
     .cases hi'
    .obtain⟨t,e'⟩:=hv m l[m] (List.getElem?_eq_getElem hlt);exact⟨t,e'⟩
  refine⟨by rw[length_map,length_range,sizeLine_eq];omega,acc.toList,c,vs n acc.toList (by rw[Array.length_toList];exact items.1) fun i v hi'=>?_,by rw[new]⟩;obtain⟨t,e⟩:=items.2 i v (by rw[<-Array.getElem?_toList];exact hi');exact⟨t,by rw[e];simp⟩
end
end L2
namespace DL
open PySem PySem.Spec PyProof.Rows L2
section
variable {ι:Type}{F:ι->Cx}{ρ:Rho}{γ:Gm}{e:Expr}{pos p pos' p':Pos}
theorem DY {ns out:List Int}(h:DLs F e ρ γ (ns.map D.int))(h64:(SetS.comes [] ns).length < 64)(hz:ns.length+1 < scanBound)(hp:out.Perm (SetS.comes [] ns))(hs:out.Pairwise (·<=·))(hc: ∀i,(F i).calm=true)(hg: ∀i,Gl (F i) "sorted")(hm: ∀i,(F i).mg "sorted"=none)(hg2: ∀i,Gl (F i) "set")(hm2: ∀i,(F i).mg "set"=none)
  (he: ∀i,starEach [e] (F i).env=[(false,eval e (F i).env)]:=by intro _;rfl) (he2: ∀i,starEach [.Call (.Name "set" p') [e] [] pos'] (F i).env=[(false,eval (.Call (.Name "set" p') [e] [] pos') (F i).env)]:=by intro _;rfl):DN F (.Call (.Name "sorted" p) [.Call (.Name "set" p') [e] [] pos'] [] pos) ρ γ (out.map D.int) :=
 fun O0 H0 σ H I Q k=>SE.mk2 (fun i=>jQ (Qt (hc i)) (hg i) (hm i) boot_sorted (cH (pq (DX (hc i)) (hg2 i) (hm2 i) PyProof.Rows.boot_set (cH (SE.pe i) cM (he i)) (he:=he i)) cM (he2 i)) (he:=he2 i)) fun i=>h I _ fun ad xs H1 s1 hl _ r1=>by
  have e1:=cW.mp r1;subst e1;refine⟨ad,ns,rfl,SqL.of hl,hz,fun q hq=>⟨q,_,rfl,dC,h64,fun ns' q2 h1 h2 h3=>?_⟩⟩;have eo:ns'=out:=uo (h1.trans hp.symm) h2 hs;subst eo;have s2:aB H1 (upd H1 q (qw (F i).w q (SetS.comes [] ns))):=fB hq;exact k q2 _ _ (s1.trans s2) h3 (by rw[length_map,hp.length_eq];exact pD h64) (cW.mpr rfl)
theorem Qy {ns:List Int}(h:DLs F e ρ γ (ns.map D.int))(hz:ns.length+1 < scanBound)(hc: ∀i,(F i).calm=true)(hg: ∀i,Gl (F i) "len")(hm: ∀i,(F i).mg "len"=none)(hg2: ∀i,Gl (F i) "set")(hm2: ∀i,(F i).mg "set"=none)
  (he: ∀i,starEach [e] (F i).env=[(false,eval e (F i).env)]:=by intro _;rfl) (he2: ∀i,starEach [.Call (.Name "set" p') [e] [] pos'] (F i).env=[(false,eval (.Call (.Name "set" p') [e] [] pos') (F i).env)]:=by intro _;rfl):DP F (.Call (.Name "len" p) [.Call (.Name "set" p') [e] [] pos'] [] pos) ρ γ (.int (SetS.comes [] ns).length) :=
 fun O0 H0 σ H I Q k=>SE.mk2 (fun i=>jQ Qu (hg i) (hm i) PySem.boot_len (cH (pq (DX (hc i)) (hg2 i) (hm2 i) PyProof.Rows.boot_set (cH (SE.pe i) cM (he i)) (he:=he i)) cM (he2 i)) (he:=he2 i)) fun i=>h I _ fun ad xs H1 s1 hl _ r1=>by
  have e1:=cW.mp r1;subst e1;refine⟨ad,ns,rfl,SqL.of hl,hz,fun q hq=>⟨q,_,rfl,dC,?_,k _ _ (s1.trans (fB hq)) (aU.mpr rfl)⟩⟩;have:=SetS.comes_len (l:=ns) (acc:=[]);rw[length_nil] at this;unfold scanBound at hz;omega
theorem Qz {n:Nat}(h:DP F e ρ γ (.int n))(hn:n<=2 ^ 24)(hc: ∀i,(F i).calm=true)(hg: ∀i,Gl (F i) "list")(hm: ∀i,(F i).mg "list"=none)(hg2: ∀i,Gl (F i) "range")(hm2: ∀i,(F i).mg "range"=none)
  (he: ∀i,starEach [e] (F i).env=[(false,eval e (F i).env)]:=by intro _;rfl) (he2: ∀i,starEach [.Call (.Name "range" p') [e] [] pos'] (F i).env=[(false,eval (.Call (.Name "range" p') [e] [] pos') (F i).env)]:=by intro _;rfl):DN F (.Call (.Name "list" p) [.Call (.Name "range" p') [e] [] pos'] [] pos) ρ γ ((List.range n).map fun (k:Nat)=>.int k) :=
 fun O0 H0 σ H I Q k=>SE.mk2 (fun i=>pq (Qx (hc i)) (hg i) (hm i) PyProof.Rows.boot_list (cH (Qw (hg2 i) (hm2 i) (cH (SE.pe i) cM (he i)) (he i)) cM (he2 i)) (he:=he2 i)) fun i=>h I _ fun v H1 s1 r1=>by
  refine⟨(n:Int),by rw[aU.mp r1],by omega,by omega,fun q hq=>⟨q,n,n,rfl,dC,by omega,by omega,by omega,hn,fun l hl=>?_⟩⟩
  have e1:(List.range n).map (fun (k:Nat)=>V.int k)=((List.range n).map fun (k:Nat)=>(k:Int)).map V.int:=by rw[List.map_map];rfl
  have e2:(List.range n).map (fun (k:Nat)=>D.int k)=((List.range n).map fun (k:Nat)=>(k:Int)).map D.int:=by rw[List.map_map];rfl
  refine k l _ _ (s1.trans (fB hq)) hl (by rw[length_map,length_range,sizeLine_eq];omega) ?_;rw[e1,e2];exact cW.mpr rfl
end
end DL
end
section
namespace DL
open PySem PySem.Spec PyProof.Rows L2
section
variable {ι:Type}{F:ι->Cx}{ρ:Rho}{γ:Gm}{a b c e o:Expr}{pos p p2:Pos}{x:D}{l:List D}
theorem Ea {i:Int}(ha:DP F a ρ γ (.int i)):DP F (.UnaryOp .USub a pos) ρ γ (.int (-i)) :=
 fun O0 H0 σ H I Q k=>SE.mk (fun q=>LK Ma (SE.pe q)) (ha I _ fun v H1 s1 r1=>⟨i,aU.mp r1,k _ H1 s1 (aU.mpr rfl)⟩)
theorem QB {α:Type}{xs:List α}{v:α}(h:xs[xs.length - 1]?=some v):atI xs (-1)=some v:=by
 have hl:xs.length - 1 < xs.length:=(List.getElem?_eq_some_iff.mp h).1;unfold atI ixN;rw[if_neg (by decide),if_pos (by omega)];show xs[(-1+(xs.length:Int)).toNat]?=some v;rw[show (-1+(xs.length:Int)).toNat=xs.length - 1 by omega];exact h
theorem Eb (ha:DLs F a ρ γ l)(hb:DP F b ρ γ (.int (-1)))(hx:l[l.length - 1]?=some x)(hs:fL b:=by intro _ _;rfl):DP F (.Subscript a b pos) ρ γ x :=
 fun O0 H0 σ H I Q k'=>SE.mk2 (t:=fun i=>tOp (pB (F i).K) (SE F a) (SE F b)) (fun i=>mQ sW (SE.pe i) (SE.pe i) hs) fun i=>ha I _ fun ad xs H1 s1 hl _ r1=>hb (I.grow s1) _ fun u H2 s2 r2=>by
  obtain⟨v,hv,rv⟩:=aA.get (r1.mono (cD s2)) hx;rw[<-r1.length] at hv;exact⟨ad,xs,-1,v,rfl,aU.mp r2,SqL.of (s2 _ _ hl),QB hv,k' v H2 (s1.trans s2) rv⟩
theorem QC {hi:Int}{xs:List V}(h0:0<=hi):iG xs none (some hi)=xs.take hi.toNat:=by
 unfold iG HT.sIx;simp only;rw[if_neg (by omega),drop_zero,Nat.sub_zero];rcases Nat.le_total hi.toNat xs.length with h | h
 .rw[Nat.min_eq_left h]
 .rw[Nat.min_eq_right h,take_length,List.take_of_length_le h]
theorem QD {hi:Int}(ha:DLs F a ρ γ l)(hc:DP F c ρ γ (.int hi))(h0:0<=hi):DN F (.Subscript a (.Slice none (some c) none p) pos) ρ γ (l.take hi.toNat) :=
 fun O0 H0 σ H I Q k=>SE.mk2 (t:=fun i=>tSl (sX (F i).K) (SE F a) Bb (pA (SE F c))) (fun i=>Bc Bh (SE.pe i) MT (sU (SE.pe i))) fun i=>ha I _ fun ad xs H1 s1 hl hz r1=>hc (I.grow s1) _ fun u3 H3 s3 r3=>⟨hi,aU.mp r3,by
  refine⟨ad,xs,rfl,SqL.of (s3 _ _ hl),fun q hq=>k q _ H3 (s1.trans s3) hq ?_ ?_⟩
  .rw[length_take];omega
  .rw[QC h0]
   exact (r1.mono (cD s3)).take _⟩
def eO (kvs:List (Int×Int)):List (Key×V):=kvs.map fun q=>(Sum.inl q.1,V.int q.2)
theorem uH (n:Int): ∀kvs:List (Int×Int),eZ (eO kvs) (Sum.inl n)=(kvs.lookup n).map V.int
 | []=>rfl
 | (a,b)::kvs=>by
  have ih:=uH n kvs;unfold eZ eO at ih ⊢;rw[map_cons,List.find?_cons,lookup_cons]
  by_cases h:a=n
  .subst h;simp
  .have h1:decide ((Sum.inl a:Key)=Sum.inl n)=false:=decide_eq_false fun q=>h (Sum.inl.inj q)
   have h2:(n==a)=false:=by rw[beq_eq_false_iff_ne];exact fun q=>h q.symm
   rw[h1,h2];exact ih
theorem QF {n m:Int}{kvs:List (Int×Int)}(h:kvs.lookup n=none):putK (eO kvs) (Sum.inl n) (V.int m)=eO (kvs++[(n,m)]):=by
 have hn:((eO kvs).any fun kv=>decide (kv.1=(Sum.inl n:Key)))=false:=by
  induction kvs with
  | nil=>rfl
  | cons q kvs ih =>
   obtain⟨a,b⟩:=q;rw[lookup_cons] at h
   cases hq:n==a with
   | true=>rw[hq] at h;cases h
   | false =>
    rw[hq] at h;show (decide ((Sum.inl a:Key)=Sum.inl n)||(eO kvs).any fun kv=>decide (kv.1=(Sum.inl n:Key)))=false;rw[ih h,Bool.or_false]
    exact decide_eq_false fun q=>by rw[Sum.inl.inj q,beq_self_eq_true] at hq;cases hq
 unfold putK;rw[if_neg (by rw[hn];decide)];unfold eO;rw[map_append];rfl
theorem QG {P:SV->Gm->Prop}(h: ∀a,P (.pt a) ((a,.dct [])::γ)):DG F (.Dict [] [] pos) ρ γ P:=fun O0 H0 σ H I Q k=>SE.mk (fun _=>Om) fun q hq=>by
 refine k (.pt q) _ _ _ (h q) (I.push hq ⟨by rw[sizeLine_eq];show 0<=16777216;decide,rfl⟩) ?_ rfl;refine d8 (fB hq) fun b hb=>?_;rcases aQ.mp hb with z | z
 .exact .inl (aQ.mpr (.inl z))
 .rcases mem_cons.mp z with z | z
  .exact .inr (by rw[z];exact hq)
  .exact .inl (aQ.mpr (.inr z))
theorem nq {ad:Addr}{kvs:List (Int×Int)}{n m:Int}{kr:Nat}(hr: ∀i,aR kr (F i).A)(ho:DR F o ρ γ ad)(hm:(ad,OD.dct kvs)∈γ)(hi:DP F b ρ γ (.int n))(hx:kvs.lookup n=some m)(hs:pH b:=by intro _ _;rfl):DP F (.Subscript o b pos) ρ γ (.int m) :=
 fun O0 H0 σ H I Q k=>SE.mk2 (t:=fun _=>tX (SE F o) (SE F b)) (fun i=>BR (tZ (hr i)) (SE.pe i) (SE.pe i) hs) fun i=>ho I _ fun H1 s1=>hi (I.grow s1) _ fun u H2 s2 r2=>by
  obtain⟨o2,e2,hz,rfl⟩:=((I.grow s1).grow s2).own _ hm;have g:=jR.k (k:=Sum.inl n) e2;rw[show eZ (kvs.map fun q=>((Sum.inl q.1:Key),V.int q.2)) (Sum.inl n)=(kvs.lookup n).map V.int from uH n kvs,hx] at g;rw[aU.mp r2];exact⟨ad,.int m,rfl,g,k _ H2 (s1.trans s2) (aU.mpr rfl)⟩
theorem QH {P:Po}{ad:Addr}{kvs:List (Int×Int)}{n m:Int}{kr:Nat}(hr: ∀i,aR kr (F i).A)(hv:DP F e ρ γ (.int m))(ho:DR F o ρ γ ad)(hm:(ad,OD.dct kvs)∈γ)(hi:DP F b ρ γ (.int n))(hn:kvs.lookup n=none)(hz:kvs.length < sizeLine)(h:P.nx ρ (cF γ ad (.dct (kvs++[(n,m)]))))
  (hs: ∀i,swapsWith e (some (.Subscript o b p)) pos.line (F i).env=pure false:=by intro _;rfl):DS F (.Assign [.Subscript o b p] e pos) ρ γ P :=
 fun O0 H0 σ H I Dn kn kr' kb kc=>SS.mk2 (t:=fun _=>BP (SE F o) (SE F b) (SE F e)) (fun i=>Oi (tZ (hr i)) (SE.pe i) (SE.pe i) (SE.pe i) (hs i)) fun i=>hv I _ fun v H1 s1 r1=>ho (I.grow s1) _ fun H2 s2=>hi ((I.grow s1).grow s2) _ fun u H3 s3 r3=>by
  have I3:=((I.grow s1).grow s2).grow s3;obtain⟨o2,e2,hz2,rfl⟩:=I3.own _ hm;have g:=mW.k (k:=Sum.inl n) (v:=v) e2 (by rw[length_map];exact hz);rw[aU.mp r3];refine⟨ad,_,rfl,g,?_⟩;rw[aU.mp r1];have ep:putK (kvs.map fun q=>((Sum.inl q.1:Key),V.int q.2)) (Sum.inl n) (V.int m)=eO (kvs++[(n,m)]):=QF hn;rw[ep];obtain⟨E,ev⟩:=I3.write (w:=.dct (kvs++[(n,m)])) (o:=.dK (eO (kvs++[(n,m)]))) hm ⟨by rw[length_append];exact hz,rfl⟩;exact kn _ _ _ _ h E
end
end DL
end
section
namespace DL
open PySem PySem.Spec PyProof.Rows L2
section
variable {prog:Program}{w:World}{A:Around}{E:Value->Shared->Prop}{s:Shared}{R:Result->Shared->Prop}
theorem cmp_gt {a b:Int}{t u:Tok}{Q:Value->Shared->Prop}(h:Q (.bool (decide (a > b))) s):wpAny (model prog w) A (richCompare .Gt (.int a t) (.int b u)) Q E s :=
 CmpOf.ints_gt (P:=fun i v=> ∃t,v=Value.int (if i=0 then a else b) t) (fun i=>if i=0 then a else b) (fun _ _ h=>h) 0 1 _ _ s Q E ⟨t,rfl⟩ ⟨u,rfl⟩ h
def qx (ns:List Int) (m M:Int):Prop:=(M=m\/M∈ns)/\m<=M/\ ∀y∈ns,y<=M
theorem qx.step {ns:List Int}{a m M:Int}(h:qx ns (if a > m then a else m) M):qx (a::ns) m M:=by
 obtain⟨h1,h2,h3⟩:=h
 by_cases q:a > m
 .rw[if_pos q] at h1 h2;refine⟨.inr ?_,by omega,fun y hy=>?_⟩
  .rcases h1 with e | e
   .rw[e];exact mem_cons_self ..
   .exact mem_cons_of_mem _ e
  .rcases mem_cons.mp hy with e | e
   .omega
   .exact h3 y e
 .rw[if_neg q] at h1 h2;refine⟨h1.imp id fun e=>mem_cons_of_mem _ e,h2,fun y hy=>?_⟩;rcases mem_cons.mp hy with e | e
  .omega
  .exact h3 y e
abbrev nA (xs:Array Value) (c:Nat):Obj:={ cls:=.type "list",dict:=none,data:=.seq xs c,slots:= #[] }
theorem QJ {I S:Addr}{fp wr:List Addr}{n:Nat}{P:Nat->Value->Prop}{St:Nat->Heap->Prop}(W:Walks prog w A.in1 I fp wr n P St)(hSf:S∉fp)(kw:List (Str×Value)){ns:List Int}(hP: ∀i v,P i v-> ∃k t,ns[i]?=some k/\v= .int k t)(hn:ns.length=n) :
  ∀ (r j:Nat) (s:Shared) (m:Int) (t:Tok) (c:Nat),j+r=n->St j s.heap->s.heap.get? S=some (nA #[.int m t,.int m t] c) ->
  (∀M t' h' tk,qx (ns.drop j) m M->(∀b o,b∉wr->b≠S->s.heap.get? b=some o->h'.get? b=some o)->R (.ok (.ret (.int M t'))) { s with heap:=h',toks:=tk }) ->
  codeAny (model prog w) A (.builtin "max.loop" ⟨[.ref I,.none,.ref S],kw⟩) R s:=by
 have hSw:S∉wr:=fun h=>hSf (W.sub _ h)
 have nm:(toString "max"++toString ".loop":String)="max.loop":=by decide
 intro r
 induction r with
 | zero =>
  intro j s m t c hj hst hS k;refine codeAny_builtin F.entry_max_loop ?_;rw[Around.under_plainId F.plain_max_loop _];refine wpAny_bind (wpAny_seqItems hS rfl ?_);show wpAny _ A.in1 (tryCatch (pyNext (.ref I)) _ >>= _) _ _ s;refine wpAny_bind (wpAny_tryCatch (W.done s _ _ ((show j=n from hj) ▸ hst) fun h' tk hk=>?_));have hS2:=hk S _ hSw hS;refine wpAny_bind ?_;refine wpAny_updateSeq hS2 rfl (wpAny_bind (wpAny_letGo (wpAny_pure ?_)));refine k m t _ tk ⟨.inl rfl,Int.le_refl _,fun y hy=>?_⟩ fun b o h1 h2 e=>(Heap.get?_update_other _ _ (Ne.symm h2)).trans (hk b o h1 e);rw[List.drop_eq_nil_of_le (by omega)] at hy;cases hy
 | succ r ih =>
  intro j s m t c hj hst hS k;refine codeAny_builtin F.entry_max_loop ?_;rw[Around.under_plainId F.plain_max_loop _];refine wpAny_bind (wpAny_seqItems hS rfl ?_);show wpAny _ A.in1 (tryCatch (pyNext (.ref I)) _ >>= _) _ _ s;refine wpAny_bind (wpAny_tryCatch (W.item j s _ _ (by omega) hst fun v h' tk hv hst2 hk=>?_));have hS2:=hk S _ hSw hS;obtain⟨a,u,ha,rfl⟩:=hP j v hv
  have hd:ns.drop j=a::ns.drop (j+1):=by
   obtain⟨hl,e⟩:=List.getElem?_eq_some_iff.mp ha;rw[drop_eq_getElem_cons hl,e]
  rw[hd] at k;refine wpAny_bind (wpAny_pure ?_);refine wpAny_bind (wpAny_tryCatch (wpAny_holding (wpAny_bind (cmp_gt ?_))));refine wpAny_bind (wpAny_holding (wpAny_truthy_bool ?_));refine wpAny_bind (wpAny_letGo (wpAny_pure ?_))
  by_cases q:a > m
  .rw[decide_eq_true q];simp only[if_true];refine wpAny_bind ?_;refine wpAny_updateSeq hS2 rfl (wpAny_bind (wpAny_letGo ?_));rw[nm];refine wpAny_pure ⟨plainId_quiet F.plain_max_loop _,ih (j+1) _ a u _ (by omega) (W.frame _ _ _ hst2 fun b hb o e=>?_) (Heap.get?_update_self _ hS2 rfl) fun M t' h2 tk2 hM hk2=>?_⟩
   .exact (Heap.get?_update_other _ _ (fun z:S=b=>hSf (by rw[z];exact hb))).trans e
   .exact k M t' h2 tk2 (.step (by rw[if_pos q];exact hM)) fun b o h1 h3 e=>hk2 b o h1 h3 ((Heap.get?_update_other _ _ (Ne.symm h3)).trans (hk b o h1 e))
  .rw[decide_eq_false q];simp only[Bool.false_eq_true,if_false];refine wpAny_bind (wpAny_letGo ?_);rw[nm];refine wpAny_pure ⟨plainId_quiet F.plain_max_loop _,ih (j+1) _ m t c (by omega) hst2 hS2 fun M t' h2 tk2 hM hk2=>?_⟩;exact k M t' h2 tk2 (.step (by rw[if_neg q];exact hM)) fun b o h1 h3 e=>hk2 b o h1 h3 (hk b o h1 e)
theorem QK (a v:Value):argsOk "max" ⟨[a],[(Str.ofString "default",v)]⟩:=by unfold argsOk;kernel_rfl
theorem QL {l:Addr}{xs:Array (Int×Tok)}{d:Value}{Q:Value->Shared->Prop}(hh:A.handled=none)(hl:s.heap.IsList l (intItems xs))
  (h0:xs.size=0-> ∀h' tk,(∀b o,s.heap.get? b=some o->h'.get? b=some o)->Q d { s with heap:=h',toks:=tk })
  (h: ∀M t' h' tk,M∈xs.toList.map (·.1)->(∀y∈xs.toList.map (·.1),y<=M)->(∀b o,s.heap.get? b=some o->h'.get? b=some o)->Q (.int M t') { s with heap:=h',toks:=tk }) :
  wpAny (model prog w) A (call (.builtin "max") [.ref l] [(Str.ofString "default",d)]) Q E s:=by
 have nm:(toString "max"++toString ".loop":String)="max.loop":=by decide
 refine kmb_tree F.kind_max F.plain_max F.entry_max (QK _ _) ?_;show wpAny _ A.in1 (Builtin.Builtins.bindParams "max" ["key","default"] 0 ⟨[],[(Str.ofString "default",d)]⟩ >>= _) _ _ s;refine wpAny_bind (wpAny_of_eq (show Builtin.Builtins.bindParams "max" ["key","default"] 0 ⟨[],[(Str.ofString "default",d)]⟩=pure [none,some d] from rfl) ?_);refine wpAny_bind (wpAny_pure ?_);refine wpAny_bind (iter_intList hl fun s2 e st hfp hlI=>?_);have W:=Walks.list (prog:=prog) (w:=w) (A:=A.in1) hh s.heap.objs.size l hlI (intItems xs)
 have hsz:(intItems xs).size=xs.size:=by unfold intItems;rw[Array.size_map]
 refine wpAny_bind (wpAny_newObj_type ?_);have hSf:s2.heap.objs.size∉[s.heap.objs.size,l]:=fun hm=>Nat.lt_irrefl _ (hfp _ hm);have hst:=W.frame _ _ (s2.heap.push (nA #[] 0)) st fun b _ o e=>Heap.get?_push_of_some _ e
 have old: ∀{h':Heap},(∀b o,b∉[s.heap.objs.size]->b≠s2.heap.objs.size->(s2.heap.push (nA #[] 0)).get? b=some o->h'.get? b=some o)-> ∀b o,s.heap.get? b=some o->h'.get? b=some o:=fun {h'} hk b o e2=>by
  subst e;have hlt:=Heap.lt_size e2;refine hk b o (fun q=>?_) (fun q=>?_) (Heap.get?_push_of_some _ (Heap.get?_push_of_some _ e2))
  .rw[mem_singleton.mp q] at hlt;exact Nat.lt_irrefl _ hlt
  .rw[q] at hlt;have hq:(s.heap.push { cls:=.type "list_iterator",data:=.fields #[.ref l,.int 0 0] }).objs.size=s.heap.objs.size+1:=Heap.size_push ..;have hlt2:(s.heap.push { cls:=.type "list_iterator",data:=.fields #[.ref l,.int 0 0] }).objs.size < s.heap.objs.size:=hlt;omega
 rw[nm];have hSn:(s2.heap.push (nA #[] 0)).get? s2.heap.objs.size=some (nA #[] 0):=Heap.get?_push_size _ rfl;have hSw:s2.heap.objs.size∉[s.heap.objs.size]:=fun q=>hSf (by rw[mem_singleton.mp q];exact mem_cons_self ..)
 have hPi: ∀i v,(intItems xs)[i]?=some v-> ∃k t,(xs.toList.map (·.1))[i]?=some k/\v=Value.int k t:=fun i v hv=>by
  unfold intItems at hv;rw[Array.getElem?_map] at hv;obtain⟨p,hp,rfl⟩:=Option.map_eq_some_iff.mp hv;refine⟨p.1,p.2,?_,rfl⟩;rw[List.getElem?_map,Array.getElem?_toList,hp];rfl
 refine wpAny_pure ⟨plainId_quiet F.plain_max_loop _,codeAny_builtin F.entry_max_loop ?_⟩;rw[Around.under_plainId F.plain_max_loop _];refine wpAny_bind (wpAny_seqItems hSn rfl ?_);show wpAny _ A.in1 (tryCatch (pyNext (.ref s.heap.objs.size)) _ >>= _) _ _ _;rcases Nat.eq_zero_or_pos xs.size with z | z
 .have h00:=h0 z;refine wpAny_bind (wpAny_tryCatch (W.done _ _ _ (by rw[hsz,z];exact hst) fun h' tk hk=>?_));refine wpAny_bind (wpAny_rule ?_);subst e;exact wpAny_pure (h00 h' tk (old fun b o h1 _ e=>hk b o h1 e))
 .refine wpAny_bind (wpAny_tryCatch (W.item 0 _ _ _ (by rw[hsz];exact z) hst fun v h' tk hv hst2 hk=>?_));have hS2:=hk _ _ hSw hSn;obtain⟨a,u,ha,rfl⟩:=hPi 0 v hv
  have hd:xs.toList.map (·.1)=a::(xs.toList.map (·.1)).drop 1:=by
   obtain⟨hl2,e2⟩:=List.getElem?_eq_some_iff.mp ha;rw[<-drop_zero (l:=xs.toList.map (·.1)),drop_eq_getElem_cons hl2,e2];rfl
  refine wpAny_bind (wpAny_pure ?_);refine wpAny_bind ?_;refine wpAny_updateSeq hS2 rfl ?_;rw[nm];refine wpAny_pure ⟨plainId_quiet F.plain_max_loop _,QJ (r:=xs.size - 1) W hSf _ hPi (by rw[hsz,length_map,Array.length_toList]) 1 _ a u _ (by rw[hsz];omega) (W.frame _ _ _ hst2 fun b hb o e2=>?_) (Heap.get?_update_self _ hS2 rfl) fun M t' h2 tk2 hM hk2=>?_⟩
  .exact (Heap.get?_update_other _ _ (fun q=>hSf (by rw[q];exact hb))).trans e2
  .subst e;refine h M t' h2 tk2 ?_ ?_ (old fun b o h1 h3 e2=>hk2 b o h1 h3 ((Heap.get?_update_other _ _ (Ne.symm h3)).trans (hk b o h1 e2)))
   .rw[hd];rcases hM.1 with q | q
    .rw[q];exact mem_cons_self ..
    .exact mem_cons_of_mem _ q
   .intro y hy;rw[hd] at hy;rcases mem_cons.mp hy with q | q
    .rw[q];exact hM.2.1
    .exact hM.2.2 y q
end
section
variable {X:Cx}{e:Expr}{p pos kp kq:Pos}{j:Nat}{i:Int}
def uI (i:Int) (ns:List Int) (m:Int):Prop:=(ns=[]/\m=i)\/(m∈ns/\ ∀y∈ns,y<=m)
def QM (K:Frag) (i:Int) (ta:TA):TE:=fun σ H Q=>ta σ H fun vs H1=> ∃a ns m,vs=[.ref a]/\SqL K H1 a (ns.map V.int)/\uI i ns m/\Q (.int m) H1
theorem QQ {ta:TA}(hc:X.calm=true)(hg:Gl X "max")(hm:X.mg "max"=none)(ha:PA X [e] ta)(he:starEach [e] X.env=[(false,eval e X.env)]:=by rfl)
  (hk:backToKw pos (keywordEach [⟨some "default",.Constant (.int i) j kp,kq⟩] X.env)=[(some ("default":Str),do let v <-eval (.Constant (.int i) j kp) X.env;standAt pos;pure v)]:=by rfl):PE X (.Call (.Name "max" p) [e] [⟨some "default",.Constant (.int i) j kp,kq⟩] pos) (QM X.K i ta):=by
 intro pins s σ H Q I h;refine wpAny_Call_Name_kw (jh I hg hm PyProof.Rows.boot_max ?_);refine PyProof.Rows.callWith_kw (thn (ha pos pins s σ H _ I h) fun us s1 ⟨vs,H1,I1,r,q⟩=>?_) (by rw[he];rfl) (by rw[he];rfl) (by rw[hk];rfl) (by rw[hk];rfl);obtain⟨a,ns,m,rfl,hs,hM,q⟩:=q;refine PyProof.Rows.kws_cons (wpAny_Constant_int (PyProof.Rows.kws_nil ?_));have I2:=I1.tok (s1.toks+1);obtain⟨its,rv,hl,_⟩:=I2.list hs;rw[Vals.ref1 r,hk];obtain⟨xs,e⟩:=rv.ints.allInts.items
 have hn:numsOf (intItems xs).toList=ns:=by rw[<-e];exact rv.ints.numsOf
 rw[nums_intItems] at hn;have hl2:=hl.isList;rw[e] at hl2
 refine QL (I2.ok.hd hc) hl2 (fun z h' tk hkk=>⟨.int m,H1,I2.kept hkk,?_,q⟩) fun M t' h' tk h1 h2 hkk=>⟨.int m,H1,I2.kept hkk,⟨t',?_⟩,q⟩
 .rcases hM with⟨rfl,rfl⟩ | ⟨h1,_⟩
  .exact⟨_,rfl⟩
  .have:ns=[]:=by
    rw[<-hn];exact List.eq_nil_of_length_eq_zero (by rw[length_map,Array.length_toList];exact z)
   rw[this] at h1;cases h1
 .rw[hn] at h1 h2;rcases hM with⟨rfl,_⟩ | ⟨h3,h4⟩
  .cases h1
  .have:M=m:=Int.le_antisymm (h4 M h1) (h2 m h3);rw[this]
end
section
variable {ι:Type}{F:ι->Cx}{ρ:Rho}{γ:Gm}{e:Expr}{p pos kp kq:Pos}{j:Nat}{i:Int}
theorem QR {ns:List Int}{m:Int}(h:DLs F e ρ γ (ns.map D.int))(hM:uI i ns m)(hc: ∀q,(F q).calm=true)(hg: ∀q,Gl (F q) "max")(hm: ∀q,(F q).mg "max"=none)(he: ∀q,starEach [e] (F q).env=[(false,eval e (F q).env)]:=by intro _;rfl)
  (hk: ∀q,backToKw pos (keywordEach [⟨some "default",.Constant (.int i) j kp,kq⟩] (F q).env)=[(some ("default":Str),do let v <-eval (.Constant (.int i) j kp) (F q).env;standAt pos;pure v)]:=by intro _;rfl):DP F (.Call (.Name "max" p) [e] [⟨some "default",.Constant (.int i) j kp,kq⟩] pos) ρ γ (.int m) :=
 fun O0 H0 σ H I Q k=>SE.mk2 (fun q=>QQ (hc q) (hg q) (hm q) (cH (SE.pe q) cM (he q)) (he q) (hk q)) fun q=>h I _ fun ad xs H1 s1 hl _ r1=>by
  have e:=cW.mp r1;subst e;exact⟨ad,ns,m,rfl,SqL.of hl,hM,k _ H1 s1 (aU.mpr rfl)⟩
end
end DL
end
section
namespace DL
open PySem PySem.Spec PyProof.Rows L2
abbrev gH (TI TO:Addr) (f0 f1:Value):Obj:={ cls:=.type "zip",dict:=none,data:=.fields #[f0,f1,.bool false,.ref TI,.ref TO],slots:= #[] }
theorem QS:entryFor table "zip.__getattribute__"=some Builtin.«object.__getattribute__» :=entryFor_alias (id':="object.__getattribute__") (by kernel_rfl) (by decide +kernel) (by decide +kernel) (by kernel_rfl)
theorem QT:typeLookup (.type "zip") "__getattr__"=pure none:=by rw[typeLookup_type,builtinLookup_eq_fast];kernel_rfl
theorem QV:typeLookup (.type "zip") "keys"=pure none:=by rw[typeLookup_type,builtinLookup_eq_fast];kernel_rfl
theorem QW:(["__module__","__name__","__qualname__","__doc__","__annotations__"]:List Str).contains "keys"=false:=by decide +kernel
theorem QX (a TI TO:Addr)(f0 f1:Value)(u:Tok):Meets (Builtin.«object.__getattribute__» ⟨[.ref a,.str "keys" u],[]⟩) (fun A R s=>s.heap.get? a=some (gH TI TO f0 f1)/\raisesAttr (.ref a) "keys" A R s):=Meets.of_wp fun prog w A R s hs=>by
 obtain⟨hp,g,d,tk,os⟩:=s;obtain⟨hx,hs⟩:=hs
 have hT:(⟨hp,g,d,tk,os⟩:Shared).TypeIs (.ref a) "zip":=⟨_,hx,rfl⟩
 have hmiss:=QV;have hname:=QW;unfold Builtin.«object.__getattribute__»
 repeat (any_goals (first | assumption | wp_step))
 exact wpAny_raiseAttrError hs.1 hs.2 (attrMsg_fits (by decide +kernel) (by size_fits))
section
variable {prog:Program}{w:World}{A:Around}{E:Value->Shared->Prop}{s:Shared}
theorem QZ {a TI TO:Addr}{f0 f1:Value}{Q:Option Value->Shared->Prop}(hx:s.heap.get? a=some (gH TI TO f0 f1))(hA:A.handled=none)(h: ∀h' tk,(∀b o,s.heap.get? b=some o->h'.get? b=some o)->Q none { s with heap:=h',toks:=tk }):wpAny (model prog w) A (getAttr? (.ref a) "keys") Q E s:=by
 obtain⟨hp,g,d,tk,os⟩:=s
 have hT: ∀tk',(⟨hp,g,d,tk',os⟩:Shared).TypeIs (.ref a) "zip":=fun _=>⟨_,hx,rfl⟩
 have f1:=sub_AttributeError;have f3:=F.slot_zip_getattribute.lookup;have f4:=F.slot_zip_getattribute.bind (.ref a);have f5:=QT;unfold getAttr? getAttrBy? getAttrBy
 repeat (any_goals (first | assumption | exact hT _ | ((with_reducible show wpAny _ _ (call (Value.builtin "zip.__getattribute__") _ _) _ _ _);refine call_meets F.slot_zip_getattribute (hT _) QS (F.args_zip_getattribute_2 _ _) (QX a TI TO _ _ _) ⟨hx,hA,fun h' tk' e hx'=>?_⟩) | wp_step))
 obtain⟨t',u',he⟩:=hx'.there;show wpAny _ _ (getattributeRaised _ _ _ _ _ _ _) _ _ _;unfold getattributeRaised
 repeat (any_goals (first | assumption | wp_step))
 exact h _ _ hx'.keeps
end
end DL
end
section
namespace DL
open PySem PySem.Spec PyProof.Rows L2
section
variable {prog:Program}{w:World}{A:Around}{E:Value->Shared->Prop}{s:Shared}
structure gZ (h:Heap) (z TI TO i1 i2 l1 l2:Addr) (xs ys:Array Value) (k:Nat):Prop where
 ap:ZipApart z TI TO i1 i2 l1 l2
 ti:IsPair h TI (.ref i1) (.ref i2)
 to: ∃a b,IsPair h TO a b
 p1:h.IsListIter i1 l1 k
 p2:h.IsListIter i2 l2 k
 q1:h.IsList l1 xs
 q2:h.IsList l2 ys
theorem Ec {z TI TO T:Addr}{oT:Obj}{f1:Value}{Q:Bool->Shared->Prop}(hz:s.heap.get? z=some (gH TI TO (rawInt T) f1))(hT:s.heap.get? T=some oT)(h: ∀h0 f,h0.get? z=some (gH TI TO (rawInt T) f)->Heap.SameBut z s.heap h0->Q false { s with heap:=h0 }):wpAny (model prog w) A (Builtin.SmallTypes.ownedTupleIsFree (.ref z)) Q E s:=by
 unfold Builtin.SmallTypes.ownedTupleIsFree;refine wpAny_bind (wpAny_field hz rfl (x:=rawInt T) rfl ?_);show wpAny _ _ (loadIfAlive T >>= _) _ _ _;refine wpAny_bind (PySem.W.kdx_alive hT ?_);simp only[Option.isNone_some,Bool.false_eq_true,if_false];refine wpAny_bind (wpAny_field hz rfl (x:=f1) rfl ?_)
 by_cases q:(f1 != Value.bool true)=true
 .rw[if_pos q];exact wpAny_bind (wpAny_setField_rec hz (by simp) fun h0 hz0 sb=>wpAny_pure (h h0 _ hz0 sb))
 .rw[if_neg q];exact wpAny_pure (h s.heap f1 hz ⟨rfl,fun _ _=>rfl⟩)
theorem Q3 {z TI TO i1 i2 l1 l2 T:Addr}{oT:Obj}{f1:Value}{xs ys:Array Value}{k:Nat}{x y:Value}{Q:Option Value->Shared->Prop}(Z:gZ s.heap z TI TO i1 i2 l1 l2 xs ys k)(hz:s.heap.get? z=some (gH TI TO (rawInt T) f1))(hT:s.heap.get? T=some oT)(hx:xs[k]?=some x)(hy:ys[k]?=some y)
  (hQ: ∀h' f,h'.get? z=some (gH TI TO (rawInt T) f)->h'.IsListIter i1 l1 (k+1)->h'.IsListIter i2 l2 (k+1)->IsPair h' s.heap.objs.size x y->(∀c o,c≠z->c≠i1->c≠i2->s.heap.get? c=some o->h'.get? c=some o)->Q (some (.ref s.heap.objs.size)) { s with heap:=h' }) :
  wpAny (model prog w) A (pyNext (.ref z)) Q E s:=by
 have hTy:s.TypeIs (.ref z) "zip":=⟨_,hz,rfl⟩
 unfold pyNext;refine wpAny_bind (wpAny_attempt (wpAny_callSpecial?_slot (name:=Str.ofString "__next__") hTy F.slot_zip_next (wpAny_call_entry F.slot_zip_next hTy F.entry_zip_next ?_ (F.args_zip_next_1 _))));show wpAny _ _ (field (.ref z) 2 >>= _) _ _ _;refine wpAny_bind (wpAny_field hz rfl (x:=.bool false) rfl ?_);show wpAny _ _ (field (.ref z) 3 >>= _) _ _ _;refine wpAny_bind (wpAny_field hz rfl (x:=.ref TI) rfl ?_);refine wpAny_bind (wpAny_seqItems Z.ti rfl ?_);show wpAny _ _ (Builtin.SmallTypes.ownedTupleIsFree (.ref z) >>= _) _ _ _;refine wpAny_bind (Ec hz hT fun h0 f hz0 sb=>?_);have D:=Z.ap;have a1:=Z.p1.extBut sb.extBut D.i1z;have a2:=Z.p2.extBut sb.extBut D.i2z;have b1:=Z.q1.extBut sb.extBut D.l1z;have b2:=Z.q2.extBut sb.extBut D.l2z;simp only[Bool.false_eq_true,if_false];rw[<-Array.forIn_toList];refine wpAny_bind ?_;simp only[forIn_cons,forIn_nil];refine wpAny_bind (wpAny_bind (wpAny_holding ?_));show wpAny _ _ (Builtin.SmallTypes.nextOf (.ref i1) >>= _) _ _ _;refine wpAny_bind (wpAny_nextOf_list_item a1 b1 hx fun h1 c1 s1=>wpAny_pure (wpAny_pure ?_));refine wpAny_bind (wpAny_bind (wpAny_holding ?_));show wpAny _ _ (Builtin.SmallTypes.nextOf (.ref i2) >>= _) _ _ _;refine wpAny_bind (wpAny_nextOf_list_item (a2.extBut s1.extBut D.i12.symm) (b2.extBut s1.extBut D.l2i1) hy fun h2 c2 s2=>wpAny_pure (wpAny_pure (wpAny_pure ?_)));have hz2:h2.get? z=some (gH TI TO (rawInt T) f):=s2.extBut _ _ D.i2z.symm (s1.extBut _ _ D.i1z.symm hz0)
 have hs2:h2.objs.size=s.heap.objs.size:=by rw[s2.1,s1.1,sb.1]
 refine wpAny_bind (wpAny_newTuple ?_ (by show 2<=sizeLine;rw[sizeLine_eq];decide));refine wpAny_pure ⟨_,rfl,wpAny_pure ?_⟩;show Q (some (.ref h2.objs.size)) _;rw[hs2];have up: ∀c o,h2.get? c=some o->(h2.push { cls:=.type "tuple",data:=.seq #[x,y] }).get? c=some o:=fun c o e=>Heap.get?_push_of_some _ e;refine hQ _ f (up _ _ hz2) ((c1.extBut s2.extBut D.i12).at fun o e=>up _ o e) (c2.at fun o e=>up _ o e) ?_ fun c o n1 n2 n3 e=>up _ _ (s2.extBut _ _ n3 (s1.extBut _ _ n2 (sb.extBut _ _ n1 e)));rw[<-hs2];exact Heap.get?_push_size _ rfl
theorem Q4 {z TI TO i1 i2 l1 l2 T:Addr}{oT:Obj}{f1:Value}{xs ys:Array Value}{k:Nat}{Q:Option Value->Shared->Prop}(hh:A.handled=none)(Z:gZ s.heap z TI TO i1 i2 l1 l2 xs ys k)(hz:s.heap.get? z=some (gH TI TO (rawInt T) f1))(hT:s.heap.get? T=some oT)(hx:xs[k]?=none)
  (hQ: ∀h',(∀c o,c≠z->c≠i1->c≠i2->s.heap.get? c=some o->h'.get? c=some o)->Q none { s with heap:=h' }):wpAny (model prog w) A (pyNext (.ref z)) Q E s:=by
 have hTy:s.TypeIs (.ref z) "zip":=⟨_,hz,rfl⟩
 unfold pyNext;refine wpAny_bind (wpAny_attempt (wpAny_callSpecial?_slot (name:=Str.ofString "__next__") hTy F.slot_zip_next (wpAny_call_entry F.slot_zip_next hTy F.entry_zip_next ?_ (F.args_zip_next_1 _))));show wpAny _ _ (field (.ref z) 2 >>= _) _ _ _;refine wpAny_bind (wpAny_field hz rfl (x:=.bool false) rfl ?_);show wpAny _ _ (field (.ref z) 3 >>= _) _ _ _;refine wpAny_bind (wpAny_field hz rfl (x:=.ref TI) rfl ?_);refine wpAny_bind (wpAny_seqItems Z.ti rfl ?_);show wpAny _ _ (Builtin.SmallTypes.ownedTupleIsFree (.ref z) >>= _) _ _ _;refine wpAny_bind (Ec hz hT fun h0 f hz0 sb=>?_);have D:=Z.ap;have a1:=Z.p1.extBut sb.extBut D.i1z;have b1:=Z.q1.extBut sb.extBut D.l1z;simp only[Bool.false_eq_true,if_false];rw[<-Array.forIn_toList];refine wpAny_bind ?_;simp only[forIn_cons,forIn_nil];refine wpAny_bind (wpAny_bind (wpAny_holding ?_));show wpAny _ _ (Builtin.SmallTypes.nextOf (.ref i1) >>= _) _ _ _;refine wpAny_bind (wpAny_nextOf_list_end hh a1 b1 hx fun h1 e s1 he=>?_);obtain⟨o,ho,hc⟩:=he;refine wpAny_bind (wpAny_isInstance (T:="StopIteration") (b:=true) ⟨o,ho,hc⟩ isSubtype_stop ?_);exact wpAny_pure (hQ h1 fun c o n1 n2 _ q=>s1 _ _ n2 (sb.extBut _ _ n1 q))
end
end DL
end
section
namespace DL
open PySem PySem.Spec PyProof.Rows L2
theorem Ed:entryFor table "dict.update.loop"=some Builtin.«dict.update.loop» :=entryFor_of_tree (by kernel_rfl)
theorem qz:plainId "dict.update.loop"=true:=by decide +kernel
section
variable {prog:Program}{w:World}{A:Around}{E:Value->Shared->Prop}{s:Shared}{R:Result->Shared->Prop}
def j7 (h:Heap) (z TI TO:Addr):Prop:=h.get? z=some (gH TI TO .none (.bool false))\/ ∃ (T:Addr) (oT:Obj) (f:Value),h.get? z=some (gH TI TO (rawInt T) f)/\h.get? T=some oT/\T≠z
theorem Q5 {z TI TO i1 i2 l1 l2:Addr}{xs ys:Array Value}{k:Nat}{x y:Value}{Q:Option Value->Shared->Prop}(Z:gZ s.heap z TI TO i1 i2 l1 l2 xs ys k)(hm:j7 s.heap z TI TO)(hx:xs[k]?=some x)(hy:ys[k]?=some y)
  (hQ: ∀h',j7 h' z TI TO->gZ h' z TI TO i1 i2 l1 l2 xs ys (k+1)->IsPair h' s.heap.objs.size x y->(∀c o,c≠z->c≠TO->c≠i1->c≠i2->s.heap.get? c=some o->h'.get? c=some o)->Q (some (.ref s.heap.objs.size)) { s with heap:=h' }) :
  wpAny (model prog w) A (pyNext (.ref z)) Q E s:=by
 have D:=Z.ap;obtain⟨a,b,hTO⟩:=Z.to;rcases hm with hz | ⟨T,oT,f,hz,hT,hne⟩
 .refine wpAny_pyNext_zip_item D hz Z.ti hTO Z.p1 Z.p2 Z.q1 Z.q2 hx hy fun h' z' TO' h1' h2' hp hsz hk=>?_;have hlt:=Heap.lt_size hz;exact hQ h' (.inr ⟨_,_,_,z',hp,Nat.ne_of_gt hlt⟩) ⟨D,hk _ _ D.TIz D.TITO D.TIi1 D.TIi2 Z.ti,⟨_,_,TO'⟩,h1',h2',Z.q1.at fun o e=>hk _ o D.l1z D.l1TO D.l1i1 D.l1i2 e,Z.q2.at fun o e=>hk _ o D.l2z D.l2TO D.l2i1 D.l2i2 e⟩ hp hk
 .refine Q3 Z hz hT hx hy fun h' f' z' h1' h2' hp hk=>?_
  have hT2: ∃o2,h'.get? T=some o2:=by
   by_cases e1:T=i1
   .obtain⟨o2,e2,_⟩:=h1';exact⟨o2,by rw[e1];exact e2⟩
   .by_cases e2:T=i2
    .obtain⟨o2,e3,_⟩:=h2';exact⟨o2,by rw[e2];exact e3⟩
    .exact⟨oT,hk T oT hne e1 e2 hT⟩
  obtain⟨o2,hT2⟩:=hT2;exact hQ h' (.inr ⟨T,o2,f',z',hT2,hne⟩) ⟨D,hk _ _ D.TIz D.TIi1 D.TIi2 Z.ti,⟨_,_,hk _ _ D.TOz D.TOi1 D.TOi2 hTO⟩,h1',h2',Z.q1.at fun o e=>hk _ o D.l1z D.l1i1 D.l1i2 e,Z.q2.at fun o e=>hk _ o D.l2z D.l2i1 D.l2i2 e⟩ hp fun c o n1 _ n3 n4 e=>hk c o n1 n3 n4 e
theorem Q6 {z TI TO i1 i2 l1 l2:Addr}{xs ys:Array Value}{k:Nat}{Q:Option Value->Shared->Prop}(hh:A.handled=none)(Z:gZ s.heap z TI TO i1 i2 l1 l2 xs ys k)(hm:j7 s.heap z TI TO)(hx:xs[k]?=none)
  (hQ: ∀h',(∀c o,c≠z->c≠TO->c≠i1->c≠i2->s.heap.get? c=some o->h'.get? c=some o)->Q none { s with heap:=h' }):wpAny (model prog w) A (pyNext (.ref z)) Q E s:=by
 obtain⟨a,b,hTO⟩:=Z.to;rcases hm with hz | ⟨T,oT,f,hz,hT,hne⟩
 .exact wpAny_pyNext_zip_end hh Z.ap hz Z.ti hTO Z.p1 Z.p2 Z.q1 Z.q2 (.inl hx) hQ
 .exact Q4 hh Z hz hT hx fun h' hk=>hQ h' fun c o n1 _ n3 n4 e=>hk c o n1 n3 n4 e
theorem gZ.but {h h':Heap}{z TI TO i1 i2 l1 l2 d:Addr}{xs ys:Array Value}{k:Nat}(Z:gZ h z TI TO i1 i2 l1 l2 xs ys k)(sb: ∀c o,c≠d->h.get? c=some o->h'.get? c=some o)(hd: ∀c∈[z,TI,TO,i1,i2,l1,l2],c≠d):gZ h' z TI TO i1 i2 l1 l2 xs ys k:=by
 obtain⟨a,b,hTO⟩:=Z.to;exact⟨Z.ap,sb _ _ (hd TI (by simp)) Z.ti,⟨a,b,sb _ _ (hd TO (by simp)) hTO⟩,Z.p1.at fun o e=>sb _ o (hd i1 (by simp)) e,Z.p2.at fun o e=>sb _ o (hd i2 (by simp)) e,Z.q1.at fun o e=>sb _ o (hd l1 (by simp)) e,Z.q2.at fun o e=>sb _ o (hd l2 (by simp)) e⟩
theorem j7.but {h h':Heap}{z TI TO d:Addr}(m:j7 h z TI TO)(sb: ∀c o,c≠d->h.get? c=some o->h'.get? c=some o)(hz:z≠d)(hd: ∃o,h'.get? d=some o):j7 h' z TI TO:=by
 rcases m with m | ⟨T,oT,f,h1,h2,h3⟩
 .exact .inl (sb _ _ hz m)
 .by_cases e:T=d
  .obtain⟨o,ho⟩:=hd;exact .inr ⟨T,o,f,sb _ _ hz h1,by rw[e];exact ho,h3⟩
  .exact .inr ⟨T,oT,f,sb _ _ hz h1,sb _ _ e h2,h3⟩
abbrev pKV (ps:List (Int×Tok×Value)):List (Key×Value):=ps.map fun p=>(Sum.inl p.1,p.2.2)
theorem stored_new {ps:List (Int×Tok×Value)}{a:Int}{v:Value}(h:a∉ps.map (·.1)):stored (pKV ps) (Sum.inl a) v=pKV ps++[(Sum.inl a,v)]:=by
 unfold stored;rw[if_neg];intro q;obtain⟨kv,hm,e⟩:=any_eq_true.mp q;obtain⟨p,hp,rfl⟩:=mem_map.mp hm;exact h (mem_map.mpr ⟨p,hp,Sum.inl.inj (of_decide_eq_true e)⟩)
theorem Q7 (hh:A.handled=none){z TI TO i1 i2 l1 l2 d:Addr}{ps:List (Int×Tok×Value)}(nd:(ps.map (·.1)).Nodup)(few:ps.length<=sizeLine)(hd: ∀c∈[z,TI,TO,i1,i2,l1,l2],c≠d) :
  ∀ (r k:Nat) (s:Shared) (i:Int) (t:Tok),k+r=ps.length->gZ s.heap z TI TO i1 i2 l1 l2 (ps.map fun p=>Value.int p.1 p.2.1).toArray (ps.map fun p=>p.2.2).toArray k->j7 s.heap z TI TO->s.heap.DictOf (cV prog w) d (pKV (ps.take k)) ->
  (∀h' tk,h'.DictOf (cV prog w) d (pKV ps)->(∀c o,c≠z->c≠TO->c≠i1->c≠i2->c≠d->s.heap.get? c=some o->h'.get? c=some o)->R (.ok (.ret .none)) { s with heap:=h',toks:=tk }) ->
  codeAny (model prog w) A (.builtin "dict.update.loop" ⟨[.ref d,.ref z,.int i t,.none],[]⟩) R s:=by
 have dz:=hd z (by simp);have dTO:=hd TO (by simp);have d1:=hd i1 (by simp);have d2:=hd i2 (by simp);intro r
 induction r with
 | zero =>
  intro k s i t hk Z hm hD hR;refine codeAny_builtin Ed ?_;rw[Around.under_plainId qz _];unfold Builtin.«dict.update.loop»;refine wpAny_bind (Q6 hh Z hm (by rw[List.getElem?_toArray,List.getElem?_eq_none (by rw[length_map];omega)]) fun h' hkk=>?_);rw[List.take_of_length_le (by omega)] at hD;refine wpAny_bind (wpAny_pure (wpAny_pure ?_));exact hR h' s.toks (let ⟨o,es,ep,ho,q⟩:=hD;⟨o,es,ep,hkk _ _ dz.symm dTO.symm d1.symm d2.symm ho,q⟩) fun c o n1 n2 n3 n4 _ e=>hkk c o n1 n2 n3 n4 e
 | succ r ih =>
  intro k s i t hk Z hm hD hR
  have hkl:k < ps.length:=by omega
  refine codeAny_builtin Ed ?_;rw[Around.under_plainId qz _];unfold Builtin.«dict.update.loop»;refine wpAny_bind (Q5 Z hm (x:=.int ps[k].1 ps[k].2.1) (y:=ps[k].2.2) (by rw[List.getElem?_toArray,List.getElem?_map,List.getElem?_eq_getElem hkl];rfl) (by rw[List.getElem?_toArray,List.getElem?_map,List.getElem?_eq_getElem hkl];rfl) fun h' hm' Z' hp hkk=>?_)
  have hD':h'.DictOf (cV prog w) d (pKV (ps.take k)):=let ⟨o,es,ep,ho,q⟩:=hD;⟨o,es,ep,hkk _ _ dz.symm dTO.symm d1.symm d2.symm ho,q⟩
  have hTy:({ s with heap:=h' }:Shared).TypeIs (.ref s.heap.objs.size) "tuple":=⟨_,hp,rfl⟩
  refine wpAny_bind (wpAny_holding (wpAny_bind (wpAny_tryCatch ?_)));unfold Builtin.Dict.pairItems;refine wpAny_bind (wpAny_typeOf hTy ?_);rw[if_pos (by decide)];refine wpAny_bind (wpAny_seqItems hp rfl (wpAny_pure ?_))
  have hnew:ps[k].1∉(ps.take k).map (·.1):=by
   rw[<-take_append_drop k ps,map_append,drop_eq_getElem_cons hkl] at nd;exact fun q=>(nodup_append.mp nd).2.2 _ q _ (mem_cons_self ..) rfl
  refine wpAny_holding (wpAny_dictSet_pairs (knd:=cV prog w) (k:=Sum.inl ps[k].1) (key:=.int ps[k].1 ps[k].2.1) (v:=ps[k].2.2) (zO ps[k].1 ps[k].2.1) hD' (fun h2 hD2 sb=>?_) (by rw[length_map,length_take];omega));rw[stored_new hnew] at hD2
  have etk:pKV (ps.take k)++[(Sum.inl ps[k].1,ps[k].2.2)]=pKV (ps.take (k+1)):=by
   rw[List.take_succ_eq_append_getElem hkl];exact (map_append (f:=fun p:Int×Tok×Value=>((Sum.inl p.1:Key),p.2.2)) (l₁:=ps.take k) (l₂:=[ps[k]])).symm
  rw[etk] at hD2;have sb2: ∀c o,c≠d->h'.get? c=some o->h2.get? c=some o:=fun c o n e=>(sb.2 c n).trans e;refine wpAny_pure ⟨plainId_quiet qz _,ih (k+1) _ (i+1) 0 (by omega) (Z'.but sb2 hd) (hm'.but sb2 dz (let ⟨o,_,_,ho,_⟩:=hD2;⟨o,ho⟩)) hD2 fun h3 tk hD3 hk3=>?_⟩;exact hR h3 tk hD3 fun c o n1 n2 n3 n4 n5 e=>hk3 c o n1 n2 n3 n4 n5 (sb2 c o n5 (hkk c o n1 n2 n3 n4 e))
theorem Q8 (hh:A.handled=none){z TI TO i1 i2 l1 l2:Addr}{ps:List (Int×Tok×Value)}{Q:Value->Shared->Prop}(nd:(ps.map (·.1)).Nodup)(few:ps.length<=sizeLine)(Z:gZ s.heap z TI TO i1 i2 l1 l2 (ps.map fun p=>Value.int p.1 p.2.1).toArray (ps.map fun p=>p.2.2).toArray 0)(hz:s.heap.get? z=some (gH TI TO .none (.bool false)))
  (h: ∀h' tk,h'.DictOf (cV prog w) s.heap.objs.size (pKV ps)->(∀c o,c≠z->c≠TO->c≠i1->c≠i2->s.heap.get? c=some o->h'.get? c=some o)->Q (.ref s.heap.objs.size) { s with heap:=h',toks:=tk }):wpAny (model prog w) A (call (.type "dict") [.ref z]) Q E s:=by
 refine callType_codes (Q₁:=fun obj s1=>obj= .ref s.heap.objs.size/\s1={ s with heap:=s.heap.push { cls:=.type "dict",data:=.dict #[] } }) F.kt_called_dict (F.kt_typeCall_dict_1 _) F.entry_dict_init (kt_code_dict_new _ ⟨rfl,rfl⟩) ?_;rintro obj s1 ⟨rfl,rfl⟩;have hnew:(s.heap.push { cls:=.type "dict",data:=.dict #[] }).DictOf (cV prog w) s.heap.objs.size []:=Heap.DictOf.new s.heap;have up: ∀c o,s.heap.get? c=some o->(s.heap.push { cls:=.type "dict",data:=.dict #[] }).get? c=some o:=fun c o e=>Heap.get?_push_of_some _ e;have lt: ∀{c o},s.heap.get? c=some o->c≠s.heap.objs.size:=fun e=>Nat.ne_of_lt (Heap.lt_size e);obtain⟨ta,tb,hTO⟩:=Z.to
 have hd: ∀c∈[z,TI,TO,i1,i2,l1,l2],c≠s.heap.objs.size:=fun c hc=>by
  have q1:=Z.p1;have q2:=Z.p2;have q3:=Z.q1;have q4:=Z.q2;obtain⟨_,q1,_⟩:=q1;obtain⟨_,q2,_⟩:=q2;obtain⟨_,q3,_⟩:=q3;obtain⟨_,q4,_⟩:=q4
  have e:c=z\/c=TI\/c=TO\/c=i1\/c=i2\/c=l1\/c=l2:=by simpa using hc
  rcases e with e | e | e | e | e | e | e<;>subst e
  .exact lt hz
  .exact lt Z.ti
  .exact lt hTO
  .exact lt q1
  .exact lt q2
  .exact lt q3
  .exact lt q4
 refine⟨hnew.typeIs,F.args_dict_init_2 _ _,?_⟩;unfold Builtin.«dict.__init__»;refine wpAny_bind ?_;unfold Builtin.Dict.selfAndRest;refine wpAny_bind (wpAny_notOrdered_dict hnew.typeIs ?_);show wpAny _ _ (pure (s.heap.objs.size,[Value.ref z])) _ _ _;refine wpAny_pure ?_;show wpAny _ _ (Builtin.Dict.updateFrom "dict.__init__" s.heap.objs.size (.ref z) [] .none) _ _ _;unfold Builtin.Dict.updateFrom
 have hTy:({ s with heap:=s.heap.push { cls:=.type "dict",data:=.dict #[] } }:Shared).TypeIs (.ref z) "zip":=⟨_,up _ _ hz,rfl⟩
 refine wpAny_bind (wpAny_typeOf hTy ?_);rw[if_pos (by decide)];refine wpAny_bind (QZ (up _ _ hz) hh fun h' tk hk=>?_);simp only[Option.isNone_none,if_true];have up2: ∀c o,s.heap.get? c=some o->h'.get? c=some o:=fun c o e=>hk c o (up c o e);refine wpAny_bind (wpAny_rule ?_);refine wpAny_bind (wpAny_pyIter_zip (up2 _ _ hz) ?_);refine wpAny_bind (wpAny_pure (wpAny_pure ⟨plainId_quiet qz _,?_⟩));have hD:h'.DictOf (cV prog w) s.heap.objs.size (pKV (ps.take 0)):=hnew.keep hk
 refine Q7 (A:=A.in1) (R:=wants (fun r s2=>r=Value.none/\Q (.ref s.heap.objs.size) s2) E) hh nd few hd ps.length 0 { s with heap:=h',toks:=tk } 0 0 (Nat.zero_add _) ⟨Z.ap,up2 _ _ Z.ti,⟨_,_,up2 _ _ hTO⟩,Z.p1.at fun o e=>up2 _ o e,Z.p2.at fun o e=>up2 _ o e,Z.q1.at fun o e=>up2 _ o e,Z.q2.at fun o e=>up2 _ o e⟩ (.inl (up2 _ _ hz)) hD fun h3 tk3 hD3 hk3=>⟨rfl,?_⟩
 exact h h3 tk3 hD3 fun c o n1 n2 n3 n4 e=>hk3 c o n1 n2 n3 n4 (lt e) (up2 c o e)
end
end DL
end
section
namespace DL
open PySem PySem.Spec PyProof.Rows L2
theorem Ef: ∀{ns:List Int} {us vs:List Value},Vals (ns.map V.int) us->us.length=vs.length-> ∃ps:List (Int×Tok×Value),us=ps.map (fun p=>Value.int p.1 p.2.1)/\vs=ps.map (fun p=>p.2.2)/\ns=ps.map (·.1)
 | [],us,vs,r,h=>by
  cases r
  cases vs with
  | nil=>exact⟨[],rfl,rfl,rfl⟩
  | cons a l=>cases h
 | n::ns,us,vs,r,h=>by
  cases r with
  | cons r1 r2 =>
   obtain⟨t,rfl⟩:=r1
   cases vs with
   | nil=>cases h
   | cons v vs =>
    obtain⟨ps,rfl,rfl,rfl⟩:=Ef r2 (Nat.succ.inj h);exact⟨(n,t,v)::ps,rfl,rfl,rfl⟩
theorem Eg: ∀{ms:List Int} {ps:List (Int×Tok×Value)},Vals (ms.map V.int) (ps.map fun p=>p.2.2)->KV (eO ((ps.map (·.1)).zip ms)) (pKV ps)
 | [],[],_=>.nil
 | m::ms,[],r=>by cases r
 | [],p::ps,r=>by cases r
 | m::ms,p::ps,r=>by
  cases r with
  | cons r1 r2=>exact .cons ⟨rfl,r1⟩ (Eg r2)
section
variable {X:Cx}{e e2:Expr}{p p2 p3 pos:Pos}
def tDZ (K:Frag) (ta:TA):TE:=fun σ H Q=>ta σ H fun vs H1=> ∃ (a b:Addr) (ns ms:List Int),vs=[.ref a,.ref b]/\SqL K H1 a (ns.map V.int)/\SqL K H1 b (ms.map V.int)/\ns.length=ms.length/\ns.Nodup/\ ∀q,H1 q=none->Q (.ref q) (upd H1 q (.dK (eO (ns.zip ms))))
theorem Q9 {ta:TA}(hc:X.calm=true)(hg:Gl X "dict")(hm:X.mg "dict"=none)(hg2:Gl X "zip")(hm2:X.mg "zip"=none)(ha:PA X [e,e2] ta)(hd:starEach [.Call (.Name "zip" p2) [e,e2] [] p3] X.env=[(false,eval (.Call (.Name "zip" p2) [e,e2] [] p3) X.env)])(hs:starEach [e,e2] X.env=(false,eval e X.env)::starEach [e2] X.env)(hpl:(backTo p3 (starEach [e2] X.env)).any (·.1)=false) :
  PE X (.Call (.Name "dict" p) [.Call (.Name "zip" p2) [e,e2] [] p3] [] pos) (tDZ X.K ta):=by
 intro pins s σ H Q I h;refine wpAny_Call_Name_kw (jh I hg hm PyProof.Rows.boot_dict ?_);refine PyProof.Rows.callWith_type1 ?_ hd rfl;rw[hd];show wpAny _ _ (spliced ((false,eval (.Call (.Name "zip" p2) [e,e2] [] p3) X.env)::[])) _ _ s;refine Calls.spliced_cons (wpAny_Call_Name_kw (jh I hg2 hm2 PyProof.Rows.boot_zip (PyProof.Rows.callWith_type1 (thn (ha p3 pins s σ H _ I h) fun us s1 ⟨vs,H1,I1,r1,q1⟩=>?_) hs hpl)));obtain⟨a,b,ns,ms,ex,hqx,hqy,hlen,nd,q⟩:=q1;subst ex
 cases r1 with
 | cons r rr =>
  cases rr with
  | cons r' rr =>
   cases rr;cases r;cases r';obtain⟨its,rv,c1,z1⟩:=I1.list hqx;obtain⟨its2,rv2,c2,_⟩:=I1.list hqy
   have hl:its.length=its2.length:=by
    have e1:=rv.length;have e2:=rv2.length;simp only[length_map] at e1 e2;omega
   obtain⟨ps,rfl,rfl,rfl⟩:=Ef rv hl;refine call_zip_2 c1.isList c2.isList fun h' hz hTI hTO h1 h2 hsz hk=>Calls.spliced_nil ?_;refine Q8 (I1.ok.hd hc) nd (by rw[length_map,length_map] at z1;exact z1) ⟨PySem.W.ktu_apart s1.heap.objs.size a b c1.lt c2.lt,hTI,⟨_,_,hTO⟩,h1,h2,c1.isList.at fun o e=>hk _ o e,c2.isList.at fun o e=>hk _ o e⟩ hz fun h3 tk hD hk3=>?_
   have hkeep: ∀c o,s1.heap.get? c=some o->h3.get? c=some o:=fun c o e2=>by
    have hlt:=Heap.lt_size e2;exact hk3 c o (Nat.ne_of_lt (Nat.lt_add_right 4 hlt)) (Nat.ne_of_lt (Nat.lt_add_right 3 hlt)) (Nat.ne_of_lt hlt) (Nat.ne_of_lt (Nat.lt_add_right 1 hlt)) (hk c o e2)
   have hle:s1.heap.objs.size<=h'.objs.size:=by rw[hsz];omega
   refine⟨.ref h'.objs.size,_,I1.laid (a:=h'.objs.size) (o:=.dK (eO ((ps.map (·.1)).zip ms))) (t':=tk) hkeep hle ⟨?_,?_,pKV ps,Eg rv2,hD⟩,rfl,q _ (I1.hok.fresh hle)⟩
   .unfold eO;rw[length_map,length_zip];rw[length_map] at z1;omega
   .exact beq_eq_false_iff_ne.mpr (Nat.ne_of_gt (Nat.lt_of_lt_of_le I1.big hle))
end
section
variable {ι:Type}{F:ι->Cx}{ρ:Rho}{γ:Gm}{t:TE}{e e2 o b:Expr}{es:List Expr}{p p2 p3 pos pos':Pos}{kvs:List (Int×Int)}{nm:Str}{ps:List Str}{k:Nat}{Φ:Fsp}{ds:List D}
def YD (t:TE) (ρ:Rho) (γ:Gm) (kvs:List (Int×Int)):Prop:= ∀ ⦃O0 H0 σ H⦄,Ev O0 H0 σ H ρ γ-> ∀Q:VK,(∀a H1,aB H H1->H1 a=none->kvs.length<=sizeLine->Q (.ref a) (upd H1 a (.dK (eO kvs))))->t σ H Q
abbrev DD (F:ι->Cx) (e:Expr) (ρ:Rho) (γ:Gm) (kvs:List (Int×Int)):Prop:=YD (SE F e) ρ γ kvs
theorem YD.gen {P:SV->Gm->Prop}(h:YD t ρ γ kvs)(q: ∀a,P (.pt a) ((a,.dct kvs)::γ)):YG t ρ γ P:=fun O0 H0 σ H I Q k=>h I Q fun a H1 s1 ha hz=>by
 refine k (.pt a) _ _ _ (q a) ((I.grow s1).push ha ⟨hz,rfl⟩) ?_ rfl;refine (cD s1).trans (d8 (fB ha) fun b hb=>?_);rcases aQ.mp hb with z | z
 .exact .inl (aQ.mpr (.inl z))
 .rcases mem_cons.mp z with z | z
  .exact .inr (by rw[z];exact ha)
  .exact .inl (aQ.mpr (.inr z))
theorem Ra {ns ms:List Int}(h1:DLs F e ρ γ (ns.map D.int))(h2:DLs F e2 ρ γ (ms.map D.int))(hl:ns.length=ms.length)(nd:ns.Nodup)(hc: ∀i,(F i).calm=true)(hg: ∀i,Gl (F i) "dict")(hm: ∀i,(F i).mg "dict"=none)(hg2: ∀i,Gl (F i) "zip")(hm2: ∀i,(F i).mg "zip"=none)
  (hd: ∀i,starEach [.Call (.Name "zip" p2) [e,e2] [] p3] (F i).env=[(false,eval (.Call (.Name "zip" p2) [e,e2] [] p3) (F i).env)]:=by intro _;rfl) (hs: ∀i,starEach [e,e2] (F i).env=(false,eval e (F i).env)::starEach [e2] (F i).env:=by intro _;rfl) (hs2: ∀i,starEach [e2] (F i).env=[(false,eval e2 (F i).env)]:=by intro _;rfl) :
  DD F (.Call (.Name "dict" p) [.Call (.Name "zip" p2) [e,e2] [] p3] [] pos) ρ γ (ns.zip ms):=fun O0 H0 σ H I Q k=>SE.mk2 (fun i=>Q9 (hc i) (hg i) (hm i) (hg2 i) (hm2 i) (cH (SE.pe i) (cH (SE.pe i) cM (hs2 i)) (hs i)) (hd i) (hs i) (by rw[hs2 i];rfl)) fun i=>h1 I _ fun a xs H1 s1 ha hz r1=>h2 (I.grow s1) _ fun b ys H2 s2 hb _ r2=>by
   have e1:=cW.mp r1;have e2:=cW.mp r2;subst e1 e2;rw[length_map] at hz;exact⟨a,b,ns,ms,rfl,SqL.of (s2 _ _ ha),SqL.of hb,hl,nd,fun q hq=>k q H2 (s1.trans s2) hq (by rw[length_zip];omega)⟩
theorem uJ (fa: ∀i,FnAt (F i).prog (F i).w (F i).K (F i).mg (F i).base nm ps k Φ)(ha:DA F (e::es) ρ γ ds)(hΦ:Φ (ds.map .d) [] (fun s γ'=> ∃ad,s= .pt ad/\γ'=[(ad,.dct kvs)]))(hr: ∀i,aR k (F i).A)(hg: ∀i,Gl (F i) nm)
  (hdb:(nm==("__debug__":Str))=false:=by decide) (he: ∀i,starEach (e::es) (F i).env=(false,eval e (F i).env)::starEach es (F i).env:=by intro _;rfl) (hpl: ∀i,(backTo pos (starEach es (F i).env)).any (·.1)=false:=by intro _;rfl) :
  DD F (.Call (.Name nm p) (e::es) [] pos) ρ γ kvs:=fun O0 H0 σ H I Q k'=>SE.mk2 (t:=fun _=>jj (spF Φ) [] E0 (SA F (e::es))) (fun i=>by
   obtain⟨f,fd,h1,h2,h3,h4⟩:=(fa i).ex
   exact jP h4 (hr i) (hg i) h1 h2 h3 .nil fM (SA.pa i) hdb (he i) (hpl i)) fun i=>ha I _ fun vs H1 s1 r=>by
  have I1:=I.grow s1;refine⟨hid O0 γ,ds.map .d,[],_,⟨?_,fun q hq=>(by cases hq),nodup_nil,fun q hq=>(by cases hq),by rw[cY];exact aB.refl _,fun b hb=>by rw[cY];exact I1.hidLive hb⟩,hΦ,?_⟩
  .rw[jV,append_nil];exact lQ r
  .rintro s γ' v H' ⟨ad,rfl,rfl⟩ E' r';have ev:v= .ref ad:=r';subst ev
   have sm:aB H1 H':=by
    have:=E'.same
    rwa [cY] at this
   have ym:=E'.young _ (mem_singleton.mpr rfl);rw[cY] at ym;obtain⟨o1,e1,hz,rfl⟩:=E'.own _ (mem_singleton.mpr rfl);rw[<-qm e1];refine k' ad _ (fun b o q=>?_) (if_pos rfl) hz;have q1:=s1 _ _ q;show (if b=ad then none else H' b)=some o;rw[if_neg (bW q1 ym.2)];exact sm _ _ q1
theorem Rb {n m:Int}{kr:Nat}(hr: ∀i,aR kr (F i).A)(ho:DD F o ρ γ kvs)(hi: ∀ad,DP F b ρ ((ad,.dct kvs)::γ) (.int n))(hx:kvs.lookup n=some m)(hs:pH b:=by intro _ _;rfl):DP F (.Subscript o b pos) ρ γ (.int m) :=
 fun O0 H0 σ H I Q k=>SE.mk2 (t:=fun _=>tX (SE F o) (SE F b)) (fun i=>BR (tZ (hr i)) (SE.pe i) (SE.pe i) hs) fun i=>ho I _ fun a H1 s1 ha hz=>hi a ((I.grow s1).push ha ⟨hz,rfl⟩) _ fun u H2 s2 r2=>by
  have e2:H2 a=some (.dK (eO kvs)):=s2 _ _ dC;have g:=jR.k (k:=Sum.inl n) e2;rw[uH n kvs,hx] at g;rw[aU.mp r2];exact⟨a,.int m,rfl,g,k _ H2 (s1.trans ((fB ha).trans s2)) (aU.mpr rfl)⟩
end
end DL
end
section
namespace CG
open Vanbkb
def Inj (f:Nat->Nat):Prop:= ∀a b,f a=f b->a=b
def ren (f:Nat->Nat) (g:Graph):Graph:=g.map fun r=>(f r.1,r.2.map f)
section
variable {f:Nat->Nat}(hf:Inj f)
include hf
theorem cZ (l:List Nat)(x:Nat):(l.map f).contains (f x)=l.contains x:=by
 induction l with
 | nil=>rfl
 | cons a l ih =>
  rw[map_cons,List.contains_cons,List.contains_cons,ih];congr 1
  by_cases h:x=a
  .subst h;rw[beq_self_eq_true,beq_self_eq_true]
  .rw[beq_eq_false_iff_ne.mpr h,beq_eq_false_iff_ne.mpr fun e=>h (hf _ _ e)]
theorem nD (a b:Nat):(f a==f b)=(a==b):=by
 by_cases h:a=b
 .subst h;rw[beq_self_eq_true,beq_self_eq_true]
 .rw[beq_eq_false_iff_ne.mpr h,beq_eq_false_iff_ne.mpr fun e=>h (hf _ _ e)]
theorem nF (l d:List Nat):((l.map f).any fun m=>(d.map f).contains m)=l.any fun m=>d.contains m:=by
 induction l with
 | nil=>rfl
 | cons a l ih=>rw[map_cons,any_cons,any_cons,ih,cZ hf]
theorem uK (g:Graph):((ren f g).map fun r=>r.1)=(g.map fun r=>r.1).map f:=by
 unfold ren;rw[List.map_map,List.map_map];rfl
theorem qC (g:Graph):(ren f g).length=g.length:=by unfold ren;rw[length_map]
theorem iW (l:List Nat)(p q:Nat->Bool)(h: ∀x,p (f x)=q x):(l.map f).filter p=(l.filter q).map f:=by
 induction l with
 | nil=>rfl
 | cons a l ih =>
  rw[map_cons,filter_cons,filter_cons,h,ih]
  split<;>rfl
theorem Eh (g:Graph)(p q:Nat×List Nat->Bool)(h: ∀r,p (f r.1,r.2.map f)=q r):((ren f g).filter p).map (fun r=>r.1)=((g.filter q).map fun r=>r.1).map f:=by
 induction g with
 | nil=>rfl
 | cons a l ih =>
  have e:ren f (a::l)=(f a.1,a.2.map f)::ren f l:=rfl;rw[e,filter_cons,filter_cons,h];split
  .rw[map_cons,map_cons,map_cons,ih]
  .exact ih
theorem Ei (g:Graph)(p q:Nat×List Nat->Bool)(h: ∀r,p (f r.1,r.2.map f)=q r):(ren f g).any p=g.any q:=by
 induction g with
 | nil=>rfl
 | cons a l ih =>
  have e:ren f (a::l)=(f a.1,a.2.map f)::ren f l:=rfl;rw[e,any_cons,any_cons,h,ih]
theorem j8 (g:Graph)(n:Nat):from_ (ren f g) (f n)=(from_ g n).map f:=by
 unfold from_
 induction g with
 | nil=>rfl
 | cons a l ih =>
  have e:ren f (a::l)=(f a.1,a.2.map f)::ren f l:=rfl;rw[e,List.find?_cons,List.find?_cons];have e2:((f a.1,a.2.map f).1==f n)=(a.1==n):=nD hf a.1 n;rw[e2]
  cases (a.1==n) with
  | true=>rfl
  | false=>exact ih
theorem qD (g:Graph)(l:List Nat): ∀k,downTo (ren f g) k (l.map f)=(downTo g k l).map f
 | 0=>by
  show ((ren f g).map fun r=>r.1).filter _=_;rw[uK hf];exact iW hf _ _ _ fun x=>cZ hf l x
 | k+1=>by
  show ((ren f g).filter fun r=>(downTo (ren f g) k (l.map f)).contains r.1||r.2.any fun m=>(downTo (ren f g) k (l.map f)).contains m).map (fun r=>r.1)=_;rw[qD g l k]
  exact Eh hf g _ _ fun r=>by
   show (((downTo g k l).map f).contains (f r.1)||(r.2.map f).any fun m=>((downTo g k l).map f).contains m)=_;rw[cZ hf,nF hf]
theorem Rc (g:Graph)(l:List Nat):wider (ren f g) (l.map f)=(wider g l).map f:=by
 unfold wider;rw[uK hf];refine iW hf _ _ _ fun x=>?_;rw[cZ hf,Ei hf g _ (fun r=>l.contains r.1&&r.2.contains x) fun r=>?_];show ((l.map f).contains (f r.1)&&(r.2.map f).contains (f x))=_;rw[cZ hf,cZ hf]
theorem Ej (g:Graph): ∀ (k:Nat) (l:List Nat),upFrom (ren f g) k (l.map f)=(upFrom g k l).map f
 | 0,l=>rfl
 | k+1,l=>by
  show (if (wider (ren f g) (l.map f)).length==(l.map f).length then l.map f else upFrom (ren f g) k (wider (ren f g) (l.map f)))=(if (wider g l).length==l.length then l else upFrom g k (wider g l)).map f;rw[Rc hf,length_map,length_map,Ej g k]
  split<;>rfl
theorem jt (g:Graph)(n:Nat):above (ren f g) (f n)=(above g n).map f:=by
 unfold above;rw[qC hf,j8 hf,Ej hf]
theorem Rf (g:Graph)(n:Nat):below (ren f g) (f n)=(below g n).map f:=by
 unfold below;rw[uK hf]
 exact iW hf _ _ _ fun x=>by rw[jt hf,cZ hf]
theorem Ek (g:Graph)(n:Nat):circled (ren f g) (f n)=circled g n:=by
 unfold circled;rw[jt hf,cZ hf]
theorem Rg (g:Graph)(n:Nat):circle (ren f g) (f n)=(circle g n).map f:=by
 unfold circle;rw[jt hf]
 exact iW hf _ _ _ fun x=>by rw[jt hf,cZ hf]
theorem Rh (l:List Nat)(p q:Nat->Bool)(h: ∀x,p (f x)=q x):(l.map f).find? p=(l.find? q).map f:=by
 induction l with
 | nil=>rfl
 | cons a l ih =>
  rw[map_cons,List.find?_cons,List.find?_cons,h,ih]
  split<;>rfl
theorem uL (g:Graph)(to:List Nat): ∀ (k n:Nat),chain (ren f g) (to.map f) k (f n)=(chain g to k n).map f
 | 0,n=>rfl
 | k+1,n=>by
  show (match (from_ (ren f g) (f n)).find? fun m=>(downTo (ren f g) k (to.map f)).contains m with | some m=>f n::chain (ren f g) (to.map f) k m | none=>[f n])=(match (from_ g n).find? fun m=>(downTo g k to).contains m with | some m=>n::chain g to k m | none=>[n]).map f;rw[j8 hf,qD hf,Rh hf _ _ (fun m=>(downTo g k to).contains m) fun x=>cZ hf _ x]
  cases e:(from_ g n).find? fun m=>(downTo g k to).contains m with
  | none=>rfl
  | some m =>
   show f n::chain (ren f g) (to.map f) k (f m)=_;rw[uL g to k m];rfl
theorem Ri (g:Graph)(to:List Nat)(n:Nat):steps (ren f g) (to.map f) (f n)=steps g to n:=by
 unfold steps;rw[qC hf];congr 1;funext k;rw[qD hf,cZ hf]
theorem El (g:Graph)(to:List Nat)(n:Nat):shortest (ren f g) (to.map f) (f n)=(shortest g to n).map (·.map f):=by
 unfold shortest;rw[Ri hf,Option.map_map];congr 1;funext k;exact uL hf g to k n
theorem Rj (l:List Nat):(l.map f).dropLast=l.dropLast.map f:=by
 rw[List.map_dropLast]
theorem Rk (g:Graph)(n:Nat):ring (ren f g) (f n)=(ring g n).map f:=by
 unfold ring;rw[qC hf]
 have e:(fun k=>(from_ (ren f g) (f n)).any fun m=>(downTo (ren f g) k [f n]).contains m)=fun k=>(from_ g n).any fun m=>(downTo g k [n]).contains m:=by
  funext k;have e1:downTo (ren f g) k [f n]=(downTo g k [n]).map f:=qD hf g [n] k;rw[j8 hf,e1,nF hf]
 rw[e];split
 .rename_i k _
  have e1:chain (ren f g) [f n] (k+1) (f n)=(chain g [n] (k+1) n).map f:=uL hf g [n] (k+1) n;rw[e1,Rj hf]
 .rfl
theorem Rm (l d:List Nat):((l.map f).all fun m=>(d.map f).contains m)=l.all fun m=>d.contains m:=by
 induction l with
 | nil=>rfl
 | cons a l ih=>rw[map_cons,List.all_cons,List.all_cons,ih,cZ hf]
theorem Em (g:Graph)(ok done:List Nat):ready (ren f g) (ok.map f) (done.map f)=(ready g ok done).map f:=by
 unfold ready
 exact iW hf _ _ _ fun x=>by rw[cZ hf,j8 hf,Rm hf]
theorem En (g:Graph)(ok:List Nat)(width:Nat): ∀ (k:Nat) (done:List Nat),rounds (ren f g) (ok.map f) width k (done.map f)=(rounds g ok width k done).map (·.map f)
 | 0,_=>rfl
 | k+1,done=>by
  show (match (ready (ren f g) (ok.map f) (done.map f)).take width with | []=>[] | r=>r::rounds (ren f g) (ok.map f) width k (done.map f++r))=(match (ready g ok done).take width with | []=>[] | r=>r::rounds g ok width k (done++r)).map _;rw[Em hf,<-map_take]
  cases e:(ready g ok done).take width with
  | nil=>rfl
  | cons a r =>
   show (a::r).map f::rounds (ren f g) (ok.map f) width k (done.map f++(a::r).map f)=_;rw[<-map_append,En g ok width k];rfl
theorem Eo (g:Graph)(ok:List Nat): ∀ (k:Nat) (done:List Nat),taken (ren f g) (ok.map f) k (done.map f)=(taken g ok k done).map f
 | 0,_=>rfl
 | k+1,done=>by
  show (match ready (ren f g) (ok.map f) (done.map f) with | []=>done.map f | n::_=>taken (ren f g) (ok.map f) k (done.map f++[n]))=(match ready g ok done with | []=>done | n::_=>taken g ok k (done++[n])).map f;rw[Em hf]
  cases ready g ok done with
  | nil=>rfl
  | cons a r =>
   show taken (ren f g) (ok.map f) k (done.map f++[a].map f)=_;rw[<-map_append,Eo g ok k]
theorem Ep (g:Graph): ∀ (k n:Nat),levelIn (ren f g) k (f n)=levelIn g k n
 | 0,_=>rfl
 | k+1,n=>by
  show greatest ((from_ (ren f g) (f n)).map fun m=>1+levelIn (ren f g) k m)=greatest ((from_ g n).map fun m=>1+levelIn g k m);rw[j8 hf,List.map_map];congr 1
  exact map_congr_left fun m _=>by show 1+levelIn (ren f g) k (f m)=_;rw[Ep g k m]
theorem Rn (g:Graph)(n:Nat):needed (ren f g) (f n)=(needed g n).map f:=by
 unfold needed;rw[j8 hf];refine iW hf _ _ _ fun x=>?_;congr 1;rw[any_map];congr 1;funext d;show (f d != f x&&(above (ren f g) (f d)).contains (f x))=_;rw[jt hf,cZ hf,bne,nD hf];rfl
theorem Er (g:Graph): ∀ (k:Nat) (l:List Nat),together (ren f g) k (l.map f)=(together g k l).map f
 | 0,_=>rfl
 | k+1,l=>by
  have e: ∀x,together (ren f g) k (x.map f)=(together g k x).map f:=Er g k;show together (ren f g) k (((ren f g).filter _).map _)=(together g k _).map f;rw[<-e];congr 1;refine Eh hf g _ _ fun r=>?_;show ((l.map f).contains (f r.1)||((r.2.map f).any fun m=>(l.map f).contains m)||(ren f g).any fun q=>(l.map f).contains q.1&&q.2.contains (f r.1))=_;rw[cZ hf,nF hf,Ei hf g _ (fun q=>l.contains q.1&&q.2.contains r.1) fun q=>?_];show ((l.map f).contains (f q.1)&&(q.2.map f).contains (f r.1))=_;rw[cZ hf,cZ hf]
theorem Es (g:Graph)(n:Nat):groupOf (ren f g) (f n)=(groupOf g n).map f:=by
 unfold groupOf;rw[qC hf];exact Er hf g g.length [n]
end
end CG
end
section
namespace CG
open Vanbkb
abbrev Asc (l:List Nat):Prop:=l.Pairwise (· < ·)
theorem Asc.eq_of_mem: ∀{l r:List Nat},Asc l->Asc r->(∀x,x∈l↔x∈r)->l=r
 | [],[],_,_,_=>rfl
 | [],b::r,_,_,h=>absurd ((h b).mpr (mem_cons_self ..)) (by simp)
 | a::l,[],_,_,h=>absurd ((h a).mp (mem_cons_self ..)) (by simp)
 | a::l,b::r,h1,h2,h=>by
  have ha:=pairwise_cons.mp h1;have hb:=pairwise_cons.mp h2
  have e:a=b:=by
   rcases mem_cons.mp ((h a).mp (mem_cons_self ..)) with e | m
   .exact e
   .rcases mem_cons.mp ((h b).mpr (mem_cons_self ..)) with e | m'
    .exact e.symm
    .have:=hb.1 _ m;have:=ha.1 _ m';omega
  subst e;congr 1
  refine Asc.eq_of_mem ha.2 hb.2 fun x=>⟨fun hx=>?_,fun hx=>?_⟩
  .rcases mem_cons.mp ((h x).mp (mem_cons_of_mem _ hx)) with e | m
   .have:=ha.1 _ hx;omega
   .exact m
  .rcases mem_cons.mp ((h x).mpr (mem_cons_of_mem _ hx)) with e | m
   .have:=hb.1 _ hx;omega
   .exact m
theorem Asc.filter {l:List Nat}(h:Asc l)(p:Nat->Bool):Asc (l.filter p):=List.Pairwise.filter p h
theorem g8 (n:Nat):Asc (List.range n):=List.pairwise_lt_range
theorem Asc.nodup {l:List Nat}(h:Asc l):l.Nodup:=List.Pairwise.imp (fun h=>Nat.ne_of_lt h) h
theorem Asc.length_le: ∀{l:List Nat} {n:Nat},Asc l->(∀x∈l,x < n)->l.length<=n:=by
 intro l n h hl
 have e:l=(List.range n).filter fun x=>l.contains x:=Asc.eq_of_mem h ((g8 n).filter _) fun x=>by
  rw[mem_filter,mem_range,contains_iff_mem];exact⟨fun m=>⟨hl x m,m⟩,fun m=>m.2⟩
 rw[e];exact Nat.le_trans (length_filter_le ..) (by rw[length_range];exact Nat.le_refl _)
theorem Asc.sub_eq {l r:List Nat}(h1:Asc l)(h2:Asc r)(hs: ∀x∈l,x∈r)(hl:r.length<=l.length):l=r:=by
 have e:l=r.filter fun x=>l.contains x:=Asc.eq_of_mem h1 (h2.filter _) fun x=>by
  rw[mem_filter,contains_iff_mem];exact⟨fun m=>⟨hs x m,m⟩,fun m=>m.2⟩
 have q:(r.filter fun x=>l.contains x).length=r.length:=by
  have:=congrArg List.length e;have:=length_filter_le (fun x=>l.contains x) r;omega
 rw[List.length_filter_eq_length_iff] at q
 exact Asc.eq_of_mem h1 h2 fun x=>⟨hs x,fun m=>contains_iff_mem.mp (q x m)⟩
theorem Asc.full {l:List Nat}{n:Nat}(h:Asc l)(hl: ∀x∈l,x < n)(hn:n<=l.length):l=List.range n :=
 h.sub_eq (g8 n) (fun x m=>mem_range.mpr (hl x m)) (by rw[length_range];exact hn)
abbrev Src:=List (List Nat)
def row (src:Src) (i:Nat):List Nat:=src.getD i []
def gp (src:Src):Graph:=(List.range src.length).map fun i=>(i,row src i)
structure Wf (src:Src):Prop where
 asc: ∀i,Asc (row src i)
 lt: ∀i,∀j∈row src i,j < src.length
theorem lU (src:Src):(gp src).length=src.length:=by unfold gp;rw[length_map,length_range]
theorem lV (src:Src):((gp src).map fun r=>r.1)=List.range src.length:=by
 unfold gp;rw[List.map_map];exact List.map_id'' (fun _=>rfl) _
theorem j9 {src:Src}{i:Nat}(h:src.length<=i):row src i=[]:=by
 unfold row;rw[List.getD_eq_getElem?_getD,List.getElem?_eq_none h];rfl
theorem Et (r:Nat->List Nat)(i:Nat): ∀ (l:List Nat),((l.map fun k=>(k,r k)).find? fun q=>q.1==i)=if i∈l then some (i,r i) else none
 | []=>rfl
 | a::l=>by
  rw[map_cons,List.find?_cons]
  by_cases h:a=i
  .subst h;rw[beq_self_eq_true,if_pos (mem_cons_self ..)]
  .have e:((a,r a).1==i)=false:=beq_eq_false_iff_ne.mpr h;rw[e];show List.find? _ _=_;rw[Et r i l]
   by_cases hm:i∈l
   .rw[if_pos hm,if_pos (mem_cons_of_mem _ hm)]
   .rw[if_neg hm,if_neg (fun q=>(mem_cons.mp q).elim (fun z=>h z.symm) hm)]
theorem gj (src:Src)(i:Nat):from_ (gp src) i=row src i:=by
 unfold from_ gp;rw[Et]
 by_cases h:i < src.length
 .rw[if_pos (mem_range.mpr h)]
 .rw[if_neg (fun q=>h (mem_range.mp q)),j9 (Nat.le_of_not_lt h)]
theorem qF (src:Src)(p:Nat×List Nat->Bool):((gp src).filter p).map (fun r=>r.1)=(List.range src.length).filter fun i=>p (i,row src i):=by
 unfold gp;rw[filter_map,List.map_map];exact List.map_id'' (fun _=>rfl) _
theorem Eu (src:Src)(p:Nat×List Nat->Bool):(gp src).any p=true↔ ∃i,i < src.length/\p (i,row src i)=true:=by
 unfold gp;rw[any_map,any_eq_true];exact⟨fun ⟨i,m,h⟩=>⟨i,mem_range.mp m,h⟩,fun ⟨i,m,h⟩=>⟨i,mem_range.mpr m,h⟩⟩
inductive dF (src:Src):Nat->Nat->Nat->Prop
 | zero (i:Nat):dF src 0 i i
 | succ {k i j m:Nat}:j∈row src i->dF src k j m->dF src (k+1) i m
theorem dF.snoc {src:Src}{k i j m:Nat}(h:dF src k i j)(e:m∈row src j):dF src (k+1) i m:=by
 induction h with
 | zero i=>exact .succ e (.zero m)
 | succ h1 _ ih=>exact .succ h1 (ih e)
theorem dF.append {src:Src}{k l i j m:Nat}(h:dF src k i j)(h2:dF src l j m):dF src (k+l) i m:=by
 induction h with
 | zero i=>rw[Nat.zero_add];exact h2
 | succ h1 _ ih=>rw[Nat.add_right_comm];exact .succ h1 (ih h2)
def Reach (src:Src) (i j:Nat):Prop:= ∃k,dF src (k+1) i j
theorem Reach.of_edge {src:Src}{i j:Nat}(h:j∈row src i):Reach src i j:=⟨0,.succ h (.zero j)⟩
theorem Reach.trans {src:Src}{i j m:Nat}(h:Reach src i j)(h2:Reach src j m):Reach src i m:=by
 obtain⟨k,h⟩:=h;obtain⟨l,h2⟩:=h2;exact⟨k+1+l,h.append h2⟩
theorem Reach.snoc {src:Src}{i j m:Nat}(h:Reach src i j)(e:m∈row src j):Reach src i m:=h.trans (.of_edge e)
theorem Reach.cons {src:Src}{i j m:Nat}(e:j∈row src i)(h:Reach src j m):Reach src i m:=(Reach.of_edge e).trans h
theorem dF.lt {src:Src}(w:Wf src){k i j:Nat}(h:dF src (k+1) i j):i < src.length/\j < src.length:=by
 have key: ∀{k i j},dF src k i j-> ∀l,k=l+1->i < src.length/\j < src.length:=by
  intro k i j h
  induction h with
  | zero i=>intro l e;omega
  | @succ k i j m e p ih =>
   intro l _
   have hi:i < src.length:=by
    apply Classical.byContradiction;intro q;rw[j9 (Nat.le_of_not_lt q)] at e;cases e
   cases k with
   | zero=>cases p;exact⟨hi,w.lt i _ e⟩
   | succ k=>exact⟨hi,(ih k rfl).2⟩
 exact key h k rfl
theorem Reach.lt {src:Src}(w:Wf src){i j:Nat}(h:Reach src i j):i < src.length/\j < src.length:=h.elim fun _ p=>p.lt w
theorem Reach.closed {src:Src}{l:Nat->Prop}{i:Nat}(h0: ∀j∈row src i,l j)(hc: ∀a,l a-> ∀b∈row src a,l b){m:Nat}(h:Reach src i m):l m:=by
 obtain⟨k,h⟩:=h
 cases h with
 | succ e p =>
  have:=h0 _ e;clear e h0
  induction p with
  | zero _=>exact this
  | succ e p ih=>exact ih (hc _ this _ e)
theorem uM {src:Src}{l:List Nat}{m:Nat}:m∈wider (gp src) l↔m < src.length/\(m∈l\/ ∃i,i < src.length/\i∈l/\m∈row src i):=by
 unfold wider;rw[lV,mem_filter,mem_range,Bool.or_eq_true,Eu,contains_iff_mem];refine and_congr_right fun _=>or_congr_right ⟨fun ⟨i,h,q⟩=>?_,fun ⟨i,h,a,b⟩=>?_⟩
 .rw[Bool.and_eq_true,contains_iff_mem,contains_iff_mem] at q;exact⟨i,h,q.1,q.2⟩
 .refine⟨i,h,?_⟩;rw[Bool.and_eq_true,contains_iff_mem,contains_iff_mem];exact⟨a,b⟩
theorem uN {src:Src}{l:List Nat}:Asc (wider (gp src) l):=by
 unfold wider;rw[lV];exact (g8 _).filter _
theorem Ew {src:Src}(w:Wf src)(i:Nat): ∀ (k:Nat) (l:List Nat),Asc l->(∀m∈l,Reach src i m)->(∀j∈row src i,j∈l)->src.length<=l.length+k ->
  Asc (upFrom (gp src) k l)/\ ∀m,m∈upFrom (gp src) k l↔Reach src i m
 | 0,l,ha,hr,h0,hn=>by
  refine⟨ha,fun m=>⟨hr m,fun h=>?_⟩⟩;show m∈l;rw[ha.full (fun x q=>((hr x q).lt w).2) (by omega)];exact mem_range.mpr (h.lt w).2
 | k+1,l,ha,hr,h0,hn=>by
  have hlt: ∀x∈l,x < src.length:=fun x q=>((hr x q).lt w).2;have hsub: ∀x∈l,x∈wider (gp src) l:=fun x q=>uM.mpr ⟨hlt x q,.inl q⟩;show Asc (if (wider (gp src) l).length==l.length then l else upFrom (gp src) k (wider (gp src) l))/\ ∀m,m∈(if (wider (gp src) l).length==l.length then l else upFrom (gp src) k (wider (gp src) l))↔_
  by_cases e:(wider (gp src) l).length=l.length
  .rw[if_pos (by rw[e];exact beq_self_eq_true _)];refine⟨ha,fun m=>⟨hr m,fun h=>?_⟩⟩;have el:l=wider (gp src) l:=ha.sub_eq uN hsub (by omega);refine Reach.closed (l:=(·∈l)) h0 (fun a hma b hb=>?_) h;rw[el];exact uM.mpr ⟨w.lt a b hb,.inr ⟨a,hlt a hma,hma,hb⟩⟩
  .rw[if_neg (by intro q;exact e (eq_of_beq q))]
   have hle:l.length<=(wider (gp src) l).length:=by
    have e2:l=(wider (gp src) l).filter fun x=>l.contains x:=Asc.eq_of_mem ha (uN.filter _) fun x=>by
     rw[mem_filter,contains_iff_mem];exact⟨fun m=>⟨hsub x m,m⟩,fun m=>m.2⟩
    have:=congrArg List.length e2;have:=length_filter_le (fun x=>l.contains x) (wider (gp src) l);omega
   refine Ew w i k _ uN (fun m hm=>?_) (fun j hj=>hsub j (h0 j hj)) (by omega);rcases (uM.mp hm).2 with q | ⟨a,_,hma,hb⟩
   .exact hr m q
   .exact (hr a hma).snoc hb
theorem Ex {src:Src}(w:Wf src)(i:Nat):Asc (above (gp src) i)/\ ∀m,m∈above (gp src) i↔Reach src i m:=by
 unfold above;rw[lU,gj];exact Ew w i _ _ (w.asc i) (fun m h=>.of_edge h) (fun _ h=>h) (by omega)
theorem cO {src:Src}(w:Wf src){i m:Nat}:m∈above (gp src) i↔Reach src i m:=(Ex w i).2 m
theorem ju {src:Src}(w:Wf src)(i:Nat):Asc (above (gp src) i):=(Ex w i).1
theorem Ro {src:Src}(w:Wf src){i m:Nat}:m∈below (gp src) i↔Reach src m i:=by
 unfold below;rw[lV,mem_filter,mem_range,contains_iff_mem,cO w];exact⟨fun h=>h.2,fun h=>⟨(h.lt w).1,h⟩⟩
theorem Rp {src:Src}(w:Wf src)(i:Nat):Asc (circle (gp src) i):=(ju w i).filter _
theorem Rq {src:Src}(w:Wf src){i m:Nat}:m∈circle (gp src) i↔Reach src i m/\Reach src m i:=by
 unfold circle;rw[mem_filter,contains_iff_mem,cO w,cO w]
theorem Rr {src:Src}(w:Wf src){i:Nat}:circled (gp src) i=true↔Reach src i i:=by
 unfold circled;rw[contains_iff_mem,cO w]
theorem uO {src:Src}(l:List Nat): ∀k,Asc (downTo (gp src) k l)
 | 0=>by
  show Asc (((gp src).map fun r=>r.1).filter _);rw[lV];exact (g8 _).filter _
 | k+1=>by
  show Asc (((gp src).filter _).map fun r=>r.1);rw[qF];exact (g8 _).filter _
theorem uP {src:Src}{l:List Nat}{i:Nat}:i∈downTo (gp src) 0 l↔i < src.length/\i∈l:=by
 show i∈((gp src).map fun r=>r.1).filter _↔_;rw[lV,mem_filter,mem_range,contains_iff_mem]
theorem kh {src:Src}{l:List Nat}{k i:Nat}:i∈downTo (gp src) (k+1) l↔i < src.length/\(i∈downTo (gp src) k l\/ ∃j∈row src i,j∈downTo (gp src) k l):=by
 show i∈((gp src).filter _).map (fun r=>r.1)↔_;rw[qF,mem_filter,mem_range,Bool.or_eq_true,contains_iff_mem,any_eq_true];refine and_congr_right fun _=>or_congr_right ⟨fun ⟨j,a,b⟩=>⟨j,a,contains_iff_mem.mp b⟩,fun ⟨j,a,b⟩=>⟨j,a,contains_iff_mem.mpr b⟩⟩
theorem Ey {src:Src}{l:List Nat}{k i:Nat}(h:i∈downTo (gp src) k l):i < src.length:=by
 cases k with
 | zero=>exact (uP.mp h).1
 | succ k=>exact (kh.mp h).1
theorem iY {src:Src}{l:List Nat}: ∀{k i:Nat},i∈downTo (gp src) k l↔ ∃m≤k,∃j∈l,j < src.length/\i < src.length/\dF src m i j
 | 0,i=>by
  rw[uP];refine⟨fun ⟨h,m⟩=>⟨0,Nat.le_refl _,i,m,h,h,.zero i⟩,fun ⟨m,hm,j,hj,hl,hi,p⟩=>?_⟩
  have e:m=0:=by omega
  subst e;cases p;exact⟨hi,hj⟩
 | k+1,i=>by
  rw[kh];constructor
  .rintro⟨hi,h | ⟨j,hj,h⟩⟩
   .obtain⟨m,hm,q⟩:=iY.mp h;exact⟨m,by omega,q⟩
   .obtain⟨m,hm,t,ht,hl,_,p⟩:=iY.mp h;exact⟨m+1,by omega,t,ht,hl,hi,.succ hj p⟩
  .rintro⟨m,hm,j,hj,hl,hi,p⟩;refine⟨hi,?_⟩
   by_cases e:m<=k
   .exact .inl (iY.mpr ⟨m,e,j,hj,hl,hi,p⟩)
   .have em:m=k+1:=by omega
    subst em
    cases p with
    | @succ _ _ t _ e p =>
     have ht:t < src.length:=by
      cases k with
      | zero=>cases p;exact hl
      | succ k =>
       apply Classical.byContradiction;intro q
       cases p with
       | succ e2 _ =>
        rw[j9 (Nat.le_of_not_lt q)] at e2;cases e2
     exact .inr ⟨t,e,iY.mpr ⟨k,Nat.le_refl _,j,hj,hl,ht,p⟩⟩
theorem qG {src:Src}{l:List Nat}{k m i:Nat}(h:k<=m)(q:i∈downTo (gp src) k l):i∈downTo (gp src) m l:=by
 obtain⟨a,ha,r⟩:=iY.mp q;exact iY.mpr ⟨a,by omega,r⟩
theorem Ez {src:Src}{l:List Nat}: ∀ (k:Nat),(k<=(downTo (gp src) k l).length)\/(∀m i,i∈downTo (gp src) m l->i∈downTo (gp src) k l)
 | 0=>.inl (Nat.zero_le _)
 | k+1=>by
  rcases Ez (src:=src) (l:=l) k with h | h
  .by_cases e:(downTo (gp src) (k+1) l).length<=(downTo (gp src) k l).length
   .have el:downTo (gp src) k l=downTo (gp src) (k+1) l:=(uO l k).sub_eq (uO l (k+1)) (fun x q=>qG (by omega) q) e
    have st: ∀m i,i∈downTo (gp src) m l->i∈downTo (gp src) k l:=by
     intro m
     induction m with
     | zero=>intro i q;exact qG (Nat.zero_le _) q
     | succ m ih =>
      intro i q;rw[el];obtain⟨hi,q⟩:=kh.mp q;refine kh.mpr ⟨hi,?_⟩;rcases q with q | ⟨j,a,b⟩
      .exact .inl (ih i q)
      .exact .inr ⟨j,a,ih j b⟩
    exact .inr fun m i q=>qG (by omega) (st m i q)
   .exact .inl (by omega)
  .exact .inr fun m i q=>qG (by omega) (h m i q)
theorem uQ {src:Src}{l:List Nat}{m i:Nat}(q:i∈downTo (gp src) m l):i∈downTo (gp src) src.length l:=by
 rcases Ez (src:=src) (l:=l) src.length with h | h
 .rw[(uO l src.length).full (fun x q=>Ey q) h];exact mem_range.mpr (Ey q)
 .exact h m i q
end CG
end
section
namespace CG
open Vanbkb
structure SOk (cs:List Cell):Prop where
 nd:(cs.map fun c=>c.number).Nodup
 hi: ∀c∈cs,1<=c.number/\c.number<=99
 makes: ∀c∈cs,Asc c.makes/\ ∀x∈c.makes,x<=31
 reads: ∀c∈cs,Asc c.reads/\ ∀x∈c.reads,x<=31
 len:cs.length<=12
def num (cs:List Cell) (i:Nat):Nat:=match cs[i]? with
 | some c=>c.number
 | none=>i+1000
theorem lW {cs:List Cell}{i:Nat}{c:Cell}(h:cs[i]?=some c):num cs i=c.number:=by
 unfold num;rw[h]
theorem bL {cs:List Cell}(w:SOk cs):Inj (num cs):=by
 intro a b h;unfold num at h
 cases ea:cs[a]? with
 | none =>
  cases eb:cs[b]? with
  | none=>rw[ea,eb] at h;simp only at h;omega
  | some c =>
   rw[ea,eb] at h;simp only at h;have:=(w.hi c (mem_of_getElem? eb)).2;omega
 | some c =>
  cases eb:cs[b]? with
  | none =>
   rw[ea,eb] at h;simp only at h;have:=(w.hi c (mem_of_getElem? ea)).2;omega
  | some d =>
   rw[ea,eb] at h;simp only at h
   have ha:(cs.map fun c=>c.number)[a]?=some c.number:=by rw[List.getElem?_map,ea];rfl
   have hb:(cs.map fun c=>c.number)[b]?=some c.number:=by rw[List.getElem?_map,eb];simp [h]
   obtain⟨la,_⟩:=List.getElem?_eq_some_iff.mp ha;exact (List.getElem?_inj la w.nd).mp (ha.trans hb.symm)
theorem jw {cs:List Cell}:(List.range cs.length).map (num cs)=cs.map fun c=>c.number:=by
 apply ext_getElem?;intro i;rw[List.getElem?_map,List.getElem?_map]
 by_cases h:i < cs.length
 .rw[List.getElem?_range h,List.getElem?_eq_getElem h];show some (num cs i)=_;rw[lW (List.getElem?_eq_getElem h)];rfl
 .rw[List.getElem?_eq_none (by rw[length_range];omega),List.getElem?_eq_none (by omega)];rfl
theorem EY {cs:List Cell}(p:Cell->Bool):(cs.filter p).map (fun c=>c.number)=((cs.zipIdx.filter fun q=>p q.1).map fun q=>q.2).map (num cs):=by
 have key: ∀ (l:List Cell) (k:Nat),(∀j c,l[j]?=some c->cs[k+j]?=some c)->(l.filter p).map (fun c=>c.number)=(((l.zipIdx k).filter fun q=>p q.1).map fun q=>q.2).map (num cs):=by
  intro l
  induction l with
  | nil=>intro k _;rfl
  | cons a l ih =>
   intro k h
   have ih':=ih (k+1) fun j c e=>by
    have:=h (j+1) c e;rw[show k+1+j=k+(j+1) by omega];exact this
   have h0:=h 0 a rfl;rw[List.zipIdx_cons,filter_cons,filter_cons]
   cases p a with
   | true =>
    simp only[if_true,map_cons];rw[ih',lW (show cs[k]?=some a from h0)]
   | false=>exact ih'
 exact key cs 0 fun j c e=>by rw[Nat.zero_add];exact e
def pmk (cs:List Cell) (x:Nat):List Nat:=(cs.zipIdx.filter fun q=>q.1.makes.contains x).map fun q=>q.2
def prd (cs:List Cell) (x:Nat):List Nat:=(cs.zipIdx.filter fun q=>q.1.reads.contains x).map fun q=>q.2
theorem lX (cs:List Cell)(x:Nat):makersOf ⟨cs⟩ x=(pmk cs x).map (num cs):=EY fun c=>c.makes.contains x
theorem Rt (cs:List Cell)(x:Nat):readersOf ⟨cs⟩ x=(prd cs x).map (num cs):=EY fun c=>c.reads.contains x
theorem uR {α:Type}(p:α×Nat->Bool): ∀ (l:List α) (k:Nat),Asc (((l.zipIdx k).filter p).map fun q=>q.2)/\ ∀i∈((l.zipIdx k).filter p).map (fun q=>q.2),k<=i
 | [],k=>⟨List.Pairwise.nil,fun i h=>by cases h⟩
 | a::l,k=>by
  obtain⟨h1,h2⟩:=uR p l (k+1);rw[List.zipIdx_cons,filter_cons];split
  .rw[map_cons];refine⟨pairwise_cons.mpr ⟨fun i hi=>?_,h1⟩,fun i hi=>?_⟩
   .have:=h2 i hi;show k < i;omega
   .rcases mem_cons.mp hi with e | hi
    .omega
    .have:=h2 i hi;omega
  .exact⟨h1,fun i hi=>by have:=h2 i hi;omega⟩
theorem Fb {α:Type}(p:α->Bool)(l:List α)(i:Nat):i∈((l.zipIdx.filter fun q=>p q.1).map fun q=>q.2)↔ ∃a,l[i]?=some a/\p a=true:=by
 rw[mem_map];constructor
 .rintro⟨q,hq,rfl⟩;obtain⟨h1,h2⟩:=mem_filter.mp hq;exact⟨q.1,List.mem_zipIdx_iff_getElem?.mp h1,h2⟩
 .rintro⟨a,h1,h2⟩;exact⟨(a,i),mem_filter.mpr ⟨List.mem_zipIdx_iff_getElem?.mpr h1,h2⟩,rfl⟩
theorem Ru (cs:List Cell)(x:Nat):Asc (pmk cs x):=(uR _ cs 0).1
theorem Rv {cs:List Cell}{x i:Nat}:i∈pmk cs x↔ ∃c,cs[i]?=some c/\x∈c.makes:=by
 have h:=Fb (fun (c:Cell)=>c.makes.contains x) cs i;simp only[contains_iff_mem] at h;exact h
theorem qH {cs:List Cell}{x i:Nat}(h:i∈pmk cs x):i < cs.length:=by
 obtain⟨c,e,_⟩:=Rv.mp h;exact (List.getElem?_eq_some_iff.mp e).1
def psrc (cs:List Cell) (c:Cell):List Nat:=(List.range cs.length).filter fun i=>c.reads.any fun x=>pmk cs x==[i]
theorem uT (cs:List Cell)(c:Cell):Asc (psrc cs c):=(g8 _).filter _
theorem Fd {cs:List Cell}{c:Cell}{i:Nat}:i∈psrc cs c↔ ∃x∈c.reads,pmk cs x=[i]:=by
 unfold psrc;rw[mem_filter,mem_range,any_eq_true];constructor
 .rintro⟨_,x,hx,e⟩;exact⟨x,hx,eq_of_beq e⟩
 .rintro⟨x,hx,e⟩;exact⟨qH (x:=x) (by rw[e];exact mem_singleton.mpr rfl),x,hx,by rw[e];exact beq_self_eq_true _⟩
theorem Fe (cs:List Cell)(x:Nat):makerOf ⟨cs⟩ x=match pmk cs x with | [i]=>some (num cs i) | _=>none:=by
 unfold makerOf;rw[lX]
 match pmk cs x with
 | []=>rfl
 | [i]=>rfl
 | i::j::r=>rfl
theorem Rw {cs:List Cell}(w:SOk cs)(c:Cell):sources ⟨cs⟩ c=(psrc cs c).map (num cs):=by
 unfold sources psrc;show ((cs.map fun c=>c.number).filter _)=_;rw[<-jw];refine iW (bL w) _ _ _ fun i=>?_;rw[Bool.eq_iff_iff,contains_iff_mem,mem_filterMap,any_eq_true];constructor
 .rintro⟨x,hx,e⟩;refine⟨x,hx,?_⟩;rw[Fe] at e;split at e
  .rename_i j hj
   have:=bL w _ _ (Option.some.inj e);rw[hj,this];exact beq_self_eq_true _
  .cases e
 .rintro⟨x,hx,e⟩;refine⟨x,hx,?_⟩;rw[Fe,eq_of_beq e]
def aq (cs:List Cell):Src:=cs.map (psrc cs)
theorem Ff {cs:List Cell}{i:Nat}{c:Cell}(h:cs[i]?=some c):row (aq cs) i=psrc cs c:=by
 unfold row aq;rw[List.getD_eq_getElem?_getD,List.getElem?_map,h];rfl
theorem bI (cs:List Cell):(aq cs).length=cs.length:=by unfold aq;rw[length_map]
theorem bR (cs:List Cell):Wf (aq cs):=by
 have h: ∀i,row (aq cs) i=[]\/ ∃c,row (aq cs) i=psrc cs c:=fun i=>by
  cases e:cs[i]? with
  | none=>exact .inl (j9 (by rw[bI];exact List.getElem?_eq_none_iff.mp e))
  | some c=>exact .inr ⟨c,Ff e⟩
 constructor
 .intro i;rcases h i with e | ⟨c,e⟩
  .rw[e];exact List.Pairwise.nil
  .rw[e];exact uT cs c
 .intro i j hj;rw[bI];rcases h i with e | ⟨c,e⟩
  .rw[e] at hj;cases hj
  .rw[e] at hj;obtain⟨x,_,q⟩:=Fd.mp hj;exact qH (x:=x) (by rw[q];exact mem_singleton.mpr rfl)
theorem eQ {cs:List Cell}(w:SOk cs):graph ⟨cs⟩=ren (num cs) (gp (aq cs)):=by
 unfold graph ren gp;rw[List.map_map];apply ext_getElem?;intro i;rw[List.getElem?_map,List.getElem?_map,bI]
 by_cases h:i < cs.length
 .rw[List.getElem?_range h];have e:=List.getElem?_eq_getElem h;rw[e];show some (cs[i].number,sources ⟨cs⟩ cs[i])=some (num cs i,(row (aq cs) i).map (num cs));rw[lW e,Rw w,Ff e]
 .rw[List.getElem?_eq_none (show cs.length<=i by omega),List.getElem?_eq_none (by rw[length_range];omega)];rfl
def cU (cs:List Cell) (i:Nat):Nat:=match cs[i]? with
 | none=>0
 | some c =>
  if c.broken=true then 1
  else if (c.makes.any fun x=>decide (2<=(pmk cs x).length))=true then 2
  else if circled (gp (aq cs)) i=true then 3
  else if (c.reads.any fun x=>(pmk cs x).isEmpty)=true then 4
  else if (c.reads.any fun x=>decide (2<=(pmk cs x).length))=true then 5
  else 0
theorem Rx {cs:List Cell}(w:SOk cs){i:Nat}{c:Cell}(h:cs[i]?=some c):sickness ⟨cs⟩ (graph ⟨cs⟩) c=cU cs i:=by
 unfold sickness cU;rw[h];simp only
 have e1:(fun x=>decide (2<=(makersOf ⟨cs⟩ x).length))=fun x=>decide (2<=(pmk cs x).length):=by
  funext x;rw[lX,length_map]
 have e2:(fun x=>(makersOf ⟨cs⟩ x).isEmpty)=fun x=>(pmk cs x).isEmpty:=by
  funext x;rw[lX,List.isEmpty_map]
 rw[e1,e2,eQ w,<-lW h,Ek (bL w)]
def aV (cs:List Cell) (i:Nat):Nat:=if 0 < cU cs i then cU cs i else if ((above (gp (aq cs)) i).any fun m=>decide (0 < cU cs m))=true then 6 else 0
theorem map_range {α:Type}{cs:List Cell}(f:Cell->α)(g:Nat->α)(h: ∀i c,cs[i]?=some c->f c=g i):cs.map f=(List.range cs.length).map g:=by
 apply ext_getElem?;intro i;rw[List.getElem?_map,List.getElem?_map]
 by_cases hi:i < cs.length
 .rw[List.getElem?_range hi,List.getElem?_eq_getElem hi];show some (f cs[i])=some (g i);rw[h i _ (List.getElem?_eq_getElem hi)]
 .rw[List.getElem?_eq_none (show cs.length<=i by omega),List.getElem?_eq_none (by rw[length_range];omega)];rfl
theorem Fg {cs:List Cell}(w:SOk cs):sicknesses ⟨cs⟩=(List.range cs.length).map fun i=>(num cs i,cU cs i):=by
 show (cs.map fun c=>(c.number,sickness ⟨cs⟩ (graph ⟨cs⟩) c))=_;refine map_range _ _ fun i c h=>?_;rw[Rx w h,lW h]
theorem Fi {cs:List Cell}(w:SOk cs):sick ⟨cs⟩=((List.range cs.length).filter fun i=>decide (0 < cU cs i)).map (num cs):=by
 unfold sick;rw[Fg w,filter_map,List.map_map];rfl
theorem nG {cs:List Cell}(w:SOk cs):states ⟨cs⟩=(List.range cs.length).map fun i=>(num cs i,aV cs i):=by
 unfold states;simp only;rw[Fg w,List.map_map,eQ w];refine map_congr_left fun i hi=>?_;show (num cs i,if 0 < cU cs i then cU cs i else if ((above (ren (num cs) (gp (aq cs))) (num cs i)).any fun m=>(sick ⟨cs⟩).contains m)=true then 6 else 0)=(num cs i,aV cs i);unfold aV
 have e:((above (ren (num cs) (gp (aq cs))) (num cs i)).any fun m=>(sick ⟨cs⟩).contains m)=((above (gp (aq cs)) i).any fun m=>decide (0 < cU cs m)):=by
  rw[jt (bL w),Fi w,nF (bL w),Bool.eq_iff_iff,any_eq_true,any_eq_true];refine⟨fun ⟨m,h1,h2⟩=>⟨m,h1,?_⟩,fun ⟨m,h1,h2⟩=>⟨m,h1,?_⟩⟩
  .rw[contains_iff_mem,mem_filter] at h2;exact h2.2
  .rw[contains_iff_mem,mem_filter,mem_range];have:=((cO (bR cs)).mp h1).lt (bR cs);rw[bI] at this;exact⟨this.2,h2⟩
 rw[e]
theorem Fj {β:Type}{f:Nat->Nat}(hf:Inj f)(r:Nat->β)(i:Nat): ∀ (l:List Nat),((l.map fun k=>(f k,r k)).find? fun q=>q.1==f i)=if i∈l then some (f i,r i) else none
 | []=>rfl
 | a::l=>by
  rw[map_cons,List.find?_cons]
  by_cases h:a=i
  .subst h;rw[beq_self_eq_true,if_pos (mem_cons_self ..)]
  .have e:((f a,r a).1==f i)=false:=beq_eq_false_iff_ne.mpr fun z=>h (hf _ _ z);rw[e];show List.find? _ _=_;rw[Fj hf r i l]
   by_cases hm:i∈l
   .rw[if_pos hm,if_pos (mem_cons_of_mem _ hm)]
   .rw[if_neg hm,if_neg (fun q=>(mem_cons.mp q).elim (fun z=>h z.symm) hm)]
theorem uU {cs:List Cell}(w:SOk cs){i:Nat}(h:i < cs.length):stateIn (states ⟨cs⟩) (num cs i)=some (aV cs i):=by
 unfold stateIn;rw[nG w,Fj (bL w),if_pos (mem_range.mpr h)];rfl
theorem uV {cs:List Cell}(w:SOk cs){i:Nat}(h:i < cs.length):stateOf ⟨cs⟩ (num cs i)=aV cs i:=by
 unfold stateOf;rw[uU w h];rfl
def aX (cs:List Cell):List Nat:=(List.range cs.length).filter fun i=>aV cs i==0
theorem uW {cs:List Cell}(w:SOk cs):clear ⟨cs⟩=(aX cs).map (num cs):=by
 unfold clear aX;rw[nG w,filter_map,List.map_map];rfl
def bz (cs:List Cell):List Nat:=taken (gp (aq cs)) (aX cs) cs.length []
theorem order_eq {cs:List Cell}(w:SOk cs):order ⟨cs⟩=(bz cs).map (num cs):=by
 unfold order bz;rw[eQ w,uW w];exact Eo (bL w) _ _ _ []
theorem Ry {cs:List Cell}(w:SOk cs)(k:Nat):waves ⟨cs⟩ k=(rounds (gp (aq cs)) (aX cs) k cs.length []).map (·.map (num cs)):=by
 unfold waves;rw[eQ w,uW w];exact En (bL w) _ _ _ _ []
theorem Rz {cs:List Cell}(w:SOk cs)(i:Nat):level ⟨cs⟩ (num cs i)=levelIn (gp (aq cs)) cs.length i:=by
 unfold level;rw[eQ w];exact Ep (bL w) _ _ _
theorem RB {cs:List Cell}(w:SOk cs):groups ⟨cs⟩=(((List.range cs.length).filter fun i=>(groupOf (gp (aq cs)) i).head?==some i).map fun i=>groupOf (gp (aq cs)) i).map (·.map (num cs)):=by
 unfold groups;simp only;rw[eQ w];show ((cs.map fun c=>c.number).filter _).map _=_;rw[<-jw,iW (bL w) _ _ (fun i=>(groupOf (gp (aq cs)) i).head?==some i) fun i=>?_,List.map_map,List.map_map]
 .exact map_congr_left fun i _=>Es (bL w) _ i
 .rw[Es (bL w),List.head?_map]
  cases (groupOf (gp (aq cs)) i).head? with
  | none=>rfl
  | some j =>
   show (num cs j==num cs i)=(j==i);exact nD (bL w) j i
theorem RC {cs:List Cell}(w:SOk cs)(l:List Nat):touched ⟨cs⟩ (l.map (num cs))=((bz cs).filter fun i=>l.contains i||(above (gp (aq cs)) i).any fun m=>l.contains m).map (num cs):=by
 unfold touched;simp only;rw[order_eq w,eQ w];refine iW (bL w) _ _ _ fun i=>?_;rw[cZ (bL w),jt (bL w),nF (bL w)]
end CG
end
section
namespace CG
open Vanbkb
theorem uX (x:Nat): ∀l:List Nat,(Vanbkb.insert x l).Perm (x::l)
 | []=>List.Perm.refl _
 | y::r=>by
  unfold Vanbkb.insert;split
  .exact List.Perm.refl _
  .exact ((uX x r).cons y).trans (List.Perm.swap x y r)
theorem RD {x y:Nat}{l:List Nat}:y∈Vanbkb.insert x l↔y=x\/y∈l:=by rw[(uX x l).mem_iff,mem_cons]
theorem Fl (x:Nat): ∀{l:List Nat},l.Pairwise (·<=·)->(Vanbkb.insert x l).Pairwise (·<=·)
 | [],_=>pairwise_singleton _ _
 | y::r,h=>by
  obtain⟨h1,h2⟩:=pairwise_cons.mp h;unfold Vanbkb.insert;split
  .refine pairwise_cons.mpr ⟨fun z hz=>?_,h⟩;rcases mem_cons.mp hz with e | hz
   .omega
   .have:=h1 z hz;omega
  .refine pairwise_cons.mpr ⟨fun z hz=>?_,Fl x h2⟩;rcases RD.mp hz with e | hz
   .omega
   .exact h1 z hz
theorem kj: ∀l:List Nat,(Vanbkb.sorted l).Perm l
 | []=>List.Perm.refl _
 | x::l=>by
  show (Vanbkb.insert x (Vanbkb.sorted l)).Perm (x::l);exact (uX x _).trans ((kj l).cons x)
theorem lY: ∀l:List Nat,(Vanbkb.sorted l).Pairwise (·<=·)
 | []=>List.Pairwise.nil
 | x::l=>Fl x (lY l)
theorem Fo: ∀{l:List Nat},l.Pairwise (·<=·)->l.Nodup->Asc l
 | [],_,_=>List.Pairwise.nil
 | x::l,h,hn=>by
  obtain⟨h1,h2⟩:=pairwise_cons.mp h;obtain⟨n1,n2⟩:=nodup_cons.mp hn;refine pairwise_cons.mpr ⟨fun z hz=>?_,Fo h2 n2⟩;have:=h1 z hz;have:x≠z:=fun e=>n1 (by rw[e];exact hz);omega
theorem qI {l:List Nat}(h:l.Nodup):Asc (Vanbkb.sorted l):=Fo (lY l) ((kj l).nodup_iff.mpr h)
theorem Asc.le {l:List Nat}(h:Asc l):l.Pairwise (·<=·):=List.Pairwise.imp (fun h=>Nat.le_of_lt h) h
theorem qJ {l:List Nat}{x:Nat}:x∈Vanbkb.sorted l↔x∈l:=(kj l).mem_iff
theorem nH: ∀{l:List Int},distinct l=true↔l.Nodup
 | []=>by simp [distinct]
 | x::l=>by
  unfold distinct;rw[Bool.and_eq_true,nodup_cons,nH (l:=l)];refine and_congr_left fun _=>?_;rw[Bool.not_eq_true',<-Bool.not_eq_true,contains_iff_mem]
theorem dq {n lo hi:Int}:within n lo hi=true↔lo<=n/\n<=hi:=by
 unfold within;rw[Bool.and_eq_true,decide_eq_true_eq,decide_eq_true_eq]
theorem RG {l:List Int}(h:l.Nodup)(h0: ∀x∈l,0<=x):(l.map Int.toNat).Nodup:=by
 rw[nodup_iff_pairwise_ne,pairwise_map];exact List.Pairwise.imp_of_mem (fun {a b} ha hb hab e=>hab (by have:=h0 a ha;have:=h0 b hb;omega)) (nodup_iff_pairwise_ne.mp h)
theorem RJ {l:List Int}(h0: ∀x∈l,0<=x):(l.map Int.toNat).map (fun (n:Nat)=>(n:Int))=l:=by
 rw[List.map_map]
 conv=>rhs;rw[<-List.map_id l]
 exact map_congr_left fun x hx=>Int.toNat_of_nonneg (h0 x hx)
theorem Fp {l:List Int}(h0: ∀x∈l,0<=x):((Vanbkb.sorted (l.map Int.toNat)).map (fun (n:Nat)=>(n:Int))).Perm l:=by
 have:=(kj (l.map Int.toNat)).map (fun (n:Nat)=>(n:Int))
 rwa [RJ h0] at this
structure Named (l:List Int):Prop where
 nd:l.Nodup
 lo: ∀x∈l,0<=x
 hi: ∀x∈l,x<=31
theorem Named.asc {l:List Int}(h:Named l):Asc (Vanbkb.sorted (l.map Int.toNat))/\ ∀x∈Vanbkb.sorted (l.map Int.toNat),x<=31:=by
 refine⟨qI (RG h.nd h.lo),fun x hx=>?_⟩;obtain⟨y,hy,e⟩:=mem_map.mp (qJ.mp hx);have:=h.hi y hy;have:=h.lo y hy;omega
theorem lZ {b:Int}{m r:List Int}(h:fault b m r=0):(b=0\/b=1)/\Named m/\Named r:=by
 unfold fault at h;split at h
 .cases h
 .rename_i h1
  split at h
  .cases h
  .rename_i h2
   split at h
   .cases h
   .rename_i h3
    have h1:=dq.mp (Bool.not_eq_false _ ▸ h1);have h2:=all_eq_true.mp (Bool.not_eq_false _ ▸ h2);have h3:=Bool.and_eq_true _ _ ▸ (Bool.not_eq_false _ ▸ h3);have w: ∀x∈m++r,0<=x/\x<=31:=fun x hx=>dq.mp (h2 x hx);refine⟨by omega,⟨nH.mp h3.1,fun x hx=>(w x (mem_append_left _ hx)).1,fun x hx=>(w x (mem_append_left _ hx)).2⟩,⟨nH.mp h3.2,fun x hx=>(w x (mem_append_right _ hx)).1,fun x hx=>(w x (mem_append_right _ hx)).2⟩⟩
structure COk (c:Cell):Prop where
 hi:1<=c.number/\c.number<=99
 makes:Asc c.makes/\ ∀x∈c.makes,x<=31
 reads:Asc c.reads/\ ∀x∈c.reads,x<=31
theorem SOk.cell {cs:List Cell}(w:SOk cs){c:Cell}(h:c∈cs):COk c:=⟨w.hi c h,w.makes c h,w.reads c h⟩
theorem SOk.mk' {cs:List Cell}(nd:(cs.map fun c=>c.number).Nodup)(ok: ∀c∈cs,COk c)(len:cs.length<=12):SOk cs:=⟨nd,fun c h=>(ok c h).hi,fun c h=>(ok c h).makes,fun c h=>(ok c h).reads,len⟩
theorem qK {n b:Int}{m r:List Int}(hn:1<=n/\n<=99)(hm:Named m)(hr:Named r):COk (told n b m r):=⟨by show 1<=n.toNat/\n.toNat<=99;omega,hm.asc,hr.asc⟩
theorem RK:SOk []:=⟨nodup_nil,(fun _ h=>by cases h),(fun _ h=>by cases h),(fun _ h=>by cases h),by decide⟩
theorem Fq {cs:List Cell}(w:SOk cs){c:Cell}{p:Nat}(hc:COk c)(hn:c.number∉cs.map fun c=>c.number)(hl:cs.length < 12):SOk (putAt cs p c):=by
 have pm:(putAt cs p c).Perm (c::cs):=by
  unfold putAt;refine (List.perm_middle).trans ?_;rw[take_append_drop]
 refine SOk.mk' ?_ (fun d hd=>?_) ?_
 .rw[(pm.map _).nodup_iff,map_cons,nodup_cons];exact⟨hn,w.nd⟩
 .rcases mem_cons.mp (pm.mem_iff.mp hd) with e | hd
  .rw[e];exact hc
  .exact w.cell hd
 .rw[pm.length_eq,length_cons];omega
theorem uY {cs ds:List Cell}(w:SOk cs)(h:ds.Sublist cs):SOk ds:=SOk.mk' ((h.map _).nodup w.nd) (fun d hd=>w.cell (h.subset hd)) (Nat.le_trans h.length_le w.len)
theorem RL {cs ds:List Cell}(w:SOk cs)(h:ds.Perm cs):SOk ds:=SOk.mk' ((h.map _).nodup_iff.mpr w.nd) (fun d hd=>w.cell (h.mem_iff.mp hd)) (by rw[h.length_eq];exact w.len)
theorem Ft {cs:List Cell}(w:SOk cs)(n:Nat):SOk (without ⟨cs⟩ n).cells:=uY w (filter_sublist ..)
theorem uZ {cs:List Cell}(w:SOk cs){c:Cell}(hc:COk c):SOk (changed ⟨cs⟩ c).cells:=by
 show SOk (cs.map fun d=>if d.number==c.number then c else d)
 have e:(cs.map fun d=>if d.number==c.number then c else d).map (fun c=>c.number)=cs.map fun c=>c.number:=by
  rw[List.map_map];refine map_congr_left fun d _=>?_;show (if d.number==c.number then c else d).number=d.number;split
  .rename_i h;exact (eq_of_beq h).symm
  .rfl
 refine SOk.mk' (by rw[e];exact w.nd) (fun d hd=>?_) (by rw[length_map];exact w.len);obtain⟨d0,h0,e0⟩:=mem_map.mp hd;rw[<-e0];split
 .exact hc
 .exact w.cell h0
theorem RM {cs:List Cell}(w:SOk cs){a b:Nat}(hb:b<=31)(hno: ∀c∈cs,b∉c.makes/\b∉c.reads):SOk (renamed ⟨cs⟩ a b).cells:=by
 show SOk (cs.map fun c=>{ c with makes:=renamedIn a b c.makes,reads:=renamedIn a b c.reads })
 have key: ∀l:List Nat,Asc l->(∀x∈l,x<=31)->b∉l->Asc (renamedIn a b l)/\ ∀x∈renamedIn a b l,x<=31:=by
  intro l hl hx hbl
  have nd:(l.map fun x=>if x=a then b else x).Nodup:=by
   rw[nodup_iff_pairwise_ne,pairwise_map];refine List.Pairwise.imp_of_mem (fun {x y} hx hy hxy=>?_) (nodup_iff_pairwise_ne.mp hl.nodup);have nx:x≠b:=fun e=>hbl (e ▸ hx);have ny:y≠b:=fun e=>hbl (e ▸ hy);show (if x=a then b else x)≠(if y=a then b else y)
   by_cases h1:x=a
   .by_cases h2:y=a
    .exact absurd (h1.trans h2.symm) hxy
    .rw[if_pos h1,if_neg h2];exact ny.symm
   .by_cases h2:y=a
    .rw[if_neg h1,if_pos h2];exact nx
    .rw[if_neg h1,if_neg h2];exact hxy
  refine⟨qI nd,fun x hx'=>?_⟩;obtain⟨y,hy,e⟩:=mem_map.mp (qJ.mp hx');rw[<-e];split
  .exact hb
  .exact hx y hy
 refine SOk.mk' ?_ (fun d hd=>?_) (by rw[length_map];exact w.len)
 .rw[List.map_map];exact w.nd
 .obtain⟨c,hc,e⟩:=mem_map.mp hd;rw[<-e];exact⟨w.hi c hc,key _ (w.makes c hc).1 (w.makes c hc).2 (hno c hc).1,key _ (w.reads c hc).1 (w.reads c hc).2 (hno c hc).2⟩
end CG
end
section
namespace CG
open Vanbkb
structure gk (src:Src) (ok:List Nat):Prop where
 lt: ∀x∈ok,x < src.length
 up: ∀x∈ok,∀j∈row src x,j∈ok
 ac: ∀x∈ok,¬Reach src x x
theorem gk.reach {src:Src}{ok:List Nat}(h:gk src ok){x y:Nat}(hx:x∈ok)(r:Reach src x y):y∈ok:=Reach.closed (l:=fun y=>y∈ok) (h.up x hx) (fun a ha b hb=>h.up a ha b hb) r
theorem Fv {src:Src}(w:Wf src){x j:Nat}(hj:j∈row src x)(ac: ¬Reach src j j):(above (gp src) j).length < (above (gp src) x).length:=by
 refine Nat.lt_of_not_le fun hle=>?_;have e:=(ju w j).sub_eq (ju w x) (fun y hy=>(cO w).mpr (.cons hj ((cO w).mp hy))) hle;refine ac ((cO w).mp ?_);rw[e];exact (cO w).mpr (.of_edge hj)
theorem progress {src:Src}(w:Wf src){ok:List Nat}(h:gk src ok)(done:List Nat): ∀ (k x:Nat),(above (gp src) x).length<=k->x∈ok->x∉done-> ∃y∈ok,y∉done/\ ∀j∈row src y,j∈done:=by
 intro k
 induction k with
 | zero =>
  intro x hk hx hd;refine⟨x,hx,hd,fun j hj=>?_⟩;have:j∈above (gp src) x:=(cO w).mpr (.of_edge hj);rw[length_eq_zero_iff.mp (Nat.le_zero.mp hk)] at this;cases this
 | succ k ih =>
  intro x hk hx hd
  by_cases hall: ∀j∈row src x,j∈done
  .exact⟨x,hx,hd,hall⟩
  .obtain⟨j,hj⟩:=Classical.not_forall.mp hall;obtain⟨hj,hn⟩:=Classical.not_imp.mp hj;have hjo:=h.up x hx j hj;have:=Fv w hj (h.ac j hjo);exact ih j (by omega) hjo hn
def jx (src:Src) (done:List Nat):Prop:= ∀x∈done,∀j∈row src x,j∈done
theorem RN {src:Src}(w:Wf src){done:List Nat}(hc:jx src done)(x:Nat):((above (gp src) x).all fun m=>done.contains m)=(from_ (gp src) x).all fun m=>done.contains m:=by
 rw[gj,Bool.eq_iff_iff,all_eq_true,all_eq_true];simp only[contains_iff_mem];refine⟨fun h j hj=>h j ((cO w).mpr (.of_edge hj)),fun h y hy=>?_⟩;exact Reach.closed (l:=fun y=>y∈done) h (fun a ha b hb=>hc a ha b hb) ((cO w).mp hy)
theorem RP {src:Src}:jx src []:=fun x hx=>by cases hx
theorem RQ {src:Src}{done more:List Nat}(hc:jx src done)(h: ∀x∈more,∀j∈row src x,j∈done):jx src (done++more):=fun x hx j hj=>by
 rcases mem_append.mp hx with hx | hx
 .exact mem_append_left _ (hc x hx j hj)
 .exact mem_append_left _ (h x hx j hj)
def wait (ok done:List Nat):List Nat:=ok.filter fun n=> !done.contains n
theorem u0 (ok:List Nat):wait ok []=ok:=filter_eq_self.mpr fun _ _=>rfl
theorem jy {ok done:List Nat}{x:Nat}:x∈wait ok done↔x∈ok/\x∉done:=by
 unfold wait;rw[mem_filter,Bool.not_eq_true',<-Bool.not_eq_true,contains_iff_mem]
theorem Fw (ok done more:List Nat):wait ok (done++more)=wait (wait ok done) more:=by
 unfold wait;rw[List.filter_filter];refine filter_congr fun x _=>?_;rw[Bool.eq_iff_iff];simp only[Bool.not_eq_true',Bool.and_eq_true,<-Bool.not_eq_true,contains_iff_mem,mem_append,not_or];exact And.comm
theorem RT {src:Src}(w:Wf src){ok done:List Nat}(hc:jx src done):ready (gp src) ok done=(wait ok done).filter fun n=>(above (gp src) n).all fun m=>done.contains m:=by
 unfold ready wait;rw[List.filter_filter];refine filter_congr fun x _=>?_;rw[RN w hc,Bool.and_comm]
theorem Fx {src:Src}(w:Wf src){ok done:List Nat}(h:gk src ok)(hn:wait ok done≠[]):ready (gp src) ok done≠[]:=by
 obtain⟨x,hx⟩:=List.exists_mem_of_ne_nil _ hn;obtain⟨h1,h2⟩:=jy.mp hx;obtain⟨y,hy,hyd,hj⟩:=progress w h done _ x (Nat.le_refl _) h1 h2;refine List.ne_nil_of_mem (a:=y) ?_;unfold ready;rw[mem_filter,Bool.and_eq_true,Bool.not_eq_true',<-Bool.not_eq_true,contains_iff_mem,all_eq_true,gj];exact⟨hy,hyd,fun j q=>contains_iff_mem.mpr (hj j q)⟩
theorem RV {g:Graph}{ok done:List Nat}(hn:wait ok done=[]):ready g ok done=[]:=by
 refine List.eq_nil_iff_forall_not_mem.mpr fun x hx=>?_;unfold ready at hx;rw[mem_filter,Bool.and_eq_true,Bool.not_eq_true',<-Bool.not_eq_true,contains_iff_mem] at hx;have:x∈wait ok done:=jy.mpr ⟨hx.1,hx.2.1⟩;rw[hn] at this;cases this
theorem u5 {src:Src}{ok done:List Nat}{x:Nat}:x∈ready (gp src) ok done↔x∈ok/\x∉done/\ ∀j∈row src x,j∈done:=by
 unfold ready;rw[mem_filter,Bool.and_eq_true,Bool.not_eq_true',<-Bool.not_eq_true,contains_iff_mem,all_eq_true,gj];simp only[contains_iff_mem]
theorem Fy: ∀{l:List Nat} {r:Nat},l.Nodup->r∈l-> ∃j,l[j]?=some r/\(∀m,m < j->l[m]?≠some r)/\l.eraseIdx j=l.filter fun n=> !([r]:List Nat).contains n
 | [],r,_,h=>by cases h
 | a::l,r,nd,h=>by
  obtain⟨ha,nd⟩:=nodup_cons.mp nd
  by_cases e:a=r
  .subst e;refine⟨0,rfl,fun m hm=>absurd hm (Nat.not_lt_zero m),?_⟩;show l=_;rw[filter_cons,if_neg (by simp)];refine (filter_eq_self.mpr fun x hx=>?_).symm;have:x≠a:=fun e=>ha (e ▸ hx);simpa using this
  .obtain⟨j,h1,h2,h3⟩:=Fy nd ((mem_cons.mp h).resolve_left fun q=>e q.symm);refine⟨j+1,h1,fun m hm=>?_,?_⟩
   .cases m with
    | zero=>exact fun q=>e (Option.some.inj q)
    | succ m=>exact h2 m (by omega)
   .show a::l.eraseIdx j=_;rw[h3,filter_cons,if_pos (by simpa using e)]
theorem Fz {ok done:List Nat}{r:Nat}(nd:ok.Nodup)(h:r∈wait ok done):(wait ok (done++[r])).length+1=(wait ok done).length:=by
 obtain⟨j,h1,_,h3⟩:=Fy (List.Nodup.sublist (filter_sublist ..) nd:(wait ok done).Nodup) h;rw[Fw];show ((wait ok done).filter fun n=> !([r]:List Nat).contains n).length+1=_;rw[<-h3,length_eraseIdx_of_lt (List.getElem?_eq_some_iff.mp h1).1];have:=(List.getElem?_eq_some_iff.mp h1).1;omega
theorem gJ {cs:List Cell}{i:Nat}:i∈aX cs↔i < cs.length/\aV cs i=0:=by
 unfold aX;rw[mem_filter,mem_range,beq_iff_eq]
theorem u6 (cs:List Cell):Asc (aX cs):=(g8 _).filter _
theorem u9 (cs:List Cell):(aX cs).length<=cs.length:=(u6 cs).length_le fun x hx=>(gJ.mp hx).1
theorem qL {cs:List Cell}{i:Nat}:aV cs i=0↔cU cs i=0/\ ∀m,Reach (aq cs) i m->cU cs m=0:=by
 unfold aV;constructor
 .intro h;split at h
  .omega
  .rename_i h1
   split at h
   .cases h
   .rename_i h2
    refine⟨by omega,fun m hm=>?_⟩
    have:=(Bool.not_eq_true _ ▸ h2:_=false)
    rw[any_eq_false] at this;have:=this m ((cO (bR cs)).mpr hm);simp at this;exact this
 .rintro⟨h1,h2⟩;rw[if_neg (by omega),if_neg];rw[Bool.not_eq_true,any_eq_false];intro m hm;have:=h2 m ((cO (bR cs)).mp hm);simp [this]
theorem RW {cs:List Cell}{i:Nat}(hi:i < cs.length)(h:Reach (aq cs) i i):cU cs i≠0:=by
 unfold cU;rw[List.getElem?_eq_getElem hi];simp only;rw[(Rr (bR cs)).mpr h];split
 .decide
 .split
  .decide
  .rw[if_pos rfl];decide
theorem qM (cs:List Cell):gk (aq cs) (aX cs):=by
 refine⟨fun x hx=>by rw[bI];exact (gJ.mp hx).1,fun x hx j hj=>?_,fun x hx r=>?_⟩
 .obtain⟨h1,h2⟩:=gJ.mp hx;have r:Reach (aq cs) x j:=.of_edge hj;have:=(r.lt (bR cs)).2;rw[bI] at this;refine gJ.mpr ⟨this,qL.mpr ⟨(qL.mp h2).2 j r,fun m hm=>(qL.mp h2).2 m (r.trans hm)⟩⟩
 .obtain⟨h1,h2⟩:=gJ.mp hx;exact RW h1 r (qL.mp h2).1
end CG
end
section
namespace CG
open Vanbkb
theorem RX (l:List Nat): ∀a,l.foldl max a=max a (l.foldl max 0):=by
 induction l with
 | nil=>intro a;exact (Nat.max_eq_left (Nat.zero_le a)).symm
 | cons b l ih =>
  intro a;rw[foldl_cons,foldl_cons,ih,ih (max 0 b),Nat.zero_max,Nat.max_assoc]
theorem FJ (a:Nat)(l:List Nat):greatest (a::l)=max a (greatest l):=by
 unfold greatest;rw[foldl_cons,RX,Nat.zero_max]
theorem FN {a:Nat}: ∀{l:List Nat},a∈l->a<=greatest l
 | b::l,h=>by
  rw[FJ];rcases mem_cons.mp h with e | e
  .rw[e];exact Nat.le_max_left ..
  .exact Nat.le_trans (FN e) (Nat.le_max_right ..)
theorem qN (src:Src)(k i:Nat):levelIn (gp src) (k+1) i=greatest ((row src i).map fun j=>1+levelIn (gp src) k j):=by
 show greatest ((from_ (gp src) i).map fun m=>1+levelIn (gp src) k m)=_;rw[gj]
theorem RZ {src:Src}(w:Wf src){ok:List Nat}(h:gk src ok): ∀ (b x:Nat),(above (gp src) x).length<=b->x∈ok-> ∀k m,b<=k->b<=m->levelIn (gp src) k x=levelIn (gp src) m x:=by
 intro b
 induction b with
 | zero =>
  intro x hb hx k m _ _
  have hr:row src x=[]:=by
   cases hr:row src x with
   | nil=>rfl
   | cons j l =>
    have:j∈above (gp src) x:=(cO w).mpr (.of_edge (by rw[hr];exact mem_cons_self ..));rw[length_eq_zero_iff.mp (Nat.le_zero.mp hb)] at this;cases this
  have z: ∀k,levelIn (gp src) k x=0:=fun k=>by
   cases k with
   | zero=>rfl
   | succ k=>rw[qN,hr];rfl
  rw[z,z]
 | succ b ih =>
  intro x hb hx k m hk hm
  cases k with
  | zero=>omega
  | succ k =>
   cases m with
   | zero=>omega
   | succ m =>
    rw[qN,qN];congr 1;refine map_congr_left fun j hj=>?_;have hjo:=h.up x hx j hj;have:=Fv w hj (h.ac j hjo);rw[ih j (by omega) hjo k m (by omega) (by omega)]
abbrev lev (src:Src) (x:Nat):Nat:=levelIn (gp src) src.length x
theorem len_above {src:Src}(w:Wf src)(x:Nat):(above (gp src) x).length<=src.length:=(ju w x).length_le fun m hm=>(((cO w).mp hm).lt w).2
theorem R3 {src:Src}(w:Wf src){ok:List Nat}(h:gk src ok){x:Nat}(hx:x∈ok):lev src x=greatest ((row src x).map fun j=>1+lev src j):=by
 rw[<-qN];exact RZ w h _ x (Nat.le_refl _) hx _ _ (len_above w x) (Nat.le_trans (len_above w x) (Nat.le_succ _))
theorem iZ {src:Src}{to:List Nat}{i k:Nat}:steps (gp src) to i=some k↔i∈downTo (gp src) k to/\ ∀m,m < k->i∉downTo (gp src) m to:=by
 unfold steps;rw[lU,List.find?_range_eq_some];simp only[contains_iff_mem,mem_range,Bool.not_eq_true',<-Bool.not_eq_true];constructor
 .rintro⟨h1,_,h3⟩;exact⟨h1,h3⟩
 .rintro⟨h1,h2⟩;refine⟨h1,?_,h2⟩;refine Nat.lt_of_not_le fun hle=>?_;exact h2 src.length (by omega) (uQ h1)
theorem vd {src:Src}{to:List Nat}{i:Nat}:steps (gp src) to i=none↔ ∀k,i∉downTo (gp src) k to:=by
 constructor
 .intro h k hk;unfold steps at h;have:=List.find?_eq_none.mp h src.length (mem_range.mpr (by rw[lU];omega));exact this (contains_iff_mem.mpr (uQ hk))
 .intro h;unfold steps;exact List.find?_eq_none.mpr fun k _ hk=>h k (contains_iff_mem.mp hk)
theorem vf {src:Src}{to:List Nat}{k n m:Nat}(h:(row src n).find? (fun m=>(downTo (gp src) k to).contains m)=some m):chain (gp src) to (k+1) n=n::chain (gp src) to k m:=by
 show (match (from_ (gp src) n).find? (fun m=>(downTo (gp src) k to).contains m) with
  | some m=>n::chain (gp src) to k m
  | none=>[n])=_
 rw[gj,h]
theorem FP {src:Src}{to:List Nat}{i k:Nat}(h:steps (gp src) to i=some (k+1)): ∃j,(row src i).find? (fun m=>(downTo (gp src) k to).contains m)=some j/\j∈row src i/\steps (gp src) to j=some k/\ ∀j',j'∈row src i->steps (gp src) to j'=some k-> ∀ (_:Asc (row src i)),j<=j':=by
 obtain⟨h1,h2⟩:=iZ.mp h;obtain⟨hi,h1⟩:=kh.mp h1
 have h3: ∃j∈row src i,j∈downTo (gp src) k to:=by
  rcases h1 with h1 | h1
  .exact absurd h1 (h2 k (by omega))
  .exact h1
 cases hf:(row src i).find? fun m=>(downTo (gp src) k to).contains m with
 | none =>
  obtain⟨j,hj,hd⟩:=h3;exact absurd (contains_iff_mem.mpr hd) (List.find?_eq_none.mp hf j hj)
 | some j =>
  have hj:=List.mem_of_find?_eq_some hf;have hd:=contains_iff_mem.mp (List.find?_some hf);refine⟨j,rfl,hj,iZ.mpr ⟨hd,fun m hm hd2=>?_⟩,fun j' hj' hs' asc=>?_⟩
  .exact h2 (m+1) (by omega) (kh.mpr ⟨hi,.inr ⟨j,hj,hd2⟩⟩)
  .obtain⟨as,bs,e,hno⟩:=(List.find?_eq_some_iff_append.mp hf).2;rw[e] at hj' asc;rcases mem_append.mp hj' with q | q
   .have:=hno j' q;rw[Bool.not_eq_true'] at this;exact absurd (contains_iff_mem.mpr (iZ.mp hs').1) (by rw[this];decide)
   .rcases mem_cons.mp q with q | q
    .rw[q];exact Nat.le_refl _
    .exact Nat.le_of_lt ((pairwise_cons.mp (pairwise_append.mp asc).2.1).1 j' q)
inductive du (src:Src):Nat->Nat->Prop
 | refl (i:Nat):du src i i
 | down {i j m:Nat}:du src i j->m∈row src j->du src i m
 | up {i j m:Nat}:du src i j->j∈row src m->du src i m
theorem du.trans {src:Src}{i j m:Nat}(h:du src i j)(h2:du src j m):du src i m:=by
 induction h2 with
 | refl=>exact h
 | down _ e ih=>exact ih.down e
 | up _ e ih=>exact ih.up e
theorem vg {src:Src}{i j:Nat}(h:j∈row src i):i < src.length:=Nat.lt_of_not_le fun q=>by rw[j9 q] at h;cases h
theorem du.lt {src:Src}(w:Wf src){i j:Nat}(hi:i < src.length)(h:du src i j):j < src.length:=by
 induction h with
 | refl=>exact hi
 | down _ e _=>exact ((Reach.of_edge e).lt w).2
 | up _ e _=>exact vg e
def jb (src:Src) (l:List Nat):List Nat:=((gp src).filter fun r=>l.contains r.1||(r.2.any fun m=>l.contains m)||(gp src).any fun q=>l.contains q.1&&q.2.contains r.1).map fun r=>r.1
theorem FQ (src:Src)(k:Nat)(l:List Nat):together (gp src) (k+1) l=together (gp src) k (jb src l):=rfl
theorem qO {src:Src}{l:List Nat}{m:Nat}:m∈jb src l↔m < src.length/\(m∈l\/(∃j∈row src m,j∈l)\/ ∃i,i < src.length/\i∈l/\m∈row src i):=by
 unfold jb;rw[qF,mem_filter,mem_range,Bool.or_eq_true,Bool.or_eq_true,contains_iff_mem,Eu,any_eq_true,or_assoc];refine and_congr_right fun _=>or_congr_right (or_congr ?_ ?_)
 .exact⟨fun ⟨j,a,b⟩=>⟨j,a,contains_iff_mem.mp b⟩,fun ⟨j,a,b⟩=>⟨j,a,contains_iff_mem.mpr b⟩⟩
 .refine⟨fun ⟨i,a,b⟩=>?_,fun ⟨i,a,b,c⟩=>⟨i,a,?_⟩⟩
  .rw[Bool.and_eq_true,contains_iff_mem,contains_iff_mem] at b;exact⟨i,a,b.1,b.2⟩
  .rw[Bool.and_eq_true,contains_iff_mem,contains_iff_mem];exact⟨b,c⟩
theorem FT (src:Src)(l:List Nat):Asc (jb src l):=by
 unfold jb;rw[qF];exact (g8 _).filter _
theorem FW {src:Src}{l:List Nat}(hl: ∀x∈l,x < src.length): ∀x∈l,x∈jb src l:=fun x hx=>qO.mpr ⟨hl x hx,.inl hx⟩
theorem R4 {src:Src}(w:Wf src){i:Nat}(hi:i < src.length): ∀ (k:Nat) (l:List Nat),Asc l->(∀m∈l,du src i m)->i∈l->src.length<=l.length+k->Asc (together (gp src) k l)/\ ∀m,m∈together (gp src) k l↔du src i m:=by
 intro k
 induction k with
 | zero =>
  intro l ha hc hil hk;have hl: ∀x∈l,x < src.length:=fun x hx=>(hc x hx).lt w hi;have e:=ha.full hl (by omega);refine⟨ha,fun m=>⟨hc m,fun q=>?_⟩⟩;show m∈l;rw[e];exact mem_range.mpr (q.lt w hi)
 | succ k ih =>
  intro l ha hc hil hk;have hl: ∀x∈l,x < src.length:=fun x hx=>(hc x hx).lt w hi
  have hc': ∀m∈jb src l,du src i m:=fun m hm=>by
   obtain⟨_,h | ⟨j,hj,h⟩ | ⟨a,_,h,hj⟩⟩:=qO.mp hm
   .exact hc m h
   .exact (hc j h).up hj
   .exact (hc a h).down hj
  rw[FQ]
  by_cases e:(jb src l).length<=l.length
  .have el:l=jb src l:=ha.sub_eq (FT src l) (FW hl) e
   have fixed: ∀k,together (gp src) k l=l:=fun k=>by
    induction k with
    | zero=>rfl
    | succ k ihk=>rw[FQ,<-el,ihk]
   rw[<-el,fixed];refine⟨ha,fun m=>⟨hc m,fun q=>?_⟩⟩
   induction q with
   | refl=>exact hil
   | down p e2 ihp =>
    rw[el];exact qO.mpr ⟨((Reach.of_edge e2).lt w).2,.inr (.inr ⟨_,vg e2,ihp,e2⟩)⟩
   | up p e2 ihp =>
    rw[el];exact qO.mpr ⟨vg e2,.inr (.inl ⟨_,e2,ihp⟩)⟩
  .exact ih _ (FT src l) hc' (FW hl i hil) (by omega)
theorem qP {src:Src}(w:Wf src){i:Nat}(hi:i < src.length):Asc (groupOf (gp src) i)/\ ∀m,m∈groupOf (gp src) i↔du src i m:=by
 unfold groupOf;rw[lU];refine R4 w hi _ [i] (pairwise_singleton ..) (fun m hm=>?_) (mem_singleton.mpr rfl) (by rw[length_singleton];omega);rw[mem_singleton.mp hm];exact .refl i
theorem nJ {g:Graph}{ok done:List Nat}{width:Nat}(hn:wait ok done=[]): ∀k,rounds g ok width k done=[]
 | 0=>rfl
 | k+1=>by
  unfold rounds;rw[RV hn,List.take_nil]
theorem qQ {src:Src}(w:Wf src){ok done:List Nat}(h:gk src ok){width k:Nat}(hw:1<=width)(hn:wait ok done≠[]) :
  (ready (gp src) ok done).take width≠[]/\rounds (gp src) ok width (k+1) done=(ready (gp src) ok done).take width::rounds (gp src) ok width k (done++(ready (gp src) ok done).take width):=by
 have hr:=Fx w h hn
 have ht:(ready (gp src) ok done).take width≠[]:=by
  cases hq:ready (gp src) ok done with
  | nil=>exact absurd hq hr
  | cons a l =>
   cases width with
   | zero=>omega
   | succ m =>
    intro e;cases e
 refine⟨ht,?_⟩
 conv=>lhs;unfold rounds
 split
 .rename_i e
  exact absurd e ht
 .rfl
theorem vh {g:Graph}{ok done:List Nat}: ∀x∈ready g ok done,x∈wait ok done:=fun x hx=>by
 unfold ready at hx;obtain⟨h1,h2⟩:=mem_filter.mp hx;rw[Bool.and_eq_true,Bool.not_eq_true',<-Bool.not_eq_true,contains_iff_mem] at h2;exact jy.mpr ⟨h1,h2.1⟩
theorem FZ {g:Graph}{ok done:List Nat}(nd:ok.Nodup):(ready g ok done).Nodup:=List.Nodup.sublist (filter_sublist ..) nd
theorem vm {ok:List Nat}(nd:ok.Nodup): ∀{r done:List Nat},r.Nodup->(∀x∈r,x∈wait ok done)->(wait ok (done++r)).length+r.length=(wait ok done).length
 | [],done,_,_=>by rw[append_nil];rfl
 | a::r,done,hr,hs=>by
  have h1:=Fz nd (hs a (mem_cons_self ..));have hr':=nodup_cons.mp hr
  have h2:=vm nd (r:=r) (done:=done++[a]) hr'.2 fun x hx=>by
   obtain⟨h3,h4⟩:=jy.mp (hs x (mem_cons_of_mem _ hx));refine jy.mpr ⟨h3,fun q=>?_⟩;rcases mem_append.mp q with q | q
   .exact h4 q
   .rw[mem_singleton.mp q] at hx;exact hr'.1 hx
  rw[List.append_assoc] at h2;rw[length_cons];have e:done++([a]++r)=done++a::r:=rfl;rw[e] at h2;omega
theorem Gd {src:Src}(w:Wf src){ok done:List Nat}(h:gk src ok)(nd:ok.Nodup){width:Nat}(hw:1<=width)(hn:wait ok done≠[]) :
  (wait ok (done++(ready (gp src) ok done).take width)).length < (wait ok done).length/\(jx src done->jx src (done++(ready (gp src) ok done).take width)):=by
 obtain⟨h1,_⟩:=qQ (k:=0) w h hw hn;have h2:=vm nd (r:=(ready (gp src) ok done).take width) (done:=done) (List.Nodup.sublist (take_sublist ..) (FZ nd)) fun x hx=>vh x (mem_of_mem_take hx);have h3:0 < ((ready (gp src) ok done).take width).length:=List.length_pos_iff.mpr h1;exact⟨by omega,fun hc=>RQ hc fun x hx j hj=>(u5.mp (mem_of_mem_take hx)).2.2 j hj⟩
theorem R5 {src:Src}(w:Wf src){ok:List Nat}(h:gk src ok)(nd:ok.Nodup){width:Nat}(hw:1<=width): ∀ (k m:Nat) (done:List Nat),(wait ok done).length<=k->(wait ok done).length<=m->rounds (gp src) ok width k done=rounds (gp src) ok width m done:=by
 intro k
 induction k with
 | zero =>
  intro m done hk hm;have hn:=length_eq_zero_iff.mp (Nat.le_zero.mp hk);rw[nJ hn,nJ hn]
 | succ k ih =>
  intro m done hk hm
  by_cases hn:wait ok done=[]
  .rw[nJ hn,nJ hn]
  .cases m with
   | zero=>exact absurd (length_eq_zero_iff.mp (Nat.le_zero.mp hm)) hn
   | succ m =>
    have h1:=(Gd w h nd hw hn).1;rw[(qQ w h hw hn).2,(qQ w h hw hn).2,ih m _ (by omega) (by omega)]
theorem R6 {src:Src}{i j:Nat}(h:Reach src i j): ∃m∈row src i,∃k,dF src k m j:=by
 obtain⟨k,p⟩:=h
 cases p with
 | @succ _ _ m _ e p=>exact⟨m,e,k,p⟩
theorem R7 {src:Src}(w:Wf src){n:Nat}(h: ¬Reach src n n):ring (gp src) n=[]:=by
 unfold ring;split
 .rename_i k hk
  exfalso;have hs:=List.find?_some hk;obtain⟨m,hm,hd⟩:=any_eq_true.mp hs;rw[gj] at hm;obtain⟨a,_,j,hj,_,_,p⟩:=iY.mp (contains_iff_mem.mp hd);rw[mem_singleton.mp hj] at p;exact h ⟨a,.succ hm p⟩
 .rfl
theorem R8 {src:Src}(w:Wf src){n:Nat}(h:Reach src n n): ∃k m,m∈row src n/\steps (gp src) [n] m=some k/\(∀j∈row src n,∀a,steps (gp src) [n] j=some a->k<=a)/\(row src n).find? (fun m=>(downTo (gp src) k [n]).contains m)=some m /\
  ring (gp src) n=n::(chain (gp src) [n] k m).dropLast:=by
 have hn:=(h.lt w).1;obtain⟨m0,hm0,a0,p0⟩:=R6 h;have hd0:m0∈downTo (gp src) src.length [n]:=uQ (iY.mpr ⟨a0,Nat.le_refl _,n,mem_singleton.mpr rfl,hn,((Reach.of_edge hm0).lt w).2,p0⟩)
 cases hf:(List.range ((gp src).length+1)).find? fun k=>(from_ (gp src) n).any fun m=>(downTo (gp src) k [n]).contains m with
 | none =>
  exfalso;have:=List.find?_eq_none.mp hf src.length (mem_range.mpr (by rw[lU];omega));refine this (any_eq_true.mpr ⟨m0,by rw[gj];exact hm0,contains_iff_mem.mpr hd0⟩)
 | some k =>
  have hk:=List.find?_some hf;rw[List.find?_range_eq_some] at hf;obtain⟨_,_,hmin⟩:=hf;obtain⟨m1,hm1,hd1⟩:=any_eq_true.mp hk;rw[gj] at hm1
  have low: ∀j∈row src n,∀a,j∈downTo (gp src) a [n]->k<=a:=fun j hj a hd=>Nat.le_of_not_lt fun hlt=>by
   have:=hmin a hlt;rw[Bool.not_eq_true',<-Bool.not_eq_true] at this;exact this (any_eq_true.mpr ⟨j,by rw[gj];exact hj,contains_iff_mem.mpr hd⟩)
  cases hq:(row src n).find? fun m=>(downTo (gp src) k [n]).contains m with
  | none=>exact absurd hd1 (List.find?_eq_none.mp hq m1 hm1)
  | some m =>
   have hm:=List.mem_of_find?_eq_some hq;have hd:=contains_iff_mem.mp (List.find?_some hq);refine⟨k,m,hm,iZ.mpr ⟨hd,fun a ha hda=>?_⟩,fun j hj a hs=>low j hj a (iZ.mp hs).1,hq,?_⟩
   .have:=low m hm a hda;omega
   .unfold ring
    rw[show (List.range ((gp src).length+1)).find? (fun k=>(from_ (gp src) n).any fun m=>(downTo (gp src) k [n]).contains m)=some k from by
     rw[List.find?_range_eq_some]
     exact⟨hk,by assumption,hmin⟩]
    show (chain (gp src) [n] (k+1) n).dropLast=_;rw[vf hq];refine List.dropLast_cons_of_ne_nil ?_
    cases k with
    | zero=>exact List.cons_ne_nil _ _
    | succ k =>
     unfold chain
     split<;>exact List.cons_ne_nil _ _
end CG
end
section
namespace CG
open Vanbkb
def lx:List Nat->List Nat->Prop
 | a::l,b::m=>a < b\/(a=b/\lx l m)
 | _,_=>False
def sl (c d:List Nat):Prop:=c.length < d.length\/(c.length=d.length/\lx c d)
theorem Ge: ∀l:List Nat,¬lx l l
 | [],h=>h
 | a::l,h=>by
  rcases h with h | ⟨_,h⟩
  .omega
  .exact Ge l h
theorem Gf: ∀{a b c:List Nat},lx a b->lx b c->lx a c
 | [],_,_,h,_=>by cases h
 | _::_,[],_,h,_=>by cases h
 | _::_,_::_,[],_,h=>by cases h
 | a::l,b::m,c::n,h,q=>by
  rcases h with h | ⟨rfl,h⟩
  .rcases q with q | ⟨rfl,q⟩
   .exact .inl (by omega)
   .exact .inl h
  .rcases q with q | ⟨rfl,q⟩
   .exact .inl q
   .exact .inr ⟨rfl,Gf h q⟩
theorem qR: ∀{l m:List Nat} (x y:List Nat),lx l m->lx (l++x) (m++y)
 | [],_,_,_,h=>by cases h
 | _::_,[],_,_,h=>by cases h
 | a::l,b::m,x,y,h=>by
  rcases h with h | ⟨rfl,h⟩
  .exact .inl h
  .exact .inr ⟨rfl,qR x y h⟩
theorem Gg {a b:Nat}(h:a < b): ∀l:List Nat,lx (l++[a]) (l++[b])
 | []=>.inl h
 | c::l=>.inr ⟨rfl,Gg h l⟩
theorem R9 {a b c:List Nat}(h:sl a b)(q:sl b c):sl a c:=by
 rcases h with h | ⟨e,h⟩
 .rcases q with q | ⟨e2,_⟩
  .exact .inl (by omega)
  .exact .inl (by omega)
 .rcases q with q | ⟨e2,q⟩
  .exact .inl (by omega)
  .exact .inr ⟨by omega,Gf h q⟩
def sle (c d:List Nat):Prop:=c=d\/sl c d
theorem nM {a b c:List Nat}(h:sle a b)(q:sle b c):sle a c:=by
 rcases h with rfl | h
 .exact q
 .rcases q with rfl | q
  .exact .inr h
  .exact .inr (R9 h q)
theorem Sd {c d:List Nat}(h:sle c d)(x:Nat):sle (c++[x]) (d++[x]):=by
 rcases h with rfl | h | ⟨e,h⟩
 .exact .inl rfl
 .exact .inr (.inl (by rw[length_append,length_append];omega))
 .exact .inr (.inr ⟨by rw[length_append,length_append];omega,qR _ _ h⟩)
inductive Wy (src:Src) (b:Nat):List Nat->Nat->Prop
 | one:Wy src b [b] b
 | snoc {c:List Nat} {y x:Nat}:Wy src b c y->x∈row src y->Wy src b (c++[x]) x
theorem Wy.pos {src:Src}{b x:Nat}{c:List Nat}(h:Wy src b c x):0 < c.length:=by
 cases h with
 | one=>exact Nat.zero_lt_one
 | snoc _ _=>rw[length_append,length_singleton];omega
theorem Wy.last {src:Src}{b x:Nat}{c:List Nat}(h:Wy src b c x):c[c.length - 1]?=some x:=by
 cases h with
 | one=>rfl
 | snoc _ _=>rw[length_append,length_singleton,Nat.add_sub_cancel,List.getElem?_concat_length]
theorem Wy.lt {src:Src}(w:Wf src){b x:Nat}(hb:b < src.length){c:List Nat}(h:Wy src b c x):x < src.length/\ ∀y∈c,y < src.length:=by
 induction h with
 | one=>exact⟨hb,fun y hy=>by rw[mem_singleton.mp hy];exact hb⟩
 | snoc _ e ih =>
  refine⟨w.lt _ _ e,fun y hy=>?_⟩;rcases mem_append.mp hy with hy | hy
  .exact ih.2 y hy
  .rw[mem_singleton.mp hy];exact w.lt _ _ e
theorem Wy.path {src:Src}{b x:Nat}{c:List Nat}(h:Wy src b c x):dF src (c.length - 1) b x:=by
 induction h with
 | one=>exact .zero b
 | snoc q e ih =>
  have:=q.pos;rw[length_append,length_singleton,Nat.add_sub_cancel];have p:=ih.snoc e
  rwa [show _ - 1+1=_ from Nat.sub_add_cancel this] at p
theorem Wy.cons {src:Src}{b m x:Nat}{c:List Nat}(e:m∈row src b)(h:Wy src m c x):Wy src b (b::c) x:=by
 induction h with
 | one=>exact .snoc .one e
 | snoc _ e2 ih=>exact .snoc ih e2
theorem Wy.front {src:Src}{b x:Nat}{c:List Nat}(h:Wy src b c x):(c=[b]/\x=b)\/ ∃m∈row src b,∃d,c=b::d/\Wy src m d x:=by
 induction h with
 | one=>exact .inl ⟨rfl,rfl⟩
 | @snoc c y x q e ih =>
  rcases ih with⟨rfl,rfl⟩ | ⟨m,hm,d,rfl,hd⟩
  .exact .inr ⟨x,e,[x],rfl,.one⟩
  .exact .inr ⟨m,hm,d++[x],rfl,.snoc hd e⟩
theorem Wy.down {src:Src}(w:Wf src){b x:Nat}{c to:List Nat}(hb:b < src.length)(h:Wy src b c x)(hx:x∈to):b∈downTo (gp src) (c.length - 1) to:=iY.mpr ⟨_,Nat.le_refl _,x,hx,(h.lt w hb).1,hb,h.path⟩
theorem jz {src:Src}{to:List Nat}: ∀{k n:Nat},steps (gp src) to n=some k-> ∃x∈to,Wy src n (chain (gp src) to k n) x
 | 0,n,h=>by
  have:=(iZ.mp h).1;exact⟨n,(uP.mp this).2,.one⟩
 | k+1,n,h=>by
  obtain⟨j,h1,h2,h3,_⟩:=FP h;obtain⟨x,hx,q⟩:=jz h3;rw[vf h1];exact⟨x,hx,q.cons h2⟩
theorem mj {src:Src}(w:Wf src){to:List Nat}: ∀{k n:Nat},steps (gp src) to n=some k-> ∀{d:List Nat} {x:Nat},Wy src n d x->x∈to->n < src.length->k+1<=d.length/\(d.length=k+1-> ¬lx d (chain (gp src) to k n)):=by
 intro k
 induction k with
 | zero =>
  intro n h d x q hx hn;refine⟨q.pos,fun hl hlx=>?_⟩;rcases q.front with⟨rfl,_⟩ | ⟨m,_,d1,rfl,q1⟩
  .exact Ge _ hlx
  .have:=q1.pos;rw[length_cons] at hl;omega
 | succ k ih =>
  intro n h d x q hx hn
  have hle:k+1+1<=d.length:=by
   have:=(iZ.mp h).2 (d.length - 1);have hp:=q.pos;have hd:=q.down w hn hx;rcases Nat.lt_or_ge (d.length - 1) (k+1) with z | z
   .exact absurd hd (this z)
   .omega
  refine⟨hle,fun hl hlx=>?_⟩;obtain⟨j,h1,h2,h3,h4⟩:=FP h;rw[vf h1] at hlx;rcases q.front with⟨rfl,_⟩ | ⟨m,hm,d1,rfl,q1⟩
  .rw[length_singleton] at hl;omega
  .rw[length_cons] at hl;have hmn:=w.lt _ _ hm;rcases hlx with z | ⟨_,z⟩
   .omega
   .have hsm:steps (gp src) to m=some k:=by
     refine iZ.mpr ⟨?_,fun a ha hd=>?_⟩
     .have:=q1.down w hmn hx
      rwa [show d1.length - 1=k by omega] at this
     .have:n∈downTo (gp src) (a+1) to:=kh.mpr ⟨hn,.inr ⟨m,hm,hd⟩⟩;exact (iZ.mp h).2 (a+1) (by omega) this
    have hjm:=h4 m hm hsm (w.asc n);rcases Nat.lt_or_ge j m with lt | ge
    .have hc: ∃l,chain (gp src) to k j=j::l:=by
      obtain⟨y,hy,qy⟩:=jz h3;rcases qy.front with⟨e,_⟩ | ⟨_,_,e1,e,_⟩
      .exact⟨[],e⟩
      .exact⟨e1,e⟩
     have hd1: ∃l,d1=m::l:=by
      rcases q1.front with⟨e,_⟩ | ⟨_,_,e1,e,_⟩
      .exact⟨[],e⟩
      .exact⟨e1,e⟩
     obtain⟨l1,e1⟩:=hc;obtain⟨l2,e2⟩:=hd1;rw[e1,e2] at z
     rcases z with z | ⟨z,_⟩<;>omega
    .have:j=m:=by omega
     subst this;exact (ih h3 q1 hx hmn).2 (by omega) z
theorem nO (g:Graph)(to:List Nat): ∀ (k n:Nat),(chain g to k n).length<=k+1
 | 0,_=>Nat.le_refl _
 | k+1,n=>by
  unfold chain;split
  .rw[length_cons];exact Nat.succ_le_succ (nO g to k _)
  .rw[length_singleton];omega
structure Que (src:Src) (b:Nat) (to:List Nat) (Q:List (List Nat×Nat)) (f:Nat):Prop where
 way: ∀q∈Q,Wy src b q.1 q.2
 first:Q[0]?=some ([b],b)
 sorted:Q.Pairwise fun p q=>sl p.1 q.1
 par: ∀q∈Q,q=([b],b)\/ ∃p∈Q.take f,∃x,q=(p.1++[x],x)
 best: ∀p∈Q.take f,∀x∈row src p.2,∃q∈Q,q.2=x/\sle q.1 (p.1++[x])
 nd:(Q.map (·.2)).Nodup
 miss: ∀p∈Q.take f,p.2∉to
 le:f<=Q.length
theorem Que.start (src:Src)(b:Nat)(to:List Nat):Que src b to [([b],b)] 0:=by
 refine⟨fun q hq=>?_,rfl,pairwise_singleton ..,fun q hq=>.inl (mem_singleton.mp hq),fun p hp=>?_,?_,fun p hp=>?_,Nat.zero_le _⟩
 .rw[mem_singleton.mp hq];exact .one
 .rw[take_zero] at hp;cases hp
 .exact nodup_cons.mpr ⟨not_mem_nil,nodup_nil⟩
 .rw[take_zero] at hp;cases hp
theorem Que.len {src:Src}(w:Wf src){b:Nat}(hb:b < src.length){to:List Nat}{Q:List (List Nat×Nat)}{f:Nat}(h:Que src b to Q f):Q.length<=src.length:=by
 have hl: ∀x∈Q.map (·.2),x < src.length:=fun x hx=>by
  obtain⟨q,hq,rfl⟩:=mem_map.mp hx;exact ((h.way q hq).lt w hb).1
 have:=(qI h.nd).length_le (n:=src.length) fun x hx=>hl x (qJ.mp hx)
 rwa [(kj _).length_eq,length_map] at this
structure Trn (src:Src) (b:Nat) (to:List Nat) (Q0:List (List Nat×Nat)) (f:Nat) (h:List Nat×Nat) (t:Nat) (Q:List (List Nat×Nat)):Prop where
 more: ∃m:List Nat,Q=Q0++m.map (fun x=>(h.1++[x],x))/\(∀x∈m,x∈(row src h.2).take t)/\Asc m
 nd:(Q.map (·.2)).Nodup
 seen: ∀x∈(row src h.2).take t,x∈Q.map (·.2)
theorem Trn.start {src:Src}{b:Nat}{to:List Nat}{Q:List (List Nat×Nat)}{f:Nat}(q:Que src b to Q f)(h:List Nat×Nat):Trn src b to Q f h 0 Q :=
 ⟨⟨[],by rw[map_nil,append_nil],(fun x hx=>by cases hx),List.Pairwise.nil⟩,q.nd,fun x hx=>by rw[take_zero] at hx;cases hx⟩
theorem qT {α:Type}: ∀{l:List α} {i:Nat} {x:α},l[i]?=some x->l.take (i+1)=l.take i++[x]
 | [],_,_,h=>by cases h
 | a::l,0,x,h=>by cases h;rfl
 | a::l,i+1,x,h=>by rw[List.take_succ_cons,qT (show l[i]?=some x from h)];rfl
theorem Trn.skip {src:Src}{b:Nat}{to:List Nat}{Q0 Q:List (List Nat×Nat)}{f t x:Nat}{h:List Nat×Nat}(q:Trn src b to Q0 f h t Q)(hx:(row src h.2)[t]?=some x)(hm:x∈Q.map (·.2)):Trn src b to Q0 f h (t+1) Q:=by
 obtain⟨m,e,hm1,hm2⟩:=q.more;have ht:=qT hx;refine⟨⟨m,e,fun y hy=>by rw[ht];exact mem_append_left _ (hm1 y hy),hm2⟩,q.nd,fun y hy=>?_⟩;rw[ht] at hy;rcases mem_append.mp hy with hy | hy
 .exact q.seen y hy
 .rw[mem_singleton.mp hy];exact hm
theorem Trn.add {src:Src}(w:Wf src){b:Nat}{to:List Nat}{Q0 Q:List (List Nat×Nat)}{f t x:Nat}{h:List Nat×Nat}(q:Trn src b to Q0 f h t Q)(hx:(row src h.2)[t]?=some x)(hm:x∉Q.map (·.2)):Trn src b to Q0 f h (t+1) (Q++[(h.1++[x],x)]):=by
 obtain⟨m,e,hm1,hm2⟩:=q.more;have ht:=qT hx;refine⟨⟨m++[x],?_,fun y hy=>?_,?_⟩,?_,fun y hy=>?_⟩
 .rw[e,map_append,List.append_assoc];rfl
 .rw[ht];rcases mem_append.mp hy with hy | hy
  .exact mem_append_left _ (hm1 y hy)
  .exact mem_append_right _ hy
 .have ha:=w.asc h.2;rw[<-take_append_drop (t+1) (row src h.2),ht,List.append_assoc] at ha;have ha2:=pairwise_append.mp ha;refine pairwise_append.mpr ⟨hm2,pairwise_singleton ..,fun y hy z hz=>?_⟩;rw[mem_singleton.mp hz];exact ha2.2.2 y (hm1 y hy) x (mem_append_left _ (mem_singleton.mpr rfl))
 .rw[map_append];refine nodup_append.mpr ⟨q.nd,nodup_cons.mpr ⟨not_mem_nil,nodup_nil⟩,fun y hy z hz e=>hm ?_⟩;rw[<-mem_singleton.mp (show z∈[x] from hz),<-e];exact hy
 .rw[ht] at hy;rw[map_append];rcases mem_append.mp hy with hy | hy
  .exact mem_append_left _ (q.seen y hy)
  .exact mem_append_right _ (by rw[mem_singleton.mp hy];exact mem_singleton.mpr rfl)
theorem vo {Q:List (List Nat×Nat)}(h:Q.Pairwise fun p q=>sl p.1 q.1){i j:Nat}{p q:List Nat×Nat}(hi:Q[i]?=some p)(hj:Q[j]?=some q)(lt:i < j):sl p.1 q.1:=by
 obtain⟨hil,rfl⟩:=List.getElem?_eq_some_iff.mp hi;obtain⟨hjl,rfl⟩:=List.getElem?_eq_some_iff.mp hj;exact List.pairwise_iff_getElem.mp h i j hil hjl lt
theorem Gh {α:Type}{l:List α}{n:Nat}{a:α}(h:a∈l.take n): ∃i,i < n/\l[i]?=some a:=by
 obtain⟨i,hi,e⟩:=mem_iff_getElem.mp h;rw[length_take] at hi;refine⟨i,by omega,?_⟩;rw[List.getElem_take] at e;rw[List.getElem?_eq_getElem (by omega),e]
theorem Que.before {src:Src}{b:Nat}{to:List Nat}{Q:List (List Nat×Nat)}{f:Nat}(q:Que src b to Q f){h:List Nat×Nat}(hf:Q[f]?=some h){c:List Nat×Nat}(hc:c∈Q)(x:Nat):sl c.1 (h.1++[x]):=by
 have hp:=(q.way h (mem_of_getElem? hf)).pos;rcases q.par c hc with rfl | ⟨p,hpm,y,rfl⟩
 .refine .inl ?_;show 1 < _;rw[length_append,length_singleton];omega
 .obtain⟨i,hi,hpi⟩:=Gh hpm;rcases vo q.sorted hpi hf hi with z | ⟨e,z⟩
  .exact .inl (by rw[length_append,length_append,length_singleton,length_singleton];omega)
  .exact .inr ⟨by rw[length_append,length_append,length_singleton,length_singleton,e],qR _ _ z⟩
theorem Trn.done {src:Src}(w:Wf src){b:Nat}{to:List Nat}{Q0 Q:List (List Nat×Nat)}{f:Nat}{h:List Nat×Nat}(q0:Que src b to Q0 f)(hf:Q0[f]?=some h)(hm:h.2∉to)(q:Trn src b to Q0 f h (row src h.2).length Q):Que src b to Q (f+1):=by
 obtain⟨m,e,hm1,hm2⟩:=q.more;rw[take_length] at hm1;have hh:=mem_of_getElem? hf;have hfl:=(List.getElem?_eq_some_iff.mp hf).1
 have htk:Q.take (f+1)=Q0.take f++[h]:=by
  rw[e,List.take_append_of_le_length (by omega),qT hf]
 have hsub: ∀c∈Q0,c∈Q:=fun c hc=>by rw[e];exact mem_append_left _ hc
 refine⟨fun c hc=>?_,?_,?_,fun c hc=>?_,fun p hp x hx=>?_,q.nd,fun p hp=>?_,?_⟩
 .rw[e] at hc;rcases mem_append.mp hc with hc | hc
  .exact q0.way c hc
  .obtain⟨x,hx,rfl⟩:=mem_map.mp hc;exact .snoc (q0.way h hh) (hm1 x hx)
 .rw[e,List.getElem?_append_left (by omega)]
  exact q0.first
 .rw[e];refine pairwise_append.mpr ⟨q0.sorted,?_,fun c hc d hd=>?_⟩
  .rw[pairwise_map];exact List.Pairwise.imp (fun {a b} lt=>.inr ⟨by rw[length_append,length_append];rfl,Gg lt _⟩) hm2
  .obtain⟨x,hx,rfl⟩:=mem_map.mp hd;exact q0.before hf hc x
 .rw[e] at hc;rw[htk];rcases mem_append.mp hc with hc | hc
  .rcases q0.par c hc with z | ⟨p,hp,x,z⟩
   .exact .inl z
   .exact .inr ⟨p,mem_append_left _ hp,x,z⟩
  .obtain⟨x,hx,rfl⟩:=mem_map.mp hc;exact .inr ⟨h,mem_append_right _ (mem_singleton.mpr rfl),x,rfl⟩
 .rw[htk] at hp;rcases mem_append.mp hp with hp | hp
  .obtain⟨c,hc,z1,z2⟩:=q0.best p hp x hx;exact⟨c,hsub c hc,z1,z2⟩
  .rw[mem_singleton.mp hp] at hx ⊢;have:=q.seen x (by rw[take_length];exact hx);rw[e,map_append] at this;rcases mem_append.mp this with z | z
   .obtain⟨c,hc,z⟩:=mem_map.mp z;exact⟨c,hsub c hc,z,.inr (q0.before hf hc x)⟩
   .obtain⟨c,hc,z⟩:=mem_map.mp z;obtain⟨y,hy,rfl⟩:=mem_map.mp hc;have z:y=x:=z;subst z;exact⟨_,by rw[e];exact mem_append_right _ hc,rfl,.inl rfl⟩
 .rw[htk] at hp;rcases mem_append.mp hp with hp | hp
  .exact q0.miss p hp
  .rw[mem_singleton.mp hp];exact hm
 .rw[e,length_append];omega
theorem Que.clen {src:Src}{b:Nat}{to:List Nat}{Q:List (List Nat×Nat)}{f:Nat}(q:Que src b to Q f){c:List Nat}{x:Nat}(h:(c,x)∈Q):c.length<=Q.length:=by
 have: ∀ (n i:Nat) (p:List Nat×Nat),i<=n->i < f+1\/True->Q[i]?=some p->p.1.length<=i+1:=by
  intro n
  induction n with
  | zero =>
   intro i p hi _ hp
   have:i=0:=by omega
   subst this;rw[q.first] at hp;cases hp;exact Nat.le_refl _
  | succ n ih =>
   intro i p hi _ hp;rcases q.par p (mem_of_getElem? hp) with e | ⟨p2,hp2,y,e⟩
   .rw[e];show 1<=_;omega
   .obtain⟨j,hj,hpj⟩:=Gh hp2;rcases Nat.lt_or_ge j i with lt | ge
    .have:=ih j p2 (by omega) (.inr trivial) hpj;rw[e];show (p2.1++[y]).length<=_;rw[length_append,length_singleton];omega
    .exfalso
     have hs:sl p.1 p2.1\/p=p2:=by
      rcases Nat.lt_or_ge i j with l2 | g2
      .exact .inl (vo q.sorted hp hpj l2)
      .have:i=j:=by omega
       subst this;rw[hp] at hpj;exact .inr (Option.some.inj hpj)
     rw[e] at hs;rcases hs with hs | hs
     .rcases hs with z | ⟨z,_⟩<;>(simp only[length_append,length_singleton] at z;omega)
     .have:=congrArg (fun r:List Nat×Nat=>r.1.length) hs;simp only[length_append,length_singleton] at this;omega
 obtain⟨i,hi,e⟩:=mem_iff_getElem.mp h;have:=this i i (c,x) (Nat.le_refl _) (.inr trivial) (by rw[List.getElem?_eq_getElem hi,e]);have h2:c.length<=i+1:=this;omega
theorem Trn.lt {src:Src}(w:Wf src){b:Nat}{to:List Nat}{Q0 Q:List (List Nat×Nat)}{f t:Nat}{h:List Nat×Nat}(q:Trn src b to Q0 f h t Q)(q0:Que src b to Q0 f)(hb:b < src.length)(hh:h.2 < src.length): ∀x∈Q.map (·.2),x < src.length:=fun x hx=>by
 obtain⟨m,e,hm1,_⟩:=q.more;rw[e,map_append] at hx;rcases mem_append.mp hx with hx | hx
 .obtain⟨c,hc,rfl⟩:=mem_map.mp hx;exact ((q0.way c hc).lt w hb).1
 .obtain⟨c,hc,rfl⟩:=mem_map.mp hx;obtain⟨y,hy,rfl⟩:=mem_map.mp hc;exact w.lt _ _ (mem_of_mem_take (hm1 y hy))
theorem Que.all {src:Src}{b:Nat}{to:List Nat}{Q:List (List Nat×Nat)}{f:Nat}(q:Que src b to Q f){d:List Nat}{x:Nat}(h:Wy src b d x):(∃c∈Q,c.2=x/\sle c.1 d)\/ ∃c∈Q.drop f,sle c.1 d:=by
 induction h with
 | one=>exact .inl ⟨_,mem_of_getElem? q.first,rfl,.inl rfl⟩
 | @snoc d y x _ e ih =>
  have up:sle d (d++[x]):=.inr (.inl (by rw[length_append,length_singleton];omega));rcases ih with⟨c,hc,rfl,z⟩ | ⟨c,hc,z⟩
  .rw[<-take_append_drop f Q] at hc;rcases mem_append.mp hc with hc | hc
   .obtain⟨c2,h2,z1,z2⟩:=q.best c hc x e;exact .inl ⟨c2,h2,z1,nM z2 (Sd z x)⟩
   .exact .inr ⟨c,hc,nM z up⟩
  .exact .inr ⟨c,hc,nM z up⟩
theorem Sg {α:Type}{l:List α}{n:Nat}{a:α}(h:a∈l.drop n): ∃i,n<=i/\l[i]?=some a:=by
 obtain⟨i,hi,e⟩:=mem_iff_getElem.mp h;rw[length_drop] at hi;refine⟨n+i,by omega,?_⟩;rw[List.getElem_drop] at e;rw[List.getElem?_eq_getElem (by omega),e]
theorem Que.found {src:Src}(w:Wf src){b:Nat}(hb:b < src.length){to:List Nat}{Q:List (List Nat×Nat)}{f:Nat}(q:Que src b to Q f){h:List Nat×Nat}(hf:Q[f]?=some h)(hm:h.2∈to):shortest (gp src) to b=some h.1:=by
 have hw:=q.way h (mem_of_getElem? hf);have hd:=hw.down w hb hm;unfold shortest
 cases hs:steps (gp src) to b with
 | none=>exact absurd hd (vd.mp hs _)
 | some k =>
  show some _=some _;congr 1;obtain⟨x,hx,hA⟩:=jz hs
  have after: ∀c∈Q.drop f,sle h.1 c.1:=fun c hc=>by
   obtain⟨i,hi,hci⟩:=Sg hc;rcases Nat.lt_or_ge f i with lt | ge
   .exact .inr (vo q.sorted hf hci lt)
   .have:i=f:=by omega
    subst this;rw[hf] at hci;cases hci;exact .inl rfl
  have key:sle h.1 (chain (gp src) to k b):=by
   rcases q.all hA with⟨c,hc,rfl,z⟩ | ⟨c,hc,z⟩
   .rw[<-take_append_drop f Q] at hc;rcases mem_append.mp hc with hc | hc
    .exact absurd hx (q.miss c hc)
    .exact nM (after c hc) z
   .exact nM (after c hc) z
  obtain⟨h1,h2⟩:=mj w hs hw hm hb;have hl:(chain (gp src) to k b).length<=k+1:=nO ..;rcases key with e | z | ⟨e,z⟩
  .exact e.symm
  .omega
  .exact absurd z (h2 (by omega))
theorem Que.lost {src:Src}(w:Wf src){b:Nat}(hb:b < src.length){to:List Nat}{Q:List (List Nat×Nat)}(q:Que src b to Q Q.length):shortest (gp src) to b=none:=by
 unfold shortest
 cases hs:steps (gp src) to b with
 | none=>rfl
 | some k =>
  exfalso;obtain⟨x,hx,hA⟩:=jz hs;rcases q.all hA with⟨c,hc,rfl,_⟩ | ⟨c,hc,_⟩
  .exact q.miss c (by rw[take_length];exact hc) hx
  .rw[List.drop_length] at hc;cases hc
theorem Gi: ∀{a b:List Nat},a.length=b.length->a=b\/lx a b\/lx b a
 | [],[],_=>.inl rfl
 | [],_::_,h=>by cases h
 | _::_,[],h=>by cases h
 | x::a,y::b,h=>by
  rcases Nat.lt_trichotomy x y with q | q | q
  .exact .inr (.inl (.inl q))
  .subst q;rcases Gi (Nat.succ.inj h) with e | e | e
   .exact .inl (by rw[e])
   .exact .inr (.inl (.inr ⟨rfl,e⟩))
   .exact .inr (.inr (.inr ⟨rfl,e⟩))
  .exact .inr (.inr (.inl q))
theorem Gj {p:Nat->Bool}{m x:Nat}: ∀{l:List Nat},Asc l->l.find? p=some m->x∈l->p x=true->m<=x
 | [],_,h,_,_=>by cases h
 | a::l,ha,h,hx,hp=>by
  rw[List.find?_cons] at h
  cases q:p a with
  | true =>
   rw[q] at h;cases h;rcases mem_cons.mp hx with e | e
   .exact Nat.le_of_eq e.symm
   .exact Nat.le_of_lt ((pairwise_cons.mp ha).1 x e)
  | false =>
   rw[q] at h;rcases mem_cons.mp hx with e | e
   .rw[e,q] at hp;cases hp
   .exact Gj (pairwise_cons.mp ha).2 h e hp
theorem Wy.ends {src:Src}{b x:Nat}{c:List Nat}(h:Wy src b c x):c=c.dropLast++[x]:=by
 cases h with
 | one=>rfl
 | snoc _ _=>rw[List.dropLast_concat]
theorem Wy.pred {src:Src}{b x:Nat}{c:List Nat}(h:Wy src b (c++[x]) x)(hc:c≠[]): ∃y,Wy src b c y/\x∈row src y:=by
 generalize e:c++[x]=d at h
 cases h with
 | one =>
  cases c with
  | nil=>exact absurd rfl hc
  | cons a l=>cases l<;>cases e
 | @snoc c2 y _ h2 h3 =>
  obtain⟨rfl,_⟩:=List.append_inj' e rfl;exact⟨y,h2,h3⟩
theorem Wy.head {src:Src}{b x:Nat}{c:List Nat}(h:Wy src b c x): ∃l,c=b::l:=by
 rcases h.front with⟨e,_⟩ | ⟨_,_,l,e,_⟩
 .exact⟨[],e⟩
 .exact⟨l,e⟩
def rds (src:Src) (n:Nat):List Nat:=(List.range src.length).filter fun o=>(row src o).contains n
theorem vp {src:Src}{n r:Nat}:r∈rds src n↔r < src.length/\n∈row src r:=by
 unfold rds;rw[mem_filter,mem_range,contains_iff_mem]
theorem Sh {src:Src}(w:Wf src){n:Nat}(hn:n < src.length):(shortest (gp src) (rds src n) n).getD []=ring (gp src) n:=by
 by_cases hR:Reach src n n
 .obtain⟨k,m,hm,hs,hmin,hfind,hring⟩:=R8 w hR;have hml:=w.lt _ _ hm;obtain⟨x,hx,hB⟩:=jz hs;rw[mem_singleton.mp hx] at hB;have hBl:(chain (gp src) [n] k m).length=k+1:=Nat.le_antisymm (nO ..) (mj w hs hB (mem_singleton.mpr rfl) hml).1
  have hRB:ring (gp src) n++[n]=n::chain (gp src) [n] k m:=by
   rw[hring,cons_append,<-hB.ends]
  have hRl:(ring (gp src) n).length=k+1:=by
   have:=congrArg List.length hRB;rw[length_append,length_singleton,length_cons,hBl] at this;omega
  obtain⟨r,hRw,hr⟩:=Wy.pred (c:=ring (gp src) n) (x:=n) (b:=n) (src:=src) (by rw[hRB];exact hB.cons hm) (fun e=>by rw[e] at hRl;cases hRl);have hrm:r∈rds src n:=vp.mpr ⟨(hRw.lt w hn).1,hr⟩;unfold shortest
  cases hs2:steps (gp src) (rds src n) n with
  | none=>exact absurd (hRw.down w hn hrm) (vd.mp hs2 _)
  | some K =>
   show chain (gp src) (rds src n) K n=ring (gp src) n;obtain⟨y,hy,hA⟩:=jz hs2;have hAl:(chain (gp src) (rds src n) K n).length=K+1:=Nat.le_antisymm (nO ..) (mj w hs2 hA hy hn).1;obtain⟨q1,q2⟩:=mj w hs2 hRw hrm hn;have hA2:Wy src n (chain (gp src) (rds src n) K n++[n]) n:=.snoc hA (vp.mp hy).2;rcases hA2.front with⟨e,_⟩ | ⟨m2,hm2,d,e,hd⟩
   .have:=congrArg List.length e;rw[length_append,length_singleton,hAl] at this;simp at this
   .have hdl:d.length=K+1:=by
     have:=congrArg List.length e;rw[length_append,length_singleton,length_cons,hAl] at this;omega
    have hm2l:=w.lt _ _ hm2;have hdn:=hd.down w hm2l (to:=[n]) (mem_singleton.mpr rfl)
    have hk:k<=K:=by
     cases hs3:steps (gp src) [n] m2 with
     | none=>exact absurd hdn (vd.mp hs3 _)
     | some a =>
      have h1:=hmin m2 hm2 a hs3;have h2:=(mj w hs3 hd (mem_singleton.mpr rfl) hm2l).1;omega
    have hKk:K=k:=by omega
    subst hKk;rcases Gi (hAl.trans hRl.symm) with z | z | z
    .exact z
    .exfalso;have z2:=qR [n] [n] z;rw[e,hRB] at z2;rcases z2 with z2 | ⟨_,z2⟩
     .omega
     .rw[hdl,Nat.add_sub_cancel] at hdn;have hle:=Gj (w.asc n) hfind hm2 (contains_iff_mem.mpr hdn);obtain⟨l1,e1⟩:=hd.head;obtain⟨l2,e2⟩:=hB.head;rcases Nat.lt_or_ge m m2 with lt | ge
      .rw[e1,e2] at z2
       rcases z2 with z2 | ⟨z2,_⟩<;>omega
      .have:m2=m:=by omega
       subst this;exact (mj w hs hd (mem_singleton.mpr rfl) hml).2 hdl z2
    .exact absurd z (q2 hRl)
 .rw[R7 w hR];unfold shortest
  cases hs:steps (gp src) (rds src n) n with
  | none=>rfl
  | some k =>
   exfalso;obtain⟨x,hx,hw⟩:=jz hs;exact hR ⟨_,hw.path.snoc (vp.mp hx).2⟩
end CG
end
section
open CG (Ek El FJ FN FZ Fb Fd Fi Fp Fq Ft Fw Fx Fz Gd R3 R5 RB RC RK RL RM RP RT Rf Rg Rk Rn Ro Rp Rq Rt Ru Ry Rz Sh aV aX aq bI bL bR bz cO cU cZ dF dq du eQ g8 gJ gj gk j8 j9 jt ju jw jx jy jz kj lU lV lW lX lY lZ nD nG nH nJ nO qH qI qJ qK qM qP qQ u0 u5 u6 u9 uR uT uU uV uW uY uZ vh vm)
namespace CGP
open PySem PySem.Spec PyProof.Rows L2 DL
def top (i:Nat):Stmt:=PySem.Challenge.pw_cellgraph_s01_answers.main.body.getD i (.Pass ⟨0,0,0,0⟩)
abbrev vq:Stmt:=inClass (top 1) 0
abbrev vy:Stmt:=inClass (top 2) 0
abbrev vz:Stmt:=top 3
abbrev vA:Stmt:=top 4
abbrev vB:Stmt:=top 5
abbrev vC:Stmt:=top 6
abbrev vD:Stmt:=top 7
abbrev vH:Stmt:=top 29
abbrev vI:Stmt:=top 30
abbrev vJ:Stmt:=top 31
abbrev vK:Stmt:=top 32
abbrev vL:Stmt:=top 33
abbrev vM:Stmt:=top 34
abbrev vN:Stmt:=inClass (top 43) 0
abbrev vO:Stmt:=top 44
abbrev vP:Stmt:=top 45
abbrev vQ:Stmt:=top 46
abbrev vR:Stmt:=top 47
abbrev vU:Stmt:=top 48
abbrev vV:Stmt:=top 49
abbrev vW:Stmt:=top 50
abbrev vX:Stmt:=top 51
abbrev vY:Stmt:=top 52
abbrev vZ:Stmt:=top 53
abbrev v4:Stmt:=top 54
abbrev v5:Stmt:=top 55
abbrev v6:Stmt:=top 56
abbrev v7:Stmt:=top 57
abbrev v8:Stmt:=top 58
abbrev v9:Stmt:=top 59
abbrev wg:Stmt:=top 60
abbrev wj:Stmt:=top 63
abbrev wu:Stmt:=top 64
abbrev ww:Stmt:=top 65
abbrev wy:Stmt:=top 66
abbrev wz:Stmt:=top 67
abbrev wA:Stmt:=top 68
abbrev wB:Stmt:=top 69
abbrev wC:Stmt:=top 70
abbrev wD:Stmt:=top 72
abbrev wF:Stmt:=top 73
abbrev wG:Stmt:=top 75
abbrev wH:Stmt:=top 76
abbrev wI:Stmt:=top 77
abbrev wJ:Stmt:=top 79
abbrev wK:Stmt:=top 80
abbrev wL:Stmt:=top 81
abbrev wM:Stmt:=top 82
abbrev wN:Stmt:=top 83
abbrev wO:Stmt:=top 84
abbrev wQ:Stmt:=top 85
abbrev wR:Stmt:=top 87
abbrev wU:Stmt:=top 88
abbrev wV:Stmt:=top 89
abbrev wW:Stmt:=top 90
abbrev wX:Stmt:=top 91
abbrev wY:Stmt:=top 92
abbrev wZ:Stmt:=top 93
abbrev w6:Stmt:=top 95
abbrev xf:Stmt:=top 96
abbrev xg:Stmt:=top 97
abbrev xj:Stmt:=top 98
abbrev xm:Stmt:=top 101
abbrev xn:Stmt:=top 102
abbrev xq:Stmt:=top 103
abbrev xr:Stmt:=top 104
abbrev xu:Stmt:=top 105
abbrev xx:Stmt:=top 106
abbrev xF:Stmt:=inClass (top 108) 0
abbrev xG:Stmt:=inClass (top 108) 1
abbrev xH:Stmt:=inClass (top 108) 2
abbrev xJ:Stmt:=inClass (top 108) 3
abbrev xK:Stmt:=top 110
abbrev xM:Stmt:=top 111
abbrev xN:Stmt:=top 112
abbrev xO:Stmt:=top 113
abbrev xP:Stmt:=top 114
abbrev xQ:Stmt:=top 115
abbrev xR:Stmt:=top 116
abbrev xT:Stmt:=top 117
abbrev xU:Stmt:=top 118
abbrev xV:Stmt:=top 119
abbrev xW:Stmt:=top 120
abbrev xX:Stmt:=top 121
abbrev xY:Stmt:=top 122
abbrev xZ:Stmt:=top 123
abbrev yc:Stmt:=top 124
abbrev yd:Stmt:=top 125
abbrev ye:Stmt:=top 126
abbrev yf:Stmt:=top 127
abbrev yg:Stmt:=top 128
abbrev yh:Stmt:=top 129
abbrev yj:Stmt:=top 130
abbrev yo:Stmt:=top 131
abbrev yp:Stmt:=top 132
abbrev yq:Stmt:=top 133
abbrev yr:Stmt:=top 134
abbrev yt:Stmt:=top 135
abbrev yu:Stmt:=top 137
abbrev zs (l:List Nat):List Int:=l.map fun (n:Nat)=>(n:Int)
theorem dO (l:List Nat)(n:Nat):(zs l).contains (n:Int)=l.contains n:=by
 rw[Bool.eq_iff_iff,contains_iff_mem,contains_iff_mem,mem_map];exact⟨fun ⟨m,h,e⟩=>(Int.ofNat.inj e) ▸ h,fun h=>⟨n,h,rfl⟩⟩
def aD (l:List Nat):D:=.lst ((zs l).map D.int)
def cellNames:List Str:=["number","broken","makes","reads"]
def yw (c:Cell):List D:=[.int c.number,.int (if c.broken=true then 1 else 0),aD c.makes,aD c.reads]
structure Cs where
 cell:Addr
 nb:Addr
 gr:Addr
 rd:Addr
abbrev aM (C:Cs) (c:Cell):D:=.obj C.cell cellNames (yw c)
abbrev aC (C:Cs) (cs:List Cell):D:=.lst (cs.map (aM C))
def cG:Option Nat->D
 | some n=>.int (n:Nat)
 | none=>.non
def dR {α:Type} (pre:α->Prop) (args:α->List D) (res:α->D):Fsp:=fun ss γ P=> ∃a:α,pre a/\ss=(args a).map .d/\γ=[]/\P (.d (res a)) []
def bA {α:Type} (pre:α->Prop) (args:α->List D) (res:α->List D):Fsp:=fun ss γ P=> ∃a:α,pre a/\ss=(args a).map .d/\γ=[]/\ ∀ad,P (.pt ad) [(ad,.lst (res a))]
theorem bh {α:Type}{pre:α->Prop}{args:α->List D}{res:α->D}(a:α)(h:pre a){ds:List D}{y:D}(e:args a=ds)(e2:res a=y):dR pre args res (ds.map .d) [] (fun s γ'=>s= .d y/\γ'=[]):=⟨a,h,by rw[e],rfl,by rw[e2],rfl⟩
theorem aP {α:Type}{pre:α->Prop}{args:α->List D}{res:α->List D}(a:α)(h:pre a){ds l:List D}(e:args a=ds)(e2:res a=l):bA pre args res (ds.map .d) [] (fun s γ'=> ∃ad,s= .pt ad/\γ'=[(ad,.lst l)]):=⟨a,h,by rw[e],rfl,fun ad=>⟨ad,rfl,by rw[e2]⟩⟩
def Gk:List Str:=["len","range","enumerate","sorted","set","list","any","all","max","min","sum","zip","reversed","dict"]
def yx:List (Str×Int):=[("ACCEPTED",0),("BAD_NUMBER",-1),("NUMBER_TAKEN",-2),("BAD_PLACE",-3),("BAD_MARK",-4),("BAD_NAME",-5),("NAME_TWICE",-6),("NOTEBOOK_FULL",-7),("NO_SUCH_CELL",-8),("NAME_IN_USE",-9),("BAD_WIDTH",-10),("NOT_CLEAR",-11),("NO_CHAIN",-12),("LOWEST_NUMBER",1),("HIGHEST_NUMBER",99),("LOWEST_NAME",0),("HIGHEST_NAME",31),("MOST_CELLS",12),("LEAST_WIDTH",1),("GREATEST_WIDTH",12),("CLEAR",0),("BROKEN",1),("DOUBLE",2),("CIRCLE",3),("MISSING",4),("UNSURE",5),("BEHIND",6),("DONE",0),("FOUND",0)]
def qU:List Str:=["makers","sources","above","own_troubles","states"]
structure Txt (K:Frag) (mg:Str->Option Value) (C:Cs):Prop where
 blt: ∀x∈Gk,mg x=none
 nums: ∀nm n,yx.lookup nm=some n-> ∃t,mg nm=some (.int n t)
 cell:Cls K C.cell
 cellN: ∀f∈cellNames,cR K C.cell f
 nb:Cls K C.nb
 nbN: ∀f∈(["row"]:List Str),cR K C.nb f
 rd:Cls K C.rd
 rdN: ∀f∈(["calls","position"]:List Str),cR K C.rd f
 gr:Cls K C.gr
 grN: ∀f∈qU,cR K C.gr f
theorem Gn {ι:Type}{F:ι->Cx}{ρ:Rho}{γ:Gm}{pos:Pos}{nm:Str}{n:Int}{K:Frag}{mg:Str->Option Value}{C:Cs}(T:Txt K mg C)(h:yx.lookup nm=some n)(hF: ∀i,(F i).mg=mg)(hg: ∀i,Gl (F i) nm:=by intro _;rfl)(hd:(nm==("__debug__":Str))=false:=by decide):DP F (.Name nm pos) ρ γ (.int n):=by
 obtain⟨t,hm⟩:=T.nums nm n h;exact O9 (tk:=t) hg (fun i=>by rw[hF i];exact hm) hd
theorem Sq {N N2 ps:List Str}{sc sc2 scope:Scope}{own:List (Str×Nat)}(s:ao N ps sc)(h:tM N sc scope own=true)(e1:N2=N)(e2:sc2=sc):iI N2 sc2 scope own:=by
 rw[e1,e2];exact N8 h
theorem filter_all {α:Type}(l:List α):(l.filter fun _=>true)=l:=filter_eq_self.mpr fun _ _=>rfl
theorem cP {ι:Type}{F:ι->Cx}{ρ:Rho}{γ:Gm}{tg iter elt:Expr}{pos:Pos}{α:Type}{items:List α}{g:α->D}{f:α->D}{tr:α->Rho}{scope:Scope}{own:List (Str×Nat)}(hc: ∀i,(F i).calm=true)(hN: ∀i,(F i).N.Nodup)(hi:DIo F tg iter ρ γ (items.map g))(ok: ∀i,iI (F i).N (F i).env.scope scope own)
  (hg: ∀x∈items,DTg (cX F scope) tg (lK ρ (own.map (·.2))) γ (g x) (tr x) (own.map (·.2))) (he: ∀x∈items,DP (cX F scope) elt (tr x) γ (f x)) (hz:items.length<=sizeLine)
  (hs: ∀i x,foldedSetIterable iter (F i).env x=pure x:=by intro _ _;rfl):DN F (.ListComp elt [⟨tg,iter,[],0⟩] scope pos) ρ γ (items.map f):=by
 have:=dD (pos:=pos) (c:=fun _=>true) hc hN hi ok hg (fun _ _=>ug) (fun x hx _=>he x hx) hz hs
 rwa [filter_all] at this
theorem atN {l:List Str}{x:Str}(k:Nat)(h:l[k]?=some x):l[k]?=some x:=h
end CGP
end
open CG (Ek El FJ FN FZ Fb Fd Fi Fp Fq Ft Fw Fx Fz Gd R3 R5 RB RC RK RL RM RP RT Rf Rg Rk Rn Ro Rp Rq Rt Ru Ry Rz Sh aV aX aq bI bL bR bz cO cU cZ dF dq du eQ g8 gJ gj gk j8 j9 jt ju jw jx jy jz kj lU lV lW lX lY lZ nD nG nH nJ nO qH qI qJ qK qM qP qQ u0 u5 u6 u9 uR uT uU uV uW uY uZ vh vm)
namespace CGP
open PySem PySem.Spec PyProof.Rows L2 DL
local macro_rules | `(tactic| wtm_at "vis") => `(tactic| first | exact fun _ => Or.inl rfl | exact fun _ => Or.inr rfl | exact fun _ => Or.inr (Or.inl rfl) | exact fun _ => Or.inr (Or.inr rfl))
local macro_rules | `(tactic| wtm_at "at") => `(tactic| first | exact fun _ => atN 0 rfl | exact fun _ => atN 1 rfl | exact fun _ => atN 2 rfl | exact fun _ => atN 3 rfl | exact fun _ => atN 4 rfl | exact fun _ => atN 5 rfl | exact fun _ => atN 6 rfl | exact fun _ => atN 7 rfl | exact fun _ => atN 8 rfl | exact fun _ => atN 9 rfl | exact fun _ => atN 10 rfl | exact fun _ => atN 11 rfl | exact fun _ => atN 12 rfl)
local macro_rules | `(tactic| wtm_at "var") => `(tactic| ((with_reducible refine' pR ?hr ?hN ?hv ?hd ?hcd); (case hN => wtm_at "at"); (case hr => rfl); (case hv => wtm_at "vis"); (case hd => decide); (case hcd => decide)))
local macro_rules | `(tactic| wtm_at "ptr") => `(tactic| ((with_reducible refine' O8 ?hr ?hN ?hv ?hd ?hcd); (case hN => wtm_at "at"); (case hr => rfl); (case hv => wtm_at "vis"); (case hd => decide); (case hcd => decide)))
local macro_rules | `(tactic| wtm_at "cls") => `(tactic| first | exact fun _ => Txt.cell (by assumption) | exact fun _ => Txt.nb (by assumption) | exact fun _ => Txt.rd (by assumption) | exact fun _ => Txt.gr (by assumption))
local macro_rules | `(tactic| wtm_at "noa") => `(tactic| first | exact fun _ => Txt.cellN (by assumption) _ (by decide) | exact fun _ => Txt.nbN (by assumption) _ (by decide) | exact fun _ => Txt.rdN (by assumption) _ (by decide) | exact fun _ => Txt.grN (by assumption) _ (by decide))
local macro_rules | `(tactic| wtm_at "blt") => `(tactic| exact fun _ => Txt.blt (by assumption) _ (by decide))
local macro_rules | `(tactic| wtm_at "dp") => `(tactic| first
  | with_reducible exact dm | with_reducible exact pU | with_reducible exact d_bl
  | wtm_at "var"
  | ((with_reducible refine' Gn ?T ?h ?hF ?hg ?hd); (case T => assumption); (case h => rfl); (case hF => exact fun _ => rfl); (case hg => exact fun _ => rfl); (case hd => decide))
  | ((with_reducible refine' jY ?ho ?hc ?hn ?hl ?hb); (case ho => wtm_at "dp"); (case hc => wtm_at "cls"); (case hn => wtm_at "noa"); (case hl => rfl); (case hb => exact fun _ => rfl))
  | ((with_reducible refine' Pn ?ho ?hm ?hc ?hn ?hl ?hb); (case ho => wtm_at "dr"); (case hm => wtm_at "mem"); (case hc => wtm_at "cls"); (case hn => wtm_at "noa"); (case hl => rfl); (case hb => exact fun _ => rfl))
  | ((with_reducible refine' pW ?a ?b); (case a => wtm_at "dp"); (case b => wtm_at "dp")) | ((with_reducible refine' d_sub ?a ?b); (case a => wtm_at "dp"); (case b => wtm_at "dp"))
  | ((with_reducible refine' Cq ?a ?b); (case a => wtm_at "dp"); (case b => wtm_at "dp")) | ((with_reducible refine' Pb ?a ?b); (case a => wtm_at "dp"); (case b => wtm_at "dp")) | ((with_reducible refine' Cr ?a ?b); (case a => wtm_at "dp"); (case b => wtm_at "dp")) | ((with_reducible refine' d_ge ?a ?b); (case a => wtm_at "dp"); (case b => wtm_at "dp"))
  | ((with_reducible refine' d_eq ?a ?b); (case a => wtm_at "dp"); (case b => wtm_at "dp")) | ((with_reducible refine' d_ne ?a ?b); (case a => wtm_at "dp"); (case b => wtm_at "dp"))
  | ((with_reducible refine' d_isN ?a); (case a => wtm_at "dp")) | ((with_reducible refine' d_notN ?a); (case a => wtm_at "dp"))
  | ((with_reducible refine' ul ?ha ?hb ?hm); (case ha => wtm_at "dp"); (case hb => wtm_at "dl"); (case hm => with_unfolding_all rfl)) | ((with_reducible refine' d_notIn ?ha ?hb ?hm); (case ha => wtm_at "dp"); (case hb => wtm_at "dl"); (case hm => with_unfolding_all rfl))
  | ((with_reducible refine' Pk ?a fun _ => ?b); (case a => wtm_at "dp"); (case b => wtm_at "dp")) | ((with_reducible refine' Cy ?a fun _ => ?b); (case a => wtm_at "dp"); (case b => wtm_at "dp")) | ((with_reducible refine' Cz ?a); (case a => wtm_at "dp")) | ((with_reducible refine' d_not ?a); (case a => wtm_at "dp"))
  | ((with_reducible refine' iM ?h ?hg ?hm ?he); (case h => wtm_at "dl"); (case hg => exact fun _ => rfl); (case hm => wtm_at "blt"); (case he => exact fun _ => rfl))
  | ((with_reducible refine' PQ ?h ?hg ?hm ?he); (case h => wtm_at "dp"); (case hg => exact fun _ => rfl); (case hm => wtm_at "blt"); (case he => exact fun _ => rfl)))
local macro_rules | `(tactic| wtm_at "dl") => `(tactic| first | (refine' YR.list ?h ?hm; (case h => wtm_at "dr"); (case hm => wtm_at "mem")) | (refine' YP.list ?h; (case h => wtm_at "dp")))
local macro_rules | `(tactic| wtm_at "mem") => `(tactic| first | exact mem_cons_self .. | (refine mem_cons_of_mem _ ?_; wtm_at "mem") | assumption)
local macro_rules | `(tactic| wtm_at "dr") => `(tactic| first | wtm_at "ptr" | ((with_reducible refine' Pq ?ho ?hm ?hc ?hn ?hl ?hb); (case ho => wtm_at "dr"); (case hm => wtm_at "mem"); (case hc => wtm_at "cls"); (case hn => wtm_at "noa"); (case hl => rfl); (case hb => exact fun _ => rfl)))
local macro_rules | `(tactic| wtm_at "dt") => `(tactic| first
  | ((with_reducible refine' Ph ?a ?b); (case a => wtm_at "dp"); (case b => wtm_at "dp")) | ((with_reducible refine' t_le ?a ?b); (case a => wtm_at "dp"); (case b => wtm_at "dp")) | ((with_reducible refine' pX ?a ?b); (case a => wtm_at "dp"); (case b => wtm_at "dp")) | ((with_reducible refine' Pj ?a ?b); (case a => wtm_at "dp"); (case b => wtm_at "dp"))
  | ((with_reducible refine' pY ?a ?b); (case a => wtm_at "dp"); (case b => wtm_at "dp")) | ((with_reducible refine' pZ ?a ?b); (case a => wtm_at "dp"); (case b => wtm_at "dp"))
  | ((with_reducible refine' lJ ?a); (case a => wtm_at "dp")) | ((with_reducible refine' Cv ?a); (case a => wtm_at "dp"))
  | ((with_reducible refine' um ?ha ?hb ?hm); (case ha => wtm_at "dp"); (case hb => wtm_at "dl"); (case hm => with_unfolding_all rfl)) | ((with_reducible refine' Px ?ha ?hb ?hm); (case ha => wtm_at "dp"); (case hb => wtm_at "dl"); (case hm => with_unfolding_all rfl))
  | ((with_reducible refine' jn ?a); (case a => wtm_at "dt"))
  | ((with_reducible refine' t_w ?a); (case a => wtm_at "dw"))
  | ((with_reducible refine' dN ?h ?he); (case h => wtm_at "dp"); (case he => exact fun _ _ => rfl)))
local macro_rules | `(tactic| wtm_at "dw") => `(tactic| first | ((with_reducible refine' w_and ?a fun _ => ?b); (case a => wtm_at "dt"); (case b => wtm_at "dw")) | ((with_reducible refine' w_or ?a fun _ => ?b); (case a => wtm_at "dt"); (case b => wtm_at "dw")) | ((with_reducible refine' Cw ?a); (case a => wtm_at "dt")) | ((with_reducible refine' ue ?a); (case a => wtm_at "dt")))
local macro_rules | `(tactic| wtm_at "da") => `(tactic| first | with_reducible exact aW | ((with_reducible refine' aG ?a ?r ?hs); (case a => wtm_at "dp"); (case r => wtm_at "da"); (case hs => exact fun _ => rfl)))
local macro_rules | `(tactic| wtm_at "nd") => `(tactic| exact fun _ => ao.nd (by assumption))
local macro_rules | `(tactic| wtm_at "own") => `(tactic| exact fun _ => PassesOwn.never)
local macro_rules | `(tactic| wtm_at "blk") => `(tactic| (rename ao _ _ _ => scX; exact fun _ => Sq scX (by decide +kernel) rfl rfl))
local macro_rules | `(tactic| wtm_at "tg") => `(tactic| first
  | ((with_reducible refine' lM ?hk ?hN ?hi ?hx ?hf); (case hi => wtm_at "at"); (case hk => decide); (case hN => wtm_at "nd"); (case hx => wtm_at "vis"); (case hf => wtm_at "vis"))
  | ((with_reducible refine' CT ?hk ?hk2 ?hc ?hN ?hi ?hi2 ?hx ?hx2 ?hf ?hf2); (case hi => wtm_at "at"); (case hi2 => wtm_at "at"); (case hk => decide); (case hk2 => decide); (case hc => exact fun _ => rfl); (case hN => wtm_at "nd"); (case hx => wtm_at "vis"); (case hx2 => wtm_at "vis"); (case hf => wtm_at "vis"); (case hf2 => wtm_at "vis")))
local macro_rules | `(tactic| wtm_at "lc") => `(tactic| ((case c => exact fun _ => rfl); (case n => wtm_at "nd"); (case ok => wtm_at "blk"); (case g => intro q _; wtm_at "tg")))
local macro_rules | `(tactic| wtm_at "room") => `(tactic| (rename aR _ _ => rX; exact fun _ => rX.mono (by decide)))
local macro_rules | `(tactic| wtm_at "ab") => `(tactic| first
  | (with_reducible exact Dm)
  | ((with_reducible refine' Dp ?ha ?hm ?hb ?hr ?hs); (case ha => wtm_at "dr"); (case hm => wtm_at "mem"); (case hb => wtm_at "mem"); (case hr => wtm_at "ab"); (case hs => exact fun _ => rfl))
  | ((with_reducible refine' Do ?ha ?hr ?hs); (case ha => wtm_at "dp"); (case hr => wtm_at "ab"); (case hs => exact fun _ => rfl)))
local macro_rules | `(tactic| wtm_at "lc2") => `(tactic| ((case c2 => exact fun _ => rfl); (case n2 => wtm_at "nd"); (case ok2 => wtm_at "blk"); (case g2 => intro q _; wtm_at "tg")))
local macro_rules | `(tactic| wtm_at "lc3") => `(tactic| ((case c3 => exact fun _ => rfl); (case n3 => wtm_at "nd"); (case ok3 => wtm_at "blk"); (case g3 => intro q _; wtm_at "tg")))
local macro_rules | `(tactic| wtm_at "cgo") => do let a1:=Lean.mkIdent `Fu; let a2:=Lean.mkIdent `sc; let a3:=Lean.mkIdent `ss; let a4:=Lean.mkIdent `γ; let a5:=Lean.mkIdent `P; let a6:=Lean.mkIdent `h; let a7:=Lean.mkIdent `cdv; let a8:=Lean.mkIdent `A; let a9:=Lean.mkIdent `outer; let b1:=Lean.mkIdent `s; let b2:=Lean.mkIdent `H; let b3:=Lean.mkIdent `E; let b4:=Lean.mkIdent `hr; `(tactic| refine j4 $a1 $a2 (fun $a3 $a4 $a5 $a6=>?_) (fun $a7 $a8 $a9 $b1 $b2 $b3 $b4 $a3 $a4 $a5 $a6=>?_))
local macro_rules | `(tactic| wtm_at "cg0") => do let a6:=Lean.mkIdent `h; let z1:=Lean.mkIdent `rfl; `(tactic| (wtm_at "cgo"; focus (obtain ⟨_, _, $z1:ident, _⟩ := $a6; rfl)))
local macro_rules | `(tactic| wtm_at "cg1") => do let a6:=Lean.mkIdent `h; let z1:=Lean.mkIdent `rfl; `(tactic| (wtm_at "cgo"; focus (obtain ⟨_, _, _, _, _, _, _, _, _, _, $z1:ident, _⟩ := $a6; rfl)))
local macro_rules | `(tactic| wtm_at "cg2") => do let a6:=Lean.mkIdent `h; let z1:=Lean.mkIdent `rfl; `(tactic| (wtm_at "cgo"; focus (obtain ⟨_, _, _, _, _, $z1:ident, _⟩ := $a6; rfl)))
local macro_rules | `(#[$x:ident]) => `(by wtm_at $(Lean.Syntax.mkStrLit x.getId.toString))
local macro_rules | `(#[sC]) => `(⟨rfl, rfl, rfl, by decide +kernel, rfl, by decide +kernel, by decide +kernel⟩)
local macro_rules | `(#[rR]) => `(fun _ => rfl)
variable {Pg:Program}{w:World}{K:Frag}{mg:Str->Option Value}{base:Heap}{C:Cs}{f:Addr}{fd:FuncData}
section
section
theorem Ss:ao ["row"] ["row"] (ak vz):=⟨rfl,rfl,rfl,by decide +kernel,rfl,by decide +kernel,by decide +kernel⟩
def qW (C:Cs):Fsp:=bA (fun a:List Cell=>a.length<=12) (fun a=>[aC C a]) fun a=>(zs (List.range a.length)).map D.int
theorem Su (Fu:Fun K "all_places" "all_places" vz f fd)(T:Txt K mg C):au Pg w K mg base CX0 1 f fd ["row"] (spF (qW C)):=by
 refine j4 Fu Ss (fun ss γ P h=>?_) (fun cdv A outer s H E hr ss γ P h=>?_)
 .obtain⟨a,_,rfl,_⟩:=h;rfl
 .obtain⟨cs,hlen,rfl,rfl,h⟩:=h;refine aj (aF (Qz (n:=(cs.map (aM C)).length) ?_ (by rw[length_map];omega) #[rR] #[rR] #[blt] #[rR] #[blt]) fun a=>?_)
  .wtm_at "dp"
  .have:=h a;simp only[zs,List.map_map] at this
   rwa [length_map]
theorem Sv:ao ["cell","name"] ["cell","name"] (ak vB):=⟨rfl,rfl,rfl,by decide +kernel,rfl,by decide +kernel,by decide +kernel⟩
def ie (c:Cell) (n:Int):Bool:=(zs c.makes).contains n||(zs c.reads).contains n
def Gp (C:Cs):Fsp:=dR (fun a:Cell×Int=>True) (fun a=>[aM C a.1,.int a.2]) fun a=>.bl (ie a.1 a.2)
theorem Sw (Fu:Fun K "has_name" "has_name" vB f fd)(T:Txt K mg C):au Pg w K mg base CX0 1 f fd ["cell","name"] (spF (Gp C)):=by
 refine j4 Fu Sv (fun ss γ P h=>?_) (fun cdv A outer s H E hr ss γ P h=>?_)
 .obtain⟨a,_,rfl,_⟩:=h;rfl
 .obtain⟨⟨c,n⟩,_,rfl,rfl,h⟩:=h;refine' aj (bH ?e ?h)
  case e=>wtm_at "dp"
  case h=>exact h
theorem Sx:ao ["value"] ["value"] (ak vH):=⟨rfl,rfl,rfl,by decide +kernel,rfl,by decide +kernel,by decide +kernel⟩
def nP:Fsp:=dR (fun a:Int=>True) (fun a=>[.int a]) fun a=>.bl (Vanbkb.within a 0 31)
theorem Sy (Fu:Fun K "is_name" "is_name" vH f fd)(T:Txt K mg C):au Pg w K mg base CX0 1 f fd ["value"] (spF nP):=by
 refine j4 Fu Sx (fun ss γ P h=>?_) (fun cdv A outer s H E hr ss γ P h=>?_)
 .obtain⟨a,_,rfl,_⟩:=h;rfl
 .obtain⟨n,_,rfl,rfl,h⟩:=h;refine' aj (bH ?e ?h)
  case e=>wtm_at "dp"
  case h=>exact h
theorem SJ:ao ["value"] ["value"] (ak vI):=⟨rfl,rfl,rfl,by decide +kernel,rfl,by decide +kernel,by decide +kernel⟩
def Gq:Fsp:=dR (fun a:Int=>True) (fun a=>[.int a]) fun a=>.bl (Vanbkb.within a 1 12)
theorem SM (Fu:Fun K "is_width" "is_width" vI f fd)(T:Txt K mg C):au Pg w K mg base CX0 1 f fd ["value"] (spF Gq):=by
 refine j4 Fu SJ (fun ss γ P h=>?_) (fun cdv A outer s H E hr ss γ P h=>?_)
 .obtain⟨a,_,rfl,_⟩:=h;rfl
 .obtain⟨n,_,rfl,rfl,h⟩:=h;refine' aj (bH ?e ?h)
  case e=>wtm_at "dp"
  case h=>exact h
def dG (cs:List Cell) (c:Cell):List Cell:=cs.map fun d=>if d.number==c.number then c else d
def gK (cs:List Cell) (n:Int):List Cell:=cs.filter fun d=> !decide ((d.number:Int)=n)
def Gr (C:Cs):Fsp:=bA (fun a:List Cell×Cell=>a.1.length<=12) (fun a=>[aC C a.1,aM C a.2]) fun a=>(dG a.1 a.2).map (aM C)
theorem SN (Fu:Fun K "row_with_changed" "row_with_changed" vC f fd)(T:Txt K mg C):au Pg w K mg base CX0 1 f fd ["row","cell"] (spF (Gr C)):=by
 have sc:ao ["row","cell","old_cell"] ["row","cell"] (ak vC):=#[sC];wtm_at "cg0"
 .obtain⟨⟨cs,c⟩,hlen,rfl,rfl,h⟩:=h;replace hlen:cs.length<=12:=hlen;replace h: ∀ad,P (.pt ad) [(ad,.lst ((dG cs c).map (aM C)))]:=h;show DB _ _ [some (.d (aC C cs)),some (.d (aM C c)),none] [] _;unfold dG at h;rw[List.map_map] at h;refine' aj (aF (cP (items:=cs) (g:=aM C) (f:=aM C ∘ fun d=>if d.number==c.number then c else d) (own:=[("old_cell",2)]) ?c ?n ?i ?ok ?g ?e ?z) h);wtm_at "lc"
  case i=>exact bC #[dl]
  case e =>
   intro d _;refine' uf (t:=decide ((d.number:Int)=(c.number:Int))) ?t (fun e=>?y) (fun e=>?n)
   case t=>wtm_at "dt"
   case y =>
    have e2:(d.number==c.number)=true:=by rw[beq_iff_eq];have:=of_decide_eq_true e;omega
    show DP _ _ _ _ (aM C (if d.number==c.number then c else d));rw[if_pos e2];wtm_at "dp"
   case n =>
    have e2: ¬ (d.number==c.number)=true:=by rw[beq_iff_eq];have:=of_decide_eq_false e;omega
    show DP _ _ _ _ (aM C (if d.number==c.number then c else d));rw[if_neg e2];wtm_at "dp"
  case z=>rw[sizeLine_eq];omega
def Gs (C:Cs):Fsp:=bA (fun a:List Cell×Int=>a.1.length<=12) (fun a=>[aC C a.1,.int a.2]) fun a=>(gK a.1 a.2).map (aM C)
theorem SQ (Fu:Fun K "row_without" "row_without" vD f fd)(T:Txt K mg C):au Pg w K mg base CX0 1 f fd ["row","number"] (spF (Gs C)):=by
 have sc:ao ["row","number","cell"] ["row","number"] (ak vD):=#[sC];wtm_at "cg0"
 .obtain⟨⟨cs,n⟩,hlen,rfl,rfl,h⟩:=h;replace hlen:cs.length<=12:=hlen;replace h: ∀ad,P (.pt ad) [(ad,.lst ((gK cs n).map (aM C)))]:=h;show DB _ _ [some (.d (aC C cs)),some (.d (.int n)),none] [] _;unfold gK at h;refine' aj (aF (dD (items:=cs) (g:=aM C) (c:=fun d=> !decide ((d.number:Int)=n)) (f:=aM C) (own:=[("cell",2)]) ?c ?n ?i ?ok ?g ?t ?e ?z) h);wtm_at "lc"
  case i=>exact bC #[dl]
  case t=>exact fun q _=>cN #[dt]
  case e=>exact fun q _ _=>by wtm_at "dp"
  case z=>rw[sizeLine_eq];omega
end
end
section
section
theorem yz (C:Cs)(cs:List Cell):(cs.zipIdx.map fun q=>D.tup [.int (q.2:Nat),aM C q.1])=(cs.map (aM C)).zipIdx.map fun q=>D.tup [.int (q.2:Nat),q.1]:=by
 rw[List.zipIdx_map,List.map_map];rfl
theorem zipIdx_get {α:Type}{l:List α}{i:Nat}{q:α×Nat}(h:l.zipIdx[i]?=some q):l[i]?=some q.1/\q.2=i:=by
 rw[List.getElem?_zipIdx] at h
 cases hc:l[i]? with
 | none=>rw[hc] at h;cases h
 | some c =>
  rw[hc] at h;simp only[Option.map_some,Option.some.injEq] at h;rw[<-h];exact⟨rfl,by simp⟩
def az (cs:List Cell) (n:Int):Option Nat:=cs.findIdx? fun c=>decide ((c.number:Int)=n)
theorem placeOf_some {cs:List Cell}{n:Int}{i:Nat}{c:Cell}(hc:cs[i]?=some c)(h:(c.number:Int)=n)(hno: ∀j,j < i-> ∀c,cs[j]?=some c-> ¬ (c.number:Int)=n):az cs n=some i:=by
 unfold az;obtain⟨hi,e⟩:=List.getElem?_eq_some_iff.mp hc;rw[List.findIdx?_eq_some_iff_getElem];refine⟨hi,by rw[e];exact decide_eq_true h,fun j hj=>?_⟩;have:=hno j hj cs[j] (List.getElem?_eq_getElem (by omega));simpa using this
theorem placeOf_none {cs:List Cell}{n:Int}(hno: ∀j,j < cs.length-> ∀c,cs[j]?=some c-> ¬ (c.number:Int)=n):az cs n=none:=by
 unfold az;rw[List.findIdx?_eq_none_iff];intro c hc;obtain⟨j,hj,e⟩:=mem_iff_getElem.mp hc;have:=hno j hj c (by rw[List.getElem?_eq_getElem hj,e]);simpa using this
def qX (C:Cs):Fsp:=dR (fun a:List Cell×Int=>True) (fun a=>[aC C a.1,.int a.2]) fun a=>cG (az a.1 a.2)
theorem SX (Fu:Fun K "place_of" "place_of" vA f fd)(T:Txt K mg C):au Pg w K mg base CX0 1 f fd ["row","number"] (spF (qX C)):=by
 have sc:ao ["row","number","place","cell"] ["row","number"] (ak vA):=#[sC];wtm_at "cgo"
 .obtain⟨a,_,rfl,_⟩:=h;rfl
 .obtain⟨⟨cs,n⟩,_,rfl,rfl,h⟩:=h;refine aj (lN (items:=cs.zipIdx) (g:=fun q=>.tup [.int (q.2:Nat),aM C q.1]) (vs:=[2,3]) (fun i ρ γ=>γ=[]/\(∃o2 o3,ρ=[some (.d (aC C cs)),some (.d (.int n)),o2,o3])/\ ∀j,j < i-> ∀c,cs[j]?=some c-> ¬ (c.number:Int)=n) #[own] #[rR] ?i ⟨rfl,⟨none,none,rfl⟩,fun j hj=>absurd hj (Nat.not_lt_zero j)⟩ (fun i q ρ γ hq hP=>CT (k:=2) (k2:=3) (by decide) (by decide) #[rR] #[nd] #[rR] #[rR] #[vis] #[vis] #[vis] #[vis]) ?b ?d)
  case i =>
   rw[yz];exact Pz #[var] #[rR] #[blt]
  case b =>
   rintro i q ρ γ hq ⟨rfl,⟨o2,o3,rfl⟩,hno⟩;obtain⟨c,j⟩:=q;obtain⟨hc,rfl⟩:=zipIdx_get hq;refine aj (aZ #[dt] (fun hb=>?_) (fun hb=>?_))
   .refine' aj (bH ?e ?h)
    case e=>wtm_at "dp"
    case h =>
     show P (.d (.int _)) [];have e:=placeOf_some hc (of_decide_eq_true hb) hno;simpa [e,cG] using h
   .refine aO (aO ⟨rfl,⟨_,_,rfl⟩,fun k hk c' hc'=>?_⟩);rcases Nat.lt_succ_iff_lt_or_eq.mp hk with hk | hk
    .exact hno k hk c' hc'
    .subst hk;rw[hc] at hc';cases hc';exact of_decide_eq_false hb
  case d =>
   rintro ρ γ ⟨rfl,⟨o2,o3,rfl⟩,hno⟩;refine aj (bH pU ?_);rw[length_zipIdx] at hno;have e:=placeOf_none hno;simpa [e,cG] using h
end
end
section
theorem Gu {α:Type}(l:List α)(p:α->Bool):(l.map p).all id=l.all p:=by rw[all_map];rfl
theorem qY {α:Type}(l:List α)(p:α->Bool):(l.map p).any id=l.any p:=by rw[any_map];rfl
theorem Gv: ∀{l acc:List Int},(acc++l).Nodup->SetS.comes acc l=acc++l
 | [],acc,_=>(append_nil acc).symm
 | j::r,acc,h=>by
  show SetS.comes (if j∈acc then acc else acc++[j]) r=_;have hj:j∉acc:=fun z=>(nodup_append.mp h).2.2 j z j (mem_cons_self ..) rfl
  have e:acc++j::r=(acc++[j])++r:=by rw[List.append_assoc];rfl
  rw[if_neg hj,e];exact Gv (by rw[<-e];exact h)
theorem Gw: ∀{l acc:List Int},acc.Nodup-> ¬ (acc++l).Nodup->(SetS.comes acc l).length < acc.length+l.length
 | [],acc,h,n=>absurd (by rw[append_nil];exact h) n
 | j::r,acc,h,n=>by
  show (SetS.comes (if j∈acc then acc else acc++[j]) r).length < _
  by_cases hj:j∈acc
  .rw[if_pos hj,length_cons];have:=SetS.comes_len (l:=r) (acc:=acc);omega
  .rw[if_neg hj,length_cons]
   have e:acc++j::r=(acc++[j])++r:=by rw[List.append_assoc];rfl
   have:=Gw (l:=r) (acc:=acc++[j]) (nodup_append.mpr ⟨h,nodup_cons.mpr ⟨not_mem_nil,nodup_nil⟩,fun a ha b hb e=>hj (by rw[<-mem_singleton.mp hb,<-e];exact ha)⟩) (by rw[<-e];exact n);rw[length_append,length_singleton] at this;omega
theorem S5 (l:List Int):decide (((SetS.comes [] l).length:Int) < (l.length:Int))= !Vanbkb.distinct l:=by
 by_cases h:l.Nodup
 .rw[nH.mpr h,Gv (acc:=[]) h];simp
 .have e:Vanbkb.distinct l=false:=Bool.eq_false_iff.mpr fun z=>h (nH.mp z);have:=Gw (acc:=[]) nodup_nil h;rw[length_nil,Nat.zero_add] at this;rw[e];simpa using this
section
theorem S6:ao ["values"] ["values"] (ak vJ):=⟨rfl,rfl,rfl,by decide +kernel,rfl,by decide +kernel,by decide +kernel⟩
def Gx:Fsp:=dR (fun a:List Int=>a.length<=40) (fun a=>[.lst (a.map .int)]) fun a=>.bl (!Vanbkb.distinct a)
theorem S7 (Fu:Fun K "has_twice" "has_twice" vJ f fd)(T:Txt K mg C):au Pg w K mg base CX0 1 f fd ["values"] (spF Gx):=by
 refine j4 Fu S6 (fun ss γ P h=>?_) (fun cdv A outer s H E hr ss γ P h=>?_)
 .obtain⟨a,_,rfl,_⟩:=h;rfl
 .obtain⟨l,hl,rfl,rfl,h⟩:=h;refine' aj (bH (Cq (Qy (ns:=l) ?a (by unfold scanBound;omega) #[rR] #[rR] #[blt] #[rR] #[blt]) ?b) ?h)
  case a=>wtm_at "dl"
  case b=>wtm_at "dp"
  case h =>
   show P _ _;rw[length_map,S5];exact h
def yC:Fsp:=dR (fun a:Int×List Int×List Int=>a.2.1.length<=40/\a.2.2.length<=40) (fun a=>[.int a.1,.lst (a.2.1.map .int),.lst (a.2.2.map .int)]) fun a=>.int (Vanbkb.fault a.1 a.2.1 a.2.2)
theorem S8 (Fu:Fun K "refusal_of_content" "refusal_of_content" vK f fd)(T:Txt K mg C)(f1:FnAt Pg w K mg base "is_name" ["value"] 1 nP)(f2:FnAt Pg w K mg base "has_twice" ["values"] 1 Gx) :
  au Pg w K mg base CX0 2 f fd ["broken","makes","reads"] (spF yC):=by
 have sc:ao ["broken","makes","reads","value"] ["broken","makes","reads"] (ak vK):=#[sC];wtm_at "cgo"
 .obtain⟨a,_,rfl,_⟩:=h;rfl
 .obtain⟨⟨b,m,r⟩,⟨hm,hr'⟩,rfl,rfl,h⟩:=h;have hm:m.length<=40:=hm;have hr':r.length<=40:=hr';replace h:P (.d (.int (Vanbkb.fault b m r))) []:=h;show DB _ _ [some (.d (.int b)),some (.d (.lst (m.map .int))),some (.d (.lst (r.map .int))),none] [] _;unfold Vanbkb.fault at h
  have ew:Vanbkb.within b 0 1= !((!decide (b=0))&& !decide (b=1)):=by
   rw[Bool.eq_iff_iff,dq];simp;omega
  refine aj (aZ #[dt] (fun hb=>?_) (fun hb=>?_))
  .rw[ew,hb] at h;refine' aj (bH ?e ?h)
   case e=>wtm_at "dp"
   case h=>exact h
  rw[ew,hb] at h;replace h:P (.d (.int (if ((m++r).all fun x=>Vanbkb.within x 0 31)=false then -5 else if (Vanbkb.distinct m&&Vanbkb.distinct r)=false then -6 else 0))) []:=h;refine aO (aj (aZ (jn (dN (CK (bs:=(m++r).map fun x=>Vanbkb.within x 0 31) (YN.list ?lc) #[rR] #[rR] #[blt]))) (fun hb2=>?_) (fun hb2=>?_)))
  case lc =>
   rw[List.map_map];refine' cP (items:=m++r) (g:=D.int) (own:=[("value",3)]) ?c ?n ?i ?ok ?g ?e ?z;wtm_at "lc"
   case i =>
    rw[map_append];refine bC (YN.list (gW ?a ?b ?zz))
    case a=>wtm_at "dl"
    case b=>wtm_at "dl"
    case zz=>rw[length_map,length_map,sizeLine_eq];omega
   case e =>
    intro x _;refine' bD (fun _=>f1) ?a (bh x trivial rfl rfl) #[room] #[rR]
    case a=>wtm_at "da"
   case z=>rw[length_append,sizeLine_eq];omega
  all_goals rw[Gu] at hb2
  .have e2:((m++r).all fun x=>Vanbkb.within x 0 31)=false:=by simpa only[Bool.not_eq_true'] using hb2
   rw[e2] at h;refine' aj (bH ?e ?h)
   case e=>wtm_at "dp"
   case h=>exact h
  have e2:((m++r).all fun x=>Vanbkb.within x 0 31)=true:=by simpa only[Bool.not_eq_false'] using hb2
  rw[e2] at h;replace h:P (.d (.int (if (Vanbkb.distinct m&&Vanbkb.distinct r)=false then -6 else 0))) []:=h;refine aO (aj (aZ (t_w (w_or (dN (bD (fun _=>f2) ?a1 (bh m hm rfl rfl) #[room] #[rR])) fun _=>ue (dN (bD (fun _=>f2) ?a2 (bh r hr' rfl rfl) #[room] #[rR])))) (fun hb3=>?_) (fun hb3=>?_)))
  case a1=>wtm_at "da"
  case a2=>wtm_at "da"
  .have e3:(Vanbkb.distinct m&&Vanbkb.distinct r)=false:=by
    cases h1:Vanbkb.distinct m<;>cases h2:Vanbkb.distinct r<;>simp_all
   rw[e3] at h;refine' aj (bH ?e ?h)
   case e=>wtm_at "dp"
   case h=>exact h
  .have e3:(Vanbkb.distinct m&&Vanbkb.distinct r)=true:=by
    cases h1:Vanbkb.distinct m<;>cases h2:Vanbkb.distinct r<;>simp_all
   rw[e3] at h;refine' aO (aj (bH ?e ?h))
   case e=>wtm_at "dp"
   case h=>exact h
end
end
section
theorem itT {α:Type}{t:Bool}{a b:α}(h:t=true):(if t=true then a else b)=a:=if_pos h
theorem itF {α:Type}{t:Bool}{a b:α}(h:t=false):(if t=true then a else b)=b:=if_neg (by rw[h];decide)
section
def gM (cs:List Cell) (n p b:Int) (m r:List Int):Int :=
 if (decide (n < 1)||decide (99 < n))=true then -1 else if (!jW (cG (az cs n)))=true then -2 else if (decide (p < 0)||decide ((cs.length:Int) < p))=true then -3 else if (!decide (Vanbkb.fault b m r=0))=true then Vanbkb.fault b m r else if decide (12<=(cs.length:Int))=true then -7 else 0
def Gy (C:Cs):Fsp:=dR (fun a:List Cell×Int×Int×Int×List Int×List Int=>a.2.2.2.2.1.length<=40/\a.2.2.2.2.2.length<=40) (fun a=>[aC C a.1,.int a.2.1,.int a.2.2.1,.int a.2.2.2.1,.lst (a.2.2.2.2.1.map .int),.lst (a.2.2.2.2.2.map .int)]) fun a=>.int (gM a.1 a.2.1 a.2.2.1 a.2.2.2.1 a.2.2.2.2.1 a.2.2.2.2.2)
theorem S9 (Fu:Fun K "refusal_of_add" "refusal_of_add" vL f fd)(T:Txt K mg C)(f1:FnAt Pg w K mg base "place_of" ["row","number"] 1 (qX C))(f2:FnAt Pg w K mg base "refusal_of_content" ["broken","makes","reads"] 2 yC) :
  au Pg w K mg base CX0 3 f fd ["row","number","place","broken","makes","reads"] (spF (Gy C)):=by
 have sc:ao ["row","number","place","broken","makes","reads","refusal"] ["row","number","place","broken","makes","reads"] (ak vL):=#[sC];wtm_at "cgo"
 .obtain⟨a,_,rfl,_⟩:=h;rfl
 .obtain⟨⟨cs,n,p,b,m,r⟩,hpre,rfl,rfl,h⟩:=h;replace hpre:m.length<=40/\r.length<=40:=hpre;replace h:P (.d (.int (gM cs n p b m r))) []:=h;show DB _ _ [some (.d (aC C cs)),some (.d (.int n)),some (.d (.int p)),some (.d (.int b)),some (.d (.lst (m.map .int))),some (.d (.lst (r.map .int))),none] [] _;unfold gM at h;refine aj (aZ #[dt] (fun hb=>?_) (fun hb=>?_))
  .rw[itT hb] at h;refine' aj (bH ?e h)
   case e=>wtm_at "dp"
  rw[itF hb] at h;refine aO (aj (aZ (Cv (bD (fun _=>f1) ?a1 (bh (cs,n) trivial rfl rfl) #[room] #[rR])) (fun hb=>?_) (fun hb=>?_)))
  case a1=>wtm_at "da"
  .rw[itT hb] at h;refine' aj (bH ?e h)
   case e=>wtm_at "dp"
  rw[itF hb] at h;refine aO (aj (aZ (t:=decide (p < 0)||decide ((cs.length:Int) < p)) ?t (fun hb=>?_) (fun hb=>?_)))
  case t =>
   rw[<-length_map (aM C) (as:=cs)];wtm_at "dt"
  .rw[itT hb] at h;refine' aj (bH ?e h)
   case e=>wtm_at "dp"
  rw[itF hb] at h;refine aO (aj (bj (k:=6) (bD (fun _=>f2) ?a2 (bh (b,m,r) hpre rfl rfl) #[room] #[rR]) (aj (aZ #[dt] (fun hb=>?_) (fun hb=>?_))) #[nd] #[rR] #[vis] #[rR] #[vis]))
  case a2=>wtm_at "da"
  .rw[itT hb] at h;refine' aj (bH ?e h)
   case e=>wtm_at "dp"
  rw[itF hb] at h;refine aO (aj (aZ (t:=decide (12<=(cs.length:Int))) ?t (fun hb=>?_) (fun hb=>?_)))
  case t =>
   rw[<-length_map (aM C) (as:=cs)];wtm_at "dt"
  .rw[itT hb] at h;refine' aj (bH ?e h)
   case e=>wtm_at "dp"
  rw[itF hb] at h;refine' aO (aj (bH ?e h))
  case e=>wtm_at "dp"
def dH (cs:List Cell) (n b:Int) (m r:List Int):Int:=if jW (cG (az cs n))=true then -8 else Vanbkb.fault b m r
def yD (C:Cs):Fsp:=dR (fun a:List Cell×Int×Int×List Int×List Int=>a.2.2.2.1.length<=40/\a.2.2.2.2.length<=40) (fun a=>[aC C a.1,.int a.2.1,.int a.2.2.1,.lst (a.2.2.2.1.map .int),.lst (a.2.2.2.2.map .int)]) fun a=>.int (dH a.1 a.2.1 a.2.2.1 a.2.2.2.1 a.2.2.2.2)
theorem Tc (Fu:Fun K "refusal_of_change" "refusal_of_change" vM f fd)(T:Txt K mg C)(f1:FnAt Pg w K mg base "place_of" ["row","number"] 1 (qX C))(f2:FnAt Pg w K mg base "refusal_of_content" ["broken","makes","reads"] 2 yC) :
  au Pg w K mg base CX0 3 f fd ["row","number","broken","makes","reads"] (spF (yD C)):=by
 have sc:ao ["row","number","broken","makes","reads"] ["row","number","broken","makes","reads"] (ak vM):=#[sC];wtm_at "cgo"
 .obtain⟨a,_,rfl,_⟩:=h;rfl
 .obtain⟨⟨cs,n,b,m,r⟩,hpre,rfl,rfl,h⟩:=h;replace hpre:m.length<=40/\r.length<=40:=hpre;replace h:P (.d (.int (dH cs n b m r))) []:=h;show DB _ _ [some (.d (aC C cs)),some (.d (.int n)),some (.d (.int b)),some (.d (.lst (m.map .int))),some (.d (.lst (r.map .int)))] [] _;unfold dH at h;refine aj (aZ (lJ (bD (fun _=>f1) ?a1 (bh (cs,n) trivial rfl rfl) #[room] #[rR])) (fun hb=>?_) (fun hb=>?_))
  case a1=>wtm_at "da"
  .rw[itT hb] at h;refine' aj (bH ?e h)
   case e=>wtm_at "dp"
  rw[itF hb] at h;refine aO (aj (bH (bD (fun _=>f2) ?a2 (bh (b,m,r) hpre rfl rfl) #[room] #[rR]) h))
  case a2=>wtm_at "da"
end
end
section
theorem ig {t:TS}{ρ:Rho}{γ:Gm}{P:Po}(h:(γ.map (·.1)).Nodup->YS t ρ γ P):YS t ρ γ P:=fun O0 H0 σ H I=>h I.nd I
theorem mq {a:Addr}{w:OD}:cF [] a w=[]:=rfl
theorem jA {a:Addr}{w0 w:OD}{γ:Gm}:cF ((a,w0)::γ) a w=(a,w)::cF γ a w:=by
 unfold cF;rw[map_cons,if_pos rfl]
theorem fD {a b:Addr}{w0 w:OD}{γ:Gm}(h:b≠a):cF ((b,w0)::γ) a w=(b,w0)::cF γ a w:=by
 unfold cF;rw[map_cons,if_neg h]
theorem yE {a:Addr}{w:OD}: ∀{γ:Gm},a∉γ.map (·.1)->cF γ a w=γ
 | [],_=>rfl
 | (b,w0)::γ,h=>by
  rw[fD (fun e=>h (by rw[e];exact mem_cons_self ..)),yE fun z=>h (mem_cons_of_mem _ z)]
theorem bT {a:Addr}{w0 w:OD}:cF [(a,w0)] a w=[(a,w)]:=by rw[jA,mq]
section
structure Td (c:Cell) (m r:List Int):Prop where
 m1:(zs c.makes).Perm m
 m2:c.makes.Pairwise (·<=·)
 m3:m.length < 64
 r1:(zs c.reads).Perm r
 r2:c.reads.Pairwise (·<=·)
 r3:r.length < 64
def mark (b:Bool):Int:=if b=true then 1 else 0
def yF (C:Cs):Fsp:=fun ss γ P=> ∃ (xd:Addr) (c:Cell) (m r:List Int),Td c m r/\ss=[.pt xd,.d (.int c.number),.d (.int (mark c.broken)),.d (.lst (m.map .int)),.d (.lst (r.map .int))]/\γ=[(xd,.ins C.cell [] [])]/\P (.d .non) [(xd,.ins C.cell cellNames ((yw c).map .d))]
theorem nQ {l:List Nat}(h:l.Pairwise (·<=·)):(zs l).Pairwise (·<=·):=by
 rw[pairwise_map];exact List.Pairwise.imp (fun h=>Int.ofNat_le.mpr h) h
theorem Te (Fu:Fun K "__init__" "Cell.__init__" vq f fd)(T:Txt K mg C):au Pg w K mg base CX0 1 f fd ["self","number","broken","makes","reads"] (spF (yF C)):=by
 have sc:ao ["self","number","broken","makes","reads"] ["self","number","broken","makes","reads"] (ak vq):=#[sC];wtm_at "cg2"
 .obtain⟨xd,c,m,r,hp,rfl,rfl,h⟩:=h;show DB _ _ [some (.pt xd),some (.d (.int c.number)),some (.d (.int (mark c.broken))),some (.d (.lst (m.map .int))),some (.d (.lst (r.map .int)))] [(xd,.ins C.cell [] [])] _;refine aj (gh #[dp] #[ptr] #[mem] ?_ #[cls] #[noa] (by decide));rw[bT];refine aj (gh #[dp] #[ptr] #[mem] ?_ #[cls] #[noa] (by decide));rw[bT];refine aj (gh (YN.data (ur (ns:=m) (out:=zs c.makes) #[dl] hp.m3 hp.m1 (nQ hp.m2) #[rR] #[blt])) #[ptr] #[mem] ?_ #[cls] #[noa] (by decide));rw[bT];refine aj (gh (YN.data (ur (ns:=r) (out:=zs c.reads) #[dl] hp.r3 hp.r1 (nQ hp.r2) #[rR] #[blt])) #[ptr] #[mem] ?_ #[cls] #[noa] (by decide));rw[bT];exact aO h
end
end
section
section
def Gz (C:Cs):Fsp:=fun ss γ P=> ∃ (xd:Addr),ss=[.pt xd]/\γ=[(xd,.ins C.nb [] [])]/\ ∀r,P (.d .non) [(r,.lst []),(xd,.ins C.nb ["row"] [.pt r])]
theorem Tf (Fu:Fun K "__init__" "Notebook.__init__" vy f fd)(T:Txt K mg C):au Pg w K mg base CX0 1 f fd ["self"] (spF (Gz C)):=by
 have sc:ao ["self"] ["self"] (ak vy):=#[sC];wtm_at "cgo"
 .obtain⟨_,rfl,_⟩:=h;rfl
 .obtain⟨xd,rfl,rfl,h⟩:=h;show DB _ _ [some (.pt xd)] [(xd,.ins C.nb [] [])] _;refine aj (lR (ss:=[]) (YN.gen (aY aW) fun a=>⟨⟨[],by wtm_at "mem",?_⟩,by wtm_at "ptr"⟩) #[cls] #[noa] (by decide));refine ig fun nd=>?_;rw[gY] at nd;have ne:a≠xd:=fun e=>(nodup_cons.mp nd).1 (by rw[e];exact mem_cons_self ..);rw[fD ne,bT];exact aO (h a)
def rdN:List Str:=["calls","position"]
abbrev rdO (C:Cs) (ns:List Int) (p:Nat):OD:=.ins C.rd rdN [.d (.frl ns),.d (.int p)]
def GC (C:Cs):Fsp:=fun ss γ P=> ∃ (xd:Addr) (ns:List Int),ss=[.pt xd,.d (.frl ns)]/\γ=[(xd,.ins C.rd [] [])]/\P (.d .non) [(xd,rdO C ns 0)]
theorem Tg (Fu:Fun K "__init__" "CallReader.__init__" xF f fd)(T:Txt K mg C):au Pg w K mg base CX0 1 f fd ["self","calls"] (spF (GC C)):=by
 have sc:ao ["self","calls"] ["self","calls"] (ak xF):=#[sC];wtm_at "cg0"
 .obtain⟨xd,ns,rfl,rfl,h⟩:=h;show DB _ _ [some (.pt xd),some (.d (.frl ns))] [(xd,.ins C.rd [] [])] _;refine aj (gh #[dp] #[ptr] #[mem] ?_ #[cls] #[noa] (by decide));rw[bT];refine aj (gh #[dp] #[ptr] #[mem] ?_ #[cls] #[noa] (by decide));rw[bT];exact aO h
def GD (C:Cs):Fsp:=dR (fun _:List Int×Nat=>True) (fun a=>[.obj C.rd rdN [.frl a.1,.int (a.2:Nat)]]) fun a=>.bl (decide ((a.2:Int) < (a.1.length:Int)))
theorem Th (Fu:Fun K "has_more" "CallReader.has_more" xG f fd)(T:Txt K mg C):au Pg w K mg base CX0 1 f fd ["self"] (spF (GD C)):=by
 have sc:ao ["self"] ["self"] (ak xG):=#[sC];wtm_at "cg0"
 .obtain⟨⟨ns,p⟩,_,rfl,rfl,h⟩:=h;show DB _ _ [some (.d (.obj C.rd rdN [.frl ns,.int (p:Nat)]))] [] _;refine' aj (bH ?e ?h)
  case e=>wtm_at "dp"
  case h=>exact h
def GF (C:Cs):Fsp:=fun ss γ P=> ∃ (rd:Addr) (ns:List Int) (p:Nat) (v:Int),ns[p]?=some v/\ss=[.pt rd]/\γ=[(rd,rdO C ns p)]/\P (.d (.int v)) [(rd,rdO C ns (p+1))]
theorem Ti (Fu:Fun K "take_whole" "CallReader.take_whole" xH f fd)(T:Txt K mg C):au Pg w K mg base CX0 1 f fd ["self"] (spF (GF C)):=by
 have sc:ao ["self","value"] ["self"] (ak xH):=#[sC];wtm_at "cg2"
 .obtain⟨rd,ns,p,v,hv,rfl,rfl,h⟩:=h;show DB _ _ [some (.pt rd),none] [(rd,rdO C ns p)] _;refine aj (bj (k:=1) (Di (ns:=ns) (k:=(p:Int)) (n:=v) #[dp] #[dp] (by omega) (by rw[Int.toNat_natCast];exact hv)) ?_ #[nd] #[rR] #[vis] #[rR] #[vis]);refine aj (Qe #[ptr] #[mem] rfl #[dp] ?_ #[cls] #[noa] (by decide));rw[bT];refine' aj (bH ?e ?h)
  case e=>wtm_at "dp"
  case h=>exact h
def GJ (C:Cs):Fsp:=fun ss γ P=> ∃ (rd:Addr) (ns:List Int) (p:Nat) (l:List Int),ns.length<=sizeLine/\ns[p]?=some (l.length:Int)/\(ns.drop (p+1)).take l.length=l/\ss=[.pt rd]/\γ=[(rd,rdO C ns p)]/\ ∀a,P (.pt a) [(a,.lst (l.map .int)),(rd,rdO C ns (p+1+l.length))]
theorem Tj (Fu:Fun K "take_list" "CallReader.take_list" xJ f fd)(T:Txt K mg C):au Pg w K mg base CX0 1 f fd ["self"] (spF (GJ C)):=by
 have sc:ao ["self","begin"] ["self"] (ak xJ):=#[sC];wtm_at "cgo"
 .obtain⟨_,_,_,_,_,_,_,rfl,_⟩:=h;rfl
 .obtain⟨rd,ns,p,l,hz,hv,hl,rfl,rfl,h⟩:=h;show DB _ _ [some (.pt rd),none] [(rd,rdO C ns p)] _;refine aj (bj (k:=1) (x:=.int ((p:Int)+1)) #[dp] ?_ #[nd] #[rR] #[vis] #[rR] #[vis]);refine aj (gh (pW #[dp] (Di (ns:=ns) (k:=(p:Int)) (n:=(l.length:Int)) #[dp] #[dp] (by omega) (by rw[Int.toNat_natCast];exact hv))) #[ptr] #[mem] ?_ #[cls] #[noa] (by decide));rw[bT]
  have hlen:p+1+l.length<=ns.length:=by
   have:=congrArg List.length hl;rw[length_take,length_drop] at this;have:=(List.getElem?_eq_some_iff.mp hv).1;omega
  refine aj (aF (Qa (ns:=ns) (lo:=(p:Int)+1) (hi:=(p:Int)+1+l.length) #[dp] #[dp] #[dp] (by omega) (by omega) (by omega) hz) fun a=>?_);have:=h a
  have e1:((p:Int)+1).toNat=p+1:=by omega
  have e2:((p:Int)+1+(l.length:Int)).toNat=p+1+l.length:=by omega
  have e3:((p:Int)+1+(l.length:Int))=((p+1+l.length:Nat):Int):=by omega
  have e4:p+1+l.length - (p+1)=l.length:=by omega
  rw[e1,e2,e4,hl,e3];exact this
end
end
section
section
variable {t:TS}{te:TE}{ρ:Rho}{γ γ':Gm}{P:Po}{ad:Addr}{l:List D}
theorem km (hp:γ.Perm ((ad,.lst l)::γ'))(h:YS t ρ γ' P):YS t ρ γ P:=fun O0 H0 σ H I=>h (I.give_up hp).2
theorem Tn {O0:Addr->Bool}{H0 H:Hp}{σ:L2.St}(I:Ev O0 H0 σ H ρ γ)(hp:γ.Perm γ'):Ev O0 H0 σ H ρ γ':=by
 have e:hid O0 γ'=hid O0 γ:=by
  funext b;rw[Bool.eq_iff_iff,aQ,aQ,(hp.map (·.1)).mem_iff]
 exact⟨by rw[e];exact I.slots,fun q hq=>by rw[e];exact I.own q (hp.mem_iff.mpr hq),(hp.map (·.1)).nodup_iff.mp I.nd,fun q hq=>I.young q (hp.mem_iff.mpr hq),I.same,I.live⟩
theorem GK (hp:γ.Perm γ')(h:YS t ρ γ' P):YS t ρ γ P:=fun O0 H0 σ H I=>h (Tn I hp)
end
section
theorem bu {x:D}:[x].length<=sizeLine:=by rw[sizeLine_eq];show 1<=16777216;decide
abbrev NB (C:Cs) (nb r:Addr) (cs:List Cell):Gm:=[(r,.lst (cs.map (aM C))),(nb,.ins C.nb ["row"] [.pt r])]
def EdF {α:Type} (C:Cs) (pre:α->List Cell->Prop) (args:α->List D) (res:α->List Cell->List Cell×List Int):Fsp:=fun ss γ P=> ∃ (nb r:Addr) (cs:List Cell) (a:α),pre a cs/\ss= .pt nb::(args a).map .d/\γ=NB C nb r cs/\ ∀a' r',P (.pt a') ((a',.lst ((res a cs).2.map .int))::NB C nb r' (res a cs).1)
structure Told (n b:Int) (m r:List Int):Prop where
 n0:0<=n
 b01:b=0\/b=1
 m1:CG.Named m
 r1:CG.Named r
 m2:m.length<=40
 r2:r.length<=40
theorem yG {n b:Int}{m r:List Int}(h:Told n b m r)(xd:Addr):yF C (.pt xd::[D.int n,.int b,.lst (m.map .int),.lst (r.map .int)].map .d) [(xd,.ins C.cell [] [])] (fun s γ'=>s= .d .non/\γ'=[(xd,.ins C.cell cellNames ((yw (Vanbkb.told n b m r)).map .d))]):=by
 refine⟨xd,Vanbkb.told n b m r,m,r,⟨Fp h.m1.lo,lY _,by have:=h.m2;omega,Fp h.r1.lo,lY _,by have:=h.r2;omega⟩,?_,rfl,rfl,rfl⟩;have e1:((Vanbkb.told n b m r).number:Int)=n:=Int.toNat_of_nonneg h.n0
 have e2:mark (Vanbkb.told n b m r).broken=b:=by
  rcases h.b01 with e | e<;>subst e<;>rfl
 rw[e1,e2];rfl
abbrev qZ (Pg:Program) (w:World) (K:Frag) (mg:Str->Option Value) (base:Heap) (C:Cs):Prop:=jr Pg w K mg base "Cell" C.cell ["self","number","broken","makes","reads"] 1 (yF C)
abbrev dU (Pg:Program) (w:World) (K:Frag) (mg:Str->Option Value) (base:Heap) (C:Cs):Prop:=FnAt Pg w K mg base "place_of" ["row","number"] 1 (qX C)
theorem GP {cs:List Cell}{c:Cell}{i:Nat}:(cs.map (aM C)).take i++aM C c::(cs.map (aM C)).drop i=(Vanbkb.putAt cs i c).map (aM C):=by
 unfold Vanbkb.putAt;rw[map_append,map_cons,map_take,List.map_drop]
theorem Tp {cs:List Cell}{n p b:Int}{m r:List Int}(h:gM cs n p b m r=0)(hm:m.length<=40)(hr:r.length<=40):Told n b m r/\0<=p/\p.toNat<=cs.length/\n<=99/\1<=n/\az cs n=none/\cs.length < 12:=by
 unfold gM at h;split at h
 .cases h
 rename_i h1
 split at h
 .cases h
 rename_i h2
 split at h
 .cases h
 rename_i h3
 split at h
 .rename_i h4
  rw[h] at h4;cases h4
 rename_i h4
 split at h
 .cases h
 rename_i h5
 simp only[Bool.or_eq_true,decide_eq_true_eq,not_or,Bool.not_eq_true',decide_eq_false_iff_not,Classical.not_not,Bool.not_eq_false] at h1 h3 h4 h5;obtain⟨hb,hm1,hr1⟩:=lZ h4;refine⟨⟨by omega,hb,hm1,hr1,hm,hr⟩,by omega,by omega,by omega,by omega,?_,by omega⟩
 cases q:az cs n with
 | none=>rfl
 | some i=>rw[q] at h2;exact absurd rfl h2
def jB (cs:List Cell) (n p b:Int) (m r:List Int):List Cell×List Int:=if (!decide (gM cs n p b m r=0))=true then (cs,[gM cs n p b m r]) else (Vanbkb.putAt cs p.toNat (Vanbkb.told n b m r),[0])
def GQ (C:Cs):Fsp:=EdF C (fun (a:Int×Int×Int×List Int×List Int) _=>a.2.2.2.1.length<=40/\a.2.2.2.2.length<=40) (fun a=>[.int a.1,.int a.2.1,.int a.2.2.1,.lst (a.2.2.2.1.map .int),.lst (a.2.2.2.2.map .int)]) fun a cs=>jB cs a.1 a.2.1 a.2.2.1 a.2.2.2.1 a.2.2.2.2
theorem Tq (Fu:Fun K "add_cell" "add_cell" wj f fd)(T:Txt K mg C)(mkC:qZ Pg w K mg base C)(f1:FnAt Pg w K mg base "refusal_of_add" ["row","number","place","broken","makes","reads"] 3 (Gy C)) :
  au Pg w K mg base CX0 4 f fd ["notebook","number","place","broken","makes","reads"] (spF (GQ C)):=by
 have sc:ao ["notebook","number","place","broken","makes","reads","refusal"] ["notebook","number","place","broken","makes","reads"] (ak wj):=#[sC];wtm_at "cg2"
 .obtain⟨nb,ro,cs,⟨n,p,b,m,r⟩,hpre,rfl,rfl,h⟩:=h;replace hpre:m.length<=40/\r.length<=40:=hpre;replace h: ∀a' r',P (.pt a') ((a',.lst ((jB cs n p b m r).2.map .int))::NB C nb r' (jB cs n p b m r).1):=h;show DB _ _ [some (.pt nb),some (.d (.int n)),some (.d (.int p)),some (.d (.int b)),some (.d (.lst (m.map .int))),some (.d (.lst (r.map .int))),none] (NB C nb ro cs) _;unfold jB at h;refine aj (bj (k:=6) (m8 (bs:=[ro]) (fun _=>f1) ?a1 (y:=.int (gM cs n p b m r)) trivial (bh (cs,n,p,b,m,r) hpre rfl rfl) #[room] #[rR]) ?_ #[nd] #[rR] #[vis] #[rR] #[vis])
  case a1=>wtm_at "ab"
  refine aj (aZ #[dt] (fun hb=>?_) (fun hb=>?_))
  .rw[itT hb] at h;exact aj (aF (l:=[.int (gM cs n p b m r)]) (aY #[da] bu) fun a=>h a ro)
  rw[itF hb] at h
  have h0:gM cs n p b m r=0:=by simpa using hb
  obtain⟨ht,p0,p1,_,_,_,hlen⟩:=Tp h0 hpre.1 hpre.2;refine aO (aj (d9 (Dk (n:=p) (x:=aM C (Vanbkb.told n b m r)) #[dr] #[mem] ?args ?_ p0 (by rw[length_map];exact p1) (by rw[length_map,sizeLine_eq];omega))))
  case args =>
   refine aG #[dp] (aG (nj (fun _=>mkC) (ds:=[.int n,.int b,.lst (m.map .int),.lst (r.map .int)]) ?_ (yG ht) #[room] #[rR]) aW);wtm_at "da"
  rw[jA,GP];refine ig fun nd=>?_;rw[map_cons,gY,<-map_cons] at nd;have ne:nb≠ro:=fun e=>(nodup_cons.mp nd).1 (by rw[e];exact mem_cons_self ..);rw[fD ne,mq];exact aj (aF (l:=[.int 0]) (aY #[da] bu) fun a=>h a ro)
end
end
section
section
theorem nR {cs:List Cell}{n:Int}{i:Nat}(h:az cs n=some i): ∃c,cs[i]?=some c/\(c.number:Int)=n:=by
 unfold az at h;rw[List.findIdx?_eq_some_iff_getElem] at h;obtain⟨hi,e,_⟩:=h;exact⟨cs[i],List.getElem?_eq_getElem hi,of_decide_eq_true e⟩
theorem Tr {cs:List Cell}(h:cs.length<=12):(cs.map (aM C)).length<=sizeLine:=by
 rw[length_map,sizeLine_eq];omega
theorem Tt {cs:List Cell}{i:Nat}:(cs.map (aM C)).eraseIdx i=(cs.eraseIdx i).map (aM C):=(Dg ..).symm
theorem GR {nb ro:Addr}{w1 w2:OD}{γ:Gm}(nd:(((ro,w1)::(nb,w2)::γ).map (·.1)).Nodup):nb≠ro:=fun e=>(nodup_cons.mp nd).1 (by rw[e];exact mem_cons_self ..)
def jC (cs:List Cell) (n b:Int) (m r:List Int):List Cell×List Int:=if (!decide (dH cs n b m r=0))=true then (cs,[dH cs n b m r]) else (dG cs (Vanbkb.told n b m r),[0])
def GX (C:Cs):Fsp:=EdF C (fun (a:Int×Int×List Int×List Int) cs=>(a.2.2.1.length<=40/\a.2.2.2.length<=40)/\cs.length<=12) (fun a=>[.int a.1,.int a.2.1,.lst (a.2.2.1.map .int),.lst (a.2.2.2.map .int)]) fun a cs=>jC cs a.1 a.2.1 a.2.2.1 a.2.2.2
theorem GZ {t:TS}{ρ:Rho}{P:Po}{ro nb Cn:Addr}{l:List D}{γ:Gm}(h:YS t ρ ((nb,.ins Cn ["row"] [.d (.lst l)])::γ) P):YS t ρ ((ro,.lst l)::(nb,.ins Cn ["row"] [.pt ro])::γ) P:=fun O0 H0 σ H I Dn kn kr kb kc=>by
 obtain⟨r,I2⟩:=I.give_up (List.Perm.refl _);refine h ⟨I2.slots,fun p hp=>?_,I2.nd,fun p hp=>?_,I2.same,I2.live⟩ Dn kn kr kb kc
 .rcases mem_cons.mp hp with rfl | hp
  .obtain⟨o,e,dx,xs,rfl,hl,q⟩:=I2.own _ (mem_cons_self ..)
   cases q with
   | cons q1 q2 =>
    cases q2;rw[show _=V.ref ro from q1] at e;exact⟨_,e,dx,[.ref ro],rfl,rfl,.cons r .nil⟩
  .exact I2.own p (mem_cons_of_mem _ hp)
 .rcases mem_cons.mp hp with rfl | hp
  .exact I2.young (nb,.ins Cn ["row"] [.pt ro]) (mem_cons_self ..)
  .exact I2.young p (mem_cons_of_mem _ hp)
theorem G3 {cs:List Cell}{n b:Int}{m r:List Int}(h0:dH cs n b m r=0)(hm:m.length<=40)(hr:r.length<=40):Told n b m r:=by
 unfold dH at h0
 cases hp:az cs n with
 | none =>
  rw[hp] at h0;cases (h0:(-8:Int)=0)
 | some i =>
  rw[hp] at h0;replace h0:Vanbkb.fault b m r=0:=h0;obtain⟨c,hc,hn⟩:=nR hp;obtain⟨hb1,hm1,hr1⟩:=lZ h0;exact⟨by omega,hb1,hm1,hr1,hm,hr⟩
abbrev G4 (Pg:Program) (w:World) (K:Frag) (mg:Str->Option Value) (base:Heap) (C:Cs):Prop:=FnAt Pg w K mg base "row_with_changed" ["row","cell"] 1 (Gr C)
abbrev G5 (Pg:Program) (w:World) (K:Frag) (mg:Str->Option Value) (base:Heap) (C:Cs):Prop:=FnAt Pg w K mg base "row_without" ["row","number"] 1 (Gs C)
theorem Tu (Fu:Fun K "change_cell" "change_cell" wu f fd)(T:Txt K mg C)(mkC:qZ Pg w K mg base C)(f0:G4 Pg w K mg base C)(f1:FnAt Pg w K mg base "refusal_of_change" ["row","number","broken","makes","reads"] 3 (yD C)) :
  au Pg w K mg base CX0 4 f fd ["notebook","number","broken","makes","reads"] (spF (GX C)):=by
 have sc:ao ["notebook","number","broken","makes","reads","refusal"] ["notebook","number","broken","makes","reads"] (ak wu):=#[sC];wtm_at "cg2"
 .obtain⟨nb,ro,cs,⟨n,b,m,r⟩,⟨hpre,hlen⟩,rfl,rfl,h⟩:=h;replace hpre:m.length<=40/\r.length<=40:=hpre;replace h: ∀a' r',P (.pt a') ((a',.lst ((jC cs n b m r).2.map .int))::NB C nb r' (jC cs n b m r).1):=h;show DB _ _ [some (.pt nb),some (.d (.int n)),some (.d (.int b)),some (.d (.lst (m.map .int))),some (.d (.lst (r.map .int))),none] (NB C nb ro cs) _;unfold jC at h;refine aj (bj (k:=5) (m8 (bs:=[ro]) (fun _=>f1) ?a1 (y:=.int (dH cs n b m r)) trivial (bh (cs,n,b,m,r) hpre rfl rfl) #[room] #[rR]) ?_ #[nd] #[rR] #[vis] #[rR] #[vis])
  case a1=>wtm_at "ab"
  refine aj (aZ #[dt] (fun hb=>?_) (fun hb=>?_))
  .rw[itT hb] at h;exact aj (aF (l:=[.int (dH cs n b m r)]) (aY #[da] bu) fun a=>h a ro)
  rw[itF hb] at h;have ht:=G3 (by simpa using hb) hpre.1 hpre.2;refine aO (GZ (aj (lR (ss:=[.d (aC C cs)]) (YN.gen (l:=(dG cs (Vanbkb.told n b m r)).map (aM C)) (bx (fun _=>f0) (aG #[dp] (aG (nj (fun _=>mkC) (ds:=[.int n,.int b,.lst (m.map .int),.lst (r.map .int)]) ?a1 (yG ht) #[room] #[rR]) aW)) (aP (cs,Vanbkb.told n b m r) hlen rfl rfl) #[room] #[rR]) fun ad=>⟨⟨[.d (aC C cs)],by wtm_at "mem",?_⟩,by wtm_at "ptr"⟩) #[cls] #[noa] (by decide))))
  case a1=>wtm_at "da"
  refine ig fun nd=>?_;rw[gY] at nd;have n1:ad≠nb:=fun e=>(nodup_cons.mp nd).1 (by rw[e];exact mem_cons_self ..);rw[fD n1,bT];exact aj (aF (l:=[.int 0]) (aY #[da] bu) fun a=>h a ad)
def jD (cs:List Cell) (n:Int):List Cell×List Int:=match az cs n with
 | none=>(cs,[-8])
 | some i=>(gK cs n,[0])
def G6 (C:Cs):Fsp:=EdF C (fun (_:Int) cs=>cs.length<=12) (fun a=>[.int a]) fun a cs=>jD cs a
theorem G7 {o:Option Nat}:Flat (cG o):=by cases o<;>exact trivial
theorem Tv (Fu:Fun K "drop_cell" "drop_cell" ww f fd)(T:Txt K mg C)(f0:dU Pg w K mg base C)(f1:G5 Pg w K mg base C) :
  au Pg w K mg base CX0 2 f fd ["notebook","number"] (spF (G6 C)):=by
 have sc:ao ["notebook","number"] ["notebook","number"] (ak ww):=#[sC];wtm_at "cg2"
 .obtain⟨nb,ro,cs,n,hlen,rfl,rfl,h⟩:=h;replace h: ∀a' r',P (.pt a') ((a',.lst ((jD cs n).2.map .int))::NB C nb r' (jD cs n).1):=h;show DB _ _ [some (.pt nb),some (.d (.int n))] (NB C nb ro cs) _;unfold jD at h;refine aj (aZ (lJ (x:=cG (az cs n)) (m8 (bs:=[ro]) (fun _=>f0) ?a1 G7 (bh (cs,n) trivial rfl rfl) #[room] #[rR])) (fun hb=>?_) (fun hb=>?_))
  case a1=>wtm_at "ab"
  .cases hp:az cs n with
   | none =>
    rw[hp] at h;exact aj (aF (l:=[.int (-8)]) (aY #[da] bu) fun a=>h a ro)
   | some i =>
    rw[hp] at hb;exact nomatch (show false=true from hb)
  .cases hp:az cs n with
   | none =>
    rw[hp] at hb;exact nomatch (show true=false from hb)
   | some i =>
    rw[hp] at h;refine aO (GZ (aj (lR (ss:=[.d (aC C cs)]) (YN.gen (l:=(gK cs n).map (aM C)) (bx (fun _=>f1) #[da] (aP (cs,n) hlen rfl rfl) #[room] #[rR]) fun ad=>⟨⟨[.d (aC C cs)],by wtm_at "mem",?_⟩,by wtm_at "ptr"⟩) #[cls] #[noa] (by decide))));refine ig fun nd=>?_;rw[gY] at nd;have n1:ad≠nb:=fun e=>(nodup_cons.mp nd).1 (by rw[e];exact mem_cons_self ..);rw[fD n1,bT];exact aj (aF (l:=[.int 0]) (aY #[da] bu) fun a=>h a ad)
def jE (cs:List Cell) (n p:Int):List Cell×List Int:=match az cs n with
 | none=>(cs,[-8])
 | some i=>if (decide (p < 0)||decide ((cs.length:Int)<=p))=true then (cs,[-3]) else match cs[i]? with
  | none=>(cs,[0])
  | some c=>(Vanbkb.putAt (cs.eraseIdx i) p.toNat c,[0])
def G8 (C:Cs):Fsp:=EdF C (fun (_:Int×Int) cs=>cs.length<=12) (fun a=>[.int a.1,.int a.2]) fun a cs=>jE cs a.1 a.2
theorem Tw (Fu:Fun K "move_cell" "move_cell" wy f fd)(T:Txt K mg C)(f0:dU Pg w K mg base C) :
  au Pg w K mg base CX0 2 f fd ["notebook","number","place"] (spF (G8 C)):=by
 have sc:ao ["notebook","number","place","old_place","cell"] ["notebook","number","place"] (ak wy):=#[sC];wtm_at "cg2"
 .obtain⟨nb,ro,cs,⟨n,p⟩,hlen,rfl,rfl,h⟩:=h;replace hlen:cs.length<=12:=hlen;replace h: ∀a' r',P (.pt a') ((a',.lst ((jE cs n p).2.map .int))::NB C nb r' (jE cs n p).1):=h;show DB _ _ [some (.pt nb),some (.d (.int n)),some (.d (.int p)),none,none] (NB C nb ro cs) _;unfold jE at h;refine aj (bj (k:=3) (x:=cG (az cs n)) (m8 (bs:=[ro]) (fun _=>f0) ?a1 G7 (bh (cs,n) trivial rfl rfl) #[room] #[rR]) ?_ #[nd] #[rR] #[vis] #[rR] #[vis])
  case a1=>wtm_at "ab"
  cases hp:az cs n with
  | none =>
   rw[hp] at h;refine aj (aZ #[dt] (fun _=>?_) (fun hb=>?_))
   .exact aj (aF (l:=[.int (-8)]) (aY #[da] bu) fun a=>h a ro)
   .exact absurd hb (by decide)
  | some i =>
   rw[hp] at h;replace h: ∀a' r',P (.pt a') ((a',.lst ((if (decide (p < 0)||decide ((cs.length:Int)<=p))=true then (cs,[-3]) else match cs[i]? with | none=>(cs,[0]) | some c=>(Vanbkb.putAt (cs.eraseIdx i) p.toNat c,[0]):List Cell×List Int).2.map .int))::NB C nb r' (if (decide (p < 0)||decide ((cs.length:Int)<=p))=true then (cs,[-3]) else match cs[i]? with | none=>(cs,[0]) | some c=>(Vanbkb.putAt (cs.eraseIdx i) p.toNat c,[0]):List Cell×List Int).1):=h;obtain⟨c,hc,hn⟩:=nR hp;have hi:=(List.getElem?_eq_some_iff.mp hc).1;refine aj (aZ #[dt] (fun hb=>?_) (fun _=>?_))
   .exact nomatch (show false=true from hb)
   refine aO (aj (aZ (t:=decide (p < 0)||decide ((cs.length:Int)<=p)) ?t (fun hb=>?_) (fun hb=>?_)))
   case t =>
    rw[<-length_map (aM C) (as:=cs)];wtm_at "dt"
   .rw[itT hb] at h;exact aj (aF (l:=[.int (-3)]) (aY #[da] bu) fun a=>h a ro)
   rw[itF hb,hc] at h;simp only[Bool.or_eq_false_iff,decide_eq_false_iff_not] at hb;refine aO (aj (bQ (k:=4) (Qc (n:=(i:Int)) (x:=aM C c) #[dr] #[mem] ?args (by rw[Int.toNat_natCast,List.getElem?_map,hc];rfl) ?_ (by omega) (Tr hlen)) #[nd] #[rR] #[vis] #[rR] #[vis]))
   case args=>wtm_at "da"
   rw[jA,Int.toNat_natCast,Tt];refine ig fun nd=>?_;rw[map_cons,gY,<-map_cons] at nd;rw[fD (GR nd),mq];have hel:(cs.eraseIdx i).length=cs.length - 1:=length_eraseIdx_of_lt hi;refine aj (d9 (Dk (n:=p) (x:=aM C c) #[dr] #[mem] ?args ?_ (by omega) (by rw[length_map];omega) (by rw[length_map,sizeLine_eq];omega)))
   case args=>wtm_at "da"
   rw[jA,GP,fD (GR nd),mq];exact aj (aF (l:=[.int 0]) (aY #[da] bu) fun a=>h a ro)
end
end
section
section
def fP (a b:Int) (l:List Int):List Int:=l.map fun x=>if x=a then b else x
def G9:Fsp:=bA (fun a:List Int×Int×Int=>a.1.length < 64) (fun a=>[.lst (a.1.map .int),.int a.2.1,.int a.2.2]) fun a=>(fP a.2.1 a.2.2 a.1).map .int
theorem Tz (Fu:Fun K "renamed_list" "renamed_list" wC f fd)(T:Txt K mg C):au Pg w K mg base CX0 1 f fd ["names","old_name","new_name"] (spF G9):=by
 have sc:ao ["names","old_name","new_name","name"] ["names","old_name","new_name"] (ak wC):=#[sC];wtm_at "cg0"
 .obtain⟨⟨l,a,b⟩,hl,rfl,rfl,h⟩:=h;replace hl:l.length < 64:=hl;replace h: ∀ad,P (.pt ad) [(ad,.lst ((fP a b l).map .int))]:=h;show DB _ _ [some (.d (.lst (l.map .int))),some (.d (.int a)),some (.d (.int b)),none] [] _;refine' aj (aF (cP (items:=l) (g:=D.int) (f:=fun x=>.int (if x=a then b else x)) (own:=[("name",3)]) ?c ?n ?i ?ok ?g ?e ?z) fun ad=>?_);wtm_at "lc"
  case i=>exact bC #[dl]
  case e =>
   intro x _;refine' uf (t:=decide (x=a)) ?t (fun e=>?y) (fun e=>?n)
   case t=>wtm_at "dt"
   case y =>
    rw[if_pos (of_decide_eq_true e)];wtm_at "dp"
   case n =>
    rw[if_neg (of_decide_eq_false e)];wtm_at "dp"
  case z=>rw[sizeLine_eq];omega
  have:=h ad;unfold fP at this
  rwa [List.map_map] at this
def nT (a b:Nat) (c:Cell):Cell:={ c with makes:=Vanbkb.renamedIn a b c.makes,reads:=Vanbkb.renamedIn a b c.reads }
theorem TF (a b:Nat)(l:List Nat):fP a b (zs l)=zs (l.map fun x=>if x=a then b else x):=by
 unfold fP zs;rw[List.map_map,List.map_map];refine map_congr_left fun x _=>?_;show (if (x:Int)=(a:Int) then (b:Int) else (x:Int))=((if x=a then b else x:Nat):Int)
 by_cases h:x=a
 .rw[if_pos h,if_pos (by rw[h])]
 .rw[if_neg h,if_neg (fun (e:(x:Int)=(a:Int))=>h (by omega))]
theorem Ha (a b:Nat)(l:List Nat):(zs (Vanbkb.renamedIn a b l)).Perm (fP a b (zs l)):=by
 rw[TF];exact (kj _).map _
theorem Hb (a b:Int)(l:List Int):(fP a b l).length=l.length:=length_map ..
def Few (c:Cell):Prop:=c.makes.length < 64/\c.reads.length < 64
def Hc (C:Cs):Fsp:=dR (fun a:Cell×Nat×Nat=>Few a.1) (fun a=>[aM C a.1,.int (a.2.1:Nat),.int (a.2.2:Nat)]) fun a=>aM C (nT a.2.1 a.2.2 a.1)
theorem TJ (Fu:Fun K "renamed_cell" "renamed_cell" wB f fd)(T:Txt K mg C)(mkC:qZ Pg w K mg base C)(f1:FnAt Pg w K mg base "renamed_list" ["names","old_name","new_name"] 1 G9):au Pg w K mg base CX0 3 f fd ["cell","old_name","new_name"] (spF (Hc C)):=by
 have sc:ao ["cell","old_name","new_name","makes","reads"] ["cell","old_name","new_name"] (ak wB):=#[sC];wtm_at "cg0"
 .obtain⟨⟨c,a,b⟩,hf,rfl,rfl,h⟩:=h;replace hf:Few c:=hf;replace h:P (.d (aM C (nT a b c))) []:=h;show DB _ _ [some (.d (aM C c)),some (.d (.int (a:Nat))),some (.d (.int (b:Nat))),none,none] [] _
  have lm:(zs c.makes).length < 64:=by rw[length_map];exact hf.1
  have lr:(zs c.reads).length < 64:=by rw[length_map];exact hf.2
  refine aj (bj (k:=3) (x:=.lst ((fP a b (zs c.makes)).map .int)) (YN.data (bx (fun _=>f1) ?a1 (aP (zs c.makes,(a:Int),(b:Int)) lm rfl rfl) #[room] #[rR])) ?_ #[nd] #[rR] #[vis] #[rR] #[vis])
  case a1=>wtm_at "da"
  refine aj (bj (k:=4) (x:=.lst ((fP a b (zs c.reads)).map .int)) (YN.data (bx (fun _=>f1) ?a1 (aP (zs c.reads,(a:Int),(b:Int)) lr rfl rfl) #[room] #[rR])) ?_ #[nd] #[rR] #[vis] #[rR] #[vis])
  case a1=>wtm_at "da"
  refine aj (bH (nj (fun _=>mkC) (ds:=[.int c.number,.int (mark c.broken),.lst ((fP a b (zs c.makes)).map .int),.lst ((fP a b (zs c.reads)).map .int)]) ?a1 (fun xd=>⟨xd,nT a b c,fP a b (zs c.makes),fP a b (zs c.reads),⟨Ha a b c.makes,lY _,by rw[Hb];exact lm,Ha a b c.reads,lY _,by rw[Hb];exact lr⟩,rfl,rfl,rfl,rfl⟩) #[room] #[rR]) h)
  case a1=>wtm_at "da"
def jF (cs:List Cell) (a b:Int):List Cell×List Int :=
 if (!Vanbkb.within a 0 31|| !Vanbkb.within b 0 31)=true then (cs,[-5]) else if (cs.any fun c=>ie c b)=true then (cs,[-9]) else (cs.map (nT a.toNat b.toNat),[((cs.filter fun c=>ie c a).length:Int)])
def Hd (C:Cs):Fsp:=EdF C (fun (_:Int×Int) cs=>cs.length<=12/\ ∀c∈cs,Few c) (fun a=>[.int a.1,.int a.2]) fun a cs=>jF cs a.1 a.2
theorem TQ (Fu:Fun K "rename_name" "rename_name" wA f fd)(T:Txt K mg C)(f1:FnAt Pg w K mg base "is_name" ["value"] 1 nP)(f2:FnAt Pg w K mg base "has_name" ["cell","name"] 1 (Gp C))(f3:FnAt Pg w K mg base "renamed_cell" ["cell","old_name","new_name"] 3 (Hc C)) :
  au Pg w K mg base CX0 4 f fd ["notebook","old_name","new_name"] (spF (Hd C)):=by
 have sc:ao ["notebook","old_name","new_name","count","cell"] ["notebook","old_name","new_name"] (ak wA):=#[sC];wtm_at "cg2"
 .obtain⟨nb,ro,cs,⟨x,y⟩,⟨hlen,hfew⟩,rfl,rfl,h⟩:=h;replace h: ∀a' r',P (.pt a') ((a',.lst ((jF cs x y).2.map .int))::NB C nb r' (jF cs x y).1):=h;show DB _ _ [some (.pt nb),some (.d (.int x)),some (.d (.int y)),none,none] (NB C nb ro cs) _
  have hz:cs.length<=sizeLine:=by rw[sizeLine_eq];omega
  unfold jF at h;refine aj (aZ (t_w (w_or (jn (dN (bD (fun _=>f1) ?a1 (bh x trivial rfl rfl) #[room] #[rR]))) fun _=>ue (jn (dN (bD (fun _=>f1) ?a2 (bh y trivial rfl rfl) #[room] #[rR]))))) (fun hb=>?_) (fun hb=>?_))
  case a1=>wtm_at "da"
  case a2=>wtm_at "da"
  .rw[itT hb] at h;exact aj (aF (l:=[.int (-5)]) (aY #[da] bu) fun a=>h a ro)
  rw[itF hb] at h;refine aO (aj (aZ (dN (qg (bs:=cs.map fun c=>ie c y) (YN.list ?lc) #[rR] #[rR] #[blt])) (fun hb2=>?_) (fun hb2=>?_)))
  case lc =>
   rw[List.map_map];refine' cP (items:=cs) (g:=aM C) (own:=[("cell",4)]) ?c ?n ?i ?ok ?g ?e hz;wtm_at "lc"
   case i=>exact bC #[dl]
   case e =>
    intro c _;refine' bD (fun _=>f2) ?a (bh (c,y) trivial rfl rfl) #[room] #[rR]
    case a=>wtm_at "da"
  all_goals rw[qY] at hb2
  .rw[itT hb2] at h;exact aj (aF (l:=[.int (-9)]) (aY #[da] bu) fun a=>h a ro)
  rw[itF hb2] at h
  have hxy:0<=x/\0<=y:=by
   simp only[Bool.or_eq_false_iff,Bool.not_eq_false',dq] at hb;omega
  obtain⟨a,rfl⟩: ∃a:Nat,x=(a:Int):=⟨x.toNat,(Int.toNat_of_nonneg hxy.1).symm⟩
  obtain⟨b,rfl⟩: ∃b:Nat,y=(b:Int):=⟨y.toNat,(Int.toNat_of_nonneg hxy.2).symm⟩
  simp only[Int.toNat_natCast] at h;refine aO (aj (bj (k:=3) (iM (YN.list (l:=(cs.filter fun c=>ie c a).map (aM C)) ?lc) #[rR] #[blt]) ?_ #[nd] #[rR] #[vis] #[rR] #[vis]))
  case lc =>
   refine' dD (items:=cs) (g:=aM C) (f:=aM C) (own:=[("cell",4)]) ?c ?n ?i ?ok ?g ?t ?e hz;wtm_at "lc"
   case i=>exact bC #[dl]
   case t =>
    intro c _;refine' cN (dN (bD (fun _=>f2) ?a (bh (c,(a:Int)) trivial rfl rfl) #[room] #[rR]))
    case a=>wtm_at "da"
   case e =>
    intro c _ _;wtm_at "dp"
  rw[length_map];refine aj (lR (ss:=[.pt ro]) (YN.gen (l:=(cs.map (nT a b)).map (aM C)) ?lc fun ad=>⟨⟨[.pt ro],by wtm_at "mem",?_⟩,by wtm_at "ptr"⟩) #[cls] #[noa] (by decide))
  case lc =>
   rw[List.map_map];refine' cP (items:=cs) (g:=aM C) (own:=[("cell",4)]) ?c ?n ?i ?ok ?g ?e hz;wtm_at "lc"
   case i=>exact bC #[dl]
   case e =>
    intro c hc;refine' bD (fun _=>f3) ?a (bh (c,a,b) (hfew c hc) rfl rfl) #[room] #[rR]
    case a=>wtm_at "da"
  refine ig fun nd=>?_;rw[gY] at nd;have n1:ad≠nb:=fun e=>(nodup_cons.mp nd).1 (by rw[e];exact mem_cons_of_mem _ (mem_cons_self ..));have n2:ro≠nb:=fun e=>(nodup_cons.mp (nodup_cons.mp nd).2).1 (by rw[e];exact mem_cons_self ..);rw[fD n1,fD n2,bT];refine km (List.Perm.swap ..) ?_;exact aj (aF (l:=[.int ((cs.filter fun c=>ie c a).length:Int)]) (aY #[da] bu) fun a'=>h a' ad)
end
end
section
section
def yH (C:Cs):Fsp:=bA (fun a:List Cell×Nat=>a.1.length<=12) (fun a=>[aC C a.1,.int (a.2:Nat)]) fun a=>(zs (CG.pmk a.1 a.2)).map .int
theorem Hf (cs:List Cell)(p:Cell->List Nat)(n:Nat):(cs.zipIdx.filter fun q=>(zs (p q.1)).contains (n:Int)).map (fun q=>D.int (q.2:Nat))=(zs ((cs.zipIdx.filter fun q=>(p q.1).contains n).map fun q=>q.2)).map D.int:=by
 rw[List.map_map,List.map_map]
 have e2:(fun (q:Cell×Nat)=>(p q.1).contains n)=fun q=>(zs (p q.1)).contains (n:Int):=by
  funext q;exact (dO _ _).symm
 rw[e2];rfl
theorem TV (Fu:Fun K "places_making" "places_making" vO f fd)(T:Txt K mg C):au Pg w K mg base CX0 1 f fd ["row","name"] (spF (yH C)):=by
 have sc:ao ["row","name","place","cell"] ["row","name"] (ak vO):=#[sC];wtm_at "cg0"
 .obtain⟨⟨cs,n⟩,hlen,rfl,rfl,h⟩:=h;replace hlen:cs.length<=12:=hlen;show DB _ _ [some (.d (aC C cs)),some (.d (.int (n:Nat))),none,none] [] _;refine' aj (aF (dD (items:=cs.zipIdx) (g:=fun q=>.tup [.int (q.2:Nat),aM C q.1]) (c:=fun q=>(zs q.1.makes).contains (n:Int)) (f:=fun q=>.int (q.2:Nat)) (own:=[("place",2),("cell",3)]) ?c ?n ?i ?ok ?g ?t ?e ?z) fun a=>?_);wtm_at "lc"
  case i =>
   rw[yz];exact jo #[dl] #[rR] #[blt]
  case t=>exact fun q _=>cN #[dt]
  case e=>exact fun q _ _=>by wtm_at "dp"
  case z=>rw[length_zipIdx,sizeLine_eq];omega
  rw[Hf cs (fun c=>c.makes) n];exact h a
def Hg (C:Cs):Fsp:=bA (fun a:List Cell×Nat=>a.1.length<=12) (fun a=>[aC C a.1,.int (a.2:Nat)]) fun a=>(zs (CG.prd a.1 a.2)).map .int
theorem TX (Fu:Fun K "places_reading" "places_reading" vP f fd)(T:Txt K mg C):au Pg w K mg base CX0 1 f fd ["row","name"] (spF (Hg C)):=by
 have sc:ao ["row","name","place","cell"] ["row","name"] (ak vP):=#[sC];wtm_at "cg0"
 .obtain⟨⟨cs,n⟩,hlen,rfl,rfl,h⟩:=h;replace hlen:cs.length<=12:=hlen;show DB _ _ [some (.d (aC C cs)),some (.d (.int (n:Nat))),none,none] [] _;refine' aj (aF (dD (items:=cs.zipIdx) (g:=fun q=>.tup [.int (q.2:Nat),aM C q.1]) (c:=fun q=>(zs q.1.reads).contains (n:Int)) (f:=fun q=>.int (q.2:Nat)) (own:=[("place",2),("cell",3)]) ?c ?n ?i ?ok ?g ?t ?e ?z) fun a=>?_);wtm_at "lc"
  case i =>
   rw[yz];exact jo #[dl] #[rR] #[blt]
  case t=>exact fun q _=>cN #[dt]
  case e=>exact fun q _ _=>by wtm_at "dp"
  case z=>rw[length_zipIdx,sizeLine_eq];omega
  rw[Hf cs (fun c=>c.reads) n];exact h a
abbrev jc (cs:List Cell):D:=.lst ((List.range 32).map fun x=>aD (CG.pmk cs x))
theorem TY {cs:List Cell}{x:Nat}(h:x<=31):((List.range 32).map fun x=>aD (CG.pmk cs x))[((x:Nat):Int).toNat]?=some (aD (CG.pmk cs x)):=by
 rw[Int.toNat_natCast,List.getElem?_map,List.getElem?_range (by omega)];rfl
theorem nU {ι:Type}{F:ι->Cx}{ρ:Rho}{γ:Gm}{a b:Expr}{pos:Pos}{cs:List Cell}{x:Nat}(h:x<=31)(ha:DP F a ρ γ (jc cs))(hb:DP F b ρ γ (.int (x:Nat)))(hs:fL b:=by intro _ _;rfl):DP F (.Subscript a b pos) ρ γ (aD (CG.pmk cs x)):=gG (YP.list ha) hb (by omega) (TY h) hs
def Small (c:Cell):Prop:=(c.makes.length<=32/\c.reads.length<=32)/\(∀x∈c.makes,x<=31)/\ ∀x∈c.reads,x<=31
theorem ik (l:List Nat):((((zs l).map D.int).length:Nat):Int)=(l.length:Int):=by rw[length_map,length_map]
def Hh (C:Cs):Fsp:=bA (fun a:List Cell×Cell=>a.1.length<=12/\Small a.2) (fun a=>[aM C a.2,jc a.1]) fun a=>(zs (CG.psrc a.1 a.2)).map .int
theorem Hi {l:List Nat}(h:l.length=1): ∃i,l=[i]:=List.length_eq_one_iff.mp h
def firsts (cs:List Cell) (c:Cell):List Nat:=(c.reads.filter fun x=>decide (((((zs (CG.pmk cs x)).map D.int).length:Nat):Int)=1)).map fun x=>(CG.pmk cs x).headD 0
theorem Hj {cs:List Cell}{c:Cell}{i:Nat}:i∈firsts cs c↔i∈CG.psrc cs c:=by
 rw[Fd];unfold firsts;rw[mem_map];constructor
 .rintro⟨x,hx,rfl⟩;obtain⟨hx1,hx2⟩:=mem_filter.mp hx;rw[ik,decide_eq_true_eq] at hx2;obtain⟨i,hi⟩:=Hi (l:=CG.pmk cs x) (by omega);exact⟨x,hx1,by rw[hi];rfl⟩
 .rintro⟨x,hx,e⟩;refine⟨x,mem_filter.mpr ⟨hx,?_⟩,by rw[e];rfl⟩;rw[ik,decide_eq_true_eq,e];rfl
theorem T3 (cs:List Cell)(c:Cell):(zs (CG.psrc cs c)).Perm (SetS.comes [] (zs (firsts cs c))):=by
 have n1:(zs (CG.psrc cs c)).Nodup:=by
  rw[nodup_iff_pairwise_ne,pairwise_map];exact List.Pairwise.imp (fun {a b} h e=>absurd (Int.ofNat.inj e) (Nat.ne_of_lt h)) (uT cs c)
 refine (List.perm_ext_iff_of_nodup n1 (SetS.comes_nodup nodup_nil)).mpr fun k=>?_;rw[SetS.comes_mem,mem_map,mem_map];constructor
 .rintro⟨i,hi,rfl⟩;exact .inr ⟨i,Hj.mpr hi,rfl⟩
 .rintro (h | ⟨i,hi,rfl⟩)
  .cases h
  .exact⟨i,Hj.mp hi,rfl⟩
theorem T4 (Fu:Fun K "sources_of" "sources_of" vQ f fd)(T:Txt K mg C):au Pg w K mg base CX0 1 f fd ["cell","makers"] (spF (Hh C)):=by
 have sc:ao ["cell","makers","name"] ["cell","makers"] (ak vQ):=#[sC];wtm_at "cg0"
 .obtain⟨⟨cs,c⟩,⟨hlen,hsm⟩,rfl,rfl,h⟩:=h;replace hlen:cs.length<=12:=hlen;replace hsm:Small c:=hsm;show DB _ _ [some (.d (aM C c)),some (.d (jc cs)),none] [] _
  have hfl:(firsts cs c).length<=32:=by
   unfold firsts;rw[length_map];exact Nat.le_trans (length_filter_le ..) hsm.1.2
  have hpl:(SetS.comes [] (zs (firsts cs c))).length < 64:=by
   have:=SetS.comes_len (l:=zs (firsts cs c)) (acc:=[]);rw[length_nil,length_map] at this;omega
  refine aj (aF (DY (ns:=zs (firsts cs c)) (out:=zs (CG.psrc cs c)) (YN.list ?lc) hpl (by rw[length_map];unfold scanBound;omega) (T3 cs c) (nQ (uT cs c).le) #[rR] #[rR] #[blt] #[rR] #[blt]) fun a=>h a)
  case lc =>
   have e:(zs (firsts cs c)).map D.int=(c.reads.filter fun x=>decide (((((zs (CG.pmk cs x)).map D.int).length:Nat):Int)=1)).map fun x=>D.int ((CG.pmk cs x).headD 0:Nat):=by
    unfold firsts;rw[List.map_map,List.map_map];rfl
   rw[e];refine' dD (items:=c.reads) (g:=fun x=>D.int (x:Nat)) (own:=[("name",2)]) ?c ?n ?i ?ok ?g ?t ?e ?z;wtm_at "lc"
   case i =>
    have e:(c.reads.map fun x=>D.int (x:Nat))=(zs c.reads).map D.int:=by rw[List.map_map];rfl
    rw[e];exact bC #[dl]
   case t =>
    intro x hx;exact cN (pY (iM (YP.list (nU (hsm.2.2 x hx) #[dp] #[dp])) #[rR] #[blt]) dm)
   case e =>
    intro x hx hc;rw[ik,decide_eq_true_eq] at hc;obtain⟨i,hi⟩:=Hi (l:=CG.pmk cs x) (by omega);refine gG (YP.list (nU (cs:=cs) (hsm.2.2 x hx) #[dp] #[dp])) dm (by decide) ?_;rw[hi];rfl
   case z=>rw[sizeLine_eq];have:=hsm.1.2;omega
end
end
section
section
structure Fnd (src:CG.Src) (i:Nat) (l:List Nat):Prop where
 nd:l.Nodup
 up: ∀x∈l,CG.Reach src i x
 st: ∀j∈CG.row src i,j∈l
def Flw (src:CG.Src) (l:List Nat) (k:Nat):Prop:= ∀t,t < k-> ∀x,l[t]?=some x-> ∀j∈CG.row src x,j∈l
theorem Fnd.add {src:CG.Src}{i:Nat}{l:List Nat}(h:Fnd src i l){x j:Nat}(hx:x∈l)(hj:j∈CG.row src x)(hn:j∉l):Fnd src i (l++[j]):=by
 refine⟨nodup_append.mpr ⟨h.nd,nodup_cons.mpr ⟨not_mem_nil,nodup_nil⟩,fun a ha b hb e=>hn (by rw[<-mem_singleton.mp hb,<-e];exact ha)⟩,fun y hy=>?_,fun y hy=>mem_append_left _ (h.st y hy)⟩;rcases mem_append.mp hy with hy | hy
 .exact h.up y hy
 .rw[mem_singleton.mp hy];exact (h.up x hx).snoc hj
theorem kE {l:List Nat}{n:Nat}(nd:l.Nodup)(h: ∀x∈l,x < n):l.length<=n:=by
 have:=(qI nd).length_le (n:=n) fun x hx=>h x (qJ.mp hx)
 rwa [(kj l).length_eq] at this
theorem Fnd.len {src:CG.Src}(wf:CG.Wf src){i:Nat}{l:List Nat}(h:Fnd src i l):l.length<=src.length:=kE h.nd fun x hx=>((h.up x hx).lt wf).2
theorem Fnd.done {src:CG.Src}(wf:CG.Wf src){i:Nat}{l:List Nat}(h:Fnd src i l)(hf:Flw src l l.length):(zs (Vanbkb.above (CG.gp src) i)).Perm (zs l):=by
 refine List.Perm.map _ ((List.perm_ext_iff_of_nodup (ju wf i).nodup h.nd).mpr fun x=>?_);rw[cO wf];refine⟨fun r=>CG.Reach.closed (l:=fun x=>x∈l) h.st (fun a ha b hb=>?_) r,h.up x⟩;obtain⟨t,ht,e⟩:=mem_iff_getElem.mp ha;exact hf t ht a (by rw[List.getElem?_eq_getElem ht,e]) b hb
theorem yI (l:List Nat)(j:Nat):(zs (l++[j])).map D.int=(zs l).map D.int++[D.int (j:Nat)]:=by
 unfold zs;rw[map_append,map_append];rfl
abbrev kI (src:CG.Src):D:=.lst (src.map aD)
theorem T5 {src:CG.Src}{i:Nat}(h:i < src.length):(src.map aD)[((i:Nat):Int).toNat]?=some (aD (CG.row src i)):=by
 rw[Int.toNat_natCast,List.getElem?_map,List.getElem?_eq_getElem h];unfold CG.row;rw[List.getD_eq_getElem?_getD,List.getElem?_eq_getElem h];rfl
theorem kJ {ι:Type}{F:ι->Cx}{ρ:Rho}{γ:Gm}{a b:Expr}{pos:Pos}{src:CG.Src}{i:Nat}(h:i < src.length)(ha:DP F a ρ γ (kI src))(hb:DP F b ρ γ (.int (i:Nat)))(hs:fL b:=by intro _ _;rfl):DP F (.Subscript a b pos) ρ γ (aD (CG.row src i)):=gG (YP.list ha) hb (by omega) (T5 h) hs
theorem T6 {src:CG.Src}(wf:CG.Wf src){i:Nat}(_:i < src.length):CG.Asc (CG.row src i)/\ ∀x∈CG.row src i,x < src.length:=⟨wf.asc i,wf.lt i⟩
def yJ:Fsp:=bA (fun a:CG.Src×Nat=>CG.Wf a.1/\a.1.length<=12/\a.2 < a.1.length) (fun a=>[kI a.1,.int (a.2:Nat)]) fun a=>(zs (Vanbkb.above (CG.gp a.1) a.2)).map .int
def fol (ρ:Rho) (k:Nat):Nat:=match ρ[k]? with
 | some (some (.d (.int f)))=>f.toNat
 | _=>0
theorem T7 (Fu:Fun K "reached_places" "reached_places" vR f fd)(T:Txt K mg C):au Pg w K mg base CX0 1 f fd ["links","start"] (spF yJ):=by
 have sc:ao ["links","start","found","followed","current","place"] ["links","start"] (ak vR):=#[sC];wtm_at "cg0"
 .obtain⟨⟨src,i⟩,⟨wf,hlen,hi⟩,rfl,rfl,h⟩:=h;replace wf:CG.Wf src:=wf;replace hlen:src.length<=12:=hlen;replace hi:i < src.length:=hi;replace h: ∀ad,P (.pt ad) [(ad,.lst ((zs (Vanbkb.above (CG.gp src) i)).map .int))]:=h;show DB _ _ [some (.d (kI src)),some (.d (.int (i:Nat))),none,none,none,none] [] _;refine aj (iQ (k:=2) (l:=(zs (CG.row src i)).map D.int) (Py (YP.list (kJ hi #[dp] #[dp])) #[rR] #[blt]) (fun fa=>?_) #[nd] #[rR] #[vis] #[rR] #[vis]);refine aj (bj (k:=3) (x:=.int 0) dm ?_ #[nd] #[rR] #[vis] #[rR] #[vis]);refine aj (ql (fun ρ γ=> ∃l k o4 o5,ρ=[some (.d (kI src)),some (.d (.int (i:Nat))),some (.pt fa),some (.d (.int (k:Nat))),o4,o5]/\γ=[(fa,.lst ((zs l).map .int))]/\Fnd src i l/\Flw src l k/\k<=l.length) (fun ρ _=>src.length - fol ρ 3) #[own] ?w0 ?ws)
  case w0 =>
   exact⟨CG.row src i,0,none,none,rfl,rfl,⟨(T6 wf hi).1.nodup,fun x hx=>.of_edge hx,fun j hj=>hj⟩,fun t ht=>absurd ht (Nat.not_lt_zero t),Nat.zero_le _⟩
  case ws =>
   rintro ρ γ ⟨l,k,o4,o5,rfl,rfl,hF,hW,hk⟩;have hll:=hF.len wf;refine⟨decide ((k:Int) < ((((zs l).map D.int).length:Nat):Int)),by wtm_at "dt",fun hb=>?_,fun hb=>?_⟩
   .rw[ik,decide_eq_true_eq] at hb
    have hkl:k < l.length:=by omega
    obtain⟨x,hx⟩: ∃x,l[k]?=some x:=⟨_,List.getElem?_eq_getElem hkl⟩
    have hxm:x∈l:=mem_of_getElem? hx;have hxl:x < src.length:=((hF.up x hxm).lt wf).2;refine aj (bj (k:=4) (x:=.int (x:Nat)) (gG (k:=(k:Int)) (l:=(zs l).map D.int) #[dl] #[dp] (by omega) (by rw[Int.toNat_natCast,List.getElem?_map,List.getElem?_map,hx];rfl)) ?_ #[nd] #[rR] #[vis] #[rR] #[vis]);refine aj (lN (items:=CG.row src x) (g:=fun j=>.int (j:Nat)) (vs:=[5]) (fun t ρ γ=> ∃l2 o5,ρ=[some (.d (kI src)),some (.d (.int (i:Nat))),some (.pt fa),some (.d (.int (k:Nat))),some (.d (.int (x:Nat))),o5]/\γ=[(fa,.lst ((zs l2).map .int))]/\Fnd src i l2/\(∃more,l2=l++more)/\ ∀j∈(CG.row src x).take t,j∈l2) #[own] #[rR] ?i ?f0 (fun t j ρ γ hj hP=>lM (k:=5) (by decide) #[nd] #[rR] #[vis] #[vis]) ?b ?d)
    case i =>
     have e:((CG.row src x).map fun j=>D.int (j:Nat))=(zs (CG.row src x)).map D.int:=by rw[List.map_map];rfl
     rw[e];exact mZ (kJ hxl #[dp] #[dp])
    case f0=>exact⟨l,o5,rfl,rfl,hF,⟨[],(append_nil l).symm⟩,fun j hj=>by rw[take_zero] at hj;cases hj⟩
    case b =>
     rintro t j ρ γ hj ⟨l2,o5,rfl,rfl,hF2,⟨more,rfl⟩,ht⟩;have hjm:j∈CG.row src x:=mem_of_getElem? hj;have hl2:=hF2.len wf;refine aj (aZ #[dt] (fun hb=>?_) (fun hb=>?_))
     all_goals rw[dO] at hb
     .have hn:j∉l++more:=by simpa using hb
      refine aj (d9 (j0 #[ptr] #[mem] #[dp] (by rw[length_map,length_map,sizeLine_eq];omega) ?_));rw[bT];refine aO (aO ⟨(l++more)++[j],_,rfl,?_,hF2.add (mem_append_left _ hxm) hjm hn,⟨more++[j],List.append_assoc ..⟩,fun y hy=>?_⟩)
      .rw[yI]
      .rw[jq hj] at hy;rcases mem_append.mp hy with hy | hy
       .exact mem_append_left _ (ht y hy)
       .exact mem_append_right _ hy
     .have hn:j∈l++more:=contains_iff_mem.mp (by simpa only[Bool.not_eq_false'] using hb);refine aO (aO ⟨l++more,_,rfl,rfl,hF2,⟨more,rfl⟩,fun y hy=>?_⟩);rw[jq hj] at hy;rcases mem_append.mp hy with hy | hy
      .exact ht y hy
      .rw[mem_singleton.mp hy];exact hn
    case d =>
     rintro ρ γ ⟨l2,o5,rfl,rfl,hF2,⟨more,rfl⟩,ht⟩;rw[take_length] at ht;refine aj (Dl (k:=3) rfl #[dp] ?_ #[nd] #[rR] #[vis] #[vis]);refine aO ⟨⟨l++more,k+1,_,_,rfl,rfl,hF2,?_,by rw[length_append];omega⟩,?_⟩
     .intro t ht2 y hy j hj;rw[List.getElem?_append_left (by omega)] at hy;rcases Nat.lt_succ_iff_lt_or_eq.mp ht2 with h2 | h2
      .exact mem_append_left _ (hW t h2 y hy j hj)
      .subst h2;rw[hx] at hy;cases hy;exact ht j hj
     .show src.length - ((k:Int)+1).toNat < src.length - ((k:Nat):Int).toNat;omega
   .rw[ik,decide_eq_false_iff_not] at hb
    have hk2:k=l.length:=by omega
    subst hk2;refine j5 (k:=2) (ad:=fa) (l:=(zs l).map D.int) rfl (List.Perm.refl _) ?_;exact aj (aF (ur (ns:=zs l) (out:=zs (Vanbkb.above (CG.gp src) i)) #[dl] (by rw[length_map];omega) (hF.done wf hW) (nQ (ju wf i).le) #[rR] #[blt]) fun a=>h a)
end
end
section
theorem Hk {ι:Type}{F:ι->Cx}{ρ:Rho}{γ:Gm}{P:Po}{st:Stmt}{rest:List Stmt}(Mid:Rho->Gm->Prop)(h1:DS F st ρ γ { nx:=Mid,rt:=P.rt,bk:=P.bk,ct:=P.ct })(h2: ∀ρ' γ',Mid ρ' γ'->DB F rest ρ' γ' P):DB F (st::rest) ρ γ P:=aj (YS.imp h1 h2 (fun _ _ h=>h) (fun _ _ h=>h) (fun _ _ h=>h))
theorem my {x y:D}:[x,y].length<=sizeLine:=by rw[sizeLine_eq];show 2<=16777216;decide
section
abbrev T8 (q:Nat×Nat):D:=.tup [.int (q.1:Nat),.int (q.2:Nat)]
abbrev cQ (l:List (Nat×Nat)):List D:=l.map T8
def gn (cs:List Cell) (c:Cell) (onc:Bool):List (Nat×Nat) :=
 (if c.broken=true then [(1,0)] else [])++((c.makes.filter fun x=>decide (2<=(CG.pmk cs x).length)).map fun x=>(2,x))++(if onc=true then [(3,0)] else []) ++
  ((c.reads.filter fun x=>(CG.pmk cs x).isEmpty).map fun x=>(4,x))++((c.reads.filter fun x=>decide (2<=(CG.pmk cs x).length)).map fun x=>(5,x))
def Hl (C:Cs):Fsp:=bA (fun a:List Cell×Cell×Bool=>Small a.2.1) (fun a=>[aM C a.2.1,jc a.1,.bl a.2.2]) fun a=>cQ (gn a.1 a.2.1 a.2.2)
theorem Hm {cs:List Cell}{c:Cell}{onc:Bool}(h:Small c):(gn cs c onc).length<=98:=by
 unfold gn;have h1:=h.1.1;have h2:=h.1.2;have:=length_filter_le (fun x=>decide (2<=(CG.pmk cs x).length)) c.makes;have:=length_filter_le (fun x=>decide (2<=(CG.pmk cs x).length)) c.reads;have:=length_filter_le (fun x=>(CG.pmk cs x).isEmpty) c.reads
 have e1:(if c.broken=true then [((1:Nat),(0:Nat))] else []).length<=1:=by split<;>decide
 have e2:(if onc=true then [((3:Nat),(0:Nat))] else []).length<=1:=by split<;>decide
 simp only[length_append,length_map];omega
theorem yK {ι:Type}{F:ι->Cx}{ρ:Rho}{γ:Gm}{e:Expr}{l:List Nat}{k:Nat}{p:Nat->Bool}(h:DN F e ρ γ ((l.filter p).map fun x=>.tup [.int (k:Nat),.int (x:Nat)])):DN F e ρ γ (cQ ((l.filter p).map fun x=>(k,x))):=by
 have e:cQ ((l.filter p).map fun x=>(k,x))=(l.filter p).map fun x=>.tup [.int (k:Nat),.int (x:Nat)]:=by
  unfold cQ;rw[List.map_map];rfl
 rw[e];exact h
theorem T9 (Fu:Fun K "own_troubles_of" "own_troubles_of" vU f fd)(T:Txt K mg C):au Pg w K mg base CX0 1 f fd ["cell","makers","on_circle"] (spF (Hl C)):=by
 have sc:ao ["cell","makers","on_circle","troubles","name"] ["cell","makers","on_circle"] (ak vU):=#[sC];wtm_at "cg0"
 .obtain⟨⟨cs,c,onc⟩,hsm,rfl,rfl,h⟩:=h;replace hsm:Small c:=hsm;replace h: ∀ad,P (.pt ad) [(ad,.lst (cQ (gn cs c onc)))]:=h;have hol:=Hm (cs:=cs) (onc:=onc) hsm;show DB _ _ [some (.d (aM C c)),some (.d (jc cs)),some (.d (.bl onc)),none,none] [] _;generalize h1:(if c.broken=true then [((1:Nat),(0:Nat))] else [])=t1;generalize h2:((c.makes.filter fun x=>decide (2<=(CG.pmk cs x).length)).map fun x=>((2:Nat),x))=t2;generalize h3:(if onc=true then [((3:Nat),(0:Nat))] else [])=t3;generalize h4:((c.reads.filter fun x=>(CG.pmk cs x).isEmpty).map fun x=>((4:Nat),x))=t4;generalize h5:((c.reads.filter fun x=>decide (2<=(CG.pmk cs x).length)).map fun x=>((5:Nat),x))=t5
  have ho:gn cs c onc=t1++t2++t3++t4++t5:=by rw[<-h1,<-h2,<-h3,<-h4,<-h5];rfl
  rw[ho] at h hol;simp only[length_append] at hol
  have cz: ∀l:List Nat,l.length<=32->l.length<=sizeLine:=fun l h=>by rw[sizeLine_eq];omega
  refine aj (iQ (k:=3) (l:=[]) (aY aW) (fun ta=>?_) #[nd] #[rR] #[vis] #[rR] #[vis]);refine Hk (fun ρ γ=>ρ=[some (.d (aM C c)),some (.d (jc cs)),some (.d (.bl onc)),some (.pt ta),none]/\γ=[(ta,.lst (cQ t1))]) ?s1 ?_
  case s1 =>
   refine aZ #[dt] (fun hb=>?_) (fun hb=>?_)
   .have hbr:c.broken=true:=by
     cases q:c.broken with
     | true=>rfl
     | false=>rw[q] at hb;exact absurd hb (by decide)
    rw[if_pos hbr] at h1;refine aj (d9 (j0 (x:=.tup [.int 1,.int 0]) #[ptr] #[mem] (jX #[da] my) (by rw[sizeLine_eq];decide) ?_));rw[bT];exact aO ⟨rfl,by rw[<-h1];rfl⟩
   .have hbr: ¬c.broken=true:=fun q=>by rw[q] at hb;exact absurd hb (by decide)
    rw[if_neg hbr] at h1;exact aO ⟨rfl,by rw[<-h1];rfl⟩
  rintro ρ γ ⟨rfl,rfl⟩;refine aj (d9 (lO (m:=cQ t2) #[ptr] #[mem] (YN.list ?lc) (by rw[length_map,length_map,sizeLine_eq];omega) ?_))
  case lc =>
   rw[<-h2];refine yK ?_;refine' dD (items:=c.makes) (g:=fun x=>D.int (x:Nat)) (own:=[("name",4)]) ?c ?n ?i ?ok ?g ?t ?e (cz _ hsm.1.1);wtm_at "lc"
   case i =>
    have e:(c.makes.map fun x=>D.int (x:Nat))=(zs c.makes).map D.int:=by rw[List.map_map];rfl
    rw[e];exact bC #[dl]
   case t =>
    intro x hx
    have e:decide (2<=(CG.pmk cs x).length)=decide ((1:Int) < ((((zs (CG.pmk cs x)).map D.int).length:Nat):Int)):=by
     rw[ik];exact decide_eq_decide.mpr (by omega)
    rw[e];exact cN (pX (iM (YP.list (nU (hsm.2.1 x hx) #[dp] #[dp])) #[rR] #[blt]) dm)
   case e=>exact fun x hx _=>jX #[da] my
  rw[bT,<-map_append];refine Hk (fun ρ γ=>ρ=[some (.d (aM C c)),some (.d (jc cs)),some (.d (.bl onc)),some (.pt ta),none]/\γ=[(ta,.lst (cQ (t1++t2++t3)))]) ?s1 ?_
  case s1 =>
   refine aZ (t:=onc) (dN #[var]) (fun hb=>?_) (fun hb=>?_)
   .rw[if_pos hb] at h3;refine aj (d9 (j0 (x:=.tup [.int 3,.int 0]) #[ptr] #[mem] (jX #[da] my) (by rw[length_map,length_append,sizeLine_eq];omega) ?_));rw[bT];exact aO ⟨rfl,by rw[<-h3,cQ,map_append (l₁:=t1++t2)];rfl⟩
   .rw[if_neg (by rw[hb];decide)] at h3;exact aO ⟨rfl,by rw[<-h3,append_nil]⟩
  rintro ρ γ ⟨rfl,rfl⟩;refine aj (d9 (lO (m:=cQ t4) #[ptr] #[mem] (YN.list ?lc) (by simp only[length_map,length_append];rw[sizeLine_eq];omega) ?_))
  case lc =>
   rw[<-h4];refine yK ?_;refine' dD (items:=c.reads) (g:=fun x=>D.int (x:Nat)) (own:=[("name",4)]) ?c ?n ?i ?ok ?g ?t ?e (cz _ hsm.1.2);wtm_at "lc"
   case i =>
    have e:(c.reads.map fun x=>D.int (x:Nat))=(zs c.reads).map D.int:=by rw[List.map_map];rfl
    rw[e];exact bC #[dl]
   case t =>
    intro x hx
    have e:(CG.pmk cs x).isEmpty=decide (((((zs (CG.pmk cs x)).map D.int).length:Nat):Int)=0):=by
     rw[ik]
     cases CG.pmk cs x with
     | nil=>rfl
     | cons a l=>exact (decide_eq_false (by rw[length_cons];omega)).symm
    rw[e];exact cN (pY (iM (YP.list (nU (hsm.2.2 x hx) #[dp] #[dp])) #[rR] #[blt]) dm)
   case e=>exact fun x hx _=>jX #[da] my
  rw[bT,<-map_append];refine aj (d9 (lO (m:=cQ t5) #[ptr] #[mem] (YN.list ?lc) (by simp only[length_map,length_append];rw[sizeLine_eq];omega) ?_))
  case lc =>
   rw[<-h5];refine yK ?_;refine' dD (items:=c.reads) (g:=fun x=>D.int (x:Nat)) (own:=[("name",4)]) ?c ?n ?i ?ok ?g ?t ?e (cz _ hsm.1.2);wtm_at "lc"
   case i =>
    have e:(c.reads.map fun x=>D.int (x:Nat))=(zs c.reads).map D.int:=by rw[List.map_map];rfl
    rw[e];exact bC #[dl]
   case t =>
    intro x hx
    have e:decide (2<=(CG.pmk cs x).length)=decide ((1:Int) < ((((zs (CG.pmk cs x)).map D.int).length:Nat):Int)):=by
     rw[ik];exact decide_eq_decide.mpr (by omega)
    rw[e];exact cN (pX (iM (YP.list (nU (hsm.2.2 x hx) #[dp] #[dp])) #[rR] #[blt]) dm)
   case e=>exact fun x hx _=>jX #[da] my
  rw[bT,<-map_append];exact aj (bN (YR.gen #[ptr] (h ta)))
end
end
section
section
abbrev jG (n:Nat) (f:Nat->D):D:=.lst ((List.range n).map f)
theorem Ua {n i:Nat}{f:Nat->D}(h:i < n):((List.range n).map f)[((i:Nat):Int).toNat]?=some (f i):=by
 rw[Int.toNat_natCast,List.getElem?_map,List.getElem?_range h];rfl
theorem yL {ι:Type}{F:ι->Cx}{ρ:Rho}{γ:Gm}{a b:Expr}{pos:Pos}{n i:Nat}{f:Nat->D}(h:i < n)(ha:DP F a ρ γ (jG n f))(hb:DP F b ρ γ (.int (i:Nat)))(hs:fL b:=by intro _ _;rfl):DP F (.Subscript a b pos) ρ γ (f i):=gG (YP.list ha) hb (by omega) (Ua h) hs
def stM (own:Nat->List (Nat×Nat)) (abv:Nat->List Nat) (i:Nat):Nat:=match own i with
 | q::_=>q.1
 | []=>if ((abv i).any fun u=>decide (0 < (own u).length))=true then 6 else 0
abbrev nW (n:Nat) (own:Nat->List (Nat×Nat)):D:=jG n fun i=>.lst (cQ (own i))
abbrev nY (n:Nat) (abv:Nat->List Nat):D:=jG n fun i=>aD (abv i)
section
variable {ι:Type}{F:ι->Cx}{ρ:Rho}{γ:Gm}{a b:Expr}{pos:Pos}{n i:Nat}
theorem rn {own:Nat->List (Nat×Nat)}(h:i < n)(ha:DP F a ρ γ (nW n own))(hb:DP F b ρ γ (.int (i:Nat)))(hs:fL b:=by intro _ _;rfl):DP F (.Subscript a b pos) ρ γ (.lst (cQ (own i))):=yL (f:=fun i=>.lst (cQ (own i))) h ha hb hs
theorem kO {abv:Nat->List Nat}(h:i < n)(ha:DP F a ρ γ (nY n abv))(hb:DP F b ρ γ (.int (i:Nat)))(hs:fL b:=by intro _ _;rfl):DP F (.Subscript a b pos) ρ γ (aD (abv i)):=yL (f:=fun i=>aD (abv i)) h ha hb hs
theorem yM {st:Nat->Nat}(h:i < n)(ha:DP F a ρ γ (jG n fun i=>.int (st i:Nat)))(hb:DP F b ρ γ (.int (i:Nat)))(hs:fL b:=by intro _ _;rfl):DP F (.Subscript a b pos) ρ γ (.int (st i:Nat)):=yL (f:=fun i=>.int (st i:Nat)) h ha hb hs
end
def Hn:Fsp:=dR (fun a:Nat×Nat×(Nat->List (Nat×Nat))×(Nat->List Nat)=>(a.1 < a.2.1/\a.2.1<=12)/\(∀u∈a.2.2.2 a.1,u < a.2.1)/\(a.2.2.2 a.1).length<=12) (fun a=>[.int (a.1:Nat),nW a.2.1 a.2.2.1,nY a.2.1 a.2.2.2]) fun a=>.int (stM a.2.2.1 a.2.2.2 a.1:Nat)
theorem Ub (Fu:Fun K "state_of" "state_of" vV f fd)(T:Txt K mg C):au Pg w K mg base CX0 1 f fd ["place","own_troubles","above"] (spF Hn):=by
 have sc:ao ["place","own_troubles","above","upper"] ["place","own_troubles","above"] (ak vV):=#[sC];wtm_at "cg0"
 .obtain⟨⟨i,n,own,abv⟩,⟨⟨hi,hn⟩,hu,hul⟩,rfl,rfl,h⟩:=h;replace hi:i < n:=hi;replace hn:n<=12:=hn;replace hu: ∀u∈abv i,u < n:=hu;replace hul:(abv i).length<=12:=hul;replace h:P (.d (.int (stM own abv i:Nat))) []:=h;show DB _ _ [some (.d (.int (i:Nat))),some (.d (nW n own)),some (.d (nY n abv)),none] [] _;unfold stM at h;refine aj (aZ (pX (iM (YP.list (rn (own:=own) hi #[dp] #[dp])) #[rR] #[blt]) dm) (fun hb=>?_) (fun hb=>?_))
  .cases ho:own i with
   | nil=>rw[ho] at hb;exact absurd hb (by decide)
   | cons q l =>
    rw[ho] at h;refine aj (bH (Pr (l:=[.int (q.1:Nat),.int (q.2:Nat)]) (gG (l:=cQ (own i)) (YP.list (rn hi #[dp] #[dp])) dm (by decide) (by rw[ho];rfl)) dm (by decide) rfl) h)
  .have ho:own i=[]:=by
    cases ho:own i with
    | nil=>rfl
    | cons q l=>rw[ho] at hb;exact absurd (of_decide_eq_false hb) (by rw[length_map,length_cons];omega)
   rw[ho] at h;replace h:P (.d (.int ((if ((abv i).any fun u=>decide (0 < (own u).length))=true then 6 else 0:Nat):Int))) []:=h;refine aO (aj (aZ (dN (qg (bs:=(abv i).map fun u=>decide (0 < (own u).length)) (YN.list ?lc) #[rR] #[rR] #[blt])) (fun hb2=>?_) (fun hb2=>?_)))
   case lc =>
    rw[List.map_map];refine' cP (items:=abv i) (g:=fun x=>D.int (x:Nat)) (own:=[("upper",3)]) ?c ?n ?i ?ok ?g ?e ?z;wtm_at "lc"
    case i =>
     have e:((abv i).map fun x=>D.int (x:Nat))=(zs (abv i)).map D.int:=by rw[List.map_map];rfl
     rw[e];exact bC (YP.list (kO hi #[dp] #[dp]))
    case e =>
     intro u hx
     have e:decide (0 < (own u).length)=decide ((0:Int) < (((cQ (own u)).length:Nat):Int)):=by
      rw[length_map];exact decide_eq_decide.mpr (by omega)
     show DP _ _ _ _ (.bl (decide (0 < (own u).length)));rw[e];exact Cr (iM (YP.list (rn (hu u hx) #[dp] #[dp])) #[rR] #[blt]) dm
    case z=>rw[sizeLine_eq];omega
   all_goals rw[qY] at hb2
   .rw[itT hb2] at h;exact aj (bH #[dp] h)
   .rw[itF hb2] at h;exact aO (aj (bH #[dp] h))
end
end
section
section
def Ho:Fsp:=dR (fun a:List Nat×List Nat=>a.1.length<=12) (fun a=>[aD a.1,aD a.2]) fun a=>.bl (a.1.all fun m=>a.2.contains m)
theorem bU (l:List Nat):(l.map fun x=>D.int (x:Nat))=(zs l).map D.int:=by rw[List.map_map];rfl
theorem Uc (Fu:Fun K "all_taken" "all_taken" v6 f fd)(T:Txt K mg C):au Pg w K mg base CX0 1 f fd ["places","taken"] (spF Ho):=by
 have sc:ao ["places","taken","place"] ["places","taken"] (ak v6):=#[sC];wtm_at "cg0"
 .obtain⟨⟨ps,tk⟩,hlen,rfl,rfl,h⟩:=h;replace hlen:ps.length<=12:=hlen;show DB _ _ [some (.d (aD ps)),some (.d (aD tk)),none] [] _;refine aj (bH (CK (bs:=ps.map fun m=>tk.contains m) (YN.list ?lc) #[rR] #[rR] #[blt]) ?_)
  case lc =>
   rw[List.map_map];refine' cP (items:=ps) (g:=fun x=>D.int (x:Nat)) (own:=[("place",2)]) ?c ?n ?i ?ok ?g ?e ?z;wtm_at "lc"
   case i =>
    rw[bU];exact bC #[dl]
   case e =>
    intro x _;show DP _ _ _ _ (.bl (tk.contains x));rw[<-dO];wtm_at "dp"
   case z=>rw[sizeLine_eq];omega
  rw[Gu];exact h
def cJ (cs:List Cell) (i:Nat):List (Nat×Nat):=match cs[i]? with
 | some c=>gn cs c (Vanbkb.circled (CG.gp (aq cs)) i)
 | none=>[]
abbrev bw (cs:List Cell) (i:Nat):List Nat:=Vanbkb.above (CG.gp (aq cs)) i
def Hq (cs:List Cell):List D:=[jc cs,kI (aq cs),nY cs.length (bw cs),nW cs.length (cJ cs),jG cs.length fun i=>.int (aV cs i:Nat)]
abbrev bB (C:Cs) (cs:List Cell):D:=.obj C.gr qU (Hq cs)
theorem rA (cs:List Cell)(i:Nat):(bw cs i).length<=cs.length:=(ju (bR cs) i).length_le fun x hx=>by
 have:=((cO (bR cs)).mp hx).lt (bR cs);rw[bI] at this;exact this.2
theorem Hr {cs:List Cell}{i u:Nat}(h:u∈bw cs i):u < cs.length:=by
 have:=((cO (bR cs)).mp h).lt (bR cs);rw[bI] at this;exact this.2
theorem jH {cs:List Cell}{i u:Nat}(h:u∈CG.row (aq cs) i):u < cs.length:=by
 have:=(bR cs).lt i u h
 rwa [bI] at this
theorem mz (cs:List Cell)(i:Nat):(CG.row (aq cs) i).length<=cs.length:=((bR cs).asc i).length_le fun x hx=>jH hx
def jd (cs:List Cell) (i:Nat):List Nat:=(CG.row (aq cs) i).filter fun s=> !decide ((s:Int)=(i:Int))&& !decide ((aV cs s:Int)=0)
def Hs (C:Cs):Fsp:=bA (fun a:List Cell×Nat=>a.1.length<=12/\a.2 < a.1.length) (fun a=>[bB C a.1,.int (a.2:Nat)]) fun a=>(zs (jd a.1 a.2)).map .int
theorem Ud (Fu:Fun K "unclear_sources" "unclear_sources" vW f fd)(T:Txt K mg C):au Pg w K mg base CX0 1 f fd ["graph","place"] (spF (Hs C)):=by
 have sc:ao ["graph","place","source"] ["graph","place"] (ak vW):=#[sC];wtm_at "cg0"
 .obtain⟨⟨cs,i⟩,⟨hlen,hi⟩,rfl,rfl,h⟩:=h;replace hlen:cs.length<=12:=hlen;replace hi:i < cs.length:=hi
  have hip:i < (aq cs).length:=by rw[bI];exact hi
  replace h: ∀ad,P (.pt ad) [(ad,.lst ((zs (jd cs i)).map .int))]:=h;show DB _ _ [some (.d (bB C cs)),some (.d (.int (i:Nat))),none] [] _;unfold jd at h;refine' aj (aF (dD (items:=CG.row (aq cs) i) (g:=fun x=>D.int (x:Nat)) (f:=fun x=>D.int (x:Nat)) (own:=[("source",2)]) ?c ?n ?i ?ok ?g ?t ?e ?z) fun ad=>?_);wtm_at "lc"
  case i =>
   rw[bU];exact bC (YP.list (kJ hip #[dp] #[dp]))
  case t =>
   intro s hs;exact cN (t_w (w_and #[dt] fun _=>Cw (pZ (yM (st:=aV cs) (jH hs) #[dp] #[dp]) #[dp])))
  case e=>exact fun s _ _=>by wtm_at "dp"
  case z=>rw[sizeLine_eq];have:=mz cs i;omega
  rw[bU];exact h ad
abbrev il (cs:List Cell) (wd:Nat):List (List Nat):=Vanbkb.rounds (CG.gp (aq cs)) (aX cs) wd cs.length []
structure Wav (cs:List Cell) (wd:Nat) (ws:List (List Nat)) (done:List Nat):Prop where
 cl:jx (aq cs) done
 go:ws++Vanbkb.rounds (CG.gp (aq cs)) (aX cs) wd cs.length done=il cs wd
 few:done.length+(CG.wait (aX cs) done).length<=cs.length
 wl:ws.length<=done.length
abbrev dW (cs:List Cell) (done:List Nat):List Nat:=Vanbkb.ready (CG.gp (aq cs)) (aX cs) done
theorem Wav.start (cs:List Cell)(wd:Nat):Wav cs wd [] []:=⟨RP,rfl,by rw[u0,length_nil,Nat.zero_add];exact u9 cs,Nat.le_refl _⟩
theorem Wav.stop {cs:List Cell}{wd:Nat}{ws:List (List Nat)}{done:List Nat}(h:Wav cs wd ws done)(hn:CG.wait (aX cs) done=[]):il cs wd=ws:=by
 have:=h.go;rw[nJ hn,append_nil] at this;exact this.symm
theorem Wav.next {cs:List Cell}{wd:Nat}(hw:1<=wd){ws:List (List Nat)}{done:List Nat}(h:Wav cs wd ws done)(hn:CG.wait (aX cs) done≠[]):Wav cs wd (ws++[(dW cs done).take wd]) (done++(dW cs done).take wd)/\(CG.wait (aX cs) (done++(dW cs done).take wd)).length < (CG.wait (aX cs) done).length:=by
 have wf:=bR cs;have ok:=qM cs;have nd:=(u6 cs).nodup;obtain⟨h1,h2⟩:=Gd wf ok nd hw hn;have h3:=vm nd (r:=(dW cs done).take wd) (done:=done) (List.Nodup.sublist (take_sublist ..) (FZ nd)) fun x hx=>vh x (mem_of_mem_take hx);have h4:=h.few;replace h1:(CG.wait (aX cs) (done++(dW cs done).take wd)).length < (CG.wait (aX cs) done).length:=h1;refine⟨⟨h2 h.cl,?_,by rw[length_append];omega,?_⟩,h1⟩
 .rw[<-h.go,List.append_assoc];congr 1
  obtain⟨k,hk⟩: ∃k,cs.length=k+1:=⟨cs.length - 1,by omega⟩
  rw[hk,(qQ (k:=k) wf ok hw hn).2];show (dW cs done).take wd::_=(dW cs done).take wd::_;congr 1;exact R5 wf ok nd hw _ _ _ (by omega) (by omega)
 .have h5:0 < ((dW cs done).take wd).length:=by omega
  have h6:=h.wl;rw[length_append,length_append,length_singleton];omega
def yN (C:Cs):Fsp:=bA (fun a:List Cell×Nat=>a.1.length<=12/\1<=a.2) (fun a=>[bB C a.1,.int (a.2:Nat)]) fun a=>(il a.1 a.2).map aD
theorem Ue (l:List Nat)(n:Nat):((zs l).map D.int).take ((n:Nat):Int).toNat=(zs (l.take n)).map D.int:=by
 unfold zs;rw[Int.toNat_natCast,<-map_take,<-map_take]
theorem Ug (cs:List Cell):(((List.range cs.length).map fun i=>D.int (aV cs i:Nat)).zipIdx.map fun q=>D.tup [.int (q.2:Nat),q.1])=(List.range cs.length).map fun i=>D.tup [.int (i:Nat),.int (aV cs i:Nat)]:=by
 apply ext_getElem?;intro k;rw[List.getElem?_map,List.getElem?_map,List.getElem?_zipIdx,List.getElem?_map,Nat.zero_add]
 by_cases hk:k < cs.length
 .rw[List.getElem?_range hk];rfl
 .rw[List.getElem?_eq_none (by rw[length_range];omega)];rfl
theorem Uh (ok done r:List Nat):(CG.wait ok done).filter (fun (n:Nat)=> !(zs r).contains (n:Int))=CG.wait ok (done++r):=by
 rw[Fw];unfold CG.wait
 exact filter_congr fun n _=>by rw[dO]
theorem Ui (Fu:Fun K "waves_of" "waves_of" v7 f fd)(T:Txt K mg C)(f1:FnAt Pg w K mg base "all_taken" ["places","taken"] 1 Ho):au Pg w K mg base CX0 2 f fd ["graph","width"] (spF (yN C)):=by
 have sc:ao ["graph","width","waves","taken","waiting","ready","wave","place","state"] ["graph","width"] (ak v7):=#[sC];wtm_at "cg0"
 .obtain⟨⟨cs,wd⟩,⟨hlen,hwd⟩,rfl,rfl,h⟩:=h;replace hlen:cs.length<=12:=hlen;replace hwd:1<=wd:=hwd;replace h: ∀ad,P (.pt ad) [(ad,.lst ((il cs wd).map aD))]:=h;show DB _ _ [some (.d (bB C cs)),some (.d (.int (wd:Nat))),none,none,none,none,none,none,none] [] _;refine aj (iQ (k:=2) (l:=[]) (aY aW) (fun va=>?_) #[nd] #[rR] #[vis] #[rR] #[vis]);refine aj (iQ (k:=3) (l:=[]) (aY aW) (fun ta=>?_) #[nd] #[rR] #[vis] #[rR] #[vis])
  have ec:(List.range cs.length).filter (fun i=>decide ((aV cs i:Int)=0))=aX cs:=by
   unfold aX;refine filter_congr fun i _=>?_;rw[Bool.eq_iff_iff,decide_eq_true_eq,beq_iff_eq];omega
  refine' aj (jZ (k:=4) (items:=List.range cs.length) (g:=fun i=>D.tup [.int (i:Nat),.int (aV cs i:Nat)]) (c:=fun i=>decide ((aV cs i:Int)=0)) (f:=fun i=>D.int (i:Nat)) (own:=[("place",7),("state",8)]) ?c ?n ?i ?ok ?g ?t ?e ?z #[rR] #[rR] #[rR] ?_);wtm_at "lc"
  case i =>
   rw[<-Ug];exact jo (YP.list #[dp]) #[rR] #[blt]
  case t=>exact fun i _=>cN #[dt]
  case e=>exact fun i _ _=>by wtm_at "dp"
  case z=>rw[length_range,sizeLine_eq];omega
  rw[ec,bU];refine ig fun nd=>?_;have ne:ta≠va:=fun e=>(nodup_cons.mp nd).1 (by rw[e];exact mem_cons_self ..);refine aj (ql (fun ρ γ=> ∃ws done o5 o6 o7 o8,ρ=[some (.d (bB C cs)),some (.d (.int (wd:Nat))),some (.pt va),some (.pt ta),some (.d (.lst ((zs (CG.wait (aX cs) done)).map .int))),o5,o6,o7,o8]/\γ=[(ta,.lst ((zs done).map .int)),(va,.lst (ws.map aD))]/\Wav cs wd ws done) (fun (ρ:Rho) _=>match ρ[4]? with | some (some (SV.d (D.lst v)))=>v.length | _=>0) #[own] ?w0 ?ws)
  case w0=>exact⟨[],[],none,none,none,none,by rw[u0];rfl,rfl,Wav.start cs wd⟩
  case ws =>
   rintro ρ γ ⟨ws,done,o5,o6,o7,o8,rfl,rfl,hR⟩;have hfew:=hR.few;have hwl:=hR.wl;refine⟨decide ((0:Int) < ((((zs (CG.wait (aX cs) done)).map D.int).length:Nat):Int)),by wtm_at "dt",fun hb=>?_,fun hb=>?_⟩
   .rw[ik,decide_eq_true_eq] at hb
    have hn:CG.wait (aX cs) done≠[]:=fun e=>by rw[e] at hb;exact absurd hb (by decide)
    obtain⟨hR2,hless⟩:=hR.next hwd hn
    refine' aj (jZ (k:=5) (items:=CG.wait (aX cs) done) (g:=fun i=>D.int (i:Nat)) (c:=fun n=>(bw cs n).all fun m=>done.contains m) (f:=fun i=>D.int (i:Nat)) (own:=[("place",7)]) ?c2 ?n2 ?i2 ?ok2 ?g2 ?t2 ?e2 ?z2 #[rR] #[rR] #[rR] ?_);wtm_at "lc2"
    case i2 =>
     rw[bU];exact bC #[dl]
    case t2 =>
     intro x hx;have hxl:x < cs.length:=(gJ.mp (jy.mp hx).1).1;refine cN (dN (m8 (bs:=[ta]) (ds:=[aD (bw cs x),aD done]) (fun _=>f1) (Do (kO (abv:=bw cs) hxl #[dp] #[dp]) (Dp #[ptr] #[mem] #[mem] Dm)) trivial (bh (bw cs x,done) (Nat.le_trans (rA cs x) hlen) rfl rfl) #[room] #[rR]))
    case e2=>exact fun x _ _=>by wtm_at "dp"
    case z2=>rw[sizeLine_eq];omega
    rw[bU,<-RT (bR cs) hR.cl]
    have hrl:((dW cs done).take wd).length<=12:=by
     have:=hR2.few;rw[length_append] at this;omega
    refine aj (bj (k:=6) (x:=aD ((dW cs done).take wd)) ?sl ?_ #[nd] #[rR] #[vis] #[rR] #[vis])
    case sl =>
     unfold aD;rw[<-Ue];exact YN.data (QD (l:=(zs (dW cs done)).map D.int) #[dl] #[dp] (by omega))
    refine aj (d9 (j0 (x:=aD ((dW cs done).take wd)) #[ptr] #[mem] #[dp] (by rw[length_map,sizeLine_eq];omega) ?_));rw[fD ne,bT];refine aj (d9 (lO (m:=(zs ((dW cs done).take wd)).map D.int) #[ptr] #[mem] #[dl] (by rw[length_map,length_map,length_map,length_map,sizeLine_eq];omega) ?_));rw[jA,fD (Ne.symm ne),mq];refine' aj (jZ (k:=4) (items:=CG.wait (aX cs) done) (g:=fun i=>D.int (i:Nat)) (c:=fun n=> !(zs ((dW cs done).take wd)).contains (n:Int)) (f:=fun i=>D.int (i:Nat)) (own:=[("place",7)]) ?c3 ?n3 ?i3 ?ok3 ?g3 ?t3 ?e3 ?z3 #[rR] #[rR] #[rR] ?_);wtm_at "lc3"
    case i3 =>
     rw[bU];exact bC #[dl]
    case t3=>exact fun x _=>cN #[dt]
    case e3=>exact fun x _ _=>by wtm_at "dp"
    case z3=>rw[sizeLine_eq];omega
    rw[Uh,bU];refine aO ⟨⟨ws++[(dW cs done).take wd],done++(dW cs done).take wd,_,_,_,_,rfl,?_,hR2⟩,?_⟩
    .unfold zs;rw[map_append,map_append,map_append];rfl
    .show ((zs (CG.wait (aX cs) (done++(dW cs done).take wd))).map D.int).length < ((zs (CG.wait (aX cs) done)).map D.int).length;rw[length_map,length_map,length_map,length_map];exact hless
   .rw[ik,decide_eq_false_iff_not] at hb;have hn:CG.wait (aX cs) done=[]:=length_eq_zero_iff.mp (by omega);rw[hR.stop hn] at h;refine km (List.Perm.refl _) ?_;exact aj (bN (YR.gen #[ptr] (h va)))
theorem Ht (g:Vanbkb.Graph)(ok:List Nat): ∀ (k:Nat) (done:List Nat),(∀r∈Vanbkb.rounds g ok 1 k done,∃x,r=[x])/\Vanbkb.taken g ok k done=done++(Vanbkb.rounds g ok 1 k done).map fun r=>r.headD 0
 | 0,done=>⟨(fun r hr=>by cases hr),(append_nil _).symm⟩
 | k+1,done=>by
  unfold Vanbkb.rounds Vanbkb.taken
  cases h:Vanbkb.ready g ok done with
  | nil=>exact⟨(fun r hr=>by cases hr),(append_nil _).symm⟩
  | cons n l =>
   obtain⟨h1,h2⟩:=Ht g ok k (done++[n]);refine⟨fun r hr=>?_,?_⟩
   .rcases mem_cons.mp hr with e | hr
    .exact⟨n,e⟩
    .exact h1 r hr
   .show Vanbkb.taken g ok k (done++[n])=done++n::(Vanbkb.rounds g ok 1 k (done++[n])).map fun r=>r.headD 0;rw[h2,List.append_assoc];rfl
def nZ (C:Cs):Fsp:=bA (fun cs:List Cell=>cs.length<=12) (fun cs=>[bB C cs]) fun cs=>(zs (bz cs)).map .int
theorem yO: ∀ (g:Vanbkb.Graph) (ok:List Nat) (wd k:Nat) (done:List Nat),(Vanbkb.rounds g ok wd k done).length<=k
 | _,_,_,0,_=>Nat.le_refl _
 | g,ok,wd,k+1,done=>by
  unfold Vanbkb.rounds;split
  .exact Nat.zero_le _
  .exact Nat.succ_le_succ (yO g ok wd k _)
theorem Uj (Fu:Fun K "running_order" "running_order" v8 f fd)(T:Txt K mg C)(f1:FnAt Pg w K mg base "waves_of" ["graph","width"] 2 (yN C)):au Pg w K mg base CX0 3 f fd ["graph"] (spF (nZ C)):=by
 have sc:ao ["graph","wave"] ["graph"] (ak v8):=#[sC];wtm_at "cg0"
 .obtain⟨cs,hlen,rfl,rfl,h⟩:=h;replace hlen:cs.length<=12:=hlen;replace h: ∀ad,P (.pt ad) [(ad,.lst ((zs (bz cs)).map .int))]:=h;show DB _ _ [some (.d (bB C cs)),none] [] _;obtain⟨h1,h2⟩:=Ht (CG.gp (aq cs)) (aX cs) cs.length [];have hl:(il cs 1).length<=cs.length:=yO (CG.gp (aq cs)) (aX cs) 1 cs.length []
  have e:(zs (bz cs)).map D.int=(il cs 1).map fun r=>D.int (r.headD 0:Nat):=by
   unfold bz zs;rw[h2,List.nil_append,List.map_map,List.map_map];rfl
  rw[e] at h;refine' aj (aF (cP (items:=il cs 1) (g:=aD) (f:=fun r=>D.int (r.headD 0:Nat)) (own:=[("wave",1)]) ?c ?n ?i ?ok ?g ?e ?z) h);wtm_at "lc"
  case i=>exact bC (YN.list (bx (fun _=>f1) (aG #[dp] (aG dm aW)) (aP (cs,1) ⟨hlen,Nat.le_refl _⟩ rfl rfl) #[room] #[rR]))
  case e =>
   intro r hr;obtain⟨x,rfl⟩:=h1 r hr;exact gG (l:=(zs [x]).map D.int) #[dl] dm (by decide) rfl
  case z=>rw[sizeLine_eq];omega
end
end
section
theorem any_nil {α:Type}{l:List α}{p:α->Bool}(h:l.filter p=[]):l.any p=false:=by
 rw[any_eq_false];intro x hx hp;have:x∈l.filter p:=mem_filter.mpr ⟨hx,hp⟩;rw[h] at this;cases this
theorem yP {α:Type}{l r:List α}{p:α->Bool}{x:α}(h:l.filter p=x::r):l.any p=true:=by
 have:x∈l.filter p:=by rw[h];exact mem_cons_self ..
 exact any_eq_true.mpr ⟨x,(mem_filter.mp this).1,(mem_filter.mp this).2⟩
theorem Hu (cs:List Cell)(i:Nat):cU cs i=match cJ cs i with | q::_=>q.1 | []=>0:=by
 unfold cU cJ
 cases cs[i]? with
 | none=>rfl
 | some c =>
  simp only;unfold gn
  by_cases h1:c.broken=true
  .rw[if_pos h1,if_pos h1];rfl
  .rw[if_neg h1,if_neg h1]
   cases h2:c.makes.filter fun x=>decide (2<=(CG.pmk cs x).length) with
   | cons x r =>
    rw[if_pos (yP h2)];rfl
   | nil =>
    rw[if_neg (by rw[any_nil h2];decide)]
    by_cases h3:Vanbkb.circled (CG.gp (aq cs)) i=true
    .rw[if_pos h3,if_pos h3];rfl
    .rw[if_neg h3,if_neg h3]
     cases h4:c.reads.filter fun x=>(CG.pmk cs x).isEmpty with
     | cons x r =>
      rw[if_pos (yP h4)];rfl
     | nil =>
      rw[if_neg (by rw[any_nil h4];decide)]
      cases h5:c.reads.filter fun x=>decide (2<=(CG.pmk cs x).length) with
      | cons x r =>
       rw[if_pos (yP h5)];rfl
      | nil =>
       rw[if_neg (by rw[any_nil h5];decide)];rfl
theorem Uk {cs:List Cell}{c:Cell}{onc:Bool}{q:Nat×Nat}(h:q∈gn cs c onc):0 < q.1:=by
 unfold gn at h;simp only[mem_append,mem_map] at h;rcases h with (((h | h) | h) | h) | h
 .split at h
  .rw[mem_singleton.mp h];decide
  .cases h
 .obtain⟨x,_,rfl⟩:=h;exact Nat.succ_pos _
 .split at h
  .rw[mem_singleton.mp h];decide
  .cases h
 .obtain⟨x,_,rfl⟩:=h;exact Nat.succ_pos _
 .obtain⟨x,_,rfl⟩:=h;exact Nat.succ_pos _
theorem Hv {cs:List Cell}{i:Nat}{q:Nat×Nat}(h:q∈cJ cs i):0 < q.1:=by
 unfold cJ at h;split at h
 .exact Uk h
 .cases h
theorem Hw (cs:List Cell)(i:Nat):decide (0 < cU cs i)=decide (0 < (cJ cs i).length):=by
 rw[Hu]
 cases h:cJ cs i with
 | nil=>rfl
 | cons q l =>
  have:=Hv (cs:=cs) (i:=i) (q:=q) (by rw[h];exact mem_cons_self ..);exact decide_eq_decide.mpr ⟨fun _=>by rw[length_cons];omega,fun _=>this⟩
theorem Ul (cs:List Cell)(i:Nat):stM (cJ cs) (bw cs) i=aV cs i:=by
 unfold stM aV
 have e:(fun m=>decide (0 < cU cs m))=fun u=>decide (0 < (cJ cs u).length):=by
  funext m;exact Hw cs m
 rw[e,Hu]
 cases h:cJ cs i with
 | nil=>rfl
 | cons q l =>
  have:=Hv (cs:=cs) (i:=i) (q:=q) (by rw[h];exact mem_cons_self ..);exact (if_pos this).symm
section
structure bF (cs:List Cell):Prop where
 len:cs.length<=12
 few: ∀c∈cs,Small c
def Hx (C:Cs):Fsp:=fun ss γ P=> ∃ (xd:Addr) (cs:List Cell),bF cs/\ss=[.pt xd,.d (aC C cs)]/\γ=[(xd,.ins C.gr [] [])]/\P (.d .non) [(xd,.ins C.gr qU ((Hq cs).map .d))]
theorem Um (Fu:Fun K "__init__" "Graph.__init__" vN f fd)(T:Txt K mg C)(f1:FnAt Pg w K mg base "all_places" ["row"] 1 (qW C))(f2:FnAt Pg w K mg base "places_making" ["row","name"] 1 (yH C))(f3:FnAt Pg w K mg base "sources_of" ["cell","makers"] 1 (Hh C))
  (f4:FnAt Pg w K mg base "reached_places" ["links","start"] 1 yJ) (f5:FnAt Pg w K mg base "own_troubles_of" ["cell","makers","on_circle"] 1 (Hl C)) (f6:FnAt Pg w K mg base "state_of" ["place","own_troubles","above"] 1 Hn):au Pg w K mg base CX0 2 f fd ["self","row"] (spF (Hx C)):=by
 have sc:ao ["self","row","places","name","cell","place"] ["self","row"] (ak vN):=#[sC];wtm_at "cgo"
 .obtain⟨_,_,_,rfl,_⟩:=h;rfl
 .obtain⟨xd,cs,ok,rfl,rfl,h⟩:=h;have hlen:=ok.len
  have hz:cs.length<=sizeLine:=by rw[sizeLine_eq];omega
  show DB _ _ [some (.pt xd),some (.d (aC C cs)),none,none,none,none] [(xd,.ins C.gr [] [])] _;refine aj (bj (k:=2) (x:=jG cs.length fun i=>.int (i:Nat)) (YN.data (bx (fun _=>f1) ?a1 (aP cs hlen rfl (bU _).symm) #[room] #[rR])) ?_ #[nd] #[rR] #[vis] #[rR] #[vis])
  case a1=>wtm_at "da"
  refine aj (gh (x:=jc cs) (YN.data ?lc) #[ptr] #[mem] ?_ #[cls] #[noa] (by decide))
  case lc =>
   refine' cP (items:=List.range 32) (g:=fun x=>D.int (x:Nat)) (own:=[("name",3)]) ?c ?n ?i ?ok ?g ?e ?z;wtm_at "lc"
   case i=>exact YI.o (ut (n:=32) (by exact pW (i:=31) (j:=1) #[dp] dm) (by decide) #[rR] #[blt])
   case e =>
    intro x _;refine YN.data (bx (fun _=>f2) ?_ (aP (cs,x) hlen rfl rfl) #[room] #[rR]);wtm_at "da"
   case z=>rw[length_range,sizeLine_eq];decide
  rw[bT];refine aj (gh (x:=kI (aq cs)) (YN.data ?lc) #[ptr] #[mem] ?_ #[cls] #[noa] (by decide))
  case lc =>
   unfold aq;rw[List.map_map];refine' cP (items:=cs) (g:=aM C) (own:=[("cell",4)]) ?c ?n ?i ?ok ?g ?e hz;wtm_at "lc"
   case i=>exact bC #[dl]
   case e =>
    intro c hc;refine YN.data (bx (fun _=>f3) ?_ (aP (cs,c) ⟨hlen,ok.few c hc⟩ rfl rfl) #[room] #[rR]);wtm_at "da"
  rw[bT];refine aj (gh (x:=nY cs.length (bw cs)) (YN.data ?lc) #[ptr] #[mem] ?_ #[cls] #[noa] (by decide))
  case lc =>
   refine' cP (items:=List.range cs.length) (g:=fun x=>D.int (x:Nat)) (own:=[("place",5)]) ?c ?n ?i ?ok ?g ?e (by rw[length_range];exact hz);wtm_at "lc"
   case i=>exact bC #[dl]
   case e =>
    intro x hx;refine YN.data (bx (fun _=>f4) ?_ (aP (aq cs,x) ⟨bR cs,by rw[bI];exact hlen,by rw[bI];exact mem_range.mp hx⟩ rfl rfl) #[room] #[rR]);wtm_at "da"
  rw[bT];refine aj (gh (x:=nW cs.length (cJ cs)) (YN.data ?lc) #[ptr] #[mem] ?_ #[cls] #[noa] (by decide))
  case lc =>
   refine' cP (items:=List.range cs.length) (g:=fun x=>D.int (x:Nat)) (own:=[("place",5)]) ?c ?n ?i ?ok ?g ?e (by rw[length_range];exact hz);wtm_at "lc"
   case i=>exact bC #[dl]
   case e =>
    intro x hx;have hxl:=mem_range.mp hx;have hc:cs[x]?=some cs[x]:=List.getElem?_eq_getElem hxl
    have e1:cJ cs x=gn cs cs[x] ((zs (bw cs x)).contains (x:Int)):=by
     unfold cJ;rw[hc,dO];rfl
    rw[e1];refine YN.data (bx (fun _=>f5) (aG (gG (k:=(x:Int)) (x:=aM C cs[x]) (l:=cs.map (aM C)) #[dl] #[dp] (by omega) (by rw[Int.toNat_natCast,List.getElem?_map,hc];rfl)) (aG #[dp] (aG (ul (ns:=zs (bw cs x)) #[dp] (YP.list (kO (abv:=bw cs) hxl #[dp] #[dp]))) aW))) (aP (cs,cs[x],(zs (bw cs x)).contains (x:Int)) (ok.few _ (List.getElem_mem hxl)) rfl rfl) #[room] #[rR])
  rw[bT];refine aj (gh (x:=jG cs.length fun i=>.int (aV cs i:Nat)) (YN.data ?lc) #[ptr] #[mem] ?_ #[cls] #[noa] (by decide))
  case lc =>
   refine' cP (items:=List.range cs.length) (g:=fun x=>D.int (x:Nat)) (own:=[("place",5)]) ?c ?n ?i ?ok ?g ?e (by rw[length_range];exact hz);wtm_at "lc"
   case i=>exact bC #[dl]
   case e =>
    intro x hx;have hxl:=mem_range.mp hx;rw[<-Ul];refine bD (fun _=>f6) ?_ (bh (x,cs.length,cJ cs,bw cs) ⟨⟨hxl,hlen⟩,fun u hu=>Hr hu,Nat.le_trans (rA cs x) hlen⟩ rfl rfl) #[room] #[rR];wtm_at "da"
  rw[bT];exact aO h
end
end
section
section
variable {t:TS}{ρ:Rho}{γ γ':Gm}{P:Po}{ad nb C0:Addr}{l:List D}{fn:Str}
theorem Uo {O0:Addr->Bool}{H0 H:Hp}{σ:L2.St}(I:Ev O0 H0 σ H ρ γ)(hp:γ.Perm ((ad,.lst l)::(nb,.ins C0 [fn] [.pt ad])::γ')):Ev O0 H0 σ H ρ ((nb,.ins C0 [fn] [.d (.lst l)])::γ'):=by
 obtain⟨r,E⟩:=I.give_up hp;have eh:hid O0 ((nb,OD.ins C0 [fn] [.d (.lst l)])::γ')=hid O0 ((nb,OD.ins C0 [fn] [.pt ad])::γ'):=rfl;refine⟨by rw[eh];exact E.slots,fun q hq=>?_,E.nd,fun q hq=>?_,E.same,E.live⟩
 .rw[eh];rcases mem_cons.mp hq with rfl | hq
  .obtain⟨dx,xs,e,hl,rr⟩:=iK E (mem_cons_self ..)
   cases rr with
   | cons r1 t1 =>
    refine⟨_,e,dx,_,rfl,rfl,.cons ?_ t1⟩;have e1:=r1;show Rep (.lst l) _ _;rw[show _=V.ref ad from r1];exact r
  .exact E.own q (mem_cons_of_mem _ hq)
 .rcases mem_cons.mp hq with rfl | hq
  .exact E.young (nb,.ins C0 [fn] [.pt ad]) (mem_cons_self ..)
  .exact E.young q (mem_cons_of_mem _ hq)
theorem Up (hp:γ.Perm ((ad,.lst l)::(nb,.ins C0 [fn] [.pt ad])::γ'))(h:YS t ρ ((nb,.ins C0 [fn] [.d (.lst l)])::γ') P):YS t ρ γ P:=fun O0 H0 σ H I=>h (Uo I hp)
end
section
def b7 (cs:List Cell):List Nat:=bz cs++(List.range cs.length).filter fun i=> !(bz cs).contains i
def aH (cs:List Cell) (i:Nat):Cell:=cs.getD i ⟨0,false,[],[]⟩
def n6 (cs:List Cell):Nat:=((b7 cs).zipIdx.filter fun q=> !decide ((q.2:Int)=(q.1:Int))).length
def kW (cs:List Cell):List Cell×List Int:=((b7 cs).map (aH cs),[(n6 cs:Int)])
def Hy (C:Cs):Fsp:=EdF C (fun (_:Unit) cs=>bF cs) (fun _=>[]) fun _ cs=>kW cs
abbrev dI (Pg:Program) (w:World) (K:Frag) (mg:Str->Option Value) (base:Heap) (C:Cs):Prop:=jr Pg w K mg base "Graph" C.gr ["self","row"] 2 (Hx C)
theorem dX {ι:Type}{F:ι->Cx}{ρ:Rho}{γ:Gm}{e:Expr}{p pos:Pos}{cs:List Cell}(fa: ∀i,dI (F i).prog (F i).w (F i).K (F i).mg (F i).base C)(ok:bF cs)(h:DP F e ρ γ (aC C cs))(hr: ∀i,aR 3 (F i).A)(hg: ∀i,Gl (F i) "Graph")(he: ∀i,starEach [e] (F i).env=[(false,eval e (F i).env)]:=by intro _;rfl):DP F (.Call (.Name "Graph" p) [e] [] pos) ρ γ (bB C cs) :=
 nj fa (aG h aW he) (fun xd=>⟨xd,cs,ok,rfl,rfl,rfl,rfl⟩) hr hg (by decide) he #[rR]
structure Uq (l:List Nat) (n:Nat):Prop where
 nd:l.Nodup
 mem: ∀x,x∈l↔x < n
theorem Hz (cs:List Cell): ∀ (k:Nat) (done:List Nat),done.Nodup->(∀x∈done,x < cs.length)->(Vanbkb.taken (CG.gp (aq cs)) (aX cs) k done).Nodup/\ ∀x∈Vanbkb.taken (CG.gp (aq cs)) (aX cs) k done,x < cs.length
 | 0,done,h1,h2=>⟨h1,h2⟩
 | k+1,done,h1,h2=>by
  rw[Vanbkb.taken]
  cases hr:Vanbkb.ready (CG.gp (aq cs)) (aX cs) done with
  | nil=>exact⟨h1,h2⟩
  | cons r l =>
   obtain⟨q1,q2,_⟩:=u5.mp (show r∈Vanbkb.ready (CG.gp (aq cs)) (aX cs) done by rw[hr];exact mem_cons_self ..);refine Hz cs k (done++[r]) ?_ fun x hx=>?_
   .exact nodup_append.mpr ⟨h1,nodup_cons.mpr ⟨not_mem_nil,nodup_nil⟩,fun a ha b hb e=>q2 (by rw[<-mem_singleton.mp hb,<-e];exact ha)⟩
   .rcases mem_append.mp hx with hx | hx
    .exact h2 x hx
    .rw[mem_singleton.mp hx];exact (gJ.mp q1).1
theorem fG (cs:List Cell):(bz cs).Nodup/\ ∀x∈bz cs,x < cs.length:=Hz cs _ [] nodup_nil fun x hx=>by cases hx
theorem mC (cs:List Cell):Uq (b7 cs) cs.length:=by
 obtain⟨h1,h2⟩:=fG cs;constructor
 .refine nodup_append.mpr ⟨h1,List.Nodup.sublist (filter_sublist ..) List.nodup_range,fun a ha b hb e=>?_⟩;subst e;have:=(mem_filter.mp hb).2;rw[contains_iff_mem.mpr ha] at this;cases this
 .intro x;unfold b7;rw[mem_append,mem_filter,mem_range,Bool.not_eq_true',<-Bool.not_eq_true,contains_iff_mem];exact⟨fun h=>h.elim (h2 x) fun h=>h.1,fun h=>(Classical.em (x∈bz cs)).elim .inl fun q=>.inr ⟨h,q⟩⟩
theorem Ur (cs:List Cell):(b7 cs).length<=cs.length:=kE (mC cs).nd fun x hx=>((mC cs).mem x).mp hx
theorem fQ {cs:List Cell}{i:Nat}(h:i < cs.length):cs[i]?=some (aH cs i):=by
 unfold aH;rw[List.getD_eq_getElem?_getD,List.getElem?_eq_getElem h];rfl
theorem rB {ι:Type}{F:ι->Cx}{ρ:Rho}{γ:Gm}{a b:Expr}{pos:Pos}{cs:List Cell}{i:Nat}(h:i < cs.length)(ha:DP F a ρ γ (aC C cs))(hb:DP F b ρ γ (.int (i:Nat)))(hs:fL b:=by intro _ _;rfl):DP F (.Subscript a b pos) ρ γ (aM C (aH cs i)) :=
 gG (YP.list ha) hb (by omega) (by rw[Int.toNat_natCast,List.getElem?_map,fQ h];rfl) hs
theorem Us (Fu:Fun K "tidy_cells" "tidy_cells" wz f fd)(T:Txt K mg C)(mkG:dI Pg w K mg base C)(f1:FnAt Pg w K mg base "running_order" ["graph"] 3 (nZ C))(f2:FnAt Pg w K mg base "all_places" ["row"] 1 (qW C)) :
  au Pg w K mg base CX0 4 f fd ["notebook"] (spF (Hy C)):=by
 have sc:ao ["notebook","order","others","old_places","place","old_place"] ["notebook"] (ak wz):=#[sC];wtm_at "cg2"
 .obtain⟨nb,ro,cs,_,ok,rfl,rfl,h⟩:=h;have hlen:=ok.len;have hop:=Ur cs;have hpo:=kE (fG cs).1 (fG cs).2;replace h: ∀a' r',P (.pt a') ((a',.lst ((kW cs).2.map .int))::NB C nb r' (kW cs).1):=h;show DB _ _ [some (.pt nb),none,none,none,none,none] (NB C nb ro cs) _;refine Up (List.Perm.refl _) ?_;refine aj (bj (k:=1) (x:=aD (bz cs)) (YN.data (bx (fun _=>f1) (aG (dX (fun _=>mkG) ok #[dp] #[room] #[rR]) aW) (aP cs hlen rfl rfl) #[room] #[rR])) ?_ #[nd] #[rR] #[vis] #[rR] #[vis]);refine' aj (jZ (k:=2) (items:=List.range cs.length) (g:=fun i=>D.int (i:Nat)) (c:=fun i=> !(bz cs).contains i) (f:=fun i=>D.int (i:Nat)) (own:=[("place",4)]) ?c ?n ?i ?ok ?g ?t ?e ?z #[rR] #[rR] #[rR] ?_);wtm_at "lc"
  case i =>
   rw[bU];exact bC (YN.list (bx (fun _=>f2) #[da] (aP cs hlen rfl rfl) #[room] #[rR]))
  case t =>
   intro x _;rw[<-dO];exact cN #[dt]
  case e=>exact fun x _ _=>by wtm_at "dp"
  case z=>rw[length_range,sizeLine_eq];omega
  rw[bU];refine aj (bj (k:=3) (x:=aD (b7 cs)) ?cat ?_ #[nd] #[rR] #[vis] #[rR] #[vis])
  case cat =>
   have e:aD (b7 cs)= .lst ((zs (bz cs)).map D.int++(zs ((List.range cs.length).filter fun i=> !(bz cs).contains i)).map D.int):=by
    unfold aD b7 zs;rw[map_append,map_append]
   rw[e];refine YN.data (gW #[dl] #[dl] ?_);have:=length_filter_le (fun i=> !(bz cs).contains i) (List.range cs.length);rw[length_range] at this;rw[length_map,length_map,length_map,length_map,sizeLine_eq];omega
  refine aj (lR (ss:=[.d (aC C cs)]) (YN.gen (l:=((b7 cs).map (aH cs)).map (aM C)) ?lc fun ad=>⟨⟨[.d (aC C cs)],by wtm_at "mem",?_⟩,by wtm_at "ptr"⟩) #[cls] #[noa] (by decide))
  case lc =>
   rw[List.map_map (g:=aM C)];refine' cP (items:=b7 cs) (g:=fun i=>D.int (i:Nat)) (own:=[("old_place",5)]) ?c2 ?n2 ?i2 ?ok2 ?g2 ?e2 ?z2;wtm_at "lc2"
   case i2 =>
    rw[bU];exact bC #[dl]
   case e2=>exact fun x hx=>rB (((mC cs).mem x).mp hx) #[dp] #[dp]
   case z2=>rw[sizeLine_eq];omega
  refine ig fun nd=>?_;rw[gY] at nd;have ne:ad≠nb:=fun e=>(nodup_cons.mp nd).1 (by rw[e];exact mem_cons_self ..);rw[fD ne,bT]
  have el:((b7 cs).zipIdx.map fun q=>D.tup [.int (q.2:Nat),.int (q.1:Nat)])=((zs (b7 cs)).map D.int).zipIdx.map fun q=>D.tup [.int (q.2:Nat),q.1]:=by
   rw[<-bU,List.zipIdx_map,List.map_map];rfl
  refine aj (aF (l:=[.int (n6 cs:Int)]) (aY (aG ?len aW) bu) fun a=>h a ad)
  case len =>
   have e2:(n6 cs:Int)=((((b7 cs).zipIdx.filter fun q=> !decide ((q.2:Int)=(q.1:Int))).map fun q=>D.int (q.2:Nat)).length:Nat):=by rw[length_map];rfl
   rw[e2];refine iM (YN.list ?_) #[rR] #[blt];refine' dD (items:=(b7 cs).zipIdx) (g:=fun q=>D.tup [.int (q.2:Nat),.int (q.1:Nat)]) (own:=[("place",4),("old_place",5)]) ?c3 ?n3 ?i3 ?ok3 ?g3 ?t3 ?e3 ?z3;wtm_at "lc3"
   case i3 =>
    rw[el];exact jo #[dl] #[rR] #[blt]
   case t3=>exact fun q _=>cN #[dt]
   case e3=>exact fun q _ _=>by wtm_at "dp"
   case z3=>rw[length_zipIdx,sizeLine_eq];omega
end
end
section
section
theorem yQ {cs:List Cell}{i:Nat}(h:i < cs.length):CG.num cs i=(aH cs i).number:=lW (fQ h)
def aN (cs:List Cell) (ps:List Nat):List Int:=(ps.length:Int)::zs (ps.map (CG.num cs))
def HB (C:Cs):Fsp:=bA (fun a:List Cell×List Nat=>a.2.length<=13/\ ∀p∈a.2,p < a.1.length) (fun a=>[aC C a.1,aD a.2]) fun a=>(aN a.1 a.2).map .int
theorem Ut (Fu:Fun K "told_cells" "told_cells" wG f fd)(T:Txt K mg C):au Pg w K mg base CX0 1 f fd ["row","places"] (spF (HB C)):=by
 have sc:ao ["row","places","place"] ["row","places"] (ak wG):=#[sC];wtm_at "cg0"
 .obtain⟨⟨cs,ps⟩,⟨hlen,hlt⟩,rfl,rfl,h⟩:=h;replace hlen:ps.length<=13:=hlen;replace hlt: ∀p∈ps,p < cs.length:=hlt;replace h: ∀ad,P (.pt ad) [(ad,.lst ((aN cs ps).map .int))]:=h;show DB _ _ [some (.d (aC C cs)),some (.d (aD ps)),none] [] _
  have e:(aN cs ps).map D.int=[.int (((zs ps).map D.int).length:Nat)]++ps.map fun p=>.int (CG.num cs p:Nat):=by
   unfold aN zs;rw[map_cons,length_map,length_map,List.map_map,List.map_map];rfl
  rw[e] at h;refine aj (aF (gW (YN.list (aY (aG #[dp] aW) bu)) (YN.list ?lc) (by rw[length_singleton,length_map,sizeLine_eq];omega)) h)
  case lc =>
   refine' cP (items:=ps) (g:=fun i=>D.int (i:Nat)) (own:=[("place",2)]) ?c ?n ?i ?ok ?g ?e ?z;wtm_at "lc"
   case i =>
    rw[bU];exact bC #[dl]
   case e =>
    intro x hx;rw[yQ (hlt x hx)];exact jY (rB (hlt x hx) #[dp] #[dp]) #[cls] #[noa] rfl
   case z=>rw[sizeLine_eq];omega
abbrev eU (Pg:Program) (w:World) (K:Frag) (mg:Str->Option Value) (base:Heap) (C:Cs):Prop:=FnAt Pg w K mg base "told_cells" ["row","places"] 1 (HB C)
theorem rC {ι:Type}{F:ι->Cx}{ρ:Rho}{γ:Gm}{e e2:Expr}{p pos:Pos}{cs:List Cell}{ps:List Nat}(fa: ∀i,eU (F i).prog (F i).w (F i).K (F i).mg (F i).base C)(h1:DP F e ρ γ (aC C cs))(h2:DP F e2 ρ γ (aD ps))(hlen:ps.length<=13)(hlt: ∀p∈ps,p < cs.length)(hr: ∀i,aR 1 (F i).A)(hg: ∀i,Gl (F i) "told_cells")
  (he: ∀i,starEach [e,e2] (F i).env=(false,eval e (F i).env)::starEach [e2] (F i).env:=by intro _;rfl) (he2: ∀i,starEach [e2] (F i).env=[(false,eval e2 (F i).env)]:=by intro _;rfl):DN F (.Call (.Name "told_cells" p) [e,e2] [] pos) ρ γ ((aN cs ps).map .int) :=
 bx fa (aG h1 (aG h2 aW he2) he) (aP (cs,ps) ⟨hlen,hlt⟩ rfl rfl) hr hg (by decide) he (fun i=>by rw[he2 i];rfl)
theorem ir {ι:Type}{F:ι->Cx}{ρ:Rho}{γ:Gm}{e e2:Expr}{p pos:Pos}{cs:List Cell}{ps:List Nat}(fa: ∀i,eU (F i).prog (F i).w (F i).K (F i).mg (F i).base C)(h1:DP F e ρ γ (aC C cs))(h2:DP F e2 ρ γ (aD ps))(hlen:ps.length<=12)(hlt: ∀p∈ps,p < cs.length)(hr: ∀i,aR 1 (F i).A)(hg: ∀i,Gl (F i) "told_cells")
  (he: ∀i,starEach [e,e2] (F i).env=(false,eval e (F i).env)::starEach [e2] (F i).env:=by intro _;rfl) (he2: ∀i,starEach [e2] (F i).env=[(false,eval e2 (F i).env)]:=by intro _;rfl):DN F (.Call (.Name "told_cells" p) [e,e2] [] pos) ρ γ ((aN cs ps).map .int) :=
 rC fa h1 h2 (Nat.le_succ_of_le hlen) hlt hr hg he he2
def HD (C:Cs):Fsp:=bA (fun cs:List Cell=>cs.length<=12) (fun cs=>[aC C cs]) fun cs=>(aN cs (List.range cs.length)).map .int
theorem Uu (Fu:Fun K "all_cells" "all_cells" xm f fd)(T:Txt K mg C)(ft:eU Pg w K mg base C)(f1:FnAt Pg w K mg base "all_places" ["row"] 1 (qW C)):au Pg w K mg base CX0 2 f fd ["row"] (spF (HD C)):=by
 have sc:ao ["row"] ["row"] (ak xm):=#[sC];wtm_at "cg0"
 .obtain⟨cs,hlen,rfl,rfl,h⟩:=h;replace hlen:cs.length<=12:=hlen;show DB _ _ [some (.d (aC C cs))] [] _;exact aj (aF (ir (fun _=>ft) #[dp] (YN.data (bx (fun _=>f1) #[da] (aP cs hlen rfl rfl) #[room] #[rR])) (by rw[length_range];exact hlen) (fun p hp=>mem_range.mp hp) #[room] #[rR]) h)
def mD (cs:List Cell) (n:Int):List Int:=match az cs n with
 | none=>[-8]
 | some i=>[0,(i:Int),mark (aH cs i).broken,((aH cs i).makes.length:Int)]++zs (aH cs i).makes++[((aH cs i).reads.length:Int)]++zs (aH cs i).reads
def HF (C:Cs):Fsp:=bA (fun a:List Cell×Int=>bF a.1) (fun a=>[aC C a.1,.int a.2]) fun a=>(mD a.1 a.2).map .int
theorem n8 {cs:List Cell}{i:Nat}(h:i < cs.length):aH cs i∈cs:=mem_of_getElem? (fQ h)
theorem kY {cs:List Cell}{n:Int}{i:Nat}(h:az cs n=some i):i < cs.length:=by
 obtain⟨c,hc,_⟩:=nR h;exact (List.getElem?_eq_some_iff.mp hc).1
theorem Uv (Fu:Fun K "one_cell" "one_cell" xn f fd)(T:Txt K mg C)(f0:dU Pg w K mg base C):au Pg w K mg base CX0 2 f fd ["row","number"] (spF (HF C)):=by
 have sc:ao ["row","number","place","cell"] ["row","number"] (ak xn):=#[sC];wtm_at "cg0"
 .obtain⟨⟨cs,n⟩,ok,rfl,rfl,h⟩:=h;replace ok:bF cs:=ok;replace h: ∀ad,P (.pt ad) [(ad,.lst ((mD cs n).map .int))]:=h;show DB _ _ [some (.d (aC C cs)),some (.d (.int n)),none,none] [] _;unfold mD at h;refine aj (bj (k:=2) (x:=cG (az cs n)) (bD (fun _=>f0) #[da] (bh (cs,n) trivial rfl rfl) #[room] #[rR]) ?_ #[nd] #[rR] #[vis] #[rR] #[vis])
  cases hp:az cs n with
  | none =>
   rw[hp] at h;refine aj (aZ #[dt] (fun _=>?_) (fun hb=>?_))
   .exact aj (aF (l:=[.int (-8)]) (aY #[da] bu) h)
   .exact absurd hb (by decide)
  | some i =>
   rw[hp] at h;have hi:=kY hp;have hs:=ok.few _ (n8 hi);refine aj (aZ #[dt] (fun hb=>?_) (fun _=>?_))
   .exact nomatch (show false=true from hb)
   refine aO (aj (bj (k:=3) (x:=aM C (aH cs i)) (rB hi #[dp] #[dp]) ?_ #[nd] #[rR] #[vis] #[rR] #[vis]));have h1:=hs.1.1;have h2:=hs.1.2;replace h: ∀ad,P (.pt ad) [(ad,.lst (([0,(i:Int),mark (aH cs i).broken,((aH cs i).makes.length:Int)]++zs (aH cs i).makes++[((aH cs i).reads.length:Int)]++zs (aH cs i).reads).map .int))]:=h;generalize aH cs i=c at h h1 h2 ⊢
   have e:([0,(i:Int),mark c.broken,(c.makes.length:Int)]++zs c.makes++[(c.reads.length:Int)]++zs c.reads).map D.int=[.int 0,.int (i:Nat),.int (mark c.broken),.int (((zs c.makes).map D.int).length:Nat)]++(zs c.makes).map D.int++[.int (((zs c.reads).map D.int).length:Nat)]++(zs c.reads).map D.int:=by
    simp only[map_append,map_cons,map_nil,length_map]
   replace h: ∀ad,P (.pt ad) [(ad,.lst (([0,(i:Int),mark c.broken,(c.makes.length:Int)]++zs c.makes++[(c.reads.length:Int)]++zs c.reads).map .int))]:=h;rw[e] at h;refine aj (aF (gW (YN.list (gW (YN.list (gW (YN.list (aY (aG #[dp] (aG #[dp] (aG #[dp] (aG #[dp] aW)))) ?z0)) #[dl] ?z1)) (YN.list (aY (aG #[dp] aW) bu)) ?z2)) #[dl] ?z3) h)
   all_goals simp only[length_append,length_cons,length_nil,length_map];rw[sizeLine_eq];omega
end
end
section
section
theorem yR {n:Nat}: ∀{l:List (List Int)},(∀q∈l,q.length<=n)->l.flatten.length<=n * l.length
 | [],_=>Nat.zero_le _
 | q::l,h=>by
  rw[List.flatten_cons,length_append,length_cons,Nat.mul_succ];have h1:=h q (mem_cons_self ..);have h2:=yR (l:=l) fun x hx=>h x (mem_cons_of_mem _ hx);omega
theorem Uw {l:List (List Int)}{t:Nat}{q:List Int}(h:l[t]?=some q):(l.take (t+1)).flatten=(l.take t).flatten++q:=by
 rw[jq h,List.flatten_append,List.flatten_cons,List.flatten_nil,append_nil]
abbrev dTup (q:List Int):D:=.tup (q.map .int)
def gO (l:List (List Int)):List Int:=(l.length:Int)::l.flatten
def yS:Fsp:=bA (fun l:List (List Int)=>l.length<=1000/\ ∀q∈l,q.length<=3) (fun l=>[.lst (l.map dTup)]) fun l=>(gO l).map .int
theorem Ux (Fu:Fun K "told_tuples" "told_tuples" wI f fd)(T:Txt K mg C):au Pg w K mg base CX0 1 f fd ["tuples"] (spF yS):=by
 have sc:ao ["tuples","answer","values"] ["tuples"] (ak wI):=#[sC];wtm_at "cg0"
 .obtain⟨l,⟨hlen,h3⟩,rfl,rfl,h⟩:=h;replace hlen:l.length<=1000:=hlen;replace h3: ∀q∈l,q.length<=3:=h3;replace h: ∀ad,P (.pt ad) [(ad,.lst ((gO l).map .int))]:=h;show DB _ _ [some (.d (.lst (l.map dTup))),none,none] [] _;refine aj (iQ (k:=1) (l:=[.int ((l.length:Nat):Int)]) (aY (aG ?len aW) bu) (fun aa=>?_) #[nd] #[rR] #[vis] #[rR] #[vis])
  case len =>
   rw[<-length_map dTup (as:=l)];wtm_at "dp"
  refine aj (lN (items:=l) (g:=dTup) (vs:=[2]) (fun t ρ γ=>(∃o2,ρ=[some (.d (.lst (l.map dTup))),some (.pt aa),o2])/\γ=[(aa,.lst (((l.length:Int)::(l.take t).flatten).map .int))]) #[own] #[rR] (mZ #[dp]) ?f0 (fun t j ρ γ hj hP=>lM (k:=2) (by decide) #[nd] #[rR] #[vis] #[vis]) ?b ?d)
  case f0=>exact⟨⟨_,rfl⟩,by rw[take_zero];rfl⟩
  case b =>
   rintro t q ρ γ hq ⟨⟨o2,rfl⟩,rfl⟩;have hft:=yR (l:=l.take t) fun x hx=>h3 x (mem_of_mem_take hx);have htt:=List.length_take_le' t l;have hq3:=h3 q (mem_of_getElem? hq);refine aj (d9 (Qd (m:=q.map .int) #[ptr] #[mem] #[da] ?_ ?_))
   .rw[bT];refine aO ⟨⟨_,rfl⟩,?_⟩;rw[Uw hq,<-cons_append,map_append]
   .rw[length_map,length_cons,length_map,sizeLine_eq];omega
  case d =>
   rintro ρ γ ⟨⟨o2,rfl⟩,rfl⟩;rw[take_length];exact aj (bN (YR.gen #[ptr] (h aa)))
def gQ (cs:List Cell) (ls:List (List Nat)):List Int:=(ls.length:Int)::ls.flatMap fun r=>aN cs r
structure LsOk (cs:List Cell) (ls:List (List Nat)):Prop where
 few:ls.length<=12
 len: ∀r∈ls,r.length<=12
 lt: ∀r∈ls,∀p∈r,p < cs.length
def yU (C:Cs):Fsp:=bA (fun a:List Cell×List (List Nat)=>LsOk a.1 a.2) (fun a=>[aC C a.1,.lst (a.2.map aD)]) fun a=>(gQ a.1 a.2).map .int
theorem HH (cs:List Cell)(ps:List Nat):(aN cs ps).length=ps.length+1:=by
 unfold aN zs;rw[length_cons,length_map,length_map]
theorem Uy (Fu:Fun K "told_lists" "told_lists" wH f fd)(T:Txt K mg C)(ft:eU Pg w K mg base C):au Pg w K mg base CX0 2 f fd ["row","lists"] (spF (yU C)):=by
 have sc:ao ["row","lists","answer","places"] ["row","lists"] (ak wH):=#[sC];wtm_at "cg0"
 .obtain⟨⟨cs,ls⟩,ok,rfl,rfl,h⟩:=h;replace ok:LsOk cs ls:=ok;have hfew:=ok.few;replace h: ∀ad,P (.pt ad) [(ad,.lst ((gQ cs ls).map .int))]:=h;show DB _ _ [some (.d (aC C cs)),some (.d (.lst (ls.map aD))),none,none] [] _;refine aj (iQ (k:=2) (l:=[.int ((ls.length:Nat):Int)]) (aY (aG ?len aW) bu) (fun aa=>?_) #[nd] #[rR] #[vis] #[rR] #[vis])
  case len =>
   rw[<-length_map aD (as:=ls)];wtm_at "dp"
  refine aj (lN (items:=ls) (g:=aD) (vs:=[3]) (fun t ρ γ=>(∃o2,ρ=[some (.d (aC C cs)),some (.d (.lst (ls.map aD))),some (.pt aa),o2])/\γ=[(aa,.lst (((ls.length:Int)::(ls.take t).flatMap fun r=>aN cs r).map .int))]) #[own] #[rR] (mZ #[dp]) ?f0 (fun t j ρ γ hj hP=>lM (k:=3) (by decide) #[nd] #[rR] #[vis] #[vis]) ?b ?d)
  case f0=>exact⟨⟨_,rfl⟩,by rw[take_zero];rfl⟩
  case b =>
   rintro t r ρ γ hr2 ⟨⟨o2,rfl⟩,rfl⟩;have hrm:=mem_of_getElem? hr2
   have hft:((ls.take t).flatMap fun r=>aN cs r).length<=13 * (ls.take t).length:=by
    show ((ls.take t).map fun r=>aN cs r).flatten.length<=_
    have:=yR (n:=13) (l:=(ls.take t).map fun r=>aN cs r) fun q hq=>by
     obtain⟨x,hx,rfl⟩:=mem_map.mp hq;have:=ok.len x (mem_of_mem_take hx);rw[HH];omega
    rwa [length_map] at this
   have htt:=List.length_take_le' t ls;have hrl:=ok.len r hrm;refine aj (d9 (lO (m:=(aN cs r).map .int) #[ptr] #[mem] ?ex ?_ ?_))
   case ex=>exact YN.list (ir (fun _=>ft) #[dp] #[dp] hrl (ok.lt r hrm) #[room] #[rR])
   .rw[length_map,length_cons,length_map,HH,sizeLine_eq];omega
   .rw[bT];refine aO ⟨⟨_,rfl⟩,?_⟩;rw[jq hr2,List.flatMap_append,List.flatMap_cons,List.flatMap_nil,append_nil,<-cons_append,map_append]
  case d =>
   rintro ρ γ ⟨⟨o2,rfl⟩,rfl⟩;rw[take_length];exact aj (bN (YR.gen #[ptr] (h aa)))
end
end
section
section
theorem Uz (cs:List Cell)(x:Nat):(CG.pmk cs x).length<=cs.length:=(Ru cs x).length_le fun i hi=>qH hi
theorem HJ {cs:List Cell}{x i:Nat}(h:i∈CG.prd cs x):i < cs.length:=by
 unfold CG.prd at h;obtain⟨c,hc,_⟩:=(Fb (fun (c:Cell)=>c.reads.contains x) cs i).mp h;exact (List.getElem?_eq_some_iff.mp hc).1
theorem UG (cs:List Cell)(x:Nat):(CG.prd cs x).length<=cs.length:=(show CG.Asc (CG.prd cs x) from (uR _ cs 0).1).length_le fun i hi=>HJ hi
def fH (f:List Cell->Nat->List Nat) (cs:List Cell) (n:Int):List Int:=if (!Vanbkb.within n 0 31)=true then [-5] else aN cs (f cs n.toNat)
def HN (C:Cs):Fsp:=bA (fun a:List Cell×Int=>a.1.length<=12) (fun a=>[aC C a.1,.int a.2]) fun a=>(fH CG.pmk a.1 a.2).map .int
theorem UJ (Fu:Fun K "makers_of" "makers_of" xq f fd)(T:Txt K mg C)(ft:eU Pg w K mg base C)(f1:FnAt Pg w K mg base "is_name" ["value"] 1 nP)(f2:FnAt Pg w K mg base "places_making" ["row","name"] 1 (yH C)):au Pg w K mg base CX0 2 f fd ["row","name"] (spF (HN C)):=by
 have sc:ao ["row","name"] ["row","name"] (ak xq):=#[sC];wtm_at "cg0"
 .obtain⟨⟨cs,n⟩,hlen,rfl,rfl,h⟩:=h;replace hlen:cs.length<=12:=hlen;replace h: ∀ad,P (.pt ad) [(ad,.lst ((fH CG.pmk cs n).map .int))]:=h;show DB _ _ [some (.d (aC C cs)),some (.d (.int n))] [] _;unfold fH at h;refine aj (aZ (jn (dN (bD (fun _=>f1) #[da] (bh n trivial rfl rfl) #[room] #[rR]))) (fun hb=>?_) (fun hb=>?_))
  .rw[itT hb] at h;exact aj (aF (l:=[.int (-5)]) (aY #[da] bu) h)
  rw[itF hb] at h;have hw:=dq.mp (Bool.not_eq_false' .. ▸ hb:Vanbkb.within n 0 31=true)
  obtain⟨x,rfl⟩: ∃x:Nat,n=(x:Int):=⟨n.toNat,(Int.toNat_of_nonneg hw.1).symm⟩
  rw[Int.toNat_natCast] at h;exact aO (aj (aF (ir (fun _=>ft) #[dp] (YN.data (bx (fun _=>f2) #[da] (aP (cs,x) hlen rfl rfl) #[room] #[rR])) (Nat.le_trans (Uz cs x) hlen) (fun p hp=>qH hp) #[room] #[rR]) h))
def HQ (C:Cs):Fsp:=bA (fun a:List Cell×Int=>a.1.length<=12) (fun a=>[aC C a.1,.int a.2]) fun a=>(fH CG.prd a.1 a.2).map .int
theorem UL (Fu:Fun K "readers_of" "readers_of" xr f fd)(T:Txt K mg C)(ft:eU Pg w K mg base C)(f1:FnAt Pg w K mg base "is_name" ["value"] 1 nP)(f2:FnAt Pg w K mg base "places_reading" ["row","name"] 1 (Hg C)):au Pg w K mg base CX0 2 f fd ["row","name"] (spF (HQ C)):=by
 have sc:ao ["row","name"] ["row","name"] (ak xr):=#[sC];wtm_at "cg0"
 .obtain⟨⟨cs,n⟩,hlen,rfl,rfl,h⟩:=h;replace hlen:cs.length<=12:=hlen;replace h: ∀ad,P (.pt ad) [(ad,.lst ((fH CG.prd cs n).map .int))]:=h;show DB _ _ [some (.d (aC C cs)),some (.d (.int n))] [] _;unfold fH at h;refine aj (aZ (jn (dN (bD (fun _=>f1) #[da] (bh n trivial rfl rfl) #[room] #[rR]))) (fun hb=>?_) (fun hb=>?_))
  .rw[itT hb] at h;exact aj (aF (l:=[.int (-5)]) (aY #[da] bu) h)
  rw[itF hb] at h;have hw:=dq.mp (Bool.not_eq_false' .. ▸ hb:Vanbkb.within n 0 31=true)
  obtain⟨x,rfl⟩: ∃x:Nat,n=(x:Int):=⟨n.toNat,(Int.toNat_of_nonneg hw.1).symm⟩
  rw[Int.toNat_natCast] at h;exact aO (aj (aF (ir (fun _=>ft) #[dp] (YN.data (bx (fun _=>f2) #[da] (aP (cs,x) hlen rfl rfl) #[room] #[rR])) (Nat.le_trans (UG cs x) hlen) (fun p hp=>HJ hp) #[room] #[rR]) h))
def bf (f:List Cell->Nat->List Int) (cs:List Cell) (n:Int):List Int:=match az cs n with
 | none=>[-8]
 | some i=>f cs i
def fJ (C:Cs) (f:List Cell->Nat->List Int):Fsp:=bA (fun a:List Cell×Int=>bF a.1) (fun a=>[aC C a.1,.int a.2]) fun a=>(bf f a.1 a.2).map .int
theorem UT (Fu:Fun K "state_of_cell" "state_of_cell" xu f fd)(T:Txt K mg C)(mkG:dI Pg w K mg base C)(f0:dU Pg w K mg base C):au Pg w K mg base CX0 4 f fd ["row","number"] (spF (fJ C fun cs i=>[(aV cs i:Int)])):=by
 have sc:ao ["row","number","place"] ["row","number"] (ak xu):=#[sC];wtm_at "cg0"
 .obtain⟨⟨cs,n⟩,ok,rfl,rfl,h⟩:=h;replace ok:bF cs:=ok;replace h: ∀ad,P (.pt ad) [(ad,.lst ((bf (fun cs i=>[(aV cs i:Int)]) cs n).map .int))]:=h;show DB _ _ [some (.d (aC C cs)),some (.d (.int n)),none] [] _;unfold bf at h;refine aj (bj (k:=2) (x:=cG (az cs n)) (bD (fun _=>f0) #[da] (bh (cs,n) trivial rfl rfl) #[room] #[rR]) ?_ #[nd] #[rR] #[vis] #[rR] #[vis])
  cases hp:az cs n with
  | none =>
   rw[hp] at h;refine aj (aZ #[dt] (fun _=>?_) (fun hb=>?_))
   .exact aj (aF (l:=[.int (-8)]) (aY #[da] bu) h)
   .exact absurd hb (by decide)
  | some i =>
   rw[hp] at h;have hi:=kY hp;refine aj (aZ #[dt] (fun hb=>?_) (fun _=>?_))
   .exact nomatch (show false=true from hb)
   exact aO (aj (aF (l:=[.int (aV cs i:Int)]) (aY (aG (yM (st:=aV cs) hi (jY (dX (fun _=>mkG) ok #[dp] #[room] #[rR]) #[cls] #[noa] rfl) #[dp]) aW) bu) h))
def HR (C:Cs):Fsp:=bA (fun cs:List Cell=>bF cs) (fun cs=>[aC C cs]) fun cs=>(aN cs (bz cs)).map .int
theorem UV (Fu:Fun K "order_of_cells" "order_of_cells" wR f fd)(T:Txt K mg C)(mkG:dI Pg w K mg base C)(ft:eU Pg w K mg base C)(f1:FnAt Pg w K mg base "running_order" ["graph"] 3 (nZ C)):au Pg w K mg base CX0 4 f fd ["row"] (spF (HR C)):=by
 have sc:ao ["row"] ["row"] (ak wR):=#[sC];wtm_at "cg0"
 .obtain⟨cs,ok,rfl,rfl,h⟩:=h;replace ok:bF cs:=ok;have hlen:=ok.len;have hpo:=kE (fG cs).1 (fG cs).2;show DB _ _ [some (.d (aC C cs))] [] _;exact aj (aF (ir (fun _=>ft) #[dp] (YN.data (bx (fun _=>f1) (aG (dX (fun _=>mkG) ok #[dp] #[room] #[rR]) aW) (aP cs hlen rfl rfl) #[room] #[rR])) (by omega) (fG cs).2 #[room] #[rR]) h)
def gq (cs:List Cell) (i:Nat):List (Nat×Nat):=cJ cs i++(jd cs i).map fun s=>(6,CG.num cs s)
def UW (l:List (Nat×Nat)):List Int:=l.flatMap fun q=>[(q.1:Int),(q.2:Int)]
def je (cs:List Cell) (i:Nat):List Int:=((gq cs i).length:Int)::UW (gq cs i)
theorem U0 {cs:List Cell}(ok:bF cs)(i:Nat):(cJ cs i).length<=98:=by
 unfold cJ
 cases h:cs[i]? with
 | none=>exact Nat.zero_le _
 | some c=>exact Hm (ok.few c (mem_of_getElem? h))
theorem U3 (cs:List Cell)(i:Nat):(jd cs i).length<=cs.length:=Nat.le_trans (length_filter_le ..) (mz cs i)
theorem U4 (Fu:Fun K "troubles_of_cell" "troubles_of_cell" xx f fd)(T:Txt K mg C)(mkG:dI Pg w K mg base C)(f0:dU Pg w K mg base C)(f1:FnAt Pg w K mg base "unclear_sources" ["graph","place"] 1 (Hs C))(f2:FnAt Pg w K mg base "told_tuples" ["tuples"] 1 yS) :
  au Pg w K mg base CX0 4 f fd ["row","number"] (spF (fJ C je)):=by
 have sc:ao ["row","number","place","graph","behind","source"] ["row","number"] (ak xx):=#[sC];wtm_at "cg0"
 .obtain⟨⟨cs,n⟩,ok,rfl,rfl,h⟩:=h;replace ok:bF cs:=ok;have hlen:=ok.len;replace h: ∀ad,P (.pt ad) [(ad,.lst ((bf je cs n).map .int))]:=h;show DB _ _ [some (.d (aC C cs)),some (.d (.int n)),none,none,none,none] [] _;unfold bf at h;refine aj (bj (k:=2) (x:=cG (az cs n)) (bD (fun _=>f0) #[da] (bh (cs,n) trivial rfl rfl) #[room] #[rR]) ?_ #[nd] #[rR] #[vis] #[rR] #[vis])
  cases hp:az cs n with
  | none =>
   rw[hp] at h;refine aj (aZ #[dt] (fun _=>?_) (fun hb=>?_))
   .exact aj (aF (l:=[.int (-8)]) (aY #[da] bu) h)
   .exact absurd hb (by decide)
  | some i =>
   rw[hp] at h;replace h: ∀ad,P (.pt ad) [(ad,.lst ((je cs i).map .int))]:=h;have hi:=kY hp;have hol:=U0 ok i;have hul:=U3 cs i;refine aj (aZ #[dt] (fun hb=>?_) (fun _=>?_))
   .exact nomatch (show false=true from hb)
   refine aO (aj (bj (k:=3) (x:=bB C cs) (dX (fun _=>mkG) ok #[dp] #[room] #[rR]) ?_ #[nd] #[rR] #[vis] #[rR] #[vis]));refine' aj (jZ (k:=4) (items:=jd cs i) (g:=fun i=>D.int (i:Nat)) (c:=fun _=>true) (f:=fun s=>D.tup [.int 6,.int (CG.num cs s:Nat)]) (own:=[("source",5)]) ?c ?n ?i ?ok ?g (fun _ _=>ug) ?e ?z #[rR] #[rR] #[rR] ?_);wtm_at "lc"
   case i =>
    rw[bU];exact bC (YN.list (bx (fun _=>f1) #[da] (aP (cs,i) ⟨hlen,hi⟩ rfl rfl) #[room] #[rR]))
   case e =>
    intro x hx _;have hxl:x < cs.length:=jH (mem_filter.mp hx).1;rw[yQ hxl];exact jX (aG #[dp] (aG (jY (rB hxl #[dp] #[dp]) #[cls] #[noa] rfl) aW)) my
   case z=>rw[sizeLine_eq];omega
   rw[filter_all]
   have etr:cQ (gq cs i)=cQ (cJ cs i)++(jd cs i).map fun s=>D.tup [.int 6,.int (CG.num cs s:Nat)]:=by
    unfold cQ gq;rw[map_append,List.map_map];rfl
   have htl:(gq cs i).length<=110:=by
    unfold gq;rw[length_append,length_map];omega
   have e2:cQ (gq cs i)=((gq cs i).map fun q=>[(q.1:Int),(q.2:Int)]).map dTup:=by
    rw[List.map_map];rfl
   have e3:je cs i=gO ((gq cs i).map fun q=>[(q.1:Int),(q.2:Int)]):=by
    unfold je gO;rw[length_map];rfl
   rw[e3] at h;refine aj (aF (bx (fun _=>f2) (aG ?cat aW) (aP ((gq cs i).map fun q=>[(q.1:Int),(q.2:Int)]) ⟨by rw[length_map];omega,?q3⟩ rfl rfl) #[room] #[rR]) h)
   case q3 =>
    intro q hq;obtain⟨x,_,rfl⟩:=mem_map.mp hq;exact Nat.le_succ 2
   case cat =>
    rw[<-e2,etr];refine YN.data (gW (YP.list (rn (own:=cJ cs) hi #[dp] #[dp])) #[dl] ?_);rw[length_map,length_map,sizeLine_eq];omega
end
end
section
section
theorem rD (n:Nat)(f:Nat->D):(((List.range n).map f).zipIdx.map fun q=>D.tup [.int (q.2:Nat),q.1])=(List.range n).map fun i=>D.tup [.int (i:Nat),f i]:=by
 apply ext_getElem?;intro k;rw[List.getElem?_map,List.getElem?_map,List.getElem?_zipIdx,List.getElem?_map,Nat.zero_add]
 by_cases hk:k < n
 .rw[List.getElem?_range hk];rfl
 .rw[List.getElem?_eq_none (by rw[length_range];omega)];rfl
theorem U5 (src:CG.Src):src.map aD=(List.range src.length).map fun i=>aD (CG.row src i):=by
 apply ext_getElem?;intro k;rw[List.getElem?_map,List.getElem?_map]
 by_cases hk:k < src.length
 .rw[List.getElem?_range hk,List.getElem?_eq_getElem hk];show some (aD src[k])=some (aD (CG.row src k));unfold CG.row;rw[List.getD_eq_getElem?_getD,List.getElem?_eq_getElem hk];rfl
 .rw[List.getElem?_eq_none (by omega),List.getElem?_eq_none (by rw[length_range];omega)];rfl
def HS (C:Cs):Fsp:=dR (fun a:List Cell×Nat×List Nat=>(a.1.length<=12/\a.2.2.length<=12)/\ ∀o∈a.2.2,o < a.1.length) (fun a=>[bB C a.1,.int (a.2.1:Nat),aD a.2.2]) fun a=>.bl (a.2.2.any fun o=>(bw a.1 o).contains a.2.1)
theorem U6 (Fu:Fun K "is_above_some" "is_above_some" vY f fd)(T:Txt K mg C):au Pg w K mg base CX0 1 f fd ["graph","place","others"] (spF (HS C)):=by
 have sc:ao ["graph","place","others","other"] ["graph","place","others"] (ak vY):=#[sC];wtm_at "cg0"
 .obtain⟨⟨cs,p,os⟩,⟨⟨hlen,hol⟩,hlt⟩,rfl,rfl,h⟩:=h;replace hol:os.length<=12:=hol;replace hlt: ∀o∈os,o < cs.length:=hlt;show DB _ _ [some (.d (bB C cs)),some (.d (.int (p:Nat))),some (.d (aD os)),none] [] _;refine aj (bH (qg (bs:=os.map fun o=>(bw cs o).contains p) (YN.list ?lc) #[rR] #[rR] #[blt]) ?_)
  case lc =>
   rw[List.map_map];refine' cP (items:=os) (g:=fun x=>D.int (x:Nat)) (own:=[("other",3)]) ?c ?n ?i ?ok ?g ?e ?z;wtm_at "lc"
   case i =>
    rw[bU];exact bC #[dl]
   case e =>
    intro x hx;show DP _ _ _ _ (.bl ((bw cs x).contains p));rw[<-dO];exact ul #[dp] (YP.list (kO (abv:=bw cs) (hlt x hx) #[dp] #[dp]))
   case z=>rw[sizeLine_eq];omega
  rw[qY];exact h
def near (cs:List Cell) (i:Nat):List Nat:=(CG.row (aq cs) i).filter fun s=> !(CG.row (aq cs) i).any fun o=>(bw cs o).contains s
def HW (C:Cs):Fsp:=bA (fun a:List Cell×Nat=>a.1.length<=12/\a.2 < a.1.length) (fun a=>[bB C a.1,.int (a.2:Nat)]) fun a=>(zs (near a.1 a.2)).map .int
theorem U7 (Fu:Fun K "nearest_sources" "nearest_sources" vX f fd)(T:Txt K mg C)(f1:FnAt Pg w K mg base "is_above_some" ["graph","place","others"] 1 (HS C)):au Pg w K mg base CX0 2 f fd ["graph","place"] (spF (HW C)):=by
 have sc:ao ["graph","place","sources","source"] ["graph","place"] (ak vX):=#[sC];wtm_at "cg0"
 .obtain⟨⟨cs,i⟩,⟨hlen,hi⟩,rfl,rfl,h⟩:=h;replace hlen:cs.length<=12:=hlen;replace hi:i < cs.length:=hi
  have hip:i < (aq cs).length:=by rw[bI];exact hi
  have hrl:=mz cs i;replace h: ∀ad,P (.pt ad) [(ad,.lst ((zs (near cs i)).map .int))]:=h;show DB _ _ [some (.d (bB C cs)),some (.d (.int (i:Nat))),none,none] [] _;unfold near at h;refine aj (bj (k:=2) (x:=aD (CG.row (aq cs) i)) (kJ hip #[dp] #[dp]) ?_ #[nd] #[rR] #[vis] #[rR] #[vis]);refine' aj (aF (dD (items:=CG.row (aq cs) i) (g:=fun x=>D.int (x:Nat)) (c:=fun s=> !(CG.row (aq cs) i).any fun o=>(bw cs o).contains s) (f:=fun x=>D.int (x:Nat)) (own:=[("source",3)]) ?c ?n ?i ?ok ?g ?t ?e ?z) fun ad=>?_);wtm_at "lc"
  case i =>
   rw[bU];exact bC #[dl]
  case t =>
   intro s hs;exact cN (jn (dN (bD (fun _=>f1) #[da] (bh (cs,s,CG.row (aq cs) i) ⟨⟨hlen,by show (CG.row (aq cs) i).length<=12;omega⟩,fun o ho=>jH ho⟩ rfl rfl) #[room] #[rR])))
  case e=>exact fun s _ _=>by wtm_at "dp"
  case z=>rw[sizeLine_eq];omega
  rw[bU];exact h ad
def eV (cs:List Cell) (i:Nat):List Nat:=(List.range cs.length).filter fun o=>(bw cs o).contains i
def yV (C:Cs):Fsp:=bA (fun a:List Cell×Nat=>a.1.length<=12) (fun a=>[bB C a.1,.int (a.2:Nat)]) fun a=>(zs (eV a.1 a.2)).map .int
theorem U8 (Fu:Fun K "places_below" "places_below" vZ f fd)(T:Txt K mg C):au Pg w K mg base CX0 1 f fd ["graph","place"] (spF (yV C)):=by
 have sc:ao ["graph","place","other","above"] ["graph","place"] (ak vZ):=#[sC];wtm_at "cg0"
 .obtain⟨⟨cs,i⟩,hlen,rfl,rfl,h⟩:=h;replace hlen:cs.length<=12:=hlen;replace h: ∀ad,P (.pt ad) [(ad,.lst ((zs (eV cs i)).map .int))]:=h;show DB _ _ [some (.d (bB C cs)),some (.d (.int (i:Nat))),none,none] [] _;unfold eV at h;refine' aj (aF (dD (items:=List.range cs.length) (g:=fun o=>D.tup [.int (o:Nat),aD (bw cs o)]) (c:=fun o=>(bw cs o).contains i) (f:=fun x=>D.int (x:Nat)) (own:=[("other",2),("above",3)]) ?c ?n ?i ?ok ?g ?t ?e ?z) fun ad=>?_);wtm_at "lc"
  case i =>
   rw[<-rD];exact jo (YP.list #[dp]) #[rR] #[blt]
  case t =>
   intro o _;rw[<-dO];exact cN #[dt]
  case e=>exact fun s _ _=>by wtm_at "dp"
  case z=>rw[length_range,sizeLine_eq];omega
  rw[bU];exact h ad
def dw (cs:List Cell) (i:Nat):List Nat:=(List.range cs.length).filter fun o=>(CG.row (aq cs) o).contains i
def yW (C:Cs):Fsp:=bA (fun a:List Cell×Nat=>a.1.length<=12) (fun a=>[bB C a.1,.int (a.2:Nat)]) fun a=>(zs (dw a.1 a.2)).map .int
theorem U9 (Fu:Fun K "readers_from" "readers_from" v4 f fd)(T:Txt K mg C):au Pg w K mg base CX0 1 f fd ["graph","place"] (spF (yW C)):=by
 have sc:ao ["graph","place","other","sources"] ["graph","place"] (ak v4):=#[sC];wtm_at "cg0"
 .obtain⟨⟨cs,i⟩,hlen,rfl,rfl,h⟩:=h;replace hlen:cs.length<=12:=hlen;replace h: ∀ad,P (.pt ad) [(ad,.lst ((zs (dw cs i)).map .int))]:=h;show DB _ _ [some (.d (bB C cs)),some (.d (.int (i:Nat))),none,none] [] _;unfold dw at h;refine' aj (aF (dD (items:=List.range cs.length) (g:=fun o=>D.tup [.int (o:Nat),aD (CG.row (aq cs) o)]) (c:=fun o=>(CG.row (aq cs) o).contains i) (f:=fun x=>D.int (x:Nat)) (own:=[("other",2),("sources",3)]) ?c ?n ?i ?ok ?g ?t ?e ?z) fun ad=>?_);wtm_at "lc"
  case i =>
   rw[<-rD,<-bI cs,<-U5];exact jo (YP.list #[dp]) #[rR] #[blt]
  case t =>
   intro o _;rw[<-dO];exact cN #[dt]
  case e=>exact fun s _ _=>by wtm_at "dp"
  case z=>rw[length_range,sizeLine_eq];omega
  rw[bU];exact h ad
def iu (cs:List Cell):List Nat:=(List.range cs.length).filter fun i=>decide (0 < cU cs i)
def HX (C:Cs):Fsp:=bA (fun cs:List Cell=>cs.length<=12) (fun cs=>[bB C cs]) fun cs=>(zs (iu cs)).map .int
theorem Va (Fu:Fun K "sick_places" "sick_places" v5 f fd)(T:Txt K mg C):au Pg w K mg base CX0 1 f fd ["graph"] (spF (HX C)):=by
 have sc:ao ["graph","place","troubles"] ["graph"] (ak v5):=#[sC];wtm_at "cg0"
 .obtain⟨cs,hlen,rfl,rfl,h⟩:=h;replace hlen:cs.length<=12:=hlen;replace h: ∀ad,P (.pt ad) [(ad,.lst ((zs (iu cs)).map .int))]:=h;show DB _ _ [some (.d (bB C cs)),none,none] [] _;unfold iu at h;refine' aj (aF (dD (items:=List.range cs.length) (g:=fun o=>D.tup [.int (o:Nat),.lst (cQ (cJ cs o))]) (c:=fun o=>decide (0 < cU cs o)) (f:=fun x=>D.int (x:Nat)) (own:=[("place",1),("troubles",2)]) ?c ?n ?i ?ok ?g ?t ?e ?z) fun ad=>?_);wtm_at "lc"
  case i =>
   rw[<-rD];exact jo (YP.list #[dp]) #[rR] #[blt]
  case t =>
   intro o _
   have e:decide (0 < cU cs o)=decide ((0:Int) < (((cQ (cJ cs o)).length:Nat):Int)):=by
    rw[Hw,length_map];exact decide_eq_decide.mpr (by omega)
   rw[e];exact cN #[dt]
  case e=>exact fun s _ _=>by wtm_at "dp"
  case z=>rw[length_range,sizeLine_eq];omega
  rw[bU];exact h ad
end
end
section
section
def eX (cs:List Cell) (i:Nat):List Nat:=(List.range cs.length).filter fun j=>decide (j=i)||(CG.row (aq cs) i).contains j||(CG.row (aq cs) j).contains i
theorem mF {cs:List Cell}{i j:Nat}:j∈eX cs i↔j < cs.length/\(j=i\/j∈CG.row (aq cs) i\/i∈CG.row (aq cs) j):=by
 unfold eX;rw[mem_filter,mem_range,Bool.or_eq_true,Bool.or_eq_true,decide_eq_true_eq,contains_iff_mem,contains_iff_mem,or_assoc]
theorem yX (cs:List Cell)(i:Nat):CG.Asc (eX cs i):=(g8 _).filter _
def eY (cs:List Cell):CG.Src:=(List.range cs.length).map (eX cs)
theorem oh (cs:List Cell):(eY cs).length=cs.length:=by
 unfold eY;rw[length_map,length_range]
theorem HY {cs:List Cell}{i:Nat}(h:i < cs.length):CG.row (eY cs) i=eX cs i:=by
 unfold CG.row eY;rw[List.getD_eq_getElem?_getD,List.getElem?_map,List.getElem?_range h];rfl
theorem ou {cs:List Cell}{i j:Nat}:j∈CG.row (eY cs) i↔i < cs.length/\j∈eX cs i:=by
 by_cases h:i < cs.length
 .rw[HY h];exact⟨fun q=>⟨h,q⟩,fun q=>q.2⟩
 .rw[j9 (by rw[oh];omega)];exact⟨fun q=>absurd q not_mem_nil,fun q=>absurd q.1 h⟩
theorem yZ (cs:List Cell):CG.Wf (eY cs):=by
 refine⟨fun i=>?_,fun i j hj=>?_⟩
 .by_cases h:i < cs.length
  .rw[HY h];exact yX cs i
  .rw[j9 (by rw[oh];omega)];exact List.Pairwise.nil
 .rw[oh];exact (mF.mp (ou.mp hj).2).1
theorem Vb {cs:List Cell}{i m:Nat}(hi:i < cs.length):CG.Reach (eY cs) i m↔du (aq cs) i m:=by
 have one: ∀{a b:Nat},b∈CG.row (eY cs) a->du (aq cs) a b:=fun {a b} h=>by
  rcases (mF.mp (ou.mp h).2).2 with e | e | e
  .rw[e];exact .refl _
  .exact .down (.refl _) e
  .exact .up (.refl _) e
 constructor
 .rintro⟨k,p⟩
  have: ∀{k a b:Nat},dF (eY cs) k a b->du (aq cs) a b:=fun {k a b} p=>by
   induction p with
   | zero i=>exact .refl i
   | succ e _ ih=>exact (one e).trans ih
  exact this p
 .intro h;have self: ∀{a:Nat},a < cs.length->a∈CG.row (eY cs) a:=fun {a} ha=>ou.mpr ⟨ha,mF.mpr ⟨ha,.inl rfl⟩⟩
  have lt: ∀{j:Nat},du (aq cs) i j->j < cs.length:=fun {j} q=>by
   have:=q.lt (bR cs) (by rw[bI];exact hi)
   rwa [bI] at this
  induction h with
  | refl=>exact .of_edge (self hi)
  | @down j m q e ih=>exact ih.snoc (ou.mpr ⟨lt q,mF.mpr ⟨jH e,.inr (.inl e)⟩⟩)
  | @up j m q e ih=>exact ih.snoc (ou.mpr ⟨lt q,mF.mpr ⟨lt (.up q e),.inr (.inr e)⟩⟩)
theorem Vc {cs:List Cell}{i:Nat}(hi:i < cs.length):Vanbkb.above (CG.gp (eY cs)) i=Vanbkb.groupOf (CG.gp (aq cs)) i:=by
 obtain⟨h1,h2⟩:=qP (bR cs) (i:=i) (by rw[bI];exact hi);refine CG.Asc.eq_of_mem (ju (yZ cs) i) h1 fun x=>?_;rw[cO (yZ cs),Vb hi,h2]
abbrev pgrp (cs:List Cell) (i:Nat):List Nat:=Vanbkb.groupOf (CG.gp (aq cs)) i
theorem Vd {cs:List Cell}{i:Nat}(hi:i < cs.length):i∈pgrp cs i:=(qP (bR cs) (i:=i) (by rw[bI];exact hi)).2 i |>.mpr (.refl i)
theorem Ia {cs:List Cell}{i m:Nat}(hi:i < cs.length)(h:m∈pgrp cs i):m < cs.length:=by
 have hi':i < (aq cs).length:=by rw[bI];exact hi
 have:=((qP (bR cs) hi').2 m).mp h;have:=this.lt (bR cs) hi'
 rwa [bI] at this
theorem Ve {cs:List Cell}{i:Nat}(hi:i < cs.length):(pgrp cs i).length<=cs.length:=(qP (bR cs) (i:=i) (by rw[bI];exact hi)).1.length_le fun x hx=>Ia hi hx
theorem Vf (cs:List Cell)(i:Nat):(dw cs i).length<=cs.length:=Nat.le_trans (length_filter_le ..) (by rw[length_range];exact Nat.le_refl _)
theorem Vg {cs:List Cell}{i:Nat}(hi:i < cs.length):(zs (eX cs i)).Perm (SetS.comes [] (zs ([i]++CG.row (aq cs) i++dw cs i))):=by
 have n1:(zs (eX cs i)).Nodup:=by
  rw[nodup_iff_pairwise_ne,pairwise_map];exact List.Pairwise.imp (fun {a b} h e=>absurd (Int.ofNat.inj e) (Nat.ne_of_lt h)) (yX cs i)
 have key: ∀j,j∈[i]++CG.row (aq cs) i++dw cs i↔j∈eX cs i:=fun j=>by
  rw[mF,mem_append,mem_append,mem_singleton];unfold dw;rw[mem_filter,mem_range,contains_iff_mem];constructor
  .rintro ((e | e) | ⟨e1,e2⟩)
   .exact⟨by rw[e];exact hi,.inl e⟩
   .exact⟨jH e,.inr (.inl e)⟩
   .exact⟨e1,.inr (.inr e2)⟩
  .rintro⟨h1,e | e | e⟩
   .exact .inl (.inl e)
   .exact .inl (.inr e)
   .exact .inr ⟨h1,e⟩
 refine (List.perm_ext_iff_of_nodup n1 (SetS.comes_nodup nodup_nil)).mpr fun k=>?_;rw[SetS.comes_mem,mem_map,mem_map];constructor
 .rintro⟨j,hj,rfl⟩;exact .inr ⟨j,(key j).mpr hj,rfl⟩
 .rintro (h | ⟨j,hj,rfl⟩)
  .cases h
  .exact⟨j,(key j).mp hj,rfl⟩
def Ie (C:Cs):Fsp:=bA (fun a:List Cell×Nat=>a.1.length<=12/\a.2 < a.1.length) (fun a=>[bB C a.1,.int (a.2:Nat)]) fun a=>(zs (eX a.1 a.2)).map .int
theorem Vh (Fu:Fun K "joined_places" "joined_places" wg f fd)(T:Txt K mg C)(f1:FnAt Pg w K mg base "readers_from" ["graph","place"] 1 (yW C)):au Pg w K mg base CX0 2 f fd ["graph","place"] (spF (Ie C)):=by
 have sc:ao ["graph","place"] ["graph","place"] (ak wg):=#[sC];wtm_at "cg0"
 .obtain⟨⟨cs,i⟩,⟨hlen,hi⟩,rfl,rfl,h⟩:=h;replace hlen:cs.length<=12:=hlen;replace hi:i < cs.length:=hi
  have hip:i < (aq cs).length:=by rw[bI];exact hi
  have h1:=mz cs i;have h2:=Vf cs i;replace h: ∀ad,P (.pt ad) [(ad,.lst ((zs (eX cs i)).map .int))]:=h;show DB _ _ [some (.d (bB C cs)),some (.d (.int (i:Nat)))] [] _
  have hl:(zs ([i]++CG.row (aq cs) i++dw cs i)).length<=25:=by
   rw[length_map,length_append,length_append,length_singleton];omega
  have hcl:(SetS.comes [] (zs ([i]++CG.row (aq cs) i++dw cs i))).length < 64:=by
   have:=SetS.comes_len (l:=zs ([i]++CG.row (aq cs) i++dw cs i)) (acc:=[]);rw[length_nil] at this;omega
  have e:(zs ([i]++CG.row (aq cs) i++dw cs i)).map D.int=([.int (i:Nat)]++(zs (CG.row (aq cs) i)).map D.int)++(zs (dw cs i)).map D.int:=by
   unfold zs;rw[map_append,map_append,map_append,map_append];rfl
  refine aj (aF (DY (ns:=zs ([i]++CG.row (aq cs) i++dw cs i)) (out:=zs (eX cs i)) ?ls hcl (by unfold scanBound;omega) (Vg hi) (nQ (yX cs i).le) #[rR] #[rR] #[blt] #[rR] #[blt]) fun a=>h a)
  case ls =>
   rw[e];refine YN.list (gW (YN.list (gW (YN.list (aY (aG #[dp] aW) bu)) (YP.list (kJ hip #[dp] #[dp])) ?_)) (YN.list (bx (fun _=>f1) #[da] (aP (cs,i) hlen rfl rfl) #[room] #[rR])) ?_)
   all_goals simp only[length_append,length_cons,length_nil,length_map];rw[sizeLine_eq];omega
def iw (cs:List Cell):List (List Nat):=((List.range cs.length).filter fun i=>(pgrp cs i).head?==some i).map fun i=>pgrp cs i
def Ig (C:Cs):Fsp:=bA (fun cs:List Cell=>cs.length<=12) (fun cs=>[bB C cs]) fun cs=>(iw cs).map aD
theorem Vi:ao ["graph","joined","groups","place","group"] ["graph"] (ak v9):=⟨rfl,rfl,rfl,by decide +kernel,rfl,by decide +kernel,by decide +kernel⟩
theorem Vj (cs:List Cell):(eY cs).map aD=(List.range cs.length).map fun i=>aD (eX cs i):=by
 unfold eY;rw[List.map_map];rfl
theorem Vk {f : Addr} {fd : FuncData} (Fu : Fun K "groups_of" "groups_of" v9 f fd) (T : Txt K mg C) (f1 : FnAt Pg w K mg base "joined_places" ["graph", "place"] 2 (Ie C)) (f2 : FnAt Pg w K mg base "reached_places" ["links", "start"] 1 yJ) : au Pg w K mg base CX0 3 f fd ["graph"] (spF (Ig C)) := by
  have sc := Vi
  refine j4 Fu sc (fun ss γ P h => ?_) (fun cdv A outer s H E hr ss γ P h => ?_)
  · obtain ⟨_, _, rfl, _⟩ := h
    rfl
  · obtain ⟨cs, hlen, rfl, rfl, h⟩ := h
    replace hlen : cs.length ≤ 12 := hlen
    replace h : ∀ ad, P (.pt ad) [(ad, .lst ((iw cs).map aD))] := h
    have hz : (List.range cs.length).length ≤ sizeLine := by rw [length_range, sizeLine_eq]; omega
    show DB _ _ [some (.d (bB C cs)), none, none, none, none] [] _
    refine aj (bj (k := 1) (x := jG cs.length fun i => aD (eX cs i)) (YN.data ?lc) ?_ #[nd] (fun _ => rfl) #[vis] (fun _ => rfl) #[vis])
    case lc =>
     refine' cP (items := List.range cs.length) (g := fun i => D.int (i : Nat)) (own := [("place", 3)]) ?c ?n ?i ?ok ?g ?e hz
     wtm_at "lc"
     case i =>
      refine YI.o (ut (n := cs.length) ?_ (by omega) (fun _ => rfl) #[blt])
      have e : (cs.length : Int) = ((((aq cs).map aD).length : Nat) : Int) := by rw [length_map, bI]
      rw [e]
      wtm_at "dp"
     case e =>
      intro x hx
      exact YN.data (bx (fun _ => f1) #[da] (aP (cs, x) ⟨hlen, mem_range.mp hx⟩ rfl rfl) #[room] (fun _ => rfl))
    refine' aj (jZ (k := 2) (items := List.range cs.length) (g := fun i => D.int (i : Nat)) (c := fun _ => true) (f := fun i => aD (pgrp cs i)) (own := [("place", 3)]) ?c2 ?n2 ?i2 ?ok2 ?g2 (fun _ _ => ug) ?e2 hz (fun _ => rfl) (fun _ => rfl) (fun _ => rfl) ?_)
    wtm_at "lc2"
    case i2 =>
      refine YI.o (ut (n := cs.length) ?_ (by omega) (fun _ => rfl) #[blt])
      have e : (cs.length : Int) = ((((List.range cs.length).map fun i => aD (eX cs i)).length : Nat) : Int) := by rw [length_map, length_range]
      rw [e]
      wtm_at "dp"
    case e2 =>
      intro x hx _
      have hxl := mem_range.mp hx
      show DP _ _ _ _ (aD (Vanbkb.groupOf (CG.gp (aq cs)) x))
      rw [← Vc hxl]
      refine YN.data (bx (fun _ => f2) ?_ (aP (eY cs, x) ⟨yZ cs, by rw [oh]; exact hlen, by rw [oh]; exact hxl⟩ rfl rfl) #[room] (fun _ => rfl))
      show DA _ _ _ _ [.lst ((eY cs).map aD), .int (x : Nat)]
      rw [Vj]
      wtm_at "da"
    rw [filter_all]
    unfold iw at h
    rw [List.map_map] at h
    refine' aj (aF (dD (items := List.range cs.length) (g := fun i => D.tup [.int (i : Nat), aD (pgrp cs i)]) (c := fun i => (pgrp cs i).head? == some i) (f := fun i => aD (pgrp cs i)) (own := [("place", 3), ("group", 4)]) ?c3 ?n3 ?i3 ?ok3 ?g3 ?t3 ?e3 hz) h)
    wtm_at "lc3"
    case i3 =>
      rw [← rD]
      exact jo (YP.list #[dp]) (fun _ => rfl) #[blt]
    case t3 =>
      intro x hx
      have hs := Vd (mem_range.mp hx)
      cases hg : pgrp cs x with
      | nil => rw [hg] at hs; cases hs
      | cons a l =>
        have e : ((a :: l).head? == some x) = decide ((a : Int) = (x : Int)) := by
          (rw [Bool.eq_iff_iff, beq_iff_eq, decide_eq_true_eq])
          show some a = some x ↔ _
          rw [Option.some.injEq]
          omega
        rw [e]
        exact cN (pY (gG (l := (zs (a :: l)).map D.int) #[dl] dm (by decide) rfl) #[dp])
    case e3 => exact fun x _ _ => by wtm_at "dp"
end
end
section
section
def kZ:Option (List Nat)->D
 | some l=>aD l
 | none=>.non
abbrev dJ (cs:List Cell) (to:List Nat) (b:Nat):Option (List Nat):=Vanbkb.shortest (CG.gp (aq cs)) to b
def Ih (C:Cs):Fsp:=dR (fun a:List Cell×Nat×List Nat=>a.1.length<=12/\a.2.1 < a.1.length) (fun a=>[bB C a.1,.int (a.2.1:Nat),aD a.2.2]) fun a=>kZ (dJ a.1 a.2.2 a.2.1)
abbrev dQs (Q:List (List Nat×Nat)):List D:=Q.map fun q=>aD q.1
abbrev dQr (Q:List (List Nat×Nat)):List D:=(zs (Q.map (·.2))).map D.int
theorem Ii {l:List Nat}{x:Nat}(h:l[l.length - 1]?=some x):((zs l).map D.int)[((zs l).map D.int).length - 1]?=some (.int (x:Nat)):=by
 rw[length_map,length_map,List.getElem?_map,List.getElem?_map,h];rfl
theorem Vl (Fu:Fun K "shortest_chain" "shortest_chain" wD f fd)(T:Txt K mg C):au Pg w K mg base CX0 1 f fd ["graph","begin","goals"] (spF (Ih C)):=by
 have sc:ao ["graph","begin","goals","chains","reached","followed","chain","source"] ["graph","begin","goals"] (ak wD):=#[sC];wtm_at "cg0"
 .obtain⟨⟨cs,b,to⟩,⟨hlen,hb⟩,rfl,rfl,h⟩:=h;replace hlen:cs.length<=12:=hlen;replace hb:b < cs.length:=hb;replace h:P (.d (kZ (dJ cs to b))) []:=h;have wf:=bR cs;have hsl:=bI cs
  have hb':b < (aq cs).length:=by rw[hsl];exact hb
  show DB _ _ [some (.d (bB C cs)),some (.d (.int (b:Nat))),some (.d (aD to)),none,none,none,none,none] [] _;refine aj (iQ (k:=3) (l:=[aD [b]]) (aY (aG (YN.data (aY (aG #[dp] aW) bu)) aW) bu) (fun ca=>?_) #[nd] #[rR] #[vis] #[rR] #[vis]);refine aj (iQ (k:=4) (l:=[.int (b:Nat)]) (aY (aG #[dp] aW) bu) (fun ra=>?_) #[nd] #[rR] #[vis] #[rR] #[vis]);refine aj (bj (k:=5) (x:=.int 0) dm ?_ #[nd] #[rR] #[vis] #[rR] #[vis]);refine ig fun nd=>?_;have ne:ra≠ca:=fun e=>(nodup_cons.mp nd).1 (by rw[e];exact mem_cons_self ..);refine aj (ql (fun ρ γ=> ∃Q k o6 o7,ρ=[some (.d (bB C cs)),some (.d (.int (b:Nat))),some (.d (aD to)),some (.pt ca),some (.pt ra),some (.d (.int (k:Nat))),o6,o7]/\γ=[(ra,.lst (dQr Q)),(ca,.lst (dQs Q))]/\CG.Que (aq cs) b to Q k) (fun ρ _=>cs.length - fol ρ 5) #[own] ?w0 ?ws)
  case w0=>exact⟨[([b],b)],0,none,none,rfl,rfl,CG.Que.start _ b to⟩
  case ws =>
   rintro ρ γ ⟨Q,k,o6,o7,rfl,rfl,hQ⟩;have hql:=hQ.len wf hb';rw[hsl] at hql;have hle:=hQ.le
   have elen:(((dQs Q).length:Nat):Int)=(Q.length:Int):=by rw[length_map]
   refine⟨decide ((k:Int) < (((dQs Q).length:Nat):Int)),by wtm_at "dt",fun hb2=>?_,fun hb2=>?_⟩
   .rw[elen,decide_eq_true_eq] at hb2
    have hkl:k < Q.length:=by omega
    obtain⟨q,hq⟩: ∃q,Q[k]?=some q:=⟨_,List.getElem?_eq_getElem hkl⟩
    have hqw:=hQ.way q (mem_of_getElem? hq);have hq2:=hqw.lt wf hb';have hqs:=hqw.last;have hq1:q.1.length<=Q.length:=hQ.clen (c:=q.1) (x:=q.2) (mem_of_getElem? hq);refine aj (bj (k:=6) (x:=aD q.1) (gG (k:=(k:Int)) (l:=dQs Q) #[dl] #[dp] (by omega) (by rw[Int.toNat_natCast,List.getElem?_map,hq];rfl)) ?_ #[nd] #[rR] #[vis] #[rR] #[vis]);refine aj (aZ (t:=(zs to).contains (q.2:Int)) (um (Eb (l:=(zs q.1).map D.int) #[dl] (Ea dm) (Ii hqs)) #[dl]) (fun hb3=>?_) (fun hb3=>?_))
    .rw[dO,contains_iff_mem] at hb3;have e:=hQ.found wf hb' hq hb3;have e:dJ cs to b=some q.1:=e;rw[e] at h;exact km (List.Perm.refl _) (km (List.Perm.refl _) (aj (bH #[dp] h)))
    .rw[dO] at hb3
     have hmiss:q.2∉to:=fun z=>by rw[contains_iff_mem.mpr z] at hb3;cases hb3
     refine aO (aj (lN (items:=CG.row (aq cs) q.2) (g:=fun j=>.int (j:Nat)) (vs:=[7]) (fun t ρ γ=> ∃Q2 o7,ρ=[some (.d (bB C cs)),some (.d (.int (b:Nat))),some (.d (aD to)),some (.pt ca),some (.pt ra),some (.d (.int (k:Nat))),some (.d (aD q.1)),o7]/\γ=[(ra,.lst (dQr Q2)),(ca,.lst (dQs Q2))]/\CG.Trn (aq cs) b to Q k q t Q2) #[own] #[rR] ?i ?f0 (fun t j ρ γ hj hP=>lM (k:=7) (by decide) #[nd] #[rR] #[vis] #[vis]) ?b ?d))
     case i =>
      rw[bU];exact mZ (kJ hq2.1 #[dp] (Eb (l:=(zs q.1).map D.int) #[dl] (Ea dm) (Ii hqs)))
     case f0=>exact⟨Q,_,rfl,rfl,CG.Trn.start hQ q⟩
     case b =>
      rintro t j ρ γ hj ⟨Q2,o7,rfl,rfl,hT⟩
      have h2l:Q2.length<=12:=by
       have:=kE hT.nd fun x hx=>CG.Trn.lt wf hT hQ hb' hq2.1 x hx;rw[length_map,hsl] at this;omega
      refine aj (aZ #[dt] (fun hb4=>?_) (fun hb4=>?_))
      all_goals rw[dO] at hb4
      .have hn:j∉Q2.map (·.2):=by simpa using hb4
       refine aj (d9 (j0 (x:=.int (j:Nat)) #[ptr] #[mem] #[dp] (by rw[length_map,length_map,length_map,sizeLine_eq];omega) ?_));rw[jA,fD (Ne.symm ne),mq];refine aj (d9 (j0 (x:=aD (q.1++[j])) #[ptr] #[mem] ?ex (by rw[length_map,sizeLine_eq];omega) ?_))
       case ex =>
        unfold aD;rw[yI];refine YN.data (gW #[dl] (YN.list (aY (aG #[dp] aW) bu)) ?_);rw[length_map,length_map,length_singleton,sizeLine_eq];omega
       rw[fD ne,bT];refine aO (aO ⟨Q2++[(q.1++[j],j)],_,rfl,?_,hT.add wf hj hn⟩)
       have e1:dQr (Q2++[(q.1++[j],j)])=dQr Q2++[D.int (j:Nat)]:=by
        unfold dQr;rw[map_append];exact yI _ _
       have e2:dQs (Q2++[(q.1++[j],j)])=dQs Q2++[aD (q.1++[j])]:=map_append ..;rw[e1,e2]
      .have hn:j∈Q2.map (·.2):=contains_iff_mem.mp (by simpa only[Bool.not_eq_false'] using hb4);exact aO (aO ⟨Q2,_,rfl,rfl,hT.skip hj hn⟩)
     case d =>
      rintro ρ γ ⟨Q2,o7,rfl,rfl,hT⟩;refine aj (Dl (k:=5) rfl #[dp] ?_ #[nd] #[rR] #[vis] #[vis]);refine aO ⟨⟨Q2,k+1,_,_,rfl,rfl,hT.done wf hQ hq hmiss⟩,?_⟩;show cs.length - ((k:Int)+1).toNat < cs.length - ((k:Nat):Int).toNat;omega
   .rw[elen,decide_eq_false_iff_not] at hb2
    have hk2:k=Q.length:=by omega
    subst hk2;have e:dJ cs to b=none:=hQ.lost wf hb';rw[e] at h;exact km (List.Perm.refl _) (km (List.Perm.refl _) (aj (bH pU h)))
end
end
section
section
variable {ι:Type}{F:ι->Cx}{P:Po}{cs:List Cell}{n:Int}{ρ:Rho}{o:Option SV}{rest:List Stmt}{p1 p2 p3 p4 p5 p6 p7 p8 p9 p10 p11 p12 p13:Pos}{j:Nat}{K:Frag}{mg:Str->Option Value}{C:Cs}
theorem oA (T:Txt K mg C)(fa: ∀i,dU (F i).prog (F i).w (F i).K (F i).mg (F i).base C)(hn:az cs n=none-> ∀a,P.rt (.pt a) [(a,.lst [.int (-8)])])
  (hs: ∀i,az cs n=some i->i < cs.length->DB F rest (some (.d (aC C cs))::some (.d (.int n))::some (.d (.int (i:Nat)))::ρ) [] P)
  (hm: ∀i,(F i).mg=mg) (room: ∀i,aR 1 (F i).A) (nd: ∀i,(F i).N.Nodup) (h0: ∀i,(F i).N[0]?=some ("row":Str)) (h1: ∀i,(F i).N[1]?=some ("number":Str)) (h2: ∀i,(F i).N[2]?=some ("place":Str)) (v0: ∀i,Vis (F i).env.scope "row") (v1: ∀i,Vis (F i).env.scope "number") (v2: ∀i,Vis (F i).env.scope "place") (l2: ∀i,Loc (F i).env.scope "place") (fn: ∀i,(F i).fn "place"=true\/(F i).env.scope.names.lookup ("place":Str)=some .local)
  (gl: ∀i,Gl (F i) "place_of") (gl2: ∀i,Gl (F i) "NO_SUCH_CELL") (sw: ∀i,swapsWith (.Call (.Name "place_of" p2) [.Name "row" p3,.Name "number" p4] [] p5) (some (.Name "place" p1)) p6.line (F i).env=pure false)
  (e1: ∀i,starEach [.Name "row" p3,.Name "number" p4] (F i).env=(false,eval (.Name "row" p3) (F i).env)::starEach [.Name "number" p4] (F i).env) (e2: ∀i,starEach [.Name "number" p4] (F i).env=[(false,eval (.Name "number" p4) (F i).env)]) (e3: ∀i,starEach [.Name "NO_SUCH_CELL" p10] (F i).env=[(false,eval (.Name "NO_SUCH_CELL" p10) (F i).env)]) :
  DB F (.Assign [.Name "place" p1] (.Call (.Name "place_of" p2) [.Name "row" p3,.Name "number" p4] [] p5) p6::.If (.Compare (.Name "place" p7) [.Is] [.Constant .none j p8] p9) [.Return (some (.List [.Name "NO_SUCH_CELL" p10] p11)) p12] [] p13::rest) (some (.d (aC C cs))::some (.d (.int n))::o::ρ) [] P:=by
 refine aj (bj (k:=2) (x:=cG (az cs n)) (bD fa (aG (pR (k:=0) rfl h0 v0) (aG (pR (k:=1) rfl h1 v1) aW e2) e1) (bh (cs,n) trivial rfl rfl) room gl (by decide) e1 (fun i=>by rw[e2 i];rfl)) ?_ nd h2 l2 sw fn);refine aj (aZ (lJ (x:=cG (az cs n)) (pR (k:=2) rfl h2 v2)) (fun hb=>?_) (fun hb=>?_))
 .cases hp:az cs n with
  | some i=>rw[hp] at hb;exact nomatch (show false=true from hb)
  | none=>exact aj (aF (l:=[.int (-8)]) (aY (aG (Gn T rfl hm gl2) aW e3) bu) (hn hp))
 .cases hp:az cs n with
  | none=>rw[hp] at hb;exact nomatch (show true=false from hb)
  | some i=>exact aO (hs i hp (kY hp))
end
local macro_rules | `(tactic| wtm_at "ask") => `(tactic| ((case hm => exact fun _ => rfl); (case ro => wtm_at "room"); (case nd => wtm_at "nd"); (case h0 => exact fun _ => rfl); (case h1 => exact fun _ => rfl); (case h2 => exact fun _ => rfl); (case v0 => wtm_at "vis"); (case v1 => wtm_at "vis"); (case v2 => wtm_at "vis"); (case l2 => wtm_at "vis"); (case fn => wtm_at "vis"); (case gl => exact fun _ => rfl); (case gm => exact fun _ => rfl); (case sw => exact fun _ => rfl); (case e1 => exact fun _ => rfl); (case e2 => exact fun _ => rfl); (case e3 => exact fun _ => rfl)))
section
theorem oE {f:List Cell->Nat->List Int}{cs:List Cell}{n:Int}(h:az cs n=none):bf f cs n=[-8]:=by
 unfold bf;rw[h]
theorem oF {f:List Cell->Nat->List Int}{cs:List Cell}{n:Int}{i:Nat}(h:az cs n=some i):bf f cs n=f cs i:=by
 unfold bf;rw[h]
theorem Ij {cs:List Cell}{i j:Nat}(h:j∈eV cs i):j < cs.length:=mem_range.mp (mem_filter.mp h).1
theorem Ik (cs:List Cell)(i:Nat):(eV cs i).length<=cs.length:=Nat.le_trans (length_filter_le ..) (by rw[length_range];exact Nat.le_refl _)
theorem Vm (Fu:Fun K "cells_above" "cells_above" wJ f fd)(T:Txt K mg C)(mkG:dI Pg w K mg base C)(f0:dU Pg w K mg base C)(ft:eU Pg w K mg base C):au Pg w K mg base CX0 4 f fd ["row","number"] (spF (fJ C fun cs i=>aN cs (bw cs i))):=by
 have sc:ao ["row","number","place"] ["row","number"] (ak wJ):=#[sC];wtm_at "cg0"
 .obtain⟨⟨cs,n⟩,ok,rfl,rfl,h⟩:=h;replace ok:bF cs:=ok;replace h: ∀ad,P (.pt ad) [(ad,.lst ((bf (fun cs i=>aN cs (bw cs i)) cs n).map .int))]:=h;show DB _ _ [some (.d (aC C cs)),some (.d (.int n)),none] [] _;refine' oA T (fun _=>f0) (fun hp=>?_) (fun i hp hi=>?_) ?hm ?ro ?nd ?h0 ?h1 ?h2 ?v0 ?v1 ?v2 ?l2 ?fn ?gl ?gm ?sw ?e1 ?e2 ?e3;wtm_at "ask"
  .rwa [oE hp] at h
  .rw[oF hp] at h;exact aj (aF (ir (fun _=>ft) #[dp] (kO (abv:=bw cs) hi (jY (dX (fun _=>mkG) ok #[dp] #[room] #[rR]) #[cls] #[noa] rfl) #[dp]) (Nat.le_trans (rA cs i) ok.len) (fun p hp=>Hr hp) #[room] #[rR]) h)
theorem Vn (Fu:Fun K "cells_below" "cells_below" wK f fd)(T:Txt K mg C)(mkG:dI Pg w K mg base C)(f0:dU Pg w K mg base C)(ft:eU Pg w K mg base C)(f1:FnAt Pg w K mg base "places_below" ["graph","place"] 1 (yV C)):au Pg w K mg base CX0 4 f fd ["row","number"] (spF (fJ C fun cs i=>aN cs (eV cs i))):=by
 have sc:ao ["row","number","place"] ["row","number"] (ak wK):=#[sC];wtm_at "cg0"
 .obtain⟨⟨cs,n⟩,ok,rfl,rfl,h⟩:=h;replace ok:bF cs:=ok;replace h: ∀ad,P (.pt ad) [(ad,.lst ((bf (fun cs i=>aN cs (eV cs i)) cs n).map .int))]:=h;show DB _ _ [some (.d (aC C cs)),some (.d (.int n)),none] [] _;refine' oA T (fun _=>f0) (fun hp=>?_) (fun i hp hi=>?_) ?hm ?ro ?nd ?h0 ?h1 ?h2 ?v0 ?v1 ?v2 ?l2 ?fn ?gl ?gm ?sw ?e1 ?e2 ?e3;wtm_at "ask"
  .rwa [oE hp] at h
  .rw[oF hp] at h;exact aj (aF (ir (fun _=>ft) #[dp] (YN.data (bx (fun _=>f1) (aG (dX (fun _=>mkG) ok #[dp] #[room] #[rR]) (aG #[dp] aW)) (aP (cs,i) ok.len rfl rfl) #[room] #[rR])) (Nat.le_trans (Ik cs i) ok.len) (fun p hp=>Ij hp) #[room] #[rR]) h)
def jJ (cs:List Cell) (i:Nat):List Nat:=(eV cs i).filter fun o=>(bw cs i).contains o
theorem Vo (Fu:Fun K "circle_of_cell" "circle_of_cell" wL f fd)(T:Txt K mg C)(mkG:dI Pg w K mg base C)(f0:dU Pg w K mg base C)(ft:eU Pg w K mg base C)(f1:FnAt Pg w K mg base "places_below" ["graph","place"] 1 (yV C)):au Pg w K mg base CX0 4 f fd ["row","number"] (spF (fJ C fun cs i=>aN cs (jJ cs i))):=by
 have sc:ao ["row","number","place","graph","other"] ["row","number"] (ak wL):=#[sC];wtm_at "cg0"
 .obtain⟨⟨cs,n⟩,ok,rfl,rfl,h⟩:=h;replace ok:bF cs:=ok;have hlen:=ok.len;replace h: ∀ad,P (.pt ad) [(ad,.lst ((bf (fun cs i=>aN cs (jJ cs i)) cs n).map .int))]:=h;show DB _ _ [some (.d (aC C cs)),some (.d (.int n)),none,none,none] [] _;refine' oA T (fun _=>f0) (fun hp=>?_) (fun i hp hi=>?_) ?hm ?ro ?nd ?h0 ?h1 ?h2 ?v0 ?v1 ?v2 ?l2 ?fn ?gl ?gm ?sw ?e1 ?e2 ?e3;wtm_at "ask"
  .rwa [oE hp] at h
  .rw[oF hp] at h;have hl:=Ik cs i;refine aj (bj (k:=3) (x:=bB C cs) (dX (fun _=>mkG) ok #[dp] #[room] #[rR]) ?_ #[nd] #[rR] #[vis] #[rR] #[vis]);refine aj (aF (ir (fun _=>ft) #[dp] (YN.data ?lc) (Nat.le_trans (length_filter_le ..) (by omega)) (fun p hp=>Ij (mem_filter.mp hp).1) #[room] #[rR]) h)
   case lc =>
    rw[<-bU];refine' dD (items:=eV cs i) (g:=fun x=>D.int (x:Nat)) (c:=fun o=>(bw cs i).contains o) (own:=[("other",4)]) ?c ?n ?i ?ok ?g ?t ?e ?z;wtm_at "lc"
    case i =>
     rw[bU];exact bC (YN.list (bx (fun _=>f1) #[da] (aP (cs,i) ok.len rfl rfl) #[room] #[rR]))
    case t =>
     intro x hx;rw[<-dO];exact cN (um #[dp] (YP.list (kO (abv:=bw cs) hi #[dp] #[dp])))
    case e=>exact fun x _ _=>by wtm_at "dp"
    case z=>rw[sizeLine_eq];omega
theorem za {cs:List Cell}(hlen:cs.length<=12){to:List Nat}{b:Nat}(hb:b < cs.length):((dJ cs to b).getD []).length<=13/\ ∀x∈(dJ cs to b).getD [],x < cs.length:=by
 have hb':b < (aq cs).length:=by rw[bI];exact hb
 unfold dJ Vanbkb.shortest
 cases hs:Vanbkb.steps (CG.gp (aq cs)) to b with
 | none=>exact⟨Nat.zero_le _,fun x hx=>by cases hx⟩
 | some k =>
  obtain⟨x,_,hw⟩:=jz hs;have hl:=nO (CG.gp (aq cs)) to k b
  have hk:k < cs.length+1:=by
   unfold Vanbkb.steps at hs;have:=mem_range.mp (List.mem_of_find?_eq_some hs)
   rwa [lU,bI] at this
  refine⟨?_,fun y hy=>?_⟩
  .show (Vanbkb.chain (CG.gp (aq cs)) to k b).length<=13;omega
  .have:=(hw.lt (bR cs) hb').2 y hy
   rwa [bI] at this
abbrev zb (Pg:Program) (w:World) (K:Frag) (mg:Str->Option Value) (base:Heap) (C:Cs):Prop:=FnAt Pg w K mg base "shortest_chain" ["graph","begin","goals"] 1 (Ih C)
theorem Il {ι:Type}{F:ι->Cx}{ρ:Rho}{γ:Gm}{e e2:Expr}{o:Option (List Nat)}{j:Nat}{p1 p2 p3 p4:Pos}(h:DP F e ρ γ (kZ o))(h2:DP F e2 ρ γ (kZ o)):DP F (.IfExp (.Compare e [.Is] [.Constant .none j p1] p2) (.List [] p3) e2 p4) ρ γ (aD (o.getD [])):=by
 refine uf (lJ h) (fun z=>?_) (fun z=>?_)
 .cases o with
  | some l=>exact nomatch (show false=true from z)
  | none=>exact YN.data (aY aW)
 .cases o with
  | none=>exact nomatch (show true=false from z)
  | some l=>exact h2
def lg (cs:List Cell) (i:Nat):List Int:=aN cs ((dJ cs (dw cs i) i).getD [])
theorem Vp (Fu:Fun K "ring_of_cell" "ring_of_cell" wN f fd)(T:Txt K mg C)(mkG:dI Pg w K mg base C)(f0:dU Pg w K mg base C)(ft:eU Pg w K mg base C)(f1:FnAt Pg w K mg base "readers_from" ["graph","place"] 1 (yW C))(f2:zb Pg w K mg base C):au Pg w K mg base CX0 4 f fd ["row","number"] (spF (fJ C lg)):=by
 have sc:ao ["row","number","place","graph","chain"] ["row","number"] (ak wN):=#[sC];wtm_at "cg0"
 .obtain⟨⟨cs,n⟩,ok,rfl,rfl,h⟩:=h;replace ok:bF cs:=ok;have hlen:=ok.len;replace h: ∀ad,P (.pt ad) [(ad,.lst ((bf lg cs n).map .int))]:=h;show DB _ _ [some (.d (aC C cs)),some (.d (.int n)),none,none,none] [] _;refine' oA T (fun _=>f0) (fun hp=>?_) (fun i hp hi=>?_) ?hm ?ro ?nd ?h0 ?h1 ?h2 ?v0 ?v1 ?v2 ?l2 ?fn ?gl ?gm ?sw ?e1 ?e2 ?e3;wtm_at "ask"
  .rwa [oE hp] at h
  .rw[oF hp] at h;have hk:=za (to:=dw cs i) hlen hi;refine aj (bj (k:=3) (x:=bB C cs) (dX (fun _=>mkG) ok #[dp] #[room] #[rR]) ?_ #[nd] #[rR] #[vis] #[rR] #[vis]);refine aj (bj (k:=4) (x:=kZ (dJ cs (dw cs i) i)) (bD (fun _=>f2) (aG #[dp] (aG #[dp] (aG (YN.data (bx (fun _=>f1) #[da] (aP (cs,i) hlen rfl rfl) #[room] #[rR])) aW))) (bh (cs,i,dw cs i) ⟨hlen,hi⟩ rfl rfl) #[room] #[rR]) ?_ #[nd] #[rR] #[vis] #[rR] #[vis]);exact aj (aF (rC (fun _=>ft) #[dp] (Il #[dp] #[dp]) hk.1 hk.2 #[room] #[rR]) h)
def oG (cs:List Cell) (i:Nat):List Int:=aN cs ((dJ cs (iu cs) i).getD [])
theorem Vq (Fu:Fun K "why_of_cell" "why_of_cell" wO f fd)(T:Txt K mg C)(mkG:dI Pg w K mg base C)(f0:dU Pg w K mg base C)(ft:eU Pg w K mg base C)(f1:FnAt Pg w K mg base "sick_places" ["graph"] 1 (HX C))(f2:zb Pg w K mg base C):au Pg w K mg base CX0 4 f fd ["row","number"] (spF (fJ C oG)):=by
 have sc:ao ["row","number","place","graph","chain"] ["row","number"] (ak wO):=#[sC];wtm_at "cg0"
 .obtain⟨⟨cs,n⟩,ok,rfl,rfl,h⟩:=h;replace ok:bF cs:=ok;have hlen:=ok.len;replace h: ∀ad,P (.pt ad) [(ad,.lst ((bf oG cs n).map .int))]:=h;show DB _ _ [some (.d (aC C cs)),some (.d (.int n)),none,none,none] [] _;refine' oA T (fun _=>f0) (fun hp=>?_) (fun i hp hi=>?_) ?hm ?ro ?nd ?h0 ?h1 ?h2 ?v0 ?v1 ?v2 ?l2 ?fn ?gl ?gm ?sw ?e1 ?e2 ?e3;wtm_at "ask"
  .rwa [oE hp] at h
  .rw[oF hp] at h;have hk:=za (to:=iu cs) hlen hi;refine aj (bj (k:=3) (x:=bB C cs) (dX (fun _=>mkG) ok #[dp] #[room] #[rR]) ?_ #[nd] #[rR] #[vis] #[rR] #[vis]);refine aj (bj (k:=4) (x:=kZ (dJ cs (iu cs) i)) (bD (fun _=>f2) (aG #[dp] (aG #[dp] (aG (YN.data (bx (fun _=>f1) #[da] (aP cs hlen rfl rfl) #[room] #[rR])) aW))) (bh (cs,i,iu cs) ⟨hlen,hi⟩ rfl rfl) #[room] #[rR]) ?_ #[nd] #[rR] #[vis] #[rR] #[vis]);exact aj (aF (rC (fun _=>ft) #[dp] (Il #[dp] #[dp]) hk.1 hk.2 #[room] #[rR]) h)
def lq (cs:List Cell) (a b:Int):List Int:=match az cs a with
 | none=>[-8]
 | some i=>match az cs b with
  | none=>[-8]
  | some j=>match dJ cs [j] i with
   | some l=>aN cs l
   | none=>[-12]
def Im (C:Cs):Fsp:=bA (fun a:List Cell×Int×Int=>bF a.1) (fun a=>[aC C a.1,.int a.2.1,.int a.2.2]) fun a=>(lq a.1 a.2.1 a.2.2).map .int
theorem Vr (Fu:Fun K "way_between" "way_between" wM f fd)(T:Txt K mg C)(mkG:dI Pg w K mg base C)(f0:dU Pg w K mg base C)(ft:eU Pg w K mg base C)(f2:zb Pg w K mg base C):au Pg w K mg base CX0 4 f fd ["row","begin_number","end_number"] (spF (Im C)):=by
 have sc:ao ["row","begin_number","end_number","begin","end","chain"] ["row","begin_number","end_number"] (ak wM):=#[sC];wtm_at "cg0"
 .obtain⟨⟨cs,a,b⟩,ok,rfl,rfl,h⟩:=h;replace ok:bF cs:=ok;have hlen:=ok.len;replace h: ∀ad,P (.pt ad) [(ad,.lst ((lq cs a b).map .int))]:=h;show DB _ _ [some (.d (aC C cs)),some (.d (.int a)),some (.d (.int b)),none,none,none] [] _;unfold lq at h;refine aj (bj (k:=3) (x:=cG (az cs a)) (bD (fun _=>f0) #[da] (bh (cs,a) trivial rfl rfl) #[room] #[rR]) ?_ #[nd] #[rR] #[vis] #[rR] #[vis]);refine aj (bj (k:=4) (x:=cG (az cs b)) (bD (fun _=>f0) #[da] (bh (cs,b) trivial rfl rfl) #[room] #[rR]) ?_ #[nd] #[rR] #[vis] #[rR] #[vis]);refine aj (aZ #[dt] (fun hb=>?_) (fun hb=>?_))
  .refine aj (aF (l:=[.int (-8)]) (aY #[da] bu) ?_)
   cases hp:az cs a with
   | none=>rwa [hp] at h
   | some i =>
    rw[hp] at h
    cases hq:az cs b with
    | none=>rwa [hq] at h
    | some j=>rw[hp,hq] at hb;exact nomatch (show false=true from hb)
  .cases hp:az cs a with
   | none=>rw[hp] at hb;exact nomatch (show true=false from hb)
   | some i =>
    cases hq:az cs b with
    | none=>rw[hp,hq] at hb;exact nomatch (show true=false from hb)
    | some j =>
     rw[hp,hq] at h;have hi:=kY hp;have hk:=za (to:=[j]) hlen hi;refine aO (aj (bj (k:=5) (x:=kZ (dJ cs [j] i)) (bD (fun _=>f2) (aG (dX (fun _=>mkG) ok #[dp] #[room] #[rR]) (aG #[dp] (aG (YN.data (aY (aG #[dp] aW) bu)) aW))) (bh (cs,i,[j]) ⟨hlen,hi⟩ rfl rfl) #[room] #[rR]) ?_ #[nd] #[rR] #[vis] #[rR] #[vis]))
     cases hs:dJ cs [j] i with
     | none =>
      replace h: ∀ad,P (.pt ad) [(ad,.lst (((match dJ cs [j] i with | some l=>aN cs l | none=>[-12]):List Int).map .int))]:=h;rw[hs] at h;refine aj (aZ #[dt] (fun _=>?_) (fun hb=>?_))
      .exact aj (aF (l:=[.int (-12)]) (aY #[da] bu) h)
      .exact nomatch (show true=false from hb)
     | some l =>
      replace h: ∀ad,P (.pt ad) [(ad,.lst (((match dJ cs [j] i with | some l=>aN cs l | none=>[-12]):List Int).map .int))]:=h;rw[hs] at h hk;refine aj (aZ #[dt] (fun hb=>?_) (fun _=>?_))
      .exact nomatch (show false=true from hb)
      .exact aO (aj (aF (rC (fun _=>ft) #[dp] #[dp] hk.1 hk.2 #[room] #[rR]) h))
theorem Vs {cs:List Cell}(hlen:cs.length<=12):LsOk cs (iw cs):=by
 refine⟨?_,fun r hr=>?_,fun r hr=>?_⟩
 .unfold iw;rw[length_map];exact Nat.le_trans (length_filter_le ..) (by rw[length_range];exact hlen)
 all_goals
  obtain⟨i,hi,rfl⟩:=mem_map.mp hr;have hi:=mem_range.mp (mem_filter.mp hi).1
 .exact Nat.le_trans (Ve hi) hlen
 .exact fun p hp=>Ia hi hp
def Io (C:Cs):Fsp:=bA (fun cs:List Cell=>bF cs) (fun cs=>[aC C cs]) fun cs=>(gQ cs (iw cs)).map .int
theorem Vt (Fu:Fun K "groups_of_cells" "groups_of_cells" wQ f fd)(T:Txt K mg C)(mkG:dI Pg w K mg base C)(f1:FnAt Pg w K mg base "groups_of" ["graph"] 3 (Ig C))(f2:FnAt Pg w K mg base "told_lists" ["row","lists"] 2 (yU C)):au Pg w K mg base CX0 4 f fd ["row"] (spF (Io C)):=by
 have sc:ao ["row"] ["row"] (ak wQ):=#[sC];wtm_at "cg0"
 .obtain⟨cs,ok,rfl,rfl,h⟩:=h;replace ok:bF cs:=ok;show DB _ _ [some (.d (aC C cs))] [] _;exact aj (aF (bx (fun _=>f2) (aG #[dp] (aG (YN.data (bx (fun _=>f1) (aG (dX (fun _=>mkG) ok #[dp] #[room] #[rR]) aW) (aP cs ok.len rfl rfl) #[room] #[rR])) aW)) (aP (cs,iw cs) (Vs ok.len) rfl rfl) #[room] #[rR]) h)
end
end
section
section
theorem Ip (g:Vanbkb.Graph)(ok:List Nat)(wd:Nat): ∀ (k:Nat) (done:List Nat),∀r∈Vanbkb.rounds g ok wd k done,r.Sublist ok
 | 0,_,r,hr=>by cases hr
 | k+1,done,r,hr=>by
  unfold Vanbkb.rounds at hr;split at hr
  .cases hr
  .rcases mem_cons.mp hr with e | hr
   .rw[e];unfold Vanbkb.ready;exact (take_sublist ..).trans (filter_sublist ..)
   .exact Ip g ok wd k _ r hr
theorem Vu {cs:List Cell}(hlen:cs.length<=12)(wd:Nat):LsOk cs (il cs wd):=by
 have hs:=Ip (CG.gp (aq cs)) (aX cs) wd cs.length [];refine⟨Nat.le_trans (yO ..) hlen,fun r hr=>?_,fun r hr p hp=>?_⟩
 .exact Nat.le_trans (hs r hr).length_le (Nat.le_trans (u9 cs) hlen)
 .exact (gJ.mp ((hs r hr).subset hp)).1
def oH (cs:List Cell) (n:Int):List Int:=if (!Vanbkb.within n 1 12)=true then [-10] else gQ cs (il cs n.toNat)
def Ir (C:Cs):Fsp:=bA (fun a:List Cell×Int=>bF a.1) (fun a=>[aC C a.1,.int a.2]) fun a=>(oH a.1 a.2).map .int
theorem Vv (Fu:Fun K "waves_of_cells" "waves_of_cells" wU f fd)(T:Txt K mg C)(mkG:dI Pg w K mg base C)(f0:FnAt Pg w K mg base "is_width" ["value"] 1 Gq)(f1:FnAt Pg w K mg base "waves_of" ["graph","width"] 2 (yN C))(f2:FnAt Pg w K mg base "told_lists" ["row","lists"] 2 (yU C)):au Pg w K mg base CX0 4 f fd ["row","width"] (spF (Ir C)):=by
 have sc:ao ["row","width"] ["row","width"] (ak wU):=#[sC];wtm_at "cg0"
 .obtain⟨⟨cs,n⟩,ok,rfl,rfl,h⟩:=h;replace ok:bF cs:=ok;replace h: ∀ad,P (.pt ad) [(ad,.lst ((oH cs n).map .int))]:=h;show DB _ _ [some (.d (aC C cs)),some (.d (.int n))] [] _;unfold oH at h;refine aj (aZ (jn (dN (bD (fun _=>f0) #[da] (bh n trivial rfl rfl) #[room] #[rR]))) (fun hb=>?_) (fun hb=>?_))
  .rw[itT hb] at h;exact aj (aF (l:=[.int (-10)]) (aY #[da] bu) h)
  rw[itF hb] at h;have hw:=dq.mp (Bool.not_eq_false' .. ▸ hb:Vanbkb.within n 1 12=true)
  obtain⟨x,rfl⟩: ∃x:Nat,n=(x:Int):=⟨n.toNat,(Int.toNat_of_nonneg (by omega)).symm⟩
  rw[Int.toNat_natCast] at h;exact aO (aj (aF (bx (fun _=>f2) (aG #[dp] (aG (YN.data (bx (fun _=>f1) (aG (dX (fun _=>mkG) ok #[dp] #[room] #[rR]) (aG #[dp] aW)) (aP (cs,x) ⟨ok.len,by show 1<=x;omega⟩ rfl rfl) #[room] #[rR])) aW)) (aP (cs,il cs x) (Vu ok.len x) rfl rfl) #[room] #[rR]) h))
def fU (cs:List Cell) (n:Int):Int:=match az cs n with
 | none=> -8
 | some i=>if (!decide ((aV cs i:Int)=0))=true then -11 else 0
def Iu (C:Cs):Fsp:=dR (fun a:List Cell×Int=>bF a.1) (fun a=>[aC C a.1,.int a.2]) fun a=>.int (fU a.1 a.2)
theorem Vw (Fu:Fun K "refusal_of_unclear" "refusal_of_unclear" wV f fd)(T:Txt K mg C)(mkG:dI Pg w K mg base C)(f0:dU Pg w K mg base C):au Pg w K mg base CX0 4 f fd ["row","number"] (spF (Iu C)):=by
 have sc:ao ["row","number","place"] ["row","number"] (ak wV):=#[sC];wtm_at "cg0"
 .obtain⟨⟨cs,n⟩,ok,rfl,rfl,h⟩:=h;replace ok:bF cs:=ok;replace h:P (.d (.int (fU cs n))) []:=h;show DB _ _ [some (.d (aC C cs)),some (.d (.int n)),none] [] _;unfold fU at h;refine aj (bj (k:=2) (x:=cG (az cs n)) (bD (fun _=>f0) #[da] (bh (cs,n) trivial rfl rfl) #[room] #[rR]) ?_ #[nd] #[rR] #[vis] #[rR] #[vis])
  cases hp:az cs n with
  | none =>
   rw[hp] at h;refine aj (aZ #[dt] (fun _=>?_) (fun hb=>?_))
   .exact aj (bH #[dp] h)
   .exact absurd hb (by decide)
  | some i =>
   rw[hp] at h;have hi:=kY hp;refine aj (aZ #[dt] (fun hb=>?_) (fun _=>?_))
   .exact nomatch (show false=true from hb)
   replace h:P (.d (.int (if (!decide ((aV cs i:Int)=0))=true then -11 else 0))) []:=h;refine aO (aj (aZ (pZ (yM (st:=aV cs) hi (jY (dX (fun _=>mkG) ok #[dp] #[room] #[rR]) #[cls] #[noa] rfl) #[dp]) #[dp]) (fun hb=>?_) (fun hb=>?_)))
   .rw[itT hb] at h;exact aj (bH #[dp] h)
   .rw[itF hb] at h;exact aO (aj (bH #[dp] h))
abbrev Iw (Pg:Program) (w:World) (K:Frag) (mg:Str->Option Value) (base:Heap) (C:Cs):Prop:=FnAt Pg w K mg base "refusal_of_unclear" ["row","number"] 4 (Iu C)
def gR (f:List Cell->Nat->List Int) (cs:List Cell) (n:Int):List Int:=if (!decide (fU cs n=0))=true then [fU cs n] else f cs ((az cs n).getD 0)
theorem Iz {cs:List Cell}{n:Int}(h:(!decide (fU cs n=0))=false): ∃i,az cs n=some i/\i < cs.length/\aV cs i=0:=by
 have h0:fU cs n=0:=by simpa using h
 unfold fU at h0
 cases hp:az cs n with
 | none=>rw[hp] at h0;cases (h0:(-8:Int)=0)
 | some i =>
  rw[hp] at h0;refine⟨i,rfl,kY hp,?_⟩;replace h0:(if (!decide ((aV cs i:Int)=0))=true then (-11:Int) else 0)=0:=h0
  cases hd:decide ((aV cs i:Int)=0) with
  | true =>
   have:=of_decide_eq_true hd;omega
  | false=>rw[hd] at h0;cases (h0:(-11:Int)=0)
def rE (C:Cs) (f:List Cell->Nat->List Int):Fsp:=bA (fun a:List Cell×Int=>bF a.1) (fun a=>[aC C a.1,.int a.2]) fun a=>(gR f a.1 a.2).map .int
theorem Vx (cs:List Cell)(i:Nat):(near cs i).length<=cs.length/\ ∀p∈near cs i,p < cs.length:=⟨Nat.le_trans (length_filter_le ..) (mz cs i),fun p hp=>jH (mem_filter.mp hp).1⟩
theorem Vy (Fu:Fun K "needed_by_cell" "needed_by_cell" wX f fd)(T:Txt K mg C)(mkG:dI Pg w K mg base C)(f0:dU Pg w K mg base C)(ft:eU Pg w K mg base C)(fu:Iw Pg w K mg base C)(f1:FnAt Pg w K mg base "nearest_sources" ["graph","place"] 2 (HW C)):au Pg w K mg base CX0 5 f fd ["row","number"] (spF (rE C fun cs i=>aN cs (near cs i))):=by
 have sc:ao ["row","number","refusal"] ["row","number"] (ak wX):=#[sC];wtm_at "cg0"
 .obtain⟨⟨cs,n⟩,ok,rfl,rfl,h⟩:=h;replace ok:bF cs:=ok;have hlen:=ok.len;replace h: ∀ad,P (.pt ad) [(ad,.lst ((gR (fun cs i=>aN cs (near cs i)) cs n).map .int))]:=h;show DB _ _ [some (.d (aC C cs)),some (.d (.int n)),none] [] _;unfold gR at h;refine aj (bj (k:=2) (x:=.int (fU cs n)) (bD (fun _=>fu) #[da] (bh (cs,n) ok rfl rfl) #[room] #[rR]) ?_ #[nd] #[rR] #[vis] #[rR] #[vis]);refine aj (aZ #[dt] (fun hb=>?_) (fun hb=>?_))
  .rw[itT hb] at h;exact aj (aF (l:=[.int (fU cs n)]) (aY #[da] bu) h)
  .rw[itF hb] at h;obtain⟨i,hp,hi,_⟩:=Iz hb;rw[hp] at h;have hk:=Vx cs i;exact aO (aj (aF (ir (fun _=>ft) #[dp] (YN.data (bx (fun _=>f1) (aG (dX (fun _=>mkG) ok #[dp] #[room] #[rR]) (aG (bD (y:=.int (i:Nat)) (fun _=>f0) #[da] (bh (cs,n) trivial rfl (by show cG (az cs n)=_;rw[hp];rfl)) #[room] #[rR]) aW)) (aP (cs,i) ⟨hlen,hi⟩ rfl rfl) #[room] #[rR])) (Nat.le_trans hk.1 hlen) hk.2 #[room] #[rR]) h))
def IK (C:Cs):Fsp:=dR (fun a:List Cell×Nat×List Nat=>a.1.length<=12/\a.2.1 < a.1.length) (fun a=>[bB C a.1,.int (a.2.1:Nat),aD a.2.2]) fun a=>.bl (a.2.2.contains a.2.1||(bw a.1 a.2.1).any fun u=>a.2.2.contains u)
theorem Vz (Fu:Fun K "is_touched" "is_touched" wZ f fd)(T:Txt K mg C):au Pg w K mg base CX0 1 f fd ["graph","place","changed"] (spF (IK C)):=by
 have sc:ao ["graph","place","changed","upper"] ["graph","place","changed"] (ak wZ):=#[sC];wtm_at "cg0"
 .obtain⟨⟨cs,p,ch⟩,⟨hlen,hp⟩,rfl,rfl,h⟩:=h;replace hlen:cs.length<=12:=hlen;replace hp:p < cs.length:=hp;have hl:=rA cs p;replace h:P (.d (.bl (ch.contains p||(bw cs p).any fun u=>ch.contains u))) []:=h;rw[<-dO ch p,<-qY] at h;show DB _ _ [some (.d (bB C cs)),some (.d (.int (p:Nat))),some (.d (aD ch)),none] [] _;refine aj (bH (Cy #[dp] fun _=>Cz (qg (bs:=(bw cs p).map fun u=>ch.contains u) (YN.list ?lc) #[rR] #[rR] #[blt])) h)
  case lc =>
   rw[List.map_map];refine' cP (items:=bw cs p) (g:=fun x=>D.int (x:Nat)) (own:=[("upper",3)]) ?c ?n ?i ?ok ?g ?e ?z;wtm_at "lc"
   case i =>
    rw[bU];exact bC (YP.list (kO (abv:=bw cs) hp #[dp] #[dp]))
   case e =>
    intro x _;show DP _ _ _ _ (.bl (ch.contains x));rw[<-dO];wtm_at "dp"
   case z=>rw[sizeLine_eq];omega
theorem IV {G:Hp}: ∀{l:List (Option Nat)} {xs:List V},aA (l.map cG) G xs->xs=l.map fun o=>match o with | some n=>V.int (n:Nat) | none=>V.non
 | [],xs,r=>bY.mp r
 | o::l,xs,r=>by
  obtain⟨x,ys,rfl,h1,h2⟩:=cC.mp r;rw[IV h2,map_cons]
  cases o with
  | none=>rw[iJ.mp h1]
  | some n=>rw[aU.mp h1]
theorem IW: ∀l:List (Option Nat),inV .non (l.map fun o=>match o with | some n=>V.int (n:Nat) | none=>V.non)=l.any (·.isNone)
 | []=>rfl
 | o::l=>by
  have ih:=IW l;unfold inV at ih ⊢;rw[map_cons,any_cons,ih,any_cons]
  cases o<;>rfl
theorem VB {ι:Type}{F:ι->Cx}{ρ:Rho}{γ:Gm}{a b:Expr}{pos:Pos}{l:List (Option Nat)}(ha:DP F a ρ γ .non)(hb:DLs F b ρ γ (l.map cG))(hm:behindInMarks .In b=false:=by with_unfolding_all rfl):DT F (.Compare a [.In] [b] pos) ρ γ (l.any (·.isNone)) :=
 fun O0 H0 σ H I Q k=>ST.mk2 (t:=fun i=>oY (tOp (rIn (F i).K false) (SE F a) (SE F b))) (fun i=>lC sY (SE.pe i) (SE.pe i) hm) fun i=>ha I _ fun v H1 s1 r1=>hb (I.grow s1) _ fun ad xs H2 s2 hl _ r2=>by
  have e:=IV r2;subst e;rw[iJ.mp r1];refine⟨ad,_,rfl,.inl (SqL.of hl),rfl,?_,_,rfl,?_⟩
  .rw[all_eq_true];intro x hx;obtain⟨o,_,rfl⟩:=mem_map.mp hx
   cases o<;>rfl
  .rw[if_neg (by decide),IW];exact k H2 (s1.trans s2)
def rF (cs:List Cell) (ch:List Nat):List Nat:=(bz cs).filter fun i=>ch.contains i||(bw cs i).any fun m=>ch.contains m
def lu (cs:List Cell) (l:List Int):List Int:=if ((l.map (az cs)).any (·.isNone))=true then [-8] else aN cs (rF cs (l.filterMap (az cs)))
def Ja (C:Cs):Fsp:=bA (fun a:List Cell×List Int=>bF a.1/\a.2.length<=40) (fun a=>[aC C a.1,.lst (a.2.map .int)]) fun a=>(lu a.1 a.2).map .int
theorem Jb (cs:List Cell): ∀{l:List Int},((l.map (az cs)).any (·.isNone))=false->(l.map fun n=>cG (az cs n))=(zs (l.filterMap (az cs))).map D.int
 | [],_=>rfl
 | n::l,h=>by
  rw[map_cons,any_cons,Bool.or_eq_false_iff] at h
  cases hp:az cs n with
  | none=>rw[hp] at h;cases h.1
  | some i =>
   rw[map_cons,Jb cs h.2,filterMap_cons_some hp,hp];rfl
theorem VD (Fu:Fun K "touched_cells" "touched_cells" wY f fd)(T:Txt K mg C)(mkG:dI Pg w K mg base C)(f0:dU Pg w K mg base C)(ft:eU Pg w K mg base C)(f1:FnAt Pg w K mg base "running_order" ["graph"] 3 (nZ C))(f2:FnAt Pg w K mg base "is_touched" ["graph","place","changed"] 1 (IK C)):au Pg w K mg base CX0 4 f fd ["row","numbers"] (spF (Ja C)):=by
 have sc:ao ["row","numbers","changed","graph","number","place"] ["row","numbers"] (ak wY):=#[sC];wtm_at "cg0"
 .obtain⟨⟨cs,l⟩,⟨ok,hl⟩,rfl,rfl,h⟩:=h;replace ok:bF cs:=ok;replace hl:l.length<=40:=hl;have hlen:=ok.len;replace h: ∀ad,P (.pt ad) [(ad,.lst ((lu cs l).map .int))]:=h;show DB _ _ [some (.d (aC C cs)),some (.d (.lst (l.map .int))),none,none,none,none] [] _;unfold lu at h;refine aj (bj (k:=2) (x:=.lst (l.map fun n=>cG (az cs n))) (YN.data ?lc) ?_ #[nd] #[rR] #[vis] #[rR] #[vis])
  case lc =>
   refine' cP (items:=l) (g:=D.int) (own:=[("number",4)]) ?c ?n ?i ?ok ?g ?e ?z;wtm_at "lc"
   case i=>exact bC #[dl]
   case e =>
    intro x _;exact bD (fun _=>f0) #[da] (bh (cs,x) trivial rfl rfl) #[room] #[rR]
   case z=>rw[sizeLine_eq];omega
  refine aj (aZ (t:=(l.map (az cs)).any (·.isNone)) (VB pU ?ls) (fun hb=>?_) (fun hb=>?_))
  case ls =>
   rw[List.map_map];exact YP.list #[dp]
  .rw[itT hb] at h;exact aj (aF (l:=[.int (-8)]) (aY #[da] bu) h)
  .rw[itF hb] at h;rw[Jb cs hb];have hpo:=kE (fG cs).1 (fG cs).2;refine aO (aj (bj (k:=3) (x:=bB C cs) (dX (fun _=>mkG) ok #[dp] #[room] #[rR]) ?_ #[nd] #[rR] #[vis] #[rR] #[vis]));refine aj (aF (ir (ps:=rF cs (l.filterMap (az cs))) (fun _=>ft) #[dp] (YN.data ?lc2) (Nat.le_trans (length_filter_le ..) (by omega)) (fun p hp=>(fG cs).2 p (mem_filter.mp hp).1) #[room] #[rR]) h)
   case lc2 =>
    rw[<-bU (rF cs (l.filterMap (az cs)))];refine' dD (items:=bz cs) (g:=fun x=>D.int (x:Nat)) (c:=fun i=>(l.filterMap (az cs)).contains i||(bw cs i).any fun m=>(l.filterMap (az cs)).contains m) (f:=fun x=>D.int (x:Nat)) (own:=[("place",5)]) ?c2 ?n2 ?i2 ?ok2 ?g2 ?t2 ?e2 ?z2;wtm_at "lc2"
    case i2 =>
     rw[bU];exact bC (YN.list (bx (fun _=>f1) #[da] (aP cs hlen rfl rfl) #[room] #[rR]))
    case t2 =>
     intro x hx;exact cN (dN (bD (fun _=>f2) #[da] (bh (cs,x,l.filterMap (az cs)) ⟨hlen,(fG cs).2 x hx⟩ rfl rfl) #[room] #[rR]))
    case e2=>exact fun x _ _=>by wtm_at "dp"
    case z2=>rw[sizeLine_eq];omega
end
end
section
section
theorem Jc {src:CG.Src}(wf:CG.Wf src){ok:List Nat}(h:gk src ok)(nd:ok.Nodup): ∀ (k:Nat) (done:List Nat),(CG.wait ok done).length<=k-> ∀x∈ok,x∈Vanbkb.taken (CG.gp src) ok k done
 | 0,done,hk,x,hx=>by
  have hn:=length_eq_zero_iff.mp (Nat.le_zero.mp hk);refine Classical.byContradiction fun q=>?_;have:x∈CG.wait ok done:=jy.mpr ⟨hx,q⟩;rw[hn] at this;cases this
 | k+1,done,hk,x,hx=>by
  unfold Vanbkb.taken
  cases hr:Vanbkb.ready (CG.gp src) ok done with
  | nil =>
   refine Classical.byContradiction fun q=>?_;have:x∈CG.wait ok done:=jy.mpr ⟨hx,q⟩;exact Fx wf h (fun e=>by rw[e] at this;cases this) hr
  | cons n l =>
   have hm:n∈CG.wait ok done:=vh n (by rw[hr];exact mem_cons_self ..);have:=Fz nd hm;exact Jc wf h nd k (done++[n]) (by omega) x hx
theorem VF {cs:List Cell}{i:Nat}(h:i∈aX cs):i∈bz cs:=Jc (bR cs) (qM cs) (u6 cs).nodup cs.length [] (by rw[u0];exact u9 cs) i h
theorem Jd {src:CG.Src}{ok:List Nat}: ∀ (k:Nat) (done:List Nat),(∀t p,done[t]?=some p->p∈ok/\ ∀s∈CG.row src p,s∈done.take t)-> ∀t p,(Vanbkb.taken (CG.gp src) ok k done)[t]?=some p->p∈ok/\ ∀s∈CG.row src p,s∈(Vanbkb.taken (CG.gp src) ok k done).take t
 | 0,done,h=>h
 | k+1,done,h=>by
  unfold Vanbkb.taken
  cases hr:Vanbkb.ready (CG.gp src) ok done with
  | nil=>exact h
  | cons n l =>
   refine Jd k (done++[n]) fun t p hp=>?_;have hm:=u5.mp (show n∈Vanbkb.ready (CG.gp src) ok done by rw[hr];exact mem_cons_self ..);rcases Nat.lt_or_ge t done.length with lt | ge
   .rw[List.getElem?_append_left lt] at hp;rw[List.take_append_of_le_length (by omega)];exact h t p hp
   .rw[List.getElem?_append_right ge] at hp
    have ht:t - done.length=0:=by
     have:=(List.getElem?_eq_some_iff.mp hp).1;rw[length_singleton] at this;omega
    rw[ht] at hp;have e:n=p:=Option.some.inj hp;subst e;refine⟨hm.1,fun s hs=>?_⟩;rw[show t=done.length by omega,List.take_left']
    .exact hm.2.2 s hs
    .rfl
theorem VG {cs:List Cell}{t p:Nat}(h:(bz cs)[t]?=some p):p∈aX cs/\ ∀s∈CG.row (aq cs) p,s∈(bz cs).take t:=Jd (ok:=aX cs) cs.length [] (fun t p hp=>by cases hp) t p h
abbrev dB (cs:List Cell) (i:Nat):Nat:=Vanbkb.levelIn (CG.gp (aq cs)) cs.length i
theorem VH {cs:List Cell}{i:Nat}(h:i∈aX cs):dB cs i=Vanbkb.greatest ((CG.row (aq cs) i).map fun j=>1+dB cs j):=by
 have:=R3 (bR cs) (qM cs) h;unfold CG.lev at this
 rwa [bI] at this
theorem Je: ∀{l:List Nat},l≠[]->Vanbkb.greatest l∈l
 | [],h=>absurd rfl h
 | a::l,_=>by
  rw[FJ];rcases Nat.le_total a (Vanbkb.greatest l) with q | q
  .rw[Nat.max_eq_right q]
   by_cases e:l=[]
   .subst e;rw[show a=0 from Nat.le_zero.mp q];exact mem_cons_self ..
   .exact mem_cons_of_mem _ (Je e)
  .rw[Nat.max_eq_left q];exact mem_cons_self ..
theorem VJ {cs:List Cell}{i:Nat}(h:i∈aX cs):uI 0 ((CG.row (aq cs) i).map fun j=>((dB cs j:Nat):Int)+1) (dB cs i:Nat):=by
 have e:=VH h
 by_cases hn:CG.row (aq cs) i=[]
 .refine .inl ⟨by rw[hn];rfl,?_⟩;rw[e,hn];rfl
 .refine .inr ⟨?_,fun y hy=>?_⟩
  .have hm:=Je (l:=(CG.row (aq cs) i).map fun j=>1+dB cs j) (fun q=>hn (List.map_eq_nil_iff.mp q));rw[<-e] at hm;obtain⟨j,hj,ej⟩:=mem_map.mp hm;exact mem_map.mpr ⟨j,hj,by omega⟩
  .obtain⟨j,hj,rfl⟩:=mem_map.mp hy;have:=FN (mem_map.mpr ⟨j,hj,rfl⟩:1+dB cs j∈(CG.row (aq cs) i).map fun j=>1+dB cs j);rw[<-e] at this;omega
def jf (cs:List Cell) (l:List Nat):List (Int×Int):=l.map fun i=>((i:Nat),(dB cs i:Nat))
theorem zc {cs:List Cell}{i:Nat}: ∀{l:List Nat},i∈l->(jf cs l).lookup (i:Int)=some ((dB cs i:Nat):Int)
 | [],h=>by cases h
 | a::l,h=>by
  show (((a:Int),((dB cs a:Nat):Int))::jf cs l).lookup (i:Int)=_;rw[lookup_cons]
  by_cases e:i=a
  .subst e;rw[beq_self_eq_true]
  .rw[show ((i:Int)==(a:Int))=false by rw[beq_eq_false_iff_ne];omega];exact zc ((mem_cons.mp h).resolve_left e)
theorem Jf {cs:List Cell}{i:Nat}: ∀{l:List Nat},i∉l->(jf cs l).lookup (i:Int)=none
 | [],_=>rfl
 | a::l,h=>by
  show (((a:Int),((dB cs a:Nat):Int))::jf cs l).lookup (i:Int)=_;have e:i≠a:=fun q=>h (by rw[q];exact mem_cons_self ..);rw[lookup_cons,show ((i:Int)==(a:Int))=false by rw[beq_eq_false_iff_ne];omega];exact Jf fun q=>h (mem_cons_of_mem _ q)
def Jg (C:Cs):Fsp:=fun ss γ P=> ∃cs:List Cell,cs.length<=12/\ss=[.d (bB C cs)]/\γ=[]/\ ∀ad,P (.pt ad) [(ad,.dct (jf cs (bz cs)))]
theorem VL (Fu:Fun K "longest_steps" "longest_steps" wF f fd)(T:Txt K mg C)(f1:FnAt Pg w K mg base "running_order" ["graph"] 3 (nZ C)):au Pg w K mg base CX0 4 f fd ["graph"] (spF (Jg C)):=by
 have sc:ao ["graph","steps","place","source"] ["graph"] (ak wF):=#[sC];wtm_at "cg0"
 .obtain⟨cs,hlen,rfl,rfl,h⟩:=h;have hpo:=kE (fG cs).1 (fG cs).2;show DB _ _ [some (.d (bB C cs)),none,none,none] [] _;refine aj (bQ (k:=1) (QG fun sa=>?_) #[nd] #[rR] #[vis] #[rR] #[vis]);refine aj (lN (items:=bz cs) (g:=fun j=>.int (j:Nat)) (vs:=[2]) (fun t ρ γ=>(∃o2,ρ=[some (.d (bB C cs)),some (.pt sa),o2,none])/\γ=[(sa,.dct (jf cs ((bz cs).take t)))]) #[own] #[rR] ?i ?f0 (fun t j ρ γ hj hP=>lM (k:=2) (by decide) #[nd] #[rR] #[vis] #[vis]) ?b ?d)
  case i =>
   rw[bU];exact mZ (YN.data (bx (fun _=>f1) #[da] (aP cs hlen rfl rfl) #[room] #[rR]))
  case f0=>exact⟨⟨_,rfl⟩,by rw[take_zero];rfl⟩
  case b =>
   rintro t p ρ γ hp ⟨⟨o2,rfl⟩,rfl⟩;obtain⟨hcl,hbe⟩:=VG hp;have hpl:p < cs.length:=(gJ.mp hcl).1
   have hps:p < (aq cs).length:=by rw[bI];exact hpl
   have htt:=List.length_take_le' t (bz cs)
   have hnew:p∉(bz cs).take t:=fun q=>by
    have nd:=(fG cs).1;obtain⟨hl,e⟩:=List.getElem?_eq_some_iff.mp hp;rw[<-take_append_drop t (bz cs),drop_eq_getElem_cons hl,e] at nd;exact (nodup_append.mp nd).2.2 p q p (mem_cons_self ..) rfl
   refine aj (QH (kr:=1) (m:=((dB cs p:Nat):Int)) (n:=(p:Int)) #[room] ?mx #[ptr] #[mem] #[dp] (Jf hnew) (by unfold jf;rw[length_map,sizeLine_eq];omega) ?_)
   case mx =>
    refine QR (ns:=(CG.row (aq cs) p).map fun j=>((dB cs j:Nat):Int)+1) (YN.list ?lc) (VJ hcl) #[rR] #[rR] #[blt]
    case lc =>
     rw[List.map_map];refine' cP (items:=CG.row (aq cs) p) (g:=fun x=>D.int (x:Nat)) (own:=[("source",3)]) ?c ?n ?i ?ok ?g ?e ?z;wtm_at "lc"
     case i =>
      rw[bU];exact bC (YP.list (kJ hps #[dp] #[dp]))
     case e =>
      intro x hx;exact pW (nq (kr:=1) #[room] #[ptr] #[mem] #[dp] (zc (hbe x hx))) dm
     case z=>rw[sizeLine_eq];have:=mz cs p;omega
   rw[bT];refine aO ⟨⟨_,rfl⟩,?_⟩;rw[jq hp];unfold jf;rw[map_append];rfl
  case d =>
   rintro ρ γ ⟨⟨o2,rfl⟩,rfl⟩;rw[take_length];exact aj (bN (YR.gen #[ptr] (h sa)))
theorem VM (Fu:Fun K "level_of_cell" "level_of_cell" wW f fd)(T:Txt K mg C)(mkG:dI Pg w K mg base C)(f0:dU Pg w K mg base C)(fu:Iw Pg w K mg base C)(f1:FnAt Pg w K mg base "longest_steps" ["graph"] 4 (Jg C)):au Pg w K mg base CX0 5 f fd ["row","number"] (spF (rE C fun cs i=>[((dB cs i:Nat):Int)])):=by
 have sc:ao ["row","number","refusal"] ["row","number"] (ak wW):=#[sC];wtm_at "cg0"
 .obtain⟨⟨cs,n⟩,ok,rfl,rfl,h⟩:=h;replace ok:bF cs:=ok;have hlen:=ok.len;replace h: ∀ad,P (.pt ad) [(ad,.lst ((gR (fun cs i=>[((dB cs i:Nat):Int)]) cs n).map .int))]:=h;show DB _ _ [some (.d (aC C cs)),some (.d (.int n)),none] [] _;unfold gR at h;refine aj (bj (k:=2) (x:=.int (fU cs n)) (bD (fun _=>fu) #[da] (bh (cs,n) ok rfl rfl) #[room] #[rR]) ?_ #[nd] #[rR] #[vis] #[rR] #[vis]);refine aj (aZ #[dt] (fun hb=>?_) (fun hb=>?_))
  .rw[itT hb] at h;exact aj (aF (l:=[.int (fU cs n)]) (aY #[da] bu) h)
  .rw[itF hb] at h;obtain⟨i,hp,hi,hst⟩:=Iz hb;rw[hp] at h;have hin:i∈bz cs:=VF (gJ.mpr ⟨hi,hst⟩);refine aO (aj (aF (l:=[.int ((dB cs i:Nat):Int)]) (aY (aG (Rb (kr:=1) (n:=(i:Int)) (kvs:=jf cs (bz cs)) #[room] ?o1 (fun ad=>?i1) (zc hin)) aW) bu) h))
   case o1=>exact uJ (fun _=>f1) (aG (dX (fun _=>mkG) ok #[dp] #[room] #[rR]) aW) ⟨cs,hlen,rfl,rfl,fun ad=>⟨ad,rfl,rfl⟩⟩ #[room] #[rR]
   case i1=>exact bD (y:=.int (i:Nat)) (fun _=>f0) #[da] (bh (cs,n) trivial rfl (by show cG (az cs n)=_;rw[hp];rfl)) #[room] #[rR]
end
end
section
theorem VN {ι:Type}{F:ι->Cx}{ρ:Rho}{γ:Gm}{P:Po}{e:Expr}{pos:Pos}{l:List D}(he:DN F e ρ γ l)(h: ∀a,P.rt (.pt a) [(a,.lst l)]):DS F (.Return (some e) pos) ρ γ P:=fun O0 H0 σ H I Dn kn kr kb kc=>SS.mk (fun i=>zT (SE.pe i)) (he I _ fun a xs H1 s1 ha hl r=>by
 have I1:=I.grow s1
 have B:Ev O0 H0 [] H1 [] []:=⟨.nil,(fun p hp=>by cases hp),nodup_nil,(fun p hp=>by cases hp),I1.same,I1.live⟩
 have sm:aB (vis H1 (hid O0 γ)) (vis H1 (hid O0 [])):=d8 (aB.refl H1) fun b hb=>by
  rw[jV] at hb;exact .inl (aQ.mpr (.inl hb))
 exact kr (.pt a) [(a,.lst l)] (.ref a) _ (h a) (B.push ha ⟨xs,rfl,hl,r.mono sm⟩) rfl)
section
def nums (cs:List Cell):List Int:=cs.map fun c=>(c.number:Int)
def jK (cs:List Cell):List (Int×Int):=(nums cs).zip ((List.range cs.length).map fun i=>(aV cs i:Int))
structure rG (cs:List Cell):Prop where
 ok:bF cs
 nd:(nums cs).Nodup
def Jh (C:Cs):Fsp:=fun ss γ P=> ∃cs:List Cell,rG cs/\ss=[.d (aC C cs)]/\γ=[]/\ ∀ad,P (.pt ad) [(ad,.dct (jK cs))]
theorem VP (Fu:Fun K "states_by_number" "states_by_number" xj f fd)(T:Txt K mg C)(mkG:dI Pg w K mg base C):au Pg w K mg base CX0 4 f fd ["row"] (spF (Jh C)):=by
 have sc:ao ["row","cell"] ["row"] (ak xj):=#[sC];wtm_at "cg0"
 .obtain⟨cs,nb,rfl,rfl,h⟩:=h;have hlen:=nb.ok.len;show DB _ _ [some (.d (aC C cs)),none] [] _;refine aj (bN (YD.gen (Ra (ns:=nums cs) (ms:=(List.range cs.length).map fun i=>(aV cs i:Int)) (YN.list ?lc) ?st (by unfold nums;rw[length_map,length_map,length_range]) nb.nd #[rR] #[rR] #[blt] #[rR] #[blt]) h))
  case lc =>
   unfold nums;rw[List.map_map];refine' cP (items:=cs) (g:=aM C) (own:=[("cell",1)]) ?c ?n ?i ?ok ?g ?e ?z;wtm_at "lc"
   case i=>exact bC #[dl]
   case e=>exact fun c _=>by show DP _ _ _ _ (.int (c.number:Nat));wtm_at "dp"
   case z=>rw[sizeLine_eq];omega
  case st =>
   rw[List.map_map];exact YP.list (jY (dX (fun _=>mkG) nb.ok #[dp] #[room] #[rR]) #[cls] #[noa] rfl)
abbrev dg (cs:List Cell) (n:Int):Int:=((jK cs).lookup n).getD 0
theorem Ji {n:Int}: ∀{l:List Int} {m:List Int},n∈l->l.length=m.length-> ∃v,(l.zip m).lookup n=some v
 | [],_,h,_=>by cases h
 | a::l,[],_,h=>by cases h
 | a::l,b::m,h,hl=>by
  rw[zip_cons_cons,lookup_cons]
  cases q:n==a with
  | true=>exact⟨b,rfl⟩
  | false =>
   rcases mem_cons.mp h with e | e
   .rw[e,beq_self_eq_true] at q;cases q
   .exact Ji e (Nat.succ.inj hl)
theorem rH {cs:List Cell}{n:Int}(h:n∈nums cs):(jK cs).lookup n=some (dg cs n):=by
 obtain⟨v,hv⟩:=Ji (m:=(List.range cs.length).map fun i=>(aV cs i:Int)) h (by unfold nums;rw[length_map,length_map,length_range]);unfold dg;rw[show (jK cs).lookup n=some v from hv];rfl
structure Oth (cs ds:List Cell):Prop where
 a:rG cs
 b:rG ds
 sub: ∀n∈nums ds,n∈nums cs
def jL (cs ds:List Cell):List Int:=(ds.filter fun c=> !decide (dg cs (c.number:Int)=dg ds (c.number:Int))).map fun c=>(c.number:Int)
def gU (cs ds:List Cell):List (List Int):=(jL cs ds).map fun n=>[n,dg cs n,dg ds n]
def Jj (C:Cs):Fsp:=bA (fun a:List Cell×List Cell=>Oth a.1 a.2) (fun a=>[aC C a.1,aC C a.2]) fun a=>(gO (gU a.1 a.2)).map .int
theorem zf {ds:List Cell}{c:Cell}(h:c∈ds):(c.number:Int)∈nums ds:=mem_map.mpr ⟨c,h,rfl⟩
theorem VR (Fu:Fun K "told_other_states" "told_other_states" xg f fd)(T:Txt K mg C)(f1:FnAt Pg w K mg base "states_by_number" ["row"] 4 (Jh C))(f2:FnAt Pg w K mg base "told_tuples" ["tuples"] 1 yS):au Pg w K mg base CX0 5 f fd ["row","later_row"] (spF (Jj C)):=by
 have sc:ao ["row","later_row","now","then","differing","cell","number"] ["row","later_row"] (ak xg):=#[sC];wtm_at "cg0"
 .obtain⟨⟨cs,ds⟩,ok,rfl,rfl,h⟩:=h;replace ok:Oth cs ds:=ok;have hlen:=ok.b.ok.len;replace h: ∀ad,P (.pt ad) [(ad,.lst ((gO (gU cs ds)).map .int))]:=h;show DB _ _ [some (.d (aC C cs)),some (.d (aC C ds)),none,none,none,none,none] [] _;refine aj (bQ (k:=2) (YD.gen (kvs:=jK cs) ?s1 fun na=>?_) #[nd] #[rR] #[vis] #[rR] #[vis])
  case s1=>exact uJ (fun _=>f1) #[da] ⟨cs,ok.a,rfl,rfl,fun ad=>⟨ad,rfl,rfl⟩⟩ #[room] #[rR]
  refine aj (bQ (k:=3) (YD.gen (kvs:=jK ds) ?s2 fun ta=>?_) #[nd] #[rR] #[vis] #[rR] #[vis])
  case s2=>exact uJ (fun _=>f1) #[da] ⟨ds,ok.b,rfl,rfl,fun ad=>⟨ad,rfl,rfl⟩⟩ #[room] #[rR]
  have hol:(jL cs ds).length<=12:=by
   unfold jL;rw[length_map];exact Nat.le_trans (length_filter_le ..) hlen
  have hoi: ∀n∈jL cs ds,n∈nums ds:=fun n hn=>by
   obtain⟨c,hc,rfl⟩:=mem_map.mp hn;exact zf (mem_filter.mp hc).1
  refine' aj (jZ (k:=4) (items:=ds) (g:=aM C) (c:=fun c=> !decide (dg cs (c.number:Int)=dg ds (c.number:Int))) (f:=fun c=>.int (c.number:Nat)) (own:=[("cell",5)]) ?c ?n ?i ?ok ?g ?t ?e ?z #[rR] #[rR] #[rR] ?_);wtm_at "lc"
  case i=>exact bC #[dl]
  case t =>
   intro c hc;have hin:=zf hc;exact cN (pZ (nq (kr:=1) (n:=(c.number:Int)) #[room] #[ptr] #[mem] #[dp] (rH (ok.sub _ hin))) (nq (kr:=1) (n:=(c.number:Int)) #[room] #[ptr] #[mem] #[dp] (rH hin)))
  case e=>exact fun c _ _=>by wtm_at "dp"
  case z=>rw[sizeLine_eq];omega
  have e4:((ds.filter fun c=> !decide (dg cs (c.number:Int)=dg ds (c.number:Int))).map fun c=>D.int (c.number:Nat))=(jL cs ds).map D.int:=by
   unfold jL;rw[List.map_map];rfl
  rw[e4];refine aj (VN (bx (fun _=>f2) (aG (YN.data ?lc2) aW) (aP (gU cs ds) ⟨?q1,?q2⟩ rfl rfl) #[room] #[rR]) h)
  case q1=>unfold gU;rw[length_map];omega
  case q2 =>
   intro q hq;obtain⟨n,_,rfl⟩:=mem_map.mp hq;exact Nat.le_refl 3
  case lc2 =>
   unfold gU;rw[List.map_map];refine' cP (items:=jL cs ds) (g:=D.int) (own:=[("number",6)]) ?c2 ?n2 ?i2 ?ok2 ?g2 ?e2 ?z2;wtm_at "lc2"
   case i2=>exact bC #[dl]
   case e2 =>
    intro n hn;have hin:=hoi n hn;show DP _ _ _ _ (.tup [.int n,.int (dg cs n),.int (dg ds n)]);refine jX (aG #[dp] (aG (nq (kr:=1) (n:=n) #[room] #[ptr] #[mem] #[dp] (rH (ok.sub _ hin))) (aG (nq (kr:=1) (n:=n) #[room] #[ptr] #[mem] #[dp] (rH hin)) aW))) ?_;rw[sizeLine_eq];show 3<=16777216;decide
   case z2=>rw[sizeLine_eq];omega
abbrev Jk (Pg:Program) (w:World) (K:Frag) (mg:Str->Option Value) (base:Heap) (C:Cs):Prop:=FnAt Pg w K mg base "told_other_states" ["row","later_row"] 5 (Jj C)
def lw (cs:List Cell) (n b:Int) (m r:List Int):List Int:=if (!decide (dH cs n b m r=0))=true then [dH cs n b m r] else gO (gU cs (dG cs (Vanbkb.told n b m r)))
def Jl (C:Cs):Fsp:=bA (fun a:List Cell×Int×Int×List Int×List Int=>(a.2.2.2.1.length<=40/\a.2.2.2.2.length<=40)/\CG.SOk a.1) (fun a=>[aC C a.1,.int a.2.1,.int a.2.2.1,.lst (a.2.2.2.1.map .int),.lst (a.2.2.2.2.map .int)]) fun a=>(lw a.1 a.2.1 a.2.2.1 a.2.2.2.1 a.2.2.2.2).map .int
theorem VV {cs:List Cell}(w:CG.SOk cs):(nums cs).Nodup:=by
 have:=w.nd;unfold nums;rw[nodup_iff_pairwise_ne,pairwise_map] at this ⊢;exact this.imp fun h e=>h (by omega)
theorem V0 {cs:List Cell}(w:CG.SOk cs):bF cs:=by
 refine⟨w.len,fun c hc=>?_⟩;have hm:=w.makes c hc;have hr:=w.reads c hc;exact⟨⟨hm.1.length_le fun x hx=>by have:=hm.2 x hx;omega,hr.1.length_le fun x hx=>by have:=hr.2 x hx;omega⟩,hm.2,hr.2⟩
theorem rI {cs:List Cell}(w:CG.SOk cs):rG cs:=⟨V0 w,VV w⟩
theorem V1 (cs:List Cell)(c:Cell):nums (dG cs c)=nums cs:=by
 unfold nums dG;rw[List.map_map];refine map_congr_left fun d _=>?_;show (((if d.number==c.number then c else d).number:Nat):Int)=(d.number:Int)
 by_cases h:(d.number==c.number)=true
 .rw[if_pos h,eq_of_beq h]
 .rw[if_neg h]
theorem V2 {cs:List Cell}(w:CG.SOk cs){n b:Int}{m r:List Int}(h:dH cs n b m r=0):Oth cs (dG cs (Vanbkb.told n b m r)):=by
 unfold dH at h
 cases hp:az cs n with
 | none=>rw[hp] at h;cases (h:(-8:Int)=0)
 | some i =>
  rw[hp] at h;replace h:Vanbkb.fault b m r=0:=h;obtain⟨c,hc,hn⟩:=nR hp;obtain⟨_,hm,hr⟩:=lZ h;have hh:=w.hi c (mem_of_getElem? hc);have v:CG.SOk (dG cs (Vanbkb.told n b m r)):=uZ w (qK (n:=n) (b:=b) (by omega) hm hr);exact⟨rI w,rI v,fun x hx=>by rwa [V1] at hx⟩
theorem V3 {cs:List Cell}(w:CG.SOk cs)(n:Int):Oth cs (gK cs n):=⟨rI w,rI (uY w (filter_sublist ..)),fun x hx=>by
 obtain⟨c,hc,rfl⟩:=mem_map.mp hx
 exact zf (mem_filter.mp hc).1⟩
theorem V4 (Fu:Fun K "suppose_changed" "suppose_changed" w6 f fd)(T:Txt K mg C)(mkC:qZ Pg w K mg base C)(f0:G4 Pg w K mg base C)(f1:FnAt Pg w K mg base "refusal_of_change" ["row","number","broken","makes","reads"] 3 (yD C))(f2:Jk Pg w K mg base C) :
  au Pg w K mg base CX0 6 f fd ["row","number","broken","makes","reads"] (spF (Jl C)):=by
 have sc:ao ["row","number","broken","makes","reads","refusal"] ["row","number","broken","makes","reads"] (ak w6):=#[sC];wtm_at "cg0"
 .obtain⟨⟨cs,n,b,m,r⟩,⟨hpre,wk⟩,rfl,rfl,h⟩:=h;replace hpre:m.length<=40/\r.length<=40:=hpre;replace wk:CG.SOk cs:=wk;replace h: ∀ad,P (.pt ad) [(ad,.lst ((lw cs n b m r).map .int))]:=h;show DB _ _ [some (.d (aC C cs)),some (.d (.int n)),some (.d (.int b)),some (.d (.lst (m.map .int))),some (.d (.lst (r.map .int))),none] [] _;unfold lw at h;refine aj (bj (k:=5) (x:=.int (dH cs n b m r)) (bD (fun _=>f1) #[da] (bh (cs,n,b,m,r) hpre rfl rfl) #[room] #[rR]) ?_ #[nd] #[rR] #[vis] #[rR] #[vis]);refine aj (aZ #[dt] (fun hb=>?_) (fun hb=>?_))
  .rw[itT hb] at h;exact aj (aF (l:=[.int (dH cs n b m r)]) (aY #[da] bu) h)
  rw[itF hb] at h
  have h0:dH cs n b m r=0:=by simpa using hb
  have ht:=G3 h0 hpre.1 hpre.2;refine aO (aj (aF (bx (fun _=>f2) (aG #[dp] (aG (YN.data (bx (fun _=>f0) (aG #[dp] (aG (nj (fun _=>mkC) (ds:=[.int n,.int b,.lst (m.map .int),.lst (r.map .int)]) ?a1 (yG ht) #[room] #[rR]) aW)) (aP (cs,Vanbkb.told n b m r) wk.len rfl rfl) #[room] #[rR])) aW)) (aP (cs,dG cs (Vanbkb.told n b m r)) (V2 wk h0) rfl rfl) #[room] #[rR]) h))
  case a1=>wtm_at "da"
def lz (cs:List Cell) (n:Int):List Int:=match az cs n with
 | none=>[-8]
 | some _=>gO (gU cs (gK cs n))
def Jm (C:Cs):Fsp:=bA (fun a:List Cell×Int=>CG.SOk a.1) (fun a=>[aC C a.1,.int a.2]) fun a=>(lz a.1 a.2).map .int
theorem V5 (Fu:Fun K "suppose_dropped" "suppose_dropped" xf f fd)(T:Txt K mg C)(f0:dU Pg w K mg base C)(f1:G5 Pg w K mg base C)(f2:Jk Pg w K mg base C):au Pg w K mg base CX0 6 f fd ["row","number"] (spF (Jm C)):=by
 have sc:ao ["row","number"] ["row","number"] (ak xf):=#[sC];wtm_at "cg0"
 .obtain⟨⟨cs,n⟩,wk,rfl,rfl,h⟩:=h;replace wk:CG.SOk cs:=wk;replace h: ∀ad,P (.pt ad) [(ad,.lst ((lz cs n).map .int))]:=h;show DB _ _ [some (.d (aC C cs)),some (.d (.int n))] [] _;unfold lz at h;refine aj (aZ (lJ (x:=cG (az cs n)) (bD (fun _=>f0) #[da] (bh (cs,n) trivial rfl rfl) #[room] #[rR])) (fun hb=>?_) (fun hb=>?_))
  .cases hp:az cs n with
   | some i=>rw[hp] at hb;exact nomatch (show false=true from hb)
   | none =>
    rw[hp] at h;exact aj (aF (l:=[.int (-8)]) (aY #[da] bu) h)
  .cases hp:az cs n with
   | none=>rw[hp] at hb;exact nomatch (show true=false from hb)
   | some i =>
    rw[hp] at h;exact aO (aj (aF (bx (fun _=>f2) (aG #[dp] (aG (YN.data (bx (fun _=>f1) #[da] (aP (cs,n) wk.len rfl rfl) #[room] #[rR])) aW)) (aP (cs,gK cs n) (V3 wk n) rfl rfl) #[room] #[rR]) h))
end
end
section
def zg (γ:Gm) (bs:List Addr):SV->D->Prop
 | .d x,y=>x=y
 | .pt a,y=> ∃m,y= .lst m/\(a,OD.lst m)∈γ/\a∈bs
theorem zj {O0:Addr->Bool}{H0 H:Hp}{σ:L2.St}{ρ:Rho}{γ:Gm}{bs:List Addr}(I:Ev O0 H0 σ H ρ γ): ∀{ss:List SV} {ds:List D} {vs:List V},Paired (zg γ bs) ss ds->Paired (bK (vis H (hid O0 γ))) ss vs->aA ds (vis H (fC O0 γ bs)) vs
 | _,_,_,.nil,.nil=>bY.mpr rfl
 | .d x::_,_,_,.cons h t,.cons r q=>by
  cases (show x=_ from h);exact aA.cons (Rep.mono m7 r) (zj I t q)
 | .pt a::_,_,_,.cons h t,.cons r q=>by
  obtain⟨m,rfl,hm,hb⟩:=h;obtain⟨o1,e1,xs,rfl,hz,r1⟩:=I.own _ hm;refine aA.cons ?_ (zj I t q);rw[show _=V.ref a from r];exact jm.mpr ⟨a,xs,rfl,bG.mpr ⟨uz hb,e1⟩,hz,r1.mono m7⟩
section
variable {ι:Type}{F:ι->Cx}{ρ:Rho}{γ:Gm}{e o:Expr}{es:List Expr}{pos p apos:Pos}{nm:Str}{ps:List Str}{k:Nat}{Φ:Fsp}
theorem Jo {Pp:SV->Gm->Prop}(bs:List Addr)(fa: ∀i,FnAt (F i).prog (F i).w (F i).K (F i).mg (F i).base nm ps k Φ)
  (ha:DAG F (e::es) ρ γ (fun ss γ1=> ∃ (ds:List D) (ns:List Int),Paired (zg γ1 bs) ss ds/\Φ (ds.map .d) [] (fun s γ'=> ∃ad,s= .pt ad/\γ'=[(ad,.lst (ns.map D.int))])/\ ∀ad,Pp (.pt ad) ((ad,.lst (ns.map D.int))::γ1))) (hr: ∀i,aR k (F i).A) (hg: ∀i,Gl (F i) nm)
  (hdb:(nm==("__debug__":Str))=false:=by decide) (he: ∀i,starEach (e::es) (F i).env=(false,eval e (F i).env)::starEach es (F i).env:=by intro _;rfl) (hpl: ∀i,(backTo pos (starEach es (F i).env)).any (·.1)=false:=by intro _;rfl) :
  DG F (.Call (.Name nm p) (e::es) [] pos) ρ γ Pp:=fun O0 H0 σ H I Q k'=>SE.mk2 (t:=fun _=>jj (spF Φ) [] E0 (SA F (e::es))) (fun i=>by
   obtain⟨f,fd,h1,h2,h3,h4⟩:=(fa i).ex
   exact jP h4 (hr i) (hg i) h1 h2 h3 .nil fM (SA.pa i) hdb (he i) (hpl i)) fun i=>ha I _ fun ss γ1 vs H1 hP E1 s1 r=>by
  obtain⟨ds,ns,hl,hΦ,hP⟩:=hP;refine⟨fC O0 γ1 bs,ds.map .d,[],_,by rw[append_nil];exact E1.lend (zj E1 hl r),hΦ,?_⟩;rintro s γ' v H' ⟨ad,rfl,rfl⟩ E' r';have ev:v= .ref ad:=r';subst ev
  have sm:aB H1 H':=by
   have:=E'.same
   rwa [cY] at this
  have ym:=E'.young _ (mem_singleton.mpr rfl);rw[cY] at ym;obtain⟨o1,e1,xs,rfl,hz,rr⟩:=E'.own _ (mem_singleton.mpr rfl);rw[<-qm e1]
  have s2:aB H1 (fun b=>if b=ad then none else H' b):=fun b o q=>by
   show (if b=ad then none else H' b)=some o;rw[if_neg (bW q ym.2)];exact sm _ _ q
  have hn:(fun b=>if b=ad then none else H' b:Hp) ad=none:=if_pos rfl;refine k' (.pt ad) _ _ _ (hP ad) ((E1.grow s2).push (w:=.lst (ns.map D.int)) hn ⟨xs,rfl,hz,cW.mpr (cW.mp rr)⟩) ?_ rfl;refine s1.trans ((cD s2).trans (d8 (fB hn) fun b hb=>?_));rcases aQ.mp hb with z | z
  .exact .inl (aQ.mpr (.inl z))
  .rcases mem_cons.mp z with z | z
   .exact .inr (by rw[z];exact hn)
   .exact .inl (aQ.mpr (.inr z))
end
def At (ns:List Int) (p:Nat) (l:List Int):Prop:=ns.drop p=l
theorem At.head {ns:List Int}{p:Nat}{v:Int}{l:List Int}(h:At ns p (v::l)):ns[p]?=some v:=by
 have:=congrArg (fun l:List Int=>l[0]?) (show ns.drop p=v::l from h);simpa using this
theorem At.next {ns:List Int}{p:Nat}{v:Int}{l:List Int}(h:At ns p (v::l)):At ns (p+1) l:=by
 unfold At at h ⊢;rw[<-List.drop_drop,h];rfl
theorem At.row {ns:List Int}{p:Nat}{l r:List Int}(h:At ns p ((l.length:Int)::(l++r))):(ns.drop (p+1)).take l.length=l:=by
 rw[show ns.drop (p+1)=l++r from h.next,List.take_left'];rfl
theorem At.rest {ns:List Int}{p:Nat}{l r:List Int}(h:At ns p ((l.length:Int)::(l++r))):At ns (p+1+l.length) r:=by
 unfold At;rw[<-List.drop_drop,show ns.drop (p+1)=l++r from h.next,List.drop_left'];rfl
section
variable {ι:Type}{F:ι->Cx}{ρ:Rho}{γf:Gm}{e o:Expr}{es:List Expr}{pos p apos:Pos}{Pp:SV->Gm->Prop}{C:Cs}{rd:Addr}{ns l r:List Int}{q:Nat}{v:Int}{pl:Sem Bool}
abbrev cI (Pg:Program) (w:World) (K:Frag) (mg:Str->Option Value) (base:Heap) (C:Cs):Prop:=MethAt Pg w K mg base C.rd "take_whole" ["self"] 1 (GF C)
abbrev oJ (Pg:Program) (w:World) (K:Frag) (mg:Str->Option Value) (base:Heap) (C:Cs):Prop:=MethAt Pg w K mg base C.rd "take_list" ["self"] 1 (GJ C)
theorem eF (fa: ∀i,cI (F i).prog (F i).w (F i).K (F i).mg (F i).base C)(ho:DR F o ρ ((rd,rdO C ns q)::γf) rd)(hat:At ns q (v::l))(hr: ∀i,aR 1 (F i).A)(h:Pp (.d (.int v)) ((rd,rdO C ns (q+1))::γf))
  (ht: ∀i,eval (.Call (.Attribute o "take_whole" apos) [] [] pos) (F i).env=(do
   let ov <-eval o (F i).env
   standAt apos.atName
   let (f,first) <-holding [ov] (getMethod ov "take_whole" pl)
   callWith pos f first (backTo pos (starEach [] (F i).env)) (backToKw pos (keywordEach [] (F i).env))):=by intro _;rfl):DG F (.Call (.Attribute o "take_whole" apos) [] [] pos) ρ ((rd,rdO C ns q)::γf) Pp :=
 Dr (γu:=[(rd,rdO C ns q)]) (γf:=γf) (Pu:=fun s γ'=>s= .d (.int v)/\γ'=[(rd,rdO C ns (q+1))]) fa ho (mem_cons_self ..) (by decide) (List.Perm.refl _) ⟨rd,ns,q,v,hat.head,rfl,rfl,rfl,rfl⟩ (by rintro s γ' ⟨rfl,rfl⟩;exact h) hr ht
theorem lA (fa: ∀i,oJ (F i).prog (F i).w (F i).K (F i).mg (F i).base C)(ho:DR F o ρ ((rd,rdO C ns q)::γf) rd)(hz:ns.length<=sizeLine)(hat:At ns q ((l.length:Int)::(l++r)))(hr: ∀i,aR 1 (F i).A)(h: ∀a,Pp (.pt a) ((a,.lst (l.map .int))::(rd,rdO C ns (q+1+l.length))::γf))
  (ht: ∀i,eval (.Call (.Attribute o "take_list" apos) [] [] pos) (F i).env=(do
   let ov <-eval o (F i).env
   standAt apos.atName
   let (f,first) <-holding [ov] (getMethod ov "take_list" pl)
   callWith pos f first (backTo pos (starEach [] (F i).env)) (backToKw pos (keywordEach [] (F i).env))):=by intro _;rfl):DG F (.Call (.Attribute o "take_list" apos) [] [] pos) ρ ((rd,rdO C ns q)::γf) Pp :=
 Dr (γu:=[(rd,rdO C ns q)]) (γf:=γf) (Pu:=fun s γ'=> ∃a,s= .pt a/\γ'=[(a,.lst (l.map .int)),(rd,rdO C ns (q+1+l.length))]) fa ho (mem_cons_self ..) (by decide) (List.Perm.refl _) ⟨rd,ns,q,l,hz,hat.head,hat.row,rfl,rfl,fun a=>⟨a,rfl,rfl⟩⟩ (by rintro s γ' ⟨a,rfl,rfl⟩;exact h a) hr ht
end
end
section
section
def Jp (C:Cs) (R:List Int->Nat->List Cell->Nat->List Cell->List Int->Prop):Fsp:=fun ss γ P=> ∃ (nb rd r:Addr) (cs:List Cell) (ns:List Int) (q q':Nat) (cs':List Cell) (ans:List Int),(bF cs/\ns.length<=sizeLine/\R ns q cs q' cs' ans)/\ss=[.pt nb,.pt rd]/\γ=(rd,rdO C ns q)::NB C nb r cs /\
 ∀a' r' γ2,γ2.Perm ((a',.lst (ans.map .int))::(rd,rdO C ns q')::NB C nb r' cs')->P (.pt a') γ2
abbrev b8 (Pg:Program) (w:World) (K:Frag) (mg:Str->Option Value) (base:Heap) (C:Cs) (f:Addr) (fd:FuncData) (k:Nat) (R:List Int->Nat->List Cell->Nat->List Cell->List Int->Prop):Prop:=au Pg w K mg base CX0 k f fd ["notebook","reader"] (spF (Jp C R))
def R0 (f:List Cell->List Int):List Int->Nat->List Cell->Nat->List Cell->List Int->Prop:=fun _ q cs q' cs' ans=>q'=q/\cs'=cs/\ans=f cs
def R1 (f:List Cell->Int->List Int):List Int->Nat->List Cell->Nat->List Cell->List Int->Prop:=fun ns q cs q' cs' ans=> ∃n rest,At ns q (n::rest)/\q'=q+1/\cs'=cs/\ans=f cs n
theorem Jq {γ:Gm}{bs:List Addr}{a:Addr}{m:List D}{x:D}(h:(a,OD.lst m)∈γ)(hb:a∈bs):Paired (zg γ bs) [.pt a,.d x] [.lst m,x]:=.cons ⟨m,rfl,h,hb⟩ (.cons rfl .nil)
theorem V6 (Fu:Fun K "call_cells" "call_cells" xR f fd)(T:Txt K mg C)(f1:FnAt Pg w K mg base "all_cells" ["row"] 2 (HD C)):b8 Pg w K mg base C f fd 3 (R0 fun cs=>aN cs (List.range cs.length)):=by
 have sc:ao ["notebook","reader"] ["notebook","reader"] (ak xR):=#[sC];wtm_at "cg1"
 .obtain⟨nb,rd,ro,cs,ns,q,q',cs',ans,⟨ok,hz,rfl,rfl,rfl⟩,rfl,rfl,h⟩:=h;have hlen:=ok.len;show DB _ _ [some (.pt nb),some (.pt rd)] ((rd,rdO C ns q')::NB C nb ro cs') _;refine aj (aF (m9 (bs:=[ro]) (ns:=aN cs' (List.range cs'.length)) (fun _=>f1) ?a1 (aP cs' hlen rfl rfl) #[room] #[rR]) fun a=>h a ro _ (List.Perm.refl _))
  case a1=>wtm_at "ab"
theorem V7 (Fu:Fun K "call_order" "call_order" xY f fd)(T:Txt K mg C)(f1:FnAt Pg w K mg base "order_of_cells" ["row"] 4 (HR C)):b8 Pg w K mg base C f fd 5 (R0 fun cs=>aN cs (bz cs)):=by
 have sc:ao ["notebook","reader"] ["notebook","reader"] (ak xY):=#[sC];wtm_at "cg1"
 .obtain⟨nb,rd,ro,cs,ns,q,q',cs',ans,⟨ok,hz,rfl,rfl,rfl⟩,rfl,rfl,h⟩:=h;show DB _ _ [some (.pt nb),some (.pt rd)] ((rd,rdO C ns q')::NB C nb ro cs') _;refine aj (aF (m9 (bs:=[ro]) (ns:=aN cs' (bz cs')) (fun _=>f1) ?a1 (aP cs' ok rfl rfl) #[room] #[rR]) fun a=>h a ro _ (List.Perm.refl _))
  case a1=>wtm_at "ab"
theorem fK {ι:Type}{F:ι->Cx}{ρ:Rho}{nb rd ro:Addr}{cs:List Cell}{ns:List Int}{q k:Nat}{n:Int}{rest:List Int}{e e2:Expr}{pos p apos:Pos}{nm:Str}{ps:List Str}{Φ:Fsp}{ans:List Int}{P:SV->Gm->Prop}{pl:Sem Bool}
  (fa: ∀i,FnAt (F i).prog (F i).w (F i).K (F i).mg (F i).base nm ps k Φ) (fw: ∀i,cI (F i).prog (F i).w (F i).K (F i).mg (F i).base C) (h1:DR F e ρ ((rd,rdO C ns q)::NB C nb ro cs) ro) (h2:DR F e2 ρ ((rd,rdO C ns q)::NB C nb ro cs) rd) (hat:At ns q (n::rest))
  (hΦ:Φ ([aC C cs,.int n].map .d) [] (fun s γ'=> ∃ad,s= .pt ad/\γ'=[(ad,.lst (ans.map D.int))])) (hP: ∀a,P (.pt a) ((a,.lst (ans.map .int))::(rd,rdO C ns (q+1))::NB C nb ro cs)) (hr: ∀i,aR (k+1) (F i).A) (hg: ∀i,Gl (F i) nm) (hdb:(nm==("__debug__":Str))=false)
  (he: ∀i,starEach [e,.Call (.Attribute e2 "take_whole" apos) [] [] p] (F i).env=(false,eval e (F i).env)::starEach [.Call (.Attribute e2 "take_whole" apos) [] [] p] (F i).env) (he2: ∀i,starEach [.Call (.Attribute e2 "take_whole" apos) [] [] p] (F i).env=[(false,eval (.Call (.Attribute e2 "take_whole" apos) [] [] p) (F i).env)])
  (ht: ∀i,eval (.Call (.Attribute e2 "take_whole" apos) [] [] p) (F i).env=(do
   let ov <-eval e2 (F i).env
   standAt apos.atName
   let (f,first) <-holding [ov] (getMethod ov "take_whole" pl)
   callWith p f first (backTo p (starEach [] (F i).env)) (backToKw p (keywordEach [] (F i).env)))) {p3:Pos}:DG F (.Call (.Name nm p3) [e,.Call (.Attribute e2 "take_whole" apos) [] [] p] [] pos) ρ ((rd,rdO C ns q)::NB C nb ro cs) P:=by
 refine Jo [ro] fa (bZ (YR.gen h1 (bZ (eF fw h2 hat (fun i=>(hr i).mono (by omega)) (iT ?_) ht) he2)) he) (fun i=>(hr i).mono (by omega)) hg hdb he (fun i=>by rw[he2 i];rfl);exact⟨[aC C cs,.int n],ans,Jq (mem_cons_of_mem _ (mem_cons_self ..)) (mem_cons_self ..),hΦ,hP⟩
theorem V8 (Fu:Fun K "call_cell" "call_cell" xT f fd)(T:Txt K mg C)(fw:cI Pg w K mg base C)(f1:FnAt Pg w K mg base "one_cell" ["row","number"] 2 (HF C)):b8 Pg w K mg base C f fd 4 (R1 mD):=by
 have sc:ao ["notebook","reader"] ["notebook","reader"] (ak xT):=#[sC];wtm_at "cg1"
 .obtain⟨nb,rd,ro,cs,ns,q,q',cs',ans,⟨ok,hz,n,rest,hat,rfl,rfl,rfl⟩,rfl,rfl,h⟩:=h;show DB _ _ [some (.pt nb),some (.pt rd)] ((rd,rdO C ns q)::NB C nb ro cs') _;refine' aj (bN (fK (fun _=>f1) (fun _=>fw) ?d1 ?d2 hat (aP (cs',n) ok rfl rfl) (fun a=>h a ro _ (List.Perm.refl _)) ?room ?gl ?db ?e1 ?e2 ?tt))
  case d1=>wtm_at "dr"
  case d2=>wtm_at "dr"
  case room=>wtm_at "room"
  case gl=>exact fun _=>rfl
  case db=>decide
  case e1=>exact fun _=>rfl
  case e2=>exact fun _=>rfl
  case tt=>exact fun _=>rfl
theorem V9 (Fu:Fun K "call_makers" "call_makers" xU f fd)(T:Txt K mg C)(fw:cI Pg w K mg base C)(f1:FnAt Pg w K mg base "makers_of" ["row","name"] 2 (HN C)):b8 Pg w K mg base C f fd 4 (R1 (fH CG.pmk)):=by
 have sc:ao ["notebook","reader"] ["notebook","reader"] (ak xU):=#[sC];wtm_at "cg1"
 .obtain⟨nb,rd,ro,cs,ns,q,q',cs',ans,⟨ok,hz,n,rest,hat,rfl,rfl,rfl⟩,rfl,rfl,h⟩:=h;show DB _ _ [some (.pt nb),some (.pt rd)] ((rd,rdO C ns q)::NB C nb ro cs') _;refine' aj (bN (fK (fun _=>f1) (fun _=>fw) ?d1 ?d2 hat (aP (cs',n) ok.len rfl rfl) (fun a=>h a ro _ (List.Perm.refl _)) ?room ?gl ?db ?e1 ?e2 ?tt))
  case d1=>wtm_at "dr"
  case d2=>wtm_at "dr"
  case room=>wtm_at "room"
  case gl=>exact fun _=>rfl
  case db=>decide
  case e1=>exact fun _=>rfl
  case e2=>exact fun _=>rfl
  case tt=>exact fun _=>rfl
theorem Wa (Fu:Fun K "call_readers" "call_readers" xV f fd)(T:Txt K mg C)(fw:cI Pg w K mg base C)(f1:FnAt Pg w K mg base "readers_of" ["row","name"] 2 (HQ C)):b8 Pg w K mg base C f fd 4 (R1 (fH CG.prd)):=by
 have sc:ao ["notebook","reader"] ["notebook","reader"] (ak xV):=#[sC];wtm_at "cg1"
 .obtain⟨nb,rd,ro,cs,ns,q,q',cs',ans,⟨ok,hz,n,rest,hat,rfl,rfl,rfl⟩,rfl,rfl,h⟩:=h;show DB _ _ [some (.pt nb),some (.pt rd)] ((rd,rdO C ns q)::NB C nb ro cs') _;refine' aj (bN (fK (fun _=>f1) (fun _=>fw) ?d1 ?d2 hat (aP (cs',n) ok.len rfl rfl) (fun a=>h a ro _ (List.Perm.refl _)) ?room ?gl ?db ?e1 ?e2 ?tt))
  case d1=>wtm_at "dr"
  case d2=>wtm_at "dr"
  case room=>wtm_at "room"
  case gl=>exact fun _=>rfl
  case db=>decide
  case e1=>exact fun _=>rfl
  case e2=>exact fun _=>rfl
  case tt=>exact fun _=>rfl
theorem Wb (Fu:Fun K "call_state" "call_state" xW f fd)(T:Txt K mg C)(fw:cI Pg w K mg base C)(f1:FnAt Pg w K mg base "state_of_cell" ["row","number"] 4 (fJ C fun cs i=>[(aV cs i:Int)])):b8 Pg w K mg base C f fd 6 (R1 (bf fun cs i=>[(aV cs i:Int)])):=by
 have sc:ao ["notebook","reader"] ["notebook","reader"] (ak xW):=#[sC];wtm_at "cg1"
 .obtain⟨nb,rd,ro,cs,ns,q,q',cs',ans,⟨ok,hz,n,rest,hat,rfl,rfl,rfl⟩,rfl,rfl,h⟩:=h;show DB _ _ [some (.pt nb),some (.pt rd)] ((rd,rdO C ns q)::NB C nb ro cs') _;refine' aj (bN (fK (fun _=>f1) (fun _=>fw) ?d1 ?d2 hat (aP (cs',n) ok rfl rfl) (fun a=>h a ro _ (List.Perm.refl _)) ?room ?gl ?db ?e1 ?e2 ?tt))
  case d1=>wtm_at "dr"
  case d2=>wtm_at "dr"
  case room=>wtm_at "room"
  case gl=>exact fun _=>rfl
  case db=>decide
  case e1=>exact fun _=>rfl
  case e2=>exact fun _=>rfl
  case tt=>exact fun _=>rfl
theorem Wc (Fu:Fun K "call_troubles" "call_troubles" xX f fd)(T:Txt K mg C)(fw:cI Pg w K mg base C)(f1:FnAt Pg w K mg base "troubles_of_cell" ["row","number"] 4 (fJ C je)):b8 Pg w K mg base C f fd 6 (R1 (bf je)):=by
 have sc:ao ["notebook","reader"] ["notebook","reader"] (ak xX):=#[sC];wtm_at "cg1"
 .obtain⟨nb,rd,ro,cs,ns,q,q',cs',ans,⟨ok,hz,n,rest,hat,rfl,rfl,rfl⟩,rfl,rfl,h⟩:=h;show DB _ _ [some (.pt nb),some (.pt rd)] ((rd,rdO C ns q)::NB C nb ro cs') _;refine' aj (bN (fK (fun _=>f1) (fun _=>fw) ?d1 ?d2 hat (aP (cs',n) ok rfl rfl) (fun a=>h a ro _ (List.Perm.refl _)) ?room ?gl ?db ?e1 ?e2 ?tt))
  case d1=>wtm_at "dr"
  case d2=>wtm_at "dr"
  case room=>wtm_at "room"
  case gl=>exact fun _=>rfl
  case db=>decide
  case e1=>exact fun _=>rfl
  case e2=>exact fun _=>rfl
  case tt=>exact fun _=>rfl
theorem mG {α:Type}{pre:α->List Cell->Prop}{args:α->List D}{res:α->List Cell->List Cell×List Int}{ι:Type}{F:ι->Cx}{ρ:Rho}{γ:Gm}{nb rd ro:Addr}{cs:List Cell}{e:Expr}{es:List Expr}{pos p:Pos}{nm:Str}{ps:List Str}{k:Nat}{P:SV->Gm->Prop}
  (fa: ∀i,FnAt (F i).prog (F i).w (F i).K (F i).mg (F i).base nm ps k (EdF C pre args res)) (ha:DAG F (e::es) ρ γ (fun ss γ1=> ∃ (a:α) (w:OD),pre a cs/\ss= .pt nb::(args a).map .d/\γ1=(rd,w)::NB C nb ro cs/\ ∀a' r' γ2,γ2.Perm ((a',.lst ((res a cs).2.map .int))::(rd,w)::NB C nb r' (res a cs).1)->P (.pt a') γ2)) (hr: ∀i,aR k (F i).A) (hg: ∀i,Gl (F i) nm)
  (hdb:(nm==("__debug__":Str))=false:=by decide) (he: ∀i,starEach (e::es) (F i).env=(false,eval e (F i).env)::starEach es (F i).env:=by intro _;rfl) (hpl: ∀i,(backTo pos (starEach es (F i).env)).any (·.1)=false:=by intro _;rfl):DG F (.Call (.Name nm p) (e::es) [] pos) ρ γ P:=by
 refine PJ fa (fun O0 H0 σ H I Q k'=>ha I Q fun ss γ1 vs H' hP=>k' ss γ1 vs H' ?_) hr hg hdb he hpl;obtain⟨a,w,hpre,rfl,rfl,hP⟩:=hP;refine⟨NB C nb ro cs,[(rd,w)],fun s γ'=> ∃a' r',s= .pt a'/\γ'=(a',.lst ((res a cs).2.map .int))::NB C nb r' (res a cs).1,List.perm_append_comm (l₁:=[(rd,w)]),⟨nb,ro,cs,a,hpre,rfl,rfl,fun a' r'=>⟨a',r',rfl,rfl⟩⟩,?_⟩;rintro s γ' ⟨a',r',rfl,rfl⟩;exact hP a' r' _ (.cons _ (List.perm_append_comm (l₂:=[(rd,w)])))
def zm:List Int->Nat->List Cell->Nat->List Cell->List Int->Prop:=fun _ q cs q' cs' ans=>q'=q/\(cs',ans)=kW cs
theorem Wd (Fu:Fun K "call_tidy" "call_tidy" xP f fd)(T:Txt K mg C)(f1:FnAt Pg w K mg base "tidy_cells" ["notebook"] 4 (Hy C)):b8 Pg w K mg base C f fd 5 zm:=by
 have sc:ao ["notebook","reader"] ["notebook","reader"] (ak xP):=#[sC];wtm_at "cg1"
 .obtain⟨nb,rd,ro,cs,ns,q,q',cs',ans,⟨ok,hz,rfl,he⟩,rfl,rfl,h⟩:=h;show DB _ _ [some (.pt nb),some (.pt rd)] ((rd,rdO C ns q')::NB C nb ro cs) _;obtain⟨rfl,rfl⟩:=Prod.mk.inj he;exact aj (bN (mG (rd:=rd) (ro:=ro) (nb:=nb) (cs:=cs) (fun _=>f1) (bZ (YR.gen #[ptr] (iT ⟨(),_,ok,rfl,rfl,fun a' r' γ2 hp=>h a' r' γ2 hp⟩))) #[room] #[rR]))
def zp:List Int->Nat->List Cell->Nat->List Cell->List Int->Prop:=fun ns q cs q' cs' ans=> ∃n rest,At ns q (n::rest)/\q'=q+1/\(cs',ans)=jD cs n
theorem We (Fu:Fun K "call_drop" "call_drop" xN f fd)(T:Txt K mg C)(fw:cI Pg w K mg base C)(f1:FnAt Pg w K mg base "drop_cell" ["notebook","number"] 2 (G6 C)):b8 Pg w K mg base C f fd 3 zp:=by
 have sc:ao ["notebook","reader"] ["notebook","reader"] (ak xN):=#[sC];wtm_at "cg1"
 .obtain⟨nb,rd,ro,cs,ns,q,q',cs',ans,⟨ok,hz,n,rest,hat,rfl,he⟩,rfl,rfl,h⟩:=h;show DB _ _ [some (.pt nb),some (.pt rd)] ((rd,rdO C ns q)::NB C nb ro cs) _;obtain⟨rfl,rfl⟩:=Prod.mk.inj he;exact aj (bN (mG (rd:=rd) (ro:=ro) (nb:=nb) (cs:=cs) (fun _=>f1) (bZ (YR.gen #[ptr] (bZ (eF (fun _=>fw) #[ptr] hat #[room] (iT ⟨n,_,ok.len,rfl,rfl,fun a' r' γ2 hp=>h a' r' γ2 hp⟩))))) #[room] #[rR]))
def zq:List Int->Nat->List Cell->Nat->List Cell->List Int->Prop:=fun ns q cs q' cs' ans=> ∃n p rest,At ns q (n::p::rest)/\q'=q+1+1/\(cs',ans)=jE cs n p
theorem Wg (Fu:Fun K "call_move" "call_move" xO f fd)(T:Txt K mg C)(fw:cI Pg w K mg base C)(f1:FnAt Pg w K mg base "move_cell" ["notebook","number","place"] 2 (G8 C)):b8 Pg w K mg base C f fd 3 zq:=by
 have sc:ao ["notebook","reader","number","place"] ["notebook","reader"] (ak xO):=#[sC];wtm_at "cg1"
 .obtain⟨nb,rd,ro,cs,ns,q,q',cs',ans,⟨ok,hz,n,p,rest,hat,rfl,he⟩,rfl,rfl,h⟩:=h;show DB _ _ [some (.pt nb),some (.pt rd),none,none] ((rd,rdO C ns q)::NB C nb ro cs) _;obtain⟨rfl,rfl⟩:=Prod.mk.inj he;refine aj (bQ (k:=2) (eF (fun _=>fw) #[ptr] hat #[room] ?_) #[nd] #[rR] #[vis] #[rR] #[vis]);refine aj (bQ (k:=3) (eF (fun _=>fw) #[ptr] hat.next #[room] ?_) #[nd] #[rR] #[vis] #[rR] #[vis]);exact aj (bN (mG (rd:=rd) (ro:=ro) (nb:=nb) (cs:=cs) (fun _=>f1) (bZ (YR.gen #[ptr] (bZ (YP.gen #[dp] (bZ (YP.gen #[dp] (iT ⟨(n,p),_,ok.len,rfl,rfl,fun a' r' γ2 hp=>h a' r' γ2 hp⟩))))))) #[room] #[rR]))
def zr:List Int->Nat->List Cell->Nat->List Cell->List Int->Prop:=fun ns q cs q' cs' ans=> ∃n p rest,At ns q (n::p::rest)/\q'=q+1+1/\(cs',ans)=jF cs n p
theorem bF.fewer {cs:List Cell}(ok:bF cs): ∀c∈cs,Few c:=fun c hc=>⟨by have:=(ok.few c hc).1.1;omega,by have:=(ok.few c hc).1.2;omega⟩
theorem Wh (Fu:Fun K "call_rename" "call_rename" xQ f fd)(T:Txt K mg C)(fw:cI Pg w K mg base C)(f1:FnAt Pg w K mg base "rename_name" ["notebook","old_name","new_name"] 4 (Hd C)):b8 Pg w K mg base C f fd 5 zr:=by
 have sc:ao ["notebook","reader","old_name","new_name"] ["notebook","reader"] (ak xQ):=#[sC];wtm_at "cg1"
 .obtain⟨nb,rd,ro,cs,ns,q,q',cs',ans,⟨ok,hz,n,p,rest,hat,rfl,he⟩,rfl,rfl,h⟩:=h;show DB _ _ [some (.pt nb),some (.pt rd),none,none] ((rd,rdO C ns q)::NB C nb ro cs) _;obtain⟨rfl,rfl⟩:=Prod.mk.inj he;refine aj (bQ (k:=2) (eF (fun _=>fw) #[ptr] hat #[room] ?_) #[nd] #[rR] #[vis] #[rR] #[vis]);refine aj (bQ (k:=3) (eF (fun _=>fw) #[ptr] hat.next #[room] ?_) #[nd] #[rR] #[vis] #[rR] #[vis]);exact aj (bN (mG (rd:=rd) (ro:=ro) (nb:=nb) (cs:=cs) (fun _=>f1) (bZ (YR.gen #[ptr] (bZ (YP.gen #[dp] (bZ (YP.gen #[dp] (iT ⟨(n,p),_,⟨ok.len,ok.fewer⟩,rfl,rfl,fun a' r' γ2 hp=>h a' r' γ2 hp⟩))))))) #[room] #[rR]))
def zu:List Int->Nat->List Cell->Nat->List Cell->List Int->Prop:=fun ns q cs q' cs' ans=> ∃n b m r rest,At ns q (n::b::(m.length:Int)::(m++((r.length:Int)::(r++rest))))/\(m.length<=40/\r.length<=40)/\q'=q+1+1+1+m.length+1+r.length/\(cs',ans)=jC cs n b m r
theorem Wi (Fu:Fun K "call_change" "call_change" xM f fd)(T:Txt K mg C)(fw:cI Pg w K mg base C)(fl:oJ Pg w K mg base C)(f1:FnAt Pg w K mg base "change_cell" ["notebook","number","broken","makes","reads"] 4 (GX C)):b8 Pg w K mg base C f fd 5 zu:=by
 have sc:ao ["notebook","reader","number","broken","makes","reads"] ["notebook","reader"] (ak xM):=#[sC];wtm_at "cg1"
 .obtain⟨nb,rd,ro,cs,ns,q,q',cs',ans,⟨ok,hz,n,b,m,r,rest,hat,hle,rfl,he⟩,rfl,rfl,h⟩:=h;show DB _ _ [some (.pt nb),some (.pt rd),none,none,none,none] ((rd,rdO C ns q)::NB C nb ro cs) _;obtain⟨rfl,rfl⟩:=Prod.mk.inj he;refine aj (bQ (k:=2) (eF (fun _=>fw) #[ptr] hat #[room] ?_) #[nd] #[rR] #[vis] #[rR] #[vis]);refine aj (bQ (k:=3) (eF (fun _=>fw) #[ptr] hat.next #[room] ?_) #[nd] #[rR] #[vis] #[rR] #[vis]);refine aj (bQ (k:=4) (lA (fun _=>fl) #[ptr] hz hat.next.next #[room] fun a=>?_) #[nd] #[rR] #[vis] #[rR] #[vis]);refine j5 (k:=4) rfl (List.Perm.refl _) ?_;refine aj (bQ (k:=5) (lA (fun _=>fl) #[ptr] hz hat.next.next.rest #[room] fun a=>?_) #[nd] #[rR] #[vis] #[rR] #[vis]);refine j5 (k:=5) rfl (List.Perm.refl _) ?_;exact aj (bN (mG (rd:=rd) (ro:=ro) (nb:=nb) (cs:=cs) (fun _=>f1) (bZ (YR.gen #[ptr] (bZ (YP.gen #[dp] (bZ (YP.gen #[dp] (bZ (YP.gen #[dp] (bZ (YP.gen #[dp] (iT ⟨(n,b,m,r),_,⟨hle,ok.len⟩,rfl,rfl,fun a' r' γ2 hp=>h a' r' γ2 hp⟩))))))))))) #[room] #[rR]))
def zx:List Int->Nat->List Cell->Nat->List Cell->List Int->Prop:=fun ns q cs q' cs' ans=> ∃n p b m r rest,At ns q (n::p::b::(m.length:Int)::(m++((r.length:Int)::(r++rest))))/\(m.length<=40/\r.length<=40)/\q'=q+1+1+1+1+m.length+1+r.length/\(cs',ans)=jB cs n p b m r
theorem Wj (Fu:Fun K "call_add" "call_add" xK f fd)(T:Txt K mg C)(fw:cI Pg w K mg base C)(fl:oJ Pg w K mg base C)(f1:FnAt Pg w K mg base "add_cell" ["notebook","number","place","broken","makes","reads"] 4 (GQ C)):b8 Pg w K mg base C f fd 5 zx:=by
 have sc:ao ["notebook","reader","number","place","broken","makes","reads"] ["notebook","reader"] (ak xK):=#[sC];wtm_at "cg1"
 .obtain⟨nb,rd,ro,cs,ns,q,q',cs',ans,⟨ok,hz,n,p,b,m,r,rest,hat,hle,rfl,he⟩,rfl,rfl,h⟩:=h;show DB _ _ [some (.pt nb),some (.pt rd),none,none,none,none,none] ((rd,rdO C ns q)::NB C nb ro cs) _;obtain⟨rfl,rfl⟩:=Prod.mk.inj he;refine aj (bQ (k:=2) (eF (fun _=>fw) #[ptr] hat #[room] ?_) #[nd] #[rR] #[vis] #[rR] #[vis]);refine aj (bQ (k:=3) (eF (fun _=>fw) #[ptr] hat.next #[room] ?_) #[nd] #[rR] #[vis] #[rR] #[vis]);refine aj (bQ (k:=4) (eF (fun _=>fw) #[ptr] hat.next.next #[room] ?_) #[nd] #[rR] #[vis] #[rR] #[vis]);refine aj (bQ (k:=5) (lA (fun _=>fl) #[ptr] hz hat.next.next.next #[room] fun a=>?_) #[nd] #[rR] #[vis] #[rR] #[vis]);refine j5 (k:=5) rfl (List.Perm.refl _) ?_;refine aj (bQ (k:=6) (lA (fun _=>fl) #[ptr] hz hat.next.next.next.rest #[room] fun a=>?_) #[nd] #[rR] #[vis] #[rR] #[vis]);refine j5 (k:=6) rfl (List.Perm.refl _) ?_;exact aj (bN (mG (rd:=rd) (ro:=ro) (nb:=nb) (cs:=cs) (fun _=>f1) (bZ (YR.gen #[ptr] (bZ (YP.gen #[dp] (bZ (YP.gen #[dp] (bZ (YP.gen #[dp] (bZ (YP.gen #[dp] (bZ (YP.gen #[dp] (iT ⟨(n,p,b,m,r),_,hle,rfl,rfl,fun a' r' γ2 hp=>h a' r' γ2 hp⟩))))))))))))) #[room] #[rR]))
end
end
section
local macro_rules | `(tactic| wtm_at "ak1") => `(tactic| ((case d1 => wtm_at "dr"); (case d2 => wtm_at "dr"); (case room => wtm_at "room"); (case gl => exact fun _ => rfl); (case db => decide); (case e1 => exact fun _ => rfl); (case e2 => exact fun _ => rfl); (case tt => exact fun _ => rfl)))
theorem YG.give {t:TE}{ρ:Rho}{γ γ1:Gm}{l:List D}{P:SV->Gm->Prop}(h:YG t ρ γ (fun s γ'=> ∃a,s= .pt a/\γ'=(a,.lst l)::γ1))(p:P (.d (.lst l)) γ1):YG t ρ γ P:=fun O0 H0 σ H I Q k=>h I Q fun s γ' v H' q E' sm r=>by
 obtain⟨a,rfl,rfl⟩:=q;obtain⟨r2,E2⟩:=E'.give_up (List.Perm.refl _);have ev:v= .ref a:=r;subst ev;refine k (.d (.lst l)) γ1 _ H' p E2 (sm.trans (d8 (aB.refl H') fun b hb=>.inl ?_)) r2;rcases aQ.mp hb with z | z
 .exact aQ.mpr (.inl z)
 .exact aQ.mpr (.inr (mem_cons_of_mem _ z))
section
def R1S (f:List Cell->Int->List Int):List Int->Nat->List Cell->Nat->List Cell->List Int->Prop:=fun ns q cs q' cs' ans=>CG.SOk cs/\R1 f ns q cs q' cs' ans
theorem Wk (Fu:Fun K "call_waves" "call_waves" xZ f fd)(T:Txt K mg C)(fw:cI Pg w K mg base C)(f1:FnAt Pg w K mg base "waves_of_cells" ["row","width"] 4 (Ir C)):b8 Pg w K mg base C f fd 6 (R1 oH):=by
 have sc:ao ["notebook","reader"] ["notebook","reader"] (ak xZ):=#[sC];wtm_at "cg1"
 .obtain⟨nb,rd,ro,cs,ns,q,q',cs',ans,⟨ok,hz,n,rest,hat,rfl,rfl,rfl⟩,rfl,rfl,h⟩:=h;show DB _ _ [some (.pt nb),some (.pt rd)] ((rd,rdO C ns q)::NB C nb ro cs') _;refine' aj (bN (fK (fun _=>f1) (fun _=>fw) ?d1 ?d2 hat (aP (cs',n) ok rfl rfl) (fun a=>h a ro _ (List.Perm.refl _)) ?room ?gl ?db ?e1 ?e2 ?tt));wtm_at "ak1"
theorem Wl (Fu:Fun K "call_level" "call_level" yc f fd)(T:Txt K mg C)(fw:cI Pg w K mg base C)(f1:FnAt Pg w K mg base "level_of_cell" ["row","number"] 5 (rE C fun cs i=>[((dB cs i:Nat):Int)])):b8 Pg w K mg base C f fd 7 (R1 (gR fun cs i=>[((dB cs i:Nat):Int)])):=by
 have sc:ao ["notebook","reader"] ["notebook","reader"] (ak yc):=#[sC];wtm_at "cg1"
 .obtain⟨nb,rd,ro,cs,ns,q,q',cs',ans,⟨ok,hz,n,rest,hat,rfl,rfl,rfl⟩,rfl,rfl,h⟩:=h;show DB _ _ [some (.pt nb),some (.pt rd)] ((rd,rdO C ns q)::NB C nb ro cs') _;refine' aj (bN (fK (fun _=>f1) (fun _=>fw) ?d1 ?d2 hat (aP (cs',n) ok rfl rfl) (fun a=>h a ro _ (List.Perm.refl _)) ?room ?gl ?db ?e1 ?e2 ?tt));wtm_at "ak1"
theorem Wm (Fu:Fun K "call_above" "call_above" yd f fd)(T:Txt K mg C)(fw:cI Pg w K mg base C)(f1:FnAt Pg w K mg base "cells_above" ["row","number"] 4 (fJ C fun cs i=>aN cs (bw cs i))):b8 Pg w K mg base C f fd 6 (R1 (bf fun cs i=>aN cs (bw cs i))):=by
 have sc:ao ["notebook","reader"] ["notebook","reader"] (ak yd):=#[sC];wtm_at "cg1"
 .obtain⟨nb,rd,ro,cs,ns,q,q',cs',ans,⟨ok,hz,n,rest,hat,rfl,rfl,rfl⟩,rfl,rfl,h⟩:=h;show DB _ _ [some (.pt nb),some (.pt rd)] ((rd,rdO C ns q)::NB C nb ro cs') _;refine' aj (bN (fK (fun _=>f1) (fun _=>fw) ?d1 ?d2 hat (aP (cs',n) ok rfl rfl) (fun a=>h a ro _ (List.Perm.refl _)) ?room ?gl ?db ?e1 ?e2 ?tt));wtm_at "ak1"
theorem Wn (Fu:Fun K "call_below" "call_below" ye f fd)(T:Txt K mg C)(fw:cI Pg w K mg base C)(f1:FnAt Pg w K mg base "cells_below" ["row","number"] 4 (fJ C fun cs i=>aN cs (eV cs i))):b8 Pg w K mg base C f fd 6 (R1 (bf fun cs i=>aN cs (eV cs i))):=by
 have sc:ao ["notebook","reader"] ["notebook","reader"] (ak ye):=#[sC];wtm_at "cg1"
 .obtain⟨nb,rd,ro,cs,ns,q,q',cs',ans,⟨ok,hz,n,rest,hat,rfl,rfl,rfl⟩,rfl,rfl,h⟩:=h;show DB _ _ [some (.pt nb),some (.pt rd)] ((rd,rdO C ns q)::NB C nb ro cs') _;refine' aj (bN (fK (fun _=>f1) (fun _=>fw) ?d1 ?d2 hat (aP (cs',n) ok rfl rfl) (fun a=>h a ro _ (List.Perm.refl _)) ?room ?gl ?db ?e1 ?e2 ?tt));wtm_at "ak1"
theorem Wo (Fu:Fun K "call_circle" "call_circle" yf f fd)(T:Txt K mg C)(fw:cI Pg w K mg base C)(f1:FnAt Pg w K mg base "circle_of_cell" ["row","number"] 4 (fJ C fun cs i=>aN cs (jJ cs i))):b8 Pg w K mg base C f fd 6 (R1 (bf fun cs i=>aN cs (jJ cs i))):=by
 have sc:ao ["notebook","reader"] ["notebook","reader"] (ak yf):=#[sC];wtm_at "cg1"
 .obtain⟨nb,rd,ro,cs,ns,q,q',cs',ans,⟨ok,hz,n,rest,hat,rfl,rfl,rfl⟩,rfl,rfl,h⟩:=h;show DB _ _ [some (.pt nb),some (.pt rd)] ((rd,rdO C ns q)::NB C nb ro cs') _;refine' aj (bN (fK (fun _=>f1) (fun _=>fw) ?d1 ?d2 hat (aP (cs',n) ok rfl rfl) (fun a=>h a ro _ (List.Perm.refl _)) ?room ?gl ?db ?e1 ?e2 ?tt));wtm_at "ak1"
theorem Wq (Fu:Fun K "call_ring" "call_ring" yh f fd)(T:Txt K mg C)(fw:cI Pg w K mg base C)(f1:FnAt Pg w K mg base "ring_of_cell" ["row","number"] 4 (fJ C lg)):b8 Pg w K mg base C f fd 6 (R1 (bf lg)):=by
 have sc:ao ["notebook","reader"] ["notebook","reader"] (ak yh):=#[sC];wtm_at "cg1"
 .obtain⟨nb,rd,ro,cs,ns,q,q',cs',ans,⟨ok,hz,n,rest,hat,rfl,rfl,rfl⟩,rfl,rfl,h⟩:=h;show DB _ _ [some (.pt nb),some (.pt rd)] ((rd,rdO C ns q)::NB C nb ro cs') _;refine' aj (bN (fK (fun _=>f1) (fun _=>fw) ?d1 ?d2 hat (aP (cs',n) ok rfl rfl) (fun a=>h a ro _ (List.Perm.refl _)) ?room ?gl ?db ?e1 ?e2 ?tt));wtm_at "ak1"
theorem Wr (Fu:Fun K "call_why" "call_why" yj f fd)(T:Txt K mg C)(fw:cI Pg w K mg base C)(f1:FnAt Pg w K mg base "why_of_cell" ["row","number"] 4 (fJ C oG)):b8 Pg w K mg base C f fd 6 (R1 (bf oG)):=by
 have sc:ao ["notebook","reader"] ["notebook","reader"] (ak yj):=#[sC];wtm_at "cg1"
 .obtain⟨nb,rd,ro,cs,ns,q,q',cs',ans,⟨ok,hz,n,rest,hat,rfl,rfl,rfl⟩,rfl,rfl,h⟩:=h;show DB _ _ [some (.pt nb),some (.pt rd)] ((rd,rdO C ns q)::NB C nb ro cs') _;refine' aj (bN (fK (fun _=>f1) (fun _=>fw) ?d1 ?d2 hat (aP (cs',n) ok rfl rfl) (fun a=>h a ro _ (List.Perm.refl _)) ?room ?gl ?db ?e1 ?e2 ?tt));wtm_at "ak1"
theorem Ws (Fu:Fun K "call_needed" "call_needed" yo f fd)(T:Txt K mg C)(fw:cI Pg w K mg base C)(f1:FnAt Pg w K mg base "needed_by_cell" ["row","number"] 5 (rE C fun cs i=>aN cs (near cs i))):b8 Pg w K mg base C f fd 7 (R1 (gR fun cs i=>aN cs (near cs i))):=by
 have sc:ao ["notebook","reader"] ["notebook","reader"] (ak yo):=#[sC];wtm_at "cg1"
 .obtain⟨nb,rd,ro,cs,ns,q,q',cs',ans,⟨ok,hz,n,rest,hat,rfl,rfl,rfl⟩,rfl,rfl,h⟩:=h;show DB _ _ [some (.pt nb),some (.pt rd)] ((rd,rdO C ns q)::NB C nb ro cs') _;refine' aj (bN (fK (fun _=>f1) (fun _=>fw) ?d1 ?d2 hat (aP (cs',n) ok rfl rfl) (fun a=>h a ro _ (List.Perm.refl _)) ?room ?gl ?db ?e1 ?e2 ?tt));wtm_at "ak1"
theorem Wt (Fu:Fun K "call_without" "call_without" yt f fd)(T:Txt K mg C)(fw:cI Pg w K mg base C)(f1:FnAt Pg w K mg base "suppose_dropped" ["row","number"] 6 (Jm C)):b8 Pg w K mg base C f fd 8 (R1S lz):=by
 have sc:ao ["notebook","reader"] ["notebook","reader"] (ak yt):=#[sC];wtm_at "cg1"
 .obtain⟨nb,rd,ro,cs,ns,q,q',cs',ans,⟨ok,hz,wk,n,rest,hat,rfl,rfl,rfl⟩,rfl,rfl,h⟩:=h;show DB _ _ [some (.pt nb),some (.pt rd)] ((rd,rdO C ns q)::NB C nb ro cs') _;refine' aj (bN (fK (fun _=>f1) (fun _=>fw) ?d1 ?d2 hat (aP (cs',n) wk rfl rfl) (fun a=>h a ro _ (List.Perm.refl _)) ?room ?gl ?db ?e1 ?e2 ?tt));wtm_at "ak1"
theorem Wu (Fu:Fun K "call_groups" "call_groups" yp f fd)(T:Txt K mg C)(f1:FnAt Pg w K mg base "groups_of_cells" ["row"] 4 (Io C)):b8 Pg w K mg base C f fd 5 (R0 fun cs=>gQ cs (iw cs)):=by
 have sc:ao ["notebook","reader"] ["notebook","reader"] (ak yp):=#[sC];wtm_at "cg1"
 .obtain⟨nb,rd,ro,cs,ns,q,q',cs',ans,⟨ok,hz,rfl,rfl,rfl⟩,rfl,rfl,h⟩:=h;show DB _ _ [some (.pt nb),some (.pt rd)] ((rd,rdO C ns q')::NB C nb ro cs') _;refine aj (aF (m9 (bs:=[ro]) (ns:=gQ cs' (iw cs')) (fun _=>f1) ?a1 (aP cs' ok rfl rfl) #[room] #[rR]) fun a=>h a ro _ (List.Perm.refl _))
  case a1=>wtm_at "ab"
def zy:List Int->Nat->List Cell->Nat->List Cell->List Int->Prop:=fun ns q cs q' cs' ans=> ∃a b rest,At ns q (a::b::rest)/\q'=q+1+1/\cs'=cs/\ans=lq cs a b
theorem Wv (Fu:Fun K "call_way" "call_way" yg f fd)(T:Txt K mg C)(fw:cI Pg w K mg base C)(f1:FnAt Pg w K mg base "way_between" ["row","begin_number","end_number"] 4 (Im C)):b8 Pg w K mg base C f fd 5 zy:=by
 have sc:ao ["notebook","reader","begin_number","end_number"] ["notebook","reader"] (ak yg):=#[sC];wtm_at "cg1"
 .obtain⟨nb,rd,ro,cs,ns,q,q',cs',ans,⟨ok,hz,x,y,rest,hat,rfl,rfl,rfl⟩,rfl,rfl,h⟩:=h;show DB _ _ [some (.pt nb),some (.pt rd),none,none] ((rd,rdO C ns q)::NB C nb ro cs') _;refine aj (bQ (k:=2) (eF (fun _=>fw) #[ptr] hat #[room] ?_) #[nd] #[rR] #[vis] #[rR] #[vis]);refine aj (bQ (k:=3) (eF (fun _=>fw) #[ptr] hat.next #[room] ?_) #[nd] #[rR] #[vis] #[rR] #[vis]);refine aj (aF (m9 (bs:=[ro]) (ns:=lq cs' x y) (fun _=>f1) ?a1 (aP (cs',x,y) ok rfl rfl) #[room] #[rR]) fun a=>h a ro _ (List.Perm.refl _))
  case a1=>wtm_at "ab"
def zA:List Int->Nat->List Cell->Nat->List Cell->List Int->Prop:=fun ns q cs q' cs' ans=> ∃l rest,At ns q ((l.length:Int)::(l++rest))/\l.length<=40/\q'=q+1+l.length/\cs'=cs/\ans=lu cs l
theorem Ww (Fu:Fun K "call_touched" "call_touched" yq f fd)(T:Txt K mg C)(fl:oJ Pg w K mg base C)(f1:FnAt Pg w K mg base "touched_cells" ["row","numbers"] 4 (Ja C)):b8 Pg w K mg base C f fd 6 zA:=by
 have sc:ao ["notebook","reader"] ["notebook","reader"] (ak yq):=#[sC];wtm_at "cg1"
 .obtain⟨nb,rd,ro,cs,ns,q,q',cs',ans,⟨ok,hz,l,rest,hat,hle,rfl,rfl,rfl⟩,rfl,rfl,h⟩:=h;show DB _ _ [some (.pt nb),some (.pt rd)] ((rd,rdO C ns q)::NB C nb ro cs') _;refine aj (bN (Jo [ro] (fun _=>f1) (bZ (YR.gen #[dr] (bZ (YG.give (l:=l.map .int) (γ1:=(rd,rdO C ns (q+1+l.length))::NB C nb ro cs') ?gl (iT ⟨[aC C cs',.lst (l.map .int)],lu cs' l,Jq (mem_cons_of_mem _ (mem_cons_self ..)) (mem_cons_self ..),aP (cs',l) ⟨ok,hle⟩ rfl rfl,fun a=>h a ro _ (List.Perm.refl _)⟩))))) #[room] #[rR]))
  case gl=>exact lA (fun _=>fl) #[ptr] hz hat #[room] fun a=>⟨a,rfl,rfl⟩
def zB:List Int->Nat->List Cell->Nat->List Cell->List Int->Prop:=fun ns q cs q' cs' ans=>CG.SOk cs/\ ∃n b m r rest,At ns q (n::b::(m.length:Int)::(m++((r.length:Int)::(r++rest))))/\(m.length<=40/\r.length<=40)/\q'=q+1+1+1+m.length+1+r.length/\cs'=cs/\ans=lw cs n b m r
theorem Wx (Fu:Fun K "call_suppose" "call_suppose" yr f fd)(T:Txt K mg C)(fw:cI Pg w K mg base C)(fl:oJ Pg w K mg base C)(f1:FnAt Pg w K mg base "suppose_changed" ["row","number","broken","makes","reads"] 6 (Jl C)):b8 Pg w K mg base C f fd 7 zB:=by
 have sc:ao ["notebook","reader","number","broken","makes","reads"] ["notebook","reader"] (ak yr):=#[sC];wtm_at "cg1"
 .obtain⟨nb,rd,ro,cs,ns,q,q',cs',ans,⟨ok,hz,wk,n,b,m,r,rest,hat,hle,rfl,rfl,rfl⟩,rfl,rfl,h⟩:=h;show DB _ _ [some (.pt nb),some (.pt rd),none,none,none,none] ((rd,rdO C ns q)::NB C nb ro cs') _;refine aj (bQ (k:=2) (eF (fun _=>fw) #[ptr] hat #[room] ?_) #[nd] #[rR] #[vis] #[rR] #[vis]);refine aj (bQ (k:=3) (eF (fun _=>fw) #[ptr] hat.next #[room] ?_) #[nd] #[rR] #[vis] #[rR] #[vis]);refine aj (bQ (k:=4) (lA (fun _=>fl) #[ptr] hz hat.next.next #[room] fun a=>?_) #[nd] #[rR] #[vis] #[rR] #[vis]);refine j5 (k:=4) rfl (List.Perm.refl _) ?_;refine aj (bQ (k:=5) (lA (fun _=>fl) #[ptr] hz hat.next.next.rest #[room] fun a=>?_) #[nd] #[rR] #[vis] #[rR] #[vis]);refine j5 (k:=5) rfl (List.Perm.refl _) ?_;refine aj (aF (m9 (bs:=[ro]) (ns:=lw cs' n b m r) (fun _=>f1) ?a1 (aP (cs',n,b,m,r) ⟨hle,wk⟩ rfl rfl) #[room] #[rR]) fun a=>h a ro _ (List.Perm.refl _))
  case a1=>wtm_at "ab"
end
end
section
open Vanbkb in
theorem Jr {cs:List Cell}{n:Int}:(if n < 0 then none else find ⟨cs⟩ n.toNat)=(az cs n).map (aH cs):=by
 unfold az find
 by_cases h:n < 0
 .rw[if_pos h]
  have:cs.findIdx? (fun c=>decide ((c.number:Int)=n))=none:=by
   rw[List.findIdx?_eq_none_iff];intro c _;exact decide_eq_false (by omega)
  rw[this];rfl
 .rw[if_neg h]
  have e:(fun c:Cell=>c.number==n.toNat)=fun c=>decide ((c.number:Int)=n):=by
   funext c;rw[Bool.eq_iff_iff,beq_iff_eq,decide_eq_true_eq];omega
  show cs.find? _=_;rw[e]
  cases hf:cs.findIdx? (fun c=>decide ((c.number:Int)=n)) with
  | none =>
   rw[List.findIdx?_eq_none_iff] at hf;rw[List.find?_eq_none.mpr fun c hc=>by rw[hf c hc];decide];rfl
  | some i =>
   obtain⟨hi,h1,h2⟩:=List.findIdx?_eq_some_iff_getElem.mp hf;have e2:aH cs i=cs[i]:=Option.some.inj ((fQ hi).symm.trans (List.getElem?_eq_getElem hi));show _=some (aH cs i);rw[e2,List.find?_eq_some_iff_getElem];exact⟨h1,i,hi,rfl,fun j hj=>by simpa using h2 j hj⟩
open Vanbkb in
theorem jg {cs:List Cell}{n:Int}{f:Cell->State×Answer}:withCell ⟨cs⟩ n f=match az cs n with | none=>(⟨cs⟩,⟨-8,[]⟩) | some i=>f (aH cs i):=by
 unfold withCell;rw[Jr]
 cases az cs n<;>rfl
def Stp (cs:List Cell) (k:Vanbkb.Call) (cs':List Cell) (ans:List Int):Prop:=(Vanbkb.step ⟨cs⟩ k).1=⟨cs'⟩/\encode (Vanbkb.step ⟨cs⟩ k).2=ans
theorem fV {cs:List Cell}{n:Int}{i:Nat}(h:az cs n=some i):i < cs.length/\((aH cs i).number:Int)=n:=by
 obtain⟨c,hc,hn⟩:=nR h;have hi:=(List.getElem?_eq_some_iff.mp hc).1;rw[fQ hi] at hc;exact⟨hi,by rw[Option.some.inj hc];exact hn⟩
theorem zE {α:Type}(f:α->Nat): ∀{l:List α} {i:Nat} {c:α},(l.map f).Nodup->l[i]?=some c->(l.filter fun d=>f d != f c)=l.eraseIdx i
 | [],_,_,_,h=>by cases h
 | a::l,0,c,nd,h=>by
  cases h;rw[map_cons,nodup_cons] at nd;rw[filter_cons,if_neg (by simp)];refine filter_eq_self.mpr fun d hd=>?_;rw[bne_iff_ne];exact fun e=>nd.1 (e ▸ mem_map.mpr ⟨d,hd,rfl⟩)
 | a::l,i+1,c,nd,h=>by
  rw[map_cons,nodup_cons] at nd;have hc:c∈l:=mem_of_getElem? (i:=i) h;rw[filter_cons,if_pos,zE f nd.2 (show l[i]?=some c from h)]
  .rfl
  .rw[bne_iff_ne];exact fun e=>nd.1 (by rw[e];exact mem_map.mpr ⟨c,hc,rfl⟩)
theorem Js {α:Type}(f:α->Nat): ∀{l:List α} {i:Nat} {c:α},(l.map f).Nodup->l[i]?=some c->((l.map f).takeWhile fun m=>m != f c).length=i
 | [],_,_,_,h=>by cases h
 | a::l,0,c,nd,h=>by
  cases h;rw[map_cons,List.takeWhile_cons,if_neg (by simp)];rfl
 | a::l,i+1,c,nd,h=>by
  rw[map_cons,nodup_cons] at nd;have hc:c∈l:=mem_of_getElem? (i:=i) h;rw[map_cons,List.takeWhile_cons,if_pos,length_cons,Js f nd.2 (show l[i]?=some c from h)];rw[bne_iff_ne];exact fun e=>nd.1 (by rw[e];exact mem_map.mpr ⟨c,hc,rfl⟩)
section
open Vanbkb
variable {cs:List Cell}
theorem Jt {a:Nat}{n:Int}(h:(a:Int)=n):(cs.filter fun c=>c.number != a)=gK cs n:=by
 unfold gK;refine filter_congr fun d _=>?_;rw[Bool.eq_iff_iff,bne_iff_ne,Bool.not_eq_true',decide_eq_false_iff_not];omega
theorem Wz (w:CG.SOk cs)(n:Int):Stp cs (.drop n) (jD cs n).1 (jD cs n).2:=by
 unfold Stp;show (withCell ⟨cs⟩ n fun c=>(without ⟨cs⟩ c.number,(⟨0,[]⟩:Answer))).1=_/\encode (withCell ⟨cs⟩ n fun c=>(without ⟨cs⟩ c.number,(⟨0,[]⟩:Answer))).2=_;rw[jg];unfold jD
 cases hp:az cs n with
 | none=>exact⟨rfl,rfl⟩
 | some i =>
  refine⟨?_,rfl⟩;show (⟨cs.filter fun c=>c.number != (aH cs i).number⟩:State)=⟨gK cs n⟩;rw[Jt (fV hp).2]
theorem WD (w:CG.SOk cs)(n p:Int):Stp cs (.move n p) (jE cs n p).1 (jE cs n p).2:=by
 unfold Stp;show (withCell ⟨cs⟩ n fun c=>if within p 0 ((cs.length:Nat) - 1)=false then (⟨cs⟩,(⟨-3,[]⟩:Answer)) else (moved ⟨cs⟩ c p.toNat,⟨0,[]⟩)).1=_/\encode (withCell ⟨cs⟩ n fun c=>if within p 0 ((cs.length:Nat) - 1)=false then (⟨cs⟩,(⟨-3,[]⟩:Answer)) else (moved ⟨cs⟩ c p.toNat,⟨0,[]⟩)).2=_;rw[jg];unfold jE
 cases hp:az cs n with
 | none=>exact⟨rfl,rfl⟩
 | some i =>
  have hi:=(fV hp).1;simp only;rw[fQ hi]
  by_cases h:(decide (p < 0)||decide ((cs.length:Int)<=p))=true
  .have h2:within p 0 ((cs.length:Nat) - 1)=false:=by
    rw[Bool.eq_false_iff,Ne,dq];simp only[Bool.or_eq_true,decide_eq_true_eq] at h;omega
   rw[if_pos h,if_pos h2];exact⟨rfl,rfl⟩
  .have h2: ¬within p 0 ((cs.length:Nat) - 1)=false:=by
    rw[Bool.not_eq_false,dq];simp only[Bool.or_eq_true,decide_eq_true_eq] at h;omega
   rw[if_neg h,if_neg h2];refine⟨?_,rfl⟩;show (⟨putAt (cs.filter fun c=>c.number != (aH cs i).number) p.toNat (aH cs i)⟩:State)=_;rw[zE (fun c=>c.number) w.nd (fQ hi)]
theorem WF (w:CG.SOk cs)(n b:Int)(m r:List Int):Stp cs (.change n b m r) (jC cs n b m r).1 (jC cs n b m r).2:=by
 unfold Stp;show (withCell ⟨cs⟩ n fun _=>if fault b m r≠0 then (⟨cs⟩,(⟨fault b m r,[]⟩:Answer)) else (changed ⟨cs⟩ (told n b m r),⟨0,[]⟩)).1=_/\encode (withCell ⟨cs⟩ n fun _=>if fault b m r≠0 then (⟨cs⟩,(⟨fault b m r,[]⟩:Answer)) else (changed ⟨cs⟩ (told n b m r),⟨0,[]⟩)).2=_;rw[jg];unfold jC dH
 cases hp:az cs n with
 | none=>exact⟨rfl,rfl⟩
 | some i =>
  obtain⟨hi,hn⟩:=fV hp;show (if fault b m r≠0 then (⟨cs⟩,(⟨fault b m r,[]⟩:Answer)) else (changed ⟨cs⟩ (told n b m r),⟨0,[]⟩)).1=(⟨(if (!decide (fault b m r=0))=true then (cs,[fault b m r]) else (dG cs (told n b m r),[0])).1⟩:State)/\encode (if fault b m r≠0 then (⟨cs⟩,(⟨fault b m r,[]⟩:Answer)) else (changed ⟨cs⟩ (told n b m r),⟨0,[]⟩)).2=(if (!decide (fault b m r=0))=true then (cs,[fault b m r]) else (dG cs (told n b m r),[0])).2
  by_cases hf:fault b m r=0
  .rw[if_neg (by simpa using hf),if_neg (by simpa using hf)];exact⟨rfl,rfl⟩
  .rw[if_pos hf,if_pos (by simpa using hf)];exact⟨rfl,rfl⟩
theorem WK {n:Int}(hn:1<=n):has ⟨cs⟩ n.toNat= !jW (cG (az cs n)):=by
 have h:=Jr (cs:=cs) (n:=n);rw[if_neg (by omega)] at h;unfold has numbers;rw[Bool.eq_iff_iff,contains_iff_mem,mem_map];unfold find at h;constructor
 .rintro⟨c,hc,e⟩
  cases hp:az cs n with
  | none =>
   rw[hp] at h;have:=List.find?_eq_none.mp h c hc;rw[beq_iff_eq] at this;exact absurd e this
  | some i=>rfl
 .intro q
  cases hp:az cs n with
  | none=>rw[hp] at q;cases q
  | some i =>
   obtain⟨hi,hn⟩:=fV hp;exact⟨aH cs i,n8 hi,by omega⟩
theorem WL (n p b:Int)(m r:List Int):Stp cs (.add n p b m r) (jB cs n p b m r).1 (jB cs n p b m r).2:=by
 unfold Stp;show (doAdd ⟨cs⟩ n p b m r).1=_/\encode (doAdd ⟨cs⟩ n p b m r).2=_;unfold doAdd jB gM;simp only
 by_cases h1:(decide (n < 1)||decide (99 < n))=true
 .have q1:within n 1 99=false:=by
   rw[Bool.eq_false_iff,Ne,dq];simp only[Bool.or_eq_true,decide_eq_true_eq] at h1;omega
  rw[if_pos h1,if_pos q1];exact⟨rfl,rfl⟩
 have h1':1<=n/\n<=99:=by
  simp only[Bool.or_eq_true,decide_eq_true_eq] at h1;omega
 have q1: ¬within n 1 99=false:=by rw[Bool.not_eq_false,dq];exact h1'
 rw[if_neg h1,if_neg q1,WK h1'.1]
 by_cases h2:(!jW (cG (az cs n)))=true
 .rw[if_pos h2,if_pos h2];exact⟨rfl,rfl⟩
 rw[if_neg h2,if_neg h2]
 by_cases h3:(decide (p < 0)||decide ((cs.length:Int) < p))=true
 .have q3:within p 0 (cs.length:Nat)=false:=by
   rw[Bool.eq_false_iff,Ne,dq];simp only[Bool.or_eq_true,decide_eq_true_eq] at h3;omega
  rw[if_pos h3,if_pos q3];exact⟨rfl,rfl⟩
 have q3: ¬within p 0 (cs.length:Nat)=false:=by
  rw[Bool.not_eq_false,dq];simp only[Bool.or_eq_true,decide_eq_true_eq] at h3;omega
 rw[if_neg h3,if_neg q3]
 by_cases h4:fault b m r=0
 .rw[if_neg (c:=(!decide (fault b m r=0))=true) (by simpa using h4),if_neg (c:=fault b m r≠0) (by simpa using h4)]
  by_cases h5:MOST<=cs.length
  .rw[if_pos (c:=decide (12<=(cs.length:Int))=true) (by unfold MOST at h5;exact decide_eq_true (by omega)),if_pos h5];exact⟨rfl,rfl⟩
  .rw[if_neg (c:=decide (12<=(cs.length:Int))=true) (by unfold MOST at h5;rw[decide_eq_true_eq];omega),if_neg h5];exact⟨rfl,rfl⟩
 .rw[if_pos (c:=(!decide (fault b m r=0))=true) (by simpa using h4),if_pos (c:=fault b m r≠0) h4,if_pos (by simpa using h4)];exact⟨rfl,rfl⟩
end
end
section
section
open Vanbkb
variable {cs:List Cell}
theorem Ju (c:Cell)(a:Nat):ie c a=(names c).contains a:=by
 unfold ie names;rw[dO,dO,Bool.eq_iff_iff,Bool.or_eq_true,contains_iff_mem,contains_iff_mem,contains_iff_mem,mem_append]
theorem WM (n p:Int):Stp cs (.rename n p) (jF cs n p).1 (jF cs n p).2:=by
 unfold Stp;show (if (within n 0 31&&within p 0 31)=false then (⟨cs⟩,(⟨-5,[]⟩:Answer)) else if (cs.any fun c=>(names c).contains p.toNat)=true then (⟨cs⟩,⟨-9,[]⟩) else (renamed ⟨cs⟩ n.toNat p.toNat,⟨((cs.filter fun c=>(names c).contains n.toNat).length:Nat),[]⟩)).1=_/\encode (if (within n 0 31&&within p 0 31)=false then (⟨cs⟩,(⟨-5,[]⟩:Answer)) else if (cs.any fun c=>(names c).contains p.toNat)=true then (⟨cs⟩,⟨-9,[]⟩) else (renamed ⟨cs⟩ n.toNat p.toNat,⟨((cs.filter fun c=>(names c).contains n.toNat).length:Nat),[]⟩)).2=_;unfold jF
 by_cases h1:(!within n 0 31|| !within p 0 31)=true
 .have q1:(within n 0 31&&within p 0 31)=false:=by
   cases h2:within n 0 31<;>cases h3:within p 0 31<;>simp_all
  rw[if_pos h1,if_pos q1];exact⟨rfl,rfl⟩
 have q1:within n 0 31=true/\within p 0 31=true:=by
  cases h2:within n 0 31<;>cases h3:within p 0 31<;>simp_all
 rw[if_neg h1,if_neg (by rw[q1.1,q1.2];decide)];have n0:=(dq.mp q1.1).1;have p0:=(dq.mp q1.2).1
 have e1:(fun c=>ie c n)=fun c=>(names c).contains n.toNat:=by
  funext c;rw[<-Ju,Int.toNat_of_nonneg n0]
 have e2:(fun c=>ie c p)=fun c=>(names c).contains p.toNat:=by
  funext c;rw[<-Ju,Int.toNat_of_nonneg p0]
 rw[e1,e2]
 by_cases h2:(cs.any fun c=>(names c).contains p.toNat)=true
 .rw[if_pos h2,if_pos h2];exact⟨rfl,rfl⟩
 .rw[if_neg h2,if_neg h2];exact⟨rfl,rfl⟩
theorem WN (l:List Nat):encode (tell l)=(l.length:Int)::zs l:=rfl
theorem gw {l:List Nat}{ps:List Nat}(h:l=ps.map (CG.num cs)):encode (tell l)=aN cs ps:=by
 rw[WN,h];unfold aN;rw[length_map]
theorem WP:Stp cs .cells cs (aN cs (List.range cs.length)):=⟨rfl,gw (jw (cs:=cs)).symm⟩
theorem WQ (w:CG.SOk cs):Stp cs .order cs (aN cs (bz cs)):=⟨rfl,gw (CG.order_eq w)⟩
theorem WR (n:Int):Stp cs (.makers n) cs (fH CG.pmk cs n):=by
 unfold Stp;show (if within n 0 31=false then ((⟨cs⟩:State),(⟨-5,[]⟩:Answer)) else (⟨cs⟩,tell (makersOf ⟨cs⟩ n.toNat))).1=_/\encode (if within n 0 31=false then ((⟨cs⟩:State),(⟨-5,[]⟩:Answer)) else (⟨cs⟩,tell (makersOf ⟨cs⟩ n.toNat))).2=_;unfold fH
 cases h:within n 0 31 with
 | false=>exact⟨rfl,rfl⟩
 | true=>exact⟨rfl,gw (lX cs n.toNat)⟩
theorem WT (n:Int):Stp cs (.readers n) cs (fH CG.prd cs n):=by
 unfold Stp;show (if within n 0 31=false then ((⟨cs⟩:State),(⟨-5,[]⟩:Answer)) else (⟨cs⟩,tell (readersOf ⟨cs⟩ n.toNat))).1=_/\encode (if within n 0 31=false then ((⟨cs⟩:State),(⟨-5,[]⟩:Answer)) else (⟨cs⟩,tell (readersOf ⟨cs⟩ n.toNat))).2=_;unfold fH
 cases h:within n 0 31 with
 | false=>exact⟨rfl,rfl⟩
 | true=>exact⟨rfl,gw (Rt cs n.toNat)⟩
theorem iy {k:Call}{n:Int}{f:Cell->State×Answer}{g:List Cell->Nat->List Int}(hk:step ⟨cs⟩ k=withCell ⟨cs⟩ n f)(h: ∀i,i < cs.length->(f (aH cs i)).1=⟨cs⟩/\encode (f (aH cs i)).2=g cs i):Stp cs k cs (bf g cs n):=by
 unfold Stp bf;rw[hk,jg]
 cases hp:az cs n with
 | none=>exact⟨rfl,rfl⟩
 | some i=>exact h i (fV hp).1
theorem eG {i:Nat}(h:i < cs.length):(aH cs i).number=CG.num cs i:=(yQ h).symm
theorem WW (w:CG.SOk cs)(n:Int):Stp cs (.state n) cs (bf (fun cs i=>[(aV cs i:Int)]) cs n) :=
 iy (f:=fun c=>(⟨cs⟩,⟨(stateOf ⟨cs⟩ c.number:Nat),[]⟩)) rfl fun i hi=>⟨rfl,by
  show [((stateOf ⟨cs⟩ (aH cs i).number:Nat):Int)]=_
  rw[eG hi,uV w hi]⟩
theorem WX (w:CG.SOk cs)(n:Int):Stp cs (.cell n) cs (mD cs n):=by
 have h:=iy (cs:=cs) (k:=.cell n) (n:=n) (g:=fun cs i=>[0,(i:Int),mark (aH cs i).broken,((aH cs i).makes.length:Int)]++zs (aH cs i).makes++[((aH cs i).reads.length:Int)]++zs (aH cs i).reads) rfl fun i hi=>⟨rfl,by
  show (0:Int)::((((numbers ⟨cs⟩).takeWhile fun m=>m != (aH cs i).number).length:Nat):Int)::(if (aH cs i).broken=true then (1:Int) else 0)::(((aH cs i).makes.length:Nat):Int)::(nats (aH cs i).makes++(((aH cs i).reads.length:Nat):Int)::nats (aH cs i).reads)=_;have e:((numbers ⟨cs⟩).takeWhile fun m=>m != (aH cs i).number).length=i:=Js (fun c:Cell=>c.number) w.nd (fQ hi);rw[e];unfold mark nats zs
  simp only[cons_append,List.nil_append,List.append_assoc]⟩
 exact h
theorem WY {i:Nat}(hi:i < cs.length):cJ cs i=gn cs (aH cs i) (circled (CG.gp (aq cs)) i):=by
 unfold cJ;rw[fQ hi]
theorem W0 (w:CG.SOk cs){i:Nat}(hi:i < cs.length):troubles ⟨cs⟩ (aH cs i)=gq cs i:=by
 unfold troubles gq;simp only
 have e1:(fun x=>decide (2<=(makersOf ⟨cs⟩ x).length))=fun x=>decide (2<=(CG.pmk cs x).length):=by
  funext x;rw[lX,length_map]
 have e2:(fun x=>(makersOf ⟨cs⟩ x).isEmpty)=fun x=>(CG.pmk cs x).isEmpty:=by
  funext x;rw[lX,List.isEmpty_map]
 rw[e1,e2,eG hi,eQ w,Ek (bL w),j8 (bL w),gj,uW w,WY hi];unfold gn;congr 1
 have e3:((CG.row (aq cs) i).map (CG.num cs)).filter (fun m=>m != CG.num cs i&& !((aX cs).map (CG.num cs)).contains m)=(jd cs i).map (CG.num cs):=by
  unfold jd;rw[filter_map];congr 1;refine filter_congr fun s hs=>?_;show (CG.num cs s != CG.num cs i&& !((aX cs).map (CG.num cs)).contains (CG.num cs s))=_;rw[cZ (bL w)];have hsl:s < cs.length:=jH hs;congr 1
  .rw[bne,nD (bL w),Bool.eq_iff_iff,Bool.not_eq_true',Bool.not_eq_true',beq_eq_false_iff_ne,decide_eq_false_iff_not];omega
  .rw[Bool.eq_iff_iff,Bool.not_eq_true',Bool.not_eq_true',<-Bool.not_eq_true,contains_iff_mem,gJ,decide_eq_false_iff_not];constructor
   .intro h e;exact h ⟨hsl,by omega⟩
   .rintro h ⟨_,e⟩;exact h (by omega)
 rw[e3,List.map_map];rfl
theorem W2 (w:CG.SOk cs)(n:Int):Stp cs (.troubles n) cs (bf je cs n) :=
 iy (f:=fun c=>(⟨cs⟩,tellPairs (troubles ⟨cs⟩ c))) rfl fun i hi=>⟨rfl,by
  show ((((troubles ⟨cs⟩ (aH cs i)).length:Nat):Int)::(troubles ⟨cs⟩ (aH cs i)).flatMap fun p=>[(p.1:Int),(p.2:Int)])=_;rw[W0 w hi]
  rfl⟩
theorem filterMap_some {α β:Type}{f:α->Option β}{g:α->β}: ∀{l:List α},(∀x∈l,f x=some (g x))->l.filterMap f=l.map g
 | [],_=>rfl
 | a::l,h=>by rw[filterMap_cons_some (h a (mem_cons_self ..)),filterMap_some fun x hx=>h x (mem_cons_of_mem _ hx)];rfl
theorem W3 (w:CG.SOk cs){l:List Nat}(hl: ∀x∈l,x < cs.length):((l.map (CG.num cs)).filterMap fun n=>find ⟨cs⟩ n)=l.map (aH cs):=by
 rw[List.filterMap_map];refine filterMap_some fun x hx=>?_
 .show cs.find? (fun c=>c.number==CG.num cs x)=some (aH cs x);have hxl:=hl x hx;rw[List.find?_eq_some_iff_getElem];have ex:aH cs x=cs[x]:=Option.some.inj ((fQ hxl).symm.trans (List.getElem?_eq_getElem hxl));refine⟨by rw[beq_iff_eq,eG hxl],x,hxl,ex.symm,fun j hj=>?_⟩
  have hjl:j < cs.length:=by omega
  have ej:aH cs j=cs[j]:=Option.some.inj ((fQ hjl).symm.trans (List.getElem?_eq_getElem hjl));rw[<-ej,eG hjl,Bool.not_eq_true',beq_eq_false_iff_ne]
  exact fun e=>by have:=bL w _ _ e;omega
theorem Jv (cs:List Cell):cs=(List.range cs.length).map (aH cs):=by
 have:=CG.map_range (cs:=cs) (fun c=>c) (aH cs) fun i c h=>by
  have hi:=(List.getElem?_eq_some_iff.mp h).1;rw[fQ hi] at h;exact (Option.some.inj h).symm
 rwa [List.map_id'] at this
theorem W4 (cs:List Cell)(p:Cell->Bool):cs.filter p=((List.range cs.length).filter fun i=>p (aH cs i)).map (aH cs):=by
 have h:=congrArg (fun l=>List.filter p l) (Jv cs);refine h.trans ?_;show ((List.range cs.length).map (aH cs)).filter p=_;rw[filter_map];rfl
theorem W5 (w:CG.SOk cs):(cs.filter fun c=> !((bz cs).map (CG.num cs)).contains c.number)=((List.range cs.length).filter fun i=> !(bz cs).contains i).map (aH cs):=by
 rw[W4];congr 1;refine filter_congr fun i hi=>?_;rw[eG (mem_range.mp hi),cZ (bL w)]
theorem zF (w:CG.SOk cs):tidied ⟨cs⟩=⟨(kW cs).1⟩:=by
 unfold tidied;simp only;rw[CG.order_eq w,W3 w (fG cs).2,W5 w,<-map_append];rfl
theorem W6 (cs:List Cell):(b7 cs).length=cs.length:=by
 have h:=mC cs
 have:(b7 cs).Perm (List.range cs.length):=(List.perm_ext_iff_of_nodup h.nd List.nodup_range).mpr fun x=>by rw[h.mem,mem_range]
 rw[this.length_eq,length_range]
theorem W7 (w:CG.SOk cs):Stp cs .tidy (kW cs).1 (kW cs).2:=by
 unfold Stp;show tidied ⟨cs⟩=_/\[((replaced ⟨cs⟩ (tidied ⟨cs⟩):Nat):Int)]=_;refine⟨zF w,?_⟩;rw[zF w];show [((replaced ⟨cs⟩ ⟨(b7 cs).map (aH cs)⟩:Nat):Int)]=[((n6 cs:Nat):Int)];congr 2;unfold replaced n6 numbers
 have e1:cs.map (fun c=>c.number)=(List.range (b7 cs).length).map (CG.num cs):=by rw[W6,jw]
 have e2:(((b7 cs).map (aH cs)).map fun c=>c.number)=(b7 cs).map (CG.num cs):=by
  rw[List.map_map];exact map_congr_left fun x hx=>eG (((mC cs).mem x).mp hx)
 show (((cs.map fun c=>c.number).zip (((b7 cs).map (aH cs)).map fun c=>c.number)).filter fun p=>p.1 != p.2).length=_;rw[e1,e2]
 have e3:((List.range (b7 cs).length).map (CG.num cs)).zip ((b7 cs).map (CG.num cs))=(b7 cs).zipIdx.map fun q=>(CG.num cs q.2,CG.num cs q.1):=by
  refine List.ext_getElem (by simp) fun k h1 h2=>?_;simp
 rw[e3,filter_map,length_map];congr 1;refine filter_congr fun q _=>?_;show (CG.num cs q.2 != CG.num cs q.1)=_;rw[bne,nD (bL w),Bool.eq_iff_iff,Bool.not_eq_true',Bool.not_eq_true',beq_eq_false_iff_ne,decide_eq_false_iff_not];omega
end
end
section
section
open Vanbkb
variable {cs:List Cell}
theorem W8 (w:CG.SOk cs):bF cs:=by
 refine⟨w.len,fun c hc=>?_⟩;have hm:=w.makes c hc;have hr:=w.reads c hc;exact⟨⟨hm.1.length_le fun x hx=>by have:=hm.2 x hx;omega,hr.1.length_le fun x hx=>by have:=hr.2 x hx;omega⟩,hm.2,hr.2⟩
theorem dY (w:CG.SOk cs){n:Int}{f:Cell->State×Answer}(h: ∀i,i < cs.length->((aH cs i).number:Int)=n->CG.SOk (f (aH cs i)).1.cells):CG.SOk (withCell ⟨cs⟩ n f).1.cells:=by
 rw[jg]
 cases hp:az cs n with
 | none=>exact w
 | some i=>exact h i (fV hp).1 (fV hp).2
theorem W9 (w:CG.SOk cs)(k:Call):CG.SOk (step ⟨cs⟩ k).1.cells:=by
 cases k with
 | add n p b m r =>
  show CG.SOk (doAdd ⟨cs⟩ n p b m r).1.cells;unfold doAdd;simp only;split
  .exact w
  rename_i h1
  split
  .exact w
  rename_i h2
  split
  .exact w
  split
  .exact w
  rename_i h4
  split
  .exact w
  rename_i h5
  rw[Bool.not_eq_false,dq] at h1;rw[Ne,Classical.not_not] at h4;obtain⟨_,hm,hr⟩:=lZ h4;refine Fq w (qK h1 hm hr) (fun z=>h2 ?_) (by unfold MOST at h5;omega);show (cs.map fun c=>c.number).contains n.toNat=true;rw[contains_iff_mem];exact z
 | change n b m r =>
  refine dY w fun i hi hn=>?_;simp only;split
  .exact w
  rename_i h4
  rw[Ne,Classical.not_not] at h4;obtain⟨_,hm,hr⟩:=lZ h4;have:=w.hi _ (n8 hi);exact uZ w (qK (by omega) hm hr)
 | drop n=>exact dY w fun i hi hn=>Ft w _
 | move n p =>
  refine dY w fun i hi hn=>?_;split
  .exact w
  show CG.SOk (putAt (cs.filter fun c=>c.number != (aH cs i).number) p.toNat (aH cs i));refine Fq (Ft w _) (w.cell (n8 hi)) (fun z=>?_) ?_
  .obtain⟨d,hd,e⟩:=mem_map.mp z;have:=(mem_filter.mp hd).2;rw[bne_iff_ne] at this;exact this e
  .show (cs.filter fun c=>c.number != (aH cs i).number).length < 12;rw[zE (fun c:Cell=>c.number) w.nd (fQ hi),length_eraseIdx_of_lt hi];have:=w.len;omega
 | tidy =>
  show CG.SOk (tidied ⟨cs⟩).cells;rw[zF w];refine RL w ?_;show ((b7 cs).map (aH cs)).Perm cs;have h:=mC cs
  have hp:(b7 cs).Perm (List.range cs.length):=(List.perm_ext_iff_of_nodup h.nd List.nodup_range).mpr fun x=>by rw[h.mem,mem_range]
  have:=hp.map (aH cs)
  rwa [<-Jv cs] at this
 | rename a b =>
  show CG.SOk (if (within a 0 31&&within b 0 31)=false then ((⟨cs⟩:State),(⟨-5,[]⟩:Answer)) else if (cs.any fun c=>(names c).contains b.toNat)=true then (⟨cs⟩,⟨-9,[]⟩) else (renamed ⟨cs⟩ a.toNat b.toNat,⟨((cs.filter fun c=>(names c).contains a.toNat).length:Nat),[]⟩)).1.cells;split
  .exact w
  rename_i h1
  split
  .exact w
  rename_i h2
  rw[Bool.not_eq_false,Bool.and_eq_true,dq,dq] at h1;refine RM w (by omega) fun c hc=>?_;rw[Bool.not_eq_true,any_eq_false] at h2;have:=h2 c hc;rw[contains_iff_mem] at this;exact⟨fun z=>this (mem_append_left _ z),fun z=>this (mem_append_right _ z)⟩
 | cells=>exact w
 | cell n=>exact dY w fun i hi hn=>w
 | makers n=>show CG.SOk (if within n 0 31=false then ((⟨cs⟩:State),(⟨-5,[]⟩:Answer)) else (⟨cs⟩,tell (makersOf ⟨cs⟩ n.toNat))).1.cells;split<;>exact w
 | readers n=>show CG.SOk (if within n 0 31=false then ((⟨cs⟩:State),(⟨-5,[]⟩:Answer)) else (⟨cs⟩,tell (readersOf ⟨cs⟩ n.toNat))).1.cells;split<;>exact w
 | state n=>exact dY w fun i hi hn=>w
 | troubles n=>exact dY w fun i hi hn=>w
 | order=>exact w
 | waves n=>show CG.SOk (if within n 1 12=false then ((⟨cs⟩:State),(⟨-10,[]⟩:Answer)) else (⟨cs⟩,tellLists (waves ⟨cs⟩ n.toNat))).1.cells;split<;>exact w
 | level n=>exact dY w fun i hi hn=>by split<;>exact w
 | above n=>exact dY w fun i hi hn=>w
 | below n=>exact dY w fun i hi hn=>w
 | circle n=>exact dY w fun i hi hn=>w
 | way a b =>
  refine dY w fun i hi hn=>?_;refine dY w fun j hj hm=>?_
  split<;>exact w
 | ring n=>exact dY w fun i hi hn=>w
 | why n=>exact dY w fun i hi hn=>w
 | needed n=>exact dY w fun i hi hn=>by split<;>exact w
 | groups=>exact w
 | touched l=>show CG.SOk (if (l.all fun n=>decide (0<=n)&&has ⟨cs⟩ n.toNat)=false then ((⟨cs⟩:State),(⟨-8,[]⟩:Answer)) else (⟨cs⟩,tell (touched ⟨cs⟩ (l.map Int.toNat)))).1.cells;split<;>exact w
 | suppose n b m r=>exact dY w fun i hi hn=>by simp only;split<;>exact w
 | without n=>exact dY w fun i hi hn=>w
end
end
section
theorem Xa {l x s:List Int}(h:PyFlat.row l=some (x,s)):l=(x.length:Int)::(x++s):=by
 cases l with
 | nil=>cases h
 | cons n r =>
  simp only[PyFlat.row] at h;split at h
  .rename_i hn
   simp only[Option.some.injEq,Prod.mk.injEq] at h;obtain⟨rfl,rfl⟩:=h;rw[take_append_drop,length_take,Nat.min_eq_left hn.2,Int.toNat_of_nonneg hn.1]
  .cases h
theorem mH {l t:List Int}{xs:List (List Int)}(h:PyFlat.rows 0 l=some (xs,t)):xs=[]/\t=l:=by
 unfold PyFlat.rows at h;simp only[Option.some.injEq,Prod.mk.injEq] at h;exact⟨h.1.symm,h.2.symm⟩
theorem oK {k:Nat}{l t:List Int}{xs:List (List Int)}(h:PyFlat.rows (k+1) l=some (xs,t)): ∃x ys s,xs=x::ys/\l=(x.length:Int)::(x++s)/\PyFlat.rows k s=some (ys,t):=by
 unfold PyFlat.rows at h
 cases hr:PyFlat.row l with
 | none=>rw[hr] at h;cases h
 | some q =>
  obtain⟨x,s⟩:=q;rw[hr] at h;simp only at h
  cases hs:PyFlat.rows k s with
  | none=>rw[hs] at h;cases h
  | some q2 =>
   obtain⟨ys,t2⟩:=q2;rw[hs] at h;simp only[Option.some.injEq,Prod.mk.injEq] at h;obtain⟨rfl,rfl⟩:=h;exact⟨x,ys,s,rfl,Xa hr,hs⟩
theorem jM {shape:Int->Option (Nat×Nat)}{p:Int}{r t:List Int}{c:List (List Int)}(h:PyFlat.call shape (p::r)=some (c,t)): ∃n k xs,shape p=some (n,k)/\n<=r.length/\PyFlat.rows k (r.drop n)=some (xs,t)/\c=(p::r.take n)::xs:=by
 simp only[PyFlat.call] at h
 cases hs:shape p with
 | none=>rw[hs] at h;cases h
 | some q =>
  obtain⟨n,k⟩:=q;rw[hs] at h;simp only at h;split at h
  .cases h
  .rename_i hn
   cases hr:PyFlat.rows k (r.drop n) with
   | none=>rw[hr] at h;cases h
   | some q2 =>
    obtain⟨xs,t2⟩:=q2;rw[hr] at h;simp only[Option.some.injEq,Prod.mk.injEq] at h;obtain⟨rfl,rfl⟩:=h;exact⟨n,k,xs,rfl,by omega,hr,rfl⟩
theorem mJ {p:Int}{r t:List Int}{c:List (List Int)}{shape:Int->Option (Nat×Nat)}(h:PyFlat.call shape (p::r)=some (c,t))(hs:shape p=some (0,0)):c=[[p]]/\r=t:=by
 obtain⟨n,k,xs,h1,_,h3,rfl⟩:=jM h;rw[hs] at h1;cases h1;obtain⟨rfl,rfl⟩:=mH h3;exact⟨by rw[take_zero],rfl⟩
theorem dM {p:Int}{r t:List Int}{c:List (List Int)}{shape:Int->Option (Nat×Nat)}(h:PyFlat.call shape (p::r)=some (c,t))(hs:shape p=some (1,0)): ∃x,c=[[p,x]]/\r=x::t:=by
 obtain⟨n,k,xs,h1,h2,h3,rfl⟩:=jM h;rw[hs] at h1;cases h1;obtain⟨rfl,rfl⟩:=mH h3
 cases r with
 | nil=>exact absurd h2 (by simp)
 | cons x r=>exact⟨x,rfl,rfl⟩
theorem mK {p:Int}{r t:List Int}{c:List (List Int)}{shape:Int->Option (Nat×Nat)}(h:PyFlat.call shape (p::r)=some (c,t))(hs:shape p=some (2,0)): ∃x y,c=[[p,x,y]]/\r=x::y::t:=by
 obtain⟨n,k,xs,h1,h2,h3,rfl⟩:=jM h;rw[hs] at h1;cases h1;obtain⟨rfl,rfl⟩:=mH h3
 match r,h2 with
 | [],h2=>exact absurd h2 (by simp)
 | [_],h2=>exact absurd h2 (by simp)
 | x::y::r,_=>exact⟨x,y,rfl,rfl⟩
theorem Jw {p:Int}{r t:List Int}{c:List (List Int)}{shape:Int->Option (Nat×Nat)}(h:PyFlat.call shape (p::r)=some (c,t))(hs:shape p=some (0,1)): ∃l,c=[[p],l]/\r=(l.length:Int)::(l++t):=by
 obtain⟨n,k,xs,h1,h2,h3,rfl⟩:=jM h;rw[hs] at h1;cases h1;obtain⟨x,ys,s,rfl,e,h4⟩:=oK h3;obtain⟨rfl,rfl⟩:=mH h4;exact⟨x,by rw[take_zero],e⟩
theorem rJ {p:Int}{r t:List Int}{c:List (List Int)}{shape:Int->Option (Nat×Nat)}(h:PyFlat.call shape (p::r)=some (c,t))(hs:shape p=some (2,2)): ∃x y l m,c=[[p,x,y],l,m]/\r=x::y::(l.length:Int)::(l++((m.length:Int)::(m++t))):=by
 obtain⟨n,k,xs,h1,h2,h3,rfl⟩:=jM h;rw[hs] at h1;cases h1;obtain⟨l,ys,s,rfl,e,h4⟩:=oK h3;obtain⟨m,zs,s2,rfl,e2,h5⟩:=oK h4;obtain⟨rfl,rfl⟩:=mH h5
 match r,h2,e with
 | [],h2,_=>exact absurd h2 (by simp)
 | [_],h2,_=>exact absurd h2 (by simp)
 | x::y::r,_,e=>exact⟨x,y,l,m,rfl,by rw[<-e2];exact congrArg (fun r=>x::y::r) e⟩
theorem Jx {p:Int}{r t:List Int}{c:List (List Int)}{shape:Int->Option (Nat×Nat)}(h:PyFlat.call shape (p::r)=some (c,t))(hs:shape p=some (3,2)): ∃x y z l m,c=[[p,x,y,z],l,m]/\r=x::y::z::(l.length:Int)::(l++((m.length:Int)::(m++t))):=by
 obtain⟨n,k,xs,h1,h2,h3,rfl⟩:=jM h;rw[hs] at h1;cases h1;obtain⟨l,ys,s,rfl,e,h4⟩:=oK h3;obtain⟨m,zs,s2,rfl,e2,h5⟩:=oK h4;obtain⟨rfl,rfl⟩:=mH h5
 match r,h2,e with
 | [],h2,_=>exact absurd h2 (by simp)
 | [_],h2,_=>exact absurd h2 (by simp)
 | [_,_],h2,_=>exact absurd h2 (by simp)
 | x::y::z::r,_,e=>exact⟨x,y,z,l,m,rfl,by rw[<-e2];exact congrArg (fun r=>x::y::z::r) e⟩
theorem cu {c:Prop}[Decidable c]{a q:Nat×Nat}{t:Option (Nat×Nat)}(h:(if c then some a else t)=some q):c\/t=some q:=by
 split at h
 .rename_i hc
  exact .inl hc
 .exact .inr h
theorem Jy {p:Int}{q:Nat×Nat}(h:PyVanbkb.shape p=some q): ∃n:Nat,p=(n:Int)/\n < 26:=by
 unfold PyVanbkb.shape at h;refine (cu h).elim (fun e=>⟨0,e,by decide⟩) fun h=>?_;refine (cu h).elim (fun e=>⟨1,e,by decide⟩) fun h=>?_;refine (cu h).elim (fun e=>⟨2,e,by decide⟩) fun h=>?_;refine (cu h).elim (fun e=>⟨3,e,by decide⟩) fun h=>?_;refine (cu h).elim (fun e=>⟨4,e,by decide⟩) fun h=>?_;refine (cu h).elim (fun e=>⟨5,e,by decide⟩) fun h=>?_;refine (cu h).elim (fun e=>⟨6,e,by decide⟩) fun h=>?_;refine (cu h).elim (fun e=>⟨7,e,by decide⟩) fun h=>?_;refine (cu h).elim (fun e=>⟨8,e,by decide⟩) fun h=>?_;refine (cu h).elim (fun e=>⟨9,e,by decide⟩) fun h=>?_;refine (cu h).elim (fun e=>⟨10,e,by decide⟩) fun h=>?_;refine (cu h).elim (fun e=>⟨11,e,by decide⟩) fun h=>?_;refine (cu h).elim (fun e=>⟨12,e,by decide⟩) fun h=>?_;refine (cu h).elim (fun e=>⟨13,e,by decide⟩) fun h=>?_;refine (cu h).elim (fun e=>⟨14,e,by decide⟩) fun h=>?_;refine (cu h).elim (fun e=>⟨15,e,by decide⟩) fun h=>?_;refine (cu h).elim (fun e=>⟨16,e,by decide⟩) fun h=>?_;refine (cu h).elim (fun e=>⟨17,e,by decide⟩) fun h=>?_;refine (cu h).elim (fun e=>⟨18,e,by decide⟩) fun h=>?_;refine (cu h).elim (fun e=>⟨19,e,by decide⟩) fun h=>?_;refine (cu h).elim (fun e=>⟨20,e,by decide⟩) fun h=>?_;refine (cu h).elim (fun e=>⟨21,e,by decide⟩) fun h=>?_;refine (cu h).elim (fun e=>⟨22,e,by decide⟩) fun h=>?_;refine (cu h).elim (fun e=>⟨23,e,by decide⟩) fun h=>?_;refine (cu h).elim (fun e=>⟨24,e,by decide⟩) fun h=>?_;refine (cu h).elim (fun e=>⟨25,e,by decide⟩) fun h=>?_;cases h
theorem Jz {f:Nat}{p:Int}{r:List Int}{rem:List (List (List Int))}{shape:Int->Option (Nat×Nat)}(h:PyFlat.calls shape f (p::r)=some rem): ∃f' c t rem',PyFlat.call shape (p::r)=some (c,t)/\PyFlat.calls shape f' t=some rem'/\rem=c::rem':=by
 cases f with
 | zero=>cases h
 | succ f =>
  simp only[PyFlat.calls] at h
  cases hc:PyFlat.call shape (p::r) with
  | none=>rw[hc] at h;cases h
  | some q =>
   obtain⟨c,t⟩:=q;rw[hc] at h;simp only at h
   cases ht:PyFlat.calls shape f t with
   | none=>rw[ht] at h;cases h
   | some rem' =>
    rw[ht] at h;simp only[Option.some.injEq] at h;exact⟨f,c,t,rem',rfl,ht,h.symm⟩
theorem JB {f:Nat}{rem:List (List (List Int))}{shape:Int->Option (Nat×Nat)}(h:PyFlat.calls shape f []=some rem):rem=[]:=by
 cases f<;>(unfold PyFlat.calls at h;exact (Option.some.inj h).symm)
theorem Xb {n:Nat}(hn:n < 26){r t:List Int}{c:List (List Int)}(h:PyFlat.call PyVanbkb.shape ((n:Int)::r)=some (c,t)):PyVanbkb.whole c=c:=by
 match n,hn with
 | 0,_=>obtain⟨_,_,_,_,_,rfl,_⟩:=Jx h rfl;rfl
 | 1,_=>obtain⟨_,_,_,_,rfl,_⟩:=rJ h rfl;rfl
 | 2,_=>obtain⟨_,rfl,_⟩:=dM h rfl;rfl
 | 3,_=>obtain⟨_,_,rfl,_⟩:=mK h rfl;rfl
 | 4,_=>obtain⟨rfl,_⟩:=mJ h rfl;rfl
 | 5,_=>obtain⟨_,_,rfl,_⟩:=mK h rfl;rfl
 | 6,_=>obtain⟨rfl,_⟩:=mJ h rfl;rfl
 | 7,_=>obtain⟨_,rfl,_⟩:=dM h rfl;rfl
 | 8,_=>obtain⟨_,rfl,_⟩:=dM h rfl;rfl
 | 9,_=>obtain⟨_,rfl,_⟩:=dM h rfl;rfl
 | 10,_=>obtain⟨_,rfl,_⟩:=dM h rfl;rfl
 | 11,_=>obtain⟨_,rfl,_⟩:=dM h rfl;rfl
 | 12,_=>obtain⟨rfl,_⟩:=mJ h rfl;rfl
 | 13,_=>obtain⟨_,rfl,_⟩:=dM h rfl;rfl
 | 14,_=>obtain⟨_,rfl,_⟩:=dM h rfl;rfl
 | 15,_=>obtain⟨_,rfl,_⟩:=dM h rfl;rfl
 | 16,_=>obtain⟨_,rfl,_⟩:=dM h rfl;rfl
 | 17,_=>obtain⟨_,rfl,_⟩:=dM h rfl;rfl
 | 18,_=>obtain⟨_,_,rfl,_⟩:=mK h rfl;rfl
 | 19,_=>obtain⟨_,rfl,_⟩:=dM h rfl;rfl
 | 20,_=>obtain⟨_,rfl,_⟩:=dM h rfl;rfl
 | 21,_=>obtain⟨_,rfl,_⟩:=dM h rfl;rfl
 | 22,_=>obtain⟨rfl,_⟩:=mJ h rfl;rfl
 | 23,_=>obtain⟨_,rfl,_⟩:=Jw h rfl;rfl
 | 24,_=>obtain⟨_,_,_,_,rfl,_⟩:=rJ h rfl;rfl
 | 25,_=>obtain⟨_,rfl,_⟩:=dM h rfl;rfl
 | n+26,hn=>exact absurd hn (by omega)
theorem JC: ∀{cs:List (List (List Int))} {f:Nat} {l:List Int},PyFlat.calls PyVanbkb.shape f l=some cs->cs.map PyVanbkb.whole=cs
 | [],_,_,_=>rfl
 | c::cs,f,l,h=>by
  cases l with
  | nil=>have:=JB h;cases this
  | cons p r =>
   obtain⟨f',c',t,rem',hc,ht,e⟩:=Jz h;cases e;obtain⟨k,j,xs,hs,_⟩:=jM hc;obtain⟨n,rfl,hn⟩:=Jy hs;rw[map_cons,Xb hn hc,JC ht]
theorem JD (l:List Int):PyVanbkb.calls l=PyFlat.calls PyVanbkb.shape l.length l:=by
 unfold PyVanbkb.calls
 cases h:PyFlat.calls PyVanbkb.shape l.length l with
 | none=>rfl
 | some cs=>simp only[JC h]
end
section
abbrev Rel:=List Int->Nat->List Cell->Nat->List Cell->List Int->Prop
structure Table (Pg:Program) (w:World) (K:Frag) (mg:Str->Option Value) (base:Heap) (C:Cs) (k:Nat) (Rs:Nat->Rel) (Tb:Addr) (xs:List V):Prop where
 top:mg "CALLS"=some (.ref Tb)
 sq: ∀H,SqT K H Tb xs
 fn: ∀n,n < 26-> ∃f,xs[n]?=some (.ref f)/\uD Pg w K mg base f ["notebook","reader"] k (Jp C (Rs n))
def oM (Rs:Nat->Rel):Prop:= ∀ (ns:List Int) (q n:Nat) (rest t:List Int) (c:List (List Int)) (cs:List Cell),n < 26->At ns q ((n:Int)::rest)->CG.SOk cs->PyFlat.call PyVanbkb.shape ((n:Int)::rest)=some (c,t)->asked1 c=true ->
 ∃q',Rs n ns (q+1) cs q' (VanbkbNeutral.step ⟨cs⟩ c).1.cells (VanbkbNeutral.step ⟨cs⟩ c).2/\At ns q' t/\q < q'/\CG.SOk (VanbkbNeutral.step ⟨cs⟩ c).1.cells/\(VanbkbNeutral.step ⟨cs⟩ c).2.length<=1000
structure Mid (ns:List Int) (q:Nat) (cs:List Cell) (told:List Int):Prop where
 ok:CG.SOk cs
 rem: ∃ (f:Nat) (rem:List (List (List Int))),PyFlat.calls PyVanbkb.shape f (ns.drop q)=some rem/\rem.all asked1=true/\rem.length<=400/\told.length<=1001 * (400 - rem.length)/\told++PyFlat.told (PyFlat.played VanbkbNeutral.step ⟨cs⟩ rem)=PyVanbkb.answers ns
theorem Mid.start {ns:List Int}(h:PyVanbkb.answers_asked ns=true):Mid ns 0 [] []:=by
 unfold PyVanbkb.answers_asked at h;rw[JD] at h
 cases hc:PyFlat.calls PyVanbkb.shape ns.length ns with
 | none=>rw[hc] at h;cases h
 | some rem =>
  rw[hc] at h;simp only[Bool.and_eq_true] at h;obtain⟨h1,h2⟩:=h;unfold VanbkbNeutral.asked at h2;rw[Bool.and_eq_true] at h2;unfold PyFlat.atMost at h1;have h3:=of_decide_eq_true h1;refine⟨RK,ns.length,rem,by rw[drop_zero];exact hc,h2.1,h3,Nat.zero_le _,?_⟩;unfold PyVanbkb.answers;rw[JD,hc];rfl
theorem Mid.done {ns:List Int}{q:Nat}{cs:List Cell}{told:List Int}(m:Mid ns q cs told)(h:ns.length<=q):told=PyVanbkb.answers ns:=by
 obtain⟨_,f,rem,h1,_,_,_,h5⟩:=m;rw[List.drop_eq_nil_of_le h] at h1;rw[JB h1] at h5;rw[<-h5];exact (append_nil _).symm
theorem Mid.next {Rs:Nat->Rel}(so:oM Rs){ns:List Int}{q:Nat}{cs:List Cell}{told:List Int}(m:Mid ns q cs told)(h:q < ns.length) :
  ∃ (n q':Nat) (cs':List Cell) (ans rest:List Int),n < 26/\At ns q ((n:Int)::rest)/\Rs n ns (q+1) cs q' cs' ans/\q < q'/\ans.length<=1000/\told.length+1+ans.length<=1001 * 400/\Mid ns q' cs' (told++[(ans.length:Int)]++ans):=by
 obtain⟨ok,f,rem,h1,h2,h3,h4,h5⟩:=m;have hd:ns.drop q=ns[q]::ns.drop (q+1):=drop_eq_getElem_cons h;rw[hd] at h1;obtain⟨f',c,t,rem',hc,ht,rfl⟩:=Jz h1;obtain⟨n',k,xs,hs,_⟩:=jM hc;obtain⟨n,hn,hlt⟩:=Jy hs;rw[List.all_cons,Bool.and_eq_true] at h2;rw[hn] at hc hd;obtain⟨q',hR,hat,hq,hok,hl⟩:=so ns q n (ns.drop (q+1)) t c cs hlt hd ok hc h2.1;rw[length_cons] at h3 h4;refine⟨n,q',_,_,_,hlt,hd,hR,hq,hl,by omega,hok,f',rem',?_,h2.2,by omega,?_,?_⟩
 .rw[show ns.drop q'=t from hat];exact ht
 .rw[length_append,length_append,length_singleton];omega
 .rw[<-h5];show _=told++(((VanbkbNeutral.step ⟨cs⟩ c).2.length:Int)::(VanbkbNeutral.step ⟨cs⟩ c).2++PyFlat.told (PyFlat.played VanbkbNeutral.step (VanbkbNeutral.step ⟨cs⟩ c).1 rem'));rw[List.append_assoc,List.append_assoc];rfl
section
def rK:Fsp:=fun ss γ P=> ∃ (ns:List Int),(ns.length<=sizeLine/\PyVanbkb.answers_asked ns=true)/\ss=[.d (.frl ns)]/\γ=[]/\ ∀a γ',(a,OD.lst ((PyVanbkb.answers ns).map .int))∈γ'->P (.pt a) γ'
def muA (ns:List Int):Gm->Nat
 | (_,.ins _ _ [_,.d (.int p)])::_=>ns.length - p.toNat
 | _=>0
theorem Xc {f:Addr}{fd:FuncData}{k:Nat}{Rs:Nat->Rel}{Tb:Addr}{xs:List V}(Fu:Fun K "answers" "answers" yu f fd)(T:Txt K mg C)(mkN:jr Pg w K mg base "Notebook" C.nb ["self"] 1 (Gz C))(mkR:jr Pg w K mg base "CallReader" C.rd ["self","calls"] 1 (GC C))
  (fm:MethAt Pg w K mg base C.rd "has_more" ["self"] 1 (GD C)) (fw:cI Pg w K mg base C) (tb:Table Pg w K mg base C k Rs Tb xs) (so:oM Rs) (hk:2<=k):au Pg w K mg base CX0 (k+1) f fd ["calls"] (spF rK):=by
 have sc:ao ["calls","notebook","reader","told","call","answer"] ["calls"] (ak yu):=#[sC];wtm_at "cg0"
 .obtain⟨ns,⟨hz,hask⟩,rfl,rfl,h⟩:=h;have r2:=hr.mono (show 2<=k+1 - 1 from hk);show DB _ _ [some (.d (.frl ns)),none,none,none,none,none] [] _;refine aj (bQ (k:=1) (Qh (fun _=>mkN) (fun nb=>⟨nb,rfl,rfl,fun r=>⟨rfl,?_⟩⟩) (fun _=>r2) #[rR]) #[nd] #[rR] #[vis] #[rR] #[vis]);refine aj (bQ (k:=2) (Qg (fun _=>mkR) #[da] (fun rd=>⟨rd,ns,rfl,rfl,rfl,?_⟩) (fun _=>r2) #[rR]) #[nd] #[rR] #[vis] #[rR] #[vis]);refine aj (iQ (k:=3) (aY aW) (fun td=>?_) #[nd] #[rR] #[vis] #[rR] #[vis]);refine GK (γ':=(rd,rdO C ns 0)::(td,.lst (([]:List Int).map .int))::NB C nb r []) (List.Perm.swap ..) ?_;refine aj (ql (fun ρ γ=> ∃q cs told r s4 s5,Mid ns q cs told/\ρ=[some (.d (.frl ns)),some (.pt nb),some (.pt rd),some (.pt td),s4,s5]/\γ=(rd,rdO C ns q)::(td,.lst (told.map .int))::NB C nb r cs) (fun _ γ=>muA ns γ) #[own] ⟨0,[],[],r,none,none,Mid.start hask,rfl,rfl⟩ ?_);rintro ρ γ ⟨q,cs,told,r,s4,s5,m,rfl,rfl⟩;refine⟨decide ((q:Int) < (ns.length:Int)),dN (Qi (fs:=[.frl ns,.int q]) (fun _=>fm) #[ptr] #[mem] (by decide) trivial (bh (ns,q) trivial rfl rfl) (fun _=>r2.mono (by decide))),fun ht=>?_,fun hf=>?_⟩
  .have hq:q < ns.length:=by have:=of_decide_eq_true ht;omega
   obtain⟨n,q',cs',ans,rest,hn,hat,hR,hqq,hal,htl,m'⟩:=m.next so hq
   obtain⟨f,hx,fa⟩:=tb.fn n hn;refine aj (bQ (k:=4) (Qj (f:=f) (n:=n) #[rR] (fun _=>tb.top) (fun _=>tb.sq) (eF (fun _=>fw) #[ptr] hat (fun _=>r2.mono (by decide)) ⟨rfl,?_⟩) (by omega) (by rw[Int.toNat_natCast];exact hx)) #[nd] #[rR] #[vis] #[rR] #[vis]);refine aj (bQ (k:=5) (Qk (j:=4) rfl #[rR] #[vis] (fun _=>fa) (bZ (YR.gen #[ptr] (bZ (YR.gen #[ptr] (iT ?_))))) (fun _=>hr.mono (by omega))) #[nd] #[rR] #[vis] #[rR] #[vis]);refine⟨(rd,rdO C ns (q+1))::NB C nb r cs,[(td,.lst (told.map .int))],fun s γ'=> ∃a' r',s= .pt a'/\γ'.Perm ((a',.lst (ans.map .int))::(rd,rdO C ns q')::NB C nb r' cs'),.cons _ (List.perm_append_comm (l₁:=[(td,OD.lst (told.map .int))])),⟨nb,rd,r,cs,ns,q+1,q',cs',ans,⟨W8 m.ok,hz,hR⟩,rfl,rfl,fun a' r' γ2 hp=>⟨a',r',rfl,hp⟩⟩,?_⟩;rintro s γ' ⟨a',r',rfl,hp⟩;refine GK (γ':=(td,.lst (told.map .int))::(a',.lst (ans.map .int))::(rd,rdO C ns q')::NB C nb r' cs') ((hp.append_right _).trans List.perm_append_comm) ?_;refine ig fun nd=>?_;have htd:=(nodup_cons.mp nd).1;refine aj (d9 (j0 (l:=told.map .int) (x:=.int (ans.map D.int).length) #[ptr] #[mem] #[dp] ?z1 ?_))
   case z1=>rw[length_map,sizeLine_eq];omega
   rw[jA,yE htd];refine aj (d9 (lO (l:=told.map .int++[.int (ans.map D.int).length]) (m:=ans.map .int) #[ptr] #[mem] #[dl] ?z2 ?_))
   case z2=>rw[length_append,length_map,length_map,length_singleton,sizeLine_eq];omega
   rw[jA,yE htd];refine km (ad:=a') (l:=ans.map .int) (γ':=(rd,rdO C ns q')::(td,.lst ((told++[(ans.length:Int)]++ans).map .int))::NB C nb r' cs') ?pp ?_
   case pp =>
    have e:(told++[(ans.length:Int)]++ans).map D.int=told.map D.int++[D.int (ans.map D.int).length]++ans.map D.int:=by
     rw[map_append,map_append,length_map];rfl
    rw[e];exact (List.Perm.swap ..).trans (.cons _ (List.Perm.swap ..))
   refine aO ⟨⟨q',cs',_,r',_,_,m',rfl,rfl⟩,?_⟩;show ns.length - ((q':Int).toNat) < ns.length - ((q:Int).toNat);rw[Int.toNat_natCast,Int.toNat_natCast];omega
  .have hq:ns.length<=q:=by have:=of_decide_eq_false hf;omega
   rw[m.done hq];exact aj (bN (YR.gen #[ptr] (h _ _ #[mem])))
end
end
section
structure Bd (x q:Str) (st:Stmt) (ps:List Str):Prop where
 go: ∀ (kV doc pm:Value) (an:Option Addr) (cdv ct:Value) (us:List Value),us.length=ps.length->bindArgs (fnOf x q (jT st) (gV st) (ak st) .none kV doc pm an cdv ct) ⟨us,[]⟩=pure (ps.zip us)
def Bo (x q:Str) (st:Stmt) (ps:List Str) (us:List Value):Prop:= ∀ (kV doc pm:Value) (an:Option Addr) (cdv ct:Value),bindArgs (fnOf x q (jT st) (gV st) (ak st) .none kV doc pm an cdv ct) ⟨us,[]⟩=pure (ps.zip us)
section
variable {x q a b c d e f:Str}{st:Stmt}
theorem bd1 (h: ∀u,Bo x q st [a] [u]):Bd x q st [a]:=⟨fun k d p n c t us hl=>match us,hl with | [u],_=>h u k d p n c t⟩
theorem bd2 (h: ∀u v,Bo x q st [a,b] [u,v]):Bd x q st [a,b]:=⟨fun k d p n c t us hl=>match us,hl with | [u,v],_=>h u v k d p n c t⟩
theorem bd3 (h: ∀u v w,Bo x q st [a,b,c] [u,v,w]):Bd x q st [a,b,c]:=⟨fun k m p n l r us hl=>match us,hl with | [u,v,w],_=>h u v w k m p n l r⟩
theorem bd5 (h: ∀u v w y z,Bo x q st [a,b,c,d,e] [u,v,w,y,z]):Bd x q st [a,b,c,d,e]:=⟨fun k m p n l r us hl=>match us,hl with | [u,v,w,y,z],_=>h u v w y z k m p n l r⟩
theorem bd6 (h: ∀u v w y z t,Bo x q st [a,b,c,d,e,f] [u,v,w,y,z,t]):Bd x q st [a,b,c,d,e,f]:=⟨fun k m p n l r us hl=>match us,hl with | [u,v,w,y,z,t],_=>h u v w y z t k m p n l r⟩
end
local macro_rules | `(tactic| wtm_at "bd") => `(tactic| first | exact bd1 fun _ _ _ _ _ _ _ => rfl | exact bd2 fun _ _ _ _ _ _ _ _ => rfl | exact bd3 fun _ _ _ _ _ _ _ _ _ => rfl | exact bd4 fun _ _ _ _ _ _ _ _ _ _ => rfl | exact bd5 fun _ _ _ _ _ _ _ _ _ _ _ => rfl | exact bd6 fun _ _ _ _ _ _ _ _ _ _ _ _ => rfl)
def bJ (K:Frag) (x q:Str) (st:Stmt) (f:Addr):Prop:= ∃fd:FuncData,Fun K x q st f fd
section
variable {K:Frag}{x q m:Str}{st:Stmt}{f c:Addr}{oc:Value}{od an:Option Addr}{osl:Array (Option Value)}{kV doc pm cdv ct:Value}
theorem oN {ps:List Str}{fd:FuncData}(F:Fun K x q st f fd)(hb:Bd x q st ps): ∀us:List Value,us.length=ps.length->bindArgs fd ⟨us,[]⟩=pure (ps.zip us):=by
 obtain⟨_,_,kV,doc,pm,an,cdv,ct,_,rfl,_⟩:=F.ex;exact hb.go kV doc pm an cdv ct
theorem bO (hl:K.lookup f=some ⟨oc,od,.func (fnOf x q (jT st) (gV st) (ak st) .none kV doc pm an cdv ct),osl⟩)(hc:codeIn K cdv q=true)(hk:keepIn K (.ref f)=true):bJ K x q st f :=
 ⟨_,⟨⟨oc,od,kV,doc,pm,an,cdv,ct,osl,rfl,hl,hc⟩,hk⟩⟩
def aJ (K:Frag) (x:Str) (st:Stmt):Prop:= ∃f,nsIn K mainGlobals x=some (some (.ref f))/\bJ K x x st f
def MkK (K:Frag) (q:Str) (st:Stmt) (c:Addr):Prop:= ∃f,Mk K c f/\bJ K "__init__" q st f
def MeK (K:Frag) (m q:Str) (st:Stmt) (c:Addr):Prop:= ∃f,Meth K c m f/\bJ K m q st f
theorem aK (h:nsIn K mainGlobals x=some (some (.ref f)))(hl:K.lookup f=some ⟨oc,od,.func (fnOf x x (jT st) (gV st) (ak st) .none kV doc pm an cdv ct),osl⟩)(hc:codeIn K cdv x=true)(hk:keepIn K (.ref f)=true):aJ K x st:=⟨f,h,bO hl hc hk⟩
theorem rM (h1:makesIn K c=true)(h2:findIn K (.ref c) "__init__"=some (some (.ref f)))(h3:isFn K (.ref f)=true)(h4:keepIn K (.ref c)=true)(hl:K.lookup f=some ⟨oc,od,.func (fnOf "__init__" q (jT st) (gV st) (ak st) .none kV doc pm an cdv ct),osl⟩)(hc:codeIn K cdv q=true)(hk:keepIn K (.ref f)=true):MkK K q st c:=⟨f,⟨h1,h2,h3,h4⟩,bO hl hc hk⟩
theorem zG (h2:findIn K (.ref c) m=some (some (.ref f)))(h3:isFn K (.ref f)=true)(hl:K.lookup f=some ⟨oc,od,.func (fnOf m q (jT st) (gV st) (ak st) .none kV doc pm an cdv ct),osl⟩)(hc:codeIn K cdv q=true)(hk:keepIn K (.ref f)=true):MeK K m q st c:=⟨f,⟨h2,h3,hk⟩,bO hl hc hk⟩
theorem bV {i:Int}{t:Tok}(h:nsIn K mainGlobals x=some (some (.int i t))): ∃t,nsIn K mainGlobals x=some (some (.int i t)):=⟨t,h⟩
theorem Xd {vs:List Value}{n:Nat}(h:K.lookup f=some ⟨.type "tuple",od,.seq vs.toArray n,osl⟩): ∃ (od:Option Addr) (n:Nat) (sl:Array (Option Value)),K.lookup f=some ⟨.type "tuple",od,.seq vs.toArray n,sl⟩:=⟨od,n,osl,h⟩
end
def oO (K:Frag):Bool:=K.all fun p=> !(p.2.cls==.type "list")
structure Top (K:Frag) (C:Cs) (fa Tb f0 f1 f2 f3 f4 f5 f6 f7 f8 f9 f10 f11 f12 f13 f14 f15 f16 f17 f18 f19 f20 f21 f22 f23 f24 f25:Addr):Prop where
 noL:oO K=true
 blt: ∀x∈Gk,nsIn K mainGlobals x=some none
 nums: ∀p∈yx,∃t,nsIn K mainGlobals p.1=some (some (.int p.2 t))
 g_Cell:nsIn K mainGlobals "Cell"=some (some (.ref C.cell))
 g_Notebook:nsIn K mainGlobals "Notebook"=some (some (.ref C.nb))
 g_Graph:nsIn K mainGlobals "Graph"=some (some (.ref C.gr))
 g_CallReader:nsIn K mainGlobals "CallReader"=some (some (.ref C.rd))
 tg:nsIn K mainGlobals "CALLS"=some (some (.ref Tb))
 tl: ∃ (od:Option Addr) (n:Nat) (sl:Array (Option Value)),K.lookup Tb=some ⟨.type "tuple",od,.seq [.ref f0,.ref f1,.ref f2,.ref f3,.ref f4,.ref f5,.ref f6,.ref f7,.ref f8,.ref f9,.ref f10,.ref f11,.ref f12,.ref f13,.ref f14,.ref f15,.ref f16,.ref f17,.ref f18,.ref f19,.ref f20,.ref f21,.ref f22,.ref f23,.ref f24,.ref f25].toArray n,sl⟩
 c_Cell:Cls K C.cell
 n_Cell: ∀f∈cellNames,cR K C.cell f
 c_Notebook:Cls K C.nb
 n_Notebook: ∀f∈(["row"]:List Str),cR K C.nb f
 c_Graph:Cls K C.gr
 n_Graph: ∀f∈qU,cR K C.gr f
 c_CallReader:Cls K C.rd
 n_CallReader: ∀f∈(["calls","position"]:List Str),cR K C.rd f
 d_all_places:aJ K "all_places" vz
 d_has_name:aJ K "has_name" vB
 d_is_name:aJ K "is_name" vH
 d_is_width:aJ K "is_width" vI
 d_row_with_changed:aJ K "row_with_changed" vC
 d_row_without:aJ K "row_without" vD
 d_place_of:aJ K "place_of" vA
 d_has_twice:aJ K "has_twice" vJ
 d_refusal_of_content:aJ K "refusal_of_content" vK
 d_refusal_of_add:aJ K "refusal_of_add" vL
 d_refusal_of_change:aJ K "refusal_of_change" vM
 i_Cell:MkK K "Cell.__init__" vq C.cell
 d_add_cell:aJ K "add_cell" wj
 d_change_cell:aJ K "change_cell" wu
 d_drop_cell:aJ K "drop_cell" ww
 d_move_cell:aJ K "move_cell" wy
 d_renamed_list:aJ K "renamed_list" wC
 d_renamed_cell:aJ K "renamed_cell" wB
 d_rename_name:aJ K "rename_name" wA
 d_places_making:aJ K "places_making" vO
 d_places_reading:aJ K "places_reading" vP
 d_sources_of:aJ K "sources_of" vQ
 d_reached_places:aJ K "reached_places" vR
 d_own_troubles_of:aJ K "own_troubles_of" vU
 d_state_of:aJ K "state_of" vV
 d_all_taken:aJ K "all_taken" v6
 d_unclear_sources:aJ K "unclear_sources" vW
 d_waves_of:aJ K "waves_of" v7
 d_running_order:aJ K "running_order" v8
 i_Graph:MkK K "Graph.__init__" vN C.gr
 d_tidy_cells:aJ K "tidy_cells" wz
 d_told_cells:aJ K "told_cells" wG
 d_all_cells:aJ K "all_cells" xm
 d_one_cell:aJ K "one_cell" xn
 d_told_tuples:aJ K "told_tuples" wI
 d_told_lists:aJ K "told_lists" wH
 d_makers_of:aJ K "makers_of" xq
 d_readers_of:aJ K "readers_of" xr
 d_state_of_cell:aJ K "state_of_cell" xu
 d_order_of_cells:aJ K "order_of_cells" wR
 d_troubles_of_cell:aJ K "troubles_of_cell" xx
 d_is_above_some:aJ K "is_above_some" vY
 d_nearest_sources:aJ K "nearest_sources" vX
 d_places_below:aJ K "places_below" vZ
 d_readers_from:aJ K "readers_from" v4
 d_sick_places:aJ K "sick_places" v5
 d_joined_places:aJ K "joined_places" wg
 d_groups_of:aJ K "groups_of" v9
 d_shortest_chain:aJ K "shortest_chain" wD
 d_cells_above:aJ K "cells_above" wJ
 d_cells_below:aJ K "cells_below" wK
 d_circle_of_cell:aJ K "circle_of_cell" wL
 d_ring_of_cell:aJ K "ring_of_cell" wN
 d_why_of_cell:aJ K "why_of_cell" wO
 d_way_between:aJ K "way_between" wM
 d_groups_of_cells:aJ K "groups_of_cells" wQ
 d_waves_of_cells:aJ K "waves_of_cells" wU
 d_refusal_of_unclear:aJ K "refusal_of_unclear" wV
 d_needed_by_cell:aJ K "needed_by_cell" wX
 d_is_touched:aJ K "is_touched" wZ
 d_touched_cells:aJ K "touched_cells" wY
 d_longest_steps:aJ K "longest_steps" wF
 d_level_of_cell:aJ K "level_of_cell" wW
 d_states_by_number:aJ K "states_by_number" xj
 d_told_other_states:aJ K "told_other_states" xg
 d_suppose_changed:aJ K "suppose_changed" w6
 d_suppose_dropped:aJ K "suppose_dropped" xf
 d_call_cells:bJ K "call_cells" "call_cells" xR f6
 d_call_order:bJ K "call_order" "call_order" xY f12
 m_take_whole:MeK K "take_whole" "CallReader.take_whole" xH C.rd
 d_call_cell:bJ K "call_cell" "call_cell" xT f7
 d_call_makers:bJ K "call_makers" "call_makers" xU f8
 d_call_readers:bJ K "call_readers" "call_readers" xV f9
 d_call_state:bJ K "call_state" "call_state" xW f10
 d_call_troubles:bJ K "call_troubles" "call_troubles" xX f11
 d_call_tidy:bJ K "call_tidy" "call_tidy" xP f4
 d_call_drop:bJ K "call_drop" "call_drop" xN f2
 d_call_move:bJ K "call_move" "call_move" xO f3
 d_call_rename:bJ K "call_rename" "call_rename" xQ f5
 m_take_list:MeK K "take_list" "CallReader.take_list" xJ C.rd
 d_call_change:bJ K "call_change" "call_change" xM f1
 d_call_add:bJ K "call_add" "call_add" xK f0
 d_call_waves:bJ K "call_waves" "call_waves" xZ f13
 d_call_level:bJ K "call_level" "call_level" yc f14
 d_call_above:bJ K "call_above" "call_above" yd f15
 d_call_below:bJ K "call_below" "call_below" ye f16
 d_call_circle:bJ K "call_circle" "call_circle" yf f17
 d_call_ring:bJ K "call_ring" "call_ring" yh f19
 d_call_why:bJ K "call_why" "call_why" yj f20
 d_call_needed:bJ K "call_needed" "call_needed" yo f21
 d_call_without:bJ K "call_without" "call_without" yt f25
 d_call_groups:bJ K "call_groups" "call_groups" yp f22
 d_call_way:bJ K "call_way" "call_way" yg f18
 d_call_touched:bJ K "call_touched" "call_touched" yq f23
 d_call_suppose:bJ K "call_suppose" "call_suppose" yr f24
 i_Notebook:MkK K "Notebook.__init__" vy C.nb
 i_CallReader:MkK K "CallReader.__init__" xF C.rd
 m_has_more:MeK K "has_more" "CallReader.has_more" xG C.rd
 ga:nsIn K mainGlobals "answers"=some (some (.ref fa))
 d_answers:bJ K "answers" "answers" yu fa
theorem mem_of_lookup {nm:Str}{n:Int}: ∀{l:List (Str×Int)},l.lookup nm=some n->(nm,n)∈l
 | [],h=>by cases h
 | (a,b)::l,h=>by
  unfold List.lookup at h;split at h
  .rename_i e
   cases h;rw[eq_of_beq e];exact mem_cons_self ..
  .exact mem_cons_of_mem _ (mem_of_lookup h)
section
variable {K:Frag}{mg:Str->Option Value}{h:Heap}{C:Cs}{fa Tb f0 f1 f2 f3 f4 f5 f6 f7 f8 f9 f10 f11 f12 f13 f14 f15 f16 f17 f18 f19 f20 f21 f22 f23 f24 f25:Addr}{x q m:Str}{st:Stmt}{ps:List Str}{k j:Nat}{Φ:Fsp}{f c:Addr}
theorem Xe (X:K.In h)(G:h.Ns mainGlobals mg)(t:Top K C fa Tb f0 f1 f2 f3 f4 f5 f6 f7 f8 f9 f10 f11 f12 f13 f14 f15 f16 f17 f18 f19 f20 f21 f22 f23 f24 f25):Txt K mg C:=⟨fun x hx=>PySem.W.mg_none_of X G (t.blt x hx),fun nm n hn=>(t.nums _ (mem_of_lookup hn)).imp fun _ e=>mg_of X G e,t.c_Cell,t.n_Cell,t.c_Notebook,t.n_Notebook,t.c_CallReader,t.n_CallReader,t.c_Graph,t.n_Graph⟩
section
variable (Pg:Program)(w:World)(base:Heap)
theorem aL (X:K.In h)(G:h.Ns mainGlobals mg)(t:aJ K x st)(ok: ∀f fd,Fun K x x st f fd->au Pg w K mg base CX0 k f fd ps (spF Φ))(hb:Bd x x st ps:=by wtm_at "bd"):FnAt Pg w K mg base x ps k Φ:=by
 obtain⟨f,e,fd,F⟩:=t;exact⟨f,fd,mg_of X G e,F.kp,.all (oN F hb),ok f fd F⟩
theorem cA (t:bJ K x x st f)(ok: ∀f fd,Fun K x x st f fd->au Pg w K mg base CX0 j f fd ps (spF Φ))(hj:j<=k)(hb:Bd x x st ps:=by wtm_at "bd"):uD Pg w K mg base f ps k Φ:=by
 obtain⟨fd,F⟩:=t;exact⟨F.kp,fd,.all (oN F hb),(ok f fd F).mono hj⟩
theorem rN (X:K.In h)(G:h.Ns mainGlobals mg)(g:nsIn K mainGlobals x=some (some (.ref c)))(t:MkK K q st c)(ok: ∀f fd,Fun K "__init__" q st f fd->au Pg w K mg base CX0 k f fd ps (spF Φ))(hb:Bd "__init__" q st ps:=by wtm_at "bd"):jr Pg w K mg base x c ps k Φ:=by
 obtain⟨f,m,fd,F⟩:=t;exact⟨mg_of X G g,f,fd,m,.all (oN F hb),ok f fd F⟩
theorem zH (cl:Cls K c)(t:MeK K m q st c)(ok: ∀f fd,Fun K m q st f fd->au Pg w K mg base CX0 k f fd ps (spF Φ))(hb:Bd m q st ps:=by wtm_at "bd"):MethAt Pg w K mg base c m ps k Φ:=by
 obtain⟨f,e,fd,F⟩:=t;exact⟨cl,f,fd,e,.all (oN F hb),ok f fd F⟩
end
def oR (n:Nat):Rel:=match n with
 | 0=>zx
 | 1=>zu
 | 2=>zp
 | 3=>zq
 | 4=>zm
 | 5=>zr
 | 6=>(R0 fun cs=>aN cs (List.range cs.length))
 | 7=>(R1 mD)
 | 8=>(R1 (fH CG.pmk))
 | 9=>(R1 (fH CG.prd))
 | 10=>(R1 (bf fun cs i=>[(aV cs i:Int)]))
 | 11=>(R1 (bf je))
 | 12=>(R0 fun cs=>aN cs (bz cs))
 | 13=>(R1 oH)
 | 14=>(R1 (gR fun cs i=>[((dB cs i:Nat):Int)]))
 | 15=>(R1 (bf fun cs i=>aN cs (bw cs i)))
 | 16=>(R1 (bf fun cs i=>aN cs (eV cs i)))
 | 17=>(R1 (bf fun cs i=>aN cs (jJ cs i)))
 | 18=>zy
 | 19=>(R1 (bf lg))
 | 20=>(R1 (bf oG))
 | 21=>(R1 (gR fun cs i=>aN cs (near cs i)))
 | 22=>(R0 fun cs=>gQ cs (iw cs))
 | 23=>zA
 | 24=>zB
 | 25=>(R1S lz)
 | _=>fun _ _ _ _ _ _=>False
set_option maxHeartbeats 0 in
theorem Xf {Pg:Program}{w:World}(X:K.In h)(G:h.Ns mainGlobals mg)(t:Top K C fa Tb f0 f1 f2 f3 f4 f5 f6 f7 f8 f9 f10 f11 f12 f13 f14 f15 f16 f17 f18 f19 f20 f21 f22 f23 f24 f25)(so:oM oR): ∃fd:FuncData,(∀us:List Value,us.length=(["calls"]:List Str).length->bindArgs fd ⟨us,[]⟩=pure ((["calls"]:List Str).zip us))/\ ∀base:Heap,au Pg w K mg base CX0 10 fa fd ["calls"] (spF rK):=by
 obtain⟨fd,F⟩:=t.d_answers;refine⟨fd,oN F #[bd],fun z=>?_⟩;have T:=Xe X G t;have a_all_places:=aL Pg w z X G t.d_all_places fun _ _ F=>Su F T;have a_has_name:=aL Pg w z X G t.d_has_name fun _ _ F=>Sw F T;have a_is_name:=aL Pg w z X G t.d_is_name fun _ _ F=>Sy F T;have a_is_width:=aL Pg w z X G t.d_is_width fun _ _ F=>SM F T;have a_row_with_changed:=aL Pg w z X G t.d_row_with_changed fun _ _ F=>SN F T;have a_row_without:=aL Pg w z X G t.d_row_without fun _ _ F=>SQ F T;have a_place_of:=aL Pg w z X G t.d_place_of fun _ _ F=>SX F T;have a_has_twice:=aL Pg w z X G t.d_has_twice fun _ _ F=>S7 F T;have a_refusal_of_content:=aL Pg w z X G t.d_refusal_of_content fun _ _ F=>S8 F T a_is_name a_has_twice;have a_refusal_of_add:=aL Pg w z X G t.d_refusal_of_add fun _ _ F=>S9 F T a_place_of a_refusal_of_content;have a_refusal_of_change:=aL Pg w z X G t.d_refusal_of_change fun _ _ F=>Tc F T a_place_of a_refusal_of_content;have k_Cell:=rN Pg w z X G t.g_Cell t.i_Cell fun _ _ F=>Te F T;have a_add_cell:=aL Pg w z X G t.d_add_cell fun _ _ F=>Tq F T k_Cell a_refusal_of_add;have a_change_cell:=aL Pg w z X G t.d_change_cell fun _ _ F=>Tu F T k_Cell a_row_with_changed a_refusal_of_change;have a_drop_cell:=aL Pg w z X G t.d_drop_cell fun _ _ F=>Tv F T a_place_of a_row_without;have a_move_cell:=aL Pg w z X G t.d_move_cell fun _ _ F=>Tw F T a_place_of;have a_renamed_list:=aL Pg w z X G t.d_renamed_list fun _ _ F=>Tz F T;have a_renamed_cell:=aL Pg w z X G t.d_renamed_cell fun _ _ F=>TJ F T k_Cell a_renamed_list;have a_rename_name:=aL Pg w z X G t.d_rename_name fun _ _ F=>TQ F T a_is_name a_has_name a_renamed_cell;have a_places_making:=aL Pg w z X G t.d_places_making fun _ _ F=>TV F T;have a_places_reading:=aL Pg w z X G t.d_places_reading fun _ _ F=>TX F T;have a_sources_of:=aL Pg w z X G t.d_sources_of fun _ _ F=>T4 F T;have a_reached_places:=aL Pg w z X G t.d_reached_places fun _ _ F=>T7 F T;have a_own_troubles_of:=aL Pg w z X G t.d_own_troubles_of fun _ _ F=>T9 F T;have a_state_of:=aL Pg w z X G t.d_state_of fun _ _ F=>Ub F T;have a_all_taken:=aL Pg w z X G t.d_all_taken fun _ _ F=>Uc F T;have a_unclear_sources:=aL Pg w z X G t.d_unclear_sources fun _ _ F=>Ud F T;have a_waves_of:=aL Pg w z X G t.d_waves_of fun _ _ F=>Ui F T a_all_taken;have a_running_order:=aL Pg w z X G t.d_running_order fun _ _ F=>Uj F T a_waves_of;have k_Graph:=rN Pg w z X G t.g_Graph t.i_Graph fun _ _ F=>Um F T a_all_places a_places_making a_sources_of a_reached_places a_own_troubles_of a_state_of;have a_tidy_cells:=aL Pg w z X G t.d_tidy_cells fun _ _ F=>Us F T k_Graph a_running_order a_all_places;have a_told_cells:=aL Pg w z X G t.d_told_cells fun _ _ F=>Ut F T;have a_all_cells:=aL Pg w z X G t.d_all_cells fun _ _ F=>Uu F T a_told_cells a_all_places;have a_one_cell:=aL Pg w z X G t.d_one_cell fun _ _ F=>Uv F T a_place_of;have a_told_tuples:=aL Pg w z X G t.d_told_tuples fun _ _ F=>Ux F T;have a_told_lists:=aL Pg w z X G t.d_told_lists fun _ _ F=>Uy F T a_told_cells;have a_makers_of:=aL Pg w z X G t.d_makers_of fun _ _ F=>UJ F T a_told_cells a_is_name a_places_making;have a_readers_of:=aL Pg w z X G t.d_readers_of fun _ _ F=>UL F T a_told_cells a_is_name a_places_reading;have a_state_of_cell:=aL Pg w z X G t.d_state_of_cell fun _ _ F=>UT F T k_Graph a_place_of;have a_order_of_cells:=aL Pg w z X G t.d_order_of_cells fun _ _ F=>UV F T k_Graph a_told_cells a_running_order;have a_troubles_of_cell:=aL Pg w z X G t.d_troubles_of_cell fun _ _ F=>U4 F T k_Graph a_place_of a_unclear_sources a_told_tuples;have a_is_above_some:=aL Pg w z X G t.d_is_above_some fun _ _ F=>U6 F T;have a_nearest_sources:=aL Pg w z X G t.d_nearest_sources fun _ _ F=>U7 F T a_is_above_some;have a_places_below:=aL Pg w z X G t.d_places_below fun _ _ F=>U8 F T;have a_readers_from:=aL Pg w z X G t.d_readers_from fun _ _ F=>U9 F T;have a_sick_places:=aL Pg w z X G t.d_sick_places fun _ _ F=>Va F T;have a_joined_places:=aL Pg w z X G t.d_joined_places fun _ _ F=>Vh F T a_readers_from;have a_groups_of:=aL Pg w z X G t.d_groups_of fun _ _ F=>Vk F T a_joined_places a_reached_places;have a_shortest_chain:=aL Pg w z X G t.d_shortest_chain fun _ _ F=>Vl F T;have a_cells_above:=aL Pg w z X G t.d_cells_above fun _ _ F=>Vm F T k_Graph a_place_of a_told_cells;have a_cells_below:=aL Pg w z X G t.d_cells_below fun _ _ F=>Vn F T k_Graph a_place_of a_told_cells a_places_below;have a_circle_of_cell:=aL Pg w z X G t.d_circle_of_cell fun _ _ F=>Vo F T k_Graph a_place_of a_told_cells a_places_below;have a_ring_of_cell:=aL Pg w z X G t.d_ring_of_cell fun _ _ F=>Vp F T k_Graph a_place_of a_told_cells a_readers_from a_shortest_chain;have a_why_of_cell:=aL Pg w z X G t.d_why_of_cell fun _ _ F=>Vq F T k_Graph a_place_of a_told_cells a_sick_places a_shortest_chain;have a_way_between:=aL Pg w z X G t.d_way_between fun _ _ F=>Vr F T k_Graph a_place_of a_told_cells a_shortest_chain;have a_groups_of_cells:=aL Pg w z X G t.d_groups_of_cells fun _ _ F=>Vt F T k_Graph a_groups_of a_told_lists;have a_waves_of_cells:=aL Pg w z X G t.d_waves_of_cells fun _ _ F=>Vv F T k_Graph a_is_width a_waves_of a_told_lists;have a_refusal_of_unclear:=aL Pg w z X G t.d_refusal_of_unclear fun _ _ F=>Vw F T k_Graph a_place_of;have a_needed_by_cell:=aL Pg w z X G t.d_needed_by_cell fun _ _ F=>Vy F T k_Graph a_place_of a_told_cells a_refusal_of_unclear a_nearest_sources;have a_is_touched:=aL Pg w z X G t.d_is_touched fun _ _ F=>Vz F T;have a_touched_cells:=aL Pg w z X G t.d_touched_cells fun _ _ F=>VD F T k_Graph a_place_of a_told_cells a_running_order a_is_touched;have a_longest_steps:=aL Pg w z X G t.d_longest_steps fun _ _ F=>VL F T a_running_order;have a_level_of_cell:=aL Pg w z X G t.d_level_of_cell fun _ _ F=>VM F T k_Graph a_place_of a_refusal_of_unclear a_longest_steps;have a_states_by_number:=aL Pg w z X G t.d_states_by_number fun _ _ F=>VP F T k_Graph;have a_told_other_states:=aL Pg w z X G t.d_told_other_states fun _ _ F=>VR F T a_states_by_number a_told_tuples;have a_suppose_changed:=aL Pg w z X G t.d_suppose_changed fun _ _ F=>V4 F T k_Cell a_row_with_changed a_refusal_of_change a_told_other_states;have a_suppose_dropped:=aL Pg w z X G t.d_suppose_dropped fun _ _ F=>V5 F T a_place_of a_row_without a_told_other_states;have m_take_whole:=zH Pg w z t.c_CallReader t.m_take_whole fun _ _ F=>Ti F T;have m_take_list:=zH Pg w z t.c_CallReader t.m_take_list fun _ _ F=>Tj F T;have k_Notebook:=rN Pg w z X G t.g_Notebook t.i_Notebook fun _ _ F=>Tf F T;have k_CallReader:=rN Pg w z X G t.g_CallReader t.i_CallReader fun _ _ F=>Tg F T;have m_has_more:=zH Pg w z t.c_CallReader t.m_has_more fun _ _ F=>Th F T
 have tb:Table Pg w K mg z C 9 oR Tb ([f0,f1,f2,f3,f4,f5,f6,f7,f8,f9,f10,f11,f12,f13,f14,f15,f16,f17,f18,f19,f20,f21,f22,f23,f24,f25].map V.ref):=by
  obtain⟨od,n,sl,hl⟩:=t.tl;refine⟨mg_of X G t.tg,fun H=>.inr ⟨_,_,n,hl,rfl,rfl,(by show 26<=sizeLine;rw[sizeLine_eq];decide),?vals⟩,fun n hn=>?_⟩
  case vals=>repeat (first | exact .nil | refine .cons rfl ?_)
  match n,hn with
  | 0,_=>exact⟨f0,rfl,cA Pg w z t.d_call_add (fun _ _ F=>Wj F T m_take_whole m_take_list a_add_cell) (by decide)⟩
  | 1,_=>exact⟨f1,rfl,cA Pg w z t.d_call_change (fun _ _ F=>Wi F T m_take_whole m_take_list a_change_cell) (by decide)⟩
  | 2,_=>exact⟨f2,rfl,cA Pg w z t.d_call_drop (fun _ _ F=>We F T m_take_whole a_drop_cell) (by decide)⟩
  | 3,_=>exact⟨f3,rfl,cA Pg w z t.d_call_move (fun _ _ F=>Wg F T m_take_whole a_move_cell) (by decide)⟩
  | 4,_=>exact⟨f4,rfl,cA Pg w z t.d_call_tidy (fun _ _ F=>Wd F T a_tidy_cells) (by decide)⟩
  | 5,_=>exact⟨f5,rfl,cA Pg w z t.d_call_rename (fun _ _ F=>Wh F T m_take_whole a_rename_name) (by decide)⟩
  | 6,_=>exact⟨f6,rfl,cA Pg w z t.d_call_cells (fun _ _ F=>V6 F T a_all_cells) (by decide)⟩
  | 7,_=>exact⟨f7,rfl,cA Pg w z t.d_call_cell (fun _ _ F=>V8 F T m_take_whole a_one_cell) (by decide)⟩
  | 8,_=>exact⟨f8,rfl,cA Pg w z t.d_call_makers (fun _ _ F=>V9 F T m_take_whole a_makers_of) (by decide)⟩
  | 9,_=>exact⟨f9,rfl,cA Pg w z t.d_call_readers (fun _ _ F=>Wa F T m_take_whole a_readers_of) (by decide)⟩
  | 10,_=>exact⟨f10,rfl,cA Pg w z t.d_call_state (fun _ _ F=>Wb F T m_take_whole a_state_of_cell) (by decide)⟩
  | 11,_=>exact⟨f11,rfl,cA Pg w z t.d_call_troubles (fun _ _ F=>Wc F T m_take_whole a_troubles_of_cell) (by decide)⟩
  | 12,_=>exact⟨f12,rfl,cA Pg w z t.d_call_order (fun _ _ F=>V7 F T a_order_of_cells) (by decide)⟩
  | 13,_=>exact⟨f13,rfl,cA Pg w z t.d_call_waves (fun _ _ F=>Wk F T m_take_whole a_waves_of_cells) (by decide)⟩
  | 14,_=>exact⟨f14,rfl,cA Pg w z t.d_call_level (fun _ _ F=>Wl F T m_take_whole a_level_of_cell) (by decide)⟩
  | 15,_=>exact⟨f15,rfl,cA Pg w z t.d_call_above (fun _ _ F=>Wm F T m_take_whole a_cells_above) (by decide)⟩
  | 16,_=>exact⟨f16,rfl,cA Pg w z t.d_call_below (fun _ _ F=>Wn F T m_take_whole a_cells_below) (by decide)⟩
  | 17,_=>exact⟨f17,rfl,cA Pg w z t.d_call_circle (fun _ _ F=>Wo F T m_take_whole a_circle_of_cell) (by decide)⟩
  | 18,_=>exact⟨f18,rfl,cA Pg w z t.d_call_way (fun _ _ F=>Wv F T m_take_whole a_way_between) (by decide)⟩
  | 19,_=>exact⟨f19,rfl,cA Pg w z t.d_call_ring (fun _ _ F=>Wq F T m_take_whole a_ring_of_cell) (by decide)⟩
  | 20,_=>exact⟨f20,rfl,cA Pg w z t.d_call_why (fun _ _ F=>Wr F T m_take_whole a_why_of_cell) (by decide)⟩
  | 21,_=>exact⟨f21,rfl,cA Pg w z t.d_call_needed (fun _ _ F=>Ws F T m_take_whole a_needed_by_cell) (by decide)⟩
  | 22,_=>exact⟨f22,rfl,cA Pg w z t.d_call_groups (fun _ _ F=>Wu F T a_groups_of_cells) (by decide)⟩
  | 23,_=>exact⟨f23,rfl,cA Pg w z t.d_call_touched (fun _ _ F=>Ww F T m_take_list a_touched_cells) (by decide)⟩
  | 24,_=>exact⟨f24,rfl,cA Pg w z t.d_call_suppose (fun _ _ F=>Wx F T m_take_whole m_take_list a_suppose_changed) (by decide)⟩
  | 25,_=>exact⟨f25,rfl,cA Pg w z t.d_call_without (fun _ _ F=>Wt F T m_take_whole a_suppose_dropped) (by decide)⟩
  | n+26,hn=>exact absurd hn (by omega)
 exact Xc F T k_Notebook k_CallReader m_has_more m_take_whole tb so (by decide)
end
def zJ (K:Frag):Sp:=fun vs H Q E=>oO K=true->spF rK vs H Q E
theorem Xg {K:Frag}(hn:oO K=true){a:Addr}{o:Obj}(hl:K.lookup a=some o):o.cls≠.type "list":=by
 unfold oO at hn;intro e
 have hm: ∀{l:Frag},l.lookup a=some o->(a,o)∈l:=fun {l}=>by
  induction l with
  | nil=>exact fun h=>by cases h
  | cons q l ih =>
   obtain⟨b,u⟩:=q;intro h;unfold List.lookup at h;split at h
   .rename_i eb
    cases h;rw[eq_of_beq eb];exact mem_cons_self ..
   .exact mem_cons_of_mem _ (ih h)
 have:=all_eq_true.mp hn _ (hm hl);rw[e] at this;cases this
theorem req {K:Frag}{H:Hp}{a:Addr}{ns:List Int}{E:XK}(hO:lG H)(hs:SqL K H a (ns.map V.int))(hl:ns.length<=16000)(hask:PyVanbkb.answers_asked ns=true):zJ K [.ref a] H (fun v H'=>Dw K H' v (.list ((PyVanbkb.answers ns).map .int))) E:=by
 intro hn;rcases hs with (h | ⟨o,h⟩) | ⟨o,its,n,hk,hc,_⟩
 .rcases hO a with z | ⟨o,u,z⟩
  .rw[z] at h;cases h
  .rw[z] at h;cases h
 .refine⟨fun _=>false,[.d (.frl ns)],[],fun s γ'=> ∃p,s= .pt p/\(p,OD.lst ((PyVanbkb.answers ns).map .int))∈γ',?_,⟨ns,⟨by rw[sizeLine_eq];omega,hask⟩,rfl,rfl,fun p γ' hm=>⟨p,rfl,hm⟩⟩,?_⟩
  .rw[cY];refine⟨.cons ?_ .nil,(fun p hp=>by cases hp),nodup_nil,(fun p hp=>by cases hp),aB.refl _,(fun b hb=>by cases hb)⟩;refine mX.mpr ⟨a,o,rfl,bG.mpr ⟨?_,h⟩⟩;rw[jV]
  .rintro s γ' v H' ⟨p,rfl,hm⟩ E' r';have ev:v= .ref p:=r';subst ev;obtain⟨o1,e1,xs,rfl,hz,rr⟩:=E'.own _ hm;rw[cW.mp rr] at e1;exact .lst (SqL.of e1) (BW _)
 .exact absurd hc (Xg hn hk)
theorem all_nil {α:Type}{p:α->Prop}: ∀x∈([]:List α),p x:=fun _ h=>by cases h
theorem all_cons {α:Type}{p:α->Prop}{a:α}{l:List α}(h:p a)(t: ∀x∈l,p x): ∀x∈a::l,p x:=fun x hx=>by
 rcases mem_cons.mp hx with e | e
 .rw[e];exact h
 .exact t x e
theorem Xh {Pg:Program}{w:World}{K:Frag}{h:Heap}{mg:Str->Option Value}{fz a b c d fa Tb f0 f1 f2 f3 f4 f5 f6 f7 f8 f9 f10 f11 f12 f13 f14 f15 f16 f17 f18 f19 f20 f21 f22 f23 f24 f25:Addr}(so:oM oR)(X:K.In h)(G:h.Ns mainGlobals mg)(hfa:mg "answers"=some (.ref fz))(t:Top K ⟨a,b,c,d⟩ fa Tb f0 f1 f2 f3 f4 f5 f6 f7 f8 f9 f10 f11 f12 f13 f14 f15 f16 f17 f18 f19 f20 f21 f22 f23 f24 f25): ∃fd:FuncData,(∀ (s:Shared) (us:List Value),us.length=(["calls"]:List Str).length->BindsTo s fd ⟨us,[]⟩ ((["calls"]:List Str).zip us))/\ ∀base:Heap,K.In base->base.Ns mainGlobals mg->au Pg w K mg base CX0 10 fz fd ["calls"] (zJ K):=by
 have e:=hfa.symm.trans (mg_of X G t.ga);cases e;obtain⟨fd,b,ok⟩:=Xf (Pg:=Pg) (w:=w) X G t so;exact⟨fd,fun s us hu=>.of_eq (b us hu),fun base _ _=>(ok base).imp fun vs H Q E (q:oO K=true->spF rK vs H Q E)=>q t.noL⟩
end
section
section
open Vanbkb
theorem len_from {g:Graph}{b n:Nat}(h: ∀r∈g,r.2.length<=b):(from_ g n).length<=b:=by
 unfold from_;split
 .rename_i r e
  exact h r (List.mem_of_find?_eq_some e)
 .exact Nat.zero_le _
theorem Xi (g:Graph)(l:List Nat):(wider g l).length<=g.length:=by
 unfold wider;exact Nat.le_trans (length_filter_le ..) (by rw[length_map];exact Nat.le_refl _)
theorem JF (g:Graph){b:Nat}(hg:g.length<=b): ∀ (k:Nat) (l:List Nat),l.length<=b->(upFrom g k l).length<=b
 | 0,l,h=>h
 | k+1,l,h=>by
  unfold upFrom;simp only;split
  .exact h
  .exact JF g hg k _ (Nat.le_trans (Xi g l) hg)
theorem zK (g:Graph)(to:List Nat): ∀ (k n:Nat),(chain g to k n).length<=k+1
 | 0,_=>Nat.le_refl _
 | k+1,n=>by
  unfold chain;split
  .rw[length_cons];exact Nat.succ_le_succ (zK g to k _)
  .rw[length_singleton];omega
theorem JG (g:Graph)(ok:List Nat): ∀ (k:Nat) (done:List Nat),(taken g ok k done).length<=done.length+k
 | 0,done=>Nat.le_refl _
 | k+1,done=>by
  unfold taken;split
  .omega
  .refine Nat.le_trans (JG g ok k _) ?_;rw[length_append,length_singleton];omega
theorem rO {α:Type}{f:α->List Int}{b:Nat}: ∀{l:List α},(∀x∈l,(f x).length<=b)->(l.flatMap f).length<=l.length * b
 | [],_=>by simp
 | a::l,h=>by
  rw[List.flatMap_cons,length_append,length_cons,Nat.succ_mul];have:=rO (l:=l) fun x hx=>h x (mem_cons_of_mem _ hx);have:=h a (mem_cons_self ..);omega
theorem JH (g:Graph)(ok:List Nat)(width:Nat): ∀ (k:Nat) (done:List Nat),(rounds g ok width k done).length<=k/\ ∀r∈rounds g ok width k done,r.length<=width
 | 0,done=>⟨Nat.le_refl _,fun r hr=>by cases hr⟩
 | k+1,done=>by
  unfold rounds;split
  .exact⟨Nat.zero_le _,fun r hr=>by cases hr⟩
  .rename_i r hne
   obtain⟨h1,h2⟩:=JH g ok width k (done++(ready g ok done).take width);refine⟨Nat.succ_le_succ h1,fun x hx=>?_⟩;rcases mem_cons.mp hx with e | e
   .rw[e,length_take];exact Nat.min_le_left ..
   .exact h2 x e
theorem JK (g:Graph){b:Nat}(hg:g.length<=b): ∀ (k:Nat) (l:List Nat),l.length<=b->(together g k l).length<=b
 | 0,l,h=>h
 | k+1,l,h=>by
  unfold together;refine JK g hg k _ ?_;rw[length_map];exact Nat.le_trans (length_filter_le ..) hg
theorem rP (l:List Nat):(nats l).length=l.length:=by unfold nats;rw[length_map]
variable {cs:List Cell}
theorem JL:(graph ⟨cs⟩).length=cs.length:=by unfold graph;rw[length_map]
theorem zL (w:CG.SOk cs): ∀r∈graph ⟨cs⟩,r.2.length<=12:=fun r hr=>by
 unfold graph at hr;obtain⟨c,_,e⟩:=mem_map.mp hr;rw[<-e];show ((numbers ⟨cs⟩).filter _).length<=12;refine Nat.le_trans (length_filter_le ..) ?_;unfold numbers;rw[length_map];exact w.len
theorem len_above (w:CG.SOk cs)(n:Nat):(above (graph ⟨cs⟩) n).length<=12:=JF _ (by rw[JL];exact w.len) _ _ (len_from (zL w))
theorem Xj {g:Graph}{to:List Nat}{n k:Nat}(h:steps g to n=some k):k<=g.length:=by
 unfold steps at h;have:=mem_range.mp (List.mem_of_find?_eq_some h);omega
theorem JM {g:Graph}{to:List Nat}{n:Nat}{l:List Nat}(h:shortest g to n=some l):l.length<=g.length+1:=by
 unfold shortest at h
 cases hs:steps g to n with
 | none=>rw[hs] at h;cases h
 | some k =>
  rw[hs] at h;cases h;have h1:=zK g to k n;have h2:=Xj hs;show (chain g to k n).length<=_;omega
theorem Xk (g:Graph)(n:Nat):(ring g n).length<=g.length+1:=by
 unfold ring;split
 .rename_i k hk
  have:=mem_range.mp (List.mem_of_find?_eq_some hk);have:=zK g [n] (k+1) n;rw[List.length_dropLast];omega
 .exact Nat.zero_le _
abbrev Short (a:Answer):Prop:=a.more.length<=999
theorem gA {l:List Nat}(h:l.length<=999):Short (tell l):=by show (nats l).length<=999;rw[rP];exact h
theorem JN {l:List (List Nat)}(h:l.length<=12)(h2: ∀r∈l,r.length<=12):Short (tellLists l):=by
 refine Nat.le_trans (rO (b:=13) fun r hr=>?_) (show l.length * 13<=999 by omega);rw[length_cons,rP];have:=h2 r hr;omega
theorem Xl {l:List (Nat×Nat)}(h:l.length<=400):Short (tellPairs l):=by
 refine Nat.le_trans (rO (b:=2) fun r hr=>Nat.le_refl _) (show l.length * 2<=999 by omega)
theorem JP {l:List (Nat×Nat×Nat)}(h:l.length<=300):Short (tellTriples l):=by
 refine Nat.le_trans (rO (b:=3) fun r hr=>Nat.le_refl _) (show l.length * 3<=999 by omega)
theorem dZ {n:Int}{f:Cell->State×Answer}(h: ∀c∈cs,Short (f c).2):Short (withCell ⟨cs⟩ n f).2:=by
 unfold withCell;split
 .rename_i c e
  refine h c ?_;split at e
  .cases e
  .exact List.mem_of_find?_eq_some e
 .exact Nat.zero_le _
theorem JQ (w:CG.SOk cs){c:Cell}(h:c∈cs):c.makes.length<=32/\c.reads.length<=32:=by
 have hm:=w.makes c h;have hr:=w.reads c h;exact⟨hm.1.length_le fun x hx=>by have:=hm.2 x hx;omega,hr.1.length_le fun x hx=>by have:=hr.2 x hx;omega⟩
theorem JR (t:State):(otherStates ⟨cs⟩ t).length<=cs.length:=by
 unfold otherStates;simp only;refine Nat.le_trans (List.length_filterMap_le ..) ?_;unfold states sicknesses;rw[length_map,length_map];exact Nat.le_refl _
theorem Xm (w:CG.SOk cs)(k:Call):Short (step ⟨cs⟩ k).2:=by
 have hlen:=w.len
 have hg:(graph ⟨cs⟩).length<=12:=by rw[JL];exact hlen
 have ho:(order ⟨cs⟩).length<=12:=by
  unfold order;refine Nat.le_trans (JG _ _ _ _) ?_;show 0+cs.length<=12;omega
 cases k with
 | add n p b m r =>
  show Short (doAdd ⟨cs⟩ n p b m r).2;unfold doAdd;simp only
  repeat (first | exact Nat.zero_le _ | split)
 | change n b m r=>exact dZ fun c _=>by simp only;split<;>exact Nat.zero_le _
 | drop n=>exact dZ fun c _=>Nat.zero_le _
 | move n p=>exact dZ fun c _=>by split<;>exact Nat.zero_le _
 | tidy=>exact Nat.zero_le _
 | rename a b =>
  simp only[Vanbkb.step]
  repeat (first | exact Nat.zero_le _ | split)
 | cells =>
  refine gA ?_;unfold numbers;rw[length_map];show cs.length<=999;omega
 | cell n =>
  refine dZ fun c hc=>?_;have:=JQ w hc;show (_::_::_::nats c.makes++_::nats c.reads).length<=999;rw[length_append,length_cons,length_cons,length_cons,length_cons,rP,rP];omega
 | makers n =>
  simp only[Vanbkb.step];split
  .exact Nat.zero_le _
  .refine gA ?_;unfold makersOf;rw[length_map];have:=length_filter_le (fun c:Cell=>c.makes.contains n.toNat) cs;show (cs.filter _).length<=999;omega
 | readers n =>
  simp only[Vanbkb.step];split
  .exact Nat.zero_le _
  .refine gA ?_;unfold readersOf;rw[length_map];have:=length_filter_le (fun c:Cell=>c.reads.contains n.toNat) cs;show (cs.filter _).length<=999;omega
 | state n=>exact dZ fun c _=>Nat.zero_le _
 | troubles n =>
  refine dZ fun c hc=>Xl ?_;have h1:=JQ w hc;have h2:=len_from (n:=c.number) (zL w);unfold troubles;simp only
  have hb: ∀ (b:Bool) (x:Nat×Nat),(if b=true then [x] else []).length<=1:=fun b x=>by cases b<;>simp
  have l1:=hb c.broken (1,0);have l3:=hb (circled (graph ⟨cs⟩) c.number) (3,0);have l2:=length_filter_le (fun x=>decide (2<=(makersOf ⟨cs⟩ x).length)) c.makes;have l4:=length_filter_le (fun x=>(makersOf ⟨cs⟩ x).isEmpty) c.reads;have l5:=length_filter_le (fun x=>decide (2<=(makersOf ⟨cs⟩ x).length)) c.reads;have l6:=length_filter_le (fun m=>m != c.number&& !(clear ⟨cs⟩).contains m) (from_ (graph ⟨cs⟩) c.number);rw[length_append,length_append,length_append,length_append,length_append,length_map,length_map,length_map,length_map];omega
 | order=>exact gA (by omega)
 | waves n =>
  simp only[Vanbkb.step];split
  .exact Nat.zero_le _
  .rename_i hn
   rw[Bool.not_eq_false,dq] at hn;obtain⟨h1,h2⟩:=JH (graph ⟨cs⟩) (clear ⟨cs⟩) n.toNat cs.length []
   exact JN (Nat.le_trans h1 hlen) fun r hr=>by have:=h2 r hr;omega
 | level n=>exact dZ fun c _=>by split<;>exact Nat.zero_le _
 | above n=>exact dZ fun c _=>gA (by have:=len_above w c.number;omega)
 | below n =>
  refine dZ fun c _=>gA ?_;unfold below;refine Nat.le_trans (length_filter_le ..) ?_;rw[length_map];omega
 | circle n =>
  refine dZ fun c _=>gA ?_;unfold circle;refine Nat.le_trans (length_filter_le ..) ?_;have:=len_above w c.number;omega
 | way a b =>
  refine dZ fun c _=>dZ fun d _=>?_;split
  .rename_i l hl
   exact gA (by have:=JM hl;omega)
  .exact Nat.zero_le _
 | ring n=>exact dZ fun c _=>gA (by have:=Xk (graph ⟨cs⟩) c.number;omega)
 | why n =>
  refine dZ fun c _=>gA ?_
  cases hs:shortest (graph ⟨cs⟩) (sick ⟨cs⟩) c.number with
  | none=>exact Nat.zero_le _
  | some l=>have:=JM hs;show l.length<=999;omega
 | needed n =>
  refine dZ fun c _=>?_;split
  .exact Nat.zero_le _
  .refine gA ?_;unfold needed;refine Nat.le_trans (length_filter_le ..) ?_;have:=len_from (n:=c.number) (zL w);omega
 | groups =>
  refine JN ?_ fun r hr=>?_
  .unfold groups;simp only;rw[length_map];refine Nat.le_trans (length_filter_le ..) ?_;unfold numbers;rw[length_map];exact hlen
  .unfold groups at hr;obtain⟨n,_,e⟩:=mem_map.mp hr;rw[<-e];exact JK _ hg _ _ (show 1<=12 by decide)
 | touched l =>
  simp only[Vanbkb.step];split
  .exact Nat.zero_le _
  .refine gA ?_;unfold touched;refine Nat.le_trans (length_filter_le ..) ?_;omega
 | suppose n b m r =>
  refine dZ fun c _=>?_;simp only;split
  .exact Nat.zero_le _
  .exact JP (by have:=JR (cs:=cs) (changed ⟨cs⟩ (told n b m r));omega)
 | without n=>exact dZ fun c _=>JP (by have:=JR (cs:=cs) (Vanbkb.without ⟨cs⟩ c.number);omega)
theorem Xn (w:CG.SOk cs)(k:Call):(encode (step ⟨cs⟩ k).2).length<=1000:=Nat.succ_le_succ (Xm w k)
end
end
section
section
open Vanbkb
variable {cs:List Cell}
abbrev gP (cs:List Cell):Graph:=CG.gp (aq cs)
theorem JS {l ls:List (List Nat)}(h:l=ls.map (·.map (CG.num cs))):encode (tellLists l)=gQ cs ls:=by
 rw[h];show (((ls.map (·.map (CG.num cs))).length:Nat):Int)::(ls.map (·.map (CG.num cs))).flatMap (fun r=>((r.length:Nat):Int)::nats r)=_;unfold gQ;rw[length_map,List.flatMap_map];congr 1;refine congrArg (fun f=>List.flatMap f ls) (funext fun r=>?_);show (((r.map (CG.num cs)).length:Nat):Int)::nats (r.map (CG.num cs))=_;rw[length_map];rfl
theorem Xo (w:CG.SOk cs)(n:Int):Stp cs (.waves n) cs (if (!within n 1 12)=true then [-10] else gQ cs (rounds (gP cs) (aX cs) n.toNat cs.length [])):=by
 unfold Stp;simp only[Vanbkb.step]
 cases h:within n 1 12 with
 | false=>exact⟨rfl,rfl⟩
 | true=>exact⟨rfl,JS (Ry w n.toNat)⟩
theorem Xp (w:CG.SOk cs):Stp cs .groups cs (gQ cs (((List.range cs.length).filter fun i=>(groupOf (gP cs) i).head?==some i).map fun i=>groupOf (gP cs) i)):=⟨rfl,JS (RB w)⟩
def JT (cs:List Cell) (i:Nat):List Int:=if aV cs i≠0 then [-11] else [(levelIn (gP cs) cs.length i:Int)]
theorem Xq (w:CG.SOk cs)(n:Int):Stp cs (.level n) cs (bf JT cs n) :=
 iy (f:=fun c=>if stateOf ⟨cs⟩ c.number≠0 then (⟨cs⟩,⟨-11,[]⟩) else (⟨cs⟩,⟨(level ⟨cs⟩ c.number:Nat),[]⟩)) rfl fun i hi=>by
  rw[eG hi,uV w hi,Rz w];unfold JT
  split<;>exact⟨rfl,rfl⟩
def zM (cs:List Cell) (i:Nat):List Int:=if aV cs i≠0 then [-11] else aN cs (needed (gP cs) i)
theorem Xr (w:CG.SOk cs)(n:Int):Stp cs (.needed n) cs (bf zM cs n) :=
 iy (f:=fun c=>if stateOf ⟨cs⟩ c.number≠0 then (⟨cs⟩,⟨-11,[]⟩) else (⟨cs⟩,tell (needed (graph ⟨cs⟩) c.number))) rfl fun i hi=>by
  rw[eG hi,uV w hi,eQ w,Rn (bL w)];unfold zM;split
  .exact⟨rfl,rfl⟩
  .exact⟨rfl,gw rfl⟩
theorem Xu (w:CG.SOk cs)(n:Int):Stp cs (.above n) cs (bf (fun cs i=>aN cs (above (gP cs) i)) cs n) :=
 iy (f:=fun c=>(⟨cs⟩,tell (above (graph ⟨cs⟩) c.number))) rfl fun i hi=>⟨rfl,gw (by rw[eG hi,eQ w,jt (bL w)])⟩
theorem Xv (w:CG.SOk cs)(n:Int):Stp cs (.below n) cs (bf (fun cs i=>aN cs (below (gP cs) i)) cs n) :=
 iy (f:=fun c=>(⟨cs⟩,tell (below (graph ⟨cs⟩) c.number))) rfl fun i hi=>⟨rfl,gw (by rw[eG hi,eQ w,Rf (bL w)])⟩
theorem Xw (w:CG.SOk cs)(n:Int):Stp cs (.circle n) cs (bf (fun cs i=>aN cs (circle (gP cs) i)) cs n) :=
 iy (f:=fun c=>(⟨cs⟩,tell (circle (graph ⟨cs⟩) c.number))) rfl fun i hi=>⟨rfl,gw (by rw[eG hi,eQ w,Rg (bL w)])⟩
theorem Xx (w:CG.SOk cs)(n:Int):Stp cs (.ring n) cs (bf (fun cs i=>aN cs (ring (gP cs) i)) cs n) :=
 iy (f:=fun c=>(⟨cs⟩,tell (ring (graph ⟨cs⟩) c.number))) rfl fun i hi=>⟨rfl,gw (by rw[eG hi,eQ w,Rk (bL w)])⟩
theorem Xy (w:CG.SOk cs)(n:Int):Stp cs (.why n) cs (bf (fun cs i=>aN cs ((shortest (gP cs) (iu cs) i).getD [])) cs n) :=
 iy (f:=fun c=>(⟨cs⟩,tell ((shortest (graph ⟨cs⟩) (sick ⟨cs⟩) c.number).getD []))) rfl fun i hi=>⟨rfl,gw (by
  rw[eG hi,eQ w,Fi w,El (bL w)];show ((shortest (gP cs) (iu cs) i).map (·.map (CG.num cs))).getD []=_
  cases shortest (gP cs) (iu cs) i<;>rfl)⟩
theorem Xz (w:CG.SOk cs)(a b:Int):Stp cs (.way a b) cs (lq cs a b):=by
 unfold Stp lq;simp only[Vanbkb.step];rw[jg]
 cases hp:az cs a with
 | none=>exact⟨rfl,rfl⟩
 | some i =>
  simp only;rw[jg]
  cases hq:az cs b with
  | none=>exact⟨rfl,rfl⟩
  | some j =>
   simp only;rw[eG (fV hp).1,eG (fV hq).1,eQ w,show [CG.num cs j]=[j].map (CG.num cs) from rfl,El (bL w)]
   show ((match (dJ cs [j] i).map (fun l=>List.map (CG.num cs) l) with
    | some l=>((⟨cs⟩:State),tell l)
    | none=>(⟨cs⟩,⟨-12,[]⟩)).1=⟨cs⟩)/\_
   cases hs:dJ cs [j] i with
   | none=>exact⟨rfl,by rw[show shortest (gP cs) [j] i=none from hs];rfl⟩
   | some l=>exact⟨rfl,by rw[show shortest (gP cs) [j] i=some l from hs];exact gw rfl⟩
theorem XC (n:Int):(decide (0<=n)&&has ⟨cs⟩ n.toNat)=(az cs n).isSome:=by
 unfold az;rw[List.findIdx?_isSome,Bool.eq_iff_iff,Bool.and_eq_true,any_eq_true,decide_eq_true_eq];unfold has numbers;rw[contains_iff_mem,mem_map];constructor
 .rintro⟨h0,c,hc,e⟩;exact⟨c,hc,by rw[decide_eq_true_eq,e];omega⟩
 .rintro⟨c,hc,e⟩;have:=of_decide_eq_true e;exact⟨by omega,c,hc,by omega⟩
theorem JV (w:CG.SOk cs): ∀{l:List Int},(l.all fun n=>(az cs n).isSome)=true->l.map Int.toNat=(l.filterMap (az cs)).map (CG.num cs)
 | [],_=>rfl
 | n::l,h=>by
  rw[List.all_cons,Bool.and_eq_true] at h;obtain⟨i,hi⟩:=Option.isSome_iff_exists.mp h.1;obtain⟨h1,h2⟩:=fV hi;rw[filterMap_cons_some hi,map_cons,map_cons,JV w h.2,<-eG h1];congr 1;omega
theorem XD (w:CG.SOk cs)(l:List Int):Stp cs (.touched l) cs (lu cs l):=by
 unfold Stp lu;simp only[Vanbkb.step]
 have e:(l.all fun n=>decide (0<=n)&&has ⟨cs⟩ n.toNat)=l.all fun n=>(az cs n).isSome:=by
  congr 1;exact funext fun n=>XC n
 rw[e]
 have ea:((l.map (az cs)).any fun o=>o.isNone)= !(l.all fun n=>(az cs n).isSome):=by
  rw[any_map,List.not_all_eq_any_not];refine congrArg (fun f=>l.any f) (funext fun n=>?_);show (az cs n).isNone= !(az cs n).isSome
  cases az cs n<;>rfl
 rw[ea]
 cases h:l.all fun n=>(az cs n).isSome with
 | false=>exact⟨rfl,rfl⟩
 | true =>
  refine⟨rfl,?_⟩;show encode (tell (touched ⟨cs⟩ (l.map Int.toNat)))=aN cs (rF cs (l.filterMap (az cs)));rw[JV w h];exact gw (RC w _)
def sN (cs:List Cell) (a:Nat):Nat:=(stateIn (states ⟨cs⟩) a).getD 0
theorem JW (a:Nat): ∀l:List (Nat×Nat),(l.map fun x=>((x.1:Int),(x.2:Int))).lookup (a:Int)=(stateIn l a).map fun (y:Nat)=>(y:Int)
 | []=>rfl
 | (b,c)::l=>by
  have ih:=JW a l;unfold stateIn at ih ⊢;rw[map_cons,lookup_cons,List.find?_cons]
  by_cases h:b=a
  .subst h;rw[beq_self_eq_true,beq_self_eq_true];rfl
  .rw[show ((a:Int)==(b:Int))=false by rw[beq_eq_false_iff_ne];omega,show (b==a)=false from beq_eq_false_iff_ne.mpr h];exact ih
theorem XF (w:CG.SOk cs):jK cs=(states ⟨cs⟩).map fun x=>((x.1:Int),(x.2:Int)):=by
 rw[nG w,List.map_map];unfold jK nums
 have e:(cs.map fun c=>(c.number:Int))=(List.range cs.length).map fun i=>(CG.num cs i:Int):=by
  have:=congrArg (fun l:List Nat=>l.map fun (n:Nat)=>(n:Int)) (jw (cs:=cs));simp only[List.map_map] at this;exact this.symm
 rw[e];refine List.ext_getElem (by simp) fun k h1 h2=>?_;simp
theorem rQ (w:CG.SOk cs)(a:Nat):dg cs (a:Int)=(sN cs a:Int):=by
 unfold dg sN;rw[XF w,JW]
 cases stateIn (states ⟨cs⟩) a<;>rfl
theorem XH (w:CG.SOk cs){a:Nat}(h:a∈cs.map fun c=>c.number):stateIn (states ⟨cs⟩) a=some (sN cs a):=by
 rw[<-jw] at h;obtain⟨i,hi,rfl⟩:=mem_map.mp h;unfold sN;rw[uU w (mem_range.mp hi)];rfl
theorem XJ (w:CG.SOk cs){a:Nat}(h:a∉cs.map fun c=>c.number):stateIn (states ⟨cs⟩) a=none:=by
 unfold stateIn;rw[Option.map_eq_none_iff,List.find?_eq_none,nG w];intro x hx;obtain⟨j,hj,rfl⟩:=mem_map.mp hx;simp only[beq_iff_eq];intro e;refine h ?_;rw[<-jw,<-e];exact mem_map.mpr ⟨j,hj,rfl⟩
theorem XM (w:CG.SOk cs):states ⟨cs⟩=(cs.map fun c=>c.number).map fun a=>(a,sN cs a):=by
 rw[<-jw,List.map_map,nG w];refine map_congr_left fun i hi=>?_;show _=(CG.num cs i,sN cs (CG.num cs i));unfold sN;rw[uU w (mem_range.mp hi)];rfl
theorem XN {β:Type}{f:Nat->Option β}{l L:List Nat}(h:l.Sublist L):L.Nodup->(∀a∈L,a∉l->f a=none)->L.filterMap f=l.filterMap f:=by
 induction h with
 | slnil=>exact fun _ _=>rfl
 | @cons l L a s ih =>
  intro nd hf;have nd2:=nodup_cons.mp nd;rw[filterMap_cons_none (hf a (mem_cons_self ..) fun q=>nd2.1 (s.subset q))];exact ih nd2.2 fun x hx hn=>hf x (mem_cons_of_mem _ hx) hn
 | @cons_cons l L a s ih =>
  intro nd hf;have nd2:=nodup_cons.mp nd;have:=ih nd2.2 fun x hx hn=>hf x (mem_cons_of_mem _ hx) fun q=>(mem_cons.mp q).elim (fun e=>nd2.1 (by rw[<-e];exact hx)) hn;rw[filterMap_cons,filterMap_cons,this]
theorem JX {β:Type}{p:Nat->Bool}{g:Nat->β}: ∀l:List Nat,(l.filterMap fun a=>if p a=true then none else some (g a))=(l.filter fun a=> !p a).map g
 | []=>rfl
 | a::l=>by
  have ih:=JX (p:=p) (g:=g) l
  cases h:p a with
  | true=>rw[filterMap_cons_none (by rw[h];rfl),ih,List.filter_cons_of_neg (by rw[h];decide)]
  | false=>rw[filterMap_cons_some (by rw[h];rfl),ih,List.filter_cons_of_pos (by rw[h];rfl)];rfl
theorem JZ {α β:Type}{f g:α->Option β}: ∀{l:List α},(∀x∈l,f x=g x)->l.filterMap f=l.filterMap g
 | [],_=>rfl
 | a::l,h=>by
  have ih:=JZ (l:=l) fun x hx=>h x (mem_cons_of_mem _ hx);have e:=h a (mem_cons_self ..)
  cases hg:g a with
  | none=>rw[filterMap_cons_none (e.trans hg),filterMap_cons_none hg,ih]
  | some b=>rw[filterMap_cons_some (e.trans hg),filterMap_cons_some hg,ih]
theorem XQ {ds:List Cell}(w:CG.SOk cs)(v:CG.SOk ds)(hs:(ds.map fun c=>c.number).Sublist (cs.map fun c=>c.number)):otherStates ⟨cs⟩ ⟨ds⟩=((ds.map fun c=>c.number).filter fun a=> !decide (sN ds a=sN cs a)).map fun a=>(a,sN cs a,sN ds a):=by
 unfold otherStates;simp only;rw[XM w,List.filterMap_map];refine (XN hs w.nd fun a _ hn=>?_).trans ?_
 .show (match stateIn (states ⟨ds⟩) a with
   | some y=>if y=sN cs a then none else some (a,sN cs a,y)
   | none=>none)=none
  rw[XJ v hn]
 .rw[<-JX (p:=fun a=>decide (sN ds a=sN cs a)) (g:=fun a=>(a,sN cs a,sN ds a))];refine JZ fun a ha=>?_
  show (match stateIn (states ⟨ds⟩) a with
   | some y=>if y=sN cs a then none else some (a,sN cs a,y)
   | none=>none)=_
  rw[XH v ha]
  show (if sN ds a=sN cs a then none else some (a,sN cs a,sN ds a))=if decide (sN ds a=sN cs a)=true then none else some (a,sN cs a,sN ds a)
  by_cases h:sN ds a=sN cs a
  .rw[if_pos h,if_pos (decide_eq_true h)]
  .rw[if_neg h,if_neg (by rw[decide_eq_false h];decide)]
theorem J0 {ds:List Cell}(w:CG.SOk cs)(v:CG.SOk ds)(hs:(ds.map fun c=>c.number).Sublist (cs.map fun c=>c.number)):encode (tellTriples (otherStates ⟨cs⟩ ⟨ds⟩))=gO (gU cs ds):=by
 rw[XQ w v hs]
 have e:gU cs ds=((ds.map fun c=>c.number).filter fun a=> !decide (sN ds a=sN cs a)).map fun (a:Nat)=>[(a:Int),(sN cs a:Int),(sN ds a:Int)]:=by
  unfold gU jL;rw[List.map_map,filter_map,List.map_map]
  have ef:(ds.filter fun c=> !decide (dg cs (c.number:Int)=dg ds (c.number:Int)))=ds.filter ((fun a=> !decide (sN ds a=sN cs a)) ∘ fun c=>c.number):=by
   refine filter_congr fun c _=>?_;show (!decide (dg cs (c.number:Int)=dg ds (c.number:Int)))= !decide (sN ds c.number=sN cs c.number);rw[rQ w,rQ v];congr 1;exact decide_eq_decide.mpr (by omega)
  rw[ef];refine map_congr_left fun c _=>?_;show [(c.number:Int),dg cs (c.number:Int),dg ds (c.number:Int)]=[(c.number:Int),(sN cs c.number:Int),(sN ds c.number:Int)];rw[rQ w,rQ v]
 rw[e];generalize (ds.map fun c=>c.number).filter (fun a=> !decide (sN ds a=sN cs a))=l;show ((((l.map fun a=>(a,sN cs a,sN ds a)).length:Nat):Int)::(l.map fun a=>(a,sN cs a,sN ds a)).flatMap fun p=>[(p.1:Int),(p.2.1:Int),(p.2.2:Int)])=_;unfold gO;rw[length_map,length_map,List.flatMap_map];rfl
theorem XR (c:Cell):(dG cs c).map (fun c=>c.number)=cs.map fun c=>c.number:=by
 unfold dG;rw[List.map_map];refine map_congr_left fun d _=>?_;show (if d.number==c.number then c else d).number=d.number
 by_cases h:(d.number==c.number)=true
 .rw[if_pos h,eq_of_beq h]
 .rw[if_neg h]
theorem XS (w:CG.SOk cs)(n b:Int)(m r:List Int):Stp cs (.suppose n b m r) cs (lw cs n b m r):=by
 unfold Stp lw dH;simp only[Vanbkb.step];rw[jg]
 cases hp:az cs n with
 | none=>exact⟨rfl,rfl⟩
 | some i =>
  obtain⟨hi,hn⟩:=fV hp
  show (if fault b m r≠0 then ((⟨cs⟩:State),(⟨fault b m r,[]⟩:Answer)) else (⟨cs⟩,tellTriples (otherStates ⟨cs⟩ (changed ⟨cs⟩ (told n b m r))))).1=⟨cs⟩/\encode (if fault b m r≠0 then ((⟨cs⟩:State),(⟨fault b m r,[]⟩:Answer)) else (⟨cs⟩,tellTriples (otherStates ⟨cs⟩ (changed ⟨cs⟩ (told n b m r))))).2=if (!decide (fault b m r=0))=true then [fault b m r] else gO (gU cs (dG cs (told n b m r)))
  by_cases hf:fault b m r=0
  .rw[if_neg (by simpa using hf),if_neg (by simpa using hf)];refine⟨rfl,?_⟩;obtain⟨_,hm,hr⟩:=lZ hf;have hh:=w.hi _ (n8 hi);have v:CG.SOk (dG cs (told n b m r)):=uZ w (qK (n:=n) (b:=b) (by omega) hm hr)
   exact J0 w v (by
    show ((dG cs (told n b m r)).map fun c=>c.number).Sublist _;rw[XR]
    exact List.Sublist.refl _)
  .rw[if_pos hf,if_pos (by simpa using hf)];exact⟨rfl,rfl⟩
theorem XX (w:CG.SOk cs)(n:Int):Stp cs (.without n) cs (lz cs n):=by
 unfold Stp lz;simp only[Vanbkb.step];rw[jg]
 cases hp:az cs n with
 | none=>exact⟨rfl,rfl⟩
 | some i =>
  obtain⟨hi,hn⟩:=fV hp;refine⟨rfl,?_⟩;show encode (tellTriples (otherStates ⟨cs⟩ ⟨cs.filter fun c=>c.number != (aH cs i).number⟩))=_;rw[Jt hn];exact J0 w (uY w (filter_sublist ..)) ((filter_sublist ..).map _)
theorem J1 (f:List Cell->Nat->List Int)(n:Int):gR f cs n=bf (fun cs i=>if aV cs i≠0 then [-11] else f cs i) cs n:=by
 unfold gR bf fU
 cases hp:az cs n with
 | none=>rfl
 | some i =>
  show (if (!decide ((if (!decide ((aV cs i:Int)=0))=true then (-11:Int) else 0)=0))=true then [if (!decide ((aV cs i:Int)=0))=true then (-11:Int) else 0] else f cs i)=if aV cs i≠0 then [-11] else f cs i
  by_cases h:aV cs i=0
  .have:(!decide ((aV cs i:Int)=0))=false:=by rw[decide_eq_true (by omega)];rfl
   rw[this,if_neg (c:=aV cs i≠0) (by simpa using h)];rfl
  .have:(!decide ((aV cs i:Int)=0))=true:=by rw[decide_eq_false (by omega)];rfl
   rw[this,if_pos (c:=aV cs i≠0) h];rfl
theorem X3 {i:Nat}(h:i∈aX cs):near cs i=needed (gP cs) i:=by
 have ok:=qM cs;unfold near needed;rw[gj];refine filter_congr fun m hm=>?_;congr 1;rw[Bool.eq_iff_iff,any_eq_true,any_eq_true];constructor
 .rintro⟨d,hd,z⟩;refine⟨d,hd,?_⟩;rw[Bool.and_eq_true];refine⟨bne_iff_ne.mpr fun e=>?_,z⟩;subst e;exact ok.ac _ (gk.reach ok h (.of_edge hd)) ((cO (bR cs)).mp (contains_iff_mem.mp z))
 .rintro⟨d,hd,z⟩;rw[Bool.and_eq_true] at z;exact⟨d,hd,z.2⟩
theorem J2 (i:Nat):eV cs i=below (gP cs) i:=by
 unfold eV below;rw[lV,bI]
theorem X4 (i:Nat):jJ cs i=circle (gP cs) i:=by
 have wf:=bR cs;refine CG.Asc.eq_of_mem ?_ (Rp wf i) fun x=>?_
 .unfold jJ;exact (show CG.Asc (eV cs i) from (g8 _).filter _).filter _
 .unfold jJ;rw[mem_filter,J2,Ro wf,contains_iff_mem,cO wf,Rq wf];exact And.comm
theorem X5 {i:Nat}(hi:i < cs.length):lg cs i=aN cs (ring (gP cs) i):=by
 unfold lg;rw[<-Sh (bR cs) (n:=i) (by rw[bI];exact hi)]
 have e:dw cs i=CG.rds (aq cs) i:=by
  unfold dw CG.rds;rw[bI]
 rw[e]
theorem rT {f g:List Cell->Nat->List Int}(n:Int)(h: ∀i,i < cs.length->f cs i=g cs i):bf f cs n=bf g cs n:=by
 unfold bf
 cases hp:az cs n with
 | none=>rfl
 | some i=>exact h i (fV hp).1
end
end
section
section
open Vanbkb
theorem X6 {cs cs':List Cell}{c:List (List Int)}{k:Call}{ans:List Int}(h:callOf c=some k)(s:Stp cs k cs' ans):(VanbkbNeutral.step ⟨cs⟩ c).1.cells=cs'/\(VanbkbNeutral.step ⟨cs⟩ c).2=ans:=by
 unfold VanbkbNeutral.step;rw[h];exact⟨by rw[s.1],s.2⟩
def One (R:Rel) (ns:List Int) (q:Nat) (t:List Int) (c:List (List Int)) (cs:List Cell):Prop :=
 ∃q',R ns (q+1) cs q' (VanbkbNeutral.step ⟨cs⟩ c).1.cells (VanbkbNeutral.step ⟨cs⟩ c).2/\At ns q' t/\q < q'/\CG.SOk (VanbkbNeutral.step ⟨cs⟩ c).1.cells/\(VanbkbNeutral.step ⟨cs⟩ c).2.length<=1000
theorem gB {R:Rel}{ns:List Int}{q q':Nat}{t:List Int}{c:List (List Int)}{cs cs':List Cell}{k:Call}{ans:List Int}(w:CG.SOk cs)(h:callOf c=some k)(s:Stp cs k cs' ans)(hR:R ns (q+1) cs q' cs' ans)(hat:At ns q' t)(hq:q < q'):One R ns q t c cs:=by
 obtain⟨e1,e2⟩:=X6 h s;refine⟨q',by rw[e1,e2];exact hR,hat,hq,?_,?_⟩
 .unfold VanbkbNeutral.step;rw[h];exact W9 w k
 .unfold VanbkbNeutral.step;rw[h];exact Xn w k
variable {ns rest t:List Int}{q:Nat}{p:Int}{c:List (List Int)}{cs:List Cell}
theorem zN {f:List Cell->List Int}{k:Call}(w:CG.SOk cs)(hat:At ns q (p::rest))(h:PyFlat.call PyVanbkb.shape (p::rest)=some (c,t))(hs:PyVanbkb.shape p=some (0,0))(hc:callOf [[p]]=some k)(s:Stp cs k cs (f cs)):One (R0 f) ns q t c cs:=by
 obtain⟨rfl,rfl⟩:=mJ h hs
 exact gB w hc s ⟨rfl,rfl,rfl⟩ hat.next (by omega)
theorem fW {f:List Cell->Int->List Int}{k:Int->Call}(w:CG.SOk cs)(hat:At ns q (p::rest))(h:PyFlat.call PyVanbkb.shape (p::rest)=some (c,t))(hs:PyVanbkb.shape p=some (1,0))(hc: ∀x,callOf [[p,x]]=some (k x))(s: ∀x,Stp cs (k x) cs (f cs x)):One (R1 f) ns q t c cs:=by
 obtain⟨x,rfl,rfl⟩:=dM h hs
 exact gB w (hc x) (s x) ⟨x,_,hat.next,rfl,rfl,rfl⟩ hat.next.next (by omega)
theorem X7 (w:CG.SOk cs)(hat:At ns q (4::rest))(h:PyFlat.call PyVanbkb.shape (4::rest)=some (c,t)):One zm ns q t c cs:=by
 obtain⟨rfl,rfl⟩:=mJ h rfl
 exact gB w rfl (W7 w) ⟨rfl,rfl⟩ hat.next (by omega)
theorem X8 (w:CG.SOk cs)(hat:At ns q (2::rest))(h:PyFlat.call PyVanbkb.shape (2::rest)=some (c,t)):One zp ns q t c cs:=by
 obtain⟨x,rfl,rfl⟩:=dM h rfl
 exact gB w rfl (Wz w x) ⟨x,_,hat.next,rfl,rfl⟩ hat.next.next (by omega)
theorem Yb (w:CG.SOk cs)(hat:At ns q (3::rest))(h:PyFlat.call PyVanbkb.shape (3::rest)=some (c,t)):One zq ns q t c cs:=by
 obtain⟨x,y,rfl,rfl⟩:=mK h rfl
 exact gB w rfl (WD w x y) ⟨x,y,_,hat.next,rfl,rfl⟩ hat.next.next.next (by omega)
theorem Yc (w:CG.SOk cs)(hat:At ns q (5::rest))(h:PyFlat.call PyVanbkb.shape (5::rest)=some (c,t)):One zr ns q t c cs:=by
 obtain⟨x,y,rfl,rfl⟩:=mK h rfl
 exact gB w rfl (WM x y) ⟨x,y,_,hat.next,rfl,rfl⟩ hat.next.next.next (by omega)
theorem Yd (w:CG.SOk cs)(hat:At ns q (1::rest))(h:PyFlat.call PyVanbkb.shape (1::rest)=some (c,t))(ha:asked1 c=true):One zu ns q t c cs:=by
 obtain⟨x,y,l,m,rfl,rfl⟩:=rJ h rfl;have ha:(whole60 x&&(whole60 y&&(((l.all (fun (z:Int)=>whole60 z))&&decide (l.length<=40))&&((m.all (fun (z:Int)=>whole60 z))&&decide (m.length<=40)))))=true:=ha;simp only[Bool.and_eq_true,decide_eq_true_eq] at ha
 exact gB w rfl (WF w x y l m) ⟨x,y,l,m,_,hat.next,⟨ha.2.2.1.2,ha.2.2.2.2⟩,rfl,rfl⟩ hat.next.next.next.rest.rest (by omega)
theorem Ye (w:CG.SOk cs)(hat:At ns q (0::rest))(h:PyFlat.call PyVanbkb.shape (0::rest)=some (c,t))(ha:asked1 c=true):One zx ns q t c cs:=by
 obtain⟨x,y,z,l,m,rfl,rfl⟩:=Jx h rfl;have ha:(whole60 x&&(whole60 y&&(whole60 z&&(((l.all (fun (z:Int)=>whole60 z))&&decide (l.length<=40))&&((m.all (fun (z:Int)=>whole60 z))&&decide (m.length<=40))))))=true:=ha;simp only[Bool.and_eq_true,decide_eq_true_eq] at ha
 exact gB w rfl (WL x y z l m) ⟨x,y,z,l,m,_,hat.next,⟨ha.2.2.2.1.2,ha.2.2.2.2.2⟩,rfl,rfl⟩ hat.next.next.next.next.rest.rest (by omega)
theorem Yg {f:List Cell->Int->List Int}{k:Int->Call}(w:CG.SOk cs)(hat:At ns q (p::rest))(h:PyFlat.call PyVanbkb.shape (p::rest)=some (c,t))(hs:PyVanbkb.shape p=some (1,0))(hc: ∀x,callOf [[p,x]]=some (k x))(s: ∀x,Stp cs (k x) cs (f cs x)):One (R1S f) ns q t c cs:=by
 obtain⟨x,rfl,rfl⟩:=dM h hs
 exact gB w (hc x) (s x) ⟨w,x,_,hat.next,rfl,rfl,rfl⟩ hat.next.next (by omega)
theorem Yh (w:CG.SOk cs)(hat:At ns q (18::rest))(h:PyFlat.call PyVanbkb.shape (18::rest)=some (c,t)):One zy ns q t c cs:=by
 obtain⟨x,y,rfl,rfl⟩:=mK h rfl
 exact gB w rfl (Xz w x y) ⟨x,y,_,hat.next,rfl,rfl,rfl⟩ hat.next.next.next (by omega)
theorem Yi (w:CG.SOk cs)(hat:At ns q (23::rest))(h:PyFlat.call PyVanbkb.shape (23::rest)=some (c,t))(ha:asked1 c=true):One zA ns q t c cs:=by
 obtain⟨l,rfl,rfl⟩:=Jw h rfl;have ha:((l.all (fun (z:Int)=>whole60 z))&&decide (l.length<=40))=true:=ha;simp only[Bool.and_eq_true,decide_eq_true_eq] at ha
 exact gB w rfl (XD w l) ⟨l,_,hat.next,ha.2,rfl,rfl,rfl⟩ hat.next.rest (by omega)
theorem Yj (w:CG.SOk cs)(hat:At ns q (24::rest))(h:PyFlat.call PyVanbkb.shape (24::rest)=some (c,t))(ha:asked1 c=true):One zB ns q t c cs:=by
 obtain⟨x,y,l,m,rfl,rfl⟩:=rJ h rfl;have ha:(whole60 x&&(whole60 y&&(((l.all (fun (z:Int)=>whole60 z))&&decide (l.length<=40))&&((m.all (fun (z:Int)=>whole60 z))&&decide (m.length<=40)))))=true:=ha;simp only[Bool.and_eq_true,decide_eq_true_eq] at ha
 exact gB w rfl (XS w x y l m) ⟨w,x,y,l,m,_,hat.next,⟨ha.2.2.1.2,ha.2.2.2.2⟩,rfl,rfl,rfl⟩ hat.next.next.next.rest.rest (by omega)
theorem oU {k:Call}{cs':List Cell}{a b:List Int}(s:Stp cs k cs' a)(e:b=a):Stp cs k cs' b:=e ▸ s
theorem Yk {i:Nat}(hi:i < cs.length)(h:aV cs i=0):i∈aX cs:=by
 unfold aX;exact mem_filter.mpr ⟨mem_range.mpr hi,by rw[h];rfl⟩
theorem Yl:oM oR:=by
 intro ns q n rest t c cs hn hat w h ha;show One (oR n) ns q t c cs
 match n,hn with
 | 0,_=>exact Ye w hat h ha
 | 1,_=>exact Yd w hat h ha
 | 2,_=>exact X8 w hat h
 | 3,_=>exact Yb w hat h
 | 4,_=>exact X7 w hat h
 | 5,_=>exact Yc w hat h
 | 6,_=>exact zN w hat h rfl rfl WP
 | 7,_=>exact fW w hat h rfl #[rR] (WX w)
 | 8,_=>exact fW w hat h rfl #[rR] WR
 | 9,_=>exact fW w hat h rfl #[rR] WT
 | 10,_=>exact fW w hat h rfl #[rR] (WW w)
 | 11,_=>exact fW w hat h rfl #[rR] (W2 w)
 | 12,_=>exact zN w hat h rfl rfl (WQ w)
 | 13,_=>exact fW w hat h rfl #[rR] (Xo w)
 | 14,_=>exact fW w hat h rfl #[rR] fun n=>oU (Xq w n) ((J1 _ n).trans rfl)
 | 15,_=>exact fW w hat h rfl #[rR] (Xu w)
 | 16,_=>exact fW w hat h rfl #[rR] fun n=>oU (Xv w n) (rT n fun i _=>by rw[J2])
 | 17,_=>exact fW w hat h rfl #[rR] fun n=>oU (Xw w n) (rT n fun i _=>by rw[X4])
 | 18,_=>exact Yh w hat h
 | 19,_=>exact fW w hat h rfl #[rR] fun n=>oU (Xx w n) (rT n fun i hi=>X5 hi)
 | 20,_=>exact fW w hat h rfl #[rR] (Xy w)
 | 21,_=>exact fW w hat h rfl #[rR] fun n=>oU (Xr w n) ((J1 _ n).trans (rT n fun i hi=>by
   unfold zM
   by_cases e:aV cs i=0
   .rw[X3 (Yk hi e)]
   .rw[if_pos e,if_pos e]))
 | 22,_=>exact zN w hat h rfl rfl (Xp w)
 | 23,_=>exact Yi w hat h ha
 | 24,_=>exact Yj w hat h ha
 | 25,_=>exact Yg w hat h rfl #[rR] (XX w)
 | n+26,hn=>exact absurd hn (by omega)
end
end
end CGP
set_option genSizeOf false
set_option genInjectivity false
structure PySem.W.Fast:Prop where
 (tw18326926963335915418 tw3356125382748698391 tw11965149674253634380 tw12636428460555287075 tw9498443249729469937 tw18070703979448290959 tw7863720713394028443 tw16592408562773806258 tw1490640350419540602 tw10606166938620285146 tw10568751914549968841 tw14959740574786101078 tw8148179167800064466 tw7986611413763368220 tw2099683416528208992 tw7345992288543039760 tw13650190906292430502 tw10984487175149645761 tw13197738889760724722 tw228257576120785858 tw12610402559540192781 tw12905317643400576223 tw5976827949371820859 tw4000224721078111131 tw11518963784460670638 tw14446154207956490243 tw13620512584292136711 tw1461476567192352165 tw5516549974042792598 tw12347433279658625249 tw10258016348303512653 tw7876342794267296366 tw8310101751320631466 tw7206498614183537282 tw15550725493426711622 tw18338975970706249519 tw13901284958795757848 tw6890985386627409127 tw17208035184078728684 tw17889813345427395219 tw10714119565296267306 tw15522680350227619873 tw1149257426370955279 tw13269914113583775013 tw10186904645652602331
  tw16891775412393336270 tw16883936375526784191 tw15155128554473297552 tw8880065763874647419 tw8685785897601018348 tw4442682885784909750 tw12731671116348618003 tw10186133852215966566 tw4073102329473451968 tw6302490002946488915 tw12296360373830953457 tw18107266914347232121 tw4147473820686146704 tw5554749852349070690 tw108145129426139214 tw7378240850049448607 tw1042308881529247037 tw1879330563584119117 tw18092855421012662455 tw5688861863143982590 tw243275678557849564 tw9698503559848499793 tw7301352054821916630 tw12679637150256249616 tw16500734036972461818 tw11812656319568726981 tw1032295992574022675 tw16957023401216303632 tw10848757246411315879 tw18370947426417579234 tw7110231558666096928 tw17727901871568254661 tw18073026769170408187 tw13249623364943100922 tw2391531257853568767 tw17638824367609509398 tw3296183598680048958 tw1664710245764276304 tw6758205853840316007 tw5852274019282208679 tw4553372060224032117 tw1287858066889259039 tw1372689104525352998 tw6391219576031117008 tw15152810335516552914
  tw10102804710725247030 tw12660436874940229407 tw14416604099945721027 tw17418101848281215754 tw16786209464344565501 tw10321559188691265287 tw9272506422901776760 tw9228293126843976449 tw14975116064552024400 tw17035497188821048931 tw9626797775572452951 tw4875625581399231774 tw3266552372122717900 tw13350686140441115255 tw8945398259051758901 tw11795825634417202664 tw16321554335023860799 tw9537968331314907183 tw8764279923639723523 tw13782008274346472492 tw15917474837963209757 tw8073519123132668795 tw5473484856152603974 tw5029371913848432039 tw3837287376838801310 tw2997183521233314134 tw17719095686213632608 tw10473976917577779702 tw8406718718262612395 tw8187155911166289936 tw16986535347379970022 tw6712278241932124401 tw8845322968026694101 tw16344347106790039646 tw4855770032280381788 tw9943232788448688867 tw15072971722533724349 tw5687349469125594150 tw16001031293558824835 tw17325988555175383006 tw15293522529988515925 tw6792649243764653185 tw16990776783341447665 tw8541398033801393926 tw2098186788836119076
  tw14482180173281289787 tw5854666544203250308 tw6251612502796531628 tw10973899116969186819 tw6178306578835782619 tw5482459416782949547 tw5705011649682640439 tw753407249481577547 tw13365168968373672158 tw16283335510222769134 tw8129965918530307659 tw2357334756395617126 tw2712729465952007249 tw10785625840398428053 tw5432736791357325206 tw13447417360131573842 tw864176329965907685 tw4929303521111662934 tw14164172873217539931 tw6219352362422118567 tw9598556944055790880 tw10151015730882423845 tw830882873170192914 tw6622652179218242393 tw7598717127237778862 tw14366255178792675432 tw191080225654276770 tw16507127251697752396 tw932994202907203585 tw8467086058276810496 tw5563580108731169469 tw5230751670302596984 tw3563727518279974628 tw10917554503328699696 tw14568525030921371706 tw8477446028003444739 tw4537228062782930328 tw15557920144427432522 tw3089187280762700481 tw16630078719640175613 tw3696315066958942881 tw1688458359947202202 tw15751823779995425834 tw12855962973855684823 tw13543412404435282729
  tw7150732370908251882 tw1992752743111797639 tw10046751436939276704 tw6518437784208049108 tw16733008693051687765 tw10891258329185633237 tw15730599485628680552 tw17343066779404772403 tw14950965372383225924 tw11791627990698185248 tw6268491974642364171 tw15333356665805959032 tw3742255902824047131 tw8775139587987695882 tw14486258999853025526 tw11789122849996679178 tw11673443299348845236 tw13015566353194061948 tw11467186063963190261 tw17381152487304795005 tw797912815739957813 tw11820260473632428168 tw10677396246847489807 tw8241857470386796422 tw4078494086300051251 tw10704895736527939618 tw11710516111522730012 tw11349296897127169888 tw9837725795192011233 tw11529397310250760745 tw12046708852882735144 tw8873505602118833326 tw10777411008932242432 tw1610676708685676044 tw3338806611247657945 tw17522586172771617286 tw11552944175005331641 tw12215137637338095007 tw15834051315891958153 tw1046822904533209834 tw2505106710687791332 tw13912763809315294732 tw5942671674898010403 tw9319610970132447747 tw6818397225930998261
  tw10612610046087526927 tw4832225172103868132 tw16622671434885238941 tw16384286488531297156 tw12288537162520603925 tw7157968652408157178 tw11708878709619865726 tw290376114235485918 tw10142112346201788673 tw18100983405100021847 tw16603628201986553996 tw15461109922800199932 tw16304681180835992159 tw15903930573145015927 tw38472920346553159 tw1012939867148533953 tw2817659319383354878 tw13554848860232080409 tw846465082714102445 tw13929037025738830935 tw9258460435596619021 tw11977730661420846037 tw1266026036927987163 tw17237538488472229790 tw13309264207065658928 tw2191814461435268170 tw4194192907071544574 tw11008324625670260337 tw3026380318018349653 tw14466380730156601118 tw3782959634687693293 tw8021539696632901769 tw6624669312523363833 tw7345301577756658814 tw5166097838446793725 tw16290075579628698028 tw12012975298197269049 tw14048860193421467127 tw6097518575818811487 tw11361748185932331187 tw16942973866874289577 tw12314089776275024967 tw12309617593680179596 tw12576875271531240967 tw9742889615651297116
  tw9582900511183977118 tw14405716080080453300 tw1241185463741541296 tw14783912778213400935 tw17171352294677656419 tw18112185446453176426 tw3559010291085189072 tw3615088412744159183 tw16483604551820324016 tw17689555836624004988 tw13636096913752489898 tw9711186002294820415 tw13615104466002401779 tw9372122435657254277 tw6401963746356077922 tw11010686724510064888 tw9694386343783151847 tw504678483605201118 tw17742449572639368276 tw998855235150352024 tw622819293254780609 tw11234607640626959529 tw18038732770136664495 tw6080328775792526105 tw16540716691362246916 tw16238317857034323523 tw17457908413337865706 tw13641437765787596765 tw11446584847183746597 tw9474047955432260619 tw11535500493531856471 tw2277606647966206438 tw7708000272772504574 tw731645359511611646 tw8359846860439654244 tw12157672797082896056 tw11138253566509276920 tw11604180510970033374 tw13370739268341191330 tw17776030216400775432 tw4685152423110472531 tw17482219757632086709 tw13985784057392966103 tw140124587195950943 tw1833817097024221119
  tw15145378247316386320 tw12188720613004411823 tw500582453843212880 tw12571589528346700020 tw17445815059043489903 tw9088872726073845505 tw5764793101094975894 tw17934923248180010381 tw4575639903413002787 tw469717759762385642 tw3658777047520865148 tw7681074279919873183 tw18204467942379342613 tw17437982192203229418 tw13517019358380454876 tw14041255566383807554 tw6690326918440195795 tw5819806976153156115 tw12317693648753026382 tw4287537526336714711 tw136954103302792748 tw11834890934936008357 tw4794459086141657552 tw3625571641617047527 tw12360896524358800591 tw4966608538075853930 tw4137244945265112332 tw6281949117594816079 tw12014020280365159183 tw10325464803598977936 tw17883413973215495133 tw14600117832733103428 tw11427411740134438780 tw17582574119140925094 tw4972277382481877486 tw16522965412525531943 tw16945813591149404446 tw4306764283479186253 tw4940128966247721103 tw5850167916383628154 tw8436366382831102136 tw5442878977259596447 tw11553145174694753691 tw1329586762232954733 tw11433125570787299712
  tw7141808421528873230 tw4498012310911111029 tw602986845366589270 tw11166166850876960664 tw7484572592331771543 tw14984730318586557783 tw10942469725292118662 tw13066012705147118527 tw18415343537938322105 tw6544358357721477194 tw7135972153395135020 tw5237821223571047385 tw13168775216216641463 tw1535753852388819394 tw18080691274031252756 tw5311123412834970808 tw1420096149982803707 tw7711431146296207979 tw1731539028184966382 tw17913076783637941082 tw17554296127354169282 tw287476890974873728 tw17751290329224127381 tw17127267521367307664 tw5706128857887230379 tw9612377784771360626 tw7013979047924544537 tw1473490670630649759 tw17669574953338332266 tw7419396829232528200 tw13860234656223649232 tw6191544621859094098 tw14372275207465780975 tw7873345721278710739 tw876050066367418657 tw582631795037817905 tw1051827285574830188 tw18024933913930799734 tw12600275684638398912 tw18266173301833047178 tw11752135956209372275 tw3444946470364821558 tw3489891753831133374 tw7223248255414178617 tw3232577945577978005
  tw7883479101881886148 tw2531835809363934193 tw5241079556020359670 tw17967199681143864664 tw1271578941746226366 tw17744046446742328182 tw12123420339589990515 tw2081689194150637575 tw17388907000786367995 tw3524872976988078718 tw10060467273540936438 tw3398557053262799430 tw5248892335641616142 tw4953835419302331009 tw8182531137350729837 tw7879242443066016958 tw18322581026079928923 tw3948814029286759356 tw1503905765500411667 tw5226484819242894667 tw14491163776930019953 tw17275670968908660305 tw10539017989261258065 tw9533250193306622672 tw10075227261718606078 tw11022448044860576250 tw17570561622907960210 tw12645353595175685246 tw8839817273135049266 tw7988805310607999340 tw6679062298169422579 tw11273662286161916333 tw3740701990135403565 tw8816617304810904481 tw4523960854500003567 tw4275416989281122703 tw14531108892876317937 tw398413216374405696 tw6082324892339946510 tw12691245765838544369 tw11499149509419010757 tw14380212381316850905 tw11825784926768339061 tw4118605021065054442 tw9920468347362351411
  tw15058036697569806449 tw10233321345705207310 tw8769419428078261895 tw6940972739078565234 tw10707358296588107576 tw5191131527329187339 tw16510905452926177038 tw11059430234757304437 tw1055495471139990240 tw11421403765313246045 tw9209337347950245960 tw11695854259613938836 tw7897669671551058531 tw2767654256317049827 tw11625675503003925763 tw13566169052278589259 tw13612777927833064811 tw18418178898580051182 tw274607406011379671 tw1470696952337042132 tw35441143295090046 tw7645070444554727622 tw15771114883205285765 tw16934863031165877170 tw16507355567384470856 tw10676889839220040889 tw17605162479087125123 tw15213863464586346393 tw12527994218068554398 tw7188259174852051336 tw3982321027891619749 tw3554251699098137847 tw16727849849158080806 tw12676628184190137852 tw8256322912618962163 tw9978556489190998255 tw1358440928686928499 tw977043974042177123 tw2386376504199598977 tw12422731500426366381 tw9142060780017388583 tw14283931669003266049 tw11612707554724672803 tw7463581985716065542 tw2393063670778634867
  tw9187077479884404167 tw12868456307852411828 tw17524789681695442309 tw2979398412062002158 tw17096932262842377875 tw11246654898686253686 tw1419718331470269295 tw875548505507454879 tw15546779063686617421 tw12885977302367576229 tw16367025898894379042 tw13534659469549442579 tw2171221615868056991 tw16714505097665944936 tw13939682498020294656 tw10475450683323400842 tw6819915566255687990 tw7572601951311524827 tw250479379945477478 tw12435859105045669541 tw16412159418463257481 tw12351766300289166273 tw7938545913465012952 tw6090611684105193039 tw4628599399867486713 tw5188924758748411522 tw3990979635643426728 tw16129385218608332033 tw15644082388699974144 tw3745727527423054674 tw12044337709422375472 tw9296258681000709766 tw7580627880997007403 tw14129655054539658794 tw11937657546322987350 tw10602146982097950348 tw841476747758501567 tw5140565742490802400 tw14810962506340611505 tw13212331157645553408 tw1445945309909674484 tw11504270858902422186 tw10765486776035238221 tw6122805084000824569 tw14364649434313636588
  tw1289281632500344314 tw4338498894032437382 tw17854604523605304006 tw6127448888931024069 tw4215064234448379487 tw4164809558623491099 tw17521368579452662029 tw7146906252298369171 tw1548944544117155725 tw15263250820311518601 tw14609829655499189718 tw15755061260454226103 tw1271201448006784186 tw656956504712368527 tw13957228942379724601 tw7376221084684189484 tw6036696459882521128 tw17723301831254531045 tw1897013128143122519 tw5863251115540476786 tw12257135507768435572 tw14800514597925926006 tw7490298919074463202 tw4765222494906866257 tw10797933940992949339 tw15657509130048214829 tw14200984161797715921 tw6881932247107885610 tw5437793234766837640 tw5994759007625880013 tw12705426093475002900 tw17943005845471477059 tw11568058540725160620 tw10734562023798863424 tw16820263096535306173 tw17881644387042938049 tw875383570717562761 tw904934433927673051 tw3865745523039377906 tw16386630159552582876 tw1263542624645247054 tw1380871888501715404 tw12778976531352004293 tw13438141160408527195 tw13337829517449840819
  tw1066938472562133119 tw12224178159281994873 tw4000375610338746897 tw8355168068627709641 tw15145818615093930216 tw1922808750210848884 tw3981129461332855145 tw14629358839853410136 tw10261015182994418238 tw1637903578607032056 tw6667670448300911514 tw10968583971168424338 tw14349418080273176134 tw5962215013580420325 tw5216075743524201733 tw16992599097542051298 tw6935330322375141842 tw8448557577557954556 tw6853181519135200196 tw6113738605973962713 tw13492408442076699903 tw13373736657611031184 tw2031490950729002447 tw8949551217313853556 tw16641133248579803296 tw3582892346443611381 tw17586344572362965617 tw925627829261710189 tw6400201416119563795 tw7005173432642970012 tw3292846928358862019 tw13490933434042616838 tw11400121297608646426 tw1190035416074684321 tw15541916325287954233 tw6006155372940925107 tw12949325729659773195 tw3927953327442683926 tw1389927201891259499 tw10858197416744692323 tw1324190614457013074 tw10968115811468015013 tw16727228496374280305 tw4741438511653371807 tw6694506167869895923
  tw6644970054955085312 tw11905104986537187690 tw2780283867134934885 tw12428634858597030110 tw16161775727539572827 tw10934196892041179340 tw17556258758982007440 tw2014165008321932429 tw17160947398743935224 tw9632780256823724384 tw10767797905061610370 tw15487306871953933619 tw7639059538534167585 tw14620500814656594472 tw13626797535747745700 tw5981083207805310882 tw11166222844808689255 tw856799881347367390 tw9675345712448426243 tw4313066687471622659 tw14143551399761849722 tw6316000536474625497 tw12410547915656170941 tw8234980812013250489 tw5142731930581474237 tw11501089384175286353 tw13680831579521724657 tw2566502247835716204 tw1754155841533650980 tw6851077770636120822 tw9227026584685092877 tw12484954067223118185 tw10968273883591053375 tw10062265234299354116 tw15523062615514526513 tw13835787051070488997 tw4347351133543765458 tw16637814828050474308 tw1599238307463861762 tw5053969918575551415 tw12325869189289889658 tw1413468327051510714 tw18345644628479441666 tw7275978195726076352 tw8033627766327767109
  tw9358621001355172369 tw14355456088457442314 tw13466623929018548720 tw1257392926772719811 tw1857918893704580834 tw9753605360515814414 tw14015389428781656291 tw540472220671691576 tw7985635517708961963 tw14984185350767765374 tw9826693173409907137 tw18378824053657385574 tw12151618389237959765 tw4911937688162534072 tw2678453851657961250 tw11497784972773657517 tw13030190257450393634 tw16456335740801094354 tw14585734845605702222 tw2617172530963631495 tw10323977839487002499 tw7953437333512729775 tw1575686989710920133 tw676227222528400287 tw2200467685890930030 tw12807604388970922087 tw17411007945624595060 tw8363415091567993675 tw10468655437636339969 tw12854902468594588993 tw16158948762408434595 tw2849261616484148731 tw526429455684524109 tw18015057385763215265 tw8727610486063704924 tw3966119673533818591 tw10684879195772143926 tw14381239195462161270 tw11789276358139059975 tw7431837356110477440 tw15922723362948560407 tw13974230704544602409 tw1092263345703115740 tw10988799918324193299 tw3150617998540804978
  tw8642130407584807074 tw14716395548534644832 tw10325885279374883597 tw2342826375460416676 tw7548987320399348883 tw6979903473307261935 tw8144790195241361702 tw2339948103907448322 tw837790103958294151 tw13013254851590858799 tw4175895227001791967 tw2606185481085396130 tw12584936900503171393 tw14905938873832658932 tw5105209866743488927 tw14924559741585369277 tw4729753617891433633 tw14314619023217419987 tw17305757995078918791 tw17248931440537430693 tw17935822757106557043 tw93754416606386693 tw11756417023286912712 tw9553488470053835572 tw11037303458871493922 tw13499666143986558256 tw6224244698635151984 tw5770329743987875954 tw9673947162862255163:True)
open PySem PySem.W PyProof.Rows
set_option maxRecDepth 100000 in
set_option maxHeartbeats 0 in
theorem PySem.Challenge.cw_cellgraph_s01_answers_holds : PySem.Challenge.rw_cellgraph_s01_answers.Holds := by
 w_on;k_headS;(case hw=>exact⟨[.list [.int 6]],by decide +kernel,by decide +kernel⟩)
 k_fillS
 refine L2.O6 (r:=PySem.Challenge.rw_cellgraph_s01_answers) (k:=10) (CX:=L2.CX0) (ps:=["calls"]) (sp:=CGP.zJ) (by decide +kernel) rfl rfl ⟨rfl,by decide,by decide⟩ (fun w h Y=>PySem.W.kIn_of Y) ?F ?S (fun _ _ _ _ z=>z)
 case F =>
  intro w mg fa h Y KX G hmg;refine' CGP.Xh CGP.Yl KX G hmg (CGP.Top.mk ?noL ?blt ?nums ?g_Cell ?g_Notebook ?g_Graph ?g_CallReader ?tg ?tl ?c_Cell ?n_Cell ?c_Notebook ?n_Notebook ?c_Graph ?n_Graph ?c_CallReader ?n_CallReader (CGP.aK ?_ ?_ ?_ ?_) (CGP.aK ?_ ?_ ?_ ?_) (CGP.aK ?_ ?_ ?_ ?_) (CGP.aK ?_ ?_ ?_ ?_) (CGP.aK ?_ ?_ ?_ ?_) (CGP.aK ?_ ?_ ?_ ?_) (CGP.aK ?_ ?_ ?_ ?_) (CGP.aK ?_ ?_ ?_ ?_) (CGP.aK ?_ ?_ ?_ ?_) (CGP.aK ?_ ?_ ?_ ?_) (CGP.aK ?_ ?_ ?_ ?_) (CGP.rM ?_ ?_ ?_ ?_ ?_ ?_ ?_) (CGP.aK ?_ ?_ ?_ ?_) (CGP.aK ?_ ?_ ?_ ?_) (CGP.aK ?_ ?_ ?_ ?_) (CGP.aK ?_ ?_ ?_ ?_) (CGP.aK ?_ ?_ ?_ ?_) (CGP.aK ?_ ?_ ?_ ?_) (CGP.aK ?_ ?_ ?_ ?_) (CGP.aK ?_ ?_ ?_ ?_) (CGP.aK ?_ ?_ ?_ ?_) (CGP.aK ?_ ?_ ?_ ?_) (CGP.aK ?_ ?_ ?_ ?_) (CGP.aK ?_ ?_ ?_ ?_) (CGP.aK ?_ ?_ ?_ ?_) (CGP.aK ?_ ?_ ?_ ?_) (CGP.aK ?_ ?_ ?_ ?_) (CGP.aK ?_ ?_ ?_ ?_) (CGP.aK ?_ ?_ ?_ ?_) (CGP.rM ?_ ?_ ?_ ?_ ?_ ?_ ?_) (CGP.aK ?_ ?_ ?_ ?_) (CGP.aK ?_ ?_ ?_ ?_) (CGP.aK ?_ ?_ ?_ ?_) (CGP.aK ?_ ?_ ?_ ?_) (CGP.aK ?_ ?_ ?_ ?_) (CGP.aK ?_ ?_ ?_ ?_) (CGP.aK ?_ ?_ ?_ ?_) (CGP.aK ?_ ?_ ?_ ?_) (CGP.aK ?_ ?_ ?_ ?_) (CGP.aK ?_ ?_ ?_ ?_) (CGP.aK ?_ ?_ ?_ ?_) (CGP.aK ?_ ?_ ?_ ?_) (CGP.aK ?_ ?_ ?_ ?_) (CGP.aK ?_ ?_ ?_ ?_) (CGP.aK ?_ ?_ ?_ ?_) (CGP.aK ?_ ?_ ?_ ?_) (CGP.aK ?_ ?_ ?_ ?_) (CGP.aK ?_ ?_ ?_ ?_) (CGP.aK ?_ ?_ ?_ ?_) (CGP.aK ?_ ?_ ?_ ?_) (CGP.aK ?_ ?_ ?_ ?_) (CGP.aK ?_ ?_ ?_ ?_) (CGP.aK ?_ ?_ ?_ ?_) (CGP.aK ?_ ?_ ?_ ?_) (CGP.aK ?_ ?_ ?_ ?_) (CGP.aK ?_ ?_ ?_ ?_) (CGP.aK ?_ ?_ ?_ ?_) (CGP.aK ?_ ?_ ?_ ?_) (CGP.aK ?_ ?_ ?_ ?_) (CGP.aK ?_ ?_ ?_ ?_) (CGP.aK ?_ ?_ ?_ ?_) (CGP.aK ?_ ?_ ?_ ?_) (CGP.aK ?_ ?_ ?_ ?_) (CGP.aK ?_ ?_ ?_ ?_) (CGP.aK ?_ ?_ ?_ ?_) (CGP.aK ?_ ?_ ?_ ?_) (CGP.aK ?_ ?_ ?_ ?_) (CGP.bO ?_ ?_ ?_) (CGP.bO ?_ ?_ ?_) (CGP.zG ?_ ?_ ?_ ?_ ?_) (CGP.bO ?_ ?_ ?_) (CGP.bO ?_ ?_ ?_) (CGP.bO ?_ ?_ ?_) (CGP.bO ?_ ?_ ?_) (CGP.bO ?_ ?_ ?_) (CGP.bO ?_ ?_ ?_) (CGP.bO ?_ ?_ ?_) (CGP.bO ?_ ?_ ?_) (CGP.bO ?_ ?_ ?_) (CGP.zG ?_ ?_ ?_ ?_ ?_) (CGP.bO ?_ ?_ ?_) (CGP.bO ?_ ?_ ?_) (CGP.bO ?_ ?_ ?_) (CGP.bO ?_ ?_ ?_) (CGP.bO ?_ ?_ ?_) (CGP.bO ?_ ?_ ?_) (CGP.bO ?_ ?_ ?_) (CGP.bO ?_ ?_ ?_) (CGP.bO ?_ ?_ ?_) (CGP.bO ?_ ?_ ?_) (CGP.bO ?_ ?_ ?_) (CGP.bO ?_ ?_ ?_) (CGP.bO ?_ ?_ ?_) (CGP.bO ?_ ?_ ?_) (CGP.bO ?_ ?_ ?_) (CGP.rM ?_ ?_ ?_ ?_ ?_ ?_ ?_) (CGP.rM ?_ ?_ ?_ ?_ ?_ ?_ ?_) (CGP.zG ?_ ?_ ?_ ?_ ?_) ?ga (CGP.bO ?_ ?_ ?_))
  (case noL=>(exact rfl))
  (case blt=>(refine' CGP.all_cons ?_<|CGP.all_cons ?_<|CGP.all_cons ?_<|CGP.all_cons ?_<|CGP.all_cons ?_<|CGP.all_cons ?_<|CGP.all_cons ?_<|CGP.all_cons ?_<|CGP.all_cons ?_<|CGP.all_cons ?_<|CGP.all_cons ?_<|CGP.all_cons ?_<|CGP.all_cons ?_<|CGP.all_cons ?_<|CGP.all_nil;(show PySem.W.nsIn _ _ "len"=_;k_is);(show PySem.W.nsIn _ _ "range"=_;k_is);(show PySem.W.nsIn _ _ "enumerate"=_;k_is);(show PySem.W.nsIn _ _ "sorted"=_;k_is);(show PySem.W.nsIn _ _ "set"=_;k_is);(show PySem.W.nsIn _ _ "list"=_;k_is);(show PySem.W.nsIn _ _ "any"=_;k_is);(show PySem.W.nsIn _ _ "all"=_;k_is);(show PySem.W.nsIn _ _ "max"=_;k_is);(show PySem.W.nsIn _ _ "min"=_;k_is);(show PySem.W.nsIn _ _ "sum"=_;k_is);(show PySem.W.nsIn _ _ "zip"=_;k_is);(show PySem.W.nsIn _ _ "reversed"=_;k_is);(show PySem.W.nsIn _ _ "dict"=_;k_is)))
  (case nums=>(refine' CGP.all_cons ?_<|CGP.all_cons ?_<|CGP.all_cons ?_<|CGP.all_cons ?_<|CGP.all_cons ?_<|CGP.all_cons ?_<|CGP.all_cons ?_<|CGP.all_cons ?_<|CGP.all_cons ?_<|CGP.all_cons ?_<|CGP.all_cons ?_<|CGP.all_cons ?_<|CGP.all_cons ?_<|CGP.all_cons ?_<|CGP.all_cons ?_<|CGP.all_cons ?_<|CGP.all_cons ?_<|CGP.all_cons ?_<|CGP.all_cons ?_<|CGP.all_cons ?_<|CGP.all_cons ?_<|CGP.all_cons ?_<|CGP.all_cons ?_<|CGP.all_cons ?_<|CGP.all_cons ?_<|CGP.all_cons ?_<|CGP.all_cons ?_<|CGP.all_cons ?_<|CGP.all_cons ?_<|CGP.all_nil;(show ∃t,PySem.W.nsIn _ _ "ACCEPTED"=some (some (.int (0) t));refine' CGP.bV ?_;any_goals k_is);(show ∃t,PySem.W.nsIn _ _ "BAD_NUMBER"=some (some (.int (-1) t));refine' CGP.bV ?_;any_goals k_is);(show ∃t,PySem.W.nsIn _ _ "NUMBER_TAKEN"=some (some (.int (-2) t));refine' CGP.bV ?_;any_goals k_is);(show ∃t,PySem.W.nsIn _ _ "BAD_PLACE"=some (some (.int (-3) t));refine' CGP.bV ?_;any_goals k_is);(show ∃t,PySem.W.nsIn _ _ "BAD_MARK"=some (some (.int (-4) t));refine' CGP.bV ?_;any_goals k_is);(show ∃t,PySem.W.nsIn _ _ "BAD_NAME"=some (some (.int (-5) t));refine' CGP.bV ?_;any_goals k_is);(show ∃t,PySem.W.nsIn _ _ "NAME_TWICE"=some (some (.int (-6) t));refine' CGP.bV ?_;any_goals k_is);(show ∃t,PySem.W.nsIn _ _ "NOTEBOOK_FULL"=some (some (.int (-7) t));refine' CGP.bV ?_;any_goals k_is);(show ∃t,PySem.W.nsIn _ _ "NO_SUCH_CELL"=some (some (.int (-8) t));refine' CGP.bV ?_;any_goals k_is);(show ∃t,PySem.W.nsIn _ _ "NAME_IN_USE"=some (some (.int (-9) t));refine' CGP.bV ?_;any_goals k_is);(show ∃t,PySem.W.nsIn _ _ "BAD_WIDTH"=some (some (.int (-10) t));refine' CGP.bV ?_;any_goals k_is);(show ∃t,PySem.W.nsIn _ _ "NOT_CLEAR"=some (some (.int (-11) t));refine' CGP.bV ?_;any_goals k_is);(show ∃t,PySem.W.nsIn _ _ "NO_CHAIN"=some (some (.int (-12) t));refine' CGP.bV ?_;any_goals k_is);(show ∃t,PySem.W.nsIn _ _ "LOWEST_NUMBER"=some (some (.int (1) t));refine' CGP.bV ?_;any_goals k_is);(show ∃t,PySem.W.nsIn _ _ "HIGHEST_NUMBER"=some (some (.int (99) t));refine' CGP.bV ?_;any_goals k_is);(show ∃t,PySem.W.nsIn _ _ "LOWEST_NAME"=some (some (.int (0) t));refine' CGP.bV ?_;any_goals k_is);(show ∃t,PySem.W.nsIn _ _ "HIGHEST_NAME"=some (some (.int (31) t));refine' CGP.bV ?_;any_goals k_is);(show ∃t,PySem.W.nsIn _ _ "MOST_CELLS"=some (some (.int (12) t));refine' CGP.bV ?_;any_goals k_is);(show ∃t,PySem.W.nsIn _ _ "LEAST_WIDTH"=some (some (.int (1) t));refine' CGP.bV ?_;any_goals k_is);(show ∃t,PySem.W.nsIn _ _ "GREATEST_WIDTH"=some (some (.int (12) t));refine' CGP.bV ?_;any_goals k_is);(show ∃t,PySem.W.nsIn _ _ "CLEAR"=some (some (.int (0) t));refine' CGP.bV ?_;any_goals k_is);(show ∃t,PySem.W.nsIn _ _ "BROKEN"=some (some (.int (1) t));refine' CGP.bV ?_;any_goals k_is);(show ∃t,PySem.W.nsIn _ _ "DOUBLE"=some (some (.int (2) t));refine' CGP.bV ?_;any_goals k_is);(show ∃t,PySem.W.nsIn _ _ "CIRCLE"=some (some (.int (3) t));refine' CGP.bV ?_;any_goals k_is);(show ∃t,PySem.W.nsIn _ _ "MISSING"=some (some (.int (4) t));refine' CGP.bV ?_;any_goals k_is);(show ∃t,PySem.W.nsIn _ _ "UNSURE"=some (some (.int (5) t));refine' CGP.bV ?_;any_goals k_is);(show ∃t,PySem.W.nsIn _ _ "BEHIND"=some (some (.int (6) t));refine' CGP.bV ?_;any_goals k_is);(show ∃t,PySem.W.nsIn _ _ "DONE"=some (some (.int (0) t));refine' CGP.bV ?_;any_goals k_is);(show ∃t,PySem.W.nsIn _ _ "FOUND"=some (some (.int (0) t));refine' CGP.bV ?_;any_goals k_is)))
  (case g_Cell=>(k_is))
  (case g_Notebook=>(k_is))
  (case g_Graph=>(k_is))
  (case g_CallReader=>(k_is))
  (case tg=>(k_is))
  (case tl=>(refine' CGP.Xd ?_;any_goals k_is))
  (case c_Cell=>(refine' ⟨?_,?_,?_,?_⟩;any_goals k_is))
  (case n_Cell=>(refine' CGP.all_cons ?_<|CGP.all_cons ?_<|CGP.all_cons ?_<|CGP.all_cons ?_<|CGP.all_nil;(show PySem.W.findIn _ _ "number"=_;k_is);(show PySem.W.findIn _ _ "broken"=_;k_is);(show PySem.W.findIn _ _ "makes"=_;k_is);(show PySem.W.findIn _ _ "reads"=_;k_is)))
  (case c_Notebook=>(refine' ⟨?_,?_,?_,?_⟩;any_goals k_is))
  (case n_Notebook=>(refine' CGP.all_cons ?_<|CGP.all_nil;(show PySem.W.findIn _ _ "row"=_;k_is)))
  (case c_Graph=>(refine' ⟨?_,?_,?_,?_⟩;any_goals k_is))
  (case n_Graph=>(refine' CGP.all_cons ?_<|CGP.all_cons ?_<|CGP.all_cons ?_<|CGP.all_cons ?_<|CGP.all_cons ?_<|CGP.all_nil;(show PySem.W.findIn _ _ "makers"=_;k_is);(show PySem.W.findIn _ _ "sources"=_;k_is);(show PySem.W.findIn _ _ "above"=_;k_is);(show PySem.W.findIn _ _ "own_troubles"=_;k_is);(show PySem.W.findIn _ _ "states"=_;k_is)))
  (case c_CallReader=>(refine' ⟨?_,?_,?_,?_⟩;any_goals k_is))
  (case n_CallReader=>(refine' CGP.all_cons ?_<|CGP.all_cons ?_<|CGP.all_nil;(show PySem.W.findIn _ _ "calls"=_;k_is);(show PySem.W.findIn _ _ "position"=_;k_is)))
  (case ga=>(k_is))
  any_goals k_is
 case S =>
  intro K H xs a hO hwi hask hx
  cases hx with
  | cons h1 h2 =>
   cases h2
   cases h1 with
   | lst hs ha =>
    have e:=L2.BX a.1 _ ha;subst e;have q:((Codec.inLen 0 16000 a.1&&a.1.all (Codec.inInt (-1000000000000000000) 1000000000000000000))&&true)=true:=hwi;rw[Bool.and_eq_true,Bool.and_eq_true] at q;exact CGP.req hO hs (Codec.inNat_iff.mp q.1.1).2 hask