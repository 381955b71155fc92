import PyProof.Rows.All
import Wide.All
import Wide.FinOn
import OpenK.KLine
import KE.KPairTest
import KE.KDictSum
import KE.KDictOf
import KE.KRevSl
import KE.KDictList
import KE.KIsAll
import KE.KPairComp
import KE.KItem
import PyProof.EqAt
import PyProof.EqKinds
import PyProof.TupleCall
import KE.KIntText
import KE.KRevIter
import PySem.Challenge.RW_strongboxes_k08_whole_made_of_texts
set_option Elab.async false
set_option linter.all false
set_option maxRecDepth 100000
set_option maxHeartbeats 4000000
set_option autoImplicit true
set_option relaxedAutoImplicit true
section
open PySem PySem.W PyProof.Rows
abbrev AAA:=@wpAny_bind
abbrev AAB:=@wpAny_pure
abbrev AAC:=@Heap.get?_push_of_some
abbrev AAD:=@Heap.get?_push_size
abbrev AAE:=@Nat.le_refl
abbrev AAF:=@List.length_map
abbrev AAG:=@List.length_append
abbrev AAH:=@List.length_cons
abbrev AAI:=@List.mem_cons
abbrev AAJ:=@List.mem_append
abbrev AAK:=@List.mem_singleton
abbrev AAL:=@List.mem_map
abbrev AAM:=@Nat.lt_of_lt_of_le
abbrev AAN:=@decide_eq_false
abbrev AAO:=@decide_eq_true
abbrev AAP:=@List.mem_cons_self
abbrev AAQ:=@List.mem_cons_of_mem
abbrev AAR:=@List.getElem?_append_right
abbrev AAS:=@List.getElem?_append_left
abbrev AAT:=@List.getElem?_eq_some_iff
abbrev AAU:=@List.mem_of_getElem?
abbrev AAV:=@List.getElem?_map
abbrev AAW:=@List.map_cons
abbrev AAX:=@List.map_append
abbrev AAY:=@List.append_nil
abbrev AAZ:=@List.mem_append_right
abbrev AAa:=@List.mem_append_left
abbrev AAb:=@wpAny_call_entry
abbrev AAc:=@Nat.ne_of_lt
abbrev AAd:=@beq_eq_false_iff_ne
abbrev AAe:=@List.set_append_right
abbrev AAf:=@Bool.false_ne_true
abbrev AAg:=@Nat.lt_succ_of_lt
abbrev AAh:=@wpAny_mono
abbrev AAi:=@Nat.zero_le
abbrev AAj:=@List.replicate_succ
abbrev AAk:=@List.append_assoc
abbrev AAl:=@List.length_replicate
abbrev AAm:=@List.getElem?_set_ne
abbrev AAn:=@wpAny_holding
abbrev AAo:=@wpAny_setField_rec
abbrev AAp:=@wpAny_newObj_type
abbrev AAq:=@Nat.le_trans
abbrev AAr:=@List.getElem?_eq_getElem
abbrev AAs:=@wpAny_of_eq
abbrev AAt:=@wpAny_field
abbrev AAu:=@wpAny_seqItems
abbrev AAv:=@Nat.lt_irrefl
end
noncomputable def PySem.W.Fast.tw15778055657130182296:Nat:=0
noncomputable def PySem.W.Fast.tw1543375384823944304:Nat:=0
noncomputable def PySem.W.Fast.tw9287217922836526775:Nat:=0
noncomputable def PySem.W.Fast.tw18230809490590312725:Nat:=0
noncomputable def PySem.W.Fast.tw12613219464108623963:Nat:=0
noncomputable def PySem.W.Fast.tw3075266043730171077:Nat:=0
noncomputable def PySem.W.Fast.tw1257115927195794685:Nat:=0
noncomputable def PySem.W.Fast.tw10702612078431445333:Nat:=0
noncomputable def PySem.W.Fast.tw9132250813203299282:Nat:=0
noncomputable def PySem.W.Fast.tw10901717622623664633:Nat:=0
noncomputable def PySem.W.Fast.tw14946756881584601552:Nat:=0
noncomputable def PySem.W.Fast.tw17827346511459912725:Nat:=0
noncomputable def PySem.W.Fast.tw16852257401478494022:Nat:=0
noncomputable def PySem.W.Fast.tw2559218459518634489:Nat:=0
noncomputable def PySem.W.Fast.tw9424489344410052314:Nat:=0
noncomputable def PySem.W.Fast.tw16057856881992804198:Nat:=0
noncomputable def PySem.W.Fast.tw17213608802965904245:Nat:=0
noncomputable def PySem.W.Fast.tw3050880848874056614:Nat:=0
noncomputable def PySem.W.Fast.tw4536423962026318769:Nat:=0
noncomputable def PySem.W.Fast.tw8501976604368700064:Nat:=0
noncomputable def PySem.W.Fast.tw13359456042152029931:Nat:=0
noncomputable def PySem.W.Fast.tw5492217697297387394:Nat:=0
noncomputable def PySem.W.Fast.tw1051627374924794087:Nat:=0
noncomputable def PySem.W.Fast.tw9597047322019253125:Nat:=0
noncomputable def PySem.W.Fast.tw18040483638239089211:Nat:=0
noncomputable def PySem.W.Fast.tw9859134374018724671:Nat:=0
noncomputable def PySem.W.Fast.tw7981071073421754373:Nat:=0
noncomputable def PySem.W.Fast.tw8167644704595255653:Nat:=0
noncomputable def PySem.W.Fast.tw12293081233659937157:Nat:=0
noncomputable def PySem.W.Fast.tw5947246317891844189:Nat:=0
noncomputable def PySem.W.Fast.tw11845282982513487180:Nat:=0
noncomputable def PySem.W.Fast.tw15939179950126744336:Nat:=0
noncomputable def PySem.W.Fast.tw5714681268609529283:Nat:=0
noncomputable def PySem.W.Fast.tw8399272098784795351:Nat:=0
noncomputable def PySem.W.Fast.tw13781522472285862265:Nat:=0
noncomputable def PySem.W.Fast.tw3352597017977787744:Nat:=0
noncomputable def PySem.W.Fast.tw13475634381066512426:Nat:=0
noncomputable def PySem.W.Fast.tw16638347082120306399:Nat:=0
noncomputable def PySem.W.Fast.tw10387801386862128859:Nat:=0
noncomputable def PySem.W.Fast.tw9536174259132011946:Nat:=0
noncomputable def PySem.W.Fast.tw14499935690215088131:Nat:=0
noncomputable def PySem.W.Fast.tw13487906881125769822:Nat:=0
noncomputable def PySem.W.Fast.tw5079697374579240492:Nat:=0
noncomputable def PySem.W.Fast.tw10784362327563410227:Nat:=0
noncomputable def PySem.W.Fast.tw5981299045042238802:Nat:=0
noncomputable def PySem.W.Fast.tw7820503806953639495:Nat:=0
noncomputable def PySem.W.Fast.tw12958634999237677431:Nat:=0
noncomputable def PySem.W.Fast.tw5440438616395047256:Nat:=0
noncomputable def PySem.W.Fast.tw14669346923899920076:Nat:=0
noncomputable def PySem.W.Fast.tw10614293126762532488:Nat:=0
noncomputable def PySem.W.Fast.tw16068924432259759139:Nat:=0
noncomputable def PySem.W.Fast.tw10699921262058053937:Nat:=0
noncomputable def PySem.W.Fast.tw8445637713967777386:Nat:=0
noncomputable def PySem.W.Fast.tw7858837457341099431:Nat:=0
noncomputable def PySem.W.Fast.tw11701050836271513971:Nat:=0
noncomputable def PySem.W.Fast.tw5045293683823960343:Nat:=0
noncomputable def PySem.W.Fast.tw235577234302742463:Nat:=0
noncomputable def PySem.W.Fast.tw782300604936726527:Nat:=0
noncomputable def PySem.W.Fast.tw13373376861977141168:Nat:=0
noncomputable def PySem.W.Fast.tw11234850626558430059:Nat:=0
noncomputable def PySem.W.Fast.tw6726359704792957849:Nat:=0
noncomputable def PySem.W.Fast.tw10518065574381893335:Nat:=0
noncomputable def PySem.W.Fast.tw6668386806685356406:Nat:=0
noncomputable def PySem.W.Fast.tw6719494336330363968:Nat:=0
noncomputable def PySem.W.Fast.tw11165862434700817904:Nat:=0
noncomputable def PySem.W.Fast.tw9669336300381387059:Nat:=0
noncomputable def PySem.W.Fast.tw15567793263916735303:Nat:=0
noncomputable def PySem.W.Fast.tw5709513814248634052:Nat:=0
noncomputable def PySem.W.Fast.tw9043025638994624206:Nat:=0
noncomputable def PySem.W.Fast.tw4830308290969324049:Nat:=0
noncomputable def PySem.W.Fast.tw2001796176349871264:Nat:=0
noncomputable def PySem.W.Fast.tw2760454975615736563:Nat:=0
noncomputable def PySem.W.Fast.tw4604138834934442287:Nat:=0
noncomputable def PySem.W.Fast.tw17978275059485063954:Nat:=0
noncomputable def PySem.W.Fast.tw14596804867431977893:Nat:=0
noncomputable def PySem.W.Fast.tw2318186311297952533:Nat:=0
noncomputable def PySem.W.Fast.tw4297452402626169759:Nat:=0
noncomputable def PySem.W.Fast.tw16392779912014435380:Nat:=0
noncomputable def PySem.W.Fast.tw29468144281776911:Nat:=0
noncomputable def PySem.W.Fast.tw12996808020619683117:Nat:=0
noncomputable def PySem.W.Fast.tw7606878123398985700:Nat:=0
noncomputable def PySem.W.Fast.tw5486554440482825943:Nat:=0
noncomputable def PySem.W.Fast.tw18203277627247466939:Nat:=0
noncomputable def PySem.W.Fast.tw17078807493254845524:Nat:=0
noncomputable def PySem.W.Fast.tw7503987221775066308:Nat:=0
noncomputable def PySem.W.Fast.tw4497599840087082121:Nat:=0
noncomputable def PySem.W.Fast.tw2136413425879038375:Nat:=0
noncomputable def PySem.W.Fast.tw11439527377863072455:Nat:=0
noncomputable def PySem.W.Fast.tw17342358320453235274:Nat:=0
noncomputable def PySem.W.Fast.tw469273134457006233:Nat:=0
noncomputable def PySem.W.Fast.tw5969268564456248078:Nat:=0
noncomputable def PySem.W.Fast.tw5418312088139590687:Nat:=0
noncomputable def PySem.W.Fast.tw13255995546612080814:Nat:=0
noncomputable def PySem.W.Fast.tw3771985903657420275:Nat:=0
noncomputable def PySem.W.Fast.tw12933917157849076997:Nat:=0
noncomputable def PySem.W.Fast.tw13224497333422041855:Nat:=0
noncomputable def PySem.W.Fast.tw5432108699937666789:Nat:=0
noncomputable def PySem.W.Fast.tw1612282272464988148:Nat:=0
noncomputable def PySem.W.Fast.tw3330848484250250223:Nat:=0
noncomputable def PySem.W.Fast.tw10388428569141531040:Nat:=0
noncomputable def PySem.W.Fast.tw3024216201859670633:Nat:=0
noncomputable def PySem.W.Fast.tw9394232151344105709:Nat:=0
noncomputable def PySem.W.Fast.tw6193155244206427350:Nat:=0
noncomputable def PySem.W.Fast.tw16743115090815376860:Nat:=0
noncomputable def PySem.W.Fast.tw8858641080249439870:Nat:=0
noncomputable def PySem.W.Fast.tw5945862161718555649:Nat:=0
noncomputable def PySem.W.Fast.tw2874309990966950917:Nat:=0
noncomputable def PySem.W.Fast.tw10165885462511032198:Nat:=0
noncomputable def PySem.W.Fast.tw667875563760932647:Nat:=0
noncomputable def PySem.W.Fast.tw8325853407655393672:Nat:=0
noncomputable def PySem.W.Fast.tw15671088393598445006:Nat:=0
noncomputable def PySem.W.Fast.tw18343992865693904435:Nat:=0
noncomputable def PySem.W.Fast.tw10919696406815964776:Nat:=0
noncomputable def PySem.W.Fast.tw5741259417517681508:Nat:=0
noncomputable def PySem.W.Fast.tw3979401540892207089:Nat:=0
noncomputable def PySem.W.Fast.tw3017209896818662602:Nat:=0
noncomputable def PySem.W.Fast.tw2390458825499249117:Nat:=0
noncomputable def PySem.W.Fast.tw6501499809513448265:Nat:=0
noncomputable def PySem.W.Fast.tw6738525924925353578:Nat:=0
noncomputable def PySem.W.Fast.tw562087896922814030:Nat:=0
namespace L2
open PySem PySem.Spec PyProof.Rows
noncomputable abbrev Key:=Sum Int Str
noncomputable def Mv:Key->Value->Bool
 | .inl k,v=>Value.isInt k v
 | .inr x,v=>Value.isStrOf x v
noncomputable def gy(w:World):Key->Int
 | .inl k=>hashInt k
 | .inr x=>hashStr w x
theorem CJ:∀{k:Key} {v:Value},Mv k v=true->(∃i t,k=Sum.inl i/\v=Value.int i t)∨(∃x t,k=Sum.inr x/\v=Value.str x t)
 | .inl i,v,h=>by
  obtain⟨t,e⟩:=Value.isInt_shape (k:=i) (v:=v) h;exact .inl ⟨i,t,rfl,e⟩
 | .inr x,v,h=>by
  obtain⟨t,e⟩:=Value.isStrOf_shape (x:=x) (v:=v) h;exact .inr ⟨x,t,rfl,e⟩
theorem T9(i:Int)(t:Tok):Mv (.inl i) (.int i t)=true:=by simp[Mv,Value.isInt]
theorem T8(x:Str)(t:Tok):Mv (.inr x) (.str x t)=true:=by simp[Mv,Value.isStrOf]
theorem cu(a b:Int):decide ((Sum.inl a:Key)=Sum.inl b)=(a==b):=by
 by_cases e:a=b
 ·subst e;simp
 ·have h:¬(Sum.inl a:Key)=Sum.inl b:=λq=>e (Sum.inl.inj q);rw[AAN h];exact(AAd.mpr e).symm
theorem cp(a b:Str):decide ((Sum.inr a:Key)=Sum.inr b)=decide (a=b):=by
 by_cases e:a=b
 ·subst e;simp
 ·have h:¬(Sum.inr a:Key)=Sum.inr b:=λq=>e (Sum.inr.inj q);rw[AAN h,AAN e]
theorem cr(a:Int)(b:Str):decide ((Sum.inl a:Key)=Sum.inr b)=false:=AAN (λq=>nomatch q)
theorem cq(a:Str)(b:Int):decide ((Sum.inr a:Key)=Sum.inl b)=false:=AAN (λq=>nomatch q)
noncomputable def BK(prog:Program)(w:World):PySem.KeyKind prog w Key where
 is:=Mv
 hash:=gy w
 inj:=λv a b ha hb=>by
  rcases CJ ha with ⟨i,t,rfl,rfl⟩|⟨x,t,rfl,rfl⟩
  ·rcases CJ hb with ⟨j,u,rfl,e⟩|⟨y,u,rfl,e⟩
   ·injection e with e1 _;rw[e1]
   ·exact nomatch e
  ·rcases CJ hb with ⟨j,u,rfl,e⟩|⟨y,u,rfl,e⟩
   ·exact nomatch e
   ·injection e with e1 _;rw[e1]
 byValue:=λk v h=>by
  rcases CJ h with ⟨i,t,rfl,rfl⟩|⟨x,t,rfl,rfl⟩<;>rfl
 pyHash:=λhv h=>by
  rcases CJ hv with ⟨i,t,rfl,rfl⟩|⟨x,t,rfl,rfl⟩
  ·exact wpAny_pyHash_int h
  ·exact wpAny_pyHash_str h
 eqBool:=λhu hv h=>by
  rcases CJ hu with ⟨i,t,rfl,rfl⟩|⟨x,t,rfl,rfl⟩
  ·rcases CJ hv with ⟨j,u,rfl,rfl⟩|⟨y,u,rfl,rfl⟩
   ·rw[cu] at h;exact wpAny_eqBool_int h
   ·rw[cr] at h;exact SeqAt.EqAt.int_str i t y u _ _ _ _ h
  ·rcases CJ hv with ⟨j,u,rfl,rfl⟩|⟨y,u,rfl,rfl⟩
   ·rw[cq] at h;exact SeqAt.EqAt.str_int x t j u _ _ _ _ h
   ·rw[cp] at h;exact wpAny_eqBool_str h
 «strs»:=λk x t v h=>by
  rcases CJ h with ⟨i,u,rfl,e⟩|⟨y,u,rfl,e⟩
  ·exact nomatch e
  ·injection e with e1 _
   subst e1;cases v<;>rfl
theorem PP(prog:Program)(w:World)(i:Int)(t:Tok):(BK prog w).is (.inl i) (.int i t)=true:=T9 i t
theorem PN(prog:Program)(w:World)(x:Str)(t:Tok):(BK prog w).is (.inr x) (.str x t)=true:=T8 x t
inductive V where
 |non|bl (b:Bool)|int (i:Int)|str (x:Str)|byt (b:Array UInt8)|flt (b:UInt64)|ref (a:Addr)|ty (n:String)
 deriving DecidableEq
def RelV:V->Value->Prop
 | .non,u=>u=Value.none
 | .bl b,u=>u=Value.bool b
 | .int i,u=>∃t,u=Value.int i t
 | .str x,u=>∃t,u=Value.str x t
 | .byt b,u=>∃t,u=Value.bytes b t
 | .flt b,u=>∃t,u=Value.float b t
 | .ref a,u=>u=Value.ref a
 | .ty n,u=>u=Value.type n
abbrev Vals:List V->List Value->Prop:=Paired RelV
theorem Vals.length(r:Vals xs us):xs.length=us.length:=Paired.length r
theorem Vals.get:∀{xs:List V} {us:List Value} {i:Nat} {x:V},Vals xs us->xs[i]?=some x->∃u,us[i]?=some u/\RelV x u
 |_,_,_,_,.nil,e=>by simp at e
 |_,_,0,_,.cons r _,e=>by simp at e;subst e;exact⟨_,rfl,r⟩
 |_,_,i+1,x,.cons _ t,e=>by
  obtain⟨u,h1,h2⟩:=Vals.get (i:=i) (x:=x) t (by simpa using e);exact⟨u,by simpa using h1,h2⟩
theorem Vals.set(r:RelV x u):∀{xs:List V} {us:List Value} (i:Nat),Vals xs us->Vals (xs.set i x) (us.set i u)
 |_,_,_,.nil=>.nil
 |_,_,0,.cons _ t=>.cons r t
 |_,_,i+1,.cons q t=>.cons q (Vals.set r i t)
theorem Vals.append:∀{xs ys:List V} {us ws:List Value},Vals xs us->Vals ys ws->Vals (xs++ys) (us++ws)
 |_,_,_,_,.nil,s=>s
 |_,_,_,_,.cons r t,s=>.cons r (Vals.append t s)
theorem Vals.take:∀{xs:List V} {us:List Value} (n:Nat),Vals xs us->Vals (xs.take n) (us.take n)
 |_,_,0,_=>.nil
 |_,_,_+1,.nil=>.nil
 |_,_,n+1,.cons r t=>.cons r (Vals.take n t)
theorem Vals.drop:∀{xs:List V} {us:List Value} (n:Nat),Vals xs us->Vals (xs.drop n) (us.drop n)
 |_,_,0,r=>r
 |_,_,_+1,.nil=>.nil
 |_,_,n+1,.cons _ t=>Vals.drop n t
noncomputable def RelO:Option V->Option Value->Prop
 |some v,some u=>RelV v u
 |none,none=>True
 |_,_=>False
noncomputable def KV{κ:Type}:List (κ×V)->List (κ×Value)->Prop:=Paired λ(p:κ×V) (q:κ×Value)=>p.1=q.1/\RelV p.2 q.2
noncomputable def kV:Key->V
 | .inl i=>.int i
 | .inr x=>.str x
inductive HO where
 |lst (xs:List V)
 |tup (xs:List V)
 |dK (kvs:List (Key×V))|dT (kvs:List (List Key×V))
 |set (S:Int->Bool) (n:Nat)
 |ins (C dx:Addr) (fs:List (Str×V))
 |own (x:Addr)
 |xd (fs:List (Str×V))
 |met (f x:Addr)
 |rng (lo hi:Int)
 |frz (o:Obj) (u:HO)
 |tbl (ps:Array Value)
 |ext (φ:Heap->Prop)
abbrev Hp:=Addr->Option HO
noncomputable def upd(H:Hp)(a:Addr)(o:HO):Hp:=λb=>if b=a then some o else H b
theorem B2:upd H a o a=some o:=by unfold upd;rw[if_pos rfl]
theorem BN(h:b≠a):upd H a o b=H b:=by unfold upd;rw[if_neg h]
theorem fR{H:Hp}(h:H a=some o)(h':H b=some u)(d:o≠u):a≠b:=by
 intro e;subst e;rw[h] at h';exact d (Option.some.inj h')
theorem DM{H:Hp}(h:H a=some o)(h':H b=none):a≠b:=by
 intro e;subst e;rw[h] at h';cases h'
section
variable(P:Program)(w:World)
noncomputable def ObjOk(H:Hp)(h:Heap)(a:Addr):HO->Prop
 | .lst xs=>xs.length<=sizeLine/\∃(its:List Value) (n:Nat),Vals xs its/\h.get? a=some { cls:=.type "list",data:=.seq its.toArray n }
 | .tup xs=>xs.length<=sizeLine/\∃its:List Value,Vals xs its/\IsTup h a its.toArray
 | .dK kvs=>kvs.length<=sizeLine/\(a==sysModules)=false/\∃vs,KV kvs vs/\h.DictOf (BK P w) a vs
 | .dT kvs=>kvs.length<=sizeLine/\(a==sysModules)=false/\∃xs:List (List Key×Addr×Value),
   Paired (λ(p:List Key×V) (q:List Key×Addr×Value)=>p.1=q.1/\H q.2.1=some (.tup (p.1.map kV))/\RelV p.2 q.2.2) kvs xs /\
   ∃o es ep,h.get? a=some o/\o.ExactDict/\o.data=.dict es ep/\es.toList=xs.map (entryOfKey (tupleKind (BK P w)))/\(xs.map (·.1)).Nodup
 | .set S n=>h.SetOf (intKind P w) a S n
 | .ins C dx fs=>H dx=some (.own a)/\fs.length<=1000/\dx≠a/\h.get? a=some (PySem.W.instObj C dx) /\
   ∃mA,h.Ns1 dx mA/\(∀f,RelO (fs.lookup f) (mA f))/\PySem.Within mA (fs.map (·.1))
 | .own _=>∃o,h.get? a=some o
 | .xd fs=>∃mA,h.Ns1 a mA/\∀f,RelO (fs.lookup f) (mA f)
 | .rng lo hi=>∃t u v,h.get? a=some { cls:=.type "range",data:=.fields #[.int lo t,.int hi u,.int 1 v] }
 | .frz o u=>h.get? a=some o/\ObjOk H h a u
 | .tbl ps=>h.get? a=some { cls:=.none,data:=.fields ps }
 | .met f x=>h.get? a=some (PySem.W.methodObj (.ref f) (.ref x))
 | .ext φ=>φ h/\(∃o,h.get? a=some o)/\∀h1 h2:Heap,φ h1->(∀o,h1.get? a=some o->h2.get? a=some o)->φ h2
def HOk(H:Hp)(h:Heap):Prop:=∀a o,H a=some o->ObjOk P w H h a o
end
section
variable{P:Program}{w:World}{H H':Hp}{h h':Heap}{a:Addr}{o:HO}
theorem ObjOk.lt(x:ObjOk P w H h a o):a<h.objs.size:=by
 cases o with
 |lst xs=>obtain⟨_,_,_,_,e⟩:=x;exact Heap.lt_size e
 |tup xs=>obtain⟨_,_,_,p⟩:=x;exact p.lt
 |dK kvs=>obtain⟨_,_,_,_,o,_,_,e,_⟩:=x;exact Heap.lt_size e
 |dT kvs=>obtain⟨_,_,_,_,o,_,_,e,_⟩:=x;exact Heap.lt_size e
 |set S n=>obtain⟨o,_,_,_,e,_⟩:=x;exact Heap.lt_size e
 |ins C dx fs=>obtain⟨_,_,_,e,_⟩:=x;exact Heap.lt_size e
 |own y=>obtain⟨_,e⟩:=x;exact Heap.lt_size e
 |xd fs=>obtain⟨_,⟨_,_,_,e,_⟩,_⟩:=x;exact Heap.lt_size e
 |rng lo hi=>obtain⟨_,_,_,e⟩:=x;exact Heap.lt_size e
 |frz ob u=>obtain⟨e,_⟩:=x;exact Heap.lt_size e
 |tbl ps=>exact Heap.lt_size (show h.get? a=some _ from x)
 |met f y=>exact Heap.lt_size (show h.get? a=some _ from x)
 |ext φ=>obtain⟨_,⟨_,e⟩,_⟩:=x;exact Heap.lt_size e
theorem Paired.mapP:∀{l₁:List α} {l₂:List β},Paired F l₁ l₂->(∀a b,F a b->G a b)->Paired G l₁ l₂
 |_,_,.nil,_=>.nil
 |_,_,.cons r t,f=>.cons (f _ _ r) (Paired.mapP t f)
theorem ObjOk.stay(x:ObjOk P w H h a o)(k:∀b u,(b=a∨H b=some (.own a))->h.get? b=some u->h'.get? b=some u)
  (ho:∀b,H b=some (.own a)->H' b=some (.own a)) (ht:∀b xs,H b=some (.tup xs)->H' b=some (.tup xs)):ObjOk P w H' h' a o:=by
 induction o with
 |lst xs=>obtain⟨z,its,n,r,e⟩:=x;exact⟨z,its,n,r,k _ _ (.inl rfl) e⟩
 |tup xs=>obtain⟨z,its,r,ob,e,c⟩:=x;exact⟨z,its,r,ob,k _ _ (.inl rfl) e,c⟩
 |dK kvs=>obtain⟨z,y,vs,r,ob,es,ep,e,c⟩:=x;exact⟨z,y,vs,r,ob,es,ep,k _ _ (.inl rfl) e,c⟩
 |dT kvs=>
  obtain⟨z,y,xs,r,ob,es,ep,e,c⟩:=x;exact⟨z,y,xs,Paired.mapP r λp q z=>⟨z.1,ht _ _ z.2.1,z.2.2⟩,ob,es,ep,k _ _ (.inl rfl) e,c⟩
 |set S n=>obtain⟨ob,es,ep,t,e,c⟩:=x;exact⟨ob,es,ep,t,k _ _ (.inl rfl) e,c⟩
 |ins C dx fs=>
  obtain⟨d,z,ne,e,mA,⟨od,es,ep,e2,c⟩,r⟩:=x;exact⟨ho _ d,z,ne,k _ _ (.inl rfl) e,mA,⟨od,es,ep,k _ _ (.inr d) e2,c⟩,r⟩
 |own y=>obtain⟨ob,e⟩:=x;exact⟨ob,k _ _ (.inl rfl) e⟩
 |xd fs=>obtain⟨mA,⟨od,es,ep,e,c⟩,r⟩:=x;exact⟨mA,⟨od,es,ep,k _ _ (.inl rfl) e,c⟩,r⟩
 |rng lo hi=>obtain⟨t,u,v,e⟩:=x;exact⟨t,u,v,k _ _ (.inl rfl) e⟩
 |frz ob u ih=>obtain⟨e,q⟩:=x;exact⟨k _ _ (.inl rfl) e,ih q⟩
 |tbl ps=>
  have e:h.get? a=some { cls:=.none,data:=.fields ps }:=x;show h'.get? a=some { cls:=.none,data:=.fields ps };exact k a _ (.inl rfl) e
 |met f y=>
  have e:h.get? a=some (PySem.W.methodObj (.ref f) (.ref y)):=x;show h'.get? a=some (PySem.W.methodObj (.ref f) (.ref y));exact k a _ (.inl rfl) e
 |ext φ=>obtain⟨p,⟨o,e⟩,st⟩:=x;exact⟨st _ _ p λo q=>k _ _ (.inl rfl) q,⟨o,k _ _ (.inl rfl) e⟩,st⟩
theorem HOk.lt(x:HOk P w H h)(e:H a=some o):a<h.objs.size:=(x a o e).lt
theorem HOk.fresh(x:HOk P w H h)(e:h.objs.size<=a):H a=none:=by
 cases q:H a with
 |none=>rfl
 |some u=>exact absurd (AAM (x.lt q) e) (AAv _)
theorem HOk.kept(x:HOk P w H h)(k:∀b u,h.get? b=some u->h'.get? b=some u):HOk P w H h':=λa o e=>
 (x a o e).stay (λb u _ q=>k b u q) (λ_ q=>q) λ_ _ q=>q
theorem HOk.laid(x:HOk P w H h)(k:∀b u,h.get? b=some u->h'.get? b=some u)(hp:h.objs.size<=a)(new:ObjOk P w (upd H a o) h' a o):HOk P w (upd H a o) h':=λb u e=>by
 have hn:=x.fresh hp;by_cases hb:b=a
 ·subst hb;rw[B2] at e;cases e;exact new
 ·rw[BN hb] at e;exact(x b u e).stay (λc v _ q=>k c v q) (λc q=>by rw[BN (DM q hn)];exact q) λc xs q=>by rw[BN (DM q hn)];exact q
end
def Rd(H:Hp)(a:Addr)(u:HO):Prop:=H a=some u∨∃o,H a=some (.frz o u)
theorem Rd.ok(r:Rd H a u)(x:HOk P w H h):ObjOk P w H h a u:=by
 rcases r with r|⟨o,r⟩
 ·exact x a u r
 ·obtain⟨_,q⟩:=x a _ r;exact q
noncomputable def Mut:Option HO->Prop
 |some (.lst _)=>True
 |some (.dK _)=>True
 |some (.dT _)=>True
 |some (.set _ _)=>True
 |some (.ins _ _ _)=>True
 |some (.ext _)=>True
 |_=>False
section
variable{P:Program}{w:World}{H:Hp}{h h':Heap}{x e:Addr}{o':HO}
theorem HOk.write(ok:HOk P w H h)(mu:Mut (H x))(he:e=x∨H e=some (.own x))(k:∀b u,b≠e->h.get? b=some u->h'.get? b=some u)(heo:∃u,h'.get? e=some u)
  (new:ObjOk P w (upd H x o') h' x o'):HOk P w (upd H x o') h':=λb u q=>by
 have nown:∀c y,H c=some (.own y)->c≠x:=λc y r z=>by subst z;rw[r] at mu;exact mu
 have ntup:∀c xs,H c=some (.tup xs)->c≠x:=λc xs r z=>by subst z;rw[r] at mu;exact mu
 by_cases hb:b=x
 ·subst hb;rw[B2] at q;cases q;exact new
 ·rw[BN hb] at q;by_cases hbe:b=e
  ·have q':H b=some (.own x):=by
    rcases he with z|z
    ·exact absurd (hbe.trans z) hb
    ·rw[hbe];exact z
   rw[q] at q';cases q';obtain⟨v,hv⟩:=heo;exact⟨v,by rw[hbe];exact hv⟩
  ·refine(ok b u q).stay (λc v hc r=>k c v ?_ r) (λc r=>by rw[BN (nown c b r)];exact r) λc xs r=>by rw[BN (ntup c xs r)];exact r
   rcases hc with rfl|hc
   ·exact hbe
   ·rintro rfl;rcases he with z|z
    ·exact nown c b hc z
    ·rw[hc] at z;cases z;exact hb rfl
end
structure Un(fs ex:List Addr)(H H':Hp)(h h':Heap):Prop where
 keep:∀b o,h.get? b=some o->H b=none->b∉fs->b∉ex->h'.get? b=some o
 slot:∀b o,h.get? b=some o->H b=none->b∈fs->b∉ex->∃sl,h'.get? b=some { o with slots:=sl }
 free:∀b o,h.get? b=some o->H b=none->b∉ex->H' b=none
 there:∀b o,h.get? b=some o->b∉ex->∃o',h'.get? b=some o'
 tups:∀b xs,H b=some (.tup xs)->H' b=some (.tup xs)
 frzs:∀b o u,H b=some (.frz o u)->H' b=some (.frz o u)
 tbls:∀b ps,H b=some (.tbl ps)->∃more,H' b=some (.tbl (ps++more))
section
variable{fs ex:List Addr}{H H1:Hp}{h h1 h':Heap}{a x e:Addr}{o:HO}
theorem Un.any(u:Un fs ex H H1 h h1)(q:h.get? b=some ob)(n:H b=none)(hx:b∉ex):∃sl,h1.get? b=some { ob with slots:=sl }:=by
 by_cases hb:b∈fs
 ·exact u.slot b ob q n hb hx
 ·exact⟨ob.slots,u.keep b ob q n hb hx⟩
theorem Un.kept(k:∀b u,h.get? b=some u->h'.get? b=some u):Un fs ex H H h h':=
 ⟨λb ob q _ _ _=>k b ob q,λb ob q _ _ _=>⟨ob.slots,k b ob q⟩,λ_ _ _ n _=>n,λb ob q _=>⟨ob,k b ob q⟩,λ_ _ q=>q,λ_ _ _ q=>q,λ_ ps q=>⟨#[],by rw[q];simp⟩⟩
theorem Un.refl:Un fs ex H H h h:=Un.kept λ_ _ q=>q
theorem Un.laid(k:∀b u,h.get? b=some u->h'.get? b=some u)(hp:h.objs.size<=a)(hn:H a=none):Un fs ex H (upd H a o) h h' where
 keep:=λb u q _ _ _=>k b u q
 slot:=λb u q _ _ _=>⟨u.slots,k b u q⟩
 free:=λb u q n _=>by rw[BN (AAc (AAM (Heap.lt_size q) hp))];exact n
 there:=λb u q _=>⟨u,k b u q⟩
 tups:=λb xs q=>by rw[BN (DM q hn)];exact q
 frzs:=λb u xs q=>by rw[BN (DM q hn)];exact q
 tbls:=λb ps q=>⟨#[],by rw[BN (DM q hn),q];simp⟩
theorem Un.write(mu:Mut (H x))(he:e=x∨H e=some (.own x))(k:∀b u,b≠e->h.get? b=some u->h'.get? b=some u)(heo:∃u,h'.get? e=some u):Un fs ex H (upd H x o) h h':=by
 have hx:∀b,H b=none->b≠x:=λb n z=>by subst z;rw[n] at mu;exact mu
 have hb:∀b,H b=none->b≠e:=λb n z=>by
  subst z;rcases he with r|r
  ·exact hx b n r
  ·rw[n] at r;cases r
 have hm:∀b u,H b=some u->¬Mut (some u)->b≠x:=λb u q nm z=>by subst z;rw[q] at mu;exact nm mu
 refine⟨λb u q n _ _=>k b u (hb b n) q,λb u q n _ _=>⟨u.slots,k b u (hb b n) q⟩,λb u q n _=>by rw[BN (hx b n)];exact n,λb u q _=>?_,
  λb xs q=>by rw[BN (hm b _ q λz=>z)];exact q,λb u xs q=>by rw[BN (hm b _ q λz=>z)];exact q,λb ps q=>⟨#[],by rw[BN (hm b _ q λz=>z),q];simp⟩⟩
 by_cases hbe:b=e
 ·subst hbe;exact heo
 ·exact⟨u,k b u hbe q⟩
end
noncomputable def trk(h:Heap)(H:Hp):List Addr:=(List.range h.objs.size).filter λa=>(H a).isSome
noncomputable def OD(h:Heap)(H:Hp):Heap:=PySem.W.hideAll h (trk h H)
theorem UE(h:Heap)(H:Hp):(OD h H).objs.size=h.objs.size:=PySem.W.hideAll_size _ _
theorem W5(e:h.get? b=some o)(n:H b=none):(OD h H).get? b=some o:=
 PySem.W.hideAll_get _ e λhm=>by
  have q:(H b).isSome=true:=(List.mem_filter.mp hm).2;rw[n] at q;simp at q
theorem Y4(e:(OD h H).get? b=some o):h.get? b=some o/\H b=none:=by
 have e':h.get? b=some o:=PySem.W.of_hideAll (trk h H) e;refine⟨e',?_⟩;cases q:H b with
 |none=>rfl
 |some x=>
  have hm:b∈trk h H:=List.mem_filter.mpr ⟨List.mem_range.mpr (Heap.lt_size e'),by simp[q]⟩;have z:(OD h H).get? b=none:=PySem.W.hideAll_none (trk h H) hm;rw[z] at e;cases e
structure Mod(K:PySem.W.Frag)(mg:Str->Option Value)(base:Heap):Prop where
 kin:K.In base
 glob:base.Ns mainGlobals mg
 blt:∃mb,base.Ns builtinsNs mb/\∀x:Str,x ≠ "__name__" -> mb x=bootBuiltins x
 nolimit:base.NoLimit
set_option genInjectivity false in
structure Cx where
 prog:Program
 w:World
 K:PySem.W.Frag
 mg:Str->Option Value
 base:Heap
 A:Around
 N:List Str
 s₀:Shared
 H₀:Hp
 env:Env
 outer:List Env
 stack:List Env
 ex:List Addr
 fn:Str->Bool
 calm:Bool
 pn:List (Addr×Obj)
 xe:Value->Shared->Prop
noncomputable def frs(l:List Env):List Addr:=l.filterMap (·.frame)
noncomputable abbrev Cx.fs(X:Cx):List Addr:=frs X.outer
def Vis(sc:Scope)(x:Str):Prop:=sc.names.lookup x=some .local∨sc.names.lookup x=some .cell∨sc.names.lookup x=some .free
def Loc(sc:Scope)(x:Str):Prop:=sc.names.lookup x=some .local∨sc.names.lookup x=some .cell
def iC(env:Env)(h:Heap)(m:Str->Option Value)(x:Str)(u:Value):Prop:=
 (env.kindOf x=some .local/\m x=some u)∨((env.kindOf x=some .cell∨env.kindOf x=some .free)/\∃c,env.cells.lookup x=some c/\h.IsCell c (some u))
structure Cx.Ok(X:Cx):Prop where
 mod:Mod X.K X.mg X.base
 kind:X.env.scope.kind=.function
 glob:X.env.globals=mainGlobals
 blt:X.env.builtins=builtinsNs
 above:X.s₀.heap.objs.size<=X.env.locals
 inj:∀x y c,X.env.cells.lookup x=some c->X.env.cells.lookup y=some c->x=y
 has:∀x,(X.env.kindOf x=some .cell∨X.env.kindOf x=some .free)->∃c,X.env.cells.lookup x=some c
 cab:∀x c,X.fn x=true->X.env.cells.lookup x=some c->X.s₀.heap.objs.size<=c
 hd:X.calm=true->X.A.handled=none
 frames:X.A.frames=some X.stack
 stk:X.stack=X.outer∨(X.stack=X.env::X.outer/\X.env.frame=some X.env.locals)
 exf:∀b∈X.ex,b≠X.env.locals/\∀x c,X.env.cells.lookup x=some c->c≠b
 bs:∀b o,X.base.get? b=some o->X.s₀.heap.get? b=some o/\X.H₀ b=none
 bsz:X.base.objs.size<=X.s₀.heap.objs.size
 noex:∀b o,X.base.get? b=some o->b∉X.ex
 exfs:∀b∈X.ex,b∉X.fs
 funs:X.s₀.heap.FunFrames X.base X.outer
 frf:∀b∈X.fs,X.H₀ b=none
structure Inv(X:Cx)(w6:List (Addr×Obj))(O:List (Option V))(H:Hp)(s:Shared):Prop where
 ok:X.Ok
 os:s.os=X.s₀.os
 bare:AllBare s.gens
 base:Un X.fs X.ex X.H₀ H X.s₀.heap s.heap
 loc:∃m,s.heap.Ns X.env.locals m/\∀(i:Nat) (x:Str) (v:V),X.N[i]?=some x->O[i]?=some (some v)->Vis X.env.scope x->∃u,RelV v u/\iC X.env s.heap m x u
 cell:∀x c,X.env.cells.lookup x=some c->∃v,s.heap.IsCell c v
 free:H X.env.locals=none
 freeC:∀x c,X.env.cells.lookup x=some c->H c=none
 pin:∀p∈X.pn++w6,s.heap.get? p.1=some p.2/\H p.1=none/\p.1≠X.env.locals/\p.1∉X.fs/\∀v,p.2.data≠.cell v
 hok:HOk X.prog X.w H s.heap
 len:O.length=X.N.length
section
variable{X:Cx}{w6:List (Addr×Obj)}{O:List (Option V)}{H H':Hp}{s:Shared}{h':Heap}
theorem Cx.Ok.nofr(ok:X.Ok)(e:X.base.get? b=some o):b∉X.fs:=λhb=>by
 have:=(ok.funs.mem hb).1;rw[e] at this;cases this
theorem Inv.bs(I:Inv X w6 O H s):∀b o,X.base.get? b=some o->s.heap.get? b=some o/\H b=none:=λb o e=>
 ⟨I.base.keep b o (I.ok.bs b o e).1 (I.ok.bs b o e).2 (I.ok.nofr e) (I.ok.noex b o e),I.base.free b o (I.ok.bs b o e).1 (I.ok.bs b o e).2 (I.ok.noex b o e)⟩
theorem Inv.bk(I:Inv X w6 O H s):∀b o,X.base.get? b=some o->s.heap.get? b=some o:=λb o e=>(I.bs b o e).1
theorem Inv.mod(I:Inv X w6 O H s):Mod X.K X.mg X.base:=I.ok.mod
theorem Inv.kIn(I:Inv X w6 O H s):X.K.In s.heap:=I.ok.mod.kin.keeps I.bk
theorem Inv.lt(I:Inv X w6 O H s):X.env.locals<s.heap.objs.size:=let ⟨_,hn,_⟩:=I.loc;hn.lt
theorem Inv.sz(I:Inv X w6 O H s):X.s₀.heap.objs.size<=s.heap.objs.size:=AAq I.ok.above (Nat.le_of_lt I.lt)
theorem Inv.nofs(I:Inv X w6 O H s)(h:s.heap.objs.size<=a):a∉X.fs:=λhb=>by
 obtain⟨_,o,ho,_⟩:=I.ok.funs.mem hb;exact absurd (AAM (Heap.lt_size ho) (AAq I.sz h)) (AAv _)
theorem Inv.cne(I:Inv X w6 O H s):∀x c,X.env.cells.lookup x=some c->c≠X.env.locals:=λx c e z=>by
 obtain⟨v,o,ho,hd⟩:=I.cell x c e;obtain⟨m,⟨o',es,ep,ho',hd',_⟩,_⟩:=I.loc;rw[z,ho'] at ho;cases ho;rw[hd'] at hd;cases hd
theorem Inv.funs(I:Inv X w6 O H s):s.heap.FunFrames X.base X.outer:=by
 have all:∀(l:List Env),(∀b∈frs l,b∈X.fs)->X.s₀.heap.FunFrames X.base l->s.heap.FunFrames X.base l:=by
  intro l
  induction l with
  |nil=>intro _ _;trivial
  |cons env r ih=>
   intro hs hl;obtain⟨hk,⟨L,o,hf,hn,ho,hd⟩,hr⟩:=hl;have hL:L∈X.fs:=hs L (by unfold frs;rw[List.filterMap_cons,hf];exact AAP);obtain⟨sl,e⟩:=I.base.slot L o ho (I.ok.frf L hL) hL λz=>I.ok.exfs L z hL;exact⟨hk,⟨L,_,hf,hn,e,hd⟩,ih (λb hb=>hs b (by unfold frs;rw[List.filterMap_cons,hf];exact AAQ _ hb)) hr⟩
 exact all X.outer (λ_ hb=>hb) I.ok.funs
theorem Inv.stack(I:Inv X w6 O H s):s.heap.FunFrames X.base X.stack:=by
 rcases I.ok.stk with e|⟨e,hf⟩
 ·rw[e];exact I.funs
 ·rw[e];obtain⟨m,hn,_⟩:=I.loc;refine .cons (by rw[I.ok.kind];decide) hf hn ?_ I.funs;exact Heap.get?_none_of_le (AAq I.ok.bsz I.ok.above)
theorem Inv.stkSub(I:Inv X w6 O H s):∀b∈frs X.stack,b∈X.env.locals::X.fs:=λb hb=>by
 rcases I.ok.stk with e|⟨e,hf⟩
 ·rw[e] at hb;exact AAQ _ hb
 ·rw[e] at hb;unfold frs at hb;rw[List.filterMap_cons,hf] at hb;exact hb
theorem Inv.stkFree(I:Inv X w6 O H s):∀b∈frs X.stack,H b=none:=λb hb=>by
 rcases AAI.mp (I.stkSub b hb) with e|hb
 ·rw[e];exact I.free
 ·obtain⟨_,o,ho,_⟩:=I.ok.funs.mem hb;exact I.base.free b o ho (I.ok.frf b hb) λz=>I.ok.exfs b z hb
theorem Inv.step{g':Array GenState}{t':Nat}{ch:List Addr}(I:Inv X w6 O H s)
  (hch:∀b∈ch,(b∈X.ex∨X.s₀.heap.objs.size<=b)/\b≠X.env.locals/\(∀x c,X.env.cells.lookup x=some c->c≠b)/\∀p∈X.pn++w6,p.1≠b)
  (keep:∀b o,b≠X.env.locals->b∉X.fs->b∉ch->s.heap.get? b=some o->H b=none->h'.get? b=some o)
  (slot:∀b o,b≠X.env.locals->b∈X.fs->b∉ch->s.heap.get? b=some o->H b=none->∃sl,h'.get? b=some { o with slots:=sl }) (free:∀b o,b∉ch->s.heap.get? b=some o->H b=none->H' b=none)
  (there:∀b o,b∉ch->s.heap.get? b=some o->∃o',h'.get? b=some o')
  (tups:∀b xs,H b=some (.tup xs)->H' b=some (.tup xs)) (frzs:∀b o u,H b=some (.frz o u)->H' b=some (.frz o u)) (tbls:∀b ps,H b=some (.tbl ps)->∃more,H' b=some (.tbl (ps++more)))
  (ns:∀m,s.heap.Ns X.env.locals m->h'.Ns X.env.locals m) (hok:HOk X.prog X.w H' h') (hg:AllBare g') :
  Inv X w6 O H' { s with heap:=h',gens:=g',drawn:=d',toks:=t' }:=by
 have neL:∀b o,X.s₀.heap.get? b=some o->b≠X.env.locals:=λb o e=>AAc (AAM (Heap.lt_size e) I.ok.above);have neC:∀b o,X.s₀.heap.get? b=some o->b∉X.ex->b∉ch:=λb o e hx hb=>by
  rcases(hch b hb).1 with z|z
  ·exact hx z
  ·exact absurd (AAM (Heap.lt_size e) z) (AAv _)
 have cellK:∀x c,X.env.cells.lookup x=some c->∀v,s.heap.IsCell c v->h'.IsCell c v:=λx c e v ⟨o,ho,hd⟩=>by
  have nch:c∉ch:=λz=>(hch c z).2.2.1 x c e rfl;by_cases hc:c∈X.fs
  ·obtain⟨sl,q⟩:=slot c o (I.cne x c e) hc nch ho (I.freeC x c e);exact⟨_,q,hd⟩
  ·exact⟨o,keep c o (I.cne x c e) hc nch ho (I.freeC x c e),hd⟩
 refine⟨I.ok,I.os,hg,⟨λb o e n hb hx=>?_,λb o e n hb hx=>?_,λb o e n hx=>?_,λb o e hx=>?_,λb xs e=>tups b xs (I.base.tups b xs e),λb o xs e=>frzs b o xs (I.base.frzs b o xs e),λb ps e=>?_⟩,?_,λx c e=>?_,?_,λx c e=>?_,λp hp=>?_,hok,I.len⟩
 ·exact keep b o (neL b o e) hb (neC b o e hx) (I.base.keep b o e n hb hx) (I.base.free b o e n hx)
 ·obtain⟨sl,e1⟩:=I.base.slot b o e n hb hx;obtain⟨sl',e2⟩:=slot b _ (neL b o e) hb (neC b o e hx) e1 (I.base.free b o e n hx);exact⟨sl',e2⟩
 ·obtain⟨o',e1⟩:=I.base.there b o e hx;exact free b o' (neC b o e hx) e1 (I.base.free b o e n hx)
 ·obtain⟨o',e1⟩:=I.base.there b o e hx;exact there b o' (neC b o e hx) e1
 ·obtain⟨m1,e1⟩:=I.base.tbls b ps e;obtain⟨m2,e2⟩:=tbls b _ e1;exact⟨m1++m2,by rw[e2,Array.append_assoc]⟩
 ·obtain⟨m,hn,hl⟩:=I.loc;refine⟨m,ns m hn,λi x v e1 e2 e3=>?_⟩;obtain⟨u,r,l⟩:=hl i x v e1 e2 e3;refine⟨u,r,?_⟩;rcases l with l|⟨k,c,e,z⟩
  ·exact .inl l
  ·exact .inr ⟨k,c,e,cellK x c e _ z⟩
 ·obtain⟨v,z⟩:=I.cell x c e;exact⟨v,cellK x c e v z⟩
 ·obtain⟨m,⟨o,_,_,ho,_⟩,_⟩:=I.loc;exact free _ o (λz=>(hch _ z).2.1 rfl) ho I.free
 ·obtain⟨v,o,ho,hd⟩:=I.cell x c e;exact free c o (λz=>(hch c z).2.2.1 x c e rfl) ho (I.freeC x c e)
 ·obtain⟨e,n,ne,nf,d⟩:=I.pin p hp;have nch:p.1∉ch:=λz=>(hch p.1 z).2.2.2 p hp rfl;exact⟨keep p.1 p.2 ne nf nch e n,free p.1 p.2 nch e n,ne,nf,d⟩
theorem Inv.un{t':Nat}(I:Inv X w6 O H s)(u:Un X.fs [] H H' s.heap h')(hok:HOk X.prog X.w H' h'):Inv X w6 O H' { s with heap:=h',toks:=t' }:=by
 obtain⟨m,⟨o,es,ep,ho,r⟩,_⟩:=id I.loc;obtain⟨sl,hL⟩:=u.any ho I.free (by simp);exact I.step (g':=s.gens) (d':=s.drawn) (ch:=[]) (λ_ z=>nomatch z) (λb o _ hb _ e n=>u.keep b o e n hb (by simp)) (λb o _ hb _ e n=>u.slot b o e n hb (by simp)) (λb o _ e n=>u.free b o e n (by simp)) (λb o _ e=>u.there b o e (by simp)) u.tups u.frzs u.tbls (λm' hm=>by
  obtain⟨o',es',ep',ho',r'⟩:=hm;rw[ho] at ho';cases ho';exact⟨_,es',ep',hL,r'⟩) hok I.bare
theorem Inv.call{g':Array GenState}{t':Nat}{ch:List Addr}(I:Inv X w6 O H s)(u:Un (frs X.stack) ch H H' s.heap h')(hok:HOk X.prog X.w H' h')(hg:AllBare g')
  (hch:∀b∈ch,(b∈X.ex∨X.s₀.heap.objs.size<=b)/\b≠X.env.locals/\(∀x c,X.env.cells.lookup x=some c->c≠b)/\∀p∈X.pn++w6,p.1≠b) :
  Inv X w6 O H' { s with heap:=h',gens:=g',drawn:=d',toks:=t' }:=by
 obtain⟨m,⟨o,es,ep,ho,r⟩,_⟩:=id I.loc;obtain⟨sl,hL⟩:=u.any ho I.free λz=>(hch _ z).2.1 rfl;exact I.step (ch:=ch) hch (λb o hL hb hc e n=>u.keep b o e n (λz=>(AAI.mp (I.stkSub b z)).elim hL hb) hc) (λb o _ _ hc e n=>u.any e n hc) (λb o hc e n=>u.free b o e n hc) (λb o hc e=>u.there b o e hc) u.tups u.frzs u.tbls (λm' hm=>by
  obtain⟨o',es',ep',ho',r'⟩:=hm;rw[ho] at ho';cases ho';exact⟨_,es',ep',hL,r'⟩) hok hg
theorem Inv.turned{t':Nat}{it:Addr}(I:Inv X w6 O H s)(k:∀b o,b≠it->s.heap.get? b=some o->h'.get? b=some o)(hn:H it=none)(hL:it≠X.env.locals)
  (h1:it∈X.ex∨X.s₀.heap.objs.size<=it) (h2:∀x c,X.env.cells.lookup x=some c->c≠it) (h3:∀p∈X.pn++w6,p.1≠it):Inv X w6 O H { s with heap:=h',toks:=t' }:=by
 have nit:∀b u,H b=some u->b≠it:=λb u e z=>by rw[z,hn] at e;cases e
 refine I.step (g':=s.gens) (d':=s.drawn) (ch:=[it]) (λb hb=>?_) (λb o _ _ hc e _=>k b o (λz=>hc (by simp[z])) e) (λb o _ _ hc e _=>⟨o.slots,k b o (λz=>hc (by simp[z])) e⟩) (λ_ _ _ _ n=>n)
  (λb o hc e=>⟨o,k b o (λz=>hc (by simp[z])) e⟩) (λ_ _ e=>e) (λ_ _ _ e=>e) (λb ps e=>⟨#[],by rw[e];simp⟩) (λm hm=>?_) (λb u e=>?_) I.bare
 ·have e:b=it:=by simpa using hb
  subst e;exact⟨h1,hL,h2,h3⟩
 ·obtain⟨o,es,ep,ho,r⟩:=hm;exact⟨o,es,ep,k _ o (Ne.symm hL) ho,r⟩
 ·refine(I.hok b u e).stay (λc v hc q=>k c v ?_ q) (λ_ q=>q) λ_ _ q=>q;rcases hc with z|z
  ·rw[z];exact nit b u e
  ·exact nit c _ z
theorem Inv.tok(I:Inv X w6 O H s)(t:Nat):Inv X w6 O H { s with toks:=t }:=I.un (h':=s.heap) (t':=t) Un.refl I.hok
theorem Inv.kept(I:Inv X w6 O H s)(k:∀b u,s.heap.get? b=some u->h'.get? b=some u):Inv X w6 O H { s with heap:=h',toks:=t' }:=I.un (Un.kept k) (I.hok.kept k)
theorem Inv.laid(I:Inv X w6 O H s)(k:∀b u,s.heap.get? b=some u->h'.get? b=some u)(hp:s.heap.objs.size<=a)(new:ObjOk X.prog X.w (upd H a o) h' a o):
  Inv X w6 O (upd H a o) { s with heap:=h',toks:=t' }:=I.un (Un.laid k hp (I.hok.fresh hp)) (I.hok.laid k hp new)
theorem Inv.write(I:Inv X w6 O H s)(mu:Mut (H x))(he:e=x∨H e=some (.own x))(k:∀b u,b≠e->s.heap.get? b=some u->h'.get? b=some u)(heo:∃u,h'.get? e=some u)
  (new:ObjOk X.prog X.w (upd H x o) h' x o):Inv X w6 O (upd H x o) { s with heap:=h',toks:=t' }:=I.un (Un.write mu he k heo) (I.hok.write mu he k heo new)
theorem Inv.weak(I:Inv X w6 O H s)(hl:v5.length=O.length)(w:∀(i:Nat) v,v5[i]?=some (some v)->O[i]?=some (some v)):Inv X w6 v5 H s:=
 ⟨I.ok,I.os,I.bare,I.base,let ⟨m,hn,hl'⟩:=I.loc;⟨m,hn,λi x v e1 e2 e3=>hl' i x v e1 (w i v e2) e3⟩,I.cell,I.free,I.freeC,I.pin,I.hok,hl.trans I.len⟩
theorem Inv.pins_of(I:Inv X w6 O H s)(h:∀p∈pins',s.heap.get? p.1=some p.2/\H p.1=none/\p.1≠X.env.locals/\p.1∉X.fs/\∀v,p.2.data≠.cell v):Inv X pins' O H s:=
 ⟨I.ok,I.os,I.bare,I.base,I.loc,I.cell,I.free,I.freeC,λp hp=>(AAJ.mp hp).elim (λz=>I.pin p (AAa _ z)) (h p),I.hok,I.len⟩
theorem PM{N:List Str}(hN:N.Nodup){i j:Nat}{x:Str}(a:N[i]?=some x)(b:N[j]?=some x):i=j:=by
 obtain⟨h1,e1⟩:=AAT.mp a;obtain⟨h2,e2⟩:=AAT.mp b;exact(List.getElem_inj hN).mp (e1.trans e2.symm)
theorem MW{M:Model}{A:Around}{E:Value->Shared->Prop}{i:Nat}{x:Str}{u:Value}{Q:Unit->Shared->Prop}(I:Inv X w6 O H s)(hN:X.N.Nodup)(hi:X.N[i]?=some x)(hx:Loc X.env.scope x)(r:RelV v u)
  (h:∀s',Inv X w6 (O.set i (some v)) H s'->(∃a,Heap.SameBut a s.heap s'.heap/\(a=X.env.locals∨X.env.cells.lookup x=some a))->Q () s') (hf:X.fn x=true∨X.env.scope.names.lookup x=some .local:=by first|exact .inl rfl|exact .inr rfl|assumption):wpAny M A (storeName X.env x u) Q E s:=by
 obtain⟨m,hn,hl⟩:=id I.loc;have hcls:(X.env.scope.kind==.class||(X.env.scope.kind==.module&&X.env.locals != X.env.globals))=false:=by rw[I.ok.kind];rfl
 have hiσ:i<O.length:=by rw[I.len];exact(AAT.mp hi).1
 have cne:=I.cne;have tracked:∀{a:Addr} {h':Heap},(∃o,s.heap.get? a=some o/\H a=none)->Heap.SameBut a s.heap h'->HOk X.prog X.w H h':=λ{a h'} ha hs b ob e=>by
  obtain⟨_,_,hfree⟩:=ha;refine(I.hok b ob e).stay (λc w' hc q=>(hs.2 c ?_).trans q) (λ_ q=>q) λ_ _ q=>q;rintro rfl;rcases hc with rfl|hc
  ·rw[hfree] at e;cases e
  ·rw[hfree] at hc;cases hc
 rcases hx with hk|hk
 ·refine wpAny_storeName_local hk hn (λh' hn' hs=>?_) hcls;obtain⟨oL,_,_,hoL,_⟩:=id hn;refine h _ ⟨I.ok,I.os,I.bare,⟨λb o e n hb hx=>?_,λb o e n hb hx=>?_,I.base.free,λb o e hx=>?_,I.base.tups,I.base.frzs,I.base.tbls⟩,⟨_,hn',λj y v' e1 e2 e3=>?_⟩,λy c e=>?_,I.free,I.freeC,λp hp=>?_,tracked ⟨oL,hoL,I.free⟩ hs,by simpa using I.len⟩ ⟨_,hs,.inl rfl⟩
  ·exact(hs.2 b (AAc (AAM (Heap.lt_size e) I.ok.above))).trans (I.base.keep b o e n hb hx)
  ·obtain⟨sl,e1⟩:=I.base.slot b o e n hb hx;exact⟨sl,(hs.2 b (AAc (AAM (Heap.lt_size e) I.ok.above))).trans e1⟩
  ·obtain⟨o',e1⟩:=I.base.there b o e hx;exact⟨o',(hs.2 b (AAc (AAM (Heap.lt_size e) I.ok.above))).trans e1⟩
  ·by_cases hj:j=i
   ·subst hj;rw[hi] at e1;cases e1;rw[List.getElem?_set_self hiσ] at e2;cases e2;exact⟨u,r,.inl ⟨hk,by simp⟩⟩
   ·rw[AAm (Ne.symm hj)] at e2;obtain⟨u',r',q⟩:=hl j y v' e1 e2 e3;refine⟨u',r',?_⟩;rcases q with ⟨k,e⟩|⟨k,c,e,z⟩
    ·refine .inl ⟨k,?_⟩;have:y≠x:=λe=>hj (PM hN e1 (e ▸ hi));simp[this,e]
    ·exact .inr ⟨k,c,e,z.sameBut hs (cne y c e)⟩
  ·obtain⟨w',z⟩:=I.cell y c e;exact⟨w',z.sameBut hs (cne y c e)⟩
  ·obtain⟨e,n,ne,nf,d⟩:=I.pin p hp;exact⟨(hs.2 p.1 ne).trans e,n,ne,nf,d⟩
 ·have hfn:X.fn x=true:=by
   rcases hf with z|z
   ·exact z
   ·rw[z] at hk;cases hk
  obtain⟨c,hc⟩:=I.ok.has x (.inl hk);obtain⟨w',z⟩:=I.cell x c hc;refine wpAny_storeName_cell I.ok.kind hk hc z (λh' hc' hs=>?_);obtain⟨oc,hoc,hocd⟩:=id z;refine h { s with heap:=h' } ⟨I.ok,I.os,I.bare,⟨λb o e n hb hx=>?_,λb o e n hb hx=>?_,I.base.free,λb o e hx=>?_,I.base.tups,I.base.frzs,I.base.tbls⟩,⟨m,hn.sameBut hs (Ne.symm (cne x c hc)),λj y v' e1 e2 e3=>?_⟩,λy c' e=>?_,I.free,I.freeC,λp hp=>?_,tracked ⟨oc,hoc,I.freeC x c hc⟩ hs,by simpa using I.len⟩ ⟨c,hs,.inr hc⟩
  ·exact(hs.2 b (AAc (AAM (Heap.lt_size e) (I.ok.cab x c hfn hc)))).trans (I.base.keep b o e n hb hx)
  ·obtain⟨sl,e1⟩:=I.base.slot b o e n hb hx;exact⟨sl,(hs.2 b (AAc (AAM (Heap.lt_size e) (I.ok.cab x c hfn hc)))).trans e1⟩
  ·obtain⟨o',e1⟩:=I.base.there b o e hx;exact⟨o',(hs.2 b (AAc (AAM (Heap.lt_size e) (I.ok.cab x c hfn hc)))).trans e1⟩
  ·by_cases hj:j=i
   ·subst hj;rw[hi] at e1;cases e1;rw[List.getElem?_set_self hiσ] at e2;cases e2;exact⟨u,r,.inr ⟨.inl hk,c,hc,hc'⟩⟩
   ·rw[AAm (Ne.symm hj)] at e2;obtain⟨u',r',q⟩:=hl j y v' e1 e2 e3;refine⟨u',r',?_⟩;rcases q with q|⟨k,c',e,z'⟩
    ·exact .inl q
    ·refine .inr ⟨k,c',e,z'.sameBut hs ?_⟩;rintro rfl;exact hj (PM hN e1 (I.ok.inj _ _ _ e hc ▸ hi))
  ·by_cases hcc:c'=c
   ·subst hcc;exact⟨_,hc'⟩
   ·obtain⟨w2,z2⟩:=I.cell y c' e;exact⟨w2,z2.sameBut hs hcc⟩
  ·obtain⟨e,n,ne,nf,d⟩:=I.pin p hp;refine⟨(hs.2 p.1 ?_).trans e,n,ne,nf,d⟩;intro q;rw[q,hoc] at e;have q':oc=p.2:=Option.some.inj e;exact d w' (by rw[←q'];exact hocd)
theorem Oz(I:Inv X w6 O H s)(hN:X.N.Nodup)(hi:X.N[i]?=some x)(hx:Loc X.env.scope x)(r:RelV v u)
  (h:∀s',Inv X w6 (O.set i (some v)) H s'->Q () s') (hf:X.fn x=true∨X.env.scope.names.lookup x=some .local:=by first|exact .inl rfl|exact .inr rfl|assumption):wpAny M A (storeName X.env x u) Q E s:=
 MW I hN hi hx r (λs' I' _=>h s' I') hf
theorem Inv.call'(I:Inv X w6 O H s)(ho:s'.os=s.os)(u:Un (frs X.stack) ch H H' s.heap s'.heap)(hok:HOk X.prog X.w H' s'.heap)(hg:AllBare s'.gens)
  (hch:∀b∈ch,(b∈X.ex∨X.s₀.heap.objs.size<=b)/\b≠X.env.locals/\(∀x c,X.env.cells.lookup x=some c->c≠b)/\∀p∈X.pn++w6,p.1≠b):Inv X w6 O H' s':=by
 obtain⟨h',g',d',t',o'⟩:=s';have e:o'=s.os:=ho;subst e;exact I.call (g':=g') (t':=t') (d':=d') u hok hg hch
end
noncomputable abbrev XK:=Value->Option Addr->Hp->Prop
noncomputable abbrev St:=List (Option V)
noncomputable abbrev VK:=V->Hp->Prop
noncomputable abbrev TE:=St->Hp->VK->Prop
noncomputable abbrev TT:=St->Hp->(Bool->Hp->Prop)->Prop
noncomputable abbrev TA:=St->Hp->(List V->Hp->Prop)->Prop
set_option genInjectivity false in
structure Xj where
 nx:St->Hp->Prop
 rt:VK
 bk:St->Hp->Prop:=λ_ _=>False
 ct:St->Hp->Prop:=λ_ _=>False
noncomputable abbrev TS:=Xj->St->Hp->Prop
def EP(X:Cx)(w6:List (Addr×Obj))(O:St)(Q:VK)(u:Value)(s':Shared):Prop:=∃v H',Inv X w6 O H' s'/\RelV v u/\Q v H'
def TP(X:Cx)(w6:List (Addr×Obj))(O:St)(Q:Bool->Hp->Prop)(b:Bool)(s':Shared):Prop:=∃H',Inv X w6 O H' s'/\Q b H'
def AP(X:Cx)(w6:List (Addr×Obj))(O:St)(Q:List V->Hp->Prop)(us:List Value)(s':Shared):Prop:=∃vs H',Inv X w6 O H' s'/\Vals vs us/\Q vs H'
def SP(X:Cx)(w6:List (Addr×Obj))(D:Xj)(f:Flow)(s':Shared):Prop:=
 match f with
 | .next=>∃v5 H',Inv X w6 v5 H' s'/\D.nx v5 H'
 | .brk=>∃v5 H',Inv X w6 v5 H' s'/\D.bk v5 H'
 | .cont=>∃v5 H',Inv X w6 v5 H' s'/\D.ct v5 H'
 | .ret u=>∃v v5 H',Inv X w6 v5 H' s'/\RelV v u/\D.rt v H'
def PE(X:Cx)(e:Expr)(t:TE):Prop:=
 ∀(w6:List (Addr×Obj)) (s:Shared) (O:St) (H:Hp) (Q:VK),Inv X w6 O H s->t O H Q->wpAny (model X.prog X.w) X.A (eval e X.env) (EP X w6 O Q) X.xe s
def PT(X:Cx)(e:Expr)(t:TT):Prop:=
 ∀(w6:List (Addr×Obj)) (s:Shared) (O:St) (H:Hp) (Q:Bool->Hp->Prop),Inv X w6 O H s->t O H Q->wpAny (model X.prog X.w) X.A (isTrue e X.env (eval e X.env)) (TP X w6 O Q) X.xe s
def PW(X:Cx)(e:Expr)(t:TT):Prop:=
 ∀(whole:Sem Value) (w6:List (Addr×Obj)) (s:Shared) (O:St) (H:Hp) (Q:Bool->Hp->Prop),Inv X w6 O H s->t O H Q->wpAny (model X.prog X.w) X.A (isTrue e X.env whole) (TP X w6 O Q) X.xe s
theorem PW.pt(h:PW X e t):PT X e t:=h _
def PA(X:Cx)(es:List Expr)(t:TA):Prop:=
 ∀(pos:Pos) (w6:List (Addr×Obj)) (s:Shared) (O:St) (H:Hp) (Q:List V->Hp->Prop),Inv X w6 O H s->t O H Q->wpAny (model X.prog X.w) X.A (spliced (backTo pos (starEach es X.env))) (AP X w6 O Q) X.xe s
def PS(X:Cx)(st:Stmt)(t:TS):Prop:=
 ∀(w6:List (Addr×Obj)) (s:Shared) (O:St) (H:Hp) (D:Xj),Inv X w6 O H s->t D O H->wpAny (model X.prog X.w) X.A (exec st X.env) (SP X w6 D) X.xe s
def PSs(X:Cx)(st:List Stmt)(t:TS):Prop:=
 ∀(w6:List (Addr×Obj)) (s:Shared) (O:St) (H:Hp) (D:Xj),Inv X w6 O H s->t D O H->wpAny (model X.prog X.w) X.A (execs st X.env) (SP X w6 D) X.xe s
theorem thn(h:wpAny M A t Q E s)(hQ:∀a s,Q a s->Q' a s):wpAny M A t Q' E s:=AAh h hQ λ_ _ x=>x
section
variable{X:Cx}
noncomputable def gT(i:Nat):TE:=λO H Q=>∃v,O[i]?=some (some v)/\Q v H
noncomputable def tC(v:V):TE:=λ_ H Q=>Q v H
theorem bb(hN:X.N[i]?=some x)(hv:Vis X.env.scope x)(hd:(x==("__debug__" : Str))=false:=by decide)(hcd:(x==("__classdict__" : Str))=false:=by decide):PE X (.Name x pos) (gT i):=by
 intro w6 s O H Q I h;obtain⟨v,e,h⟩:=h;obtain⟨m,hn,hl⟩:=I.loc;obtain⟨u,r,l⟩:=hl i x v hN e hv;have fin:EP X w6 O Q u s:=⟨v,H,I,r,h⟩;rcases l with ⟨hk,hm⟩|⟨hk,c,hc,hcell⟩
 ·exact wpAny_Name (wpAny_loadName_local I.ok.kind hk hn hm fin) hd
 ·rcases hk with hk|hk
  ·exact wpAny_Name (wpAny_loadName_cell I.ok.kind hk hc hcell fin) hd
  ·exact wpAny_Name (wpAny_loadName_free I.ok.kind hk hc hcell fin hcd) hd
theorem bj:PE X (.Constant (.int i) j pos) (tC (.int i)):=λ_ _ _ H _ I h=>wpAny_Constant_int ⟨.int i,H,I.tok _,⟨_,rfl⟩,h⟩
theorem fA:PE X (.Constant (.bool b) j pos) (tC (.bl b)):=λ_ _ _ H _ I h=>Constant_bool ⟨.bl b,H,I,rfl,h⟩
theorem bi:PE X (.Constant .none j pos) (tC .non):=λ_ _ _ H _ I h=>Constant_none ⟨.non,H,I,rfl,h⟩
theorem WM:PE X (.Constant (.str x) j pos) (tC (.str x)):=λ_ _ _ H _ I h=>Calls.Constant_str ⟨.str x,H,I.tok _,⟨_,rfl⟩,h⟩
def Gl(X:Cx)(x:Str):Prop:=X.env.kindOf x=some .globalImplicit
theorem N7(I:Inv X w6 O H s)(hg:Gl X x)(hm:X.mg x=some u)(h:Q u s)
  (hd:(x==("__debug__" : Str))=false:=by decide):wpAny (model X.prog X.w) X.A (eval (.Name x pos) X.env) Q E s:=
 Calls.Name_function_global I.ok.kind hg (Calls.loadGlobal_global (by rw[I.ok.glob];exact I.mod.glob.keeps I.bk) hm h) hd
theorem Gy(I:Inv X w6 O H s)(hg:Gl X x)(hm:X.mg x=none)(hv:bootBuiltins x=some u)(h:Q u s)
  (hn:x ≠ "__name__" := by decide) (hd:(x==("__debug__" : Str))=false:=by decide):wpAny (model X.prog X.w) X.A (eval (.Name x pos) X.env) Q E s:=by
 obtain⟨mb,h1,h2⟩:=I.mod.blt;exact Calls.Name_function_global I.ok.kind hg (Calls.loadGlobal_builtin (by rw[I.ok.glob];exact I.mod.glob.keeps I.bk) hm (by rw[I.ok.blt];exact h1.keeps I.bk) ((h2 x hn).trans hv) h) hd
theorem KK(hg:Gl X x)(hm:X.mg x=some u)(r:RelV v u)(hd:(x==("__debug__" : Str))=false:=by decide):PE X (.Name x pos) (tC v):=
 λ_ _ _ H _ I h=>N7 I hg hm ⟨v,H,I,r,h⟩ hd
theorem Yy(hg:Gl X x)(hm:X.mg x=none)(hv:bootBuiltins x=some u)(r:RelV v u)(hn:x ≠ "__name__" := by decide)(hd:(x==("__debug__" : Str))=false:=by decide):PE X (.Name x pos) (tC v):=
 λ_ _ _ H _ I h=>Gy I hg hm hv ⟨v,H,I,r,h⟩ hn hd
variable{a b:Expr}{ta tb:TE}{pos:Pos}
def PC(X:Cx)(op:CmpOp)(a b:Expr)(t:TE):Prop:=
 ∀(w6:List (Addr×Obj)) (s:Shared) (O:St) (H:Hp) (Q:VK),Inv X w6 O H s->t O H Q->
  wpAny (model X.prog X.w) X.A (eval a X.env) (λv s₁=>wpAny (model X.prog X.w) X.A (eval b X.env) (λu s₂=>wpAny (model X.prog X.w) X.A (compareOp op v u) (EP X w6 O Q) X.xe s₂) X.xe s₁) X.xe s
noncomputable def tB(t:TE):TT:=λO H Q=>t O H λx H1=>∃c,x=.bl c/\Q c H1
theorem WW(h:PC X op a b t)(h1:behindInMarks op b=false:=by first|exact nobehind _ (by decide) (by decide)|rfl):PE X (.Compare a [op] [b] pos) t:=λw6 s O H Q I hw=>wpAny_Compare1 (h w6 s O H Q I hw) h1
theorem bP(h:PE X e t)(he:∀whole,isTrue e X.env whole=(do let v ←whole;standAt e.pos;holding [v] (truthy v)):=by intro _;rfl):PT X e (tB t):=by
 intro w6 s O H Q I hw;refine isTrue_plain (thn (h w6 s O H _ I hw) λv s1 ⟨x,H1,I1,r1,q1⟩=>?_) (he _);obtain⟨d,rfl,q⟩:=q1;cases r1;exact wpAny_truthy_bool ⟨H1,I1,q⟩
variable{tA tB':TT}{rest:List Expr}
noncomputable def gh(t u:TT):TT:=λO H Q=>t O H λc H1=>if c=true then u O H1 Q else Q false H1
noncomputable def tOr(t u:TT):TT:=λO H Q=>t O H λc H1=>if c=true then Q true H1 else u O H1 Q
noncomputable def ga(t:TT):TT:=λO H Q=>t O H λc H1=>Q (!c) H1
theorem Ye(ha:PT X a tA):PW X (.BoolOp .And [a] pos) tA:=by
 intro wh w6 s O H Q I h;refine isTrue_and (thn (ha w6 s O H Q I h) λc s1 e=>?_);cases c with
 |true=>exact isTrue_and_nil e
 |false=>exact e
theorem bN(ha:PT X a tA):PW X (.BoolOp .Or [a] pos) tA:=by
 intro wh w6 s O H Q I h;refine isTrue_or (thn (ha w6 s O H Q I h) λc s1 e=>?_);cases c with
 |false=>exact isTrue_or_nil e
 |true=>exact e
theorem bO(ha:PT X a tA)(hb:PW X (.BoolOp .And (b::rest) pos) tB'):PW X (.BoolOp .And (a::b::rest) pos) (gh tA tB'):=by
 intro wh w6 s O H Q I h;refine isTrue_and (thn (ha w6 s O H _ I h) λc s1 ⟨H1,I1,q1⟩=>?_);cases c with
 |true=>exact hb wh w6 s1 O H1 Q I1 q1
 |false=>exact⟨H1,I1,q1⟩
theorem eS(ha:PT X a tA)(hb:PW X (.BoolOp .Or (b::rest) pos) tB'):PW X (.BoolOp .Or (a::b::rest) pos) (tOr tA tB'):=by
 intro wh w6 s O H Q I h;refine isTrue_or (thn (ha w6 s O H _ I h) λc s1 ⟨H1,I1,q1⟩=>?_);cases c with
 |true=>exact⟨H1,I1,q1⟩
 |false=>exact hb wh w6 s1 O H1 Q I1 q1
theorem bQ(ha:PT X a tA):PT X (.UnaryOp .Not a pos) (ga tA):=by
 intro w6 s O H Q I h;exact isTrue_not (ha w6 s O H (λc H1=>Q (!c) H1) I h)
noncomputable def eC(ta tb:TE):TE:=λO H Q=>ta O H λx H1=>∃c,x=.bl c/\if c=true then tb O H1 Q else Q (.bl false) H1
noncomputable def gZ(ta tb:TE):TE:=λO H Q=>ta O H λx H1=>∃c,x=.bl c/\if c=true then Q (.bl true) H1 else tb O H1 Q
noncomputable def dq(ta:TE):TE:=λO H Q=>ta O H λx H1=>∃c,x=.bl c/\Q (.bl (!c)) H1
theorem be(h:PE X a t):PE X (.BoolOp op [a] pos) t:=λw6 s O H Q I hw=>BoolOp_one (h w6 s O H Q I hw)
theorem bp(ha:PE X a ta)(hb:PE X (.BoolOp .And (b::rest) pos) tb):PE X (.BoolOp .And (a::b::rest) pos) (eC ta tb):=by
 intro w6 s O H Q I h;refine BoolOp_and (thn (ha w6 s O H _ I h) λv s1 ⟨x,H1,I1,r1,q1⟩=>?_);obtain⟨c,rfl,q1⟩:=q1;cases r1;refine wpAny_truthy_bool ?_;cases c with
 |true=>exact hb w6 s1 O H1 Q I1 q1
 |false=>exact⟨.bl false,H1,I1,rfl,q1⟩
theorem ee(ha:PE X a ta)(hb:PE X (.BoolOp .Or (b::rest) pos) tb):PE X (.BoolOp .Or (a::b::rest) pos) (gZ ta tb):=by
 intro w6 s O H Q I h;refine BoolOp_or (thn (ha w6 s O H _ I h) λv s1 ⟨x,H1,I1,r1,q1⟩=>?_);obtain⟨c,rfl,q1⟩:=q1;cases r1;refine wpAny_truthy_bool ?_;cases c with
 |false=>exact hb w6 s1 O H1 Q I1 q1
 |true=>exact⟨.bl true,H1,I1,rfl,q1⟩
theorem bh(ha:PE X a ta):PE X (.UnaryOp .Not a pos) (dq ta):=by
 intro w6 s O H Q I h;refine UnaryOp_ (thn (ha w6 s O H _ I h) λv s1 ⟨x,H1,I1,r1,q1⟩=>?_);obtain⟨c,rfl,q1⟩:=q1;cases r1;exact not_of (wpAny_truthy_bool ⟨.bl (!c),H1,I1,rfl,q1⟩)
noncomputable def tIf(t:TT)(ta tb:TE):TE:=λO H Q=>t O H λc H1=>if c=true then ta O H1 Q else tb O H1 Q
theorem WR(hc:PT X c tA)(ha:PE X a ta)(hb:PE X b tb):PE X (.IfExp c a b pos) (tIf tA ta tb):=by
 intro w6 s O H Q I h;refine wpAny_IfExp (thn (hc w6 s O H _ I h) λd s1 ⟨H1,I1,q1⟩=>?_);cases d with
 |true=>exact ha w6 s1 O H1 Q I1 q1
 |false=>exact hb w6 s1 O H1 Q I1 q1
end
def SqL(K:PySem.W.Frag)(H:Hp)(a:Addr)(xs:List V):Prop:=
 Rd H a (.lst xs) ∨
  ∃(o:Obj) (its:Array Value) (n:Nat),K.lookup a=some o/\o.cls=.type "list" /\ o.dict=none/\o.data=.seq its n/\its.size<=sizeLine/\Vals xs its.toList
def SqT(K:PySem.W.Frag)(H:Hp)(a:Addr)(xs:List V):Prop:=
 Rd H a (.tup xs) ∨
  ∃(o:Obj) (its:Array Value) (n:Nat),K.lookup a=some o/\o.cls=.type "tuple" /\ o.data=.seq its n/\its.size<=sizeLine/\Vals xs its.toList
noncomputable def iA:Value->Option V
 | .none=>some .non
 | .bool b=>some (.bl b)
 | .int i _=>some (.int i)
 | .str x _=>some (.str x)
 | .bytes b _=>some (.byt b)
 | .float b _=>some (.flt b)
 | .ref a=>some (.ref a)
 | .type n=>some (.ty n)
 |_=>none
theorem RelV.abs(r:RelV x u):iA u=some x:=by
 cases x with
 |non=>cases r;rfl
 |bl _=>cases r;rfl
 |int _=>obtain⟨t,rfl⟩:=r;rfl
 |str _=>obtain⟨t,rfl⟩:=r;rfl
 |byt _=>obtain⟨t,rfl⟩:=r;rfl
 |flt _=>obtain⟨t,rfl⟩:=r;rfl
 |ref _=>cases r;rfl
 |ty _=>cases r;rfl
theorem RelV.inj(r:RelV x u)(q:RelV y u):x=y:=Option.some.inj (r.abs.symm.trans q.abs)
theorem Vals.inj:∀{xs ys:List V} {us:List Value},Vals xs us->Vals ys us->xs=ys
 |_,_,_,.nil,.nil=>rfl
 |_,_,_,.cons r t,.cons r' t'=>by rw[r.inj r',Vals.inj t t']
section
variable{X:Cx}{w6:List (Addr×Obj)}{O:St}{H:Hp}{s:Shared}{a:Addr}{xs ys:List V}
theorem SqL.of{K:PySem.W.Frag}(h:H a=some (.lst xs)):SqL K H a xs:=.inl (.inl h)
theorem SqT.of{K:PySem.W.Frag}(h:H a=some (.tup xs)):SqT K H a xs:=.inl (.inl h)
theorem Inv.list(I:Inv X w6 O H s)(h:SqL X.K H a xs):∃its:List Value,Vals xs its/\PlainL s.heap a its.toArray/\xs.length<=sizeLine:=by
 rcases h with h|⟨o,its,n,hk,hc,hd,hs,hz,r⟩
 ·obtain⟨z,its,n,r,e⟩:=h.ok I.hok;exact⟨its,r,⟨_,n,e,rfl,rfl,rfl⟩,z⟩
 ·refine⟨its.toList,r,⟨o,n,I.kIn a o hk,hc,hd,by simpa using hs⟩,?_⟩;have e:=r.length;simp only[Array.length_toList] at e;omega
theorem Inv.tuple(I:Inv X w6 O H s)(h:SqT X.K H a xs):∃its:List Value,Vals xs its/\IsTup s.heap a its.toArray/\xs.length<=sizeLine:=by
 rcases h with h|⟨o,its,n,hk,hc,hs,hz,r⟩
 ·obtain⟨z,its,r,p⟩:=h.ok I.hok;exact⟨its,r,p,z⟩
 ·refine⟨its.toList,r,⟨o,I.kIn a o hk,hc,n,by simpa using hs⟩,?_⟩;have e:=r.length;simp only[Array.length_toList] at e;omega
theorem Inv.list_inj(I:Inv X w6 O H s)(h:SqL X.K H a xs)(h':SqL X.K H a ys):xs=ys:=by
 obtain⟨its,r,⟨o,n,e,_,_,d⟩,_⟩:=I.list h;obtain⟨its',r',⟨o',n',e',_,_,d'⟩,_⟩:=I.list h';rw[e] at e';cases e';rw[d] at d';injection d' with d1 _
 have:its=its':=by simpa using congrArg Array.toList d1
 subst this;exact r.inj r'
theorem Inv.tuple_inj(I:Inv X w6 O H s)(h:SqT X.K H a xs)(h':SqT X.K H a ys):xs=ys:=by
 obtain⟨its,r,⟨o,e,_,n,d⟩,_⟩:=I.tuple h;obtain⟨its',r',⟨o',e',_,n',d'⟩,_⟩:=I.tuple h';rw[e] at e';cases e';rw[d] at d';injection d' with d1 _
 have:its=its':=by simpa using congrArg Array.toList d1
 subst this;exact r.inj r'
end
noncomputable abbrev Cx.wish(X:Cx)(E:Value->Shared->Prop):Cx:={ X with xe:=E }
noncomputable abbrev Cx.nox(X:Cx):Cx:=X.wish λ_ _=>False
theorem Cx.Ok.wish{X:Cx}(ok:X.Ok)(E:Value->Shared->Prop):(X.wish E).Ok:=
 ⟨ok.mod,ok.kind,ok.glob,ok.blt,ok.above,ok.inj,ok.has,ok.cab,ok.hd,ok.frames,ok.stk,ok.exf,ok.bs,ok.bsz,ok.noex,ok.exfs,ok.funs,ok.frf⟩
theorem Cx.Ok.unwish{X:Cx}(ok:(X.wish E).Ok):X.Ok:=
 ⟨ok.mod,ok.kind,ok.glob,ok.blt,ok.above,ok.inj,ok.has,ok.cab,ok.hd,ok.frames,ok.stk,ok.exf,ok.bs,ok.bsz,ok.noex,ok.exfs,ok.funs,ok.frf⟩
section
variable{X:Cx}{w6:List (Addr×Obj)}{O:St}{H:Hp}{s:Shared}{E:Value->Shared->Prop}
theorem Inv.wish(I:Inv X w6 O H s)(E:Value->Shared->Prop):Inv (X.wish E) w6 O H s:=⟨I.ok.wish E,I.os,I.bare,I.base,I.loc,I.cell,I.free,I.freeC,I.pin,I.hok,I.len⟩
theorem Inv.unwish(I:Inv (X.wish E) w6 O H s):Inv X w6 O H s:=⟨I.ok.unwish,I.os,I.bare,I.base,I.loc,I.cell,I.free,I.freeC,I.pin,I.hok,I.len⟩
theorem SP.unwish(h:SP (X.wish E) w6 D f s'):SP X w6 D f s':=by
 cases f with
 |next=>obtain⟨v5,H',I,q⟩:=h;exact⟨v5,H',I.unwish,q⟩
 |brk=>obtain⟨v5,H',I,q⟩:=h;exact⟨v5,H',I.unwish,q⟩
 |cont=>obtain⟨v5,H',I,q⟩:=h;exact⟨v5,H',I.unwish,q⟩
 |ret u=>obtain⟨v,v5,H',I,r,q⟩:=h;exact⟨v,v5,H',I.unwish,r,q⟩
theorem PSs.nox{st:List Stmt}(h:PSs X.nox st t):PSs X st t:=λw6 s O H D I hw=>
 AAh (h w6 s O H D (I.wish _) hw) (λ_ _ q=>q.unwish) λ_ _ z=>False.elim z
end
section
variable{X:Cx}{st:Stmt}{rest:List Stmt}{t u:TS}{e:Expr}{te:TE}{pos:Pos}
noncomputable def dt:TS:=λD O H=>D.nx O H
noncomputable def gW(t u:TS):TS:=λD O H=>t { D with nx:=u D } O H
theorem Yj:PSs X [] dt:=λ_ _ O H _ I h=>wpAny_execs_nil ⟨O,H,I,h⟩
theorem WE(h1:PS X st t)(h2:PSs X rest u):PSs X (st::rest) (gW t u):=by
 intro w6 s O H D I h;refine wpAny_execs_cons (thn (h1 w6 s O H { D with nx:=u D } I h) λf s1 q=>?_);cases f with
 |next=>
  obtain⟨v5,H',I',q⟩:=q;exact h2 w6 s1 v5 H' D I' q
 |ret v=>exact q
 |brk=>exact q
 |cont=>exact q
theorem Yi(h1:PS X st t):PSs X [st] t:=by
 intro w6 s O H D I h;refine wpAny_execs_cons (thn (h1 w6 s O H D I h) λf s1 q=>?_);cases f with
 |next=>exact wpAny_execs_nil q
 |ret v=>exact q
 |brk=>exact q
 |cont=>exact q
theorem Inv.quiet(I:Inv X w6 O H s):interactive X.env=false:=by simp[interactive,I.ok.kind]
noncomputable def dz(te:TE):TS:=λD O H=>te O H λ_ H1=>D.nx O H1
theorem Yk(he:PE X e te)(hs:swapsWith e none pos.line X.env=pure false:=by rfl):PS X (.Expr e pos) (dz te):=by
 intro w6 s O H D I h;exact wpAny_Expr_any (thn (he w6 s O H _ I h) λv s1 ⟨x,H1,I1,r1,q1⟩=>⟨O,H1,I1,q1⟩) I.quiet hs
noncomputable def gY(te:TE):TS:=λD O H=>te O H D.rt
theorem bS(he:PE X e te):PS X (.Return (some e) pos) (gY te):=by
 intro w6 s O H D I h;exact wpAny_Return_some (thn (he w6 s O H _ I h) λv s1 ⟨x,H1,I1,r1,q1⟩=>⟨x,O,H1,I1,r1,q1⟩)
noncomputable def gd(c:TT)(t u:TS):TS:=λD O H=>c O H λb H1=>if b=true then t D O H1 else u D O H1
theorem eU(hc:PT X c tc)(ha:PSs X a t)(hb:PSs X b u):PS X (.If c a b pos) (gd tc t u):=by
 intro w6 s O H D I h;refine wpAny_If (thn (hc w6 s O H _ I h) λd s1 ⟨H1,I1,q1⟩=>?_);cases d with
 |true=>exact ha w6 s1 O H1 D I1 q1
 |false=>exact hb w6 s1 O H1 D I1 q1
noncomputable def ar:TS:=λ_ _ _=>False
theorem WG:PS X st ar:=λ_ _ _ _ _ _ h=>h.elim
end
noncomputable abbrev TG:=V->St->Hp->(St->Hp->Prop)->Prop
noncomputable abbrev TGs:=List V->St->Hp->(St->Hp->Prop)->Prop
def PG(X:Cx)(target:Expr)(t:TG):Prop:=
 ∀(w6:List (Addr×Obj)) (s:Shared) (O:St) (H:Hp) (v:V) (u:Value) (Q:St->Hp->Prop),Inv X w6 O H s->RelV v u->t v O H Q->
  wpAny (model X.prog X.w) X.A (assign target X.env u) (λ_ s'=>∃v5 H',Inv X w6 v5 H' s'/\Q v5 H') X.xe s
def PGs(X:Cx)(ts:List Expr)(t:TGs):Prop:=
 ∀(w6:List (Addr×Obj)) (s:Shared) (O:St) (H:Hp) (vs:List V) (us:List Value) (Q:St->Hp->Prop),Inv X w6 O H s->Vals vs us->t vs O H Q->
  wpAny (model X.prog X.w) X.A (assignInOrder ((assignEach ts X.env).map (·.2)) us) (λ_ s'=>∃v5 H',Inv X w6 v5 H' s'/\Q v5 H') X.xe s
noncomputable abbrev gO:=V->V->V->Hp->(Hp->Prop)->Prop
def gP(X:Cx)(t:gO):Prop:=
 ∀(w6:List (Addr×Obj)) (s:Shared) (O:St) (H:Hp) (o i v:V) (ov iv u:Value) (Q:Hp->Prop),Inv X w6 O H s->RelV o ov->RelV i iv->RelV v u->t o i v H Q->
  wpAny (model X.prog X.w) X.A (setItem ov iv u) (λ_ s'=>∃H',Inv X w6 O H' s'/\Q H') X.xe s
section
variable{X:Cx}{pos:Pos}
noncomputable def Jy(i:Nat):TG:=λv O H Q=>Q (O.set i (some v)) H
theorem Ar(hN:X.N.Nodup)(hi:X.N[i]?=some x)(hx:Loc X.env.scope x)(hf:X.fn x=true∨X.env.scope.names.lookup x=some .local:=by first|exact .inl rfl|exact .inr rfl|assumption):PG X (.Name x pos) (Jy i):=by
 intro w6 s O H v u Q I r h;exact wpAny_assign_Name (Oz I hN hi hx r (λs' I'=>⟨_,H,I',h⟩) hf)
noncomputable def fz:TGs:=λvs O H Q=>vs=[]/\Q O H
noncomputable def aI(t:TG)(u:TGs):TGs:=λvs O H Q=>∃v r,vs=v::r/\t v O H λv5 H'=>u r v5 H' Q
theorem DZ:PGs X [] fz:=by
 intro w6 s O H vs us Q I r h;obtain⟨e,h⟩:=h;subst e;cases r;exact assignInOrder_nil ⟨O,H,I,h⟩
theorem BA(h1:PG X e t)(h2:PGs X es u)
  (hs:(assignEach (e::es) X.env).map (·.2)=assign e X.env::(assignEach es X.env).map (·.2):=by rfl):PGs X (e::es) (aI t u):=by
 intro w6 s O H vs us Q I r h;obtain⟨v,vr,e1,h⟩:=h;subst e1;cases r with
 |cons r rr=>
  rw[hs];refine assignInOrder_cons (thn (h1 w6 s O H _ _ _ I r h) λ_ s1 ⟨j8,H1,I1,q1⟩=>?_);exact h2 w6 s1 j8 H1 _ _ Q I1 rr q1
noncomputable def ZS(K:PySem.W.Frag)(n:Nat)(t:TGs):TG:=λv O H Q=>∃a xs,v=.ref a/\SqT K H a xs/\xs.length=n/\t xs O H Q
theorem Qk(hc:X.calm=true)(h:PGs X es t)
  (hn:(assignEach es X.env).length=n:=by rfl) (hst:(assignEach es X.env).findIdx? (·.1)=none:=by rfl):PG X (.Tuple es k pos) (ZS X.K n t):=by
 intro w6 s O H v u Q I r hw;obtain⟨a,xs,e1,hq,hl,hw⟩:=hw;subst e1;cases r;obtain⟨its,rv,ht,hz⟩:=I.tuple hq;refine assign_Tuple_tuple (I.ok.hd hc) ht (by simp[hn,←hl,rv.length]) hst λh' hx=>?_;have I1:Inv X w6 O H { s with heap:=h' }:=I.kept (t':=s.toks) λb o e=>hx b o (AAc (Heap.lt_size e)) e;exact h w6 _ O H xs _ Q I1 (by simpa using rv) hw
noncomputable def hU(to ti:TE)(t:gO):TG:=λv O H Q=>to O H λo H1=>ti O H1 λi H2=>t o i v H2 λH3=>Q O H3
theorem ba(ho:PE X o to)(hi:PE X i ti)(hs:gP X t)
  (ha:∀v,assign (.Subscript o i pos) X.env v=(do
   let ov ←holding [v] (eval o X.env)
   let iv ←holding [v,ov] (eval i X.env)
   standAt pos
   holding [v,ov,iv] (setItem ov iv v)
   release [v,ov,iv] []):=by intro _;rfl):PG X (.Subscript o i pos) (hU to ti t):=by
 intro w6 s O H v u Q I r h;rw[ha];refine AAA (AAn (thn (ho w6 s O H _ I h) λov s1 ⟨x,H1,I1,r1,q1⟩=>?_));refine AAA (AAn (thn (hi w6 s1 O H1 _ I1 q1) λiv s2 ⟨y,H2,I2,r2,q2⟩=>?_));refine AAA (wpAny_standAt (AAA (AAn (thn (hs w6 s2 O H2 x y v ov iv u _ I2 r1 r2 r q2) λ_ s3 ⟨H3,I3,q3⟩=>?_))));exact wpAny_release ⟨O,H3,I3,q3⟩
noncomputable def YG(te:TE)(g:TG):TS:=λD O H=>te O H λx H1=>g x O H1 D.nx
theorem bV(he:PE X e te)(hg:PG X tg g)(hs:swapsWithSole [tg] e pos.line X.env=pure false:=by rfl)(hw:swappedStores [tg] e X.env=pure none:=by rfl)
  (h1:(assignEach [tg] X.env).map (·.2)=[assign tg X.env]:=by rfl):PS X (.Assign [tg] e pos) (YG te g):=by
 intro w6 s O H D I h;refine wpAny_Assign_stores (thn (he w6 s O H _ I h) λv s1 ⟨x,H1,I1,r1,q1⟩=>?_) hs hw;rw[h1];exact thn (hg w6 s1 O H1 x v _ I1 r1 q1) λ_ s2 q=>q
theorem bR(hN:X.N.Nodup)(hi:X.N[i]?=some x)(hx:Loc X.env.scope x)(he:PE X e te)(hs:swapsWith e (some (.Name x pos')) pos.line X.env=pure false:=by rfl)(hf:X.fn x=true∨X.env.scope.names.lookup x=some .local:=by first|exact .inl rfl|exact .inr rfl|assumption):
  PS X (.Assign [.Name x pos'] e pos) (YG te (Jy i)):=by
 intro w6 s O H D I h;refine wpAny_Assign_Name (thn (he w6 s O H _ I h) λv s1 ⟨y,H1,I1,r1,q1⟩=>?_) hs;exact Oz I1 hN hi hx r1 (λs2 I2=>⟨_,H1,I2,q1⟩) hf
end
section
variable{X:Cx}{pos:Pos}
noncomputable def ao(c:TT)(tb:TS):TS:=λD O H=>∃W:Nat->St->Hp->Prop,(∃m,W m O H)/\∀m O H,W m O H->
 c O H λb H1=>if b=true then ∃N:St->Hp->Prop,(∀v5 H',N v5 H'->∃m',m'<m/\W m' v5 H')/\tb { D with nx:=N,ct:=N,bk:=D.nx } O H1 else D.nx O H1
theorem WF(hp:PassesOwn (model X.prog X.w) X.A X.env X.xe)(hc:PT X c tc)(hb:PSs X body tb):PS X (.While c body [] pos) (ao tc tb):=by
 intro w6 s O H D I h;obtain⟨W,⟨m0,w0⟩,turn⟩:=h;refine wpAny_While (codeAny_whileLoop (λn s'=>∃v5 H',Inv X w6 v5 H' s'/\W n v5 H') ?_ m0 ⟨O,H,I,w0⟩);rintro n s1 ⟨j8,H1,I1,w1⟩;refine wpAny_passesOwn hp (thn (hc w6 s1 j8 H1 _ I1 (turn n j8 H1 w1)) λb s2 ⟨H2,I2,q2⟩=>?_);cases b with
 |true=>
  obtain⟨N,hN,q2⟩:=q2;rw[if_pos rfl];refine wpAny_passesOwn hp (thn (hb w6 s2 j8 H2 _ I2 q2) λf s3 q3=>?_);cases f with
  |next=>
   obtain⟨j7,H3,I3,n3⟩:=q3;obtain⟨m',hm,w3⟩:=hN j7 H3 n3;exact⟨m',hm,j7,H3,I3,w3⟩
  |cont=>
   obtain⟨j7,H3,I3,n3⟩:=q3;obtain⟨m',hm,w3⟩:=hN j7 H3 n3;exact⟨m',hm,j7,H3,I3,w3⟩
  |brk=>exact q3
  |ret v=>exact q3
 |false=>
  rw[if_neg AAf];exact wpAny_execs_nil ⟨j8,H2,I2,q2⟩
end
set_option genInjectivity false in
structure It where
 go:Nat->Hp->Prop
 yld:Nat->Hp->V->Hp->Prop
 stop:Nat->Hp->Prop
def Ha(X:Cx)(w6:List (Addr×Obj))(H:Hp)(b:Addr):Prop:=
 H b=none/\b≠X.env.locals/\b∉X.fs/\(b∈X.ex∨X.s₀.heap.objs.size<=b)/\(∀x c,X.env.cells.lookup x=some c->c≠b)/\∀p∈X.pn++w6,p.1≠b
theorem Inv.fpOk(I:Inv X w6 O H s)(hb:s.heap.objs.size<=b)(hn:H' b=none):Ha X w6 H' b:=by
 refine⟨hn,Nat.ne_of_gt (AAM I.lt hb),I.nofs hb,.inr (AAq I.sz hb),λx c e z=>?_,λp hp z=>?_⟩
 ·obtain⟨v,q⟩:=I.cell x c e;exact absurd (AAM q.lt (by rw[z];exact hb)) (AAv _)
 ·exact absurd (AAM (Heap.lt_size (I.pin p hp).1) (by rw[z];exact hb)) (AAv _)
structure L4(P:Program)(w:World)(K:PySem.W.Frag)(tg:Expr)(J:It)(fp:List Addr)(it:Addr)(tn:Nat->Heap->Prop):Prop where
 mem:it∈fp
 obj:∀i h,tn i h->∀b∈fp,∃o,h.get? b=some o/\∀v,o.data≠.cell v
 keep:∀i h h',tn i h->(∀b∈fp,∀o,h.get? b=some o->h'.get? b=some o)->tn i h'
 item:∀(X:Cx),X.prog=P->X.w=w->X.K=K->X.calm=true->∀(i:Nat) (w6:List (Addr×Obj)) (s:Shared) (O:St) (H:Hp) (E:Value->Shared->Prop),Inv X w6 O H s->(∀b∈fp,Ha X w6 H b)->tn i s.heap->J.go i H->
  wpAny (model P w) X.A (pyNext (.ref it)) (λr s1=>∃u,r=some u /\
   wpAny (model P w) X.A (letOwnedTupleGo tg (.ref it) u) (λ_ s2=>∃x H',Inv X w6 O H' s2/\RelV x u/\J.yld i H x H'/\tn (i+1) s2.heap/\∀b∈fp,H' b=none) E s1) E s
 done:∀(X:Cx),X.prog=P->X.w=w->X.K=K->X.calm=true->∀(i:Nat) (w6:List (Addr×Obj)) (s:Shared) (O:St) (H:Hp) (E:Value->Shared->Prop),Inv X w6 O H s->(∀b∈fp,Ha X w6 H b)->tn i s.heap->J.stop i H->
  wpAny (model P w) X.A (pyNext (.ref it)) (λr s1=>r=none/\Inv X w6 O H s1) E s
 self:∀(A:Around) (i:Nat) (s:Shared) (Q:Value->Shared->Prop) (E:Value->Shared->Prop),tn i s.heap->Q (.ref it) s->wpAny (model P w) A (pyIter (.ref it)) Q E s
noncomputable abbrev TI:=St->Hp->(It->Hp->Prop)->Prop
def PIE(X:Cx)(w6:List (Addr×Obj))(O:St)(tg:Expr)(R:It->Hp->Prop)(itv:Value)(s2:Shared):Prop:=
 ∃(it:Addr) (fp:List Addr) (tn:Nat->Heap->Prop) (J:It) (H':Hp),itv=.ref it/\Inv X w6 O H' s2/\L4 X.prog X.w X.K tg J fp it tn/\tn 0 s2.heap/\(∀b∈fp,Ha X w6 H' b)/\R J H'
def PI(X:Cx)(tg iter:Expr)(wi:TI):Prop:=
 ∀(w6:List (Addr×Obj)) (s:Shared) (O:St) (H:Hp) (R:It->Hp->Prop),Inv X w6 O H s->wi O H R->
  wpAny (model X.prog X.w) X.A (eval iter X.env) (λv s1=>wpAny (model X.prog X.w) X.A (pyIter v) (PIE X w6 O tg R) X.xe s1) X.xe s
theorem Sr(ho:s.heap.get? it=some o)(hc:o.cls=.type n)(hd:o.data=.fields vs)
  (hn:["enumerate", "zip", "dict_itemiterator", "dict_reverseitemiterator", "odict_iterator", "itertools.zip_longest", "itertools.pairwise"].contains n=false) (hQ:Q () s):wpAny M A (letOwnedTupleGo tg (.ref it) u) Q E s:=by
 unfold letOwnedTupleGo;cases tg<;>first
  |exact AAB hQ
  |(cases u<;>first
    |exact AAB hQ
    |(refine AAA (wpAny_load ho ?_);rw[hc,hd];show wpAny M A (if (["enumerate", "zip", "dict_itemiterator", "dict_reverseitemiterator", "odict_iterator", "itertools.zip_longest", "itertools.pairwise"].contains n&&vs[0]?==some (rawInt _))=true then _ else _) Q E s;rw[if_neg (by intro h;rw[hn,Bool.false_and] at h;cases h)];exact AAB hQ))
noncomputable def Itl(K:PySem.W.Frag)(a:Addr):It:=
 ⟨λi H=>∃xs x,SqL K H a xs/\xs[i]?=some x,λi H x H'=>H'=H/\∀xs,SqL K H a xs->xs[i]?=some x,λi H=>∃xs,SqL K H a xs/\xs.length<=i⟩
noncomputable def Itt(K:PySem.W.Frag)(a:Addr):It:=
 ⟨λi H=>∃xs x,SqT K H a xs/\xs[i]?=some x,λi H x H'=>H'=H/\∀xs,SqT K H a xs->xs[i]?=some x,λi H=>∃xs,SqT K H a xs/\xs.length<=i⟩
noncomputable def Itr(lo:Int)(n:Nat):It:=⟨λi _=>i<n,λi H x H'=>H'=H/\x=.int (lo+i),λi _=>n<=i⟩
theorem TX{P:Program}{w:World}{K:PySem.W.Frag}{tg:Expr}(a it:Addr):L4 P w K tg (Itl K a) [it] it (λi h=>h.IsListIter it a i) where
 mem:=by simp
 obj:=λi h st b hb=>by
  have e:b=it:=by simpa using hb
  subst e;obtain⟨o,e,c,d⟩:=st;exact⟨o,e,λv z=>by rw[d] at z;cases z⟩
 keep:=λi h h' st k=>st.at λo e=>k it (by simp) o e
 item:=by
  intro X hP hw hK hc i w6 s O H E I hf st hg;subst hP hw hK;obtain⟨xs,x,hq,hx⟩:=hg;obtain⟨its,rv,p,hz⟩:=I.list hq;obtain⟨u,hu,ru⟩:=rv.get hx;obtain⟨f0,f1,f2,f3,f4,f5⟩:=hf it (by simp);refine wpAny_pyNext_list_item st p.isList (x:=u) (by simpa using hu) λh' st' sb=>?_;have I1:Inv X w6 O H { s with heap:=h' }:=I.turned (t':=s.toks) (λb o hb e=>(sb.2 b hb).trans e) f0 f1 f3 f4 f5;obtain⟨o,e,c,d⟩:=id st';exact⟨u,rfl,Sr (s:={ s with heap:=h' }) e c d (by decide) ⟨x,H,I1,ru,⟨rfl,λys hy=>by rw[I.list_inj hy hq];exact hx⟩,st',λb hb=>(hf b hb).1⟩⟩
 done:=by
  intro X hP hw hK hc i w6 s O H E I hf st hg;subst hP hw hK;obtain⟨xs,hq,hx⟩:=hg;obtain⟨its,rv,p,hz⟩:=I.list hq;obtain⟨f0,f1,f2,f3,f4,f5⟩:=hf it (by simp);have hl:=rv.length;exact wpAny_pyNext_list_end (I.ok.hd hc) st p.isList (by simp;omega) λh' eb=>⟨rfl,I.turned (t':=s.toks) (λb o hb e=>eb b o hb e) f0 f1 f3 f4 f5⟩
 self:=λ_ _ _ _ _ st h=>wpAny_pyIter_listiter st h
theorem QQ{P:Program}{w:World}{K:PySem.W.Frag}{tg:Expr}(a it:Addr):L4 P w K tg (Itt K a) [it] it (λi h=>h.IsTupleIter it a i) where
 mem:=by simp
 obj:=λi h st b hb=>by
  have e:b=it:=by simpa using hb
  subst e;obtain⟨o,e,c,d⟩:=st;exact⟨o,e,λv z=>by rw[d] at z;cases z⟩
 keep:=λi h h' st k=>st.at λo e=>k it (by simp) o e
 item:=by
  intro X hP hw hK hc i w6 s O H E I hf st hg;subst hP hw hK;obtain⟨xs,x,hq,hx⟩:=hg;obtain⟨its,rv,p,hz⟩:=I.tuple hq;obtain⟨u,hu,ru⟩:=rv.get hx;obtain⟨f0,f1,f2,f3,f4,f5⟩:=hf it (by simp);refine wpAny_pyNext_tuple_item st (show s.heap.IsTuple a its.toArray from p) (x:=u) (by simpa using hu) λh' st' sb=>?_;have I1:Inv X w6 O H { s with heap:=h' }:=I.turned (t':=s.toks) (λb o hb e=>(sb.2 b hb).trans e) f0 f1 f3 f4 f5;obtain⟨o,e,c,d⟩:=id st';exact⟨u,rfl,Sr (s:={ s with heap:=h' }) e c d (by decide) ⟨x,H,I1,ru,⟨rfl,λys hy=>by rw[I.tuple_inj hy hq];exact hx⟩,st',λb hb=>(hf b hb).1⟩⟩
 done:=by
  intro X hP hw hK hc i w6 s O H E I hf st hg;subst hP hw hK;obtain⟨xs,hq,hx⟩:=hg;obtain⟨its,rv,p,hz⟩:=I.tuple hq;obtain⟨f0,f1,f2,f3,f4,f5⟩:=hf it (by simp);have hl:=rv.length;exact wpAny_pyNext_tuple_end (I.ok.hd hc) st (show s.heap.IsTuple a its.toArray from p) (by simp;omega) λh' eb=>⟨rfl,I.turned (t':=s.toks) (λb o hb e=>eb b o hb e) f0 f1 f3 f4 f5⟩
 self:=λ_ _ _ _ _ st h=>wpAny_pyIter_tupleiter st h
theorem QR{P:Program}{w:World}{K:PySem.W.Frag}{tg:Expr}(it:Addr)(lo:Int)(n:Nat):L4 P w K tg (Itr lo n) [it] it (λi h=>IsRangeIter h it (lo+(i:Nat) * 1) ((n:Int)-(i:Nat)) 1) where
 mem:=by simp
 obj:=λi h st b hb=>by
  have e:b=it:=by simpa using hb
  subst e;exact⟨_,st,λv z=>by
   have z':Data.fields _=Data.cell v:=z;cases z'⟩
 keep:=λi h h' st k=>k it (by simp) _ st
 item:=by
  intro X hP hw hK hc i w6 s O H E I hf st hg;subst hP hw hK;obtain⟨f0,f1,f2,f3,f4,f5⟩:=hf it (by simp);have W:=Walks.range (prog:=X.prog) (w:=X.w) (I.ok.hd hc) it lo 1 n;refine W.item i s _ _ hg st λv h' tk hv st' kk=>?_;obtain⟨t,rfl⟩:=hv;have I1:Inv X w6 O H { s with heap:=h',toks:=tk }:=I.turned (λb o hb e=>kk b o (by simpa using hb) e) f0 f1 f3 f4 f5;refine⟨_,rfl,Sr (s:={ s with heap:=h',toks:=tk }) (n := "range_iterator") st' rfl rfl (by decide) ⟨.int (lo+i),H,I1,⟨t,?_⟩,⟨rfl,rfl⟩,st',λb hb=>(hf b hb).1⟩⟩;rw[Int.mul_one]
 done:=by
  intro X hP hw hK hc i w6 s O H E I hf st hg;subst hP hw hK;obtain⟨f0,f1,f2,f3,f4,f5⟩:=hf it (by simp);exact wpAny_pyNext_range_end (I.ok.hd hc) st (by have:n<=i:=hg;omega) λh' eb=>⟨rfl,I.turned (t':=s.toks) (λb o hb e=>eb b o hb e) f0 f1 f3 f4 f5⟩
 self:=λ_ _ _ _ _ st h=>wpAny_pyIter_rangeiter st h
section
variable{X:Cx}{tg:Expr}
noncomputable def aG(K:PySem.W.Frag)(tl:TE):TI:=λO H R=>tl O H λx H1=>∃a,x=.ref a/\(∃xs,SqL K H1 a xs)/\R (Itl K a) H1
noncomputable def fo(K:PySem.W.Frag)(tl:TE):TI:=λO H R=>tl O H λx H1=>∃a,x=.ref a/\(∃xs,SqT K H1 a xs)/\R (Itt K a) H1
theorem SS{l:Expr}{tl:TE}(hl:PE X l tl):PI X tg l (aG X.K tl):=by
 intro w6 s O H R I h;refine thn (hl w6 s O H _ I h) λv s1 ⟨x,H1,I1,r1,q1⟩=>?_;obtain⟨a,e,⟨xs,hq⟩,q⟩:=q1;subst e;cases r1;obtain⟨its,rv,p,hz⟩:=I1.list hq;refine wpAny_pyIter_list p.isList ?_;refine⟨s1.heap.objs.size,[s1.heap.objs.size],_,_,H1,rfl,I1.kept (t':=s1.toks) λb o e=>AAC _ e,TX a _,⟨_,AAD _ rfl,rfl,rfl⟩,λb hb=>?_,q⟩;have e:b=s1.heap.objs.size:=by simpa using hb
 subst e;exact I1.fpOk (AAE _) (I1.hok.fresh (AAE _))
theorem bY{l:Expr}{tl:TE}(hl:PE X l tl):PI X tg l (fo X.K tl):=by
 intro w6 s O H R I h;refine thn (hl w6 s O H _ I h) λv s1 ⟨x,H1,I1,r1,q1⟩=>?_;obtain⟨a,e,⟨xs,hq⟩,q⟩:=q1;subst e;cases r1;obtain⟨its,rv,p,hz⟩:=I1.tuple hq;refine wpAny_pyIter_tuple (show s1.heap.IsTuple a its.toArray from p) ?_;refine⟨s1.heap.objs.size,[s1.heap.objs.size],_,_,H1,rfl,I1.kept (t':=s1.toks) λb o e=>AAC _ e,QQ a _,⟨_,AAD _ rfl,rfl,rfl⟩,λb hb=>?_,q⟩;have e:b=s1.heap.objs.size:=by simpa using hb
 subst e;exact I1.fpOk (AAE _) (I1.hok.fresh (AAE _))
theorem V3{w6:List (Addr×Obj)}{O:St}{H:Hp}{s:Shared}{lo hi:Int}{t u v:Tok}{tk:Nat}(I:Inv X w6 O H s)(h1:-(2 ^ 62)<=lo)(h2:lo<2 ^ 62)(h3:-(2 ^ 62)<=hi)(h4:hi<2 ^ 62)
  (q:R (Itr lo (hi-lo).toNat) H):wpAny (model X.prog X.w) X.A (pyIter (.ref s.heap.objs.size)) (PIE X w6 O tg R) E { s with heap:=s.heap.push { cls:=.type "range",data:=.fields #[.int lo t,.int hi u,.int 1 v] },toks:=tk }:=by
 refine wpAny_pyIter_range (IsRange.new ..) (small_one h1 h2 h3 h4) ?_;have I1:Inv X w6 O H { s with heap:=s.heap.push { cls:=.type "range",data:=.fields #[.int lo t,.int hi u,.int 1 v] },toks:=tk }:=I.kept λb o e=>AAC _ e;refine⟨(s.heap.push { cls:=.type "range",data:=.fields #[.int lo t,.int hi u,.int 1 v] }).objs.size,[(s.heap.push { cls:=.type "range",data:=.fields #[.int lo t,.int hi u,.int 1 v] }).objs.size],_,_,H,rfl,
  I1.kept (t':=tk) λb o e=>AAC _ e,QR _ lo (hi-lo).toNat,?_,λb hb=>?_,q⟩
 ·have e1:lo+((0:Nat):Int) * 1=lo:=by simp
  have e2:(((hi-lo).toNat:Nat):Int)-((0:Nat):Int)=Builtin.Range.rangeSize lo hi 1:=by rw[rangeSize_one];split<;>omega
  show IsRangeIter _ _ (lo+((0:Nat):Int) * 1) ((((hi-lo).toNat:Nat):Int)-((0:Nat):Int)) 1;rw[e1,e2];exact AAD _ rfl
 ·have e:b=(s.heap.push { cls:=.type "range",data:=.fields #[.int lo t,.int hi u,.int 1 v] }).objs.size:=by simpa using hb
  subst e;exact I1.fpOk (AAE _) (I1.hok.fresh (AAE _))
noncomputable def fq(ta:TA):TI:=λO H R=>ta O H λvs H1=>∃j:Int,vs=[.int j]/\-(2 ^ 62)<=j/\j<2 ^ 62/\R (Itr 0 j.toNat) H1
theorem Tp{a:Expr}{p pos:Pos}(hg:Gl X "range")(hm:X.mg "range" = none)(ha:PA X [a] ta)(hs:starEach [a] X.env=[(false,eval a X.env)]:=by rfl):PI X tg (.Call (.Name "range" p) [a] [] pos) (fq ta):=by
 intro w6 s O H R I h;refine Call_ (Gy I hg hm boot_range (PyProof.Rows.callWith_type1 (thn (ha pos w6 s O H _ I h) λus s1 ⟨vs,H1,I1,r1,q1⟩=>?_) hs rfl));obtain⟨j,e,q1,q2,q⟩:=q1;subst e;cases r1 with
 |cons r rr=>
  cases rr;obtain⟨t,rfl⟩:=r;exact call_range_1 (V3 I1 (by omega) (by omega) q1 q2 (by simpa using q))
noncomputable def ge(wi:TI)(g:TG)(tb:TS):TS:=λD O H=>wi O H λJ H1=>∃W:Nat->Nat->St->Hp->Prop,(∃m,W 0 m O H1)/\∀i m O H,W i m O H->
 (J.stop i H/\D.nx O H)∨(J.go i H/\∃N:St->Hp->Prop,(∀v5 H',N v5 H'->∃m',m'<m/\W (i+1) m' v5 H')/\∀x H',J.yld i H x H'->g x O H' λj3 H2=>tb { D with nx:=N,ct:=N,bk:=D.nx } j3 H2)
noncomputable def Nq(fp:List Addr)(h:Heap):List (Addr×Obj):=fp.filterMap λb=>(h.get? b).map λo=>(b,o)
theorem D5(hb:b∈fp)(e:h.get? b=some o):(b,o)∈Nq fp h:=List.mem_filterMap.mpr ⟨b,hb,by rw[e];rfl⟩
theorem Tu(hp:p∈Nq fp h):p.1∈fp/\h.get? p.1=some p.2:=by
 obtain⟨b,hb,e⟩:=List.mem_filterMap.mp hp;cases q:h.get? b with
 |none=>rw[q] at e;cases e
 |some o=>
  rw[q] at e;have e':(b,o)=p:=Option.some.inj e;subst e';exact⟨hb,q⟩
theorem Inv.pinned(I:Inv X w6 O H s)(hf:∀b∈fp,Ha X w6 H b)(ho:∀b∈fp,∃o,s.heap.get? b=some o/\∀v,o.data≠.cell v):Inv X (w6++Nq fp s.heap) O H s:=
 I.pins_of λp hp=>(AAJ.mp hp).elim (λz=>I.pin p (AAZ _ z)) λz=>by
  obtain⟨hb,e⟩:=Tu z;obtain⟨f0,f1,f2,_⟩:=hf p.1 hb;obtain⟨o,e',d⟩:=ho p.1 hb;rw[e] at e';cases e';exact⟨e,f0,f1,f2,d⟩
theorem Inv.unpinned(I:Inv X (w6++pl) O H s):Inv X w6 O H s:=I.pins_of λp hp=>I.pin p (AAZ _ (AAa _ hp))
theorem bT(hp:PassesOwn (model X.prog X.w) X.A X.env X.xe)(hc:X.calm=true)(hi:PI X tg iter wi)(hg:PG X tg g)(hb:PSs X body tb)
  (hs:∀x,foldedSetIterable iter X.env x=pure x:=by intro _;rfl):PS X (.For tg iter body [] pos) (ge wi g tb):=by
 intro w6 s O H D I h;refine wpAny_For (thn (hi w6 s O H _ I h) λv s1 h1=>thn h1 λitv s2 h2=>?_) hs;obtain⟨it,fp,tn,J,H2,e,I2,T,st2,f2,W,⟨m0,w0⟩,turn⟩:=h2;subst e;have stat:∀{H':Hp},(∀b∈fp,H' b=none)->∀b∈fp,Ha X w6 H' b:=λhn b hb=>⟨hn b hb,(f2 b hb).2⟩;refine codeAny_forLoop_any (λn s'=>∃i v5 H',Inv X w6 v5 H' s'/\tn i s'.heap/\(∀b∈fp,H' b=none)/\W i n v5 H') ?_ m0 ⟨0,O,H2,I2,st2,λb hb=>(f2 b hb).1,w0⟩;rintro n s3 ⟨i,j7,H3,I3,st3,fr3,w3⟩;rcases turn i n j7 H3 w3 with ⟨stop,qn⟩|⟨go,N,hN,step⟩
 ·refine wpAny_passesOwn hp (thn (T.done X rfl rfl rfl hc i w6 s3 j7 H3 X.xe I3 (stat fr3) st3 stop) λr s4 ⟨hr,I4⟩=>?_);subst hr;exact wpAny_execs_nil ⟨j7,H3,I4,qn⟩
 ·refine wpAny_passesOwn hp (thn (T.item X rfl rfl rfl hc i w6 s3 j7 H3 X.xe I3 (stat fr3) st3 go) λr s4 ⟨u,hr,h4⟩=>?_);subst hr;refine wpAny_passesOwn hp (thn h4 λ_ s5 ⟨x,H5,I5,r5,y5,st5,fr5⟩=>?_);have I5':=I5.pinned (stat fr5) (T.obj _ _ st5);refine wpAny_passesOwn hp (thn (hg _ s5 j7 H5 x u _ I5' r5 (step x H5 y5)) λ_ s6 ⟨j9,H6,I6,q6⟩=>?_);refine wpAny_passesOwn hp (thn (hb _ s6 j9 H6 _ I6 q6) λf s7 q7=>?_);have again:∀{k6:St} {H7:Hp},Inv X (w6++Nq fp s5.heap) k6 H7 s7->N k6 H7->∃m,m<n/\∃i v5 H',Inv X w6 v5 H' s7/\tn i s7.heap/\(∀b∈fp,H' b=none)/\W i m v5 H':=λ{k6 H7} I7 n7=>by
   obtain⟨m',hm,w7⟩:=hN k6 H7 n7;refine⟨m',hm,i+1,k6,H7,I7.unpinned,T.keep _ _ _ st5 λb hb o e=>(I7.pin (b,o) (AAZ _ (AAZ _ (D5 hb e)))).1,λb hb=>?_,w7⟩;obtain⟨o,e,d⟩:=T.obj _ _ st5 b hb;exact(I7.pin (b,o) (AAZ _ (AAZ _ (D5 hb e)))).2.1
  cases f with
  |next=>obtain⟨k6,H7,I7,n7⟩:=q7;exact again I7 n7
  |cont=>obtain⟨k6,H7,I7,n7⟩:=q7;exact again I7 n7
  |brk=>obtain⟨k6,H7,I7,q7⟩:=q7;exact⟨k6,H7,I7.unpinned,q7⟩
  |ret v=>obtain⟨x7,k6,H7,I7,r7,q7⟩:=q7;exact⟨x7,k6,H7,I7.unpinned,r7,q7⟩
end
noncomputable abbrev R2:=V->V->Hp->VK->Prop
def OpR(X:Cx)(f:Value->Value->Sem Value)(r:R2):Prop:=
 ∀(w6:List (Addr×Obj)) (s:Shared) (O:St) (H:Hp) (x y:V) (v u:Value) (Q:VK),Inv X w6 O H s->RelV x v->RelV y u->r x y H Q->
  wpAny (model X.prog X.w) X.A (f v u) (EP X w6 O Q) X.xe s
def UnR(X:Cx)(f:Value->Sem Value)(r:V->Hp->VK->Prop):Prop:=
 ∀(w6:List (Addr×Obj)) (s:Shared) (O:St) (H:Hp) (x:V) (v:Value) (Q:VK),Inv X w6 O H s->RelV x v->r x H Q->
  wpAny (model X.prog X.w) X.A (f v) (EP X w6 O Q) X.xe s
def CS(X:Cx)(f:Value)(r:List V->Hp->VK->Prop):Prop:=
 ∀(w6:List (Addr×Obj)) (s:Shared) (O:St) (H:Hp) (xs:List V) (us:List Value) (Q:VK),Inv X w6 O H s->Vals xs us->r xs H Q->
  wpAny (model X.prog X.w) X.A (call f us) (EP X w6 O Q) X.xe s
noncomputable def tOp(r:R2)(ta tb:TE):TE:=λO H Q=>ta O H λx H1=>tb O H1 λy H2=>r x y H2 Q
noncomputable def tUn(r:V->Hp->VK->Prop)(ta:TE):TE:=λO H Q=>ta O H λx H1=>r x H1 Q
noncomputable def rI(C:Int->Int->Prop)(g:Int->Int->V):R2:=λx y H Q=>∃i j,x=.int i/\y=.int j/\C i j/\Q (g i j) H
noncomputable def rI0(g:Int->Int->V):R2:=λx y H Q=>∃i j,x=.int i/\y=.int j/\Q (g i j) H
noncomputable def rU(g:Int->V):V->Hp->VK->Prop:=λx H Q=>∃i,x=.int i/\Q (g i) H
section
variable{X:Cx}{a b:Expr}{ta tb:TE}{pos:Pos}
theorem dS(ha:PE X a ta)(hb:PE X b tb){w6:List (Addr×Obj)}{s:Shared}{H:Hp}{R:V->V->Hp->Prop}(I:Inv X w6 O H s)
  (h:ta O H λx H1=>tb O H1 λy H2=>R x y H2) {Q:Value->Shared->Prop} {f:Value->Value->Sem Value}
  (hf:∀v u s2 x y H2,Inv X w6 O H2 s2->RelV x v->RelV y u->R x y H2->wpAny (model X.prog X.w) X.A (f v u) Q X.xe s2) :
  wpAny (model X.prog X.w) X.A (eval a X.env) (λv s₁=>wpAny (model X.prog X.w) X.A (eval b X.env) (λu s₂=>wpAny (model X.prog X.w) X.A (f v u) Q X.xe s₂) X.xe s₁) X.xe s:=by
 refine thn (ha w6 s O H _ I h) λv s1 ⟨x,H1,I1,r1,q1⟩=>?_;refine thn (hb w6 s1 O H1 _ I1 q1) λu s2 ⟨y,H2,I2,r2,q2⟩=>?_;exact hf v u s2 x y H2 I2 r1 r2 q2
theorem ef{op:Operator}{r:R2}(ho:OpR X (binaryOp op) r)(ha:PE X a ta)(hb:PE X b tb):PE X (.BinOp a op b pos) (tOp r ta tb):=by
 intro w6 s O H Q I h;exact wpAny_BinOp (dS ha hb I h λv u s2 x y H2 I2 rx ry q=>ho w6 s2 O H2 x y v u Q I2 rx ry q)
theorem eZ(ho:UnR X (unaryOp op) r)(ha:PE X a ta):PE X (.UnaryOp op a pos) (tUn r ta):=by
 intro w6 s O H Q I h;exact UnaryOp_ (thn (ha w6 s O H _ I h) λv s1 ⟨x,H1,I1,r1,q1⟩=>ho w6 s1 O H1 x v Q I1 r1 q1)
theorem opI{f:Value->Value->Sem Value}{g:Int->Int->Int}
  (rule:∀(i j:Int) (t u:Tok) (s:Shared) (Q:Value->Shared->Prop) (E:Value->Shared->Prop),C i j->Q (.int (g i j) s.toks) { s with toks:=s.toks+1 }->wpAny (model X.prog X.w) X.A (f (.int i t) (.int j u)) Q E s) :
  OpR X f (rI C λi j=>.int (g i j)):=by
 intro w6 s O H x y v u Q I rx ry h;obtain⟨i,j,rfl,rfl,hc,q⟩:=h;obtain⟨t,rfl⟩:=rx;obtain⟨t',rfl⟩:=ry;exact rule i j t t' s _ _ hc ⟨.int (g i j),H,I.tok _,⟨_,rfl⟩,q⟩
theorem fK{g:Int->Int->Int}
  (rule:∀(i j:Int) (t u:Tok) (s:Shared) (Q:Value->Shared->Prop) (E:Value->Shared->Prop),Q (.int (g i j) s.toks) { s with toks:=s.toks+1 }->wpAny (model X.prog X.w) X.A (f (.int i t) (.int j u)) Q E s) :
  OpR X f (rI0 λi j=>.int (g i j)):=by
 intro w6 s O H x y v u Q I rx ry h;obtain⟨i,j,rfl,rfl,q⟩:=h;obtain⟨t,rfl⟩:=rx;obtain⟨t',rfl⟩:=ry;exact rule i j t t' s _ _ ⟨.int (g i j),H,I.tok _,⟨_,rfl⟩,q⟩
theorem Y3{g:Int->Int->Bool}
  (rule:∀(i j:Int) (t u:Tok) (s:Shared) (Q:Value->Shared->Prop) (E:Value->Shared->Prop),Q (.bool (g i j)) s->wpAny (model X.prog X.w) X.A (f (.int i t) (.int j u)) Q E s) :
  OpR X f (rI0 λi j=>.bl (g i j)):=by
 intro w6 s O H x y v u Q I rx ry h;obtain⟨i,j,rfl,rfl,q⟩:=h;obtain⟨t,rfl⟩:=rx;obtain⟨t',rfl⟩:=ry;exact rule i j t t' s _ _ ⟨.bl (g i j),H,I,rfl,q⟩
def iG(i j:Int):Prop:=0<j/\j<1073741824
def iF(i j:Int):Prop:=0<=j/\j<=1000000/\i.natAbs<2 ^ 64
def CMul(i j:Int):Prop:=(-(2 ^ 64)<i/\i<2 ^ 64)∨(-(2 ^ 64)<j/\j<2 ^ 64)
theorem CMul.ok(h:CMul i j):IntMulOk i j:=by
 rcases h with ⟨h1,h2⟩|⟨h1,h2⟩
 ·exact .of_left (intBits_le_64 h1 h2)
 ·exact .of_right (intBits_le_64 h1 h2)
theorem cI:OpR X (binaryOp .Add) (rI0 λi j=>.int (i+j)):=fK λ_ _ _ _ _ _ _ q=>add_int q
theorem cA:OpR X (binaryOp .Sub) (rI0 λi j=>.int (i-j)):=fK λ_ _ _ _ _ _ _ q=>sub_int q
theorem cE:OpR X (binaryOp .Mult) (rI CMul λi j=>.int (i * j)):=opI λ_ _ _ _ _ _ _ hc q=>mul_int q hc.ok
theorem Y1:OpR X (binaryOp .FloorDiv) (rI iG λi j=>.int (i / j)):=opI λi j _ _ _ _ _ hc q=>by
 have h1:(0:Int)<j:=hc.1;have h2:j<1073741824:=hc.2;exact floordiv_int (by omega) (by rw[Int.fdiv_eq_ediv_of_nonneg i (by omega)];exact q) (.inl (PyProof.noPylong_small (by omega)))
theorem cF:OpR X (binaryOp .Mod) (rI (λ_ j=>0<j) λi j=>.int (i % j)):=opI λi j _ _ _ _ _ hc q=>by
 have h1:(0:Int)<j:=hc;exact mod_int' (by omega) (by rw[Int.fmod_eq_emod_of_nonneg i (by omega)];exact q)
theorem cC:OpR X (binaryOp .Pow) (rI iF λi j=>.int (i ^ j.toNat)):=opI λ_ _ _ _ _ _ _ hc q=>pow_int_small hc.1 hc.2.1 hc.2.2 q
theorem unI{g:Int->Int}
  (rule:∀(i:Int) (t:Tok) (s:Shared) (Q:Value->Shared->Prop) (E:Value->Shared->Prop),Q (.int (g i) s.toks) { s with toks:=s.toks+1 }->wpAny (model X.prog X.w) X.A (f (.int i t)) Q E s) :
  UnR X f (rU λi=>.int (g i)):=by
 intro w6 s O H x v Q I rx h;obtain⟨i,rfl,q⟩:=h;obtain⟨t,rfl⟩:=rx;exact rule i t s _ _ ⟨.int (g i),H,I.tok _,⟨_,rfl⟩,q⟩
theorem af:UnR X (unaryOp .USub) (rU λi=>.int (-i)):=unI λ_ _ _ _ _ q=>neg_int q
end
section
variable{X:Cx}{a b c:Expr}{ta tb tc:TE}{pos:Pos}
theorem OH(I:Inv X w6 O H s)(q:Q (.bl k) H)(e:k=k'):EP X w6 O Q (.bool k') s:=by
 subst e;exact⟨.bl k,H,I,rfl,q⟩
theorem fG:OpR X (compareOp .Lt) (rI0 λi j=>.bl (decide (i<j))):=Y3 λ_ _ _ _ _ _ _ q=>lt_int q
theorem fH:OpR X (compareOp .LtE) (rI0 λi j=>.bl (decide (i<=j))):=Y3 λ_ _ _ _ _ _ _ q=>le_int q
theorem fI:OpR X (compareOp .Gt) (rI0 λi j=>.bl (decide (j<i))):=Y3 λ_ _ _ _ _ _ _ q=>gt_int q
theorem fJ:OpR X (compareOp .GtE) (rI0 λi j=>.bl (decide (j<=i))):=Y3 λ_ _ _ _ _ _ _ q=>ge_int q
theorem Ts:OpR X (compareOp .In) (λx y H Q=>∃i j,x=.str i/\y=.str j/\Q (.bl (!(Builtin.Str.occurrences j i 0 j.length 1).isEmpty)) H):=by
 intro w6 s O H x y v u Q I rx ry h;obtain⟨i,j,rfl,rfl,q⟩:=h;obtain⟨t,rfl⟩:=rx;obtain⟨t',rfl⟩:=ry;exact in_str (OH I q rfl)
theorem cG:OpR X (compareOp .Is) (λx y H Q=>y=.non/\Q (.bl (decide (x=.non))) H):=by
 intro w6 s O H x y v u Q I rx ry h;obtain⟨rfl,q⟩:=h;cases ry;refine is_none_gen (OH I q ?_);cases x<;>first
  |(cases rx;rfl)
  |(obtain⟨t,rfl⟩:=rx;rfl)
theorem Y0:OpR X (compareOp .IsNot) (λx y H Q=>y=.non/\Q (.bl (!decide (x=.non))) H):=by
 intro w6 s O H x y v u Q I rx ry h;obtain⟨rfl,q⟩:=h;cases ry;refine isnot_none_gen (OH I q ?_);cases x<;>first
  |(cases rx;rfl)
  |(obtain⟨t,rfl⟩:=rx;rfl)
theorem Nv:OpR X (compareOp .NotIn) (λx y H Q=>∃i j,x=.str i/\y=.str j/\Q (.bl (!(!(Builtin.Str.occurrences j i 0 j.length 1).isEmpty))) H):=by
 intro w6 s O H x y v u Q I rx ry h;obtain⟨i,j,rfl,rfl,q⟩:=h;obtain⟨t,rfl⟩:=rx;obtain⟨t',rfl⟩:=ry;exact notIn_str (OH I q rfl)
theorem Wi(b:Expr)(h:op≠.In:=by decide)(h2:op≠.NotIn:=by decide):behindInMarks op b=false:=by
 have e1:(op==CmpOp.In)=false:=by cases op<;>first|rfl|exact absurd rfl h
 have e2:(op==CmpOp.NotIn)=false:=by cases op<;>first|rfl|exact absurd rfl h2
 cases b<;>simp[behindInMarks,e1,e2]
theorem Yw{r:R2}(ho:OpR X (compareOp op) r)(ha:PE X a ta)(hb:PE X b tb)(hm:behindInMarks op b=false):PE X (.Compare a [op] [b] pos) (tOp r ta tb):=by
 intro w6 s O H Q I h;exact wpAny_Compare1 (dS ha hb I h λv u s2 x y H2 I2 rx ry q=>ho w6 s2 O H2 x y v u Q I2 rx ry q) hm
noncomputable def Zx(t:TE):TT:=λO H Q=>t O H λx H'=>∃k,x=.bl k/\Q k H'
theorem Yh(ho:OpR X (compareOp op) r)(ha:PE X a ta)(hb:PE X b tb)(hm:behindInMarks op b=false):PT X (.Compare a [op] [b] pos) (Zx (tOp r ta tb)):=by
 intro w6 s O H Q I h;refine wpAny_isTrue_Compare1 (thn (ha w6 s O H _ I h) λv s1 ⟨x,H1,I1,r1,q1⟩=>thn (hb w6 s1 O H1 _ I1 q1) λu s2 ⟨y,H2,I2,r2,q2⟩=>
  thn (ho w6 s2 O H2 x y v u _ I2 r1 r2 q2) λc s3 ⟨z,H3,I3,r3,k,e,q3⟩=>?_) hm
 subst e;cases r3;exact wpAny_truthy_bool ⟨H3,I3,q3⟩
noncomputable def Qa(r r':R2)(ta tb tc:TE):TE:=λO H Q=>ta O H λx H1=>tb O H1 λy H2=>r x y H2 λz H3=>∃k,z=.bl k /\
 (if k=true then tc O H3 λw' H4=>r' y w' H4 Q else Q (.bl false) H3)
theorem WX(ho:OpR X (compareOp op) r)(ho':OpR X (compareOp op') r')(ha:PE X a ta)(hb:PE X b tb)(hc:PE X c tc)
  (hm:lastMarks [op,op'] [b,c]=false:=by with_unfolding_all rfl):PE X (.Compare a [op,op'] [b,c] pos) (Qa r r' ta tb tc):=by
 intro w6 s O H Q I h;refine Compare_chain (thn (ha w6 s O H _ I h) λv s1 ⟨x,H1,I1,r1,q1⟩=>chain_link (thn (hb w6 s1 O H1 _ I1 q1) λu s2 ⟨y,H2,I2,r2,q2⟩=>
  thn (ho w6 s2 O H2 x y v u _ I2 r1 r2 q2) λd s3 ⟨z,H3,I3,r3,k,e,q3⟩=>?_)) hm
 subst e;cases r3;refine wpAny_truthy_bool ?_;cases k with
 |false=>exact ite_ff ⟨.bl false,H3,I3,rfl,q3⟩
 |true=>exact ite_tt (chain_last (thn (hc w6 s3 O H3 _ I3 q3) λw' s4 ⟨z',H4,I4,r4,q4⟩=>ho' w6 s4 O H4 y z' u w' Q I4 r2 r4 q4))
theorem WD(ho:OpR X (compareOp op) r)(ho':OpR X (compareOp op') r')(ha:PE X a ta)(hb:PE X b tb)(hc:PE X c tc)
  (hm:lastMarks [op,op'] [b,c]=false:=by with_unfolding_all rfl):PT X (.Compare a [op,op'] [b,c] pos) (Zx (Qa r r' ta tb tc)):=by
 intro w6 s O H Q I h;refine isTrue_chain (thn (ha w6 s O H _ I h) λv s1 ⟨x,H1,I1,r1,q1⟩=>test_link (thn (hb w6 s1 O H1 _ I1 q1) λu s2 ⟨y,H2,I2,r2,q2⟩=>
  thn (ho w6 s2 O H2 x y v u _ I2 r1 r2 q2) λd s3 ⟨z,H3,I3,r3,k,e,q3⟩=>?_)) hm
 subst e;cases r3;refine wpAny_truthy_bool ?_;cases k with
 |false=>
  obtain⟨k',e',q'⟩:=q3;cases e';exact ite_ff ⟨H3,I3,q'⟩
 |true=>
  refine ite_tt (test_last (thn (hc w6 s3 O H3 _ I3 q3) λw' s4 ⟨z',H4,I4,r4,q4⟩=>thn (ho' w6 s4 O H4 y z' u w' _ I4 r2 r4 q4) λd' s5 ⟨z2,H5,I5,r5,k2,e2,q5⟩=>?_));subst e2;cases r5;exact wpAny_truthy_bool ⟨H5,I5,q5⟩
theorem Ld:(sizeLine:Nat)<2 ^ 63:=by rw[sizeLine_eq];decide
theorem Qn:OpR X (binaryOp .Add) (λx y H Q=>∃i j,x=.str i/\y=.str j/\i.length+j.length<=sizeLine/\Q (.str (i++j)) H):=by
 intro w6 s O H x y v u Q I rx ry h;obtain⟨i,j,rfl,rfl,hz,q⟩:=h;obtain⟨t,rfl⟩:=rx;obtain⟨t',rfl⟩:=ry;exact add_str (λt' tk=>⟨.str (i++j),H,I.tok _,⟨_,rfl⟩,q⟩) hz
theorem DX(r:Vals [x] us):∃u,us=[u]/\RelV x u:=by
 cases r with
 |cons r1 r2=>cases r2;exact⟨_,rfl,r1⟩
theorem On(r:Vals [x,y] us):∃u w',us=[u,w']/\RelV x u/\RelV y w':=by
 cases r with
 |cons r1 r2=>
  cases r2 with
  |cons r3 r4=>cases r4;exact⟨_,_,rfl,r1,r3⟩
theorem UT(hc:X.calm=true):CS X (.builtin "max") (λxs H Q=>∃i j,xs=[.int i,.int j]/\Q (.int (if j > i then j else i)) H):=by
 intro w6 s O H xs us Q I r h;obtain⟨i,j,rfl,q⟩:=h;obtain⟨u,w',rfl,⟨t,rfl⟩,⟨t',rfl⟩⟩:=On r;refine max_two_ints (I.ok.hd hc) λh' tk k=>⟨_,H,I.kept k,?_,q⟩;by_cases hj:j > i
 ·rw[if_pos hj,if_pos hj];exact⟨_,rfl⟩
 ·rw[if_neg hj,if_neg hj];exact⟨_,rfl⟩
theorem US(hc:X.calm=true):CS X (.builtin "min") (λxs H Q=>∃i j,xs=[.int i,.int j]/\Q (.int (if j<i then j else i)) H):=by
 intro w6 s O H xs us Q I r h;obtain⟨i,j,rfl,q⟩:=h;obtain⟨u,w',rfl,⟨t,rfl⟩,⟨t',rfl⟩⟩:=On r;refine min_two_ints (I.ok.hd hc) λh' tk k=>⟨_,H,I.kept k,?_,q⟩;by_cases hj:j<i
 ·rw[if_pos hj,if_pos hj];exact⟨_,rfl⟩
 ·rw[if_neg hj,if_neg hj];exact⟨_,rfl⟩
theorem UV:CS X (.type "int") (λxs H Q=>(∃i,xs=[.int i]/\Q (.int i) H)∨∃k,xs=[.bl k]/\Q (.int (if k then 1 else 0)) H):=by
 intro w6 s O H xs us Q I r h;rcases h with ⟨i,rfl,q⟩|⟨k,rfl,q⟩
 ·obtain⟨u,rfl,t,rfl⟩:=DX r;exact call_int_int ⟨.int i,H,I,⟨_,rfl⟩,q⟩
 ·obtain⟨u,rfl,r1⟩:=DX r;cases r1;exact call_int_bool ⟨.int (if k then 1 else 0),H,I.tok _,⟨_,rfl⟩,q⟩
theorem OM:CS X (.type "str") (λxs H Q=>∃i,xs=[.int i]/\i.natAbs.log2<1920/\Q (.str (toString i)) H):=by
 intro w6 s O H xs us Q I r h;obtain⟨i,rfl,hz,q⟩:=h;obtain⟨u,rfl,t,rfl⟩:=DX r;exact PySem.P.str_of_int hz ⟨.str _,H,I.tok _,⟨_,rfl⟩,q⟩
def iD(K:PySem.W.Frag)(x:V)(H:Hp)(n:Nat):Prop:=
 match x with
 | .str y=>y.length<=sizeLine/\n=y.length
 | .byt y=>y.size<=sizeLine/\n=y.size
 | .ref p=>(∃xs,SqL K H p xs/\n=xs.length)∨∃xs,SqT K H p xs/\n=xs.length
 |_=>False
theorem XU:CS X (.builtin "len") (λxs H Q=>∃x n,xs=[x]/\iD X.K x H n/\Q (.int n) H):=by
 intro w6 s O H xs us Q I r h;obtain⟨x,n,rfl,e,q⟩:=h;obtain⟨u,rfl,rx⟩:=DX r;have hl:=Ld;have hs:sizeLine=16777216:=sizeLine_eq;cases x with
 |str y=>
  obtain⟨t,rfl⟩:=rx;obtain⟨hy,e'⟩:y.length<=sizeLine/\n=y.length:=e;subst e';exact len_str (by omega) ⟨.int _,H,I.tok _,⟨_,rfl⟩,q⟩
 |byt y=>
  obtain⟨t,rfl⟩:=rx;obtain⟨hy,e'⟩:y.size<=sizeLine/\n=y.size:=e;subst e';exact PySem.W.len_bytes (by omega) ⟨.int _,H,I.tok _,⟨_,rfl⟩,q⟩
 |ref p=>
  cases rx;have e':(∃xs,SqL X.K H p xs/\n=xs.length)∨∃xs,SqT X.K H p xs/\n=xs.length:=e;rcases e' with ⟨xs,hx,e'⟩|⟨xs,hx,e'⟩
  ·subst e';obtain⟨its,r',pl,hz⟩:=I.list hx;have hlen:=r'.length;exact Calls.call_len_list pl.isList (by simp only[List.size_toArray];omega) ⟨.int xs.length,H,I.tok _,⟨_,by simp only[List.size_toArray];rw[hlen]⟩,q⟩
  ·subst e';obtain⟨its,r',pl,hz⟩:=I.tuple hx;have hlen:=r'.length;exact len_tuple pl (by simp only[List.size_toArray];omega) ⟨.int xs.length,H,I.tok _,⟨_,by simp only[List.size_toArray];rw[hlen]⟩,q⟩
 |_=>exact(show False from e).elim
end
structure ObjM(h:Heap)(x dx C:Addr)(mA:Str->Option Value):Prop where
 obj:h.get? x=some (PySem.W.instObj C dx)
 ns:h.Ns1 dx mA
 ne:dx≠x
theorem T0{h:Heap}{dx:Addr}{mA:Str->Option Value}(n:h.Ns1 dx mA):∃od,h.get? dx=some od/\∀name,PySem.W.lookIn name od=some (mA name):=by
 obtain⟨o,es,ep,ho,hd,hk,_,hm⟩:=n;refine⟨o,ho,λname=>?_⟩;have e:=hm name;unfold nsFind findBy at e;rw[←Array.find?_toList] at e;unfold PySem.W.lookIn;rw[hd];dsimp only;split
 ·rename_i y q;rw[q] at e;exact congrArg some e
 ·rename_i q;rw[q] at e;have a:es.toList.any (·.refKey)=false:=by
   rw[List.any_eq_false];intro y hy;obtain⟨z,t,hkey⟩:=hk y (Array.mem_toList_iff.mp hy);simp[DictEntry.refKey,hkey]
  have a':¬es.toList.any (·.refKey)=true:=by rw[a];exact AAf
  rw[if_neg a'];exact congrArg some e
theorem ObjM.look(I:ObjM h x dx C mA):∃od,PySem.W.InstAt h x (PySem.W.instObj C dx) C (some od)/\∀name,PySem.W.lookIn name od=some (mA name):=
 let ⟨od,ho,hl⟩:=T0 I.ns
 ⟨od,⟨I.obj,rfl,rfl,ho⟩,hl⟩
section
variable{prog:Program}{w:World}{A:Around}{E:Value->Shared->Prop}{s:Shared}{K:PySem.W.Frag}{x dx C f:Addr}{mA:Str->Option Value}{name:Str}{v:Value}
theorem ZR(X:K.In s.heap)(I:ObjM s.heap x dx C mA)(hg:PySem.W.plainGet K C name=true)(hh:PySem.W.hasDictIn K C=true)
  (ha:PySem.W.findIn K (.ref C) name=some none) (hv:mA name=some v) (hv':PySem.W.handedIn v=true) (h:Q v { s with toks:=s.toks+1 }) :
  wpAny (model prog w) A (getAttr (.ref x) name expr) Q E s:=by
 obtain⟨od,J,hl⟩:=I.look;exact PySem.W.get_value X J (PySem.W.plainGet_of hg).1 (PySem.W.findObj_own hh ha rfl (by rw[hl,hv])) hv' h
theorem W6(X:K.In s.heap)(I:ObjM s.heap x dx C mA)(hg:PySem.W.plainGet K C name=true)
  (hf:PySem.W.findIn K (.ref C) name=some (some (.ref f))) (ht:PySem.W.isFn K (.ref f)=true) (hv:mA name=none) (h:Q (.ref f,[.ref x]) s) :
  wpAny (model prog w) A (getMethod (.ref x) name pl) Q E s:=by
 obtain⟨od,J,hl⟩:=I.look;exact PySem.W.method_fn X J (PySem.W.plainGet_of hg).1 (PySem.W.plainGet_of hg).2 hf (beq_iff_eq.mp ht) (by show (PySem.W.lookIn name od).map (·.isSome)=some false;rw[hl,hv];rfl) h
theorem YK(X:K.In s.heap)(I:ObjM s.heap x dx C mA)
  (hs:PySem.W.findIn K (.ref C) "__setattr__" = some (some (.builtin "object.__setattr__"))) (hp:PySem.W.plainOver K C=true) (ht:PySem.W.takerIn K C name=some none) (hh:PySem.W.hasDictIn K C=true)
  (hw:PySem.Within mA ns) (hsz:ns.length<=sizeLine)
  (h:∀h',ObjM h' x dx C (λy=>if y=name then some v else mA y)->Heap.SameBut dx s.heap h'->Q () { s with heap:=h',toks:=s.toks+2 }) :
  wpAny (model prog w) A (setAttr (.ref x) name v) Q E s:=by
 obtain⟨od,J,hl⟩:=I.look;refine PySem.W.set_plain X J hs (PySem.W.osa_open (s:={ s with toks:=s.toks+1 }) (r:=none) X J hp ht λb=>?_);obtain⟨cd,hc,hd'⟩:=PySem.W.any_some hh;have hx:s.heap.get? x=some ⟨.ref C,some dx,.plain,#[]⟩:=I.obj;refine AAA (AAB (AAA (AAA (wpAny_loadPart hx (AAA (PySem.W.Looks.here (s:={ s with toks:=s.toks+1 }) (PySem.W.looks_clsIn X hc) ?_))))));rw[hd'];refine AAB (a:=some dx) (AAA (AAB (AAA ?_)));refine wpAny_nsSet1 (s:={ s with toks:=s.toks+1 }) I.ns λh' hn2 hs2=>?_;obtain⟨oD,esD,epD,hoD,hdD,hcD⟩:=hn2.count (PySem.Within.cons name v hw);refine AAA (wpAny_lookBehind hoD (by rw[hdD];exact pastItsLine_dict (AAq hcD (by rw[AAH];omega))) ?_);exact AAB (h _ ⟨(hs2.2 _ (Ne.symm I.ne)).trans I.obj,hn2,I.ne⟩ hs2)
theorem Wl(X:K.In s.heap)(hm:PySem.W.makesIn K C=true)
  (hi:PySem.W.findIn K (.ref C) "__init__" = some (some (.ref f))) (hf:PySem.W.typeIn K (.ref f)=some (.type "function"))
  (h:codeAny (model prog w) (A.under (.builtin "type.__call__" ⟨.ref C::vs,kw⟩)) (.call (.ref f) ⟨.ref (s.heap.objs.size+1)::vs,kw⟩) (PySem.W.InitBack (s.heap.objs.size+1) R)
   { s with heap:=(s.heap.push PySem.W.emptyDict).push (PySem.W.instObj C s.heap.objs.size) }) :
  codeAny (model prog w) A (.call (.ref C) ⟨vs,kw⟩) R s:=by
 obtain⟨hh,g,d,t,os⟩:=s;exact PySem.W.make_core (PySem.W.makes_of X hm) (PySem.W.looks_findIn X hi) (λself=>PySem.W.bind_fn X self hf) (.inl rfl) h
end
noncomputable def F5(f:Str)(v:V):List (Str×V)->List (Str×V)
 |[]=>[(f,v)]
 |(g,x)::r=>if g=f then (g,v)::r else (g,x)::F5 f v r
theorem Jt(f g:Str)(v:V):∀fs:List (Str×V),(F5 f v fs).lookup g=if g=f then some v else fs.lookup g
 |[]=>by
  show List.lookup g [(f,v)]=_;by_cases h:g=f
  ·have hb:(g==f)=true:=beq_iff_eq.mpr h;simp only[List.lookup,hb,if_pos h]
  ·have hb:(g==f)=false:=AAd.mpr h;simp only[List.lookup,hb,if_neg h]
 |(k,x)::r=>by
  have ih:=Jt f g v r;rw[show F5 f v ((k,x)::r)=(if k=f then (k,v)::r else (k,x)::F5 f v r) from rfl];by_cases hk:k=f
  ·rw[if_pos hk];by_cases h:g=k
   ·have hb:(g==k)=true:=beq_iff_eq.mpr h;simp only[List.lookup,hb,if_pos (h.trans hk)]
   ·have hb:(g==k)=false:=AAd.mpr h;simp only[List.lookup,hb,if_neg (λe:g=f=>h (e.trans hk.symm))]
  ·rw[if_neg hk];by_cases h:g=k
   ·have hb:(g==k)=true:=beq_iff_eq.mpr h;simp only[List.lookup,hb,if_neg (λe:g=f=>hk (h.symm.trans e))]
   ·have hb:(g==k)=false:=AAd.mpr h;simp only[List.lookup,hb];exact ih
theorem JU(f:Str)(v:V):∀fs:List (Str×V),f∈(F5 f v fs).map (·.1)/\∀g,g∈fs.map (·.1)->g∈(F5 f v fs).map (·.1)
 |[]=>⟨by simp[F5],λg h=>by simp at h⟩
 |(k,x)::r=>by
  obtain⟨i1,i2⟩:=JU f v r;rw[show F5 f v ((k,x)::r)=(if k=f then (k,v)::r else (k,x)::F5 f v r) from rfl];by_cases hk:k=f
  ·rw[if_pos hk];subst hk;exact⟨by simp,λg h=>by simpa using h⟩
  ·rw[if_neg hk];refine⟨?_,λg h=>?_⟩
   ·rw[AAW];exact AAQ _ i1
   ·rw[AAW] at h ⊢;rcases AAI.mp h with e|e
    ·exact AAI.mpr (.inl e)
    ·exact AAQ _ (i2 g e)
theorem Ju(f:Str)(v:V):∀fs:List (Str×V),(F5 f v fs).length<=fs.length+1
 |[]=>by simp[F5]
 |(k,x)::r=>by
  have ih:=Ju f v r;rw[show F5 f v ((k,x)::r)=(if k=f then (k,v)::r else (k,x)::F5 f v r) from rfl];by_cases hk:k=f
  ·rw[if_pos hk,AAH,AAH];omega
  ·rw[if_neg hk,AAH,AAH];omega
theorem RelO.some_of(r:RelO (some v) o):∃u,o=some u/\RelV v u:=by
 cases o with
 |none=>exact(show False from r).elim
 |some u=>exact⟨u,rfl,r⟩
theorem RelO.none_of(r:RelO none o):o=none:=by
 cases o with
 |none=>rfl
 |some u=>exact(show False from r).elim
theorem UF(r:RelV v u):PySem.W.handedIn u=true:=by
 cases v with
 |non=>cases (show u=Value.none from r);rfl
 |bl b=>cases (show u=Value.bool b from r);rfl
 |int i=>obtain⟨t,e⟩:=(show ∃t,u=Value.int i t from r);cases e;rfl
 |str x=>obtain⟨t,e⟩:=(show ∃t,u=Value.str x t from r);cases e;rfl
 |byt b=>obtain⟨t,e⟩:=(show ∃t,u=Value.bytes b t from r);cases e;rfl
 |flt b=>obtain⟨t,e⟩:=(show ∃t,u=Value.float b t from r);cases e;rfl
 |ref a=>cases (show u=Value.ref a from r);rfl
 |ty n=>cases (show u=Value.type n from r);rfl
section
variable{P:Program}{w:World}{H:Hp}{h:Heap}{a C dx:Addr}{fs:List (Str×V)}
theorem KQ(hok:HOk P w H h)(e:H a=some (.ins C dx fs)):∃mA,ObjM h a dx C mA/\(∀f,RelO (fs.lookup f) (mA f))/\PySem.Within mA (fs.map (·.1))/\fs.length<=1000/\H dx=some (.own a):=by
 obtain⟨d,z,ne,ob,mA,n,r,q⟩:=(show ObjOk P w H h a (.ins C dx fs) from hok a _ e);exact⟨mA,⟨ob,n,ne⟩,r,q,z,d⟩
end
structure Cls(K:PySem.W.Frag)(C:Addr):Prop where
 pg:PySem.W.plainGet K C Str.empty=true
 hd:PySem.W.hasDictIn K C=true
 po:PySem.W.plainOver K C=true
 sa:PySem.W.findIn K (.ref C) "__setattr__" = some (some (.builtin "object.__setattr__"))
theorem Cls.get{K:PySem.W.Frag}{C:Addr}(c:Cls K C)(f:Str):PySem.W.plainGet K C f=true:=c.pg
def NoAttr(K:PySem.W.Frag)(C:Addr)(f:Str):Prop:=PySem.W.findIn K (.ref C) f=some none
theorem NoAttr.taker{K:PySem.W.Frag}{C:Addr}{f:Str}(n:NoAttr K C f):PySem.W.takerIn K C f=some none:=by
 unfold PySem.W.takerIn;rw[show PySem.W.findIn K (.ref C) f=some none from n];rfl
structure Xi(K:PySem.W.Frag)(C:Addr)(m:Str)(f:Addr):Prop where
 at_:PySem.W.findIn K (.ref C) m=some (some (.ref f))
 fn:PySem.W.isFn K (.ref f)=true
 kp:PySem.W.keepIn K (.ref f)=true
section
variable{X:Cx}{w6:List (Addr×Obj)}{O:St}{H:Hp}{s:Shared}{a C dx:Addr}{fs:List (Str×V)}{f:Str}{v:V}{A:Around}{E:Value->Shared->Prop}
theorem Qx(I:Inv X w6 O H s)(e:H a=some (.ins C dx fs))(c:Cls X.K C)(n:NoAttr X.K C f)(l:fs.lookup f=some v)
  (h:∀u s',Inv X w6 O H s'->RelV v u->Q u s'):wpAny (model X.prog X.w) A (getAttr (.ref a) f b) Q E s:=by
 obtain⟨mA,O_,r,_,_,_⟩:=KQ I.hok e;obtain⟨u,hu,ru⟩:=RelO.some_of (v:=v) (o:=mA f) (by rw[←l];exact r f);exact ZR I.kIn O_ (c.get f) c.hd n hu (UF ru) (h u _ (I.tok _) ru)
theorem Lj(I:Inv X w6 O H s)(e:H a=some (.ins C dx fs))(c:Cls X.K C)(k:Xi X.K C m g)(l:fs.lookup m=none)
  (h:Q (.ref g,[.ref a]) s):wpAny (model X.prog X.w) A (getMethod (.ref a) m pl) Q E s:=by
 obtain⟨mA,O_,r,_,_,_⟩:=KQ I.hok e;have hn:mA m=none:=RelO.none_of (by rw[←l];exact r m);exact W6 I.kIn O_ (c.get m) k.at_ k.fn hn h
theorem Qc(I:Inv X w6 O H s)(e:H a=some (.ins C dx fs))(c:Cls X.K C)(n:NoAttr X.K C f)(hl:fs.length<1000)(ry:RelV y u)
  (h:∀s',Inv X w6 O (upd H a (.ins C dx (F5 f y fs))) s'->Q () s'):wpAny (model X.prog X.w) A (setAttr (.ref a) f u) Q E s:=by
 obtain⟨mA,O_,r,wi,_,ho⟩:=KQ I.hok e;have hz:(fs.map (·.1)).length<=sizeLine:=by rw[AAF,sizeLine_eq];omega
 refine YK I.kIn O_ c.sa c.po n.taker c.hd wi hz λh' O' sb=>h _ ?_;have hd:∃o,h'.get? dx=some o:=let ⟨o,_,_,e',_⟩:=O'.ns;⟨o,e'⟩
 refine I.write (x:=a) (e:=dx) (by rw[e];exact True.intro) (.inr ho) (λb q hb z=>(sb.2 b hb).trans z) hd ?_;refine⟨by rw[BN O_.ne];exact ho,?_,O_.ne,O'.obj,_,O'.ns,λg=>?_,λg hg=>?_⟩
 ·have:=Ju f y fs;omega
 ·show RelO ((F5 f y fs).lookup g) (if g=f then some u else mA g);rw[Jt];by_cases q:g=f
  ·rw[if_pos q,if_pos q];exact ry
  ·rw[if_neg q,if_neg q];exact r g
 ·by_cases q:g=f
  ·rw[q];exact(JU f y fs).1
  ·refine(JU f y fs).2 g (wi g λz=>hg ?_);show (if g=f then some u else mA g)=none;rw[if_neg q];exact z
theorem Inv.made(I:Inv X w6 O H s):Inv X w6 O (upd (upd H s.heap.objs.size (.own (s.heap.objs.size+1))) (s.heap.objs.size+1) (.ins C s.heap.objs.size []))
  { s with heap:=(s.heap.push PySem.W.emptyDict).push (PySem.W.instObj C s.heap.objs.size) }:=by
 have e1:(s.heap.push PySem.W.emptyDict).get? s.heap.objs.size=some PySem.W.emptyDict:=AAD s.heap rfl;have e2:((s.heap.push PySem.W.emptyDict).push (PySem.W.instObj C s.heap.objs.size)).get? (s.heap.objs.size+1)=some (PySem.W.instObj C s.heap.objs.size):=by
  have:=AAD (s.heap.push PySem.W.emptyDict) (o:=PySem.W.instObj C s.heap.objs.size) rfl
  rwa [Heap.size_push] at this
 have e3:(s.heap.push PySem.W.emptyDict).Ns s.heap.objs.size (λ_=>none):=⟨PySem.W.emptyDict,#[],_,e1,rfl,(λe he=>absurd he (by simp)),λ_=>rfl⟩;have I1:=I.laid (a:=s.heap.objs.size) (o:=.own (s.heap.objs.size+1)) (h':=s.heap.push PySem.W.emptyDict) (t':=s.toks) (λb u q=>AAC _ q) (AAE _) ⟨_,e1⟩;refine I1.laid (a:=s.heap.objs.size+1) (o:=.ins C s.heap.objs.size []) (t':=s.toks) (λb u q=>AAC _ q) (Nat.le_of_eq (Heap.size_push _ _)) ?_;have ne:s.heap.objs.size≠s.heap.objs.size+1:=AAc (Nat.lt_succ_self _);refine⟨by rw[BN ne,B2],AAi _,ne,e2,λ_=>none,(Heap.Ns1.of_empty e3).at λo q=>AAC _ q,λ_=>True.intro,λy hy=>absurd rfl hy⟩
theorem Zn(hb:attributeBase e f env (eval e env)=eval e env)
  (h:wpAny (model prog w) A (eval e env) (λo s₁=>wpAny (model prog w) A (getAttr o f true) Q E s₁) E s):wpAny (model prog w) A (eval (.Attribute e f pos) env) Q E s:=
 Attribute_any_ h (by rw[arm_eval_Attribute,hb])
end
noncomputable def gg(K:PySem.W.Frag)(ta:TE)(f:Str):TE:=λO H Q=>ta O H λx H1=>∃a C dx fs v,x=.ref a/\H1 a=some (.ins C dx fs)/\Cls K C/\NoAttr K C f/\fs.lookup f=some v/\Q v H1
noncomputable def gi(K:PySem.W.Frag)(ta tv:TE)(f:Str):TS:=λD O H=>tv O H λy H1=>ta O H1 λx H2=>∃a C dx fs,x=.ref a/\H2 a=some (.ins C dx fs)/\Cls K C/\NoAttr K C f/\fs.length<1000 /\
 D.nx O (upd H2 a (.ins C dx (F5 f y fs)))
section
variable{X:Cx}{o e value:Expr}{f:Str}{pos pos':Pos}{ta tv:TE}
theorem bn(he:PE X e ta)(hb:attributeBase e f X.env (eval e X.env)=eval e X.env):PE X (.Attribute e f pos) (gg X.K ta f):=by
 intro w6 s O H Q I h;refine Zn hb (thn (he w6 s O H _ I h) λu s1 ⟨x,H1,I1,rx,a,C,dx,fs,v,ex,ea,c,n,l,q⟩=>?_);subst ex;obtain rfl:u=Value.ref a:=rx;exact Qx I1 ea c n l λu' s2 I2 ru=>⟨v,H1,I2,ru,q⟩
theorem bU(ha:PE X o ta)(hv:PE X value tv)(hs:swapsWith value (some (.Attribute o f pos')) pos.line X.env=pure false):PS X (.Assign [.Attribute o f pos'] value pos) (gi X.K ta tv f):=by
 intro w6 s O H D I h;refine plainObj_wpAny_Assign_Attribute (thn (hv w6 s O H _ I h) λu s1 ⟨y,H1,I1,ry,q⟩=>thn (ha w6 s1 O H1 _ I1 q) λov s2 ⟨x,H2,I2,rx,a,C,dx,fs,ex,ea,c,n,l,q2⟩=>?_) hs;subst ex;obtain rfl:ov=Value.ref a:=rx;exact Qc I2 ea c n l ry λs3 I3=>⟨O,_,I3,q2⟩
end
section
variable{X:Cx}{w6:List (Addr×Obj)}{O:St}{H:Hp}{s:Shared}{A:Around}{E:Value->Shared->Prop}{Q:Value->Shared->Prop}{c:Value}{b:Bool}
inductive JE (K:PySem.W.Frag) (H:Hp):V->Value->Prop where
 |non:JE K H .non (.type "NoneType")
 |bl (x:Bool):JE K H (.bl x) (.type "bool")
 |int (i:Int):JE K H (.int i) (.type "int")
 |str (x:Str):JE K H (.str x) (.type "str")
 |flt (x:UInt64):JE K H (.flt x) (.type "float")
 |lst {a:Addr} {xs:List V} (e:H a=some (.lst xs)):JE K H (.ref a) (.type "list")
 |frz {a:Addr} {o:Obj} {xs:List V} (e:H a=some (.frz o (.lst xs))):JE K H (.ref a) (.type "list")
 |tup {a:Addr} {xs:List V} (e:H a=some (.tup xs)):JE K H (.ref a) (.type "tuple")
 |dK {a:Addr} {kvs:List (Key×V)} (e:H a=some (.dK kvs)):JE K H (.ref a) (.type "dict")
 |dT {a:Addr} {kvs:List (List Key×V)} (e:H a=some (.dT kvs)):JE K H (.ref a) (.type "dict")
 |ins {a C dx:Addr} {fs:List (Str×V)} (e:H a=some (.ins C dx fs)) (cl:Cls K C) (ha:PySem.W.findIn K (.ref C) "__class__" = some (some (.builtin "object.__class__")))
   (hn:PySem.W.specialIn K (.builtin "object.__class__") "__get__" = some (some (.builtin "getset_descriptor.__get__"))) (htk:PySem.W.takesIn K (.builtin "object.__class__")=some true)
   (hm:PySem.W.mroIn K C (.type "object")=some true):JE K H (.ref a) (.ref C)
theorem UB(I:Inv X w6 O H s)(rx:RelV x u)(ty:JE X.K H x t)(e:PySem.W.kitOne X.K t c=some b)(h:∀tk,Q (.bool b) { s with toks:=tk }):
  wpAny (model X.prog X.w) A (call (.builtin "isinstance") [u,c]) Q E s:=by
 cases ty with
 |non=>cases (show u=Value.none from rx);exact PySem.W.kia_one PySem.W.kitx_none I.kIn True.intro e (λz=>nomatch z) h
 |bl y=>cases (show u=Value.bool y from rx);exact PySem.W.kia_one PySem.W.kitx_bool I.kIn True.intro e (λz=>nomatch z) h
 |int i=>obtain⟨t,q⟩:=(show ∃t,u=Value.int i t from rx);cases q;exact PySem.W.kia_one PySem.W.kitx_int I.kIn True.intro e (λz=>nomatch z) h
 |str y=>obtain⟨t,q⟩:=(show ∃t,u=Value.str y t from rx);cases q;exact PySem.W.kia_one PySem.W.kitx_str I.kIn True.intro e (λz=>nomatch z) h
 |flt y=>obtain⟨t,q⟩:=(show ∃t,u=Value.float y t from rx);cases q;exact PySem.W.kia_one PySem.W.kitx_float I.kIn True.intro e (λz=>nomatch z) h
 |@lst a xs ea=>
  cases (show u=Value.ref a from rx);obtain⟨_,_,n,_,h1⟩:=(show ObjOk X.prog X.w H s.heap a (.lst xs) from I.hok a _ ea);exact PySem.W.kia_one PySem.W.kitx_list I.kIn ⟨_,h1,rfl⟩ e (λz=>nomatch z) h
 |@frz a ob xs ea=>
  cases (show u=Value.ref a from rx);obtain⟨_,_,_,n,_,h1⟩:=(show ObjOk X.prog X.w H s.heap a (.frz ob (.lst xs)) from I.hok a _ ea);exact PySem.W.kia_one PySem.W.kitx_list I.kIn ⟨_,h1,rfl⟩ e (λz=>nomatch z) h
 |@tup a xs ea=>
  cases (show u=Value.ref a from rx);obtain⟨_,_,_,p⟩:=(show ObjOk X.prog X.w H s.heap a (.tup xs) from I.hok a _ ea);obtain⟨o,h1,h2,_⟩:=p;exact PySem.W.kia_one PySem.W.kitx_tuple I.kIn ⟨o,h1,h2⟩ e (λz=>nomatch z) h
 |@dK a kvs ea=>
  cases (show u=Value.ref a from rx);obtain⟨_,_,vs,_,p⟩:=(show ObjOk X.prog X.w H s.heap a (.dK kvs) from I.hok a _ ea);obtain⟨o,es,ep,h1,h2,_⟩:=p;exact PySem.W.kia_one PySem.W.kitx_dict I.kIn ⟨o,h1,h2.1⟩ e (λz=>nomatch z) h
 |@dT a kvs ea=>
  cases (show u=Value.ref a from rx);obtain⟨_,_,xs,_,o,es,ep,h1,h2,_⟩:=(show ObjOk X.prog X.w H s.heap a (.dT kvs) from I.hok a _ ea);exact PySem.W.kia_one PySem.W.kitx_dict I.kIn ⟨o,h1,h2.1⟩ e (λz=>nomatch z) h
 |@ins a C dx fs ea cl ha hn htk hm=>
  cases (show u=Value.ref a from rx);obtain⟨mA,O_,_⟩:=KQ I.hok ea;obtain⟨od,J,_⟩:=O_.look;exact PySem.W.kia_one (PySem.W.kitx_own (cl.get _) cl.hd ha hn htk hm) I.kIn J e (λz=>nomatch z) h
end
structure Room(k:Nat)(A:Around):Prop where
 hd:A.handled=none
 dp:A.depth+3 * k+5<recursionLimit
 un:A.units+16 * k+200<cLine
theorem Room.mono(r:Room k A)(h:j<=k):Room j A:=⟨r.hd,by have:=r.dp;omega,by have:=r.un;omega⟩
theorem Room.deeper(r:Room (k+1) A)(env:Env):Room k (A.deeper env):=
 ⟨r.hd,by have:=r.dp;show A.depth+1+3 * k+5<_;omega,by have:=r.un;show A.units+3+16 * k+200<_;omega⟩
theorem Qs{A:Around}{us:List Value}{kw:List (Str×Value)}:(A.under (.builtin "type.__call__" ⟨.ref C::us,kw⟩)).depth=A.depth+1:=by
 first|rfl|simp[Around.under,Code.weight,Code.isCreation,Code.isGuard,Code.isCaller,Code.frames,Code.isFrame,guardIds]
theorem Qr{A:Around}{C:Addr}:(A.under (.builtin "type.__call__" ⟨.ref C::us,kw⟩)).units=A.units+1:=by
 first|rfl|simp[Around.under,Code.cUnits,Code.frames,Code.isFrame]
theorem Room.make(r:Room (k+1) A)(C:Addr)(us:List Value)(kw:List (Str×Value)):Room k (A.under (.builtin "type.__call__" ⟨.ref C::us,kw⟩)):=
 ⟨r.hd,by have:=r.dp;rw[Qs];omega,by have:=r.un;rw[Qr];omega⟩
theorem Room.depth(r:Room k A):A.depth<recursionLimit:=by have:=r.dp;omega
theorem Room.units(r:Room k A):A.units+64<cLine:=by have:=r.un;omega
noncomputable def aq:TA:=λ_ H Q=>Q [] H
noncomputable def d9(ta:TE)(tr:TA):TA:=λO H Q=>ta O H λx H1=>tr O H1 λxs H2=>Q (x::xs) H2
section
variable{X:Cx}{e:Expr}{es:List Expr}{te:TE}{t:TA}{pos:Pos}
theorem Ql:PA X [] aq:=λ_ _ _ _ H Q I h=>Calls.spliced_nil ⟨[],H,I,.nil,h⟩
theorem Nu(ha:PE X e te)(hr:PA X es t)(hs:starEach (e::es) X.env=(false,eval e X.env)::starEach es X.env:=by rfl):PA X (e::es) (d9 te t):=by
 intro pos w6 s O H Q I h;rw[hs];show wpAny _ _ (spliced ((false,eval e X.env)::backTo pos (starEach es X.env))) _ _ s;refine Calls.spliced_cons (thn (ha w6 s O H _ I h) λu s1 ⟨x,H1,I1,r1,q1⟩=>?_);exact thn (hr pos w6 s1 O H1 _ I1 q1) λus s2 ⟨xs,H2,I2,r2,q2⟩=>⟨x::xs,H2,I2,.cons r1 r2,q2⟩
noncomputable def gU(t:TA):TE:=λO H Q=>t O H λxs H1=>xs.length<=sizeLine/\∀p,H1 p=none->Q (.ref p) (upd H1 p (.tup xs))
noncomputable def gc(t:TA):TE:=λO H Q=>t O H λxs H1=>xs.length<=sizeLine/\∀p,H1 p=none->Q (.ref p) (upd H1 p (.lst xs))
theorem bc(h:PA X es t):PE X (.Tuple es x1 pos) (gU t):=by
 intro w6 s O H Q I hq;refine wpAny_Tuple_spliced (thn (h pos w6 s O H _ I hq) λus s1 ⟨xs,H1,I1,r,z,q⟩=>⟨by rw[←r.length];exact z,?_⟩);have hf:H1 s1.heap.objs.size=none:=I1.hok.fresh (AAE _);refine⟨.ref s1.heap.objs.size,upd H1 s1.heap.objs.size (.tup xs),I1.laid (t':=s1.toks) (λb u e=>AAC _ e) (AAE _) ?_,rfl,q _ hf⟩;exact⟨z,us,r,⟨_,AAD _ rfl,rfl,_,rfl⟩⟩
theorem WQ(h:PA X es t):PE X (.List es pos) (gc t):=by
 intro w6 s O H Q I hq;refine wpAny_List_spliced (thn (h pos w6 s O H _ I hq) λus s1 ⟨xs,H1,I1,r,z,q⟩=>⟨by rw[←r.length];exact z,?_⟩);have hf:H1 s1.heap.objs.size=none:=I1.hok.fresh (AAE _);refine⟨.ref s1.heap.objs.size,upd H1 s1.heap.objs.size (.lst xs),I1.laid (t':=s1.toks) (λb u e=>AAC _ e) (AAE _) ?_,rfl,q _ hf⟩;exact⟨z,us,0,r,AAD _ rfl⟩
end
noncomputable abbrev Sp:=List V->Hp->VK->XK->Prop
noncomputable abbrev CXT:=List Env->Hp->Shared->XK->Value->Shared->Prop
structure Env0(P:Program)(w:World)(K:PySem.W.Frag)(mg:Str->Option Value)(base:Heap)(A:Around)(outer:List Env)(s:Shared)(H:Hp):Prop where
 frames:A.frames=some outer
 mod:Mod K mg base
 bs:∀b o,base.get? b=some o->s.heap.get? b=some o/\H b=none
 bsz:base.objs.size<=s.heap.objs.size
 funs:s.heap.FunFrames base outer
 frf:∀b∈frs outer,H b=none
 hok:HOk P w H s.heap
 bare:AllBare s.gens
def CE(outer:List Env)(P:Program)(w:World)(H:Hp)(s:Shared)(Q:VK)(u:Value)(s':Shared):Prop:=
 ∃v H',s'.os=s.os/\AllBare s'.gens/\Un (frs outer) [] H H' s.heap s'.heap/\HOk P w H' s'.heap/\RelV v u/\Q v H'
def CR(CX:CXT)(outer:List Env)(P:Program)(w:World)(H:Hp)(s:Shared)(Q:VK)(E:XK)(r:Result)(s':Shared):Prop:=
 match r with
 | .ok (.ret u)=>CE outer P w H s Q u s'
 | .ok _=>False
 | .error e=>CX outer H s E e s'
structure FnOk(P:Program)(w:World)(K:PySem.W.Frag)(mg:Str->Option Value)(base:Heap)(CX:CXT)(k:Nat)(f:Addr)(fd:FuncData)(ps:List Str)(sp:Sp):Prop where
 len:∀vs H Q E,sp vs H Q E->vs.length=ps.length
 run:∀(A:Around) (outer:List Env) (s:Shared) (H:Hp) (args:Args) (us:List Value) (vs:List V) (Q:VK) (E:XK),Room k A->Env0 P w K mg base A outer s H->BindsTo s fd args (ps.zip us)->Vals vs us->sp vs H Q E->
  codeAny (model P w) A (.call (.ref f) args) (CR CX outer P w H s Q E) s
theorem FnOk.mono{P:Program}{w:World}{K:PySem.W.Frag}{mg:Str->Option Value}{base:Heap}(F:FnOk P w K mg base CX j f fd ps sp)(h:j<=k):
  FnOk P w K mg base CX k f fd ps sp:=⟨F.len,λA outer s H args us vs Q E hr=>F.run A outer s H args us vs Q E (hr.mono h)⟩
theorem FnOk.imp{P:Program}{w:World}{K:PySem.W.Frag}{mg:Str->Option Value}{base:Heap}(F:FnOk P w K mg base CX k f fd ps sp)
  (h:∀vs H Q E,sp' vs H Q E->sp vs H Q E):FnOk P w K mg base CX k f fd ps sp':=
 ⟨λvs H Q E q=>F.len vs H Q E (h _ _ _ _ q),λA outer s H args us vs Q E hr he hb hv hs=>F.run A outer s H args us vs Q E hr he hb hv (h _ _ _ _ hs)⟩
theorem Env0.make{P:Program}{w:World}{K:PySem.W.Frag}{mg:Str->Option Value}(e:Env0 P w K mg base A outer s H)(C:Addr)(us:List Value)(kw:List (Str×Value)):
  Env0 P w K mg base (A.under (.builtin "type.__call__" ⟨.ref C::us,kw⟩)) outer s H:=⟨by first|exact e.frames|(simpa[Around.under,Code.envs,Code.isFrame,pushEnvs] using e.frames),e.mod,e.bs,e.bsz,e.funs,e.frf,e.hok,e.bare⟩
section
variable{X:Cx}{w6:List (Addr×Obj)}{O:St}{H:Hp}{s s':Shared}
theorem Inv.env0(I:Inv X w6 O H s):Env0 X.prog X.w X.K X.mg X.base X.A X.stack s H:=
 ⟨I.ok.frames,I.ok.mod,I.bs,AAq I.ok.bsz I.sz,I.stack,I.stkFree,I.hok,I.bare⟩
theorem Inv.after(I:Inv X w6 O H s)(h:CE X.stack X.prog X.w H s Q u s'):EP X w6 O Q u s':=by
 obtain⟨v,H',os,bare,un,hok,r,q⟩:=h;obtain⟨hh,g,d,t,os'⟩:=s';obtain rfl:os'=s.os:=os;exact⟨v,H',I.call (h':=hh) (g':=g) (d':=d) (t':=t) (ch:=[]) un hok bare (λb z=>absurd z (by simp)),r,q⟩
end
noncomputable def eA(sp:Sp)(dvs:List V)(E:XK)(t:TA):TE:=λO H Q=>t O H λvs H1=>sp (vs++dvs) H1 Q E
noncomputable def Zy(C:Addr)(m:Str)(sp:Sp)(dvs:List V)(E:XK)(ta:TE)(t:TA):TE:=λO H Q=>ta O H λx H1=>∃a dx fs,x=.ref a/\H1 a=some (.ins C dx fs)/\fs.lookup m=none /\
 t O H1 λvs H2=>sp (x::(vs++dvs)) H2 Q E
noncomputable def du(C:Addr)(sp:Sp)(dvs:List V)(E:XK)(t:TA):TE:=λO H Q=>t O H λvs H1=>∀x dx,H1 x=none->H1 dx=none->dx≠x->
 sp (.ref x::(vs++dvs)) (upd (upd H1 dx (.own x)) x (.ins C dx [])) (λv H2=>v=.non/\Q (.ref x) H2) E
def Binds(K:PySem.W.Frag)(fd:FuncData)(ps:List Str)(ds:List Value):Prop:=
 ∀(s:Shared) (us:List Value),K.In s.heap->(us++ds).length=ps.length->BindsTo s fd ⟨us,[]⟩ (ps.zip (us++ds))
theorem Binds.all{K:PySem.W.Frag}(h:∀us:List Value,us.length=ps.length->bindArgs fd ⟨us,[]⟩=pure (ps.zip us)):Binds K fd ps []:=λs us _ hl=>by
 rw[AAY] at hl ⊢;exact .of_eq (h us hl)
def IR(CX:CXT)(X:Cx)(E:XK):Prop:=∀(w6:List (Addr×Obj)) (O:St) (H:Hp) (s:Shared) (e:Value) (s':Shared),Inv X w6 O H s->CX X.stack H s E e s'->X.xe e s'
section
variable{X:Cx}{CX:CXT}{k:Nat}{f C:Addr}{fd:FuncData}{ps:List Str}{sp:Sp}{dvs:List V}{ds:List Value}{E:XK}{x m:Str}{p pos apos:Pos}{e o:Expr}{es:List Expr}{ta:TE}{t:TA}
theorem Qe(F:FnOk X.prog X.w X.K X.mg X.base CX k f fd ps sp)(hr:Room k X.A)(hb:Binds X.K fd ps ds)(hd:Vals dvs ds)(hx:IR CX X E)
  (I:Inv X w6 O H s) (r:Vals vs us) (h:sp (vs++dvs) H Q E):wpAny (model X.prog X.w) X.A (call (.ref f) us) (EP X w6 O Q) X.xe s:=by
 have r2:Vals (vs++dvs) (us++ds):=r.append hd;have hl:(us++ds).length=ps.length:=by rw[←r2.length];exact F.len _ _ _ _ h
 refine wpAny_call (codeAny_mono (F.run X.A X.stack s H ⟨us,[]⟩ (us++ds) (vs++dvs) Q E hr I.env0 (hb s us I.kIn hl) r2 h) λr s' hq=>?_);cases r with
 |error e=>exact hx w6 O H s e s' I hq
 |ok fl=>
  cases fl with
  |ret u=>exact I.after hq
  |next=>exact False.elim hq
  |brk=>exact False.elim hq
  |cont=>exact False.elim hq
theorem Yx(F:FnOk X.prog X.w X.K X.mg X.base CX k f fd ps sp)(hr:Room k X.A)(hg:Gl X x)(hm:X.mg x=some (.ref f))(hk:PySem.W.keepIn X.K (.ref f)=true)(hb:Binds X.K fd ps ds)(hd:Vals dvs ds)(hx:IR CX X E)
  (ha:PA X (e::es) t) (hdb:(x==("__debug__" : Str))=false:=by decide) (he:starEach (e::es) X.env=(false,eval e X.env)::starEach es X.env:=by rfl) (hpl:(backTo pos (starEach es X.env)).any (·.1)=false:=by rfl) :
  PE X (.Call (.Name x p) (e::es) [] pos) (eA sp dvs E t):=by
 intro w6 s O H Q I h;refine wpAny_Call_Name_kw (N7 I hg hm ?_ hdb);refine PySem.W.callWith_K (h₀:=X.base) I.ok.mod.kin hk (thn (ha pos w6 s O H _ I h) λus s1 ⟨vs,H1,I1,r,q⟩=>⟨I1.kIn,?_⟩) he hpl;exact Qe F hr hb hd hx I1 r q
theorem Ys(he:PE X o ta)(c:Cls X.K C)(hm:Xi X.K C m f)(F:FnOk X.prog X.w X.K X.mg X.base CX k f fd ps sp)(hr:Room k X.A)(hb:Binds X.K fd ps ds)(hd:Vals dvs ds)(hx:IR CX X E)(ha:PA X (e::es) t)
  (hst:starEach (e::es) X.env=(false,eval e X.env)::starEach es X.env:=by rfl) (hpl:(backTo pos (starEach es X.env)).any (·.1)=false:=by rfl)
  (ht:eval (.Call (.Attribute o m apos) (e::es) [] pos) X.env=(do
   let ov ←eval o X.env
   standAt apos.atName
   let (f,first) ←holding [ov] (getMethod ov m pl)
   callWith pos f first (backTo pos (starEach (e::es) X.env)) (backToKw pos (keywordEach [] X.env))):=by rfl) :
  PE X (.Call (.Attribute o m apos) (e::es) [] pos) (Zy C m sp dvs E ta t):=by
 intro w6 s O H Q I h;refine PySem.W.methodCall_KW (pl:=pl) (thn (he w6 s O H _ I h) λu s1 ⟨x,H1,I1,rx,a,dx,fs,ex,ea,l,q⟩=>?_) ht;subst ex;obtain rfl:u=Value.ref a:=rx;refine Lj I1 ea c hm l ?_;refine PySem.W.callWith_K (first:=[.ref a]) (h₀:=X.base) I.ok.mod.kin hm.kp (thn (ha pos w6 s1 O H1 _ I1 q) λus s2 ⟨vs,H2,I2,r,q2⟩=>⟨I2.kIn,?_⟩) hst hpl;exact Qe (us:=.ref a::us) (vs:=.ref a::vs) F hr hb hd hx I2 (.cons rfl r) q2
theorem WN(he:PE X o ta)(c:Cls X.K C)(hm:Xi X.K C m f)(F:FnOk X.prog X.w X.K X.mg X.base CX k f fd ps sp)(hr:Room k X.A)(hb:Binds X.K fd ps ds)(hd:Vals dvs ds)(hx:IR CX X E)
  (ht:eval (.Call (.Attribute o m apos) [] [] pos) X.env=(do
   let ov ←eval o X.env
   standAt apos.atName
   let (f,first) ←holding [ov] (getMethod ov m pl)
   callWith pos f first (backTo pos (starEach [] X.env)) (backToKw pos (keywordEach [] X.env))):=by rfl) :
  PE X (.Call (.Attribute o m apos) [] [] pos) (Zy C m sp dvs E ta aq):=by
 intro w6 s O H Q I h;refine PySem.W.methodCall_KW (pl:=pl) (thn (he w6 s O H _ I h) λu s1 ⟨x,H1,I1,rx,a,dx,fs,ex,ea,l,q⟩=>?_) ht;subst ex;obtain rfl:u=Value.ref a:=rx;refine Lj I1 ea c hm l ?_;exact PySem.W.callWith_K0 (first:=[.ref a]) I1.kIn hm.kp (Qe (us:=[.ref a]) (vs:=[.ref a]) F hr hb hd hx I1 (.cons rfl .nil) q)
structure Mk(K:PySem.W.Frag)(C f:Addr):Prop where
 makes:PySem.W.makesIn K C=true
 init:PySem.W.findIn K (.ref C) "__init__" = some (some (.ref f))
 fn:PySem.W.isFn K (.ref f)=true
 kp:PySem.W.keepIn K (.ref C)=true
theorem Vh(M:Mk X.K C f)(F:FnOk X.prog X.w X.K X.mg X.base CX k f fd ps sp)(hr:Room (k+1) X.A)(hb:Binds X.K fd ps ds)(hd:Vals dvs ds)
  (hx:IR CX X E) (I:Inv X w6 O H s) (r:Vals vs us)
  (h:∀x dx,H x=none->H dx=none->dx≠x->sp (.ref x::(vs++dvs)) (upd (upd H dx (.own x)) x (.ins C dx [])) (λv H2=>v=.non/\Q (.ref x) H2) E) :
  wpAny (model X.prog X.w) X.A (call (.ref C) us) (EP X w6 O Q) X.xe s:=by
 have hq:=h (s.heap.objs.size+1) s.heap.objs.size (I.hok.fresh (Nat.le_succ _)) (I.hok.fresh (AAE _)) (AAc (Nat.lt_succ_self _));have I2:=Inv.made (C:=C) I;have r2:Vals (V.ref (s.heap.objs.size+1)::(vs++dvs)) (Value.ref (s.heap.objs.size+1)::(us++ds)):=.cons rfl (r.append hd);have hl:(Value.ref (s.heap.objs.size+1)::us++ds).length=ps.length:=by
  have e:=r2.length;rw[F.len _ _ _ _ hq] at e;exact e.symm
 refine wpAny_call (Wl (f:=f) I.kIn M.makes M.init (beq_iff_eq.mp M.fn) (codeAny_mono (F.run _ X.stack _ _ ⟨Value.ref (s.heap.objs.size+1)::us,[]⟩ (Value.ref (s.heap.objs.size+1)::(us++ds)) _ _ E (hr.make C us [])
  (I2.env0.make C us []) (hb _ (Value.ref (s.heap.objs.size+1)::us) I2.kIn hl) r2 hq) λr s' hq'=>?_))
 cases r with
 |error e=>exact hx w6 O _ _ e s' I2 hq'
 |ok fl=>
  cases fl with
  |ret u=>
   obtain⟨v,H',I3,rv,ev,q3⟩:=I2.after hq';subst ev;exact⟨rv,⟨V.ref (s.heap.objs.size+1),H',I3,rfl,q3⟩⟩
  |next=>exact False.elim hq'
  |brk=>exact False.elim hq'
  |cont=>exact False.elim hq'
theorem WO(M:Mk X.K C f)(F:FnOk X.prog X.w X.K X.mg X.base CX k f fd ps sp)(hr:Room (k+1) X.A)(hg:Gl X x)(hm:X.mg x=some (.ref C))(hb:Binds X.K fd ps ds)(hd:Vals dvs ds)(hx:IR CX X E)
  (hdb:(x==("__debug__" : Str))=false:=by decide):PE X (.Call (.Name x p) [] [] pos) (du C sp dvs E aq):=by
 intro w6 s O H Q I h;refine wpAny_Call_Name_kw (N7 I hg hm ?_ hdb);exact PySem.W.callWith_K0 I.kIn M.kp (Vh (us:=[]) M F hr hb hd hx I .nil h)
end
structure Ak(N P:List Str)(sc:Scope):Prop where
 kind:sc.kind=.function
 co:sc.isCoroutine=false
 gen:sc.isGenerator=false
 nd:N.Nodup
 pre:N.take P.length=P
 par:∀x∈P,sc.names.lookup x=some .local∨sc.names.lookup x=some .cell
 nofree:∀y∈sc.names,y.2≠.free
theorem NI{kindOf:Str->Option NameKind}:∀{binds:List (Str×Value)} {m:Str->Option Value},(∀v,(x,v)∉binds)->bindL kindOf binds m x=m x
 |[],_,_=>rfl
 |(n,v)::r,m,h=>by
  unfold bindL;rw[NI λw hw=>h w (AAQ _ hw)];split
  ·have:x≠n:=by rintro rfl;exact h v AAP
   simp[this]
  ·rfl
theorem NL{kindOf:Str->Option NameKind}:∀{binds:List (Str×Value)} {m:Str->Option Value},(∀v,(x,v)∉binds)->bindC kindOf binds m x=m x
 |[],_,_=>rfl
 |(n,v)::r,m,h=>by
  unfold bindC;rw[NL λw hw=>h w (AAQ _ hw)];split
  ·rfl
  ·have:x≠n:=by rintro rfl;exact h v AAP
   simp[this]
theorem NJ{kindOf:Str->Option NameKind}:∀{P:List Str} {vs:List Value} {i:Nat} {m:Str->Option Value},P.Nodup->P[i]?=some x->vs[i]?=some v->kindOf x=some .local->
  bindL kindOf (P.zip vs) m x=some v
 |[],_,_,_,_,h,_,_=>by simp at h
 |_::_,[],_,_,_,_,h,_=>by simp at h
 |p::P,w::vs,0,m,nd,h1,h2,hk=>by
  simp at h1 h2;subst h1;subst h2;show bindL kindOf ((p,w)::P.zip vs) m p=_;unfold bindL;rw[NI λv hv=>(List.nodup_cons.mp nd).1 (List.of_mem_zip hv).1,if_pos hk];simp
 |p::P,w::vs,i+1,m,nd,h1,h2,hk=>by
  show bindL kindOf ((p,w)::P.zip vs) m x=_;unfold bindL;exact NJ (i:=i) (List.nodup_cons.mp nd).2 (by simpa using h1) (by simpa using h2) hk
theorem NM{kindOf:Str->Option NameKind}:∀{P:List Str} {vs:List Value} {i:Nat} {m:Str->Option Value},P.Nodup->P[i]?=some x->vs[i]?=some v->kindOf x≠some .local->
  bindC kindOf (P.zip vs) m x=some v
 |[],_,_,_,_,h,_,_=>by simp at h
 |_::_,[],_,_,_,_,h,_=>by simp at h
 |p::P,w::vs,0,m,nd,h1,h2,hk=>by
  simp at h1 h2;subst h1;subst h2;show bindC kindOf ((p,w)::P.zip vs) m p=_;unfold bindC;rw[NL λv hv=>(List.nodup_cons.mp nd).1 (List.of_mem_zip hv).1,if_neg hk];simp
 |p::P,w::vs,i+1,m,nd,h1,h2,hk=>by
  show bindC kindOf ((p,w)::P.zip vs) m x=_;unfold bindC;exact NM (i:=i) (List.nodup_cons.mp nd).2 (by simpa using h1) (by simpa using h2) hk
noncomputable def start(N:List Str)(vs:List V):St:=vs.map some++List.replicate (N.length-vs.length) none
noncomputable def IM(CX:CXT)(P:Program)(w:World)(K:PySem.W.Frag)(mg:Str->Option Value)(base:Heap)(N:List Str)(qual:Str)(scope:Scope)(f:Addr)(cd:Value)(A:Around)(outer:List Env)(s:Shared)(H:Hp)(E:XK):Cx where
 prog:=P
 w:=w
 K:=K
 mg:=mg
 base:=base
 A:=A.deeper (envOfC qual scope s.heap.objs.size f cd)
 N:=N
 s₀:=s
 H₀:=H
 env:=envOfC qual scope s.heap.objs.size f cd
 outer:=outer
 stack:=envOfC qual scope s.heap.objs.size f cd::outer
 ex:=[]
 calm:=true
 fn:=λ_=>true
 pn:=[]
 xe:=λe s'=>wpAny (model P w) (A.deeper (envOfC qual scope s.heap.objs.size f cd)) (leaving (envOfC qual scope s.heap.objs.size f cd) e) (λ_ s''=>CX outer H s E e s'') (λe' s''=>CX outer H s E e' s'') s'
theorem Pr{sc:Scope}(h:sc.names.lookup x=some .cell):∃c,(cellsFrom n sc.names []).lookup x=some c:=by
 have q:=PySem.W.cellsFrom_some sc.names n [] (.inl h);exact Option.isSome_iff_exists.mp q
theorem UC{CX:CXT}{P:Program}{w:World}{K:PySem.W.Frag}{mg:Str->Option Value}{base:Heap}{N ps:List Str}{qual:Str}{scope:Scope}
  (S:Ak N ps scope) (hd:A.handled=none) (e0:Env0 P w K mg base A outer s H) (hl:vs.length=ps.length) (r:Vals vs us)
  (x:InCallC s s.heap.objs.size (bindL (envOfC qual scope s.heap.objs.size f cd).kindOf (ps.zip us) λ_=>none) (cellsFrom (s.heap.objs.size+1) scope.names []) (bindC (envOfC qual scope s.heap.objs.size f cd).kindOf (ps.zip us) λ_=>none) s1) :
  Inv (IM CX P w K mg base N qual scope f cd A outer s H E) [] (start N vs) H s1:=by
 have hpl:ps.length<=N.length:=by have:=congrArg List.length S.pre;rw[List.length_take] at this;omega
 obtain⟨h1,tk,rfl,hk⟩:=x.done;have noA:∀b:Addr,b∉(IM CX P w K mg base N qual scope f cd A outer s H E).ex:=λb z=>absurd (show b∈([]:List Addr) from z) (by simp);refine⟨⟨e0.mod,S.kind,rfl,rfl,AAE _,λy z c h1 h2=>?_,λy hy=>?_,λy c _ h=>?_,λ_=>hd,Around.frames_deeper e0.frames,.inr ⟨rfl,rfl⟩,λb z=>absurd z (noA b),e0.bs,e0.bsz,λb _ _=>noA b,λb z=>absurd z (noA b),e0.funs,e0.frf⟩,
  rfl,e0.bare,Un.kept hk,⟨_,x.toInCall.ns,λi y v h1 h2 h3=>?_⟩,λy c h=>⟨_,x.cell y c h⟩,e0.hok.fresh (AAE _),λy c h=>?_,λp hp=>absurd (show p∈([]:List (Addr×Obj)) from hp) (by simp),e0.hok.kept hk,?_⟩
 ·exact name_of_addr x.apart (PySem.mem_of_lookup h1) (PySem.mem_of_lookup h2)
 ·have hy:scope.names.lookup y=some .cell∨scope.names.lookup y=some .free:=hy;rcases hy with hy|hy
  ·exact Pr hy
  ·exact absurd rfl (S.nofree _ (PySem.mem_of_lookup hy))
 ·exact Nat.le_of_lt (x.above y c (PySem.mem_of_lookup h))
 ·have hi:i<vs.length:=by
   unfold start at h2;by_cases hi:i<vs.length
   ·exact hi
   ·rw[AAR (by simpa using hi)] at h2;rw[List.getElem?_replicate] at h2;split at h2<;>cases h2
  have ha:vs[i]?=some v:=by
   unfold start at h2;rw[AAS (by simpa using hi),AAV] at h2;cases e:vs[i]? with
   |none=>rw[e] at h2;cases h2
   |some a=>rw[e] at h2;cases h2;rfl
  obtain⟨u,hu,rv⟩:=r.get ha;have hp:ps[i]?=some y:=by
   rw[←S.pre,List.getElem?_take_of_lt (by omega)];exact h1
  have ndP:ps.Nodup:=by rw[←S.pre];exact S.nd.sublist (List.take_sublist _ _)
  refine⟨u,rv,?_⟩;rcases S.par y (AAU hp) with k|k
  ·exact .inl ⟨k,NJ ndP hp hu k⟩
  ·obtain⟨c,e⟩:=Pr (n:=s.heap.objs.size+1) k;refine .inr ⟨.inl k,c,e,?_⟩;have q:=x.cell y c e;rw[NM ndP hp hu (by show scope.names.lookup y≠_;rw[k];decide)] at q;exact q
 ·exact e0.hok.fresh (Nat.le_of_lt (x.above y c (PySem.mem_of_lookup h)))
 ·unfold start;show _=N.length;rw[AAG,AAF,AAl];omega
theorem f6{CX:CXT}{P:Program}{w:World}{K:PySem.W.Frag}{mg:Str->Option Value}{base:Heap}{k:Nat}{f:Addr}{name qual:Str}{params:Arguments}{body:List Stmt}{scope:Scope}{dV kV doc pm cdv ct oc:Value}{an od:Option Addr}
  {osl:Array (Option Value)} {N ps:List Str} {sp:Sp} (lk:K.lookup f=some ⟨oc,od,.func (PySem.W.fnOf name qual params body scope dV kV doc pm an cdv ct),osl⟩) (hcd:PySem.W.codeIn K cdv qual=true) (S:Ak N ps scope)
  (len:∀vs H Q E,sp vs H Q E->vs.length=ps.length)
  (hbody:∀(A:Around) (outer:List Env) (s:Shared) (H:Hp) (vs:List V) (Q:VK) (E:XK),Room k (A.deeper (envOfC qual scope s.heap.objs.size f cdv))->sp vs H Q E->
   ∃t,PSs (IM CX P w K mg base N qual scope f cdv A outer s H E) body t/\t { nx:=λ_ H'=>Q .non H',rt:=Q } (start N vs) H) :
  FnOk P w K mg base CX (k+1) f (PySem.W.fnOf name qual params body scope dV kV doc pm an cdv ct) ps sp:=by
 refine⟨len,λA outer s H args us vs Q E hr e0 hb r hsp=>?_⟩;have hl:=len _ _ _ _ hsp;have KX:K.In s.heap:=e0.mod.kin.keeps λb o e=>(e0.bs b o e).1;have lim:s.heap.NoLimit:=e0.mod.nolimit.keeps λb o e=>(e0.bs b o e).1;have hkind:∀y∈ps.zip us,scope.names.lookup y.1=some .local∨(scope.names.lookup y.1=some .cell/\((cellsFrom (s.heap.objs.size+1) scope.names []).lookup y.1).isSome=true):=λ⟨n,v⟩ hy=>by
  rcases S.par n (List.of_mem_zip hy).1 with q|q
  ·exact .inl q
  ·exact .inr ⟨q,PySem.W.cellsFrom_some _ _ _ (.inl q)⟩
 refine codeAny_call_function hr.depth (KX _ _ lk) rfl S.co S.gen rfl (PySem.W.codeRec_of KX hcd) (hb _ _ _ _ ?_);refine wpAny_newFunctionEnv_cells S.kind hkind λenv he s1 x=>?_;subst he;refine⟨lim.keeps x.toInCall.keep,codeAny_func ?_⟩;obtain⟨t,ht,hq⟩:=hbody A outer s H vs Q E (hr.deeper _) hsp;have I:Inv (IM CX P w K mg base N qual scope f cdv A outer s H E) [] (start N vs) H s1:=UC S hr.hd e0 hl r x;refine AAh (ht [] s1 (start N vs) H _ I hq) (λfl s' hs=>?_) λe s' hs=>hs;have fin:∀{v5:St} {H':Hp} {v:V} {u:Value},Inv (IM CX P w K mg base N qual scope f cdv A outer s H E) [] v5 H' s'->RelV v u->Q v H'->CE outer P w H s Q u s':=
  λ{v5 H' v u} J rv q=>⟨v,H',J.os,J.bare,J.base,J.hok,rv,q⟩
 cases fl with
 |ret u=>
  obtain⟨v,v5,H',J,rv,q⟩:=hs;exact fin J rv q
 |next=>
  obtain⟨v5,H',J,q⟩:=hs;exact fin (v:=V.non) (u:=Value.none) J rfl q
 |brk=>
  obtain⟨_,_,_,q⟩:=hs;exact False.elim q
 |cont=>
  obtain⟨_,_,_,q⟩:=hs;exact False.elim q
section
variable{X:Cx}{x:Str}{p pos:Pos}{e:Expr}{es:List Expr}{t:TA}{id T:String}{r:List V->Hp->VK->Prop}
noncomputable def tCB(r:List V->Hp->VK->Prop)(t:TA):TE:=λO H Q=>t O H λvs H1=>r vs H1 Q
theorem PD(hc:CS X (.builtin id) r)(hg:Gl X x)(hm:X.mg x=none)(hv:bootBuiltins x=some (.builtin id))(ha:PA X (e::es) t)(hn:x ≠ "__name__" := by decide)(hdb:(x==("__debug__" : Str))=false:=by decide)
  (he:starEach (e::es) X.env=(false,eval e X.env)::starEach es X.env:=by rfl) (hpl:(backTo pos (starEach es X.env)).any (·.1)=false:=by rfl):PE X (.Call (.Name x p) (e::es) [] pos) (tCB r t):=by
 intro w6 s O H Q I h;refine wpAny_Call_Name_kw (Gy I hg hm hv ?_ hn hdb);exact PyProof.Rows.callWith_builtin1 (thn (ha pos w6 s O H _ I h) λus s1 ⟨vs,H1,I1,r1,q1⟩=>hc w6 s1 O H1 vs us Q I1 r1 q1) he hpl
theorem Mg(hc:CS X (.type T) r)(hg:Gl X x)(hm:X.mg x=none)(hv:bootBuiltins x=some (.type T))(ha:PA X (e::es) t)(hn:x ≠ "__name__" := by decide)(hdb:(x==("__debug__" : Str))=false:=by decide)
  (he:starEach (e::es) X.env=(false,eval e X.env)::starEach es X.env:=by rfl) (hpl:(backTo pos (starEach es X.env)).any (·.1)=false:=by rfl):PE X (.Call (.Name x p) (e::es) [] pos) (tCB r t):=by
 intro w6 s O H Q I h;refine wpAny_Call_Name_kw (Gy I hg hm hv ?_ hn hdb);exact PyProof.Rows.callWith_type1 (thn (ha pos w6 s O H _ I h) λus s1 ⟨vs,H1,I1,r1,q1⟩=>hc w6 s1 O H1 vs us Q I1 r1 q1) he hpl
end
end L2
namespace HT
open PySem PyProof.Rows
section
open PySem.SeqAt
open PySem.AutoSeq1 (wpAny_loadPart')
open PySem.MeetsSeq PySem.MeetsSeq2 PySem.MeetsSeq3
end
section
variable{prog:Program}{w:World}{A:Around}{E:Value->Shared->Prop}{s:Shared}
theorem Zk(ht:IsTup s.heap t vs.toArray)(hb:IsTup s.heap b ws.toArray)(hv:vs≠[])
  (h1:ws=[]->Q (.ref t) s) (h2:ws≠[]->Q (.ref s.heap.objs.size) { s with heap:=s.heap.push { cls:=.type "tuple",data:=.seq (vs++ws).toArray } })
  (hsz:vs.length+ws.length<=sizeLine):wpAny (model prog w) A (binaryOp .Add (.ref t) (.ref b)) Q E s:=by
 obtain⟨⟨cls,dd,data,sl⟩,ho,hc,n,hd⟩:=id ht;obtain⟨⟨cls2,dd2,data2,sl2⟩,ho2,hc2,n2,hd2⟩:=id hb;simp only at hc hd hc2 hd2;subst hc hd hc2 hd2;have e:vs.toArray++ws.toArray=(vs++ws).toArray:=by simp
 by_cases hw:ws=[]
 ·exact concat_meets ⟨_,ho,rfl⟩ ⟨_,ho2,rfl⟩ noFill_tuple_add seq_tuple_add PySem.F.slot_tuple_add PySem.F.entry_tuple_add (PySem.F.args_tuple_add_2 _ _)
   (tuple_addW1 t b vs.toArray ws.toArray n n2 dd dd2 sl sl2 (by simpa using hv) (by simp[hw])) ⟨ho,ho2,h1 hw⟩
 ·refine concat_meets ⟨_,ho,rfl⟩ ⟨_,ho2,rfl⟩ noFill_tuple_add seq_tuple_add PySem.F.slot_tuple_add PySem.F.entry_tuple_add (PySem.F.args_tuple_add_2 _ _)
   (tuple_addW2 t b vs.toArray ws.toArray n n2 dd dd2 sl sl2 (by simpa using hv) (by simpa using hw) (by rw[List.size_toArray,List.size_toArray];exact hsz)) ⟨ho,ho2,?_⟩
  rw[e];exact h2 hw
noncomputable def sIx(n d:Nat):Option Int->Nat
 |none=>d
 |some v=>if v<0 then (v+(n:Int)).toNat else min v.toNat n
theorem Nj(n d k:Nat):sIx n d (some (k:Int))=min k n:=by
 show (if (k:Int)<0 then ((k:Int)+(n:Int)).toNat else min (k:Int).toNat n)=min k n;rw[if_neg (by omega),Int.toNat_natCast]
theorem bA(n d:Nat)(hd:d<=n)(o:Option Int):sIx n d o<=n:=by
 cases o with
 |none=>exact hd
 |some v=>
  show (if v<0 then (v+(n:Int)).toNat else min v.toNat n)<=n;by_cases hv:v<0
  ·rw[if_pos hv];omega
  ·rw[if_neg hv];exact Nat.min_le_right _ _
theorem S9(v:Int)(n d:Nat):(if v<0 then max (v+(n:Int)) 0 else min v (n:Int))=((sIx n d (some v):Nat):Int):=by
 show (if v<0 then max (v+(n:Int)) 0 else min v (n:Int))=(((if v<0 then (v+(n:Int)).toNat else min v.toNat n):Nat):Int);by_cases hv:v<0
 ·simp only[if_pos hv];omega
 ·simp only[if_neg hv];omega
theorem RC(lo hi:Option Int)(n:Nat):Builtin.Slice.sliceAdjust lo hi 1 (n:Int)=(((sIx n 0 lo:Nat):Int),((sIx n n hi:Nat):Int)):=by
 have h1:¬((1:Int)<0):=by omega
 unfold Builtin.Slice.sliceAdjust;simp only[h1,if_false];refine Prod.ext ?_ ?_
 ·cases lo with
  |none=>rfl
  |some v=>exact S9 v n 0
 ·cases hi with
  |none=>rfl
  |some v=>exact S9 v n n
theorem Qj(i j:Nat):Builtin.Slice.slicePlaces (i:Int) (j:Int) 1=j-i:=by
 unfold Builtin.Slice.slicePlaces;have h1:(1:Int) > 0:=by omega
 simp only[h1,if_true,Int.ediv_one];split<;>omega
theorem K0(p:IsPart v o)(h:Q o s):wpAny (model prog w) A (Builtin.Slice.slicePartIndex v) Q E s:=by
 cases p with
 |none=>exact slicePart_none h
 |int i t=>exact slicePart_int h
theorem Ff{sl:Addr}{vl vu:Value}{lo hi:Option Int}{n:Nat}{Q:Int×Int×Nat->Shared->Prop}(hs:s.heap.IsSliceOf sl vl vu .none)(pl:IsPart vl lo)(pu:IsPart vu hi)
  (h:Q (((sIx n 0 lo:Nat):Int),1,sIx n n hi-sIx n 0 lo) s):wpAny (model prog w) A (Builtin.Slice.sliceApplied (.ref sl) (pure (n:Int))) Q E s:=by
 obtain⟨os,hos,hcs,hds⟩:=id hs;unfold Builtin.Slice.sliceApplied Builtin.Slice.sliceFields;refine AAA (AAA (AAt hos hds (x:=vl) rfl (AAA (AAt hos hds (x:=vu) rfl (AAA (AAt hos hds (x:=.none) rfl (AAB ?_)))))));refine AAA (slicePart_none ?_);show wpAny _ _ (if ((1:Int)==0)=true then _ else _) _ _ s;rw[if_neg (by decide)];refine AAA (K0 pl (AAA (K0 pu (AAA (AAB ?_)))));show wpAny _ _ (match Builtin.Slice.sliceAdjust lo hi 1 (n:Int) with|(lo,hi)=>pure (lo,(1:Int),Builtin.Slice.slicePlaces lo hi 1)) _ _ s;rw[RC lo hi n];show wpAny _ _ (pure (((sIx n 0 lo:Nat):Int),(1:Int),Builtin.Slice.slicePlaces ((sIx n 0 lo:Nat):Int) ((sIx n n hi:Nat):Int) 1)) _ _ s;rw[Qj];exact AAB h
theorem WI(xs:Array Value)(i k:Nat):((List.range k).filterMap λ(m:Nat)=>xs[((i:Int)+(m:Int) * 1).toNat]?).toArray=((xs.toList.drop i).take k).toArray:=by
 have e:(λ(m:Nat)=>xs[((i:Int)+(m:Int) * 1).toNat]?)=λm=>xs[i+m]?:=by
  funext m
  have:((i:Int)+(m:Int) * 1).toNat=i+m:=by omega
  rw[this]
 rw[e];have:=pick_run xs i k;rw[List.filterMap_map] at this;have e2:((λx=>xs[x]?) ∘ λx=>i+x)=λm=>xs[i+m]?:=rfl;rw[e2] at this;rw[this]
theorem Iw{t sl:Addr}{items:Array Value}{vl vu:Value}{lo hi:Option Int}{Q:Value->Shared->Prop}(ht:IsTup s.heap t items)(hs:s.heap.IsSliceOf sl vl vu .none)(pl:IsPart vl lo)(pu:IsPart vu hi)
  (hw:¬(sIx items.size 0 lo=0/\sIx items.size items.size hi=items.size))
  (h:Q (.ref s.heap.objs.size) { s with heap:=s.heap.push { cls:=.type "tuple",data:=.seq ((items.toList.drop (sIx items.size 0 lo)).take (sIx items.size items.size hi-sIx items.size 0 lo)).toArray } })
  (hsz:items.size<=sizeLine):wpAny (model prog w) A (getItem (.ref t) (.ref sl)) Q E s:=by
 have htake:sizeOk (.seq ((items.toList.drop (sIx items.size 0 lo)).take (sIx items.size items.size hi-sIx items.size 0 lo)).toArray):=by
  show ((items.toList.drop (sIx items.size 0 lo)).take (sIx items.size items.size hi-sIx items.size 0 lo)).toArray.size<=sizeLine;rw[List.size_toArray,List.length_take,List.length_drop,Array.length_toList];omega
 have hj:sIx items.size items.size hi<=items.size:=bA _ _ (AAE _) hi;obtain⟨os,hos,hcs,hds⟩:=id hs;have hTs:s.TypeIs (.ref sl) "slice" := ⟨os,hos,hcs⟩;unfold getItem
 try with_reducible refine AAn ?_
 first|refine AAA (AAB ?_)|skip
 refine AAA (wpAny_sequenceKey ht.typeIs (by decide) ?_);refine AAA (wpAny_callSpecial?_slot (name:=Str.ofString "__getitem__") ht.typeIs PyProof.Rows.slot_tuple_getitem
  (AAb PyProof.Rows.slot_tuple_getitem ht.typeIs entry_tuple_getitem ?_ (args_tuple_getitem _ _)))
 show wpAny _ _ (Builtin.Tuple.tupleItemsOf (.ref t) >>= _) _ _ s;refine AAA (tupleItemsOf_ ht ?_);refine AAA (wpAny_typeOf hTs ?_);rw[if_pos (by decide)];refine AAA (Ff hs pl pu ?_);have hno:¬((((sIx items.size 0 lo:Nat):Int)==0&&(1:Int)==1&&(sIx items.size items.size hi-sIx items.size 0 lo)==items.size)=true):=by
  intro q;rw[Bool.and_eq_true,Bool.and_eq_true] at q;have q1:((sIx items.size 0 lo:Nat):Int)=0:=eq_of_beq q.1.1;have q2:sIx items.size items.size hi-sIx items.size 0 lo=items.size:=eq_of_beq q.2;exact hw ⟨by omega,by omega⟩
 show wpAny _ _ (if (((sIx items.size 0 lo:Nat):Int)==0&&(1:Int)==1&&(sIx items.size items.size hi-sIx items.size 0 lo)==items.size)=true then _ else _) _ _ s;rw[if_neg hno,WI]
 first
  |exact AAA (m:=Builtin.Tuple.tupleExact _) (AAp (AAB ⟨_,rfl,AAB h⟩) htake)
  |exact AAA (m:=Builtin.Tuple.tupleExact _) (AAp (AAA (AAB (AAB ⟨_,rfl,AAB h⟩))) htake)
  |exact AAA (AAA (m:=Builtin.Tuple.tupleExact _) (AAp (AAB (AAB ⟨_,rfl,AAB h⟩)) htake))
  |exact AAA (AAA (m:=Builtin.Tuple.tupleExact _) (AAp (AAB ⟨_,rfl,AAB h⟩) htake))
end
end HT
namespace L2
open PySem PySem.Spec PyProof.Rows
noncomputable abbrev TO:=St->Hp->(Option Int->Hp->Prop)->Prop
def PO(X:Cx)(e:Option Expr)(t:TO):Prop:=
 ∀(w6:List (Addr×Obj)) (s:Shared) (O:St) (H:Hp) (Q:Option Int->Hp->Prop),Inv X w6 O H s->t O H Q->
  wpAny (model X.prog X.w) X.A (evalPart e X.env) (λu s'=>∃o H',Inv X w6 O H' s'/\IsPart u o/\Q o H') X.xe s
noncomputable def YF:TO:=λ_ H Q=>Q none H
noncomputable def dn(t:TE):TO:=λO H Q=>t O H λx H1=>∃i,x=.int i/\Q (some i) H1
section
variable{X:Cx}{e:Expr}{te:TE}{lo hi:Option Expr}{tl th:TO}{pos p2:Pos}
theorem Yo:PO X none YF:=by
 intro w6 s O H Q I h;rw[evalPart_none];exact AAB ⟨none,H,I,.none,h⟩
theorem Yn(h:PE X e te):PO X (some e) (dn te):=by
 intro w6 s O H Q I hw;rw[evalPart_some];refine thn (h w6 s O H _ I hw) λu s1 ⟨x,H1,I1,r1,q1⟩=>?_;obtain⟨i,rfl,q⟩:=q1;obtain⟨t,rfl⟩:=r1;exact⟨some i,H1,I1,.int i t,q⟩
def SlR(X:Cx)(r:V->Option Int->Option Int->Hp->VK->Prop):Prop:=
 ∀(w6:List (Addr×Obj)) (s:Shared) (O:St) (H:Hp) (x:V) (v vl vu:Value) (lo hi:Option Int) (sl:Addr) (Q:VK),Inv X w6 O H s->RelV x v->s.heap.IsSliceOf sl vl vu .none->IsPart vl lo->IsPart vu hi->r x lo hi H Q->
  ∃T id,typeLookup (.type T) "__getitem__" = pure (some (.builtin id))/\s.TypeIs v T/\wpAny (model X.prog X.w) X.A (getItem v (.ref sl)) (EP X w6 O Q) X.xe s
theorem SlR.or(h:SlR X r)(h':SlR X r'):SlR X (λx lo hi H Q=>r x lo hi H Q∨r' x lo hi H Q):=by
 intro w6 s O H x v vl vu lo hi sl Q I rx hs pl pu q;rcases q with q|q
 ·exact h w6 s O H x v vl vu lo hi sl Q I rx hs pl pu q
 ·exact h' w6 s O H x v vl vu lo hi sl Q I rx hs pl pu q
noncomputable def tSl(r:V->Option Int->Option Int->Hp->VK->Prop)(te:TE)(tl th:TO):TE:=λO H Q=>te O H λx H1=>tl O H1 λl H2=>th O H2 λu H3=>r x l u H3 Q
theorem PB(hr:SlR X r)(he:PE X e te)(hl:PO X lo tl)(hu:PO X hi th):PE X (.Subscript e (.Slice lo hi none p2) pos) (tSl r te tl th):=by
 intro w6 s O H Q I h;refine Subscript_ (thn (he w6 s O H _ I h) λv s1 ⟨x,H1,I1,r1,q1⟩=>?_);refine wpAny_Slice (thn (hl w6 s1 O H1 _ I1 q1) λvl s2 ⟨l,H2,I2,pl,q2⟩=>thn (hu w6 s2 O H2 _ I2 q2) λvu s3 ⟨u,H3,I3,pu,q3⟩=>?_);rw[evalPart_none];refine AAB ?_;have I4:Inv X w6 O H3 { s3 with heap:=s3.heap.push { cls:=.type "slice",data:=.fields #[vl,vu,.none] } }:=I3.kept (t':=s3.toks) λb ob q=>AAC _ q;obtain⟨T,id,hT,ht,hg⟩:=hr w6 { s3 with heap:=s3.heap.push { cls:=.type "slice",data:=.fields #[vl,vu,.none] } } O H3 x v vl vu l u s3.heap.objs.size Q I4 r1 (Heap.IsSliceOf.new ..) pl pu q3;show wpAny (model X.prog X.w) X.A (subscriptTail e (.Slice lo hi none p2) v (.ref s3.heap.objs.size)) (EP X w6 O Q) X.xe { s3 with heap:=s3.heap.push { cls:=.type "slice",data:=.fields #[vl,vu,.none] } };exact tail_any (ops:=[.ref s3.heap.objs.size,v]) ht hT hg (by with_unfolding_all rfl)
noncomputable def Po(xs:List V)(lo hi:Option Int):List V:=(xs.drop (HT.sIx xs.length 0 lo)).take (HT.sIx xs.length xs.length hi-HT.sIx xs.length 0 lo)
theorem J3(xs:List V)(lo hi:Option Int):(Po xs lo hi).length<=xs.length:=by
 unfold Po;rw[List.length_take,List.length_drop];omega
noncomputable def gj(K:PySem.W.Frag):V->Option Int->Option Int->Hp->VK->Prop:=λx lo hi H Q=>∃a xs,x=.ref a/\SqT K H a xs /\
 ¬(HT.sIx xs.length 0 lo=0/\HT.sIx xs.length xs.length hi=xs.length)/\∀p,H p=none->Q (.ref p) (upd H p (.tup (Po xs lo hi)))
theorem a8:SlR X (gj X.K):=by
 intro w6 s O H x v vl vu lo hi sl Q I rx hs pl pu h;obtain⟨a,xs,rfl,hx,hw,q⟩:=h;cases rx;obtain⟨its,r,ht,hz⟩:=I.tuple hx;have hlen:its.toArray.size=xs.length:=by rw[List.size_toArray];exact r.length.symm
 refine⟨"tuple",_,PyProof.Rows.slot_tuple_getitem.lookup,ht.typeIs,?_⟩;refine HT.Iw ht hs pl pu (by rw[hlen];exact hw) ?_ (by rw[hlen];exact hz);rw[hlen];refine⟨.ref s.heap.objs.size,_,I.laid (t':=s.toks) (o:=.tup (Po xs lo hi)) (λb ob q=>AAC _ q) (AAE _) ?_,rfl,q _ (I.hok.fresh (AAE _))⟩;exact⟨AAq (J3 xs lo hi) hz,_,(r.drop (HT.sIx xs.length 0 lo)).take (HT.sIx xs.length xs.length hi-HT.sIx xs.length 0 lo),IsTup.new _ _⟩
noncomputable def eR(K:PySem.W.Frag):R2:=λx y H Q=>∃a b xs ys,x=.ref a/\y=.ref b/\SqT K H a xs/\SqT K H b ys/\xs≠[]/\xs.length+ys.length<=sizeLine /\
 (ys=[]->Q (.ref a) H)/\(ys≠[]->∀p,H p=none->Q (.ref p) (upd H p (.tup (xs++ys))))
theorem Vals.nil_iff(r:Vals xs us):us=[]↔xs=[]:=by
 cases r with
 |nil=>simp
 |cons _ _=>simp
theorem Y2:OpR X (binaryOp .Add) (eR X.K):=by
 intro w6 s O H x y v u Q I rx ry h;obtain⟨a,b,xs,ys,rfl,rfl,ha,hb,hx,hz,q1,q2⟩:=h;cases rx;cases ry;obtain⟨its,r1,p1,_⟩:=I.tuple ha;obtain⟨its2,r2,p2,_⟩:=I.tuple hb;refine HT.Zk p1 p2 (λz=>hx (r1.nil_iff.mp z)) (λz=>⟨.ref a,H,I,rfl,q1 (r2.nil_iff.mp z)⟩) (λz=>?_) (by rw[←r1.length,←r2.length];exact hz);refine⟨.ref s.heap.objs.size,_,I.laid (t':=s.toks) (o:=.tup (xs++ys)) (λb ob q=>AAC _ q) (AAE _) ?_,rfl,q2 (λw=>z (r2.nil_iff.mpr w)) _ (I.hok.fresh (AAE _))⟩;exact⟨by rw[AAG];exact hz,_,r1.append r2,IsTup.new _ _⟩
theorem Ps:CS X (.type "tuple") (λxs H Q=>∃a ys,xs=[.ref a]/\SqT X.K H a ys/\Q (.ref a) H):=by
 intro w6 s O H xs us Q I r h;obtain⟨a,ys,rfl,ha,q⟩:=h;obtain⟨u,rfl,ru⟩:=DX r;cases ru;obtain⟨its,_,p1,_⟩:=I.tuple ha;exact call_tuple_same (items:=its.toArray) p1 ⟨.ref a,H,I,rfl,q⟩
end
noncomputable def ixN(n:Nat)(i:Int):Option Nat:=if 0<=i then (if i<n then some i.toNat else none) else if -(n:Int)<=i then some (i+n).toNat else none
noncomputable def atI{α:Type}(xs:List α)(i:Int):Option α:=(ixN xs.length i).bind λj=>xs[j]?
theorem Sj(h:ixN n i=some j):seqIndex? i n=some j/\j<n/\-(n:Int)<=i/\i<n:=by
 unfold ixN at h;by_cases h0:0<=i
 ·rw[if_pos h0] at h;by_cases h1:i<n
  ·rw[if_pos h1] at h;have e:i.toNat=j:=Option.some.inj h;exact⟨by rw[seqIndex_of h0 h1,e],by omega,by omega,h1⟩
  ·rw[if_neg h1] at h;cases h
 ·rw[if_neg h0] at h;by_cases h1:-(n:Int)<=i
  ·rw[if_pos h1] at h;have e:(i+n).toNat=j:=Option.some.inj h;exact⟨by rw[seqIndex_neg (by omega) h1,e],by omega,h1,by omega⟩
  ·rw[if_neg h1] at h;cases h
theorem OS(h:atI xs i=some v):∃j,seqIndex? i xs.length=some j/\xs[j]?=some v/\j<xs.length/\-(xs.length:Int)<=i/\i<xs.length:=by
 unfold atI at h;cases e:ixN xs.length i with
 |none=>rw[e] at h;cases h
 |some j=>
  rw[e] at h;obtain⟨h1,h2,h3,h4⟩:=Sj e;exact⟨j,h1,h,h2,h3,h4⟩
theorem GF{α:Type}{xs:List α}{j:Nat}{v:α}(h:xs[j]?=some v):atI xs (j:Int)=some v:=by
 have hj:j<xs.length:=(AAT.mp h).1;have e:ixN xs.length (j:Int)=some j:=by
  unfold ixN;rw[if_pos (by omega),if_pos (by omega)];simp
 unfold atI;rw[e];exact h
def TF(b:Expr):Prop:=∀o i,subscripted b false o i=operate [o,i] (getItem o i)
def IxR(X:Cx)(r:R2):Prop:=
 ∀(value slice:Expr) (w6:List (Addr×Obj)) (s:Shared) (O:St) (H:Hp) (x y:V) (v u:Value) (Q:VK),Inv X w6 O H s->RelV x v->RelV y u->r x y H Q->
  subscripted slice false v u=operate [v,u] (getItem v u)->wpAny (model X.prog X.w) X.A (subscriptTail value slice v u) (EP X w6 O Q) X.xe s
def MtR(X:Cx)(id:String)(r:V->List V->Hp->VK->Prop):Prop:=
 ∀(w6:List (Addr×Obj)) (s:Shared) (O:St) (H:Hp) (x:V) (xs:List V) (v:Value) (us:List Value) (Q:VK),Inv X w6 O H s->RelV x v->Vals xs us->r x xs H Q->
  wpAny (model X.prog X.w) X.A (call (.builtin id) (v::us)) (EP X w6 O Q) X.xe s
section
variable{X:Cx}{a b:Expr}{ta tb:TE}{pos:Pos}
theorem IxR.or(h:IxR X r)(h':IxR X r'):IxR X (λx y H Q=>r x y H Q∨r' x y H Q):=by
 intro value slice w6 s O H x y v u Q I rx ry q hs;rcases q with q|q
 ·exact h value slice w6 s O H x y v u Q I rx ry q hs
 ·exact h' value slice w6 s O H x y v u Q I rx ry q hs
theorem et(hr:IxR X r)(ha:PE X a ta)(hb:PE X b tb)(hs:TF b):PE X (.Subscript a b pos) (tOp r ta tb):=by
 intro w6 s O H Q I h;exact Subscript_ (dS ha hb I h λv u s2 x y H2 I2 rx ry q=>hr a b w6 s2 O H2 x y v u Q I2 rx ry q (hs _ _))
noncomputable def eQ(K:PySem.W.Frag):R2:=λx y H Q=>∃p xs i v,x=.ref p/\y=.int i/\SqL K H p xs/\atI xs i=some v/\Q v H
noncomputable def eN(K:PySem.W.Frag):R2:=λx y H Q=>∃p xs i v,x=.ref p/\y=.int i/\SqT K H p xs/\atI xs i=some v/\Q v H
noncomputable def eP:R2:=λx y H Q=>∃z i c,x=.str z/\y=.int i/\z.length<=sizeLine/\atI z.cps.toList i=some c/\Q (.str ⟨#[c]⟩) H
theorem ix_list:IxR X (eQ X.K):=by
 intro value slice w6 s O H x y v u Q I rx ry h hs;obtain⟨p,xs,i,z,rfl,rfl,hq,he,q⟩:=h;cases rx;obtain⟨t,rfl⟩:=ry;obtain⟨its,r,pl,hz⟩:=I.list hq;obtain⟨j,h1,h2,h3,h4,h5⟩:=OS he;obtain⟨w,ew,rw'⟩:=r.get h2;have hl:=r.length;have hn:=Ld;have fin:EP X w6 O Q w s:=⟨z,H,I,rw',q⟩;by_cases h0:0<=i
 ·have hj:i.toNat=j:=by
   rw[seqIndex_of h0 h5] at h1;exact Option.some.inj h1
  exact item_listR pl.isList h0 (by omega) (by rw[hj];simpa using ew) fin hs
 ·have hj:(i+(its.toArray.size:Int)).toNat=j:=by
   rw[seqIndex_neg (by omega) h4] at h1;rw[List.size_toArray,←hl];exact Option.some.inj h1
  exact subscriptTail_builtinR (x:=w) pl.isList.typeIs slot_list_getitem.lookup
   (wpAny_getItem_list_neg (Q:=λr s'=>r=w/\EP X w6 O Q r s') pl.isList (by omega) (by rw[List.size_toArray]<;>omega) (by omega) (by rw[hj];simpa using ew) ⟨rfl,fin⟩) hs
theorem ix_tup:IxR X (eN X.K):=by
 intro value slice w6 s O H x y v u Q I rx ry h hs;obtain⟨p,xs,i,z,rfl,rfl,hq,he,q⟩:=h;cases rx;obtain⟨t,rfl⟩:=ry;obtain⟨its,r,pl,hz⟩:=I.tuple hq;obtain⟨j,h1,h2,h3,h4,h5⟩:=OS he;obtain⟨w,ew,rw'⟩:=r.get h2;have hl:=r.length;have hn:=Ld;have fin:EP X w6 O Q w s:=⟨z,H,I,rw',q⟩;exact subscriptTail_builtinR (x:=w) pl.typeIs slot_tuple_getitem.lookup
  (getItem_tuple (j:=j) (Q:=λr s'=>r=w/\EP X w6 O Q r s') pl (by omega) (by omega) (by rw[List.size_toArray,←hl];exact h1) (by simpa using ew) ⟨rfl,fin⟩) hs
theorem cx:IxR X eP:=by
 intro value slice w6 s O H x y v u Q I rx ry h hs;obtain⟨z,i,c,rfl,rfl,hz,he,q⟩:=h;obtain⟨t,rfl⟩:=rx;obtain⟨t',rfl⟩:=ry;obtain⟨j,h1,h2,h3,h4,h5⟩:=OS he;have hl:z.cps.toList.length=z.length:=by simp[Str.length]
 rw[hl] at h1 h4 h5;have hn:=Ld;exact tail_any (typeIs_str s z t) slot_str_getitem.lookup (getItem_str (c:=c) (by
  have e1:decide (i < -(2 ^ 63:Int))=false:=AAN (by omega);have e2:decide (i ≥ 2 ^ 63)=false:=AAN (by omega);rw[e1,e2,Bool.or_false]) (by rw[h1];simpa using h2) ⟨.str ⟨#[c]⟩,H,I.tok _,⟨_,rfl⟩,q⟩) hs
noncomputable def rIx(K:PySem.W.Frag):R2:=λx y H Q=>eQ K x y H Q∨eN K x y H Q∨eP x y H Q
theorem Qu:IxR X (rIx X.K):=ix_list.or (ix_tup.or cx)
theorem Qq(its:List Value)(n j:Nat)(u:Value):Obj.mapSeq (·.setIfInBounds j u) { cls:=.type "list",data:=.seq its.toArray n }={ cls:=.type "list",data:=.seq (its.set j u).toArray n }:=by
 simp[Obj.mapSeq]
theorem Inv.lst(I:Inv X w6 O H s)(h:H p=some (.lst xs)):
  ∃(its:List Value) (n:Nat),Vals xs its/\s.heap.get? p=some { cls:=.type "list",data:=.seq its.toArray n }/\xs.length<=sizeLine:=by
 obtain⟨z,its,n,r,e⟩:=I.hok p _ h;exact⟨its,n,r,e,z⟩
theorem Inv.lstUpd{w6:List (Addr×Obj)}{O:St}{H:Hp}{s:Shared}{p:Addr}{xs ys:List V}{its its':List Value}{n n':Nat}{f:Obj->Obj}(I:Inv X w6 O H s)(h:H p=some (.lst xs))
  (ho:s.heap.get? p=some { cls:=.type "list",data:=.seq its.toArray n }) (hf:f { cls:=.type "list",data:=.seq its.toArray n }={ cls:=.type "list",data:=.seq its'.toArray n' }) (r:Vals ys its') (hz:ys.length<=sizeLine) (t:Nat) :
  Inv X w6 O (upd H p (.lst ys)) { s with heap:=s.heap.update p f,toks:=t }:=by
 have e:(s.heap.update p f).get? p=some { cls:=.type "list",data:=.seq its'.toArray n' }:=by
  rw[Heap.get?_update_self f ho (by rw[hf]<;>rfl),hf]
 refine I.write (x:=p) (e:=p) (by rw[h];trivial) (.inl rfl) (λb u hb q=>(Heap.get?_update_other _ _ (Ne.symm hb)).trans q) ⟨_,e⟩ ?_;exact⟨hz,its',n',r,e⟩
noncomputable def eM:V->V->V->Hp->(Hp->Prop)->Prop:=λo i v H Q=>∃p xs k j,o=.ref p/\i=.int k/\H p=some (.lst xs)/\ixN xs.length k=some j/\Q (upd H p (.lst (xs.set j v)))
theorem Vc:gP X eM:=by
 intro w6 s O H o i v ov iv u Q I ro ri rv h;obtain⟨p,xs,k,j,rfl,rfl,hp,hj,q⟩:=h;cases ro;obtain⟨t,rfl⟩:=ri;obtain⟨its,n,r,ho,hz⟩:=I.lst hp;obtain⟨h1,h2,h3,h4⟩:=Sj hj;have hl:=r.length;have hn:=Ld;have I':Inv X w6 O (upd H p (.lst (xs.set j v))) { s with heap:=s.heap.update p (Obj.mapSeq (·.setIfInBounds j u)) }:=
  I.lstUpd hp ho (Qq its n j u) (r.set rv j) (by rw[List.length_set];exact hz) s.toks
 by_cases h0:0<=k
 ·have hk:k.toNat=j:=by
   rw[seqIndex_of h0 h4] at h1;exact Option.some.inj h1
  exact PySem.W.ki_setAt ho h0 (by omega) (by rw[List.size_toArray,←hl];exact h4) (by rw[hk];exact⟨_,I',q⟩)
 ·have hk:(k+(its.toArray.size:Int)).toNat=j:=by
   rw[seqIndex_neg (by omega) h3] at h1;rw[List.size_toArray,←hl];exact Option.some.inj h1
  exact PySem.W.ki_setBack ho (by omega) (by rw[List.size_toArray,←hl];exact h3) (by omega) (by rw[hk];exact⟨_,I',q⟩)
theorem Nh(lo hi:Option Int)(n:Nat):(sliceBounds lo hi none n).1=((HT.sIx n 0 lo:Nat):Int)/\(sliceBounds lo hi none n).2.1=((HT.sIx n n hi:Nat):Int)/\(sliceBounds lo hi none n).2.2=1:=by
 refine⟨?_,?_,rfl⟩
 ·cases lo with
  |none=>simp[sliceBounds,HT.sIx]
  |some i=>
   simp only[sliceBounds,HT.sIx,Option.getD_none,show (1:Int) > 0 by decide,if_true];by_cases h:i<0
   ·simp only[h,if_true]<;>omega
   ·simp only[h,if_false]<;>omega
 ·cases hi with
  |none=>simp[sliceBounds,HT.sIx]
  |some i=>
   simp only[sliceBounds,HT.sIx,Option.getD_none,show (1:Int) > 0 by decide,if_true];by_cases h:i<0
   ·simp only[h,if_true]<;>omega
   ·simp only[h,if_false]<;>omega
theorem MD(its:List Value)(lo hi:Option Int):slicePick its.toArray lo hi none=((its.drop (HT.sIx its.length 0 lo)).take (HT.sIx its.length its.length hi-HT.sIx its.length 0 lo)).toArray:=by
 obtain⟨h1,h2,h3⟩:=Nh lo hi its.toArray.size;unfold slicePick;rw[h1,h2,h3];simp only[sliceRange_one,pick_run,List.size_toArray]<;>rfl
noncomputable def gl(K:PySem.W.Frag):V->Option Int->Option Int->Hp->VK->Prop:=λx lo hi H Q=>∃a xs,x=.ref a/\SqL K H a xs/\∀p,H p=none->Q (.ref p) (upd H p (.lst (Po xs lo hi)))
theorem YJ:SlR X (gl X.K):=by
 intro w6 s O H x v vl vu lo hi sl Q I rx hs pl pu h;obtain⟨a,xs,rfl,hx,q⟩:=h;cases rx;obtain⟨its,r,ht,hz⟩:=I.list hx;have hlen:=r.length;refine⟨"list",_,slot_list_getitem.lookup,ht.isList.typeIs,?_⟩;refine wpAny_getItem_list_slice ht.isList hs pl pu .none (by simp) ?_ (by rw[List.size_toArray]<;>omega);rw[MD,←hlen];refine⟨.ref s.heap.objs.size,_,I.laid (t':=s.toks) (o:=.lst (Po xs lo hi)) (λb ob q=>AAC _ q) (AAE _) ?_,rfl,q _ (I.hok.fresh (AAE _))⟩;exact⟨AAq (J3 xs lo hi) hz,_,0,(r.drop (HT.sIx xs.length 0 lo)).take (HT.sIx xs.length xs.length hi-HT.sIx xs.length 0 lo),AAD _ rfl⟩
noncomputable def Hm:V->Bool
 | .non=>true
 | .bl _=>true
 | .int _=>true
 | .str _=>true
 |_=>false
noncomputable def eqV:V->V->Bool
 | .non,.non=>true
 | .bl a,.bl b=>a==b
 | .bl a,.int b=>(if a then 1 else 0)==b
 | .int a,.bl b=>a==(if b then 1 else 0)
 | .int a,.int b=>a==b
 | .str a,.str b=>a==b
 |_,_=>false
theorem dO(ry:RelV y u)(rx:RelV x v)(fy:Hm y=true)(fx:Hm x=true):SeqAt.EqAt A s u v (eqV y x):=by
 cases y with
 |non=>
  cases ry;cases x with
  |non=>cases rx;exact SeqAt.EqAt.same _
  |bl b=>cases rx;exact SeqAt.EqAt.none_bool b
  |int b=>obtain⟨t,rfl⟩:=rx;exact SeqAt.EqAt.none_int b t
  |str b=>obtain⟨t,rfl⟩:=rx;exact SeqAt.EqAt.none_str b t
  |_=>exact absurd (show false=true from fx) AAf
 |bl a=>
  cases ry;cases x with
  |non=>cases rx;exact SeqAt.EqAt.bool_none a
  |bl b=>cases rx;exact SeqAt.EqAt.bool_bool a b
  |int b=>obtain⟨t,rfl⟩:=rx;exact SeqAt.EqAt.bool_int a b t
  |str b=>obtain⟨t,rfl⟩:=rx;exact SeqAt.EqAt.bool_str a b t
  |_=>exact absurd (show false=true from fx) AAf
 |int a=>
  obtain⟨t',rfl⟩:=ry;cases x with
  |non=>cases rx;exact SeqAt.EqAt.int_none a t'
  |bl b=>cases rx;exact SeqAt.EqAt.int_bool a t' b
  |int b=>obtain⟨t,rfl⟩:=rx;exact SeqAt.EqAt.int_int a t' b t
  |str b=>obtain⟨t,rfl⟩:=rx;exact SeqAt.EqAt.int_str a t' b t
  |_=>exact absurd (show false=true from fx) AAf
 |str a=>
  obtain⟨t',rfl⟩:=ry;cases x with
  |non=>cases rx;exact SeqAt.EqAt.str_none a t'
  |bl b=>cases rx;exact SeqAt.EqAt.str_bool a t' b
  |int b=>obtain⟨t,rfl⟩:=rx;exact SeqAt.EqAt.str_int a t' b t
  |str b=>obtain⟨t,rfl⟩:=rx;exact SeqAt.EqAt.str_str a t' b t
  |_=>exact absurd (show false=true from fx) AAf
 |_=>exact absurd (show false=true from fy) AAf
noncomputable def eqU(x:V)(u:Value):Bool:=match u with
 | .none=>eqV .non x
 | .bool b=>eqV (.bl b) x
 | .int i _=>eqV (.int i) x
 | .str z _=>eqV (.str z) x
 |_=>false
theorem XE(r:RelV y u)(f:Hm y=true):eqU x u=eqV y x:=by
 cases y with
 |non=>cases r;rfl
 |bl b=>cases r;rfl
 |int i=>obtain⟨t,rfl⟩:=r;rfl
 |str z=>obtain⟨t,rfl⟩:=r;rfl
 |_=>exact absurd (show false=true from f) AAf
theorem JD:∀{xs:List V} {us:List Value},Vals xs us->xs.all Hm=true->us.any (eqU x)=xs.any λy=>eqV y x
 |_,_,.nil,_=>rfl
 |y::xs,u::us,.cons r t,f=>by
  rw[List.all_cons,Bool.and_eq_true] at f;rw[List.any_cons,List.any_cons,XE r f.1,JD t f.2]
theorem Gj(rx:RelV x v)(fx:Hm x=true):∀{xs:List V} {us:List Value},Vals xs us->xs.all Hm=true->∀u∈us,SeqAt.EqAt A s u v (eqU x u)
 |_,_,.nil,_=>λu hu=>by cases hu
 |y::xs,u::us,.cons r t,f=>λu' hu=>by
  rw[List.all_cons,Bool.and_eq_true] at f;rcases AAI.mp hu with rfl|hu
  ·rw[XE r f.1];exact dO r rx f.1 fx
  ·exact Gj rx fx t f.2 u' hu
noncomputable def inV(x:V)(xs:List V):Bool:=xs.any λy=>eqV y x
noncomputable def rIn(K:PySem.W.Frag)(neg:Bool):R2:=λx y H Q=>∃p xs,y=.ref p/\(SqL K H p xs∨SqT K H p xs)/\Hm x=true/\xs.all Hm=true/\Q (.bl (if neg then !inV x xs else inV x xs)) H
theorem Tt:OpR X (compareOp .In) (rIn X.K false):=by
 intro w6 s O H x y v u Q I rx ry h;obtain⟨p,xs,rfl,hq,fx,fs,q⟩:=h;cases ry;rcases hq with hq|hq
 ·obtain⟨its,r,pl,hz⟩:=I.list hq;refine SeqAt.in_listAt (eqU x) pl.isList (λw hw=>Gj rx fx r fs w (by simpa using hw)) ⟨.bl _,H,I,rfl,?_⟩;rw[show its.toArray.any (eqU x)=its.any (eqU x) by simp,JD r fs];exact q
 ·obtain⟨its,r,pl,hz⟩:=I.tuple hq;refine SeqAt.in_tupleAt (eqU x) pl (λw hw=>Gj rx fx r fs w (by simpa using hw)) ⟨.bl _,H,I,rfl,?_⟩;rw[show its.toArray.any (eqU x)=its.any (eqU x) by simp,JD r fs];exact q
theorem Nw:OpR X (compareOp .NotIn) (rIn X.K true):=by
 intro w6 s O H x y v u Q I rx ry h;obtain⟨p,xs,rfl,hq,fx,fs,q⟩:=h;cases ry;rcases hq with hq|hq
 ·obtain⟨its,r,pl,hz⟩:=I.list hq;refine SeqAt.notIn_listAt (eqU x) pl.isList (λw hw=>Gj rx fx r fs w (by simpa using hw)) ⟨.bl _,H,I,rfl,?_⟩;rw[show its.toArray.any (eqU x)=its.any (eqU x) by simp,JD r fs];exact q
 ·obtain⟨its,r,pl,hz⟩:=I.tuple hq;refine SeqAt.notIn_tupleAt (eqU x) pl (λw hw=>Gj rx fx r fs w (by simpa using hw)) ⟨.bl _,H,I,rfl,?_⟩;rw[show its.toArray.any (eqU x)=its.any (eqU x) by simp,JD r fs];exact q
def tyV(K:PySem.W.Frag)(T:String)(x:V)(H:Hp):Prop:=match x with
 | .str _=>T = "str"
 | .int _=>T = "int"
 | .ref p=>(T = "list" /\ ∃xs,SqL K H p xs)∨(T = "tuple" /\ ∃o,K.lookup p=some o/\o.cls=.type "tuple" /\ o.dict=none) ∨
   (T = "dict" /\ ((∃kvs,H p=some (.dK kvs))∨∃kvs,H p=some (.dT kvs)))∨(T = "set" /\ ∃S n,H p=some (.set S n))
 |_=>False
theorem VJ(I:Inv X w6 O H s)(r:RelV x v)(ty:tyV X.K T x H):
  s.TypeIs v T/\∀a,v=.ref a->∃ob,s.heap.get? a=some ob/\ob.dict=none:=by
 cases x with
 |str z=>
  obtain⟨t,rfl⟩:=r;cases (show T = "str" from ty);exact⟨typeIs_str s z t,λ_ e=>nomatch e⟩
 |int i=>
  obtain⟨t,rfl⟩:=r;cases (show T = "int" from ty);exact⟨typeIs_int s i t,λ_ e=>nomatch e⟩
 |ref p=>
  cases r;rcases ty with ⟨rfl,xs,hq⟩|⟨rfl,o,hk,hc,hd⟩|⟨rfl,hk⟩|⟨rfl,S,n,hk⟩
  ·obtain⟨its,_,pl,_⟩:=I.list hq;refine⟨pl.isList.typeIs,λa e=>?_⟩;cases e;obtain⟨o,n,e,c,hd,_⟩:=pl;exact⟨o,e,hd⟩
  ·refine⟨⟨o,I.kIn p o hk,hc⟩,λa e=>?_⟩;cases e;exact⟨o,I.kIn _ o hk,hd⟩
  ·have z:∃o,s.heap.get? p=some o/\o.ExactDict:=by
    rcases hk with ⟨kvs,hk⟩|⟨kvs,hk⟩
    ·obtain⟨_,_,_,_,o,_,_,e,ex,_⟩:=I.hok p _ hk;exact⟨o,e,ex⟩
    ·obtain⟨_,_,_,_,o,_,_,e,ex,_⟩:=I.hok p _ hk;exact⟨o,e,ex⟩
   obtain⟨o,e,ex⟩:=z;refine⟨⟨o,e,ex.1⟩,λa e2=>?_⟩;cases e2;exact⟨o,e,ex.2.1⟩
  ·obtain⟨o,_,_,_,e,ex,_⟩:=I.hok p _ hk;refine⟨⟨o,e,ex.1⟩,λa e2=>?_⟩;cases e2;exact⟨o,e,ex.2.1⟩
 |_=>exact False.elim ty
noncomputable def eB(K:PySem.W.Frag)(T:String)(r:V->List V->Hp->VK->Prop)(to:TE):TE:=λO H Q=>to O H λx H1=>tyV K T x H1/\r x [] H1 Q
noncomputable def tBM(K:PySem.W.Frag)(T:String)(r:V->List V->Hp->VK->Prop)(to:TE)(t:TA):TE:=λO H Q=>to O H λx H1=>tyV K T x H1/\t O H1 λxs H2=>r x xs H2 Q
variable{o e:Expr}{es:List Expr}{to:TE}{t:TA}{name:Str}{apos cpos:Pos}{T id:String}{r:V->List V->Hp->VK->Prop}
theorem bo(pa:PlainAttrs T)(slot:Slot T name id)(hty:typeOf (.builtin id)=pure (.type "method_descriptor"))(hm:MtR X id r)(ho:PE X o to)
  (hbase:attributeBase o name X.env (eval o X.env)=eval o X.env:=by rfl) (hline:(apos.endLine==cpos.line)=true:=by rfl):PE X (.Call (.Attribute o name apos) [] [] cpos) (eB X.K T r to):=by
 intro w6 s O H Q I h;refine wpAny_Call_method0_late hbase hline (thn (ho w6 s O H _ I h) λv s1 ⟨x,H1,I1,r1,ty,q1⟩=>?_);obtain⟨h1,h2⟩:=VJ I1 r1 ty;exact⟨T,id,pa,slot,hty,h1,h2,Calls.callWith_builtin rfl (PySem.evalArgs_none (hm w6 s1 O H1 x [] v [] Q I1 r1 .nil q1))⟩
theorem WY(pa:PlainAttrs T)(slot:Slot T name id)(hty:typeOf (.builtin id)=pure (.type "method_descriptor"))(hm:MtR X id r)(ho:PE X o to)(ha:PA X (e::es) t)
  (hbase:attributeBase o name X.env (eval o X.env)=eval o X.env:=by rfl)
  (hfew:((backTo cpos (starEach (e::es) X.env)).all (λx=>!x.1)&&(backToKw cpos (keywordEach [] X.env)).all (λx=>x.1.isSome)
   && decide ((e::es).length+([]:List Keyword).length+(if ([]:List Keyword).isEmpty then 0 else 1)<30))=true:=by rfl)
  (hline:(apos.endLine==cpos.line)=true:=by rfl) (hs:starEach (e::es) X.env=(false,eval e X.env)::starEach es X.env:=by rfl) (hplain:(backTo cpos (starEach es X.env)).any (·.1)=false:=by rfl) :
  PE X (.Call (.Attribute o name apos) (e::es) [] cpos) (tBM X.K T r to t):=by
 intro w6 s O H Q I h;refine wpAny_Call_method_late hbase hfew hline rfl (thn (ho w6 s O H _ I h) λv s1 ⟨x,H1,I1,r1,ty,q1⟩=>?_);obtain⟨h1,h2⟩:=VJ I1 r1 ty;refine⟨T,id,pa,slot,hty,h1,h2,?_⟩;have hA:=ha cpos w6 s1 O H1 _ I1 q1;rw[hs] at hA ⊢;refine Calls.callWith_builtin (by show (false||(backTo cpos (starEach es X.env)).any (·.1))=false;rw[hplain]<;>rfl) (Calls.evalArgs_plain ?_);exact thn hA λus s2 ⟨vs,H2,I2,r2,q2⟩=>hm w6 s2 O H2 x vs v us Q I2 r1 r2 q2
end
def MtM(X:Cx)(id:String)(r:V->List V->Hp->VK->Prop):Prop:=
 ∀(w6:List (Addr×Obj)) (s:Shared) (O:St) (H:Hp) (x:V) (xs:List V) (v:Value) (us:List Value) (Q:VK),Inv X w6 O H s->RelV x v->Vals xs us->r x xs H Q->
  wpAny (model X.prog X.w) X.A (call (.builtin id) (v::us)) (EP X w6 O Q) X.xe s
theorem Vals.one:∀{x:V} {us:List Value},Vals [x] us->∃u,us=[u]/\RelV x u
 |_,_,.cons r .nil=>⟨_,rfl,r⟩
theorem Vals.two:∀{x y:V} {us:List Value},Vals [x,y] us->∃u v,us=[u,v]/\RelV x u/\RelV y v
 |_,_,_,.cons r (.cons q .nil)=>⟨_,_,rfl,r,q⟩
theorem Vals.zero:∀{us:List Value},Vals [] us->us=[]
 |_,.nil=>rfl
theorem Vals.dropLast(h:Vals xs us):Vals xs.dropLast us.dropLast:=by
 induction h with
 |nil=>exact .nil
 |cons r t ih=>
  cases t with
  |nil=>exact .nil
  |cons q t'=>exact .cons r ih
theorem Vals.reverse(h:Vals xs us):Vals xs.reverse us.reverse:=by
 induction h with
 |nil=>exact .nil
 |cons r t ih=>rw[List.reverse_cons,List.reverse_cons];exact Vals.append ih (.cons r .nil)
theorem Vals.rep(h:Vals xs us):∀k:Nat,Vals (List.replicate k xs).flatten (List.replicate k us).flatten
 |0=>.nil
 |k+1=>by
  rw[AAj,AAj,List.flatten_cons,List.flatten_cons];exact Vals.append h (Vals.rep h k)
theorem Q3(l:List α):l.eraseIdx (l.length-1)=l.dropLast:=by
 induction l with
 |nil=>rfl
 |cons a r ih=>
  cases r with
  |nil=>rfl
  |cons b r=>
   have e:(a::b::r).length-1=((b::r).length-1)+1:=by
    have h1:(a::b::r).length=r.length+2:=rfl;have h2:(b::r).length=r.length+1:=rfl;omega
   rw[e,List.eraseIdx_cons_succ,ih]
   all_goals rfl
theorem M5(its:List Value):∀(k:Nat) (acc:List Value),
  List.foldl (λx1 x2=>x1++x2) acc.toArray (List.replicate k its.toArray)=(acc++(List.replicate k its).flatten).toArray
 |0,acc=>by simp
 |k+1,acc=>by
  have e:acc.toArray++its.toArray=(acc++its).toArray:=by simp
  have e2:(acc++its)++(List.replicate k its).flatten=acc++(List.replicate (k+1) its).flatten:=by
   rw[AAj,List.flatten_cons,AAk]
  rw[←e2,←M5 its k (acc++its),←e,AAj,List.foldl_cons]
section
variable{X:Cx}{w6:List (Addr×Obj)}{O:St}{H:Hp}{s:Shared}{l:Addr}{xs ys:List V}
theorem Inv.lset{its its':List Value}{n:Nat}{f:Array Value->Array Value}{t':Nat}(I:Inv X w6 O H s)(hH:H l=some (.lst xs))
  (e:s.heap.get? l=some { cls:=.type "list",data:=.seq its.toArray n }) (hf:f its.toArray=its'.toArray) (hv:Vals ys its') (hz:ys.length<=sizeLine) :
  Inv X w6 O (upd H l (.lst ys)) { s with heap:=s.heap.update l (Obj.mapSeq f),toks:=t' }:=by
 have q:=PySem.IsL.update e f;rw[hf] at q;refine I.write (x:=l) (e:=l) (by rw[hH];exact trivial) (.inl rfl) (λb' u hb hu=>(Heap.get?_update_other s.heap (Obj.mapSeq f) (Ne.symm hb)).trans hu) ⟨_,q⟩ ?_;exact⟨hz,its',_,hv,q⟩
theorem Inv.lnew(I:Inv X w6 O H s)(hv:Vals ys its)(hz:ys.length<=sizeLine):
  Inv X w6 O (upd H s.heap.objs.size (.lst ys)) { s with heap:=s.heap.push { cls:=.type "list",data:=.seq its.toArray },toks:=t' }:=
 I.laid (λ_ _ q=>AAC _ q) (AAE _) ⟨hz,its,0,hv,AAD _ rfl⟩
theorem Inv.fresh(I:Inv X w6 O H s):H s.heap.objs.size=none:=I.hok.fresh (AAE _)
theorem Inv.lstM(I:Inv X w6 O H s)(hH:H l=some (.lst xs)):xs.length<=sizeLine/\∃(its:List Value) (n:Nat),Vals xs its/\xs.length=its.length/\s.heap.get? l=some { cls:=.type "list",data:=.seq its.toArray n }:=by
 obtain⟨z,its,n,r,e⟩:=I.hok l _ hH;exact⟨z,its,n,r,r.length,e⟩
theorem LS(h:n<=sizeLine):Builtin.List.listTooLong n=false:=by
 unfold Builtin.List.listTooLong;exact AAN (by omega)
end
section
variable{X:Cx}
noncomputable def Yd:V->List V->Hp->VK->Prop:=λx vs H Q=>∃l xs y,x=.ref l/\vs=[y]/\H l=some (.lst xs)/\xs.length<sizeLine/\Q .non (upd H l (.lst (xs++[y])))
theorem Tx:MtM X "list.append" Yd:=by
 intro w6 s O H x vs v us Q I rx rv h;obtain⟨l,xs,y,rfl,rfl,hH,hz,q⟩:=h;cases rx;obtain⟨u,rfl,ru⟩:=rv.one;obtain⟨z,its,n,r,hl,e⟩:=I.lstM hH;refine call_meets F.slot_list_append ⟨_,e,rfl⟩ F.entry_list_append (F.args_list_append_2 _ _) (PySem.list_append l its.toArray n u (by rw[List.size_toArray];omega)) ⟨e,?_⟩;refine⟨.non,_,I.lset (its':=its++[u]) hH e (by simp) (r.append (.cons ru .nil)) ?_,rfl,q⟩;rw[AAG,List.length_singleton];omega
noncomputable def Yc:V->List V->Hp->VK->Prop:=λx vs H Q=>∃l b xs zs,x=.ref l/\vs=[.ref b]/\H l=some (.lst xs)/\H b=some (.lst zs)/\xs.length+zs.length<=sizeLine/\Q .non (upd H l (.lst (xs++zs)))
theorem Tw:MtM X "list.extend" Yc:=by
 intro w6 s O H x vs v us Q I rx rv h;obtain⟨l,b,xs,zs,rfl,rfl,hH,hB,hz,q⟩:=h;cases rx;obtain⟨u,rfl,ru⟩:=rv.one;cases ru;obtain⟨z,its,n,r,hl,e⟩:=I.lstM hH;obtain⟨z2,its2,n2,r2,hl2,e2⟩:=I.lstM hB;have hsz:its.toArray.size+its2.toArray.size<=sizeLine:=by rw[List.size_toArray,List.size_toArray];omega
 have hlong:¬(!its.toArray.isEmpty&&Builtin.List.listTooLong (its.toArray.size+its2.toArray.size))=true:=by
  rw[LS hsz,Bool.and_false];exact AAf
 refine call_meets F.slot_list_extend ⟨_,e,rfl⟩ F.entry_list_extend (F.args_list_extend_2 _ _)
  (AutoSeq1.list_extend_list_list_0 l its.toArray n b its2.toArray n2 hlong (by rw[List.size_toArray];omega) (by omega)) ⟨e,e2,?_⟩
 refine⟨.non,_,I.lset (its':=its++its2) hH e (by simp) (r.append r2) ?_,rfl,q⟩;rw[AAG];omega
noncomputable def gp:V->List V->Hp->VK->Prop:=λx vs H Q=>∃l xs y,x=.ref l/\vs=[]/\H l=some (.lst xs)/\xs[xs.length-1]?=some y/\Q y (upd H l (.lst xs.dropLast))
theorem cM:MtM X "list.pop" gp:=by
 intro w6 s O H x vs v us Q I rx rv h;obtain⟨l,xs,y,rfl,rfl,hH,hy,q⟩:=h;cases rx;have hus:=rv.zero;subst hus;obtain⟨z,its,n,r,hl,e⟩:=I.lstM hH;obtain⟨u,hu,ru⟩:=r.get hy;have hy':its.toArray[its.toArray.size-1]?=some u:=by
  show its.toArray[its.length-1]?=some u;rw[←Array.getElem?_toList,←hl];exact hu
 refine call_meets F.slot_list_pop ⟨_,e,rfl⟩ F.entry_list_pop (F.args_list_pop_1 _) (MeetsSeq.list_pop_last l its.toArray n u hy' (by rw[List.size_toArray];omega)) ⟨e,?_⟩;refine⟨y,_,I.lset (its':=its.dropLast) hH e ?_ r.dropLast ?_,ru,q⟩
 ·show its.toArray.eraseIdxIfInBounds (its.toArray.size-1)=its.dropLast.toArray;rw[List.size_toArray,List.eraseIdxIfInBounds_toArray,Q3]
 ·rw[List.length_dropLast];omega
noncomputable def gr:R2:=λx y H Q=>∃l b xs zs,x=.ref l/\y=.ref b/\H l=some (.lst xs)/\H b=some (.lst zs)/\xs.length+zs.length<=sizeLine/\∀p,H p=none->Q (.ref p) (upd H p (.lst (xs++zs)))
theorem Qm:OpR X (binaryOp .Add) gr:=by
 intro w6 s O H x y v u Q I rx ry h;obtain⟨l,b,xs,zs,rfl,rfl,hH,hB,hz,q⟩:=h;cases rx;cases ry;obtain⟨z,its,n,r,hl,e⟩:=I.lstM hH;obtain⟨z2,its2,n2,r2,hl2,e2⟩:=I.lstM hB;refine PySem.P.add_list e e2 ?_ (by rw[List.size_toArray,List.size_toArray];omega);have ea:its.toArray++its2.toArray=(its++its2).toArray:=by simp
 rw[ea];exact⟨.ref _,_,I.lnew (t':=s.toks) (r.append r2) (by rw[AAG];omega),rfl,q _ I.fresh⟩
noncomputable def gm:R2:=λx y H Q=>∃l k xs,x=.ref l/\y=.int k/\H l=some (.lst xs)/\-(2 ^ 63)<=k/\k<2 ^ 63/\xs.length * k.toNat<=sizeLine /\
 ∀p,H p=none->Q (.ref p) (upd H p (.lst (List.replicate k.toNat xs).flatten))
theorem ZE(xs:List α)(k:Nat):(List.replicate k xs).flatten.length=k * xs.length:=by
 induction k with
 |zero=>simp
 |succ k ih=>rw[AAj,List.flatten_cons,AAG,ih,Nat.succ_mul,Nat.add_comm]
theorem cB:OpR X (binaryOp .Mult) gm:=by
 intro w6 s O H x y v u Q I rx ry h;obtain⟨l,k,xs,rfl,rfl,hH,h1,h2,hz,q⟩:=h;cases rx;obtain⟨t,rfl⟩:=ry;obtain⟨z,its,n,r,hl,e⟩:=I.lstM hH;have hlen:its.toArray.size * k.toNat<=sizeLine:=by rw[List.size_toArray,←hl];exact hz
 have hcap:¬its.toArray.size * k.toNat > (2 ^ 63-1) / 8:=by
  have:(sizeLine:Nat)<=(2 ^ 63-1) / 8:=by decide
  omega
 have hfit:¬(!Builtin.List.listFitsIndex k)=true:=by
  rw[fitsIndex_both h1 h2];exact AAf
 have hlong:¬Builtin.List.listTooLong (its.toArray.size * k.toNat)=true:=by
  rw[LS hlen];exact AAf
 have hnew:List.foldl (λx1 x2=>x1++x2) #[] (List.replicate (if its.toArray.isEmpty=true then 0 else k.toNat) its.toArray)=(List.replicate k.toNat its).flatten.toArray:=by
  have f0:∀m:Nat,List.foldl (λx1 x2=>x1++x2) #[] (List.replicate m its.toArray)=(List.replicate m its).flatten.toArray:=λm=>by
   have:=M5 its m [];rw[List.nil_append] at this;exact this
  rw[f0];cases its with
  |nil=>simp
  |cons a r'=>rw[if_neg (by simp)]
 refine wpAny_binaryOp_repeat_ref (T := "list") (U := "int") (by decide) ⟨_,e,rfl⟩ (λs'=>typeIs_int s' k t) noFill_list_mul F.fills_int_mul F.slot_int_rmul repeat_list F.slot_int_index.lookup
  (call_meets F.slot_int_rmul (typeIs_int s k t) F.entry_int_rmul (F.args_int_rmul_2 _ _) (int___rmul___int_list k t l its.toArray n)
   ⟨e,rfl,⟨_,e,rfl⟩,call_meets F.slot_list_mul ⟨_,e,rfl⟩ F.entry_list_mul (F.args_list_mul_2 _ _) (AutoListH.list___mul___list_int_3 l its.toArray n k t hfit hcap hlong) ⟨e,?_⟩⟩)
 rw[hnew];exact⟨.ref _,_,I.lnew (t':=s.toks) (r.rep k.toNat) (by rw[ZE,Nat.mul_comm];exact hz),rfl,q _ I.fresh⟩
end
section
variable{κ:Type}[DecidableEq κ]
noncomputable def GV(kvs:List (κ×V))(k:κ):Option V:=(kvs.find? λkv=>decide (kv.1=k)).map (·.2)
noncomputable def FM(kvs:List (κ×V))(k:κ)(v:V):List (κ×V):=
 if (kvs.any λkv=>decide (kv.1=k))=true then kvs.map (λkv=>if kv.1=k then (kv.1,v) else kv) else kvs++[(k,v)]
theorem Kp{p:κ×V}{r:List (κ×V)}{k:κ}(e:p.1=k):GV (p::r) k=some p.2:=by simp[GV,List.find?_cons,e]
theorem Kq{p:κ×V}{r:List (κ×V)}{k:κ}(e:¬p.1=k):GV (p::r) k=GV r k:=by simp[GV,List.find?_cons,e]
theorem Oo(k:κ):∀kvs:List (κ×V),(kvs.any λkv=>decide (kv.1=k))=(GV kvs k).isSome
 |[]=>rfl
 |p::r=>by
  rw[List.any_cons];by_cases e:p.1=k
  ·simp only[Kp e,AAO e,Bool.true_or,Option.isSome_some]
  ·rw[Kq e,AAN e,Bool.false_or];exact Oo k r
theorem Gx(kvs:List (κ×V))(k:κ)(v:V):(FM kvs k v).length<=kvs.length+1:=by
 unfold FM;split
 ·rw[AAF];omega
 ·rw[AAG,AAH,List.length_nil];omega
theorem RelO.isSome_eq(r:RelO o u):o.isSome=u.isSome:=by
 cases o with
 |none=>cases u with
  |none=>rfl
  |some _=>exact(show False from r).elim
 |some _=>cases u with
  |none=>exact(show False from r).elim
  |some _=>rfl
theorem RelO.getD(r:RelO o u)(rd:RelV d d'):RelV (o.getD d) (u.getD d'):=by
 cases o with
 |none=>cases u with
  |none=>exact rd
  |some _=>exact(show False from r).elim
 |some _=>cases u with
  |none=>exact(show False from r).elim
  |some _=>exact r
theorem KV.val{kvs:List (κ×V)}{vs:List (κ×Value)}(r:KV kvs vs)(k:κ):RelO (GV kvs k) (valueAt vs k):=by
 unfold KV at r
 induction r with
 |nil=>exact True.intro
 |@cons p q ps qs h t ih=>
  obtain⟨h1,h2⟩:=h;by_cases e:p.1=k
  ·have e':q.1=k:=h1.symm.trans e;have b:valueAt (q::qs) k=some q.2:=by simp[valueAt,List.find?_cons,e']
   rw[Kp e,b];exact h2
  ·have e':¬q.1=k:=λz=>e (h1.trans z);have b:valueAt (q::qs) k=valueAt qs k:=by simp[valueAt,List.find?_cons,e']
   rw[Kq e,b];exact ih
theorem KV.any(r:KV kvs vs)(k:κ):(kvs.any λkv=>decide (kv.1=k))=vs.any λkv=>decide (kv.1=k):=by
 unfold KV at r
 induction r with
 |nil=>rfl
 |cons h t ih=>rw[List.any_cons,List.any_cons,ih,h.1]
theorem KV.repl(r:KV kvs vs)(k:κ)(ry:RelV y u):
  KV (kvs.map λkv=>if kv.1=k then (kv.1,y) else kv) (vs.map λkv=>if kv.1=k then (kv.1,u) else kv):=by
 unfold KV at r ⊢
 induction r with
 |nil=>exact .nil
 |@cons p q ps qs h t ih=>
  rw[AAW,AAW];refine .cons ?_ ih;obtain⟨h1,h2⟩:=h;by_cases e:p.1=k
  ·rw[if_pos e,if_pos (h1.symm.trans e)];exact⟨h1,ry⟩
  ·rw[if_neg e,if_neg (λz=>e (h1.trans z))];exact⟨h1,h2⟩
theorem KV.put(r:KV kvs vs)(k:κ)(ry:RelV y u):KV (FM kvs k y) (stored vs k u):=by
 unfold FM stored;rw[r.any k];by_cases e:(vs.any λkv=>decide (kv.1=k))=true
 ·rw[if_pos e,if_pos e];exact r.repl k ry
 ·rw[if_neg e,if_neg e];exact Paired.snoc r ⟨rfl,ry⟩
theorem KV.length(r:KV kvs vs):kvs.length=vs.length:=Paired.length r
end
theorem Jv(r:RelV (kV k) u):(BK P w).is k u=true:=by
 cases k with
 |inl i=>obtain⟨t,e⟩:=(show ∃t,u=Value.int i t from r);subst e;exact PP P w i t
 |inr x=>obtain⟨t,e⟩:=(show ∃t,u=Value.str x t from r);subst e;exact PN P w x t
theorem Mw:∀{ks:List Key} {us:List Value},Vals (ks.map kV) us->ItemsAre (BK P w) ks us
 |[],_,r=>by rw[List.map_nil] at r;cases r;exact .nil
 |k::ks,_,r=>by
  rw[AAW] at r;cases r with
  |cons h t=>exact .cons (Jv h) (Mw t)
noncomputable abbrev KT(H:Hp):List (List Key×V)->List (List Key×Addr×Value)->Prop:=Paired λp q=>p.1=q.1/\H q.2.1=some (.tup (p.1.map kV))/\RelV p.2 q.2.2
theorem KT.val{H:Hp}{kvs:List (List Key×V)}{xs:List (List Key×Addr×Value)}(r:KT H kvs xs)(k:List Key):RelO (GV kvs k) ((atKey xs k).map (·.2)):=by
 induction r with
 |nil=>exact True.intro
 |@cons p q ps qs h t ih=>
  obtain⟨h1,_,h2⟩:=h;by_cases e:p.1=k
  ·have e':q.1=k:=h1.symm.trans e;have b:atKey (q::qs) k=some q.2:=by simp[atKey,List.find?_cons,e']
   rw[Kp e,b];exact h2
  ·have e':¬q.1=k:=λz=>e (h1.trans z);have b:atKey (q::qs) k=atKey qs k:=by simp[atKey,List.find?_cons,e']
   rw[Kq e,b];exact ih
theorem KT.repl(r:KT H kvs xs)(k:List Key)(ry:RelV y u):
  KT H (kvs.map λkv=>if kv.1=k then (kv.1,y) else kv) (xs.map (putAt k u)):=by
 induction r with
 |nil=>exact .nil
 |@cons p q ps qs h t ih=>
  rw[AAW,AAW];refine .cons ?_ ih;obtain⟨h1,h2,h3⟩:=h;unfold putAt;by_cases e:p.1=k
  ·rw[if_pos e,if_pos (h1.symm.trans e)];exact⟨h1,h2,ry⟩
  ·rw[if_neg e,if_neg (λz=>e (h1.trans z))];exact⟨h1,h2,h3⟩
theorem KT.put(r:KT H kvs xs)(k:List Key)(hb:H b=some (.tup (k.map kV)))(ry:RelV y u):
  KT H (FM kvs k y) (storedH xs k b u):=by
 have e:(kvs.any λkv=>decide (kv.1=k))=(atKey xs k).isSome:=by
  rw[Oo,(r.val k).isSome_eq,Option.isSome_map]
 unfold FM storedH;rw[e];by_cases q:(atKey xs k).isSome=true
 ·rw[if_pos q,if_pos q];exact r.repl k ry
 ·rw[if_neg q,if_neg q];exact Paired.snoc r ⟨rfl,hb,ry⟩
theorem KT.keeps(r:KT H kvs xs)(ht:∀b ys,H b=some (.tup ys)->H' b=some (.tup ys)):KT H' kvs xs:=
 Paired.mapP r λ_ _ z=>⟨z.1,ht _ _ z.2.1,z.2.2⟩
section
variable{P:Program}{w:World}{H:Hp}{h:Heap}{a:Addr}
theorem Z6(ok:HOk P w H h)(e:Rd H a u):ObjOk P w H h a u:=e.ok ok
theorem J2(ok:HOk P w H h)(e:Rd H a (.dK kvs)):kvs.length<=sizeLine/\(a==sysModules)=false/\∃vs,KV kvs vs/\h.DictOf (BK P w) a vs:=
 show ObjOk P w H h a (.dK kvs) from Z6 ok e
theorem S7(ok:HOk P w H h)(e:H a=some (.dK kvs)):kvs.length<=sizeLine/\(a==sysModules)=false/\∃vs,KV kvs vs/\h.DictOf (BK P w) a vs:=J2 ok (.inl e)
theorem JV(ok:HOk P w H h)(e:H a=some (.tup (ks.map kV))):(tupleKind (BK P w)).is h ks a:=by
 obtain⟨_,its,r,o,h1,h2,n,h3⟩:=(show ObjOk P w H h a (.tup (ks.map kV)) from ok a _ e);exact⟨o,its.toArray,n,h1,h2,h3,by simpa using Mw r⟩
theorem Lo(ok:HOk P w H h)(e:Rd H a (.dT kvs)):kvs.length<=sizeLine/\(a==sysModules)=false /\
  ∃xs,KT H kvs xs/\h.DictOfH (tupleKind (BK P w)) a xs:=by
 obtain⟨z,y,xs,r,o,es,ep,h1,h2,h3,h4,h5⟩:=(show ObjOk P w H h a (.dT kvs) from Z6 ok e);refine⟨z,y,xs,r,o,es,ep,h1,h2,h3,h4,λx hx=>?_,h5⟩;have all:∀{l:List (List Key×V)} {m:List (List Key×Addr×Value)},KT H l m->∀x∈m,(tupleKind (BK P w)).is h x.1 x.2.1:=by
  intro l m q
  induction q with
  |nil=>intro x hx;exact nomatch hx
  |@cons p q ps qs hq t ih=>
   intro x hx;rcases AAI.mp hx with e|hx
   ·subst e;exact JV ok (by rw[←hq.1];exact hq.2.1)
   ·exact ih x hx
 exact all r x hx
theorem f9(ok:HOk P w H h)(e:H a=some (.dT kvs)):kvs.length<=sizeLine/\(a==sysModules)=false /\
  ∃xs,KT H kvs xs/\h.DictOfH (tupleKind (BK P w)) a xs:=Lo ok (.inl e)
end
def DGet(H:Hp)(a:Addr)(y:V)(r:Option V):Prop:=
 (∃kvs k,Rd H a (.dK kvs)/\y=kV k/\r=GV kvs k)∨∃kvs k b,Rd H a (.dT kvs)/\y=.ref b/\H b=some (.tup (k.map kV))/\r=GV kvs k
def DPut(H:Hp)(a:Addr)(y v:V)(H':Hp):Prop:=
 (∃kvs k,H a=some (.dK kvs)/\y=kV k/\kvs.length<sizeLine/\H'=upd H a (.dK (FM kvs k v))) ∨
 ∃kvs k b,H a=some (.dT kvs)/\y=.ref b/\H b=some (.tup (k.map kV))/\kvs.length<sizeLine/\H'=upd H a (.dT (FM kvs k v))
theorem DGet.k{H:Hp}{a:Addr}{kvs:List (Key×V)}{k:Key}(e:H a=some (.dK kvs)):DGet H a (kV k) (GV kvs k):=.inl ⟨kvs,k,.inl e,rfl,rfl⟩
theorem DPut.k{H:Hp}{a:Addr}{kvs:List (Key×V)}{k:Key}{v:V}(e:H a=some (.dK kvs))(hl:kvs.length<sizeLine):DPut H a (kV k) v (upd H a (.dK (FM kvs k v))):=.inl ⟨kvs,k,e,rfl,hl,rfl⟩
section
variable{X:Cx}{w6:List (Addr×Obj)}{O:St}{H:Hp}{s:Shared}{a:Addr}{y v:V}{u r:Value}{o:Option V}{A:Around}{E:Value->Shared->Prop}
theorem Inv.big(I:Inv X w6 O H s):sysModules<s.heap.objs.size:=by
 have h:mainGlobals<s.heap.objs.size:=(I.mod.glob.keeps I.bk).lt;exact Nat.lt_trans (by decide) h
theorem UO(hu:A.units+1<cLine)(I:Inv X w6 O H s)(g:DGet H a y (some v))(ry:RelV y u)(h:∀w' s',Inv X w6 O H s'->RelV v w'->Q w' s'):
  wpAny (model X.prog X.w) A (getItem (.ref a) u) Q E s:=by
 rcases g with ⟨kvs,k,e,ey,l⟩|⟨kvs,k,b,e,ey,eb,l⟩
 ·subst ey;obtain⟨z,hd,vs,rel,dd⟩:=J2 I.hok e;obtain⟨w',hw,rw'⟩:=RelO.some_of (v:=v) (o:=valueAt vs k) (by rw[l];exact rel.val k);exact wpAny_getItem_of (Jv ry) dd.mapOf hw (h w' _ (I.tok _) rw')
 ·subst ey;cases (show u=Value.ref b from ry);obtain⟨z,hd,xs,rel,dd⟩:=Lo I.hok e;obtain⟨w',hw,rw'⟩:=RelO.some_of (v:=v) (o:=(atKey xs k).map (·.2)) (by rw[l];exact rel.val k);obtain⟨p,hp,hp2⟩:=Option.map_eq_some_iff.mp hw;refine wpAny_getItem_heap (tupleKind_room_in1 hu) (JV I.hok eb) dd hp ?_;rw[hp2];exact h w' _ (I.tok _) rw'
theorem hZ(hu:A.units+1<cLine)(I:Inv X w6 O H s)(g:DGet H a y o)(ry:RelV y u)(h:∀s',Inv X w6 O H s'->Q (.bool o.isSome) s'):
  wpAny (model X.prog X.w) A (compareOp .In u (.ref a)) Q E s:=by
 rcases g with ⟨kvs,k,e,ey,l⟩|⟨kvs,k,b,e,ey,eb,l⟩
 ·subst ey;obtain⟨z,hd,vs,rel,dd⟩:=J2 I.hok e;refine wpAny_in_of (Jv ry) hd dd.mapOf ?_;rw[←(rel.val k).isSome_eq,←l];exact h _ (I.tok _)
 ·subst ey;cases (show u=Value.ref b from ry);obtain⟨z,hd,xs,rel,dd⟩:=Lo I.hok e;refine wpAny_in_heap (tupleKind_room_in1 hu) (JV I.hok eb) hd dd ?_;have q:=(rel.val k).isSome_eq;rw[Option.isSome_map] at q;rw[←q,←l];exact h _ (I.tok _)
theorem KY(I:Inv X w6 O H s)(mu:Mut (H a))(hs:Heap.SameBut a s.heap h')(he:∃q,h'.get? a=some q)(new:ObjOk X.prog X.w (upd H a ob) h' a ob):
  Inv X w6 O (upd H a ob) { s with heap:=h',toks:=t' }:=
 I.write (x:=a) (e:=a) mu (.inl rfl) (λb q hb z=>(hs.2 b hb).trans z) he new
theorem Lp(z:kvs.length<=sizeLine)(hd:(a==sysModules)=false)(rel:KV kvs vs)(dd:h'.DictOf (BK P w) a vs):
  ObjOk P w H' h' a (.dK kvs):=⟨z,hd,vs,rel,dd⟩
theorem UN(hu:A.units+1<cLine)(I:Inv X w6 O H s)(g:DPut H a y v H')(ry:RelV y u)(rv:RelV v r)(h:∀s',Inv X w6 O H' s'->Q () s'):
  wpAny (model X.prog X.w) A (setItem (.ref a) u r) Q E s:=by
 rcases g with ⟨kvs,k,e,ey,l,eH⟩|⟨kvs,k,b,e,ey,eb,l,eH⟩
 ·subst ey eH;obtain⟨z,hd,vs,rel,dd⟩:=S7 I.hok e;have hz:vs.length<=sizeLine:=by rw[←rel.length];exact z
  have hl:(FM kvs k v).length<=sizeLine:=by have:=Gx kvs k v;omega
  refine wpAny_setItem_pairs (hsz:=hz) (Jv ry) dd λh' dd' hs=>h _ ?_;have he:∃q,h'.get? a=some q:=let ⟨q,_,_,hq,_⟩:=dd';⟨q,hq⟩
  exact KY I (by rw[e];exact True.intro) hs he (Lp hl hd (rel.put k rv) dd')
 ·subst ey eH;cases (show u=Value.ref b from ry);obtain⟨z,hd,xs,rel,dd⟩:=f9 I.hok e;have hz:xs.length<=sizeLine:=by rw[←Paired.length rel];exact z
  have hl:(FM kvs k v).length<=sizeLine:=by have:=Gx kvs k v;omega
  refine wpAny_setItem_heap (hsz:=hz) (tupleKind_room_in1 hu) (JV I.hok eb) dd λh' dd' hs=>h _ ?_;obtain⟨q,es,ep,hq,h2,h3,h4,_,h5⟩:=dd';refine KY I (by rw[e];exact True.intro) hs ⟨q,hq⟩ ⟨hl,hd,_,(rel.put k eb rv).keeps λc ys ec=>?_,q,es,ep,hq,h2,h3,h4,h5⟩;rw[BN (fR ec e (λz=>nomatch z))];exact ec
end
def Xh(i:Expr):Prop:=∀ov iv,subscripted i false ov iv=operate [ov,iv] (getItem ov iv)
theorem Rt{prog:Program}{w:World}{A:Around}{E:Value->Shared->Prop}{s:Shared}{env:Env}{value slice:Expr}{pos:Pos}{T id:String}{Q:Value->Shared->Prop}
  (hl:typeLookup (.type T) "__getitem__" = pure (some (.builtin id))) (hs:Xh slice)
  (h:wpAny (model prog w) A (eval value env) (λo s₁=>wpAny (model prog w) A (eval slice env) (λi s₂=>s₂.TypeIs o T/\wpAny (model prog w) A (getItem o i) Q E s₂) E s₁) E s) :
  wpAny (model prog w) A (eval (.Subscript value slice pos) env) Q E s:=by
 refine Subscript_ (AAh h (λo s₁ h₁=>AAh h₁ (λi s₂ h₂=>?_) λ_ _ x=>x) λ_ _ x=>x);obtain⟨hT,h₂⟩:=h₂;unfold subscriptTail;refine AAA ?_;rw[getitemInPython_of_ne hT.not_modules];refine AAA (wpAny_specialOf hT hl ?_);have fin:wpAny (model prog w) A (subscripted slice false o i) (λr s₃=>wpAny (model prog w) A (letTemporaryGo value o r >>= λ_=>pure r) Q E s₃) E s₂:=by
  rw[hs o i];exact wpAny_operating (AAh h₂ (λr s₃ h₃=>AAA (wpAny_letTemporaryGo (AAB h₃))) λ_ _ x=>x)
 first
  |exact AAB (AAA fin)
  |exact AAA (AAB (AAA fin))
  |exact AAA fin
theorem Pm(I:Inv X w6 O H s)(g:DGet H a y o):s.TypeIs (.ref a) "dict" := by
 rcases g with ⟨kvs,k,e,_,_⟩|⟨kvs,k,b,e,_,_,_⟩
 ·obtain⟨_,_,vs,_,dd⟩:=J2 I.hok e;exact dd.typeIs
 ·obtain⟨_,_,xs,_,dd⟩:=Lo I.hok e;exact dd.typeIs
noncomputable def d8(td ty:TE):TE:=λO H Q=>td O H λx H1=>ty O H1 λy H2=>∃a v,x=.ref a/\DGet H2 a y (some v)/\Q v H2
noncomputable def d7(ty td:TE):TE:=λO H Q=>ty O H λy H1=>td O H1 λx H2=>∃a o,x=.ref a/\DGet H2 a y o/\Q (.bl o.isSome) H2
noncomputable def eD(td ty tv:TE):TS:=λD O H=>tv O H λv H1=>td O H1 λx H2=>ty O H2 λy H3=>∃a H4,x=.ref a/\DPut H3 a y v H4/\D.nx O H4
section
variable{X:Cx}{o i value:Expr}{pos pos':Pos}{td ty tv:TE}
theorem Yv(hu:X.A.units+1<cLine)(ho:PE X o td)(hi:PE X i ty)(hs:Xh i):PE X (.Subscript o i pos) (d8 td ty):=by
 intro w6 s O H Q I h;refine Rt PySem.F.slot_dict_getitem.lookup hs (thn (ho w6 s O H _ I h) λu s1 ⟨x,H1,I1,rx,q1⟩=>thn (hi w6 s1 O H1 _ I1 q1) λiv s2 ⟨y,H2,I2,ry,a,v,ex,g,q2⟩=>?_);subst ex;obtain rfl:u=Value.ref a:=rx;exact⟨Pm I2 g,UO hu I2 g ry λw' s3 I3 rw'=>⟨v,H2,I3,rw',q2⟩⟩
theorem br(hu:X.A.units+1<cLine)(hi:PE X i ty)(ho:PE X o td):PC X .In i o (d7 ty td):=by
 intro w6 s O H Q I h;refine thn (hi w6 s O H _ I h) λiv s1 ⟨y,H1,I1,ry,q1⟩=>thn (ho w6 s1 O H1 _ I1 q1) λu s2 ⟨x,H2,I2,rx,a,ov,ex,g,q2⟩=>?_;subst ex;obtain rfl:u=Value.ref a:=rx;exact hZ hu I2 g ry λs3 I3=>⟨.bl ov.isSome,H2,I3,rfl,q2⟩
theorem Yl(hu:X.A.units+1<cLine)(ho:PE X o td)(hi:PE X i ty)(hv:PE X value tv)(hs:swapsWith value (some (.Subscript o i pos')) pos.line X.env=pure false):
  PS X (.Assign [.Subscript o i pos'] value pos) (eD td ty tv):=by
 intro w6 s O H D I h;refine wpAny_Assign_Subscript (thn (hv w6 s O H _ I h) λr s1 ⟨v,H1,I1,rv,q1⟩=>thn (ho w6 s1 O H1 _ I1 q1) λu s2 ⟨x,H2,I2,rx,q2⟩=>thn (hi w6 s2 O H2 _ I2 q2) λiv s3 ⟨y,H3,I3,ry,a,H4,ex,g,q3⟩=>?_) hs;subst ex;obtain rfl:u=Value.ref a:=rx;exact UN hu I3 g ry rv λs4 I4=>⟨O,H4,I4,q3⟩
end
theorem Pj(h:Heap)(hb:sysModules<h.objs.size):ObjOk P w H (h.push { cls:=.type "dict",data:=.dict #[] }) h.objs.size (.dK []):=
 ⟨AAi _,AAd.mpr (Ne.symm (AAc hb)),[],.nil,Heap.DictOf.new h⟩
noncomputable def ax:TE:=λ_ H Q=>∀p,H p=none->Q (.ref p) (upd H p (.dK []))
section
variable{X:Cx}{pos:Pos}
theorem WS:PE X (.Dict [] [] pos) ax:=λw6 s O H Q I h=>
 wpAny_Dict_empty ⟨.ref s.heap.objs.size,_,I.laid (a:=s.heap.objs.size) (o:=.dK []) (t':=s.toks) (λ_ _ q=>AAC _ q) (AAE _) (Pj s.heap I.big),rfl,h _ (I.hok.fresh (AAE _))⟩
end
noncomputable def Nf:List (TE×TE)->St->Hp->(List (V×V)->Hp->Prop)->Prop
 |[],_,H,Q=>Q [] H
 |(tk,tv)::r,O,H,Q=>tk O H λx H1=>tv O H1 λy H2=>Nf r O H2 λps H3=>Q ((x,y)::ps) H3
noncomputable abbrev VV:List (V×V)->List (Value×Value)->Prop:=Paired λp q=>RelV p.1 q.1/\RelV p.2 q.2
def PPs(X:Cx)(pos:Pos)(keys:List (Option Expr))(values:List Expr)(trs:List (TE×TE)):Prop:=
 ∀(w6:List (Addr×Obj)) (s:Shared) (O:St) (H:Hp) (Q:List (V×V)->Hp->Prop),Inv X w6 O H s->Nf trs O H Q->
  wpAny (model X.prog X.w) X.A (evalPairs (pairTrees keys values X.env pos)) (λvs s'=>∃ps H',Inv X w6 O H' s'/\VV ps vs/\Q ps H') X.xe s
theorem Ym:PPs X pos [] [] []:=λw6 s O H Q I h=>pairTrees_nil_walk ⟨[],H,I,.nil,h⟩
theorem WH(hk:PE X k tk)(hv:PE X v tv)(hr:PPs X pos ks vs trs):
  PPs X pos (some k::ks) (v::vs) ((tk,tv)::trs):=λw6 s O H Q I h=>
 pairTrees_cons_walk (thn (hk w6 s O H _ I h) λu s1 ⟨x,H1,I1,rx,q1⟩=>thn (hv w6 s1 O H1 _ I1 q1) λw2 s2 ⟨y,H2,I2,ry,q2⟩=>
  thn (hr w6 s2 O H2 _ I2 q2) λws s3 ⟨ps,H3,I3,rel,q3⟩=>⟨(x,y)::ps,H3,I3,.cons ⟨rx,ry⟩ rel,q3⟩)
noncomputable def Ea(kvs more:List (Key×V)):List (Key×V):=more.foldl (λacc kv=>FM acc kv.1 kv.2) kvs
theorem KV.merge:∀{more:List (Key×V)} {rs:List (Key×Value)} {kvs:List (Key×V)} {vs:List (Key×Value)},KV more rs->KV kvs vs->KV (Ea kvs more) (merged vs rs):=by
 intro more rs kvs vs r;unfold KV at r
 induction r generalizing kvs vs with
 |nil=>intro q;exact q
 |@cons p q ps qs h t ih=>
  intro r0;have e:KV (FM kvs p.1 p.2) (stored vs q.1 q.2):=by
   have:=r0.put p.1 h.2;rw[←h.1];exact this
  exact ih e
theorem ED:∀(more kvs:List (Key×V)),(Ea kvs more).length<=kvs.length+more.length
 |[],kvs=>by show kvs.length<=kvs.length+0;omega
 |p::r,kvs=>by
  have h1:=ED r (FM kvs p.1 p.2);have h2:=Gx kvs p.1 p.2;show (Ea (FM kvs p.1 p.2) r).length<=_;rw[AAH];omega
theorem Ls:∀{kvs:List (Key×V)} {ws:List (Value×Value)},VV (kvs.map λkv=>(kV kv.1,kv.2)) ws->∃rs,Carries (BK P w) ws rs/\KV kvs rs
 |[],_,r=>by rw[List.map_nil] at r;cases r;exact⟨[],True.intro,.nil⟩
 |p::kvs,_,r=>by
  rw[AAW] at r;cases r with
  |@cons a b as bs h t=>
   obtain⟨rs,c,q⟩:=Ls (P:=P) (w:=w) t;obtain⟨b1,b2⟩:=b;exact⟨(p.1,b2)::rs,⟨Jv h.1,rfl,c⟩,.cons ⟨rfl,h.2⟩ q⟩
noncomputable def d3(trs:List (TE×TE)):TE:=λO H Q=>∀p,H p=none->Nf trs O (upd H p (.dK [])) λps H2=>H2 p=some (.dK [])/\∃kvs:List (Key×V),ps=kvs.map (λkv=>(kV kv.1,kv.2))/\kvs.length<=15/\Q (.ref p) (upd H2 p (.dK (Ea [] kvs)))
theorem Yu(h:PPs X pos keys values trs)(hall:keys.all (·.isSome)=true)(hl:keys.length=values.length)(h0:keys≠[])
  (h15:keys.length<=15):PE X (.Dict keys values pos) (d3 trs):=by
 intro w6 s O H Q I q;have hn:=I.hok.fresh (AAE s.heap.objs.size);have I1:=I.laid (a:=s.heap.objs.size) (o:=.dK []) (h':=s.heap.push { cls:=.type "dict",data:=.dict #[] }) (t':=s.toks) (λ_ _ q=>AAC _ q) (AAE _) (Pj s.heap I.big);refine wpAny_Dict_walk (knd:=BK X.prog X.w) hall hl h0 h15 (thn (h w6 _ O _ _ I1 (q _ hn)) λws s2 ⟨ps,H2,I2,rel,e,kvs,ep,lk,q2⟩=>?_);subst ep;obtain⟨rs,c,rk⟩:=Ls (P:=X.prog) (w:=X.w) rel;obtain⟨z,hd,vs0,r0,dd⟩:=S7 I2.hok e;cases r0;refine⟨rs,c,dd,λh' dd' hs=>⟨.ref s.heap.objs.size,_,?_,rfl,q2⟩⟩;have hz:(Ea [] kvs).length<=sizeLine:=by
  have h1:=ED kvs [];rw[List.length_nil] at h1;rw[sizeLine_eq];omega
 have he:∃q,h'.get? s.heap.objs.size=some q:=let ⟨q,_,_,hq,_⟩:=dd';⟨q,hq⟩
 exact KY I2 (by rw[e];exact True.intro) hs he (Lp hz hd (rk.merge .nil) dd')
structure M1(X:Cx)(o:Expr)(m:Str)(apos:Pos)(e:Expr)(cpos:Pos):Prop where
 base:attributeBase o m X.env (eval o X.env)=eval o X.env
 few:((backTo cpos (starEach [e] X.env)).all (λx=>!x.1)&&(backToKw cpos (keywordEach [] X.env)).all (λx=>x.1.isSome)
  && decide (([e]:List Expr).length+([]:List Keyword).length+(if ([]:List Keyword).isEmpty then 0 else 1)<30))=true
 line:(apos.endLine==cpos.line)=true
 trees:backTo cpos (starEach [e] X.env)=[(false,eval e X.env)]
structure M2(X:Cx)(o:Expr)(m:Str)(apos:Pos)(e f:Expr)(cpos:Pos):Prop where
 base:attributeBase o m X.env (eval o X.env)=eval o X.env
 few:((backTo cpos (starEach [e,f] X.env)).all (λx=>!x.1)&&(backToKw cpos (keywordEach [] X.env)).all (λx=>x.1.isSome)
  && decide (([e,f]:List Expr).length+([]:List Keyword).length+(if ([]:List Keyword).isEmpty then 0 else 1)<30))=true
 line:(apos.endLine==cpos.line)=true
 trees:backTo cpos (starEach [e,f] X.env)=[(false,eval e X.env),(false,eval f X.env)]
def IsD(H:Hp)(a:Addr):Prop:=(∃kvs,Rd H a (.dK kvs))∨∃kvs,Rd H a (.dT kvs)
theorem W4(I:Inv X w6 O H s)(d:IsD H a):
  s.TypeIs (.ref a) "dict" /\ (∀b,Value.ref a=.ref b->∃ob,s.heap.get? b=some ob/\ob.dict=none)/\(a==sysModules)=false:=by
 rcases d with ⟨kvs,e⟩|⟨kvs,e⟩
 ·obtain⟨_,hd,vs,_,dd⟩:=J2 I.hok e;refine⟨dd.typeIs,λb q=>?_,hd⟩;cases q;obtain⟨ob,_,_,h1,h2,_⟩:=dd;exact⟨ob,h1,h2.2.1⟩
 ·obtain⟨_,hd,xs,_,dd⟩:=Lo I.hok e;refine⟨dd.typeIs,λb q=>?_,hd⟩;cases q;obtain⟨ob,_,_,h1,h2,_⟩:=dd;exact⟨ob,h1,h2.2.1⟩
section
variable{X:Cx}{w6:List (Addr×Obj)}{O:St}{H:Hp}{s:Shared}{a:Addr}{y d:V}{u r:Value}{o:Option V}{A:Around}{E:Value->Shared->Prop}
theorem dR(hu:A.units+1<cLine)(I:Inv X w6 O H s)(g:DGet H a y o)(ry:RelV y u)(h:∀w' s',Inv X w6 O H s'->RelV (o.getD .non) w'->Q w' s'):
  wpAny (model X.prog X.w) A (call (.builtin "dict.get") [.ref a,u]) Q E s:=by
 rcases g with ⟨kvs,k,e,ey,l⟩|⟨kvs,k,b,e,ey,eb,l⟩
 ·subst ey;obtain⟨z,hd,vs,rel,dd⟩:=J2 I.hok e;refine call_meetsIn PySem.F.slot_dict_get dd.typeIs PySem.F.entry_dict_get (PySem.F.args_dict_get_2 _ _) (meets_dict_get (BK X.prog X.w) a (Jv ry) hd) ⟨_,dd.mapOf,h _ _ (I.tok _) ?_⟩;rw[l];exact(rel.val k).getD rfl
 ·subst ey;cases (show u=Value.ref b from ry);obtain⟨z,hd,xs,rel,dd⟩:=Lo I.hok e;refine call_meetsIn PySem.F.slot_dict_get dd.typeIs PySem.F.entry_dict_get (PySem.F.args_dict_get_2 _ _) (meetsH_dict_get (tupleKind (BK X.prog X.w)) a b hd) ⟨tupleKind_room_in1 hu,k,xs,JV I.hok eb,dd,h _ _ (I.tok _) ?_⟩;rw[l];exact(rel.val k).getD rfl
theorem dQ(hu:A.units+1<cLine)(I:Inv X w6 O H s)(g:DGet H a y o)(ry:RelV y u)(rd:RelV d r)(h:∀w' s',Inv X w6 O H s'->RelV (o.getD d) w'->Q w' s'):
  wpAny (model X.prog X.w) A (call (.builtin "dict.get") [.ref a,u,r]) Q E s:=by
 rcases g with ⟨kvs,k,e,ey,l⟩|⟨kvs,k,b,e,ey,eb,l⟩
 ·subst ey;obtain⟨z,hd,vs,rel,dd⟩:=J2 I.hok e;refine call_meetsIn PySem.F.slot_dict_get dd.typeIs PySem.F.entry_dict_get (PySem.F.args_dict_get_3 _ _ _) (meets_dict_get_default (BK X.prog X.w) a (Jv ry) hd r) ⟨_,dd.mapOf,h _ _ (I.tok _) ?_⟩;rw[l];exact(rel.val k).getD rd
 ·subst ey;cases (show u=Value.ref b from ry);obtain⟨z,hd,xs,rel,dd⟩:=Lo I.hok e;refine call_meetsIn PySem.F.slot_dict_get dd.typeIs PySem.F.entry_dict_get (PySem.F.args_dict_get_3 _ _ _) (meetsH_dict_get_default (tupleKind (BK X.prog X.w)) a b hd r) ⟨tupleKind_room_in1 hu,k,xs,JV I.hok eb,dd,h _ _ (I.tok _) ?_⟩;rw[l];exact(rel.val k).getD rd
end
noncomputable def az(td ty:TE):TE:=λO H Q=>td O H λx H1=>∃a,x=.ref a/\IsD H1 a/\ty O H1 λy H2=>∃o,DGet H2 a y o/\Q (o.getD .non) H2
noncomputable def ay(td ty tx:TE):TE:=λO H Q=>td O H λx H1=>∃a,x=.ref a/\IsD H1 a/\ty O H1 λy H2=>tx O H2 λz H3=>∃o,DGet H3 a y o/\Q (o.getD z) H3
section
variable{X:Cx}{o e f:Expr}{apos cpos:Pos}{td ty tx:TE}
theorem WU(hu:X.A.units+1<cLine)(ho:PE X o td)(he:PE X e ty)(m:M1 X o "get" apos e cpos):PE X (.Call (.Attribute o "get" apos) [e] [] cpos) (az td ty):=by
 intro w6 s O H Q I h;refine wpAny_Call_method m.base m.few m.line PySem.F.plainAttrs_dict PySem.F.slot_dict_get PySem.F.type_dict_get (thn (ho w6 s O H _ I h) λu s1 ⟨x,H1,I1,rx,a,ex,d,q1⟩=>?_);subst ex;obtain rfl:u=Value.ref a:=rx;obtain⟨t1,t2,_⟩:=W4 I1 d;refine⟨t1,t2,?_⟩;rw[m.trees];refine Calls.callWith_builtin rfl (Calls.evalArgs_plain (Calls.spliced_cons (thn (he w6 s1 O H1 _ I1 q1) λiv s2 ⟨y,H2,I2,ry,ov,g,q2⟩=>Calls.spliced_nil ?_)));exact dR hu I2 g ry λw' s3 I3 rw'=>⟨_,H2,I3,rw',q2⟩
theorem WT(hu:X.A.units+1<cLine)(ho:PE X o td)(he:PE X e ty)(hf:PE X f tx)(m:M2 X o "get" apos e f cpos):PE X (.Call (.Attribute o "get" apos) [e,f] [] cpos) (ay td ty tx):=by
 intro w6 s O H Q I h;refine wpAny_Call_method m.base m.few m.line PySem.F.plainAttrs_dict PySem.F.slot_dict_get PySem.F.type_dict_get (thn (ho w6 s O H _ I h) λu s1 ⟨x,H1,I1,rx,a,ex,d,q1⟩=>?_);subst ex;obtain rfl:u=Value.ref a:=rx;obtain⟨t1,t2,_⟩:=W4 I1 d;refine⟨t1,t2,?_⟩;rw[m.trees];refine Calls.callWith_builtin rfl (Calls.evalArgs_plain (Calls.spliced_cons (thn (he w6 s1 O H1 _ I1 q1) λiv s2 ⟨y,H2,I2,ry,q2⟩=>
  Calls.spliced_cons (thn (hf w6 s2 O H2 _ I2 q2) λfv s3 ⟨z,H3,I3,rz,ov,g,q3⟩=>Calls.spliced_nil ?_))))
 exact dQ hu I3 g ry rz λw' s4 I4 rw'=>⟨_,H3,I4,rw',q3⟩
end
section
variable{X:Cx}{w6:List (Addr×Obj)}{O:St}{H:Hp}{s:Shared}{a:Addr}{kvs:List (Key×V)}{A:Around}{E:Value->Shared->Prop}
theorem XN(I:Inv X w6 O H s)(e:Rd H a (.dK kvs))(h:∀p s',H p=none->Inv X w6 O (upd H p (.dK kvs)) s'->Q (.ref p) s'):wpAny (model X.prog X.w) A (call (.type "dict") [.ref a]) Q E s:=by
 obtain⟨z,hd,vs,rel,dd⟩:=J2 I.hok e;refine kt_call_dict hd dd (by rw[←rel.length];exact z) λh' dd' hs=>?_;refine h _ _ (I.hok.fresh (AAE _)) (I.laid (a:=s.heap.objs.size) (o:=.dK kvs) (t':=s.toks) (λb q hq=>?_) (AAE _) (Lp z (AAd.mpr (Ne.symm (AAc I.big))) rel dd'));exact(hs.2 b (AAc (Heap.lt_size hq))).trans (AAC _ hq)
end
end L2
namespace Att
open PySem PySem.W PySem.Calls PyProof.Rows
theorem J7:∀(ns:List Int) (vs:List Value),WellAll P h vs (ns.map WData.int)->IntsAre vs ns:=by
 intro ns
 induction ns with
 |nil=>
  intro vs w;rw[List.map_nil] at w;cases w;exact .nil
 |cons n ns ih=>
  intro vs w;rw[AAW] at w;cases w with
  |cons a b=>
   cases a;exact .cons _ _ (ih _ b)
theorem Te{l:OpenLaw}{n:Nat}(hn:l.most=some n){P:Params}{h:Heap}{args:List WData}{vals:List Value}
  (hpre:l.row.toRowW.claim.pre args=true) (hwl:WellAll P h vals args) :
  ∃a vs ns,vals=[Value.ref a]/\args=[WData.list (ns.map WData.int)]/\h.get? a=some { cls:=.type "list",data:=.seq vs.toArray }/\IntsAre vs ns/\ns.length<=n:=by
 have hsh:WShape.hasAll [] args [.list .int]=true:=(pre_splitW hpre).1;have hc:l.pre.holds [] { args:=args }=true:=(pre_splitW hpre).2;obtain⟨d,r,rfl,h1,h2⟩:=hasAllW_cons hsh;obtain rfl:=hasAllW_nil h2;obtain⟨xs,rfl,h3⟩:=hasW_list h1;obtain⟨ns,rfl⟩:=items_int h3;have hlen:ns.length<=n:=by
  unfold OpenLaw.pre at hc;have h4:(WTm.not (.lt (.lit (.int (n:Int))) (.len (.arg 0)))).holds [] { args:=[.list (ns.map .int)] }=true:=by
   have h4:=(holds_andW hc).1;rw[hn] at h4;exact h4
  have h5:=condW_of h4 (w_not (w_lt w_lit (w_len_list (w_arg rfl))));rw[AAF] at h5;refine Nat.le_of_not_lt λq=>?_;have q':(n:Int)<((ns.length:Nat):Int):=by omega
  first
   |(rw[AAO q'] at h5;exact absurd h5 (by decide))
   |(simp at h5;omega)
 cases hwl with
 |cons w1 w2=>
  cases w2;cases w1 with
  |list ho hall=>exact⟨_,_,ns,rfl,rfl,ho,J7 ns _ hall,hlen⟩
theorem Tn(l:OpenLaw)(args:List WData):l.row.toRowW.claim.post args (.bool true) args=true:=
 postW_of (r:=l.row.toRowW) (X:=(true==true))
  (show WShape.has [] (.bool true) .bool=true by first|rfl|decide|simp[WShape.has,WShape.arms,WShape.armsAll])
  (show (WTm.eq .res (.lit (.bool true))).value [] { args:=args,res:=some (.bool true),after:=args }=some (.bool (true==true)) from w_eq_bool (w_res rfl) w_lit) rfl
theorem P4{l:OpenLaw}{n:Nat}{q:Program}{loose:List Str}{XP:(Str->Option Value)->Heap->Prop}{YP:World->Heap->Prop}{d:DefRec}
  (hn:l.most=some n) (hdf:d.params.defaults=[])
  (call:∀(w:World) (s₀ s₁:Shared) (mg mb:Str->Option Value) (fa:Addr) (o:Obj) (pm cd doc:Value) (a:Addr) (vs:List Value) (ns:List Int),
   Ground q loose [] XP w s₀ mg mb s₁.heap->YP w s₁.heap->
   s₁.heap.get? fa=some o->o.data=.func (docDef d.name d.params d.body d.scope pm cd doc)->s₁.heap.CodeRec cd d.name->mg d.name=some (.ref fa)->
   s₁.heap.get? a=some { cls:=.type "list",data:=.seq vs.toArray }->IntsAre vs ns->ns.length<=n->s₁.gens=#[]->
   codeAny (model l.prog w) callerA (.call (.ref fa) ⟨[.ref a],[]⟩) (λr s'=>r=.ok (.ret (.bool true))/\OldK s₁.heap s'.heap/\s'.os=s₁.os/\AllBare s'.gens) s₁) :
  WalkO q loose XP YP l.row.toRowW d [] (λf vs=>PySem.call f vs):=by
 intro w s₀ s₁ mg mb G Y_ fa o pm cd doc dV kV ho hd hcd hD hmg hg args vals as hpre hlay hrd hwl hlo;obtain rfl:dV=.none:=Dflts.none hD hdf;obtain rfl:kV=.none:=Dflts.noKw hD;obtain⟨a,vs,ns,rfl,rfl,hobj,hints,hlen⟩:=Te hn hpre hwl;refine enter_call (codeAny_mono (call w s₀ s₁ mg mb fa o pm cd doc a vs ns G Y_ ho (fd_plain hd) hcd hmg hobj hints hlen hg) λr s' hq=>?_);obtain⟨rfl,h2,h3,h4⟩:=hq;exact⟨.inl ⟨.bool true,.bool true,[],rfl,λ_=>rfl,.bool true,Tn l _,λ_=>⟨List.Pairwise.nil,λ_ hm=>(nomatch hm)⟩⟩,h2,h3,h4⟩
end Att
namespace L2
open PySem PySem.Spec PyProof.Rows
theorem MV:∀{vs:List Value} {ns:List Int},IntsAre vs ns->Vals (ns.map V.int) vs
 |_,_,.nil=>.nil
 |_,_,.cons n t h=>.cons ⟨t,rfl⟩ (MV h)
def Zo(H:Hp):Prop:=∀b,H b=none∨∃o xs,H b=some (.frz o (.lst xs))
theorem Wt{P:Program}{w:World}{K:PySem.W.Frag}{mg mb:Str->Option Value}{CX:CXT}{k:Nat}{fa a:Addr}{fd:FuncData}{x:Str}{sp:Sp}{s₁:Shared}{vs:List Value}{ns:List Int}
  (KX:K.In s₁.heap) (hns:s₁.heap.Ns mainGlobals mg) (hb:s₁.heap.Ns builtinsNs mb) (hbb:∀x:Str,x ≠ "__name__" -> mb x=bootBuiltins x) (hlim:s₁.heap.NoLimit) (hg:s₁.gens=#[])
  (ha:s₁.heap.get? a=some { cls:=.type "list",data:=.seq vs.toArray }) (hi:IntsAre vs ns) (hl:ns.length<=sizeLine) (hr:Room k callerA)
  (F:∀base:Heap,K.In base->base.Ns mainGlobals mg->FnOk P w K mg base CX k fa fd [x] sp) (hbind:∀(s:Shared) (u:Value),BindsTo s fd ⟨[u],[]⟩ [(x,u)])
  (hsp:∀H:Hp,Zo H->SqL K H a (ns.map V.int)->sp [.ref a] H (λv _=>v=.bl true) λ_ _ _=>False)
  (hCX:∀H e s',CX [] H s₁ (λ_ _ _=>False) e s'->False) :
  codeAny (model P w) callerA (.call (.ref fa) ⟨[.ref a],[]⟩) (λr s'=>r=.ok (.ret (.bool true))/\OldK s₁.heap s'.heap/\s'.os=s₁.os/\AllBare s'.gens) s₁:=by
 have rv:=MV hi;have lenV:=hi.length;have core:∀H:Hp,Zo H->SqL K H a (ns.map V.int)->HOk P w H s₁.heap->(∀b,H b≠none->b=a)->(H a≠none->K.lookup a=none)->
   codeAny (model P w) callerA (.call (.ref fa) ⟨[.ref a],[]⟩) (λr s'=>r=.ok (.ret (.bool true))/\OldK s₁.heap s'.heap/\s'.os=s₁.os/\AllBare s'.gens) s₁:=by
  intro H hO hS hok hA hK;have base_of:∀{b:Addr} {o:Obj},s₁.heap.get? b=some o->H b=none->(OD s₁.heap H).get? b=some o:=λe n=>W5 e n;have noA:∀{b:Addr} {o:Obj} {es:Array DictEntry} {ep:Nat},s₁.heap.get? b=some o->o.data=.dict es ep->H b=none:=λ{b o es ep} e d=>by
   cases q:H b with
   |none=>rfl
   |some u=>
    have e':b=a:=hA b (by rw[q];simp);subst e';rw[ha] at e;cases e;have d':Data.seq vs.toArray _=Data.dict es ep:=d;cases d'
  have nsK:∀{b:Addr} {m:Str->Option Value},s₁.heap.Ns b m->(OD s₁.heap H).Ns b m:=λ{b m} ⟨o,es,ep,e,d,r⟩=>⟨o,es,ep,base_of e (noA e d),d,r⟩;have hKb:K.In (OD s₁.heap H):=λb o e=>base_of (KX b o e) (by
   cases q:H b with
   |none=>rfl
   |some u=>
    have e':b=a:=hA b (by rw[q];simp);subst e';rw[hK (by rw[q];simp)] at e;cases e)
  have hM:Mod K mg (OD s₁.heap H):=⟨hKb,nsK hns,⟨mb,nsK hb,hbb⟩,let ⟨mc,h1,h2⟩:=hlim;⟨mc,nsK h1,h2⟩⟩;have e0:Env0 P w K mg (OD s₁.heap H) callerA [] s₁ H:=⟨rfl,hM,λb o e=>Y4 e,Nat.le_of_eq (UE _ _),trivial,λb hb=>absurd (show b∈([]:List Addr) from hb) (by simp),hok,.of_eq hg⟩;refine codeAny_mono ((F _ hKb (nsK hns)).run callerA [] s₁ H ⟨[.ref a],[]⟩ [.ref a] [.ref a] _ _ hr e0 (hbind s₁ (.ref a)) (.cons rfl .nil) (hsp H hO hS)) λr s' h=>?_;cases r with
  |error e=>exact(hCX H e s' h).elim
  |ok fl=>
   cases fl with
   |next=>exact False.elim h
   |brk=>exact False.elim h
   |cont=>exact False.elim h
   |ret u=>
    obtain⟨v,H',os,bare,un,hok',r',q⟩:=h;have q':v=.bl true:=q;subst q';obtain rfl:u=Value.bool true:=r';refine⟨rfl,OldK.of_keep λb o e=>?_,os,bare⟩;cases q:H b with
    |none=>exact un.keep b o e q (by intro z;exact absurd (show b∈([]:List Addr) from z) (by simp)) (by simp)
    |some u=>
     rcases hO b with z|⟨ob,xs,z⟩
     ·rw[q] at z;cases z
     ·have z2:=un.frzs b ob _ z;obtain⟨e1,_⟩:=hok b _ z;obtain⟨e2,_⟩:=hok' b _ z2;rw[e] at e1;cases e1;exact e2
 cases hk:K.lookup a with
 |some o=>
  have e:=KX a o hk;rw[ha] at e;cases e;refine core (λ_=>none) (λ_=>.inl rfl) (.inr ⟨_,vs.toArray,_,hk,rfl,rfl,rfl,by rw[List.size_toArray,lenV];exact hl,by simpa using rv⟩) (λb u z=>by have z':(none:Option HO)=some u:=z;cases z') (λb z=>absurd rfl z) λz=>absurd rfl z
 |none=>
  refine core (λb=>if b=a then some (.frz { cls:=.type "list",data:=.seq vs.toArray } (.lst (ns.map V.int))) else none) (λb=>?_) (.inl (.inr ⟨{ cls:=.type "list",data:=.seq vs.toArray },if_pos rfl⟩)) (λb u z=>?_) (λb z=>?_) λ_=>hk
  ·by_cases hb:b=a
   ·exact .inr ⟨_,_,if_pos hb⟩
   ·exact .inl (if_neg hb)
  ·by_cases hb:b=a
   ·have z':=(if_pos hb).symm.trans z;cases z';subst hb;exact⟨ha,by rw[AAF];exact hl,vs,_,rv,ha⟩
   ·have z':=(if_neg hb).symm.trans z;cases z'
  ·by_cases hb:b=a
   ·exact hb
   ·exact absurd (if_neg hb) z
theorem X9{l:PySem.W.OpenLaw}{n k:Nat}{q:Program}{loose:List Str}{XP:(Str->Option Value)->Heap->Prop}{YP:World->Heap->Prop}{d:DefRec}{K:Params->PySem.W.Frag}{CX:World->CXT}{sp:World->Sp}{x:Str}
  (hn:l.most=some n) (hn2:n<=sizeLine) (hdf:d.params.defaults=[]) (hr:Room k callerA)
  (hY:∀(w:World) (h:Heap),YP w h->(K w.params).In h)
  (F:∀(w:World) (mg:Str->Option Value) (fa:Addr) (h:Heap),(K w.params).In h->h.Ns mainGlobals mg->mg d.name=some (.ref fa)->
   ∃fd:FuncData,(∀(s:Shared) (u:Value),BindsTo s fd ⟨[u],[]⟩ [(x,u)]) /\
    ∀base:Heap,(K w.params).In base->base.Ns mainGlobals mg->FnOk l.prog w (K w.params) mg base (CX w) k fa fd [x] (sp w))
  (hsp:∀(w:World) (H:Hp) (a:Addr) (ns:List Int),ns.length<=n->Zo H->SqL (K w.params) H a (ns.map V.int)->sp w [.ref a] H (λv _=>v=.bl true) λ_ _ _=>False)
  (hCX:∀(w:World) (H:Hp) (s:Shared) (e:Value) (s':Shared),CX w [] H s (λ_ _ _=>False) e s'->False) :
  PySem.W.WalkO q loose XP YP l.row.toRowW d [] (λf vs=>PySem.call f vs):=by
 refine Att.P4 hn hdf λw s₀ s₁ mg mb fa o pm cd doc a vs ns G Y_ ho hd hcd hmg hobj hints hlen hg=>?_;have KX:=hY w _ Y_;obtain⟨fd,hb,hF⟩:=F w mg fa _ KX G.T.g hmg;exact Wt KX G.T.g G.T.b G.T.builtins G.T.nolimit hg hobj hints (AAq hlen hn2) hr hF hb (λH hO hS=>hsp w H a ns hlen hO hS) λH e s'=>hCX w H s₁ e s'
noncomputable def GB(s:Stmt):Arguments:=match s with
 | .FunctionDef _ a _ _ _ _ _ _ _ _=>a
 |_=>{ posonlyargs:=[],args:=[],vararg:=none,kwonlyargs:=[],kw_defaults:=[],kwarg:=none,defaults:=[] }
noncomputable def CL(s:Stmt):List Stmt:=match s with
 | .FunctionDef _ _ b _ _ _ _ _ _ _=>b
 |_=>[]
noncomputable def AQ(s:Stmt):Scope:=match s with
 | .FunctionDef _ _ _ _ _ _ sc _ _ _=>sc
 |_=>{ kind:=.function,names:=[],isGenerator:=false,isCoroutine:=false }
noncomputable abbrev CX0:CXT:=λ_ _ _ _ _ _=>False
noncomputable abbrev E0:XK:=λ_ _ _=>False
theorem SU:IR CX0 X E0:=λ_ _ _ _ _ _ _ h=>h.elim
structure Fun(K:PySem.W.Frag)(x qual:Str)(st:Stmt)(f:Addr)(fd:FuncData):Prop where
 ex:∃(oc:Value) (od:Option Addr) (kV doc pm:Value) (an:Option Addr) (cdv ct:Value) (osl:Array (Option Value)),
  fd=PySem.W.fnOf x qual (GB st) (CL st) (AQ st) .none kV doc pm an cdv ct/\K.lookup f=some ⟨oc,od,.func fd,osl⟩/\PySem.W.codeIn K cdv qual=true
 kp:PySem.W.keepIn K (.ref f)=true
section
variable{P:Program}{w:World}{K:PySem.W.Frag}{mg:Str->Option Value}{base:Heap}
theorem Fun.ok{x qual:Str}{st:Stmt}{f:Addr}{fd:FuncData}{N ps:List Str}{k:Nat}{sp:Sp}(F:Fun K x qual st f fd)(S:Ak N ps (AQ st))(len:∀vs H Q E,sp vs H Q E->vs.length=ps.length)
  (hbody:∀(cdv:Value) (A:Around) (outer:List Env) (s:Shared) (H:Hp) (vs:List V) (Q:VK) (E:XK),Room k (A.deeper (envOfC qual (AQ st) s.heap.objs.size f cdv))->sp vs H Q E->
   ∃t,PSs (IM CX0 P w K mg base N qual (AQ st) f cdv A outer s H E).nox (CL st) t/\t { nx:=λ_ H'=>Q .non H',rt:=Q } (start N vs) H):FnOk P w K mg base CX0 (k+1) f fd ps sp:=by
 obtain⟨oc,od,kV,doc,pm,an,cdv,ct,osl,rfl,lk,hcd⟩:=F.ex;refine f6 lk hcd S len λA outer s H vs Q E hr hsp=>?_;obtain⟨t,h,q⟩:=hbody cdv A outer s H vs Q E hr hsp;exact⟨t,h.nox,q⟩
theorem Fun.binds{x qual:Str}{st:Stmt}{f:Addr}{fd:FuncData}{ps:List Str}(F:Fun K x qual st f fd)
  (h:∀(kV doc pm:Value) (an:Option Addr) (cdv ct:Value) (us:List Value),us.length=ps.length->bindArgs (PySem.W.fnOf x qual (GB st) (CL st) (AQ st) .none kV doc pm an cdv ct) ⟨us,[]⟩=pure (ps.zip us)):Binds K fd ps []:=by
 obtain⟨oc,od,kV,doc,pm,an,cdv,ct,osl,rfl,lk,hcd⟩:=F.ex;exact .all (h kV doc pm an cdv ct)
theorem Qy{x qual:Str}{st:Stmt}{f:Addr}{oc:Value}{od an:Option Addr}{osl:Array (Option Value)}{kV doc pm cdv ct:Value}(l:K.lookup f=some ⟨oc,od,.func (PySem.W.fnOf x qual (GB st) (CL st) (AQ st) .none kV doc pm an cdv ct),osl⟩)
  (c:PySem.W.codeIn K cdv qual=true) (k:PySem.W.keepIn K (.ref f)=true):Fun K x qual st f (PySem.W.fnOf x qual (GB st) (CL st) (AQ st) .none kV doc pm an cdv ct):=⟨⟨oc,od,kV,doc,pm,an,cdv,ct,osl,rfl,l,c⟩,k⟩
end
theorem Pc(hr:Room k A):A.units+1<cLine:=Nat.lt_of_le_of_lt (Nat.add_le_add_left (by decide:1<=64) _) hr.units
theorem JL(h:n<=1000):n<sizeLine:=Nat.lt_of_le_of_lt h (by decide)
section
variable{κ:Type}[DecidableEq κ]
end
noncomputable def G9(env:Env):List (Str×NameKind)->List (Str×Addr)->List (Str×Addr)
 |[],cs=>cs
 |(n,k)::r,cs=>G9 env r (if k==.free then (match env.cells.lookup n with|some c=>(n,c)::cs|none=>cs) else cs)
theorem Eb:∀(l:List (Str×NameKind)) (cs:List (Str×Addr)),(∀x∈l,x.2=.free->∃c,env.cells.lookup x.1=some c)->
  (forIn l cs λ(x:Str×NameKind) (r:List (Str×Addr))=>(if (x.2==NameKind.free)=true then (do let a ←cellOf env x.1;pure (ForInStep.yield ((x.1,a)::r))) else pure (ForInStep.yield r):Sem (ForInStep (List (Str×Addr)))))=pure (G9 env l cs)
 |[],cs,_=>by rw[List.forIn_nil];rfl
 |(n,k)::r,cs,h=>by
  have hr:∀x∈r,x.2=.free->∃c,env.cells.lookup x.1=some c:=λx hx=>h x (AAQ _ hx);rw[List.forIn_cons];by_cases hk:k=.free
  ·subst hk;obtain⟨c,hc⟩:=h (n,.free) AAP rfl;have e:cellOf env n=pure c:=by unfold cellOf;rw[hc]
   dsimp only;rw[if_pos (by decide),e,pure_bind,pure_bind];dsimp only;rw[Eb r _ hr];show _=pure (G9 env r (if (NameKind.free==NameKind.free)=true then (match env.cells.lookup n with|some c=>(n,c)::cs|none=>cs) else cs));rw[if_pos (by decide),hc]
  ·have hb:¬(k==NameKind.free)=true:=by simpa using hk
   dsimp only;rw[if_neg hb,pure_bind];dsimp only;rw[Eb r _ hr];show _=pure (G9 env r (if (k==NameKind.free)=true then (match env.cells.lookup n with|some c=>(n,c)::cs|none=>cs) else cs));rw[if_neg hb]
theorem Fp(h:∀x∈scope.names,x.2=.free->∃c,env.cells.lookup x.1=some c):closureFor scope env=pure (G9 env scope.names []):=by
 have e:=Eb (env:=env) scope.names [] h;unfold closureFor;dsimp only;rw[←bind_pure (pure (G9 env scope.names [])),←e]
theorem G8:∀(l:List (Str×NameKind)) (cs:List (Str×Addr)),(∀x c,cs.lookup x=some c->env.cells.lookup x=some c)->∀x c,(G9 env l cs).lookup x=some c->env.cells.lookup x=some c
 |[],cs,h=>h
 |(n,k)::r,cs,h=>by
  refine G8 r _ ?_;intro x c;by_cases hk:(k==NameKind.free)=true
  ·rw[if_pos hk];cases hl:env.cells.lookup n with
   |none=>exact h x c
   |some d=>
    intro q;by_cases hx:x=n
    ·subst hx;rw[List.lookup_cons_self] at q;rw[hl];exact q
    ·have hb:(x==n)=false:=AAd.mpr hx;simp only[List.lookup_cons,hb] at q;exact h x c q
  ·rw[if_neg hk];exact h x c
theorem Lq:∀(l:List (Str×NameKind)) (cs:List (Str×Addr)) (x:Str),(cs.lookup x).isSome=true->((G9 env l cs).lookup x).isSome=true
 |[],cs,x,h=>h
 |(n,k)::r,cs,x,h=>by
  refine Lq r _ x ?_;by_cases hk:(k==NameKind.free)=true
  ·rw[if_pos hk];cases hl:env.cells.lookup n with
   |none=>exact h
   |some d=>
    by_cases hx:(x==n)=true
    ·simp only[List.lookup_cons,hx,Option.isSome_some]
    ·have hb:(x==n)=false:=by simpa using hx
     simp only[List.lookup_cons,hb];exact h
  ·rw[if_neg hk];exact h
theorem Pq:∀(l:List (Str×NameKind)) (cs:List (Str×Addr)) (x:Str) (c:Addr),(x,NameKind.free)∈l->env.cells.lookup x=some c->((G9 env l cs).lookup x).isSome=true
 |[],cs,x,c,h,_=>by simp at h
 |(n,k)::r,cs,x,c,h,hc=>by
  rcases AAI.mp h with e|e
  ·obtain⟨rfl,rfl⟩:=Prod.mk.inj e;refine Lq r _ _ ?_;rw[if_pos (by decide),hc];simp only[List.lookup_cons_self,Option.isSome_some]
  ·exact Pq r _ x c e hc
theorem NF(h:(x,NameKind.free)∈l)(hc:env.cells.lookup x=some c):(G9 env l []).lookup x=some c:=by
 obtain⟨d,hd⟩:=Option.isSome_iff_exists.mp (Pq l [] x c h hc);have:=G8 l [] (λ_ _ z=>by simp at z) x d hd;rw[hc] at this;cases this;exact hd
noncomputable def DO:List (Str×NameKind)->List Str
 |[]=>[]
 |(n,.free)::r=>n::DO r
 |_::r=>DO r
theorem IE:∀{l:List (Str×NameKind)},x∈DO l->(x,NameKind.free)∈l
 |[],h=>by simp[DO] at h
 |(n,k)::r,h=>by
  cases k<;>first
   |(rcases AAI.mp (show x∈n::DO r from h) with e|e;{subst e;exact AAP};{exact AAQ _ (IE e)})
   |exact AAQ _ (IE (show x∈DO r from h))
theorem M3:∀{l:List (Str×NameKind)},(x,NameKind.free)∈l->x∈DO l
 |[],h=>by simp at h
 |(n,k)::r,h=>by
  rcases AAI.mp h with e|e
  ·cases e;exact AAP
  ·have ih:=M3 e;cases k<;>first
    |exact AAQ _ ih
    |exact ih
theorem Gv(f:Str×NameKind->Str×NameKind)(hf:∀p,f p=p∨p.2=.free/\f p=(p.1,.cell)):∀(l:List (Str×NameKind)) (k:NameKind),(l.map f).lookup x=some k->l.lookup x=some k∨l.lookup x=some .free/\k=.cell
 |[],_,h=>nomatch h
 |(y,j)::l,k,h=>by
  have rest:=Gv (x:=x) f hf l k;rw[AAW] at h;rcases hf (y,j) with e|⟨ej,e⟩<;>rw[e] at h<;>cases he:x==y<;>simp only[List.lookup_cons,he] at h ⊢
  ·exact rest h
  ·exact .inl h
  ·exact rest h
  ·cases h;cases (show j=NameKind.free from ej);exact .inr ⟨rfl,rfl⟩
theorem Ez(h:(relabel scope env).names.lookup x=some k):scope.names.lookup x=some k∨scope.names.lookup x=some .free/\k=.cell:=by
 unfold relabel at h;refine Gv _ (λp=>?_) _ _ h;obtain⟨n,j⟩:=p;dsimp only;split
 ·rename_i hc;refine .inr ⟨?_,rfl⟩;simp only[Bool.and_eq_true,beq_iff_eq] at hc;exact hc.1.1
 ·exact .inl rfl
noncomputable def Mf(ix:List Nat)(O:St):St:=ix.map λj=>(O[j]?).getD none
noncomputable def cxB(X:Cx)(scope:Scope)(tgs:List Str)(fp:List Addr)(C:Addr)(s:Shared)(H:Hp):Cx:=
 { X with N:=tgs++DO scope.names,s₀:=s,H₀:=H,env:=compEnvC scope (G9 X.env scope.names []) C X.env,outer:=X.stack,ex:=fp,fn:=λ_=>false,pn:=[],xe:=λ_ _=>False }
noncomputable def dc{α:Type}(P:α->Prop):List α->Prop
 |[]=>True
 |x::r=>P x/\dc P r
theorem L1:∀{l:List α},dc P l->∀x∈l,P x
 |[],_,_,h=>by simp at h
 |_::_,h,x,hx=>by
  rcases AAI.mp hx with e|e
  ·subst e;exact h.1
  ·exact L1 h.2 x e
structure BScope(X:Cx)(scope:Scope)(tgs:List Str)(ix:List Nat):Prop where
 kind:scope.kind=.function
 nocell:∀y∈scope.names,y.2≠.cell
 loc:∀y∈scope.names,y.2=.local->scope.names.lookup y.1=some .local
 fre:dc (λx=>X.env.kindOf x=some .cell∨X.env.kindOf x=some .free) (DO scope.names)
 ixs:(DO scope.names).map some=ix.map λj=>X.N[j]?
 ndl:∀x∈DO scope.names,scope.names.lookup x=some .free
section
variable{X:Cx}{scope:Scope}{tgs:List Str}{ix:List Nat}
theorem BScope.cells(S:BScope X scope tgs ix)(ok:X.Ok):∀x∈scope.names,x.2=.free->∃c,X.env.cells.lookup x.1=some c:=λx hx hk=>by
 obtain⟨n,k⟩:=x;subst hk;exact ok.has n (L1 S.fre n (M3 hx))
theorem Inv.cellLt(I:Inv X w6 O H s)(e:X.env.cells.lookup x=some c):c<s.heap.objs.size:=by
 obtain⟨v,q⟩:=I.cell x c e;exact q.lt
theorem Inv.track(I:Inv X w6 O H s)(f:Ha X w6 H D)(new:ObjOk X.prog X.w (upd H D o) s.heap D o):Inv X w6 O (upd H D o) s:=by
 obtain⟨f0,f1,f2,f3,f4,f5⟩:=f;have nD:∀b u,H b=some u->b≠D:=λb u e z=>by rw[z,f0] at e;cases e
 have:=I.step (h':=s.heap) (H':=upd H D o) (g':=s.gens) (t':=s.toks) (d':=s.drawn) (ch:=[D]) (λb hb=>?_) (λb u _ _ _ e _=>e) (λb u _ _ _ e _=>⟨u.slots,e⟩) (λb u hb e n=>?_) (λb u _ e=>⟨u,e⟩)
  (λb xs e=>?_) (λb u v e=>?_) (λb ps e=>?_) (λm hm=>hm) (λb u e=>?_) I.bare
 ·exact this
 ·have e:b=D:=by simpa using hb
  subst e;exact⟨f3,f1,f4,f5⟩
 ·rw[BN (λz=>hb (by simp[z]))];exact n
 ·rw[BN (nD b _ e)];exact e
 ·rw[BN (nD b _ e)];exact e
 ·exact⟨#[],by rw[BN (nD b _ e),e];simp⟩
 ·by_cases hb:b=D
  ·subst hb;rw[B2] at e;cases e;exact new
  ·rw[BN hb] at e;exact(I.hok b u e).stay (λ_ _ _ q=>q) (λc q=>by rw[BN (nD c _ q)];exact q) λc xs q=>by rw[BN (nD c _ q)];exact q
theorem XO(S:BScope X scope tgs ix)(I:Inv X w6 O H s)(hf:∀b∈fp,Ha X w6 H b)(hfo:∀b∈fp,b<s.heap.objs.size)(hC:s.heap.objs.size<=C):
  (cxB X scope tgs fp C s H).Ok:=by
 have sub:∀x c,(G9 X.env scope.names []).lookup x=some c->X.env.cells.lookup x=some c:=G8 scope.names [] (λ_ _ z=>by simp at z);refine⟨I.ok.mod,S.kind,I.ok.glob,I.ok.blt,hC,λx y c h1 h2=>I.ok.inj x y c (sub x c h1) (sub y c h2),λx hx=>?_,λx c h=>absurd h (by simp[cxB]),I.ok.hd,I.ok.frames,.inl rfl,λb hb=>⟨?_,λx c e=>?_⟩,λb o e=>I.bs b o e,
  AAq I.ok.bsz I.sz,λb o e hb=>?_,λb hb hz=>?_,I.stack,I.stkFree⟩
 ·have hx':(relabel scope X.env).names.lookup x=some .cell∨(relabel scope X.env).names.lookup x=some .free:=hx;have hm:(x,NameKind.free)∈scope.names:=by
   rcases hx' with h|h
   ·rcases Ez h with q|q
    ·exact absurd rfl (S.nocell _ (PySem.mem_of_lookup q))
    ·exact PySem.mem_of_lookup q.1
   ·rcases Ez h with q|q
    ·exact PySem.mem_of_lookup q
    ·exact absurd q.2 (by decide)
  obtain⟨c,hc⟩:=S.cells I.ok _ hm rfl;exact⟨c,NF hm hc⟩
 ·exact λz=>absurd (hfo b hb) (by rw[z];exact Nat.not_lt.mpr hC)
 ·exact(hf b hb).2.2.2.2.1 x c (sub x c e)
 ·obtain⟨f0,f1,f2,f3,f4,f5⟩:=hf b hb;rcases f3 with z|z
  ·exact I.ok.noex b o e z
  ·exact absurd (Heap.lt_size (I.ok.bs b o e).1) (Nat.not_lt.mpr z)
 ·obtain⟨f0,f1,f2,f3,f4,f5⟩:=hf b hb;rcases AAI.mp (I.stkSub b hz) with z|z
  ·exact f1 z
  ·exact f2 z
end
section
variable{X:Cx}{scope:Scope}{tgs:List Str}{ix:List Nat}
noncomputable abbrev Dz(tgs:List Str)(ix:List Nat)(O:St):St:=List.replicate tgs.length none++Mf ix O
theorem Ky(h:(Dz tgs ix O)[k]?=some (some v)):tgs.length<=k/\∃j,ix[k-tgs.length]?=some j/\O[j]?=some (some v):=by
 have hk:tgs.length<=k:=by
  rcases Nat.lt_or_ge k tgs.length with z|z
  ·rw[AAS (by simpa using z),List.getElem?_replicate,if_pos z] at h;cases h
  ·exact z
 refine⟨hk,?_⟩;rw[AAR (by simpa using hk),AAl] at h;unfold Mf at h;rw[AAV] at h;cases e:ix[k-tgs.length]? with
 |none=>rw[e] at h;cases h
 |some j=>
  rw[e] at h;refine⟨j,rfl,?_⟩;have h':(O[j]?).getD none=some v:=Option.some.inj h;cases q:O[j]? with
  |none=>rw[q] at h';cases h'
  |some o=>
   rw[q] at h';have h'':o=some v:=h';rw[h'']
theorem Qw(S:BScope X scope tgs ix)(I:Inv X w6 O H s)(hf:∀b∈fp,Ha X w6 H b)(hfo:∀b∈fp,b<s.heap.objs.size)
  (hC:s.heap.objs.size<=C) (hD:s.heap.objs.size<=D) (hDC:D≠C) {m:Str->Option Value} (hn:s4.heap.Ns C m) (hk:∀b u,s.heap.get? b=some u->s4.heap.get? b=some u) (hos:s4.os=s.os) (hg:s4.gens=s.gens)
  (hDo:s4.heap.get? D=some o) (hcell:∀v,o.data≠.cell v):Inv (cxB X scope tgs fp C s H) [(D,o)] (Dz tgs ix O) H s4:=by
 have ok:=XO (tgs:=tgs) (ix:=ix) (C:=C) S I hf hfo hC;have sub:∀x c,(G9 X.env scope.names []).lookup x=some c->X.env.cells.lookup x=some c:=G8 scope.names [] (λ_ _ z=>by simp at z);refine⟨ok,hos,by rw[hg];exact I.bare,Un.kept hk,⟨m,hn,λk x v h1 h2 h3=>?_⟩,λx c e=>?_,I.hok.fresh hC,λx c e=>I.freeC x c (sub x c e),λp hp=>?_,I.hok.kept hk,?_⟩
 ·obtain⟨hkl,j,hj,hσ⟩:=Ky h2;have h1':(DO scope.names)[k-tgs.length]?=some x:=by
   have:(tgs++DO scope.names)[k]?=some x:=h1
   rwa [AAR hkl] at this
  have hx:x∈DO scope.names:=AAU h1';have hXN:X.N[j]?=some x:=by
   have e:=congrArg (λl=>l[k-tgs.length]?) S.ixs;simp only[AAV,h1',hj,Option.map_some] at e;exact(Option.some.inj e).symm
  have kx:=L1 S.fre x hx;obtain⟨m0,hn0,hl⟩:=I.loc;obtain⟨u,r,l⟩:=hl j x v hXN hσ (by rcases kx with z|z;exact .inr (.inl z);exact .inr (.inr z));refine⟨u,r,?_⟩;rcases l with ⟨z,_⟩|⟨_,c,hc,q⟩
  ·rcases kx with y|y<;>rw[z] at y<;>cases y
  ·refine .inr ⟨?_,c,NF (IE hx) hc,?_⟩
   ·have h3':(relabel scope X.env).names.lookup x=some .local∨(relabel scope X.env).names.lookup x=some .cell∨(relabel scope X.env).names.lookup x=some .free:=h3;rcases h3' with z|z|z
    ·exfalso;rcases Ez z with w|w
     ·have lk:scope.names.lookup x=some .local:=w;have:=S.ndl x hx;rw[lk] at this;cases this
     ·exact absurd w.2 (by decide)
    ·exact .inl z
    ·exact .inr z
   ·obtain⟨oc,hoc,hd⟩:=q;exact⟨oc,hk c oc hoc,hd⟩
 ·obtain⟨v,oc,hoc,hd⟩:=I.cell x c (sub x c e);exact⟨v,oc,hk c oc hoc,hd⟩
 ·have e:p=(D,o):=by simpa[cxB] using hp
  subst e;refine⟨hDo,I.hok.fresh hD,hDC,λhz=>?_,hcell⟩;have hz':D∈frs X.stack:=hz;rcases AAI.mp (I.stkSub D hz') with z|z
  ·exact absurd I.lt (by rw[←z];exact Nat.not_lt.mpr hD)
  ·exact I.nofs hD z
 ·show (List.replicate tgs.length none++Mf ix O).length=(tgs++DO scope.names).length;have e:=congrArg List.length S.ixs;simp only[AAF] at e;rw[AAG,AAG,AAl,e];unfold Mf;rw[AAF]
def GK(n:Nat)(g:TG):Prop:=∀x O H Q,g x O H Q->g x O H λj3 H2=>Q j3 H2/\j3.length=O.length/\j3.drop n=O.drop n
theorem ZQ(h:i<n):GK n (Jy i):=λx O H Q q=>⟨q,by simp,by rw[List.drop_set_of_lt h]⟩
def gR(tgs:List Str)(ix:List Nat)(g:TG)(tc:TT)(te:TE)(O:St)(Q:VK)(J:It)(H1:Hp):Prop:=∃W:Nat->Nat->List V->Hp->Prop,(∃m,W 0 m [] H1)/\∀i m ys H,W i m ys H->
 (J.stop i H/\ys.length<=sizeLine/\∀p,H p=none->Q (.ref p) (upd H p (.lst ys))) ∨
 (J.go i H/\ys.length<sizeLine/\∃N:List V->Hp->Prop,(∀ys' H',N ys' H'->∃m',m'<m/\W (i+1) m' ys' H')/\∀x H',J.yld i H x H'->g x (Dz tgs ix O) H' λj3 H2=>tc j3 H2 λb H3=>
  if b=true then te j3 H3 λv H4=>N (ys++[v]) H4 else N ys H3)
noncomputable def VU(tgs:List Str)(ix:List Nat)(wi:TI)(g:TG)(tc:TT)(te:TE):TE:=λO H Q=>wi O H λJ H1=>gR tgs ix g tc te O Q J H1
theorem Q5(h:wpAny M A t Q (λ_ _=>False) s)(hQ:∀a s,Q a s->Q' a s):wpAny M A t Q' E s:=AAh h hQ λ_ _ x=>x.elim
end
section
variable{X:Cx}{scope:Scope}{tgs:List Str}{ix:List Nat}
noncomputable abbrev N6(its:List Value)(k:Nat):Obj:={ cls:=.type "list",data:=.seq its.toArray k }
theorem Zw(I:Inv (cxB X scope tgs fp C s0 H0) w6 j9 H s)(l6:j9.length=(Dz tgs ix O).length)
  (d6:j9.drop tgs.length=(Dz tgs ix O).drop tgs.length):Inv (cxB X scope tgs fp C s0 H0) w6 (Dz tgs ix O) H s:=by
 refine I.weak l6.symm λk v e=>?_;obtain⟨hk,_⟩:=Ky e;have e1:j9[k]?=(j9.drop tgs.length)[k-tgs.length]?:=by rw[List.getElem?_drop];congr 1;omega
 have e2:(Dz tgs ix O)[k]?=((Dz tgs ix O).drop tgs.length)[k-tgs.length]?:=by rw[List.getElem?_drop];congr 1;omega
 rw[e1,d6,←e2];exact e
end
section
variable{X:Cx}
theorem Pv:CS X (.builtin "isinstance") (λxs H Q=>∃x T t b,xs=[x,.ty T]/\JE X.K H x t/\PySem.W.kitOne X.K t (.type T)=some b/\Q (.bl b) H):=by
 intro w6 s O H xs us Q I r h;obtain⟨x,T,t,b,rfl,ty,e,q⟩:=h;obtain⟨u,w',rfl,rx,ry⟩:=On r;cases ry;exact UB I rx ty e λtk=>⟨.bl b,H,I.tok tk,rfl,q⟩
noncomputable def gX(K:PySem.W.Frag)(te ts:TE):TE:=λO H Q=>te O H λx H1=>ts O H1 λy H2=>y=.int (-1)/\∃a xs,x=.ref a/\SqL K H2 a xs/\∀p,H2 p=none->Q (.ref p) (upd H2 p (.lst xs.reverse))
theorem bd{e st:Expr}(he:PE X e te)(hst:PE X st ts):PE X (.Subscript e (.Slice none none (some st) p2) pos) (gX X.K te ts):=by
 intro w6 s O H Q I h;refine Subscript_ (thn (he w6 s O H _ I h) λv s1 ⟨x,H1,I1,r1,q1⟩=>?_);refine wpAny_Slice ?_;rw[evalPart_none,evalPart_some];refine AAB (AAB (thn (hst w6 s1 O H1 _ I1 q1) λvk s3 ⟨y,H3,I3,pk,ey,a,xs,ex,hq,q⟩=>?_));subst ey ex;obtain⟨t,rfl⟩:=pk;cases r1;have I4:Inv X w6 O H3 { s3 with heap:=s3.heap.push { cls:=.type "slice",data:=.fields #[.none,.none,.int (-1) t] } }:=I3.kept (t':=s3.toks) λb ob q=>AAC _ q;obtain⟨its,r,ht,hz⟩:=I4.list hq;have hlen:=r.length;show wpAny (model X.prog X.w) X.A (subscriptTail e (.Slice none none (some st) p2) (.ref a) (.ref s3.heap.objs.size)) (EP X w6 O Q) X.xe { s3 with heap:=s3.heap.push { cls:=.type "slice",data:=.fields #[.none,.none,.int (-1) t] } };refine tail_any (ops:=[.ref a,.ref s3.heap.objs.size]) ht.isList.typeIs slot_list_getitem.lookup ?_ (by with_unfolding_all rfl);refine wpAny_getItem_list_slice ht.isList (Heap.IsSliceOf.new ..) .none .none (.int (-1) t) (by decide) ?_ (by rw[List.size_toArray]<;>omega);rw[PySem.W.krv_pick];refine⟨.ref _,_,I4.laid (t':=s3.toks) (o:=.lst xs.reverse) (λb ob q=>AAC _ q) (AAE _) ?_,rfl,q _ (I4.hok.fresh (AAE _))⟩;exact⟨by rw[List.length_reverse];exact hz,its.reverse,0,r.reverse,by
  have e:its.toArray.toList.reverse.toArray=its.reverse.toArray:=by simp
  rw[e];exact AAD _ rfl⟩
end
section
variable{prog:Program}{w:World}{A:Around}{E:Value->Shared->Prop}{s:Shared}
theorem T7:typeLookup (.type "list") "keys" = pure none:=by rw[typeLookup_type,builtinLookup_eq_fast];kernel_rfl
theorem Qt(there:s.heap.get? a=some { cls:=.type "list",dict:=none,data:=.seq xs k,slots:=sl })(calm:A.handled=none)
  (q:∀h' n e,Heap.NewAttrErr s.heap h' e (.ref a) "keys" -> E (.ref e) { s with heap:=h',toks:=n }):wpAny (model prog w) A (boundAndCalled (.builtin "list.__getattribute__") (.ref a) (.str "keys" u)) Q E s:=by
 unfold boundAndCalled;refine AAA (AAs (F.slot_list_getattribute.bind (.ref a)) ?_);exact call_meets F.slot_list_getattribute ⟨_,there,rfl⟩ am_entry_list_getattribute (F.args_list_getattribute_2 _ _) (meets_getattribute_miss_list a xs k sl "keys" u T7 (by decide +kernel) (by decide)) ⟨there,calm,q⟩
theorem T6
  (there:s.heap.get? a=some { cls:=.type "list",dict:=none,data:=.seq xs k,slots:=sl }) (calm:A.handled=none)
  (q:∀h' n,(∀b o,s.heap.get? b=some o->h'.get? b=some o)->Q none { s with heap:=h',toks:=n }):wpAny (model prog w) A (getAttr? (.ref a) "keys") Q E s:=by
 unfold getAttr? getAttrBy?;refine AAA (wpAny_mkText (AAA (wpAny_attempt ?_)));unfold getAttrBy;refine AAn (AAA (wpAny_typeOf (T := "list") ⟨_,there,rfl⟩ ?_));refine AAA (AAs F.slot_list_getattribute.lookup ?_);show wpAny _ _ (getAttrByItsOwn _ _ (.type "list") _ false false) _ _ _;unfold getAttrByItsOwn;refine AAA (m:=hookBefore (.type "list")) (AAB (AAA (wpAny_attempt (AAn ?_))));show wpAny _ _ (boundAndCalled _ _ _) _ _ _;refine Qt there calm λh' n e new=>?_;obtain⟨_,_,oe⟩:=new.there;unfold getattributeRaised;refine AAA (wpAny_isInstance (T := "AttributeError") (b:=true) ⟨_,oe,rfl⟩ sub_AttributeError ?_);refine AAA (m:=hookBehind (.type "list") none) (AAs am_list_getattr_none (wpAny_throw ?_));exact AAA (wpAny_isInstance (T := "AttributeError") (b:=true) ⟨_,oe,rfl⟩ sub_AttributeError (AAB (q h' n new.of.keeps)))
end
theorem GQ:entryFor table "dict.update.loop" = some Builtin.«dict.update.loop»:=entryFor_of_fast (by kernel_rfl)
theorem GM(args:Args):(Code.builtin "dict.update.loop" args).quiet=true:=Code.quiet_builtin args (by decide +kernel)
section
variable{prog:Program}{w:World}{A:Around}{R:Result->Shared->Prop}
theorem ND(hA:A.handled=none){d it l:Addr}{its:List Value}(hdi:d≠it)(hld:l≠d)(hli:l≠it):
  ∀(more:List (Key×Value)) (i:Nat) (j:Int) (s:Shared) (kvs:List (Key×Value)),i+more.length=its.length->kvs.length+more.length<=sizeLine->s.heap.IsListIter it l i->s.heap.IsList l its.toArray->s.heap.DictOf (BK prog w) d kvs->
   (∀(k:Nat) (key:Key) (v:Value),more[k]?=some (key,v)->∃t kv,its[i+k]?=some (.ref t)/\IsTup s.heap t #[kv,v]/\(BK prog w).is key kv=true/\t≠d/\t≠it)->
   (∀s',s'.heap.DictOf (BK prog w) d (merged kvs more)->(∀b o,b≠d->b≠it->s.heap.get? b=some o->s'.heap.get? b=some o)->s'.gens=s.gens->s'.drawn=s.drawn->s'.os=s.os->R (.ok (.ret .none)) s')->
   codeAny (model prog w) A (.builtin "dict.update.loop" ⟨[.ref d,.ref it,rawInt j,.none],[]⟩) R s
 |[],i,j,s,kvs,hn,hz,hit,hl,hd,hp,fin=>by
  refine codeAny_builtin GQ ?_;unfold Builtin.«dict.update.loop»;show wpAny _ _ (pyNext (.ref it) >>= _) _ _ s;refine AAA (wpAny_pyNext_list_end (show A.handled=none from hA) hit hl (by simp;simpa using Nat.le_of_eq hn.symm) λh' eb=>?_);dsimp only;refine AAA (AAs (show Builtin.Dict.addKeywords d []=pure () from rfl) ?_);refine AAB (fin _ ?_ (λb o _ hb e=>eb b o hb e) rfl rfl rfl);exact hd.at λo e=>eb d o hdi e
 |(key,v)::more,i,j,s,kvs,hn,hz,hit,hl,hd,hp,fin=>by
  refine codeAny_builtin GQ ?_;unfold Builtin.«dict.update.loop»;show wpAny _ _ (pyNext (.ref it) >>= _) _ _ s;obtain⟨t,kv,hi,ht,hk,htd,hti⟩:=hp 0 key v rfl;refine AAA (wpAny_pyNext_list_item hit hl (x:=.ref t) (by simpa using hi) λh' st' sb=>?_);dsimp only;have ht':IsTup h' t #[kv,v]:=by
   obtain⟨o,ho,hr⟩:=ht;exact⟨o,(sb.2 t hti).trans ho,hr⟩
  have hd':h'.DictOf (BK prog w) d kvs:=hd.at λo e=>(sb.2 d hdi).trans e;refine AAA (AAn (AAA (wpAny_tryCatch ?_)));unfold Builtin.Dict.pairItems;refine AAA (wpAny_typeOf (IsTup.typeIs (s:={ heap:=h',gens:=s.gens,drawn:=s.drawn,toks:=s.toks,os:=s.os }) ht') ?_);rw[if_pos (by decide)];refine AAA ?_;unfold seqItems?;obtain⟨o,ho,hc,n,hdat⟩:=ht';refine AAA (wpAny_load ho ?_);rw[hdat];refine AAB (AAB ?_);show wpAny _ _ (holding [kv,v] (dictSet d kv v)) _ _ _;have hz':kvs.length+(more.length+1)<=sizeLine:=hz;refine AAn (wpAny_dictSet_pairs hk hd' (λh2 hd2 sb2=>?_) (by omega));refine AAB ⟨GM _,?_⟩;have keep:∀b o,b≠d->b≠it->s.heap.get? b=some o->h2.get? b=some o:=λb o h1 h2' e=>(sb2.2 b h1).trans ((sb.2 b h2').trans e);have hn':i+(more.length+1)=its.length:=hn;refine ND (its:=its) (l:=l) hA hdi hld hli more (i+1) (j+1) _ (stored kvs key v) (by omega) ?_ ?_ ?_ hd2 ?_ ?_
  ·have:=stored_length_le kvs key v;omega
  ·obtain⟨o',e',r'⟩:=st';exact⟨o',(sb2.2 it (Ne.symm hdi)).trans e',r'⟩
  ·obtain⟨o',e',r'⟩:=hl;exact⟨o',keep l o' hld hli e',r'⟩
  ·intro k key' v' e;obtain⟨t',kv',h1,h2',h3,h4,h5⟩:=hp (k+1) key' v' (by simpa using e);obtain⟨o',e',r'⟩:=h2';have e2:i+1+k=i+(k+1):=by omega
   exact⟨t',kv',by rw[e2];exact h1,⟨o',keep t' o' h4 h5 e',r'⟩,h3,h4,h5⟩
  ·intro s' g1 g2 g3 g4 g5;exact fin s' g1 (λb o h1 h2' e=>g2 b o h1 h2' (keep b o h1 h2' e)) g3 g4 g5
end
section
variable{X:Cx}
noncomputable def Yb(K:PySem.W.Frag):List V->Hp->VK->Prop:=λxs H Q=>∃(a:Addr) (ts:List Addr) (kvs:List (Key×V)),xs=[.ref a]/\H a=some (.lst (ts.map V.ref))/\ts.length=kvs.length/\kvs.length<=1000 /\
 (∀(i:Nat) (t:Addr) (kv:Key×V),ts[i]?=some t->kvs[i]?=some kv->SqT K H t [kV kv.1,kv.2])/\∀p,H p=none->Q (.ref p) (upd H p (.dK (Ea [] kvs)))
theorem Ml(I:Inv X w6 O H s):∀(ts:List Addr) (kvs:List (Key×V)),ts.length=kvs.length->(∀(i:Nat) (t:Addr) (kv:Key×V),ts[i]?=some t->kvs[i]?=some kv->SqT X.K H t [kV kv.1,kv.2])->
  ∃vs:List (Key×Value),KV kvs vs/\∀(i:Nat) (k:Key) (v:Value),vs[i]?=some (k,v)->∃t kv,ts[i]?=some t/\IsTup s.heap t #[kv,v]/\(BK X.prog X.w).is k kv=true
 |[],[],_,_=>⟨[],.nil,λi k v e=>by simp at e⟩
 |t::ts,(k,x)::kvs,hl,hp=>by
  obtain⟨vs,r,q⟩:=Ml I ts kvs (by simpa using hl) λi t kv e1 e2=>hp (i+1) t kv (by simpa using e1) (by simpa using e2);obtain⟨its,rv,tp,_⟩:=I.tuple (hp 0 t (k,x) rfl rfl);obtain⟨u1,u2,rfl,r1,r2⟩:=On rv;refine⟨(k,u2)::vs,.cons ⟨rfl,r2⟩ r,λi k' v' e=>?_⟩;cases i with
  |zero=>
   have e':(k,u2)=(k',v'):=by simpa using e
   obtain⟨rfl,rfl⟩:=Prod.mk.inj e';exact⟨t,u1,rfl,tp,Jv r1⟩
  |succ i=>
   obtain⟨t',kv,h1,h2,h3⟩:=q i k' v' (by simpa using e);exact⟨t',kv,by simpa using h1,h2,h3⟩
theorem Q6(hc:X.calm=true):CS X (.type "dict") (Yb X.K):=by
 intro w6 s O H xs us Q I r h;obtain⟨a,ts,kvs,rfl,ha,hl,hz,hp,q⟩:=h;obtain⟨u,rfl,ru⟩:=DX r;cases ru;obtain⟨z,its,n,rv,ea⟩:=(show ObjOk X.prog X.w H s.heap a (.lst (ts.map V.ref)) from I.hok a _ ha);refine callType_codes (Q₁:=λobj s₁=>obj=.ref s.heap.objs.size/\s₁={ s with heap:=s.heap.push { cls:=.type "dict",data:=.dict #[] } }) PySem.F.kt_called_dict (PySem.F.kt_typeCall_dict_1 _) PySem.F.entry_dict_init (PySem.kt_code_dict_new _ ⟨rfl,rfl⟩) ?_;rintro obj s₁ ⟨rfl,rfl⟩;have hnew:(s.heap.push { cls:=.type "dict",data:=.dict #[] }).DictOf (BK X.prog X.w) s.heap.objs.size []:=Heap.DictOf.new s.heap;refine⟨hnew.typeIs,PySem.F.args_dict_init_2 _ _,?_⟩;unfold Builtin.«dict.__init__»;refine AAA ?_;unfold Builtin.Dict.selfAndRest;refine AAA (wpAny_notOrdered_dict hnew.typeIs ?_);show wpAny _ _ (pure (s.heap.objs.size,[Value.ref a])) _ _ _;refine AAB ?_;show wpAny _ _ (Builtin.Dict.updateFrom "dict.__init__" s.heap.objs.size (.ref a) [] .none) _ _ _;unfold Builtin.Dict.updateFrom;have ea':(s.heap.push { cls:=.type "dict",data:=.dict #[] }).get? a=some { cls:=.type "list",data:=.seq its.toArray n }:=AAC _ ea;have hli:(s.heap.push { cls:=.type "dict",data:=.dict #[] }).IsList a its.toArray:=⟨_,ea',rfl,n,rfl⟩;refine AAA (wpAny_typeOf (Heap.IsList.typeIs (s:={ s with heap:=s.heap.push { cls:=.type "dict",data:=.dict #[] } }) hli) ?_);dsimp only;rw[if_pos (by decide)];refine AAA (T6 ea' (show X.A.handled=none from I.ok.hd hc) λh' tk kk=>?_);rw[if_pos (show (none:Option Value).isNone=true from rfl)];have kk':∀b o,s.heap.get? b=some o->h'.get? b=some o:=λb o e=>kk b o (AAC _ e);have hli':h'.IsList a its.toArray:=⟨_,kk' a _ ea,rfl,n,rfl⟩;have hd':h'.DictOf (BK X.prog X.w) s.heap.objs.size []:=hnew.at λo e=>kk _ o e;have hlt:s.heap.objs.size<h'.objs.size:=by
  obtain⟨o,_,_,e,_⟩:=hd';exact Heap.lt_size e
 refine AAA (wpAny_rule (AAA (wpAny_pyIter_list (s:={ heap:=h',gens:=s.gens,drawn:=s.drawn,toks:=tk,os:=s.os }) hli' ?_)));refine AAB ⟨GM _,?_⟩;have hal:a<s.heap.objs.size:=Heap.lt_size ea;obtain⟨vs,rvs,hps⟩:=Ml I ts kvs hl hp;have hlv:kvs.length=vs.length:=rvs.length;have hlt':its.length=ts.length:=by have:=rv.length;rw[AAF] at this;exact this.symm
 refine ND (prog:=X.prog) (w:=X.w) (A:=X.A.in1) (its:=its) (l:=a) (show X.A.handled=none from I.ok.hd hc) (AAc hlt) (AAc hal) (AAc (Nat.lt_trans hal hlt)) vs 0 0 _ [] ?_ ?_ ?_ ?_ ?_ ?_ ?_
 rotate_left
 rotate_left
 ·exact⟨_,AAD _ rfl,rfl,rfl⟩
 ·exact hli'.push _
 ·exact hd'.push _
 rotate_left
 rotate_left
 ·omega
 ·have:=JL (n:=vs.length) (by omega);simp only[List.length_nil,Nat.zero_add];omega
 ·intro k key v e;obtain⟨t,kv,h1,⟨o,h2,h2'⟩,h3⟩:=hps k key v e;have hts:(ts.map V.ref)[k]?=some (V.ref t):=by rw[AAV,h1]<;>rfl
  obtain⟨u,hu,ru⟩:=rv.get hts;cases ru;have htl:t<s.heap.objs.size:=Heap.lt_size h2;exact⟨t,kv,by simpa using hu,⟨o,AAC _ (kk' t o h2),h2'⟩,h3,AAc htl,AAc (Nat.lt_trans htl hlt)⟩
 ·intro s' g1 g2 g3 g4 g5;obtain⟨hh,g,dr,tk',os⟩:=s';cases g3;cases g4;cases g5;refine⟨rfl,.ref s.heap.objs.size,_,I.laid (t':=tk') (λb o e=>g2 b o (AAc (Heap.lt_size e)) (AAc (Nat.lt_trans (Heap.lt_size e) hlt)) (AAC _ (kk' b o e))) (AAE _) ?_,rfl,q _ I.fresh⟩;have hb:(s.heap.objs.size==sysModules)=false:=AAd.mpr (Nat.ne_of_gt I.big);refine Lp ?_ hb (KV.merge rvs .nil) g1;have h1:=ED kvs [];have h2:=JL hz;simp only[List.length_nil,Nat.zero_add] at h1;omega
end
noncomputable def Its(x:Str):It:=⟨λi _=>i<x.cps.size,λi H v H'=>H'=H/\∃c,x.cps[i]?=some c/\v=.str ⟨#[c]⟩,λi _=>i=x.cps.size⟩
theorem fF:letOwnedTupleGo tg (.ref it) (.str x u)=pure ():=by
 unfold letOwnedTupleGo;cases tg<;>rfl
theorem Oq{P:Program}{w:World}{K:PySem.W.Frag}{tg:Expr}(it:Addr)(ty:String)(x:Str)(t:Tok)
  (W:∀A:Around,A.handled=none->Walks P w A it [it] [it] x.cps.size (SignAt x) (λi h=>h.IsStrIter it ty x t i)) (sf:∀(A:Around) (i:Nat) (s:Shared) (Q:Value->Shared->Prop) (E:Value->Shared->Prop),s.heap.IsStrIter it ty x t i->Q (.ref it) s->wpAny (model P w) A (pyIter (.ref it)) Q E s) :
  L4 P w K tg (Its x) [it] it (λi h=>h.IsStrIter it ty x t i) where
 mem:=by simp
 obj:=λi h st b hb=>by
  have e:b=it:=by simpa using hb
  subst e;obtain⟨o,e,c,d⟩:=st;exact⟨o,e,λv z=>by rw[d] at z;cases z⟩
 keep:=λi h h' st k=>by
  obtain⟨o,e,r⟩:=st;exact⟨o,k it (by simp) o e,r⟩
 item:=by
  intro X hP hw hK hc i w6 s O H E I hf st hg;subst hP hw hK;obtain⟨f0,f1,f2,f3,f4,f5⟩:=hf it (by simp);refine(W X.A (I.ok.hd hc)).item i s _ _ hg st λv h' tk hv st' kk=>?_;obtain⟨c,u,hcu,rfl⟩:=hv;have I1:Inv X w6 O H { s with heap:=h',toks:=tk }:=I.turned (λb o hb e=>kk b o (by simpa using hb) e) f0 f1 f3 f4 f5;exact⟨_,rfl,AAs fF ⟨.str ⟨#[c]⟩,H,I1,⟨u,rfl⟩,⟨rfl,c,hcu,rfl⟩,st',λb hb=>(hf b hb).1⟩⟩
 done:=by
  intro X hP hw hK hc i w6 s O H E I hf st hg;subst hP hw hK;obtain⟨f0,f1,f2,f3,f4,f5⟩:=hf it (by simp);have hi:i=x.cps.size:=hg;subst hi;exact(W X.A (I.ok.hd hc)).done s _ _ st λh' tk kk=>⟨rfl,I.turned (λb o hb e=>kk b o (by simpa using hb) e) f0 f1 f3 f4 f5⟩
 self:=λA i s Q E st h=>sf A i s Q E st h
noncomputable def hR(tl:TE):TI:=λO H R=>tl O H λv H1=>∃x,v=.str x/\R (Its x) H1
theorem bZ{X:Cx}{tg l:Expr}{tl:TE}(hl:PE X l tl):PI X tg l (hR tl):=by
 intro w6 s O H R I h;refine thn (hl w6 s O H _ I h) λv s1 ⟨y,H1,I1,r1,q1⟩=>?_;obtain⟨x,e,q⟩:=q1;subst e;obtain⟨t,rfl⟩:=r1;have fp:∀b∈[s1.heap.objs.size],Ha X w6 H1 b:=λb hb=>by
  have e:b=s1.heap.objs.size:=by simpa using hb
  subst e;exact I1.fpOk (AAE _) (I1.hok.fresh (AAE _))
 cases ha:x.cps.all (·<128) with
 |false=>
  refine wpAny_pyIter_wide ha ?_;exact⟨s1.heap.objs.size,[s1.heap.objs.size],_,Its x,H1,rfl,I1.kept (t':=s1.toks) λb o e=>AAC _ e,Oq _ "str_iterator" x t (λA hA=>Walks.strWide hA _ x t) (λ_ _ _ _ _ st h=>wpAny_pyIter_striter_wide st h),⟨_,AAD _ rfl,rfl,rfl⟩,fp,q⟩
 |true=>
  refine wpAny_pyIter_ascii ha ?_;exact⟨s1.heap.objs.size,[s1.heap.objs.size],_,Its x,H1,rfl,I1.kept (t':=s1.toks) λb o e=>AAC _ e,Oq _ "str_ascii_iterator" x t (λA hA=>Walks.strAscii hA _ x t) (λ_ _ _ _ _ st h=>wpAny_pyIter_striter_ascii st h),⟨_,AAD _ rfl,rfl,rfl⟩,fp,q⟩
theorem LI(d:α)(bs:List α):(List.range bs.length).map (λi=>bs.getD i d)=bs:=by
 apply List.ext_getElem
 ·simp
 ·intro i h1 h2;simp[List.getD,h2]
theorem Tl(bs:List Bool):((List.range bs.length).all λi=>bs.getD i true)=bs.all id:=by
 conv=>rhs;rw[←LI true bs]
 rw[List.all_map];rfl
theorem Tk(bs:List Bool):((List.range bs.length).any λi=>bs.getD i true)=bs.any id:=by
 conv=>rhs;rw[←LI true bs]
 rw[List.any_map];rfl
section
variable{X:Cx}
theorem Ou{P:Program}{w:World}{bs:List Bool}{its:List Value}(r:Vals (bs.map V.bl) its):TruthOf P w A (λi v=>its.toArray[i]?=some v) (λi=>bs.getD i true):=by
 intro i v s Q E hP hQ;have hi:its[i]?=some v:=by simpa using hP
 have hlt:i<its.length:=(AAT.mp hi).1;have hl:=r.length;rw[AAF] at hl;have hb:(bs.map V.bl)[i]?=some (V.bl (bs.getD i true)):=by
  rw[AAV,AAr (show i<bs.length by omega)];simp[List.getD,show i<bs.length by omega]
 obtain⟨u,hu,ru⟩:=r.get hb;rw[hi] at hu;cases hu;cases ru;exact wpAny_truthy_bool hQ
theorem Ly(hc:X.calm=true){w6:List (Addr×Obj)}{s:Shared}{O:St}{H:Hp}{a:Addr}{bs:List Bool}{Q:VK}{c:Bool}{f:(Nat->Bool)->List Nat->Bool}(I:Inv X w6 O H s)(ha:SqL X.K H a (bs.map V.bl))(hf:f (λi=>bs.getD i true) (List.range bs.length)=c)(q:Q (.bl c) H):
  wpAny (model X.prog X.w) X.A.in1 (pyIter (.ref a)) (λit s₂=>∃I fp wr n P St tr,it=.ref I/\Walks X.prog X.w X.A.in1 I fp wr n P St/\St 0 s₂.heap/\TruthOf X.prog X.w X.A.in1 P tr /\
   ∀h' tk,(∀b o,b∉wr->s₂.heap.get? b=some o->h'.get? b=some o)->EP X w6 O Q (.bool (f tr (List.range n))) { s₂ with heap:=h',toks:=tk }) X.xe s:=by
 obtain⟨its,r,p,hz⟩:=I.list ha;refine wpAny_pyIter_list p.isList ?_;have hlt:a<s.heap.objs.size:=by
  obtain⟨o,n,e,_⟩:=p;exact Heap.lt_size e
 have I1:Inv X w6 O H { s with heap:=s.heap.push { cls:=.type "list_iterator",data:=.fields #[.ref a,.int 0 0] } }:=I.kept (t':=s.toks) λb o e=>AAC _ e;obtain⟨f0,f1,f2,f3,f4,f5⟩:=I.fpOk (H':=H) (AAE _) (I.hok.fresh (AAE _));refine⟨s.heap.objs.size,_,_,_,_,_,_,rfl,Walks.list (prog:=X.prog) (w:=X.w) (A:=X.A.in1) (show X.A.handled=none from I.ok.hd hc) s.heap.objs.size a (AAc hlt) its.toArray,⟨⟨_,AAD _ rfl,rfl,rfl⟩,p.isList.push _⟩,Ou r,λh' tk kk=>?_⟩;have hl:=r.length;rw[AAF] at hl;rw[List.size_toArray,←hl,hf];exact⟨.bl c,H,I1.turned (t':=tk) (λb o hb e=>kk b o (by simpa using hb) e) f0 f1 f3 f4 f5,rfl,q⟩
theorem UX(hc:X.calm=true):CS X (.builtin "all") (λxs H Q=>∃(a:Addr) (bs:List Bool),xs=[.ref a]/\SqL X.K H a (bs.map V.bl)/\Q (.bl (bs.all id)) H):=by
 intro w6 s O H xs us Q I r h;obtain⟨a,bs,rfl,ha,q⟩:=h;obtain⟨u,rfl,ru⟩:=DX r;cases ru;exact call_all_walk (Ly (f:=λtr l=>l.all tr) hc I ha (Tl bs) q)
theorem UW(hc:X.calm=true):CS X (.builtin "any") (λxs H Q=>∃(a:Addr) (bs:List Bool),xs=[.ref a]/\SqL X.K H a (bs.map V.bl)/\Q (.bl (bs.any id)) H):=by
 intro w6 s O H xs us Q I r h;obtain⟨a,bs,rfl,ha,q⟩:=h;obtain⟨u,rfl,ru⟩:=DX r;cases ru;exact call_any_walk (Ly (f:=λtr l=>l.any tr) hc I ha (Tk bs) q)
end
mutual
inductive DatV (K:PySem.W.Frag) (H:Hp):V->PyData->Prop
 |non:DatV K H .non .none
 |bl (b:Bool):DatV K H (.bl b) (.bool b)
 |int (i:Int):DatV K H (.int i) (.int i)
 |str (x:Str):DatV K H (.str x) (.str x)
 |tup {a:Addr} {xs:List V} {ds:List PyData}:SqT K H a xs->DatVs K H xs ds->DatV K H (.ref a) (.tuple ds)
 |lst {a:Addr} {xs:List V} {ds:List PyData}:SqL K H a xs->DatVs K H xs ds->DatV K H (.ref a) (.list ds)
inductive DatVs (K:PySem.W.Frag) (H:Hp):List V->List PyData->Prop
 |nil:DatVs K H [] []
 |cons {v:V} {d:PyData} {vs:List V} {ds:List PyData}:DatV K H v d->DatVs K H vs ds->DatVs K H (v::vs) (d::ds)
end
section
variable{X:Cx}{w6:List (Addr×Obj)}{O:St}{H:Hp}{s:Shared}
mutual
theorem DatV.reads(I:Inv X w6 O H s):∀{v:V} {d:PyData},DatV X.K H v d->∀{u:Value},RelV v u->∃as,Reads s.heap u d as
 |_,_,.non,_,r=>by cases r;exact⟨[],.none⟩
 |_,_,.bl b,_,r=>by cases r;exact⟨[],.bool b⟩
 |_,_,.int i,_,r=>by obtain⟨t,rfl⟩:=r;exact⟨[],.int i t⟩
 |_,_,.str x,_,r=>by obtain⟨t,rfl⟩:=r;exact⟨[],.str x t⟩
 |_,_,.tup hq hs,_,r=>by
  cases r;obtain⟨its,rv,⟨o,e,c,n,d⟩,_⟩:=I.tuple hq;obtain⟨as,ra⟩:=DatVs.reads I hs rv;exact⟨_,.tuple e c d (by simpa using ra)⟩
 |_,_,.lst hq hs,_,r=>by
  cases r;obtain⟨its,rv,⟨o,n,e,c,_,d⟩,_⟩:=I.list hq;obtain⟨as,ra⟩:=DatVs.reads I hs rv;exact⟨_,.list e c d (by simpa using ra)⟩
theorem DatVs.reads(I:Inv X w6 O H s):∀{vs:List V} {ds:List PyData},DatVs X.K H vs ds->∀{us:List Value},Vals vs us->∃as,ReadsAll s.heap us ds as
 |_,_,.nil,_,.nil=>⟨[],.nil⟩
 |_,_,.cons h t,_,.cons r rr=>by
  obtain⟨a,ra⟩:=DatV.reads I h r;obtain⟨b,rb⟩:=DatVs.reads I t rr;exact⟨_,.cons ra rb⟩
end
end
section
variable{X:Cx}
theorem cH(hu:X.A.units+64<cLine):OpR X (compareOp .Eq) (λx y H Q=>∃d d',DatV X.K H x d/\DatV X.K H y d'/\SeqAt.shaped d=true/\SeqAt.shaped d'=true/\Q (.bl (PyData.eqv d d')) H):=by
 intro w6 s O H x y v u Q I rx ry h;obtain⟨d,d',h1,h2,s1,s2,q⟩:=h;obtain⟨as,ra⟩:=h1.reads I rx;obtain⟨bs,rb⟩:=h2.reads I ry;exact SeqAt.compareEq_shaped ra rb s1 s2 hu ⟨.bl _,H,I,rfl,q⟩
theorem cD(hu:X.A.units+64<cLine):OpR X (compareOp .NotEq) (λx y H Q=>∃d d',DatV X.K H x d/\DatV X.K H y d'/\SeqAt.shaped d=true/\SeqAt.shaped d'=true/\Q (.bl (!PyData.eqv d d')) H):=by
 intro w6 s O H x y v u Q I rx ry h;obtain⟨d,d',h1,h2,s1,s2,q⟩:=h;obtain⟨as,ra⟩:=h1.reads I rx;obtain⟨bs,rb⟩:=h2.reads I ry;exact SeqAt.compareNe_shaped ra rb s1 s2 hu ⟨.bl _,H,I,rfl,q⟩
theorem Vn(hr:Room k A):A.units+64<cLine:=hr.units
end
theorem Inv.turnedL{X:Cx}{w6:List (Addr×Obj)}{O:St}{H:Hp}{t':Nat}{ch:List Addr}(I:Inv X w6 O H s)(k:∀b o,b∉ch->s.heap.get? b=some o->h'.get? b=some o)(hf:∀b∈ch,Ha X w6 H b):Inv X w6 O H { s with heap:=h',toks:=t' }:=by
 have nit:∀b u,H b=some u->b∉ch:=λb u e z=>by rw[(hf b z).1] at e;cases e
 refine I.step (g':=s.gens) (d':=s.drawn) (ch:=ch) (λb hb=>⟨(hf b hb).2.2.2.1,(hf b hb).2.1,(hf b hb).2.2.2.2.1,(hf b hb).2.2.2.2.2⟩) (λb o _ _ hc e _=>k b o hc e) (λb o _ _ hc e _=>⟨o.slots,k b o hc e⟩) (λ_ _ _ _ n=>n)
  (λb o hc e=>⟨o,k b o hc e⟩) (λ_ _ e=>e) (λ_ _ _ e=>e) (λb ps e=>⟨#[],by rw[e];simp⟩) (λm hm=>?_) (λb u e=>?_) I.bare
 ·obtain⟨o,es,ep,ho,r⟩:=hm;exact⟨o,es,ep,k _ o (λz=>(hf _ z).2.1 rfl) ho,r⟩
 ·refine(I.hok b u e).stay (λc v hc q=>k c v ?_ q) (λ_ q=>q) λ_ _ q=>q;rcases hc with z|z
  ·rw[z];exact nit b u e
  ·exact nit c _ z
noncomputable def ItP(K:PySem.W.Frag)(n:Nat)(src:Nat->List V)(Cond:PySem.W.Frag->Hp->Prop):It:=
 ⟨λi H=>i<n/\Cond K H,λi H v H'=>∃T,H T=none/\v=.ref T/\H'=upd H T (.tup (src i)),λi H=>i=n/\Cond K H⟩
theorem Ks{P:Program}{w:World}{K:PySem.W.Frag}{es:List Expr}{k0:Nat}{pos:Pos}{I0:Addr}{Y:Type}{fp wr:List Addr}{n:Nat}{src:Nat->List V}{good:Y->Prop}{Pt:Y->Nat->Array Value->Prop}{Sw:Y->Nat->Heap->Prop}{Mid:Y->Nat->Addr->Heap->Prop}{tn:Nat->Heap->Prop}{Cond:PySem.W.Frag->Hp->Prop}
  (W:∀A:Around,A.handled=none->∀z,good z->WalksT P w A I0 fp wr n (Pt z) (Sw z) (Mid z)) (hmem:I0∈wr) (hPt:∀z i vals,good z->Pt z i vals->Vals (src i) vals.toList) (hlen:∀i,(src i).length<=sizeLine)
  (obj:∀i h,tn i h->∀b∈wr,∃o,h.get? b=some o/\∀v,o.data≠.cell v)
  (keep:∀i h h',tn i h->(∀b∈wr,∀o,h.get? b=some o->h'.get? b=some o)->tn i h')
  (into:∀(X:Cx) (w6:List (Addr×Obj)) (O:St) (H:Hp) (s:Shared) (i:Nat),X.prog=P->X.w=w->X.K=K->Inv X w6 O H s->Cond K H->tn i s.heap->∃z,good z/\Sw z i s.heap) (out:∀z i h,Sw z i h->tn i h)
  (self:∀(A:Around) (i:Nat) (s:Shared) (Q:Value->Shared->Prop) (E:Value->Shared->Prop),tn i s.heap->Q (.ref I0) s->wpAny (model P w) A (pyIter (.ref I0)) Q E s) :
  L4 P w K (.Tuple es k0 pos) (ItP K n src Cond) wr I0 tn where
 mem:=hmem
 obj:=obj
 keep:=keep
 item:=by
  intro X hP hw hK hc i w6 s O H E I hf st hg;obtain⟨hi,hcond⟩:=hg;obtain⟨z,gz,sz⟩:=into X w6 O H s i hP hw hK I hcond st;have W':=W X.A (I.ok.hd hc) z gz;refine W'.item i s _ _ hi sz λT vals h' tk hp hT ht hm kk=>⟨_,rfl,?_⟩;have I1:Inv X w6 O H { s with heap:=h',toks:=tk }:=I.turnedL kk hf;refine W'.go es k0 pos i T _ _ _ hm λh2 st2 kk2=>?_;have I2:Inv X w6 O H { s with heap:=h2,toks:=tk }:=I1.turnedL (t':=tk) kk2 hf;have hn:H T=none:=I.hok.fresh hT;have ht2:IsTup h2 T vals:=by
   obtain⟨o,e,r⟩:=ht;exact⟨o,kk2 T o (W'.apart i T _ hm) e,r⟩
  refine⟨.ref T,upd H T (.tup (src i)),I2.track (I.fpOk hT hn) ⟨hlen i,vals.toList,hPt z i vals gz hp,by simpa using ht2⟩,rfl,⟨T,hn,rfl,rfl⟩,out z _ _ st2,λb hb=>?_⟩;have hbT:b≠T:=λz=>W'.apart i T _ hm (by rw[←z];exact hb);rw[BN hbT];exact(hf b hb).1
 done:=by
  intro X hP hw hK hc i w6 s O H E I hf st hg;obtain⟨hi,hcond⟩:=hg;subst hi;obtain⟨z,gz,sz⟩:=into X w6 O H s i hP hw hK I hcond st;exact(W X.A (I.ok.hd hc) z gz).done s _ _ sz λh' tk kk=>⟨rfl,I.turnedL kk hf⟩
 self:=self
noncomputable def G4(xs:List V)(i:Nat):List V:=[.int i,xs.getD i .non]
theorem Lm(r:Vals xs its)(h:∃t x,its.toArray[i]?=some x/\vals=#[.int i t,x]):Vals (G4 xs i) vals.toList:=by
 obtain⟨t,x,hx,rfl⟩:=h;have hx':its[i]?=some x:=by simpa using hx
 have hlt:i<its.length:=(AAT.mp hx').1;have hl:=r.length;have hv:xs[i]?=some (xs.getD i .non):=by
  rw[AAr (by omega)];simp[List.getD,show i<xs.length by omega]
 obtain⟨u,hu,ru⟩:=r.get hv;rw[hx'] at hu;cases hu;exact .cons ⟨t,rfl⟩ (.cons ru .nil)
theorem S5{P:Program}{w:World}{f:Nat->Heap->Prop}(A:Around)(i:Nat)(s:Shared)(Q:Value->Shared->Prop)(E:Value->Shared->Prop)(st:(∃old,IsEnum s.heap e it i old)/\f i s.heap)(h:Q (.ref e) s):wpAny (model P w) A (pyIter (.ref e)) Q E s:=by
 obtain⟨⟨old,he⟩,_⟩:=st;exact wpAny_pyIter_enum he h
theorem XI(he:∃old,IsEnum h e it i old)(ho:h.get? it=some o)(hd:∃vs,o.data=.fields vs):∀b∈[e,it],∃o,h.get? b=some o/\∀v,o.data≠.cell v:=λb hb=>by
 rcases AAI.mp hb with z|z
 ·subst z;obtain⟨old,he⟩:=he;exact⟨_,he,λv q=>by cases q⟩
 ·rw[AAK.mp z];obtain⟨vs,hd⟩:=hd;exact⟨o,ho,λv q=>by rw[hd] at q;cases q⟩
theorem QV{P:Program}{w:World}{K:PySem.W.Frag}{k0:Nat}{pos:Pos}(a e it:Addr)(xs:List V)(hei:e≠it)(hea:e≠a)(hai:a≠it):
  L4 P w K (.Tuple es k0 pos) (ItP K xs.length (G4 xs) λK H=>SqL K H a xs) [e,it] e (λi h=>(∃old,IsEnum h e it i old)/\h.IsListIter it a i):=
 Ks (Y:=List Value) (good:=λits=>Vals xs its) (Pt:=λits i vals=>∃t x,its.toArray[i]?=some x/\vals=#[.int i t,x]) (Sw:=λits i h=>(∃old,IsEnum h e it i old)/\h.IsListIter it a i/\h.IsList a its.toArray)
  (λA hA its r=>by
   have hl:xs.length=its.toArray.size:=by rw[List.size_toArray];exact r.length
   rw[hl];exact WalksT.enumerateD (Draws.list (show A.in1.handled=none from hA) it a hai its.toArray) e hei (by simp[hei,hea]) (by simp))
  (by simp) (λits i vals r h=>Lm r h) (λi=>(by show 2<=sizeLine;decide))
  (λi h st=>by obtain⟨o,ho,_,hd⟩:=st.2;exact XI st.1 ho ⟨_,hd⟩)
  (λi h h' st k=>⟨by obtain⟨old,q⟩:=st.1;exact⟨old,k e (by simp) _ q⟩,st.2.at λo q=>k it (by simp) o q⟩)
  (λX w6 O H s i hP hw hK I hc st=>by
   subst hK;obtain⟨its,r,p,_⟩:=I.list hc;exact⟨its,r,st.1,st.2,p.isList⟩)
  (λz i h st=>⟨st.1,st.2.1⟩) (λA i s Q E st h=>S5 (f:=λi h=>h.IsListIter it a i) A i s Q E st h)
end L2
namespace L2
open PySem PySem.Spec PyProof.Rows
open AutoSeq1 (wpAny_loadPart')
section
variable{X:Cx}{es:List Expr}{k0:Nat}{tpos:Pos}
noncomputable def c6(K:PySem.W.Frag)(ta:TA):TI:=λO H R=>ta O H λvs H1=>∃a xs,vs=[.ref a]/\SqL K H1 a xs/\R (ItP K xs.length (G4 xs) λK H=>SqL K H a xs) H1
theorem NH:bootBuiltins "enumerate" = some (.type "enumerate"):=by decide +kernel
theorem VM(I:Inv X w6 O H s):∀b∈[s.heap.objs.size+1,s.heap.objs.size],Ha X w6 H b:=λb hb=>by
 have hb':b=s.heap.objs.size+1∨b=s.heap.objs.size:=by simpa using hb
 rcases hb' with e|e<;>subst e
 ·exact I.fpOk (Nat.le_succ _) (I.hok.fresh (Nat.le_succ _))
 ·exact I.fpOk (AAE _) (I.hok.fresh (AAE _))
theorem WL(hg:Gl X "enumerate")(hm:X.mg "enumerate" = none)(ha:PA X [a] ta)(hs:starEach [a] X.env=[(false,eval a X.env)]:=by rfl):PI X (.Tuple es k0 tpos) (.Call (.Name "enumerate" p) [a] [] pos) (c6 X.K ta):=by
 intro w6 s O H R I h;refine Call_ (Gy I hg hm NH (PyProof.Rows.callWith_type1 (thn (ha pos w6 s O H _ I h) λus s1 ⟨vs,H1,I1,r1,q1⟩=>?_) hs rfl));obtain⟨l,xs,e,hq,q⟩:=q1;subst e;obtain⟨u,rfl,ru⟩:=DX r1;cases ru;obtain⟨its,rv,pl,hz⟩:=I1.list hq;have hlt:l<s1.heap.objs.size:=by obtain⟨o,n,e,_⟩:=pl;exact Heap.lt_size e
 refine call_enumerate_list pl.isList λh' he hit hsz kk=>wpAny_pyIter_enum he ?_;exact⟨s1.heap.objs.size+1,[s1.heap.objs.size+1,s1.heap.objs.size],_,_,H1,rfl,I1.kept (t':=s1.toks) kk,QV l _ _ xs (Nat.succ_ne_self _) (Nat.ne_of_gt (AAg hlt)) (AAc hlt),⟨⟨_,he⟩,hit⟩,VM I1,q⟩
end
end L2
namespace L2
open PySem PySem.Spec PyProof.Rows
def KGet(P:Params)(K:PySem.W.Frag)(a:Addr)(y:V)(r:Option V):Prop:=
 ∃x es n r',y=.str x/\K.lookup a=some ⟨.type "dict",none,.dict es n,#[]⟩/\PySem.W.KeysLit P es.toList/\PySem.W.nsIn K a x=some r'/\RelO r r'/\(a==sysModules)=false
section
variable{X:Cx}{w6:List (Addr×Obj)}{O:St}{H:Hp}{s:Shared}{a:Addr}{y v:V}{u:Value}{o:Option V}{A:Around}{E:Value->Shared->Prop}
theorem KGet.typeIs(I:Inv X w6 O H s)(g:KGet X.w.params X.K a y o):s.TypeIs (.ref a) "dict" := by
 obtain⟨x,es,n,r',_,hl,_⟩:=g;exact⟨_,I.kIn a _ hl,rfl⟩
theorem UA(I:Inv X w6 O H s)(g:KGet X.w.params X.K a y (some v))(ry:RelV y u)(h:∀w' s',Inv X w6 O H s'->RelV v w'->Q w' s'):
  wpAny (model X.prog X.w) A (getItem (.ref a) u) Q E s:=by
 obtain⟨x,es,n,r',e,hl,hk,hn,ro,_⟩:=g;subst e;obtain⟨t,rfl⟩:=ry;obtain⟨w',rfl,rw'⟩:=RelO.some_of ro;exact wpAny_getItem_of (strKind_is X.prog X.w x t) (PySem.W.mapOf_K (prog:=X.prog) (λa o q=>I.kIn a o q) hl hk) (PySem.W.find_K hl hn) (h w' _ (I.tok _) rw')
theorem hJ(I:Inv X w6 O H s)(g:KGet X.w.params X.K a y o)(ry:RelV y u)(h:∀s',Inv X w6 O H s'->Q (.bool o.isSome) s'):
  wpAny (model X.prog X.w) A (compareOp .In u (.ref a)) Q E s:=by
 obtain⟨x,es,n,r',e,hl,hk,hn,ro,lo⟩:=g;subst e;obtain⟨t,rfl⟩:=ry;refine wpAny_in_of (strKind_is X.prog X.w x t) lo (PySem.W.mapOf_K (prog:=X.prog) (λa o q=>I.kIn a o q) hl hk) ?_;rw[PySem.W.find_K hl hn,←ro.isSome_eq];exact h _ (I.tok _)
end
noncomputable def dw(P:Params)(K:PySem.W.Frag)(td ty:TE):TE:=λO H Q=>td O H λx H1=>ty O H1 λy H2=>∃a v,x=.ref a/\KGet P K a y (some v)/\Q v H2
noncomputable def dv(P:Params)(K:PySem.W.Frag)(ty td:TE):TE:=λO H Q=>ty O H λy H1=>td O H1 λx H2=>∃a o,x=.ref a/\KGet P K a y o/\Q (.bl o.isSome) H2
section
variable{X:Cx}{o i:Expr}{pos:Pos}{td ty:TE}
theorem Yt(ho:PE X o td)(hi:PE X i ty)(hs:Xh i):PE X (.Subscript o i pos) (dw X.w.params X.K td ty):=by
 intro w6 s O H Q I h;refine Rt PySem.F.slot_dict_getitem.lookup hs (thn (ho w6 s O H _ I h) λu s1 ⟨x,H1,I1,rx,q1⟩=>thn (hi w6 s1 O H1 _ I1 q1) λiv s2 ⟨y,H2,I2,ry,a,v,ex,g,q2⟩=>?_);subst ex;obtain rfl:u=Value.ref a:=rx;exact⟨g.typeIs I2,UA I2 g ry λw' s3 I3 rw'=>⟨v,H2,I3,rw',q2⟩⟩
theorem bq(hi:PE X i ty)(ho:PE X o td):PC X .In i o (dv X.w.params X.K ty td):=by
 intro w6 s O H Q I h;refine thn (hi w6 s O H _ I h) λiv s1 ⟨y,H1,I1,ry,q1⟩=>thn (ho w6 s1 O H1 _ I1 q1) λu s2 ⟨x,H2,I2,rx,a,ov,ex,g,q2⟩=>?_;subst ex;obtain rfl:u=Value.ref a:=rx;exact hJ I2 g ry λs3 I3=>⟨.bl ov.isSome,H2,I3,rfl,q2⟩
end
noncomputable def gf(tv:TE):TE:=λO H Q=>tv O H λv H1=>(∃x,v=.str x/\x.length<=sizeLine/\Q (.str x) H1)∨∃a:Int,v=.int a/\a.natAbs.log2<1920/\Q (.str (toString a)) H1
noncomputable def Rq:List TE->Str->TE
 |[],out=>λ_ H Q=>out.length<=sizeLine/\Q (.str out) H
 |t::r,out=>λO H Q=>t O H λv H1=>∃y,v=.str y/\(out++y).length<=sizeLine/\Rq r (out++y) O H1 Q
def PJ(X:Cx)(es:List Expr)(ts:List TE):Prop:=
 ∀(out:Str) (w6:List (Addr×Obj)) (s:Shared) (O:St) (H:Hp) (Q:VK),Inv X w6 O H s->Rq ts out O H Q->wpAny (model X.prog X.w) X.A (joinParts out (evalEach es X.env)) (EP X w6 O Q) X.xe s
section
variable{X:Cx}{value e e2:Expr}{es:List Expr}{pos:Pos}{tv t t2:TE}{ts:List TE}
theorem bm(hv:PE X value tv):PE X (.FormattedValue value (-1) none pos) (gf tv):=by
 intro w6 s O H Q I h;refine FormattedValue_plain (thn (hv w6 s O H _ I h) λu s1 ⟨v,H1,I1,r,q⟩=>?_);rcases q with ⟨x,e,hz,q⟩|⟨a,e,hz,q⟩
 ·subst e;obtain⟨t,rfl⟩:=r;exact formatField_str (λt' tk=>⟨.str x,H1,I1.tok _,⟨t',rfl⟩,q⟩) hz
 ·subst e;obtain⟨t,rfl⟩:=r;exact formatField_int_small hz ⟨.str (toString a),H1,I1.tok _,⟨_,rfl⟩,q⟩
theorem bX:PJ X [] []:=λout w6 s O H Q I h=>joinParts_nil ⟨.str out,H,I.tok _,⟨_,rfl⟩,h.2⟩ h.1
theorem Yp(he:PE X e t)(hr:PJ X es ts):PJ X (e::es) (t::ts):=λout w6 s O H Q I h=>by
 show wpAny _ _ (joinParts out (eval e X.env::evalEach es X.env)) _ _ _;refine joinParts_cons (thn (he w6 s O H _ I h) λu s1 ⟨v,H1,I1,r,y,e,hz,q⟩=>?_);subst e;obtain⟨tk,rfl⟩:=r;exact⟨hz,hr _ w6 s1 O H1 Q I1 q⟩
theorem Tq(h:PJ X (e::e2::es) (t::t2::ts)):PE X (.JoinedStr (e::e2::es) pos) (Rq (t::t2::ts) Str.empty):=λw6 s O H Q I q=>JoinedStr_many (h Str.empty w6 s O H Q I q)
end
end L2
namespace Nk
open PySem PySem.Spec PyProof.Rows
inductive NK where
 |int (i:Int)|tup (ks:List NK)
noncomputable instance:DecidableEq NK:=λ_ _=>Classical.propDecidable _
mutual
def NK.hash:NK->Int
 | .int i=>hashInt i
 | .tup ks=>reduceHash (Builtin.Tuple.tupleHashOf (NK.hashes ks))
def NK.hashes:List NK->List Int
 |[]=>[]
 |k::ks=>NK.hash k::NK.hashes ks
end
end Nk
namespace Nk
open PySem PySem.Spec PyProof.Rows PySem.MeetsSeq PySem.SeqAt
noncomputable abbrev Cs:=Int×Int×List Int
noncomputable def csK(c:Cs):NK:=.tup [.int c.1,.int c.2.1,.tup (c.2.2.map NK.int)]
open L2 in
noncomputable def gC(p:Addr)(l:List (Cs×Addr×V)):HO:=.ext λh=>∃(us:List Value) (o:Obj) (es:Array DictEntry) (ep:Nat),Vals (l.map (·.2.2)) us/\h.get? p=some o/\o.ExactDict/\o.data=.dict es ep /\
 es.toList=(l.zip us).map (λx=>{ key:=.ref x.1.2.1,hash:=(csK x.1.1).hash,val:=x.2 })/\(l.map (·.1)).Nodup/\l.length<=sizeLine/\(p==sysModules)=false
end Nk
namespace Mi
open PySem L2 Nk
inductive D where
 |non|bl (b:Bool)|int (i:Int)|str (x:Str)|ty (n:String)|scr (ns:List Int)|tup (xs:List D)|lst (xs:List D)|ref (n:Nat)
mutual
def Fq:D->D->Bool
 | .non,.non=>true
 | .bl a,.bl b=>a==b
 | .int a,.int b=>a==b
 | .str a,.str b=>a==b
 | .ty a,.ty b=>a==b
 | .scr a,.scr b=>a==b
 | .tup a,.tup b=>Q8 a b
 | .lst a,.lst b=>Q8 a b
 | .ref a,.ref b=>a==b
 |_,_=>false
def Q8:List D->List D->Bool
 |[],[]=>true
 |a::as,b::bs=>Fq a b&&Q8 as bs
 |_,_=>false
end
mutual
theorem TC:∀{a b:D},Fq a b=true->a=b
 | .tup a,.tup b,h=>by unfold Fq at h;rw[OQ h]
 | .lst a,.lst b,h=>by unfold Fq at h;rw[OQ h]
 | .non,b,h=>by cases b<;>first|rfl|cases h
 | .bl a,b,h=>by cases b<;>first|(unfold Fq at h;rw[eq_of_beq h])|cases h
 | .int a,b,h=>by cases b<;>first|(unfold Fq at h;rw[eq_of_beq h])|cases h
 | .str a,b,h=>by cases b<;>first|(unfold Fq at h;rw[eq_of_beq h])|cases h
 | .ty a,b,h=>by cases b<;>first|(unfold Fq at h;rw[eq_of_beq h])|cases h
 | .scr a,b,h=>by cases b<;>first|(unfold Fq at h;rw[eq_of_beq h])|cases h
 | .ref a,b,h=>by cases b<;>first|(unfold Fq at h;rw[eq_of_beq h])|cases h
theorem OQ:∀{a b:List D},Q8 a b=true->a=b
 |[],[],_=>rfl
 |a::as,b::bs,h=>by
  unfold Q8 at h;rw[Bool.and_eq_true] at h;rw[TC h.1,OQ h.2]
end
mutual
theorem NN:∀a:D,Fq a a=true
 | .tup a=>by unfold Fq;exact Jh a
 | .lst a=>by unfold Fq;exact Jh a
 | .non=>rfl
 | .bl a=>by unfold Fq;exact beq_self_eq_true a
 | .int a=>by unfold Fq;exact beq_self_eq_true a
 | .str a=>by unfold Fq;exact beq_self_eq_true a
 | .ty a=>by unfold Fq;exact beq_self_eq_true a
 | .scr a=>by unfold Fq;exact beq_self_eq_true a
 | .ref a=>by unfold Fq;exact beq_self_eq_true a
theorem Jh:∀a:List D,Q8 a a=true
 |[]=>rfl
 |a::as=>by unfold Q8;rw[NN a,Jh as];rfl
end
instance:DecidableEq D:=λa b=>if h:Fq a b=true then .isTrue (TC h) else .isFalse λe=>h (by rw[e];exact NN b)
inductive MO where
 |lst (xs:List D)|dK (kvs:List (Key×D))|dC (kvs:List (Cs×D))|ins (c:Str) (fs:List (Str×D))|dP (kvs:List (D×D))|exc (c:Str) (n:Option Nat)
abbrev Mh:=List MO
set_option genInjectivity false in
structure KW where
 fr:PySem.W.Frag
 w:World
instance:CoeOut KW PySem.W.Frag:=⟨KW.fr⟩
noncomputable abbrev _root_.L2.Cx.kw(X:Cx):KW:=⟨X.K,X.w⟩
noncomputable abbrev M(α:Type):=Mh->Option (α×Mh)
noncomputable abbrev Sl:=List (Option D)
noncomputable def ret{α:Type}(a:α):M α:=λZ=>some (a,Z)
noncomputable def bnd{α β:Type}(m:M α)(f:α->M β):M β:=λZ=>match m Z with
 |some (a,w9)=>f a w9
 |none=>none
noncomputable def BM{α:Type}:M α:=λ_=>none
theorem AJ(h:bnd m f Z=some r):∃a w9,m Z=some (a,w9)/\f a w9=some r:=by
 unfold bnd at h;cases e:m Z with
 |none=>rw[e] at h;cases h
 |some p=>obtain⟨a,w9⟩:=p;rw[e] at h;exact⟨a,w9,rfl,h⟩
@[simp] theorem gS(a:α)(f:α->M β):bnd (ret a) f=f a:=rfl
theorem AV(h:m Z=some (a,w9)):bnd m f Z=f a w9:=by unfold bnd;rw[h]
def ScrAt(K:PySem.W.Frag)(H:Hp)(a:Addr)(xs:List V):Prop:=
 (∃o,H a=some (.frz o (.lst xs)))∨∃(o:Obj) (its:Array Value) (n:Nat),K.lookup a=some o/\o.cls=.type "list" /\ o.dict=none/\o.data=.seq its n/\its.size<=sizeLine/\Vals xs its.toList
theorem ScrAt.sq(h:ScrAt K H a xs):SqL K H a xs:=h.elim (λz=>.inl (.inr z)) .inr
mutual
def Is(K:KW)(Y:Nat->Addr)(k:Nat)(H:Hp):D->V->Prop
 | .non,v=>v=.non
 | .bl b,v=>v=.bl b
 | .int i,v=>v=.int i
 | .str x,v=>v=.str x
 | .ty n,v=>v=.ty n
 | .scr ns,v=>∃p,v=.ref p/\ScrAt K H p (ns.map V.int)
 | .tup ds,v=>∃p vs,v=.ref p/\SqT K H p vs/\IsL K Y k H ds vs
 | .lst ds,v=>∃p vs,v=.ref p/\H p=some (.lst vs)/\(∀n,n<k->Y n≠p)/\IsL K Y k H ds vs
 | .ref n,v=>n<k/\v=.ref (Y n)
def IsL(K:KW)(Y:Nat->Addr)(k:Nat)(H:Hp):List D->List V->Prop
 |[],vs=>vs=[]
 |d::ds,vs=>∃v vs',vs=v::vs'/\Is K Y k H d v/\IsL K Y k H ds vs'
end
section
variable{K:KW}{Y Y' u9:Nat->Addr}{k k' k2:Nat}{H H' H2:Hp}
theorem IsL.length:∀{ds:List D} {vs:List V},IsL K Y k H ds vs->vs.length=ds.length
 |[],_,h=>by unfold IsL at h;subst h;rfl
 |_::_,_,h=>by
  unfold IsL at h;obtain⟨v,vs',rfl,_,h⟩:=h;simp only[AAH,IsL.length h]
theorem IsL.get:∀{ds:List D} {vs:List V} {i:Nat} {d:D},IsL K Y k H ds vs->ds[i]?=some d->∃v,vs[i]?=some v/\Is K Y k H d v
 |[],_,_,_,_,e=>by simp at e
 |_::_,_,0,_,h,e=>by
  unfold IsL at h;obtain⟨v,vs',rfl,h1,_⟩:=h;simp at e;subst e;exact⟨v,rfl,h1⟩
 |_::_,_,i+1,d,h,e=>by
  unfold IsL at h;obtain⟨v,vs',rfl,_,h⟩:=h;obtain⟨u,e1,e2⟩:=IsL.get (i:=i) (d:=d) h (by simpa using e);exact⟨u,by simpa using e1,e2⟩
theorem IsL.append:∀{ds es:List D} {vs us:List V},IsL K Y k H ds vs->IsL K Y k H es us->IsL K Y k H (ds++es) (vs++us)
 |[],_,_,_,h,q=>by unfold IsL at h;subst h;exact q
 |_::_,_,_,_,h,q=>by
  unfold IsL at h;obtain⟨v,vs',rfl,h1,h⟩:=h;show IsL K Y k H (_::(_++_)) _;unfold IsL;exact⟨v,_,rfl,h1,IsL.append h q⟩
theorem IsL.take:∀(n:Nat) {ds:List D} {vs:List V},IsL K Y k H ds vs->IsL K Y k H (ds.take n) (vs.take n)
 |0,ds,vs,_=>by rw[List.take_zero,List.take_zero];unfold IsL;rfl
 |n+1,[],_,h=>by unfold IsL at h;subst h;simp only[List.take_nil];unfold IsL;rfl
 |n+1,_::_,_,h=>by
  unfold IsL at h;obtain⟨v,vs',rfl,h1,h⟩:=h;simp only[List.take_succ_cons];unfold IsL;exact⟨v,_,rfl,h1,IsL.take n h⟩
theorem IsL.drop:∀(n:Nat) {ds:List D} {vs:List V},IsL K Y k H ds vs->IsL K Y k H (ds.drop n) (vs.drop n)
 |0,_,_,h=>h
 |n+1,[],_,h=>by unfold IsL at h;subst h;simp only[List.drop_nil];unfold IsL;rfl
 |n+1,_::_,_,h=>by
  unfold IsL at h;obtain⟨v,vs',rfl,h1,h⟩:=h;simp only[List.drop_succ_cons];exact IsL.drop n h
theorem IsL.cons(h:Is K Y k H d v)(t:IsL K Y k H ds vs):IsL K Y k H (d::ds) (v::vs):=by
 unfold IsL;exact⟨v,vs,rfl,h,t⟩
theorem IsL.nil:IsL K Y k H [] []:=by unfold IsL;rfl
theorem IsL.one(h:Is K Y k H d v):IsL K Y k H [d] [v]:=.cons h .nil
theorem IsL.reverse:∀{ds:List D} {vs:List V},IsL K Y k H ds vs->IsL K Y k H ds.reverse vs.reverse
 |[],_,h=>by unfold IsL at h;subst h;exact .nil
 |_::_,_,h=>by
  unfold IsL at h;obtain⟨v,vs',rfl,h1,h⟩:=h;rw[List.reverse_cons,List.reverse_cons];exact(IsL.reverse h).append (.one h1)
theorem IsL.set(h1:Is K Y k H d v):∀{ds:List D} {vs:List V} (i:Nat),IsL K Y k H ds vs->IsL K Y k H (ds.set i d) (vs.set i v)
 |[],_,_,h=>by unfold IsL at h;subst h;exact .nil
 |_::_,_,0,h=>by
  unfold IsL at h;obtain⟨v,vs',rfl,_,h⟩:=h;exact .cons h1 h
 |_::_,_,i+1,h=>by
  unfold IsL at h;obtain⟨v,vs',rfl,h0,h⟩:=h;exact .cons h0 (IsL.set h1 i h)
theorem IsL.ofInts:∀(ns:List Int),IsL K Y k H (ns.map D.int) (ns.map V.int)
 |[]=>.nil
 |n::r=>.cons (by unfold Is;rfl) (IsL.ofInts r)
noncomputable def W2:HO->Bool
 | .lst _=>true
 | .dK _=>true
 | .ext _=>true
 | .ins _ _ _=>true
 |_=>false
def Muts(Y:Nat->Addr)(k:Nat)(H:Hp):Prop:=∀n,n<k->∃o,H (Y n)=some o/\W2 o=true
structure Ext(Y:Nat->Addr)(k:Nat)(H:Hp)(Y':Nat->Addr)(k':Nat)(H':Hp):Prop where
 le:k<=k'
 agree:∀n,n<k->Y' n=Y n
 fresh:∀n,k<=n->n<k'->H (Y' n)=none
 keep:∀p o,H p=some o->(∀n,n<k->Y n≠p)->H' p=some o
 was:Muts Y k H
 there:Muts Y k H'
theorem Ext.refl(h:Muts Y k H):Ext Y k H Y k H:=⟨AAE _,λ_ _=>rfl,λn h1 h2=>absurd h1 (by omega),λ_ _ e _=>e,h,h⟩
theorem Ext.trans(a:Ext Y k H Y' k' H')(b:Ext Y' k' H' u9 k2 H2):Ext Y k H u9 k2 H2 where
 le:=AAq a.le b.le
 agree:=λn h=>(b.agree n (AAM h a.le)).trans (a.agree n h)
 fresh:=λn h1 h2=>by
  rcases Nat.lt_or_ge n k' with z|z
  ·rw[b.agree n z];exact a.fresh n h1 z
  ·have q:=b.fresh n z h2;cases e:H (u9 n) with
   |none=>rfl
   |some o=>
    by_cases hx:∃m,m<k/\Y m=u9 n
    ·obtain⟨m,hm,e2⟩:=hx;obtain⟨o',q',_⟩:=a.there m hm;rw[e2,q] at q';cases q'
    ·have:=a.keep _ o e (λm hm e2=>hx ⟨m,hm,e2⟩);rw[q] at this;cases this
 keep:=λp o e hn=>b.keep p o (a.keep p o e hn) (λn hlt e2=>by
  rcases Nat.lt_or_ge n k with z|z
  ·rw[a.agree n z] at e2;exact hn n z e2
  ·have:=a.fresh n z hlt;rw[e2,e] at this;cases this)
 was:=a.was
 there:=λn h=>by
  have:=b.there n (AAM h a.le);rw[a.agree n h] at this;exact this
theorem Ext.out(a:Ext Y k H Y' k' H')(e:H p=some o)(hn:∀n,n<k->Y n≠p):∀n,n<k'->Y' n≠p:=λn h e2=>by
 rcases Nat.lt_or_ge n k with z|z
 ·rw[a.agree n z] at e2;exact hn n z e2
 ·have:=a.fresh n z h;rw[e2,e] at this;cases this
theorem Muts.ne(a:Muts Y k H)(e:H p=some o)(hm:W2 o=false):∀n,n<k->Y n≠p:=λn hn e2=>by
 obtain⟨o',q,h⟩:=a n hn;rw[e2,e] at q;cases q;rw[hm] at h;cases h
theorem HM(a:Ext Y k H Y' k' H')(h:SqT K H p vs):SqT K H' p vs:=by
 rcases h with h|h
 ·rcases h with h|⟨o,h⟩
  ·exact .inl (.inl (a.keep p _ h (a.was.ne h rfl)))
  ·exact .inl (.inr ⟨o,a.keep p _ h (a.was.ne h rfl)⟩)
 ·exact .inr h
theorem KH(a:Ext Y k H Y' k' H')(h:ScrAt K H p vs):ScrAt K H' p vs:=by
 rcases h with ⟨o,h⟩|h
 ·exact .inl ⟨o,a.keep p _ h (a.was.ne h rfl)⟩
 ·exact .inr h
mutual
theorem Is.ext(a:Ext Y k H Y' k' H'):∀{d:D} {v:V},Is K Y k H d v->Is K Y' k' H' d v
 | .non,_,h=>by unfold Is at h ⊢;exact h
 | .bl _,_,h=>by unfold Is at h ⊢;exact h
 | .int _,_,h=>by unfold Is at h ⊢;exact h
 | .str _,_,h=>by unfold Is at h ⊢;exact h
 | .ty _,_,h=>by unfold Is at h ⊢;exact h
 | .scr ns,_,h=>by
  unfold Is at h ⊢;obtain⟨p,rfl,h⟩:=h;exact⟨p,rfl,KH a h⟩
 | .tup ds,_,h=>by
  unfold Is at h ⊢;obtain⟨p,vs,rfl,h1,h2⟩:=h;exact⟨p,vs,rfl,HM a h1,IsL.ext a h2⟩
 | .lst ds,_,h=>by
  unfold Is at h ⊢;obtain⟨p,vs,rfl,h1,hn,h2⟩:=h;exact⟨p,vs,rfl,a.keep p _ h1 hn,a.out h1 hn,IsL.ext a h2⟩
 | .ref n,_,h=>by
  unfold Is at h ⊢;obtain⟨h,rfl⟩:=h;exact⟨AAM h a.le,by rw[a.agree n h]⟩
theorem IsL.ext(a:Ext Y k H Y' k' H'):∀{ds:List D} {vs:List V},IsL K Y k H ds vs->IsL K Y' k' H' ds vs
 |[],_,h=>by unfold IsL at h ⊢;exact h
 |_::_,_,h=>by
  unfold IsL at h ⊢;obtain⟨v,vs',rfl,h1,h2⟩:=h;exact⟨v,vs',rfl,Is.ext a h1,IsL.ext a h2⟩
end
noncomputable def KVs(K:KW)(Y:Nat->Addr)(k:Nat)(H:Hp):List (Key×D)->List (Key×V)->Prop
 |[],r=>r=[]
 |(y,d)::l,r=>∃v r',r=(y,v)::r'/\Is K Y k H d v/\KVs K Y k H l r'
theorem KVs.ext(a:Ext Y k H Y' k' H'):∀{l:List (Key×D)} {r:List (Key×V)},KVs K Y k H l r->KVs K Y' k' H' l r
 |[],_,h=>h
 |(_,_)::_,_,h=>by
  obtain⟨v,r',rfl,h1,h2⟩:=h;exact⟨v,r',rfl,h1.ext a,h2.ext a⟩
noncomputable def csD(c:Cs):D:=.tup [.int c.1,.int c.2.1,.tup (c.2.2.map D.int)]
noncomputable def CVs(K:KW)(Y:Nat->Addr)(k:Nat)(H:Hp):List (Cs×D)->List (Cs×Addr×V)->Prop
 |[],r=>r=[]
 |(y,d)::l,r=>∃a v r',r=(y,a,v)::r'/\Is K Y k H (csD y) (.ref a)/\Is K Y k H d v/\CVs K Y k H l r'
theorem CVs.ext(a:Ext Y k H Y' k' H'):∀{l:List (Cs×D)} {r:List (Cs×Addr×V)},CVs K Y k H l r->CVs K Y' k' H' l r
 |[],_,h=>h
 |(_,_)::_,_,h=>by
  obtain⟨b,v,r',rfl,h1,h2,h3⟩:=h;exact⟨b,v,r',rfl,h1.ext a,h2.ext a,h3.ext a⟩
noncomputable def FVs(K:KW)(Y:Nat->Addr)(k:Nat)(H:Hp):List (Str×D)->List (Str×V)->Prop
 |[],r=>r=[]
 |(y,d)::l,r=>∃v r',r=(y,v)::r'/\Is K Y k H d v/\FVs K Y k H l r'
theorem FVs.ext(a:Ext Y k H Y' k' H'):∀{l:List (Str×D)} {r:List (Str×V)},FVs K Y k H l r->FVs K Y' k' H' l r
 |[],_,h=>h
 |(_,_)::_,_,h=>by
  obtain⟨v,r',rfl,h1,h2⟩:=h;exact⟨v,r',rfl,h1.ext a,h2.ext a⟩
mutual
def hD(w:World):D->Int
 | .int i=>hashInt i
 | .str x=>hashStr w x
 | .tup ks=>reduceHash (Builtin.Tuple.tupleHashOf (hDs w ks))
 |_=>0xFCA86420
def hDs(w:World):List D->List Int
 |[]=>[]
 |k::ks=>hD w k::hDs w ks
end
noncomputable def gB(w:World)(p:Addr)(l:List (D×Addr×V)):HO:=.ext λh=>∃(us:List Value) (o:Obj) (es:Array DictEntry) (ep:Nat),Vals (l.map (·.2.2)) us/\h.get? p=some o/\o.ExactDict/\o.data=.dict es ep /\
 es.toList=(l.zip us).map (λx=>{ key:=.ref x.1.2.1,hash:=hD w x.1.1,val:=x.2 })/\(l.map (·.1)).Nodup/\l.length<=sizeLine/\(p==sysModules)=false
mutual
def Kz:D->Bool
 | .non=>true
 | .int _=>true
 | .str _=>true
 | .tup ds=>KzL ds
 |_=>false
def KzL:List D->Bool
 |[]=>true
 |d::ds=>Kz d&&KzL ds
end
mutual
def gF:D->Nat
 | .tup ks=>aK ks+1
 |_=>0
def aK:List D->Nat
 |[]=>0
 |k::ks=>max (gF k) (aK ks)
end
noncomputable def PVs(K:KW)(Y:Nat->Addr)(k:Nat)(H:Hp):List (D×D)->List (D×Addr×V)->Prop
 |[],r=>r=[]
 |(y,d)::l,r=>∃a v r',r=(y,a,v)::r'/\(Kz y=true/\gF y<=8/\Is K Y k H y (.ref a))/\Is K Y k H d v/\PVs K Y k H l r'
theorem PVs.ext(a:Ext Y k H Y' k' H'):∀{l:List (D×D)} {r:List (D×Addr×V)},PVs K Y k H l r->PVs K Y' k' H' l r
 |[],_,h=>h
 |(_,_)::_,_,h=>by
  obtain⟨b,v,r',rfl,h1,h2,h3⟩:=h;exact⟨b,v,r',rfl,⟨h1.1,h1.2.1,h1.2.2.ext a⟩,h2.ext a,h3.ext a⟩
def ClsAt(K:PySem.W.Frag)(c:Str)(C:Addr):Prop:=PySem.W.nsIn K mainGlobals c=some (some (.ref C))
noncomputable def hX(p C:Addr)(dx:Option Addr):HO:=.ext λh=>∃oe vs,h.get? p=some oe/\oe.cls=.ref C/\oe.dict=dx/\oe.data=.fields vs
def iB(H:Hp)(n:Option Nat)(dx:Option Addr):Prop:=match n with
 |none=>dx=none
 |some i=>∃d,dx=some d/\H d=some (.xd [("at",.int (i:Int))])
noncomputable def ObjIs(K:KW)(Y:Nat->Addr)(k:Nat)(H:Hp)(p:Addr):MO->HO->Prop
 | .lst ds,o=>∃vs,o=.lst vs/\IsL K Y k H ds vs
 | .dK l,o=>∃r,o=.dK r/\KVs K Y k H l r
 | .dC l,o=>∃r,o=gC p r/\CVs K Y k H l r
 | .ins c l,o=>∃C dx r,o=.ins C dx r/\ClsAt K c C/\H dx=some (.own p)/\FVs K Y k H l r
 | .dP l,o=>∃r,o=gB K.w p r/\PVs K Y k H l r
 | .exc c n,o=>∃C dx,o=hX p C dx/\ClsAt K c C/\iB H n dx
structure RelH(K:KW)(Y:Nat->Addr)(Z:Mh)(H:Hp):Prop where
 inj:∀i j,i<Z.length->j<Z.length->Y i=Y j->i=j
 obj:∀n o,Z[n]?=some o->∃u,H (Y n)=some u/\ObjIs K Y Z.length H (Y n) o u
theorem ObjIs.mut(h:ObjIs K Y k H p o u):W2 u=true:=by
 cases o with
 |lst ds=>obtain⟨vs,rfl,_⟩:=h;rfl
 |dK l=>obtain⟨r,rfl,_⟩:=h;rfl
 |dC l=>obtain⟨r,rfl,_⟩:=h;rfl
 |ins c l=>obtain⟨C,dx,r,rfl,_⟩:=h;rfl
 |dP l=>obtain⟨r,rfl,_⟩:=h;rfl
 |exc c n=>obtain⟨C,dx,rfl,_⟩:=h;rfl
theorem ObjIs.ext(a:Ext Y k H Y' k' H')(h:ObjIs K Y k H p o u):ObjIs K Y' k' H' p o u:=by
 cases o with
 |lst ds=>obtain⟨vs,rfl,h⟩:=h;exact⟨vs,rfl,h.ext a⟩
 |dK l=>obtain⟨r,rfl,h⟩:=h;exact⟨r,rfl,h.ext a⟩
 |dC l=>obtain⟨r,rfl,h⟩:=h;exact⟨r,rfl,h.ext a⟩
 |ins c l=>obtain⟨C,dx,r,rfl,h0,h1,h⟩:=h;exact⟨C,dx,r,rfl,h0,a.keep dx _ h1 (a.was.ne h1 rfl),h.ext a⟩
 |dP l=>obtain⟨r,rfl,h⟩:=h;exact⟨r,rfl,h.ext a⟩
 |exc c n=>
  obtain⟨C,dx,rfl,h0,h1⟩:=h;refine⟨C,dx,rfl,h0,?_⟩;cases n with
  |none=>exact h1
  |some i=>
   obtain⟨d,e,q⟩:=h1;exact⟨d,e,a.keep d _ q (a.was.ne q rfl)⟩
theorem RelH.muts(r:RelH K Y Z H):Muts Y Z.length H:=λn hn=>by
 obtain⟨u,e,h⟩:=r.obj n Z[n] (by simp[hn]);exact⟨u,e,h.mut⟩
theorem RelH.ext0(r:RelH K Y Z H):Ext Y Z.length H Y Z.length H:=Ext.refl r.muts
theorem RelH.laid(r:RelH K Y Z H)(o:HO)(hp:H p=none):Ext Y Z.length H Y Z.length (upd H p o)/\RelH K Y Z (upd H p o):=by
 have kp:∀q u,H q=some u->upd H p o q=some u:=λq u e=>by rw[BN (DM e hp)];exact e
 have a:Ext Y Z.length H Y Z.length (upd H p o):=⟨AAE _,λ_ _=>rfl,λn h1 h2=>absurd h1 (by omega),λq u e _=>kp q u e,r.muts,λn hn=>by
  obtain⟨u,e,h⟩:=r.muts n hn;exact⟨u,kp _ _ e,h⟩⟩
 refine⟨a,r.inj,λn o' e=>?_⟩;obtain⟨u,e1,h⟩:=r.obj n o' e;exact⟨u,kp _ _ e1,h.ext a⟩
theorem RelH.grown(r:RelH K Y Z H)(hp:H p=none)(h:ObjIs K Y Z.length H p m o):
  ∃Y',Ext Y Z.length H Y' (Z++[m]).length (upd H p o)/\RelH K Y' (Z++[m]) (upd H p o)/\Y' Z.length=p:=by
 have kp:∀q u,H q=some u->upd H p o q=some u:=λq u e=>by rw[BN (DM e hp)];exact e
 let Y':Nat->Addr:=λn=>if n=Z.length then p else Y n
 have e0:Y' Z.length=p:=if_pos rfl;have e1:∀n,n<Z.length->Y' n=Y n:=λn hn=>if_neg (by omega);have a:Ext Y Z.length H Y' (Z++[m]).length (upd H p o):=⟨by simp,e1,λn h1 h2=>by
   have:n=Z.length:=by simp at h2;omega
   rw[this,e0];exact hp,λq u e _=>kp q u e,r.muts,λn hn=>by
  obtain⟨u,e,h⟩:=r.muts n hn;exact⟨u,kp _ _ e,h⟩⟩
 refine⟨Y',a,⟨λi j hi hj e=>?_,λn o' e=>?_⟩,e0⟩
 ·simp at hi hj;have old:∀i,i<Z.length->Y' i≠p:=λi hi e=>by
   obtain⟨u,q,_⟩:=r.muts i hi;rw[←e1 i hi,e,hp] at q;cases q
  rcases Nat.lt_or_ge i Z.length with zi|zi<;>rcases Nat.lt_or_ge j Z.length with zj|zj
  ·rw[e1 i zi,e1 j zj] at e;exact r.inj i j zi zj e
  ·have:j=Z.length:=by omega
   subst this;rw[e0] at e;exact absurd e (old i zi)
  ·have:i=Z.length:=by omega
   subst this;rw[e0] at e;exact absurd e.symm (old j zj)
  ·omega
 ·rcases Nat.lt_or_ge n Z.length with z|z
  ·rw[AAS z] at e;obtain⟨u,q,hq⟩:=r.obj n o' e;exact⟨u,by rw[e1 n z];exact kp _ _ q,by rw[e1 n z];exact hq.ext a⟩
  ·have hn:n=Z.length:=by
    have:=(AAT.mp e).1;simp at this;omega
   subst hn;rw[AAR (AAE _),Nat.sub_self] at e;simp at e;subst e;exact⟨o,by rw[e0,B2],by rw[e0];exact h.ext a⟩
theorem RelH.changed(r:RelH K Y Z H)(hn:n<Z.length)(h:ObjIs K Y Z.length H (Y n) m o):
  Ext Y Z.length H Y (Z.set n m).length (upd H (Y n) o)/\RelH K Y (Z.set n m) (upd H (Y n) o):=by
 have ne:∀i,i<Z.length->i≠n->Y i≠Y n:=λi hi hne e=>hne (r.inj i n hi hn e);have a:Ext Y Z.length H Y (Z.set n m).length (upd H (Y n) o):=⟨by simp,λ_ _=>rfl,λi h1 h2=>by simp at h2;omega,λq u e hq=>by rw[BN (λz=>hq n hn z.symm)];exact e,r.muts,λi hi=>by
  by_cases z:i=n
  ·subst z;exact⟨o,B2,h.mut⟩
  ·obtain⟨u,e,hu⟩:=r.muts i hi;exact⟨u,by rw[BN (ne i hi z)];exact e,hu⟩⟩
 refine⟨a,λi j hi hj=>r.inj i j (by simpa using hi) (by simpa using hj),λi o' e=>?_⟩;by_cases z:i=n
 ·subst z;rw[List.getElem?_set_self hn] at e;cases e;exact⟨o,B2,h.ext a⟩
 ·rw[AAm (Ne.symm z)] at e;have hi:i<Z.length:=(AAT.mp e).1;obtain⟨u,q,hq⟩:=r.obj i o' e;exact⟨u,by rw[BN (ne i hi z)];exact q,hq.ext a⟩
structure RelS(K:KW)(Y:Nat->Addr)(k:Nat)(H:Hp)(B:Sl)(O:St):Prop where
 len:O.length=B.length
 get:∀(i:Nat) (d:D),B[i]?=some (some d)->∃v,O[i]?=some (some v)/\Is K Y k H d v
theorem RelS.ext(a:Ext Y k H Y' k' H')(r:RelS K Y k H B O):RelS K Y' k' H' B O:=⟨r.len,λi d e=>by
 obtain⟨v,e1,h⟩:=r.get i d e;exact⟨v,e1,h.ext a⟩⟩
theorem RelS.set(r:RelS K Y k H B O)(i:Nat)(h:Is K Y k H d v):RelS K Y k H (B.set i (some d)) (O.set i (some v)):=⟨by simp[r.len],λj e q=>by
 by_cases z:i=j
 ·subst z;have hi:i<B.length:=by
   have:=(AAT.mp q).1;simpa using this
  rw[List.getElem?_set_self hi] at q;cases q;exact⟨v,List.getElem?_set_self (by rw[r.len];exact hi),h⟩
 ·rw[AAm z] at q;obtain⟨u,e1,hu⟩:=r.get j e q;exact⟨u,by rw[AAm z];exact e1,hu⟩⟩
end
end Mi
namespace Mi
open PySem L2
noncomputable abbrev Exn:=Str×Option Nat
inductive Fl where
 |next|brk|cont|rt (d:D)|xc (x:Exn)
abbrev Aft(K:KW)(Y:Nat->Addr)(Z:Mh)(H:Hp)(Z':Mh)(φ:(Nat->Addr)->Hp->Prop):Prop:=
 ∀Y' H',Ext Y Z.length H Y' Z'.length H'->RelH K Y' Z' H'->φ Y' H'
noncomputable def tE(K:KW)(m:Sl->M D):TE:=λO H Q=>∃Y Z B d Z',RelH K Y Z H/\RelS K Y Z.length H B O/\m B Z=some (d,Z') /\
 Aft K Y Z H Z' λY' H'=>∀v,Is K Y' Z'.length H' d v->Q v H'
noncomputable def tT(K:KW)(m:Sl->M Bool):TT:=λO H Q=>∃Y Z B b Z',RelH K Y Z H/\RelS K Y Z.length H B O/\m B Z=some (b,Z') /\
 Aft K Y Z H Z' λ_ H'=>Q b H'
noncomputable def tL(K:KW)(m:Sl->M (List D)):TA:=λO H Q=>∃Y Z B ds Z',RelH K Y Z H/\RelS K Y Z.length H B O/\m B Z=some (ds,Z') /\
 Aft K Y Z H Z' λY' H'=>∀vs,IsL K Y' Z'.length H' ds vs->Q vs H'
noncomputable def FlP(K:KW)(Dn:Xj)(Y':Nat->Addr)(k:Nat)(H':Hp)(B':Sl)(v5:St):Fl->Prop
 | .next=>Dn.nx v5 H'
 | .brk=>Dn.bk v5 H'
 | .cont=>Dn.ct v5 H'
 | .rt d=>∀v,Is K Y' k H' d v->Dn.rt v H'
 | .xc _=>False
noncomputable def tSt(K:KW)(m:Sl->M (Fl×Sl)):TS:=λDn O H=>∃Y Z B f B' Z',RelH K Y Z H/\RelS K Y Z.length H B O/\m B Z=some ((f,B'),Z') /\
 Aft K Y Z H Z' λY' H'=>∀v5,RelS K Y' Z'.length H' B' v5->FlP K Dn Y' Z'.length H' B' v5 f
structure RE(X:Cx)(e:Expr)(m:Sl->M D):Prop where
 pe:PE X e (tE X.kw m)
structure RT(X:Cx)(e:Expr)(m:Sl->M Bool):Prop where
 pe:PT X e (tT X.kw m)
structure RW(X:Cx)(e:Expr)(m:Sl->M Bool):Prop where
 pe:PW X e (tT X.kw m)
structure RA(X:Cx)(es:List Expr)(m:Sl->M (List D)):Prop where
 pe:PA X es (tL X.kw m)
structure RS(X:Cx)(st:Stmt)(m:Sl->M (Fl×Sl)):Prop where
 pe:PS X st (tSt X.kw m)
structure RSs(X:Cx)(st:List Stmt)(m:Sl->M (Fl×Sl)):Prop where
 pe:PSs X st (tSt X.kw m)
section
variable{X:Cx}{e a b c:Expr}{es:List Expr}{pos:Pos}
theorem PE.wk{t t':TE}(h:PE X e t)(w:∀O H Q,t' O H Q->t O H Q):PE X e t':=λw6 s O H Q I q=>h w6 s O H Q I (w O H Q q)
theorem RE.wk{m:Sl->M D}{t:TE}(h:PE X e t)(w:∀O H Q,tE X.kw m O H Q->t O H Q):RE X e m:=⟨PE.wk h w⟩
theorem PT.wk{t t':TT}(h:PT X e t)(w:∀O H Q,t' O H Q->t O H Q):PT X e t':=λw6 s O H Q I q=>h w6 s O H Q I (w O H Q q)
theorem RT.wk{m:Sl->M Bool}{t:TT}(h:PT X e t)(w:∀O H Q,tT X.kw m O H Q->t O H Q):RT X e m:=⟨PT.wk h w⟩
theorem PW.wk{t t':TT}(h:PW X e t)(w:∀O H Q,t' O H Q->t O H Q):PW X e t':=λwh w6 s O H Q I q=>h wh w6 s O H Q I (w O H Q q)
theorem RW.wk{m:Sl->M Bool}{t:TT}(h:PW X e t)(w:∀O H Q,tT X.kw m O H Q->t O H Q):RW X e m:=⟨PW.wk h w⟩
theorem PA.wk{t t':TA}(h:PA X es t)(w:∀O H Q,t' O H Q->t O H Q):PA X es t':=λp w6 s O H Q I q=>h p w6 s O H Q I (w O H Q q)
theorem RA.wk{m:Sl->M (List D)}{t:TA}(h:PA X es t)(w:∀O H Q,tL X.kw m O H Q->t O H Q):RA X es m:=⟨PA.wk h w⟩
theorem PS.wk{st:Stmt}{t t':TS}(h:PS X st t)(w:∀D O H,t' D O H->t D O H):PS X st t':=λw6 s O H D I q=>h w6 s O H D I (w D O H q)
theorem RS.wk{m:Sl->M (Fl×Sl)}{st:Stmt}{t:TS}(h:PS X st t)(w:∀D O H,tSt X.kw m D O H->t D O H):RS X st m:=⟨PS.wk h w⟩
theorem PSs.wk{st:List Stmt}{t t':TS}(h:PSs X st t)(w:∀D O H,t' D O H->t D O H):PSs X st t':=λw6 s O H D I q=>h w6 s O H D I (w D O H q)
theorem RSs.wk{m:Sl->M (Fl×Sl)}{st:List Stmt}{t:TS}(h:PSs X st t)(w:∀D O H,tSt X.kw m D O H->t D O H):RSs X st m:=⟨PSs.wk h w⟩
theorem OpR.wk{f:Value->Value->Sem Value}{r r':R2}(h:OpR X f r)(w:∀x y H Q,r' x y H Q->r x y H Q):OpR X f r':=λw6 s O H x y v u Q I rx ry q=>h w6 s O H x y v u Q I rx ry (w x y H Q q)
noncomputable def N9:Expr->Bool
 | .Starred _ _=>true
 |_=>false
theorem BG{e:Expr}{es:List Expr}{env:Env}(h:N9 e=false):starEach (e::es) env=(false,eval e env)::starEach es env:=by
 cases e<;>first|rfl|cases h
theorem Bb{pos:Pos}{env:Env}:∀{es:List Expr},(es.all λe=>!N9 e)=true->(backTo pos (starEach es env)).any (·.1)=false
 |[],_=>rfl
 |e::es,h=>by
  rw[List.all_cons,Bool.and_eq_true] at h;have h1:N9 e=false:=by simpa using h.1
  have ih:=Bb (pos:=pos) (env:=env) h.2;rw[BG h1];unfold backTo at ih ⊢;simpa using ih
noncomputable def AD(i:Nat):Sl->M D:=λB Z=>match B[i]? with
 |some (some d)=>some (d,Z)
 |_=>none
noncomputable def mC(d:D):Sl->M D:=λ_=>ret d
theorem AA(i:Nat){x:Str}(hN:X.N[i]?=some x:=by rfl)(hv:Vis X.env.scope x:=by first|exact Or.inl rfl|exact Or.inr (Or.inl rfl)|exact Or.inr (Or.inr rfl))(hd:(x==("__debug__" : Str))=false:=by decide)
  (hcd:(x==("__classdict__" : Str))=false:=by decide):RE X (.Name x pos) (AD i):=RE.wk (bb hN hv hd hcd) λO H Q h=>by
 obtain⟨Y,Z,B,d,Z',R,S,e,q⟩:=h;unfold AD at e;split at e
 ·rename_i d' ed;cases e;obtain⟨v,e1,h1⟩:=S.get i _ ed;exact⟨v,e1,q Y H R.ext0 R v h1⟩
 ·cases e
theorem Tj{t:TE}{d:D}{v:V}(h:PE X e (tC v))(hd:∀Y k H,Is X.kw Y k H d v):RE X e (mC d):=RE.wk h λO H Q h=>by
 obtain⟨Y,Z,B,d,Z',R,S,e,q⟩:=h;cases e;exact q Y H R.ext0 R v (hd _ _ _)
theorem AH{i j}:RE X (.Constant (.int i) j pos) (mC (.int i)):=Tj (t:=λ_ _ _=>True) bj λ_ _ _=>by unfold Is;rfl
theorem GL{i j}:RE X (.Constant (.bool i) j pos) (mC (.bl i)):=Tj (t:=λ_ _ _=>True) fA λ_ _ _=>by unfold Is;rfl
theorem B3{j}:RE X (.Constant .none j pos) (mC .non):=Tj (t:=λ_ _ _=>True) bi λ_ _ _=>by unfold Is;rfl
theorem AO{i j}:RE X (.Constant (.str i) j pos) (mC (.str i)):=Tj (t:=λ_ _ _=>True) WM λ_ _ _=>by unfold Is;rfl
theorem YY{x:Str}{v:V}{u:Value}{d:D}(hm:X.mg x=some u)(r:RelV v u)(hd:∀Y k H,Is X.kw Y k H d v)(hg:Gl X x:=by rfl)(hdb:(x==("__debug__" : Str))=false:=by decide):RE X (.Name x pos) (mC d):=
 Tj (t:=λ_ _ _=>True) (KK hg hm r hdb) hd
noncomputable def mOp(g:D->D->M D)(ma mb:Sl->M D):Sl->M D:=λB=>bnd (ma B) λx=>bnd (mb B) λy=>g x y
noncomputable def mUn(g:D->M D)(ma:Sl->M D):Sl->M D:=λB=>bnd (ma B) g
noncomputable def rM(K:KW)(g:D->D->M D):R2:=λx y H Q=>∃Y Z a b d Z',RelH K Y Z H/\Is K Y Z.length H a x/\Is K Y Z.length H b y/\g a b Z=some (d,Z') /\
 Aft K Y Z H Z' λY' H'=>∀v,Is K Y' Z'.length H' d v->Q v H'
noncomputable def rM1(K:KW)(g:D->M D):V->Hp->VK->Prop:=λx H Q=>∃Y Z a d Z',RelH K Y Z H/\Is K Y Z.length H a x/\g a Z=some (d,Z') /\
 Aft K Y Z H Z' λY' H'=>∀v,Is K Y' Z'.length H' d v->Q v H'
noncomputable def rMA(K:KW)(g:List D->M D):List V->Hp->VK->Prop:=λxs H Q=>∃Y Z as d Z',RelH K Y Z H/\IsL K Y Z.length H as xs/\g as Z=some (d,Z') /\
 Aft K Y Z H Z' λY' H'=>∀v,Is K Y' Z'.length H' d v->Q v H'
theorem Rr{K:KW}{g:D->D->M D}{ma mb:Sl->M D}{O:St}{H:Hp}{Q:VK}(h:tE K (mOp g ma mb) O H Q):tOp (rM K g) (tE K ma) (tE K mb) O H Q:=by
 obtain⟨Y,Z,B,d,Z',R,S,e,q⟩:=h;obtain⟨x,w9,e1,e⟩:=AJ e;obtain⟨y,x6,e2,e3⟩:=AJ e;refine⟨Y,Z,B,x,w9,R,S,e1,λx9 H1 E1 R1 v1 i1=>?_⟩;refine⟨x9,w9,B,y,x6,R1,S.ext E1,e2,λu9 H2 E2 R2 v2 i2=>?_⟩;exact⟨u9,x6,x,y,d,Z',R2,i1.ext E2,i2,e3,λv8 H3 E3 R3 v3 i3=>q v8 H3 ((E1.trans E2).trans E3) R3 v3 i3⟩
theorem dy{K:KW}{g:D->M D}{ma:Sl->M D}{O:St}{H:Hp}{Q:VK}(h:tE K (mUn g ma) O H Q):tUn (rM1 K g) (tE K ma) O H Q:=by
 obtain⟨Y,Z,B,d,Z',R,S,e,q⟩:=h;obtain⟨x,w9,e1,e⟩:=AJ e;refine⟨Y,Z,B,x,w9,R,S,e1,λx9 H1 E1 R1 v1 i1=>?_⟩;exact⟨x9,w9,x,d,Z',R1,i1,e,λv8 H3 E3 R3 v3 i3=>q v8 H3 (E1.trans E3) R3 v3 i3⟩
theorem Ay{op:Operator}{g:D->D->M D}{ma mb:Sl->M D}(ho:OpR X (binaryOp op) (rM X.kw g))(ha:RE X a ma)(hb:RE X b mb):RE X (.BinOp a op b pos) (mOp g ma mb):=RE.wk (ef ho ha.pe hb.pe) λ_ _ _ h=>Rr h
theorem O6{op:UnaryOp}{g:D->M D}{ma:Sl->M D}(ho:UnR X (unaryOp op) (rM1 X.kw g))(ha:RE X a ma):RE X (.UnaryOp op a pos) (mUn g ma):=RE.wk (eZ ho ha.pe) λ_ _ _ h=>dy h
theorem BB{op:CmpOp}{g:D->D->M D}{ma mb:Sl->M D}(ho:OpR X (compareOp op) (rM X.kw g))(ha:RE X a ma)(hb:RE X b mb)(hm:behindInMarks op b=false:=by first|exact Wi _|rfl):RE X (.Compare a [op] [b] pos) (mOp g ma mb):=
 RE.wk (Yw ho ha.pe hb.pe hm) λ_ _ _ h=>Rr h
theorem Ab{g:D->D->M D}{ma mb:Sl->M D}(ho:IxR X (rM X.kw g))(ha:RE X a ma)(hb:RE X b mb)(hs:TF b:=by exact λ_ _=>rfl):RE X (.Subscript a b pos) (mOp g ma mb):=RE.wk (et ho ha.pe hb.pe hs) λ_ _ _ h=>Rr h
noncomputable def asB:D->M Bool
 | .bl b=>ret b
 |_=>BM
noncomputable def AW(m:Sl->M D):Sl->M Bool:=λB=>bnd (m B) asB
theorem Nd{K:KW}{m:Sl->M D}{O:St}{H:Hp}{Q:Bool->Hp->Prop}(h:tT K (AW m) O H Q):tE K m O H λx H'=>∃k,x=.bl k/\Q k H':=by
 obtain⟨Y,Z,B,b,Z',R,S,e,q⟩:=h;obtain⟨x,w9,e1,e⟩:=AJ e;refine⟨Y,Z,B,x,w9,R,S,e1,λx9 H1 E1 R1 v1 i1=>?_⟩;cases x with
 |bl k=>
  cases e;unfold Is at i1;exact⟨b,i1,q x9 H1 E1 R1⟩
 |_=>cases e
theorem Ac{op:CmpOp}{g:D->D->M D}{ma mb:Sl->M D}(ho:OpR X (compareOp op) (rM X.kw g))(ha:RE X a ma)(hb:RE X b mb)(hm:behindInMarks op b=false:=by first|exact Wi _|rfl):RT X (.Compare a [op] [b] pos) (AW (mOp g ma mb)):=
 RT.wk (Yh ho ha.pe hb.pe hm) λO H Q h=>Rr (Q:=λx H'=>∃k,x=.bl k/\Q k H') (Nd h)
theorem EY{m:Sl->M D}(h:RE X e m)(he:∀whole,isTrue e X.env whole=(do let v ←whole;standAt e.pos;holding [v] (truthy v)):=by intro _;rfl):RT X e (AW m):=
 RT.wk (bP h.pe he) λ_ _ _ q=>Nd q
noncomputable def N5(ma mb:Sl->M Bool):Sl->M Bool:=λB=>bnd (ma B) λx=>if x=true then mb B else ret false
noncomputable def mOr(ma mb:Sl->M Bool):Sl->M Bool:=λB=>bnd (ma B) λx=>if x=true then ret true else mb B
noncomputable def HY(ma:Sl->M Bool):Sl->M Bool:=λB=>bnd (ma B) λx=>ret (!x)
theorem Gg{ma:Sl->M Bool}(ha:RT X a ma):RT X (.UnaryOp .Not a pos) (HY ma):=RT.wk (bQ ha.pe) λO H Q h=>by
 obtain⟨Y,Z,B,b,Z',R,S,e,q⟩:=h;obtain⟨x,w9,e1,e⟩:=AJ e;cases e;exact⟨Y,Z,B,x,_,R,S,e1,q⟩
theorem HN{ma:Sl->M Bool}(ha:RT X a ma):RW X (.BoolOp .And [a] pos) ma:=⟨Ye ha.pe⟩
theorem JN{ma:Sl->M Bool}(ha:RT X a ma):RW X (.BoolOp .Or [a] pos) ma:=⟨bN ha.pe⟩
theorem JO{rest:List Expr}{ma mb:Sl->M Bool}(ha:RT X a ma)(hb:RW X (.BoolOp .And (b::rest) pos) mb):RW X (.BoolOp .And (a::b::rest) pos) (N5 ma mb):=RW.wk (bO ha.pe hb.pe) λO H Q h=>by
 obtain⟨Y,Z,B,z,Z',R,S,e,q⟩:=h;obtain⟨x,w9,e1,e⟩:=AJ e;refine⟨Y,Z,B,x,w9,R,S,e1,λx9 H1 E1 R1=>?_⟩;cases x with
 |true=>exact⟨x9,w9,B,z,Z',R1,S.ext E1,e,λu9 H2 E2 R2=>q u9 H2 (E1.trans E2) R2⟩
 |false=>cases e;exact q x9 H1 E1 R1
theorem Ik{rest:List Expr}{ma mb:Sl->M Bool}(ha:RT X a ma)(hb:RW X (.BoolOp .Or (b::rest) pos) mb):RW X (.BoolOp .Or (a::b::rest) pos) (mOr ma mb):=RW.wk (eS ha.pe hb.pe) λO H Q h=>by
 obtain⟨Y,Z,B,z,Z',R,S,e,q⟩:=h;obtain⟨x,w9,e1,e⟩:=AJ e;refine⟨Y,Z,B,x,w9,R,S,e1,λx9 H1 E1 R1=>?_⟩;cases x with
 |true=>cases e;exact q x9 H1 E1 R1
 |false=>exact⟨x9,w9,B,z,Z',R1,S.ext E1,e,λu9 H2 E2 R2=>q u9 H2 (E1.trans E2) R2⟩
theorem RW.rt{m:Sl->M Bool}(h:RW X e m):RT X e m:=⟨h.pe.pt⟩
noncomputable def mIf(mc:Sl->M Bool)(ma mb:Sl->M D):Sl->M D:=λB=>bnd (mc B) λx=>if x=true then ma B else mb B
theorem LG{mc:Sl->M Bool}{ma mb:Sl->M D}(hc:RT X c mc)(ha:RE X a ma)(hb:RE X b mb):RE X (.IfExp c a b pos) (mIf mc ma mb):=RE.wk (WR hc.pe ha.pe hb.pe) λO H Q h=>by
 obtain⟨Y,Z,B,z,Z',R,S,e,q⟩:=h;obtain⟨x,w9,e1,e⟩:=AJ e;refine⟨Y,Z,B,x,w9,R,S,e1,λx9 H1 E1 R1=>?_⟩;cases x with
 |true=>exact⟨x9,w9,B,z,Z',R1,S.ext E1,e,λu9 H2 E2 R2=>q u9 H2 (E1.trans E2) R2⟩
 |false=>exact⟨x9,w9,B,z,Z',R1,S.ext E1,e,λu9 H2 E2 R2=>q u9 H2 (E1.trans E2) R2⟩
noncomputable def ES(ma mb:Sl->M D):Sl->M D:=λB=>bnd (ma B) λx=>bnd (asB x) λc=>if c=true then mb B else ret (.bl false)
noncomputable def MF(ma mb:Sl->M D):Sl->M D:=λB=>bnd (ma B) λx=>bnd (asB x) λc=>if c=true then ret (.bl true) else mb B
noncomputable def PU(ma:Sl->M D):Sl->M D:=λB=>bnd (ma B) λx=>bnd (asB x) λc=>ret (.bl (!c))
theorem JC{x:D}{Z w9:Mh}{c:Bool}(h:asB x Z=some (c,w9)):x=.bl c/\w9=Z:=by
 cases x with
 |bl k=>cases h;exact⟨rfl,rfl⟩
 |_=>cases h
theorem E6{op}{m:Sl->M D}(h:RE X a m):RE X (.BoolOp op [a] pos) m:=⟨be h.pe⟩
theorem EZ{rest:List Expr}{ma mb:Sl->M D}(ha:RE X a ma)(hb:RE X (.BoolOp .And (b::rest) pos) mb):RE X (.BoolOp .And (a::b::rest) pos) (ES ma mb):=RE.wk (bp ha.pe hb.pe) λO H Q h=>by
 obtain⟨Y,Z,B,z,Z',R,S,e,q⟩:=h;obtain⟨x,w9,e1,e⟩:=AJ e;obtain⟨c,x6,e2,e⟩:=AJ e;obtain⟨rfl,rfl⟩:=JC e2;refine⟨Y,Z,B,_,x6,R,S,e1,λx9 H1 E1 R1 v1 i1=>⟨c,by unfold Is at i1;exact i1,?_⟩⟩;cases c with
 |true=>exact⟨x9,x6,B,z,Z',R1,S.ext E1,e,λu9 H2 E2 R2=>q u9 H2 (E1.trans E2) R2⟩
 |false=>cases e;exact q x9 H1 E1 R1 _ (by unfold Is;rfl)
theorem Z3{rest:List Expr}{ma mb:Sl->M D}(ha:RE X a ma)(hb:RE X (.BoolOp .Or (b::rest) pos) mb):RE X (.BoolOp .Or (a::b::rest) pos) (MF ma mb):=RE.wk (ee ha.pe hb.pe) λO H Q h=>by
 obtain⟨Y,Z,B,z,Z',R,S,e,q⟩:=h;obtain⟨x,w9,e1,e⟩:=AJ e;obtain⟨c,x6,e2,e⟩:=AJ e;obtain⟨rfl,rfl⟩:=JC e2;refine⟨Y,Z,B,_,x6,R,S,e1,λx9 H1 E1 R1 v1 i1=>⟨c,by unfold Is at i1;exact i1,?_⟩⟩;cases c with
 |true=>cases e;exact q x9 H1 E1 R1 _ (by unfold Is;rfl)
 |false=>exact⟨x9,x6,B,z,Z',R1,S.ext E1,e,λu9 H2 E2 R2=>q u9 H2 (E1.trans E2) R2⟩
theorem bG{ma:Sl->M D}(ha:RE X a ma):RE X (.UnaryOp .Not a pos) (PU ma):=RE.wk (bh ha.pe) λO H Q h=>by
 obtain⟨Y,Z,B,z,Z',R,S,e,q⟩:=h;obtain⟨x,w9,e1,e⟩:=AJ e;obtain⟨c,x6,e2,e⟩:=AJ e;obtain⟨rfl,rfl⟩:=JC e2;cases e;exact⟨Y,Z,B,_,_,R,S,e1,λx9 H1 E1 R1 v1 i1=>⟨c,by unfold Is at i1;exact i1,q x9 H1 E1 R1 _ (by unfold Is;rfl)⟩⟩
noncomputable def FC(g g':D->D->M D)(ma mb mc:Sl->M D):Sl->M D:=λB=>bnd (ma B) λx=>bnd (mb B) λy=>bnd (g x y) λz=>bnd (asB z) λk=>if k=true then bnd (mc B) λw=>g' y w else ret (.bl false)
noncomputable def AI:Sl->M (List D):=λ_=>ret []
noncomputable def AC(m:Sl->M D)(r:Sl->M (List D)):Sl->M (List D):=λB=>bnd (m B) λx=>bnd (r B) λxs=>ret (x::xs)
theorem AE:RA X [] AI:=RA.wk Ql λO H Q h=>by
 obtain⟨Y,Z,B,z,Z',R,S,e,q⟩:=h;cases e;exact q Y H R.ext0 R [] .nil
theorem AB{m:Sl->M D}{r:Sl->M (List D)}(h:RE X e m)(hr:RA X es r)(hs:starEach (e::es) X.env=(false,eval e X.env)::starEach es X.env:=by exact BG rfl):RA X (e::es) (AC m r):=RA.wk (Nu h.pe hr.pe hs) λO H Q h=>by
 obtain⟨Y,Z,B,z,Z',R,S,e,q⟩:=h;obtain⟨x,w9,e1,e⟩:=AJ e;obtain⟨xs,x6,e2,e⟩:=AJ e;cases e;exact⟨Y,Z,B,x,w9,R,S,e1,λx9 H1 E1 R1 v1 i1=>⟨x9,w9,B,xs,_,R1,S.ext E1,e2,λu9 H2 E2 R2 vs i2=>q u9 H2 (E1.trans E2) R2 _ (.cons (i1.ext E2) i2)⟩⟩
noncomputable def lim(n:Nat):M Unit:=λZ=>if n<=sizeLine then some ((),Z) else none
theorem Cy{n:Nat}{Z w9:Mh}{u:Unit}(h:lim n Z=some (u,w9)):n<=sizeLine/\w9=Z:=by
 unfold lim at h;split at h
 ·rename_i hn;cases h;exact⟨hn,rfl⟩
 ·cases h
theorem Le{n:Nat}(h:n<=sizeLine)(Z:Mh):lim n Z=some ((),Z):=if_pos h
noncomputable def DL(ds:List D):M D:=bnd (lim ds.length) λ_=>ret (.tup ds)
noncomputable def A4(ds:List D):M D:=bnd (lim ds.length) λ_=>ret (.lst ds)
noncomputable def EQ(ds:List D):M D:=bnd (lim ds.length) λ_=>λZ=>some (.ref Z.length,Z++[.lst ds])
noncomputable def AF(f:List D->M D)(m:Sl->M (List D)):Sl->M D:=λB=>bnd (m B) f
theorem SX{K:KW}{Y:Nat->Addr}{Z Z':Mh}{H:Hp}{ds:List D}{vs:List V}{d:D}{Q:VK}(R:RelH K Y Z H)(i:IsL K Y Z.length H ds vs)(e:DL ds Z=some (d,Z'))(q:Aft K Y Z H Z' λY' H'=>∀v,Is K Y' Z'.length H' d v->Q v H'):
  vs.length<=sizeLine/\∀p,H p=none->Q (.ref p) (upd H p (.tup vs)):=by
 obtain⟨u,w9,e1,e2⟩:=AJ e;clear e;obtain⟨hl,e3⟩:=Cy e1;cases e2;cases e3;refine⟨by rw[i.length];exact hl,λp hp=>?_⟩;obtain⟨E1,R1⟩:=R.laid (.tup vs) hp;exact q Y _ E1 R1 _ (by unfold Is;exact⟨p,vs,rfl,SqT.of B2,i.ext E1⟩)
theorem Iq{K:KW}{Y:Nat->Addr}{Z Z':Mh}{H:Hp}{ds:List D}{vs:List V}{d:D}{Q:VK}(R:RelH K Y Z H)(i:IsL K Y Z.length H ds vs)(e:A4 ds Z=some (d,Z'))(q:Aft K Y Z H Z' λY' H'=>∀v,Is K Y' Z'.length H' d v->Q v H'):
  vs.length<=sizeLine/\∀p,H p=none->Q (.ref p) (upd H p (.lst vs)):=by
 obtain⟨u,w9,e1,e2⟩:=AJ e;clear e;obtain⟨hl,e3⟩:=Cy e1;cases e2;cases e3;refine⟨by rw[i.length];exact hl,λp hp=>?_⟩;obtain⟨E1,R1⟩:=R.laid (.lst vs) hp;have ho:∀n,n<Z.length->Y n≠p:=λn hn z=>by
  obtain⟨o,e,_⟩:=R.muts n hn;rw[z,hp] at e;cases e
 exact q Y _ E1 R1 _ (by unfold Is;exact⟨p,vs,rfl,B2,ho,i.ext E1⟩)
theorem N1{K:KW}{Y:Nat->Addr}{Z Z':Mh}{H:Hp}{ds:List D}{vs:List V}{d:D}{Q:VK}(R:RelH K Y Z H)(i:IsL K Y Z.length H ds vs)(e:EQ ds Z=some (d,Z'))(q:Aft K Y Z H Z' λY' H'=>∀v,Is K Y' Z'.length H' d v->Q v H'):
  vs.length<=sizeLine/\∀p,H p=none->Q (.ref p) (upd H p (.lst vs)):=by
 obtain⟨u,w9,e1,e2⟩:=AJ e;clear e;obtain⟨hl,e3⟩:=Cy e1;cases e2;cases e3;refine⟨by rw[i.length];exact hl,λp hp=>?_⟩;obtain⟨Y',E1,R1,e0⟩:=R.grown (m:=.lst ds) hp ⟨vs,rfl,i⟩;exact q Y' _ E1 R1 _ (by unfold Is;exact⟨by simp,by rw[e0]⟩)
theorem F2{K:KW}{f:List D->M D}{m:Sl->M (List D)}{O:St}{H:Hp}{Q:VK}{R:List V->Hp->Prop}(h:tE K (AF f m) O H Q)
  (hf:∀Y Z Z' H ds vs d,RelH K Y Z H->IsL K Y Z.length H ds vs->f ds Z=some (d,Z')->(Aft K Y Z H Z' λY' H'=>∀v,Is K Y' Z'.length H' d v->Q v H')->R vs H):tL K m O H R:=by
 obtain⟨Y,Z,B,z,Z',S1,S,e,q⟩:=h;obtain⟨ds,w9,e1,e⟩:=AJ e;exact⟨Y,Z,B,ds,w9,S1,S,e1,λx9 H1 E1 R1 vs iv=>hf x9 w9 Z' H1 ds vs z R1 iv e λu9 H2 E2 R2=>q u9 H2 (E1.trans E2) R2⟩
theorem Cn{x1}{m:Sl->M (List D)}(h:RA X es m):RE X (.Tuple es x1 pos) (AF DL m):=RE.wk (bc h.pe) λ_ _ _ q=>F2 q λ_ _ _ _ _ _ _ R i e q=>SX R i e q
theorem BD{m:Sl->M (List D)}(h:RA X es m):RE X (.List es pos) (AF A4 m):=RE.wk (WQ h.pe) λ_ _ _ q=>F2 q λ_ _ _ _ _ _ _ R i e q=>Iq R i e q
theorem CT{m:Sl->M (List D)}(h:RA X es m):RE X (.List es pos) (AF EQ m):=RE.wk (WQ h.pe) λ_ _ _ q=>F2 q λ_ _ _ _ _ _ _ R i e q=>N1 R i e q
theorem Ah{id:String}{x:Str}{g:List D->M D}{m:Sl->M (List D)}{p:Pos}(hc:CS X (.builtin id) (rMA X.kw g))(hm:X.mg x=none)(hv:bootBuiltins x=some (.builtin id))(ha:RA X (e::es) m)(hg:Gl X x:=by rfl)(hn:x ≠ "__name__" := by decide)(hdb:(x==("__debug__" : Str))=false:=by decide)
  (he:starEach (e::es) X.env=(false,eval e X.env)::starEach es X.env:=by exact BG rfl) (hpl:(backTo pos (starEach es X.env)).any (·.1)=false:=by exact Bb rfl):RE X (.Call (.Name x p) (e::es) [] pos) (AF g m):=
 RE.wk (PD hc hg hm hv ha.pe hn hdb he hpl) λ_ _ _ q=>F2 q λY Z Z' H ds vs d R i e q=>⟨Y,Z,ds,d,Z',R,i,e,q⟩
theorem Aq{T:String}{x:Str}{g:List D->M D}{m:Sl->M (List D)}{p:Pos}(hc:CS X (.type T) (rMA X.kw g))(hm:X.mg x=none)(hv:bootBuiltins x=some (.type T))(ha:RA X (e::es) m)(hg:Gl X x:=by rfl)(hn:x ≠ "__name__" := by decide)(hdb:(x==("__debug__" : Str))=false:=by decide)
  (he:starEach (e::es) X.env=(false,eval e X.env)::starEach es X.env:=by exact BG rfl) (hpl:(backTo pos (starEach es X.env)).any (·.1)=false:=by exact Bb rfl):RE X (.Call (.Name x p) (e::es) [] pos) (AF g m):=
 RE.wk (Mg hc hg hm hv ha.pe hn hdb he hpl) λ_ _ _ q=>F2 q λY Z Z' H ds vs d R i e q=>⟨Y,Z,ds,d,Z',R,i,e,q⟩
noncomputable def spM(K:KW)(n:Nat)(φ:List D->M D):Sp:=λvs H Q _=>vs.length=n/\rMA K φ vs H Q
theorem Ya{n k:Nat}{φ:List D->M D}{f:Addr}{fd:FuncData}{ps:List Str}{x:Str}{m:Sl->M (List D)}{p:Pos}(F:FnOk X.prog X.w X.kw X.mg X.base CX0 k f fd ps (spM X.kw n φ))(hr:Room k X.A)(hm:X.mg x=some (.ref f))(hk:PySem.W.keepIn X.kw (.ref f)=true)(hb:Binds X.kw fd ps [])
  (hφ:∀ds Z r,φ ds Z=some r->ds.length=n) (ha:RA X (e::es) m) (hg:Gl X x:=by rfl) (hdb:(x==("__debug__" : Str))=false:=by decide) (he:starEach (e::es) X.env=(false,eval e X.env)::starEach es X.env:=by exact BG rfl) (hpl:(backTo pos (starEach es X.env)).any (·.1)=false:=by exact Bb rfl) :
  RE X (.Call (.Name x p) (e::es) [] pos) (AF φ m):=
 RE.wk (Yx F hr hg hm hk hb .nil SU ha.pe hdb he hpl) λ_ _ _ q=>F2 q λY Z Z' H ds vs d R i e q=>by
  rw[AAY];exact⟨by rw[i.length];exact hφ ds Z _ e,Y,Z,ds,d,Z',R,i,e,q⟩
end
section
variable{X:Cx}{e a c tg iter:Expr}{es:List Expr}{pos:Pos}{st:Stmt}{rest body:List Stmt}
noncomputable def BC:Sl->M (Fl×Sl):=λB=>ret (.next,B)
noncomputable def AT(m1 m2:Sl->M (Fl×Sl)):Sl->M (Fl×Sl):=λB=>bnd (m1 B) λr=>match r.1 with
 | .next=>m2 r.2
 |f=>ret (f,r.2)
theorem Ad:RSs X [] BC:=RSs.wk Yj λDn O H h=>by
 obtain⟨Y,Z,B,f,B',Z',R,S,e,q⟩:=h;cases e;exact q Y H R.ext0 R O S
theorem AG(h1:RS X st m1)(h2:RSs X rest m2):RSs X (st::rest) (AT m1 m2):=RSs.wk (WE h1.pe h2.pe) λDn O H h=>by
 obtain⟨Y,Z,B,f,B',Z',R,S,e,q⟩:=h;obtain⟨⟨f1,v6⟩,w9,e1,e⟩:=AJ e;refine⟨Y,Z,B,f1,v6,w9,R,S,e1,λx9 H1 E1 R1 j8 S1=>?_⟩;cases f1 with
 |next=>exact⟨x9,w9,v6,f,B',Z',R1,S1,e,λu9 H2 E2 R2=>q u9 H2 (E1.trans E2) R2⟩
 |brk=>cases e;exact q x9 H1 E1 R1 j8 S1
 |cont=>cases e;exact q x9 H1 E1 R1 j8 S1
 |rt d=>cases e;exact q x9 H1 E1 R1 j8 S1
 |xc x=>cases e;exact q x9 H1 E1 R1 j8 S1
theorem AM(h:RS X st m):RSs X [st] m:=⟨Yi h.pe⟩
noncomputable def Ag(m:Sl->M D):Sl->M (Fl×Sl):=λB=>bnd (m B) λ_=>ret (.next,B)
theorem Aj(h:RE X e m)(hs:swapsWith e none pos.line X.env=pure false:=by rfl):RS X (.Expr e pos) (Ag m):=RS.wk (Yk h.pe hs) λDn O H h=>by
 obtain⟨Y,Z,B,f,B',Z',R,S,e,q⟩:=h;obtain⟨x,w9,e1,e⟩:=AJ e;cases e;exact⟨Y,Z,_,x,_,R,S,e1,λx9 H1 E1 R1 v i1=>q x9 H1 E1 R1 O (S.ext E1)⟩
noncomputable def A1(m:Sl->M D):Sl->M (Fl×Sl):=λB=>bnd (m B) λd=>ret (.rt d,B)
theorem AZ(h:RE X e m):RS X (.Return (some e) pos) (A1 m):=RS.wk (bS h.pe) λDn O H h=>by
 obtain⟨Y,Z,B,f,B',Z',R,S,e,q⟩:=h;obtain⟨x,w9,e1,e⟩:=AJ e;cases e;exact⟨Y,Z,_,x,_,R,S,e1,λx9 H1 E1 R1 v i1=>q x9 H1 E1 R1 O (S.ext E1) v i1⟩
noncomputable def sIf(mc:Sl->M Bool)(m1 m2:Sl->M (Fl×Sl)):Sl->M (Fl×Sl):=λB=>bnd (mc B) λx=>if x=true then m1 B else m2 B
theorem At(hc:RT X c mc)(h1:RSs X body m1)(h2:RSs X rest m2):RS X (.If c body rest pos) (sIf mc m1 m2):=RS.wk (eU hc.pe h1.pe h2.pe) λDn O H h=>by
 obtain⟨Y,Z,B,f,B',Z',R,S,e,q⟩:=h;obtain⟨x,w9,e1,e⟩:=AJ e;refine⟨Y,Z,B,x,w9,R,S,e1,λx9 H1 E1 R1=>?_⟩;cases x with
 |true=>exact⟨x9,w9,B,f,B',Z',R1,S.ext E1,e,λu9 H2 E2 R2=>q u9 H2 (E1.trans E2) R2⟩
 |false=>exact⟨x9,w9,B,f,B',Z',R1,S.ext E1,e,λu9 H2 E2 R2=>q u9 H2 (E1.trans E2) R2⟩
noncomputable def JM:Sl->M (Fl×Sl):=λ_=>BM
theorem Il:RS X st JM:=RS.wk WG λDn O H h=>by
 obtain⟨Y,Z,B,f,B',Z',R,S,e,q⟩:=h;cases e
noncomputable def tG(K:KW)(bf:D->Sl->M Sl):TG:=λv O H Q=>∃Y Z B d B' Z',RelH K Y Z H/\RelS K Y Z.length H B O/\Is K Y Z.length H d v/\bf d B Z=some (B',Z') /\
 Aft K Y Z H Z' λY' H'=>∀v5,RelS K Y' Z'.length H' B' v5->Q v5 H'
structure RG(X:Cx)(tg:Expr)(bf:D->Sl->M Sl):Prop where
 pe:PG X tg (tG X.kw bf)
theorem PG.wk(h:PG X tg t)(w:∀v O H Q,t' v O H Q->t v O H Q):PG X tg t':=λw6 s O H v u Q I r q=>h w6 s O H v u Q I r (w v O H Q q)
theorem RG.wk(h:PG X tg t)(w:∀v O H Q,tG X.kw bf v O H Q->t v O H Q):RG X tg bf:=⟨PG.wk h w⟩
noncomputable def AR(i:Nat):D->Sl->M Sl:=λd B=>ret (B.set i (some d))
theorem Ng(h:tG K (AR i) v O H Q):Jy i v O H Q:=by
 obtain⟨Y,Z,B,d,B',Z',R,S,i1,e,q⟩:=h;cases e;exact q Y H R.ext0 R _ (S.set i i1)
theorem Ce(i:Nat)(hN:X.N.Nodup)(hi:X.N[i]?=some x:=by rfl)(hx:Loc X.env.scope x:=by first|exact Or.inl rfl|exact Or.inr rfl)(hf:X.fn x=true∨X.env.scope.names.lookup x=some .local:=by first|exact .inl rfl|exact .inr rfl|assumption):RG X (.Name x pos) (AR i):=
 RG.wk (Ar hN hi hx hf) λ_ _ _ _ h=>Ng h
noncomputable def bNames:List Nat->List D->Sl->M Sl
 |[],[],B=>ret B
 |i::is,d::ds,B=>bnd (AR i d B) λv6=>bNames is ds v6
 |_,_,_=>BM
noncomputable def DE(is:List Nat):D->Sl->M Sl
 | .tup ds,B=>if ds.length=is.length then bNames is ds B else BM
 |_,_=>BM
noncomputable def G1:List Nat->TGs
 |[]=>fz
 |i::is=>aI (Jy i) (G1 is)
theorem JZ:∀{is:List Nat} {ds:List D} {vs:List V} {B B':Sl} {O:St} {Y:Nat->Addr} {Z Z':Mh} {H:Hp} {Q:St->Hp->Prop},RelH K Y Z H->RelS K Y Z.length H B O->IsL K Y Z.length H ds vs->bNames is ds B Z=some (B',Z')->
  (Z'=Z->∀v5,RelS K Y Z.length H B' v5->Q v5 H)->G1 is vs O H Q
 |[],[],_,_,_,_,_,_,_,_,_,R,S,i,e,q=>by
  cases e;unfold IsL at i;subst i;exact⟨rfl,q rfl _ S⟩
 |_::is,_::ds,_,B,B',O,Y,Z,Z',H,Q,R,S,i,e,q=>by
  unfold IsL at i;obtain⟨v,vs',rfl,i1,i2⟩:=i;exact⟨v,vs',rfl,JZ (is:=is) (ds:=ds) R (S.set _ i1) i2 e q⟩
 |[],_::_,_,_,_,_,_,_,_,_,_,_,_,_,e,_=>by cases e
 |_::_,[],_,_,_,_,_,_,_,_,_,_,_,_,e,_=>by cases e
theorem NO:∀{is:List Nat} {ds:List D} {B B':Sl} {Z Z':Mh},bNames is ds B Z=some (B',Z')->Z'=Z
 |[],[],_,_,_,_,e=>by cases e;rfl
 |_::is,_::ds,_,_,_,_,e=>NO (is:=is) (ds:=ds) e
 |[],_::_,_,_,_,_,e=>by cases e
 |_::_,[],_,_,_,_,e=>by cases e
theorem F4(hc:X.calm=true)(h:PGs X es (G1 is))(hn:(assignEach es X.env).length=is.length:=by rfl)(hst:(assignEach es X.env).findIdx? (·.1)=none:=by rfl):RG X (.Tuple es k pos) (DE is):=
 RG.wk (Qk hc h hn hst) λv O H Q h=>by
  obtain⟨Y,Z,B,d,B',Z',R,S,i1,e,q⟩:=h;cases d with
  |tup ds=>
   unfold Is at i1;obtain⟨p,vs,rfl,h1,h2⟩:=i1;have e':(if ds.length=is.length then bNames is ds B else BM) Z=some (B',Z'):=e;by_cases hl:ds.length=is.length
   ·rw[if_pos hl] at e';have e:=e';refine⟨p,vs,rfl,h1,by rw[h2.length,hl],JZ R S h2 e λz v5 S'=>?_⟩;subst z;exact q Y H R.ext0 R v5 S'
   ·rw[if_neg hl] at e';cases e'
  |_=>cases e
noncomputable def A2(m:Sl->M D)(bf:D->Sl->M Sl):Sl->M (Fl×Sl):=λB=>bnd (m B) λd=>bnd (bf d B) λB'=>ret (.next,B')
theorem Rp(hg:∀v H Q,tG K bf v O H Q->g v O H Q)(h:tSt K (A2 m bf) Dn O H):YG (tE K m) g Dn O H:=by
 obtain⟨Y,Z,B,f,B',Z',R,S,e,q⟩:=h;obtain⟨x,w9,e1,e⟩:=AJ e;obtain⟨v6,x6,e2,e⟩:=AJ e;cases e;exact⟨Y,Z,B,x,w9,R,S,e1,λx9 H1 E1 R1 v i1=>hg _ _ _ ⟨x9,w9,B,x,_,_,R1,S.ext E1,i1,e2,λu9 H2 E2 R2 v5 S'=>q u9 H2 (E1.trans E2) R2 v5 S'⟩⟩
theorem Ap(i:Nat)(hN:X.N.Nodup)(he:RE X e m)(hi:X.N[i]?=some x:=by rfl)(hx:Loc X.env.scope x:=by first|exact Or.inl rfl|exact Or.inr rfl)(hs:swapsWith e (some (.Name x pos')) pos.line X.env=pure false:=by rfl)(hf:X.fn x=true∨X.env.scope.names.lookup x=some .local:=by first|exact .inl rfl|exact .inr rfl|assumption):
  RS X (.Assign [.Name x pos'] e pos) (A2 m (AR i)):=RS.wk (bR hN hi hx he.pe hs hf) λ_ _ _ h=>Rp (λ_ _ _ q=>Ng q) h
theorem Nl(he:RE X e m)(hg:RG X tg bf)(hs:swapsWithSole [tg] e pos.line X.env=pure false:=by rfl)(hw:swappedStores [tg] e X.env=pure none:=by rfl)
  (h1:(assignEach [tg] X.env).map (·.2)=[assign tg X.env]:=by rfl):RS X (.Assign [tg] e pos) (A2 m bf):=RS.wk (bV he.pe hg.pe hs hw h1) λ_ _ _ h=>Rp (λ_ _ _ q=>q) h
noncomputable def HW(mc:Sl->M Bool)(mb:Sl->M (Fl×Sl)):Nat->Sl->M (Fl×Sl)
 |0,_=>BM
 |n+1,B=>bnd (mc B) λx=>if x=true then bnd (mb B) λr=>match r.1 with
   | .next=>HW mc mb n r.2
   | .cont=>HW mc mb n r.2
   | .brk=>ret (.next,r.2)
   | .rt d=>ret (.rt d,r.2)
   | .xc x=>ret (.xc x,r.2)
  else ret (.next,B)
noncomputable def Vg(n:Nat)(mc:Sl->M Bool)(mb:Sl->M (Fl×Sl)):Sl->M (Fl×Sl):=HW mc mb n
theorem Vj(n:Nat)(hp:PassesOwn (model X.prog X.w) X.A X.env X.xe)(hc:RT X c mc)(hb:RSs X body mb):RS X (.While c body [] pos) (Vg n mc mb):=RS.wk (WF hp hc.pe hb.pe) λDn O H h=>by
 refine⟨λn O H=>tSt X.kw (HW mc mb n) Dn O H,⟨n,h⟩,?_⟩;intro n O H h;obtain⟨Y,Z,B,f,B',Z',R,S,e,q⟩:=h;cases n with
 |zero=>cases e
 |succ n=>
  obtain⟨x,w9,e1,e⟩:=AJ e;refine⟨Y,Z,B,x,w9,R,S,e1,λx9 H1 E1 R1=>?_⟩;cases x with
  |false=>cases e;exact q x9 H1 E1 R1 O (S.ext E1)
  |true=>
   obtain⟨⟨f2,x8⟩,x6,e2,e⟩:=AJ e;refine⟨λv5 H'=>tSt X.kw (HW mc mb n) Dn v5 H',λv5 H' z=>⟨n,Nat.lt_succ_self n,z⟩,?_⟩;refine⟨x9,w9,B,f2,x8,x6,R1,S.ext E1,e2,λu9 H2 E2 R2 j3 S2=>?_⟩;have E12:=E1.trans E2;cases f2 with
   |next=>exact⟨u9,x6,x8,f,B',Z',R2,S2,e,λv8 H3 E3 R3=>q v8 H3 (E12.trans E3) R3⟩
   |cont=>exact⟨u9,x6,x8,f,B',Z',R2,S2,e,λv8 H3 E3 R3=>q v8 H3 (E12.trans E3) R3⟩
   |brk=>cases e;exact q u9 H2 E12 R2 j3 S2
   |rt d=>cases e;exact q u9 H2 E12 R2 j3 S2
   |xc x=>cases e;exact q u9 H2 E12 R2 j3 S2
def ItM(K:KW)(J:It)(ds:List D)(Y:Nat->Addr)(Z:Mh)(H:Hp):Prop:=∀Y' (Z':Mh) H',Ext Y Z.length H Y' Z'.length H'->RelH K Y' Z' H'->
 (∀i,i<ds.length->J.go i H')/\J.stop ds.length H'/\∀(i:Nat) x H2 d,ds[i]?=some d->J.yld i H' x H2->Ext Y' Z'.length H' Y' Z'.length H2/\RelH K Y' Z' H2/\Is K Y' Z'.length H2 d x
theorem ItM.ext(h:ItM K J ds Y Z H)(E:Ext Y Z.length H Y' Z'.length H'):ItM K J ds Y' Z' H':=λu9 x6 H2 E2 R2=>h u9 x6 H2 (E.trans E2) R2
noncomputable def tI(K:KW)(m:Sl->M (List D)):TI:=λO H R=>∃Y Z B ds Z',RelH K Y Z H/\RelS K Y Z.length H B O/\m B Z=some (ds,Z') /\
 Aft K Y Z H Z' λY' H'=>∀J,ItM K J ds Y' Z' H'->R J H'
structure RI(X:Cx)(tg iter:Expr)(m:Sl->M (List D)):Prop where
 pe:PI X tg iter (tI X.kw m)
theorem PI.wk(h:PI X tg iter t)(w:∀O H R,t' O H R->t O H R):PI X tg iter t':=λw6 s O H R I q=>h w6 s O H R I (w O H R q)
theorem RI.wk(h:PI X tg iter t)(w:∀O H R,tI X.kw m O H R->t O H R):RI X tg iter m:=⟨PI.wk h w⟩
theorem PI.or(h:PI X tg iter t)(h':PI X tg iter t'):PI X tg iter (λO H R=>t O H R∨t' O H R):=λw6 s O H R I q=>q.elim (h w6 s O H R I) (h' w6 s O H R I)
noncomputable def Ec:D->M (List D)
 | .lst ds=>ret ds
 | .tup ds=>ret ds
 | .scr ns=>ret (ns.map D.int)
 |_=>BM
noncomputable def C7(m:Sl->M D):Sl->M (List D):=λB=>bnd (m B) Ec
theorem PZ(st:∀Y' (Z':Mh) H',Ext Y Z.length H Y' Z'.length H'->RelH K Y' Z' H'->SqL K H' p vs)(i:IsL K Y Z.length H ds vs):ItM K (Itl K p) ds Y Z H:=by
 intro Y' Z' H' E R;have h:=st Y' Z' H' E R;have hl:=i.length;refine⟨λj hj=>⟨vs,vs[j],h,by simp⟩,⟨vs,h,by omega⟩,λj x H2 d hd y=>?_⟩;obtain⟨e,y⟩:=y;subst e;obtain⟨v,ev,iv⟩:=(i.ext E).get hd;have:=y vs h;rw[ev] at this;cases this;exact⟨R.ext0,R,iv⟩
theorem ZM{K:KW}{Y:Nat->Addr}{Z:Mh}(h:SqT K H p vs)(i:IsL K Y Z.length H ds vs):ItM K (Itt K p) ds Y Z H:=by
 intro Y' Z' H' E R;have h:=HM E h;have hl:=i.length;refine⟨λj hj=>⟨vs,vs[j],h,by simp⟩,⟨vs,h,by omega⟩,λj x H2 d hd y=>?_⟩;obtain⟨e,y⟩:=y;subst e;obtain⟨v,ev,iv⟩:=(i.ext E).get hd;have:=y vs h;rw[ev] at this;cases this;exact⟨R.ext0,R,iv⟩
theorem YT(q:tI K (C7 m) O H R):aG K (tE K m) O H R∨fo K (tE K m) O H R:=by
 obtain⟨Y,Z,B,ds,Z',R0,S,e,q⟩:=q;obtain⟨x,w9,e1,e⟩:=AJ e;cases x with
 |lst es=>
  cases e;refine .inl ⟨Y,Z,B,_,_,R0,S,e1,λx9 H1 E1 R1 v i1=>?_⟩;unfold Is at i1;obtain⟨p,vs,rfl,h1,hn,h2⟩:=i1;exact⟨p,rfl,⟨vs,SqL.of h1⟩,q x9 H1 E1 R1 _ (PZ (λY' Z' H' E _=>SqL.of (E.keep p _ h1 hn)) h2)⟩
 |tup es=>
  cases e;refine .inr ⟨Y,Z,B,_,_,R0,S,e1,λx9 H1 E1 R1 v i1=>?_⟩;unfold Is at i1;obtain⟨p,vs,rfl,h1,h2⟩:=i1;exact⟨p,rfl,⟨vs,h1⟩,q x9 H1 E1 R1 _ (ZM h1 h2)⟩
 |scr ns=>
  cases e;refine .inl ⟨Y,Z,B,_,_,R0,S,e1,λx9 H1 E1 R1 v i1=>?_⟩;unfold Is at i1;obtain⟨p,rfl,h1⟩:=i1;exact⟨p,rfl,⟨_,h1.sq⟩,q x9 H1 E1 R1 _ (PZ (λY' Z' H' E _=>(KH E h1).sq) (IsL.ofInts ns))⟩
 |non=>cases e
 |bl _=>cases e
 |int _=>cases e
 |str _=>cases e
 |ty _=>cases e
 |ref _=>cases e
theorem Bu(h:RE X e m):RI X tg e (C7 m):=RI.wk (PI.or (SS h.pe) (bY h.pe)) λ_ _ _ q=>YT q
noncomputable def O3(lo hi:Int):List D:=(List.range (hi-lo).toNat).map λ(j:Nat)=>D.int (lo+(j:Int))
noncomputable def Vo:List D->M (List D)
 |[.int j]=>λZ=>if -(2 ^ 62)<=j/\j<2 ^ 62 then some (O3 0 j,Z) else none
 |_=>BM
noncomputable def La(m:Sl->M (List D)):Sl->M (List D):=λB=>bnd (m B) Vo
theorem ZO:ItM K (Itr lo (hi-lo).toNat) (O3 lo hi) Y Z H:=by
 intro Y' Z' H' E R;have hl:(O3 lo hi).length=(hi-lo).toNat:=by simp[O3]
 rw[hl];refine⟨λj hj=>hj,AAE _,λj x H2 d hd y=>?_⟩;obtain⟨e,y⟩:=y;subst e;unfold O3 at hd;rw[AAV] at hd;cases q:(List.range (hi-lo).toNat)[j]? with
 |none=>rw[q] at hd;cases hd
 |some z=>
  rw[q] at hd;have hz:z=j:=by
   have:=(AAT.mp q).2;simpa using this.symm
  subst hz;cases hd;exact⟨R.ext0,R,by unfold Is;exact y⟩
theorem JQ(hm:X.mg "range" = none)(ha:RA X [a] m)(hg:Gl X "range" := by rfl)(hs:starEach [a] X.env=[(false,eval a X.env)]:=by rfl):RI X tg (.Call (.Name "range" p) [a] [] pos) (La m):=
 RI.wk (Tp hg hm ha.pe hs) λO H R q=>by
  obtain⟨Y,Z,B,ds,Z',R0,S,e,q⟩:=q;obtain⟨xs,w9,e1,e⟩:=AJ e;refine⟨Y,Z,B,xs,w9,R0,S,e1,λx9 H1 E1 R1 vs i1=>?_⟩;unfold Vo at e;split at e
  ·rename_i j;split at e
   ·rename_i hb;cases e;unfold IsL Is at i1;obtain⟨v,vs',rfl,rfl,i2⟩:=i1;unfold IsL at i2;subst i2;refine⟨j,rfl,hb.1,hb.2,q x9 H1 E1 R1 _ ?_⟩;have:=ZO (K:=X.kw) (Y:=x9) (Z:=Z') (H:=H1) (lo:=0) (hi:=j);rw[Int.sub_zero] at this;exact this
   ·cases e
  ·cases e
noncomputable def BR(bf:D->Sl->M Sl)(mb:Sl->M (Fl×Sl)):List D->Sl->M (Fl×Sl)
 |[],B=>ret (.next,B)
 |x::xs,B=>bnd (bf x B) λv6=>bnd (mb v6) λr=>match r.1 with
  | .next=>BR bf mb xs r.2
  | .cont=>BR bf mb xs r.2
  | .brk=>ret (.next,r.2)
  | .rt d=>ret (.rt d,r.2)
  | .xc x=>ret (.xc x,r.2)
noncomputable def D3(src:Sl->M (List D))(bf:D->Sl->M Sl)(mb:Sl->M (Fl×Sl)):Sl->M (Fl×Sl):=λB=>bnd (src B) λds=>BR bf mb ds B
theorem CC(hp:PassesOwn (model X.prog X.w) X.A X.env X.xe)(hc:X.calm=true)(hi:RI X tg iter src)(hg:RG X tg bf)(hb:RSs X body mb)
  (hs:∀x,foldedSetIterable iter X.env x=pure x:=by intro _;rfl):RS X (.For tg iter body [] pos) (D3 src bf mb):=RS.wk (bT hp hc hi.pe hg.pe hb.pe hs) λDn O H h=>by
 obtain⟨Y,Z,B,f,B',Z',R,S,e,q⟩:=h;obtain⟨ds,w9,e1,e⟩:=AJ e;refine⟨Y,Z,B,ds,w9,R,S,e1,λx9 H1 E1 R1 J it=>?_⟩
 let W:Nat->Nat->St->Hp->Prop:=λi m O H=>m=ds.length-i/\i<=ds.length/\∃Y Z B f B' Z',RelH X.kw Y Z H/\RelS X.kw Y Z.length H B O/\ItM X.kw J ds Y Z H/\BR bf mb (ds.drop i) B Z=some ((f,B'),Z') /\
  Aft X.kw Y Z H Z' λY' H'=>∀v5,RelS X.kw Y' Z'.length H' B' v5->FlP X.kw Dn Y' Z'.length H' B' v5 f
 refine⟨W,⟨ds.length,by simp,AAi _,x9,w9,B,f,B',Z',R1,S.ext E1,it,e,λu9 H2 E2 R2=>q u9 H2 (E1.trans E2) R2⟩,?_⟩;rintro i m O H ⟨hm,hil,Y,Z,B,f,B',Z',R,S,it,e,q⟩;obtain⟨go,stop,yl⟩:=it Y Z H R.ext0 R;by_cases hlt:i<ds.length
 ·refine .inr ⟨go i hlt,λv5 H'=>W (i+1) (ds.length-(i+1)) v5 H',λv5 H' z=>⟨_,by omega,z⟩,λx H2 y=>?_⟩;have hd:ds[i]?=some ds[i]:=by simp[hlt]
  obtain⟨E2,R2,ix⟩:=yl i x H2 _ hd y;rw[List.drop_eq_getElem_cons hlt] at e;obtain⟨v6,w9,e1,e⟩:=AJ e;obtain⟨⟨f2,x8⟩,x6,e2,e⟩:=AJ e;refine⟨Y,Z,B,_,v6,w9,R2,S.ext E2,ix,e1,λv8 H3 E3 R3 j7 S3=>?_⟩;refine⟨v8,w9,v6,f2,x8,x6,R3,S3,e2,λj4 H4 E4 R4 m5 S4=>?_⟩;have E14:=(E2.trans E3).trans E4;cases f2 with
  |next=>exact⟨rfl,hlt,j4,x6,x8,f,B',Z',R4,S4,it.ext E14,e,λk8 H5 E5 R5=>q k8 H5 (E14.trans E5) R5⟩
  |cont=>exact⟨rfl,hlt,j4,x6,x8,f,B',Z',R4,S4,it.ext E14,e,λk8 H5 E5 R5=>q k8 H5 (E14.trans E5) R5⟩
  |brk=>cases e;exact q j4 H4 E14 R4 m5 S4
  |rt d=>cases e;exact q j4 H4 E14 R4 m5 S4
  |xc x=>cases e;exact q j4 H4 E14 R4 m5 S4
 ·have hi':i=ds.length:=by omega
  subst hi';rw[List.drop_length] at e;cases e;exact .inl ⟨stop,q Y H R.ext0 R O S⟩
end
section
variable{tgs:List Str}{ix:List Nat}
noncomputable def WJ(ix:List Nat)(B:Sl):Sl:=ix.map λj=>(B[j]?).getD none
noncomputable def DG(n:Nat)(ix:List Nat)(B:Sl):Sl:=List.replicate n none++WJ ix B
noncomputable def Dp(bf:D->Sl->M Sl)(mc:Sl->M Bool)(me:Sl->M D)(j5:Sl):List D->List D->M (List D)
 |[],ys=>ret ys
 |x::xs,ys=>bnd (bf x j5) λv6=>bnd (mc v6) λc=>if c=true then bnd (me v6) λy=>Dp bf mc me j5 xs (ys++[y]) else Dp bf mc me j5 xs ys
noncomputable def BU(n:Nat)(ix:List Nat)(src:Sl->M (List D))(bf:D->Sl->M Sl)(mc:Sl->M Bool)(me:Sl->M D)(fin:List D->M D):Sl->M D:=λB=>bnd (src B) λds=>bnd (lim ds.length) λ_=>bnd (Dp bf mc me (DG n ix B) ds []) fin
noncomputable def Ba:Sl->M Bool:=λ_=>ret true
theorem RelS.block(S:RelS K Y k H B O):RelS K Y k H (DG tgs.length ix B) (Dz tgs ix O):=by
 refine⟨by simp[DG,Dz,WJ,Mf],λi d e=>?_⟩;unfold DG at e;have hk:tgs.length<=i:=by
  rcases Nat.lt_or_ge i tgs.length with z|z
  ·rw[AAS (by simpa using z),List.getElem?_replicate,if_pos z] at e;cases e
  ·exact z
 rw[AAR (by simpa using hk),AAl] at e;unfold WJ at e;rw[AAV] at e;cases q:ix[i-tgs.length]? with
 |none=>rw[q] at e;cases e
 |some j=>
  rw[q] at e;have e':(B[j]?).getD none=some d:=Option.some.inj e;cases q2:B[j]? with
  |none=>rw[q2] at e';cases e'
  |some o=>
   rw[q2] at e';have e'':o=some d:=e';subst e'';obtain⟨v,ev,iv⟩:=S.get j d q2;refine⟨v,?_,iv⟩;unfold Dz;rw[AAR (by simpa using hk),AAl];unfold Mf;rw[AAV,q,Option.map_some,ev];rfl
mutual
def Cl(k:Nat):D->Prop
 | .tup ds=>ClL k ds
 | .lst ds=>ClL k ds
 | .ref n=>n<k
 |_=>True
def ClL(k:Nat):List D->Prop
 |[]=>True
 |d::ds=>Cl k d/\ClL k ds
end
noncomputable def ClO(k:Nat):MO->Prop
 | .lst ds=>ClL k ds
 | .dK l=>ClL k (l.map (·.2))
 | .dC l=>ClL k (l.map (·.2))
 | .ins _ l=>ClL k (l.map (·.2))
 | .dP l=>ClL k (l.map (·.1))/\ClL k (l.map (·.2))
 | .exc _ _=>True
section
variable{K:KW}{Y:Nat->Addr}{k k':Nat}{H:Hp}
mutual
theorem Is.down(hk:k<=k'):∀{d:D} {v:V},Cl k d->Is K Y k' H d v->Is K Y k H d v
 | .non,_,_,h=>by unfold Is at h ⊢;exact h
 | .bl _,_,_,h=>by unfold Is at h ⊢;exact h
 | .int _,_,_,h=>by unfold Is at h ⊢;exact h
 | .str _,_,_,h=>by unfold Is at h ⊢;exact h
 | .ty _,_,_,h=>by unfold Is at h ⊢;exact h
 | .scr _,_,_,h=>by unfold Is at h ⊢;exact h
 | .tup ds,_,c,h=>by
  unfold Is at h ⊢;obtain⟨p,vs,e,h1,h2⟩:=h;exact⟨p,vs,e,h1,IsL.down hk (by unfold Cl at c;exact c) h2⟩
 | .lst ds,_,c,h=>by
  unfold Is at h ⊢;obtain⟨p,vs,e,h1,hn,h2⟩:=h;exact⟨p,vs,e,h1,λn z=>hn n (AAM z hk),IsL.down hk (by unfold Cl at c;exact c) h2⟩
 | .ref n,_,c,h=>by
  unfold Is at h ⊢;exact⟨by unfold Cl at c;exact c,h.2⟩
theorem IsL.down(hk:k<=k'):∀{ds:List D} {vs:List V},ClL k ds->IsL K Y k' H ds vs->IsL K Y k H ds vs
 |[],_,_,h=>by unfold IsL at h ⊢;exact h
 |_::_,_,c,h=>by
  unfold IsL at h ⊢;unfold ClL at c;obtain⟨v,vs',e,h1,h2⟩:=h;exact⟨v,vs',e,Is.down hk c.1 h1,IsL.down hk c.2 h2⟩
end
mutual
theorem Is.cl:∀{d:D} {v:V},Is K Y k H d v->Cl k d
 | .non,_,_=>by unfold Cl;trivial
 | .bl _,_,_=>by unfold Cl;trivial
 | .int _,_,_=>by unfold Cl;trivial
 | .str _,_,_=>by unfold Cl;trivial
 | .ty _,_,_=>by unfold Cl;trivial
 | .scr _,_,_=>by unfold Cl;trivial
 | .tup ds,_,h=>by
  unfold Is at h;unfold Cl;obtain⟨p,vs,e,h1,h2⟩:=h;exact IsL.cl h2
 | .lst ds,_,h=>by
  unfold Is at h;unfold Cl;obtain⟨p,vs,e,h1,hn,h2⟩:=h;exact IsL.cl h2
 | .ref n,_,h=>by
  unfold Is at h;unfold Cl;exact h.1
theorem IsL.cl:∀{ds:List D} {vs:List V},IsL K Y k H ds vs->ClL k ds
 |[],_,_=>by unfold ClL;trivial
 |_::_,_,h=>by
  unfold IsL at h;unfold ClL;obtain⟨v,vs',e,h1,h2⟩:=h;exact⟨Is.cl h1,IsL.cl h2⟩
end
theorem KVs.cl:∀{l:List (Key×D)} {r:List (Key×V)},KVs K Y k H l r->ClL k (l.map (·.2))
 |[],_,_=>by unfold List.map ClL;trivial
 |(_,_)::_,_,h=>by
  obtain⟨v,r',e,h1,h2⟩:=h;rw[AAW];unfold ClL;exact⟨h1.cl,KVs.cl h2⟩
theorem KVs.down(hk:k<=k'):∀{l:List (Key×D)} {r:List (Key×V)},ClL k (l.map (·.2))->KVs K Y k' H l r->KVs K Y k H l r
 |[],_,_,h=>h
 |(_,_)::_,_,c,h=>by
  rw[AAW] at c;unfold ClL at c;obtain⟨v,r',e,h1,h2⟩:=h;exact⟨v,r',e,h1.down hk c.1,KVs.down hk c.2 h2⟩
theorem TB:∀l:List Int,ClL k (l.map D.int)
 |[]=>by unfold List.map ClL;trivial
 |_::l=>by unfold List.map ClL;exact⟨by unfold Cl;trivial,TB l⟩
theorem gI(c:Nk.Cs):Cl k (csD c):=by
 unfold csD Cl ClL;refine⟨by unfold Cl;trivial,?_⟩;unfold ClL;refine⟨by unfold Cl;trivial,?_⟩;unfold ClL;exact⟨by unfold Cl;exact TB _,by unfold ClL;trivial⟩
theorem CVs.cl:∀{l:List (Nk.Cs×D)} {r:List (Nk.Cs×Addr×V)},CVs K Y k H l r->ClL k (l.map (·.2))
 |[],_,_=>by unfold List.map ClL;trivial
 |(_,_)::_,_,h=>by
  obtain⟨a,v,r',rfl,_,h1,h2⟩:=h;rw[AAW];unfold ClL;exact⟨h1.cl,CVs.cl h2⟩
theorem CVs.down(hk:k<=k'):∀{l:List (Nk.Cs×D)} {r:List (Nk.Cs×Addr×V)},ClL k (l.map (·.2))->CVs K Y k' H l r->CVs K Y k H l r
 |[],_,_,h=>h
 |(_,_)::_,_,c,h=>by
  rw[AAW] at c;unfold ClL at c;obtain⟨a,v,r',e,h0,h1,h2⟩:=h;exact⟨a,v,r',e,h0.down hk (gI _),h1.down hk c.1,CVs.down hk c.2 h2⟩
theorem FVs.cl:∀{l:List (Str×D)} {r:List (Str×V)},FVs K Y k H l r->ClL k (l.map (·.2))
 |[],_,_=>by unfold List.map ClL;trivial
 |(_,_)::_,_,h=>by
  obtain⟨v,r',rfl,h1,h2⟩:=h;rw[AAW];unfold ClL;exact⟨h1.cl,FVs.cl h2⟩
theorem FVs.down(hk:k<=k'):∀{l:List (Str×D)} {r:List (Str×V)},ClL k (l.map (·.2))->FVs K Y k' H l r->FVs K Y k H l r
 |[],_,_,h=>h
 |(_,_)::_,_,c,h=>by
  rw[AAW] at c;unfold ClL at c;obtain⟨v,r',e,h1,h2⟩:=h;exact⟨v,r',e,h1.down hk c.1,FVs.down hk c.2 h2⟩
theorem PVs.cl:∀{l:List (D×D)} {r:List (D×Addr×V)},PVs K Y k H l r->ClL k (l.map (·.1))/\ClL k (l.map (·.2))
 |[],_,_=>by unfold List.map ClL;exact⟨trivial,trivial⟩
 |(_,_)::_,_,h=>by
  obtain⟨a,v,r',_,h1,h2,h3⟩:=h;rw[AAW,AAW];unfold ClL;exact⟨⟨h1.2.2.cl,(PVs.cl h3).1⟩,h2.cl,(PVs.cl h3).2⟩
theorem PVs.down(hk:k<=k'):∀{l:List (D×D)} {r:List (D×Addr×V)},ClL k (l.map (·.1))->ClL k (l.map (·.2))->PVs K Y k' H l r->PVs K Y k H l r
 |[],_,_,_,h=>h
 |(_,_)::_,_,b,c,h=>by
  rw[AAW] at b c;unfold ClL at b c;obtain⟨a,v,r',e,h1,h2,h3⟩:=h;exact⟨a,v,r',e,⟨h1.1,h1.2.1,h1.2.2.down hk b.1⟩,h2.down hk c.1,PVs.down hk b.2 c.2 h3⟩
theorem ObjIs.cl(h:ObjIs K Y k H p o u):ClO k o:=by
 cases o with
 |lst ds=>obtain⟨vs,_,h⟩:=h;exact h.cl
 |dK l=>obtain⟨r,_,h⟩:=h;exact h.cl
 |dC l=>obtain⟨r,_,h⟩:=h;exact h.cl
 |ins c l=>obtain⟨C,dx,r,_,_,_,h⟩:=h;exact h.cl
 |dP l=>obtain⟨r,_,h⟩:=h;exact h.cl
 |exc c n=>exact trivial
theorem ObjIs.down(hk:k<=k')(c:ClO k o)(h:ObjIs K Y k' H p o u):ObjIs K Y k H p o u:=by
 cases o with
 |lst ds=>obtain⟨vs,e,h⟩:=h;exact⟨vs,e,h.down hk c⟩
 |dK l=>obtain⟨r,e,h⟩:=h;exact⟨r,e,h.down hk c⟩
 |dC l=>obtain⟨r,e,h⟩:=h;exact⟨r,e,h.down hk c⟩
 |ins n l=>obtain⟨C,dx,r,e,h0,h1,h⟩:=h;exact⟨C,dx,r,e,h0,h1,h.down hk c⟩
 |dP l=>obtain⟨r,e,h⟩:=h;exact⟨r,e,h.down hk c.1 c.2⟩
 |exc c n=>exact h
end
def iE(x6 Z':Mh)(d' d:D):Prop:=(d'=d/\Cl Z'.length d)∨∃n ds,d'=.ref n/\x6[n]?=some (.lst ds)/\Z'.length<=n/\d=.lst ds/\ClL Z'.length ds
structure FZ(Z x6 Z':Mh)(d' d:D):Prop where
 grow:∃g,x6=Z'++g
 le:Z.length<=Z'.length
 old:∀(n:Nat) (o:MO),Z'[n]?=some o->Z[n]?=some o∨ClO Z'.length o
 conv:iE x6 Z' d' d
noncomputable def FL:Fl->D
 | .rt d=>d
 |_=>.non
theorem Kv(R:RelH K Y Z H)(E:Ext Y Z.length H u9 x6.length H2)(R2:RelH K u9 x6 H2)(t:FZ Z x6 Z' d' d):
  Ext Y Z.length H u9 Z'.length H2/\RelH K u9 Z' H2/\∀v,Is K u9 x6.length H2 d' v->Is K u9 Z'.length H2 d v:=by
 obtain⟨⟨g,hg⟩,le,old,conv⟩:=t;have hle:Z'.length<=x6.length:=by rw[hg];simp
 have hget:∀(n:Nat) (o:MO),Z'[n]?=some o->x6[n]?=some o:=λn o e=>by
  rw[hg,AAS (AAT.mp e).1];exact e
 refine⟨⟨le,E.agree,λn h1 h2=>E.fresh n h1 (AAM h2 hle),E.keep,E.was,E.there⟩,⟨λi j hi hj=>R2.inj i j (AAM hi hle) (AAM hj hle),λn o e=>?_⟩,λv iv=>?_⟩
 ·obtain⟨u,q,hq⟩:=R2.obj n o (hget n o e);refine⟨u,q,hq.down hle ?_⟩;rcases old n o e with z|z
  ·obtain⟨u0,_,h0⟩:=R.obj n o z;have c:=h0.cl;cases o with
   |lst ds=>exact clL_mono le c
   |dK l=>exact clL_mono le c
   |dC l=>exact clL_mono le c
   |ins n l=>exact clL_mono le c
   |dP l=>exact⟨clL_mono le c.1,clL_mono le c.2⟩
   |exc c n=>exact trivial
  ·exact z
 ·rcases conv with ⟨rfl,c⟩|⟨n,ds,rfl,hn,hle2,rfl,c⟩
  ·exact iv.down hle c
  ·obtain⟨u,q,vs,rfl,il⟩:=R2.obj n _ hn;have hn2:n<x6.length:=(AAT.mp hn).1;unfold Is at iv ⊢;refine⟨u9 n,vs,iv.2,q,λm hm z=>?_,il.down hle c⟩;have:=R2.inj m n (AAM hm hle) hn2 z;omega
where
 cl_mono {k k':Nat} (h:k<=k'):∀{d:D},Cl k d->Cl k' d
  | .non,_=>by unfold Cl;trivial
  | .bl _,_=>by unfold Cl;trivial
  | .int _,_=>by unfold Cl;trivial
  | .str _,_=>by unfold Cl;trivial
  | .ty _,_=>by unfold Cl;trivial
  | .scr _,_=>by unfold Cl;trivial
  | .tup ds,c=>by unfold Cl at c ⊢;exact clL_mono h c
  | .lst ds,c=>by unfold Cl at c ⊢;exact clL_mono h c
  | .ref n,c=>by unfold Cl at c ⊢;exact AAM c h
 clL_mono {k k':Nat} (h:k<=k'):∀{ds:List D},ClL k ds->ClL k' ds
  |[],_=>by unfold ClL;trivial
  |_::_,c=>by unfold ClL at c ⊢;exact⟨cl_mono h c.1,clL_mono h c.2⟩
noncomputable def BI(n:Nat)(ds:List D):Sl:=ds.map some++List.replicate (n-ds.length) none
theorem RelS.start(i:IsL K Y k H ds vs):RelS K Y k H (BI N.length ds) (L2.start N vs):=by
 have hl:=i.length;refine⟨by simp[BI,L2.start,hl],λj d e=>?_⟩;unfold BI at e;unfold L2.start;rcases Nat.lt_or_ge j ds.length with z|z
 ·rw[AAS (by simpa using z),AAV] at e;rw[AAS (by simpa[hl] using z),AAV];cases q:ds[j]? with
  |none=>rw[q] at e;cases e
  |some d0=>
   rw[q] at e;cases e;obtain⟨v,ev,iv⟩:=i.get q;exact⟨v,by rw[ev];rfl,iv⟩
 ·rw[AAR (by simpa using z),List.getElem?_replicate] at e;split at e<;>cases e
theorem M6(F:Fun K x qual st f fd)(S:Ak N ps (AQ st))(hn:ps.length=n:=by rfl)
  (body:∀(cdv:Value) (A:Around) (outer:List Env) (s:Shared) (H:Hp) (E:XK),Room k (A.deeper (PyProof.Rows.envOfC qual (AQ st) s.heap.objs.size f cdv))->RSs (IM CX0 P w K mg base N qual (AQ st) f cdv A outer s H E).nox (CL st) mb)
  (run:∀ds Z d Z',φ ds Z=some (d,Z')->∃fl x8 x6,mb (BI N.length ds) Z=some ((fl,x8),x6)/\(fl=.next∨∃d,fl=.rt d)/\FZ Z x6 Z' (FL fl) d):FnOk P w K mg base CX0 (k+1) f fd ps (spM ⟨K,w⟩ n φ):=by
 refine F.ok S (λvs H Q E h=>by rw[hn];exact h.1) (λcdv A outer s H vs Q E hr h=>⟨_,(body cdv A outer s H E hr).pe,?_⟩);obtain⟨hl,Y,Z,ds,d,Z',R,i,e,q⟩:=h;obtain⟨fl,x8,x6,e2,hfl,t⟩:=run ds Z d Z' e;refine⟨Y,Z,_,fl,x8,x6,R,RelS.start i,e2,λu9 H2 E2 R2 j3 S2=>?_⟩;obtain⟨E3,R3,c⟩:=Kv R E2 R2 t;rcases hfl with rfl|⟨d0,rfl⟩
 ·exact q u9 H2 E3 R3 _ (c _ (by unfold FL Is;rfl))
 ·exact λv iv=>q u9 H2 E3 R3 v (c v iv)
end
noncomputable def Co:D->M (List D)
 | .lst ds=>ret ds
 | .scr ns=>ret (ns.map D.int)
 | .ref n=>λZ=>match Z[n]? with
  |some (.lst ds)=>some (ds,Z)
  |_=>none
 |_=>BM
section
variable{K:KW}{Y:Nat->Addr}{Z Z':Mh}{H:Hp}{d:D}{v:V}{ds:List D}
theorem DV(R:RelH K Y Z H)(i:Is K Y Z.length H d v)(e:Co d Z=some (ds,Z')):Z'=Z/\∃p vs,v=.ref p/\SqL K H p vs/\IsL K Y Z.length H ds vs:=by
 cases d with
 |lst es=>
  cases e;unfold Is at i;obtain⟨p,vs,rfl,h1,hn,h2⟩:=i;exact⟨rfl,p,vs,rfl,SqL.of h1,h2⟩
 |scr ns=>
  cases e;unfold Is at i;obtain⟨p,rfl,h1⟩:=i;exact⟨rfl,p,_,rfl,h1.sq,IsL.ofInts ns⟩
 |ref n=>
  unfold Is at i;obtain⟨hn,rfl⟩:=i;have e':(match Z[n]? with|some (.lst ds)=>some (ds,Z)|_=>none)=some (ds,Z'):=e;split at e'
  ·rename_i es hq;cases e';obtain⟨u,h1,vs,rfl,h2⟩:=R.obj n _ hq;exact⟨rfl,_,vs,rfl,SqL.of h1,h2⟩
  ·cases e'
 |_=>cases e
theorem CP(h:Is K Y Z.length H (.int i) v):v=.int i:=by unfold Is at h;exact h
theorem CD(h:Is K Y Z.length H (.str i) v):v=.str i:=by unfold Is at h;exact h
theorem W1(h:Is K Y Z.length H (.bl i) v):v=.bl i:=by unfold Is at h;exact h
theorem Qv(h:Is K Y Z.length H .non v):v=.non:=by unfold Is at h;exact h
theorem fk(h:Is K Y Z.length H (.ty n) v):v=.ty n:=by unfold Is at h;exact h
theorem ofI(i:Int):Is K Y k H (.int i) (.int i):=by unfold Is;rfl
theorem ofS(i:Str):Is K Y k H (.str i) (.str i):=by unfold Is;rfl
theorem ofB(i:Bool):Is K Y k H (.bl i) (.bl i):=by unfold Is;rfl
theorem ofN:Is K Y k H .non .non:=by unfold Is;rfl
theorem ET(h:IsL K Y k H [d] vs):∃v,vs=[v]/\Is K Y k H d v:=by
 unfold IsL at h;obtain⟨v,vs',rfl,h1,h2⟩:=h;unfold IsL at h2;subst h2;exact⟨v,rfl,h1⟩
theorem OA(h:IsL K Y k H [d,d'] vs):∃v v',vs=[v,v']/\Is K Y k H d v/\Is K Y k H d' v':=by
 unfold IsL at h;obtain⟨v,vs',rfl,h1,h2⟩:=h;obtain⟨v',rfl,h3⟩:=ET h2;exact⟨v,v',rfl,h1,h3⟩
theorem dW(h:IsL K Y k H ds vs)(e:atI ds i=some d):∃v,atI vs i=some v/\Is K Y k H d v:=by
 unfold atI at e ⊢;rw[h.length];cases q:ixN ds.length i with
 |none=>rw[q] at e;cases e
 |some j=>
  rw[q] at e;exact h.get e
theorem XR(h:IsL K Y k H ds vs):IsL K Y k H ((ds.drop (HT.sIx ds.length 0 lo)).take (HT.sIx ds.length ds.length hi-HT.sIx ds.length 0 lo)) (Po vs lo hi):=by
 unfold Po;rw[h.length];exact(h.drop _).take _
end
noncomputable def OC(C:Int->Int->Prop)[∀i j,Decidable (C i j)](g:Int->Int->D):D->D->M D
 | .int i,.int j=>λZ=>if C i j then some (g i j,Z) else none
 |_,_=>BM
noncomputable def FT:D->D->M D:=OC (λ_ _=>True) λi j=>.int (i-j)
noncomputable def JR:D->D->M D:=OC (λ_ j=>0<j/\j<1073741824) λi j=>.int (i / j)
noncomputable def Jr:D->D->M D:=OC (λ_ j=>0<j) λi j=>.int (i % j)
noncomputable def V7:D->D->M D:=OC (λi j=>0<=j/\j<=1000000/\i.natAbs<2 ^ 64) λi j=>.int (i ^ j.toNat)
noncomputable def GR:D->D->M D:=OC (λ_ _=>True) λi j=>.bl (decide (i<j))
noncomputable def LL:D->D->M D:=OC (λ_ _=>True) λi j=>.bl (decide (i<=j))
noncomputable def Hz:D->D->M D:=OC (λ_ _=>True) λi j=>.bl (decide (j<i))
noncomputable def V8:D->D->M D:=OC (λ_ _=>True) λi j=>.bl (decide (j<=i))
section
variable{X:Cx}
theorem Gi[∀i j,Decidable (C i j)](hg:∀i j Y k H,Is X.kw Y k H (g i j) (gv i j))(ho:OpR X f (rI C gv)):OpR X f (rM X.kw (OC C g)):=OpR.wk ho λx y H Q h=>by
 obtain⟨Y,Z,a,b,d,Z',R,ia,ib,e,q⟩:=h;cases a with
 |int i=>
  cases b with
  |int j=>
   have e':(if C i j then some (g i j,Z) else none)=some (d,Z'):=e;split at e'
   ·rename_i hc;cases e';exact⟨i,j,CP ia,CP ib,hc,q Y H R.ext0 R _ (hg i j _ _ _)⟩
   ·cases e'
  |_=>cases e
 |_=>cases e
theorem OpR.ofI0(ho:OpR X f (rI0 gv)):OpR X f (rI (λ_ _=>True) gv):=OpR.wk ho λx y H Q h=>by
 obtain⟨i,j,h1,h2,_,q⟩:=h;exact⟨i,j,h1,h2,q⟩
theorem Ip:OpR X (binaryOp .Sub) (rM X.kw FT):=Gi (λ_ _ _ _ _=>ofI _) (OpR.ofI0 cA)
theorem Nx:OpR X (binaryOp .FloorDiv) (rM X.kw JR):=Gi (λ_ _ _ _ _=>ofI _) Y1
theorem Mn:OpR X (binaryOp .Mod) (rM X.kw Jr):=Gi (λ_ _ _ _ _=>ofI _) cF
theorem fN:OpR X (binaryOp .Pow) (rM X.kw V7):=Gi (λ_ _ _ _ _=>ofI _) cC
theorem ME:OpR X (compareOp .Lt) (rM X.kw GR):=Gi (λ_ _ _ _ _=>ofB _) (OpR.ofI0 fG)
theorem PH:OpR X (compareOp .LtE) (rM X.kw LL):=Gi (λ_ _ _ _ _=>ofB _) (OpR.ofI0 fH)
theorem Tv:OpR X (compareOp .Gt) (rM X.kw Hz):=Gi (λ_ _ _ _ _=>ofB _) (OpR.ofI0 fI)
theorem fO:OpR X (compareOp .GtE) (rM X.kw V8):=Gi (λ_ _ _ _ _=>ofB _) (OpR.ofI0 fJ)
noncomputable def LK:D->M D
 | .int i=>ret (.int (-i))
 |_=>BM
theorem PF:UnR X (unaryOp .USub) (rM1 X.kw LK):=λw6 s O H x v Q I r h=>by
 obtain⟨Y,Z,a,d,Z',R,ia,e,q⟩:=h;cases a with
 |int i=>
  cases e;have z:=CP ia;subst z;exact af w6 s O H _ v Q I r ⟨i,rfl,q Y H R.ext0 R _ (ofI _)⟩
 |_=>cases e
noncomputable def GN:D->D->M D
 | .int i,.int j=>ret (.int (i+j))
 | .str i,.str j=>bnd (lim (i.length+j.length)) λ_=>ret (.str (i++j))
 | .lst a,.lst b=>A4 (a++b)
 | .tup [],.tup b=>BM
 | .tup (a::as),.tup b=>DL (a::as++b)
 |_,_=>BM
theorem Js:OpR X (binaryOp .Add) (rM X.kw GN):=λw6 s O H x y v u Q I rx ry h=>by
 obtain⟨Y,Z,a,b,d,Z',R,ia,ib,e,q⟩:=h;unfold GN at e;split at e
 ·cases e;cases CP ia;cases CP ib;exact cI w6 s O H _ _ v u Q I rx ry ⟨_,_,rfl,rfl,q Y H R.ext0 R _ (ofI _)⟩
 ·obtain⟨_,w9,e1,e2⟩:=AJ e;obtain⟨hl,rfl⟩:=Cy e1;cases e2;cases CD ia;cases CD ib;exact Qn w6 s O H _ _ v u Q I rx ry ⟨_,_,rfl,rfl,hl,q Y H R.ext0 R _ (ofS _)⟩
 ·unfold Is at ia ib;obtain⟨p,vs,rfl,h1,hn,h2⟩:=ia;obtain⟨p',vs',rfl,h1',hn',h2'⟩:=ib;obtain⟨hl,w⟩:=Iq R (h2.append h2') e q;exact Qm w6 s O H _ _ v u Q I rx ry ⟨p,p',vs,vs',rfl,rfl,h1,h1',by rw[←AAG];exact hl,w⟩
 ·cases e
 ·rename_i a as bs;unfold Is at ia ib;obtain⟨p,vs,rfl,h1,h2⟩:=ia;obtain⟨p',vs',rfl,h1',h2'⟩:=ib;obtain⟨hl,w⟩:=SX R (h2.append h2') e q;refine Y2 w6 s O H _ _ v u Q I rx ry ⟨p,p',vs,vs',rfl,rfl,h1,h1',λz=>?_,by rw[←AAG];exact hl,λz=>?_,λ_=>w⟩
  ·have:=h2.length;rw[z] at this;cases this
  ·subst z;have hb:bs=[]:=by
    have:=h2'.length;cases bs with
    |nil=>rfl
    |cons _ _=>cases this
   subst hb;obtain⟨_,w9,e1,e2⟩:=AJ e;obtain⟨hl,rfl⟩:=Cy e1;cases e2;exact q Y H R.ext0 R _ (by unfold Is;exact⟨p,vs,rfl,h1,by rw[AAY];exact h2⟩)
 ·cases e
noncomputable def Fi:D->D->M D
 | .int i,.int j=>λZ=>if (-(2 ^ 64)<i/\i<2 ^ 64)∨(-(2 ^ 64)<j/\j<2 ^ 64) then some (.int (i * j),Z) else none
 | .lst a,.int j=>λZ=>if -(2 ^ 63)<=j/\j<2 ^ 63/\a.length * j.toNat<=sizeLine then A4 (List.replicate j.toNat a).flatten Z else none
 |_,_=>BM
theorem IsL.rep(h:IsL K Y k H ds vs):∀n:Nat,IsL K Y k H (List.replicate n ds).flatten (List.replicate n vs).flatten
 |0=>.nil
 |n+1=>by
  rw[AAj,AAj,List.flatten_cons,List.flatten_cons];exact h.append (IsL.rep h n)
theorem LR:OpR X (binaryOp .Mult) (rM X.kw Fi):=λw6 s O H x y v u Q I rx ry h=>by
 obtain⟨Y,Z,a,b,d,Z',R,ia,ib,e,q⟩:=h;unfold Fi at e;split at e
 ·split at e
  ·rename_i hc;cases e;cases CP ia;cases CP ib;exact cE w6 s O H _ _ v u Q I rx ry ⟨_,_,rfl,rfl,hc,q Y H R.ext0 R _ (ofI _)⟩
  ·cases e
 ·split at e
  ·rename_i hc;cases CP ib;unfold Is at ia;obtain⟨p,vs,rfl,h1,hn,h2⟩:=ia;obtain⟨hl,w⟩:=Iq R (h2.rep _) e q;exact cB w6 s O H _ _ v u Q I rx ry ⟨p,_,vs,rfl,rfl,h1,hc.1,hc.2.1,by rw[h2.length];exact hc.2.2,w⟩
  ·cases e
 ·cases e
mutual
def toP(Z:Mh):D->Option PyData
 | .non=>some .none
 | .bl b=>some (.bool b)
 | .int i=>some (.int i)
 | .str x=>some (.str x)
 | .ty _=>none
 | .scr ns=>some (.list (ns.map PyData.int))
 | .tup ds=>(Hu Z ds).map PyData.tuple
 | .lst ds=>(Hu Z ds).map PyData.list
 | .ref _=>none
def Hu(Z:Mh):List D->Option (List PyData)
 |[]=>some []
 |d::ds=>(toP Z d).bind λp=>(Hu Z ds).map (p::·)
end
noncomputable def MC(Z:Mh):D->Option PyData
 | .ref n=>match Z[n]? with
  |some (.lst ds)=>(Hu Z ds).map PyData.list
  |_=>none
 |d=>toP Z d
section
variable{K:KW}{Y:Nat->Addr}{Z:Mh}{H:Hp}{k:Nat}
theorem S8:∀(ns:List Int),DatVs K H (ns.map V.int) (ns.map PyData.int)
 |[]=>.nil
 |n::r=>.cons (.int n) (S8 r)
mutual
theorem Is.dat:∀{d:D} {v:V} {p:PyData},Is K Y k H d v->toP Z d=some p->DatV K H v p
 | .non,_,_,h,e=>by unfold Is at h;unfold toP at e;cases e;subst h;exact .non
 | .bl b,_,_,h,e=>by unfold Is at h;unfold toP at e;cases e;subst h;exact .bl b
 | .int b,_,_,h,e=>by unfold Is at h;unfold toP at e;cases e;subst h;exact .int b
 | .str b,_,_,h,e=>by unfold Is at h;unfold toP at e;cases e;subst h;exact .str b
 | .ty b,_,_,h,e=>by unfold toP at e;cases e
 | .scr ns,_,_,h,e=>by
  unfold Is at h;unfold toP at e;cases e;obtain⟨p,rfl,h⟩:=h;exact .lst h.sq (S8 ns)
 | .tup ds,_,_,h,e=>by
  unfold Is at h;unfold toP at e;obtain⟨p,vs,rfl,h1,h2⟩:=h;cases q:Hu Z ds with
  |none=>rw[q] at e;cases e
  |some ps=>rw[q] at e;cases e;exact .tup h1 (IsL.dat h2 q)
 | .lst ds,_,_,h,e=>by
  unfold Is at h;unfold toP at e;obtain⟨p,vs,rfl,h1,_,h2⟩:=h;cases q:Hu Z ds with
  |none=>rw[q] at e;cases e
  |some ps=>rw[q] at e;cases e;exact .lst (SqL.of h1) (IsL.dat h2 q)
 | .ref n,_,_,h,e=>by unfold toP at e;cases e
theorem IsL.dat:∀{ds:List D} {vs:List V} {ps:List PyData},IsL K Y k H ds vs->Hu Z ds=some ps->DatVs K H vs ps
 |[],_,_,h,e=>by unfold IsL at h;unfold Hu at e;cases e;subst h;exact .nil
 |d::ds,_,_,h,e=>by
  unfold IsL at h;unfold Hu at e;obtain⟨v,vs',rfl,h1,h2⟩:=h;cases q:toP Z d with
  |none=>rw[q] at e;cases e
  |some p=>
   rw[q] at e;cases q2:Hu Z ds with
   |none=>rw[q2] at e;cases e
   |some ps=>rw[q2] at e;cases e;exact .cons (Is.dat h1 q) (IsL.dat h2 q2)
end
theorem Zi(R:RelH K Y Z H)(h:Is K Y Z.length H d v)(e:MC Z d=some p):DatV K H v p:=by
 cases d with
 |ref n=>
  unfold Is at h;obtain⟨_,rfl⟩:=h;have e':(match Z[n]? with|some (.lst ds)=>(Hu Z ds).map PyData.list|_=>none)=some p:=e;split at e'
  ·rename_i ds hq;obtain⟨u,h1,vs,rfl,h2⟩:=R.obj n _ hq;cases q:Hu Z ds with
   |none=>rw[q] at e';cases e'
   |some ps=>rw[q] at e';cases e';exact .lst (SqL.of h1) (IsL.dat h2 q)
  ·cases e'
 |_=>exact Is.dat (Z:=Z) h e
end
noncomputable def Gh(neg:Bool)(a b:D):M D:=λZ=>match MC Z a,MC Z b with
 |some p,some q=>if SeqAt.shaped p=true/\SeqAt.shaped q=true then some (.bl (if neg then !PyData.eqv p q else PyData.eqv p q),Z) else none
 |_,_=>none
noncomputable def A8:D->D->M D:=Gh false
noncomputable def B4:D->D->M D:=Gh true
theorem LM(e:Gh neg a b Z=some (d,Z')):∃p q,MC Z a=some p/\MC Z b=some q/\SeqAt.shaped p=true/\SeqAt.shaped q=true/\d=.bl (if neg then !PyData.eqv p q else PyData.eqv p q)/\Z'=Z:=by
 unfold Gh at e;split at e
 ·rename_i p q e1 e2;split at e
  ·rename_i h;cases e;exact⟨p,q,e1,e2,h.1,h.2,rfl,rfl⟩
  ·cases e
 ·cases e
theorem Bf(hr:Room k X.A):OpR X (compareOp .Eq) (rM X.kw A8):=OpR.wk (cH (Vn hr)) λx y H Q h=>by
 obtain⟨Y,Z,a,b,d,Z',R,ia,ib,e,q⟩:=h;obtain⟨p,p',e1,e2,s1,s2,rfl,rfl⟩:=LM e;exact⟨p,p',Zi R ia e1,Zi R ib e2,s1,s2,q Y H R.ext0 R _ (ofB _)⟩
theorem E7(hr:Room k X.A):OpR X (compareOp .NotEq) (rM X.kw B4):=OpR.wk (cD (Vn hr)) λx y H Q h=>by
 obtain⟨Y,Z,a,b,d,Z',R,ia,ib,e,q⟩:=h;obtain⟨p,p',e1,e2,s1,s2,rfl,rfl⟩:=LM e;exact⟨p,p',Zi R ia e1,Zi R ib e2,s1,s2,q Y H R.ext0 R _ (ofB _)⟩
noncomputable def isN:D->Bool
 | .non=>true
 |_=>false
noncomputable def Fj(neg:Bool):D->D->M D
 |a,.non=>ret (.bl (if neg then !isN a else isN a))
 |_,_=>BM
theorem Sm(h:Is K Y k H a x):decide (x=V.non)=isN a:=by
 cases a with
 |non=>unfold Is at h;subst h;rfl
 |bl b=>unfold Is at h;subst h;rfl
 |int b=>unfold Is at h;subst h;rfl
 |str b=>unfold Is at h;subst h;rfl
 |ty b=>unfold Is at h;subst h;rfl
 |scr ns=>unfold Is at h;obtain⟨p,rfl,_⟩:=h;rfl
 |tup ns=>unfold Is at h;obtain⟨p,o,rfl,_⟩:=h;rfl
 |lst ns=>unfold Is at h;obtain⟨p,o,rfl,_⟩:=h;rfl
 |ref ns=>unfold Is at h;obtain⟨_,rfl⟩:=h;rfl
theorem PK:OpR X (compareOp .Is) (rM X.kw (Fj false)):=OpR.wk cG λx y H Q h=>by
 obtain⟨Y,Z,a,b,d,Z',R,ia,ib,e,q⟩:=h;cases b with
 |non=>cases e;exact⟨Qv ib,by rw[Sm ia];exact q Y H R.ext0 R _ (ofB _)⟩
 |_=>cases e
theorem Y6:OpR X (compareOp .IsNot) (rM X.kw (Fj true)):=OpR.wk Y0 λx y H Q h=>by
 obtain⟨Y,Z,a,b,d,Z',R,ia,ib,e,q⟩:=h;cases b with
 |non=>cases e;exact⟨Qv ib,by rw[Sm ia];exact q Y H R.ext0 R _ (ofB _)⟩
 |_=>cases e
noncomputable def M9:D->Option V
 | .non=>some .non
 | .bl b=>some (.bl b)
 | .int i=>some (.int i)
 | .str x=>some (.str x)
 |_=>none
noncomputable def Jb:List D->Option (List V)
 |[]=>some []
 |d::ds=>(M9 d).bind λv=>(Jb ds).map (v::·)
section
variable{K:KW}{Y:Nat->Addr}{H:Hp}{k:Nat}
theorem Pg(h:Is K Y k H d x)(e:M9 d=some v):x=v/\Hm v=true:=by
 cases d with
 |non=>cases e;unfold Is at h;exact⟨h,rfl⟩
 |bl b=>cases e;unfold Is at h;exact⟨h,rfl⟩
 |int b=>cases e;unfold Is at h;exact⟨h,rfl⟩
 |str b=>cases e;unfold Is at h;exact⟨h,rfl⟩
 |_=>cases e
theorem M8:∀{ds:List D} {vs xs:List V},IsL K Y k H ds xs->Jb ds=some vs->xs=vs/\vs.all Hm=true
 |[],_,_,h,e=>by cases e;unfold IsL at h;exact⟨h,rfl⟩
 |d::ds,_,_,h,e=>by
  unfold IsL at h;obtain⟨v,vs',rfl,h1,h2⟩:=h;unfold Jb at e;cases q:M9 d with
  |none=>rw[q] at e;cases e
  |some w=>
   rw[q] at e;cases q2:Jb ds with
   |none=>rw[q2] at e;cases e
   |some ws=>
    rw[q2] at e;cases e;obtain⟨rfl,f1⟩:=Pg h1 q;obtain⟨rfl,f2⟩:=M8 h2 q2;exact⟨rfl,by rw[List.all_cons,f1,f2];rfl⟩
end
noncomputable def B0:D->M (List D)
 | .tup ds=>ret ds
 |d=>Co d
theorem HU(R:RelH K Y Z H)(i:Is K Y Z.length H d v)(e:B0 d Z=some (ds,Z')):Z'=Z/\∃p vs,v=.ref p/\(SqL K H p vs∨SqT K H p vs)/\IsL K Y Z.length H ds vs:=by
 cases d with
 |tup es=>
  cases e;unfold Is at i;obtain⟨p,vs,rfl,h1,h2⟩:=i;exact⟨rfl,p,vs,rfl,.inr h1,h2⟩
 |lst es=>obtain⟨h,p,vs,a,b,c⟩:=DV R i e;exact⟨h,p,vs,a,.inl b,c⟩
 |scr es=>obtain⟨h,p,vs,a,b,c⟩:=DV R i e;exact⟨h,p,vs,a,.inl b,c⟩
 |ref es=>obtain⟨h,p,vs,a,b,c⟩:=DV R i e;exact⟨h,p,vs,a,.inl b,c⟩
 |_=>cases e
noncomputable def Jw(neg:Bool)(a b:D):M D:=bnd (B0 b) λds=>λZ=>match M9 a,Jb ds with
 |some x,some xs=>some (.bl (if neg then !inV x xs else inV x xs),Z)
 |_,_=>none
noncomputable def C4(neg:Bool):D->D->M D
 | .str i,.str j=>ret (.bl (if neg then !(!(Builtin.Str.occurrences j i 0 j.length 1).isEmpty) else !(Builtin.Str.occurrences j i 0 j.length 1).isEmpty))
 |a,b=>Jw neg a b
theorem V4(R:RelH K Y Z H)(ia:Is K Y Z.length H a x)(ib:Is K Y Z.length H b y)(e:Jw neg a b Z=some (d,Z'))(q:Aft K Y Z H Z' λY' H'=>∀v,Is K Y' Z'.length H' d v->Q v H'):rIn K neg x y H Q:=by
 obtain⟨ds,w9,e1,e2⟩:=AJ e;obtain⟨hm,p,vs,rfl,h1,h2⟩:=HU R ib e1;subst hm;split at e2
 ·rename_i w ws q1 q2;cases e2;obtain⟨rfl,f1⟩:=Pg ia q1;obtain⟨rfl,f2⟩:=M8 h2 q2;exact⟨p,_,rfl,h1,f1,f2,q Y H R.ext0 R _ (ofB _)⟩
 ·cases e2
theorem IC:OpR X (compareOp .In) (rM X.kw (C4 false)):=λw6 s O H x y v u Q I rx ry h=>by
 obtain⟨Y,Z,a,b,d,Z',R,ia,ib,e,q⟩:=h;unfold C4 at e;split at e
 ·cases e;cases CD ia;cases CD ib;exact Ts w6 s O H _ _ v u Q I rx ry ⟨_,_,rfl,rfl,q Y H R.ext0 R _ (ofB _)⟩
 ·exact Tt w6 s O H _ _ v u Q I rx ry (V4 R ia ib e q)
theorem Y5:OpR X (compareOp .NotIn) (rM X.kw (C4 true)):=λw6 s O H x y v u Q I rx ry h=>by
 obtain⟨Y,Z,a,b,d,Z',R,ia,ib,e,q⟩:=h;unfold C4 at e;split at e
 ·cases e;cases CD ia;cases CD ib;exact Nv w6 s O H _ _ v u Q I rx ry ⟨_,_,rfl,rfl,q Y H R.ext0 R _ (ofB _)⟩
 ·exact Nw w6 s O H _ _ v u Q I rx ry (V4 R ia ib e q)
noncomputable def ixD(ds:List D)(i:Int):M D:=λZ=>(atI ds i).map λd=>(d,Z)
noncomputable def Aa:D->D->M D
 | .str z,.int i=>λZ=>if z.length<=sizeLine then (atI z.cps.toList i).map λc=>(.str ⟨#[c]⟩,Z) else none
 |a,.int i=>bnd (B0 a) λds=>ixD ds i
 |_,_=>BM
theorem As:IxR X (rM X.kw Aa):=λva sl w6 s O H x y v u Q I rx ry h hsl=>by
 obtain⟨Y,Z,a,b,d,Z',R,ia,ib,e,q⟩:=h;unfold Aa at e;split at e
 ·split at e
  ·rename_i z i hl;cases CD ia;cases CP ib;cases qq:atI z.cps.toList i with
   |none=>rw[qq] at e;cases e
   |some c=>
    rw[qq] at e;cases e;exact Qu va sl w6 s O H _ _ v u Q I rx ry (.inr (.inr ⟨z,i,c,rfl,rfl,hl,qq,q Y H R.ext0 R _ (ofS _)⟩)) hsl
  ·cases e
 ·cases CP ib;obtain⟨ds,w9,e1,e2⟩:=AJ e;obtain⟨hm,p,vs,rfl,h1,h2⟩:=HU R ia e1;subst hm;rename_i i _;unfold ixD at e2;cases qq:atI ds i with
  |none=>rw[qq] at e2;cases e2
  |some c=>
   rw[qq] at e2;cases e2;obtain⟨w,ew,iw⟩:=dW h2 qq;rcases h1 with h1|h1
   ·exact Qu va sl w6 s O H _ _ v u Q I rx ry (.inl ⟨p,vs,i,w,rfl,rfl,h1,ew,q Y H R.ext0 R _ iw⟩) hsl
   ·exact Qu va sl w6 s O H _ _ v u Q I rx ry (.inr (.inl ⟨p,vs,i,w,rfl,rfl,h1,ew,q Y H R.ext0 R _ iw⟩)) hsl
 ·cases e
noncomputable def Bk:List D->M D
 |[.str z]=>λZ=>if z.length<=sizeLine then some (.int z.length,Z) else none
 |[.ref n]=>λZ=>match Z[n]? with
  |some (.lst ds)=>some (.int ds.length,Z)
  |_=>none
 |[d]=>bnd (B0 d) λds=>ret (.int ds.length)
 |_=>BM
theorem Bt:CS X (.builtin "len") (rMA X.kw Bk):=λw6 s O H xs us Q I r h=>by
 obtain⟨Y,Z,as,d,Z',R,ia,e,q⟩:=h;refine XU w6 s O H xs us Q I r ?_;unfold Bk at e;split at e
 ·rename_i z;obtain⟨v,rfl,i1⟩:=ET ia;split at e
  ·rename_i hl;cases e;cases CD i1;exact⟨_,_,rfl,⟨hl,rfl⟩,q Y H R.ext0 R _ (ofI _)⟩
  ·cases e
 ·rename_i n;obtain⟨v,rfl,i1⟩:=ET ia;unfold Is at i1;obtain⟨_,rfl⟩:=i1;split at e
  ·rename_i ds hq;cases e;obtain⟨u,h1,vs,rfl,h2⟩:=R.obj n _ hq;exact⟨_,_,rfl,.inl ⟨vs,SqL.of h1,rfl⟩,by rw[h2.length];exact q Y H R.ext0 R _ (ofI _)⟩
  ·cases e
 ·obtain⟨v,rfl,i1⟩:=ET ia;obtain⟨ds,w9,e1,e2⟩:=AJ e;obtain⟨hm,p,vs,rfl,h1,h2⟩:=HU R i1 e1;subst hm;cases e2;rw[←h2.length] at q;rcases h1 with h1|h1
  ·exact⟨_,_,rfl,.inl ⟨vs,h1,rfl⟩,q Y H R.ext0 R _ (ofI _)⟩
  ·exact⟨_,_,rfl,.inr ⟨vs,h1,rfl⟩,q Y H R.ext0 R _ (ofI _)⟩
 ·cases e
noncomputable def GS(ds:List D)(lo hi:Option Int):List D:=(ds.drop (HT.sIx ds.length 0 lo)).take (HT.sIx ds.length ds.length hi-HT.sIx ds.length 0 lo)
noncomputable def V6(lo hi:Option Int):D->M D
 | .tup ds=>if HT.sIx ds.length 0 lo=0/\HT.sIx ds.length ds.length hi=ds.length then BM else ret (.tup (GS ds lo hi))
 |d=>bnd (Co d) λds=>ret (.lst (GS ds lo hi))
noncomputable def rMS(K:KW):V->Option Int->Option Int->Hp->VK->Prop:=λx lo hi H Q=>∃Y Z a d Z',RelH K Y Z H/\Is K Y Z.length H a x/\V6 lo hi a Z=some (d,Z') /\
 Aft K Y Z H Z' λY' H'=>∀v,Is K Y' Z'.length H' d v->Q v H'
theorem aB{K:KW}{Y:Nat->Addr}{Z:Mh}{vs:List V}{Q:VK}(R:RelH K Y Z H)(i:IsL K Y Z.length H ds vs)(q:Aft K Y Z H Z λY' H'=>∀v,Is K Y' Z.length H' (.lst ds) v->Q v H')(p:Addr)(hp:H p=none):Q (.ref p) (upd H p (.lst vs)):=by
 obtain⟨E1,R1⟩:=R.laid (.lst vs) hp;have ho:∀n,n<Z.length->Y n≠p:=λn hn z=>by
  obtain⟨o,e,_⟩:=R.muts n hn;rw[z,hp] at e;cases e
 exact q Y _ E1 R1 _ (by unfold Is;exact⟨p,vs,rfl,B2,ho,i.ext E1⟩)
theorem Wu{K:KW}{Y:Nat->Addr}{Z:Mh}{vs:List V}{Q:VK}(R:RelH K Y Z H)(i:IsL K Y Z.length H ds vs)(q:Aft K Y Z H Z λY' H'=>∀v,Is K Y' Z.length H' (.tup ds) v->Q v H')(p:Addr)(hp:H p=none):Q (.ref p) (upd H p (.tup vs)):=by
 obtain⟨E1,R1⟩:=R.laid (.tup vs) hp;exact q Y _ E1 R1 _ (by unfold Is;exact⟨p,vs,rfl,SqT.of B2,i.ext E1⟩)
theorem fM:SlR X (rMS X.kw):=λw6 s O H x v vl vu lo hi sl Q I rx hs pl pu h=>by
 obtain⟨Y,Z,a,d,Z',R,ia,e,q⟩:=h;refine(SlR.or YJ a8) w6 s O H x v vl vu lo hi sl Q I rx hs pl pu ?_;unfold V6 at e;split at e
 ·rename_i ds;unfold Is at ia;obtain⟨p,vs,rfl,h1,h2⟩:=ia;split at e
  ·cases e
  ·rename_i hc;cases e;exact .inr ⟨p,vs,rfl,h1,by rw[h2.length];exact hc,λp hp=>Wu R (XR h2) q p hp⟩
 ·obtain⟨ds,w9,e1,e2⟩:=AJ e;obtain⟨hm,p,vs,rfl,h1,h2⟩:=DV R ia e1;subst hm;cases e2;exact .inl ⟨p,vs,rfl,h1,λp hp=>aB R (XR h2) q p hp⟩
noncomputable def mSl(me:Sl->M D)(ml mh:Sl->M (Option Int)):Sl->M D:=λB=>bnd (me B) λx=>bnd (ml B) λl=>bnd (mh B) λh=>V6 l h x
noncomputable def B5:Sl->M (Option Int):=λ_=>ret none
noncomputable def asI:D->M (Option Int)
 | .int i=>ret (some i)
 |_=>BM
noncomputable def CY(m:Sl->M D):Sl->M (Option Int):=λB=>bnd (m B) asI
noncomputable def tPt(K:KW)(m:Sl->M (Option Int)):TO:=λO H Q=>∃Y Z B b Z',RelH K Y Z H/\RelS K Y Z.length H B O/\m B Z=some (b,Z')/\Aft K Y Z H Z' λ_ H'=>Q b H'
structure RO(X:Cx)(e:Option Expr)(m:Sl->M (Option Int)):Prop where
 pe:PO X e (tPt X.kw m)
theorem PO.wk(h:PO X e t)(w:∀O H Q,t' O H Q->t O H Q):PO X e t':=λw6 s O H Q I q=>h w6 s O H Q I (w O H Q q)
theorem RO.wk(h:PO X e t)(w:∀O H Q,tPt X.kw m O H Q->t O H Q):RO X e m:=⟨PO.wk h w⟩
theorem Bw:RO X none B5:=RO.wk Yo λO H Q h=>by
 obtain⟨Y,Z,B,b,Z',R,S,e,q⟩:=h;cases e;exact q Y H R.ext0 R
theorem Bj(h:RE X e m):RO X (some e) (CY m):=RO.wk (Yn h.pe) λO H Q h=>by
 obtain⟨Y,Z,B,b,Z',R,S,e,q⟩:=h;obtain⟨x,w9,e1,e⟩:=AJ e;refine⟨Y,Z,B,x,w9,R,S,e1,λx9 H1 E1 R1 v i1=>?_⟩;cases x with
 |int i=>cases e;exact⟨i,CP i1,q x9 H1 E1 R1⟩
 |_=>cases e
theorem Vy(he:RE X e me)(hl:RO X lo ml)(hh:RO X hi mh):RE X (.Subscript e (.Slice lo hi none p2) pos) (mSl me ml mh):=RE.wk (PB fM he.pe hl.pe hh.pe) λO H Q h=>by
 obtain⟨Y,Z,B,z,Z',R,S,e,q⟩:=h;obtain⟨x,w9,e1,e⟩:=AJ e;obtain⟨l,x6,e2,e⟩:=AJ e;obtain⟨u,v7,e3,e⟩:=AJ e;refine⟨Y,Z,B,x,w9,R,S,e1,λx9 H1 E1 R1 v i1=>⟨x9,w9,B,l,x6,R1,S.ext E1,e2,λu9 H2 E2 R2=>⟨u9,x6,B,u,v7,R2,S.ext (E1.trans E2),e3,λv8 H3 E3 R3=>?_⟩⟩⟩;have E23:=E2.trans E3;exact⟨v8,v7,x,z,Z',R3,i1.ext E23,e,λj4 H4 E4 R4=>q j4 H4 ((E1.trans E23).trans E4) R4⟩
noncomputable def tyD(Z:Mh):D->Option String
 | .non=>some "NoneType"
 | .bl _=>some "bool"
 | .int _=>some "int"
 | .str _=>some "str"
 | .tup _=>some "tuple"
 | .lst _=>some "list"
 | .scr _=>none
 | .ref n=>match Z[n]? with
  |some (.lst _)=>some "list"
  |some (.dK _)=>some "dict"
  |some (.dC _)=>none
  |some (.ins _ _)=>none
  |some (.dP _)=>none
  |some (.exc _ _)=>none
  |none=>none
 | .ty _=>none
noncomputable def GP(t T:String):Option Bool:=
 if t∈["NoneType", "bool", "int", "str", "tuple", "list", "dict"]/\T∈["bool", "int", "str", "tuple", "list", "dict"] then some (t==T||(t == "bool" && T == "int")) else none
theorem ZJ(h:GP t T=some b):PySem.W.kitOne K (.type t) (.type T)=some b:=by
 unfold GP at h;split at h
 ·rename_i hm;obtain⟨h1,h2⟩:=hm;simp only[AAI,List.not_mem_nil,or_false] at h1 h2;rcases h1 with rfl|rfl|rfl|rfl|rfl|rfl|rfl<;>rcases h2 with rfl|rfl|rfl|rfl|rfl|rfl<;>(cases h;kernel_rfl)
 ·cases h
noncomputable def FW:List D->M D
 |[a,.ty T]=>λZ=>match tyD Z a with
  |some t=>(GP t T).map λb=>(.bl b,Z)
  |none=>none
 |_=>BM
theorem HA:CS X (.builtin "isinstance") (rMA X.kw FW):=λw6 s O H xs us Q I r h=>by
 obtain⟨Y,Z,as,d,Z',R,ia,e,q⟩:=h;unfold FW at e;split at e
 ·rename_i a T;obtain⟨v,v',rfl,i1,i2⟩:=OA ia;cases fk i2;split at e
  ·rename_i t ht;cases hk:GP t T with
   |none=>rw[hk] at e;cases e
   |some b=>
    rw[hk] at e;cases e;have kit:=ZJ (K:=X.kw) hk;have fin:=q Y H R.ext0 R _ (ofB b);have byTy:JE X.kw H v (.type t)->wpAny (model X.prog X.w) X.A (call (.builtin "isinstance") us) (EP X w6 O Q) X.xe s:=λty=>
     Pv w6 s O H _ us Q I r ⟨v,T,_,b,rfl,ty,kit,fin⟩
    cases a with
    |non=>cases ht;cases Qv i1;exact byTy .non
    |bl x=>cases ht;cases W1 i1;exact byTy (.bl x)
    |int x=>cases ht;cases CP i1;exact byTy (.int x)
    |str x=>cases ht;cases CD i1;exact byTy (.str x)
    |ty n=>cases ht
    |lst ds=>cases ht;unfold Is at i1;obtain⟨p,vs,rfl,h1,_⟩:=i1;exact byTy (.lst h1)
    |scr ns=>cases ht
    |ref n=>
     unfold Is at i1;obtain⟨_,rfl⟩:=i1;have ht:(match Z[n]? with|some (.lst _)=>some "list" |some (.dK _)=>some "dict" |some (.dC _)=>none|some (.ins _ _)=>none|some (.dP _)=>none|some (.exc _ _)=>none|none=>none)=some t:=ht;split at ht
     ·rename_i ds hq;cases ht;obtain⟨u,h1,vs,rfl,h2⟩:=R.obj n _ hq;exact byTy (.lst h1)
     ·rename_i ds hq;cases ht;obtain⟨u,h1,vs,rfl,h2⟩:=R.obj n _ hq;exact byTy (.dK h1)
     ·cases ht
     ·cases ht
     ·cases ht
     ·cases ht
     ·cases ht
    |tup ds=>
     cases ht;unfold Is at i1;obtain⟨p,vs,rfl,h1,h2⟩:=i1;obtain⟨its,_,⟨o,g1,g2,_⟩,_⟩:=I.tuple h1;obtain⟨u1,u2,rfl,r1,r2⟩:=Vals.two r;cases r1;cases r2;exact PySem.W.kia_one PySem.W.kitx_tuple I.kIn ⟨o,g1,g2⟩ kit (λz=>nomatch z) λtk=>⟨.bl b,H,I.tok _,rfl,fin⟩
  ·cases e
 ·cases e
noncomputable def cy:List D->M D
 |[.int i]=>ret (.int i)
 |[.bl b]=>ret (.int (if b then 1 else 0))
 |_=>BM
theorem gK:CS X (.type "int") (rMA X.kw cy):=λw6 s O H xs us Q I r h=>by
 obtain⟨Y,Z,as,d,Z',R,ia,e,q⟩:=h;refine UV w6 s O H xs us Q I r ?_;unfold cy at e;split at e
 ·obtain⟨v,rfl,i1⟩:=ET ia;cases e;cases CP i1;exact .inl ⟨_,rfl,q Y H R.ext0 R _ (ofI _)⟩
 ·obtain⟨v,rfl,i1⟩:=ET ia;cases e;cases W1 i1;exact .inr ⟨_,rfl,q Y H R.ext0 R _ (ofI _)⟩
 ·cases e
noncomputable def Qp:List D->M D
 |[.int i,.int j]=>ret (.int (if j > i then j else i))
 |_=>BM
noncomputable def Wk:List D->M D
 |[.int i,.int j]=>ret (.int (if j<i then j else i))
 |_=>BM
theorem XW(hc:X.calm=true):CS X (.builtin "max") (rMA X.kw Qp):=λw6 s O H xs us Q I r h=>by
 obtain⟨Y,Z,as,d,Z',R,ia,e,q⟩:=h;refine UT hc w6 s O H xs us Q I r ?_;unfold Qp at e;split at e
 ·obtain⟨v,w,rfl,i1,i2⟩:=OA ia;cases e;cases CP i1;cases CP i2;exact⟨_,_,rfl,q Y H R.ext0 R _ (ofI _)⟩
 ·cases e
theorem aL(hc:X.calm=true):CS X (.builtin "min") (rMA X.kw Wk):=λw6 s O H xs us Q I r h=>by
 obtain⟨Y,Z,as,d,Z',R,ia,e,q⟩:=h;refine US hc w6 s O H xs us Q I r ?_;unfold Wk at e;split at e
 ·obtain⟨v,w,rfl,i1,i2⟩:=OA ia;cases e;cases CP i1;cases CP i2;exact⟨_,_,rfl,q Y H R.ext0 R _ (ofI _)⟩
 ·cases e
noncomputable def Fa:List D->M D
 |[.tup ds]=>ret (.tup ds)
 |[d]=>bnd (Co d) λds=>ret (.tup ds)
 |_=>BM
theorem Kb:CS X (.type "tuple") (rMA X.kw Fa):=λw6 s O H xs us Q I r h=>by
 obtain⟨Y,Z,as,d,Z',R,ia,e,q⟩:=h;unfold Fa at e;split at e
 ·obtain⟨v,rfl,i1⟩:=ET ia;cases e;have i2:=i1;unfold Is at i1;obtain⟨p,vs,rfl,h1,h2⟩:=i1;exact Ps w6 s O H _ us Q I r ⟨p,vs,rfl,h1,q Y H R.ext0 R _ i2⟩
 ·obtain⟨v,rfl,i1⟩:=ET ia;obtain⟨ds,w9,e1,e2⟩:=AJ e;obtain⟨hm,p,vs,rfl,h1,h2⟩:=DV R i1 e1;subst hm;cases e2;obtain⟨u,rfl,ru⟩:=Vals.one r;cases ru;obtain⟨its,rv,pl,hz⟩:=I.list h1;refine PySem.call_tuple_list pl.isList (λh' hk=>?_) (by rw[List.size_toArray,←rv.length];exact hz);have I1:Inv X w6 O H { s with heap:=h' }:=I.kept (t':=s.toks) hk;have I2:Inv X w6 O (upd H h'.objs.size (.tup vs)) { s with heap:=h'.push { cls:=.type "tuple",data:=.seq its.toArray } }:=I1.laid (t':=s.toks) (o:=.tup vs) (λb ob q=>AAC _ q) (AAE _) ⟨hz,its,rv,PyProof.Rows.IsTup.new _ _⟩;exact⟨.ref h'.objs.size,_,I2,rfl,Wu R h2 q _ (I1.hok.fresh (AAE _))⟩
 ·cases e
end
section
variable{X:Cx}{e a b c o i f tg:Expr}{es:List Expr}{pos apos cpos:Pos}
theorem Ox(h:tE K (FC g g' ma mb mc) O H Q):Qa (rM K g) (rM K g') (tE K ma) (tE K mb) (tE K mc) O H Q:=by
 obtain⟨Y,Z,B,d,Z',R,S,e,q⟩:=h;obtain⟨x,w9,e1,ee1⟩:=AJ e;obtain⟨y,x6,e2,ee2⟩:=AJ ee1;obtain⟨z,v7,e3,ee3⟩:=AJ ee2;obtain⟨k,v9,e4,ee4⟩:=AJ ee3;obtain⟨hz,hm⟩:=JC e4;subst hm;subst hz;refine⟨Y,Z,B,x,w9,R,S,e1,λx9 H1 E1 R1 v1 i1=>⟨x9,w9,B,y,x6,R1,S.ext E1,e2,λu9 H2 E2 R2 v2 i2=>?_⟩⟩;refine⟨u9,x6,x,y,_,_,R2,i1.ext E2,i2,e3,λv8 H3 E3 R3 v3 i3=>⟨k,W1 i3,?_⟩⟩;have E13:=(E1.trans E2).trans E3;cases k with
 |false=>cases ee4;exact q v8 H3 E13 R3 _ (ofB _)
 |true=>
  obtain⟨w,m3,e5,ee5⟩:=AJ ee4;exact⟨v8,_,B,w,m3,R3,S.ext E13,e5,λj4 H4 E4 R4 v4 i4=>⟨j4,m3,y,w,d,Z',R4,i2.ext (E3.trans E4),i4,ee5,λk8 H5 E5 R5=>q k8 H5 ((E13.trans E4).trans E5) R5⟩⟩
theorem LH(ho:OpR X (compareOp op) (rM X.kw g))(ho':OpR X (compareOp op') (rM X.kw g'))(ha:RE X a ma)(hb:RE X b mb)(hc:RE X c mc)(hm:lastMarks [op,op'] [b,c]=false:=by with_unfolding_all rfl):
  RE X (.Compare a [op,op'] [b,c] pos) (FC g g' ma mb mc):=RE.wk (WX ho ho' ha.pe hb.pe hc.pe hm) λ_ _ _ h=>Ox h
theorem Vi(ho:OpR X (compareOp op) (rM X.kw g))(ho':OpR X (compareOp op') (rM X.kw g'))(ha:RE X a ma)(hb:RE X b mb)(hc:RE X c mc)(hm:lastMarks [op,op'] [b,c]=false:=by with_unfolding_all rfl):
  RT X (.Compare a [op,op'] [b,c] pos) (AW (FC g g' ma mb mc)):=RT.wk (WD ho ho' ha.pe hb.pe hc.pe hm) λO H Q h=>Ox (Q:=λx H'=>∃k,x=.bl k/\Q k H') (Nd h)
theorem FS(hm:X.mg x=none)(hv:bootBuiltins x=some (.type n))(hg:Gl X x:=by rfl)(hn:x ≠ "__name__" := by decide)(hdb:(x==("__debug__" : Str))=false:=by decide):RE X (.Name x pos) (mC (.ty n)):=
 Tj (t:=λ_ _ _=>True) (Yy (v:=.ty n) hg hm hv rfl hn hdb) λ_ _ _=>by unfold Is;rfl
noncomputable def FD(d:D):M Unit:=bnd (Co d) λ_=>ret ()
noncomputable def A3(g:D->List D->M D)(mo:Sl->M D)(ma:Sl->M (List D)):Sl->M D:=λB=>bnd (mo B) λx=>bnd (FD x) λ_=>bnd (ma B) λxs=>g x xs
noncomputable def rMM(K:KW)(g:D->List D->M D):V->List V->Hp->VK->Prop:=λx xs H Q=>∃Y Z a as d Z',RelH K Y Z H/\Is K Y Z.length H a x/\IsL K Y Z.length H as xs/\g a as Z=some (d,Z') /\
 Aft K Y Z H Z' λY' H'=>∀v,Is K Y' Z'.length H' d v->Q v H'
theorem Jx(R:RelH K Y Z H)(i:Is K Y Z.length H d v)(e:FD d Z=some (u,Z')):Z'=Z/\tyV K "list" v H:=by
 obtain⟨ds,w9,e1,ee1⟩:=AJ e;cases ee1;obtain⟨hm,p,vs,rfl,h1,h2⟩:=DV R i e1;exact⟨hm,.inl ⟨rfl,vs,h1⟩⟩
theorem Mz(e:FD d Z=some (u,Z')):Z'=Z:=by
 obtain⟨ds,w9,e1,ee1⟩:=AJ e;cases ee1;cases d with
 |lst _=>cases e1;rfl
 |scr _=>cases e1;rfl
 |ref n=>
  have e1:(match Z[n]? with|some (.lst ds)=>some (ds,Z)|_=>none)=some (ds,Z'):=e1;split at e1
  ·cases e1;rfl
  ·cases e1
 |_=>cases e1
theorem VT(h:tE K (A3 g mo ma) O H Q):tBM K "list" (rMM K g) (tE K mo) (tL K ma) O H Q:=by
 obtain⟨Y,Z,B,d,Z',R,S,e,q⟩:=h;obtain⟨x,w9,e1,ee1⟩:=AJ e;obtain⟨u,x6,e2,ee2⟩:=AJ ee1;obtain⟨as,v7,e3,ee3⟩:=AJ ee2;have hm:=Mz e2;subst hm;refine⟨Y,Z,B,x,_,R,S,e1,λx9 H1 E1 R1 v1 i1=>⟨(Jx R1 i1 e2).2,?_⟩⟩;refine⟨x9,_,B,as,v7,R1,S.ext E1,e3,λu9 H2 E2 R2 vs i2=>?_⟩;exact⟨u9,v7,x,as,d,Z',R2,i1.ext E2,i2,ee3,λv8 H3 E3 R3=>q v8 H3 ((E1.trans E2).trans E3) R3⟩
theorem BL{name:Str}{id:String}(slot:Slot "list" name id)(hty:typeOf (.builtin id)=pure (.type "method_descriptor"))(hm:MtR X id (rMM X.kw g))(ho:RE X o mo)(ha:RA X (e::es) ma)
  (hbase:attributeBase o name X.env (eval o X.env)=eval o X.env:=by rfl)
  (hfew:((backTo cpos (starEach (e::es) X.env)).all (λx=>!x.1)&&(backToKw cpos (keywordEach [] X.env)).all (λx=>x.1.isSome)
   && decide ((e::es).length+([]:List Keyword).length+(if ([]:List Keyword).isEmpty then 0 else 1)<30))=true:=by rfl)
  (hline:(apos.endLine==cpos.line)=true:=by rfl) (hs:starEach (e::es) X.env=(false,eval e X.env)::starEach es X.env:=by exact BG rfl) (hplain:(backTo cpos (starEach es X.env)).any (·.1)=false:=by exact Bb rfl) :
  RE X (.Call (.Attribute o name apos) (e::es) [] cpos) (A3 g mo ma):=RE.wk (WY PySem.F.plainAttrs_list slot hty hm ho.pe ha.pe hbase hfew hline hs hplain) λ_ _ _ h=>VT h
noncomputable def Ew(n:Nat)(k:List D->Option (D×List D)):M D:=λZ=>match Z[n]? with
 |some (.lst ds)=>(k ds).map λr=>(r.1,Z.set n (.lst r.2))
 |_=>none
theorem HL(e:Ew n k Z=some (d,Z')):∃ds es,Z[n]?=some (.lst ds)/\k ds=some (d,es)/\Z'=Z.set n (.lst es):=by
 unfold Ew at e;split at e
 ·rename_i ds hq;cases hk:k ds with
  |none=>rw[hk] at e;cases e
  |some r=>rw[hk] at e;cases e;exact⟨ds,r.2,hq,hk,rfl⟩
 ·cases e
theorem KG{K:KW}{Y:Nat->Addr}{Z:Mh}{H:Hp}{n:Nat}{d:D}{es:List D}{ws:List V}{v:V}{Q:VK}{ds:List D}(R:RelH K Y Z H)(hn:Z[n]?=some (.lst ds))(iw:IsL K Y Z.length H es ws)(iv:Is K Y Z.length H d v)
  (q:Aft K Y Z H (Z.set n (.lst es)) λY' H'=>∀v,Is K Y' (Z.set n (.lst es)).length H' d v->Q v H'):Q v (upd H (Y n) (.lst ws)):=by
 have hlt:n<Z.length:=(AAT.mp hn).1;obtain⟨E1,R1⟩:=R.changed (m:=.lst es) (o:=.lst ws) hlt ⟨ws,rfl,iw⟩;exact q Y _ E1 R1 v (iv.ext E1)
noncomputable def C9:D->List D->M D
 | .ref n,[d]=>Ew n λds=>if ds.length<sizeLine then some (.non,ds++[d]) else none
 |_,_=>BM
theorem Bm:MtR X "list.append" (rMM X.kw C9):=λw6 s O H x xs v us Q I rx rs h=>by
 obtain⟨Y,Z,a,as,d,Z',R,ia,ib,e,q⟩:=h;unfold C9 at e;split at e
 ·rename_i n y;obtain⟨ds,es,h1,h2,rfl⟩:=HL e;split at h2
  ·rename_i hl;cases h2;obtain⟨w,rfl,iw⟩:=ET ib;unfold Is at ia;obtain⟨_,rfl⟩:=ia;obtain⟨u,g1,vs,rfl,g2⟩:=R.obj n _ h1;exact Tx w6 s O H _ _ v us Q I rx rs ⟨_,vs,w,rfl,rfl,g1,by rw[g2.length];exact hl,KG R h1 (g2.append (.one iw)) ofN q⟩
  ·cases h2
 ·cases e
noncomputable def MH:D->List D->M D
 | .ref n,[.lst zs]=>Ew n λds=>if ds.length+zs.length<=sizeLine then some (.non,ds++zs) else none
 |_,_=>BM
theorem Go:MtR X "list.extend" (rMM X.kw MH):=λw6 s O H x xs v us Q I rx rs h=>by
 obtain⟨Y,Z,a,as,d,Z',R,ia,ib,e,q⟩:=h;unfold MH at e;split at e
 ·rename_i n zs;obtain⟨ds,es,h1,h2,rfl⟩:=HL e;split at h2
  ·rename_i hl;cases h2;obtain⟨w,rfl,iw⟩:=ET ib;unfold Is at ia iw;obtain⟨_,rfl⟩:=ia;obtain⟨p,ws,rfl,k1,_,k2⟩:=iw;obtain⟨u,g1,vs,rfl,g2⟩:=R.obj n _ h1;exact Tw w6 s O H _ _ v us Q I rx rs ⟨_,p,vs,ws,rfl,rfl,g1,k1,by rw[g2.length,k2.length];exact hl,KG R h1 (g2.append k2) ofN q⟩
  ·cases h2
 ·cases e
noncomputable def iH:D->List D->M D
 | .ref n,[.int i,d]=>Ew n λds=>if 0<=i/\i<2 ^ 62/\ds.length<sizeLine then some (.non,ds.take i.toNat++d::ds.drop i.toNat) else none
 |_,_=>BM
noncomputable def Vd:D->D->D->M Unit
 | .ref n,.int k,d=>λZ=>match Z[n]? with
  |some (.lst ds)=>(ixN ds.length k).map λj=>((),Z.set n (.lst (ds.set j d)))
  |_=>none
 |_,_,_=>BM
noncomputable def Xb(mo mi:Sl->M D):D->Sl->M Sl:=λd B=>bnd (mo B) λx=>bnd (mi B) λy=>bnd (Vd x y d) λ_=>ret B
theorem Td(e:Vd x y d Z=some (u,Z')):∃n k ds j,x=.ref n/\y=.int k/\Z[n]?=some (.lst ds)/\ixN ds.length k=some j/\Z'=Z.set n (.lst (ds.set j d)):=by
 unfold Vd at e;split at e
 ·rename_i n k;split at e
  ·rename_i ds hq;cases hk:ixN ds.length k with
   |none=>rw[hk] at e;cases e
   |some j=>rw[hk] at e;cases e;exact⟨n,k,ds,j,rfl,rfl,hq,hk,rfl⟩
  ·cases e
 ·cases e
theorem Vv(ho:RE X o mo)(hi:RE X i mi)
  (ha:∀v,assign (.Subscript o i pos) X.env v=(do
   let ov ←holding [v] (eval o X.env)
   let iv ←holding [v,ov] (eval i X.env)
   standAt pos
   holding [v,ov,iv] (setItem ov iv v)
   release [v,ov,iv] []):=by intro _;rfl):RG X (.Subscript o i pos) (Xb mo mi):=RG.wk (ba ho.pe hi.pe Vc ha) λv O H Q h=>by
 obtain⟨Y,Z,B,d,B',Z',R,S,i1,e,q⟩:=h;obtain⟨x,w9,e1,ee1⟩:=AJ e;obtain⟨y,x6,e2,ee2⟩:=AJ ee1;obtain⟨u,v7,e3,ee3⟩:=AJ ee2;cases ee3;refine⟨Y,Z,_,x,w9,R,S,e1,λx9 H1 E1 R1 v1 j1=>⟨x9,w9,_,y,x6,R1,S.ext E1,e2,λu9 H2 E2 R2 v2 j2=>?_⟩⟩;obtain⟨n,k,ds,j,rfl,rfl,g1,g2,rfl⟩:=Td e3;have E12:=E1.trans E2;have j1':=j1.ext E2;unfold Is at j1';obtain⟨hlt,rfl⟩:=j1';cases CP j2;obtain⟨w,k1,vs,rfl,k2⟩:=R2.obj n _ g1;obtain⟨E3,R3⟩:=R2.changed (m:=.lst (ds.set j d)) (o:=.lst (vs.set j v)) hlt ⟨_,rfl,k2.set (i1.ext E12) j⟩;exact⟨_,vs,k,j,rfl,rfl,k1,by rw[k2.length];exact g2,q u9 _ (E12.trans E3) R3 O (S.ext (E12.trans E3))⟩
noncomputable def Iv:D->Option Key
 | .int i=>some (.inl i)
 | .str x=>some (.inr x)
 |_=>none
noncomputable def C8:D->M (Nat×List (Key×D))
 | .ref n=>λZ=>match Z[n]? with
  |some (.dK l)=>some ((n,l),Z)
  |_=>none
 |_=>BM
noncomputable def Dy(l:List (Key×D))(k:Key):Option D:=(l.find? λkv=>decide (kv.1=k)).map (·.2)
noncomputable def LN(l:List (Key×D))(k:Key)(d:D):List (Key×D):=
 if (l.any λkv=>decide (kv.1=k))=true then l.map (λkv=>if kv.1=k then (kv.1,d) else kv) else l++[(k,d)]
noncomputable def fQ:Sl->M D:=λ_ Z=>some (.ref Z.length,Z++[.dK []])
theorem YZ:RE X (.Dict [] [] pos) fQ:=RE.wk WS λO H Q h=>by
 obtain⟨Y,Z,B,d,Z',R,S,e,q⟩:=h;cases e;intro p hp;obtain⟨Y',E1,R1,e0⟩:=R.grown (m:=.dK []) (o:=.dK []) hp ⟨[],rfl,rfl⟩;exact q Y' _ E1 R1 _ (by unfold Is;exact⟨by simp,by rw[e0]⟩)
section
variable{K:KW}{Y:Nat->Addr}{k:Nat}{H:Hp}
theorem KVs.val:∀{l:List (Key×D)} {r:List (Key×V)} (y:Key),KVs K Y k H l r->(Dy l y=none/\GV r y=none)∨∃d v,Dy l y=some d/\GV r y=some v/\Is K Y k H d v
 |[],_,y,h=>by cases h;exact .inl ⟨rfl,rfl⟩
 |(z,d)::l,_,y,h=>by
  obtain⟨v,r',rfl,h1,h2⟩:=h;by_cases hz:z=y
  ·subst hz;exact .inr ⟨d,v,by simp[Dy],by simp[GV],h1⟩
  ·have:=KVs.val y h2;simpa[Dy,GV,List.find?_cons,hz] using this
theorem KVs.any:∀{l:List (Key×D)} {r:List (Key×V)} (y:Key),KVs K Y k H l r->(l.any λkv=>decide (kv.1=y))=(r.any λkv=>decide (kv.1=y))
 |[],_,y,h=>by cases h;rfl
 |(z,d)::l,_,y,h=>by
  obtain⟨v,r',rfl,h1,h2⟩:=h;rw[List.any_cons,List.any_cons,KVs.any y h2]
theorem KVs.length:∀{l:List (Key×D)} {r:List (Key×V)},KVs K Y k H l r->r.length=l.length
 |[],_,h=>by cases h;rfl
 |(z,d)::l,_,h=>by
  obtain⟨v,r',rfl,h1,h2⟩:=h;rw[AAH,AAH,KVs.length h2]
theorem KVs.app:∀{l:List (Key×D)} {r:List (Key×V)} {y:Key} {d:D} {v:V},KVs K Y k H l r->Is K Y k H d v->KVs K Y k H (l++[(y,d)]) (r++[(y,v)])
 |[],_,y,d,v,h,h1=>by cases h;exact⟨v,[],rfl,h1,rfl⟩
 |(z,e)::l,_,y,d,v,h,h1=>by
  obtain⟨w,r',rfl,h2,h3⟩:=h;exact⟨w,_,rfl,h2,KVs.app h3 h1⟩
theorem KVs.mapPut:∀{l:List (Key×D)} {r:List (Key×V)} {y:Key} {d:D} {v:V},KVs K Y k H l r->Is K Y k H d v->KVs K Y k H (l.map λkv=>if kv.1=y then (kv.1,d) else kv) (r.map λkv=>if kv.1=y then (kv.1,v) else kv)
 |[],_,y,d,v,h,h1=>by cases h;rfl
 |(z,e)::l,_,y,d,v,h,h1=>by
  obtain⟨w,r',rfl,h2,h3⟩:=h;rw[AAW,AAW];by_cases hz:z=y
  ·subst hz;simp only[if_true];exact⟨v,_,rfl,h1,KVs.mapPut h3 h1⟩
  ·simp only[hz,if_false];exact⟨w,_,rfl,h2,KVs.mapPut h3 h1⟩
theorem KVs.put(h:KVs K Y k H l r)(h1:Is K Y k H d v):KVs K Y k H (LN l y d) (FM r y v):=by
 unfold LN FM;rw[h.any y];split
 ·exact h.mapPut h1
 ·exact h.app h1
theorem HQ(h:Is K Y k H d v)(e:Iv d=some y):v=kV y:=by
 cases d with
 |int i=>cases e;unfold Is at h;exact h
 |str i=>cases e;unfold Is at h;exact h
 |_=>cases e
theorem CN(R:RelH K Y Z H)(i:Is K Y Z.length H d v)(e:C8 d Z=some (r,Z')):Z'=Z/\d=.ref r.1/\Z[r.1]?=some (.dK r.2)/\v=.ref (Y r.1)/\∃kvs,H (Y r.1)=some (.dK kvs)/\KVs K Y Z.length H r.2 kvs:=by
 cases d with
 |ref n=>
  have e:(match Z[n]? with|some (.dK l)=>some ((n,l),Z)|_=>none)=some (r,Z'):=e;split at e
  ·rename_i l hq;cases e;unfold Is at i;obtain⟨u,h1,kvs,rfl,h2⟩:=R.obj n _ hq;exact⟨rfl,rfl,hq,i.2,kvs,h1,h2⟩
  ·cases e
 |_=>cases e
end
noncomputable def NE(d y:D):M D:=bnd (C8 d) λr=>λZ=>((Iv y).bind (Dy r.2)).map λv=>(v,Z)
theorem SI(hr:Room k X.A)(ho:RE X o mo)(hi:RE X i mi)(hs:Xh i:=by exact λ_ _=>rfl):RE X (.Subscript o i pos) (mOp NE mo mi):=RE.wk (Yv (Pc hr) ho.pe hi.pe hs) λO H Q h=>by
 obtain⟨Y,Z,B,d,Z',R,S,e,q⟩:=h;obtain⟨x,w9,e1,ee1⟩:=AJ e;obtain⟨y,x6,e2,ee2⟩:=AJ ee1;obtain⟨r,v7,e3,ee3⟩:=AJ ee2;refine⟨Y,Z,B,x,w9,R,S,e1,λx9 H1 E1 R1 v1 i1=>⟨x9,w9,B,y,x6,R1,S.ext E1,e2,λu9 H2 E2 R2 v2 i2=>?_⟩⟩;obtain⟨hm,_,g1,rfl,kvs,g2,g3⟩:=CN R2 (i1.ext E2) e3;subst hm;cases hk:Iv y with
 |none=>rw[hk] at ee3;cases ee3
 |some ky=>
  rw[hk] at ee3;cases HQ i2 hk;rcases g3.val ky with ⟨z1,_⟩|⟨dd,vv,z1,z2,z3⟩
  ·rw[Option.bind_some,z1] at ee3;cases ee3
  ·rw[Option.bind_some,z1] at ee3;cases ee3;exact⟨_,vv,rfl,by rw[←z2];exact DGet.k g2,q u9 H2 (E1.trans E2) R2 vv z3⟩
noncomputable def XM(d y:D):M D:=bnd (C8 d) λr=>λZ=>(Iv y).map λk=>((Dy r.2 k).getD .non,Z)
noncomputable def G0(d:D):M Unit:=bnd (C8 d) λ_=>ret ()
noncomputable def Lc(mo mi:Sl->M D):Sl->M D:=λB=>bnd (mo B) λx=>bnd (G0 x) λ_=>bnd (mi B) λy=>XM x y
theorem JY(e:G0 d Z=some (u,Z')):Z'=Z/\∃r,C8 d Z=some (r,Z):=by
 obtain⟨r,w9,e1,ee1⟩:=AJ e;cases ee1;cases d with
 |ref n=>
  have e2:(match Z[n]? with|some (.dK l)=>some ((n,l),Z)|_=>none)=some (r,Z'):=e1;split at e2
  ·cases e2;exact⟨rfl,_,e1⟩
  ·cases e2
 |_=>cases e1
theorem V2(hr:Room k X.A)(ho:RE X o mo)(hi:RE X e mi)(m:M1 X o "get" apos e cpos:=by exact⟨rfl,rfl,rfl,rfl⟩):RE X (.Call (.Attribute o "get" apos) [e] [] cpos) (Lc mo mi):=RE.wk (WU (Pc hr) ho.pe hi.pe m) λO H Q h=>by
 obtain⟨Y,Z,B,d,Z',R,S,e,q⟩:=h;obtain⟨x,w9,e1,ee1⟩:=AJ e;obtain⟨u,v9,e4,ee2⟩:=AJ ee1;obtain⟨y,x6,e2,ee3⟩:=AJ ee2;obtain⟨r,v7,e3,ee4⟩:=AJ ee3;obtain⟨hm,r0,e5⟩:=JY e4;subst hm;refine⟨Y,Z,B,x,_,R,S,e1,λx9 H1 E1 R1 v1 i1=>?_⟩;obtain⟨_,_,_,rfl,kvs0,g0,_⟩:=CN R1 i1 e5;refine⟨_,rfl,.inl ⟨kvs0,.inl g0⟩,x9,_,B,y,x6,R1,S.ext E1,e2,λu9 H2 E2 R2 v2 i2=>?_⟩;obtain⟨hm,hx,g1,hv,kvs,g2,g3⟩:=CN R2 (i1.ext E2) e3;subst hm;cases hk:Iv y with
 |none=>rw[hk] at ee4;cases ee4
 |some ky=>
  rw[hk] at ee4;cases ee4;cases HQ i2 hk;have hv':x9 r0.1=u9 r.1:=V.ref.inj hv;rw[hv'];refine⟨GV kvs ky,DGet.k g2,?_⟩;rcases g3.val ky with ⟨z1,z2⟩|⟨dd,vv,z1,z2,z3⟩
  ·rw[z2];rw[z1] at q;exact q u9 H2 (E1.trans E2) R2 _ ofN
  ·rw[z2];rw[z1] at q;exact q u9 H2 (E1.trans E2) R2 vv z3
noncomputable def UM(neg:Bool)(y d:D):M D:=bnd (C8 d) λr=>λZ=>(Iv y).map λk=>(.bl (if neg then !(Dy r.2 k).isSome else (Dy r.2 k).isSome),Z)
theorem aw(h:tE K (mOp (UM false) mi mo) O H Q):d7 (tE K mi) (tE K mo) O H Q:=by
 obtain⟨Y,Z,B,d,Z',R,S,e,q⟩:=h;obtain⟨y,w9,e1,ee1⟩:=AJ e;obtain⟨x,x6,e2,ee2⟩:=AJ ee1;obtain⟨r,v7,e3,ee3⟩:=AJ ee2;refine⟨Y,Z,B,y,w9,R,S,e1,λx9 H1 E1 R1 v1 i1=>⟨x9,w9,B,x,x6,R1,S.ext E1,e2,λu9 H2 E2 R2 v2 i2=>?_⟩⟩;obtain⟨hm,_,g1,rfl,kvs,g2,g3⟩:=CN R2 i2 e3;subst hm;cases hk:Iv y with
 |none=>rw[hk] at ee3;cases ee3
 |some ky=>
  rw[hk] at ee3;cases ee3;cases HQ (i1.ext E2) hk;refine⟨_,GV kvs ky,rfl,DGet.k g2,?_⟩;rcases g3.val ky with ⟨z1,z2⟩|⟨dd,vv,z1,z2,z3⟩
  ·rw[z2];rw[z1] at q;exact q u9 H2 (E1.trans E2) R2 _ (ofB _)
  ·rw[z2];rw[z1] at q;exact q u9 H2 (E1.trans E2) R2 _ (ofB _)
theorem bK(hr:Room k X.A)(hi:RE X i mi)(ho:RE X o mo)(h1:behindInMarks .In o=false:=by first|exact nobehind _ (by decide) (by decide)|rfl):RE X (.Compare i [.In] [o] pos) (mOp (UM false) mi mo):=RE.wk (WW (br (Pc hr) hi.pe ho.pe) h1) λ_ _ _ h=>aw h
noncomputable def O2(mo mi mv:Sl->M D):Sl->M (Fl×Sl):=λB=>bnd (mv B) λv=>bnd (mo B) λx=>bnd (mi B) λy=>bnd (C8 x) λr=>λZ=>match Iv y with
 |some k=>if r.2.length<sizeLine then some ((.next,B),Z.set r.1 (.dK (LN r.2 k v))) else none
 |none=>none
theorem YM(hr:Room k X.A)(ho:RE X o mo)(hi:RE X i mi)(hv:RE X value mv)(hs:swapsWith value (some (.Subscript o i pos')) pos.line X.env=pure false:=by rfl):RS X (.Assign [.Subscript o i pos'] value pos) (O2 mo mi mv):=RS.wk (Yl (Pc hr) ho.pe hi.pe hv.pe hs) λDn O H h=>by
 obtain⟨Y,Z,B,f,B',Z',R,S,e,q⟩:=h;obtain⟨v,w9,e1,ee1⟩:=AJ e;obtain⟨x,x6,e2,ee2⟩:=AJ ee1;obtain⟨y,v7,e3,ee3⟩:=AJ ee2;obtain⟨r,v9,e4,ee4⟩:=AJ ee3;refine⟨Y,Z,B,v,w9,R,S,e1,λx9 H1 E1 R1 v1 i1=>⟨x9,w9,B,x,x6,R1,S.ext E1,e2,λu9 H2 E2 R2 v2 i2=>⟨u9,x6,B,y,v7,R2,S.ext (E1.trans E2),e3,λv8 H3 E3 R3 v3 i3=>?_⟩⟩⟩;obtain⟨hm,hx,g1,hv2,kvs,g2,g3⟩:=CN R3 (i2.ext E3) e4;subst hm;have E13:=(E1.trans E2).trans E3;cases hk:Iv y with
 |none=>rw[hk] at ee4;cases ee4
 |some ky=>
  rw[hk] at ee4;have ee4:(if r.2.length<sizeLine then some ((Fl.next,B),List.set v9 r.1 (MO.dK (LN r.2 ky v))) else none)=some ((f,B'),Z'):=ee4;split at ee4
  ·rename_i hl;cases ee4;cases HQ i3 hk;have hlt:r.1<List.length v9:=(AAT.mp g1).1;obtain⟨E4,R4⟩:=R3.changed (m:=.dK (LN r.2 ky v)) (o:=.dK (FM kvs ky v1)) hlt ⟨_,rfl,g3.put (i1.ext (E2.trans E3))⟩;exact⟨_,_,hv2,DPut.k g2 (by rw[g3.length];exact hl),q v8 _ (E13.trans E4) R4 O (S.ext (E13.trans E4))⟩
  ·cases ee4
noncomputable def gN:D->M (List D)
 | .str x=>ret (x.cps.toList.map λc=>.str ⟨#[c]⟩)
 |_=>BM
noncomputable def PR(m:Sl->M D):Sl->M (List D):=λB=>bnd (m B) gN
theorem ZN:ItM K (Its x) (x.cps.toList.map λc=>.str ⟨#[c]⟩) Y Z H:=by
 intro Y' Z' H' E R;have hl:(x.cps.toList.map λc=>D.str ⟨#[c]⟩).length=x.cps.size:=by simp
 rw[hl];refine⟨λj hj=>hj,rfl,λj v H2 d hd y=>?_⟩;obtain⟨e,c,hc,y⟩:=y;subst e;rw[AAV,Array.getElem?_toList,hc] at hd;cases hd;exact⟨R.ext0,R,by unfold Is;exact y⟩
theorem Vq(h:RE X e m):RI X tg e (PR m):=RI.wk (bZ h.pe) λO H R q=>by
 obtain⟨Y,Z,B,ds,Z',R0,S,e,q⟩:=q;obtain⟨x,w9,e1,ee1⟩:=AJ e;refine⟨Y,Z,B,x,w9,R0,S,e1,λx9 H1 E1 R1 v i1=>?_⟩;cases x with
 |str x=>cases ee1;exact⟨x,CD i1,q x9 H1 E1 R1 _ ZN⟩
 |_=>cases ee1
noncomputable def Dv:Nat->List D->List D
 |_,[]=>[]
 |k,d::ds=>.tup [.int k,d]::Dv (k+1) ds
theorem NA:∀(k:Nat) (ds:List D),(Dv k ds).length=ds.length
 |_,[]=>rfl
 |k,_::ds=>by unfold Dv;simp[NA (k+1) ds]
theorem NB:∀(k:Nat) (ds:List D) (j:Nat),(Dv k ds)[j]?=(ds[j]?).map λd=>.tup [.int ((k+j:Nat):Int),d]
 |_,[],j=>by simp[Dv]
 |k,d::ds,0=>by simp[Dv]
 |k,d::ds,j+1=>by
  unfold Dv;rw[List.getElem?_cons_succ,List.getElem?_cons_succ,NB (k+1) ds j];have:k+1+j=k+(j+1):=by omega
  rw[this]
noncomputable def Su:List D->M (List D)
 |[.lst ds]=>ret ds
 |[.scr ns]=>ret (ns.map D.int)
 |_=>BM
noncomputable def Sd(m:Sl->M (List D)):Sl->M (List D):=λB=>bnd (m B) λas=>bnd (Su as) λds=>ret (Dv 0 ds)
theorem Lg(st:∀Y' (Z':Mh) H',Ext Y Z.length H Y' Z'.length H'->RelH K Y' Z' H'->Cond K H')(i:IsL K Y Z.length H ds vs):
  ItM K (ItP K vs.length (G4 vs) Cond) (Dv 0 ds) Y Z H:=by
 intro Y' Z' H' E R;have h:=st Y' Z' H' E R;rw[NA,←i.length];refine⟨λj hj=>⟨hj,h⟩,⟨rfl,h⟩,λj x H2 d hd y=>?_⟩;obtain⟨T,hT,rfl,rfl⟩:=y;obtain⟨E2,R2⟩:=R.laid (.tup (G4 vs j)) hT;refine⟨E2,R2,?_⟩;rw[NB] at hd;cases q:ds[j]? with
 |none=>rw[q] at hd;cases hd
 |some d0=>
  rw[q] at hd;cases hd;obtain⟨w,ew,iw⟩:=(i.ext E).get q;have e0:vs.getD j V.non=w:=by simp[List.getD,ew]
  have es:G4 vs j=[.int j,w]:=by unfold G4;rw[e0]
  have key:IsL K Y' (List.length Z') (upd H' T (.tup (G4 vs j))) [.int ((0+j:Nat):Int),d0] [.int j,w]:=.cons (by unfold Is;simp) (.one (iw.ext E2));unfold Is;exact⟨T,_,rfl,SqT.of B2,(congrArg (IsL K Y' (List.length Z') (upd H' T (.tup (G4 vs j))) [.int ((0+j:Nat):Int),d0]) es).mpr key⟩
theorem Vs(hm:X.mg "enumerate" = none)(ha:RA X [a] m)(hg:Gl X "enumerate" := by rfl)(hs:starEach [a] X.env=[(false,eval a X.env)]:=by rfl):RI X (.Tuple es k0 tpos) (.Call (.Name "enumerate" p) [a] [] pos) (Sd m):=
 RI.wk (WL hg hm ha.pe hs) λO H R q=>by
  obtain⟨Y,Z,B,ds,Z',R0,S,e,q⟩:=q;obtain⟨xs,w9,e1,ee1⟩:=AJ e;obtain⟨zs,x6,e2,ee2⟩:=AJ ee1;cases ee2;refine⟨Y,Z,B,xs,w9,R0,S,e1,λx9 H1 E1 R1 vs i1=>?_⟩;unfold Su at e2;split at e2
  ·cases e2;obtain⟨v,rfl,i2⟩:=ET i1;unfold Is at i2;obtain⟨p,ws,rfl,h1,hn,h2⟩:=i2;exact⟨p,ws,rfl,SqL.of h1,q x9 H1 E1 R1 _ (Lg (λY' Z' H' E _=>SqL.of (E.keep p _ h1 hn)) h2)⟩
  ·cases e2;obtain⟨v,rfl,i2⟩:=ET i1;unfold Is at i2;obtain⟨p,rfl,h1⟩:=i2;exact⟨p,_,rfl,h1.sq,q x9 H1 E1 R1 _ (Lg (λY' Z' H' E _=>(KH E h1).sq) (IsL.ofInts _))⟩
  ·cases e2
noncomputable def IQ:List D->Option (List Bool)
 |[]=>some []
 | .bl b::ds=>(IQ ds).map (b::·)
 |_=>none
theorem OP:∀{ds:List D} {vs:List V} {bs:List Bool},IsL K Y k H ds vs->IQ ds=some bs->vs=bs.map V.bl
 |[],_,_,h,e=>by cases e;unfold IsL at h;exact h
 | .bl b::ds,_,_,h,e=>by
  unfold IsL at h;obtain⟨v,vs',rfl,h1,h2⟩:=h;unfold IQ at e;cases q:IQ ds with
  |none=>rw[q] at e;cases e
  |some bs=>
   rw[q] at e;cases e;unfold Is at h1;rw[h1,OP h2 q];rfl
 | .non::_,_,_,_,e=>by cases e
 | .int _::_,_,_,_,e=>by cases e
 | .str _::_,_,_,_,e=>by cases e
 | .ty _::_,_,_,_,e=>by cases e
 | .scr _::_,_,_,_,e=>by cases e
 | .tup _::_,_,_,_,e=>by cases e
 | .lst _::_,_,_,_,e=>by cases e
 | .ref _::_,_,_,_,e=>by cases e
noncomputable def RB:List D->M D
 |[.lst ds]=>λZ=>(IQ ds).map λbs=>(.bl (bs.all id),Z)
 |_=>BM
noncomputable def Xf:List D->M D
 |[.lst ds]=>λZ=>(IQ ds).map λbs=>(.bl (bs.any id),Z)
 |_=>BM
theorem aM(hc:X.calm=true):CS X (.builtin "all") (rMA X.kw RB):=λw6 s O H xs us Q I r h=>by
 obtain⟨Y,Z,as,d,Z',R,ia,e,q⟩:=h;refine UX hc w6 s O H xs us Q I r ?_;unfold RB at e;split at e
 ·rename_i ds;cases hb:IQ ds with
  |none=>rw[hb] at e;cases e
  |some bs=>
   rw[hb] at e;cases e;obtain⟨v,rfl,i1⟩:=ET ia;unfold Is at i1;obtain⟨p,vs,rfl,h1,_,h2⟩:=i1;exact⟨p,bs,rfl,SqL.of (by rw[←OP h2 hb];exact h1),q Y H R.ext0 R _ (ofB _)⟩
 ·cases e
theorem gL(hc:X.calm=true):CS X (.builtin "any") (rMA X.kw Xf):=λw6 s O H xs us Q I r h=>by
 obtain⟨Y,Z,as,d,Z',R,ia,e,q⟩:=h;refine UW hc w6 s O H xs us Q I r ?_;unfold Xf at e;split at e
 ·rename_i ds;cases hb:IQ ds with
  |none=>rw[hb] at e;cases e
  |some bs=>
   rw[hb] at e;cases e;obtain⟨v,rfl,i1⟩:=ET ia;unfold Is at i1;obtain⟨p,vs,rfl,h1,_,h2⟩:=i1;exact⟨p,bs,rfl,SqL.of (by rw[←OP h2 hb];exact h1),q Y H R.ext0 R _ (ofB _)⟩
 ·cases e
end
theorem Au:bootBuiltins "len" = some (.builtin "len"):=by decide +kernel
theorem Bd:bootBuiltins "isinstance" = some (.builtin "isinstance"):=by decide +kernel
theorem Lx:bootBuiltins "max" = some (.builtin "max"):=by decide +kernel
theorem Px:bootBuiltins "min" = some (.builtin "min"):=by decide +kernel
theorem Py:bootBuiltins "all" = some (.builtin "all"):=by decide +kernel
theorem XZ:bootBuiltins "any" = some (.builtin "any"):=by decide +kernel
theorem Ck:bootBuiltins "int" = some (.type "int"):=by decide +kernel
theorem Bg:bootBuiltins "str" = some (.type "str"):=by decide +kernel
theorem UY:bootBuiltins "bool" = some (.type "bool"):=by decide +kernel
theorem DR:bootBuiltins "tuple" = some (.type "tuple"):=by decide +kernel
theorem Jg:bootBuiltins "dict" = some (.type "dict"):=by decide +kernel
theorem XY:bootBuiltins "set" = some (.type "set"):=by decide +kernel
noncomputable def c9:Nat:=1048576
structure Fn(P:Program)(w:World)(K:PySem.W.Frag)(mg:Str->Option Value)(base:Heap)(x:Str)(ps:List Str)(k:Nat)(φ:List D->M D):Prop where
 len:∀ds Z r,φ ds Z=some r->ds.length=ps.length
 ex:∃f fd,FnOk P w K mg base CX0 k f fd ps (spM ⟨K,w⟩ ps.length φ)/\mg x=some (.ref f)/\PySem.W.keepIn K (.ref f)=true/\Binds K fd ps []
def Glo(K:PySem.W.Frag)(mg:Str->Option Value)(x:Str)(d:D):Prop:=∃u v,mg x=some u/\RelV v u/\∀w Y k H,Is ⟨K,w⟩ Y k H d v
section
variable{X:Cx}{e:Expr}{es:List Expr}{pos p:Pos}
theorem AY(F:Fn X.prog X.w X.kw X.mg X.base x ps k φ)(hr:Room j X.A)(ha:RA X (e::es) m)(hkj:k<=j:=by decide)(hg:Gl X x:=by rfl)(hdb:(x==("__debug__" : Str))=false:=by decide)
  (he:starEach (e::es) X.env=(false,eval e X.env)::starEach es X.env:=by exact BG rfl) (hpl:(backTo pos (starEach es X.env)).any (·.1)=false:=by exact Bb rfl):RE X (.Call (.Name x p) (e::es) [] pos) (AF φ m):=by
 obtain⟨len,f,fd,F,hm,hk,hb⟩:=F;exact Ya F (hr.mono hkj) hm hk hb len ha hg hdb he hpl
theorem Cq(h:Glo X.kw X.mg x d)(hg:Gl X x:=by rfl)(hdb:(x==("__debug__" : Str))=false:=by decide):RE X (.Name x pos) (mC d):=by
 obtain⟨u,v,hm,r,hd⟩:=h;exact YY hm r (hd _) hg hdb
end
theorem dA(F:Fun K x qual st f fd)(S:Ak N ps (AQ st))(hm:mg x=some (.ref f))(hb:Binds K fd ps [])
  (body:∀(cdv:Value) (A:Around) (outer:List Env) (s:Shared) (H:Hp) (E:XK),Room k (A.deeper (PyProof.Rows.envOfC qual (AQ st) s.heap.objs.size f cdv))->RSs (IM CX0 P w K mg base N qual (AQ st) f cdv A outer s H E).nox (CL st) mb)
  (len:∀ds Z r,φ ds Z=some r->ds.length=ps.length)
  (run:∀ds Z d Z',φ ds Z=some (d,Z')->∃fl x8 x6,mb (BI N.length ds) Z=some ((fl,x8),x6)/\(fl=.next∨∃d,fl=.rt d)/\FZ Z x6 Z' (FL fl) d):Fn P w K mg base x ps (k+1) φ:=
 ⟨len,f,fd,M6 F S rfl body run,hm,F.kp,hb⟩
theorem Hv(h:Cl Z.length d):FZ Z (Z++g) Z d d:=⟨⟨g,rfl⟩,AAE _,λ_ _ e=>.inl e,.inl ⟨rfl,h⟩⟩
section
variable{X:Cx}{e i:Expr}{es:List Expr}{pos p:Pos}
structure Ub(w:World)(K:PySem.W.Frag)(mg:Str->Option Value)(x:Str)(t:Str->Option D):Prop where
 ex:∃ad,mg x=some (.ref ad)/\∀y:Str,∃r,KGet w.params K ad (.str y) r/\((t y=none/\r=none)∨∃d v,t y=some d/\r=some v/\∀Y k H,Is ⟨K,w⟩ Y k H d v)
noncomputable def Si(t:Str->Option D):D->M D
 | .str y=>λZ=>(t y).map λd=>(d,Z)
 |_=>BM
noncomputable def ZK(t:Str->Option D):D->M D
 | .str y=>λZ=>some (.bl (t y).isSome,Z)
 |_=>BM
theorem SH(k:Ub X.w X.kw X.mg x t)(hi:RE X i mi)(hg:Gl X x:=by rfl)(hdb:(x==("__debug__" : Str))=false:=by decide)(hs:Xh i:=by exact λ_ _=>rfl):RE X (.Subscript (.Name x p) i pos) (mUn (Si t) mi):=by
 obtain⟨ad,hm,kk⟩:=k;refine RE.wk (Yt (KK (v:=.ref ad) hg hm rfl hdb) hi.pe hs) λO H Q h=>?_;obtain⟨Y,Z,B,d,Z',R,S,e,q⟩:=h;obtain⟨y,w9,e1,e2⟩:=AJ e;refine⟨Y,Z,B,y,w9,R,S,e1,λx9 H1 E1 R1 v1 i1=>?_⟩;cases y with
 |str y=>
  cases CD i1;obtain⟨r,g,z⟩:=kk y;rcases z with ⟨z1,_⟩|⟨d0,v0,z1,rfl,z3⟩
  ·have e3:(t y).map (λd=>(d,w9))=some (d,Z'):=e2;rw[z1] at e3;cases e3
  ·have e3:(t y).map (λd=>(d,w9))=some (d,Z'):=e2;rw[z1] at e3;cases e3;exact⟨ad,v0,rfl,g,q x9 H1 E1 R1 v0 (z3 _ _ _)⟩
 |_=>cases e2
theorem av{K:KW}{w:World}{t:Str->Option D}{mi:Sl->M D}(kk:∀y:Str,∃r,KGet w.params K ad (.str y) r/\((t y=none/\r=none)∨∃d v,t y=some d/\r=some v/\∀Y k H,Is K Y k H d v))
  (h:tE K (mUn (ZK t) mi) O H Q):dv w.params K (tE K mi) (tC (.ref ad)) O H Q:=by
 obtain⟨Y,Z,B,d,Z',R,S,e,q⟩:=h;obtain⟨y,w9,e1,e2⟩:=AJ e;refine⟨Y,Z,B,y,w9,R,S,e1,λx9 H1 E1 R1 v1 i1=>?_⟩;cases y with
 |str y=>
  cases CD i1;obtain⟨r,g,z⟩:=kk y;cases e2;rcases z with ⟨z1,rfl⟩|⟨d0,v0,z1,rfl,z3⟩
  ·exact⟨ad,none,rfl,g,by rw[z1] at q;exact q x9 H1 E1 R1 _ (ofB _)⟩
  ·exact⟨ad,some v0,rfl,g,by rw[z1] at q;exact q x9 H1 E1 R1 _ (ofB _)⟩
 |_=>cases e2
theorem bH(k:Ub X.w X.kw X.mg x t)(hi:RE X i mi)(hg:Gl X x:=by rfl)(hdb:(x==("__debug__" : Str))=false:=by decide)(h1:behindInMarks .In (.Name x p)=false:=by first|exact nobehind _ (by decide) (by decide)|rfl):RE X (.Compare i [.In] [.Name x p] pos) (mUn (ZK t) mi):=by
 obtain⟨ad,hm,kk⟩:=k;exact RE.wk (WW (bq hi.pe (KK (v:=.ref ad) hg hm rfl hdb)) h1) λO H Q h=>av kk h
noncomputable def hV:D->M D
 | .str x=>λZ=>if x.length<=sizeLine then some (.str x,Z) else none
 |_=>BM
noncomputable def ZD(m:Sl->M D):Sl->M D:=mUn hV m
theorem bJ(h:RE X e m):RE X (.FormattedValue e (-1) none pos) (ZD m):=RE.wk (bm h.pe) λO H Q h=>by
 obtain⟨Y,Z,B,d,Z',R,S,e,q⟩:=h;obtain⟨y,w9,e1,e2⟩:=AJ e;refine⟨Y,Z,B,y,w9,R,S,e1,λx9 H1 E1 R1 v1 i1=>?_⟩;cases y with
 |str y=>
  have e3:(if y.length<=sizeLine then some (D.str y,w9) else none)=some (d,Z'):=e2;split at e3
  ·rename_i hl;cases e3;exact .inl ⟨y,CD i1,hl,q x9 H1 E1 R1 _ (ofS _)⟩
  ·cases e3
 |_=>cases e2
noncomputable def JW:List (Sl->M D)->Str->Sl->M D
 |[],out=>λ_=>bnd (lim out.length) λ_=>ret (.str out)
 |m::r,out=>λB=>bnd (m B) λd=>match d with
  | .str y=>bnd (lim (out++y).length) λ_=>JW r (out++y) B
  |_=>BM
noncomputable def Sc(ms:List (Sl->M D)):Sl->M D:=JW ms Str.empty
structure RJ(X:Cx)(es:List Expr)(ms:List (Sl->M D)):Prop where
 pe:PJ X es (ms.map (tE X.kw))
theorem bD:RJ X [] []:=⟨bX⟩
theorem SB(h:RE X e m)(hr:RJ X es ms):RJ X (e::es) (m::ms):=⟨Yp h.pe hr.pe⟩
theorem Rs:∀{ms:List (Sl->M D)} {out:Str} {O:St} {H:Hp} {Q:VK},tE K (JW ms out) O H Q->Rq (ms.map (tE K)) out O H Q
 |[],out,O,H,Q,h=>by
  obtain⟨Y,Z,B,d,Z',R,S,e,q⟩:=h;obtain⟨_,w9,e1,e2⟩:=AJ e;obtain⟨hl,hm⟩:=Cy e1;subst hm;cases e2;exact⟨hl,q Y H R.ext0 R _ (ofS _)⟩
 |m::ms,out,O,H,Q,h=>by
  obtain⟨Y,Z,B,d,Z',R,S,e,q⟩:=h;obtain⟨y,w9,e1,e2⟩:=AJ e;refine⟨Y,Z,B,y,w9,R,S,e1,λx9 H1 E1 R1 v1 i1=>?_⟩;cases y with
  |str y=>
   obtain⟨_,x6,e3,e4⟩:=AJ e2;obtain⟨hl,hm⟩:=Cy e3;subst hm;exact⟨y,CD i1,hl,Rs ⟨x9,_,B,d,Z',R1,S.ext E1,e4,λu9 H2 E2 R2=>q u9 H2 (E1.trans E2) R2⟩⟩
  |_=>cases e2
theorem Ti(h:RJ X (e::e2::es) (m::m2::ms)):RE X (.JoinedStr (e::e2::es) pos) (Sc (m::m2::ms)):=RE.wk (Tq h.pe) λO H Q h=>Rs h
end
end Mi
namespace L2
open PySem PySem.Spec PyProof.Rows Sem
section
variable{prog:Program}{w:World}{A:Around}{E:Value->Shared->Prop}{s:Shared}
theorem DK[Decidable c](h:¬c)(hb:wpAny M A b Q E s):wpAny M A (if c then a else b) Q E s:=by
 rw[if_neg h];exact hb
theorem Os(hh:A.handled=none)(hit:s.heap.IsTupleIter it t i)(ht:s.heap.IsTuple t items)
  (more:∀x h',items[i]?=some x->h'.IsTupleIter it t (i+1)->Heap.SameBut it s.heap h'->Q x { s with heap:=h' })
  (over:items[i]?=none->∀h' e,Heap.ExtBut it s.heap h'->(∃o,h'.get? e=some o/\o.cls=.type "StopIteration")->E (.ref e) { s with heap:=h' }) :
  wpAny (model prog w) A (Builtin.SmallTypes.nextOf (.ref it)) Q E s:=by
 have ty:=hit.typeIs;obtain⟨o,at_it,hc,hd⟩:=hit;obtain⟨ot,at_t,_,n,hdt⟩:=ht;have put:∀(k:Nat) (v:Value),(s.heap.update it (Obj.mapFields (λfs=>fs.set! k v))).get? it=some (Obj.mapFields (λfs=>fs.set! k v) o):=λk v=>Heap.get?_update_self _ at_it (Obj.isFreed_of_fields (Obj.data_mapFields hd _));unfold Builtin.SmallTypes.nextOf;refine AAA (wpAny_callSpecial?_slot ty F.slot_tuple_iterator_next (AAb F.slot_tuple_iterator_next ty F.entry_tuple_iterator_next ?_ (F.args_tuple_iterator_next_1 _)));have notNone:¬(Value.ref t==Value.none)=true:=AAf;refine AAA (m:=field (.ref it) 0) (AAt at_it hd (x:=.ref t) rfl ?_);refine DK notNone ?_;refine AAA (m:=field (.ref it) 1) (AAt at_it hd (x:=.int i 0) rfl (AAA (m:=seqItems? (.ref t)) (AAu at_t hdt ?_)));have ei:((i:Int)).toNat=i:=Int.toNat_natCast i;cases hx:items[i]? with
 |some x=>
  dsimp only;rw[ei,hx];refine AAA (wpAny_setField at_it hd (by simp) (AAB ⟨x,rfl,AAB (more x _ hx ⟨_,put _ _,?_,?_⟩ (Heap.SameBut.update ..))⟩))
  ·exact(Obj.cls_mapFields ..).trans hc
  ·rw[Obj.data_mapFields hd];rfl
 |none=>
  dsimp only;rw[ei,hx];refine AAA (wpAny_rule (AAA (wpAny_setField at_it hd (by simp) ?_)));have first:firstArgMember (.type "StopIteration") []=pure Value.none:=by first|rfl|(unfold firstArgMember;rfl)
  unfold Builtin.SmallTypes.stopIteration newExc newTuple;refine AAA (AAA (AAp (AAA (AAs first (AAp (wpAny_raiseNew_none hh ?_) (by size_fits)))) (by size_fits)));exact over hx _ _ (((Heap.SameBut.update ..).extBut.push _).push _) ⟨_,AAD _ rfl,rfl⟩
theorem NC(hh:A.handled=none)(it t:Addr)(hne:t≠it)(items:Array Value):
  Draws prog w A it [it,t] items.size (λi v=>items[i]?=some v) (λi h=>h.IsTupleIter it t i/\h.IsTuple t items):=by
 refine⟨λi h st=>?_,λi h h' st k=>⟨?_,?_⟩,λi s Q E hi st q=>?_,λs Q E st q=>?_⟩
 ·obtain⟨⟨o,e,_⟩,_⟩:=st;exact⟨o,e⟩
 ·obtain⟨⟨o,e,r⟩,_⟩:=st;exact⟨o,k it (by simp) o e,r⟩
 ·obtain⟨_,⟨o,e,r⟩⟩:=st;exact⟨o,k t (by simp) o e,r⟩
 ·exact Os hh st.1 st.2 (λx h' hx st' sb=>q x h' s.toks hx ⟨st',st.2.extBut sb.extBut hne⟩ sb) λno=>absurd no (by simp[hi])
 ·exact Os hh st.1 st.2 (λx h' hx=>absurd hx (by simp)) λ_ h' e eb so=>q h' e eb so
noncomputable abbrev JA(it:Addr):Obj:={ cls:=.type "enumerate",data:=.fields #[.none,.bool false,.ref it,rawInt 0,.none,.none] }
theorem XH(v:Value)(ob:Obj)(good:Heap->Prop)(hv:∀(prog:Program) (w:World) (A:Around) (E:Value->Shared->Prop) (s:Shared) (Q:Value->Shared->Prop),good s.heap->Q (.ref s.heap.objs.size) { s with heap:=s.heap.push ob }->wpAny (model prog w) A (pyIter v) Q E s):
  Meets (Builtin.«enumerate.__new__» ⟨[.type "enumerate",v],[]⟩) (λ_ R s=>good s.heap/\R (.ok (.ret (.ref (s.heap.push ob).objs.size))) { s with heap:=(s.heap.push ob).push (JA s.heap.objs.size) }):=by
 refine .of_wp λprog w A R s ⟨g,q⟩=>?_;have own:=sub_enumerate;have walk:∀(A:Around) (E:Value->Shared->Prop) (Q:Value->Shared->Prop),Q (.ref s.heap.objs.size) { s with heap:=s.heap.push ob }->wpAny (model prog w) A (pyIter v) Q E s:=λA E Q z=>hv prog w A E s Q g z;obtain⟨hp,gs,dr,tk,os⟩:=s
 wp_walk
 refine wpAny_stack_any λst=>AAB ?_;split
 ·rename_i c _ _ _ _ _;cases (c==Value.type "enumerate")<;>(wp_walk using walk;exact⟨_,rfl,q⟩)
 ·wp_walk using walk
  exact⟨_,rfl,q⟩
end
end L2
namespace L2
open PySem PySem.Spec PyProof.Rows
theorem QU{P:Program}{w:World}{K:PySem.W.Frag}(a e it:Addr)(xs:List V)(hei:e≠it)(hea:e≠a)(hai:a≠it):
  L4 P w K (.Tuple es k0 pos) (ItP K xs.length (G4 xs) λK H=>SqT K H a xs) [e,it] e (λi h=>(∃old,IsEnum h e it i old)/\h.IsTupleIter it a i):=by
 refine Ks (Y:=List Value) (fp:=[e,it,a]) (Mid:=λits i T h=>(∃x,IsEnumOut h e it ((i:Int)+1) x T)/\(h.IsTupleIter it a (i+1)/\h.IsTuple a its.toArray)/\T≠e/\T≠it) (good:=λits=>Vals xs its) (Pt:=λits i vals=>∃t x,its.toArray[i]?=some x/\vals=#[.int i t,x]) (Sw:=λits i h=>(∃old,IsEnum h e it i old)/\h.IsTupleIter it a i/\h.IsTuple a its.toArray)
  (λA hA its r=>?walk) AAP (λits i vals r h=>Lm r h) (λi=>(by show 2<=sizeLine;decide)) (λi h st=>?obj) (λi h h' st k=>?keep) (λX w6 O H s i hP hw hK I hc st=>?into) (λz i h st=>⟨st.1,st.2.1⟩) (λA i s Q E st h=>?self)
 case walk=>
  have hl:xs.length=its.toArray.size:=by rw[List.size_toArray];exact r.length
  have D:=NC (prog:=P) (w:=w) (A:=A.in1) hA it a hai its.toArray;rw[hl];exact WalksT.enumerateD D e hei (by simp[hei,hea]) (by simp)
 case obj=>
  obtain⟨o,ho,_,hd⟩:=st.2;exact XI st.1 ho ⟨_,hd⟩
 case keep=>
  obtain⟨⟨old,q⟩,o,ho,r⟩:=st;exact⟨⟨old,k e (by simp) _ q⟩,o,k it (by simp) o ho,r⟩
 case into=>
  subst hK;obtain⟨its,r,p,_⟩:=I.tuple hc;exact⟨its,r,st.1,st.2,p⟩
 case self=>exact S5 (f:=λi h=>h.IsTupleIter it a i) A i s Q E st h
section
variable{X:Cx}{es:List Expr}{k0:Nat}{tpos:Pos}
noncomputable def cz(K:PySem.W.Frag)(ta:TA):TI:=λO H R=>ta O H λvs H1=>∃a xs,vs=[.ref a]/\SqT K H1 a xs/\R (ItP K xs.length (G4 xs) λK H=>SqT K H a xs) H1
theorem WK(hg:Gl X "enumerate")(hm:X.mg "enumerate" = none)(ha:PA X [a] ta)(hs:starEach [a] X.env=[(false,eval a X.env)]:=by rfl):PI X (.Tuple es k0 tpos) (.Call (.Name "enumerate" p) [a] [] pos) (cz X.kw ta):=by
 intro w6 s O H R I h;refine Call_ (Gy I hg hm NH (PyProof.Rows.callWith_type1 (thn (ha pos w6 s O H _ I h) λus s1 ⟨vs,H1,I1,r1,q1⟩=>?_) hs rfl));obtain⟨l,xs,ev,hq,q⟩:=q1;subst ev;obtain⟨u,eu,ru⟩:=DX r1;subst eu;cases ru;obtain⟨its,rv,pl,hz⟩:=I1.tuple hq;have lt:l<s1.heap.objs.size:=by obtain⟨o,e,_⟩:=pl;exact Heap.lt_size e
 have new:=XH (.ref l) { cls:=.type "tuple_iterator",data:=.fields #[.ref l,.int 0 0] } (λh=>h.IsTuple l its.toArray) (λ_ _ _ _ _ _ g z=>wpAny_pyIter_tuple g z);refine callType_new F.called_enumerate (by decide) (F.typeCall_enumerate_1 _) (F.newCall_enumerate_1 _) (λobj=>F.args_object_init_2 obj _) F.entry_enumerate_new new ⟨pl,?_⟩;generalize hG:s1.heap.push { cls:=.type "tuple_iterator",data:=.fields #[.ref l,.int 0 0] }=G;have hsz:G.objs.size=s1.heap.objs.size+1:=by rw[←hG];exact Heap.size_push ..
 have at_e:(G.push (JA s1.heap.objs.size)).get? (s1.heap.objs.size+1)=some (JA s1.heap.objs.size):=by rw[←hsz];exact AAD _ rfl
 have he:IsEnum (G.push (JA s1.heap.objs.size)) (s1.heap.objs.size+1) s1.heap.objs.size 0 .none:=at_e;have at_i:(G.push (JA s1.heap.objs.size)).IsTupleIter s1.heap.objs.size l 0:=⟨_,AAC _ (hG ▸ AAD _ rfl),rfl,rfl⟩;show _/\_;rw[hsz];refine⟨⟨_,at_e,rfl⟩,wpAny_pyIter_enum he ?_⟩;refine⟨s1.heap.objs.size+1,[s1.heap.objs.size+1,s1.heap.objs.size],λi h=>(∃old,IsEnum h (s1.heap.objs.size+1) s1.heap.objs.size i old)/\h.IsTupleIter s1.heap.objs.size l i,_,H1,rfl,I1.kept (t':=s1.toks) λb o x=>AAC _ (hG ▸ AAC _ x),?_,⟨⟨_,he⟩,at_i⟩,VM I1,q⟩;exact QU l _ _ xs (Nat.succ_ne_self _) (Nat.ne_of_gt (AAg lt)) (AAc lt)
end
end L2
namespace Mi
open PySem L2
section
variable{X:Cx}{a:Expr}{es:List Expr}{pos:Pos}
noncomputable def VP:List D->M (List D)
 |[.tup ds]=>ret ds
 |_=>BM
noncomputable def Wq(m:Sl->M (List D)):Sl->M (List D):=λB=>bnd (m B) λas=>bnd (VP as) λds=>ret (Dv 0 ds)
theorem Vr(hm:X.mg "enumerate" = none)(ha:RA X [a] m)(hg:Gl X "enumerate" := by rfl)(hs:starEach [a] X.env=[(false,eval a X.env)]:=by exact BG rfl):RI X (.Tuple es k0 tpos) (.Call (.Name "enumerate" p) [a] [] pos) (Wq m):=
 RI.wk (WK hg hm ha.pe hs) λO H R q=>by
  obtain⟨Y,Z,B,ds,Z',R0,S,e,q⟩:=q;obtain⟨xs,w9,e1,e2⟩:=AJ e;obtain⟨zs,x6,e3,e4⟩:=AJ e2;cases e4;refine⟨Y,Z,B,xs,w9,R0,S,e1,λx9 H1 E1 R1 vs i1=>?_⟩;unfold VP at e3;split at e3
  ·cases e3;obtain⟨v,rfl,i2⟩:=ET i1;unfold Is at i2;obtain⟨p,ws,rfl,h1,h2⟩:=i2;exact⟨p,ws,rfl,h1,q x9 H1 E1 R1 _ (Lg (λY' Z' H' E _=>HM E h1) h2)⟩
  ·cases e3
end
end Mi
namespace L2
open PySem PySem.Spec PyProof.Rows Sem
def TwoAt(h:Heap)(T:Addr)(a b:Value):Prop:=∃n,h.get? T=some { cls:=.type "tuple",data:=.seq #[a,b] n }
noncomputable abbrev Et(TI TO:Addr)(f0:Value):Obj:={ cls:=.type "zip",data:=.fields #[f0,.bool false,.bool false,.ref TI,.ref TO] }
theorem TwoAt.keep(x:TwoAt h T a b)(k:∀o,h.get? T=some o->h'.get? T=some o):TwoAt h' T a b:=by
 obtain⟨n,e⟩:=x;exact⟨n,k _ e⟩
section
variable{prog:Program}{w:World}{A:Around}{E:Value->Shared->Prop}{s:Shared}
theorem Rm(t:TwoAt s.heap T a b)(sh:(#[a,b]:Array Value).setIfInBounds k x=#[c,d])(h:∀h',TwoAt h' T c d->Heap.SameBut T s.heap h'->Q () { s with heap:=h' }):
  wpAny (model prog w) A (updateSeq T λxs=>xs.setIfInBounds k x) Q E s:=by
 obtain⟨n,e⟩:=t;refine wpAny_updateSeq e rfl (h _ ⟨n,?_⟩ (Heap.SameBut.update ..)) (by simp[sizeLine]) (by simp[sizeLine]);rw[Heap.get?_update_self _ e rfl];show some ({ cls:=.type "tuple",data:=.seq ((#[a,b]:Array Value).setIfInBounds k x) (if (((#[a,b]:Array Value).setIfInBounds k x).size==(#[a,b]:Array Value).size)=true then n else n+1) }:Obj)=_;rw[sh];rfl
structure L3(z TI TO i1 i2:Addr)(f1 f2:List Addr):Prop where
 zTI:z≠TI
 zTO:z≠TO
 io:TI≠TO
 z1:z∉f1
 z2:z∉f2
 o1:TO∉f1
 o2:TO∉f2
 n1:TI≠i1
 n2:TI≠i2
 m1:i1∈f1
 m2:i2∈f2
 x12:i1∉f2
 x21:i2∉f1
theorem Uf{z TI TO i1 i2:Addr}{n k:Nat}{a b:Value}{f1 f2:List Addr}{Q:Value->Shared->Prop}(ap:L3 z TI TO i1 i2 f1 f2)
  (D1:Draws prog w A.in1 i1 f1 n P1 S1) (D2:Draws prog w A.in1 i2 f2 n P2 S2) (hk:k<n)
  (hz:s.heap.get? z=some (Et TI TO .none)) (hI:TwoAt s.heap TI (.ref i1) (.ref i2)) (hO:TwoAt s.heap TO a b) (s1:S1 k s.heap) (s2:S2 k s.heap)
  (q:∀x y T h' tk,P1 k x->P2 k y->s.heap.objs.size<=T->h'.IsTuple T #[x,y]->h'.get? z=some (Et TI TO (rawInt T))->TwoAt h' TI (.ref i1) (.ref i2)->TwoAt h' TO x y->S1 (k+1) h'->S2 (k+1) h'->(∀c o,c≠z->c≠TO->c≠i1->c≠i2->s.heap.get? c=some o->h'.get? c=some o)->Q (.ref T) { s with heap:=h',toks:=tk }) :
  wpAny (model prog w) A.in1 (Builtin.«zip.__next__» ⟨[.ref z],[]⟩) (λfin s'=>∃v,fin=.done (.ret v)/\Q v s') E s:=by
 obtain⟨nI,eI⟩:=id hI;refine AAA (m:=field (.ref z) 2) (AAt hz rfl (x:=.bool false) rfl ?_);refine AAA (m:=field (.ref z) 3) (AAt hz rfl (x:=.ref TI) rfl ?_);refine AAA (m:=seqItems? (.ref TI)) (AAu eI rfl ?_);refine DK (by simp) ?_;refine AAA (m:=Builtin.SmallTypes.ownedTupleIsFree (.ref z)) ?_;unfold Builtin.SmallTypes.ownedTupleIsFree;refine AAA (m:=field (.ref z) 0) (AAt hz rfl (x:=.none) rfl (AAB ?_));rw[if_pos rfl];refine AAA (wpAny_rule ?_);refine AAA (m:=field (.ref z) 4) (AAt hz rfl (x:=.ref TO) rfl ?_);refine AAA (AAo hz (by simp) λh1 z1 b1=>?_);have k1:∀c o,c≠z->s.heap.get? c=some o->h1.get? c=some o:=λc o hc e=>(b1.2 c hc).trans e;have z1':h1.get? z=some (Et TI TO .ellipsis):=z1;have hI1:=hI.keep (h':=h1) λo e=>k1 TI o ap.zTI.symm e;have hO1:=hO.keep (h':=h1) λo e=>k1 TO o ap.zTO.symm e;have s11:=D1.frame _ _ h1 s1 λc hc o e=>k1 c o (λy=>ap.z1 (y ▸ hc)) e;have s21:=D2.frame _ _ h1 s2 λc hc o e=>k1 c o (λy=>ap.z2 (y ▸ hc)) e;refine AAA (m:=forIn [(Value.ref i1,0),(Value.ref i2,1)] _ _) ?_;rw[List.forIn_cons];refine AAA (AAA (wpAny_onRaise (AAA (D1.item k { s with heap:=h1 } _ _ hk s11 λx h2 t2 px s12 b2=>AAB ?_))));have k2:∀c o,c≠i1->h1.get? c=some o->h2.get? c=some o:=λc o hc e=>(b2.2 c hc).trans e;have ne1:∀{c:Addr},c∉f1->c≠i1:=λhc y=>hc (y ▸ ap.m1);have ne2:∀{c:Addr},c∉f2->c≠i2:=λhc y=>hc (y ▸ ap.m2);have hO2:=hO1.keep (h':=h2) λo e=>k2 TO o (ne1 ap.o1) e;have hI2:=hI1.keep (h':=h2) λo e=>k2 TI o ap.n1 e;have z2:=k2 z _ (ne1 ap.z1) z1';have s22:=D2.frame _ _ h2 s21 λc hc o e=>k2 c o (λy=>ap.x12 (y ▸ hc)) e;obtain⟨nO,eO⟩:=id hO2;refine AAA (m:=seqItems? (.ref TO)) (AAu eO rfl ?_);refine AAA (Rm (s:={ s with heap:=h2,toks:=t2 }) (c:=x) (d:=b) hO2 rfl λh3 hO3 b3=>AAA (wpAny_letGo (AAB ?_)));have k3:∀c o,c≠TO->h2.get? c=some o->h3.get? c=some o:=λc o hc e=>(b3.2 c hc).trans e;have hI3:=hI2.keep (h':=h3) λo e=>k3 TI o ap.io e;have z3:=k3 z _ ap.zTO z2;have s13:=D1.frame _ _ h3 s12 λc hc o e=>k3 c o (λy=>ap.o1 (y ▸ hc)) e;have s23:=D2.frame _ _ h3 s22 λc hc o e=>k3 c o (λy=>ap.o2 (y ▸ hc)) e;show wpAny _ _ (forIn [(Value.ref i2,1)] _ _) _ _ _;rw[List.forIn_cons];refine AAA (AAA (wpAny_onRaise (AAA (D2.item k { s with heap:=h3,toks:=t2 } _ _ hk s23 λy h4 t4 py s24 b4=>AAB ?_))));have k4:∀c o,c≠i2->h3.get? c=some o->h4.get? c=some o:=λc o hc e=>(b4.2 c hc).trans e;have hO4:=hO3.keep (h':=h4) λo e=>k4 TO o (ne2 ap.o2) e;have hI4:=hI3.keep (h':=h4) λo e=>k4 TI o ap.n2 e;have z4:=k4 z _ (ne2 ap.z2) z3;have s14:=D1.frame _ _ h4 s13 λc hc o e=>k4 c o (λy=>ap.x21 (y ▸ hc)) e;obtain⟨nO4,eO4⟩:=id hO4;refine AAA (m:=seqItems? (.ref TO)) (AAu eO4 rfl ?_);refine AAA (Rm (s:={ s with heap:=h4,toks:=t4 }) (c:=x) (d:=y) hO4 rfl λh5 hO5 b5=>AAA (wpAny_letGo (AAB ?_)));have k5:∀c o,c≠TO->h4.get? c=some o->h5.get? c=some o:=λc o hc e=>(b5.2 c hc).trans e;have hI5:=hI4.keep (h':=h5) λo e=>k5 TI o ap.io e;have z5:=k5 z _ ap.zTO z4;have s15:=D1.frame _ _ h5 s14 λc hc o e=>k5 c o (λy=>ap.o1 (y ▸ hc)) e;have s25:=D2.frame _ _ h5 s24 λc hc o e=>k5 c o (λy=>ap.o2 (y ▸ hc)) e;show wpAny _ _ (forIn [] _ _) _ _ _;rw[List.forIn_nil];refine AAB ?_;obtain⟨nO5,eO5⟩:=id hO5;refine AAA (m:=seqItems? (.ref TO)) (AAu eO5 rfl ?_);refine AAA (wpAny_newTuple ?_ (by simp[sizeLine]));have kp:∀c o,h5.get? c=some o->(h5.push { cls:=.type "tuple",data:=.seq #[x,y] }).get? c=some o:=λc o e=>AAC _ e;unfold Builtin.SmallTypes.ownedTupleHandOut;refine AAA (AAA (AAo (s:={ s with heap:=h5.push { cls:=.type "tuple",data:=.seq #[x,y] },toks:=t4 }) (kp z _ z5) (by simp) λh6 z6 b6=>AAo (s:={ s with heap:=h6,toks:=t4 }) z6 (by simp) λh7 z7 b7=>AAB ⟨_,rfl,?_⟩));have sz:h5.objs.size=s.heap.objs.size:=by rw[b5.1,b4.1,b3.1,b2.1,b1.1]
 have zlt:z<h5.objs.size:=Heap.lt_size z5;have k7:∀c o,c≠z->h5.get? c=some o->h7.get? c=some o:=λc o hc e=>(b7.2 c hc).trans ((b6.2 c hc).trans (kp c o e));refine q x y h5.objs.size h7 t4 px py (by rw[sz];exact AAE _) ?_ z7 (hI5.keep λo e=>k7 TI o ap.zTI.symm e) (hO5.keep λo e=>k7 TO o ap.zTO.symm e) (D1.frame _ _ h7 s15 λc hc o e=>k7 c o (λy=>ap.z1 (y ▸ hc)) e) (D2.frame _ _ h7 s25 λc hc o e=>k7 c o (λy=>ap.z2 (y ▸ hc)) e) ?_
 ·refine⟨{ cls:=.type "tuple",data:=.seq #[x,y] },?_,rfl,0,rfl⟩;have ne:h5.objs.size≠z:=Nat.ne_of_gt zlt;exact(b7.2 _ ne).trans ((b6.2 _ ne).trans (AAD _ rfl))
 ·intro c o c1 c2 c3 c4 e;exact k7 c o c1 (k5 c o c2 (k4 c o c4 (k3 c o c2 (k2 c o c3 (k1 c o c1 e)))))
theorem Ue{z TI TO i1 i2:Addr}{n:Nat}{a b:Value}(ap:L3 z TI TO i1 i2 f1 f2)(D1:Draws prog w A.in1 i1 f1 n P1 S1)
  (hz:s.heap.get? z=some (Et TI TO .none)) (hI:TwoAt s.heap TI (.ref i1) (.ref i2)) (hO:TwoAt s.heap TO a b) (s1:S1 n s.heap)
  (q:∀h' e,(∀c o,c≠z->c≠i1->s.heap.get? c=some o->h'.get? c=some o)->(∃o,h'.get? e=some o/\o.cls=.type "StopIteration")->E (.ref e) { s with heap:=h' }) :
  wpAny (model prog w) A.in1 (Builtin.«zip.__next__» ⟨[.ref z],[]⟩) Q E s:=by
 obtain⟨nI,eI⟩:=id hI;refine AAA (m:=field (.ref z) 2) (AAt hz rfl (x:=.bool false) rfl (AAA (m:=field (.ref z) 3) (AAt hz rfl (x:=.ref TI) rfl (AAA (m:=seqItems? (.ref TI)) (AAu eI rfl ?_)))));refine DK (by simp) (AAA (m:=Builtin.SmallTypes.ownedTupleIsFree (.ref z)) ?_);unfold Builtin.SmallTypes.ownedTupleIsFree;refine AAA (m:=field (.ref z) 0) (AAt hz rfl (x:=.none) rfl (AAB ?_));rw[if_pos rfl];refine AAA (wpAny_rule (AAA (m:=field (.ref z) 4) (AAt hz rfl (x:=.ref TO) rfl (AAA (AAo hz (by simp) λh1 z1 b1=>?_)))));have s11:=D1.frame _ _ h1 s1 λc hc o e=>(b1.2 c (λy=>ap.z1 (y ▸ hc))).trans e;refine AAA (m:=forIn [(Value.ref i1,0),(Value.ref i2,1)] _ _) ?_;rw[List.forIn_cons];refine AAA (AAA (wpAny_onRaise (AAA (D1.done { s with heap:=h1 } _ _ s11 λh2 e eb so=>?_))));have zne:z≠i1:=λy=>ap.z1 (y ▸ ap.m1);have z2:h2.get? z=some (Et TI TO .ellipsis):=eb z _ zne z1;obtain⟨oe,he,hce⟩:=so;refine AAo (s:={ s with heap:=h2 }) z2 (by simp) λh3 z3 b3=>q h3 e (λc o c1 c2 x=>(b3.2 c c1).trans (eb c o c2 ((b1.2 c c1).trans x))) ⟨oe,?_,hce⟩;have ez:e≠z:=λy=>by
  rw[y,z2] at he;cases he;exact absurd (Value.type.inj (show Value.type "zip" = Value.type "StopIteration" from hce)) (by decide)
 exact(b3.2 e ez).trans he
theorem Kc{z TI TO:Addr}(hz:s.heap.get? z=some (Et TI TO f0))(h:Q (.ref z) s):wpAny (model prog w) A (pyIter (.ref z)) Q E s:=wpAny_pyIter_zip hz h
theorem TV(hh:A.handled=none){z TI TO i1 i2:Addr}{n:Nat}{S1 S2:Nat->Heap->Prop}{f1 f2:List Addr}(ap:L3 z TI TO i1 i2 f1 f2)
  (D1:Draws prog w A.in1 i1 f1 n P1 S1) (D2:Draws prog w A.in1 i2 f2 n P2 S2) :
  WalksT prog w A z (z::TI::TO::(f1++f2)) [z,TI,TO,i1,i2] n (λk vals=>∃x y,P1 k x/\P2 k y/\vals=#[x,y])
   (λk h=>h.get? z=some (Et TI TO .none)/\TwoAt h TI (.ref i1) (.ref i2)/\(∃a b,TwoAt h TO a b)/\S1 k h/\S2 k h)
   (λk T h=>h.get? z=some (Et TI TO (rawInt T))/\TwoAt h TI (.ref i1) (.ref i2)/\(∃a b,TwoAt h TO a b)/\S1 (k+1) h/\S2 (k+1) h/\T≠z/\T≠TI/\T≠TO/\T≠i1/\T≠i2) where
 sub:=λc hc=>by
  have hc':c=z∨c=TI∨c=TO∨c=i1∨c=i2:=by simpa using hc
  rcases hc' with e|e|e|e|e<;>subst e
  ·simp
  ·simp
  ·simp
  ·simp[ap.m1]
  ·simp[ap.m2]
 frame:=λk h h' st kp=>by
  obtain⟨a1,a2,⟨a,b,a3⟩,a4,a5⟩:=st;exact⟨kp z (by simp) _ a1,a2.keep λo e=>kp TI (by simp) o e,⟨a,b,a3.keep λo e=>kp TO (by simp) o e⟩,D1.frame _ _ _ a4 λc hc o e=>kp c (by simp[hc]) o e,D2.frame _ _ _ a5 λc hc o e=>kp c (by simp[hc]) o e⟩
 item:=λk s Q E hk st q=>by
  obtain⟨a1,a2,⟨a,b,a3⟩,a4,a5⟩:=st;have ty:s.TypeIs (.ref z) "zip" := ⟨_,a1,rfl⟩;unfold pyNext;refine AAA (wpAny_attempt (wpAny_callSpecial?_slot (name:=Str.ofString "__next__") ty F.slot_zip_next (AAb F.slot_zip_next ty F.entry_zip_next (Uf ap D1 D2 hk a1 a2 a3 a4 a5 λx y T h' tk px py hT tup b1 b2 b3 b4 b5 kp=>?_) (F.args_zip_next_1 _))));have lt:∀{c:Addr} {o:Obj},s.heap.get? c=some o->T≠c:=λe=>Nat.ne_of_gt (AAM (Heap.lt_size e) hT);obtain⟨o1,e1⟩:=D1.live _ _ a4;obtain⟨o2,e2⟩:=D2.live _ _ a5;obtain⟨n3,e3⟩:=a3;obtain⟨n4,e4⟩:=id a2;refine AAB (q T #[x,y] h' tk ⟨x,y,px,py,rfl⟩ hT tup ⟨b1,b2,⟨x,y,b3⟩,b4,b5,lt a1,lt e4,lt e3,lt e1,lt e2⟩ λc o hc e=>?_);exact kp c o (λz=>hc (by simp[z])) (λz=>hc (by simp[z])) (λz=>hc (by simp[z])) (λz=>hc (by simp[z])) e
 go:=λes k0 pos k T s Q E st q=>by
  obtain⟨a1,a2,a3,a4,a5,t1,t5,t2,t3,t4⟩:=st;refine wpAny_letOwnedTupleGo_zip a1 λh' hz' sb=>?_;have kp:∀c o,c≠z->s.heap.get? c=some o->h'.get? c=some o:=λc o hc e=>(sb.2 c hc).trans e;obtain⟨a,b,a3⟩:=a3;refine q h' ⟨hz',a2.keep λo e=>kp TI o ap.zTI.symm e,⟨a,b,a3.keep λo e=>kp TO o ap.zTO.symm e⟩,D1.frame _ _ _ a4 λc hc o e=>kp c o (λy=>ap.z1 (y ▸ hc)) e,D2.frame _ _ _ a5 λc hc o e=>kp c o (λy=>ap.z2 (y ▸ hc)) e⟩ λc o hc e=>kp c o (λy=>hc (by simp[y])) e
 apart:=λk T h st hT=>by
  obtain⟨_,_,_,_,_,t1,t5,t2,t3,t4⟩:=st;have hT':T=z∨T=TI∨T=TO∨T=i1∨T=i2:=by simpa using hT
  rcases hT' with e|e|e|e|e
  ·exact t1 e
  ·exact t5 e
  ·exact t2 e
  ·exact t3 e
  ·exact t4 e
 done:=λs Q E st q=>by
  obtain⟨a1,a2,⟨a,b,a3⟩,a4,a5⟩:=st;have ty:s.TypeIs (.ref z) "zip" := ⟨_,a1,rfl⟩;unfold pyNext;refine AAA (wpAny_attempt (wpAny_callSpecial?_slot (name:=Str.ofString "__next__") ty F.slot_zip_next (AAb F.slot_zip_next ty F.entry_zip_next (Ue ap D1 a1 a2 a3 a4 λh' e kp so=>?_) (F.args_zip_next_1 _))));obtain⟨o,ho,hc⟩:=so;refine AAA (wpAny_isInstance (T := "StopIteration") (b:=true) ⟨o,ho,hc⟩ isSubtype_stop (AAB (q h' s.toks λc o hc e=>?_)));exact kp c o (λy=>hc (by simp[y])) (λy=>hc (by simp[y])) e
 self:=λk s Q E st h=>Kc st.1 h
end
end L2
namespace L2
open PySem PySem.Spec PyProof.Rows
noncomputable abbrev JJ(a b:Value):Obj:={ cls:=.type "tuple",data:=.seq #[a,b] }
noncomputable abbrev zh2(h:Heap)(o1 o2:Obj):Heap:=(h.push o1).push o2
noncomputable abbrev zh4(h:Heap)(o1 o2:Obj):Heap:=((zh2 h o1 o2).push (JJ (.ref h.objs.size) (.ref (h.push o1).objs.size))).push (JJ .none .none)
noncomputable abbrev zh5(h:Heap)(o1 o2:Obj):Heap:=(zh4 h o1 o2).push (Et (zh2 h o1 o2).objs.size ((zh2 h o1 o2).push (JJ (.ref h.objs.size) (.ref (h.push o1).objs.size))).objs.size .none)
theorem Xk(v1 v2:Value)(o1 o2:Obj)(g1 g2:Heap->Prop)(g2p:∀h,g2 h->g2 (h.push o1))
  (w1:∀(prog:Program) (w:World) (A:Around) (E:Value->Shared->Prop) (s:Shared) (Q:Value->Shared->Prop),g1 s.heap->Q (.ref s.heap.objs.size) { s with heap:=s.heap.push o1 }->wpAny (model prog w) A (pyIter v1) Q E s)
  (w2:∀(prog:Program) (w:World) (A:Around) (E:Value->Shared->Prop) (s:Shared) (Q:Value->Shared->Prop),g2 s.heap->Q (.ref s.heap.objs.size) { s with heap:=s.heap.push o2 }->wpAny (model prog w) A (pyIter v2) Q E s) :
  Meets (Builtin.«zip.__new__» ⟨[.type "zip",v1,v2],[]⟩) (λ_ R s=>g1 s.heap/\g2 s.heap/\R (.ok (.ret (.ref (zh4 s.heap o1 o2).objs.size))) { s with heap:=zh5 s.heap o1 o2 }):=by
 refine .of_wp λprog w A R s ⟨x1,x2,q⟩=>?_;have own:=sub_zip;have walk1:∀(A:Around) (E:Value->Shared->Prop) (Q:Value->Shared->Prop),Q (.ref s.heap.objs.size) { s with heap:=s.heap.push o1 }->wpAny (model prog w) A (pyIter v1) Q E s:=λA E Q z=>w1 prog w A E s Q x1 z;have walk2:∀(A:Around) (E:Value->Shared->Prop) (Q:Value->Shared->Prop),Q (.ref (s.heap.push o1).objs.size) { s with heap:=zh2 s.heap o1 o2 }->wpAny (model prog w) A (pyIter v2) Q E { s with heap:=s.heap.push o1 }:=λA E Q z=>w2 prog w A E { s with heap:=s.heap.push o1 } Q (g2p _ x2) z;obtain⟨hp,gs,dr,tk,os⟩:=s
 wp_walk using walk1,walk2
 exact⟨_,rfl,q⟩
noncomputable def Xm(xs ys:List V)(i:Nat):List V:=[xs.getD i .non,ys.getD i .non]
theorem TH(r:Vals xs its)(r2:Vals ys jts)(h:∃x y,its.toArray[i]?=some x/\jts.toArray[i]?=some y/\vals=#[x,y]):Vals (Xm xs ys i) vals.toList:=by
 obtain⟨x,y,hx,hy,rfl⟩:=h;have one:∀{zs:List V} {us:List Value} {u:Value},Vals zs us->us.toArray[i]?=some u->RelV (zs.getD i .non) u:=λ{zs us u} rz hu=>by
  have hu':us[i]?=some u:=by simpa using hu
  have hl:=rz.length;have lt:i<zs.length:=by have:=(AAT.mp hu').1;omega
  obtain⟨u',e1,e2⟩:=rz.get (show zs[i]?=some zs[i] by simp[lt]);rw[hu'] at e1;cases e1;simpa[List.getD,lt] using e2
 exact .cons (one r hx) (.cons (one r2 hy) .nil)
section
theorem XX:bootBuiltins "zip" = some (.type "zip"):=by decide +kernel
end
section
variable{X:Cx}
theorem nin(h1:c≠n)(h2:c≠l):c∉([n,l]:List Nat):=λh=>by
 have h':c=n∨c=l:=by simpa using h
 exact h'.elim h1 h2
theorem zap(n l m:Nat)(hl:l<n)(hm:m<n):L3 (n+4) (n+2) (n+3) n (n+1) [n,l] [n+1,m] where
 zTI:=(by omega:¬(n+4:Nat)=n+2)
 zTO:=(by omega:¬(n+4:Nat)=n+3)
 io:=(by omega:¬(n+2:Nat)=n+3)
 z1:=nin (by omega) (by omega)
 z2:=nin (by omega) (by omega)
 o1:=nin (by omega) (by omega)
 o2:=nin (by omega) (by omega)
 n1:=(by omega:¬(n+2:Nat)=n)
 n2:=(by omega:¬(n+2:Nat)=n+1)
 m1:=AAP
 m2:=AAP
 x12:=nin (by omega) (by omega)
 x21:=nin (by omega) (by omega)
theorem ZU(I:Inv X w6 O H s)(c:Addr)(hc:s.heap.objs.size<=c):Ha X w6 H c:=I.fpOk hc (I.hok.fresh hc)
end
inductive Sk where
 |t|l
namespace Sk
def sq(k:Sk)(K:PySem.W.Frag)(H:Hp)(a:Addr)(xs:List V):Prop:=match k with
 | .t=>SqT K H a xs
 | .l=>SqL K H a xs
def nm(k:Sk):String:=match k with
 | .t => "tuple_iterator"
 | .l => "list_iterator"
noncomputable def ob(k:Sk)(a:Addr):Obj:={ cls:=.type k.nm,data:=.fields #[.ref a,.int 0 0] }
def it(k:Sk)(h:Heap)(i a:Addr)(n:Nat):Prop:=∃o,h.get? i=some o/\o.cls=.type k.nm/\o.data=.fields #[.ref a,.int n 0]
def cn(k:Sk)(h:Heap)(a:Addr)(xs:Array Value):Prop:=match k with
 | .t=>h.IsTuple a xs
 | .l=>h.IsList a xs
variable{k:Sk}{a i:Addr}{h h':Heap}{n:Nat}{xs:Array Value}
theorem it.keep(x:k.it h i a n)(q:∀o,h.get? i=some o->h'.get? i=some o):k.it h' i a n:=by
 obtain⟨o,e,r⟩:=x;exact⟨o,q o e,r⟩
theorem cn.keep(x:k.cn h a xs)(q:∀o,h.get? a=some o->h'.get? a=some o):k.cn h' a xs:=by
 cases k with
 |t=>obtain⟨o,e,r⟩:=x;exact⟨o,q o e,r⟩
 |l=>obtain⟨o,e,r⟩:=x;exact⟨o,q o e,r⟩
theorem cn.lt(x:k.cn h a xs):a<h.objs.size:=by
 cases k with
 |t=>obtain⟨o,e,_⟩:=x;exact Heap.lt_size e
 |l=>obtain⟨o,e,_⟩:=x;exact Heap.lt_size e
theorem into(I:Inv X w6 O H s)(c:k.sq X.K H a vs):∃its,Vals vs its/\k.cn s.heap a its.toArray:=by
 cases k with
 |t=>obtain⟨its,r,p,_⟩:=I.tuple c;exact⟨its,r,p⟩
 |l=>obtain⟨its,r,p,_⟩:=I.list c;exact⟨its,r,p.isList⟩
theorem iter(x:k.cn s.heap a xs)(q:Q (.ref s.heap.objs.size) { s with heap:=s.heap.push (k.ob a) }):wpAny (model prog w) A (pyIter (.ref a)) Q E s:=by
 cases k with
 |t=>exact wpAny_pyIter_tuple x q
 |l=>exact wpAny_pyIter_list x q
theorem draws(hA:A.handled=none)(i a:Addr)(hn:a≠i)(xs:Array Value):Draws P w A i [i,a] xs.size (λj v=>xs[j]?=some v) (λj h=>k.it h i a j/\k.cn h a xs):=by
 cases k with
 |t=>exact NC hA i a hn xs
 |l=>exact Draws.list hA i a hn xs
end Sk
theorem Sk.inj{k:Sk}{X:Cx}{w6:List (Addr×Obj)}{O:St}(I:Inv X w6 O H s)(x:k.sq X.K H a xs)(y:k.sq X.K H a ys):xs=ys:=by
 cases k with
 |t=>exact I.tuple_inj x y
 |l=>exact I.list_inj x y
noncomputable def ItZ(K:PySem.W.Frag)(k1 k2:Sk)(a b:Addr):It:=⟨λi H=>∃xs ys,k1.sq K H a xs/\k2.sq K H b ys/\ys.length=xs.length/\i<xs.length,λi H v H'=>∃T src,H T=none/\v=.ref T/\H'=upd H T (.tup src)/\∀xs ys,k1.sq K H a xs->k2.sq K H b ys->src=Xm xs ys i,λi H=>∃xs ys,k1.sq K H a xs/\k2.sq K H b ys/\ys.length=xs.length/\i=xs.length⟩
theorem TW{P:Program}{w:World}{K:PySem.W.Frag}(k1 k2:Sk)(a b z TI TO i1 i2:Addr)(ap:L3 z TI TO i1 i2 [i1,a] [i2,b])(h1:a≠i1)(h2:b≠i2):
  L4 P w K (.Tuple es k0 pos) (ItZ K k1 k2 a b) [z,TI,TO,i1,i2] z (λi h=>h.get? z=some (Et TI TO .none)/\TwoAt h TI (.ref i1) (.ref i2)/\(∃c d,TwoAt h TO c d)/\k1.it h i1 a i/\k2.it h i2 b i):=by
 have W:∀(A:Around) (hA:A.handled=none) (xs ys:List V) (its jts:List Value),Vals xs its->Vals ys jts->ys.length=xs.length->_:=λA hA xs ys its jts r r2 hl=>by
  have l1:its.toArray.size=xs.length:=by rw[List.size_toArray];exact r.length.symm
  have l2:jts.toArray.size=xs.length:=by rw[List.size_toArray,←hl];exact r2.length.symm
  have D1:=Sk.draws (k:=k1) (P:=P) (w:=w) (A:=A.in1) hA i1 a h1 its.toArray;have D2:=Sk.draws (k:=k2) (P:=P) (w:=w) (A:=A.in1) hA i2 b h2 jts.toArray;rw[l1] at D1;rw[l2] at D2;exact TV hA ap D1 D2
 refine⟨AAP,λi h st=>?obj,λi h h' st k=>?keep,?item,?done,λA i s Q E st h=>Kc st.1 h⟩
 case obj=>
  intro c hc;obtain⟨a1,⟨n1,a2⟩,⟨c0,d0,n2,a3⟩,⟨o4,a4,_,d4⟩,⟨o5,a5,_,d5⟩⟩:=st;have hc':c=z∨c=TI∨c=TO∨c=i1∨c=i2:=by simpa using hc
  rcases hc' with e|e|e|e|e<;>subst e
  ·exact⟨_,a1,λv q=>by cases q⟩
  ·exact⟨_,a2,λv q=>by cases q⟩
  ·exact⟨_,a3,λv q=>by cases q⟩
  ·exact⟨_,a4,λv q=>by rw[d4] at q;cases q⟩
  ·exact⟨_,a5,λv q=>by rw[d5] at q;cases q⟩
 case keep=>
  obtain⟨a1,a2,⟨c0,d0,a3⟩,a4,a5⟩:=st;exact⟨k z (by simp) _ a1,a2.keep λo e=>k TI (by simp) o e,⟨c0,d0,a3.keep λo e=>k TO (by simp) o e⟩,a4.keep (k i1 (by simp)),a5.keep (k i2 (by simp))⟩
 case item=>
  intro X hP hw hK hc i w6 s O H E I hf st hg;subst hP hw hK;obtain⟨xs,ys,c1,c2,hl,hi⟩:=hg;obtain⟨a1,a2,a3,a4,a5⟩:=st;obtain⟨its,r,p⟩:=Sk.into I c1;obtain⟨jts,r2,p2⟩:=Sk.into I c2;have W':=W X.A (I.ok.hd hc) xs ys its jts r r2 hl;refine W'.item i s _ _ hi ⟨a1,a2,a3,⟨a4,p⟩,⟨a5,p2⟩⟩ λT vals h' tk hp hT ht hm kk=>⟨_,rfl,?_⟩;have I1:Inv X w6 O H { s with heap:=h',toks:=tk }:=I.turnedL kk hf;refine W'.go es k0 pos i T _ _ _ hm λh2 st2 kk2=>?_;have I2:Inv X w6 O H { s with heap:=h2,toks:=tk }:=I1.turnedL (t':=tk) kk2 hf;have hn:H T=none:=I.hok.fresh hT;have ht2:IsTup h2 T vals:=by
   obtain⟨o,e,r⟩:=ht;exact⟨o,kk2 T o (W'.apart i T _ hm) e,r⟩
  obtain⟨b1,b2,b3,b4,b5⟩:=st2;refine⟨.ref T,upd H T (.tup (Xm xs ys i)),I2.track (I.fpOk hT hn) ⟨(by show 2<=sizeLine;decide),vals.toList,TH r r2 hp,by simpa using ht2⟩,rfl,⟨T,_,hn,rfl,rfl,λxs' ys' g1 g2=>by rw[Sk.inj I g1 c1,Sk.inj I g2 c2]⟩,⟨b1,b2,b3,b4.1,b5.1⟩,λc hc=>?_⟩;have hcT:c≠T:=λz=>W'.apart i T _ hm (by rw[←z];exact hc);rw[BN hcT];exact(hf c hc).1
 case done=>
  intro X hP hw hK hc i w6 s O H E I hf st hg;subst hP hw hK;obtain⟨xs,ys,c1,c2,hl,hi⟩:=hg;subst hi;obtain⟨a1,a2,a3,a4,a5⟩:=st;obtain⟨its,r,p⟩:=Sk.into I c1;obtain⟨jts,r2,p2⟩:=Sk.into I c2;exact(W X.A (I.ok.hd hc) xs ys its jts r r2 hl).done s _ _ ⟨a1,a2,a3,⟨a4,p⟩,⟨a5,p2⟩⟩ λh' tk kk=>⟨rfl,I.turnedL kk hf⟩
section
variable{X:Cx}{es:List Expr}{k0:Nat}{tpos:Pos}
noncomputable def fm(K:PySem.W.Frag)(ta:TA):TI:=λO H R=>ta O H λvs H1=>∃(k1 k2:Sk) (a b:Addr) (xs ys:List V),vs=[.ref a,.ref b]/\k1.sq K H1 a xs/\k2.sq K H1 b ys/\R (ItZ K k1 k2 a b) H1
theorem Nr{a b:Expr}(hg:Gl X "zip")(hm:X.mg "zip" = none)(ha:PA X [a,b] ta)(hs:starEach [a,b] X.env=(false,eval a X.env)::starEach [b] X.env)(hpl:(backTo pos (starEach [b] X.env)).any (·.1)=false):
  PI X (.Tuple es k0 tpos) (.Call (.Name "zip" p) [a,b] [] pos) (fm X.kw ta):=by
 intro w6 s O H R I h;refine Call_ (Gy I hg hm XX (PyProof.Rows.callWith_type1 (thn (ha pos w6 s O H _ I h) λus s1 ⟨vs,H1,I1,r1,q1⟩=>?_) hs hpl));obtain⟨k1,k2,l,m,xs,ys,ev,hx,hy,q⟩:=q1;subst ev;obtain⟨u1,u2,eu,ru1,ru2⟩:=Vals.two r1;subst eu;cases ru1;cases ru2;obtain⟨its,rx,px⟩:=Sk.into I1 hx;obtain⟨jts,ry,py⟩:=Sk.into I1 hy;have ltl:=px.lt;have ltm:=py.lt;have new:=Xk (.ref l) (.ref m) (k1.ob l) (k2.ob m) (λh=>k1.cn h l its.toArray) (λh=>k2.cn h m jts.toArray) (λh x=>x.keep λo e=>AAC _ e) (λ_ _ _ _ _ _ g z=>Sk.iter g z) (λ_ _ _ _ _ _ g z=>Sk.iter g z);refine callType_new F.called_zip (by decide) (F.typeCall_zip_2 _ _) (F.newCall_zip_2 _ _) (λobj=>F.args_object_init_3 obj _ _) F.entry_zip_new new ⟨px,py,?_⟩;have f1:(k1.ob l).isFreed=false:=by cases k1<;>rfl
 have f2:(k2.ob m).isFreed=false:=by cases k2<;>rfl
 have q1:(k1.ob l).cls=.type k1.nm/\(k1.ob l).data=.fields #[.ref l,.int 0 0]:=⟨rfl,rfl⟩;have q2:(k2.ob m).cls=.type k2.nm/\(k2.ob m).data=.fields #[.ref m,.int 0 0]:=⟨rfl,rfl⟩;generalize k1.ob l=o1 at *;generalize k2.ob m=o2 at *;have n1:(s1.heap.push o1).objs.size=s1.heap.objs.size+1:=Heap.size_push ..;have n2:(zh2 s1.heap o1 o2).objs.size=s1.heap.objs.size+2:=by rw[Heap.size_push,n1]
 have n3:((zh2 s1.heap o1 o2).push (JJ (.ref s1.heap.objs.size) (.ref (s1.heap.push o1).objs.size))).objs.size=s1.heap.objs.size+3:=by rw[Heap.size_push,n2]
 have n4:(zh4 s1.heap o1 o2).objs.size=s1.heap.objs.size+4:=by rw[Heap.size_push,n3]
 have kp:∀c o,s1.heap.get? c=some o->(zh5 s1.heap o1 o2).get? c=some o:=λc o e=>AAC _ (AAC _ (AAC _ (AAC _ (AAC _ e))));have a1:(zh5 s1.heap o1 o2).get? s1.heap.objs.size=some o1:=AAC _ (AAC _ (AAC _ (AAC _ (AAD _ f1))));have a2:(zh5 s1.heap o1 o2).get? (s1.heap.objs.size+1)=some o2:=by rw[←n1];exact AAC _ (AAC _ (AAC _ (AAD _ f2)))
 have a3:(zh5 s1.heap o1 o2).get? (s1.heap.objs.size+2)=some (JJ (.ref s1.heap.objs.size) (.ref (s1.heap.objs.size+1))):=by
  rw[←n1,←n2];exact AAC _ (AAC _ (AAD _ rfl))
 have a4:(zh5 s1.heap o1 o2).get? (s1.heap.objs.size+3)=some (JJ .none .none):=by
  rw[←n3];exact AAC _ (AAD _ rfl)
 have a5:(zh5 s1.heap o1 o2).get? (s1.heap.objs.size+4)=some (Et (s1.heap.objs.size+2) (s1.heap.objs.size+3) .none):=by
  rw[←n4,←n2,←n3];exact AAD _ rfl
 show _/\_;rw[n4];refine⟨⟨_,a5,rfl⟩,Kc a5 ?_⟩;refine⟨s1.heap.objs.size+4,[s1.heap.objs.size+4,s1.heap.objs.size+2,s1.heap.objs.size+3,s1.heap.objs.size,s1.heap.objs.size+1],_,_,H1,rfl,I1.kept (t':=s1.toks) kp,
  TW k1 k2 l m (s1.heap.objs.size+4) (s1.heap.objs.size+2) (s1.heap.objs.size+3) s1.heap.objs.size (s1.heap.objs.size+1) (zap _ l m ltl ltm) (AAc ltl) (AAc (AAg ltm)),⟨a5,⟨_,a3⟩,⟨_,_,_,a4⟩,⟨o1,a1,q1.1,q1.2⟩,⟨o2,a2,q2.1,q2.2⟩⟩,λc hc=>ZU I1 c ?_,q⟩
 have hc':c=s1.heap.objs.size+4∨c=s1.heap.objs.size+2∨c=s1.heap.objs.size+3∨c=s1.heap.objs.size∨c=s1.heap.objs.size+1:=by simpa using hc
 rcases hc' with e|e|e|e|e<;>subst e<;>first|exact AAE _|exact Nat.le_add_right _ _
end
end L2
namespace Mi
open PySem L2
section
noncomputable def Fr:List D->List D->List D
 |x::xs,y::ys=>.tup [x,y]::Fr xs ys
 |_,_=>[]
noncomputable def HE:List D->M (List D)
 |[.tup xs,.tup ys]=>λZ=>if ys.length=xs.length then some (Fr xs ys,Z) else none
 |_=>BM
noncomputable def Wo(m:Sl->M (List D)):Sl->M (List D):=λB=>bnd (m B) HE
theorem Ke:∀{xs ys:List D},ys.length=xs.length->(Fr xs ys).length=xs.length
 |[],[],_=>rfl
 |x::xs,y::ys,h=>by unfold Fr;simp at h ⊢;exact Ke h
 |[],_::_,h=>by simp at h
 |_::_,[],h=>by simp at h
theorem OZ:∀{xs ys:List D} {j:Nat} {d:D},(Fr xs ys)[j]?=some d->∃x y,xs[j]?=some x/\ys[j]?=some y/\d=.tup [x,y]
 |[],_,j,d,h=>by simp[Fr] at h
 |_::_,[],j,d,h=>by simp[Fr] at h
 |x::xs,y::ys,0,d,h=>by simp[Fr] at h;exact⟨x,y,rfl,rfl,h.symm⟩
 |x::xs,y::ys,j+1,d,h=>by
  obtain⟨x',y',h1,h2,h3⟩:=OZ (xs:=xs) (ys:=ys) (j:=j) (d:=d) (by simpa[Fr] using h);exact⟨x',y',by simpa using h1,by simpa using h2,h3⟩
end
section
variable{K:KW}{Y:Nat->Addr}{Z Z':Mh}{H:Hp}{d:D}{v:V}{ds es:List D}
theorem Zt(R:RelH K Y Z H)(s1:k1.sq K H p vs)(s2:k2.sq K H q ws)(i:IsL K Y Z.length H ds vs)(j:IsL K Y Z.length H es ws)(hd:(Fr ds es)[k]?=some d)(y:(ItZ K k1 k2 p q).yld k H x H2):Ext Y Z.length H Y Z.length H2/\RelH K Y Z H2/\Is K Y Z.length H2 d x:=by
 obtain⟨T,src,hT,rfl,rfl,u⟩:=y;obtain⟨E2,R2⟩:=R.laid (.tup src) hT;refine⟨E2,R2,?_⟩;obtain⟨x,y,h1,h2,rfl⟩:=OZ hd;obtain⟨v,ev,iv⟩:=i.get h1;obtain⟨u',eu,iu⟩:=j.get h2;have es':src=[v,u']:=by rw[u vs ws s1 s2];unfold Xm;simp[List.getD,ev,eu]
 subst es';unfold Is;exact⟨T,_,rfl,SqT.of B2,.cons (iv.ext E2) (.one (iu.ext E2))⟩
theorem PY(st1:∀Y' (ν:Mh) H',Ext Y Z.length H Y' ν.length H'->k1.sq K H' p vs)(st2:∀Y' (ν:Mh) H',Ext Y Z.length H Y' ν.length H'->k2.sq K H' q ws)(i:IsL K Y Z.length H ds vs)(j:IsL K Y Z.length H es ws)(hl:es.length=ds.length):
  ItM K (ItZ K k1 k2 p q) (Fr ds es) Y Z H:=by
 intro Y' Z' H' E R;have s1:=st1 Y' Z' H' E;have s2:=st2 Y' Z' H' E;have hl':ws.length=vs.length:=by rw[i.length,j.length,hl]
 rw[Ke hl,←i.length];exact⟨λk hk=>⟨vs,ws,s1,s2,hl',hk⟩,⟨vs,ws,s1,s2,hl',rfl⟩,λk x H2 d hd y=>Zt R s1 s2 (i.ext E) (j.ext E) hd y⟩
end
section
variable{X:Cx}{a b:Expr}{es:List Expr}{pos:Pos}
theorem SE(hm:X.mg "zip" = none)(ha:RA X [a,b] m)(hg:Gl X "zip" := by rfl)(hs:starEach [a,b] X.env=(false,eval a X.env)::starEach [b] X.env:=by exact BG rfl)(hpl:(backTo pos (starEach [b] X.env)).any (·.1)=false:=by exact Bb rfl):
  RI X (.Tuple es k0 tpos) (.Call (.Name "zip" p) [a,b] [] pos) (Wo m):=
 RI.wk (Nr hg hm ha.pe hs hpl) λO H R q=>by
  obtain⟨Y,Z,B,ds,Z',R0,S,e,q⟩:=q;obtain⟨xs,w9,e1,e2⟩:=AJ e;refine⟨Y,Z,B,xs,w9,R0,S,e1,λx9 H1 E1 R1 vs i1=>?_⟩;unfold HE at e2;split at e2
  ·rename_i xs ys;split at e2
   ·rename_i hl;cases e2;obtain⟨v,u,rfl,i2,i3⟩:=OA i1;unfold Is at i2 i3;obtain⟨p,ws,rfl,h1,h2⟩:=i2;obtain⟨p',ws',rfl,h1',h2'⟩:=i3;exact⟨.t,.t,p,p',ws,ws',rfl,h1,h1',q x9 H1 E1 R1 _ (PY (k1:=.t) (k2:=.t) (λY' ν H' E=>HM E h1) (λY' ν H' E=>HM E h1') h2 h2' hl)⟩
   ·cases e2
  ·cases e2
end
end Mi
namespace L2
open PySem PySem.Spec PyProof.Rows Sem
noncomputable def Cv(xs:List Str):List Str:=xs.foldl (λys x=>if x∈ys then ys else ys++[x]) []
theorem Mo(xs:List Str)(x:Str):Cv (xs++[x])=if x∈Cv xs then Cv xs else Cv xs++[x]:=by
 unfold Cv;rw[List.foldl_append];rfl
theorem Mp:∀(xs ys:List Str),(xs.foldl (λys x=>if x∈ys then ys else ys++[x]) ys).length<=ys.length+xs.length
 |[],ys=>AAE _
 |x::xs,ys=>by
  rw[List.foldl_cons];have:=Mp xs (if x∈ys then ys else ys++[x]);split at this<;>simp at this ⊢<;>(try split)<;>simp_all<;>omega
theorem Y8(xs:List Str):(Cv xs).length<=xs.length:=by
 have:=Mp xs [];simpa[Cv] using this
section
variable{prog:Program}{w:World}{A:Around}{E:Value->Shared->Prop}{s:Shared}
theorem Va(hS:s.heap.SetOf (strKind prog w) S (λk=>decide (k∈Cv xs)) (Cv xs).length)(room:xs.length+2<scanBound)
  (q:∀b h' tk,Heap.SameBut S s.heap h'->h'.SetOf (strKind prog w) S (λk=>decide (k∈Cv (xs++[x]))) (Cv (xs++[x])).length->Q b { s with heap:=h',toks:=tk }) :
  wpAny (model prog w) A (setAdd S (.str x t)) Q E s:=by
 unfold setAdd;refine AAn (AAA ((strKind prog w).pyHash (strKind_is prog w x t) ?_));have le:=Y8 xs;refine wpAny_setAddHashed_of (knd:=strKind prog w) (s:={ s with toks:=s.toks+1 }) (strKind_is prog w x t) rfl hS (by omega) λh' sb hS'=>q _ h' _ sb ?_;have e1:(λk':Str=>decide (k'∈Cv xs)||decide (k'=x))=λk'=>decide (k'∈Cv (xs++[x])):=by
  funext k'
  rw[Mo];split
  ·rename_i hx;by_cases e:k'=x
   ·subst e;simp[hx]
   ·simp[e]
  ·simp
 have e2:(if decide (x∈Cv xs)=true then (Cv xs).length else (Cv xs).length+1)=(Cv (xs++[x])).length:=by
  rw[Mo];by_cases hx:x∈Cv xs<;>simp[hx]
 rw[e1,e2] at hS';exact hS'
theorem Vb(hh:A.in1.handled=none)(hlI:l≠I)(hSI:S≠I)(hSl:S≠l)(rv:Vals (ss.map V.str) its)(room:ss.length+2<scanBound):
  ∀(m i:Nat) (s:Shared),ss.length-i=m->i<=ss.length->s.heap.IsListIter I l i->s.heap.IsList l its.toArray->s.heap.SetOf (strKind prog w) S (λk=>decide (k∈Cv (ss.take i))) (Cv (ss.take i)).length->
   (∀h' tk,(∀c o,c≠S->c≠I->s.heap.get? c=some o->h'.get? c=some o)->h'.SetOf (strKind prog w) S (λk=>decide (k∈Cv ss)) (Cv ss).length->R (.ok (.ret .none)) { s with heap:=h',toks:=tk })->
   codeAny (model prog w) A (.builtin "set.update.loop" ⟨[.ref S,.ref I],[]⟩) R s:=by
 have hl:its.length=ss.length:=by have:=rv.length;simpa using this.symm
 have W:=Walks.list (prog:=prog) (w:=w) hh I l hlI its.toArray;intro m
 induction m with
 |zero=>
  intro i s hm hi hit hls hS q;have ei:i=ss.length:=by omega
  subst ei;refine codeAny_builtin PyProof.Rows.F.entry_set_update_loop ?_;rw[Around.under_plainId PyProof.Rows.F.plain_set_update_loop _];refine AAA (m:=pyNext (.ref I)) (W.done s _ _ ⟨by rw[List.size_toArray,hl];exact hit,hls⟩ λh' tk kp=>AAB ?_);rw[List.take_length] at hS;obtain⟨o,es,ep,tb,ho,rest⟩:=hS;exact q h' tk (λc o _ c2 e=>kp c o (by simpa using c2) e) ⟨o,es,ep,tb,kp S o (by simpa using hSI) ho,rest⟩
 |succ m ih=>
  intro i s hm hi hit hls hS q;have lt:i<ss.length:=by omega
  refine codeAny_builtin PyProof.Rows.F.entry_set_update_loop ?_;rw[Around.under_plainId PyProof.Rows.F.plain_set_update_loop _];refine AAA (m:=pyNext (.ref I)) (W.item i s _ _ (by rw[List.size_toArray,hl];exact lt) ⟨hit,hls⟩ λv h' tk hv st kp=>?_);obtain⟨u,eu,ru⟩:=rv.get (show (ss.map V.str)[i]?=some (V.str ss[i]) by simp[lt]);have hv':its[i]?=some v:=by simpa using hv
  rw[eu] at hv';cases hv';obtain⟨t,rfl⟩:=ru;obtain⟨o,es,ep,tb,ho,rest⟩:=hS;have hS1:h'.SetOf (strKind prog w) S (λk=>decide (k∈Cv (ss.take i))) (Cv (ss.take i)).length:=⟨o,es,ep,tb,kp S o (by simpa using hSI) ho,rest⟩;refine AAA (AAn (Va (s:={ s with heap:=h',toks:=tk }) hS1 (by rw[List.length_take];omega) λb h2 t2 sb hS2=>?_));have tk1:ss.take i++[ss[i]]=ss.take (i+1):=by rw[List.take_succ,AAr lt];rfl
  rw[tk1] at hS2;have k2:∀c o,c≠S->h'.get? c=some o->h2.get? c=some o:=λc o hc e=>(sb.2 c hc).trans e;refine AAB ⟨plainId_quiet PyProof.Rows.F.plain_set_update_loop _,ih (i+1) _ (by omega) lt (st.1.at λo e=>k2 I o hSI.symm e) (st.2.at λo e=>k2 l o hSl.symm e) hS2 λh3 t3 kp3 hS3=>?_⟩;exact q h3 t3 (λc o c1 c2 e=>kp3 c o c1 c2 (k2 c o c1 (kp c o (by simpa using c2) e))) hS3
end
section
variable{prog:Program}{w:World}{A:Around}{E:Value->Shared->Prop}{s:Shared}
set_option maxHeartbeats 2000000 in
theorem ZC(ft:TypeCalled T nid iid)(ok:checkTypeCall T ⟨args,[]⟩=pure ())
  (new:codeAny (model prog w) A.in1 (.call (.builtin nid) ⟨.type T::args,[]⟩) (wants Q₁ E) s)
  (init:∀x s₁,Q₁ x s₁->s₁.TypeIs x T/\codeAny (model prog w) A.in1 (.call (.builtin iid) ⟨x::args,[]⟩) (wants (λr s₂=>r=.none/\Q x s₂) E) s₁) :
  wpAny (model prog w) A (call (.type T) args) Q E s:=by
 have a1:=ft.notType;have a2:=ft.canCreate;have a3:=ft.made;have a4:=ft.sub;obtain⟨c,tl,a5⟩:=ft.mro;have step:codeAny (model prog w) A (.builtin "type.__call__" ⟨.type T::args,[]⟩) (wants Q E) s:=by
  refine codeAny_builtin F.entry_type_call ?_;rw[Around.under_plain (weight_type_call_type T args []) rfl];unfold Builtin.«type.__call__»
  iterate 3 (any_goals (first|assumption|wp_step))
  first|refine AAs ok ?_|refine AAA (AAs ok ?_)
  repeat (any_goals (first|assumption|wp_step))
  refine codeAny_mono new λr s₁ hr=>?_
  match r,hr with
  | .error e,hr=>exact hr
  | .ok (.ret x),hr=>
   obtain⟨ty,run⟩:=init x s₁ hr;have b1:=ft.init.lookup;have b2:=ft.init.bind x
   repeat (any_goals (first|assumption|wp_step))
   refine codeAny_mono run λr₂ s₂ hr₂=>?_
   match r₂,hr₂ with
   | .error e,hr₂=>exact hr₂
   | .ok (.ret y),hr₂=>
    obtain⟨ey,hq⟩:=hr₂;subst ey
    repeat (any_goals (first|assumption|wp_step))
 exact wpAny_call (codeAny_of_tree (AAB ⟨Code.quiet_builtin _ (by decide +kernel),step⟩))
noncomputable abbrev DD(led:Bool):Obj:={ cls:=.type "set",data:=.set #[] 0 (.fresh 0 0 led) }
set_option maxHeartbeats 2000000 in
theorem UR(hh:A.handled=none)(hl:s.heap.IsList l its.toArray)(rv:Vals (ss.map V.str) its)(room:ss.length+2<scanBound)
  (q:∀h' tk,(∀c o,s.heap.get? c=some o->h'.get? c=some o)->h'.SetOf (strKind prog w) s.heap.objs.size (λk=>decide (k∈Cv ss)) (Cv ss).length->Q (.ref s.heap.objs.size) { s with heap:=h',toks:=tk }) :
  wpAny (model prog w) A (call (.type "set") [.ref l]) Q E s:=by
 refine ZC F.called_set (F.typeCall_set_1 _) (code_set_new_1 (.ref l) (Q₁:=λx s₁=>∃led:Bool,x=.ref s.heap.objs.size/\s₁={ s with heap:=s.heap.push (DD led) }) λled=>⟨led,rfl,rfl⟩) ?_;rintro x s₁ ⟨led,rfl,rfl⟩;have at_S:(s.heap.push (DD led)).get? s.heap.objs.size=some (DD led):=AAD _ rfl;have ty:Shared.TypeIs { s with heap:=s.heap.push (DD led) } (.ref s.heap.objs.size) "set" := ⟨_,at_S,rfl⟩;have lt:l<s.heap.objs.size:=by obtain⟨o,e,_⟩:=hl;exact Heap.lt_size e
 have hl1:(s.heap.push (DD led)).IsList l its.toArray:=hl.push _;have tyl:Shared.TypeIs { s with heap:=s.heap.push (DD led) } (.ref l) "list" := hl1.typeIs;refine⟨ty,codeAny_call_builtin F.called_set.init.plain F.entry_set_init (check_set_init_1 ty ?_)⟩;have c1:=F.sub_list_set;have c2:=F.sub_list_frozenset;unfold Builtin.«set.__init__» noKeywords Builtin.Frozenset.updateFrom;have walk:∀(A:Around) (E:Value->Shared->Prop) (Q:Value->Shared->Prop),Q (.ref (s.heap.push (DD led)).objs.size) { s with heap:=(s.heap.push (DD led)).push { cls:=.type "list_iterator",data:=.fields #[.ref l,.int 0 0] } }->wpAny (model prog w) A (pyIter (.ref l)) Q E { s with heap:=s.heap.push (DD led) }:=λA E Q z=>wpAny_pyIter_list hl1 z
 wp_walk using walk
 have sz:(s.heap.push (DD led)).objs.size=s.heap.objs.size+1:=Heap.size_push ..;refine Vb (l:=l) (ss:=ss) (A:=A.in1.in1) (by simp[hh]) (by rw[sz];exact AAc (AAg lt)) (by rw[sz];exact AAc (Nat.lt_succ_self _)) (Nat.ne_of_gt lt) rv room ss.length 0 _ (Nat.sub_zero _) (AAi _) ⟨_,AAD _ rfl,rfl,rfl⟩ (hl1.push _) ?start λh' tk kp hS=>?fin
 case start=>
  exact(setObjOf_fresh (knd:=strKind prog w) led).setOf (AAC _ at_S) (by decide)
 case fin=>
  have ltS:∀{c:Addr} {o:Obj},s.heap.get? c=some o->c<s.heap.objs.size:=λe=>Heap.lt_size e;exact AAB (AAB ⟨rfl,q h' tk (λc o e=>kp c o (AAc (ltS e)) (by rw[sz];exact AAc (AAg (ltS e))) (AAC _ (AAC _ e))) hS⟩)
end
noncomputable def YL(P:Program)(w:World)(p:Addr)(ss:List Str):HO:=.ext λh=>h.SetOf (strKind P w) p (λk=>decide (k∈Cv ss)) (Cv ss).length
section
variable{X:Cx}
theorem UQ(hc:X.calm=true):CS X (.type "set") (λxs H Q=>∃a ss,xs=[.ref a]/\SqL X.kw H a (ss.map V.str)/\ss.length+2<scanBound/\∀p,H p=none->Q (.ref p) (upd H p (YL X.prog X.w p ss))):=by
 intro w6 s O H xs us Q I r h;obtain⟨a,ss,rfl,ha,room,q⟩:=h;obtain⟨u,rfl,ru⟩:=Vals.one r;cases ru;obtain⟨its,rv,pl,hz⟩:=I.list ha;refine UR (I.ok.hd hc) pl.isList rv room λh' tk kp hS=>?_;refine⟨.ref s.heap.objs.size,_,I.laid (o:=YL X.prog X.w s.heap.objs.size ss) kp (AAE _) ?_,rfl,q _ (I.hok.fresh (AAE _))⟩;obtain⟨o,es,ep,t,e,rest⟩:=id hS;refine⟨hS,⟨o,e⟩,λh1 h2 z k=>?_⟩;obtain⟨o,es,ep,t,e,rest⟩:=z;exact⟨o,es,ep,t,k o e,rest⟩
theorem UU:CS X (.builtin "len") (λxs H Q=>∃p ss,xs=[.ref p]/\H p=some (YL X.prog X.w p ss)/\Q (.int (Cv ss).length) H):=by
 intro w6 s O H xs us Q I r h;obtain⟨p,ss,rfl,hp,q⟩:=h;obtain⟨u,rfl,ru⟩:=Vals.one r;cases ru;obtain⟨hS,_⟩:=I.hok p _ hp;obtain⟨o,es,ep,t,e,ex,hd,_,_,hb,hf,hn⟩:=hS;refine call_len_set e ex hd hf (by unfold scanBound at hb;omega) ?_;rw[hn];exact⟨.int (Cv ss).length,H,I.tok _,⟨_,rfl⟩,q⟩
end
end L2
namespace Mi
open PySem L2
noncomputable def GH:List D->Option (List Str)
 |[]=>some []
 | .str x::ds=>(GH ds).map (x::·)
 |_=>none
theorem Kx:∀{ds:List D} {vs:List V} {ss:List Str},IsL K Y k H ds vs->GH ds=some ss->vs=ss.map V.str
 |[],_,_,h,e=>by cases e;unfold IsL at h;exact h
 |d::ds,_,_,h,e=>by
  cases d with
  |str x=>
   unfold IsL at h;obtain⟨v,vs',rfl,h1,h2⟩:=h;have e':(GH ds).map (x::·)=some _:=e;cases q:GH ds with
   |none=>rw[q] at e';cases e'
   |some ss=>
    rw[q] at e';cases e';unfold Is at h1;rw[h1,Kx h2 q];rfl
  |_=>cases e
noncomputable def KN(d:D):M D:=bnd (Co d) λds=>λZ=>match GH ds with
 |some ss=>if ss.length+2<scanBound then some (.int (Cv ss).length,Z) else none
 |none=>none
section
variable{X:Cx}{e:Expr}{pos p p2 pos2:Pos}
theorem Th(yl:X.mg "len" = none)(ys:X.mg "set" = none)(he:RE X e m)(hc:X.calm=true:=by rfl)(hgl:Gl X "len" := by rfl)(hgs:Gl X "set" := by rfl)(hst:N9 e=false:=by rfl):
  RE X (.Call (.Name "len" p) [.Call (.Name "set" p2) [e] [] pos2] [] pos) (mUn KN m):=by
 have hs:PE X (.Call (.Name "set" p2) [e] [] pos2) _:=Mg (UQ hc) hgs ys Mi.XY (Nu he.pe Ql (BG hst)) (by decide) (by decide) (BG hst) rfl;refine RE.wk (PD UU hgl yl Mi.Au (Nu hs Ql (BG rfl)) (by decide) (by decide) (BG rfl) rfl) λO H Q h=>?_;obtain⟨Y,Z,B,d,Z',R,S,ev,q⟩:=h;obtain⟨x,w9,e1,e2⟩:=AJ ev;obtain⟨ds,x6,e3,e4⟩:=AJ e2;refine⟨Y,Z,B,x,w9,R,S,e1,λx9 H1 E1 R1 v1 i1=>?_⟩;obtain⟨hm,a,vs,rfl,h1,h2⟩:=DV R1 i1 e3;subst hm;cases hx:GH ds with
 |none=>rw[hx] at e4;cases e4
 |some ss=>
  rw[hx] at e4;have e5:(if ss.length+2<scanBound then some (D.int (Cv ss).length,x6) else none)=some (d,Z'):=e4;split at e5
  ·rename_i room;cases e5;refine⟨a,ss,rfl,by rw[←Kx h2 hx];exact h1,room,λp hp=>?_⟩;obtain⟨E2,R2⟩:=R1.laid (YL X.prog X.w p ss) hp;exact⟨p,ss,rfl,B2,q x9 _ (E1.trans E2) R2 _ (ofI _)⟩
  ·cases e5
end
inductive How where
 |all|drop|frz
noncomputable def Tr(x6:Mh):How->D->D
 | .frz,.ref n=>match x6[n]? with
  |some (.lst ds)=>.lst ds
  |_=>.ref n
 |_,d=>d
noncomputable def JS(Z x6:Mh):How->Mh
 | .all=>x6
 |_=>x6.take Z.length
open Classical in
noncomputable def BJ(hw:How)(n ps:Nat)(mb:Sl->M (Fl×Sl)):List D->M D:=λds Z=>match mb (BI n ds) Z with
 |some ((fl,_),x6)=>if ds.length=ps/\(fl=.next∨∃d,fl=.rt d)/\FZ Z x6 (JS Z x6 hw) (FL fl) (Tr x6 hw (FL fl)) then some (Tr x6 hw (FL fl),JS Z x6 hw) else none
 |none=>none
theorem IN(h:BJ hw n ps mb ds Z=some (d,Z')):
  ds.length=ps/\∃fl x8 x6,mb (BI n ds) Z=some ((fl,x8),x6)/\(fl=.next∨∃d,fl=.rt d)/\FZ Z x6 Z' (FL fl) d:=by
 unfold BJ at h;split at h
 ·rename_i fl x8 x6 e;split at h
  ·rename_i c;cases h;exact⟨c.1,fl,x8,x6,e,c.2.1,c.2.2⟩
  ·cases h
 ·cases h
theorem FF(e:mb (BI n ds) Z=some ((fl,x8),x6))(hl:ds.length=ps)(hf:fl=.next∨∃d,fl=.rt d)(t:FZ Z x6 (JS Z x6 hw) (FL fl) (Tr x6 hw (FL fl))):
  BJ hw n ps mb ds Z=some (Tr x6 hw (FL fl),JS Z x6 hw):=by
 unfold BJ;rw[e];exact if_pos ⟨hl,hf,t⟩
theorem BP(e:mb (BI n ds) Z=some ((.rt d,x8),Z++g))(hl:ds.length=ps)(c:Cl Z.length d):BJ .drop n ps mb ds Z=some (d,Z):=by
 have t:JS Z (Z++g) .drop=Z:=by show (Z++g).take Z.length=Z;rw[List.take_left]
 have h:=FF (hw:=.drop) e hl (.inr ⟨d,rfl⟩) (by rw[t];exact Hv c);rw[t] at h;exact h
theorem BE(e:mb (BI n ds) Z=some ((.next,x8),Z++g))(hl:ds.length=ps):BJ .drop n ps mb ds Z=some (.non,Z):=by
 have t:JS Z (Z++g) .drop=Z:=by show (Z++g).take Z.length=Z;rw[List.take_left]
 have h:=FF (hw:=.drop) e hl (.inl rfl) (by rw[t];exact Hv (by show Cl _ D.non;unfold Cl;trivial));rw[t] at h;exact h
theorem HS(e:mb (BI n ds) Z=some ((.rt (.ref k),x8),Z++g))(hl:ds.length=ps)(hk:Z.length<=k)(hg:(Z++g)[k]?=some (.lst es))(c:ClL Z.length es):BJ .frz n ps mb ds Z=some (.lst es,Z):=by
 have t:JS Z (Z++g) .frz=Z:=by show (Z++g).take Z.length=Z;rw[List.take_left]
 have o:Tr (Z++g) .frz (FL (.rt (.ref k)))=.lst es:=by
  show (match (Z++g)[k]? with|some (.lst ds)=>D.lst ds|_=>.ref k)=_;rw[hg]
 have h:=FF (hw:=.frz) e hl (.inr ⟨_,rfl⟩) (by rw[t,o];exact⟨⟨g,rfl⟩,AAE _,λ_ _ z=>.inl z,.inr ⟨k,es,rfl,hg,hk,rfl,c⟩⟩);rw[t,o] at h;exact h
theorem IP(e:mb (BI n ds) Z=some ((.rt (.lst es),x8),Z++g))(hl:ds.length=ps)(c:ClL Z.length es):BJ .frz n ps mb ds Z=some (.lst es,Z):=by
 have t:JS Z (Z++g) .frz=Z:=by show (Z++g).take Z.length=Z;rw[List.take_left]
 have h:=FF (hw:=.frz) e hl (.inr ⟨_,rfl⟩) (by rw[t];exact Hv (by show Cl _ (D.lst es);unfold Cl;exact c));rw[t] at h;exact h
theorem BF(hw:How)(F:Fun K x qual st f fd)(S:Ak N ps (AQ st))(hm:mg x=some (.ref f))(hb:Binds K fd ps [])
  (body:∀(cdv:Value) (A:Around) (outer:List Env) (s:Shared) (H:Hp) (E:XK),Room k (A.deeper (PyProof.Rows.envOfC qual (AQ st) s.heap.objs.size f cdv))->RSs (IM CX0 P w K mg base N qual (AQ st) f cdv A outer s H E).nox (CL st) mb) :
  Fn P w K mg base x ps (k+1) (BJ hw N.length ps.length mb):=
 dA F S hm hb body (λds Z r h=>(IN (d:=r.1) (Z':=r.2) h).1) (λds Z d Z' h=>(IN h).2)
theorem Fn.mono(F:Fn P w K mg base x ps j φ)(h:j<=k):Fn P w K mg base x ps k φ:=by
 obtain⟨len,f,fd,F,hm,hk,hb⟩:=F;exact⟨len,f,fd,F.mono h,hm,hk,hb⟩
theorem Iy(F:Fun K x qual st f fd)(hm:mg x=some (.ref f))(hb:Binds K fd ps []):Fn P w K mg base x ps k (λ_=>BM):=by
 refine⟨(λds Z r h=>absurd (show (none:Option (D×Mh))=some r from h) (by simp)),⟨f,fd,⟨λvs H Q E h=>?_,λA outer s H args us vs Q E _ _ _ _ h=>?_⟩,hm,F.kp,hb⟩⟩
 ·obtain⟨_,Y,Z,as,d,Z',_,_,e,_⟩:=h;cases e
 ·obtain⟨_,Y,Z,as,d,Z',_,_,e,_⟩:=h;cases e
section
variable{P:Program}{w:World}{K:PySem.W.Frag}{mg:Str->Option Value}{base h:Heap}{x:Str}
noncomputable def JK:List Value->Option (List Str)
 |[]=>some []
 | .str s _::r=>(JK r).map (s::·)
 |_::_=>none
theorem Jk:∀{us:List Value} {xs:List Str},JK us=some xs->Vals (xs.map V.str) us
 |[],xs,e=>by cases e;exact .nil
 |u::r,xs,e=>by
  cases u with
  |str s t=>
   have e:(JK r).map (s::·)=some xs:=e;cases q:JK r with
   |none=>rw[q] at e;cases e
   |some ys=>rw[q] at e;cases e;exact .cons ⟨t,rfl⟩ (Jk q)
  |_=>cases e
def TupLit(K:PySem.W.Frag)(p:Addr)(xs:List Str):Prop:=∃od its n sl,K.lookup p=some ⟨.type "tuple",od,.seq its n,sl⟩/\JK its.toList=some xs
theorem dk(l:K.lookup p=some ⟨.type "tuple",od,.seq its n,sl⟩)(e:JK its.toList=some xs):TupLit K p xs:=⟨od,its,n,sl,l,e⟩
theorem Pa:∀xs:List Str,IsL ⟨K,w⟩ Y k H (xs.map D.str) (xs.map V.str)
 |[]=>.nil
 |_::r=>.cons (by unfold Is;rfl) (Pa r)
theorem TupLit.is(h:TupLit K p xs)(hl:xs.length<=1000):Is ⟨K,w⟩ Y k H (.tup (xs.map D.str)) (.ref p):=by
 obtain⟨od,its,n,sl,l,e⟩:=h;have v:=Jk e;unfold Is;refine⟨p,_,rfl,.inr ⟨_,its,n,l,rfl,rfl,?_,v⟩,Pa xs⟩;have:=v.length;rw[AAF] at this;have z:its.size=xs.length:=by rw[this];simp
 rw[z];exact Nat.le_of_lt (JL hl)
theorem EE(X:K.In h)(G:h.Ns mainGlobals mg)(a:PySem.W.nsIn K mainGlobals x=some (some (.int i t))):Glo K mg x (.int i):=
 ⟨_,.int i,PySem.W.mg_of X G a,⟨t,rfl⟩,λ_ _ _ _=>by unfold Is;rfl⟩
theorem Ss(X:K.In h)(G:h.Ns mainGlobals mg)(a:PySem.W.nsIn K mainGlobals x=some (some (.str s t))):Glo K mg x (.str s):=
 ⟨_,.str s,PySem.W.mg_of X G a,⟨t,rfl⟩,λ_ _ _ _=>by unfold Is;rfl⟩
theorem OF(X:K.In h)(G:h.Ns mainGlobals mg)(a:PySem.W.nsIn K mainGlobals x=some (some (.ref p)))(l:TupLit K p xs)(hl:xs.length<=1000):Glo K mg x (.tup (xs.map D.str)):=
 ⟨_,.ref p,PySem.W.mg_of X G a,rfl,λ_ _ _ _=>l.is hl⟩
noncomputable def TabIs(K:PySem.W.Frag):List DictEntry->List (Str×List Str)->Prop
 |[],t=>t=[]
 |e::es,t=>∃x ys t' tok p,t=(x,ys)::t'/\e.key=.str x tok/\e.val=.ref p/\TupLit K p ys/\ys.length<=1000/\TabIs K es t'
theorem TabIs.noref:∀{es:List DictEntry} {t:List (Str×List Str)},TabIs K es t->es.any (·.refKey)=false
 |[],_,_=>rfl
 |e::es,t,h=>by
  obtain⟨x,ys,t',tok,p,rfl,hk,_,_,_,r⟩:=h;rw[List.any_cons,r.noref,Bool.or_false];show DictEntry.refKey e=false;unfold DictEntry.refKey;rw[hk]
noncomputable def Nc(t:List (Str×List Str))(y:Str):Option D:=(t.find? (·.1==y)).map λp=>.tup (p.2.map D.str)
theorem TabIs.find:∀{es:List DictEntry} {t:List (Str×List Str)} (y:Str),TabIs K es t->(es.find? (·.key.isStr y)=none/\Nc t y=none)∨∃e p ys,es.find? (·.key.isStr y)=some e/\e.val=.ref p/\TupLit K p ys/\ys.length<=1000/\Nc t y=some (.tup (ys.map D.str))
 |[],t,y,h=>by cases (show t=[] from h);exact .inl ⟨rfl,rfl⟩
 |e::es,t,y,h=>by
  obtain⟨x,ys,t',tok,p,rfl,hk,hv,l,hl,r⟩:=h;have q:e.key.isStr y=(x==y):=by rw[hk];rfl
  cases b:(x==y) with
  |true=>
   right;refine⟨e,p,ys,?_,hv,l,hl,?_⟩
   ·rw[List.find?_cons];simp only[q,b]
   ·unfold Nc;rw[List.find?_cons];simp only[b];rfl
  |false=>
   have z1:(e::es).find? (·.key.isStr y)=es.find? (·.key.isStr y):=by rw[List.find?_cons];simp only[q,b]
   have z2:Nc ((x,ys)::t') y=Nc t' y:=by unfold Nc;rw[List.find?_cons];simp only[b]
   rw[z1,z2];exact r.find y
theorem Sg(X:K.In h)(G:h.Ns mainGlobals mg)(a:PySem.W.nsIn K mainGlobals x=some (some (.ref ad)))(l:K.lookup ad=some ⟨.type "dict",none,.dict es n,#[]⟩)(kl:PySem.W.KeysLit w.params es.toList)
  (hs:(ad==sysModules)=false) (T:TabIs K es.toList t):Ub w K mg x (Nc t):=by
 refine⟨ad,PySem.W.mg_of X G a,λy=>?_⟩;have nr:=T.noref;rcases T.find y with ⟨f,g⟩|⟨e,p,ys,f,hv,tl,hl,g⟩
 ·refine⟨none,⟨y,es,n,none,rfl,l,kl,?_,trivial,hs⟩,.inl ⟨g,rfl⟩⟩;unfold PySem.W.nsIn;rw[l];simp only[f,nr];rfl
 ·refine⟨some (.ref p),⟨y,es,n,some (.ref p),rfl,l,kl,?_,rfl,hs⟩,.inr ⟨_,.ref p,g,rfl,λ_ _ _=>tl.is hl⟩⟩;unfold PySem.W.nsIn;rw[l];simp only[f,hv]
structure Df(K:PySem.W.Frag)(x:Str)(st:Stmt)(f:Addr)(fd:FuncData):Prop where
 a:PySem.W.nsIn K mainGlobals x=some (some (.ref f))
 F:Fun K x x st f fd
theorem gE{st:Stmt}{f:Addr}{oc:Value}{osl:Array (Option Value)}{kV doc pm cdv ct:Value}(a:PySem.W.nsIn K mainGlobals x=some (some (.ref f)))(l:K.lookup f=some ⟨oc,od,.func (PySem.W.fnOf x x (GB st) (CL st) (AQ st) .none kV doc pm an cdv ct),osl⟩)
  (c:PySem.W.codeIn K cdv x=true) (k:PySem.W.keepIn K (.ref f)=true):∃f fd,Df K x st f fd:=⟨f,_,a,Qy l c k⟩
theorem W7(hw:How)(F:Fun K x qual st f fd)(S:Ak N ps (AQ st))
  (body:∀(cdv:Value) (A:Around) (outer:List Env) (s:Shared) (H:Hp) (E:XK),Room k (A.deeper (PyProof.Rows.envOfC qual (AQ st) s.heap.objs.size f cdv))->RSs (IM CX0 P w K mg base N qual (AQ st) f cdv A outer s H E).nox (CL st) mb) :
  FnOk P w K mg base CX0 (k+1) f fd ps (spM ⟨K,w⟩ ps.length (BJ hw N.length ps.length mb)):=
 M6 F S rfl body (λds Z d Z' h=>(IN h).2)
noncomputable def Rx(K:PySem.W.Frag):Sp:=λvs H Q _=>∃(a:Addr) (ns:List Int),vs=[.ref a]/\ScrAt K H a (ns.map V.int)/\ns.length<=63/\∀H',Q (.bl true) H'
theorem ai(F:FnOk P w K mg base CX0 k f fd ["_law_script"] (spM ⟨K,w⟩ 1 φ))(hφ:∀ns:List Int,ns.length<=63->∃Z',φ [.scr ns] []=some (.bl true,Z')):FnOk P w K mg base CX0 k f fd ["_law_script"] (Rx K):=
 F.imp λvs H Q E q=>by
  obtain⟨a,ns,rfl,s,hl,q⟩:=q;obtain⟨Z',e⟩:=hφ ns hl;refine⟨rfl,λ_=>a,[],[.scr ns],.bl true,Z',⟨λi j h=>absurd h (Nat.not_lt_zero _),λn o e=>by simp at e⟩,.one (by unfold Is;exact⟨a,rfl,s⟩),e,λu9 H2 E2 R2 v i=>?_⟩;unfold Is at i;rw[i];exact q H2
theorem O1(o:Zo H)(s:SqL K H a xs):ScrAt K H a xs:=by
 rcases s with z|z
 ·rcases z with z|⟨p,z⟩
  ·rcases o a with q|⟨p,ys,q⟩
   ·rw[q] at z;cases z
   ·rw[q] at z;cases z
  ·exact .inl ⟨p,z⟩
 ·exact .inr z
end
theorem dh{l:PySem.W.OpenLaw}{q:Program}{loose:List Str}{XP:(Str->Option Value)->Heap->Prop}{K:Params->PySem.W.Frag}{k:Nat}(hn:l.most=some 63)(hdf:d.params.defaults=[])(hk:k<=60)
  (hY:∀(w:World) (h:Heap),YP w h->(K w.params).In h)
  (F:∀(w:World) (mg:Str->Option Value) (fa:Addr) (h:Heap),(K w.params).In h->h.Ns mainGlobals mg->mg d.name=some (.ref fa)->
   ∃fd:FuncData,(∀(s:Shared) (u:Value),BindsTo s fd ⟨[u],[]⟩ [("_law_script",u)])/\∀base:Heap,(K w.params).In base->base.Ns mainGlobals mg->FnOk l.prog w (K w.params) mg base CX0 k fa fd ["_law_script"] (Rx (K w.params))) :
  PySem.W.WalkO q loose XP YP l.row.toRowW d [] (λf vs=>PySem.call f vs):=
 L2.X9 (n:=63) (k:=k) (x := "_law_script") (CX:=λ_=>CX0) (sp:=λw=>Rx (K w.params)) hn (by decide) hdf (Room.mono (j:=k) (k:=60) ⟨rfl,by decide,by decide⟩ hk) hY F (λ_ _ a ns hl o hS=>⟨a,ns,rfl,O1 o hS,hl,λ_=>rfl⟩) λ_ _ _ _ _ z=>z
def Pu{α:Type}(m:Sl->M α):Prop:=∀B Z a Z',m B Z=some (a,Z')->Z'=Z
def Pu2(g:D->D->M D):Prop:=∀x y Z a Z',g x y Z=some (a,Z')->Z'=Z
theorem SN:Pu (AD i):=λB Z a Z' e=>by
 unfold AD at e;split at e
 ·cases e;rfl
 ·cases e
theorem eT:Pu (mC d):=λB Z a Z' e=>by cases e;rfl
theorem SL:Pu Ba:=λB Z a Z' e=>by cases e;rfl
theorem Z7(hg:Pu2 g)(ha:Pu ma)(hb:Pu mb):Pu (mOp g ma mb):=λB Z a Z' e=>by
 obtain⟨x,w9,e1,e2⟩:=AJ e;obtain⟨y,x6,e3,e4⟩:=AJ e2;rw[hg _ _ _ _ _ e4,hb _ _ _ _ e3,ha _ _ _ _ e1]
theorem SM(h:Pu m):Pu (AW m):=λB Z a Z' e=>by
 obtain⟨x,w9,e1,e2⟩:=AJ e;have z:=h _ _ _ _ e1;cases x with
 |bl b=>cases e2;exact z
 |_=>cases e2
theorem WB:Pu2 (Gh n):=λx y Z a Z' e=>by
 unfold Gh at e;split at e
 ·split at e
  ·cases e;rfl
  ·cases e
 ·cases e
theorem NP(e:Co d Z=some (ds,Z')):Z'=Z:=by
 cases d with
 |lst _=>cases e;rfl
 |scr _=>cases e;rfl
 |ref n=>
  have e:(match Z[n]? with|some (.lst ds)=>some (ds,Z)|_=>none)=some (ds,Z'):=e;split at e
  ·cases e;rfl
  ·cases e
 |_=>cases e
theorem UZ(e:B0 d Z=some (ds,Z')):Z'=Z:=by
 cases d with
 |tup _=>cases e;rfl
 |_=>exact NP (by unfold B0 at e;exact e)
theorem Z8:Pu2 Aa:=λx y Z a Z' e=>by
 unfold Aa at e;split at e
 ·split at e
  ·rename_i z i hl;cases q:atI z.cps.toList i with
   |none=>rw[q] at e;cases e
   |some c=>rw[q] at e;cases e;rfl
  ·cases e
 ·obtain⟨ds,w9,e1,e2⟩:=AJ e;have z:=UZ e1;unfold ixD at e2;rename_i i _;cases q:atI ds i with
  |none=>rw[q] at e2;cases e2
  |some c=>rw[q] at e2;cases e2;exact z
 ·cases e
section
variable{X:Cx}{e tg iter:Expr}
noncomputable def NQ:D->M (List D)
 | .ref n=>λZ=>match Z[n]? with
  |some (.lst ds)=>some (ds,Z)
  |_=>none
 |_=>BM
noncomputable def LZ(m:Sl->M D):Sl->M (List D):=λB=>bnd (m B) NQ
noncomputable def ItP(K:KW)(J:It)(ds:List D)(Y:Nat->Addr)(Z:Mh)(H:Hp):Prop:=∀Y' H',Ext Y Z.length H Y' Z.length H'->RelH K Y' Z H'->
 (∀i,i<ds.length->J.go i H')/\J.stop ds.length H'/\∀(i:Nat) x H2 d,ds[i]?=some d->J.yld i H' x H2->Ext Y' Z.length H' Y' Z.length H2/\RelH K Y' Z H2/\Is K Y' Z.length H2 d x
noncomputable def tIP(K:KW)(m:Sl->M (List D)):TI:=λO H R=>∃Y Z B ds Z',RelH K Y Z H/\RelS K Y Z.length H B O/\m B Z=some (ds,Z') /\
 Aft K Y Z H Z' λY' H'=>∀J,ItP K J ds Y' Z' H'->R J H'
structure RIP(X:Cx)(tg iter:Expr)(m:Sl->M (List D)):Prop where
 pe:PI X tg iter (tIP X.kw m)
theorem Qg(h:RE X e m):RIP X tg e (LZ m):=⟨PI.wk (SS h.pe) λO H Q q=>by
 obtain⟨Y,Z,B,ds,Z',R0,S,e,q⟩:=q;obtain⟨x,w9,e1,e⟩:=AJ e;cases x with
 |ref n=>
  have e:(match w9[n]? with|some (.lst ds)=>some (ds,w9)|_=>none)=some (ds,Z'):=e;split at e
  ·rename_i es hn;cases e;refine⟨Y,Z,B,_,_,R0,S,e1,λx9 H1 E1 R1 v i1=>?_⟩;unfold Is at i1;obtain⟨hk,rfl⟩:=i1;obtain⟨u,hu,o⟩:=R1.obj n _ hn;obtain⟨vs,rfl,iv⟩:=o;refine⟨_,rfl,⟨vs,SqL.of hu⟩,q x9 H1 E1 R1 _ ?_⟩;intro u9 H2 E2 R2;obtain⟨u2,hu2,o2⟩:=R2.obj n _ hn;obtain⟨vs2,rfl,iv2⟩:=o2;rw[E2.agree n hk] at hu2;have hl:=iv2.length;refine⟨λj hj=>⟨vs2,vs2[j],SqL.of hu2,by simp⟩,⟨vs2,SqL.of hu2,by omega⟩,λj x H3 d hd y=>?_⟩;obtain⟨z,y⟩:=y;subst z;obtain⟨v,ev,iv3⟩:=iv2.get hd;have:=y vs2 (SqL.of hu2);rw[ev] at this;cases this;exact⟨R2.ext0,R2,iv3⟩
  ·cases e
 |_=>cases e⟩
end
end Mi
namespace K1
open PySem L2 Mi
noncomputable def sl(xs:List Str):D:=.tup (xs.map D.str)
noncomputable def HR:D:=.str "abcdefghijklmnopqrstuvwxyz"
noncomputable def C2:D:=.int 9
noncomputable def Er:D:=.int 5
noncomputable def CM:D:=sl ["+", "-", "=", "<", "and", "or"]
noncomputable def KZ:D:=sl ["safe", "steady", "whole"]
noncomputable def Em:D:=.int 6
noncomputable def EK:D:=.int 2
noncomputable def El:D:=.int 4
noncomputable def EU:D:=.int 60
noncomputable def EJ:D:=.int 400
noncomputable def GC:D:=.int 2
noncomputable def G5:D:=.int 10
noncomputable def Do:D:=sl ["not", "and", "or"]
noncomputable def Ta:List (Str×List Str):=[("put",["box", "expression"]),("get",["variable", "box"]),("let",["variable", "expression"]),("unless",["expression", "target"]),("jump",["target"]),("tell",["expression"]),("done",[])]
noncomputable def Bi:Str->Option D:=Nc Ta
noncomputable def LX  : Sl->M (Fl×Sl):=
  (A1 (ES (AF FW (AC (AD 0) (AC (mC (.ty "int")) AI))) (ES (PU (AF FW (AC (AD 0) (AC (mC (.ty "bool")) AI)))) (FC LL LL (AD 1) (AD 0) (AD 2)))))
noncomputable def Ms  : Sl->M (Fl×Sl):=
  (A1 (ES (AF FW (AC (AD 0) (AC (mC (.ty "str")) AI))) (ES (FC LL LL (mC (.int 1)) (AF Bk (AC (AD 0) AI)) (mC (.int 8))) (AF RB (AC (BU 1 [] (PR (AD 0)) (AR 0) Ba (mOp (C4 false) (AD 0) (mC HR)) A4) AI)))))
noncomputable def Ci(iJ:List D->M D)(iK:List D->M D)(iI:List D->M D):Sl->M (Fl×Sl):=
  (AT (sIf (mOr (AW (mOp GR (AD 1) (mC (.int 1)))) (mOr (HY (AW (AF FW (AC (AD 0) (AC (mC (.ty "tuple")) AI))))) (AW (mOp A8 (AF Bk (AC (AD 0) AI)) (mC (.int 0)))))) (A1 (mC (.bl false))) BC)
  (AT (A2 (mOp Aa (AD 0) (mC (.int 0))) (AR 2))
  (AT (sIf (AW (mOp (C4 false) (AD 2) (mC CM))) (A1 (ES (mOp A8 (AF Bk (AC (AD 0) AI)) (mC (.int 3))) (ES (AF iJ (AC (mOp Aa (AD 0) (mC (.int 1))) (AC (mOp FT (AD 1) (mC (.int 1))) AI))) (AF iJ (AC (mOp Aa (AD 0) (mC (.int 2))) (AC (mOp FT (AD 1) (mC (.int 1))) AI)))))) BC)
  (AT (sIf (AW (mOp B4 (AF Bk (AC (AD 0) AI)) (mC (.int 2)))) (A1 (mC (.bl false))) BC)
  (AT (sIf (AW (mOp A8 (AD 2) (mC (.str "num")))) (A1 (AF iK (AC (mOp Aa (AD 0) (mC (.int 1))) (AC (mC (.int 0)) (AC (mC C2) AI))))) BC)
  (AT (sIf (AW (mOp A8 (AD 2) (mC (.str "var")))) (A1 (AF iI (AC (mOp Aa (AD 0) (mC (.int 1))) AI))) BC)
  (A1 (ES (mOp A8 (AD 2) (mC (.str "not"))) (AF iJ (AC (mOp Aa (AD 0) (mC (.int 1))) (AC (mOp FT (AD 1) (mC (.int 1))) AI)))))))))))
noncomputable def B6(iN:List D->M D):Sl->M (Fl×Sl):=
  (AT (sIf (AW (mOp A8 (mOp Aa (AD 0) (mC (.int 0))) (mC (.str "num")))) (A1 (AF A4 AI)) BC)
  (AT (sIf (AW (mOp A8 (mOp Aa (AD 0) (mC (.int 0))) (mC (.str "var")))) (A1 (AF A4 (AC (mOp Aa (AD 0) (mC (.int 1))) AI))) BC)
  (AT (A2 (AF EQ AI) (AR 1))
  (AT (D3 (C7 (mSl (AD 0) (CY (mC (.int 1))) B5)) (AR 2) (Ag (A3 MH (AD 1) (AC (AF iN (AC (AD 2) AI)) AI))))
  (A1 (AD 1))))))
noncomputable def cO  : Sl->M (Fl×Sl):=
  (sIf (HY (AW (AD 0))) JM BC)
noncomputable def LY  : Sl->M (Fl×Sl):=
  (A1 (ES (AF FW (AC (AD 0) (AC (mC (.ty "tuple")) AI))) (FC LL LL (AD 1) (AF Bk (AC (AD 0) AI)) (AD 2))))
noncomputable def Gp(LT:List D->M D)(iK:List D->M D):Sl->M (Fl×Sl):=
  (AT (Ag (AF LT (AC (mOp (C4 false) (AD 0) (mC KZ)) (AC (mC (.str "a kind is safe, steady or whole")) AI))))
  (AT (Ag (AF LT (AC (AF iK (AC (AD 1) (AC (mC GC) (AC (mC G5) AI)))) (AC (mC (.str "a size is a whole number from 2 to 10")) AI))))
  (Ag (AF LT (AC (AF iK (AC (AD 2) (AC (mC (.int 0)) (AC (mOp FT (AD 1) (mC (.int 1))) AI)))) (AC (mC (.str "a begin is a worth of its box")) AI))))))
noncomputable def Fk(iJ:List D->M D)(iK:List D->M D)(iI:List D->M D):Sl->M (Fl×Sl):=
  (AT (sIf (AW (mOp A8 (AD 0) (mC (.str "expression")))) (A1 (AF iJ (AC (AD 1) (AC (mC Er) AI)))) BC)
  (AT (sIf (AW (mOp A8 (AD 0) (mC (.str "target")))) (A1 (AF iK (AC (AD 1) (AC (mC (.int 0)) (AC (AD 2) AI))))) BC)
  (A1 (AF iI (AC (AD 1) AI)))))
noncomputable def FA(LT:List D->M D):Sl->M (Fl×Sl):=
  (sIf (AW (AD 1)) (Ag (AF LT (AC (mOp B4 (AD 0) (mC (.str "tell"))) (AC (mC (.str "the writer tells nothing")) AI)))) (Ag (AF LT (AC (mOp B4 (AD 0) (mC (.str "done"))) (AC (mC (.str "a reader ends by telling")) AI)))))
noncomputable def Gq(ST:List D->M D)(LT:List D->M D)(iP:List D->M D)(im:List D->M D)(ip:List D->M D)(iy:List D->M D):Sl->M (Fl×Sl):=
  (AT (Ag (AF LT (AC (AF ST (AC (AD 0) (AC (mC (.int 5)) (AC (mC (.int 5)) AI)))) (AC (mC (.str "a making is a tuple of five parts")) AI))))
  (AT (Ag (AF iP (AC (mOp Aa (AD 0) (mC (.int 0))) (AC (mOp Aa (AD 0) (mC (.int 1))) (AC (mOp Aa (AD 0) (mC (.int 2))) AI)))))
  (AT (Ag (AF im (AC (mOp Aa (AD 0) (mC (.int 3))) AI)))
  (AT (Ag (AF ip (AC (mOp Aa (AD 0) (mC (.int 4))) AI)))
  (AT (A2 (BU 1 [] (C7 (mOp Aa (AD 0) (mC (.int 4)))) (AR 0) Ba (mOp Aa (AD 0) (mC (.int 0))) A4) (AR 1))
  (AT (A2 fQ (AR 2))
  (AT (D3 (C7 (mOp Aa (AD 0) (mC (.int 3)))) (AR 3) (AT (Ag (AF LT (AC (mOp (C4 false) (mOp Aa (AD 3) (mC (.int 4))) (AD 1)) (AC (mC (.str "the hand of a box is none")) AI))))
  (O2 (AD 2) (mOp Aa (AD 3) (mC (.int 0))) (mOp Aa (AD 3) (mC (.int 4))))))
  (D3 (Wq (AC (mOp Aa (AD 0) (mC (.int 4))) AI)) (DE [4,5]) (Ag (AF iy (AC (AD 5) (AC (mOp A8 (AD 4) (mC (.int 0))) (AC (AD 2) AI)))))))))))))
noncomputable def Hl(ST:List D->M D)(LT:List D->M D)(iI:List D->M D)(iP:List D->M D)(iR:List D->M D):Sl->M (Fl×Sl):=
  (AT (Ag (AF LT (AC (AF ST (AC (AD 0) (AC (mC (.int 0)) (AC (mC Em) AI)))) (AC (mC (.str "boxes are a tuple of at most six")) AI))))
  (AT (D3 (C7 (AD 0)) (AR 1) (AT (Ag (AF LT (AC (AF ST (AC (AD 1) (AC (mC (.int 5)) (AC (mC (.int 5)) AI)))) (AC (mC (.str "a box is a tuple of five parts")) AI))))
  (AT (Ag (AF LT (AC (AF iI (AC (mOp Aa (AD 1) (mC (.int 0))) AI)) (AC (mC (.str "a box has a name")) AI))))
  (Ag (AF iP (AC (mOp Aa (AD 1) (mC (.int 1))) (AC (mOp Aa (AD 1) (mC (.int 2))) (AC (mOp Aa (AD 1) (mC (.int 3))) AI))))))))
  (Ag (AF LT (AC (AF iR (AC (BU 1 [] (C7 (AD 0)) (AR 0) Ba (mOp Aa (AD 0) (mC (.int 0))) A4) AI)) (AC (mC (.str "two boxes have one name")) AI))))))
noncomputable def Hk(ST:List D->M D)(LT:List D->M D)(iI:List D->M D)(iK:List D->M D)(iR:List D->M D):Sl->M (Fl×Sl):=
  (AT (Ag (AF LT (AC (AF ST (AC (AD 0) (AC (mC EK) (AC (mC El) AI)))) (AC (mC (.str "hands are a tuple of two to four")) AI))))
  (AT (D3 (C7 (AD 0)) (AR 1) (AT (Ag (AF LT (AC (AF ST (AC (AD 1) (AC (mC (.int 3)) (AC (mC (.int 3)) AI)))) (AC (mC (.str "a hand is a tuple of three parts")) AI))))
  (AT (Ag (AF LT (AC (AF iI (AC (mOp Aa (AD 1) (mC (.int 0))) AI)) (AC (mC (.str "a hand has a name")) AI))))
  (AT (Ag (AF LT (AC (AF iK (AC (mOp Aa (AD 1) (mC (.int 1))) (AC (mC (.int 0)) (AC (mC EJ) AI)))) (AC (mC (.str "a told count is a whole number from 0 to 400")) AI))))
  (Ag (AF LT (AC (AF ST (AC (mOp Aa (AD 1) (mC (.int 2))) (AC (mC (.int 0)) (AC (mC EU) AI)))) (AC (mC (.str "rows are a tuple of at most sixty")) AI))))))))
  (Ag (AF LT (AC (AF iR (AC (BU 1 [] (C7 (AD 0)) (AR 0) Ba (mOp Aa (AD 0) (mC (.int 0))) A4) AI)) (AC (mC (.str "two hands have one name")) AI))))))
noncomputable def Ir  : Sl->M (Fl×Sl):=
  (A1 (mOp A8 (mUn KN (AD 0)) (AF Bk (AC (AD 0) AI))))
noncomputable def N3(iz:List D->M D)(ie:List D->M D)(iY:List D->M D)(LT:List D->M D):Sl->M (Fl×Sl):=
  (D3 (C7 (mOp Aa (AD 0) (mC (.int 2)))) (AR 3) (AT (Ag (AF iz (AC (AD 3) (AC (AF Bk (AC (mOp Aa (AD 0) (mC (.int 2))) AI)) AI))))
  (AT (Ag (AF ie (AC (mOp Aa (AD 3) (mC (.int 0))) (AC (AD 1) AI))))
  (AT (Ag (AF iY (AC (AD 3) (AC (AD 1) AI))))
  (AT (sIf (AW (mOp A8 (mOp Aa (AD 3) (mC (.int 0))) (mC (.str "put")))) (Ag (AF LT (AC (mOp A8 (Lc (AD 2) (mOp Aa (AD 3) (mC (.int 1)))) (mOp Aa (AD 0) (mC (.int 0)))) (AC (mC (.str "a hand puts a box that it does not write")) AI)))) BC)
  (sIf (AW (mOp A8 (mOp Aa (AD 3) (mC (.int 0))) (mC (.str "get")))) (Ag (AF LT (AC (mOp (UM false) (mOp Aa (AD 3) (mC (.int 2))) (AD 2)) (AC (mC (.str "a hand gets a box that is none")) AI)))) BC))))))
noncomputable def CH(ST:List D->M D)(LT:List D->M D)(jB:List D->M D):Sl->M (Fl×Sl):=
  (AT (Ag (AF LT (AC (AF ST (AC (AD 0) (AC (mC (.int 1)) (AC (mC (.int 3)) AI)))) (AC (mC (.str "a row is a tuple of one to three parts")) AI))))
  (AT (Ag (AF LT (AC (ES (AF FW (AC (mOp Aa (AD 0) (mC (.int 0))) (AC (mC (.ty "str")) AI))) (mUn (ZK Bi) (mOp Aa (AD 0) (mC (.int 0))))) (AC (mC (.str "a row begins with one of seven words")) AI))))
  (AT (A2 (mUn (Si Bi) (mOp Aa (AD 0) (mC (.int 0)))) (AR 2))
  (AT (Ag (AF LT (AC (mOp A8 (AF Bk (AC (AD 0) AI)) (mOp GN (mC (.int 1)) (AF Bk (AC (AD 2) AI)))) (AC (mC (.str "a row has the parts of its word")) AI))))
  (D3 (Wo (AC (AD 2) (AC (mSl (AD 0) (CY (mC (.int 1))) B5) AI))) (DE [3,4]) (Ag (AF LT (AC (AF jB (AC (AD 3) (AC (AD 4) (AC (AD 1) AI)))) (AC (Sc [(mC (.str "a row has another thing than its ")),(ZD (AD 3))]) AI)))))))))
noncomputable def FV(ii:List D->M D)(LT:List D->M D):Sl->M (Fl×Sl):=
  (AT (D3 (C7 (AF ii (AC (AD 0) AI))) (AR 2) (AT (Ag (AF LT (AC (mOp (C4 true) (AD 2) (mC Do)) (AC (mC (.str "a variable is called like a word of expressions")) AI))))
  (Ag (AF LT (AC (MF (AD 1) (mOp B4 (AD 2) (mC (.str "v")))) (AC (mC (.str "a reader has no variable v")) AI))))))
  (sIf (AW (mOp (C4 false) (mOp Aa (AD 0) (mC (.int 0))) (AF DL (AC (mC (.str "get")) (AC (mC (.str "let")) AI))))) (Ag (AF LT (AC (mOp B4 (mOp Aa (AD 0) (mC (.int 1))) (mC (.str "v"))) (AC (mC (.str "the variable v is set by no row")) AI)))) BC))
noncomputable def Bc(iN:List D->M D):Sl->M (Fl×Sl):=
  (AT (A2 (AF EQ AI) (AR 1))
  (AT (D3 (Wo (AC (mUn (Si Bi) (mOp Aa (AD 0) (mC (.int 0)))) (AC (mSl (AD 0) (CY (mC (.int 1))) B5) AI))) (DE [2,3]) (AT (sIf (AW (mOp A8 (AD 2) (mC (.str "variable")))) (Ag (A3 C9 (AD 1) (AC (AD 3) AI))) BC)
  (sIf (AW (mOp A8 (AD 2) (mC (.str "expression")))) (Ag (A3 MH (AD 1) (AC (AF iN (AC (AD 3) AI)) AI))) BC)))
  (A1 (AD 1))))
noncomputable def IG  : Sl->M (Fl×Sl):=
  (AT (sIf (AW (mOp GR (AD 1) (AF Bk (AC (AD 0) AI)))) (A1 (mOp Aa (AD 0) (AD 1))) BC)
  (A1 (mC (.int 0))))
noncomputable def N4  : Sl->M (Fl×Sl):=
  (A1 (AF EQ (AC (AF Qp (AC (mC (.int 0)) (AC (mOp FT (AD 0) (mOp V7 (mC (.int 10)) (mC (.int 9)))) AI))) (AC (mOp Jr (AD 0) (mC (.int 2147483647))) (AC (mC (.int 0)) AI)))))
noncomputable def Iu  : Sl->M (Fl×Sl):=
  (AT (sIf (AW (mOp Hz (mOp Aa (AD 0) (mC (.int 0))) (mC (.int 0)))) (AT (A2 (mOp Jr (mOp Aa (AD 0) (mC (.int 0))) (AD 1)) (AR 2))
  (AT (A2 (mOp JR (mOp Aa (AD 0) (mC (.int 0))) (AD 1)) (Xb (AD 0) (mC (.int 0))))
  (A1 (AD 2)))) BC)
  (AT (A2 (mOp GN (mOp Aa (AD 0) (mC (.int 2))) (mC (.int 1))) (Xb (AD 0) (mC (.int 2))))
  (AT (A2 (mOp Jr (mOp Fi (mOp GN (mOp GN (mOp Aa (AD 0) (mC (.int 1))) (mOp Fi (mC (.int 7919)) (mOp Aa (AD 0) (mC (.int 2))))) (mC (.int 1))) (mC (.int 48271))) (mC (.int 2147483647))) (AR 3))
  (AT (A2 (mOp Jr (mOp Fi (AD 3) (mOp GN (mOp JR (AD 3) (mC (.int 1009))) (mC (.int 69621)))) (mC (.int 2147483647))) (AR 3))
  (AT (A2 (mOp Jr (mOp Fi (AD 3) (mOp GN (mOp JR (AD 3) (mC (.int 2003))) (mC (.int 40692)))) (mC (.int 2147483399))) (AR 3))
  (A1 (mOp Jr (mOp GN (mOp Fi (AD 3) (mC (.int 48271))) (mOp JR (AD 3) (mC (.int 7)))) (AD 1))))))))
noncomputable def IK:List D->M D:=BJ .drop 2 2 (IG)
noncomputable def OI:List D->M D:=BJ .all 1 1 (N4)
noncomputable def BS:List D->M D:=BJ .drop 4 2 (Iu)
noncomputable def CQ:List D->M D:=BJ .drop 3 3 (LY)
noncomputable def B9:List D->M D:=BJ .drop 2 2 (cO)
noncomputable def DP:List D->M D:=BJ .drop 3 3 (LX)
noncomputable def CV:List D->M D:=BJ .drop 3 3 (Gp B9 DP)
noncomputable def CU:List D->M D:=BJ .drop 1 1 (Ms)
noncomputable def Ej:List D->M D:=BJ .drop 1 1 (Ir)
noncomputable def EI:List D->M D:=BJ .drop 2 1 (Hl CQ B9 CU CV Ej)
noncomputable def EH:List D->M D:=BJ .drop 2 1 (Hk CQ B9 CU DP Ej)
noncomputable def DH:Nat->List D->M D
 |0=>λ_=>BM
 |n+1=>BJ .drop 3 2 (Ci (DH n) DP CU)
noncomputable def Ep:List D->M D:=BJ .drop 3 3 (Fk (DH 6) DP CU)
noncomputable def Ei:List D->M D:=BJ .drop 5 2 (CH CQ B9 Ep)
noncomputable def CW:List D->M D:=BJ .drop 2 2 (FA B9)
noncomputable def Bp:Nat->List D->M D
 |0=>λ_=>BM
 |n+1=>BJ .frz 3 1 (B6 (Bp n))
noncomputable def De:List D->M D:=BJ .frz 4 1 (Bc (Bp 6))
noncomputable def Ct:List D->M D:=BJ .drop 3 2 (FV De B9)
noncomputable def Eh:List D->M D:=BJ .drop 4 3 (N3 Ei CW Ct B9)
noncomputable def Dh:List D->M D:=BJ .drop 6 1 (Gq CQ B9 CV EI EH Eh)
end K1
namespace L2
open PySem PySem.Spec PyProof.Rows Sem
end L2
namespace L2
open PySem PySem.Spec PyProof.Rows
end L2
namespace Mi
open PySem L2
section
variable{K:KW}{Y:Nat->Addr}{k:Nat}{H:Hp}
theorem ClsAt.eq(a:ClsAt K c C)(b:ClsAt K c C'):C=C':=by
 unfold ClsAt at a b;rw[a] at b;cases b;rfl
theorem FVs.lookup:∀{l:List (Str×D)} {r:List (Str×V)} {d:D},FVs K Y k H l r->l.lookup f=some d->∃v,r.lookup f=some v/\Is K Y k H d v
 |[],_,_,_,e=>by cases e
 |(y,d0)::l,_,d,h,e=>by
  obtain⟨v,r',rfl,h1,h2⟩:=h;rw[List.lookup_cons] at e ⊢;cases q:f==y with
  |true=>rw[q] at e;cases e;exact⟨v,rfl,h1⟩
  |false=>rw[q] at e;exact FVs.lookup h2 e
theorem FVs.none:∀{l:List (Str×D)} {r:List (Str×V)},FVs K Y k H l r->l.lookup f=none->r.lookup f=none
 |[],_,h,_=>by cases h;rfl
 |(y,d0)::l,_,h,e=>by
  obtain⟨v,r',rfl,h1,h2⟩:=h;rw[List.lookup_cons] at e ⊢;cases q:f==y with
  |true=>rw[q] at e;cases e
  |false=>rw[q] at e;exact FVs.none h2 e
theorem FVs.len:∀{l:List (Str×D)} {r:List (Str×V)},FVs K Y k H l r->r.length=l.length
 |[],_,h=>by cases h;rfl
 |(y,d0)::l,_,h=>by
  obtain⟨v,r',rfl,h1,h2⟩:=h;simp[FVs.len h2]
noncomputable def GO(f:Str)(d:D):List (Str×D)->List (Str×D)
 |[]=>[(f,d)]
 |(y,x)::l=>if y=f then (y,d)::l else (y,x)::GO f d l
theorem FVs.put(i:Is K Y k H d v):∀{l:List (Str×D)} {r:List (Str×V)},FVs K Y k H l r->FVs K Y k H (GO f d l) (F5 f v r)
 |[],_,h=>by cases h;exact⟨v,[],rfl,i,rfl⟩
 |(y,d0)::l,_,h=>by
  obtain⟨w,r',rfl,h1,h2⟩:=h;unfold GO F5;by_cases e:y=f
  ·rw[if_pos e,if_pos e];exact⟨v,r',rfl,i,h2⟩
  ·rw[if_neg e,if_neg e];exact⟨w,_,rfl,h1,FVs.put i h2⟩
end
noncomputable def Lz(c:Str):D->M (Nat×List (Str×D))
 | .ref n=>λZ=>match Z[n]? with
  |some (.ins c' l)=>if c'=c then some ((n,l),Z) else none
  |_=>none
 |_=>BM
theorem GG(R:RelH K Y Z H)(i:Is K Y Z.length H d v)(e:Lz c d Z=some (r,Z')):
  Z'=Z/\d=.ref r.1/\Z[r.1]?=some (.ins c r.2)/\v=.ref (Y r.1)/\∃C dx fs,H (Y r.1)=some (.ins C dx fs)/\ClsAt K c C/\H dx=some (.own (Y r.1))/\FVs K Y Z.length H r.2 fs:=by
 cases d with
 |ref n=>
  have e1:(match Z[n]? with|some (.ins c' l)=>if c'=c then some ((n,l),Z) else none|_=>none)=some (r,Z'):=e;clear e;split at e1
  ·rename_i c' l hq;split at e1
   ·rename_i hc;cases e1;rw[hc] at hq;unfold Is at i;obtain⟨u,h1,C,dx,fs,rfl,h2,h3,h4⟩:=R.obj n _ hq;exact⟨rfl,rfl,hq,i.2,C,dx,fs,h1,h2,h3,h4⟩
   ·cases e1
  ·cases e1
 |_=>cases e
structure CA(K:PySem.W.Frag)(c:Str)(C:Addr):Prop where
 at_:ClsAt K c C
 cl:Cls K C
noncomputable def FE(c f:Str)(d:D):M D:=bnd (Lz c d) λr=>λZ=>(r.2.lookup f).map λx=>(x,Z)
noncomputable def Jq(c f:Str)(mo mv:Sl->M D):Sl->M (Fl×Sl):=λB=>bnd (mv B) λy=>bnd (mo B) λx=>bnd (Lz c x) λr=>λZ=>if r.2.length<1000 then some ((.next,B),Z.set r.1 (.ins c (GO f y r.2))) else none
noncomputable def LU(c:Str)(φ:List D->M D):List D->M D:=λds Z=>match φ (.ref Z.length::ds) (Z++[.ins c []]) with
 |some (.non,Z')=>some (.ref Z.length,Z')
 |_=>none
noncomputable def F7(c m:Str)(φ:List D->M D)(mo:Sl->M D)(ma:Sl->M (List D)):Sl->M D:=λB=>bnd (mo B) λx=>bnd (Lz c x) λr=>if r.2.lookup m=none then bnd (ma B) λds=>φ (x::ds) else BM
structure Ini(P:Program)(w:World)(K:PySem.W.Frag)(mg:Str->Option Value)(base:Heap)(c:Str)(ps:List Str)(k:Nat)(φ:List D->M D):Prop where
 len:∀ds Z r,φ ds Z=some r->ds.length=ps.length
 ex:∃C f fd,ClsAt K c C/\mg c=some (.ref C)/\Mk K C f/\FnOk P w K mg base CX0 k f fd ps (spM ⟨K,w⟩ ps.length φ)/\Binds K fd ps []
structure Mth(P:Program)(w:World)(K:PySem.W.Frag)(mg:Str->Option Value)(base:Heap)(c m:Str)(ps:List Str)(k:Nat)(φ:List D->M D):Prop where
 len:∀ds Z r,φ ds Z=some r->ds.length=ps.length
 ex:∃C f fd,CA K c C/\Xi K C m f/\FnOk P w K mg base CX0 k f fd ps (spM ⟨K,w⟩ ps.length φ)/\Binds K fd ps []
section
variable{X:Cx}{e o value:Expr}{es:List Expr}{pos pos' apos:Pos}{c f:Str}{C:Addr}
theorem C6(ca:CA X.kw c C)(na:NoAttr X.kw C f)(he:RE X e m)(hb:attributeBase e f X.env (eval e X.env)=eval e X.env:=by rfl):RE X (.Attribute e f pos) (mUn (FE c f) m):=RE.wk (bn he.pe hb) λO H Q h=>by
 obtain⟨Y,Z,B,d,Z',R,S,ev,q⟩:=h;obtain⟨x,w9,e1,e2⟩:=AJ ev;obtain⟨r,x6,e3,e4⟩:=AJ e2;refine⟨Y,Z,B,x,w9,R,S,e1,λx9 H1 E1 R1 v1 i1=>?_⟩;obtain⟨hm,_,g1,rfl,C',dx,fs,g2,g3,g4,g5⟩:=GG R1 i1 e3;subst hm;cases ca.at_.eq g3;cases hl:r.2.lookup f with
 |none=>rw[hl] at e4;cases e4
 |some x0=>
  rw[hl] at e4;cases e4;obtain⟨v,hv,iv⟩:=g5.lookup hl;exact⟨_,C,dx,fs,v,rfl,g2,ca.cl,na,hv,q x9 H1 E1 R1 v iv⟩
theorem LB(ca:CA X.kw c C)(na:NoAttr X.kw C f)(ho:RE X o mo)(hv:RE X value mv)(hs:swapsWith value (some (.Attribute o f pos')) pos.line X.env=pure false:=by rfl):RS X (.Assign [.Attribute o f pos'] value pos) (Jq c f mo mv):=RS.wk (bU ho.pe hv.pe hs) λDn O H h=>by
 obtain⟨Y,Z,B,fl,B',Z',R,S,ev,q⟩:=h;obtain⟨y,w9,e1,ee1⟩:=AJ ev;obtain⟨x,x6,e2,ee2⟩:=AJ ee1;obtain⟨r,v7,e3,ee3⟩:=AJ ee2;refine⟨Y,Z,B,y,w9,R,S,e1,λx9 H1 E1 R1 v1 i1=>⟨x9,w9,B,x,x6,R1,S.ext E1,e2,λu9 H2 E2 R2 v2 i2=>?_⟩⟩;obtain⟨hm,_,g1,rfl,C',dx,fs,g2,g3,g4,g5⟩:=GG R2 i2 e3;subst hm;cases ca.at_.eq g3;have ee3:(if r.2.length<1000 then some ((Fl.next,B),List.set v7 r.1 (MO.ins c (GO f y r.2))) else none)=some ((fl,B'),Z'):=ee3;split at ee3
 ·rename_i hl;cases ee3;have hlt:r.1<List.length v7:=(AAT.mp g1).1;obtain⟨E4,R4⟩:=R2.changed (m:=.ins c (GO f y r.2)) (o:=.ins C dx (F5 f v1 fs)) hlt ⟨C,dx,_,rfl,ca.at_,g4,FVs.put (i1.ext E2) g5⟩;exact⟨_,C,dx,fs,rfl,g2,ca.cl,na,by rw[g5.len];exact hl,q u9 _ ((E1.trans E2).trans E4) R4 O (S.ext ((E1.trans E2).trans E4))⟩
 ·cases ee3
theorem SG(F:Mth X.prog X.w X.kw X.mg X.base c mm ps k φ)(hr:Room j X.A)(ho:RE X o mo)(ha:RA X (e::es) ma)(hkj:k<=j:=by decide)
  (hst:starEach (e::es) X.env=(false,eval e X.env)::starEach es X.env:=by exact BG rfl) (hpl:(backTo pos (starEach es X.env)).any (·.1)=false:=by exact Bb rfl)
  (ht:eval (.Call (.Attribute o mm apos) (e::es) [] pos) X.env=(do
   let ov ←eval o X.env
   standAt apos.atName
   let (f,first) ←holding [ov] (getMethod ov mm pl)
   callWith pos f first (backTo pos (starEach (e::es) X.env)) (backToKw pos (keywordEach [] X.env))):=by rfl):RE X (.Call (.Attribute o mm apos) (e::es) [] pos) (F7 c mm φ mo ma):=by
 obtain⟨len,C,f,fd,ca,M,F,hb⟩:=F;refine RE.wk (Ys (pl:=pl) ho.pe ca.cl M F (hr.mono hkj) hb .nil SU ha.pe hst hpl ht) λO H Q h=>?_;obtain⟨Y,Z,B,d,Z',R,S,ev,q⟩:=h;obtain⟨x,w9,e1,e2⟩:=AJ ev;obtain⟨r,x6,e3,e4⟩:=AJ e2;refine⟨Y,Z,B,x,w9,R,S,e1,λx9 H1 E1 R1 v1 i1=>?_⟩;obtain⟨hm,ex,g1,rfl,C',dx,fs,g2,g3,g4,g5⟩:=GG R1 i1 e3;subst hm;cases ca.at_.eq g3;split at e4
 ·rename_i hl;obtain⟨ds,v7,e5,e6⟩:=AJ e4;refine⟨_,dx,fs,rfl,g2,g5.none hl,x9,x6,B,ds,v7,R1,S.ext E1,e5,λu9 H2 E2 R2 vs i2=>?_⟩;have hlen:=len _ _ _ e6;exact⟨by rw[AAH,AAG,List.length_nil,Nat.add_zero,i2.length,←hlen];rfl,u9,_,_,_,_,R2,.cons (i1.ext E2) (by rw[AAY];exact i2),e6,λv8 H3 E3 R3 v iv=>q v8 H3 ((E1.trans E2).trans E3) R3 v iv⟩
 ·cases e4
end
noncomputable def NAs(K:PySem.W.Frag)(C:Addr):List Str->Prop
 |[]=>True
 |x::r=>PySem.W.findIn K (.ref C) x=some none/\NAs K C r
theorem NAs.all:∀{fl:List Str},NAs K C fl->∀x∈fl,NoAttr K C x
 |[],_,_,h=>nomatch h
 |y::r,n,x,h=>by
  rcases AAI.mp h with rfl|h
  ·exact n.1
  ·exact NAs.all n.2 x h
structure Dc(K:PySem.W.Frag)(c:Str)(fl:List Str)(C:Addr):Prop where
 ca:CA K c C
 na:∀x∈fl,NoAttr K C x
structure Di(K:PySem.W.Frag)(c qual:Str)(st:Stmt)(C f:Addr)(fd:FuncData):Prop where
 at_:ClsAt K c C
 mak:Mk K C f
 F:Fun K "__init__" qual st f fd
structure Dm(K:PySem.W.Frag)(c m qual:Str)(st:Stmt)(C f:Addr)(fd:FuncData):Prop where
 ca:CA K c C
 me:Xi K C m f
 F:Fun K m qual st f fd
section
variable{K:PySem.W.Frag}{c qual:Str}{st:Stmt}{C f:Addr}{fl:List Str}{oc:Value}{od an:Option Addr}{osl:Array (Option Value)}{kV doc pm cdv ct:Value}
theorem gG(a:PySem.W.nsIn K mainGlobals c=some (some (.ref C)))(pg:PySem.W.plainGet K C Str.empty=true)(hd:PySem.W.hasDictIn K C=true)(po:PySem.W.plainOver K C=true)(sa:PySem.W.findIn K (.ref C) "__setattr__" = some (some (.builtin "object.__setattr__")))(na:NAs K C fl):∃C,Dc K c fl C:=
 ⟨C,⟨a,⟨pg,hd,po,sa⟩⟩,na.all⟩
theorem gD(a:PySem.W.nsIn K mainGlobals c=some (some (.ref C)))(mk:PySem.W.makesIn K C=true)(ini:PySem.W.findIn K (.ref C) "__init__" = some (some (.ref f)))(fn:PySem.W.isFn K (.ref f)=true)(kc:PySem.W.keepIn K (.ref C)=true)
  (l:K.lookup f=some ⟨oc,od,.func (PySem.W.fnOf "__init__" qual (GB st) (CL st) (AQ st) .none kV doc pm an cdv ct),osl⟩) (cd:PySem.W.codeIn K cdv qual=true) (k:PySem.W.keepIn K (.ref f)=true):∃C f fd,Di K c qual st C f fd:=⟨C,f,_,a,⟨mk,ini,fn,kc⟩,Qy l cd k⟩
end
noncomputable def Sn(st:Stmt)(j:Nat):Stmt:=match st with
 | .ClassDef _ _ _ body _ _ _ _ _ _ _=>body.getD j (.Pass ⟨0,0,0,0⟩)
 |_=>.Pass ⟨0,0,0,0⟩
end Mi
namespace Pk
open PySem PySem.Spec PyProof.Rows L2 Mi PySem.MeetsSeq PySem.SeqAt
end Pk
namespace Mi
open PySem L2 Pk
end Mi
namespace Mi
open PySem L2
noncomputable def E8(kvs more:List (Key×D)):List (Key×D):=more.foldl (λacc kv=>LN acc kv.1 kv.2) kvs
section
variable{K:PySem.W.Frag}{c m qual:Str}{st:Stmt}{C f:Addr}{oc:Value}{od an:Option Addr}{osl:Array (Option Value)}{kV doc pm cdv ct:Value}
theorem gA(a:PySem.W.nsIn K mainGlobals c=some (some (.ref C)))(pg:PySem.W.plainGet K C Str.empty=true)(hd:PySem.W.hasDictIn K C=true)(po:PySem.W.plainOver K C=true)(sa:PySem.W.findIn K (.ref C) "__setattr__" = some (some (.builtin "object.__setattr__")))
  (me:PySem.W.findIn K (.ref C) m=some (some (.ref f))) (fn:PySem.W.isFn K (.ref f)=true)
  (l:K.lookup f=some ⟨oc,od,.func (PySem.W.fnOf m qual (GB st) (CL st) (AQ st) .none kV doc pm an cdv ct),osl⟩) (cd:PySem.W.codeIn K cdv qual=true) (k:PySem.W.keepIn K (.ref f)=true):∃C f fd,Dm K c m qual st C f fd:=⟨C,f,_,⟨a,⟨pg,hd,po,sa⟩⟩,⟨me,fn,k⟩,Qy l cd k⟩
end
noncomputable def al:D->M Str
 | .str x=>ret x
 |_=>BM
noncomputable def Gs(g:D->List D->M D)(mo:Sl->M D)(ma:Sl->M (List D)):Sl->M D:=λB=>bnd (mo B) λx=>bnd (al x) λy=>bnd (ma B) λds=>g (.str y) ds
section
variable{X:Cx}{o e:Expr}{es:List Expr}{apos cpos:Pos}
theorem Fh{name:Str}{id:String}(slot:Slot "str" name id)(hty:typeOf (.builtin id)=pure (.type "method_descriptor"))(hm:MtR X id (rMM X.kw g))(ho:RE X o mo)(ha:RA X (e::es) ma)
  (hbase:attributeBase o name X.env (eval o X.env)=eval o X.env:=by rfl)
  (hfew:((backTo cpos (starEach (e::es) X.env)).all (λx=>!x.1)&&(backToKw cpos (keywordEach [] X.env)).all (λx=>x.1.isSome)
   && decide ((e::es).length+([]:List Keyword).length+(if ([]:List Keyword).isEmpty then 0 else 1)<30))=true:=by rfl)
  (hline:(apos.endLine==cpos.line)=true:=by rfl) (hs:starEach (e::es) X.env=(false,eval e X.env)::starEach es X.env:=by exact BG rfl) (hplain:(backTo cpos (starEach es X.env)).any (·.1)=false:=by exact Bb rfl) :
  RE X (.Call (.Attribute o name apos) (e::es) [] cpos) (Gs g mo ma):=RE.wk (WY PySem.F.plainAttrs_str slot hty hm ho.pe ha.pe hbase hfew hline hs hplain) λO H Q h=>by
 obtain⟨Y,Z,B,d,Z',R,S,ev,q⟩:=h;obtain⟨x,w9,e1,ee1⟩:=AJ ev;obtain⟨y,x6,e2,ee2⟩:=AJ ee1;obtain⟨ds,v7,e3,ee3⟩:=AJ ee2;have hy:x=.str y/\x6=w9:=by
  cases x with
  |str z=>cases e2;exact⟨rfl,rfl⟩
  |_=>cases e2
 obtain⟨rfl,rfl⟩:=hy;refine⟨Y,Z,B,.str y,_,R,S,e1,λx9 H1 E1 R1 v1 i1=>⟨?_,x9,_,B,ds,v7,R1,S.ext E1,e3,λu9 H2 E2 R2 vs i2=>?_⟩⟩
 ·cases CD i1;rfl
 ·exact⟨u9,v7,.str y,ds,d,Z',R2,i1.ext E2,i2,ee3,λv8 H3 E3 R3=>q v8 H3 ((E1.trans E2).trans E3) R3⟩
end
end Mi
namespace Mi
open PySem L2 PySem.Builtin.Str
noncomputable def Hw:D->List D->M D
 | .str x,[.str y]=>λZ=>if y.length≠0/\x.length+2<=sizeLine/\(Txt.split x y).length<=sizeLine then some (.lst ((Txt.split x y).map D.str),Z) else none
 |_,_=>BM
noncomputable def F8:D->List D->M D
 | .str x,[d]=>bnd (B0 d) λds=>λZ=>match GH ds with
  |some ts=>if JoinOk x ts=true then some (.str (Txt.join x ts),Z) else none
  |none=>none
 |_,_=>BM
noncomputable def DA:List D->M D
 |[.int i]=>λZ=>if i.natAbs.log2<1920 then some (.str (Str.ofString (toString i)),Z) else none
 |[.str x]=>ret (.str x)
 |_=>BM
noncomputable def DC:List D->M D
 |[.str x]=>λZ=>if x.length<=640 then (PySem.intText? x).map λn=>(.int n,Z) else none
 |ds=>cy ds
section
variable{prog:Program}{w:World}{A:Around}{E:Value->Shared->Prop}{s:Shared}{Q:Value->Shared->Prop}
theorem LV:∀(ts:List Str) (k:Nat),∃l:List (Str×Tok),strsFrom k ts=strValues l/\ts=l.map Prod.fst
 |[],_=>⟨[],rfl,rfl⟩
 |c::ts,k=>by
  obtain⟨l,e,e'⟩:=LV ts (k+1);exact⟨(c,k)::l,congrArg (Value.str c k::·) e,congrArg (c::·) e'⟩
def New(Q:Value->Shared->Prop)(s:Shared)(ts:List Str):Prop:=∀(l:List (Str×Tok)) (k:Nat),ts=l.map Prod.fst->Q (.ref s.heap.objs.size) { s with heap:=s.heap.push ⟨.type "list",none,.seq (strValues l).toArray,#[]⟩,toks:=k }
theorem Tc(hy:y.length≠0)(hz:x.length+2<=sizeLine)(q:New Q s (Txt.split x y)):wpAny (model prog w) A (call (.builtin "str.split") [.str x t,.str y u]) Q E s:=by
 have hy:=beq_false_of_ne hy;have all:∃S:Spec,Meets (Builtin.«str.split» ⟨[.str x t,.str y u],[]⟩) S/\S A (wants Q E) s:=by
  unfold Txt.split at q;split at q
  ·exact⟨_,meets_str_split_cannot_occur _ _ _ _ (by assumption),q [(x,t)] s.toks rfl⟩
  ·split at q
   ·exact⟨_,meets_str_split_not_found _ _ _ _ (Bool.eq_false_iff.mpr (by assumption)) hy (by assumption),q [(x,t)] s.toks rfl⟩
   ·refine⟨_,meets_str_split_sep _ _ _ _ (Bool.eq_false_iff.mpr (by assumption)) hy (Bool.eq_false_iff.mpr (by assumption)) (Nat.le_of_add_right_le hz) ?_,?_⟩
    ·have:=StrLaws.occ_length_le x y 0 x.length (x.length+1);simp only[PyProof.Rows.len_partsBetween];omega
    ·obtain⟨l,e,e'⟩:=LV (partsBetween x (occurrences x y 0 x.length (x.length+1)) y.length) s.toks;rw[e];exact q l _ e'
 obtain⟨S,m,r⟩:=all;exact call_meets F.slot_str_split (typeIs_str _ _ _) F.entry_str_split (F.args_str_split_2 _ _) m r
theorem Ku:∀{ts:List Str} {us:List Value},Vals (ts.map V.str) us->∃l:List (Str×Tok),us=strValues l/\l.map (·.1)=ts
 |[],_,r=>by cases r;exact⟨[],rfl,rfl⟩
 |x::ts,_,r=>by
  rw[AAW] at r;cases r with
  |cons a r=>
   obtain⟨t,rfl⟩:=a;obtain⟨l,rfl,e⟩:=Ku r;exact⟨(x,t)::l,rfl,by rw[AAW,e]⟩
theorem Ko:∀(l:List (Str×Tok)),Vals ((l.map (·.1)).map V.str) (strValues l)
 |[]=>.nil
 |(x,t)::l=>.cons ⟨t,rfl⟩ (Ko l)
end
section
variable{X:Cx}
theorem Mx:∀(ts:List Str),IsL K Y k H (ts.map D.str) (ts.map V.str)
 |[]=>.nil
 |x::ts=>.cons (ofS x) (Mx ts)
theorem SY:MtR X "str.split" (rMM X.kw Hw):=λw6 s O H x xs v us Q I rx rs h=>by
 obtain⟨Y,Z,a,as,d,Z',R,ia,ib,ev,q⟩:=h;unfold Hw at ev;split at ev
 ·rename_i x1 y1;split at ev
  ·rename_i hc;cases ev;cases CD ia;obtain⟨v2,rfl,i2⟩:=ET ib;cases CD i2;obtain⟨t,rfl⟩:=rx;obtain⟨u,rfl,ru⟩:=DX rs;obtain⟨t2,rfl⟩:=ru;refine Tc hc.1 hc.2.1 λl k el=>?_;have el:l.map (·.1)=_:=el.symm;have hv:=Ko l;rw[el] at hv;have hl:((Txt.split x1 y1).map V.str).length<=sizeLine:=by rw[AAF];exact hc.2.2
   exact⟨.ref _,_,I.lnew hv hl,rfl,aB R (Mx _) q _ I.fresh⟩
  ·cases ev
 ·cases ev
theorem N2:MtR X "str.join" (rMM X.kw F8):=λw6 s O H x xs v us Q I rx rs h=>by
 obtain⟨Y,Z,a,as,d,Z',R,ia,ib,ev,q⟩:=h;unfold F8 at ev;split at ev
 ·rename_i x1 d1;obtain⟨ds,w9,e1,e2⟩:=AJ ev;cases CD ia;obtain⟨v2,rfl,i2⟩:=ET ib;obtain⟨hm,p,vs,rfl,hs,hv⟩:=HU R i2 e1;subst hm;split at e2
  ·rename_i ts hts;split at e2
   ·rename_i hok;cases e2;obtain⟨t,rfl⟩:=rx;obtain⟨u,rfl,ru⟩:=DX rs;cases ru;have ek:=Kx hv hts;subst ek;have fin:∀t' k,EP X w6 O Q (.str (Txt.join x1 ts) t') { s with toks:=k }:=λt' k=>⟨.str _,H,I.tok _,⟨_,rfl⟩,q Y H R.ext0 R _ (ofS _)⟩;rcases hs with hs|hs
    ·obtain⟨its,rv,pl,_⟩:=I.list hs;obtain⟨l,rfl,el⟩:=Ku rv;exact SC.join pl.isList el hok fin
    ·obtain⟨its,rv,pl,_⟩:=I.tuple hs;obtain⟨l,rfl,el⟩:=Ku rv;obtain⟨o,ho,hc,n,hd⟩:=pl;subst el;have hk:tooLong ((l.map (·.1)).toArray.foldl (·+·.length+x1.length) 0)=false:=by
      unfold JoinOk at hok;simpa using hok
     exact call_meets F.slot_str_join (typeIs_str _ _ _) F.entry_str_join (F.args_str_join_2 _ _) (meets_str_join_tuple x1 t p l hk) ⟨⟨o,n,ho,hc,hd⟩,post_join l ⟨joinFit_length hk,fin⟩⟩
   ·cases e2
  ·cases e2
 ·cases ev
theorem FG:CS X (.type "str") (rMA X.kw DA):=λw6 s O H xs us Q I r h=>by
 obtain⟨Y,Z,as,d,Z',R,ia,e,q⟩:=h;unfold DA at e;split at e
 ·split at e
  ·rename_i hl;obtain⟨v,rfl,i1⟩:=ET ia;cases e;cases CP i1;exact OM w6 s O H _ us Q I r ⟨_,rfl,hl,q Y H R.ext0 R _ (ofS _)⟩
  ·cases e
 ·obtain⟨v,rfl,i1⟩:=ET ia;cases e;cases CD i1;obtain⟨u,rfl,t,rfl⟩:=DX r;exact PySem.P.str_of_str ⟨.str _,H,I,⟨_,rfl⟩,q Y H R.ext0 R _ (ofS _)⟩
 ·cases e
theorem FH:CS X (.type "int") (rMA X.kw DC):=λw6 s O H xs us Q I r h=>by
 obtain⟨Y,Z,as,d,Z',R,ia,e,q⟩:=h;unfold DC at e;split at e
 ·rename_i x;obtain⟨v,rfl,i1⟩:=ET ia;cases CD i1;obtain⟨u,rfl,t,rfl⟩:=DX r;split at e
  ·rename_i hl;cases hn:PySem.intText? x with
   |none=>rw[hn] at e;cases e
   |some n=>
    rw[hn] at e;cases e;exact PySem.W.KIN.call_text hn hl ⟨.int _,H,I.tok _,⟨_,rfl⟩,q Y H R.ext0 R _ (ofI _)⟩
  ·cases e
 ·exact gK w6 s O H xs us Q I r ⟨Y,Z,as,d,Z',R,ia,e,q⟩
end
end Mi
namespace L2
open PySem PySem.Spec PyProof.Rows
section
variable{X:Cx}
noncomputable def ItR(K:PySem.W.Frag)(a:Addr)(xs:List V):It:=⟨λi H=>i<xs.length/\SqL K H a xs,λi H v H'=>H'=H/\xs.reverse[i]?=some v,λi H=>i=xs.length/\SqL K H a xs⟩
noncomputable def fu(K:PySem.W.Frag)(ta:TA):TI:=λO H R=>ta O H λvs H1=>∃(a:Addr) (xs:List V),vs=[.ref a]/\SqL K H1 a xs/\R (ItR K a xs) H1
theorem VO{P:Program}{w:World}{K:PySem.W.Frag}{tg:Expr}(a it:Addr)(xs:List V)(hn:a≠it):L4 P w K tg (ItR K a xs) [it] it (λi h=>i<=xs.length/\h.IsRevIter it a ((xs.length:Int)-1-(i:Int))) where
 mem:=AAP
 obj:=λi h st b hb=>by
  cases AAK.mp hb;obtain⟨_,o,e,c,d⟩:=st;exact⟨o,e,λv z=>by rw[d] at z;cases z⟩
 keep:=λi h h' st k=>⟨st.1,st.2.at λo e=>k it AAP o e⟩
 item:=by
  intro X hP hw hK hc i w6 s O H E I hf st hg;subst hP hw hK;obtain⟨hi,hq⟩:=hg;obtain⟨its,rv,p,_⟩:=I.list hq;have hl:=rv.length;have hs:its.toArray.size=xs.length:=by simp[hl]
  obtain⟨f0,f1,_,f3,f4,f5⟩:=hf it AAP;refine(Walks.listRev (prog:=X.prog) (w:=X.w) (A:=X.A) (I.ok.hd hc) it a hn its.toArray).item i s _ _ (by rw[hs];exact hi) ⟨by rw[hs];exact st.1,by rw[hs];exact st.2,p.isList⟩ λu h' tk hu st' kk=>?_;rw[hs] at st' hu;have I1:Inv X w6 O H { s with heap:=h',toks:=tk }:=I.turned (λb o hb e=>kk b o (by simpa using hb) e) f0 f1 f3 f4 f5;have hx:xs[xs.length-1-i]?=some (xs[xs.length-1-i]'(by omega)):=by simp
  obtain⟨u',e1,e2⟩:=rv.get hx;have:u'=u:=by
   have hu':its[xs.length-1-i]?=some u:=by simpa using hu
   rw[hu'] at e1;cases e1;rfl
  subst this;obtain⟨o,e,c,d⟩:=id st'.2.1;refine⟨_,rfl,Sr (s:={ s with heap:=h',toks:=tk }) e c d (by decide) ⟨_,H,I1,e2,⟨rfl,?_⟩,⟨st'.1,st'.2.1⟩,λb hb=>(hf b hb).1⟩⟩;rw[List.getElem?_reverse hi,hx]
 done:=by
  intro X hP hw hK hc i w6 s O H E I hf st hg;subst hP hw hK;obtain⟨hi,hq⟩:=hg;subst hi;obtain⟨f0,f1,_,f3,f4,f5⟩:=hf it AAP;have e:(xs.length:Int)-1-(xs.length:Int)=-1:=by omega
  have st2:=st.2;rw[e] at st2;exact wpAny_pyNext_rev_end (I.ok.hd hc) st2 λh' eb=>⟨rfl,I.turned (t':=s.toks) (λb o hb e=>eb b o hb e) f0 f1 f3 f4 f5⟩
 self:=λ_ _ _ _ _ st h=>wpAny_pyIter_revIter st.2 h
theorem Yq{tg a:Expr}{ta:TA}{p pos:Pos}(hg:Gl X "reversed")(hm:X.mg "reversed" = none)(ha:PA X [a] ta)(hs:starEach [a] X.env=[(false,eval a X.env)]):PI X tg (.Call (.Name "reversed" p) [a] [] pos) (fu X.kw ta):=by
 intro w6 s O H R I h;refine Call_ (Gy I hg hm PyProof.Rows.boot_reversed (PyProof.Rows.callWith_type1 (thn (ha pos w6 s O H _ I h) λus s1 ⟨vs,H1,I1,r1,q1⟩=>?_) hs rfl));obtain⟨l,xs,e,hq,q⟩:=q1;subst e;obtain⟨u,rfl,ru⟩:=DX r1;cases ru;obtain⟨its,rv,pl,hz⟩:=I1.list hq;have hl:=rv.length;have hs':its.toArray.size=xs.length:=by simp[hl]
 have hlt:l<s1.heap.objs.size:=by obtain⟨o,e,_⟩:=pl.isList;exact Heap.lt_size e
 refine call_reversed_list pl.isList ?_;rw[hs'];have it:(s1.heap.push (revObj l ((xs.length:Int)-1))).IsRevIter s1.heap.objs.size l ((xs.length:Int)-1):=⟨_,AAD _ rfl,rfl,rfl⟩;refine wpAny_pyIter_revIter (s:={ s1 with heap:=s1.heap.push (revObj l ((xs.length:Int)-1)) }) it ?_;refine⟨s1.heap.objs.size,[s1.heap.objs.size],_,_,H1,rfl,I1.kept (t':=s1.toks) λb o e=>AAC _ e,VO l _ xs (AAc hlt),⟨AAi _,by rw[show ((0:Nat):Int)=0 from rfl,Int.sub_zero];exact it⟩,λb hb=>?_,q⟩;cases AAK.mp hb;exact I1.fpOk (AAE _) (I1.hok.fresh (AAE _))
end
end L2
namespace Mi
open PySem L2 PyProof.Rows
section
variable{X:Cx}{e a b c:Expr}{pos:Pos}
theorem Wg:OpR X (binaryOp .Add) (λx y H Q=>∃a b ys,x=.ref a/\y=.ref b/\SqT X.kw H a []/\SqT X.kw H b ys/\Q (.ref b) H):=by
 intro w6 s O H x y v u Q I rx ry h;obtain⟨a,b,ys,rfl,rfl,ha,hb,q⟩:=h;cases rx;cases ry;obtain⟨its,r1,p1,_⟩:=I.tuple ha;obtain⟨its2,r2,p2,_⟩:=I.tuple hb;cases r1;obtain⟨⟨cls,dd,data,sl⟩,ho,hc,n,hd⟩:=p1;obtain⟨⟨cls2,dd2,data2,sl2⟩,ho2,hc2,n2,hd2⟩:=p2;simp only at hc hd hc2 hd2;subst hc hd hc2 hd2;exact concat_meets ⟨_,ho,rfl⟩ ⟨_,ho2,rfl⟩ noFill_tuple_add seq_tuple_add PySem.F.slot_tuple_add PySem.F.entry_tuple_add (PySem.F.args_tuple_add_2 _ _) (tuple_addW0 a b _ _ n n2 dd dd2 sl sl2 rfl) ⟨ho,ho2,⟨.ref b,H,I,rfl,q⟩⟩
noncomputable def Av(a b:D):M D:=match a,b with
 | .tup [],.tup ds=>ret (.tup ds)
 |a,b=>GN a b
theorem BO:OpR X (binaryOp .Add) (rM X.kw Av):=λw6 s O H x y v u Q I rx ry h=>by
 obtain⟨Y,Z,a,b,d,Z',R,ia,ib,e,q⟩:=h;unfold Av at e;split at e
 ·rename_i ds;cases e;unfold Is at ia;obtain⟨p,vs,rfl,h1,h2⟩:=ia;unfold IsL at h2;subst h2;have ib2:=ib;unfold Is at ib;obtain⟨p',vs',rfl,h1',h2'⟩:=ib;exact Wg w6 s O H _ _ v u Q I rx ry ⟨p,p',vs',rfl,rfl,h1,h1',q Y H R.ext0 R _ ib2⟩
 ·exact Js w6 s O H x y v u Q I rx ry ⟨Y,Z,_,_,d,Z',R,ia,ib,e,q⟩
theorem MG{prog:Program}{w:World}{A:Around}{E:Value->Shared->Prop}{s:Shared}{vl vu:Value}{lo hi:Option Int}{Q:Value->Shared->Prop}(ht:IsTup s.heap t items)(hs:s.heap.IsSliceOf sl vl vu .none)(pl:IsPart vl lo)(pu:IsPart vu hi)
  (h1:HT.sIx items.size 0 lo=0) (h2:HT.sIx items.size items.size hi=items.size) (h:Q (.ref t) s):wpAny (model prog w) A (getItem (.ref t) (.ref sl)) Q E s:=by
 obtain⟨os,hos,hcs,hds⟩:=id hs;have hTs:s.TypeIs (.ref sl) "slice" := ⟨os,hos,hcs⟩;unfold getItem
 try with_reducible refine AAn ?_
 first|refine AAA (AAB ?_)|skip
 refine AAA (wpAny_sequenceKey ht.typeIs (by decide) ?_);refine AAA (wpAny_callSpecial?_slot (name:=Str.ofString "__getitem__") ht.typeIs PyProof.Rows.slot_tuple_getitem
  (AAb PyProof.Rows.slot_tuple_getitem ht.typeIs entry_tuple_getitem ?_ (args_tuple_getitem _ _)))
 show wpAny _ _ (Builtin.Tuple.tupleItemsOf (.ref t) >>= _) _ _ s;refine AAA (tupleItemsOf_ ht ?_);refine AAA (wpAny_typeOf hTs ?_);rw[if_pos (by decide)];refine AAA (HT.Ff hs pl pu ?_);have hyes:((((HT.sIx items.size 0 lo:Nat):Int)==0&&(1:Int)==1&&(HT.sIx items.size items.size hi-HT.sIx items.size 0 lo)==items.size)=true):=by rw[h1,h2];simp
 show wpAny _ _ (if (((HT.sIx items.size 0 lo:Nat):Int)==0&&(1:Int)==1&&(HT.sIx items.size items.size hi-HT.sIx items.size 0 lo)==items.size)=true then _ else _) _ _ s;rw[if_pos hyes];refine AAA (m:=Builtin.Tuple.tupleIsExact (.ref t)) ?_;unfold Builtin.Tuple.tupleIsExact;refine AAA (wpAny_typeOf ht.typeIs (AAB ?_));rw[if_pos (by decide)];refine AAA (wpAny_rule ?_);exact AAB ⟨_,rfl,AAB h⟩
theorem YI:SlR X (λx lo hi H Q=>∃a xs,x=.ref a/\SqT X.kw H a xs/\HT.sIx xs.length 0 lo=0/\HT.sIx xs.length xs.length hi=xs.length/\Q (.ref a) H):=by
 intro w6 s O H x v vl vu lo hi sl Q I rx hs pl pu h;obtain⟨a,xs,rfl,hx,h1,h2,q⟩:=h;cases rx;obtain⟨its,r,ht,hz⟩:=I.tuple hx;have hlen:its.toArray.size=xs.length:=by rw[List.size_toArray];exact r.length.symm
 refine⟨"tuple",_,PyProof.Rows.slot_tuple_getitem.lookup,ht.typeIs,?_⟩;exact MG ht hs pl pu (by rw[hlen];exact h1) (by rw[hlen];exact h2) ⟨.ref a,H,I,rfl,q⟩
theorem XS{ds:List D}{lo hi:Option Int}(h1:HT.sIx ds.length 0 lo=0)(h2:HT.sIx ds.length ds.length hi=ds.length):GS ds lo hi=ds:=by
 unfold GS;rw[h1,h2];simp
noncomputable def LJ(lo hi:Option Int):D->M D
 | .tup ds=>ret (.tup (GS ds lo hi))
 |d=>bnd (Co d) λds=>ret (.lst (GS ds lo hi))
noncomputable def gq(K:KW):V->Option Int->Option Int->Hp->VK->Prop:=λx lo hi H Q=>∃Y Z a d Z',RelH K Y Z H/\Is K Y Z.length H a x/\LJ lo hi a Z=some (d,Z') /\
 Aft K Y Z H Z' λY' H'=>∀v,Is K Y' Z'.length H' d v->Q v H'
theorem fL:SlR X (gq X.kw):=λw6 s O H x v vl vu lo hi sl Q I rx hs pl pu h=>by
 obtain⟨Y,Z,a,d,Z',R,ia,e,q⟩:=h;by_cases c:∃ds,a=.tup ds/\HT.sIx ds.length 0 lo=0/\HT.sIx ds.length ds.length hi=ds.length
 ·obtain⟨ds,rfl,h1,h2⟩:=c;have e:some (D.tup (GS ds lo hi),Z)=some (d,Z'):=e;rw[XS h1 h2] at e;cases e;have ia2:=ia;unfold Is at ia;obtain⟨p,vs,rfl,g1,g2⟩:=ia;exact YI w6 s O H _ v vl vu lo hi sl Q I rx hs pl pu ⟨p,vs,rfl,g1,by rw[g2.length];exact h1,by rw[g2.length];exact h2,q Y H R.ext0 R _ ia2⟩
 ·refine fM w6 s O H x v vl vu lo hi sl Q I rx hs pl pu ⟨Y,Z,a,d,Z',R,ia,?_,q⟩;cases a with
  |tup ds=>
   show (if HT.sIx ds.length 0 lo=0/\HT.sIx ds.length ds.length hi=ds.length then (BM:M D) else ret (D.tup (GS ds lo hi))) Z=_;rw[if_neg (λz=>c ⟨ds,rfl,z.1,z.2⟩)];exact e
  |_=>exact e
noncomputable def Fm(me:Sl->M D)(ml mh:Sl->M (Option Int)):Sl->M D:=λB=>bnd (me B) λx=>bnd (ml B) λl=>bnd (mh B) λh=>LJ l h x
theorem Cu{e:Expr}{lo hi:Option Expr}(he:RE X e me)(hl:RO X lo ml)(hh:RO X hi mh):RE X (.Subscript e (.Slice lo hi none p2) pos) (Fm me ml mh):=RE.wk (PB fL he.pe hl.pe hh.pe) λO H Q h=>by
 obtain⟨Y,Z,B,z,Z',R,S,e,q⟩:=h;obtain⟨x,w9,e1,e⟩:=AJ e;obtain⟨l,x6,e2,e⟩:=AJ e;obtain⟨u,v7,e3,e⟩:=AJ e;refine⟨Y,Z,B,x,w9,R,S,e1,λx9 H1 E1 R1 v i1=>⟨x9,w9,B,l,x6,R1,S.ext E1,e2,λu9 H2 E2 R2=>⟨u9,x6,B,u,v7,R2,S.ext (E1.trans E2),e3,λv8 H3 E3 R3=>?_⟩⟩⟩;have E23:=E2.trans E3;exact⟨v8,v7,x,z,Z',R3,i1.ext E23,e,λj4 H4 E4 R4=>q j4 H4 ((E1.trans E23).trans E4) R4⟩
end
end Mi
namespace Mi
open PySem L2
open PyProof.Rows hiding St
section
variable{X:Cx}{e o:Expr}{apos cpos:Pos}
noncomputable def CI(g:D->List D->M D)(mo:Sl->M D):Sl->M D:=λB=>bnd (mo B) λx=>bnd (FD x) λ_=>g x []
theorem Tb{K:KW}{g:D->List D->M D}{mo:Sl->M D}(h:tE K (CI g mo) O H Q):eB K "list" (rMM K g) (tE K mo) O H Q:=by
 obtain⟨Y,Z,B,d,Z',R,S,e,q⟩:=h;obtain⟨x,w9,e1,ee1⟩:=AJ e;obtain⟨u,x6,e2,ee2⟩:=AJ ee1;have hm:=Mz e2;subst hm;refine⟨Y,Z,B,x,_,R,S,e1,λx9 H1 E1 R1 v1 i1=>⟨(Jx R1 i1 e2).2,?_⟩⟩;exact⟨x9,_,x,[],d,Z',R1,i1,IsL.nil,ee2,λv8 H3 E3 R3=>q v8 H3 (E1.trans E3) R3⟩
theorem D4{name:Str}{id:String}(slot:Slot "list" name id)(hty:typeOf (.builtin id)=pure (.type "method_descriptor"))(hm:MtR X id (rMM X.kw g))(ho:RE X o mo)
  (hbase:attributeBase o name X.env (eval o X.env)=eval o X.env:=by rfl) (hline:(apos.endLine==cpos.line)=true:=by rfl) :
  RE X (.Call (.Attribute o name apos) [] [] cpos) (CI g mo):=RE.wk (bo PySem.F.plainAttrs_list slot hty hm ho.pe hbase hline) λ_ _ _ h=>Tb h
end
end Mi
namespace Mi
open PySem L2
def Pu1(g:List D->M D):Prop:=∀ds Z a Z',g ds Z=some (a,Z')->Z'=Z
theorem WA:Pu AI:=λB Z a Z' e=>by cases e;rfl
theorem SR(h:Pu m)(hr:Pu r):Pu (AC m r):=λB Z a Z' e=>by
 obtain⟨x,w9,e1,e2⟩:=AJ e;obtain⟨xs,x6,e3,e4⟩:=AJ e2;cases e4;rw[hr _ _ _ _ e3,h _ _ _ _ e1]
theorem SQ(hf:Pu1 f)(h:Pu m):Pu (AF f m):=λB Z a Z' e=>by
 obtain⟨x,w9,e1,e2⟩:=AJ e;rw[hf _ _ _ _ e2,h _ _ _ _ e1]
end Mi
local macro_rules | `(tactic| wtm_at "y")=>`(tactic| repeat first|exact Mi.SN|exact Mi.eT|exact Mi.SL|exact Mi.Z8|exact Mi.WB|exact Mi.WA|exact Mi.pu_inst|exact Mi.pu_len|apply Mi.SM|apply Mi.Z7|apply Mi.SR|apply Mi.SQ|apply Mi.pu_or|apply Mi.pu_and|apply Mi.pu_not)
namespace Ht
open PySem PySem.SetTable
end Ht
namespace Ht
open PySem PySem.SetTable
open PyProof.Rows
end Ht
namespace Ht
open PySem PySem.Spec PyProof.Rows Sem L2
end Ht
namespace Ht
open PySem PySem.Spec PyProof.Rows Sem L2 PySem.SetTable
end Ht
namespace Ht
end Ht
namespace L2
open PySem PySem.Spec PyProof.Rows Sem Ht
end L2
namespace Mi
open PySem L2 Ht
end Mi
namespace L2
open PySem PySem.Spec PyProof.Rows Sem Ht
end L2
namespace Mi
open PySem L2 Ht
end Mi
namespace L2
open PySem PySem.Spec PyProof.Rows Sem Ht
end L2
namespace Mi
open PySem L2 Ht
end Mi
namespace L2
open PySem PySem.Spec PyProof.Rows
section
variable{X:Cx}{scope:Scope}{tgs:List Str}{ix:List Nat}
noncomputable def Ot(P:Program)(w:World)(A:Around):Option Expr->Env->(Bool->Shared->Prop)->(Value->Shared->Prop)->Shared->Prop
 |none,_,Q,_,s=>Q true s
 |some c,env,Q,E,s=>wpAny (model P w) A (isTrue c env (eval c env)) Q E s
theorem VQ:∀{co:Option Expr},Ot P w A co env Q (λ_ _=>False) s->(∀b s,Q b s->Q' b s)->Ot P w A co env Q' E s
 |none,h,k=>k _ _ h
 |some _,h,k=>Q5 h k
def ah(P:Program)(w:World)(A:Around)(tg elt:Expr)(co:Option Expr)(it acc:Value)(env:Env)(R:Result->Shared->Prop)(G:Shared->Prop)(r:Option Value)(s1:Shared):Prop:=match r with
 |none=>R (.ok .next) s1
 |some v=>wpAny (model P w) A (letOwnedTupleGo tg it v) (λ_ s0=>wpAny (model P w) A (assign tg env v) (λ_ s2=>
   Ot P w A co env (λok s3=>if ok=true then wpAny (model P w) A (eval elt env) (λx s4=>wpAny (model P w) A (call (.builtin "list.append") [acc,x]) (λ_ s5=>G s5) (notedBy (model P w) A env λe s'=>R (.error e) s') s4) (notedBy (model P w) A env λe s'=>R (.error e) s') s3 else G s3)
    (notedBy (model P w) A env λe s'=>R (.error e) s') s2) (notedBy (model P w) A env λe s'=>R (.error e) s') s0) (notedBy (model P w) A env λe s'=>R (.error e) s') s1
theorem Wr(I:Nat->Shared->Prop):∀(co:Option Expr),
  (∀n s,I n s->wpAny (model P w) A (pyNext it) (ah P w A tg elt co it acc env R λs5=>∃m,m<n/\I m s5) (notedBy (model P w) A env λe s'=>R (.error e) s') s)->∀n,I n s->
  codeAny (model P w) A (.compLoop (.ListComp elt [⟨tg,iter,co.toList,0⟩] scope pos) 0 it acc env) R s
 |none,turn,n,h=>PySem.W.kcp_loop I (λn s hI=>AAh (turn n s hI) (λr s1 q=>match r,q with
   |none,q=>q
   |some v,q=>AAh q (λ_ _ q=>AAh q (λ_ _ q=>by
     have q':=q;dsimp only[Ot] at q';rw[if_pos rfl] at q';exact q') λ_ _ x=>x) λ_ _ x=>x) λ_ _ x=>x) n h
 |some c,turn,n,h=>PySem.W.kct_loop I (λn s hI=>AAh (turn n s hI) (λr s1 q=>match r,q with
   |none,q=>q
   |some v,q=>q) λ_ _ x=>x) n h
def Ua(X:Cx)(co:Option Expr)(tc:TT):Prop:=
 ∀(w6:List (Addr×Obj)) (s:Shared) (O:St) (H:Hp) (Q:Bool->Hp->Prop),Inv X w6 O H s->tc O H Q->Ot X.prog X.w X.A co X.env (TP X w6 O Q) X.xe s
theorem Pf:∀{is:List Nat},(∀i∈is,i<n)->∀vs O H (Q:St->Hp->Prop),Mi.G1 is vs O H Q->Mi.G1 is vs O H λj3 H2=>Q j3 H2/\j3.length=O.length/\j3.drop n=O.drop n
 |[],_,vs,O,H,Q,h=>⟨h.1,h.2,rfl,rfl⟩
 |i::is,hi,vs,O,H,Q,h=>by
  obtain⟨v,vr,rfl,h⟩:=h;refine⟨v,vr,rfl,?_⟩;have z:=Pf (is:=is) (λj hj=>hi j (AAQ _ hj)) vr _ H Q h;have e1:(O.set i (some v)).length=O.length:=by simp
  have e2:(O.set i (some v)).drop n=O.drop n:=by rw[List.drop_set_of_lt (hi i (by simp))]
  rw[e1,e2] at z;exact z
theorem c8{n k:Nat}{K:PySem.W.Frag}(h:∀i∈is,i<n):GK n (ZS K k (Mi.G1 is)):=λx O H Q q=>by
 obtain⟨a,xs,e,h1,h2,h3⟩:=q;exact⟨a,xs,e,h1,h2,Pf h _ _ _ _ h3⟩
theorem J5{elt tg iter:Expr}{co:Option Expr}{pos:Pos}{g:TG}{tc:TT}{te:TE}{w6:List (Addr×Obj)}{fp:List Addr}{tn:Nat->Heap->Prop}{J:It}{Q:VK}
  (S:BScope X scope tgs ix) (hc:X.calm=true) (hg:∀fp C s H,PG (cxB X scope tgs fp C s H) tg g) (hgk:GK tgs.length g) (hi:∀fp C s H,Ua (cxB X scope tgs fp C s H) co tc) (he:∀fp C s H,PE (cxB X scope tgs fp C s H) elt te)
  (I2:Inv X w6 O H2 s2) (T:L4 X.prog X.w X.kw tg J fp it tn) (t0:tn 0 s2.heap) (hf:∀b∈fp,Ha X w6 H2 b)
  (W:Nat->Nat->List V->Hp->Prop) (w0:∃m,W 0 m [] H2)
  (turn:∀i m ys H,W i m ys H->(J.stop i H/\ys.length<=sizeLine/\∀p,H p=none->Q (.ref p) (upd H p (.lst ys))) ∨
   (J.go i H/\ys.length<sizeLine/\∃N:List V->Hp->Prop,(∀ys' H',N ys' H'->∃m',m'<m/\W (i+1) m' ys' H')/\∀x H',J.yld i H x H'->g x (Dz tgs ix O) H' λj3 H2=>tc j3 H2 λb H3=>
    if b=true then te j3 H3 λv H4=>N (ys++[v]) H4 else N ys H3))
  {RR:Value->Addr->Result->Shared->Prop}
  (fin:∀(D C:Addr) (s':Shared) (H':Hp) (m:Str->Option Value),Inv X w6 O H' s'->Q (.ref D) H'->s'.heap.Ns C m->Ha X w6 H' C->RR (.ref D) C (.ok .next) s') :
  wpAny (model X.prog X.w) X.A (newList []) (λacc s₃=>wpAny (model X.prog X.w) X.A (newFunctionEnv scope X.env.globals (G9 X.env scope.names []) [] X.env.qual none .none (some X.env)) (λcenv s₄=>
   codeAny (model X.prog X.w) X.A (.compStart (.ListComp elt [⟨tg,iter,co.toList,0⟩] scope pos) 0 (.ref it) acc { cenv with scope:=relabel scope X.env }) (RR acc cenv.locals) s₄) X.xe s₃) X.xe s2:=by
 refine AAp (wpAny_newFunctionEnv S.nocell (by intro y hy;simp at hy) (λh₁ hns₁ hsb₁=>?_) S.kind);dsimp only at hns₁ hsb₁ ⊢;generalize hH2:s2.heap.push { cls:=.type "list",dict:=none,data:=.seq ([]:List Value).toArray }=G2 at hns₁ hsb₁ ⊢;have hC:G2.objs.size=s2.heap.objs.size+1:=by rw[←hH2,Heap.size_push]
 have hCle:s2.heap.objs.size<=G2.objs.size:=by rw[hC];exact Nat.le_succ _
 have hDC:s2.heap.objs.size≠G2.objs.size:=by rw[hC];exact AAc (Nat.lt_succ_self _)
 have below:∀b,b<s2.heap.objs.size->b≠G2.objs.size/\b≠s2.heap.objs.size:=λb hb=>⟨by rw[hC];exact AAc (AAg hb),AAc hb⟩;have old:∀b o,s2.heap.get? b=some o->h₁.get? b=some o:=λb o e=>hsb₁.extBut b o (below b (Heap.lt_size e)).1 (AAC _ (hH2 ▸ AAC _ e));have hacc:h₁.get? s2.heap.objs.size=some (N6 [] 0):=hsb₁.extBut _ _ hDC (AAC _ (hH2 ▸ AAD _ rfl));have hfo:∀b∈fp,b<s2.heap.objs.size:=λb hb=>let ⟨o,e,_⟩:=T.obj 0 _ t0 b hb;Heap.lt_size e
 have ok:=XO (tgs:=tgs) (ix:=ix) (C:=G2.objs.size) S I2 hf hfo hCle;have sub:∀x c,(G9 X.env scope.names []).lookup x=some c->X.env.cells.lookup x=some c:=G8 scope.names [] (λ_ _ z=>by simp at z);have nDfs:s2.heap.objs.size∉frs X.stack:=λhz=>by
  rcases AAI.mp (I2.stkSub _ hz) with z|z
  ·exact absurd I2.lt (by rw[←z];exact AAv _)
  ·exact I2.nofs (AAE _) z
 have nDcell:∀x c,(G9 X.env scope.names []).lookup x=some c->c≠s2.heap.objs.size:=λx c e=>AAc (I2.cellLt (sub x c e));have ncell:∀(its:List Value) (k:Nat) (v:Option Value),(N6 its k).data≠.cell v:=λits k v z=>by cases z
 have stat:∀{Hx:Hp} {o:Obj},(∀b∈fp,Hx b=none)->∀b∈fp,Ha (cxB X scope tgs fp G2.objs.size s2 H2) [(s2.heap.objs.size,o)] Hx b:=λ{Hx o} hn b hb=>
  ⟨hn b hb,(ok.exf b hb).1,ok.exfs b hb,.inl hb,(ok.exf b hb).2,λp hp z=>by
   have e:p=(s2.heap.objs.size,o):=by simpa[cxB] using hp
   subst e;exact absurd (hfo b hb) (by rw[←z];exact AAv _)⟩
 have loop:∀s₃:Shared,s₃={ s2 with heap:=h₁,toks:=s2.toks+([]:List (Str×Value)).length }->
   codeAny (model X.prog X.w) X.A (.compLoop (.ListComp elt [⟨tg,iter,co.toList,0⟩] scope pos) 0 (.ref it) (.ref s2.heap.objs.size) (compEnvC scope (G9 X.env scope.names []) G2.objs.size X.env)) (RR (.ref s2.heap.objs.size) G2.objs.size) s₃:=by
  rintro s₃ rfl;obtain⟨m0,w0⟩:=w0;refine Wr (λn s=>∃i ys its k H,Inv (cxB X scope tgs fp G2.objs.size s2 H2) [(s2.heap.objs.size,N6 its k)] (Dz tgs ix O) H s/\tn i s.heap/\(∀b∈fp,H b=none)/\Vals ys its/\W i n ys H) co ?_ m0
   ⟨0,[],[],0,H2,Qw S I2 hf hfo hCle (AAE _) hDC hns₁ old rfl rfl hacc (ncell _ _),T.keep 0 _ _ t0 λb _ o e=>old b o e,λb hb=>(hf b hb).1,.nil,w0⟩
  rintro n s ⟨i,ys,its,k,H,I,st,fr,rv,w⟩;rcases turn i n ys H w with ⟨stop,hz,q⟩|⟨go,hz8,N,hN,step⟩
  ·refine thn (T.done (cxB X scope tgs fp G2.objs.size s2 H2) rfl rfl rfl hc i _ s _ H _ I (stat fr) st stop) λr s1 ⟨hr,I1⟩=>?_;subst hr;obtain⟨pe,pn,_⟩:=I1.pin (s2.heap.objs.size,N6 its k) (AAZ _ (by simp));have J0:Inv X w6 O H s1:=I2.call' I1.os I1.base I1.hok I1.bare λb hb=>⟨(hf b hb).2.2.2.1,(hf b hb).2.1,(hf b hb).2.2.2.2.1,(hf b hb).2.2.2.2.2⟩;have J1:Inv X w6 O (upd H s2.heap.objs.size (.lst ys)) s1:=J0.track (I2.fpOk (AAE _) pn) ⟨hz,its,k,rv,pe⟩;obtain⟨m,hn,_⟩:=I1.loc;exact fin _ _ s1 _ m J1 (q _ pn) hn (I2.fpOk hCle (by rw[BN (Ne.symm hDC)];exact I1.free))
  ·refine thn (T.item (cxB X scope tgs fp G2.objs.size s2 H2) rfl rfl rfl hc i _ s _ H _ I (stat fr) st go) λr s1 ⟨u,hr,h1⟩=>?_;subst hr;refine thn h1 λ_ s5 ⟨x,H5,I5,r5,y5,st5,fr5⟩=>?_;have I5':=I5.pinned (stat fr5) (T.obj _ _ st5);refine Q5 (hg fp G2.objs.size s2 H2 _ s5 _ H5 x u _ I5' r5 (hgk _ _ _ _ (step x H5 y5))) λ_ s6 ⟨j9,H6,I6,q6,l6,d6⟩=>?_;refine VQ (hi fp G2.objs.size s2 H2 _ s6 j9 H6 _ I6 q6) λokb s7 ⟨H7,I7,q7⟩=>?_;cases okb with
   |false=>
    rw[if_neg AAf] at q7 ⊢;obtain⟨m',hm,w7⟩:=hN _ _ q7;refine⟨m',hm,i+1,ys,its,k,H7,Zw I7.unpinned l6 d6,T.keep _ _ _ st5 λb hb o e=>(I7.pin (b,o) (AAZ _ (AAZ _ (D5 hb e)))).1,λb hb=>?_,rv,w7⟩;obtain⟨o,e,_⟩:=T.obj _ _ st5 b hb;exact(I7.pin (b,o) (AAZ _ (AAZ _ (D5 hb e)))).2.1
   |true=>
    rw[if_pos rfl] at q7 ⊢;refine Q5 (he fp G2.objs.size s2 H2 _ s7 j9 H7 _ I7 q7) λxv s8 ⟨v,H8,I8,rv8,q8⟩=>?_;obtain⟨m',hm,w8⟩:=hN _ _ q8;obtain⟨pe,pn,_⟩:=I8.pin (s2.heap.objs.size,N6 its k) (AAZ _ (AAa _ (by simp)));have hlen:=rv.length;refine call_meets PySem.F.slot_list_append ⟨_,pe,rfl⟩ PySem.F.entry_list_append (PySem.F.args_list_append_2 _ _) (PySem.list_append s2.heap.objs.size its.toArray k xv (by rw[List.size_toArray];omega)) ⟨pe,?_⟩;have hp:its.toArray.push xv=(its++[xv]).toArray:=by simp
    have q':∃k',(s8.heap.update s2.heap.objs.size (Obj.mapSeq (λa=>a.push xv))).get? s2.heap.objs.size=some (N6 (its++[xv]) k'):=⟨_,by
     unfold N6;rw[←hp];exact PySem.IsL.update pe (λa=>a.push xv)⟩
    obtain⟨k',q'⟩:=q';have I9:Inv (cxB X scope tgs fp G2.objs.size s2 H2) [] j9 H8 { s8 with heap:=s8.heap.update s2.heap.objs.size (Obj.mapSeq (λa=>a.push xv)) }:=
     (I8.pins_of (pins':=[]) (λp hp=>absurd hp (by simp))).turned (t':=s8.toks) (λb o hb e=>(Heap.get?_update_other s8.heap (Obj.mapSeq (λa=>a.push xv)) (Ne.symm hb)).trans e) pn hDC (.inr (AAE _)) nDcell (λp hp=>absurd hp (by simp[cxB]))
    have I10:Inv (cxB X scope tgs fp G2.objs.size s2 H2) [(s2.heap.objs.size,N6 (its++[xv]) k')] j9 H8 { s8 with heap:=s8.heap.update s2.heap.objs.size (Obj.mapSeq (λa=>a.push xv)) }:=
     I9.pins_of λp hp=>by
      have e:p=(s2.heap.objs.size,N6 (its++[xv]) k'):=by simpa using hp
      subst e;exact⟨q',pn,hDC,nDfs,ncell _ _⟩
    refine⟨m',hm,i+1,ys++[v],its++[xv],k',H8,Zw I10 l6 d6,T.keep _ _ _ st5 λb hb o e=>?_,λb hb=>?_,rv.append (.cons rv8 .nil),w8⟩
    ·exact(Heap.get?_update_other s8.heap (Obj.mapSeq (λa=>a.push xv)) (Ne.symm (below b (hfo b hb)).2)).trans (I8.pin (b,o) (AAZ _ (AAZ _ (D5 hb e)))).1
    ·obtain⟨o,e,_⟩:=T.obj _ _ st5 b hb;exact(I8.pin (b,o) (AAZ _ (AAZ _ (D5 hb e)))).2.1
 exact codeAny_compStart_list (loop _ rfl) (T.self _ 0 _ _ _ (T.keep 0 _ _ t0 λb _ o e=>old b o e) (loop _ rfl))
theorem WV{elt tg iter:Expr}(co:Option Expr){pos:Pos}{wi:TI}{tc:TT}{te:TE}(S:BScope X scope tgs ix)(hc:X.calm=true)(hi:PI X tg iter wi)(hg:∀fp C s H,PG (cxB X scope tgs fp C s H) tg g)(hgk:GK tgs.length g)
  (hif:∀fp C s H,Ua (cxB X scope tgs fp C s H) co tc) (he:∀fp C s H,PE (cxB X scope tgs fp C s H) elt te) (hs:∀x,foldedSetIterable iter X.env x=pure x:=by intro _;rfl) :
  PE X (.ListComp elt [⟨tg,iter,co.toList,0⟩] scope pos) (VU tgs ix wi g tc te):=by
 intro w6 s O H Q I h;rw[eval_ListComp];refine wpAny_comprehension_free (use:=none) rfl hs (Fp (S.cells I.ok)) S.kind S.loc ?_;show wpAny _ _ (eval iter X.env) _ _ s;refine thn (hi w6 s O H _ I h) λv s1 h1=>thn h1 λitv s2 h2=>?_;obtain⟨it,fp,tn,J,H2,e,I2,T,t0,f2,W,w0,turn⟩:=h2;subst e;refine J5 (RR:=λacc C=>compPost (model X.prog X.w) X.A X.xe none (EP X w6 O Q) acc C) S hc hg hgk hif he I2 T t0 f2 W w0 turn ?_;intro D C s' H' m J1 q hn fC;obtain⟨f0,f1,f2,f3,f4,f5⟩:=fC;exact⟨m,hn,λh' sb=>⟨.ref D,H',J1.turned (t':=s'.toks) (λb o hb e=>(sb.2 b hb).trans e) f0 f1 f3 f4 f5,rfl,q⟩⟩
end
end L2
namespace Mi
open PySem L2
section
variable{X:Cx}
theorem BH:Ua X none (tT K Ba):=λw6 s O H Q I h=>by
 obtain⟨Y,Z,B,b,Z',R,S,e,q⟩:=h;cases e;exact⟨H,I,q Y H R.ext0 R⟩
theorem WC(h:RT X c mc):Ua X (some c) (tT X.kw mc):=λw6 s O H Q I hq=>h.pe w6 s O H Q I hq
theorem au(h:tG K (DE is) v O H Q):ZS K is.length (G1 is) v O H Q:=by
 obtain⟨Y,Z,B,d,B',Z',R,S,i1,e,q⟩:=h;cases d with
 |tup ds=>
  unfold Is at i1;obtain⟨p,vs,rfl,h1,h2⟩:=i1;have e':(if ds.length=is.length then bNames is ds B else BM) Z=some (B',Z'):=e;by_cases hl:ds.length=is.length
  ·rw[if_pos hl] at e';refine⟨p,vs,rfl,h1,by rw[h2.length,hl],JZ R S h2 e' λz v5 S'=>?_⟩;subst z;exact q Y H R.ext0 R v5 S'
  ·rw[if_neg hl] at e';cases e'
 |_=>cases e
theorem Zm(d:D)(B B':Sl)(Z Z':Mh)(e:DE is d B Z=some (B',Z')):Z'=Z:=by
 cases d with
 |tup ds=>
  have e':(if ds.length=is.length then bNames is ds B else BM) Z=some (B',Z'):=e;by_cases hl:ds.length=is.length
  ·rw[if_pos hl] at e';exact NO e'
  ·rw[if_neg hl] at e';cases e'
 |_=>cases e
end
end Mi
namespace L2
open PySem PySem.Spec PyProof.Rows
end L2
namespace Mi
open PySem L2 Ht
section
variable{X:Cx}{e:Expr}{pos:Pos}
def tPk(K:KW)(ks:List Key)(m:Sl->M (List D))(O:St)(H:Hp)(Q:List (V×V)->Hp->Prop):Prop:=∃Y Z B ds Z',RelH K Y Z H/\RelS K Y Z.length H B O/\m B Z=some (ds,Z') /\
 Aft K Y Z H Z' λY' H'=>∀vs,IsL K Y' Z'.length H' ds vs->Q ((ks.map kV).zip vs) H'
structure RP(X:Cx)(pos:Pos)(keys:List (Option Expr))(values:List Expr)(ks:List Key)(m:Sl->M (List D)):Prop where
 pe:∃trs,PPs X pos keys values trs/\∀O H Q,tPk X.kw ks m O H Q->Nf trs O H Q
theorem Vk:RP X pos [] [] [] AI:=⟨[],Ym,λO H Q h=>by
 obtain⟨Y,Z,B,ds,Z',R,S,e,q⟩:=h;cases e;exact q Y H R.ext0 R [] .nil⟩
theorem HP(h:RE X v mv)(r:RP X pos keys values ks m):RP X pos (some (.Constant (.str k) n p)::keys) (v::values) (.inr k::ks) (AC mv m):=by
 obtain⟨trs,pp,hh⟩:=r.pe;refine⟨(tC (.str k),tE X.kw mv)::trs,WH WM h.pe pp,λO H Q h=>?_⟩;obtain⟨Y,Z,B,ds,Z',R,S,e,q⟩:=h;obtain⟨x,w9,e1,e2⟩:=AJ e;obtain⟨xs,x6,e3,e4⟩:=AJ e2;cases e4;refine⟨Y,Z,B,x,w9,R,S,e1,λx9 H1 E1 R1 v1 i1=>hh _ _ _ ⟨x9,w9,B,xs,_,R1,S.ext E1,e3,λu9 H2 E2 R2 vs i2=>?_⟩⟩;exact q u9 H2 (E1.trans E2) R2 (v1::vs) (.cons (i1.ext E2) i2)
noncomputable def Gu(ks:List Key)(m:Sl->M (List D)):Sl->M D:=λB Z=>match m B (Z++[.dK []]) with
 |some (ds,w9)=>match w9[Z.length]? with
  |some (.dK [])=>if ds.length=ks.length then some (.ref Z.length,w9.set Z.length (.dK (ks.zip ds))) else none
  |_=>none
 |none=>none
theorem Sf:∀{ks:List Key} {ds:List D} {vs:List V},IsL K Y k H ds vs->ds.length=ks.length->KVs K Y k H (ks.zip ds) (ks.zip vs)
 |[],[],_,i,_=>by unfold IsL at i;subst i;rfl
 |[],_::_,_,_,h=>by simp at h
 |_::_,[],_,_,h=>by simp at h
 |_::ks,_::ds,_,i,h=>by
  unfold IsL at i;obtain⟨v,vs',rfl,i1,i2⟩:=i;exact⟨v,_,rfl,i1,Sf i2 (by simpa using h)⟩
theorem Np{kvs:List (Key×V)}(h:∀p∈kvs,p.1≠k):FM kvs k v=kvs++[(k,v)]:=by
 unfold FM;rw[if_neg];intro z;obtain⟨p,hp,e⟩:=List.any_eq_true.mp z;exact h p hp (of_decide_eq_true e)
theorem PQ:∀{more kvs:List (Key×V)},((kvs++more).map (·.1)).Nodup->Ea kvs more=kvs++more
 |[],kvs,_=>by simp[Ea]
 |(k,v)::r,kvs,h=>by
  have hp:∀p∈kvs,p.1≠k:=λp hp z=>by
   rw[AAX,List.nodup_append] at h;exact h.2.2 p.1 (AAL.mpr ⟨p,hp,rfl⟩) k (by simp) z
  show Ea (FM kvs k v) r=_;rw[Np hp,PQ (by simpa using h)];simp
theorem Kd:∀{ks:List Key} {vs:List V},(ks.map kV).zip vs=(ks.zip vs).map λkv=>(kV kv.1,kv.2)
 |[],_=>rfl
 |_::_,[]=>rfl
 |k::ks,v::vs=>by simp[Kd (ks:=ks) (vs:=vs)]
theorem O8(h:RP X pos keys values ks m)(nd:ks.Nodup:=by decide +kernel)(hall:keys.all (·.isSome)=true:=by rfl)(hl:keys.length=values.length:=by rfl)(h0:keys≠[]:=by simp)(h15:keys.length<=15:=by simp)(hks:ks.length<=15:=by simp):RE X (.Dict keys values pos) (Gu ks m):=by
 obtain⟨trs,pp,hh⟩:=h.pe;refine RE.wk (Yu pp hall hl h0 h15) λO H Q h=>?_;obtain⟨Y,Z,B,d,Z',R,S,e,q⟩:=h;intro p hp;obtain⟨m6,E0,R0,e0⟩:=R.grown (m:=.dK []) (o:=.dK []) hp ⟨[],rfl,rfl⟩;unfold Gu at e;split at e
 ·rename_i ds w9 em;split at e
  ·rename_i en;split at e
   ·rename_i hlen;cases e;refine hh _ _ _ ⟨m6,Z++[.dK []],B,ds,w9,R0,S.ext E0,em,λx9 H1 E1 R1 vs iv=>?_⟩;have hn:Z.length<w9.length:=(AAT.mp en).1;obtain⟨u,hu,r,rfl,hr⟩:=R1.obj Z.length _ en;have hr':r=[]:=hr;subst hr';have ei:x9 Z.length=p:=by rw[E1.agree Z.length (by simp),e0]
    rw[ei] at hu;have hvl:=iv.length;have hnd:((ks.zip vs).map (·.1)).Nodup:=by
     rw[List.map_fst_zip (by omega)];exact nd
    refine⟨hu,ks.zip vs,Kd,by rw[List.length_zip];omega,?_⟩;rw[PQ (kvs:=[]) (by simpa using hnd),List.nil_append];obtain⟨E2,R2⟩:=R1.changed (n:=Z.length) (o:=.dK (ks.zip vs)) (m:=.dK (ks.zip ds)) hn ⟨_,rfl,Sf iv hlen⟩;rw[ei] at E2 R2;have E01:Ext Y Z.length H x9 (w9.set Z.length (.dK (ks.zip ds))).length (upd H1 p (.dK (ks.zip vs))):=(E0.trans E1).trans E2;refine q x9 _ E01 R2 _ ?_;unfold Is;exact⟨by simpa using hn,by rw[ei]⟩
   ·cases e
  ·cases e
 ·cases e
end
end Mi
namespace L2
open PySem PySem.Spec PyProof.Rows
section
variable{X:Cx}{scope:Scope}{tgs:List Str}{ix:List Nat}
theorem O9(co:Option Expr)(hN:X.N.Nodup)(hiN:X.N[i]?=some y)(hy:X.env.scope.names.lookup y=some .local)
  (S:BScope X scope tgs ix) (hc:X.calm=true) (hi:PI X tg iter wi) (hg:∀fp C s H,PG (cxB X scope tgs fp C s H) tg g) (hgk:GK tgs.length g)
  (hif:∀fp C s H,Ua (cxB X scope tgs fp C s H) co tc) (he:∀fp C s H,PE (cxB X scope tgs fp C s H) elt te)
  (hsw:swapsWith (.ListComp elt [⟨tg,iter,co.toList,0⟩] scope pos) (some (.Name y py)) spos.line X.env=pure true:=by rfl) (hs:∀x,foldedSetIterable iter X.env x=pure x:=by intro _;rfl) :
  PS X (.Assign [.Name y py] (.ListComp elt [⟨tg,iter,co.toList,0⟩] scope pos) spos) (YG (VU tgs ix wi g tc te) (Jy i)):=by
 intro w6 s O H D0 I h;rw[exec_Assign_Name_used _ _ _ _ hsw];refine AAA (wpAny_standAt (AAA ?_));show wpAny _ X.A (do let _ ←comprehension (.ListComp elt [⟨tg,iter,co.toList,0⟩] scope pos) scope X.env _ (newList []) false (eval iter X.env) (some (assign (.Name y py) X.env))) _ _ s;refine AAA (AAh (wpAny_comprehension_free (use:=some (assign (.Name y py) X.env)) (Q:=λ_ s'=>SP X w6 D0 .next s') rfl hs (Fp (S.cells I.ok)) S.kind S.loc ?_) (λ_ s' hq=>AAB (AAB hq)) λ_ _ e=>e);refine thn (hi w6 s O H _ I h) λv s1 h1=>thn h1 λitv s2 h2=>?_;obtain⟨it,fp,tn,J,H2,e,I2,T,t0,f2,W,w0,turn⟩:=h2;subst e;refine J5 (Q:=λx H1=>Jy i x O H1 D0.nx) (RR:=λacc C=>compPost (model X.prog X.w) X.A X.xe (some (assign (.Name y py) X.env)) (λ_ s'=>SP X w6 D0 .next s') acc C) S hc hg hgk hif he I2 T t0 f2 W w0 turn ?_;intro D C s' H' m J1 q hn fC;obtain⟨f0,f1,f2,f3,f4,f5⟩:=fC;show wpAny _ X.A (assign (.Name y py) X.env (.ref D)) _ _ _;refine wpAny_assign_Name (MW (v:=.ref D) J1 hN hiN (.inl hy) rfl (λs'' I'' hsb=>?_) (.inr hy));obtain⟨a,sb,ha⟩:=hsb;have hCa:C≠a:=by
  rcases ha with z|z
  ·rw[z];exact f1
  ·exact Ne.symm (f4 y a z)
 exact⟨m,hn.sameBut sb hCa,λh' sb'=>⟨_,H',I''.turned (t':=s''.toks) (λb o hb e=>(sb'.2 b hb).trans e) f0 f1 f3 f4 f5,q⟩⟩
end
end L2
namespace Mi
open PySem L2
end Mi
namespace Xc
open PySem L2
end Xc
namespace Mi
open PySem L2
section
variable{X:Cx}
noncomputable def OL:List D->M D
 |[d]=>bnd (C8 d) λr=>λZ=>some (.ref Z.length,Z++[.dK r.2])
 |_=>BM
theorem Zl:CS X (.type "dict") (rMA X.kw OL):=λw6 s O H xs us Q I r h=>by
 obtain⟨Y,Z,as,d,Z',R,ia,e,q⟩:=h;unfold OL at e;split at e
 ·rename_i y;obtain⟨z,w9,e1,e2⟩:=AJ e;obtain⟨v,rfl,i1⟩:=ET ia;obtain⟨hm,_,g1,rfl,kvs,g2,g3⟩:=CN R i1 e1;subst hm;cases e2;obtain⟨u,rfl,ru⟩:=DX r;cases ru;refine XN I (.inl g2) λp s' hp I'=>⟨.ref p,_,I',rfl,?_⟩;obtain⟨Y',E1,R1,e0⟩:=R.grown (m:=.dK z.2) (o:=.dK kvs) hp ⟨kvs,rfl,g3⟩;exact q Y' _ E1 R1 _ (by unfold Is;exact⟨by simp,by rw[e0]⟩)
 ·cases e
end
mutual
def clB(k:Nat):D->Bool
 | .tup ds=>JB k ds
 | .lst ds=>JB k ds
 | .ref n=>Nat.blt n k
 |_=>true
def JB(k:Nat):List D->Bool
 |[]=>true
 |d::ds=>match clB k d with
  |true=>JB k ds
  |false=>false
end
noncomputable def gJ(k:Nat):MO->Bool
 | .lst ds=>JB k ds
 | .dK l=>JB k (l.map (·.2))
 | .dC l=>JB k (l.map (·.2))
 | .ins _ l=>JB k (l.map (·.2))
 | .dP l=>JB k (l.map (·.1))&&JB k (l.map (·.2))
 | .exc _ _=>true
mutual
theorem XT:∀{d:D},clB k d=true->Cl k d
 | .tup ds,h=>by unfold clB at h;unfold Cl;exact EL h
 | .lst ds,h=>by unfold clB at h;unfold Cl;exact EL h
 | .ref n,h=>by unfold clB at h;unfold Cl;exact Nat.blt_eq.mp h
 | .non,_ | .bl _,_ | .int _,_ | .str _,_ | .ty _,_ | .scr _,_=>by unfold Cl;trivial
theorem EL:∀{ds:List D},JB k ds=true->ClL k ds
 |[],_=>by unfold ClL;trivial
 |d::ds,h=>by
  unfold JB at h;unfold ClL;cases e:clB k d with
  |true=>rw[e] at h;exact⟨XT e,EL h⟩
  |false=>rw[e] at h;cases h
end
theorem Zj(h:gJ k o=true):ClO k o:=by
 cases o with
 |lst ds=>exact EL h
 |dK l=>exact EL h
 |dC l=>exact EL h
 |ins _ l=>exact EL h
 |dP l=>
  have h:(JB k (l.map (·.1))&&JB k (l.map (·.2)))=true:=h;rw[Bool.and_eq_true] at h;exact⟨EL h.1,EL h.2⟩
 |exc c n=>exact trivial
noncomputable def IJ(k:Nat):Nat->Mh->Option Mh
 |0,_=>some []
 |_+1,[]=>none
 |n+1,o::Z=>match gJ k o with
  |true=>match IJ k n Z with
   |some r=>some (o::r)
   |none=>none
  |false=>none
theorem Jc:∀{n:Nat} {Z r:Mh},IJ k n Z=some r->(∃g,Z=r++g)/\List.length r=n/\∀o∈r,ClO k o
 |0,Z,r,h=>by cases h;exact⟨⟨Z,rfl⟩,rfl,λo ho=>by cases ho⟩
 |_+1,[],r,h=>by cases h
 |n+1,o::Z,r,h=>by
  unfold IJ at h;split at h
  ·rename_i hc;split at h
   ·rename_i r' hr;cases h;obtain⟨⟨g,rfl⟩,h2,h3⟩:=Jc hr;refine⟨⟨g,rfl⟩,by rw[AAH,h2],λp hp=>?_⟩;rcases AAI.mp hp with rfl|hp
    ·exact Zj hc
    ·exact h3 p hp
   ·cases h
  ·cases h
noncomputable def b8(Z:Mh)(hw:How)(d:D)(x6:Mh):Option (D×Mh):=match hw with
 | .all=>some (d,x6)
 | .drop=>match clB (List.length Z) d with
  |true=>match IJ (List.length Z) (List.length Z) x6 with
   |some r=>some (d,r)
   |none=>none
  |false=>none
 | .frz=>match d with
  | .ref n=>match Nat.ble (List.length Z) n with
   |true=>match x6[n]? with
    |some (.lst ds)=>match JB (List.length Z) ds with
     |true=>match IJ (List.length Z) (List.length Z) x6 with
      |some r=>some (.lst ds,r)
      |none=>none
     |false=>none
    |_=>none
   |false=>none
  |d=>match clB (List.length Z) d with
   |true=>match IJ (List.length Z) (List.length Z) x6 with
    |some r=>some (d,r)
    |none=>none
   |false=>none
theorem Yz(h:b8 Z hw d' x6=some (d,Z')):(Z'=x6/\d=d')∨FZ Z x6 Z' d' d:=by
 have dr:∀{d' d:D} {Z':Mh},(match clB (List.length Z) d' with|true=>(match IJ (List.length Z) (List.length Z) x6 with|some r=>some (d',r)|none=>none)|false=>none)=some (d,Z')->FZ Z x6 Z' d' d:=by
  intro d' d Z' h;split at h
  ·rename_i hc;split at h
   ·rename_i r hr;cases h;obtain⟨g,hl,ho⟩:=Jc hr;exact⟨g,by rw[hl];exact AAE _,λn o e=>.inr (by rw[hl];exact ho o (AAU e)),.inl ⟨rfl,by rw[hl];exact XT hc⟩⟩
   ·cases h
  ·cases h
 unfold b8 at h;split at h
 ·cases h;exact .inl ⟨rfl,rfl⟩
 ·exact .inr (dr h)
 ·split at h
  ·split at h
   ·rename_i n hn;split at h
    ·rename_i ds hq;split at h
     ·rename_i hc;split at h
      ·rename_i r hr;cases h;obtain⟨g,hl,ho⟩:=Jc hr;exact .inr ⟨g,by rw[hl];exact AAE _,λn o e=>.inr (by rw[hl];exact ho o (AAU e)),.inr ⟨_,ds,rfl,hq,by rw[hl];exact Nat.le_of_ble_eq_true hn,rfl,by rw[hl];exact EL hc⟩⟩
      ·cases h
     ·cases h
    ·cases h
   ·cases h
  ·exact .inr (dr h)
noncomputable def aF:Fl->Bool
 | .next=>true
 | .rt _=>true
 |_=>false
theorem W3(h:aF f=true):f=.next∨∃d,f=.rt d:=by
 cases f with
 |next=>exact .inl rfl
 |rt d=>exact .inr ⟨d,rfl⟩
 |_=>cases h
noncomputable def Cj(hw:How)(n ps:Nat)(mb:Sl->M (Fl×Sl)):List D->M D:=λds Z=>match Nat.beq (List.length ds) ps with
 |true=>match mb (BI n ds) Z with
  |some ((fl,_),x6)=>match aF fl with
   |true=>b8 Z hw (FL fl) x6
   |false=>none
  |none=>none
 |false=>none
theorem GD(h:Cj hw n ps mb ds Z=some (d,Z')):
  ds.length=ps/\∃fl x8 x6,mb (BI n ds) Z=some ((fl,x8),x6)/\(fl=.next∨∃d,fl=.rt d)/\((Z'=x6/\d=FL fl)∨FZ Z x6 Z' (FL fl) d):=by
 unfold Cj at h;split at h
 ·rename_i hl;split at h
  ·rename_i fl x8 x6 e;split at h
   ·rename_i hf;exact⟨Nat.eq_of_beq_eq_true hl,fl,x8,x6,e,W3 hf,Yz h⟩
   ·cases h
  ·cases h
 ·cases h
section
variable{P:Program}{w:World}{K:PySem.W.Frag}{mg:Str->Option Value}{base:Heap}
theorem Ja(hw:How)(F:Fun K x qual st f fd)(S:Ak N ps (AQ st))
  (body:∀(cdv:Value) (A:Around) (outer:List Env) (s:Shared) (H:Hp) (E:XK),Room k (A.deeper (PyProof.Rows.envOfC qual (AQ st) s.heap.objs.size f cdv))->RSs (IM CX0 P w K mg base N qual (AQ st) f cdv A outer s H E).nox (CL st) mb) :
  FnOk P w K mg base CX0 (k+1) f fd ps (spM ⟨K,w⟩ ps.length (Cj hw N.length ps.length mb)):=by
 refine F.ok S (λvs H Q E h=>h.1) (λcdv A outer s H vs Q E hr h=>⟨_,(body cdv A outer s H E hr).pe,?_⟩);obtain⟨hl,Y,Z,ds,d,Z',R,i,e,q⟩:=h;obtain⟨_,fl,x8,x6,e2,hfl,t⟩:=GD e;refine⟨Y,Z,_,fl,x8,x6,R,RelS.start i,e2,λu9 H2 E2 R2 j3 S2=>?_⟩;have z:Ext Y Z.length H u9 Z'.length H2/\RelH ⟨K,w⟩ u9 Z' H2/\∀v,Is ⟨K,w⟩ u9 x6.length H2 (FL fl) v->Is ⟨K,w⟩ u9 Z'.length H2 d v:=by
  rcases t with ⟨rfl,rfl⟩|t
  ·exact⟨E2,R2,λv iv=>iv⟩
  ·exact Kv R E2 R2 t
 obtain⟨E3,R3,c⟩:=z;rcases hfl with rfl|⟨d0,rfl⟩
 ·exact q u9 H2 E3 R3 _ (c _ (by unfold FL Is;rfl))
 ·exact λv iv=>q u9 H2 E3 R3 v (c v iv)
theorem C0(hw:How)(F:Fun K x qual st f fd)(S:Ak N ps (AQ st))(hm:mg x=some (.ref f))(hb:Binds K fd ps [])
  (body:∀(cdv:Value) (A:Around) (outer:List Env) (s:Shared) (H:Hp) (E:XK),Room k (A.deeper (PyProof.Rows.envOfC qual (AQ st) s.heap.objs.size f cdv))->RSs (IM CX0 P w K mg base N qual (AQ st) f cdv A outer s H E).nox (CL st) mb) :
  Fn P w K mg base x ps (k+1) (Cj hw N.length ps.length mb):=⟨λds Z r h=>(GD (d:=r.1) (Z':=r.2) h).1,f,fd,Ja hw F S body,hm,F.kp,hb⟩
theorem JT(hw:How)(d:Dm K c m qual st C f fd)(S:Ak N ps (AQ st))(hb:Binds K fd ps [])
  (body:∀(cdv:Value) (A:Around) (outer:List Env) (s:Shared) (H:Hp) (E:XK),Room k (A.deeper (PyProof.Rows.envOfC qual (AQ st) s.heap.objs.size f cdv))->RSs (IM CX0 P w K mg base N qual (AQ st) f cdv A outer s H E).nox (CL st) mb) :
  Mth P w K mg base c m ps (k+1) (Cj hw N.length ps.length mb):=⟨λds Z r h=>(GD (d:=r.1) (Z':=r.2) h).1,C,f,fd,d.ca,d.me,Ja hw d.F S body,hb⟩
theorem UD(hw:How)(d:Di K c qual st C f fd)(S:Ak N ps (AQ st))(hm:mg c=some (.ref C))(hb:Binds K fd ps [])
  (body:∀(cdv:Value) (A:Around) (outer:List Env) (s:Shared) (H:Hp) (E:XK),Room k (A.deeper (PyProof.Rows.envOfC qual (AQ st) s.heap.objs.size f cdv))->RSs (IM CX0 P w K mg base N qual (AQ st) f cdv A outer s H E).nox (CL st) mb) :
  Ini P w K mg base c ps (k+1) (Cj hw N.length ps.length mb):=⟨λds Z r h=>(GD (d:=r.1) (Z':=r.2) h).1,C,f,fd,d.at_,hm,d.mak,Ja hw d.F S body,hb⟩
end
end Mi
namespace Xc
open PySem L2 Mi
open PyProof.Rows (AllBare)
section
end
end Xc
namespace Xc
open PySem L2 Mi
end Xc
namespace L2
open PySem PySem.Spec PyProof.Rows
section
variable{prog:Program}{w:World}{A:Around}{E:Value->Shared->Prop}{s:Shared}
theorem VN(a b:Value):((List.range 2).filterMap λ(k:Nat)=>#[a,b][((1:Int)+(k:Int) * -1).toNat]?).toArray=#[b,a]:=rfl
theorem Xa(hs:s.heap.IsSliceOf sl .none .none (.int (-1) tk))(hn:n=2)(h:Q (1,-1,2) s):wpAny (model prog w) A (Builtin.Slice.sliceApplied (.ref sl) (pure n)) Q E s:=by
 subst hn;obtain⟨os,hos,_,hds⟩:=hs;unfold Builtin.Slice.sliceApplied Builtin.Slice.sliceFields
 repeat (any_goals (first|assumption|with_reducible refine AAt hos hds rfl ?_|refine slicePart_int ?_|refine slicePart_none ?_|wp_step))
theorem Wc(ht:IsTup s.heap t #[a,b])(hs:s.heap.IsSliceOf sl .none .none (.int (-1) tk))
  (h:Q (.ref s.heap.objs.size) { s with heap:=s.heap.push ⟨.type "tuple",none,.seq #[b,a],#[]⟩ }):wpAny (model prog w) A (getItem (.ref t) (.ref sl)) Q E s:=by
 have hT:=ht.typeIs;have hTs:s.TypeIs (.ref sl) "slice" := let ⟨os,hos,hcs,_⟩:=hs;⟨os,hos,hcs⟩
 unfold getItem
 repeat (any_goals (first|assumption|with_reducible refine wpAny_sequenceKey hT (by decide) ?_|with_reducible refine wpAny_callSpecial?_slot hT slot_tuple_getitem ?_|with_reducible refine AAb slot_tuple_getitem hT entry_tuple_getitem ?_ (args_tuple_getitem _ _)|with_reducible refine tupleItemsOf_ ht ?_|with_reducible refine wpAny_typeOf hTs ?_|with_reducible refine Xa hs rfl ?_|wp_step))
 exact⟨_,rfl,AAB (VN a b ▸ h)⟩
end
section
variable{X:Cx}{e st o:Expr}{es:List Expr}{te ts:TE}{t:TA}{pos p2 apos cpos:Pos}
noncomputable def dm(K:PySem.W.Frag)(te ts:TE):TE:=λO H Q=>te O H λx H1=>ts O H1 λy H2=>y=.int (-1)/\∃a u v,x=.ref a/\SqT K H2 a [u,v]/\∀p,H2 p=none->Q (.ref p) (upd H2 p (.tup [v,u]))
theorem Yr(he:PE X e te)(hst:PE X st ts):PE X (.Subscript e (.Slice none none (some st) p2) pos) (dm X.K te ts):=by
 intro w6 s O H Q I h;refine Subscript_ (thn (he w6 s O H _ I h) λv s1 ⟨x,H1,I1,r1,q1⟩=>wpAny_Slice ?_);rw[evalPart_none,evalPart_some];refine AAB (AAB (thn (hst w6 s1 O H1 _ I1 q1) λvk s3 ⟨y,H3,I3,pk,ey,a,x1,x2,ex,hq,q⟩=>?_));subst ey ex;obtain⟨t,rfl⟩:=pk;cases r1;have I4:Inv X w6 O H3 { s3 with heap:=s3.heap.push { cls:=.type "slice",data:=.fields #[.none,.none,.int (-1) t] } }:=I3.kept (t':=s3.toks) λb ob q=>AAC _ q;obtain⟨its,r,ht,hz⟩:=I4.tuple hq;obtain⟨u1,u2,rfl,ru1,ru2⟩:=Vals.two r;show wpAny (model X.prog X.w) X.A (subscriptTail e (.Slice none none (some st) p2) (.ref a) (.ref s3.heap.objs.size)) (EP X w6 O Q) X.xe { s3 with heap:=s3.heap.push { cls:=.type "slice",data:=.fields #[.none,.none,.int (-1) t] } };refine tail_any (ops:=[.ref a,.ref s3.heap.objs.size]) ht.typeIs slot_tuple_getitem.lookup ?_ (by with_unfolding_all rfl);refine Wc ht (Heap.IsSliceOf.new ..) ⟨.ref _,_,I4.laid (t':=s3.toks) (o:=.tup [x2,x1]) (λb ob q=>AAC _ q) (AAE _) ⟨(by show 2<=sizeLine;decide),[u2,u1],.cons ru2 (.cons ru1 .nil),IsTup.new _ _⟩,rfl,q _ (I4.hok.fresh (AAE _))⟩
noncomputable def tKG(P:Params)(K:PySem.W.Frag)(ad:Addr)(t:TA):TE:=λO H Q=>t O H λvs H2=>∃y r,KGet P K ad y r/\((vs=[y]/\Q (r.getD .non) H2)∨∃z,vs=[y,z]/\Q (r.getD z) H2)
theorem Mc{o:Option V}{r:Option Value}(h:RelO o r)(hd:RelV d u):RelV (o.getD d) (r.getD u):=by
 cases o with
 |none=>
  cases r with
  |none=>exact hd
  |some _=>exact h.elim
 |some x=>
  cases r with
  |none=>exact h.elim
  |some y=>exact h
theorem eg{ad:Addr}(kd:X.K.lookup ad=some ⟨.type "dict",none,.dict ds n,#[]⟩)(ho:PE X o (tC (.ref ad)))(ha:PA X (e::es) t)
  (hbase:attributeBase o "get" X.env (eval o X.env)=eval o X.env)
  (hfew:((backTo cpos (starEach (e::es) X.env)).all (λx=>!x.1)&&(backToKw cpos (keywordEach [] X.env)).all (λx=>x.1.isSome)
   && decide ((e::es).length+([]:List Keyword).length+(if ([]:List Keyword).isEmpty then 0 else 1)<30))=true)
  (hline:(apos.endLine==cpos.line)=true) (hs:starEach (e::es) X.env=(false,eval e X.env)::starEach es X.env) (hplain:(backTo cpos (starEach es X.env)).any (·.1)=false) :
  PE X (.Call (.Attribute o "get" apos) (e::es) [] cpos) (tKG X.w.params X.K ad t):=by
 intro w6 s O H Q I h;refine wpAny_Call_method_late hbase hfew hline rfl (thn (ho w6 s O H (λx H1=>x=.ref ad/\tKG X.w.params X.K ad t O H1 Q) I ⟨rfl,h⟩) λv s1 ⟨x,H1,I1,r1,ex,q1⟩=>?_);subst ex;cases r1;refine⟨"dict",_,PySem.F.plainAttrs_dict,PySem.F.slot_dict_get,PySem.F.type_dict_get,⟨_,I1.kIn ad _ kd,rfl⟩,λa e=>by cases e;exact⟨_,I1.kIn ad _ kd,rfl⟩,?_⟩;have hA:=ha cpos w6 s1 O H1 _ I1 q1;rw[hs] at hA ⊢;refine Calls.callWith_builtin (by show (false||(backTo cpos (starEach es X.env)).any (·.1))=false;rw[hplain]<;>rfl) (Calls.evalArgs_plain ?_);refine thn hA λus s2 ⟨vs,H2,I2,r2,y,r,g,q2⟩=>?_;obtain⟨x,es',n',r',rfl,hl,hk,hn,ro,lo⟩:=g;have mp:=PySem.W.mapOf_K (prog:=X.prog) (w:=X.w) (λa o q=>I2.kIn a o q) hl hk;rcases q2 with ⟨rfl,q⟩|⟨z,rfl,q⟩
 ·obtain⟨u,rfl,t,rfl⟩:=DX r2;refine call_meetsIn PySem.F.slot_dict_get ⟨_,I2.kIn ad _ hl,rfl⟩ PySem.F.entry_dict_get (PySem.F.args_dict_get_2 _ _) (meets_dict_get (strKind X.prog X.w) ad (strKind_is X.prog X.w x t) lo) ⟨_,mp,?_⟩;rw[PySem.W.find_K hl hn];exact⟨_,H2,I2.tok _,Mc (d:=.non) ro rfl,q⟩
 ·obtain⟨u,u2,rfl,⟨t,rfl⟩,rz⟩:=On r2;refine call_meetsIn PySem.F.slot_dict_get ⟨_,I2.kIn ad _ hl,rfl⟩ PySem.F.entry_dict_get (PySem.F.args_dict_get_3 _ _ _) (meets_dict_get_default (strKind X.prog X.w) ad (strKind_is X.prog X.w x t) lo u2) ⟨_,mp,?_⟩;rw[PySem.W.find_K hl hn];exact⟨_,H2,I2.tok _,Mc ro rz,q⟩
end
theorem Q2(hc:o2.cls=.type "tuple")(hd:o2.data=.seq items2 n2)(h2:items.size+items2.size<=sizeLine):
  Meets (Builtin.«list.extend» ⟨[.ref l,.ref b],[]⟩) (λ_ R s=>s.heap.get? l=some { cls:=.type "list",data:=.seq items n }/\s.heap.get? b=some o2/\R (.ok (.ret Value.none)) { s with heap:=s.heap.update l (Obj.mapSeq λx=>x++items2) }):=by
 refine .of_wp λprog w A R s ⟨a1,a2,q⟩=>?_;show wpAny _ _ (Builtin.List.listExtendWith (.ref l) (.ref b) .none) _ _ s;unfold Builtin.List.listExtendWith;refine AAA (wpAny_typeOf (T := "tuple") ⟨_,a2,hc⟩ ?_);rw[if_pos (by simp)];refine AAA (m:=Builtin.List.listItems (.ref b)) ?_;unfold Builtin.List.listItems;refine AAA (AAu a2 hd (AAB (AAA (AAA (AAu a1 rfl (AAB ?_))))));have hlong:¬(!items.isEmpty&&Builtin.List.listTooLong (items.size+items2.size))=true:=by
  rw[LS h2,Bool.and_false];exact AAf
 rw[if_neg hlong];refine AAA (m:=Builtin.List.listUpdate (.ref l) (·++items2)) ?_;unfold Builtin.List.listUpdate;refine wpAny_updateSeq a1 rfl ?_ (by omega) (by rw[Array.size_append];omega);exact AAB ⟨_,rfl,q⟩
end L2
namespace Mi
open PySem L2
section
variable{K:KW}{Y:Nat->Addr}{Z Z':Mh}{H:Hp}{d:D}{v:V}{ds:List D}
theorem P5(R:RelH K Y Z H)(i:Is K Y Z.length H d v)(e:Ec d Z=some (ds,Z')):Z'=Z/\∃(k:Sk) (p:Addr) (vs:List V),v=.ref p/\IsL K Y Z.length H ds vs/\∀Y' (ν:Mh) H',Ext Y Z.length H Y' ν.length H'->k.sq K H' p vs:=by
 cases d with
 |lst xs=>
  cases e;unfold Is at i;obtain⟨p,vs,rfl,h1,hn,h2⟩:=i;exact⟨rfl,.l,p,vs,rfl,h2,λY' ν H' E=>SqL.of (E.keep p _ h1 hn)⟩
 |tup xs=>
  cases e;unfold Is at i;obtain⟨p,vs,rfl,h1,h2⟩:=i;exact⟨rfl,.t,p,vs,rfl,h2,λY' ν H' E=>HM E h1⟩
 |scr ns=>
  cases e;unfold Is at i;obtain⟨p,rfl,h1⟩:=i;exact⟨rfl,.l,p,_,rfl,IsL.ofInts ns,λY' ν H' E=>(KH E h1).sq⟩
 |_=>cases e
end
noncomputable def Kf(f:D->M (List D)):List D->M (List D)
 |[a,b]=>bnd (f a) λxs=>bnd (f b) λys=>λZ=>if ys.length=xs.length then some (Fr xs ys,Z) else none
 |_=>BM
noncomputable def Gr(f:D->M (List D))(m:Sl->M (List D)):Sl->M (List D):=λB=>bnd (m B) (Kf f)
section
variable{X:Cx}{a b e o tg st:Expr}{es:List Expr}{pos p tpos apos cpos p2:Pos}{k0:Nat}
theorem KJ(hm:X.mg "zip" = none)(ha:RA X [a,b] m)(hg:Gl X "zip" := by rfl)(hs:starEach [a,b] X.env=(false,eval a X.env)::starEach [b] X.env:=by exact BG rfl)(hpl:(backTo pos (starEach [b] X.env)).any (·.1)=false:=by exact Bb rfl):
  RI X (.Tuple es k0 tpos) (.Call (.Name "zip" p) [a,b] [] pos) (Gr Ec m):=
 RI.wk (Nr hg hm ha.pe hs hpl) λO H R q=>by
  obtain⟨Y,Z,B,ds,Z',R0,S,e,q⟩:=q;obtain⟨zs,w9,e1,e2⟩:=AJ e;refine⟨Y,Z,B,zs,w9,R0,S,e1,λx9 H1 E1 R1 vs i1=>?_⟩;unfold Kf at e2;split at e2
  ·rename_i d1 d2;obtain⟨xs,k9,e3,e4⟩:=AJ e2;obtain⟨ys,j6,e5,e6⟩:=AJ e4;obtain⟨v,u,rfl,i2,i3⟩:=OA i1;obtain⟨hm1,k1,p1,vs,rfl,j1,s1⟩:=P5 R1 i2 e3;subst hm1;obtain⟨hm2,k2,p2,ws,rfl,j2,s2⟩:=P5 R1 i3 e5;subst hm2;split at e6
   ·rename_i hl;cases e6;exact⟨k1,k2,p1,p2,vs,ws,rfl,s1 _ _ _ R1.ext0,s2 _ _ _ R1.ext0,q x9 H1 E1 R1 _ (PY s1 s2 j1 j2 hl)⟩
   ·cases e6
  ·cases e2
theorem P6(e:NQ d Z=some (ds,Z')):Z'=Z/\∃n,d=.ref n/\Z[n]?=some (.lst ds):=by
 cases d with
 |ref n=>
  have e:(match Z[n]? with|some (.lst ds)=>some (ds,Z)|_=>none)=some (ds,Z'):=e;split at e
  ·rename_i es hn;cases e;exact⟨rfl,n,rfl,hn⟩
  ·cases e
 |_=>cases e
theorem ON(R:RelH K Y Z H)(h:Z[n]?=some (.lst ds)):∃vs,SqL K H (Y n) vs/\IsL K Y Z.length H ds vs:=by
 obtain⟨u,hu,vs,rfl,iv⟩:=R.obj n _ h;exact⟨vs,SqL.of hu,iv⟩
theorem YS(hm:X.mg "zip" = none)(ha:RA X [a,b] m)(hg:Gl X "zip" := by rfl)(hs:starEach [a,b] X.env=(false,eval a X.env)::starEach [b] X.env:=by exact BG rfl)(hpl:(backTo pos (starEach [b] X.env)).any (·.1)=false:=by exact Bb rfl):
  RIP X (.Tuple es k0 tpos) (.Call (.Name "zip" p) [a,b] [] pos) (Gr NQ m):=
 ⟨PI.wk (Nr hg hm ha.pe hs hpl) λO H R q=>by
  obtain⟨Y,Z,B,ds,Z',R0,S,e,q⟩:=q;obtain⟨zs,w9,e1,e2⟩:=AJ e;refine⟨Y,Z,B,zs,w9,R0,S,e1,λx9 H1 E1 R1 vs i1=>?_⟩;unfold Kf at e2;split at e2
  ·rename_i d1 d2;obtain⟨xs,k9,e3,e4⟩:=AJ e2;obtain⟨ys,j6,e5,e6⟩:=AJ e4;obtain⟨v,u,rfl,i2,i3⟩:=OA i1;obtain⟨hm1,n1,rfl,g1⟩:=P6 e3;subst hm1;obtain⟨hm2,n2,rfl,g2⟩:=P6 e5;subst hm2;split at e6
   ·rename_i hl;cases e6;unfold Is at i2 i3;obtain⟨l1,rfl⟩:=i2;obtain⟨l2,rfl⟩:=i3;obtain⟨vs,s1,j1⟩:=ON R1 g1;obtain⟨ws,s2,j2⟩:=ON R1 g2;refine⟨.l,.l,x9 n1,x9 n2,vs,ws,rfl,s1,s2,q x9 H1 E1 R1 _ λv8 H3 E3 R3=>?_⟩;obtain⟨vs',s1',j1'⟩:=ON R3 g1;obtain⟨ws',s2',j2'⟩:=ON R3 g2;rw[E3.agree n1 l1] at s1';rw[E3.agree n2 l2] at s2';have hl':ws'.length=vs'.length:=by rw[j1'.length,j2'.length,hl]
    rw[Ke hl,←j1'.length];exact⟨λk hk=>⟨vs',ws',s1',s2',hl',hk⟩,⟨vs',ws',s1',s2',hl',rfl⟩,λk x H2 d hd y=>Zt (k1:=.l) (k2:=.l) R3 s1' s2' j1' j2' hd y⟩
   ·cases e6
  ·cases e2⟩
noncomputable def SF:List D->M (List D)
 |[.lst ds]=>ret ds.reverse
 |_=>BM
noncomputable def Wp(m:Sl->M (List D)):Sl->M (List D):=λB=>bnd (m B) SF
theorem YU(hm:X.mg "reversed" = none)(ha:RA X [a] m)(hg:Gl X "reversed" := by rfl)(hs:starEach [a] X.env=[(false,eval a X.env)]:=by rfl):RI X tg (.Call (.Name "reversed" p) [a] [] pos) (Wp m):=
 RI.wk (Yq hg hm ha.pe hs) λO H R q=>by
  obtain⟨Y,Z,B,ds,Z',R0,S,e,q⟩:=q;obtain⟨zs,w9,e1,e2⟩:=AJ e;refine⟨Y,Z,B,zs,w9,R0,S,e1,λx9 H1 E1 R1 vs i1=>?_⟩;unfold SF at e2;split at e2
  ·rename_i xs;cases e2;obtain⟨v,rfl,i2⟩:=ET i1;unfold Is at i2;obtain⟨p,vs,rfl,h1,hn,h2⟩:=i2;refine⟨p,vs,rfl,SqL.of h1,q x9 H1 E1 R1 _ λY' ν H' E R'=>?_⟩;have sq:SqL X.kw H' p vs:=SqL.of (E.keep p _ h1 hn);rw[List.length_reverse,←h2.length];refine⟨λj hj=>⟨hj,sq⟩,⟨rfl,sq⟩,λj x H2 d hd y=>?_⟩;obtain⟨rfl,y⟩:=y;obtain⟨v,ev,iv⟩:=(h2.ext E).reverse.get hd;rw[ev] at y;cases y;exact⟨R'.ext0,R',iv⟩
  ·cases e2
noncomputable def Vx(d k:D):M D:=match d,k with
 | .tup [x,y],.int i=>if i=-1 then ret (.tup [y,x]) else BM
 |_,_=>BM
theorem YX(he:RE X e m)(hst:RE X st ms):RE X (.Subscript e (.Slice none none (some st) p2) pos) (mOp Vx m ms):=RE.wk (Yr he.pe hst.pe) λO H Q h=>by
 obtain⟨Y,Z,B,d,Z',R,S,ev,q⟩:=h;obtain⟨x,w9,e1,e2⟩:=AJ ev;obtain⟨y,x6,e3,e4⟩:=AJ e2;refine⟨Y,Z,B,x,w9,R,S,e1,λx9 H1 E1 R1 v1 i1=>⟨x9,w9,B,y,x6,R1,S.ext E1,e3,λu9 H2 E2 R2 v2 i2=>?_⟩⟩;unfold Vx at e4;split at e4
 ·split at e4
  ·rename_i hi;subst hi;cases e4;have i1:=i1.ext E2;unfold Is at i1;obtain⟨p,vs,rfl,h1,h2⟩:=i1;obtain⟨w1,w2,rfl,j1,j2⟩:=OA h2;exact⟨CP i2,p,w1,w2,rfl,h1,λp hp=>Wu R2 (.cons j2 (.one j1)) (λv8 H3 E3 R3=>q v8 H3 ((E1.trans E2).trans E3) R3) p hp⟩
  ·cases e4
 ·cases e4
noncomputable def Sv:D->List D->M D
 | .ref n,[.tup zs]=>Ew n λds=>if ds.length+zs.length<=sizeLine then some (.non,ds++zs) else none
 |d,as=>MH d as
theorem Ty:MtR X "list.extend" (rMM X.kw Sv):=λw6 s O H x xs v us Q I rx rs h=>by
 obtain⟨Y,Z,a,as,d,Z',R,ia,ib,e,q⟩:=h;unfold Sv at e;split at e
 ·rename_i n zs;obtain⟨ds,es,h1,h2,rfl⟩:=HL e;split at h2
  ·rename_i hl;cases h2;obtain⟨w,rfl,iw⟩:=ET ib;unfold Is at ia iw;obtain⟨_,rfl⟩:=ia;obtain⟨p,ws,rfl,k1,k2⟩:=iw;obtain⟨u,g1,vs,rfl,g2⟩:=R.obj n _ h1;cases rx;obtain⟨u,rfl,ru⟩:=DX rs;cases ru;obtain⟨z,its,m,r,hl1,e⟩:=I.lstM g1;obtain⟨jts,r2,⟨o,ho,hc,m2,hd⟩,_⟩:=I.tuple k1;have hs:vs.length+ws.length<=sizeLine:=by rw[g2.length,k2.length];exact hl
   have hj:=r2.length;refine call_meets PySem.F.slot_list_extend ⟨_,e,rfl⟩ PySem.F.entry_list_extend (PySem.F.args_list_extend_2 _ _) (Q2 (n:=m) hc hd (by rw[List.size_toArray,List.size_toArray];omega)) ⟨e,ho,?_⟩;exact⟨.non,_,I.lset (its':=its++jts) g1 e (by simp) (r.append r2) (by rw[AAG];exact hs),rfl,KG R h1 (g2.append k2) ofN q⟩
  ·cases h2
 ·exact Go w6 s O H x xs v us Q I rx rs ⟨Y,Z,a,as,d,Z',R,ia,ib,e,q⟩
noncomputable def kgF(t:Str->Option D):List D->M D
 |[.str y]=>ret ((t y).getD .non)
 |[.str y,z]=>ret ((t y).getD z)
 |_=>BM
theorem Z4(k:Ub X.w X.kw X.mg x t)(ha:RA X (e::es) m)(hg:Gl X x:=by rfl)(hdb:(x==("__debug__" : Str))=false:=by decide)
  (hbase:attributeBase (.Name x p) "get" X.env (eval (.Name x p) X.env)=eval (.Name x p) X.env:=by rfl)
  (hfew:((backTo cpos (starEach (e::es) X.env)).all (λx=>!x.1)&&(backToKw cpos (keywordEach [] X.env)).all (λx=>x.1.isSome)
   && decide ((e::es).length+([]:List Keyword).length+(if ([]:List Keyword).isEmpty then 0 else 1)<30))=true:=by rfl)
  (hline:(apos.endLine==cpos.line)=true:=by rfl) (hs:starEach (e::es) X.env=(false,eval e X.env)::starEach es X.env:=by exact BG rfl) (hplain:(backTo cpos (starEach es X.env)).any (·.1)=false:=by exact Bb rfl) :
  RE X (.Call (.Attribute (.Name x p) "get" apos) (e::es) [] cpos) (AF (kgF t) m):=by
 obtain⟨ad,hm,kk⟩:=k;obtain⟨_,⟨_,es0,n0,_,_,hl0,_⟩,_⟩:=kk Str.empty;refine RE.wk (eg hl0 (KK (v:=.ref ad) hg hm rfl hdb) ha.pe hbase hfew hline hs hplain) λ_ _ _ q=>F2 q λY Z Z' H ds vs d R i ev q=>?_;unfold kgF at ev;split at ev
 ·rename_i y;obtain⟨v,rfl,i1⟩:=ET i;cases CD i1;obtain⟨r,g,z⟩:=kk y;cases ev;refine⟨_,r,g,.inl ⟨rfl,?_⟩⟩;rcases z with ⟨z1,rfl⟩|⟨d0,v0,z1,rfl,z3⟩
  ·rw[z1] at q;exact q Y H R.ext0 R _ ofN
  ·rw[z1] at q;exact q Y H R.ext0 R _ (z3 _ _ _)
 ·rename_i y z0;obtain⟨v,v',rfl,i1,i2⟩:=OA i;cases CD i1;obtain⟨r,g,z⟩:=kk y;cases ev;refine⟨_,r,g,.inr ⟨_,rfl,?_⟩⟩;rcases z with ⟨z1,rfl⟩|⟨d0,v0,z1,rfl,z3⟩
  ·rw[z1] at q;exact q Y H R.ext0 R _ i2
  ·rw[z1] at q;exact q Y H R.ext0 R _ (z3 _ _ _)
 ·cases ev
theorem V0(F:Ini X.prog X.w X.kw X.mg X.base c ps k φ)(hr:Room j X.A)(hkj:k+1<=j:=by decide)(hg:Gl X c:=by rfl)(hdb:(c==("__debug__" : Str))=false:=by decide):RE X (.Call (.Name c p) [] [] pos) (AF (LU c φ) AI):=by
 obtain⟨len,C,f,fd,hc,hm,M,F,hb⟩:=F;refine RE.wk (WO M F (hr.mono hkj) hg hm hb .nil SU hdb) λO H Q h=>?_;obtain⟨Y,Z,B,d,Z',R,S,ev,q⟩:=h;intro x dx hx hdx hne;have ev:LU c φ [] Z=some (d,Z'):=ev;unfold LU at ev;split at ev
 ·rename_i w9 hφ;cases ev;obtain⟨E1,R1⟩:=R.laid (.own x) hdx;have hx1:upd H dx (.own x) x=none:=by rw[BN (Ne.symm hne)];exact hx
  obtain⟨Y',E2,R2,e0⟩:=R1.grown (m:=.ins c []) (o:=.ins C dx []) hx1 ⟨C,dx,[],rfl,hc,B2,rfl⟩;have hlen:=len _ _ _ hφ;refine⟨hlen,Y',_,_,_,_,R2,.one (v:=.ref x) (by unfold Is;exact⟨by simp,by rw[e0]⟩),hφ,λv8 H3 E3 R3 v iv=>?_⟩;unfold Is at iv;refine⟨iv,q v8 H3 ((E1.trans E2).trans E3) R3 (.ref x) ?_⟩;unfold Is;have hl:Z.length<(Z++[MO.ins c []]).length:=by simp
  exact⟨AAM hl E3.le,by rw[E3.agree _ hl,e0]⟩
 ·cases ev
theorem Vz(F:Mth X.prog X.w X.kw X.mg X.base c mm ps k φ)(hr:Room j X.A)(ho:RE X o mo)(hkj:k<=j:=by decide)
  (ht:eval (.Call (.Attribute o mm apos) [] [] pos) X.env=(do
   let ov ←eval o X.env
   standAt apos.atName
   let (f,first) ←holding [ov] (getMethod ov mm pl)
   callWith pos f first (backTo pos (starEach [] X.env)) (backToKw pos (keywordEach [] X.env))):=by rfl):RE X (.Call (.Attribute o mm apos) [] [] pos) (F7 c mm φ mo AI):=by
 obtain⟨len,C,f,fd,ca,M,F,hb⟩:=F;refine RE.wk (WN (pl:=pl) ho.pe ca.cl M F (hr.mono hkj) hb .nil SU ht) λO H Q h=>?_;obtain⟨Y,Z,B,d,Z',R,S,ev,q⟩:=h;obtain⟨x,w9,e1,e2⟩:=AJ ev;obtain⟨r,x6,e3,e4⟩:=AJ e2;refine⟨Y,Z,B,x,w9,R,S,e1,λx9 H1 E1 R1 v1 i1=>?_⟩;obtain⟨hm,ex,g1,rfl,C',dx,fs,g2,g3,g4,g5⟩:=GG R1 i1 e3;subst hm;cases ca.at_.eq g3;split at e4
 ·rename_i hl;have e4:φ [x] x6=some (d,Z'):=e4;have hlen:=len _ _ _ e4;exact⟨_,dx,fs,rfl,g2,g5.none hl,hlen,x9,_,_,_,_,R1,.one i1,e4,λv8 H3 E3 R3 v iv=>q v8 H3 (E1.trans E3) R3 v iv⟩
 ·cases e4
open Classical in
noncomputable def LP(φ:List D->M D):List D->M D:=λds Z=>match φ ds Z with
 |some (d,Z')=>if Z'=Z then some (d,Z) else none
 |none=>none
theorem LO(h:LP φ ds Z=some r):φ ds Z=some r/\r.2=Z:=by
 unfold LP at h;split at h
 ·rename_i d Z' e;split at h
  ·rename_i c;cases h;rw[e,c];exact⟨rfl,rfl⟩
  ·cases h
 ·cases h
theorem V9:Pu1 (LP φ):=λds Z a Z' e=>(LO e).2
theorem bI(F:Fn X.prog X.w X.kw X.mg X.base x ps k φ)(hr:Room j X.A)(ha:RA X (e::es) m)(hkj:k<=j:=by decide)(hg:Gl X x:=by rfl)(hdb:(x==("__debug__" : Str))=false:=by decide)
  (he:starEach (e::es) X.env=(false,eval e X.env)::starEach es X.env:=by exact BG rfl) (hpl:(backTo pos (starEach es X.env)).any (·.1)=false:=by exact Bb rfl):RE X (.Call (.Name x p) (e::es) [] pos) (AF (LP φ) m):=by
 refine RE.wk (AY (p:=p) (pos:=pos) (hkj:=hkj) F hr ha hg hdb he hpl).pe λO H Q h=>?_;obtain⟨Y,Z,B,d,Z',R,S,ev,q⟩:=h;obtain⟨as,w9,e1,e2⟩:=AJ ev;exact⟨Y,Z,B,d,Z',R,S,(AV e1).trans (LO e2).1,q⟩
theorem SO:Pu1 DL:=λds Z a Z' e=>by
 obtain⟨u,w9,e1,e2⟩:=AJ e;cases e2;exact(Cy e1).2
theorem Yf:Pu1 A4:=λds Z a Z' e=>by
 obtain⟨u,w9,e1,e2⟩:=AJ e;cases e2;exact(Cy e1).2
theorem Tm:Pu1 Fa:=λds Z a Z' e=>by
 unfold Fa at e;split at e
 ·cases e;rfl
 ·obtain⟨xs,w9,e1,e2⟩:=AJ e;cases e2;exact NP e1
 ·cases e
theorem Yg:Pu2 Av:=λx y Z a Z' e=>by
 unfold Av at e;split at e
 ·cases e;rfl
 ·unfold GN at e;split at e
  ·cases e;rfl
  ·obtain⟨u,w9,e1,e2⟩:=AJ e;cases e2;exact(Cy e1).2
  ·exact Yf _ _ _ _ e
  ·cases e
  ·exact SO _ _ _ _ e
  ·cases e
end
end Mi
local macro_rules | `(tactic| wtm_at "k")=>`(tactic| repeat first|exact Mi.SN|exact Mi.eT|exact Mi.SL|exact Mi.WA|exact Mi.Yg|exact Mi.SO|exact Mi.Tm|exact Mi.V9|exact Mi.Z8|exact Mi.WB|apply Mi.SM|apply Mi.Z7|apply Mi.SQ|apply Mi.SR)
namespace Mi
open PySem L2
end Mi
namespace Xc
open PySem L2 Mi
open PyProof.Rows (AllBare)
end Xc
namespace Xc
open PySem L2 Mi
end Xc
namespace Mi
open PySem PySem.W PyProof.Rows L2
noncomputable def No(a b:D):M D:=match a,b with
 | .ref n,.lst bs=>λZ=>match Z[n]? with
  |some (.lst as)=>EQ (as++bs) Z
  |_=>none
 | .lst as,.lst bs=>EQ (as++bs)
 |_,_=>BM
section
variable{X:Cx}
theorem cJ:OpR X (binaryOp .Add) (rM X.kw No):=λw6 s O H x y v u Q I rx ry h=>by
 obtain⟨Y,Z,a,b,d,Z',R,ia,ib,e,q⟩:=h;unfold No at e;split at e
 ·rename_i n bs;split at e
  ·rename_i as hn;obtain⟨w,hu,o⟩:=R.obj n _ hn;obtain⟨vs,rfl,iv⟩:=o;unfold Is at ia ib;obtain⟨hk,rfl⟩:=ia;obtain⟨p',vs',rfl,h1',hn',h2'⟩:=ib;obtain⟨hl,w⟩:=N1 R (iv.append h2') e q;exact Qm w6 s O H _ _ v u Q I rx ry ⟨_,p',vs,vs',rfl,rfl,hu,h1',by rw[←AAG];exact hl,w⟩
  ·cases e
 ·rename_i as bs;unfold Is at ia ib;obtain⟨p,vs,rfl,h1,hn,h2⟩:=ia;obtain⟨p',vs',rfl,h1',hn',h2'⟩:=ib;obtain⟨hl,w⟩:=N1 R (h2.append h2') e q;exact Qm w6 s O H _ _ v u Q I rx ry ⟨p,p',vs,vs',rfl,rfl,h1,h1',by rw[←AAG];exact hl,w⟩
 ·cases e
end
end Mi
namespace Sq
open PySem PySem.W PyProof.Rows
end Sq
namespace Nk
open PySem PySem.Spec PyProof.Rows HT
end Nk
set_option maxHeartbeats 4000000
namespace Nk
open PySem PySem.Spec PyProof.Rows Ht
end Nk
namespace Nk
open PySem PySem.Spec PyProof.Rows L2 Mi
end Nk
namespace Mi
open PySem L2 Ht Nk
end Mi
namespace Nk
open PySem PySem.Spec PyProof.Rows PySem.SeqAt
end Nk
namespace Mi
open PySem L2 Ht Nk
section
variable{X:Cx}{e:Expr}
noncomputable def H9:D->List D->M D
 | .ref n,[]=>Ew n λds=>(ds[ds.length-1]?).map λd=>(d,ds.dropLast)
 |_,_=>BM
theorem IsL.dropLast(h:IsL K Y k H ds vs):IsL K Y k H ds.dropLast vs.dropLast:=by
 rw[List.dropLast_eq_take,List.dropLast_eq_take,h.length];exact h.take _
theorem LW:MtR X "list.pop" (rMM X.kw H9):=λw6 s O H x xs v us Q I rx rs h=>by
 obtain⟨Y,Z,a,as,d,Z',R,ia,ib,e,q⟩:=h;unfold H9 at e;split at e
 ·rename_i n;obtain⟨ds,es,h1,h2,rfl⟩:=HL e;cases hd:ds[ds.length-1]? with
  |none=>rw[hd] at h2;cases h2
  |some d0=>
   rw[hd] at h2;cases h2;unfold IsL at ib;subst ib;unfold Is at ia;obtain⟨_,rfl⟩:=ia;obtain⟨u,g1,vs,rfl,g2⟩:=R.obj n _ h1;obtain⟨w,ew,iw⟩:=g2.get hd;refine cM w6 s O H _ _ v us Q I rx rs ⟨_,vs,w,rfl,rfl,g1,by rw[g2.length];exact ew,?_⟩;exact KG R h1 g2.dropLast iw q
 ·cases e
end
end Mi
namespace Mi
open PySem L2 Ht Nk PySem.SeqAt
end Mi
namespace K5
open PySem L2 Mi K1
noncomputable def Jd:D:=.str "0123456789"
noncomputable def G6:D:=.int 3
noncomputable def Kw:List (Str×List Str):=[("makes",["kind", "number", "number"]),("box",["name", "kind", "number", "number", "name"]),("hand",["name", "number"])]
noncomputable def Eg:Str->Option D:=Nc Kw
noncomputable def FB  : Sl->M (Fl×Sl):=
  (AT (Jq "Reading" "made" (AD 0) (mC .non))
  (AT (Jq "Reading" "boxes" (AD 0) (AF EQ AI))
  (AT (Jq "Reading" "hands" (AD 0) (AF EQ AI))
  (Jq "Reading" "programs" (AD 0) (AF EQ AI)))))
noncomputable def Bn  : Sl->M (Fl×Sl):=
  (AT (sIf (AW (mOp A8 (AD 1) (mC (.str "makes")))) (A1 (mOp (Fj false) (mUn (FE "Reading" "made") (AD 0)) (mC .non))) BC)
  (AT (sIf (AW (mOp (Fj false) (mUn (FE "Reading" "made") (AD 0)) (mC .non))) (A1 (mC (.bl false))) BC)
  (AT (sIf (AW (mOp A8 (AD 1) (mC (.str "box")))) (A1 (ES (mOp A8 (AF Bk (AC (mUn (FE "Reading" "hands") (AD 0)) AI)) (mC (.int 0))) (mOp GR (AF Bk (AC (mUn (FE "Reading" "boxes") (AD 0)) AI)) (mC Em)))) BC)
  (AT (sIf (AW (mOp A8 (AD 1) (mC (.str "hand")))) (A1 (mOp GR (AF Bk (AC (mUn (FE "Reading" "hands") (AD 0)) AI)) (mC El))) BC)
  (A1 (ES (mOp Hz (AF Bk (AC (mUn (FE "Reading" "hands") (AD 0)) AI)) (mC (.int 0))) (mOp GR (AF Bk (AC (mOp Aa (mUn (FE "Reading" "programs") (AD 0)) (mUn LK (mC (.int 1)))) AI)) (mC EU))))))))
noncomputable def Cw  : Sl->M (Fl×Sl):=
  (sIf (AW (mOp A8 (mOp Aa (AD 1) (mC (.int 0))) (mC (.str "makes")))) (Jq "Reading" "made" (AD 0) (Fm (AD 1) (CY (mC (.int 1))) B5)) (sIf (AW (mOp A8 (mOp Aa (AD 1) (mC (.int 0))) (mC (.str "box")))) (Ag (A3 C9 (mUn (FE "Reading" "boxes") (AD 0)) (AC (Fm (AD 1) (CY (mC (.int 1))) B5) AI))) (sIf (AW (mOp A8 (mOp Aa (AD 1) (mC (.int 0))) (mC (.str "hand")))) (AT (Ag (A3 C9 (mUn (FE "Reading" "hands") (AD 0)) (AC (Fm (AD 1) (CY (mC (.int 1))) B5) AI)))
  (Ag (A3 C9 (mUn (FE "Reading" "programs") (AD 0)) (AC (AF EQ AI) AI)))) (Ag (A3 C9 (mOp Aa (mUn (FE "Reading" "programs") (AD 0)) (mUn LK (mC (.int 1)))) (AC (AD 1) AI))))))
noncomputable def Du  : Sl->M (Fl×Sl):=
  (AT (A2 (BU 2 [] (Gr NQ (AC (mUn (FE "Reading" "hands") (AD 0)) (AC (mUn (FE "Reading" "programs") (AD 0)) AI))) (DE [0,1]) Ba (mOp Av (AD 0) (AF DL (AC (AF Fa (AC (AD 1) AI)) AI))) A4) (AR 1))
  (A1 (mOp Av (mUn (FE "Reading" "made") (AD 0)) (AF DL (AC (AF Fa (AC (mUn (FE "Reading" "boxes") (AD 0)) AI)) (AC (AF Fa (AC (AD 1) AI)) AI))))))
noncomputable def Gm(i7:List D->M D):Sl->M (Fl×Sl):=
  (AT (A2 (AF EQ (AC (mOp Av (AF DL (AC (mC (.str "makes")) AI)) (Fm (AD 0) B5 (CY (mC (.int 3))))) AI)) (AR 1))
  (AT (D3 (C7 (mOp Aa (AD 0) (mC (.int 3)))) (AR 2) (Ag (A3 C9 (AD 1) (AC (mOp Av (AF DL (AC (mC (.str "box")) AI)) (AD 2)) AI))))
  (AT (D3 (C7 (mOp Aa (AD 0) (mC (.int 4)))) (AR 3) (AT (Ag (A3 C9 (AD 1) (AC (mOp Av (AF DL (AC (mC (.str "hand")) AI)) (Fm (AD 3) B5 (CY (mC (.int 2))))) AI)))
  (Ag (A3 Sv (AD 1) (AC (mOp Aa (AD 3) (mC (.int 2))) AI)))))
  (A1 (Gs F8 (mC (.str "\n")) (AC (BU 1 [] (LZ (AD 1)) (AR 0) Ba (AF (LP i7) (AC (AD 0) AI)) A4) AI))))))
noncomputable def Gk(iM:List D->M D)(iV:List D->M D):Sl->M (Fl×Sl):=
  (AT (A2 (AF EQ (AC (mOp Aa (AD 0) (mC (.int 0))) AI)) (AR 1))
  (AT (D3 (C7 (AF iM (AC (mOp Aa (AD 0) (mC (.int 0))) (AC (Fm (AD 0) (CY (mC (.int 1))) B5) AI)))) (AR 2) (Ag (A3 MH (AD 1) (AC (AF iV (AC (AD 2) AI)) AI))))
  (A1 (Gs F8 (mC (.str " ")) (AC (AD 1) AI)))))
noncomputable def E9  : Sl->M (Fl×Sl):=
  (A1 (mIf (AW (mOp A8 (AD 0) (mC (.str "unless")))) (mOp Vx (AD 1) (mUn LK (mC (.int 1)))) (AD 1)))
noncomputable def DN(iV:List D->M D):Sl->M (Fl×Sl):=
  (AT (sIf (HY (AW (AF FW (AC (AD 0) (AC (mC (.ty "tuple")) AI))))) (A1 (AF A4 (AC (AF DA (AC (AD 0) AI)) AI))) BC)
  (AT (sIf (AW (mOp (C4 false) (mOp Aa (AD 0) (mC (.int 0))) (AF DL (AC (mC (.str "num")) (AC (mC (.str "var")) AI))))) (A1 (AF A4 (AC (AF DA (AC (mOp Aa (AD 0) (mC (.int 1))) AI)) AI))) BC)
  (AT (A2 (AF EQ (AC (mOp Aa (AD 0) (mC (.int 0))) AI)) (AR 1))
  (AT (D3 (C7 (Fm (AD 0) (CY (mC (.int 1))) B5)) (AR 2) (Ag (A3 MH (AD 1) (AC (AF iV (AC (AD 2) AI)) AI))))
  (A1 (AD 1))))))
noncomputable def Hj(iX:List D->M D)(jA:List D->M D)(iU:List D->M D)(ij:List D->M D)(iT:List D->M D)(iO:List D->M D):Sl->M (Fl×Sl):=
  (AT (sIf (HY (AW (AF FW (AC (AD 0) (AC (mC (.ty "str")) AI))))) JM BC)
  (AT (A2 (Gs Hw (AD 0) (AC (mC (.str "\n")) AI)) (AR 1))
  (AT (A2 (AF (LU "Reading" iX) AI) (AR 2))
  (AT (D3 (Sd (AC (AD 1) AI)) (DE [3,4]) (AT (A2 (AF jA (AC (AD 4) AI)) (AR 5))
  (AT (sIf (mOr (AW (mOp (Fj false) (AD 5) (mC .non))) (HY (AW (F7 "Reading" "lets_stand" iU (AD 2) (AC (mOp Aa (AD 5) (mC (.int 0))) AI))))) JM BC)
  (Ag (F7 "Reading" "take" ij (AD 2) (AC (AD 5) AI))))))
  (AT (sIf (AW (mOp GR (AF Bk (AC (mUn (FE "Reading" "hands") (AD 2)) AI)) (mC EK))) JM BC)
  (AT (A2 (F7 "Reading" "told_making" iT (AD 2) AI) (AR 6))
  (AT (Ag (AF iO (AC (AD 6) AI)))
  (A1 (AD 6)))))))))
noncomputable def IF(iM:List D->M D)(i5:List D->M D):Sl->M (Fl×Sl):=
  (AT (A2 (Gs Hw (AD 0) (AC (mC (.str " ")) AI)) (AR 1))
  (AT (A2 (AF (kgF Eg) (AC (mOp Aa (AD 1) (mC (.int 0))) (AC (AF (kgF Bi) (AC (mOp Aa (AD 1) (mC (.int 0))) AI)) AI))) (AR 2))
  (AT (sIf (AW (mOp (Fj false) (AD 2) (mC .non))) (A1 (mC .non)) BC)
  (AT (A2 (AF i5 (AC (AF iM (AC (mOp Aa (AD 1) (mC (.int 0))) (AC (AD 2) AI))) (AC (Fm (AD 1) (CY (mC (.int 1))) B5) AI))) (AR 3))
  (AT (sIf (AW (mOp (Fj false) (AD 3) (mC .non))) (A1 (mC .non)) BC)
  (A1 (mOp Av (AF DL (AC (mOp Aa (AD 1) (mC (.int 0))) AI)) (AF iM (AC (mOp Aa (AD 1) (mC (.int 0))) (AC (AF Fa (AC (AD 3) AI)) AI))))))))))
noncomputable def F6(i6:List D->M D):Sl->M (Fl×Sl):=
  (AT (sIf (AW (mOp (C4 false) (mC (.str "expression")) (AD 0))) (AT (A2 (mOp FT (AF Bk (AC (AD 0) AI)) (mC (.int 1))) (AR 2))
  (A2 (mOp Av (Fm (AD 1) B5 (CY (AD 2))) (AF A4 (AC (Fm (AD 1) (CY (AD 2)) B5) AI))) (AR 1))) BC)
  (AT (sIf (AW (mOp B4 (AF Bk (AC (AD 1) AI)) (AF Bk (AC (AD 0) AI)))) (A1 (mC .non)) BC)
  (AT (A2 (BU 2 [] (Gr Ec (AC (AD 0) (AC (AD 1) AI))) (DE [0,1]) Ba (AF i6 (AC (AD 0) (AC (AD 1) AI))) A4) (AR 3))
  (A1 (mIf (AW (AF Xf (AC (BU 1 [] (C7 (AD 3)) (AR 0) Ba (mOp (Fj false) (AD 0) (mC .non)) A4) AI))) (mC .non) (AD 3))))))
noncomputable def ER(iZ:List D->M D)(ik:List D->M D)(iI:List D->M D):Sl->M (Fl×Sl):=
  (AT (sIf (AW (mOp A8 (AD 0) (mC (.str "expression")))) (A1 (AF iZ (AC (AD 1) AI))) BC)
  (AT (sIf (AW (mOp (C4 false) (AD 0) (AF DL (AC (mC (.str "number")) (AC (mC (.str "target")) AI))))) (A1 (AF ik (AC (AD 1) (AC (mC G6) AI)))) BC)
  (AT (sIf (AW (mOp A8 (AD 0) (mC (.str "kind")))) (A1 (mIf (AW (mOp (C4 false) (AD 1) (mC KZ))) (AD 1) (mC .non))) BC)
  (A1 (mIf (AW (AF iI (AC (AD 1) AI))) (AD 1) (mC .non))))))
noncomputable def Hi  : Sl->M (Fl×Sl):=
  (AT (sIf (mOr (HY (AW (FC LL LL (mC (.int 1)) (AF Bk (AC (AD 0) AI)) (AD 1)))) (HY (AW (AF RB (AC (BU 1 [] (PR (AD 0)) (AR 0) Ba (mOp (C4 false) (AD 0) (mC Jd)) A4) AI))))) (A1 (mC .non)) BC)
  (AT (sIf (N5 (AW (mOp A8 (mOp Aa (AD 0) (mC (.int 0))) (mC (.str "0")))) (AW (mOp B4 (AD 0) (mC (.str "0"))))) (A1 (mC .non)) BC)
  (A1 (AF DC (AC (AD 0) AI)))))
noncomputable def FU(iq:List D->M D)(i8:List D->M D):Sl->M (Fl×Sl):=
  (AT (A2 (AF EQ AI) (AR 1))
  (AT (D3 (Wp (AC (AD 0) AI)) (AR 2) (AT (A2 (AF iq (AC (AD 2) AI)) (AR 3))
  (AT (sIf (AW (mOp (Fj false) (AD 3) (mC .non))) (A2 (AF i8 (AC (AD 2) (AC (AD 1) AI))) (AR 3)) BC)
  (AT (sIf (AW (mOp (Fj false) (AD 3) (mC .non))) (A1 (mC .non)) BC)
  (Ag (A3 C9 (AD 1) (AC (AD 3) AI)))))))
  (A1 (mIf (AW (mOp A8 (AF Bk (AC (AD 1) AI)) (mC (.int 1)))) (mOp Aa (AD 1) (mC (.int 0))) (mC .non)))))
noncomputable def DB(iI:List D->M D):Sl->M (Fl×Sl):=
  (AT (sIf (mOr (AW (mOp (C4 false) (AD 0) (mC CM))) (AW (mOp A8 (AD 0) (mC (.str "not"))))) (A1 (mC .non)) BC)
  (AT (sIf (AW (AF iI (AC (AD 0) AI))) (A1 (AF DL (AC (mC (.str "var")) (AC (AD 0) AI)))) BC)
  (A1 (mIf (N5 (AW (mOp A8 (AF Bk (AC (AD 0) AI)) (mC (.int 1)))) (AW (mOp (C4 false) (AD 0) (mC Jd)))) (AF DL (AC (mC (.str "num")) (AC (AF DC (AC (AD 0) AI)) AI))) (mC .non)))))
noncomputable def Gn  : Sl->M (Fl×Sl):=
  (AT (sIf (N5 (AW (mOp (C4 false) (AD 0) (mC CM))) (AW (mOp V8 (AF Bk (AC (AD 1) AI)) (mC (.int 2))))) (AT (A2 (CI H9 (AD 1)) (AR 2))
  (A1 (AF DL (AC (AD 0) (AC (AD 2) (AC (CI H9 (AD 1)) AI)))))) BC)
  (AT (sIf (N5 (AW (mOp A8 (AD 0) (mC (.str "not")))) (AW (mOp V8 (AF Bk (AC (AD 1) AI)) (mC (.int 1))))) (A1 (AF DL (AC (AD 0) (AC (CI H9 (AD 1)) AI)))) BC)
  (A1 (mC .non))))
noncomputable def B8:List D->M D:=Cj .all 2 2 (E9)
noncomputable def B7:Nat->List D->M D
 |0=>λ_=>BM
 |n+1=>BJ .frz 3 1 (DN (B7 n))
noncomputable def Bq:List D->M D:=BJ .drop 3 1 (Gk B8 (B7 6))
noncomputable def Dg:List D->M D:=BJ .drop 4 1 (Gm Bq)
noncomputable def Cg:List D->M D:=Cj .all 1 1 (FB)
noncomputable def BT:List D->M D:=Cj .all 1 1 (DB CU)
noncomputable def C1:List D->M D:=Cj .all 3 2 (Gn)
noncomputable def Cr:List D->M D:=BJ .drop 4 1 (FU BT C1)
noncomputable def EF:List D->M D:=Cj .all 2 2 (Hi)
noncomputable def CZ:List D->M D:=Cj .all 2 2 (ER Cr EF CU)
noncomputable def Cf:List D->M D:=Cj .all 4 2 (F6 CZ)
noncomputable def Bh:List D->M D:=Cj .all 4 1 (IF B8 Cf)
noncomputable def Ao:List D->M D:=Cj .all 2 2 (Bn)
noncomputable def A7:List D->M D:=Cj .all 2 2 (Cw)
noncomputable def CB:List D->M D:=Cj .all 2 1 (Du)
noncomputable def EG:List D->M D:=BJ .drop 7 1 (Hj Cg Bh Ao A7 CB Dh)
end K5
namespace Hs
open PySem PySem.SetTable
end Hs
namespace Hs
open PySem PySem.SetTable Ht
end Hs
set_option maxHeartbeats 4000000
namespace Hs
open PySem PySem.Spec PyProof.Rows Nk
end Hs
set_option maxHeartbeats 4000000
namespace Hs
open PySem PySem.Spec PyProof.Rows Nk PySem.SetTable Ht
end Hs
set_option maxHeartbeats 4000000
namespace Hs
open PySem PySem.Spec PyProof.Rows Nk PySem.SetTable Ht
end Hs
set_option maxHeartbeats 4000000
namespace Hs
open PySem PySem.Spec PyProof.Rows Nk PySem.SetTable Ht
end Hs
set_option maxHeartbeats 4000000
namespace Hs
open PySem PySem.Spec PyProof.Rows Nk PySem.SetTable Ht
end Hs
set_option maxHeartbeats 4000000
namespace Hs
open PySem PySem.Spec PyProof.Rows Nk PySem.SetTable Ht
end Hs
set_option maxHeartbeats 4000000
namespace Hs
open PySem PySem.Spec PyProof.Rows Sem L2 Nk PySem.SetTable Ht
section
variable{α:Type}[DecidableEq α]
end
end Hs
namespace Hs
open PySem PySem.Spec PyProof.Rows Sem L2 Nk Ht
end Hs
set_option maxHeartbeats 4000000
namespace Hs
open PySem PySem.Spec PyProof.Rows PySem.SeqAt Nk Ht
end Hs
set_option maxHeartbeats 4000000
namespace Hs
open PySem PySem.Spec PyProof.Rows Nk PySem.SetTable Ht L2
end Hs
set_option maxHeartbeats 4000000
namespace Hs
open PySem PySem.Spec PyProof.Rows Nk PySem.SetTable Ht L2
end Hs
set_option maxHeartbeats 4000000
namespace Hs
open PySem PySem.Spec PyProof.Rows Nk PySem.SetTable Ht L2
end Hs
set_option maxHeartbeats 2000000
namespace Mi
open PySem PySem.Spec PyProof.Rows L2 Ht Nk Hs
end Mi
set_option maxHeartbeats 2000000
namespace Mi
open PySem PySem.Spec PyProof.Rows L2 Ht Nk Hs
end Mi
namespace L2
open PySem PySem.Spec PyProof.Rows Sem Ht
end L2
namespace Mi
open PySem L2 Ht
end Mi
set_option maxHeartbeats 2000000
namespace Xt
open PySem PySem.Spec PyProof.Rows Sem L2 Ht
section
variable{w:World}{s:Shared}
set_option hygiene false in
local macro_rules | `(tactic| wtm_at "w")=>`(tactic| (
 refine AAA (wpAny_storeSet_of (s:={ s with toks:=s.toks+1 }) ho hd ?_ (by rw[sizeLine_eq];unfold scanBound at room;omega));have ho1:=get_put ho hd es1 t2;have sb1:=Heap.SameBut.update s.heap a (Obj.putSet es1 t2);by_cases hf:(!wd&&t2.tooFull)=true
 ·rw[if_pos hf];have rp:=relayAll_perm t2 es1 (SetTable.grown es1.size);have rf:=relayAll_fits t2 es1 (SetTable.grown es1.size);have rl:=relay_led t2 es1 (SetTable.grown es1.size);generalize relayAll t2 es1 (SetTable.grown es1.size)=ry at rp rf rl;obtain⟨es3,t3,gv3⟩:=ry;dsimp only at rp rf rl ⊢;have s3:es3.size=es1.size:=by simpa using rp.length_eq
  cases gv3
  all_goals
   first
    |refine AAA (AAB ?_)
    |refine AAA (wpAny_rule ?_)
   refine AAA (wpAny_storeSet_of (s:={ s with heap:=s.heap.update a (Obj.putSet es1 t2),toks:=s.toks+1 }) ho1 rfl ?_ (by rw[sizeLine_eq];unfold scanBound at room;omega));exact AAB (AAB (wrap es3 t3 _ o _ _ (sb1.trans (Heap.SameBut.update _ a _)) (get_put ho1 rfl es3 t3) rp rf (rl.1.trans fl.2.1) (rl.2 fl.2.2)))
 ·rw[if_neg hf];exact AAB (AAB (wrap es1 t2 _ o _ _ sb1 ho1 (.refl _) fl.1 fl.2.1 fl.2.2))))
end
end Xt
set_option maxHeartbeats 2000000
namespace Xt
open PySem PySem.Spec PyProof.Rows Sem L2 Ht
end Xt
set_option maxHeartbeats 2000000
namespace Xt
open PySem PySem.Spec PyProof.Rows Sem L2 Ht
end Xt
set_option maxHeartbeats 2000000
namespace Xt
open PySem PySem.Spec PyProof.Rows Sem L2 Ht
end Xt
set_option maxHeartbeats 2000000
namespace Xt
open PySem PySem.Spec PyProof.Rows Sem L2 Ht
end Xt
namespace L2
open PySem PySem.Spec PyProof.Rows Sem Ht Xt
end L2
namespace Mi
open PySem L2 Ht Xt
end Mi
namespace Mi
open PySem L2
end Mi
namespace Kst
open PySem L2 Mi
noncomputable def C2:D:=.int 9
noncomputable def CG(iQ:List D->M D)(iL:List D->M D)(ic:List D->M D):Sl->M (Fl×Sl):=
  (AT (A2 (mOp Aa (AD 0) (mC (.int 0))) (AR 2))
  (AT (sIf (AW (mOp A8 (AD 2) (mC (.str "num")))) (A1 (mOp Aa (AD 0) (mC (.int 1)))) BC)
  (AT (sIf (AW (mOp A8 (AD 2) (mC (.str "var")))) (A1 (mOp NE (AD 1) (mOp Aa (AD 0) (mC (.int 1))))) BC)
  (AT (A2 (AF iQ (AC (mOp Aa (AD 0) (mC (.int 1))) (AC (AD 1) AI))) (AR 3))
  (AT (sIf (AW (mOp A8 (AD 2) (mC (.str "not")))) (A1 (AF iL (AC (mOp A8 (AD 3) (mC (.int 0))) AI))) BC)
  (A1 (AF ic (AC (AD 2) (AC (AD 3) (AC (AF iQ (AC (mOp Aa (AD 0) (mC (.int 2))) (AC (AD 1) AI))) AI))))))))))
noncomputable def B1(iL:List D->M D):Sl->M (Fl×Sl):=
  (AT (sIf (AW (mOp A8 (AD 0) (mC (.str "+")))) (A1 (AF Wk (AC (mOp Av (AD 1) (AD 2)) (AC (mC C2) AI)))) BC)
  (AT (sIf (AW (mOp A8 (AD 0) (mC (.str "-")))) (A1 (AF Qp (AC (mOp FT (AD 1) (AD 2)) (AC (mC (.int 0)) AI)))) BC)
  (AT (sIf (AW (mOp A8 (AD 0) (mC (.str "=")))) (A1 (AF iL (AC (mOp A8 (AD 1) (AD 2)) AI))) BC)
  (AT (sIf (AW (mOp A8 (AD 0) (mC (.str "<")))) (A1 (AF iL (AC (mOp GR (AD 1) (AD 2)) AI))) BC)
  (AT (sIf (AW (mOp A8 (AD 0) (mC (.str "and")))) (A1 (AF iL (AC (ES (mOp B4 (AD 1) (mC (.int 0))) (mOp B4 (AD 2) (mC (.int 0)))) AI))) BC)
  (A1 (AF iL (AC (MF (mOp B4 (AD 1) (mC (.int 0))) (mOp B4 (AD 2) (mC (.int 0)))) AI))))))))
noncomputable def DU  : Sl->M (Fl×Sl):=
  (A1 (mIf (AW (AD 0)) (mC (.int 1)) (mC (.int 0))))
noncomputable def CK:List D->M D:=Cj .all 1 1 (DU)
noncomputable def BW:List D->M D:=Cj .all 3 3 (B1 CK)
noncomputable def f_number_of:Nat->List D->M D
 |0=>λ_=>BM
 |n+1=>Cj .all 4 2 (CG (f_number_of n) CK BW)
end Kst
namespace Mi
open PySem L2
section
variable{X:Cx}{e st o f:Expr}{es:List Expr}{pos p2 apos cpos:Pos}
noncomputable def Vw(d k:D):M D:=match k with
 | .int i=>if i=-1 then bnd (Co d) λds=>A4 ds.reverse else BM
 |_=>BM
theorem YW(he:RE X e m)(hst:RE X st ms):RE X (.Subscript e (.Slice none none (some st) p2) pos) (mOp Vw m ms):=RE.wk (bd he.pe hst.pe) λO H Q h=>by
 obtain⟨Y,Z,B,d,Z',R,S,ev,q⟩:=h;obtain⟨x,w9,e1,e2⟩:=AJ ev;obtain⟨y,x6,e3,e4⟩:=AJ e2;refine⟨Y,Z,B,x,w9,R,S,e1,λx9 H1 E1 R1 v1 i1=>⟨x9,w9,B,y,x6,R1,S.ext E1,e3,λu9 H2 E2 R2 v2 i2=>?_⟩⟩;unfold Vw at e4;split at e4
 ·rename_i i;split at e4
  ·rename_i hi;subst hi;obtain⟨ds,v7,e5,e6⟩:=AJ e4;obtain⟨hm,a,vs,rfl,h1,h2⟩:=DV R2 (i1.ext E2) e5;subst hm;exact⟨CP i2,a,vs,rfl,h1,(Iq R2 h2.reverse e6 λv8 H3 E3 R3=>q v8 H3 ((E1.trans E2).trans E3) R3).2⟩
  ·cases e4
 ·cases e4
noncomputable def XL(d y z:D):M D:=bnd (C8 d) λr=>λZ=>(Iv y).map λk=>((Dy r.2 k).getD z,Z)
noncomputable def Lb(mo mi mz:Sl->M D):Sl->M D:=λB=>bnd (mo B) λx=>bnd (G0 x) λ_=>bnd (mi B) λy=>bnd (mz B) λz=>XL x y z
theorem V1(hr:Room k X.A)(ho:RE X o mo)(hi:RE X e mi)(hz:RE X f mz)(m:M2 X o "get" apos e f cpos:=by exact⟨rfl,rfl,rfl,rfl⟩):RE X (.Call (.Attribute o "get" apos) [e,f] [] cpos) (Lb mo mi mz):=RE.wk (WT (Pc hr) ho.pe hi.pe hz.pe m) λO H Q h=>by
 obtain⟨Y,Z,B,d,Z',R,S,ev,q⟩:=h;obtain⟨x,w9,e1,ee1⟩:=AJ ev;obtain⟨u,x6,e2,ee2⟩:=AJ ee1;obtain⟨y,v7,e3,ee3⟩:=AJ ee2;obtain⟨z,v9,e4,ee4⟩:=AJ ee3;obtain⟨r,m3,e5,ee5⟩:=AJ ee4;obtain⟨hm,r0,hr0⟩:=JY e2;subst hm;refine⟨Y,Z,B,x,_,R,S,e1,λx9 H1 E1 R1 v1 i1=>?_⟩;obtain⟨_,_,_,rfl,kvs0,g0,_⟩:=CN R1 i1 hr0;refine⟨_,rfl,.inl ⟨kvs0,.inl g0⟩,x9,_,B,y,v7,R1,S.ext E1,e3,λu9 H2 E2 R2 v2 i2=>⟨u9,v7,B,z,v9,R2,S.ext (E1.trans E2),e4,λv8 H3 E3 R3 v3 i3=>?_⟩⟩;have E23:=E2.trans E3;obtain⟨hm,_,g1,ev2,kvs,g2,g3⟩:=CN R3 (i1.ext E23) e5;subst hm;cases hk:Iv y with
 |none=>rw[hk] at ee5;cases ee5
 |some ky=>
  rw[hk] at ee5;cases ee5;cases HQ (i2.ext E3) hk;have ea:x9 r0.1=v8 r.1:=V.ref.inj ev2;rw[ea];rcases g3.val ky with ⟨z1,z2⟩|⟨dd,vv,z1,z2,z3⟩
  ·exact⟨none,by rw[←z2];exact DGet.k g2,by rw[z1] at q;exact q v8 H3 (E1.trans E23) R3 _ i3⟩
  ·exact⟨some vv,by rw[←z2];exact DGet.k g2,by rw[z1] at q;exact q v8 H3 (E1.trans E23) R3 _ z3⟩
theorem II:∀{more:List (Key×D)} {rs:List (Key×V)} {l:List (Key×D)} {r:List (Key×V)},KVs K Y k H more rs->KVs K Y k H l r->KVs K Y k H (E8 l more) (Ea r rs)
 |[],_,_,_,h,hl=>by cases h;exact hl
 |(y,d)::more,_,l,r,h,hl=>by
  obtain⟨v,rs',rfl,h1,h2⟩:=h;exact II (l:=LN l y d) (r:=FM r y v) h2 (KVs.put hl h1)
noncomputable def Ln:D->List D->M D
 | .ref n,[.ref j]=>λZ=>match Z[n]?,Z[j]? with
  |some (.dK l),some (.dK k)=>if n≠j/\l.length+k.length<=1000 then some (.non,Z.set n (.dK (E8 l k))) else none
  |_,_=>none
 |_,_=>BM
theorem Wm:MtR X "dict.update" (rMM X.kw Ln):=λw6 s O H x xs v us Q I rx rs h=>by
 obtain⟨Y,Z,a,as,d,Z',R,ia,ib,e,q⟩:=h;unfold Ln at e;split at e
 ·rename_i n j;split at e
  ·rename_i l k hn hj;split at e
   ·rename_i hc;cases e;obtain⟨w,rfl,iw⟩:=ET ib;unfold Is at ia iw;obtain⟨l1,rfl⟩:=ia;obtain⟨l2,rfl⟩:=iw;cases rx;obtain⟨u,rfl,ru⟩:=DX rs;cases ru;obtain⟨o1,g1,r1,rfl,k1⟩:=R.obj n _ hn;obtain⟨o2,g2,r2,rfl,k2⟩:=R.obj j _ hj;obtain⟨_,s1,va,ra,da⟩:=S7 I.hok g1;obtain⟨_,s2,vb,rb,db⟩:=S7 I.hok g2;have hne:Y n≠Y j:=λz=>hc.1 (R.inj n j l1 l2 z);have z1:va.length=l.length:=by rw[←ra.length,k1.length]
    have z2:vb.length=k.length:=by rw[←rb.length,k2.length]
    refine call_meetsIn PySem.F.slot_dict_update da.typeIs PySem.F.entry_dict_update (PySem.F.args_dict_update_2 _ _) (meets_dict_update (BK X.prog X.w) _ _ hne s2) ⟨va,vb,da,db,by rw[sizeLine_eq];omega,λh' d1 d2 sb=>?_⟩;have hm:=ED r2 r1;obtain⟨E1,R1⟩:=R.changed (m:=.dK (E8 l k)) (o:=.dK (Ea r1 r2)) l1 ⟨_,rfl,II k2 k1⟩;obtain⟨ob,_,_,eo,_⟩:=id d1;exact⟨.non,_,KY (t':=s.toks) I (by rw[g1];trivial) sb ⟨ob,eo⟩ (Lp (by rw[sizeLine_eq];have:=k1.length;have:=k2.length;omega) s1 (KV.merge rb ra) d1),rfl,q Y _ E1 R1 _ ofN⟩
   ·cases e
  ·cases e
 ·cases e
noncomputable def IH(g:D->List D->M D)(mo:Sl->M D)(ma:Sl->M (List D)):Sl->M D:=λB=>bnd (mo B) λx=>bnd (G0 x) λ_=>bnd (ma B) λxs=>g x xs
theorem O7{name:Str}{id:String}(slot:Slot "dict" name id)(hty:typeOf (.builtin id)=pure (.type "method_descriptor"))(hm:MtR X id (rMM X.kw g))(ho:RE X o mo)(ha:RA X (e::es) ma)
  (hbase:attributeBase o name X.env (eval o X.env)=eval o X.env:=by rfl)
  (hfew:((backTo cpos (starEach (e::es) X.env)).all (λx=>!x.1)&&(backToKw cpos (keywordEach [] X.env)).all (λx=>x.1.isSome)
   && decide ((e::es).length+([]:List Keyword).length+(if ([]:List Keyword).isEmpty then 0 else 1)<30))=true:=by rfl)
  (hline:(apos.endLine==cpos.line)=true:=by rfl) (hs:starEach (e::es) X.env=(false,eval e X.env)::starEach es X.env:=by exact BG rfl) (hplain:(backTo cpos (starEach es X.env)).any (·.1)=false:=by exact Bb rfl) :
  RE X (.Call (.Attribute o name apos) (e::es) [] cpos) (IH g mo ma):=RE.wk (WY PySem.F.plainAttrs_dict slot hty hm ho.pe ha.pe hbase hfew hline hs hplain) λO H Q h=>by
 obtain⟨Y,Z,B,d,Z',R,S,ev,q⟩:=h;obtain⟨x,w9,e1,ee1⟩:=AJ ev;obtain⟨u,x6,e2,ee2⟩:=AJ ee1;obtain⟨as,v7,e3,ee3⟩:=AJ ee2;obtain⟨hm,r0,hr0⟩:=JY e2;subst hm;refine⟨Y,Z,B,x,_,R,S,e1,λx9 H1 E1 R1 v1 i1=>?_⟩;obtain⟨_,_,_,ev1,kvs0,g0,_⟩:=CN R1 i1 hr0;refine⟨by rw[ev1];exact .inr (.inr (.inl ⟨rfl,.inl ⟨kvs0,g0⟩⟩)),x9,_,B,as,v7,R1,S.ext E1,e3,λu9 H2 E2 R2 vs i2=>?_⟩;exact⟨u9,v7,x,as,d,Z',R2,i1.ext E2,i2,ee3,λv8 H3 E3 R3=>q v8 H3 ((E1.trans E2).trans E3) R3⟩
end
noncomputable def We:D->Option (Key×D)
 | .tup [c,d]=>(Iv c).map λy=>(y,d)
 |_=>none
noncomputable def Nt:List D->Option (List (Key×D))
 |[]=>some []
 |d::ds=>match We d,Nt ds with
  |some p,some r=>some (p::r)
  |_,_=>none
noncomputable def UL:List D->M D
 |[.lst xs]=>λZ=>match Nt xs with
  |some l=>if l.length<=1000 then some (.ref Z.length,Z++[.dK (E8 [] l)]) else none
  |none=>none
 |_=>BM
section
variable{X:Cx}
theorem Wd(i:Is K Y k H d v)(e:We d=some p):∃t x,v=.ref t/\SqT K H t [kV p.1,x]/\Is K Y k H p.2 x:=by
 unfold We at e;split at e
 ·rename_i c d';obtain⟨y,hy,rfl⟩:=Option.map_eq_some_iff.mp e;unfold Is at i;obtain⟨t,vs,rfl,h1,h2⟩:=i;obtain⟨v1,v2,rfl,j1,j2⟩:=OA h2;exact⟨t,v2,rfl,HQ j1 hy ▸ h1,j2⟩
 ·cases e
theorem Mm:∀{ds:List D} {vs:List V} {l:List (Key×D)},IsL K Y k H ds vs->Nt ds=some l->
  ∃(ts:List Addr) (r:List (Key×V)),vs=ts.map V.ref/\ts.length=r.length/\KVs K Y k H l r/\r.length=l.length/\∀(i:Nat) (t:Addr) (kv:Key×V),ts[i]?=some t->r[i]?=some kv->SqT K H t [kV kv.1,kv.2]
 |[],_,_,i,e=>by cases e;unfold IsL at i;subst i;exact⟨[],[],rfl,rfl,rfl,rfl,λi t kv e=>by simp at e⟩
 |d::ds,_,_,i,e=>by
  unfold IsL at i;obtain⟨v,vs',rfl,i1,i2⟩:=i;unfold Nt at e;split at e
  ·rename_i p l' h1 h2;cases e;obtain⟨ts,r,rfl,g1,g2,g3,g4⟩:=Mm i2 h2;obtain⟨t,x,rfl,j1,j2⟩:=Wd i1 h1;refine⟨t::ts,(p.1,x)::r,rfl,congrArg (·+1) g1,⟨x,r,rfl,j2,g2⟩,congrArg (·+1) g3,λi t' kv e1 e2=>?_⟩;cases i with
   |zero=>cases e1;cases e2;exact j1
   |succ i=>exact g4 i t' kv e1 e2
  ·cases e
theorem Pw(hc:X.calm=true:=by rfl):CS X (.type "dict") (rMA X.kw UL):=λw6 s O H xs us Q I r h=>by
 obtain⟨Y,Z,as,d,Z',R,ia,e,q⟩:=h;unfold UL at e;split at e
 ·rename_i ds;split at e
  ·rename_i l hl;split at e
   ·rename_i hz;cases e;obtain⟨v,rfl,i1⟩:=ET ia;unfold Is at i1;obtain⟨a,vs,rfl,g1,_,g2⟩:=i1;obtain⟨ts,rs,rfl,k1,k2,k3,k4⟩:=Mm g2 hl;refine Q6 hc w6 s O H _ us Q I r ⟨a,ts,rs,rfl,g1,k1,by omega,k4,λp hp=>?_⟩;obtain⟨Y',E1,R1,e0⟩:=R.grown (m:=.dK (E8 [] l)) (o:=.dK (Ea [] rs)) hp ⟨_,rfl,II k2 (show KVs _ _ _ _ [] [] from rfl)⟩;exact q Y' _ E1 R1 _ (by unfold Is;exact⟨by simp,by rw[e0]⟩)
   ·cases e
  ·cases e
 ·cases e
end
noncomputable def Cz(x6:Mh)(k:Nat):Nat->D->D
 |0,d=>d
 |n+1,.ref j=>match Nat.ble k j with
  |true=>match x6[j]? with
   |some (.lst ds)=>.lst (ds.map (Cz x6 k n))
   |_=>.ref j
  |false=>.ref j
 |n+1,.tup ds=>.tup (ds.map (Cz x6 k n))
 |n+1,.lst ds=>.lst (ds.map (Cz x6 k n))
 |_+1,d=>d
theorem KP(h:∀d v,Is K Y k H d v->Cl k' (f d)->Is K Y k' H (f d) v):∀{ds:List D} {vs:List V},IsL K Y k H ds vs->ClL k' (ds.map f)->IsL K Y k' H (ds.map f) vs
 |[],_,i,_=>by unfold IsL at i;subst i;unfold List.map IsL;rfl
 |d::ds,_,i,c=>by
  unfold IsL at i;obtain⟨v,vs',rfl,i1,i2⟩:=i;rw[AAW] at c ⊢;unfold ClL at c;unfold IsL;exact⟨v,vs',rfl,h d v i1 c.1,KP h i2 c.2⟩
theorem OG(hk:k<=x6.length)(R:RelH K Y x6 H):∀(n:Nat) (d:D) (v:V),Is K Y x6.length H d v->Cl k (Cz x6 k n d)->Is K Y k H (Cz x6 k n d) v
 |0,d,v,i,c=>i.down hk c
 |n+1,.tup ds,v,i,c=>by
  unfold Cz at c ⊢;unfold Is at i ⊢;unfold Cl at c;obtain⟨p,vs,e,q,il⟩:=i;exact⟨p,vs,e,q,KP (OG hk R n) il c⟩
 |n+1,.lst ds,v,i,c=>by
  unfold Cz at c ⊢;unfold Is at i ⊢;unfold Cl at c;obtain⟨p,vs,e,q,nf,il⟩:=i;exact⟨p,vs,e,q,λm hm=>nf m (AAM hm hk),KP (OG hk R n) il c⟩
 |n+1,.ref j,v,i,c=>by
  unfold Cz at c ⊢;split
  ·rename_i hj;rw[hj] at c;have hj:=Nat.le_of_ble_eq_true hj;dsimp only at c;split
   ·rename_i ds e;rw[e] at c;obtain⟨u,q,vs,rfl,il⟩:=R.obj j _ e;have hn2:j<x6.length:=(AAT.mp e).1;unfold Is at i ⊢;dsimp only at c;unfold Cl at c;refine⟨Y j,vs,i.2,q,λm hm z=>?_,KP (OG hk R n) il c⟩;have:=R.inj m j (AAM hm hk) hn2 z;omega
   ·rename_i hne;have c:Cl k (.ref j):=by
     revert c
     split
     ·rename_i ds e;exact absurd e (hne ds)
     ·exact id
    exact i.down hk c
  ·rename_i hj;rw[hj] at c;exact i.down hk c
 |n+1,.non,v,i,c=>by unfold Cz at c ⊢;exact i.down hk c
 |n+1,.bl _,v,i,c=>by unfold Cz at c ⊢;exact i.down hk c
 |n+1,.int _,v,i,c=>by unfold Cz at c ⊢;exact i.down hk c
 |n+1,.str _,v,i,c=>by unfold Cz at c ⊢;exact i.down hk c
 |n+1,.ty _,v,i,c=>by unfold Cz at c ⊢;exact i.down hk c
 |n+1,.scr _,v,i,c=>by unfold Cz at c ⊢;exact i.down hk c
open Classical in
noncomputable def Lv(n ps:Nat)(mb:Sl->M (Fl×Sl)):List D->M D:=λds Z=>match mb (BI n ds) Z with
 |some ((fl,_),x6)=>if ds.length=ps/\(fl=.next∨∃d,fl=.rt d)/\FZ Z x6 (x6.take Z.length) .non .non/\Cl Z.length (Cz x6 Z.length 8 (FL fl)) then some (Cz x6 Z.length 8 (FL fl),x6.take Z.length) else none
 |none=>none
theorem Lu(h:Lv n ps mb ds Z=some (d,Z')):
  ds.length=ps/\∃fl x8 x6,mb (BI n ds) Z=some ((fl,x8),x6)/\(fl=.next∨∃d,fl=.rt d)/\Z'.length=Z.length/\FZ Z x6 Z' .non .non/\d=Cz x6 Z'.length 8 (FL fl)/\Cl Z'.length d:=by
 unfold Lv at h;split at h
 ·rename_i fl x8 x6 e;split at h
  ·rename_i c;cases h;have hl:(x6.take Z.length).length=Z.length:=by
    have:=c.2.2.1.le;have h2:=List.length_take_le Z.length x6;omega
   exact⟨c.1,fl,x8,x6,e,c.2.1,hl,c.2.2.1,by rw[hl],by rw[hl];exact c.2.2.2⟩
  ·cases h
 ·cases h
theorem XV(e:mb (BI n ds) Z=some ((.rt d,x8),w9++g))(hl:ds.length=ps)(t:FZ Z (w9++g) w9 .non .non)(hm:w9.length=Z.length)(c:Cl Z.length (Cz (w9++g) Z.length 8 d)):
  Lv n ps mb ds Z=some (Cz (w9++g) Z.length 8 d,w9):=by
 have ht:(w9++g).take Z.length=w9:=by rw[←hm,List.take_left]
 unfold Lv;rw[e];dsimp only;rw[if_pos ⟨hl,.inr ⟨d,rfl⟩,by rw[ht];exact t,c⟩,ht];rfl
section
variable{P:Program}{w:World}{K:PySem.W.Frag}{mg:Str->Option Value}{base:Heap}
theorem W8(F:Fun K x qual st f fd)(S:Ak N ps (AQ st))(hm:mg x=some (.ref f))(hb:Binds K fd ps [])
  (body:∀(cdv:Value) (A:Around) (outer:List Env) (s:Shared) (H:Hp) (E:XK),Room k (A.deeper (PyProof.Rows.envOfC qual (AQ st) s.heap.objs.size f cdv))->RSs (IM CX0 P w K mg base N qual (AQ st) f cdv A outer s H E).nox (CL st) mb) :
  Fn P w K mg base x ps (k+1) (Lv N.length ps.length mb):=by
 refine⟨λds Z r h=>(Lu (d:=r.1) (Z':=r.2) h).1,f,fd,?_,hm,F.kp,hb⟩;refine F.ok S (λvs H Q E h=>h.1) (λcdv A outer s H vs Q E hr h=>⟨_,(body cdv A outer s H E hr).pe,?_⟩);obtain⟨hl,Y,Z,ds,d,Z',R,i,e,q⟩:=h;obtain⟨_,fl,x8,x6,e2,hfl,hlen,t,ed,c⟩:=Lu e;refine⟨Y,Z,_,fl,x8,x6,R,RelS.start i,e2,λu9 H2 E2 R2 j3 S2=>?_⟩;obtain⟨E3,R3,_⟩:=Kv R E2 R2 t;have hle:Z'.length<=x6.length:=by
  obtain⟨⟨g,hg⟩,_⟩:=t;rw[hg];simp
 have cv:∀v,Is ⟨K,w⟩ u9 x6.length H2 (FL fl) v->Is ⟨K,w⟩ u9 Z'.length H2 d v:=λv iv=>by
  rw[ed] at c ⊢;exact OG hle R2 8 _ v iv c
 rcases hfl with rfl|⟨d0,rfl⟩
 ·exact q u9 H2 E3 R3 _ (cv _ (by unfold FL Is;rfl))
 ·exact λv iv=>q u9 H2 E3 R3 v (cv v iv)
end
end Mi
namespace K8
open PySem L2 Mi K1 K5
open Kst (CG B1 DU f_number_of BW CK)
noncomputable def Sb(OR:List D->M D):Sl->M (Fl×Sl):=
  (AT (A2 (AF EQ AI) (AR 2))
  (AT (A2 (AF EQ (AC (mC (.int 1)) AI)) (AR 3))
  (AT (Vg c9 (AW (mOp B4 (AD 3) (AF A4 AI))) (AT (A2 (CI H9 (AD 3)) (AR 4))
  (AT (A2 (AF OR (AC (AD 0) (AC (mC (.int 9)) AI))) (AR 5))
  (sIf (mOr (AW (mOp Hz (AD 4) (mC (.int 4)))) (mOr (AW (mOp GR (AD 5) (mC (.int 2)))) (AW (mOp Hz (AF Bk (AC (AD 2) AI)) (mC (.int 12)))))) (Ag (A3 C9 (AD 2) (AC (mOp Aa (mOp Av (AF A4 (AC (mC (.str "0")) (AC (mC (.str "1")) (AC (mC (.str "2")) (AC (mC (.str "5")) (AC (mC (.str "9")) AI)))))) (AD 1)) (AF OR (AC (AD 0) (AC (mOp Av (mC (.int 5)) (AF Bk (AC (AD 1) AI))) AI)))) AI))) (sIf (AW (mOp A8 (AD 5) (mC (.int 2)))) (AT (Ag (A3 C9 (AD 2) (AC (mC (.str "not")) AI)))
  (Ag (A3 C9 (AD 3) (AC (mOp Av (AD 4) (mC (.int 1))) AI)))) (AT (Ag (A3 C9 (AD 2) (AC (mOp Aa (AF A4 (AC (mC (.str "+")) (AC (mC (.str "-")) (AC (mC (.str "=")) (AC (mC (.str "<")) (AC (mC (.str "and")) (AC (mC (.str "or")) AI))))))) (mOp FT (AD 5) (mC (.int 3)))) AI)))
  (A2 (mOp No (AD 3) (AF A4 (AC (mOp Av (AD 4) (mC (.int 1))) (AC (mOp Av (AD 4) (mC (.int 1))) AI)))) (AR 3))))))))
  (A1 (AD 2)))))
noncomputable def Mt  : Sl->M (Fl×Sl):=
  (AT (A2 (AF EQ AI) (AR 2))
  (AT (D3 (C7 (mOp Vw (AD 0) (mUn LK (mC (.int 1))))) (AR 3) (sIf (AW (mOp A8 (AD 3) (mC (.str "not")))) (Ag (A3 C9 (AD 2) (AC (AF DC (AC (mOp A8 (CI H9 (AD 2)) (mC (.int 0))) AI)) AI))) (sIf (AW (mOp (C4 false) (AD 3) (AF DL (AC (mC (.str "+")) (AC (mC (.str "-")) (AC (mC (.str "=")) (AC (mC (.str "<")) (AC (mC (.str "and")) (AC (mC (.str "or")) AI))))))))) (AT (A2 (CI H9 (AD 2)) (AR 4))
  (AT (A2 (CI H9 (AD 2)) (AR 5))
  (AT (A2 (Gu [.inr "+",.inr "-",.inr "="] (AC (AF Wk (AC (mC (.int 9)) (AC (mOp Av (AD 4) (AD 5)) AI))) (AC (AF Qp (AC (mC (.int 0)) (AC (mOp FT (AD 4) (AD 5)) AI))) (AC (AF DC (AC (mOp A8 (AD 4) (AD 5)) AI)) AI)))) (AR 6))
  (AT (Ag (IH Ln (AD 6) (AC (Gu [.inr "<",.inr "and",.inr "or"] (AC (AF DC (AC (mOp GR (AD 4) (AD 5)) AI)) (AC (AF DC (AC (mOp Hz (mOp Fi (AD 4) (AD 5)) (mC (.int 0))) AI)) (AC (AF DC (AC (mOp Hz (mOp Av (AD 4) (AD 5)) (mC (.int 0))) AI)) AI)))) AI)))
  (Ag (A3 C9 (AD 2) (AC (mOp NE (AD 6) (AD 3)) AI))))))) (Ag (A3 C9 (AD 2) (AC (Lb (AD 1) (AD 3) (mUn LK (mC (.int 1)))) AI))))))
  (A1 (mOp Aa (AD 2) (mC (.int 0))))))
noncomputable def Wn(OR:List D->M D)(jG:List D->M D):Sl->M (Fl×Sl):=
  (AT (A2 (AF OR (AC (AD 0) (AC (mC (.int 7)) AI))) (AR 6))
  (AT (A2 (AF jG (AC (AD 0) (AC (mOp Av (AD 3) (mOp Fi (AF A4 (AC (mC (.str "v")) AI)) (AF DC (AC (AD 5) AI)))) AI))) (AR 7))
  (AT (sIf (N5 (AW (mOp A8 (AD 6) (mC (.int 0)))) (AW (mOp B4 (AD 1) (AF A4 AI)))) (A1 (mOp Av (AF A4 (AC (mC (.str "put")) (AC (mOp Aa (AD 1) (AF OR (AC (AD 0) (AC (AF Bk (AC (AD 1) AI)) AI)))) AI))) (AD 7))) BC)
  (AT (sIf (N5 (AW (mOp GR (AD 6) (mC (.int 3)))) (AW (mOp B4 (AD 2) (AF A4 AI)))) (A1 (AF A4 (AC (mC (.str "get")) (AC (mOp Aa (AD 3) (AF OR (AC (AD 0) (AC (AF Bk (AC (AD 3) AI)) AI)))) (AC (mOp Aa (AD 2) (AF OR (AC (AD 0) (AC (AF Bk (AC (AD 2) AI)) AI)))) AI))))) BC)
  (AT (sIf (AW (mOp A8 (AD 6) (mC (.int 3)))) (A1 (mOp Av (AF A4 (AC (mC (.str "unless")) (AC (AF DA (AC (AF OR (AC (AD 0) (AC (mOp Av (AD 4) (mC (.int 1))) AI))) AI)) AI))) (AD 7))) BC)
  (AT (sIf (AW (mOp A8 (AD 6) (mC (.int 4)))) (A1 (AF A4 (AC (mC (.str "jump")) (AC (AF DA (AC (AF OR (AC (AD 0) (AC (mOp Av (AD 4) (mC (.int 1))) AI))) AI)) AI)))) BC)
  (AT (sIf (AW (mOp A8 (AD 6) (mC (.int 5)))) (A1 (mOp Aa (AF A4 (AC (mOp Av (AF A4 (AC (mC (.str "tell")) AI)) (AD 7)) (AC (AF A4 (AC (mC (.str "done")) AI)) AI))) (AF DC (AC (AD 5) AI)))) BC)
  (A1 (mOp Av (AF A4 (AC (mC (.str "let")) (AC (mOp Aa (AD 3) (AF OR (AC (AD 0) (AC (AF Bk (AC (AD 3) AI)) AI)))) AI))) (AD 7))))))))))
noncomputable def SZ(OR:List D->M D)(jH:List D->M D):Sl->M (Fl×Sl):=
  (AT (A2 (BU 1 [0] (C7 (Fm (AF A4 (AC (mC (.str "w")) (AC (mC (.str "rr")) (AC (mC (.str "get")) (AC (mC (.str "jump")) AI))))) B5 (CY (mOp Av (mC (.int 2)) (AF OR (AC (AD 0) (AC (mC (.int 3)) AI))))))) (AR 0) Ba (AF A4 (AC (mC (.str "hand")) (AC (AD 0) (AC (AF DA (AC (AF OR (AC (AD 1) (AC (mC (.int 401)) AI))) AI)) AI)))) A4) (AR 1))
  (AT (A2 (AF EQ AI) (AR 2))
  (AT (D3 (C7 (Fm (AF A4 (AC (mC (.str "b")) (AC (mC (.str "bb")) (AC (mC (.str "put")) (AC (mC (.str "steady")) (AC (mC (.str "tell")) (AC (mC (.str "hand")) AI))))))) B5 (CY (AF OR (AC (AD 0) (AC (mC (.int 7)) AI)))))) (AR 3) (AT (A2 (mOp Av (mC (.int 2)) (AF OR (AC (AD 0) (AC (mC (.int 9)) AI)))) (AR 4))
  (AT (A2 (AF A4 (AC (mC (.str "box")) (AC (AD 3) (AC (mOp Aa (AF A4 (AC (mC (.str "safe")) (AC (mC (.str "steady")) (AC (mC (.str "whole")) AI)))) (AF OR (AC (AD 0) (AC (mC (.int 3)) AI)))) (AC (AF DA (AC (AD 4) AI)) (AC (AF DA (AC (AF OR (AC (AD 0) (AC (AD 4) AI))) AI)) AI)))))) (AR 5))
  (Ag (A3 C9 (AD 2) (AC (mOp Av (AD 5) (AF A4 (AC (mOp Aa (mOp Aa (AD 1) (AF OR (AC (AD 0) (AC (AF Bk (AC (AD 1) AI)) AI)))) (mC (.int 1))) AI))) AI))))))
  (AT (A2 (AF EQ AI) (AR 6))
  (AT (D3 (La (AC (AF Bk (AC (AD 1) AI)) AI)) (AR 7) (AT (A2 (BU 1 [1,7] (LZ (AD 2)) (AR 0) (AW (mOp A8 (mOp Aa (AD 0) (mC (.int 5))) (mOp Aa (mOp Aa (AD 1) (AD 2)) (mC (.int 1))))) (mOp Aa (AD 0) (mC (.int 1))) A4) (AR 8))
  (AT (A2 (AF OR (AC (AD 0) (AC (mC (.int 13)) AI))) (AR 9))
  (AT (A2 (Fm (AF A4 (AC (mC (.str "x")) (AC (mC (.str "num")) (AC (mC (.str "var")) (AC (mC (.str "done")) AI))))) B5 (CY (mOp Av (mC (.int 1)) (AF OR (AC (AD 0) (AC (mC (.int 4)) AI)))))) (AR 10))
  (AT (A2 (BU 1 [2,7,9,10,8,0] (La (AC (AD 9) AI)) (AR 0) Ba (AF jH (AC (AD 6) (AC (AD 5) (AC (BU 1 [] (LZ (AD 1)) (AR 0) Ba (mOp Aa (AD 0) (mC (.int 1))) A4) (AC (AD 4) (AC (AD 3) (AC (mOp A8 (AD 2) (mC (.int 0))) AI))))))) A4) (AR 11))
  (Ag (A3 C9 (AD 6) (AC (AD 11) AI))))))))
  (AT (A2 (mOp Av (mC (.int 2)) (AF OR (AC (AD 0) (AC (mC (.int 9)) AI)))) (AR 4))
  (AT (A2 (AF A4 (AC (mC (.str "makes")) (AC (mOp Aa (AF A4 (AC (mC (.str "safe")) (AC (mC (.str "steady")) (AC (mC (.str "whole")) AI)))) (AF OR (AC (AD 0) (AC (mC (.int 3)) AI)))) (AC (AF DA (AC (AD 4) AI)) (AC (AF DA (AC (AF OR (AC (AD 0) (AC (AD 4) AI))) AI)) AI))))) (AR 12))
  (A1 (AF DL (AC (AD 12) (AC (AD 2) (AC (AD 1) (AC (AD 6) AI)))))))))))))
noncomputable def Sa  : Sl->M (Fl×Sl):=
  (AT (A2 (AD 0) (DE [1,2,3,4]))
  (AT (A2 (mOp Av (AF A4 (AC (AD 1) AI)) (AD 2)) (AR 5))
  (AT (D3 (Gr Ec (AC (AD 3) (AC (AD 4) AI))) (DE [6,7]) (A2 (mOp Av (mOp Av (AD 5) (AF A4 (AC (AD 6) AI))) (AD 7)) (AR 5)))
  (A1 (Gs F8 (mC (.str "\n")) (AC (BU 1 [] (C7 (AD 5)) (AR 0) Ba (Gs F8 (mC (.str " ")) (AC (AD 0) AI)) A4) AI))))))
noncomputable def By(OR:List D->M D)(iQ:List D->M D)(jC:List D->M D):Sl->M (Fl×Sl):=
  (AT (sIf (AW (mOp B4 (mOp Aa (AD 0) (mC (.int 0))) (mOp Aa (AD 1) (mC (.int 0))))) (A1 (mC (.bl false))) BC)
  (AT (sIf (AW (mOp (C4 false) (mOp Aa (AD 1) (mC (.int 0))) (AF DL (AC (mC (.str "get")) (AC (mC (.str "jump")) (AC (mC (.str "done")) AI)))))) (A1 (mOp A8 (BU 1 [] (C7 (AD 0)) (AR 0) Ba (AF DA (AC (AD 0) AI)) A4) (AD 1))) BC)
  (AT (A2 (mOp Aa (AD 0) (mC (.int 1))) (AR 3))
  (AT (A2 (Fm (AD 1) (CY (mC (.int 1))) B5) (AR 4))
  (AT (sIf (AW (mOp B4 (mOp Aa (AD 1) (mC (.int 0))) (mC (.str "tell")))) (AT (A2 (Fm (AD 1) (CY (mC (.int 2))) B5) (AR 4))
  (AT (A2 (mOp Aa (AD 0) (mOp Aa (AF A4 (AC (mC (.int 2)) (AC (mC (.int 1)) AI))) (AF DC (AC (mOp A8 (mOp Aa (AD 1) (mC (.int 0))) (mC (.str "unless"))) AI)))) (AR 3))
  (sIf (AW (mOp B4 (AF DA (AC (mOp Aa (AD 0) (mOp Aa (AF A4 (AC (mC (.int 1)) (AC (mC (.int 2)) AI))) (AF DC (AC (mOp A8 (mOp Aa (AD 1) (mC (.int 0))) (mC (.str "unless"))) AI)))) AI)) (mOp Aa (AD 1) (mC (.int 1))))) (A1 (mC (.bl false))) BC))) BC)
  (AT (A2 (AF UL (AC (BU 1 [2] (C7 (AF A4 (AC (mC (.str "x")) (AC (mC (.str "num")) (AC (mC (.str "var")) (AC (mC (.str "done")) (AC (mC (.str "v")) AI))))))) (AR 0) Ba (AF DL (AC (AD 0) (AC (AF OR (AC (AD 1) (AC (mC (.int 10)) AI))) AI))) A4) AI)) (AR 5))
  (AT (A2 (AF OL (AC (AD 5) AI)) (AR 6))
  (AT (Ag (IH Ln (AD 6) (AC (AF UL (AC (BU 1 [] (La (AC (mC (.int 10)) AI)) (AR 0) Ba (AF DL (AC (AF DA (AC (AD 0) AI)) (AC (AD 0) AI))) A4) AI)) AI)))
  (A1 (mOp A8 (AF iQ (AC (AD 3) (AC (AD 5) AI))) (AF jC (AC (AD 4) (AC (AD 6) AI)))))))))))))
noncomputable def Z9(i9:List D->M D)(jF:List D->M D)(jD:List D->M D)(jE:List D->M D)(iW:List D->M D)(iO:List D->M D)(ig:List D->M D)(ir:List D->M D):Sl->M (Fl×Sl):=
  (AT (D3 (C7 (mOp Av (AF A4 (AC (AF i9 (AC (AD 0) (AC (mC (.int 0)) AI))) AI)) (Fm (AD 0) (CY (mC (.int 1))) (CY (mC (.int 5)))))) (AR 1) (AT (A2 (AF jF (AC (AD 1) AI)) (AR 2))
  (AT (A2 (AF jD (AC (AD 2) AI)) (AR 3))
  (AT (A2 (AD 3) (DE [4,5,6,7]))
  (AT (A2 (AF jE (AC (AD 3) AI)) (AR 8))
  (AT (A2 (AF iW (AC (AD 8) AI)) (AR 9))
  (AT (sIf (mOr (AW (mOp (Fj true) (AF iO (AC (AD 9) AI)) (mC .non))) (mOr (AW (mOp B4 (AF ig (AC (AD 9) AI)) (AD 8))) (AW (mOp B4 (AF iW (AC (AD 8) AI)) (AD 9))))) (A1 (mC (.bl false))) BC)
  (AT (sIf (AW (mOp B4 (mOp Av (AF A4 (AC (mC (.str "makes")) AI)) (BU 1 [] (C7 (Fm (AD 9) B5 (CY (mC (.int 3))))) (AR 0) Ba (AF DA (AC (AD 0) AI)) A4)) (AD 4))) (A1 (mC (.bl false))) BC)
  (AT (sIf (AW (mOp B4 (BU 1 [] (C7 (mOp Aa (AD 9) (mC (.int 3)))) (AR 0) Ba (mOp Av (AF A4 (AC (mC (.str "box")) AI)) (BU 1 [] (C7 (AD 0)) (AR 0) Ba (AF DA (AC (AD 0) AI)) A4)) A4) (AD 5))) (A1 (mC (.bl false))) BC)
  (AT (sIf (AW (mOp B4 (BU 1 [] (C7 (mOp Aa (AD 9) (mC (.int 4)))) (AR 0) Ba (AF A4 (AC (mC (.str "hand")) (AC (mOp Aa (AD 0) (mC (.int 0))) (AC (AF DA (AC (mOp Aa (AD 0) (mC (.int 1))) AI)) AI)))) A4) (AD 6))) (A1 (mC (.bl false))) BC)
  (D3 (Gr Ec (AC (mOp Aa (AD 9) (mC (.int 4))) (AC (AD 7) AI))) (DE [10,11]) (AT (sIf (AW (mOp B4 (AF Bk (AC (mOp Aa (AD 10) (mC (.int 2))) AI)) (AF Bk (AC (AD 11) AI)))) (A1 (mC (.bl false))) BC)
  (D3 (Gr Ec (AC (mOp Aa (AD 10) (mC (.int 2))) (AC (AD 11) AI))) (DE [12,13]) (sIf (HY (AW (AF ir (AC (AD 12) (AC (AD 13) (AC (AD 2) AI)))))) (A1 (mC (.bl false))) BC))))))))))))))
  (A1 (mC (.bl true))))
end K8
namespace Mi
open PySem L2
section
variable{X:Cx}{K:KW}{scope:Scope}{tgs:List Str}{ix:List Nat}{elt tg iter:Expr}{pos:Pos}{bf:D->Sl->M Sl}{g:TG}{src:Sl->M (List D)}{mc:Sl->M Bool}{me:Sl->M D}{fin:List D->M D}{n:Nat}
structure Tg(n:Nat)(K:KW)(bf:D->Sl->M Sl)(g:TG):Prop where
 gk:GK n g
 gb:∀v O H Q,tG K bf v O H Q->g v O H Q
 mu:∀d B B' Z Z',bf d B Z=some (B',Z')->Z'=Z
theorem Bv{i:Nat}(h:i<n:=by decide):Tg n K (AR i) (Jy i):=⟨ZQ h,λ_ _ _ _ h=>Ng h,λd B B' Z Z' e=>by cases e;rfl⟩
theorem VS{is:List Nat}(h:∀i∈is,i<n:=by decide):Tg n K (DE is) (ZS K is.length (G1 is)):=⟨c8 h,λ_ _ _ _ h=>au h,Zm⟩
def J6(K:KW)(fin:List D->M D):Prop:=∀Y Z Z' H ds vs d (Q:VK),RelH K Y Z H->IsL K Y Z.length H ds vs->fin ds Z=some (d,Z')->(Aft K Y Z H Z' λY' H'=>∀v,Is K Y' Z'.length H' d v->Q v H')->
 vs.length<=sizeLine/\∀p,H p=none->Q (.ref p) (upd H p (.lst vs))
theorem Fb:J6 K A4:=λ_ _ _ _ _ _ _ _ R i e q=>Iq R i e q
def ItX(C:Mh->Mh->Prop)(K:KW)(J:It)(ds:List D)(Y:Nat->Addr)(Z:Mh)(H:Hp):Prop:=∀Y' (Z':Mh) H',C Z Z'->Ext Y Z.length H Y' Z'.length H'->RelH K Y' Z' H'->
 (∀i,i<ds.length->J.go i H')/\J.stop ds.length H'/\∀(i:Nat) x H2 d,ds[i]?=some d->J.yld i H' x H2->Ext Y' Z'.length H' Y' Z'.length H2/\RelH K Y' Z' H2/\Is K Y' Z'.length H2 d x
noncomputable def tIX(C:Mh->Mh->Prop)(K:KW)(m:Sl->M (List D)):TI:=λO H R=>∃Y Z B ds Z',RelH K Y Z H/\RelS K Y Z.length H B O/\m B Z=some (ds,Z') /\
 Aft K Y Z H Z' λY' H'=>∀J,ItX C K J ds Y' Z' H'->R J H'
theorem eY(h:RI X tg iter src):PI X tg iter (tIX (λ_ _=>True) X.kw src):=PI.wk h.pe λO H R q=>by
 obtain⟨Y,Z,B,ds,Z',R0,S,e,q⟩:=q;exact⟨Y,Z,B,ds,Z',R0,S,e,λx9 H1 E1 R1 J it=>q x9 H1 E1 R1 J λu9 x6 H2 _ E2 R2=>it u9 x6 H2 E2 R2⟩
theorem eX(h:RIP X tg iter src):PI X tg iter (tIX (λa b=>b=a) X.kw src):=PI.wk h.pe λO H R q=>by
 obtain⟨Y,Z,B,ds,Z',R0,S,e,q⟩:=q;exact⟨Y,Z,B,ds,Z',R0,S,e,λx9 H1 E1 R1 J it=>q x9 H1 E1 R1 J λu9 x6 H2 z E2 R2=>by subst z;exact it u9 H2 E2 R2⟩
theorem Zz{C:Mh->Mh->Prop}{O:St}{H:Hp}{Q:VK}(rf:∀a,C a a)(tr:∀a b c,C a b->C b c->C a c)(T:Tg tgs.length K bf g)(pc:∀B Z b Z',mc B Z=some (b,Z')->C Z Z')(pm:∀B Z b Z',me B Z=some (b,Z')->C Z Z')(hn:tgs.length=n)(hf:J6 K fin)
  (h:tE K (BU n ix src bf mc me fin) O H Q):VU tgs ix (tIX C K src) g (tT K mc) (tE K me) O H Q:=by
 subst hn;obtain⟨Y,Z,B,d,Z',R,S,e,q⟩:=h;obtain⟨ds,w9,e1,e5⟩:=AJ e;obtain⟨u,x6,e2,e6⟩:=AJ e5;obtain⟨zs,v7,e3,e7⟩:=AJ e6;obtain⟨hl,e4⟩:=Cy e2;clear e e5 e6;subst e4;refine⟨Y,Z,B,ds,_,R,S,e1,λx9 H1 E1 R1 J it=>?_⟩
 let W:Nat->List V->Hp->Prop:=λi' ys H=>ys.length<=i'/\∃(Y:Nat->Addr) (Z:Mh) (as:List D),RelH K Y Z H/\RelS K Y Z.length H B O/\ItX C K J ds Y Z H/\IsL K Y Z.length H as ys/\Dp bf mc me (DG tgs.length ix B) (ds.drop i') as Z=some (zs,v7) /\
  Aft K Y Z H Z' λY' H'=>∀v,Is K Y' Z'.length H' d v->Q v H'
 refine⟨λi' m ys H=>m=ds.length-i'/\i'<=ds.length/\W i' ys H,⟨ds.length,by simp,AAi _,AAE _,x9,_,[],R1,S.ext E1,it,.nil,e3,λu9 H2 E2 R2=>q u9 H2 (E1.trans E2) R2⟩,?_⟩;rintro i' m ys H ⟨hm,hil,hyl,Y,Z,as,R,S,it,ia,e3,q⟩;obtain⟨go,stop,yl⟩:=it Y Z H (rf _) R.ext0 R;by_cases hlt:i'<ds.length
 ·refine .inr ⟨go i' hlt,by omega,W (i'+1),λys' H' z=>⟨_,(by omega:ds.length-(i'+1)<m),rfl,hlt,z⟩,λx H2 y=>?_⟩;obtain⟨E2,R2,ix2⟩:=yl i' x H2 _ (AAr hlt) y;rw[List.drop_eq_getElem_cons hlt] at e3;obtain⟨v6,w9,e1,e5⟩:=AJ e3;obtain⟨cc,x6,e2,e6⟩:=AJ e5;cases T.mu _ _ _ _ _ e1;have c2:=pc _ _ _ _ e2;have S2:=(S.ext E2).block (tgs:=tgs) (ix:=ix);refine T.gb _ _ _ _ ⟨Y,_,_,_,v6,_,R2,S2,ix2,e1,λm6 H0 E0 R0 σ0 S0=>⟨m6,_,_,cc,x6,R0,S0,e2,λv8 H3 E3 R3=>?_⟩⟩;have E13:=(E2.trans E0).trans E3;have ex:∀{j4 v9 H4},C Z v9->Ext Y Z.length H j4 v9.length H4->ItX C K J ds j4 v9 H4:=λc E k8 m3 H5 c5 E5 R5=>it k8 m3 H5 (tr _ _ _ c c5) (E.trans E5) R5;cases cc with
  |false=>exact⟨by omega,v8,x6,as,R3,S.ext E13,ex c2 E13,ia.ext E13,e6,λk8 H5 E5 R5=>q k8 H5 (E13.trans E5) R5⟩
  |true=>
   obtain⟨y',v9,e4,e8⟩:=AJ e6;refine⟨v8,x6,_,y',v9,R3,S0.ext E3,e4,λj4 H4 E4 R4 v iv=>?_⟩;have E14:=E13.trans E4;exact⟨by simp;omega,j4,v9,as++[y'],R4,S.ext E14,ex (tr _ _ _ c2 (pm _ _ _ _ e4)) E14,(ia.ext E14).append (.one iv),e8,λk8 H5 E5 R5=>q k8 H5 (E14.trans E5) R5⟩
 ·have hi':i'=ds.length:=by omega
  subst hi';rw[List.drop_length] at e3;cases e3;obtain⟨z1,z2⟩:=hf Y _ Z' H _ ys d Q R ia e7 q;exact .inl ⟨stop,z1,z2⟩
structure Cp(X:Cx)(scope:Scope)(tgs:List Str)(ix:List Nat)(tg elt:Expr)(co:Option Expr)(bf:D->Sl->M Sl)(mc:Sl->M Bool)(me:Sl->M D):Prop where
 S:BScope X scope tgs ix
 hc:X.calm=true
 T:∃g,Tg tgs.length X.kw bf g/\∀fp C s H,PG (cxB X scope tgs fp C s H) tg g
 t:∀fp C s H,Ua (cxB X scope tgs fp C s H) co (tT X.kw mc)
 e:∀fp C s H,RE (cxB X scope tgs fp C s H) elt me
theorem Z5{C:Mh->Mh->Prop}{co:Option Expr}(rf:∀a,C a a)(tr:∀a b c,C a b->C b c->C a c)(pc:∀B Z b Z',mc B Z=some (b,Z')->C Z Z')(pm:∀B Z b Z',me B Z=some (b,Z')->C Z Z')(c:Cp X scope tgs ix tg elt co bf mc me)(hi:PI X tg iter (tIX C X.kw src))(hf:J6 X.kw fin)(hn:tgs.length=n)(hs:∀x,foldedSetIterable iter X.env x=pure x):RE X (.ListComp elt [⟨tg,iter,co.toList,0⟩] scope pos) (BU n ix src bf mc me fin):=by
 obtain⟨g,T,hg⟩:=c.T;exact RE.wk (WV co (te:=tE X.kw me) c.S c.hc hi hg T.gk c.t (λfp C s H=>(c.e fp C s H).pe) hs) λ_ _ _ h=>Zz rf tr T pc pm hn hf h
theorem Z1{C:Mh->Mh->Prop}{co:Option Expr}{k:Nat}{y:Str}{py spos:Pos}(rf:∀a,C a a)(tr:∀a b c,C a b->C b c->C a c)(pc:∀B Z b Z',mc B Z=some (b,Z')->C Z Z')(pm:∀B Z b Z',me B Z=some (b,Z')->C Z Z')(c:Cp X scope tgs ix tg elt co bf mc me)(hi:PI X tg iter (tIX C X.kw src))(hf:J6 X.kw fin)(hN:X.N.Nodup)(hiN:X.N[k]?=some y)(hy:X.env.scope.names.lookup y=some .local)(hn:tgs.length=n)
  (hsw:swapsWith (.ListComp elt [⟨tg,iter,co.toList,0⟩] scope pos) (some (.Name y py)) spos.line X.env=pure true) (hs:∀x,foldedSetIterable iter X.env x=pure x):RS X (.Assign [.Name y py] (.ListComp elt [⟨tg,iter,co.toList,0⟩] scope pos) spos) (A2 (BU n ix src bf mc me fin) (AR k)):=by
 obtain⟨g,T,hg⟩:=c.T;refine RS.wk (O9 co (te:=tE X.kw me) hN hiN hy c.S c.hc hi hg T.gk c.t (λfp C s H=>(c.e fp C s H).pe) hsw hs) λDn O H h=>?_;obtain⟨Y,Z,B,f,B',Z',R,S,e,q⟩:=h;obtain⟨x,w9,e1,e⟩:=AJ e;obtain⟨v6,x6,e2,e⟩:=AJ e;cases e2;cases e;exact Zz rf tr T pc pm hn hf ⟨Y,Z,B,x,_,R,S,e1,λx9 H1 E1 R1 v i1=>q x9 H1 E1 R1 _ ((S.ext E1).set k i1)⟩
theorem Io{co:Option Expr}(c:Cp X scope tgs ix tg elt co bf mc me)(hi:RI X tg iter src)(hf:J6 X.kw fin)(hn:tgs.length=n:=by rfl)(hs:∀x,foldedSetIterable iter X.env x=pure x:=by intro _;rfl):RE X (.ListComp elt [⟨tg,iter,co.toList,0⟩] scope pos) (BU n ix src bf mc me fin):=
 Z5 (λ_=>trivial) (λ_ _ _ _ _=>trivial) (λ_ _ _ _ _=>trivial) (λ_ _ _ _ _=>trivial) c (eY hi) hf hn hs
theorem bM{co:Option Expr}(pc:Pu mc)(pm:Pu me)(c:Cp X scope tgs ix tg elt co bf mc me)(hi:RIP X tg iter src)(hf:J6 X.kw fin)(hn:tgs.length=n:=by rfl)(hs:∀x,foldedSetIterable iter X.env x=pure x:=by intro _;rfl):RE X (.ListComp elt [⟨tg,iter,co.toList,0⟩] scope pos) (BU n ix src bf mc me fin):=
 Z5 (C:=λa b=>b=a) (λ_=>rfl) (λ_ _ _ a b=>b.trans a) pc pm c (eX hi) hf hn hs
theorem bL{co:Option Expr}{k:Nat}{y:Str}{py spos:Pos}(c:Cp X scope tgs ix tg elt co bf mc me)(hi:RI X tg iter src)(hf:J6 X.kw fin)(hN:X.N.Nodup)(hiN:X.N[k]?=some y:=by rfl)(hy:X.env.scope.names.lookup y=some .local:=by rfl)(hn:tgs.length=n:=by rfl)
  (hsw:swapsWith (.ListComp elt [⟨tg,iter,co.toList,0⟩] scope pos) (some (.Name y py)) spos.line X.env=pure true:=by rfl) (hs:∀x,foldedSetIterable iter X.env x=pure x:=by intro _;rfl):RS X (.Assign [.Name y py] (.ListComp elt [⟨tg,iter,co.toList,0⟩] scope pos) spos) (A2 (BU n ix src bf mc me fin) (AR k)):=
 Z1 (λ_=>trivial) (λ_ _ _ _ _=>trivial) (λ_ _ _ _ _=>trivial) (λ_ _ _ _ _=>trivial) c (eY hi) hf hN hiN hy hn hsw hs
theorem eL{co:Option Expr}{k:Nat}{y:Str}{py spos:Pos}(pc:Pu mc)(pm:Pu me)(c:Cp X scope tgs ix tg elt co bf mc me)(hi:RIP X tg iter src)(hf:J6 X.kw fin)(hN:X.N.Nodup)(hiN:X.N[k]?=some y:=by rfl)(hy:X.env.scope.names.lookup y=some .local:=by rfl)(hn:tgs.length=n:=by rfl)
  (hsw:swapsWith (.ListComp elt [⟨tg,iter,co.toList,0⟩] scope pos) (some (.Name y py)) spos.line X.env=pure true:=by rfl) (hs:∀x,foldedSetIterable iter X.env x=pure x:=by intro _;rfl):RS X (.Assign [.Name y py] (.ListComp elt [⟨tg,iter,co.toList,0⟩] scope pos) spos) (A2 (BU n ix src bf mc me fin) (AR k)):=
 Z1 (C:=λa b=>b=a) (λ_=>rfl) (λ_ _ _ a b=>b.trans a) pc pm c (eX hi) hf hN hiN hy hn hsw hs
end
end Mi
namespace K8
open PySem L2 Mi K1 K5
open Kst (CG B1 DU f_number_of BW CK)
noncomputable def Q1:List Str:=["made", "boxes", "hands", "programs"]
noncomputable def top(i:Nat):Stmt:=PySem.Challenge.pw_strongboxes_k08_whole_made_of_texts.main.body.getD i (.Pass ⟨0,0,0,0⟩)
section
noncomputable abbrev K7:Stmt:=top 9
theorem sc_is_whole:Ak ["thing", "least", "most"] ["thing", "least", "most"] (AQ K7):=⟨rfl,rfl,rfl,by decide +kernel,rfl,by decide +kernel,by decide +kernel⟩
noncomputable abbrev MY:Stmt:=top 10
theorem sc_is_name:Ak ["thing"] ["thing"] (AQ MY):=⟨rfl,rfl,rfl,by decide +kernel,rfl,by decide +kernel,by decide +kernel⟩
noncomputable abbrev GI:Stmt:=top 11
theorem sc_is_expression:Ak ["thing", "deep", "word"] ["thing", "deep"] (AQ GI):=⟨rfl,rfl,rfl,by decide +kernel,rfl,by decide +kernel,by decide +kernel⟩
noncomputable abbrev GZ:Stmt:=top 12
theorem sc_variables_in:Ak ["expression", "names", "part"] ["expression"] (AQ GZ):=⟨rfl,rfl,rfl,by decide +kernel,rfl,by decide +kernel,by decide +kernel⟩
noncomputable abbrev Gd:Stmt:=top 27
theorem sc_check_making:Ak ["making", "hand_names", "writers", "box", "number", "hand"] ["making"] (AQ Gd):=⟨rfl,rfl,rfl,by decide +kernel,rfl,by decide +kernel,by decide +kernel⟩
noncomputable abbrev Ve:Stmt:=top 28
theorem sc_need:Ak ["holds", "words"] ["holds", "words"] (AQ Ve):=⟨rfl,rfl,rfl,by decide +kernel,rfl,by decide +kernel,by decide +kernel⟩
noncomputable abbrev K9:Stmt:=top 29
theorem sc_is_tuple:Ak ["thing", "least", "most"] ["thing", "least", "most"] (AQ K9):=⟨rfl,rfl,rfl,by decide +kernel,rfl,by decide +kernel,by decide +kernel⟩
noncomputable abbrev Gc:Stmt:=top 30
theorem sc_check_worths:Ak ["kind", "size", "begin"] ["kind", "size", "begin"] (AQ Gc):=⟨rfl,rfl,rfl,by decide +kernel,rfl,by decide +kernel,by decide +kernel⟩
noncomputable abbrev Hg:Stmt:=top 31
theorem sc_check_boxes:Ak ["boxes", "box"] ["boxes"] (AQ Hg):=⟨rfl,rfl,rfl,by decide +kernel,rfl,by decide +kernel,by decide +kernel⟩
noncomputable abbrev Hf:Stmt:=top 32
theorem sc_check_hands:Ak ["hands", "hand"] ["hands"] (AQ Hf):=⟨rfl,rfl,rfl,by decide +kernel,rfl,by decide +kernel,by decide +kernel⟩
noncomputable abbrev Ii:Stmt:=top 33
theorem sc_are_unlike:Ak ["names"] ["names"] (AQ Ii):=⟨rfl,rfl,rfl,by decide +kernel,rfl,by decide +kernel,by decide +kernel⟩
noncomputable abbrev Ig:Stmt:=top 34
theorem sc_check_rows:Ak ["hand", "is_writer", "writers", "row"] ["hand", "is_writer", "writers"] (AQ Ig):=⟨rfl,rfl,rfl,by decide +kernel,rfl,by decide +kernel,by decide +kernel⟩
noncomputable abbrev Ih:Stmt:=top 35
theorem sc_check_form:Ak ["row", "length", "parts", "part", "thing"] ["row", "length"] (AQ Ih):=⟨rfl,rfl,rfl,by decide +kernel,rfl,by decide +kernel,by decide +kernel⟩
noncomputable abbrev MX:Stmt:=top 36
theorem sc_is_part:Ak ["part", "thing", "length"] ["part", "thing", "length"] (AQ MX):=⟨rfl,rfl,rfl,by decide +kernel,rfl,by decide +kernel,by decide +kernel⟩
noncomputable abbrev Ge:Stmt:=top 37
theorem sc_check_ending:Ak ["word", "is_writer"] ["word", "is_writer"] (AQ Ge):=⟨rfl,rfl,rfl,by decide +kernel,rfl,by decide +kernel,by decide +kernel⟩
noncomputable abbrev FR:Stmt:=top 38
theorem sc_check_variables:Ak ["row", "is_writer", "name"] ["row", "is_writer"] (AQ FR):=⟨rfl,rfl,rfl,by decide +kernel,rfl,by decide +kernel,by decide +kernel⟩
noncomputable abbrev GY:Stmt:=top 39
theorem sc_variables_of:Ak ["row", "names", "part", "thing"] ["row"] (AQ GY):=⟨rfl,rfl,rfl,by decide +kernel,rfl,by decide +kernel,by decide +kernel⟩
noncomputable abbrev Ey:Stmt:=Sn (top 44) 0
theorem sc_Reading___init__:Ak ["self"] ["self"] (AQ Ey):=⟨rfl,rfl,rfl,by decide +kernel,rfl,by decide +kernel,by decide +kernel⟩
noncomputable abbrev EO:Stmt:=Sn (top 44) 1
theorem sc_Reading_lets_stand:Ak ["self", "word"] ["self", "word"] (AQ EO):=⟨rfl,rfl,rfl,by decide +kernel,rfl,by decide +kernel,by decide +kernel⟩
noncomputable abbrev Gf:Stmt:=Sn (top 44) 2
theorem sc_Reading_take:Ak ["self", "row"] ["self", "row"] (AQ Gf):=⟨rfl,rfl,rfl,by decide +kernel,rfl,by decide +kernel,by decide +kernel⟩
noncomputable abbrev Dt:Stmt:=Sn (top 44) 3
theorem sc_Reading_told_making:Ak ["self", "hands"] ["self"] (AQ Dt):=⟨rfl,rfl,rfl,by decide +kernel,rfl,by decide +kernel,by decide +kernel⟩
noncomputable abbrev Gb:Stmt:=top 45
theorem sc_shown_making:Ak ["making", "rows", "box", "hand"] ["making"] (AQ Gb):=⟨rfl,rfl,rfl,by decide +kernel,rfl,by decide +kernel,by decide +kernel⟩
noncomputable abbrev Jl:Stmt:=top 46
theorem sc_shown_row:Ak ["row", "words", "thing"] ["row"] (AQ Jl):=⟨rfl,rfl,rfl,by decide +kernel,rfl,by decide +kernel,by decide +kernel⟩
noncomputable abbrev Ga:Stmt:=top 47
theorem sc_turned_round:Ak ["word", "parts"] ["word", "parts"] (AQ Ga):=⟨rfl,rfl,rfl,by decide +kernel,rfl,by decide +kernel,by decide +kernel⟩
noncomputable abbrev K4:Stmt:=top 48
theorem sc_words_of:Ak ["thing", "words", "part"] ["thing"] (AQ K4):=⟨rfl,rfl,rfl,by decide +kernel,rfl,by decide +kernel,by decide +kernel⟩
noncomputable abbrev Hc:Stmt:=top 49
theorem sc_read_making:Ak ["text", "lines", "reading", "number", "line", "row", "making"] ["text"] (AQ Hc):=⟨rfl,rfl,rfl,by decide +kernel,rfl,by decide +kernel,by decide +kernel⟩
noncomputable abbrev K6:Stmt:=top 50
theorem sc_read_row:Ak ["line", "words", "parts", "things"] ["line"] (AQ K6):=⟨rfl,rfl,rfl,by decide +kernel,rfl,by decide +kernel,by decide +kernel⟩
noncomputable abbrev Ie:Stmt:=top 51
theorem sc_read_parts:Ak ["parts", "words", "ahead", "things"] ["parts", "words"] (AQ Ie):=⟨rfl,rfl,rfl,by decide +kernel,rfl,by decide +kernel,by decide +kernel⟩
noncomputable abbrev Jm:Stmt:=top 52
theorem sc_read_part:Ak ["part", "word"] ["part", "word"] (AQ Jm):=⟨rfl,rfl,rfl,by decide +kernel,rfl,by decide +kernel,by decide +kernel⟩
noncomputable abbrev Hb:Stmt:=top 53
theorem sc_read_number:Ak ["word", "most_figures"] ["word", "most_figures"] (AQ Hb):=⟨rfl,rfl,rfl,by decide +kernel,rfl,by decide +kernel,by decide +kernel⟩
noncomputable abbrev FQ:Stmt:=top 54
theorem sc_read_expression:Ak ["words", "ready", "word", "expression"] ["words"] (AQ FQ):=⟨rfl,rfl,rfl,by decide +kernel,rfl,by decide +kernel,by decide +kernel⟩
noncomputable abbrev He:Stmt:=top 55
theorem sc_read_ground:Ak ["word"] ["word"] (AQ He):=⟨rfl,rfl,rfl,by decide +kernel,rfl,by decide +kernel,by decide +kernel⟩
noncomputable abbrev Jn:Stmt:=top 56
theorem sc_read_nest:Ak ["word", "ready", "first"] ["word", "ready"] (AQ Jn):=⟨rfl,rfl,rfl,by decide +kernel,rfl,by decide +kernel,by decide +kernel⟩
noncomputable abbrev Jo:Stmt:=top 15
theorem sc_one_where:Ak ["holds"] ["holds"] (AQ Jo):=⟨rfl,rfl,rfl,by decide +kernel,rfl,by decide +kernel,by decide +kernel⟩
noncomputable abbrev Fg:Stmt:=top 14
theorem sc_number_of_pair:Ak ["word", "first", "second"] ["word", "first", "second"] (AQ Fg):=⟨rfl,rfl,rfl,by decide +kernel,rfl,by decide +kernel,by decide +kernel⟩
noncomputable abbrev Jp:Stmt:=top 13
theorem sc_number_of:Ak ["expression", "numbers", "word", "first"] ["expression", "numbers"] (AQ Jp):=⟨rfl,rfl,rfl,by decide +kernel,rfl,by decide +kernel,by decide +kernel⟩
noncomputable abbrev LA:Stmt:=top 58
theorem sc_Lcell_at:Ak ["_law_script", "_law_k"] ["_law_script", "_law_k"] (AQ LA):=⟨rfl,rfl,rfl,by decide +kernel,rfl,by decide +kernel,by decide +kernel⟩
noncomputable abbrev Rz:Stmt:=top 59
theorem sc_Lwell:Ak ["_law_cell"] ["_law_cell"] (AQ Rz):=⟨rfl,rfl,rfl,by decide +kernel,rfl,by decide +kernel,by decide +kernel⟩
noncomputable abbrev R9:Stmt:=top 60
theorem sc_Ldraw:Ak ["_law_well_here", "_law_base", "_law_found", "_law_number_here"] ["_law_well_here", "_law_base"] (AQ R9):=⟨rfl,rfl,rfl,by decide +kernel,rfl,by decide +kernel,by decide +kernel⟩
noncomputable abbrev R8:Stmt:=top 61
theorem sc_Lexpr:Ak ["_law_well_here", "_law_names", "_law_words", "_law_heap", "_law_deep", "_law_way"] ["_law_well_here", "_law_names"] (AQ R8):=⟨rfl,rfl,rfl,by decide +kernel,rfl,by decide +kernel,by decide +kernel⟩
noncomputable abbrev MZ:Stmt:=top 62
theorem sc_Lnumber:Ak ["_law_words", "_law_numbers", "_law_heap", "_law_word", "_law_one", "_law_other", "_law_some"] ["_law_words", "_law_numbers"] (AQ MZ):=⟨rfl,rfl,rfl,by decide +kernel,rfl,by decide +kernel,by decide +kernel⟩
noncomputable abbrev Vf:Stmt:=top 63
theorem sc_Lrow:Ak ["_law_well_here", "_law_own", "_law_boxes", "_law_names", "_law_many", "_law_is_writer", "_law_way", "_law_words"] ["_law_well_here", "_law_own", "_law_boxes", "_law_names", "_law_many", "_law_is_writer"] (AQ Vf):=⟨rfl,rfl,rfl,by decide +kernel,rfl,by decide +kernel,by decide +kernel⟩
noncomputable abbrev R6:Stmt:=top 64
theorem sc_Ltold:Ak ["_law_well_here", "_law_hands", "_law_boxes", "_law_name", "_law_size", "_law_words", "_law_programs", "_law_k", "_law_own", "_law_many", "_law_names", "_law_rows", "_law_first"] ["_law_well_here"] (AQ R6):=⟨rfl,rfl,rfl,by decide +kernel,rfl,by decide +kernel,by decide +kernel⟩
noncomputable abbrev R7:Stmt:=top 65
theorem sc_Ltext:Ak ["_law_told_here", "_law_first", "_law_boxes", "_law_hands", "_law_programs", "_law_rows", "_law_hand", "_law_program"] ["_law_told_here"] (AQ R7):=⟨rfl,rfl,rfl,by decide +kernel,rfl,by decide +kernel,by decide +kernel⟩
noncomputable abbrev Ij:Stmt:=top 66
theorem sc_Lrow_right:Ak ["_law_row_here", "_law_words", "_law_well_here", "_law_expr_here", "_law_left", "_law_numbers", "_law_known"] ["_law_row_here", "_law_words", "_law_well_here"] (AQ Ij):=⟨rfl,rfl,rfl,by decide +kernel,rfl,by decide +kernel,by decide +kernel⟩
noncomputable abbrev Z0:Stmt:=top 67
theorem sc_law:Ak ["_law_script", "_law_cell", "_law_well_here", "_law_told_here", "_law_first", "_law_boxes", "_law_hands", "_law_programs", "_law_text_here", "_law_making", "_law_hand", "_law_program", "_law_row_here", "_law_words"] ["_law_script"] (AQ Z0):=⟨rfl,rfl,rfl,by decide +kernel,rfl,by decide +kernel,by decide +kernel⟩
end
noncomputable def KU:List D->M D:=BJ .frz 6 2 (Sb BS)
noncomputable def Lk:List D->M D:=BJ .drop 8 6 (Wn BS KU)
noncomputable def KR:List D->M D:=Lv 13 1 (SZ BS Lk)
noncomputable def KS:List D->M D:=Cj .all 8 1 (Sa)
noncomputable def C5:List D->M D:=BJ .drop 7 2 (Mt)
noncomputable def Dj:List D->M D:=BJ .drop 7 3 (By BS (f_number_of 6) C5)
noncomputable def Ph:List D->M D:=BJ .drop 14 1 (Z9 IK OI KR KS EG Dh Dg Dj)
end K8
namespace Mi
open PySem L2
section
variable{u9 Y':Nat->Addr}{k k2 k':Nat}
variable(ag:∀n,n<k->Y' n=u9 n)(am:∀m,m<k'->∃n,n<k2/\Y' m=u9 n)(hk:k<=k')
include ag am hk
end
end Mi
local macro_rules | `(tactic| wtm_at "z")=>`(tactic| simp only[Mi.mSlotR_eq,Mi.mOpR_eq,Mi.mDispR_eq,Mi.aConsR_eq,Mi.sSeqR_eq,Mi.sSetR_eq,Mi.sIfR_eq,Mi.mAndR_eq,Mi.mOrR_eq,Mi.mTestR_eq,Mi.sRetR_eq])
namespace Mi
section
variable{α:Type}{P:List α->Prop}
theorem lq1(h:∀a,P [a]):∀us:List α,us.length=1->P us:=λus e=>by
 rcases us with _|⟨a,us⟩
 ·cases e
 ·cases List.eq_nil_of_length_eq_zero (Nat.succ.inj e);exact h a
theorem lqs(h:∀a,∀us:List α,us.length=n->P (a::us)):∀us:List α,us.length=n+1->P us:=λus e=>by
 rcases us with _|⟨a,us⟩
 ·cases e
 ·exact h a us (Nat.succ.inj e)
theorem lq2(h:∀a b,P [a,b]):∀us:List α,us.length=2->P us:=lqs λa=>lq1 (P:=λl=>P (a::l)) (h a)
theorem lq3(h:∀a b c,P [a,b,c]):∀us:List α,us.length=3->P us:=lqs λa=>lq2 (P:=λl=>P (a::l)) (h a)
theorem lq4(h:∀a b c d,P [a,b,c,d]):∀us:List α,us.length=4->P us:=lqs λa=>lq3 (P:=λl=>P (a::l)) (h a)
theorem lq5(h:∀a b c d e,P [a,b,c,d,e]):∀us:List α,us.length=5->P us:=lqs λa=>lq4 (P:=λl=>P (a::l)) (h a)
theorem lq6(h:∀a b c d e f,P [a,b,c,d,e,f]):∀us:List α,us.length=6->P us:=lqs λa=>lq5 (P:=λl=>P (a::l)) (h a)
end
end Mi
namespace K8
open PySem L2 Mi K1 K5
open Kst (CG B1 DU f_number_of BW CK)
structure Al(w:World)(K:PySem.W.Frag)(mg:Str->Option Value)(h:Heap):Prop where
 X:K.In h
 G:h.Ns mainGlobals mg
 e0:∃f fd,Df K "_law_cell_at" LA f fd
 e1:∃f fd,Df K "_law_well" Rz f fd
 e2:∃f fd,Df K "_law_draw" R9 f fd
 e3:∃f fd,Df K "_law_expr" R8 f fd
 e4:∃f fd,Df K "_law_row" Vf f fd
 e5:∃f fd,Df K "_law_told" R6 f fd
 e6:∃f fd,Df K "_law_text" R7 f fd
 e7:∃C f fd,Di K "Reading" "Reading.__init__" Ey C f fd
 e8:∃f fd,Df K "turned_round" Ga f fd
 e9:∃f fd,Df K "is_name" MY f fd
 e10:∃f fd,Df K "read_ground" He f fd
 e11:∃f fd,Df K "read_nest" Jn f fd
 e12:∃f fd,Df K "read_expression" FQ f fd
 e13:∃f fd,Df K "read_number" Hb f fd
 e14:∃f fd,Df K "read_part" Jm f fd
 e15:∃f fd,Df K "read_parts" Ie f fd
 e16:∃f fd,Df K "read_row" K6 f fd
 e17:∃C f fd,Dm K "Reading" "lets_stand" "Reading.lets_stand" EO C f fd
 e18:∃C f fd,Dm K "Reading" "take" "Reading.take" Gf C f fd
 e19:∃C f fd,Dm K "Reading" "told_making" "Reading.told_making" Dt C f fd
 e20:∃f fd,Df K "is_tuple" K9 f fd
 e21:∃f fd,Df K "need" Ve f fd
 e22:∃f fd,Df K "is_whole" K7 f fd
 e23:∃f fd,Df K "check_worths" Gc f fd
 e24:∃f fd,Df K "are_unlike" Ii f fd
 e25:∃f fd,Df K "check_boxes" Hg f fd
 e26:∃f fd,Df K "check_hands" Hf f fd
 e27:∃f fd,Df K "is_expression" GI f fd
 e28:∃f fd,Df K "is_part" MX f fd
 e29:∃f fd,Df K "check_form" Ih f fd
 e30:∃f fd,Df K "check_ending" Ge f fd
 e31:∃f fd,Df K "variables_in" GZ f fd
 e32:∃f fd,Df K "variables_of" GY f fd
 e33:∃f fd,Df K "check_variables" FR f fd
 e34:∃f fd,Df K "check_rows" Ig f fd
 e35:∃f fd,Df K "check_making" Gd f fd
 e36:∃f fd,Df K "read_making" Hc f fd
 e37:∃f fd,Df K "words_of" K4 f fd
 e38:∃f fd,Df K "shown_row" Jl f fd
 e39:∃f fd,Df K "shown_making" Gb f fd
 e40:∃f fd,Df K "one_where" Jo f fd
 e41:∃f fd,Df K "number_of_pair" Fg f fd
 e42:∃f fd,Df K "number_of" Jp f fd
 e43:∃f fd,Df K "_law_number" MZ f fd
 e44:∃f fd,Df K "_law_row_right" Ij f fd
 e45:∃f fd,Df K "law" Z0 f fd
 e46:∃C,Dc K "Reading" Q1 C
 y0:mg "all" = none
 y1:mg "any" = none
 y2:mg "bool" = none
 y3:mg "dict" = none
 y4:mg "enumerate" = none
 y5:mg "int" = none
 y6:mg "isinstance" = none
 y7:mg "len" = none
 y8:mg "max" = none
 y9:mg "min" = none
 y10:mg "range" = none
 y11:mg "reversed" = none
 y12:mg "set" = none
 y13:mg "str" = none
 y14:mg "tuple" = none
 y15:mg "zip" = none
 g0:Glo K mg "DEEPEST" Er
 g1:Glo K mg "FIGURES" Jd
 g2:Glo K mg "GREATEST" C2
 g3:Glo K mg "KINDS" KZ
 g4:Glo K mg "LEAST_HANDS" EK
 g5:Glo K mg "LEAST_SIZE" GC
 g6:Glo K mg "LETTERS" HR
 g7:Glo K mg "MOST_BOXES" Em
 g8:Glo K mg "MOST_FIGURES" G6
 g9:Glo K mg "MOST_HANDS" El
 g10:Glo K mg "MOST_ROWS" EU
 g11:Glo K mg "MOST_SIZE" G5
 g12:Glo K mg "MOST_WITHIN" EJ
 g13:Glo K mg "NO_VARIABLES" Do
 g14:Glo K mg "PAIR_WORDS" CM
 g15:Ub w K mg "HEAD_PARTS" Eg
 g16:Ub w K mg "PARTS" Bi
section
variable{P:Program}{w:World}{K:PySem.W.Frag}{mg:Str->Option Value}{base h:Heap}(a:Al w K mg h)
include a
theorem RL:Fn P w K mg base "_law_cell_at" ["_law_script", "_law_k"] 1 (IK):=by
 obtain⟨f,fd,d⟩:=a.e0;exact BF (k:=0) .drop d.F sc_Lcell_at (PySem.W.mg_of a.X a.G d.a) (d.F.binds λ_ _ _ _ _ _=>lq2 λ_ _=>rfl) (λ_ _ _ _ _ _ hr=>have nd:=sc_Lcell_at.nd;(AG (At (Ac ME (AA 1) (Ah Bt a.y7 Mi.Au (AB (AA 0) AE))) (AM (AZ (Ab As (AA 0) (AA 1)))) Ad) (AM (AZ AH))))
theorem Zp:Fn P w K mg base "_law_well" ["_law_cell"] 1 (OI):=by
 obtain⟨f,fd,d⟩:=a.e1;exact BF (k:=0) .all d.F sc_Lwell (PySem.W.mg_of a.X a.G d.a) (d.F.binds λ_ _ _ _ _ _=>lq1 λ_=>rfl) (λ_ _ _ _ _ _ hr=>have nd:=sc_Lwell.nd;(AM (AZ (CT (AB (Ah (XW rfl) a.y8 Mi.Lx (AB AH (AB (Ay Ip (AA 0) (Ay fN AH AH)) AE))) (AB (Ay Mn (AA 0) AH) (AB AH AE)))))))
theorem Be:Fn P w K mg base "_law_draw" ["_law_well_here", "_law_base"] 1 (BS):=by
 obtain⟨f,fd,d⟩:=a.e2;exact BF (k:=0) .drop d.F sc_Ldraw (PySem.W.mg_of a.X a.G d.a) (d.F.binds λ_ _ _ _ _ _=>lq2 λ_ _=>rfl) (λ_ _ _ _ _ _ hr=>have nd:=sc_Ldraw.nd;(AG (At (Ac Tv (Ab As (AA 0) AH) AH) (AG (Ap 2 nd (Ay Mn (Ab As (AA 0) AH) (AA 1))) (AG (Nl (Ay Nx (Ab As (AA 0) AH) (AA 1)) (Vv (AA 0) AH)) (AM (AZ (AA 2))))) Ad) (AG (Nl (Ay Js (Ab As (AA 0) AH) AH) (Vv (AA 0) AH)) (AG (Ap 3 nd (Ay Mn (Ay LR (Ay Js (Ay Js (Ab As (AA 0) AH) (Ay LR AH (Ab As (AA 0) AH))) AH) AH) AH)) (AG (Ap 3 nd (Ay Mn (Ay LR (AA 3) (Ay Js (Ay Nx (AA 3) AH) AH)) AH)) (AG (Ap 3 nd (Ay Mn (Ay LR (AA 3) (Ay Js (Ay Nx (AA 3) AH) AH)) AH)) (AM (AZ (Ay Mn (Ay Js (Ay LR (AA 3) AH) (Ay Nx (AA 3) AH)) (AA 1))))))))))
theorem Zs:Fn P w K mg base "_law_expr" ["_law_well_here", "_law_names"] 2 (KU):=by
 obtain⟨f,fd,d⟩:=a.e3;exact BF (k:=1) .frz d.F sc_Lexpr (PySem.W.mg_of a.X a.G d.a) (d.F.binds λ_ _ _ _ _ _=>lq2 λ_ _=>rfl) (λ_ _ _ _ _ _ hr=>have nd:=sc_Lexpr.nd;(AG (Ap 2 nd (CT AE)) (AG (Ap 3 nd (CT (AB AH AE))) (AG (Vj c9 PassesOwn.never (Ac (E7 hr) (AA 3) (BD AE)) (AG (Ap 4 nd (D4 PySem.F.slot_list_pop PySem.F.type_list_pop LW (AA 3))) (AG (Ap 5 nd (AY (Be a) hr (AB (AA 0) (AB AH AE)))) (AM (At (RW.rt (Ik (Ac Tv (AA 4) AH) (Ik (Ac ME (AA 5) AH) (JN (Ac Tv (Ah Bt a.y7 Mi.Au (AB (AA 2) AE)) AH))))) (AM (Aj (BL PySem.F.slot_list_append PySem.F.type_list_append Bm (AA 2) (AB (Ab As (Ay BO (BD (AB AO (AB AO (AB AO (AB AO (AB AO AE)))))) (AA 1)) (AY (Be a) hr (AB (AA 0) (AB (Ay BO AH (Ah Bt a.y7 Mi.Au (AB (AA 1) AE))) AE)))) AE)))) (AM (At (Ac (Bf hr) (AA 5) AH) (AG (Aj (BL PySem.F.slot_list_append PySem.F.type_list_append Bm (AA 2) (AB AO AE))) (AM (Aj (BL PySem.F.slot_list_append PySem.F.type_list_append Bm (AA 3) (AB (Ay BO (AA 4) AH) AE))))) (AG (Aj (BL PySem.F.slot_list_append PySem.F.type_list_append Bm (AA 2) (AB (Ab As (BD (AB AO (AB AO (AB AO (AB AO (AB AO (AB AO AE))))))) (Ay Ip (AA 5) AH)) AE))) (AM (Ap 3 nd (Ay cJ (AA 3) (BD (AB (Ay BO (AA 4) AH) (AB (Ay BO (AA 4) AH) AE)))))))))))))) (AM (AZ (AA 2)))))))
theorem dY:Fn P w K mg base "_law_row" ["_law_well_here", "_law_own", "_law_boxes", "_law_names", "_law_many", "_law_is_writer"] 3 (Lk):=by
 obtain⟨f,fd,d⟩:=a.e4;exact BF (k:=2) .drop d.F sc_Lrow (PySem.W.mg_of a.X a.G d.a) (d.F.binds λ_ _ _ _ _ _=>lq6 λ_ _ _ _ _ _=>rfl) (λ_ _ _ _ _ _ hr=>have nd:=sc_Lrow.nd;(AG (Ap 6 nd (AY (Be a) hr (AB (AA 0) (AB AH AE)))) (AG (Ap 7 nd (AY (Zs a) hr (AB (AA 0) (AB (Ay BO (AA 3) (Ay LR (BD (AB AO AE)) (Aq FH a.y5 Mi.Ck (AB (AA 5) AE)))) AE)))) (AG (At (RW.rt (JO (Ac (Bf hr) (AA 6) AH) (HN (Ac (E7 hr) (AA 1) (BD AE))))) (AM (AZ (Ay BO (BD (AB AO (AB (Ab As (AA 1) (AY (Be a) hr (AB (AA 0) (AB (Ah Bt a.y7 Mi.Au (AB (AA 1) AE)) AE)))) AE))) (AA 7)))) Ad) (AG (At (RW.rt (JO (Ac ME (AA 6) AH) (HN (Ac (E7 hr) (AA 2) (BD AE))))) (AM (AZ (BD (AB AO (AB (Ab As (AA 3) (AY (Be a) hr (AB (AA 0) (AB (Ah Bt a.y7 Mi.Au (AB (AA 3) AE)) AE)))) (AB (Ab As (AA 2) (AY (Be a) hr (AB (AA 0) (AB (Ah Bt a.y7 Mi.Au (AB (AA 2) AE)) AE)))) AE)))))) Ad) (AG (At (Ac (Bf hr) (AA 6) AH) (AM (AZ (Ay BO (BD (AB AO (AB (Aq FG a.y13 Mi.Bg (AB (AY (Be a) hr (AB (AA 0) (AB (Ay BO (AA 4) AH) AE))) AE)) AE))) (AA 7)))) Ad) (AG (At (Ac (Bf hr) (AA 6) AH) (AM (AZ (BD (AB AO (AB (Aq FG a.y13 Mi.Bg (AB (AY (Be a) hr (AB (AA 0) (AB (Ay BO (AA 4) AH) AE))) AE)) AE))))) Ad) (AG (At (Ac (Bf hr) (AA 6) AH) (AM (AZ (Ab As (BD (AB (Ay BO (BD (AB AO AE)) (AA 7)) (AB (BD (AB AO AE)) AE))) (Aq FH a.y5 Mi.Ck (AB (AA 5) AE))))) Ad) (AM (AZ (Ay BO (BD (AB AO (AB (Ab As (AA 3) (AY (Be a) hr (AB (AA 0) (AB (Ah Bt a.y7 Mi.Au (AB (AA 3) AE)) AE)))) AE))) (AA 7))))))))))))
theorem Zq:Fn P w K mg base "_law_told" ["_law_well_here"] 4 (KR):=by
 obtain⟨f,fd,d⟩:=a.e5;exact W8 (k:=3) d.F sc_Ltold (PySem.W.mg_of a.X a.G d.a) (d.F.binds λ_ _ _ _ _ _=>lq1 λ_=>rfl) (λ_ _ _ _ _ _ hr=>have nd:=sc_Ltold.nd;(AG (Ap 1 nd (Io (co:=none) (tgs:=["_law_name"]) ⟨⟨rfl,by decide +kernel,by decide +kernel,⟨Or.inl rfl,trivial⟩,rfl,by decide +kernel⟩,rfl,⟨_,Bv,λ_ _ _ _=>Ar (i:=0) (show List.Nodup (["_law_name", "_law_well_here"]:List Str) from by decide +kernel) rfl (Or.inl rfl)⟩,λ_ _ _ _=>BH,λ_ _ _ _=>(BD (AB AO (AB (AA 0) (AB (Aq FG a.y13 Mi.Bg (AB (AY (Be a) hr (AB (AA 1) (AB AH AE))) AE)) AE))))⟩ (Bu (Cu (BD (AB AO (AB AO (AB AO (AB AO AE))))) Bw (Bj (Ay BO AH (AY (Be a) hr (AB (AA 0) (AB AH AE))))))) Fb)) (AG (Ap 2 nd (CT AE)) (AG (CC PassesOwn.never rfl (Bu (Cu (BD (AB AO (AB AO (AB AO (AB AO (AB AO (AB AO AE))))))) Bw (Bj (AY (Be a) hr (AB (AA 0) (AB AH AE)))))) (Ce 3 nd) (AG (Ap 4 nd (Ay BO AH (AY (Be a) hr (AB (AA 0) (AB AH AE))))) (AG (Ap 5 nd (BD (AB AO (AB (AA 3) (AB (Ab As (BD (AB AO (AB AO (AB AO AE)))) (AY (Be a) hr (AB (AA 0) (AB AH AE)))) (AB (Aq FG a.y13 Mi.Bg (AB (AA 4) AE)) (AB (Aq FG a.y13 Mi.Bg (AB (AY (Be a) hr (AB (AA 0) (AB (AA 4) AE))) AE)) AE))))))) (AM (Aj (BL PySem.F.slot_list_append PySem.F.type_list_append Bm (AA 2) (AB (Ay BO (AA 5) (BD (AB (Ab As (Ab As (AA 1) (AY (Be a) hr (AB (AA 0) (AB (Ah Bt a.y7 Mi.Au (AB (AA 1) AE)) AE)))) AH) AE))) AE))))))) (AG (Ap 6 nd (CT AE)) (AG (CC PassesOwn.never rfl (JQ a.y10 (AB (Ah Bt a.y7 Mi.Au (AB (AA 1) AE)) AE)) (Ce 7 nd) (AG (Ap 8 nd (bM (co:=(some _)) (tgs:=["_law_box"]) (by wtm_at "k") (by wtm_at "k") ⟨⟨rfl,by decide +kernel,by decide +kernel,⟨Or.inl rfl,Or.inl rfl,trivial⟩,rfl,by decide +kernel⟩,rfl,⟨_,Bv,λ_ _ _ _=>Ar (i:=0) (show List.Nodup (["_law_box", "_law_hands", "_law_k"]:List Str) from by decide +kernel) rfl (Or.inl rfl)⟩,λ_ _ _ _=>WC (Ac (Bf hr) (Ab As (AA 0) AH) (Ab As (Ab As (AA 1) (AA 2)) AH)),λ_ _ _ _=>(Ab As (AA 0) AH)⟩ (Qg (AA 2)) Fb)) (AG (Ap 9 nd (AY (Be a) hr (AB (AA 0) (AB AH AE)))) (AG (Ap 10 nd (Cu (BD (AB AO (AB AO (AB AO (AB AO AE))))) Bw (Bj (Ay BO AH (AY (Be a) hr (AB (AA 0) (AB AH AE))))))) (AG (bL (co:=none) (tgs:=["_law_j"]) ⟨⟨rfl,by decide +kernel,by decide +kernel,⟨Or.inl rfl,Or.inl rfl,Or.inl rfl,Or.inl rfl,Or.inl rfl,Or.inl rfl,trivial⟩,rfl,by decide +kernel⟩,rfl,⟨_,Bv,λ_ _ _ _=>Ar (i:=0) (show List.Nodup (["_law_j", "_law_boxes", "_law_k", "_law_many", "_law_names", "_law_own", "_law_well_here"]:List Str) from by decide +kernel) rfl (Or.inl rfl)⟩,λ_ _ _ _=>BH,λ_ _ _ _=>(AY (dY a) hr (AB (AA 6) (AB (AA 5) (AB (bM (co:=none) (tgs:=["_law_box"]) (by wtm_at "k") (by wtm_at "k") ⟨⟨rfl,by decide +kernel,by decide +kernel,trivial,rfl,by decide +kernel⟩,rfl,⟨_,Bv,λ_ _ _ _=>Ar (i:=0) (show List.Nodup (["_law_box"]:List Str) from by decide +kernel) rfl (Or.inl rfl)⟩,λ_ _ _ _=>BH,λ_ _ _ _=>(Ab As (AA 0) AH)⟩ (Qg (AA 1)) Fb) (AB (AA 4) (AB (AA 3) (AB (BB (Bf hr) (AA 2) AH) AE)))))))⟩ (JQ a.y10 (AB (AA 9) AE)) Fb nd) (AM (Aj (BL PySem.F.slot_list_append PySem.F.type_list_append Bm (AA 6) (AB (AA 11) AE))))))))) (AG (Ap 4 nd (Ay BO AH (AY (Be a) hr (AB (AA 0) (AB AH AE))))) (AG (Ap 12 nd (BD (AB AO (AB (Ab As (BD (AB AO (AB AO (AB AO AE)))) (AY (Be a) hr (AB (AA 0) (AB AH AE)))) (AB (Aq FG a.y13 Mi.Bg (AB (AA 4) AE)) (AB (Aq FG a.y13 Mi.Bg (AB (AY (Be a) hr (AB (AA 0) (AB (AA 4) AE))) AE)) AE)))))) (AM (AZ (Cn (AB (AA 12) (AB (AA 2) (AB (AA 1) (AB (AA 6) AE)))))))))))))))
theorem Zr:Fn P w K mg base "_law_text" ["_law_told_here"] 1 (KS):=by
 obtain⟨f,fd,d⟩:=a.e6;exact C0 (k:=0) .all d.F sc_Ltext (PySem.W.mg_of a.X a.G d.a) (d.F.binds λ_ _ _ _ _ _=>lq1 λ_=>rfl) (λ_ _ _ _ _ _ hr=>have nd:=sc_Ltext.nd;(AG (Nl (AA 0) (F4 (is:=[1,2,3,4]) rfl (BA (Ar (i:=1) nd rfl (by first|exact Or.inl rfl|exact Or.inr rfl)) (BA (Ar (i:=2) nd rfl (by first|exact Or.inl rfl|exact Or.inr rfl)) (BA (Ar (i:=3) nd rfl (by first|exact Or.inl rfl|exact Or.inr rfl)) (BA (Ar (i:=4) nd rfl (by first|exact Or.inl rfl|exact Or.inr rfl)) DZ)))))) (AG (Ap 5 nd (Ay BO (BD (AB (AA 1) AE)) (AA 2))) (AG (CC PassesOwn.never rfl (KJ a.y15 (AB (AA 3) (AB (AA 4) AE))) (F4 (is:=[6,7]) rfl (BA (Ar (i:=6) nd rfl (by first|exact Or.inl rfl|exact Or.inr rfl)) (BA (Ar (i:=7) nd rfl (by first|exact Or.inl rfl|exact Or.inr rfl)) DZ))) (AM (Ap 5 nd (Ay BO (Ay BO (AA 5) (BD (AB (AA 6) AE))) (AA 7))))) (AM (AZ (Fh PySem.F.slot_str_join PySem.F.type_str_join N2 AO (AB (Io (co:=none) (tgs:=["_law_words"]) ⟨⟨rfl,by decide +kernel,by decide +kernel,trivial,rfl,by decide +kernel⟩,rfl,⟨_,Bv,λ_ _ _ _=>Ar (i:=0) (show List.Nodup (["_law_words"]:List Str) from by decide +kernel) rfl (Or.inl rfl)⟩,λ_ _ _ _=>BH,λ_ _ _ _=>(Fh PySem.F.slot_str_join PySem.F.type_str_join N2 AO (AB (AA 0) AE))⟩ (Bu (AA 5)) Fb) AE))))))))
theorem IS:Ini P w K mg base "Reading" ["self"] 1 (Cg):=by
 obtain⟨C,f,fd,d⟩:=a.e7;obtain⟨iS,LE⟩:=a.e46;exact UD (k:=0) .all d sc_Reading___init__ (PySem.W.mg_of a.X a.G d.at_) (d.F.binds λ_ _ _ _ _ _=>lq1 λ_=>rfl) (λ_ _ _ _ _ _ hr=>have nd:=sc_Reading___init__.nd;(AG (LB LE.ca (LE.na "made" (by decide +kernel)) (AA 0) B3) (AG (LB LE.ca (LE.na "boxes" (by decide +kernel)) (AA 0) (CT AE)) (AG (LB LE.ca (LE.na "hands" (by decide +kernel)) (AA 0) (CT AE)) (AM (LB LE.ca (LE.na "programs" (by decide +kernel)) (AA 0) (CT AE)))))))
theorem FI:Fn P w K mg base "turned_round" ["word", "parts"] 1 (B8):=by
 obtain⟨f,fd,d⟩:=a.e8;exact C0 (k:=0) .all d.F sc_turned_round (PySem.W.mg_of a.X a.G d.a) (d.F.binds λ_ _ _ _ _ _=>lq2 λ_ _=>rfl) (λ_ _ _ _ _ _ hr=>have nd:=sc_turned_round.nd;(AM (AZ (LG (Ac (Bf hr) (AA 0) AO) (YX (AA 1) (O6 PF AH)) (AA 1)))))
theorem Es:Fn P w K mg base "is_name" ["thing"] 1 (CU):=by
 obtain⟨f,fd,d⟩:=a.e9;exact BF (k:=0) .drop d.F sc_is_name (PySem.W.mg_of a.X a.G d.a) (d.F.binds λ_ _ _ _ _ _=>lq1 λ_=>rfl) (λ_ _ _ _ _ _ hr=>have nd:=sc_is_name.nd;(AM (AZ (EZ (Ah HA a.y6 Mi.Bd (AB (AA 0) (AB (FS a.y13 Mi.Bg) AE))) (EZ (LH PH PH AH (Ah Bt a.y7 Mi.Au (AB (AA 0) AE)) AH) (E6 (Ah (aM rfl) a.y0 Mi.Py (AB (Io (co:=none) (tgs:=["sign"]) ⟨⟨rfl,by decide +kernel,by decide +kernel,trivial,rfl,by decide +kernel⟩,rfl,⟨_,Bv,λ_ _ _ _=>Ar (i:=0) (show List.Nodup (["sign"]:List Str) from by decide +kernel) rfl (Or.inl rfl)⟩,λ_ _ _ _=>BH,λ_ _ _ _=>(BB IC (AA 0) (Cq a.g6))⟩ (Vq (AA 0)) Fb) AE))))))))
theorem MJ:Fn P w K mg base "read_ground" ["word"] 2 (BT):=by
 obtain⟨f,fd,d⟩:=a.e10;exact C0 (k:=1) .all d.F sc_read_ground (PySem.W.mg_of a.X a.G d.a) (d.F.binds λ_ _ _ _ _ _=>lq1 λ_=>rfl) (λ_ _ _ _ _ _ hr=>have nd:=sc_read_ground.nd;(AG (At (RW.rt (Ik (Ac IC (AA 0) (Cq a.g14)) (JN (Ac (Bf hr) (AA 0) AO)))) (AM (AZ B3)) Ad) (AG (At (EY (AY (Es a) hr (AB (AA 0) AE))) (AM (AZ (Cn (AB AO (AB (AA 0) AE))))) Ad) (AM (AZ (LG (RW.rt (JO (Ac (Bf hr) (Ah Bt a.y7 Mi.Au (AB (AA 0) AE)) AH) (HN (Ac IC (AA 0) (Cq a.g1))))) (Cn (AB AO (AB (Aq FH a.y5 Mi.Ck (AB (AA 0) AE)) AE))) B3))))))
theorem P9:Fn P w K mg base "read_nest" ["word", "ready"] 1 (C1):=by
 obtain⟨f,fd,d⟩:=a.e11;exact C0 (k:=0) .all d.F sc_read_nest (PySem.W.mg_of a.X a.G d.a) (d.F.binds λ_ _ _ _ _ _=>lq2 λ_ _=>rfl) (λ_ _ _ _ _ _ hr=>have nd:=sc_read_nest.nd;(AG (At (RW.rt (JO (Ac IC (AA 0) (Cq a.g14)) (HN (Ac fO (Ah Bt a.y7 Mi.Au (AB (AA 1) AE)) AH)))) (AG (Ap 2 nd (D4 PySem.F.slot_list_pop PySem.F.type_list_pop LW (AA 1))) (AM (AZ (Cn (AB (AA 0) (AB (AA 2) (AB (D4 PySem.F.slot_list_pop PySem.F.type_list_pop LW (AA 1)) AE))))))) Ad) (AG (At (RW.rt (JO (Ac (Bf hr) (AA 0) AO) (HN (Ac fO (Ah Bt a.y7 Mi.Au (AB (AA 1) AE)) AH)))) (AM (AZ (Cn (AB (AA 0) (AB (D4 PySem.F.slot_list_pop PySem.F.type_list_pop LW (AA 1)) AE))))) Ad) (AM (AZ B3)))))
theorem JF:Fn P w K mg base "read_expression" ["words"] 3 (Cr):=by
 obtain⟨f,fd,d⟩:=a.e12;exact BF (k:=2) .drop d.F sc_read_expression (PySem.W.mg_of a.X a.G d.a) (d.F.binds λ_ _ _ _ _ _=>lq1 λ_=>rfl) (λ_ _ _ _ _ _ hr=>have nd:=sc_read_expression.nd;(AG (Ap 1 nd (CT AE)) (AG (CC PassesOwn.never rfl (YU a.y11 (AB (AA 0) AE)) (Ce 2 nd) (AG (Ap 3 nd (AY (MJ a) hr (AB (AA 2) AE))) (AG (At (Ac PK (AA 3) B3) (AM (Ap 3 nd (AY (P9 a) hr (AB (AA 2) (AB (AA 1) AE))))) Ad) (AG (At (Ac PK (AA 3) B3) (AM (AZ B3)) Ad) (AM (Aj (BL PySem.F.slot_list_append PySem.F.type_list_append Bm (AA 1) (AB (AA 3) AE)))))))) (AM (AZ (LG (Ac (Bf hr) (Ah Bt a.y7 Mi.Au (AB (AA 1) AE)) AH) (Ab As (AA 1) AH) B3))))))
theorem MI:Fn P w K mg base "read_number" ["word", "most_figures"] 1 (EF):=by
 obtain⟨f,fd,d⟩:=a.e13;exact C0 (k:=0) .all d.F sc_read_number (PySem.W.mg_of a.X a.G d.a) (d.F.binds λ_ _ _ _ _ _=>lq2 λ_ _=>rfl) (λ_ _ _ _ _ _ hr=>have nd:=sc_read_number.nd;(AG (At (RW.rt (Ik (Gg (Vi PH PH AH (Ah Bt a.y7 Mi.Au (AB (AA 0) AE)) (AA 1))) (JN (Gg (EY (Ah (aM rfl) a.y0 Mi.Py (AB (Io (co:=none) (tgs:=["sign"]) ⟨⟨rfl,by decide +kernel,by decide +kernel,trivial,rfl,by decide +kernel⟩,rfl,⟨_,Bv,λ_ _ _ _=>Ar (i:=0) (show List.Nodup (["sign"]:List Str) from by decide +kernel) rfl (Or.inl rfl)⟩,λ_ _ _ _=>BH,λ_ _ _ _=>(BB IC (AA 0) (Cq a.g1))⟩ (Vq (AA 0)) Fb) AE))))))) (AM (AZ B3)) Ad) (AG (At (RW.rt (JO (Ac (Bf hr) (Ab As (AA 0) AH) AO) (HN (Ac (E7 hr) (AA 0) AO)))) (AM (AZ B3)) Ad) (AM (AZ (Aq FH a.y5 Mi.Ck (AB (AA 0) AE)))))))
theorem P8:Fn P w K mg base "read_part" ["part", "word"] 4 (CZ):=by
 obtain⟨f,fd,d⟩:=a.e14;exact C0 (k:=3) .all d.F sc_read_part (PySem.W.mg_of a.X a.G d.a) (d.F.binds λ_ _ _ _ _ _=>lq2 λ_ _=>rfl) (λ_ _ _ _ _ _ hr=>have nd:=sc_read_part.nd;(AG (At (Ac (Bf hr) (AA 0) AO) (AM (AZ (AY (JF a) hr (AB (AA 1) AE)))) Ad) (AG (At (Ac IC (AA 0) (Cn (AB AO (AB AO AE)))) (AM (AZ (AY (MI a) hr (AB (AA 1) (AB (Cq a.g8) AE))))) Ad) (AG (At (Ac (Bf hr) (AA 0) AO) (AM (AZ (LG (Ac IC (AA 1) (Cq a.g3)) (AA 1) B3))) Ad) (AM (AZ (LG (EY (AY (Es a) hr (AB (AA 1) AE))) (AA 1) B3)))))))
theorem OV:Fn P w K mg base "read_parts" ["parts", "words"] 5 (Cf):=by
 obtain⟨f,fd,d⟩:=a.e15;exact C0 (k:=4) .all d.F sc_read_parts (PySem.W.mg_of a.X a.G d.a) (d.F.binds λ_ _ _ _ _ _=>lq2 λ_ _=>rfl) (λ_ _ _ _ _ _ hr=>have nd:=sc_read_parts.nd;(AG (At (Ac IC AO (AA 0)) (AG (Ap 2 nd (Ay Ip (Ah Bt a.y7 Mi.Au (AB (AA 0) AE)) AH)) (AM (Ap 1 nd (Ay BO (Cu (AA 1) Bw (Bj (AA 2))) (BD (AB (Cu (AA 1) (Bj (AA 2)) Bw) AE)))))) Ad) (AG (At (Ac (E7 hr) (Ah Bt a.y7 Mi.Au (AB (AA 1) AE)) (Ah Bt a.y7 Mi.Au (AB (AA 0) AE))) (AM (AZ B3)) Ad) (AG (bL (co:=none) (tgs:=["part", "word"]) ⟨⟨rfl,by decide +kernel,by decide +kernel,trivial,rfl,by decide +kernel⟩,rfl,⟨_,VS,λ_ _ _ _=>Qk rfl (BA (Ar (i:=0) (show List.Nodup (["part", "word"]:List Str) from by decide +kernel) rfl (Or.inl rfl)) (BA (Ar (i:=1) (show List.Nodup (["part", "word"]:List Str) from by decide +kernel) rfl (Or.inl rfl)) DZ)) rfl rfl⟩,λ_ _ _ _=>BH,λ_ _ _ _=>(AY (P8 a) hr (AB (AA 0) (AB (AA 1) AE)))⟩ (KJ a.y15 (AB (AA 0) (AB (AA 1) AE))) Fb nd) (AM (AZ (LG (EY (Ah (gL rfl) a.y1 Mi.XZ (AB (Io (co:=none) (tgs:=["thing"]) ⟨⟨rfl,by decide +kernel,by decide +kernel,trivial,rfl,by decide +kernel⟩,rfl,⟨_,Bv,λ_ _ _ _=>Ar (i:=0) (show List.Nodup (["thing"]:List Str) from by decide +kernel) rfl (Or.inl rfl)⟩,λ_ _ _ _=>BH,λ_ _ _ _=>(BB PK (AA 0) B3)⟩ (Bu (AA 3)) Fb) AE))) B3 (AA 3))))))))
theorem RK:Fn P w K mg base "read_row" ["line"] 6 (Bh):=by
 obtain⟨f,fd,d⟩:=a.e16;exact C0 (k:=5) .all d.F sc_read_row (PySem.W.mg_of a.X a.G d.a) (d.F.binds λ_ _ _ _ _ _=>lq1 λ_=>rfl) (λ_ _ _ _ _ _ hr=>have nd:=sc_read_row.nd;(AG (Ap 1 nd (Fh PySem.F.slot_str_split PySem.F.type_str_split SY (AA 0) (AB AO AE))) (AG (Ap 2 nd (Z4 a.g15 (AB (Ab As (AA 1) AH) (AB (Z4 a.g16 (AB (Ab As (AA 1) AH) AE)) AE)))) (AG (At (Ac PK (AA 2) B3) (AM (AZ B3)) Ad) (AG (Ap 3 nd (AY (OV a) hr (AB (AY (FI a) hr (AB (Ab As (AA 1) AH) (AB (AA 2) AE))) (AB (Cu (AA 1) (Bj AH) Bw) AE)))) (AG (At (Ac PK (AA 3) B3) (AM (AZ B3)) Ad) (AM (AZ (Ay BO (Cn (AB (Ab As (AA 1) AH) AE)) (AY (FI a) hr (AB (Ab As (AA 1) AH) (AB (Aq Kb a.y14 Mi.DR (AB (AA 3) AE)) AE))))))))))))
theorem HD:Mth P w K mg base "Reading" "lets_stand" ["self", "word"] 1 (Ao):=by
 obtain⟨C,f,fd,d⟩:=a.e17;obtain⟨iS,LE⟩:=a.e46;exact JT (k:=0) .all d sc_Reading_lets_stand (d.F.binds λ_ _ _ _ _ _=>lq2 λ_ _=>rfl) (λ_ _ _ _ _ _ hr=>have nd:=sc_Reading_lets_stand.nd;(AG (At (Ac (Bf hr) (AA 1) AO) (AM (AZ (BB PK (C6 LE.ca (LE.na "made" (by decide +kernel)) (AA 0)) B3))) Ad) (AG (At (Ac PK (C6 LE.ca (LE.na "made" (by decide +kernel)) (AA 0)) B3) (AM (AZ GL)) Ad) (AG (At (Ac (Bf hr) (AA 1) AO) (AM (AZ (EZ (BB (Bf hr) (Ah Bt a.y7 Mi.Au (AB (C6 LE.ca (LE.na "hands" (by decide +kernel)) (AA 0)) AE)) AH) (E6 (BB ME (Ah Bt a.y7 Mi.Au (AB (C6 LE.ca (LE.na "boxes" (by decide +kernel)) (AA 0)) AE)) (Cq a.g7)))))) Ad) (AG (At (Ac (Bf hr) (AA 1) AO) (AM (AZ (BB ME (Ah Bt a.y7 Mi.Au (AB (C6 LE.ca (LE.na "hands" (by decide +kernel)) (AA 0)) AE)) (Cq a.g9)))) Ad) (AM (AZ (EZ (BB Tv (Ah Bt a.y7 Mi.Au (AB (C6 LE.ca (LE.na "hands" (by decide +kernel)) (AA 0)) AE)) AH) (E6 (BB ME (Ah Bt a.y7 Mi.Au (AB (Ab As (C6 LE.ca (LE.na "programs" (by decide +kernel)) (AA 0)) (O6 PF AH)) AE)) (Cq a.g10)))))))))))
theorem L9:Mth P w K mg base "Reading" "take" ["self", "row"] 1 (A7):=by
 obtain⟨C,f,fd,d⟩:=a.e18;obtain⟨iS,LE⟩:=a.e46;exact JT (k:=0) .all d sc_Reading_take (d.F.binds λ_ _ _ _ _ _=>lq2 λ_ _=>rfl) (λ_ _ _ _ _ _ hr=>have nd:=sc_Reading_take.nd;(AM (At (Ac (Bf hr) (Ab As (AA 1) AH) AO) (AM (LB LE.ca (LE.na "made" (by decide +kernel)) (AA 0) (Cu (AA 1) (Bj AH) Bw))) (AM (At (Ac (Bf hr) (Ab As (AA 1) AH) AO) (AM (Aj (BL PySem.F.slot_list_append PySem.F.type_list_append Bm (C6 LE.ca (LE.na "boxes" (by decide +kernel)) (AA 0)) (AB (Cu (AA 1) (Bj AH) Bw) AE)))) (AM (At (Ac (Bf hr) (Ab As (AA 1) AH) AO) (AG (Aj (BL PySem.F.slot_list_append PySem.F.type_list_append Bm (C6 LE.ca (LE.na "hands" (by decide +kernel)) (AA 0)) (AB (Cu (AA 1) (Bj AH) Bw) AE))) (AM (Aj (BL PySem.F.slot_list_append PySem.F.type_list_append Bm (C6 LE.ca (LE.na "programs" (by decide +kernel)) (AA 0)) (AB (CT AE) AE))))) (AM (Aj (BL PySem.F.slot_list_append PySem.F.type_list_append Bm (Ab As (C6 LE.ca (LE.na "programs" (by decide +kernel)) (AA 0)) (O6 PF AH)) (AB (AA 1) AE)))))))))))
theorem GT:Mth P w K mg base "Reading" "told_making" ["self"] 1 (CB):=by
 obtain⟨C,f,fd,d⟩:=a.e19;obtain⟨iS,LE⟩:=a.e46;exact JT (k:=0) .all d sc_Reading_told_making (d.F.binds λ_ _ _ _ _ _=>lq1 λ_=>rfl) (λ_ _ _ _ _ _ hr=>have nd:=sc_Reading_told_making.nd;(AG (eL (co:=none) (tgs:=["hand", "rows"]) (by wtm_at "k") (by wtm_at "k") ⟨⟨rfl,by decide +kernel,by decide +kernel,trivial,rfl,by decide +kernel⟩,rfl,⟨_,VS,λ_ _ _ _=>Qk rfl (BA (Ar (i:=0) (show List.Nodup (["hand", "rows"]:List Str) from by decide +kernel) rfl (Or.inl rfl)) (BA (Ar (i:=1) (show List.Nodup (["hand", "rows"]:List Str) from by decide +kernel) rfl (Or.inl rfl)) DZ)) rfl rfl⟩,λ_ _ _ _=>BH,λ_ _ _ _=>(Ay BO (AA 0) (Cn (AB (Aq Kb a.y14 Mi.DR (AB (AA 1) AE)) AE)))⟩ (YS a.y15 (AB (C6 LE.ca (LE.na "hands" (by decide +kernel)) (AA 0)) (AB (C6 LE.ca (LE.na "programs" (by decide +kernel)) (AA 0)) AE))) Fb nd) (AM (AZ (Ay BO (C6 LE.ca (LE.na "made" (by decide +kernel)) (AA 0)) (Cn (AB (Aq Kb a.y14 Mi.DR (AB (C6 LE.ca (LE.na "boxes" (by decide +kernel)) (AA 0)) AE)) (AB (Aq Kb a.y14 Mi.DR (AB (AA 1) AE)) AE))))))))
theorem DS:Fn P w K mg base "is_tuple" ["thing", "least", "most"] 1 (CQ):=by
 obtain⟨f,fd,d⟩:=a.e20;exact BF (k:=0) .drop d.F sc_is_tuple (PySem.W.mg_of a.X a.G d.a) (d.F.binds λ_ _ _ _ _ _=>lq3 λ_ _ _=>rfl) (λ_ _ _ _ _ _ hr=>have nd:=sc_is_tuple.nd;(AM (AZ (EZ (Ah HA a.y6 Mi.Bd (AB (AA 0) (AB (FS a.y14 Mi.DR) AE))) (E6 (LH PH PH (AA 1) (Ah Bt a.y7 Mi.Au (AB (AA 0) AE)) (AA 2)))))))
theorem Br:Fn P w K mg base "need" ["holds", "words"] 1 (B9):=by
 obtain⟨f,fd,d⟩:=a.e21;exact BF (k:=0) .drop d.F sc_need (PySem.W.mg_of a.X a.G d.a) (d.F.binds λ_ _ _ _ _ _=>lq2 λ_ _=>rfl) (λ_ _ _ _ _ _ hr=>have nd:=sc_need.nd;(AM (At (Gg (EY (AA 0))) (AM Il) Ad)))
theorem FJ:Fn P w K mg base "is_whole" ["thing", "least", "most"] 1 (DP):=by
 obtain⟨f,fd,d⟩:=a.e22;exact BF (k:=0) .drop d.F sc_is_whole (PySem.W.mg_of a.X a.G d.a) (d.F.binds λ_ _ _ _ _ _=>lq3 λ_ _ _=>rfl) (λ_ _ _ _ _ _ hr=>have nd:=sc_is_whole.nd;(AM (AZ (EZ (Ah HA a.y6 Mi.Bd (AB (AA 0) (AB (FS a.y5 Mi.Ck) AE))) (EZ (bG (Ah HA a.y6 Mi.Bd (AB (AA 0) (AB (FS a.y2 Mi.UY) AE)))) (E6 (LH PH PH (AA 1) (AA 0) (AA 2))))))))
theorem HB:Fn P w K mg base "check_worths" ["kind", "size", "begin"] 2 (CV):=by
 obtain⟨f,fd,d⟩:=a.e23;exact BF (k:=1) .drop d.F sc_check_worths (PySem.W.mg_of a.X a.G d.a) (d.F.binds λ_ _ _ _ _ _=>lq3 λ_ _ _=>rfl) (λ_ _ _ _ _ _ hr=>have nd:=sc_check_worths.nd;(AG (Aj (AY (Br a) hr (AB (BB IC (AA 0) (Cq a.g3)) (AB AO AE)))) (AG (Aj (AY (Br a) hr (AB (AY (FJ a) hr (AB (AA 1) (AB (Cq a.g5) (AB (Cq a.g11) AE)))) (AB AO AE)))) (AM (Aj (AY (Br a) hr (AB (AY (FJ a) hr (AB (AA 2) (AB AH (AB (Ay Ip (AA 1) AH) AE)))) (AB AO AE))))))))
theorem JH:Fn P w K mg base "are_unlike" ["names"] 1 (Ej):=by
 obtain⟨f,fd,d⟩:=a.e24;exact BF (k:=0) .drop d.F sc_are_unlike (PySem.W.mg_of a.X a.G d.a) (d.F.binds λ_ _ _ _ _ _=>lq1 λ_=>rfl) (λ_ _ _ _ _ _ hr=>have nd:=sc_are_unlike.nd;(AM (AZ (BB (Bf hr) (Th a.y7 a.y12 (AA 0)) (Ah Bt a.y7 Mi.Au (AB (AA 0) AE))))))
theorem ML:Fn P w K mg base "check_boxes" ["boxes"] 3 (EI):=by
 obtain⟨f,fd,d⟩:=a.e25;exact BF (k:=2) .drop d.F sc_check_boxes (PySem.W.mg_of a.X a.G d.a) (d.F.binds λ_ _ _ _ _ _=>lq1 λ_=>rfl) (λ_ _ _ _ _ _ hr=>have nd:=sc_check_boxes.nd;(AG (Aj (AY (Br a) hr (AB (AY (DS a) hr (AB (AA 0) (AB AH (AB (Cq a.g7) AE)))) (AB AO AE)))) (AG (CC PassesOwn.never rfl (Bu (AA 0)) (Ce 1 nd) (AG (Aj (AY (Br a) hr (AB (AY (DS a) hr (AB (AA 1) (AB AH (AB AH AE)))) (AB AO AE)))) (AG (Aj (AY (Br a) hr (AB (AY (Es a) hr (AB (Ab As (AA 1) AH) AE)) (AB AO AE)))) (AM (Aj (AY (HB a) hr (AB (Ab As (AA 1) AH) (AB (Ab As (AA 1) AH) (AB (Ab As (AA 1) AH) AE))))))))) (AM (Aj (AY (Br a) hr (AB (AY (JH a) hr (AB (Io (co:=none) (tgs:=["box"]) ⟨⟨rfl,by decide +kernel,by decide +kernel,trivial,rfl,by decide +kernel⟩,rfl,⟨_,Bv,λ_ _ _ _=>Ar (i:=0) (show List.Nodup (["box"]:List Str) from by decide +kernel) rfl (Or.inl rfl)⟩,λ_ _ _ _=>BH,λ_ _ _ _=>(Ab As (AA 0) AH)⟩ (Bu (AA 0)) Fb) AE)) (AB AO AE))))))))
theorem MK:Fn P w K mg base "check_hands" ["hands"] 2 (EH):=by
 obtain⟨f,fd,d⟩:=a.e26;exact BF (k:=1) .drop d.F sc_check_hands (PySem.W.mg_of a.X a.G d.a) (d.F.binds λ_ _ _ _ _ _=>lq1 λ_=>rfl) (λ_ _ _ _ _ _ hr=>have nd:=sc_check_hands.nd;(AG (Aj (AY (Br a) hr (AB (AY (DS a) hr (AB (AA 0) (AB (Cq a.g4) (AB (Cq a.g9) AE)))) (AB AO AE)))) (AG (CC PassesOwn.never rfl (Bu (AA 0)) (Ce 1 nd) (AG (Aj (AY (Br a) hr (AB (AY (DS a) hr (AB (AA 1) (AB AH (AB AH AE)))) (AB AO AE)))) (AG (Aj (AY (Br a) hr (AB (AY (Es a) hr (AB (Ab As (AA 1) AH) AE)) (AB AO AE)))) (AG (Aj (AY (Br a) hr (AB (AY (FJ a) hr (AB (Ab As (AA 1) AH) (AB AH (AB (Cq a.g12) AE)))) (AB AO AE)))) (AM (Aj (AY (Br a) hr (AB (AY (DS a) hr (AB (Ab As (AA 1) AH) (AB AH (AB (Cq a.g10) AE)))) (AB AO AE))))))))) (AM (Aj (AY (Br a) hr (AB (AY (JH a) hr (AB (Io (co:=none) (tgs:=["hand"]) ⟨⟨rfl,by decide +kernel,by decide +kernel,trivial,rfl,by decide +kernel⟩,rfl,⟨_,Bv,λ_ _ _ _=>Ar (i:=0) (show List.Nodup (["hand"]:List Str) from by decide +kernel) rfl (Or.inl rfl)⟩,λ_ _ _ _=>BH,λ_ _ _ _=>(Ab As (AA 0) AH)⟩ (Bu (AA 0)) Fb) AE)) (AB AO AE))))))))
theorem J8(n:Nat):Fn P w K mg base "is_expression" ["thing", "deep"] (n+2) (DH n):=by
 obtain⟨f,fd,d⟩:=a.e27
 induction n with
 |zero=>exact Iy d.F (PySem.W.mg_of a.X a.G d.a) (d.F.binds λ_ _ _ _ _ _=>lq2 λ_ _=>rfl)
 |succ n ih=>exact(BF (k:=n+2) .drop d.F sc_is_expression (PySem.W.mg_of a.X a.G d.a) (d.F.binds λ_ _ _ _ _ _=>lq2 λ_ _=>rfl) (λ_ _ _ _ _ _ hr=>have nd:=sc_is_expression.nd;(AG (At (RW.rt (Ik (Ac ME (AA 1) AH) (Ik (Gg (EY (Ah HA a.y6 Mi.Bd (AB (AA 0) (AB (FS a.y14 Mi.DR) AE))))) (JN (Ac (Bf hr) (Ah Bt a.y7 Mi.Au (AB (AA 0) AE)) AH))))) (AM (AZ GL)) Ad) (AG (Ap 2 nd (Ab As (AA 0) AH)) (AG (At (Ac IC (AA 2) (Cq a.g14)) (AM (AZ (EZ (BB (Bf hr) (Ah Bt a.y7 Mi.Au (AB (AA 0) AE)) AH) (EZ (AY (hkj:=AAE _) ih hr (AB (Ab As (AA 0) AH) (AB (Ay Ip (AA 1) AH) AE))) (E6 (AY (hkj:=AAE _) ih hr (AB (Ab As (AA 0) AH) (AB (Ay Ip (AA 1) AH) AE)))))))) Ad) (AG (At (Ac (E7 hr) (Ah Bt a.y7 Mi.Au (AB (AA 0) AE)) AH) (AM (AZ GL)) Ad) (AG (At (Ac (Bf hr) (AA 2) AO) (AM (AZ (AY (hkj:=by omega) (FJ a) hr (AB (Ab As (AA 0) AH) (AB AH (AB (Cq a.g2) AE)))))) Ad) (AG (At (Ac (Bf hr) (AA 2) AO) (AM (AZ (AY (hkj:=by omega) (Es a) hr (AB (Ab As (AA 0) AH) AE)))) Ad) (AM (AZ (EZ (BB (Bf hr) (AA 2) AO) (E6 (AY (hkj:=AAE _) ih hr (AB (Ab As (AA 0) AH) (AB (Ay Ip (AA 1) AH) AE))))))))))))))).mono (by omega)
theorem Uc:Fn P w K mg base "is_part" ["part", "thing", "length"] 9 (Ep):=by
 obtain⟨f,fd,d⟩:=a.e28;exact BF (k:=8) .drop d.F sc_is_part (PySem.W.mg_of a.X a.G d.a) (d.F.binds λ_ _ _ _ _ _=>lq3 λ_ _ _=>rfl) (λ_ _ _ _ _ _ hr=>have nd:=sc_is_part.nd;(AG (At (Ac (Bf hr) (AA 0) AO) (AM (AZ (AY (J8 a 6) hr (AB (AA 1) (AB (Cq a.g0) AE))))) Ad) (AG (At (Ac (Bf hr) (AA 0) AO) (AM (AZ (AY (FJ a) hr (AB (AA 1) (AB AH (AB (AA 2) AE)))))) Ad) (AM (AZ (AY (Es a) hr (AB (AA 1) AE)))))))
theorem OX:Fn P w K mg base "check_form" ["row", "length"] 10 (Ei):=by
 obtain⟨f,fd,d⟩:=a.e29;exact BF (k:=9) .drop d.F sc_check_form (PySem.W.mg_of a.X a.G d.a) (d.F.binds λ_ _ _ _ _ _=>lq2 λ_ _=>rfl) (λ_ _ _ _ _ _ hr=>have nd:=sc_check_form.nd;(AG (Aj (AY (Br a) hr (AB (AY (DS a) hr (AB (AA 0) (AB AH (AB AH AE)))) (AB AO AE)))) (AG (Aj (AY (Br a) hr (AB (EZ (Ah HA a.y6 Mi.Bd (AB (Ab As (AA 0) AH) (AB (FS a.y13 Mi.Bg) AE))) (E6 (bH a.g16 (Ab As (AA 0) AH)))) (AB AO AE)))) (AG (Ap 2 nd (SH a.g16 (Ab As (AA 0) AH))) (AG (Aj (AY (Br a) hr (AB (BB (Bf hr) (Ah Bt a.y7 Mi.Au (AB (AA 0) AE)) (Ay Js AH (Ah Bt a.y7 Mi.Au (AB (AA 2) AE)))) (AB AO AE)))) (AM (CC PassesOwn.never rfl (SE a.y15 (AB (AA 2) (AB (Vy (AA 0) (Bj AH) Bw) AE))) (F4 (is:=[3,4]) rfl (BA (Ar (i:=3) nd rfl (by first|exact Or.inl rfl|exact Or.inr rfl)) (BA (Ar (i:=4) nd rfl (by first|exact Or.inl rfl|exact Or.inr rfl)) DZ))) (AM (Aj (AY (Br a) hr (AB (AY (Uc a) hr (AB (AA 3) (AB (AA 4) (AB (AA 1) AE)))) (AB (Ti (SB AO (SB (bJ (AA 3)) bD))) AE))))))))))))
theorem L8:Fn P w K mg base "check_ending" ["word", "is_writer"] 2 (CW):=by
 obtain⟨f,fd,d⟩:=a.e30;exact BF (k:=1) .drop d.F sc_check_ending (PySem.W.mg_of a.X a.G d.a) (d.F.binds λ_ _ _ _ _ _=>lq2 λ_ _=>rfl) (λ_ _ _ _ _ _ hr=>have nd:=sc_check_ending.nd;(AM (At (EY (AA 1)) (AM (Aj (AY (Br a) hr (AB (BB (E7 hr) (AA 0) AO) (AB AO AE))))) (AM (Aj (AY (Br a) hr (AB (BB (E7 hr) (AA 0) AO) (AB AO AE))))))))
theorem L6(n:Nat):Fn P w K mg base "variables_in" ["expression"] (n+1) (Bp n):=by
 obtain⟨f,fd,d⟩:=a.e31
 induction n with
 |zero=>exact Iy d.F (PySem.W.mg_of a.X a.G d.a) (d.F.binds λ_ _ _ _ _ _=>lq1 λ_=>rfl)
 |succ n ih=>exact(BF (k:=n+1) .frz d.F sc_variables_in (PySem.W.mg_of a.X a.G d.a) (d.F.binds λ_ _ _ _ _ _=>lq1 λ_=>rfl) (λ_ _ _ _ _ _ hr=>have nd:=sc_variables_in.nd;(AG (At (Ac (Bf hr) (Ab As (AA 0) AH) AO) (AM (AZ (BD AE))) Ad) (AG (At (Ac (Bf hr) (Ab As (AA 0) AH) AO) (AM (AZ (BD (AB (Ab As (AA 0) AH) AE)))) Ad) (AG (Ap 1 nd (CT AE)) (AG (CC PassesOwn.never rfl (Bu (Vy (AA 0) (Bj AH) Bw)) (Ce 2 nd) (AM (Aj (BL PySem.F.slot_list_extend PySem.F.type_list_extend Go (AA 1) (AB (AY (hkj:=AAE _) ih hr (AB (AA 2) AE)) AE))))) (AM (AZ (AA 1))))))))).mono (by omega)
theorem L5:Fn P w K mg base "variables_of" ["row"] 8 (De):=by
 obtain⟨f,fd,d⟩:=a.e32;exact BF (k:=7) .frz d.F sc_variables_of (PySem.W.mg_of a.X a.G d.a) (d.F.binds λ_ _ _ _ _ _=>lq1 λ_=>rfl) (λ_ _ _ _ _ _ hr=>have nd:=sc_variables_of.nd;(AG (Ap 1 nd (CT AE)) (AG (CC PassesOwn.never rfl (SE a.y15 (AB (SH a.g16 (Ab As (AA 0) AH)) (AB (Vy (AA 0) (Bj AH) Bw) AE))) (F4 (is:=[2,3]) rfl (BA (Ar (i:=2) nd rfl (by first|exact Or.inl rfl|exact Or.inr rfl)) (BA (Ar (i:=3) nd rfl (by first|exact Or.inl rfl|exact Or.inr rfl)) DZ))) (AG (At (Ac (Bf hr) (AA 2) AO) (AM (Aj (BL PySem.F.slot_list_append PySem.F.type_list_append Bm (AA 1) (AB (AA 3) AE)))) Ad) (AM (At (Ac (Bf hr) (AA 2) AO) (AM (Aj (BL PySem.F.slot_list_extend PySem.F.type_list_extend Go (AA 1) (AB (AY (L6 a 6) hr (AB (AA 3) AE)) AE)))) Ad)))) (AM (AZ (AA 1))))))
theorem JG:Fn P w K mg base "check_variables" ["row", "is_writer"] 9 (Ct):=by
 obtain⟨f,fd,d⟩:=a.e33;exact BF (k:=8) .drop d.F sc_check_variables (PySem.W.mg_of a.X a.G d.a) (d.F.binds λ_ _ _ _ _ _=>lq2 λ_ _=>rfl) (λ_ _ _ _ _ _ hr=>have nd:=sc_check_variables.nd;(AG (CC PassesOwn.never rfl (Bu (AY (L5 a) hr (AB (AA 0) AE))) (Ce 2 nd) (AG (Aj (AY (Br a) hr (AB (BB Y5 (AA 2) (Cq a.g13)) (AB AO AE)))) (AM (Aj (AY (Br a) hr (AB (Z3 (AA 1) (E6 (BB (E7 hr) (AA 2) AO))) (AB AO AE))))))) (AM (At (Ac IC (Ab As (AA 0) AH) (Cn (AB AO (AB AO AE)))) (AM (Aj (AY (Br a) hr (AB (BB (E7 hr) (Ab As (AA 0) AH) AO) (AB AO AE))))) Ad))))
theorem OW:Fn P w K mg base "check_rows" ["hand", "is_writer", "writers"] 11 (Eh):=by
 obtain⟨f,fd,d⟩:=a.e34;exact BF (k:=10) .drop d.F sc_check_rows (PySem.W.mg_of a.X a.G d.a) (d.F.binds λ_ _ _ _ _ _=>lq3 λ_ _ _=>rfl) (λ_ _ _ _ _ _ hr=>have nd:=sc_check_rows.nd;(AM (CC PassesOwn.never rfl (Bu (Ab As (AA 0) AH)) (Ce 3 nd) (AG (Aj (AY (OX a) hr (AB (AA 3) (AB (Ah Bt a.y7 Mi.Au (AB (Ab As (AA 0) AH) AE)) AE)))) (AG (Aj (AY (L8 a) hr (AB (Ab As (AA 3) AH) (AB (AA 1) AE)))) (AG (Aj (AY (JG a) hr (AB (AA 3) (AB (AA 1) AE)))) (AG (At (Ac (Bf hr) (Ab As (AA 3) AH) AO) (AM (Aj (AY (Br a) hr (AB (BB (Bf hr) (V2 hr (AA 2) (Ab As (AA 3) AH)) (Ab As (AA 0) AH)) (AB AO AE))))) Ad) (AM (At (Ac (Bf hr) (Ab As (AA 3) AH) AO) (AM (Aj (AY (Br a) hr (AB (bK hr (Ab As (AA 3) AH) (AA 2)) (AB AO AE))))) Ad)))))))))
theorem HC:Fn P w K mg base "check_making" ["making"] 12 (Dh):=by
 obtain⟨f,fd,d⟩:=a.e35;exact BF (k:=11) .drop d.F sc_check_making (PySem.W.mg_of a.X a.G d.a) (d.F.binds λ_ _ _ _ _ _=>lq1 λ_=>rfl) (λ_ _ _ _ _ _ hr=>have nd:=sc_check_making.nd;(AG (Aj (AY (Br a) hr (AB (AY (DS a) hr (AB (AA 0) (AB AH (AB AH AE)))) (AB AO AE)))) (AG (Aj (AY (HB a) hr (AB (Ab As (AA 0) AH) (AB (Ab As (AA 0) AH) (AB (Ab As (AA 0) AH) AE))))) (AG (Aj (AY (ML a) hr (AB (Ab As (AA 0) AH) AE))) (AG (Aj (AY (MK a) hr (AB (Ab As (AA 0) AH) AE))) (AG (bL (co:=none) (tgs:=["hand"]) ⟨⟨rfl,by decide +kernel,by decide +kernel,trivial,rfl,by decide +kernel⟩,rfl,⟨_,Bv,λ_ _ _ _=>Ar (i:=0) (show List.Nodup (["hand"]:List Str) from by decide +kernel) rfl (Or.inl rfl)⟩,λ_ _ _ _=>BH,λ_ _ _ _=>(Ab As (AA 0) AH)⟩ (Bu (Ab As (AA 0) AH)) Fb nd) (AG (Ap 2 nd YZ) (AG (CC PassesOwn.never rfl (Bu (Ab As (AA 0) AH)) (Ce 3 nd) (AG (Aj (AY (Br a) hr (AB (BB IC (Ab As (AA 3) AH) (AA 1)) (AB AO AE)))) (AM (YM hr (AA 2) (Ab As (AA 3) AH) (Ab As (AA 3) AH))))) (AM (CC PassesOwn.never rfl (Vr a.y4 (AB (Ab As (AA 0) AH) AE)) (F4 (is:=[4,5]) rfl (BA (Ar (i:=4) nd rfl (by first|exact Or.inl rfl|exact Or.inr rfl)) (BA (Ar (i:=5) nd rfl (by first|exact Or.inl rfl|exact Or.inr rfl)) DZ))) (AM (Aj (AY (OW a) hr (AB (AA 5) (AB (BB (Bf hr) (AA 4) AH) (AB (AA 2) AE))))))))))))))))
theorem Hn:Fn P w K mg base "read_making" ["text"] 13 (EG):=by
 obtain⟨f,fd,d⟩:=a.e36;obtain⟨iS,LE⟩:=a.e46;exact BF (k:=12) .drop d.F sc_read_making (PySem.W.mg_of a.X a.G d.a) (d.F.binds λ_ _ _ _ _ _=>lq1 λ_=>rfl) (λ_ _ _ _ _ _ hr=>have nd:=sc_read_making.nd;(AG (At (Gg (EY (Ah HA a.y6 Mi.Bd (AB (AA 0) (AB (FS a.y13 Mi.Bg) AE))))) (AM Il) Ad) (AG (Ap 1 nd (Fh PySem.F.slot_str_split PySem.F.type_str_split SY (AA 0) (AB AO AE))) (AG (Ap 2 nd (V0 (IS a) hr)) (AG (CC PassesOwn.never rfl (Vs a.y4 (AB (AA 1) AE)) (F4 (is:=[3,4]) rfl (BA (Ar (i:=3) nd rfl (by first|exact Or.inl rfl|exact Or.inr rfl)) (BA (Ar (i:=4) nd rfl (by first|exact Or.inl rfl|exact Or.inr rfl)) DZ))) (AG (Ap 5 nd (AY (RK a) hr (AB (AA 4) AE))) (AG (At (RW.rt (Ik (Ac PK (AA 5) B3) (JN (Gg (EY (SG (HD a) hr (AA 2) (AB (Ab As (AA 5) AH) AE))))))) (AM Il) Ad) (AM (Aj (SG (L9 a) hr (AA 2) (AB (AA 5) AE))))))) (AG (At (Ac ME (Ah Bt a.y7 Mi.Au (AB (C6 LE.ca (LE.na "hands" (by decide +kernel)) (AA 2)) AE)) (Cq a.g4)) (AM Il) Ad) (AG (Ap 6 nd (Vz (GT a) hr (AA 2))) (AG (Aj (AY (HC a) hr (AB (AA 6) AE))) (AM (AZ (AA 6)))))))))))
theorem RF(n:Nat):Fn P w K mg base "words_of" ["thing"] (n+1) (B7 n):=by
 obtain⟨f,fd,d⟩:=a.e37
 induction n with
 |zero=>exact Iy d.F (PySem.W.mg_of a.X a.G d.a) (d.F.binds λ_ _ _ _ _ _=>lq1 λ_=>rfl)
 |succ n ih=>exact(BF (k:=n+1) .frz d.F sc_words_of (PySem.W.mg_of a.X a.G d.a) (d.F.binds λ_ _ _ _ _ _=>lq1 λ_=>rfl) (λ_ _ _ _ _ _ hr=>have nd:=sc_words_of.nd;(AG (At (Gg (EY (Ah HA a.y6 Mi.Bd (AB (AA 0) (AB (FS a.y14 Mi.DR) AE))))) (AM (AZ (BD (AB (Aq FG a.y13 Mi.Bg (AB (AA 0) AE)) AE)))) Ad) (AG (At (Ac IC (Ab As (AA 0) AH) (Cn (AB AO (AB AO AE)))) (AM (AZ (BD (AB (Aq FG a.y13 Mi.Bg (AB (Ab As (AA 0) AH) AE)) AE)))) Ad) (AG (Ap 1 nd (CT (AB (Ab As (AA 0) AH) AE))) (AG (CC PassesOwn.never rfl (Bu (Cu (AA 0) (Bj AH) Bw)) (Ce 2 nd) (AM (Aj (BL PySem.F.slot_list_extend PySem.F.type_list_extend Go (AA 1) (AB (AY (hkj:=AAE _) ih hr (AB (AA 2) AE)) AE))))) (AM (AZ (AA 1))))))))).mono (by omega)
theorem P7:Fn P w K mg base "shown_row" ["row"] 8 (Bq):=by
 obtain⟨f,fd,d⟩:=a.e38;exact BF (k:=7) .drop d.F sc_shown_row (PySem.W.mg_of a.X a.G d.a) (d.F.binds λ_ _ _ _ _ _=>lq1 λ_=>rfl) (λ_ _ _ _ _ _ hr=>have nd:=sc_shown_row.nd;(AG (Ap 1 nd (CT (AB (Ab As (AA 0) AH) AE))) (AG (CC PassesOwn.never rfl (Bu (AY (FI a) hr (AB (Ab As (AA 0) AH) (AB (Cu (AA 0) (Bj AH) Bw) AE)))) (Ce 2 nd) (AM (Aj (BL PySem.F.slot_list_extend PySem.F.type_list_extend Go (AA 1) (AB (AY (RF a 6) hr (AB (AA 2) AE)) AE))))) (AM (AZ (Fh PySem.F.slot_str_join PySem.F.type_str_join N2 AO (AB (AA 1) AE)))))))
theorem L7:Fn P w K mg base "shown_making" ["making"] 9 (Dg):=by
 obtain⟨f,fd,d⟩:=a.e39;exact BF (k:=8) .drop d.F sc_shown_making (PySem.W.mg_of a.X a.G d.a) (d.F.binds λ_ _ _ _ _ _=>lq1 λ_=>rfl) (λ_ _ _ _ _ _ hr=>have nd:=sc_shown_making.nd;(AG (Ap 1 nd (CT (AB (Ay BO (Cn (AB AO AE)) (Cu (AA 0) Bw (Bj AH))) AE))) (AG (CC PassesOwn.never rfl (Bu (Ab As (AA 0) AH)) (Ce 2 nd) (AM (Aj (BL PySem.F.slot_list_append PySem.F.type_list_append Bm (AA 1) (AB (Ay BO (Cn (AB AO AE)) (AA 2)) AE))))) (AG (CC PassesOwn.never rfl (Bu (Ab As (AA 0) AH)) (Ce 3 nd) (AG (Aj (BL PySem.F.slot_list_append PySem.F.type_list_append Bm (AA 1) (AB (Ay BO (Cn (AB AO AE)) (Cu (AA 3) Bw (Bj AH))) AE))) (AM (Aj (BL PySem.F.slot_list_extend PySem.F.type_list_extend Ty (AA 1) (AB (Ab As (AA 3) AH) AE)))))) (AM (AZ (Fh PySem.F.slot_str_join PySem.F.type_str_join N2 AO (AB (bM (co:=none) (tgs:=["row"]) (by wtm_at "k") (by wtm_at "k") ⟨⟨rfl,by decide +kernel,by decide +kernel,trivial,rfl,by decide +kernel⟩,rfl,⟨_,Bv,λ_ _ _ _=>Ar (i:=0) (show List.Nodup (["row"]:List Str) from by decide +kernel) rfl (Or.inl rfl)⟩,λ_ _ _ _=>BH,λ_ _ _ _=>(bI (P7 a) hr (AB (AA 0) AE))⟩ (Qg (AA 1)) Fb) AE))))))))
theorem EW:Fn P w K mg base "one_where" ["holds"] 1 (CK):=by
 obtain⟨f,fd,d⟩:=a.e40;exact C0 (k:=0) .all d.F sc_one_where (PySem.W.mg_of a.X a.G d.a) (d.F.binds λ_ _ _ _ _ _=>lq1 λ_=>rfl) (λ_ _ _ _ _ _ hr=>have nd:=sc_one_where.nd;(AM (AZ (LG (EY (AA 0)) AH AH))))
theorem Jj:Fn P w K mg base "number_of_pair" ["word", "first", "second"] 2 (BW):=by
 obtain⟨f,fd,d⟩:=a.e41;exact C0 (k:=1) .all d.F sc_number_of_pair (PySem.W.mg_of a.X a.G d.a) (d.F.binds λ_ _ _ _ _ _=>lq3 λ_ _ _=>rfl) (λ_ _ _ _ _ _ hr=>have nd:=sc_number_of_pair.nd;(AG (At (Ac (Bf hr) (AA 0) AO) (AM (AZ (Ah (aL rfl) a.y9 Mi.Px (AB (Ay BO (AA 1) (AA 2)) (AB (Cq a.g2) AE))))) Ad) (AG (At (Ac (Bf hr) (AA 0) AO) (AM (AZ (Ah (XW rfl) a.y8 Mi.Lx (AB (Ay Ip (AA 1) (AA 2)) (AB AH AE))))) Ad) (AG (At (Ac (Bf hr) (AA 0) AO) (AM (AZ (AY (EW a) hr (AB (BB (Bf hr) (AA 1) (AA 2)) AE)))) Ad) (AG (At (Ac (Bf hr) (AA 0) AO) (AM (AZ (AY (EW a) hr (AB (BB ME (AA 1) (AA 2)) AE)))) Ad) (AG (At (Ac (Bf hr) (AA 0) AO) (AM (AZ (AY (EW a) hr (AB (EZ (BB (E7 hr) (AA 1) AH) (E6 (BB (E7 hr) (AA 2) AH))) AE)))) Ad) (AM (AZ (AY (EW a) hr (AB (Z3 (BB (E7 hr) (AA 1) AH) (E6 (BB (E7 hr) (AA 2) AH))) AE))))))))))
theorem QA(n:Nat):Fn P w K mg base "number_of" ["expression", "numbers"] (n+3) (f_number_of n):=by
 obtain⟨f,fd,d⟩:=a.e42
 induction n with
 |zero=>exact Iy d.F (PySem.W.mg_of a.X a.G d.a) (d.F.binds λ_ _ _ _ _ _=>lq2 λ_ _=>rfl)
 |succ n ih=>exact(C0 (k:=n+3) .all d.F sc_number_of (PySem.W.mg_of a.X a.G d.a) (d.F.binds λ_ _ _ _ _ _=>lq2 λ_ _=>rfl) (λ_ _ _ _ _ _ hr=>have nd:=sc_number_of.nd;(AG (Ap 2 nd (Ab As (AA 0) AH)) (AG (At (Ac (Bf hr) (AA 2) AO) (AM (AZ (Ab As (AA 0) AH))) Ad) (AG (At (Ac (Bf hr) (AA 2) AO) (AM (AZ (SI hr (AA 1) (Ab As (AA 0) AH)))) Ad) (AG (Ap 3 nd (AY (hkj:=AAE _) ih hr (AB (Ab As (AA 0) AH) (AB (AA 1) AE)))) (AG (At (Ac (Bf hr) (AA 2) AO) (AM (AZ (AY (hkj:=by omega) (EW a) hr (AB (BB (Bf hr) (AA 3) AH) AE)))) Ad) (AM (AZ (AY (hkj:=by omega) (Jj a) hr (AB (AA 2) (AB (AA 3) (AB (AY (hkj:=AAE _) ih hr (AB (Ab As (AA 0) AH) (AB (AA 1) AE))) AE))))))))))))).mono (by omega)
theorem Ud:Fn P w K mg base "_law_number" ["_law_words", "_law_numbers"] 1 (C5):=by
 obtain⟨f,fd,d⟩:=a.e43;exact BF (k:=0) .drop d.F sc_Lnumber (PySem.W.mg_of a.X a.G d.a) (d.F.binds λ_ _ _ _ _ _=>lq2 λ_ _=>rfl) (λ_ _ _ _ _ _ hr=>have nd:=sc_Lnumber.nd;(AG (Ap 2 nd (CT AE)) (AG (CC PassesOwn.never rfl (Bu (YW (AA 0) (O6 PF AH))) (Ce 3 nd) (AM (At (Ac (Bf hr) (AA 3) AO) (AM (Aj (BL PySem.F.slot_list_append PySem.F.type_list_append Bm (AA 2) (AB (Aq FH a.y5 Mi.Ck (AB (BB (Bf hr) (D4 PySem.F.slot_list_pop PySem.F.type_list_pop LW (AA 2)) AH) AE)) AE)))) (AM (At (Ac IC (AA 3) (Cn (AB AO (AB AO (AB AO (AB AO (AB AO (AB AO AE)))))))) (AG (Ap 4 nd (D4 PySem.F.slot_list_pop PySem.F.type_list_pop LW (AA 2))) (AG (Ap 5 nd (D4 PySem.F.slot_list_pop PySem.F.type_list_pop LW (AA 2))) (AG (Ap 6 nd (O8 (HP (Ah (aL rfl) a.y9 Mi.Px (AB AH (AB (Ay BO (AA 4) (AA 5)) AE))) (HP (Ah (XW rfl) a.y8 Mi.Lx (AB AH (AB (Ay Ip (AA 4) (AA 5)) AE))) (HP (Aq FH a.y5 Mi.Ck (AB (BB (Bf hr) (AA 4) (AA 5)) AE)) Vk))))) (AG (Aj (O7 PySem.F.slot_dict_update PySem.F.type_dict_update Wm (AA 6) (AB (O8 (HP (Aq FH a.y5 Mi.Ck (AB (BB ME (AA 4) (AA 5)) AE)) (HP (Aq FH a.y5 Mi.Ck (AB (BB Tv (Ay LR (AA 4) (AA 5)) AH) AE)) (HP (Aq FH a.y5 Mi.Ck (AB (BB Tv (Ay BO (AA 4) (AA 5)) AH) AE)) Vk)))) AE))) (AM (Aj (BL PySem.F.slot_list_append PySem.F.type_list_append Bm (AA 2) (AB (SI hr (AA 6) (AA 3)) AE)))))))) (AM (Aj (BL PySem.F.slot_list_append PySem.F.type_list_append Bm (AA 2) (AB (V1 hr (AA 1) (AA 3) (O6 PF AH)) AE))))))))) (AM (AZ (Ab As (AA 2) AH))))))
theorem OY:Fn P w K mg base "_law_row_right" ["_law_row_here", "_law_words", "_law_well_here"] 10 (Dj):=by
 obtain⟨f,fd,d⟩:=a.e44;exact BF (k:=9) .drop d.F sc_Lrow_right (PySem.W.mg_of a.X a.G d.a) (d.F.binds λ_ _ _ _ _ _=>lq3 λ_ _ _=>rfl) (λ_ _ _ _ _ _ hr=>have nd:=sc_Lrow_right.nd;(AG (At (Ac (E7 hr) (Ab As (AA 0) AH) (Ab As (AA 1) AH)) (AM (AZ GL)) Ad) (AG (At (Ac IC (Ab As (AA 1) AH) (Cn (AB AO (AB AO (AB AO AE))))) (AM (AZ (BB (Bf hr) (Io (co:=none) (tgs:=["_law_part"]) ⟨⟨rfl,by decide +kernel,by decide +kernel,trivial,rfl,by decide +kernel⟩,rfl,⟨_,Bv,λ_ _ _ _=>Ar (i:=0) (show List.Nodup (["_law_part"]:List Str) from by decide +kernel) rfl (Or.inl rfl)⟩,λ_ _ _ _=>BH,λ_ _ _ _=>(Aq FG a.y13 Mi.Bg (AB (AA 0) AE))⟩ (Bu (AA 0)) Fb) (AA 1)))) Ad) (AG (Ap 3 nd (Ab As (AA 0) AH)) (AG (Ap 4 nd (Cu (AA 1) (Bj AH) Bw)) (AG (At (Ac (E7 hr) (Ab As (AA 1) AH) AO) (AG (Ap 4 nd (Cu (AA 1) (Bj AH) Bw)) (AG (Ap 3 nd (Ab As (AA 0) (Ab As (BD (AB AH (AB AH AE))) (Aq FH a.y5 Mi.Ck (AB (BB (Bf hr) (Ab As (AA 1) AH) AO) AE))))) (AM (At (Ac (E7 hr) (Aq FG a.y13 Mi.Bg (AB (Ab As (AA 0) (Ab As (BD (AB AH (AB AH AE))) (Aq FH a.y5 Mi.Ck (AB (BB (Bf hr) (Ab As (AA 1) AH) AO) AE)))) AE)) (Ab As (AA 1) AH)) (AM (AZ GL)) Ad)))) Ad) (AG (Ap 5 nd (Aq (Pw rfl) a.y3 Mi.Jg (AB (Io (co:=none) (tgs:=["_law_name"]) ⟨⟨rfl,by decide +kernel,by decide +kernel,⟨Or.inl rfl,trivial⟩,rfl,by decide +kernel⟩,rfl,⟨_,Bv,λ_ _ _ _=>Ar (i:=0) (show List.Nodup (["_law_name", "_law_well_here"]:List Str) from by decide +kernel) rfl (Or.inl rfl)⟩,λ_ _ _ _=>BH,λ_ _ _ _=>(Cn (AB (AA 0) (AB (AY (Be a) hr (AB (AA 1) (AB AH AE))) AE)))⟩ (Bu (BD (AB AO (AB AO (AB AO (AB AO (AB AO AE))))))) Fb) AE))) (AG (Ap 6 nd (Aq Zl a.y3 Mi.Jg (AB (AA 5) AE))) (AG (Aj (O7 PySem.F.slot_dict_update PySem.F.type_dict_update Wm (AA 6) (AB (Aq (Pw rfl) a.y3 Mi.Jg (AB (Io (co:=none) (tgs:=["_law_one"]) ⟨⟨rfl,by decide +kernel,by decide +kernel,trivial,rfl,by decide +kernel⟩,rfl,⟨_,Bv,λ_ _ _ _=>Ar (i:=0) (show List.Nodup (["_law_one"]:List Str) from by decide +kernel) rfl (Or.inl rfl)⟩,λ_ _ _ _=>BH,λ_ _ _ _=>(Cn (AB (Aq FG a.y13 Mi.Bg (AB (AA 0) AE)) (AB (AA 0) AE)))⟩ (JQ a.y10 (AB AH AE)) Fb) AE)) AE))) (AM (AZ (BB (Bf hr) (AY (QA a 6) hr (AB (AA 3) (AB (AA 5) AE))) (AY (Ud a) hr (AB (AA 4) (AB (AA 6) AE)))))))))))))))
end
theorem all_mk{l:PySem.W.OpenLaw}{w:World}{K:PySem.W.Frag}{h:Heap}{mg:Str->Option Value}{fa:Addr}(hφ:∀ns:List Int,ns.length<=63->∃Z',Ph [.scr ns] []=some (.bl true,Z'))(a:Al w K mg h)(hfa:mg "law" = some (.ref fa)):
  ∃fd:FuncData,(∀(s:Shared) (v:Value),BindsTo s fd ⟨[v],[]⟩ [("_law_script",v)])/\∀base:Heap,K.In base->base.Ns mainGlobals mg->FnOk l.prog w K mg base CX0 14 fa fd ["_law_script"] (Rx K):=by
 obtain⟨fa_law,fd_law,d⟩:=a.e45;have e:=hfa.symm.trans (PySem.W.mg_of a.X a.G d.a);cases e;refine⟨fd_law,λs v=>?_,λbase _ _=>?_⟩
 ·obtain⟨oc,od,kV,doc,pm,an,cdv,ct,osl,rfl,lk,hcd⟩:=d.F.ex;exact .of_eq rfl
 exact ai (φ:=Ph) (W7 (k:=13) .drop d.F sc_law (λ_ _ _ _ _ _ hr=>have nd:=sc_law.nd;(AG (CC PassesOwn.never rfl (Bu (Ay BO (BD (AB (AY (RL a) hr (AB (AA 0) (AB AH AE))) AE)) (Cu (AA 0) (Bj AH) (Bj AH)))) (Ce 1 nd) (AG (Ap 2 nd (AY (Zp a) hr (AB (AA 1) AE))) (AG (Ap 3 nd (AY (Zq a) hr (AB (AA 2) AE))) (AG (Nl (AA 3) (F4 (is:=[4,5,6,7]) rfl (BA (Ar (i:=4) nd rfl (by first|exact Or.inl rfl|exact Or.inr rfl)) (BA (Ar (i:=5) nd rfl (by first|exact Or.inl rfl|exact Or.inr rfl)) (BA (Ar (i:=6) nd rfl (by first|exact Or.inl rfl|exact Or.inr rfl)) (BA (Ar (i:=7) nd rfl (by first|exact Or.inl rfl|exact Or.inr rfl)) DZ)))))) (AG (Ap 8 nd (AY (Zr a) hr (AB (AA 3) AE))) (AG (Ap 9 nd (AY (Hn a) hr (AB (AA 8) AE))) (AG (At (RW.rt (Ik (Ac Y6 (AY (HC a) hr (AB (AA 9) AE)) B3) (Ik (Ac (E7 hr) (AY (L7 a) hr (AB (AA 9) AE)) (AA 8)) (JN (Ac (E7 hr) (AY (Hn a) hr (AB (AA 8) AE)) (AA 9)))))) (AM (AZ GL)) Ad) (AG (At (Ac (E7 hr) (Ay BO (BD (AB AO AE)) (Io (co:=none) (tgs:=["_law_part"]) ⟨⟨rfl,by decide +kernel,by decide +kernel,trivial,rfl,by decide +kernel⟩,rfl,⟨_,Bv,λ_ _ _ _=>Ar (i:=0) (show List.Nodup (["_law_part"]:List Str) from by decide +kernel) rfl (Or.inl rfl)⟩,λ_ _ _ _=>BH,λ_ _ _ _=>(Aq FG a.y13 Mi.Bg (AB (AA 0) AE))⟩ (Bu (Cu (AA 9) Bw (Bj AH))) Fb)) (AA 4)) (AM (AZ GL)) Ad) (AG (At (Ac (E7 hr) (Io (co:=none) (tgs:=["_law_box"]) ⟨⟨rfl,by decide +kernel,by decide +kernel,trivial,rfl,by decide +kernel⟩,rfl,⟨_,Bv,λ_ _ _ _=>Ar (i:=0) (show List.Nodup (["_law_box"]:List Str) from by decide +kernel) rfl (Or.inl rfl)⟩,λ_ _ _ _=>BH,λ_ _ _ _=>(Ay BO (BD (AB AO AE)) (Io (co:=none) (tgs:=["_law_part"]) ⟨⟨rfl,by decide +kernel,by decide +kernel,trivial,rfl,by decide +kernel⟩,rfl,⟨_,Bv,λ_ _ _ _=>Ar (i:=0) (show List.Nodup (["_law_part"]:List Str) from by decide +kernel) rfl (Or.inl rfl)⟩,λ_ _ _ _=>BH,λ_ _ _ _=>(Aq FG a.y13 Mi.Bg (AB (AA 0) AE))⟩ (Bu (AA 0)) Fb))⟩ (Bu (Ab As (AA 9) AH)) Fb) (AA 5)) (AM (AZ GL)) Ad) (AG (At (Ac (E7 hr) (Io (co:=none) (tgs:=["_law_hand"]) ⟨⟨rfl,by decide +kernel,by decide +kernel,trivial,rfl,by decide +kernel⟩,rfl,⟨_,Bv,λ_ _ _ _=>Ar (i:=0) (show List.Nodup (["_law_hand"]:List Str) from by decide +kernel) rfl (Or.inl rfl)⟩,λ_ _ _ _=>BH,λ_ _ _ _=>(BD (AB AO (AB (Ab As (AA 0) AH) (AB (Aq FG a.y13 Mi.Bg (AB (Ab As (AA 0) AH) AE)) AE))))⟩ (Bu (Ab As (AA 9) AH)) Fb) (AA 6)) (AM (AZ GL)) Ad) (AM (CC PassesOwn.never rfl (KJ a.y15 (AB (Ab As (AA 9) AH) (AB (AA 7) AE))) (F4 (is:=[10,11]) rfl (BA (Ar (i:=10) nd rfl (by first|exact Or.inl rfl|exact Or.inr rfl)) (BA (Ar (i:=11) nd rfl (by first|exact Or.inl rfl|exact Or.inr rfl)) DZ))) (AG (At (Ac (E7 hr) (Ah Bt a.y7 Mi.Au (AB (Ab As (AA 10) AH) AE)) (Ah Bt a.y7 Mi.Au (AB (AA 11) AE))) (AM (AZ GL)) Ad) (AM (CC PassesOwn.never rfl (KJ a.y15 (AB (Ab As (AA 10) AH) (AB (AA 11) AE))) (F4 (is:=[12,13]) rfl (BA (Ar (i:=12) nd rfl (by first|exact Or.inl rfl|exact Or.inr rfl)) (BA (Ar (i:=13) nd rfl (by first|exact Or.inl rfl|exact Or.inr rfl)) DZ))) (AM (At (Gg (EY (AY (OY a) hr (AB (AA 12) (AB (AA 13) (AB (AA 2) AE)))))) (AM (AZ GL)) Ad))))))))))))))))) (AM (AZ GL))))) hφ
end K8
namespace K3
open PySem L2 Mi K1 Xc
end K3
namespace Mi
open PySem L2
section
variable{B v6:Sl}{Z w9 x6 v7 v9:Mh}{d x y z:D}{ds:List D}{ma mb mc:Sl->M D}{tc tb:Sl->M Bool}{b:Bool}{m1 m2:Sl->M (Fl×Sl)}{g g':D->D->M D}{r:Fl×Sl}
theorem GA(h:B[i]?=some (some d)):AD i B Z=some (d,Z):=by unfold AD;rw[h]
theorem Zh:mC d B Z=some (d,Z):=rfl
theorem Pi(h1:ma B Z=some (x,w9))(h2:mb B w9=some (y,x6))(h3:g x y x6=some (d,v7)):mOp g ma mb B Z=some (d,v7):=by unfold mOp;rw[AV h1,AV h2,h3]
theorem aJ(h1:ma B Z=some (x,w9))(h3:u x w9=some (d,v7)):mUn u ma B Z=some (d,v7):=by unfold mUn;rw[AV h1,h3]
theorem Zc:AI B Z=some ([],Z):=rfl
theorem Iz(h1:ma B Z=some (x,w9))(h2:as B w9=some (ds,x6)):AC ma as B Z=some (x::ds,x6):=by unfold AC;rw[AV h1,AV h2];rfl
theorem OK(h1:as B Z=some (ds,w9))(h2:f ds w9=some (d,x6)):AF f as B Z=some (d,x6):=by unfold AF;rw[AV h1,h2]
theorem Ze(h1:ma B Z=some (x,w9))(h0:FD x w9=some (u,x6))(h2:as B x6=some (ds,v7))(h3:f x ds v7=some (d,v9)):A3 f ma as B Z=some (d,v9):=by unfold A3;rw[AV h1,AV h0,AV h2,h3]
theorem ZV(h:ma B Z=some (.bl b,w9)):AW ma B Z=some (b,w9):=by unfold AW;rw[AV h];rfl
theorem dI(h:tc B Z=some (b,w9)):HY tc B Z=some (!b,w9):=by unfold HY;rw[AV h];rfl
theorem dH(h1:tc B Z=some (false,w9))(h2:tb B w9=some (b,x6)):mOr tc tb B Z=some (b,x6):=by unfold mOr;rw[AV h1,if_neg (by decide),h2]
theorem XD(h1:ma B Z=some (.bl true,w9))(h2:mb B w9=some (d,x6)):ES ma mb B Z=some (d,x6):=by
 unfold ES;rw[AV h1,AV (show asB (.bl true) w9=some (true,w9) from rfl),if_pos rfl,h2]
theorem ZY(h1:ma B Z=some (.bl true,w9)):MF ma mb B Z=some (.bl true,w9):=by
 unfold MF;rw[AV h1,AV (show asB (.bl true) w9=some (true,w9) from rfl)];rfl
theorem ZZ(h1:ma B Z=some (.bl false,w9))(h2:mb B w9=some (d,x6)):MF ma mb B Z=some (d,x6):=by
 unfold MF;rw[AV h1,AV (show asB (.bl false) w9=some (false,w9) from rfl),if_neg (by decide),h2]
theorem Za(h:ma B Z=some (.bl b,w9)):PU ma B Z=some (.bl (!b),w9):=by
 unfold PU;rw[AV h,AV (show asB (.bl b) w9=some (b,w9) from rfl)];rfl
theorem Zb(h:tc B Z=some (true,w9)):HY tc B Z=some (false,w9):=dI h
theorem XA(h:ma B Z=some (.bl false,w9)):PU ma B Z=some (.bl true,w9):=Za h
theorem UJ(h1:ma B Z=some (x,w9))(h2:mb B w9=some (y,x6))(h3:g x y x6=some (.bl true,v7))(h4:mc B v7=some (z,v9))(h5:g' y z v9=some (d,v9)):FC g g' ma mb mc B Z=some (d,v9):=by
 unfold FC;rw[AV h1,AV h2,AV h3,AV (show asB (.bl true) v7=some (true,v7) from rfl),if_pos rfl,AV h4,h5]
theorem UH:B5 B Z=some (none,Z):=rfl
theorem ZX(h:ma B Z=some (.int i,w9)):CY ma B Z=some (some i,w9):=by unfold CY;rw[AV h];rfl
theorem f8{l h:Sl->M (Option Int)}{a b:Option Int}(h1:ma B Z=some (x,w9))(h2:l B w9=some (a,x6))(h3:h B x6=some (b,v7))(h4:V6 a b x v7=some (d,v9)):mSl ma l h B Z=some (d,v9):=by unfold mSl;rw[AV h1,AV h2,AV h3,h4]
theorem dJ:BC B Z=some ((.next,B),Z):=rfl
theorem Dl(h1:m1 B Z=some ((.next,v6),w9))(h2:m2 v6 w9=some (r,x6)):AT m1 m2 B Z=some (r,x6):=by unfold AT;rw[AV h1];exact h2
theorem ZW(h1:m1 B Z=some ((.rt d,v6),w9)):AT m1 m2 B Z=some ((.rt d,v6),w9):=by unfold AT;rw[AV h1];rfl
theorem Sy(h1:ma B Z=some (d,w9)):Ag ma B Z=some ((.next,B),w9):=by unfold Ag;rw[AV h1];rfl
theorem dG(h1:ma B Z=some (d,w9)):A1 ma B Z=some ((.rt d,B),w9):=by unfold A1;rw[AV h1];rfl
theorem dL(h1:tc B Z=some (true,w9))(h2:m1 B w9=some (r,x6)):sIf tc m1 m2 B Z=some (r,x6):=by unfold sIf;rw[AV h1,if_pos rfl,h2]
theorem dM(h1:tc B Z=some (false,w9))(h2:m2 B w9=some (r,x6)):sIf tc m1 m2 B Z=some (r,x6):=by unfold sIf;rw[AV h1,if_neg (by decide),h2]
theorem XC(h1:ma B Z=some (d,w9))(h2:bf d B w9=some (v6,x6)):A2 ma bf B Z=some ((.next,v6),x6):=by unfold A2;rw[AV h1,AV h2];rfl
theorem Zd(h:B.set i (some d)=v6):AR i d B Z=some (v6,Z):=by rw[←h];rfl
theorem dF(h1:ma B Z=some (x,w9))(h2:mb B w9=some (y,x6))(h3:Vd x y d x6=some (u,v7)):Xb ma mb d B Z=some (B,v7):=by unfold Xb;rw[AV h1,AV h2,AV h3];rfl
theorem IL(h1:src B Z=some (ds,w9))(h2:BR bf m1 ds B w9=some (r,x6)):D3 src bf m1 B Z=some (r,x6):=by unfold D3;rw[AV h1,h2]
theorem gu(h:i<j):GR (.int i) (.int j) Z=some (.bl true,Z):=by show some (D.bl (decide (i<j)),Z)=_;rw[AAO h]
theorem fc(h:j<=i):GR (.int i) (.int j) Z=some (.bl false,Z):=by show some (D.bl (decide (i<j)),Z)=_;rw[AAN (by omega)]
theorem gw(h:i<=j):LL (.int i) (.int j) Z=some (.bl true,Z):=by show some (D.bl (decide (i<=j)),Z)=_;rw[AAO h]
theorem gx(h:j<i):Hz (.int i) (.int j) Z=some (.bl true,Z):=by show some (D.bl (decide (j<i)),Z)=_;rw[AAO h]
theorem ff(h:i<=j):Hz (.int i) (.int j) Z=some (.bl false,Z):=by show some (D.bl (decide (j<i)),Z)=_;rw[AAN (by omega)]
theorem fb(h:0<j):Jr (.int i) (.int j) Z=some (.int (i % j),Z):=by show (if 0<j then some (D.int (i % j),Z) else none)=_;rw[if_pos h]
theorem cg(h:0<j)(h2:j<1073741824):JR (.int i) (.int j) Z=some (.int (i / j),Z):=by show (if 0<j/\j<1073741824 then some (D.int (i / j),Z) else none)=_;rw[if_pos ⟨h,h2⟩]
theorem aC(h:(-(2 ^ 64)<i/\i<2 ^ 64)∨(-(2 ^ 64)<j/\j<2 ^ 64)):Fi (.int i) (.int j) Z=some (.int (i * j),Z):=by show (if (-(2 ^ 64)<i/\i<2 ^ 64)∨(-(2 ^ 64)<j/\j<2 ^ 64) then some (D.int (i * j),Z) else none)=_;rw[if_pos h]
theorem fj:GN (.int i) (.int j) Z=some (.int (i+j),Z):=rfl
theorem fV:FT (.int i) (.int j) Z=some (.int (i-j),Z):=rfl
theorem T4:FW [.int i,.ty "int"] Z=some (.bl true,Z):=by
 show (GP "int" "int").map (λb=>(D.bl b,Z))=_;rw[show GP "int" "int" = some true from by decide];rfl
theorem T5:FW [.int i,.ty "bool"] Z=some (.bl false,Z):=by
 show (GP "int" "bool").map (λb=>(D.bl b,Z))=_;rw[show GP "int" "bool" = some false from by decide];rfl
theorem T3{x:Str}:FW [.str x,.ty "str"] Z=some (.bl true,Z):=by
 show (GP "str" "str").map (λb=>(D.bl b,Z))=_;rw[show GP "str" "str" = some true from by decide];rfl
theorem T2:FW [.tup ds,.ty "tuple"] Z=some (.bl true,Z):=by
 show (GP "tuple" "tuple").map (λb=>(D.bl b,Z))=_;rw[show GP "tuple" "tuple" = some true from by decide];rfl
theorem N8(h:Z[n]?=some (.lst ds))(h2:atI ds i=some d):Aa (.ref n) (.int i) Z=some (d,Z):=by
 show bnd (B0 (.ref n)) (λds=>ixD ds i) Z=_;rw[AV (show B0 (.ref n) Z=some (ds,Z) from by show (match Z[n]? with|some (.lst ds)=>some (ds,Z)|_=>none)=_;rw[h])];unfold ixD;rw[h2];rfl
theorem aD(h2:atI ds i=some d):Aa (.tup ds) (.int i) Z=some (d,Z):=by
 show bnd (B0 (.tup ds)) (λds=>ixD ds i) Z=_;rw[AV (show B0 (.tup ds) Z=some (ds,Z) from rfl)];unfold ixD;rw[h2];rfl
theorem Ww(h2:atI ds i=some d):Aa (.lst ds) (.int i) Z=some (d,Z):=by
 show bnd (B0 (.lst ds)) (λds=>ixD ds i) Z=_;rw[AV (show B0 (.lst ds) Z=some (ds,Z) from rfl)];unfold ixD;rw[h2];rfl
theorem fW(h:Z[n]?=some (.lst ds))(h2:ixN ds.length k=some j):Vd (.ref n) (.int k) d Z=some ((),Z.set n (.lst (ds.set j d))):=by
 show (match Z[n]? with|some (.lst ds)=>(ixN ds.length k).map λj=>((),Z.set n (.lst (ds.set j d)))|_=>none)=_;rw[h];show (ixN ds.length k).map _=_;rw[h2];rfl
end
end Mi
local macro_rules | `(tactic| wtm_at "i")=>`(tactic| first|rfl|assumption)
local macro_rules | `(tactic| wtm_at "b")=>`(tactic| first
 |(with_reducible apply Mi.dJ)|(with_reducible apply Mi.Zc)|(with_reducible apply Mi.Zh)|(with_reducible apply Mi.UH)|(with_reducible apply Mi.ev_retN)
 |((with_reducible apply Mi.GA);first|rfl|assumption)
 |((with_reducible apply Mi.ZW);wtm_at "b")
 |((with_reducible apply Mi.Dl);(wtm_at "b");(wtm_at "b"))
 |((with_reducible apply Mi.XC);(wtm_at "b");(wtm_at "b"))
 |((with_reducible apply Mi.Zd);rfl)
 |((with_reducible apply Mi.dF);(wtm_at "b");(wtm_at "b");(wtm_at "b"))
 |((with_reducible apply Mi.Sy);wtm_at "b")
 |((with_reducible apply Mi.dG);wtm_at "b")
 |((with_reducible apply Mi.dL);(wtm_at "b");(wtm_at "b"))
 |((with_reducible apply Mi.dM);(wtm_at "b");(wtm_at "b"))
 |((with_reducible apply Mi.Pi);(wtm_at "b");(wtm_at "b");(wtm_at "b"))
 |((with_reducible apply Mi.aJ);(wtm_at "b");(wtm_at "b"))
 |((with_reducible apply Mi.OK);(wtm_at "b");(wtm_at "b"))
 |((with_reducible apply Mi.Iz);(wtm_at "b");(wtm_at "b"))
 |((with_reducible apply Mi.Ze);(wtm_at "b");(wtm_at "b");(wtm_at "b");(wtm_at "b"))
 |((with_reducible apply Mi.ZV);wtm_at "b")
 |((with_reducible apply Mi.ev_notT);wtm_at "b")
 |((with_reducible apply Mi.Zb);wtm_at "b")
 |((with_reducible apply Mi.ev_andT);(wtm_at "b");(wtm_at "b"))
 |((with_reducible apply Mi.ev_andF);wtm_at "b")
 |((with_reducible apply Mi.dH);(wtm_at "b");(wtm_at "b"))
 |((with_reducible apply Mi.ev_orT);wtm_at "b")
 |((with_reducible apply Mi.XD);(wtm_at "b");(wtm_at "b"))
 |((with_reducible apply Mi.ev_andVF);wtm_at "b")
 |((with_reducible apply Mi.ZZ);(wtm_at "b");(wtm_at "b"))
 |((with_reducible apply Mi.ZY);wtm_at "b")
 |((with_reducible apply Mi.XA);wtm_at "b")
 |((with_reducible apply Mi.ev_notVF);wtm_at "b")
 |((with_reducible apply Mi.UJ);(wtm_at "b");(wtm_at "b");(wtm_at "b");(wtm_at "b");(wtm_at "b"))
 |((with_reducible apply Mi.ev_chainF);(wtm_at "b");(wtm_at "b");(wtm_at "b"))
 |((with_reducible apply Mi.ZX);wtm_at "b")
 |((with_reducible apply Mi.f8);(wtm_at "b");(wtm_at "b");(wtm_at "b");(wtm_at "b"))
 |wtm_at "i")
local macro_rules | `(tactic| wtm_at "f")=>`(tactic| first|assumption|decide|omega)
local macro_rules | `(tactic| wtm_at "i")=>`(tactic| first
 |((with_reducible apply Mi.gw);wtm_at "f")|((with_reducible apply Mi.l_leF);wtm_at "f")|((with_reducible apply Mi.gu);wtm_at "f")|((with_reducible apply Mi.fc);wtm_at "f")|((with_reducible apply Mi.gx);wtm_at "f")|((with_reducible apply Mi.ff);wtm_at "f")
 |(with_reducible apply Mi.T4)|(with_reducible apply Mi.T5)|(with_reducible apply Mi.T3)|(with_reducible apply Mi.T2)|(with_reducible apply Mi.fj)|(with_reducible apply Mi.fV)|((with_reducible apply Mi.fb);wtm_at "f")|((with_reducible apply Mi.cg);(wtm_at "f");(wtm_at "f"))|((with_reducible apply Mi.aC);first|(left;omega)|(right;omega))
 |((with_reducible apply Mi.aD);rfl)|((with_reducible apply Mi.Ww);rfl)|((with_reducible apply Mi.N8);(first|assumption|rfl);(rfl))|((with_reducible apply Mi.fW);(first|assumption|rfl);(rfl)))
namespace K1
open PySem L2 Mi
section
variable{Z:Mh}{x y:Str}
theorem Wz:A8 (.int i) (.int j) Z=some (.bl (i==j),Z):=rfl
theorem ck(h:i=j):A8 (.int i) (.int j) Z=some (.bl true,Z):=by rw[Wz,h,beq_self_eq_true]
theorem cm(h:i≠j):A8 (.int i) (.int j) Z=some (.bl false,Z):=by rw[Wz,AAd.mpr h]
theorem fZ:B4 (.int i) (.int j) Z=some (.bl (!(i==j)),Z):=rfl
theorem cV(h:i=j):B4 (.int i) (.int j) Z=some (.bl false,Z):=by rw[fZ,h,beq_self_eq_true];rfl
theorem F3(h:PyData.strOk x=true):SeqAt.shaped (.str x)=true:=by
 show (PyData.strOk x&&decide ((PyData.str x).depth<=64))=true;rw[h];rfl
theorem aE(h1:PyData.strOk x=true)(h2:PyData.strOk y=true):A8 (.str x) (.str y) Z=some (.bl (x==y),Z):=by
 show (if SeqAt.shaped (.str x)=true/\SeqAt.shaped (.str y)=true then some (D.bl (x==y),Z) else none)=_;rw[if_pos ⟨F3 h1,F3 h2⟩]
theorem fY(h1:PyData.strOk x=true)(h2:PyData.strOk y=true):B4 (.str x) (.str y) Z=some (.bl (!(x==y)),Z):=by
 show (if SeqAt.shaped (.str x)=true/\SeqAt.shaped (.str y)=true then some (D.bl (!(x==y)),Z) else none)=_;rw[if_pos ⟨F3 h1,F3 h2⟩]
theorem ci(h1:PyData.strOk x=true)(h2:PyData.strOk y=true)(h:x=y):A8 (.str x) (.str y) Z=some (.bl true,Z):=by rw[aE h1 h2,h,beq_self_eq_true]
theorem cj(h1:PyData.strOk x=true)(h2:PyData.strOk y=true)(h:x≠y):A8 (.str x) (.str y) Z=some (.bl false,Z):=by rw[aE h1 h2,AAd.mpr h]
theorem cU(h1:PyData.strOk x=true)(h2:PyData.strOk y=true)(h:x≠y):B4 (.str x) (.str y) Z=some (.bl true,Z):=by rw[fY h1 h2,AAd.mpr h];rfl
theorem M7:∀xs:List Str,Jb (xs.map D.str)=some (xs.map V.str)
 |[]=>rfl
 |x::r=>by show (M9 (.str x)).bind _=_;rw[M7 r];rfl
theorem Pb:∀xs:List Str,inV (.str x) (xs.map V.str)=decide (x∈xs)
 |[]=>rfl
 |y::r=>by
  have h:=Pb r;unfold inV at h ⊢;rw[AAW,List.any_cons,h];show ((y==x)||decide (x∈r))=_;by_cases e:x=y
  ·subst e;simp
  ·have:(y==x)=false:=AAd.mpr λz=>e z.symm;rw[this,Bool.false_or];simp[e]
theorem KO{neg:Bool}{ds:List D}{xs:List Str}(h:B0 c Z=some (xs.map D.str,Z)):Jw neg (.str x) c Z=some (.bl (if neg then !decide (x∈xs) else decide (x∈xs)),Z):=by
 unfold Jw;rw[AV h];simp only[M7];show (match M9 (.str x),some (xs.map V.str) with|some x,some xs=>some (D.bl (if neg then !inV x xs else inV x xs),Z)|_,_=>none)=_;show some (D.bl (if neg then !inV (.str x) (xs.map V.str) else inV (.str x) (xs.map V.str)),Z)=_;rw[Pb]
theorem Wx{xs:List Str}(h:x∈xs):C4 false (.str x) (sl xs) Z=some (.bl true,Z):=by
 show Jw false (.str x) (.tup (xs.map D.str)) Z=_;rw[KO (ds:=[]) rfl,AAO h];rfl
theorem Wy{xs:List Str}(h:x∉xs):C4 false (.str x) (sl xs) Z=some (.bl false,Z):=by
 show Jw false (.str x) (.tup (xs.map D.str)) Z=_;rw[KO (ds:=[]) rfl,AAN h];rfl
theorem cT{xs:List Str}(h:x∉xs):C4 true (.str x) (sl xs) Z=some (.bl true,Z):=by
 show Jw true (.str x) (.tup (xs.map D.str)) Z=_;rw[KO (ds:=[]) rfl,AAN h];rfl
theorem cW:Bk [.tup ds] Z=some (.int ds.length,Z):=rfl
theorem cX:Bk [.lst ds] Z=some (.int ds.length,Z):=rfl
end
end K1
local macro_rules | `(tactic| wtm_at "e")=>`(tactic| first|assumption|decide +kernel)
local macro_rules | `(tactic| wtm_at "i")=>`(tactic| first
 |(with_reducible apply K1.cW)|(with_reducible apply K1.cX)
 |((with_reducible apply K1.ck);wtm_at "f")|((with_reducible apply K1.cm);wtm_at "f")|((with_reducible apply K1.l_neIT);wtm_at "f")|((with_reducible apply K1.cV);wtm_at "f")
 |((with_reducible apply K1.ci);(wtm_at "e");(wtm_at "e");(first|rfl|wtm_at "e"))|((with_reducible apply K1.cj);(wtm_at "e");(wtm_at "e");(wtm_at "e"))|((with_reducible apply K1.cU);(wtm_at "e");(wtm_at "e");(wtm_at "e"))|((with_reducible apply K1.l_neSF);(wtm_at "e");(wtm_at "e");(first|rfl|wtm_at "e"))
 |((with_reducible apply K1.Wx);wtm_at "e")|((with_reducible apply K1.Wy);wtm_at "e")|((with_reducible apply K1.cT);wtm_at "e"))
namespace K1
open PySem L2 Mi
section
variable{Z:Mh}{b:Int}
theorem ac:B9 [.bl true,.str w] Z=some (.non,Z):=
 BE (g:=[]) (x8:=_) (by rw[AAY];rfl) rfl
theorem QM(h1:a<=i)(h2:i<=b):DP [.int i,.int a,.int b] Z=some (.bl true,Z):=
 BP (g:=[]) (x8:=_) (by
  rw[AAY];unfold LX;wtm_at "b") rfl (by unfold Cl;trivial)
theorem Hr(h1:a<=ds.length)(h2:(ds.length:Int)<=b):CQ [.tup ds,.int a,.int b] Z=some (.bl true,Z):=
 BP (g:=[]) (x8:=_) (by
  rw[AAY];unfold LY;wtm_at "b") rfl (by unfold Cl;trivial)
end
end K1
local macro_rules | `(tactic| wtm_at "i")=>`(tactic| first
 |(with_reducible apply K1.ac)|((with_reducible apply K1.QM);(wtm_at "f");(wtm_at "f"))|((with_reducible apply K1.Hr);(first|wtm_at "f" |simp);(first|wtm_at "f" |simp)))
namespace K1
open PySem L2 Mi
section
variable{Z:Mh}{b:Int}
theorem GW(hk:k∈(["safe", "steady", "whole"]:List Str))(h1:2<=s)(h2:s<=10)(h3:0<=g)(h4:g<=s-1):CV [.str k,.int s,.int g] Z=some (.non,Z):=
 BE (g:=[]) (x8:=_) (by
  rw[AAY];unfold Gp KZ GC G5;wtm_at "b") rfl
end
def WellAt(Z:Mh)(n:Nat):Prop:=∃a m c:Int,Z[n]?=some (.lst [.int a,.int m,.int c])/\0<=a
def Upd(n:Nat)(Z Z':Mh):Prop:=∃a m c:Int,0<=a/\Z'=Z.set n (.lst [.int a,.int m,.int c])
section
variable{Z w9 x6:Mh}{n:Nat}{d:D}{x8:Sl}
theorem WellAt.lt(h:WellAt Z n):n<Z.length:=by
 obtain⟨_,_,_,h,_⟩:=h;exact(AAT.mp h).1
theorem WellAt.refl(h:WellAt Z n):Upd n Z Z:=by
 have hl:=h.lt;obtain⟨a,m,c,h,ha⟩:=h;refine⟨a,m,c,ha,?_⟩;apply List.ext_getElem?;intro j;rw[List.getElem?_set];split
 ·rename_i e;subst e;exact h
 ·rfl
theorem Upd.trans(h:Upd n Z w9)(h2:Upd n w9 x6):Upd n Z x6:=by
 obtain⟨a,m,c,ha,rfl⟩:=h;obtain⟨a2,m2,c2,ha2,rfl⟩:=h2;exact⟨a2,m2,c2,ha2,by rw[List.set_set]⟩
theorem Upd.len(h:Upd n Z w9):w9.length=Z.length:=by
 obtain⟨a,m,c,ha,rfl⟩:=h;simp
theorem Upd.well(h:Upd n Z w9)(hn:n<Z.length):WellAt w9 n:=by
 obtain⟨a,m,c,ha,rfl⟩:=h;exact⟨a,m,c,by rw[List.getElem?_set_self hn],ha⟩
theorem Upd.other(h:Upd n Z w9)(hj:j≠n):w9[j]?=Z[j]?:=by
 obtain⟨a,m,c,ha,rfl⟩:=h;rw[AAm (λe=>hj e.symm)]
theorem Upd.app(h:Upd n (Z++g) w9)(hn:n<Z.length):∃x6,Upd n Z x6/\w9=x6++g:=by
 obtain⟨a,m,c,ha,rfl⟩:=h;exact⟨_,⟨a,m,c,ha,rfl⟩,by rw[List.set_append_left _ _ hn]⟩
theorem Q4:ClL k [D.int a,.int m,.int c]:=by simp[ClL,Cl]
theorem Upd.tells(h:Upd n Z w9)(c:Cl Z.length d):FZ Z (w9++g) w9 d d:=by
 refine⟨⟨g,rfl⟩,by rw[h.len];exact AAE _,λj o e=>?_,.inl ⟨rfl,by rw[h.len];exact c⟩⟩;by_cases hj:j=n
 ·subst hj;obtain⟨a,m,c,ha,rfl⟩:=h;right;rw[List.getElem?_set] at e;simp at e;obtain⟨_,rfl⟩:=e;exact Q4
 ·left;rw[←h.other hj];exact e
theorem Jf(e:mb (BI N ds) Z=some ((.rt d,x8),w9++g))(hl:ds.length=ps)(u:Upd n Z w9)(c:Cl Z.length d):BJ .drop N ps mb ds Z=some (d,w9):=by
 have t:JS Z (w9++g) .drop=w9:=by show (w9++g).take Z.length=w9;rw[←u.len,List.take_left]
 have h:=FF (hw:=.drop) e hl (.inr ⟨d,rfl⟩) (by rw[t];exact u.tells c);rw[t] at h;exact h
theorem ZG(hn:n<Z.length)(h2:atI ds i=some d):Aa (.ref n) (.int i) (Z.set n (.lst ds))=some (d,Z.set n (.lst ds)):=N8 (List.getElem?_set_self hn) h2
end
end K1
local macro_rules | `(tactic| wtm_at "i")=>`(tactic| first
 |((with_reducible apply K1.ZG);(assumption);(rfl))|((with_reducible apply K1.l_setSet);(assumption);(rfl)))
namespace K1
open PySem L2 Mi
section
variable{Z Z':Mh}{n:Nat}{b:Int}{x8:Sl}
theorem VI(w:WellAt Z n)(hb:0<b)(hb2:b<1073741824):∃r Z',BS [.ref n,.int b] Z=some (.int r,Z')/\0<=r/\r<b/\Upd n Z Z':=by
 have hn:=w.lt;obtain⟨a,m,c,h,ha⟩:=w;have hne:b≠0:=by omega
 by_cases h0:0<a
 ·have e:∃x8,Iu (BI 4 [.ref n,.int b]) Z=some ((.rt (.int (a % b)),x8),Z.set n (.lst [.int (a / b),.int m,.int c])):=by
   refine' ⟨_,Eq.trans ?e ?f⟩
   case e=>unfold Iu;wtm_at "b"
   case f=>rfl
  obtain⟨x8,e⟩:=e;have u:Upd n Z (Z.set n (.lst [.int (a / b),.int m,.int c])):=⟨_,_,_,Int.ediv_nonneg ha (by omega),rfl⟩;exact⟨_,_,Jf (g:=[]) (by rw[AAY];exact e) rfl u (by unfold Cl;trivial),Int.emod_nonneg _ hne,Int.emod_lt_of_pos _ hb,u⟩
 ·have e:∃q x8,Iu (BI 4 [.ref n,.int b]) Z=some ((.rt (.int (q % b)),x8),Z.set n (.lst [.int a,.int m,.int (c+1)])):=by
   refine' ⟨_,_,Eq.trans ?e ?f⟩
   case e=>unfold Iu;wtm_at "b"
   case f=>rfl
  obtain⟨q,x8,e⟩:=e;have u:Upd n Z (Z.set n (.lst [.int a,.int m,.int (c+1)])):=⟨_,_,_,ha,rfl⟩;exact⟨_,_,Jf (g:=[]) (by rw[AAY];exact e) rfl u (by unfold Cl;trivial),Int.emod_nonneg _ hne,Int.emod_lt_of_pos _ hb,u⟩
end
section
variable{Z w9 x6 Z':Mh}{b:Int}{d:D}{x y:Str}{B x8:Sl}
theorem Sz(h1:src B Z=some (ds,w9))(hl:ds.length<=sizeLine)(h2:Dp bf mc me (DG N ix B) ds [] w9=some (es,x6))(h3:fin es x6=some (d,Z')):BU N ix src bf mc me fin B Z=some (d,Z'):=by
 unfold BU;rw[AV h1,AV (show lim ds.length w9=some ((),w9) from by unfold lim;rw[if_pos hl]),AV h2,h3]
theorem Pp:∀{xs ys:List D},(∀z∈xs,me (j5.set 0 (some z)) Z=some (F z,Z))->Dp (AR 0) Ba me j5 xs ys Z=some (ys++xs.map F,Z)
 |[],ys,_=>by show some (ys,Z)=_;simp
 |z::xs,ys,h=>by
  show bnd (AR 0 z j5) _ Z=_;rw[AV (show AR 0 z j5 Z=some (j5.set 0 (some z),Z) from rfl),AV (show Ba (j5.set 0 (some z)) Z=some (true,Z) from rfl),if_pos rfl,AV (h z (by simp))];rw[Pp λw hw=>h w (by simp[hw])];simp
theorem KL(h:ds.length<=sizeLine):A4 ds Z=some (.lst ds,Z):=by
 unfold A4;rw[AV (show lim ds.length Z=some ((),Z) from by unfold lim;rw[if_pos h])];rfl
def EM(x:Str):Prop:=∀c∈x.cps.toList,97<=c/\c<123
structure GoodName(x:Str):Prop where
 lo:1<=x.length
 hi:x.length<=8
 ab:EM x
theorem T1:∀c,c<123->97<=c->(!(Builtin.Str.occurrences "abcdefghijklmnopqrstuvwxyz" ⟨#[c]⟩ 0 (Str.length "abcdefghijklmnopqrstuvwxyz") 1).isEmpty)=true:=by decide +kernel
theorem GoodName.ok(h:GoodName x):PyData.strOk x=true:=by
 unfold PyData.strOk;rw[Array.all_eq_true_iff_forall_mem];intro c hc;have:=h.ab c (by simpa using hc);simp;omega
theorem P3:∀k:Nat,IQ (List.replicate k (D.bl true))=some (List.replicate k true)
 |0=>rfl
 |k+1=>by
  rw[AAj,AAj];show (IQ (List.replicate k (D.bl true))).map (true::·)=_;rw[P3 k];rfl
theorem JI(h:GoodName x):CU [.str x] Z=some (.bl true,Z):=
 BP (g:=[]) (x8:=_) (by
  rw[AAY];have hs:x.length<=sizeLine:=AAq h.hi (by decide);have h1:(1:Int)<=x.length:=by have:=h.lo;omega
  have h8:(x.length:Int)<=8:=by have:=h.hi;omega
  have l:Bk [.str x] Z=some (.int x.length,Z):=by show (if x.length<=sizeLine then some (D.int x.length,Z) else none)=_;rw[if_pos hs]
  have hl:(x.cps.toList.map λc=>D.str ⟨#[c]⟩).length=x.length:=by simp[Str.length]
  have c:BU 1 [] (PR (AD 0)) (AR 0) Ba (mOp (C4 false) (AD 0) (mC HR)) A4 (BI 1 [.str x]) Z=some (.lst (List.replicate x.length (.bl true)),Z):=by
   refine Sz (ds:=x.cps.toList.map λc=>D.str ⟨#[c]⟩) rfl (by rw[hl];exact hs) (Pp (F:=λ_=>.bl true) λz hz=>?_) ?_
   ·rw[AAL] at hz;obtain⟨c,hc,rfl⟩:=hz;have:=h.ab c hc;refine Pi (x:=.str ⟨#[c]⟩) (y:=HR) (GA rfl) Zh ?_;show some (D.bl (!(Builtin.Str.occurrences "abcdefghijklmnopqrstuvwxyz" ⟨#[c]⟩ 0 (Str.length "abcdefghijklmnopqrstuvwxyz") 1).isEmpty),Z)=_;rw[T1 c this.2 this.1]
   ·rw[List.nil_append,List.map_const',hl];exact KL (by rw[AAl];exact hs)
  have a:RB [.lst (List.replicate x.length (.bl true))] Z=some (.bl true,Z):=by
   show (IQ (List.replicate x.length (D.bl true))).map (λbs=>(D.bl (bs.all id),Z))=_;rw[P3];show some (D.bl ((List.replicate x.length true).all id),Z)=_;simp
  unfold Ms;wtm_at "b") rfl (by unfold Cl;trivial)
end
end K1
local macro_rules | `(tactic| wtm_at "f")=>`(tactic| first|assumption|(simp only[AAH,List.length_nil];first|decide|omega))
local macro_rules | `(tactic| wtm_at "i")=>`(tactic| ((with_reducible apply K1.JI);assumption))
namespace K1
open PySem L2 Mi
inductive Ex where
 |num (i:Int)|var (x:Str)|neg (e:Ex)|pair (w:Str) (a b:Ex)
def Ex.toD:Ex->D
 | .num i=>.tup [.str "num",.int i]
 | .var x=>.tup [.str "var",.str x]
 | .neg e=>.tup [.str "not",e.toD]
 | .pair w a b=>.tup [.str w,a.toD,b.toD]
def Ax:List Str:=["+", "-", "=", "<", "and", "or"]
noncomputable def Ex.Ok:Nat->Ex->Prop
 |0,_=>False
 |_+1,.num i=>0<=i/\i<=9
 |_+1,.var x=>GoodName x
 |k+1,.neg e=>e.Ok k
 |k+1,.pair w a b=>w∈Ax/\a.Ok k/\b.Ok k
def Ex.vars:Ex->List Str
 | .num _=>[]
 | .var x=>[x]
 | .neg e=>e.vars
 | .pair _ a b=>a.vars++b.vars
section
variable{Z:Mh}{n:Nat}{b:Int}{x:Str}{x8:Sl}
theorem DF:∀(k n:Nat) (e:Ex) (j:Int) (Z:Mh),j=k->k<=n->e.Ok k->DH n [e.toD,.int j] Z=some (.bl true,Z)
 |0,_,_,_,_,_,_,h=>by cases h
 |_+1,0,_,_,_,_,hn,_=>by omega
 |k+1,n+1,.num i,j,Z,hj,hn,h=>by
  have hj1:1<=j:=by omega
  obtain⟨h1,h2⟩:0<=i/\i<=9:=h;exact BP (g:=[]) (x8:=_) (by rw[AAY];unfold Ci CM C2 Ex.toD;wtm_at "b") rfl (by unfold Cl;trivial)
 |k+1,n+1,.var x,j,Z,hj,hn,h=>by
  have hj1:1<=j:=by omega
  have h:GoodName x:=h;exact BP (g:=[]) (x8:=_) (by rw[AAY];unfold Ci CM C2 Ex.toD;wtm_at "b") rfl (by unfold Cl;trivial)
 |k+1,n+1,.neg e,j,Z,hj,hn,h=>by
  have hj1:1<=j:=by omega
  have ih:=DF k n e (j-1) Z (by omega) (by omega) h;exact BP (g:=[]) (x8:=_) (by rw[AAY];unfold Ci CM C2 Ex.toD;wtm_at "b") rfl (by unfold Cl;trivial)
 |k+1,n+1,.pair w a b,j,Z,hj,hn,h=>by
  have hj1:1<=j:=by omega
  obtain⟨hw,ha,hb⟩:=h;have hw:w∈(["+", "-", "=", "<", "and", "or"]:List Str):=hw;have ia:=DF k n a (j-1) Z (by omega) (by omega) ha;have ib:=DF k n b (j-1) Z (by omega) (by omega) hb;exact BP (g:=[]) (x8:=_) (by rw[AAY];unfold Ci CM C2 Ex.toD;wtm_at "b") rfl (by unfold Cl;trivial)
end
section
variable{Z w9 x6 v7:Mh}{d x y:D}{B v6 x8:Sl}{ma:Sl->M D}{ds es:List D}{r:Fl×Sl}{m1:Sl->M (Fl×Sl)}{bf:D->Sl->M Sl}
theorem OJ(h1:ma B Z=some (x,w9))(h2:Ec x w9=some (ds,x6)):C7 ma B Z=some (ds,x6):=by unfold C7;rw[AV h1,h2]
theorem Wv:Ec (.tup ds) Z=some (ds,Z):=rfl
theorem UI:BR bf m1 [] B Z=some ((.next,B),Z):=rfl
theorem DQ(h1:bf x B Z=some (v6,w9))(h2:m1 v6 w9=some ((.next,x8),x6))(h3:BR bf m1 ds x8 x6=some (r,v7)):BR bf m1 (x::ds) B Z=some (r,v7):=by
 show bnd (bf x B) _ Z=_;rw[AV h1,AV h2];exact h3
theorem dE(h1:m B Z=some (ds,w9))(h2:HE ds w9=some (es,x6)):Wo m B Z=some (es,x6):=by unfold Wo;rw[AV h1,h2]
theorem cR:HE [.tup [],.tup []] Z=some ([],Z):=rfl
theorem cQ:HE [.tup [x],.tup [y]] Z=some ([.tup [x,y]],Z):=rfl
theorem cP:HE [.tup [x,x'],.tup [y,y']] Z=some ([.tup [x,y],.tup [x',y']],Z):=rfl
theorem ZI:DE [i,j] (.tup [x,y]) B Z=some ((B.set i (some x)).set j (some y),Z):=rfl
theorem cS:V6 (some 1) none (.tup (x::ds)) Z=some (.tup ds,Z):=by
 have h1:HT.sIx (x::ds).length 0 (some 1)=1:=by rw[show (some (1:Int))=some ((1:Nat):Int) from rfl,HT.Nj];simp
 have h2:HT.sIx (x::ds).length (x::ds).length none=(x::ds).length:=rfl;show (if HT.sIx (x::ds).length 0 (some 1)=0/\HT.sIx (x::ds).length (x::ds).length none=(x::ds).length then (Mi.BM:M D) else Mi.ret (D.tup (GS (x::ds) (some 1) none))) Z=_;rw[if_neg (by rw[h1];simp)];show some (D.tup (GS (x::ds) (some 1) none),Z)=_;unfold GS;rw[h1,h2];simp
theorem ZA(h:ds.length<=sizeLine):EQ ds Z=some (.ref Z.length,Z++[.lst ds]):=by
 unfold EQ;rw[AV (show lim ds.length Z=some ((),Z) from by unfold lim;rw[if_pos h])]
theorem Y9(h:ds.length<=sizeLine):DL ds Z=some (.tup ds,Z):=by
 unfold DL;rw[AV (show lim ds.length Z=some ((),Z) from by unfold lim;rw[if_pos h])];rfl
theorem ZH:FD (.ref Z.length) (Z++[.lst ds])=some ((),Z++[.lst ds]):=by
 unfold FD;rw[AV (show Co (.ref Z.length) (Z++[.lst ds])=some (ds,Z++[.lst ds]) from by
  unfold Co;dsimp only;rw[List.getElem?_concat_length])];rfl
theorem Op(h:k ds=some (d,es)):Ew Z.length k (Z++[.lst ds])=some (d,Z++[.lst es]):=by
 unfold Ew;rw[List.getElem?_concat_length];show (k ds).map _=_;rw[h];show some (d,(Z++[MO.lst ds]).set Z.length (.lst es))=_;simp
theorem fg(h:ds.length+es.length<=sizeLine):MH (.ref Z.length) [.lst es] (Z++[.lst ds])=some (.non,Z++[.lst (ds++es)]):=Op (by rw[if_pos h])
theorem fi(h:ds.length<sizeLine):C9 (.ref Z.length) [d] (Z++[.lst ds])=some (.non,Z++[.lst (ds++[d])]):=Op (by rw[if_pos h])
theorem Zf(h:B[i]?=some (some (.str v)))(h1:(Str.empty++u).length<=sizeLine)(h2:v.length<=sizeLine)(h3:(Str.empty++u++v).length<=sizeLine):Sc [mC (.str u),ZD (AD i)] B Z=some (.str (Str.empty++u++v),Z):=by
 have lm:∀k:Nat,k<=sizeLine->lim k Z=some ((),Z):=λk hk=>by unfold lim;rw[if_pos hk]
 unfold Sc JW;rw[AV Zh];dsimp only;rw[AV (lm _ h1)];unfold JW;rw[AV (show ZD (AD i) B Z=some (.str v,Z) from aJ (GA h) (by show (if v.length<=sizeLine then some (D.str v,Z) else none)=_;rw[if_pos h2]))];dsimp only;rw[AV (lm _ h3)];unfold JW;rw[AV (lm _ h3)];rfl
theorem fB:Bi "put" = some (.tup [.str "box",.str "expression"]):=by kernel_rfl
theorem fE:Bi "get" = some (.tup [.str "variable",.str "box"]):=by kernel_rfl
theorem fD:Bi "let" = some (.tup [.str "variable",.str "expression"]):=by kernel_rfl
theorem Wf:Bi "unless" = some (.tup [.str "expression",.str "target"]):=by kernel_rfl
theorem bw:Bi "jump" = some (.tup [.str "target"]):=by kernel_rfl
theorem bv:Bi "tell" = some (.tup [.str "expression"]):=by kernel_rfl
theorem bz:Bi "done" = some (.tup []):=by kernel_rfl
theorem cY(h:Bi w=some d):Si Bi (.str w) Z=some (d,Z):=by show (Bi w).map _=_;rw[h];rfl
theorem fe(h:Bi w=some d):ZK Bi (.str w) Z=some (.bl true,Z):=by show some (D.bl (Bi w).isSome,Z)=_;rw[h];rfl
end
end K1
local macro_rules | `(tactic| wtm_at "m")=>`(tactic| first|assumption|decide|(simp only[AAH,List.length_nil,AAG,AAF];first|decide|omega))
local macro_rules | `(tactic| wtm_at "s")=>`(tactic| first|exact K1.fB|exact K1.fE|exact K1.fD|exact K1.Wf|exact K1.bw|exact K1.bv|exact K1.bz)
local macro_rules | `(tactic| wtm_at "i")=>`(tactic| first
 |((with_reducible apply K1.OJ);(wtm_at "b");(wtm_at "b"))|(with_reducible apply K1.Wv)|(with_reducible apply K1.l_seqL)|((with_reducible apply Mi.IL);(wtm_at "b");(wtm_at "b"))|(with_reducible apply K1.UI)|((with_reducible apply K1.DQ);(wtm_at "b");(wtm_at "b");(wtm_at "b"))
 |((with_reducible apply K1.dE);(wtm_at "b");(wtm_at "b"))|(with_reducible apply K1.cR)|(with_reducible apply K1.cQ)|(with_reducible apply K1.cP)|(with_reducible apply K1.ZI)|(with_reducible apply K1.cS)
 |((with_reducible apply K1.KL);wtm_at "m")|((with_reducible apply K1.ZA);wtm_at "m")|((with_reducible apply K1.Y9);wtm_at "m")|(with_reducible apply K1.ZH)|((with_reducible apply K1.fg);wtm_at "m")|((with_reducible apply K1.fi);wtm_at "m")
 |((with_reducible apply K1.cY);wtm_at "s")|((with_reducible apply K1.fe);wtm_at "s")|((with_reducible apply K1.Zf);(rfl);(decide +kernel);(decide +kernel);(decide +kernel)))
namespace K1
open PySem L2 Mi
section
variable{Z:Mh}{n:Nat}{b:Int}{x:Str}{x8:Sl}
theorem Ex.vlen:∀{k:Nat} {e:Ex},e.Ok k->e.vars.length<=2 ^ k
 |k+1,.num _,_=>by simp[Ex.vars]
 |k+1,.var _,_=>by show 1<=2 ^ (k+1);exact Nat.one_le_two_pow
 |k+1,.neg e,h=>by have:=Ex.vlen (k:=k) (e:=e) h;show e.vars.length<=2 ^ (k+1);rw[Nat.pow_succ];omega
 |k+1,.pair _ a b,h=>by
  have h1:=Ex.vlen (k:=k) (e:=a) h.2.1;have h2:=Ex.vlen (k:=k) (e:=b) h.2.2;show (a.vars++b.vars).length<=2 ^ (k+1);rw[AAG,Nat.pow_succ];omega
theorem Je:∀xs:List Str,ClL k (xs.map D.str)
 |[]=>by simp[ClL]
 |x::r=>by rw[AAW];unfold ClL;exact⟨by unfold Cl;trivial,Je r⟩
theorem DY:∀(k n:Nat) (e:Ex) (Z:Mh),k<=n->k<=6->e.Ok k->Bp n [e.toD] Z=some (.lst (e.vars.map D.str),Z)
 |0,_,_,_,_,_,h=>by cases h
 |_+1,0,_,_,hn,_,_=>by omega
 |k+1,n+1,.num i,Z,hn,h6,h=>IP (g:=[]) (x8:=_) (by rw[AAY];unfold B6 Ex.toD;wtm_at "b") rfl (Je [])
 |k+1,n+1,.var x,Z,hn,h6,h=>IP (es:=[.str x]) (g:=[]) (x8:=_) (by rw[AAY];unfold B6 Ex.toD;wtm_at "b") rfl (Je [x])
 |k+1,n+1,.neg e,Z,hn,h6,h=>by
  have ih:=DY k n e (Z++[.lst []]) (by omega) (by omega) h;have hl:=Ex.vlen (k:=k) (e:=e) h;have hp:2 ^ k<=2 ^ 6:=Nat.pow_le_pow_right (by decide) (by omega);have hz:sizeLine=16777216:=by decide
  have hb:([]:List D).length+(e.vars.map D.str).length<=sizeLine:=by simp;omega
  have q:∃x8,B6 (Bp n) (BI 3 [(Ex.neg e).toD]) Z=some ((.rt (.ref Z.length),x8),Z++[.lst (e.vars.map D.str)]):=by
   refine' ⟨_,Eq.trans ?e1 ?e2⟩
   case e1=>unfold B6 Ex.toD;wtm_at "b"
   case e2=>rfl
  obtain⟨x8,q⟩:=q;exact HS q rfl (AAE _) (List.getElem?_concat_length) (Je _)
 |k+1,n+1,.pair w a b,Z,hn,h6,h=>by
  obtain⟨hw,ha,hb⟩:=h;have ia:=DY k n a (Z++[.lst []]) (by omega) (by omega) ha;have ib:=DY k n b (Z++[.lst ([]++a.vars.map D.str)]) (by omega) (by omega) hb;have la:=Ex.vlen (k:=k) (e:=a) ha;have lb:=Ex.vlen (k:=k) (e:=b) hb;have hp:2 ^ k<=2 ^ 6:=Nat.pow_le_pow_right (by decide) (by omega);have hz:sizeLine=16777216:=by decide
  have hb1:([]:List D).length+(a.vars.map D.str).length<=sizeLine:=by simp;omega
  have hb2:([]++a.vars.map D.str).length+(b.vars.map D.str).length<=sizeLine:=by simp;omega
  have w1:PyData.strOk w=true/\w ≠ "num" /\ w ≠ "var" := by
   have hw:w∈(["+", "-", "=", "<", "and", "or"]:List Str):=hw;simp only[AAI,List.not_mem_nil,or_false] at hw;rcases hw with rfl|rfl|rfl|rfl|rfl|rfl<;>decide +kernel
  obtain⟨w1,w2,w3⟩:=w1;have q:∃x8,B6 (Bp n) (BI 3 [(Ex.pair w a b).toD]) Z=some ((.rt (.ref Z.length),x8),Z++[.lst ([]++a.vars.map D.str++b.vars.map D.str)]):=by
   refine' ⟨_,?e⟩
   case e=>unfold B6 Ex.toD;wtm_at "b"
  obtain⟨x8,q⟩:=q;have z:([]++a.vars.map D.str++b.vars.map D.str)=(Ex.pair w a b).vars.map D.str:=by simp[Ex.vars]
  rw[z] at q;exact HS q rfl (AAE _) (List.getElem?_concat_length) (Je _)
end
inductive Rw where
 |put (bx:Str) (e:Ex)|get (x bx:Str)|letr (x:Str) (e:Ex)|unless (e:Ex) (t:Int)|jump (t:Int)|tell (e:Ex)|done
def Rw.toD:Rw->D
 | .put bx e=>.tup [.str "put",.str bx,e.toD]
 | .get x bx=>.tup [.str "get",.str x,.str bx]
 | .letr x e=>.tup [.str "let",.str x,e.toD]
 | .unless e t=>.tup [.str "unless",e.toD,.int t]
 | .jump t=>.tup [.str "jump",.int t]
 | .tell e=>.tup [.str "tell",e.toD]
 | .done=>.tup [.str "done"]
noncomputable def Rw.Form(l:Int):Rw->Prop
 | .put bx e=>GoodName bx/\e.Ok 5
 | .get x bx=>GoodName x/\GoodName bx
 | .letr x e=>GoodName x/\e.Ok 5
 | .unless e t=>e.Ok 5/\0<=t/\t<=l
 | .jump t=>0<=t/\t<=l
 | .tell e=>e.Ok 5
 | .done=>True
def Rw.vars:Rw->List Str
 | .put _ e=>e.vars
 | .get x _=>[x]
 | .letr x e=>x::e.vars
 | .unless e _=>e.vars
 | .jump _=>[]
 | .tell e=>e.vars
 | .done=>[]
section
variable{Z:Mh}{l:Int}{x:Str}{x8:Sl}
theorem VE{e:Ex}(h:e.Ok 5):Ep [.str "expression",e.toD,.int l] Z=some (.bl true,Z):=by
 have ih:=DF 5 6 e 5 Z rfl (by decide) h;exact BP (g:=[]) (x8:=_) (by rw[AAY];unfold Fk Er;wtm_at "b") rfl (by unfold Cl;trivial)
theorem VD(h1:0<=t)(h2:t<=l):Ep [.str "target",.int t,.int l] Z=some (.bl true,Z):=
 BP (g:=[]) (x8:=_) (by rw[AAY];unfold Fk Er;wtm_at "b") rfl (by unfold Cl;trivial)
theorem VC(h:GoodName x):Ep [.str "variable",.str x,.int l] Z=some (.bl true,Z):=
 BP (g:=[]) (x8:=_) (by rw[AAY];unfold Fk Er;wtm_at "b") rfl (by unfold Cl;trivial)
theorem VF(h:GoodName x):Ep [.str "box",.str x,.int l] Z=some (.bl true,Z):=
 BP (g:=[]) (x8:=_) (by rw[AAY];unfold Fk Er;wtm_at "b") rfl (by unfold Cl;trivial)
end
end K1
local macro_rules | `(tactic| wtm_at "i")=>`(tactic| first
 |((with_reducible apply K1.VE);assumption)|((with_reducible apply K1.VD);(assumption);(assumption))|((with_reducible apply K1.VC);assumption)|((with_reducible apply K1.VF);assumption))
namespace K1
open PySem L2 Mi
section
variable{Z:Mh}{l:Int}{x8:Sl}
theorem NZ:∀{r:Rw},r.Form l->Ei [r.toD,.int l] Z=some (.non,Z)
 | .put bx e,⟨h1,h2⟩=>BE (g:=[]) (x8:=_) (by rw[AAY];unfold CH Rw.toD;wtm_at "b") rfl
 | .get bx e,⟨h1,h2⟩=>BE (g:=[]) (x8:=_) (by rw[AAY];unfold CH Rw.toD;wtm_at "b") rfl
 | .letr bx e,⟨h1,h2⟩=>BE (g:=[]) (x8:=_) (by rw[AAY];unfold CH Rw.toD;wtm_at "b") rfl
 | .unless bx e,⟨h1,h2,h3⟩=>BE (g:=[]) (x8:=_) (by rw[AAY];unfold CH Rw.toD;wtm_at "b") rfl
 | .jump t,⟨h1,h2⟩=>BE (g:=[]) (x8:=_) (by rw[AAY];unfold CH Rw.toD;wtm_at "b") rfl
 | .tell e,h=>BE (g:=[]) (x8:=_) (by have h:e.Ok 5:=h;rw[AAY];unfold CH Rw.toD;wtm_at "b") rfl
 | .done,h=>BE (g:=[]) (x8:=_) (by rw[AAY];unfold CH Rw.toD;wtm_at "b") rfl
end
end K1
set_option maxHeartbeats 4000000
namespace K1
open PySem L2 Mi
section
variable{Z:Mh}{x:Str}{x8:Sl}
theorem YA{e:Ex}(h:e.Ok 5):Bp 6 [e.toD] Z=some (.lst (e.vars.map D.str),Z):=DY 5 6 e Z (by decide) (by decide) h
theorem QN(hw:PyData.strOk w=true)(h:w ≠ "tell"):CW [.str w,.bl true] Z=some (.non,Z):=
 BE (g:=[]) (x8:=_) (by rw[AAY];unfold FA;wtm_at "b") rfl
theorem QP(hw:PyData.strOk w=true)(h:w ≠ "done"):CW [.str w,.bl false] Z=some (.non,Z):=
 BE (g:=[]) (x8:=_) (by rw[AAY];unfold FA;wtm_at "b") rfl
theorem ce(h:x∈[a,b]):C4 false (.str x) (.tup [.str a,.str b]) Z=some (.bl true,Z):=Wx (xs:=[a,b]) h
theorem cf(h:x∉[a,b]):C4 false (.str x) (.tup [.str a,.str b]) Z=some (.bl false,Z):=Wy (xs:=[a,b]) h
end
end K1
local macro_rules | `(tactic| wtm_at "i")=>`(tactic| first
 |((with_reducible apply K1.YA);assumption)|((with_reducible apply K1.ce);wtm_at "e")|((with_reducible apply K1.cf);wtm_at "e")|((with_reducible apply K1.QN);(wtm_at "e");(wtm_at "e"))|((with_reducible apply K1.QP);(wtm_at "e");(wtm_at "e")))
namespace K1
open PySem L2 Mi
section
variable{Z w9 x6:Mh}{l:Int}{x y:Str}{v6 x8:Sl}
theorem Hq{r:Rw}(h:xs=r.vars.map D.str)(q:∃x8,Bc (Bp 6) (BI 4 [r.toD]) Z=some ((.rt (.ref Z.length),x8),Z++[.lst xs])):De [r.toD] Z=some (.lst (r.vars.map D.str),Z):=by
 obtain⟨x8,q⟩:=q;rw[h] at q;exact HS q rfl (AAE _) List.getElem?_concat_length (Je _)
theorem Kr:∀{r:Rw},r.Form l->De [r.toD] Z=some (.lst (r.vars.map D.str),Z)
 | .put bx e,⟨h1,h2⟩=>by
  have hl:=Ex.vlen h2;have hz:sizeLine=16777216:=by decide
  refine Hq (xs:=[]++e.vars.map D.str) rfl ?_;refine' ⟨_,?e1⟩
  case e1=>unfold Bc Rw.toD;wtm_at "b"
 | .get x bx,⟨h1,h2⟩=>by
  refine Hq (xs:=[]++[.str x]) rfl ?_;refine' ⟨_,?e1⟩
  case e1=>unfold Bc Rw.toD;wtm_at "b"
 | .letr x e,⟨h1,h2⟩=>by
  have hl:=Ex.vlen h2;have hz:sizeLine=16777216:=by decide
  refine Hq (xs:=[]++[.str x]++e.vars.map D.str) rfl ?_;refine' ⟨_,?e1⟩
  case e1=>unfold Bc Rw.toD;wtm_at "b"
 | .unless e t,⟨h1,h2,h3⟩=>by
  have hl:=Ex.vlen h1;have hz:sizeLine=16777216:=by decide
  refine Hq (xs:=[]++e.vars.map D.str) rfl ?_;refine' ⟨_,?e1⟩
  case e1=>unfold Bc Rw.toD;wtm_at "b"
 | .jump t,⟨h1,h2⟩=>by
  refine Hq (xs:=[]) rfl ?_;refine' ⟨_,?e1⟩
  case e1=>unfold Bc Rw.toD;wtm_at "b"
 | .tell e,h1=>by
  have h1:e.Ok 5:=h1;have hl:=Ex.vlen h1;have hz:sizeLine=16777216:=by decide
  refine Hq (xs:=[]++e.vars.map D.str) rfl ?_;refine' ⟨_,?e1⟩
  case e1=>unfold Bc Rw.toD;wtm_at "b"
 | .done,_=>by
  refine Hq (xs:=[]) rfl ?_;refine' ⟨_,?e1⟩
  case e1=>unfold Bc Rw.toD;wtm_at "b"
def TD(wr:Bool)(x:Str):Prop:=PyData.strOk x=true/\x∉(["not", "and", "or"]:List Str)/\(wr=true∨x ≠ "v")
theorem MU:∀(xs:List Str) (o:Option D),(∀x∈xs,TD wr x)->∃o',BR (AR 2) (AT (Ag (AF B9 (AC (mOp (C4 true) (AD 2) (mC Do)) (AC (mC (.str "a variable is called like a word of expressions")) AI))))
  (Ag (AF B9 (AC (MF (AD 1) (mOp B4 (AD 2) (mC (.str "v")))) (AC (mC (.str "a reader has no variable v")) AI))))) (xs.map D.str) [some rD,some (.bl wr),o] Z=some ((.next,[some rD,some (.bl wr),o']),Z)
 |[],o,_=>⟨o,rfl⟩
 |x::r,o,h=>by
  obtain⟨h1,h2,h3⟩:=h x (by simp);obtain⟨o',ih⟩:=MU (wr:=wr) (rD:=rD) r (some (.str x)) λy hy=>h y (by simp[hy]);refine⟨o',?_⟩;refine DQ (v6:=[some rD,some (.bl wr),some (.str x)]) (x8:=[some rD,some (.bl wr),some (.str x)]) (w9:=Z) (x6:=Z) rfl ?_ ih;unfold Do;cases wr with
  |true=>wtm_at "b"
  |false=>
   have h4:x ≠ "v" := by rcases h3 with z|z;cases z;exact z
   wtm_at "b"
noncomputable def Rw.word:Rw->Str
 | .put _ _ => "put" | .get _ _ => "get" | .letr _ _ => "let" | .unless _ _ => "unless" | .jump _ => "jump" | .tell _ => "tell" | .done => "done"
noncomputable def Rw.setOk:Rw->Prop
 | .get x _=>x ≠ "v"
 | .letr x _=>x ≠ "v"
 |_=>True
theorem Ib{wr:Bool}{r:Rw}(hf:r.Form l)(hv:∀x∈r.vars,TD wr x)(hs:r.setOk):Ct [r.toD,.bl wr] Z=some (.non,Z):=by
 have v:=Kr (Z:=Z) hf;obtain⟨o,lp⟩:=MU (Z:=Z) (wr:=wr) (rD:=r.toD) r.vars none hv;have b:∃x8,sIf (AW (mOp (C4 false) (mOp Aa (AD 0) (mC (.int 0))) (AF DL (AC (mC (.str "get")) (AC (mC (.str "let")) AI))))) (Ag (AF B9 (AC (mOp B4 (mOp Aa (AD 0) (mC (.int 1))) (mC (.str "v"))) (AC (mC (.str "the variable v is set by no row")) AI)))) BC [some r.toD,some (.bl wr),o] Z=some ((.next,x8),Z):=by
  cases r with
  |get x bx=>
   have h1:=hf.1.ok;have h2:x ≠ "v" := hs;simp only[Rw.toD];exact⟨_,by wtm_at "b"⟩
  |letr x e=>
   have h1:=hf.1.ok;have h2:x ≠ "v" := hs;simp only[Rw.toD];exact⟨_,by wtm_at "b"⟩
  |_=>
   simp only[Rw.toD];exact⟨_,by wtm_at "b"⟩
 obtain⟨x8,b⟩:=b;refine BE (g:=[]) (x8:=x8) ?_ rfl;rw[AAY];unfold FV;refine Dl (v6:=[some r.toD,some (.bl wr),o]) (w9:=Z) (IL (ds:=r.vars.map D.str) (w9:=Z) (OJ (x:=.lst (r.vars.map D.str)) (w9:=Z) (OK (ds:=[r.toD]) (w9:=Z) ?_ v) rfl) lp) b;rfl
end
end K1
set_option maxHeartbeats 4000000
namespace K1
open PySem L2 Mi
section
variable{Z:Mh}{n:Nat}{z:D}{B:Sl}
theorem HV(h:Z[n]?=some (.dK L)):C8 (.ref n) Z=some ((n,L),Z):=by unfold C8;dsimp only;rw[h]
theorem XB(h1:mo B Z=some (.ref n,Z))(h:Z[n]?=some (.dK L))(h2:mi B Z=some (.str bx,Z))(hv:Dy L (.inr bx)=some z):Lc mo mi B Z=some (z,Z):=by
 unfold Lc;rw[AV h1,AV (show G0 (.ref n) Z=some ((),Z) from by unfold G0;rw[AV (HV h)];rfl),AV h2];unfold XM;rw[AV (HV h)];show some ((Dy L (.inr bx)).getD .non,Z)=_;rw[hv];rfl
theorem fh(h:Z[n]?=some (.dK L))(hv:(Dy L (.inr bx)).isSome=true):UM false (.str bx) (.ref n) Z=some (.bl true,Z):=by
 unfold UM;rw[AV (HV h)];show some (D.bl (Dy L (.inr bx)).isSome,Z)=_;rw[hv]
end
end K1
local macro_rules | `(tactic| wtm_at "i")=>`(tactic| first
 |((with_reducible apply K1.XB);(wtm_at "b");(assumption);(wtm_at "b");(assumption))|((with_reducible apply K1.fh);(assumption);(assumption)))
namespace K1
open PySem L2 Mi
section
variable{Z w9 x6:Mh}{n:Nat}{l:Int}{x y:Str}
noncomputable def Rw.Tab(L:List (Key×D))(nm:Str):Rw->Prop
 | .put bx _=>Dy L (.inr bx)=some (.str nm)
 | .get _ bx=>(Dy L (.inr bx)).isSome=true
 |_=>True
noncomputable def Rw.EndOk(wr:Bool):Rw->Prop
 | .tell _=>wr=false
 | .done=>wr=true
 |_=>True
structure Rw.Ok(L:List (Key×D))(nm:Str)(wr:Bool)(l:Int)(r:Rw):Prop where
 form:r.Form l
 ends:r.EndOk wr
 vars:∀x∈r.vars,TD wr x
 set:r.setOk
 tab:r.Tab L nm
theorem VH:∀{r:Rw},r.EndOk wr->CW [.str r.word,.bl wr] Z=some (.non,Z):=by
 intro r h;cases r with
 |tell e=>cases (show wr=false from h);simp only[Rw.word];exact QP (by decide +kernel) (by decide +kernel)
 |done=>cases (show wr=true from h);simp only[Rw.word];exact QN (by decide +kernel) (by decide +kernel)
 |_=>
  simp only[Rw.word];cases wr with
  |false=>exact QP (by decide +kernel) (by decide +kernel)
  |true=>exact QN (by decide +kernel) (by decide +kernel)
noncomputable abbrev P0:Sl->M (Fl×Sl):=(AT (Ag (AF Ei (AC (AD 3) (AC (AF Bk (AC (mOp Aa (AD 0) (mC (.int 2))) AI)) AI))))
  (AT (Ag (AF CW (AC (mOp Aa (AD 3) (mC (.int 0))) (AC (AD 1) AI))))
  (AT (Ag (AF Ct (AC (AD 3) (AC (AD 1) AI))))
  (AT (sIf (AW (mOp A8 (mOp Aa (AD 3) (mC (.int 0))) (mC (.str "put")))) (Ag (AF B9 (AC (mOp A8 (Lc (AD 2) (mOp Aa (AD 3) (mC (.int 1)))) (mOp Aa (AD 0) (mC (.int 0)))) (AC (mC (.str "a hand puts a box that it does not write")) AI)))) BC)
  (sIf (AW (mOp A8 (mOp Aa (AD 3) (mC (.int 0))) (mC (.str "get")))) (Ag (AF B9 (AC (mOp (UM false) (mOp Aa (AD 3) (mC (.int 2))) (AD 2)) (AC (mC (.str "a hand gets a box that is none")) AI)))) BC)))))
theorem Vm(hn:Z[n]?=some (.dK L))(hm:PyData.strOk nm=true):∀{r:Rw},r.Ok L nm wr ds.length->
  P0 [some (.tup [.str nm,.int w,.tup ds]),some (.bl wr),some (.ref n),some r.toD] Z=some ((.next,[some (.tup [.str nm,.int w,.tup ds]),some (.bl wr),some (.ref n),some r.toD]),Z):=by
 intro r h;have c1:=NZ (Z:=Z) h.form;have c2:=VH (Z:=Z) h.ends;have c3:=Ib (Z:=Z) h.form h.vars h.set;have c4:=h.tab;cases r with
 |put bx e=>
  have c4:Dy L (.inr bx)=some (.str nm):=c4;simp only[Rw.toD,Rw.word] at c1 c2 c3 ⊢;wtm_at "b"
 |get x bx=>
  have c4:(Dy L (.inr bx)).isSome=true:=c4;simp only[Rw.toD,Rw.word] at c1 c2 c3 ⊢;wtm_at "b"
 |_=>
  simp only[Rw.toD,Rw.word] at c1 c2 c3 ⊢;wtm_at "b"
theorem Ma(hn:Z[n]?=some (.dK L))(hm:PyData.strOk nm=true):∀(rs:List Rw) (o:Option D),(∀r∈rs,r.Ok L nm wr ds.length)->∃o',
  BR (AR 3) P0 (rs.map Rw.toD) [some (.tup [.str nm,.int w,.tup ds]),some (.bl wr),some (.ref n),o] Z=some ((.next,[some (.tup [.str nm,.int w,.tup ds]),some (.bl wr),some (.ref n),o']),Z)
 |[],o,_=>⟨o,rfl⟩
 |r::rs,o,h=>by
  obtain⟨o',ih⟩:=Ma (w:=w) hn hm rs (some r.toD) λq hq=>h q (by simp[hq]);exact⟨o',DQ rfl (Vm hn hm (h r (by simp))) ih⟩
theorem NY{L:List (Key×D)}{nm:Str}{w:Int}{rs:List Rw}(hn:Z[n]?=some (.dK L))(hm:PyData.strOk nm=true)(h:∀r∈rs,r.Ok L nm wr rs.length):Eh [.tup [.str nm,.int w,.tup (rs.map Rw.toD)],.bl wr,.ref n] Z=some (.non,Z):=by
 obtain⟨o',lp⟩:=Ma (w:=w) (ds:=rs.map Rw.toD) hn hm rs none (by rw[AAF];exact h);exact BE (g:=[]) (by
  rw[AAY];exact IL (ds:=rs.map Rw.toD) (w9:=Z) (OJ (x:=.tup (rs.map Rw.toD)) (w9:=Z) (Pi (x:=.tup [.str nm,.int w,.tup (rs.map Rw.toD)]) (y:=.int 2) (w9:=Z) (x6:=Z) rfl rfl rfl) rfl) lp) rfl
end
end K1
set_option maxHeartbeats 4000000
namespace K1
open PySem L2 Mi
section
variable{Z w9 x6:Mh}{x:Str}{B v6 x8:Sl}
theorem SW:∀(xs ys:List Str),(ys++xs).Nodup->(xs.foldl (λys x=>if x∈ys then ys else ys++[x]) ys)=ys++xs
 |[],ys,_=>by simp
 |x::xs,ys,h=>by
  have hx:x∉ys:=by
   intro hm;rw[List.nodup_append] at h;exact h.2.2 x hm x (by simp) rfl
  show xs.foldl _ (if x∈ys then ys else ys++[x])=_;rw[if_neg hx,SW xs (ys++[x]) (by simpa using h)];simp
theorem Ru:∀xs:List Str,GH (xs.map D.str)=some xs
 |[]=>rfl
 |x::r=>by
  show (GH (r.map D.str)).map (x::·)=_;rw[Ru r];rfl
theorem Ic{xs:List Str}(h:xs.Nodup)(hl:xs.length<=1000):Ej [.lst (xs.map D.str)] Z=some (.bl true,Z):=by
 have e:KN (.lst (xs.map D.str)) Z=some (.int xs.length,Z):=by
  unfold KN;rw[AV (show Co (.lst (xs.map D.str)) Z=some (xs.map D.str,Z) from rfl),Ru];show (if xs.length+2<scanBound then some (D.int (Cv xs).length,Z) else none)=_;rw[if_pos (by have:scanBound=4096:=rfl;omega)];have:Cv xs=xs:=by unfold Cv;rw[SW xs [] (by simpa using h)];simp
  rw[this]
 have hq:((xs.length:Nat):Int)=((xs.map D.str).length:Nat):=by simp
 exact BP (g:=[]) (x8:=_) (by rw[AAY];unfold Ir;wtm_at "b") rfl (by unfold Cl;trivial)
set_option genInjectivity false in
structure Bx where
 nm:Str
 kd:Str
 sz:Int
 bg:Int
 wr:Str
def Bx.toD(b:Bx):D:=.tup [.str b.nm,.str b.kd,.int b.sz,.int b.bg,.str b.wr]
def FY(kd:Str)(sz bg:Int):Prop:=kd∈(["safe", "steady", "whole"]:List Str)/\2<=sz/\sz<=10/\0<=bg/\bg<=sz-1
set_option genInjectivity false in
structure Hd where
 nm:Str
 wi:Int
 rs:List Rw
def Hd.toD(h:Hd):D:=.tup [.str h.nm,.int h.wi,.tup (h.rs.map Rw.toD)]
theorem ID{α:Type}{f:α->D}{g:α->Str}{xs:List α}(h:∀a,∀ν:Mh,Aa (f a) (.int 0) ν=some (.str (g a),ν))(hl:xs.length<=1000){ma:Sl->M D}(hm:ma B Z=some (.tup (xs.map f),Z)):BU 1 [] (C7 ma) (AR 0) Ba (mOp Aa (AD 0) (mC (.int 0))) A4 B Z=some (.lst ((xs.map g).map D.str),Z):=by
 have hz:sizeLine=16777216:=by decide
 have go:∀(xs:List α) (ys:List D),Dp (AR 0) Ba (mOp Aa (AD 0) (mC (.int 0))) (DG 1 [] B) (xs.map f) ys Z=some (ys++(xs.map g).map D.str,Z):=by
  intro xs
  induction xs with
  |nil=>intro ys;show some (ys,Z)=_;simp
  |cons a xs ih=>
   intro ys;show bnd (AR 0 (f a) (DG 1 [] B)) _ Z=_;rw[AV (show AR 0 (f a) (DG 1 [] B) Z=some ((DG 1 [] B).set 0 (some (f a)),Z) from rfl),AV (show Ba ((DG 1 [] B).set 0 (some (f a))) Z=some (true,Z) from rfl),if_pos rfl,AV (Pi (GA rfl) Zh (h a Z)),ih];simp
 refine Sz (OJ hm Wv) (by simp;omega) (go xs []) (KL (by simp;omega))
theorem Lw{o:Option D}:∀(bs:List Bx) (o:Option D),(∀b∈bs,GoodName b.nm/\FY b.kd b.sz b.bg)->∃o',BR (AR 1) (AT (Ag (AF B9 (AC (AF CQ (AC (AD 1) (AC (mC (.int 5)) (AC (mC (.int 5)) AI)))) (AC (mC (.str "a box is a tuple of five parts")) AI))))
  (AT (Ag (AF B9 (AC (AF CU (AC (mOp Aa (AD 1) (mC (.int 0))) AI)) (AC (mC (.str "a box has a name")) AI))))
  (Ag (AF CV (AC (mOp Aa (AD 1) (mC (.int 1))) (AC (mOp Aa (AD 1) (mC (.int 2))) (AC (mOp Aa (AD 1) (mC (.int 3))) AI))))))) (bs.map Bx.toD) [some t,o] Z=some ((.next,[some t,o']),Z)
 |[],o,_=>⟨o,rfl⟩
 |b::bs,o,h=>by
  obtain⟨h1,h2,h3,h4,h5,h6⟩:=h b (by simp);obtain⟨o',ih⟩:=Lw (o:=none) (t:=t) bs (some b.toD) λq hq=>h q (by simp[hq]);have c:=GW (Z:=Z) h2 h3 h4 h5 h6;refine⟨o',DQ (v6:=[some t,some b.toD]) (x8:=[some t,some b.toD]) (w9:=Z) (x6:=Z) rfl ?_ ih⟩;unfold Bx.toD;wtm_at "b"
theorem Lh:∀(hs:List Hd) (o:Option D),(∀h∈hs,GoodName h.nm/\0<=h.wi/\h.wi<=400/\h.rs.length<=60)->∃o',BR (AR 1) (AT (Ag (AF B9 (AC (AF CQ (AC (AD 1) (AC (mC (.int 3)) (AC (mC (.int 3)) AI)))) (AC (mC (.str "a hand is a tuple of three parts")) AI))))
  (AT (Ag (AF B9 (AC (AF CU (AC (mOp Aa (AD 1) (mC (.int 0))) AI)) (AC (mC (.str "a hand has a name")) AI))))
  (AT (Ag (AF B9 (AC (AF DP (AC (mOp Aa (AD 1) (mC (.int 1))) (AC (mC (.int 0)) (AC (mC EJ) AI)))) (AC (mC (.str "a told count is a whole number from 0 to 400")) AI))))
  (Ag (AF B9 (AC (AF CQ (AC (mOp Aa (AD 1) (mC (.int 2))) (AC (mC (.int 0)) (AC (mC EU) AI)))) (AC (mC (.str "rows are a tuple of at most sixty")) AI))))))) (hs.map Hd.toD) [some t,o] Z=some ((.next,[some t,o']),Z)
 |[],o,_=>⟨o,rfl⟩
 |h::hs,o,hh=>by
  obtain⟨h1,h2,h3,h4⟩:=hh h (by simp);obtain⟨o',ih⟩:=Lh (t:=t) hs (some h.toD) λq hq=>hh q (by simp[hq]);have q1:(0:Int)<=((h.rs.map Rw.toD).length:Nat):=by omega
  have q2:((h.rs.map Rw.toD).length:Nat)<=(60:Int):=by simp;omega
  refine⟨o',DQ (v6:=[some t,some h.toD]) (x8:=[some t,some h.toD]) (w9:=Z) (x6:=Z) rfl ?_ ih⟩;unfold Hd.toD EJ EU;wtm_at "b"
theorem MB{bs:List Bx}(h:∀b∈bs,GoodName b.nm/\FY b.kd b.sz b.bg)(hl:bs.length<=6)(hd:(bs.map Bx.nm).Nodup):EI [.tup (bs.map Bx.toD)] Z=some (.non,Z):=by
 obtain⟨o,lp⟩:=Lw (o:=none) (Z:=Z) (t:=.tup (bs.map Bx.toD)) bs none h;have c:=ID (Z:=Z) (B:=[some (.tup (bs.map Bx.toD)),o]) (f:=Bx.toD) (g:=Bx.nm) (xs:=bs) (λa ν=>rfl) (by omega) (ma:=AD 0) rfl;have u:=Ic (Z:=Z) hd (by simp;omega);have q1:(0:Int)<=((bs.map Bx.toD).length:Nat):=by omega
 have q2:((bs.map Bx.toD).length:Nat)<=(6:Int):=by simp;omega
 have t:=Hr (Z:=Z) q1 q2;refine BE (g:=[]) (x8:=[some (.tup (bs.map Bx.toD)),o]) ?_ rfl;rw[AAY];unfold Hl Em;refine Dl (v6:=[some (.tup (bs.map Bx.toD)),none]) (w9:=Z) (by show Ag _ [some (.tup (bs.map Bx.toD)),none] Z=_;wtm_at "b") (Dl (IL (ds:=bs.map Bx.toD) (w9:=Z) rfl lp) ?_);wtm_at "b"
theorem MA{hs:List Hd}(h:∀h∈hs,GoodName h.nm/\0<=h.wi/\h.wi<=400/\h.rs.length<=60)(h2:2<=hs.length)(hl:hs.length<=4)(hd:(hs.map Hd.nm).Nodup):EH [.tup (hs.map Hd.toD)] Z=some (.non,Z):=by
 obtain⟨o,lp⟩:=Lh (Z:=Z) (t:=.tup (hs.map Hd.toD)) hs none h;have c:=ID (Z:=Z) (B:=[some (.tup (hs.map Hd.toD)),o]) (f:=Hd.toD) (g:=Hd.nm) (xs:=hs) (λa ν=>rfl) (by omega) (ma:=AD 0) rfl;have u:=Ic (Z:=Z) hd (by simp;omega);have q1:(2:Int)<=((hs.map Hd.toD).length:Nat):=by simp;omega
 have q2:((hs.map Hd.toD).length:Nat)<=(4:Int):=by simp;omega
 have t:=Hr (Z:=Z) q1 q2;refine BE (g:=[]) (x8:=[some (.tup (hs.map Hd.toD)),o]) ?_ rfl;rw[AAY];unfold Hk EK El;refine Dl (v6:=[some (.tup (hs.map Hd.toD)),none]) (w9:=Z) (by show Ag _ [some (.tup (hs.map Hd.toD)),none] Z=_;wtm_at "b") (Dl (IL (ds:=hs.map Hd.toD) (w9:=Z) rfl lp) ?_);wtm_at "b"
end
end K1
set_option maxHeartbeats 4000000
namespace K1
open PySem L2 Mi
section
variable{Z w9 x6:Mh}{n:Nat}{x y:Str}{B v6 x8:Sl}
theorem cZ{xs:List Str}(h:x∈xs):C4 false (.str x) (.lst (xs.map D.str)) Z=some (.bl true,Z):=by
 show Jw false (.str x) (.lst (xs.map D.str)) Z=_;rw[KO (ds:=[]) rfl,AAO h];rfl
noncomputable def kv(b:Bx):Key×D:=(.inr b.nm,.str b.wr)
theorem Np(h:b.nm∉bs.map Bx.nm):LN (bs.map kv) (.inr b.nm) (.str b.wr)=(bs++[b]).map kv:=by
 unfold LN;rw[if_neg]
 ·simp[kv]
 ·intro z;rw[List.any_eq_true] at z;obtain⟨p,hp,e⟩:=z;rw[AAL] at hp;obtain⟨c,hc,rfl⟩:=hp;have e:=of_decide_eq_true e;have e2:(Sum.inr c.nm:Key)=.inr b.nm:=e;exact h (AAL.mpr ⟨c,hc,Sum.inr.inj e2⟩)
theorem QK:∀{bs:List Bx} {b:Bx},(bs.map Bx.nm).Nodup->b∈bs->Dy (bs.map kv) (.inr b.nm)=some (.str b.wr)
 |c::bs,b,hd,hb=>by
  unfold Dy;rw[AAW,List.find?_cons];rw[AAW,List.nodup_cons] at hd;by_cases e:c.nm=b.nm
  ·have hbc:b=c:=by
    rcases AAI.mp hb with z|z
    ·exact z
    ·exact absurd (show b.nm∈bs.map Bx.nm from AAL.mpr ⟨b,z,rfl⟩) (by rw[←e];exact hd.1)
   subst hbc;simp[kv]
  ·have hb':b∈bs:=by
    rcases AAI.mp hb with z|z
    ·exact absurd (by rw[z]) e
    ·exact z
   have:decide ((kv c).1=(Sum.inr b.nm:Key))=false:=AAN (by intro z;exact e (Sum.inr.inj (show (Sum.inr c.nm:Key)=.inr b.nm from z)));simp only[this];exact QK hd.2 hb'
theorem Zg(h1:mv B Z=some (v,Z))(h2:mo B Z=some (.ref n,Z))(h3:mi B Z=some (.str x,Z))(h:Z[n]?=some (.dK L))(hl:L.length<sizeLine):O2 mo mi mv B Z=some ((.next,B),Z.set n (.dK (LN L (.inr x) v))):=by
 unfold O2;rw[AV h1,AV h2,AV h3,AV (HV h)];show (if L.length<sizeLine then some ((Fl.next,B),Z.set n (.dK (LN L (.inr x) v))) else none)=_;rw[if_pos hl]
set_option genInjectivity false in
structure Mk where
 kd:Str
 sz:Int
 bg:Int
 bs:List Bx
 hs:List Hd
def Mk.toD(m:Mk):D:=.tup [.str m.kd,.int m.sz,.int m.bg,.tup (m.bs.map Bx.toD),.tup (m.hs.map Hd.toD)]
structure Mk.Ok(m:Mk):Prop where
 worth:FY m.kd m.sz m.bg
 boxes:∀b∈m.bs,GoodName b.nm/\FY b.kd b.sz b.bg
 most:m.bs.length<=6
 unlike:(m.bs.map Bx.nm).Nodup
 hands:∀h∈m.hs,GoodName h.nm/\0<=h.wi/\h.wi<=400/\h.rs.length<=60
 least:2<=m.hs.length
 mosth:m.hs.length<=4
 unlikeh:(m.hs.map Hd.nm).Nodup
 writers:∀b∈m.bs,b.wr∈m.hs.map Hd.nm
 rows:∀(i:Nat) (h:Hd),m.hs[i]?=some h->∀r∈h.rs,r.Ok (m.bs.map kv) h.nm (i==0) h.rs.length
theorem IW{t:D}{ns:List Str}{o4 o5:Option D}:∀(rest done:List Bx) (o:Option D),((done++rest).map Bx.nm).Nodup->(done++rest).length<=1000->(∀b∈rest,b.wr∈ns)->∃o',BR (AR 3) (AT (Ag (AF B9 (AC (mOp (C4 false) (mOp Aa (AD 3) (mC (.int 4))) (AD 1)) (AC (mC (.str "the hand of a box is none")) AI))))
  (O2 (AD 2) (mOp Aa (AD 3) (mC (.int 0))) (mOp Aa (AD 3) (mC (.int 4))))) (rest.map Bx.toD) [some t,some (.lst (ns.map D.str)),some (.ref Z.length),o,o4,o5] (Z++[.dK (done.map kv)])=some ((.next,[some t,some (.lst (ns.map D.str)),some (.ref Z.length),o',o4,o5]),Z++[.dK ((done++rest).map kv)])
 |[],done,o,_,_,_=>⟨o,by rw[AAY];rfl⟩
 |b::rest,done,o,hd,hl,h=>by
  have hz:sizeLine=16777216:=by decide
  obtain⟨o',ih⟩:=IW (t:=t) (ns:=ns) (o4:=o4) (o5:=o5) rest (done++[b]) (some b.toD) (by simpa using hd) (by simpa using hl) λq hq=>h q (by simp[hq]);have hb:b.nm∉done.map Bx.nm:=by
   rw[AAX,List.nodup_append] at hd;intro z;exact hd.2.2 _ z b.nm (by simp) rfl
  have hw:=h b (by simp);have q:=cZ (Z:=Z++[.dK (done.map kv)]) hw;have p:=Zg (Z:=Z++[.dK (done.map kv)]) (B:=[some t,some (.lst (ns.map D.str)),some (.ref Z.length),some b.toD,o4,o5]) (mo:=AD 2) (mi:=mOp Aa (AD 3) (mC (.int 0))) (mv:=mOp Aa (AD 3) (mC (.int 4))) (v:=.str b.wr) (x:=b.nm) (n:=Z.length) (L:=done.map kv) rfl rfl rfl List.getElem?_concat_length (by simp at hl ⊢;omega);rw[Np hb] at p;have e:(Z++[MO.dK (done.map kv)]).set Z.length (.dK ((done++[b]).map kv))=Z++[.dK ((done++[b]).map kv)]:=by simp
  rw[e] at p;have ap:done++b::rest=done++[b]++rest:=by simp
  rw[ap];refine⟨o',DQ (v6:=[some t,some (.lst (ns.map D.str)),some (.ref Z.length),some b.toD,o4,o5]) (w9:=Z++[.dK (done.map kv)]) rfl (Dl (v6:=[some t,some (.lst (ns.map D.str)),some (.ref Z.length),some b.toD,o4,o5]) (w9:=Z++[.dK (done.map kv)]) ?_ p) ih⟩;unfold Bx.toD;wtm_at "b"
theorem Lr(hn:Z[n]?=some (.dK L)):∀(hs:List Hd) (k:Nat) (o4 o5:Option D),(∀h∈hs,PyData.strOk h.nm=true)->(∀(i:Nat) (h:Hd),hs[i]?=some h->∀r∈h.rs,r.Ok L h.nm (i+k==0) h.rs.length)->∃o4' o5',
  BR (DE [4,5]) (Ag (AF Eh (AC (AD 5) (AC (mOp A8 (AD 4) (mC (.int 0))) (AC (AD 2) AI))))) (Dv k (hs.map Hd.toD)) [t,t1,some (.ref n),o3,o4,o5] Z=some ((.next,[t,t1,some (.ref n),o3,o4',o5']),Z)
 |[],k,o4,o5,_,_=>⟨o4,o5,rfl⟩
 |h::hs,k,o4,o5,hh,hr=>by
  obtain⟨o4',o5',ih⟩:=Lr (t:=t) (t1:=t1) (o3:=o3) hn hs (k+1) (some (.int k)) (some h.toD) (λq hq=>hh q (by simp[hq])) λi q hq r hrr=>by
   have:=hr (i+1) q (by simpa using hq) r hrr;rw[show i+(k+1)=i+1+k from by omega];exact this
  have hb:(((k:Nat):Int)==0)=(0+k==0):=by
   rw[Nat.zero_add];by_cases z:k=0
   ·subst z;rfl
   ·rw[AAd.mpr z,AAd.mpr (by omega)]
  have c:=NY (w:=h.wi) hn (hh h (by simp)) (hr 0 h rfl);have e:A8 (.int k) (.int 0) Z=some (.bl (0+k==0),Z):=by rw[Wz,hb]
  refine⟨o4',o5',DQ (v6:=[t,t1,some (.ref n),o3,some (.int k),some h.toD]) (x8:=[t,t1,some (.ref n),o3,some (.int k),some h.toD]) (w9:=Z) (x6:=Z) rfl ?_ ih⟩;exact Sy (OK (ds:=[h.toD,.bl (0+k==0),.ref n]) (w9:=Z) (Iz (w9:=Z) rfl (Iz (w9:=Z) (Pi (x:=.int k) (y:=.int 0) (w9:=Z) (x6:=Z) rfl rfl e) (Iz (w9:=Z) rfl rfl))) c)
theorem GX{m:Mk}(h:m.Ok):Dh [m.toD] Z=some (.non,Z):=by
 obtain⟨w1,w2,w3,w4,w5⟩:=h.worth;have c1:=GW (Z:=Z) w1 w2 w3 w4 w5;have c2:=MB (Z:=Z) h.boxes h.most h.unlike;have c3:=MA (Z:=Z) h.hands h.least h.mosth h.unlikeh;have c4:=ID (Z:=Z) (B:=[some m.toD,none,none,none,none,none]) (f:=Hd.toD) (g:=Hd.nm) (xs:=m.hs) (λa ν=>rfl) (by have:=h.mosth;omega) (ma:=mOp Aa (AD 0) (mC (.int 4))) rfl;obtain⟨o3,l1⟩:=IW (Z:=Z) (t:=m.toD) (ns:=m.hs.map Hd.nm) (o4:=none) (o5:=none) m.bs [] none (by simpa using h.unlike) (by have:=h.most;simp;omega) h.writers;obtain⟨o4,o5,l2⟩:=Lr (Z:=Z++[.dK (([]++m.bs).map kv)]) (n:=Z.length) (t:=some m.toD) (t1:=some (.lst ((m.hs.map Hd.nm).map D.str))) (o3:=o3) List.getElem?_concat_length m.hs 0 none none (λq hq=>(h.hands q hq).1.ok) (by simpa using h.rows);refine BE (g:=[.dK (([]++m.bs).map kv)]) (x8:=[some m.toD,some (.lst ((m.hs.map Hd.nm).map D.str)),some (.ref Z.length),o3,o4,o5]) ?_ rfl;unfold Gq;have a1:∀{B:Sl},B=[some m.toD,none,none,none,none,none]->Ag (AF B9 (AC (AF CQ (AC (AD 0) (AC (mC (.int 5)) (AC (mC (.int 5)) AI)))) (AC (mC (.str "a making is a tuple of five parts")) AI))) B Z=some ((.next,B),Z):=by
  intro B e;subst e;unfold Mk.toD;wtm_at "b"
 have a2:Ag (AF CV (AC (mOp Aa (AD 0) (mC (.int 0))) (AC (mOp Aa (AD 0) (mC (.int 1))) (AC (mOp Aa (AD 0) (mC (.int 2))) AI)))) [some m.toD,none,none,none,none,none] Z=some ((.next,[some m.toD,none,none,none,none,none]),Z):=by
  unfold Mk.toD;wtm_at "b"
 have a3:Ag (AF EI (AC (mOp Aa (AD 0) (mC (.int 3))) AI)) [some m.toD,none,none,none,none,none] Z=some ((.next,[some m.toD,none,none,none,none,none]),Z):=by
  unfold Mk.toD;wtm_at "b"
 have a4:Ag (AF EH (AC (mOp Aa (AD 0) (mC (.int 4))) AI)) [some m.toD,none,none,none,none,none] Z=some ((.next,[some m.toD,none,none,none,none,none]),Z):=by
  unfold Mk.toD;wtm_at "b"
 refine Dl (a1 rfl) (Dl a2 (Dl a3 (Dl a4 (Dl (v6:=[some m.toD,some (.lst ((m.hs.map Hd.nm).map D.str)),none,none,none,none]) (w9:=Z) (XC c4 rfl) (Dl (v6:=[some m.toD,some (.lst ((m.hs.map Hd.nm).map D.str)),some (.ref Z.length),none,none,none]) (w9:=Z++[.dK []]) rfl (Dl (IL (ds:=m.bs.map Bx.toD) (w9:=Z++[.dK []]) rfl l1) (IL (ds:=Dv 0 (m.hs.map Hd.toD)) rfl l2)))))))
end
end K1
set_option maxHeartbeats 4000000
namespace K1
open PySem L2 Mi
section
theorem To{α:Type}{f:α->D}{xs:List α}{i:Int}(h1:0<=i)(h2:i<xs.length):∃a∈xs,atI (xs.map f) i=some (f a):=by
 obtain⟨k,rfl⟩:=Int.eq_ofNat_of_zero_le h1;have hk:k<xs.length:=by omega
 refine⟨xs[k],List.getElem_mem hk,?_⟩;unfold atI ixN;rw[if_pos h1,if_pos (by rw[AAF];exact h2)];show (xs.map f)[(k:Int).toNat]?=_;simp[hk]
theorem Ex.cl:∀e:Ex,Cl k e.toD
 | .num _=>by simp[Ex.toD,Cl,ClL]
 | .var _=>by simp[Ex.toD,Cl,ClL]
 | .neg e=>by have:=Ex.cl (k:=k) e;simp[Ex.toD,Cl,ClL,this]
 | .pair _ a b=>by have h1:=Ex.cl (k:=k) a;have h2:=Ex.cl (k:=k) b;simp[Ex.toD,Cl,ClL,h1,h2]
end
end K1
local macro_rules | `(tactic| wtm_at "i")=>`(tactic| first
 |with_reducible assumption|(with_reducible apply K1.l_eqNil)|(with_reducible apply K1.l_neNil)|((with_reducible apply K1.l_eqCons);(assumption);(assumption))|((with_reducible apply K1.l_neCons);(assumption);(assumption))|((with_reducible apply K1.l_minT);omega)|((with_reducible apply K1.l_minF);omega)|((with_reducible apply Mi.Ww);assumption))
namespace K1
open PySem L2 Mi
end K1
set_option maxHeartbeats 4000000
namespace K1
open PySem L2 Mi
end K1
set_option maxHeartbeats 4000000
namespace K1
open PySem L2 Mi
noncomputable def Qd(ns:List Str)(wr:Bool):List Str:=ns++(if wr then (["v"]:List Str) else [])
noncomputable def Rw.From(own bxs ns:List Str):Rw->Prop
 | .put bx _=>bx∈own
 | .get x bx=>x∈ns/\bx∈bxs
 | .letr x _=>x∈ns
 |_=>True
structure Rw.Drawn(own bxs ns:List Str)(wr:Bool)(l:Int)(r:Rw):Prop where
 form:r.Form l
 ends:r.EndOk wr
 vars:∀x∈r.vars,x∈Qd ns wr
 frm:r.From own bxs ns
section
theorem Rw.cl(r:Rw):Cl k r.toD:=by
 cases r with
 |put bx e=>have:=Ex.cl (k:=k) e;simp[Rw.toD,Cl,ClL,this]
 |letr bx e=>have:=Ex.cl (k:=k) e;simp[Rw.toD,Cl,ClL,this]
 | «unless» e t=>have:=Ex.cl (k:=k) e;simp[Rw.toD,Cl,ClL,this]
 |tell e=>have:=Ex.cl (k:=k) e;simp[Rw.toD,Cl,ClL,this]
 |_=>simp[Rw.toD,Cl,ClL]
end
end K1
set_option maxHeartbeats 4000000
namespace K1
open PySem L2 Mi
section
variable{Z Z' g:Mh}{w:Nat}{l:Int}{x8:Sl}
theorem WellAt.app(h:WellAt Z w):WellAt (Z++g) w:=by
 have hl:=h.lt;obtain⟨a,m,c,h,ha⟩:=h;exact⟨a,m,c,by rw[AAS hl];exact h,ha⟩
theorem YB(hw:WellAt Z w)(hb:0<b)(hb2:b<1073741824):∃r Z',BS [.ref w,.int b] (Z++g)=some (.int r,Z'++g)/\0<=r/\r<b/\Upd w Z Z':=by
 obtain⟨r,ν,e,h1,h2,u⟩:=VI (hw.app (g:=g)) hb hb2;obtain⟨Z',u',rfl⟩:=u.app hw.lt;exact⟨r,Z',e,h1,h2,u'⟩
theorem ae:∀ns:List Int,∃c:Int,IK [.scr ns,.int 0] Z=some (.int c,Z)
 |[]=>by
  have l:Bk [.scr []] Z=some (.int 0,Z):=rfl;exact⟨0,BP (g:=[]) (x8:=_) (by rw[AAY];unfold IG;wtm_at "b") rfl (by unfold Cl;trivial)⟩
 |c::ns=>by
  have l:Bk [.scr (c::ns)] Z=some (.int ((((c::ns).map D.int).length:Nat):Int),Z):=rfl;have h0:(0:Int)<((((c::ns).map D.int).length:Nat):Int):=by simp
  have i:Aa (.scr (c::ns)) (.int 0) Z=some (.int c,Z):=by
   show bnd (B0 (.scr (c::ns))) (λds=>ixD ds 0) Z=_;rw[AV (show B0 (.scr (c::ns)) Z=some ((c::ns).map D.int,Z) from rfl)];unfold ixD;rw[show atI ((c::ns).map D.int) 0=some (.int c) from by
    unfold atI ixN;rw[if_pos (by decide),if_pos h0];rfl]
   rfl
  exact⟨c,BP (g:=[]) (x8:=_) (by rw[AAY];unfold IG;wtm_at "b") rfl (by unfold Cl;trivial)⟩
theorem fX:V7 (.int 10) (.int 9) Z=some (.int 1000000000,Z):=by
 show (if (0:Int)<=9/\(9:Int)<=1000000/\(10:Int).natAbs<2 ^ 64 then some (D.int ((10:Int) ^ (9:Int).toNat),Z) else none)=_;rw[if_pos (by decide)];rfl
theorem aa:∃a m:Int,0<=a/\OI [.int c] Z=some (.ref Z.length,Z++[.lst [.int a,.int m,.int 0]]):=by
 refine⟨if c-1000000000 > 0 then c-1000000000 else 0,c % 2147483647,by split<;>omega,?_⟩;have p:=fX (Z:=Z);have mx:Qp [.int 0,.int (c-1000000000)] Z=some (.int (if c-1000000000 > 0 then c-1000000000 else 0),Z):=rfl;have e:N4 (BI 1 [.int c]) Z=some ((.rt (.ref Z.length),BI 1 [.int c]),Z++[.lst [.int (if c-1000000000 > 0 then c-1000000000 else 0),.int (c % 2147483647),.int 0]]):=by
  unfold N4;wtm_at "b"
 exact FF (hw:=.all) e rfl (.inr ⟨_,rfl⟩) ⟨⟨[],by simp[JS]⟩,by simp[JS],λj o q=>by
  have q:(Z++[MO.lst [.int (if c-1000000000 > 0 then c-1000000000 else 0),.int (c % 2147483647),.int 0]])[j]?=some o:=q;by_cases hj:j<Z.length
  ·left;rw[AAS hj] at q;exact q
  ·right;rw[AAR (by omega)] at q;have:j-Z.length=0:=by
    have:=(AAT.mp q).1;simp at this;omega
   rw[this] at q;cases q;exact Q4,.inl ⟨rfl,by show Cl _ (D.ref Z.length);unfold Cl;simp[JS]⟩⟩
end
end K1
set_option maxHeartbeats 4000000
namespace K1
open PySem L2 Mi
section
variable{ds:List D}
theorem Pn(k:Nat)(h:k<=ds.length):GS ds (some (k:Int)) none=ds.drop k:=by
 unfold GS;rw[HT.Nj,Nat.min_eq_left h];show (ds.drop k).take (ds.length-k)=_;exact List.take_of_length_le (by simp)
theorem XQ(k:Nat):GS ds none (some (k:Int))=ds.take k:=by
 unfold GS;rw[HT.Nj];show (ds.drop 0).take (min k ds.length-0)=_;rw[List.drop_zero,Nat.sub_zero];by_cases h:k<=ds.length
 ·rw[Nat.min_eq_left h]
 ·rw[Nat.min_eq_right (by omega),List.take_length,List.take_of_length_le (by omega)]
end
end K1
set_option maxHeartbeats 4000000
namespace K1
open PySem L2 Mi
end K1
set_option maxHeartbeats 4000000
namespace K1
open PySem L2 Mi
section
variable{l:Int}{x y:Str}
noncomputable def own(bs:List Bx)(nm:Str):List Str:=(bs.filter λb=>b.wr==nm).map Bx.nm
theorem XJ{bs:List Bx}{nm:Str}{rn:List Str}{l:Int}(hnd:(bs.map Bx.nm).Nodup)(hrn:∀y∈rn,GoodName y/\y∉(["v", "not", "and", "or"]:List Str)){r:Rw}(h:r.Drawn (own bs nm) (bs.map Bx.nm) rn wr l):r.Ok (bs.map kv) nm wr l:=by
 have nv:∀y∈rn,y ≠ "v" := λy hy z=>(hrn y hy).2 (by rw[z];simp);refine⟨h.form,h.ends,λx hx=>?_,?_,?_⟩
 ·rcases AAJ.mp (show x∈rn++(if wr then (["v"]:List Str) else []) from h.vars x hx) with z|z
  ·refine⟨(hrn x z).1.ok,λq=>(hrn x z).2 ?_,.inr (nv x z)⟩;simp at q ⊢;exact .inr q
  ·cases wr with
   |true=>
    simp at z;subst z;exact⟨by decide +kernel,by decide +kernel,.inl rfl⟩
   |false=>simp at z
 ·have f:=h.frm;cases r with
  |get x bx=>exact nv x f.1
  |letr x e=>exact nv x f
  |_=>trivial
 ·have f:=h.frm;cases r with
  |put bx e=>
   have f:bx∈own bs nm:=f;unfold own at f;rw[AAL] at f;obtain⟨b,hb,rfl⟩:=f;rw[List.mem_filter] at hb;have e2:b.wr=nm:=beq_iff_eq.mp hb.2;show Dy (bs.map kv) (.inr b.nm)=some (.str nm);rw[QK hnd hb.1,e2]
  |get x bx=>
   have f:bx∈bs.map Bx.nm:=f.2;rw[AAL] at f;obtain⟨b,hb,rfl⟩:=f;show (Dy (bs.map kv) (.inr b.nm)).isSome=true;rw[QK hnd hb];rfl
  |_=>trivial
end
end K1
set_option maxHeartbeats 4000000
namespace K1
open PySem L2 Mi
end K1
set_option maxHeartbeats 4000000
namespace K1
open PySem L2 Mi
section
variable{x:Str}
theorem Ka{α:Type}{f:α->D}{k:Nat}(h:∀a,Cl k (f a)):∀xs:List α,ClL k (xs.map f)
 |[]=>by simp[ClL]
 |x::r=>by rw[AAW];unfold ClL;exact⟨h x,Ka h r⟩
theorem Bx.cl(b:Bx):Cl k b.toD:=by simp[Bx.toD,Cl,ClL]
theorem Hd.cl{k:Nat}(b:Hd):Cl k b.toD:=by
 have:=Ka (k:=k) (f:=Rw.toD) (λr=>r.cl) b.rs;simp[Hd.toD,Cl,ClL,this]
theorem Mk.cl{k:Nat}(m:Mk):Cl k m.toD:=by
 have h1:=Ka (k:=k) (f:=Bx.toD) (λr=>r.cl) m.bs;have h2:=Ka (k:=k) (f:=Hd.toD) (λr=>r.cl) m.hs;simp[Mk.toD,Cl,ClL,h1,h2]
end
end K1
set_option maxHeartbeats 4000000
namespace K1
open PySem L2 Mi
end K1
namespace Mi
open PySem L2
def WP{α:Type}(m:M α)(Z:Mh)(Q:α->Mh->Prop):Prop:=∃a Z',m Z=some (a,Z')/\Q a Z'
section
variable{α β:Type}{m:M α}{f:α->M β}{Z Z':Mh}{Q Q':α->Mh->Prop}{R:β->Mh->Prop}{a:α}
theorem An(h:m Z=some (a,Z'))(q:Q a Z'):WP m Z Q:=⟨a,Z',h,q⟩
theorem Ai(h:WP m Z Q)(k:∀a Z',Q a Z'->Q' a Z'):WP m Z Q':=by
 obtain⟨a,Z',e,q⟩:=h;exact⟨a,Z',e,k a Z' q⟩
theorem AX(h:WP m Z λa w9=>WP (f a) w9 R):WP (bnd m f) Z R:=by
 obtain⟨a,w9,e,b,x6,e2,q⟩:=h;exact⟨b,x6,by rw[AV e];exact e2,q⟩
theorem BZ(q:Q a Z):WP (ret a) Z Q:=⟨a,Z,rfl,q⟩
end
section
variable{B v6:Sl}{Z w9:Mh}{d x y:D}{ds:List D}{ma mb:Sl->M D}{ra:Sl->M (List D)}{tc tb:Sl->M Bool}{m1 m2:Sl->M (Fl×Sl)}{g:D->D->M D}{QD:D->Mh->Prop}{QB:Bool->Mh->Prop}{QL:List D->Mh->Prop}{QS:Fl×Sl->Mh->Prop}{QO:Option Int->Mh->Prop}{i j:Int}{n:Nat}
theorem AK{i:Nat}(h:B[i]?=some (some d))(q:QD d Z):WP (AD i B) Z QD:=An (GA h) q
theorem Az(q:QD d Z):WP (mC d B) Z QD:=⟨d,Z,rfl,q⟩
theorem Ae(h:WP (ma B) Z λx w9=>WP (mb B) w9 λy x6=>WP (g x y) x6 QD):WP (mOp g ma mb B) Z QD:=AX (Ai h λ_ _ z=>AX z)
theorem Ds(h:WP (ma B) Z λx w9=>WP (u x) w9 QD):WP (mUn u ma B) Z QD:=AX h
theorem AU(h:WP (ra B) Z λds w9=>WP (f ds) w9 QD):WP (AF f ra B) Z QD:=AX h
theorem AN(q:QL [] Z):WP (AI B) Z QL:=⟨[],Z,rfl,q⟩
theorem AL(h:WP (ma B) Z λx w9=>WP (ra B) w9 λds x6=>QL (x::ds) x6):WP (AC ma ra B) Z QL:=AX (Ai h λ_ _ z=>AX (Ai z λ_ _ z=>BZ z))
theorem QE(z:WP (ma B) Z λx w9=>WP (l B) w9 λa x6=>WP (h B) x6 λb v7=>WP (LJ a b x) v7 QD):WP (Fm ma l h B) Z QD:=AX (Ai z λ_ _ z=>AX (Ai z λ_ _ z=>AX z))
theorem MR(q:QO none Z):WP (B5 B) Z QO:=⟨none,Z,rfl,q⟩
theorem KF(h:WP (ma B) Z λd w9=>∃i,d=.int i/\QO (some i) w9):WP (CY ma B) Z QO:=AX (Ai h λ_ _ ⟨i,e,q⟩=>by subst e;exact BZ q)
theorem aW(h:WP (mc B) Z λb w9=>(b=true->WP (ma B) w9 QD)/\(b=false->WP (mb B) w9 QD)):WP (mIf mc ma mb B) Z QD:=AX (Ai h λb _ z=>by cases b;exact z.2 rfl;exact z.1 rfl)
theorem Am(h:WP (ma B) Z λd w9=>∃b,d=.bl b/\QB b w9):WP (AW ma B) Z QB:=AX (Ai h λ_ _ ⟨b,e,q⟩=>by subst e;exact BZ q)
theorem Ux(h:WP (tc B) Z λb w9=>QB (!b) w9):WP (HY tc B) Z QB:=AX (Ai h λ_ _ q=>BZ q)
noncomputable def dX(m:M Bool)(QB:Bool->Mh->Prop):Bool->Mh->Prop
 |true,Z=>WP m Z QB
 |false,Z=>QB false Z
noncomputable def orK(m:M Bool)(QB:Bool->Mh->Prop):Bool->Mh->Prop
 |true,Z=>QB true Z
 |false,Z=>WP m Z QB
theorem VA(h:WP (tc B) Z (dX (tb B) QB)):WP (N5 tc tb B) Z QB:=AX (Ai h λb _ z=>by cases b;exact BZ z;exact z)
theorem MQ(h:WP (tc B) Z (orK (tb B) QB)):WP (mOr tc tb B) Z QB:=AX (Ai h λb _ z=>by cases b;exact z;exact BZ z)
theorem X6(h:WP (ma B) Z λd w9=>∃b,d=.bl b/\(b=true->WP (mb B) w9 QD)/\(b=false->QD (.bl false) w9)):WP (ES ma mb B) Z QD:=AX (Ai h λd w9 ⟨b,e,z⟩=>by
 subst e;refine AX (BZ ?_);cases b
 ·exact BZ (z.2 rfl)
 ·exact z.1 rfl)
noncomputable def Ro(m2:Sl->M (Fl×Sl))(QS:Fl×Sl->Mh->Prop):Fl×Sl->Mh->Prop
 |(.next,v6),w9=>WP (m2 v6) w9 QS
 |r,w9=>QS r w9
theorem AS(h:WP (m2 v6) w9 QS):Ro m2 QS (.next,v6) w9:=h
theorem Fz(h:QS (.rt d,v6) w9):Ro m2 QS (.rt d,v6) w9:=h
theorem Af(h:WP (m1 B) Z (Ro m2 QS)):WP (AT m1 m2 B) Z QS:=AX (Ai h λr _ z=>by
 obtain⟨fl,v6⟩:=r;cases fl
 ·exact z
 ·exact BZ z
 ·exact BZ z
 ·exact BZ z
 ·exact BZ z)
theorem A6{i:Nat}(h:WP (ma B) Z λd w9=>QS (.next,B.set i (some d)) w9):WP (A2 ma (AR i) B) Z QS:=AX (Ai h λ_ _ q=>AX (BZ (BZ q)))
theorem U9(h:WP (ma B) Z λd w9=>WP (bf d B) w9 λv6 x6=>QS (.next,v6) x6):WP (A2 ma bf B) Z QS:=AX (Ai h λ_ _ q=>AX (Ai q λ_ _ z=>BZ z))
theorem Cc(h:WP (ma B) Z λd w9=>QS (.rt d,B) w9):WP (A1 ma B) Z QS:=AX (Ai h λ_ _ q=>BZ q)
theorem BY(h:WP (ma B) Z λ_ w9=>QS (.next,B) w9):WP (Ag ma B) Z QS:=AX (Ai h λ_ _ q=>BZ q)
theorem CO(q:QS (.next,B) Z):WP (BC B) Z QS:=⟨_,Z,rfl,q⟩
noncomputable def ifK(m1 m2:Sl->M (Fl×Sl))(B:Sl)(QS:Fl×Sl->Mh->Prop):Bool->Mh->Prop
 |true,Z=>WP (m1 B) Z QS
 |false,Z=>WP (m2 B) Z QS
theorem CF(h:WP (m1 B) Z QS):ifK m1 m2 B QS true Z:=h
theorem A9(h:WP (m2 B) Z QS):ifK m1 m2 B QS false Z:=h
theorem BQ(h:WP (tc B) Z (ifK m1 m2 B QS)):WP (sIf tc m1 m2 B) Z QS:=AX (Ai h λb _ z=>by cases b;exact z;exact z)
theorem Fx(h:WP (src B) Z λds w9=>WP (BR bf m1 ds B) w9 QS):WP (D3 src bf m1 B) Z QS:=AX h
noncomputable def Mu(I:Sl->Mh->Prop)(QS:Fl×Sl->Mh->Prop):Fl×Sl->Mh->Prop
 |(.next,B),Z=>I B Z
 |(.cont,B),Z=>I B Z
 |(.brk,B),Z=>QS (.next,B) Z
 |(.rt d,B),Z=>QS (.rt d,B) Z
 |(.xc x,B),Z=>QS (.xc x,B) Z
theorem BV(h:I B Z):Mu I QS (.next,B) Z:=h
theorem Ev(I:List D->Sl->Mh->Prop)(step:∀x xs B Z,I (x::xs) B Z->WP (bf x B) Z λv6 w9=>WP (m1 v6) w9 (Mu (I xs) QS))(fin:∀B Z,I [] B Z->QS (.next,B) Z):∀{ds:List D} {B:Sl} {Z:Mh},I ds B Z->WP (BR bf m1 ds B) Z QS
 |[],B,Z,h=>BZ (fin B Z h)
 |x::xs,B,Z,h=>AX (Ai (step x xs B Z h) λv6 w9 z=>AX (Ai z λr x6 z=>by
   obtain⟨fl,x8⟩:=r;cases fl
   ·exact Ev I step fin z
   ·exact BZ z
   ·exact Ev I step fin z
   ·exact BZ z
   ·exact BZ z))
theorem A5{QT:Sl->Mh->Prop}{i:Nat}(q:QT (B.set i (some d)) Z):WP (AR i d B) Z QT:=⟨_,Z,rfl,q⟩
theorem Fe{QT:Sl->Mh->Prop}{i j:Nat}(q:QT ((B.set i (some x)).set j (some y)) Z):WP (DE [i,j] (.tup [x,y]) B) Z QT:=⟨_,Z,rfl,q⟩
theorem Cd(h:WP (src B) Z λds w9=>ds.length<=sizeLine/\WP (Dp bf tc ma (DG N ix B) ds []) w9 λes x6=>WP (fin es) x6 QD):WP (BU N ix src bf tc ma fin B) Z QD:=AX (Ai h λds w9 z=>AX (An (Le z.1 w9) (AX z.2)))
theorem HJ(I:List D->List D->Mh->Prop)(step:∀x xs ys Z,I (x::xs) ys Z->WP (bf x j5) Z λv6 w9=>WP (tc v6) w9 λc x6=>(c=true->WP (ma v6) x6 λy v7=>I xs (ys++[y]) v7)/\(c=false->I xs ys x6))(fin:∀ys Z,I [] ys Z->QL ys Z):∀{ds ys:List D} {Z:Mh},I ds ys Z->WP (Dp bf tc ma j5 ds ys) Z QL
 |[],ys,Z,h=>BZ (fin ys Z h)
 |x::xs,ys,Z,h=>AX (Ai (step x xs ys Z h) λv6 w9 z=>AX (Ai z λc x6 z=>by
   cases c
   ·exact HJ I step fin (z.2 rfl)
   ·exact AX (Ai (z.1 rfl) λy v7 z=>HJ I step fin z)))
theorem Cb(q:QB true Z):WP (Ba B) Z QB:=⟨true,Z,rfl,q⟩
theorem Ee(q:QD (.int (i+j)) Z):WP (Av (.int i) (.int j)) Z QD:=⟨_,Z,rfl,q⟩
theorem Uu(q:QD (.int (i-j)) Z):WP (FT (.int i) (.int j)) Z QD:=⟨_,Z,rfl,q⟩
theorem aV(h:(-(2 ^ 64)<i/\i<2 ^ 64)∨(-(2 ^ 64)<j/\j<2 ^ 64))(q:QD (.int (i * j)) Z):WP (Fi (.int i) (.int j)) Z QD:=An (aC h) q
theorem MT(q:QD (.bl (decide (i<j))) Z):WP (GR (.int i) (.int j)) Z QD:=⟨_,Z,rfl,q⟩
theorem Km(q:QD (.bl (decide (j<i))) Z):WP (Hz (.int i) (.int j)) Z QD:=⟨_,Z,rfl,q⟩
theorem Zv(q:QD (.bl (decide (j<=i))) Z):WP (V8 (.int i) (.int j)) Z QD:=⟨_,Z,rfl,q⟩
theorem Eu(q:QD (.bl (i==j)) Z):WP (A8 (.int i) (.int j)) Z QD:=⟨_,Z,rfl,q⟩
theorem QF(q:QD (.bl (!(i==j))) Z):WP (B4 (.int i) (.int j)) Z QD:=⟨_,Z,rfl,q⟩
theorem U3(q:QD (.bl (isN d)) Z):WP (Fj false d .non) Z QD:=by cases d<;>exact⟨_,Z,rfl,q⟩
theorem IZ(h:ds.length<=sizeLine)(q:QD (.tup ds) Z):WP (DL ds) Z QD:=by
 refine An (a:=.tup ds) (Z':=Z) ?_ q;unfold DL;rw[AV (Le h _)];rfl
theorem A0(h:ds.length<=sizeLine)(q:QD (.lst ds) Z):WP (A4 ds) Z QD:=by
 refine An (a:=.lst ds) (Z':=Z) ?_ q;unfold A4;rw[AV (Le h _)];rfl
theorem Fv(h:ds.length<=sizeLine)(q:QD (.ref Z.length) (Z++[.lst ds])):WP (EQ ds) Z QD:=by
 refine An (a:=.ref Z.length) (Z':=Z++[.lst ds]) ?_ q;unfold EQ;rw[AV (Le h _)]
theorem Fw(h2:atI ds i=some d)(q:QD d Z):WP (Aa (.tup ds) (.int i)) Z QD:=An (aD h2) q
theorem Cm(h2:atI ds i=some d)(q:QD d Z):WP (Aa (.lst ds) (.int i)) Z QD:=An (Ww h2) q
theorem EX(h:WP (ma B) Z λd w9=>WP (Ec d) w9 QL):WP (C7 ma B) Z QL:=AX h
theorem HG(q:QL ds Z):WP (Ec (.tup ds)) Z QL:=⟨_,Z,rfl,q⟩
theorem Fu(q:QL ds Z):WP (Ec (.lst ds)) Z QL:=⟨_,Z,rfl,q⟩
theorem NW(h:WP (ra B) Z λds w9=>∃j:Nat,ds=[.int j]/\j<1000000/\QL ((List.range j).map λ(i:Nat)=>.int (i:Int)) w9):WP (La ra B) Z QL:=AX (Ai h λds w9 ⟨j,e,hj,q⟩=>by
 subst e;refine An (a:=O3 0 j) (Z':=w9) ?_ ?_
 ·have hj2:-(2 ^ 62)<=(j:Int)/\(j:Int)<2 ^ 62:=⟨by omega,by omega⟩;unfold Vo;simp only[];rw[if_pos hj2]
 ·have e:O3 0 (j:Int)=(List.range j).map λ(i:Nat)=>.int (i:Int):=by
   unfold O3;rw[show ((j:Int)-0).toNat=j by omega];congr 1
   funext i
   rw[Int.zero_add]
  rw[e];exact q)
theorem Rf(q:QD (.tup ds) Z):WP (Fa [.lst ds]) Z QD:=⟨_,Z,rfl,q⟩
theorem Re(h:Z[n]?=some (.lst ds))(q:QD (.tup ds) Z):WP (Fa [.ref n]) Z QD:=by
 refine An (a:=.tup ds) (Z':=Z) ?_ q;show bnd (Co (.ref n)) (λds=>ret (D.tup ds)) Z=_;rw[AV (show Co (.ref n) Z=some (ds,Z) from by show (match Z[n]? with|some (.lst ds)=>some (ds,Z)|_=>none)=_;rw[h])];rfl
theorem Ri(q:QD (.int ds.length) Z):WP (Bk [.tup ds]) Z QD:=⟨_,Z,rfl,q⟩
theorem HI{gs:Mh}{i:Nat}(ht:B[i]?=some (some (.ref gs.length)))(hs:ds.length<sizeLine)(h:WP (ra B) (gs++[.lst ds]) λes w9=>∃gs' y,es=[y]/\w9=gs'++[.lst ds]/\gs'.length=gs.length/\QD .non (gs'++[.lst (ds++[y])])):WP (A3 C9 (AD i) ra B) (gs++[.lst ds]) QD:=by
 unfold A3;refine AX (An (GA ht) ?_);have hg:FD (.ref gs.length) (gs++[.lst ds])=some ((),gs++[.lst ds]):=by
  unfold FD;rw[AV (show Co (.ref gs.length) (gs++[.lst ds])=some (ds,gs++[.lst ds]) from by show (match (gs++[MO.lst ds])[gs.length]? with|some (.lst ds')=>some (ds',gs++[MO.lst ds])|_=>none)=some (ds,gs++[MO.lst ds]);rw[AAR (AAE _)];simp)];rfl
 refine AX (An hg (AX (Ai h ?_)));rintro es w9 ⟨gs',y,rfl,rfl,hl,q⟩;refine An (a:=.non) (Z':=gs'++[.lst (ds++[y])]) ?_ q;show Ew gs.length (λds=>if ds.length<sizeLine then some (.non,ds++[y]) else none) (gs'++[.lst ds])=_;unfold Ew;rw[←hl,AAR (AAE _)];simp[hs]
theorem Fy{N ps:Nat}{mb:Sl->M (Fl×Sl)}(hl:ds.length=ps)(h:WP (mb (BI N ds)) Z λr x6=>∃d x8 gs,r=(.rt d,x8)/\x6=Z++gs/\Cl Z.length d/\QD d Z):WP (BJ .drop N ps mb ds) Z QD:=by
 obtain⟨r,x6,e,d,x8,gs,rfl,rfl,c,q⟩:=h;exact An (BP e hl c) q
end
mutual
def Pz:D->Prop
 | .non=>True
 | .int _=>True
 | .str x=>PyData.strOk x=true
 | .tup ds=>PzL ds
 | .lst ds=>PzL ds
 |_=>False
def PzL:List D->Prop
 |[]=>True
 |d::ds=>Pz d/\PzL ds
end
mutual
def dpt:D->Nat
 | .tup ds=>D7 ds+1
 | .lst ds=>D7 ds+1
 |_=>0
def D7:List D->Nat
 |[]=>0
 |d::ds=>max (dpt d) (D7 ds)
end
mutual
def toZ:D->PyData
 | .int i=>.int i
 | .str x=>.str x
 | .tup ds=>.tuple (FK ds)
 | .lst ds=>.list (FK ds)
 |_=>.none
def FK:List D->List PyData
 |[]=>[]
 |d::ds=>toZ d::FK ds
end
mutual
theorem QZ(Z:Mh):∀{d:D},Pz d->toP Z d=some (toZ d)
 | .non,_=>rfl
 | .int _,_=>rfl
 | .str _,_=>rfl
 | .tup ds,h=>by unfold Pz at h;unfold toP toZ;rw[Nb Z h];rfl
 | .lst ds,h=>by unfold Pz at h;unfold toP toZ;rw[Nb Z h];rfl
 | .bl _,h | .ty _,h | .scr _,h | .ref _,h=>by unfold Pz at h;exact h.elim
theorem Nb(Z:Mh):∀{ds:List D},PzL ds->Hu Z ds=some (FK ds)
 |[],_=>by unfold Hu FK;rfl
 |d::ds,h=>by
  unfold PzL at h;unfold Hu FK;rw[QZ Z h.1,Nb Z h.2];rfl
end
mutual
theorem Na:∀{d:D},Pz d->PyData.canLay0 (toZ d)=true/\PyData.depth (toZ d)=dpt d
 | .non,_=>⟨rfl,rfl⟩
 | .int _,_=>⟨rfl,rfl⟩
 | .str _,h=>by unfold Pz at h;exact⟨h,rfl⟩
 | .tup ds,h=>by
  unfold Pz at h;obtain⟨h1,h2⟩:=Kt h;unfold toZ dpt;exact⟨h1,by show PyData.depthAll (FK ds)+1=_;rw[h2]⟩
 | .lst ds,h=>by
  unfold Pz at h;obtain⟨h1,h2⟩:=Kt h;unfold toZ dpt;exact⟨h1,by show PyData.depthAll (FK ds)+1=_;rw[h2]⟩
 | .bl _,h | .ty _,h | .scr _,h | .ref _,h=>by unfold Pz at h;exact h.elim
theorem Kt:∀{ds:List D},PzL ds->PyData.canLayAll0 (FK ds)=true/\PyData.depthAll (FK ds)=D7 ds
 |[],_=>by unfold FK D7;exact⟨rfl,rfl⟩
 |d::ds,h=>by
  unfold PzL at h;obtain⟨h1,h2⟩:=Na h.1;obtain⟨h3,h4⟩:=Kt h.2;unfold FK D7;refine⟨?_,?_⟩
  ·show (PyData.canLay0 (toZ d)&&PyData.canLayAll0 (FK ds))=true;rw[h1,h3];rfl
  ·show max (PyData.depth (toZ d)) (PyData.depthAll (FK ds))=_;rw[h2,h4]
end
mutual
theorem eqZ:∀{a b:D},Pz a->Pz b->(PyData.eqv (toZ a) (toZ b)=true↔a=b)
 | .non,b,_,hb=>by
  cases b<;>first|exact⟨λ_=>rfl,λ_=>rfl⟩|(unfold Pz at hb;exact hb.elim)|(unfold toZ;exact⟨λz=>(by cases z),λz=>(by cases z)⟩)
 | .int i,b,_,hb=>by
  cases b with
  |int j=>exact⟨λz=>by have:(i==j)=true:=z;rw[beq_iff_eq.mp this],λz=>by cases z;show (i==i)=true;simp⟩
  |_=>first|(unfold Pz at hb;exact hb.elim)|(unfold toZ;exact⟨λz=>(by cases z),λz=>(by cases z)⟩)
 | .str i,b,_,hb=>by
  cases b with
  |str j=>exact⟨λz=>by have:(i==j)=true:=z;rw[beq_iff_eq.mp this],λz=>by cases z;show (i==i)=true;simp⟩
  |_=>first|(unfold Pz at hb;exact hb.elim)|(unfold toZ;exact⟨λz=>(by cases z),λz=>(by cases z)⟩)
 | .tup xs,b,ha,hb=>by
  cases b with
  |tup ys=>
   unfold Pz at ha hb;unfold toZ;have:=dN ha hb;exact⟨λz=>by rw[this.mp z],λz=>by cases z;exact this.mpr rfl⟩
  |_=>first|(unfold Pz at hb;exact hb.elim)|(unfold toZ;exact⟨λz=>(by cases z),λz=>(by cases z)⟩)
 | .lst xs,b,ha,hb=>by
  cases b with
  |lst ys=>
   unfold Pz at ha hb;unfold toZ;have:=dN ha hb;exact⟨λz=>by rw[this.mp z],λz=>by cases z;exact this.mpr rfl⟩
  |_=>first|(unfold Pz at hb;exact hb.elim)|(unfold toZ;exact⟨λz=>(by cases z),λz=>(by cases z)⟩)
 | .bl _,_,h,_ | .ty _,_,h,_ | .scr _,_,h,_ | .ref _,_,h,_=>by unfold Pz at h;exact h.elim
theorem dN:∀{as bs:List D},PzL as->PzL bs->(PyData.eqvAll (FK as) (FK bs)=true↔as=bs)
 |[],[],_,_=>by unfold FK;exact⟨λ_=>rfl,λ_=>rfl⟩
 |[],_::_,_,_=>by unfold FK;exact⟨λz=>(by cases z),λz=>(by cases z)⟩
 |_::_,[],_,_=>by unfold FK;exact⟨λz=>(by cases z),λz=>(by cases z)⟩
 |a::as,b::bs,ha,hb=>by
  unfold PzL at ha hb;unfold FK;have h1:=eqZ ha.1 hb.1;have h2:=dN ha.2 hb.2;show (PyData.eqv (toZ a) (toZ b)&&PyData.eqvAll (FK as) (FK bs))=true↔_;rw[Bool.and_eq_true,h1,h2];exact⟨λ⟨x,y⟩=>by rw[x,y],λz=>by cases z;exact⟨rfl,rfl⟩⟩
end
section
variable{Z:Mh}{a b:D}{QD:D->Mh->Prop}
theorem XG(ha:Pz a)(hb:Pz b)(da:dpt a<=64)(db:dpt b<=64):∃e:Bool,(e=true↔a=b)/\Gh neg a b Z=some (.bl (if neg then !e else e),Z):=by
 refine⟨PyData.eqv (toZ a) (toZ b),eqZ ha hb,?_⟩;obtain⟨a1,a2⟩:=Na ha;obtain⟨b1,b2⟩:=Na hb;have s1:SeqAt.shaped (toZ a)=true:=by
  show (PyData.canLay0 (toZ a)&&decide (PyData.depth (toZ a)<=64))=true;rw[a1,AAO (by omega)];rfl
 have s2:SeqAt.shaped (toZ b)=true:=by
  show (PyData.canLay0 (toZ b)&&decide (PyData.depth (toZ b)<=64))=true;rw[b1,AAO (by omega)];rfl
 have e1:MC Z a=some (toZ a):=by
  cases a with
  |ref n=>unfold Pz at ha;exact ha.elim
  |_=>exact QZ Z ha
 have e2:MC Z b=some (toZ b):=by
  cases b with
  |ref n=>unfold Pz at hb;exact hb.elim
  |_=>exact QZ Z hb
 unfold Gh;rw[e1,e2];exact if_pos ⟨s1,s2⟩
theorem U8(ha:Pz a)(hb:Pz b)(da:dpt a<=64)(db:dpt b<=64)(q:∀e:Bool,(e=true↔a=b)->QD (.bl e) Z):WP (A8 a b) Z QD:=by
 obtain⟨e,h1,h2⟩:=XG (Z:=Z) (neg:=false) ha hb da db;exact An h2 (q e h1)
theorem Kl(ha:Pz a)(hb:Pz b)(da:dpt a<=64)(db:dpt b<=64)(q:∀e:Bool,(e=true↔a=b)->QD (.bl (!e)) Z):WP (B4 a b) Z QD:=by
 obtain⟨e,h1,h2⟩:=XG (Z:=Z) (neg:=true) ha hb da db;exact An h2 (q e h1)
end
end Mi
namespace Mi
section
variable{b:Bool}{i:Int}
theorem Bl{P:Bool->Prop}(h:P b):∃b',D.bl b=D.bl b'/\P b':=⟨b,rfl,h⟩
theorem X8{P:Int->Prop}(h:P i):∃i',D.int i=D.int i'/\P i':=⟨i,rfl,h⟩
end
end Mi
local macro_rules | `(tactic| wtm_at "l")=>`(tactic| first|assumption|decide|omega|exact Nat.le_of_ble_eq_true rfl)
local macro_rules | `(tactic| wtm_at "r")=>`(tactic| first
 |(with_reducible apply Mi.Af)|(with_reducible apply Mi.AS)|(with_reducible apply Mi.A6)|(with_reducible apply Mi.Cc)|(with_reducible apply Mi.Fz)|(with_reducible apply Mi.BY)|(with_reducible apply Mi.CO)|(with_reducible apply Mi.BQ)|(with_reducible apply Mi.CF)|(with_reducible apply Mi.A9)|(with_reducible apply Mi.Ae)|(with_reducible apply Mi.Az)|((with_reducible apply Mi.AK);rfl)|(with_reducible apply Mi.AL)|(with_reducible apply Mi.AN)|(with_reducible apply Mi.AU)|(with_reducible apply Mi.Ds)
 |(with_reducible apply Mi.Am)|(with_reducible apply Mi.Bl)|(with_reducible apply Mi.Ux)|(with_reducible apply Mi.VA)|(with_reducible apply Mi.MQ)|(with_reducible apply Mi.Fx)|(with_reducible apply Mi.Cd)|(with_reducible apply Mi.EX)|(with_reducible apply Mi.HG)|(with_reducible apply Mi.Fu)|(with_reducible apply Mi.NW)|(with_reducible apply Mi.QE)|(with_reducible apply Mi.MR)|(with_reducible apply Mi.KF)|(with_reducible apply Mi.X8)
 |(with_reducible apply Mi.Ee)|(with_reducible apply Mi.wq_add)|(with_reducible apply Mi.Uu)|(with_reducible apply Mi.MT)|(with_reducible apply Mi.Km)|(with_reducible apply Mi.Zv)|(with_reducible apply Mi.Eu)|(with_reducible apply Mi.QF)|(with_reducible apply Mi.U3)|(with_reducible apply Mi.wq_isT)|(with_reducible apply Mi.wq_intB)|(with_reducible apply Mi.wq_neB)|(with_reducible apply Mi.wq_tupT)|(with_reducible apply Mi.Rf)|(with_reducible apply Mi.Ri)|(with_reducible apply Mi.Cb)|(with_reducible apply Mi.A5)
 |((with_reducible apply Mi.wq_mod);(wtm_at "l"))|((with_reducible apply Mi.wq_fdiv);(wtm_at "l");(wtm_at "l"))|((with_reducible apply Mi.IZ);(wtm_at "l"))|((with_reducible apply Mi.A0);(wtm_at "l"))|((with_reducible apply Mi.Fv);(wtm_at "l"))|((with_reducible apply Mi.Fw);rfl)|((with_reducible apply Mi.Cm);rfl))
local macro_rules | `(tactic| wtm_at "AA")=>`(tactic| repeat wtm_at "r")
namespace Mi
open PySem L2
section
variable{v6:Sl}{Z w9:Mh}{x y:D}{ma:Sl->M D}{tc:Sl->M Bool}{QD:D->Mh->Prop}{QL:List D->Mh->Prop}
theorem Ch{α:Type}(f:α->D)(p:α->Bool)(F:α->D){bf:D->Sl->M Sl}{xs:List α}(h:∀a∈xs,WP (bf (f a) j5) Z λv6 w9=>w9=Z/\WP (tc v6) Z λc x6=>c=p a/\x6=Z/\(p a=true->WP (ma v6) Z λy v7=>y=F a/\v7=Z))(q:QL ((xs.filter p).map F) Z):WP (Dp bf tc ma j5 (xs.map f) []) Z QL:=by
 refine HJ (I:=λrest ys Z'=>∃a b,a++b=xs/\rest=b.map f/\ys=(a.filter p).map F/\Z'=Z) (λz zs ys Z' hI=>?_) (λys Z' hI=>?_) ⟨[],xs,rfl,rfl,rfl,rfl⟩
 ·obtain⟨a,b,hab,hr,rfl,rfl⟩:=hI;cases b with
  |nil=>cases hr
  |cons w b=>
   rw[AAW] at hr;obtain⟨e1,e2⟩:=List.cons.inj hr;subst e1;have hw:w∈xs:=by rw[←hab];simp
   refine Ai (h w hw) λv6 w9 ⟨e,z⟩=>?_;subst e;refine Ai z λc x6 ⟨e3,e4,z2⟩=>?_;subst e3 e4;refine⟨λhc=>Ai (z2 hc) λy v7 ⟨e5,e6⟩=>?_,λhc=>?_⟩
   ·subst e5 e6;exact⟨a++[w],b,by rw[←hab];simp,e2,by rw[List.filter_append,AAX,List.filter_cons_of_pos hc];rfl,rfl⟩
   ·exact⟨a++[w],b,by rw[←hab];simp,e2,by rw[List.filter_append,AAX,List.filter_cons_of_neg (by rw[hc];exact AAf)];simp,rfl⟩
 ·obtain⟨a,b,hab,hr,rfl,rfl⟩:=hI;cases b with
  |cons w b=>cases hr
  |nil=>
   rw[AAY] at hab;subst hab;exact q
theorem OO:∀xs:List α,IQ (xs.map λa=>D.bl (f a))=some (xs.map f)
 |[]=>rfl
 |x::xs=>by rw[AAW];unfold IQ;rw[OO xs];rfl
theorem aX{α:Type}{f:α->Bool}{xs:List α}(q:QD (.bl (xs.all f)) Z):WP (RB [.lst (xs.map λa=>D.bl (f a))]) Z QD:=by
 refine An (a:=.bl (xs.all f)) (Z':=Z) ?_ q;show (IQ (xs.map λa=>D.bl (f a))).map _=_;rw[OO];show some (D.bl ((xs.map f).all id),Z)=_;rw[List.all_map];rfl
theorem Kn{x y:Str}(h1:PyData.strOk x=true)(h2:PyData.strOk y=true)(q:QD (.bl (x==y)) Z):WP (A8 (.str x) (.str y)) Z QD:=by
 refine U8 (by unfold Pz;exact h1) (by unfold Pz;exact h2) (by show 0<=64;omega) (by show 0<=64;omega) λe he=>?_;have:e=(x==y):=by
  rw[Bool.eq_iff_iff,he,beq_iff_eq];exact⟨λz=>by cases z;rfl,λz=>by rw[z]⟩
 rw[this];exact q
end
theorem aY(I:Nat->Sl->Mh->Prop)(step:∀(j:Nat) B Z,j<m->I j B Z->WP (bf (.int (j:Int)) B) Z λv6 w9=>WP (m1 v6) w9 (Mu (I (j+1)) QS))(last:∀B Z,I m B Z->QS (.next,B) Z)(h:I 0 B Z):WP (BR bf m1 ((List.range m).map λ(i:Nat)=>D.int (i:Int)) B) Z QS:=by
 refine Ev (I:=λrest B Z=>∃j,j<=m/\rest=(List.range' j (m-j)).map (λ(i:Nat)=>D.int (i:Int))/\I j B Z) ?_ ?_ ⟨0,AAi _,by rw[Nat.sub_zero,←List.range_eq_range'],h⟩
 ·rintro x xs B Z ⟨j,hj,hr,hI⟩;have hlt:j<m:=by
   rcases Nat.lt_or_ge j m with z|z
   ·exact z
   ·rw[show m-j=0 by omega] at hr;cases hr
  rw[show m-j=(m-(j+1))+1 by omega,List.range'_succ,AAW] at hr;obtain⟨e3,e4⟩:=List.cons.inj hr;subst e3;refine Ai (step j B Z hlt hI) λv6 w9 z=>Ai z λr x6 z2=>?_;obtain⟨fl,x8⟩:=r;cases fl
  ·exact⟨j+1,hlt,e4,z2⟩
  ·exact z2
  ·exact⟨j+1,hlt,e4,z2⟩
  ·exact z2
  ·exact z2
 ·rintro B Z ⟨j,hj,hr,hI⟩;have hj':j=m:=by
   have:=congrArg List.length hr;simp at this;omega
  subst hj';exact last B Z hI
theorem Aw(hl:Nat.beq ds.length ps=true)(h:WP (mb (BI N ds)) Z λr x6=>∃d x8,r=(.rt d,x8)/\QD d x6):WP (Cj .all N ps mb ds) Z QD:=by
 obtain⟨r,x6,e,d,x8,rfl,q⟩:=h;refine An (a:=d) (Z':=x6) ?_ q;unfold Cj;rw[hl,e];rfl
end Mi
namespace K21
open PySem L2 Mi
inductive Ex where
 |num (n:Int)
 |var (x:Str)
 |neg (e:Ex)
 |bin (w:Str) (a b:Ex)
def Ex.toD:Ex->D
 | .num n=>.tup [.str "num",.int n]
 | .var x=>.tup [.str "var",.str x]
 | .neg e=>.tup [.str "not",e.toD]
 | .bin w a b=>.tup [.str w,a.toD,b.toD]
abbrev words:List Str:=["+", "-", "=", "<", "and", "or", "="]
theorem XF(h:Z[n]?=some (.lst ds)):Gh neg (.ref n) b Z=Gh neg (.lst ds) b Z:=by
 have:MC Z (.ref n)=MC Z (.lst ds):=by
  unfold MC;dsimp only;rw[h];unfold toP;rfl
 unfold Gh;rw[this]
theorem Oj(hp:PzL ds)(hd:D7 ds<=60)(q:QD (.bl (!ds.isEmpty)) Z):WP (B4 (.lst ds) (.lst [])) Z QD:=by
 refine Kl (by unfold Pz;exact hp) (by unfold Pz PzL;trivial) (by unfold dpt;omega) (by unfold dpt D7;omega) λe he=>?_;have:e=ds.isEmpty:=by
  rw[Bool.eq_iff_iff,he,List.isEmpty_iff];exact⟨λz=>by cases z;rfl,λz=>by rw[z]⟩
 rw[this];exact q
theorem MS(h:Z[n]?=some (.lst ds))(hp:PzL ds)(hd:D7 ds<=60)(q:QD (.bl (!ds.isEmpty)) Z):WP (B4 (.ref n) (.lst [])) Z QD:=by
 obtain⟨a,Z',e,z⟩:=Oj (Z:=Z) (QD:=QD) hp hd q;exact⟨a,Z',(XF h).trans e,z⟩
theorem Rg(ht:B[i]?=some (some (.ref n)))(h:Z[n]?=some (.lst ds))(q:QL ds Z):WP (LZ (AD i) B) Z QL:=by
 refine AX (An (GA ht) ?_);refine An (a:=ds) (Z':=Z) ?_ q;unfold NQ;dsimp only;rw[h]
end K21
namespace Mi
open PySem L2
theorem VB(I:Nat->List D->Mh->Prop)(step:∀(j:Nat) ys Z,j<N->I j ys Z->WP (bf (.int (j:Int)) j5) Z λv6 w9=>WP (tc v6) w9 λc x6=>(c=true->WP (ma v6) x6 λy v7=>I (j+1) (ys++[y]) v7)/\(c=false->I (j+1) ys x6))(last:∀ys Z,I N ys Z->QL ys Z)(h:I 0 [] Z):WP (Dp bf tc ma j5 ((List.range N).map λ(i:Nat)=>D.int (i:Int)) []) Z QL:=by
 refine HJ (I:=λrest ys Z=>∃j,j<=N/\rest=(List.range' j (N-j)).map (λ(i:Nat)=>D.int (i:Int))/\I j ys Z) ?_ ?_ ⟨0,AAi _,by rw[Nat.sub_zero,←List.range_eq_range'],h⟩
 ·rintro x xs ys Z ⟨j,hj,hr,hI⟩;have hlt:j<N:=by
   rcases Nat.lt_or_ge j N with z|z
   ·exact z
   ·rw[show N-j=0 by omega] at hr;cases hr
  rw[show N-j=(N-(j+1))+1 by omega,List.range'_succ,AAW] at hr;obtain⟨e1,e2⟩:=List.cons.inj hr;subst e1;refine Ai (step j ys Z hlt hI) λv6 w9 z=>Ai z λc x6 ⟨z1,z2⟩=>⟨λhc=>Ai (z1 hc) λy v7 z=>⟨j+1,hlt,e2,z⟩,λhc=>⟨j+1,hlt,e2,z2 hc⟩⟩
 ·rintro ys Z ⟨j,hj,hr,hI⟩;have:j=N:=by
   rcases Nat.lt_or_ge j N with z|z
   ·rw[show N-j=(N-(j+1))+1 by omega,List.range'_succ] at hr;cases hr
   ·omega
  subst this;exact last ys Z hI
end Mi
namespace K21
open PySem L2 Mi
end K21
namespace K41
open PySem L2 Mi
end K41
namespace K41
open PySem L2 Mi Ht Nk Hs
end K41
namespace Mi
open PySem L2
end Mi
namespace K41
open PySem L2 Mi Ht Nk Hs
end K41
namespace K21
open PySem L2 Mi
end K21
namespace Mi
open PySem L2
end Mi
namespace K21
open PySem L2 Mi
end K21
namespace Mi
open PySem L2
end Mi
namespace K21
open PySem L2 Mi
end K21
namespace K21
open PySem L2 Mi Xt
end K21
namespace K21
open PySem L2 Mi
end K21
namespace Mi
open PySem L2
end Mi
namespace K21
open PySem L2 Mi
end K21
namespace Mi
open PySem L2
end Mi
namespace K21
open PySem L2 Mi
end K21
namespace Mi
open PySem L2
section
variable{B:Sl}{Z w9:Mh}{d x y:D}{ds:List D}{ma mb:Sl->M D}{ra:Sl->M (List D)}{QD:D->Mh->Prop}{QB:Bool->Mh->Prop}{i j:Int}
theorem IY{x y:Str}(h1:PyData.strOk x=true)(h2:PyData.strOk y=true)(h:(x==y)=true)(q:QD (.bl true) Z):WP (A8 (.str x) (.str y)) Z QD:=Kn h1 h2 (by rw[h];exact q)
theorem BX{x y:Str}(h1:PyData.strOk x=true)(h2:PyData.strOk y=true)(h:(x==y)=false)(q:QD (.bl false) Z):WP (A8 (.str x) (.str y)) Z QD:=Kn h1 h2 (by rw[h];exact q)
theorem Ra{x y:Str}(h1:PyData.strOk x=true)(h2:PyData.strOk y=true)(q:QD (.bl (!(x==y))) Z):WP (B4 (.str x) (.str y)) Z QD:=by
 refine Kl (by unfold Pz;exact h1) (by unfold Pz;exact h2) (by show 0<=64;omega) (by show 0<=64;omega) λe he=>?_;have:e=(x==y):=by
  rw[Bool.eq_iff_iff,he,beq_iff_eq];exact⟨λz=>by cases z;rfl,λz=>by rw[z]⟩
 rw[this];exact q
theorem RZ{x y:Str}(h1:PyData.strOk x=true)(h2:PyData.strOk y=true)(h:(x==y)=false)(q:QD (.bl true) Z):WP (B4 (.str x) (.str y)) Z QD:=Ra h1 h2 (by rw[h];exact q)
theorem FN{x y:Str}(h1:PyData.strOk x=true)(h2:PyData.strOk y=true)(h:(x==y)=true)(q:QD (.bl false) Z):WP (B4 (.str x) (.str y)) Z QD:=Ra h1 h2 (by rw[h];exact q)
theorem Uq(h:i=j)(q:QD (.bl true) Z):WP (A8 (.int i) (.int j)) Z QD:=Eu (by rw[beq_iff_eq.mpr h];exact q)
theorem Um(h:i≠j)(q:QD (.bl true) Z):WP (B4 (.int i) (.int j)) Z QD:=QF (by rw[AAd.mpr h];exact q)
theorem Oe(h:i=j)(q:QD (.bl false) Z):WP (B4 (.int i) (.int j)) Z QD:=QF (by rw[beq_iff_eq.mpr h];exact q)
theorem KC(h:i<j)(q:QD (.bl true) Z):WP (GR (.int i) (.int j)) Z QD:=MT (by rw[AAO h];exact q)
theorem Rb(h:¬i<j)(q:QD (.bl false) Z):WP (GR (.int i) (.int j)) Z QD:=MT (by rw[AAN h];exact q)
theorem Rc(h:j<i)(q:QD (.bl true) Z):WP (Hz (.int i) (.int j)) Z QD:=Km (by rw[AAO h];exact q)
theorem Xx(h:j<=i)(q:QD (.bl true) Z):WP (V8 (.int i) (.int j)) Z QD:=Zv (by rw[AAO h];exact q)
theorem Up(q:QD (.bl true) Z):WP (Fj false .non .non) Z QD:=⟨_,Z,rfl,q⟩
theorem Og(q:QD (.bl false) Z):WP (Fj true .non .non) Z QD:=⟨_,Z,rfl,q⟩
theorem Xw(q:QD (.bl b) Z):WP (Fj b (.tup ds) .non) Z QD:=by cases b<;>exact⟨_,Z,rfl,q⟩
theorem Us(h:WP m Z QB):dX m QB true Z:=h
theorem Ut(h:QB false Z):dX m QB false Z:=h
theorem NU(h:QB true Z):orK m QB true Z:=h
theorem IX(h:WP m Z QB):orK m QB false Z:=h
noncomputable def cN(m1 m2:M D)(QD:D->Mh->Prop):Bool->Mh->Prop
 |true,Z=>WP m1 Z QD
 |false,Z=>WP m2 Z QD
theorem NV(h:WP (mc B) Z (cN (ma B) (mb B) QD)):WP (mIf mc ma mb B) Z QD:=aW (Ai h λb _ z=>by cases b;exact⟨λe=>(nomatch e),λ_=>z⟩;exact⟨λ_=>z,λe=>(nomatch e)⟩)
theorem Uo(h:WP m1 Z QD):cN m1 m2 QD true Z:=h
theorem Of(h:WP m2 Z QD):cN m1 m2 QD false Z:=h
noncomputable def Xg(m:M D)(QD:D->Mh->Prop):D->Mh->Prop
 | .bl true,Z=>WP m Z QD
 | .bl false,Z=>QD (.bl false) Z
 |_,_=>False
theorem Ur(h:WP (ma B) Z (Xg (mb B) QD)):WP (ES ma mb B) Z QD:=X6 (Ai h λd w9 z=>by
 match d,z with
 | .bl true,z=>exact⟨true,rfl,λ_=>z,λe=>(nomatch e)⟩
 | .bl false,z=>exact⟨false,rfl,λe=>(nomatch e),λ_=>z⟩)
theorem MP(h:WP m Z QD):Xg m QD (.bl true) Z:=h
theorem TK(h:QD (.bl false) Z):Xg m QD (.bl false) Z:=h
noncomputable def b9(m:M D)(QD:D->Mh->Prop):D->Mh->Prop
 | .bl true,Z=>QD (.bl true) Z
 | .bl false,Z=>WP m Z QD
 |_,_=>False
theorem Xu(h:WP (ma B) Z (b9 (mb B) QD)):WP (MF ma mb B) Z QD:=by
 obtain⟨d,w9,e,z⟩:=h;unfold MF
 match d,e,z with
 | .bl true,e,z=>exact⟨.bl true,w9,by rw[AV e];rfl,z⟩
 | .bl false,e,z=>
  obtain⟨d2,x6,e2,q⟩:=z;exact⟨d2,x6,by rw[AV e];exact e2,q⟩
theorem Uk(h:QD (.bl true) Z):b9 m QD (.bl true) Z:=h
theorem Ul(h:WP m Z QD):b9 m QD (.bl false) Z:=h
theorem TJ(h:WP (ma B) Z λx w9=>WP (mb B) w9 λy x6=>WP (g x y) x6 λz v7=>z=.bl true/\WP (mc B) v7 λv v9=>WP (g' y v) v9 QD):WP (FC g g' ma mb mc B) Z QD:=by
 unfold FC;refine AX (Ai h λx w9 h=>AX (Ai h λy x6 h=>AX (Ai h λz v7 ⟨e,h⟩=>?_)));subst e;refine AX (BZ ?_);rw[if_pos rfl];exact AX h
theorem Xv(h:i<=j)(q:QD (.bl true) Z):WP (LL (.int i) (.int j)) Z QD:=⟨.bl (decide (i<=j)),Z,rfl,by rw[AAO h];exact q⟩
theorem KD(h:Z[n]?=some (.ins c l))(hl:l.lookup f=some d)(q:QD d Z):WP (FE c f (.ref n)) Z QD:=by
 refine An (a:=d) (Z':=Z) ?_ q;unfold FE Lz;show bnd (λZ=>match Z[n]? with|some (.ins c' l)=>if c'=c then some ((n,l),Z) else none|_=>none) _ Z=_;rw[AV (show (match Z[n]? with|some (.ins c' l)=>if c'=c then some ((n,l),Z) else none|_=>none)=some ((n,l),Z) from by rw[h];exact if_pos rfl)];show (l.lookup f).map _=_;rw[hl];rfl
theorem Ki(ht:B[k]?=some (some (.ref n)))(h:Z[n]?=some (.ins c l))(hl:l.lookup m=none)(q:WP (ra B) Z λds w9=>WP (φ (.ref n::ds)) w9 QD):WP (F7 c m φ (AD k) ra B) Z QD:=by
 unfold F7;refine AX (AK ht ?_);refine AX (An (a:=(n,l)) (Z':=Z) ?_ ?_)
 ·unfold Lz;dsimp only;rw[h];exact if_pos rfl
 ·rw[if_pos hl];exact AX q
theorem Oh(h:Z[n]?=some (.dK l))(hk:Iv y=some k)(hv:Dy l k=some d)(q:QD d Z):WP (NE (.ref n) y) Z QD:=by
 refine An (a:=d) (Z':=Z) ?_ q;unfold NE;rw[AV (show C8 (.ref n) Z=some ((n,l),Z) from by unfold C8;dsimp only;rw[h])];show ((Iv y).bind (Dy l)).map _=_;rw[hk,Option.bind_some,hv];rfl
end
end Mi
local macro_rules | `(tactic| wtm_at "h")=>`(tactic| (decide +kernel))
local macro_rules | `(tactic| wtm_at "j")=>`(tactic| first|omega|(focus (simp;done)))
local macro_rules | `(tactic| wtm_at "q")=>`(tactic| first
 |((with_reducible apply Mi.BX);(wtm_at "h");(wtm_at "h");(wtm_at "h"))|((with_reducible apply Mi.IY);(wtm_at "h");(wtm_at "h");(wtm_at "h"))|((with_reducible apply Mi.RZ);(wtm_at "h");(wtm_at "h");(wtm_at "h"))|((with_reducible apply Mi.FN);(wtm_at "h");(wtm_at "h");(wtm_at "h"))
 |((with_reducible apply Mi.Uq);(wtm_at "j"))|((with_reducible apply Mi.wqa_eqIF);(wtm_at "j"))|((with_reducible apply Mi.Um);(wtm_at "j"))|((with_reducible apply Mi.Oe);(wtm_at "j"))|((with_reducible apply Mi.KC);(wtm_at "j"))|((with_reducible apply Mi.Rb);(wtm_at "j"))|((with_reducible apply Mi.Rc);(wtm_at "j"))|((with_reducible apply Mi.wqa_gtF);(wtm_at "j"))|((with_reducible apply Mi.Xx);(wtm_at "j"))|((with_reducible apply Mi.wqa_geF);(wtm_at "j"))|((with_reducible apply Mi.Xv);(wtm_at "j"))
 |(with_reducible apply Mi.Up)|(with_reducible apply Mi.Og)|(with_reducible apply Mi.wqa_isI)|(with_reducible apply Mi.Xw)|(with_reducible apply Mi.Us)|(with_reducible apply Mi.Ut)|(with_reducible apply Mi.NU)|(with_reducible apply Mi.IX)|(with_reducible apply Mi.NV)|(with_reducible apply Mi.Uo)|(with_reducible apply Mi.Of)|(with_reducible apply Mi.Ur)|(with_reducible apply Mi.MP)|(with_reducible apply Mi.TK)|(with_reducible apply Mi.Xu)|(with_reducible apply Mi.Uk)|(with_reducible apply Mi.Ul)|(with_reducible apply Mi.TJ)
 |wtm_at "r")
local macro_rules | `(tactic| wtm_at "d")=>`(tactic| repeat wtm_at "q")
namespace Xc
open PySem L2 Mi
end Xc
local macro_rules | `(tactic| wtm_at "p")=>`(tactic| first
 |(with_reducible apply Xc.wx_exprX)|(with_reducible apply Xc.wx_dispX)|(with_reducible apply Xc.wxk_l)|(with_reducible apply Xc.wxk_r)|(with_reducible apply Xc.wxk_next)|(with_reducible apply Xc.wxk_xc)|(with_reducible apply Mi.wkk_xc)|(with_reducible apply Mi.BV)|(with_reducible apply Mi.wkk_loopX)|(with_reducible apply Mi.wkk_loopR)
 |wtm_at "q")
local macro_rules | `(tactic| wtm_at "x")=>`(tactic| repeat wtm_at "p")
namespace K3
open PySem L2 Mi K1 Xc
section
variable{Z:Mh}{d:D}
theorem pureT(e:mb (BI N ds) Z=some ((.rt d,BI N ds),Z))(hl:ds.length=ps)(c:Cl Z.length d):BJ .drop N ps mb ds Z=some (d,Z):=BP (g:=[]) (by rw[AAY];exact e) hl c
end
end K3
namespace K5
open PySem L2 Mi K1
theorem Xd:∀{x x' r r':List Nat},c∉x->c∉x'->x++c::r=x'++c::r'->x=x'/\r=r'
 |[],[],_,_,_,_,e=>⟨rfl,(List.cons.inj e).2⟩
 |[],b::x',_,_,_,h',e=>absurd (List.cons.inj e).1 (λz=>h' (by rw[z];exact AAP))
 |a::x,[],_,_,h,_,e=>absurd (List.cons.inj e).1 (λz=>h (by rw[←z];exact AAP))
 |a::x,b::x',_,_,h,h',e=>by
  obtain⟨e1,e2⟩:=List.cons.inj e;obtain⟨z1,z2⟩:=Xd (λz=>h (AAQ _ z)) (λz=>h' (AAQ _ z)) e2;exact⟨by rw[e1,z1],z2⟩
def HZ(c:Nat)(x:Str):Prop:=c∉x.cps.toList
theorem L0(x y:Str):(x++y).cps.toList=x.cps.toList++y.cps.toList:=by
 show (x.cps++y.cps).toList=_;simp
theorem Rv{x y:Str}(h:x.cps.toList=y.cps.toList):x=y:=Str.ext' (Array.toList_inj.mp h)
theorem Eo(x y:Str)(r:List Str):(Str.join ⟨#[c]⟩ (x::y::r)).cps.toList=x.cps.toList++c::(Str.join ⟨#[c]⟩ (y::r)).cps.toList:=by
 show (x++⟨#[c]⟩++Str.join ⟨#[c]⟩ (y::r)).cps.toList=_;rw[L0,L0];simp
theorem PX{c:Nat}:∀{as bs:List Str},as≠[]->bs≠[]->(∀a∈as,HZ c a)->(∀b∈bs,HZ c b)->Str.join ⟨#[c]⟩ as=Str.join ⟨#[c]⟩ bs->as=bs
 |[],_,h,_,_,_,_=>absurd rfl h
 |_,[],_,h,_,_,_=>absurd rfl h
 |[a],[b],_,_,_,_,e=>by rw[show a=b from e]
 |[a],b::b'::r,_,_,ha,_,e=>by
  have z:=congrArg (λs:Str=>s.cps.toList) e;have z:a.cps.toList=_:=z;rw[Eo] at z;exact absurd (show c∈a.cps.toList by rw[z];simp) (ha a AAP)
 |a::a'::r,[b],_,_,_,hb,e=>by
  have z:=congrArg (λs:Str=>s.cps.toList) e.symm;have z:b.cps.toList=_:=z;rw[Eo] at z;exact absurd (show c∈b.cps.toList by rw[z];simp) (hb b AAP)
 |a::a'::r,b::b'::s,_,_,ha,hb,e=>by
  have z:=congrArg (λs:Str=>s.cps.toList) e;have z:(Str.join ⟨#[c]⟩ (a::a'::r)).cps.toList=(Str.join ⟨#[c]⟩ (b::b'::s)).cps.toList:=z;rw[Eo,Eo] at z;obtain⟨z1,z2⟩:=Xd (ha a AAP) (hb b AAP) z;rw[Rv z1,PX (by simp) (by simp) (λx hx=>ha x (AAQ _ hx)) (λx hx=>hb x (AAQ _ hx)) (Rv z2)]
theorem VY(x y:Str):Txt.split x y≠[]:=by
 unfold Txt.split;split
 ·simp
 ·split
  ·simp
  ·intro h;have:=congrArg List.length h;rw[PyProof.Rows.len_partsBetween] at this;simp at this
theorem Qb(h:ws≠[])(hf:∀w∈ws,HZ c w):Txt.split (Str.join ⟨#[c]⟩ ws) ⟨#[c]⟩=ws:=
 PX (VY _ _) h (StrLaws.split_free _ c) hf (StrLaws.join_split _ _)
theorem O0:(" " : Str)=⟨#[32]⟩:=by decide +kernel
theorem Wj:("\n" : Str)=⟨#[10]⟩:=by decide +kernel
theorem ZL(s:Str)(ws:List Str):Txt.join s ws=Str.join s ws:=StrLaws.glued_eq_join s ws
theorem Se(x y:Str):(x++y).length=x.length+y.length:=by
 have:=congrArg List.length (L0 x y);rw[AAG] at this;simpa[Str.length] using this
theorem Lf:∀{ws:List Str},(∀w∈ws,w.length<=B_)->(Str.join ⟨#[c]⟩ ws).length<=ws.length * (B_+1)
 |[],_=>AAi _
 |[x],h=>by
  have:=h x AAP;show x.length<=1 * (B_+1);omega
 |x::y::r,h=>by
  have:=h x AAP;have ih:=Lf (c:=c) (ws:=y::r) λw hw=>h w (AAQ _ hw);show (x++⟨#[c]⟩++Str.join ⟨#[c]⟩ (y::r)).length<=_;rw[Se,Se,AAH,Nat.add_mul];show x.length+1+_<=_;omega
theorem Ov:∀{ws:List Str},(∀w∈ws,w.length<=B_)->(ws.map (·.length)).sum<=ws.length * B_
 |[],_=>AAi _
 |x::r,h=>by
  have:=h x AAP;have ih:=Ov (ws:=r) λw hw=>h w (AAQ _ hw);rw[AAW,List.sum_cons,AAH,Nat.add_mul];omega
theorem cw(h:∀w∈ws,w.length<=B_)(hz:ws.length * (B_+1)<=sizeLine):JoinOk ⟨#[c]⟩ ws=true:=by
 unfold JoinOk;rw[StrLaws.joinTotal];have:=Ov h;have e:ws.length * (B_+1)=ws.length * B_+ws.length:=by rw[Nat.mul_add,Nat.mul_one]
 unfold Builtin.Str.tooLong;rw[Bool.not_eq_true',decide_eq_false_iff_not];show ¬(ws.map (·.length)).sum+ws.length * 1 > sizeLine;omega
theorem M4(hcd:c≠d):∀{ws:List Str},(∀w∈ws,HZ c w)->HZ c (Str.join ⟨#[d]⟩ ws)
 |[],_=>by unfold HZ;show c∉[];simp
 |[x],h=>h x AAP
 |x::y::r,h=>by
  have ih:=M4 hcd (ws:=y::r) λw hw=>h w (AAQ _ hw);unfold HZ at ih ⊢;rw[Eo];intro z;rcases AAJ.mp z with z|z
  ·exact h x AAP z
  ·rcases AAI.mp z with z|z
   ·exact hcd z
   ·exact ih z
section
variable{Z:Mh}{QD:D->Mh->Prop}{ws:List Str}{B_:Nat}
theorem Oy:∀xs:List Str,GH (xs.map D.str)=some xs
 |[]=>rfl
 |x::r=>by
  rw[AAW];unfold GH;rw[Oy r];rfl
theorem Rj(hd:B0 d Z=some (ws.map D.str,Z))(hB:∀w∈ws,w.length<=B_)(hz:ws.length * (B_+1)<=sizeLine)(q:QD (.str (Str.join ⟨#[c]⟩ ws)) Z):WP (F8 (.str ⟨#[c]⟩) [d]) Z QD:=by
 refine⟨_,Z,?_,q⟩;show bnd (B0 d) _ Z=_;rw[AV hd];show (match GH (ws.map D.str) with|some ts=>if JoinOk ⟨#[c]⟩ ts=true then some (D.str (Txt.join ⟨#[c]⟩ ts),Z) else none|none=>none)=_;rw[Oy];show (if JoinOk ⟨#[c]⟩ ws=true then some (D.str (Txt.join ⟨#[c]⟩ ws),Z) else none)=_;rw[if_pos (cw hB hz),ZL]
theorem Oi(hn:ws≠[])(hf:∀w∈ws,HZ c w)(hB:∀w∈ws,w.length<=B_)(hz:ws.length * (B_+1)+2<=sizeLine)(q:QD (.lst (ws.map D.str)) Z):WP (Hw (.str (Str.join ⟨#[c]⟩ ws)) [.str ⟨#[c]⟩]) Z QD:=by
 refine⟨_,Z,?_,q⟩;have hl:=Lf (c:=c) hB;show (if (⟨#[c]⟩:Str).length≠0/\(Str.join ⟨#[c]⟩ ws).length+2<=sizeLine/\(Txt.split (Str.join ⟨#[c]⟩ ws) ⟨#[c]⟩).length<=sizeLine then some (D.lst ((Txt.split (Str.join ⟨#[c]⟩ ws) ⟨#[c]⟩).map D.str),Z) else none)=_;rw[Qb hn hf,if_pos ⟨by show 1≠0;decide,by omega,by have:=Nat.le_mul_of_pos_right ws.length (show 0<B_+1 from Nat.succ_pos B_);omega⟩]
end
abbrev toS(i:Int):Str:=Str.ofString (toString i)
theorem cK:∀m:Nat,m<1000->(1<=((Nat.toDigits 10 m).map Char.toNat).length/\((Nat.toDigits 10 m).map Char.toNat).length<=3)/\(∀c∈(Nat.toDigits 10 m).map Char.toNat,48<=c/\c<58)/\(((Nat.toDigits 10 m).map Char.toNat).head?=some 48->m=0):=by decide +kernel
structure Fig(i:Int)(x:Str):Prop where
 lo:1<=x.length
 hi:x.length<=3
 sg:∀c∈x.cps.toList,48<=c/\c<58
 nz:x.cps.toList.head?=some 48->i=0
 val:PySem.intText? x=some i
 eq:x=toS i
theorem EA(h0:0<=i)(h1:i<1000):Fig i (toS i):=by
 obtain⟨m,rfl⟩:=Int.eq_ofNat_of_zero_le h0;have e:=PySem.W.KIN.signs_num m;obtain⟨⟨a,b⟩,c,d⟩:=cK m (by omega);rw[←e] at a b c d;have hl:(toS (m:Int)).cps.toList.length=(toS (m:Int)).length:=by simp[Str.length]
 exact⟨by rw[←hl];exact a,by rw[←hl];exact b,c,λz=>by rw[d z];rfl,PySem.W.KIN.num_reads (by omega) (by omega),rfl⟩
theorem Fig.ok(h:Fig i x):PyData.strOk x=true:=by
 unfold PyData.strOk;rw[Array.all_eq_true_iff_forall_mem];intro c hc;have:=h.sg c (by simpa using hc);simp;omega
theorem Fig.free(h:Fig i x)(hc:c<48):HZ c x:=λz=>by have:=h.sg c z;omega
theorem Mq(h:GoodName x)(hc:c<97):HZ c x:=λz=>by have:=h.ab c z;omega
theorem Xl:toS 0=("0" : Str):=by decide +kernel
section
variable{B:Sl}{Z:Mh}{d x:D}{ds:List D}{ma mb:Sl->M D}{ra:Sl->M (List D)}{tc:Sl->M Bool}{QD:D->Mh->Prop}{QB:Bool->Mh->Prop}{QL:List D->Mh->Prop}{QS:Fl×Sl->Mh->Prop}
noncomputable def cL(QB:Bool->Mh->Prop):Bool->Mh->Prop
 |true=>QB false
 |false=>QB true
theorem wz_chT(h:P):D.bl true=D.bl true/\P:=⟨rfl,h⟩
theorem wz_not(h:WP (tc B) Z (cL QB)):WP (HY tc B) Z QB:=Ux (Ai h λb _ z=>by cases b;exact z;exact z)
theorem wz_notT(q:QB false Z):cL QB true Z:=q
theorem wz_notF(q:QB true Z):cL QB false Z:=q
theorem wz_lenS{x:Str}(h:x.length<=1000000)(q:QD (.int x.length) Z):WP (Bk [.str x]) Z QD:=by
 refine An (a:=.int x.length) (Z':=Z) ?_ q;show (if x.length<=sizeLine then some (D.int x.length,Z) else none)=_;rw[if_pos (by rw[sizeLine_eq];omega)]
theorem D9(h:Z[n]?=some (.lst ds))(q:QD (.int ds.length) Z):WP (Bk [.ref n]) Z QD:=by
 refine An (a:=.int ds.length) (Z':=Z) ?_ q;show (match Z[n]? with|some (.lst ds)=>some (D.int ds.length,Z)|_=>none)=_;rw[h]
theorem wz_lenL(q:QD (.int ds.length) Z):WP (Bk [.lst ds]) Z QD:=⟨_,Z,rfl,q⟩
theorem wz_isL(q:QD (.bl b) Z):WP (Fj b (.lst ds) .non) Z QD:=by cases b<;>exact⟨_,Z,rfl,q⟩
theorem EN(h:WP (ma B) Z λz w9=>z=.str y/\WP (ra B) w9 λds x6=>WP (g (.str y) ds) x6 QD):WP (Gs g ma ra B) Z QD:=AX (Ai h λz w9 ⟨e,k⟩=>by
 subst e;exact AX ⟨y,w9,rfl,AX k⟩)
theorem wz_strI(h0:0<=i)(h1:i<1000)(q:QD (.str (toS i)) Z):WP (DA [.int i]) Z QD:=by
 refine An (a:=.str (toS i)) (Z':=Z) ?_ q;have hl:i.natAbs.log2<1920:=by
  have:i.natAbs<2 ^ 1920:=AAM (show i.natAbs<2 ^ 10 by omega) (Nat.pow_le_pow_right (by decide) (by decide));rcases Nat.eq_zero_or_pos i.natAbs with z|z
  ·rw[z];decide
  ·exact(Nat.log2_lt (by omega)).mpr this
 show (if i.natAbs.log2<1920 then some (D.str (Str.ofString (toString i)),Z) else none)=_;rw[if_pos hl]
theorem wz_ix0(q:QD d Z):WP (Aa (.lst (d::ds)) (.int 0)) Z QD:=Cm (GF (j:=0) rfl) q
theorem wz_ix0T(q:QD d Z):WP (Aa (.tup (d::ds)) (.int 0)) Z QD:=Fw (GF (j:=0) rfl) q
theorem wz_strS{x:Str}(q:QD (.str x) Z):WP (DA [.str x]) Z QD:=⟨_,Z,rfl,q⟩
theorem NS{x:Str}(h:Fig i x)(q:QD (.int i) Z):WP (DC [.str x]) Z QD:=by
 refine An (a:=.int i) (Z':=Z) ?_ q;show (if x.length<=640 then (PySem.intText? x).map (λn=>(D.int n,Z)) else none)=_;rw[if_pos (by have:=h.hi;omega),h.val];rfl
theorem wz_signs{x t:Str}(ht:B[k]?=some (some (.str x)))(he:e=.str t)(hx:x.length<=1000)(h:∀c∈x.cps.toList,c∈t.cps.toList)(q:QD (.bl true) Z):WP (AF RB (AC (BU 1 [] (PR (AD k)) (AR 0) Ba (mOp (C4 false) (AD 0) (mC e)) A4) AI) B) Z QD:=by
 subst he;refine AU (AL ?_);refine Cd (AX (AK ht ⟨_,Z,rfl,?_⟩));have hl:(x.cps.toList.map λc=>D.str ⟨#[c]⟩).length=x.length:=by simp[Str.length]
 refine⟨by rw[hl,sizeLine_eq];omega,?_⟩;refine Ch (λc=>D.str ⟨#[c]⟩) (λ_=>true) (λ_=>D.bl true) (λc hc=>A5 ⟨rfl,Cb ⟨rfl,rfl,λ_=>Ae (AK rfl (Az ⟨.bl true,Z,?_,rfl,rfl⟩))⟩⟩) ?_
 ·show some (D.bl (!(Builtin.Str.occurrences t ⟨#[c]⟩ 0 t.length 1).isEmpty),Z)=_;rw[StrLaws.found_one,AAO (h c hc)]
 ·refine A0 ?_ (AN ?_)
  ·rw[AAF];exact AAq (List.length_filter_le _ _) (by rw[show x.cps.toList.length=x.length from by simp[Str.length],sizeLine_eq];omega)
  ·refine aX (f:=λ_=>true) ?_;rw[show (List.filter (λ_=>true) x.cps.toList).all (λ_=>true)=true from by simp];exact q
theorem Fs{xs:List Str}{x:Str}(h:x∈xs)(q:QD (.bl true) Z):WP (C4 false (.str x) (sl xs)) Z QD:=⟨_,Z,Wx h,q⟩
theorem Dw{xs:List Str}{x:Str}(h:x∉xs)(q:QD (.bl false) Z):WP (C4 false (.str x) (sl xs)) Z QD:=⟨_,Z,Wy h,q⟩
theorem DW{bf:D->Sl->M Sl}{mb:Sl->M (Fl×Sl)}(h:WP (bf x B) Z λv6 w9=>WP (mb v6) w9 (Mu (λx8 x6=>WP (BR bf mb ds x8) x6 QS) QS)):WP (BR bf mb (x::ds) B) Z QS:=by
 show WP (bnd (bf x B) λv6=>bnd (mb v6) λr=>_) Z QS;exact AX (Ai h λv6 w9 z=>AX (Ai z λr x6 k=>by
  obtain⟨fl,x8⟩:=r;cases fl with
  |next=>exact k
  |cont=>exact k
  |brk=>exact BZ k
  |rt d=>exact BZ k
  |xc z=>exact BZ k))
theorem IU{bf:D->Sl->M Sl}{mb:Sl->M (Fl×Sl)}(h:QS (.next,B) Z):WP (BR bf mb [] B) Z QS:=⟨_,Z,rfl,h⟩
theorem Xo(h:WP (ra B) Z λas w9=>∃ds,as=[.lst ds]/\QL ds.reverse w9):WP (Wp ra B) Z QL:=AX (Ai h λas w9 ⟨ds,e,q⟩=>by
 subst e;exact⟨_,w9,rfl,q⟩)
theorem dD{i:Int}{x:Str}(h:Fig i x):∀c∈x.cps.toList,c∈("0123456789" : Str).cps.toList:=λc hc=>by
 have:=h.sg c hc;have e:("0123456789" : Str).cps.toList=[48,49,50,51,52,53,54,55,56,57]:=by decide +kernel
 rw[e];simp;omega
end
end K5
local macro_rules | `(tactic| wtm_at "o")=>`(tactic| first|assumption|omega|(focus (simp;done)))
local macro_rules | `(tactic| wtm_at "u")=>`(tactic| first
 |((with_reducible apply K5.wz_signs);(rfl);(rfl);(wtm_at "o");(assumption))|(with_reducible apply K5.wz_ix0)|(with_reducible apply K5.wz_ix0T)|(with_reducible apply K5.wz_chT)|(with_reducible apply K5.wz_not)|(with_reducible apply K5.wz_notT)|(with_reducible apply K5.wz_notF)|(with_reducible apply K5.wz_lenL)|((with_reducible apply K5.wz_lenS);(wtm_at "o"))|(with_reducible apply K5.wz_isS)|(with_reducible apply K5.wz_isL)|(with_reducible apply K5.wz_isR)|(with_reducible apply K5.wz_strS)|((with_reducible apply K5.wz_strI);(assumption);(wtm_at "o"))
 |wtm_at "p")
local macro_rules | `(tactic| wtm_at "a")=>`(tactic| repeat wtm_at "u")
namespace K5
open PySem L2 Mi K1
section
variable{Z:Mh}{QD:D->Mh->Prop}{i:Int}{x:Str}
theorem Xe(h:1<=x.length):∃c,x.cps.toList.head?=some c/\atI x.cps.toList 0=some c:=by
 have hl:x.cps.toList.length=x.length:=by simp[Str.length]
 cases e:x.cps.toList with
 |nil=>rw[e] at hl;simp at hl;omega
 |cons c r=>exact⟨c,rfl,GF (j:=0) rfl⟩
theorem TU(h:Fig i x)(q:QD (.int i) Z):WP (EF [.str x,.int 3]) Z QD:=by
 have h1:=h.lo;have h3:=h.hi;have hs:=dD h;unfold EF;refine Aw rfl ?_;unfold Hi;wtm_at "a";obtain⟨c,e1,e2⟩:=Xe h1;refine An (a:=.str ⟨#[c]⟩) (Z':=Z) (by show (if x.length<=sizeLine then (atI x.cps.toList 0).map (λc=>(D.str ⟨#[c]⟩,Z)) else none)=_;rw[if_pos (by rw[sizeLine_eq];omega),e2];rfl) ?_;have hc:48<=c/\c<58:=h.sg c (List.mem_of_mem_head? (by rw[e1];rfl));have okc:PyData.strOk (⟨#[c]⟩:Str)=true:=by
  unfold PyData.strOk;simp;omega
 wtm_at "a";refine Kn okc (by decide +kernel) ?_;by_cases hz:c=48
 ·have hi0:=h.nz (by rw[e1,hz]);rw[show ((⟨#[c]⟩:Str)==("0" : Str))=true from by rw[hz];decide +kernel];wtm_at "a";have hx:x=("0" : Str):=by rw[h.eq,hi0,Xl]
  refine FN h.ok (by decide +kernel) (by rw[hx];decide +kernel) ?_;wtm_at "a";refine NS h ?_;wtm_at "a";exact⟨_,_,rfl,q⟩
 ·rw[show ((⟨#[c]⟩:Str)==("0" : Str))=false from by
   rw[AAd];intro e;have e0:("0" : Str)=⟨#[48]⟩:=by decide +kernel
   rw[e0] at e;have:=congrArg (λs:Str=>s.cps.toList) e;simp at this;exact hz this]
  wtm_at "a";refine NS h ?_;wtm_at "a";exact⟨_,_,rfl,q⟩
def Ex.words:Ex->List Str
 | .num i=>[toS i]
 | .var x=>[x]
 | .neg e => "not" :: words e
 | .pair w a b=>w::(words a++words b)
def RD(x:Str):Prop:=GoodName x/\x∉(["not", "and", "or"]:List Str)
def Ex.Rd:Nat->Ex->Prop
 |0,_=>False
 |_+1,.num i=>0<=i/\i<=9
 |_+1,.var x=>RD x
 |k+1,.neg e=>Ex.Rd k e
 |k+1,.pair w a b=>w∈Ax/\Ex.Rd k a/\Ex.Rd k b
theorem f7:∀m:Nat,m<10->(Str.ofString (toString (m:Int)))∉Ax/\(Str.ofString (toString (m:Int))==("not" : Str))=false/\(Str.ofString (toString (m:Int))).length=1/\(!(Builtin.Str.occurrences "0123456789" (Str.ofString (toString (m:Int))) 0 (Str.length "0123456789") 1).isEmpty)=true:=by decide +kernel
theorem dj{m:Nat}(h:m<10):CU [.str (toS m)] Z=some (.bl false,Z):=by
 have:m=0∨m=1∨m=2∨m=3∨m=4∨m=5∨m=6∨m=7∨m=8∨m=9:=by omega
 rcases this with rfl|rfl|rfl|rfl|rfl|rfl|rfl|rfl|rfl|rfl<;>exact K3.pureT (by kernel_rfl) rfl (by simp[Cl])
theorem QI(h0:0<=i)(h1:i<=9)(q:QD (.tup [.str "num",.int i]) Z):WP (BT [.str (toS i)]) Z QD:=by
 obtain⟨m,rfl⟩:=Int.eq_ofNat_of_zero_le h0;obtain⟨a1,a2,a3,a4⟩:=f7 m (by omega);have hf:=EA (i:=(m:Int)) (by omega) (by omega);unfold BT;refine Aw rfl ?_;unfold DB;wtm_at "a";refine Dw (xs:=Ax) a1 ?_;wtm_at "a";refine Kn hf.ok (by decide +kernel) ?_;rw[a2];wtm_at "a";refine An (dj (by omega)) ?_;wtm_at "a";refine wz_lenS (by rw[a3];decide) ?_;rw[a3];wtm_at "a";refine An (a:=.bl true) (Z':=Z) (by show some (D.bl (!(Builtin.Str.occurrences "0123456789" (toS (m:Int)) 0 (Str.length "0123456789") 1).isEmpty),Z)=_;rw[a4]) ?_;wtm_at "a";refine NS hf ?_;wtm_at "a";exact⟨_,_,rfl,q⟩
theorem QG(h:RD x)(q:QD (.tup [.str "var",.str x]) Z):WP (BT [.str x]) Z QD:=by
 have hn:x∉Ax:=λz=>by
  have hb:=h.1.ab;unfold Ax at z;simp only[AAI,List.not_mem_nil,or_false] at z;rcases z with rfl|rfl|rfl|rfl|rfl|rfl
  ·exact absurd hb (by unfold EM;decide +kernel)
  ·exact absurd hb (by unfold EM;decide +kernel)
  ·exact absurd hb (by unfold EM;decide +kernel)
  ·exact absurd hb (by unfold EM;decide +kernel)
  ·exact h.2 (by decide +kernel)
  ·exact h.2 (by decide +kernel)
 unfold BT;refine Aw rfl ?_;unfold DB;wtm_at "a";refine Dw (xs:=Ax) hn ?_;wtm_at "a";refine BX h.1.ok (by decide +kernel) (by rw[AAd];intro e;exact h.2 (by rw[e];decide +kernel)) ?_;wtm_at "a";refine An (JI h.1) ?_;wtm_at "a";exact⟨_,_,rfl,q⟩
theorem QH(h:x∈Ax)(q:QD .non Z):WP (BT [.str x]) Z QD:=by
 unfold BT;refine Aw rfl ?_;unfold DB;wtm_at "a";refine Fs (xs:=Ax) h ?_;wtm_at "a";exact⟨_,_,rfl,q⟩
theorem QJ(q:QD .non Z):WP (BT [.str "not"]) Z QD:=by
 unfold BT;refine Aw rfl ?_;unfold DB;wtm_at "a";refine Dw (xs:=Ax) (by decide +kernel) ?_;wtm_at "a";exact⟨_,_,rfl,q⟩
end
section
variable{Z:Mh}{B:Sl}{QD:D->Mh->Prop}{QS:Fl×Sl->Mh->Prop}{i:Int}{x w:Str}{ds:List D}{y a b:D}
theorem Bs(gs:Mh)(o:MO):(gs++[o])[gs.length]?=some o:=by rw[AAR (AAE _)];simp
theorem PV(gs:Mh)(o o':MO):(gs++[o]).set gs.length o'=gs++[o']:=by rw[AAe _ _ (AAE _)];simp
theorem Fo(h:ν[n]?=some (.lst ds)):FD (.ref n) ν=some ((),ν):=by
 unfold FD;rw[AV (show Co (.ref n) ν=some (ds,ν) from by show (match ν[n]? with|some (.lst ds')=>some (ds',ν)|_=>none)=some (ds,ν);rw[h])];rfl
theorem QC(ht:B[k]?=some (some (.ref gs.length)))(q:QD y (gs++[.lst ds])):WP (CI H9 (AD k) B) (gs++[.lst (ds++[y])]) QD:=by
 unfold CI;refine AX (AK ht (AX ⟨(),_,Fo (Bs _ _),?_⟩));refine An (a:=y) (Z':=gs++[.lst ds]) ?_ q;show Ew gs.length (λds=>(ds[ds.length-1]?).map λd=>(d,ds.dropLast)) (gs++[.lst (ds++[y])])=_;unfold Ew;rw[Bs];simp
theorem Uy(h:w∈Ax)(q:QD (.tup [.str w,a,b]) (Z++[.lst st])):WP (C1 [.str w,.ref Z.length]) (Z++[.lst (st++[b,a])]) QD:=by
 have hl2:2<=(st++[b,a]).length:=by simp
 unfold C1;refine Aw rfl ?_;unfold Gn;wtm_at "a";refine Fs (xs:=Ax) h ?_;wtm_at "a";refine D9 (Bs _ _) ?_;wtm_at "a";rw[show st++[b,a]=(st++[b])++[a] from by simp];refine QC (gs:=Z) rfl ?_;wtm_at "a";refine QC (gs:=Z) rfl ?_;wtm_at "a";exact⟨_,_,rfl,q⟩
theorem Uz(q:QD (.tup [.str "not",a]) (Z++[.lst st])):WP (C1 [.str "not",.ref Z.length]) (Z++[.lst (st++[a])]) QD:=by
 have hl2:1<=(st++[a]).length:=by simp
 unfold C1;refine Aw rfl ?_;unfold Gn;wtm_at "a";refine Dw (xs:=Ax) (by decide +kernel) ?_;wtm_at "a";refine D9 (Bs _ _) ?_;wtm_at "a";refine QC (gs:=Z) rfl ?_;wtm_at "a";exact⟨_,_,rfl,q⟩
noncomputable abbrev exB:Sl->M (Fl×Sl):=(AT (A2 (AF BT (AC (AD 2) AI)) (AR 3))
  (AT (sIf (AW (mOp (Fj false) (AD 3) (mC .non))) (A2 (AF C1 (AC (AD 2) (AC (AD 1) AI))) (AR 3)) BC)
  (AT (sIf (AW (mOp (Fj false) (AD 3) (mC .non))) (A1 (mC .non)) BC)
  (Ag (A3 C9 (AD 1) (AC (AD 3) AI))))))
theorem SK:∀(k:Nat) (e:Ex),Ex.Rd k e->∀(rest:List D) (st:List D) (o2 o3:Option D),st.length+(Ex.words e).length<1000->(∀p2 p3:Option D,WP (BR (AR 2) exB rest [t,some (.ref Z.length),p2,p3]) (Z++[.lst (st++[e.toD])]) QS)->
  WP (BR (AR 2) exB (((Ex.words e).map D.str).reverse++rest) [t,some (.ref Z.length),o2,o3]) (Z++[.lst st]) QS
 |0,_,h,_,_,_,_,_,_=>h.elim
 |k+1,.num i,h,rest,st,o2,o3,hl,q=>by
  show WP (BR (AR 2) exB (.str (toS i)::rest) _) _ _;refine DW (A5 ?_);wtm_at "a";refine QI h.1 h.2 ?_;wtm_at "a";have hl:st.length+1<1000:=hl;refine HI (gs:=Z) rfl (by rw[sizeLine_eq];omega) ?_;wtm_at "a";exact⟨Z,_,rfl,rfl,rfl,q _ _⟩
 |k+1,.var x,h,rest,st,o2,o3,hl,q=>by
  show WP (BR (AR 2) exB (.str x::rest) _) _ _;refine DW (A5 ?_);wtm_at "a";refine QG h ?_;wtm_at "a";have hl:st.length+1<1000:=hl;refine HI (gs:=Z) rfl (by rw[sizeLine_eq];omega) ?_;wtm_at "a";exact⟨Z,_,rfl,rfl,rfl,q _ _⟩
 |k+1,.neg e,h,rest,st,o2,o3,hl,q=>by
  have hl:st.length+((Ex.words e).length+1)<1000:=hl;have e1:((Ex.words (.neg e)).map D.str).reverse++rest=((Ex.words e).map D.str).reverse++(.str "not" :: rest):=by simp[Ex.words]
  rw[e1];refine SK k e h _ _ _ _ (by omega) λp2 p3=>?_;refine DW (A5 ?_);wtm_at "a";refine QJ ?_;wtm_at "a";refine Uz ?_;wtm_at "a";refine HI (gs:=Z) rfl (by rw[sizeLine_eq];omega) ?_;wtm_at "a";exact⟨Z,_,rfl,rfl,rfl,q _ _⟩
 |k+1,.pair w a b,h,rest,st,o2,o3,hl,q=>by
  have hl:st.length+((Ex.words a++Ex.words b).length+1)<1000:=hl;rw[AAG] at hl;have e1:((Ex.words (.pair w a b)).map D.str).reverse++rest=((Ex.words b).map D.str).reverse++(((Ex.words a).map D.str).reverse++(.str w::rest)):=by simp[Ex.words]
  rw[e1];have wa:1<=(Ex.words a).length:=by cases a<;>simp[Ex.words]
  refine SK k b h.2.2 _ _ _ _ (by omega) λp2 p3=>?_;refine SK k a h.2.1 _ _ _ _ (by rw[AAG];simp;omega) λp4 p5=>?_;refine DW (A5 ?_);wtm_at "a";refine QH h.1 ?_;wtm_at "a";rw[show st++[b.toD]++[a.toD]=st++[b.toD,a.toD] from by simp];refine Uy h.1 ?_;wtm_at "a";refine HI (gs:=Z) rfl (by rw[sizeLine_eq];omega) ?_;wtm_at "a";exact⟨Z,_,rfl,rfl,rfl,q _ _⟩
theorem exc:∀e:Ex,Cl k e.toD
 | .num i=>by unfold Ex.toD;simp[Cl,ClL]
 | .var x=>by unfold Ex.toD;simp[Cl,ClL]
 | .neg e=>by
  have:=exc (k:=k) e;unfold Ex.toD;simp[Cl,ClL,this]
 | .pair w a b=>by
  have h1:=exc (k:=k) a;have h2:=exc (k:=k) b;unfold Ex.toD;simp[Cl,ClL,h1,h2]
theorem U7(h:Ex.Rd k e)(hl:(Ex.words e).length<999)(q:QD e.toD Z):WP (Cr [.lst ((Ex.words e).map D.str)]) Z QD:=by
 unfold Cr;refine Fy rfl ?_;unfold FU;wtm_at "a";refine Xo ?_;wtm_at "a";refine⟨_,rfl,?_⟩;rw[←AAY ((Ex.words e).map D.str).reverse];refine SK k e h [] [] _ _ (by simp;omega) λp2 p3=>IU ?_;wtm_at "a";refine D9 (Bs _ _) ?_;wtm_at "a";refine An (a:=e.toD) (Z':=Z++[.lst ([]++[e.toD])]) ?_ ?_
 ·show bnd (B0 (.ref Z.length)) (λds=>ixD ds 0) (Z++[MO.lst [e.toD]])=_;rw[AV (show B0 (.ref Z.length) (Z++[MO.lst [e.toD]])=some ([e.toD],Z++[MO.lst [e.toD]]) from by show (match (Z++[MO.lst [e.toD]])[Z.length]? with|some (.lst ds')=>some (ds',Z++[MO.lst [e.toD]])|_=>none)=_;rw[Bs])];rfl
 ·exact⟨_,_,_,rfl,rfl,exc e,q⟩
end
section
variable{Z:Mh}{QD:D->Mh->Prop}{i:Int}{x:Str}{ds es:List D}{a:D}
theorem J9(k:Nat)(h:i=(k:Int))(q:QD (.lst (ds.take k)) Z):WP (LJ none (some i) (.lst ds)) Z QD:=by
 subst h;exact⟨_,Z,rfl,by rw[XQ];exact q⟩
theorem DT(k:Nat)(h:i=(k:Int))(hk:k<=ds.length)(q:QD (.lst (ds.drop k)) Z):WP (LJ (some i) none (.lst ds)) Z QD:=by
 subst h;exact⟨_,Z,rfl,by rw[Pn k hk];exact q⟩
theorem Kg(k:Nat)(h:i=(k:Int))(q:QD (.tup (ds.take k)) Z):WP (LJ none (some i) (.tup ds)) Z QD:=by
 subst h;exact⟨_,Z,rfl,by rw[XQ];exact q⟩
theorem DI(k:Nat)(h:i=(k:Int))(hk:k<=ds.length)(q:QD (.tup (ds.drop k)) Z):WP (LJ (some i) none (.tup ds)) Z QD:=by
 subst h;exact⟨_,Z,rfl,by rw[Pn k hk];exact q⟩
theorem Ca(h:ds.length+es.length<=1000000)(q:QD (.lst (ds++es)) Z):WP (Av (.lst ds) (.lst es)) Z QD:=A0 (by rw[sizeLine_eq,AAG];omega) q
theorem HF(h:ds.length+es.length<=1000000)(q:QD (.tup (d::ds++es)) Z):WP (Av (.tup (d::ds)) (.tup es)) Z QD:=IZ (by rw[sizeLine_eq];simp;omega) q
def D8(p:Str)(u r:D):Prop:=isN r=false/\∀(Z:Mh) (QD:D->Mh->Prop),QD r Z->WP (CZ [.str p,u]) Z QD
theorem bt(h:Ex.Rd k e)(hl:(Ex.words e).length<999):D8 "expression" (.lst ((Ex.words e).map D.str)) e.toD:=⟨by cases e<;>rfl,λZ QD q=>by
 unfold CZ;refine Aw rfl ?_;unfold ER;wtm_at "a";refine U7 h hl ?_;wtm_at "a";exact⟨_,_,rfl,q⟩⟩
theorem IB{p:Str}(hp:p = "number" ∨ p = "target")(h:Fig i x):D8 p (.str x) (.int i):=⟨rfl,λZ QD q=>by
 have e1:PyData.strOk p=true/\(p==("expression" : Str))=false/\p∈(["number", "target"]:List Str):=by rcases hp with rfl|rfl<;>decide +kernel
 unfold CZ;refine Aw rfl ?_;unfold ER;wtm_at "a";refine BX e1.1 (by decide +kernel) e1.2.1 ?_;wtm_at "a";refine Fs (xs:=["number", "target"]) e1.2.2 ?_;wtm_at "a";refine TU h ?_;wtm_at "a";exact⟨_,_,rfl,q⟩⟩
theorem Wa(h:x∈(["safe", "steady", "whole"]:List Str)):D8 "kind" (.str x) (.str x):=⟨rfl,λZ QD q=>by
 unfold CZ;refine Aw rfl ?_;unfold ER;wtm_at "a";refine Dw (xs:=["number", "target"]) (by decide +kernel) ?_;wtm_at "a";refine Fs (xs:=["safe", "steady", "whole"]) h ?_;wtm_at "a";exact⟨_,_,rfl,q⟩⟩
theorem IA{p:Str}(hp:p = "name" ∨ p = "box" ∨ p = "variable")(h:GoodName x):D8 p (.str x) (.str x):=⟨rfl,λZ QD q=>by
 have e1:PyData.strOk p=true/\(p==("expression" : Str))=false/\p∉(["number", "target"]:List Str)/\(p==("kind" : Str))=false:=by rcases hp with rfl|rfl|rfl<;>decide +kernel
 unfold CZ;refine Aw rfl ?_;unfold ER;wtm_at "a";refine BX e1.1 (by decide +kernel) e1.2.1 ?_;wtm_at "a";refine Dw (xs:=["number", "target"]) e1.2.2.1 ?_;wtm_at "a";refine BX e1.1 (by decide +kernel) e1.2.2.2 ?_;wtm_at "a";refine An (JI h) ?_;wtm_at "a";exact⟨_,_,rfl,q⟩⟩
theorem fil(xs:List α):xs.filter (λ_=>true)=xs:=by simp
theorem df:∀xs:List (Str×D×D),Fr (xs.map λa=>D.str a.1) (xs.map λa=>a.2.1)=xs.map λa=>D.tup [.str a.1,a.2.1]
 |[]=>rfl
 |a::xs=>by rw[AAW,AAW,AAW,←df xs];rfl
theorem aU{α:Type}{f:α->Bool}{xs:List α}(q:QD (.bl (xs.any f)) Z):WP (Xf [.lst (xs.map λa=>D.bl (f a))]) Z QD:=by
 refine An (a:=.bl (xs.any f)) (Z':=Z) ?_ q;show (IQ (xs.map λa=>D.bl (f a))).map _=_;rw[OO];show some (D.bl ((xs.map f).any id),Z)=_;rw[List.any_map];rfl
noncomputable abbrev WZ:Sl->M (Fl×Sl):=(AT (sIf (AW (mOp B4 (AF Bk (AC (AD 1) AI)) (AF Bk (AC (AD 0) AI)))) (A1 (mC .non)) BC)
  (AT (A2 (BU 2 [] (Gr Ec (AC (AD 0) (AC (AD 1) AI))) (DE [0,1]) Ba (AF CZ (AC (AD 0) (AC (AD 1) AI))) A4) (AR 3))
  (A1 (mIf (AW (AF Xf (AC (BU 1 [] (C7 (AD 3)) (AR 0) Ba (mOp (Fj false) (AD 0) (mC .non)) A4) AI))) (mC .non) (AD 3)))))
theorem Mj{xs:List (Str×D×D)}{o2 o3:Option D}(h:∀a∈xs,D8 a.1 a.2.1 a.2.2)(hl:xs.length<=1000)(q:QD (.lst (xs.map λa=>a.2.2)) Z):WP (WZ [some (.tup (xs.map λa=>D.str a.1)),some (.lst (xs.map λa=>a.2.1)),o2,o3]) Z λr x6=>∃d x8,r=(.rt d,x8)/\QD d x6:=by
 unfold WZ;wtm_at "a";refine AX (AL (AK rfl (AL (AK rfl (AN ?_)))));refine⟨xs.map λa=>D.tup [.str a.1,a.2.1],Z,?_,by rw[AAF,sizeLine_eq];omega,?_⟩
 ·show (if (xs.map λa=>a.2.1).length=(xs.map λa=>D.str a.1).length then some (Fr (xs.map λa=>D.str a.1) (xs.map λa=>a.2.1),Z) else none)=_;rw[if_pos (by simp),df]
 refine Ch (λa:Str×D×D=>D.tup [.str a.1,a.2.1]) (λ_=>true) (λa=>a.2.2) (λa ha=>Fe ⟨rfl,Cb ⟨rfl,rfl,λ_=>?_⟩⟩) ?_
 ·refine AU (AL (AK rfl (AL (AK rfl (AN ?_)))));exact(h a ha).2 Z _ ⟨rfl,rfl⟩
 ·rw[fil];refine A0 (by rw[AAF,sizeLine_eq];omega) (AS ?_);refine Cc (NV (Am (AU (AL (Cd ?_)))));refine EX (AK rfl (Fu ⟨by rw[AAF,sizeLine_eq];omega,?_⟩));refine Ch (λa:Str×D×D=>a.2.2) (λ_=>true) (λ_=>D.bl false) (λa ha=>A5 ⟨rfl,Cb ⟨rfl,rfl,λ_=>?_⟩⟩) ?_
  ·refine Ae (AK rfl (Az (U3 ⟨?_,rfl⟩)));rw[(h a ha).1]
  ·rw[fil];refine A0 (by rw[AAF,sizeLine_eq];omega) (AN (aU (f:=λ_=>false) ?_));rw[show (xs.any λ_=>false)=false from by simp];exact⟨false,rfl,Of (AK rfl ⟨_,_,rfl,q⟩)⟩
theorem En{xs:List (Str×D×D)}(ns:List Str)(hns:xs.map (·.1)=ns)(hn:("expression" : Str)∉ns)(h:∀a∈xs,D8 a.1 a.2.1 a.2.2)(hl:xs.length<=1000)(q:QD (.lst (xs.map λa=>a.2.2)) Z):WP (Cf [.tup (xs.map λa=>D.str a.1),.lst (xs.map λa=>a.2.1)]) Z QD:=by
 unfold Cf;refine Aw rfl ?_;unfold F6;refine Af (BQ (Am (Ae (Az (AK rfl ?_)))));rw[show (xs.map λa=>D.str a.1)=(xs.map (·.1)).map D.str from by simp];refine Dw (hns ▸ hn) ?_;rw[show (xs.map (·.1)).map D.str=(xs.map λa=>D.str a.1) from by simp];refine Bl (A9 (CO (AS ?_)));exact Mj h hl q
theorem HH{xs:List (Str×D×D)}{k:Nat}{us:List Str}(hu:us.map D.str=xs.map λa=>a.2.1)(h:∀a∈xs,D8 a.1 a.2.1 a.2.2)(he:Ex.Rd k e)(hle:(Ex.words e).length<999)(hl:xs.length<=900)(q:QD (.lst ((xs.map λa=>a.2.2)++[e.toD])) Z):WP (Cf [.tup ((xs.map λa=>D.str a.1)++[.str "expression"]),.lst (us.map D.str++(Ex.words e).map D.str)]) Z QD:=by
 have hlu:us.length=xs.length:=by have:=congrArg List.length hu;simpa using this
 unfold Cf;refine Aw rfl ?_;unfold F6;refine Af (BQ (Am (Ae (Az (AK rfl ?_)))));rw[show (xs.map λa=>D.str a.1)++[D.str "expression"]=(xs.map (λa=>a.1)++[("expression" : Str)]).map D.str from by simp];refine Fs (by simp) ?_;rw[show (xs.map (λa=>a.1)++[("expression" : Str)]).map D.str=(xs.map λa=>D.str a.1)++[D.str "expression"] from by simp];refine Bl (CF (Af ?_));wtm_at "a";have e1:(((xs.map λa=>D.str a.1)++[D.str "expression"]).length:Int)-1=(xs.length:Int):=by simp
 refine J9 xs.length e1 ?_;wtm_at "a";refine DT xs.length e1 (by simp;omega) ?_;wtm_at "a";rw[List.take_left' (by simp[hlu]),List.drop_left' (by simp[hlu])];refine Ca (by simp;omega) ?_;have hw:=bt he hle;have key:=Mj (Z:=Z) (QD:=QD) (xs:=xs++[(("expression" : Str),D.lst ((Ex.words e).map D.str),e.toD)]) (o2:=some (.int ((((xs.map λa=>D.str a.1)++[D.str "expression"]).length:Int)-1))) (o3:=none) (λa ha=>by
  rcases AAJ.mp ha with z|z
  ·exact h a z
  ·rw[AAK] at z;subst z;exact hw) (by simp;omega) (by simpa using q)
 rw[AAX,AAX,←hu] at key;exact AS key
end
noncomputable abbrev ln(ws:List Str):Str:=Str.join (" " : Str) ws
noncomputable abbrev tx(ls:List Str):Str:=Str.join ("\n" : Str) ls
structure Gw(w:Str):Prop where
 sp:HZ 32 w
 nl:HZ 10 w
 le:w.length<=8
 as:∀c∈w.cps.toList,c<128
theorem FX(h:GoodName x):Gw x:=⟨Mq h (by decide),Mq h (by decide),h.hi,λc hc=>by have:=h.ab c hc;omega⟩
theorem F9(h0:0<=i)(h1:i<1000):Gw (toS i):=by
 have h:=EA h0 h1;exact⟨h.free (by decide),h.free (by decide),by have:=h.hi;omega,λc hc=>by have:=h.sg c hc;omega⟩
theorem Dd(h:(!(w.cps.toList.contains 32)&&!(w.cps.toList.contains 10)&&decide (w.length<=8)&&w.cps.toList.all (λc=>decide (c<128)))=true):Gw w:=by
 simp only[Bool.and_eq_true,Bool.not_eq_true',decide_eq_true_eq] at h;exact⟨λz=>by have:=h.1.1.1;simp at this;exact this (by simpa using z),λz=>by have:=h.1.1.2;simp at this;exact this (by simpa using z),h.1.2,λc hc=>by have:=List.all_eq_true.mp h.2 c hc;simpa using this⟩
section
variable{Z:Mh}{QD:D->Mh->Prop}{w:Str}{us ws:List Str}{ps rs:List D}{a b:D}
theorem MM(hn:ws≠[])(h:∀w∈ws,Gw w)(hl:ws.length<=1000)(q:QD (.lst (ws.map D.str)) Z):WP (Hw (.str (ln ws)) [.str " "]) Z QD:=by
 unfold ln;rw[O0];exact Oi (B_:=8) hn (λw hw=>(h w hw).sp) (λw hw=>(h w hw).le) (by rw[sizeLine_eq];omega) q
theorem Kh(hd:B0 d Z=some (ws.map D.str,Z))(h:∀w∈ws,Gw w)(hl:ws.length<=1000)(q:QD (.str (ln ws)) Z):WP (F8 (.str " ") [d]) Z QD:=by
 unfold ln at q;rw[O0] at q ⊢;exact Rj (B_:=8) hd (λw hw=>(h w hw).le) (by rw[sizeLine_eq];omega) q
theorem Kk(h1:PyData.strOk w=true)(h:(w==("unless" : Str))=false)(q:QD d Z):WP (B8 [.str w,d]) Z QD:=by
 unfold B8;refine Aw rfl ?_;unfold E9;refine Cc (NV (Am (Ae (AK rfl (Az ?_)))));refine BX h1 (by decide +kernel) h ?_;wtm_at "a";exact⟨_,_,rfl,q⟩
theorem Kj(q:QD (.tup [b,a]) Z):WP (B8 [.str "unless",.tup [a,b]]) Z QD:=by
 unfold B8;refine Aw rfl ?_;unfold E9;wtm_at "a";refine An (a:=.int (-1)) (Z':=Z) rfl ?_;exact⟨_,_,rfl,_,_,rfl,q⟩
theorem Ed(hw:PyData.strOk w=true)(hu:(w==("unless" : Str))=false)(hk:(Eg w).getD ((Bi w).getD .non)=.tup ps)(hg:∀u∈w::us,Gw u)(hl:us.length<=100)
  (hp:∀(Z:Mh) (QD:D->Mh->Prop),QD (.lst rs) Z->WP (Cf [.tup ps,.lst (us.map D.str)]) Z QD) (hr:rs.length<=100) (q:QD (.tup (.str w::rs)) Z):WP (Bh [.str (ln (w::us))]) Z QD:=by
 unfold Bh;refine Aw rfl ?_;unfold IF;refine Af (A6 (EN (y:=ln (w::us)) (AK rfl ⟨rfl,AL (Az (AN ?_))⟩)));refine MM (by simp) hg (by simp;omega) ?_;rw[AAW];wtm_at "a";refine An (a:=(Bi w).getD .non) (Z':=Z) rfl ?_;wtm_at "a";refine An (a:=.tup ps) (Z':=Z) (by show some ((Eg w).getD ((Bi w).getD .non),Z)=_;rw[hk]) ?_;wtm_at "a";refine Kk hw hu ?_;wtm_at "a";refine DT 1 rfl (by simp) ?_;wtm_at "a";refine hp _ _ ?_;wtm_at "a";refine Kk hw hu ?_;refine HF (ds:=[]) (by simp;omega) ?_;exact⟨_,_,rfl,q⟩
theorem Xz(h0:0<=t)(h1:t<1000)(he:Ex.Rd k e)(hg:∀u∈Ex.words e,Gw u)(hle:(Ex.words e).length<99)(q:QD (.tup [.str "unless",e.toD,.int t]) Z):WP (Bh [.str (ln ("unless" :: toS t::Ex.words e))]) Z QD:=by
 unfold Bh;refine Aw rfl ?_;unfold IF;refine Af (A6 (EN (y:=ln ("unless" :: toS t::Ex.words e)) (AK rfl ⟨rfl,AL (Az (AN ?_))⟩)));refine MM (by simp) (λu hu=>?_) (by simp;omega) ?_
 ·rcases AAI.mp hu with rfl|hu
  ·exact Dd (by decide +kernel)
  ·rcases AAI.mp hu with rfl|hu
   ·exact F9 h0 h1
   ·exact hg u hu
 rw[AAW,AAW];wtm_at "a";refine An (a:=.tup [.str "expression",.str "target"]) (Z':=Z) (by kernel_rfl) ?_;wtm_at "a";refine An (a:=.tup [.str "expression",.str "target"]) (Z':=Z) (by kernel_rfl) ?_;wtm_at "a";refine Kj ?_;wtm_at "a";refine DT 1 rfl (by simp) ?_;wtm_at "a";refine HH (xs:=[("target",.str (toS t),.int t)]) (us:=[toS t]) rfl (λa ha=>by rw[AAK] at ha;subst ha;exact IB (.inr rfl) (EA h0 h1)) he (by omega) (by simp) ?_;wtm_at "a";refine Kj ?_;exact⟨_,_,rfl,_,_,rfl,q⟩
end
theorem G3:∀(k:Nat) (e:Ex),Ex.Rd k e->(Ex.words e).length+1<=2 ^ k
 |0,_,h=>h.elim
 |k+1,.num _,_=>by show 1+1<=2 ^ (k+1);have:=Nat.one_le_two_pow (n:=k);rw[Nat.pow_succ];omega
 |k+1,.var _,_=>by show 1+1<=2 ^ (k+1);have:=Nat.one_le_two_pow (n:=k);rw[Nat.pow_succ];omega
 |k+1,.neg e,h=>by
  have:=G3 k e h;show (Ex.words e).length+1+1<=2 ^ (k+1);have:=Nat.one_le_two_pow (n:=k);rw[Nat.pow_succ];omega
 |k+1,.pair w a b,h=>by
  have h1:=G3 k a h.2.1;have h2:=G3 k b h.2.2;show (Ex.words a++Ex.words b).length+1+1<=2 ^ (k+1);rw[AAG,Nat.pow_succ];omega
theorem Dk(h:Ex.Rd 5 e):(Ex.words e).length<=31:=by have:=G3 5 e h;omega
theorem ZP(h:w∈Ax):Gw w:=by
 unfold Ax at h;simp only[AAI,List.not_mem_nil,or_false] at h;rcases h with rfl|rfl|rfl|rfl|rfl|rfl<;>exact Dd (by decide +kernel)
theorem Jz:∀(k:Nat) (e:Ex),Ex.Rd k e->∀u∈Ex.words e,Gw u
 |0,_,h,_,_=>h.elim
 |k+1,.num i,h,u,hu=>by rw[AAK.mp hu];exact F9 h.1 (by have:=h.2;omega)
 |k+1,.var x,h,u,hu=>by rw[AAK.mp hu];exact FX h.1
 |k+1,.neg e,h,u,hu=>by
  rcases AAI.mp hu with rfl|hu
  ·exact Dd (by decide +kernel)
  ·exact Jz k e h u hu
 |k+1,.pair w a b,h,u,hu=>by
  rcases AAI.mp hu with rfl|hu
  ·exact ZP h.1
  ·rcases AAJ.mp hu with hu|hu
   ·exact Jz k a h.2.1 u hu
   ·exact Jz k b h.2.2 u hu
def Rw.ws:Rw->List Str
 | .put bx e => "put" :: bx::Ex.words e
 | .get x bx=>["get",x,bx]
 | .letr x e => "let" :: x::Ex.words e
 | .unless e t => "unless" :: toS t::Ex.words e
 | .jump t=>["jump",toS t]
 | .tell e => "tell" :: Ex.words e
 | .done=>["done"]
def Rw.Rd:Rw->Prop
 | .put bx e=>GoodName bx/\Ex.Rd 5 e
 | .get x bx=>GoodName x/\GoodName bx
 | .letr x e=>GoodName x/\Ex.Rd 5 e
 | .unless e t=>Ex.Rd 5 e/\0<=t/\t<1000
 | .jump t=>0<=t/\t<1000
 | .tell e=>Ex.Rd 5 e
 | .done=>True
theorem EV{P:Str->Prop}(h:P a)(hl:∀u∈l,P u):∀u∈a::l,P u:=λu hu=>by
 rcases AAI.mp hu with rfl|hu
 ·exact h
 ·exact hl u hu
theorem JP{r:Rw}(h:Rw.Rd r):∀u∈Rw.ws r,Gw u:=by
 cases r with
 |put bx e=>exact EV (Dd (by decide +kernel)) (EV (FX h.1) (Jz 5 e h.2))
 |get x bx=>exact EV (Dd (by decide +kernel)) (EV (FX h.1) (EV (FX h.2) λ_ z=>nomatch z))
 |letr x e=>exact EV (Dd (by decide +kernel)) (EV (FX h.1) (Jz 5 e h.2))
 | «unless» e t=>exact EV (Dd (by decide +kernel)) (EV (F9 h.2.1 h.2.2) (Jz 5 e h.1))
 |jump t=>exact EV (Dd (by decide +kernel)) (EV (F9 h.1 h.2) λ_ z=>nomatch z)
 |tell e=>exact EV (Dd (by decide +kernel)) (Jz 5 e h)
 |done=>exact EV (Dd (by decide +kernel)) λ_ z=>nomatch z
theorem KI(h:Rw.Rd r):(Rw.ws r).length<=33:=by
 cases r with
 |put bx e=>have:=Dk h.2;show (Ex.words e).length+1+1<=33;omega
 |get x bx=>show 3<=33;decide
 |letr x e=>have:=Dk h.2;show (Ex.words e).length+1+1<=33;omega
 | «unless» e t=>have:=Dk h.1;show (Ex.words e).length+1+1<=33;omega
 |jump t=>show 2<=33;decide
 |tell e=>have:=Dk h;show (Ex.words e).length+1<=33;omega
 |done=>show 1<=33;decide
section
variable{Z:Mh}{QD:D->Mh->Prop}{x:Str}
theorem Qo(h:D8 p u r):∀a∈[(p,u,r)],D8 a.1 a.2.1 a.2.2:=λa ha=>by rw[AAK] at ha;subst ha;exact h
theorem J4(h:D8 p u r)(hl:∀a∈l,D8 a.1 a.2.1 a.2.2):∀a∈(p,u,r)::l,D8 a.1 a.2.1 a.2.2:=λa ha=>by
 rcases AAI.mp ha with rfl|ha
 ·exact h
 ·exact hl a ha
theorem fP:∀a∈([]:List (Str×D×D)),D8 a.1 a.2.1 a.2.2:=λ_ z=>nomatch z
theorem X0(h:Rw.Rd r)(q:QD r.toD Z):WP (Bh [.str (ln (Rw.ws r))]) Z QD:=by
 have hg:=JP h;have hl:=KI h;cases r with
 |put bx e=>
  have l5:=Dk h.2;exact Ed (rs:=[.str bx,e.toD]) (by decide +kernel) (by decide +kernel) (ps:=[.str "box",.str "expression"]) (by kernel_rfl) hg (by simp;omega) (λZ QD q=>HH (xs:=[("box",.str bx,.str bx)]) (us:=[bx]) rfl (Qo (IA (.inr (.inl rfl)) h.1)) h.2 (by omega) (by simp) q) (by simp) q
 |get x bx=>exact Ed (rs:=[.str x,.str bx]) (by decide +kernel) (by decide +kernel) (ps:=[.str "variable",.str "box"]) (by kernel_rfl) hg (by simp) (λZ QD q=>En (xs:=[("variable",.str x,.str x),("box",.str bx,.str bx)]) ["variable", "box"] rfl (by decide +kernel) (J4 (IA (.inr (.inr rfl)) h.1) (Qo (IA (.inr (.inl rfl)) h.2))) (by simp) q) (by simp) q
 |letr x e=>
  have l5:=Dk h.2;exact Ed (rs:=[.str x,e.toD]) (by decide +kernel) (by decide +kernel) (ps:=[.str "variable",.str "expression"]) (by kernel_rfl) hg (by simp;omega) (λZ QD q=>HH (xs:=[("variable",.str x,.str x)]) (us:=[x]) rfl (Qo (IA (.inr (.inr rfl)) h.1)) h.2 (by omega) (by simp) q) (by simp) q
 | «unless» e t=>exact Xz h.2.1 h.2.2 h.1 (Jz 5 e h.1) (by have:=Dk h.1;omega) q
 |jump t=>exact Ed (rs:=[.int t]) (by decide +kernel) (by decide +kernel) (ps:=[.str "target"]) (by kernel_rfl) hg (by simp) (λZ QD q=>En (xs:=[("target",.str (toS t),.int t)]) ["target"] rfl (by decide +kernel) (Qo (IB (.inr rfl) (EA h.1 h.2))) (by simp) q) (by simp) q
 |tell e=>
  have l5:=Dk h;exact Ed (rs:=[e.toD]) (by decide +kernel) (by decide +kernel) (ps:=[.str "expression"]) (by kernel_rfl) hg (by omega) (λZ QD q=>HH (xs:=[]) (us:=[]) rfl fP h (by omega) (by simp) q) (by simp) q
 |done=>exact Ed (rs:=[]) (by decide +kernel) (by decide +kernel) (ps:=[]) (by kernel_rfl) hg (by simp) (λZ QD q=>En (xs:=[]) [] rfl (by decide +kernel) fP (by simp) q) (by simp) q
def Mk.ws(m:Mk):List Str:=["makes",m.kd,toS m.sz,toS m.bg]
def Bx.ws(b:Bx):List Str:=["box",b.nm,b.kd,toS b.sz,toS b.bg,b.wr]
def Hd.ws(h:Hd):List Str:=["hand",h.nm,toS h.wi]
theorem So(h:k∈(["safe", "steady", "whole"]:List Str)):Gw k:=by
 simp only[AAI,List.not_mem_nil,or_false] at h;rcases h with rfl|rfl|rfl<;>exact Dd (by decide +kernel)
theorem Mr{m:Mk}(h:FY m.kd m.sz m.bg):∀u∈Mk.ws m,Gw u:=EV (Dd (by decide +kernel)) (EV (So h.1) (EV (F9 (by have:=h.2.1;omega) (by have:=h.2.2.1;omega)) (EV (F9 h.2.2.2.1 (by have:=h.2.2.1;have:=h.2.2.2.2;omega)) λ_ z=>nomatch z)))
theorem NG{b:Bx}(h1:GoodName b.nm)(h:FY b.kd b.sz b.bg)(h2:GoodName b.wr):∀u∈Bx.ws b,Gw u:=EV (Dd (by decide +kernel)) (EV (FX h1) (EV (So h.1) (EV (F9 (by have:=h.2.1;omega) (by have:=h.2.2.1;omega)) (EV (F9 h.2.2.2.1 (by have:=h.2.2.1;have:=h.2.2.2.2;omega)) (EV (FX h2) λ_ z=>nomatch z)))))
theorem My{h:Hd}(h1:GoodName h.nm)(h2:0<=h.wi)(h3:h.wi<=400):∀u∈Hd.ws h,Gw u:=EV (Dd (by decide +kernel)) (EV (FX h1) (EV (F9 h2 (by omega)) λ_ z=>nomatch z))
theorem Ia(h:FY k s b):Fig s (toS s)/\Fig b (toS b):=⟨EA (by have:=h.2.1;omega) (by have:=h.2.2.1;omega),EA h.2.2.2.1 (by have:=h.2.2.1;have:=h.2.2.2.2;omega)⟩
theorem U4(h:FY m.kd m.sz m.bg)(q:QD (.tup [.str "makes",.str m.kd,.int m.sz,.int m.bg]) Z):WP (Bh [.str (ln (Mk.ws m))]) Z QD:=
 Ed (rs:=[.str m.kd,.int m.sz,.int m.bg]) (by decide +kernel) (by decide +kernel) (ps:=[.str "kind",.str "number",.str "number"]) (by kernel_rfl) (Mr h) (by simp) (λZ QD q=>En (xs:=[("kind",.str m.kd,.str m.kd),("number",.str (toS m.sz),.int m.sz),("number",.str (toS m.bg),.int m.bg)]) ["kind", "number", "number"] rfl (by decide +kernel) (J4 (Wa h.1) (J4 (IB (.inl rfl) (Ia h).1) (Qo (IB (.inl rfl) (Ia h).2)))) (by simp) q) (by simp) q
theorem U6(h1:GoodName b.nm)(h:FY b.kd b.sz b.bg)(h2:GoodName b.wr)(q:QD (.tup (.str "box" :: [.str b.nm,.str b.kd,.int b.sz,.int b.bg,.str b.wr])) Z):WP (Bh [.str (ln (Bx.ws b))]) Z QD:=
 Ed (rs:=[.str b.nm,.str b.kd,.int b.sz,.int b.bg,.str b.wr]) (by decide +kernel) (by decide +kernel) (ps:=[.str "name",.str "kind",.str "number",.str "number",.str "name"]) (by kernel_rfl) (NG h1 h h2) (by simp) (λZ QD q=>En (xs:=[("name",.str b.nm,.str b.nm),("kind",.str b.kd,.str b.kd),("number",.str (toS b.sz),.int b.sz),("number",.str (toS b.bg),.int b.bg),("name",.str b.wr,.str b.wr)]) ["name", "kind", "number", "number", "name"] rfl (by decide +kernel) (J4 (IA (.inl rfl) h1) (J4 (Wa h.1) (J4 (IB (.inl rfl) (Ia h).1) (J4 (IB (.inl rfl) (Ia h).2) (Qo (IA (.inl rfl) h2)))))) (by simp) q) (by simp) q
theorem U5(h1:GoodName h.nm)(h2:0<=h.wi)(h3:h.wi<=400)(q:QD (.tup [.str "hand",.str h.nm,.int h.wi]) Z):WP (Bh [.str (ln (Hd.ws h))]) Z QD:=
 Ed (rs:=[.str h.nm,.int h.wi]) (by decide +kernel) (by decide +kernel) (ps:=[.str "name",.str "number"]) (by kernel_rfl) (My h1 h2 h3) (by simp) (λZ QD q=>En (xs:=[("name",.str h.nm,.str h.nm),("number",.str (toS h.wi),.int h.wi)]) ["name", "number"] rfl (by decide +kernel) (J4 (IA (.inl rfl) h1) (Qo (IB (.inl rfl) (EA h2 (by omega))))) (by simp) q) (by simp) q
end
section
variable{Z:Mh}{B:Sl}{QD:D->Mh->Prop}{x w:Str}{ds:List D}
theorem Fc(hl:ds.length=ps)(h:WP (mb (BI N ds)) Z λr x6=>∃es x8 gs,x6=Z++gs/\ClL Z.length es/\QD (.lst es) Z/\(r=(.rt (.lst es),x8)∨∃j,r=(.rt (.ref j),x8)/\Z.length<=j/\x6[j]?=some (.lst es))):WP (BJ .frz N ps mb ds) Z QD:=by
 obtain⟨r,x6,e,es,x8,gs,rfl,c,q,z|⟨j,z,hj,hg⟩⟩:=h
 ·subst z;exact An (IP e hl c) q
 ·subst z;exact An (HS e hl hj hg c) q
theorem KB(ht:B[i]?=some (some (.ref gs.length)))(h:WP (ra B) (gs++[.lst ds]) λes w9=>∃zs,es=[.lst zs]/\w9=gs++[.lst ds]/\ds.length+zs.length<=1000000/\QD .non (gs++[.lst (ds++zs)])):WP (A3 MH (AD i) ra B) (gs++[.lst ds]) QD:=by
 unfold A3;refine AX (AK ht (AX ⟨(),_,Fo (Bs _ _),AX (Ai h ?_)⟩));rintro es w9 ⟨zs,rfl,rfl,hl,q⟩;refine An (a:=.non) (Z':=gs++[.lst (ds++zs)]) ?_ q;show Ew gs.length (λds=>if ds.length+zs.length<=sizeLine then some (.non,ds++zs) else none) (gs++[.lst ds])=_;unfold Ew;rw[Bs];dsimp only;rw[if_pos (by rw[sizeLine_eq];omega)];simp
theorem clS:∀xs:List Str,ClL k (xs.map D.str)
 |[]=>by simp[ClL]
 |x::xs=>by rw[AAW];simp[ClL,Cl,clS xs]
def Dq(n:Nat)(d:D)(ws:List Str):Prop:=∀(Z:Mh) (QD:D->Mh->Prop),QD (.lst (ws.map D.str)) Z->WP (B7 n [d]) Z QD
theorem Ef:Dq (n+1) (.str x) [x]:=λZ QD q=>by
 unfold B7;refine Fc rfl ?_;unfold DN;refine Af (BQ (wz_not (Am (AU ?_))));wtm_at "a";refine An (a:=.bl false) (Z':=Z) rfl ?_;wtm_at "a";exact⟨[.str x],_,[],by simp,by simp[ClL,Cl],q,.inl rfl⟩
theorem F0(h0:0<=i)(h1:i<1000):Dq (n+1) (.int i) [toS i]:=λZ QD q=>by
 unfold B7;refine Fc rfl ?_;unfold DN;refine Af (BQ (wz_not (Am (AU ?_))));wtm_at "a";refine An (a:=.bl false) (Z':=Z) rfl ?_;wtm_at "a";exact⟨[.str (toS i)],_,[],by simp,by simp[ClL,Cl],q,.inl rfl⟩
theorem Y7(h:w∈Ax):w∉(["num", "var"]:List Str):=by
 unfold Ax at h;simp only[AAI,List.not_mem_nil,or_false] at h;rcases h with rfl|rfl|rfl|rfl|rfl|rfl<;>decide +kernel
theorem F1:∀(k n:Nat) (e:Ex),k<=n->k<=6->Ex.Rd k e->Dq n e.toD (Ex.words e)
 |0,_,_,_,_,h=>h.elim
 |k+1,0,_,hk,_,_=>absurd hk (by omega)
 |k+1,n+1,.num i,_,_,h=>λZ QD q=>by
  have h0:=h.1;have h1:i<1000:=by have:=h.2;omega
  unfold B7;refine Fc rfl ?_;unfold DN Ex.toD;refine Af (BQ (wz_not (Am (AU ?_))));wtm_at "a";refine An (a:=.bl true) (Z':=Z) rfl ?_;wtm_at "a";refine Fs (xs:=["num", "var"]) (by decide +kernel) ?_;wtm_at "a";exact⟨[.str (toS i)],_,[],by simp,by simp[ClL,Cl],q,.inl rfl⟩
 |k+1,n+1,.var x,_,_,h=>λZ QD q=>by
  unfold B7;refine Fc rfl ?_;unfold DN Ex.toD;refine Af (BQ (wz_not (Am (AU ?_))));wtm_at "a";refine An (a:=.bl true) (Z':=Z) rfl ?_;wtm_at "a";refine Fs (xs:=["num", "var"]) (by decide +kernel) ?_;wtm_at "a";exact⟨[.str x],_,[],by simp,by simp[ClL,Cl],q,.inl rfl⟩
 |k+1,n+1,.neg e,hk,h6,h=>λZ QD q=>by
  have ih:=F1 k n e (by omega) (by omega) h;have hl:=G3 k e h;have h64:2 ^ k<=2 ^ 6:=Nat.pow_le_pow_right (by decide) (by omega);unfold B7;refine Fc rfl ?_;unfold DN Ex.toD;refine Af (BQ (wz_not (Am (AU ?_))));wtm_at "a";refine An (a:=.bl true) (Z':=Z) rfl ?_;wtm_at "a";refine Dw (xs:=["num", "var"]) (by decide +kernel) ?_;wtm_at "a";refine DI 1 rfl (by simp) ?_;wtm_at "a";refine DW (A5 (BY (KB (gs:=Z) rfl ?_)));wtm_at "a";refine ih _ _ ?_;refine AN ⟨_,rfl,rfl,by simp;omega,BV (IU ?_)⟩;wtm_at "a";exact⟨(Ex.words (.neg e)).map D.str,_,[.lst ((Ex.words (.neg e)).map D.str)],rfl,clS _,q,.inr ⟨_,rfl,AAE _,Bs _ _⟩⟩
 |k+1,n+1,.pair w a b,hk,h6,h=>λZ QD q=>by
  have iha:=F1 k n a (by omega) (by omega) h.2.1;have ihb:=F1 k n b (by omega) (by omega) h.2.2;have hla:=G3 k a h.2.1;have hlb:=G3 k b h.2.2;have h64:2 ^ k<=2 ^ 6:=Nat.pow_le_pow_right (by decide) (by omega);unfold B7;refine Fc rfl ?_;unfold DN Ex.toD;refine Af (BQ (wz_not (Am (AU ?_))));wtm_at "a";refine An (a:=.bl true) (Z':=Z) rfl ?_;wtm_at "a";refine Dw (xs:=["num", "var"]) (Y7 h.1) ?_;wtm_at "a";refine DI 1 rfl (by simp) ?_;wtm_at "a";refine DW (A5 (BY (KB (gs:=Z) rfl ?_)));wtm_at "a";refine iha _ _ ?_;refine AN ⟨_,rfl,rfl,by simp;omega,BV ?_⟩;refine DW (A5 (BY (KB (gs:=Z) rfl ?_)));wtm_at "a";refine ihb _ _ ?_;refine AN ⟨_,rfl,rfl,by simp;omega,BV (IU ?_)⟩;wtm_at "a";exact⟨(Ex.words (.pair w a b)).map D.str,_,[.lst ((Ex.words (.pair w a b)).map D.str)],by simp[Ex.words],clS _,q,.inr ⟨_,rfl,AAE _,by rw[Bs];simp[Ex.words]⟩⟩
end
section
variable{Z:Mh}{B:Sl}{QD:D->Mh->Prop}{QS:Fl×Sl->Mh->Prop}{x w:Str}
noncomputable def fl:List (D×List Str)->List Str
 |[]=>[]
 |a::l=>a.2++fl l
theorem Q0:∀a b:List (D×List Str),fl (a++b)=fl a++fl b
 |[],b=>rfl
 |x::a,b=>by show x.2++fl (a++b)=_;rw[Q0 a b];simp[fl]
noncomputable abbrev shB:Sl->M (Fl×Sl):=Ag (A3 MH (AD 1) (AC (AF (B7 6) (AC (AD 2) AI)) AI))
theorem K2(h:∀a∈xs,Dq 6 a.1 a.2)(hl:ws0.length+(fl xs).length<=1000)(q:∀o',QS (.next,[some t,some (.ref Z.length),o']) (Z++[.lst ((ws0++fl xs).map D.str)])):
  WP (BR (AR 2) shB (xs.map (·.1)) [some t,some (.ref Z.length),o]) (Z++[.lst (ws0.map D.str)]) QS:=by
 refine Ev (I:=λrest B ν=>∃(done todo:List (D×List Str)) (o':Option D),done++todo=xs/\rest=todo.map (·.1)/\B=[some t,some (.ref Z.length),o']/\ν=Z++[.lst ((ws0++fl done).map D.str)]) ?_ ?_ ⟨[],xs,o,rfl,rfl,rfl,by simp[fl]⟩
 ·rintro y ys B ν ⟨done,todo,o',e,er,rfl,rfl⟩;cases todo with
  |nil=>cases er
  |cons a todo=>
   obtain⟨rfl,rfl⟩:=List.cons.inj er;have ha:a∈xs:=by rw[←e];simp
   refine A5 (BY (KB (gs:=Z) rfl ?_));wtm_at "a";refine h a ha _ _ ?_;refine AN ⟨_,rfl,rfl,?_,BV ⟨done++[a],todo,_,by rw[←e];simp,rfl,rfl,by rw[Q0];simp[fl]⟩⟩;have e2:fl xs=fl done++(a.2++fl todo):=by rw[←e,Q0];rfl
   rw[e2,AAG,AAG] at hl;rw[AAF,AAG,AAF];omega
 ·rintro B ν ⟨done,todo,o',e,er,rfl,rfl⟩;cases todo with
  |cons a todo=>cases er
  |nil=>
   rw[AAY] at e;subst e;exact q o'
theorem C3(hw:PyData.strOk w=true)(hu:(w==("unless" : Str))=false)(h:∀a∈xs,Dq 6 a.1 a.2)(hg:∀u∈w::fl xs,Gw u)(hl:(fl xs).length<=100)(q:QD (.str (ln (w::fl xs))) Z):WP (Bq [.tup (.str w::xs.map (·.1))]) Z QD:=by
 unfold Bq;refine Fy rfl ?_;unfold Gk;wtm_at "a";refine DI 1 rfl (by simp) ?_;wtm_at "a";refine Kk hw hu ?_;wtm_at "a";refine K2 (ws0:=[w]) h (by rw[List.length_singleton];omega) λo'=>?_;refine AS (Cc (EN (y := " ") (Az ⟨rfl,?_⟩)));wtm_at "a";refine Kh (ws:=w::fl xs) ?_ hg (by rw[AAH];omega) ?_
 ·show (match (Z++[MO.lst (([w]++fl xs).map D.str)])[Z.length]? with|some (.lst ds')=>some (ds',Z++[MO.lst (([w]++fl xs).map D.str)])|_=>none)=_;rw[Bs];rfl
 ·exact⟨_,_,_,rfl,rfl,by simp[Cl],q⟩
theorem TL(he:Ex.Rd 5 e)(h0:0<=t)(h1:t<1000)(q:QD (.str (ln ("unless" :: toS t::Ex.words e))) Z):WP (Bq [.tup [.str "unless",e.toD,.int t]]) Z QD:=by
 have l5:=Dk he;unfold Bq;refine Fy rfl ?_;unfold Gk;wtm_at "a";refine DI 1 rfl (by simp) ?_;wtm_at "a";refine Kj ?_;wtm_at "a";refine K2 (ws0:=["unless"]) (xs:=[(.int t,[toS t]),(e.toD,Ex.words e)]) (λa ha=>?_) (by simp[fl];omega) λo'=>?_
 ·rcases AAI.mp ha with rfl|ha
  ·exact F0 h0 h1
  ·rw[AAK] at ha;subst ha;exact F1 5 6 e (by decide) (by decide) he
 refine AS (Cc (EN (y := " ") (Az ⟨rfl,?_⟩)));wtm_at "a";refine Kh (ws := "unless" :: toS t::Ex.words e) ?_ (JP (r:=.unless e t) ⟨he,h0,h1⟩) (by simp;omega) ?_
 ·show (match (Z++[MO.lst (_)])[Z.length]? with|some (.lst ds')=>some (ds',Z++[MO.lst (_)])|_=>none)=_;rw[Bs];simp[fl]
 ·exact⟨_,_,_,rfl,rfl,by simp[Cl],q⟩
theorem FP(h:Dq 6 d ws):∀a∈[(d,ws)],Dq 6 a.1 a.2:=λa ha=>by rw[AAK] at ha;subst ha;exact h
theorem EB(h:Dq 6 d ws)(hl:∀a∈l,Dq 6 a.1 a.2):∀a∈(d,ws)::l,Dq 6 a.1 a.2:=λa ha=>by
 rcases AAI.mp ha with rfl|ha
 ·exact h
 ·exact hl a ha
theorem YE:∀a∈([]:List (D×List Str)),Dq 6 a.1 a.2:=λ_ z=>nomatch z
theorem TM(h:Rw.Rd r)(q:QD (.str (ln (Rw.ws r))) Z):WP (Bq [r.toD]) Z QD:=by
 have hg:=JP h;have hl:=KI h;cases r with
 |put bx e=>exact C3 (xs:=[(.str bx,[bx]),(e.toD,Ex.words e)]) (by decide +kernel) (by decide +kernel) (EB Ef (FP (F1 5 6 e (by decide) (by decide) h.2))) (by simpa[Rw.ws,fl] using hg) (by simp[Rw.ws,fl] at hl ⊢;omega) (by simpa[Rw.ws,fl] using q)
 |get x bx=>exact C3 (xs:=[(.str x,[x]),(.str bx,[bx])]) (by decide +kernel) (by decide +kernel) (EB Ef (FP Ef)) (by simpa[Rw.ws,fl] using hg) (by simp[fl]) (by simpa[Rw.ws,fl] using q)
 |letr x e=>exact C3 (xs:=[(.str x,[x]),(e.toD,Ex.words e)]) (by decide +kernel) (by decide +kernel) (EB Ef (FP (F1 5 6 e (by decide) (by decide) h.2))) (by simpa[Rw.ws,fl] using hg) (by simp[Rw.ws,fl] at hl ⊢;omega) (by simpa[Rw.ws,fl] using q)
 | «unless» e t=>exact TL h.1 h.2.1 h.2.2 q
 |jump t=>exact C3 (xs:=[(.int t,[toS t])]) (by decide +kernel) (by decide +kernel) (FP (F0 h.1 h.2)) (by simpa[Rw.ws,fl] using hg) (by simp[fl]) (by simpa[Rw.ws,fl] using q)
 |tell e=>exact C3 (xs:=[(e.toD,Ex.words e)]) (by decide +kernel) (by decide +kernel) (FP (F1 5 6 e (by decide) (by decide) h)) (by simpa[Rw.ws,fl] using hg) (by simp[Rw.ws,fl] at hl ⊢;omega) (by simpa[Rw.ws,fl] using q)
 |done=>exact C3 (xs:=[]) (by decide +kernel) (by decide +kernel) YE (by simpa[Rw.ws,fl] using hg) (by simp[fl]) (by simpa[Rw.ws,fl] using q)
theorem TN(h:FY m.kd m.sz m.bg)(q:QD (.str (ln (Mk.ws m))) Z):WP (Bq [.tup [.str "makes",.str m.kd,.int m.sz,.int m.bg]]) Z QD:=
 C3 (xs:=[(.str m.kd,[m.kd]),(.int m.sz,[toS m.sz]),(.int m.bg,[toS m.bg])]) (by decide +kernel) (by decide +kernel) (EB Ef (EB (F0 (by have:=h.2.1;omega) (by have:=h.2.2.1;omega)) (FP (F0 h.2.2.2.1 (by have:=h.2.2.1;have:=h.2.2.2.2;omega))))) (by simpa[Mk.ws,fl] using Mr h) (by simp[fl]) (by simpa[Mk.ws,fl] using q)
theorem TR(h1:GoodName b.nm)(h:FY b.kd b.sz b.bg)(h2:GoodName b.wr)(q:QD (.str (ln (Bx.ws b))) Z):WP (Bq [.tup [.str "box",.str b.nm,.str b.kd,.int b.sz,.int b.bg,.str b.wr]]) Z QD:=
 C3 (xs:=[(.str b.nm,[b.nm]),(.str b.kd,[b.kd]),(.int b.sz,[toS b.sz]),(.int b.bg,[toS b.bg]),(.str b.wr,[b.wr])]) (by decide +kernel) (by decide +kernel) (EB Ef (EB Ef (EB (F0 (by have:=h.2.1;omega) (by have:=h.2.2.1;omega)) (EB (F0 h.2.2.2.1 (by have:=h.2.2.1;have:=h.2.2.2.2;omega)) (FP Ef))))) (by simpa[Bx.ws,fl] using NG h1 h h2) (by simp[fl]) (by simpa[Bx.ws,fl] using q)
theorem TQ(h1:GoodName h.nm)(h2:0<=h.wi)(h3:h.wi<=400)(q:QD (.str (ln (Hd.ws h))) Z):WP (Bq [.tup [.str "hand",.str h.nm,.int h.wi]]) Z QD:=
 C3 (xs:=[(.str h.nm,[h.nm]),(.int h.wi,[toS h.wi])]) (by decide +kernel) (by decide +kernel) (EB Ef (FP (F0 h2 (by omega)))) (by simpa[Hd.ws,fl] using My h1 h2 h3) (by simp[fl]) (by simpa[Hd.ws,fl] using q)
end
theorem Ws(h:∀w∈ws,Gw w):(ln ws).length<=ws.length * 9:=by
 unfold ln;rw[O0];exact Lf (B_:=8) λw hw=>(h w hw).le
noncomputable def Q9(b:Bx):D×Str:=(.tup [.str "box",.str b.nm,.str b.kd,.int b.sz,.int b.bg,.str b.wr],ln (Bx.ws b))
noncomputable def UG(h:Hd):D×Str:=(.tup [.str "hand",.str h.nm,.int h.wi],ln (Hd.ws h))
noncomputable def Qi(r:Rw):D×Str:=(r.toD,ln (Rw.ws r))
noncomputable def Tz(m:Mk):D×Str:=(.tup [.str "makes",.str m.kd,.int m.sz,.int m.bg],ln (Mk.ws m))
noncomputable def D6:List Hd->List (D×Str)
 |[]=>[]
 |h::hs=>UG h::(h.rs.map Qi++D6 hs)
noncomputable def GJ(m:Mk):List (D×Str):=Tz m::(m.bs.map Q9++D6 m.hs)
noncomputable def Bo(m:Mk):List Str:=(GJ m).map (·.2)
theorem Li:∀a b:List Hd,D6 (a++b)=D6 a++D6 b
 |[],b=>rfl
 |h::a,b=>by
  show UG h::(h.rs.map Qi++D6 (a++b))=_;rw[Li a b];simp[D6]
theorem Pe:∀hs:List Hd,(∀h∈hs,h.rs.length<=60)->(D6 hs).length<=hs.length * 61
 |[],_=>AAi _
 |h::hs,hr=>by
  have h1:=hr h AAP;have h2:=Pe hs λq hq=>hr q (AAQ _ hq);show (UG h::(h.rs.map Qi++D6 hs)).length<=_;rw[AAH,AAG,AAF,AAH,Nat.add_mul];omega
structure Mk.Rd(m:Mk):Prop where
 ok:m.Ok
 wr:∀b∈m.bs,GoodName b.wr
 rows:∀h∈m.hs,∀r∈h.rs,Rw.Rd r
theorem Ll{wr:Bool}:∀(k:Nat) (e:Ex),e.Ok k->(∀x∈e.vars,TD wr x)->Ex.Rd k e
 |0,_,h,_=>h
 |k+1,.num i,h,_=>h
 |k+1,.var x,h,hv=>⟨h,(hv x (by simp[Ex.vars])).2.1⟩
 |k+1,.neg e,h,hv=>Ll k e h hv
 |k+1,.pair w a b,h,hv=>⟨h.1,Ll k a h.2.1 λx hx=>hv x (by simp[Ex.vars,hx]),Ll k b h.2.2 λx hx=>hv x (by simp[Ex.vars,hx])⟩
theorem bB{L:List (Key×D)}{nm:Str}{wr:Bool}{l:Nat}{r:Rw}(hl:l<=60)(h:r.Ok L nm wr l):Rw.Rd r:=by
 have hf:=h.form;have hv:=h.vars;cases r with
 |put bx e=>exact⟨hf.1,Ll 5 e hf.2 hv⟩
 |get x bx=>exact hf
 |letr x e=>exact⟨hf.1,Ll 5 e hf.2 λy hy=>hv y (by simp[Rw.vars,hy])⟩
 | «unless» e t=>exact⟨Ll 5 e hf.1 hv,hf.2.1,by have:=hf.2.2;omega⟩
 |jump t=>exact⟨hf.1,by have:=hf.2;omega⟩
 |tell e=>exact Ll 5 e hf hv
 |done=>trivial
theorem fS{m:Mk}(h:m.Ok):Mk.Rd m:=⟨h,λb hb=>by
 have:=h.writers b hb;rw[AAL] at this;obtain⟨q,hq,e⟩:=this;rw[←e];exact(h.hands q hq).1,λq hq r hr=>by
 obtain⟨i,e⟩:=List.mem_iff_getElem?.mp hq;exact bB (h.hands q hq).2.2.2 (h.rows i q e r hr)⟩
theorem LC{m:Mk}(h:m.Ok):(GJ m).length<=251:=by
 have h1:=h.most;have h2:=Pe m.hs λq hq=>(h.hands q hq).2.2.2;have h3:=h.mosth;show (Tz m::(m.bs.map Q9++D6 m.hs)).length<=251;rw[AAH,AAG,AAF];omega
section
variable{Z:Mh}{B:Sl}{QD:D->Mh->Prop}{ds:List D}
def OU(a:D×Str):Prop:=(a.2.length<=300/\HZ 10 a.2)/\∀(Z:Mh) (QD:D->Mh->Prop),QD (.str a.2) Z->WP (Bq [a.1]) Z QD
theorem fU{ws:List Str}(h:∀w∈ws,Gw w):HZ 10 (ln ws):=by
 unfold ln;rw[O0];exact M4 (by decide) λw hw=>(h w hw).nl
theorem Ry{ws:List Str}(h:∀w∈ws,Gw w)(hl:ws.length<=33):(ln ws).length<=300/\HZ 10 (ln ws):=⟨by have:=Ws h;omega,fU h⟩
theorem a9{r:Rw}(h:Rw.Rd r):OU (Qi r):=⟨Ry (JP h) (KI h),λZ QD q=>TM h q⟩
theorem VZ{m:Mk}(h:Mk.Rd m):∀a∈GJ m,OU a:=by
 intro a ha;have hh:∀hs:List Hd,(∀q∈hs,q∈m.hs)->∀a∈D6 hs,OU a:=λhs=>by
  induction hs with
  |nil=>intro _ a ha;cases ha
  |cons q hs ih=>
   intro hq a ha;have hm:=hq q AAP;have ok:=h.ok.hands q hm;rcases AAI.mp ha with rfl|ha
   ·exact⟨Ry (My ok.1 ok.2.1 ok.2.2.1) (by simp[Hd.ws]),λZ QD z=>TQ ok.1 ok.2.1 ok.2.2.1 z⟩
   ·rcases AAJ.mp ha with ha|ha
    ·rw[AAL] at ha;obtain⟨r,hr,rfl⟩:=ha;exact a9 (h.rows q hm r hr)
    ·exact ih (λz hz=>hq z (AAQ _ hz)) a ha
 rcases AAI.mp ha with rfl|ha
 ·exact⟨Ry (Mr h.ok.worth) (by simp[Mk.ws]),λZ QD z=>TN h.ok.worth z⟩
 ·rcases AAJ.mp ha with ha|ha
  ·rw[AAL] at ha;obtain⟨b,hb,rfl⟩:=ha;have ok:=h.ok.boxes b hb;exact⟨Ry (NG ok.1 ok.2 (h.wr b hb)) (by simp[Bx.ws]),λZ QD z=>TR ok.1 ok.2 (h.wr b hb) z⟩
  ·exact hh m.hs (λ_ z=>z) a ha
theorem Q7{n:Nat}{ν:Mh}(h:ν[n]?=some (.lst ds)):NQ (.ref n) ν=some (ds,ν):=by
 show (match ν[n]? with|some (.lst ds)=>some (ds,ν)|_=>none)=_;rw[h]
theorem Xp{φ:List D->M D}(h:WP (φ ds) Z λd ν=>ν=Z/\QD d Z):WP (LP φ ds) Z QD:=by
 obtain⟨d,ν,e,rfl,q⟩:=h;refine⟨d,_,?_,q⟩;unfold LP;rw[e];dsimp only;rw[if_pos rfl]
theorem Xq{gs:Mh}{i:Nat}{ra:Sl->M (List D)}(ht:B[i]?=some (some (.ref gs.length)))(h:WP (ra B) (gs++[.lst ds]) λes w9=>∃zs,es=[.tup zs]/\w9=gs++[.lst ds]/\ds.length+zs.length<=1000000/\QD .non (gs++[.lst (ds++zs)])):WP (A3 Sv (AD i) ra B) (gs++[.lst ds]) QD:=by
 unfold A3;refine AX (AK ht (AX ⟨(),_,Fo (Bs _ _),AX (Ai h ?_)⟩));rintro es w9 ⟨zs,rfl,rfl,hl,q⟩;refine An (a:=.non) (Z':=gs++[.lst (ds++zs)]) ?_ q;show Ew gs.length (λds=>if ds.length+zs.length<=sizeLine then some (.non,ds++zs) else none) (gs++[.lst ds])=_;unfold Ew;rw[Bs];dsimp only;rw[if_pos (by rw[sizeLine_eq];omega)];simp
theorem Oa{ls:List Str}{d:D}(hd:B0 d Z=some (ls.map D.str,Z))(h:∀l∈ls,l.length<=300)(hl:ls.length<=1000)(q:QD (.str (tx ls)) Z):WP (F8 (.str "\n") [d]) Z QD:=by
 unfold tx at q;rw[Wj] at q ⊢;exact Rj (B_:=300) hd h (by rw[sizeLine_eq];omega) q
theorem Uv{m:Mk}(h:Mk.Rd m)(q:QD (.str (tx (Bo m))) Z):WP (Dg [m.toD]) Z QD:=by
 have hs:=VZ h;have hl:=LC h.ok;have hb6:=h.ok.most;unfold Dg;refine Fy rfl ?_;unfold Gm Mk.toD;refine Af (A6 ?_);wtm_at "a";refine Kg 3 rfl ?_;refine HF (ds:=[]) (by simp) ?_;wtm_at "a";refine Ev (I:=λrest B ν=>∃(done todo:List Bx) (o:Option D),done++todo=m.bs/\rest=todo.map Bx.toD/\B=[some m.toD,some (.ref Z.length),o,none]/\ν=Z++[.lst (((Tz m::done.map Q9)).map (·.1))]) ?_ ?_ ⟨[],m.bs,none,rfl,rfl,rfl,rfl⟩
 ·rintro y ys B ν ⟨done,todo,o,e,er,rfl,rfl⟩;cases todo with
  |nil=>cases er
  |cons b todo=>
   obtain⟨rfl,rfl⟩:=List.cons.inj er;have hlen:=congrArg List.length e;rw[AAG,AAH] at hlen;refine A5 (BY (HI (gs:=Z) rfl (by rw[sizeLine_eq];simp;omega) ?_));unfold Bx.toD;wtm_at "a";refine HF (ds:=[]) (by simp) ?_;refine AN ⟨Z,_,rfl,rfl,rfl,BV ⟨done++[b],todo,_,by rw[←e];simp,rfl,rfl,by simp[Q9]⟩⟩
 ·rintro B ν ⟨done,todo,o,e,er,rfl,rfl⟩;cases todo with
  |cons b todo=>cases er
  |nil=>
   rw[AAY] at e;subst e;refine AS (Af (Fx ?_));unfold Mk.toD;wtm_at "a";refine Ev (I:=λrest B ν=>∃(done todo:List Hd) (o':Option D),done++todo=m.hs/\rest=todo.map Hd.toD/\B=[some m.toD,some (.ref Z.length),o,o']/\ν=Z++[.lst (((Tz m::(m.bs.map Q9++D6 done))).map (·.1))]) ?_ ?_ ⟨[],m.hs,none,rfl,rfl,rfl,by simp[D6]⟩
   ·rintro y ys B ν ⟨done,todo,o',e,er,rfl,rfl⟩;cases todo with
    |nil=>cases er
    |cons q todo=>
     obtain⟨rfl,rfl⟩:=List.cons.inj er;have hdl:(D6 done).length+(1+q.rs.length+(D6 todo).length)<=251:=by
      have:(GJ m).length=1+(m.bs.length+(D6 (done++q::todo)).length):=by rw[e];simp[GJ];omega
      rw[Li] at this;simp[D6] at this;omega
     refine A5 (Af (BY (HI (gs:=Z) rfl (by rw[sizeLine_eq];simp;omega) ?_)));unfold Hd.toD;wtm_at "a";refine Kg 2 rfl ?_;refine HF (ds:=[]) (by simp) ?_;refine AN ⟨Z,_,rfl,rfl,rfl,AS (BY (Xq (gs:=Z) rfl ?_))⟩;wtm_at "a";refine⟨_,rfl,rfl,by simp;omega,BV ⟨done++[q],todo,_,by rw[←e];simp,rfl,rfl,?_⟩⟩;rw[Li];simp[D6,UG,Qi,Function.comp_def]
   ·rintro B ν ⟨done,todo,o',e,er,rfl,rfl⟩;cases todo with
    |cons b todo=>cases er
    |nil=>
     rw[AAY] at e;subst e;have hrows:Tz m::(m.bs.map Q9++D6 m.hs)=GJ m:=rfl;rw[hrows];refine AS (Cc (EN (y := "\n") (Az ⟨rfl,AL (Cd ?_)⟩)));refine AX (AK rfl ⟨(GJ m).map (·.1),Z++[.lst ((GJ m).map (·.1))],?_,by rw[AAF,sizeLine_eq];omega,?_⟩)
     ·exact Q7 (Bs _ _)
     ·refine Ch (λa:D×Str=>a.1) (λ_=>true) (λa=>D.str a.2) (λa ha=>A5 ⟨rfl,Cb ⟨rfl,rfl,λ_=>?_⟩⟩) ?_
      ·refine AU (AL (AK rfl (AN (Xp ?_))));exact(hs a ha).2 _ _ ⟨rfl,rfl,rfl⟩
      ·rw[fil];refine A0 (by rw[AAF,sizeLine_eq];omega) (AN ?_);refine Oa (ls:=Bo m) (by show some ((GJ m).map (λa=>D.str a.2),_)=_;simp[Bo,Function.comp_def]) (λl hl=>?_) (by simp[Bo];omega) ?_
       ·unfold Bo at hl;rw[AAL] at hl;obtain⟨a,ha,rfl⟩:=hl;exact(hs a ha).1.1
       ·exact⟨_,_,_,rfl,rfl,by simp[Cl],q⟩
end
section
variable{Z ν:Mh}{B:Sl}{QD:D->Mh->Prop}{QS:Fl×Sl->Mh->Prop}{ds bs hs:List D}{ps qs:List (List D)}{made y:D}{p:List D}
theorem Fd(hl:Nat.beq ds.length n=true)(h:WP (mb (BI N ds)) Z λr x6=>∃x8,r=(.next,x8)/\QD .non x6):WP (Cj .all N n mb ds) Z QD:=by
 obtain⟨r,x6,e,x8,rfl,q⟩:=h;refine An (a:=.non) (Z':=x6) ?_ q;unfold Cj;rw[hl,e];rfl
theorem IT(h:WP (mv B) Z λy w9=>WP (mo B) w9 λx x6=>∃n l,x=.ref n/\x6[n]?=some (.ins c l)/\l.length<1000/\QS (.next,B) (x6.set n (.ins c (GO f y l)))):WP (Jq c f mo mv B) Z QS:=by
 unfold Jq;refine AX (Ai h λy w9 z=>AX (Ai z λx x6 ⟨n,l,e,h1,h2,q⟩=>?_));subst e;refine AX ⟨(n,l),x6,?_,?_⟩
 ·unfold Lz;dsimp only;rw[h1];exact if_pos rfl
 ·exact⟨_,_,if_pos h2,q⟩
theorem Ug(h:WP (φ (.ref Z.length::ds)) (Z++[.ins c []]) λd Z'=>d=.non/\QD (.ref Z.length) Z'):WP (LU c φ ds) Z QD:=by
 obtain⟨d,Z',e,rfl,q⟩:=h;refine⟨_,Z',?_,q⟩;unfold LU;rw[e]
theorem IV(ho:WP (mo B) ν λd k9=>d=.ref j/\k9=ν)(h:ν[j]?=some (.lst ds))(hl:ds.length<1000000)(ha:WP (ra B) ν λes j6=>∃y,es=[y]/\j6[j]?=some (.lst ds)/\QD .non (j6.set j (.lst (ds++[y])))):WP (A3 C9 mo ra B) ν QD:=by
 unfold A3;refine AX (Ai ho λd k9 ⟨e1,e2⟩=>?_);subst e1 e2;refine AX ⟨(),_,Fo h,AX (Ai ha λes j6 ⟨y,e,h2,q⟩=>?_)⟩;subst e;refine An (a:=.non) (Z':=j6.set j (.lst (ds++[y]))) ?_ q;show Ew j (λds=>if ds.length<sizeLine then some (.non,ds++[y]) else none) j6=_;unfold Ew;rw[h2];dsimp only;rw[if_pos (by rw[sizeLine_eq];omega)];rfl
noncomputable def HX(n k:Nat):List D:=(List.range k).map λi=>D.ref (n+4+i)
noncomputable abbrev rdF(n:Nat)(made:D):List (Str×D):=[("made",made),("boxes",.ref (n+1)),("hands",.ref (n+2)),("programs",.ref (n+3))]
noncomputable abbrev RH(Z:Mh)(made:D)(bs hs:List D)(ps:List (List D)):Mh:=Z++(.ins "Reading" (rdF Z.length made)::.lst bs::.lst hs::.lst (HX Z.length ps.length)::ps.map MO.lst)
theorem Mb(l:Mh)(i:Nat):(Z++l)[Z.length+i]?=l[i]?:=by rw[AAR (by omega)];congr 1;omega
theorem LF(l:Mh)(i:Nat)(o:MO):(Z++l).set (Z.length+i) o=Z++l.set i o:=by rw[AAe _ _ (by omega)];congr 2;omega
theorem Hy:(RH Z made bs hs ps)[Z.length]?=some (.ins "Reading" (rdF Z.length made)):=Mb _ 0
theorem YV:(RH Z made bs hs ps)[Z.length+1]?=some (.lst bs):=Mb _ 1
theorem Qh:(RH Z made bs hs ps)[Z.length+2]?=some (.lst hs):=Mb _ 2
theorem Vt:(RH Z made bs hs ps)[Z.length+3]?=some (.lst (HX Z.length ps.length)):=Mb _ 3
theorem bE:(RH Z made bs hs (qs++[p]))[Z.length+4+qs.length]?=some (.lst p):=by
 rw[show Z.length+4+qs.length=Z.length+(qs.length+4) from by omega,Mb];simp
theorem eF:(RH Z made bs hs ps).set Z.length (.ins "Reading" (GO "made" d (rdF Z.length made)))=RH Z d bs hs ps:=LF _ 0 _
theorem eJ:(RH Z made bs hs ps).set (Z.length+1) (.lst bs')=RH Z made bs' hs ps:=LF _ 1 _
theorem eG:(RH Z made bs hs ps).set (Z.length+2) (.lst hs')=RH Z made bs hs' ps:=LF _ 2 _
theorem Vu:(RH Z made bs hs ps).length=Z.length+4+ps.length:=by simp;omega
theorem Md(n k:Nat):HX n (k+1)=HX n k++[.ref (n+4+k)]:=by unfold HX;rw[List.range_succ];simp
theorem bF:(RH Z made bs hs ps++[MO.lst []]).set (Z.length+3) (.lst (HX Z.length ps.length++[D.ref (Z.length+4+ps.length)]))=RH Z made bs hs (ps++[[]]):=by
 rw[←Md,AAk,LF];simp
theorem eE:(RH Z made bs hs (qs++[p])).set (Z.length+4+qs.length) (.lst p')=RH Z made bs hs (qs++[p']):=by
 rw[show Z.length+4+qs.length=Z.length+(qs.length+4) from by omega,LF];simp
theorem Me(n:Nat):atI (HX n ((qs++[p]).length)) (-1)=some (.ref (n+4+qs.length)):=by
 rw[AAG,List.length_singleton,Md];have hl:(HX n qs.length).length=qs.length:=by simp[HX]
 unfold atI;have:ixN (HX n qs.length++[D.ref (n+4+qs.length)]).length (-1)=some qs.length:=by
  rw[AAG,hl];unfold ixN;simp;omega
 rw[this];show (HX n qs.length++[D.ref (n+4+qs.length)])[qs.length]?=_;rw[AAR (by omega),hl];simp
theorem pf0(d:D):GO "made" d []=[(("made" : Str),d)]:=rfl
theorem pf1(x d:D):GO "boxes" d [(("made" : Str),x)]=[(("made" : Str),x),("boxes",d)]:=by kernel_rfl
theorem pf2(x y d:D):GO "hands" d [(("made" : Str),x),("boxes",y)]=[(("made" : Str),x),("boxes",y),("hands",d)]:=by kernel_rfl
theorem pf3(x y z d:D):GO "programs" d [(("made" : Str),x),("boxes",y),("hands",z)]=[(("made" : Str),x),("boxes",y),("hands",z),("programs",d)]:=by kernel_rfl
theorem X5(q:QD (.ref Z.length) (RH Z .non [] [] [])):WP (LU "Reading" Cg []) Z QD:=by
 refine Ug ?_;unfold Cg;refine Fd rfl ?_;unfold FB;have a0:∀(l:Mh) (o:MO),(Z++o::l)[Z.length]?=some o:=λl o=>by rw[AAR (AAE _)];simp
 have s0:∀(l:Mh) (o o':MO),(Z++o::l).set Z.length o'=Z++o'::l:=λl o o'=>by rw[AAe _ _ (AAE _)];simp
 refine Af (IT (Az (AK rfl ⟨_,_,rfl,a0 _ _,by simp,?_⟩)));rw[s0,pf0];refine AS (Af (IT (AU (AN (Fv (by simp) (AK rfl ?_))))));rw[AAk];refine⟨_,_,rfl,a0 _ _,by simp,?_⟩;rw[List.singleton_append,s0,pf1];refine AS (Af (IT (AU (AN (Fv (by simp) (AK rfl ?_))))));rw[AAk];refine⟨_,_,rfl,a0 _ _,by simp,?_⟩;rw[List.cons_append,s0,pf2];refine AS (IT (AU (AN (Fv (by simp) (AK rfl ?_)))));rw[AAk];refine⟨_,_,rfl,a0 _ _,by simp,?_⟩;rw[List.cons_append,s0,pf3];refine⟨_,rfl,rfl,?_⟩;simp;exact q
end
section
variable{Z ν:Mh}{QD:D->Mh->Prop}{ds bs hs:List D}{ps qs:List (List D)}{made:D}{p:List D}{w:Str}
theorem Ui(q:QD (.ref (Z.length+1)) (RH Z made bs hs ps)):WP (FE "Reading" "boxes" (.ref Z.length)) (RH Z made bs hs ps) QD:=KD Hy (by kernel_rfl) q
theorem MN(q:QD (.ref (Z.length+2)) (RH Z made bs hs ps)):WP (FE "Reading" "hands" (.ref Z.length)) (RH Z made bs hs ps) QD:=KD Hy (by kernel_rfl) q
theorem RX(q:QD (.ref (Z.length+3)) (RH Z made bs hs ps)):WP (FE "Reading" "programs" (.ref Z.length)) (RH Z made bs hs ps) QD:=KD Hy (by kernel_rfl) q
theorem Ob(q:QD made (RH Z made bs hs ps)):WP (FE "Reading" "made" (.ref Z.length)) (RH Z made bs hs ps) QD:=KD Hy (by kernel_rfl) q
theorem VX(q:QD (.bl true) (RH Z .non bs hs ps)):WP (Ao [.ref Z.length,.str "makes"]) (RH Z .non bs hs ps) QD:=by
 unfold Ao;refine Aw rfl ?_;unfold Bn;refine Af (BQ (Am (Ae (AK rfl (Az ?_)))));wtm_at "a";refine Ob ?_;wtm_at "a";exact⟨_,_,rfl,q⟩
theorem a7(hb:bs.length<6)(q:QD (.bl true) (RH Z (.tup ms) bs [] ps)):WP (Ao [.ref Z.length,.str "box"]) (RH Z (.tup ms) bs [] ps) QD:=by
 unfold Ao;refine Aw rfl ?_;unfold Bn;refine Af (BQ (Am (Ae (AK rfl (Az ?_)))));refine BX (by decide +kernel) (by decide +kernel) (by decide +kernel) (Bl (A9 (CO (AS (Af (BQ (Am (Ae (Ds (AK rfl (Ob ?_)))))))))));wtm_at "a";refine MN (AN (D9 Qh ?_));wtm_at "a";refine Ui (AN (D9 YV ?_));refine Az (KC (by show (bs.length:Int)<6;omega) ⟨_,_,rfl,q⟩)
theorem YH(hb:hs.length<4)(q:QD (.bl true) (RH Z (.tup ms) bs hs ps)):WP (Ao [.ref Z.length,.str "hand"]) (RH Z (.tup ms) bs hs ps) QD:=by
 unfold Ao;refine Aw rfl ?_;unfold Bn;refine Af (BQ (Am (Ae (AK rfl (Az ?_)))));refine BX (by decide +kernel) (by decide +kernel) (by decide +kernel) (Bl (A9 (CO (AS (Af (BQ (Am (Ae (Ds (AK rfl (Ob ?_)))))))))));wtm_at "a";refine MN (AN (D9 Qh ?_));refine Az (KC (by show (hs.length:Int)<4;omega) (Fz ⟨_,_,rfl,q⟩))
theorem Uh(h:ν[n]?=some (.lst ds))(hi:atI ds i=some d)(q:QD d ν):WP (Aa (.ref n) (.int i)) ν QD:=by
 refine An (a:=d) (Z':=ν) ?_ q;show bnd (B0 (.ref n)) (λds=>ixD ds i) ν=_;rw[AV (show B0 (.ref n) ν=some (ds,ν) from by show (match ν[n]? with|some (.lst ds')=>some (ds',ν)|_=>none)=_;rw[h])];show (atI ds i).map _=_;rw[hi];rfl
theorem a6(h1:PyData.strOk w=true)(hw:w∉(["makes", "box", "hand"]:List Str))(hh:0<hs.length)(hp:p.length<60)(q:QD (.bl true) (RH Z (.tup ms) bs hs (qs++[p]))):WP (Ao [.ref Z.length,.str w]) (RH Z (.tup ms) bs hs (qs++[p])) QD:=by
 have n1:(w==("makes" : Str))=false:=by rw[AAd];exact λe=>hw (by simp[e])
 have n2:(w==("box" : Str))=false:=by rw[AAd];exact λe=>hw (by simp[e])
 have n3:(w==("hand" : Str))=false:=by rw[AAd];exact λe=>hw (by simp[e])
 unfold Ao;refine Aw rfl ?_;unfold Bn;refine Af (BQ (Am (Ae (AK rfl (Az ?_)))));refine BX h1 (by decide +kernel) n1 (Bl (A9 (CO (AS (Af (BQ (Am (Ae (Ds (AK rfl (Ob ?_)))))))))));wtm_at "a";refine BX h1 (by decide +kernel) n2 ?_;wtm_at "a";refine BX h1 (by decide +kernel) n3 ?_;wtm_at "a";refine MN (AN (D9 Qh ?_));refine Az (Rc (by omega) (MP ?_));refine Ae (AU (AL (Ae (Ds (AK rfl (RX (Ds (Az ⟨.int (-1),_,rfl,?_⟩))))))));refine Uh Vt (Me _) (AN (D9 bE (Az (KC (by show (p.length:Int)<60;omega) ⟨_,_,rfl,q⟩))))
theorem VR(hl:ms.length<=100)(q:QD .non (RH Z (.tup ms) bs hs ps)):WP (A7 [.ref Z.length,.tup (.str "makes" :: ms)]) (RH Z .non bs hs ps) QD:=by
 unfold A7;refine Fd rfl ?_;unfold Cw;refine BQ (Am (Ae (Ae (AK rfl (Az (wz_ix0T (Az ?_)))))));refine IY (by decide +kernel) (by decide +kernel) (by decide +kernel) (Bl (CF (IT ?_)));wtm_at "a";refine DI 1 rfl (by simp) (AK rfl ⟨_,_,rfl,Hy,by simp,?_⟩);rw[eF];exact⟨_,rfl,q⟩
theorem ak(hl:bs.length<=100)(q:QD .non (RH Z made (bs++[.tup b]) hs ps)):WP (A7 [.ref Z.length,.tup (.str "box" :: b)]) (RH Z made bs hs ps) QD:=by
 unfold A7;refine Fd rfl ?_;unfold Cw;refine BQ (Am (Ae (Ae (AK rfl (Az (wz_ix0T (Az ?_)))))));refine BX (by decide +kernel) (by decide +kernel) (by decide +kernel) (Bl (A9 ?_));refine BQ (Am (Ae (Ae (AK rfl (Az (wz_ix0T (Az ?_)))))));refine IY (by decide +kernel) (by decide +kernel) (by decide +kernel) (Bl (CF ?_));refine BY (IV (Ds (AK rfl (Ui ⟨rfl,rfl⟩))) YV (by omega) ?_);wtm_at "a";refine DI 1 rfl (by simp) (AN ⟨_,rfl,YV,?_⟩);rw[eJ];exact⟨_,rfl,q⟩
theorem YD(hl:hs.length<=100)(hp:ps.length<=100)(q:QD .non (RH Z made bs (hs++[.tup b]) (ps++[[]]))):WP (A7 [.ref Z.length,.tup (.str "hand" :: b)]) (RH Z made bs hs ps) QD:=by
 unfold A7;refine Fd rfl ?_;unfold Cw;refine BQ (Am (Ae (Ae (AK rfl (Az (wz_ix0T (Az ?_)))))));refine BX (by decide +kernel) (by decide +kernel) (by decide +kernel) (Bl (A9 ?_));refine BQ (Am (Ae (Ae (AK rfl (Az (wz_ix0T (Az ?_)))))));refine BX (by decide +kernel) (by decide +kernel) (by decide +kernel) (Bl (A9 ?_));refine BQ (Am (Ae (Ae (AK rfl (Az (wz_ix0T (Az ?_)))))));refine IY (by decide +kernel) (by decide +kernel) (by decide +kernel) (Bl (CF ?_));refine Af (BY (IV (Ds (AK rfl (MN ⟨rfl,rfl⟩))) Qh (by omega) ?_));wtm_at "a";refine DI 1 rfl (by simp) (AN ⟨_,rfl,Qh,?_⟩);rw[eG];refine AS (BY (IV (Ds (AK rfl (RX ⟨rfl,rfl⟩))) Vt (by simp[HX];omega) ?_));refine AL (AU (AN (Fv (by simp) (AN ⟨_,rfl,?_,?_⟩))))
 ·rw[AAS (by rw[Vu];omega)];exact Vt
 ·rw[Vu,bF];exact⟨_,rfl,q⟩
theorem aj(h1:PyData.strOk w=true)(hw:w∉(["makes", "box", "hand"]:List Str))(hl:p.length<=100)(q:QD .non (RH Z made bs hs (qs++[p++[.tup (.str w::r)]]))):WP (A7 [.ref Z.length,.tup (.str w::r)]) (RH Z made bs hs (qs++[p])) QD:=by
 have n1:(w==("makes" : Str))=false:=by rw[AAd];exact λe=>hw (by simp[e])
 have n2:(w==("box" : Str))=false:=by rw[AAd];exact λe=>hw (by simp[e])
 have n3:(w==("hand" : Str))=false:=by rw[AAd];exact λe=>hw (by simp[e])
 unfold A7;refine Fd rfl ?_;unfold Cw;refine BQ (Am (Ae (Ae (AK rfl (Az (wz_ix0T (Az ?_)))))));refine BX h1 (by decide +kernel) n1 (Bl (A9 ?_));refine BQ (Am (Ae (Ae (AK rfl (Az (wz_ix0T (Az ?_)))))));refine BX h1 (by decide +kernel) n2 (Bl (A9 ?_));refine BQ (Am (Ae (Ae (AK rfl (Az (wz_ix0T (Az ?_)))))));refine BX h1 (by decide +kernel) n3 (Bl (A9 ?_));refine BY (IV (j:=Z.length+4+qs.length) (Ae (Ds (AK rfl (RX (Ds (Az ⟨.int (-1),_,rfl,?_⟩)))))) bE (by omega) ?_)
 ·exact Uh Vt (Me _) ⟨rfl,rfl⟩
 ·refine AL (AK rfl (AN ⟨_,rfl,bE,?_⟩));rw[eE];exact⟨_,rfl,q⟩
end
section
variable{Z ν:Mh}{B:Sl}{QD:D->Mh->Prop}{QL:List D->Mh->Prop}{QS:Fl×Sl->Mh->Prop}{ds bs hs:List D}{ps qs:List (List D)}{made y d:D}{p:List D}{w l:Str}
noncomputable abbrev rmB:Sl->M (Fl×Sl):=(AT (A2 (AF Bh (AC (AD 4) AI)) (AR 5))
  (AT (sIf (mOr (AW (mOp (Fj false) (AD 5) (mC .non))) (HY (AW (F7 "Reading" "lets_stand" Ao (AD 2) (AC (mOp Aa (AD 5) (mC (.int 0))) AI))))) JM BC)
  (Ag (F7 "Reading" "take" A7 (AD 2) (AC (AD 5) AI)))))
theorem YO(hn:ν[n]?=some (.ins "Reading" fs))(hf1:fs.lookup ("lets_stand" : Str)=none)(hf2:fs.lookup ("take" : Str)=none)(hr:∀QD:D->Mh->Prop,QD (.tup (.str w::r)) ν->WP (Bh [.str l]) ν QD)(hs:∀QD:D->Mh->Prop,QD (.bl true) ν->WP (Ao [.ref n,.str w]) ν QD)
  (ht:∀QD:D->Mh->Prop,QD .non ν'->WP (A7 [.ref n,.tup (.str w::r)]) ν QD) (q:∀o3 o4 o5,WP (BR (DE [3,4]) rmB xs [t0,t1,some (.ref n),o3,o4,o5,o6]) ν' QS):WP (BR (DE [3,4]) rmB (.tup [.int k,.str l]::xs) [t0,t1,some (.ref n),o3,o4,o5,o6]) ν QS:=by
 refine DW (Fe ?_);wtm_at "a";refine hr _ ?_;wtm_at "a";refine Ki rfl hn hf1 ?_;wtm_at "a";refine hs _ ?_;wtm_at "a";refine Ki rfl hn hf2 ?_;wtm_at "a";refine ht _ ?_;exact BV (q _ _ _)
theorem Im(hr:∀(ν:Mh) (QD:D->Mh->Prop),QD (.tup (.str w::r)) ν->WP (Bh [.str l]) ν QD)(hst:∀QD:D->Mh->Prop,QD (.bl true) (RH Z made bs hs ps)->WP (Ao [.ref Z.length,.str w]) (RH Z made bs hs ps) QD)
  (ht:∀QD:D->Mh->Prop,QD .non (RH Z made' bs' hs' ps')->WP (A7 [.ref Z.length,.tup (.str w::r)]) (RH Z made bs hs ps) QD) (q:∀o3 o4 o5,WP (BR (DE [3,4]) rmB xs [t0,t1,some (.ref Z.length),o3,o4,o5,o6]) (RH Z made' bs' hs' ps') QS):WP (BR (DE [3,4]) rmB (.tup [.int k,.str l]::xs) [t0,t1,some (.ref Z.length),o3,o4,o5,o6]) (RH Z made bs hs ps) QS:=
 YO Hy (by kernel_rfl) (by kernel_rfl) (hr _) hst ht q
theorem O5:∀(todo:List Bx) (done:List D) (k:Nat) (o3 o4 o5:Option D),(∀b∈todo,GoodName b.nm/\FY b.kd b.sz b.bg/\GoodName b.wr)->done.length+todo.length<=6->
  (∀k o3 o4 o5,WP (BR (DE [3,4]) rmB (Dv k ls) [t0,t1,some (.ref Z.length),o3,o4,o5,o6]) (RH Z (.tup ms) (done++todo.map Bx.toD) [] []) QS)->
  WP (BR (DE [3,4]) rmB (Dv k (todo.map (λb=>D.str (ln (Bx.ws b)))++ls)) [t0,t1,some (.ref Z.length),o3,o4,o5,o6]) (RH Z (.tup ms) done [] []) QS
 |[],done,k,o3,o4,o5,_,_,q=>by
  have:=q k o3 o4 o5;rw[List.map_nil,AAY] at this;exact this
 |b::todo,done,k,o3,o4,o5,h,hl,q=>by
  obtain⟨h1,h2,h3⟩:=h b AAP;rw[AAH] at hl;refine Im (w := "box") (l:=ln (Bx.ws b)) (r:=[.str b.nm,.str b.kd,.int b.sz,.int b.bg,.str b.wr]) (made':=.tup ms) (bs':=done++[b.toD]) (hs':=[]) (ps':=[]) (λν QD z=>U6 h1 h2 h3 z) (λQD z=>a7 (by omega) z) (λQD z=>ak (by omega) z) λo3 o4 o5=>?_;refine O5 todo (done++[b.toD]) (k+1) o3 o4 o5 (λq hq=>h q (AAQ _ hq)) (by simp;omega) λk o3 o4 o5=>?_;have:=q k o3 o4 o5;rw[AAW] at this;simpa using this
theorem Vl{r:Rw}:∃w ds,r.toD=.tup (.str w::ds)/\PyData.strOk w=true/\w∉(["makes", "box", "hand"]:List Str):=by
 cases r with
 |put a b=>exact⟨_,_,rfl,by decide +kernel,by decide +kernel⟩
 |get a b=>exact⟨_,_,rfl,by decide +kernel,by decide +kernel⟩
 |letr a b=>exact⟨_,_,rfl,by decide +kernel,by decide +kernel⟩
 | «unless» a b=>exact⟨_,_,rfl,by decide +kernel,by decide +kernel⟩
 |jump a=>exact⟨_,_,rfl,by decide +kernel,by decide +kernel⟩
 |tell a=>exact⟨_,_,rfl,by decide +kernel,by decide +kernel⟩
 |done=>exact⟨_,_,rfl,by decide +kernel,by decide +kernel⟩
theorem SA{t0 t1 o6:Option D}(hh:0<hs.length):∀(todo:List Rw) (p:List D) (k:Nat) (o3 o4 o5:Option D),(∀r∈todo,Rw.Rd r)->p.length+todo.length<=60->
  (∀k o3 o4 o5,WP (BR (DE [3,4]) rmB (Dv k ls) [t0,t1,some (.ref Z.length),o3,o4,o5,o6]) (RH Z (.tup ms) bs hs (qs++[p++todo.map Rw.toD])) QS)->
  WP (BR (DE [3,4]) rmB (Dv k (todo.map (λr=>D.str (ln (Rw.ws r)))++ls)) [t0,t1,some (.ref Z.length),o3,o4,o5,o6]) (RH Z (.tup ms) bs hs (qs++[p])) QS
 |[],p,k,o3,o4,o5,_,_,q=>by
  have:=q k o3 o4 o5;rw[List.map_nil,AAY] at this;exact this
 |r::todo,p,k,o3,o4,o5,h,hl,q=>by
  obtain⟨w,rs,e,h1,h2⟩:=Vl (r:=r);have hr:=h r AAP;rw[AAH] at hl;refine Im (w:=w) (l:=ln (Rw.ws r)) (r:=rs) (made':=.tup ms) (bs':=bs) (hs':=hs) (ps':=qs++[p++[.tup (.str w::rs)]]) (λν QD z=>X0 hr (by rw[e];exact z)) (λQD z=>a6 (p:=p) h1 h2 hh (by omega) z) (λQD z=>aj (p:=p) h1 h2 (by omega) z) λo3 o4 o5=>?_;rw[←e];refine SA hh todo (p++[r.toD]) (k+1) o3 o4 o5 (λq hq=>h q (AAQ _ hq)) (by simp;omega) λk o3 o4 o5=>?_;have:=q k o3 o4 o5;rw[AAW] at this;simpa using this
theorem O4:∀(todo done:List Hd) (k:Nat) (o3 o4 o5:Option D),(∀h∈todo,GoodName h.nm/\0<=h.wi/\h.wi<=400/\h.rs.length<=60/\∀r∈h.rs,Rw.Rd r)->done.length+todo.length<=4->
  (∀o3 o4 o5,QS (.next,[t0,t1,some (.ref Z.length),o3,o4,o5,o6]) (RH Z (.tup ms) bs ((done++todo).map λh=>D.tup [.str h.nm,.int h.wi]) ((done++todo).map λh=>h.rs.map Rw.toD)))->
  WP (BR (DE [3,4]) rmB (Dv k ((D6 todo).map λa=>D.str a.2)) [t0,t1,some (.ref Z.length),o3,o4,o5,o6]) (RH Z (.tup ms) bs (done.map λh=>D.tup [.str h.nm,.int h.wi]) (done.map λh=>h.rs.map Rw.toD)) QS
 |[],done,k,o3,o4,o5,_,_,q=>by
  have:=q o3 o4 o5;rw[AAY] at this;exact IU this
 |h::todo,done,k,o3,o4,o5,hh,hl,q=>by
  obtain⟨h1,h2,h3,h4,h5⟩:=hh h AAP;rw[AAH] at hl;have e1:(D6 (h::todo)).map (λa=>D.str a.2)=D.str (ln (Hd.ws h))::(h.rs.map (λr=>D.str (ln (Rw.ws r)))++(D6 todo).map λa=>D.str a.2):=by simp[D6,UG,Qi]
  rw[e1];refine Im (w := "hand") (l:=ln (Hd.ws h)) (r:=[.str h.nm,.int h.wi]) (made':=.tup ms) (bs':=bs) (hs':=(done.map λh=>D.tup [.str h.nm,.int h.wi])++[.tup [.str h.nm,.int h.wi]]) (ps':=(done.map λh=>h.rs.map Rw.toD)++[[]]) (λν QD z=>U5 h1 h2 h3 z) (λQD z=>YH (by simp;omega) z) (λQD z=>YD (by simp;omega) (by simp;omega) z) λo3 o4 o5=>?_;refine SA (by simp) h.rs [] (k+1) o3 o4 o5 h5 (by simp;omega) λk o3 o4 o5=>?_;have ih:=O4 todo (done++[h]) k o3 o4 o5 (λq hq=>hh q (AAQ _ hq)) (by simp;omega) (λo3 o4 o5=>by
   have:=q o3 o4 o5;simpa using this)
  rw[AAX,AAX] at ih;exact ih
theorem Xr(h:WP (ra B) Z λas w9=>∃ds,as=[.lst ds]/\QL (Dv 0 ds) w9):WP (Sd ra B) Z QL:=by
 unfold Sd;refine AX (Ai h λas w9 ⟨ds,e,q⟩=>?_);subst e;exact AX ⟨ds,w9,rfl,BZ q⟩
theorem de:∀(hs:List Hd) (k:Nat),Fr (hs.map λh=>D.tup [.str h.nm,.int h.wi]) ((List.range' k hs.length).map λi=>D.ref (n+i))=(hs.zipIdx k).map λa=>D.tup [.tup [.str a.1.nm,.int a.1.wi],.ref (n+a.2)]
 |[],k=>rfl
 |h::hs,k=>by
  rw[AAH,List.range'_succ,AAW,AAW,List.zipIdx_cons,AAW,←de hs (k+1)];rfl
theorem eK(h:ps[i]?=some p):(RH Z made bs hs ps)[Z.length+4+i]?=some (.lst p):=by
 rw[show Z.length+4+i=Z.length+(i+4) from by omega,Mb];simp[h]
noncomputable abbrev hdD(h:Hd):D:=.tup [.str h.nm,.int h.wi]
noncomputable abbrev RM(Z:Mh)(m:Mk):Mh:=RH Z (.tup [.str m.kd,.int m.sz,.int m.bg]) (m.bs.map Bx.toD) (m.hs.map hdD) (m.hs.map λh=>h.rs.map Rw.toD)
theorem Xy(hl:m.hs.length<=100)(q:QD m.toD (RM Z m)):WP (CB [.ref Z.length]) (RM Z m) QD:=by
 unfold CB;refine Aw rfl ?_;unfold Du;refine Af (A6 (Cd (AX ?_)));refine AL (Ds (AK rfl (MN (AL (Ds (AK rfl (RX (AN ?_))))))));refine AX ⟨_,_,Q7 Qh,AX ⟨_,_,Q7 Vt,?_⟩⟩;refine⟨m.hs.zipIdx.map λa=>D.tup [hdD a.1,.ref (Z.length+4+a.2)],RM Z m,?_,?_,?_⟩
 ·show (if (HX Z.length (m.hs.map λh=>h.rs.map Rw.toD).length).length=(m.hs.map hdD).length then some (Fr (m.hs.map hdD) (HX Z.length (m.hs.map λh=>h.rs.map Rw.toD).length),_) else none)=_;rw[if_pos (by simp[HX]),AAF];unfold HX;rw[List.range_eq_range',de m.hs 0]
 ·rw[sizeLine_eq];simp;omega
 ·refine Ch (λa:Hd×Nat=>D.tup [hdD a.1,.ref (Z.length+4+a.2)]) (λ_=>true) (λa=>a.1.toD) (λa ha=>Fe ⟨rfl,Cb ⟨rfl,rfl,λ_=>?_⟩⟩) ?_
  ·have hg:m.hs[a.2]?=some a.1:=List.mem_zipIdx_iff_getElem?.mp ha;refine Ae (AK rfl (AU (AL (AU (AL (AK rfl (AN ?_)))))));refine Re (eK (by rw[AAV,hg];rfl)) (AN (IZ (by rw[sizeLine_eq];simp) ?_));exact HF (d:=.str a.1.nm) (ds:=[.int a.1.wi]) (by simp) ⟨rfl,rfl⟩
  ·rw[fil];refine A0 (by rw[sizeLine_eq];simp;omega) (AS ?_);refine Cc (Ae (Ds (AK rfl (Ob ?_))));refine AU (AL (AU (AL (Ds (AK rfl (Ui (AN (Re YV ?_))))))));refine AL (AU (AL (AK rfl (AN (Rf (AN (IZ (by rw[sizeLine_eq];simp) ?_)))))));refine HF (d:=.str m.kd) (ds:=[.int m.sz,.int m.bg]) (by simp) ⟨_,_,rfl,?_⟩;have e:m.hs.zipIdx.map (λa=>a.1.toD)=m.hs.map Hd.toD:=by
    rw[show (λa:Hd×Nat=>a.1.toD)=Hd.toD ∘ Prod.fst from rfl,←List.map_map,List.zipIdx_map_fst]
   rw[e];exact q
theorem Rh(h:Mk.Rd m)(q:QD m.toD Z):WP (EG [.str (tx (Bo m))]) Z QD:=by
 have hs:=VZ h;have hl:=LC h.ok;have ls:∀l∈Bo m,l.length<=300/\HZ 10 l:=λl hl=>by
  unfold Bo at hl;rw[AAL] at hl;obtain⟨a,ha,rfl⟩:=hl;exact(hs a ha).1
 unfold EG;refine Fy rfl ?_;unfold Hj;refine Af (BQ (wz_not (Am (AU ?_))));wtm_at "a";refine An (a:=.bl true) (Z':=Z) rfl ?_;wtm_at "a";refine EN (y:=tx (Bo m)) (AK rfl ⟨rfl,AL (Az (AN ?_))⟩);have sp:Hw (.str (tx (Bo m))) [.str "\n"] Z=some (.lst ((Bo m).map D.str),Z):=by
  obtain⟨d,ν,e,q1,q2⟩:=Oi (Z:=Z) (QD:=λd ν=>d=.lst ((Bo m).map D.str)/\ν=Z) (c:=10) (B_:=300) (ws:=Bo m) (by simp[Bo,GJ]) (λl hl=>(ls l hl).2) (λl hl=>(ls l hl).1) (by rw[sizeLine_eq];simp[Bo];omega) ⟨rfl,rfl⟩;subst q1 q2;unfold tx;rw[Wj];exact e
 refine An sp ?_;wtm_at "a";refine X5 ?_;refine AS (Af (Fx (Xr ?_)));wtm_at "a";refine⟨_,rfl,?_⟩;have e1:(Bo m).map D.str=.str (ln (Mk.ws m))::(m.bs.map (λb=>D.str (ln (Bx.ws b)))++(D6 m.hs).map λa=>D.str a.2):=by simp[Bo,GJ,Tz,Q9,Function.comp_def]
 rw[e1];refine Im (w := "makes") (l:=ln (Mk.ws m)) (r:=[.str m.kd,.int m.sz,.int m.bg]) (made':=.tup [.str m.kd,.int m.sz,.int m.bg]) (bs':=[]) (hs':=[]) (ps':=[]) (λν QD z=>U4 h.ok.worth z) (λQD z=>VX z) (λQD z=>VR (by simp) z) λo3 o4 o5=>?_;refine O5 m.bs [] 1 o3 o4 o5 (λb hb=>⟨(h.ok.boxes b hb).1,(h.ok.boxes b hb).2,h.wr b hb⟩) (by have:=h.ok.most;simp;omega) λk o3 o4 o5=>?_;refine O4 m.hs [] k o3 o4 o5 (λq hq=>⟨(h.ok.hands q hq).1,(h.ok.hands q hq).2.1,(h.ok.hands q hq).2.2.1,(h.ok.hands q hq).2.2.2,h.rows q hq⟩) (by have:=h.ok.mosth;simp;omega) λo3 o4 o5=>?_;rw[List.nil_append,List.nil_append];refine AS (Af (BQ (Am (Ae (AU (AL (Ds (AK rfl (MN (AN (D9 Qh (Az ?_))))))))))));refine Rb (by have:=h.ok.least;show ¬(((m.hs.map hdD).length:Int)<2);simp;omega) (Bl (A9 (CO (AS (Af (A6 ?_))))));refine Ki rfl Hy (by kernel_rfl) (AN (Xy (by have:=h.ok.mosth;omega) ?_));refine AS (Af (BY (AU (AL (AK rfl (AN (An (GX h.ok) ?_)))))));wtm_at "a";exact⟨_,_,_,rfl,rfl,Mk.cl m,q⟩
end
noncomputable def Pl:Nat->D->Prop
 |0,_=>False
 |_+1,.int _=>True
 |_+1,.str x=>PyData.strOk x=true
 |n+1,.tup ds=>ds.length<=1000/\∀d∈ds,Pl n d
 |_,_=>False
theorem Pl.succ:∀{n:Nat} {d:D},Pl n d->Pl (n+1) d
 |n+1,.int _,_=>trivial
 |n+1,.str _,h=>h
 |n+1,.tup ds,h=>⟨h.1,λd hd=>Pl.succ (h.2 d hd)⟩
 |n+1,.non,h=>h.elim
 |n+1,.bl _,h=>h.elim
 |n+1,.ty _,h=>h.elim
 |n+1,.scr _,h=>h.elim
 |n+1,.lst _,h=>h.elim
 |n+1,.ref _,h=>h.elim
theorem Pl.mono(h:Pl n d)(hk:n<=k):Pl k d:=by
 induction hk with
 |refl=>exact h
 |step _ ih=>exact ih.succ
theorem V5:∀{ds:List D},(∀d∈ds,Pz d/\dpt d<=n)->PzL ds/\D7 ds<=n
 |[],_=>⟨by unfold PzL;trivial,by unfold D7;omega⟩
 |d::ds,h=>by
  have h1:=h d AAP;have h2:=V5 λe he=>h e (AAQ _ he);exact⟨by unfold PzL;exact⟨h1.1,h2.1⟩,by unfold D7;omega⟩
theorem Pl.pz:∀{n:Nat} {d:D},Pl n d->Pz d/\dpt d<=n
 |n+1,.int _,_=>⟨by unfold Pz;trivial,by unfold dpt;omega⟩
 |n+1,.str _,h=>⟨by unfold Pz;exact h,by unfold dpt;omega⟩
 |n+1,.tup ds,h=>by
  have:=V5 λd hd=>Pl.pz (h.2 d hd);exact⟨by unfold Pz;exact this.1,by unfold dpt;omega⟩
 |n+1,.non,h=>h.elim
 |n+1,.bl _,h=>h.elim
 |n+1,.ty _,h=>h.elim
 |n+1,.scr _,h=>h.elim
 |n+1,.lst _,h=>h.elim
 |n+1,.ref _,h=>h.elim
theorem pl2(ha:Pl n a)(hb:Pl n b):Pl (n+1) (.tup [a,b]):=⟨by simp,λd hd=>by
 simp at hd;rcases hd with rfl|rfl
 ·exact ha
 ·exact hb⟩
theorem pl3(ha:Pl n a)(hb:Pl n b)(hc:Pl n c):Pl (n+1) (.tup [a,b,c]):=⟨by simp,λd hd=>by
 simp at hd;rcases hd with rfl|rfl|rfl
 ·exact ha
 ·exact hb
 ·exact hc⟩
theorem pl5(ha:Pl n a)(hb:Pl n b)(hc:Pl n c)(hd:Pl n d)(he:Pl n e):Pl (n+1) (.tup [a,b,c,d,e]):=⟨by simp,λx hx=>by
 simp at hx;rcases hx with rfl|rfl|rfl|rfl|rfl<;>assumption⟩
theorem plm{α:Type}{n:Nat}{f:α->D}{xs:List α}(hl:xs.length<=1000)(h:∀a∈xs,Pl n (f a)):Pl (n+1) (.tup (xs.map f)):=⟨by rw[AAF];exact hl,λd hd=>by
 rw[AAL] at hd;obtain⟨a,ha,rfl⟩:=hd;exact h a ha⟩
theorem pli:Pl (n+1) (.int i):=trivial
theorem pls(h:PyData.strOk x=true):Pl (n+1) (.str x):=h
theorem LQ:∀(k:Nat) (e:Ex),Ex.Rd k e->Pl (k+1) e.toD
 |0,_,h=>h.elim
 |k+1,.num i,h=>pl2 (pls (by decide +kernel)) pli
 |k+1,.var x,h=>pl2 (pls (by decide +kernel)) (pls h.1.ok)
 |k+1,.neg e,h=>pl2 (pls (by decide +kernel)) (LQ k e h)
 |k+1,.pair w a b,h=>pl3 (pls (by
   have hw:=h.1;unfold Ax at hw;simp only[AAI,List.not_mem_nil,or_false] at hw;rcases hw with rfl|rfl|rfl|rfl|rfl|rfl<;>decide +kernel)) (LQ k a h.2.1) (LQ k b h.2.2)
theorem eV{r:Rw}(h:Rw.Rd r):Pl 7 r.toD:=by
 cases r with
 |put bx e=>exact pl3 (pls (by decide +kernel)) (pls h.1.ok) (LQ 5 e h.2)
 |get x bx=>exact pl3 (pls (by decide +kernel)) (pls h.1.ok) (pls h.2.ok)
 |letr x e=>exact pl3 (pls (by decide +kernel)) (pls h.1.ok) (LQ 5 e h.2)
 | «unless» e t=>exact pl3 (pls (by decide +kernel)) (LQ 5 e h.1) pli
 |jump t=>exact pl2 (pls (by decide +kernel)) pli
 |tell e=>exact pl2 (pls (by decide +kernel)) (LQ 5 e h)
 |done=>exact plm (n:=6) (f:=D.str) (xs:=["done"]) (by simp) (λa ha=>pls (by rw[AAK] at ha;subst ha;decide +kernel))
theorem Sh(h:k∈(["safe", "steady", "whole"]:List Str)):PyData.strOk k=true:=by
 simp only[AAI,List.not_mem_nil,or_false] at h;rcases h with rfl|rfl|rfl<;>decide +kernel
theorem eW{m:Mk}(h:Mk.Rd m):Pl 12 m.toD:=by
 refine pl5 (pls (Sh h.ok.worth.1)) pli pli ?_ ?_
 ·exact(plm (n:=9) (by have:=h.ok.most;omega) λb hb=>(pl5 (n:=8) (pls (h.ok.boxes b hb).1.ok) (pls (Sh (h.ok.boxes b hb).2.1)) pli pli (pls (h.wr b hb).ok))).mono (by decide)
 ·exact(plm (n:=9) (by have:=h.ok.mosth;omega) λq hq=>pl3 (n:=8) (pls (h.ok.hands q hq).1.ok) pli (plm (n:=7) (by have:=(h.ok.hands q hq).2.2.2;omega) λr hr=>eV (h.rows q hq r hr))).mono (by decide)
theorem OT(hd:d<128):∀{ws:List Str},(∀w∈ws,∀c∈w.cps.toList,c<128)->∀c∈(Str.join ⟨#[d]⟩ ws).cps.toList,c<128
 |[],_,c,hc=>by cases hc
 |[x],h,c,hc=>h x AAP c hc
 |x::y::r,h,c,hc=>by
  rw[Eo] at hc;rcases AAJ.mp hc with z|z
  ·exact h x AAP c z
  ·rcases AAI.mp z with z|z
   ·rw[z];exact hd
   ·exact OT hd (ws:=y::r) (λw hw=>h w (AAQ _ hw)) c z
theorem aN(h:∀c∈x.cps.toList,c<128):PyData.strOk x=true:=by
 unfold PyData.strOk;rw[Array.all_eq_true_iff_forall_mem];intro c hc;have:=h c (by simpa using hc);simp;omega
end K5
namespace Kst
open PySem L2 Mi
open K21 (Ex words)
noncomputable abbrev Dr(E:List (Str×Int)):List (Key×D):=E.map λp=>(.inr p.1,.int p.2)
noncomputable def look(E:List (Str×Int))(x:Str):Option Int:=(E.find? λp=>decide (p.1=x)).map (·.2)
theorem HK:∀{E:List (Str×Int)},Dy (Dr E) (.inr x)=(look E x).map D.int
 |[]=>rfl
 |(y,i)::E=>by
  have ih:=HK (x:=x) (E:=E);unfold Dy look at ih ⊢;show Option.map _ (List.find? _ (((.inr y:Key),D.int i)::Dr E))=_;rw[List.find?_cons,List.find?_cons];by_cases e:y=x
  ·subst e;simp
  ·have e1:decide ((Sum.inr y:Key)=.inr x)=false:=AAN λz=>e (Sum.inr.inj z);have e2:decide (y=x)=false:=AAN e;dsimp only;rw[e1,e2];exact ih
noncomputable def one(b:Bool):Int:=if b then 1 else 0
noncomputable def Hh(w:Str)(a b:Int):Int:=
 if w = "+" then min (a+b) 9 else if w = "-" then max (a-b) 0 else if w = "=" then one (a==b) else if w = "<" then one (decide (a<b)) else if w = "and" then one (a != 0&&b != 0) else one (a != 0||b != 0)
noncomputable def Nz(E:List (Str×Int)):Ex->Int
 | .num n=>n
 | .var x=>(look E x).getD 0
 | .neg e=>one (Nz E e==0)
 | .bin w a b=>Hh w (Nz E a) (Nz E b)
noncomputable def Ek(ns:List Str):Nat->Ex->Prop
 |_,.num _=>True
 |_,.var x=>x∈ns
 |0,.neg _=>False
 |d+1,.neg e=>Ek ns d e
 |0,.bin _ _ _=>False
 |d+1,.bin w a b=>w∈words/\Ek ns d a/\Ek ns d b
section
variable{Z:Mh}{QD:D->Mh->Prop}{E:List (Str×Int)}{k:Nat}
theorem GU(q:QD (.int (one b)) Z):WP (CK [.bl b]) Z QD:=by
 unfold CK;refine Aw rfl ?_;unfold DU;cases b<;>(wtm_at "d";exact⟨_,_,rfl,q⟩)
theorem X2(hw:w∈words)(q:QD (.int (Hh w a b)) Z):WP (BW [.str w,.int a,.int b]) Z QD:=by
 unfold BW;refine Aw rfl ?_;unfold B1;have hw:w∈(["+", "-", "=", "<", "and", "or", "="]:List Str):=hw;simp only[AAI,List.mem_nil_iff,or_false] at hw;rcases hw with rfl|rfl|rfl|rfl|rfl|rfl|rfl
 ·wtm_at "d";refine An (a:=.int (if 9<a+b then 9 else a+b)) (Z':=Z) rfl ?_;wtm_at "d";exact⟨_,_,rfl,by rw[show (if 9<a+b then 9 else a+b)=min (a+b) 9 by omega];exact q⟩
 ·wtm_at "d";refine An (a:=.int (if 0 > a-b then 0 else a-b)) (Z':=Z) rfl ?_;wtm_at "d";exact⟨_,_,rfl,by rw[show (if 0 > a-b then 0 else a-b)=max (a-b) 0 by omega];exact q⟩
 ·wtm_at "d";refine GU ?_;wtm_at "d";exact⟨_,_,rfl,q⟩
 ·wtm_at "d";refine GU ?_;wtm_at "d";exact⟨_,_,rfl,q⟩
 ·have q:QD (.int (one (a != 0&&b != 0))) Z:=q;by_cases h:a=0
  ·subst h;wtm_at "d";refine GU ?_;wtm_at "d";exact⟨_,_,rfl,q⟩
  ·have q:QD (.int (one (b != 0))) Z:=by rw[show (a != 0&&b != 0)=(b != 0) by simp[h]] at q;exact q
   wtm_at "d";refine GU ?_;wtm_at "d";exact⟨_,_,rfl,q⟩
 ·have q:QD (.int (one (a != 0||b != 0))) Z:=q;by_cases h:a=0
  ·subst h;have q:QD (.int (one (b != 0))) Z:=q;wtm_at "d";refine GU ?_;wtm_at "d";exact⟨_,_,rfl,q⟩
  ·have q:QD (.int (one true)) Z:=by rw[show (a != 0||b != 0)=true by simp[h]] at q;exact q
   wtm_at "d";refine GU ?_;wtm_at "d";exact⟨_,_,rfl,q⟩
 ·wtm_at "d";refine GU ?_;wtm_at "d";exact⟨_,_,rfl,q⟩
theorem str_w(hw:w∈words):PyData.strOk w=true/\(w == "num")=false/\(w == "var")=false/\(w == "not")=false:=(show ∀w∈words,PyData.strOk w=true/\(w == "num")=false/\(w == "var")=false/\(w == "not")=false by decide +kernel) w hw
def Has(ns:List Str)(E:List (Str×Int)):Prop:=∀x∈ns,(look E x).isSome=true
theorem Ho(hE:Has ns E):∀(n:Nat) {e:Ex} {d:Nat} {QD:D->Mh->Prop},d<n->Ek ns d e->Z[k]?=some (.dK (Dr E))->QD (.int (Nz E e)) Z->WP (f_number_of n [e.toD,.ref k]) Z QD
 |0,_,_,_,h,_,_,_=>absurd h (by omega)
 |n+1,.num i,d,QD,_,_,_,q=>by
  unfold f_number_of;refine Aw rfl ?_;unfold CG Ex.toD;wtm_at "d";exact⟨_,_,rfl,q⟩
 |n+1,.var x,d,QD,_,hx,hm,q=>by
  have hx:(look E x).isSome=true:=hE x (by unfold Ek at hx;exact hx);obtain⟨i,hi⟩:=Option.isSome_iff_exists.mp hx;unfold f_number_of;refine Aw rfl ?_;unfold CG Ex.toD;wtm_at "d";refine Oh hm rfl (by rw[HK,hi];rfl) ?_;wtm_at "d";refine⟨_,_,rfl,?_⟩;unfold Nz at q;rw[hi] at q;exact q
 |n+1,.neg e,0,QD,_,hx,_,q=>by unfold Ek at hx;exact hx.elim
 |n+1,.neg e,d+1,QD,hd,hx,hm,q=>by
  unfold Ek at hx;unfold f_number_of;refine Aw rfl ?_;unfold CG Ex.toD;wtm_at "d";refine Ho hE n (Nat.lt_of_succ_lt_succ hd) hx hm ?_;wtm_at "d";refine GU ?_;wtm_at "d";exact⟨_,_,rfl,q⟩
 |n+1,.bin w a b,0,QD,_,hx,_,q=>by unfold Ek at hx;exact hx.elim
 |n+1,.bin w a b,d+1,QD,hd,hx,hm,q=>by
  unfold Ek at hx;obtain⟨hw,ha,hb⟩:=hx;obtain⟨w1,w2,w3,w4⟩:=str_w hw;unfold f_number_of;refine Aw rfl ?_;unfold CG Ex.toD;wtm_at "d";refine BX w1 (by decide +kernel) w2 ?_;wtm_at "d";refine BX w1 (by decide +kernel) w3 ?_;wtm_at "d";refine Ho hE n (Nat.lt_of_succ_lt_succ hd) ha hm ?_;wtm_at "d";refine BX w1 (by decide +kernel) w4 ?_;wtm_at "d";refine Ho hE n (Nat.lt_of_succ_lt_succ hd) hb hm ?_;wtm_at "d";refine X2 hw ?_;wtm_at "d";exact⟨_,_,rfl,q⟩
end
end Kst
namespace K8
open PySem L2 Mi K1 K5
section
variable{Z:Mh}{B:Sl}{QD:D->Mh->Prop}{QS:Fl×Sl->Mh->Prop}{ds:List D}{w:Nat}{b:Int}
theorem DJ(hw:WellAt Z w)(hb:0<b)(hb2:b<1073741824)(q:∀r Z',0<=r->r<b->Upd w Z Z'->WellAt Z' w->QD (.int r) (Z'++gs)):WP (BS [.ref w,.int b]) (Z++gs) QD:=by
 obtain⟨r,Z',e,h1,h2,u⟩:=YB (g:=gs) hw hb hb2;exact An e (q r Z' h1 h2 u (u.well hw.lt))
theorem NX(hw:WellAt Z w)(hb:0<b)(hb2:b<1073741824)(q:∀r Z',0<=r->r<b->Upd w Z Z'->WellAt Z' w->QD (.int r) Z'):WP (BS [.ref w,.int b]) Z QD:=by
 obtain⟨r,Z',e,h1,h2,u⟩:=VI hw hb hb2;exact An e (q r Z' h1 h2 u (u.well hw.lt))
theorem Rl(u:Upd w Z w9):∀(j:Nat) (o:MO),w9[j]?=some o->Z[j]?=some o∨ClO w9.length o:=λj o e=>by
 by_cases hj:j=w
 ·subst hj;obtain⟨a,m,c,ha,rfl⟩:=u;right;rw[List.getElem?_set] at e;simp at e;obtain⟨_,rfl⟩:=e;exact Q4
 ·left;rw[←u.other hj];exact e
theorem Ol(hl:ds.length=ps)(h:WP (mb (BI N ds)) Z λr x6=>∃d x8 w9 gs,r=(.rt d,x8)/\x6=w9++gs/\Upd w Z w9/\Cl Z.length d/\QD d w9):WP (BJ .drop N ps mb ds) Z QD:=by
 obtain⟨r,x6,e,d,x8,w9,gs,rfl,rfl,u,c,q⟩:=h;exact An (Jf e hl u c) q
theorem X7(hl:ds.length=ps)(h:WP (mb (BI N ds)) Z λr x6=>∃es x8 w9 gs j,r=(.rt (.ref j),x8)/\x6=w9++gs/\Upd w Z w9/\Z.length<=j/\x6[j]?=some (.lst es)/\ClL Z.length es/\QD (.lst es) w9):WP (BJ .frz N ps mb ds) Z QD:=by
 obtain⟨r,x6,e,es,x8,w9,gs,j,rfl,rfl,u,hj,hg,c,q⟩:=h;have t:JS Z (w9++gs) .frz=w9:=by show (w9++gs).take Z.length=w9;rw[←u.len,List.take_left]
 have o:Tr (w9++gs) .frz (FL (.rt (.ref j)))=.lst es:=by
  show (match (w9++gs)[j]? with|some (.lst ds)=>D.lst ds|_=>.ref j)=_;rw[hg]
 have hh:=FF (hw:=.frz) e hl (.inr ⟨_,rfl⟩) (by
  rw[t,o];exact⟨⟨gs,rfl⟩,by rw[u.len];exact AAE _,(Rl u),.inr ⟨j,es,rfl,hg,by rw[u.len];exact hj,rfl,by rw[u.len];exact c⟩⟩)
 rw[t,o] at hh;exact An hh q
theorem dg(hl:ds.length=ps)(h:WP (mb (BI N ds)) Z λr x6=>∃d d' x8 w9 gs,r=(.rt d,x8)/\x6=w9++gs/\Upd w Z w9/\Cz (w9++gs) Z.length 8 d=d'/\Cl Z.length d'/\QD d' w9):WP (Lv N ps mb ds) Z QD:=by
 obtain⟨r,x6,e,d,d',x8,w9,gs,rfl,rfl,u,hz,c,q⟩:=h;subst hz;exact An (XV e hl ⟨⟨gs,rfl⟩,by rw[u.len];exact AAE _,(Rl u),.inl ⟨rfl,by unfold Cl;trivial⟩⟩ u.len c) q
theorem Zu (h:WP (tc B) Z (ifK (λB=>bnd (mb B) λr=>match r.1 with
   | .next=>HW tc mb n r.2
   | .cont=>HW tc mb n r.2
   | .brk=>ret (.next,r.2)
   | .rt d=>ret (.rt d,r.2)
   | .xc x=>ret (.xc x,r.2)) BC B QS)):WP (HW tc mb (n+1) B) Z QS:=by
 unfold HW;refine AX (Ai h λb w9 z=>?_);cases b
 ·rw[if_neg (by decide)];exact z
 ·rw[if_pos rfl];exact z
theorem aP(h:WP (mb B) Z (Mu (λx8 x6=>WP (HW tc mb n x8) x6 QS) QS)):ifK (λB=>bnd (mb B) λr=>match r.1 with
   | .next=>HW tc mb n r.2
   | .cont=>HW tc mb n r.2
   | .brk=>ret (.next,r.2)
   | .rt d=>ret (.rt d,r.2)
   | .xc x=>ret (.xc x,r.2)) BC B QS true Z:=by
 refine AX (Ai h λr x6 k=>?_);obtain⟨fl,x8⟩:=r;cases fl with
 |next=>exact k
 |cont=>exact k
 |brk=>exact BZ k
 |rt d=>exact BZ k
 |xc z=>exact BZ k
theorem OB{hs:List Int}:PzL (hs.map D.int)/\D7 (hs.map D.int)<=60:=by
 induction hs with
 |nil=>exact⟨by unfold List.map PzL;trivial,by unfold List.map D7;omega⟩
 |cons x hs ih=>
  rw[AAW];exact⟨by unfold PzL;exact⟨by unfold Pz;trivial,ih.1⟩,by unfold D7;have:dpt (.int x)=0:=rfl;rw[this];omega⟩
end
section
variable{Z:Mh}{B:Sl}{QD:D->Mh->Prop}{QS:Fl×Sl->Mh->Prop}{ds:List D}{w L:Nat}{y:D}
theorem NT(ht:B[k]?=some (some (.ref n)))(h:Z[n]?=some (.lst (ds++[y])))(q:QD y (Z.set n (.lst ds))):WP (CI H9 (AD k) B) Z QD:=by
 unfold CI;refine AX (AK ht (AX ⟨(),_,Fo h,?_⟩));refine An (a:=y) (Z':=Z.set n (.lst ds)) ?_ q;show Ew n (λds=>(ds[ds.length-1]?).map λd=>(d,ds.dropLast)) Z=_;unfold Ew;rw[h];simp
theorem Ft(ht:B[i]?=some (some (.ref n)))(h0:Z[n]?=some (.lst ds))(h:WP (ra B) Z λes w9=>∃y ds1,es=[y]/\w9[n]?=some (.lst ds1)/\ds1.length<1000000/\QD .non (w9.set n (.lst (ds1++[y])))):WP (A3 C9 (AD i) ra B) Z QD:=by
 unfold A3;refine AX (AK ht (AX ⟨(),_,Fo h0,AX (Ai h ?_)⟩));rintro es w9 ⟨y,ds1,rfl,h1,hl,q⟩;refine An (a:=.non) (Z':=w9.set n (.lst (ds1++[y]))) ?_ q;show Ew n (λds=>if ds.length<sizeLine then some (.non,ds++[y]) else none) w9=_;unfold Ew;rw[h1];dsimp only;rw[if_pos (by rw[sizeLine_eq];omega)];rfl
theorem Bz(h:Z.length=L):(Z++o::r)[L]?=some o:=by subst h;rw[AAR (AAE _)];simp
theorem EC(h:Z.length=L):(Z++o::r).set L o'=Z++o'::r:=by subst h;rw[AAe _ _ (AAE _)];simp
theorem GE(h:Z.length=L):(Z++a::(js++[o]))[L+1+js.length]?=some o:=by
 subst h;rw[AAR (by omega),show Z.length+1+js.length-Z.length=js.length+1 from by omega];simp
theorem Ni(h:Z.length=L):(Z++a::(js++[o])).set (L+1+js.length) p=Z++a::(js++[p]):=by
 subst h;rw[AAe _ _ (by omega),show Z.length+1+js.length-Z.length=js.length+1 from by omega];simp
noncomputable abbrev dB:List Str:=["0", "1", "2", "5", "9"]
theorem W9:∀a∈dB,∃i:Int,(0<=i/\i<=9)/\a=toS i:=by
 intro a ha;simp only[AAI,List.not_mem_nil,or_false] at ha;rcases ha with rfl|rfl|rfl|rfl|rfl
 ·exact⟨0,by decide,by decide +kernel⟩
 ·exact⟨1,by decide,by decide +kernel⟩
 ·exact⟨2,by decide,by decide +kernel⟩
 ·exact⟨5,by decide,by decide +kernel⟩
 ·exact⟨9,by decide,by decide +kernel⟩
noncomputable abbrev exC:Sl->M Bool:=(AW (mOp B4 (AD 3) (AF A4 AI)))
noncomputable abbrev exL:Sl->M (Fl×Sl):=(Ag (A3 C9 (AD 2) (AC (mOp Aa (mOp Av (AF A4 (AC (mC (.str "0")) (AC (mC (.str "1")) (AC (mC (.str "2")) (AC (mC (.str "5")) (AC (mC (.str "9")) AI)))))) (AD 1)) (AF BS (AC (AD 0) (AC (mOp Av (mC (.int 5)) (AF Bk (AC (AD 1) AI))) AI)))) AI)))
noncomputable abbrev exW:Sl->M (Fl×Sl):=(AT (A2 (CI H9 (AD 3)) (AR 4))
  (AT (A2 (AF BS (AC (AD 0) (AC (mC (.int 9)) AI))) (AR 5))
  (sIf (mOr (AW (mOp Hz (AD 4) (mC (.int 4)))) (mOr (AW (mOp GR (AD 5) (mC (.int 2)))) (AW (mOp Hz (AF Bk (AC (AD 2) AI)) (mC (.int 12)))))) exL (sIf (AW (mOp A8 (AD 5) (mC (.int 2)))) (AT (Ag (A3 C9 (AD 2) (AC (mC (.str "not")) AI)))
  (Ag (A3 C9 (AD 3) (AC (mOp Av (AD 4) (mC (.int 1))) AI)))) (AT (Ag (A3 C9 (AD 2) (AC (mOp Aa (AF A4 (AC (mC (.str "+")) (AC (mC (.str "-")) (AC (mC (.str "=")) (AC (mC (.str "<")) (AC (mC (.str "and")) (AC (mC (.str "or")) AI))))))) (mOp FT (AD 5) (mC (.int 3)))) AI)))
  (A2 (mOp No (AD 3) (AF A4 (AC (mOp Av (AD 4) (mC (.int 1))) (AC (mOp Av (AD 4) (mC (.int 1))) AI)))) (AR 3)))))))
theorem ZF{ns ws:List Str}(hns:∀x∈ns,RD x)(hnl:ns.length<=10)(hL:Z.length=L)(hw:WellAt Z w)(hl:ws.length<=1000)
  (q:∀(e:Ex) (Z':Mh),(∀k,Ex.Rd (k+1) e)->(∀x∈e.vars,x∈ns)->Upd w Z Z'->QS (.next,[some (.ref w),some (.lst (ns.map D.str)),some (.ref L),o3,o4,o5]) (Z'++.lst ((ws++Ex.words e).map D.str)::r)) :
  WP (exL [some (.ref w),some (.lst (ns.map D.str)),some (.ref L),o3,o4,o5]) (Z++.lst (ws.map D.str)::r) QS:=by
 unfold exL;refine BY (Ft rfl (Bz hL) ?_);wtm_at "a";refine Ca (by simp;omega) ?_;wtm_at "a";have e5:(5:Int)+((ns.map D.str).length:Int)=((dB++ns).length:Int):=by simp;omega
 rw[e5];refine DJ hw (by simp;omega) (by simp;omega) λi Z' h0 h1 u hw'=>?_;obtain⟨a,ha,ea⟩:=To (f:=D.str) (xs:=dB++ns) h0 h1;rw[AAX] at ea;refine Cm ea ?_;refine AN ⟨.str a,ws.map D.str,rfl,Bz (by rw[u.len,hL]),by rw[AAF];omega,?_⟩;rw[EC (by rw[u.len,hL])];rcases AAJ.mp ha with ha|ha
 ·obtain⟨j,hj,rfl⟩:=W9 a ha;have:=q (.num j) Z' (λ_=>hj) (λx hx=>nomatch hx) u;simpa[Ex.words] using this
 ·have:=q (.var a) Z' (λ_=>hns a ha) (λx hx=>by rw[show x=a from by simpa[Ex.vars] using hx];exact ha) u;simpa[Ex.words] using this
noncomputable abbrev exS(w L:Nat)(ns:List Str)(h:Nat)(o4 o5:Option D):Sl:=[some (.ref w),some (.lst (ns.map D.str)),some (.ref L),some (.ref h),o4,o5]
noncomputable abbrev exH(Z:Mh)(ws:List Str)(js:Mh)(hs:List Int):Mh:=Z++.lst (ws.map D.str)::(js++[.lst (hs.map D.int)])
theorem Sx{ns:List Str}(hns:∀x∈ns,RD x)(hnl:ns.length<=10):∀(k n:Nat) (Z js:Mh) (ws:List Str) (hs:List Int) (o4 o5:Option D),Z.length=L->WellAt Z w->k+1<=5->2 ^ (k+1)<=n->ws.length+2 ^ (k+1)<=1000->hs.length+2 ^ (k+1)<=100->
  (∀(e:Ex) (Z' js':Mh) (o4' o5':Option D) (n':Nat),Ex.Rd (k+1) e->(∀x∈e.vars,x∈ns)->Upd w Z Z'->n+1<=n'+2 ^ (k+1)->WP (HW exC exW n' (exS w L ns (L+1+js'.length) o4' o5')) (exH Z' (ws++Ex.words e) js' hs) QS)->
  WP (HW exC exW n (exS w L ns (L+1+js.length) o4 o5)) (exH Z ws js (hs++[5-(k:Int)])) QS
 |k,0,_,_,_,_,_,_,_,_,_,hn,_,_,_=>absurd hn (by have:=Nat.one_le_two_pow (n:=k+1);omega)
 |k,n+1,Z,js,ws,hs,o4,o5,hL,hw,hk,hn,hwl,hhl,q=>by
  have hp:=Nat.one_le_two_pow (n:=k);rw[Nat.pow_succ] at hn hwl hhl;refine Zu (Am (Ae (AK rfl (AU (AN (A0 (by simp) ?_))))));refine K21.MS (GE hL) OB.1 OB.2 ⟨_,rfl,?_⟩;rw[show (!((hs++[5-(k:Int)]).map D.int).isEmpty)=true from by simp];refine aP ?_;unfold exW;refine Af (A6 ?_);refine NT (ds:=hs.map D.int) (y:=.int (5-(k:Int))) rfl (by rw[GE hL];simp) ?_;rw[Ni hL];refine AS (Af (A6 ?_));wtm_at "a";refine DJ hw (by decide) (by decide) λr w9 h0 h1 u hw1=>?_;have hL1:w9.length=L:=by rw[u.len,hL]
  have leaf:WP (exL (exS w L ns (L+1+js.length) (some (.int (5-(k:Int)))) (some (.int r)))) (w9++.lst (ws.map D.str)::(js++[.lst (hs.map D.int)])) (Mu (λx8 x6=>WP (HW exC exW n x8) x6 QS) QS):=by
   refine ZF hns hnl hL1 hw1 (by omega) λe Z' he hv u'=>BV ?_;exact q e Z' js _ _ n (he k) hv (u.trans u') (by rw[Nat.pow_succ];omega)
  refine AS (BQ ?_);by_cases hk0:k=0
  ·refine MQ (Am (Ae (AK rfl (Az (Km ⟨_,rfl,?_⟩)))));rw[AAO (by omega)];exact NU (CF leaf)
  obtain⟨j,rfl⟩:∃j,k=j+1:=⟨k-1,by omega⟩;refine MQ (Am (Ae (AK rfl (Az (Km ⟨_,rfl,?_⟩)))));rw[AAN (by omega)];refine IX (MQ (Am (Ae (AK rfl (Az (MT ⟨_,rfl,?_⟩))))));by_cases hr:r<2
  ·rw[AAO hr];exact NU (CF leaf)
  rw[AAN hr];refine IX (Am (Ae (AU (AL (AK rfl (AN (D9 (Bz hL1) (Az (Km ⟨_,rfl,?_⟩)))))))));by_cases hc:(12:Int)<(ws.map D.str).length
  ·rw[AAO hc];exact CF leaf
  rw[AAN hc];have e1:(5:Int)-((j+1:Nat):Int)+1=5-(j:Int):=by omega
  have hp2:=Nat.one_le_two_pow (n:=j);rw[Nat.pow_succ] at hn hwl hhl;refine A9 (BQ (Am (Ae (AK rfl (Az (Eu ⟨_,rfl,?_⟩))))));by_cases h2:r=2
  ·rw[beq_iff_eq.mpr h2];refine CF (Af (BY (Ft rfl (Bz hL1) (AL (Az (AN ⟨.str "not",ws.map D.str,rfl,Bz hL1,by rw[AAF];omega,?_⟩))))));rw[EC hL1];refine AS (BY (Ft rfl (GE hL1) (AL (Ae (AK rfl (Az (Ee (AN ⟨_,hs.map D.int,rfl,GE hL1,by rw[AAF];omega,?_⟩))))))));rw[Ni hL1,e1];refine BV ?_;have:=Sx hns hnl j n w9 js (ws++[("not" : Str)]) hs (some (.int (5-((j+1:Nat):Int)))) (some (.int r)) hL1 hw1 (by omega) (by rw[Nat.pow_succ];omega) (by rw[Nat.pow_succ,AAG,List.length_singleton];omega) (by rw[Nat.pow_succ];omega) λe Z' js' o4' o5' n' he hv u' hn'=>by
    have:=q (.neg e) Z' js' o4' o5' n' he hv (u.trans u') (by rw[Nat.pow_succ] at hn' ⊢;rw[Nat.pow_succ] ;omega);simpa[Ex.words] using this
   unfold exH at this;rw[AAX,AAX] at this;exact this
  rw[AAd.mpr h2];obtain⟨i,hi⟩:∃i:Int,i=r-3:=⟨_,rfl⟩;obtain⟨a,ha,ea⟩:=To (f:=D.str) (xs:=Ax) (i:=r-3) (by omega) (by show r-3<6;omega);refine A9 (Af (BY (Ft rfl (Bz hL1) ?_)));wtm_at "a";refine Cm ea ?_;refine AN ⟨.str a,ws.map D.str,rfl,Bz hL1,by rw[AAF];omega,?_⟩;rw[EC hL1,show ws.map D.str++[D.str a]=(ws++[a]).map D.str from by simp];refine AS (A6 ?_);wtm_at "a";refine An (a:=.ref (L+1+(js++[MO.lst (hs.map D.int)]).length)) (Z':=exH w9 (ws++[a]) (js++[.lst (hs.map D.int)]) (hs++[5-(j:Int),5-(j:Int)])) ?_ ?_
  ·show (match (exH w9 (ws++[a]) js hs)[L+1+js.length]? with|some (.lst as)=>EQ (as++[D.int (5-((j+1:Nat):Int)+1),D.int (5-((j+1:Nat):Int)+1)]) (exH w9 (ws++[a]) js hs)|_=>none)=_;rw[GE hL1];dsimp only;unfold EQ;rw[AV (Le (by rw[sizeLine_eq,AAG,AAF];simp;omega) _),e1];simp[exH,hL1];omega
  refine BV ?_;have hb:∀(e:Ex) (Z' js':Mh) (o4' o5':Option D) (n':Nat),Ex.Rd (j+1) e->(∀x∈e.vars,x∈ns)->Upd w w9 Z'->n+1<=n'+2 ^ (j+1)->WP (HW exC exW n' (exS w L ns (L+1+js'.length) o4' o5')) (exH Z' (ws++[a]++Ex.words e) js' (hs++[5-(j:Int)])) QS:=λe Z' js' o4' o5' n' he hv u' hn'=>by
   have le:=G3 (j+1) e he;rw[Nat.pow_succ] at hn' le;refine Sx hns hnl j n' Z' js' (ws++[a]++Ex.words e) hs o4' o5' (by rw[u'.len,hL1]) (u'.well hw1.lt) (by omega) (by rw[Nat.pow_succ];omega) (by rw[Nat.pow_succ,AAG,AAG,List.length_singleton];omega) (by rw[Nat.pow_succ];omega) λe2 x6 js2 p4 p5 n2 he2 hv2 u2 hn2=>?_;rw[Nat.pow_succ] at hn2;have:=q (.pair a e e2) x6 js2 p4 p5 n2 ⟨ha,he,he2⟩ (λx hx=>by
    rcases AAJ.mp hx with z|z
    ·exact hv x z
    ·exact hv2 x z) (u.trans (u'.trans u2)) (by rw[Nat.pow_succ,Nat.pow_succ];omega)
   simpa[Ex.words] using this
  have:=Sx hns hnl j n w9 (js++[.lst (hs.map D.int)]) (ws++[a]) (hs++[5-(j:Int)]) (some (.int (5-((j+1:Nat):Int)))) (some (.int r)) hL1 hw1 (by omega) (by rw[Nat.pow_succ];omega) (by rw[Nat.pow_succ,AAG,List.length_singleton];omega) (by rw[Nat.pow_succ,AAG,List.length_singleton];omega) hb;rw[show hs++[5-(j:Int)]++[5-(j:Int)]=hs++[5-(j:Int),5-(j:Int)] from by simp] at this;exact this
theorem U2{ns:List Str}(hns:∀x∈ns,RD x)(hnl:ns.length<=10)(hw:WellAt Z w)(q:∀(e:Ex) (Z':Mh),Ex.Rd 5 e->(∀x∈e.vars,x∈ns)->Upd w Z Z'->QD (.lst ((Ex.words e).map D.str)) (Z'++gs)):WP (KU [.ref w,.lst (ns.map D.str)]) (Z++gs) QD:=by
 unfold KU;refine X7 (w:=w) rfl ?_;unfold Sb;wtm_at "a";have:=Sx (QS:=Ro (A1 (AD 2)) λr x6=>∃es x8 w9 gs1 j,r=(.rt (.ref j),x8)/\x6=w9++gs1/\Upd w (Z++gs) w9/\(Z++gs).length<=j/\x6[j]?=some (.lst es)/\ClL (Z++gs).length es/\QD (.lst es) w9) (L:=(Z++gs).length) hns hnl 4 c9 (Z++gs) [] [] [] none none rfl hw.app (by decide) (by decide) (by decide) (by decide) λe Z' js' o4' o5' n' he hv u hn'=>?_
 ·rw[AAk (Z++gs),AAG (as:=Z++gs)];exact this
 ·cases n' with
  |zero=>exact absurd hn' (by decide)
  |succ n'=>
   have hL:Z'.length=(Z++gs).length:=u.len;refine Zu (Am (Ae (AK rfl (AU (AN (A0 (by simp) ?_))))));refine K21.MS (GE hL) OB.1 OB.2 ⟨_,rfl,?_⟩;refine A9 (CO (AS (Cc (AK rfl ?_))));obtain⟨w9,u1,rfl⟩:=u.app hw.lt;exact⟨(Ex.words e).map D.str,_,w9++gs,_,_,rfl,rfl,u,AAE _,Bz hL,clS _,q e w9 he hv u1⟩
end
theorem SJ:∀{k:Nat} {e:Ex},Ex.Rd k e->e.Ok k
 |0,_,h=>h
 |_+1,.num _,h=>h
 |_+1,.var _,h=>h.1
 |k+1,.neg e,h=>SJ (k:=k) (e:=e) h
 |k+1,.pair _ a b,h=>⟨h.1,SJ (k:=k) (e:=a) h.2.1,SJ (k:=k) (e:=b) h.2.2⟩
section
variable{Z:Mh}{B:Sl}{QD:D->Mh->Prop}{QB:Bool->Mh->Prop}{w:Nat}{y:D}
theorem YC(h:Upd w Z w9)(hw:WellAt Z w):Upd w (Z++gs) (w9++gs):=by
 have hl:=hw.lt;obtain⟨a,m,c,ha,rfl⟩:=h;exact⟨a,m,c,ha,by rw[List.set_append_left _ _ hl]⟩
theorem VW{xs:List Str}(h:∀x∈xs,GoodName x):PzL (xs.map D.str)/\D7 (xs.map D.str)<=60:=by
 induction xs with
 |nil=>exact⟨by unfold List.map PzL;trivial,by unfold List.map D7;omega⟩
 |cons x xs ih=>
  have ih:=ih λy hy=>h y (AAQ _ hy);rw[AAW];exact⟨by unfold PzL;exact⟨by unfold Pz;exact(h x AAP).ok,ih.1⟩,by unfold D7;have:dpt (.str x)=0:=rfl;rw[this];omega⟩
theorem Xn(hl:ns.length<=1000)(h3:B[3]?=some (some (.lst (ns.map D.str))))(h5:B[5]?=some (some (.bl wr)))(q:QD (.lst ((Qd ns wr).map D.str)) Z):WP (mOp Av (AD 3) (mOp Fi (AF A4 (AC (mC (.str "v")) AI)) (AF DC (AC (AD 5) AI))) B) Z QD:=by
 refine Ae (AK h3 (Ae (AU (AL (Az (AN (A0 (by rw[sizeLine_eq];simp) (AU (AL (AK h5 (AN ?_)))))))))));cases wr with
 |true=>
  refine An (a:=.int 1) (Z':=Z) rfl (An (a:=.lst [.str "v"]) (Z':=Z) rfl ?_);refine Ca (by simp;omega) ?_;simpa[Qd] using q
 |false=>
  refine An (a:=.int 0) (Z':=Z) rfl (An (a:=.lst []) (Z':=Z) rfl ?_);refine Ca (by simp;omega) ?_;simpa[Qd] using q
theorem KA(hi:B[i]?=some (some (.lst (xs.map D.str))))(hj:B[j]?=some (some (.ref w)))(hw:WellAt Z w)(hne:xs≠[])(hl:xs.length<=1000)(q:∀a∈xs,∀Z',Upd w Z Z'->WellAt Z' w->QD (.str a) (Z'++gs)):WP (mOp Aa (AD i) (AF BS (AC (AD j) (AC (AF Bk (AC (AD i) AI)) AI))) B) (Z++gs) QD:=by
 have hp:0<xs.length:=List.length_pos_iff.mpr hne;refine Ae (AK hi (AU (AL (AK hj (AL (AU (AL (AK hi (AN (wz_lenL (AN ?_)))))))))));rw[AAF];refine DJ hw (by omega) (by omega) λr Z' h0 h1 u hw'=>?_;obtain⟨a,ha,ea⟩:=To (f:=D.str) (xs:=xs) h0 h1;exact Cm ea (q a ha Z' u hw')
theorem RU{xs:List Str}(hi:B[i]?=some (some (.lst (xs.map D.str))))(hg:∀x∈xs,GoodName x)(q:QB (!xs.isEmpty) Z):WP (AW (mOp B4 (AD i) (AF A4 AI)) B) Z QB:=by
 refine Am (Ae (AK hi (AU (AN (A0 (by simp) (K21.Oj (VW hg).1 (VW hg).2 ⟨_,rfl,?_⟩))))));rw[show (xs.map D.str).isEmpty=xs.isEmpty from by cases xs<;>rfl];exact q
theorem RY(h1:∀QB:Bool->Mh->Prop,QB b1 Z->WP (tc B) Z QB)(h2:∀QB:Bool->Mh->Prop,QB b2 Z->WP (tb B) Z QB)(q:QB (b1&&b2) Z):WP (N5 tc tb B) Z QB:=by
 refine VA (h1 _ ?_);cases b1
 ·exact q
 ·exact h2 _ q
theorem X3{own bxs ns:List Str}{wr:Bool}{many:Nat}{gs:Mh}(hm:many<=60)(ho:∀x∈own,GoodName x)(hb:∀x∈bxs,GoodName x)(hn:∀x∈ns,GoodName x/\x∉(["v", "not", "and", "or"]:List Str))(hne:ns≠[])(lo:own.length<=100)(lb:bxs.length<=100)(ln:ns.length<=9)(hw:WellAt Z w)
  (q:∀(r:Rw) (Z':Mh),r.Drawn own bxs ns wr many->Rw.Rd r->Upd w Z Z'->QD (.lst ((Rw.ws r).map D.str)) (Z'++gs)):WP (Lk [.ref w,.lst (own.map D.str),.lst (bxs.map D.str),.lst (ns.map D.str),.int many,.bl wr]) (Z++gs) QD:=by
 have hs:∀x∈Qd ns wr,RD x:=λx hx=>by
  rcases AAJ.mp hx with z|z
  ·exact⟨(hn x z).1,λq=>(hn x z).2 (by simp at q ⊢;exact .inr q)⟩
  ·cases wr with
   |true=>simp at z;subst z;exact⟨⟨by decide +kernel,by decide +kernel,by unfold EM;decide +kernel⟩,by decide +kernel⟩
   |false=>simp at z
 have hsl:(Qd ns wr).length<=10:=by
  unfold Qd;rw[AAG];cases wr<;>simp<;>omega
 have gn:∀x∈ns,GoodName x:=λx hx=>(hn x hx).1;have fin:∀{r:Rw} {w9:Mh} {v6:Sl},r.Drawn own bxs ns wr many->Rw.Rd r->Upd w Z w9->∃d x8 ν gs1,((Fl.rt (.lst ((Rw.ws r).map D.str)),v6):Fl×Sl)=(.rt d,x8)/\w9++gs=ν++gs1/\Upd w (Z++gs) ν/\Cl (Z++gs).length d/\QD d ν:=λ{r w9 v6} h hr u=>⟨_,_,w9++gs,[],rfl,by simp,YC u hw,by unfold Cl;exact clS _,q r w9 h hr u⟩;unfold Lk;refine Ol (w:=w) rfl ?_;unfold Wn;refine Af (A6 (AU (AL (AK rfl (AL (Az (AN (DJ hw (by decide) (by decide) λway w9 h0 h1 u1 hw1=>?_))))))));refine AS (Af (A6 (AU (AL (AK rfl (AL (Xn (by omega) rfl rfl (AN (U2 hs hsl hw1 λe x6 he hv u2=>?_)))))))));have hw2:=u2.well hw1.lt;have u12:=u1.trans u2;have l5:=Dk he;have eo:=SJ he;refine AS (Af (BQ (RY (b1:=way==0) (b2:=!own.isEmpty) (λ_ z=>Am (Ae (AK rfl (Az (Eu ⟨_,rfl,z⟩))))) (λ_ z=>RU rfl ho z) ?_)));cases c1:(way==0&&!own.isEmpty) with
 |true=>
  simp at c1;refine CF (Cc (Ae (AU (AL (Az (AL (KA rfl rfl hw2 c1.2 (by omega) λa ha v7 u3 hw3=>AN (A0 (by rw[sizeLine_eq];simp) (AK rfl (Ca (by simp;omega) (Fz ?_)))))))))));exact fin (r:=.put a e) ⟨⟨ho a ha,eo⟩,trivial,hv,ha⟩ ⟨ho a ha,he⟩ (u12.trans u3)
 |false=>
 refine A9 (CO (AS (Af (BQ (RY (b1:=decide (way<3)) (b2:=!bxs.isEmpty) (λ_ z=>Am (Ae (AK rfl (Az (MT ⟨_,rfl,z⟩))))) (λ_ z=>RU rfl hb z) ?_)))));cases c2:(decide (way<3)&&!bxs.isEmpty) with
 |true=>
  simp at c2;refine CF (Cc (AU (AL (Az (AL (KA rfl rfl hw2 hne (by omega) λa ha v7 u3 hw3=>AL (KA rfl rfl hw3 c2.2 (by omega) λa2 ha2 v9 u4 hw4=>AN (A0 (by rw[sizeLine_eq];simp) (Fz ?_)))))))));exact fin (r:=.get a a2) ⟨⟨gn a ha,hb a2 ha2⟩,trivial,λx hx=>AAa _ (by rw[show x=a from by simpa[Rw.vars] using hx];exact ha),ha,ha2⟩ ⟨gn a ha,hb a2 ha2⟩ (u12.trans (u3.trans u4))
 |false=>
 have tgt:∀{QD:D->Mh->Prop} {B:Sl},B[0]?=some (some (.ref w))->B[4]?=some (some (.int many))->(∀(t:Int) (Z':Mh),0<=t->t<=many->Upd w x6 Z'->QD (.str (toS t)) (Z'++gs))->WP (AF DA (AC (AF BS (AC (AD 0) (AC (mOp Av (AD 4) (mC (.int 1))) AI))) AI) B) (x6++gs) QD:=λ{QD B} i0 i4 z=>
  AU (AL (AU (AL (AK i0 (AL (Ae (AK i4 (Az (Ee (AN (DJ hw2 (by omega) (by omega) λt Z' g0 g1 u' hw'=>AN (wz_strI g0 (by omega) (z t Z' g0 (by omega) u')))))))))))))
 refine A9 (CO (AS (Af (BQ (Am (Ae (AK rfl (Az (Eu ⟨_,rfl,?_⟩)))))))));cases c3:(way==3) with
 |true=>
  refine CF (Cc (Ae (AU (AL (Az (AL (tgt rfl rfl λt v7 t0 t1 u3=>AN (A0 (by rw[sizeLine_eq];simp) (AK rfl (Ca (by simp;omega) (Fz ?_)))))))))));exact fin (r:=.unless e t) ⟨⟨eo,t0,t1⟩,trivial,hv,trivial⟩ ⟨he,t0,by omega⟩ (u12.trans u3)
 |false=>
 refine A9 (CO (AS (Af (BQ (Am (Ae (AK rfl (Az (Eu ⟨_,rfl,?_⟩)))))))));cases c4:(way==4) with
 |true=>
  refine CF (Cc (AU (AL (Az (AL (tgt rfl rfl λt v7 t0 t1 u3=>AN (A0 (by rw[sizeLine_eq];simp) (Fz ?_))))))));exact fin (r:=.jump t) ⟨⟨t0,t1⟩,trivial,(λx hx=>nomatch hx),trivial⟩ ⟨t0,by omega⟩ (u12.trans u3)
 |false=>
 refine A9 (CO (AS (Af (BQ (Am (Ae (AK rfl (Az (Eu ⟨_,rfl,?_⟩)))))))));cases c5:(way==5) with
 |true=>
  refine CF (Cc (Ae (AU (AL (Ae (AU (AL (Az (AN (A0 (by rw[sizeLine_eq];simp) (AK rfl (Ca (by simp;omega) ?_))))))))))));refine AL (AU (AL (Az (AN (A0 (by rw[sizeLine_eq];simp) (AN (A0 (by rw[sizeLine_eq];simp) (AU (AL (AK rfl (AN ?_)))))))))));cases wr with
  |true=>
   refine An (a:=.int 1) (Z':=x6++gs) rfl (Cm rfl (Fz ?_));exact fin (r:=.done) ⟨trivial,rfl,(λx hx=>nomatch hx),trivial⟩ trivial u12
  |false=>
   refine An (a:=.int 0) (Z':=x6++gs) rfl (Cm rfl (Fz ?_));exact fin (r:=.tell e) ⟨eo,rfl,hv,trivial⟩ he u12
 |false=>
 refine A9 (CO (AS (Cc (Ae (AU (AL (Az (AL (KA rfl rfl hw2 hne (by omega) λa ha v7 u3 hw3=>AN (A0 (by rw[sizeLine_eq];simp) (AK rfl (Ca (by simp;omega) ?_))))))))))));exact fin (r:=.letr a e) ⟨⟨gn a ha,eo⟩,trivial,λx hx=>by
  rcases AAI.mp hx with rfl|hx
  ·exact AAa _ ha
  ·exact hv x hx,ha⟩ ⟨gn a ha,he⟩ (u12.trans u3)
end
noncomputable abbrev hW(h:Hd):D:=.lst ((Hd.ws h).map D.str)
noncomputable abbrev bW(b:Bx):D:=.lst ((Bx.ws b).map D.str)
noncomputable abbrev rW(r:Rw):D:=.lst ((Rw.ws r).map D.str)
noncomputable abbrev pW(h:Hd):D:=.lst (h.rs.map rW)
noncomputable abbrev hNames:List Str:=["w", "rr", "get", "jump"]
noncomputable abbrev bNames:List Str:=["b", "bb", "put", "steady", "tell", "hand"]
noncomputable abbrev vNames:List Str:=["x", "num", "var", "done"]
noncomputable abbrev W0:List Str:=["safe", "steady", "whole"]
theorem OE{l:List Str}(h:(l.all λx=>decide (1<=x.length)&&decide (x.length<=8)&&x.cps.toList.all (λc=>decide (97<=c)&&decide (c<123)))=true):∀x∈l,GoodName x:=λx hx=>by
 have:=List.all_eq_true.mp h x hx;simp only[Bool.and_eq_true,decide_eq_true_eq] at this;exact⟨this.1.1,this.1.2,λc hc=>by have:=List.all_eq_true.mp this.2 c hc;simpa using this⟩
theorem c7:∀x∈hNames,GoodName x:=OE (by decide +kernel)
theorem dU:∀x∈bNames,GoodName x:=OE (by decide +kernel)
theorem VG:∀x∈vNames,GoodName x:=OE (by decide +kernel)
theorem di:∀x∈vNames,x∉(["v", "not", "and", "or"]:List Str):=by decide +kernel
section
variable{Z:Mh}{B:Sl}{QL:List D->Mh->Prop}{QS:Fl×Sl->Mh->Prop}{w L:Nat}{b:Int}
theorem QW(hl:nms.length<=10)(hw:WellAt Z w)(q:∀(hs:List Hd) (Z':Mh),hs.map Hd.nm=nms->(∀h∈hs,0<=h.wi/\h.wi<=400)->Upd w Z Z'->WellAt Z' w->QL (hs.map hW) Z'):
  WP (Dp (AR 0) Ba (AF A4 (AC (mC (.str "hand")) (AC (AD 0) (AC (AF DA (AC (AF BS (AC (AD 1) (AC (mC (.int 401)) AI))) AI)) AI)))) [none,some (.ref w)] (nms.map D.str) []) Z QL:=by
 refine HJ (I:=λxs ys ν=>∃(hs:List Hd) (rest:List Str),hs.map Hd.nm++rest=nms/\xs=rest.map D.str/\ys=hs.map hW/\Upd w Z ν/\WellAt ν w/\∀h∈hs,0<=h.wi/\h.wi<=400) ?_ ?_ ⟨[],nms,rfl,rfl,rfl,hw.refl,hw,λ_ z=>nomatch z⟩
 ·rintro x xs ys ν ⟨hs,rest,e,er,rfl,u,hw',ok⟩;cases rest with
  |nil=>cases er
  |cons nm rest=>
   obtain⟨rfl,rfl⟩:=List.cons.inj er;refine A5 (Cb ⟨λ_=>?_,λz=>nomatch z⟩);wtm_at "a";refine NX hw' (by decide) (by decide) λi k9 h0 h1 u1 hw1=>?_;refine AN (wz_strI h0 (by omega) (AN (A0 (by rw[sizeLine_eq];simp) ?_)));refine⟨hs++[⟨nm,i,[]⟩],rest,by simpa using e,rfl,by simp[Hd.ws],u.trans u1,hw1,λh hh=>?_⟩;rcases AAJ.mp hh with z|z
   ·exact ok h z
   ·rw[AAK] at z;subst z;exact⟨h0,by show i<=400;omega⟩
 ·rintro ys ν ⟨hs,rest,e,er,rfl,u,hw',ok⟩;cases rest with
  |cons nm rest=>cases er
  |nil=>rw[AAY] at e;exact q hs ν e ok u hw'
noncomputable abbrev h9:Sl->M (Fl×Sl):=(AT (A2 (mOp Av (mC (.int 2)) (AF BS (AC (AD 0) (AC (mC (.int 9)) AI)))) (AR 4))
  (AT (A2 (AF A4 (AC (mC (.str "box")) (AC (AD 3) (AC (mOp Aa (AF A4 (AC (mC (.str "safe")) (AC (mC (.str "steady")) (AC (mC (.str "whole")) AI)))) (AF BS (AC (AD 0) (AC (mC (.int 3)) AI)))) (AC (AF DA (AC (AD 4) AI)) (AC (AF DA (AC (AF BS (AC (AD 0) (AC (AD 4) AI))) AI)) AI)))))) (AR 5))
  (Ag (A3 C9 (AD 2) (AC (mOp Av (AD 5) (AF A4 (AC (mOp Aa (mOp Aa (AD 1) (AF BS (AC (AD 0) (AC (AF Bk (AC (AD 1) AI)) AI)))) (mC (.int 1))) AI))) AI)))))
noncomputable abbrev bSl(w L:Nat)(hs:List Hd)(o3 o4 o5:Option D):Sl:=[some (.ref w),some (.lst (hs.map hW)),some (.ref L),o3,o4,o5,none,none,none,none,none,none,none]
structure dZ(hs:List Hd)(b:Bx):Prop where
 worth:FY b.kd b.sz b.bg
 wr:b.wr∈hs.map Hd.nm
theorem QY(hl:nms.length<=10)(hne:hs≠[])(hsl:hs.length<=10)(hL:Z.length=L)(hw:WellAt Z w)(q:∀(bs:List Bx) (Z':Mh) (o3 o4 o5:Option D),bs.map Bx.nm=nms->(∀b∈bs,dZ hs b)->Upd w Z Z'->WellAt Z' w->QS (.next,bSl w L hs o3 o4 o5) (Z'++[.lst (bs.map bW)])):
  WP (BR (AR 3) h9 (nms.map D.str) (bSl w L hs none none none)) (Z++[.lst []]) QS:=by
 refine Ev (I:=λxs B ν=>∃(bs:List Bx) (rest:List Str) (Z':Mh) (o3 o4 o5:Option D),bs.map Bx.nm++rest=nms/\xs=rest.map D.str/\B=bSl w L hs o3 o4 o5/\ν=Z'++[.lst (bs.map bW)]/\Upd w Z Z'/\WellAt Z' w/\∀b∈bs,dZ hs b) ?_ ?_ ⟨[],nms,Z,none,none,none,rfl,rfl,rfl,rfl,hw.refl,hw,λ_ z=>nomatch z⟩
 ·rintro x xs B ν ⟨bs,rest,Z',o3,o4,o5,e,er,rfl,rfl,u,hw',ok⟩;cases rest with
  |nil=>cases er
  |cons nm rest=>
   obtain⟨rfl,rfl⟩:=List.cons.inj er;have hbl:bs.length<=10:=by have:=congrArg List.length e;simp at this;omega
   refine A5 (Af (A6 ?_));wtm_at "a";refine DJ hw' (by decide) (by decide) λs w9 s0 s1 u1 hw1=>?_;refine Ee (AS (Af (A6 ?_)));wtm_at "a";refine DJ hw1 (by decide) (by decide) λk x6 k0 k1 u2 hw2=>?_;obtain⟨kd,hkd,ek⟩:=To (f:=D.str) (xs:=W0) k0 (by show k<3;omega);refine Cm ek ?_;wtm_at "a";refine wz_strI (by omega) (by omega) ?_;wtm_at "a";refine DJ hw2 (by omega) (by omega) λg v7 g0 g1 u3 hw3=>?_;refine AN (wz_strI g0 (by omega) (AN (A0 (by rw[sizeLine_eq];simp) (AS ?_))));have hL3:v7.length=L:=by rw[u3.len,u2.len,u1.len,u.len,hL]
   refine BY (Ft rfl (Bz hL3) ?_);wtm_at "a";have hp:0<hs.length:=List.length_pos_iff.mpr hne;refine DJ hw3 (by rw[AAF];omega) (by rw[AAF];omega) λj v9 j0 j1 u4 hw4=>?_;obtain⟨h,hh,eh⟩:=To (f:=hW) (xs:=hs) j0 (by rw[AAF] at j1;exact j1);refine Cm eh (Az (Cm rfl (AN (A0 (by rw[sizeLine_eq];simp) (Ca (by simp) (AN ?_))))));have hL4:v9.length=L:=by rw[u4.len,hL3]
   refine⟨_,_,rfl,Bz hL4,by rw[AAF];omega,?_⟩;rw[EC hL4];refine BV ⟨bs++[⟨nm,kd,2+s,g,h.nm⟩],rest,v9,_,_,_,by simpa using e,rfl,rfl,by simp[Bx.ws],u.trans (u1.trans (u2.trans (u3.trans u4))),hw4,λb hb=>?_⟩;rcases AAJ.mp hb with z|z
   ·exact ok b z
   ·rw[AAK] at z;subst z;exact⟨⟨hkd,by show 2<=2+s;omega,by show 2+s<=10;omega,g0,by show g<=2+s-1;omega⟩,List.mem_map_of_mem hh⟩
 ·rintro B ν ⟨bs,rest,Z',o3,o4,o5,e,er,rfl,rfl,u,hw',ok⟩;cases rest with
  |cons nm rest=>cases er
  |nil=>rw[AAY] at e;exact q bs Z' o3 o4 o5 e ok u hw'
end
mutual
theorem Qz:∀(n:Nat) (d:D),Cl 0 d->Cz ν k n d=d
 |0,_,_=>rfl
 |n+1,.tup ds,c=>by unfold Cz;unfold Cl at c;rw[Ix n ds c]
 |n+1,.lst ds,c=>by unfold Cz;unfold Cl at c;rw[Ix n ds c]
 |n+1,.ref j,c=>by unfold Cl at c;omega
 |n+1,.non,_=>by unfold Cz;rfl
 |n+1,.bl _,_=>by unfold Cz;rfl
 |n+1,.int _,_=>by unfold Cz;rfl
 |n+1,.str _,_=>by unfold Cz;rfl
 |n+1,.ty _,_=>by unfold Cz;rfl
 |n+1,.scr _,_=>by unfold Cz;rfl
theorem Ix:∀(n:Nat) (ds:List D),ClL 0 ds->ds.map (Cz ν k n)=ds
 |_,[],_=>rfl
 |n,d::ds,c=>by unfold ClL at c;rw[AAW,Qz n d c.1,Ix n ds c.2]
end
theorem G7{α:Type}{f:α->D}(h:∀a,Cl k (f a)):∀xs:List α,ClL k (xs.map f)
 |[]=>by unfold List.map ClL;trivial
 |x::xs=>by rw[AAW];unfold ClL;exact⟨h x,G7 h xs⟩
theorem UP(xs:List Str):Cl k (.lst (xs.map D.str)):=by unfold Cl;exact clS _
theorem gH{k:Nat}(h:Hd):Cl k (pW h):=by unfold pW Cl;exact G7 (λr=>UP _) _
noncomputable abbrev Ow(m:Mk):D:=.tup [.lst ((Mk.ws m).map D.str),.lst (m.bs.map bW),.lst (m.hs.map hW),.lst (m.hs.map pW)]
section
variable{Z:Mh}{B:Sl}{QL:List D->Mh->Prop}{QS:Fl×Sl->Mh->Prop}{w L:Nat}{b:Int}{y:D}
noncomputable abbrev bC:Sl->M D:=(AF Lk (AC (AD 6) (AC (AD 5) (AC (BU 1 [] (LZ (AD 1)) (AR 0) Ba (mOp Aa (AD 0) (mC (.int 1))) A4) (AC (AD 4) (AC (AD 3) (AC (mOp A8 (AD 2) (mC (.int 0))) AI)))))))
theorem TY{bs:List Bx}{own ns:List Str}{many k:Nat}{o:MO}(hL:Z.length=L)(hw:WellAt Z w)(hm:many<=60)(ho:∀x∈own,GoodName x)(hb:∀x∈bs.map Bx.nm,GoodName x)(hn:∀x∈ns,GoodName x/\x∉(["v", "not", "and", "or"]:List Str))(hne:ns≠[])(lo:own.length<=100)(lb:bs.length<=100)(ln:ns.length<=9)
  (q:∀(rs:List Rw) (Z':Mh),rs.length=many->(∀r∈rs,r.Drawn own (bs.map Bx.nm) ns (k==0) many/\Rw.Rd r)->Upd w Z Z'->WellAt Z' w->QL (rs.map rW) (Z'++[.lst (bs.map bW),o])) :
  WP (Dp (AR 0) Ba bC [none,some (.ref L),some (.int k),some (.int many),some (.lst (ns.map D.str)),some (.lst (own.map D.str)),some (.ref w)] ((List.range many).map λ(i:Nat)=>D.int (i:Int)) []) (Z++[.lst (bs.map bW),o]) QL:=by
 refine VB (I:=λj ys ν=>∃(rs:List Rw) (Z':Mh),rs.length=j/\ys=rs.map rW/\ν=Z'++[.lst (bs.map bW),o]/\(∀r∈rs,r.Drawn own (bs.map Bx.nm) ns (k==0) many/\Rw.Rd r)/\Upd w Z Z'/\WellAt Z' w) ?_ ?_ ⟨[],Z,rfl,rfl,rfl,(λ_ z=>nomatch z),hw.refl,hw⟩
 ·rintro j ys ν hj ⟨rs,Z',hr,rfl,rfl,ok,u,hw'⟩;have hL':Z'.length=L:=by rw[u.len,hL]
  refine A5 (Cb ⟨λ_=>?_,λz=>nomatch z⟩);unfold bC;refine AU (AL (AK rfl (AL (AK rfl (AL (Cd (K21.Rg rfl (Bz hL') ⟨by rw[AAF,sizeLine_eq];omega,?_⟩)))))));refine Ch bW (λ_=>true) (λb=>D.str b.nm) (λb hb=>A5 ⟨rfl,Cb ⟨rfl,rfl,λ_=>Ae (AK rfl (Az (Cm rfl ⟨rfl,rfl⟩)))⟩⟩) ?_;rw[fil];refine A0 (by rw[AAF,sizeLine_eq];omega) (AL (AK rfl (AL (AK rfl (AL (Ae (AK rfl (Az (Eu (AN ?_))))))))));rw[show (bs.map λb=>D.str b.nm)=(bs.map Bx.nm).map D.str from by simp,show ((k:Int)==0)=(k==0) from by
   by_cases z:k=0
   ·subst z;rfl
   ·rw[AAd.mpr z,AAd.mpr (by omega)]]
  refine X3 hm ho hb hn hne lo (by rw[AAF];exact lb) ln hw' λr x6 hd hrd u2=>?_;exact⟨rs++[r],x6,by simp[hr],by simp,rfl,λr' hr'=>by
   rcases AAJ.mp hr' with z|z
   ·exact ok r' z
   ·rw[AAK] at z;subst z;exact⟨hd,hrd⟩,u.trans u2,u2.well hw'.lt⟩
 ·rintro ys ν ⟨rs,Z',hr,rfl,rfl,ok,u,hw'⟩;exact q rs Z' hr ok u hw'
noncomputable abbrev gt:Sl->M (Fl×Sl):=(AT (A2 (BU 1 [1,7] (LZ (AD 2)) (AR 0) (AW (mOp A8 (mOp Aa (AD 0) (mC (.int 5))) (mOp Aa (mOp Aa (AD 1) (AD 2)) (mC (.int 1))))) (mOp Aa (AD 0) (mC (.int 1))) A4) (AR 8))
  (AT (A2 (AF BS (AC (AD 0) (AC (mC (.int 13)) AI))) (AR 9))
  (AT (A2 (Fm (AF A4 (AC (mC (.str "x")) (AC (mC (.str "num")) (AC (mC (.str "var")) (AC (mC (.str "done")) AI))))) B5 (CY (mOp Av (mC (.int 1)) (AF BS (AC (AD 0) (AC (mC (.int 4)) AI)))))) (AR 10))
  (AT (A2 (BU 1 [2,7,9,10,8,0] (La (AC (AD 9) AI)) (AR 0) Ba bC A4) (AR 11))
  (Ag (A3 C9 (AD 6) (AC (AD 11) AI)))))))
noncomputable abbrev pSl(w L:Nat)(hs:List Hd)(o3 o4 o5 o7 o8 o9 o10 o11:Option D):Sl:=[some (.ref w),some (.lst (hs.map hW)),some (.ref L),o3,o4,o5,some (.ref (L+1)),o7,o8,o9,o10,o11,none]
noncomputable abbrev FO:List Str:=["x", "num", "var", "done", "v"]
structure gQ(bs:List Bx)(i:Nat)(h:Hd):Prop where
 most:h.rs.length<=60
 vars:∀r∈h.rs,∀x∈r.vars,x∈FO
 rows:∀r∈h.rs,r.Ok (bs.map kv) h.nm (i==0) h.rs.length
theorem aH:∀a b:List Hd,a.map Hd.nm=b.map Hd.nm->a.map Hd.wi=b.map Hd.wi->a.map hW=b.map hW
 |[],[],_,_=>rfl
 |[],_::_,h,_=>by cases h
 |_::_,[],h,_=>by cases h
 |x::a,y::b,h1,h2=>by
  obtain⟨e1,h1⟩:=List.cons.inj h1;obtain⟨e2,h2⟩:=List.cons.inj h2;rw[AAW,AAW,aH a b h1 h2];unfold hW Hd.ws;rw[e1,e2]
theorem TZ{bs:List Bx}{hs:List Hd}{o3 o4 o5:Option D}(hsl:hs.length<=10)(hg:∀h∈hs,GoodName h.nm)(hbg:∀b∈bs,GoodName b.nm)(hbo:∀b∈bs,dZ hs b)(hnd:(bs.map Bx.nm).Nodup)(lb:bs.length<=10)(hL:Z.length=L)(hw:WellAt Z w)
  (q:∀(hs':List Hd) (Z':Mh) (o7 o8 o9 o10 o11:Option D),hs'.map hW=hs.map hW->hs'.map Hd.nm=hs.map Hd.nm->hs'.map Hd.wi=hs.map Hd.wi->(∀(i:Nat) (h:Hd),hs'[i]?=some h->gQ bs i h)->Upd w Z Z'->WellAt Z' w->QS (.next,pSl w L hs o3 o4 o5 o7 o8 o9 o10 o11) (Z'++[.lst (bs.map bW),.lst (hs'.map pW)])) :
  WP (BR (AR 7) gt ((List.range hs.length).map λ(i:Nat)=>D.int (i:Int)) (pSl w L hs o3 o4 o5 none none none none none)) (Z++[.lst (bs.map bW),.lst []]) QS:=by
 refine aY (I:=λj B ν=>∃(hs':List Hd) (Z':Mh) (o7 o8 o9 o10 o11:Option D),hs'.length=j/\hs'.map Hd.nm=(hs.take j).map Hd.nm/\hs'.map Hd.wi=(hs.take j).map Hd.wi/\(∀(i:Nat) (h:Hd),hs'[i]?=some h->gQ bs i h)/\Upd w Z Z'/\WellAt Z' w/\B=pSl w L hs o3 o4 o5 o7 o8 o9 o10 o11/\ν=Z'++[.lst (bs.map bW),.lst (hs'.map pW)]) ?_ ?_ ⟨[],Z,none,none,none,none,none,rfl,rfl,rfl,(λi h e=>by simp at e),hw.refl,hw,rfl,rfl⟩
 ·rintro j B ν hj ⟨hs',Z',o7,o8,o9,o10,o11,hlen,hnm,hwi,ok,u,hw',rfl,rfl⟩;have hL':Z'.length=L:=by rw[u.len,hL]
  obtain⟨h,eh⟩:∃h,hs[j]?=some h:=⟨hs[j],AAr hj⟩;have hmem:=AAU eh;have ghn:=hg h hmem;have ehd:atI (hs.map hW) ((j:Nat):Int)=some (hW h):=by rw[GF (j:=j) (by rw[AAV,eh];rfl)]
  refine A5 (Af (A6 (Cd (K21.Rg rfl (Bz hL') ⟨by rw[AAF,sizeLine_eq];omega,?_⟩))));refine Ch bW (λb=>b.wr==h.nm) (λb=>D.str b.nm) (λb hb=>A5 ⟨rfl,?_⟩) ?_
  ·have wb:GoodName b.wr:=by
    obtain⟨z,hz,e⟩:=AAL.mp (hbo b hb).wr;rw[←e];exact hg z hz
   refine Am (Ae (Ae (AK rfl (Az (Cm rfl (Ae (Ae (AK rfl (AK rfl (Cm ehd (Az (Cm rfl (Kn wb.ok ghn.ok ⟨_,rfl,rfl,rfl,λ_=>?_⟩)))))))))))));exact Ae (AK rfl (Az (Cm rfl ⟨rfl,rfl⟩)))
  have hown:((bs.filter λb=>b.wr==h.nm).map λb=>D.str b.nm)=(own bs h.nm).map D.str:=by unfold own;rw[List.map_map];rfl
  have hol:(own bs h.nm).length<=10:=by
   unfold own;rw[AAF];exact AAq (List.length_filter_le _ _) lb
  have hog:∀x∈own bs h.nm,GoodName x:=λx hx=>by
   unfold own at hx;obtain⟨b,hb,e⟩:=AAL.mp hx;rw[←e];exact hbg b (List.mem_filter.mp hb).1
  rw[hown];refine A0 (by rw[AAF,sizeLine_eq];omega) (AS (Af (A6 ?_)));wtm_at "a";refine DJ hw' (by decide) (by decide) λmi w9 m0 m1 u1 hw1=>?_;obtain⟨many,rfl⟩:=Int.eq_ofNat_of_zero_le m0;refine AS (Af (A6 ?_));wtm_at "a";refine DJ hw1 (by decide) (by decide) λc x6 c0 c1 u2 hw2=>?_;refine Ee ⟨_,rfl,?_⟩;obtain⟨cn,rfl⟩:=Int.eq_ofNat_of_zero_le c0;refine J9 (1+cn) (by omega) ?_;have ev:[D.str "x",D.str "num",D.str "var",D.str "done"].take (1+cn)=(vNames.take (1+cn)).map D.str:=by rw[List.map_take];rfl
  rw[ev];have hL2:x6.length=L:=by rw[u2.len,u1.len,hL']
  refine AS (Af (A6 (Cd (NW (AL (AK rfl (AN ⟨many,rfl,by omega,by rw[AAF,List.length_range,sizeLine_eq];omega,?_⟩)))))));refine TY hL2 hw2 (by omega) hog (λx hx=>by obtain⟨b,hb,e⟩:=AAL.mp hx;rw[←e];exact hbg b hb) (λx hx=>⟨VG x (List.mem_of_mem_take hx),di x (List.mem_of_mem_take hx)⟩) (λz=>by have:=congrArg List.length z;rw[List.length_take] at this;simp at this) (by omega) (by omega) (by rw[List.length_take];simp;omega) λrs v7 hrs hrr u3 hw3=>?_;refine A0 (by rw[AAF,sizeLine_eq];omega) (AS (BY ?_));have hL3:v7.length=L:=by rw[u3.len,hL2]
  have at3:(v7++[MO.lst (bs.map bW),.lst (hs'.map pW)])[L+1]?=some (.lst (hs'.map pW)):=GE (js:=[]) hL3;have set3:∀p:MO,(v7++[MO.lst (bs.map bW),.lst (hs'.map pW)]).set (L+1) p=v7++[MO.lst (bs.map bW),p]:=λp=>Ni (js:=[]) hL3;refine Ft rfl at3 (AL (AK rfl (AN ⟨_,_,rfl,at3,by rw[AAF];omega,?_⟩)));rw[set3];refine BV ⟨hs'++[⟨h.nm,h.wi,rs⟩],v7,_,_,_,_,_,by simp[hlen],?_,?_,?_,u.trans (u1.trans (u2.trans u3)),hw3,rfl,by simp⟩
  ·rw[AAX,hnm,List.take_succ,eh];simp
  ·rw[AAX,hwi,List.take_succ,eh];simp
  ·intro i k e;by_cases hi:i<hs'.length
   ·rw[AAS hi] at e;exact ok i k e
   ·have hi2:=(AAT.mp e).1;simp at hi2;have hik:i=hs'.length:=by omega
    subst hik;rw[List.getElem?_concat_length] at e;cases e;refine⟨by show rs.length<=60;omega,λr hr x hx=>?_,λr hr=>?_⟩
    ·rcases AAJ.mp (show x∈vNames.take (1+cn)++_ from (hrr r hr).1.vars x hx) with z|z
     ·exact(show ∀y∈vNames,y∈FO by decide +kernel) x (List.mem_of_mem_take z)
     ·split at z
      ·rw[AAK.mp z];decide +kernel
      ·cases z
    show r.Ok (bs.map kv) h.nm (hs'.length==0) rs.length;rw[hrs,hlen];exact XJ hnd (λx hx=>⟨VG x (List.mem_of_mem_take hx),di x (List.mem_of_mem_take hx)⟩) (hrr r hr).1
 ·rintro B ν ⟨hs',Z',o7,o8,o9,o10,o11,hlen,hnm,hwi,ok,u,hw',rfl,rfl⟩;rw[List.take_length] at hnm hwi;refine q hs' Z' o7 o8 o9 o10 o11 (aH hs' hs hnm hwi) hnm hwi ok u hw'
end
section
variable{Z:Mh}{QD:D->Mh->Prop}{w L:Nat}{b:Int}
theorem U0(hw:WellAt Z w)(q:∀(m:Mk) (Z':Mh),m.Ok->Mk.Rd m->(∀h∈m.hs,∀r∈h.rs,∀x∈r.vars,x∈FO)->Upd w Z Z'->WellAt Z' w->QD (Ow m) Z'):WP (KR [.ref w]) Z QD:=by
 unfold KR;refine dg (w:=w) rfl ?_;unfold SZ;refine Af (A6 (Cd (EX ?_)));wtm_at "a";refine NX hw (by decide) (by decide) λc w9 c0 c1 u1 hw1=>Ee ⟨_,rfl,?_⟩;obtain⟨cn,rfl⟩:=Int.eq_ofNat_of_zero_le c0;refine J9 (2+cn) (by omega) ?_;rw[show [D.str "w",D.str "rr",D.str "get",D.str "jump"].take (2+cn)=(hNames.take (2+cn)).map D.str from by rw[List.map_take];rfl];have hnl:(hNames.take (2+cn)).length=2+cn:=by rw[List.length_take];simp;omega
 refine Fu ⟨by rw[AAF,hnl,sizeLine_eq];omega,?_⟩;refine QW (by rw[hnl];omega) hw1 λhs x6 hnm hwi u2 hw2=>?_;have hsl:hs.length=2+cn:=by rw[←hnl,←hnm,AAF]
 have hne:hs≠[]:=λz=>by rw[z] at hsl;simp at hsl;omega
 have hg:∀h∈hs,GoodName h.nm:=λh hh=>c7 _ (List.mem_of_mem_take (by rw[←hnm];exact List.mem_map_of_mem hh));refine A0 (by rw[AAF,sizeLine_eq];omega) (AS (Af (A6 ?_)));wtm_at "a";refine DJ hw2 (by decide) (by decide) λc2 v7 d0 d1 u3 hw3=>⟨_,rfl,?_⟩;obtain⟨cb,rfl⟩:=Int.eq_ofNat_of_zero_le d0;refine J9 cb rfl ?_;rw[show [D.str "b",D.str "bb",D.str "put",D.str "steady",D.str "tell",D.str "hand"].take cb=(bNames.take cb).map D.str from by rw[List.map_take];rfl];have hbl:(bNames.take cb).length<=6:=by rw[List.length_take];simp;omega
 refine Fu ?_;have hL3:v7.length=x6.length:=u3.len;refine QY (L:=x6.length) (by omega) hne (by omega) hL3 hw3 λbs v9 o3 o4 o5 hbn hbo u4 hw4=>?_;have hL4:v9.length=x6.length:=by rw[u4.len,hL3]
 have hbsl:bs.length<=6:=by rw[←AAF (f:=Bx.nm),hbn];exact hbl
 have hbg:∀b∈bs,GoodName b.nm:=λb hb=>dU _ (List.mem_of_mem_take (by rw[←hbn];exact List.mem_map_of_mem hb));have hnd:(bs.map Bx.nm).Nodup:=by rw[hbn];exact(show bNames.Nodup by decide +kernel).sublist (List.take_sublist _ _)
 refine AS (Af (A6 (AU (AN (Fv (by simp) ?_)))));rw[AAk,show (v9++[MO.lst (bs.map bW)]).length=x6.length+1 from by rw[AAG,hL4];rfl];refine AS (Af (Fx (NW (AL (AU (AL (AK rfl (AN (wz_lenL (AN ⟨hs.length,by rw[AAF],by omega,?_⟩))))))))));refine TZ (by omega) hg hbg hbo hnd (by omega) hL4 hw4 λhs' m3 o7 o8 o9 o10 o11 hW' hnm' hwi' hok u5 hw5=>?_;refine AS (Af (A6 ?_));wtm_at "a";refine DJ hw5 (by decide) (by decide) λs μ6 s0 s1 u6 hw6=>?_;refine Ee (AS (Af (A6 ?_)));wtm_at "a";refine DJ hw6 (by decide) (by decide) λk μ7 k0 k1 u7 hw7=>?_;obtain⟨kd,hkd,ek⟩:=To (f:=D.str) (xs:=W0) k0 (by show k<3;omega);refine Cm ek ?_;wtm_at "a";refine wz_strI (by omega) (by omega) ?_;wtm_at "a";refine DJ hw7 (by omega) (by omega) λg m4 g0 g1 u8 hw8=>?_;refine AN (wz_strI g0 (by omega) (AN (A0 (by rw[sizeLine_eq];simp) (AS ?_))));wtm_at "a";have U:=u1.trans (u2.trans (u3.trans (u4.trans (u5.trans (u6.trans (u7.trans u8))))));have hL8:m4.length=x6.length:=by rw[u8.len,u7.len,u6.len,u5.len,hL4]
 have hLm:x6.length=Z.length:=by rw[u2.len,u1.len]
 have ok:(Mk.mk kd (2+s) g bs hs').Ok:=⟨⟨hkd,by show 2<=2+s;omega,by show 2+s<=10;omega,g0,by show g<=2+s-1;omega⟩,λb hb=>⟨hbg b hb,(hbo b hb).worth⟩,hbsl,hnd,λh hh=>by
   have h1:h.nm∈hs.map Hd.nm:=by rw[←hnm'];exact List.mem_map_of_mem hh
   have h2:h.wi∈hs.map Hd.wi:=by rw[←hwi'];exact List.mem_map_of_mem hh
   obtain⟨z,hz,e1⟩:=AAL.mp h1;obtain⟨z2,hz2,e2⟩:=AAL.mp h2;obtain⟨i,ei⟩:=List.mem_iff_getElem?.mp hh;refine⟨by rw[←e1];exact hg z hz,by rw[←e2];exact(hwi z2 hz2).1,by rw[←e2];exact(hwi z2 hz2).2,(hok i h ei).most⟩,by
   show 2<=hs'.length;rw[←AAF (f:=Hd.nm),hnm',AAF,hsl];omega,by
   show hs'.length<=4;rw[←AAF (f:=Hd.nm),hnm',AAF,hsl];omega,by
   show (hs'.map Hd.nm).Nodup;rw[hnm',hnm];exact(show hNames.Nodup by decide +kernel).sublist (List.take_sublist _ _),λb hb=>by
   show b.wr∈hs'.map Hd.nm;rw[hnm'];exact(hbo b hb).wr,λi h e r hr=>(hok i h e).rows r hr⟩
 refine⟨_,Ow (Mk.mk kd (2+s) g bs hs'),_,m4,[.lst (bs.map bW),.lst (hs'.map pW)],rfl,rfl,U,?_,?_,q _ _ ok (fS ok) (λh hh=>by obtain⟨i,ei⟩:=List.mem_iff_getElem?.mp hh;exact(hok i h ei).vars) U hw8⟩
 ·have a1:(m4++[MO.lst (bs.map bW),.lst (hs'.map pW)])[x6.length]?=some (.lst (bs.map bW)):=Bz hL8;have a2:(m4++[MO.lst (bs.map bW),.lst (hs'.map pW)])[x6.length+1]?=some (.lst (hs'.map pW)):=GE (js:=[]) hL8;have b1:Nat.ble Z.length x6.length=true:=by rw[hLm];exact Nat.ble_eq.mpr (AAE _)
  have b2:Nat.ble Z.length (x6.length+1)=true:=by rw[hLm];exact Nat.ble_eq.mpr (Nat.le_succ _)
  have z1:∀n,Cz (m4++[MO.lst (bs.map bW),.lst (hs'.map pW)]) Z.length (n+1) (.ref x6.length)=.lst (bs.map bW):=λn=>by
   unfold Cz;rw[b1];dsimp only;rw[a1];dsimp only;rw[Ix n _ (G7 (λb=>UP _) _)]
  have z2:∀n,Cz (m4++[MO.lst (bs.map bW),.lst (hs'.map pW)]) Z.length (n+1) (.ref (x6.length+1))=.lst (hs'.map pW):=λn=>by
   unfold Cz;rw[b2];dsimp only;rw[a2];dsimp only;rw[Ix n _ (G7 (λh=>gH h) _)]
  unfold Cz;rw[AAW,AAW,AAW,AAW,List.map_nil,z1,z2,Qz 7 (.lst [D.str "makes",D.str kd,D.str (toS (2+s)),D.str (toS g)]) (by simp[Cl,ClL]),Qz 7 (.lst (hs.map hW)) (by unfold Cl;exact G7 (λh=>UP _) _),←hW'];rfl
 ·unfold Ow Cl ClL;refine⟨UP _,?_⟩;unfold ClL;refine⟨by unfold Cl;exact G7 (λb=>UP _) _,?_⟩;unfold ClL;refine⟨by unfold Cl;exact G7 (λb=>UP _) _,?_⟩;unfold ClL;exact⟨by unfold Cl;exact G7 (λh=>gH h) _,by unfold ClL;trivial⟩
end
noncomputable abbrev lW(ws:List Str):D:=.lst (ws.map D.str)
noncomputable def Db:List Hd->List (List Str)
 |[]=>[]
 |h::hs=>Hd.ws h::(h.rs.map Rw.ws++Db hs)
theorem JX:∀a b:List Hd,Db (a++b)=Db a++Db b
 |[],b=>rfl
 |h::a,b=>by
  show Hd.ws h::(h.rs.map Rw.ws++Db (a++b))=_;rw[JX a b];simp[Db]
noncomputable def LD(m:Mk):List (List Str):=Mk.ws m::(m.bs.map Bx.ws++Db m.hs)
theorem KM(m:Mk):Bo m=(LD m).map ln:=by
 have h:∀hs:List Hd,(D6 hs).map (·.2)=(Db hs).map ln:=λhs=>by
  induction hs with
  |nil=>rfl
  |cons h hs ih=>
   show (UG h::(h.rs.map Qi++D6 hs)).map (·.2)=(Hd.ws h::(h.rs.map Rw.ws++Db hs)).map ln;rw[AAW,AAW,AAX,AAX,ih,List.map_map,List.map_map];rfl
 unfold Bo GJ LD;rw[AAW,AAW,AAX,AAX,h,List.map_map,List.map_map];rfl
theorem YN(h:Mk.Rd m):∀ws∈LD m,(∀u∈ws,Gw u)/\ws.length<=33:=by
 intro a ha;have hh:∀hs:List Hd,(∀q∈hs,q∈m.hs)->∀a∈Db hs,(∀u∈a,Gw u)/\a.length<=33:=λhs=>by
  induction hs with
  |nil=>intro _ a ha;cases ha
  |cons q hs ih=>
   intro hq a ha;have hm:=hq q AAP;have ok:=h.ok.hands q hm;rcases AAI.mp ha with rfl|ha
   ·exact⟨My ok.1 ok.2.1 ok.2.2.1,by simp[Hd.ws]⟩
   ·rcases AAJ.mp ha with ha|ha
    ·rw[AAL] at ha;obtain⟨r,hr,rfl⟩:=ha;exact⟨JP (h.rows q hm r hr),KI (h.rows q hm r hr)⟩
    ·exact ih (λz hz=>hq z (AAQ _ hz)) a ha
 rcases AAI.mp ha with rfl|ha
 ·exact⟨Mr h.ok.worth,by simp[Mk.ws]⟩
 ·rcases AAJ.mp ha with ha|ha
  ·rw[AAL] at ha;obtain⟨b,hb,rfl⟩:=ha;have ok:=h.ok.boxes b hb;exact⟨NG ok.1 ok.2 (h.wr b hb),by simp[Bx.ws]⟩
  ·exact hh m.hs (λ_ z=>z) a ha
theorem Tf(h:m.Ok):(LD m).length<=251:=by
 have:=LC h;have e:=congrArg List.length (KM m);unfold Bo at e;rw[AAF,AAF] at e;omega
theorem NR:∀xs:List α,Fr (xs.map f) (xs.map g)=xs.map λa=>D.tup [f a,g a]
 |[]=>rfl
 |a::xs=>by rw[AAW,AAW,AAW,←NR xs];rfl
section
variable{Z:Mh}{B:Sl}{QD:D->Mh->Prop}{QL:List D->Mh->Prop}{QT:Sl->Mh->Prop}{a b c d:D}
theorem aO{α:Type}{f g:α->D}{xs:List α}{i j:Nat}(hi:B[i]?=some (some (.lst (xs.map f))))(hj:B[j]?=some (some (.lst (xs.map g))))(q:QL (xs.map λa=>D.tup [f a,g a]) Z):WP (Gr Ec (AC (AD i) (AC (AD j) AI)) B) Z QL:=by
 refine AX (AL (AK hi (AL (AK hj (AN ?_)))));refine⟨_,Z,?_,q⟩;show (if (xs.map g).length=(xs.map f).length then some (Fr (xs.map f) (xs.map g),Z) else none)=_;rw[if_pos (by simp),NR]
theorem Oc(q:QT ((((B.set i (some a)).set j (some b)).set k (some c)).set l (some d)) Z):WP (DE [i,j,k,l] (.tup [a,b,c,d]) B) Z QT:=⟨_,Z,rfl,q⟩
theorem U1{m:Mk}(h:Mk.Rd m)(q:QD (.str (tx (Bo m))) Z):WP (KS [Ow m]) Z QD:=by
 have hg:=YN h;have hl:=Tf h.ok;have hb6:=h.ok.most;have hh4:=h.ok.mosth;unfold KS;refine Aw rfl ?_;unfold Sa;refine Af (U9 (AK rfl (Oc (AS (Af (A6 (Ae (AU (AL (AK rfl (AN (A0 (by rw[sizeLine_eq];simp) (AK rfl (Ca (by simp;omega) ?_))))))))))))));refine AS (Af (Fx (aO (f:=hW) (g:=pW) (xs:=m.hs) rfl rfl ?_)));refine Ev (I:=λrest B ν=>∃(done todo:List Hd) (o6 o7:Option D),done++todo=m.hs/\rest=(todo.map λh=>D.tup [hW h,pW h])/\ν=Z/\B=[some (Ow m),some (lW (Mk.ws m)),some (.lst (m.bs.map bW)),some (.lst (m.hs.map hW)),some (.lst (m.hs.map pW)),some (.lst ((Mk.ws m::(m.bs.map Bx.ws++Db done)).map lW)),o6,o7]) ?_ ?_ ⟨[],m.hs,none,none,rfl,rfl,rfl,?_⟩
 ·rintro x xs B ν ⟨done,todo,o6,o7,e,er,rfl,rfl⟩;cases todo with
  |nil=>cases er
  |cons z todo=>
   obtain⟨rfl,rfl⟩:=List.cons.inj er;have hlen:(LD m).length=(Mk.ws m::(m.bs.map Bx.ws++Db done)).length+((z.rs.map Rw.ws).length+1+(Db todo).length):=by
    unfold LD;rw[←e,JX];simp[Db];omega
   refine Fe (A6 (Ae (Ae (AK rfl (AU (AL (AK rfl (AN (A0 (by rw[sizeLine_eq];simp) (Ca (by rw[AAF,List.length_singleton];omega) (AK rfl (Ca ?_ ?_))))))))))))
   ·rw[AAG,AAF,List.length_singleton,AAF];rw[AAF] at hlen;omega
   ·refine BV ⟨done++[z],todo,some (hW z),some (pW z),by rw[←e];simp,rfl,rfl,?_⟩;have:((Mk.ws m::(m.bs.map Bx.ws++Db (done++[z]))).map lW)=(Mk.ws m::(m.bs.map Bx.ws++Db done)).map lW++[hW z]++z.rs.map rW:=by
     rw[JX];simp[Db]
    rw[this];rfl
 ·rintro B ν ⟨done,todo,o6,o7,e,er,rfl,rfl⟩;cases todo with
  |cons z todo=>cases er
  |nil=>
   rw[AAY] at e;subst e;refine AS (Cc (EN (y := "\n") (Az ⟨rfl,AL (Cd (EX (AK rfl (Fu ⟨by rw[AAF,sizeLine_eq];exact AAq hl (by decide),?_⟩))))⟩)));refine Ch (xs:=LD m) lW (λ_=>true) (λws=>D.str (ln ws)) (λws hws=>A5 ⟨rfl,Cb ⟨rfl,rfl,λ_=>EN (y := " ") (Az ⟨rfl,AL (AK rfl (AN (Kh rfl (hg ws hws).1 (by have:=(hg ws hws).2;omega) ⟨rfl,rfl⟩)))⟩)⟩⟩) ?_;rw[fil];refine A0 (by rw[AAF,sizeLine_eq];omega) (AN (Oa (ls:=Bo m) ?_ (λl hl=>?_) ?_ ⟨_,_,rfl,q⟩))
   ·rw[KM,List.map_map];rfl
   ·rw[KM] at hl;obtain⟨ws,hws,rfl⟩:=AAL.mp hl;have:=Ws (hg ws hws).1;have:=(hg ws hws).2;omega
   ·rw[KM,AAF];omega
 ·have:(Mk.ws m::(m.bs.map Bx.ws++Db [])).map lW=[lW (Mk.ws m)]++m.bs.map bW:=by simp[Db]
  rw[this];rfl
end
end K8
namespace K8
open PySem L2 Mi K1 K5
open Kst (one Hh look Dr HK Nz Ek Has Ho)
noncomputable def toX:Ex->K21.Ex
 | .num i=>.num i
 | .var x=>.var x
 | .neg e=>.neg (toX e)
 | .pair w a b=>.bin w (toX a) (toX b)
theorem Rn:∀e:Ex,(toX e).toD=e.toD
 | .num _=>rfl
 | .var _=>rfl
 | .neg e=>by unfold toX K21.Ex.toD Ex.toD;rw[Rn e]
 | .pair w a b=>by unfold toX K21.Ex.toD Ex.toD;rw[Rn a,Rn b]
noncomputable abbrev nV(E:List (Str×Int))(e:Ex):Int:=Nz E (toX e)
theorem Om:∀w∈Ax,w∈K21.words:=by unfold Ax;decide +kernel
theorem S6:∀(k:Nat) (e:Ex),Ex.Rd (k+1) e->(∀x∈e.vars,x∈ns)->Ek ns k (toX e)
 |_,.num _,_,_=>by unfold toX Ek;trivial
 |_,.var x,_,h=>by unfold toX Ek;exact h x (by simp[Ex.vars])
 |0,.neg e,h,_=>h.elim
 |k+1,.neg e,h,hv=>by unfold toX Ek;exact S6 k e h hv
 |0,.pair w a b,h,_=>h.2.1.elim
 |k+1,.pair w a b,h,hv=>by
  unfold toX Ek;exact⟨Om w h.1,S6 k a h.2.1 λx hx=>hv x (by simp[Ex.vars,hx]),S6 k b h.2.2 λx hx=>hv x (by simp[Ex.vars,hx])⟩
theorem SV(b:Bool):0<=one b/\one b<=9:=by cases b<;>decide
theorem bu(ha:0<=a/\a<=9)(hb:0<=b/\b<=9):0<=Hh w a b/\Hh w a b<=9:=by
 unfold Hh;split
 ·omega
 ·split
  ·omega
  ·split
   ·exact SV _
   ·split
    ·exact SV _
    ·split<;>exact SV _
theorem ZB(hE:∀x i,look E x=some i->0<=i/\i<=9):∀(k:Nat) (e:Ex),Ex.Rd k e->0<=nV E e/\nV E e<=9
 |0,_,h=>h.elim
 |_+1,.num i,h=>h
 |_+1,.var x,_=>by
  show 0<=(look E x).getD 0/\(look E x).getD 0<=9;cases e:look E x with
  |none=>exact⟨by decide,by decide⟩
  |some i=>exact hE x i e
 |k+1,.neg e,h=>SV _
 |k+1,.pair w a b,h=>bu (ZB hE k a h.2.1) (ZB hE k b h.2.2)
theorem aZ(h:RD x):x∉Ax:=λz=>by
 have hb:=h.1.ab;unfold Ax at z;simp only[AAI,List.not_mem_nil,or_false] at z;rcases z with rfl|rfl|rfl|rfl|rfl|rfl
 ·exact absurd hb (by unfold EM;decide +kernel)
 ·exact absurd hb (by unfold EM;decide +kernel)
 ·exact absurd hb (by unfold EM;decide +kernel)
 ·exact absurd hb (by unfold EM;decide +kernel)
 ·exact h.2 (by decide +kernel)
 ·exact h.2 (by decide +kernel)
section
variable{Z:Mh}{B:Sl}{QD:D->Mh->Prop}{QS:Fl×Sl->Mh->Prop}{ds:List D}{w L:Nat}{y:D}
theorem Ji(h:Z[n]?=some (.dK l)):C8 (.ref n) Z=some ((n,l),Z):=by unfold C8;dsimp only;rw[h]
theorem M0(h:Z[n]?=some (.dK l)):G0 (.ref n) Z=some ((),Z):=by unfold G0;rw[AV (Ji h)];rfl
theorem Od(h:WP (m B) (Z++[.dK []]) λds w9=>w9=Z++[.dK []]/\ds.length=ks.length/\QD (.ref Z.length) (Z++[.dK (ks.zip ds)])):WP (Gu ks m B) Z QD:=by
 obtain⟨ds,w9,e,rfl,hl,q⟩:=h;refine An (a:=.ref Z.length) (Z':=Z++[.dK (ks.zip ds)]) ?_ q;unfold Gu;rw[e];dsimp only;rw[Bs];dsimp only;rw[if_pos hl,PV]
theorem Uj(ht:B[i]?=some (some (.ref n)))(h0:Z[n]?=some (.dK l0))(h:WP (ra B) Z λes w9=>∃j l k,es=[.ref j]/\w9[n]?=some (.dK l)/\w9[j]?=some (.dK k)/\n≠j/\l.length+k.length<=1000/\QD .non (w9.set n (.dK (E8 l k)))):WP (IH Ln (AD i) ra B) Z QD:=by
 unfold IH;refine AX (AK ht (AX ⟨(),_,M0 h0,AX (Ai h ?_)⟩));rintro es w9 ⟨j,l,k,rfl,h1,h2,hn,hl,q⟩;refine⟨_,_,?_,q⟩;show (match w9[n]?,w9[j]? with|some (.dK l),some (.dK k)=>if n≠j/\l.length+k.length<=1000 then some (D.non,w9.set n (.dK (E8 l k))) else none|_,_=>none)=_;rw[h1,h2];dsimp only;rw[if_pos ⟨hn,hl⟩]
theorem Xs(ht:B[i]?=some (some (.ref n)))(h0:Z[n]?=some (.dK l))(hx:B[j]?=some (some (.str x)))(hz:WP (mz B) Z λd ν=>d=z/\ν=Z)(q:QD ((Dy l (.inr x)).getD z) Z):WP (Lb (AD i) (AD j) mz B) Z QD:=by
 unfold Lb;refine AX (AK ht (AX ⟨(),_,M0 h0,AX (AK hx (AX (Ai hz ?_)))⟩));rintro d ν ⟨rfl,rfl⟩;refine⟨_,_,?_,q⟩;unfold XL;rw[AV (Ji h0)];rfl
noncomputable abbrev N0:Sl->M (Fl×Sl):=(sIf (AW (mOp A8 (AD 3) (mC (.str "not")))) (Ag (A3 C9 (AD 2) (AC (AF DC (AC (mOp A8 (CI H9 (AD 2)) (mC (.int 0))) AI)) AI))) (sIf (AW (mOp (C4 false) (AD 3) (AF DL (AC (mC (.str "+")) (AC (mC (.str "-")) (AC (mC (.str "=")) (AC (mC (.str "<")) (AC (mC (.str "and")) (AC (mC (.str "or")) AI))))))))) (AT (A2 (CI H9 (AD 2)) (AR 4))
  (AT (A2 (CI H9 (AD 2)) (AR 5))
  (AT (A2 (Gu [.inr "+",.inr "-",.inr "="] (AC (AF Wk (AC (mC (.int 9)) (AC (mOp Av (AD 4) (AD 5)) AI))) (AC (AF Qp (AC (mC (.int 0)) (AC (mOp FT (AD 4) (AD 5)) AI))) (AC (AF DC (AC (mOp A8 (AD 4) (AD 5)) AI)) AI)))) (AR 6))
  (AT (Ag (IH Ln (AD 6) (AC (Gu [.inr "<",.inr "and",.inr "or"] (AC (AF DC (AC (mOp GR (AD 4) (AD 5)) AI)) (AC (AF DC (AC (mOp Hz (mOp Fi (AD 4) (AD 5)) (mC (.int 0))) AI)) (AC (AF DC (AC (mOp Hz (mOp Av (AD 4) (AD 5)) (mC (.int 0))) AI)) AI)))) AI)))
  (Ag (A3 C9 (AD 2) (AC (mOp NE (AD 6) (AD 3)) AI))))))) (Ag (A3 C9 (AD 2) (AC (Lb (AD 1) (AD 3) (mUn LK (mC (.int 1)))) AI)))))
noncomputable abbrev nSl(wD:D)(kn L:Nat)(o3 o4 o5 o6:Option D):Sl:=[some wD,some (.ref kn),some (.ref L),o3,o4,o5,o6]
theorem Gz(q:QD (.int (one b)) Z):WP (DC [.bl b]) Z QD:=⟨_,Z,rfl,q⟩
theorem PL{wD:D}{kn:Nat}{x:Str}{i:Int}{js:Mh}{rest:List D}{o3 o4 o5 o6:Option D}(hL:Z.length=L)(hk:Z[kn]?=some (.dK (Dr K)))(h1:PyData.strOk x=true)(h2:(x==("not" : Str))=false)(h3:x∉Ax)(hl:look K x=some i)(hs:st.length<1000)
  (q:∀o3':Option D,WP (BR (AR 3) N0 rest (nSl wD kn L o3' o4 o5 o6)) (Z++.lst (st++[.int i])::js) QS):WP (BR (AR 3) N0 (.str x::rest) (nSl wD kn L o3 o4 o5 o6)) (Z++.lst st::js) QS:=by
 have hkl:kn<Z.length:=(AAT.mp hk).1;refine DW (A5 ?_);unfold N0;refine BQ (Am (Ae (AK rfl (Az (BX h1 (by decide +kernel) h2 ⟨_,rfl,A9 ?_⟩)))));wtm_at "a";refine Dw (xs:=Ax) h3 ⟨_,rfl,A9 ?_⟩;refine BY (Ft rfl (Bz hL) (AL (Xs (n:=kn) (l:=Dr K) (x:=x) (z:=.int (-1)) rfl (by rw[AAS hkl];exact hk) rfl (Ds (Az ⟨_,_,rfl,rfl,rfl⟩)) ?_)));rw[HK,hl];refine AN ⟨.int i,st,rfl,Bz hL,by omega,?_⟩;rw[EC hL];exact BV (q _)
theorem Wb{w:Str}(hw:w∈Ax)(ha:0<=a/\a<=9)(hb:0<=b/\b<=9):Dy (E8 [(.inr "+",.int (if a+b<9 then a+b else 9)),(.inr "-",.int (if a-b > 0 then a-b else 0)),(.inr "=",.int (one (a==b)))] [(.inr "<",.int (one (decide (a<b)))),(.inr "and",.int (one (decide (0<a * b)))),(.inr "or",.int (one (decide (0<a+b))))]) (.inr w)=some (.int (Hh w a b)):=by
 have ea:decide (0<a * b)=(a != 0&&b != 0):=by
  by_cases h1:a=0
  ·subst h1;simp
  ·by_cases h2:b=0
   ·subst h2;simp
   ·have:0<a * b:=Int.mul_pos (by omega) (by omega);rw[AAO this];simp[h1,h2]
 have eo:decide (0<a+b)=(a != 0||b != 0):=by
  by_cases h1:a=0
  ·subst h1;by_cases h2:b=0
   ·subst h2;simp
   ·rw[AAO (by omega)];simp[h2]
  ·rw[AAO (by omega)];simp[h1]
 have e1:(if a+b<9 then a+b else 9)=min (a+b) 9:=by omega
 have e2:(if a-b > 0 then a-b else 0)=max (a-b) 0:=by omega
 rw[ea,eo,e1,e2];unfold Ax at hw;simp only[AAI,List.not_mem_nil,or_false] at hw;rcases hw with rfl|rfl|rfl|rfl|rfl|rfl<;>kernel_rfl
theorem gM:(Z++a::(js++([o]++r)))[(Z++a2::js).length]?=some o:=by
 rw[AAR (by simp),show (Z++a2::js).length-Z.length=js.length+1 from by simp];simp
theorem Wh{wD:D}{kn:Nat}{w:Str}{a b:Int}{rest:List D}{o3 o4 o5 o6:Option D}(hL:Z.length=L)(hw:w∈Ax)(ha:0<=a/\a<=9)(hb:0<=b/\b<=9)(hs:st.length<1000)
  (q:∀(js':Mh) (o3 o4 o5 o6:Option D),WP (BR (AR 3) N0 rest (nSl wD kn L o3 o4 o5 o6)) (Z++.lst (st++[.int (Hh w a b)])::js') QS):WP (BR (AR 3) N0 (.str w::rest) (nSl wD kn L o3 o4 o5 o6)) (Z++.lst (st++[.int b,.int a])::js) QS:=by
 obtain⟨w1,w2,w3,w4⟩:=Kst.str_w (Om w hw);refine DW (A5 ?_);unfold N0;refine BQ (Am (Ae (AK rfl (Az (BX w1 (by decide +kernel) w4 ⟨_,rfl,A9 ?_⟩)))));wtm_at "a";refine Fs (xs:=Ax) hw ⟨_,rfl,CF ?_⟩;refine Af (A6 (NT (ds:=st++[.int b]) (y:=.int a) rfl (by rw[Bz hL];simp) ?_));rw[EC hL];refine AS (Af (A6 (NT (ds:=st) (y:=.int b) rfl (Bz hL) ?_)));rw[EC hL];refine AS (Af (A6 (Od ?_)));refine AL (AU (AL (Az (AL (Ae (AK rfl (AK rfl (Ee (AN ⟨_,_,rfl,?_⟩)))))))));refine AL (AU (AL (Az (AL (Ae (AK rfl (AK rfl (Uu (AN ⟨_,_,rfl,?_⟩)))))))));refine AL (AU (AL (Ae (AK rfl (AK rfl (Eu (AN (Gz (AN ⟨rfl,rfl,?_⟩)))))))));refine AS (Af (BY (Uj rfl (Bs _ _) (AL (Od ?_)))));refine AL (AU (AL (Ae (AK rfl (AK rfl (MT (AN (Gz ?_))))))));refine AL (AU (AL (Ae (Ae (AK rfl (AK rfl (aV (.inl ⟨by omega,by omega⟩) (Az (Km (AN (Gz ?_)))))))))));refine AL (AU (AL (Ae (Ae (AK rfl (AK rfl (Ee (Az (Km (AN (Gz (AN ⟨rfl,rfl,?_⟩))))))))))));have hP:(Z++MO.lst st::js).length=L+1+js.length:=by rw[AAG,hL];simp;omega
 refine AN ⟨_,_,_,rfl,by rw[AAS (by simp)];exact Bs _ _,Bs _ _,by simp,by simp,?_⟩;rw[List.set_append_left _ _ (by simp),PV,AAk (Z++MO.lst st::js),AAk Z,List.cons_append];refine AS (BY (Ft rfl (Bz hL) (AL (Ae (AK rfl (AK rfl (Oh ?_ rfl (Wb hw ha hb) (AN ⟨_,_,rfl,Bz hL,by omega,?_⟩))))))))
 ·rw[hP,show L+1+js.length=(Z++MO.lst st::js).length from hP.symm];exact gM
 ·rw[EC hL];exact BV (q _ _ _ _ _)
end
section
variable{Z:Mh}{QD:D->Mh->Prop}{QS:Fl×Sl->Mh->Prop}{ds:List D}{w L:Nat}{y:D}
theorem Ny{wD:D}{kn:Nat}{ns:List Str}{E K:List (Str×Int)}(hL:Z.length=L)(hk:Z[kn]?=some (.dK (Dr K)))(hE:∀x i,look E x=some i->0<=i/\i<=9)(h1:∀x∈ns,look K x=some (nV E (.var x)))(h2:∀m:Nat,m<10->look K (toS m)=some (m:Int)):∀(k:Nat) (e:Ex),Ex.Rd k e->(∀x∈e.vars,x∈ns)->∀(rest st:List D) (js:Mh) (o3 o4 o5 o6:Option D),st.length+(Ex.words e).length<1000->
  (∀(js':Mh) (o3 o4 o5 o6:Option D),WP (BR (AR 3) N0 rest (nSl wD kn L o3 o4 o5 o6)) (Z++.lst (st++[.int (nV E e)])::js') QS)->WP (BR (AR 3) N0 (((Ex.words e).map D.str).reverse++rest) (nSl wD kn L o3 o4 o5 o6)) (Z++.lst st::js) QS
 |0,_,h,_,_,_,_,_,_,_,_,_,_=>h.elim
 |k+1,.num i,h,hv,rest,st,js,o3,o4,o5,o6,hl,q=>by
  obtain⟨m,rfl⟩:=Int.eq_ofNat_of_zero_le h.1;have hm:m<10:=by have:=h.2;omega
  obtain⟨a1,a2,a3,a4⟩:=f7 m hm;have hf:=EA (i:=(m:Int)) (by omega) (by omega);have hl:st.length+1<1000:=hl;exact PL (i:=(m:Int)) hL hk hf.ok a2 a1 (h2 m hm) (by omega) λo3'=>q js o3' o4 o5 o6
 |k+1,.var x,h,hv,rest,st,js,o3,o4,o5,o6,hl,q=>by
  have hl:st.length+1<1000:=hl;exact PL (i:=nV E (.var x)) hL hk h.1.ok (by rw[AAd];intro e;exact h.2 (by rw[e];decide +kernel)) (aZ h) (h1 x (hv x (by simp[Ex.vars]))) (by omega) λo3'=>q js o3' o4 o5 o6
 |k+1,.neg e,h,hv,rest,st,js,o3,o4,o5,o6,hl,q=>by
  have hl:st.length+((Ex.words e).length+1)<1000:=hl;have e1:((Ex.words (.neg e)).map D.str).reverse++rest=((Ex.words e).map D.str).reverse++(.str "not" :: rest):=by simp[Ex.words]
  rw[e1];refine Ny hL hk hE h1 h2 k e h hv _ _ _ _ _ _ _ (by omega) λjs' p3 p4 p5 p6=>?_;refine DW (A5 ?_);unfold N0;refine BQ (Am (Ae (AK rfl (Az (IY (by decide +kernel) (by decide +kernel) (by decide +kernel) ⟨_,rfl,CF ?_⟩)))));refine BY (Ft rfl (Bz hL) (AL (AU (AL (Ae (NT (ds:=st) (y:=.int (nV E e)) rfl (Bz hL) ?_))))));rw[EC hL];refine Az (Eu (AN (Gz (AN ⟨_,st,rfl,Bz hL,by omega,?_⟩))));rw[EC hL];exact BV (q _ _ _ _ _)
 |k+1,.pair w a b,h,hv,rest,st,js,o3,o4,o5,o6,hl,q=>by
  have hl:st.length+((Ex.words a++Ex.words b).length+1)<1000:=hl;rw[AAG] at hl;have e1:((Ex.words (.pair w a b)).map D.str).reverse++rest=((Ex.words b).map D.str).reverse++(((Ex.words a).map D.str).reverse++(.str w::rest)):=by simp[Ex.words]
  rw[e1];have wa:1<=(Ex.words a).length:=by cases a<;>simp[Ex.words]
  refine Ny hL hk hE h1 h2 k b h.2.2 (λx hx=>hv x (by simp[Ex.vars,hx])) _ _ _ _ _ _ _ (by omega) λjs' p3 p4 p5 p6=>?_;refine Ny hL hk hE h1 h2 k a h.2.1 (λx hx=>hv x (by simp[Ex.vars,hx])) _ _ _ _ _ _ _ (by rw[AAG];simp;omega) λjs2 r3 r4 r5 r6=>?_;rw[show st++[D.int (nV E b)]++[D.int (nV E a)]=st++[D.int (nV E b),D.int (nV E a)] from by simp];exact Wh hL h.1 (ZB hE k a h.2.1) (ZB hE k b h.2.2) (by omega) q
theorem X4{kn:Nat}{ns:List Str}{E K:List (Str×Int)}{e:Ex}(hk:Z[kn]?=some (.dK (Dr K)))(hE:∀x i,look E x=some i->0<=i/\i<=9)(h1:∀x∈ns,look K x=some (nV E (.var x)))(h2:∀m:Nat,m<10->look K (toS m)=some (m:Int))(he:Ex.Rd 5 e)(hv:∀x∈e.vars,x∈ns)(q:QD (.int (nV E e)) Z):WP (C5 [.lst ((Ex.words e).map D.str),.ref kn]) Z QD:=by
 have l5:=Dk he;unfold C5;refine Fy rfl ?_;unfold Mt;refine Af (A6 (AU (AN (Fv (by simp) (AS (Af (Fx (EX (Ae (AK rfl (Ds (Az ⟨_,_,rfl,?_⟩))))))))))));refine An (a:=.lst ((Ex.words e).map D.str).reverse) (Z':=Z++[.lst []]) ?_ (Fu ?_)
 ·show bnd (Co (.lst ((Ex.words e).map D.str))) (λds=>A4 ds.reverse) _=_;rw[AV (show Co (.lst ((Ex.words e).map D.str)) (Z++[.lst []])=some ((Ex.words e).map D.str,Z++[.lst []]) from rfl)];exact KL (by rw[List.length_reverse,AAF,sizeLine_eq];omega)
 rw[←AAY ((Ex.words e).map D.str).reverse];refine Ny rfl hk hE h1 h2 5 e he hv [] [] [] _ _ _ _ (by simp;omega) λjs' p3 p4 p5 p6=>IU (AS (Cc (Ae (AK rfl (Az ?_)))));refine An (N8 (Bz rfl) (GF (j:=0) rfl)) ?_;exact⟨_,_,_,rfl,rfl,by unfold Cl;trivial,q⟩
theorem X1(hk:Z[kn]?=some (.dK (Dr E)))(hE:Has ns E)(he:Ex.Rd 5 e)(hv:∀x∈e.vars,x∈ns)(q:QD (.int (nV E e)) Z):WP (Kst.f_number_of 6 [e.toD,.ref kn]) Z QD:=by
 rw[←Rn];exact Ho hE 6 (d:=4) (by decide) (S6 4 e he hv) hk q
end
section
variable{Z:Mh}{QD:D->Mh->Prop}{QL:List D->Mh->Prop}{w:Nat}{y:D}
noncomputable abbrev pD(p:Str×Int):D:=.tup [.str p.1,.int p.2]
noncomputable abbrev ten:List (Str×Int):=[("0",0),("1",1),("2",2),("3",3),("4",4),("5",5),("6",6),("7",7),("8",8),("9",9)]
noncomputable abbrev en5(a b c d e:Int):List (Str×Int):=[("x",a),("num",b),("var",c),("done",d),("v",e)]
theorem ZT(h:E.map (·.1)=FO):∃a b c d e,E=en5 a b c d e:=by
 have hl:E.length=5:=by simpa using congrArg List.length h
 match E,hl,h with
 |[(x1,a),(x2,b),(x3,c),(x4,d),(x5,e)],_,h=>
  simp only[AAW,List.map_nil,List.cons.injEq,and_true] at h;obtain⟨rfl,rfl,rfl,rfl,rfl⟩:=h;exact⟨a,b,c,d,e,rfl⟩
theorem UK(hl:nms.length<=10)(hw:WellAt Z w)(q:∀(E:List (Str×Int)) (Z':Mh),E.map (·.1)=nms->(∀p∈E,0<=p.2/\p.2<=9)->Upd w Z Z'->WellAt Z' w->QL (E.map pD) Z'):
  WP (Dp (AR 0) Ba (AF DL (AC (AD 0) (AC (AF BS (AC (AD 1) (AC (mC (.int 10)) AI))) AI))) [none,some (.ref w)] (nms.map D.str) []) Z QL:=by
 refine HJ (I:=λxs ys ν=>∃(E:List (Str×Int)) (rest:List Str),E.map (·.1)++rest=nms/\xs=rest.map D.str/\ys=E.map pD/\Upd w Z ν/\WellAt ν w/\∀p∈E,0<=p.2/\p.2<=9) ?_ ?_ ⟨[],nms,rfl,rfl,rfl,hw.refl,hw,λ_ z=>nomatch z⟩
 ·rintro x xs ys ν ⟨E,rest,e,er,rfl,u,hw',ok⟩;cases rest with
  |nil=>cases er
  |cons nm rest=>
   obtain⟨rfl,rfl⟩:=List.cons.inj er;refine A5 (Cb ⟨λ_=>?_,λz=>nomatch z⟩);wtm_at "a";refine NX hw' (by decide) (by decide) λi k9 h0 h1 u1 hw1=>?_;refine AN (IZ (by rw[sizeLine_eq];simp) ?_);refine⟨E++[(nm,i)],rest,by simpa using e,rfl,by simp,u.trans u1,hw1,λh hh=>?_⟩;rcases AAJ.mp hh with z|z
   ·exact ok h z
   ·rw[AAK] at z;subst z;exact⟨h0,by show i<=9;omega⟩
 ·rintro ys ν ⟨E,rest,e,er,rfl,u,hw',ok⟩;cases rest with
  |cons nm rest=>cases er
  |nil=>rw[AAY] at e;exact q E ν e ok u hw'
noncomputable abbrev Vp:Sl->M (Fl×Sl):=(AT (A2 (AF UL (AC (BU 1 [2] (C7 (AF A4 (AC (mC (.str "x")) (AC (mC (.str "num")) (AC (mC (.str "var")) (AC (mC (.str "done")) (AC (mC (.str "v")) AI))))))) (AR 0) Ba (AF DL (AC (AD 0) (AC (AF BS (AC (AD 1) (AC (mC (.int 10)) AI))) AI))) A4) AI)) (AR 5))
  (AT (A2 (AF OL (AC (AD 5) AI)) (AR 6))
  (AT (Ag (IH Ln (AD 6) (AC (AF UL (AC (BU 1 [] (La (AC (mC (.int 10)) AI)) (AR 0) Ba (AF DL (AC (AF DA (AC (AD 0) AI)) (AC (AD 0) AI))) A4) AI)) AI)))
  (A1 (mOp A8 (AF (Kst.f_number_of 6) (AC (AD 3) (AC (AD 5) AI))) (AF C5 (AC (AD 4) (AC (AD 6) AI))))))))
theorem fT(x:Str)(i:Int)(h:look (en5 a b c d e) x=some i):i=a∨i=b∨i=c∨i=d∨i=e:=by
 unfold look at h;rw[Option.map_eq_some_iff] at h;obtain⟨p,hp,rfl⟩:=h;have:=List.mem_of_find?_eq_some hp;simp only[AAI,List.not_mem_nil,or_false] at this;rcases this with rfl|rfl|rfl|rfl|rfl<;>simp
theorem Nn(he:Ex.Rd 5 e)(hv:∀x∈e.vars,x∈FO)(hw:WellAt Z w)(q:∀Z',Upd w Z Z'->QD (.bl true) Z'):
  WP (Vp [some d0,some d1,some (.ref w),some e.toD,some (.lst ((Ex.words e).map D.str)),none,none]) Z λr x6=>∃d x8 w9 gs,r=(.rt d,x8)/\x6=w9++gs/\Upd w Z w9/\Cl Z.length d/\QD d w9:=by
 unfold Vp;refine Af (A6 (AU (AL (Cd (EX ?_)))));wtm_at "a";refine⟨by rw[sizeLine_eq];decide,UK (nms:=FO) (by decide) hw λE w9 hE hb u1 hw1=>?_⟩;obtain⟨a,b,c,d,z,rfl⟩:=ZT hE;have hbd:∀x i,look (en5 a b c d z) x=some i->0<=i/\i<=9:=λx i h=>by
  have h1:=hb ("x",a) (by simp);have h2:=hb ("num",b) (by simp);have h3:=hb ("var",c) (by simp);have h4:=hb ("done",d) (by simp);have h5:=hb ("v",z) (by simp);rcases fT x i h with rfl|rfl|rfl|rfl|rfl<;>assumption
 refine A0 (by rw[sizeLine_eq];show 5<=_;decide) (AN ?_);refine An (a:=.ref w9.length) (Z':=w9++[.dK (Dr (en5 a b c d z))]) (by kernel_rfl) (AS (Af (A6 (AU (AL (AK rfl (AN ?_)))))));refine An (a:=.ref (w9.length+1)) (Z':=w9++[.dK (Dr (en5 a b c d z)),.dK (Dr (en5 a b c d z))]) ?_ (AS ?_)
 ·show bnd (C8 (.ref w9.length)) (λr=>λZ=>some (D.ref Z.length,Z++[MO.dK r.2])) _=_;rw[AV (Ji (Bs _ _))];simp
 have l2:(w9++[MO.dK (Dr (en5 a b c d z)),.dK (Dr (en5 a b c d z))])[w9.length+1]?=some (.dK (Dr (en5 a b c d z))):=GE (js:=[]) rfl;refine Af (BY (Uj rfl l2 (AL (AU (AL ?_)))));refine An (a:=.lst (ten.map pD)) (Z':=w9++[.dK (Dr (en5 a b c d z)),.dK (Dr (en5 a b c d z))]) (by kernel_rfl) (AN ?_);refine An (a:=.ref (w9.length+2)) (Z':=w9++[.dK (Dr (en5 a b c d z)),.dK (Dr (en5 a b c d z)),.dK (Dr ten)]) ?_ (AN ?_)
 ·show some (D.ref (w9++[MO.dK _,MO.dK _]).length,(w9++[MO.dK _,MO.dK _])++[MO.dK (E8 [] (Dr ten))])=_;rw[show E8 [] (Dr ten)=Dr ten from by kernel_rfl];simp
 have i1:∀{o1 o2 o3:MO},(w9++[o1,o2,o3])[w9.length+1]?=some o2:=λ{o1 o2 o3}=>by rw[AAR (by omega),show w9.length+1-w9.length=1 from by omega];rfl
 have i2:∀{o1 o2 o3:MO},(w9++[o1,o2,o3])[w9.length+2]?=some o3:=λ{o1 o2 o3}=>by rw[AAR (by omega),show w9.length+2-w9.length=2 from by omega];rfl
 have s1:∀{o1 o2 o3 o:MO},(w9++[o1,o2,o3]).set (w9.length+1) o=w9++[o1,o,o3]:=λ{o1 o2 o3 o}=>by rw[AAe _ _ (by omega),show w9.length+1-w9.length=1 from by omega];rfl
 refine⟨w9.length+2,_,_,rfl,i1,i2,by omega,by show 5+10<=1000;decide,AS ?_⟩;rw[s1,show E8 (Dr (en5 a b c d z)) (Dr ten)=Dr (en5 a b c d z++ten) from by kernel_rfl];have hHas:Has FO (en5 a b c d z):=λx hx=>by
  simp only[AAI,List.not_mem_nil,or_false] at hx;rcases hx with rfl|rfl|rfl|rfl|rfl<;>kernel_rfl
 have h1:∀x∈FO,look (en5 a b c d z++ten) x=some (nV (en5 a b c d z) (.var x)):=λx hx=>by
  simp only[AAI,List.not_mem_nil,or_false] at hx;rcases hx with rfl|rfl|rfl|rfl|rfl<;>kernel_rfl
 have h2:∀m:Nat,m<10->look (en5 a b c d z++ten) (toS m)=some (m:Int):=λm hm=>by
  have:m=0∨m=1∨m=2∨m=3∨m=4∨m=5∨m=6∨m=7∨m=8∨m=9:=by omega
  rcases this with rfl|rfl|rfl|rfl|rfl|rfl|rfl|rfl|rfl|rfl<;>kernel_rfl
 refine Cc (Ae (AU (AL (AK rfl (AL (AK rfl (AN (X1 (E:=en5 a b c d z) (Bz rfl) hHas he hv ?_))))))));refine AU (AL (AK rfl (AL (AK rfl (AN (X4 i1 hbd h1 h2 he hv (Eu ?_)))))));rw[beq_self_eq_true];exact⟨_,_,w9,_,rfl,rfl,u1,by unfold Cl;trivial,q w9 u1⟩
theorem aT{ws:List Str}(h:∀w∈ws,PyData.strOk w=true)(q:QD (.bl true) Z):WP (A8 (.lst (ws.map D.str)) (.lst (ws.map D.str))) Z QD:=by
 have hp:PzL (ws.map D.str)/\D7 (ws.map D.str)<=60:=by
  induction ws with
  |nil=>exact⟨by unfold List.map PzL;trivial,by unfold List.map D7;omega⟩
  |cons x xs ih=>
   have ih:=ih λy hy=>h y (AAQ _ hy);rw[AAW];exact⟨by unfold PzL;exact⟨by unfold Pz;exact h x AAP,ih.1⟩,by unfold D7;have:dpt (.str x)=0:=rfl;rw[this];omega⟩
 refine U8 (by unfold Pz;exact hp.1) (by unfold Pz;exact hp.1) (by unfold dpt;omega) (by unfold dpt;omega) λe he=>?_;rw[he.mpr rfl];exact q
noncomputable abbrev Fin(w:Nat)(Z:Mh)(QD:D->Mh->Prop):Fl×Sl->Mh->Prop:=λr x6=>∃d x8 w9 gs,r=(.rt d,x8)/\x6=w9++gs/\Upd w Z w9/\Cl Z.length d/\QD d w9
theorem SD(h1:PyData.strOk wd=true)(h2:wd∉(["get", "jump", "done"]:List Str))(h3:(wd==("tell" : Str))=false)(h4:(wd==("unless" : Str))=false)(hx:PyData.strOk x=true)(he:Ex.Rd 5 e)(hv:∀x∈e.vars,x∈FO)(hw:WellAt Z w)(q:∀Z',Upd w Z Z'->QD (.bl true) Z'):
  WP (By BS (Kst.f_number_of 6) C5 [some (.tup [.str wd,.str x,e.toD]),some (.lst (.str wd::.str x::(Ex.words e).map D.str)),some (.ref w),none,none,none,none]) Z (Fin w Z QD):=by
 unfold By;wtm_at "a";refine FN h1 h1 (by simp) ?_;wtm_at "a";refine Dw (xs:=["get", "jump", "done"]) h2 ?_;wtm_at "a";refine DT 1 rfl (by simp) ?_;wtm_at "a";refine RZ h1 (by decide +kernel) h3 ?_;wtm_at "a";refine DT 2 rfl (by simp) ?_;wtm_at "a";refine BX h1 (by decide +kernel) h4 ?_;wtm_at "a";refine An (a:=.int 0) (Z':=Z) rfl ?_;wtm_at "a";refine BX h1 (by decide +kernel) h4 ?_;wtm_at "a";refine An (a:=.int 0) (Z':=Z) rfl ?_;wtm_at "a";refine Cm (d:=.str x) (GF (j:=1) rfl) ?_;exact FN hx hx (by simp) ⟨_,rfl,A9 (CO (AS (Nn he hv hw q)))⟩
theorem YQ(h0:0<=t)(h1:t<1000)(he:Ex.Rd 5 e)(hv:∀x∈e.vars,x∈FO)(hw:WellAt Z w)(q:∀Z',Upd w Z Z'->QD (.bl true) Z'):
  WP (By BS (Kst.f_number_of 6) C5 [some (.tup [.str "unless",e.toD,.int t]),some (.lst (.str "unless" :: .str (toS t)::(Ex.words e).map D.str)),some (.ref w),none,none,none,none]) Z (Fin w Z QD):=by
 have hf:=EA h0 h1;unfold By;wtm_at "a";refine Dw (xs:=["get", "jump", "done"]) (by decide +kernel) ?_;wtm_at "a";refine DT 1 rfl (by simp) ?_;wtm_at "a";refine DT 2 rfl (by simp) ?_;wtm_at "a";refine An (a:=.int 1) (Z':=Z) rfl ?_;wtm_at "a";refine An (a:=.int 1) (Z':=Z) rfl ?_;wtm_at "a";refine Cm (d:=.str (toS t)) (GF (j:=1) rfl) ?_;exact FN hf.ok hf.ok (by simp) ⟨_,rfl,A9 (CO (AS (Nn he hv hw q)))⟩
theorem YR(he:Ex.Rd 5 e)(hv:∀x∈e.vars,x∈FO)(hw:WellAt Z w)(q:∀Z',Upd w Z Z'->QD (.bl true) Z'):
  WP (By BS (Kst.f_number_of 6) C5 [some (.tup [.str "tell",e.toD]),some (.lst (.str "tell" :: (Ex.words e).map D.str)),some (.ref w),none,none,none,none]) Z (Fin w Z QD):=by
 unfold By;wtm_at "a";refine Dw (xs:=["get", "jump", "done"]) (by decide +kernel) ?_;wtm_at "a";refine DT 1 rfl (by simp) ?_;exact AS (Af (BQ (Am (Ae (Ae (AK rfl (Az (wz_ix0 (Az (FN (by decide +kernel) (by decide +kernel) (by decide +kernel) ⟨_,rfl,A9 (CO (AS (Nn he hv hw q)))⟩))))))))))
theorem Nm{wd:Str}{ps:List (D×Str)}(h1:PyData.strOk wd=true)(h2:wd∈(["get", "jump", "done"]:List Str))(hl:ps.length<=10)(hp:∀p∈ps,PyData.strOk p.2=true/\DA [p.1] Z=some (.str p.2,Z))(hw:WellAt Z w)(q:∀Z',Upd w Z Z'->QD (.bl true) Z'):
  WP (By BS (Kst.f_number_of 6) C5 [some (.tup (.str wd::ps.map (·.1))),some (.lst (.str wd::(ps.map (·.2)).map D.str)),some (.ref w),none,none,none,none]) Z (Fin w Z QD):=by
 unfold By;wtm_at "a";refine FN h1 h1 (by simp) ?_;wtm_at "a";refine Fs (xs:=["get", "jump", "done"]) h2 ?_;refine Bl (CF (Cc (Ae (Cd (EX (AK rfl (HG ⟨by rw[sizeLine_eq];simp;omega,?_⟩)))))));rw[show D.str wd::ps.map (·.1)=((D.str wd,wd)::ps).map (·.1) from rfl];refine Ch (λp:D×Str=>p.1) (λ_=>true) (λp=>D.str p.2) (λp hp'=>A5 ⟨rfl,Cb ⟨rfl,rfl,λ_=>AU (AL (AK rfl (AN ?_)))⟩⟩) ?_
 ·rcases AAI.mp hp' with rfl|z
  ·exact wz_strS ⟨rfl,rfl⟩
  ·exact An (hp p z).2 ⟨rfl,rfl⟩
 ·rw[fil];refine A0 (by rw[sizeLine_eq];simp;omega) (AK rfl ?_);rw[show ((D.str wd,wd)::ps).map (λp=>D.str p.2)=(wd::ps.map (·.2)).map D.str from by simp,show D.str wd::(ps.map (·.2)).map D.str=(wd::ps.map (·.2)).map D.str from rfl];refine aT (λz hz=>?_) (Fz ⟨_,_,Z,[],rfl,by simp,hw.refl,by unfold Cl;trivial,q Z hw.refl⟩);rcases AAI.mp hz with rfl|hz
  ·exact h1
  ·obtain⟨p,hp',rfl⟩:=AAL.mp hz;exact(hp p hp').1
theorem str_int(h0:0<=t)(h1:t<1000):DA [.int t] Z=some (.str (toS t),Z):=by
 obtain⟨d,ν,e,rfl,rfl⟩:=wz_strI (Z:=Z) (QD:=λd ν=>d=.str (toS t)/\ν=Z) h0 h1 ⟨rfl,rfl⟩;exact e
theorem Uw{r:Rw}(hr:Rw.Rd r)(hv:∀x∈r.vars,x∈FO)(hw:WellAt Z w)(q:∀Z',Upd w Z Z'->QD (.bl true) Z'):WP (Dj [r.toD,rW r,.ref w]) Z QD:=by
 unfold Dj;refine Ol (w:=w) rfl ?_;cases r with
 |put bx e=>exact SD (wd := "put") (x:=bx) (by decide +kernel) (by decide +kernel) (by decide +kernel) (by decide +kernel) hr.1.ok hr.2 hv hw q
 |get x bx=>exact Nm (wd := "get") (ps:=[(.str x,x),(.str bx,bx)]) (by decide +kernel) (by decide +kernel) (by simp) (λp hp=>by
   simp only[AAI,List.not_mem_nil,or_false] at hp;rcases hp with rfl|rfl
   ·exact⟨hr.1.ok,rfl⟩
   ·exact⟨hr.2.ok,rfl⟩) hw q
 |letr x e=>exact SD (wd := "let") (x:=x) (by decide +kernel) (by decide +kernel) (by decide +kernel) (by decide +kernel) hr.1.ok hr.2 (λy hy=>hv y (AAQ _ hy)) hw q
 | «unless» e t=>exact YQ hr.2.1 hr.2.2 hr.1 hv hw q
 |jump t=>exact Nm (wd := "jump") (ps:=[(.int t,toS t)]) (by decide +kernel) (by decide +kernel) (by simp) (λp hp=>by
   rw[AAK] at hp;subst hp;exact⟨(EA hr.1 hr.2).ok,str_int hr.1 hr.2⟩) hw q
 |tell e=>exact YR hr hv hw q
 |done=>exact Nm (wd := "done") (ps:=[]) (by decide +kernel) (by decide +kernel) (by simp) (λp hp=>nomatch hp) hw q
end
end K8
namespace K5
open PySem L2 Mi K1
noncomputable abbrev txt(m:Mk):D:=.str (tx (Bo m))
theorem VL(h:Mk.Rd m):PyData.strOk (tx (Bo m))=true:=by
 have hw:∀l∈Bo m,∀c∈l.cps.toList,c<128:=by
  have hln:∀{ws:List Str},(∀w∈ws,Gw w)->∀c∈(ln ws).cps.toList,c<128:=λ{ws} hg=>by
   unfold ln;rw[O0];exact OT (by decide) λw hw=>(hg w hw).as
  have hh:∀hs:List Hd,(∀q∈hs,q∈m.hs)->∀a∈D6 hs,∀c∈a.2.cps.toList,c<128:=λhs=>by
   induction hs with
   |nil=>intro _ a ha;cases ha
   |cons q hs ih=>
    intro hq a ha;have hm:=hq q AAP;have ok:=h.ok.hands q hm;rcases AAI.mp ha with rfl|ha
    ·exact hln (My ok.1 ok.2.1 ok.2.2.1)
    ·rcases AAJ.mp ha with ha|ha
     ·rw[AAL] at ha;obtain⟨r,hr,rfl⟩:=ha;exact hln (JP (h.rows q hm r hr))
     ·exact ih (λz hz=>hq z (AAQ _ hz)) a ha
  intro l hl;unfold Bo at hl;rw[AAL] at hl;obtain⟨a,ha,rfl⟩:=hl;rcases AAI.mp ha with rfl|ha
  ·exact hln (Mr h.ok.worth)
  ·rcases AAJ.mp ha with ha|ha
   ·rw[AAL] at ha;obtain⟨b,hb,rfl⟩:=ha;have ok:=h.ok.boxes b hb;exact hln (NG ok.1 ok.2 (h.wr b hb))
   ·exact hh m.hs (λ_ z=>z) a ha
 unfold tx;rw[Wj];exact aN (OT (by decide) hw)
section
variable{Z:Mh}{QD:D->Mh->Prop}{m:Mk}
theorem aS(h:Mk.Rd m)(q:QD (.bl false) Z):WP (B4 m.toD m.toD) Z QD:=by
 have p:=(eW h).pz;refine Kl p.1 p.1 (by omega) (by omega) λe he=>?_;rw[he.mpr rfl];exact q
theorem aR(h:Mk.Rd m)(q:QD (.bl false) Z):WP (B4 (txt m) (txt m)) Z QD:=FN (VL h) (VL h) (by simp) q
end
end K5
namespace K8
open PySem L2 Mi K1 K5
section
variable{Z:Mh}{B:Sl}{QD:D->Mh->Prop}{QL:List D->Mh->Prop}{QS:Fl×Sl->Mh->Prop}{ds:List D}{w:Nat}{y:D}
theorem aA(h:∀w∈ws,Gw w):Pz (lW ws)/\dpt (lW ws)<=1:=by
 have:PzL (ws.map D.str)/\D7 (ws.map D.str)<=0:=by
  induction ws with
  |nil=>exact⟨by unfold List.map PzL;trivial,by unfold List.map D7;omega⟩
  |cons x xs ih=>
   have ih:=ih λy hy=>h y (AAQ _ hy);rw[AAW];exact⟨by unfold PzL;exact⟨by unfold Pz;exact aN (h x AAP).as,ih.1⟩,by unfold D7;have:dpt (.str x)=0:=rfl;rw[this];omega⟩
 exact⟨by unfold Pz;exact this.1,by unfold dpt;omega⟩
theorem RV{xs:List (List Str)}(h:∀ws∈xs,∀w∈ws,Gw w)(q:QD (.bl false) Z):WP (B4 (.lst (xs.map lW)) (.lst (xs.map lW))) Z QD:=by
 have hp:PzL (xs.map lW)/\D7 (xs.map lW)<=1:=by
  induction xs with
  |nil=>exact⟨by unfold List.map PzL;trivial,by unfold List.map D7;omega⟩
  |cons x xs ih=>
   have ih:=ih λy hy=>h y (AAQ _ hy);have hx:=aA (h x AAP);rw[AAW];exact⟨by unfold PzL;exact⟨hx.1,ih.1⟩,by unfold D7;omega⟩
 refine Kl (by unfold Pz;exact hp.1) (by unfold Pz;exact hp.1) (by unfold dpt;omega) (by unfold dpt;omega) λe he=>?_;rw[he.mpr rfl];exact q
theorem aQ(h:∀w∈ws,Gw w)(q:QD (.bl false) Z):WP (B4 (lW ws) (lW ws)) Z QD:=by
 have hp:=aA h;refine Kl hp.1 hp.1 (by omega) (by omega) λe he=>?_;rw[he.mpr rfl];exact q
theorem RN{α:Type}{f g:α->D}{xs:List α}{ma mb:Sl->M D}(h:WP (ma B) Z λd ν=>d=.tup (xs.map f)/\WP (mb B) ν λd j6=>d=.lst (xs.map g)/\QL (xs.map λa=>D.tup [f a,g a]) j6):WP (Gr Ec (AC ma (AC mb AI)) B) Z QL:=by
 refine AX (AL (Ai h λd ν ⟨e,h2⟩=>?_));subst e;refine AL (Ai h2 λd j6 ⟨e,q⟩=>?_);subst e;refine AN ⟨_,j6,?_,q⟩;show (if (xs.map g).length=(xs.map f).length then some (Fr (xs.map f) (xs.map g),j6) else none)=_;rw[if_pos (by simp),NR]
noncomputable abbrev Z2:Sl->M (Fl×Sl):=(sIf (HY (AW (AF Dj (AC (AD 12) (AC (AD 13) (AC (AD 2) AI)))))) (A1 (mC (.bl false))) BC)
noncomputable abbrev fw:Sl->M (Fl×Sl):=(AT (sIf (AW (mOp B4 (AF Bk (AC (mOp Aa (AD 10) (mC (.int 2))) AI)) (AF Bk (AC (AD 11) AI)))) (A1 (mC (.bl false))) BC)
  (D3 (Gr Ec (AC (mOp Aa (AD 10) (mC (.int 2))) (AC (AD 11) AI))) (DE [12,13]) Z2))
noncomputable abbrev lSl(ns:List Int)(o1:Option D)(w:Nat)(o3 o4 o5 o6 o7 o8 o9 o10 o11 o12 o13:Option D):Sl:=[some (.scr ns),o1,some (.ref w),o3,o4,o5,o6,o7,o8,o9,o10,o11,o12,o13]
theorem Qf{ns:List Int}{rs:List Rw}(hr:∀r∈rs,Rw.Rd r)(hv:∀r∈rs,∀x∈r.vars,x∈FO)(hw:WellAt Z w)(q:∀(Z':Mh) (o12 o13:Option D),WellAt Z' w->QS (.next,lSl ns o1 w o3 o4 o5 o6 o7 o8 o9 o10 o11 o12 o13) Z'):
  WP (BR (DE [12,13]) Z2 (rs.map λr=>D.tup [r.toD,rW r]) (lSl ns o1 w o3 o4 o5 o6 o7 o8 o9 o10 o11 o12 o13)) Z QS:=by
 refine Ev (I:=λrest B ν=>∃(todo:List Rw) (p12 p13:Option D),(∀r∈todo,r∈rs)/\rest=(todo.map λr=>D.tup [r.toD,rW r])/\B=lSl ns o1 w o3 o4 o5 o6 o7 o8 o9 o10 o11 p12 p13/\WellAt ν w) ?_ ?_ ⟨rs,o12,o13,λ_ z=>z,rfl,rfl,hw⟩
 ·rintro x xs B ν ⟨todo,p12,p13,hm,er,rfl,hw'⟩;cases todo with
  |nil=>cases er
  |cons r todo=>
   obtain⟨rfl,rfl⟩:=List.cons.inj er;have hmr:=hm r AAP;refine Fe (BQ (wz_not (Am (AU (AL (AK rfl (AL (AK rfl (AL (AK rfl (AN (Uw (hr r hmr) (hv r hmr) hw' λk9 u1=>⟨_,rfl,wz_notT (A9 (CO (BV ?_)))⟩))))))))))));exact⟨todo,_,_,λz hz=>hm z (AAQ _ hz),rfl,rfl,u1.well hw'.lt⟩
 ·rintro B ν ⟨todo,p12,p13,hm,er,rfl,hw'⟩;exact q ν p12 p13 hw'
theorem Pd{ns:List Int}{o1 o3 o4 o5 o6 o7 o8 o9 o10 o11 o12 o13:Option D}{hs:List Hd}(hr:∀h∈hs,∀r∈h.rs,Rw.Rd r)(hv:∀h∈hs,∀r∈h.rs,∀x∈r.vars,x∈FO)(hw:WellAt Z w)(q:∀(Z':Mh) (o10 o11 o12 o13:Option D),QS (.next,lSl ns o1 w o3 o4 o5 o6 o7 o8 o9 o10 o11 o12 o13) Z'):
  WP (BR (DE [10,11]) fw (hs.map λh=>D.tup [h.toD,pW h]) (lSl ns o1 w o3 o4 o5 o6 o7 o8 o9 o10 o11 o12 o13)) Z QS:=by
 refine Ev (I:=λrest B ν=>∃(todo:List Hd) (p10 p11 p12 p13:Option D),(∀r∈todo,r∈hs)/\rest=(todo.map λh=>D.tup [h.toD,pW h])/\B=lSl ns o1 w o3 o4 o5 o6 o7 o8 o9 p10 p11 p12 p13/\WellAt ν w) ?_ ?_ ⟨hs,o10,o11,o12,o13,λ_ z=>z,rfl,rfl,hw⟩
 ·rintro x xs B ν ⟨todo,p10,p11,p12,p13,hm,er,rfl,hw'⟩;cases todo with
  |nil=>cases er
  |cons h todo=>
   obtain⟨rfl,rfl⟩:=List.cons.inj er;have hmh:=hm h AAP;refine Fe (Af (BQ (Am (Ae (AU (AL (Ae (AK rfl (Az (Fw rfl (AN (Ri (AU (AL (AK rfl (AN (wz_lenL (Oe (by rw[AAF,AAF]) ⟨_,rfl,A9 (CO (AS ?_))⟩))))))))))))))))));refine Fx (RN (f:=Rw.toD) (g:=rW) (xs:=h.rs) (Ae (AK rfl (Az (Fw rfl ⟨rfl,AK rfl ⟨rfl,?_⟩⟩)))));refine Qf (hr h hmh) (hv h hmh) hw' λk9 q12 q13 hw1=>BV ?_;exact⟨todo,_,_,q12,q13,λz hz=>hm z (AAQ _ hz),rfl,rfl,hw1⟩
 ·rintro B ν ⟨todo,p10,p11,p12,p13,hm,er,rfl,hw'⟩;exact q ν p10 p11 p12 p13
theorem RQ{ps:List (D×Str)}(hs:WP (src B) Z λds ν=>ds=ps.map (·.1)/\ν=Z)(hl:ps.length<=100)(hp:∀p∈ps,DA [p.1] Z=some (.str p.2,Z))(q:QD (lW (ps.map (·.2))) Z):WP (BU 1 [] src (AR 0) Ba (AF DA (AC (AD 0) AI)) A4 B) Z QD:=by
 refine Cd (Ai hs λds ν ⟨e1,e2⟩=>?_);subst e1 e2;refine⟨by rw[AAF,sizeLine_eq];omega,Ch (λp:D×Str=>p.1) (λ_=>true) (λp=>D.str p.2) (λp hp'=>A5 ⟨rfl,Cb ⟨rfl,rfl,λ_=>AU (AL (AK rfl (AN (An (hp p hp') ⟨rfl,rfl⟩))))⟩⟩) ?_⟩;rw[fil];refine A0 (by rw[AAF,sizeLine_eq];omega) ?_;rw[show ps.map (λp=>D.str p.2)=(ps.map (·.2)).map D.str from by simp];exact q
theorem dl{a b c:D×Str}(h1:DA [a.1] Z=some (.str a.2,Z))(h2:DA [b.1] Z=some (.str b.2,Z))(h3:DA [c.1] Z=some (.str c.2,Z)):∀p∈[a,b,c],DA [p.1] Z=some (.str p.2,Z):=λp hp=>by
 simp only[AAI,List.not_mem_nil,or_false] at hp;rcases hp with rfl|rfl|rfl<;>assumption
theorem Rk(h:FY kd sz bg):0<=sz/\sz<1000/\0<=bg/\bg<1000:=by
 obtain⟨_,h1,h2,h3,h4⟩:=h;omega
end
theorem math:∀ns:List Int,ns.length<=63->∃Z',Ph [.scr ns] []=some (.bl true,Z'):=by
 intro ns hl;have key:WP (Ph [.scr ns]) [] λd _=>d=.bl true:=by
  unfold Ph;refine Fy rfl ?_;unfold Z9;refine Af (Fx (EX (Ae (AU (AL (AU (AL (AK rfl (AL (Az (AN ?_)))))))))));obtain⟨c,ec⟩:=ae (Z:=[]) ns;refine An ec (AN (A0 (by rw[sizeLine_eq];simp) ?_));refine QE (AK rfl (KF (Az ⟨1,rfl,KF (Az ⟨5,rfl,?_⟩)⟩)));obtain⟨l',el,ll⟩:∃l':List Int,GS (ns.map D.int) (some 1) (some 5)=l'.map D.int/\l'.length<=ns.length:=by
   unfold GS;refine⟨(ns.drop (HT.sIx (ns.map D.int).length 0 (some 1))).take (HT.sIx (ns.map D.int).length (ns.map D.int).length (some 5)-HT.sIx (ns.map D.int).length 0 (some 1)),by rw[List.map_take,List.map_drop],?_⟩;rw[List.length_take,List.length_drop];omega
  refine An (a:=.lst (l'.map D.int)) (Z':=[]) (by show some (D.lst (GS (ns.map D.int) (some 1) (some 5)),[])=_;rw[el]) ?_;refine Ca (by simp;omega) (Fu ?_);refine Ev (I:=λrest B ν=>∃(cs:List Int) (o1 o2 o3 o4 o5 o6 o7 o8 o9 o10 o11 o12 o13:Option D),rest=cs.map D.int/\B=[some (.scr ns),o1,o2,o3,o4,o5,o6,o7,o8,o9,o10,o11,o12,o13]) ?_ ?_ ⟨c::l',none,none,none,none,none,none,none,none,none,none,none,none,none,rfl,rfl⟩
  ·rintro x xs B ν ⟨cs,o1,o2,o3,o4,o5,o6,o7,o8,o9,o10,o11,o12,o13,er,rfl⟩;cases cs with
   |nil=>cases er
   |cons c cs=>
    obtain⟨rfl,rfl⟩:=List.cons.inj er;obtain⟨b0,m0,hb,ew⟩:=aa (Z:=ν) (c:=c);have w1:WellAt (ν++[.lst [.int b0,.int m0,.int 0]]) ν.length:=⟨b0,m0,0,List.getElem?_concat_length,hb⟩;refine A5 (Af (A6 (AU (AL (AK rfl (AN (An ew (AS ?_))))))));refine Af (A6 (AU (AL (AK rfl (AN (U0 w1 λm k9 ok h hv u1 hw1=>AS ?_))))));refine Af (U9 (AK rfl (Oc (AS (Af (A6 (AU (AL (AK rfl (AN (U1 h (AS ?_))))))))))));refine Af (A6 (AU (AL (AK rfl (AN (Rh h (AS ?_)))))));refine Af (BQ (MQ (Am (Ae (AU (AL (AK rfl (AN (An (GX ok) (Az (Og ⟨_,rfl,IX ?_⟩)))))))))));refine MQ (Am (Ae (AU (AL (AK rfl (AN (Uv h (AK rfl (aR h ⟨_,rfl,IX ?_⟩)))))))));refine Am (Ae (AU (AL (AK rfl (AN (Rh h (AK rfl (aS h ⟨_,rfl,A9 (CO (AS ?_))⟩))))))));obtain⟨b1,b2,b3,b4⟩:=Rk ok.worth;refine Af (BQ (Am (Ae (Ae (AU (AL (Az (AN (A0 (by rw[sizeLine_eq];simp) ?_)))))))));refine RQ (ps:=[(.str m.kd,m.kd),(.int m.sz,toS m.sz),(.int m.bg,toS m.bg)]) (EX (QE (AK rfl (MR (KF (Az ⟨3,rfl,Kg 3 rfl (HG ⟨rfl,rfl⟩)⟩)))))) (by simp) (dl rfl (str_int b1 b2) (str_int b3 b4)) (Ca (by simp) ?_);refine AK rfl (aQ (ws:=Mk.ws m) (Mr ok.worth) ⟨_,rfl,A9 (CO (AS ?_))⟩);refine Af (BQ (Am (Ae (Cd (EX (Ae (AK rfl (Az (Fw rfl (HG ⟨by rw[AAF,sizeLine_eq];have:=ok.most;omega,?_⟩))))))))));refine Ch Bx.toD (λ_=>true) bW (λb hb=>A5 ⟨rfl,Cb ⟨rfl,rfl,λ_=>Ae (AU (AL (Az (AN (A0 (by rw[sizeLine_eq];simp) ?_)))))⟩⟩) ?_
    ·obtain⟨c1,c2,c3,c4⟩:=Rk (ok.boxes b hb).2;refine RQ (ps:=[(.str b.nm,b.nm),(.str b.kd,b.kd),(.int b.sz,toS b.sz),(.int b.bg,toS b.bg),(.str b.wr,b.wr)]) (EX (AK rfl (HG ⟨rfl,rfl⟩))) (by simp) (λp hp=>?_) (Ca (by simp) ⟨rfl,rfl⟩);simp only[AAI,List.not_mem_nil,or_false] at hp;rcases hp with rfl|rfl|rfl|rfl|rfl
     ·rfl
     ·rfl
     ·exact str_int c1 c2
     ·exact str_int c3 c4
     ·rfl
    rw[fil];refine A0 (by rw[AAF,sizeLine_eq];have:=ok.most;omega) (AK rfl ?_);rw[show m.bs.map bW=(m.bs.map Bx.ws).map lW from by simp];refine RV (λws hws=>by obtain⟨b,hb,rfl⟩:=AAL.mp hws;exact NG (ok.boxes b hb).1 (ok.boxes b hb).2 (h.wr b hb)) ⟨_,rfl,A9 (CO (AS ?_))⟩;refine Af (BQ (Am (Ae (Cd (EX (Ae (AK rfl (Az (Fw rfl (HG ⟨by rw[AAF,sizeLine_eq];have:=ok.mosth;omega,?_⟩))))))))));refine Ch Hd.toD (λ_=>true) hW (λq hq=>A5 ⟨rfl,Cb ⟨rfl,rfl,λ_=>?_⟩⟩) ?_
    ·have hk:=ok.hands q hq;refine AU (AL (Az (AL (Ae (AK rfl (Az (Fw rfl (AL (AU (AL (Ae (AK rfl (Az (Fw rfl (AN (wz_strI hk.2.1 (by have:=hk.2.2.1;omega) (AN (A0 (by rw[sizeLine_eq];simp) ⟨rfl,rfl⟩))))))))))))))))))
    rw[fil];refine A0 (by rw[AAF,sizeLine_eq];have:=ok.mosth;omega) (AK rfl ?_);rw[show m.hs.map hW=(m.hs.map Hd.ws).map lW from by simp];refine RV (λws hws=>by obtain⟨b,hb,rfl⟩:=AAL.mp hws;exact My (ok.hands b hb).1 (ok.hands b hb).2.1 (ok.hands b hb).2.2.1) ⟨_,rfl,A9 (CO (AS ?_))⟩;refine Fx (RN (f:=Hd.toD) (g:=pW) (xs:=m.hs) (Ae (AK rfl (Az (Fw rfl ⟨rfl,AK rfl ⟨rfl,?_⟩⟩)))));refine Pd h.rows hv hw1 λj6 p10 p11 p12 p13=>BV ?_;exact⟨cs,_,_,_,_,_,_,_,_,_,p10,p11,p12,p13,rfl,rfl⟩
  ·rintro B ν ⟨cs,o1,o2,o3,o4,o5,o6,o7,o8,o9,o10,o11,o12,o13,er,rfl⟩;exact AS (Cc (Az ⟨_,_,_,rfl,rfl,by unfold Cl;trivial,rfl⟩))
 obtain⟨d,Z',e,rfl⟩:=key;exact⟨Z',e⟩
end K8
open PySem PySem.W PyProof.Rows
local macro_rules | `(tactic| wtm_at "c")=>`(tactic| (refine' Mi.gE ?qa ?ql ?qc ?qk;(case qa=>k_is);(case ql=>k_is);(case qc=>k_is);(case qk=>k_is)))
local macro_rules | `(tactic| wtm_at "v")=>`(tactic| (refine' Mi.gG ?qa ?qb ?qc ?qd ?qe ?qf;(case qa=>k_is);(case qb=>k_is);(case qc=>k_is);(case qd=>k_is);(case qe=>k_is)))
local macro_rules | `(tactic| wtm_at "t")=>`(tactic| (refine' Mi.gD ?qa ?qb ?qc ?qd ?qe ?qf ?qg ?qh;(case qa=>k_is);(case qb=>k_is);(case qc=>k_is);(case qd=>k_is);(case qe=>k_is);(case qf=>k_is);(case qg=>k_is);(case qh=>k_is)))
local macro_rules | `(tactic| wtm_at "n")=>`(tactic| (refine' Mi.gA ?qa ?qb ?qc ?qd ?qe ?qf ?qg ?qh ?qi ?qj;(case qa=>k_is);(case qb=>k_is);(case qc=>k_is);(case qd=>k_is);(case qe=>k_is);(case qf=>k_is);(case qg=>k_is);(case qh=>k_is);(case qi=>k_is);(case qj=>k_is)))
local macro_rules | `(tactic| wtm_at "g")=>`(tactic| (refine' Mi.dk ?pl ?pe;(case pl=>k_is);(case pe=>rfl)))
set_option maxRecDepth 100000 in
set_option maxHeartbeats 0 in
theorem PySem.Challenge.cw_strongboxes_k08_whole_made_of_texts_holds : PySem.Challenge.rw_strongboxes_k08_whole_made_of_texts.Holds := by
 w_on;o_law;k_head;(case hw=>w_witness2)
 k_fill
 refine Mi.dh (k:=14) (l:=PySem.Challenge.rw_strongboxes_k08_whole_made_of_texts) rfl rfl (by decide) (λw h Y_=>PySem.W.kIn_of Y_) ?F
 case F=>
  intro w mg fa h KX G hmg;refine' K8.all_mk K8.math ⟨KX,G,?e0,?e1,?e2,?e3,?e4,?e5,?e6,?e7,?e8,?e9,?e10,?e11,?e12,?e13,?e14,?e15,?e16,?e17,?e18,?e19,?e20,?e21,?e22,?e23,?e24,?e25,?e26,?e27,?e28,?e29,?e30,?e31,?e32,?e33,?e34,?e35,?e36,?e37,?e38,?e39,?e40,?e41,?e42,?e43,?e44,?e45,?e46,(PySem.W.mg_none_of KX G ?z0),(PySem.W.mg_none_of KX G ?z1),(PySem.W.mg_none_of KX G ?z2),(PySem.W.mg_none_of KX G ?z3),(PySem.W.mg_none_of KX G ?z4),(PySem.W.mg_none_of KX G ?z5),(PySem.W.mg_none_of KX G ?z6),(PySem.W.mg_none_of KX G ?z7),(PySem.W.mg_none_of KX G ?z8),(PySem.W.mg_none_of KX G ?z9),(PySem.W.mg_none_of KX G ?z10),(PySem.W.mg_none_of KX G ?z11),(PySem.W.mg_none_of KX G ?z12),(PySem.W.mg_none_of KX G ?z13),(PySem.W.mg_none_of KX G ?z14),(PySem.W.mg_none_of KX G ?z15),?gk0,?gk1,?gk2,?gk3,?gk4,?gk5,?gk6,?gk7,?gk8,?gk9,?gk10,?gk11,?gk12,?gk13,?gk14,?gk15,?gk16⟩ hmg
  (case e0=>wtm_at "c")
  (case e1=>wtm_at "c")
  (case e2=>wtm_at "c")
  (case e3=>wtm_at "c")
  (case e4=>wtm_at "c")
  (case e5=>wtm_at "c")
  (case e6=>wtm_at "c")
  (case e7=>wtm_at "t")
  (case e8=>wtm_at "c")
  (case e9=>wtm_at "c")
  (case e10=>wtm_at "c")
  (case e11=>wtm_at "c")
  (case e12=>wtm_at "c")
  (case e13=>wtm_at "c")
  (case e14=>wtm_at "c")
  (case e15=>wtm_at "c")
  (case e16=>wtm_at "c")
  (case e17=>wtm_at "n")
  (case e18=>wtm_at "n")
  (case e19=>wtm_at "n")
  (case e20=>wtm_at "c")
  (case e21=>wtm_at "c")
  (case e22=>wtm_at "c")
  (case e23=>wtm_at "c")
  (case e24=>wtm_at "c")
  (case e25=>wtm_at "c")
  (case e26=>wtm_at "c")
  (case e27=>wtm_at "c")
  (case e28=>wtm_at "c")
  (case e29=>wtm_at "c")
  (case e30=>wtm_at "c")
  (case e31=>wtm_at "c")
  (case e32=>wtm_at "c")
  (case e33=>wtm_at "c")
  (case e34=>wtm_at "c")
  (case e35=>wtm_at "c")
  (case e36=>wtm_at "c")
  (case e37=>wtm_at "c")
  (case e38=>wtm_at "c")
  (case e39=>wtm_at "c")
  (case e40=>wtm_at "c")
  (case e41=>wtm_at "c")
  (case e42=>wtm_at "c")
  (case e43=>wtm_at "c")
  (case e44=>wtm_at "c")
  (case e45=>wtm_at "c")
  (case e46=>wtm_at "v";exact⟨by k_is,by k_is,by k_is,by k_is,trivial⟩)
  (case z0=>k_is)
  (case z1=>k_is)
  (case z2=>k_is)
  (case z3=>k_is)
  (case z4=>k_is)
  (case z5=>k_is)
  (case z6=>k_is)
  (case z7=>k_is)
  (case z8=>k_is)
  (case z9=>k_is)
  (case z10=>k_is)
  (case z11=>k_is)
  (case z12=>k_is)
  (case z13=>k_is)
  (case z14=>k_is)
  (case z15=>k_is)
  (case gk0=>refine' Mi.EE KX G ?qa;(case qa=>k_is))
  (case gk1=>refine' Mi.Ss KX G ?qa;(case qa=>k_is))
  (case gk2=>refine' Mi.EE KX G ?qa;(case qa=>k_is))
  (case gk3=>refine' Mi.OF KX G ?qa ?ql ?qh;(case qa=>k_is);(case ql=>wtm_at "g");(case qh=>decide))
  (case gk4=>refine' Mi.EE KX G ?qa;(case qa=>k_is))
  (case gk5=>refine' Mi.EE KX G ?qa;(case qa=>k_is))
  (case gk6=>refine' Mi.Ss KX G ?qa;(case qa=>k_is))
  (case gk7=>refine' Mi.EE KX G ?qa;(case qa=>k_is))
  (case gk8=>refine' Mi.EE KX G ?qa;(case qa=>k_is))
  (case gk9=>refine' Mi.EE KX G ?qa;(case qa=>k_is))
  (case gk10=>refine' Mi.EE KX G ?qa;(case qa=>k_is))
  (case gk11=>refine' Mi.EE KX G ?qa;(case qa=>k_is))
  (case gk12=>refine' Mi.EE KX G ?qa;(case qa=>k_is))
  (case gk13=>refine' Mi.OF KX G ?qa ?ql ?qh;(case qa=>k_is);(case ql=>wtm_at "g");(case qh=>decide))
  (case gk14=>refine' Mi.OF KX G ?qa ?ql ?qh;(case qa=>k_is);(case ql=>wtm_at "g");(case qh=>decide))
  (case gk15=>refine' Mi.Sg KX G ?qa ?ql ?qk ?qs ?qT;(case qa=>k_is);(case ql=>k_is);(case qk=>exact⟨⟨_,_,rfl,rfl⟩,⟨⟨_,_,rfl,rfl⟩,⟨⟨_,_,rfl,rfl⟩,trivial⟩⟩⟩);(case qs=>rfl);(case qT=>refine' ⟨_,_,_,_,_,rfl,rfl,rfl,?qt,?qu,?_⟩;(case qt=>wtm_at "g");(case qu=>decide);refine' ⟨_,_,_,_,_,rfl,rfl,rfl,?qt,?qu,?_⟩;(case qt=>wtm_at "g");(case qu=>decide);refine' ⟨_,_,_,_,_,rfl,rfl,rfl,?qt,?qu,?_⟩;(case qt=>wtm_at "g");(case qu=>decide);rfl))
  (case gk16=>refine' Mi.Sg KX G ?qa ?ql ?qk ?qs ?qT;(case qa=>k_is);(case ql=>k_is);(case qk=>exact⟨⟨_,_,rfl,rfl⟩,⟨⟨_,_,rfl,rfl⟩,⟨⟨_,_,rfl,rfl⟩,⟨⟨_,_,rfl,rfl⟩,⟨⟨_,_,rfl,rfl⟩,⟨⟨_,_,rfl,rfl⟩,⟨⟨_,_,rfl,rfl⟩,trivial⟩⟩⟩⟩⟩⟩⟩);(case qs=>rfl);(case qT=>refine' ⟨_,_,_,_,_,rfl,rfl,rfl,?qt,?qu,?_⟩;(case qt=>wtm_at "g");(case qu=>decide);refine' ⟨_,_,_,_,_,rfl,rfl,rfl,?qt,?qu,?_⟩;(case qt=>wtm_at "g");(case qu=>decide);refine' ⟨_,_,_,_,_,rfl,rfl,rfl,?qt,?qu,?_⟩;(case qt=>wtm_at "g");(case qu=>decide);refine' ⟨_,_,_,_,_,rfl,rfl,rfl,?qt,?qu,?_⟩;(case qt=>wtm_at "g");(case qu=>decide);refine' ⟨_,_,_,_,_,rfl,rfl,rfl,?qt,?qu,?_⟩;(case qt=>wtm_at "g");(case qu=>decide);refine' ⟨_,_,_,_,_,rfl,rfl,rfl,?qt,?qu,?_⟩;(case qt=>wtm_at "g");(case qu=>decide);refine' ⟨_,_,_,_,_,rfl,rfl,rfl,?qt,?qu,?_⟩;(case qt=>wtm_at "g");(case qu=>decide);rfl))
