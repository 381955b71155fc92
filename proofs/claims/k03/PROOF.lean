import PyProof.Rows.All
import Wide.All
import Wide.FinOn
import OpenK.KLine
import KE.KPairTest
import KE.KDictSum
import KE.KDictOf
import KE.KRevSl
import KE.KDictList
import KE.KIsAll
import KE.KPairComp
import KE.KItem
import PyProof.EqAt
import PyProof.EqKinds
import PyProof.TupleCall
import OpenK.KOwn
import KE.RegKIsAll
import KE.KSuperObj
import PySem.Challenge.RW_strongboxes_k03_what_is_no_making
set_option Elab.async false
set_option linter.all false
set_option maxRecDepth 100000
set_option maxHeartbeats 4000000
set_option autoImplicit true
set_option relaxedAutoImplicit true
section
open PySem PySem.W PyProof.Rows
abbrev AAA:=@wpAny_bind
abbrev AAB:=@wpAny_pure
abbrev AAC:=@Heap.get?_push_of_some
abbrev AAD:=@Heap.get?_push_size
abbrev AAE:=@Nat.le_of_ble_eq_true
abbrev AAF:=@Nat.le_refl
abbrev AAG:=@List.length_map
abbrev AAH:=@List.length_append
abbrev AAI:=@List.length_cons
abbrev AAJ:=@List.mem_cons
abbrev AAK:=@List.mem_append
abbrev AAL:=@List.mem_singleton
abbrev AAM:=@List.mem_map
abbrev AAN:=@Nat.lt_of_lt_of_le
abbrev AAO:=@decide_eq_false
abbrev AAP:=@decide_eq_true
abbrev AAQ:=@List.mem_cons_self
abbrev AAR:=@List.mem_cons_of_mem
abbrev AAS:=@List.getElem?_append_right
abbrev AAT:=@List.getElem?_append_left
abbrev AAU:=@List.getElem?_eq_some_iff
abbrev AAV:=@List.mem_of_getElem?
abbrev AAW:=@List.getElem?_map
abbrev AAX:=@List.map_cons
abbrev AAY:=@List.map_append
abbrev AAZ:=@List.append_nil
abbrev AAa:=@List.mem_append_right
abbrev AAb:=@List.mem_append_left
abbrev AAc:=@wpAny_call_entry
abbrev AAd:=@Nat.ne_of_lt
abbrev AAe:=@beq_eq_false_iff_ne
abbrev AAf:=@Bool.false_ne_true
abbrev AAg:=@Nat.lt_succ_of_lt
abbrev AAh:=@wpAny_mono
abbrev AAi:=@Nat.zero_le
abbrev AAj:=@List.replicate_succ
abbrev AAk:=@List.append_assoc
abbrev AAl:=@List.length_replicate
abbrev AAm:=@List.getElem?_set_ne
abbrev AAn:=@wpAny_holding
abbrev AAo:=@wpAny_setField_rec
abbrev AAp:=@wpAny_newObj_type
abbrev AAq:=@Nat.lt_of_le_of_lt
abbrev AAr:=@Nat.le_trans
abbrev AAs:=@List.forall_mem_cons
abbrev AAt:=@List.getElem?_eq_getElem
abbrev AAu:=@wpAny_field
abbrev AAv:=@wpAny_seqItems
abbrev AAw:=@Nat.lt_irrefl
end
noncomputable def PySem.W.Fast.tw16871119621017808155:Nat:=0
noncomputable def PySem.W.Fast.tw14132450988971173760:Nat:=0
noncomputable def PySem.W.Fast.tw538798924605998521:Nat:=0
noncomputable def PySem.W.Fast.tw16684203566234215941:Nat:=0
noncomputable def PySem.W.Fast.tw12230674187049287500:Nat:=0
noncomputable def PySem.W.Fast.tw12373975781570940612:Nat:=0
noncomputable def PySem.W.Fast.tw12069021561870485617:Nat:=0
noncomputable def PySem.W.Fast.tw3034911101122205211:Nat:=0
noncomputable def PySem.W.Fast.tw9431113321999164417:Nat:=0
noncomputable def PySem.W.Fast.tw6723458952762107787:Nat:=0
noncomputable def PySem.W.Fast.tw4741189595501648464:Nat:=0
noncomputable def PySem.W.Fast.tw4946732398417572330:Nat:=0
noncomputable def PySem.W.Fast.tw10390539234956027434:Nat:=0
noncomputable def PySem.W.Fast.tw5531672983934586184:Nat:=0
noncomputable def PySem.W.Fast.tw1951673318850007034:Nat:=0
noncomputable def PySem.W.Fast.tw8115228606772396651:Nat:=0
noncomputable def PySem.W.Fast.tw18075268813436416224:Nat:=0
noncomputable def PySem.W.Fast.tw10704196489599628671:Nat:=0
noncomputable def PySem.W.Fast.tw17199573674979501900:Nat:=0
noncomputable def PySem.W.Fast.tw8533744563380410397:Nat:=0
noncomputable def PySem.W.Fast.tw3434120556911302903:Nat:=0
noncomputable def PySem.W.Fast.tw7723188040382181621:Nat:=0
noncomputable def PySem.W.Fast.tw16354088533074052800:Nat:=0
noncomputable def PySem.W.Fast.tw3260473203102556433:Nat:=0
noncomputable def PySem.W.Fast.tw3073457798462893292:Nat:=0
noncomputable def PySem.W.Fast.tw18015684094549259987:Nat:=0
noncomputable def PySem.W.Fast.tw17395703698941134676:Nat:=0
noncomputable def PySem.W.Fast.tw1547829230519981882:Nat:=0
noncomputable def PySem.W.Fast.tw1043068826464650206:Nat:=0
noncomputable def PySem.W.Fast.tw4297760609141901605:Nat:=0
noncomputable def PySem.W.Fast.tw5051383864874129623:Nat:=0
noncomputable def PySem.W.Fast.tw3962917369393518861:Nat:=0
noncomputable def PySem.W.Fast.tw583718963913904250:Nat:=0
noncomputable def PySem.W.Fast.tw10794544711869153061:Nat:=0
noncomputable def PySem.W.Fast.tw15922396913047621197:Nat:=0
noncomputable def PySem.W.Fast.tw10089986166459219286:Nat:=0
noncomputable def PySem.W.Fast.tw382250977471421944:Nat:=0
noncomputable def PySem.W.Fast.tw11984173952474032574:Nat:=0
noncomputable def PySem.W.Fast.tw9320775708532963303:Nat:=0
noncomputable def PySem.W.Fast.tw16682452709961626468:Nat:=0
noncomputable def PySem.W.Fast.tw15098958860811062709:Nat:=0
noncomputable def PySem.W.Fast.tw15094358485005562831:Nat:=0
noncomputable def PySem.W.Fast.tw8207685116157028749:Nat:=0
noncomputable def PySem.W.Fast.tw11805333946612919915:Nat:=0
noncomputable def PySem.W.Fast.tw9122720533151103509:Nat:=0
noncomputable def PySem.W.Fast.tw4489193009790853574:Nat:=0
noncomputable def PySem.W.Fast.tw1016910355731749904:Nat:=0
noncomputable def PySem.W.Fast.tw10700070610304041641:Nat:=0
noncomputable def PySem.W.Fast.tw8647674916244007504:Nat:=0
noncomputable def PySem.W.Fast.tw3570191306139327792:Nat:=0
noncomputable def PySem.W.Fast.tw16644602856898133187:Nat:=0
noncomputable def PySem.W.Fast.tw9400457133214544871:Nat:=0
noncomputable def PySem.W.Fast.tw4016059699062834146:Nat:=0
noncomputable def PySem.W.Fast.tw13199506503605743872:Nat:=0
noncomputable def PySem.W.Fast.tw16600446323095384336:Nat:=0
noncomputable def PySem.W.Fast.tw13788723106911621499:Nat:=0
noncomputable def PySem.W.Fast.tw15244486289260234695:Nat:=0
noncomputable def PySem.W.Fast.tw8909126815568202497:Nat:=0
noncomputable def PySem.W.Fast.tw13116779455288077552:Nat:=0
noncomputable def PySem.W.Fast.tw12638683208049366519:Nat:=0
noncomputable def PySem.W.Fast.tw14420028994905808275:Nat:=0
noncomputable def PySem.W.Fast.tw6576705026151560051:Nat:=0
noncomputable def PySem.W.Fast.tw1875235225097953316:Nat:=0
noncomputable def PySem.W.Fast.tw6767481368162533913:Nat:=0
noncomputable def PySem.W.Fast.tw13186855158398528820:Nat:=0
noncomputable def PySem.W.Fast.tw17021575446282311838:Nat:=0
noncomputable def PySem.W.Fast.tw14177324432241069286:Nat:=0
noncomputable def PySem.W.Fast.tw11243585995112958298:Nat:=0
noncomputable def PySem.W.Fast.tw12118845013194358813:Nat:=0
noncomputable def PySem.W.Fast.tw8047139251735379780:Nat:=0
noncomputable def PySem.W.Fast.tw3854880364313011739:Nat:=0
noncomputable def PySem.W.Fast.tw14051797110016189077:Nat:=0
noncomputable def PySem.W.Fast.tw2754176174212401955:Nat:=0
noncomputable def PySem.W.Fast.tw17473426285095462697:Nat:=0
noncomputable def PySem.W.Fast.tw16736542850390331811:Nat:=0
noncomputable def PySem.W.Fast.tw17897618150941146879:Nat:=0
noncomputable def PySem.W.Fast.tw15563070638293904735:Nat:=0
noncomputable def PySem.W.Fast.tw6628364718156795155:Nat:=0
noncomputable def PySem.W.Fast.tw6173426626612423588:Nat:=0
noncomputable def PySem.W.Fast.tw5254266268935240076:Nat:=0
noncomputable def PySem.W.Fast.tw7579358266514899479:Nat:=0
noncomputable def PySem.W.Fast.tw11919990297542396219:Nat:=0
noncomputable def PySem.W.Fast.tw17104314968682092776:Nat:=0
noncomputable def PySem.W.Fast.tw7509793916848709429:Nat:=0
noncomputable def PySem.W.Fast.tw4409785731139857468:Nat:=0
noncomputable def PySem.W.Fast.tw6118047881655010046:Nat:=0
noncomputable def PySem.W.Fast.tw3452397213181463743:Nat:=0
noncomputable def PySem.W.Fast.tw13633358950202974782:Nat:=0
noncomputable def PySem.W.Fast.tw10984537658328100011:Nat:=0
noncomputable def PySem.W.Fast.tw4751919650863922694:Nat:=0
noncomputable def PySem.W.Fast.tw4237867952305299250:Nat:=0
noncomputable def PySem.W.Fast.tw11166190982030898147:Nat:=0
noncomputable def PySem.W.Fast.tw14668364608214412986:Nat:=0
noncomputable def PySem.W.Fast.tw9543287938324922081:Nat:=0
noncomputable def PySem.W.Fast.tw17989565778228826114:Nat:=0
noncomputable def PySem.W.Fast.tw9319001509669410916:Nat:=0
noncomputable def PySem.W.Fast.tw6587940215571417335:Nat:=0
noncomputable def PySem.W.Fast.tw9833413948941419003:Nat:=0
noncomputable def PySem.W.Fast.tw4062206941713922255:Nat:=0
noncomputable def PySem.W.Fast.tw1283415260153176237:Nat:=0
noncomputable def PySem.W.Fast.tw7656080767716433136:Nat:=0
noncomputable def PySem.W.Fast.tw52625895118588781:Nat:=0
noncomputable def PySem.W.Fast.tw14114040891861968820:Nat:=0
noncomputable def PySem.W.Fast.tw8824556567467945942:Nat:=0
noncomputable def PySem.W.Fast.tw2596878841746882281:Nat:=0
noncomputable def PySem.W.Fast.tw2892273664066053575:Nat:=0
noncomputable def PySem.W.Fast.tw11560454256763610851:Nat:=0
noncomputable def PySem.W.Fast.tw12642503149717128756:Nat:=0
noncomputable def PySem.W.Fast.tw12934926545430386000:Nat:=0
noncomputable def PySem.W.Fast.tw10181173598016526069:Nat:=0
noncomputable def PySem.W.Fast.tw36091987337310696:Nat:=0
noncomputable def PySem.W.Fast.tw18080422941179264562:Nat:=0
noncomputable def PySem.W.Fast.tw13920507501796319294:Nat:=0
noncomputable def PySem.W.Fast.tw15782725186991976713:Nat:=0
noncomputable def PySem.W.Fast.tw7862927440722806560:Nat:=0
noncomputable def PySem.W.Fast.tw6223292809202603684:Nat:=0
noncomputable def PySem.W.Fast.tw16524972013908385460:Nat:=0
noncomputable def PySem.W.Fast.tw14279748188766622929:Nat:=0
noncomputable def PySem.W.Fast.tw12594578780529387836:Nat:=0
noncomputable def PySem.W.Fast.tw12575182508964415784:Nat:=0
namespace L2
open PySem PySem.Spec PyProof.Rows
noncomputable abbrev Key:=Sum Int Str
noncomputable def JV:Key->Value->Bool
 | .inl k,v=>Value.isInt k v
 | .inr x,v=>Value.isStrOf x v
noncomputable def ZG(w:World):Key->Int
 | .inl k=>hashInt k
 | .inr x=>hashStr w x
theorem Bj:∀{k:Key} {v:Value},JV k v=true->(∃i t,k=Sum.inl i/\v=Value.int i t)∨(∃x t,k=Sum.inr x/\v=Value.str x t)
 | .inl i,v,h=>by
  obtain⟨t,e⟩:=Value.isInt_shape (k:=i) (v:=v) h;exact .inl ⟨i,t,rfl,e⟩
 | .inr x,v,h=>by
  obtain⟨t,e⟩:=Value.isStrOf_shape (x:=x) (v:=v) h;exact .inr ⟨x,t,rfl,e⟩
theorem Oq(i:Int)(t:Tok):JV (.inl i) (.int i t)=true:=by simp[JV,Value.isInt]
theorem Op(x:Str)(t:Tok):JV (.inr x) (.str x t)=true:=by simp[JV,Value.isStrOf]
theorem Wa(a b:Int):decide ((Sum.inl a:Key)=Sum.inl b)=(a==b):=by
 by_cases e:a=b
 ·subst e;simp
 ·have h:¬(Sum.inl a:Key)=Sum.inl b:=λq=>e (Sum.inl.inj q);rw[AAO h];exact(AAe.mpr e).symm
theorem WX(a b:Str):decide ((Sum.inr a:Key)=Sum.inr b)=decide (a=b):=by
 by_cases e:a=b
 ·subst e;simp
 ·have h:¬(Sum.inr a:Key)=Sum.inr b:=λq=>e (Sum.inr.inj q);rw[AAO h,AAO e]
theorem WZ(a:Int)(b:Str):decide ((Sum.inl a:Key)=Sum.inr b)=false:=AAO (λq=>nomatch q)
theorem WY(a:Str)(b:Int):decide ((Sum.inr a:Key)=Sum.inl b)=false:=AAO (λq=>nomatch q)
noncomputable def B2(prog:Program)(w:World):PySem.KeyKind prog w Key where
 is:=JV
 hash:=ZG w
 inj:=λv a b ha hb=>by
  rcases Bj ha with ⟨i,t,rfl,rfl⟩|⟨x,t,rfl,rfl⟩
  ·rcases Bj hb with ⟨j,u,rfl,e⟩|⟨y,u,rfl,e⟩
   ·injection e with e1 _;rw[e1]
   ·exact nomatch e
  ·rcases Bj hb with ⟨j,u,rfl,e⟩|⟨y,u,rfl,e⟩
   ·exact nomatch e
   ·injection e with e1 _;rw[e1]
 byValue:=λk v h=>by
  rcases Bj h with ⟨i,t,rfl,rfl⟩|⟨x,t,rfl,rfl⟩<;>rfl
 pyHash:=λhv h=>by
  rcases Bj hv with ⟨i,t,rfl,rfl⟩|⟨x,t,rfl,rfl⟩
  ·exact wpAny_pyHash_int h
  ·exact wpAny_pyHash_str h
 eqBool:=λhu hv h=>by
  rcases Bj hu with ⟨i,t,rfl,rfl⟩|⟨x,t,rfl,rfl⟩
  ·rcases Bj hv with ⟨j,u,rfl,rfl⟩|⟨y,u,rfl,rfl⟩
   ·rw[Wa] at h;exact wpAny_eqBool_int h
   ·rw[WZ] at h;exact SeqAt.EqAt.int_str i t y u _ _ _ _ h
  ·rcases Bj hv with ⟨j,u,rfl,rfl⟩|⟨y,u,rfl,rfl⟩
   ·rw[WY] at h;exact SeqAt.EqAt.str_int x t j u _ _ _ _ h
   ·rw[WX] at h;exact wpAny_eqBool_str h
 «strs»:=λk x t v h=>by
  rcases Bj h with ⟨i,u,rfl,e⟩|⟨y,u,rfl,e⟩
  ·exact nomatch e
  ·injection e with e1 _
   subst e1;cases v<;>rfl
theorem LP(prog:Program)(w:World)(i:Int)(t:Tok):(B2 prog w).is (.inl i) (.int i t)=true:=Oq i t
theorem LO(prog:Program)(w:World)(x:Str)(t:Tok):(B2 prog w).is (.inr x) (.str x t)=true:=Op x t
inductive V where
 |non|bl (b:Bool)|int (i:Int)|str (x:Str)|byt (b:Array UInt8)|flt (b:UInt64)|ref (a:Addr)|ty (n:String)
 deriving DecidableEq
def RelV:V->Value->Prop
 | .non,u=>u=Value.none
 | .bl b,u=>u=Value.bool b
 | .int i,u=>∃t,u=Value.int i t
 | .str x,u=>∃t,u=Value.str x t
 | .byt b,u=>∃t,u=Value.bytes b t
 | .flt b,u=>∃t,u=Value.float b t
 | .ref a,u=>u=Value.ref a
 | .ty n,u=>u=Value.type n
abbrev Vals:List V->List Value->Prop:=Paired RelV
theorem Vals.length{xs:List V}{us:List Value}(r:Vals xs us):xs.length=us.length:=Paired.length r
theorem Vals.get:∀{xs:List V} {us:List Value} {i:Nat} {x:V},Vals xs us->xs[i]?=some x->∃u,us[i]?=some u/\RelV x u
 |_,_,_,_,.nil,e=>by simp at e
 |_,_,0,_,.cons r _,e=>by simp at e;subst e;exact⟨_,rfl,r⟩
 |_,_,i+1,x,.cons _ t,e=>by
  obtain⟨u,h1,h2⟩:=Vals.get (i:=i) (x:=x) t (by simpa using e);exact⟨u,by simpa using h1,h2⟩
theorem Vals.set{x:V}{u:Value}(r:RelV x u):∀{xs:List V} {us:List Value} (i:Nat),Vals xs us->Vals (xs.set i x) (us.set i u)
 |_,_,_,.nil=>.nil
 |_,_,0,.cons _ t=>.cons r t
 |_,_,i+1,.cons q t=>.cons q (Vals.set r i t)
theorem Vals.append:∀{xs ys:List V} {us ws:List Value},Vals xs us->Vals ys ws->Vals (xs++ys) (us++ws)
 |_,_,_,_,.nil,s=>s
 |_,_,_,_,.cons r t,s=>.cons r (Vals.append t s)
theorem Vals.take:∀{xs:List V} {us:List Value} (n:Nat),Vals xs us->Vals (xs.take n) (us.take n)
 |_,_,0,_=>.nil
 |_,_,_+1,.nil=>.nil
 |_,_,n+1,.cons r t=>.cons r (Vals.take n t)
theorem Vals.drop:∀{xs:List V} {us:List Value} (n:Nat),Vals xs us->Vals (xs.drop n) (us.drop n)
 |_,_,0,r=>r
 |_,_,_+1,.nil=>.nil
 |_,_,n+1,.cons _ t=>Vals.drop n t
noncomputable def RelO:Option V->Option Value->Prop
 |some v,some u=>RelV v u
 |none,none=>True
 |_,_=>False
noncomputable def KV{κ:Type}:List (κ×V)->List (κ×Value)->Prop:=Paired λ(p:κ×V) (q:κ×Value)=>p.1=q.1/\RelV p.2 q.2
noncomputable def kV:Key->V
 | .inl i=>.int i
 | .inr x=>.str x
inductive HO where
 |lst (xs:List V)
 |tup (xs:List V)
 |dK (kvs:List (Key×V))|dT (kvs:List (List Key×V))
 |set (S:Int->Bool) (n:Nat)
 |ins (C dx:Addr) (fs:List (Str×V))
 |own (x:Addr)
 |xd (fs:List (Str×V))
 |met (f x:Addr)
 |rng (lo hi:Int)
 |frz (o:Obj) (u:HO)
 |tbl (ps:Array Value)
 |ext (φ:Heap->Prop)
abbrev Hp:=Addr->Option HO
noncomputable def upd(H:Hp)(a:Addr)(o:HO):Hp:=λb=>if b=a then some o else H b
theorem BU{H:Hp}{a:Addr}{o:HO}:upd H a o a=some o:=by unfold upd;rw[if_pos rfl]
theorem An{H:Hp}{a b:Addr}{o:HO}(h:b≠a):upd H a o b=H b:=by unfold upd;rw[if_neg h]
theorem YC{H:Hp}{a b:Addr}{o u:HO}(h:H a=some o)(h':H b=some u)(d:o≠u):a≠b:=by
 intro e;subst e;rw[h] at h';exact d (Option.some.inj h')
theorem BM{H:Hp}{a b:Addr}{o:HO}(h:H a=some o)(h':H b=none):a≠b:=by
 intro e;subst e;rw[h] at h';cases h'
section
variable(P:Program)(w:World)
noncomputable def ObjOk(H:Hp)(h:Heap)(a:Addr):HO->Prop
 | .lst xs=>xs.length<=sizeLine/\∃(its:List Value) (n:Nat),Vals xs its/\h.get? a=some { cls:=.type "list",data:=.seq its.toArray n }
 | .tup xs=>xs.length<=sizeLine/\∃its:List Value,Vals xs its/\IsTup h a its.toArray
 | .dK kvs=>kvs.length<=sizeLine/\(a==sysModules)=false/\∃vs,KV kvs vs/\h.DictOf (B2 P w) a vs
 | .dT kvs=>kvs.length<=sizeLine/\(a==sysModules)=false/\∃xs:List (List Key×Addr×Value),
   Paired (λ(p:List Key×V) (q:List Key×Addr×Value)=>p.1=q.1/\H q.2.1=some (.tup (p.1.map kV))/\RelV p.2 q.2.2) kvs xs /\
   ∃o es ep,h.get? a=some o/\o.ExactDict/\o.data=.dict es ep/\es.toList=xs.map (entryOfKey (tupleKind (B2 P w)))/\(xs.map (·.1)).Nodup
 | .set S n=>h.SetOf (intKind P w) a S n
 | .ins C dx fs=>H dx=some (.own a)/\fs.length<=1000/\dx≠a/\h.get? a=some (PySem.W.instObj C dx) /\
   ∃mA,h.Ns1 dx mA/\(∀f,RelO (fs.lookup f) (mA f))/\PySem.Within mA (fs.map (·.1))
 | .own _=>∃o,h.get? a=some o
 | .xd fs=>∃mA,h.Ns1 a mA/\∀f,RelO (fs.lookup f) (mA f)
 | .rng lo hi=>∃t u v,h.get? a=some { cls:=.type "range",data:=.fields #[.int lo t,.int hi u,.int 1 v] }
 | .frz o u=>h.get? a=some o/\ObjOk H h a u
 | .tbl ps=>h.get? a=some { cls:=.none,data:=.fields ps }
 | .met f x=>h.get? a=some (PySem.W.methodObj (.ref f) (.ref x))
 | .ext φ=>φ h/\(∃o,h.get? a=some o)/\∀h1 h2:Heap,φ h1->(∀o,h1.get? a=some o->h2.get? a=some o)->φ h2
def HOk(H:Hp)(h:Heap):Prop:=∀a o,H a=some o->ObjOk P w H h a o
end
section
variable{P:Program}{w:World}{H H':Hp}{h h':Heap}{a:Addr}{o:HO}
theorem ObjOk.lt(x:ObjOk P w H h a o):a<h.objs.size:=by
 cases o with
 |lst xs=>obtain⟨_,_,_,_,e⟩:=x;exact Heap.lt_size e
 |tup xs=>obtain⟨_,_,_,p⟩:=x;exact p.lt
 |dK kvs=>obtain⟨_,_,_,_,o,_,_,e,_⟩:=x;exact Heap.lt_size e
 |dT kvs=>obtain⟨_,_,_,_,o,_,_,e,_⟩:=x;exact Heap.lt_size e
 |set S n=>obtain⟨o,_,_,_,e,_⟩:=x;exact Heap.lt_size e
 |ins C dx fs=>obtain⟨_,_,_,e,_⟩:=x;exact Heap.lt_size e
 |own y=>obtain⟨_,e⟩:=x;exact Heap.lt_size e
 |xd fs=>obtain⟨_,⟨_,_,_,e,_⟩,_⟩:=x;exact Heap.lt_size e
 |rng lo hi=>obtain⟨_,_,_,e⟩:=x;exact Heap.lt_size e
 |frz ob u=>obtain⟨e,_⟩:=x;exact Heap.lt_size e
 |tbl ps=>exact Heap.lt_size (show h.get? a=some _ from x)
 |met f y=>exact Heap.lt_size (show h.get? a=some _ from x)
 |ext φ=>obtain⟨_,⟨_,e⟩,_⟩:=x;exact Heap.lt_size e
theorem Paired.mapP{α β:Type}{F G:α->β->Prop}:∀{l₁:List α} {l₂:List β},Paired F l₁ l₂->(∀a b,F a b->G a b)->Paired G l₁ l₂
 |_,_,.nil,_=>.nil
 |_,_,.cons r t,f=>.cons (f _ _ r) (Paired.mapP t f)
theorem ObjOk.stay(x:ObjOk P w H h a o)(k:∀b u,(b=a∨H b=some (.own a))->h.get? b=some u->h'.get? b=some u)
  (ho:∀b,H b=some (.own a)->H' b=some (.own a)) (ht:∀b xs,H b=some (.tup xs)->H' b=some (.tup xs)):ObjOk P w H' h' a o:=by
 induction o with
 |lst xs=>obtain⟨z,its,n,r,e⟩:=x;exact⟨z,its,n,r,k _ _ (.inl rfl) e⟩
 |tup xs=>obtain⟨z,its,r,ob,e,c⟩:=x;exact⟨z,its,r,ob,k _ _ (.inl rfl) e,c⟩
 |dK kvs=>obtain⟨z,y,vs,r,ob,es,ep,e,c⟩:=x;exact⟨z,y,vs,r,ob,es,ep,k _ _ (.inl rfl) e,c⟩
 |dT kvs=>
  obtain⟨z,y,xs,r,ob,es,ep,e,c⟩:=x;exact⟨z,y,xs,Paired.mapP r λp q z=>⟨z.1,ht _ _ z.2.1,z.2.2⟩,ob,es,ep,k _ _ (.inl rfl) e,c⟩
 |set S n=>obtain⟨ob,es,ep,t,e,c⟩:=x;exact⟨ob,es,ep,t,k _ _ (.inl rfl) e,c⟩
 |ins C dx fs=>
  obtain⟨d,z,ne,e,mA,⟨od,es,ep,e2,c⟩,r⟩:=x;exact⟨ho _ d,z,ne,k _ _ (.inl rfl) e,mA,⟨od,es,ep,k _ _ (.inr d) e2,c⟩,r⟩
 |own y=>obtain⟨ob,e⟩:=x;exact⟨ob,k _ _ (.inl rfl) e⟩
 |xd fs=>obtain⟨mA,⟨od,es,ep,e,c⟩,r⟩:=x;exact⟨mA,⟨od,es,ep,k _ _ (.inl rfl) e,c⟩,r⟩
 |rng lo hi=>obtain⟨t,u,v,e⟩:=x;exact⟨t,u,v,k _ _ (.inl rfl) e⟩
 |frz ob u ih=>obtain⟨e,q⟩:=x;exact⟨k _ _ (.inl rfl) e,ih q⟩
 |tbl ps=>
  have e:h.get? a=some { cls:=.none,data:=.fields ps }:=x;show h'.get? a=some { cls:=.none,data:=.fields ps };exact k a _ (.inl rfl) e
 |met f y=>
  have e:h.get? a=some (PySem.W.methodObj (.ref f) (.ref y)):=x;show h'.get? a=some (PySem.W.methodObj (.ref f) (.ref y));exact k a _ (.inl rfl) e
 |ext φ=>obtain⟨p,⟨o,e⟩,st⟩:=x;exact⟨st _ _ p λo q=>k _ _ (.inl rfl) q,⟨o,k _ _ (.inl rfl) e⟩,st⟩
theorem HOk.lt(x:HOk P w H h)(e:H a=some o):a<h.objs.size:=(x a o e).lt
theorem HOk.fresh(x:HOk P w H h)(e:h.objs.size<=a):H a=none:=by
 cases q:H a with
 |none=>rfl
 |some u=>exact absurd (AAN (x.lt q) e) (AAw _)
theorem HOk.kept(x:HOk P w H h)(k:∀b u,h.get? b=some u->h'.get? b=some u):HOk P w H h':=λa o e=>
 (x a o e).stay (λb u _ q=>k b u q) (λ_ q=>q) λ_ _ q=>q
theorem HOk.laid(x:HOk P w H h)(k:∀b u,h.get? b=some u->h'.get? b=some u)(hp:h.objs.size<=a)(new:ObjOk P w (upd H a o) h' a o):HOk P w (upd H a o) h':=λb u e=>by
 have hn:=x.fresh hp;by_cases hb:b=a
 ·subst hb;rw[BU] at e;cases e;exact new
 ·rw[An hb] at e;exact(x b u e).stay (λc v _ q=>k c v q) (λc q=>by rw[An (BM q hn)];exact q) λc xs q=>by rw[An (BM q hn)];exact q
end
def Rd(H:Hp)(a:Addr)(u:HO):Prop:=H a=some u∨∃o,H a=some (.frz o u)
theorem Rd.ok{P:Program}{w:World}{H:Hp}{h:Heap}{a:Addr}{u:HO}(r:Rd H a u)(x:HOk P w H h):ObjOk P w H h a u:=by
 rcases r with r|⟨o,r⟩
 ·exact x a u r
 ·obtain⟨_,q⟩:=x a _ r;exact q
noncomputable def Mut:Option HO->Prop
 |some (.lst _)=>True
 |some (.dK _)=>True
 |some (.dT _)=>True
 |some (.set _ _)=>True
 |some (.ins _ _ _)=>True
 |some (.ext _)=>True
 |_=>False
section
variable{P:Program}{w:World}{H:Hp}{h h':Heap}{x e:Addr}{o':HO}
theorem HOk.write(ok:HOk P w H h)(mu:Mut (H x))(he:e=x∨H e=some (.own x))(k:∀b u,b≠e->h.get? b=some u->h'.get? b=some u)(heo:∃u,h'.get? e=some u)
  (new:ObjOk P w (upd H x o') h' x o'):HOk P w (upd H x o') h':=λb u q=>by
 have nown:∀c y,H c=some (.own y)->c≠x:=λc y r z=>by subst z;rw[r] at mu;exact mu
 have ntup:∀c xs,H c=some (.tup xs)->c≠x:=λc xs r z=>by subst z;rw[r] at mu;exact mu
 by_cases hb:b=x
 ·subst hb;rw[BU] at q;cases q;exact new
 ·rw[An hb] at q;by_cases hbe:b=e
  ·have q':H b=some (.own x):=by
    rcases he with z|z
    ·exact absurd (hbe.trans z) hb
    ·rw[hbe];exact z
   rw[q] at q';cases q';obtain⟨v,hv⟩:=heo;exact⟨v,by rw[hbe];exact hv⟩
  ·refine(ok b u q).stay (λc v hc r=>k c v ?_ r) (λc r=>by rw[An (nown c b r)];exact r) λc xs r=>by rw[An (ntup c xs r)];exact r
   rcases hc with rfl|hc
   ·exact hbe
   ·rintro rfl;rcases he with z|z
    ·exact nown c b hc z
    ·rw[hc] at z;cases z;exact hb rfl
end
structure Un(fs ex:List Addr)(H H':Hp)(h h':Heap):Prop where
 keep:∀b o,h.get? b=some o->H b=none->b∉fs->b∉ex->h'.get? b=some o
 slot:∀b o,h.get? b=some o->H b=none->b∈fs->b∉ex->∃sl,h'.get? b=some { o with slots:=sl }
 free:∀b o,h.get? b=some o->H b=none->b∉ex->H' b=none
 there:∀b o,h.get? b=some o->b∉ex->∃o',h'.get? b=some o'
 tups:∀b xs,H b=some (.tup xs)->H' b=some (.tup xs)
 frzs:∀b o u,H b=some (.frz o u)->H' b=some (.frz o u)
 tbls:∀b ps,H b=some (.tbl ps)->∃more,H' b=some (.tbl (ps++more))
section
variable{fs ex:List Addr}{H H1:Hp}{h h1 h':Heap}{a x e:Addr}{o:HO}
theorem Un.any(u:Un fs ex H H1 h h1){b:Addr}{ob:Obj}(q:h.get? b=some ob)(n:H b=none)(hx:b∉ex):∃sl,h1.get? b=some { ob with slots:=sl }:=by
 by_cases hb:b∈fs
 ·exact u.slot b ob q n hb hx
 ·exact⟨ob.slots,u.keep b ob q n hb hx⟩
theorem Un.kept(k:∀b u,h.get? b=some u->h'.get? b=some u):Un fs ex H H h h':=
 ⟨λb ob q _ _ _=>k b ob q,λb ob q _ _ _=>⟨ob.slots,k b ob q⟩,λ_ _ _ n _=>n,λb ob q _=>⟨ob,k b ob q⟩,λ_ _ q=>q,λ_ _ _ q=>q,λ_ ps q=>⟨#[],by rw[q];simp⟩⟩
theorem Un.refl:Un fs ex H H h h:=Un.kept λ_ _ q=>q
theorem Un.laid(k:∀b u,h.get? b=some u->h'.get? b=some u)(hp:h.objs.size<=a)(hn:H a=none):Un fs ex H (upd H a o) h h' where
 keep:=λb u q _ _ _=>k b u q
 slot:=λb u q _ _ _=>⟨u.slots,k b u q⟩
 free:=λb u q n _=>by rw[An (AAd (AAN (Heap.lt_size q) hp))];exact n
 there:=λb u q _=>⟨u,k b u q⟩
 tups:=λb xs q=>by rw[An (BM q hn)];exact q
 frzs:=λb u xs q=>by rw[An (BM q hn)];exact q
 tbls:=λb ps q=>⟨#[],by rw[An (BM q hn),q];simp⟩
theorem Un.write(mu:Mut (H x))(he:e=x∨H e=some (.own x))(k:∀b u,b≠e->h.get? b=some u->h'.get? b=some u)(heo:∃u,h'.get? e=some u):Un fs ex H (upd H x o) h h':=by
 have hx:∀b,H b=none->b≠x:=λb n z=>by subst z;rw[n] at mu;exact mu
 have hb:∀b,H b=none->b≠e:=λb n z=>by
  subst z;rcases he with r|r
  ·exact hx b n r
  ·rw[n] at r;cases r
 have hm:∀b u,H b=some u->¬Mut (some u)->b≠x:=λb u q nm z=>by subst z;rw[q] at mu;exact nm mu
 refine⟨λb u q n _ _=>k b u (hb b n) q,λb u q n _ _=>⟨u.slots,k b u (hb b n) q⟩,λb u q n _=>by rw[An (hx b n)];exact n,λb u q _=>?_,
  λb xs q=>by rw[An (hm b _ q λz=>z)];exact q,λb u xs q=>by rw[An (hm b _ q λz=>z)];exact q,λb ps q=>⟨#[],by rw[An (hm b _ q λz=>z),q];simp⟩⟩
 by_cases hbe:b=e
 ·subst hbe;exact heo
 ·exact⟨u,k b u hbe q⟩
end
noncomputable def trk(h:Heap)(H:Hp):List Addr:=(List.range h.objs.size).filter λa=>(H a).isSome
noncomputable def Ka(h:Heap)(H:Hp):Heap:=PySem.W.hideAll h (trk h H)
theorem Ov(h:Heap)(H:Hp):(Ka h H).objs.size=h.objs.size:=PySem.W.hideAll_size _ _
theorem RY{h:Heap}{H:Hp}{b:Addr}{o:Obj}(e:h.get? b=some o)(n:H b=none):(Ka h H).get? b=some o:=
 PySem.W.hideAll_get _ e λhm=>by
  have q:(H b).isSome=true:=(List.mem_filter.mp hm).2;rw[n] at q;simp at q
theorem Te{h:Heap}{H:Hp}{b:Addr}{o:Obj}(e:(Ka h H).get? b=some o):h.get? b=some o/\H b=none:=by
 have e':h.get? b=some o:=PySem.W.of_hideAll (trk h H) e;refine⟨e',?_⟩;cases q:H b with
 |none=>rfl
 |some x=>
  have hm:b∈trk h H:=List.mem_filter.mpr ⟨List.mem_range.mpr (Heap.lt_size e'),by simp[q]⟩;have z:(Ka h H).get? b=none:=PySem.W.hideAll_none (trk h H) hm;rw[z] at e;cases e
structure Mod(K:PySem.W.Frag)(mg:Str->Option Value)(base:Heap):Prop where
 kin:K.In base
 glob:base.Ns mainGlobals mg
 blt:∃mb,base.Ns builtinsNs mb/\∀x:Str,x ≠ "__name__" -> mb x=bootBuiltins x
 nolimit:base.NoLimit
set_option genInjectivity false in
structure Cx where
 prog:Program
 w:World
 K:PySem.W.Frag
 mg:Str->Option Value
 base:Heap
 A:Around
 N:List Str
 s₀:Shared
 H₀:Hp
 env:Env
 outer:List Env
 stack:List Env
 ex:List Addr
 fn:Str->Bool
 calm:Bool
 pn:List (Addr×Obj)
 xe:Value->Shared->Prop
noncomputable def frs(l:List Env):List Addr:=l.filterMap (·.frame)
noncomputable abbrev Cx.fs(X:Cx):List Addr:=frs X.outer
def Vis(sc:Scope)(x:Str):Prop:=sc.names.lookup x=some .local∨sc.names.lookup x=some .cell∨sc.names.lookup x=some .free
def Loc(sc:Scope)(x:Str):Prop:=sc.names.lookup x=some .local∨sc.names.lookup x=some .cell
def ZQ(env:Env)(h:Heap)(m:Str->Option Value)(x:Str)(u:Value):Prop:=
 (env.kindOf x=some .local/\m x=some u)∨((env.kindOf x=some .cell∨env.kindOf x=some .free)/\∃c,env.cells.lookup x=some c/\h.IsCell c (some u))
structure Cx.Ok(X:Cx):Prop where
 mod:Mod X.K X.mg X.base
 kind:X.env.scope.kind=.function
 glob:X.env.globals=mainGlobals
 blt:X.env.builtins=builtinsNs
 above:X.s₀.heap.objs.size<=X.env.locals
 inj:∀x y c,X.env.cells.lookup x=some c->X.env.cells.lookup y=some c->x=y
 has:∀x,(X.env.kindOf x=some .cell∨X.env.kindOf x=some .free)->∃c,X.env.cells.lookup x=some c
 cab:∀x c,X.fn x=true->X.env.cells.lookup x=some c->X.s₀.heap.objs.size<=c
 hd:X.calm=true->X.A.handled=none
 frames:X.A.frames=some X.stack
 stk:X.stack=X.outer∨(X.stack=X.env::X.outer/\X.env.frame=some X.env.locals)
 exf:∀b∈X.ex,b≠X.env.locals/\∀x c,X.env.cells.lookup x=some c->c≠b
 bs:∀b o,X.base.get? b=some o->X.s₀.heap.get? b=some o/\X.H₀ b=none
 bsz:X.base.objs.size<=X.s₀.heap.objs.size
 noex:∀b o,X.base.get? b=some o->b∉X.ex
 exfs:∀b∈X.ex,b∉X.fs
 funs:X.s₀.heap.FunFrames X.base X.outer
 frf:∀b∈X.fs,X.H₀ b=none
structure Inv(X:Cx)(pins:List (Addr×Obj))(σ:List (Option V))(H:Hp)(s:Shared):Prop where
 ok:X.Ok
 os:s.os=X.s₀.os
 bare:AllBare s.gens
 base:Un X.fs X.ex X.H₀ H X.s₀.heap s.heap
 loc:∃m,s.heap.Ns X.env.locals m/\∀(i:Nat) (x:Str) (v:V),X.N[i]?=some x->σ[i]?=some (some v)->Vis X.env.scope x->∃u,RelV v u/\ZQ X.env s.heap m x u
 cell:∀x c,X.env.cells.lookup x=some c->∃v,s.heap.IsCell c v
 free:H X.env.locals=none
 freeC:∀x c,X.env.cells.lookup x=some c->H c=none
 pin:∀p∈X.pn++pins,s.heap.get? p.1=some p.2/\H p.1=none/\p.1≠X.env.locals/\p.1∉X.fs/\∀v,p.2.data≠.cell v
 hok:HOk X.prog X.w H s.heap
 len:σ.length=X.N.length
section
variable{X:Cx}{pins:List (Addr×Obj)}{σ:List (Option V)}{H H':Hp}{s:Shared}{h':Heap}
theorem Cx.Ok.nofr(ok:X.Ok){b:Addr}{o:Obj}(e:X.base.get? b=some o):b∉X.fs:=λhb=>by
 have:=(ok.funs.mem hb).1;rw[e] at this;cases this
theorem Inv.bs(I:Inv X pins σ H s):∀b o,X.base.get? b=some o->s.heap.get? b=some o/\H b=none:=λb o e=>
 ⟨I.base.keep b o (I.ok.bs b o e).1 (I.ok.bs b o e).2 (I.ok.nofr e) (I.ok.noex b o e),I.base.free b o (I.ok.bs b o e).1 (I.ok.bs b o e).2 (I.ok.noex b o e)⟩
theorem Inv.bk(I:Inv X pins σ H s):∀b o,X.base.get? b=some o->s.heap.get? b=some o:=λb o e=>(I.bs b o e).1
theorem Inv.mod(I:Inv X pins σ H s):Mod X.K X.mg X.base:=I.ok.mod
theorem Inv.kIn(I:Inv X pins σ H s):X.K.In s.heap:=I.ok.mod.kin.keeps I.bk
theorem Inv.lt(I:Inv X pins σ H s):X.env.locals<s.heap.objs.size:=let ⟨_,hn,_⟩:=I.loc;hn.lt
theorem Inv.sz(I:Inv X pins σ H s):X.s₀.heap.objs.size<=s.heap.objs.size:=AAr I.ok.above (Nat.le_of_lt I.lt)
theorem Inv.nofs(I:Inv X pins σ H s){a:Addr}(h:s.heap.objs.size<=a):a∉X.fs:=λhb=>by
 obtain⟨_,o,ho,_⟩:=I.ok.funs.mem hb;exact absurd (AAN (Heap.lt_size ho) (AAr I.sz h)) (AAw _)
theorem Inv.cne(I:Inv X pins σ H s):∀x c,X.env.cells.lookup x=some c->c≠X.env.locals:=λx c e z=>by
 obtain⟨v,o,ho,hd⟩:=I.cell x c e;obtain⟨m,⟨o',es,ep,ho',hd',_⟩,_⟩:=I.loc;rw[z,ho'] at ho;cases ho;rw[hd'] at hd;cases hd
theorem Inv.funs(I:Inv X pins σ H s):s.heap.FunFrames X.base X.outer:=by
 have all:∀(l:List Env),(∀b∈frs l,b∈X.fs)->X.s₀.heap.FunFrames X.base l->s.heap.FunFrames X.base l:=by
  intro l
  induction l with
  |nil=>intro _ _;trivial
  |cons env r ih=>
   intro hs hl;obtain⟨hk,⟨L,o,hf,hn,ho,hd⟩,hr⟩:=hl;have hL:L∈X.fs:=hs L (by unfold frs;rw[List.filterMap_cons,hf];exact AAQ);obtain⟨sl,e⟩:=I.base.slot L o ho (I.ok.frf L hL) hL λz=>I.ok.exfs L z hL;exact⟨hk,⟨L,_,hf,hn,e,hd⟩,ih (λb hb=>hs b (by unfold frs;rw[List.filterMap_cons,hf];exact AAR _ hb)) hr⟩
 exact all X.outer (λ_ hb=>hb) I.ok.funs
theorem Inv.stack(I:Inv X pins σ H s):s.heap.FunFrames X.base X.stack:=by
 rcases I.ok.stk with e|⟨e,hf⟩
 ·rw[e];exact I.funs
 ·rw[e];obtain⟨m,hn,_⟩:=I.loc;refine .cons (by rw[I.ok.kind];decide) hf hn ?_ I.funs;exact Heap.get?_none_of_le (AAr I.ok.bsz I.ok.above)
theorem Inv.stkSub(I:Inv X pins σ H s):∀b∈frs X.stack,b∈X.env.locals::X.fs:=λb hb=>by
 rcases I.ok.stk with e|⟨e,hf⟩
 ·rw[e] at hb;exact AAR _ hb
 ·rw[e] at hb;unfold frs at hb;rw[List.filterMap_cons,hf] at hb;exact hb
theorem Inv.stkFree(I:Inv X pins σ H s):∀b∈frs X.stack,H b=none:=λb hb=>by
 rcases AAJ.mp (I.stkSub b hb) with e|hb
 ·rw[e];exact I.free
 ·obtain⟨_,o,ho,_⟩:=I.ok.funs.mem hb;exact I.base.free b o ho (I.ok.frf b hb) λz=>I.ok.exfs b z hb
theorem Inv.step{g':Array GenState}{t':Nat}{d':Drawn}{ch:List Addr}(I:Inv X pins σ H s)
  (hch:∀b∈ch,(b∈X.ex∨X.s₀.heap.objs.size<=b)/\b≠X.env.locals/\(∀x c,X.env.cells.lookup x=some c->c≠b)/\∀p∈X.pn++pins,p.1≠b)
  (keep:∀b o,b≠X.env.locals->b∉X.fs->b∉ch->s.heap.get? b=some o->H b=none->h'.get? b=some o)
  (slot:∀b o,b≠X.env.locals->b∈X.fs->b∉ch->s.heap.get? b=some o->H b=none->∃sl,h'.get? b=some { o with slots:=sl }) (free:∀b o,b∉ch->s.heap.get? b=some o->H b=none->H' b=none)
  (there:∀b o,b∉ch->s.heap.get? b=some o->∃o',h'.get? b=some o')
  (tups:∀b xs,H b=some (.tup xs)->H' b=some (.tup xs)) (frzs:∀b o u,H b=some (.frz o u)->H' b=some (.frz o u)) (tbls:∀b ps,H b=some (.tbl ps)->∃more,H' b=some (.tbl (ps++more)))
  (ns:∀m,s.heap.Ns X.env.locals m->h'.Ns X.env.locals m) (hok:HOk X.prog X.w H' h') (hg:AllBare g') :
  Inv X pins σ H' { s with heap:=h',gens:=g',drawn:=d',toks:=t' }:=by
 have neL:∀b o,X.s₀.heap.get? b=some o->b≠X.env.locals:=λb o e=>AAd (AAN (Heap.lt_size e) I.ok.above);have neC:∀b o,X.s₀.heap.get? b=some o->b∉X.ex->b∉ch:=λb o e hx hb=>by
  rcases(hch b hb).1 with z|z
  ·exact hx z
  ·exact absurd (AAN (Heap.lt_size e) z) (AAw _)
 have cellK:∀x c,X.env.cells.lookup x=some c->∀v,s.heap.IsCell c v->h'.IsCell c v:=λx c e v ⟨o,ho,hd⟩=>by
  have nch:c∉ch:=λz=>(hch c z).2.2.1 x c e rfl;by_cases hc:c∈X.fs
  ·obtain⟨sl,q⟩:=slot c o (I.cne x c e) hc nch ho (I.freeC x c e);exact⟨_,q,hd⟩
  ·exact⟨o,keep c o (I.cne x c e) hc nch ho (I.freeC x c e),hd⟩
 refine⟨I.ok,I.os,hg,⟨λb o e n hb hx=>?_,λb o e n hb hx=>?_,λb o e n hx=>?_,λb o e hx=>?_,λb xs e=>tups b xs (I.base.tups b xs e),λb o xs e=>frzs b o xs (I.base.frzs b o xs e),λb ps e=>?_⟩,?_,λx c e=>?_,?_,λx c e=>?_,λp hp=>?_,hok,I.len⟩
 ·exact keep b o (neL b o e) hb (neC b o e hx) (I.base.keep b o e n hb hx) (I.base.free b o e n hx)
 ·obtain⟨sl,e1⟩:=I.base.slot b o e n hb hx;obtain⟨sl',e2⟩:=slot b _ (neL b o e) hb (neC b o e hx) e1 (I.base.free b o e n hx);exact⟨sl',e2⟩
 ·obtain⟨o',e1⟩:=I.base.there b o e hx;exact free b o' (neC b o e hx) e1 (I.base.free b o e n hx)
 ·obtain⟨o',e1⟩:=I.base.there b o e hx;exact there b o' (neC b o e hx) e1
 ·obtain⟨m1,e1⟩:=I.base.tbls b ps e;obtain⟨m2,e2⟩:=tbls b _ e1;exact⟨m1++m2,by rw[e2,Array.append_assoc]⟩
 ·obtain⟨m,hn,hl⟩:=I.loc;refine⟨m,ns m hn,λi x v e1 e2 e3=>?_⟩;obtain⟨u,r,l⟩:=hl i x v e1 e2 e3;refine⟨u,r,?_⟩;rcases l with l|⟨k,c,e,z⟩
  ·exact .inl l
  ·exact .inr ⟨k,c,e,cellK x c e _ z⟩
 ·obtain⟨v,z⟩:=I.cell x c e;exact⟨v,cellK x c e v z⟩
 ·obtain⟨m,⟨o,_,_,ho,_⟩,_⟩:=I.loc;exact free _ o (λz=>(hch _ z).2.1 rfl) ho I.free
 ·obtain⟨v,o,ho,hd⟩:=I.cell x c e;exact free c o (λz=>(hch c z).2.2.1 x c e rfl) ho (I.freeC x c e)
 ·obtain⟨e,n,ne,nf,d⟩:=I.pin p hp;have nch:p.1∉ch:=λz=>(hch p.1 z).2.2.2 p hp rfl;exact⟨keep p.1 p.2 ne nf nch e n,free p.1 p.2 nch e n,ne,nf,d⟩
theorem Inv.un{t':Nat}(I:Inv X pins σ H s)(u:Un X.fs [] H H' s.heap h')(hok:HOk X.prog X.w H' h'):Inv X pins σ H' { s with heap:=h',toks:=t' }:=by
 obtain⟨m,⟨o,es,ep,ho,r⟩,_⟩:=id I.loc;obtain⟨sl,hL⟩:=u.any ho I.free (by simp);exact I.step (g':=s.gens) (d':=s.drawn) (ch:=[]) (λ_ z=>nomatch z) (λb o _ hb _ e n=>u.keep b o e n hb (by simp)) (λb o _ hb _ e n=>u.slot b o e n hb (by simp)) (λb o _ e n=>u.free b o e n (by simp)) (λb o _ e=>u.there b o e (by simp)) u.tups u.frzs u.tbls (λm' hm=>by
  obtain⟨o',es',ep',ho',r'⟩:=hm;rw[ho] at ho';cases ho';exact⟨_,es',ep',hL,r'⟩) hok I.bare
theorem Inv.call{g':Array GenState}{t':Nat}{d':Drawn}{ch:List Addr}(I:Inv X pins σ H s)(u:Un (frs X.stack) ch H H' s.heap h')(hok:HOk X.prog X.w H' h')(hg:AllBare g')
  (hch:∀b∈ch,(b∈X.ex∨X.s₀.heap.objs.size<=b)/\b≠X.env.locals/\(∀x c,X.env.cells.lookup x=some c->c≠b)/\∀p∈X.pn++pins,p.1≠b) :
  Inv X pins σ H' { s with heap:=h',gens:=g',drawn:=d',toks:=t' }:=by
 obtain⟨m,⟨o,es,ep,ho,r⟩,_⟩:=id I.loc;obtain⟨sl,hL⟩:=u.any ho I.free λz=>(hch _ z).2.1 rfl;exact I.step (ch:=ch) hch (λb o hL hb hc e n=>u.keep b o e n (λz=>(AAJ.mp (I.stkSub b z)).elim hL hb) hc) (λb o _ _ hc e n=>u.any e n hc) (λb o hc e n=>u.free b o e n hc) (λb o hc e=>u.there b o e hc) u.tups u.frzs u.tbls (λm' hm=>by
  obtain⟨o',es',ep',ho',r'⟩:=hm;rw[ho] at ho';cases ho';exact⟨_,es',ep',hL,r'⟩) hok hg
theorem Inv.turned{t':Nat}{it:Addr}(I:Inv X pins σ H s)(k:∀b o,b≠it->s.heap.get? b=some o->h'.get? b=some o)(hn:H it=none)(hL:it≠X.env.locals)
  (h1:it∈X.ex∨X.s₀.heap.objs.size<=it) (h2:∀x c,X.env.cells.lookup x=some c->c≠it) (h3:∀p∈X.pn++pins,p.1≠it):Inv X pins σ H { s with heap:=h',toks:=t' }:=by
 have nit:∀b u,H b=some u->b≠it:=λb u e z=>by rw[z,hn] at e;cases e
 refine I.step (g':=s.gens) (d':=s.drawn) (ch:=[it]) (λb hb=>?_) (λb o _ _ hc e _=>k b o (λz=>hc (by simp[z])) e) (λb o _ _ hc e _=>⟨o.slots,k b o (λz=>hc (by simp[z])) e⟩) (λ_ _ _ _ n=>n)
  (λb o hc e=>⟨o,k b o (λz=>hc (by simp[z])) e⟩) (λ_ _ e=>e) (λ_ _ _ e=>e) (λb ps e=>⟨#[],by rw[e];simp⟩) (λm hm=>?_) (λb u e=>?_) I.bare
 ·have e:b=it:=by simpa using hb
  subst e;exact⟨h1,hL,h2,h3⟩
 ·obtain⟨o,es,ep,ho,r⟩:=hm;exact⟨o,es,ep,k _ o (Ne.symm hL) ho,r⟩
 ·refine(I.hok b u e).stay (λc v hc q=>k c v ?_ q) (λ_ q=>q) λ_ _ q=>q;rcases hc with z|z
  ·rw[z];exact nit b u e
  ·exact nit c _ z
theorem Inv.tok(I:Inv X pins σ H s)(t:Nat):Inv X pins σ H { s with toks:=t }:=I.un (h':=s.heap) (t':=t) Un.refl I.hok
theorem Inv.kept{t':Nat}(I:Inv X pins σ H s)(k:∀b u,s.heap.get? b=some u->h'.get? b=some u):Inv X pins σ H { s with heap:=h',toks:=t' }:=I.un (Un.kept k) (I.hok.kept k)
theorem Inv.laid{a:Addr}{o:HO}{t':Nat}(I:Inv X pins σ H s)(k:∀b u,s.heap.get? b=some u->h'.get? b=some u)(hp:s.heap.objs.size<=a)(new:ObjOk X.prog X.w (upd H a o) h' a o):
  Inv X pins σ (upd H a o) { s with heap:=h',toks:=t' }:=I.un (Un.laid k hp (I.hok.fresh hp)) (I.hok.laid k hp new)
theorem Inv.write{x e:Addr}{o:HO}{t':Nat}(I:Inv X pins σ H s)(mu:Mut (H x))(he:e=x∨H e=some (.own x))(k:∀b u,b≠e->s.heap.get? b=some u->h'.get? b=some u)(heo:∃u,h'.get? e=some u)
  (new:ObjOk X.prog X.w (upd H x o) h' x o):Inv X pins σ (upd H x o) { s with heap:=h',toks:=t' }:=I.un (Un.write mu he k heo) (I.hok.write mu he k heo new)
theorem Inv.weak{σ':List (Option V)}(I:Inv X pins σ H s)(hl:σ'.length=σ.length)(w:∀(i:Nat) v,σ'[i]?=some (some v)->σ[i]?=some (some v)):Inv X pins σ' H s:=
 ⟨I.ok,I.os,I.bare,I.base,let ⟨m,hn,hl'⟩:=I.loc;⟨m,hn,λi x v e1 e2 e3=>hl' i x v e1 (w i v e2) e3⟩,I.cell,I.free,I.freeC,I.pin,I.hok,hl.trans I.len⟩
theorem Inv.pins_of{pins':List (Addr×Obj)}(I:Inv X pins σ H s)(h:∀p∈pins',s.heap.get? p.1=some p.2/\H p.1=none/\p.1≠X.env.locals/\p.1∉X.fs/\∀v,p.2.data≠.cell v):Inv X pins' σ H s:=
 ⟨I.ok,I.os,I.bare,I.base,I.loc,I.cell,I.free,I.freeC,λp hp=>(AAK.mp hp).elim (λz=>I.pin p (AAb _ z)) (h p),I.hok,I.len⟩
theorem IH{N:List Str}(hN:N.Nodup){i j:Nat}{x:Str}(a:N[i]?=some x)(b:N[j]?=some x):i=j:=by
 obtain⟨h1,e1⟩:=AAU.mp a;obtain⟨h2,e2⟩:=AAU.mp b;exact(List.getElem_inj hN).mp (e1.trans e2.symm)
theorem JM{M:Model}{A:Around}{E:Value->Shared->Prop}{i:Nat}{x:Str}{v:V}{u:Value}{Q:Unit->Shared->Prop}(I:Inv X pins σ H s)(hN:X.N.Nodup)(hi:X.N[i]?=some x)(hx:Loc X.env.scope x)(r:RelV v u)
  (h:∀s',Inv X pins (σ.set i (some v)) H s'->(∃a,Heap.SameBut a s.heap s'.heap/\(a=X.env.locals∨X.env.cells.lookup x=some a))->Q () s') (hf:X.fn x=true∨X.env.scope.names.lookup x=some .local:=by first|exact .inl rfl|exact .inr rfl|assumption):wpAny M A (storeName X.env x u) Q E s:=by
 obtain⟨m,hn,hl⟩:=id I.loc;have hcls:(X.env.scope.kind==.class||(X.env.scope.kind==.module&&X.env.locals != X.env.globals))=false:=by rw[I.ok.kind];rfl
 have hiσ:i<σ.length:=by rw[I.len];exact(AAU.mp hi).1
 have cne:=I.cne;have tracked:∀{a:Addr} {h':Heap},(∃o,s.heap.get? a=some o/\H a=none)->Heap.SameBut a s.heap h'->HOk X.prog X.w H h':=λ{a h'} ha hs b ob e=>by
  obtain⟨_,_,hfree⟩:=ha;refine(I.hok b ob e).stay (λc w' hc q=>(hs.2 c ?_).trans q) (λ_ q=>q) λ_ _ q=>q;rintro rfl;rcases hc with rfl|hc
  ·rw[hfree] at e;cases e
  ·rw[hfree] at hc;cases hc
 rcases hx with hk|hk
 ·refine wpAny_storeName_local hk hn (λh' hn' hs=>?_) hcls;obtain⟨oL,_,_,hoL,_⟩:=id hn;refine h _ ⟨I.ok,I.os,I.bare,⟨λb o e n hb hx=>?_,λb o e n hb hx=>?_,I.base.free,λb o e hx=>?_,I.base.tups,I.base.frzs,I.base.tbls⟩,⟨_,hn',λj y v' e1 e2 e3=>?_⟩,λy c e=>?_,I.free,I.freeC,λp hp=>?_,tracked ⟨oL,hoL,I.free⟩ hs,by simpa using I.len⟩ ⟨_,hs,.inl rfl⟩
  ·exact(hs.2 b (AAd (AAN (Heap.lt_size e) I.ok.above))).trans (I.base.keep b o e n hb hx)
  ·obtain⟨sl,e1⟩:=I.base.slot b o e n hb hx;exact⟨sl,(hs.2 b (AAd (AAN (Heap.lt_size e) I.ok.above))).trans e1⟩
  ·obtain⟨o',e1⟩:=I.base.there b o e hx;exact⟨o',(hs.2 b (AAd (AAN (Heap.lt_size e) I.ok.above))).trans e1⟩
  ·by_cases hj:j=i
   ·subst hj;rw[hi] at e1;cases e1;rw[List.getElem?_set_self hiσ] at e2;cases e2;exact⟨u,r,.inl ⟨hk,by simp⟩⟩
   ·rw[AAm (Ne.symm hj)] at e2;obtain⟨u',r',q⟩:=hl j y v' e1 e2 e3;refine⟨u',r',?_⟩;rcases q with ⟨k,e⟩|⟨k,c,e,z⟩
    ·refine .inl ⟨k,?_⟩;have:y≠x:=λe=>hj (IH hN e1 (e ▸ hi));simp[this,e]
    ·exact .inr ⟨k,c,e,z.sameBut hs (cne y c e)⟩
  ·obtain⟨w',z⟩:=I.cell y c e;exact⟨w',z.sameBut hs (cne y c e)⟩
  ·obtain⟨e,n,ne,nf,d⟩:=I.pin p hp;exact⟨(hs.2 p.1 ne).trans e,n,ne,nf,d⟩
 ·have hfn:X.fn x=true:=by
   rcases hf with z|z
   ·exact z
   ·rw[z] at hk;cases hk
  obtain⟨c,hc⟩:=I.ok.has x (.inl hk);obtain⟨w',z⟩:=I.cell x c hc;refine wpAny_storeName_cell I.ok.kind hk hc z (λh' hc' hs=>?_);obtain⟨oc,hoc,hocd⟩:=id z;refine h { s with heap:=h' } ⟨I.ok,I.os,I.bare,⟨λb o e n hb hx=>?_,λb o e n hb hx=>?_,I.base.free,λb o e hx=>?_,I.base.tups,I.base.frzs,I.base.tbls⟩,⟨m,hn.sameBut hs (Ne.symm (cne x c hc)),λj y v' e1 e2 e3=>?_⟩,λy c' e=>?_,I.free,I.freeC,λp hp=>?_,tracked ⟨oc,hoc,I.freeC x c hc⟩ hs,by simpa using I.len⟩ ⟨c,hs,.inr hc⟩
  ·exact(hs.2 b (AAd (AAN (Heap.lt_size e) (I.ok.cab x c hfn hc)))).trans (I.base.keep b o e n hb hx)
  ·obtain⟨sl,e1⟩:=I.base.slot b o e n hb hx;exact⟨sl,(hs.2 b (AAd (AAN (Heap.lt_size e) (I.ok.cab x c hfn hc)))).trans e1⟩
  ·obtain⟨o',e1⟩:=I.base.there b o e hx;exact⟨o',(hs.2 b (AAd (AAN (Heap.lt_size e) (I.ok.cab x c hfn hc)))).trans e1⟩
  ·by_cases hj:j=i
   ·subst hj;rw[hi] at e1;cases e1;rw[List.getElem?_set_self hiσ] at e2;cases e2;exact⟨u,r,.inr ⟨.inl hk,c,hc,hc'⟩⟩
   ·rw[AAm (Ne.symm hj)] at e2;obtain⟨u',r',q⟩:=hl j y v' e1 e2 e3;refine⟨u',r',?_⟩;rcases q with q|⟨k,c',e,z'⟩
    ·exact .inl q
    ·refine .inr ⟨k,c',e,z'.sameBut hs ?_⟩;rintro rfl;exact hj (IH hN e1 (I.ok.inj _ _ _ e hc ▸ hi))
  ·by_cases hcc:c'=c
   ·subst hcc;exact⟨_,hc'⟩
   ·obtain⟨w2,z2⟩:=I.cell y c' e;exact⟨w2,z2.sameBut hs hcc⟩
  ·obtain⟨e,n,ne,nf,d⟩:=I.pin p hp;refine⟨(hs.2 p.1 ?_).trans e,n,ne,nf,d⟩;intro q;rw[q,hoc] at e;have q':oc=p.2:=Option.some.inj e;exact d w' (by rw[←q'];exact hocd)
theorem Hl{M:Model}{A:Around}{E:Value->Shared->Prop}{i:Nat}{x:Str}{v:V}{u:Value}{Q:Unit->Shared->Prop}(I:Inv X pins σ H s)(hN:X.N.Nodup)(hi:X.N[i]?=some x)(hx:Loc X.env.scope x)(r:RelV v u)
  (h:∀s',Inv X pins (σ.set i (some v)) H s'->Q () s') (hf:X.fn x=true∨X.env.scope.names.lookup x=some .local:=by first|exact .inl rfl|exact .inr rfl|assumption):wpAny M A (storeName X.env x u) Q E s:=
 JM I hN hi hx r (λs' I' _=>h s' I') hf
theorem Inv.call'{s':Shared}{ch:List Addr}(I:Inv X pins σ H s)(ho:s'.os=s.os)(u:Un (frs X.stack) ch H H' s.heap s'.heap)(hok:HOk X.prog X.w H' s'.heap)(hg:AllBare s'.gens)
  (hch:∀b∈ch,(b∈X.ex∨X.s₀.heap.objs.size<=b)/\b≠X.env.locals/\(∀x c,X.env.cells.lookup x=some c->c≠b)/\∀p∈X.pn++pins,p.1≠b):Inv X pins σ H' s':=by
 obtain⟨h',g',d',t',o'⟩:=s';have e:o'=s.os:=ho;subst e;exact I.call (g':=g') (t':=t') (d':=d') u hok hg hch
end
noncomputable abbrev XK:=Value->Option Addr->Hp->Prop
noncomputable abbrev St:=List (Option V)
noncomputable abbrev VK:=V->Hp->Prop
noncomputable abbrev TE:=St->Hp->VK->Prop
noncomputable abbrev TT:=St->Hp->(Bool->Hp->Prop)->Prop
noncomputable abbrev TA:=St->Hp->(List V->Hp->Prop)->Prop
structure Iw where
 nx:St->Hp->Prop
 rt:VK
 bk:St->Hp->Prop:=λ_ _=>False
 ct:St->Hp->Prop:=λ_ _=>False
noncomputable abbrev TS:=Iw->St->Hp->Prop
def EP(X:Cx)(pins:List (Addr×Obj))(σ:St)(Q:VK)(u:Value)(s':Shared):Prop:=∃v H',Inv X pins σ H' s'/\RelV v u/\Q v H'
def TP(X:Cx)(pins:List (Addr×Obj))(σ:St)(Q:Bool->Hp->Prop)(b:Bool)(s':Shared):Prop:=∃H',Inv X pins σ H' s'/\Q b H'
def AP(X:Cx)(pins:List (Addr×Obj))(σ:St)(Q:List V->Hp->Prop)(us:List Value)(s':Shared):Prop:=∃vs H',Inv X pins σ H' s'/\Vals vs us/\Q vs H'
def SP(X:Cx)(pins:List (Addr×Obj))(D:Iw)(f:Flow)(s':Shared):Prop:=
 match f with
 | .next=>∃σ' H',Inv X pins σ' H' s'/\D.nx σ' H'
 | .brk=>∃σ' H',Inv X pins σ' H' s'/\D.bk σ' H'
 | .cont=>∃σ' H',Inv X pins σ' H' s'/\D.ct σ' H'
 | .ret u=>∃v σ' H',Inv X pins σ' H' s'/\RelV v u/\D.rt v H'
def PE(X:Cx)(e:Expr)(t:TE):Prop:=
 ∀(pins:List (Addr×Obj)) (s:Shared) (σ:St) (H:Hp) (Q:VK),Inv X pins σ H s->t σ H Q->wpAny (model X.prog X.w) X.A (eval e X.env) (EP X pins σ Q) X.xe s
def PT(X:Cx)(e:Expr)(t:TT):Prop:=
 ∀(pins:List (Addr×Obj)) (s:Shared) (σ:St) (H:Hp) (Q:Bool->Hp->Prop),Inv X pins σ H s->t σ H Q->wpAny (model X.prog X.w) X.A (isTrue e X.env (eval e X.env)) (TP X pins σ Q) X.xe s
def PW(X:Cx)(e:Expr)(t:TT):Prop:=
 ∀(whole:Sem Value) (pins:List (Addr×Obj)) (s:Shared) (σ:St) (H:Hp) (Q:Bool->Hp->Prop),Inv X pins σ H s->t σ H Q->wpAny (model X.prog X.w) X.A (isTrue e X.env whole) (TP X pins σ Q) X.xe s
theorem PW.pt{X:Cx}{e:Expr}{t:TT}(h:PW X e t):PT X e t:=h _
def PA(X:Cx)(es:List Expr)(t:TA):Prop:=
 ∀(pos:Pos) (pins:List (Addr×Obj)) (s:Shared) (σ:St) (H:Hp) (Q:List V->Hp->Prop),Inv X pins σ H s->t σ H Q->wpAny (model X.prog X.w) X.A (spliced (backTo pos (starEach es X.env))) (AP X pins σ Q) X.xe s
def PS(X:Cx)(st:Stmt)(t:TS):Prop:=
 ∀(pins:List (Addr×Obj)) (s:Shared) (σ:St) (H:Hp) (D:Iw),Inv X pins σ H s->t D σ H->wpAny (model X.prog X.w) X.A (exec st X.env) (SP X pins D) X.xe s
def PSs(X:Cx)(st:List Stmt)(t:TS):Prop:=
 ∀(pins:List (Addr×Obj)) (s:Shared) (σ:St) (H:Hp) (D:Iw),Inv X pins σ H s->t D σ H->wpAny (model X.prog X.w) X.A (execs st X.env) (SP X pins D) X.xe s
theorem thn{α:Type}{t:Sem α}{Q Q':α->Shared->Prop}{M:Model}{A:Around}{E:Value->Shared->Prop}{s:Shared}(h:wpAny M A t Q E s)(hQ:∀a s,Q a s->Q' a s):wpAny M A t Q' E s:=AAh h hQ λ_ _ x=>x
section
variable{X:Cx}
noncomputable def Yv(i:Nat):TE:=λσ H Q=>∃v,σ[i]?=some (some v)/\Q v H
noncomputable def tC(v:V):TE:=λ_ H Q=>Q v H
theorem Vi{i:Nat}{x:Str}{pos:Pos}(hN:X.N[i]?=some x)(hv:Vis X.env.scope x)(hd:(x==("__debug__" : Str))=false:=by decide)(hcd:(x==("__classdict__" : Str))=false:=by decide):PE X (.Name x pos) (Yv i):=by
 intro pins s σ H Q I h;obtain⟨v,e,h⟩:=h;obtain⟨m,hn,hl⟩:=I.loc;obtain⟨u,r,l⟩:=hl i x v hN e hv;have fin:EP X pins σ Q u s:=⟨v,H,I,r,h⟩;rcases l with ⟨hk,hm⟩|⟨hk,c,hc,hcell⟩
 ·exact wpAny_Name (wpAny_loadName_local I.ok.kind hk hn hm fin) hd
 ·rcases hk with hk|hk
  ·exact wpAny_Name (wpAny_loadName_cell I.ok.kind hk hc hcell fin) hd
  ·exact wpAny_Name (wpAny_loadName_free I.ok.kind hk hc hcell fin hcd) hd
theorem Vn{i j pos}:PE X (.Constant (.int i) j pos) (tC (.int i)):=λ_ _ _ H _ I h=>wpAny_Constant_int ⟨.int i,H,I.tok _,⟨_,rfl⟩,h⟩
theorem Xx{b j pos}:PE X (.Constant (.bool b) j pos) (tC (.bl b)):=λ_ _ _ H _ I h=>Constant_bool ⟨.bl b,H,I,rfl,h⟩
theorem Vm{j pos}:PE X (.Constant .none j pos) (tC .non):=λ_ _ _ H _ I h=>Constant_none ⟨.non,H,I,rfl,h⟩
theorem Vj{x j pos}:PE X (.Constant (.str x) j pos) (tC (.str x)):=λ_ _ _ H _ I h=>Calls.Constant_str ⟨.str x,H,I.tok _,⟨_,rfl⟩,h⟩
def Gl(X:Cx)(x:Str):Prop:=X.env.kindOf x=some .globalImplicit
theorem Fe{E:Value->Shared->Prop}{pins:List (Addr×Obj)}{s:Shared}{σ:St}{H:Hp}{x:Str}{u:Value}{pos:Pos}{Q:Value->Shared->Prop}(I:Inv X pins σ H s)(hg:Gl X x)(hm:X.mg x=some u)(h:Q u s)
  (hd:(x==("__debug__" : Str))=false:=by decide):wpAny (model X.prog X.w) X.A (eval (.Name x pos) X.env) Q E s:=
 Calls.Name_function_global I.ok.kind hg (Calls.loadGlobal_global (by rw[I.ok.glob];exact I.mod.glob.keeps I.bk) hm h) hd
theorem Fz{E:Value->Shared->Prop}{pins:List (Addr×Obj)}{s:Shared}{σ:St}{H:Hp}{x:Str}{u:Value}{pos:Pos}{Q:Value->Shared->Prop}(I:Inv X pins σ H s)(hg:Gl X x)(hm:X.mg x=none)(hv:bootBuiltins x=some u)(h:Q u s)
  (hn:x ≠ "__name__" := by decide) (hd:(x==("__debug__" : Str))=false:=by decide):wpAny (model X.prog X.w) X.A (eval (.Name x pos) X.env) Q E s:=by
 obtain⟨mb,h1,h2⟩:=I.mod.blt;exact Calls.Name_function_global I.ok.kind hg (Calls.loadGlobal_builtin (by rw[I.ok.glob];exact I.mod.glob.keeps I.bk) hm (by rw[I.ok.blt];exact h1.keeps I.bk) ((h2 x hn).trans hv) h) hd
theorem GJ{x:Str}{v:V}{u:Value}{pos:Pos}(hg:Gl X x)(hm:X.mg x=some u)(r:RelV v u)(hd:(x==("__debug__" : Str))=false:=by decide):PE X (.Name x pos) (tC v):=
 λ_ _ _ H _ I h=>Fe I hg hm ⟨v,H,I,r,h⟩ hd
theorem TW{x:Str}{v:V}{u:Value}{pos:Pos}(hg:Gl X x)(hm:X.mg x=none)(hv:bootBuiltins x=some u)(r:RelV v u)(hn:x ≠ "__name__" := by decide)(hd:(x==("__debug__" : Str))=false:=by decide):PE X (.Name x pos) (tC v):=
 λ_ _ _ H _ I h=>Fz I hg hm hv ⟨v,H,I,r,h⟩ hn hd
variable{a b:Expr}{ta tb:TE}{pos:Pos}
def PC(X:Cx)(op:CmpOp)(a b:Expr)(t:TE):Prop:=
 ∀(pins:List (Addr×Obj)) (s:Shared) (σ:St) (H:Hp) (Q:VK),Inv X pins σ H s->t σ H Q->
  wpAny (model X.prog X.w) X.A (eval a X.env) (λv s₁=>wpAny (model X.prog X.w) X.A (eval b X.env) (λu s₂=>wpAny (model X.prog X.w) X.A (compareOp op v u) (EP X pins σ Q) X.xe s₂) X.xe s₁) X.xe s
noncomputable def tB(t:TE):TT:=λσ H Q=>t σ H λx H1=>∃c,x=.bl c/\Q c H1
theorem Qw{op:CmpOp}{t:TE}(h:PC X op a b t)(h1:behindInMarks op b=false:=by first|exact nobehind _ (by decide) (by decide)|rfl):PE X (.Compare a [op] [b] pos) t:=λpins s σ H Q I hw=>wpAny_Compare1 (h pins s σ H Q I hw) h1
theorem VX{e:Expr}{t:TE}(h:PE X e t)(he:∀whole,isTrue e X.env whole=(do let v ←whole;standAt e.pos;holding [v] (truthy v)):=by intro _;rfl):PT X e (tB t):=by
 intro pins s σ H Q I hw;refine isTrue_plain (thn (h pins s σ H _ I hw) λv s1 ⟨x,H1,I1,r1,q1⟩=>?_) (he _);obtain⟨d,rfl,q⟩:=q1;cases r1;exact wpAny_truthy_bool ⟨H1,I1,q⟩
variable{tA tB':TT}{rest:List Expr}
noncomputable def Y4(t u:TT):TT:=λσ H Q=>t σ H λc H1=>if c=true then u σ H1 Q else Q false H1
noncomputable def tOr(t u:TT):TT:=λσ H Q=>t σ H λc H1=>if c=true then Q true H1 else u σ H1 Q
noncomputable def Y0(t:TT):TT:=λσ H Q=>t σ H λc H1=>Q (!c) H1
theorem S8(ha:PT X a tA):PW X (.BoolOp .And [a] pos) tA:=by
 intro wh pins s σ H Q I h;refine isTrue_and (thn (ha pins s σ H Q I h) λc s1 e=>?_);cases c with
 |true=>exact isTrue_and_nil e
 |false=>exact e
theorem VU(ha:PT X a tA):PW X (.BoolOp .Or [a] pos) tA:=by
 intro wh pins s σ H Q I h;refine isTrue_or (thn (ha pins s σ H Q I h) λc s1 e=>?_);cases c with
 |false=>exact isTrue_or_nil e
 |true=>exact e
theorem VV(ha:PT X a tA)(hb:PW X (.BoolOp .And (b::rest) pos) tB'):PW X (.BoolOp .And (a::b::rest) pos) (Y4 tA tB'):=by
 intro wh pins s σ H Q I h;refine isTrue_and (thn (ha pins s σ H _ I h) λc s1 ⟨H1,I1,q1⟩=>?_);cases c with
 |true=>exact hb wh pins s1 σ H1 Q I1 q1
 |false=>exact⟨H1,I1,q1⟩
theorem Xn(ha:PT X a tA)(hb:PW X (.BoolOp .Or (b::rest) pos) tB'):PW X (.BoolOp .Or (a::b::rest) pos) (tOr tA tB'):=by
 intro wh pins s σ H Q I h;refine isTrue_or (thn (ha pins s σ H _ I h) λc s1 ⟨H1,I1,q1⟩=>?_);cases c with
 |true=>exact⟨H1,I1,q1⟩
 |false=>exact hb wh pins s1 σ H1 Q I1 q1
theorem VY(ha:PT X a tA):PT X (.UnaryOp .Not a pos) (Y0 tA):=by
 intro pins s σ H Q I h;exact isTrue_not (ha pins s σ H (λc H1=>Q (!c) H1) I h)
noncomputable def Xb(ta tb:TE):TE:=λσ H Q=>ta σ H λx H1=>∃c,x=.bl c/\if c=true then tb σ H1 Q else Q (.bl false) H1
noncomputable def Yz(ta tb:TE):TE:=λσ H Q=>ta σ H λx H1=>∃c,x=.bl c/\if c=true then Q (.bl true) H1 else tb σ H1 Q
noncomputable def XQ(ta:TE):TE:=λσ H Q=>ta σ H λx H1=>∃c,x=.bl c/\Q (.bl (!c)) H1
theorem Vk{op}{t:TE}(h:PE X a t):PE X (.BoolOp op [a] pos) t:=λpins s σ H Q I hw=>BoolOp_one (h pins s σ H Q I hw)
theorem Vp(ha:PE X a ta)(hb:PE X (.BoolOp .And (b::rest) pos) tb):PE X (.BoolOp .And (a::b::rest) pos) (Xb ta tb):=by
 intro pins s σ H Q I h;refine BoolOp_and (thn (ha pins s σ H _ I h) λv s1 ⟨x,H1,I1,r1,q1⟩=>?_);obtain⟨c,rfl,q1⟩:=q1;cases r1;refine wpAny_truthy_bool ?_;cases c with
 |true=>exact hb pins s1 σ H1 Q I1 q1
 |false=>exact⟨.bl false,H1,I1,rfl,q1⟩
theorem Xs(ha:PE X a ta)(hb:PE X (.BoolOp .Or (b::rest) pos) tb):PE X (.BoolOp .Or (a::b::rest) pos) (Yz ta tb):=by
 intro pins s σ H Q I h;refine BoolOp_or (thn (ha pins s σ H _ I h) λv s1 ⟨x,H1,I1,r1,q1⟩=>?_);obtain⟨c,rfl,q1⟩:=q1;cases r1;refine wpAny_truthy_bool ?_;cases c with
 |false=>exact hb pins s1 σ H1 Q I1 q1
 |true=>exact⟨.bl true,H1,I1,rfl,q1⟩
theorem Vl(ha:PE X a ta):PE X (.UnaryOp .Not a pos) (XQ ta):=by
 intro pins s σ H Q I h;refine UnaryOp_ (thn (ha pins s σ H _ I h) λv s1 ⟨x,H1,I1,r1,q1⟩=>?_);obtain⟨c,rfl,q1⟩:=q1;cases r1;exact not_of (wpAny_truthy_bool ⟨.bl (!c),H1,I1,rfl,q1⟩)
end
def SqL(K:PySem.W.Frag)(H:Hp)(a:Addr)(xs:List V):Prop:=
 Rd H a (.lst xs) ∨
  ∃(o:Obj) (its:Array Value) (n:Nat),K.lookup a=some o/\o.cls=.type "list" /\ o.dict=none/\o.data=.seq its n/\its.size<=sizeLine/\Vals xs its.toList
def SqT(K:PySem.W.Frag)(H:Hp)(a:Addr)(xs:List V):Prop:=
 Rd H a (.tup xs) ∨
  ∃(o:Obj) (its:Array Value) (n:Nat),K.lookup a=some o/\o.cls=.type "tuple" /\ o.data=.seq its n/\its.size<=sizeLine/\Vals xs its.toList
noncomputable def ZO:Value->Option V
 | .none=>some .non
 | .bool b=>some (.bl b)
 | .int i _=>some (.int i)
 | .str x _=>some (.str x)
 | .bytes b _=>some (.byt b)
 | .float b _=>some (.flt b)
 | .ref a=>some (.ref a)
 | .type n=>some (.ty n)
 |_=>none
theorem RelV.abs{x:V}{u:Value}(r:RelV x u):ZO u=some x:=by
 cases x with
 |non=>cases r;rfl
 |bl _=>cases r;rfl
 |int _=>obtain⟨t,rfl⟩:=r;rfl
 |str _=>obtain⟨t,rfl⟩:=r;rfl
 |byt _=>obtain⟨t,rfl⟩:=r;rfl
 |flt _=>obtain⟨t,rfl⟩:=r;rfl
 |ref _=>cases r;rfl
 |ty _=>cases r;rfl
theorem RelV.inj{x y:V}{u:Value}(r:RelV x u)(q:RelV y u):x=y:=Option.some.inj (r.abs.symm.trans q.abs)
theorem Vals.inj:∀{xs ys:List V} {us:List Value},Vals xs us->Vals ys us->xs=ys
 |_,_,_,.nil,.nil=>rfl
 |_,_,_,.cons r t,.cons r' t'=>by rw[r.inj r',Vals.inj t t']
section
variable{X:Cx}{pins:List (Addr×Obj)}{σ:St}{H:Hp}{s:Shared}{a:Addr}{xs ys:List V}
theorem SqL.of{K:PySem.W.Frag}(h:H a=some (.lst xs)):SqL K H a xs:=.inl (.inl h)
theorem SqT.of{K:PySem.W.Frag}(h:H a=some (.tup xs)):SqT K H a xs:=.inl (.inl h)
theorem Inv.list(I:Inv X pins σ H s)(h:SqL X.K H a xs):∃its:List Value,Vals xs its/\PlainL s.heap a its.toArray/\xs.length<=sizeLine:=by
 rcases h with h|⟨o,its,n,hk,hc,hd,hs,hz,r⟩
 ·obtain⟨z,its,n,r,e⟩:=h.ok I.hok;exact⟨its,r,⟨_,n,e,rfl,rfl,rfl⟩,z⟩
 ·refine⟨its.toList,r,⟨o,n,I.kIn a o hk,hc,hd,by simpa using hs⟩,?_⟩;have e:=r.length;simp only[Array.length_toList] at e;omega
theorem Inv.tuple(I:Inv X pins σ H s)(h:SqT X.K H a xs):∃its:List Value,Vals xs its/\IsTup s.heap a its.toArray/\xs.length<=sizeLine:=by
 rcases h with h|⟨o,its,n,hk,hc,hs,hz,r⟩
 ·obtain⟨z,its,r,p⟩:=h.ok I.hok;exact⟨its,r,p,z⟩
 ·refine⟨its.toList,r,⟨o,I.kIn a o hk,hc,n,by simpa using hs⟩,?_⟩;have e:=r.length;simp only[Array.length_toList] at e;omega
theorem Inv.list_inj(I:Inv X pins σ H s)(h:SqL X.K H a xs)(h':SqL X.K H a ys):xs=ys:=by
 obtain⟨its,r,⟨o,n,e,_,_,d⟩,_⟩:=I.list h;obtain⟨its',r',⟨o',n',e',_,_,d'⟩,_⟩:=I.list h';rw[e] at e';cases e';rw[d] at d';injection d' with d1 _
 have:its=its':=by simpa using congrArg Array.toList d1
 subst this;exact r.inj r'
theorem Inv.tuple_inj(I:Inv X pins σ H s)(h:SqT X.K H a xs)(h':SqT X.K H a ys):xs=ys:=by
 obtain⟨its,r,⟨o,e,_,n,d⟩,_⟩:=I.tuple h;obtain⟨its',r',⟨o',e',_,n',d'⟩,_⟩:=I.tuple h';rw[e] at e';cases e';rw[d] at d';injection d' with d1 _
 have:its=its':=by simpa using congrArg Array.toList d1
 subst this;exact r.inj r'
end
noncomputable abbrev Cx.wish(X:Cx)(E:Value->Shared->Prop):Cx:={ X with xe:=E }
noncomputable abbrev Cx.nox(X:Cx):Cx:=X.wish λ_ _=>False
theorem Cx.Ok.wish{X:Cx}(ok:X.Ok)(E:Value->Shared->Prop):(X.wish E).Ok:=
 ⟨ok.mod,ok.kind,ok.glob,ok.blt,ok.above,ok.inj,ok.has,ok.cab,ok.hd,ok.frames,ok.stk,ok.exf,ok.bs,ok.bsz,ok.noex,ok.exfs,ok.funs,ok.frf⟩
theorem Cx.Ok.unwish{X:Cx}{E:Value->Shared->Prop}(ok:(X.wish E).Ok):X.Ok:=
 ⟨ok.mod,ok.kind,ok.glob,ok.blt,ok.above,ok.inj,ok.has,ok.cab,ok.hd,ok.frames,ok.stk,ok.exf,ok.bs,ok.bsz,ok.noex,ok.exfs,ok.funs,ok.frf⟩
section
variable{X:Cx}{pins:List (Addr×Obj)}{σ:St}{H:Hp}{s:Shared}{E:Value->Shared->Prop}
theorem Inv.wish(I:Inv X pins σ H s)(E:Value->Shared->Prop):Inv (X.wish E) pins σ H s:=⟨I.ok.wish E,I.os,I.bare,I.base,I.loc,I.cell,I.free,I.freeC,I.pin,I.hok,I.len⟩
theorem Inv.unwish(I:Inv (X.wish E) pins σ H s):Inv X pins σ H s:=⟨I.ok.unwish,I.os,I.bare,I.base,I.loc,I.cell,I.free,I.freeC,I.pin,I.hok,I.len⟩
theorem SP.unwish{D:Iw}{f:Flow}{s':Shared}(h:SP (X.wish E) pins D f s'):SP X pins D f s':=by
 cases f with
 |next=>obtain⟨σ',H',I,q⟩:=h;exact⟨σ',H',I.unwish,q⟩
 |brk=>obtain⟨σ',H',I,q⟩:=h;exact⟨σ',H',I.unwish,q⟩
 |cont=>obtain⟨σ',H',I,q⟩:=h;exact⟨σ',H',I.unwish,q⟩
 |ret u=>obtain⟨v,σ',H',I,r,q⟩:=h;exact⟨v,σ',H',I.unwish,r,q⟩
theorem PSs.nox{st:List Stmt}{t:TS}(h:PSs X.nox st t):PSs X st t:=λpins s σ H D I hw=>
 AAh (h pins s σ H D (I.wish _) hw) (λ_ _ q=>q.unwish) λ_ _ z=>False.elim z
end
section
variable{X:Cx}{st:Stmt}{rest:List Stmt}{t u:TS}{e:Expr}{te:TE}{pos:Pos}
noncomputable def XT:TS:=λD σ H=>D.nx σ H
noncomputable def Yx(t u:TS):TS:=λD σ H=>t { D with nx:=u D } σ H
theorem TJ:PSs X [] XT:=λ_ _ σ H _ I h=>wpAny_execs_nil ⟨σ,H,I,h⟩
theorem Qk(h1:PS X st t)(h2:PSs X rest u):PSs X (st::rest) (Yx t u):=by
 intro pins s σ H D I h;refine wpAny_execs_cons (thn (h1 pins s σ H { D with nx:=u D } I h) λf s1 q=>?_);cases f with
 |next=>
  obtain⟨σ',H',I',q⟩:=q;exact h2 pins s1 σ' H' D I' q
 |ret v=>exact q
 |brk=>exact q
 |cont=>exact q
theorem TH(h1:PS X st t):PSs X [st] t:=by
 intro pins s σ H D I h;refine wpAny_execs_cons (thn (h1 pins s σ H D I h) λf s1 q=>?_);cases f with
 |next=>exact wpAny_execs_nil q
 |ret v=>exact q
 |brk=>exact q
 |cont=>exact q
theorem Inv.quiet{pins:List (Addr×Obj)}{σ:St}{H:Hp}{s:Shared}(I:Inv X pins σ H s):interactive X.env=false:=by simp[interactive,I.ok.kind]
noncomputable def XY(te:TE):TS:=λD σ H=>te σ H λ_ H1=>D.nx σ H1
theorem TK(he:PE X e te)(hs:swapsWith e none pos.line X.env=pure false:=by rfl):PS X (.Expr e pos) (XY te):=by
 intro pins s σ H D I h;exact wpAny_Expr_any (thn (he pins s σ H _ I h) λv s1 ⟨x,H1,I1,r1,q1⟩=>⟨σ,H1,I1,q1⟩) I.quiet hs
noncomputable def Yy(te:TE):TS:=λD σ H=>te σ H D.rt
theorem Va(he:PE X e te):PS X (.Return (some e) pos) (Yy te):=by
 intro pins s σ H D I h;exact wpAny_Return_some (thn (he pins s σ H _ I h) λv s1 ⟨x,H1,I1,r1,q1⟩=>⟨x,σ,H1,I1,r1,q1⟩)
noncomputable def Y2(c:TT)(t u:TS):TS:=λD σ H=>c σ H λb H1=>if b=true then t D σ H1 else u D σ H1
theorem Xq{c:Expr}{a b:List Stmt}{tc:TT}(hc:PT X c tc)(ha:PSs X a t)(hb:PSs X b u):PS X (.If c a b pos) (Y2 tc t u):=by
 intro pins s σ H D I h;refine wpAny_If (thn (hc pins s σ H _ I h) λd s1 ⟨H1,I1,q1⟩=>?_);cases d with
 |true=>exact ha pins s1 σ H1 D I1 q1
 |false=>exact hb pins s1 σ H1 D I1 q1
noncomputable def VA:TS:=λ_ _ _=>False
theorem Ql:PS X st VA:=λ_ _ _ _ _ _ h=>h.elim
end
noncomputable abbrev TG:=V->St->Hp->(St->Hp->Prop)->Prop
noncomputable abbrev TGs:=List V->St->Hp->(St->Hp->Prop)->Prop
def PG(X:Cx)(target:Expr)(t:TG):Prop:=
 ∀(pins:List (Addr×Obj)) (s:Shared) (σ:St) (H:Hp) (v:V) (u:Value) (Q:St->Hp->Prop),Inv X pins σ H s->RelV v u->t v σ H Q->
  wpAny (model X.prog X.w) X.A (assign target X.env u) (λ_ s'=>∃σ' H',Inv X pins σ' H' s'/\Q σ' H') X.xe s
def PGs(X:Cx)(ts:List Expr)(t:TGs):Prop:=
 ∀(pins:List (Addr×Obj)) (s:Shared) (σ:St) (H:Hp) (vs:List V) (us:List Value) (Q:St->Hp->Prop),Inv X pins σ H s->Vals vs us->t vs σ H Q->
  wpAny (model X.prog X.w) X.A (assignInOrder ((assignEach ts X.env).map (·.2)) us) (λ_ s'=>∃σ' H',Inv X pins σ' H' s'/\Q σ' H') X.xe s
noncomputable abbrev W8:=V->V->V->Hp->(Hp->Prop)->Prop
def Yo(X:Cx)(t:W8):Prop:=
 ∀(pins:List (Addr×Obj)) (s:Shared) (σ:St) (H:Hp) (o i v:V) (ov iv u:Value) (Q:Hp->Prop),Inv X pins σ H s->RelV o ov->RelV i iv->RelV v u->t o i v H Q->
  wpAny (model X.prog X.w) X.A (setItem ov iv u) (λ_ s'=>∃H',Inv X pins σ H' s'/\Q H') X.xe s
section
variable{X:Cx}{pos:Pos}
noncomputable def Ew(i:Nat):TG:=λv σ H Q=>Q (σ.set i (some v)) H
theorem Ab{i:Nat}{x:Str}(hN:X.N.Nodup)(hi:X.N[i]?=some x)(hx:Loc X.env.scope x)(hf:X.fn x=true∨X.env.scope.names.lookup x=some .local:=by first|exact .inl rfl|exact .inr rfl|assumption):PG X (.Name x pos) (Ew i):=by
 intro pins s σ H v u Q I r h;exact wpAny_assign_Name (Hl I hN hi hx r (λs' I'=>⟨_,H,I',h⟩) hf)
noncomputable def YZ:TGs:=λvs σ H Q=>vs=[]/\Q σ H
noncomputable def Um(t:TG)(u:TGs):TGs:=λvs σ H Q=>∃v r,vs=v::r/\t v σ H λσ' H'=>u r σ' H' Q
theorem EA:PGs X [] YZ:=by
 intro pins s σ H vs us Q I r h;obtain⟨e,h⟩:=h;subst e;cases r;exact assignInOrder_nil ⟨σ,H,I,h⟩
theorem Am{e:Expr}{es:List Expr}{t:TG}{u:TGs}(h1:PG X e t)(h2:PGs X es u)
  (hs:(assignEach (e::es) X.env).map (·.2)=assign e X.env::(assignEach es X.env).map (·.2):=by rfl):PGs X (e::es) (Um t u):=by
 intro pins s σ H vs us Q I r h;obtain⟨v,vr,e1,h⟩:=h;subst e1;cases r with
 |cons r rr=>
  rw[hs];refine assignInOrder_cons (thn (h1 pins s σ H _ _ _ I r h) λ_ s1 ⟨σ1,H1,I1,q1⟩=>?_);exact h2 pins s1 σ1 H1 _ _ Q I1 rr q1
noncomputable def ZJ(K:PySem.W.Frag)(n:Nat)(t:TGs):TG:=λv σ H Q=>∃a xs,v=.ref a/\SqT K H a xs/\xs.length=n/\t xs σ H Q
theorem Vg{es:List Expr}{k:Nat}{t:TGs}{n:Nat}(hc:X.calm=true)(h:PGs X es t)
  (hn:(assignEach es X.env).length=n:=by rfl) (hst:(assignEach es X.env).findIdx? (·.1)=none:=by rfl):PG X (.Tuple es k pos) (ZJ X.K n t):=by
 intro pins s σ H v u Q I r hw;obtain⟨a,xs,e1,hq,hl,hw⟩:=hw;subst e1;cases r;obtain⟨its,rv,ht,hz⟩:=I.tuple hq;refine assign_Tuple_tuple (I.ok.hd hc) ht (by simp[hn,←hl,rv.length]) hst λh' hx=>?_;have I1:Inv X pins σ H { s with heap:=h' }:=I.kept (t':=s.toks) λb o e=>hx b o (AAd (Heap.lt_size e)) e;exact h pins _ σ H xs _ Q I1 (by simpa using rv) hw
noncomputable def ZK(to ti:TE)(t:W8):TG:=λv σ H Q=>to σ H λo H1=>ti σ H1 λi H2=>t o i v H2 λH3=>Q σ H3
theorem Vh{o i:Expr}{to ti:TE}{t:W8}(ho:PE X o to)(hi:PE X i ti)(hs:Yo X t)
  (ha:∀v,assign (.Subscript o i pos) X.env v=(do
   let ov ←holding [v] (eval o X.env)
   let iv ←holding [v,ov] (eval i X.env)
   standAt pos
   holding [v,ov,iv] (setItem ov iv v)
   release [v,ov,iv] []):=by intro _;rfl):PG X (.Subscript o i pos) (ZK to ti t):=by
 intro pins s σ H v u Q I r h;rw[ha];refine AAA (AAn (thn (ho pins s σ H _ I h) λov s1 ⟨x,H1,I1,r1,q1⟩=>?_));refine AAA (AAn (thn (hi pins s1 σ H1 _ I1 q1) λiv s2 ⟨y,H2,I2,r2,q2⟩=>?_));refine AAA (wpAny_standAt (AAA (AAn (thn (hs pins s2 σ H2 x y v ov iv u _ I2 r1 r2 r q2) λ_ s3 ⟨H3,I3,q3⟩=>?_))));exact wpAny_release ⟨σ,H3,I3,q3⟩
noncomputable def Sd(te:TE)(g:TG):TS:=λD σ H=>te σ H λx H1=>g x σ H1 D.nx
theorem Vc{tg e:Expr}{te:TE}{g:TG}(he:PE X e te)(hg:PG X tg g)(hs:swapsWithSole [tg] e pos.line X.env=pure false:=by rfl)(hw:swappedStores [tg] e X.env=pure none:=by rfl)
  (h1:(assignEach [tg] X.env).map (·.2)=[assign tg X.env]:=by rfl):PS X (.Assign [tg] e pos) (Sd te g):=by
 intro pins s σ H D I h;refine wpAny_Assign_stores (thn (he pins s σ H _ I h) λv s1 ⟨x,H1,I1,r1,q1⟩=>?_) hs hw;rw[h1];exact thn (hg pins s1 σ H1 x v _ I1 r1 q1) λ_ s2 q=>q
theorem VZ{i:Nat}{x:Str}{e:Expr}{te:TE}{pos':Pos}(hN:X.N.Nodup)(hi:X.N[i]?=some x)(hx:Loc X.env.scope x)(he:PE X e te)(hs:swapsWith e (some (.Name x pos')) pos.line X.env=pure false:=by rfl)(hf:X.fn x=true∨X.env.scope.names.lookup x=some .local:=by first|exact .inl rfl|exact .inr rfl|assumption):
  PS X (.Assign [.Name x pos'] e pos) (Sd te (Ew i)):=by
 intro pins s σ H D I h;refine wpAny_Assign_Name (thn (he pins s σ H _ I h) λv s1 ⟨y,H1,I1,r1,q1⟩=>?_) hs;exact Hl I1 hN hi hx r1 (λs2 I2=>⟨_,H1,I2,q1⟩) hf
end
set_option genInjectivity false in
structure It where
 go:Nat->Hp->Prop
 yld:Nat->Hp->V->Hp->Prop
 stop:Nat->Hp->Prop
def FX(X:Cx)(pins:List (Addr×Obj))(H:Hp)(b:Addr):Prop:=
 H b=none/\b≠X.env.locals/\b∉X.fs/\(b∈X.ex∨X.s₀.heap.objs.size<=b)/\(∀x c,X.env.cells.lookup x=some c->c≠b)/\∀p∈X.pn++pins,p.1≠b
theorem Inv.fpOk{X:Cx}{pins:List (Addr×Obj)}{σ:St}{H H':Hp}{s:Shared}{b:Addr}(I:Inv X pins σ H s)(hb:s.heap.objs.size<=b)(hn:H' b=none):FX X pins H' b:=by
 refine⟨hn,Nat.ne_of_gt (AAN I.lt hb),I.nofs hb,.inr (AAr I.sz hb),λx c e z=>?_,λp hp z=>?_⟩
 ·obtain⟨v,q⟩:=I.cell x c e;exact absurd (AAN q.lt (by rw[z];exact hb)) (AAw _)
 ·exact absurd (AAN (Heap.lt_size (I.pin p hp).1) (by rw[z];exact hb)) (AAw _)
structure JC(P:Program)(w:World)(K:PySem.W.Frag)(tg:Expr)(J:It)(fp:List Addr)(it:Addr)(tn:Nat->Heap->Prop):Prop where
 mem:it∈fp
 obj:∀i h,tn i h->∀b∈fp,∃o,h.get? b=some o/\∀v,o.data≠.cell v
 keep:∀i h h',tn i h->(∀b∈fp,∀o,h.get? b=some o->h'.get? b=some o)->tn i h'
 item:∀(X:Cx),X.prog=P->X.w=w->X.K=K->X.calm=true->∀(i:Nat) (pins:List (Addr×Obj)) (s:Shared) (σ:St) (H:Hp) (E:Value->Shared->Prop),Inv X pins σ H s->(∀b∈fp,FX X pins H b)->tn i s.heap->J.go i H->
  wpAny (model P w) X.A (pyNext (.ref it)) (λr s1=>∃u,r=some u /\
   wpAny (model P w) X.A (letOwnedTupleGo tg (.ref it) u) (λ_ s2=>∃x H',Inv X pins σ H' s2/\RelV x u/\J.yld i H x H'/\tn (i+1) s2.heap/\∀b∈fp,H' b=none) E s1) E s
 done:∀(X:Cx),X.prog=P->X.w=w->X.K=K->X.calm=true->∀(i:Nat) (pins:List (Addr×Obj)) (s:Shared) (σ:St) (H:Hp) (E:Value->Shared->Prop),Inv X pins σ H s->(∀b∈fp,FX X pins H b)->tn i s.heap->J.stop i H->
  wpAny (model P w) X.A (pyNext (.ref it)) (λr s1=>r=none/\Inv X pins σ H s1) E s
 self:∀(A:Around) (i:Nat) (s:Shared) (Q:Value->Shared->Prop) (E:Value->Shared->Prop),tn i s.heap->Q (.ref it) s->wpAny (model P w) A (pyIter (.ref it)) Q E s
noncomputable abbrev TI:=St->Hp->(It->Hp->Prop)->Prop
def PIE(X:Cx)(pins:List (Addr×Obj))(σ:St)(tg:Expr)(R:It->Hp->Prop)(itv:Value)(s2:Shared):Prop:=
 ∃(it:Addr) (fp:List Addr) (tn:Nat->Heap->Prop) (J:It) (H':Hp),itv=.ref it/\Inv X pins σ H' s2/\JC X.prog X.w X.K tg J fp it tn/\tn 0 s2.heap/\(∀b∈fp,FX X pins H' b)/\R J H'
def PI(X:Cx)(tg iter:Expr)(wi:TI):Prop:=
 ∀(pins:List (Addr×Obj)) (s:Shared) (σ:St) (H:Hp) (R:It->Hp->Prop),Inv X pins σ H s->wi σ H R->
  wpAny (model X.prog X.w) X.A (eval iter X.env) (λv s1=>wpAny (model X.prog X.w) X.A (pyIter v) (PIE X pins σ tg R) X.xe s1) X.xe s
theorem Ra{M:Model}{A:Around}{E:Value->Shared->Prop}{s:Shared}{tg:Expr}{it:Addr}{u:Value}{o:Obj}{n:String}{vs:Array Value}{Q:Unit->Shared->Prop}(ho:s.heap.get? it=some o)(hc:o.cls=.type n)(hd:o.data=.fields vs)
  (hn:["enumerate", "zip", "dict_itemiterator", "dict_reverseitemiterator", "odict_iterator", "itertools.zip_longest", "itertools.pairwise"].contains n=false) (hQ:Q () s):wpAny M A (letOwnedTupleGo tg (.ref it) u) Q E s:=by
 unfold letOwnedTupleGo;cases tg<;>first
  |exact AAB hQ
  |(cases u<;>first
    |exact AAB hQ
    |(refine AAA (wpAny_load ho ?_);rw[hc,hd];show wpAny M A (if (["enumerate", "zip", "dict_itemiterator", "dict_reverseitemiterator", "odict_iterator", "itertools.zip_longest", "itertools.pairwise"].contains n&&vs[0]?==some (rawInt _))=true then _ else _) Q E s;rw[if_neg (by intro h;rw[hn,Bool.false_and] at h;cases h)];exact AAB hQ))
noncomputable def Itl(K:PySem.W.Frag)(a:Addr):It:=
 ⟨λi H=>∃xs x,SqL K H a xs/\xs[i]?=some x,λi H x H'=>H'=H/\∀xs,SqL K H a xs->xs[i]?=some x,λi H=>∃xs,SqL K H a xs/\xs.length<=i⟩
noncomputable def Itt(K:PySem.W.Frag)(a:Addr):It:=
 ⟨λi H=>∃xs x,SqT K H a xs/\xs[i]?=some x,λi H x H'=>H'=H/\∀xs,SqT K H a xs->xs[i]?=some x,λi H=>∃xs,SqT K H a xs/\xs.length<=i⟩
noncomputable def Itr(lo:Int)(n:Nat):It:=⟨λi _=>i<n,λi H x H'=>H'=H/\x=.int (lo+i),λi _=>n<=i⟩
theorem OF{P:Program}{w:World}{K:PySem.W.Frag}{tg:Expr}(a it:Addr):JC P w K tg (Itl K a) [it] it (λi h=>h.IsListIter it a i) where
 mem:=by simp
 obj:=λi h st b hb=>by
  have e:b=it:=by simpa using hb
  subst e;obtain⟨o,e,c,d⟩:=st;exact⟨o,e,λv z=>by rw[d] at z;cases z⟩
 keep:=λi h h' st k=>st.at λo e=>k it (by simp) o e
 item:=by
  intro X hP hw hK hc i pins s σ H E I hf st hg;subst hP hw hK;obtain⟨xs,x,hq,hx⟩:=hg;obtain⟨its,rv,p,hz⟩:=I.list hq;obtain⟨u,hu,ru⟩:=rv.get hx;obtain⟨f0,f1,f2,f3,f4,f5⟩:=hf it (by simp);refine wpAny_pyNext_list_item st p.isList (x:=u) (by simpa using hu) λh' st' sb=>?_;have I1:Inv X pins σ H { s with heap:=h' }:=I.turned (t':=s.toks) (λb o hb e=>(sb.2 b hb).trans e) f0 f1 f3 f4 f5;obtain⟨o,e,c,d⟩:=id st';exact⟨u,rfl,Ra (s:={ s with heap:=h' }) e c d (by decide) ⟨x,H,I1,ru,⟨rfl,λys hy=>by rw[I.list_inj hy hq];exact hx⟩,st',λb hb=>(hf b hb).1⟩⟩
 done:=by
  intro X hP hw hK hc i pins s σ H E I hf st hg;subst hP hw hK;obtain⟨xs,hq,hx⟩:=hg;obtain⟨its,rv,p,hz⟩:=I.list hq;obtain⟨f0,f1,f2,f3,f4,f5⟩:=hf it (by simp);have hl:=rv.length;exact wpAny_pyNext_list_end (I.ok.hd hc) st p.isList (by simp;omega) λh' eb=>⟨rfl,I.turned (t':=s.toks) (λb o hb e=>eb b o hb e) f0 f1 f3 f4 f5⟩
 self:=λ_ _ _ _ _ st h=>wpAny_pyIter_listiter st h
theorem L8{P:Program}{w:World}{K:PySem.W.Frag}{tg:Expr}(a it:Addr):JC P w K tg (Itt K a) [it] it (λi h=>h.IsTupleIter it a i) where
 mem:=by simp
 obj:=λi h st b hb=>by
  have e:b=it:=by simpa using hb
  subst e;obtain⟨o,e,c,d⟩:=st;exact⟨o,e,λv z=>by rw[d] at z;cases z⟩
 keep:=λi h h' st k=>st.at λo e=>k it (by simp) o e
 item:=by
  intro X hP hw hK hc i pins s σ H E I hf st hg;subst hP hw hK;obtain⟨xs,x,hq,hx⟩:=hg;obtain⟨its,rv,p,hz⟩:=I.tuple hq;obtain⟨u,hu,ru⟩:=rv.get hx;obtain⟨f0,f1,f2,f3,f4,f5⟩:=hf it (by simp);refine wpAny_pyNext_tuple_item st (show s.heap.IsTuple a its.toArray from p) (x:=u) (by simpa using hu) λh' st' sb=>?_;have I1:Inv X pins σ H { s with heap:=h' }:=I.turned (t':=s.toks) (λb o hb e=>(sb.2 b hb).trans e) f0 f1 f3 f4 f5;obtain⟨o,e,c,d⟩:=id st';exact⟨u,rfl,Ra (s:={ s with heap:=h' }) e c d (by decide) ⟨x,H,I1,ru,⟨rfl,λys hy=>by rw[I.tuple_inj hy hq];exact hx⟩,st',λb hb=>(hf b hb).1⟩⟩
 done:=by
  intro X hP hw hK hc i pins s σ H E I hf st hg;subst hP hw hK;obtain⟨xs,hq,hx⟩:=hg;obtain⟨its,rv,p,hz⟩:=I.tuple hq;obtain⟨f0,f1,f2,f3,f4,f5⟩:=hf it (by simp);have hl:=rv.length;exact wpAny_pyNext_tuple_end (I.ok.hd hc) st (show s.heap.IsTuple a its.toArray from p) (by simp;omega) λh' eb=>⟨rfl,I.turned (t':=s.toks) (λb o hb e=>eb b o hb e) f0 f1 f3 f4 f5⟩
 self:=λ_ _ _ _ _ st h=>wpAny_pyIter_tupleiter st h
theorem L9{P:Program}{w:World}{K:PySem.W.Frag}{tg:Expr}(it:Addr)(lo:Int)(n:Nat):JC P w K tg (Itr lo n) [it] it (λi h=>IsRangeIter h it (lo+(i:Nat) * 1) ((n:Int)-(i:Nat)) 1) where
 mem:=by simp
 obj:=λi h st b hb=>by
  have e:b=it:=by simpa using hb
  subst e;exact⟨_,st,λv z=>by
   have z':Data.fields _=Data.cell v:=z;cases z'⟩
 keep:=λi h h' st k=>k it (by simp) _ st
 item:=by
  intro X hP hw hK hc i pins s σ H E I hf st hg;subst hP hw hK;obtain⟨f0,f1,f2,f3,f4,f5⟩:=hf it (by simp);have W:=Walks.range (prog:=X.prog) (w:=X.w) (I.ok.hd hc) it lo 1 n;refine W.item i s _ _ hg st λv h' tk hv st' kk=>?_;obtain⟨t,rfl⟩:=hv;have I1:Inv X pins σ H { s with heap:=h',toks:=tk }:=I.turned (λb o hb e=>kk b o (by simpa using hb) e) f0 f1 f3 f4 f5;refine⟨_,rfl,Ra (s:={ s with heap:=h',toks:=tk }) (n := "range_iterator") st' rfl rfl (by decide) ⟨.int (lo+i),H,I1,⟨t,?_⟩,⟨rfl,rfl⟩,st',λb hb=>(hf b hb).1⟩⟩;rw[Int.mul_one]
 done:=by
  intro X hP hw hK hc i pins s σ H E I hf st hg;subst hP hw hK;obtain⟨f0,f1,f2,f3,f4,f5⟩:=hf it (by simp);exact wpAny_pyNext_range_end (I.ok.hd hc) st (by have:n<=i:=hg;omega) λh' eb=>⟨rfl,I.turned (t':=s.toks) (λb o hb e=>eb b o hb e) f0 f1 f3 f4 f5⟩
 self:=λ_ _ _ _ _ st h=>wpAny_pyIter_rangeiter st h
section
variable{X:Cx}{tg:Expr}
noncomputable def Ul(K:PySem.W.Frag)(tl:TE):TI:=λσ H R=>tl σ H λx H1=>∃a,x=.ref a/\(∃xs,SqL K H1 a xs)/\R (Itl K a) H1
noncomputable def YV(K:PySem.W.Frag)(tl:TE):TI:=λσ H R=>tl σ H λx H1=>∃a,x=.ref a/\(∃xs,SqT K H1 a xs)/\R (Itt K a) H1
theorem NO{l:Expr}{tl:TE}(hl:PE X l tl):PI X tg l (Ul X.K tl):=by
 intro pins s σ H R I h;refine thn (hl pins s σ H _ I h) λv s1 ⟨x,H1,I1,r1,q1⟩=>?_;obtain⟨a,e,⟨xs,hq⟩,q⟩:=q1;subst e;cases r1;obtain⟨its,rv,p,hz⟩:=I1.list hq;refine wpAny_pyIter_list p.isList ?_;refine⟨s1.heap.objs.size,[s1.heap.objs.size],_,_,H1,rfl,I1.kept (t':=s1.toks) λb o e=>AAC _ e,OF a _,⟨_,AAD _ rfl,rfl,rfl⟩,λb hb=>?_,q⟩;have e:b=s1.heap.objs.size:=by simpa using hb
 subst e;exact I1.fpOk (AAF _) (I1.hok.fresh (AAF _))
theorem Ve{l:Expr}{tl:TE}(hl:PE X l tl):PI X tg l (YV X.K tl):=by
 intro pins s σ H R I h;refine thn (hl pins s σ H _ I h) λv s1 ⟨x,H1,I1,r1,q1⟩=>?_;obtain⟨a,e,⟨xs,hq⟩,q⟩:=q1;subst e;cases r1;obtain⟨its,rv,p,hz⟩:=I1.tuple hq;refine wpAny_pyIter_tuple (show s1.heap.IsTuple a its.toArray from p) ?_;refine⟨s1.heap.objs.size,[s1.heap.objs.size],_,_,H1,rfl,I1.kept (t':=s1.toks) λb o e=>AAC _ e,L8 a _,⟨_,AAD _ rfl,rfl,rfl⟩,λb hb=>?_,q⟩;have e:b=s1.heap.objs.size:=by simpa using hb
 subst e;exact I1.fpOk (AAF _) (I1.hok.fresh (AAF _))
theorem Qg{pins:List (Addr×Obj)}{σ:St}{H:Hp}{s:Shared}{R:It->Hp->Prop}{E:Value->Shared->Prop}{lo hi:Int}{t u v:Tok}{tk:Nat}(I:Inv X pins σ H s)(h1:-(2 ^ 62)<=lo)(h2:lo<2 ^ 62)(h3:-(2 ^ 62)<=hi)(h4:hi<2 ^ 62)
  (q:R (Itr lo (hi-lo).toNat) H):wpAny (model X.prog X.w) X.A (pyIter (.ref s.heap.objs.size)) (PIE X pins σ tg R) E { s with heap:=s.heap.push { cls:=.type "range",data:=.fields #[.int lo t,.int hi u,.int 1 v] },toks:=tk }:=by
 refine wpAny_pyIter_range (IsRange.new ..) (small_one h1 h2 h3 h4) ?_;have I1:Inv X pins σ H { s with heap:=s.heap.push { cls:=.type "range",data:=.fields #[.int lo t,.int hi u,.int 1 v] },toks:=tk }:=I.kept λb o e=>AAC _ e;refine⟨(s.heap.push { cls:=.type "range",data:=.fields #[.int lo t,.int hi u,.int 1 v] }).objs.size,[(s.heap.push { cls:=.type "range",data:=.fields #[.int lo t,.int hi u,.int 1 v] }).objs.size],_,_,H,rfl,
  I1.kept (t':=tk) λb o e=>AAC _ e,L9 _ lo (hi-lo).toNat,?_,λb hb=>?_,q⟩
 ·have e1:lo+((0:Nat):Int) * 1=lo:=by simp
  have e2:(((hi-lo).toNat:Nat):Int)-((0:Nat):Int)=Builtin.Range.rangeSize lo hi 1:=by rw[rangeSize_one];split<;>omega
  show IsRangeIter _ _ (lo+((0:Nat):Int) * 1) ((((hi-lo).toNat:Nat):Int)-((0:Nat):Int)) 1;rw[e1,e2];exact AAD _ rfl
 ·have e:b=(s.heap.push { cls:=.type "range",data:=.fields #[.int lo t,.int hi u,.int 1 v] }).objs.size:=by simpa using hb
  subst e;exact I1.fpOk (AAF _) (I1.hok.fresh (AAF _))
noncomputable def YW(ta:TA):TI:=λσ H R=>ta σ H λvs H1=>∃j:Int,vs=[.int j]/\-(2 ^ 62)<=j/\j<2 ^ 62/\R (Itr 0 j.toNat) H1
theorem OU{a:Expr}{ta:TA}{p pos:Pos}(hg:Gl X "range")(hm:X.mg "range" = none)(ha:PA X [a] ta)(hs:starEach [a] X.env=[(false,eval a X.env)]:=by rfl):PI X tg (.Call (.Name "range" p) [a] [] pos) (YW ta):=by
 intro pins s σ H R I h;refine Call_ (Fz I hg hm boot_range (PyProof.Rows.callWith_type1 (thn (ha pos pins s σ H _ I h) λus s1 ⟨vs,H1,I1,r1,q1⟩=>?_) hs rfl));obtain⟨j,e,q1,q2,q⟩:=q1;subst e;cases r1 with
 |cons r rr=>
  cases rr;obtain⟨t,rfl⟩:=r;exact call_range_1 (Qg I1 (by omega) (by omega) q1 q2 (by simpa using q))
noncomputable def XW(wi:TI)(g:TG)(tb:TS):TS:=λD σ H=>wi σ H λJ H1=>∃W:Nat->Nat->St->Hp->Prop,(∃m,W 0 m σ H1)/\∀i m σ H,W i m σ H->
 (J.stop i H/\D.nx σ H)∨(J.go i H/\∃N:St->Hp->Prop,(∀σ' H',N σ' H'->∃m',m'<m/\W (i+1) m' σ' H')/\∀x H',J.yld i H x H'->g x σ H' λσ2 H2=>tb { D with nx:=N,ct:=N,bk:=D.nx } σ2 H2)
noncomputable def IG(fp:List Addr)(h:Heap):List (Addr×Obj):=fp.filterMap λb=>(h.get? b).map λo=>(b,o)
theorem CL{fp:List Addr}{h:Heap}{b:Addr}{o:Obj}(hb:b∈fp)(e:h.get? b=some o):(b,o)∈IG fp h:=List.mem_filterMap.mpr ⟨b,hb,by rw[e];rfl⟩
theorem Oa{fp:List Addr}{h:Heap}{p:Addr×Obj}(hp:p∈IG fp h):p.1∈fp/\h.get? p.1=some p.2:=by
 obtain⟨b,hb,e⟩:=List.mem_filterMap.mp hp;cases q:h.get? b with
 |none=>rw[q] at e;cases e
 |some o=>
  rw[q] at e;have e':(b,o)=p:=Option.some.inj e;subst e';exact⟨hb,q⟩
theorem Inv.pinned{pins:List (Addr×Obj)}{σ:St}{H:Hp}{s:Shared}{fp:List Addr}(I:Inv X pins σ H s)(hf:∀b∈fp,FX X pins H b)(ho:∀b∈fp,∃o,s.heap.get? b=some o/\∀v,o.data≠.cell v):Inv X (pins++IG fp s.heap) σ H s:=
 I.pins_of λp hp=>(AAK.mp hp).elim (λz=>I.pin p (AAa _ z)) λz=>by
  obtain⟨hb,e⟩:=Oa z;obtain⟨f0,f1,f2,_⟩:=hf p.1 hb;obtain⟨o,e',d⟩:=ho p.1 hb;rw[e] at e';cases e';exact⟨e,f0,f1,f2,d⟩
theorem Inv.unpinned{pins pl:List (Addr×Obj)}{σ:St}{H:Hp}{s:Shared}(I:Inv X (pins++pl) σ H s):Inv X pins σ H s:=I.pins_of λp hp=>I.pin p (AAa _ (AAb _ hp))
theorem Vb{iter:Expr}{body:List Stmt}{wi:TI}{g:TG}{tb:TS}{pos:Pos}(hp:PassesOwn (model X.prog X.w) X.A X.env X.xe)(hc:X.calm=true)(hi:PI X tg iter wi)(hg:PG X tg g)(hb:PSs X body tb)
  (hs:∀x,foldedSetIterable iter X.env x=pure x:=by intro _;rfl):PS X (.For tg iter body [] pos) (XW wi g tb):=by
 intro pins s σ H D I h;refine wpAny_For (thn (hi pins s σ H _ I h) λv s1 h1=>thn h1 λitv s2 h2=>?_) hs;obtain⟨it,fp,tn,J,H2,e,I2,T,st2,f2,W,⟨m0,w0⟩,turn⟩:=h2;subst e;have stat:∀{H':Hp},(∀b∈fp,H' b=none)->∀b∈fp,FX X pins H' b:=λhn b hb=>⟨hn b hb,(f2 b hb).2⟩;refine codeAny_forLoop_any (λn s'=>∃i σ' H',Inv X pins σ' H' s'/\tn i s'.heap/\(∀b∈fp,H' b=none)/\W i n σ' H') ?_ m0 ⟨0,σ,H2,I2,st2,λb hb=>(f2 b hb).1,w0⟩;rintro n s3 ⟨i,σ3,H3,I3,st3,fr3,w3⟩;rcases turn i n σ3 H3 w3 with ⟨stop,qn⟩|⟨go,N,hN,step⟩
 ·refine wpAny_passesOwn hp (thn (T.done X rfl rfl rfl hc i pins s3 σ3 H3 X.xe I3 (stat fr3) st3 stop) λr s4 ⟨hr,I4⟩=>?_);subst hr;exact wpAny_execs_nil ⟨σ3,H3,I4,qn⟩
 ·refine wpAny_passesOwn hp (thn (T.item X rfl rfl rfl hc i pins s3 σ3 H3 X.xe I3 (stat fr3) st3 go) λr s4 ⟨u,hr,h4⟩=>?_);subst hr;refine wpAny_passesOwn hp (thn h4 λ_ s5 ⟨x,H5,I5,r5,y5,st5,fr5⟩=>?_);have I5':=I5.pinned (stat fr5) (T.obj _ _ st5);refine wpAny_passesOwn hp (thn (hg _ s5 σ3 H5 x u _ I5' r5 (step x H5 y5)) λ_ s6 ⟨σ6,H6,I6,q6⟩=>?_);refine wpAny_passesOwn hp (thn (hb _ s6 σ6 H6 _ I6 q6) λf s7 q7=>?_);have again:∀{σ7:St} {H7:Hp},Inv X (pins++IG fp s5.heap) σ7 H7 s7->N σ7 H7->∃m,m<n/\∃i σ' H',Inv X pins σ' H' s7/\tn i s7.heap/\(∀b∈fp,H' b=none)/\W i m σ' H':=λ{σ7 H7} I7 n7=>by
   obtain⟨m',hm,w7⟩:=hN σ7 H7 n7;refine⟨m',hm,i+1,σ7,H7,I7.unpinned,T.keep _ _ _ st5 λb hb o e=>(I7.pin (b,o) (AAa _ (AAa _ (CL hb e)))).1,λb hb=>?_,w7⟩;obtain⟨o,e,d⟩:=T.obj _ _ st5 b hb;exact(I7.pin (b,o) (AAa _ (AAa _ (CL hb e)))).2.1
  cases f with
  |next=>obtain⟨σ7,H7,I7,n7⟩:=q7;exact again I7 n7
  |cont=>obtain⟨σ7,H7,I7,n7⟩:=q7;exact again I7 n7
  |brk=>obtain⟨σ7,H7,I7,q7⟩:=q7;exact⟨σ7,H7,I7.unpinned,q7⟩
  |ret v=>obtain⟨x7,σ7,H7,I7,r7,q7⟩:=q7;exact⟨x7,σ7,H7,I7.unpinned,r7,q7⟩
end
noncomputable abbrev R2:=V->V->Hp->VK->Prop
def OpR(X:Cx)(f:Value->Value->Sem Value)(r:R2):Prop:=
 ∀(pins:List (Addr×Obj)) (s:Shared) (σ:St) (H:Hp) (x y:V) (v u:Value) (Q:VK),Inv X pins σ H s->RelV x v->RelV y u->r x y H Q->
  wpAny (model X.prog X.w) X.A (f v u) (EP X pins σ Q) X.xe s
def UnR(X:Cx)(f:Value->Sem Value)(r:V->Hp->VK->Prop):Prop:=
 ∀(pins:List (Addr×Obj)) (s:Shared) (σ:St) (H:Hp) (x:V) (v:Value) (Q:VK),Inv X pins σ H s->RelV x v->r x H Q->
  wpAny (model X.prog X.w) X.A (f v) (EP X pins σ Q) X.xe s
def CT(X:Cx)(f:Value)(r:List V->Hp->VK->Prop):Prop:=
 ∀(pins:List (Addr×Obj)) (s:Shared) (σ:St) (H:Hp) (xs:List V) (us:List Value) (Q:VK),Inv X pins σ H s->Vals xs us->r xs H Q->
  wpAny (model X.prog X.w) X.A (call f us) (EP X pins σ Q) X.xe s
noncomputable def tOp(r:R2)(ta tb:TE):TE:=λσ H Q=>ta σ H λx H1=>tb σ H1 λy H2=>r x y H2 Q
noncomputable def tUn(r:V->Hp->VK->Prop)(ta:TE):TE:=λσ H Q=>ta σ H λx H1=>r x H1 Q
noncomputable def rI(C:Int->Int->Prop)(g:Int->Int->V):R2:=λx y H Q=>∃i j,x=.int i/\y=.int j/\C i j/\Q (g i j) H
noncomputable def rI0(g:Int->Int->V):R2:=λx y H Q=>∃i j,x=.int i/\y=.int j/\Q (g i j) H
noncomputable def rU(g:Int->V):V->Hp->VK->Prop:=λx H Q=>∃i,x=.int i/\Q (g i) H
section
variable{X:Cx}{a b:Expr}{ta tb:TE}{pos:Pos}
theorem Wu(ha:PE X a ta)(hb:PE X b tb){pins:List (Addr×Obj)}{s:Shared}{σ:St}{H:Hp}{R:V->V->Hp->Prop}(I:Inv X pins σ H s)
  (h:ta σ H λx H1=>tb σ H1 λy H2=>R x y H2) {Q:Value->Shared->Prop} {f:Value->Value->Sem Value}
  (hf:∀v u s2 x y H2,Inv X pins σ H2 s2->RelV x v->RelV y u->R x y H2->wpAny (model X.prog X.w) X.A (f v u) Q X.xe s2) :
  wpAny (model X.prog X.w) X.A (eval a X.env) (λv s₁=>wpAny (model X.prog X.w) X.A (eval b X.env) (λu s₂=>wpAny (model X.prog X.w) X.A (f v u) Q X.xe s₂) X.xe s₁) X.xe s:=by
 refine thn (ha pins s σ H _ I h) λv s1 ⟨x,H1,I1,r1,q1⟩=>?_;refine thn (hb pins s1 σ H1 _ I1 q1) λu s2 ⟨y,H2,I2,r2,q2⟩=>?_;exact hf v u s2 x y H2 I2 r1 r2 q2
theorem Xu{op:Operator}{r:R2}(ho:OpR X (binaryOp op) r)(ha:PE X a ta)(hb:PE X b tb):PE X (.BinOp a op b pos) (tOp r ta tb):=by
 intro pins s σ H Q I h;exact wpAny_BinOp (Wu ha hb I h λv u s2 x y H2 I2 rx ry q=>ho pins s2 σ H2 x y v u Q I2 rx ry q)
theorem Xr{op:UnaryOp}{r:V->Hp->VK->Prop}(ho:UnR X (unaryOp op) r)(ha:PE X a ta):PE X (.UnaryOp op a pos) (tUn r ta):=by
 intro pins s σ H Q I h;exact UnaryOp_ (thn (ha pins s σ H _ I h) λv s1 ⟨x,H1,I1,r1,q1⟩=>ho pins s1 σ H1 x v Q I1 r1 q1)
theorem opI{f:Value->Value->Sem Value}{C:Int->Int->Prop}{g:Int->Int->Int}
  (rule:∀(i j:Int) (t u:Tok) (s:Shared) (Q:Value->Shared->Prop) (E:Value->Shared->Prop),C i j->Q (.int (g i j) s.toks) { s with toks:=s.toks+1 }->wpAny (model X.prog X.w) X.A (f (.int i t) (.int j u)) Q E s) :
  OpR X f (rI C λi j=>.int (g i j)):=by
 intro pins s σ H x y v u Q I rx ry h;obtain⟨i,j,rfl,rfl,hc,q⟩:=h;obtain⟨t,rfl⟩:=rx;obtain⟨t',rfl⟩:=ry;exact rule i j t t' s _ _ hc ⟨.int (g i j),H,I.tok _,⟨_,rfl⟩,q⟩
theorem X6{f:Value->Value->Sem Value}{g:Int->Int->Int}
  (rule:∀(i j:Int) (t u:Tok) (s:Shared) (Q:Value->Shared->Prop) (E:Value->Shared->Prop),Q (.int (g i j) s.toks) { s with toks:=s.toks+1 }->wpAny (model X.prog X.w) X.A (f (.int i t) (.int j u)) Q E s) :
  OpR X f (rI0 λi j=>.int (g i j)):=by
 intro pins s σ H x y v u Q I rx ry h;obtain⟨i,j,rfl,rfl,q⟩:=h;obtain⟨t,rfl⟩:=rx;obtain⟨t',rfl⟩:=ry;exact rule i j t t' s _ _ ⟨.int (g i j),H,I.tok _,⟨_,rfl⟩,q⟩
theorem V6{f:Value->Value->Sem Value}{g:Int->Int->Bool}
  (rule:∀(i j:Int) (t u:Tok) (s:Shared) (Q:Value->Shared->Prop) (E:Value->Shared->Prop),Q (.bool (g i j)) s->wpAny (model X.prog X.w) X.A (f (.int i t) (.int j u)) Q E s) :
  OpR X f (rI0 λi j=>.bl (g i j)):=by
 intro pins s σ H x y v u Q I rx ry h;obtain⟨i,j,rfl,rfl,q⟩:=h;obtain⟨t,rfl⟩:=rx;obtain⟨t',rfl⟩:=ry;exact rule i j t t' s _ _ ⟨.bl (g i j),H,I,rfl,q⟩
def ZU(i j:Int):Prop:=0<j/\j<1073741824
def ZT(i j:Int):Prop:=0<=j/\j<=1000000/\i.natAbs<2 ^ 64
def CMul(i j:Int):Prop:=(-(2 ^ 64)<i/\i<2 ^ 64)∨(-(2 ^ 64)<j/\j<2 ^ 64)
theorem CMul.ok{i j:Int}(h:CMul i j):IntMulOk i j:=by
 rcases h with ⟨h1,h2⟩|⟨h1,h2⟩
 ·exact .of_left (intBits_le_64 h1 h2)
 ·exact .of_right (intBits_le_64 h1 h2)
theorem V5:OpR X (binaryOp .Add) (rI0 λi j=>.int (i+j)):=X6 λ_ _ _ _ _ _ _ q=>add_int q
theorem Vw:OpR X (binaryOp .Sub) (rI0 λi j=>.int (i-j)):=X6 λ_ _ _ _ _ _ _ q=>sub_int q
theorem V0:OpR X (binaryOp .Mult) (rI CMul λi j=>.int (i * j)):=opI λ_ _ _ _ _ _ _ hc q=>mul_int q hc.ok
theorem Ta:OpR X (binaryOp .FloorDiv) (rI ZU λi j=>.int (i / j)):=opI λi j _ _ _ _ _ hc q=>by
 have h1:(0:Int)<j:=hc.1;have h2:j<1073741824:=hc.2;exact floordiv_int (by omega) (by rw[Int.fdiv_eq_ediv_of_nonneg i (by omega)];exact q) (.inl (PyProof.noPylong_small (by omega)))
theorem V1:OpR X (binaryOp .Mod) (rI (λ_ j=>0<j) λi j=>.int (i % j)):=opI λi j _ _ _ _ _ hc q=>by
 have h1:(0:Int)<j:=hc;exact mod_int' (by omega) (by rw[Int.fmod_eq_emod_of_nonneg i (by omega)];exact q)
theorem Vy:OpR X (binaryOp .Pow) (rI ZT λi j=>.int (i ^ j.toNat)):=opI λ_ _ _ _ _ _ _ hc q=>pow_int_small hc.1 hc.2.1 hc.2.2 q
theorem unI{f:Value->Sem Value}{g:Int->Int}
  (rule:∀(i:Int) (t:Tok) (s:Shared) (Q:Value->Shared->Prop) (E:Value->Shared->Prop),Q (.int (g i) s.toks) { s with toks:=s.toks+1 }->wpAny (model X.prog X.w) X.A (f (.int i t)) Q E s) :
  UnR X f (rU λi=>.int (g i)):=by
 intro pins s σ H x v Q I rx h;obtain⟨i,rfl,q⟩:=h;obtain⟨t,rfl⟩:=rx;exact rule i t s _ _ ⟨.int (g i),H,I.tok _,⟨_,rfl⟩,q⟩
theorem U7:UnR X (unaryOp .USub) (rU λi=>.int (-i)):=unI λ_ _ _ _ _ q=>neg_int q
end
section
variable{X:Cx}{a b c:Expr}{ta tb tc:TE}{pos:Pos}
theorem Ke{pins:List (Addr×Obj)}{σ:St}{H:Hp}{s:Shared}{Q:VK}{k k':Bool}(I:Inv X pins σ H s)(q:Q (.bl k) H)(e:k=k'):EP X pins σ Q (.bool k') s:=by
 subst e;exact⟨.bl k,H,I,rfl,q⟩
theorem X2:OpR X (compareOp .Lt) (rI0 λi j=>.bl (decide (i<j))):=V6 λ_ _ _ _ _ _ _ q=>lt_int q
theorem X3:OpR X (compareOp .LtE) (rI0 λi j=>.bl (decide (i<=j))):=V6 λ_ _ _ _ _ _ _ q=>le_int q
theorem X4:OpR X (compareOp .Gt) (rI0 λi j=>.bl (decide (j<i))):=V6 λ_ _ _ _ _ _ _ q=>gt_int q
theorem OX:OpR X (compareOp .In) (λx y H Q=>∃i j,x=.str i/\y=.str j/\Q (.bl (!(Builtin.Str.occurrences j i 0 j.length 1).isEmpty)) H):=by
 intro pins s σ H x y v u Q I rx ry h;obtain⟨i,j,rfl,rfl,q⟩:=h;obtain⟨t,rfl⟩:=rx;obtain⟨t',rfl⟩:=ry;exact in_str (Ke I q rfl)
theorem V2:OpR X (compareOp .Is) (λx y H Q=>y=.non/\Q (.bl (decide (x=.non))) H):=by
 intro pins s σ H x y v u Q I rx ry h;obtain⟨rfl,q⟩:=h;cases ry;refine is_none_gen (Ke I q ?_);cases x<;>first
  |(cases rx;rfl)
  |(obtain⟨t,rfl⟩:=rx;rfl)
theorem TZ:OpR X (compareOp .IsNot) (λx y H Q=>y=.non/\Q (.bl (!decide (x=.non))) H):=by
 intro pins s σ H x y v u Q I rx ry h;obtain⟨rfl,q⟩:=h;cases ry;refine isnot_none_gen (Ke I q ?_);cases x<;>first
  |(cases rx;rfl)
  |(obtain⟨t,rfl⟩:=rx;rfl)
theorem KJ:OpR X (compareOp .NotIn) (λx y H Q=>∃i j,x=.str i/\y=.str j/\Q (.bl (!(!(Builtin.Str.occurrences j i 0 j.length 1).isEmpty))) H):=by
 intro pins s σ H x y v u Q I rx ry h;obtain⟨i,j,rfl,rfl,q⟩:=h;obtain⟨t,rfl⟩:=rx;obtain⟨t',rfl⟩:=ry;exact notIn_str (Ke I q rfl)
theorem Q7(b:Expr){op:CmpOp}(h:op≠.In:=by decide)(h2:op≠.NotIn:=by decide):behindInMarks op b=false:=by
 have e1:(op==CmpOp.In)=false:=by cases op<;>first|rfl|exact absurd rfl h
 have e2:(op==CmpOp.NotIn)=false:=by cases op<;>first|rfl|exact absurd rfl h2
 cases b<;>simp[behindInMarks,e1,e2]
theorem TV{op:CmpOp}{r:R2}(ho:OpR X (compareOp op) r)(ha:PE X a ta)(hb:PE X b tb)(hm:behindInMarks op b=false):PE X (.Compare a [op] [b] pos) (tOp r ta tb):=by
 intro pins s σ H Q I h;exact wpAny_Compare1 (Wu ha hb I h λv u s2 x y H2 I2 rx ry q=>ho pins s2 σ H2 x y v u Q I2 rx ry q) hm
noncomputable def XN(t:TE):TT:=λσ H Q=>t σ H λx H'=>∃k,x=.bl k/\Q k H'
theorem TF{op:CmpOp}{r:R2}(ho:OpR X (compareOp op) r)(ha:PE X a ta)(hb:PE X b tb)(hm:behindInMarks op b=false):PT X (.Compare a [op] [b] pos) (XN (tOp r ta tb)):=by
 intro pins s σ H Q I h;refine wpAny_isTrue_Compare1 (thn (ha pins s σ H _ I h) λv s1 ⟨x,H1,I1,r1,q1⟩=>thn (hb pins s1 σ H1 _ I1 q1) λu s2 ⟨y,H2,I2,r2,q2⟩=>
  thn (ho pins s2 σ H2 x y v u _ I2 r1 r2 q2) λc s3 ⟨z,H3,I3,r3,k,e,q3⟩=>?_) hm
 subst e;cases r3;exact wpAny_truthy_bool ⟨H3,I3,q3⟩
noncomputable def QF(r r':R2)(ta tb tc:TE):TE:=λσ H Q=>ta σ H λx H1=>tb σ H1 λy H2=>r x y H2 λz H3=>∃k,z=.bl k /\
 (if k=true then tc σ H3 λw' H4=>r' y w' H4 Q else Q (.bl false) H3)
theorem Qx{op op':CmpOp}{r r':R2}(ho:OpR X (compareOp op) r)(ho':OpR X (compareOp op') r')(ha:PE X a ta)(hb:PE X b tb)(hc:PE X c tc)
  (hm:lastMarks [op,op'] [b,c]=false:=by with_unfolding_all rfl):PE X (.Compare a [op,op'] [b,c] pos) (QF r r' ta tb tc):=by
 intro pins s σ H Q I h;refine Compare_chain (thn (ha pins s σ H _ I h) λv s1 ⟨x,H1,I1,r1,q1⟩=>chain_link (thn (hb pins s1 σ H1 _ I1 q1) λu s2 ⟨y,H2,I2,r2,q2⟩=>
  thn (ho pins s2 σ H2 x y v u _ I2 r1 r2 q2) λd s3 ⟨z,H3,I3,r3,k,e,q3⟩=>?_)) hm
 subst e;cases r3;refine wpAny_truthy_bool ?_;cases k with
 |false=>exact ite_ff ⟨.bl false,H3,I3,rfl,q3⟩
 |true=>exact ite_tt (chain_last (thn (hc pins s3 σ H3 _ I3 q3) λw' s4 ⟨z',H4,I4,r4,q4⟩=>ho' pins s4 σ H4 y z' u w' Q I4 r2 r4 q4))
theorem IR:(sizeLine:Nat)<2 ^ 63:=by rw[sizeLine_eq];decide
theorem MP:OpR X (binaryOp .Add) (λx y H Q=>∃i j,x=.str i/\y=.str j/\i.length+j.length<=sizeLine/\Q (.str (i++j)) H):=by
 intro pins s σ H x y v u Q I rx ry h;obtain⟨i,j,rfl,rfl,hz,q⟩:=h;obtain⟨t,rfl⟩:=rx;obtain⟨t',rfl⟩:=ry;exact add_str (λt' tk=>⟨.str (i++j),H,I.tok _,⟨_,rfl⟩,q⟩) hz
theorem G7{x:V}{us:List Value}(r:Vals [x] us):∃u,us=[u]/\RelV x u:=by
 cases r with
 |cons r1 r2=>cases r2;exact⟨_,rfl,r1⟩
theorem Ps{x y:V}{us:List Value}(r:Vals [x,y] us):∃u w',us=[u,w']/\RelV x u/\RelV y w':=by
 cases r with
 |cons r1 r2=>
  cases r2 with
  |cons r3 r4=>cases r4;exact⟨_,_,rfl,r1,r3⟩
theorem PK(hc:X.calm=true):CT X (.builtin "max") (λxs H Q=>∃i j,xs=[.int i,.int j]/\Q (.int (if j > i then j else i)) H):=by
 intro pins s σ H xs us Q I r h;obtain⟨i,j,rfl,q⟩:=h;obtain⟨u,w',rfl,⟨t,rfl⟩,⟨t',rfl⟩⟩:=Ps r;refine max_two_ints (I.ok.hd hc) λh' tk k=>⟨_,H,I.kept k,?_,q⟩;by_cases hj:j > i
 ·rw[if_pos hj,if_pos hj];exact⟨_,rfl⟩
 ·rw[if_neg hj,if_neg hj];exact⟨_,rfl⟩
theorem PH(hc:X.calm=true):CT X (.builtin "min") (λxs H Q=>∃i j,xs=[.int i,.int j]/\Q (.int (if j<i then j else i)) H):=by
 intro pins s σ H xs us Q I r h;obtain⟨i,j,rfl,q⟩:=h;obtain⟨u,w',rfl,⟨t,rfl⟩,⟨t',rfl⟩⟩:=Ps r;refine min_two_ints (I.ok.hd hc) λh' tk k=>⟨_,H,I.kept k,?_,q⟩;by_cases hj:j<i
 ·rw[if_pos hj,if_pos hj];exact⟨_,rfl⟩
 ·rw[if_neg hj,if_neg hj];exact⟨_,rfl⟩
theorem PM:CT X (.type "int") (λxs H Q=>(∃i,xs=[.int i]/\Q (.int i) H)∨∃k,xs=[.bl k]/\Q (.int (if k then 1 else 0)) H):=by
 intro pins s σ H xs us Q I r h;rcases h with ⟨i,rfl,q⟩|⟨k,rfl,q⟩
 ·obtain⟨u,rfl,t,rfl⟩:=G7 r;exact call_int_int ⟨.int i,H,I,⟨_,rfl⟩,q⟩
 ·obtain⟨u,rfl,r1⟩:=G7 r;cases r1;exact call_int_bool ⟨.int (if k then 1 else 0),H,I.tok _,⟨_,rfl⟩,q⟩
def ZR(K:PySem.W.Frag)(x:V)(H:Hp)(n:Nat):Prop:=
 match x with
 | .str y=>y.length<=sizeLine/\n=y.length
 | .byt y=>y.size<=sizeLine/\n=y.size
 | .ref p=>(∃xs,SqL K H p xs/\n=xs.length)∨∃xs,SqT K H p xs/\n=xs.length
 |_=>False
theorem Ru:CT X (.builtin "len") (λxs H Q=>∃x n,xs=[x]/\ZR X.K x H n/\Q (.int n) H):=by
 intro pins s σ H xs us Q I r h;obtain⟨x,n,rfl,e,q⟩:=h;obtain⟨u,rfl,rx⟩:=G7 r;have hl:=IR;have hs:sizeLine=16777216:=sizeLine_eq;cases x with
 |str y=>
  obtain⟨t,rfl⟩:=rx;obtain⟨hy,e'⟩:y.length<=sizeLine/\n=y.length:=e;subst e';exact len_str (by omega) ⟨.int _,H,I.tok _,⟨_,rfl⟩,q⟩
 |byt y=>
  obtain⟨t,rfl⟩:=rx;obtain⟨hy,e'⟩:y.size<=sizeLine/\n=y.size:=e;subst e';exact PySem.W.len_bytes (by omega) ⟨.int _,H,I.tok _,⟨_,rfl⟩,q⟩
 |ref p=>
  cases rx;have e':(∃xs,SqL X.K H p xs/\n=xs.length)∨∃xs,SqT X.K H p xs/\n=xs.length:=e;rcases e' with ⟨xs,hx,e'⟩|⟨xs,hx,e'⟩
  ·subst e';obtain⟨its,r',pl,hz⟩:=I.list hx;have hlen:=r'.length;exact Calls.call_len_list pl.isList (by simp only[List.size_toArray];omega) ⟨.int xs.length,H,I.tok _,⟨_,by simp only[List.size_toArray];rw[hlen]⟩,q⟩
  ·subst e';obtain⟨its,r',pl,hz⟩:=I.tuple hx;have hlen:=r'.length;exact len_tuple pl (by simp only[List.size_toArray];omega) ⟨.int xs.length,H,I.tok _,⟨_,by simp only[List.size_toArray];rw[hlen]⟩,q⟩
 |_=>exact(show False from e).elim
end
structure ObjM(h:Heap)(x dx C:Addr)(mA:Str->Option Value):Prop where
 obj:h.get? x=some (PySem.W.instObj C dx)
 ns:h.Ns1 dx mA
 ne:dx≠x
theorem Og{h:Heap}{dx:Addr}{mA:Str->Option Value}(n:h.Ns1 dx mA):∃od,h.get? dx=some od/\∀name,PySem.W.lookIn name od=some (mA name):=by
 obtain⟨o,es,ep,ho,hd,hk,_,hm⟩:=n;refine⟨o,ho,λname=>?_⟩;have e:=hm name;unfold nsFind findBy at e;rw[←Array.find?_toList] at e;unfold PySem.W.lookIn;rw[hd];dsimp only;split
 ·rename_i y q;rw[q] at e;exact congrArg some e
 ·rename_i q;rw[q] at e;have a:es.toList.any (·.refKey)=false:=by
   rw[List.any_eq_false];intro y hy;obtain⟨z,t,hkey⟩:=hk y (Array.mem_toList_iff.mp hy);simp[DictEntry.refKey,hkey]
  have a':¬es.toList.any (·.refKey)=true:=by rw[a];exact AAf
  rw[if_neg a'];exact congrArg some e
theorem ObjM.look{h:Heap}{x dx C:Addr}{mA:Str->Option Value}(I:ObjM h x dx C mA):∃od,PySem.W.InstAt h x (PySem.W.instObj C dx) C (some od)/\∀name,PySem.W.lookIn name od=some (mA name):=
 let ⟨od,ho,hl⟩:=Og I.ns
 ⟨od,⟨I.obj,rfl,rfl,ho⟩,hl⟩
theorem RelO.some_of{v:V}{o:Option Value}(r:RelO (some v) o):∃u,o=some u/\RelV v u:=by
 cases o with
 |none=>exact(show False from r).elim
 |some u=>exact⟨u,rfl,r⟩
section
variable{P:Program}{w:World}{H:Hp}{h:Heap}{a C dx:Addr}{fs:List (Str×V)}
theorem UA(hok:HOk P w H h)(e:H a=some (.ins C dx fs)):∃mA,ObjM h a dx C mA/\(∀f,RelO (fs.lookup f) (mA f))/\PySem.Within mA (fs.map (·.1))/\fs.length<=1000/\H dx=some (.own a):=by
 obtain⟨d,z,ne,ob,mA,n,r,q⟩:=(show ObjOk P w H h a (.ins C dx fs) from hok a _ e);exact⟨mA,⟨ob,n,ne⟩,r,q,z,d⟩
end
structure Cls(K:PySem.W.Frag)(C:Addr):Prop where
 pg:PySem.W.plainGet K C Str.empty=true
 hd:PySem.W.hasDictIn K C=true
 po:PySem.W.plainOver K C=true
 sa:PySem.W.findIn K (.ref C) "__setattr__" = some (some (.builtin "object.__setattr__"))
theorem Cls.get{K:PySem.W.Frag}{C:Addr}(c:Cls K C)(f:Str):PySem.W.plainGet K C f=true:=c.pg
section
variable{X:Cx}{pins:List (Addr×Obj)}{σ:St}{H:Hp}{s:Shared}{A:Around}{E:Value->Shared->Prop}{Q:Value->Shared->Prop}{c:Value}{b:Bool}
inductive Gc (K:PySem.W.Frag) (H:Hp):V->Value->Prop where
 |non:Gc K H .non (.type "NoneType")
 |bl (x:Bool):Gc K H (.bl x) (.type "bool")
 |int (i:Int):Gc K H (.int i) (.type "int")
 |str (x:Str):Gc K H (.str x) (.type "str")
 |flt (x:UInt64):Gc K H (.flt x) (.type "float")
 |lst {a:Addr} {xs:List V} (e:H a=some (.lst xs)):Gc K H (.ref a) (.type "list")
 |frz {a:Addr} {o:Obj} {xs:List V} (e:H a=some (.frz o (.lst xs))):Gc K H (.ref a) (.type "list")
 |tup {a:Addr} {xs:List V} (e:H a=some (.tup xs)):Gc K H (.ref a) (.type "tuple")
 |dK {a:Addr} {kvs:List (Key×V)} (e:H a=some (.dK kvs)):Gc K H (.ref a) (.type "dict")
 |dT {a:Addr} {kvs:List (List Key×V)} (e:H a=some (.dT kvs)):Gc K H (.ref a) (.type "dict")
 |ins {a C dx:Addr} {fs:List (Str×V)} (e:H a=some (.ins C dx fs)) (cl:Cls K C) (ha:PySem.W.findIn K (.ref C) "__class__" = some (some (.builtin "object.__class__")))
   (hn:PySem.W.specialIn K (.builtin "object.__class__") "__get__" = some (some (.builtin "getset_descriptor.__get__"))) (htk:PySem.W.takesIn K (.builtin "object.__class__")=some true)
   (hm:PySem.W.mroIn K C (.type "object")=some true):Gc K H (.ref a) (.ref C)
theorem Ot{x:V}{u t:Value}(I:Inv X pins σ H s)(rx:RelV x u)(ty:Gc X.K H x t)(e:PySem.W.kitOne X.K t c=some b)(h:∀tk,Q (.bool b) { s with toks:=tk }):
  wpAny (model X.prog X.w) A (call (.builtin "isinstance") [u,c]) Q E s:=by
 cases ty with
 |non=>cases (show u=Value.none from rx);exact PySem.W.kia_one PySem.W.kitx_none I.kIn True.intro e (λz=>nomatch z) h
 |bl y=>cases (show u=Value.bool y from rx);exact PySem.W.kia_one PySem.W.kitx_bool I.kIn True.intro e (λz=>nomatch z) h
 |int i=>obtain⟨t,q⟩:=(show ∃t,u=Value.int i t from rx);cases q;exact PySem.W.kia_one PySem.W.kitx_int I.kIn True.intro e (λz=>nomatch z) h
 |str y=>obtain⟨t,q⟩:=(show ∃t,u=Value.str y t from rx);cases q;exact PySem.W.kia_one PySem.W.kitx_str I.kIn True.intro e (λz=>nomatch z) h
 |flt y=>obtain⟨t,q⟩:=(show ∃t,u=Value.float y t from rx);cases q;exact PySem.W.kia_one PySem.W.kitx_float I.kIn True.intro e (λz=>nomatch z) h
 |@lst a xs ea=>
  cases (show u=Value.ref a from rx);obtain⟨_,_,n,_,h1⟩:=(show ObjOk X.prog X.w H s.heap a (.lst xs) from I.hok a _ ea);exact PySem.W.kia_one PySem.W.kitx_list I.kIn ⟨_,h1,rfl⟩ e (λz=>nomatch z) h
 |@frz a ob xs ea=>
  cases (show u=Value.ref a from rx);obtain⟨_,_,_,n,_,h1⟩:=(show ObjOk X.prog X.w H s.heap a (.frz ob (.lst xs)) from I.hok a _ ea);exact PySem.W.kia_one PySem.W.kitx_list I.kIn ⟨_,h1,rfl⟩ e (λz=>nomatch z) h
 |@tup a xs ea=>
  cases (show u=Value.ref a from rx);obtain⟨_,_,_,p⟩:=(show ObjOk X.prog X.w H s.heap a (.tup xs) from I.hok a _ ea);obtain⟨o,h1,h2,_⟩:=p;exact PySem.W.kia_one PySem.W.kitx_tuple I.kIn ⟨o,h1,h2⟩ e (λz=>nomatch z) h
 |@dK a kvs ea=>
  cases (show u=Value.ref a from rx);obtain⟨_,_,vs,_,p⟩:=(show ObjOk X.prog X.w H s.heap a (.dK kvs) from I.hok a _ ea);obtain⟨o,es,ep,h1,h2,_⟩:=p;exact PySem.W.kia_one PySem.W.kitx_dict I.kIn ⟨o,h1,h2.1⟩ e (λz=>nomatch z) h
 |@dT a kvs ea=>
  cases (show u=Value.ref a from rx);obtain⟨_,_,xs,_,o,es,ep,h1,h2,_⟩:=(show ObjOk X.prog X.w H s.heap a (.dT kvs) from I.hok a _ ea);exact PySem.W.kia_one PySem.W.kitx_dict I.kIn ⟨o,h1,h2.1⟩ e (λz=>nomatch z) h
 |@ins a C dx fs ea cl ha hn htk hm=>
  cases (show u=Value.ref a from rx);obtain⟨mA,O,_⟩:=UA I.hok ea;obtain⟨od,J,_⟩:=O.look;exact PySem.W.kia_one (PySem.W.kitx_own (cl.get _) cl.hd ha hn htk hm) I.kIn J e (λz=>nomatch z) h
end
structure Room(k:Nat)(A:Around):Prop where
 hd:A.handled=none
 dp:A.depth+3 * k+5<recursionLimit
 un:A.units+16 * k+200<cLine
theorem Room.mono{j k:Nat}{A:Around}(r:Room k A)(h:j<=k):Room j A:=⟨r.hd,by have:=r.dp;omega,by have:=r.un;omega⟩
theorem Room.deeper{k:Nat}{A:Around}(r:Room (k+1) A)(env:Env):Room k (A.deeper env):=
 ⟨r.hd,by have:=r.dp;show A.depth+1+3 * k+5<_;omega,by have:=r.un;show A.units+3+16 * k+200<_;omega⟩
theorem Room.depth{k:Nat}{A:Around}(r:Room k A):A.depth<recursionLimit:=by have:=r.dp;omega
theorem Room.units{k:Nat}{A:Around}(r:Room k A):A.units+64<cLine:=by have:=r.un;omega
noncomputable def XR:TA:=λ_ H Q=>Q [] H
noncomputable def Xa(ta:TE)(tr:TA):TA:=λσ H Q=>ta σ H λx H1=>tr σ H1 λxs H2=>Q (x::xs) H2
section
variable{X:Cx}{e:Expr}{es:List Expr}{te:TE}{t:TA}{pos:Pos}
theorem Fw:PA X [] XR:=λ_ _ _ _ H Q I h=>Calls.spliced_nil ⟨[],H,I,.nil,h⟩
theorem DO(ha:PE X e te)(hr:PA X es t)(hs:starEach (e::es) X.env=(false,eval e X.env)::starEach es X.env:=by rfl):PA X (e::es) (Xa te t):=by
 intro pos pins s σ H Q I h;rw[hs];show wpAny _ _ (spliced ((false,eval e X.env)::backTo pos (starEach es X.env))) _ _ s;refine Calls.spliced_cons (thn (ha pins s σ H _ I h) λu s1 ⟨x,H1,I1,r1,q1⟩=>?_);exact thn (hr pos pins s1 σ H1 _ I1 q1) λus s2 ⟨xs,H2,I2,r2,q2⟩=>⟨x::xs,H2,I2,.cons r1 r2,q2⟩
noncomputable def Yw(t:TA):TE:=λσ H Q=>t σ H λxs H1=>xs.length<=sizeLine/\∀p,H1 p=none->Q (.ref p) (upd H1 p (.tup xs))
noncomputable def Y1(t:TA):TE:=λσ H Q=>t σ H λxs H1=>xs.length<=sizeLine/\∀p,H1 p=none->Q (.ref p) (upd H1 p (.lst xs))
theorem Qs{x1}(h:PA X es t):PE X (.Tuple es x1 pos) (Yw t):=by
 intro pins s σ H Q I hq;refine wpAny_Tuple_spliced (thn (h pos pins s σ H _ I hq) λus s1 ⟨xs,H1,I1,r,z,q⟩=>⟨by rw[←r.length];exact z,?_⟩);have hf:H1 s1.heap.objs.size=none:=I1.hok.fresh (AAF _);refine⟨.ref s1.heap.objs.size,upd H1 s1.heap.objs.size (.tup xs),I1.laid (t':=s1.toks) (λb u e=>AAC _ e) (AAF _) ?_,rfl,q _ hf⟩;exact⟨z,us,r,⟨_,AAD _ rfl,rfl,_,rfl⟩⟩
theorem Qt(h:PA X es t):PE X (.List es pos) (Y1 t):=by
 intro pins s σ H Q I hq;refine wpAny_List_spliced (thn (h pos pins s σ H _ I hq) λus s1 ⟨xs,H1,I1,r,z,q⟩=>⟨by rw[←r.length];exact z,?_⟩);have hf:H1 s1.heap.objs.size=none:=I1.hok.fresh (AAF _);refine⟨.ref s1.heap.objs.size,upd H1 s1.heap.objs.size (.lst xs),I1.laid (t':=s1.toks) (λb u e=>AAC _ e) (AAF _) ?_,rfl,q _ hf⟩;exact⟨z,us,0,r,AAD _ rfl⟩
end
noncomputable abbrev Sp:=List V->Hp->VK->XK->Prop
noncomputable abbrev CXT:=List Env->Hp->Shared->XK->Value->Shared->Prop
structure UY(P:Program)(w:World)(K:PySem.W.Frag)(mg:Str->Option Value)(base:Heap)(A:Around)(outer:List Env)(s:Shared)(H:Hp):Prop where
 frames:A.frames=some outer
 mod:Mod K mg base
 bs:∀b o,base.get? b=some o->s.heap.get? b=some o/\H b=none
 bsz:base.objs.size<=s.heap.objs.size
 funs:s.heap.FunFrames base outer
 frf:∀b∈frs outer,H b=none
 hok:HOk P w H s.heap
 bare:AllBare s.gens
def CE(outer:List Env)(P:Program)(w:World)(H:Hp)(s:Shared)(Q:VK)(u:Value)(s':Shared):Prop:=
 ∃v H',s'.os=s.os/\AllBare s'.gens/\Un (frs outer) [] H H' s.heap s'.heap/\HOk P w H' s'.heap/\RelV v u/\Q v H'
def CR(CX:CXT)(outer:List Env)(P:Program)(w:World)(H:Hp)(s:Shared)(Q:VK)(E:XK)(r:Result)(s':Shared):Prop:=
 match r with
 | .ok (.ret u)=>CE outer P w H s Q u s'
 | .ok _=>False
 | .error e=>CX outer H s E e s'
structure FnOk(P:Program)(w:World)(K:PySem.W.Frag)(mg:Str->Option Value)(base:Heap)(CX:CXT)(k:Nat)(f:Addr)(fd:FuncData)(ps:List Str)(sp:Sp):Prop where
 len:∀vs H Q E,sp vs H Q E->vs.length=ps.length
 run:∀(A:Around) (outer:List Env) (s:Shared) (H:Hp) (args:Args) (us:List Value) (vs:List V) (Q:VK) (E:XK),Room k A->UY P w K mg base A outer s H->BindsTo s fd args (ps.zip us)->Vals vs us->sp vs H Q E->
  codeAny (model P w) A (.call (.ref f) args) (CR CX outer P w H s Q E) s
theorem FnOk.mono{P:Program}{w:World}{K:PySem.W.Frag}{mg:Str->Option Value}{base:Heap}{CX:CXT}{j k:Nat}{f:Addr}{fd:FuncData}{ps:List Str}{sp:Sp}(F:FnOk P w K mg base CX j f fd ps sp)(h:j<=k):
  FnOk P w K mg base CX k f fd ps sp:=⟨F.len,λA outer s H args us vs Q E hr=>F.run A outer s H args us vs Q E (hr.mono h)⟩
theorem FnOk.imp{P:Program}{w:World}{K:PySem.W.Frag}{mg:Str->Option Value}{base:Heap}{CX:CXT}{k:Nat}{f:Addr}{fd:FuncData}{ps:List Str}{sp sp':Sp}(F:FnOk P w K mg base CX k f fd ps sp)
  (h:∀vs H Q E,sp' vs H Q E->sp vs H Q E):FnOk P w K mg base CX k f fd ps sp':=
 ⟨λvs H Q E q=>F.len vs H Q E (h _ _ _ _ q),λA outer s H args us vs Q E hr he hb hv hs=>F.run A outer s H args us vs Q E hr he hb hv (h _ _ _ _ hs)⟩
section
variable{X:Cx}{pins:List (Addr×Obj)}{σ:St}{H:Hp}{s s':Shared}
theorem Inv.env0(I:Inv X pins σ H s):UY X.prog X.w X.K X.mg X.base X.A X.stack s H:=
 ⟨I.ok.frames,I.ok.mod,I.bs,AAr I.ok.bsz I.sz,I.stack,I.stkFree,I.hok,I.bare⟩
theorem Inv.after{Q:VK}{u:Value}(I:Inv X pins σ H s)(h:CE X.stack X.prog X.w H s Q u s'):EP X pins σ Q u s':=by
 obtain⟨v,H',os,bare,un,hok,r,q⟩:=h;obtain⟨hh,g,d,t,os'⟩:=s';obtain rfl:os'=s.os:=os;exact⟨v,H',I.call (h':=hh) (g':=g) (d':=d) (t':=t) (ch:=[]) un hok bare (λb z=>absurd z (by simp)),r,q⟩
end
noncomputable def Ub(sp:Sp)(dvs:List V)(E:XK)(t:TA):TE:=λσ H Q=>t σ H λvs H1=>sp (vs++dvs) H1 Q E
def Binds(K:PySem.W.Frag)(fd:FuncData)(ps:List Str)(ds:List Value):Prop:=
 ∀(s:Shared) (us:List Value),K.In s.heap->(us++ds).length=ps.length->BindsTo s fd ⟨us,[]⟩ (ps.zip (us++ds))
theorem Binds.all{K:PySem.W.Frag}{fd:FuncData}{ps:List Str}(h:∀us:List Value,us.length=ps.length->bindArgs fd ⟨us,[]⟩=pure (ps.zip us)):Binds K fd ps []:=λs us _ hl=>by
 rw[AAZ] at hl ⊢;exact .of_eq (h us hl)
def Ks(CX:CXT)(X:Cx)(E:XK):Prop:=∀(pins:List (Addr×Obj)) (σ:St) (H:Hp) (s:Shared) (e:Value) (s':Shared),Inv X pins σ H s->CX X.stack H s E e s'->X.xe e s'
section
variable{X:Cx}{CX:CXT}{k:Nat}{f:Addr}{fd:FuncData}{ps:List Str}{sp:Sp}{dvs:List V}{ds:List Value}{E:XK}{x:Str}{p pos:Pos}{e:Expr}{es:List Expr}{t:TA}
theorem QN{pins:List (Addr×Obj)}{σ:St}{H:Hp}{s:Shared}{Q:VK}{us:List Value}{vs:List V}(F:FnOk X.prog X.w X.K X.mg X.base CX k f fd ps sp)(hr:Room k X.A)(hb:Binds X.K fd ps ds)(hd:Vals dvs ds)(hx:Ks CX X E)
  (I:Inv X pins σ H s) (r:Vals vs us) (h:sp (vs++dvs) H Q E):wpAny (model X.prog X.w) X.A (call (.ref f) us) (EP X pins σ Q) X.xe s:=by
 have r2:Vals (vs++dvs) (us++ds):=r.append hd;have hl:(us++ds).length=ps.length:=by rw[←r2.length];exact F.len _ _ _ _ h
 refine wpAny_call (codeAny_mono (F.run X.A X.stack s H ⟨us,[]⟩ (us++ds) (vs++dvs) Q E hr I.env0 (hb s us I.kIn hl) r2 h) λr s' hq=>?_);cases r with
 |error e=>exact hx pins σ H s e s' I hq
 |ok fl=>
  cases fl with
  |ret u=>exact I.after hq
  |next=>exact False.elim hq
  |brk=>exact False.elim hq
  |cont=>exact False.elim hq
theorem NQ(F:FnOk X.prog X.w X.K X.mg X.base CX k f fd ps sp)(hr:Room k X.A)(hg:Gl X x)(hm:X.mg x=some (.ref f))(hk:PySem.W.keepIn X.K (.ref f)=true)(hb:Binds X.K fd ps ds)(hd:Vals dvs ds)(hx:Ks CX X E)
  (ha:PA X (e::es) t) (hdb:(x==("__debug__" : Str))=false:=by decide) (he:starEach (e::es) X.env=(false,eval e X.env)::starEach es X.env:=by rfl) (hpl:(backTo pos (starEach es X.env)).any (·.1)=false:=by rfl) :
  PE X (.Call (.Name x p) (e::es) [] pos) (Ub sp dvs E t):=by
 intro pins s σ H Q I h;refine wpAny_Call_Name_kw (Fe I hg hm ?_ hdb);refine PySem.W.callWith_K (h₀:=X.base) I.ok.mod.kin hk (thn (ha pos pins s σ H _ I h) λus s1 ⟨vs,H1,I1,r,q⟩=>⟨I1.kIn,?_⟩) he hpl;exact QN F hr hb hd hx I1 r q
theorem Qy(F:FnOk X.prog X.w X.K X.mg X.base CX k f fd ps sp)(hr:Room k X.A)(hg:Gl X x)(hm:X.mg x=some (.ref f))(hk:PySem.W.keepIn X.K (.ref f)=true)(hb:Binds X.K fd ps ds)(hd:Vals dvs ds)(hx:Ks CX X E)
  (hdb:(x==("__debug__" : Str))=false:=by decide):PE X (.Call (.Name x p) [] [] pos) (Ub sp dvs E XR):=by
 intro pins s σ H Q I h;refine wpAny_Call_Name_kw (Fe I hg hm ?_ hdb);exact PySem.W.callWith_K0 I.kIn hk (QN (us:=[]) F hr hb hd hx I .nil h)
end
structure Ac(N P:List Str)(sc:Scope):Prop where
 kind:sc.kind=.function
 co:sc.isCoroutine=false
 gen:sc.isGenerator=false
 nd:N.Nodup
 pre:N.take P.length=P
 par:∀x∈P,sc.names.lookup x=some .local∨sc.names.lookup x=some .cell
 nofree:∀y∈sc.names,y.2≠.free
theorem Jj{kindOf:Str->Option NameKind}{x:Str}:∀{binds:List (Str×Value)} {m:Str->Option Value},(∀v,(x,v)∉binds)->bindL kindOf binds m x=m x
 |[],_,_=>rfl
 |(n,v)::r,m,h=>by
  unfold bindL;rw[Jj λw hw=>h w (AAR _ hw)];split
  ·have:x≠n:=by rintro rfl;exact h v AAQ
   simp[this]
  ·rfl
theorem Jl{kindOf:Str->Option NameKind}{x:Str}:∀{binds:List (Str×Value)} {m:Str->Option Value},(∀v,(x,v)∉binds)->bindC kindOf binds m x=m x
 |[],_,_=>rfl
 |(n,v)::r,m,h=>by
  unfold bindC;rw[Jl λw hw=>h w (AAR _ hw)];split
  ·rfl
  ·have:x≠n:=by rintro rfl;exact h v AAQ
   simp[this]
theorem Jk{kindOf:Str->Option NameKind}{x:Str}{v:Value}:∀{P:List Str} {vs:List Value} {i:Nat} {m:Str->Option Value},P.Nodup->P[i]?=some x->vs[i]?=some v->kindOf x=some .local->
  bindL kindOf (P.zip vs) m x=some v
 |[],_,_,_,_,h,_,_=>by simp at h
 |_::_,[],_,_,_,_,h,_=>by simp at h
 |p::P,w::vs,0,m,nd,h1,h2,hk=>by
  simp at h1 h2;subst h1;subst h2;show bindL kindOf ((p,w)::P.zip vs) m p=_;unfold bindL;rw[Jj λv hv=>(List.nodup_cons.mp nd).1 (List.of_mem_zip hv).1,if_pos hk];simp
 |p::P,w::vs,i+1,m,nd,h1,h2,hk=>by
  show bindL kindOf ((p,w)::P.zip vs) m x=_;unfold bindL;exact Jk (i:=i) (List.nodup_cons.mp nd).2 (by simpa using h1) (by simpa using h2) hk
theorem Jm{kindOf:Str->Option NameKind}{x:Str}{v:Value}:∀{P:List Str} {vs:List Value} {i:Nat} {m:Str->Option Value},P.Nodup->P[i]?=some x->vs[i]?=some v->kindOf x≠some .local->
  bindC kindOf (P.zip vs) m x=some v
 |[],_,_,_,_,h,_,_=>by simp at h
 |_::_,[],_,_,_,_,h,_=>by simp at h
 |p::P,w::vs,0,m,nd,h1,h2,hk=>by
  simp at h1 h2;subst h1;subst h2;show bindC kindOf ((p,w)::P.zip vs) m p=_;unfold bindC;rw[Jl λv hv=>(List.nodup_cons.mp nd).1 (List.of_mem_zip hv).1,if_neg hk];simp
 |p::P,w::vs,i+1,m,nd,h1,h2,hk=>by
  show bindC kindOf ((p,w)::P.zip vs) m x=_;unfold bindC;exact Jm (i:=i) (List.nodup_cons.mp nd).2 (by simpa using h1) (by simpa using h2) hk
noncomputable def start(N:List Str)(vs:List V):St:=vs.map some++List.replicate (N.length-vs.length) none
noncomputable def BP(CX:CXT)(P:Program)(w:World)(K:PySem.W.Frag)(mg:Str->Option Value)(base:Heap)(N:List Str)(qual:Str)(scope:Scope)(f:Addr)(cd:Value)(A:Around)(outer:List Env)(s:Shared)(H:Hp)(E:XK):Cx where
 prog:=P
 w:=w
 K:=K
 mg:=mg
 base:=base
 A:=A.deeper (envOfC qual scope s.heap.objs.size f cd)
 N:=N
 s₀:=s
 H₀:=H
 env:=envOfC qual scope s.heap.objs.size f cd
 outer:=outer
 stack:=envOfC qual scope s.heap.objs.size f cd::outer
 ex:=[]
 calm:=true
 fn:=λ_=>true
 pn:=[]
 xe:=λe s'=>wpAny (model P w) (A.deeper (envOfC qual scope s.heap.objs.size f cd)) (leaving (envOfC qual scope s.heap.objs.size f cd) e) (λ_ s''=>CX outer H s E e s'') (λe' s''=>CX outer H s E e' s'') s'
theorem Lk{sc:Scope}{n:Nat}{x:Str}(h:sc.names.lookup x=some .cell):∃c,(cellsFrom n sc.names []).lookup x=some c:=by
 have q:=PySem.W.cellsFrom_some sc.names n [] (.inl h);exact Option.isSome_iff_exists.mp q
theorem Ou{CX:CXT}{P:Program}{w:World}{K:PySem.W.Frag}{mg:Str->Option Value}{base:Heap}{N ps:List Str}{qual:Str}{scope:Scope}{f:Addr}{cd:Value}{A:Around}{outer:List Env}{s s1:Shared}{H:Hp}{E:XK}{us:List Value}{vs:List V}
  (S:Ac N ps scope) (hd:A.handled=none) (e0:UY P w K mg base A outer s H) (hl:vs.length=ps.length) (r:Vals vs us)
  (x:InCallC s s.heap.objs.size (bindL (envOfC qual scope s.heap.objs.size f cd).kindOf (ps.zip us) λ_=>none) (cellsFrom (s.heap.objs.size+1) scope.names []) (bindC (envOfC qual scope s.heap.objs.size f cd).kindOf (ps.zip us) λ_=>none) s1) :
  Inv (BP CX P w K mg base N qual scope f cd A outer s H E) [] (start N vs) H s1:=by
 have hpl:ps.length<=N.length:=by have:=congrArg List.length S.pre;rw[List.length_take] at this;omega
 obtain⟨h1,tk,rfl,hk⟩:=x.done;have noA:∀b:Addr,b∉(BP CX P w K mg base N qual scope f cd A outer s H E).ex:=λb z=>absurd (show b∈([]:List Addr) from z) (by simp);refine⟨⟨e0.mod,S.kind,rfl,rfl,AAF _,λy z c h1 h2=>?_,λy hy=>?_,λy c _ h=>?_,λ_=>hd,Around.frames_deeper e0.frames,.inr ⟨rfl,rfl⟩,λb z=>absurd z (noA b),e0.bs,e0.bsz,λb _ _=>noA b,λb z=>absurd z (noA b),e0.funs,e0.frf⟩,
  rfl,e0.bare,Un.kept hk,⟨_,x.toInCall.ns,λi y v h1 h2 h3=>?_⟩,λy c h=>⟨_,x.cell y c h⟩,e0.hok.fresh (AAF _),λy c h=>?_,λp hp=>absurd (show p∈([]:List (Addr×Obj)) from hp) (by simp),e0.hok.kept hk,?_⟩
 ·exact name_of_addr x.apart (PySem.mem_of_lookup h1) (PySem.mem_of_lookup h2)
 ·have hy:scope.names.lookup y=some .cell∨scope.names.lookup y=some .free:=hy;rcases hy with hy|hy
  ·exact Lk hy
  ·exact absurd rfl (S.nofree _ (PySem.mem_of_lookup hy))
 ·exact Nat.le_of_lt (x.above y c (PySem.mem_of_lookup h))
 ·have hi:i<vs.length:=by
   unfold start at h2;by_cases hi:i<vs.length
   ·exact hi
   ·rw[AAS (by simpa using hi)] at h2;rw[List.getElem?_replicate] at h2;split at h2<;>cases h2
  have ha:vs[i]?=some v:=by
   unfold start at h2;rw[AAT (by simpa using hi),AAW] at h2;cases e:vs[i]? with
   |none=>rw[e] at h2;cases h2
   |some a=>rw[e] at h2;cases h2;rfl
  obtain⟨u,hu,rv⟩:=r.get ha;have hp:ps[i]?=some y:=by
   rw[←S.pre,List.getElem?_take_of_lt (by omega)];exact h1
  have ndP:ps.Nodup:=by rw[←S.pre];exact S.nd.sublist (List.take_sublist _ _)
  refine⟨u,rv,?_⟩;rcases S.par y (AAV hp) with k|k
  ·exact .inl ⟨k,Jk ndP hp hu k⟩
  ·obtain⟨c,e⟩:=Lk (n:=s.heap.objs.size+1) k;refine .inr ⟨.inl k,c,e,?_⟩;have q:=x.cell y c e;rw[Jm ndP hp hu (by show scope.names.lookup y≠_;rw[k];decide)] at q;exact q
 ·exact e0.hok.fresh (Nat.le_of_lt (x.above y c (PySem.mem_of_lookup h)))
 ·unfold start;show _=N.length;rw[AAH,AAG,AAl];omega
theorem Uo{CX:CXT}{P:Program}{w:World}{K:PySem.W.Frag}{mg:Str->Option Value}{base:Heap}{k:Nat}{f:Addr}{name qual:Str}{params:Arguments}{body:List Stmt}{scope:Scope}{dV kV doc pm cdv ct oc:Value}{an od:Option Addr}
  {osl:Array (Option Value)} {N ps:List Str} {sp:Sp} (lk:K.lookup f=some ⟨oc,od,.func (PySem.W.fnOf name qual params body scope dV kV doc pm an cdv ct),osl⟩) (hcd:PySem.W.codeIn K cdv qual=true) (S:Ac N ps scope)
  (len:∀vs H Q E,sp vs H Q E->vs.length=ps.length)
  (hbody:∀(A:Around) (outer:List Env) (s:Shared) (H:Hp) (vs:List V) (Q:VK) (E:XK),Room k (A.deeper (envOfC qual scope s.heap.objs.size f cdv))->sp vs H Q E->
   ∃t,PSs (BP CX P w K mg base N qual scope f cdv A outer s H E) body t/\t { nx:=λ_ H'=>Q .non H',rt:=Q } (start N vs) H) :
  FnOk P w K mg base CX (k+1) f (PySem.W.fnOf name qual params body scope dV kV doc pm an cdv ct) ps sp:=by
 refine⟨len,λA outer s H args us vs Q E hr e0 hb r hsp=>?_⟩;have hl:=len _ _ _ _ hsp;have KX:K.In s.heap:=e0.mod.kin.keeps λb o e=>(e0.bs b o e).1;have lim:s.heap.NoLimit:=e0.mod.nolimit.keeps λb o e=>(e0.bs b o e).1;have hkind:∀y∈ps.zip us,scope.names.lookup y.1=some .local∨(scope.names.lookup y.1=some .cell/\((cellsFrom (s.heap.objs.size+1) scope.names []).lookup y.1).isSome=true):=λ⟨n,v⟩ hy=>by
  rcases S.par n (List.of_mem_zip hy).1 with q|q
  ·exact .inl q
  ·exact .inr ⟨q,PySem.W.cellsFrom_some _ _ _ (.inl q)⟩
 refine codeAny_call_function hr.depth (KX _ _ lk) rfl S.co S.gen rfl (PySem.W.codeRec_of KX hcd) (hb _ _ _ _ ?_);refine wpAny_newFunctionEnv_cells S.kind hkind λenv he s1 x=>?_;subst he;refine⟨lim.keeps x.toInCall.keep,codeAny_func ?_⟩;obtain⟨t,ht,hq⟩:=hbody A outer s H vs Q E (hr.deeper _) hsp;have I:Inv (BP CX P w K mg base N qual scope f cdv A outer s H E) [] (start N vs) H s1:=Ou S hr.hd e0 hl r x;refine AAh (ht [] s1 (start N vs) H _ I hq) (λfl s' hs=>?_) λe s' hs=>hs;have fin:∀{σ':St} {H':Hp} {v:V} {u:Value},Inv (BP CX P w K mg base N qual scope f cdv A outer s H E) [] σ' H' s'->RelV v u->Q v H'->CE outer P w H s Q u s':=
  λ{σ' H' v u} J rv q=>⟨v,H',J.os,J.bare,J.base,J.hok,rv,q⟩
 cases fl with
 |ret u=>
  obtain⟨v,σ',H',J,rv,q⟩:=hs;exact fin J rv q
 |next=>
  obtain⟨σ',H',J,q⟩:=hs;exact fin (v:=V.non) (u:=Value.none) J rfl q
 |brk=>
  obtain⟨_,_,_,q⟩:=hs;exact False.elim q
 |cont=>
  obtain⟨_,_,_,q⟩:=hs;exact False.elim q
section
variable{X:Cx}{x:Str}{p pos:Pos}{e:Expr}{es:List Expr}{t:TA}{id T:String}{r:List V->Hp->VK->Prop}
noncomputable def tCB(r:List V->Hp->VK->Prop)(t:TA):TE:=λσ H Q=>t σ H λvs H1=>r vs H1 Q
theorem FJ(hc:CT X (.builtin id) r)(hg:Gl X x)(hm:X.mg x=none)(hv:bootBuiltins x=some (.builtin id))(ha:PA X (e::es) t)(hn:x ≠ "__name__" := by decide)(hdb:(x==("__debug__" : Str))=false:=by decide)
  (he:starEach (e::es) X.env=(false,eval e X.env)::starEach es X.env:=by rfl) (hpl:(backTo pos (starEach es X.env)).any (·.1)=false:=by rfl):PE X (.Call (.Name x p) (e::es) [] pos) (tCB r t):=by
 intro pins s σ H Q I h;refine wpAny_Call_Name_kw (Fz I hg hm hv ?_ hn hdb);exact PyProof.Rows.callWith_builtin1 (thn (ha pos pins s σ H _ I h) λus s1 ⟨vs,H1,I1,r1,q1⟩=>hc pins s1 σ H1 vs us Q I1 r1 q1) he hpl
theorem JQ(hc:CT X (.type T) r)(hg:Gl X x)(hm:X.mg x=none)(hv:bootBuiltins x=some (.type T))(ha:PA X (e::es) t)(hn:x ≠ "__name__" := by decide)(hdb:(x==("__debug__" : Str))=false:=by decide)
  (he:starEach (e::es) X.env=(false,eval e X.env)::starEach es X.env:=by rfl) (hpl:(backTo pos (starEach es X.env)).any (·.1)=false:=by rfl):PE X (.Call (.Name x p) (e::es) [] pos) (tCB r t):=by
 intro pins s σ H Q I h;refine wpAny_Call_Name_kw (Fz I hg hm hv ?_ hn hdb);exact PyProof.Rows.callWith_type1 (thn (ha pos pins s σ H _ I h) λus s1 ⟨vs,H1,I1,r1,q1⟩=>hc pins s1 σ H1 vs us Q I1 r1 q1) he hpl
end
end L2
namespace HT
open PySem PyProof.Rows
section
open PySem.SeqAt
open PySem.AutoSeq1 (wpAny_loadPart')
open PySem.MeetsSeq PySem.MeetsSeq2 PySem.MeetsSeq3
end
section
variable{prog:Program}{w:World}{A:Around}{E:Value->Shared->Prop}{s:Shared}
theorem UQ{t b:Addr}{vs ws:List Value}{Q:Value->Shared->Prop}(ht:IsTup s.heap t vs.toArray)(hb:IsTup s.heap b ws.toArray)(hv:vs≠[])
  (h1:ws=[]->Q (.ref t) s) (h2:ws≠[]->Q (.ref s.heap.objs.size) { s with heap:=s.heap.push { cls:=.type "tuple",data:=.seq (vs++ws).toArray } })
  (hsz:vs.length+ws.length<=sizeLine):wpAny (model prog w) A (binaryOp .Add (.ref t) (.ref b)) Q E s:=by
 obtain⟨⟨cls,dd,data,sl⟩,ho,hc,n,hd⟩:=id ht;obtain⟨⟨cls2,dd2,data2,sl2⟩,ho2,hc2,n2,hd2⟩:=id hb;simp only at hc hd hc2 hd2;subst hc hd hc2 hd2;have e:vs.toArray++ws.toArray=(vs++ws).toArray:=by simp
 by_cases hw:ws=[]
 ·exact concat_meets ⟨_,ho,rfl⟩ ⟨_,ho2,rfl⟩ noFill_tuple_add seq_tuple_add PySem.F.slot_tuple_add PySem.F.entry_tuple_add (PySem.F.args_tuple_add_2 _ _)
   (tuple_addW1 t b vs.toArray ws.toArray n n2 dd dd2 sl sl2 (by simpa using hv) (by simp[hw])) ⟨ho,ho2,h1 hw⟩
 ·refine concat_meets ⟨_,ho,rfl⟩ ⟨_,ho2,rfl⟩ noFill_tuple_add seq_tuple_add PySem.F.slot_tuple_add PySem.F.entry_tuple_add (PySem.F.args_tuple_add_2 _ _)
   (tuple_addW2 t b vs.toArray ws.toArray n n2 dd dd2 sl sl2 (by simpa using hv) (by simpa using hw) (by rw[List.size_toArray,List.size_toArray];exact hsz)) ⟨ho,ho2,?_⟩
  rw[e];exact h2 hw
noncomputable def sIx(n d:Nat):Option Int->Nat
 |none=>d
 |some v=>if v<0 then (v+(n:Int)).toNat else min v.toNat n
theorem KB(n d k:Nat):sIx n d (some (k:Int))=min k n:=by
 show (if (k:Int)<0 then ((k:Int)+(n:Int)).toNat else min (k:Int).toNat n)=min k n;rw[if_neg (by omega),Int.toNat_natCast]
theorem VH(n d:Nat)(hd:d<=n)(o:Option Int):sIx n d o<=n:=by
 cases o with
 |none=>exact hd
 |some v=>
  show (if v<0 then (v+(n:Int)).toNat else min v.toNat n)<=n;by_cases hv:v<0
  ·rw[if_pos hv];omega
  ·rw[if_neg hv];exact Nat.min_le_right _ _
theorem Nu(v:Int)(n d:Nat):(if v<0 then max (v+(n:Int)) 0 else min v (n:Int))=((sIx n d (some v):Nat):Int):=by
 show (if v<0 then max (v+(n:Int)) 0 else min v (n:Int))=(((if v<0 then (v+(n:Int)).toNat else min v.toNat n):Nat):Int);by_cases hv:v<0
 ·simp only[if_pos hv];omega
 ·simp only[if_neg hv];omega
theorem Mo(lo hi:Option Int)(n:Nat):Builtin.Slice.sliceAdjust lo hi 1 (n:Int)=(((sIx n 0 lo:Nat):Int),((sIx n n hi:Nat):Int)):=by
 have h1:¬((1:Int)<0):=by omega
 unfold Builtin.Slice.sliceAdjust;simp only[h1,if_false];refine Prod.ext ?_ ?_
 ·cases lo with
  |none=>rfl
  |some v=>exact Nu v n 0
 ·cases hi with
  |none=>rfl
  |some v=>exact Nu v n n
theorem MN(i j:Nat):Builtin.Slice.slicePlaces (i:Int) (j:Int) 1=j-i:=by
 unfold Builtin.Slice.slicePlaces;have h1:(1:Int) > 0:=by omega
 simp only[h1,if_true,Int.ediv_one];split<;>omega
theorem Ho{v:Value}{o:Option Int}{Q:Option Int->Shared->Prop}(p:IsPart v o)(h:Q o s):wpAny (model prog w) A (Builtin.Slice.slicePartIndex v) Q E s:=by
 cases p with
 |none=>exact slicePart_none h
 |int i t=>exact slicePart_int h
theorem EJ{sl:Addr}{vl vu:Value}{lo hi:Option Int}{n:Nat}{Q:Int×Int×Nat->Shared->Prop}(hs:s.heap.IsSliceOf sl vl vu .none)(pl:IsPart vl lo)(pu:IsPart vu hi)
  (h:Q (((sIx n 0 lo:Nat):Int),1,sIx n n hi-sIx n 0 lo) s):wpAny (model prog w) A (Builtin.Slice.sliceApplied (.ref sl) (pure (n:Int))) Q E s:=by
 obtain⟨os,hos,hcs,hds⟩:=id hs;unfold Builtin.Slice.sliceApplied Builtin.Slice.sliceFields;refine AAA (AAA (AAu hos hds (x:=vl) rfl (AAA (AAu hos hds (x:=vu) rfl (AAA (AAu hos hds (x:=.none) rfl (AAB ?_)))))));refine AAA (slicePart_none ?_);show wpAny _ _ (if ((1:Int)==0)=true then _ else _) _ _ s;rw[if_neg (by decide)];refine AAA (Ho pl (AAA (Ho pu (AAA (AAB ?_)))));show wpAny _ _ (match Builtin.Slice.sliceAdjust lo hi 1 (n:Int) with|(lo,hi)=>pure (lo,(1:Int),Builtin.Slice.slicePlaces lo hi 1)) _ _ s;rw[Mo lo hi n];show wpAny _ _ (pure (((sIx n 0 lo:Nat):Int),(1:Int),Builtin.Slice.slicePlaces ((sIx n 0 lo:Nat):Int) ((sIx n n hi:Nat):Int) 1)) _ _ s;rw[MN];exact AAB h
theorem Qo(xs:Array Value)(i k:Nat):((List.range k).filterMap λ(m:Nat)=>xs[((i:Int)+(m:Int) * 1).toNat]?).toArray=((xs.toList.drop i).take k).toArray:=by
 have e:(λ(m:Nat)=>xs[((i:Int)+(m:Int) * 1).toNat]?)=λm=>xs[i+m]?:=by
  funext m
  have:((i:Int)+(m:Int) * 1).toNat=i+m:=by omega
  rw[this]
 rw[e];have:=pick_run xs i k;rw[List.filterMap_map] at this;have e2:((λx=>xs[x]?) ∘ λx=>i+x)=λm=>xs[i+m]?:=rfl;rw[e2] at this;rw[this]
theorem GQ{t sl:Addr}{items:Array Value}{vl vu:Value}{lo hi:Option Int}{Q:Value->Shared->Prop}(ht:IsTup s.heap t items)(hs:s.heap.IsSliceOf sl vl vu .none)(pl:IsPart vl lo)(pu:IsPart vu hi)
  (hw:¬(sIx items.size 0 lo=0/\sIx items.size items.size hi=items.size))
  (h:Q (.ref s.heap.objs.size) { s with heap:=s.heap.push { cls:=.type "tuple",data:=.seq ((items.toList.drop (sIx items.size 0 lo)).take (sIx items.size items.size hi-sIx items.size 0 lo)).toArray } })
  (hsz:items.size<=sizeLine):wpAny (model prog w) A (getItem (.ref t) (.ref sl)) Q E s:=by
 have htake:sizeOk (.seq ((items.toList.drop (sIx items.size 0 lo)).take (sIx items.size items.size hi-sIx items.size 0 lo)).toArray):=by
  show ((items.toList.drop (sIx items.size 0 lo)).take (sIx items.size items.size hi-sIx items.size 0 lo)).toArray.size<=sizeLine;rw[List.size_toArray,List.length_take,List.length_drop,Array.length_toList];omega
 have hj:sIx items.size items.size hi<=items.size:=VH _ _ (AAF _) hi;obtain⟨os,hos,hcs,hds⟩:=id hs;have hTs:s.TypeIs (.ref sl) "slice" := ⟨os,hos,hcs⟩;unfold getItem
 try with_reducible refine AAn ?_
 first|refine AAA (AAB ?_)|skip
 refine AAA (wpAny_sequenceKey ht.typeIs (by decide) ?_);refine AAA (wpAny_callSpecial?_slot (name:=Str.ofString "__getitem__") ht.typeIs PyProof.Rows.slot_tuple_getitem
  (AAc PyProof.Rows.slot_tuple_getitem ht.typeIs entry_tuple_getitem ?_ (args_tuple_getitem _ _)))
 show wpAny _ _ (Builtin.Tuple.tupleItemsOf (.ref t) >>= _) _ _ s;refine AAA (tupleItemsOf_ ht ?_);refine AAA (wpAny_typeOf hTs ?_);rw[if_pos (by decide)];refine AAA (EJ hs pl pu ?_);have hno:¬((((sIx items.size 0 lo:Nat):Int)==0&&(1:Int)==1&&(sIx items.size items.size hi-sIx items.size 0 lo)==items.size)=true):=by
  intro q;rw[Bool.and_eq_true,Bool.and_eq_true] at q;have q1:((sIx items.size 0 lo:Nat):Int)=0:=eq_of_beq q.1.1;have q2:sIx items.size items.size hi-sIx items.size 0 lo=items.size:=eq_of_beq q.2;exact hw ⟨by omega,by omega⟩
 show wpAny _ _ (if (((sIx items.size 0 lo:Nat):Int)==0&&(1:Int)==1&&(sIx items.size items.size hi-sIx items.size 0 lo)==items.size)=true then _ else _) _ _ s;rw[if_neg hno,Qo]
 first
  |exact AAA (m:=Builtin.Tuple.tupleExact _) (AAp (AAB ⟨_,rfl,AAB h⟩) htake)
  |exact AAA (m:=Builtin.Tuple.tupleExact _) (AAp (AAA (AAB (AAB ⟨_,rfl,AAB h⟩))) htake)
  |exact AAA (AAA (m:=Builtin.Tuple.tupleExact _) (AAp (AAB (AAB ⟨_,rfl,AAB h⟩)) htake))
  |exact AAA (AAA (m:=Builtin.Tuple.tupleExact _) (AAp (AAB ⟨_,rfl,AAB h⟩) htake))
end
end HT
namespace L2
open PySem PySem.Spec PyProof.Rows
noncomputable abbrev TO:=St->Hp->(Option Int->Hp->Prop)->Prop
def PO(X:Cx)(e:Option Expr)(t:TO):Prop:=
 ∀(pins:List (Addr×Obj)) (s:Shared) (σ:St) (H:Hp) (Q:Option Int->Hp->Prop),Inv X pins σ H s->t σ H Q->
  wpAny (model X.prog X.w) X.A (evalPart e X.env) (λu s'=>∃o H',Inv X pins σ H' s'/\IsPart u o/\Q o H') X.xe s
noncomputable def Sc:TO:=λ_ H Q=>Q none H
noncomputable def XO(t:TE):TO:=λσ H Q=>t σ H λx H1=>∃i,x=.int i/\Q (some i) H1
section
variable{X:Cx}{e:Expr}{te:TE}{lo hi:Option Expr}{tl th:TO}{pos p2:Pos}
theorem TN:PO X none Sc:=by
 intro pins s σ H Q I h;rw[evalPart_none];exact AAB ⟨none,H,I,.none,h⟩
theorem TM(h:PE X e te):PO X (some e) (XO te):=by
 intro pins s σ H Q I hw;rw[evalPart_some];refine thn (h pins s σ H _ I hw) λu s1 ⟨x,H1,I1,r1,q1⟩=>?_;obtain⟨i,rfl,q⟩:=q1;obtain⟨t,rfl⟩:=r1;exact⟨some i,H1,I1,.int i t,q⟩
def SlR(X:Cx)(r:V->Option Int->Option Int->Hp->VK->Prop):Prop:=
 ∀(pins:List (Addr×Obj)) (s:Shared) (σ:St) (H:Hp) (x:V) (v vl vu:Value) (lo hi:Option Int) (sl:Addr) (Q:VK),Inv X pins σ H s->RelV x v->s.heap.IsSliceOf sl vl vu .none->IsPart vl lo->IsPart vu hi->r x lo hi H Q->
  ∃T id,typeLookup (.type T) "__getitem__" = pure (some (.builtin id))/\s.TypeIs v T/\wpAny (model X.prog X.w) X.A (getItem v (.ref sl)) (EP X pins σ Q) X.xe s
theorem SlR.or{r r':V->Option Int->Option Int->Hp->VK->Prop}(h:SlR X r)(h':SlR X r'):SlR X (λx lo hi H Q=>r x lo hi H Q∨r' x lo hi H Q):=by
 intro pins s σ H x v vl vu lo hi sl Q I rx hs pl pu q;rcases q with q|q
 ·exact h pins s σ H x v vl vu lo hi sl Q I rx hs pl pu q
 ·exact h' pins s σ H x v vl vu lo hi sl Q I rx hs pl pu q
noncomputable def tSl(r:V->Option Int->Option Int->Hp->VK->Prop)(te:TE)(tl th:TO):TE:=λσ H Q=>te σ H λx H1=>tl σ H1 λl H2=>th σ H2 λu H3=>r x l u H3 Q
theorem LL{r:V->Option Int->Option Int->Hp->VK->Prop}(hr:SlR X r)(he:PE X e te)(hl:PO X lo tl)(hu:PO X hi th):PE X (.Subscript e (.Slice lo hi none p2) pos) (tSl r te tl th):=by
 intro pins s σ H Q I h;refine Subscript_ (thn (he pins s σ H _ I h) λv s1 ⟨x,H1,I1,r1,q1⟩=>?_);refine wpAny_Slice (thn (hl pins s1 σ H1 _ I1 q1) λvl s2 ⟨l,H2,I2,pl,q2⟩=>thn (hu pins s2 σ H2 _ I2 q2) λvu s3 ⟨u,H3,I3,pu,q3⟩=>?_);rw[evalPart_none];refine AAB ?_;have I4:Inv X pins σ H3 { s3 with heap:=s3.heap.push { cls:=.type "slice",data:=.fields #[vl,vu,.none] } }:=I3.kept (t':=s3.toks) λb ob q=>AAC _ q;obtain⟨T,id,hT,ht,hg⟩:=hr pins { s3 with heap:=s3.heap.push { cls:=.type "slice",data:=.fields #[vl,vu,.none] } } σ H3 x v vl vu l u s3.heap.objs.size Q I4 r1 (Heap.IsSliceOf.new ..) pl pu q3;show wpAny (model X.prog X.w) X.A (subscriptTail e (.Slice lo hi none p2) v (.ref s3.heap.objs.size)) (EP X pins σ Q) X.xe { s3 with heap:=s3.heap.push { cls:=.type "slice",data:=.fields #[vl,vu,.none] } };exact tail_any (ops:=[.ref s3.heap.objs.size,v]) ht hT hg (by with_unfolding_all rfl)
noncomputable def Lh(xs:List V)(lo hi:Option Int):List V:=(xs.drop (HT.sIx xs.length 0 lo)).take (HT.sIx xs.length xs.length hi-HT.sIx xs.length 0 lo)
theorem HE(xs:List V)(lo hi:Option Int):(Lh xs lo hi).length<=xs.length:=by
 unfold Lh;rw[List.length_take,List.length_drop];omega
noncomputable def Y6(K:PySem.W.Frag):V->Option Int->Option Int->Hp->VK->Prop:=λx lo hi H Q=>∃a xs,x=.ref a/\SqT K H a xs /\
 ¬(HT.sIx xs.length 0 lo=0/\HT.sIx xs.length xs.length hi=xs.length)/\∀p,H p=none->Q (.ref p) (upd H p (.tup (Lh xs lo hi)))
theorem VF:SlR X (Y6 X.K):=by
 intro pins s σ H x v vl vu lo hi sl Q I rx hs pl pu h;obtain⟨a,xs,rfl,hx,hw,q⟩:=h;cases rx;obtain⟨its,r,ht,hz⟩:=I.tuple hx;have hlen:its.toArray.size=xs.length:=by rw[List.size_toArray];exact r.length.symm
 refine⟨"tuple",_,PyProof.Rows.slot_tuple_getitem.lookup,ht.typeIs,?_⟩;refine HT.GQ ht hs pl pu (by rw[hlen];exact hw) ?_ (by rw[hlen];exact hz);rw[hlen];refine⟨.ref s.heap.objs.size,_,I.laid (t':=s.toks) (o:=.tup (Lh xs lo hi)) (λb ob q=>AAC _ q) (AAF _) ?_,rfl,q _ (I.hok.fresh (AAF _))⟩;exact⟨AAr (HE xs lo hi) hz,_,(r.drop (HT.sIx xs.length 0 lo)).take (HT.sIx xs.length xs.length hi-HT.sIx xs.length 0 lo),IsTup.new _ _⟩
noncomputable def Xl(K:PySem.W.Frag):R2:=λx y H Q=>∃a b xs ys,x=.ref a/\y=.ref b/\SqT K H a xs/\SqT K H b ys/\xs≠[]/\xs.length+ys.length<=sizeLine /\
 (ys=[]->Q (.ref a) H)/\(ys≠[]->∀p,H p=none->Q (.ref p) (upd H p (.tup (xs++ys))))
theorem Vals.nil_iff{xs:List V}{us:List Value}(r:Vals xs us):us=[]↔xs=[]:=by
 cases r with
 |nil=>simp
 |cons _ _=>simp
theorem Tc:OpR X (binaryOp .Add) (Xl X.K):=by
 intro pins s σ H x y v u Q I rx ry h;obtain⟨a,b,xs,ys,rfl,rfl,ha,hb,hx,hz,q1,q2⟩:=h;cases rx;cases ry;obtain⟨its,r1,p1,_⟩:=I.tuple ha;obtain⟨its2,r2,p2,_⟩:=I.tuple hb;refine HT.UQ p1 p2 (λz=>hx (r1.nil_iff.mp z)) (λz=>⟨.ref a,H,I,rfl,q1 (r2.nil_iff.mp z)⟩) (λz=>?_) (by rw[←r1.length,←r2.length];exact hz);refine⟨.ref s.heap.objs.size,_,I.laid (t':=s.toks) (o:=.tup (xs++ys)) (λb ob q=>AAC _ q) (AAF _) ?_,rfl,q2 (λw=>z (r2.nil_iff.mpr w)) _ (I.hok.fresh (AAF _))⟩;exact⟨by rw[AAH];exact hz,_,r1.append r2,IsTup.new _ _⟩
theorem Ll:CT X (.type "tuple") (λxs H Q=>∃a ys,xs=[.ref a]/\SqT X.K H a ys/\Q (.ref a) H):=by
 intro pins s σ H xs us Q I r h;obtain⟨a,ys,rfl,ha,q⟩:=h;obtain⟨u,rfl,ru⟩:=G7 r;cases ru;obtain⟨its,_,p1,_⟩:=I.tuple ha;exact call_tuple_same (items:=its.toArray) p1 ⟨.ref a,H,I,rfl,q⟩
end
noncomputable def ixN(n:Nat)(i:Int):Option Nat:=if 0<=i then (if i<n then some i.toNat else none) else if -(n:Int)<=i then some (i+n).toNat else none
noncomputable def atI{α:Type}(xs:List α)(i:Int):Option α:=(ixN xs.length i).bind λj=>xs[j]?
theorem Nh{n:Nat}{i:Int}{j:Nat}(h:ixN n i=some j):seqIndex? i n=some j/\j<n/\-(n:Int)<=i/\i<n:=by
 unfold ixN at h;by_cases h0:0<=i
 ·rw[if_pos h0] at h;by_cases h1:i<n
  ·rw[if_pos h1] at h;have e:i.toNat=j:=Option.some.inj h;exact⟨by rw[seqIndex_of h0 h1,e],by omega,by omega,h1⟩
  ·rw[if_neg h1] at h;cases h
 ·rw[if_neg h0] at h;by_cases h1:-(n:Int)<=i
  ·rw[if_pos h1] at h;have e:(i+n).toNat=j:=Option.some.inj h;exact⟨by rw[seqIndex_neg (by omega) h1,e],by omega,h1,by omega⟩
  ·rw[if_neg h1] at h;cases h
theorem Kr{α:Type}{xs:List α}{i:Int}{v:α}(h:atI xs i=some v):∃j,seqIndex? i xs.length=some j/\xs[j]?=some v/\j<xs.length/\-(xs.length:Int)<=i/\i<xs.length:=by
 unfold atI at h;cases e:ixN xs.length i with
 |none=>rw[e] at h;cases h
 |some j=>
  rw[e] at h;obtain⟨h1,h2,h3,h4⟩:=Nh e;exact⟨j,h1,h,h2,h3,h4⟩
def N0(b:Expr):Prop:=∀o i,subscripted b false o i=operate [o,i] (getItem o i)
def IxR(X:Cx)(r:R2):Prop:=
 ∀(value slice:Expr) (pins:List (Addr×Obj)) (s:Shared) (σ:St) (H:Hp) (x y:V) (v u:Value) (Q:VK),Inv X pins σ H s->RelV x v->RelV y u->r x y H Q->
  subscripted slice false v u=operate [v,u] (getItem v u)->wpAny (model X.prog X.w) X.A (subscriptTail value slice v u) (EP X pins σ Q) X.xe s
def MtR(X:Cx)(id:String)(r:V->List V->Hp->VK->Prop):Prop:=
 ∀(pins:List (Addr×Obj)) (s:Shared) (σ:St) (H:Hp) (x:V) (xs:List V) (v:Value) (us:List Value) (Q:VK),Inv X pins σ H s->RelV x v->Vals xs us->r x xs H Q->
  wpAny (model X.prog X.w) X.A (call (.builtin id) (v::us)) (EP X pins σ Q) X.xe s
section
variable{X:Cx}{a b:Expr}{ta tb:TE}{pos:Pos}
theorem IxR.or{r r':R2}(h:IxR X r)(h':IxR X r'):IxR X (λx y H Q=>r x y H Q∨r' x y H Q):=by
 intro value slice pins s σ H x y v u Q I rx ry q hs;rcases q with q|q
 ·exact h value slice pins s σ H x y v u Q I rx ry q hs
 ·exact h' value slice pins s σ H x y v u Q I rx ry q hs
theorem Xv{r:R2}(hr:IxR X r)(ha:PE X a ta)(hb:PE X b tb)(hs:N0 b):PE X (.Subscript a b pos) (tOp r ta tb):=by
 intro pins s σ H Q I h;exact Subscript_ (Wu ha hb I h λv u s2 x y H2 I2 rx ry q=>hr a b pins s2 σ H2 x y v u Q I2 rx ry q (hs _ _))
noncomputable def Xk(K:PySem.W.Frag):R2:=λx y H Q=>∃p xs i v,x=.ref p/\y=.int i/\SqL K H p xs/\atI xs i=some v/\Q v H
noncomputable def Xi(K:PySem.W.Frag):R2:=λx y H Q=>∃p xs i v,x=.ref p/\y=.int i/\SqT K H p xs/\atI xs i=some v/\Q v H
noncomputable def Xj:R2:=λx y H Q=>∃z i c,x=.str z/\y=.int i/\z.length<=sizeLine/\atI z.cps.toList i=some c/\Q (.str ⟨#[c]⟩) H
theorem ix_list:IxR X (Xk X.K):=by
 intro value slice pins s σ H x y v u Q I rx ry h hs;obtain⟨p,xs,i,z,rfl,rfl,hq,he,q⟩:=h;cases rx;obtain⟨t,rfl⟩:=ry;obtain⟨its,r,pl,hz⟩:=I.list hq;obtain⟨j,h1,h2,h3,h4,h5⟩:=Kr he;obtain⟨w,ew,rw'⟩:=r.get h2;have hl:=r.length;have hn:=IR;have fin:EP X pins σ Q w s:=⟨z,H,I,rw',q⟩;by_cases h0:0<=i
 ·have hj:i.toNat=j:=by
   rw[seqIndex_of h0 h5] at h1;exact Option.some.inj h1
  exact item_listR pl.isList h0 (by omega) (by rw[hj];simpa using ew) fin hs
 ·have hj:(i+(its.toArray.size:Int)).toNat=j:=by
   rw[seqIndex_neg (by omega) h4] at h1;rw[List.size_toArray,←hl];exact Option.some.inj h1
  exact subscriptTail_builtinR (x:=w) pl.isList.typeIs slot_list_getitem.lookup
   (wpAny_getItem_list_neg (Q:=λr s'=>r=w/\EP X pins σ Q r s') pl.isList (by omega) (by rw[List.size_toArray]<;>omega) (by omega) (by rw[hj];simpa using ew) ⟨rfl,fin⟩) hs
theorem ix_tup:IxR X (Xi X.K):=by
 intro value slice pins s σ H x y v u Q I rx ry h hs;obtain⟨p,xs,i,z,rfl,rfl,hq,he,q⟩:=h;cases rx;obtain⟨t,rfl⟩:=ry;obtain⟨its,r,pl,hz⟩:=I.tuple hq;obtain⟨j,h1,h2,h3,h4,h5⟩:=Kr he;obtain⟨w,ew,rw'⟩:=r.get h2;have hl:=r.length;have hn:=IR;have fin:EP X pins σ Q w s:=⟨z,H,I,rw',q⟩;exact subscriptTail_builtinR (x:=w) pl.typeIs slot_tuple_getitem.lookup
  (getItem_tuple (j:=j) (Q:=λr s'=>r=w/\EP X pins σ Q r s') pl (by omega) (by omega) (by rw[List.size_toArray,←hl];exact h1) (by simpa using ew) ⟨rfl,fin⟩) hs
theorem Wb:IxR X Xj:=by
 intro value slice pins s σ H x y v u Q I rx ry h hs;obtain⟨z,i,c,rfl,rfl,hz,he,q⟩:=h;obtain⟨t,rfl⟩:=rx;obtain⟨t',rfl⟩:=ry;obtain⟨j,h1,h2,h3,h4,h5⟩:=Kr he;have hl:z.cps.toList.length=z.length:=by simp[Str.length]
 rw[hl] at h1 h4 h5;have hn:=IR;exact tail_any (typeIs_str s z t) slot_str_getitem.lookup (getItem_str (c:=c) (by
  have e1:decide (i < -(2 ^ 63:Int))=false:=AAO (by omega);have e2:decide (i ≥ 2 ^ 63)=false:=AAO (by omega);rw[e1,e2,Bool.or_false]) (by rw[h1];simpa using h2) ⟨.str ⟨#[c]⟩,H,I.tok _,⟨_,rfl⟩,q⟩) hs
noncomputable def rIx(K:PySem.W.Frag):R2:=λx y H Q=>Xk K x y H Q∨Xi K x y H Q∨Xj x y H Q
theorem MW:IxR X (rIx X.K):=ix_list.or (ix_tup.or Wb)
theorem MT(its:List Value)(n j:Nat)(u:Value):Obj.mapSeq (·.setIfInBounds j u) { cls:=.type "list",data:=.seq its.toArray n }={ cls:=.type "list",data:=.seq (its.set j u).toArray n }:=by
 simp[Obj.mapSeq]
theorem Inv.lst{pins:List (Addr×Obj)}{σ:St}{H:Hp}{s:Shared}{p:Addr}{xs:List V}(I:Inv X pins σ H s)(h:H p=some (.lst xs)):
  ∃(its:List Value) (n:Nat),Vals xs its/\s.heap.get? p=some { cls:=.type "list",data:=.seq its.toArray n }/\xs.length<=sizeLine:=by
 obtain⟨z,its,n,r,e⟩:=I.hok p _ h;exact⟨its,n,r,e,z⟩
theorem Inv.lstUpd{pins:List (Addr×Obj)}{σ:St}{H:Hp}{s:Shared}{p:Addr}{xs ys:List V}{its its':List Value}{n n':Nat}{f:Obj->Obj}(I:Inv X pins σ H s)(h:H p=some (.lst xs))
  (ho:s.heap.get? p=some { cls:=.type "list",data:=.seq its.toArray n }) (hf:f { cls:=.type "list",data:=.seq its.toArray n }={ cls:=.type "list",data:=.seq its'.toArray n' }) (r:Vals ys its') (hz:ys.length<=sizeLine) (t:Nat) :
  Inv X pins σ (upd H p (.lst ys)) { s with heap:=s.heap.update p f,toks:=t }:=by
 have e:(s.heap.update p f).get? p=some { cls:=.type "list",data:=.seq its'.toArray n' }:=by
  rw[Heap.get?_update_self f ho (by rw[hf]<;>rfl),hf]
 refine I.write (x:=p) (e:=p) (by rw[h];trivial) (.inl rfl) (λb u hb q=>(Heap.get?_update_other _ _ (Ne.symm hb)).trans q) ⟨_,e⟩ ?_;exact⟨hz,its',n',r,e⟩
noncomputable def Xh:V->V->V->Hp->(Hp->Prop)->Prop:=λo i v H Q=>∃p xs k j,o=.ref p/\i=.int k/\H p=some (.lst xs)/\ixN xs.length k=some j/\Q (upd H p (.lst (xs.set j v)))
theorem QI:Yo X Xh:=by
 intro pins s σ H o i v ov iv u Q I ro ri rv h;obtain⟨p,xs,k,j,rfl,rfl,hp,hj,q⟩:=h;cases ro;obtain⟨t,rfl⟩:=ri;obtain⟨its,n,r,ho,hz⟩:=I.lst hp;obtain⟨h1,h2,h3,h4⟩:=Nh hj;have hl:=r.length;have hn:=IR;have I':Inv X pins σ (upd H p (.lst (xs.set j v))) { s with heap:=s.heap.update p (Obj.mapSeq (·.setIfInBounds j u)) }:=
  I.lstUpd hp ho (MT its n j u) (r.set rv j) (by rw[List.length_set];exact hz) s.toks
 by_cases h0:0<=k
 ·have hk:k.toNat=j:=by
   rw[seqIndex_of h0 h4] at h1;exact Option.some.inj h1
  exact PySem.W.ki_setAt ho h0 (by omega) (by rw[List.size_toArray,←hl];exact h4) (by rw[hk];exact⟨_,I',q⟩)
 ·have hk:(k+(its.toArray.size:Int)).toNat=j:=by
   rw[seqIndex_neg (by omega) h3] at h1;rw[List.size_toArray,←hl];exact Option.some.inj h1
  exact PySem.W.ki_setBack ho (by omega) (by rw[List.size_toArray,←hl];exact h3) (by omega) (by rw[hk];exact⟨_,I',q⟩)
theorem J8(lo hi:Option Int)(n:Nat):(sliceBounds lo hi none n).1=((HT.sIx n 0 lo:Nat):Int)/\(sliceBounds lo hi none n).2.1=((HT.sIx n n hi:Nat):Int)/\(sliceBounds lo hi none n).2.2=1:=by
 refine⟨?_,?_,rfl⟩
 ·cases lo with
  |none=>simp[sliceBounds,HT.sIx]
  |some i=>
   simp only[sliceBounds,HT.sIx,Option.getD_none,show (1:Int) > 0 by decide,if_true];by_cases h:i<0
   ·simp only[h,if_true]<;>omega
   ·simp only[h,if_false]<;>omega
 ·cases hi with
  |none=>simp[sliceBounds,HT.sIx]
  |some i=>
   simp only[sliceBounds,HT.sIx,Option.getD_none,show (1:Int) > 0 by decide,if_true];by_cases h:i<0
   ·simp only[h,if_true]<;>omega
   ·simp only[h,if_false]<;>omega
theorem Iy(its:List Value)(lo hi:Option Int):slicePick its.toArray lo hi none=((its.drop (HT.sIx its.length 0 lo)).take (HT.sIx its.length its.length hi-HT.sIx its.length 0 lo)).toArray:=by
 obtain⟨h1,h2,h3⟩:=J8 lo hi its.toArray.size;unfold slicePick;rw[h1,h2,h3];simp only[sliceRange_one,pick_run,List.size_toArray]<;>rfl
noncomputable def Y7(K:PySem.W.Frag):V->Option Int->Option Int->Hp->VK->Prop:=λx lo hi H Q=>∃a xs,x=.ref a/\SqL K H a xs/\∀p,H p=none->Q (.ref p) (upd H p (.lst (Lh xs lo hi)))
theorem Sg:SlR X (Y7 X.K):=by
 intro pins s σ H x v vl vu lo hi sl Q I rx hs pl pu h;obtain⟨a,xs,rfl,hx,q⟩:=h;cases rx;obtain⟨its,r,ht,hz⟩:=I.list hx;have hlen:=r.length;refine⟨"list",_,slot_list_getitem.lookup,ht.isList.typeIs,?_⟩;refine wpAny_getItem_list_slice ht.isList hs pl pu .none (by simp) ?_ (by rw[List.size_toArray]<;>omega);rw[Iy,←hlen];refine⟨.ref s.heap.objs.size,_,I.laid (t':=s.toks) (o:=.lst (Lh xs lo hi)) (λb ob q=>AAC _ q) (AAF _) ?_,rfl,q _ (I.hok.fresh (AAF _))⟩;exact⟨AAr (HE xs lo hi) hz,_,0,(r.drop (HT.sIx xs.length 0 lo)).take (HT.sIx xs.length xs.length hi-HT.sIx xs.length 0 lo),AAD _ rfl⟩
noncomputable def Fp:V->Bool
 | .non=>true
 | .bl _=>true
 | .int _=>true
 | .str _=>true
 |_=>false
noncomputable def eqV:V->V->Bool
 | .non,.non=>true
 | .bl a,.bl b=>a==b
 | .bl a,.int b=>(if a then 1 else 0)==b
 | .int a,.bl b=>a==(if b then 1 else 0)
 | .int a,.int b=>a==b
 | .str a,.str b=>a==b
 |_,_=>false
theorem Wq{A:Around}{s:Shared}{y x:V}{u v:Value}(ry:RelV y u)(rx:RelV x v)(fy:Fp y=true)(fx:Fp x=true):SeqAt.EqAt A s u v (eqV y x):=by
 cases y with
 |non=>
  cases ry;cases x with
  |non=>cases rx;exact SeqAt.EqAt.same _
  |bl b=>cases rx;exact SeqAt.EqAt.none_bool b
  |int b=>obtain⟨t,rfl⟩:=rx;exact SeqAt.EqAt.none_int b t
  |str b=>obtain⟨t,rfl⟩:=rx;exact SeqAt.EqAt.none_str b t
  |_=>exact absurd (show false=true from fx) AAf
 |bl a=>
  cases ry;cases x with
  |non=>cases rx;exact SeqAt.EqAt.bool_none a
  |bl b=>cases rx;exact SeqAt.EqAt.bool_bool a b
  |int b=>obtain⟨t,rfl⟩:=rx;exact SeqAt.EqAt.bool_int a b t
  |str b=>obtain⟨t,rfl⟩:=rx;exact SeqAt.EqAt.bool_str a b t
  |_=>exact absurd (show false=true from fx) AAf
 |int a=>
  obtain⟨t',rfl⟩:=ry;cases x with
  |non=>cases rx;exact SeqAt.EqAt.int_none a t'
  |bl b=>cases rx;exact SeqAt.EqAt.int_bool a t' b
  |int b=>obtain⟨t,rfl⟩:=rx;exact SeqAt.EqAt.int_int a t' b t
  |str b=>obtain⟨t,rfl⟩:=rx;exact SeqAt.EqAt.int_str a t' b t
  |_=>exact absurd (show false=true from fx) AAf
 |str a=>
  obtain⟨t',rfl⟩:=ry;cases x with
  |non=>cases rx;exact SeqAt.EqAt.str_none a t'
  |bl b=>cases rx;exact SeqAt.EqAt.str_bool a t' b
  |int b=>obtain⟨t,rfl⟩:=rx;exact SeqAt.EqAt.str_int a t' b t
  |str b=>obtain⟨t,rfl⟩:=rx;exact SeqAt.EqAt.str_str a t' b t
  |_=>exact absurd (show false=true from fx) AAf
 |_=>exact absurd (show false=true from fy) AAf
noncomputable def eqU(x:V)(u:Value):Bool:=match u with
 | .none=>eqV .non x
 | .bool b=>eqV (.bl b) x
 | .int i _=>eqV (.int i) x
 | .str z _=>eqV (.str z) x
 |_=>false
theorem Rh{x y:V}{u:Value}(r:RelV y u)(f:Fp y=true):eqU x u=eqV y x:=by
 cases y with
 |non=>cases r;rfl
 |bl b=>cases r;rfl
 |int i=>obtain⟨t,rfl⟩:=r;rfl
 |str z=>obtain⟨t,rfl⟩:=r;rfl
 |_=>exact absurd (show false=true from f) AAf
theorem Gb{x:V}:∀{xs:List V} {us:List Value},Vals xs us->xs.all Fp=true->us.any (eqU x)=xs.any λy=>eqV y x
 |_,_,.nil,_=>rfl
 |y::xs,u::us,.cons r t,f=>by
  rw[List.all_cons,Bool.and_eq_true] at f;rw[List.any_cons,List.any_cons,Rh r f.1,Gb t f.2]
theorem FN{A:Around}{s:Shared}{x:V}{v:Value}(rx:RelV x v)(fx:Fp x=true):∀{xs:List V} {us:List Value},Vals xs us->xs.all Fp=true->∀u∈us,SeqAt.EqAt A s u v (eqU x u)
 |_,_,.nil,_=>λu hu=>by cases hu
 |y::xs,u::us,.cons r t,f=>λu' hu=>by
  rw[List.all_cons,Bool.and_eq_true] at f;rcases AAJ.mp hu with rfl|hu
  ·rw[Rh r f.1];exact Wq r rx f.1 fx
  ·exact FN rx fx t f.2 u' hu
noncomputable def inV(x:V)(xs:List V):Bool:=xs.any λy=>eqV y x
noncomputable def rIn(K:PySem.W.Frag)(neg:Bool):R2:=λx y H Q=>∃p xs,y=.ref p/\(SqL K H p xs∨SqT K H p xs)/\Fp x=true/\xs.all Fp=true/\Q (.bl (if neg then !inV x xs else inV x xs)) H
theorem OY:OpR X (compareOp .In) (rIn X.K false):=by
 intro pins s σ H x y v u Q I rx ry h;obtain⟨p,xs,rfl,hq,fx,fs,q⟩:=h;cases ry;rcases hq with hq|hq
 ·obtain⟨its,r,pl,hz⟩:=I.list hq;refine SeqAt.in_listAt (eqU x) pl.isList (λw hw=>FN rx fx r fs w (by simpa using hw)) ⟨.bl _,H,I,rfl,?_⟩;rw[show its.toArray.any (eqU x)=its.any (eqU x) by simp,Gb r fs];exact q
 ·obtain⟨its,r,pl,hz⟩:=I.tuple hq;refine SeqAt.in_tupleAt (eqU x) pl (λw hw=>FN rx fx r fs w (by simpa using hw)) ⟨.bl _,H,I,rfl,?_⟩;rw[show its.toArray.any (eqU x)=its.any (eqU x) by simp,Gb r fs];exact q
theorem KK:OpR X (compareOp .NotIn) (rIn X.K true):=by
 intro pins s σ H x y v u Q I rx ry h;obtain⟨p,xs,rfl,hq,fx,fs,q⟩:=h;cases ry;rcases hq with hq|hq
 ·obtain⟨its,r,pl,hz⟩:=I.list hq;refine SeqAt.notIn_listAt (eqU x) pl.isList (λw hw=>FN rx fx r fs w (by simpa using hw)) ⟨.bl _,H,I,rfl,?_⟩;rw[show its.toArray.any (eqU x)=its.any (eqU x) by simp,Gb r fs];exact q
 ·obtain⟨its,r,pl,hz⟩:=I.tuple hq;refine SeqAt.notIn_tupleAt (eqU x) pl (λw hw=>FN rx fx r fs w (by simpa using hw)) ⟨.bl _,H,I,rfl,?_⟩;rw[show its.toArray.any (eqU x)=its.any (eqU x) by simp,Gb r fs];exact q
theorem Kl:CT X (.type "list") (λxs H Q=>∃p ys,xs=[.ref p]/\(SqL X.K H p ys∨SqT X.K H p ys)/\∀l,H l=none->Q (.ref l) (upd H l (.lst ys))):=by
 intro pins s σ H xs us Q I r h;obtain⟨p,ys,rfl,hq,q⟩:=h;obtain⟨u,rfl,rx⟩:=G7 r;cases rx;have fin:∀(its:List Value),Vals ys its->ys.length<=sizeLine->∀(h':Heap) (c':Nat),(∀b o',s.heap.get? b=some o'->h'.get? b=some o')->
   h'.get? s.heap.objs.size=some { cls:=.type "list",dict:=none,data:=.seq its.toArray c',slots:=#[] }->EP X pins σ Q (.ref s.heap.objs.size) { s with heap:=h' }:=λits r' hz h' c' kp e=>
  ⟨.ref s.heap.objs.size,_,I.laid (t':=s.toks) kp (AAF _) (show ObjOk X.prog X.w _ h' _ (.lst ys) from ⟨hz,its,c',r',e⟩),rfl,q _ (I.hok.fresh (AAF _))⟩
 rcases hq with hq|hq
 ·obtain⟨its,r',pl,hz⟩:=I.list hq;have hlen:=r'.length;obtain⟨o,ho,hc,n,hd⟩:=pl.isList;exact call_list_seq p (.inl rfl) ho hc hd (λh' c' kp e=>fin its r' hz h' c' kp e) (by simp only[List.size_toArray]<;>omega)
 ·obtain⟨its,r',pl,hz⟩:=I.tuple hq;have hlen:=r'.length;obtain⟨o,ho,hc,n,hd⟩:=pl;exact call_list_seq p (.inr rfl) ho hc hd (λh' c' kp e=>fin its r' hz h' c' kp e) (by simp only[List.size_toArray]<;>omega)
def tyV(K:PySem.W.Frag)(T:String)(x:V)(H:Hp):Prop:=match x with
 | .str _=>T = "str"
 | .int _=>T = "int"
 | .ref p=>(T = "list" /\ ∃xs,SqL K H p xs)∨(T = "tuple" /\ ∃o,K.lookup p=some o/\o.cls=.type "tuple" /\ o.dict=none) ∨
   (T = "dict" /\ ((∃kvs,H p=some (.dK kvs))∨∃kvs,H p=some (.dT kvs)))∨(T = "set" /\ ∃S n,H p=some (.set S n))
 |_=>False
theorem U8{pins:List (Addr×Obj)}{σ:St}{H:Hp}{s:Shared}{T:String}{x:V}{v:Value}(I:Inv X pins σ H s)(r:RelV x v)(ty:tyV X.K T x H):
  s.TypeIs v T/\∀a,v=.ref a->∃ob,s.heap.get? a=some ob/\ob.dict=none:=by
 cases x with
 |str z=>
  obtain⟨t,rfl⟩:=r;cases (show T = "str" from ty);exact⟨typeIs_str s z t,λ_ e=>nomatch e⟩
 |int i=>
  obtain⟨t,rfl⟩:=r;cases (show T = "int" from ty);exact⟨typeIs_int s i t,λ_ e=>nomatch e⟩
 |ref p=>
  cases r;rcases ty with ⟨rfl,xs,hq⟩|⟨rfl,o,hk,hc,hd⟩|⟨rfl,hk⟩|⟨rfl,S,n,hk⟩
  ·obtain⟨its,_,pl,_⟩:=I.list hq;refine⟨pl.isList.typeIs,λa e=>?_⟩;cases e;obtain⟨o,n,e,c,hd,_⟩:=pl;exact⟨o,e,hd⟩
  ·refine⟨⟨o,I.kIn p o hk,hc⟩,λa e=>?_⟩;cases e;exact⟨o,I.kIn _ o hk,hd⟩
  ·have z:∃o,s.heap.get? p=some o/\o.ExactDict:=by
    rcases hk with ⟨kvs,hk⟩|⟨kvs,hk⟩
    ·obtain⟨_,_,_,_,o,_,_,e,ex,_⟩:=I.hok p _ hk;exact⟨o,e,ex⟩
    ·obtain⟨_,_,_,_,o,_,_,e,ex,_⟩:=I.hok p _ hk;exact⟨o,e,ex⟩
   obtain⟨o,e,ex⟩:=z;refine⟨⟨o,e,ex.1⟩,λa e2=>?_⟩;cases e2;exact⟨o,e,ex.2.1⟩
  ·obtain⟨o,_,_,_,e,ex,_⟩:=I.hok p _ hk;refine⟨⟨o,e,ex.1⟩,λa e2=>?_⟩;cases e2;exact⟨o,e,ex.2.1⟩
 |_=>exact False.elim ty
noncomputable def tBM(K:PySem.W.Frag)(T:String)(r:V->List V->Hp->VK->Prop)(to:TE)(t:TA):TE:=λσ H Q=>to σ H λx H1=>tyV K T x H1/\t σ H1 λxs H2=>r x xs H2 Q
variable{o e:Expr}{es:List Expr}{to:TE}{t:TA}{name:Str}{apos cpos:Pos}{T id:String}{r:V->List V->Hp->VK->Prop}
theorem Xw(pa:PlainAttrs T)(slot:Slot T name id)(hty:typeOf (.builtin id)=pure (.type "method_descriptor"))(hm:MtR X id r)(ho:PE X o to)(ha:PA X (e::es) t)
  (hbase:attributeBase o name X.env (eval o X.env)=eval o X.env:=by rfl)
  (hfew:((backTo cpos (starEach (e::es) X.env)).all (λx=>!x.1)&&(backToKw cpos (keywordEach [] X.env)).all (λx=>x.1.isSome)
   && decide ((e::es).length+([]:List Keyword).length+(if ([]:List Keyword).isEmpty then 0 else 1)<30))=true:=by rfl)
  (hline:(apos.endLine==cpos.line)=true:=by rfl) (hs:starEach (e::es) X.env=(false,eval e X.env)::starEach es X.env:=by rfl) (hplain:(backTo cpos (starEach es X.env)).any (·.1)=false:=by rfl) :
  PE X (.Call (.Attribute o name apos) (e::es) [] cpos) (tBM X.K T r to t):=by
 intro pins s σ H Q I h;refine wpAny_Call_method_late hbase hfew hline rfl (thn (ho pins s σ H _ I h) λv s1 ⟨x,H1,I1,r1,ty,q1⟩=>?_);obtain⟨h1,h2⟩:=U8 I1 r1 ty;refine⟨T,id,pa,slot,hty,h1,h2,?_⟩;have hA:=ha cpos pins s1 σ H1 _ I1 q1;rw[hs] at hA ⊢;refine Calls.callWith_builtin (by show (false||(backTo cpos (starEach es X.env)).any (·.1))=false;rw[hplain]<;>rfl) (Calls.evalArgs_plain ?_);exact thn hA λus s2 ⟨vs,H2,I2,r2,q2⟩=>hm pins s2 σ H2 x vs v us Q I2 r1 r2 q2
end
def MtM(X:Cx)(id:String)(r:V->List V->Hp->VK->Prop):Prop:=
 ∀(pins:List (Addr×Obj)) (s:Shared) (σ:St) (H:Hp) (x:V) (xs:List V) (v:Value) (us:List Value) (Q:VK),Inv X pins σ H s->RelV x v->Vals xs us->r x xs H Q->
  wpAny (model X.prog X.w) X.A (call (.builtin id) (v::us)) (EP X pins σ Q) X.xe s
theorem Vals.one:∀{x:V} {us:List Value},Vals [x] us->∃u,us=[u]/\RelV x u
 |_,_,.cons r .nil=>⟨_,rfl,r⟩
theorem Vals.two:∀{x y:V} {us:List Value},Vals [x,y] us->∃u v,us=[u,v]/\RelV x u/\RelV y v
 |_,_,_,.cons r (.cons q .nil)=>⟨_,_,rfl,r,q⟩
theorem Vals.rep{xs:List V}{us:List Value}(h:Vals xs us):∀k:Nat,Vals (List.replicate k xs).flatten (List.replicate k us).flatten
 |0=>.nil
 |k+1=>by
  rw[AAj,AAj,List.flatten_cons,List.flatten_cons];exact Vals.append h (Vals.rep h k)
theorem Ja(its:List Value):∀(k:Nat) (acc:List Value),
  List.foldl (λx1 x2=>x1++x2) acc.toArray (List.replicate k its.toArray)=(acc++(List.replicate k its).flatten).toArray
 |0,acc=>by simp
 |k+1,acc=>by
  have e:acc.toArray++its.toArray=(acc++its).toArray:=by simp
  have e2:(acc++its)++(List.replicate k its).flatten=acc++(List.replicate (k+1) its).flatten:=by
   rw[AAj,List.flatten_cons,AAk]
  rw[←e2,←Ja its k (acc++its),←e,AAj,List.foldl_cons]
section
variable{X:Cx}{pins:List (Addr×Obj)}{σ:St}{H:Hp}{s:Shared}{l:Addr}{xs ys:List V}
theorem Inv.lset{its its':List Value}{n:Nat}{f:Array Value->Array Value}{t':Nat}(I:Inv X pins σ H s)(hH:H l=some (.lst xs))
  (e:s.heap.get? l=some { cls:=.type "list",data:=.seq its.toArray n }) (hf:f its.toArray=its'.toArray) (hv:Vals ys its') (hz:ys.length<=sizeLine) :
  Inv X pins σ (upd H l (.lst ys)) { s with heap:=s.heap.update l (Obj.mapSeq f),toks:=t' }:=by
 have q:=PySem.IsL.update e f;rw[hf] at q;refine I.write (x:=l) (e:=l) (by rw[hH];exact trivial) (.inl rfl) (λb' u hb hu=>(Heap.get?_update_other s.heap (Obj.mapSeq f) (Ne.symm hb)).trans hu) ⟨_,q⟩ ?_;exact⟨hz,its',_,hv,q⟩
theorem Inv.lnew{its:List Value}{t':Nat}(I:Inv X pins σ H s)(hv:Vals ys its)(hz:ys.length<=sizeLine):
  Inv X pins σ (upd H s.heap.objs.size (.lst ys)) { s with heap:=s.heap.push { cls:=.type "list",data:=.seq its.toArray },toks:=t' }:=
 I.laid (λ_ _ q=>AAC _ q) (AAF _) ⟨hz,its,0,hv,AAD _ rfl⟩
theorem Inv.fresh(I:Inv X pins σ H s):H s.heap.objs.size=none:=I.hok.fresh (AAF _)
theorem Inv.lstM(I:Inv X pins σ H s)(hH:H l=some (.lst xs)):xs.length<=sizeLine/\∃(its:List Value) (n:Nat),Vals xs its/\xs.length=its.length/\s.heap.get? l=some { cls:=.type "list",data:=.seq its.toArray n }:=by
 obtain⟨z,its,n,r,e⟩:=I.hok l _ hH;exact⟨z,its,n,r,r.length,e⟩
theorem LN{n:Nat}(h:n<=sizeLine):Builtin.List.listTooLong n=false:=by
 unfold Builtin.List.listTooLong;exact AAO (by omega)
end
section
variable{X:Cx}
noncomputable def S7:V->List V->Hp->VK->Prop:=λx vs H Q=>∃l xs y,x=.ref l/\vs=[y]/\H l=some (.lst xs)/\xs.length<sizeLine/\Q .non (upd H l (.lst (xs++[y])))
theorem Oe:MtM X "list.append" S7:=by
 intro pins s σ H x vs v us Q I rx rv h;obtain⟨l,xs,y,rfl,rfl,hH,hz,q⟩:=h;cases rx;obtain⟨u,rfl,ru⟩:=rv.one;obtain⟨z,its,n,r,hl,e⟩:=I.lstM hH;refine call_meets F.slot_list_append ⟨_,e,rfl⟩ F.entry_list_append (F.args_list_append_2 _ _) (PySem.list_append l its.toArray n u (by rw[List.size_toArray];omega)) ⟨e,?_⟩;refine⟨.non,_,I.lset (its':=its++[u]) hH e (by simp) (r.append (.cons ru .nil)) ?_,rfl,q⟩;rw[AAH,List.length_singleton];omega
noncomputable def S0:V->List V->Hp->VK->Prop:=λx vs H Q=>∃l b xs zs,x=.ref l/\vs=[.ref b]/\H l=some (.lst xs)/\H b=some (.lst zs)/\xs.length+zs.length<=sizeLine/\Q .non (upd H l (.lst (xs++zs)))
theorem Od:MtM X "list.extend" S0:=by
 intro pins s σ H x vs v us Q I rx rv h;obtain⟨l,b,xs,zs,rfl,rfl,hH,hB,hz,q⟩:=h;cases rx;obtain⟨u,rfl,ru⟩:=rv.one;cases ru;obtain⟨z,its,n,r,hl,e⟩:=I.lstM hH;obtain⟨z2,its2,n2,r2,hl2,e2⟩:=I.lstM hB;have hsz:its.toArray.size+its2.toArray.size<=sizeLine:=by rw[List.size_toArray,List.size_toArray];omega
 have hlong:¬(!its.toArray.isEmpty&&Builtin.List.listTooLong (its.toArray.size+its2.toArray.size))=true:=by
  rw[LN hsz,Bool.and_false];exact AAf
 refine call_meets F.slot_list_extend ⟨_,e,rfl⟩ F.entry_list_extend (F.args_list_extend_2 _ _)
  (AutoSeq1.list_extend_list_list_0 l its.toArray n b its2.toArray n2 hlong (by rw[List.size_toArray];omega) (by omega)) ⟨e,e2,?_⟩
 refine⟨.non,_,I.lset (its':=its++its2) hH e (by simp) (r.append r2) ?_,rfl,q⟩;rw[AAH];omega
noncomputable def ZA:R2:=λx y H Q=>∃l b xs zs,x=.ref l/\y=.ref b/\H l=some (.lst xs)/\H b=some (.lst zs)/\xs.length+zs.length<=sizeLine/\∀p,H p=none->Q (.ref p) (upd H p (.lst (xs++zs)))
theorem V4:OpR X (binaryOp .Add) ZA:=by
 intro pins s σ H x y v u Q I rx ry h;obtain⟨l,b,xs,zs,rfl,rfl,hH,hB,hz,q⟩:=h;cases rx;cases ry;obtain⟨z,its,n,r,hl,e⟩:=I.lstM hH;obtain⟨z2,its2,n2,r2,hl2,e2⟩:=I.lstM hB;refine PySem.P.add_list e e2 ?_ (by rw[List.size_toArray,List.size_toArray];omega);have ea:its.toArray++its2.toArray=(its++its2).toArray:=by simp
 rw[ea];exact⟨.ref _,_,I.lnew (t':=s.toks) (r.append r2) (by rw[AAH];omega),rfl,q _ I.fresh⟩
noncomputable def Y8:R2:=λx y H Q=>∃l k xs,x=.ref l/\y=.int k/\H l=some (.lst xs)/\-(2 ^ 63)<=k/\k<2 ^ 63/\xs.length * k.toNat<=sizeLine /\
 ∀p,H p=none->Q (.ref p) (upd H p (.lst (List.replicate k.toNat xs).flatten))
theorem NY{α:Type}(xs:List α)(k:Nat):(List.replicate k xs).flatten.length=k * xs.length:=by
 induction k with
 |zero=>simp
 |succ k ih=>rw[AAj,List.flatten_cons,AAH,ih,Nat.succ_mul,Nat.add_comm]
theorem Vx:OpR X (binaryOp .Mult) Y8:=by
 intro pins s σ H x y v u Q I rx ry h;obtain⟨l,k,xs,rfl,rfl,hH,h1,h2,hz,q⟩:=h;cases rx;obtain⟨t,rfl⟩:=ry;obtain⟨z,its,n,r,hl,e⟩:=I.lstM hH;have hlen:its.toArray.size * k.toNat<=sizeLine:=by rw[List.size_toArray,←hl];exact hz
 have hcap:¬its.toArray.size * k.toNat > (2 ^ 63-1) / 8:=by
  have:(sizeLine:Nat)<=(2 ^ 63-1) / 8:=by decide
  omega
 have hfit:¬(!Builtin.List.listFitsIndex k)=true:=by
  rw[fitsIndex_both h1 h2];exact AAf
 have hlong:¬Builtin.List.listTooLong (its.toArray.size * k.toNat)=true:=by
  rw[LN hlen];exact AAf
 have hnew:List.foldl (λx1 x2=>x1++x2) #[] (List.replicate (if its.toArray.isEmpty=true then 0 else k.toNat) its.toArray)=(List.replicate k.toNat its).flatten.toArray:=by
  have f0:∀m:Nat,List.foldl (λx1 x2=>x1++x2) #[] (List.replicate m its.toArray)=(List.replicate m its).flatten.toArray:=λm=>by
   have:=Ja its m [];rw[List.nil_append] at this;exact this
  rw[f0];cases its with
  |nil=>simp
  |cons a r'=>rw[if_neg (by simp)]
 refine wpAny_binaryOp_repeat_ref (T := "list") (U := "int") (by decide) ⟨_,e,rfl⟩ (λs'=>typeIs_int s' k t) noFill_list_mul F.fills_int_mul F.slot_int_rmul repeat_list F.slot_int_index.lookup
  (call_meets F.slot_int_rmul (typeIs_int s k t) F.entry_int_rmul (F.args_int_rmul_2 _ _) (int___rmul___int_list k t l its.toArray n)
   ⟨e,rfl,⟨_,e,rfl⟩,call_meets F.slot_list_mul ⟨_,e,rfl⟩ F.entry_list_mul (F.args_list_mul_2 _ _) (AutoListH.list___mul___list_int_3 l its.toArray n k t hfit hcap hlong) ⟨e,?_⟩⟩)
 rw[hnew];exact⟨.ref _,_,I.lnew (t':=s.toks) (r.rep k.toNat) (by rw[NY,Nat.mul_comm];exact hz),rfl,q _ I.fresh⟩
end
section
variable{κ:Type}[DecidableEq κ]
noncomputable def FC(kvs:List (κ×V))(k:κ):Option V:=(kvs.find? λkv=>decide (kv.1=k)).map (·.2)
noncomputable def GI(kvs:List (κ×V))(k:κ)(v:V):List (κ×V):=
 if (kvs.any λkv=>decide (kv.1=k))=true then kvs.map (λkv=>if kv.1=k then (kv.1,v) else kv) else kvs++[(k,v)]
theorem Hf{p:κ×V}{r:List (κ×V)}{k:κ}(e:p.1=k):FC (p::r) k=some p.2:=by simp[FC,List.find?_cons,e]
theorem Hg{p:κ×V}{r:List (κ×V)}{k:κ}(e:¬p.1=k):FC (p::r) k=FC r k:=by simp[FC,List.find?_cons,e]
theorem K5(k:κ):∀kvs:List (κ×V),(kvs.any λkv=>decide (kv.1=k))=(FC kvs k).isSome
 |[]=>rfl
 |p::r=>by
  rw[List.any_cons];by_cases e:p.1=k
  ·simp only[Hf e,AAP e,Bool.true_or,Option.isSome_some]
  ·rw[Hg e,AAO e,Bool.false_or];exact K5 k r
theorem HD(kvs:List (κ×V))(k:κ)(v:V):(GI kvs k v).length<=kvs.length+1:=by
 unfold GI;split
 ·rw[AAG];omega
 ·rw[AAH,AAI,List.length_nil];omega
theorem RelO.isSome_eq{o:Option V}{u:Option Value}(r:RelO o u):o.isSome=u.isSome:=by
 cases o with
 |none=>cases u with
  |none=>rfl
  |some _=>exact(show False from r).elim
 |some _=>cases u with
  |none=>exact(show False from r).elim
  |some _=>rfl
theorem RelO.getD{o:Option V}{u:Option Value}{d:V}{d':Value}(r:RelO o u)(rd:RelV d d'):RelV (o.getD d) (u.getD d'):=by
 cases o with
 |none=>cases u with
  |none=>exact rd
  |some _=>exact(show False from r).elim
 |some _=>cases u with
  |none=>exact(show False from r).elim
  |some _=>exact r
theorem KV.val{kvs:List (κ×V)}{vs:List (κ×Value)}(r:KV kvs vs)(k:κ):RelO (FC kvs k) (valueAt vs k):=by
 unfold KV at r
 induction r with
 |nil=>exact True.intro
 |@cons p q ps qs h t ih=>
  obtain⟨h1,h2⟩:=h;by_cases e:p.1=k
  ·have e':q.1=k:=h1.symm.trans e;have b:valueAt (q::qs) k=some q.2:=by simp[valueAt,List.find?_cons,e']
   rw[Hf e,b];exact h2
  ·have e':¬q.1=k:=λz=>e (h1.trans z);have b:valueAt (q::qs) k=valueAt qs k:=by simp[valueAt,List.find?_cons,e']
   rw[Hg e,b];exact ih
theorem KV.any{kvs:List (κ×V)}{vs:List (κ×Value)}(r:KV kvs vs)(k:κ):(kvs.any λkv=>decide (kv.1=k))=vs.any λkv=>decide (kv.1=k):=by
 unfold KV at r
 induction r with
 |nil=>rfl
 |cons h t ih=>rw[List.any_cons,List.any_cons,ih,h.1]
theorem KV.repl{kvs:List (κ×V)}{vs:List (κ×Value)}(r:KV kvs vs)(k:κ){y:V}{u:Value}(ry:RelV y u):
  KV (kvs.map λkv=>if kv.1=k then (kv.1,y) else kv) (vs.map λkv=>if kv.1=k then (kv.1,u) else kv):=by
 unfold KV at r ⊢
 induction r with
 |nil=>exact .nil
 |@cons p q ps qs h t ih=>
  rw[AAX,AAX];refine .cons ?_ ih;obtain⟨h1,h2⟩:=h;by_cases e:p.1=k
  ·rw[if_pos e,if_pos (h1.symm.trans e)];exact⟨h1,ry⟩
  ·rw[if_neg e,if_neg (λz=>e (h1.trans z))];exact⟨h1,h2⟩
theorem KV.put{kvs:List (κ×V)}{vs:List (κ×Value)}(r:KV kvs vs)(k:κ){y:V}{u:Value}(ry:RelV y u):KV (GI kvs k y) (stored vs k u):=by
 unfold GI stored;rw[r.any k];by_cases e:(vs.any λkv=>decide (kv.1=k))=true
 ·rw[if_pos e,if_pos e];exact r.repl k ry
 ·rw[if_neg e,if_neg e];exact Paired.snoc r ⟨rfl,ry⟩
theorem KV.length{kvs:List (κ×V)}{vs:List (κ×Value)}(r:KV kvs vs):kvs.length=vs.length:=Paired.length r
end
theorem Ng{P:Program}{w:World}{k:Key}{u:Value}(r:RelV (kV k) u):(B2 P w).is k u=true:=by
 cases k with
 |inl i=>obtain⟨t,e⟩:=(show ∃t,u=Value.int i t from r);subst e;exact LP P w i t
 |inr x=>obtain⟨t,e⟩:=(show ∃t,u=Value.str x t from r);subst e;exact LO P w x t
theorem JW{P:Program}{w:World}:∀{ks:List Key} {us:List Value},Vals (ks.map kV) us->ItemsAre (B2 P w) ks us
 |[],_,r=>by rw[List.map_nil] at r;cases r;exact .nil
 |k::ks,_,r=>by
  rw[AAX] at r;cases r with
  |cons h t=>exact .cons (Ng h) (JW t)
noncomputable abbrev KT(H:Hp):List (List Key×V)->List (List Key×Addr×Value)->Prop:=Paired λp q=>p.1=q.1/\H q.2.1=some (.tup (p.1.map kV))/\RelV p.2 q.2.2
theorem KT.val{H:Hp}{kvs:List (List Key×V)}{xs:List (List Key×Addr×Value)}(r:KT H kvs xs)(k:List Key):RelO (FC kvs k) ((atKey xs k).map (·.2)):=by
 induction r with
 |nil=>exact True.intro
 |@cons p q ps qs h t ih=>
  obtain⟨h1,_,h2⟩:=h;by_cases e:p.1=k
  ·have e':q.1=k:=h1.symm.trans e;have b:atKey (q::qs) k=some q.2:=by simp[atKey,List.find?_cons,e']
   rw[Hf e,b];exact h2
  ·have e':¬q.1=k:=λz=>e (h1.trans z);have b:atKey (q::qs) k=atKey qs k:=by simp[atKey,List.find?_cons,e']
   rw[Hg e,b];exact ih
theorem KT.repl{H:Hp}{kvs:List (List Key×V)}{xs:List (List Key×Addr×Value)}(r:KT H kvs xs)(k:List Key){y:V}{u:Value}(ry:RelV y u):
  KT H (kvs.map λkv=>if kv.1=k then (kv.1,y) else kv) (xs.map (putAt k u)):=by
 induction r with
 |nil=>exact .nil
 |@cons p q ps qs h t ih=>
  rw[AAX,AAX];refine .cons ?_ ih;obtain⟨h1,h2,h3⟩:=h;unfold putAt;by_cases e:p.1=k
  ·rw[if_pos e,if_pos (h1.symm.trans e)];exact⟨h1,h2,ry⟩
  ·rw[if_neg e,if_neg (λz=>e (h1.trans z))];exact⟨h1,h2,h3⟩
theorem KT.put{H:Hp}{kvs:List (List Key×V)}{xs:List (List Key×Addr×Value)}(r:KT H kvs xs)(k:List Key){b:Addr}{y:V}{u:Value}(hb:H b=some (.tup (k.map kV)))(ry:RelV y u):
  KT H (GI kvs k y) (storedH xs k b u):=by
 have e:(kvs.any λkv=>decide (kv.1=k))=(atKey xs k).isSome:=by
  rw[K5,(r.val k).isSome_eq,Option.isSome_map]
 unfold GI storedH;rw[e];by_cases q:(atKey xs k).isSome=true
 ·rw[if_pos q,if_pos q];exact r.repl k ry
 ·rw[if_neg q,if_neg q];exact Paired.snoc r ⟨rfl,hb,ry⟩
theorem KT.keeps{H H':Hp}{kvs:List (List Key×V)}{xs:List (List Key×Addr×Value)}(r:KT H kvs xs)(ht:∀b ys,H b=some (.tup ys)->H' b=some (.tup ys)):KT H' kvs xs:=
 Paired.mapP r λ_ _ z=>⟨z.1,ht _ _ z.2.1,z.2.2⟩
section
variable{P:Program}{w:World}{H:Hp}{h:Heap}{a:Addr}
theorem Uc{u:HO}(ok:HOk P w H h)(e:Rd H a u):ObjOk P w H h a u:=e.ok ok
theorem Nq{kvs:List (Key×V)}(ok:HOk P w H h)(e:Rd H a (.dK kvs)):kvs.length<=sizeLine/\(a==sysModules)=false/\∃vs,KV kvs vs/\h.DictOf (B2 P w) a vs:=
 show ObjOk P w H h a (.dK kvs) from Uc ok e
theorem Yc{kvs:List (Key×V)}(ok:HOk P w H h)(e:H a=some (.dK kvs)):kvs.length<=sizeLine/\(a==sysModules)=false/\∃vs,KV kvs vs/\h.DictOf (B2 P w) a vs:=Nq ok (.inl e)
theorem KS{ks:List Key}(ok:HOk P w H h)(e:H a=some (.tup (ks.map kV))):(tupleKind (B2 P w)).is h ks a:=by
 obtain⟨_,its,r,o,h1,h2,n,h3⟩:=(show ObjOk P w H h a (.tup (ks.map kV)) from ok a _ e);exact⟨o,its.toArray,n,h1,h2,h3,by simpa using JW r⟩
theorem No{kvs:List (List Key×V)}(ok:HOk P w H h)(e:Rd H a (.dT kvs)):kvs.length<=sizeLine/\(a==sysModules)=false /\
  ∃xs,KT H kvs xs/\h.DictOfH (tupleKind (B2 P w)) a xs:=by
 obtain⟨z,y,xs,r,o,es,ep,h1,h2,h3,h4,h5⟩:=(show ObjOk P w H h a (.dT kvs) from Uc ok e);refine⟨z,y,xs,r,o,es,ep,h1,h2,h3,h4,λx hx=>?_,h5⟩;have all:∀{l:List (List Key×V)} {m:List (List Key×Addr×Value)},KT H l m->∀x∈m,(tupleKind (B2 P w)).is h x.1 x.2.1:=by
  intro l m q
  induction q with
  |nil=>intro x hx;exact nomatch hx
  |@cons p q ps qs hq t ih=>
   intro x hx;rcases AAJ.mp hx with e|hx
   ·subst e;exact KS ok (by rw[←hq.1];exact hq.2.1)
   ·exact ih x hx
 exact all r x hx
theorem Yb{kvs:List (List Key×V)}(ok:HOk P w H h)(e:H a=some (.dT kvs)):kvs.length<=sizeLine/\(a==sysModules)=false /\
  ∃xs,KT H kvs xs/\h.DictOfH (tupleKind (B2 P w)) a xs:=No ok (.inl e)
end
def DGet(H:Hp)(a:Addr)(y:V)(r:Option V):Prop:=
 (∃kvs k,Rd H a (.dK kvs)/\y=kV k/\r=FC kvs k)∨∃kvs k b,Rd H a (.dT kvs)/\y=.ref b/\H b=some (.tup (k.map kV))/\r=FC kvs k
def DPut(H:Hp)(a:Addr)(y v:V)(H':Hp):Prop:=
 (∃kvs k,H a=some (.dK kvs)/\y=kV k/\kvs.length<sizeLine/\H'=upd H a (.dK (GI kvs k v))) ∨
 ∃kvs k b,H a=some (.dT kvs)/\y=.ref b/\H b=some (.tup (k.map kV))/\kvs.length<sizeLine/\H'=upd H a (.dT (GI kvs k v))
theorem DGet.k{H:Hp}{a:Addr}{kvs:List (Key×V)}{k:Key}(e:H a=some (.dK kvs)):DGet H a (kV k) (FC kvs k):=.inl ⟨kvs,k,.inl e,rfl,rfl⟩
theorem DPut.k{H:Hp}{a:Addr}{kvs:List (Key×V)}{k:Key}{v:V}(e:H a=some (.dK kvs))(hl:kvs.length<sizeLine):DPut H a (kV k) v (upd H a (.dK (GI kvs k v))):=.inl ⟨kvs,k,e,rfl,hl,rfl⟩
section
variable{X:Cx}{pins:List (Addr×Obj)}{σ:St}{H:Hp}{s:Shared}{a:Addr}{y v:V}{u r:Value}{o:Option V}{A:Around}{E:Value->Shared->Prop}
theorem Inv.big(I:Inv X pins σ H s):sysModules<s.heap.objs.size:=by
 have h:mainGlobals<s.heap.objs.size:=(I.mod.glob.keeps I.bk).lt;exact Nat.lt_trans (by decide) h
theorem ZM{Q:Value->Shared->Prop}(hu:A.units+1<cLine)(I:Inv X pins σ H s)(g:DGet H a y o)(ry:RelV y u)(h:∀s',Inv X pins σ H s'->Q (.bool o.isSome) s'):
  wpAny (model X.prog X.w) A (compareOp .In u (.ref a)) Q E s:=by
 rcases g with ⟨kvs,k,e,ey,l⟩|⟨kvs,k,b,e,ey,eb,l⟩
 ·subst ey;obtain⟨z,hd,vs,rel,dd⟩:=Nq I.hok e;refine wpAny_in_of (Ng ry) hd dd.mapOf ?_;rw[←(rel.val k).isSome_eq,←l];exact h _ (I.tok _)
 ·subst ey;cases (show u=Value.ref b from ry);obtain⟨z,hd,xs,rel,dd⟩:=No I.hok e;refine wpAny_in_heap (tupleKind_room_in1 hu) (KS I.hok eb) hd dd ?_;have q:=(rel.val k).isSome_eq;rw[Option.isSome_map] at q;rw[←q,←l];exact h _ (I.tok _)
theorem Nt{h':Heap}{t':Nat}{ob:HO}(I:Inv X pins σ H s)(mu:Mut (H a))(hs:Heap.SameBut a s.heap h')(he:∃q,h'.get? a=some q)(new:ObjOk X.prog X.w (upd H a ob) h' a ob):
  Inv X pins σ (upd H a ob) { s with heap:=h',toks:=t' }:=
 I.write (x:=a) (e:=a) mu (.inl rfl) (λb q hb z=>(hs.2 b hb).trans z) he new
theorem Wr{P:Program}{w:World}{H':Hp}{h':Heap}{kvs:List (Key×V)}{vs:List (Key×Value)}(z:kvs.length<=sizeLine)(hd:(a==sysModules)=false)(rel:KV kvs vs)(dd:h'.DictOf (B2 P w) a vs):
  ObjOk P w H' h' a (.dK kvs):=⟨z,hd,vs,rel,dd⟩
theorem O9{H':Hp}{Q:Unit->Shared->Prop}(hu:A.units+1<cLine)(I:Inv X pins σ H s)(g:DPut H a y v H')(ry:RelV y u)(rv:RelV v r)(h:∀s',Inv X pins σ H' s'->Q () s'):
  wpAny (model X.prog X.w) A (setItem (.ref a) u r) Q E s:=by
 rcases g with ⟨kvs,k,e,ey,l,eH⟩|⟨kvs,k,b,e,ey,eb,l,eH⟩
 ·subst ey eH;obtain⟨z,hd,vs,rel,dd⟩:=Yc I.hok e;have hz:vs.length<=sizeLine:=by rw[←rel.length];exact z
  have hl:(GI kvs k v).length<=sizeLine:=by have:=HD kvs k v;omega
  refine wpAny_setItem_pairs (hsz:=hz) (Ng ry) dd λh' dd' hs=>h _ ?_;have he:∃q,h'.get? a=some q:=let ⟨q,_,_,hq,_⟩:=dd';⟨q,hq⟩
  exact Nt I (by rw[e];exact True.intro) hs he (Wr hl hd (rel.put k rv) dd')
 ·subst ey eH;cases (show u=Value.ref b from ry);obtain⟨z,hd,xs,rel,dd⟩:=Yb I.hok e;have hz:xs.length<=sizeLine:=by rw[←Paired.length rel];exact z
  have hl:(GI kvs k v).length<=sizeLine:=by have:=HD kvs k v;omega
  refine wpAny_setItem_heap (hsz:=hz) (tupleKind_room_in1 hu) (KS I.hok eb) dd λh' dd' hs=>h _ ?_;obtain⟨q,es,ep,hq,h2,h3,h4,_,h5⟩:=dd';refine Nt I (by rw[e];exact True.intro) hs ⟨q,hq⟩ ⟨hl,hd,_,(rel.put k eb rv).keeps λc ys ec=>?_,q,es,ep,hq,h2,h3,h4,h5⟩;rw[An (YC ec e (λz=>nomatch z))];exact ec
end
def W9(i:Expr):Prop:=∀ov iv,subscripted i false ov iv=operate [ov,iv] (getItem ov iv)
theorem Se{prog:Program}{w:World}{A:Around}{E:Value->Shared->Prop}{s:Shared}{env:Env}{value slice:Expr}{pos:Pos}{T id:String}{Q:Value->Shared->Prop}
  (hl:typeLookup (.type T) "__getitem__" = pure (some (.builtin id))) (hs:W9 slice)
  (h:wpAny (model prog w) A (eval value env) (λo s₁=>wpAny (model prog w) A (eval slice env) (λi s₂=>s₂.TypeIs o T/\wpAny (model prog w) A (getItem o i) Q E s₂) E s₁) E s) :
  wpAny (model prog w) A (eval (.Subscript value slice pos) env) Q E s:=by
 refine Subscript_ (AAh h (λo s₁ h₁=>AAh h₁ (λi s₂ h₂=>?_) λ_ _ x=>x) λ_ _ x=>x);obtain⟨hT,h₂⟩:=h₂;unfold subscriptTail;refine AAA ?_;rw[getitemInPython_of_ne hT.not_modules];refine AAA (wpAny_specialOf hT hl ?_);have fin:wpAny (model prog w) A (subscripted slice false o i) (λr s₃=>wpAny (model prog w) A (letTemporaryGo value o r >>= λ_=>pure r) Q E s₃) E s₂:=by
  rw[hs o i];exact wpAny_operating (AAh h₂ (λr s₃ h₃=>AAA (wpAny_letTemporaryGo (AAB h₃))) λ_ _ x=>x)
 first
  |exact AAB (AAA fin)
  |exact AAA (AAB (AAA fin))
  |exact AAA fin
noncomputable def XZ(ty td:TE):TE:=λσ H Q=>ty σ H λy H1=>td σ H1 λx H2=>∃a o,x=.ref a/\DGet H2 a y o/\Q (.bl o.isSome) H2
noncomputable def Xd(td ty tv:TE):TS:=λD σ H=>tv σ H λv H1=>td σ H1 λx H2=>ty σ H2 λy H3=>∃a H4,x=.ref a/\DPut H3 a y v H4/\D.nx σ H4
section
variable{X:Cx}{o i value:Expr}{pos pos':Pos}{td ty tv:TE}
theorem Vr(hu:X.A.units+1<cLine)(hi:PE X i ty)(ho:PE X o td):PC X .In i o (XZ ty td):=by
 intro pins s σ H Q I h;refine thn (hi pins s σ H _ I h) λiv s1 ⟨y,H1,I1,ry,q1⟩=>thn (ho pins s1 σ H1 _ I1 q1) λu s2 ⟨x,H2,I2,rx,a,ov,ex,g,q2⟩=>?_;subst ex;obtain rfl:u=Value.ref a:=rx;exact ZM hu I2 g ry λs3 I3=>⟨.bl ov.isSome,H2,I3,rfl,q2⟩
theorem TL(hu:X.A.units+1<cLine)(ho:PE X o td)(hi:PE X i ty)(hv:PE X value tv)(hs:swapsWith value (some (.Subscript o i pos')) pos.line X.env=pure false):
  PS X (.Assign [.Subscript o i pos'] value pos) (Xd td ty tv):=by
 intro pins s σ H D I h;refine wpAny_Assign_Subscript (thn (hv pins s σ H _ I h) λr s1 ⟨v,H1,I1,rv,q1⟩=>thn (ho pins s1 σ H1 _ I1 q1) λu s2 ⟨x,H2,I2,rx,q2⟩=>thn (hi pins s2 σ H2 _ I2 q2) λiv s3 ⟨y,H3,I3,ry,a,H4,ex,g,q3⟩=>?_) hs;subst ex;obtain rfl:u=Value.ref a:=rx;exact O9 hu I3 g ry rv λs4 I4=>⟨σ,H4,I4,q3⟩
end
theorem Rm{P:Program}{w:World}{H:Hp}(h:Heap)(hb:sysModules<h.objs.size):ObjOk P w H (h.push { cls:=.type "dict",data:=.dict #[] }) h.objs.size (.dK []):=
 ⟨AAi _,AAe.mpr (Ne.symm (AAd hb)),[],.nil,Heap.DictOf.new h⟩
noncomputable def VD:TE:=λ_ H Q=>∀p,H p=none->Q (.ref p) (upd H p (.dK []))
section
variable{X:Cx}{pos:Pos}
theorem Qu:PE X (.Dict [] [] pos) VD:=λpins s σ H Q I h=>
 wpAny_Dict_empty ⟨.ref s.heap.objs.size,_,I.laid (a:=s.heap.objs.size) (o:=.dK []) (t':=s.toks) (λ_ _ q=>AAC _ q) (AAF _) (Rm s.heap I.big),rfl,h _ (I.hok.fresh (AAF _))⟩
end
structure M1(X:Cx)(o:Expr)(m:Str)(apos:Pos)(e:Expr)(cpos:Pos):Prop where
 base:attributeBase o m X.env (eval o X.env)=eval o X.env
 few:((backTo cpos (starEach [e] X.env)).all (λx=>!x.1)&&(backToKw cpos (keywordEach [] X.env)).all (λx=>x.1.isSome)
  && decide (([e]:List Expr).length+([]:List Keyword).length+(if ([]:List Keyword).isEmpty then 0 else 1)<30))=true
 line:(apos.endLine==cpos.line)=true
 trees:backTo cpos (starEach [e] X.env)=[(false,eval e X.env)]
def IsD(H:Hp)(a:Addr):Prop:=(∃kvs,Rd H a (.dK kvs))∨∃kvs,Rd H a (.dT kvs)
theorem Wc{X:Cx}{pins:List (Addr×Obj)}{σ:St}{H:Hp}{s:Shared}{a:Addr}(I:Inv X pins σ H s)(d:IsD H a):
  s.TypeIs (.ref a) "dict" /\ (∀b,Value.ref a=.ref b->∃ob,s.heap.get? b=some ob/\ob.dict=none)/\(a==sysModules)=false:=by
 rcases d with ⟨kvs,e⟩|⟨kvs,e⟩
 ·obtain⟨_,hd,vs,_,dd⟩:=Nq I.hok e;refine⟨dd.typeIs,λb q=>?_,hd⟩;cases q;obtain⟨ob,_,_,h1,h2,_⟩:=dd;exact⟨ob,h1,h2.2.1⟩
 ·obtain⟨_,hd,xs,_,dd⟩:=No I.hok e;refine⟨dd.typeIs,λb q=>?_,hd⟩;cases q;obtain⟨ob,_,_,h1,h2,_⟩:=dd;exact⟨ob,h1,h2.2.1⟩
section
variable{X:Cx}{pins:List (Addr×Obj)}{σ:St}{H:Hp}{s:Shared}{a:Addr}{y:V}{u:Value}{o:Option V}{A:Around}{E:Value->Shared->Prop}
theorem Ws{Q:Value->Shared->Prop}(hu:A.units+1<cLine)(I:Inv X pins σ H s)(g:DGet H a y o)(ry:RelV y u)(h:∀w' s',Inv X pins σ H s'->RelV (o.getD .non) w'->Q w' s'):
  wpAny (model X.prog X.w) A (call (.builtin "dict.get") [.ref a,u]) Q E s:=by
 rcases g with ⟨kvs,k,e,ey,l⟩|⟨kvs,k,b,e,ey,eb,l⟩
 ·subst ey;obtain⟨z,hd,vs,rel,dd⟩:=Nq I.hok e;refine call_meetsIn PySem.F.slot_dict_get dd.typeIs PySem.F.entry_dict_get (PySem.F.args_dict_get_2 _ _) (meets_dict_get (B2 X.prog X.w) a (Ng ry) hd) ⟨_,dd.mapOf,h _ _ (I.tok _) ?_⟩;rw[l];exact(rel.val k).getD rfl
 ·subst ey;cases (show u=Value.ref b from ry);obtain⟨z,hd,xs,rel,dd⟩:=No I.hok e;refine call_meetsIn PySem.F.slot_dict_get dd.typeIs PySem.F.entry_dict_get (PySem.F.args_dict_get_2 _ _) (meetsH_dict_get (tupleKind (B2 X.prog X.w)) a b hd) ⟨tupleKind_room_in1 hu,k,xs,KS I.hok eb,dd,h _ _ (I.tok _) ?_⟩;rw[l];exact(rel.val k).getD rfl
end
noncomputable def VE(td ty:TE):TE:=λσ H Q=>td σ H λx H1=>∃a,x=.ref a/\IsD H1 a/\ty σ H1 λy H2=>∃o,DGet H2 a y o/\Q (o.getD .non) H2
section
variable{X:Cx}{o e:Expr}{apos cpos:Pos}{td ty:TE}
theorem Qv(hu:X.A.units+1<cLine)(ho:PE X o td)(he:PE X e ty)(m:M1 X o "get" apos e cpos):PE X (.Call (.Attribute o "get" apos) [e] [] cpos) (VE td ty):=by
 intro pins s σ H Q I h;refine wpAny_Call_method m.base m.few m.line PySem.F.plainAttrs_dict PySem.F.slot_dict_get PySem.F.type_dict_get (thn (ho pins s σ H _ I h) λu s1 ⟨x,H1,I1,rx,a,ex,d,q1⟩=>?_);subst ex;obtain rfl:u=Value.ref a:=rx;obtain⟨t1,t2,_⟩:=Wc I1 d;refine⟨t1,t2,?_⟩;rw[m.trees];refine Calls.callWith_builtin rfl (Calls.evalArgs_plain (Calls.spliced_cons (thn (he pins s1 σ H1 _ I1 q1) λiv s2 ⟨y,H2,I2,ry,ov,g,q2⟩=>Calls.spliced_nil ?_)));exact Ws hu I2 g ry λw' s3 I3 rw'=>⟨_,H2,I3,rw',q2⟩
end
end L2
namespace Att
open PySem PySem.W PySem.Calls PyProof.Rows
theorem HJ{P:Params}{h:Heap}:∀(ns:List Int) (vs:List Value),WellAll P h vs (ns.map WData.int)->IntsAre vs ns:=by
 intro ns
 induction ns with
 |nil=>
  intro vs w;rw[List.map_nil] at w;cases w;exact .nil
 |cons n ns ih=>
  intro vs w;rw[AAX] at w;cases w with
  |cons a b=>
   cases a;exact .cons _ _ (ih _ b)
theorem OK{l:OpenLaw}{n:Nat}(hn:l.most=some n){P:Params}{h:Heap}{args:List WData}{vals:List Value}
  (hpre:l.row.toRowW.claim.pre args=true) (hwl:WellAll P h vals args) :
  ∃a vs ns,vals=[Value.ref a]/\args=[WData.list (ns.map WData.int)]/\h.get? a=some { cls:=.type "list",data:=.seq vs.toArray }/\IntsAre vs ns/\ns.length<=n:=by
 have hsh:WShape.hasAll [] args [.list .int]=true:=(pre_splitW hpre).1;have hc:l.pre.holds [] { args:=args }=true:=(pre_splitW hpre).2;obtain⟨d,r,rfl,h1,h2⟩:=hasAllW_cons hsh;obtain rfl:=hasAllW_nil h2;obtain⟨xs,rfl,h3⟩:=hasW_list h1;obtain⟨ns,rfl⟩:=items_int h3;have hlen:ns.length<=n:=by
  unfold OpenLaw.pre at hc;have h4:(WTm.not (.lt (.lit (.int (n:Int))) (.len (.arg 0)))).holds [] { args:=[.list (ns.map .int)] }=true:=by
   have h4:=(holds_andW hc).1;rw[hn] at h4;exact h4
  have h5:=condW_of h4 (w_not (w_lt w_lit (w_len_list (w_arg rfl))));rw[AAG] at h5;refine Nat.le_of_not_lt λq=>?_;have q':(n:Int)<((ns.length:Nat):Int):=by omega
  first
   |(rw[AAP q'] at h5;exact absurd h5 (by decide))
   |(simp at h5;omega)
 cases hwl with
 |cons w1 w2=>
  cases w2;cases w1 with
  |list ho hall=>exact⟨_,_,ns,rfl,rfl,ho,HJ ns _ hall,hlen⟩
theorem OT(l:OpenLaw)(args:List WData):l.row.toRowW.claim.post args (.bool true) args=true:=
 postW_of (r:=l.row.toRowW) (X:=(true==true))
  (show WShape.has [] (.bool true) .bool=true by first|rfl|decide|simp[WShape.has,WShape.arms,WShape.armsAll])
  (show (WTm.eq .res (.lit (.bool true))).value [] { args:=args,res:=some (.bool true),after:=args }=some (.bool (true==true)) from w_eq_bool (w_res rfl) w_lit) rfl
theorem Ls{l:OpenLaw}{n:Nat}{q:Program}{loose:List Str}{XP:(Str->Option Value)->Heap->Prop}{YP:World->Heap->Prop}{d:DefRec}
  (hn:l.most=some n) (hdf:d.params.defaults=[])
  (call:∀(w:World) (s₀ s₁:Shared) (mg mb:Str->Option Value) (fa:Addr) (o:Obj) (pm cd doc:Value) (a:Addr) (vs:List Value) (ns:List Int),
   Ground q loose [] XP w s₀ mg mb s₁.heap->YP w s₁.heap->
   s₁.heap.get? fa=some o->o.data=.func (docDef d.name d.params d.body d.scope pm cd doc)->s₁.heap.CodeRec cd d.name->mg d.name=some (.ref fa)->
   s₁.heap.get? a=some { cls:=.type "list",data:=.seq vs.toArray }->IntsAre vs ns->ns.length<=n->s₁.gens=#[]->
   codeAny (model l.prog w) callerA (.call (.ref fa) ⟨[.ref a],[]⟩) (λr s'=>r=.ok (.ret (.bool true))/\OldK s₁.heap s'.heap/\s'.os=s₁.os/\AllBare s'.gens) s₁) :
  WalkO q loose XP YP l.row.toRowW d [] (λf vs=>PySem.call f vs):=by
 intro w s₀ s₁ mg mb G Y fa o pm cd doc dV kV ho hd hcd hD hmg hg args vals as hpre hlay hrd hwl hlo;obtain rfl:dV=.none:=Dflts.none hD hdf;obtain rfl:kV=.none:=Dflts.noKw hD;obtain⟨a,vs,ns,rfl,rfl,hobj,hints,hlen⟩:=OK hn hpre hwl;refine enter_call (codeAny_mono (call w s₀ s₁ mg mb fa o pm cd doc a vs ns G Y ho (fd_plain hd) hcd hmg hobj hints hlen hg) λr s' hq=>?_);obtain⟨rfl,h2,h3,h4⟩:=hq;exact⟨.inl ⟨.bool true,.bool true,[],rfl,λ_=>rfl,.bool true,OT l _,λ_=>⟨List.Pairwise.nil,λ_ hm=>(nomatch hm)⟩⟩,h2,h3,h4⟩
end Att
namespace L2
open PySem PySem.Spec PyProof.Rows
theorem JI:∀{vs:List Value} {ns:List Int},IntsAre vs ns->Vals (ns.map V.int) vs
 |_,_,.nil=>.nil
 |_,_,.cons n t h=>.cons ⟨t,rfl⟩ (JI h)
def UX(H:Hp):Prop:=∀b,H b=none∨∃o xs,H b=some (.frz o (.lst xs))
theorem RC{P:Program}{w:World}{K:PySem.W.Frag}{mg mb:Str->Option Value}{CX:CXT}{k:Nat}{fa a:Addr}{fd:FuncData}{x:Str}{sp:Sp}{s₁:Shared}{vs:List Value}{ns:List Int}
  (KX:K.In s₁.heap) (hns:s₁.heap.Ns mainGlobals mg) (hb:s₁.heap.Ns builtinsNs mb) (hbb:∀x:Str,x ≠ "__name__" -> mb x=bootBuiltins x) (hlim:s₁.heap.NoLimit) (hg:s₁.gens=#[])
  (ha:s₁.heap.get? a=some { cls:=.type "list",data:=.seq vs.toArray }) (hi:IntsAre vs ns) (hl:ns.length<=sizeLine) (hr:Room k callerA)
  (F:∀base:Heap,K.In base->base.Ns mainGlobals mg->FnOk P w K mg base CX k fa fd [x] sp) (hbind:∀(s:Shared) (u:Value),BindsTo s fd ⟨[u],[]⟩ [(x,u)])
  (hsp:∀H:Hp,UX H->SqL K H a (ns.map V.int)->sp [.ref a] H (λv _=>v=.bl true) λ_ _ _=>False)
  (hCX:∀H e s',CX [] H s₁ (λ_ _ _=>False) e s'->False) :
  codeAny (model P w) callerA (.call (.ref fa) ⟨[.ref a],[]⟩) (λr s'=>r=.ok (.ret (.bool true))/\OldK s₁.heap s'.heap/\s'.os=s₁.os/\AllBare s'.gens) s₁:=by
 have rv:=JI hi;have lenV:=hi.length;have core:∀H:Hp,UX H->SqL K H a (ns.map V.int)->HOk P w H s₁.heap->(∀b,H b≠none->b=a)->(H a≠none->K.lookup a=none)->
   codeAny (model P w) callerA (.call (.ref fa) ⟨[.ref a],[]⟩) (λr s'=>r=.ok (.ret (.bool true))/\OldK s₁.heap s'.heap/\s'.os=s₁.os/\AllBare s'.gens) s₁:=by
  intro H hO hS hok hA hK;have base_of:∀{b:Addr} {o:Obj},s₁.heap.get? b=some o->H b=none->(Ka s₁.heap H).get? b=some o:=λe n=>RY e n;have noA:∀{b:Addr} {o:Obj} {es:Array DictEntry} {ep:Nat},s₁.heap.get? b=some o->o.data=.dict es ep->H b=none:=λ{b o es ep} e d=>by
   cases q:H b with
   |none=>rfl
   |some u=>
    have e':b=a:=hA b (by rw[q];simp);subst e';rw[ha] at e;cases e;have d':Data.seq vs.toArray _=Data.dict es ep:=d;cases d'
  have nsK:∀{b:Addr} {m:Str->Option Value},s₁.heap.Ns b m->(Ka s₁.heap H).Ns b m:=λ{b m} ⟨o,es,ep,e,d,r⟩=>⟨o,es,ep,base_of e (noA e d),d,r⟩;have hKb:K.In (Ka s₁.heap H):=λb o e=>base_of (KX b o e) (by
   cases q:H b with
   |none=>rfl
   |some u=>
    have e':b=a:=hA b (by rw[q];simp);subst e';rw[hK (by rw[q];simp)] at e;cases e)
  have hM:Mod K mg (Ka s₁.heap H):=⟨hKb,nsK hns,⟨mb,nsK hb,hbb⟩,let ⟨mc,h1,h2⟩:=hlim;⟨mc,nsK h1,h2⟩⟩;have e0:UY P w K mg (Ka s₁.heap H) callerA [] s₁ H:=⟨rfl,hM,λb o e=>Te e,Nat.le_of_eq (Ov _ _),trivial,λb hb=>absurd (show b∈([]:List Addr) from hb) (by simp),hok,.of_eq hg⟩;refine codeAny_mono ((F _ hKb (nsK hns)).run callerA [] s₁ H ⟨[.ref a],[]⟩ [.ref a] [.ref a] _ _ hr e0 (hbind s₁ (.ref a)) (.cons rfl .nil) (hsp H hO hS)) λr s' h=>?_;cases r with
  |error e=>exact(hCX H e s' h).elim
  |ok fl=>
   cases fl with
   |next=>exact False.elim h
   |brk=>exact False.elim h
   |cont=>exact False.elim h
   |ret u=>
    obtain⟨v,H',os,bare,un,hok',r',q⟩:=h;have q':v=.bl true:=q;subst q';obtain rfl:u=Value.bool true:=r';refine⟨rfl,OldK.of_keep λb o e=>?_,os,bare⟩;cases q:H b with
    |none=>exact un.keep b o e q (by intro z;exact absurd (show b∈([]:List Addr) from z) (by simp)) (by simp)
    |some u=>
     rcases hO b with z|⟨ob,xs,z⟩
     ·rw[q] at z;cases z
     ·have z2:=un.frzs b ob _ z;obtain⟨e1,_⟩:=hok b _ z;obtain⟨e2,_⟩:=hok' b _ z2;rw[e] at e1;cases e1;exact e2
 cases hk:K.lookup a with
 |some o=>
  have e:=KX a o hk;rw[ha] at e;cases e;refine core (λ_=>none) (λ_=>.inl rfl) (.inr ⟨_,vs.toArray,_,hk,rfl,rfl,rfl,by rw[List.size_toArray,lenV];exact hl,by simpa using rv⟩) (λb u z=>by have z':(none:Option HO)=some u:=z;cases z') (λb z=>absurd rfl z) λz=>absurd rfl z
 |none=>
  refine core (λb=>if b=a then some (.frz { cls:=.type "list",data:=.seq vs.toArray } (.lst (ns.map V.int))) else none) (λb=>?_) (.inl (.inr ⟨{ cls:=.type "list",data:=.seq vs.toArray },if_pos rfl⟩)) (λb u z=>?_) (λb z=>?_) λ_=>hk
  ·by_cases hb:b=a
   ·exact .inr ⟨_,_,if_pos hb⟩
   ·exact .inl (if_neg hb)
  ·by_cases hb:b=a
   ·have z':=(if_pos hb).symm.trans z;cases z';subst hb;exact⟨ha,by rw[AAG];exact hl,vs,_,rv,ha⟩
   ·have z':=(if_neg hb).symm.trans z;cases z'
  ·by_cases hb:b=a
   ·exact hb
   ·exact absurd (if_neg hb) z
theorem SX{l:PySem.W.OpenLaw}{n k:Nat}{q:Program}{loose:List Str}{XP:(Str->Option Value)->Heap->Prop}{YP:World->Heap->Prop}{d:DefRec}{K:Params->PySem.W.Frag}{CX:World->CXT}{sp:World->Sp}{x:Str}
  (hn:l.most=some n) (hn2:n<=sizeLine) (hdf:d.params.defaults=[]) (hr:Room k callerA)
  (hY:∀(w:World) (h:Heap),YP w h->(K w.params).In h)
  (F:∀(w:World) (mg:Str->Option Value) (fa:Addr) (h:Heap),(K w.params).In h->h.Ns mainGlobals mg->mg d.name=some (.ref fa)->
   ∃fd:FuncData,(∀(s:Shared) (u:Value),BindsTo s fd ⟨[u],[]⟩ [(x,u)]) /\
    ∀base:Heap,(K w.params).In base->base.Ns mainGlobals mg->FnOk l.prog w (K w.params) mg base (CX w) k fa fd [x] (sp w))
  (hsp:∀(w:World) (H:Hp) (a:Addr) (ns:List Int),ns.length<=n->UX H->SqL (K w.params) H a (ns.map V.int)->sp w [.ref a] H (λv _=>v=.bl true) λ_ _ _=>False)
  (hCX:∀(w:World) (H:Hp) (s:Shared) (e:Value) (s':Shared),CX w [] H s (λ_ _ _=>False) e s'->False) :
  PySem.W.WalkO q loose XP YP l.row.toRowW d [] (λf vs=>PySem.call f vs):=by
 refine Att.Ls hn hdf λw s₀ s₁ mg mb fa o pm cd doc a vs ns G Y ho hd hcd hmg hobj hints hlen hg=>?_;have KX:=hY w _ Y;obtain⟨fd,hb,hF⟩:=F w mg fa _ KX G.T.g hmg;exact RC KX G.T.g G.T.b G.T.builtins G.T.nolimit hg hobj hints (AAr hlen hn2) hr hF hb (λH hO hS=>hsp w H a ns hlen hO hS) λH e s'=>hCX w H s₁ e s'
noncomputable def GW(s:Stmt):Arguments:=match s with
 | .FunctionDef _ a _ _ _ _ _ _ _ _=>a
 |_=>{ posonlyargs:=[],args:=[],vararg:=none,kwonlyargs:=[],kw_defaults:=[],kwarg:=none,defaults:=[] }
noncomputable def AX(s:Stmt):List Stmt:=match s with
 | .FunctionDef _ _ b _ _ _ _ _ _ _=>b
 |_=>[]
noncomputable def AI(s:Stmt):Scope:=match s with
 | .FunctionDef _ _ _ _ _ _ sc _ _ _=>sc
 |_=>{ kind:=.function,names:=[],isGenerator:=false,isCoroutine:=false }
noncomputable abbrev CX0:CXT:=λ_ _ _ _ _ _=>False
noncomputable abbrev E0:XK:=λ_ _ _=>False
theorem Ud{X:Cx}:Ks CX0 X E0:=λ_ _ _ _ _ _ _ h=>h.elim
structure Fun(K:PySem.W.Frag)(x qual:Str)(st:Stmt)(f:Addr)(fd:FuncData):Prop where
 ex:∃(oc:Value) (od:Option Addr) (kV doc pm:Value) (an:Option Addr) (cdv ct:Value) (osl:Array (Option Value)),
  fd=PySem.W.fnOf x qual (GW st) (AX st) (AI st) .none kV doc pm an cdv ct/\K.lookup f=some ⟨oc,od,.func fd,osl⟩/\PySem.W.codeIn K cdv qual=true
 kp:PySem.W.keepIn K (.ref f)=true
section
variable{P:Program}{w:World}{K:PySem.W.Frag}{mg:Str->Option Value}{base:Heap}
theorem Fun.ok{x qual:Str}{st:Stmt}{f:Addr}{fd:FuncData}{N ps:List Str}{k:Nat}{sp:Sp}(F:Fun K x qual st f fd)(S:Ac N ps (AI st))(len:∀vs H Q E,sp vs H Q E->vs.length=ps.length)
  (hbody:∀(cdv:Value) (A:Around) (outer:List Env) (s:Shared) (H:Hp) (vs:List V) (Q:VK) (E:XK),Room k (A.deeper (envOfC qual (AI st) s.heap.objs.size f cdv))->sp vs H Q E->
   ∃t,PSs (BP CX0 P w K mg base N qual (AI st) f cdv A outer s H E).nox (AX st) t/\t { nx:=λ_ H'=>Q .non H',rt:=Q } (start N vs) H):FnOk P w K mg base CX0 (k+1) f fd ps sp:=by
 obtain⟨oc,od,kV,doc,pm,an,cdv,ct,osl,rfl,lk,hcd⟩:=F.ex;refine Uo lk hcd S len λA outer s H vs Q E hr hsp=>?_;obtain⟨t,h,q⟩:=hbody cdv A outer s H vs Q E hr hsp;exact⟨t,h.nox,q⟩
theorem Fun.binds{x qual:Str}{st:Stmt}{f:Addr}{fd:FuncData}{ps:List Str}(F:Fun K x qual st f fd)
  (h:∀(kV doc pm:Value) (an:Option Addr) (cdv ct:Value) (us:List Value),us.length=ps.length->bindArgs (PySem.W.fnOf x qual (GW st) (AX st) (AI st) .none kV doc pm an cdv ct) ⟨us,[]⟩=pure (ps.zip us)):Binds K fd ps []:=by
 obtain⟨oc,od,kV,doc,pm,an,cdv,ct,osl,rfl,lk,hcd⟩:=F.ex;exact .all (h kV doc pm an cdv ct)
theorem Wf{x qual:Str}{st:Stmt}{f:Addr}{oc:Value}{od an:Option Addr}{osl:Array (Option Value)}{kV doc pm cdv ct:Value}(l:K.lookup f=some ⟨oc,od,.func (PySem.W.fnOf x qual (GW st) (AX st) (AI st) .none kV doc pm an cdv ct),osl⟩)
  (c:PySem.W.codeIn K cdv qual=true) (k:PySem.W.keepIn K (.ref f)=true):Fun K x qual st f (PySem.W.fnOf x qual (GW st) (AX st) (AI st) .none kV doc pm an cdv ct):=⟨⟨oc,od,kV,doc,pm,an,cdv,ct,osl,rfl,l,c⟩,k⟩
end
theorem RX{A:Around}{k:Nat}(hr:Room k A):A.units+1<cLine:=AAq (Nat.add_le_add_left (by decide:1<=64) _) hr.units
theorem OI{n:Nat}(h:n<=1000):n<sizeLine:=AAq h (by decide)
section
variable{κ:Type}[DecidableEq κ]
end
noncomputable def FW(env:Env):List (Str×NameKind)->List (Str×Addr)->List (Str×Addr)
 |[],cs=>cs
 |(n,k)::r,cs=>FW env r (if k==.free then (match env.cells.lookup n with|some c=>(n,c)::cs|none=>cs) else cs)
theorem DW{env:Env}:∀(l:List (Str×NameKind)) (cs:List (Str×Addr)),(∀x∈l,x.2=.free->∃c,env.cells.lookup x.1=some c)->
  (forIn l cs λ(x:Str×NameKind) (r:List (Str×Addr))=>(if (x.2==NameKind.free)=true then (do let a ←cellOf env x.1;pure (ForInStep.yield ((x.1,a)::r))) else pure (ForInStep.yield r):Sem (ForInStep (List (Str×Addr)))))=pure (FW env l cs)
 |[],cs,_=>by rw[List.forIn_nil];rfl
 |(n,k)::r,cs,h=>by
  have hr:∀x∈r,x.2=.free->∃c,env.cells.lookup x.1=some c:=λx hx=>h x (AAR _ hx);rw[List.forIn_cons];by_cases hk:k=.free
  ·subst hk;obtain⟨c,hc⟩:=h (n,.free) AAQ rfl;have e:cellOf env n=pure c:=by unfold cellOf;rw[hc]
   dsimp only;rw[if_pos (by decide),e,pure_bind,pure_bind];dsimp only;rw[DW r _ hr];show _=pure (FW env r (if (NameKind.free==NameKind.free)=true then (match env.cells.lookup n with|some c=>(n,c)::cs|none=>cs) else cs));rw[if_pos (by decide),hc]
  ·have hb:¬(k==NameKind.free)=true:=by simpa using hk
   dsimp only;rw[if_neg hb,pure_bind];dsimp only;rw[DW r _ hr];show _=pure (FW env r (if (k==NameKind.free)=true then (match env.cells.lookup n with|some c=>(n,c)::cs|none=>cs) else cs));rw[if_neg hb]
theorem ET{scope:Scope}{env:Env}(h:∀x∈scope.names,x.2=.free->∃c,env.cells.lookup x.1=some c):closureFor scope env=pure (FW env scope.names []):=by
 have e:=DW (env:=env) scope.names [] h;unfold closureFor;dsimp only;rw[←bind_pure (pure (FW env scope.names [])),←e]
theorem FV{env:Env}:∀(l:List (Str×NameKind)) (cs:List (Str×Addr)),(∀x c,cs.lookup x=some c->env.cells.lookup x=some c)->∀x c,(FW env l cs).lookup x=some c->env.cells.lookup x=some c
 |[],cs,h=>h
 |(n,k)::r,cs,h=>by
  refine FV r _ ?_;intro x c;by_cases hk:(k==NameKind.free)=true
  ·rw[if_pos hk];cases hl:env.cells.lookup n with
   |none=>exact h x c
   |some d=>
    intro q;by_cases hx:x=n
    ·subst hx;rw[List.lookup_cons_self] at q;rw[hl];exact q
    ·have hb:(x==n)=false:=AAe.mpr hx;simp only[List.lookup_cons,hb] at q;exact h x c q
  ·rw[if_neg hk];exact h x c
theorem Ii{env:Env}:∀(l:List (Str×NameKind)) (cs:List (Str×Addr)) (x:Str),(cs.lookup x).isSome=true->((FW env l cs).lookup x).isSome=true
 |[],cs,x,h=>h
 |(n,k)::r,cs,x,h=>by
  refine Ii r _ x ?_;by_cases hk:(k==NameKind.free)=true
  ·rw[if_pos hk];cases hl:env.cells.lookup n with
   |none=>exact h
   |some d=>
    by_cases hx:(x==n)=true
    ·simp only[List.lookup_cons,hx,Option.isSome_some]
    ·have hb:(x==n)=false:=by simpa using hx
     simp only[List.lookup_cons,hb];exact h
  ·rw[if_neg hk];exact h
theorem Lj{env:Env}:∀(l:List (Str×NameKind)) (cs:List (Str×Addr)) (x:Str) (c:Addr),(x,NameKind.free)∈l->env.cells.lookup x=some c->((FW env l cs).lookup x).isSome=true
 |[],cs,x,c,h,_=>by simp at h
 |(n,k)::r,cs,x,c,h,hc=>by
  rcases AAJ.mp h with e|e
  ·obtain⟨rfl,rfl⟩:=Prod.mk.inj e;refine Ii r _ _ ?_;rw[if_pos (by decide),hc];simp only[List.lookup_cons_self,Option.isSome_some]
  ·exact Lj r _ x c e hc
theorem Jh{env:Env}{l:List (Str×NameKind)}{x:Str}{c:Addr}(h:(x,NameKind.free)∈l)(hc:env.cells.lookup x=some c):(FW env l []).lookup x=some c:=by
 obtain⟨d,hd⟩:=Option.isSome_iff_exists.mp (Lj l [] x c h hc);have:=FV l [] (λ_ _ z=>by simp at z) x d hd;rw[hc] at this;cases this;exact hd
noncomputable def Ch:List (Str×NameKind)->List Str
 |[]=>[]
 |(n,.free)::r=>n::Ch r
 |_::r=>Ch r
theorem Fy{x:Str}:∀{l:List (Str×NameKind)},x∈Ch l->(x,NameKind.free)∈l
 |[],h=>by simp[Ch] at h
 |(n,k)::r,h=>by
  cases k<;>first
   |(rcases AAJ.mp (show x∈n::Ch r from h) with e|e;{subst e;exact AAQ};{exact AAR _ (Fy e)})
   |exact AAR _ (Fy (show x∈Ch r from h))
theorem JZ{x:Str}:∀{l:List (Str×NameKind)},(x,NameKind.free)∈l->x∈Ch l
 |[],h=>by simp at h
 |(n,k)::r,h=>by
  rcases AAJ.mp h with e|e
  ·cases e;exact AAQ
  ·have ih:=JZ e;cases k<;>first
    |exact AAR _ ih
    |exact ih
theorem FO{x:Str}(f:Str×NameKind->Str×NameKind)(hf:∀p,f p=p∨p.2=.free/\f p=(p.1,.cell)):∀(l:List (Str×NameKind)) (k:NameKind),(l.map f).lookup x=some k->l.lookup x=some k∨l.lookup x=some .free/\k=.cell
 |[],_,h=>nomatch h
 |(y,j)::l,k,h=>by
  have rest:=FO (x:=x) f hf l k;rw[AAX] at h;rcases hf (y,j) with e|⟨ej,e⟩<;>rw[e] at h<;>cases he:x==y<;>simp only[List.lookup_cons,he] at h ⊢
  ·exact rest h
  ·exact .inl h
  ·exact rest h
  ·cases h;cases (show j=NameKind.free from ej);exact .inr ⟨rfl,rfl⟩
theorem Do{scope:Scope}{env:Env}{x:Str}{k:NameKind}(h:(relabel scope env).names.lookup x=some k):scope.names.lookup x=some k∨scope.names.lookup x=some .free/\k=.cell:=by
 unfold relabel at h;refine FO _ (λp=>?_) _ _ h;obtain⟨n,j⟩:=p;dsimp only;split
 ·rename_i hc;refine .inr ⟨?_,rfl⟩;simp only[Bool.and_eq_true,beq_iff_eq] at hc;exact hc.1.1
 ·exact .inl rfl
noncomputable def JP(ix:List Nat)(σ:St):St:=ix.map λj=>(σ[j]?).getD none
noncomputable def cxB(X:Cx)(scope:Scope)(tgs:List Str)(fp:List Addr)(C:Addr)(s:Shared)(H:Hp):Cx:=
 { X with N:=tgs++Ch scope.names,s₀:=s,H₀:=H,env:=compEnvC scope (FW X.env scope.names []) C X.env,outer:=X.stack,ex:=fp,fn:=λ_=>false,pn:=[],xe:=λ_ _=>False }
noncomputable def XB{α:Type}(P:α->Prop):List α->Prop
 |[]=>True
 |x::r=>P x/\XB P r
theorem Iu{α:Type}{P:α->Prop}:∀{l:List α},XB P l->∀x∈l,P x
 |[],_,_,h=>by simp at h
 |_::_,h,x,hx=>by
  rcases AAJ.mp hx with e|e
  ·subst e;exact h.1
  ·exact Iu h.2 x e
structure BScope(X:Cx)(scope:Scope)(tgs:List Str)(ix:List Nat):Prop where
 kind:scope.kind=.function
 nocell:∀y∈scope.names,y.2≠.cell
 loc:∀y∈scope.names,y.2=.local->scope.names.lookup y.1=some .local
 fre:XB (λx=>X.env.kindOf x=some .cell∨X.env.kindOf x=some .free) (Ch scope.names)
 ixs:(Ch scope.names).map some=ix.map λj=>X.N[j]?
 ndl:∀x∈Ch scope.names,scope.names.lookup x=some .free
section
variable{X:Cx}{scope:Scope}{tgs:List Str}{ix:List Nat}
theorem BScope.cells(S:BScope X scope tgs ix)(ok:X.Ok):∀x∈scope.names,x.2=.free->∃c,X.env.cells.lookup x.1=some c:=λx hx hk=>by
 obtain⟨n,k⟩:=x;subst hk;exact ok.has n (Iu S.fre n (JZ hx))
theorem Inv.cellLt{pins:List (Addr×Obj)}{σ:St}{H:Hp}{s:Shared}(I:Inv X pins σ H s){x:Str}{c:Addr}(e:X.env.cells.lookup x=some c):c<s.heap.objs.size:=by
 obtain⟨v,q⟩:=I.cell x c e;exact q.lt
theorem Inv.track{pins:List (Addr×Obj)}{σ:St}{H:Hp}{s:Shared}{D:Addr}{o:HO}(I:Inv X pins σ H s)(f:FX X pins H D)(new:ObjOk X.prog X.w (upd H D o) s.heap D o):Inv X pins σ (upd H D o) s:=by
 obtain⟨f0,f1,f2,f3,f4,f5⟩:=f;have nD:∀b u,H b=some u->b≠D:=λb u e z=>by rw[z,f0] at e;cases e
 have:=I.step (h':=s.heap) (H':=upd H D o) (g':=s.gens) (t':=s.toks) (d':=s.drawn) (ch:=[D]) (λb hb=>?_) (λb u _ _ _ e _=>e) (λb u _ _ _ e _=>⟨u.slots,e⟩) (λb u hb e n=>?_) (λb u _ e=>⟨u,e⟩)
  (λb xs e=>?_) (λb u v e=>?_) (λb ps e=>?_) (λm hm=>hm) (λb u e=>?_) I.bare
 ·exact this
 ·have e:b=D:=by simpa using hb
  subst e;exact⟨f3,f1,f4,f5⟩
 ·rw[An (λz=>hb (by simp[z]))];exact n
 ·rw[An (nD b _ e)];exact e
 ·rw[An (nD b _ e)];exact e
 ·exact⟨#[],by rw[An (nD b _ e),e];simp⟩
 ·by_cases hb:b=D
  ·subst hb;rw[BU] at e;cases e;exact new
  ·rw[An hb] at e;exact(I.hok b u e).stay (λ_ _ _ q=>q) (λc q=>by rw[An (nD c _ q)];exact q) λc xs q=>by rw[An (nD c _ q)];exact q
theorem Ro{pins:List (Addr×Obj)}{σ:St}{H:Hp}{s:Shared}{fp:List Addr}{C:Addr}(S:BScope X scope tgs ix)(I:Inv X pins σ H s)(hf:∀b∈fp,FX X pins H b)(hfo:∀b∈fp,b<s.heap.objs.size)(hC:s.heap.objs.size<=C):
  (cxB X scope tgs fp C s H).Ok:=by
 have sub:∀x c,(FW X.env scope.names []).lookup x=some c->X.env.cells.lookup x=some c:=FV scope.names [] (λ_ _ z=>by simp at z);refine⟨I.ok.mod,S.kind,I.ok.glob,I.ok.blt,hC,λx y c h1 h2=>I.ok.inj x y c (sub x c h1) (sub y c h2),λx hx=>?_,λx c h=>absurd h (by simp[cxB]),I.ok.hd,I.ok.frames,.inl rfl,λb hb=>⟨?_,λx c e=>?_⟩,λb o e=>I.bs b o e,
  AAr I.ok.bsz I.sz,λb o e hb=>?_,λb hb hz=>?_,I.stack,I.stkFree⟩
 ·have hx':(relabel scope X.env).names.lookup x=some .cell∨(relabel scope X.env).names.lookup x=some .free:=hx;have hm:(x,NameKind.free)∈scope.names:=by
   rcases hx' with h|h
   ·rcases Do h with q|q
    ·exact absurd rfl (S.nocell _ (PySem.mem_of_lookup q))
    ·exact PySem.mem_of_lookup q.1
   ·rcases Do h with q|q
    ·exact PySem.mem_of_lookup q
    ·exact absurd q.2 (by decide)
  obtain⟨c,hc⟩:=S.cells I.ok _ hm rfl;exact⟨c,Jh hm hc⟩
 ·exact λz=>absurd (hfo b hb) (by rw[z];exact Nat.not_lt.mpr hC)
 ·exact(hf b hb).2.2.2.2.1 x c (sub x c e)
 ·obtain⟨f0,f1,f2,f3,f4,f5⟩:=hf b hb;rcases f3 with z|z
  ·exact I.ok.noex b o e z
  ·exact absurd (Heap.lt_size (I.ok.bs b o e).1) (Nat.not_lt.mpr z)
 ·obtain⟨f0,f1,f2,f3,f4,f5⟩:=hf b hb;rcases AAJ.mp (I.stkSub b hz) with z|z
  ·exact f1 z
  ·exact f2 z
end
section
variable{X:Cx}{scope:Scope}{tgs:List Str}{ix:List Nat}
noncomputable abbrev DG(tgs:List Str)(ix:List Nat)(σ:St):St:=List.replicate tgs.length none++JP ix σ
theorem Hm{σ:St}{k:Nat}{v:V}(h:(DG tgs ix σ)[k]?=some (some v)):tgs.length<=k/\∃j,ix[k-tgs.length]?=some j/\σ[j]?=some (some v):=by
 have hk:tgs.length<=k:=by
  rcases Nat.lt_or_ge k tgs.length with z|z
  ·rw[AAT (by simpa using z),List.getElem?_replicate,if_pos z] at h;cases h
  ·exact z
 refine⟨hk,?_⟩;rw[AAS (by simpa using hk),AAl] at h;unfold JP at h;rw[AAW] at h;cases e:ix[k-tgs.length]? with
 |none=>rw[e] at h;cases h
 |some j=>
  rw[e] at h;refine⟨j,rfl,?_⟩;have h':(σ[j]?).getD none=some v:=Option.some.inj h;cases q:σ[j]? with
  |none=>rw[q] at h';cases h'
  |some o=>
   rw[q] at h';have h'':o=some v:=h';rw[h'']
theorem MY{pins:List (Addr×Obj)}{σ:St}{H:Hp}{s s4:Shared}{fp:List Addr}{C D:Addr}{o:Obj}(S:BScope X scope tgs ix)(I:Inv X pins σ H s)(hf:∀b∈fp,FX X pins H b)(hfo:∀b∈fp,b<s.heap.objs.size)
  (hC:s.heap.objs.size<=C) (hD:s.heap.objs.size<=D) (hDC:D≠C) {m:Str->Option Value} (hn:s4.heap.Ns C m) (hk:∀b u,s.heap.get? b=some u->s4.heap.get? b=some u) (hos:s4.os=s.os) (hg:s4.gens=s.gens)
  (hDo:s4.heap.get? D=some o) (hcell:∀v,o.data≠.cell v):Inv (cxB X scope tgs fp C s H) [(D,o)] (DG tgs ix σ) H s4:=by
 have ok:=Ro (tgs:=tgs) (ix:=ix) (C:=C) S I hf hfo hC;have sub:∀x c,(FW X.env scope.names []).lookup x=some c->X.env.cells.lookup x=some c:=FV scope.names [] (λ_ _ z=>by simp at z);refine⟨ok,hos,by rw[hg];exact I.bare,Un.kept hk,⟨m,hn,λk x v h1 h2 h3=>?_⟩,λx c e=>?_,I.hok.fresh hC,λx c e=>I.freeC x c (sub x c e),λp hp=>?_,I.hok.kept hk,?_⟩
 ·obtain⟨hkl,j,hj,hσ⟩:=Hm h2;have h1':(Ch scope.names)[k-tgs.length]?=some x:=by
   have:(tgs++Ch scope.names)[k]?=some x:=h1
   rwa [AAS hkl] at this
  have hx:x∈Ch scope.names:=AAV h1';have hXN:X.N[j]?=some x:=by
   have e:=congrArg (λl=>l[k-tgs.length]?) S.ixs;simp only[AAW,h1',hj,Option.map_some] at e;exact(Option.some.inj e).symm
  have kx:=Iu S.fre x hx;obtain⟨m0,hn0,hl⟩:=I.loc;obtain⟨u,r,l⟩:=hl j x v hXN hσ (by rcases kx with z|z;exact .inr (.inl z);exact .inr (.inr z));refine⟨u,r,?_⟩;rcases l with ⟨z,_⟩|⟨_,c,hc,q⟩
  ·rcases kx with y|y<;>rw[z] at y<;>cases y
  ·refine .inr ⟨?_,c,Jh (Fy hx) hc,?_⟩
   ·have h3':(relabel scope X.env).names.lookup x=some .local∨(relabel scope X.env).names.lookup x=some .cell∨(relabel scope X.env).names.lookup x=some .free:=h3;rcases h3' with z|z|z
    ·exfalso;rcases Do z with w|w
     ·have lk:scope.names.lookup x=some .local:=w;have:=S.ndl x hx;rw[lk] at this;cases this
     ·exact absurd w.2 (by decide)
    ·exact .inl z
    ·exact .inr z
   ·obtain⟨oc,hoc,hd⟩:=q;exact⟨oc,hk c oc hoc,hd⟩
 ·obtain⟨v,oc,hoc,hd⟩:=I.cell x c (sub x c e);exact⟨v,oc,hk c oc hoc,hd⟩
 ·have e:p=(D,o):=by simpa[cxB] using hp
  subst e;refine⟨hDo,I.hok.fresh hD,hDC,λhz=>?_,hcell⟩;have hz':D∈frs X.stack:=hz;rcases AAJ.mp (I.stkSub D hz') with z|z
  ·exact absurd I.lt (by rw[←z];exact Nat.not_lt.mpr hD)
  ·exact I.nofs hD z
 ·show (List.replicate tgs.length none++JP ix σ).length=(tgs++Ch scope.names).length;have e:=congrArg List.length S.ixs;simp only[AAG] at e;rw[AAH,AAH,AAl,e];unfold JP;rw[AAG]
def JD(X:Cx)(ifs:List Expr)(tc:TT):Prop:=
 ∀(pins:List (Addr×Obj)) (s:Shared) (σ:St) (H:Hp) (Q:Bool->Hp->Prop),Inv X pins σ H s->tc σ H Q->
  wpAny (model X.prog X.w) X.A (forIn ifs true λc r=>if r=true then do let ok ←isTrue c X.env (eval c X.env);pure (ForInStep.yield ok) else pure (ForInStep.yield r)) (TP X pins σ Q) X.xe s
noncomputable def XM:TT:=λ_ H Q=>Q true H
theorem Qn:JD X [] XM:=λpins s σ H Q I h=>wpAny_tests_nil ⟨H,I,h⟩
theorem Qm{c:Expr}{tc:TT}(h:PT X c tc):JD X [c] tc:=λpins s σ H Q I hw=>wpAny_tests_one (h pins s σ H Q I hw)
def GK(n:Nat)(g:TG):Prop:=∀x σ H Q,g x σ H Q->g x σ H λσ2 H2=>Q σ2 H2/\σ2.length=σ.length/\σ2.drop n=σ.drop n
theorem Kd{n i:Nat}(h:i<n):GK n (Ew i):=λx σ H Q q=>⟨q,by simp,by rw[List.drop_set_of_lt h]⟩
def Yp(tgs:List Str)(ix:List Nat)(g:TG)(tc:TT)(te:TE)(σ:St)(Q:VK)(J:It)(H1:Hp):Prop:=∃W:Nat->Nat->List V->Hp->Prop,(∃m,W 0 m [] H1)/\∀i m ys H,W i m ys H->
 (J.stop i H/\ys.length<=sizeLine/\∀p,H p=none->Q (.ref p) (upd H p (.lst ys))) ∨
 (J.go i H/\ys.length<sizeLine/\∃N:List V->Hp->Prop,(∀ys' H',N ys' H'->∃m',m'<m/\W (i+1) m' ys' H')/\∀x H',J.yld i H x H'->g x (DG tgs ix σ) H' λσ2 H2=>tc σ2 H2 λb H3=>
  if b=true then te σ2 H3 λv H4=>N (ys++[v]) H4 else N ys H3)
noncomputable def NB(tgs:List Str)(ix:List Nat)(wi:TI)(g:TG)(tc:TT)(te:TE):TE:=λσ H Q=>wi σ H λJ H1=>Yp tgs ix g tc te σ Q J H1
theorem Mc{α:Type}{t:Sem α}{Q Q':α->Shared->Prop}{M:Model}{A:Around}{E:Value->Shared->Prop}{s:Shared}(h:wpAny M A t Q (λ_ _=>False) s)(hQ:∀a s,Q a s->Q' a s):wpAny M A t Q' E s:=AAh h hQ λ_ _ x=>x.elim
theorem OW{α:Type}{u:Sem Unit}{t:Sem α}{P:Unit->Shared->Prop}{Q:α->Shared->Prop}{M:Model}{A:Around}{E:Value->Shared->Prop}{s:Shared}(hu:u=pure ())(h:wpAny M A u P E s)(k:∀s',P () s'->wpAny M A t Q E s'):wpAny M A t Q E s:=by
 subst hu;have z:wpAny M A ((pure ():Sem Unit) >>= λ_=>t) Q E s:=AAA (AAh h (λ_ s' p=>k s' p) λ_ _ x=>x);exact z
end
section
variable{X:Cx}{scope:Scope}{tgs:List Str}{ix:List Nat}
noncomputable abbrev KO(its:List Value)(k:Nat):Obj:={ cls:=.type "list",data:=.seq its.toArray k }
theorem Ua{fp:List Addr}{C:Addr}{s0:Shared}{H0:Hp}{pins:List (Addr×Obj)}{σ σ6:St}{H:Hp}{s:Shared}(I:Inv (cxB X scope tgs fp C s0 H0) pins σ6 H s)(l6:σ6.length=(DG tgs ix σ).length)
  (d6:σ6.drop tgs.length=(DG tgs ix σ).drop tgs.length):Inv (cxB X scope tgs fp C s0 H0) pins (DG tgs ix σ) H s:=by
 refine I.weak l6.symm λk v e=>?_;obtain⟨hk,_⟩:=Hm e;have e1:σ6[k]?=(σ6.drop tgs.length)[k-tgs.length]?:=by rw[List.getElem?_drop];congr 1;omega
 have e2:(DG tgs ix σ)[k]?=((DG tgs ix σ).drop tgs.length)[k-tgs.length]?:=by rw[List.getElem?_drop];congr 1;omega
 rw[e1,d6,←e2];exact e
theorem Ih{elt tg iter:Expr}{ifs:List Expr}{pos:Pos}{g:TG}{tc:TT}{te:TE}{pins:List (Addr×Obj)}{σ:St}{H2:Hp}{s2:Shared}{it:Addr}{fp:List Addr}{tn:Nat->Heap->Prop}{J:It}{Q:VK}
  (S:BScope X scope tgs ix) (ht:∀o v,letOwnedTupleGo tg o v=pure ()) (hc:X.calm=true) (hg:∀fp C s H,PG (cxB X scope tgs fp C s H) tg g) (hgk:GK tgs.length g) (hi:∀fp C s H,JD (cxB X scope tgs fp C s H) ifs tc) (he:∀fp C s H,PE (cxB X scope tgs fp C s H) elt te)
  (I2:Inv X pins σ H2 s2) (T:JC X.prog X.w X.K tg J fp it tn) (t0:tn 0 s2.heap) (hf:∀b∈fp,FX X pins H2 b)
  (W:Nat->Nat->List V->Hp->Prop) (w0:∃m,W 0 m [] H2)
  (turn:∀i m ys H,W i m ys H->(J.stop i H/\ys.length<=sizeLine/\∀p,H p=none->Q (.ref p) (upd H p (.lst ys))) ∨
   (J.go i H/\ys.length<sizeLine/\∃N:List V->Hp->Prop,(∀ys' H',N ys' H'->∃m',m'<m/\W (i+1) m' ys' H')/\∀x H',J.yld i H x H'->g x (DG tgs ix σ) H' λσ2 H2=>tc σ2 H2 λb H3=>
    if b=true then te σ2 H3 λv H4=>N (ys++[v]) H4 else N ys H3))
  {RR:Value->Addr->Result->Shared->Prop}
  (fin:∀(D C:Addr) (s':Shared) (H':Hp) (m:Str->Option Value),Inv X pins σ H' s'->Q (.ref D) H'->s'.heap.Ns C m->FX X pins H' C->RR (.ref D) C (.ok .next) s') :
  wpAny (model X.prog X.w) X.A (newList []) (λacc s₃=>wpAny (model X.prog X.w) X.A (newFunctionEnv scope X.env.globals (FW X.env scope.names []) [] X.env.qual none .none (some X.env)) (λcenv s₄=>
   codeAny (model X.prog X.w) X.A (.compStart (.ListComp elt [⟨tg,iter,ifs,0⟩] scope pos) 0 (.ref it) acc { cenv with scope:=relabel scope X.env }) (RR acc cenv.locals) s₄) X.xe s₃) X.xe s2:=by
 refine AAp (wpAny_newFunctionEnv S.nocell (by intro y hy;simp at hy) (λh₁ hns₁ hsb₁=>?_) S.kind);dsimp only at hns₁ hsb₁ ⊢;generalize hH2:s2.heap.push { cls:=.type "list",dict:=none,data:=.seq ([]:List Value).toArray }=G2 at hns₁ hsb₁ ⊢;have hC:G2.objs.size=s2.heap.objs.size+1:=by rw[←hH2,Heap.size_push]
 have hCle:s2.heap.objs.size<=G2.objs.size:=by rw[hC];exact Nat.le_succ _
 have hDC:s2.heap.objs.size≠G2.objs.size:=by rw[hC];exact AAd (Nat.lt_succ_self _)
 have below:∀b,b<s2.heap.objs.size->b≠G2.objs.size/\b≠s2.heap.objs.size:=λb hb=>⟨by rw[hC];exact AAd (AAg hb),AAd hb⟩;have old:∀b o,s2.heap.get? b=some o->h₁.get? b=some o:=λb o e=>hsb₁.extBut b o (below b (Heap.lt_size e)).1 (AAC _ (hH2 ▸ AAC _ e));have hacc:h₁.get? s2.heap.objs.size=some (KO [] 0):=hsb₁.extBut _ _ hDC (AAC _ (hH2 ▸ AAD _ rfl));have hfo:∀b∈fp,b<s2.heap.objs.size:=λb hb=>let ⟨o,e,_⟩:=T.obj 0 _ t0 b hb;Heap.lt_size e
 have ok:=Ro (tgs:=tgs) (ix:=ix) (C:=G2.objs.size) S I2 hf hfo hCle;have sub:∀x c,(FW X.env scope.names []).lookup x=some c->X.env.cells.lookup x=some c:=FV scope.names [] (λ_ _ z=>by simp at z);have nDfs:s2.heap.objs.size∉frs X.stack:=λhz=>by
  rcases AAJ.mp (I2.stkSub _ hz) with z|z
  ·exact absurd I2.lt (by rw[←z];exact AAw _)
  ·exact I2.nofs (AAF _) z
 have nDcell:∀x c,(FW X.env scope.names []).lookup x=some c->c≠s2.heap.objs.size:=λx c e=>AAd (I2.cellLt (sub x c e));have ncell:∀(its:List Value) (k:Nat) (v:Option Value),(KO its k).data≠.cell v:=λits k v z=>by cases z
 have stat:∀{Hx:Hp} {o:Obj},(∀b∈fp,Hx b=none)->∀b∈fp,FX (cxB X scope tgs fp G2.objs.size s2 H2) [(s2.heap.objs.size,o)] Hx b:=λ{Hx o} hn b hb=>
  ⟨hn b hb,(ok.exf b hb).1,ok.exfs b hb,.inl hb,(ok.exf b hb).2,λp hp z=>by
   have e:p=(s2.heap.objs.size,o):=by simpa[cxB] using hp
   subst e;exact absurd (hfo b hb) (by rw[←z];exact AAw _)⟩
 have loop:∀s₃:Shared,s₃={ s2 with heap:=h₁,toks:=s2.toks+([]:List (Str×Value)).length }->
   codeAny (model X.prog X.w) X.A (.compLoop (.ListComp elt [⟨tg,iter,ifs,0⟩] scope pos) 0 (.ref it) (.ref s2.heap.objs.size) (compEnvC scope (FW X.env scope.names []) G2.objs.size X.env)) (RR (.ref s2.heap.objs.size) G2.objs.size) s₃:=by
  rintro s₃ rfl;obtain⟨m0,w0⟩:=w0;refine codeAny_compLoop_tests (λn s=>∃i ys its k H,Inv (cxB X scope tgs fp G2.objs.size s2 H2) [(s2.heap.objs.size,KO its k)] (DG tgs ix σ) H s/\tn i s.heap/\(∀b∈fp,H b=none)/\Vals ys its/\W i n ys H) ?_ m0
   ⟨0,[],[],0,H2,MY S I2 hf hfo hCle (AAF _) hDC hns₁ old rfl rfl hacc (ncell _ _),T.keep 0 _ _ t0 λb _ o e=>old b o e,λb hb=>(hf b hb).1,.nil,w0⟩ (ht _)
  rintro n s ⟨i,ys,its,k,H,I,st,fr,rv,w⟩;rcases turn i n ys H w with ⟨stop,hz,q⟩|⟨go,hz8,N,hN,step⟩
  ·refine thn (T.done (cxB X scope tgs fp G2.objs.size s2 H2) rfl rfl rfl hc i _ s _ H _ I (stat fr) st stop) λr s1 ⟨hr,I1⟩=>?_;subst hr;obtain⟨pe,pn,_⟩:=I1.pin (s2.heap.objs.size,KO its k) (AAa _ (by simp));have J0:Inv X pins σ H s1:=I2.call' I1.os I1.base I1.hok I1.bare λb hb=>⟨(hf b hb).2.2.2.1,(hf b hb).2.1,(hf b hb).2.2.2.2.1,(hf b hb).2.2.2.2.2⟩;have J1:Inv X pins σ (upd H s2.heap.objs.size (.lst ys)) s1:=J0.track (I2.fpOk (AAF _) pn) ⟨hz,its,k,rv,pe⟩;obtain⟨m,hn,_⟩:=I1.loc;exact fin _ _ s1 _ m J1 (q _ pn) hn (I2.fpOk hCle (by rw[An (Ne.symm hDC)];exact I1.free))
  ·refine thn (T.item (cxB X scope tgs fp G2.objs.size s2 H2) rfl rfl rfl hc i _ s _ H _ I (stat fr) st go) λr s1 ⟨u,hr,h1⟩=>?_;subst hr;refine OW (ht _ _) h1 λs5 ⟨x,H5,I5,r5,y5,st5,fr5⟩=>?_;have I5':=I5.pinned (stat fr5) (T.obj _ _ st5);refine Mc (hg fp G2.objs.size s2 H2 _ s5 _ H5 x u _ I5' r5 (hgk _ _ _ _ (step x H5 y5))) λ_ s6 ⟨σ6,H6,I6,q6,l6,d6⟩=>?_;refine Mc (hi fp G2.objs.size s2 H2 _ s6 σ6 H6 _ I6 q6) λokb s7 ⟨H7,I7,q7⟩=>?_;cases okb with
   |false=>
    rw[if_neg AAf] at q7 ⊢;obtain⟨m',hm,w7⟩:=hN _ _ q7;refine⟨m',hm,i+1,ys,its,k,H7,Ua I7.unpinned l6 d6,T.keep _ _ _ st5 λb hb o e=>(I7.pin (b,o) (AAa _ (AAa _ (CL hb e)))).1,λb hb=>?_,rv,w7⟩;obtain⟨o,e,_⟩:=T.obj _ _ st5 b hb;exact(I7.pin (b,o) (AAa _ (AAa _ (CL hb e)))).2.1
   |true=>
    rw[if_pos rfl] at q7 ⊢;refine Mc (he fp G2.objs.size s2 H2 _ s7 σ6 H7 _ I7 q7) λxv s8 ⟨v,H8,I8,rv8,q8⟩=>?_;obtain⟨m',hm,w8⟩:=hN _ _ q8;obtain⟨pe,pn,_⟩:=I8.pin (s2.heap.objs.size,KO its k) (AAa _ (AAb _ (by simp)));have hlen:=rv.length;refine call_meets PySem.F.slot_list_append ⟨_,pe,rfl⟩ PySem.F.entry_list_append (PySem.F.args_list_append_2 _ _) (PySem.list_append s2.heap.objs.size its.toArray k xv (by rw[List.size_toArray];omega)) ⟨pe,?_⟩;have hp:its.toArray.push xv=(its++[xv]).toArray:=by simp
    have q':∃k',(s8.heap.update s2.heap.objs.size (Obj.mapSeq (λa=>a.push xv))).get? s2.heap.objs.size=some (KO (its++[xv]) k'):=⟨_,by
     unfold KO;rw[←hp];exact PySem.IsL.update pe (λa=>a.push xv)⟩
    obtain⟨k',q'⟩:=q';have I9:Inv (cxB X scope tgs fp G2.objs.size s2 H2) [] σ6 H8 { s8 with heap:=s8.heap.update s2.heap.objs.size (Obj.mapSeq (λa=>a.push xv)) }:=
     (I8.pins_of (pins':=[]) (λp hp=>absurd hp (by simp))).turned (t':=s8.toks) (λb o hb e=>(Heap.get?_update_other s8.heap (Obj.mapSeq (λa=>a.push xv)) (Ne.symm hb)).trans e) pn hDC (.inr (AAF _)) nDcell (λp hp=>absurd hp (by simp[cxB]))
    have I10:Inv (cxB X scope tgs fp G2.objs.size s2 H2) [(s2.heap.objs.size,KO (its++[xv]) k')] σ6 H8 { s8 with heap:=s8.heap.update s2.heap.objs.size (Obj.mapSeq (λa=>a.push xv)) }:=
     I9.pins_of λp hp=>by
      have e:p=(s2.heap.objs.size,KO (its++[xv]) k'):=by simpa using hp
      subst e;exact⟨q',pn,hDC,nDfs,ncell _ _⟩
    refine⟨m',hm,i+1,ys++[v],its++[xv],k',H8,Ua I10 l6 d6,T.keep _ _ _ st5 λb hb o e=>?_,λb hb=>?_,rv.append (.cons rv8 .nil),w8⟩
    ·exact(Heap.get?_update_other s8.heap (Obj.mapSeq (λa=>a.push xv)) (Ne.symm (below b (hfo b hb)).2)).trans (I8.pin (b,o) (AAa _ (AAa _ (CL hb e)))).1
    ·obtain⟨o,e,_⟩:=T.obj _ _ st5 b hb;exact(I8.pin (b,o) (AAa _ (AAa _ (CL hb e)))).2.1
 exact codeAny_compStart_list (loop _ rfl) (T.self _ 0 _ _ _ (T.keep 0 _ _ t0 λb _ o e=>old b o e) (loop _ rfl))
theorem NP{elt tg iter:Expr}{ifs:List Expr}{pos:Pos}{wi:TI}{g:TG}{tc:TT}{te:TE}(S:BScope X scope tgs ix)(hc:X.calm=true)(hi:PI X tg iter wi)(hg:∀fp C s H,PG (cxB X scope tgs fp C s H) tg g)(hgk:GK tgs.length g)
  (hif:∀fp C s H,JD (cxB X scope tgs fp C s H) ifs tc) (he:∀fp C s H,PE (cxB X scope tgs fp C s H) elt te) (hs:∀x,foldedSetIterable iter X.env x=pure x:=by intro _;rfl) (ht:∀o v,letOwnedTupleGo tg o v=pure ():=by intro _ _;rfl) :
  PE X (.ListComp elt [⟨tg,iter,ifs,0⟩] scope pos) (NB tgs ix wi g tc te):=by
 intro pins s σ H Q I h;rw[eval_ListComp];refine wpAny_comprehension_free (use:=none) rfl hs (ET (S.cells I.ok)) S.kind S.loc ?_;show wpAny _ _ (eval iter X.env) _ _ s;refine thn (hi pins s σ H _ I h) λv s1 h1=>thn h1 λitv s2 h2=>?_;obtain⟨it,fp,tn,J,H2,e,I2,T,t0,f2,W,w0,turn⟩:=h2;subst e;refine Ih (RR:=λacc C=>compPost (model X.prog X.w) X.A X.xe none (EP X pins σ Q) acc C) S ht hc hg hgk hif he I2 T t0 f2 W w0 turn ?_;intro D C s' H' m J1 q hn fC;obtain⟨f0,f1,f2,f3,f4,f5⟩:=fC;exact⟨m,hn,λh' sb=>⟨.ref D,H',J1.turned (t':=s'.toks) (λb o hb e=>(sb.2 b hb).trans e) f0 f1 f3 f4 f5,rfl,q⟩⟩
theorem MM{i:Nat}{y:Str}{py:Pos}{elt tg iter:Expr}{ifs:List Expr}{pos spos:Pos}{wi:TI}{g:TG}{tc:TT}{te:TE}(hN:X.N.Nodup)(hiN:X.N[i]?=some y)(hy:X.env.scope.names.lookup y=some .local)
  (S:BScope X scope tgs ix) (hc:X.calm=true) (hi:PI X tg iter wi) (hg:∀fp C s H,PG (cxB X scope tgs fp C s H) tg g) (hgk:GK tgs.length g)
  (hif:∀fp C s H,JD (cxB X scope tgs fp C s H) ifs tc) (he:∀fp C s H,PE (cxB X scope tgs fp C s H) elt te)
  (hsw:swapsWith (.ListComp elt [⟨tg,iter,ifs,0⟩] scope pos) (some (.Name y py)) spos.line X.env=pure true:=by rfl) (hs:∀x,foldedSetIterable iter X.env x=pure x:=by intro _;rfl) (ht:∀o v,letOwnedTupleGo tg o v=pure ():=by intro _ _;rfl) :
  PS X (.Assign [.Name y py] (.ListComp elt [⟨tg,iter,ifs,0⟩] scope pos) spos) (Sd (NB tgs ix wi g tc te) (Ew i)):=by
 intro pins s σ H D0 I h;rw[exec_Assign_Name_used _ _ _ _ hsw];refine AAA (wpAny_standAt (AAA ?_));show wpAny _ X.A (do let _ ←comprehension (.ListComp elt [⟨tg,iter,ifs,0⟩] scope pos) scope X.env _ (newList []) false (eval iter X.env) (some (assign (.Name y py) X.env))) _ _ s;refine AAA (AAh (wpAny_comprehension_free (use:=some (assign (.Name y py) X.env)) (Q:=λ_ s'=>SP X pins D0 .next s') rfl hs (ET (S.cells I.ok)) S.kind S.loc ?_) (λ_ s' hq=>AAB (AAB hq)) λ_ _ e=>e);refine thn (hi pins s σ H _ I h) λv s1 h1=>thn h1 λitv s2 h2=>?_;obtain⟨it,fp,tn,J,H2,e,I2,T,t0,f2,W,w0,turn⟩:=h2;subst e;refine Ih (Q:=λx H1=>Ew i x σ H1 D0.nx) (RR:=λacc C=>compPost (model X.prog X.w) X.A X.xe (some (assign (.Name y py) X.env)) (λ_ s'=>SP X pins D0 .next s') acc C) S ht hc hg hgk hif he I2 T t0 f2 W w0 turn ?_;intro D C s' H' m J1 q hn fC;obtain⟨f0,f1,f2,f3,f4,f5⟩:=fC;show wpAny _ X.A (assign (.Name y py) X.env (.ref D)) _ _ _;refine wpAny_assign_Name (JM (v:=.ref D) J1 hN hiN (.inl hy) rfl (λs'' I'' hsb=>?_) (.inr hy));obtain⟨a,sb,ha⟩:=hsb;have hCa:C≠a:=by
  rcases ha with z|z
  ·rw[z];exact f1
  ·exact Ne.symm (f4 y a z)
 exact⟨m,hn.sameBut sb hCa,λh' sb'=>⟨_,H',I''.turned (t':=s''.toks) (λb o hb e=>(sb'.2 b hb).trans e) f0 f1 f3 f4 f5,q⟩⟩
end
section
variable{X:Cx}
theorem Lm:CT X (.builtin "isinstance") (λxs H Q=>∃x T t b,xs=[x,.ty T]/\Gc X.K H x t/\PySem.W.kitOne X.K t (.type T)=some b/\Q (.bl b) H):=by
 intro pins s σ H xs us Q I r h;obtain⟨x,T,t,b,rfl,ty,e,q⟩:=h;obtain⟨u,w',rfl,rx,ry⟩:=Ps r;cases ry;exact Ot I rx ty e λtk=>⟨.bl b,H,I.tok tk,rfl,q⟩
end
noncomputable def Its(x:Str):It:=⟨λi _=>i<x.cps.size,λi H v H'=>H'=H/\∃c,x.cps[i]?=some c/\v=.str ⟨#[c]⟩,λi _=>i=x.cps.size⟩
theorem X1{tg:Expr}{it:Addr}{x:Str}{u:Tok}:letOwnedTupleGo tg (.ref it) (.str x u)=pure ():=by
 unfold letOwnedTupleGo;cases tg<;>rfl
theorem K8{P:Program}{w:World}{K:PySem.W.Frag}{tg:Expr}(it:Addr)(ty:String)(x:Str)(t:Tok)
  (W:∀A:Around,A.handled=none->Walks P w A it [it] [it] x.cps.size (SignAt x) (λi h=>h.IsStrIter it ty x t i)) (sf:∀(A:Around) (i:Nat) (s:Shared) (Q:Value->Shared->Prop) (E:Value->Shared->Prop),s.heap.IsStrIter it ty x t i->Q (.ref it) s->wpAny (model P w) A (pyIter (.ref it)) Q E s) :
  JC P w K tg (Its x) [it] it (λi h=>h.IsStrIter it ty x t i) where
 mem:=by simp
 obj:=λi h st b hb=>by
  have e:b=it:=by simpa using hb
  subst e;obtain⟨o,e,c,d⟩:=st;exact⟨o,e,λv z=>by rw[d] at z;cases z⟩
 keep:=λi h h' st k=>by
  obtain⟨o,e,r⟩:=st;exact⟨o,k it (by simp) o e,r⟩
 item:=by
  intro X hP hw hK hc i pins s σ H E I hf st hg;subst hP hw hK;obtain⟨f0,f1,f2,f3,f4,f5⟩:=hf it (by simp);refine(W X.A (I.ok.hd hc)).item i s _ _ hg st λv h' tk hv st' kk=>?_;obtain⟨c,u,hcu,rfl⟩:=hv;have I1:Inv X pins σ H { s with heap:=h',toks:=tk }:=I.turned (λb o hb e=>kk b o (by simpa using hb) e) f0 f1 f3 f4 f5;exact⟨_,rfl,wpAny_of_eq X1 ⟨.str ⟨#[c]⟩,H,I1,⟨u,rfl⟩,⟨rfl,c,hcu,rfl⟩,st',λb hb=>(hf b hb).1⟩⟩
 done:=by
  intro X hP hw hK hc i pins s σ H E I hf st hg;subst hP hw hK;obtain⟨f0,f1,f2,f3,f4,f5⟩:=hf it (by simp);have hi:i=x.cps.size:=hg;subst hi;exact(W X.A (I.ok.hd hc)).done s _ _ st λh' tk kk=>⟨rfl,I.turned (λb o hb e=>kk b o (by simpa using hb) e) f0 f1 f3 f4 f5⟩
 self:=λA i s Q E st h=>sf A i s Q E st h
noncomputable def ZI(tl:TE):TI:=λσ H R=>tl σ H λv H1=>∃x,v=.str x/\R (Its x) H1
theorem Vf{X:Cx}{tg l:Expr}{tl:TE}(hl:PE X l tl):PI X tg l (ZI tl):=by
 intro pins s σ H R I h;refine thn (hl pins s σ H _ I h) λv s1 ⟨y,H1,I1,r1,q1⟩=>?_;obtain⟨x,e,q⟩:=q1;subst e;obtain⟨t,rfl⟩:=r1;have fp:∀b∈[s1.heap.objs.size],FX X pins H1 b:=λb hb=>by
  have e:b=s1.heap.objs.size:=by simpa using hb
  subst e;exact I1.fpOk (AAF _) (I1.hok.fresh (AAF _))
 cases ha:x.cps.all (·<128) with
 |false=>
  refine wpAny_pyIter_wide ha ?_;exact⟨s1.heap.objs.size,[s1.heap.objs.size],_,Its x,H1,rfl,I1.kept (t':=s1.toks) λb o e=>AAC _ e,K8 _ "str_iterator" x t (λA hA=>Walks.strWide hA _ x t) (λ_ _ _ _ _ st h=>wpAny_pyIter_striter_wide st h),⟨_,AAD _ rfl,rfl,rfl⟩,fp,q⟩
 |true=>
  refine wpAny_pyIter_ascii ha ?_;exact⟨s1.heap.objs.size,[s1.heap.objs.size],_,Its x,H1,rfl,I1.kept (t':=s1.toks) λb o e=>AAC _ e,K8 _ "str_ascii_iterator" x t (λA hA=>Walks.strAscii hA _ x t) (λ_ _ _ _ _ st h=>wpAny_pyIter_striter_ascii st h),⟨_,AAD _ rfl,rfl,rfl⟩,fp,q⟩
theorem MG{α:Type}(d:α)(bs:List α):(List.range bs.length).map (λi=>bs.getD i d)=bs:=by
 apply List.ext_getElem
 ·simp
 ·intro i h1 h2;simp[List.getD,h2]
theorem OO(bs:List Bool):((List.range bs.length).all λi=>bs.getD i true)=bs.all id:=by
 conv=>rhs;rw[←MG true bs]
 rw[List.all_map];rfl
section
variable{X:Cx}
theorem LA{P:Program}{w:World}{A:Around}{bs:List Bool}{its:List Value}(r:Vals (bs.map V.bl) its):TruthOf P w A (λi v=>its.toArray[i]?=some v) (λi=>bs.getD i true):=by
 intro i v s Q E hP hQ;have hi:its[i]?=some v:=by simpa using hP
 have hlt:i<its.length:=(AAU.mp hi).1;have hl:=r.length;rw[AAG] at hl;have hb:(bs.map V.bl)[i]?=some (V.bl (bs.getD i true)):=by
  rw[AAW,AAt (show i<bs.length by omega)];simp[List.getD,show i<bs.length by omega]
 obtain⟨u,hu,ru⟩:=r.get hb;rw[hi] at hu;cases hu;cases ru;exact wpAny_truthy_bool hQ
theorem Mf(hc:X.calm=true){pins:List (Addr×Obj)}{s:Shared}{σ:St}{H:Hp}{a:Addr}{bs:List Bool}{Q:VK}{c:Bool}{f:(Nat->Bool)->List Nat->Bool}(I:Inv X pins σ H s)(ha:SqL X.K H a (bs.map V.bl))(hf:f (λi=>bs.getD i true) (List.range bs.length)=c)(q:Q (.bl c) H):
  wpAny (model X.prog X.w) X.A.in1 (pyIter (.ref a)) (λit s₂=>∃I fp wr n P St tr,it=.ref I/\Walks X.prog X.w X.A.in1 I fp wr n P St/\St 0 s₂.heap/\TruthOf X.prog X.w X.A.in1 P tr /\
   ∀h' tk,(∀b o,b∉wr->s₂.heap.get? b=some o->h'.get? b=some o)->EP X pins σ Q (.bool (f tr (List.range n))) { s₂ with heap:=h',toks:=tk }) X.xe s:=by
 obtain⟨its,r,p,hz⟩:=I.list ha;refine wpAny_pyIter_list p.isList ?_;have hlt:a<s.heap.objs.size:=by
  obtain⟨o,n,e,_⟩:=p;exact Heap.lt_size e
 have I1:Inv X pins σ H { s with heap:=s.heap.push { cls:=.type "list_iterator",data:=.fields #[.ref a,.int 0 0] } }:=I.kept (t':=s.toks) λb o e=>AAC _ e;obtain⟨f0,f1,f2,f3,f4,f5⟩:=I.fpOk (H':=H) (AAF _) (I.hok.fresh (AAF _));refine⟨s.heap.objs.size,_,_,_,_,_,_,rfl,Walks.list (prog:=X.prog) (w:=X.w) (A:=X.A.in1) (show X.A.handled=none from I.ok.hd hc) s.heap.objs.size a (AAd hlt) its.toArray,⟨⟨_,AAD _ rfl,rfl,rfl⟩,p.isList.push _⟩,LA r,λh' tk kk=>?_⟩;have hl:=r.length;rw[AAG] at hl;rw[List.size_toArray,←hl,hf];exact⟨.bl c,H,I1.turned (t':=tk) (λb o hb e=>kk b o (by simpa using hb) e) f0 f1 f3 f4 f5,rfl,q⟩
theorem PN(hc:X.calm=true):CT X (.builtin "all") (λxs H Q=>∃(a:Addr) (bs:List Bool),xs=[.ref a]/\SqL X.K H a (bs.map V.bl)/\Q (.bl (bs.all id)) H):=by
 intro pins s σ H xs us Q I r h;obtain⟨a,bs,rfl,ha,q⟩:=h;obtain⟨u,rfl,ru⟩:=G7 r;cases ru;exact call_all_walk (Mf (f:=λtr l=>l.all tr) hc I ha (OO bs) q)
end
mutual
inductive DatV (K:PySem.W.Frag) (H:Hp):V->PyData->Prop
 |non:DatV K H .non .none
 |bl (b:Bool):DatV K H (.bl b) (.bool b)
 |int (i:Int):DatV K H (.int i) (.int i)
 |str (x:Str):DatV K H (.str x) (.str x)
 |tup {a:Addr} {xs:List V} {ds:List PyData}:SqT K H a xs->DatVs K H xs ds->DatV K H (.ref a) (.tuple ds)
 |lst {a:Addr} {xs:List V} {ds:List PyData}:SqL K H a xs->DatVs K H xs ds->DatV K H (.ref a) (.list ds)
inductive DatVs (K:PySem.W.Frag) (H:Hp):List V->List PyData->Prop
 |nil:DatVs K H [] []
 |cons {v:V} {d:PyData} {vs:List V} {ds:List PyData}:DatV K H v d->DatVs K H vs ds->DatVs K H (v::vs) (d::ds)
end
section
variable{X:Cx}{pins:List (Addr×Obj)}{σ:St}{H:Hp}{s:Shared}
mutual
theorem DatV.reads(I:Inv X pins σ H s):∀{v:V} {d:PyData},DatV X.K H v d->∀{u:Value},RelV v u->∃as,Reads s.heap u d as
 |_,_,.non,_,r=>by cases r;exact⟨[],.none⟩
 |_,_,.bl b,_,r=>by cases r;exact⟨[],.bool b⟩
 |_,_,.int i,_,r=>by obtain⟨t,rfl⟩:=r;exact⟨[],.int i t⟩
 |_,_,.str x,_,r=>by obtain⟨t,rfl⟩:=r;exact⟨[],.str x t⟩
 |_,_,.tup hq hs,_,r=>by
  cases r;obtain⟨its,rv,⟨o,e,c,n,d⟩,_⟩:=I.tuple hq;obtain⟨as,ra⟩:=DatVs.reads I hs rv;exact⟨_,.tuple e c d (by simpa using ra)⟩
 |_,_,.lst hq hs,_,r=>by
  cases r;obtain⟨its,rv,⟨o,n,e,c,_,d⟩,_⟩:=I.list hq;obtain⟨as,ra⟩:=DatVs.reads I hs rv;exact⟨_,.list e c d (by simpa using ra)⟩
theorem DatVs.reads(I:Inv X pins σ H s):∀{vs:List V} {ds:List PyData},DatVs X.K H vs ds->∀{us:List Value},Vals vs us->∃as,ReadsAll s.heap us ds as
 |_,_,.nil,_,.nil=>⟨[],.nil⟩
 |_,_,.cons h t,_,.cons r rr=>by
  obtain⟨a,ra⟩:=DatV.reads I h r;obtain⟨b,rb⟩:=DatVs.reads I t rr;exact⟨_,.cons ra rb⟩
end
end
section
variable{X:Cx}
theorem V3(hu:X.A.units+64<cLine):OpR X (compareOp .Eq) (λx y H Q=>∃d d',DatV X.K H x d/\DatV X.K H y d'/\SeqAt.shaped d=true/\SeqAt.shaped d'=true/\Q (.bl (PyData.eqv d d')) H):=by
 intro pins s σ H x y v u Q I rx ry h;obtain⟨d,d',h1,h2,s1,s2,q⟩:=h;obtain⟨as,ra⟩:=h1.reads I rx;obtain⟨bs,rb⟩:=h2.reads I ry;exact SeqAt.compareEq_shaped ra rb s1 s2 hu ⟨.bl _,H,I,rfl,q⟩
theorem Vz(hu:X.A.units+64<cLine):OpR X (compareOp .NotEq) (λx y H Q=>∃d d',DatV X.K H x d/\DatV X.K H y d'/\SeqAt.shaped d=true/\SeqAt.shaped d'=true/\Q (.bl (!PyData.eqv d d')) H):=by
 intro pins s σ H x y v u Q I rx ry h;obtain⟨d,d',h1,h2,s1,s2,q⟩:=h;obtain⟨as,ra⟩:=h1.reads I rx;obtain⟨bs,rb⟩:=h2.reads I ry;exact SeqAt.compareNe_shaped ra rb s1 s2 hu ⟨.bl _,H,I,rfl,q⟩
theorem QR{A:Around}{k:Nat}(hr:Room k A):A.units+64<cLine:=hr.units
end
theorem Inv.turnedL{X:Cx}{pins:List (Addr×Obj)}{σ:St}{H:Hp}{s:Shared}{h':Heap}{t':Nat}{ch:List Addr}(I:Inv X pins σ H s)(k:∀b o,b∉ch->s.heap.get? b=some o->h'.get? b=some o)(hf:∀b∈ch,FX X pins H b):Inv X pins σ H { s with heap:=h',toks:=t' }:=by
 have nit:∀b u,H b=some u->b∉ch:=λb u e z=>by rw[(hf b z).1] at e;cases e
 refine I.step (g':=s.gens) (d':=s.drawn) (ch:=ch) (λb hb=>⟨(hf b hb).2.2.2.1,(hf b hb).2.1,(hf b hb).2.2.2.2.1,(hf b hb).2.2.2.2.2⟩) (λb o _ _ hc e _=>k b o hc e) (λb o _ _ hc e _=>⟨o.slots,k b o hc e⟩) (λ_ _ _ _ n=>n)
  (λb o hc e=>⟨o,k b o hc e⟩) (λ_ _ e=>e) (λ_ _ _ e=>e) (λb ps e=>⟨#[],by rw[e];simp⟩) (λm hm=>?_) (λb u e=>?_) I.bare
 ·obtain⟨o,es,ep,ho,r⟩:=hm;exact⟨o,es,ep,k _ o (λz=>(hf _ z).2.1 rfl) ho,r⟩
 ·refine(I.hok b u e).stay (λc v hc q=>k c v ?_ q) (λ_ q=>q) λ_ _ q=>q;rcases hc with z|z
  ·rw[z];exact nit b u e
  ·exact nit c _ z
noncomputable def ItP(K:PySem.W.Frag)(n:Nat)(src:Nat->List V)(Cond:PySem.W.Frag->Hp->Prop):It:=
 ⟨λi H=>i<n/\Cond K H,λi H v H'=>∃T,H T=none/\v=.ref T/\H'=upd H T (.tup (src i)),λi H=>i=n/\Cond K H⟩
theorem Fr{P:Program}{w:World}{K:PySem.W.Frag}{es:List Expr}{k0:Nat}{pos:Pos}{I0:Addr}{ι:Type}{fp wr:List Addr}{n:Nat}{src:Nat->List V}{good:ι->Prop}{Pt:ι->Nat->Array Value->Prop}{Sw:ι->Nat->Heap->Prop}{Mid:ι->Nat->Addr->Heap->Prop}{tn:Nat->Heap->Prop}{Cond:PySem.W.Frag->Hp->Prop}
  (W:∀A:Around,A.handled=none->∀z,good z->WalksT P w A I0 fp wr n (Pt z) (Sw z) (Mid z)) (hmem:I0∈wr) (hPt:∀z i vals,good z->Pt z i vals->Vals (src i) vals.toList) (hlen:∀i,(src i).length<=sizeLine)
  (obj:∀i h,tn i h->∀b∈wr,∃o,h.get? b=some o/\∀v,o.data≠.cell v)
  (keep:∀i h h',tn i h->(∀b∈wr,∀o,h.get? b=some o->h'.get? b=some o)->tn i h')
  (into:∀(X:Cx) (pins:List (Addr×Obj)) (σ:St) (H:Hp) (s:Shared) (i:Nat),X.prog=P->X.w=w->X.K=K->Inv X pins σ H s->Cond K H->tn i s.heap->∃z,good z/\Sw z i s.heap) (out:∀z i h,Sw z i h->tn i h)
  (self:∀(A:Around) (i:Nat) (s:Shared) (Q:Value->Shared->Prop) (E:Value->Shared->Prop),tn i s.heap->Q (.ref I0) s->wpAny (model P w) A (pyIter (.ref I0)) Q E s) :
  JC P w K (.Tuple es k0 pos) (ItP K n src Cond) wr I0 tn where
 mem:=hmem
 obj:=obj
 keep:=keep
 item:=by
  intro X hP hw hK hc i pins s σ H E I hf st hg;obtain⟨hi,hcond⟩:=hg;obtain⟨z,gz,sz⟩:=into X pins σ H s i hP hw hK I hcond st;have W':=W X.A (I.ok.hd hc) z gz;refine W'.item i s _ _ hi sz λT vals h' tk hp hT ht hm kk=>⟨_,rfl,?_⟩;have I1:Inv X pins σ H { s with heap:=h',toks:=tk }:=I.turnedL kk hf;refine W'.go es k0 pos i T _ _ _ hm λh2 st2 kk2=>?_;have I2:Inv X pins σ H { s with heap:=h2,toks:=tk }:=I1.turnedL (t':=tk) kk2 hf;have hn:H T=none:=I.hok.fresh hT;have ht2:IsTup h2 T vals:=by
   obtain⟨o,e,r⟩:=ht;exact⟨o,kk2 T o (W'.apart i T _ hm) e,r⟩
  refine⟨.ref T,upd H T (.tup (src i)),I2.track (I.fpOk hT hn) ⟨hlen i,vals.toList,hPt z i vals gz hp,by simpa using ht2⟩,rfl,⟨T,hn,rfl,rfl⟩,out z _ _ st2,λb hb=>?_⟩;have hbT:b≠T:=λz=>W'.apart i T _ hm (by rw[←z];exact hb);rw[An hbT];exact(hf b hb).1
 done:=by
  intro X hP hw hK hc i pins s σ H E I hf st hg;obtain⟨hi,hcond⟩:=hg;subst hi;obtain⟨z,gz,sz⟩:=into X pins σ H s i hP hw hK I hcond st;exact(W X.A (I.ok.hd hc) z gz).done s _ _ sz λh' tk kk=>⟨rfl,I.turnedL kk hf⟩
 self:=self
noncomputable def FS(xs:List V)(i:Nat):List V:=[.int i,xs.getD i .non]
theorem Ig{xs:List V}{its:List Value}(r:Vals xs its){i:Nat}{vals:Array Value}(h:∃t x,its.toArray[i]?=some x/\vals=#[.int i t,x]):Vals (FS xs i) vals.toList:=by
 obtain⟨t,x,hx,rfl⟩:=h;have hx':its[i]?=some x:=by simpa using hx
 have hlt:i<its.length:=(AAU.mp hx').1;have hl:=r.length;have hv:xs[i]?=some (xs.getD i .non):=by
  rw[AAt (by omega)];simp[List.getD,show i<xs.length by omega]
 obtain⟨u,hu,ru⟩:=r.get hv;rw[hx'] at hu;cases hu;exact .cons ⟨t,rfl⟩ (.cons ru .nil)
theorem Nn{P:Program}{w:World}{e it:Addr}{f:Nat->Heap->Prop}(A:Around)(i:Nat)(s:Shared)(Q:Value->Shared->Prop)(E:Value->Shared->Prop)(st:(∃old,IsEnum s.heap e it i old)/\f i s.heap)(h:Q (.ref e) s):wpAny (model P w) A (pyIter (.ref e)) Q E s:=by
 obtain⟨⟨old,he⟩,_⟩:=st;exact wpAny_pyIter_enum he h
theorem Rk{e it:Addr}{h:Heap}{i:Nat}{o:Obj}(he:∃old,IsEnum h e it i old)(ho:h.get? it=some o)(hd:∃vs,o.data=.fields vs):∀b∈[e,it],∃o,h.get? b=some o/\∀v,o.data≠.cell v:=λb hb=>by
 rcases AAJ.mp hb with z|z
 ·subst z;obtain⟨old,he⟩:=he;exact⟨_,he,λv q=>by cases q⟩
 ·rw[AAL.mp z];obtain⟨vs,hd⟩:=hd;exact⟨o,ho,λv q=>by rw[hd] at q;cases q⟩
theorem MB{P:Program}{w:World}{K:PySem.W.Frag}{es:List Expr}{k0:Nat}{pos:Pos}(a e it:Addr)(xs:List V)(hei:e≠it)(hea:e≠a)(hai:a≠it):
  JC P w K (.Tuple es k0 pos) (ItP K xs.length (FS xs) λK H=>SqL K H a xs) [e,it] e (λi h=>(∃old,IsEnum h e it i old)/\h.IsListIter it a i):=
 Fr (ι:=List Value) (good:=λits=>Vals xs its) (Pt:=λits i vals=>∃t x,its.toArray[i]?=some x/\vals=#[.int i t,x]) (Sw:=λits i h=>(∃old,IsEnum h e it i old)/\h.IsListIter it a i/\h.IsList a its.toArray)
  (λA hA its r=>by
   have hl:xs.length=its.toArray.size:=by rw[List.size_toArray];exact r.length
   rw[hl];exact WalksT.enumerateD (Draws.list (show A.in1.handled=none from hA) it a hai its.toArray) e hei (by simp[hei,hea]) (by simp))
  (by simp) (λits i vals r h=>Ig r h) (λi=>(by show 2<=sizeLine;decide))
  (λi h st=>by obtain⟨o,ho,_,hd⟩:=st.2;exact Rk st.1 ho ⟨_,hd⟩)
  (λi h h' st k=>⟨by obtain⟨old,q⟩:=st.1;exact⟨old,k e (by simp) _ q⟩,st.2.at λo q=>k it (by simp) o q⟩)
  (λX pins σ H s i hP hw hK I hc st=>by
   subst hK;obtain⟨its,r,p,_⟩:=I.list hc;exact⟨its,r,st.1,st.2,p.isList⟩)
  (λz i h st=>⟨st.1,st.2.1⟩) (λA i s Q E st h=>Nn (f:=λi h=>h.IsListIter it a i) A i s Q E st h)
end L2
namespace L2
open PySem PySem.Spec PyProof.Rows
open AutoSeq1 (wpAny_loadPart')
section
variable{X:Cx}{es:List Expr}{k0:Nat}{tpos:Pos}
noncomputable def We(K:PySem.W.Frag)(ta:TA):TI:=λσ H R=>ta σ H λvs H1=>∃a xs,vs=[.ref a]/\SqL K H1 a xs/\R (ItP K xs.length (FS xs) λK H=>SqL K H a xs) H1
theorem Ji:bootBuiltins "enumerate" = some (.type "enumerate"):=by decide +kernel
theorem P4{pins:List (Addr×Obj)}{σ:St}{H:Hp}{s:Shared}(I:Inv X pins σ H s):∀b∈[s.heap.objs.size+1,s.heap.objs.size],FX X pins H b:=λb hb=>by
 have hb':b=s.heap.objs.size+1∨b=s.heap.objs.size:=by simpa using hb
 rcases hb' with e|e<;>subst e
 ·exact I.fpOk (Nat.le_succ _) (I.hok.fresh (Nat.le_succ _))
 ·exact I.fpOk (AAF _) (I.hok.fresh (AAF _))
theorem Qr{a:Expr}{ta:TA}{p pos:Pos}(hg:Gl X "enumerate")(hm:X.mg "enumerate" = none)(ha:PA X [a] ta)(hs:starEach [a] X.env=[(false,eval a X.env)]:=by rfl):PI X (.Tuple es k0 tpos) (.Call (.Name "enumerate" p) [a] [] pos) (We X.K ta):=by
 intro pins s σ H R I h;refine Call_ (Fz I hg hm Ji (PyProof.Rows.callWith_type1 (thn (ha pos pins s σ H _ I h) λus s1 ⟨vs,H1,I1,r1,q1⟩=>?_) hs rfl));obtain⟨l,xs,e,hq,q⟩:=q1;subst e;obtain⟨u,rfl,ru⟩:=G7 r1;cases ru;obtain⟨its,rv,pl,hz⟩:=I1.list hq;have hlt:l<s1.heap.objs.size:=by obtain⟨o,n,e,_⟩:=pl;exact Heap.lt_size e
 refine call_enumerate_list pl.isList λh' he hit hsz kk=>wpAny_pyIter_enum he ?_;exact⟨s1.heap.objs.size+1,[s1.heap.objs.size+1,s1.heap.objs.size],_,_,H1,rfl,I1.kept (t':=s1.toks) kk,MB l _ _ xs (Nat.succ_ne_self _) (Nat.ne_of_gt (AAg hlt)) (AAd hlt),⟨⟨_,he⟩,hit⟩,P4 I1,q⟩
end
end L2
namespace L2
open PySem PySem.Spec PyProof.Rows
def KGet(P:Params)(K:PySem.W.Frag)(a:Addr)(y:V)(r:Option V):Prop:=
 ∃x es n r',y=.str x/\K.lookup a=some ⟨.type "dict",none,.dict es n,#[]⟩/\PySem.W.KeysLit P es.toList/\PySem.W.nsIn K a x=some r'/\RelO r r'/\(a==sysModules)=false
section
variable{X:Cx}{pins:List (Addr×Obj)}{σ:St}{H:Hp}{s:Shared}{a:Addr}{y v:V}{u:Value}{o:Option V}{A:Around}{E:Value->Shared->Prop}
theorem KGet.typeIs(I:Inv X pins σ H s)(g:KGet X.w.params X.K a y o):s.TypeIs (.ref a) "dict" := by
 obtain⟨x,es,n,r',_,hl,_⟩:=g;exact⟨_,I.kIn a _ hl,rfl⟩
theorem Os{Q:Value->Shared->Prop}(I:Inv X pins σ H s)(g:KGet X.w.params X.K a y (some v))(ry:RelV y u)(h:∀w' s',Inv X pins σ H s'->RelV v w'->Q w' s'):
  wpAny (model X.prog X.w) A (getItem (.ref a) u) Q E s:=by
 obtain⟨x,es,n,r',e,hl,hk,hn,ro,_⟩:=g;subst e;obtain⟨t,rfl⟩:=ry;obtain⟨w',rfl,rw'⟩:=RelO.some_of ro;exact wpAny_getItem_of (strKind_is X.prog X.w x t) (PySem.W.mapOf_K (prog:=X.prog) (λa o q=>I.kIn a o q) hl hk) (PySem.W.find_K hl hn) (h w' _ (I.tok _) rw')
theorem ZH{Q:Value->Shared->Prop}(I:Inv X pins σ H s)(g:KGet X.w.params X.K a y o)(ry:RelV y u)(h:∀s',Inv X pins σ H s'->Q (.bool o.isSome) s'):
  wpAny (model X.prog X.w) A (compareOp .In u (.ref a)) Q E s:=by
 obtain⟨x,es,n,r',e,hl,hk,hn,ro,lo⟩:=g;subst e;obtain⟨t,rfl⟩:=ry;refine wpAny_in_of (strKind_is X.prog X.w x t) lo (PySem.W.mapOf_K (prog:=X.prog) (λa o q=>I.kIn a o q) hl hk) ?_;rw[PySem.W.find_K hl hn,←ro.isSome_eq];exact h _ (I.tok _)
end
noncomputable def XV(P:Params)(K:PySem.W.Frag)(td ty:TE):TE:=λσ H Q=>td σ H λx H1=>ty σ H1 λy H2=>∃a v,x=.ref a/\KGet P K a y (some v)/\Q v H2
noncomputable def XU(P:Params)(K:PySem.W.Frag)(ty td:TE):TE:=λσ H Q=>ty σ H λy H1=>td σ H1 λx H2=>∃a o,x=.ref a/\KGet P K a y o/\Q (.bl o.isSome) H2
section
variable{X:Cx}{o i:Expr}{pos:Pos}{td ty:TE}
theorem TU(ho:PE X o td)(hi:PE X i ty)(hs:W9 i):PE X (.Subscript o i pos) (XV X.w.params X.K td ty):=by
 intro pins s σ H Q I h;refine Se PySem.F.slot_dict_getitem.lookup hs (thn (ho pins s σ H _ I h) λu s1 ⟨x,H1,I1,rx,q1⟩=>thn (hi pins s1 σ H1 _ I1 q1) λiv s2 ⟨y,H2,I2,ry,a,v,ex,g,q2⟩=>?_);subst ex;obtain rfl:u=Value.ref a:=rx;exact⟨g.typeIs I2,Os I2 g ry λw' s3 I3 rw'=>⟨v,H2,I3,rw',q2⟩⟩
theorem Vq(hi:PE X i ty)(ho:PE X o td):PC X .In i o (XU X.w.params X.K ty td):=by
 intro pins s σ H Q I h;refine thn (hi pins s σ H _ I h) λiv s1 ⟨y,H1,I1,ry,q1⟩=>thn (ho pins s1 σ H1 _ I1 q1) λu s2 ⟨x,H2,I2,rx,a,ov,ex,g,q2⟩=>?_;subst ex;obtain rfl:u=Value.ref a:=rx;exact ZH I2 g ry λs3 I3=>⟨.bl ov.isSome,H2,I3,rfl,q2⟩
end
noncomputable def Y3(tv:TE):TE:=λσ H Q=>tv σ H λv H1=>(∃x,v=.str x/\x.length<=sizeLine/\Q (.str x) H1)∨∃a:Int,v=.int a/\a.natAbs.log2<1920/\Q (.str (toString a)) H1
noncomputable def M6:List TE->Str->TE
 |[],out=>λ_ H Q=>out.length<=sizeLine/\Q (.str out) H
 |t::r,out=>λσ H Q=>t σ H λv H1=>∃y,v=.str y/\(out++y).length<=sizeLine/\M6 r (out++y) σ H1 Q
def PJ(X:Cx)(es:List Expr)(ts:List TE):Prop:=
 ∀(out:Str) (pins:List (Addr×Obj)) (s:Shared) (σ:St) (H:Hp) (Q:VK),Inv X pins σ H s->M6 ts out σ H Q->wpAny (model X.prog X.w) X.A (joinParts out (evalEach es X.env)) (EP X pins σ Q) X.xe s
section
variable{X:Cx}{value e e2:Expr}{es:List Expr}{pos:Pos}{tv t t2:TE}{ts:List TE}
theorem Vo(hv:PE X value tv):PE X (.FormattedValue value (-1) none pos) (Y3 tv):=by
 intro pins s σ H Q I h;refine FormattedValue_plain (thn (hv pins s σ H _ I h) λu s1 ⟨v,H1,I1,r,q⟩=>?_);rcases q with ⟨x,e,hz,q⟩|⟨a,e,hz,q⟩
 ·subst e;obtain⟨t,rfl⟩:=r;exact formatField_str (λt' tk=>⟨.str x,H1,I1.tok _,⟨t',rfl⟩,q⟩) hz
 ·subst e;obtain⟨t,rfl⟩:=r;exact formatField_int_small hz ⟨.str (toString a),H1,I1.tok _,⟨_,rfl⟩,q⟩
theorem Vd:PJ X [] []:=λout pins s σ H Q I h=>joinParts_nil ⟨.str out,H,I.tok _,⟨_,rfl⟩,h.2⟩ h.1
theorem TQ(he:PE X e t)(hr:PJ X es ts):PJ X (e::es) (t::ts):=λout pins s σ H Q I h=>by
 show wpAny _ _ (joinParts out (eval e X.env::evalEach es X.env)) _ _ _;refine joinParts_cons (thn (he pins s σ H _ I h) λu s1 ⟨v,H1,I1,r,y,e,hz,q⟩=>?_);subst e;obtain⟨tk,rfl⟩:=r;exact⟨hz,hr _ pins s1 σ H1 Q I1 q⟩
theorem OV(h:PJ X (e::e2::es) (t::t2::ts)):PE X (.JoinedStr (e::e2::es) pos) (M6 (t::t2::ts) Str.empty):=λpins s σ H Q I q=>JoinedStr_many (h Str.empty pins s σ H Q I q)
end
end L2
namespace Nk
open PySem PySem.Spec PyProof.Rows
inductive NK where
 |int (i:Int)|tup (ks:List NK)
noncomputable instance:DecidableEq NK:=λ_ _=>Classical.propDecidable _
mutual
def NK.hash:NK->Int
 | .int i=>hashInt i
 | .tup ks=>reduceHash (Builtin.Tuple.tupleHashOf (NK.hashes ks))
def NK.hashes:List NK->List Int
 |[]=>[]
 |k::ks=>NK.hash k::NK.hashes ks
end
section
variable{prog:Program}{w:World}{A:Around}{E:Value->Shared->Prop}{s:Shared}
theorem hash_tup{a:Addr}{o:Obj}{items:Array Value}{n:Nat}{hs:List Int}{d:Nat}{Q:Int->Shared->Prop}(hu:A.units<cLine)(ho:s.heap.get? a=some o)(hc:o.cls=.type "tuple")(hd:o.data=.seq items n)
  (each:∀(P:Array Int->Shared->Prop),P hs.toArray { s with toks:=s.toks+d }->wpAny (model prog w) A.in1 (forIn items.toList (#[]:Array Int) λx r=>do let y ←pyHash x;pure (ForInStep.yield (r.push y))) P E s)
  (q:Q (reduceHash (Builtin.Tuple.tupleHashOf hs)) { s with toks:=s.toks+(d+1) }):wpAny (model prog w) A (pyHash (.ref a)) Q E s:=by
 have hT:s.TypeIs (.ref a) "tuple" := ⟨o,ho,hc⟩;show wpAny _ _ (pyHashByItsType (.ref a)) Q E s;unfold pyHashByItsType;refine AAA (wpAny_cRoomFor_or (.inr hu) (AAA (wpAny_specialOf hT PySem.F.slot_tuple_hash.lookup ?_)));rw[if_neg (by rw[beq_builtin_none];exact AAf)];refine AAA (wpAny_specialOf hT PySem.F.slot_tuple_hash.lookup ?_);show wpAny _ _ (callSpecialIfBoundUnlessNone? (.ref a) "__hash__" _ >>= _) Q E s;refine AAA (wpAny_callSpecialIfBoundUnlessNone?_slot hT PySem.F.slot_tuple_hash (AAc PySem.F.slot_tuple_hash hT PySem.F.entry_tuple_hash ?_ (PySem.F.args_tuple_hash_1 _)));show wpAny _ _ (Builtin.Tuple.tupleItemsOf (.ref a) >>= _) _ _ s;refine AAA (wpAny_tupleItemsOf ho hd (AAA ?_));rw[←Array.forIn_toList];refine each _ ?_;show wpAny _ _ (retInt (Builtin.Tuple.tupleHashOf hs.toArray.toList)) _ _ _;refine wpAny_ret_mkInt ?_;show wpAny _ _ (pyHashByItsType.reduced _) Q E _;unfold pyHashByItsType.reduced;unfold reduceHash at q;split
 ·rename_i hr;rw[if_pos hr] at q;exact AAB q
 ·rename_i hr;rw[if_neg hr] at q;exact AAA (wpAny_rule (AAB q))
end
end Nk
namespace Nk
open PySem PySem.Spec PyProof.Rows PySem.MeetsSeq PySem.SeqAt
noncomputable abbrev Cs:=Int×Int×List Int
noncomputable def csK(c:Cs):NK:=.tup [.int c.1,.int c.2.1,.tup (c.2.2.map NK.int)]
open L2 in
noncomputable def Ye(p:Addr)(l:List (Cs×Addr×V)):HO:=.ext λh=>∃(us:List Value) (o:Obj) (es:Array DictEntry) (ep:Nat),Vals (l.map (·.2.2)) us/\h.get? p=some o/\o.ExactDict/\o.data=.dict es ep /\
 es.toList=(l.zip us).map (λx=>{ key:=.ref x.1.2.1,hash:=(csK x.1.1).hash,val:=x.2 })/\(l.map (·.1)).Nodup/\l.length<=sizeLine/\(p==sysModules)=false
end Nk
namespace Mi
open PySem L2 Nk
inductive D where
 |non|bl (b:Bool)|int (i:Int)|str (x:Str)|ty (n:String)|scr (ns:List Int)|tup (xs:List D)|lst (xs:List D)|ref (n:Nat)
mutual
def EW:D->D->Bool
 | .non,.non=>true
 | .bl a,.bl b=>a==b
 | .int a,.int b=>a==b
 | .str a,.str b=>a==b
 | .ty a,.ty b=>a==b
 | .scr a,.scr b=>a==b
 | .tup a,.tup b=>Mj a b
 | .lst a,.lst b=>Mj a b
 | .ref a,.ref b=>a==b
 |_,_=>false
def Mj:List D->List D->Bool
 |[],[]=>true
 |a::as,b::bs=>EW a b&&Mj as bs
 |_,_=>false
end
mutual
theorem Ny:∀{a b:D},EW a b=true->a=b
 | .tup a,.tup b,h=>by unfold EW at h;rw[Kn h]
 | .lst a,.lst b,h=>by unfold EW at h;rw[Kn h]
 | .non,b,h=>by cases b<;>first|rfl|cases h
 | .bl a,b,h=>by cases b<;>first|(unfold EW at h;rw[eq_of_beq h])|cases h
 | .int a,b,h=>by cases b<;>first|(unfold EW at h;rw[eq_of_beq h])|cases h
 | .str a,b,h=>by cases b<;>first|(unfold EW at h;rw[eq_of_beq h])|cases h
 | .ty a,b,h=>by cases b<;>first|(unfold EW at h;rw[eq_of_beq h])|cases h
 | .scr a,b,h=>by cases b<;>first|(unfold EW at h;rw[eq_of_beq h])|cases h
 | .ref a,b,h=>by cases b<;>first|(unfold EW at h;rw[eq_of_beq h])|cases h
theorem Kn:∀{a b:List D},Mj a b=true->a=b
 |[],[],_=>rfl
 |a::as,b::bs,h=>by
  unfold Mj at h;rw[Bool.and_eq_true] at h;rw[Ny h.1,Kn h.2]
end
mutual
theorem Jn:∀a:D,EW a a=true
 | .tup a=>by unfold EW;exact G4 a
 | .lst a=>by unfold EW;exact G4 a
 | .non=>rfl
 | .bl a=>by unfold EW;exact beq_self_eq_true a
 | .int a=>by unfold EW;exact beq_self_eq_true a
 | .str a=>by unfold EW;exact beq_self_eq_true a
 | .ty a=>by unfold EW;exact beq_self_eq_true a
 | .scr a=>by unfold EW;exact beq_self_eq_true a
 | .ref a=>by unfold EW;exact beq_self_eq_true a
theorem G4:∀a:List D,Mj a a=true
 |[]=>rfl
 |a::as=>by unfold Mj;rw[Jn a,G4 as];rfl
end
instance:DecidableEq D:=λa b=>if h:EW a b=true then .isTrue (Ny h) else .isFalse λe=>h (by rw[e];exact Jn b)
inductive MO where
 |lst (xs:List D)|dK (kvs:List (Key×D))|dC (kvs:List (Cs×D))|ins (c:Str) (fs:List (Str×D))|dP (kvs:List (D×D))|exc (c:Str) (n:Option Nat)
abbrev Mh:=List MO
set_option genInjectivity false in
structure KW where
 fr:PySem.W.Frag
 w:World
instance:CoeOut KW PySem.W.Frag:=⟨KW.fr⟩
noncomputable abbrev _root_.L2.Cx.kw(X:Cx):KW:=⟨X.K,X.w⟩
noncomputable abbrev M(α:Type):=Mh->Option (α×Mh)
noncomputable abbrev Sl:=List (Option D)
noncomputable def ret{α:Type}(a:α):M α:=λμ=>some (a,μ)
noncomputable def bnd{α β:Type}(m:M α)(f:α->M β):M β:=λμ=>match m μ with
 |some (a,μ1)=>f a μ1
 |none=>none
noncomputable def BS{α:Type}:M α:=λ_=>none
theorem AJ{α β:Type}{m:M α}{f:α->M β}{μ:Mh}{r:β×Mh}(h:bnd m f μ=some r):∃a μ1,m μ=some (a,μ1)/\f a μ1=some r:=by
 unfold bnd at h;cases e:m μ with
 |none=>rw[e] at h;cases h
 |some p=>obtain⟨a,μ1⟩:=p;rw[e] at h;exact⟨a,μ1,rfl,h⟩
@[simp] theorem Yq{α β:Type}(a:α)(f:α->M β):bnd (ret a) f=f a:=rfl
theorem AM{α β:Type}{m:M α}{f:α->M β}{μ μ1:Mh}{a:α}(h:m μ=some (a,μ1)):bnd m f μ=f a μ1:=by unfold bnd;rw[h]
def ScrAt(K:PySem.W.Frag)(H:Hp)(a:Addr)(xs:List V):Prop:=
 (∃o,H a=some (.frz o (.lst xs)))∨∃(o:Obj) (its:Array Value) (n:Nat),K.lookup a=some o/\o.cls=.type "list" /\ o.dict=none/\o.data=.seq its n/\its.size<=sizeLine/\Vals xs its.toList
theorem ScrAt.sq{K:PySem.W.Frag}{H:Hp}{a:Addr}{xs:List V}(h:ScrAt K H a xs):SqL K H a xs:=h.elim (λz=>.inl (.inr z)) .inr
mutual
def Is(K:KW)(ι:Nat->Addr)(k:Nat)(H:Hp):D->V->Prop
 | .non,v=>v=.non
 | .bl b,v=>v=.bl b
 | .int i,v=>v=.int i
 | .str x,v=>v=.str x
 | .ty n,v=>v=.ty n
 | .scr ns,v=>∃p,v=.ref p/\ScrAt K H p (ns.map V.int)
 | .tup ds,v=>∃p vs,v=.ref p/\SqT K H p vs/\IsL K ι k H ds vs
 | .lst ds,v=>∃p vs,v=.ref p/\H p=some (.lst vs)/\(∀n,n<k->ι n≠p)/\IsL K ι k H ds vs
 | .ref n,v=>n<k/\v=.ref (ι n)
def IsL(K:KW)(ι:Nat->Addr)(k:Nat)(H:Hp):List D->List V->Prop
 |[],vs=>vs=[]
 |d::ds,vs=>∃v vs',vs=v::vs'/\Is K ι k H d v/\IsL K ι k H ds vs'
end
section
variable{K:KW}{ι ι' ι2:Nat->Addr}{k k' k2:Nat}{H H' H2:Hp}
theorem IsL.length:∀{ds:List D} {vs:List V},IsL K ι k H ds vs->vs.length=ds.length
 |[],_,h=>by unfold IsL at h;subst h;rfl
 |_::_,_,h=>by
  unfold IsL at h;obtain⟨v,vs',rfl,_,h⟩:=h;simp only[AAI,IsL.length h]
theorem IsL.get:∀{ds:List D} {vs:List V} {i:Nat} {d:D},IsL K ι k H ds vs->ds[i]?=some d->∃v,vs[i]?=some v/\Is K ι k H d v
 |[],_,_,_,_,e=>by simp at e
 |_::_,_,0,_,h,e=>by
  unfold IsL at h;obtain⟨v,vs',rfl,h1,_⟩:=h;simp at e;subst e;exact⟨v,rfl,h1⟩
 |_::_,_,i+1,d,h,e=>by
  unfold IsL at h;obtain⟨v,vs',rfl,_,h⟩:=h;obtain⟨u,e1,e2⟩:=IsL.get (i:=i) (d:=d) h (by simpa using e);exact⟨u,by simpa using e1,e2⟩
theorem IsL.append:∀{ds es:List D} {vs us:List V},IsL K ι k H ds vs->IsL K ι k H es us->IsL K ι k H (ds++es) (vs++us)
 |[],_,_,_,h,q=>by unfold IsL at h;subst h;exact q
 |_::_,_,_,_,h,q=>by
  unfold IsL at h;obtain⟨v,vs',rfl,h1,h⟩:=h;show IsL K ι k H (_::(_++_)) _;unfold IsL;exact⟨v,_,rfl,h1,IsL.append h q⟩
theorem IsL.take:∀(n:Nat) {ds:List D} {vs:List V},IsL K ι k H ds vs->IsL K ι k H (ds.take n) (vs.take n)
 |0,ds,vs,_=>by rw[List.take_zero,List.take_zero];unfold IsL;rfl
 |n+1,[],_,h=>by unfold IsL at h;subst h;simp only[List.take_nil];unfold IsL;rfl
 |n+1,_::_,_,h=>by
  unfold IsL at h;obtain⟨v,vs',rfl,h1,h⟩:=h;simp only[List.take_succ_cons];unfold IsL;exact⟨v,_,rfl,h1,IsL.take n h⟩
theorem IsL.drop:∀(n:Nat) {ds:List D} {vs:List V},IsL K ι k H ds vs->IsL K ι k H (ds.drop n) (vs.drop n)
 |0,_,_,h=>h
 |n+1,[],_,h=>by unfold IsL at h;subst h;simp only[List.drop_nil];unfold IsL;rfl
 |n+1,_::_,_,h=>by
  unfold IsL at h;obtain⟨v,vs',rfl,h1,h⟩:=h;simp only[List.drop_succ_cons];exact IsL.drop n h
theorem IsL.cons{d:D}{ds:List D}{v:V}{vs:List V}(h:Is K ι k H d v)(t:IsL K ι k H ds vs):IsL K ι k H (d::ds) (v::vs):=by
 unfold IsL;exact⟨v,vs,rfl,h,t⟩
theorem IsL.nil:IsL K ι k H [] []:=by unfold IsL;rfl
theorem IsL.one{d:D}{v:V}(h:Is K ι k H d v):IsL K ι k H [d] [v]:=.cons h .nil
theorem IsL.set{d:D}{v:V}(h1:Is K ι k H d v):∀{ds:List D} {vs:List V} (i:Nat),IsL K ι k H ds vs->IsL K ι k H (ds.set i d) (vs.set i v)
 |[],_,_,h=>by unfold IsL at h;subst h;exact .nil
 |_::_,_,0,h=>by
  unfold IsL at h;obtain⟨v,vs',rfl,_,h⟩:=h;exact .cons h1 h
 |_::_,_,i+1,h=>by
  unfold IsL at h;obtain⟨v,vs',rfl,h0,h⟩:=h;exact .cons h0 (IsL.set h1 i h)
theorem IsL.ofInts:∀(ns:List Int),IsL K ι k H (ns.map D.int) (ns.map V.int)
 |[]=>.nil
 |n::r=>.cons (by unfold Is;rfl) (IsL.ofInts r)
noncomputable def RP:HO->Bool
 | .lst _=>true
 | .dK _=>true
 | .ext _=>true
 | .ins _ _ _=>true
 |_=>false
def Muts(ι:Nat->Addr)(k:Nat)(H:Hp):Prop:=∀n,n<k->∃o,H (ι n)=some o/\RP o=true
structure Ext(ι:Nat->Addr)(k:Nat)(H:Hp)(ι':Nat->Addr)(k':Nat)(H':Hp):Prop where
 le:k<=k'
 agree:∀n,n<k->ι' n=ι n
 fresh:∀n,k<=n->n<k'->H (ι' n)=none
 keep:∀p o,H p=some o->(∀n,n<k->ι n≠p)->H' p=some o
 was:Muts ι k H
 there:Muts ι k H'
theorem Ext.refl(h:Muts ι k H):Ext ι k H ι k H:=⟨AAF _,λ_ _=>rfl,λn h1 h2=>absurd h1 (by omega),λ_ _ e _=>e,h,h⟩
theorem Ext.trans(a:Ext ι k H ι' k' H')(b:Ext ι' k' H' ι2 k2 H2):Ext ι k H ι2 k2 H2 where
 le:=AAr a.le b.le
 agree:=λn h=>(b.agree n (AAN h a.le)).trans (a.agree n h)
 fresh:=λn h1 h2=>by
  rcases Nat.lt_or_ge n k' with z|z
  ·rw[b.agree n z];exact a.fresh n h1 z
  ·have q:=b.fresh n z h2;cases e:H (ι2 n) with
   |none=>rfl
   |some o=>
    by_cases hx:∃m,m<k/\ι m=ι2 n
    ·obtain⟨m,hm,e2⟩:=hx;obtain⟨o',q',_⟩:=a.there m hm;rw[e2,q] at q';cases q'
    ·have:=a.keep _ o e (λm hm e2=>hx ⟨m,hm,e2⟩);rw[q] at this;cases this
 keep:=λp o e hn=>b.keep p o (a.keep p o e hn) (λn hlt e2=>by
  rcases Nat.lt_or_ge n k with z|z
  ·rw[a.agree n z] at e2;exact hn n z e2
  ·have:=a.fresh n z hlt;rw[e2,e] at this;cases this)
 was:=a.was
 there:=λn h=>by
  have:=b.there n (AAN h a.le);rw[a.agree n h] at this;exact this
theorem Ext.out(a:Ext ι k H ι' k' H'){p:Addr}{o:HO}(e:H p=some o)(hn:∀n,n<k->ι n≠p):∀n,n<k'->ι' n≠p:=λn h e2=>by
 rcases Nat.lt_or_ge n k with z|z
 ·rw[a.agree n z] at e2;exact hn n z e2
 ·have:=a.fresh n z h;rw[e2,e] at this;cases this
theorem Muts.ne(a:Muts ι k H){p:Addr}{o:HO}(e:H p=some o)(hm:RP o=false):∀n,n<k->ι n≠p:=λn hn e2=>by
 obtain⟨o',q,h⟩:=a n hn;rw[e2,e] at q;cases q;rw[hm] at h;cases h
theorem GA{p:Addr}{vs:List V}(a:Ext ι k H ι' k' H')(h:SqT K H p vs):SqT K H' p vs:=by
 rcases h with h|h
 ·rcases h with h|⟨o,h⟩
  ·exact .inl (.inl (a.keep p _ h (a.was.ne h rfl)))
  ·exact .inl (.inr ⟨o,a.keep p _ h (a.was.ne h rfl)⟩)
 ·exact .inr h
theorem KA{p:Addr}{vs:List V}(a:Ext ι k H ι' k' H')(h:ScrAt K H p vs):ScrAt K H' p vs:=by
 rcases h with ⟨o,h⟩|h
 ·exact .inl ⟨o,a.keep p _ h (a.was.ne h rfl)⟩
 ·exact .inr h
mutual
theorem Is.ext(a:Ext ι k H ι' k' H'):∀{d:D} {v:V},Is K ι k H d v->Is K ι' k' H' d v
 | .non,_,h=>by unfold Is at h ⊢;exact h
 | .bl _,_,h=>by unfold Is at h ⊢;exact h
 | .int _,_,h=>by unfold Is at h ⊢;exact h
 | .str _,_,h=>by unfold Is at h ⊢;exact h
 | .ty _,_,h=>by unfold Is at h ⊢;exact h
 | .scr ns,_,h=>by
  unfold Is at h ⊢;obtain⟨p,rfl,h⟩:=h;exact⟨p,rfl,KA a h⟩
 | .tup ds,_,h=>by
  unfold Is at h ⊢;obtain⟨p,vs,rfl,h1,h2⟩:=h;exact⟨p,vs,rfl,GA a h1,IsL.ext a h2⟩
 | .lst ds,_,h=>by
  unfold Is at h ⊢;obtain⟨p,vs,rfl,h1,hn,h2⟩:=h;exact⟨p,vs,rfl,a.keep p _ h1 hn,a.out h1 hn,IsL.ext a h2⟩
 | .ref n,_,h=>by
  unfold Is at h ⊢;obtain⟨h,rfl⟩:=h;exact⟨AAN h a.le,by rw[a.agree n h]⟩
theorem IsL.ext(a:Ext ι k H ι' k' H'):∀{ds:List D} {vs:List V},IsL K ι k H ds vs->IsL K ι' k' H' ds vs
 |[],_,h=>by unfold IsL at h ⊢;exact h
 |_::_,_,h=>by
  unfold IsL at h ⊢;obtain⟨v,vs',rfl,h1,h2⟩:=h;exact⟨v,vs',rfl,Is.ext a h1,IsL.ext a h2⟩
end
noncomputable def KVs(K:KW)(ι:Nat->Addr)(k:Nat)(H:Hp):List (Key×D)->List (Key×V)->Prop
 |[],r=>r=[]
 |(y,d)::l,r=>∃v r',r=(y,v)::r'/\Is K ι k H d v/\KVs K ι k H l r'
theorem KVs.ext(a:Ext ι k H ι' k' H'):∀{l:List (Key×D)} {r:List (Key×V)},KVs K ι k H l r->KVs K ι' k' H' l r
 |[],_,h=>h
 |(_,_)::_,_,h=>by
  obtain⟨v,r',rfl,h1,h2⟩:=h;exact⟨v,r',rfl,h1.ext a,h2.ext a⟩
noncomputable def csD(c:Cs):D:=.tup [.int c.1,.int c.2.1,.tup (c.2.2.map D.int)]
noncomputable def CVs(K:KW)(ι:Nat->Addr)(k:Nat)(H:Hp):List (Cs×D)->List (Cs×Addr×V)->Prop
 |[],r=>r=[]
 |(y,d)::l,r=>∃a v r',r=(y,a,v)::r'/\Is K ι k H (csD y) (.ref a)/\Is K ι k H d v/\CVs K ι k H l r'
theorem CVs.ext(a:Ext ι k H ι' k' H'):∀{l:List (Cs×D)} {r:List (Cs×Addr×V)},CVs K ι k H l r->CVs K ι' k' H' l r
 |[],_,h=>h
 |(_,_)::_,_,h=>by
  obtain⟨b,v,r',rfl,h1,h2,h3⟩:=h;exact⟨b,v,r',rfl,h1.ext a,h2.ext a,h3.ext a⟩
noncomputable def FVs(K:KW)(ι:Nat->Addr)(k:Nat)(H:Hp):List (Str×D)->List (Str×V)->Prop
 |[],r=>r=[]
 |(y,d)::l,r=>∃v r',r=(y,v)::r'/\Is K ι k H d v/\FVs K ι k H l r'
theorem FVs.ext(a:Ext ι k H ι' k' H'):∀{l:List (Str×D)} {r:List (Str×V)},FVs K ι k H l r->FVs K ι' k' H' l r
 |[],_,h=>h
 |(_,_)::_,_,h=>by
  obtain⟨v,r',rfl,h1,h2⟩:=h;exact⟨v,r',rfl,h1.ext a,h2.ext a⟩
mutual
def hD(w:World):D->Int
 | .int i=>hashInt i
 | .str x=>hashStr w x
 | .tup ks=>reduceHash (Builtin.Tuple.tupleHashOf (hDs w ks))
 |_=>0xFCA86420
def hDs(w:World):List D->List Int
 |[]=>[]
 |k::ks=>hD w k::hDs w ks
end
noncomputable def Yd(w:World)(p:Addr)(l:List (D×Addr×V)):HO:=.ext λh=>∃(us:List Value) (o:Obj) (es:Array DictEntry) (ep:Nat),Vals (l.map (·.2.2)) us/\h.get? p=some o/\o.ExactDict/\o.data=.dict es ep /\
 es.toList=(l.zip us).map (λx=>{ key:=.ref x.1.2.1,hash:=hD w x.1.1,val:=x.2 })/\(l.map (·.1)).Nodup/\l.length<=sizeLine/\(p==sysModules)=false
mutual
def Kz:D->Bool
 | .non=>true
 | .int _=>true
 | .str _=>true
 | .tup ds=>KzL ds
 |_=>false
def KzL:List D->Bool
 |[]=>true
 |d::ds=>Kz d&&KzL ds
end
mutual
def Kj:D->Nat
 | .tup ks=>EC ks+1
 |_=>0
def EC:List D->Nat
 |[]=>0
 |k::ks=>max (Kj k) (EC ks)
end
noncomputable def PVs(K:KW)(ι:Nat->Addr)(k:Nat)(H:Hp):List (D×D)->List (D×Addr×V)->Prop
 |[],r=>r=[]
 |(y,d)::l,r=>∃a v r',r=(y,a,v)::r'/\(Kz y=true/\Kj y<=8/\Is K ι k H y (.ref a))/\Is K ι k H d v/\PVs K ι k H l r'
theorem PVs.ext(a:Ext ι k H ι' k' H'):∀{l:List (D×D)} {r:List (D×Addr×V)},PVs K ι k H l r->PVs K ι' k' H' l r
 |[],_,h=>h
 |(_,_)::_,_,h=>by
  obtain⟨b,v,r',rfl,h1,h2,h3⟩:=h;exact⟨b,v,r',rfl,⟨h1.1,h1.2.1,h1.2.2.ext a⟩,h2.ext a,h3.ext a⟩
def BK(K:PySem.W.Frag)(c:Str)(C:Addr):Prop:=PySem.W.nsIn K mainGlobals c=some (some (.ref C))
noncomputable def Wh(p C:Addr)(dx:Option Addr):HO:=.ext λh=>∃oe vs,h.get? p=some oe/\oe.cls=.ref C/\oe.dict=dx/\oe.data=.fields vs
def UW(H:Hp)(n:Option Nat)(dx:Option Addr):Prop:=match n with
 |none=>dx=none
 |some i=>∃d,dx=some d/\H d=some (.xd [("at",.int (i:Int))])
noncomputable def ObjIs(K:KW)(ι:Nat->Addr)(k:Nat)(H:Hp)(p:Addr):MO->HO->Prop
 | .lst ds,o=>∃vs,o=.lst vs/\IsL K ι k H ds vs
 | .dK l,o=>∃r,o=.dK r/\KVs K ι k H l r
 | .dC l,o=>∃r,o=Ye p r/\CVs K ι k H l r
 | .ins c l,o=>∃C dx r,o=.ins C dx r/\BK K c C/\H dx=some (.own p)/\FVs K ι k H l r
 | .dP l,o=>∃r,o=Yd K.w p r/\PVs K ι k H l r
 | .exc c n,o=>∃C dx,o=Wh p C dx/\BK K c C/\UW H n dx
structure RelH(K:KW)(ι:Nat->Addr)(μ:Mh)(H:Hp):Prop where
 inj:∀i j,i<μ.length->j<μ.length->ι i=ι j->i=j
 obj:∀n o,μ[n]?=some o->∃u,H (ι n)=some u/\ObjIs K ι μ.length H (ι n) o u
theorem ObjIs.mut{p:Addr}{o:MO}{u:HO}(h:ObjIs K ι k H p o u):RP u=true:=by
 cases o with
 |lst ds=>obtain⟨vs,rfl,_⟩:=h;rfl
 |dK l=>obtain⟨r,rfl,_⟩:=h;rfl
 |dC l=>obtain⟨r,rfl,_⟩:=h;rfl
 |ins c l=>obtain⟨C,dx,r,rfl,_⟩:=h;rfl
 |dP l=>obtain⟨r,rfl,_⟩:=h;rfl
 |exc c n=>obtain⟨C,dx,rfl,_⟩:=h;rfl
theorem ObjIs.ext(a:Ext ι k H ι' k' H'){p:Addr}{o:MO}{u:HO}(h:ObjIs K ι k H p o u):ObjIs K ι' k' H' p o u:=by
 cases o with
 |lst ds=>obtain⟨vs,rfl,h⟩:=h;exact⟨vs,rfl,h.ext a⟩
 |dK l=>obtain⟨r,rfl,h⟩:=h;exact⟨r,rfl,h.ext a⟩
 |dC l=>obtain⟨r,rfl,h⟩:=h;exact⟨r,rfl,h.ext a⟩
 |ins c l=>obtain⟨C,dx,r,rfl,h0,h1,h⟩:=h;exact⟨C,dx,r,rfl,h0,a.keep dx _ h1 (a.was.ne h1 rfl),h.ext a⟩
 |dP l=>obtain⟨r,rfl,h⟩:=h;exact⟨r,rfl,h.ext a⟩
 |exc c n=>
  obtain⟨C,dx,rfl,h0,h1⟩:=h;refine⟨C,dx,rfl,h0,?_⟩;cases n with
  |none=>exact h1
  |some i=>
   obtain⟨d,e,q⟩:=h1;exact⟨d,e,a.keep d _ q (a.was.ne q rfl)⟩
theorem RelH.muts{μ:Mh}(r:RelH K ι μ H):Muts ι μ.length H:=λn hn=>by
 obtain⟨u,e,h⟩:=r.obj n μ[n] (by simp[hn]);exact⟨u,e,h.mut⟩
theorem RelH.ext0{μ:Mh}(r:RelH K ι μ H):Ext ι μ.length H ι μ.length H:=Ext.refl r.muts
theorem RelH.laid{μ:Mh}(r:RelH K ι μ H){p:Addr}(o:HO)(hp:H p=none):Ext ι μ.length H ι μ.length (upd H p o)/\RelH K ι μ (upd H p o):=by
 have kp:∀q u,H q=some u->upd H p o q=some u:=λq u e=>by rw[An (BM e hp)];exact e
 have a:Ext ι μ.length H ι μ.length (upd H p o):=⟨AAF _,λ_ _=>rfl,λn h1 h2=>absurd h1 (by omega),λq u e _=>kp q u e,r.muts,λn hn=>by
  obtain⟨u,e,h⟩:=r.muts n hn;exact⟨u,kp _ _ e,h⟩⟩
 refine⟨a,r.inj,λn o' e=>?_⟩;obtain⟨u,e1,h⟩:=r.obj n o' e;exact⟨u,kp _ _ e1,h.ext a⟩
theorem RelH.grown{μ:Mh}(r:RelH K ι μ H){p:Addr}{o:HO}{m:MO}(hp:H p=none)(h:ObjIs K ι μ.length H p m o):
  ∃ι',Ext ι μ.length H ι' (μ++[m]).length (upd H p o)/\RelH K ι' (μ++[m]) (upd H p o)/\ι' μ.length=p:=by
 have kp:∀q u,H q=some u->upd H p o q=some u:=λq u e=>by rw[An (BM e hp)];exact e
 let ι':Nat->Addr:=λn=>if n=μ.length then p else ι n
 have e0:ι' μ.length=p:=if_pos rfl;have e1:∀n,n<μ.length->ι' n=ι n:=λn hn=>if_neg (by omega);have a:Ext ι μ.length H ι' (μ++[m]).length (upd H p o):=⟨by simp,e1,λn h1 h2=>by
   have:n=μ.length:=by simp at h2;omega
   rw[this,e0];exact hp,λq u e _=>kp q u e,r.muts,λn hn=>by
  obtain⟨u,e,h⟩:=r.muts n hn;exact⟨u,kp _ _ e,h⟩⟩
 refine⟨ι',a,⟨λi j hi hj e=>?_,λn o' e=>?_⟩,e0⟩
 ·simp at hi hj;have old:∀i,i<μ.length->ι' i≠p:=λi hi e=>by
   obtain⟨u,q,_⟩:=r.muts i hi;rw[←e1 i hi,e,hp] at q;cases q
  rcases Nat.lt_or_ge i μ.length with zi|zi<;>rcases Nat.lt_or_ge j μ.length with zj|zj
  ·rw[e1 i zi,e1 j zj] at e;exact r.inj i j zi zj e
  ·have:j=μ.length:=by omega
   subst this;rw[e0] at e;exact absurd e (old i zi)
  ·have:i=μ.length:=by omega
   subst this;rw[e0] at e;exact absurd e.symm (old j zj)
  ·omega
 ·rcases Nat.lt_or_ge n μ.length with z|z
  ·rw[AAT z] at e;obtain⟨u,q,hq⟩:=r.obj n o' e;exact⟨u,by rw[e1 n z];exact kp _ _ q,by rw[e1 n z];exact hq.ext a⟩
  ·have hn:n=μ.length:=by
    have:=(AAU.mp e).1;simp at this;omega
   subst hn;rw[AAS (AAF _),Nat.sub_self] at e;simp at e;subst e;exact⟨o,by rw[e0,BU],by rw[e0];exact h.ext a⟩
theorem RelH.changed{μ:Mh}(r:RelH K ι μ H){n:Nat}{o:HO}{m:MO}(hn:n<μ.length)(h:ObjIs K ι μ.length H (ι n) m o):
  Ext ι μ.length H ι (μ.set n m).length (upd H (ι n) o)/\RelH K ι (μ.set n m) (upd H (ι n) o):=by
 have ne:∀i,i<μ.length->i≠n->ι i≠ι n:=λi hi hne e=>hne (r.inj i n hi hn e);have a:Ext ι μ.length H ι (μ.set n m).length (upd H (ι n) o):=⟨by simp,λ_ _=>rfl,λi h1 h2=>by simp at h2;omega,λq u e hq=>by rw[An (λz=>hq n hn z.symm)];exact e,r.muts,λi hi=>by
  by_cases z:i=n
  ·subst z;exact⟨o,BU,h.mut⟩
  ·obtain⟨u,e,hu⟩:=r.muts i hi;exact⟨u,by rw[An (ne i hi z)];exact e,hu⟩⟩
 refine⟨a,λi j hi hj=>r.inj i j (by simpa using hi) (by simpa using hj),λi o' e=>?_⟩;by_cases z:i=n
 ·subst z;rw[List.getElem?_set_self hn] at e;cases e;exact⟨o,BU,h.ext a⟩
 ·rw[AAm (Ne.symm z)] at e;have hi:i<μ.length:=(AAU.mp e).1;obtain⟨u,q,hq⟩:=r.obj i o' e;exact⟨u,by rw[An (ne i hi z)];exact q,hq.ext a⟩
structure RelS(K:KW)(ι:Nat->Addr)(k:Nat)(H:Hp)(τ:Sl)(σ:St):Prop where
 len:σ.length=τ.length
 get:∀(i:Nat) (d:D),τ[i]?=some (some d)->∃v,σ[i]?=some (some v)/\Is K ι k H d v
theorem RelS.ext{τ:Sl}{σ:St}(a:Ext ι k H ι' k' H')(r:RelS K ι k H τ σ):RelS K ι' k' H' τ σ:=⟨r.len,λi d e=>by
 obtain⟨v,e1,h⟩:=r.get i d e;exact⟨v,e1,h.ext a⟩⟩
theorem RelS.set{τ:Sl}{σ:St}(r:RelS K ι k H τ σ){d:D}{v:V}(i:Nat)(h:Is K ι k H d v):RelS K ι k H (τ.set i (some d)) (σ.set i (some v)):=⟨by simp[r.len],λj e q=>by
 by_cases z:i=j
 ·subst z;have hi:i<τ.length:=by
   have:=(AAU.mp q).1;simpa using this
  rw[List.getElem?_set_self hi] at q;cases q;exact⟨v,List.getElem?_set_self (by rw[r.len];exact hi),h⟩
 ·rw[AAm z] at q;obtain⟨u,e1,hu⟩:=r.get j e q;exact⟨u,by rw[AAm z];exact e1,hu⟩⟩
end
end Mi
namespace Mi
open PySem L2
noncomputable abbrev Exn:=Str×Option Nat
inductive Fl where
 |next|brk|cont|rt (d:D)|xc (x:Exn)
abbrev Aft(K:KW)(ι:Nat->Addr)(μ:Mh)(H:Hp)(μ':Mh)(φ:(Nat->Addr)->Hp->Prop):Prop:=
 ∀ι' H',Ext ι μ.length H ι' μ'.length H'->RelH K ι' μ' H'->φ ι' H'
noncomputable def tE(K:KW)(m:Sl->M D):TE:=λσ H Q=>∃ι μ τ d μ',RelH K ι μ H/\RelS K ι μ.length H τ σ/\m τ μ=some (d,μ') /\
 Aft K ι μ H μ' λι' H'=>∀v,Is K ι' μ'.length H' d v->Q v H'
noncomputable def tT(K:KW)(m:Sl->M Bool):TT:=λσ H Q=>∃ι μ τ b μ',RelH K ι μ H/\RelS K ι μ.length H τ σ/\m τ μ=some (b,μ') /\
 Aft K ι μ H μ' λ_ H'=>Q b H'
noncomputable def tL(K:KW)(m:Sl->M (List D)):TA:=λσ H Q=>∃ι μ τ ds μ',RelH K ι μ H/\RelS K ι μ.length H τ σ/\m τ μ=some (ds,μ') /\
 Aft K ι μ H μ' λι' H'=>∀vs,IsL K ι' μ'.length H' ds vs->Q vs H'
noncomputable def FlP(K:KW)(Dn:Iw)(ι':Nat->Addr)(k:Nat)(H':Hp)(τ':Sl)(σ':St):Fl->Prop
 | .next=>Dn.nx σ' H'
 | .brk=>Dn.bk σ' H'
 | .cont=>Dn.ct σ' H'
 | .rt d=>∀v,Is K ι' k H' d v->Dn.rt v H'
 | .xc _=>False
noncomputable def tSt(K:KW)(m:Sl->M (Fl×Sl)):TS:=λDn σ H=>∃ι μ τ f τ' μ',RelH K ι μ H/\RelS K ι μ.length H τ σ/\m τ μ=some ((f,τ'),μ') /\
 Aft K ι μ H μ' λι' H'=>∀σ',RelS K ι' μ'.length H' τ' σ'->FlP K Dn ι' μ'.length H' τ' σ' f
structure RE(X:Cx)(e:Expr)(m:Sl->M D):Prop where
 pe:PE X e (tE X.kw m)
structure RT(X:Cx)(e:Expr)(m:Sl->M Bool):Prop where
 pe:PT X e (tT X.kw m)
structure RW(X:Cx)(e:Expr)(m:Sl->M Bool):Prop where
 pe:PW X e (tT X.kw m)
structure RA(X:Cx)(es:List Expr)(m:Sl->M (List D)):Prop where
 pe:PA X es (tL X.kw m)
structure RS(X:Cx)(st:Stmt)(m:Sl->M (Fl×Sl)):Prop where
 pe:PS X st (tSt X.kw m)
structure RSs(X:Cx)(st:List Stmt)(m:Sl->M (Fl×Sl)):Prop where
 pe:PSs X st (tSt X.kw m)
section
variable{X:Cx}{e a b c:Expr}{es:List Expr}{pos:Pos}
theorem PE.wk{t t':TE}(h:PE X e t)(w:∀σ H Q,t' σ H Q->t σ H Q):PE X e t':=λpins s σ H Q I q=>h pins s σ H Q I (w σ H Q q)
theorem RE.wk{m:Sl->M D}{t:TE}(h:PE X e t)(w:∀σ H Q,tE X.kw m σ H Q->t σ H Q):RE X e m:=⟨PE.wk h w⟩
theorem PT.wk{t t':TT}(h:PT X e t)(w:∀σ H Q,t' σ H Q->t σ H Q):PT X e t':=λpins s σ H Q I q=>h pins s σ H Q I (w σ H Q q)
theorem RT.wk{m:Sl->M Bool}{t:TT}(h:PT X e t)(w:∀σ H Q,tT X.kw m σ H Q->t σ H Q):RT X e m:=⟨PT.wk h w⟩
theorem PW.wk{t t':TT}(h:PW X e t)(w:∀σ H Q,t' σ H Q->t σ H Q):PW X e t':=λwh pins s σ H Q I q=>h wh pins s σ H Q I (w σ H Q q)
theorem RW.wk{m:Sl->M Bool}{t:TT}(h:PW X e t)(w:∀σ H Q,tT X.kw m σ H Q->t σ H Q):RW X e m:=⟨PW.wk h w⟩
theorem PA.wk{t t':TA}(h:PA X es t)(w:∀σ H Q,t' σ H Q->t σ H Q):PA X es t':=λp pins s σ H Q I q=>h p pins s σ H Q I (w σ H Q q)
theorem RA.wk{m:Sl->M (List D)}{t:TA}(h:PA X es t)(w:∀σ H Q,tL X.kw m σ H Q->t σ H Q):RA X es m:=⟨PA.wk h w⟩
theorem PS.wk{st:Stmt}{t t':TS}(h:PS X st t)(w:∀D σ H,t' D σ H->t D σ H):PS X st t':=λpins s σ H D I q=>h pins s σ H D I (w D σ H q)
theorem RS.wk{m:Sl->M (Fl×Sl)}{st:Stmt}{t:TS}(h:PS X st t)(w:∀D σ H,tSt X.kw m D σ H->t D σ H):RS X st m:=⟨PS.wk h w⟩
theorem PSs.wk{st:List Stmt}{t t':TS}(h:PSs X st t)(w:∀D σ H,t' D σ H->t D σ H):PSs X st t':=λpins s σ H D I q=>h pins s σ H D I (w D σ H q)
theorem RSs.wk{m:Sl->M (Fl×Sl)}{st:List Stmt}{t:TS}(h:PSs X st t)(w:∀D σ H,tSt X.kw m D σ H->t D σ H):RSs X st m:=⟨PSs.wk h w⟩
theorem OpR.wk{f:Value->Value->Sem Value}{r r':R2}(h:OpR X f r)(w:∀x y H Q,r' x y H Q->r x y H Q):OpR X f r':=λpins s σ H x y v u Q I rx ry q=>h pins s σ H x y v u Q I rx ry (w x y H Q q)
noncomputable def KY:Expr->Bool
 | .Starred _ _=>true
 |_=>false
theorem Av{e:Expr}{es:List Expr}{env:Env}(h:KY e=false):starEach (e::es) env=(false,eval e env)::starEach es env:=by
 cases e<;>first|rfl|cases h
theorem BB{pos:Pos}{env:Env}:∀{es:List Expr},(es.all λe=>!KY e)=true->(backTo pos (starEach es env)).any (·.1)=false
 |[],_=>rfl
 |e::es,h=>by
  rw[List.all_cons,Bool.and_eq_true] at h;have h1:KY e=false:=by simpa using h.1
  have ih:=BB (pos:=pos) (env:=env) h.2;rw[Av h1];unfold backTo at ih ⊢;simpa using ih
noncomputable def AD(i:Nat):Sl->M D:=λτ μ=>match τ[i]? with
 |some (some d)=>some (d,μ)
 |_=>none
noncomputable def mC(d:D):Sl->M D:=λ_=>ret d
theorem AC(i:Nat){x:Str}(hN:X.N[i]?=some x:=by rfl)(hv:Vis X.env.scope x:=by first|exact Or.inl rfl|exact Or.inr (Or.inl rfl)|exact Or.inr (Or.inr rfl))(hd:(x==("__debug__" : Str))=false:=by decide)
  (hcd:(x==("__classdict__" : Str))=false:=by decide):RE X (.Name x pos) (AD i):=RE.wk (Vi hN hv hd hcd) λσ H Q h=>by
 obtain⟨ι,μ,τ,d,μ',R,S,e,q⟩:=h;unfold AD at e;split at e
 ·rename_i d' ed;cases e;obtain⟨v,e1,h1⟩:=S.get i _ ed;exact⟨v,e1,q ι H R.ext0 R v h1⟩
 ·cases e
theorem ON{t:TE}{d:D}{v:V}(h:PE X e (tC v))(hd:∀ι k H,Is X.kw ι k H d v):RE X e (mC d):=RE.wk h λσ H Q h=>by
 obtain⟨ι,μ,τ,d,μ',R,S,e,q⟩:=h;cases e;exact q ι H R.ext0 R v (hd _ _ _)
theorem AG{i j}:RE X (.Constant (.int i) j pos) (mC (.int i)):=ON (t:=λ_ _ _=>True) Vn λ_ _ _=>by unfold Is;rfl
theorem FI{i j}:RE X (.Constant (.bool i) j pos) (mC (.bl i)):=ON (t:=λ_ _ _=>True) Xx λ_ _ _=>by unfold Is;rfl
theorem DT{j}:RE X (.Constant .none j pos) (mC .non):=ON (t:=λ_ _ _=>True) Vm λ_ _ _=>by unfold Is;rfl
theorem AL{i j}:RE X (.Constant (.str i) j pos) (mC (.str i)):=ON (t:=λ_ _ _=>True) Vj λ_ _ _=>by unfold Is;rfl
theorem Sr{x:Str}{v:V}{u:Value}{d:D}(hm:X.mg x=some u)(r:RelV v u)(hd:∀ι k H,Is X.kw ι k H d v)(hg:Gl X x:=by rfl)(hdb:(x==("__debug__" : Str))=false:=by decide):RE X (.Name x pos) (mC d):=
 ON (t:=λ_ _ _=>True) (GJ hg hm r hdb) hd
noncomputable def mOp(g:D->D->M D)(ma mb:Sl->M D):Sl->M D:=λτ=>bnd (ma τ) λx=>bnd (mb τ) λy=>g x y
noncomputable def mUn(g:D->M D)(ma:Sl->M D):Sl->M D:=λτ=>bnd (ma τ) g
noncomputable def rM(K:KW)(g:D->D->M D):R2:=λx y H Q=>∃ι μ a b d μ',RelH K ι μ H/\Is K ι μ.length H a x/\Is K ι μ.length H b y/\g a b μ=some (d,μ') /\
 Aft K ι μ H μ' λι' H'=>∀v,Is K ι' μ'.length H' d v->Q v H'
noncomputable def rM1(K:KW)(g:D->M D):V->Hp->VK->Prop:=λx H Q=>∃ι μ a d μ',RelH K ι μ H/\Is K ι μ.length H a x/\g a μ=some (d,μ') /\
 Aft K ι μ H μ' λι' H'=>∀v,Is K ι' μ'.length H' d v->Q v H'
noncomputable def rMA(K:KW)(g:List D->M D):List V->Hp->VK->Prop:=λxs H Q=>∃ι μ as d μ',RelH K ι μ H/\IsL K ι μ.length H as xs/\g as μ=some (d,μ') /\
 Aft K ι μ H μ' λι' H'=>∀v,Is K ι' μ'.length H' d v->Q v H'
theorem M8{K:KW}{g:D->D->M D}{ma mb:Sl->M D}{σ:St}{H:Hp}{Q:VK}(h:tE K (mOp g ma mb) σ H Q):tOp (rM K g) (tE K ma) (tE K mb) σ H Q:=by
 obtain⟨ι,μ,τ,d,μ',R,S,e,q⟩:=h;obtain⟨x,μ1,e1,e⟩:=AJ e;obtain⟨y,μ2,e2,e3⟩:=AJ e;refine⟨ι,μ,τ,x,μ1,R,S,e1,λι1 H1 E1 R1 v1 i1=>?_⟩;refine⟨ι1,μ1,τ,y,μ2,R1,S.ext E1,e2,λι2 H2 E2 R2 v2 i2=>?_⟩;exact⟨ι2,μ2,x,y,d,μ',R2,i1.ext E2,i2,e3,λι3 H3 E3 R3 v3 i3=>q ι3 H3 ((E1.trans E2).trans E3) R3 v3 i3⟩
theorem XX{K:KW}{g:D->M D}{ma:Sl->M D}{σ:St}{H:Hp}{Q:VK}(h:tE K (mUn g ma) σ H Q):tUn (rM1 K g) (tE K ma) σ H Q:=by
 obtain⟨ι,μ,τ,d,μ',R,S,e,q⟩:=h;obtain⟨x,μ1,e1,e⟩:=AJ e;refine⟨ι,μ,τ,x,μ1,R,S,e1,λι1 H1 E1 R1 v1 i1=>?_⟩;exact⟨ι1,μ1,x,d,μ',R1,i1,e,λι3 H3 E3 R3 v3 i3=>q ι3 H3 (E1.trans E3) R3 v3 i3⟩
theorem AW{op:Operator}{g:D->D->M D}{ma mb:Sl->M D}(ho:OpR X (binaryOp op) (rM X.kw g))(ha:RE X a ma)(hb:RE X b mb):RE X (.BinOp a op b pos) (mOp g ma mb):=RE.wk (Xu ho ha.pe hb.pe) λ_ _ _ h=>M8 h
theorem Qb{op:UnaryOp}{g:D->M D}{ma:Sl->M D}(ho:UnR X (unaryOp op) (rM1 X.kw g))(ha:RE X a ma):RE X (.UnaryOp op a pos) (mUn g ma):=RE.wk (Xr ho ha.pe) λ_ _ _ h=>XX h
theorem CV{op:CmpOp}{g:D->D->M D}{ma mb:Sl->M D}(ho:OpR X (compareOp op) (rM X.kw g))(ha:RE X a ma)(hb:RE X b mb)(hm:behindInMarks op b=false:=by first|exact Q7 _|rfl):RE X (.Compare a [op] [b] pos) (mOp g ma mb):=
 RE.wk (TV ho ha.pe hb.pe hm) λ_ _ _ h=>M8 h
theorem AU{g:D->D->M D}{ma mb:Sl->M D}(ho:IxR X (rM X.kw g))(ha:RE X a ma)(hb:RE X b mb)(hs:N0 b:=by exact λ_ _=>rfl):RE X (.Subscript a b pos) (mOp g ma mb):=RE.wk (Xv ho ha.pe hb.pe hs) λ_ _ _ h=>M8 h
noncomputable def asB:D->M Bool
 | .bl b=>ret b
 |_=>BS
noncomputable def AY(m:Sl->M D):Sl->M Bool:=λτ=>bnd (m τ) asB
theorem M4{K:KW}{m:Sl->M D}{σ:St}{H:Hp}{Q:Bool->Hp->Prop}(h:tT K (AY m) σ H Q):tE K m σ H λx H'=>∃k,x=.bl k/\Q k H':=by
 obtain⟨ι,μ,τ,b,μ',R,S,e,q⟩:=h;obtain⟨x,μ1,e1,e⟩:=AJ e;refine⟨ι,μ,τ,x,μ1,R,S,e1,λι1 H1 E1 R1 v1 i1=>?_⟩;cases x with
 |bl k=>
  cases e;unfold Is at i1;exact⟨b,i1,q ι1 H1 E1 R1⟩
 |_=>cases e
theorem Au{op:CmpOp}{g:D->D->M D}{ma mb:Sl->M D}(ho:OpR X (compareOp op) (rM X.kw g))(ha:RE X a ma)(hb:RE X b mb)(hm:behindInMarks op b=false:=by first|exact Q7 _|rfl):RT X (.Compare a [op] [b] pos) (AY (mOp g ma mb)):=
 RT.wk (TF ho ha.pe hb.pe hm) λσ H Q h=>M8 (Q:=λx H'=>∃k,x=.bl k/\Q k H') (M4 h)
theorem Hu{m:Sl->M D}(h:RE X e m)(he:∀whole,isTrue e X.env whole=(do let v ←whole;standAt e.pos;holding [v] (truthy v)):=by intro _;rfl):RT X e (AY m):=
 RT.wk (VX h.pe he) λ_ _ _ q=>M4 q
noncomputable def IQ(ma mb:Sl->M Bool):Sl->M Bool:=λτ=>bnd (ma τ) λx=>if x=true then mb τ else ret false
noncomputable def mOr(ma mb:Sl->M Bool):Sl->M Bool:=λτ=>bnd (ma τ) λx=>if x=true then ret true else mb τ
noncomputable def JA(ma:Sl->M Bool):Sl->M Bool:=λτ=>bnd (ma τ) λx=>ret (!x)
theorem KD{ma:Sl->M Bool}(ha:RT X a ma):RT X (.UnaryOp .Not a pos) (JA ma):=RT.wk (VY ha.pe) λσ H Q h=>by
 obtain⟨ι,μ,τ,b,μ',R,S,e,q⟩:=h;obtain⟨x,μ1,e1,e⟩:=AJ e;cases e;exact⟨ι,μ,τ,x,_,R,S,e1,q⟩
theorem NE{ma:Sl->M Bool}(ha:RT X a ma):RW X (.BoolOp .And [a] pos) ma:=⟨S8 ha.pe⟩
theorem MF{ma:Sl->M Bool}(ha:RT X a ma):RW X (.BoolOp .Or [a] pos) ma:=⟨VU ha.pe⟩
theorem QM{rest:List Expr}{ma mb:Sl->M Bool}(ha:RT X a ma)(hb:RW X (.BoolOp .And (b::rest) pos) mb):RW X (.BoolOp .And (a::b::rest) pos) (IQ ma mb):=RW.wk (VV ha.pe hb.pe) λσ H Q h=>by
 obtain⟨ι,μ,τ,z,μ',R,S,e,q⟩:=h;obtain⟨x,μ1,e1,e⟩:=AJ e;refine⟨ι,μ,τ,x,μ1,R,S,e1,λι1 H1 E1 R1=>?_⟩;cases x with
 |true=>exact⟨ι1,μ1,τ,z,μ',R1,S.ext E1,e,λι2 H2 E2 R2=>q ι2 H2 (E1.trans E2) R2⟩
 |false=>cases e;exact q ι1 H1 E1 R1
theorem ND{rest:List Expr}{ma mb:Sl->M Bool}(ha:RT X a ma)(hb:RW X (.BoolOp .Or (b::rest) pos) mb):RW X (.BoolOp .Or (a::b::rest) pos) (mOr ma mb):=RW.wk (Xn ha.pe hb.pe) λσ H Q h=>by
 obtain⟨ι,μ,τ,z,μ',R,S,e,q⟩:=h;obtain⟨x,μ1,e1,e⟩:=AJ e;refine⟨ι,μ,τ,x,μ1,R,S,e1,λι1 H1 E1 R1=>?_⟩;cases x with
 |true=>cases e;exact q ι1 H1 E1 R1
 |false=>exact⟨ι1,μ1,τ,z,μ',R1,S.ext E1,e,λι2 H2 E2 R2=>q ι2 H2 (E1.trans E2) R2⟩
theorem RW.rt{m:Sl->M Bool}(h:RW X e m):RT X e m:=⟨h.pe.pt⟩
noncomputable def DX(ma mb:Sl->M D):Sl->M D:=λτ=>bnd (ma τ) λx=>bnd (asB x) λc=>if c=true then mb τ else ret (.bl false)
noncomputable def MU(ma mb:Sl->M D):Sl->M D:=λτ=>bnd (ma τ) λx=>bnd (asB x) λc=>if c=true then ret (.bl true) else mb τ
noncomputable def HC(ma:Sl->M D):Sl->M D:=λτ=>bnd (ma τ) λx=>bnd (asB x) λc=>ret (.bl (!c))
theorem Ga{x:D}{μ μ1:Mh}{c:Bool}(h:asB x μ=some (c,μ1)):x=.bl c/\μ1=μ:=by
 cases x with
 |bl k=>cases h;exact⟨rfl,rfl⟩
 |_=>cases h
theorem FG{op}{m:Sl->M D}(h:RE X a m):RE X (.BoolOp op [a] pos) m:=⟨Vk h.pe⟩
theorem Dp{rest:List Expr}{ma mb:Sl->M D}(ha:RE X a ma)(hb:RE X (.BoolOp .And (b::rest) pos) mb):RE X (.BoolOp .And (a::b::rest) pos) (DX ma mb):=RE.wk (Vp ha.pe hb.pe) λσ H Q h=>by
 obtain⟨ι,μ,τ,z,μ',R,S,e,q⟩:=h;obtain⟨x,μ1,e1,e⟩:=AJ e;obtain⟨c,μ2,e2,e⟩:=AJ e;obtain⟨rfl,rfl⟩:=Ga e2;refine⟨ι,μ,τ,_,μ2,R,S,e1,λι1 H1 E1 R1 v1 i1=>⟨c,by unfold Is at i1;exact i1,?_⟩⟩;cases c with
 |true=>exact⟨ι1,μ2,τ,z,μ',R1,S.ext E1,e,λι2 H2 E2 R2=>q ι2 H2 (E1.trans E2) R2⟩
 |false=>cases e;exact q ι1 H1 E1 R1 _ (by unfold Is;rfl)
theorem Xf{rest:List Expr}{ma mb:Sl->M D}(ha:RE X a ma)(hb:RE X (.BoolOp .Or (b::rest) pos) mb):RE X (.BoolOp .Or (a::b::rest) pos) (MU ma mb):=RE.wk (Xs ha.pe hb.pe) λσ H Q h=>by
 obtain⟨ι,μ,τ,z,μ',R,S,e,q⟩:=h;obtain⟨x,μ1,e1,e⟩:=AJ e;obtain⟨c,μ2,e2,e⟩:=AJ e;obtain⟨rfl,rfl⟩:=Ga e2;refine⟨ι,μ,τ,_,μ2,R,S,e1,λι1 H1 E1 R1 v1 i1=>⟨c,by unfold Is at i1;exact i1,?_⟩⟩;cases c with
 |true=>cases e;exact q ι1 H1 E1 R1 _ (by unfold Is;rfl)
 |false=>exact⟨ι1,μ2,τ,z,μ',R1,S.ext E1,e,λι2 H2 E2 R2=>q ι2 H2 (E1.trans E2) R2⟩
theorem Qd{ma:Sl->M D}(ha:RE X a ma):RE X (.UnaryOp .Not a pos) (HC ma):=RE.wk (Vl ha.pe) λσ H Q h=>by
 obtain⟨ι,μ,τ,z,μ',R,S,e,q⟩:=h;obtain⟨x,μ1,e1,e⟩:=AJ e;obtain⟨c,μ2,e2,e⟩:=AJ e;obtain⟨rfl,rfl⟩:=Ga e2;cases e;exact⟨ι,μ,τ,_,_,R,S,e1,λι1 H1 E1 R1 v1 i1=>⟨c,by unfold Is at i1;exact i1,q ι1 H1 E1 R1 _ (by unfold Is;rfl)⟩⟩
noncomputable def Du(g g':D->D->M D)(ma mb mc:Sl->M D):Sl->M D:=λτ=>bnd (ma τ) λx=>bnd (mb τ) λy=>bnd (g x y) λz=>bnd (asB z) λk=>if k=true then bnd (mc τ) λw=>g' y w else ret (.bl false)
noncomputable def AH:Sl->M (List D):=λ_=>ret []
noncomputable def AB(m:Sl->M D)(r:Sl->M (List D)):Sl->M (List D):=λτ=>bnd (m τ) λx=>bnd (r τ) λxs=>ret (x::xs)
theorem AE:RA X [] AH:=RA.wk Fw λσ H Q h=>by
 obtain⟨ι,μ,τ,z,μ',R,S,e,q⟩:=h;cases e;exact q ι H R.ext0 R [] .nil
theorem AA{m:Sl->M D}{r:Sl->M (List D)}(h:RE X e m)(hr:RA X es r)(hs:starEach (e::es) X.env=(false,eval e X.env)::starEach es X.env:=by exact Av rfl):RA X (e::es) (AB m r):=RA.wk (DO h.pe hr.pe hs) λσ H Q h=>by
 obtain⟨ι,μ,τ,z,μ',R,S,e,q⟩:=h;obtain⟨x,μ1,e1,e⟩:=AJ e;obtain⟨xs,μ2,e2,e⟩:=AJ e;cases e;exact⟨ι,μ,τ,x,μ1,R,S,e1,λι1 H1 E1 R1 v1 i1=>⟨ι1,μ1,τ,xs,_,R1,S.ext E1,e2,λι2 H2 E2 R2 vs i2=>q ι2 H2 (E1.trans E2) R2 _ (.cons (i1.ext E2) i2)⟩⟩
noncomputable def lim(n:Nat):M Unit:=λμ=>if n<=sizeLine then some ((),μ) else none
theorem CZ{n:Nat}{μ μ1:Mh}{u:Unit}(h:lim n μ=some (u,μ1)):n<=sizeLine/\μ1=μ:=by
 unfold lim at h;split at h
 ·rename_i hn;cases h;exact⟨hn,rfl⟩
 ·cases h
theorem IS{n:Nat}(h:n<=sizeLine)(μ:Mh):lim n μ=some ((),μ):=if_pos h
noncomputable def AZ(ds:List D):M D:=bnd (lim ds.length) λ_=>ret (.tup ds)
noncomputable def Aq(ds:List D):M D:=bnd (lim ds.length) λ_=>ret (.lst ds)
noncomputable def IK(ds:List D):M D:=bnd (lim ds.length) λ_=>λμ=>some (.ref μ.length,μ++[.lst ds])
noncomputable def AF(f:List D->M D)(m:Sl->M (List D)):Sl->M D:=λτ=>bnd (m τ) f
theorem NT{K:KW}{ι:Nat->Addr}{μ μ':Mh}{H:Hp}{ds:List D}{vs:List V}{d:D}{Q:VK}(R:RelH K ι μ H)(i:IsL K ι μ.length H ds vs)(e:AZ ds μ=some (d,μ'))(q:Aft K ι μ H μ' λι' H'=>∀v,Is K ι' μ'.length H' d v->Q v H'):
  vs.length<=sizeLine/\∀p,H p=none->Q (.ref p) (upd H p (.tup vs)):=by
 obtain⟨u,μ1,e1,e2⟩:=AJ e;clear e;obtain⟨hl,e3⟩:=CZ e1;cases e2;cases e3;refine⟨by rw[i.length];exact hl,λp hp=>?_⟩;obtain⟨E1,R1⟩:=R.laid (.tup vs) hp;exact q ι _ E1 R1 _ (by unfold Is;exact⟨p,vs,rfl,SqT.of BU,i.ext E1⟩)
theorem Ei{K:KW}{ι:Nat->Addr}{μ μ':Mh}{H:Hp}{ds:List D}{vs:List V}{d:D}{Q:VK}(R:RelH K ι μ H)(i:IsL K ι μ.length H ds vs)(e:Aq ds μ=some (d,μ'))(q:Aft K ι μ H μ' λι' H'=>∀v,Is K ι' μ'.length H' d v->Q v H'):
  vs.length<=sizeLine/\∀p,H p=none->Q (.ref p) (upd H p (.lst vs)):=by
 obtain⟨u,μ1,e1,e2⟩:=AJ e;clear e;obtain⟨hl,e3⟩:=CZ e1;cases e2;cases e3;refine⟨by rw[i.length];exact hl,λp hp=>?_⟩;obtain⟨E1,R1⟩:=R.laid (.lst vs) hp;have ho:∀n,n<μ.length->ι n≠p:=λn hn z=>by
  obtain⟨o,e,_⟩:=R.muts n hn;rw[z,hp] at e;cases e
 exact q ι _ E1 R1 _ (by unfold Is;exact⟨p,vs,rfl,BU,ho,i.ext E1⟩)
theorem Tl{K:KW}{ι:Nat->Addr}{μ μ':Mh}{H:Hp}{ds:List D}{vs:List V}{d:D}{Q:VK}(R:RelH K ι μ H)(i:IsL K ι μ.length H ds vs)(e:IK ds μ=some (d,μ'))(q:Aft K ι μ H μ' λι' H'=>∀v,Is K ι' μ'.length H' d v->Q v H'):
  vs.length<=sizeLine/\∀p,H p=none->Q (.ref p) (upd H p (.lst vs)):=by
 obtain⟨u,μ1,e1,e2⟩:=AJ e;clear e;obtain⟨hl,e3⟩:=CZ e1;cases e2;cases e3;refine⟨by rw[i.length];exact hl,λp hp=>?_⟩;obtain⟨ι',E1,R1,e0⟩:=R.grown (m:=.lst ds) hp ⟨vs,rfl,i⟩;exact q ι' _ E1 R1 _ (by unfold Is;exact⟨by simp,by rw[e0]⟩)
theorem Ed{K:KW}{f:List D->M D}{m:Sl->M (List D)}{σ:St}{H:Hp}{Q:VK}{R:List V->Hp->Prop}(h:tE K (AF f m) σ H Q)
  (hf:∀ι μ μ' H ds vs d,RelH K ι μ H->IsL K ι μ.length H ds vs->f ds μ=some (d,μ')->(Aft K ι μ H μ' λι' H'=>∀v,Is K ι' μ'.length H' d v->Q v H')->R vs H):tL K m σ H R:=by
 obtain⟨ι,μ,τ,z,μ',S1,S,e,q⟩:=h;obtain⟨ds,μ1,e1,e⟩:=AJ e;exact⟨ι,μ,τ,ds,μ1,S1,S,e1,λι1 H1 E1 R1 vs iv=>hf ι1 μ1 μ' H1 ds vs z R1 iv e λι2 H2 E2 R2=>q ι2 H2 (E1.trans E2) R2⟩
theorem AO{x1}{m:Sl->M (List D)}(h:RA X es m):RE X (.Tuple es x1 pos) (AF AZ m):=RE.wk (Qs h.pe) λ_ _ _ q=>Ed q λ_ _ _ _ _ _ _ R i e q=>NT R i e q
theorem Ao{m:Sl->M (List D)}(h:RA X es m):RE X (.List es pos) (AF Aq m):=RE.wk (Qt h.pe) λ_ _ _ q=>Ed q λ_ _ _ _ _ _ _ R i e q=>Ei R i e q
theorem GF{m:Sl->M (List D)}(h:RA X es m):RE X (.List es pos) (AF IK m):=RE.wk (Qt h.pe) λ_ _ _ q=>Ed q λ_ _ _ _ _ _ _ R i e q=>Tl R i e q
theorem Ae{id:String}{x:Str}{g:List D->M D}{m:Sl->M (List D)}{p:Pos}(hc:CT X (.builtin id) (rMA X.kw g))(hm:X.mg x=none)(hv:bootBuiltins x=some (.builtin id))(ha:RA X (e::es) m)(hg:Gl X x:=by rfl)(hn:x ≠ "__name__" := by decide)(hdb:(x==("__debug__" : Str))=false:=by decide)
  (he:starEach (e::es) X.env=(false,eval e X.env)::starEach es X.env:=by exact Av rfl) (hpl:(backTo pos (starEach es X.env)).any (·.1)=false:=by exact BB rfl):RE X (.Call (.Name x p) (e::es) [] pos) (AF g m):=
 RE.wk (FJ hc hg hm hv ha.pe hn hdb he hpl) λ_ _ _ q=>Ed q λι μ μ' H ds vs d R i e q=>⟨ι,μ,ds,d,μ',R,i,e,q⟩
theorem Bp{T:String}{x:Str}{g:List D->M D}{m:Sl->M (List D)}{p:Pos}(hc:CT X (.type T) (rMA X.kw g))(hm:X.mg x=none)(hv:bootBuiltins x=some (.type T))(ha:RA X (e::es) m)(hg:Gl X x:=by rfl)(hn:x ≠ "__name__" := by decide)(hdb:(x==("__debug__" : Str))=false:=by decide)
  (he:starEach (e::es) X.env=(false,eval e X.env)::starEach es X.env:=by exact Av rfl) (hpl:(backTo pos (starEach es X.env)).any (·.1)=false:=by exact BB rfl):RE X (.Call (.Name x p) (e::es) [] pos) (AF g m):=
 RE.wk (JQ hc hg hm hv ha.pe hn hdb he hpl) λ_ _ _ q=>Ed q λι μ μ' H ds vs d R i e q=>⟨ι,μ,ds,d,μ',R,i,e,q⟩
noncomputable def spM(K:KW)(n:Nat)(φ:List D->M D):Sp:=λvs H Q _=>vs.length=n/\rMA K φ vs H Q
theorem Su{n k:Nat}{φ:List D->M D}{f:Addr}{fd:FuncData}{ps:List Str}{x:Str}{m:Sl->M (List D)}{p:Pos}(F:FnOk X.prog X.w X.kw X.mg X.base CX0 k f fd ps (spM X.kw n φ))(hr:Room k X.A)(hm:X.mg x=some (.ref f))(hk:PySem.W.keepIn X.kw (.ref f)=true)(hb:Binds X.kw fd ps [])
  (hφ:∀ds μ r,φ ds μ=some r->ds.length=n) (ha:RA X (e::es) m) (hg:Gl X x:=by rfl) (hdb:(x==("__debug__" : Str))=false:=by decide) (he:starEach (e::es) X.env=(false,eval e X.env)::starEach es X.env:=by exact Av rfl) (hpl:(backTo pos (starEach es X.env)).any (·.1)=false:=by exact BB rfl) :
  RE X (.Call (.Name x p) (e::es) [] pos) (AF φ m):=
 RE.wk (NQ F hr hg hm hk hb .nil Ud ha.pe hdb he hpl) λ_ _ _ q=>Ed q λι μ μ' H ds vs d R i e q=>by
  rw[AAZ];exact⟨by rw[i.length];exact hφ ds μ _ e,ι,μ,ds,d,μ',R,i,e,q⟩
end
section
variable{X:Cx}{e a c tg iter:Expr}{es:List Expr}{pos:Pos}{st:Stmt}{rest body:List Stmt}
noncomputable def BW:Sl->M (Fl×Sl):=λτ=>ret (.next,τ)
noncomputable def AR(m1 m2:Sl->M (Fl×Sl)):Sl->M (Fl×Sl):=λτ=>bnd (m1 τ) λr=>match r.1 with
 | .next=>m2 r.2
 |f=>ret (f,r.2)
theorem As:RSs X [] BW:=RSs.wk TJ λDn σ H h=>by
 obtain⟨ι,μ,τ,f,τ',μ',R,S,e,q⟩:=h;cases e;exact q ι H R.ext0 R σ S
theorem AK{m1 m2:Sl->M (Fl×Sl)}(h1:RS X st m1)(h2:RSs X rest m2):RSs X (st::rest) (AR m1 m2):=RSs.wk (Qk h1.pe h2.pe) λDn σ H h=>by
 obtain⟨ι,μ,τ,f,τ',μ',R,S,e,q⟩:=h;obtain⟨⟨f1,τ1⟩,μ1,e1,e⟩:=AJ e;refine⟨ι,μ,τ,f1,τ1,μ1,R,S,e1,λι1 H1 E1 R1 σ1 S1=>?_⟩;cases f1 with
 |next=>exact⟨ι1,μ1,τ1,f,τ',μ',R1,S1,e,λι2 H2 E2 R2=>q ι2 H2 (E1.trans E2) R2⟩
 |brk=>cases e;exact q ι1 H1 E1 R1 σ1 S1
 |cont=>cases e;exact q ι1 H1 E1 R1 σ1 S1
 |rt d=>cases e;exact q ι1 H1 E1 R1 σ1 S1
 |xc x=>cases e;exact q ι1 H1 E1 R1 σ1 S1
theorem AQ{m:Sl->M (Fl×Sl)}(h:RS X st m):RSs X [st] m:=⟨TH h.pe⟩
noncomputable def BE(m:Sl->M D):Sl->M (Fl×Sl):=λτ=>bnd (m τ) λ_=>ret (.next,τ)
theorem BJ{m:Sl->M D}(h:RE X e m)(hs:swapsWith e none pos.line X.env=pure false:=by rfl):RS X (.Expr e pos) (BE m):=RS.wk (TK h.pe hs) λDn σ H h=>by
 obtain⟨ι,μ,τ,f,τ',μ',R,S,e,q⟩:=h;obtain⟨x,μ1,e1,e⟩:=AJ e;cases e;exact⟨ι,μ,_,x,_,R,S,e1,λι1 H1 E1 R1 v i1=>q ι1 H1 E1 R1 σ (S.ext E1)⟩
noncomputable def A9(m:Sl->M D):Sl->M (Fl×Sl):=λτ=>bnd (m τ) λd=>ret (.rt d,τ)
theorem Ak{m:Sl->M D}(h:RE X e m):RS X (.Return (some e) pos) (A9 m):=RS.wk (Va h.pe) λDn σ H h=>by
 obtain⟨ι,μ,τ,f,τ',μ',R,S,e,q⟩:=h;obtain⟨x,μ1,e1,e⟩:=AJ e;cases e;exact⟨ι,μ,_,x,_,R,S,e1,λι1 H1 E1 R1 v i1=>q ι1 H1 E1 R1 σ (S.ext E1) v i1⟩
noncomputable def sIf(mc:Sl->M Bool)(m1 m2:Sl->M (Fl×Sl)):Sl->M (Fl×Sl):=λτ=>bnd (mc τ) λx=>if x=true then m1 τ else m2 τ
theorem BO{mc:Sl->M Bool}{m1 m2:Sl->M (Fl×Sl)}(hc:RT X c mc)(h1:RSs X body m1)(h2:RSs X rest m2):RS X (.If c body rest pos) (sIf mc m1 m2):=RS.wk (Xq hc.pe h1.pe h2.pe) λDn σ H h=>by
 obtain⟨ι,μ,τ,f,τ',μ',R,S,e,q⟩:=h;obtain⟨x,μ1,e1,e⟩:=AJ e;refine⟨ι,μ,τ,x,μ1,R,S,e1,λι1 H1 E1 R1=>?_⟩;cases x with
 |true=>exact⟨ι1,μ1,τ,f,τ',μ',R1,S.ext E1,e,λι2 H2 E2 R2=>q ι2 H2 (E1.trans E2) R2⟩
 |false=>exact⟨ι1,μ1,τ,f,τ',μ',R1,S.ext E1,e,λι2 H2 E2 R2=>q ι2 H2 (E1.trans E2) R2⟩
noncomputable def QK:Sl->M (Fl×Sl):=λ_=>BS
theorem QP:RS X st QK:=RS.wk Ql λDn σ H h=>by
 obtain⟨ι,μ,τ,f,τ',μ',R,S,e,q⟩:=h;cases e
noncomputable def tG(K:KW)(bf:D->Sl->M Sl):TG:=λv σ H Q=>∃ι μ τ d τ' μ',RelH K ι μ H/\RelS K ι μ.length H τ σ/\Is K ι μ.length H d v/\bf d τ μ=some (τ',μ') /\
 Aft K ι μ H μ' λι' H'=>∀σ',RelS K ι' μ'.length H' τ' σ'->Q σ' H'
structure RG(X:Cx)(tg:Expr)(bf:D->Sl->M Sl):Prop where
 pe:PG X tg (tG X.kw bf)
theorem PG.wk{t t':TG}(h:PG X tg t)(w:∀v σ H Q,t' v σ H Q->t v σ H Q):PG X tg t':=λpins s σ H v u Q I r q=>h pins s σ H v u Q I r (w v σ H Q q)
theorem RG.wk{bf:D->Sl->M Sl}{t:TG}(h:PG X tg t)(w:∀v σ H Q,tG X.kw bf v σ H Q->t v σ H Q):RG X tg bf:=⟨PG.wk h w⟩
noncomputable def AN(i:Nat):D->Sl->M Sl:=λd τ=>ret (τ.set i (some d))
theorem M7{K:KW}{i:Nat}{v:V}{σ:St}{H:Hp}{Q:St->Hp->Prop}(h:tG K (AN i) v σ H Q):Ew i v σ H Q:=by
 obtain⟨ι,μ,τ,d,τ',μ',R,S,i1,e,q⟩:=h;cases e;exact q ι H R.ext0 R _ (S.set i i1)
theorem D8(i:Nat){x:Str}(hN:X.N.Nodup)(hi:X.N[i]?=some x:=by rfl)(hx:Loc X.env.scope x:=by first|exact Or.inl rfl|exact Or.inr rfl)(hf:X.fn x=true∨X.env.scope.names.lookup x=some .local:=by first|exact .inl rfl|exact .inr rfl|assumption):RG X (.Name x pos) (AN i):=
 RG.wk (Ab hN hi hx hf) λ_ _ _ _ h=>M7 h
noncomputable def Ko:List Nat->List D->Sl->M Sl
 |[],[],τ=>ret τ
 |i::is,d::ds,τ=>bnd (AN i d τ) λτ1=>Ko is ds τ1
 |_,_,_=>BS
noncomputable def G5(is:List Nat):D->Sl->M Sl
 | .tup ds,τ=>if ds.length=is.length then Ko is ds τ else BS
 |_,_=>BS
noncomputable def Ma:List Nat->TGs
 |[]=>YZ
 |i::is=>Um (Ew i) (Ma is)
theorem JY{K:KW}:∀{is:List Nat} {ds:List D} {vs:List V} {τ τ':Sl} {σ:St} {ι:Nat->Addr} {μ μ':Mh} {H:Hp} {Q:St->Hp->Prop},RelH K ι μ H->RelS K ι μ.length H τ σ->IsL K ι μ.length H ds vs->Ko is ds τ μ=some (τ',μ')->
  (μ'=μ->∀σ',RelS K ι μ.length H τ' σ'->Q σ' H)->Ma is vs σ H Q
 |[],[],_,_,_,_,_,_,_,_,_,R,S,i,e,q=>by
  cases e;unfold IsL at i;subst i;exact⟨rfl,q rfl _ S⟩
 |_::is,_::ds,_,τ,τ',σ,ι,μ,μ',H,Q,R,S,i,e,q=>by
  unfold IsL at i;obtain⟨v,vs',rfl,i1,i2⟩:=i;exact⟨v,vs',rfl,JY (is:=is) (ds:=ds) R (S.set _ i1) i2 e q⟩
 |[],_::_,_,_,_,_,_,_,_,_,_,_,_,_,e,_=>by cases e
 |_::_,[],_,_,_,_,_,_,_,_,_,_,_,_,e,_=>by cases e
theorem FF{is:List Nat}{k:Nat}(hc:X.calm=true)(h:PGs X es (Ma is))(hn:(assignEach es X.env).length=is.length:=by rfl)(hst:(assignEach es X.env).findIdx? (·.1)=none:=by rfl):RG X (.Tuple es k pos) (G5 is):=
 RG.wk (Vg hc h hn hst) λv σ H Q h=>by
  obtain⟨ι,μ,τ,d,τ',μ',R,S,i1,e,q⟩:=h;cases d with
  |tup ds=>
   unfold Is at i1;obtain⟨p,vs,rfl,h1,h2⟩:=i1;have e':(if ds.length=is.length then Ko is ds τ else BS) μ=some (τ',μ'):=e;by_cases hl:ds.length=is.length
   ·rw[if_pos hl] at e';have e:=e';refine⟨p,vs,rfl,h1,by rw[h2.length,hl],JY R S h2 e λz σ' S'=>?_⟩;subst z;exact q ι H R.ext0 R σ' S'
   ·rw[if_neg hl] at e';cases e'
  |_=>cases e
noncomputable def Ai(m:Sl->M D)(bf:D->Sl->M Sl):Sl->M (Fl×Sl):=λτ=>bnd (m τ) λd=>bnd (bf d τ) λτ'=>ret (.next,τ')
theorem M5{K:KW}{m:Sl->M D}{bf:D->Sl->M Sl}{g:TG}{Dn:Iw}{σ:St}{H:Hp}(hg:∀v H Q,tG K bf v σ H Q->g v σ H Q)(h:tSt K (Ai m bf) Dn σ H):Sd (tE K m) g Dn σ H:=by
 obtain⟨ι,μ,τ,f,τ',μ',R,S,e,q⟩:=h;obtain⟨x,μ1,e1,e⟩:=AJ e;obtain⟨τ1,μ2,e2,e⟩:=AJ e;cases e;exact⟨ι,μ,τ,x,μ1,R,S,e1,λι1 H1 E1 R1 v i1=>hg _ _ _ ⟨ι1,μ1,τ,x,_,_,R1,S.ext E1,i1,e2,λι2 H2 E2 R2 σ' S'=>q ι2 H2 (E1.trans E2) R2 σ' S'⟩⟩
theorem AT(i:Nat){x:Str}{m:Sl->M D}{pos':Pos}(hN:X.N.Nodup)(he:RE X e m)(hi:X.N[i]?=some x:=by rfl)(hx:Loc X.env.scope x:=by first|exact Or.inl rfl|exact Or.inr rfl)(hs:swapsWith e (some (.Name x pos')) pos.line X.env=pure false:=by rfl)(hf:X.fn x=true∨X.env.scope.names.lookup x=some .local:=by first|exact .inl rfl|exact .inr rfl|assumption):
  RS X (.Assign [.Name x pos'] e pos) (Ai m (AN i)):=RS.wk (VZ hN hi hx he.pe hs hf) λ_ _ _ h=>M5 (λ_ _ _ q=>M7 q) h
theorem Gh{m:Sl->M D}{bf:D->Sl->M Sl}(he:RE X e m)(hg:RG X tg bf)(hs:swapsWithSole [tg] e pos.line X.env=pure false:=by rfl)(hw:swappedStores [tg] e X.env=pure none:=by rfl)
  (h1:(assignEach [tg] X.env).map (·.2)=[assign tg X.env]:=by rfl):RS X (.Assign [tg] e pos) (Ai m bf):=RS.wk (Vc he.pe hg.pe hs hw h1) λ_ _ _ h=>M5 (λ_ _ _ q=>q) h
def ItM(K:KW)(J:It)(ds:List D)(ι:Nat->Addr)(μ:Mh)(H:Hp):Prop:=∀ι' (μ':Mh) H',Ext ι μ.length H ι' μ'.length H'->RelH K ι' μ' H'->
 (∀i,i<ds.length->J.go i H')/\J.stop ds.length H'/\∀(i:Nat) x H2 d,ds[i]?=some d->J.yld i H' x H2->Ext ι' μ'.length H' ι' μ'.length H2/\RelH K ι' μ' H2/\Is K ι' μ'.length H2 d x
theorem ItM.ext{K:KW}{J:It}{ds:List D}{ι ι':Nat->Addr}{μ μ':Mh}{H H':Hp}(h:ItM K J ds ι μ H)(E:Ext ι μ.length H ι' μ'.length H'):ItM K J ds ι' μ' H':=λι2 μ2 H2 E2 R2=>h ι2 μ2 H2 (E.trans E2) R2
noncomputable def tI(K:KW)(m:Sl->M (List D)):TI:=λσ H R=>∃ι μ τ ds μ',RelH K ι μ H/\RelS K ι μ.length H τ σ/\m τ μ=some (ds,μ') /\
 Aft K ι μ H μ' λι' H'=>∀J,ItM K J ds ι' μ' H'->R J H'
structure RI(X:Cx)(tg iter:Expr)(m:Sl->M (List D)):Prop where
 pe:PI X tg iter (tI X.kw m)
theorem PI.wk{t t':TI}(h:PI X tg iter t)(w:∀σ H R,t' σ H R->t σ H R):PI X tg iter t':=λpins s σ H R I q=>h pins s σ H R I (w σ H R q)
theorem RI.wk{m:Sl->M (List D)}{t:TI}(h:PI X tg iter t)(w:∀σ H R,tI X.kw m σ H R->t σ H R):RI X tg iter m:=⟨PI.wk h w⟩
theorem PI.or{t t':TI}(h:PI X tg iter t)(h':PI X tg iter t'):PI X tg iter (λσ H R=>t σ H R∨t' σ H R):=λpins s σ H R I q=>q.elim (h pins s σ H R I) (h' pins s σ H R I)
noncomputable def Jo:D->M (List D)
 | .lst ds=>ret ds
 | .tup ds=>ret ds
 | .scr ns=>ret (ns.map D.int)
 |_=>BS
noncomputable def De(m:Sl->M D):Sl->M (List D):=λτ=>bnd (m τ) Jo
theorem LV{K:KW}{ι:Nat->Addr}{μ:Mh}{H:Hp}{p:Addr}{vs:List V}{ds:List D}(st:∀ι' (μ':Mh) H',Ext ι μ.length H ι' μ'.length H'->RelH K ι' μ' H'->SqL K H' p vs)(i:IsL K ι μ.length H ds vs):ItM K (Itl K p) ds ι μ H:=by
 intro ι' μ' H' E R;have h:=st ι' μ' H' E R;have hl:=i.length;refine⟨λj hj=>⟨vs,vs[j],h,by simp⟩,⟨vs,h,by omega⟩,λj x H2 d hd y=>?_⟩;obtain⟨e,y⟩:=y;subst e;obtain⟨v,ev,iv⟩:=(i.ext E).get hd;have:=y vs h;rw[ev] at this;cases this;exact⟨R.ext0,R,iv⟩
theorem T6{K:KW}{ι:Nat->Addr}{μ:Mh}{H:Hp}{p:Addr}{vs:List V}{ds:List D}(h:SqT K H p vs)(i:IsL K ι μ.length H ds vs):ItM K (Itt K p) ds ι μ H:=by
 intro ι' μ' H' E R;have h:=GA E h;have hl:=i.length;refine⟨λj hj=>⟨vs,vs[j],h,by simp⟩,⟨vs,h,by omega⟩,λj x H2 d hd y=>?_⟩;obtain⟨e,y⟩:=y;subst e;obtain⟨v,ev,iv⟩:=(i.ext E).get hd;have:=y vs h;rw[ev] at this;cases this;exact⟨R.ext0,R,iv⟩
theorem Sm{m:Sl->M D}{σ:St}{H:Hp}{R:It->Hp->Prop}{K:KW}(q:tI K (De m) σ H R):Ul K (tE K m) σ H R∨YV K (tE K m) σ H R:=by
 obtain⟨ι,μ,τ,ds,μ',R0,S,e,q⟩:=q;obtain⟨x,μ1,e1,e⟩:=AJ e;cases x with
 |lst es=>
  cases e;refine .inl ⟨ι,μ,τ,_,_,R0,S,e1,λι1 H1 E1 R1 v i1=>?_⟩;unfold Is at i1;obtain⟨p,vs,rfl,h1,hn,h2⟩:=i1;exact⟨p,rfl,⟨vs,SqL.of h1⟩,q ι1 H1 E1 R1 _ (LV (λι' μ' H' E _=>SqL.of (E.keep p _ h1 hn)) h2)⟩
 |tup es=>
  cases e;refine .inr ⟨ι,μ,τ,_,_,R0,S,e1,λι1 H1 E1 R1 v i1=>?_⟩;unfold Is at i1;obtain⟨p,vs,rfl,h1,h2⟩:=i1;exact⟨p,rfl,⟨vs,h1⟩,q ι1 H1 E1 R1 _ (T6 h1 h2)⟩
 |scr ns=>
  cases e;refine .inl ⟨ι,μ,τ,_,_,R0,S,e1,λι1 H1 E1 R1 v i1=>?_⟩;unfold Is at i1;obtain⟨p,rfl,h1⟩:=i1;exact⟨p,rfl,⟨_,h1.sq⟩,q ι1 H1 E1 R1 _ (LV (λι' μ' H' E _=>(KA E h1).sq) (IsL.ofInts ns))⟩
 |non=>cases e
 |bl _=>cases e
 |int _=>cases e
 |str _=>cases e
 |ty _=>cases e
 |ref _=>cases e
theorem CK{m:Sl->M D}(h:RE X e m):RI X tg e (De m):=RI.wk (PI.or (NO h.pe) (Ve h.pe)) λ_ _ _ q=>Sm q
noncomputable def LI(lo hi:Int):List D:=(List.range (hi-lo).toNat).map λ(j:Nat)=>D.int (lo+(j:Int))
noncomputable def QU:List D->M (List D)
 |[.int j]=>λμ=>if -(2 ^ 62)<=j/\j<2 ^ 62 then some (LI 0 j,μ) else none
 |_=>BS
noncomputable def NU(m:Sl->M (List D)):Sl->M (List D):=λτ=>bnd (m τ) QU
theorem T8{K:KW}{ι:Nat->Addr}{μ:Mh}{H:Hp}{lo hi:Int}:ItM K (Itr lo (hi-lo).toNat) (LI lo hi) ι μ H:=by
 intro ι' μ' H' E R;have hl:(LI lo hi).length=(hi-lo).toNat:=by simp[LI]
 rw[hl];refine⟨λj hj=>hj,AAF _,λj x H2 d hd y=>?_⟩;obtain⟨e,y⟩:=y;subst e;unfold LI at hd;rw[AAW] at hd;cases q:(List.range (hi-lo).toNat)[j]? with
 |none=>rw[q] at hd;cases hd
 |some z=>
  rw[q] at hd;have hz:z=j:=by
   have:=(AAU.mp q).2;simpa using this.symm
  subst hz;cases hd;exact⟨R.ext0,R,by unfold Is;exact y⟩
theorem JO{a:Expr}{m:Sl->M (List D)}{p:Pos}(hm:X.mg "range" = none)(ha:RA X [a] m)(hg:Gl X "range" := by rfl)(hs:starEach [a] X.env=[(false,eval a X.env)]:=by rfl):RI X tg (.Call (.Name "range" p) [a] [] pos) (NU m):=
 RI.wk (OU hg hm ha.pe hs) λσ H R q=>by
  obtain⟨ι,μ,τ,ds,μ',R0,S,e,q⟩:=q;obtain⟨xs,μ1,e1,e⟩:=AJ e;refine⟨ι,μ,τ,xs,μ1,R0,S,e1,λι1 H1 E1 R1 vs i1=>?_⟩;unfold QU at e;split at e
  ·rename_i j;split at e
   ·rename_i hb;cases e;unfold IsL Is at i1;obtain⟨v,vs',rfl,rfl,i2⟩:=i1;unfold IsL at i2;subst i2;refine⟨j,rfl,hb.1,hb.2,q ι1 H1 E1 R1 _ ?_⟩;have:=T8 (K:=X.kw) (ι:=ι1) (μ:=μ') (H:=H1) (lo:=0) (hi:=j);rw[Int.sub_zero] at this;exact this
   ·cases e
  ·cases e
noncomputable def Dv(bf:D->Sl->M Sl)(mb:Sl->M (Fl×Sl)):List D->Sl->M (Fl×Sl)
 |[],τ=>ret (.next,τ)
 |x::xs,τ=>bnd (bf x τ) λτ1=>bnd (mb τ1) λr=>match r.1 with
  | .next=>Dv bf mb xs r.2
  | .cont=>Dv bf mb xs r.2
  | .brk=>ret (.next,r.2)
  | .rt d=>ret (.rt d,r.2)
  | .xc x=>ret (.xc x,r.2)
noncomputable def Ef(src:Sl->M (List D))(bf:D->Sl->M Sl)(mb:Sl->M (Fl×Sl)):Sl->M (Fl×Sl):=λτ=>bnd (src τ) λds=>Dv bf mb ds τ
theorem FE{src:Sl->M (List D)}{bf:D->Sl->M Sl}{mb:Sl->M (Fl×Sl)}(hp:PassesOwn (model X.prog X.w) X.A X.env X.xe)(hc:X.calm=true)(hi:RI X tg iter src)(hg:RG X tg bf)(hb:RSs X body mb)
  (hs:∀x,foldedSetIterable iter X.env x=pure x:=by intro _;rfl):RS X (.For tg iter body [] pos) (Ef src bf mb):=RS.wk (Vb hp hc hi.pe hg.pe hb.pe hs) λDn σ H h=>by
 obtain⟨ι,μ,τ,f,τ',μ',R,S,e,q⟩:=h;obtain⟨ds,μ1,e1,e⟩:=AJ e;refine⟨ι,μ,τ,ds,μ1,R,S,e1,λι1 H1 E1 R1 J it=>?_⟩
 let W:Nat->Nat->St->Hp->Prop:=λi m σ H=>m=ds.length-i/\i<=ds.length/\∃ι μ τ f τ' μ',RelH X.kw ι μ H/\RelS X.kw ι μ.length H τ σ/\ItM X.kw J ds ι μ H/\Dv bf mb (ds.drop i) τ μ=some ((f,τ'),μ') /\
  Aft X.kw ι μ H μ' λι' H'=>∀σ',RelS X.kw ι' μ'.length H' τ' σ'->FlP X.kw Dn ι' μ'.length H' τ' σ' f
 refine⟨W,⟨ds.length,by simp,AAi _,ι1,μ1,τ,f,τ',μ',R1,S.ext E1,it,e,λι2 H2 E2 R2=>q ι2 H2 (E1.trans E2) R2⟩,?_⟩;rintro i m σ H ⟨hm,hil,ι,μ,τ,f,τ',μ',R,S,it,e,q⟩;obtain⟨go,stop,yl⟩:=it ι μ H R.ext0 R;by_cases hlt:i<ds.length
 ·refine .inr ⟨go i hlt,λσ' H'=>W (i+1) (ds.length-(i+1)) σ' H',λσ' H' z=>⟨_,by omega,z⟩,λx H2 y=>?_⟩;have hd:ds[i]?=some ds[i]:=by simp[hlt]
  obtain⟨E2,R2,ix⟩:=yl i x H2 _ hd y;rw[List.drop_eq_getElem_cons hlt] at e;obtain⟨τ1,μ1,e1,e⟩:=AJ e;obtain⟨⟨f2,τ2⟩,μ2,e2,e⟩:=AJ e;refine⟨ι,μ,τ,_,τ1,μ1,R2,S.ext E2,ix,e1,λι3 H3 E3 R3 σ3 S3=>?_⟩;refine⟨ι3,μ1,τ1,f2,τ2,μ2,R3,S3,e2,λι4 H4 E4 R4 σ4 S4=>?_⟩;have E14:=(E2.trans E3).trans E4;cases f2 with
  |next=>exact⟨rfl,hlt,ι4,μ2,τ2,f,τ',μ',R4,S4,it.ext E14,e,λι5 H5 E5 R5=>q ι5 H5 (E14.trans E5) R5⟩
  |cont=>exact⟨rfl,hlt,ι4,μ2,τ2,f,τ',μ',R4,S4,it.ext E14,e,λι5 H5 E5 R5=>q ι5 H5 (E14.trans E5) R5⟩
  |brk=>cases e;exact q ι4 H4 E14 R4 σ4 S4
  |rt d=>cases e;exact q ι4 H4 E14 R4 σ4 S4
  |xc x=>cases e;exact q ι4 H4 E14 R4 σ4 S4
 ·have hi':i=ds.length:=by omega
  subst hi';rw[List.drop_length] at e;cases e;exact .inl ⟨stop,q ι H R.ext0 R σ S⟩
end
section
variable{X:Cx}{scope:Scope}{tgs:List Str}{ix:List Nat}{elt tg iter:Expr}{pos:Pos}
noncomputable def Qp(ix:List Nat)(τ:Sl):Sl:=ix.map λj=>(τ[j]?).getD none
noncomputable def BI(n:Nat)(ix:List Nat)(τ:Sl):Sl:=List.replicate n none++Qp ix τ
noncomputable def CW(bf:D->Sl->M Sl)(mc:Sl->M Bool)(me:Sl->M D)(τ0:Sl):List D->List D->M (List D)
 |[],ys=>ret ys
 |x::xs,ys=>bnd (bf x τ0) λτ1=>bnd (mc τ1) λc=>if c=true then bnd (me τ1) λy=>CW bf mc me τ0 xs (ys++[y]) else CW bf mc me τ0 xs ys
noncomputable def B0(n:Nat)(ix:List Nat)(src:Sl->M (List D))(bf:D->Sl->M Sl)(mc:Sl->M Bool)(me:Sl->M D)(fin:List D->M D):Sl->M D:=λτ=>bnd (src τ) λds=>bnd (lim ds.length) λ_=>bnd (CW bf mc me (BI n ix τ) ds []) fin
noncomputable def Bz:Sl->M Bool:=λ_=>ret true
theorem RelS.block{K:KW}{ι:Nat->Addr}{k:Nat}{H:Hp}{τ:Sl}{σ:St}(S:RelS K ι k H τ σ):RelS K ι k H (BI tgs.length ix τ) (DG tgs ix σ):=by
 refine⟨by simp[BI,DG,Qp,JP],λi d e=>?_⟩;unfold BI at e;have hk:tgs.length<=i:=by
  rcases Nat.lt_or_ge i tgs.length with z|z
  ·rw[AAT (by simpa using z),List.getElem?_replicate,if_pos z] at e;cases e
  ·exact z
 rw[AAS (by simpa using hk),AAl] at e;unfold Qp at e;rw[AAW] at e;cases q:ix[i-tgs.length]? with
 |none=>rw[q] at e;cases e
 |some j=>
  rw[q] at e;have e':(τ[j]?).getD none=some d:=Option.some.inj e;cases q2:τ[j]? with
  |none=>rw[q2] at e';cases e'
  |some o=>
   rw[q2] at e';have e'':o=some d:=e';subst e'';obtain⟨v,ev,iv⟩:=S.get j d q2;refine⟨v,?_,iv⟩;unfold DG;rw[AAS (by simpa using hk),AAl];unfold JP;rw[AAW,q,Option.map_some,ev];rfl
theorem NA{K:KW}{n:Nat}{src:Sl->M (List D)}{i:Nat}{mc:Sl->M Bool}{me:Sl->M D}{fin:List D->M D}{σ:St}{H:Hp}{Q:VK}(hn:tgs.length=n)(hf:∀ι μ μ' H ds vs d (Q:VK),RelH K ι μ H->IsL K ι μ.length H ds vs->fin ds μ=some (d,μ')->(Aft K ι μ H μ' λι' H'=>∀v,Is K ι' μ'.length H' d v->Q v H')->
   vs.length<=sizeLine/\∀p,H p=none->Q (.ref p) (upd H p (.lst vs)))
  (h:tE K (B0 n ix src (AN i) mc me fin) σ H Q):NB tgs ix (tI K src) (Ew i) (tT K mc) (tE K me) σ H Q:=by
 subst hn;obtain⟨ι,μ,τ,d,μ',R,S,e,q⟩:=h;obtain⟨ds,μ1,e1,e5⟩:=AJ e;obtain⟨u,μ2,e2,e6⟩:=AJ e5;obtain⟨zs,μ3,e3,e7⟩:=AJ e6;obtain⟨hl,e4⟩:=CZ e2;clear e e5 e6;subst e4;refine⟨ι,μ,τ,ds,_,R,S,e1,λι1 H1 E1 R1 J it=>?_⟩;refine⟨λi' m ys H=>m=ds.length-i'/\i'<=ds.length/\ys.length<=i'/\∃(ι:Nat->Addr) (μ:Mh) (as:List D),RelH K ι μ H/\RelS K ι μ.length H τ σ/\ItM K J ds ι μ H/\IsL K ι μ.length H as ys/\CW (AN i) mc me (BI tgs.length ix τ) (ds.drop i') as μ=some (zs,μ3) /\
  Aft K ι μ H μ' λι' H'=>∀v,Is K ι' μ'.length H' d v->Q v H',⟨ds.length,by simp,AAi _,AAF _,ι1,_,[],R1,S.ext E1,it,.nil,e3,λι2 H2 E2 R2=>q ι2 H2 (E1.trans E2) R2⟩,?_⟩
 rintro i' m ys H ⟨hm,hil,hyl,ι,μ,as,R,S,it,ia,e3,q⟩;obtain⟨go,stop,yl⟩:=it ι μ H R.ext0 R;by_cases hlt:i'<ds.length
 ·refine .inr ⟨go i' hlt,by omega,λys' H'=>ys'.length<=i'+1/\∃(ι:Nat->Addr) (μ:Mh) (as:List D),RelH K ι μ H'/\RelS K ι μ.length H' τ σ/\ItM K J ds ι μ H'/\IsL K ι μ.length H' as ys'/\CW (AN i) mc me (BI tgs.length ix τ) (ds.drop (i'+1)) as μ=some (zs,μ3) /\
   Aft K ι μ H' μ' λι' H'=>∀v,Is K ι' μ'.length H' d v->Q v H',λys' H' z=>⟨_,(by omega:ds.length-(i'+1)<m),rfl,hlt,z⟩,λx H2 y=>?_⟩
  have hd:ds[i']?=some ds[i']:=by simp[hlt]
  obtain⟨E2,R2,ix2⟩:=yl i' x H2 _ hd y;rw[List.drop_eq_getElem_cons hlt] at e3;obtain⟨τ1,μ1,e1,e3⟩:=AJ e3;cases e1;obtain⟨cc,μ2,e2,e3⟩:=AJ e3;have S2:=(S.ext E2).block (tgs:=tgs) (ix:=ix);show tT K mc _ H2 _;refine⟨ι,_,_,cc,μ2,R2,S2.set i ix2,e2,λι3 H3 E3 R3=>?_⟩;have E13:=E2.trans E3;cases cc with
  |false=>
   exact⟨by omega,ι3,μ2,as,R3,S.ext E13,it.ext E13,ia.ext E13,e3,λι5 H5 E5 R5=>q ι5 H5 (E13.trans E5) R5⟩
  |true=>
   obtain⟨y',μ4,e4,e3⟩:=AJ e3;refine⟨ι3,μ2,_,y',μ4,R3,(S2.set i ix2).ext E3,e4,λι4 H4 E4 R4 v iv=>?_⟩;have E14:=E13.trans E4;exact⟨by simp;omega,ι4,μ4,as++[y'],R4,S.ext E14,it.ext E14,(ia.ext E14).append (.one iv),e3,λι5 H5 E5 R5=>q ι5 H5 (E14.trans E5) R5⟩
 ·have hi':i'=ds.length:=by omega
  subst hi';rw[List.drop_length] at e3;cases e3;obtain⟨z1,z2⟩:=hf ι _ μ' H _ ys d Q R ia e7 q;exact .inl ⟨stop,z1,z2⟩
theorem DN{n:Nat}{ifs:List Expr}{src:Sl->M (List D)}{i:Nat}{mc:Sl->M Bool}{me:Sl->M D}(S:BScope X scope tgs ix)(hc:X.calm=true)(hi:RI X tg iter src)(hg:∀fp C s H,PG (cxB X scope tgs fp C s H) tg (Ew i))(hif:∀fp C s H,JD (cxB X scope tgs fp C s H) ifs (tT X.kw mc))(he:∀fp C s H,RE (cxB X scope tgs fp C s H) elt me)
  (hin:i<tgs.length:=by decide) (hn:tgs.length=n:=by rfl) (hs:∀x,foldedSetIterable iter X.env x=pure x:=by intro _;rfl) (ht:∀o v,letOwnedTupleGo tg o v=pure ():=by intro _ _;rfl):RE X (.ListComp elt [⟨tg,iter,ifs,0⟩] scope pos) (B0 n ix src (AN i) mc me Aq):=
 RE.wk (NP (te:=tE X.kw me) S hc hi.pe hg (Kd hin) hif (λfp C s H=>(he fp C s H).pe) hs ht) λ_ _ _ h=>NA hn (λ_ _ _ _ _ _ _ _ R i e q=>Ei R i e q) h
theorem Bo{K:KW}:JD X [] (tT K Bz):=λpins s σ H Q I h=>by
 obtain⟨ι,μ,τ,b,μ',R,S,e,q⟩:=h;cases e;exact Qn pins s σ H Q I (q ι H R.ext0 R)
theorem QV{c:Expr}{mc:Sl->M Bool}(h:RT X c mc):JD X [c] (tT X.kw mc):=Qm h.pe
theorem Hv(k:Nat){n:Nat}{y:Str}{py spos:Pos}{ifs:List Expr}{src:Sl->M (List D)}{i:Nat}{mc:Sl->M Bool}{me:Sl->M D}{fin:List D->M D}(hN:X.N.Nodup)(S:BScope X scope tgs ix)(hc:X.calm=true)(hi:RI X tg iter src)(hg:∀fp C s H,PG (cxB X scope tgs fp C s H) tg (Ew i))(hif:∀fp C s H,JD (cxB X scope tgs fp C s H) ifs (tT X.kw mc))(he:∀fp C s H,RE (cxB X scope tgs fp C s H) elt me)
  (hfin:∀ι μ μ' H ds vs d (Q:VK),RelH X.kw ι μ H->IsL X.kw ι μ.length H ds vs->fin ds μ=some (d,μ')->(Aft X.kw ι μ H μ' λι' H'=>∀v,Is X.kw ι' μ'.length H' d v->Q v H')->vs.length<=sizeLine/\∀p,H p=none->Q (.ref p) (upd H p (.lst vs)))
  (hiN:X.N[k]?=some y:=by rfl) (hy:X.env.scope.names.lookup y=some .local:=by rfl) (hin:i<tgs.length:=by decide) (hn:tgs.length=n:=by rfl)
  (hsw:swapsWith (.ListComp elt [⟨tg,iter,ifs,0⟩] scope pos) (some (.Name y py)) spos.line X.env=pure true:=by rfl) (hs:∀x,foldedSetIterable iter X.env x=pure x:=by intro _;rfl) (ht:∀o v,letOwnedTupleGo tg o v=pure ():=by intro _ _;rfl) :
  RS X (.Assign [.Name y py] (.ListComp elt [⟨tg,iter,ifs,0⟩] scope pos) spos) (Ai (B0 n ix src (AN i) mc me fin) (AN k)):=
 RS.wk (MM (te:=tE X.kw me) hN hiN hy S hc hi.pe hg (Kd hin) hif (λfp C s H=>(he fp C s H).pe) hsw hs ht) λDn σ H h=>by
  obtain⟨ι,μ,τ,f,τ',μ',R,S,e,q⟩:=h;obtain⟨x,μ1,e1,e⟩:=AJ e;obtain⟨τ1,μ2,e2,e⟩:=AJ e;cases e2;cases e;refine NA hn hfin ⟨ι,μ,τ,x,_,R,S,e1,λι1 H1 E1 R1 v i1=>?_⟩;exact q ι1 H1 E1 R1 _ ((S.ext E1).set k i1)
mutual
def Cl(k:Nat):D->Prop
 | .tup ds=>ClL k ds
 | .lst ds=>ClL k ds
 | .ref n=>n<k
 |_=>True
def ClL(k:Nat):List D->Prop
 |[]=>True
 |d::ds=>Cl k d/\ClL k ds
end
noncomputable def ClO(k:Nat):MO->Prop
 | .lst ds=>ClL k ds
 | .dK l=>ClL k (l.map (·.2))
 | .dC l=>ClL k (l.map (·.2))
 | .ins _ l=>ClL k (l.map (·.2))
 | .dP l=>ClL k (l.map (·.1))/\ClL k (l.map (·.2))
 | .exc _ _=>True
section
variable{K:KW}{ι:Nat->Addr}{k k':Nat}{H:Hp}
mutual
theorem Is.down(hk:k<=k'):∀{d:D} {v:V},Cl k d->Is K ι k' H d v->Is K ι k H d v
 | .non,_,_,h=>by unfold Is at h ⊢;exact h
 | .bl _,_,_,h=>by unfold Is at h ⊢;exact h
 | .int _,_,_,h=>by unfold Is at h ⊢;exact h
 | .str _,_,_,h=>by unfold Is at h ⊢;exact h
 | .ty _,_,_,h=>by unfold Is at h ⊢;exact h
 | .scr _,_,_,h=>by unfold Is at h ⊢;exact h
 | .tup ds,_,c,h=>by
  unfold Is at h ⊢;obtain⟨p,vs,e,h1,h2⟩:=h;exact⟨p,vs,e,h1,IsL.down hk (by unfold Cl at c;exact c) h2⟩
 | .lst ds,_,c,h=>by
  unfold Is at h ⊢;obtain⟨p,vs,e,h1,hn,h2⟩:=h;exact⟨p,vs,e,h1,λn z=>hn n (AAN z hk),IsL.down hk (by unfold Cl at c;exact c) h2⟩
 | .ref n,_,c,h=>by
  unfold Is at h ⊢;exact⟨by unfold Cl at c;exact c,h.2⟩
theorem IsL.down(hk:k<=k'):∀{ds:List D} {vs:List V},ClL k ds->IsL K ι k' H ds vs->IsL K ι k H ds vs
 |[],_,_,h=>by unfold IsL at h ⊢;exact h
 |_::_,_,c,h=>by
  unfold IsL at h ⊢;unfold ClL at c;obtain⟨v,vs',e,h1,h2⟩:=h;exact⟨v,vs',e,Is.down hk c.1 h1,IsL.down hk c.2 h2⟩
end
mutual
theorem Is.cl:∀{d:D} {v:V},Is K ι k H d v->Cl k d
 | .non,_,_=>by unfold Cl;trivial
 | .bl _,_,_=>by unfold Cl;trivial
 | .int _,_,_=>by unfold Cl;trivial
 | .str _,_,_=>by unfold Cl;trivial
 | .ty _,_,_=>by unfold Cl;trivial
 | .scr _,_,_=>by unfold Cl;trivial
 | .tup ds,_,h=>by
  unfold Is at h;unfold Cl;obtain⟨p,vs,e,h1,h2⟩:=h;exact IsL.cl h2
 | .lst ds,_,h=>by
  unfold Is at h;unfold Cl;obtain⟨p,vs,e,h1,hn,h2⟩:=h;exact IsL.cl h2
 | .ref n,_,h=>by
  unfold Is at h;unfold Cl;exact h.1
theorem IsL.cl:∀{ds:List D} {vs:List V},IsL K ι k H ds vs->ClL k ds
 |[],_,_=>by unfold ClL;trivial
 |_::_,_,h=>by
  unfold IsL at h;unfold ClL;obtain⟨v,vs',e,h1,h2⟩:=h;exact⟨Is.cl h1,IsL.cl h2⟩
end
theorem KVs.cl:∀{l:List (Key×D)} {r:List (Key×V)},KVs K ι k H l r->ClL k (l.map (·.2))
 |[],_,_=>by unfold List.map ClL;trivial
 |(_,_)::_,_,h=>by
  obtain⟨v,r',e,h1,h2⟩:=h;rw[AAX];unfold ClL;exact⟨h1.cl,KVs.cl h2⟩
theorem KVs.down(hk:k<=k'):∀{l:List (Key×D)} {r:List (Key×V)},ClL k (l.map (·.2))->KVs K ι k' H l r->KVs K ι k H l r
 |[],_,_,h=>h
 |(_,_)::_,_,c,h=>by
  rw[AAX] at c;unfold ClL at c;obtain⟨v,r',e,h1,h2⟩:=h;exact⟨v,r',e,h1.down hk c.1,KVs.down hk c.2 h2⟩
theorem Nv:∀l:List Int,ClL k (l.map D.int)
 |[]=>by unfold List.map ClL;trivial
 |_::l=>by unfold List.map ClL;exact⟨by unfold Cl;trivial,Nv l⟩
theorem Yg(c:Nk.Cs):Cl k (csD c):=by
 unfold csD Cl ClL;refine⟨by unfold Cl;trivial,?_⟩;unfold ClL;refine⟨by unfold Cl;trivial,?_⟩;unfold ClL;exact⟨by unfold Cl;exact Nv _,by unfold ClL;trivial⟩
theorem CVs.cl:∀{l:List (Nk.Cs×D)} {r:List (Nk.Cs×Addr×V)},CVs K ι k H l r->ClL k (l.map (·.2))
 |[],_,_=>by unfold List.map ClL;trivial
 |(_,_)::_,_,h=>by
  obtain⟨a,v,r',rfl,_,h1,h2⟩:=h;rw[AAX];unfold ClL;exact⟨h1.cl,CVs.cl h2⟩
theorem CVs.down(hk:k<=k'):∀{l:List (Nk.Cs×D)} {r:List (Nk.Cs×Addr×V)},ClL k (l.map (·.2))->CVs K ι k' H l r->CVs K ι k H l r
 |[],_,_,h=>h
 |(_,_)::_,_,c,h=>by
  rw[AAX] at c;unfold ClL at c;obtain⟨a,v,r',e,h0,h1,h2⟩:=h;exact⟨a,v,r',e,h0.down hk (Yg _),h1.down hk c.1,CVs.down hk c.2 h2⟩
theorem FVs.cl:∀{l:List (Str×D)} {r:List (Str×V)},FVs K ι k H l r->ClL k (l.map (·.2))
 |[],_,_=>by unfold List.map ClL;trivial
 |(_,_)::_,_,h=>by
  obtain⟨v,r',rfl,h1,h2⟩:=h;rw[AAX];unfold ClL;exact⟨h1.cl,FVs.cl h2⟩
theorem FVs.down(hk:k<=k'):∀{l:List (Str×D)} {r:List (Str×V)},ClL k (l.map (·.2))->FVs K ι k' H l r->FVs K ι k H l r
 |[],_,_,h=>h
 |(_,_)::_,_,c,h=>by
  rw[AAX] at c;unfold ClL at c;obtain⟨v,r',e,h1,h2⟩:=h;exact⟨v,r',e,h1.down hk c.1,FVs.down hk c.2 h2⟩
theorem PVs.cl:∀{l:List (D×D)} {r:List (D×Addr×V)},PVs K ι k H l r->ClL k (l.map (·.1))/\ClL k (l.map (·.2))
 |[],_,_=>by unfold List.map ClL;exact⟨trivial,trivial⟩
 |(_,_)::_,_,h=>by
  obtain⟨a,v,r',_,h1,h2,h3⟩:=h;rw[AAX,AAX];unfold ClL;exact⟨⟨h1.2.2.cl,(PVs.cl h3).1⟩,h2.cl,(PVs.cl h3).2⟩
theorem PVs.down(hk:k<=k'):∀{l:List (D×D)} {r:List (D×Addr×V)},ClL k (l.map (·.1))->ClL k (l.map (·.2))->PVs K ι k' H l r->PVs K ι k H l r
 |[],_,_,_,h=>h
 |(_,_)::_,_,b,c,h=>by
  rw[AAX] at b c;unfold ClL at b c;obtain⟨a,v,r',e,h1,h2,h3⟩:=h;exact⟨a,v,r',e,⟨h1.1,h1.2.1,h1.2.2.down hk b.1⟩,h2.down hk c.1,PVs.down hk b.2 c.2 h3⟩
theorem ObjIs.cl{p:Addr}{o:MO}{u:HO}(h:ObjIs K ι k H p o u):ClO k o:=by
 cases o with
 |lst ds=>obtain⟨vs,_,h⟩:=h;exact h.cl
 |dK l=>obtain⟨r,_,h⟩:=h;exact h.cl
 |dC l=>obtain⟨r,_,h⟩:=h;exact h.cl
 |ins c l=>obtain⟨C,dx,r,_,_,_,h⟩:=h;exact h.cl
 |dP l=>obtain⟨r,_,h⟩:=h;exact h.cl
 |exc c n=>exact trivial
theorem ObjIs.down(hk:k<=k'){p:Addr}{o:MO}{u:HO}(c:ClO k o)(h:ObjIs K ι k' H p o u):ObjIs K ι k H p o u:=by
 cases o with
 |lst ds=>obtain⟨vs,e,h⟩:=h;exact⟨vs,e,h.down hk c⟩
 |dK l=>obtain⟨r,e,h⟩:=h;exact⟨r,e,h.down hk c⟩
 |dC l=>obtain⟨r,e,h⟩:=h;exact⟨r,e,h.down hk c⟩
 |ins n l=>obtain⟨C,dx,r,e,h0,h1,h⟩:=h;exact⟨C,dx,r,e,h0,h1,h.down hk c⟩
 |dP l=>obtain⟨r,e,h⟩:=h;exact⟨r,e,h.down hk c.1 c.2⟩
 |exc c n=>exact h
end
def ZS(μ2 μ':Mh)(d' d:D):Prop:=(d'=d/\Cl μ'.length d)∨∃n ds,d'=.ref n/\μ2[n]?=some (.lst ds)/\μ'.length<=n/\d=.lst ds/\ClL μ'.length ds
structure E7(μ μ2 μ':Mh)(d' d:D):Prop where
 grow:∃g,μ2=μ'++g
 le:μ.length<=μ'.length
 old:∀(n:Nat) (o:MO),μ'[n]?=some o->μ[n]?=some o∨ClO μ'.length o
 conv:ZS μ2 μ' d' d
noncomputable def EF:Fl->D
 | .rt d=>d
 |_=>.non
theorem Hk{K:KW}{ι ι2:Nat->Addr}{μ μ2 μ':Mh}{H H2:Hp}{d' d:D}(R:RelH K ι μ H)(E:Ext ι μ.length H ι2 μ2.length H2)(R2:RelH K ι2 μ2 H2)(t:E7 μ μ2 μ' d' d):
  Ext ι μ.length H ι2 μ'.length H2/\RelH K ι2 μ' H2/\∀v,Is K ι2 μ2.length H2 d' v->Is K ι2 μ'.length H2 d v:=by
 obtain⟨⟨g,hg⟩,le,old,conv⟩:=t;have hle:μ'.length<=μ2.length:=by rw[hg];simp
 have hget:∀(n:Nat) (o:MO),μ'[n]?=some o->μ2[n]?=some o:=λn o e=>by
  rw[hg,AAT (AAU.mp e).1];exact e
 refine⟨⟨le,E.agree,λn h1 h2=>E.fresh n h1 (AAN h2 hle),E.keep,E.was,E.there⟩,⟨λi j hi hj=>R2.inj i j (AAN hi hle) (AAN hj hle),λn o e=>?_⟩,λv iv=>?_⟩
 ·obtain⟨u,q,hq⟩:=R2.obj n o (hget n o e);refine⟨u,q,hq.down hle ?_⟩;rcases old n o e with z|z
  ·obtain⟨u0,_,h0⟩:=R.obj n o z;have c:=h0.cl;cases o with
   |lst ds=>exact clL_mono le c
   |dK l=>exact clL_mono le c
   |dC l=>exact clL_mono le c
   |ins n l=>exact clL_mono le c
   |dP l=>exact⟨clL_mono le c.1,clL_mono le c.2⟩
   |exc c n=>exact trivial
  ·exact z
 ·rcases conv with ⟨rfl,c⟩|⟨n,ds,rfl,hn,hle2,rfl,c⟩
  ·exact iv.down hle c
  ·obtain⟨u,q,vs,rfl,il⟩:=R2.obj n _ hn;have hn2:n<μ2.length:=(AAU.mp hn).1;unfold Is at iv ⊢;refine⟨ι2 n,vs,iv.2,q,λm hm z=>?_,il.down hle c⟩;have:=R2.inj m n (AAN hm hle) hn2 z;omega
where
 cl_mono {k k':Nat} (h:k<=k'):∀{d:D},Cl k d->Cl k' d
  | .non,_=>by unfold Cl;trivial
  | .bl _,_=>by unfold Cl;trivial
  | .int _,_=>by unfold Cl;trivial
  | .str _,_=>by unfold Cl;trivial
  | .ty _,_=>by unfold Cl;trivial
  | .scr _,_=>by unfold Cl;trivial
  | .tup ds,c=>by unfold Cl at c ⊢;exact clL_mono h c
  | .lst ds,c=>by unfold Cl at c ⊢;exact clL_mono h c
  | .ref n,c=>by unfold Cl at c ⊢;exact AAN c h
 clL_mono {k k':Nat} (h:k<=k'):∀{ds:List D},ClL k ds->ClL k' ds
  |[],_=>by unfold ClL;trivial
  |_::_,c=>by unfold ClL at c ⊢;exact⟨cl_mono h c.1,clL_mono h c.2⟩
noncomputable def Ay(n:Nat)(ds:List D):Sl:=ds.map some++List.replicate (n-ds.length) none
theorem RelS.start{K:KW}{ι:Nat->Addr}{k:Nat}{H:Hp}{N:List Str}{ds:List D}{vs:List V}(i:IsL K ι k H ds vs):RelS K ι k H (Ay N.length ds) (L2.start N vs):=by
 have hl:=i.length;refine⟨by simp[Ay,L2.start,hl],λj d e=>?_⟩;unfold Ay at e;unfold L2.start;rcases Nat.lt_or_ge j ds.length with z|z
 ·rw[AAT (by simpa using z),AAW] at e;rw[AAT (by simpa[hl] using z),AAW];cases q:ds[j]? with
  |none=>rw[q] at e;cases e
  |some d0=>
   rw[q] at e;cases e;obtain⟨v,ev,iv⟩:=i.get q;exact⟨v,by rw[ev];rfl,iv⟩
 ·rw[AAS (by simpa using z),List.getElem?_replicate] at e;split at e<;>cases e
theorem Jb{P:Program}{w:World}{K:PySem.W.Frag}{mg:Str->Option Value}{base:Heap}{x qual:Str}{st:Stmt}{f:Addr}{fd:FuncData}{N ps:List Str}{k n:Nat}{φ:List D->M D}{mb:Sl->M (Fl×Sl)}(F:Fun K x qual st f fd)(S:Ac N ps (AI st))(hn:ps.length=n:=by rfl)
  (body:∀(cdv:Value) (A:Around) (outer:List Env) (s:Shared) (H:Hp) (E:XK),Room k (A.deeper (PyProof.Rows.envOfC qual (AI st) s.heap.objs.size f cdv))->RSs (BP CX0 P w K mg base N qual (AI st) f cdv A outer s H E).nox (AX st) mb)
  (run:∀ds μ d μ',φ ds μ=some (d,μ')->∃fl τ2 μ2,mb (Ay N.length ds) μ=some ((fl,τ2),μ2)/\(fl=.next∨∃d,fl=.rt d)/\E7 μ μ2 μ' (EF fl) d):FnOk P w K mg base CX0 (k+1) f fd ps (spM ⟨K,w⟩ n φ):=by
 refine F.ok S (λvs H Q E h=>by rw[hn];exact h.1) (λcdv A outer s H vs Q E hr h=>⟨_,(body cdv A outer s H E hr).pe,?_⟩);obtain⟨hl,ι,μ,ds,d,μ',R,i,e,q⟩:=h;obtain⟨fl,τ2,μ2,e2,hfl,t⟩:=run ds μ d μ' e;refine⟨ι,μ,_,fl,τ2,μ2,R,RelS.start i,e2,λι2 H2 E2 R2 σ2 S2=>?_⟩;obtain⟨E3,R3,c⟩:=Hk R E2 R2 t;rcases hfl with rfl|⟨d0,rfl⟩
 ·exact q ι2 H2 E3 R3 _ (c _ (by unfold EF Is;rfl))
 ·exact λv iv=>q ι2 H2 E3 R3 v (c v iv)
end
noncomputable def Cn:D->M (List D)
 | .lst ds=>ret ds
 | .scr ns=>ret (ns.map D.int)
 | .ref n=>λμ=>match μ[n]? with
  |some (.lst ds)=>some (ds,μ)
  |_=>none
 |_=>BS
section
variable{K:KW}{ι:Nat->Addr}{μ μ':Mh}{H:Hp}{d:D}{v:V}{ds:List D}
theorem DL(R:RelH K ι μ H)(i:Is K ι μ.length H d v)(e:Cn d μ=some (ds,μ')):μ'=μ/\∃p vs,v=.ref p/\SqL K H p vs/\IsL K ι μ.length H ds vs:=by
 cases d with
 |lst es=>
  cases e;unfold Is at i;obtain⟨p,vs,rfl,h1,hn,h2⟩:=i;exact⟨rfl,p,vs,rfl,SqL.of h1,h2⟩
 |scr ns=>
  cases e;unfold Is at i;obtain⟨p,rfl,h1⟩:=i;exact⟨rfl,p,_,rfl,h1.sq,IsL.ofInts ns⟩
 |ref n=>
  unfold Is at i;obtain⟨hn,rfl⟩:=i;have e':(match μ[n]? with|some (.lst ds)=>some (ds,μ)|_=>none)=some (ds,μ'):=e;split at e'
  ·rename_i es hq;cases e';obtain⟨u,h1,vs,rfl,h2⟩:=R.obj n _ hq;exact⟨rfl,_,vs,rfl,SqL.of h1,h2⟩
  ·cases e'
 |_=>cases e
theorem Bt{i:Int}(h:Is K ι μ.length H (.int i) v):v=.int i:=by unfold Is at h;exact h
theorem C5{i:Str}(h:Is K ι μ.length H (.str i) v):v=.str i:=by unfold Is at h;exact h
theorem RN{i:Bool}(h:Is K ι μ.length H (.bl i) v):v=.bl i:=by unfold Is at h;exact h
theorem MX(h:Is K ι μ.length H .non v):v=.non:=by unfold Is at h;exact h
theorem YT{n:String}(h:Is K ι μ.length H (.ty n) v):v=.ty n:=by unfold Is at h;exact h
theorem ofI{k:Nat}(i:Int):Is K ι k H (.int i) (.int i):=by unfold Is;rfl
theorem ofS{k:Nat}(i:Str):Is K ι k H (.str i) (.str i):=by unfold Is;rfl
theorem ofB{k:Nat}(i:Bool):Is K ι k H (.bl i) (.bl i):=by unfold Is;rfl
theorem ofN{k:Nat}:Is K ι k H .non .non:=by unfold Is;rfl
theorem F0{d:D}{vs:List V}{k:Nat}(h:IsL K ι k H [d] vs):∃v,vs=[v]/\Is K ι k H d v:=by
 unfold IsL at h;obtain⟨v,vs',rfl,h1,h2⟩:=h;unfold IsL at h2;subst h2;exact⟨v,rfl,h1⟩
theorem T9{d d':D}{vs:List V}{k:Nat}(h:IsL K ι k H [d,d'] vs):∃v v',vs=[v,v']/\Is K ι k H d v/\Is K ι k H d' v':=by
 unfold IsL at h;obtain⟨v,vs',rfl,h1,h2⟩:=h;obtain⟨v',rfl,h3⟩:=F0 h2;exact⟨v,v',rfl,h1,h3⟩
theorem Ww{i:Int}{vs:List V}{k:Nat}(h:IsL K ι k H ds vs)(e:atI ds i=some d):∃v,atI vs i=some v/\Is K ι k H d v:=by
 unfold atI at e ⊢;rw[h.length];cases q:ixN ds.length i with
 |none=>rw[q] at e;cases e
 |some j=>
  rw[q] at e;exact h.get e
theorem Rq{vs:List V}{k:Nat}{lo hi:Option Int}(h:IsL K ι k H ds vs):IsL K ι k H ((ds.drop (HT.sIx ds.length 0 lo)).take (HT.sIx ds.length ds.length hi-HT.sIx ds.length 0 lo)) (Lh vs lo hi):=by
 unfold Lh;rw[h.length];exact(h.drop _).take _
end
noncomputable def LZ(C:Int->Int->Prop)[∀i j,Decidable (C i j)](g:Int->Int->D):D->D->M D
 | .int i,.int j=>λμ=>if C i j then some (g i j,μ) else none
 |_,_=>BS
noncomputable def D9:D->D->M D:=LZ (λ_ _=>True) λi j=>.int (i-j)
noncomputable def Gk:D->D->M D:=LZ (λ_ j=>0<j/\j<1073741824) λi j=>.int (i / j)
noncomputable def HA:D->D->M D:=LZ (λ_ j=>0<j) λi j=>.int (i % j)
noncomputable def NJ:D->D->M D:=LZ (λi j=>0<=j/\j<=1000000/\i.natAbs<2 ^ 64) λi j=>.int (i ^ j.toNat)
noncomputable def Fu:D->D->M D:=LZ (λ_ _=>True) λi j=>.bl (decide (i<j))
noncomputable def Fv:D->D->M D:=LZ (λ_ _=>True) λi j=>.bl (decide (i<=j))
noncomputable def OS:D->D->M D:=LZ (λ_ _=>True) λi j=>.bl (decide (j<i))
section
variable{X:Cx}
theorem Fx{f:Value->Value->Sem Value}{C:Int->Int->Prop}[∀i j,Decidable (C i j)]{g:Int->Int->D}{gv:Int->Int->V}(hg:∀i j ι k H,Is X.kw ι k H (g i j) (gv i j))(ho:OpR X f (rI C gv)):OpR X f (rM X.kw (LZ C g)):=OpR.wk ho λx y H Q h=>by
 obtain⟨ι,μ,a,b,d,μ',R,ia,ib,e,q⟩:=h;cases a with
 |int i=>
  cases b with
  |int j=>
   have e':(if C i j then some (g i j,μ) else none)=some (d,μ'):=e;split at e'
   ·rename_i hc;cases e';exact⟨i,j,Bt ia,Bt ib,hc,q ι H R.ext0 R _ (hg i j _ _ _)⟩
   ·cases e'
  |_=>cases e
 |_=>cases e
theorem OpR.ofI0{f:Value->Value->Sem Value}{gv:Int->Int->V}(ho:OpR X f (rI0 gv)):OpR X f (rI (λ_ _=>True) gv):=OpR.wk ho λx y H Q h=>by
 obtain⟨i,j,h1,h2,_,q⟩:=h;exact⟨i,j,h1,h2,q⟩
theorem FK:OpR X (binaryOp .Sub) (rM X.kw D9):=Fx (λ_ _ _ _ _=>ofI _) (OpR.ofI0 Vw)
theorem KL:OpR X (binaryOp .FloorDiv) (rM X.kw Gk):=Fx (λ_ _ _ _ _=>ofI _) Ta
theorem JR:OpR X (binaryOp .Mod) (rM X.kw HA):=Fx (λ_ _ _ _ _=>ofI _) V1
theorem Ue:OpR X (binaryOp .Pow) (rM X.kw NJ):=Fx (λ_ _ _ _ _=>ofI _) Vy
theorem Ob:OpR X (compareOp .Lt) (rM X.kw Fu):=Fx (λ_ _ _ _ _=>ofB _) (OpR.ofI0 X2)
theorem Oc:OpR X (compareOp .LtE) (rM X.kw Fv):=Fx (λ_ _ _ _ _=>ofB _) (OpR.ofI0 X3)
theorem YA:OpR X (compareOp .Gt) (rM X.kw OS):=Fx (λ_ _ _ _ _=>ofB _) (OpR.ofI0 X4)
noncomputable def NL:D->M D
 | .int i=>ret (.int (-i))
 |_=>BS
theorem Q4:UnR X (unaryOp .USub) (rM1 X.kw NL):=λpins s σ H x v Q I r h=>by
 obtain⟨ι,μ,a,d,μ',R,ia,e,q⟩:=h;cases a with
 |int i=>
  cases e;have z:=Bt ia;subst z;exact U7 pins s σ H _ v Q I r ⟨i,rfl,q ι H R.ext0 R _ (ofI _)⟩
 |_=>cases e
noncomputable def Cz:D->D->M D
 | .int i,.int j=>ret (.int (i+j))
 | .str i,.str j=>bnd (lim (i.length+j.length)) λ_=>ret (.str (i++j))
 | .lst a,.lst b=>Aq (a++b)
 | .tup [],.tup b=>BS
 | .tup (a::as),.tup b=>AZ (a::as++b)
 |_,_=>BS
theorem FL:OpR X (binaryOp .Add) (rM X.kw Cz):=λpins s σ H x y v u Q I rx ry h=>by
 obtain⟨ι,μ,a,b,d,μ',R,ia,ib,e,q⟩:=h;unfold Cz at e;split at e
 ·cases e;cases Bt ia;cases Bt ib;exact V5 pins s σ H _ _ v u Q I rx ry ⟨_,_,rfl,rfl,q ι H R.ext0 R _ (ofI _)⟩
 ·obtain⟨_,μ1,e1,e2⟩:=AJ e;obtain⟨hl,rfl⟩:=CZ e1;cases e2;cases C5 ia;cases C5 ib;exact MP pins s σ H _ _ v u Q I rx ry ⟨_,_,rfl,rfl,hl,q ι H R.ext0 R _ (ofS _)⟩
 ·unfold Is at ia ib;obtain⟨p,vs,rfl,h1,hn,h2⟩:=ia;obtain⟨p',vs',rfl,h1',hn',h2'⟩:=ib;obtain⟨hl,w⟩:=Ei R (h2.append h2') e q;exact V4 pins s σ H _ _ v u Q I rx ry ⟨p,p',vs,vs',rfl,rfl,h1,h1',by rw[←AAH];exact hl,w⟩
 ·cases e
 ·rename_i a as bs;unfold Is at ia ib;obtain⟨p,vs,rfl,h1,h2⟩:=ia;obtain⟨p',vs',rfl,h1',h2'⟩:=ib;obtain⟨hl,w⟩:=NT R (h2.append h2') e q;refine Tc pins s σ H _ _ v u Q I rx ry ⟨p,p',vs,vs',rfl,rfl,h1,h1',λz=>?_,by rw[←AAH];exact hl,λz=>?_,λ_=>w⟩
  ·have:=h2.length;rw[z] at this;cases this
  ·subst z;have hb:bs=[]:=by
    have:=h2'.length;cases bs with
    |nil=>rfl
    |cons _ _=>cases this
   subst hb;obtain⟨_,μ1,e1,e2⟩:=AJ e;obtain⟨hl,rfl⟩:=CZ e1;cases e2;exact q ι H R.ext0 R _ (by unfold Is;exact⟨p,vs,rfl,h1,by rw[AAZ];exact h2⟩)
 ·cases e
noncomputable def Dq:D->D->M D
 | .int i,.int j=>λμ=>if (-(2 ^ 64)<i/\i<2 ^ 64)∨(-(2 ^ 64)<j/\j<2 ^ 64) then some (.int (i * j),μ) else none
 | .lst a,.int j=>λμ=>if -(2 ^ 63)<=j/\j<2 ^ 63/\a.length * j.toNat<=sizeLine then Aq (List.replicate j.toNat a).flatten μ else none
 |_,_=>BS
theorem IsL.rep{K:KW}{ι:Nat->Addr}{k:Nat}{H:Hp}{ds:List D}{vs:List V}(h:IsL K ι k H ds vs):∀n:Nat,IsL K ι k H (List.replicate n ds).flatten (List.replicate n vs).flatten
 |0=>.nil
 |n+1=>by
  rw[AAj,AAj,List.flatten_cons,List.flatten_cons];exact h.append (IsL.rep h n)
theorem HB:OpR X (binaryOp .Mult) (rM X.kw Dq):=λpins s σ H x y v u Q I rx ry h=>by
 obtain⟨ι,μ,a,b,d,μ',R,ia,ib,e,q⟩:=h;unfold Dq at e;split at e
 ·split at e
  ·rename_i hc;cases e;cases Bt ia;cases Bt ib;exact V0 pins s σ H _ _ v u Q I rx ry ⟨_,_,rfl,rfl,hc,q ι H R.ext0 R _ (ofI _)⟩
  ·cases e
 ·split at e
  ·rename_i hc;cases Bt ib;unfold Is at ia;obtain⟨p,vs,rfl,h1,hn,h2⟩:=ia;obtain⟨hl,w⟩:=Ei R (h2.rep _) e q;exact Vx pins s σ H _ _ v u Q I rx ry ⟨p,_,vs,rfl,rfl,h1,hc.1,hc.2.1,by rw[h2.length];exact hc.2.2,w⟩
  ·cases e
 ·cases e
mutual
def toP(μ:Mh):D->Option PyData
 | .non=>some .none
 | .bl b=>some (.bool b)
 | .int i=>some (.int i)
 | .str x=>some (.str x)
 | .ty _=>none
 | .scr ns=>some (.list (ns.map PyData.int))
 | .tup ds=>(E8 μ ds).map PyData.tuple
 | .lst ds=>(E8 μ ds).map PyData.list
 | .ref _=>none
def E8(μ:Mh):List D->Option (List PyData)
 |[]=>some []
 |d::ds=>(toP μ d).bind λp=>(E8 μ ds).map (p::·)
end
noncomputable def J6(μ:Mh):D->Option PyData
 | .ref n=>match μ[n]? with
  |some (.lst ds)=>(E8 μ ds).map PyData.list
  |_=>none
 |d=>toP μ d
section
variable{K:KW}{ι:Nat->Addr}{μ:Mh}{H:Hp}{k:Nat}
theorem Nr:∀(ns:List Int),DatVs K H (ns.map V.int) (ns.map PyData.int)
 |[]=>.nil
 |n::r=>.cons (.int n) (Nr r)
mutual
theorem Is.dat:∀{d:D} {v:V} {p:PyData},Is K ι k H d v->toP μ d=some p->DatV K H v p
 | .non,_,_,h,e=>by unfold Is at h;unfold toP at e;cases e;subst h;exact .non
 | .bl b,_,_,h,e=>by unfold Is at h;unfold toP at e;cases e;subst h;exact .bl b
 | .int b,_,_,h,e=>by unfold Is at h;unfold toP at e;cases e;subst h;exact .int b
 | .str b,_,_,h,e=>by unfold Is at h;unfold toP at e;cases e;subst h;exact .str b
 | .ty b,_,_,h,e=>by unfold toP at e;cases e
 | .scr ns,_,_,h,e=>by
  unfold Is at h;unfold toP at e;cases e;obtain⟨p,rfl,h⟩:=h;exact .lst h.sq (Nr ns)
 | .tup ds,_,_,h,e=>by
  unfold Is at h;unfold toP at e;obtain⟨p,vs,rfl,h1,h2⟩:=h;cases q:E8 μ ds with
  |none=>rw[q] at e;cases e
  |some ps=>rw[q] at e;cases e;exact .tup h1 (IsL.dat h2 q)
 | .lst ds,_,_,h,e=>by
  unfold Is at h;unfold toP at e;obtain⟨p,vs,rfl,h1,_,h2⟩:=h;cases q:E8 μ ds with
  |none=>rw[q] at e;cases e
  |some ps=>rw[q] at e;cases e;exact .lst (SqL.of h1) (IsL.dat h2 q)
 | .ref n,_,_,h,e=>by unfold toP at e;cases e
theorem IsL.dat:∀{ds:List D} {vs:List V} {ps:List PyData},IsL K ι k H ds vs->E8 μ ds=some ps->DatVs K H vs ps
 |[],_,_,h,e=>by unfold IsL at h;unfold E8 at e;cases e;subst h;exact .nil
 |d::ds,_,_,h,e=>by
  unfold IsL at h;unfold E8 at e;obtain⟨v,vs',rfl,h1,h2⟩:=h;cases q:toP μ d with
  |none=>rw[q] at e;cases e
  |some p=>
   rw[q] at e;cases q2:E8 μ ds with
   |none=>rw[q2] at e;cases e
   |some ps=>rw[q2] at e;cases e;exact .cons (Is.dat h1 q) (IsL.dat h2 q2)
end
theorem UO(R:RelH K ι μ H){d:D}{v:V}{p:PyData}(h:Is K ι μ.length H d v)(e:J6 μ d=some p):DatV K H v p:=by
 cases d with
 |ref n=>
  unfold Is at h;obtain⟨_,rfl⟩:=h;have e':(match μ[n]? with|some (.lst ds)=>(E8 μ ds).map PyData.list|_=>none)=some p:=e;split at e'
  ·rename_i ds hq;obtain⟨u,h1,vs,rfl,h2⟩:=R.obj n _ hq;cases q:E8 μ ds with
   |none=>rw[q] at e';cases e'
   |some ps=>rw[q] at e';cases e';exact .lst (SqL.of h1) (IsL.dat h2 q)
  ·cases e'
 |_=>exact Is.dat (μ:=μ) h e
end
noncomputable def Fo(neg:Bool)(a b:D):M D:=λμ=>match J6 μ a,J6 μ b with
 |some p,some q=>if SeqAt.shaped p=true/\SeqAt.shaped q=true then some (.bl (if neg then !PyData.eqv p q else PyData.eqv p q),μ) else none
 |_,_=>none
noncomputable def A7:D->D->M D:=Fo false
noncomputable def EO:D->D->M D:=Fo true
theorem IF{neg:Bool}{a b d:D}{μ μ':Mh}(e:Fo neg a b μ=some (d,μ')):∃p q,J6 μ a=some p/\J6 μ b=some q/\SeqAt.shaped p=true/\SeqAt.shaped q=true/\d=.bl (if neg then !PyData.eqv p q else PyData.eqv p q)/\μ'=μ:=by
 unfold Fo at e;split at e
 ·rename_i p q e1 e2;split at e
  ·rename_i h;cases e;exact⟨p,q,e1,e2,h.1,h.2,rfl,rfl⟩
  ·cases e
 ·cases e
theorem C0{k:Nat}(hr:Room k X.A):OpR X (compareOp .Eq) (rM X.kw A7):=OpR.wk (V3 (QR hr)) λx y H Q h=>by
 obtain⟨ι,μ,a,b,d,μ',R,ia,ib,e,q⟩:=h;obtain⟨p,p',e1,e2,s1,s2,rfl,rfl⟩:=IF e;exact⟨p,p',UO R ia e1,UO R ib e2,s1,s2,q ι H R.ext0 R _ (ofB _)⟩
theorem MQ{k:Nat}(hr:Room k X.A):OpR X (compareOp .NotEq) (rM X.kw EO):=OpR.wk (Vz (QR hr)) λx y H Q h=>by
 obtain⟨ι,μ,a,b,d,μ',R,ia,ib,e,q⟩:=h;obtain⟨p,p',e1,e2,s1,s2,rfl,rfl⟩:=IF e;exact⟨p,p',UO R ia e1,UO R ib e2,s1,s2,q ι H R.ext0 R _ (ofB _)⟩
noncomputable def isN:D->Bool
 | .non=>true
 |_=>false
noncomputable def LK(neg:Bool):D->D->M D
 |a,.non=>ret (.bl (if neg then !isN a else isN a))
 |_,_=>BS
theorem Nj{K:KW}{ι:Nat->Addr}{k:Nat}{H:Hp}{a:D}{x:V}(h:Is K ι k H a x):decide (x=V.non)=isN a:=by
 cases a with
 |non=>unfold Is at h;subst h;rfl
 |bl b=>unfold Is at h;subst h;rfl
 |int b=>unfold Is at h;subst h;rfl
 |str b=>unfold Is at h;subst h;rfl
 |ty b=>unfold Is at h;subst h;rfl
 |scr ns=>unfold Is at h;obtain⟨p,rfl,_⟩:=h;rfl
 |tup ns=>unfold Is at h;obtain⟨p,o,rfl,_⟩:=h;rfl
 |lst ns=>unfold Is at h;obtain⟨p,o,rfl,_⟩:=h;rfl
 |ref ns=>unfold Is at h;obtain⟨_,rfl⟩:=h;rfl
theorem ZC:OpR X (compareOp .Is) (rM X.kw (LK false)):=OpR.wk V2 λx y H Q h=>by
 obtain⟨ι,μ,a,b,d,μ',R,ia,ib,e,q⟩:=h;cases b with
 |non=>cases e;exact⟨MX ib,by rw[Nj ia];exact q ι H R.ext0 R _ (ofB _)⟩
 |_=>cases e
theorem Tg:OpR X (compareOp .IsNot) (rM X.kw (LK true)):=OpR.wk TZ λx y H Q h=>by
 obtain⟨ι,μ,a,b,d,μ',R,ia,ib,e,q⟩:=h;cases b with
 |non=>cases e;exact⟨MX ib,by rw[Nj ia];exact q ι H R.ext0 R _ (ofB _)⟩
 |_=>cases e
noncomputable def Je:D->Option V
 | .non=>some .non
 | .bl b=>some (.bl b)
 | .int i=>some (.int i)
 | .str x=>some (.str x)
 |_=>none
noncomputable def Gu:List D->Option (List V)
 |[]=>some []
 |d::ds=>(Je d).bind λv=>(Gu ds).map (v::·)
section
variable{K:KW}{ι:Nat->Addr}{H:Hp}{k:Nat}
theorem Le{d:D}{v x:V}(h:Is K ι k H d x)(e:Je d=some v):x=v/\Fp v=true:=by
 cases d with
 |non=>cases e;unfold Is at h;exact⟨h,rfl⟩
 |bl b=>cases e;unfold Is at h;exact⟨h,rfl⟩
 |int b=>cases e;unfold Is at h;exact⟨h,rfl⟩
 |str b=>cases e;unfold Is at h;exact⟨h,rfl⟩
 |_=>cases e
theorem Jd:∀{ds:List D} {vs xs:List V},IsL K ι k H ds xs->Gu ds=some vs->xs=vs/\vs.all Fp=true
 |[],_,_,h,e=>by cases e;unfold IsL at h;exact⟨h,rfl⟩
 |d::ds,_,_,h,e=>by
  unfold IsL at h;obtain⟨v,vs',rfl,h1,h2⟩:=h;unfold Gu at e;cases q:Je d with
  |none=>rw[q] at e;cases e
  |some w=>
   rw[q] at e;cases q2:Gu ds with
   |none=>rw[q2] at e;cases e
   |some ws=>
    rw[q2] at e;cases e;obtain⟨rfl,f1⟩:=Le h1 q;obtain⟨rfl,f2⟩:=Jd h2 q2;exact⟨rfl,by rw[List.all_cons,f1,f2];rfl⟩
end
noncomputable def Bw:D->M (List D)
 | .tup ds=>ret ds
 |d=>Cn d
theorem EX{K:KW}{ι:Nat->Addr}{μ μ':Mh}{H:Hp}{d:D}{v:V}{ds:List D}(R:RelH K ι μ H)(i:Is K ι μ.length H d v)(e:Bw d μ=some (ds,μ')):μ'=μ/\∃p vs,v=.ref p/\(SqL K H p vs∨SqT K H p vs)/\IsL K ι μ.length H ds vs:=by
 cases d with
 |tup es=>
  cases e;unfold Is at i;obtain⟨p,vs,rfl,h1,h2⟩:=i;exact⟨rfl,p,vs,rfl,.inr h1,h2⟩
 |lst es=>obtain⟨h,p,vs,a,b,c⟩:=DL R i e;exact⟨h,p,vs,a,.inl b,c⟩
 |scr es=>obtain⟨h,p,vs,a,b,c⟩:=DL R i e;exact⟨h,p,vs,a,.inl b,c⟩
 |ref es=>obtain⟨h,p,vs,a,b,c⟩:=DL R i e;exact⟨h,p,vs,a,.inl b,c⟩
 |_=>cases e
noncomputable def IX(neg:Bool)(a b:D):M D:=bnd (Bw b) λds=>λμ=>match Je a,Gu ds with
 |some x,some xs=>some (.bl (if neg then !inV x xs else inV x xs),μ)
 |_,_=>none
noncomputable def Fk(neg:Bool):D->D->M D
 | .str i,.str j=>ret (.bl (if neg then !(!(Builtin.Str.occurrences j i 0 j.length 1).isEmpty) else !(Builtin.Str.occurrences j i 0 j.length 1).isEmpty))
 |a,b=>IX neg a b
theorem Qh{K:KW}{neg:Bool}{x y:V}{H:Hp}{Q:VK}{ι:Nat->Addr}{μ μ':Mh}{a b d:D}(R:RelH K ι μ H)(ia:Is K ι μ.length H a x)(ib:Is K ι μ.length H b y)(e:IX neg a b μ=some (d,μ'))(q:Aft K ι μ H μ' λι' H'=>∀v,Is K ι' μ'.length H' d v->Q v H'):rIn K neg x y H Q:=by
 obtain⟨ds,μ1,e1,e2⟩:=AJ e;obtain⟨hm,p,vs,rfl,h1,h2⟩:=EX R ib e1;subst hm;split at e2
 ·rename_i w ws q1 q2;cases e2;obtain⟨rfl,f1⟩:=Le ia q1;obtain⟨rfl,f2⟩:=Jd h2 q2;exact⟨p,_,rfl,h1,f1,f2,q ι H R.ext0 R _ (ofB _)⟩
 ·cases e2
theorem V9:OpR X (compareOp .In) (rM X.kw (Fk false)):=λpins s σ H x y v u Q I rx ry h=>by
 obtain⟨ι,μ,a,b,d,μ',R,ia,ib,e,q⟩:=h;unfold Fk at e;split at e
 ·cases e;cases C5 ia;cases C5 ib;exact OX pins s σ H _ _ v u Q I rx ry ⟨_,_,rfl,rfl,q ι H R.ext0 R _ (ofB _)⟩
 ·exact OY pins s σ H _ _ v u Q I rx ry (Qh R ia ib e q)
theorem Tf:OpR X (compareOp .NotIn) (rM X.kw (Fk true)):=λpins s σ H x y v u Q I rx ry h=>by
 obtain⟨ι,μ,a,b,d,μ',R,ia,ib,e,q⟩:=h;unfold Fk at e;split at e
 ·cases e;cases C5 ia;cases C5 ib;exact KJ pins s σ H _ _ v u Q I rx ry ⟨_,_,rfl,rfl,q ι H R.ext0 R _ (ofB _)⟩
 ·exact KK pins s σ H _ _ v u Q I rx ry (Qh R ia ib e q)
noncomputable def ixD(ds:List D)(i:Int):M D:=λμ=>(atI ds i).map λd=>(d,μ)
noncomputable def AV:D->D->M D
 | .str z,.int i=>λμ=>if z.length<=sizeLine then (atI z.cps.toList i).map λc=>(.str ⟨#[c]⟩,μ) else none
 |a,.int i=>bnd (Bw a) λds=>ixD ds i
 |_,_=>BS
theorem Aj:IxR X (rM X.kw AV):=λva sl pins s σ H x y v u Q I rx ry h hsl=>by
 obtain⟨ι,μ,a,b,d,μ',R,ia,ib,e,q⟩:=h;unfold AV at e;split at e
 ·split at e
  ·rename_i z i hl;cases C5 ia;cases Bt ib;cases qq:atI z.cps.toList i with
   |none=>rw[qq] at e;cases e
   |some c=>
    rw[qq] at e;cases e;exact MW va sl pins s σ H _ _ v u Q I rx ry (.inr (.inr ⟨z,i,c,rfl,rfl,hl,qq,q ι H R.ext0 R _ (ofS _)⟩)) hsl
  ·cases e
 ·cases Bt ib;obtain⟨ds,μ1,e1,e2⟩:=AJ e;obtain⟨hm,p,vs,rfl,h1,h2⟩:=EX R ia e1;subst hm;rename_i i _;unfold ixD at e2;cases qq:atI ds i with
  |none=>rw[qq] at e2;cases e2
  |some c=>
   rw[qq] at e2;cases e2;obtain⟨w,ew,iw⟩:=Ww h2 qq;rcases h1 with h1|h1
   ·exact MW va sl pins s σ H _ _ v u Q I rx ry (.inl ⟨p,vs,i,w,rfl,rfl,h1,ew,q ι H R.ext0 R _ iw⟩) hsl
   ·exact MW va sl pins s σ H _ _ v u Q I rx ry (.inr (.inl ⟨p,vs,i,w,rfl,rfl,h1,ew,q ι H R.ext0 R _ iw⟩)) hsl
 ·cases e
noncomputable def Bs:List D->M D
 |[.str z]=>λμ=>if z.length<=sizeLine then some (.int z.length,μ) else none
 |[.ref n]=>λμ=>match μ[n]? with
  |some (.lst ds)=>some (.int ds.length,μ)
  |_=>none
 |[d]=>bnd (Bw d) λds=>ret (.int ds.length)
 |_=>BS
theorem CS:CT X (.builtin "len") (rMA X.kw Bs):=λpins s σ H xs us Q I r h=>by
 obtain⟨ι,μ,as,d,μ',R,ia,e,q⟩:=h;refine Ru pins s σ H xs us Q I r ?_;unfold Bs at e;split at e
 ·rename_i z;obtain⟨v,rfl,i1⟩:=F0 ia;split at e
  ·rename_i hl;cases e;cases C5 i1;exact⟨_,_,rfl,⟨hl,rfl⟩,q ι H R.ext0 R _ (ofI _)⟩
  ·cases e
 ·rename_i n;obtain⟨v,rfl,i1⟩:=F0 ia;unfold Is at i1;obtain⟨_,rfl⟩:=i1;split at e
  ·rename_i ds hq;cases e;obtain⟨u,h1,vs,rfl,h2⟩:=R.obj n _ hq;exact⟨_,_,rfl,.inl ⟨vs,SqL.of h1,rfl⟩,by rw[h2.length];exact q ι H R.ext0 R _ (ofI _)⟩
  ·cases e
 ·obtain⟨v,rfl,i1⟩:=F0 ia;obtain⟨ds,μ1,e1,e2⟩:=AJ e;obtain⟨hm,p,vs,rfl,h1,h2⟩:=EX R i1 e1;subst hm;cases e2;rw[←h2.length] at q;rcases h1 with h1|h1
  ·exact⟨_,_,rfl,.inl ⟨vs,h1,rfl⟩,q ι H R.ext0 R _ (ofI _)⟩
  ·exact⟨_,_,rfl,.inr ⟨vs,h1,rfl⟩,q ι H R.ext0 R _ (ofI _)⟩
 ·cases e
noncomputable def E9(ds:List D)(lo hi:Option Int):List D:=(ds.drop (HT.sIx ds.length 0 lo)).take (HT.sIx ds.length ds.length hi-HT.sIx ds.length 0 lo)
noncomputable def Qj(lo hi:Option Int):D->M D
 | .tup ds=>if HT.sIx ds.length 0 lo=0/\HT.sIx ds.length ds.length hi=ds.length then BS else ret (.tup (E9 ds lo hi))
 |d=>bnd (Cn d) λds=>ret (.lst (E9 ds lo hi))
noncomputable def rMS(K:KW):V->Option Int->Option Int->Hp->VK->Prop:=λx lo hi H Q=>∃ι μ a d μ',RelH K ι μ H/\Is K ι μ.length H a x/\Qj lo hi a μ=some (d,μ') /\
 Aft K ι μ H μ' λι' H'=>∀v,Is K ι' μ'.length H' d v->Q v H'
theorem Uh{K:KW}{ι:Nat->Addr}{μ:Mh}{H:Hp}{ds:List D}{vs:List V}{Q:VK}(R:RelH K ι μ H)(i:IsL K ι μ.length H ds vs)(q:Aft K ι μ H μ λι' H'=>∀v,Is K ι' μ.length H' (.lst ds) v->Q v H')(p:Addr)(hp:H p=none):Q (.ref p) (upd H p (.lst vs)):=by
 obtain⟨E1,R1⟩:=R.laid (.lst vs) hp;have ho:∀n,n<μ.length->ι n≠p:=λn hn z=>by
  obtain⟨o,e,_⟩:=R.muts n hn;rw[z,hp] at e;cases e
 exact q ι _ E1 R1 _ (by unfold Is;exact⟨p,vs,rfl,BU,ho,i.ext E1⟩)
theorem NZ{K:KW}{ι:Nat->Addr}{μ:Mh}{H:Hp}{ds:List D}{vs:List V}{Q:VK}(R:RelH K ι μ H)(i:IsL K ι μ.length H ds vs)(q:Aft K ι μ H μ λι' H'=>∀v,Is K ι' μ.length H' (.tup ds) v->Q v H')(p:Addr)(hp:H p=none):Q (.ref p) (upd H p (.tup vs)):=by
 obtain⟨E1,R1⟩:=R.laid (.tup vs) hp;exact q ι _ E1 R1 _ (by unfold Is;exact⟨p,vs,rfl,SqT.of BU,i.ext E1⟩)
theorem X9:SlR X (rMS X.kw):=λpins s σ H x v vl vu lo hi sl Q I rx hs pl pu h=>by
 obtain⟨ι,μ,a,d,μ',R,ia,e,q⟩:=h;refine(SlR.or Sg VF) pins s σ H x v vl vu lo hi sl Q I rx hs pl pu ?_;unfold Qj at e;split at e
 ·rename_i ds;unfold Is at ia;obtain⟨p,vs,rfl,h1,h2⟩:=ia;split at e
  ·cases e
  ·rename_i hc;cases e;exact .inr ⟨p,vs,rfl,h1,by rw[h2.length];exact hc,λp hp=>NZ R (Rq h2) q p hp⟩
 ·obtain⟨ds,μ1,e1,e2⟩:=AJ e;obtain⟨hm,p,vs,rfl,h1,h2⟩:=DL R ia e1;subst hm;cases e2;exact .inl ⟨p,vs,rfl,h1,λp hp=>Uh R (Rq h2) q p hp⟩
noncomputable def mSl(me:Sl->M D)(ml mh:Sl->M (Option Int)):Sl->M D:=λτ=>bnd (me τ) λx=>bnd (ml τ) λl=>bnd (mh τ) λh=>Qj l h x
noncomputable def BC:Sl->M (Option Int):=λ_=>ret none
noncomputable def asI:D->M (Option Int)
 | .int i=>ret (some i)
 |_=>BS
noncomputable def BT(m:Sl->M D):Sl->M (Option Int):=λτ=>bnd (m τ) asI
noncomputable def tPt(K:KW)(m:Sl->M (Option Int)):TO:=λσ H Q=>∃ι μ τ b μ',RelH K ι μ H/\RelS K ι μ.length H τ σ/\m τ μ=some (b,μ')/\Aft K ι μ H μ' λ_ H'=>Q b H'
structure RO(X:Cx)(e:Option Expr)(m:Sl->M (Option Int)):Prop where
 pe:PO X e (tPt X.kw m)
theorem PO.wk{e:Option Expr}{t t':TO}(h:PO X e t)(w:∀σ H Q,t' σ H Q->t σ H Q):PO X e t':=λpins s σ H Q I q=>h pins s σ H Q I (w σ H Q q)
theorem RO.wk{e:Option Expr}{m:Sl->M (Option Int)}{t:TO}(h:PO X e t)(w:∀σ H Q,tPt X.kw m σ H Q->t σ H Q):RO X e m:=⟨PO.wk h w⟩
theorem A2:RO X none BC:=RO.wk TN λσ H Q h=>by
 obtain⟨ι,μ,τ,b,μ',R,S,e,q⟩:=h;cases e;exact q ι H R.ext0 R
theorem Az{e:Expr}{m:Sl->M D}(h:RE X e m):RO X (some e) (BT m):=RO.wk (TM h.pe) λσ H Q h=>by
 obtain⟨ι,μ,τ,b,μ',R,S,e,q⟩:=h;obtain⟨x,μ1,e1,e⟩:=AJ e;refine⟨ι,μ,τ,x,μ1,R,S,e1,λι1 H1 E1 R1 v i1=>?_⟩;cases x with
 |int i=>cases e;exact⟨i,Bt i1,q ι1 H1 E1 R1⟩
 |_=>cases e
theorem Qc{e:Expr}{lo hi:Option Expr}{me:Sl->M D}{ml mh:Sl->M (Option Int)}{pos p2:Pos}(he:RE X e me)(hl:RO X lo ml)(hh:RO X hi mh):RE X (.Subscript e (.Slice lo hi none p2) pos) (mSl me ml mh):=RE.wk (LL X9 he.pe hl.pe hh.pe) λσ H Q h=>by
 obtain⟨ι,μ,τ,z,μ',R,S,e,q⟩:=h;obtain⟨x,μ1,e1,e⟩:=AJ e;obtain⟨l,μ2,e2,e⟩:=AJ e;obtain⟨u,μ3,e3,e⟩:=AJ e;refine⟨ι,μ,τ,x,μ1,R,S,e1,λι1 H1 E1 R1 v i1=>⟨ι1,μ1,τ,l,μ2,R1,S.ext E1,e2,λι2 H2 E2 R2=>⟨ι2,μ2,τ,u,μ3,R2,S.ext (E1.trans E2),e3,λι3 H3 E3 R3=>?_⟩⟩⟩;have E23:=E2.trans E3;exact⟨ι3,μ3,x,z,μ',R3,i1.ext E23,e,λι4 H4 E4 R4=>q ι4 H4 ((E1.trans E23).trans E4) R4⟩
noncomputable def tyD(μ:Mh):D->Option String
 | .non=>some "NoneType"
 | .bl _=>some "bool"
 | .int _=>some "int"
 | .str _=>some "str"
 | .tup _=>some "tuple"
 | .lst _=>some "list"
 | .scr _=>none
 | .ref n=>match μ[n]? with
  |some (.lst _)=>some "list"
  |some (.dK _)=>some "dict"
  |some (.dC _)=>none
  |some (.ins _ _)=>none
  |some (.dP _)=>none
  |some (.exc _ _)=>none
  |none=>none
 | .ty _=>none
noncomputable def Et(t T:String):Option Bool:=
 if t∈["NoneType", "bool", "int", "str", "tuple", "list", "dict"]/\T∈["bool", "int", "str", "tuple", "list", "dict"] then some (t==T||(t == "bool" && T == "int")) else none
theorem T0{K:KW}{t T:String}{b:Bool}(h:Et t T=some b):PySem.W.kitOne K (.type t) (.type T)=some b:=by
 unfold Et at h;split at h
 ·rename_i hm;obtain⟨h1,h2⟩:=hm;simp only[AAJ,List.not_mem_nil,or_false] at h1 h2;rcases h1 with rfl|rfl|rfl|rfl|rfl|rfl|rfl<;>rcases h2 with rfl|rfl|rfl|rfl|rfl|rfl<;>(cases h;kernel_rfl)
 ·cases h
noncomputable def Eu:List D->M D
 |[a,.ty T]=>λμ=>match tyD μ a with
  |some t=>(Et t T).map λb=>(.bl b,μ)
  |none=>none
 |_=>BS
theorem G1:CT X (.builtin "isinstance") (rMA X.kw Eu):=λpins s σ H xs us Q I r h=>by
 obtain⟨ι,μ,as,d,μ',R,ia,e,q⟩:=h;unfold Eu at e;split at e
 ·rename_i a T;obtain⟨v,v',rfl,i1,i2⟩:=T9 ia;cases YT i2;split at e
  ·rename_i t ht;cases hk:Et t T with
   |none=>rw[hk] at e;cases e
   |some b=>
    rw[hk] at e;cases e;have kit:=T0 (K:=X.kw) hk;have fin:=q ι H R.ext0 R _ (ofB b);have byTy:Gc X.kw H v (.type t)->wpAny (model X.prog X.w) X.A (call (.builtin "isinstance") us) (EP X pins σ Q) X.xe s:=λty=>
     Lm pins s σ H _ us Q I r ⟨v,T,_,b,rfl,ty,kit,fin⟩
    cases a with
    |non=>cases ht;cases MX i1;exact byTy .non
    |bl x=>cases ht;cases RN i1;exact byTy (.bl x)
    |int x=>cases ht;cases Bt i1;exact byTy (.int x)
    |str x=>cases ht;cases C5 i1;exact byTy (.str x)
    |ty n=>cases ht
    |lst ds=>cases ht;unfold Is at i1;obtain⟨p,vs,rfl,h1,_⟩:=i1;exact byTy (.lst h1)
    |scr ns=>cases ht
    |ref n=>
     unfold Is at i1;obtain⟨_,rfl⟩:=i1;have ht:(match μ[n]? with|some (.lst _)=>some "list" |some (.dK _)=>some "dict" |some (.dC _)=>none|some (.ins _ _)=>none|some (.dP _)=>none|some (.exc _ _)=>none|none=>none)=some t:=ht;split at ht
     ·rename_i ds hq;cases ht;obtain⟨u,h1,vs,rfl,h2⟩:=R.obj n _ hq;exact byTy (.lst h1)
     ·rename_i ds hq;cases ht;obtain⟨u,h1,vs,rfl,h2⟩:=R.obj n _ hq;exact byTy (.dK h1)
     ·cases ht
     ·cases ht
     ·cases ht
     ·cases ht
     ·cases ht
    |tup ds=>
     cases ht;unfold Is at i1;obtain⟨p,vs,rfl,h1,h2⟩:=i1;obtain⟨its,_,⟨o,g1,g2,_⟩,_⟩:=I.tuple h1;obtain⟨u1,u2,rfl,r1,r2⟩:=Vals.two r;cases r1;cases r2;exact PySem.W.kia_one PySem.W.kitx_tuple I.kIn ⟨o,g1,g2⟩ kit (λz=>nomatch z) λtk=>⟨.bl b,H,I.tok _,rfl,fin⟩
  ·cases e
 ·cases e
noncomputable def LY:List D->M D
 |[.int i]=>ret (.int i)
 |[.bl b]=>ret (.int (if b then 1 else 0))
 |_=>BS
theorem Ur:CT X (.type "int") (rMA X.kw LY):=λpins s σ H xs us Q I r h=>by
 obtain⟨ι,μ,as,d,μ',R,ia,e,q⟩:=h;refine PM pins s σ H xs us Q I r ?_;unfold LY at e;split at e
 ·obtain⟨v,rfl,i1⟩:=F0 ia;cases e;cases Bt i1;exact .inl ⟨_,rfl,q ι H R.ext0 R _ (ofI _)⟩
 ·obtain⟨v,rfl,i1⟩:=F0 ia;cases e;cases RN i1;exact .inr ⟨_,rfl,q ι H R.ext0 R _ (ofI _)⟩
 ·cases e
noncomputable def Tq:List D->M D
 |[.int i,.int j]=>ret (.int (if j > i then j else i))
 |_=>BS
noncomputable def Of:List D->M D
 |[.int i,.int j]=>ret (.int (if j<i then j else i))
 |_=>BS
theorem Yi(hc:X.calm=true):CT X (.builtin "max") (rMA X.kw Tq):=λpins s σ H xs us Q I r h=>by
 obtain⟨ι,μ,as,d,μ',R,ia,e,q⟩:=h;refine PK hc pins s σ H xs us Q I r ?_;unfold Tq at e;split at e
 ·obtain⟨v,w,rfl,i1,i2⟩:=T9 ia;cases e;cases Bt i1;cases Bt i2;exact⟨_,_,rfl,q ι H R.ext0 R _ (ofI _)⟩
 ·cases e
theorem Uq(hc:X.calm=true):CT X (.builtin "min") (rMA X.kw Of):=λpins s σ H xs us Q I r h=>by
 obtain⟨ι,μ,as,d,μ',R,ia,e,q⟩:=h;refine PH hc pins s σ H xs us Q I r ?_;unfold Of at e;split at e
 ·obtain⟨v,w,rfl,i1,i2⟩:=T9 ia;cases e;cases Bt i1;cases Bt i2;exact⟨_,_,rfl,q ι H R.ext0 R _ (ofI _)⟩
 ·cases e
noncomputable def FD:List D->M D
 |[.tup ds]=>ret (.tup ds)
 |[d]=>bnd (Cn d) λds=>ret (.tup ds)
 |_=>BS
theorem HV:CT X (.type "tuple") (rMA X.kw FD):=λpins s σ H xs us Q I r h=>by
 obtain⟨ι,μ,as,d,μ',R,ia,e,q⟩:=h;unfold FD at e;split at e
 ·obtain⟨v,rfl,i1⟩:=F0 ia;cases e;have i2:=i1;unfold Is at i1;obtain⟨p,vs,rfl,h1,h2⟩:=i1;exact Ll pins s σ H _ us Q I r ⟨p,vs,rfl,h1,q ι H R.ext0 R _ i2⟩
 ·obtain⟨v,rfl,i1⟩:=F0 ia;obtain⟨ds,μ1,e1,e2⟩:=AJ e;obtain⟨hm,p,vs,rfl,h1,h2⟩:=DL R i1 e1;subst hm;cases e2;obtain⟨u,rfl,ru⟩:=Vals.one r;cases ru;obtain⟨its,rv,pl,hz⟩:=I.list h1;refine PySem.call_tuple_list pl.isList (λh' hk=>?_) (by rw[List.size_toArray,←rv.length];exact hz);have I1:Inv X pins σ H { s with heap:=h' }:=I.kept (t':=s.toks) hk;have I2:Inv X pins σ (upd H h'.objs.size (.tup vs)) { s with heap:=h'.push { cls:=.type "tuple",data:=.seq its.toArray } }:=I1.laid (t':=s.toks) (o:=.tup vs) (λb ob q=>AAC _ q) (AAF _) ⟨hz,its,rv,PyProof.Rows.IsTup.new _ _⟩;exact⟨.ref h'.objs.size,_,I2,rfl,NZ R h2 q _ (I1.hok.fresh (AAF _))⟩
 ·cases e
end
section
variable{X:Cx}{e a b c o i f tg:Expr}{es:List Expr}{pos apos cpos:Pos}
theorem QE{K:KW}{g g':D->D->M D}{ma mb mc:Sl->M D}{σ:St}{H:Hp}{Q:VK}(h:tE K (Du g g' ma mb mc) σ H Q):QF (rM K g) (rM K g') (tE K ma) (tE K mb) (tE K mc) σ H Q:=by
 obtain⟨ι,μ,τ,d,μ',R,S,e,q⟩:=h;obtain⟨x,μ1,e1,ee1⟩:=AJ e;obtain⟨y,μ2,e2,ee2⟩:=AJ ee1;obtain⟨z,μ3,e3,ee3⟩:=AJ ee2;obtain⟨k,μ4,e4,ee4⟩:=AJ ee3;obtain⟨hz,hm⟩:=Ga e4;subst hm;subst hz;refine⟨ι,μ,τ,x,μ1,R,S,e1,λι1 H1 E1 R1 v1 i1=>⟨ι1,μ1,τ,y,μ2,R1,S.ext E1,e2,λι2 H2 E2 R2 v2 i2=>?_⟩⟩;refine⟨ι2,μ2,x,y,_,_,R2,i1.ext E2,i2,e3,λι3 H3 E3 R3 v3 i3=>⟨k,RN i3,?_⟩⟩;have E13:=(E1.trans E2).trans E3;cases k with
 |false=>cases ee4;exact q ι3 H3 E13 R3 _ (ofB _)
 |true=>
  obtain⟨w,μ5,e5,ee5⟩:=AJ ee4;exact⟨ι3,_,τ,w,μ5,R3,S.ext E13,e5,λι4 H4 E4 R4 v4 i4=>⟨ι4,μ5,y,w,d,μ',R4,i2.ext (E3.trans E4),i4,ee5,λι5 H5 E5 R5=>q ι5 H5 ((E13.trans E4).trans E5) R5⟩⟩
theorem Hz{op op':CmpOp}{g g':D->D->M D}{ma mb mc:Sl->M D}(ho:OpR X (compareOp op) (rM X.kw g))(ho':OpR X (compareOp op') (rM X.kw g'))(ha:RE X a ma)(hb:RE X b mb)(hc:RE X c mc)(hm:lastMarks [op,op'] [b,c]=false:=by with_unfolding_all rfl):
  RE X (.Compare a [op,op'] [b,c] pos) (Du g g' ma mb mc):=RE.wk (Qx ho ho' ha.pe hb.pe hc.pe hm) λ_ _ _ h=>QE h
theorem Eg{x:Str}{n:String}(hm:X.mg x=none)(hv:bootBuiltins x=some (.type n))(hg:Gl X x:=by rfl)(hn:x ≠ "__name__" := by decide)(hdb:(x==("__debug__" : Str))=false:=by decide):RE X (.Name x pos) (mC (.ty n)):=
 ON (t:=λ_ _ _=>True) (TW (v:=.ty n) hg hm hv rfl hn hdb) λ_ _ _=>by unfold Is;rfl
noncomputable def FQ(d:D):M Unit:=bnd (Cn d) λ_=>ret ()
noncomputable def Dt(g:D->List D->M D)(mo:Sl->M D)(ma:Sl->M (List D)):Sl->M D:=λτ=>bnd (mo τ) λx=>bnd (FQ x) λ_=>bnd (ma τ) λxs=>g x xs
noncomputable def rMM(K:KW)(g:D->List D->M D):V->List V->Hp->VK->Prop:=λx xs H Q=>∃ι μ a as d μ',RelH K ι μ H/\Is K ι μ.length H a x/\IsL K ι μ.length H as xs/\g a as μ=some (d,μ') /\
 Aft K ι μ H μ' λι' H'=>∀v,Is K ι' μ'.length H' d v->Q v H'
theorem Lc{K:KW}{ι:Nat->Addr}{μ μ':Mh}{H:Hp}{d:D}{v:V}{u:Unit}(R:RelH K ι μ H)(i:Is K ι μ.length H d v)(e:FQ d μ=some (u,μ')):μ'=μ/\tyV K "list" v H:=by
 obtain⟨ds,μ1,e1,ee1⟩:=AJ e;cases ee1;obtain⟨hm,p,vs,rfl,h1,h2⟩:=DL R i e1;exact⟨hm,.inl ⟨rfl,vs,h1⟩⟩
theorem Ox{μ μ':Mh}{d:D}{u:Unit}(e:FQ d μ=some (u,μ')):μ'=μ:=by
 obtain⟨ds,μ1,e1,ee1⟩:=AJ e;cases ee1;cases d with
 |lst _=>cases e1;rfl
 |scr _=>cases e1;rfl
 |ref n=>
  have e1:(match μ[n]? with|some (.lst ds)=>some (ds,μ)|_=>none)=some (ds,μ'):=e1;split at e1
  ·cases e1;rfl
  ·cases e1
 |_=>cases e1
theorem QA{K:KW}{g:D->List D->M D}{mo:Sl->M D}{ma:Sl->M (List D)}{σ:St}{H:Hp}{Q:VK}(h:tE K (Dt g mo ma) σ H Q):tBM K "list" (rMM K g) (tE K mo) (tL K ma) σ H Q:=by
 obtain⟨ι,μ,τ,d,μ',R,S,e,q⟩:=h;obtain⟨x,μ1,e1,ee1⟩:=AJ e;obtain⟨u,μ2,e2,ee2⟩:=AJ ee1;obtain⟨as,μ3,e3,ee3⟩:=AJ ee2;have hm:=Ox e2;subst hm;refine⟨ι,μ,τ,x,_,R,S,e1,λι1 H1 E1 R1 v1 i1=>⟨(Lc R1 i1 e2).2,?_⟩⟩;refine⟨ι1,_,τ,as,μ3,R1,S.ext E1,e3,λι2 H2 E2 R2 vs i2=>?_⟩;exact⟨ι2,μ3,x,as,d,μ',R2,i1.ext E2,i2,ee3,λι3 H3 E3 R3=>q ι3 H3 ((E1.trans E2).trans E3) R3⟩
theorem FH{name:Str}{id:String}{g:D->List D->M D}{mo:Sl->M D}{ma:Sl->M (List D)}(slot:Slot "list" name id)(hty:typeOf (.builtin id)=pure (.type "method_descriptor"))(hm:MtR X id (rMM X.kw g))(ho:RE X o mo)(ha:RA X (e::es) ma)
  (hbase:attributeBase o name X.env (eval o X.env)=eval o X.env:=by rfl)
  (hfew:((backTo cpos (starEach (e::es) X.env)).all (λx=>!x.1)&&(backToKw cpos (keywordEach [] X.env)).all (λx=>x.1.isSome)
   && decide ((e::es).length+([]:List Keyword).length+(if ([]:List Keyword).isEmpty then 0 else 1)<30))=true:=by rfl)
  (hline:(apos.endLine==cpos.line)=true:=by rfl) (hs:starEach (e::es) X.env=(false,eval e X.env)::starEach es X.env:=by exact Av rfl) (hplain:(backTo cpos (starEach es X.env)).any (·.1)=false:=by exact BB rfl) :
  RE X (.Call (.Attribute o name apos) (e::es) [] cpos) (Dt g mo ma):=RE.wk (Xw PySem.F.plainAttrs_list slot hty hm ho.pe ha.pe hbase hfew hline hs hplain) λ_ _ _ h=>QA h
noncomputable def J3(n:Nat)(k:List D->Option (D×List D)):M D:=λμ=>match μ[n]? with
 |some (.lst ds)=>(k ds).map λr=>(r.1,μ.set n (.lst r.2))
 |_=>none
theorem JK{n:Nat}{k:List D->Option (D×List D)}{μ μ':Mh}{d:D}(e:J3 n k μ=some (d,μ')):∃ds es,μ[n]?=some (.lst ds)/\k ds=some (d,es)/\μ'=μ.set n (.lst es):=by
 unfold J3 at e;split at e
 ·rename_i ds hq;cases hk:k ds with
  |none=>rw[hk] at e;cases e
  |some r=>rw[hk] at e;cases e;exact⟨ds,r.2,hq,hk,rfl⟩
 ·cases e
theorem Mz{K:KW}{ι:Nat->Addr}{μ:Mh}{H:Hp}{n:Nat}{d:D}{es:List D}{ws:List V}{v:V}{Q:VK}{ds:List D}(R:RelH K ι μ H)(hn:μ[n]?=some (.lst ds))(iw:IsL K ι μ.length H es ws)(iv:Is K ι μ.length H d v)
  (q:Aft K ι μ H (μ.set n (.lst es)) λι' H'=>∀v,Is K ι' (μ.set n (.lst es)).length H' d v->Q v H'):Q v (upd H (ι n) (.lst ws)):=by
 have hlt:n<μ.length:=(AAU.mp hn).1;obtain⟨E1,R1⟩:=R.changed (m:=.lst es) (o:=.lst ws) hlt ⟨ws,rfl,iw⟩;exact q ι _ E1 R1 v (iv.ext E1)
noncomputable def Mn:D->List D->M D
 | .ref n,[d]=>J3 n λds=>if ds.length<sizeLine then some (.non,ds++[d]) else none
 |_,_=>BS
theorem IM:MtR X "list.append" (rMM X.kw Mn):=λpins s σ H x xs v us Q I rx rs h=>by
 obtain⟨ι,μ,a,as,d,μ',R,ia,ib,e,q⟩:=h;unfold Mn at e;split at e
 ·rename_i n y;obtain⟨ds,es,h1,h2,rfl⟩:=JK e;split at h2
  ·rename_i hl;cases h2;obtain⟨w,rfl,iw⟩:=F0 ib;unfold Is at ia;obtain⟨_,rfl⟩:=ia;obtain⟨u,g1,vs,rfl,g2⟩:=R.obj n _ h1;exact Oe pins s σ H _ _ v us Q I rx rs ⟨_,vs,w,rfl,rfl,g1,by rw[g2.length];exact hl,Mz R h1 (g2.append (.one iw)) ofN q⟩
  ·cases h2
 ·cases e
noncomputable def Rc:D->List D->M D
 | .ref n,[.lst zs]=>J3 n λds=>if ds.length+zs.length<=sizeLine then some (.non,ds++zs) else none
 |_,_=>BS
theorem LQ:MtR X "list.extend" (rMM X.kw Rc):=λpins s σ H x xs v us Q I rx rs h=>by
 obtain⟨ι,μ,a,as,d,μ',R,ia,ib,e,q⟩:=h;unfold Rc at e;split at e
 ·rename_i n zs;obtain⟨ds,es,h1,h2,rfl⟩:=JK e;split at h2
  ·rename_i hl;cases h2;obtain⟨w,rfl,iw⟩:=F0 ib;unfold Is at ia iw;obtain⟨_,rfl⟩:=ia;obtain⟨p,ws,rfl,k1,_,k2⟩:=iw;obtain⟨u,g1,vs,rfl,g2⟩:=R.obj n _ h1;exact Od pins s σ H _ _ v us Q I rx rs ⟨_,p,vs,ws,rfl,rfl,g1,k1,by rw[g2.length,k2.length];exact hl,Mz R h1 (g2.append k2) ofN q⟩
  ·cases h2
 ·cases e
noncomputable def ZV:D->List D->M D
 | .ref n,[.int i,d]=>J3 n λds=>if 0<=i/\i<2 ^ 62/\ds.length<sizeLine then some (.non,ds.take i.toNat++d::ds.drop i.toNat) else none
 |_,_=>BS
noncomputable def QJ:D->D->D->M Unit
 | .ref n,.int k,d=>λμ=>match μ[n]? with
  |some (.lst ds)=>(ixN ds.length k).map λj=>((),μ.set n (.lst (ds.set j d)))
  |_=>none
 |_,_,_=>BS
noncomputable def SA(mo mi:Sl->M D):D->Sl->M Sl:=λd τ=>bnd (mo τ) λx=>bnd (mi τ) λy=>bnd (QJ x y d) λ_=>ret τ
theorem OJ{x y d:D}{μ μ':Mh}{u:Unit}(e:QJ x y d μ=some (u,μ')):∃n k ds j,x=.ref n/\y=.int k/\μ[n]?=some (.lst ds)/\ixN ds.length k=some j/\μ'=μ.set n (.lst (ds.set j d)):=by
 unfold QJ at e;split at e
 ·rename_i n k;split at e
  ·rename_i ds hq;cases hk:ixN ds.length k with
   |none=>rw[hk] at e;cases e
   |some j=>rw[hk] at e;cases e;exact⟨n,k,ds,j,rfl,rfl,hq,hk,rfl⟩
  ·cases e
 ·cases e
theorem Qa{mo mi:Sl->M D}(ho:RE X o mo)(hi:RE X i mi)
  (ha:∀v,assign (.Subscript o i pos) X.env v=(do
   let ov ←holding [v] (eval o X.env)
   let iv ←holding [v,ov] (eval i X.env)
   standAt pos
   holding [v,ov,iv] (setItem ov iv v)
   release [v,ov,iv] []):=by intro _;rfl):RG X (.Subscript o i pos) (SA mo mi):=RG.wk (Vh ho.pe hi.pe QI ha) λv σ H Q h=>by
 obtain⟨ι,μ,τ,d,τ',μ',R,S,i1,e,q⟩:=h;obtain⟨x,μ1,e1,ee1⟩:=AJ e;obtain⟨y,μ2,e2,ee2⟩:=AJ ee1;obtain⟨u,μ3,e3,ee3⟩:=AJ ee2;cases ee3;refine⟨ι,μ,_,x,μ1,R,S,e1,λι1 H1 E1 R1 v1 j1=>⟨ι1,μ1,_,y,μ2,R1,S.ext E1,e2,λι2 H2 E2 R2 v2 j2=>?_⟩⟩;obtain⟨n,k,ds,j,rfl,rfl,g1,g2,rfl⟩:=OJ e3;have E12:=E1.trans E2;have j1':=j1.ext E2;unfold Is at j1';obtain⟨hlt,rfl⟩:=j1';cases Bt j2;obtain⟨w,k1,vs,rfl,k2⟩:=R2.obj n _ g1;obtain⟨E3,R3⟩:=R2.changed (m:=.lst (ds.set j d)) (o:=.lst (vs.set j v)) hlt ⟨_,rfl,k2.set (i1.ext E12) j⟩;exact⟨_,vs,k,j,rfl,rfl,k1,by rw[k2.length];exact g2,q ι2 _ (E12.trans E3) R3 σ (S.ext (E12.trans E3))⟩
noncomputable def LU:D->Option Key
 | .int i=>some (.inl i)
 | .str x=>some (.inr x)
 |_=>none
noncomputable def EI:D->M (Nat×List (Key×D))
 | .ref n=>λμ=>match μ[n]? with
  |some (.dK l)=>some ((n,l),μ)
  |_=>none
 |_=>BS
noncomputable def EZ(l:List (Key×D))(k:Key):Option D:=(l.find? λkv=>decide (kv.1=k)).map (·.2)
noncomputable def Fm(l:List (Key×D))(k:Key)(d:D):List (Key×D):=
 if (l.any λkv=>decide (kv.1=k))=true then l.map (λkv=>if kv.1=k then (kv.1,d) else kv) else l++[(k,d)]
noncomputable def WD:Sl->M D:=λ_ μ=>some (.ref μ.length,μ++[.dK []])
theorem Ss:RE X (.Dict [] [] pos) WD:=RE.wk Qu λσ H Q h=>by
 obtain⟨ι,μ,τ,d,μ',R,S,e,q⟩:=h;cases e;intro p hp;obtain⟨ι',E1,R1,e0⟩:=R.grown (m:=.dK []) (o:=.dK []) hp ⟨[],rfl,rfl⟩;exact q ι' _ E1 R1 _ (by unfold Is;exact⟨by simp,by rw[e0]⟩)
section
variable{K:KW}{ι:Nat->Addr}{k:Nat}{H:Hp}
theorem KVs.val:∀{l:List (Key×D)} {r:List (Key×V)} (y:Key),KVs K ι k H l r->(EZ l y=none/\FC r y=none)∨∃d v,EZ l y=some d/\FC r y=some v/\Is K ι k H d v
 |[],_,y,h=>by cases h;exact .inl ⟨rfl,rfl⟩
 |(z,d)::l,_,y,h=>by
  obtain⟨v,r',rfl,h1,h2⟩:=h;by_cases hz:z=y
  ·subst hz;exact .inr ⟨d,v,by simp[EZ],by simp[FC],h1⟩
  ·have:=KVs.val y h2;simpa[EZ,FC,List.find?_cons,hz] using this
theorem KVs.any:∀{l:List (Key×D)} {r:List (Key×V)} (y:Key),KVs K ι k H l r->(l.any λkv=>decide (kv.1=y))=(r.any λkv=>decide (kv.1=y))
 |[],_,y,h=>by cases h;rfl
 |(z,d)::l,_,y,h=>by
  obtain⟨v,r',rfl,h1,h2⟩:=h;rw[List.any_cons,List.any_cons,KVs.any y h2]
theorem KVs.length:∀{l:List (Key×D)} {r:List (Key×V)},KVs K ι k H l r->r.length=l.length
 |[],_,h=>by cases h;rfl
 |(z,d)::l,_,h=>by
  obtain⟨v,r',rfl,h1,h2⟩:=h;rw[AAI,AAI,KVs.length h2]
theorem KVs.app:∀{l:List (Key×D)} {r:List (Key×V)} {y:Key} {d:D} {v:V},KVs K ι k H l r->Is K ι k H d v->KVs K ι k H (l++[(y,d)]) (r++[(y,v)])
 |[],_,y,d,v,h,h1=>by cases h;exact⟨v,[],rfl,h1,rfl⟩
 |(z,e)::l,_,y,d,v,h,h1=>by
  obtain⟨w,r',rfl,h2,h3⟩:=h;exact⟨w,_,rfl,h2,KVs.app h3 h1⟩
theorem KVs.mapPut:∀{l:List (Key×D)} {r:List (Key×V)} {y:Key} {d:D} {v:V},KVs K ι k H l r->Is K ι k H d v->KVs K ι k H (l.map λkv=>if kv.1=y then (kv.1,d) else kv) (r.map λkv=>if kv.1=y then (kv.1,v) else kv)
 |[],_,y,d,v,h,h1=>by cases h;rfl
 |(z,e)::l,_,y,d,v,h,h1=>by
  obtain⟨w,r',rfl,h2,h3⟩:=h;rw[AAX,AAX];by_cases hz:z=y
  ·subst hz;simp only[if_true];exact⟨v,_,rfl,h1,KVs.mapPut h3 h1⟩
  ·simp only[hz,if_false];exact⟨w,_,rfl,h2,KVs.mapPut h3 h1⟩
theorem KVs.put{l:List (Key×D)}{r:List (Key×V)}{y:Key}{d:D}{v:V}(h:KVs K ι k H l r)(h1:Is K ι k H d v):KVs K ι k H (Fm l y d) (GI r y v):=by
 unfold Fm GI;rw[h.any y];split
 ·exact h.mapPut h1
 ·exact h.app h1
theorem KU{d:D}{y:Key}{v:V}(h:Is K ι k H d v)(e:LU d=some y):v=kV y:=by
 cases d with
 |int i=>cases e;unfold Is at h;exact h
 |str i=>cases e;unfold Is at h;exact h
 |_=>cases e
theorem ED{μ μ':Mh}{d:D}{v:V}{r:Nat×List (Key×D)}(R:RelH K ι μ H)(i:Is K ι μ.length H d v)(e:EI d μ=some (r,μ')):μ'=μ/\d=.ref r.1/\μ[r.1]?=some (.dK r.2)/\v=.ref (ι r.1)/\∃kvs,H (ι r.1)=some (.dK kvs)/\KVs K ι μ.length H r.2 kvs:=by
 cases d with
 |ref n=>
  have e:(match μ[n]? with|some (.dK l)=>some ((n,l),μ)|_=>none)=some (r,μ'):=e;split at e
  ·rename_i l hq;cases e;unfold Is at i;obtain⟨u,h1,kvs,rfl,h2⟩:=R.obj n _ hq;exact⟨rfl,rfl,hq,i.2,kvs,h1,h2⟩
  ·cases e
 |_=>cases e
end
noncomputable def Rn(d y:D):M D:=bnd (EI d) λr=>λμ=>(LU y).map λk=>((EZ r.2 k).getD .non,μ)
noncomputable def Kb(d:D):M Unit:=bnd (EI d) λ_=>ret ()
noncomputable def IP(mo mi:Sl->M D):Sl->M D:=λτ=>bnd (mo τ) λx=>bnd (Kb x) λ_=>bnd (mi τ) λy=>Rn x y
theorem Oy{μ μ':Mh}{d:D}{u:Unit}(e:Kb d μ=some (u,μ')):μ'=μ/\∃r,EI d μ=some (r,μ):=by
 obtain⟨r,μ1,e1,ee1⟩:=AJ e;cases ee1;cases d with
 |ref n=>
  have e2:(match μ[n]? with|some (.dK l)=>some ((n,l),μ)|_=>none)=some (r,μ'):=e1;split at e2
  ·cases e2;exact⟨rfl,_,e1⟩
  ·cases e2
 |_=>cases e1
theorem Qf{mo mi:Sl->M D}{k:Nat}(hr:Room k X.A)(ho:RE X o mo)(hi:RE X e mi)(m:M1 X o "get" apos e cpos:=by exact⟨rfl,rfl,rfl,rfl⟩):RE X (.Call (.Attribute o "get" apos) [e] [] cpos) (IP mo mi):=RE.wk (Qv (RX hr) ho.pe hi.pe m) λσ H Q h=>by
 obtain⟨ι,μ,τ,d,μ',R,S,e,q⟩:=h;obtain⟨x,μ1,e1,ee1⟩:=AJ e;obtain⟨u,μ4,e4,ee2⟩:=AJ ee1;obtain⟨y,μ2,e2,ee3⟩:=AJ ee2;obtain⟨r,μ3,e3,ee4⟩:=AJ ee3;obtain⟨hm,r0,e5⟩:=Oy e4;subst hm;refine⟨ι,μ,τ,x,_,R,S,e1,λι1 H1 E1 R1 v1 i1=>?_⟩;obtain⟨_,_,_,rfl,kvs0,g0,_⟩:=ED R1 i1 e5;refine⟨_,rfl,.inl ⟨kvs0,.inl g0⟩,ι1,_,τ,y,μ2,R1,S.ext E1,e2,λι2 H2 E2 R2 v2 i2=>?_⟩;obtain⟨hm,hx,g1,hv,kvs,g2,g3⟩:=ED R2 (i1.ext E2) e3;subst hm;cases hk:LU y with
 |none=>rw[hk] at ee4;cases ee4
 |some ky=>
  rw[hk] at ee4;cases ee4;cases KU i2 hk;have hv':ι1 r0.1=ι2 r.1:=V.ref.inj hv;rw[hv'];refine⟨FC kvs ky,DGet.k g2,?_⟩;rcases g3.val ky with ⟨z1,z2⟩|⟨dd,vv,z1,z2,z3⟩
  ·rw[z2];rw[z1] at q;exact q ι2 H2 (E1.trans E2) R2 _ ofN
  ·rw[z2];rw[z1] at q;exact q ι2 H2 (E1.trans E2) R2 vv z3
noncomputable def O7(neg:Bool)(y d:D):M D:=bnd (EI d) λr=>λμ=>(LU y).map λk=>(.bl (if neg then !(EZ r.2 k).isSome else (EZ r.2 k).isSome),μ)
theorem VC{K:KW}{mi mo:Sl->M D}{σ:St}{H:Hp}{Q:VK}(h:tE K (mOp (O7 false) mi mo) σ H Q):XZ (tE K mi) (tE K mo) σ H Q:=by
 obtain⟨ι,μ,τ,d,μ',R,S,e,q⟩:=h;obtain⟨y,μ1,e1,ee1⟩:=AJ e;obtain⟨x,μ2,e2,ee2⟩:=AJ ee1;obtain⟨r,μ3,e3,ee3⟩:=AJ ee2;refine⟨ι,μ,τ,y,μ1,R,S,e1,λι1 H1 E1 R1 v1 i1=>⟨ι1,μ1,τ,x,μ2,R1,S.ext E1,e2,λι2 H2 E2 R2 v2 i2=>?_⟩⟩;obtain⟨hm,_,g1,rfl,kvs,g2,g3⟩:=ED R2 i2 e3;subst hm;cases hk:LU y with
 |none=>rw[hk] at ee3;cases ee3
 |some ky=>
  rw[hk] at ee3;cases ee3;cases KU (i1.ext E2) hk;refine⟨_,FC kvs ky,rfl,DGet.k g2,?_⟩;rcases g3.val ky with ⟨z1,z2⟩|⟨dd,vv,z1,z2,z3⟩
  ·rw[z2];rw[z1] at q;exact q ι2 H2 (E1.trans E2) R2 _ (ofB _)
  ·rw[z2];rw[z1] at q;exact q ι2 H2 (E1.trans E2) R2 _ (ofB _)
theorem VQ{mo mi:Sl->M D}{k:Nat}(hr:Room k X.A)(hi:RE X i mi)(ho:RE X o mo)(h1:behindInMarks .In o=false:=by first|exact nobehind _ (by decide) (by decide)|rfl):RE X (.Compare i [.In] [o] pos) (mOp (O7 false) mi mo):=RE.wk (Qw (Vr (RX hr) hi.pe ho.pe) h1) λ_ _ _ h=>VC h
noncomputable def LH(mo mi mv:Sl->M D):Sl->M (Fl×Sl):=λτ=>bnd (mv τ) λv=>bnd (mo τ) λx=>bnd (mi τ) λy=>bnd (EI x) λr=>λμ=>match LU y with
 |some k=>if r.2.length<sizeLine then some ((.next,τ),μ.set r.1 (.dK (Fm r.2 k v))) else none
 |none=>none
theorem Sk{value:Expr}{pos':Pos}{mo mi mv:Sl->M D}{k:Nat}(hr:Room k X.A)(ho:RE X o mo)(hi:RE X i mi)(hv:RE X value mv)(hs:swapsWith value (some (.Subscript o i pos')) pos.line X.env=pure false:=by rfl):RS X (.Assign [.Subscript o i pos'] value pos) (LH mo mi mv):=RS.wk (TL (RX hr) ho.pe hi.pe hv.pe hs) λDn σ H h=>by
 obtain⟨ι,μ,τ,f,τ',μ',R,S,e,q⟩:=h;obtain⟨v,μ1,e1,ee1⟩:=AJ e;obtain⟨x,μ2,e2,ee2⟩:=AJ ee1;obtain⟨y,μ3,e3,ee3⟩:=AJ ee2;obtain⟨r,μ4,e4,ee4⟩:=AJ ee3;refine⟨ι,μ,τ,v,μ1,R,S,e1,λι1 H1 E1 R1 v1 i1=>⟨ι1,μ1,τ,x,μ2,R1,S.ext E1,e2,λι2 H2 E2 R2 v2 i2=>⟨ι2,μ2,τ,y,μ3,R2,S.ext (E1.trans E2),e3,λι3 H3 E3 R3 v3 i3=>?_⟩⟩⟩;obtain⟨hm,hx,g1,hv2,kvs,g2,g3⟩:=ED R3 (i2.ext E3) e4;subst hm;have E13:=(E1.trans E2).trans E3;cases hk:LU y with
 |none=>rw[hk] at ee4;cases ee4
 |some ky=>
  rw[hk] at ee4;have ee4:(if r.2.length<sizeLine then some ((Fl.next,τ),List.set μ4 r.1 (MO.dK (Fm r.2 ky v))) else none)=some ((f,τ'),μ'):=ee4;split at ee4
  ·rename_i hl;cases ee4;cases KU i3 hk;have hlt:r.1<List.length μ4:=(AAU.mp g1).1;obtain⟨E4,R4⟩:=R3.changed (m:=.dK (Fm r.2 ky v)) (o:=.dK (GI kvs ky v1)) hlt ⟨_,rfl,g3.put (i1.ext (E2.trans E3))⟩;exact⟨_,_,hv2,DPut.k g2 (by rw[g3.length];exact hl),q ι3 _ (E13.trans E4) R4 σ (S.ext (E13.trans E4))⟩
  ·cases ee4
noncomputable def Ym:D->M (List D)
 | .str x=>ret (x.cps.toList.map λc=>.str ⟨#[c]⟩)
 |_=>BS
noncomputable def Q9(m:Sl->M D):Sl->M (List D):=λτ=>bnd (m τ) Ym
theorem T7{K:KW}{ι:Nat->Addr}{μ:Mh}{H:Hp}{x:Str}:ItM K (Its x) (x.cps.toList.map λc=>.str ⟨#[c]⟩) ι μ H:=by
 intro ι' μ' H' E R;have hl:(x.cps.toList.map λc=>D.str ⟨#[c]⟩).length=x.cps.size:=by simp
 rw[hl];refine⟨λj hj=>hj,rfl,λj v H2 d hd y=>?_⟩;obtain⟨e,c,hc,y⟩:=y;subst e;rw[AAW,Array.getElem?_toList,hc] at hd;cases hd;exact⟨R.ext0,R,by unfold Is;exact y⟩
theorem VL{m:Sl->M D}(h:RE X e m):RI X tg e (Q9 m):=RI.wk (Vf h.pe) λσ H R q=>by
 obtain⟨ι,μ,τ,ds,μ',R0,S,e,q⟩:=q;obtain⟨x,μ1,e1,ee1⟩:=AJ e;refine⟨ι,μ,τ,x,μ1,R0,S,e1,λι1 H1 E1 R1 v i1=>?_⟩;cases x with
 |str x=>cases ee1;exact⟨x,C5 i1,q ι1 H1 E1 R1 _ T7⟩
 |_=>cases ee1
noncomputable def D3:Nat->List D->List D
 |_,[]=>[]
 |k,d::ds=>.tup [.int k,d]::D3 (k+1) ds
theorem Jf:∀(k:Nat) (ds:List D),(D3 k ds).length=ds.length
 |_,[]=>rfl
 |k,_::ds=>by unfold D3;simp[Jf (k+1) ds]
theorem Jg:∀(k:Nat) (ds:List D) (j:Nat),(D3 k ds)[j]?=(ds[j]?).map λd=>.tup [.int ((k+j:Nat):Int),d]
 |_,[],j=>by simp[D3]
 |k,d::ds,0=>by simp[D3]
 |k,d::ds,j+1=>by
  unfold D3;rw[List.getElem?_cons_succ,List.getElem?_cons_succ,Jg (k+1) ds j];have:k+1+j=k+(j+1):=by omega
  rw[this]
noncomputable def Nl:List D->M (List D)
 |[.lst ds]=>ret ds
 |[.scr ns]=>ret (ns.map D.int)
 |_=>BS
noncomputable def NW(m:Sl->M (List D)):Sl->M (List D):=λτ=>bnd (m τ) λas=>bnd (Nl as) λds=>ret (D3 0 ds)
theorem IW{K:KW}{ι:Nat->Addr}{μ:Mh}{H:Hp}{vs:List V}{ds:List D}{Cond:PySem.W.Frag->Hp->Prop}(st:∀ι' (μ':Mh) H',Ext ι μ.length H ι' μ'.length H'->RelH K ι' μ' H'->Cond K H')(i:IsL K ι μ.length H ds vs):
  ItM K (ItP K vs.length (FS vs) Cond) (D3 0 ds) ι μ H:=by
 intro ι' μ' H' E R;have h:=st ι' μ' H' E R;rw[Jf,←i.length];refine⟨λj hj=>⟨hj,h⟩,⟨rfl,h⟩,λj x H2 d hd y=>?_⟩;obtain⟨T,hT,rfl,rfl⟩:=y;obtain⟨E2,R2⟩:=R.laid (.tup (FS vs j)) hT;refine⟨E2,R2,?_⟩;rw[Jg] at hd;cases q:ds[j]? with
 |none=>rw[q] at hd;cases hd
 |some d0=>
  rw[q] at hd;cases hd;obtain⟨w,ew,iw⟩:=(i.ext E).get q;have e0:vs.getD j V.non=w:=by simp[List.getD,ew]
  have es:FS vs j=[.int j,w]:=by unfold FS;rw[e0]
  have key:IsL K ι' (List.length μ') (upd H' T (.tup (FS vs j))) [.int ((0+j:Nat):Int),d0] [.int j,w]:=.cons (by unfold Is;simp) (.one (iw.ext E2));unfold Is;exact⟨T,_,rfl,SqT.of BU,(congrArg (IsL K ι' (List.length μ') (upd H' T (.tup (FS vs j))) [.int ((0+j:Nat):Int),d0]) es).mpr key⟩
theorem QY{p tpos:Pos}{k0:Nat}{m:Sl->M (List D)}(hm:X.mg "enumerate" = none)(ha:RA X [a] m)(hg:Gl X "enumerate" := by rfl)(hs:starEach [a] X.env=[(false,eval a X.env)]:=by rfl):RI X (.Tuple es k0 tpos) (.Call (.Name "enumerate" p) [a] [] pos) (NW m):=
 RI.wk (Qr hg hm ha.pe hs) λσ H R q=>by
  obtain⟨ι,μ,τ,ds,μ',R0,S,e,q⟩:=q;obtain⟨xs,μ1,e1,ee1⟩:=AJ e;obtain⟨zs,μ2,e2,ee2⟩:=AJ ee1;cases ee2;refine⟨ι,μ,τ,xs,μ1,R0,S,e1,λι1 H1 E1 R1 vs i1=>?_⟩;unfold Nl at e2;split at e2
  ·cases e2;obtain⟨v,rfl,i2⟩:=F0 i1;unfold Is at i2;obtain⟨p,ws,rfl,h1,hn,h2⟩:=i2;exact⟨p,ws,rfl,SqL.of h1,q ι1 H1 E1 R1 _ (IW (λι' μ' H' E _=>SqL.of (E.keep p _ h1 hn)) h2)⟩
  ·cases e2;obtain⟨v,rfl,i2⟩:=F0 i1;unfold Is at i2;obtain⟨p,rfl,h1⟩:=i2;exact⟨p,_,rfl,h1.sq,q ι1 H1 E1 R1 _ (IW (λι' μ' H' E _=>(KA E h1).sq) (IsL.ofInts _))⟩
  ·cases e2
noncomputable def Km:List D->Option (List Bool)
 |[]=>some []
 | .bl b::ds=>(Km ds).map (b::·)
 |_=>none
theorem Nx{K:KW}{ι:Nat->Addr}{k:Nat}{H:Hp}:∀{ds:List D} {vs:List V} {bs:List Bool},IsL K ι k H ds vs->Km ds=some bs->vs=bs.map V.bl
 |[],_,_,h,e=>by cases e;unfold IsL at h;exact h
 | .bl b::ds,_,_,h,e=>by
  unfold IsL at h;obtain⟨v,vs',rfl,h1,h2⟩:=h;unfold Km at e;cases q:Km ds with
  |none=>rw[q] at e;cases e
  |some bs=>
   rw[q] at e;cases e;unfold Is at h1;rw[h1,Nx h2 q];rfl
 | .non::_,_,_,_,e=>by cases e
 | .int _::_,_,_,_,e=>by cases e
 | .str _::_,_,_,_,e=>by cases e
 | .ty _::_,_,_,_,e=>by cases e
 | .scr _::_,_,_,_,e=>by cases e
 | .tup _::_,_,_,_,e=>by cases e
 | .lst _::_,_,_,_,e=>by cases e
 | .ref _::_,_,_,_,e=>by cases e
noncomputable def UU:List D->M D
 |[.lst ds]=>λμ=>(Km ds).map λbs=>(.bl (bs.all id),μ)
 |_=>BS
theorem Yj(hc:X.calm=true):CT X (.builtin "all") (rMA X.kw UU):=λpins s σ H xs us Q I r h=>by
 obtain⟨ι,μ,as,d,μ',R,ia,e,q⟩:=h;refine PN hc pins s σ H xs us Q I r ?_;unfold UU at e;split at e
 ·rename_i ds;cases hb:Km ds with
  |none=>rw[hb] at e;cases e
  |some bs=>
   rw[hb] at e;cases e;obtain⟨v,rfl,i1⟩:=F0 ia;unfold Is at i1;obtain⟨p,vs,rfl,h1,_,h2⟩:=i1;exact⟨p,bs,rfl,SqL.of (by rw[←Nx h2 hb];exact h1),q ι H R.ext0 R _ (ofB _)⟩
 ·cases e
end
theorem Ax:bootBuiltins "len" = some (.builtin "len"):=by decide +kernel
theorem A1:bootBuiltins "isinstance" = some (.builtin "isinstance"):=by decide +kernel
theorem R7:bootBuiltins "max" = some (.builtin "max"):=by decide +kernel
theorem Lp:bootBuiltins "min" = some (.builtin "min"):=by decide +kernel
theorem R8:bootBuiltins "all" = some (.builtin "all"):=by decide +kernel
theorem Iq:bootBuiltins "int" = some (.type "int"):=by decide +kernel
theorem Lo:bootBuiltins "str" = some (.type "str"):=by decide +kernel
theorem PP:bootBuiltins "bool" = some (.type "bool"):=by decide +kernel
theorem DK:bootBuiltins "tuple" = some (.type "tuple"):=by decide +kernel
theorem EV:bootBuiltins "list" = some (.type "list"):=by decide +kernel
theorem Rz:bootBuiltins "set" = some (.type "set"):=by decide +kernel
structure Fn(P:Program)(w:World)(K:PySem.W.Frag)(mg:Str->Option Value)(base:Heap)(x:Str)(ps:List Str)(k:Nat)(φ:List D->M D):Prop where
 len:∀ds μ r,φ ds μ=some r->ds.length=ps.length
 ex:∃f fd,FnOk P w K mg base CX0 k f fd ps (spM ⟨K,w⟩ ps.length φ)/\mg x=some (.ref f)/\PySem.W.keepIn K (.ref f)=true/\Binds K fd ps []
def Glo(K:PySem.W.Frag)(mg:Str->Option Value)(x:Str)(d:D):Prop:=∃u v,mg x=some u/\RelV v u/\∀w ι k H,Is ⟨K,w⟩ ι k H d v
section
variable{X:Cx}{e:Expr}{es:List Expr}{pos p:Pos}
theorem AS{x:Str}{ps:List Str}{k j:Nat}{φ:List D->M D}{m:Sl->M (List D)}(F:Fn X.prog X.w X.kw X.mg X.base x ps k φ)(hr:Room j X.A)(ha:RA X (e::es) m)(hkj:k<=j:=by decide)(hg:Gl X x:=by rfl)(hdb:(x==("__debug__" : Str))=false:=by decide)
  (he:starEach (e::es) X.env=(false,eval e X.env)::starEach es X.env:=by exact Av rfl) (hpl:(backTo pos (starEach es X.env)).any (·.1)=false:=by exact BB rfl):RE X (.Call (.Name x p) (e::es) [] pos) (AF φ m):=by
 obtain⟨len,f,fd,F,hm,hk,hb⟩:=F;exact Su F (hr.mono hkj) hm hk hb len ha hg hdb he hpl
theorem EN{x:Str}{d:D}(h:Glo X.kw X.mg x d)(hg:Gl X x:=by rfl)(hdb:(x==("__debug__" : Str))=false:=by decide):RE X (.Name x pos) (mC d):=by
 obtain⟨u,v,hm,r,hd⟩:=h;exact Sr hm r (hd _) hg hdb
end
theorem Wg{P:Program}{w:World}{K:PySem.W.Frag}{mg:Str->Option Value}{base:Heap}{x qual:Str}{st:Stmt}{f:Addr}{fd:FuncData}{N ps:List Str}{k:Nat}{φ:List D->M D}{mb:Sl->M (Fl×Sl)}(F:Fun K x qual st f fd)(S:Ac N ps (AI st))(hm:mg x=some (.ref f))(hb:Binds K fd ps [])
  (body:∀(cdv:Value) (A:Around) (outer:List Env) (s:Shared) (H:Hp) (E:XK),Room k (A.deeper (PyProof.Rows.envOfC qual (AI st) s.heap.objs.size f cdv))->RSs (BP CX0 P w K mg base N qual (AI st) f cdv A outer s H E).nox (AX st) mb)
  (len:∀ds μ r,φ ds μ=some r->ds.length=ps.length)
  (run:∀ds μ d μ',φ ds μ=some (d,μ')->∃fl τ2 μ2,mb (Ay N.length ds) μ=some ((fl,τ2),μ2)/\(fl=.next∨∃d,fl=.rt d)/\E7 μ μ2 μ' (EF fl) d):Fn P w K mg base x ps (k+1) φ:=
 ⟨len,f,fd,Jb F S rfl body run,hm,F.kp,hb⟩
theorem Fs{μ g:Mh}{d:D}(h:Cl μ.length d):E7 μ (μ++g) μ d d:=⟨⟨g,rfl⟩,AAF _,λ_ _ e=>.inl e,.inl ⟨rfl,h⟩⟩
section
variable{X:Cx}{e i:Expr}{es:List Expr}{pos p:Pos}
structure PV(w:World)(K:PySem.W.Frag)(mg:Str->Option Value)(x:Str)(t:Str->Option D):Prop where
 ex:∃ad,mg x=some (.ref ad)/\∀y:Str,∃r,KGet w.params K ad (.str y) r/\((t y=none/\r=none)∨∃d v,t y=some d/\r=some v/\∀ι k H,Is ⟨K,w⟩ ι k H d v)
noncomputable def Nf(t:Str->Option D):D->M D
 | .str y=>λμ=>(t y).map λd=>(d,μ)
 |_=>BS
noncomputable def T4(t:Str->Option D):D->M D
 | .str y=>λμ=>some (.bl (t y).isSome,μ)
 |_=>BS
theorem NI{x:Str}{t:Str->Option D}{mi:Sl->M D}(k:PV X.w X.kw X.mg x t)(hi:RE X i mi)(hg:Gl X x:=by rfl)(hdb:(x==("__debug__" : Str))=false:=by decide)(hs:W9 i:=by exact λ_ _=>rfl):RE X (.Subscript (.Name x p) i pos) (mUn (Nf t) mi):=by
 obtain⟨ad,hm,kk⟩:=k;refine RE.wk (TU (GJ (v:=.ref ad) hg hm rfl hdb) hi.pe hs) λσ H Q h=>?_;obtain⟨ι,μ,τ,d,μ',R,S,e,q⟩:=h;obtain⟨y,μ1,e1,e2⟩:=AJ e;refine⟨ι,μ,τ,y,μ1,R,S,e1,λι1 H1 E1 R1 v1 i1=>?_⟩;cases y with
 |str y=>
  cases C5 i1;obtain⟨r,g,z⟩:=kk y;rcases z with ⟨z1,_⟩|⟨d0,v0,z1,rfl,z3⟩
  ·have e3:(t y).map (λd=>(d,μ1))=some (d,μ'):=e2;rw[z1] at e3;cases e3
  ·have e3:(t y).map (λd=>(d,μ1))=some (d,μ'):=e2;rw[z1] at e3;cases e3;exact⟨ad,v0,rfl,g,q ι1 H1 E1 R1 v0 (z3 _ _ _)⟩
 |_=>cases e2
theorem VB{K:KW}{w:World}{t:Str->Option D}{mi:Sl->M D}{ad:Addr}{σ:St}{H:Hp}{Q:VK}(kk:∀y:Str,∃r,KGet w.params K ad (.str y) r/\((t y=none/\r=none)∨∃d v,t y=some d/\r=some v/\∀ι k H,Is K ι k H d v))
  (h:tE K (mUn (T4 t) mi) σ H Q):XU w.params K (tE K mi) (tC (.ref ad)) σ H Q:=by
 obtain⟨ι,μ,τ,d,μ',R,S,e,q⟩:=h;obtain⟨y,μ1,e1,e2⟩:=AJ e;refine⟨ι,μ,τ,y,μ1,R,S,e1,λι1 H1 E1 R1 v1 i1=>?_⟩;cases y with
 |str y=>
  cases C5 i1;obtain⟨r,g,z⟩:=kk y;cases e2;rcases z with ⟨z1,rfl⟩|⟨d0,v0,z1,rfl,z3⟩
  ·exact⟨ad,none,rfl,g,by rw[z1] at q;exact q ι1 H1 E1 R1 _ (ofB _)⟩
  ·exact⟨ad,some v0,rfl,g,by rw[z1] at q;exact q ι1 H1 E1 R1 _ (ofB _)⟩
 |_=>cases e2
theorem VN{x:Str}{t:Str->Option D}{mi:Sl->M D}(k:PV X.w X.kw X.mg x t)(hi:RE X i mi)(hg:Gl X x:=by rfl)(hdb:(x==("__debug__" : Str))=false:=by decide)(h1:behindInMarks .In (.Name x p)=false:=by first|exact nobehind _ (by decide) (by decide)|rfl):RE X (.Compare i [.In] [.Name x p] pos) (mUn (T4 t) mi):=by
 obtain⟨ad,hm,kk⟩:=k;exact RE.wk (Qw (Vq hi.pe (GJ (v:=.ref ad) hg hm rfl hdb)) h1) λσ H Q h=>VB kk h
noncomputable def ZL:D->M D
 | .str x=>λμ=>if x.length<=sizeLine then some (.str x,μ) else none
 |_=>BS
noncomputable def Tt(m:Sl->M D):Sl->M D:=mUn ZL m
theorem VP{m:Sl->M D}(h:RE X e m):RE X (.FormattedValue e (-1) none pos) (Tt m):=RE.wk (Vo h.pe) λσ H Q h=>by
 obtain⟨ι,μ,τ,d,μ',R,S,e,q⟩:=h;obtain⟨y,μ1,e1,e2⟩:=AJ e;refine⟨ι,μ,τ,y,μ1,R,S,e1,λι1 H1 E1 R1 v1 i1=>?_⟩;cases y with
 |str y=>
  have e3:(if y.length<=sizeLine then some (D.str y,μ1) else none)=some (d,μ'):=e2;split at e3
  ·rename_i hl;cases e3;exact .inl ⟨y,C5 i1,hl,q ι1 H1 E1 R1 _ (ofS _)⟩
  ·cases e3
 |_=>cases e2
noncomputable def Gs:List (Sl->M D)->Str->Sl->M D
 |[],out=>λ_=>bnd (lim out.length) λ_=>ret (.str out)
 |m::r,out=>λτ=>bnd (m τ) λd=>match d with
  | .str y=>bnd (lim (out++y).length) λ_=>Gs r (out++y) τ
  |_=>BS
noncomputable def NV(ms:List (Sl->M D)):Sl->M D:=Gs ms Str.empty
structure RJ(X:Cx)(es:List Expr)(ms:List (Sl->M D)):Prop where
 pe:PJ X es (ms.map (tE X.kw))
theorem VJ:RJ X [] []:=⟨Vd⟩
theorem NF{m:Sl->M D}{ms:List (Sl->M D)}(h:RE X e m)(hr:RJ X es ms):RJ X (e::es) (m::ms):=⟨TQ h.pe hr.pe⟩
theorem M9{K:KW}:∀{ms:List (Sl->M D)} {out:Str} {σ:St} {H:Hp} {Q:VK},tE K (Gs ms out) σ H Q->M6 (ms.map (tE K)) out σ H Q
 |[],out,σ,H,Q,h=>by
  obtain⟨ι,μ,τ,d,μ',R,S,e,q⟩:=h;obtain⟨_,μ1,e1,e2⟩:=AJ e;obtain⟨hl,hm⟩:=CZ e1;subst hm;cases e2;exact⟨hl,q ι H R.ext0 R _ (ofS _)⟩
 |m::ms,out,σ,H,Q,h=>by
  obtain⟨ι,μ,τ,d,μ',R,S,e,q⟩:=h;obtain⟨y,μ1,e1,e2⟩:=AJ e;refine⟨ι,μ,τ,y,μ1,R,S,e1,λι1 H1 E1 R1 v1 i1=>?_⟩;cases y with
  |str y=>
   obtain⟨_,μ2,e3,e4⟩:=AJ e2;obtain⟨hl,hm⟩:=CZ e3;subst hm;exact⟨y,C5 i1,hl,M9 ⟨ι1,_,τ,d,μ',R1,S.ext E1,e4,λι2 H2 E2 R2=>q ι2 H2 (E1.trans E2) R2⟩⟩
  |_=>cases e2
theorem OM{e2:Expr}{m m2:Sl->M D}{ms:List (Sl->M D)}(h:RJ X (e::e2::es) (m::m2::ms)):RE X (.JoinedStr (e::e2::es) pos) (NV (m::m2::ms)):=RE.wk (OV h.pe) λσ H Q h=>M9 h
end
end Mi
namespace L2
open PySem PySem.Spec PyProof.Rows Sem
section
variable{prog:Program}{w:World}{A:Around}{E:Value->Shared->Prop}{s:Shared}
theorem Cf{M:Model}{A:Around}{α:Type}{c:Prop}[Decidable c]{a b:Sem α}{Q:α->Shared->Prop}{E:Value->Shared->Prop}{s:Shared}(h:¬c)(hb:wpAny M A b Q E s):wpAny M A (if c then a else b) Q E s:=by
 rw[if_neg h];exact hb
theorem K9{it t:Addr}{i:Nat}{items:Array Value}{Q:Value->Shared->Prop}(hh:A.handled=none)(hit:s.heap.IsTupleIter it t i)(ht:s.heap.IsTuple t items)
  (more:∀x h',items[i]?=some x->h'.IsTupleIter it t (i+1)->Heap.SameBut it s.heap h'->Q x { s with heap:=h' })
  (over:items[i]?=none->∀h' e,Heap.ExtBut it s.heap h'->(∃o,h'.get? e=some o/\o.cls=.type "StopIteration")->E (.ref e) { s with heap:=h' }) :
  wpAny (model prog w) A (Builtin.SmallTypes.nextOf (.ref it)) Q E s:=by
 have ty:=hit.typeIs;obtain⟨o,at_it,hc,hd⟩:=hit;obtain⟨ot,at_t,_,n,hdt⟩:=ht;have put:∀(k:Nat) (v:Value),(s.heap.update it (Obj.mapFields (λfs=>fs.set! k v))).get? it=some (Obj.mapFields (λfs=>fs.set! k v) o):=λk v=>Heap.get?_update_self _ at_it (Obj.isFreed_of_fields (Obj.data_mapFields hd _));unfold Builtin.SmallTypes.nextOf;refine AAA (wpAny_callSpecial?_slot ty F.slot_tuple_iterator_next (AAc F.slot_tuple_iterator_next ty F.entry_tuple_iterator_next ?_ (F.args_tuple_iterator_next_1 _)));have notNone:¬(Value.ref t==Value.none)=true:=AAf;refine AAA (m:=field (.ref it) 0) (AAu at_it hd (x:=.ref t) rfl ?_);refine Cf notNone ?_;refine AAA (m:=field (.ref it) 1) (AAu at_it hd (x:=.int i 0) rfl (AAA (m:=seqItems? (.ref t)) (AAv at_t hdt ?_)));have ei:((i:Int)).toNat=i:=Int.toNat_natCast i;cases hx:items[i]? with
 |some x=>
  dsimp only;rw[ei,hx];refine AAA (wpAny_setField at_it hd (by simp) (AAB ⟨x,rfl,AAB (more x _ hx ⟨_,put _ _,?_,?_⟩ (Heap.SameBut.update ..))⟩))
  ·exact(Obj.cls_mapFields ..).trans hc
  ·rw[Obj.data_mapFields hd];rfl
 |none=>
  dsimp only;rw[ei,hx];refine AAA (wpAny_rule (AAA (wpAny_setField at_it hd (by simp) ?_)));have first:firstArgMember (.type "StopIteration") []=pure Value.none:=by first|rfl|(unfold firstArgMember;rfl)
  unfold Builtin.SmallTypes.stopIteration newExc newTuple;refine AAA (AAA (AAp (AAA (wpAny_of_eq first (AAp (wpAny_raiseNew_none hh ?_) (by size_fits)))) (by size_fits)));exact over hx _ _ (((Heap.SameBut.update ..).extBut.push _).push _) ⟨_,AAD _ rfl,rfl⟩
theorem Gx(hh:A.handled=none)(it t:Addr)(hne:t≠it)(items:Array Value):
  Draws prog w A it [it,t] items.size (λi v=>items[i]?=some v) (λi h=>h.IsTupleIter it t i/\h.IsTuple t items):=by
 refine⟨λi h st=>?_,λi h h' st k=>⟨?_,?_⟩,λi s Q E hi st q=>?_,λs Q E st q=>?_⟩
 ·obtain⟨⟨o,e,_⟩,_⟩:=st;exact⟨o,e⟩
 ·obtain⟨⟨o,e,r⟩,_⟩:=st;exact⟨o,k it (by simp) o e,r⟩
 ·obtain⟨_,⟨o,e,r⟩⟩:=st;exact⟨o,k t (by simp) o e,r⟩
 ·exact K9 hh st.1 st.2 (λx h' hx st' sb=>q x h' s.toks hx ⟨st',st.2.extBut sb.extBut hne⟩ sb) λno=>absurd no (by simp[hi])
 ·exact K9 hh st.1 st.2 (λx h' hx=>absurd hx (by simp)) λ_ h' e eb so=>q h' e eb so
noncomputable abbrev GV(it:Addr):Obj:={ cls:=.type "enumerate",data:=.fields #[.none,.bool false,.ref it,rawInt 0,.none,.none] }
theorem Rj(v:Value)(ob:Obj)(good:Heap->Prop)(hv:∀(prog:Program) (w:World) (A:Around) (E:Value->Shared->Prop) (s:Shared) (Q:Value->Shared->Prop),good s.heap->Q (.ref s.heap.objs.size) { s with heap:=s.heap.push ob }->wpAny (model prog w) A (pyIter v) Q E s):
  Meets (Builtin.«enumerate.__new__» ⟨[.type "enumerate",v],[]⟩) (λ_ R s=>good s.heap/\R (.ok (.ret (.ref (s.heap.push ob).objs.size))) { s with heap:=(s.heap.push ob).push (GV s.heap.objs.size) }):=by
 refine .of_wp λprog w A R s ⟨g,q⟩=>?_;have own:=sub_enumerate;have walk:∀(A:Around) (E:Value->Shared->Prop) (Q:Value->Shared->Prop),Q (.ref s.heap.objs.size) { s with heap:=s.heap.push ob }->wpAny (model prog w) A (pyIter v) Q E s:=λA E Q z=>hv prog w A E s Q g z;obtain⟨hp,gs,dr,tk,os⟩:=s
 wp_walk
 refine wpAny_stack_any λst=>AAB ?_;split
 ·rename_i c _ _ _ _ _;cases (c==Value.type "enumerate")<;>(wp_walk using walk;exact⟨_,rfl,q⟩)
 ·wp_walk using walk
  exact⟨_,rfl,q⟩
end
end L2
namespace L2
open PySem PySem.Spec PyProof.Rows
theorem MA{P:Program}{w:World}{K:PySem.W.Frag}{es:List Expr}{k0:Nat}{pos:Pos}(a e it:Addr)(xs:List V)(hei:e≠it)(hea:e≠a)(hai:a≠it):
  JC P w K (.Tuple es k0 pos) (ItP K xs.length (FS xs) λK H=>SqT K H a xs) [e,it] e (λi h=>(∃old,IsEnum h e it i old)/\h.IsTupleIter it a i):=by
 refine Fr (ι:=List Value) (fp:=[e,it,a]) (Mid:=λits i T h=>(∃x,IsEnumOut h e it ((i:Int)+1) x T)/\(h.IsTupleIter it a (i+1)/\h.IsTuple a its.toArray)/\T≠e/\T≠it) (good:=λits=>Vals xs its) (Pt:=λits i vals=>∃t x,its.toArray[i]?=some x/\vals=#[.int i t,x]) (Sw:=λits i h=>(∃old,IsEnum h e it i old)/\h.IsTupleIter it a i/\h.IsTuple a its.toArray)
  (λA hA its r=>?walk) AAQ (λits i vals r h=>Ig r h) (λi=>(by show 2<=sizeLine;decide)) (λi h st=>?obj) (λi h h' st k=>?keep) (λX pins σ H s i hP hw hK I hc st=>?into) (λz i h st=>⟨st.1,st.2.1⟩) (λA i s Q E st h=>?self)
 case walk=>
  have hl:xs.length=its.toArray.size:=by rw[List.size_toArray];exact r.length
  have D:=Gx (prog:=P) (w:=w) (A:=A.in1) hA it a hai its.toArray;rw[hl];exact WalksT.enumerateD D e hei (by simp[hei,hea]) (by simp)
 case obj=>
  obtain⟨o,ho,_,hd⟩:=st.2;exact Rk st.1 ho ⟨_,hd⟩
 case keep=>
  obtain⟨⟨old,q⟩,o,ho,r⟩:=st;exact⟨⟨old,k e (by simp) _ q⟩,o,k it (by simp) o ho,r⟩
 case into=>
  subst hK;obtain⟨its,r,p,_⟩:=I.tuple hc;exact⟨its,r,st.1,st.2,p⟩
 case self=>exact Nn (f:=λi h=>h.IsTupleIter it a i) A i s Q E st h
section
variable{X:Cx}{es:List Expr}{k0:Nat}{tpos:Pos}
noncomputable def Wd(K:PySem.W.Frag)(ta:TA):TI:=λσ H R=>ta σ H λvs H1=>∃a xs,vs=[.ref a]/\SqT K H1 a xs/\R (ItP K xs.length (FS xs) λK H=>SqT K H a xs) H1
theorem Qq{a:Expr}{ta:TA}{p pos:Pos}(hg:Gl X "enumerate")(hm:X.mg "enumerate" = none)(ha:PA X [a] ta)(hs:starEach [a] X.env=[(false,eval a X.env)]:=by rfl):PI X (.Tuple es k0 tpos) (.Call (.Name "enumerate" p) [a] [] pos) (Wd X.kw ta):=by
 intro pins s σ H R I h;refine Call_ (Fz I hg hm Ji (PyProof.Rows.callWith_type1 (thn (ha pos pins s σ H _ I h) λus s1 ⟨vs,H1,I1,r1,q1⟩=>?_) hs rfl));obtain⟨l,xs,ev,hq,q⟩:=q1;subst ev;obtain⟨u,eu,ru⟩:=G7 r1;subst eu;cases ru;obtain⟨its,rv,pl,hz⟩:=I1.tuple hq;have lt:l<s1.heap.objs.size:=by obtain⟨o,e,_⟩:=pl;exact Heap.lt_size e
 have new:=Rj (.ref l) { cls:=.type "tuple_iterator",data:=.fields #[.ref l,.int 0 0] } (λh=>h.IsTuple l its.toArray) (λ_ _ _ _ _ _ g z=>wpAny_pyIter_tuple g z);refine callType_new F.called_enumerate (by decide) (F.typeCall_enumerate_1 _) (F.newCall_enumerate_1 _) (λobj=>F.args_object_init_2 obj _) F.entry_enumerate_new new ⟨pl,?_⟩;generalize hG:s1.heap.push { cls:=.type "tuple_iterator",data:=.fields #[.ref l,.int 0 0] }=G;have hsz:G.objs.size=s1.heap.objs.size+1:=by rw[←hG];exact Heap.size_push ..
 have at_e:(G.push (GV s1.heap.objs.size)).get? (s1.heap.objs.size+1)=some (GV s1.heap.objs.size):=by rw[←hsz];exact AAD _ rfl
 have he:IsEnum (G.push (GV s1.heap.objs.size)) (s1.heap.objs.size+1) s1.heap.objs.size 0 .none:=at_e;have at_i:(G.push (GV s1.heap.objs.size)).IsTupleIter s1.heap.objs.size l 0:=⟨_,AAC _ (hG ▸ AAD _ rfl),rfl,rfl⟩;show _/\_;rw[hsz];refine⟨⟨_,at_e,rfl⟩,wpAny_pyIter_enum he ?_⟩;refine⟨s1.heap.objs.size+1,[s1.heap.objs.size+1,s1.heap.objs.size],λi h=>(∃old,IsEnum h (s1.heap.objs.size+1) s1.heap.objs.size i old)/\h.IsTupleIter s1.heap.objs.size l i,_,H1,rfl,I1.kept (t':=s1.toks) λb o x=>AAC _ (hG ▸ AAC _ x),?_,⟨⟨_,he⟩,at_i⟩,P4 I1,q⟩;exact MA l _ _ xs (Nat.succ_ne_self _) (Nat.ne_of_gt (AAg lt)) (AAd lt)
end
end L2
namespace Mi
open PySem L2
section
variable{X:Cx}{a:Expr}{es:List Expr}{pos:Pos}
noncomputable def P5:List D->M (List D)
 |[.tup ds]=>ret ds
 |_=>BS
noncomputable def MV(m:Sl->M (List D)):Sl->M (List D):=λτ=>bnd (m τ) λas=>bnd (P5 as) λds=>ret (D3 0 ds)
theorem QW{p tpos:Pos}{k0:Nat}{m:Sl->M (List D)}(hm:X.mg "enumerate" = none)(ha:RA X [a] m)(hg:Gl X "enumerate" := by rfl)(hs:starEach [a] X.env=[(false,eval a X.env)]:=by exact Av rfl):RI X (.Tuple es k0 tpos) (.Call (.Name "enumerate" p) [a] [] pos) (MV m):=
 RI.wk (Qq hg hm ha.pe hs) λσ H R q=>by
  obtain⟨ι,μ,τ,ds,μ',R0,S,e,q⟩:=q;obtain⟨xs,μ1,e1,e2⟩:=AJ e;obtain⟨zs,μ2,e3,e4⟩:=AJ e2;cases e4;refine⟨ι,μ,τ,xs,μ1,R0,S,e1,λι1 H1 E1 R1 vs i1=>?_⟩;unfold P5 at e3;split at e3
  ·cases e3;obtain⟨v,rfl,i2⟩:=F0 i1;unfold Is at i2;obtain⟨p,ws,rfl,h1,h2⟩:=i2;exact⟨p,ws,rfl,h1,q ι1 H1 E1 R1 _ (IW (λι' μ' H' E _=>GA E h1) h2)⟩
  ·cases e3
end
end Mi
namespace L2
open PySem PySem.Spec PyProof.Rows Sem
def TwoAt(h:Heap)(T:Addr)(a b:Value):Prop:=∃n,h.get? T=some { cls:=.type "tuple",data:=.seq #[a,b] n }
noncomputable abbrev DF(TI TO:Addr)(f0:Value):Obj:={ cls:=.type "zip",data:=.fields #[f0,.bool false,.bool false,.ref TI,.ref TO] }
theorem TwoAt.keep{h h':Heap}{T:Addr}{a b:Value}(x:TwoAt h T a b)(k:∀o,h.get? T=some o->h'.get? T=some o):TwoAt h' T a b:=by
 obtain⟨n,e⟩:=x;exact⟨n,k _ e⟩
section
variable{prog:Program}{w:World}{A:Around}{E:Value->Shared->Prop}{s:Shared}
theorem M0{T:Addr}{a b x c d:Value}{k:Nat}{Q:Unit->Shared->Prop}(t:TwoAt s.heap T a b)(sh:(#[a,b]:Array Value).setIfInBounds k x=#[c,d])(h:∀h',TwoAt h' T c d->Heap.SameBut T s.heap h'->Q () { s with heap:=h' }):
  wpAny (model prog w) A (updateSeq T λxs=>xs.setIfInBounds k x) Q E s:=by
 obtain⟨n,e⟩:=t;refine wpAny_updateSeq e rfl (h _ ⟨n,?_⟩ (Heap.SameBut.update ..)) (by simp[sizeLine]) (by simp[sizeLine]);rw[Heap.get?_update_self _ e rfl];show some ({ cls:=.type "tuple",data:=.seq ((#[a,b]:Array Value).setIfInBounds k x) (if (((#[a,b]:Array Value).setIfInBounds k x).size==(#[a,b]:Array Value).size)=true then n else n+1) }:Obj)=_;rw[sh];rfl
structure Iv(z TI TO i1 i2:Addr)(f1 f2:List Addr):Prop where
 zTI:z≠TI
 zTO:z≠TO
 io:TI≠TO
 z1:z∉f1
 z2:z∉f2
 o1:TO∉f1
 o2:TO∉f2
 n1:TI≠i1
 n2:TI≠i2
 m1:i1∈f1
 m2:i2∈f2
 x12:i1∉f2
 x21:i2∉f1
theorem PY{z TI TO i1 i2:Addr}{n k:Nat}{a b:Value}{P1 P2:Nat->Value->Prop}{S1 S2:Nat->Heap->Prop}{f1 f2:List Addr}{Q:Value->Shared->Prop}(ap:Iv z TI TO i1 i2 f1 f2)
  (D1:Draws prog w A.in1 i1 f1 n P1 S1) (D2:Draws prog w A.in1 i2 f2 n P2 S2) (hk:k<n)
  (hz:s.heap.get? z=some (DF TI TO .none)) (hI:TwoAt s.heap TI (.ref i1) (.ref i2)) (hO:TwoAt s.heap TO a b) (s1:S1 k s.heap) (s2:S2 k s.heap)
  (q:∀x y T h' tk,P1 k x->P2 k y->s.heap.objs.size<=T->h'.IsTuple T #[x,y]->h'.get? z=some (DF TI TO (rawInt T))->TwoAt h' TI (.ref i1) (.ref i2)->TwoAt h' TO x y->S1 (k+1) h'->S2 (k+1) h'->(∀c o,c≠z->c≠TO->c≠i1->c≠i2->s.heap.get? c=some o->h'.get? c=some o)->Q (.ref T) { s with heap:=h',toks:=tk }) :
  wpAny (model prog w) A.in1 (Builtin.«zip.__next__» ⟨[.ref z],[]⟩) (λfin s'=>∃v,fin=.done (.ret v)/\Q v s') E s:=by
 obtain⟨nI,eI⟩:=id hI;refine AAA (m:=field (.ref z) 2) (AAu hz rfl (x:=.bool false) rfl ?_);refine AAA (m:=field (.ref z) 3) (AAu hz rfl (x:=.ref TI) rfl ?_);refine AAA (m:=seqItems? (.ref TI)) (AAv eI rfl ?_);refine Cf (by simp) ?_;refine AAA (m:=Builtin.SmallTypes.ownedTupleIsFree (.ref z)) ?_;unfold Builtin.SmallTypes.ownedTupleIsFree;refine AAA (m:=field (.ref z) 0) (AAu hz rfl (x:=.none) rfl (AAB ?_));rw[if_pos rfl];refine AAA (wpAny_rule ?_);refine AAA (m:=field (.ref z) 4) (AAu hz rfl (x:=.ref TO) rfl ?_);refine AAA (AAo hz (by simp) λh1 z1 b1=>?_);have k1:∀c o,c≠z->s.heap.get? c=some o->h1.get? c=some o:=λc o hc e=>(b1.2 c hc).trans e;have z1':h1.get? z=some (DF TI TO .ellipsis):=z1;have hI1:=hI.keep (h':=h1) λo e=>k1 TI o ap.zTI.symm e;have hO1:=hO.keep (h':=h1) λo e=>k1 TO o ap.zTO.symm e;have s11:=D1.frame _ _ h1 s1 λc hc o e=>k1 c o (λy=>ap.z1 (y ▸ hc)) e;have s21:=D2.frame _ _ h1 s2 λc hc o e=>k1 c o (λy=>ap.z2 (y ▸ hc)) e;refine AAA (m:=forIn [(Value.ref i1,0),(Value.ref i2,1)] _ _) ?_;rw[List.forIn_cons];refine AAA (AAA (wpAny_onRaise (AAA (D1.item k { s with heap:=h1 } _ _ hk s11 λx h2 t2 px s12 b2=>AAB ?_))));have k2:∀c o,c≠i1->h1.get? c=some o->h2.get? c=some o:=λc o hc e=>(b2.2 c hc).trans e;have ne1:∀{c:Addr},c∉f1->c≠i1:=λhc y=>hc (y ▸ ap.m1);have ne2:∀{c:Addr},c∉f2->c≠i2:=λhc y=>hc (y ▸ ap.m2);have hO2:=hO1.keep (h':=h2) λo e=>k2 TO o (ne1 ap.o1) e;have hI2:=hI1.keep (h':=h2) λo e=>k2 TI o ap.n1 e;have z2:=k2 z _ (ne1 ap.z1) z1';have s22:=D2.frame _ _ h2 s21 λc hc o e=>k2 c o (λy=>ap.x12 (y ▸ hc)) e;obtain⟨nO,eO⟩:=id hO2;refine AAA (m:=seqItems? (.ref TO)) (AAv eO rfl ?_);refine AAA (M0 (s:={ s with heap:=h2,toks:=t2 }) (c:=x) (d:=b) hO2 rfl λh3 hO3 b3=>AAA (wpAny_letGo (AAB ?_)));have k3:∀c o,c≠TO->h2.get? c=some o->h3.get? c=some o:=λc o hc e=>(b3.2 c hc).trans e;have hI3:=hI2.keep (h':=h3) λo e=>k3 TI o ap.io e;have z3:=k3 z _ ap.zTO z2;have s13:=D1.frame _ _ h3 s12 λc hc o e=>k3 c o (λy=>ap.o1 (y ▸ hc)) e;have s23:=D2.frame _ _ h3 s22 λc hc o e=>k3 c o (λy=>ap.o2 (y ▸ hc)) e;show wpAny _ _ (forIn [(Value.ref i2,1)] _ _) _ _ _;rw[List.forIn_cons];refine AAA (AAA (wpAny_onRaise (AAA (D2.item k { s with heap:=h3,toks:=t2 } _ _ hk s23 λy h4 t4 py s24 b4=>AAB ?_))));have k4:∀c o,c≠i2->h3.get? c=some o->h4.get? c=some o:=λc o hc e=>(b4.2 c hc).trans e;have hO4:=hO3.keep (h':=h4) λo e=>k4 TO o (ne2 ap.o2) e;have hI4:=hI3.keep (h':=h4) λo e=>k4 TI o ap.n2 e;have z4:=k4 z _ (ne2 ap.z2) z3;have s14:=D1.frame _ _ h4 s13 λc hc o e=>k4 c o (λy=>ap.x21 (y ▸ hc)) e;obtain⟨nO4,eO4⟩:=id hO4;refine AAA (m:=seqItems? (.ref TO)) (AAv eO4 rfl ?_);refine AAA (M0 (s:={ s with heap:=h4,toks:=t4 }) (c:=x) (d:=y) hO4 rfl λh5 hO5 b5=>AAA (wpAny_letGo (AAB ?_)));have k5:∀c o,c≠TO->h4.get? c=some o->h5.get? c=some o:=λc o hc e=>(b5.2 c hc).trans e;have hI5:=hI4.keep (h':=h5) λo e=>k5 TI o ap.io e;have z5:=k5 z _ ap.zTO z4;have s15:=D1.frame _ _ h5 s14 λc hc o e=>k5 c o (λy=>ap.o1 (y ▸ hc)) e;have s25:=D2.frame _ _ h5 s24 λc hc o e=>k5 c o (λy=>ap.o2 (y ▸ hc)) e;show wpAny _ _ (forIn [] _ _) _ _ _;rw[List.forIn_nil];refine AAB ?_;obtain⟨nO5,eO5⟩:=id hO5;refine AAA (m:=seqItems? (.ref TO)) (AAv eO5 rfl ?_);refine AAA (wpAny_newTuple ?_ (by simp[sizeLine]));have kp:∀c o,h5.get? c=some o->(h5.push { cls:=.type "tuple",data:=.seq #[x,y] }).get? c=some o:=λc o e=>AAC _ e;unfold Builtin.SmallTypes.ownedTupleHandOut;refine AAA (AAA (AAo (s:={ s with heap:=h5.push { cls:=.type "tuple",data:=.seq #[x,y] },toks:=t4 }) (kp z _ z5) (by simp) λh6 z6 b6=>AAo (s:={ s with heap:=h6,toks:=t4 }) z6 (by simp) λh7 z7 b7=>AAB ⟨_,rfl,?_⟩));have sz:h5.objs.size=s.heap.objs.size:=by rw[b5.1,b4.1,b3.1,b2.1,b1.1]
 have zlt:z<h5.objs.size:=Heap.lt_size z5;have k7:∀c o,c≠z->h5.get? c=some o->h7.get? c=some o:=λc o hc e=>(b7.2 c hc).trans ((b6.2 c hc).trans (kp c o e));refine q x y h5.objs.size h7 t4 px py (by rw[sz];exact AAF _) ?_ z7 (hI5.keep λo e=>k7 TI o ap.zTI.symm e) (hO5.keep λo e=>k7 TO o ap.zTO.symm e) (D1.frame _ _ h7 s15 λc hc o e=>k7 c o (λy=>ap.z1 (y ▸ hc)) e) (D2.frame _ _ h7 s25 λc hc o e=>k7 c o (λy=>ap.z2 (y ▸ hc)) e) ?_
 ·refine⟨{ cls:=.type "tuple",data:=.seq #[x,y] },?_,rfl,0,rfl⟩;have ne:h5.objs.size≠z:=Nat.ne_of_gt zlt;exact(b7.2 _ ne).trans ((b6.2 _ ne).trans (AAD _ rfl))
 ·intro c o c1 c2 c3 c4 e;exact k7 c o c1 (k5 c o c2 (k4 c o c4 (k3 c o c2 (k2 c o c3 (k1 c o c1 e)))))
theorem PX{z TI TO i1 i2:Addr}{n:Nat}{a b:Value}{P1:Nat->Value->Prop}{S1:Nat->Heap->Prop}{f1 f2:List Addr}{Q:PySem.Fin->Shared->Prop}(ap:Iv z TI TO i1 i2 f1 f2)(D1:Draws prog w A.in1 i1 f1 n P1 S1)
  (hz:s.heap.get? z=some (DF TI TO .none)) (hI:TwoAt s.heap TI (.ref i1) (.ref i2)) (hO:TwoAt s.heap TO a b) (s1:S1 n s.heap)
  (q:∀h' e,(∀c o,c≠z->c≠i1->s.heap.get? c=some o->h'.get? c=some o)->(∃o,h'.get? e=some o/\o.cls=.type "StopIteration")->E (.ref e) { s with heap:=h' }) :
  wpAny (model prog w) A.in1 (Builtin.«zip.__next__» ⟨[.ref z],[]⟩) Q E s:=by
 obtain⟨nI,eI⟩:=id hI;refine AAA (m:=field (.ref z) 2) (AAu hz rfl (x:=.bool false) rfl (AAA (m:=field (.ref z) 3) (AAu hz rfl (x:=.ref TI) rfl (AAA (m:=seqItems? (.ref TI)) (AAv eI rfl ?_)))));refine Cf (by simp) (AAA (m:=Builtin.SmallTypes.ownedTupleIsFree (.ref z)) ?_);unfold Builtin.SmallTypes.ownedTupleIsFree;refine AAA (m:=field (.ref z) 0) (AAu hz rfl (x:=.none) rfl (AAB ?_));rw[if_pos rfl];refine AAA (wpAny_rule (AAA (m:=field (.ref z) 4) (AAu hz rfl (x:=.ref TO) rfl (AAA (AAo hz (by simp) λh1 z1 b1=>?_)))));have s11:=D1.frame _ _ h1 s1 λc hc o e=>(b1.2 c (λy=>ap.z1 (y ▸ hc))).trans e;refine AAA (m:=forIn [(Value.ref i1,0),(Value.ref i2,1)] _ _) ?_;rw[List.forIn_cons];refine AAA (AAA (wpAny_onRaise (AAA (D1.done { s with heap:=h1 } _ _ s11 λh2 e eb so=>?_))));have zne:z≠i1:=λy=>ap.z1 (y ▸ ap.m1);have z2:h2.get? z=some (DF TI TO .ellipsis):=eb z _ zne z1;obtain⟨oe,he,hce⟩:=so;refine AAo (s:={ s with heap:=h2 }) z2 (by simp) λh3 z3 b3=>q h3 e (λc o c1 c2 x=>(b3.2 c c1).trans (eb c o c2 ((b1.2 c c1).trans x))) ⟨oe,?_,hce⟩;have ez:e≠z:=λy=>by
  rw[y,z2] at he;cases he;exact absurd (Value.type.inj (show Value.type "zip" = Value.type "StopIteration" from hce)) (by decide)
 exact(b3.2 e ez).trans he
theorem HX{z TI TO:Addr}{f0:Value}{Q:Value->Shared->Prop}(hz:s.heap.get? z=some (DF TI TO f0))(h:Q (.ref z) s):wpAny (model prog w) A (pyIter (.ref z)) Q E s:=wpAny_pyIter_zip hz h
theorem OC(hh:A.handled=none){z TI TO i1 i2:Addr}{n:Nat}{P1 P2:Nat->Value->Prop}{S1 S2:Nat->Heap->Prop}{f1 f2:List Addr}(ap:Iv z TI TO i1 i2 f1 f2)
  (D1:Draws prog w A.in1 i1 f1 n P1 S1) (D2:Draws prog w A.in1 i2 f2 n P2 S2) :
  WalksT prog w A z (z::TI::TO::(f1++f2)) [z,TI,TO,i1,i2] n (λk vals=>∃x y,P1 k x/\P2 k y/\vals=#[x,y])
   (λk h=>h.get? z=some (DF TI TO .none)/\TwoAt h TI (.ref i1) (.ref i2)/\(∃a b,TwoAt h TO a b)/\S1 k h/\S2 k h)
   (λk T h=>h.get? z=some (DF TI TO (rawInt T))/\TwoAt h TI (.ref i1) (.ref i2)/\(∃a b,TwoAt h TO a b)/\S1 (k+1) h/\S2 (k+1) h/\T≠z/\T≠TI/\T≠TO/\T≠i1/\T≠i2) where
 sub:=λc hc=>by
  have hc':c=z∨c=TI∨c=TO∨c=i1∨c=i2:=by simpa using hc
  rcases hc' with e|e|e|e|e<;>subst e
  ·simp
  ·simp
  ·simp
  ·simp[ap.m1]
  ·simp[ap.m2]
 frame:=λk h h' st kp=>by
  obtain⟨a1,a2,⟨a,b,a3⟩,a4,a5⟩:=st;exact⟨kp z (by simp) _ a1,a2.keep λo e=>kp TI (by simp) o e,⟨a,b,a3.keep λo e=>kp TO (by simp) o e⟩,D1.frame _ _ _ a4 λc hc o e=>kp c (by simp[hc]) o e,D2.frame _ _ _ a5 λc hc o e=>kp c (by simp[hc]) o e⟩
 item:=λk s Q E hk st q=>by
  obtain⟨a1,a2,⟨a,b,a3⟩,a4,a5⟩:=st;have ty:s.TypeIs (.ref z) "zip" := ⟨_,a1,rfl⟩;unfold pyNext;refine AAA (wpAny_attempt (wpAny_callSpecial?_slot (name:=Str.ofString "__next__") ty F.slot_zip_next (AAc F.slot_zip_next ty F.entry_zip_next (PY ap D1 D2 hk a1 a2 a3 a4 a5 λx y T h' tk px py hT tup b1 b2 b3 b4 b5 kp=>?_) (F.args_zip_next_1 _))));have lt:∀{c:Addr} {o:Obj},s.heap.get? c=some o->T≠c:=λe=>Nat.ne_of_gt (AAN (Heap.lt_size e) hT);obtain⟨o1,e1⟩:=D1.live _ _ a4;obtain⟨o2,e2⟩:=D2.live _ _ a5;obtain⟨n3,e3⟩:=a3;obtain⟨n4,e4⟩:=id a2;refine AAB (q T #[x,y] h' tk ⟨x,y,px,py,rfl⟩ hT tup ⟨b1,b2,⟨x,y,b3⟩,b4,b5,lt a1,lt e4,lt e3,lt e1,lt e2⟩ λc o hc e=>?_);exact kp c o (λz=>hc (by simp[z])) (λz=>hc (by simp[z])) (λz=>hc (by simp[z])) (λz=>hc (by simp[z])) e
 go:=λes k0 pos k T s Q E st q=>by
  obtain⟨a1,a2,a3,a4,a5,t1,t5,t2,t3,t4⟩:=st;refine wpAny_letOwnedTupleGo_zip a1 λh' hz' sb=>?_;have kp:∀c o,c≠z->s.heap.get? c=some o->h'.get? c=some o:=λc o hc e=>(sb.2 c hc).trans e;obtain⟨a,b,a3⟩:=a3;refine q h' ⟨hz',a2.keep λo e=>kp TI o ap.zTI.symm e,⟨a,b,a3.keep λo e=>kp TO o ap.zTO.symm e⟩,D1.frame _ _ _ a4 λc hc o e=>kp c o (λy=>ap.z1 (y ▸ hc)) e,D2.frame _ _ _ a5 λc hc o e=>kp c o (λy=>ap.z2 (y ▸ hc)) e⟩ λc o hc e=>kp c o (λy=>hc (by simp[y])) e
 apart:=λk T h st hT=>by
  obtain⟨_,_,_,_,_,t1,t5,t2,t3,t4⟩:=st;have hT':T=z∨T=TI∨T=TO∨T=i1∨T=i2:=by simpa using hT
  rcases hT' with e|e|e|e|e
  ·exact t1 e
  ·exact t5 e
  ·exact t2 e
  ·exact t3 e
  ·exact t4 e
 done:=λs Q E st q=>by
  obtain⟨a1,a2,⟨a,b,a3⟩,a4,a5⟩:=st;have ty:s.TypeIs (.ref z) "zip" := ⟨_,a1,rfl⟩;unfold pyNext;refine AAA (wpAny_attempt (wpAny_callSpecial?_slot (name:=Str.ofString "__next__") ty F.slot_zip_next (AAc F.slot_zip_next ty F.entry_zip_next (PX ap D1 a1 a2 a3 a4 λh' e kp so=>?_) (F.args_zip_next_1 _))));obtain⟨o,ho,hc⟩:=so;refine AAA (wpAny_isInstance (T := "StopIteration") (b:=true) ⟨o,ho,hc⟩ isSubtype_stop (AAB (q h' s.toks λc o hc e=>?_)));exact kp c o (λy=>hc (by simp[y])) (λy=>hc (by simp[y])) e
 self:=λk s Q E st h=>HX st.1 h
end
end L2
namespace L2
open PySem PySem.Spec PyProof.Rows
noncomputable abbrev Gf(a b:Value):Obj:={ cls:=.type "tuple",data:=.seq #[a,b] }
noncomputable abbrev zh2(h:Heap)(o1 o2:Obj):Heap:=(h.push o1).push o2
noncomputable abbrev zh4(h:Heap)(o1 o2:Obj):Heap:=((zh2 h o1 o2).push (Gf (.ref h.objs.size) (.ref (h.push o1).objs.size))).push (Gf .none .none)
noncomputable abbrev zh5(h:Heap)(o1 o2:Obj):Heap:=(zh4 h o1 o2).push (DF (zh2 h o1 o2).objs.size ((zh2 h o1 o2).push (Gf (.ref h.objs.size) (.ref (h.push o1).objs.size))).objs.size .none)
theorem SF(v1 v2:Value)(o1 o2:Obj)(g1 g2:Heap->Prop)(g2p:∀h,g2 h->g2 (h.push o1))
  (w1:∀(prog:Program) (w:World) (A:Around) (E:Value->Shared->Prop) (s:Shared) (Q:Value->Shared->Prop),g1 s.heap->Q (.ref s.heap.objs.size) { s with heap:=s.heap.push o1 }->wpAny (model prog w) A (pyIter v1) Q E s)
  (w2:∀(prog:Program) (w:World) (A:Around) (E:Value->Shared->Prop) (s:Shared) (Q:Value->Shared->Prop),g2 s.heap->Q (.ref s.heap.objs.size) { s with heap:=s.heap.push o2 }->wpAny (model prog w) A (pyIter v2) Q E s) :
  Meets (Builtin.«zip.__new__» ⟨[.type "zip",v1,v2],[]⟩) (λ_ R s=>g1 s.heap/\g2 s.heap/\R (.ok (.ret (.ref (zh4 s.heap o1 o2).objs.size))) { s with heap:=zh5 s.heap o1 o2 }):=by
 refine .of_wp λprog w A R s ⟨x1,x2,q⟩=>?_;have own:=sub_zip;have walk1:∀(A:Around) (E:Value->Shared->Prop) (Q:Value->Shared->Prop),Q (.ref s.heap.objs.size) { s with heap:=s.heap.push o1 }->wpAny (model prog w) A (pyIter v1) Q E s:=λA E Q z=>w1 prog w A E s Q x1 z;have walk2:∀(A:Around) (E:Value->Shared->Prop) (Q:Value->Shared->Prop),Q (.ref (s.heap.push o1).objs.size) { s with heap:=zh2 s.heap o1 o2 }->wpAny (model prog w) A (pyIter v2) Q E { s with heap:=s.heap.push o1 }:=λA E Q z=>w2 prog w A E { s with heap:=s.heap.push o1 } Q (g2p _ x2) z;obtain⟨hp,gs,dr,tk,os⟩:=s
 wp_walk using walk1,walk2
 exact⟨_,rfl,q⟩
noncomputable def Jq(xs ys:List V)(i:Nat):List V:=[xs.getD i .non,ys.getD i .non]
theorem N5{xs ys:List V}{its jts:List Value}(r:Vals xs its)(r2:Vals ys jts){i:Nat}{vals:Array Value}(h:∃x y,its.toArray[i]?=some x/\jts.toArray[i]?=some y/\vals=#[x,y]):Vals (Jq xs ys i) vals.toList:=by
 obtain⟨x,y,hx,hy,rfl⟩:=h;have one:∀{zs:List V} {us:List Value} {u:Value},Vals zs us->us.toArray[i]?=some u->RelV (zs.getD i .non) u:=λ{zs us u} rz hu=>by
  have hu':us[i]?=some u:=by simpa using hu
  have hl:=rz.length;have lt:i<zs.length:=by have:=(AAU.mp hu').1;omega
  obtain⟨u',e1,e2⟩:=rz.get (show zs[i]?=some zs[i] by simp[lt]);rw[hu'] at e1;cases e1;simpa[List.getD,lt] using e2
 exact .cons (one r hx) (.cons (one r2 hy) .nil)
theorem OE{P:Program}{w:World}{K:PySem.W.Frag}{es:List Expr}{k0:Nat}{pos:Pos}(a b z TI TO i1 i2:Addr)(xs ys:List V)(hl:ys.length=xs.length)(ap:Iv z TI TO i1 i2 [i1,a] [i2,b])(h1:a≠i1)(h2:b≠i2):
  JC P w K (.Tuple es k0 pos) (ItP K xs.length (Jq xs ys) λK H=>SqT K H a xs/\SqT K H b ys) [z,TI,TO,i1,i2] z (λi h=>h.get? z=some (DF TI TO .none)/\TwoAt h TI (.ref i1) (.ref i2)/\(∃c d,TwoAt h TO c d)/\h.IsTupleIter i1 a i/\h.IsTupleIter i2 b i):=by
 refine Fr (ι:=List Value×List Value) (good:=λp=>Vals xs p.1/\Vals ys p.2) (Pt:=λp i vals=>∃x y,p.1.toArray[i]?=some x/\p.2.toArray[i]?=some y/\vals=#[x,y])
  (Sw:=λp i h=>h.get? z=some (DF TI TO .none)/\TwoAt h TI (.ref i1) (.ref i2)/\(∃c d,TwoAt h TO c d)/\(h.IsTupleIter i1 a i/\h.IsTuple a p.1.toArray)/\(h.IsTupleIter i2 b i/\h.IsTuple b p.2.toArray))
  (Mid:=λp i T h=>h.get? z=some (DF TI TO (rawInt T))/\TwoAt h TI (.ref i1) (.ref i2)/\(∃c d,TwoAt h TO c d)/\(h.IsTupleIter i1 a (i+1)/\h.IsTuple a p.1.toArray)/\(h.IsTupleIter i2 b (i+1)/\h.IsTuple b p.2.toArray)/\T≠z/\T≠TI/\T≠TO/\T≠i1/\T≠i2)
  (fp:=z::TI::TO::([i1,a]++[i2,b]))
  (λA hA p r=>?walk) AAQ (λp i vals r h=>N5 r.1 r.2 h) (λi=>(by show 2<=sizeLine;decide)) (λi h st=>?obj) (λi h h' st k=>?keep) (λX pins σ H s i hP hw hK I hc st=>?into) (λp i h st=>⟨st.1,st.2.1,st.2.2.1,st.2.2.2.1.1,st.2.2.2.2.1⟩) (λA i s Q E st h=>HX st.1 h)
 case walk=>
  have l1:p.1.toArray.size=xs.length:=by rw[List.size_toArray];exact r.1.length.symm
  have l2:p.2.toArray.size=xs.length:=by rw[List.size_toArray,←hl];exact r.2.length.symm
  have D1:=Gx (prog:=P) (w:=w) (A:=A.in1) hA i1 a h1 p.1.toArray;have D2:=Gx (prog:=P) (w:=w) (A:=A.in1) hA i2 b h2 p.2.toArray;rw[l1] at D1;rw[l2] at D2;exact OC hA ap D1 D2
 case obj=>
  intro c hc;obtain⟨a1,⟨n1,a2⟩,⟨c0,d0,n2,a3⟩,⟨o4,a4,_,d4⟩,⟨o5,a5,_,d5⟩⟩:=st;have hc':c=z∨c=TI∨c=TO∨c=i1∨c=i2:=by simpa using hc
  rcases hc' with e|e|e|e|e<;>subst e
  ·exact⟨_,a1,λv q=>by cases q⟩
  ·exact⟨_,a2,λv q=>by cases q⟩
  ·exact⟨_,a3,λv q=>by cases q⟩
  ·exact⟨_,a4,λv q=>by rw[d4] at q;cases q⟩
  ·exact⟨_,a5,λv q=>by rw[d5] at q;cases q⟩
 case keep=>
  obtain⟨a1,a2,⟨c0,d0,a3⟩,⟨o4,a4,r4⟩,⟨o5,a5,r5⟩⟩:=st;exact⟨k z (by simp) _ a1,a2.keep λo e=>k TI (by simp) o e,⟨c0,d0,a3.keep λo e=>k TO (by simp) o e⟩,⟨o4,k i1 (by simp) o4 a4,r4⟩,⟨o5,k i2 (by simp) o5 a5,r5⟩⟩
 case into=>
  subst hK;obtain⟨c1,c2⟩:=hc;obtain⟨a1,a2,a3,a4,a5⟩:=st;obtain⟨its,r,p,_⟩:=I.tuple c1;obtain⟨jts,r2,p2,_⟩:=I.tuple c2;exact⟨(its,jts),⟨r,r2⟩,a1,a2,a3,⟨a4,p⟩,⟨a5,p2⟩⟩
section
theorem Ry:bootBuiltins "zip" = some (.type "zip"):=by decide +kernel
noncomputable def YU(K:PySem.W.Frag)(ta:TA):TI:=λσ H R=>ta σ H λvs H1=>∃a b xs ys,vs=[.ref a,.ref b]/\SqT K H1 a xs/\SqT K H1 b ys/\ys.length=xs.length/\R (ItP K xs.length (Jq xs ys) λK H=>SqT K H a xs/\SqT K H b ys) H1
end
section
variable{X:Cx}{es:List Expr}{k0:Nat}{tpos:Pos}
theorem nin{n l c:Nat}(h1:c≠n)(h2:c≠l):c∉([n,l]:List Nat):=λh=>by
 have h':c=n∨c=l:=by simpa using h
 exact h'.elim h1 h2
theorem zap(n l m:Nat)(hl:l<n)(hm:m<n):Iv (n+4) (n+2) (n+3) n (n+1) [n,l] [n+1,m] where
 zTI:=(by omega:¬(n+4:Nat)=n+2)
 zTO:=(by omega:¬(n+4:Nat)=n+3)
 io:=(by omega:¬(n+2:Nat)=n+3)
 z1:=nin (by omega) (by omega)
 z2:=nin (by omega) (by omega)
 o1:=nin (by omega) (by omega)
 o2:=nin (by omega) (by omega)
 n1:=(by omega:¬(n+2:Nat)=n)
 n2:=(by omega:¬(n+2:Nat)=n+1)
 m1:=AAQ
 m2:=AAQ
 x12:=nin (by omega) (by omega)
 x21:=nin (by omega) (by omega)
theorem UC{pins:List (Addr×Obj)}{σ:St}{H:Hp}{s:Shared}(I:Inv X pins σ H s)(c:Addr)(hc:s.heap.objs.size<=c):FX X pins H c:=I.fpOk hc (I.hok.fresh hc)
theorem TR{a b:Expr}{ta:TA}{p pos:Pos}(hg:Gl X "zip")(hm:X.mg "zip" = none)(ha:PA X [a,b] ta)(hs:starEach [a,b] X.env=(false,eval a X.env)::starEach [b] X.env)(hpl:(backTo pos (starEach [b] X.env)).any (·.1)=false):
  PI X (.Tuple es k0 tpos) (.Call (.Name "zip" p) [a,b] [] pos) (YU X.kw ta):=by
 intro pins s σ H R I h;refine Call_ (Fz I hg hm Ry (PyProof.Rows.callWith_type1 (thn (ha pos pins s σ H _ I h) λus s1 ⟨vs,H1,I1,r1,q1⟩=>?_) hs hpl));obtain⟨l,m,xs,ys,ev,hx,hy,hl,q⟩:=q1;subst ev;obtain⟨u1,u2,eu,ru1,ru2⟩:=Vals.two r1;subst eu;cases ru1;cases ru2;obtain⟨its,rx,px,_⟩:=I1.tuple hx;obtain⟨jts,ry,py,_⟩:=I1.tuple hy;have ltl:l<s1.heap.objs.size:=by obtain⟨o,e,_⟩:=px;exact Heap.lt_size e
 have ltm:m<s1.heap.objs.size:=by obtain⟨o,e,_⟩:=py;exact Heap.lt_size e
 have new:=SF (.ref l) (.ref m) { cls:=.type "tuple_iterator",data:=.fields #[.ref l,.int 0 0] } { cls:=.type "tuple_iterator",data:=.fields #[.ref m,.int 0 0] } (λh=>h.IsTuple l its.toArray) (λh=>h.IsTuple m jts.toArray) (λh x=>x.push _) (λ_ _ _ _ _ _ g z=>wpAny_pyIter_tuple g z) (λ_ _ _ _ _ _ g z=>wpAny_pyIter_tuple g z);refine callType_new F.called_zip (by decide) (F.typeCall_zip_2 _ _) (F.newCall_zip_2 _ _) (λobj=>F.args_object_init_3 obj _ _) F.entry_zip_new new ⟨px,py,?_⟩;generalize ho1:({ cls:=.type "tuple_iterator",data:=.fields #[.ref l,.int 0 0] }:Obj)=o1;generalize ho2:({ cls:=.type "tuple_iterator",data:=.fields #[.ref m,.int 0 0] }:Obj)=o2;have n1:(s1.heap.push o1).objs.size=s1.heap.objs.size+1:=Heap.size_push ..;have n2:(zh2 s1.heap o1 o2).objs.size=s1.heap.objs.size+2:=by rw[Heap.size_push,n1]
 have n3:((zh2 s1.heap o1 o2).push (Gf (.ref s1.heap.objs.size) (.ref (s1.heap.push o1).objs.size))).objs.size=s1.heap.objs.size+3:=by rw[Heap.size_push,n2]
 have n4:(zh4 s1.heap o1 o2).objs.size=s1.heap.objs.size+4:=by rw[Heap.size_push,n3]
 have kp:∀c o,s1.heap.get? c=some o->(zh5 s1.heap o1 o2).get? c=some o:=λc o e=>AAC _ (AAC _ (AAC _ (AAC _ (AAC _ e))));have f1:o1.isFreed=false:=by rw[←ho1];rfl
 have f2:o2.isFreed=false:=by rw[←ho2];rfl
 have a1:(zh5 s1.heap o1 o2).get? s1.heap.objs.size=some o1:=AAC _ (AAC _ (AAC _ (AAC _ (AAD _ f1))));have a2:(zh5 s1.heap o1 o2).get? (s1.heap.objs.size+1)=some o2:=by rw[←n1];exact AAC _ (AAC _ (AAC _ (AAD _ f2)))
 have a3:(zh5 s1.heap o1 o2).get? (s1.heap.objs.size+2)=some (Gf (.ref s1.heap.objs.size) (.ref (s1.heap.objs.size+1))):=by
  rw[←n1,←n2];exact AAC _ (AAC _ (AAD _ rfl))
 have a4:(zh5 s1.heap o1 o2).get? (s1.heap.objs.size+3)=some (Gf .none .none):=by
  rw[←n3];exact AAC _ (AAD _ rfl)
 have a5:(zh5 s1.heap o1 o2).get? (s1.heap.objs.size+4)=some (DF (s1.heap.objs.size+2) (s1.heap.objs.size+3) .none):=by
  rw[←n4,←n2,←n3];exact AAD _ rfl
 show _/\_;rw[n4];refine⟨⟨_,a5,rfl⟩,HX a5 ?_⟩;refine⟨s1.heap.objs.size+4,[s1.heap.objs.size+4,s1.heap.objs.size+2,s1.heap.objs.size+3,s1.heap.objs.size,s1.heap.objs.size+1],_,_,H1,rfl,I1.kept (t':=s1.toks) kp,
  OE l m (s1.heap.objs.size+4) (s1.heap.objs.size+2) (s1.heap.objs.size+3) s1.heap.objs.size (s1.heap.objs.size+1) xs ys hl (zap _ l m ltl ltm) (AAd ltl) (AAd (AAg ltm)),⟨a5,⟨_,a3⟩,⟨_,_,_,a4⟩,⟨o1,a1,by rw[←ho1],by rw[←ho1];rfl⟩,⟨o2,a2,by rw[←ho2],by rw[←ho2];rfl⟩⟩,λc hc=>UC I1 c ?_,q⟩
 have hc':c=s1.heap.objs.size+4∨c=s1.heap.objs.size+2∨c=s1.heap.objs.size+3∨c=s1.heap.objs.size∨c=s1.heap.objs.size+1:=by simpa using hc
 rcases hc' with e|e|e|e|e<;>subst e<;>first|exact AAF _|exact Nat.le_add_right _ _
end
end L2
namespace Mi
open PySem L2
section
variable{X:Cx}{a b:Expr}{es:List Expr}{pos:Pos}
noncomputable def Ix:List D->List D->List D
 |x::xs,y::ys=>.tup [x,y]::Ix xs ys
 |_,_=>[]
noncomputable def FY:List D->M (List D)
 |[.tup xs,.tup ys]=>λμ=>if ys.length=xs.length then some (Ix xs ys,μ) else none
 |_=>BS
noncomputable def Q8(m:Sl->M (List D)):Sl->M (List D):=λτ=>bnd (m τ) FY
theorem Ku:∀{xs ys:List D},ys.length=xs.length->(Ix xs ys).length=xs.length
 |[],[],_=>rfl
 |x::xs,y::ys,h=>by unfold Ix;simp at h ⊢;exact Ku h
 |[],_::_,h=>by simp at h
 |_::_,[],h=>by simp at h
theorem Kv:∀{xs ys:List D} {j:Nat} {d:D},(Ix xs ys)[j]?=some d->∃x y,xs[j]?=some x/\ys[j]?=some y/\d=.tup [x,y]
 |[],_,j,d,h=>by simp[Ix] at h
 |_::_,[],j,d,h=>by simp[Ix] at h
 |x::xs,y::ys,0,d,h=>by simp[Ix] at h;exact⟨x,y,rfl,rfl,h.symm⟩
 |x::xs,y::ys,j+1,d,h=>by
  obtain⟨x',y',h1,h2,h3⟩:=Kv (xs:=xs) (ys:=ys) (j:=j) (d:=d) (by simpa[Ix] using h);exact⟨x',y',by simpa using h1,by simpa using h2,h3⟩
theorem T5{K:KW}{ι:Nat->Addr}{μ:Mh}{H:Hp}{vs ws:List V}{ds es:List D}{Cond:PySem.W.Frag->Hp->Prop}(st:∀ι' (μ':Mh) H',Ext ι μ.length H ι' μ'.length H'->RelH K ι' μ' H'->Cond K H')(i:IsL K ι μ.length H ds vs)(j:IsL K ι μ.length H es ws)(hl:es.length=ds.length):
  ItM K (ItP K vs.length (Jq vs ws) Cond) (Ix ds es) ι μ H:=by
 intro ι' μ' H' E R;have h:=st ι' μ' H' E R;rw[Ku hl,←i.length];refine⟨λj hj=>⟨hj,h⟩,⟨rfl,h⟩,λk x H2 d hd y=>?_⟩;obtain⟨T,hT,rfl,rfl⟩:=y;obtain⟨E2,R2⟩:=R.laid (.tup (Jq vs ws k)) hT;refine⟨E2,R2,?_⟩;obtain⟨x,y,h1,h2,rfl⟩:=Kv hd;obtain⟨v,ev,iv⟩:=(i.ext E).get h1;obtain⟨u,eu,iu⟩:=(j.ext E).get h2;have es':Jq vs ws k=[v,u]:=by unfold Jq;simp[List.getD,ev,eu]
 have key:IsL K ι' (List.length μ') (upd H' T (.tup (Jq vs ws k))) [x,y] [v,u]:=.cons (iv.ext E2) (.one (iu.ext E2));unfold Is;exact⟨T,_,rfl,SqT.of BU,(congrArg (IsL K ι' (List.length μ') (upd H' T (.tup (Jq vs ws k))) [x,y]) es').mpr key⟩
theorem NG{p tpos:Pos}{k0:Nat}{m:Sl->M (List D)}(hm:X.mg "zip" = none)(ha:RA X [a,b] m)(hg:Gl X "zip" := by rfl)(hs:starEach [a,b] X.env=(false,eval a X.env)::starEach [b] X.env:=by exact Av rfl)(hpl:(backTo pos (starEach [b] X.env)).any (·.1)=false:=by exact BB rfl):
  RI X (.Tuple es k0 tpos) (.Call (.Name "zip" p) [a,b] [] pos) (Q8 m):=
 RI.wk (TR hg hm ha.pe hs hpl) λσ H R q=>by
  obtain⟨ι,μ,τ,ds,μ',R0,S,e,q⟩:=q;obtain⟨xs,μ1,e1,e2⟩:=AJ e;refine⟨ι,μ,τ,xs,μ1,R0,S,e1,λι1 H1 E1 R1 vs i1=>?_⟩;unfold FY at e2;split at e2
  ·rename_i xs ys;split at e2
   ·rename_i hl;cases e2;obtain⟨v,u,rfl,i2,i3⟩:=T9 i1;unfold Is at i2 i3;obtain⟨p,ws,rfl,h1,h2⟩:=i2;obtain⟨p',ws',rfl,h1',h2'⟩:=i3;exact⟨p,p',ws,ws',rfl,h1,h1',by rw[h2.length,h2'.length];exact hl,q ι1 H1 E1 R1 _ (T5 (λι' μ' H' E _=>⟨GA E h1,GA E h1'⟩) h2 h2' hl)⟩
   ·cases e2
  ·cases e2
end
end Mi
namespace L2
open PySem PySem.Spec PyProof.Rows Sem
noncomputable def By(xs:List Str):List Str:=xs.foldl (λys x=>if x∈ys then ys else ys++[x]) []
theorem JS(xs:List Str)(x:Str):By (xs++[x])=if x∈By xs then By xs else By xs++[x]:=by
 unfold By;rw[List.foldl_append];rfl
theorem Go:∀(xs ys:List Str),(xs.foldl (λys x=>if x∈ys then ys else ys++[x]) ys).length<=ys.length+xs.length
 |[],ys=>AAF _
 |x::xs,ys=>by
  rw[List.foldl_cons];have:=Go xs (if x∈ys then ys else ys++[x]);split at this<;>simp at this ⊢<;>(try split)<;>simp_all<;>omega
theorem Tj(xs:List Str):(By xs).length<=xs.length:=by
 have:=Go xs [];simpa[By] using this
section
variable{prog:Program}{w:World}{A:Around}{E:Value->Shared->Prop}{s:Shared}
theorem QG{S:Addr}{xs:List Str}{x:Str}{t:Tok}{Q:Bool->Shared->Prop}(hS:s.heap.SetOf (strKind prog w) S (λk=>decide (k∈By xs)) (By xs).length)(room:xs.length+2<scanBound)
  (q:∀b h' tk,Heap.SameBut S s.heap h'->h'.SetOf (strKind prog w) S (λk=>decide (k∈By (xs++[x]))) (By (xs++[x])).length->Q b { s with heap:=h',toks:=tk }) :
  wpAny (model prog w) A (setAdd S (.str x t)) Q E s:=by
 unfold setAdd;refine AAn (AAA ((strKind prog w).pyHash (strKind_is prog w x t) ?_));have le:=Tj xs;refine wpAny_setAddHashed_of (knd:=strKind prog w) (s:={ s with toks:=s.toks+1 }) (strKind_is prog w x t) rfl hS (by omega) λh' sb hS'=>q _ h' _ sb ?_;have e1:(λk':Str=>decide (k'∈By xs)||decide (k'=x))=λk'=>decide (k'∈By (xs++[x])):=by
  funext k'
  rw[JS];split
  ·rename_i hx;by_cases e:k'=x
   ·subst e;simp[hx]
   ·simp[e]
  ·simp
 have e2:(if decide (x∈By xs)=true then (By xs).length else (By xs).length+1)=(By (xs++[x])).length:=by
  rw[JS];by_cases hx:x∈By xs<;>simp[hx]
 rw[e1,e2] at hS';exact hS'
theorem QH{I l S:Addr}{its:List Value}{ss:List Str}(hh:A.in1.handled=none)(hlI:l≠I)(hSI:S≠I)(hSl:S≠l)(rv:Vals (ss.map V.str) its)(room:ss.length+2<scanBound){R:Result->Shared->Prop}:
  ∀(m i:Nat) (s:Shared),ss.length-i=m->i<=ss.length->s.heap.IsListIter I l i->s.heap.IsList l its.toArray->s.heap.SetOf (strKind prog w) S (λk=>decide (k∈By (ss.take i))) (By (ss.take i)).length->
   (∀h' tk,(∀c o,c≠S->c≠I->s.heap.get? c=some o->h'.get? c=some o)->h'.SetOf (strKind prog w) S (λk=>decide (k∈By ss)) (By ss).length->R (.ok (.ret .none)) { s with heap:=h',toks:=tk })->
   codeAny (model prog w) A (.builtin "set.update.loop" ⟨[.ref S,.ref I],[]⟩) R s:=by
 have hl:its.length=ss.length:=by have:=rv.length;simpa using this.symm
 have W:=Walks.list (prog:=prog) (w:=w) hh I l hlI its.toArray;intro m
 induction m with
 |zero=>
  intro i s hm hi hit hls hS q;have ei:i=ss.length:=by omega
  subst ei;refine codeAny_builtin PyProof.Rows.F.entry_set_update_loop ?_;rw[Around.under_plainId PyProof.Rows.F.plain_set_update_loop _];refine AAA (m:=pyNext (.ref I)) (W.done s _ _ ⟨by rw[List.size_toArray,hl];exact hit,hls⟩ λh' tk kp=>AAB ?_);rw[List.take_length] at hS;obtain⟨o,es,ep,tb,ho,rest⟩:=hS;exact q h' tk (λc o _ c2 e=>kp c o (by simpa using c2) e) ⟨o,es,ep,tb,kp S o (by simpa using hSI) ho,rest⟩
 |succ m ih=>
  intro i s hm hi hit hls hS q;have lt:i<ss.length:=by omega
  refine codeAny_builtin PyProof.Rows.F.entry_set_update_loop ?_;rw[Around.under_plainId PyProof.Rows.F.plain_set_update_loop _];refine AAA (m:=pyNext (.ref I)) (W.item i s _ _ (by rw[List.size_toArray,hl];exact lt) ⟨hit,hls⟩ λv h' tk hv st kp=>?_);obtain⟨u,eu,ru⟩:=rv.get (show (ss.map V.str)[i]?=some (V.str ss[i]) by simp[lt]);have hv':its[i]?=some v:=by simpa using hv
  rw[eu] at hv';cases hv';obtain⟨t,rfl⟩:=ru;obtain⟨o,es,ep,tb,ho,rest⟩:=hS;have hS1:h'.SetOf (strKind prog w) S (λk=>decide (k∈By (ss.take i))) (By (ss.take i)).length:=⟨o,es,ep,tb,kp S o (by simpa using hSI) ho,rest⟩;refine AAA (AAn (QG (s:={ s with heap:=h',toks:=tk }) hS1 (by rw[List.length_take];omega) λb h2 t2 sb hS2=>?_));have tk1:ss.take i++[ss[i]]=ss.take (i+1):=by rw[List.take_succ,AAt lt];rfl
  rw[tk1] at hS2;have k2:∀c o,c≠S->h'.get? c=some o->h2.get? c=some o:=λc o hc e=>(sb.2 c hc).trans e;refine AAB ⟨plainId_quiet PyProof.Rows.F.plain_set_update_loop _,ih (i+1) _ (by omega) lt (st.1.at λo e=>k2 I o hSI.symm e) (st.2.at λo e=>k2 l o hSl.symm e) hS2 λh3 t3 kp3 hS3=>?_⟩;exact q h3 t3 (λc o c1 c2 e=>kp3 c o c1 c2 (k2 c o c1 (kp c o (by simpa using c2) e))) hS3
end
section
variable{prog:Program}{w:World}{A:Around}{E:Value->Shared->Prop}{s:Shared}
set_option maxHeartbeats 2000000 in
theorem Ts{T nid iid:String}{args:List Value}{Q Q₁:Value->Shared->Prop}(ft:TypeCalled T nid iid)(ok:checkTypeCall T ⟨args,[]⟩=pure ())
  (new:codeAny (model prog w) A.in1 (.call (.builtin nid) ⟨.type T::args,[]⟩) (wants Q₁ E) s)
  (init:∀x s₁,Q₁ x s₁->s₁.TypeIs x T/\codeAny (model prog w) A.in1 (.call (.builtin iid) ⟨x::args,[]⟩) (wants (λr s₂=>r=.none/\Q x s₂) E) s₁) :
  wpAny (model prog w) A (call (.type T) args) Q E s:=by
 have a1:=ft.notType;have a2:=ft.canCreate;have a3:=ft.made;have a4:=ft.sub;obtain⟨c,tl,a5⟩:=ft.mro;have step:codeAny (model prog w) A (.builtin "type.__call__" ⟨.type T::args,[]⟩) (wants Q E) s:=by
  refine codeAny_builtin F.entry_type_call ?_;rw[Around.under_plain (weight_type_call_type T args []) rfl];unfold Builtin.«type.__call__»
  iterate 3 (any_goals (first|assumption|wp_step))
  first|refine wpAny_of_eq ok ?_|refine AAA (wpAny_of_eq ok ?_)
  repeat (any_goals (first|assumption|wp_step))
  refine codeAny_mono new λr s₁ hr=>?_
  match r,hr with
  | .error e,hr=>exact hr
  | .ok (.ret x),hr=>
   obtain⟨ty,run⟩:=init x s₁ hr;have b1:=ft.init.lookup;have b2:=ft.init.bind x
   repeat (any_goals (first|assumption|wp_step))
   refine codeAny_mono run λr₂ s₂ hr₂=>?_
   match r₂,hr₂ with
   | .error e,hr₂=>exact hr₂
   | .ok (.ret y),hr₂=>
    obtain⟨ey,hq⟩:=hr₂;subst ey
    repeat (any_goals (first|assumption|wp_step))
 exact wpAny_call (codeAny_of_tree (AAB ⟨Code.quiet_builtin _ (by decide +kernel),step⟩))
noncomputable abbrev Ca(led:Bool):Obj:={ cls:=.type "set",data:=.set #[] 0 (.fresh 0 0 led) }
set_option maxHeartbeats 2000000 in
theorem PF{l:Addr}{its:List Value}{ss:List Str}{Q:Value->Shared->Prop}(hh:A.handled=none)(hl:s.heap.IsList l its.toArray)(rv:Vals (ss.map V.str) its)(room:ss.length+2<scanBound)
  (q:∀h' tk,(∀c o,s.heap.get? c=some o->h'.get? c=some o)->h'.SetOf (strKind prog w) s.heap.objs.size (λk=>decide (k∈By ss)) (By ss).length->Q (.ref s.heap.objs.size) { s with heap:=h',toks:=tk }) :
  wpAny (model prog w) A (call (.type "set") [.ref l]) Q E s:=by
 refine Ts F.called_set (F.typeCall_set_1 _) (code_set_new_1 (.ref l) (Q₁:=λx s₁=>∃led:Bool,x=.ref s.heap.objs.size/\s₁={ s with heap:=s.heap.push (Ca led) }) λled=>⟨led,rfl,rfl⟩) ?_;rintro x s₁ ⟨led,rfl,rfl⟩;have at_S:(s.heap.push (Ca led)).get? s.heap.objs.size=some (Ca led):=AAD _ rfl;have ty:Shared.TypeIs { s with heap:=s.heap.push (Ca led) } (.ref s.heap.objs.size) "set" := ⟨_,at_S,rfl⟩;have lt:l<s.heap.objs.size:=by obtain⟨o,e,_⟩:=hl;exact Heap.lt_size e
 have hl1:(s.heap.push (Ca led)).IsList l its.toArray:=hl.push _;have tyl:Shared.TypeIs { s with heap:=s.heap.push (Ca led) } (.ref l) "list" := hl1.typeIs;refine⟨ty,codeAny_call_builtin F.called_set.init.plain F.entry_set_init (check_set_init_1 ty ?_)⟩;have c1:=F.sub_list_set;have c2:=F.sub_list_frozenset;unfold Builtin.«set.__init__» noKeywords Builtin.Frozenset.updateFrom;have walk:∀(A:Around) (E:Value->Shared->Prop) (Q:Value->Shared->Prop),Q (.ref (s.heap.push (Ca led)).objs.size) { s with heap:=(s.heap.push (Ca led)).push { cls:=.type "list_iterator",data:=.fields #[.ref l,.int 0 0] } }->wpAny (model prog w) A (pyIter (.ref l)) Q E { s with heap:=s.heap.push (Ca led) }:=λA E Q z=>wpAny_pyIter_list hl1 z
 wp_walk using walk
 have sz:(s.heap.push (Ca led)).objs.size=s.heap.objs.size+1:=Heap.size_push ..;refine QH (l:=l) (ss:=ss) (A:=A.in1.in1) (by simp[hh]) (by rw[sz];exact AAd (AAg lt)) (by rw[sz];exact AAd (Nat.lt_succ_self _)) (Nat.ne_of_gt lt) rv room ss.length 0 _ (Nat.sub_zero _) (AAi _) ⟨_,AAD _ rfl,rfl,rfl⟩ (hl1.push _) ?start λh' tk kp hS=>?fin
 case start=>
  exact(setObjOf_fresh (knd:=strKind prog w) led).setOf (AAC _ at_S) (by decide)
 case fin=>
  have ltS:∀{c:Addr} {o:Obj},s.heap.get? c=some o->c<s.heap.objs.size:=λe=>Heap.lt_size e;exact AAB (AAB ⟨rfl,q h' tk (λc o e=>kp c o (AAd (ltS e)) (by rw[sz];exact AAd (AAg (ltS e))) (AAC _ (AAC _ e))) hS⟩)
end
noncomputable def Sh(P:Program)(w:World)(p:Addr)(ss:List Str):HO:=.ext λh=>h.SetOf (strKind P w) p (λk=>decide (k∈By ss)) (By ss).length
section
variable{X:Cx}
theorem PD(hc:X.calm=true):CT X (.type "set") (λxs H Q=>∃a ss,xs=[.ref a]/\SqL X.kw H a (ss.map V.str)/\ss.length+2<scanBound/\∀p,H p=none->Q (.ref p) (upd H p (Sh X.prog X.w p ss))):=by
 intro pins s σ H xs us Q I r h;obtain⟨a,ss,rfl,ha,room,q⟩:=h;obtain⟨u,rfl,ru⟩:=Vals.one r;cases ru;obtain⟨its,rv,pl,hz⟩:=I.list ha;refine PF (I.ok.hd hc) pl.isList rv room λh' tk kp hS=>?_;refine⟨.ref s.heap.objs.size,_,I.laid (o:=Sh X.prog X.w s.heap.objs.size ss) kp (AAF _) ?_,rfl,q _ (I.hok.fresh (AAF _))⟩;obtain⟨o,es,ep,t,e,rest⟩:=id hS;refine⟨hS,⟨o,e⟩,λh1 h2 z k=>?_⟩;obtain⟨o,es,ep,t,e,rest⟩:=z;exact⟨o,es,ep,t,k o e,rest⟩
theorem PL:CT X (.builtin "len") (λxs H Q=>∃p ss,xs=[.ref p]/\H p=some (Sh X.prog X.w p ss)/\Q (.int (By ss).length) H):=by
 intro pins s σ H xs us Q I r h;obtain⟨p,ss,rfl,hp,q⟩:=h;obtain⟨u,rfl,ru⟩:=Vals.one r;cases ru;obtain⟨hS,_⟩:=I.hok p _ hp;obtain⟨o,es,ep,t,e,ex,hd,_,_,hb,hf,hn⟩:=hS;refine call_len_set e ex hd hf (by unfold scanBound at hb;omega) ?_;rw[hn];exact⟨.int (By ss).length,H,I.tok _,⟨_,rfl⟩,q⟩
end
end L2
namespace Mi
open PySem L2
noncomputable def G9:List D->Option (List Str)
 |[]=>some []
 | .str x::ds=>(G9 ds).map (x::·)
 |_=>none
theorem LD{K:KW}{ι:Nat->Addr}{k:Nat}{H:Hp}:∀{ds:List D} {vs:List V} {ss:List Str},IsL K ι k H ds vs->G9 ds=some ss->vs=ss.map V.str
 |[],_,_,h,e=>by cases e;unfold IsL at h;exact h
 |d::ds,_,_,h,e=>by
  cases d with
  |str x=>
   unfold IsL at h;obtain⟨v,vs',rfl,h1,h2⟩:=h;have e':(G9 ds).map (x::·)=some _:=e;cases q:G9 ds with
   |none=>rw[q] at e';cases e'
   |some ss=>
    rw[q] at e';cases e';unfold Is at h1;rw[h1,LD h2 q];rfl
  |_=>cases e
noncomputable def Fd(d:D):M D:=bnd (Cn d) λds=>λμ=>match G9 ds with
 |some ss=>if ss.length+2<scanBound then some (.int (By ss).length,μ) else none
 |none=>none
section
variable{X:Cx}{e:Expr}{pos p p2 pos2:Pos}
theorem OL{m:Sl->M D}(yl:X.mg "len" = none)(ys:X.mg "set" = none)(he:RE X e m)(hc:X.calm=true:=by rfl)(hgl:Gl X "len" := by rfl)(hgs:Gl X "set" := by rfl)(hst:KY e=false:=by rfl):
  RE X (.Call (.Name "len" p) [.Call (.Name "set" p2) [e] [] pos2] [] pos) (mUn Fd m):=by
 have hs:PE X (.Call (.Name "set" p2) [e] [] pos2) _:=JQ (PD hc) hgs ys Mi.Rz (DO he.pe Fw (Av hst)) (by decide) (by decide) (Av hst) rfl;refine RE.wk (FJ PL hgl yl Mi.Ax (DO hs Fw (Av rfl)) (by decide) (by decide) (Av rfl) rfl) λσ H Q h=>?_;obtain⟨ι,μ,τ,d,μ',R,S,ev,q⟩:=h;obtain⟨x,μ1,e1,e2⟩:=AJ ev;obtain⟨ds,μ2,e3,e4⟩:=AJ e2;refine⟨ι,μ,τ,x,μ1,R,S,e1,λι1 H1 E1 R1 v1 i1=>?_⟩;obtain⟨hm,a,vs,rfl,h1,h2⟩:=DL R1 i1 e3;subst hm;cases hx:G9 ds with
 |none=>rw[hx] at e4;cases e4
 |some ss=>
  rw[hx] at e4;have e5:(if ss.length+2<scanBound then some (D.int (By ss).length,μ2) else none)=some (d,μ'):=e4;split at e5
  ·rename_i room;cases e5;refine⟨a,ss,rfl,by rw[←LD h2 hx];exact h1,room,λp hp=>?_⟩;obtain⟨E2,R2⟩:=R1.laid (Sh X.prog X.w p ss) hp;exact⟨p,ss,rfl,BU,q ι1 _ (E1.trans E2) R2 _ (ofI _)⟩
  ·cases e5
end
inductive How where
 |all|drop|frz
noncomputable def Q1(μ2:Mh):How->D->D
 | .frz,.ref n=>match μ2[n]? with
  |some (.lst ds)=>.lst ds
  |_=>.ref n
 |_,d=>d
noncomputable def HI(μ μ2:Mh):How->Mh
 | .all=>μ2
 |_=>μ2.take μ.length
open Classical in
noncomputable def BG(hw:How)(n ps:Nat)(mb:Sl->M (Fl×Sl)):List D->M D:=λds μ=>match mb (Ay n ds) μ with
 |some ((fl,_),μ2)=>if ds.length=ps/\(fl=.next∨∃d,fl=.rt d)/\E7 μ μ2 (HI μ μ2 hw) (EF fl) (Q1 μ2 hw (EF fl)) then some (Q1 μ2 hw (EF fl),HI μ μ2 hw) else none
 |none=>none
theorem F4{hw:How}{n ps:Nat}{mb:Sl->M (Fl×Sl)}{ds:List D}{μ μ':Mh}{d:D}(h:BG hw n ps mb ds μ=some (d,μ')):
  ds.length=ps/\∃fl τ2 μ2,mb (Ay n ds) μ=some ((fl,τ2),μ2)/\(fl=.next∨∃d,fl=.rt d)/\E7 μ μ2 μ' (EF fl) d:=by
 unfold BG at h;split at h
 ·rename_i fl τ2 μ2 e;split at h
  ·rename_i c;cases h;exact⟨c.1,fl,τ2,μ2,e,c.2.1,c.2.2⟩
  ·cases h
 ·cases h
theorem EU{hw:How}{n ps:Nat}{mb:Sl->M (Fl×Sl)}{ds:List D}{μ μ2:Mh}{fl:Fl}{τ2:Sl}(e:mb (Ay n ds) μ=some ((fl,τ2),μ2))(hl:ds.length=ps)(hf:fl=.next∨∃d,fl=.rt d)(t:E7 μ μ2 (HI μ μ2 hw) (EF fl) (Q1 μ2 hw (EF fl))):
  BG hw n ps mb ds μ=some (Q1 μ2 hw (EF fl),HI μ μ2 hw):=by
 unfold BG;rw[e];exact if_pos ⟨hl,hf,t⟩
theorem Ah{n ps:Nat}{mb:Sl->M (Fl×Sl)}{ds:List D}{μ g:Mh}{d:D}{τ2:Sl}(e:mb (Ay n ds) μ=some ((.rt d,τ2),μ++g))(hl:ds.length=ps)(c:Cl μ.length d):BG .drop n ps mb ds μ=some (d,μ):=by
 have t:HI μ (μ++g) .drop=μ:=by show (μ++g).take μ.length=μ;rw[List.take_left]
 have h:=EU (hw:=.drop) e hl (.inr ⟨d,rfl⟩) (by rw[t];exact Fs c);rw[t] at h;exact h
theorem A8{n ps:Nat}{mb:Sl->M (Fl×Sl)}{ds:List D}{μ g:Mh}{τ2:Sl}(e:mb (Ay n ds) μ=some ((.next,τ2),μ++g))(hl:ds.length=ps):BG .drop n ps mb ds μ=some (.non,μ):=by
 have t:HI μ (μ++g) .drop=μ:=by show (μ++g).take μ.length=μ;rw[List.take_left]
 have h:=EU (hw:=.drop) e hl (.inl rfl) (by rw[t];exact Fs (by show Cl _ D.non;unfold Cl;trivial));rw[t] at h;exact h
theorem G0{n ps:Nat}{mb:Sl->M (Fl×Sl)}{ds es:List D}{μ g:Mh}{k:Nat}{τ2:Sl}(e:mb (Ay n ds) μ=some ((.rt (.ref k),τ2),μ++g))(hl:ds.length=ps)(hk:μ.length<=k)(hg:(μ++g)[k]?=some (.lst es))(c:ClL μ.length es):BG .frz n ps mb ds μ=some (.lst es,μ):=by
 have t:HI μ (μ++g) .frz=μ:=by show (μ++g).take μ.length=μ;rw[List.take_left]
 have o:Q1 (μ++g) .frz (EF (.rt (.ref k)))=.lst es:=by
  show (match (μ++g)[k]? with|some (.lst ds)=>D.lst ds|_=>.ref k)=_;rw[hg]
 have h:=EU (hw:=.frz) e hl (.inr ⟨_,rfl⟩) (by rw[t,o];exact⟨⟨g,rfl⟩,AAF _,λ_ _ z=>.inl z,.inr ⟨k,es,rfl,hg,hk,rfl,c⟩⟩);rw[t,o] at h;exact h
theorem Im{n ps:Nat}{mb:Sl->M (Fl×Sl)}{ds es:List D}{μ g:Mh}{τ2:Sl}(e:mb (Ay n ds) μ=some ((.rt (.lst es),τ2),μ++g))(hl:ds.length=ps)(c:ClL μ.length es):BG .frz n ps mb ds μ=some (.lst es,μ):=by
 have t:HI μ (μ++g) .frz=μ:=by show (μ++g).take μ.length=μ;rw[List.take_left]
 have h:=EU (hw:=.frz) e hl (.inr ⟨_,rfl⟩) (by rw[t];exact Fs (by show Cl _ (D.lst es);unfold Cl;exact c));rw[t] at h;exact h
theorem BR(hw:How){P:Program}{w:World}{K:PySem.W.Frag}{mg:Str->Option Value}{base:Heap}{x qual:Str}{st:Stmt}{f:Addr}{fd:FuncData}{N ps:List Str}{k:Nat}{mb:Sl->M (Fl×Sl)}(F:Fun K x qual st f fd)(S:Ac N ps (AI st))(hm:mg x=some (.ref f))(hb:Binds K fd ps [])
  (body:∀(cdv:Value) (A:Around) (outer:List Env) (s:Shared) (H:Hp) (E:XK),Room k (A.deeper (PyProof.Rows.envOfC qual (AI st) s.heap.objs.size f cdv))->RSs (BP CX0 P w K mg base N qual (AI st) f cdv A outer s H E).nox (AX st) mb) :
  Fn P w K mg base x ps (k+1) (BG hw N.length ps.length mb):=
 Wg F S hm hb body (λds μ r h=>(F4 (d:=r.1) (μ':=r.2) h).1) (λds μ d μ' h=>(F4 h).2)
theorem Fn.mono{P:Program}{w:World}{K:PySem.W.Frag}{mg:Str->Option Value}{base:Heap}{x:Str}{ps:List Str}{j k:Nat}{φ:List D->M D}(F:Fn P w K mg base x ps j φ)(h:j<=k):Fn P w K mg base x ps k φ:=by
 obtain⟨len,f,fd,F,hm,hk,hb⟩:=F;exact⟨len,f,fd,F.mono h,hm,hk,hb⟩
theorem Ia{P:Program}{w:World}{K:PySem.W.Frag}{mg:Str->Option Value}{base:Heap}{x qual:Str}{st:Stmt}{f:Addr}{fd:FuncData}{ps:List Str}{k:Nat}(F:Fun K x qual st f fd)(hm:mg x=some (.ref f))(hb:Binds K fd ps []):Fn P w K mg base x ps k (λ_=>BS):=by
 refine⟨(λds μ r h=>absurd (show (none:Option (D×Mh))=some r from h) (by simp)),⟨f,fd,⟨λvs H Q E h=>?_,λA outer s H args us vs Q E _ _ _ _ h=>?_⟩,hm,F.kp,hb⟩⟩
 ·obtain⟨_,ι,μ,as,d,μ',_,_,e,_⟩:=h;cases e
 ·obtain⟨_,ι,μ,as,d,μ',_,_,e,_⟩:=h;cases e
section
variable{P:Program}{w:World}{K:PySem.W.Frag}{mg:Str->Option Value}{base h:Heap}{x:Str}
noncomputable def Gg:List Value->Option (List Str)
 |[]=>some []
 | .str s _::r=>(Gg r).map (s::·)
 |_::_=>none
theorem G8:∀{us:List Value} {xs:List Str},Gg us=some xs->Vals (xs.map V.str) us
 |[],xs,e=>by cases e;exact .nil
 |u::r,xs,e=>by
  cases u with
  |str s t=>
   have e:(Gg r).map (s::·)=some xs:=e;cases q:Gg r with
   |none=>rw[q] at e;cases e
   |some ys=>rw[q] at e;cases e;exact .cons ⟨t,rfl⟩ (G8 q)
  |_=>cases e
def TupLit(K:PySem.W.Frag)(p:Addr)(xs:List Str):Prop:=∃od its n sl,K.lookup p=some ⟨.type "tuple",od,.seq its n,sl⟩/\Gg its.toList=some xs
theorem XL{p:Addr}{xs:List Str}{od:Option Addr}{its:Array Value}{n:Nat}{sl:Array (Option Value)}(l:K.lookup p=some ⟨.type "tuple",od,.seq its n,sl⟩)(e:Gg its.toList=some xs):TupLit K p xs:=⟨od,its,n,sl,l,e⟩
theorem LW{ι:Nat->Addr}{k:Nat}{H:Hp}:∀xs:List Str,IsL ⟨K,w⟩ ι k H (xs.map D.str) (xs.map V.str)
 |[]=>.nil
 |_::r=>.cons (by unfold Is;rfl) (LW r)
theorem TupLit.is{p:Addr}{xs:List Str}(h:TupLit K p xs)(hl:xs.length<=1000){ι:Nat->Addr}{k:Nat}{H:Hp}:Is ⟨K,w⟩ ι k H (.tup (xs.map D.str)) (.ref p):=by
 obtain⟨od,its,n,sl,l,e⟩:=h;have v:=G8 e;unfold Is;refine⟨p,_,rfl,.inr ⟨_,its,n,l,rfl,rfl,?_,v⟩,LW xs⟩;have:=v.length;rw[AAG] at this;have z:its.size=xs.length:=by rw[this];simp
 rw[z];exact Nat.le_of_lt (OI hl)
theorem Dg{i:Int}{t:Tok}(X:K.In h)(G:h.Ns mainGlobals mg)(a:PySem.W.nsIn K mainGlobals x=some (some (.int i t))):Glo K mg x (.int i):=
 ⟨_,.int i,PySem.W.mg_of X G a,⟨t,rfl⟩,λ_ _ _ _=>by unfold Is;rfl⟩
theorem UB{s:Str}{t:Tok}(X:K.In h)(G:h.Ns mainGlobals mg)(a:PySem.W.nsIn K mainGlobals x=some (some (.str s t))):Glo K mg x (.str s):=
 ⟨_,.str s,PySem.W.mg_of X G a,⟨t,rfl⟩,λ_ _ _ _=>by unfold Is;rfl⟩
theorem Kc{p:Addr}{xs:List Str}(X:K.In h)(G:h.Ns mainGlobals mg)(a:PySem.W.nsIn K mainGlobals x=some (some (.ref p)))(l:TupLit K p xs)(hl:xs.length<=1000):Glo K mg x (.tup (xs.map D.str)):=
 ⟨_,.ref p,PySem.W.mg_of X G a,rfl,λ_ _ _ _=>l.is hl⟩
noncomputable def TabIs(K:PySem.W.Frag):List DictEntry->List (Str×List Str)->Prop
 |[],t=>t=[]
 |e::es,t=>∃x ys t' tok p,t=(x,ys)::t'/\e.key=.str x tok/\e.val=.ref p/\TupLit K p ys/\ys.length<=1000/\TabIs K es t'
theorem TabIs.noref:∀{es:List DictEntry} {t:List (Str×List Str)},TabIs K es t->es.any (·.refKey)=false
 |[],_,_=>rfl
 |e::es,t,h=>by
  obtain⟨x,ys,t',tok,p,rfl,hk,_,_,_,r⟩:=h;rw[List.any_cons,r.noref,Bool.or_false];show DictEntry.refKey e=false;unfold DictEntry.refKey;rw[hk]
noncomputable def LC(t:List (Str×List Str))(y:Str):Option D:=(t.find? (·.1==y)).map λp=>.tup (p.2.map D.str)
theorem TabIs.find:∀{es:List DictEntry} {t:List (Str×List Str)} (y:Str),TabIs K es t->(es.find? (·.key.isStr y)=none/\LC t y=none)∨∃e p ys,es.find? (·.key.isStr y)=some e/\e.val=.ref p/\TupLit K p ys/\ys.length<=1000/\LC t y=some (.tup (ys.map D.str))
 |[],t,y,h=>by cases (show t=[] from h);exact .inl ⟨rfl,rfl⟩
 |e::es,t,y,h=>by
  obtain⟨x,ys,t',tok,p,rfl,hk,hv,l,hl,r⟩:=h;have q:e.key.isStr y=(x==y):=by rw[hk];rfl
  cases b:(x==y) with
  |true=>
   right;refine⟨e,p,ys,?_,hv,l,hl,?_⟩
   ·rw[List.find?_cons];simp only[q,b]
   ·unfold LC;rw[List.find?_cons];simp only[b];rfl
  |false=>
   have z1:(e::es).find? (·.key.isStr y)=es.find? (·.key.isStr y):=by rw[List.find?_cons];simp only[q,b]
   have z2:LC ((x,ys)::t') y=LC t' y:=by unfold LC;rw[List.find?_cons];simp only[b]
   rw[z1,z2];exact r.find y
theorem Tz{ad:Addr}{es:Array DictEntry}{n:Nat}{t:List (Str×List Str)}(X:K.In h)(G:h.Ns mainGlobals mg)(a:PySem.W.nsIn K mainGlobals x=some (some (.ref ad)))(l:K.lookup ad=some ⟨.type "dict",none,.dict es n,#[]⟩)(kl:PySem.W.KeysLit w.params es.toList)
  (hs:(ad==sysModules)=false) (T:TabIs K es.toList t):PV w K mg x (LC t):=by
 refine⟨ad,PySem.W.mg_of X G a,λy=>?_⟩;have nr:=T.noref;rcases T.find y with ⟨f,g⟩|⟨e,p,ys,f,hv,tl,hl,g⟩
 ·refine⟨none,⟨y,es,n,none,rfl,l,kl,?_,trivial,hs⟩,.inl ⟨g,rfl⟩⟩;unfold PySem.W.nsIn;rw[l];simp only[f,nr];rfl
 ·refine⟨some (.ref p),⟨y,es,n,some (.ref p),rfl,l,kl,?_,rfl,hs⟩,.inr ⟨_,.ref p,g,rfl,λ_ _ _=>tl.is hl⟩⟩;unfold PySem.W.nsIn;rw[l];simp only[f,hv]
structure Df(K:PySem.W.Frag)(x:Str)(st:Stmt)(f:Addr)(fd:FuncData):Prop where
 a:PySem.W.nsIn K mainGlobals x=some (some (.ref f))
 F:Fun K x x st f fd
theorem Yf{st:Stmt}{f:Addr}{oc:Value}{od an:Option Addr}{osl:Array (Option Value)}{kV doc pm cdv ct:Value}(a:PySem.W.nsIn K mainGlobals x=some (some (.ref f)))(l:K.lookup f=some ⟨oc,od,.func (PySem.W.fnOf x x (GW st) (AX st) (AI st) .none kV doc pm an cdv ct),osl⟩)
  (c:PySem.W.codeIn K cdv x=true) (k:PySem.W.keepIn K (.ref f)=true):∃f fd,Df K x st f fd:=⟨f,_,a,Wf l c k⟩
theorem Rb(hw:How){qual:Str}{st:Stmt}{f:Addr}{fd:FuncData}{N ps:List Str}{k:Nat}{mb:Sl->M (Fl×Sl)}(F:Fun K x qual st f fd)(S:Ac N ps (AI st))
  (body:∀(cdv:Value) (A:Around) (outer:List Env) (s:Shared) (H:Hp) (E:XK),Room k (A.deeper (PyProof.Rows.envOfC qual (AI st) s.heap.objs.size f cdv))->RSs (BP CX0 P w K mg base N qual (AI st) f cdv A outer s H E).nox (AX st) mb) :
  FnOk P w K mg base CX0 (k+1) f fd ps (spM ⟨K,w⟩ ps.length (BG hw N.length ps.length mb)):=
 Jb F S rfl body (λds μ d μ' h=>(F4 h).2)
noncomputable def NC(K:PySem.W.Frag):Sp:=λvs H Q _=>∃(a:Addr) (ns:List Int),vs=[.ref a]/\ScrAt K H a (ns.map V.int)/\ns.length<=63/\∀H',Q (.bl true) H'
theorem MC{k:Nat}{f:Addr}{fd:FuncData}{φ:List D->M D}(F:FnOk P w K mg base CX0 k f fd ["_law_script"] (spM ⟨K,w⟩ 1 φ))(hφ:∀ns:List Int,ns.length<=63->∃μ',φ [.scr ns] []=some (.bl true,μ')):FnOk P w K mg base CX0 k f fd ["_law_script"] (NC K):=
 F.imp λvs H Q E q=>by
  obtain⟨a,ns,rfl,s,hl,q⟩:=q;obtain⟨μ',e⟩:=hφ ns hl;refine⟨rfl,λ_=>a,[],[.scr ns],.bl true,μ',⟨λi j h=>absurd h (Nat.not_lt_zero _),λn o e=>by simp at e⟩,.one (by unfold Is;exact⟨a,rfl,s⟩),e,λι2 H2 E2 R2 v i=>?_⟩;unfold Is at i;rw[i];exact q H2
theorem LF{H:Hp}{a:Addr}{xs:List V}(o:UX H)(s:SqL K H a xs):ScrAt K H a xs:=by
 rcases s with z|z
 ·rcases z with z|⟨p,z⟩
  ·rcases o a with q|⟨p,ys,q⟩
   ·rw[q] at z;cases z
   ·rw[q] at z;cases z
  ·exact .inl ⟨p,z⟩
 ·exact .inr z
end
theorem XG{l:PySem.W.OpenLaw}{q:Program}{loose:List Str}{XP:(Str->Option Value)->Heap->Prop}{YP:World->Heap->Prop}{d:DefRec}{K:Params->PySem.W.Frag}{k:Nat}(hn:l.most=some 63)(hdf:d.params.defaults=[])(hk:k<=60)
  (hY:∀(w:World) (h:Heap),YP w h->(K w.params).In h)
  (F:∀(w:World) (mg:Str->Option Value) (fa:Addr) (h:Heap),(K w.params).In h->h.Ns mainGlobals mg->mg d.name=some (.ref fa)->
   ∃fd:FuncData,(∀(s:Shared) (u:Value),BindsTo s fd ⟨[u],[]⟩ [("_law_script",u)])/\∀base:Heap,(K w.params).In base->base.Ns mainGlobals mg->FnOk l.prog w (K w.params) mg base CX0 k fa fd ["_law_script"] (NC (K w.params))) :
  PySem.W.WalkO q loose XP YP l.row.toRowW d [] (λf vs=>PySem.call f vs):=
 L2.SX (n:=63) (k:=k) (x := "_law_script") (CX:=λ_=>CX0) (sp:=λw=>NC (K w.params)) hn (by decide) hdf (Room.mono (j:=k) (k:=60) ⟨rfl,by decide,by decide⟩ hk) hY F (λ_ _ a ns hl o hS=>⟨a,ns,rfl,LF o hS,hl,λ_=>rfl⟩) λ_ _ _ _ _ z=>z
def Pu{α:Type}(m:Sl->M α):Prop:=∀τ μ a μ',m τ μ=some (a,μ')->μ'=μ
def Pu2(g:D->D->M D):Prop:=∀x y μ a μ',g x y μ=some (a,μ')->μ'=μ
theorem TD{i:Nat}:Pu (AD i):=λτ μ a μ' e=>by
 unfold AD at e;split at e
 ·cases e;rfl
 ·cases e
theorem ZB{d:D}:Pu (mC d):=λτ μ a μ' e=>by cases e;rfl
theorem TB:Pu Bz:=λτ μ a μ' e=>by cases e;rfl
theorem Xo{g:D->D->M D}{ma mb:Sl->M D}(hg:Pu2 g)(ha:Pu ma)(hb:Pu mb):Pu (mOp g ma mb):=λτ μ a μ' e=>by
 obtain⟨x,μ1,e1,e2⟩:=AJ e;obtain⟨y,μ2,e3,e4⟩:=AJ e2;rw[hg _ _ _ _ _ e4,hb _ _ _ _ e3,ha _ _ _ _ e1]
theorem TC{m:Sl->M D}(h:Pu m):Pu (AY m):=λτ μ a μ' e=>by
 obtain⟨x,μ1,e1,e2⟩:=AJ e;have z:=h _ _ _ _ e1;cases x with
 |bl b=>cases e2;exact z
 |_=>cases e2
theorem VW{n:Bool}:Pu2 (Fo n):=λx y μ a μ' e=>by
 unfold Fo at e;split at e
 ·split at e
  ·cases e;rfl
  ·cases e
 ·cases e
theorem PU{d:D}{μ μ':Mh}{ds:List D}(e:Cn d μ=some (ds,μ')):μ'=μ:=by
 cases d with
 |lst _=>cases e;rfl
 |scr _=>cases e;rfl
 |ref n=>
  have e:(match μ[n]? with|some (.lst ds)=>some (ds,μ)|_=>none)=some (ds,μ'):=e;split at e
  ·cases e;rfl
  ·cases e
 |_=>cases e
theorem PR{d:D}{μ μ':Mh}{ds:List D}(e:Bw d μ=some (ds,μ')):μ'=μ:=by
 cases d with
 |tup _=>cases e;rfl
 |_=>exact PU (by unfold Bw at e;exact e)
theorem Xp:Pu2 AV:=λx y μ a μ' e=>by
 unfold AV at e;split at e
 ·split at e
  ·rename_i z i hl;cases q:atI z.cps.toList i with
   |none=>rw[q] at e;cases e
   |some c=>rw[q] at e;cases e;rfl
  ·cases e
 ·obtain⟨ds,μ1,e1,e2⟩:=AJ e;have z:=PR e1;unfold ixD at e2;rename_i i _;cases q:atI ds i with
  |none=>rw[q] at e2;cases e2
  |some c=>rw[q] at e2;cases e2;exact z
 ·cases e
section
variable{X:Cx}{scope:Scope}{tgs:List Str}{ix:List Nat}{e elt tg iter:Expr}{pos:Pos}
noncomputable def Yn:D->M (List D)
 | .ref n=>λμ=>match μ[n]? with
  |some (.lst ds)=>some (ds,μ)
  |_=>none
 |_=>BS
noncomputable def IN(m:Sl->M D):Sl->M (List D):=λτ=>bnd (m τ) Yn
noncomputable def ItP(K:KW)(J:It)(ds:List D)(ι:Nat->Addr)(μ:Mh)(H:Hp):Prop:=∀ι' H',Ext ι μ.length H ι' μ.length H'->RelH K ι' μ H'->
 (∀i,i<ds.length->J.go i H')/\J.stop ds.length H'/\∀(i:Nat) x H2 d,ds[i]?=some d->J.yld i H' x H2->Ext ι' μ.length H' ι' μ.length H2/\RelH K ι' μ H2/\Is K ι' μ.length H2 d x
theorem ItP.ext{K:KW}{J:It}{ds:List D}{ι ι':Nat->Addr}{μ:Mh}{H H':Hp}(h:ItP K J ds ι μ H)(E:Ext ι μ.length H ι' μ.length H'):ItP K J ds ι' μ H':=λι2 H2 E2 R2=>h ι2 H2 (E.trans E2) R2
noncomputable def tIP(K:KW)(m:Sl->M (List D)):TI:=λσ H R=>∃ι μ τ ds μ',RelH K ι μ H/\RelS K ι μ.length H τ σ/\m τ μ=some (ds,μ') /\
 Aft K ι μ H μ' λι' H'=>∀J,ItP K J ds ι' μ' H'->R J H'
structure RIP(X:Cx)(tg iter:Expr)(m:Sl->M (List D)):Prop where
 pe:PI X tg iter (tIP X.kw m)
theorem QZ{m:Sl->M D}(h:RE X e m):RIP X tg e (IN m):=⟨PI.wk (NO h.pe) λσ H Q q=>by
 obtain⟨ι,μ,τ,ds,μ',R0,S,e,q⟩:=q;obtain⟨x,μ1,e1,e⟩:=AJ e;cases x with
 |ref n=>
  have e:(match μ1[n]? with|some (.lst ds)=>some (ds,μ1)|_=>none)=some (ds,μ'):=e;split at e
  ·rename_i es hn;cases e;refine⟨ι,μ,τ,_,_,R0,S,e1,λι1 H1 E1 R1 v i1=>?_⟩;unfold Is at i1;obtain⟨hk,rfl⟩:=i1;obtain⟨u,hu,o⟩:=R1.obj n _ hn;obtain⟨vs,rfl,iv⟩:=o;refine⟨_,rfl,⟨vs,SqL.of hu⟩,q ι1 H1 E1 R1 _ ?_⟩;intro ι2 H2 E2 R2;obtain⟨u2,hu2,o2⟩:=R2.obj n _ hn;obtain⟨vs2,rfl,iv2⟩:=o2;rw[E2.agree n hk] at hu2;have hl:=iv2.length;refine⟨λj hj=>⟨vs2,vs2[j],SqL.of hu2,by simp⟩,⟨vs2,SqL.of hu2,by omega⟩,λj x H3 d hd y=>?_⟩;obtain⟨z,y⟩:=y;subst z;obtain⟨v,ev,iv3⟩:=iv2.get hd;have:=y vs2 (SqL.of hu2);rw[ev] at this;cases this;exact⟨R2.ext0,R2,iv3⟩
  ·cases e
 |_=>cases e⟩
theorem QC{K:KW}{n:Nat}{src:Sl->M (List D)}{i:Nat}{mc:Sl->M Bool}{me:Sl->M D}{fin:List D->M D}{σ:St}{H:Hp}{Q:VK}(pc:Pu mc)(pm:Pu me)(hn:tgs.length=n)(hf:∀ι μ μ' H ds vs d (Q:VK),RelH K ι μ H->IsL K ι μ.length H ds vs->fin ds μ=some (d,μ')->(Aft K ι μ H μ' λι' H'=>∀v,Is K ι' μ'.length H' d v->Q v H')->
   vs.length<=sizeLine/\∀p,H p=none->Q (.ref p) (upd H p (.lst vs)))
  (h:tE K (B0 n ix src (AN i) mc me fin) σ H Q):NB tgs ix (tIP K src) (Ew i) (tT K mc) (tE K me) σ H Q:=by
 subst hn;obtain⟨ι,μ,τ,d,μ',R,S,e,q⟩:=h;obtain⟨ds,ν,e1,e5⟩:=AJ e;obtain⟨u,μ2,e2,e6⟩:=AJ e5;obtain⟨zs,μ3,e3,e7⟩:=AJ e6;obtain⟨hl,e4⟩:=CZ e2;clear e e5 e6;subst e4;refine⟨ι,μ,τ,ds,_,R,S,e1,λι1 H1 E1 R1 J it=>?_⟩;refine⟨λi' m ys H=>m=ds.length-i'/\i'<=ds.length/\ys.length<=i'/\∃(ι:Nat->Addr) (as:List D),RelH K ι μ2 H/\RelS K ι μ2.length H τ σ/\ItP K J ds ι μ2 H/\IsL K ι μ2.length H as ys/\CW (AN i) mc me (BI tgs.length ix τ) (ds.drop i') as μ2=some (zs,μ3) /\
  Aft K ι μ2 H μ' λι' H'=>∀v,Is K ι' μ'.length H' d v->Q v H',⟨ds.length,by simp,AAi _,AAF _,ι1,[],R1,S.ext E1,it,.nil,e3,λι2 H2 E2 R2=>q ι2 H2 (E1.trans E2) R2⟩,?_⟩
 rintro i' m ys H ⟨hm,hil,hyl,ι,as,R,S,it,ia,e3,q⟩;obtain⟨go,stop,yl⟩:=it ι H R.ext0 R;by_cases hlt:i'<ds.length
 ·refine .inr ⟨go i' hlt,by omega,λys' H'=>ys'.length<=i'+1/\∃(ι:Nat->Addr) (as:List D),RelH K ι μ2 H'/\RelS K ι μ2.length H' τ σ/\ItP K J ds ι μ2 H'/\IsL K ι μ2.length H' as ys'/\CW (AN i) mc me (BI tgs.length ix τ) (ds.drop (i'+1)) as μ2=some (zs,μ3) /\
   Aft K ι μ2 H' μ' λι' H'=>∀v,Is K ι' μ'.length H' d v->Q v H',λys' H' z=>⟨_,(by omega:ds.length-(i'+1)<m),rfl,hlt,z⟩,λx H2 y=>?_⟩
  have hd:ds[i']?=some ds[i']:=by simp[hlt]
  obtain⟨E2,R2,ix2⟩:=yl i' x H2 _ hd y;rw[List.drop_eq_getElem_cons hlt] at e3;obtain⟨τ1,μ1,e1,e3⟩:=AJ e3;cases e1;obtain⟨cc,μ5,e2,e3⟩:=AJ e3;have z5:=pc _ _ _ _ e2;subst z5;have S2:=(S.ext E2).block (tgs:=tgs) (ix:=ix);show tT K mc _ H2 _;refine⟨ι,_,_,cc,_,R2,S2.set i ix2,e2,λι3 H3 E3 R3=>?_⟩;have E13:=E2.trans E3;cases cc with
  |false=>
   exact⟨by omega,ι3,as,R3,S.ext E13,it.ext E13,ia.ext E13,e3,λι5 H5 E5 R5=>q ι5 H5 (E13.trans E5) R5⟩
  |true=>
   obtain⟨y',μ4,e4,e8⟩:=AJ e3;clear e3;have z4:=pm _ _ _ _ e4;subst z4;refine⟨ι3,_,_,y',_,R3,(S2.set i ix2).ext E3,e4,λι4 H4 E4 R4 v iv=>?_⟩;have E14:=E13.trans E4;exact⟨by simp;omega,ι4,as++[y'],R4,S.ext E14,it.ext E14,(ia.ext E14).append (.one iv),e8,λι5 H5 E5 R5=>q ι5 H5 (E14.trans E5) R5⟩
 ·have hi':i'=ds.length:=by omega
  subst hi';rw[List.drop_length] at e3;cases e3;obtain⟨z1,z2⟩:=hf ι _ μ' H _ ys d Q R ia e7 q;exact .inl ⟨stop,z1,z2⟩
theorem LJ{n:Nat}{ifs:List Expr}{src:Sl->M (List D)}{i:Nat}{mc:Sl->M Bool}{me:Sl->M D}(pc:Pu mc)(pm:Pu me)(S:BScope X scope tgs ix)(hc:X.calm=true)(hi:RIP X tg iter src)(hg:∀fp C s H,PG (cxB X scope tgs fp C s H) tg (Ew i))(hif:∀fp C s H,JD (cxB X scope tgs fp C s H) ifs (tT X.kw mc))(he:∀fp C s H,RE (cxB X scope tgs fp C s H) elt me)
  (hin:i<tgs.length:=by decide) (hn:tgs.length=n:=by rfl) (hs:∀x,foldedSetIterable iter X.env x=pure x:=by intro _;rfl) (ht:∀o v,letOwnedTupleGo tg o v=pure ():=by intro _ _;rfl):RE X (.ListComp elt [⟨tg,iter,ifs,0⟩] scope pos) (B0 n ix src (AN i) mc me Aq):=
 RE.wk (NP (te:=tE X.kw me) S hc hi.pe hg (Kd hin) hif (λfp C s H=>(he fp C s H).pe) hs ht) λ_ _ _ h=>QC pc pm hn (λ_ _ _ _ _ _ _ _ R i e q=>Ei R i e q) h
end
end Mi
namespace K1
open PySem L2 Mi
noncomputable def sl(xs:List Str):D:=.tup (xs.map D.str)
noncomputable def ES:D:=.str "abcdefghijklmnopqrstuvwxyz"
noncomputable def Cm:D:=.int 9
noncomputable def DJ:D:=.int 5
noncomputable def B4:D:=sl ["+", "-", "=", "<", "and", "or"]
noncomputable def Kk:D:=sl ["safe", "steady", "whole"]
noncomputable def Eo:D:=.int 6
noncomputable def EH:D:=.int 2
noncomputable def En:D:=.int 4
noncomputable def FU:D:=.int 60
noncomputable def EG:D:=.int 400
noncomputable def Ep:D:=.int 2
noncomputable def FT:D:=.int 10
noncomputable def CO:D:=sl ["not", "and", "or"]
noncomputable def OG:List (Str×List Str):=[("put",["box", "expression"]),("get",["variable", "box"]),("let",["variable", "expression"]),("unless",["expression", "target"]),("jump",["target"]),("tell",["expression"]),("done",[])]
noncomputable def BQ:Str->Option D:=LC OG
noncomputable def DH  : Sl->M (Fl×Sl):=
  (A9 (DX (AF Eu (AB (AD 0) (AB (mC (.ty "int")) AH))) (DX (HC (AF Eu (AB (AD 0) (AB (mC (.ty "bool")) AH)))) (Du Fv Fv (AD 1) (AD 0) (AD 2)))))
noncomputable def EQ  : Sl->M (Fl×Sl):=
  (A9 (DX (AF Eu (AB (AD 0) (AB (mC (.ty "str")) AH))) (DX (Du Fv Fv (mC (.int 1)) (AF Bs (AB (AD 0) AH)) (mC (.int 8))) (AF UU (AB (B0 1 [] (Q9 (AD 0)) (AN 0) Bz (mOp (Fk false) (AD 0) (mC ES)) Aq) AH)))))
noncomputable def A0(Zf:List D->M D)(Zd:List D->M D)(Ze:List D->M D):Sl->M (Fl×Sl):=
  (AR (sIf (mOr (AY (mOp Fu (AD 1) (mC (.int 1)))) (mOr (JA (AY (AF Eu (AB (AD 0) (AB (mC (.ty "tuple")) AH))))) (AY (mOp A7 (AF Bs (AB (AD 0) AH)) (mC (.int 0)))))) (A9 (mC (.bl false))) BW)
  (AR (Ai (mOp AV (AD 0) (mC (.int 0))) (AN 2))
  (AR (sIf (AY (mOp (Fk false) (AD 2) (mC B4))) (A9 (DX (mOp A7 (AF Bs (AB (AD 0) AH)) (mC (.int 3))) (DX (AF Zf (AB (mOp AV (AD 0) (mC (.int 1))) (AB (mOp D9 (AD 1) (mC (.int 1))) AH))) (AF Zf (AB (mOp AV (AD 0) (mC (.int 2))) (AB (mOp D9 (AD 1) (mC (.int 1))) AH)))))) BW)
  (AR (sIf (AY (mOp EO (AF Bs (AB (AD 0) AH)) (mC (.int 2)))) (A9 (mC (.bl false))) BW)
  (AR (sIf (AY (mOp A7 (AD 2) (mC (.str "num")))) (A9 (AF Zd (AB (mOp AV (AD 0) (mC (.int 1))) (AB (mC (.int 0)) (AB (mC Cm) AH))))) BW)
  (AR (sIf (AY (mOp A7 (AD 2) (mC (.str "var")))) (A9 (AF Ze (AB (mOp AV (AD 0) (mC (.int 1))) AH))) BW)
  (A9 (DX (mOp A7 (AD 2) (mC (.str "not"))) (AF Zf (AB (mOp AV (AD 0) (mC (.int 1))) (AB (mOp D9 (AD 1) (mC (.int 1))) AH)))))))))))
noncomputable def Aw(Zo:List D->M D):Sl->M (Fl×Sl):=
  (AR (sIf (AY (mOp A7 (mOp AV (AD 0) (mC (.int 0))) (mC (.str "num")))) (A9 (AF Aq AH)) BW)
  (AR (sIf (AY (mOp A7 (mOp AV (AD 0) (mC (.int 0))) (mC (.str "var")))) (A9 (AF Aq (AB (mOp AV (AD 0) (mC (.int 1))) AH))) BW)
  (AR (Ai (AF IK AH) (AN 1))
  (AR (Ef (De (mSl (AD 0) (BT (mC (.int 1))) BC)) (AN 2) (BE (Dt Rc (AD 1) (AB (AF Zo (AB (AD 2) AH)) AH))))
  (A9 (AD 1))))))
noncomputable def KM  : Sl->M (Fl×Sl):=
  (sIf (JA (AY (AD 0))) QK BW)
noncomputable def DI  : Sl->M (Fl×Sl):=
  (A9 (DX (AF Eu (AB (AD 0) (AB (mC (.ty "tuple")) AH))) (Du Fv Fv (AD 1) (AF Bs (AB (AD 0) AH)) (AD 2))))
noncomputable def Cp(Zf:List D->M D)(Zd:List D->M D)(Ze:List D->M D):Sl->M (Fl×Sl):=
  (AR (sIf (AY (mOp A7 (AD 0) (mC (.str "expression")))) (A9 (AF Zf (AB (AD 1) (AB (mC DJ) AH)))) BW)
  (AR (sIf (AY (mOp A7 (AD 0) (mC (.str "target")))) (A9 (AF Zd (AB (AD 1) (AB (mC (.int 0)) (AB (AD 2) AH))))) BW)
  (A9 (AF Ze (AB (AD 1) AH)))))
noncomputable def Bq(Zi:List D->M D):Sl->M (Fl×Sl):=
  (sIf (AY (AD 1)) (BE (AF Zi (AB (mOp EO (AD 0) (mC (.str "tell"))) (AB (mC (.str "the writer tells nothing")) AH)))) (BE (AF Zi (AB (mOp EO (AD 0) (mC (.str "done"))) (AB (mC (.str "a reader ends by telling")) AH)))))
noncomputable def CP  : Sl->M (Fl×Sl):=
  (A9 (mOp A7 (mUn Fd (AD 0)) (AF Bs (AB (AD 0) AH))))
noncomputable def Dc(bS:List D->M D)(ak:List D->M D)(aD:List D->M D)(Zi:List D->M D):Sl->M (Fl×Sl):=
  (Ef (De (mOp AV (AD 0) (mC (.int 2)))) (AN 3) (AR (BE (AF bS (AB (AD 3) (AB (AF Bs (AB (mOp AV (AD 0) (mC (.int 2))) AH)) AH))))
  (AR (BE (AF ak (AB (mOp AV (AD 3) (mC (.int 0))) (AB (AD 1) AH))))
  (AR (BE (AF aD (AB (AD 3) (AB (AD 1) AH))))
  (AR (sIf (AY (mOp A7 (mOp AV (AD 3) (mC (.int 0))) (mC (.str "put")))) (BE (AF Zi (AB (mOp A7 (IP (AD 2) (mOp AV (AD 3) (mC (.int 1)))) (mOp AV (AD 0) (mC (.int 0)))) (AB (mC (.str "a hand puts a box that it does not write")) AH)))) BW)
  (sIf (AY (mOp A7 (mOp AV (AD 3) (mC (.int 0))) (mC (.str "get")))) (BE (AF Zi (AB (mOp (O7 false) (mOp AV (AD 3) (mC (.int 2))) (AD 2)) (AB (mC (.str "a hand gets a box that is none")) AH)))) BW))))))
noncomputable def A6(Zb:List D->M D)(Zi:List D->M D)(cW:List D->M D):Sl->M (Fl×Sl):=
  (AR (BE (AF Zi (AB (AF Zb (AB (AD 0) (AB (mC (.int 1)) (AB (mC (.int 3)) AH)))) (AB (mC (.str "a row is a tuple of one to three parts")) AH))))
  (AR (BE (AF Zi (AB (DX (AF Eu (AB (mOp AV (AD 0) (mC (.int 0))) (AB (mC (.ty "str")) AH))) (mUn (T4 BQ) (mOp AV (AD 0) (mC (.int 0))))) (AB (mC (.str "a row begins with one of seven words")) AH))))
  (AR (Ai (mUn (Nf BQ) (mOp AV (AD 0) (mC (.int 0)))) (AN 2))
  (AR (BE (AF Zi (AB (mOp A7 (AF Bs (AB (AD 0) AH)) (mOp Cz (mC (.int 1)) (AF Bs (AB (AD 2) AH)))) (AB (mC (.str "a row has the parts of its word")) AH))))
  (Ef (Q8 (AB (AD 2) (AB (mSl (AD 0) (BT (mC (.int 1))) BC) AH))) (G5 [3,4]) (BE (AF Zi (AB (AF cW (AB (AD 3) (AB (AD 4) (AB (AD 1) AH)))) (AB (NV [(mC (.str "a row has another thing than its ")),(Tt (AD 3))]) AH)))))))))
noncomputable def Bh(aq:List D->M D)(Zi:List D->M D):Sl->M (Fl×Sl):=
  (AR (Ef (De (AF aq (AB (AD 0) AH))) (AN 2) (AR (BE (AF Zi (AB (mOp (Fk true) (AD 2) (mC CO)) (AB (mC (.str "a variable is called like a word of expressions")) AH))))
  (BE (AF Zi (AB (MU (AD 1) (mOp EO (AD 2) (mC (.str "v")))) (AB (mC (.str "a reader has no variable v")) AH))))))
  (sIf (AY (mOp (Fk false) (mOp AV (AD 0) (mC (.int 0))) (AF AZ (AB (mC (.str "get")) (AB (mC (.str "let")) AH))))) (BE (AF Zi (AB (mOp EO (mOp AV (AD 0) (mC (.int 1))) (mC (.str "v"))) (AB (mC (.str "the variable v is set by no row")) AH)))) BW))
noncomputable def Ar(Zo:List D->M D):Sl->M (Fl×Sl):=
  (AR (Ai (AF IK AH) (AN 1))
  (AR (Ef (Q8 (AB (mUn (Nf BQ) (mOp AV (AD 0) (mC (.int 0)))) (AB (mSl (AD 0) (BT (mC (.int 1))) BC) AH))) (G5 [2,3]) (AR (sIf (AY (mOp A7 (AD 2) (mC (.str "variable")))) (BE (Dt Mn (AD 1) (AB (AD 3) AH))) BW)
  (sIf (AY (mOp A7 (AD 2) (mC (.str "expression")))) (BE (Dt Rc (AD 1) (AB (AF Zo (AB (AD 3) AH)) AH))) BW)))
  (A9 (AD 1))))
noncomputable def B3  : Sl->M (Fl×Sl):=
  (AR (sIf (AY (mOp Fu (AD 1) (AF Bs (AB (AD 0) AH)))) (A9 (mOp AV (AD 0) (AD 1))) BW)
  (A9 (mC (.int 0))))
noncomputable def Fc  : Sl->M (Fl×Sl):=
  (A9 (AF IK (AB (AF Tq (AB (mC (.int 0)) (AB (mOp D9 (AD 0) (mOp NJ (mC (.int 10)) (mC (.int 9)))) AH))) (AB (mOp HA (AD 0) (mC (.int 2147483647))) (AB (mC (.int 0)) AH)))))
noncomputable def EB  : Sl->M (Fl×Sl):=
  (AR (sIf (AY (mOp OS (mOp AV (AD 0) (mC (.int 0))) (mC (.int 0)))) (AR (Ai (mOp HA (mOp AV (AD 0) (mC (.int 0))) (AD 1)) (AN 2))
  (AR (Ai (mOp Gk (mOp AV (AD 0) (mC (.int 0))) (AD 1)) (SA (AD 0) (mC (.int 0))))
  (A9 (AD 2)))) BW)
  (AR (Ai (mOp Cz (mOp AV (AD 0) (mC (.int 2))) (mC (.int 1))) (SA (AD 0) (mC (.int 2))))
  (AR (Ai (mOp HA (mOp Dq (mOp Cz (mOp Cz (mOp AV (AD 0) (mC (.int 1))) (mOp Dq (mC (.int 7919)) (mOp AV (AD 0) (mC (.int 2))))) (mC (.int 1))) (mC (.int 48271))) (mC (.int 2147483647))) (AN 3))
  (AR (Ai (mOp HA (mOp Dq (AD 3) (mOp Cz (mOp Gk (AD 3) (mC (.int 1009))) (mC (.int 69621)))) (mC (.int 2147483647))) (AN 3))
  (AR (Ai (mOp HA (mOp Dq (AD 3) (mOp Cz (mOp Gk (AD 3) (mC (.int 2003))) (mC (.int 40692)))) (mC (.int 2147483399))) (AN 3))
  (A9 (mOp HA (mOp Cz (mOp Dq (AD 3) (mC (.int 48271))) (mOp Gk (AD 3) (mC (.int 7)))) (AD 1))))))))
noncomputable def GM(ZW:List D->M D)(Z2:List D->M D):Sl->M (Fl×Sl):=
  (AR (Ai (AF ZW (AB (AD 0) (AB (mC (.int 10)) AH))) (AN 3))
  (AR (sIf (mOr (AY (mOp A7 (AD 2) (mC (.int 1)))) (AY (mOp Fu (AD 3) (mC (.int 3))))) (AR (sIf (mOr (AY (mOp A7 (AD 1) (AF Aq AH))) (AY (mOp A7 (AF ZW (AB (AD 0) (AB (mC (.int 2)) AH))) (mC (.int 0))))) (A9 (AF AZ (AB (mC (.str "num")) (AB (AF ZW (AB (AD 0) (AB (mC (.int 10)) AH))) AH)))) BW)
  (A9 (AF AZ (AB (mC (.str "var")) (AB (mOp AV (AD 1) (AF ZW (AB (AD 0) (AB (AF Bs (AB (AD 1) AH)) AH)))) AH))))) BW)
  (AR (sIf (AY (mOp A7 (AD 3) (mC (.int 3)))) (A9 (AF AZ (AB (mC (.str "not")) (AB (AF Z2 (AB (AD 0) (AB (AD 1) (AB (mOp D9 (AD 2) (mC (.int 1))) AH)))) AH)))) BW)
  (AR (Ai (mOp AV (AF Aq (AB (mC (.str "+")) (AB (mC (.str "-")) (AB (mC (.str "=")) (AB (mC (.str "<")) (AB (mC (.str "and")) (AB (mC (.str "or")) AH))))))) (mOp D9 (AD 3) (mC (.int 4)))) (AN 4))
  (AR (Ai (AF Z2 (AB (AD 0) (AB (AD 1) (AB (mOp D9 (AD 2) (mC (.int 1))) AH)))) (AN 5))
  (AR (Ai (AF Z2 (AB (AD 0) (AB (AD 1) (AB (AF Of (AB (mOp D9 (AD 2) (mC (.int 1))) (AB (mC (.int 2)) AH))) AH)))) (AN 6))
  (A9 (mOp AV (AF Aq (AB (AF AZ (AB (AD 4) (AB (AD 5) (AB (AD 6) AH)))) (AB (AF AZ (AB (AD 4) (AB (AD 6) (AB (AD 5) AH)))) AH))) (AF ZW (AB (AD 0) (AB (mC (.int 2)) AH)))))))))))
noncomputable def KN(ZW:List D->M D)(Z2:List D->M D):Sl->M (Fl×Sl):=
  (AR (Ai (AF ZW (AB (AD 0) (AB (mC (.int 8)) AH))) (AN 6))
  (AR (Ai (mOp AV (AF Aq (AB (mC (.int 1)) (AB (mC (.int 2)) (AB (mC (.int 3)) (AB (mC (.int 5)) AH))))) (AF ZW (AB (AD 0) (AB (mC (.int 4)) AH)))) (AN 7))
  (AR (sIf (AY (mOp OS (AD 4) (mC (.int 9)))) (Ai (AF Of (AB (AD 7) (AB (mC (.int 2)) AH))) (AN 7)) BW)
  (AR (Ai (mOp Cz (AD 3) (mOp Dq (AF Aq (AB (mC (.str "v")) AH)) (AF LY (AB (AD 5) AH)))) (AN 8))
  (AR (sIf (IQ (AY (mOp Fu (AD 6) (mC (.int 2)))) (AY (mOp EO (AD 1) (AF Aq AH)))) (A9 (AF AZ (AB (mC (.str "put")) (AB (mOp AV (AD 1) (AF ZW (AB (AD 0) (AB (AF Bs (AB (AD 1) AH)) AH)))) (AB (AF Z2 (AB (AD 0) (AB (AD 8) (AB (AD 7) AH)))) AH))))) BW)
  (AR (sIf (IQ (AY (mOp Fu (AD 6) (mC (.int 4)))) (AY (mOp EO (AD 2) (AF Aq AH)))) (A9 (AF AZ (AB (mC (.str "get")) (AB (mOp AV (AD 3) (AF ZW (AB (AD 0) (AB (AF Bs (AB (AD 3) AH)) AH)))) (AB (mOp AV (AD 2) (AF ZW (AB (AD 0) (AB (AF Bs (AB (AD 2) AH)) AH)))) AH))))) BW)
  (AR (sIf (AY (mOp Fu (AD 6) (mC (.int 5)))) (A9 (AF AZ (AB (mC (.str "let")) (AB (mOp AV (AD 3) (AF ZW (AB (AD 0) (AB (AF Bs (AB (AD 3) AH)) AH)))) (AB (AF Z2 (AB (AD 0) (AB (AD 8) (AB (AD 7) AH)))) AH))))) BW)
  (AR (sIf (AY (mOp A7 (AD 6) (mC (.int 5)))) (A9 (AF AZ (AB (mC (.str "unless")) (AB (AF Z2 (AB (AD 0) (AB (AD 8) (AB (AD 7) AH)))) (AB (AF ZW (AB (AD 0) (AB (mOp Cz (AD 4) (mC (.int 1))) AH))) AH))))) BW)
  (AR (sIf (AY (mOp A7 (AD 6) (mC (.int 6)))) (A9 (AF AZ (AB (mC (.str "jump")) (AB (AF ZW (AB (AD 0) (AB (mOp Cz (AD 4) (mC (.int 1))) AH))) AH)))) BW)
  (A9 (mOp AV (AF Aq (AB (AF AZ (AB (mC (.str "tell")) (AB (AF Z2 (AB (AD 0) (AB (AD 8) (AB (AD 7) AH)))) AH))) (AB (AF AZ (AB (mC (.str "done")) AH)) AH))) (AF LY (AB (AD 5) AH)))))))))))))
noncomputable def Ck:List D->M D:=BG .drop 2 2 (B3)
noncomputable def GS:List D->M D:=BG .all 1 1 (Fc)
noncomputable def BA:List D->M D:=BG .drop 4 2 (EB)
noncomputable def DC:Nat->List D->M D
 |0=>λ_=>BS
 |n+1=>BG .drop 7 3 (GM BA (DC n))
noncomputable def Ic:List D->M D:=BG .drop 9 6 (KN BA (DC 6))
noncomputable def Cj:List D->M D:=BG .drop 3 3 (DI)
noncomputable def Dw:List D->M D:=BG .drop 2 2 (KM)
noncomputable def Ci:List D->M D:=BG .drop 3 3 (DH)
noncomputable def Cq:List D->M D:=BG .drop 1 1 (EQ)
noncomputable def DB:List D->M D:=BG .drop 1 1 (CP)
noncomputable def Ce:Nat->List D->M D
 |0=>λ_=>BS
 |n+1=>BG .drop 3 2 (A0 (Ce n) Ci Cq)
noncomputable def Di:List D->M D:=BG .drop 3 3 (Cp (Ce 6) Ci Cq)
noncomputable def Dh:List D->M D:=BG .drop 5 2 (A6 Cj Dw Di)
noncomputable def Bu:List D->M D:=BG .drop 2 2 (Bq Dw)
noncomputable def BF:Nat->List D->M D
 |0=>λ_=>BS
 |n+1=>BG .frz 3 1 (Aw (BF n))
noncomputable def C7:List D->M D:=BG .frz 4 1 (Ar (BF 6))
noncomputable def CC:List D->M D:=BG .drop 3 2 (Bh C7 Dw)
noncomputable def C8:List D->M D:=BG .drop 4 3 (Dc Dh Bu CC Dw)
end K1
namespace Mi
open PySem L2 PyProof.Rows
section
variable{X:Cx}{e a b c:Expr}{pos:Pos}
theorem Q3:OpR X (binaryOp .Add) (λx y H Q=>∃a b ys,x=.ref a/\y=.ref b/\SqT X.kw H a []/\SqT X.kw H b ys/\Q (.ref b) H):=by
 intro pins s σ H x y v u Q I rx ry h;obtain⟨a,b,ys,rfl,rfl,ha,hb,q⟩:=h;cases rx;cases ry;obtain⟨its,r1,p1,_⟩:=I.tuple ha;obtain⟨its2,r2,p2,_⟩:=I.tuple hb;cases r1;obtain⟨⟨cls,dd,data,sl⟩,ho,hc,n,hd⟩:=p1;obtain⟨⟨cls2,dd2,data2,sl2⟩,ho2,hc2,n2,hd2⟩:=p2;simp only at hc hd hc2 hd2;subst hc hd hc2 hd2;exact concat_meets ⟨_,ho,rfl⟩ ⟨_,ho2,rfl⟩ noFill_tuple_add seq_tuple_add PySem.F.slot_tuple_add PySem.F.entry_tuple_add (PySem.F.args_tuple_add_2 _ _) (tuple_addW0 a b _ _ n n2 dd dd2 sl sl2 rfl) ⟨ho,ho2,⟨.ref b,H,I,rfl,q⟩⟩
noncomputable def Ag(a b:D):M D:=match a,b with
 | .tup [],.tup ds=>ret (.tup ds)
 |a,b=>Cz a b
theorem Ap:OpR X (binaryOp .Add) (rM X.kw Ag):=λpins s σ H x y v u Q I rx ry h=>by
 obtain⟨ι,μ,a,b,d,μ',R,ia,ib,e,q⟩:=h;unfold Ag at e;split at e
 ·rename_i ds;cases e;unfold Is at ia;obtain⟨p,vs,rfl,h1,h2⟩:=ia;unfold IsL at h2;subst h2;have ib2:=ib;unfold Is at ib;obtain⟨p',vs',rfl,h1',h2'⟩:=ib;exact Q3 pins s σ H _ _ v u Q I rx ry ⟨p,p',vs',rfl,rfl,h1,h1',q ι H R.ext0 R _ ib2⟩
 ·exact FL pins s σ H x y v u Q I rx ry ⟨ι,μ,_,_,d,μ',R,ia,ib,e,q⟩
theorem JB{prog:Program}{w:World}{A:Around}{E:Value->Shared->Prop}{s:Shared}{t sl:Addr}{items:Array Value}{vl vu:Value}{lo hi:Option Int}{Q:Value->Shared->Prop}(ht:IsTup s.heap t items)(hs:s.heap.IsSliceOf sl vl vu .none)(pl:IsPart vl lo)(pu:IsPart vu hi)
  (h1:HT.sIx items.size 0 lo=0) (h2:HT.sIx items.size items.size hi=items.size) (h:Q (.ref t) s):wpAny (model prog w) A (getItem (.ref t) (.ref sl)) Q E s:=by
 obtain⟨os,hos,hcs,hds⟩:=id hs;have hTs:s.TypeIs (.ref sl) "slice" := ⟨os,hos,hcs⟩;unfold getItem
 try with_reducible refine AAn ?_
 first|refine AAA (AAB ?_)|skip
 refine AAA (wpAny_sequenceKey ht.typeIs (by decide) ?_);refine AAA (wpAny_callSpecial?_slot (name:=Str.ofString "__getitem__") ht.typeIs PyProof.Rows.slot_tuple_getitem
  (AAc PyProof.Rows.slot_tuple_getitem ht.typeIs entry_tuple_getitem ?_ (args_tuple_getitem _ _)))
 show wpAny _ _ (Builtin.Tuple.tupleItemsOf (.ref t) >>= _) _ _ s;refine AAA (tupleItemsOf_ ht ?_);refine AAA (wpAny_typeOf hTs ?_);rw[if_pos (by decide)];refine AAA (HT.EJ hs pl pu ?_);have hyes:((((HT.sIx items.size 0 lo:Nat):Int)==0&&(1:Int)==1&&(HT.sIx items.size items.size hi-HT.sIx items.size 0 lo)==items.size)=true):=by rw[h1,h2];simp
 show wpAny _ _ (if (((HT.sIx items.size 0 lo:Nat):Int)==0&&(1:Int)==1&&(HT.sIx items.size items.size hi-HT.sIx items.size 0 lo)==items.size)=true then _ else _) _ _ s;rw[if_pos hyes];refine AAA (m:=Builtin.Tuple.tupleIsExact (.ref t)) ?_;unfold Builtin.Tuple.tupleIsExact;refine AAA (wpAny_typeOf ht.typeIs (AAB ?_));rw[if_pos (by decide)];refine AAA (wpAny_rule ?_);exact AAB ⟨_,rfl,AAB h⟩
theorem Sf:SlR X (λx lo hi H Q=>∃a xs,x=.ref a/\SqT X.kw H a xs/\HT.sIx xs.length 0 lo=0/\HT.sIx xs.length xs.length hi=xs.length/\Q (.ref a) H):=by
 intro pins s σ H x v vl vu lo hi sl Q I rx hs pl pu h;obtain⟨a,xs,rfl,hx,h1,h2,q⟩:=h;cases rx;obtain⟨its,r,ht,hz⟩:=I.tuple hx;have hlen:its.toArray.size=xs.length:=by rw[List.size_toArray];exact r.length.symm
 refine⟨"tuple",_,PyProof.Rows.slot_tuple_getitem.lookup,ht.typeIs,?_⟩;exact JB ht hs pl pu (by rw[hlen];exact h1) (by rw[hlen];exact h2) ⟨.ref a,H,I,rfl,q⟩
theorem Rr{ds:List D}{lo hi:Option Int}(h1:HT.sIx ds.length 0 lo=0)(h2:HT.sIx ds.length ds.length hi=ds.length):E9 ds lo hi=ds:=by
 unfold E9;rw[h1,h2];simp
noncomputable def IE(lo hi:Option Int):D->M D
 | .tup ds=>ret (.tup (E9 ds lo hi))
 |d=>bnd (Cn d) λds=>ret (.lst (E9 ds lo hi))
noncomputable def Y9(K:KW):V->Option Int->Option Int->Hp->VK->Prop:=λx lo hi H Q=>∃ι μ a d μ',RelH K ι μ H/\Is K ι μ.length H a x/\IE lo hi a μ=some (d,μ') /\
 Aft K ι μ H μ' λι' H'=>∀v,Is K ι' μ'.length H' d v->Q v H'
theorem X8:SlR X (Y9 X.kw):=λpins s σ H x v vl vu lo hi sl Q I rx hs pl pu h=>by
 obtain⟨ι,μ,a,d,μ',R,ia,e,q⟩:=h;by_cases c:∃ds,a=.tup ds/\HT.sIx ds.length 0 lo=0/\HT.sIx ds.length ds.length hi=ds.length
 ·obtain⟨ds,rfl,h1,h2⟩:=c;have e:some (D.tup (E9 ds lo hi),μ)=some (d,μ'):=e;rw[Rr h1 h2] at e;cases e;have ia2:=ia;unfold Is at ia;obtain⟨p,vs,rfl,g1,g2⟩:=ia;exact Sf pins s σ H _ v vl vu lo hi sl Q I rx hs pl pu ⟨p,vs,rfl,g1,by rw[g2.length];exact h1,by rw[g2.length];exact h2,q ι H R.ext0 R _ ia2⟩
 ·refine X9 pins s σ H x v vl vu lo hi sl Q I rx hs pl pu ⟨ι,μ,a,d,μ',R,ia,?_,q⟩;cases a with
  |tup ds=>
   show (if HT.sIx ds.length 0 lo=0/\HT.sIx ds.length ds.length hi=ds.length then (BS:M D) else ret (D.tup (E9 ds lo hi))) μ=_;rw[if_neg (λz=>c ⟨ds,rfl,z.1,z.2⟩)];exact e
  |_=>exact e
noncomputable def DU(me:Sl->M D)(ml mh:Sl->M (Option Int)):Sl->M D:=λτ=>bnd (me τ) λx=>bnd (ml τ) λl=>bnd (mh τ) λh=>IE l h x
theorem Bc{e:Expr}{lo hi:Option Expr}{me:Sl->M D}{ml mh:Sl->M (Option Int)}{pos p2:Pos}(he:RE X e me)(hl:RO X lo ml)(hh:RO X hi mh):RE X (.Subscript e (.Slice lo hi none p2) pos) (DU me ml mh):=RE.wk (LL X8 he.pe hl.pe hh.pe) λσ H Q h=>by
 obtain⟨ι,μ,τ,z,μ',R,S,e,q⟩:=h;obtain⟨x,μ1,e1,e⟩:=AJ e;obtain⟨l,μ2,e2,e⟩:=AJ e;obtain⟨u,μ3,e3,e⟩:=AJ e;refine⟨ι,μ,τ,x,μ1,R,S,e1,λι1 H1 E1 R1 v i1=>⟨ι1,μ1,τ,l,μ2,R1,S.ext E1,e2,λι2 H2 E2 R2=>⟨ι2,μ2,τ,u,μ3,R2,S.ext (E1.trans E2),e3,λι3 H3 E3 R3=>?_⟩⟩⟩;have E23:=E2.trans E3;exact⟨ι3,μ3,x,z,μ',R3,i1.ext E23,e,λι4 H4 E4 R4=>q ι4 H4 ((E1.trans E23).trans E4) R4⟩
end
end Mi
namespace Mi
open PySem L2
open PyProof.Rows hiding St
end Mi
namespace Mi
open PySem L2
end Mi
local macro_rules | `(tactic| wtm_at "l")=>`(tactic| repeat first|exact Mi.TD|exact Mi.ZB|exact Mi.TB|exact Mi.Xp|exact Mi.VW|exact Mi.pu_nil|exact Mi.pu_inst|exact Mi.pu_len|apply Mi.TC|apply Mi.Xo|apply Mi.pu_cons|apply Mi.pu_disp|apply Mi.pu_or|apply Mi.pu_and|apply Mi.pu_not)
namespace Ht
open PySem PySem.SetTable
end Ht
namespace Ht
open PySem PySem.SetTable
open PyProof.Rows
end Ht
namespace Ht
open PySem PySem.Spec PyProof.Rows Sem L2
end Ht
namespace Ht
open PySem PySem.Spec PyProof.Rows Sem L2 PySem.SetTable
end Ht
namespace Ht
end Ht
namespace L2
open PySem PySem.Spec PyProof.Rows Sem Ht
end L2
namespace Mi
open PySem L2 Ht
end Mi
namespace L2
open PySem PySem.Spec PyProof.Rows Sem Ht
end L2
namespace Mi
open PySem L2 Ht
section
variable{X:Cx}{e:Expr}{p:Pos}
noncomputable def FP:List D->M D
 |[d]=>bnd (Bw d) λds=>ret (.lst ds)
 |_=>BS
theorem GY:CT X (.type "list") (rMA X.kw FP):=λpins s σ H xs us Q I r h=>by
 obtain⟨ι,μ,as,d,μ',R,ia,e,q⟩:=h;unfold FP at e;split at e
 ·rename_i y;obtain⟨ds,μ1,e1,e2⟩:=AJ e;obtain⟨v,rfl,i1⟩:=F0 ia;obtain⟨hm,p,vs,rfl,h1,h2⟩:=EX R i1 e1;subst hm;cases e2;exact Kl pins s σ H _ us Q I r ⟨p,vs,rfl,h1,Uh R h2 q⟩
 ·cases e
end
end Mi
namespace L2
open PySem PySem.Spec PyProof.Rows Sem Ht
theorem M2:fillsNumberSlot (.type "tuple") "mul" = Pure.pure false:=PySem.fillsNumberSlot_seq (id := "tuple.__mul__") (r:=some (.builtin "tuple.__rmul__")) PySem.F.slot_tuple_mul.lookup (by decide +kernel) PySem.F.slot_tuple_rmul.lookup (by decide +kernel)
theorem P7:seqRepeat? (.type "tuple")=Pure.pure (some (.builtin "tuple.__mul__")):=by
 unfold seqRepeat?;rw[PySem.seqSlot_of (T := "tuple") (name := "__mul__") PySem.F.slot_tuple_mul.lookup (by decide +kernel),PySem.seqSlot_of (T := "tuple") (name := "__rmul__") PySem.F.slot_tuple_rmul.lookup (by decide +kernel)];rfl
section
variable{w:World}{A:Around}{s:Shared}
theorem P8(a:Int)(t:Tok)(l:Addr)(items:Array Value):Meets (Builtin.«int.__rmul__» ⟨[.int a t,.ref l],[]⟩) (λ_ R s=>IsTup s.heap l items/\R (.ok (.ret Value.notImplemented)) s):=
 .of_wp λprog w A R s h=>by
  obtain⟨⟨o,ho,hc,n,hd⟩,h⟩:=h;have hT:s.TypeIs (.ref l) "tuple" := ⟨o,ho,hc⟩;have z:=PySem.F.sub_tuple_int
  wp_walk
  rw[hd]
  wp_walk
  exact⟨_,rfl,h⟩
theorem U9(l:Addr)(items:Array Value)(k:Int)(t:Tok)(h0:items.isEmpty=false)(h1:1<=k)(h2:k<=1000)(h3:items.size<=1000):
  Meets (Builtin.«tuple.__mul__» ⟨[.ref l,.int k t],[]⟩) (λ_ R s=>IsTup s.heap l items/\(k=1->R (.ok (.ret (.ref l))) s)/\(k≠1->R (.ok (.ret (.ref s.heap.objs.size))) { s with heap:=s.heap.push { cls:=.type "tuple",data:=.seq ((List.replicate k.toNat items).foldl (·++·) #[]) } })):=
 .of_wp λprog w A R s h=>by
  obtain⟨⟨o,ho,hc,n,hd⟩,q1,q2⟩:=h;have hT:s.TypeIs (.ref l) "tuple" := ⟨o,ho,hc⟩;have b1:(items.size:Int) * k<=1000000:=by
   have:=Int.mul_le_mul (show (items.size:Int)<=1000 by omega) h2 (by omega) (by omega);omega
  have c1:(decide (k < -2 ^ 63)||decide (k ≥ 2 ^ 63))=false:=by simp;omega
  have c3:(decide (k<=0)||items.isEmpty)=false:=by rw[h0];simp;omega
  have c5:Builtin.Tuple.tupleTooMany ((items.size:Int) * k)=false:=by
   unfold Builtin.Tuple.tupleTooMany;simp[sizeLine_eq];omega
  unfold Builtin.«tuple.__mul__»
  wp_walk
  rw[c1,if_neg AAf];refine AAA ?_;unfold Builtin.Tuple.tupleItemsOf;refine AAA (AAv ho hd (AAB ?_));rw[h0];by_cases hk:k=1
  ·have c2:(false||k==1)=true:=by simp[hk]
   rw[c2];simp only[↓reduceIte]
   wp_walk
   exact⟨_,rfl,q1 hk⟩
  ·have c2:(false||k==1)=false:=by simp[hk]
   rw[c2];simp only[Bool.false_eq_true,↓reduceIte];rw[Bool.or_false,AAO (show ¬k<=0 by omega)];simp only[Bool.false_eq_true,↓reduceIte];rw[if_neg (show ¬(items.size:Int) * k > (2 ^ 63-1) / 8 by omega),c5];simp only[Bool.false_eq_true,↓reduceIte];unfold Builtin.Tuple.tupleExact;refine AAA (AAp (AAB ⟨_,rfl,q2 hk⟩) ?_);show ((List.replicate k.toNat items).foldl (·++·) #[]).size<=sizeLine;have sz:∀(m:Nat) (z:Array Value),((List.replicate m items).foldl (·++·) z).size=z.size+m * items.size:=by
    intro m
    induction m with
    |zero=>intro z;simp
    |succ m ih=>intro z;rw[AAj,List.foldl_cons,ih,Array.size_append,Nat.succ_mul];omega
   rw[sz,sizeLine_eq];have:((k.toNat * items.size:Nat):Int)=(items.size:Int) * k:=by
    rw[Int.natCast_mul,Int.toNat_of_nonneg (by omega),Int.mul_comm]
   simp;omega
end
theorem IZ(its:List Value):∀(m:Nat) (z:List Value),(List.replicate m its.toArray).foldl (·++·) z.toArray=(z++(List.replicate m its).flatten).toArray
 |0,z=>by simp
 |m+1,z=>by
  rw[AAj,List.foldl_cons,List.append_toArray,IZ its m,AAj,List.flatten_cons,AAk]
theorem Vals.reps{vs:List V}{us:List Value}(r:Vals vs us):∀m:Nat,Vals (List.replicate m vs).flatten (List.replicate m us).flatten
 |0=>.nil
 |m+1=>by
  rw[AAj,List.flatten_cons,AAj,List.flatten_cons];exact r.append (Vals.reps r m)
section
variable{X:Cx}
theorem TY:OpR X (binaryOp .Mult) (λx y H Q=>∃l k xs,x=.ref l/\y=.int k/\SqT X.kw H l xs/\xs≠[]/\xs.length<=1000/\1<=k/\k<=1000/\(k=1->Q (.ref l) H)/\(k≠1->∀p,H p=none->Q (.ref p) (upd H p (.tup (List.replicate k.toNat xs).flatten)))):=by
 intro pins s σ H x y v u Q I rx ry h;obtain⟨l,k,xs,rfl,rfl,ha,hx,hz,k1,k2,q1,q2⟩:=h;cases rx;obtain⟨t,rfl⟩:=ry;obtain⟨its,r,p,_⟩:=I.tuple ha;have hlen:=r.length;have hT:s.TypeIs (.ref l) "tuple" := by obtain⟨o,e,c,_⟩:=p;exact⟨o,e,c⟩
 have he:its.toArray.isEmpty=false:=by
  cases its with
  |nil=>exact absurd (List.length_eq_zero_iff.mp (by simpa using hlen)) hx
  |cons a b=>rfl
 refine wpAny_binaryOp_repeat_ref (T := "tuple") (U := "int") (by decide) hT (λs'=>typeIs_int s' k t) M2 PySem.F.fills_int_mul PySem.F.slot_int_rmul P7 PySem.F.slot_int_index.lookup ?_;refine call_meets PySem.F.slot_int_rmul (typeIs_int s k t) PySem.F.entry_int_rmul (PySem.F.args_int_rmul_2 _ _) (P8 k t l its.toArray) ⟨p,rfl,hT,?_⟩;refine call_meets PySem.F.slot_tuple_mul hT PySem.F.entry_tuple_mul (PySem.F.args_tuple_mul_2 _ _) (U9 l its.toArray k t he k1 k2 (by rw[List.size_toArray];omega)) ⟨p,λz=>⟨.ref l,H,I,rfl,q1 z⟩,λz=>?_⟩;have ef:=IZ its k.toNat [];rw[List.nil_append] at ef;rw[ef];refine⟨.ref s.heap.objs.size,_,I.laid (t':=s.toks) (o:=.tup (List.replicate k.toNat xs).flatten) (λb ob q=>AAC _ q) (AAF _) ⟨?_,_,r.reps _,IsTup.new _ _⟩,rfl,q2 z _ (I.hok.fresh (AAF _))⟩;rw[NY,sizeLine_eq];have:k.toNat * xs.length<=1000 * 1000:=Nat.mul_le_mul (by omega) hz;omega
end
end L2
namespace Mi
open PySem L2 Ht
noncomputable def ML(a b:D):M D:=match a,b with
 | .tup ds,.int k=>λμ=>if ds≠[]/\ds.length<=1000/\1<=k/\k<=1000 then some (.tup (List.replicate k.toNat ds).flatten,μ) else none
 |a,b=>Dq a b
section
variable{X:Cx}
theorem V8:OpR X (binaryOp .Mult) (rM X.kw ML):=λpins s σ H x y v u Q I rx ry h=>by
 obtain⟨ι,μ,a,b,d,μ',R,ia,ib,e,q⟩:=h;unfold ML at e;split at e
 ·rename_i ds k;split at e
  ·rename_i hc;obtain⟨c1,c2,c3,c4⟩:=hc;cases e;have zb:=Bt ib;subst zb;unfold Is at ia;obtain⟨p,vs,rfl,h1,h2⟩:=ia;have hl:=h2.length;refine TY pins s σ H _ _ v u Q I rx ry ⟨p,k,vs,rfl,rfl,h1,λz=>c1 (List.length_eq_zero_iff.mp (by rw[←hl,z];rfl)),by omega,c3,c4,λz=>?_,λz=>?_⟩
   ·subst z;refine q ι H R.ext0 R _ ?_;unfold Is;exact⟨p,vs,rfl,h1,by simpa using h2⟩
   ·exact NZ R (h2.rep _) q
  ·cases e
 ·exact HB pins s σ H _ _ v u Q I rx ry ⟨ι,μ,a,b,d,μ',R,ia,ib,e,q⟩
end
end Mi
namespace L2
open PySem PySem.Spec PyProof.Rows Sem Ht
theorem Sb(l:Addr)(items:Array Value)(t:Tok)(h0:items.isEmpty=false):
  Meets (Builtin.«tuple.__mul__» ⟨[.ref l,.int 0 t],[]⟩) (λ_ R s=>IsTup s.heap l items/\R (.ok (.ret (.ref s.heap.objs.size))) { s with heap:=s.heap.push { cls:=.type "tuple",data:=.seq #[] } }):=
 .of_wp λprog w A R s h=>by
  obtain⟨⟨o,ho,hc,n,hd⟩,q⟩:=h;have hT:s.TypeIs (.ref l) "tuple" := ⟨o,ho,hc⟩;unfold Builtin.«tuple.__mul__»
  wp_walk
  rw[hd];refine AAB (AAB ?_);dsimp only;rw[h0];have c2:(false||(0:Int)==1)=false:=by decide
  rw[c2];simp only[Bool.false_eq_true,↓reduceIte];have c3:(decide ((0:Int)<=0)||false)=true:=by decide
  rw[c3];simp only[↓reduceIte];unfold Builtin.Tuple.tupleExact;exact AAA (AAp (AAB ⟨_,rfl,q⟩))
section
variable{X:Cx}
theorem Q2:OpR X (binaryOp .Mult) (λx y H Q=>∃l xs,x=.ref l/\y=.int 0/\SqT X.kw H l xs/\xs≠[]/\∀p,H p=none->Q (.ref p) (upd H p (.tup []))):=by
 intro pins s σ H x y v u Q I rx ry h;obtain⟨l,xs,rfl,rfl,ha,hx,q⟩:=h;cases rx;obtain⟨t,rfl⟩:=ry;obtain⟨its,r,p,_⟩:=I.tuple ha;have hlen:=r.length;have hT:s.TypeIs (.ref l) "tuple" := by
  obtain⟨o,e,c,_⟩:=p;exact⟨o,e,c⟩
 have he:its.toArray.isEmpty=false:=by
  cases its with
  |nil=>exact absurd (List.length_eq_zero_iff.mp (by simpa using hlen)) hx
  |cons a b=>rfl
 refine wpAny_binaryOp_repeat_ref (T := "tuple") (U := "int") (by decide) hT (λs'=>typeIs_int s' 0 t) M2 PySem.F.fills_int_mul PySem.F.slot_int_rmul P7 PySem.F.slot_int_index.lookup ?_;refine call_meets PySem.F.slot_int_rmul (typeIs_int s 0 t) PySem.F.entry_int_rmul (PySem.F.args_int_rmul_2 _ _) (P8 0 t l its.toArray) ⟨p,rfl,hT,?_⟩;refine call_meets PySem.F.slot_tuple_mul hT PySem.F.entry_tuple_mul (PySem.F.args_tuple_mul_2 _ _) (Sb l its.toArray t he) ⟨p,?_⟩;exact⟨.ref s.heap.objs.size,_,I.laid (t':=s.toks) (o:=.tup []) (λb ob z=>AAC _ z) (AAF _) ⟨by simp,[],.nil,IsTup.new _ _⟩,rfl,q _ (I.hok.fresh (AAF _))⟩
end
end L2
namespace Mi
open PySem L2 Ht
noncomputable def Gj(a b:D):M D:=match a,b with
 | .tup (x::ds),.int 0=>λμ=>some (.tup [],μ)
 |a,b=>ML a b
section
variable{X:Cx}
theorem MR:OpR X (binaryOp .Mult) (rM X.kw Gj):=λpins s σ H x y v u Q I rx ry h=>by
 obtain⟨ι,μ,a,b,d,μ',R,ia,ib,e,q⟩:=h;unfold Gj at e;split at e
 ·rename_i z ds;cases e;have zb:=Bt ib;subst zb;unfold Is at ia;obtain⟨p,vs,rfl,h1,h2⟩:=ia;have hl:=h2.length;refine Q2 pins s σ H _ _ v u Q I rx ry ⟨p,vs,rfl,rfl,h1,λn=>by rw[n] at hl;simp at hl,?_⟩;exact NZ R IsL.nil q
 ·exact V8 pins s σ H _ _ v u Q I rx ry ⟨ι,μ,a,b,d,μ',R,ia,ib,e,q⟩
end
end Mi
namespace L2
open PySem PySem.Spec PyProof.Rows Sem
end L2
namespace L2
open PySem PySem.Spec PyProof.Rows
end L2
namespace Mi
open PySem L2
end Mi
namespace Pk
open PySem PySem.Spec PyProof.Rows L2 Mi PySem.MeetsSeq PySem.SeqAt
mutual
def draws:D->Nat
 | .tup ks=>Gy ks+1
 |_=>1
def Gy:List D->Nat
 |[]=>0
 |k::ks=>draws k+Gy ks
end
mutual
def At(h:Heap):D->Value->Prop
 | .non,v=>v=.none
 | .int i,v=>∃t,v=.int i t
 | .str x,v=>∃t,v=.str x t
 | .tup ks,v=>∃a o items n,v=.ref a/\h.get? a=some o/\o.cls=.type "tuple" /\ o.data=.seq items n/\Ats h ks items.toList
 |_,_=>False
def Ats(h:Heap):List D->List Value->Prop
 |[],vs=>vs=[]
 |k::ks,vs=>∃v vs',vs=v::vs'/\At h k v/\Ats h ks vs'
end
theorem Mm{h:Heap}{v:Value}(a:At h .non v):v=.none:=by unfold At at a;exact a
theorem Kq{h:Heap}{i:Int}{v:Value}(a:At h (.int i) v):∃t,v=.int i t:=by unfold At at a;exact a
theorem Kp{h:Heap}{x:Str}{v:Value}(a:At h (.str x) v):∃t,v=.str x t:=by unfold At at a;exact a
theorem F5{h:Heap}{ks:List D}{v:Value}(a:At h (.tup ks) v):∃a o items n,v=.ref a/\h.get? a=some o/\o.cls=.type "tuple" /\ o.data=.seq items n/\Ats h ks items.toList:=by unfold At at a;exact a
theorem At.shape{h:Heap}{v:Value}:∀{k:D},At h k v->(k=.non/\v=.none)∨(∃i t,k=.int i/\v=.int i t)∨(∃x t,k=.str x/\v=.str x t)∨∃ks a,k=.tup ks/\v=.ref a
 | .non,a=>.inl ⟨rfl,Mm a⟩
 | .int i,a=>.inr (.inl ⟨i,(Kq a).choose,rfl,(Kq a).choose_spec⟩)
 | .str i,a=>.inr (.inr (.inl ⟨i,(Kp a).choose,rfl,(Kp a).choose_spec⟩))
 | .tup ks,a=>.inr (.inr (.inr (by obtain⟨x,_,_,_,e,_⟩:=F5 a;exact⟨ks,x,rfl,e⟩)))
 | .bl _,a | .ty _,a | .scr _,a | .lst _,a | .ref _,a=>by unfold At at a;exact a.elim
mutual
theorem At.inj{h:Heap}:∀{k j:D} {v:Value},At h k v->At h j v->k=j
 | .tup ks,j,v,a,b=>by
  rcases b.shape with ⟨rfl,e⟩|⟨i,t,rfl,e⟩|⟨x,t,rfl,e⟩|⟨js,y,rfl,e⟩
  ·obtain⟨_,_,_,_,e2,_⟩:=F5 a;rw[e] at e2;cases e2
  ·obtain⟨_,_,_,_,e2,_⟩:=F5 a;rw[e] at e2;cases e2
  ·obtain⟨_,_,_,_,e2,_⟩:=F5 a;rw[e] at e2;cases e2
  ·obtain⟨x,o,items,n,rfl,h1,_,h3,h4⟩:=F5 a;obtain⟨x',o',items',n',e',h1',_,h3',h4'⟩:=F5 b;cases e';rw[h1] at h1';cases h1';rw[h3] at h3';cases h3';rw[Ats.inj h4 h4']
 | .non,j,v,a,b=>by
  cases Mm a;rcases b.shape with ⟨rfl,e⟩|⟨i,t,rfl,e⟩|⟨x,t,rfl,e⟩|⟨js,y,rfl,e⟩<;>first|rfl|cases e
 | .int i,j,v,a,b=>by
  obtain⟨t,rfl⟩:=Kq a;rcases b.shape with ⟨rfl,e⟩|⟨i,t,rfl,e⟩|⟨x,t,rfl,e⟩|⟨js,y,rfl,e⟩
  ·cases e
  ·injection e with e1 _;rw[e1]
  ·cases e
  ·cases e
 | .str i,j,v,a,b=>by
  obtain⟨t,rfl⟩:=Kp a;rcases b.shape with ⟨rfl,e⟩|⟨i,t,rfl,e⟩|⟨x,t,rfl,e⟩|⟨js,y,rfl,e⟩
  ·cases e
  ·cases e
  ·injection e with e1 _;rw[e1]
  ·cases e
 | .bl _,_,_,a,_ | .ty _,_,_,a,_ | .scr _,_,_,a,_ | .lst _,_,_,a,_ | .ref _,_,_,a,_=>by unfold At at a;exact a.elim
theorem Ats.inj{h:Heap}:∀{ks js:List D} {vs:List Value},Ats h ks vs->Ats h js vs->ks=js
 |[],[],_,_,_=>rfl
 |[],_::_,vs,a,b=>by
  unfold Ats at a b;subst a;obtain⟨_,_,e,_⟩:=b;cases e
 |_::_,[],vs,a,b=>by
  unfold Ats at a b;subst b;obtain⟨_,_,e,_⟩:=a;cases e
 |k::ks,j::js,vs,a,b=>by
  unfold Ats at a b;obtain⟨v,vs',rfl,a1,a2⟩:=a;obtain⟨v',vs'',e,b1,b2⟩:=b;cases e;rw[At.inj a1 b1,Ats.inj a2 b2]
end
mutual
theorem At.kept{h h':Heap}:∀{k:D} {v:Value},At h k v->(∀a o items n,h.get? a=some o->o.cls=.type "tuple" -> o.data=.seq items n->h'.get? a=some o)->At h' k v
 | .non,v,a,_ | .int i,v,a,_ | .str i,v,a,_=>by unfold At at a ⊢;exact a
 | .tup ks,v,a,kp=>by
  unfold At at a ⊢;obtain⟨x,o,items,n,rfl,h1,h2,h3,h4⟩:=a;exact⟨x,o,items,n,rfl,kp x o items n h1 h2 h3,h2,h3,Ats.kept h4 kp⟩
 | .bl _,_,a,_ | .ty _,_,a,_ | .scr _,_,a,_ | .lst _,_,a,_ | .ref _,_,a,_=>by unfold At at a;exact a.elim
theorem Ats.kept{h h':Heap}:∀{ks:List D} {vs:List Value},Ats h ks vs->(∀a o items n,h.get? a=some o->o.cls=.type "tuple" -> o.data=.seq items n->h'.get? a=some o)->Ats h' ks vs
 |[],vs,a,_=>by unfold Ats at a ⊢;exact a
 |k::ks,vs,a,kp=>by
  unfold Ats at a ⊢;obtain⟨v,vs',rfl,a1,a2⟩:=a;exact⟨v,vs',rfl,At.kept a1 kp,Ats.kept a2 kp⟩
end
section
variable{prog:Program}{w:World}
theorem Ow{A:Around}{E:Value->Shared->Prop}{s:Shared}{Q:Int->Shared->Prop}(hu:A.units<cLine)(q:Q 0xFCA86420 { s with toks:=s.toks+1 }):wpAny (model prog w) A (pyHash .none) Q E s:=by
 show wpAny _ _ (pyHashByItsType .none) Q E s;refine PySem.W.pyHash_slot (T := "NoneType") rfl F.slot_NoneType_hash F.entry_NoneType_hash (F.args_NoneType_hash_1 _) (beq_builtin_none _) (.inr hu) (AAA (AAB ?_));refine AAA (wpAny_mkInt (AAB ⟨0xFCA86420,_,rfl,?_⟩));exact q
mutual
theorem At.hash:∀{k:D} {v:Value} {A:Around} {E:Value->Shared->Prop} {s:Shared} {Q:Int->Shared->Prop},A.units+Kj k<cLine->At s.heap k v->Q (hD w k) { s with toks:=s.toks+draws k }->wpAny (model prog w) A (pyHash v) Q E s
 | .non,v,A,E,s,Q,hu,hk,q=>by
  unfold At at hk;subst hk;exact Ow (by omega) q
 | .int i,v,A,E,s,Q,hu,hk,q=>by
  unfold At at hk;obtain⟨t,rfl⟩:=hk;exact wpAny_pyHash_int q
 | .str i,v,A,E,s,Q,hu,hk,q=>by
  unfold At at hk;obtain⟨t,rfl⟩:=hk;exact wpAny_pyHash_str q
 | .tup ks,v,A,E,s,Q,hu,hk,q=>by
  unfold At at hk;obtain⟨a,o,items,n,rfl,h1,h2,h3,h4⟩:=hk;have hu':A.units+(EC ks+1)<cLine:=hu;refine Nk.hash_tup (hs:=hDs w ks) (d:=Gy ks) (by omega) h1 h2 h3 (λP p=>?_) q;exact Ats.hash (A:=A.in1) (by show A.units+1+EC ks<cLine;omega) h4 (acc:=#[]) (by simpa using p)
 | .bl _,_,_,_,_,_,_,a,_ | .ty _,_,_,_,_,_,_,a,_ | .scr _,_,_,_,_,_,_,a,_ | .lst _,_,_,_,_,_,_,a,_ | .ref _,_,_,_,_,_,_,a,_=>by unfold At at a;exact a.elim
theorem Ats.hash:∀{ks:List D} {vs:List Value} {A:Around} {E:Value->Shared->Prop} {s:Shared} {acc:Array Int} {P:Array Int->Shared->Prop},A.units+EC ks<cLine->Ats s.heap ks vs->P (acc++(hDs w ks).toArray) { s with toks:=s.toks+Gy ks }->
  wpAny (model prog w) A (forIn vs acc λx r=>do let y ←pyHash x;pure (ForInStep.yield (r.push y))) P E s
 |[],vs,A,E,s,acc,P,hu,hk,q=>by
  unfold Ats at hk;subst hk;rw[List.forIn_nil];exact AAB (by simpa[hDs,Gy] using q)
 |k::ks,vs,A,E,s,acc,P,hu,hk,q=>by
  unfold Ats at hk;obtain⟨v,vs',rfl,a1,a2⟩:=hk;rw[List.forIn_cons];have hu':A.units+max (Kj k) (EC ks)<cLine:=hu;refine AAA (AAA (At.hash (by omega) a1 (AAB ?_)));refine Ats.hash (by omega) (s:={ s with toks:=s.toks+draws k }) a2 ?_;simpa[hDs,Gy,Nat.add_assoc] using q
end
end
theorem Ats.len{h:Heap}:∀{ks:List D} {vs:List Value},Ats h ks vs->vs.length=ks.length
 |[],_,a=>by unfold Ats at a;subst a;rfl
 |k::ks,_,a=>by
  unfold Ats at a;obtain⟨v,vs',rfl,_,a2⟩:=a;simp[Ats.len a2]
noncomputable def IT(ks js:List D)(j:Nat):Bool:=decide (ks[j]?=js[j]?)
theorem Oh{ks js:List D}:((List.range (min ks.length js.length)).all (IT ks js)&&ks.length==js.length)=decide (D.tup ks=D.tup js):=by
 by_cases e:ks=js
 ·subst e;rw[AAP rfl,beq_self_eq_true,Bool.and_true,List.all_eq_true];intro j _;exact AAP rfl
 ·rw[AAO (λz=>e (D.tup.inj z))];by_cases hl:ks.length=js.length
  ·rw[beq_iff_eq.mpr hl,Bool.and_true,←Bool.not_eq_true];intro z;rw[List.all_eq_true] at z;refine e (List.ext_getElem? λj=>?_);by_cases hj:j<ks.length
   ·exact of_decide_eq_true (z j (List.mem_range.mpr (by omega)))
   ·rw[List.getElem?_eq_none (by omega),List.getElem?_eq_none (by omega)]
  ·rw[AAe.mpr hl,Bool.and_false]
theorem Ni{h:Heap}{ks:List D}{v:Value}(a:At h (.tup ks) v):∃x items,v=.ref x/\h.IsTuple x items:=by
 unfold At at a;obtain⟨x,o,items,n,rfl,h1,h2,h3,_⟩:=a;exact⟨x,items,rfl,o,h1,h2,n,h3⟩
mutual
theorem At.eq:∀{k j:D} {u v:Value} {A:Around} {s:Shared},A.units+Kj k<cLine->At s.heap k u->At s.heap j v->EqAt A s u v (decide (k=j))
 | .non,j,u,v,A,s,hu,a,b=>by
  have hu':A.units<cLine:=AAq (Nat.le_add_right _ _) hu;unfold At at a;subst a;cases j with
  |non=>unfold At at b;subst b;rw[AAP rfl];exact EqAt.same _
  |int i=>unfold At at b;obtain⟨t,rfl⟩:=b;rw[AAO (by intro z;cases z)];exact EqAt.none_int i t
  |str i=>unfold At at b;obtain⟨t,rfl⟩:=b;rw[AAO (by intro z;cases z)];exact EqAt.none_str i t
  |tup ks=>obtain⟨x,its,rfl,h⟩:=Ni b;rw[AAO (by intro z;cases z)];exact EqAt.none_tuple h hu'
  |_=>unfold At at b;exact b.elim
 | .int i,j,u,v,A,s,hu,a,b=>by
  have hu':A.units<cLine:=AAq (Nat.le_add_right _ _) hu;unfold At at a;obtain⟨t,rfl⟩:=a;cases j with
  |non=>unfold At at b;subst b;rw[AAO (by intro z;cases z)];exact EqAt.int_none i t
  |int j=>
   unfold At at b;obtain⟨t',rfl⟩:=b;have:decide (D.int i=D.int j)=(i==j):=by
    by_cases e:i=j
    ·subst e;simp
    ·rw[AAO (λz=>e (D.int.inj z)),AAe.mpr e]
   rw[this];exact EqAt.int_int i t j t'
  |str j=>unfold At at b;obtain⟨t',rfl⟩:=b;rw[AAO (by intro z;cases z)];exact EqAt.int_str i t j t'
  |tup ks=>obtain⟨x,its,rfl,h⟩:=Ni b;rw[AAO (by intro z;cases z)];exact EqAt.int_tuple i t h hu'
  |_=>unfold At at b;exact b.elim
 | .str i,j,u,v,A,s,hu,a,b=>by
  have hu':A.units<cLine:=AAq (Nat.le_add_right _ _) hu;unfold At at a;obtain⟨t,rfl⟩:=a;cases j with
  |non=>unfold At at b;subst b;rw[AAO (by intro z;cases z)];exact EqAt.str_none i t
  |str j=>
   unfold At at b;obtain⟨t',rfl⟩:=b;have:decide (D.str i=D.str j)=(i==j):=by
    by_cases e:i=j
    ·subst e;simp
    ·rw[AAO (λz=>e (D.str.inj z)),AAe.mpr e]
   rw[this];exact EqAt.str_str i t j t'
  |int j=>unfold At at b;obtain⟨t',rfl⟩:=b;rw[AAO (by intro z;cases z)];exact EqAt.str_int i t j t'
  |tup ks=>obtain⟨x,its,rfl,h⟩:=Ni b;rw[AAO (by intro z;cases z)];exact EqAt.str_tuple i t h hu'
  |_=>unfold At at b;exact b.elim
 | .tup ks,j,u,v,A,s,hu,a,b=>by
  have hu0:A.units<cLine:=AAq (Nat.le_add_right _ _) hu;obtain⟨x0,its0,e0,h0⟩:=Ni a;cases j with
  |non=>unfold At at b;subst b e0;rw[AAO (by intro z;cases z)];exact EqAt.tuple_none h0 hu0
  |int j=>unfold At at b;obtain⟨t',rfl⟩:=b;subst e0;rw[AAO (by intro z;cases z)];exact EqAt.tuple_int j t' h0 hu0
  |str j=>unfold At at b;obtain⟨t',rfl⟩:=b;subst e0;rw[AAO (by intro z;cases z)];exact EqAt.tuple_str j t' h0 hu0
  |tup js=>
   have a':=a;have b':=b;unfold At at a b;obtain⟨x,o,items,n,rfl,h1,h2,h3,h4⟩:=a;obtain⟨y,o',items',n',rfl,h1',h2',h3',h4'⟩:=b;have hu':A.units+(EC ks+1)<cLine:=hu;by_cases e:x=y
   ·subst e;rw[At.inj a' b',AAP rfl];exact EqAt.same _
   ·rw[←Oh];have l1:=h4.len;have l2:=h4'.len;rw[Array.length_toList] at l1 l2;rw[←l1,←l2];refine EqAt.of_refs e (RcAt.tuples ⟨o,h1,h2,n,h3⟩ ⟨o',h1',h2',n',h3'⟩ (by omega) λj g1 g2=>?_);have:=Ats.eqs (A:=A.in1) (by show A.units+1+EC ks<cLine;omega) h4 h4' j (by simpa using g1) (by simpa using g2);simpa using this
  |_=>unfold At at b;exact b.elim
 | .bl _,_,_,_,_,_,_,a,_ | .ty _,_,_,_,_,_,_,a,_ | .scr _,_,_,_,_,_,_,a,_ | .lst _,_,_,_,_,_,_,a,_ | .ref _,_,_,_,_,_,_,a,_=>by unfold At at a;exact a.elim
theorem Ats.eqs:∀{ks js:List D} {us vs:List Value} {A:Around} {s:Shared},A.units+EC ks<cLine->Ats s.heap ks us->Ats s.heap js vs->∀(j:Nat) (h1:j<us.length) (h2:j<vs.length),EqAt A s us[j] vs[j] (IT ks js j)
 |[],js,us,vs,A,s,hu,a,b,j,h1,h2=>by unfold Ats at a;subst a;simp at h1
 |k::ks,[],us,vs,A,s,hu,a,b,j,h1,h2=>by unfold Ats at b;subst b;simp at h2
 |k::ks,l::js,us,vs,A,s,hu,a,b,j,h1,h2=>by
  unfold Ats at a b;obtain⟨u,us',rfl,a1,a2⟩:=a;obtain⟨v,vs',rfl,b1,b2⟩:=b;have hu':A.units+max (Kj k) (EC ks)<cLine:=hu;cases j with
  |zero=>
   have:=At.eq (k:=k) (j:=l) (A:=A) (by omega) a1 b1;have e:IT (k::ks) (l::js) 0=decide (k=l):=by unfold IT;simp
   rw[e];exact this
  |succ j=>
   have:=Ats.eqs (A:=A) (by omega) a2 b2 j (by simpa using h1) (by simpa using h2);have e:IT (k::ks) (l::js) (j+1)=IT ks js j:=by unfold IT;simp
   rw[e];simpa using this
end
section
variable{prog:Program}{w:World}
theorem At.quiet:∀(d:Nat) {k:D} {v:Value} {A:Around} {E:Value->Shared->Prop} {s:Shared} {Q:Bool->Shared->Prop},Kj k<=d->At s.heap k v->Q true s->wpAny (model prog w) A (eqIsQuiet d v) Q E s
 |d,.non,v,A,E,s,Q,hd,a,q=>by
  cases Mm a;unfold eqIsQuiet;exact AAB q
 |d,.int i,v,A,E,s,Q,hd,a,q=>by
  obtain⟨t,rfl⟩:=Kq a;unfold eqIsQuiet;exact AAB q
 |d,.str i,v,A,E,s,Q,hd,a,q=>by
  obtain⟨t,rfl⟩:=Kp a;unfold eqIsQuiet;exact AAB q
 |0,.tup ks,v,A,E,s,Q,hd,a,q=>by
  have hd':EC ks+1<=0:=hd;omega
 |d'+1,.tup ks,v,A,E,s,Q,hd,a,q=>by
  have hd':EC ks+1<=d'+1:=hd;obtain⟨x,o,items,n,rfl,h1,h2,h3,h4⟩:=F5 a;have hT:s.TypeIs (.ref x) "tuple" := ⟨o,h1,h2⟩;unfold eqIsQuiet;refine AAA (wpAny_specialOf hT PySem.F.slot_tuple_eq.lookup ?_);show wpAny _ _ (isInstance (.ref x) (.type "tuple") >>= _) _ _ s;refine AAA (wpAny_isInstance hT isSubtype_tuple_tuple ?_);simp only[Bool.not_true,Bool.false_eq_true,if_false];refine AAA (AAv h1 h3 (AAA ?_));show wpAny _ _ (forIn items _ _) _ _ s;rw[←Array.forIn_toList];refine wpAny_forIn_list _ (λrest r s'=>r.1=none/\s'=s/\∃ks',EC ks'<=d'/\Ats s.heap ks' rest) _ ?_ ?_ _ _ ⟨rfl,rfl,ks,by omega,h4⟩
  ·rintro y rest r s' ⟨hr,rfl,ks',hk,at'⟩;cases ks' with
   |nil=>unfold Ats at at';cases at'
   |cons k' ks'=>
    unfold Ats at at';obtain⟨_,_,e,a1,a2⟩:=at';cases e;have hk':max (Kj k') (EC ks')<=d':=hk;refine AAA (At.quiet d' (k:=k') (by omega) a1 ?_);simp only[Bool.not_true,Bool.false_eq_true,if_false];exact AAB ⟨rfl,rfl,ks',by omega,a2⟩
  ·rintro⟨r1,r2⟩ s' ⟨hr,rfl,_⟩;simp only at hr;subst hr;exact AAB q
 |_,.bl _,_,_,_,_,_,_,a,_|_,.ty _,_,_,_,_,_,_,a,_|_,.scr _,_,_,_,_,_,_,a,_|_,.lst _,_,_,_,_,_,_,a,_|_,.ref _,_,_,_,_,_,_,a,_=>by unfold At at a;exact a.elim
end
noncomputable def kind(prog:Program)(w:World):HeapKind prog w D where
 is:=λh k a=>At h k (.ref a)/\Kj k<=8
 hash:=hD w
 draws:=draws
 room:=λA=>A.units+8<cLine
 inj:=λhx hy=>hx.1.inj hy.1
 keeps:=λ{h h' k a d o es ep} x ho hd hs=>⟨x.1.kept λb o' items n e _ e3=>by
  have hne:b≠d:=by
   intro z;subst z;rw[ho] at e;cases e;rw[hd] at e3;cases e3
  exact(hs.2 b hne).trans e,x.2⟩
 pyHash:=λhu hk h=>At.hash (by have:=hk.2;omega) hk.1 h
 eqBool:=λ{A E s x y a b Q} hu hx hy h=>At.eq (by have:=hx.2;omega) hx.1 hy.1 _ _ E Q h
 quiet:=λhk h=>At.quiet 8 hk.2 hk.1 h
end Pk
namespace Mi
open PySem L2 Pk
section
variable{X:Cx}
theorem Xe{k:Nat}(hr:Room k X.A):(Pk.kind X.prog X.w).room X.A.in1:=by
 have:=hr.units;show X.A.units+1+8<cLine;omega
end
end Mi
namespace Mi
open PySem L2
end Mi
namespace Xc
open PySem L2
structure ZP(h h':Heap)(a:Addr)(i:Nat)(x:Value):Prop where
 other:∀b,b≠a->h'.get? b=h.get? b
 size:h'.objs.size=h.objs.size
 self:∀o vs,h.get? a=some o->o.data=.fields vs->∃o',h'.get? a=some o'/\o'.cls=o.cls/\o'.dict=o.dict/\o'.data=.fields (vs.setIfInBounds i x)
theorem O8(o:Obj)(f):(o.mapFields f).dict=o.dict:=by
 obtain⟨c,d,dt,sl⟩:=o;cases dt<;>rfl
section
variable{M:Model}{A:Around}{E:Value->Shared->Prop}{s:Shared}{Q:Unit->Shared->Prop}{a:Addr}{o:Obj}{vs:Array Value}{i:Nat}{x:Value}
theorem J9(ho:s.heap.get? a=some o)(hd:o.data=.fields vs)(hi:i<vs.size)(q:∀h',ZP s.heap h' a i x->Q () { s with heap:=h' }):wpAny M A (setField (.ref a) i x) Q E s:=by
 refine wpAny_setField ho hd hi (q _ ⟨λb hb=>Heap.get?_update_other _ _ (Ne.symm hb),Heap.size_after_update ..,λo' vs' h1 h2=>?_⟩);have hd':=Obj.data_mapFields h2 λz:Array Value=>z.setIfInBounds i x;exact⟨_,Heap.get?_update_self _ h1 (Obj.isFreed_of_fields hd'),Obj.cls_mapFields ..,O8 ..,hd'⟩
end
structure Fly(h:Heap)(e:Addr)(cls:Value)(dx tb:Option Addr)(f:Value):Prop where
 ob:∃oe vs,h.get? e=some oe/\oe.cls=cls/\oe.dict=dx/\oe.data=.fields vs/\vs[1]?=some (match tb with|none=>Value.none|some T=>.ref T)
 tb:∀T,tb=some T->T≠e/\∃oT ts,h.get? T=some oT/\oT.data=.fields ts/\ts[3]?=some f
structure Lft(h h':Heap)(fs:List Addr)(e:Addr)(tb:Option Addr):Prop where
 keep:∀b o,b∉fs->b≠e->tb≠some b->h.get? b=some o->h'.get? b=some o
 slot:∀b o,b∈fs->h.get? b=some o->∃sl,h'.get? b=some { o with slots:=sl }
 there:∀b o,h.get? b=some o->∃o',h'.get? b=some o'
theorem Lft.refl{h:Heap}{fs:List Addr}{e:Addr}{tb:Option Addr}:Lft h h fs e tb:=⟨λ_ _ _ _ _ z=>z,λ_ o _ z=>⟨o.slots,z⟩,λ_ o z=>⟨o,z⟩⟩
section
variable{M:Model}{A:Around}{E:Value->Shared->Prop}{s:Shared}{Q:Unit->Shared->Prop}{base:Heap}{env:Env}{outer:List Env}{L e T:Addr}{oe:Obj}{vs:Array Value}{head:Value}{hn:Bool}{tb dx:Option Addr}{cls f:Value}
theorem II{l:List Env}(hl:s.heap.FunFrames base l)(he:s.heap.get? e=some oe)(hd:oe.data=.fields vs):e∉frs l:=by
 intro z
 match hl.mem z with
 |⟨_,_,same,no⟩=>exact no vs (Option.some.inj (he.symm.trans same) ▸ hd)
theorem JT(hfr:A.frames=some (env::outer))(hl:s.heap.FunFrames base (env::outer))(hf:env.frame=some L)(he:s.heap.get? e=some oe)(hd:oe.data=.fields vs)(h1:1<vs.size)
  (q:∀h' T,Lft s.heap h' (frs (env::outer)) e none->s.heap.objs.size<=T->Fly h' e oe.cls oe.dict (some T) (rawInt L)->Q () { s with heap:=h' }) :
  wpAny M A (do let a ←frameOf env;let pl ←entryPlaceOf L hn;let b ←EntryCells.newEntry head a .none (rawInt L) .none pl;setField (.ref e) 1 b) Q E s:=by
 have nf:=II hl he hd;refine AAA (wpAny_frameOf_fun hfr hl hf λg hg=>AAA (wpAny_entryPlaceOf λpl hp=>?_));unfold EntryCells.newEntry newFields;refine AAA (AAp ?_ (hp.sizeOk5 _ _ _ _ _));generalize hob:({ cls:=.type "traceback",dict:=none,data:=.fields ([head,.ref L,.none,rawInt L,.none]++(if pl.isEmpty then List.replicate 6 Value.none else pl)).toArray }:Obj)=ob;obtain⟨ts,hts,h3⟩:∃ts,ob.data=.fields ts/\ts[3]?=some (rawInt L):=⟨_,by rw[←hob],by simp⟩;have gT:=AAD g (Obj.isFreed_of_fields hts);have ge:=AAC ob ((hg.2.1 e nf).trans he);have ne:g.objs.size≠e:=Nat.ne_of_gt (by rw[hg.1];exact Heap.lt_size he);refine J9 ge hd h1 λg1 s1=>?_;obtain⟨o1,e1,c1,d1,v1⟩:=s1.self _ _ ge hd;have up:∀b o,b≠e->g.get? b=some o->g1.get? b=some o:=λb o hb z=>by
  rw[s1.other b hb];exact AAC ob z
 refine q g1 g.objs.size ⟨λb o hb hbe _ z=>up b o hbe ((hg.2.1 b hb).trans z),λb o hb z=>?_,λb o z=>?_⟩ (by rw[hg.1];exact AAF _) ⟨⟨o1,_,e1,c1,d1,v1,by simp[h1]⟩,λT hT=>?_⟩
 ·obtain⟨sl,z1⟩:=hg.2.2 b o z;exact⟨sl,up b _ (λw=>nf (w ▸ hb)) z1⟩
 ·by_cases hb:b=e
  ·exact⟨_,by rw[hb];exact e1⟩
  ·obtain⟨sl,z1⟩:=hg.2.2 b o z;exact⟨_,up b _ hb z1⟩
 ·cases hT;exact⟨ne,ob,ts,(s1.other _ ne).trans gT,hts,h3⟩
theorem Tk(hfr:A.frames=some (env::outer))(hl:s.heap.FunFrames base (env::outer))(hf:env.frame=some L)(fl:Fly s.heap e cls dx tb f)(hfl:f=.none∨f=rawInt L)
  (q:∀h' T,Lft s.heap h' (frs (env::outer)) e tb->(s.heap.objs.size<=T∨tb=some T)->Fly h' e cls dx (some T) (rawInt L)->Q () { s with heap:=h' }) :
  wpAny M A (noteFrame (.ref e) env) Q E s:=by
 obtain⟨⟨oe,vs,he,rfl,rfl,hd,h1⟩,ft⟩:=id fl;have sz:=(Array.getElem?_eq_some_iff.mp h1).1;unfold noteFrame;simp only[hf];refine AAA (AAu he hd h1 ?_);cases tb with
 |none=>
  rw[if_neg (by decide)];exact JT hfr hl hf he hd sz λh' T k le fl'=>q h' T k (.inl le) fl'
 |some T=>
  obtain⟨nT,oT,ts,hT,dT,h3⟩:=ft T rfl;have sT:=(Array.getElem?_eq_some_iff.mp h3).1;rw[if_pos (show (Value.ref T != Value.none)=true from by simp)];refine AAA (AAu hT dT h3 ?_);rcases hfl with rfl|rfl
  ·rw[if_neg (show ¬((Value.none==rawInt L)=true) from by simp[rawInt])];refine AAA (J9 hT dT sT λg s1=>?_);obtain⟨o1,e1,_,_,v1⟩:=s1.self _ _ hT dT;have nfT:=II hl hT dT;have hl1:g.FunFrames base (env::outer):=hl.of_keeps λb o z nf=>⟨o,by rw[s1.other b (λw=>by subst w;rw[hT] at z;cases z;exact nf ts dT)];exact z,rfl⟩;refine JT (s:={ s with heap:=g }) hfr hl1 hf ((s1.other e (Ne.symm nT)).trans he) hd sz λh' T' k le fl'=>q h' T' ⟨λb o hb hbe hbT z=>?_,λb o hb z=>?_,λb o z=>?_⟩ (.inl (by rw[←s1.size];exact le)) fl'
   ·exact k.keep b o hb hbe (by simp) ((s1.other b (λw=>hbT (by rw[w]))).trans z)
   ·exact k.slot b o hb ((s1.other b (λw=>nfT (w ▸ hb))).trans z)
   ·by_cases hb:b=T
    ·exact k.there b o1 (by rw[hb];exact e1)
    ·exact k.there b o ((s1.other b hb).trans z)
  ·rw[if_pos (show (rawInt L==rawInt L)=true from beq_self_eq_true _)];exact AAB (q s.heap T .refl (.inr rfl) fl)
theorem O1{fr:Option Addr}{l:List Env}(hl:s.heap.FunFrames base l)(fl:Fly s.heap e cls dx (some T) f)(q:∀h',Lft s.heap h' (frs l) e (some T)->Fly h' e cls dx (some T) (fr.elim .none λz=>rawInt z)->Q () { s with heap:=h' }):
  wpAny M A (setFlight (.ref e) fr) Q E s:=by
 obtain⟨⟨oe,vs,he,rfl,rfl,hd,h1⟩,ft⟩:=id fl;obtain⟨nT,oT,ts,hT,dT,h3⟩:=ft T rfl;have sT:=(Array.getElem?_eq_some_iff.mp h3).1;have nf:=II hl hT dT;unfold setFlight;refine AAA (AAu he hd h1 ?_);rw[if_pos (show (Value.ref T != Value.none)=true from by simp)];refine J9 hT dT sT λg s1=>?_;obtain⟨o1,e1,_,_,v1⟩:=s1.self _ _ hT dT;refine q g ⟨λb o _ _ hb z=>(s1.other b (λw=>hb (by rw[w]))).trans z,λb o hb z=>⟨o.slots,(s1.other b (λw=>nf (w ▸ hb))).trans z⟩,λb o z=>?_⟩ ⟨⟨oe,vs,(s1.other e (Ne.symm nT)).trans he,rfl,rfl,hd,h1⟩,λT' hT'=>?_⟩
 ·by_cases hb:b=T
  ·exact⟨o1,by rw[hb];exact e1⟩
  ·exact⟨o,(s1.other b hb).trans z⟩
 ·cases hT';exact⟨nT,o1,_,e1,v1,by simp[sT]⟩
end
end Xc
namespace Mi
open PySem L2
mutual
def clB(k:Nat):D->Bool
 | .tup ds=>GX k ds
 | .lst ds=>GX k ds
 | .ref n=>Nat.blt n k
 |_=>true
def GX(k:Nat):List D->Bool
 |[]=>true
 |d::ds=>match clB k d with
  |true=>GX k ds
  |false=>false
end
noncomputable def Yh(k:Nat):MO->Bool
 | .lst ds=>GX k ds
 | .dK l=>GX k (l.map (·.2))
 | .dC l=>GX k (l.map (·.2))
 | .ins _ l=>GX k (l.map (·.2))
 | .dP l=>GX k (l.map (·.1))&&GX k (l.map (·.2))
 | .exc _ _=>true
mutual
theorem Rt{k:Nat}:∀{d:D},clB k d=true->Cl k d
 | .tup ds,h=>by unfold clB at h;unfold Cl;exact DR h
 | .lst ds,h=>by unfold clB at h;unfold Cl;exact DR h
 | .ref n,h=>by unfold clB at h;unfold Cl;exact Nat.blt_eq.mp h
 | .non,_ | .bl _,_ | .int _,_ | .str _,_ | .ty _,_ | .scr _,_=>by unfold Cl;trivial
theorem DR{k:Nat}:∀{ds:List D},GX k ds=true->ClL k ds
 |[],_=>by unfold ClL;trivial
 |d::ds,h=>by
  unfold GX at h;unfold ClL;cases e:clB k d with
  |true=>rw[e] at h;exact⟨Rt e,DR h⟩
  |false=>rw[e] at h;cases h
end
theorem UP{k:Nat}{o:MO}(h:Yh k o=true):ClO k o:=by
 cases o with
 |lst ds=>exact DR h
 |dK l=>exact DR h
 |dC l=>exact DR h
 |ins _ l=>exact DR h
 |dP l=>
  have h:(GX k (l.map (·.1))&&GX k (l.map (·.2)))=true:=h;rw[Bool.and_eq_true] at h;exact⟨DR h.1,DR h.2⟩
 |exc c n=>exact trivial
noncomputable def F2(k:Nat):Nat->Mh->Option Mh
 |0,_=>some []
 |_+1,[]=>none
 |n+1,o::μ=>match Yh k o with
  |true=>match F2 k n μ with
   |some r=>some (o::r)
   |none=>none
  |false=>none
theorem Gv{k:Nat}:∀{n:Nat} {μ r:Mh},F2 k n μ=some r->(∃g,μ=r++g)/\List.length r=n/\∀o∈r,ClO k o
 |0,μ,r,h=>by cases h;exact⟨⟨μ,rfl⟩,rfl,λo ho=>by cases ho⟩
 |_+1,[],r,h=>by cases h
 |n+1,o::μ,r,h=>by
  unfold F2 at h;split at h
  ·rename_i hc;split at h
   ·rename_i r' hr;cases h;obtain⟨⟨g,rfl⟩,h2,h3⟩:=Gv hr;refine⟨⟨g,rfl⟩,by rw[AAI,h2],λp hp=>?_⟩;rcases AAJ.mp hp with rfl|hp
    ·exact UP hc
    ·exact h3 p hp
   ·cases h
  ·cases h
noncomputable def TX(μ:Mh)(hw:How)(d:D)(μ2:Mh):Option (D×Mh):=match hw with
 | .all=>some (d,μ2)
 | .drop=>match clB (List.length μ) d with
  |true=>match F2 (List.length μ) (List.length μ) μ2 with
   |some r=>some (d,r)
   |none=>none
  |false=>none
 | .frz=>match d with
  | .ref n=>match Nat.ble (List.length μ) n with
   |true=>match μ2[n]? with
    |some (.lst ds)=>match GX (List.length μ) ds with
     |true=>match F2 (List.length μ) (List.length μ) μ2 with
      |some r=>some (.lst ds,r)
      |none=>none
     |false=>none
    |_=>none
   |false=>none
  |d=>match clB (List.length μ) d with
   |true=>match F2 (List.length μ) (List.length μ) μ2 with
    |some r=>some (d,r)
    |none=>none
   |false=>none
theorem NR{μ μ2 μ':Mh}{hw:How}{d' d:D}(h:TX μ hw d' μ2=some (d,μ')):(μ'=μ2/\d=d')∨E7 μ μ2 μ' d' d:=by
 have dr:∀{d' d:D} {μ':Mh},(match clB (List.length μ) d' with|true=>(match F2 (List.length μ) (List.length μ) μ2 with|some r=>some (d',r)|none=>none)|false=>none)=some (d,μ')->E7 μ μ2 μ' d' d:=by
  intro d' d μ' h;split at h
  ·rename_i hc;split at h
   ·rename_i r hr;cases h;obtain⟨g,hl,ho⟩:=Gv hr;exact⟨g,by rw[hl];exact AAF _,λn o e=>.inr (by rw[hl];exact ho o (AAV e)),.inl ⟨rfl,by rw[hl];exact Rt hc⟩⟩
   ·cases h
  ·cases h
 unfold TX at h;split at h
 ·cases h;exact .inl ⟨rfl,rfl⟩
 ·exact .inr (dr h)
 ·split at h
  ·split at h
   ·rename_i n hn;split at h
    ·rename_i ds hq;split at h
     ·rename_i hc;split at h
      ·rename_i r hr;cases h;obtain⟨g,hl,ho⟩:=Gv hr;exact .inr ⟨g,by rw[hl];exact AAF _,λn o e=>.inr (by rw[hl];exact ho o (AAV e)),.inr ⟨_,ds,rfl,hq,by rw[hl];exact AAE hn,rfl,by rw[hl];exact DR hc⟩⟩
      ·cases h
     ·cases h
    ·cases h
   ·cases h
  ·exact .inr (dr h)
noncomputable def RQ:Fl->Bool
 | .next=>true
 | .rt _=>true
 |_=>false
theorem LX{f:Fl}(h:RQ f=true):f=.next∨∃d,f=.rt d:=by
 cases f with
 |next=>exact .inl rfl
 |rt d=>exact .inr ⟨d,rfl⟩
 |_=>cases h
noncomputable def Ez(hw:How)(n ps:Nat)(mb:Sl->M (Fl×Sl)):List D->M D:=λds μ=>match Nat.beq (List.length ds) ps with
 |true=>match mb (Ay n ds) μ with
  |some ((fl,_),μ2)=>match RQ fl with
   |true=>TX μ hw (EF fl) μ2
   |false=>none
  |none=>none
 |false=>none
theorem Il{hw:How}{n ps:Nat}{mb:Sl->M (Fl×Sl)}{ds:List D}{μ μ':Mh}{d:D}(h:Ez hw n ps mb ds μ=some (d,μ')):
  ds.length=ps/\∃fl τ2 μ2,mb (Ay n ds) μ=some ((fl,τ2),μ2)/\(fl=.next∨∃d,fl=.rt d)/\((μ'=μ2/\d=EF fl)∨E7 μ μ2 μ' (EF fl) d):=by
 unfold Ez at h;split at h
 ·rename_i hl;split at h
  ·rename_i fl τ2 μ2 e;split at h
   ·rename_i hf;exact⟨Nat.eq_of_beq_eq_true hl,fl,τ2,μ2,e,LX hf,NR h⟩
   ·cases h
  ·cases h
 ·cases h
section
variable{P:Program}{w:World}{K:PySem.W.Frag}{mg:Str->Option Value}{base:Heap}
theorem O0(hw:How){x qual:Str}{st:Stmt}{f:Addr}{fd:FuncData}{N ps:List Str}{k:Nat}{mb:Sl->M (Fl×Sl)}(F:Fun K x qual st f fd)(S:Ac N ps (AI st))
  (body:∀(cdv:Value) (A:Around) (outer:List Env) (s:Shared) (H:Hp) (E:XK),Room k (A.deeper (PyProof.Rows.envOfC qual (AI st) s.heap.objs.size f cdv))->RSs (BP CX0 P w K mg base N qual (AI st) f cdv A outer s H E).nox (AX st) mb) :
  FnOk P w K mg base CX0 (k+1) f fd ps (spM ⟨K,w⟩ ps.length (Ez hw N.length ps.length mb)):=by
 refine F.ok S (λvs H Q E h=>h.1) (λcdv A outer s H vs Q E hr h=>⟨_,(body cdv A outer s H E hr).pe,?_⟩);obtain⟨hl,ι,μ,ds,d,μ',R,i,e,q⟩:=h;obtain⟨_,fl,τ2,μ2,e2,hfl,t⟩:=Il e;refine⟨ι,μ,_,fl,τ2,μ2,R,RelS.start i,e2,λι2 H2 E2 R2 σ2 S2=>?_⟩;have z:Ext ι μ.length H ι2 μ'.length H2/\RelH ⟨K,w⟩ ι2 μ' H2/\∀v,Is ⟨K,w⟩ ι2 μ2.length H2 (EF fl) v->Is ⟨K,w⟩ ι2 μ'.length H2 d v:=by
  rcases t with ⟨rfl,rfl⟩|t
  ·exact⟨E2,R2,λv iv=>iv⟩
  ·exact Hk R E2 R2 t
 obtain⟨E3,R3,c⟩:=z;rcases hfl with rfl|⟨d0,rfl⟩
 ·exact q ι2 H2 E3 R3 _ (c _ (by unfold EF Is;rfl))
 ·exact λv iv=>q ι2 H2 E3 R3 v (c v iv)
theorem ER(hw:How){x qual:Str}{st:Stmt}{f:Addr}{fd:FuncData}{N ps:List Str}{k:Nat}{mb:Sl->M (Fl×Sl)}(F:Fun K x qual st f fd)(S:Ac N ps (AI st))(hm:mg x=some (.ref f))(hb:Binds K fd ps [])
  (body:∀(cdv:Value) (A:Around) (outer:List Env) (s:Shared) (H:Hp) (E:XK),Room k (A.deeper (PyProof.Rows.envOfC qual (AI st) s.heap.objs.size f cdv))->RSs (BP CX0 P w K mg base N qual (AI st) f cdv A outer s H E).nox (AX st) mb) :
  Fn P w K mg base x ps (k+1) (Ez hw N.length ps.length mb):=⟨λds μ r h=>(Il (d:=r.1) (μ':=r.2) h).1,f,fd,O0 hw F S body,hm,F.kp,hb⟩
end
end Mi
namespace Xc
open PySem L2 Mi
open PyProof.Rows (AllBare)
def Nw(X:Cx)(pins:List (Addr×Obj))(H:Hp)(b:Addr):Prop:=X.s₀.heap.get? b=none/\H b=none/\∀p∈X.pn++pins,p.1≠b
structure Lies(X:Cx)(pins:List (Addr×Obj))(x:Exn)(σ:St)(H:Hp)(a:Addr)(s:Shared):Prop where
 inv:Inv X pins σ H s
 ex:∃C dx tb f,BK X.K x.1 C/\Fly s.heap a (.ref C) dx tb f/\(f=.none∨f=rawInt X.env.locals)/\Nw X pins H a/\(∀T,tb=some T->Nw X pins H T)/\UW H x.2 dx
def XP(X:Cx)(pins:List (Addr×Obj))(W:Exn->St->Hp->Prop)(e:Value)(s:Shared):Prop:=∃x a σ H,e=.ref a/\Lies X pins x σ H a s/\W x σ H
noncomputable def CX1(K:PySem.W.Frag)(P:Program)(w:World):CXT:=λouter H s E e s'=>∃(x:Exn) (a C:Addr) (dx tb:Option Addr) (H':Hp),e=.ref a/\s'.os=s.os/\AllBare s'.gens/\Un (frs outer) [] H H' s.heap s'.heap/\HOk P w H' s'.heap /\
 BK K x.1 C/\Fly s'.heap a (.ref C) dx tb .none/\(s.heap.get? a=none/\H' a=none)/\(∀T,tb=some T->s.heap.get? T=none/\H' T=none)/\UW H' x.2 dx/\E (.str x.1 0) x.2 H'
noncomputable def wsh(W:Exn->Hp->Prop):XK:=λv n H=>∃c,v=.str c 0/\W (c,n) H
section
variable{X:Cx}{pins:List (Addr×Obj)}{σ:St}{H H':Hp}{s s':Shared}{a b:Addr}{x:Exn}{W:Exn->St->Hp->Prop}
theorem Inv.was(I:Inv X pins σ H s)(hx:X.ex=[])(h:s.heap.get? b=none):X.s₀.heap.get? b=none:=by
 cases e:X.s₀.heap.get? b with
 |none=>rfl
 |some o=>
  obtain⟨o',q⟩:=I.base.there b o e (by rw[hx];simp);rw[h] at q;cases q
theorem Inv.nw(I:Inv X pins σ H s)(hx:X.ex=[])(h:s.heap.get? b=none)(hH:H' b=none):Nw X pins H' b:=⟨Inv.was I hx h,hH,λp z q=>by
 have:=(I.pin p z).1;rw[q,h] at this;cases this⟩
theorem Nw.mono{pins':List (Addr×Obj)}(h:Nw X pins H b)(hp:∀p∈pins',p∈pins):Nw X pins' H b:=⟨h.1,h.2.1,λp z=>h.2.2 p ((AAK.mp z).elim (λq=>AAb _ q) λq=>AAa _ (hp p q))⟩
theorem Inv.less{pins':List (Addr×Obj)}(I:Inv X pins σ H s)(hp:∀p∈pins',p∈pins):Inv X pins' σ H s:=I.pins_of λp z=>I.pin p (AAa _ (hp p z))
theorem XP.less{pins':List (Addr×Obj)}{e:Value}(h:XP X pins W e s)(hp:∀p∈pins',p∈pins):XP X pins' W e s:=by
 obtain⟨x,a,σ,H,e,⟨I,C,dx,tb,f,h1,h2,hf,h3,h4,h5⟩,w⟩:=h;exact⟨x,a,σ,H,e,⟨Inv.less I hp,C,dx,tb,f,h1,h2,hf,h3.mono hp,λT z=>(h4 T z).mono hp,h5⟩,w⟩
theorem XP.call{e:Value}{W':Exn->Hp->Prop}(hx:X.ex=[])(I:Inv X pins σ H s)(h:CX1 X.K X.prog X.w X.stack H s (wsh W') e s')(hw:∀x H',W' x H'->W x σ H'):XP X pins W e s':=by
 obtain⟨⟨c,n⟩,a,C,dx,tb,H',rfl,os,bare,un,hok,hC,fl,fa,ft,sy,w⟩:=h;obtain⟨hh,g,d,t,os'⟩:=s';obtain rfl:os'=s.os:=os;have I':=I.call (h':=hh) (g':=g) (d':=d) (t':=t) (ch:=[]) un hok bare (λb z=>absurd z (by simp));have nw:∀b,s.heap.get? b=none->H' b=none->Nw X pins H' b:=λb h1 h2=>Inv.nw I hx h1 h2;obtain⟨c',e',w⟩:=w;cases e';exact⟨_,a,σ,H',rfl,⟨I',C,dx,tb,_,hC,fl,.inl rfl,nw a fa.1 fa.2,λT z=>nw T (ft T z).1 (ft T z).2,sy⟩,hw _ _ w⟩
theorem RU{g':Array GenState}{t':Nat}{d':Drawn}{ch:List Addr}(I:Inv X pins σ H s)
  (hch:∀b∈ch,X.s₀.heap.get? b=none/\b≠X.env.locals/\(∀x c,X.env.cells.lookup x=some c->c≠b)/\∀p∈X.pn++pins,p.1≠b)
  (keep:∀b o,b≠X.env.locals->b∉X.fs->b∉ch->s.heap.get? b=some o->H b=none->h'.get? b=some o)
  (slot:∀b o,b≠X.env.locals->b∈X.fs->b∉ch->s.heap.get? b=some o->H b=none->∃sl,h'.get? b=some { o with slots:=sl }) (free:∀b o,b∉ch->s.heap.get? b=some o->H b=none->H' b=none)
  (there:∀b o,b∉ch->s.heap.get? b=some o->∃o',h'.get? b=some o')
  (tups:∀b xs,H b=some (.tup xs)->H' b=some (.tup xs)) (frzs:∀b o u,H b=some (.frz o u)->H' b=some (.frz o u)) (tbls:∀b ps,H b=some (.tbl ps)->∃more,H' b=some (.tbl (ps++more)))
  (ns:∀m,s.heap.Ns X.env.locals m->h'.Ns X.env.locals m) (hok:HOk X.prog X.w H' h') (hg:AllBare g') :
  Inv X pins σ H' { s with heap:=h',gens:=g',drawn:=d',toks:=t' }:=by
 have neL:∀b o,X.s₀.heap.get? b=some o->b≠X.env.locals:=λb o e=>AAd (AAN (Heap.lt_size e) I.ok.above);have neC:∀b o,X.s₀.heap.get? b=some o->b∉X.ex->b∉ch:=λb o e hx hb=>by
  rw[(hch b hb).1] at e;cases e
 have cellK:∀x c,X.env.cells.lookup x=some c->∀v,s.heap.IsCell c v->h'.IsCell c v:=λx c e v ⟨o,ho,hd⟩=>by
  have nch:c∉ch:=λz=>(hch c z).2.2.1 x c e rfl;by_cases hc:c∈X.fs
  ·obtain⟨sl,q⟩:=slot c o (I.cne x c e) hc nch ho (I.freeC x c e);exact⟨_,q,hd⟩
  ·exact⟨o,keep c o (I.cne x c e) hc nch ho (I.freeC x c e),hd⟩
 refine⟨I.ok,I.os,hg,⟨λb o e n hb hx=>?_,λb o e n hb hx=>?_,λb o e n hx=>?_,λb o e hx=>?_,λb xs e=>tups b xs (I.base.tups b xs e),λb o xs e=>frzs b o xs (I.base.frzs b o xs e),λb ps e=>?_⟩,?_,λx c e=>?_,?_,λx c e=>?_,λp hp=>?_,hok,I.len⟩
 ·exact keep b o (neL b o e) hb (neC b o e hx) (I.base.keep b o e n hb hx) (I.base.free b o e n hx)
 ·obtain⟨sl,e1⟩:=I.base.slot b o e n hb hx;obtain⟨sl',e2⟩:=slot b _ (neL b o e) hb (neC b o e hx) e1 (I.base.free b o e n hx);exact⟨sl',e2⟩
 ·obtain⟨o',e1⟩:=I.base.there b o e hx;exact free b o' (neC b o e hx) e1 (I.base.free b o e n hx)
 ·obtain⟨o',e1⟩:=I.base.there b o e hx;exact there b o' (neC b o e hx) e1
 ·obtain⟨m1,e1⟩:=I.base.tbls b ps e;obtain⟨m2,e2⟩:=tbls b _ e1;exact⟨m1++m2,by rw[e2,Array.append_assoc]⟩
 ·obtain⟨m,hn,hl⟩:=I.loc;refine⟨m,ns m hn,λi x v e1 e2 e3=>?_⟩;obtain⟨u,r,l⟩:=hl i x v e1 e2 e3;refine⟨u,r,?_⟩;rcases l with l|⟨k,c,e,z⟩
  ·exact .inl l
  ·exact .inr ⟨k,c,e,cellK x c e _ z⟩
 ·obtain⟨v,z⟩:=I.cell x c e;exact⟨v,cellK x c e v z⟩
 ·obtain⟨m,⟨o,_,_,ho,_⟩,_⟩:=I.loc;exact free _ o (λz=>(hch _ z).2.1 rfl) ho I.free
 ·obtain⟨v,o,ho,hd⟩:=I.cell x c e;exact free c o (λz=>(hch c z).2.2.1 x c e rfl) ho (I.freeC x c e)
 ·obtain⟨e,n,ne,nf,d⟩:=I.pin p hp;have nch:p.1∉ch:=λz=>(hch p.1 z).2.2.2 p hp rfl;exact⟨keep p.1 p.2 ne nf nch e n,free p.1 p.2 nch e n,ne,nf,d⟩
theorem Inv.rec_ne{o:Obj}{vs:Array Value}(I:Inv X pins σ H s)(h:s.heap.get? b=some o)(hd:o.data=.fields vs):b≠X.env.locals/\∀y c,X.env.cells.lookup y=some c->c≠b:=by
 refine⟨λz=>?_,λy c e z=>?_⟩
 ·obtain⟨m,⟨o',es,ep,ho,hd',_⟩,_⟩:=I.loc;rw[z,ho] at h;cases h;rw[hd'] at hd;cases hd
 ·obtain⟨v,o',ho,hd'⟩:=I.cell y c e;rw[z,h] at ho;cases ho;rw[hd'] at hd;cases hd
theorem Lies.left(hx:X.ex=[]){h':Heap}{T:Addr}{C:Addr}{dx tb:Option Addr}{f f':Value}(I:Inv X pins σ H s)(hC:BK X.K x.1 C)(fl:Fly s.heap a (.ref C) dx tb f)(na:Nw X pins H a)(nt:∀T,tb=some T->Nw X pins H T)(sy:UW H x.2 dx)
  (k:Lft s.heap h' (frs X.stack) a tb) (hT:s.heap.objs.size<=T∨tb=some T) (fl':Fly h' a (.ref C) dx (some T) f') (hf':f'=.none∨f'=rawInt X.env.locals):Lies X pins x σ H a { s with heap:=h' }:=by
 obtain⟨⟨oe,vs,he,_,_,hd,_⟩,ft⟩:=id fl
 let ch:List Addr:=a::tb.toList
 have nch:∀b,b∉ch->b≠a/\tb≠some b:=λb hb=>⟨λz=>hb (by rw[z];exact AAQ),λz=>hb (AAR _ (by rw[z];simp))⟩;have inch:∀b∈ch,b=a∨tb=some b:=λb hb=>by
  rcases AAJ.mp hb with z|z
  ·exact .inl z
  ·cases tb with
   |none=>simp at z
   |some T=>exact .inr (by simp at z;rw[z])
 have stk:∀b,b≠X.env.locals->b∉X.fs->b∉frs X.stack:=λb h1 h2 z=>(AAJ.mp (I.stkSub b z)).elim h1 h2;have any:∀b o,b∉ch->s.heap.get? b=some o->∃sl,h'.get? b=some { o with slots:=sl }:=λb o hb e=>by
  by_cases hf:b∈frs X.stack
  ·exact k.slot b o hf e
  ·exact⟨o.slots,k.keep b o hf (nch b hb).1 (nch b hb).2 e⟩
 have I':Inv X pins σ H { s with heap:=h',gens:=s.gens,drawn:=s.drawn,toks:=s.toks }:=by
  refine RU (H':=H) (ch:=ch) I (λb hb=>?_) (λb o h1 h2 h3 e _=>k.keep b o (stk b h1 h2) (nch b h3).1 (nch b h3).2 e) (λb o _ _ h3 e _=>any b o h3 e) (λ_ _ _ _ n=>n) (λb o _ e=>k.there b o e) (λ_ _ e=>e) (λ_ _ _ e=>e) (λb ps e=>⟨#[],by rw[e];simp⟩) (λm hm=>?_) (λb u e=>?_) I.bare
  ·rcases inch b hb with rfl|z
   ·exact⟨na.1,(Inv.rec_ne I he hd).1,(Inv.rec_ne I he hd).2,na.2.2⟩
   ·obtain⟨_,oT,ts,hT,dT,_⟩:=ft b z;exact⟨(nt b z).1,(Inv.rec_ne I hT dT).1,(Inv.rec_ne I hT dT).2,(nt b z).2.2⟩
  ·obtain⟨o,es,ep,ho,r⟩:=hm;have hL:X.env.locals∉ch:=λz=>by
    rcases inch _ z with q|q
    ·exact(Inv.rec_ne I he hd).1 q.symm
    ·obtain⟨_,oT,ts,hT,dT,_⟩:=ft _ q;exact(Inv.rec_ne I hT dT).1 rfl
   obtain⟨sl,e⟩:=any _ o hL ho;exact⟨_,es,ep,e,r⟩
  ·refine(I.hok b u e).stay (λc v hc q=>?_) (λ_ q=>q) λ_ _ q=>q;have hn:H c≠none:=by
    rcases hc with rfl|hc
    ·rw[e];simp
    ·rw[hc];simp
   refine k.keep c v (λz=>hn (I.stkFree c z)) (λz=>hn (by rw[z];exact na.2.1)) (λz=>hn (nt c z).2.1) q
 have nT:Nw X pins H T:=by
  rcases hT with hT|hT
  ·exact Inv.nw I hx (Heap.get?_none_of_le hT) (I.hok.fresh hT)
  ·exact nt T hT
 exact⟨I',C,dx,some T,f',hC,fl',hf',na,λT' z=>by cases z;exact nT,sy⟩
abbrev Own(X:Cx):Prop:=X.stack=X.env::X.outer/\X.env.frame=some X.env.locals/\X.ex=[]
section
variable{A:Around}{E:Value->Shared->Prop}{M:Model}{Q:Unit->Shared->Prop}
theorem Lies.note(ow:Own X)(hA:A.frames=some X.stack)(l:Lies X pins x σ H a s)(q:∀h',Lies X pins x σ H a { s with heap:=h' }->(∃C dx T,BK X.K x.1 C/\Fly h' a (.ref C) dx (some T) (rawInt X.env.locals))->Q () { s with heap:=h' }):wpAny M A (noteFrame (.ref a) X.env) Q E s:=by
 obtain⟨I,C,dx,tb,f,hC,fl,hf,na,nt,sy⟩:=l;rw[ow.1] at hA;have st:=I.stack;rw[ow.1] at st;exact Tk hA st ow.2.1 fl hf λh' T k hT fl'=>q h' (Lies.left ow.2.2 I hC fl na nt sy (by rw[ow.1];exact k) hT fl' (.inr rfl)) ⟨C,dx,T,hC,fl'⟩
theorem Lies.flight{fr:Option Addr}(ow:Own X)(l:Lies X pins x σ H a s)(ht:∃C dx T f,BK X.K x.1 C/\Fly s.heap a (.ref C) dx (some T) f)(hfr:fr=none∨fr=some X.env.locals)
  (q:∀h',Lies X pins x σ H a { s with heap:=h' }->(∃C dx T,BK X.K x.1 C/\Fly h' a (.ref C) dx (some T) (fr.elim .none λz=>rawInt z))->Q () { s with heap:=h' }):wpAny M A (setFlight (.ref a) fr) Q E s:=by
 obtain⟨I,C,dx,tb,f,hC,fl,hf,na,nt,sy⟩:=l;obtain⟨C',dx',T,f',hC',fl'⟩:=ht;have e1:tb=some T:=by
  obtain⟨⟨oe,vs,he,_,_,hd,h1⟩,_⟩:=fl;obtain⟨⟨oe',vs',he',_,_,hd',h1'⟩,_⟩:=fl';rw[he] at he';cases he';rw[hd] at hd';cases hd';rw[h1] at h1';cases tb with
  |none=>cases h1'
  |some T'=>cases h1';rfl
 subst e1;exact O1 I.stack fl λh' k fl''=>q h' (Lies.left ow.2.2 I hC fl na nt sy k (.inr rfl) fl'' (by
  rcases hfr with rfl|rfl
  ·exact .inl rfl
  ·exact .inr rfl)) ⟨C,dx,T,hC,fl''⟩
theorem Vs(ow:Own X)(hA:A.frames=some X.stack):PassesOwn M A X.env (XP X pins W):=by
 rintro e s ⟨x,a,σ,H,rfl,l,w⟩;refine Lies.note ow hA l λh' l' ⟨C,dx,T,hC,fl⟩=>?_;obtain⟨oe,vs,he,_,_,hd,h1⟩:=fl.ob;unfold cameBackBy;refine AAA (AAu he hd h1 ?_);rw[if_neg (by simp)];rw[ow.2.1];exact Lies.flight ow l' ⟨C,dx,T,_,hC,fl⟩ (.inr rfl) λh'' l'' _=>⟨x,a,σ,H,rfl,l'',w⟩
end
end
end Xc
namespace Xc
open PySem L2 Mi
noncomputable def FlX(K:KW)(Dn:Iw)(W:Exn->St->Hp->Prop)(ι':Nat->Addr)(k:Nat)(H':Hp)(τ':Sl)(σ':St):Fl->Prop
 | .xc x=>W x σ' H'
 |f=>FlP K Dn ι' k H' τ' σ' f
def tSx(K:KW)(m:Sl->M (Fl×Sl))(Dn:Iw)(W:Exn->St->Hp->Prop)(σ:St)(H:Hp):Prop:=∃ι μ τ f τ' μ',RelH K ι μ H/\RelS K ι μ.length H τ σ/\m τ μ=some ((f,τ'),μ') /\
 Aft K ι μ H μ' λι' H'=>∀σ',RelS K ι' μ'.length H' τ' σ'->FlX K Dn W ι' μ'.length H' τ' σ' f
structure XS(X:Cx)(st:Stmt)(m:Sl->M (Fl×Sl)):Prop where
 pe:∀pins s σ H Dn W,Inv X pins σ H s->tSx X.kw m Dn W σ H->wpAny (model X.prog X.w) X.A (exec st X.env) (SP X pins Dn) (XP X pins W) s
structure XSs(X:Cx)(st:List Stmt)(m:Sl->M (Fl×Sl)):Prop where
 pe:∀pins s σ H Dn W,Inv X pins σ H s->tSx X.kw m Dn W σ H->wpAny (model X.prog X.w) X.A (execs st X.env) (SP X pins Dn) (XP X pins W) s
def NoX(m:Sl->M (Fl×Sl)):Prop:=∀τ μ x τ' μ',m τ μ≠some ((.xc x,τ'),μ')
theorem Q5{m:Sl->M D}{g:D->Sl->M (Fl×Sl)}(h:∀d τ μ x τ' μ',g d τ μ≠some ((.xc x,τ'),μ')):NoX λτ=>bnd (m τ) λd=>g d τ:=λτ μ x τ' μ' e=>by
 obtain⟨d,μ1,_,e⟩:=AJ e;exact h _ _ _ _ _ _ e
theorem Th{m:Sl->M D}:NoX (BE m):=Q5 λ_ _ _ _ _ _ e=>by cases e
theorem WA{m:Sl->M D}{bf:D->Sl->M Sl}:NoX (Ai m bf):=Q5 λd τ μ x τ' μ' e=>by
 obtain⟨_,_,_,e⟩:=AJ e;cases e
theorem Ti{mo mi mv:Sl->M D}:NoX (LH mo mi mv):=λτ μ x τ' μ' e=>by
 obtain⟨_,_,_,e⟩:=AJ e;obtain⟨_,_,_,e⟩:=AJ e;obtain⟨_,_,_,e⟩:=AJ e;obtain⟨r,_,_,e⟩:=AJ e;split at e
 ·split at e
  ·cases e
  ·cases e
 ·cases e
section
variable{Y:Cx}{st:Stmt}{rest body:List Stmt}{m m1 m2:Sl->M (Fl×Sl)}{mc:Sl->M Bool}{c:Expr}{pos:Pos}
theorem HL(h:RS Y.nox st m)(nx:NoX m:=by first|exact WA|exact Th|exact nx_ret|exact nx_nil|exact nx_retN|exact Ti):XS Y.nox st m:=⟨λpins s σ H Dn W I h0=>by
 refine AAh (h.pe pins s σ H Dn I ?_) (λ_ _ q=>q) λ_ _ z=>False.elim z;obtain⟨ι,μ,τ,f,τ',μ',R,S,e,q⟩:=h0;refine⟨ι,μ,τ,f,τ',μ',R,S,e,λι' H' E' R' σ' S'=>?_⟩;have q:=q ι' H' E' R' σ' S';cases f with
 |xc x=>exact absurd e (nx _ _ _ _ _)
 |_=>exact q⟩
theorem SG:XSs Y.nox [] BW:=⟨λpins s σ H Dn W I h0=>by
 obtain⟨ι,μ,τ,f,τ',μ',R,S,e,q⟩:=h0;cases e;exact wpAny_execs_nil ⟨σ,H,I,q ι H R.ext0 R σ S⟩⟩
theorem Cr(h:XS Y.nox st m):XSs Y.nox [st] m:=⟨λpins s σ H Dn W I h0=>by
 refine wpAny_execs_cons (thn (h.pe pins s σ H Dn W I h0) λf s1 q=>?_);cases f with
 |next=>exact wpAny_execs_nil q
 |_=>exact q⟩
theorem A4(h1:XS Y.nox st m1)(h2:XSs Y.nox rest m2):XSs Y.nox (st::rest) (AR m1 m2):=⟨λpins s σ H Dn W I h0=>by
 obtain⟨ι,μ,τ,f,τ',μ',R,S,e,q⟩:=h0;obtain⟨⟨f1,τ1⟩,μ1,e1,e⟩:=AJ e;refine wpAny_execs_cons (thn (h1.pe pins s σ H { Dn with nx:=λσ' H'=>tSx Y.nox.kw m2 Dn W σ' H' } W I ⟨ι,μ,τ,f1,τ1,μ1,R,S,e1,λι1 H1 E1 R1 σ1 S1=>?_⟩) λf s1 q=>?_)
 ·cases f1 with
  |next=>exact⟨ι1,μ1,τ1,f,τ',μ',R1,S1,e,λι2 H2 E2 R2=>q ι2 H2 (E1.trans E2) R2⟩
  |brk=>cases e;exact q ι1 H1 E1 R1 σ1 S1
  |cont=>cases e;exact q ι1 H1 E1 R1 σ1 S1
  |rt d=>cases e;exact q ι1 H1 E1 R1 σ1 S1
  |xc x=>cases e;exact q ι1 H1 E1 R1 σ1 S1
 ·cases f with
  |next=>
   obtain⟨σ',H',I',q⟩:=q;exact h2.pe pins s1 σ' H' Dn W I' q
  |_=>exact q⟩
theorem XC(hc:RT Y.nox c mc)(h1:XSs Y.nox body m1)(h2:XSs Y.nox rest m2):XS Y.nox (.If c body rest pos) (sIf mc m1 m2):=⟨λpins s σ H Dn W I h0=>by
 obtain⟨ι,μ,τ,f,τ',μ',R,S,e,q⟩:=h0;obtain⟨x,μ1,e1,e⟩:=AJ e;refine wpAny_If (AAh (hc.pe pins s σ H (λb H1=>if b=true then tSx Y.nox.kw m1 Dn W σ H1 else tSx Y.nox.kw m2 Dn W σ H1) I ⟨ι,μ,τ,x,μ1,R,S,e1,λι1 H1 E1 R1=>?_⟩) (λd s1 ⟨H1,I1,q1⟩=>?_) λ_ _ z=>False.elim z)
 ·cases x with
  |true=>exact⟨ι1,μ1,τ,f,τ',μ',R1,S.ext E1,e,λι2 H2 E2 R2=>q ι2 H2 (E1.trans E2) R2⟩
  |false=>exact⟨ι1,μ1,τ,f,τ',μ',R1,S.ext E1,e,λι2 H2 E2 R2=>q ι2 H2 (E1.trans E2) R2⟩
 ·cases d with
  |true=>exact h1.pe pins s1 σ H1 Dn W I1 q1
  |false=>exact h2.pe pins s1 σ H1 Dn W I1 q1⟩
end
noncomputable abbrev Dx:=Sum D Exn
noncomputable def spX(K:KW)(n:Nat)(φ:List D->M Dx):Sp:=λvs H Q E=>vs.length=n/\∃ι μ ds r μ',RelH K ι μ H/\IsL K ι μ.length H ds vs/\φ ds μ=some (r,μ')/\Aft K ι μ H μ' λι' H'=>match r with
 | .inl d=>∀v,Is K ι' μ'.length H' d v->Q v H'
 | .inr x=>E (.str x.1 0) x.2 H'
structure FnX(P:Program)(w:World)(K:PySem.W.Frag)(mg:Str->Option Value)(base:Heap)(x:Str)(ps:List Str)(k:Nat)(φ:List D->M Dx):Prop where
 len:∀ds μ r,φ ds μ=some r->ds.length=ps.length
 ex:∃f fd,FnOk P w K mg base (CX1 K P w) k f fd ps (spX ⟨K,w⟩ ps.length φ)/\mg x=some (.ref f)/\PySem.W.keepIn K (.ref f)=true/\Binds K fd ps []
noncomputable def Bd(φ:List D->M Dx)(m:Sl->M (List D)):Sl->M Dx:=λτ=>bnd (m τ) φ
structure XE(X:Cx)(e:Expr)(m:Sl->M Dx):Prop where
 pe:∀pins s σ H (Q:VK) (W:Exn->St->Hp->Prop),Inv X pins σ H s->(∃ι μ τ r μ',RelH X.kw ι μ H/\RelS X.kw ι μ.length H τ σ/\m τ μ=some (r,μ')/\Aft X.kw ι μ H μ' λι' H'=>match r with
  | .inl d=>∀v,Is X.kw ι' μ'.length H' d v->Q v H'
  | .inr x=>W x σ H')->wpAny (model X.prog X.w) X.A (eval e X.env) (EP X pins σ Q) (XP X pins W) s
section
variable{Y:Cx}{e:Expr}{es:List Expr}{pos p:Pos}
theorem VI{X:Cx}{k:Nat}{f:Addr}{fd:FuncData}{ps:List Str}{sp:Sp}{pins:List (Addr×Obj)}{σ:St}{H:Hp}{s:Shared}{Q:VK}{us:List Value}{vs:List V}{W:Exn->St->Hp->Prop}(F:FnOk X.prog X.w X.K X.mg X.base (CX1 X.K X.prog X.w) k f fd ps sp)(hr:Room k X.A)(hb:Binds X.K fd ps [])(hx:X.ex=[])
  (I:Inv X pins σ H s) (r:Vals vs us) (h:sp vs H Q (wsh λx H'=>W x σ H')):wpAny (model X.prog X.w) X.A (call (.ref f) us) (EP X pins σ Q) (XP X pins W) s:=by
 have hl:(us++[]).length=ps.length:=by rw[AAZ,←r.length];exact F.len _ _ _ _ h
 have b:=hb s us I.kIn hl;rw[AAZ] at b;refine wpAny_call (codeAny_mono (F.run X.A X.stack s H ⟨us,[]⟩ us vs Q _ hr I.env0 b r h) λr s' hq=>?_);cases r with
 |error e=>exact XP.call hx I hq λ_ _ z=>z
 |ok fl=>
  cases fl with
  |ret u=>exact I.after hq
  |_=>exact False.elim hq
theorem Co{x:Str}{ps:List Str}{k j:Nat}{φ:List D->M Dx}{m:Sl->M (List D)}(F:FnX Y.nox.prog Y.nox.w Y.nox.kw Y.nox.mg Y.nox.base x ps k φ)(hr:Room j Y.nox.A)(ha:RA Y.nox (e::es) m)(hkj:k<=j:=by decide)(hg:Gl Y.nox x:=by rfl)(hdb:(x==("__debug__" : Str))=false:=by decide)
  (he:starEach (e::es) Y.nox.env=(false,eval e Y.nox.env)::starEach es Y.nox.env:=by exact Av rfl) (hpl:(backTo pos (starEach es Y.nox.env)).any (·.1)=false:=by exact BB rfl) (hx:Y.nox.ex=[]:=by rfl):XE Y.nox (.Call (.Name x p) (e::es) [] pos) (Bd φ m):=⟨λpins s σ H Q W I h0=>by
 obtain⟨len,f,fd,F,hm,hk,hb⟩:=F;obtain⟨ι,μ,τ,r,μ',R,S,e0,q⟩:=h0;obtain⟨ds,μ1,e1,e2⟩:=AJ e0;refine wpAny_Call_Name_kw (Fe I hg hm ?_ hdb);refine PySem.W.callWith_K (h₀:=Y.nox.base) I.ok.mod.kin hk (AAh (ha.pe pos pins s σ H (λvs H1=>spX Y.nox.kw ps.length φ vs H1 Q (wsh λx H'=>W x σ H')) I ⟨ι,μ,τ,ds,μ1,R,S,e1,λι1 H1 E1 R1 vs iv=>?_⟩) (λus s1 ⟨vs,H1,I1,r1,q1⟩=>⟨I1.kIn,?_⟩) λ_ _ z=>False.elim z) he hpl
 ·refine⟨by rw[iv.length];exact len _ _ _ e2,ι1,μ1,ds,r,μ',R1,iv,e2,λι2 H2 E2 R2=>?_⟩;have q:=q ι2 H2 (E1.trans E2) R2;cases r with
  |inl d=>exact q
  |inr x=>exact⟨x.1,rfl,q⟩
 ·exact VI F (hr.mono hkj) hb hx I1 r1 q1⟩
noncomputable def Bb(m:Sl->M Dx):Sl->M (Fl×Sl):=λτ=>bnd (m τ) λr=>match r with
 | .inl _=>ret (.next,τ)
 | .inr x=>ret (.xc x,τ)
theorem BH{m:Sl->M Dx}(h:XE Y.nox e m)(hs:swapsWith e none pos.line Y.nox.env=pure false:=by rfl):XS Y.nox (.Expr e pos) (Bb m):=⟨λpins s σ H Dn W I h0=>by
 obtain⟨ι,μ,τ,f,τ',μ',R,S,e0,q⟩:=h0;obtain⟨r,μ1,e1,e2⟩:=AJ e0;refine wpAny_Expr_any (thn (h.pe pins s σ H (λ_ H1=>Dn.nx σ H1) W I ⟨ι,μ,τ,r,μ1,R,S,e1,λι1 H1 E1 R1=>?_⟩) λv s1 ⟨x,H1,I1,r1,q1⟩=>⟨σ,H1,I1,q1⟩) I.quiet hs;cases r with
 |inl d=>cases e2;exact λv _=>q ι1 H1 E1 R1 σ (S.ext E1)
 |inr x=>cases e2;exact q ι1 H1 E1 R1 σ (S.ext E1)⟩
noncomputable def vals(φ:List D->M Dx):List D->M D:=λds μ=>match φ ds μ with
 |some (.inl d,μ')=>some (d,μ')
 |_=>none
theorem OD{φ:List D->M Dx}{ds:List D}{μ μ':Mh}{d:D}(h:vals φ ds μ=some (d,μ')):φ ds μ=some (.inl d,μ'):=by
 unfold vals at h;split at h
 ·rename_i d' μ1 e;cases h;exact e
 ·cases h
theorem Qe{X:Cx}{x:Str}{ps:List Str}{k j:Nat}{φ:List D->M Dx}{m:Sl->M (List D)}(F:FnX X.prog X.w X.kw X.mg X.base x ps k φ)(hr:Room j X.A)(ha:RA X (e::es) m)(hkj:k<=j:=by decide)(hg:Gl X x:=by rfl)(hdb:(x==("__debug__" : Str))=false:=by decide)
  (he:starEach (e::es) X.env=(false,eval e X.env)::starEach es X.env:=by exact Av rfl) (hpl:(backTo pos (starEach es X.env)).any (·.1)=false:=by exact BB rfl):RE X (.Call (.Name x p) (e::es) [] pos) (AF (vals φ) m):=by
 obtain⟨len,f,fd,F,hm,hk,hb⟩:=F;refine RE.wk (NQ (E:=λ_ _ _=>False) F (hr.mono hkj) hg hm hk hb .nil (λ_ _ _ _ _ _ _ h=>?_) ha.pe hdb he hpl) λ_ _ _ q=>Ed q λι μ μ' H ds vs d R i e q=>?_
 ·obtain⟨x,a,C,dx,tb,H',_,_,_,_,_,_,_,_,_,_,z⟩:=h;exact False.elim z
 ·rw[AAZ];have e':=OD e;exact⟨by rw[i.length];exact len ds μ _ e',ι,μ,ds,.inl d,μ',R,i,e',q⟩
theorem Hy{X:Cx}{x:Str}{k j:Nat}{φ:List D->M D}(F:Fn X.prog X.w X.kw X.mg X.base x [] k φ)(hr:Room j X.A)(hkj:k<=j:=by decide)(hg:Gl X x:=by rfl)(hdb:(x==("__debug__" : Str))=false:=by decide):RE X (.Call (.Name x p) [] [] pos) (AF φ AH):=by
 obtain⟨len,f,fd,F,hm,hk,hb⟩:=F;refine RE.wk (Qy (E:=E0) F (hr.mono hkj) hg hm hk hb .nil Ud hdb) λσ H Q q=>?_;obtain⟨ι,μ,τ,d,μ',R,S,e,q⟩:=q;exact⟨rfl,ι,μ,[],d,μ',R,.nil,e,q⟩
end
end Xc
namespace Xc
open PySem L2 Mi
open PyProof.Rows (AllBare)
section
variable{Y:Cx}{body:List Stmt}{e tg iter:Expr}{pos:Pos}
theorem VT{X:Cx}{wi:TI}{g:TG}(ow:Own X)(hc:X.calm=true)(hx:∀e s,X.xe e s->False)(hi:PI X tg iter wi)(hg:PG X tg g){tb:Iw->(Exn->St->Hp->Prop)->St->Hp->Prop}
  (hb:∀pins s σ H D W,Inv X pins σ H s->tb D W σ H->wpAny (model X.prog X.w) X.A (execs body X.env) (SP X pins D) (XP X pins W) s) (hs:∀x,foldedSetIterable iter X.env x=pure x) {pins:List (Addr×Obj)} {s:Shared} {σ:St} {H:Hp} {D:Iw} {W:Exn->St->Hp->Prop} (I:Inv X pins σ H s)
  (h:XW wi g (λD' σ' H'=>tb D' W σ' H') D σ H):wpAny (model X.prog X.w) X.A (exec (.For tg iter body [] pos) X.env) (SP X pins D) (XP X pins W) s:=by
 have hp:PassesOwn (model X.prog X.w) X.A X.env (XP X pins W):=Vs ow I.ok.frames;have no:∀{α:Type} {t:Sem α} {Q:α->Shared->Prop} {s:Shared},wpAny (model X.prog X.w) X.A t Q X.xe s->wpAny (model X.prog X.w) X.A t Q (XP X pins W) s:=λh=>AAh h (λ_ _ q=>q) λe s z=>(hx e s z).elim;refine wpAny_For (no (thn (hi pins s σ H _ I h) λv s1 h1=>h1) |> λz=>AAh z (λv s1 h1=>no (thn h1 λitv s2 h2=>h2) |> λz=>AAh z (λitv s2 h2=>?_) λ_ _ q=>q) λ_ _ q=>q) hs;obtain⟨it,fp,tn,J,H2,e,I2,T,st2,f2,Wt,⟨m0,w0⟩,turn⟩:=h2;subst e;have stat:∀{H':Hp},(∀b∈fp,H' b=none)->∀b∈fp,FX X pins H' b:=λhn b hb=>⟨hn b hb,(f2 b hb).2⟩;refine codeAny_forLoop_any (λn s'=>∃i σ' H',Inv X pins σ' H' s'/\tn i s'.heap/\(∀b∈fp,H' b=none)/\Wt i n σ' H') ?_ m0 ⟨0,σ,H2,I2,st2,λb hb=>(f2 b hb).1,w0⟩;rintro n s3 ⟨i,σ3,H3,I3,st3,fr3,w3⟩;rcases turn i n σ3 H3 w3 with ⟨stop,qn⟩|⟨go,N,hN,step⟩
 ·refine wpAny_passesOwn hp (thn (T.done X rfl rfl rfl hc i pins s3 σ3 H3 _ I3 (stat fr3) st3 stop) λr s4 ⟨hr,I4⟩=>?_);subst hr;exact wpAny_execs_nil ⟨σ3,H3,I4,qn⟩
 ·refine wpAny_passesOwn hp (thn (T.item X rfl rfl rfl hc i pins s3 σ3 H3 _ I3 (stat fr3) st3 go) λr s4 ⟨u,hr,h4⟩=>?_);subst hr;refine wpAny_passesOwn hp (thn h4 λ_ s5 ⟨x,H5,I5,r5,y5,st5,fr5⟩=>?_);have I5':=I5.pinned (stat fr5) (T.obj _ _ st5);refine wpAny_passesOwn hp (AAh (no (hg _ s5 σ3 H5 x u _ I5' r5 (step x H5 y5))) (λ_ s6 ⟨σ6,H6,I6,q6⟩=>?_) λ_ _ z=>z);refine wpAny_passesOwn hp (AAh (hb _ s6 σ6 H6 _ W I6 q6) (λf s7 q7=>?_) λ_ _ z=>z.less λp hp=>AAb _ hp);have again:∀{σ7:St} {H7:Hp},Inv X (pins++IG fp s5.heap) σ7 H7 s7->N σ7 H7->∃m,m<n/\∃i σ' H',Inv X pins σ' H' s7/\tn i s7.heap/\(∀b∈fp,H' b=none)/\Wt i m σ' H':=λ{σ7 H7} I7 n7=>by
   obtain⟨m',hm,w7⟩:=hN σ7 H7 n7;refine⟨m',hm,i+1,σ7,H7,I7.unpinned,T.keep _ _ _ st5 λb hb o e=>(I7.pin (b,o) (AAa _ (AAa _ (CL hb e)))).1,λb hb=>?_,w7⟩;obtain⟨o,e,d⟩:=T.obj _ _ st5 b hb;exact(I7.pin (b,o) (AAa _ (AAa _ (CL hb e)))).2.1
  cases f with
  |next=>obtain⟨σ7,H7,I7,n7⟩:=q7;exact again I7 n7
  |cont=>obtain⟨σ7,H7,I7,n7⟩:=q7;exact again I7 n7
  |brk=>obtain⟨σ7,H7,I7,q7⟩:=q7;exact⟨σ7,H7,I7.unpinned,q7⟩
  |ret v=>obtain⟨x7,σ7,H7,I7,r7,q7⟩:=q7;exact⟨x7,σ7,H7,I7.unpinned,r7,q7⟩
theorem Jr{src:Sl->M (List D)}{bf:D->Sl->M Sl}{mb:Sl->M (Fl×Sl)}(hi:RI Y.nox tg iter src)(hg:RG Y.nox tg bf)(hb:XSs Y.nox body mb)(hc:Y.nox.calm=true:=by rfl)(ow:Own Y.nox:=by exact⟨rfl,rfl,rfl⟩)
  (hs:∀x,foldedSetIterable iter Y.nox.env x=pure x:=by intro _;rfl):XS Y.nox (.For tg iter body [] pos) (Ef src bf mb):=⟨λpins s σ H Dn Wx I h0=>by
 refine VT (X:=Y.nox) ow hc (λ_ _ z=>z) hi.pe hg.pe (tb:=λD W σ H=>tSx Y.nox.kw mb D W σ H) (λpins s σ H D W I h=>hb.pe pins s σ H D W I h) hs I ?_;obtain⟨ι,μ,τ,f,τ',μ',R,S,e,q⟩:=h0;obtain⟨ds,μ1,e1,e⟩:=AJ e;refine⟨ι,μ,τ,ds,μ1,R,S,e1,λι1 H1 E1 R1 J it=>?_⟩
 let W:Nat->Nat->St->Hp->Prop:=λi m σ H=>m=ds.length-i/\i<=ds.length/\∃ι μ τ f τ' μ',RelH Y.nox.kw ι μ H/\RelS Y.nox.kw ι μ.length H τ σ/\ItM Y.nox.kw J ds ι μ H/\Dv bf mb (ds.drop i) τ μ=some ((f,τ'),μ') /\
  Aft Y.nox.kw ι μ H μ' λι' H'=>∀σ',RelS Y.nox.kw ι' μ'.length H' τ' σ'->FlX Y.nox.kw Dn Wx ι' μ'.length H' τ' σ' f
 refine⟨W,⟨ds.length,by simp,AAi _,ι1,μ1,τ,f,τ',μ',R1,S.ext E1,it,e,λι2 H2 E2 R2=>q ι2 H2 (E1.trans E2) R2⟩,?_⟩;rintro i m σ H ⟨hm,hil,ι,μ,τ,f,τ',μ',R,S,it,e,q⟩;obtain⟨go,stop,yl⟩:=it ι μ H R.ext0 R;by_cases hlt:i<ds.length
 ·refine .inr ⟨go i hlt,λσ' H'=>W (i+1) (ds.length-(i+1)) σ' H',λσ' H' z=>⟨_,by omega,z⟩,λx H2 y=>?_⟩;have hd:ds[i]?=some ds[i]:=by simp[hlt]
  obtain⟨E2,R2,ix⟩:=yl i x H2 _ hd y;rw[List.drop_eq_getElem_cons hlt] at e;obtain⟨τ1,μ1,e1,e⟩:=AJ e;obtain⟨⟨f2,τ2⟩,μ2,e2,e⟩:=AJ e;refine⟨ι,μ,τ,_,τ1,μ1,R2,S.ext E2,ix,e1,λι3 H3 E3 R3 σ3 S3=>?_⟩;refine⟨ι3,μ1,τ1,f2,τ2,μ2,R3,S3,e2,λι4 H4 E4 R4 σ4 S4=>?_⟩;have E14:=(E2.trans E3).trans E4;cases f2 with
  |next=>exact⟨rfl,hlt,ι4,μ2,τ2,f,τ',μ',R4,S4,it.ext E14,e,λι5 H5 E5 R5=>q ι5 H5 (E14.trans E5) R5⟩
  |cont=>exact⟨rfl,hlt,ι4,μ2,τ2,f,τ',μ',R4,S4,it.ext E14,e,λι5 H5 E5 R5=>q ι5 H5 (E14.trans E5) R5⟩
  |brk=>cases e;exact q ι4 H4 E14 R4 σ4 S4
  |rt d=>cases e;exact q ι4 H4 E14 R4 σ4 S4
  |xc x=>cases e;exact q ι4 H4 E14 R4 σ4 S4
 ·have hi':i=ds.length:=by omega
  subst hi';rw[List.drop_length] at e;cases e;exact .inl ⟨stop,q ι H R.ext0 R σ S⟩⟩
end
noncomputable def Ey(hw:How)(n ps:Nat)(mb:Sl->M (Fl×Sl)):List D->M Dx:=λds μ=>match Nat.beq (List.length ds) ps with
 |true=>match mb (Ay n ds) μ with
  |some ((.xc x,_),μ2)=>some (.inr x,μ2)
  |some ((fl,_),μ2)=>match RQ fl with
   |true=>match TX μ hw (EF fl) μ2 with
    |some (d,μ')=>some (.inl d,μ')
    |none=>none
   |false=>none
  |none=>none
 |false=>none
theorem Ik{hw:How}{n ps:Nat}{mb:Sl->M (Fl×Sl)}{ds:List D}{μ μ':Mh}{r:Dx}(h:Ey hw n ps mb ds μ=some (r,μ')):
  ds.length=ps/\((∃x τ2,r=.inr x/\mb (Ay n ds) μ=some ((.xc x,τ2),μ'))∨∃d fl τ2 μ2,r=.inl d/\mb (Ay n ds) μ=some ((fl,τ2),μ2)/\(fl=.next∨∃d,fl=.rt d)/\((μ'=μ2/\d=EF fl)∨E7 μ μ2 μ' (EF fl) d)):=by
 unfold Ey at h;split at h
 ·rename_i hl;refine⟨Nat.eq_of_beq_eq_true hl,?_⟩;split at h
  ·rename_i x τ2 μ2 e;cases h;exact .inl ⟨x,τ2,rfl,e⟩
  ·rename_i fl τ2 μ2 _ e;split at h
   ·rename_i hf;split at h
    ·rename_i d μ3 ho;cases h;exact .inr ⟨d,fl,τ2,μ2,rfl,e,LX hf,NR ho⟩
    ·cases h
   ·cases h
  ·cases h
 ·cases h
section
variable{P:Program}{w:World}{K:PySem.W.Frag}{mg:Str->Option Value}{base:Heap}
theorem WF{N:List Str}{qual:Str}{scope:Scope}{f:Addr}{cd:Value}{A:Around}{outer:List Env}{s s':Shared}{H:Hp}{E:XK}{W:Exn->St->Hp->Prop}{e:Value}
  (h:XP (BP (CX1 K P w) P w K mg base N qual scope f cd A outer s H E) [] W e s') (hw:∀x σ H',W x σ H'->E (.str x.1 0) x.2 H'):(BP (CX1 K P w) P w K mg base N qual scope f cd A outer s H E).xe e s':=by
 obtain⟨x,a,σ,H',rfl,l,wx⟩:=h;show wpAny _ _ (leaving _ _) _ _ s';unfold leaving;have fr:=l.inv.ok.frames;refine AAA (Lies.note (X:=BP (CX1 K P w) P w K mg base N qual scope f cd A outer s H E) ⟨rfl,rfl,rfl⟩ fr l λh1 l1 ⟨C,dx,T,hC,fl⟩=>?_);refine Lies.flight (X:=BP (CX1 K P w) P w K mg base N qual scope f cd A outer s H E) (s:={ s' with heap:=h1 }) ⟨rfl,rfl,rfl⟩ l1 ⟨C,dx,T,_,hC,fl⟩ (.inl rfl) λh2 l2 ⟨C',dx',T',hC',fl'⟩=>?_;obtain⟨I,C2,dx2,tb,f2,hC2,fl2,_,na,nt,sy⟩:=l2;have same:tb=some T'/\dx2=dx'/\C2=C':=by
  obtain⟨⟨oe,vs,he,c1,d1,hd,h1⟩,_⟩:=fl2;obtain⟨⟨oe',vs',he',c2,d2,hd',h1'⟩,_⟩:=fl';rw[he] at he';cases he';rw[hd] at hd';cases hd';rw[h1] at h1';rw[c1] at c2;refine⟨?_,d1.symm.trans d2,by cases c2;rfl⟩;cases tb with
  |none=>cases h1'
  |some T'=>cases h1';rfl
 obtain⟨rfl,rfl,rfl⟩:=same;exact⟨x,a,C2,dx2,some T',H',rfl,I.os,I.bare,I.base,I.hok,hC',fl',⟨na.1,na.2.1⟩,λT z=>⟨(nt T z).1,(nt T z).2.1⟩,sy,hw _ _ _ wx⟩
theorem XP.unwish{X:Cx}{F:Value->Shared->Prop}{pins:List (Addr×Obj)}{W:Exn->St->Hp->Prop}{e:Value}{s:Shared}(h:XP (X.wish F) pins W e s):XP X pins W e s:=by
 obtain⟨x,a,σ,H,e,⟨I,r⟩,w⟩:=h;exact⟨x,a,σ,H,e,⟨I.unwish,r⟩,w⟩
theorem FR(hw:How){x qual:Str}{st:Stmt}{f:Addr}{fd:FuncData}{N ps:List Str}{k:Nat}{mb:Sl->M (Fl×Sl)}(F:Fun K x qual st f fd)(S:Ac N ps (AI st))(hm:mg x=some (.ref f))(hb:Binds K fd ps [])
  (body:∀(cdv:Value) (A:Around) (outer:List Env) (s:Shared) (H:Hp) (E:XK),Room k (A.deeper (PyProof.Rows.envOfC qual (AI st) s.heap.objs.size f cdv))->XSs (BP CX0 P w K mg base N qual (AI st) f cdv A outer s H E).nox (AX st) mb) :
  FnX P w K mg base x ps (k+1) (Ey hw N.length ps.length mb):=by
 refine⟨λds μ r h=>(Ik (r:=r.1) (μ':=r.2) h).1,f,fd,?_,hm,F.kp,hb⟩;obtain⟨oc,od,kV,doc,pm,an,cdv,ct,osl,rfl,lk,hcd⟩:=F.ex;refine Uo lk hcd S (λvs H Q E h=>h.1) λA outer s H vs Q E hr h=>?_;obtain⟨hl,ι,μ,ds,r,μ',R,i,e,q⟩:=h;refine⟨λD σ H'=>tSx ⟨K,w⟩ mb D (λx _ H'=>E (.str x.1 0) x.2 H') σ H',λpins s1 σ H' D I h1=>?_,?_⟩
 ·exact AAh ((body cdv A outer s H E hr).pe pins s1 σ H' D _ (I.wish _) h1) (λ_ _ z=>SP.unwish (X:=BP (CX1 K P w) P w K mg base N qual (AI st) f cdv A outer s H E) z) λe s' z=>WF ((XP.unwish (X:=BP (CX1 K P w) P w K mg base N qual (AI st) f cdv A outer s H E) z).less λp hp=>nomatch hp) λ_ _ _ q=>q
 ·obtain⟨_,⟨x,τ2,rfl,e2⟩|⟨d,fl,τ2,μ2,rfl,e2,hfl,t⟩⟩:=Ik e
  ·exact⟨ι,μ,_,.xc x,τ2,μ',R,RelS.start i,e2,λι2 H2 E2 R2 σ2 S2=>q ι2 H2 E2 R2⟩
  ·refine⟨ι,μ,_,fl,τ2,μ2,R,RelS.start i,e2,λι2 H2 E2 R2 σ2 S2=>?_⟩;have z:Ext ι μ.length H ι2 μ'.length H2/\RelH ⟨K,w⟩ ι2 μ' H2/\∀v,Is ⟨K,w⟩ ι2 μ2.length H2 (EF fl) v->Is ⟨K,w⟩ ι2 μ'.length H2 d v:=by
    rcases t with ⟨rfl,rfl⟩|t
    ·exact⟨E2,R2,λv iv=>iv⟩
    ·exact Hk R E2 R2 t
   obtain⟨E3,R3,c⟩:=z;rcases hfl with rfl|⟨d0,rfl⟩
   ·exact q ι2 H2 E3 R3 _ (c _ (by unfold EF Is;rfl))
   ·exact λv iv=>q ι2 H2 E3 R3 v (c v iv)
end
end Xc
namespace Xc
open PySem L2 Mi
abbrev bmV:List Value:=[.type "ValueError",.type "Exception",.type "BaseException",.type "object"]
structure Ec(K:PySem.W.Frag)(c:Str)(C:Addr):Prop where
 at_:BK K c C
 ex:PySem.W.excIn K C bmV "ValueError.__new__" = true
theorem Ec.obj{K:PySem.W.Frag}{c:Str}{C:Addr}{h:Heap}(e:Ec K c C)(X:K.In h):∃bm N nm q bs hdct sn sub ab col dd k0 k1 k2 k3 k5 mN,mN "__init__" = none/\∀h',K.In h'->h'.get? C=some (excClassObj nm q C N bs bm hdct sn sub ab col dd k0 k1 k2 k3 k5 "ValueError.__new__")/\h'.Ns N mN/\OwnTail h' bmV bm:=by
 have q:=e.ex;unfold PySem.W.excIn at q;cases l:K.lookup C with
 |none=>rw[l] at q;cases q
 |some o=>
  rw[l] at q;split at q
  ·rename_i dd cd sl w;cases w;split at q
   ·rename_i C' bm k0 k1 k2 k3 n k5 h1 h2;simp only[Bool.and_eq_true,beq_iff_eq,Bool.not_eq_true'] at q;obtain⟨⟨⟨⟨⟨z1,z2⟩,z3⟩,z4⟩,z5⟩,z6⟩:=q;have hsl:sl=#[k0,k1,k2,k3,some (.builtin "ValueError.__new__"),k5]:=by
     rw[←z2];exact Array.toList_inj.mp h2
    refine⟨bm,cd.ns,cd.name,cd.qualname,cd.bases,cd.hasDict,cd.slotNames,cd.subclasses,cd.abstract,cd.collection,dd,k0,k1,k2,k3,k5,_,PySem.W.nsMap_none_of_in X z5 z6,λh' X'=>⟨?_,?_,PySem.W.tail_of_in X' z4⟩⟩
    ·rw[X' _ _ l,hsl];cases cd;dsimp only at h1 z3;subst h1 z3 z1;rfl
    ·obtain⟨o,es,ep,ho,r⟩:=(Heap.Ns.of_isNs (PySem.W.isNs_of_in X z5):h.Ns cd.ns _);unfold PySem.W.nsOkIn at z5;cases l2:K.lookup cd.ns with
     |none=>rw[l2] at z5;cases z5
     |some o2=>
      have:=X _ _ l2;rw[ho] at this;cases this;exact⟨o,es,ep,X' _ _ l2,r⟩
   ·cases q
  ·cases q
theorem LM{P:Program}{w:World}{H:Hp}{h:Heap}{a:Addr}{o:HO}(x:ObjOk P w H h a o):∃u,h.get? a=some u:=by
 cases o with
 |lst xs=>obtain⟨_,_,_,_,e⟩:=x;exact⟨_,e⟩
 |tup xs=>obtain⟨_,_,_,o,e,_⟩:=x;exact⟨o,e⟩
 |dK kvs=>obtain⟨_,_,_,_,o,_,_,e,_⟩:=x;exact⟨o,e⟩
 |dT kvs=>obtain⟨_,_,_,_,o,_,_,e,_⟩:=x;exact⟨o,e⟩
 |set S n=>obtain⟨o,_,_,_,e,_⟩:=x;exact⟨o,e⟩
 |ins C dx fs=>obtain⟨_,_,_,e,_⟩:=x;exact⟨_,e⟩
 |own y=>exact x
 |xd fs=>obtain⟨_,⟨o,_,_,e,_⟩,_⟩:=x;exact⟨o,e⟩
 |rng lo hi=>obtain⟨_,_,_,e⟩:=x;exact⟨_,e⟩
 |frz ob u=>exact⟨ob,x.1⟩
 |tbl ps=>exact⟨_,x⟩
 |met f y=>exact⟨_,x⟩
 |ext φ=>exact x.2.1
noncomputable def ME(c:Str)(m:Sl->M (List D)):Sl->M (Fl×Sl):=λτ=>bnd (m τ) λds=>bnd (lim ds.length) λ_=>ret (.xc (c,none),τ)
section
variable{Y:Cx}{x:Str}{C:Addr}{e:Expr}{es:List Expr}{np cpos pos:Pos}{m:Sl->M (List D)}
theorem PZ(cl:Ec Y.nox.K x C)(hm:Y.nox.mg x=some (.ref C))(ha:RA Y.nox (e::es) m)(hg:Gl Y.nox x:=by rfl)(hdb:(x==("__debug__" : Str))=false:=by decide)(hc:Y.nox.calm=true:=by rfl)(hx:Y.nox.ex=[]:=by rfl)
  (he:starEach (e::es) Y.nox.env=(false,eval e Y.nox.env)::starEach es Y.nox.env:=by exact Av rfl) (hpl:(backTo cpos (starEach (e::es) Y.nox.env)).any (·.1)=false:=by exact BB rfl) :
  XS Y.nox (.Raise (some (.Call (.Name x np) (e::es) [] cpos)) none pos) (ME x m):=⟨λpins s σ H Dn W I h0=>by
 obtain⟨ι,μ,τ,f,τ',μ',R,S,e0,q⟩:=h0;obtain⟨ds,μ1,e1,e2⟩:=AJ e0;obtain⟨_,μ2,e3,e4⟩:=AJ e2;obtain⟨hl,rfl⟩:=CZ e3;cases e4;obtain⟨bm,N,nm,q',bs,hdct,sn,sub,ab,col,dd,k0,k1,k2,k3,k5,mN,hni,ob⟩:=cl.obj I.kIn;refine wpAny_Raise_call_subT (C:=C) (nm:=nm) (q:=q') (N:=N) (bs:=bs) (bm:=bm) (bmB:=bmV) (hdct:=hdct) (sn:=sn) (sub:=sub) (ab:=ab) (col:=col) (dd:=dd) (k0:=k0) (k1:=k1) (k2:=k2) (k3:=k3) (k5:=k5) PySem.F.excBase_ValueError (mN:=mN) ((ob _ I.kIn).2.2.hasType (by decide +kernel)) (I.ok.hd hc) hpl hni
  (Fe I hg hm ⟨rfl,?_⟩ hdb)
 have hb:backTo cpos (starEach (e::es) Y.nox.env)=(false,(backTo cpos (starEach (e::es) Y.nox.env)).head!.2)::(backTo cpos (starEach es Y.nox.env)):=by rw[he];rfl
 rw[hb];refine PySem.Calls.evalArgs_plain ?_;rw[←hb];refine AAh (ha.pe cpos pins s σ H (λvs H1=>vs.length<=sizeLine/\W (x,none) σ H1) I ⟨ι,μ,_,ds,_,R,S,e1,λι1 H1 E1 R1 vs iv=>⟨by rw[iv.length];exact hl,q ι1 H1 E1 R1 σ (S.ext E1)⟩⟩) (λus s1 ⟨vs,H1,I1,r1,q1,q2⟩=>?_) λ_ _ z=>False.elim z;obtain⟨hC,hN,T⟩:=ob _ I1.kIn;refine⟨rfl,by rw[←r1.length];exact q1,hC,hN,T,λh' a hm=>?_⟩;obtain⟨t,h1,h2,h3⟩:=hm.there;have hH:H1 a=none:=by
  cases z:H1 a with
  |none=>rfl
  |some u=>
   obtain⟨o,w⟩:=LM (I1.hok a u z);rw[hm.new] at w;cases w
 exact⟨(x,none),a,σ,H1,rfl,⟨I1.kept (t':=s1.toks) hm.keeps,C,none,none,.none,cl.at_,⟨⟨_,_,h1,rfl,rfl,rfl,rfl⟩,(λT z=>nomatch z)⟩,.inl rfl,Inv.nw I1 hx hm.new hH,(λT z=>nomatch z),rfl⟩,q2⟩⟩
end
structure Cd(K:PySem.W.Frag)(d:Str)(Da:Addr):Prop where
 at_:BK K d Da
 ty:PySem.W.typeIn K (.ref Da)=some (.type "type")
 cl:(PySem.W.clsIn K Da).isSome=true
 ex:PySem.W.subIn K (.ref Da) (.type "BaseException")=some true
section
variable{K:PySem.W.Frag}{M:Model}{A:Around}{E:Value->Shared->Prop}{s:Shared}{Q:Bool->Shared->Prop}{a C Da:Addr}{oe:Obj}{d:Str}{b:Bool}
theorem GN{h:Heap}(X:K.In h)(z:(PySem.W.clsIn K Da).isSome=true):PySem.W.Looks M h (isType (.ref Da)) true:=by
 obtain⟨cd,e⟩:∃cd:ClassData,∃c d sl,K.lookup Da=some ⟨c,d,.cls cd,sl⟩:=by
  revert z
  unfold PySem.W.clsIn;split<;>intro z
  ·next o=>exact⟨_,_,_,_,o⟩
  ·cases z
 obtain⟨_,_,_,o⟩:=e;rintro _ _ _ ⟨_,_,_,_,_⟩ same fits;exact PySem.ks_wpAny_isType_cls (same _ _ (X _ _ o)) rfl fits
theorem MS(X:K.In s.heap)(cd:Cd K d Da)(he:s.heap.get? a=some oe)(hc:oe.cls=.ref C)(hs:PySem.W.subIn K (.ref C) (.ref Da)=some b)(q:Q b s):wpAny M A (excMatches (.ref a) (.ref Da)) Q E s:=by
 obtain⟨h,g,dr,tk,os⟩:=s;have l1:=PySem.W.looks_typeIn (M:=M) X cd.ty;have l2:=GN (M:=M) X cd.cl;have l3:=PySem.W.looks_subIn (M:=M) X cd.ex;have l4:=PySem.W.looks_subIn (M:=M) X hs;have l5:PySem.W.Looks M h (typeOf (.ref a)) (.ref C):=hc ▸ (PySem.W.Looks.ld he).andThen .now;have t0:=tc_notTuple;unfold excMatches isInstance;refine AAA (AAA (l1.at ?_));rw[t0];refine AAB ?_;simp only[Bool.false_eq_true,if_false];refine AAA (AAB ?_);unfold isExcClass;simp only[List.forIn_cons,List.forIn_nil];refine AAA (AAA (AAA (AAA (l2.at ?_))));rw[if_pos rfl];refine l3.at ?_;rw[if_neg (by decide)];refine AAB (AAB (AAA (l5.at (AAA (AAA (AAA (l4.at ?_)))))));cases b with
 |true=>
  rw[if_pos rfl];exact AAB (AAB (AAB q))
 |false=>
  rw[if_neg (by decide)];exact AAB (AAB (AAB q))
end
noncomputable abbrev hnd(X:Cx)(e:Value):Cx:={ X with A:=X.A.mark (some e),calm:=false,xe:=λ_ _=>False }
theorem V7{X:Cx}(ok:X.Ok)(e:Value):(hnd X e).Ok:=
 ⟨ok.mod,ok.kind,ok.glob,ok.blt,ok.above,ok.inj,ok.has,ok.cab,(λh=>nomatch h),ok.frames,ok.stk,ok.exf,ok.bs,ok.bsz,ok.noex,ok.exfs,ok.funs,ok.frf⟩
section
variable{X:Cx}{pins:List (Addr×Obj)}{σ:St}{H:Hp}{s:Shared}{e:Value}
theorem Inv.hnd(I:Inv X pins σ H s)(e:Value):Inv (hnd X e) pins σ H s:=⟨V7 I.ok e,I.os,I.bare,I.base,I.loc,I.cell,I.free,I.freeC,I.pin,I.hok,I.len⟩
theorem Inv.unhnd(ok:X.Ok)(I:Inv (Xc.hnd X e) pins σ H s):Inv X pins σ H s:=⟨ok,I.os,I.bare,I.base,I.loc,I.cell,I.free,I.freeC,I.pin,I.hok,I.len⟩
theorem Inv.track{a:Addr}{o:HO}(I:Inv X pins σ H s)(nw:Nw X pins H a)(hr:∃ob vs,s.heap.get? a=some ob/\ob.data=.fields vs)(new:ObjOk X.prog X.w (upd H a o) s.heap a o):Inv X pins σ (upd H a o) s:=by
 obtain⟨ob,vs,ha,hd⟩:=hr;obtain⟨nL,nC⟩:=Inv.rec_ne I ha hd;have ne:∀b u,X.s₀.heap.get? b=some u->b≠a:=λb u e z=>by rw[z,nw.1] at e;cases e
 refine⟨I.ok,I.os,I.bare,⟨I.base.keep,I.base.slot,λb u e n hx=>?_,I.base.there,λb xs e=>?_,λb u v e=>?_,λb ps e=>?_⟩,I.loc,I.cell,?_,λx c e=>?_,λp hp=>?_,λb u e=>?_,I.len⟩
 ·rw[An (ne b u e)];exact I.base.free b u e n hx
 ·have:=I.base.tups b xs e;rw[An (BM this nw.2.1)];exact this
 ·have:=I.base.frzs b u v e;rw[An (BM this nw.2.1)];exact this
 ·obtain⟨m,this⟩:=I.base.tbls b ps e;exact⟨m,by rw[An (BM this nw.2.1)];exact this⟩
 ·rw[An (Ne.symm nL)];exact I.free
 ·rw[An (nC x c e)];exact I.freeC x c e
 ·obtain⟨e1,e2,e3⟩:=I.pin p hp;exact⟨e1,by rw[An (nw.2.2 p hp)];exact e2,e3⟩
 ·by_cases hb:b=a
  ·subst hb;rw[BU] at e;cases e;exact new
  ·rw[An hb] at e;exact(I.hok b u e).stay (λc v _ q=>q) (λc q=>by rw[An (BM q nw.2.1)];exact q) λc xs q=>by rw[An (BM q nw.2.1)];exact q
theorem Fb{M:Model}{A:Around}{E:Value->Shared->Prop}{n:Str}{i:Nat}{pos:Pos}{Q:Unit->Shared->Prop}(I:Inv X pins σ H s)(hN:X.N.Nodup)(hi:X.N[i]?=some n)(hl:X.env.scope.names.lookup n=some .local)
  (q:∀s',Inv X pins (σ.set i none) H s'->Q () s'):wpAny M A (do bindName X.env n .none;unbindBehindTheSuite X.env n pos) Q E s:=by
 obtain⟨m,hn,hlc⟩:=id I.loc;have hcls:(X.env.scope.kind==.class||(X.env.scope.kind==.module&&X.env.locals != X.env.globals))=false:=by rw[I.ok.kind];rfl
 refine wpAny_nameGoes_keeps hl hn hcls λh' v hn' hs=>q _ ?_;have I0:Inv X pins (σ.set i none) H s:=I.weak (by simp) λj w e=>by
  by_cases hj:j=i
  ·subst hj;rw[List.getElem?_set] at e;simp at e
  ·rw[AAm (Ne.symm hj)] at e;exact e
 have nL:∀b,H b≠none->b≠X.env.locals:=λb z w=>z (by rw[w];exact I.free);have kp:∀b o,b≠X.env.locals->s.heap.get? b=some o->h'.get? b=some o:=λb o hb e=>(hs.2 b hb).trans e;refine⟨I.ok,I.os,I.bare,⟨λb o e n hb hx=>?_,λb o e n hb hx=>?_,I.base.free,λb o e hx=>?_,I.base.tups,I.base.frzs,I.base.tbls⟩,⟨_,hn',λj y w e1 e2 e3=>?_⟩,λy c e=>?_,I.free,I.freeC,λp hp=>?_,λb u e=>?_,by simpa using I.len⟩
 ·exact kp b o (AAd (AAN (Heap.lt_size e) I.ok.above)) (I.base.keep b o e n hb hx)
 ·obtain⟨sl,e1⟩:=I.base.slot b o e n hb hx;exact⟨sl,kp b _ (AAd (AAN (Heap.lt_size e) I.ok.above)) e1⟩
 ·obtain⟨o',e1⟩:=I.base.there b o e hx;exact⟨o',kp b _ (AAd (AAN (Heap.lt_size e) I.ok.above)) e1⟩
 ·by_cases hj:j=i
  ·subst hj;rw[List.getElem?_set] at e2;simp at e2
  ·rw[AAm (Ne.symm hj)] at e2;obtain⟨u,r,lk⟩:=hlc j y w e1 e2 e3;refine⟨u,r,?_⟩;have hy:y≠n:=λz=>hj (IH hN e1 (z ▸ hi));rcases lk with ⟨k,e⟩|⟨k,c,e,z⟩
   ·exact .inl ⟨k,by simp[hy,e]⟩
   ·exact .inr ⟨k,c,e,z.sameBut hs (I.cne y c e)⟩
 ·obtain⟨w,z⟩:=I.cell y c e;exact⟨w,z.sameBut hs (I.cne y c e)⟩
 ·obtain⟨e,n,ne,nf,d⟩:=I.pin p hp;exact⟨kp p.1 p.2 ne e,n,ne,nf,d⟩
 ·refine(I.hok b u e).stay (λc v hc q=>kp c v (nL c ?_) q) (λ_ q=>q) λ_ _ q=>q;rcases hc with rfl|hc
  ·rw[e];simp
  ·rw[hc];simp
end
noncomputable def KC(i:Nat)(mh:Sl->M (Fl×Sl))(x:Exn)(τ:Sl):M (Fl×Sl):=λμ=>bnd (mh (τ.set i (some (.ref (List.length μ))))) (λr=>ret (r.1,r.2.set i none)) (μ++[.exc x.1 x.2])
noncomputable def VG(mb:Sl->M (Fl×Sl))(i:Nat)(ok:List Str)(mh:Sl->M (Fl×Sl)):Sl->M (Fl×Sl):=λτ=>bnd (mb τ) λr=>match r.1 with
 | .xc x=>if x.1∈ok then KC i mh x r.2 else BS
 |_=>ret r
theorem RelS.clear{K:KW}{ι:Nat->Addr}{k:Nat}{H:Hp}{τ:Sl}{σ:St}(S:RelS K ι k H τ σ)(i:Nat):RelS K ι k H (τ.set i none) (σ.set i none):=by
 refine⟨by simpa using S.len,λj d e=>?_⟩;by_cases hj:i=j
 ·subst hj;rw[List.getElem?_set] at e;simp at e
 ·rw[AAm hj] at e ⊢;exact S.get j d e
def N2(K:PySem.W.Frag)(ok:List Str)(Da:Addr):Prop:=∀c∈ok,∀C,BK K c C->PySem.W.subIn K (.ref C) (.ref Da)=some true
section
variable{Y:Cx}{body suite:List Stmt}{b₀:Stmt}{d n:Str}{Da:Addr}{np hpos pos:Pos}{mb mh:Sl->M (Fl×Sl)}{ok:List Str}{i:Nat}
theorem Sj(cd:Cd Y.nox.K d Da)(hm:Y.nox.mg d=some (.ref Da))(bl:N2 Y.nox.K ok Da)(hN:Y.nox.N.Nodup)(hb:XSs Y.nox body mb)(hh:∀e:Value,RSs (hnd Y.nox e) (b₀::suite) mh)(hi:Y.nox.N[i]?=some n:=by rfl)(hl:Y.nox.env.scope.names.lookup n=some .local:=by rfl)
  (hg:Gl Y.nox d:=by rfl) (hdb:(d==("__debug__" : Str))=false:=by decide) (ow:Own Y.nox:=by exact⟨rfl,rfl,rfl⟩) (hfn:Y.nox.fn n=true:=by rfl) :
  RS Y.nox (.Try body [.ExceptHandler (some (.Name d np)) (some n) (b₀::suite) hpos] [] [] pos) (VG mb i ok mh):=⟨λpins s σ H Dn I h0=>by
 obtain⟨ι,μ,τ,f,τ',μ',R,S,e0,q⟩:=h0;obtain⟨⟨f1,τ1⟩,μ1,e1,e2⟩:=AJ e0
 let W:Exn->St->Hp->Prop:=λx σ1 H1=>f1=.xc x/\∃ι1,Ext ι μ.length H ι1 μ1.length H1/\RelH Y.nox.kw ι1 μ1 H1/\RelS Y.nox.kw ι1 μ1.length H1 τ1 σ1
 refine wpAny_Try_except (AAh (hb.pe pins s σ H Dn W I ⟨ι,μ,τ,f1,τ1,μ1,R,S,e1,λι1 H1 E1 R1 σ1 S1=>?_⟩) (λfl s1 q1=>?_) λe s1 z=>?_)
 ·cases f1 with
  |xc x=>exact⟨rfl,ι1,E1,R1,S1⟩
  |next=>cases e2;exact q ι1 H1 E1 R1 σ1 S1
  |brk=>cases e2;exact q ι1 H1 E1 R1 σ1 S1
  |cont=>cases e2;exact q ι1 H1 E1 R1 σ1 S1
  |rt d=>cases e2;exact q ι1 H1 E1 R1 σ1 S1
 ·cases fl with
  |next=>exact wpAny_execs_nil q1
  |_=>exact q1
 ·obtain⟨x,a,σ1,H1,rfl,l,rfl,ι1,E1,R1,S1⟩:=z;have e2:(if x.1∈ok then KC i mh x τ1 else BS) μ1=some ((f,τ'),μ'):=e2;by_cases hx:x.1∈ok
  ·rw[if_pos hx] at e2;obtain⟨⟨f2,τ2⟩,μ2,e3,e4⟩:=AJ e2;cases e4;refine Lies.note ow I.ok.frames l λh1 l1 ⟨C,dx,T,hC,fl1⟩=>?_;refine Lies.flight ow l1 ⟨C,dx,T,_,hC,fl1⟩ (.inl rfl) λh2 l2 ⟨C2,dx2,T2,hC2,fl2⟩=>?_;obtain⟨oe,vs,he,hc,hdx,hd,hv⟩:=id fl2.ob;refine wpAny_handleBy_cons (codeAny_handlers_test ?_) (by intro w;cases w);refine Fe (X:=hnd Y.nox (.ref a)) (Inv.hnd l2.inv (.ref a)) hg hm ?_ hdb;refine MS (l2.inv.kIn) cd he hc (bl _ hx _ hC2) ?_;rw[if_pos rfl];refine codeAny_handlers_suite_as ?_;refine Lies.flight ow l2 ⟨C2,dx2,T2,_,hC2,fl2⟩ (.inl rfl) λh3 l3 ⟨C3,dx3,T3,hC3,fl3⟩=>?_;obtain⟨I3,C4,dx4,tb4,f4,hC4,fl4,_,na,nt,sy⟩:=l3;obtain⟨oe4,vs4,he4,hc4,hdx4,hd4,_⟩:=id fl4.ob;have I4:=Inv.track I3 na ⟨oe4,vs4,he4,hd4⟩ (o:=Wh a C4 dx4) ⟨⟨oe4,vs4,he4,hc4,hdx4,hd4⟩,⟨oe4,he4⟩,λg1 g2 ⟨o,v,w1,w2⟩ k=>⟨o,v,k _ w1,w2⟩⟩;obtain⟨ι5,E5,R5,e5⟩:=R1.grown (m:=.exc x.1 x.2) na.2.1 ⟨C4,dx4,rfl,hC4,sy⟩;refine Hl (X:=hnd Y.nox (.ref a)) (Inv.hnd I4 (.ref a)) hN hi (.inl hl) (v:=.ref a) (u:=.ref a) rfl (λs5 I5=>?_) (.inl hfn);have S5:RelS Y.nox.kw ι5 (μ1++[MO.exc x.1 x.2]).length (upd H1 a (Wh a C4 dx4)) (τ1.set i (some (.ref μ1.length))) (σ1.set i (some (.ref a))):=(S1.ext E5).set i (by unfold Is;exact⟨by simp,by rw[e5]⟩);refine AAh ((hh (.ref a)).pe pins s5 _ _ { nx:=λσ' H'=>Dn.nx (σ'.set i none) H',rt:=Dn.rt,bk:=λσ' H'=>Dn.bk (σ'.set i none) H',ct:=λσ' H'=>Dn.ct (σ'.set i none) H' } I5 ⟨ι5,_,_,f2,τ2,μ',R5,S5,e3,λι6 H6 E6 R6 σ6 S6=>?_⟩) (λfl s6 q6=>?_) λ_ _ z=>False.elim z
   ·have z:=q ι6 H6 ((E1.trans E5).trans E6) R6 (σ6.set i none) (RelS.clear S6 i);cases f2 with
    |next=>exact z
    |brk=>exact z
    |cont=>exact z
    |rt d=>exact z
    |xc x=>exact z
   ·have ok0:=I.ok;cases fl with
    |next=>obtain⟨σ6,H6,I6,q6⟩:=q6;exact Fb (Inv.unhnd ok0 I6) hN hi hl λs7 I7=>⟨_,H6,I7,q6⟩
    |brk=>obtain⟨σ6,H6,I6,q6⟩:=q6;exact Fb (Inv.unhnd ok0 I6) hN hi hl λs7 I7=>⟨_,H6,I7,q6⟩
    |cont=>obtain⟨σ6,H6,I6,q6⟩:=q6;exact Fb (Inv.unhnd ok0 I6) hN hi hl λs7 I7=>⟨_,H6,I7,q6⟩
    |ret u=>obtain⟨v,σ6,H6,I6,r6,q6⟩:=q6;exact Fb (Inv.unhnd ok0 I6) hN hi hl λs7 I7=>⟨v,_,H6,I7,r6,q6⟩
  ·rw[if_neg hx] at e2;cases e2⟩
end
structure Ea(K:PySem.W.Frag)(C:Addr):Prop where
 ga:PySem.W.findIn K (.ref C) "__getattribute__" = some (some (.builtin "BaseException.__getattribute__"))
 gh:PySem.W.findIn K (.ref C) "__getattr__" = some none
 cl:PySem.W.findIn K (.ref C) "__class__" = some (some (.builtin "object.__class__"))
 dg:PySem.W.specialIn K (.builtin "object.__class__") "__get__" = some (some (.builtin "getset_descriptor.__get__"))
 tk:PySem.W.takesIn K (.builtin "object.__class__")=some true
 mo:PySem.W.mroIn K C (.type "object")=some true
 mb:PySem.W.subIn K (.ref C) (.type "BaseException")=some true
 cs:(PySem.W.clsIn K C).isSome=true
section
variable{prog:Program}{w:World}{A:Around}{E:Value->Shared->Prop}{s:Shared}{K:PySem.W.Frag}{a C:Addr}{ox:Obj}{od:Option Obj}
open PySem.W in
theorem PB(f:Ea K C):findObj K C od "__class__" = some (.bind (.builtin "getset_descriptor.__get__") (.builtin "object.__class__")):=by
 cases e:PySem.W.clsIn K C with
 |none=>exact absurd f.cs (by rw[e];decide)
 |some cd=>simp only[findObj,e,f.cl,Option.bind_some,f.dg,f.tk]
open PySem.W in
theorem Mg{Q:Value->Shared->Prop}(X:K.In s.heap)(I:InstAt s.heap a ox C od)(f:Ea K C){n:Nat}(q:Q (.ref C) s):wpAny (model prog w) A (call (.builtin "BaseException.__getattribute__") [.ref a,.str "__class__" n]) Q E s:=by
 have hty:=I.type (M:=model prog w);have hsb:=looks_subIn (M:=model prog w) X f.mb;have hfd:=looks_find (M:=model prog w) X I (PB f);refine wpAny_call (codeAny_call_builtin PySem.F.attr_ValueError.ga.plain PySem.F.entry_bexc_ga ?_);simp only[checkBuiltinCall,show builtinKind "BaseException.__getattribute__" = some .slot by decide +kernel,show splitId "BaseException.__getattribute__" = some ("BaseException", "__getattribute__") by decide +kernel,isInstance]
 repeat (any_goals (first|assumption|with_reducible refine hfd.at ?_|with_reducible refine hty.at ?_|with_reducible refine hsb.at ?_|with_reducible refine wpAny_of_eq (a:=()) (PySem.F.args_bexc_ga (.ref a) (.str "__class__" n)) ?_|wp_step))
 refine class_get (ox:=ox) (od:=od) X I f.mo ?_;exact AAB q
open PySem.W in
theorem O3{Q:Option Value->Shared->Prop}(X:K.In s.heap)(I:InstAt s.heap a ox C od)(f:Ea K C)(h:Q (some (.ref C)) { s with toks:=s.toks+1 }):wpAny (model prog w) A (getAttr? (.ref a) "__class__") Q E s:=by
 cases s with|mk hp gs dr tk out=>
 have hty:=I.type (M:=model prog w);have hga:=looks_findIn (M:=model prog w) X f.ga;have hgh:=looks_findIn (M:=model prog w) X f.gh;simp only[getAttr?,getAttrBy?,getAttrBy]
 repeat (first|with_reducible refine hty.at ?_|with_reducible refine hga.at ?_|with_reducible refine hgh.at ?_|wp_step)
 rw[PySem.F.attr_ValueError.ga.bind (.ref a)];refine AAB (Mg (s:=⟨hp,gs,dr,tk+1,out⟩) X I f ?_);exact handed_on rfl (AAB h)
theorem KR(f:Ea K C):PySem.W.KitX K (.ref a) (.ref C) (λh=>∃ox od,PySem.W.InstAt h a ox C od) where
 ty:=λ_ _ _ ⟨_,_,I⟩=>I.type
 it:=λ_ _ X _=>GN X f.cs
 ne:=λh tp dd its n sl X htp=>by
  have z:=f.cs;unfold PySem.W.clsIn at z;split at z
  ·rename_i ho;have e:=X _ _ ho;refine Bool.eq_false_iff.mpr λq=>?_;have q:Value.ref C=.ref tp:=beq_iff_eq.mp q;cases q;rw[htp] at e;cases e
  ·cases z
 ca:=λX ⟨_,_,I⟩ k=>O3 X I f k
end
noncomputable def LR(tab:List (Str×Bool))(ma:Sl->M D):Sl->M D:=λτ=>bnd (ma τ) λd μ=>match d with
 | .ref n=>match μ[n]? with
  |some (.exc c _)=>match tab.lookup c with
   |some b=>some (.bl b,μ)
   |none=>none
  |_=>none
 |_=>none
theorem Gq{tab:List (Str×Bool)}{ma:Sl->M D}{τ:Sl}{μ μ':Mh}{d:D}(h:LR tab ma τ μ=some (d,μ')):∃n c k b,ma τ μ=some (.ref n,μ')/\μ'[n]?=some (.exc c k)/\tab.lookup c=some b/\d=.bl b:=by
 obtain⟨x,μ1,e1,e⟩:=AJ h;split at e
 ·rename_i n;split at e
  ·rename_i c k hq;split at e
   ·rename_i b hb;cases e;exact⟨n,c,k,b,e1,hq,hb,rfl⟩
   ·cases e
  ·cases e
 ·cases e
structure Tb(K:PySem.W.Frag)(tab:List (Str×Bool))(vs:List Value):Prop where
 ok:∀c b,tab.lookup c=some b->∀C,BK K c C->Ea K C/\PySem.W.kitAny K (.ref C) vs=some b
section
variable{X:Cx}{e:Expr}{p q pos:Pos}{tab:List (Str×Bool)}{ma:Sl->M D}{x:Str}
theorem KZ{K:PySem.W.Frag}{w:World}{P:Program}{ι:Nat->Addr}{μ:Mh}{H:Hp}{h:Heap}{n:Nat}{c:Str}{k:Option Nat}(R:RelH ⟨K,w⟩ ι μ H)(hok:HOk P w H h)(hq:μ[n]?=some (.exc c k)):∃C,BK K c C/\∃ox od,PySem.W.InstAt h (ι n) ox C od:=by
 obtain⟨u,h1,C,dx,rfl,hC,sy⟩:=R.obj n _ hq;obtain⟨⟨oe,vs,e1,e2,e3,e4⟩,_⟩:=hok _ _ h1;refine⟨C,hC,oe,?_⟩;have no:PySem.W.notCls oe=true:=by unfold PySem.W.notCls;rw[e4]
 cases k with
 |none=>exact⟨none,e1,e2,no,by rw[e3,show dx=none from sy];trivial⟩
 |some i=>
  obtain⟨d,rfl,hd⟩:=sy;obtain⟨o,ho⟩:=LM (hok _ _ hd);exact⟨some o,e1,e2,no,by rw[e3];exact ho⟩
theorem Nc{K:PySem.W.Frag}{t v:Value}{b:Bool}(h:PySem.W.kitAny K t [v]=some b):PySem.W.kitOne K t v=some b:=by
 unfold PySem.W.kitAny at h;cases e:PySem.W.kitOne K t v with
 |none=>rw[e] at h;cases h
 |some z=>
  rw[e] at h;cases z with
  |true=>exact h
  |false=>exact h
theorem VO{Da:Addr}(hy:X.mg "isinstance" = none)(ha:RE X e ma)(hm:X.mg x=some (.ref Da))(tb:Tb X.K tab [.ref Da])(hg:Gl X x:=by rfl)(hgi:Gl X "isinstance" := by rfl)(hdb:(x==("__debug__" : Str))=false:=by decide)
  (h1:starEach [e,.Name x q] X.env=(false,eval e X.env)::starEach [.Name x q] X.env:=by exact Av rfl):RE X (.Call (.Name "isinstance" p) [e,.Name x q] [] pos) (LR tab ma):=by
 refine RE.wk (FJ (r:=λxs H Q=>∃a b,xs=[.ref a,.ref Da]/\(∀h,HOk X.prog X.w H h->∃C,Ea X.K C/\PySem.W.kitOne X.K (.ref C) (.ref Da)=some b/\∃ox od,PySem.W.InstAt h a ox C od)/\Q (.bl b) H) (λpins s σ H xs us Q I r h=>?_) hgi hy Mi.A1 (DO ha.pe (DO (GJ hg hm (v:=.ref Da) rfl hdb) Fw rfl) h1) (by decide) (by decide) h1 (BB rfl)) λσ H Q h=>?_
 ·obtain⟨a,b,rfl,hi,q⟩:=h;obtain⟨u1,u2,rfl,r1,r2⟩:=Vals.two r;cases r1;cases r2;obtain⟨C,f,kit,I'⟩:=hi _ I.hok;exact PySem.W.kia_one (KR f) I.kIn I' kit (λz=>nomatch z) λtk=>⟨.bl b,H,I.tok _,rfl,q⟩
 ·obtain⟨ι,μ,τ,d,μ',R,S,e,q⟩:=h;obtain⟨n,c,k,b,e1,hq,hb,rfl⟩:=Gq e;refine⟨ι,μ,τ,.ref n,μ',R,S,e1,λι1 H1 E1 R1 v iv=>?_⟩;unfold Is at iv;obtain⟨_,rfl⟩:=iv;refine⟨ι1 n,b,rfl,λh hok=>?_,q ι1 H1 E1 R1 _ (by unfold Is;rfl)⟩;obtain⟨C,hC,I'⟩:=KZ R1 hok hq;obtain⟨f,kit⟩:=tb.ok c b hb C hC;exact⟨C,f,Nc kit,I'⟩
end
section
variable{X:Cx}{e:Expr}{es:List Expr}{p q pos:Pos}{tab:List (Str×Bool)}{ma:Sl->M D}{x:Str}
theorem So{T:String}(hy:X.mg "isinstance" = none)(ha:RE X e ma)(hb:RE X (.Name x q) (mC (.ty T)))(tb:Tb X.K tab [.type T])(hgi:Gl X "isinstance" := by rfl)
  (h1:starEach [e,.Name x q] X.env=(false,eval e X.env)::starEach [.Name x q] X.env:=by exact Av rfl):RE X (.Call (.Name "isinstance" p) [e,.Name x q] [] pos) (LR tab ma):=by
 refine RE.wk (FJ (r:=λxs H Q=>∃a b,xs=[.ref a,.ty T]/\(∀h,HOk X.prog X.w H h->∃C,Ea X.K C/\PySem.W.kitOne X.K (.ref C) (.type T)=some b/\∃ox od,PySem.W.InstAt h a ox C od)/\Q (.bl b) H) (λpins s σ H xs us Q I r h=>?_) hgi hy Mi.A1 (DO ha.pe (DO hb.pe Fw rfl) h1) (by decide) (by decide) h1 (BB rfl)) λσ H Q h=>?_
 ·obtain⟨a,b,rfl,hi,q⟩:=h;obtain⟨u1,u2,rfl,r1,r2⟩:=Vals.two r;cases r1;cases r2;obtain⟨C,f,kit,I'⟩:=hi _ I.hok;exact PySem.W.kia_one (KR f) I.kIn I' kit (λz=>nomatch z) λtk=>⟨.bl b,H,I.tok _,rfl,q⟩
 ·obtain⟨ι,μ,τ,d,μ',R,S,e,q⟩:=h;obtain⟨n,c,k,b,e1,hq,hb,rfl⟩:=Gq e;refine⟨ι,μ,τ,.ref n,μ',R,S,e1,λι1 H1 E1 R1 v iv=>⟨ι1,μ',τ,.ty T,μ',R1,S.ext E1,rfl,λι2 H2 E2 R2 v2 iv2=>?_⟩⟩;have iv:=iv.ext E2;unfold Is at iv iv2;obtain⟨_,rfl⟩:=iv;subst iv2;refine⟨ι2 n,b,rfl,λh hok=>?_,q ι2 H2 (E1.trans E2) R2 _ (by unfold Is;rfl)⟩;obtain⟨C,hC,I'⟩:=KZ R2 hok hq;obtain⟨f,kit⟩:=tb.ok c b hb C hC;exact⟨C,f,Nc kit,I'⟩
structure NM(X:Cx)(es:List Expr)(Ds:List Addr):Prop where
 pe:PA X es (λ_ H Q=>Q (Ds.map V.ref) H)
theorem WC:NM X [] []:=⟨Fw⟩
theorem Eh{Da:Addr}{Ds:List Addr}(hm:X.mg x=some (.ref Da))(h:NM X es Ds)(hg:Gl X x:=by rfl)(hdb:(x==("__debug__" : Str))=false:=by decide):NM X (.Name x q::es) (Da::Ds):=
 ⟨PA.wk (DO (GJ hg hm (v:=.ref Da) rfl hdb) h.pe (Av rfl)) λ_ _ _ z=>z⟩
theorem NH:∀{Ds:List Addr} {us:List Value},Vals (Ds.map V.ref) us->us=Ds.map Value.ref
 |[],_,.nil=>rfl
 |_::_,_,.cons r t=>by cases r;rw[NH t];rfl
theorem Sn{x1:Nat}{Ds:List Addr}(hy:X.mg "isinstance" = none)(ha:RE X e ma)(nm:NM X es Ds)(tb:Tb X.K tab (Ds.map Value.ref))(hl:Ds.length<=100:=by exact AAE rfl)(hgi:Gl X "isinstance" := by rfl)
  (h1:starEach [e,.Tuple es x1 q] X.env=(false,eval e X.env)::starEach [.Tuple es x1 q] X.env:=by exact Av rfl):RE X (.Call (.Name "isinstance" p) [e,.Tuple es x1 q] [] pos) (LR tab ma):=by
 refine RE.wk (FJ (r:=λxs H Q=>∃a t b,xs=[.ref a,.ref t]/\H t=some (.tup (Ds.map V.ref))/\(∀h,HOk X.prog X.w H h->∃C,Ea X.K C/\PySem.W.kitAny X.K (.ref C) (Ds.map Value.ref)=some b/\∃ox od,PySem.W.InstAt h a ox C od)/\Q (.bl b) H) (λpins s σ H xs us Q I r h=>?_) hgi hy Mi.A1 (DO ha.pe (DO (Qs nm.pe) Fw rfl) h1) (by decide) (by decide) h1 (BB rfl)) λσ H Q h=>?_
 ·obtain⟨a,t,b,rfl,ht,hi,q⟩:=h;obtain⟨u1,u2,rfl,r1,r2⟩:=Vals.two r;cases r1;cases r2;obtain⟨C,f,kit,I'⟩:=hi _ I.hok;obtain⟨_,its,r,⟨o,g1,g2,n,g3⟩⟩:=I.hok _ _ ht;rw[NH r] at g3;obtain⟨oc,od,odt,osl⟩:=o;dsimp only at g2 g3;subst g2 g3;exact PySem.W.kia_tup (KR f) I.kIn I' g1 kit (λz=>nomatch z) λtk=>⟨.bl b,H,I.tok _,rfl,q⟩
 ·obtain⟨ι,μ,τ,d,μ',R,S,e,q⟩:=h;obtain⟨n,c,k,b,e1,hq,hb,rfl⟩:=Gq e;refine⟨ι,μ,τ,.ref n,μ',R,S,e1,λι1 H1 E1 R1 v iv=>⟨by rw[AAG];exact AAr hl (by decide),λt ht=>?_⟩⟩;obtain⟨E2,R2⟩:=R1.laid (.tup (Ds.map V.ref)) ht;unfold Is at iv;obtain⟨_,rfl⟩:=iv;refine⟨ι1 n,t,b,rfl,BU,λh hok=>?_,q ι1 _ (E1.trans E2) R2 _ (by unfold Is;rfl)⟩;obtain⟨C,hC,I'⟩:=KZ R2 hok hq;obtain⟨f,kit⟩:=tb.ok c b hb C hC;exact⟨C,f,kit,I'⟩
end
section
variable{K:PySem.W.Frag}{c d:Str}{C Da:Addr}{b:Bool}{vs:List Value}
theorem Ff{C':Addr}(a:PySem.W.nsIn K mainGlobals c=some (some (.ref C)))(h:BK K c C'):C'=C:=by
 unfold BK at h;rw[a] at h;cases h;rfl
theorem cls_mk(a:PySem.W.nsIn K mainGlobals c=some (some (.ref C))):∃C,BK K c C:=⟨C,a⟩
theorem ec_mk(a:PySem.W.nsIn K mainGlobals c=some (some (.ref C)))(q:PySem.W.excIn K C bmV "ValueError.__new__" = true):∀C,BK K c C->Ec K c C:=λC' h=>by
 obtain rfl:=Ff a h;exact⟨h,q⟩
theorem cd_mk(a:PySem.W.nsIn K mainGlobals d=some (some (.ref Da)))(t:PySem.W.typeIn K (.ref Da)=some (.type "type"))(l:PySem.W.isClsIn K Da=true)(s:PySem.W.subIn K (.ref Da) (.type "BaseException")=some true):∀C,BK K d C->Cd K d C:=λC' h=>by
 obtain rfl:=Ff a h;exact⟨h,t,l,s⟩
theorem bl_mk(a:PySem.W.nsIn K mainGlobals c=some (some (.ref C)))(e:PySem.W.nsIn K mainGlobals d=some (some (.ref Da)))(s:PySem.W.subIn K (.ref C) (.ref Da)=some true):∀D',BK K d D'->N2 K [c] D':=λD' h c' hc C' h'=>by
 obtain rfl:=Ff e h;obtain rfl:=AAL.mp hc;obtain rfl:=Ff a h';exact s
theorem ea_mk(h1:PySem.W.findIn K (.ref C) "__getattribute__" = some (some (.builtin "BaseException.__getattribute__")))(h2:PySem.W.findIn K (.ref C) "__getattr__" = some none)(h3:PySem.W.findIn K (.ref C) "__class__" = some (some (.builtin "object.__class__")))
  (h4:PySem.W.specialIn K (.builtin "object.__class__") "__get__" = some (some (.builtin "getset_descriptor.__get__"))) (h5:PySem.W.takesIn K (.builtin "object.__class__")=some true) (h6:PySem.W.mroIn K C (.type "object")=some true) (h7:PySem.W.subIn K (.ref C) (.type "BaseException")=some true)
  (h8:PySem.W.isClsIn K C=true):Ea K C:=⟨h1,h2,h3,h4,h5,h6,h7,h8⟩
noncomputable def NsL(K:PySem.W.Frag):List Str->List Addr->Prop
 |[],Ds=>Ds=[]
 |c::cs,Ds=>∃C r,Ds=C::r/\BK K c C/\NsL K cs r
theorem NsL.nil:NsL K [] []:=rfl
theorem NsL.cons{cs:List Str}{Ds:List Addr}(h:BK K c C)(r:NsL K cs Ds):NsL K (c::cs) (C::Ds):=⟨C,Ds,rfl,h,r⟩
theorem tb_mk(a:PySem.W.nsIn K mainGlobals c=some (some (.ref C)))(f:Ea K C)(k:PySem.W.kitAny K (.ref C) vs=some b):Tb K [(c,b)] vs:=⟨λc' b' h C' h'=>by
 have e:c'=c/\b'=b:=by
  unfold List.lookup at h;split at h
  ·rename_i z;have z:c'=c:=eq_of_beq z;cases h;exact⟨z,rfl⟩
  ·cases h
 obtain⟨rfl,rfl⟩:=e;obtain rfl:=Ff a h';exact⟨f,k⟩⟩
noncomputable def NsV(K:PySem.W.Frag):List Str->List Value->Prop
 |[],vs=>vs=[]
 |c::cs,vs=>∃C r,vs=.ref C::r/\BK K c C/\NsV K cs r
theorem NsV.nil:NsV K [] []:=rfl
theorem NsV.cons{cs:List Str}{vs:List Value}(h:PySem.W.nsIn K mainGlobals c=some (some (.ref C)))(r:NsV K cs vs):NsV K (c::cs) (.ref C::vs):=⟨C,vs,rfl,h,r⟩
theorem NsV.one:∀{cs:List Str} {vs:List Value} {Es:List Addr},NsV K cs vs->NsL K cs Es->Es.map Value.ref=vs
 |[],_,_,h,h'=>by rw[show _=[] from h,show _=[] from h'];rfl
 |_::_,_,_,⟨C,r,e,h,t⟩,⟨C',r',e',h',t'⟩=>by
  obtain rfl:=Ff h h';rw[e,e',AAX,NsV.one t t']
theorem tbT_mk{cs:List Str}{vs:List Value}(a:PySem.W.nsIn K mainGlobals c=some (some (.ref C)))(l:NsV K cs vs)(f:Ea K C)(k:PySem.W.kitAny K (.ref C) vs=some b):∀Es,NsL K cs Es->Tb K [(c,b)] (Es.map Value.ref):=λEs h=>by
 rw[NsV.one l h];exact tb_mk a f k
end
noncomputable def isS:D->Bool
 | .str _=>true
 |_=>false
noncomputable def Ba:D->Bool
 | .non | .bl _ | .int _ | .str _ | .tup _ | .lst _=>true
 |_=>false
noncomputable def eqS(y:D)(v:Value):Bool:=match v,y with
 | .str x _,.str a=>x==a
 |_,_=>false
noncomputable def RV(y d:D):M D:=bnd (Bw d) λds=>λμ=>if ds.all isS=true/\Ba y=true then some (.bl (ds.any λz=>decide (z=y)),μ) else none
theorem Ki{K:KW}{ι:Nat->Addr}{k:Nat}{H:Hp}{y:D}:∀{ds:List D} {vs:List V} {us:List Value},IsL K ι k H ds vs->Vals vs us->ds.all isS=true->us.any (eqS y)=ds.any (λz=>decide (z=y))/\∀v∈us,∃x t,v=.str x t
 |[],_,_,h,r,_=>by
  unfold Mi.IsL at h;subst h;cases r;exact⟨rfl,λv hv=>nomatch hv⟩
 |d::ds,_,_,h,r,ha=>by
  unfold Mi.IsL at h;obtain⟨v,vs',rfl,h1,h2⟩:=h;rw[List.all_cons,Bool.and_eq_true] at ha;cases r with
  |cons r1 r2=>
   obtain⟨e,m⟩:=Ki h2 r2 ha.2;cases d with
   |str x=>
    unfold Is at h1;subst h1;obtain⟨t,rfl⟩:=r1;refine⟨?_,λv hv=>(AAJ.mp hv).elim (λz=>⟨x,t,z⟩) (m v)⟩;rw[List.any_cons,List.any_cons,e];congr 1;cases y with
    |str a=>
     show (x==a)=decide (D.str x=D.str a);by_cases hx:x=a
     ·rw[hx,AAP rfl];exact beq_self_eq_true a
     ·rw[AAe.mpr hx,AAO λz=>hx (by cases z;rfl)]
    |_=>rfl
   |_=>cases ha.1
theorem Ri{X:Cx}{A:Around}{pins:List (Addr×Obj)}{σ:St}{H:Hp}{s:Shared}{ι:Nat->Addr}{k:Nat}{y:D}{v:V}{u w:Value}(hu:A.units<cLine)(I:Inv X pins σ H s)(iy:Is X.kw ι k H y v)(r:RelV v u)(hy:Ba y=true)(hw:∃x t,w=.str x t):SeqAt.EqAt A s w u (eqS y w):=by
 obtain⟨x,t,rfl⟩:=hw;cases y with
 |non=>unfold Is at iy;subst iy;cases r;exact SeqAt.EqAt.str_none x t
 |bl b=>unfold Is at iy;subst iy;cases r;exact SeqAt.EqAt.str_bool x t b
 |int i=>unfold Is at iy;subst iy;obtain⟨t',rfl⟩:=r;exact SeqAt.EqAt.str_int x t i t'
 |str a=>unfold Is at iy;subst iy;obtain⟨t',rfl⟩:=r;exact SeqAt.EqAt.str_str x t a t'
 |tup ds=>
  unfold Is at iy;obtain⟨p,vs,rfl,h1,_⟩:=iy;cases r;obtain⟨its,_,pl,_⟩:=I.tuple h1;exact SeqAt.EqAt.str_tuple x t pl hu
 |lst ds=>
  unfold Is at iy;obtain⟨p,vs,rfl,h1,_⟩:=iy;cases r;obtain⟨its,_,pl,_⟩:=I.list (SqL.of h1);exact SeqAt.EqAt.str_list x t pl.isList hu
 |_=>cases hy
theorem Uf{X:Cx}{k:Nat}(hr:Room k X.A):OpR X (compareOp .In) (rM X.kw RV):=λpins s σ H x y v u Q I rx ry h=>by
 obtain⟨ι,μ,a,b,d,μ',R,ia,ib,e,q⟩:=h;obtain⟨ds,μ1,e1,e2⟩:=AJ e;obtain⟨hm,p,vs,rfl,h1,h2⟩:=EX R ib e1;subst hm;split at e2
 ·rename_i hz;cases e2;cases ry;have hu:X.A.in1.units<cLine:=AAq (Nat.le_add_right _ 8) (Xe hr);rcases h1 with h1|h1
  ·obtain⟨its,rv,pl,_⟩:=I.list h1;obtain⟨e3,hm⟩:=Ki (y:=a) h2 rv hz.1;refine PySem.SeqAt.in_listAt (eqS a) pl.isList (λw hw=>Ri hu I ia rx hz.2 (hm w (by simpa using hw))) ⟨.bl _,H,I,rfl,?_⟩;rw[show its.toArray.any (eqS a)=its.any (eqS a) by simp,e3];exact q ι H R.ext0 R _ (ofB _)
  ·obtain⟨its,rv,pl,_⟩:=I.tuple h1;obtain⟨e3,hm⟩:=Ki (y:=a) h2 rv hz.1;refine PySem.SeqAt.in_tupleAt (eqS a) pl (λw hw=>Ri hu I ia rx hz.2 (hm w (by simpa using hw))) ⟨.bl _,H,I,rfl,?_⟩;rw[show its.toArray.any (eqS a)=its.any (eqS a) by simp,e3];exact q ι H R.ext0 R _ (ofB _)
 ·cases e2
end Xc
namespace K3
open PySem L2 Mi K1 Xc
noncomputable def GL  : Sl->M (Fl×Sl):=
  (sIf (JA (AY (AD 0))) (ME "NoMaking" (AB (AD 1) AH)) BW)
noncomputable def B9(Zc:List D->M Dx)(Zd:List D->M D):Sl->M (Fl×Sl):=
  (AR (Bb (Bd Zc (AB (mOp RV (AD 0) (mC Kk)) (AB (mC (.str "a kind is safe, steady or whole")) AH))))
  (AR (Bb (Bd Zc (AB (AF Zd (AB (AD 1) (AB (mC Ep) (AB (mC FT) AH)))) (AB (mC (.str "a size is a whole number from 2 to 10")) AH))))
  (Bb (Bd Zc (AB (AF Zd (AB (AD 2) (AB (mC (.int 0)) (AB (mOp D9 (AD 1) (mC (.int 1))) AH)))) (AB (mC (.str "a begin is a worth of its box")) AH))))))
noncomputable def CN(Zc:List D->M Dx)(Zb:List D->M D)(Ze:List D->M D)(Zl:List D->M Dx)(Zs:List D->M D):Sl->M (Fl×Sl):=
  (AR (Bb (Bd Zc (AB (AF Zb (AB (AD 0) (AB (mC (.int 0)) (AB (mC Eo) AH)))) (AB (mC (.str "boxes are a tuple of at most six")) AH))))
  (AR (Ef (De (AD 0)) (AN 1) (AR (Bb (Bd Zc (AB (AF Zb (AB (AD 1) (AB (mC (.int 5)) (AB (mC (.int 5)) AH)))) (AB (mC (.str "a box is a tuple of five parts")) AH))))
  (AR (Bb (Bd Zc (AB (AF Ze (AB (mOp AV (AD 1) (mC (.int 0))) AH)) (AB (mC (.str "a box has a name")) AH))))
  (Bb (Bd Zl (AB (mOp AV (AD 1) (mC (.int 1))) (AB (mOp AV (AD 1) (mC (.int 2))) (AB (mOp AV (AD 1) (mC (.int 3))) AH))))))))
  (Bb (Bd Zc (AB (AF Zs (AB (B0 1 [] (De (AD 0)) (AN 0) Bz (mOp AV (AD 0) (mC (.int 0))) Aq) AH)) (AB (mC (.str "two boxes have one name")) AH))))))
noncomputable def CM(Zc:List D->M Dx)(Zb:List D->M D)(Ze:List D->M D)(Zd:List D->M D)(Zs:List D->M D):Sl->M (Fl×Sl):=
  (AR (Bb (Bd Zc (AB (AF Zb (AB (AD 0) (AB (mC EH) (AB (mC En) AH)))) (AB (mC (.str "hands are a tuple of two to four")) AH))))
  (AR (Ef (De (AD 0)) (AN 1) (AR (Bb (Bd Zc (AB (AF Zb (AB (AD 1) (AB (mC (.int 3)) (AB (mC (.int 3)) AH)))) (AB (mC (.str "a hand is a tuple of three parts")) AH))))
  (AR (Bb (Bd Zc (AB (AF Ze (AB (mOp AV (AD 1) (mC (.int 0))) AH)) (AB (mC (.str "a hand has a name")) AH))))
  (AR (Bb (Bd Zc (AB (AF Zd (AB (mOp AV (AD 1) (mC (.int 1))) (AB (mC (.int 0)) (AB (mC EG) AH)))) (AB (mC (.str "a told count is a whole number from 0 to 400")) AH))))
  (Bb (Bd Zc (AB (AF Zb (AB (mOp AV (AD 1) (mC (.int 2))) (AB (mC (.int 0)) (AB (mC FU) AH)))) (AB (mC (.str "rows are a tuple of at most sixty")) AH))))))))
  (Bb (Bd Zc (AB (AF Zs (AB (B0 1 [] (De (AD 0)) (AN 0) Bz (mOp AV (AD 0) (mC (.int 0))) Aq) AH)) (AB (mC (.str "two hands have one name")) AH))))))
noncomputable def Be(Zc:List D->M Dx)(Zb:List D->M D)(Zl:List D->M Dx)(ai:List D->M Dx)(aj:List D->M Dx)(bQ:List D->M D):Sl->M (Fl×Sl):=
  (AR (Bb (Bd Zc (AB (AF Zb (AB (AD 0) (AB (mC (.int 5)) (AB (mC (.int 5)) AH)))) (AB (mC (.str "a making is a tuple of five parts")) AH))))
  (AR (Bb (Bd Zl (AB (mOp AV (AD 0) (mC (.int 0))) (AB (mOp AV (AD 0) (mC (.int 1))) (AB (mOp AV (AD 0) (mC (.int 2))) AH)))))
  (AR (Bb (Bd ai (AB (mOp AV (AD 0) (mC (.int 3))) AH)))
  (AR (Bb (Bd aj (AB (mOp AV (AD 0) (mC (.int 4))) AH)))
  (AR (Ai (B0 1 [] (De (mOp AV (AD 0) (mC (.int 4)))) (AN 0) Bz (mOp AV (AD 0) (mC (.int 0))) Aq) (AN 1))
  (AR (Ai WD (AN 2))
  (AR (Ef (De (mOp AV (AD 0) (mC (.int 3)))) (AN 3) (AR (Bb (Bd Zc (AB (mOp RV (mOp AV (AD 3) (mC (.int 4))) (AD 1)) (AB (mC (.str "the hand of a box is none")) AH))))
  (LH (AD 2) (mOp AV (AD 3) (mC (.int 0))) (mOp AV (AD 3) (mC (.int 4))))))
  (Ef (MV (AB (mOp AV (AD 0) (mC (.int 4))) AH)) (G5 [4,5]) (BE (AF bQ (AB (AD 5) (AB (mOp A7 (AD 4) (mC (.int 0))) (AB (AD 2) AH)))))))))))))
noncomputable def m_Lmaking(ZW:List D->M D)(dy:List D->M D):Sl->M (Fl×Sl):=
  (AR (Ai (AF Aq (AB (mC (.str "w")) (AB (mC (.str "r")) (AB (mC (.str "put")) (AB (mC (.str "makes")) (AB (mC (.str "box")) (AB (mC (.str "hand")) (AB (mC (.str "abcdefgh")) (AB (mC (.str "z")) (AB (mC (.str "not")) (AB (mC (.str "v")) (AB (mC (.str "safe")) (AB (mC (.str "x")) AH))))))))))))) (AN 1))
  (AR (Ai (AF ZW (AB (AD 0) (AB (mC (.int 12)) AH))) (AN 2))
  (AR (Ai (mOp Ag (DU (AD 1) (BT (AD 2)) BC) (DU (AD 1) BC (BT (AD 2)))) (AN 1))
  (AR (Ai (DU (AD 1) BC (BT (mOp Ag (mC (.int 2)) (AF ZW (AB (AD 0) (AB (mC (.int 3)) AH)))))) (AN 3))
  (AR (Ai (AF IK AH) (AN 4))
  (AR (Ef (NU (AB (AF ZW (AB (AD 0) (AB (mC (.int 7)) AH))) AH)) (AN 5) (AR (Ai (mOp Ag (mC (.int 2)) (AF ZW (AB (AD 0) (AB (mC (.int 9)) AH)))) (AN 6))
  (AR (Ai (mOp AV (AF Aq (AB (mC (.str "safe")) (AB (mC (.str "steady")) (AB (mC (.str "whole")) AH)))) (AF ZW (AB (AD 0) (AB (mC (.int 3)) AH)))) (AN 7))
  (BE (Dt Mn (AD 4) (AB (AF AZ (AB (mOp AV (AD 1) (mOp D9 (mC (.int 11)) (AD 5))) (AB (AD 7) (AB (AD 6) (AB (AF ZW (AB (AD 0) (AB (AD 6) AH))) (AB (mOp AV (AD 3) (AF ZW (AB (AD 0) (AB (AF Bs (AB (AD 3) AH)) AH)))) AH)))))) AH))))))
  (AR (Ai (AF IK AH) (AN 8))
  (AR (Ai (AF ZW (AB (AD 0) (AB (mOp Dq (mC (.int 9)) (AF Bs (AB (AD 3) AH))) AH))) (AN 9))
  (AR (Ef (NW (AB (AD 3) AH)) (G5 [5,10]) (AR (Ai (mOp AV (AF Aq (AB (mC (.int 0)) (AB (mC (.int 1)) (AB (mC (.int 3)) (AB (mC (.int 5)) (AB (mC (.int 7)) AH)))))) (AF ZW (AB (AD 0) (AB (mC (.int 5)) AH)))) (AN 11))
  (AR (sIf (AY (mOp A7 (AD 5) (AD 9))) (Ai (mC (.int 60)) (AN 11)) BW)
  (AR (Ai (B0 1 [10] (IN (AD 4)) (AN 0) (AY (mOp A7 (mOp AV (AD 0) (mC (.int 4))) (AD 1))) (mOp AV (AD 0) (mC (.int 0))) Aq) (AN 12))
  (AR (Ai (DU (AF Aq (AB (mC (.str "x")) (AB (mC (.str "abcdefgh")) (AB (mC (.str "tell")) (AB (mC (.str "vv")) (AB (mC (.str "if")) AH)))))) BC (BT (mOp Ag (mC (.int 1)) (AF ZW (AB (AD 0) (AB (mC (.int 5)) AH)))))) (AN 13))
  (AR (Ai (B0 1 [4,5,11,12,13,0] (NU (AB (AD 11) AH)) (AN 0) Bz (AF dy (AB (AD 6) (AB (AD 4) (AB (B0 1 [] (IN (AD 1)) (AN 0) Bz (mOp AV (AD 0) (mC (.int 0))) Aq) (AB (AD 5) (AB (AD 3) (AB (mOp A7 (AD 2) (mC (.int 0))) AH))))))) Aq) (AN 14))
  (BE (Dt Mn (AD 8) (AB (AF AZ (AB (AD 10) (AB (mOp AV (AF Aq (AB (mC (.int 0)) (AB (mC (.int 1)) (AB (mC (.int 9)) (AB (mC (.int 99)) (AB (mC (.int 400)) AH)))))) (AF ZW (AB (AD 0) (AB (mC (.int 5)) AH)))) (AB (AF FD (AB (AD 14) AH)) AH)))) AH)))))))))
  (AR (Ai (mOp Ag (mC (.int 2)) (AF ZW (AB (AD 0) (AB (mC (.int 9)) AH)))) (AN 6))
  (AR (Ai (mOp AV (AF Aq (AB (mC (.str "safe")) (AB (mC (.str "steady")) (AB (mC (.str "whole")) AH)))) (AF ZW (AB (AD 0) (AB (mC (.int 3)) AH)))) (AN 7))
  (A9 (AF AZ (AB (AD 7) (AB (AD 6) (AB (AF ZW (AB (AD 0) (AB (AD 6) AH))) (AB (AF FD (AB (AD 4) AH)) (AB (AF FD (AB (AD 8) AH)) AH))))))))))))))))))
noncomputable def DP  : Sl->M (Fl×Sl):=
  (AR (Ai (AF Aq (AB (AF AZ (AB (mC (.str "Safe")) (AB (mC (.int 2)) (AB (mC (.int 0)) AH)))) (AB (AF AZ (AB (mC (.str "")) (AB (mC (.int 2)) (AB (mC (.int 0)) AH)))) (AB (AF AZ (AB (mC .non) (AB (mC (.int 2)) (AB (mC (.int 0)) AH)))) (AB (AF AZ (AB (mC (.str "strong")) (AB (mC (.int 2)) (AB (mC (.int 0)) AH)))) (AB (AF AZ (AB (AF Aq (AB (mC (.str "safe")) AH)) (AB (mC (.int 2)) (AB (mC (.int 0)) AH)))) (AB (AF AZ (AB (mC (.str "safe ")) (AB (mC (.int 2)) (AB (mC (.int 0)) AH)))) AH))))))) (AN 0))
  (AR (Ai (mOp Ag (AD 0) (AF Aq (AB (AF AZ (AB (mC (.str "safe")) (AB (mC (.int 1)) (AB (mC (.int 0)) AH)))) (AB (AF AZ (AB (mC (.str "safe")) (AB (mC (.int 0)) (AB (mC (.int 0)) AH)))) (AB (AF AZ (AB (mC (.str "safe")) (AB (mUn NL (mC (.int 3))) (AB (mC (.int 0)) AH)))) (AB (AF AZ (AB (mC (.str "safe")) (AB (mC (.int 11)) (AB (mC (.int 0)) AH)))) (AB (AF AZ (AB (mC (.str "safe")) (AB (mC (.bl true)) (AB (mC (.int 0)) AH)))) AH))))))) (AN 0))
  (AR (Ai (mOp Ag (AD 0) (AF Aq (AB (AF AZ (AB (mC (.str "safe")) (AB (mC .non) (AB (mC (.int 0)) AH)))) (AB (AF AZ (AB (mC (.str "safe")) (AB (mC (.str "2")) (AB (mC (.int 0)) AH)))) (AB (AF AZ (AB (mC (.str "steady")) (AB (mC (.int 3)) (AB (mC (.int 3)) AH)))) (AB (AF AZ (AB (mC (.str "whole")) (AB (mC (.int 3)) (AB (mUn NL (mC (.int 1))) AH)))) (AB (AF AZ (AB (mC (.str "safe")) (AB (mC (.int 2)) (AB (mC (.bl true)) AH)))) AH))))))) (AN 0))
  (A9 (mOp Ag (AD 0) (AF Aq (AB (AF AZ (AB (mC (.str "safe")) (AB (mC (.int 10)) (AB (mC (.int 10)) AH)))) (AB (AF AZ (AB (mC (.str "safe")) (AB (mC (.int 2)) (AB (mC .non) AH)))) (AB (AF AZ (AB (mC (.str "safe")) (AB (mC (.int 2)) (AB (mC (.str "0")) AH)))) (AB (AF AZ (AB (mC (.str "safe")) (AB (mC (.int 2)) (AB (mC (.bl false)) AH)))) (AB (AF AZ (AB (mC (.str "safe")) (AB (AF AZ (AB (mC (.int 2)) AH)) (AB (mC (.int 0)) AH)))) AH)))))))))))
noncomputable def Dd  : Sl->M (Fl×Sl):=
  (A9 (AF Aq (AB (mC (.str "")) (AB (mC (.str "abcdefghi")) (AB (mC (.str "A")) (AB (mC (.str "a1")) (AB (mC (.str "a b")) (AB (mC (.str "a.")) (AB (mC .non) (AB (mC (.int 5)) (AB (mC (.bl true)) (AB (AF Aq (AB (mC (.str "a")) AH)) (AB (AF AZ (AB (mC (.str "a")) AH)) (AB (mC (.str "w\n")) (AB (mC (.str "-")) AH)))))))))))))))
noncomputable def BX(Zq:List D->M D)(ZW:List D->M D):Sl->M (Fl×Sl):=
  (AR (Ai (AD 1) (G5 [2,3,4,5,6]))
  (AR (Ai (AF Aq (AB (mC .non) (AB (mC (.int 5)) (AB (mC (.str "making")) (AB (AF Aq AH) (AB (AF FP (AB (AD 1) AH)) (AB (DU (AD 1) BC (BT (mC (.int 4)))) (AB (mOp Ag (AD 1) (AF AZ (AB (mC (.int 0)) AH))) (AB (AF AZ AH) (AB (AF AZ (AB (AD 1) AH)) AH)))))))))) (AN 7))
  (AR (Ai (mOp Ag (AD 7) (AF Aq (AB (AF AZ (AB (AD 2) (AB (AD 3) (AB (AD 4) (AB (AF FP (AB (AD 5) AH)) (AB (AD 6) AH)))))) (AB (AF AZ (AB (AD 2) (AB (AD 3) (AB (AD 4) (AB (AD 5) (AB (AF FP (AB (AD 6) AH)) AH)))))) AH)))) (AN 7))
  (AR (Ai (mOp Ag (AD 7) (AF Aq (AB (AF AZ (AB (AD 2) (AB (AD 3) (AB (AD 4) (AB (mC .non) (AB (AD 6) AH)))))) (AB (AF AZ (AB (AD 2) (AB (AD 3) (AB (AD 4) (AB (AD 5) (AB (DU (AD 6) BC (BT (mC (.int 1)))) AH)))))) (AB (mOp Ag (DU (AD 1) BC (BT (mC (.int 4)))) (AF AZ (AB (AF AZ AH) AH))) AH))))) (AN 7))
  (AR (Ai (AF AZ (AB (AF AZ (AB (mC (.str "ka")) (AB (mC (.int 0)) (AB (AF AZ AH) AH)))) (AB (AF AZ (AB (mC (.str "kb")) (AB (mC (.int 0)) (AB (AF AZ AH) AH)))) (AB (AF AZ (AB (mC (.str "kc")) (AB (mC (.int 0)) (AB (AF AZ AH) AH)))) (AB (AF AZ (AB (mC (.str "kd")) (AB (mC (.int 0)) (AB (AF AZ AH) AH)))) (AB (AF AZ (AB (mC (.str "ke")) (AB (mC (.int 0)) (AB (AF AZ AH) AH)))) AH)))))) (AN 8))
  (AR (Ai (mOp Ag (AD 7) (AF Aq (AB (AF AZ (AB (AD 2) (AB (AD 3) (AB (AD 4) (AB (AD 5) (AB (DU (mOp Ag (AD 6) (AD 8)) BC (BT (mC (.int 5)))) AH)))))) (AB (AF AZ (AB (AD 2) (AB (AD 3) (AB (AD 4) (AB (AD 5) (AB (mOp Gj (DU (AD 6) BC (BT (mC (.int 1)))) (mC (.int 2))) AH)))))) AH)))) (AN 7))
  (AR (Ai (AF FD (AB (B0 1 [6] (De (AF Aq (AB (mC (.str "ka")) (AB (mC (.str "kb")) (AB (mC (.str "kc")) (AB (mC (.str "kd")) (AB (mC (.str "ke")) (AB (mC (.str "kf")) (AB (mC (.str "kg")) AH))))))))) (AN 0) Bz (AF AZ (AB (AD 0) (AB (mC (.str "safe")) (AB (mC (.int 2)) (AB (mC (.int 0)) (AB (mOp AV (mOp AV (AD 1) (mC (.int 0))) (mC (.int 0))) AH)))))) Aq) AH)) (AN 9))
  (AR (Ai (mOp Ag (AD 7) (AF Aq (AB (AF AZ (AB (AD 2) (AB (AD 3) (AB (AD 4) (AB (DU (mOp Ag (AD 5) (AD 9)) BC (BT (mC (.int 7)))) (AB (AD 6) AH)))))) (AB (AF AZ (AB (AD 2) (AB (AD 3) (AB (AD 4) (AB (mOp Gj (DU (AD 5) BC (BT (mC (.int 1)))) (mC (.int 2))) (AB (AD 6) AH)))))) AH)))) (AN 7))
  (AR (Ai (mOp Ag (AD 7) (B0 1 [5,6] (De (AF Zq AH)) (AN 0) Bz (mOp Ag (AD 0) (AF AZ (AB (AD 1) (AB (AD 2) AH)))) Aq)) (AN 7))
  (A9 (mOp AV (AD 7) (AF ZW (AB (AD 0) (AB (AF Bs (AB (AD 7) AH)) AH))))))))))))))
noncomputable def Br(ZW:List D->M D)(Zp:List D->M D)(Zq:List D->M D):Sl->M (Fl×Sl):=
  (AR (Ai (AD 1) (G5 [2,3,4,5,6]))
  (AR (Ai (AF ZW (AB (AD 0) (AB (AF Bs (AB (AD 5) AH)) AH))) (AN 7))
  (AR (Ai (mOp AV (AD 5) (AD 7)) (AN 8))
  (AR (Ai (AF Aq (AB (AF FP (AB (AD 8) AH)) (AB (DU (AD 8) BC (BT (mC (.int 4)))) (AB (mOp Ag (AD 8) (AF AZ (AB (mC (.int 0)) AH))) (AB (mC .non) (AB (AF AZ AH) (AB (mOp AV (AD 8) (mC (.int 0))) AH))))))) (AN 9))
  (AR (Ai (mOp Ag (AD 9) (B0 1 [8] (De (AF Zp AH)) (AN 0) Bz (mOp Ag (AF AZ (AB (AD 0) AH)) (DU (AD 1) (BT (mC (.int 1))) BC)) Aq)) (AN 9))
  (AR (Ai (mOp Ag (AD 9) (B0 1 [8] (De (AF Zq AH)) (AN 0) Bz (mOp Ag (mOp Ag (DU (AD 1) BC (BT (mC (.int 1)))) (AD 0)) (DU (AD 1) (BT (mC (.int 4))) BC)) Aq)) (AN 9))
  (AR (Ai (mOp Ag (AD 9) (B0 1 [8] (De (mOp Ag (AF Zp AH) (AF Aq (AB (mC (.str "nobody")) (AB (AD 8) AH))))) (AN 0) Bz (mOp Ag (DU (AD 1) BC (BT (mC (.int 4)))) (AF AZ (AB (AD 0) AH))) Aq)) (AN 9))
  (AR (Ai (mOp AV (AD 9) (AF ZW (AB (AD 0) (AB (AF Bs (AB (AD 9) AH)) AH)))) (AN 10))
  (A9 (AF AZ (AB (AD 2) (AB (AD 3) (AB (AD 4) (AB (mOp Ag (mOp Ag (DU (AD 5) BC (BT (AD 7))) (AF AZ (AB (AD 10) AH))) (DU (AD 5) (BT (mOp Ag (AD 7) (mC (.int 1)))) BC)) (AB (AD 6) AH)))))))))))))))
noncomputable def Bi(ZW:List D->M D)(Zp:List D->M D):Sl->M (Fl×Sl):=
  (AR (Ai (AF ZW (AB (AD 0) (AB (AF Bs (AB (mOp AV (AD 1) (mC (.int 4))) AH)) AH))) (AN 2))
  (AR (Ai (mOp AV (mOp AV (AD 1) (mC (.int 4))) (AD 2)) (G5 [3,4,5]))
  (AR (Ai (AF Aq (AB (AF Aq (AB (AD 3) (AB (AD 4) (AB (AD 5) AH)))) (AB (AF AZ (AB (AD 3) (AB (AD 4) AH))) (AB (AF AZ (AB (AD 3) (AB (AD 4) (AB (AD 5) (AB (mC (.int 0)) AH))))) (AB (mC .non) (AB (AF AZ AH) (AB (AD 3) (AB (AF AZ (AB (AD 3) (AB (AD 4) (AB (AF FP (AB (AD 5) AH)) AH)))) AH)))))))) (AN 6))
  (AR (Ai (mOp Ag (AD 6) (AF Aq (AB (AF AZ (AB (AD 3) (AB (AD 4) (AB (mC .non) AH)))) (AB (AF AZ (AB (AD 3) (AB (AD 4) (AB (mOp Gj (AF AZ (AB (AF AZ (AB (mC (.str "jump")) (AB (mC (.int 0)) AH))) AH)) (mC (.int 61))) AH)))) (AB (AF AZ (AB (AD 3) (AB (mC (.int 401)) (AB (AD 5) AH)))) (AB (AF AZ (AB (AD 3) (AB (mUn NL (mC (.int 1))) (AB (AD 5) AH)))) AH)))))) (AN 6))
  (AR (Ai (mOp Ag (AD 6) (B0 1 [3,5] (De (AF Aq (AB (mC (.bl true)) (AB (mC (.bl false)) (AB (mC .non) (AB (mC (.str "9")) (AB (mOp NJ (mC (.int 10)) (mC (.int 30))) (AB (AF Aq (AB (mC (.int 3)) AH)) AH)))))))) (AN 0) Bz (AF AZ (AB (AD 1) (AB (AD 0) (AB (AD 2) AH)))) Aq)) (AN 6))
  (AR (Ai (mOp Ag (mOp Ag (AD 6) (B0 1 [5,4] (De (AF Zp AH)) (AN 0) Bz (AF AZ (AB (AD 0) (AB (AD 2) (AB (AD 1) AH)))) Aq)) (AF Aq (AB (AF AZ (AB (mOp AV (mOp AV (mOp AV (AD 1) (mC (.int 4))) (mOp D9 (AD 2) (mC (.int 1)))) (mC (.int 0))) (AB (AD 4) (AB (AD 5) AH)))) AH))) (AN 6))
  (AR (Ai (mOp AV (AD 6) (AF ZW (AB (AD 0) (AB (AF Bs (AB (AD 6) AH)) AH)))) (AN 7))
  (A9 (mOp Ag (DU (AD 1) BC (BT (mC (.int 4)))) (AF AZ (AB (mOp Ag (mOp Ag (DU (mOp AV (AD 1) (mC (.int 4))) BC (BT (AD 2))) (AF AZ (AB (AD 7) AH))) (DU (mOp AV (AD 1) (mC (.int 4))) (BT (mOp Ag (AD 2) (mC (.int 1)))) BC)) AH)))))))))))
noncomputable def Dr(Zh:List D->M Dx):Sl->M (Fl×Sl):=
  (AR (Ai (mC (.bl false)) (AN 1))
  (AR (VG (Bb (Bd Zh (AB (AD 0) AH))) 2 ["NoMaking"] (AR (Ai (LR [("NoMaking",false)] (AD 2)) (AN 3))
  (Ai (DX (LR [("NoMaking",true)] (AD 2)) (DX (LR [("NoMaking",true)] (AD 2)) (HC (AD 3)))) (AN 1))))
  (A9 (AD 1))))
noncomputable def m_law(bK:List D->M D)(ck:List D->M D)(cV:List D->M D)(Zh:List D->M Dx)(ZW:List D->M D)(Z8:List D->M D)(aK:List D->M D)(aC:List D->M D)(cG:List D->M D):Sl->M (Fl×Sl):=
  (AR (Ai (AF ck (AB (AF bK (AB (AD 0) (AB (mC (.int 0)) AH))) AH)) (AN 1))
  (AR (Ai (AF cV (AB (AD 1) AH)) (G5 [2,3,4,5,6]))
  (AR (sIf (AY (mOp A7 (AD 5) (AF AZ AH))) (Ai (AF AZ (AB (AF AZ (AB (mC (.str "only")) (AB (mC (.str "steady")) (AB (mC (.int 4)) (AB (mC (.int 3)) (AB (mOp AV (mOp AV (AD 6) (mC (.int 1))) (mC (.int 0))) AH)))))) AH)) (AN 5)) BW)
  (AR (Ai (AF AZ (AB (AD 2) (AB (AD 3) (AB (AD 4) (AB (AD 5) (AB (AD 6) AH)))))) (AN 7))
  (AR (sIf (AY (mOp (LK true) (AF (vals Zh) (AB (AD 7) AH)) (mC .non))) (A9 (mC (.bl false))) BW)
  (AR (Ef (De (mOp Ag (AF Aq (AB (AF bK (AB (AD 0) (AB (mC (.int 1)) AH))) AH)) (DU (AD 0) (BT (mC (.int 2))) (BT (mC (.int 20)))))) (AN 8) (AR (Ai (AF ck (AB (AD 8) AH)) (AN 1))
  (AR (Ai (AF ZW (AB (AD 1) (AB (mC (.int 3)) AH))) (AN 9))
  (AR (sIf (AY (mOp A7 (AD 9) (mC (.int 0)))) (Ai (AF Z8 (AB (AD 1) (AB (AD 7) AH))) (AN 10)) (sIf (AY (mOp A7 (AD 9) (mC (.int 1)))) (Ai (AF aK (AB (AD 1) (AB (AD 7) AH))) (AN 10)) (Ai (AF aC (AB (AD 1) (AB (AD 7) AH))) (AN 10))))
  (sIf (JA (AY (AF cG (AB (AD 10) AH)))) (A9 (mC (.bl false))) BW)))))
  (A9 (mOp (LK false) (AF (vals Zh) (AB (AD 7) AH)) (mC .non)))))))))
noncomputable def top(i:Nat):Stmt:=PySem.Challenge.pw_strongboxes_k03_what_is_no_making.main.body.getD i (.Pass ⟨0,0,0,0⟩)
section
variable{P:Program}{w:World}{K:PySem.W.Frag}{mg:Str->Option Value}{base:Heap}
noncomputable abbrev Dj:Stmt:=top 15
theorem sc_is_whole:Ac ["thing", "least", "most"] ["thing", "least", "most"] (AI Dj):=⟨rfl,rfl,rfl,by decide +kernel,rfl,by decide +kernel,by decide +kernel⟩
theorem MH{k:Nat}{f:Addr}(cp:mg "int" = none)(ZZ:mg "isinstance" = none)(eV:mg "bool" = none)(cdv:Value)(A:Around)(outer:List Env)(s:Shared)(H:Hp)(E:XK)(hr:Room k (A.deeper (PyProof.Rows.envOfC "is_whole" (AI Dj) s.heap.objs.size f cdv))):
  RSs (BP CX0 P w K mg base ["thing", "least", "most"] "is_whole" (AI Dj) f cdv A outer s H E).nox (AX Dj) (DH):=by
 have nd:=sc_is_whole.nd;exact(AQ (Ak (Dp (Ae G1 ZZ Mi.A1 (AA (AC 0) (AA (Eg cp Mi.Iq) AE))) (Dp (Qd (Ae G1 ZZ Mi.A1 (AA (AC 0) (AA (Eg eV Mi.PP) AE)))) (FG (Hz Oc Oc (AC 1) (AC 0) (AC 2)))))))
noncomputable abbrev EL:Stmt:=top 16
theorem sc_is_name:Ac ["thing"] ["thing"] (AI EL):=⟨rfl,rfl,rfl,by decide +kernel,rfl,by decide +kernel,by decide +kernel⟩
theorem OQ{k:Nat}{f:Addr}(dQ:mg "str" = none)(ZZ:mg "isinstance" = none)(Za:mg "len" = none)(fP:mg "all" = none)(bq:Glo K mg "LETTERS" ES)(cdv:Value)(A:Around)(outer:List Env)(s:Shared)(H:Hp)(E:XK)(hr:Room k (A.deeper (PyProof.Rows.envOfC "is_name" (AI EL) s.heap.objs.size f cdv))):
  RSs (BP CX0 P w K mg base ["thing"] "is_name" (AI EL) f cdv A outer s H E).nox (AX EL) (EQ):=by
 have nd:=sc_is_name.nd;exact(AQ (Ak (Dp (Ae G1 ZZ Mi.A1 (AA (AC 0) (AA (Eg dQ Mi.Lo) AE))) (Dp (Hz Oc Oc AG (Ae CS Za Mi.Ax (AA (AC 0) AE)) AG) (FG (Ae (Yj rfl) fP Mi.R8 (AA (DN (tgs:=["sign"]) (ix:=[]) (i:=0) (n:=1) ⟨rfl,by decide +kernel,by decide +kernel,trivial,rfl,by decide +kernel⟩ rfl (VL (AC 0)) (λ_ _ _ _=>Ab (i:=0) (show List.Nodup (["sign"]:List Str) from by decide +kernel) rfl (Or.inl rfl)) (λ_ _ _ _=>Bo) (λ_ _ _ _=>(CV V9 (AC 0) (EN bq)))) AE)))))))
noncomputable abbrev B6:Stmt:=top 17
theorem sc_is_expression:Ac ["thing", "deep", "word"] ["thing", "deep"] (AI B6):=⟨rfl,rfl,rfl,by decide +kernel,rfl,by decide +kernel,by decide +kernel⟩
theorem HF{Zf:List D->M D}{Z9:Nat}{Zd:List D->M D}{Zt:Nat}{Ze:List D->M D}{Zz:Nat}{k:Nat}{f:Addr}(Zv:Fn P w K mg base "is_expression" ["thing", "deep"] Z9 Zf)(Z6:Z9<=k)(Zn:Fn P w K mg base "is_whole" ["thing", "least", "most"] Zt Zd)(Z4:Zt<=k)(Zy:Fn P w K mg base "is_name" ["thing"] Zz Ze)(aJ:Zz<=k)(Z3:mg "tuple" = none)(ZZ:mg "isinstance" = none)(Za:mg "len" = none)(ah:Glo K mg "PAIR_WORDS" B4)(bM:Glo K mg "GREATEST" Cm)(cdv:Value)(A:Around)(outer:List Env)(s:Shared)(H:Hp)(E:XK)(hr:Room k (A.deeper (PyProof.Rows.envOfC "is_expression" (AI B6) s.heap.objs.size f cdv))):
  RSs (BP CX0 P w K mg base ["thing", "deep", "word"] "is_expression" (AI B6) f cdv A outer s H E).nox (AX B6) (A0 Zf Zd Ze):=by
 have nd:=sc_is_expression.nd;exact(AK (BO (RW.rt (ND (Au Ob (AC 1) AG) (ND (KD (Hu (Ae G1 ZZ Mi.A1 (AA (AC 0) (AA (Eg Z3 Mi.DK) AE))))) (MF (Au (C0 hr) (Ae CS Za Mi.Ax (AA (AC 0) AE)) AG))))) (AQ (Ak FI)) As)
   (AK (AT 2 nd (AU Aj (AC 0) AG))
   (AK (BO (Au V9 (AC 2) (EN ah)) (AQ (Ak (Dp (CV (C0 hr) (Ae CS Za Mi.Ax (AA (AC 0) AE)) AG) (Dp (AS (hkj:=Z6) Zv hr (AA (AU Aj (AC 0) AG) (AA (AW FK (AC 1) AG) AE))) (FG (AS (hkj:=Z6) Zv hr (AA (AU Aj (AC 0) AG) (AA (AW FK (AC 1) AG) AE)))))))) As)
   (AK (BO (Au (MQ hr) (Ae CS Za Mi.Ax (AA (AC 0) AE)) AG) (AQ (Ak FI)) As)
   (AK (BO (Au (C0 hr) (AC 2) AL) (AQ (Ak (AS (hkj:=Z4) Zn hr (AA (AU Aj (AC 0) AG) (AA AG (AA (EN bM) AE)))))) As)
   (AK (BO (Au (C0 hr) (AC 2) AL) (AQ (Ak (AS (hkj:=aJ) Zy hr (AA (AU Aj (AC 0) AG) AE)))) As)
   (AQ (Ak (Dp (CV (C0 hr) (AC 2) AL) (FG (AS (hkj:=Z6) Zv hr (AA (AU Aj (AC 0) AG) (AA (AW FK (AC 1) AG) AE)))))))))))))
noncomputable abbrev CG:Stmt:=top 18
theorem sc_variables_in:Ac ["expression", "names", "part"] ["expression"] (AI CG):=⟨rfl,rfl,rfl,by decide +kernel,rfl,by decide +kernel,by decide +kernel⟩
theorem IA{Zo:List D->M D}{aH:Nat}{k:Nat}{f:Addr}(aE:Fn P w K mg base "variables_in" ["expression"] aH Zo)(bL:aH<=k)(cdv:Value)(A:Around)(outer:List Env)(s:Shared)(H:Hp)(E:XK)(hr:Room k (A.deeper (PyProof.Rows.envOfC "variables_in" (AI CG) s.heap.objs.size f cdv))):
  RSs (BP CX0 P w K mg base ["expression", "names", "part"] "variables_in" (AI CG) f cdv A outer s H E).nox (AX CG) (Aw Zo):=by
 have nd:=sc_variables_in.nd;exact(AK (BO (Au (C0 hr) (AU Aj (AC 0) AG) AL) (AQ (Ak (Ao AE))) As)
   (AK (BO (Au (C0 hr) (AU Aj (AC 0) AG) AL) (AQ (Ak (Ao (AA (AU Aj (AC 0) AG) AE)))) As)
   (AK (AT 1 nd (GF AE))
   (AK (FE PassesOwn.never rfl (CK (Qc (AC 0) (Az AG) A2)) (D8 2 nd) (AQ (BJ (FH PySem.F.slot_list_extend PySem.F.type_list_extend LQ (AC 1) (AA (AS (hkj:=bL) aE hr (AA (AC 2) AE)) AE)))))
   (AQ (Ak (AC 1)))))))
noncomputable abbrev Hq:Stmt:=top 31
theorem sc_need:Ac ["holds", "words"] ["holds", "words"] (AI Hq):=⟨rfl,rfl,rfl,by decide +kernel,rfl,by decide +kernel,by decide +kernel⟩
theorem VR{k:Nat}{f:Addr}(cdv:Value)(A:Around)(outer:List Env)(s:Shared)(H:Hp)(E:XK)(hr:Room k (A.deeper (PyProof.Rows.envOfC "need" (AI Hq) s.heap.objs.size f cdv))):
  RSs (BP CX0 P w K mg base ["holds", "words"] "need" (AI Hq) f cdv A outer s H E).nox (AX Hq) (KM):=by
 have nd:=sc_need.nd;exact(AQ (BO (KD (Hu (AC 0))) (AQ QP) As))
noncomputable abbrev Dk:Stmt:=top 32
theorem sc_is_tuple:Ac ["thing", "least", "most"] ["thing", "least", "most"] (AI Dk):=⟨rfl,rfl,rfl,by decide +kernel,rfl,by decide +kernel,by decide +kernel⟩
theorem MI{k:Nat}{f:Addr}(Z3:mg "tuple" = none)(ZZ:mg "isinstance" = none)(Za:mg "len" = none)(cdv:Value)(A:Around)(outer:List Env)(s:Shared)(H:Hp)(E:XK)(hr:Room k (A.deeper (PyProof.Rows.envOfC "is_tuple" (AI Dk) s.heap.objs.size f cdv))):
  RSs (BP CX0 P w K mg base ["thing", "least", "most"] "is_tuple" (AI Dk) f cdv A outer s H E).nox (AX Dk) (DI):=by
 have nd:=sc_is_tuple.nd;exact(AQ (Ak (Dp (Ae G1 ZZ Mi.A1 (AA (AC 0) (AA (Eg Z3 Mi.DK) AE))) (FG (Hz Oc Oc (AC 1) (Ae CS Za Mi.Ax (AA (AC 0) AE)) (AC 2))))))
noncomputable abbrev EK:Stmt:=top 39
theorem sc_is_part:Ac ["part", "thing", "length"] ["part", "thing", "length"] (AI EK):=⟨rfl,rfl,rfl,by decide +kernel,rfl,by decide +kernel,by decide +kernel⟩
theorem OP{Zf:List D->M D}{Z9:Nat}{Zd:List D->M D}{Zt:Nat}{Ze:List D->M D}{Zz:Nat}{k:Nat}{f:Addr}(Zv:Fn P w K mg base "is_expression" ["thing", "deep"] Z9 Zf)(Z6:Z9<=k)(Zn:Fn P w K mg base "is_whole" ["thing", "least", "most"] Zt Zd)(Z4:Zt<=k)(Zy:Fn P w K mg base "is_name" ["thing"] Zz Ze)(aJ:Zz<=k)(bo:Glo K mg "DEEPEST" DJ)(cdv:Value)(A:Around)(outer:List Env)(s:Shared)(H:Hp)(E:XK)(hr:Room k (A.deeper (PyProof.Rows.envOfC "is_part" (AI EK) s.heap.objs.size f cdv))):
  RSs (BP CX0 P w K mg base ["part", "thing", "length"] "is_part" (AI EK) f cdv A outer s H E).nox (AX EK) (Cp Zf Zd Ze):=by
 have nd:=sc_is_part.nd;exact(AK (BO (Au (C0 hr) (AC 0) AL) (AQ (Ak (AS (hkj:=Z6) Zv hr (AA (AC 1) (AA (EN bo) AE))))) As)
   (AK (BO (Au (C0 hr) (AC 0) AL) (AQ (Ak (AS (hkj:=Z4) Zn hr (AA (AC 1) (AA AG (AA (AC 2) AE)))))) As)
   (AQ (Ak (AS (hkj:=aJ) Zy hr (AA (AC 1) AE))))))
noncomputable abbrev CI:Stmt:=top 40
theorem sc_check_ending:Ac ["word", "is_writer"] ["word", "is_writer"] (AI CI):=⟨rfl,rfl,rfl,by decide +kernel,rfl,by decide +kernel,by decide +kernel⟩
theorem IC{Zi:List D->M D}{aY:Nat}{k:Nat}{f:Addr}(Zu:Fn P w K mg base "need" ["holds", "words"] aY Zi)(Z0:aY<=k)(cdv:Value)(A:Around)(outer:List Env)(s:Shared)(H:Hp)(E:XK)(hr:Room k (A.deeper (PyProof.Rows.envOfC "check_ending" (AI CI) s.heap.objs.size f cdv))):
  RSs (BP CX0 P w K mg base ["word", "is_writer"] "check_ending" (AI CI) f cdv A outer s H E).nox (AX CI) (Bq Zi):=by
 have nd:=sc_check_ending.nd;exact(AQ (BO (Hu (AC 1)) (AQ (BJ (AS (hkj:=Z0) Zu hr (AA (CV (MQ hr) (AC 0) AL) (AA AL AE))))) (AQ (BJ (AS (hkj:=Z0) Zu hr (AA (CV (MQ hr) (AC 0) AL) (AA AL AE)))))))
noncomputable abbrev Cv:Stmt:=top 38
theorem sc_check_form:Ac ["row", "length", "parts", "part", "thing"] ["row", "length"] (AI Cv):=⟨rfl,rfl,rfl,by decide +kernel,rfl,by decide +kernel,by decide +kernel⟩
theorem KG{Zb:List D->M D}{Zx:Nat}{Zi:List D->M D}{aY:Nat}{cW:List D->M D}{eM:Nat}{k:Nat}{f:Addr}(Zj:Fn P w K mg base "is_tuple" ["thing", "least", "most"] Zx Zb)(Zr:Zx<=k)(Zu:Fn P w K mg base "need" ["holds", "words"] aY Zi)(Z0:aY<=k)(dI:Fn P w K mg base "is_part" ["part", "thing", "length"] eM cW)(fS:eM<=k)(dQ:mg "str" = none)(ZZ:mg "isinstance" = none)(Za:mg "len" = none)(dO:mg "zip" = none)(al:PV w K mg "PARTS" BQ)(cdv:Value)(A:Around)(outer:List Env)(s:Shared)(H:Hp)(E:XK)(hr:Room k (A.deeper (PyProof.Rows.envOfC "check_form" (AI Cv) s.heap.objs.size f cdv))):
  RSs (BP CX0 P w K mg base ["row", "length", "parts", "part", "thing"] "check_form" (AI Cv) f cdv A outer s H E).nox (AX Cv) (A6 Zb Zi cW):=by
 have nd:=sc_check_form.nd;exact(AK (BJ (AS (hkj:=Z0) Zu hr (AA (AS (hkj:=Zr) Zj hr (AA (AC 0) (AA AG (AA AG AE)))) (AA AL AE))))
   (AK (BJ (AS (hkj:=Z0) Zu hr (AA (Dp (Ae G1 ZZ Mi.A1 (AA (AU Aj (AC 0) AG) (AA (Eg dQ Mi.Lo) AE))) (FG (VN al (AU Aj (AC 0) AG)))) (AA AL AE))))
   (AK (AT 2 nd (NI al (AU Aj (AC 0) AG)))
   (AK (BJ (AS (hkj:=Z0) Zu hr (AA (CV (C0 hr) (Ae CS Za Mi.Ax (AA (AC 0) AE)) (AW FL AG (Ae CS Za Mi.Ax (AA (AC 2) AE)))) (AA AL AE))))
   (AQ (FE PassesOwn.never rfl (NG dO (AA (AC 2) (AA (Qc (AC 0) (Az AG) A2) AE))) (FF (is:=[3,4]) rfl (Am (Ab (i:=3) nd rfl (by first|exact Or.inl rfl|exact Or.inr rfl)) (Am (Ab (i:=4) nd rfl (by first|exact Or.inl rfl|exact Or.inr rfl)) EA))) (AQ (BJ (AS (hkj:=Z0) Zu hr (AA (AS (hkj:=fS) dI hr (AA (AC 3) (AA (AC 4) (AA (AC 1) AE)))) (AA (OM (NF AL (NF (VP (AC 3)) VJ))) AE)))))))))))
noncomputable abbrev Bf:Stmt:=top 41
theorem sc_check_variables:Ac ["row", "is_writer", "name"] ["row", "is_writer"] (AI Bf):=⟨rfl,rfl,rfl,by decide +kernel,rfl,by decide +kernel,by decide +kernel⟩
theorem GG{aq:List D->M D}{ce:Nat}{Zi:List D->M D}{aY:Nat}{k:Nat}{f:Addr}(bY:Fn P w K mg base "variables_of" ["row"] ce aq)(dw:ce<=k)(Zu:Fn P w K mg base "need" ["holds", "words"] aY Zi)(Z0:aY<=k)(aG:Glo K mg "NO_VARIABLES" CO)(cdv:Value)(A:Around)(outer:List Env)(s:Shared)(H:Hp)(E:XK)(hr:Room k (A.deeper (PyProof.Rows.envOfC "check_variables" (AI Bf) s.heap.objs.size f cdv))):
  RSs (BP CX0 P w K mg base ["row", "is_writer", "name"] "check_variables" (AI Bf) f cdv A outer s H E).nox (AX Bf) (Bh aq Zi):=by
 have nd:=sc_check_variables.nd;exact(AK (FE PassesOwn.never rfl (CK (AS (hkj:=dw) bY hr (AA (AC 0) AE))) (D8 2 nd) (AK (BJ (AS (hkj:=Z0) Zu hr (AA (CV Tf (AC 2) (EN aG)) (AA AL AE))))
   (AQ (BJ (AS (hkj:=Z0) Zu hr (AA (Xf (AC 1) (FG (CV (MQ hr) (AC 2) AL))) (AA AL AE)))))))
   (AQ (BO (Au V9 (AU Aj (AC 0) AG) (AO (AA AL (AA AL AE)))) (AQ (BJ (AS (hkj:=Z0) Zu hr (AA (CV (MQ hr) (AU Aj (AC 0) AG) AL) (AA AL AE))))) As)))
noncomputable abbrev Cu:Stmt:=top 37
theorem sc_check_rows:Ac ["hand", "is_writer", "writers", "row"] ["hand", "is_writer", "writers"] (AI Cu):=⟨rfl,rfl,rfl,by decide +kernel,rfl,by decide +kernel,by decide +kernel⟩
theorem KF{bS:List D->M D}{dM:Nat}{ak:List D->M D}{cg:Nat}{aD:List D->M D}{bv:Nat}{Zi:List D->M D}{aY:Nat}{k:Nat}{f:Addr}(cT:Fn P w K mg base "check_form" ["row", "length"] dM bS)(eP:dM<=k)(bW:Fn P w K mg base "check_ending" ["word", "is_writer"] cg ak)(dm:cg<=k)(av:Fn P w K mg base "check_variables" ["row", "is_writer"] bv aD)(dG:bv<=k)(Zu:Fn P w K mg base "need" ["holds", "words"] aY Zi)(Z0:aY<=k)(Za:mg "len" = none)(cdv:Value)(A:Around)(outer:List Env)(s:Shared)(H:Hp)(E:XK)(hr:Room k (A.deeper (PyProof.Rows.envOfC "check_rows" (AI Cu) s.heap.objs.size f cdv))):
  RSs (BP CX0 P w K mg base ["hand", "is_writer", "writers", "row"] "check_rows" (AI Cu) f cdv A outer s H E).nox (AX Cu) (Dc bS ak aD Zi):=by
 have nd:=sc_check_rows.nd;exact(AQ (FE PassesOwn.never rfl (CK (AU Aj (AC 0) AG)) (D8 3 nd) (AK (BJ (AS (hkj:=eP) cT hr (AA (AC 3) (AA (Ae CS Za Mi.Ax (AA (AU Aj (AC 0) AG) AE)) AE))))
   (AK (BJ (AS (hkj:=dm) bW hr (AA (AU Aj (AC 3) AG) (AA (AC 1) AE))))
   (AK (BJ (AS (hkj:=dG) av hr (AA (AC 3) (AA (AC 1) AE))))
   (AK (BO (Au (C0 hr) (AU Aj (AC 3) AG) AL) (AQ (BJ (AS (hkj:=Z0) Zu hr (AA (CV (C0 hr) (Qf hr (AC 2) (AU Aj (AC 3) AG)) (AU Aj (AC 0) AG)) (AA AL AE))))) As)
   (AQ (BO (Au (C0 hr) (AU Aj (AC 3) AG) AL) (AQ (BJ (AS (hkj:=Z0) Zu hr (AA (VQ hr (AU Aj (AC 3) AG) (AC 2)) (AA AL AE))))) As))))))))
noncomputable abbrev CF:Stmt:=top 42
theorem sc_variables_of:Ac ["row", "names", "part", "thing"] ["row"] (AI CF):=⟨rfl,rfl,rfl,by decide +kernel,rfl,by decide +kernel,by decide +kernel⟩
theorem H9{Zo:List D->M D}{aH:Nat}{k:Nat}{f:Addr}(aE:Fn P w K mg base "variables_in" ["expression"] aH Zo)(bL:aH<=k)(dO:mg "zip" = none)(al:PV w K mg "PARTS" BQ)(cdv:Value)(A:Around)(outer:List Env)(s:Shared)(H:Hp)(E:XK)(hr:Room k (A.deeper (PyProof.Rows.envOfC "variables_of" (AI CF) s.heap.objs.size f cdv))):
  RSs (BP CX0 P w K mg base ["row", "names", "part", "thing"] "variables_of" (AI CF) f cdv A outer s H E).nox (AX CF) (Ar Zo):=by
 have nd:=sc_variables_of.nd;exact(AK (AT 1 nd (GF AE))
   (AK (FE PassesOwn.never rfl (NG dO (AA (NI al (AU Aj (AC 0) AG)) (AA (Qc (AC 0) (Az AG) A2) AE))) (FF (is:=[2,3]) rfl (Am (Ab (i:=2) nd rfl (by first|exact Or.inl rfl|exact Or.inr rfl)) (Am (Ab (i:=3) nd rfl (by first|exact Or.inl rfl|exact Or.inr rfl)) EA))) (AK (BO (Au (C0 hr) (AC 2) AL) (AQ (BJ (FH PySem.F.slot_list_append PySem.F.type_list_append IM (AC 1) (AA (AC 3) AE)))) As)
   (AQ (BO (Au (C0 hr) (AC 2) AL) (AQ (BJ (FH PySem.F.slot_list_extend PySem.F.type_list_extend LQ (AC 1) (AA (AS (hkj:=bL) aE hr (AA (AC 3) AE)) AE)))) As))))
   (AQ (Ak (AC 1)))))
noncomputable abbrev Cw:Stmt:=top 36
theorem sc_are_unlike:Ac ["names"] ["names"] (AI Cw):=⟨rfl,rfl,rfl,by decide +kernel,rfl,by decide +kernel,by decide +kernel⟩
theorem KH{k:Nat}{f:Addr}(Za:mg "len" = none)(fU:mg "set" = none)(cdv:Value)(A:Around)(outer:List Env)(s:Shared)(H:Hp)(E:XK)(hr:Room k (A.deeper (PyProof.Rows.envOfC "are_unlike" (AI Cw) s.heap.objs.size f cdv))):
  RSs (BP CX0 P w K mg base ["names"] "are_unlike" (AI Cw) f cdv A outer s H E).nox (AX Cw) (CP):=by
 have nd:=sc_are_unlike.nd;exact(AQ (Ak (CV (C0 hr) (OL Za fU (AC 0)) (Ae CS Za Mi.Ax (AA (AC 0) AE)))))
noncomputable abbrev GB:Stmt:=top 31
theorem sc_needX:Ac ["holds", "words"] ["holds", "words"] (AI GB):=⟨rfl,rfl,rfl,by decide +kernel,rfl,by decide +kernel,by decide +kernel⟩
theorem Sv{ar:Addr}{k:Nat}{f:Addr}(mc_NoMaking:mg "NoMaking" = some (.ref ar))(ec_NoMaking:Ec K "NoMaking" ar)(cdv:Value)(A:Around)(outer:List Env)(s:Shared)(H:Hp)(E:XK)(hr:Room k (A.deeper (PyProof.Rows.envOfC "need" (AI GB) s.heap.objs.size f cdv))):
  XSs (BP CX0 P w K mg base ["holds", "words"] "need" (AI GB) f cdv A outer s H E).nox (AX GB) (GL):=by
 have nd:=sc_needX.nd;exact(Cr (XC (KD (Hu (AC 0))) (Cr (PZ ec_NoMaking mc_NoMaking (AA (AC 1) AE))) SG))
noncomputable abbrev B7:Stmt:=top 33
theorem sc_check_worthsX:Ac ["kind", "size", "begin"] ["kind", "size", "begin"] (AI B7):=⟨rfl,rfl,rfl,by decide +kernel,rfl,by decide +kernel,by decide +kernel⟩
theorem HG{Zc:List D->M Dx}{aI:Nat}{Zd:List D->M D}{Zt:Nat}{k:Nat}{f:Addr}(Zg:FnX P w K mg base "need" ["holds", "words"] aI Zc)(Zk:aI<=k)(Zn:Fn P w K mg base "is_whole" ["thing", "least", "most"] Zt Zd)(Z4:Zt<=k)(cj:Glo K mg "KINDS" Kk)(aU:Glo K mg "LEAST_SIZE" Ep)(bD:Glo K mg "MOST_SIZE" FT)(cdv:Value)(A:Around)(outer:List Env)(s:Shared)(H:Hp)(E:XK)(hr:Room k (A.deeper (PyProof.Rows.envOfC "check_worths" (AI B7) s.heap.objs.size f cdv))):
  XSs (BP CX0 P w K mg base ["kind", "size", "begin"] "check_worths" (AI B7) f cdv A outer s H E).nox (AX B7) (B9 Zc Zd):=by
 have nd:=sc_check_worthsX.nd;exact(A4 (BH (Co (hkj:=Zk) Zg hr (AA (CV (Uf hr) (AC 0) (EN cj)) (AA AL AE))))
   (A4 (BH (Co (hkj:=Zk) Zg hr (AA (AS (hkj:=Z4) Zn hr (AA (AC 1) (AA (EN aU) (AA (EN bD) AE)))) (AA AL AE))))
   (Cr (BH (Co (hkj:=Zk) Zg hr (AA (AS (hkj:=Z4) Zn hr (AA (AC 2) (AA AG (AA (AW FK (AC 1) AG) AE)))) (AA AL AE)))))))
noncomputable abbrev CJ:Stmt:=top 34
theorem sc_check_boxesX:Ac ["boxes", "box"] ["boxes"] (AI CJ):=⟨rfl,rfl,rfl,by decide +kernel,rfl,by decide +kernel,by decide +kernel⟩
theorem ID{Zc:List D->M Dx}{aI:Nat}{Zb:List D->M D}{Zx:Nat}{Ze:List D->M D}{Zz:Nat}{Zl:List D->M Dx}{aA:Nat}{Zs:List D->M D}{aW:Nat}{k:Nat}{f:Addr}(Zg:FnX P w K mg base "need" ["holds", "words"] aI Zc)(Zk:aI<=k)(Zj:Fn P w K mg base "is_tuple" ["thing", "least", "most"] Zx Zb)(Zr:Zx<=k)(Zy:Fn P w K mg base "is_name" ["thing"] Zz Ze)(aJ:Zz<=k)(Z1:FnX P w K mg base "check_worths" ["kind", "size", "begin"] aA Zl)(bJ:aA<=k)(aF:Fn P w K mg base "are_unlike" ["names"] aW Zs)(bt:aW<=k)(aZ:Glo K mg "MOST_BOXES" Eo)(cdv:Value)(A:Around)(outer:List Env)(s:Shared)(H:Hp)(E:XK)(hr:Room k (A.deeper (PyProof.Rows.envOfC "check_boxes" (AI CJ) s.heap.objs.size f cdv))):
  XSs (BP CX0 P w K mg base ["boxes", "box"] "check_boxes" (AI CJ) f cdv A outer s H E).nox (AX CJ) (CN Zc Zb Ze Zl Zs):=by
 have nd:=sc_check_boxesX.nd;exact(A4 (BH (Co (hkj:=Zk) Zg hr (AA (AS (hkj:=Zr) Zj hr (AA (AC 0) (AA AG (AA (EN aZ) AE)))) (AA AL AE))))
   (A4 (Jr (CK (AC 0)) (D8 1 nd) (A4 (BH (Co (hkj:=Zk) Zg hr (AA (AS (hkj:=Zr) Zj hr (AA (AC 1) (AA AG (AA AG AE)))) (AA AL AE))))
   (A4 (BH (Co (hkj:=Zk) Zg hr (AA (AS (hkj:=aJ) Zy hr (AA (AU Aj (AC 1) AG) AE)) (AA AL AE))))
   (Cr (BH (Co (hkj:=bJ) Z1 hr (AA (AU Aj (AC 1) AG) (AA (AU Aj (AC 1) AG) (AA (AU Aj (AC 1) AG) AE)))))))))
   (Cr (BH (Co (hkj:=Zk) Zg hr (AA (AS (hkj:=bt) aF hr (AA (DN (tgs:=["box"]) (ix:=[]) (i:=0) (n:=1) ⟨rfl,by decide +kernel,by decide +kernel,trivial,rfl,by decide +kernel⟩ rfl (CK (AC 0)) (λ_ _ _ _=>Ab (i:=0) (show List.Nodup (["box"]:List Str) from by decide +kernel) rfl (Or.inl rfl)) (λ_ _ _ _=>Bo) (λ_ _ _ _=>(AU Aj (AC 0) AG))) AE)) (AA AL AE)))))))
noncomputable abbrev CH:Stmt:=top 35
theorem sc_check_handsX:Ac ["hands", "hand"] ["hands"] (AI CH):=⟨rfl,rfl,rfl,by decide +kernel,rfl,by decide +kernel,by decide +kernel⟩
theorem IB{Zc:List D->M Dx}{aI:Nat}{Zb:List D->M D}{Zx:Nat}{Ze:List D->M D}{Zz:Nat}{Zd:List D->M D}{Zt:Nat}{Zs:List D->M D}{aW:Nat}{k:Nat}{f:Addr}(Zg:FnX P w K mg base "need" ["holds", "words"] aI Zc)(Zk:aI<=k)(Zj:Fn P w K mg base "is_tuple" ["thing", "least", "most"] Zx Zb)(Zr:Zx<=k)(Zy:Fn P w K mg base "is_name" ["thing"] Zz Ze)(aJ:Zz<=k)(Zn:Fn P w K mg base "is_whole" ["thing", "least", "most"] Zt Zd)(Z4:Zt<=k)(aF:Fn P w K mg base "are_unlike" ["names"] aW Zs)(bt:aW<=k)(aO:Glo K mg "LEAST_HANDS" EH)(ac:Glo K mg "MOST_HANDS" En)(aN:Glo K mg "MOST_WITHIN" EG)(bC:Glo K mg "MOST_ROWS" FU)(cdv:Value)(A:Around)(outer:List Env)(s:Shared)(H:Hp)(E:XK)(hr:Room k (A.deeper (PyProof.Rows.envOfC "check_hands" (AI CH) s.heap.objs.size f cdv))):
  XSs (BP CX0 P w K mg base ["hands", "hand"] "check_hands" (AI CH) f cdv A outer s H E).nox (AX CH) (CM Zc Zb Ze Zd Zs):=by
 have nd:=sc_check_handsX.nd;exact(A4 (BH (Co (hkj:=Zk) Zg hr (AA (AS (hkj:=Zr) Zj hr (AA (AC 0) (AA (EN aO) (AA (EN ac) AE)))) (AA AL AE))))
   (A4 (Jr (CK (AC 0)) (D8 1 nd) (A4 (BH (Co (hkj:=Zk) Zg hr (AA (AS (hkj:=Zr) Zj hr (AA (AC 1) (AA AG (AA AG AE)))) (AA AL AE))))
   (A4 (BH (Co (hkj:=Zk) Zg hr (AA (AS (hkj:=aJ) Zy hr (AA (AU Aj (AC 1) AG) AE)) (AA AL AE))))
   (A4 (BH (Co (hkj:=Zk) Zg hr (AA (AS (hkj:=Z4) Zn hr (AA (AU Aj (AC 1) AG) (AA AG (AA (EN aN) AE)))) (AA AL AE))))
   (Cr (BH (Co (hkj:=Zk) Zg hr (AA (AS (hkj:=Zr) Zj hr (AA (AU Aj (AC 1) AG) (AA AG (AA (EN bC) AE)))) (AA AL AE)))))))))
   (Cr (BH (Co (hkj:=Zk) Zg hr (AA (AS (hkj:=bt) aF hr (AA (DN (tgs:=["hand"]) (ix:=[]) (i:=0) (n:=1) ⟨rfl,by decide +kernel,by decide +kernel,trivial,rfl,by decide +kernel⟩ rfl (CK (AC 0)) (λ_ _ _ _=>Ab (i:=0) (show List.Nodup (["hand"]:List Str) from by decide +kernel) rfl (Or.inl rfl)) (λ_ _ _ _=>Bo) (λ_ _ _ _=>(AU Aj (AC 0) AG))) AE)) (AA AL AE)))))))
noncomputable abbrev B8:Stmt:=top 30
theorem sc_check_makingX:Ac ["making", "hand_names", "writers", "box", "number", "hand"] ["making"] (AI B8):=⟨rfl,rfl,rfl,by decide +kernel,rfl,by decide +kernel,by decide +kernel⟩
theorem HH{Zc:List D->M Dx}{aI:Nat}{Zb:List D->M D}{Zx:Nat}{Zl:List D->M Dx}{aA:Nat}{ai:List D->M Dx}{cf:Nat}{aj:List D->M Dx}{cZ:Nat}{bQ:List D->M D}{dJ:Nat}{k:Nat}{f:Addr}(Zg:FnX P w K mg base "need" ["holds", "words"] aI Zc)(Zk:aI<=k)(Zj:Fn P w K mg base "is_tuple" ["thing", "least", "most"] Zx Zb)(Zr:Zx<=k)(Z1:FnX P w K mg base "check_worths" ["kind", "size", "begin"] aA Zl)(bJ:aA<=k)(bi:FnX P w K mg base "check_boxes" ["boxes"] cf ai)(dq:cf<=k)(bX:FnX P w K mg base "check_hands" ["hands"] cZ aj)(dk:cZ<=k)(cJ:Fn P w K mg base "check_rows" ["hand", "is_writer", "writers"] dJ bQ)(eN:dJ<=k)(aQ:mg "enumerate" = none)(cdv:Value)(A:Around)(outer:List Env)(s:Shared)(H:Hp)(E:XK)(hr:Room k (A.deeper (PyProof.Rows.envOfC "check_making" (AI B8) s.heap.objs.size f cdv))):
  XSs (BP CX0 P w K mg base ["making", "hand_names", "writers", "box", "number", "hand"] "check_making" (AI B8) f cdv A outer s H E).nox (AX B8) (Be Zc Zb Zl ai aj bQ):=by
 have nd:=sc_check_makingX.nd;exact(A4 (BH (Co (hkj:=Zk) Zg hr (AA (AS (hkj:=Zr) Zj hr (AA (AC 0) (AA AG (AA AG AE)))) (AA AL AE))))
   (A4 (BH (Co (hkj:=bJ) Z1 hr (AA (AU Aj (AC 0) AG) (AA (AU Aj (AC 0) AG) (AA (AU Aj (AC 0) AG) AE)))))
   (A4 (BH (Co (hkj:=dq) bi hr (AA (AU Aj (AC 0) AG) AE)))
   (A4 (BH (Co (hkj:=dk) bX hr (AA (AU Aj (AC 0) AG) AE)))
   (A4 (HL (Hv 1 (tgs:=["hand"]) (ix:=[]) (i:=0) (n:=1) nd ⟨rfl,by decide +kernel,by decide +kernel,trivial,rfl,by decide +kernel⟩ rfl (CK (AU Aj (AC 0) AG)) (λ_ _ _ _=>Ab (i:=0) (show List.Nodup (["hand"]:List Str) from by decide +kernel) rfl (Or.inl rfl)) (λ_ _ _ _=>Bo) (λ_ _ _ _=>(AU Aj (AC 0) AG)) (λ_ _ _ _ _ _ _ _ R i e q=>Ei R i e q)))
   (A4 (HL (AT 2 nd Ss))
   (A4 (Jr (CK (AU Aj (AC 0) AG)) (D8 3 nd) (A4 (BH (Co (hkj:=Zk) Zg hr (AA (CV (Uf hr) (AU Aj (AC 3) AG) (AC 1)) (AA AL AE))))
   (Cr (HL (Sk hr (AC 2) (AU Aj (AC 3) AG) (AU Aj (AC 3) AG))))))
   (Cr (Jr (QW aQ (AA (AU Aj (AC 0) AG) AE)) (FF (is:=[4,5]) rfl (Am (Ab (i:=4) nd rfl (by first|exact Or.inl rfl|exact Or.inr rfl)) (Am (Ab (i:=5) nd rfl (by first|exact Or.inl rfl|exact Or.inr rfl)) EA))) (Cr (HL (BJ (AS (hkj:=eN) cJ hr (AA (AC 5) (AA (CV (C0 hr) (AC 4) AG) (AA (AC 2) AE))))))))))))))))
noncomputable abbrev Dm:Stmt:=top 44
theorem sc_Lcell_at:Ac ["_law_script", "_law_k"] ["_law_script", "_law_k"] (AI Dm):=⟨rfl,rfl,rfl,by decide +kernel,rfl,by decide +kernel,by decide +kernel⟩
theorem MK{k:Nat}{f:Addr}(Za:mg "len" = none)(cdv:Value)(A:Around)(outer:List Env)(s:Shared)(H:Hp)(E:XK)(hr:Room k (A.deeper (PyProof.Rows.envOfC "_law_cell_at" (AI Dm) s.heap.objs.size f cdv))):
  RSs (BP CX0 P w K mg base ["_law_script", "_law_k"] "_law_cell_at" (AI Dm) f cdv A outer s H E).nox (AX Dm) (B3):=by
 have nd:=sc_Lcell_at.nd;exact(AK (BO (Au Ob (AC 1) (Ae CS Za Mi.Ax (AA (AC 0) AE))) (AQ (Ak (AU Aj (AC 0) (AC 1)))) As)
   (AQ (Ak AG)))
noncomputable abbrev GC:Stmt:=top 45
theorem sc_Lwell:Ac ["_law_cell"] ["_law_cell"] (AI GC):=⟨rfl,rfl,rfl,by decide +kernel,rfl,by decide +kernel,by decide +kernel⟩
theorem Sx{k:Nat}{f:Addr}(fG:mg "max" = none)(cdv:Value)(A:Around)(outer:List Env)(s:Shared)(H:Hp)(E:XK)(hr:Room k (A.deeper (PyProof.Rows.envOfC "_law_well" (AI GC) s.heap.objs.size f cdv))):
  RSs (BP CX0 P w K mg base ["_law_cell"] "_law_well" (AI GC) f cdv A outer s H E).nox (AX GC) (Fc):=by
 have nd:=sc_Lwell.nd;exact(AQ (Ak (GF (AA (Ae (Yi rfl) fG Mi.R7 (AA AG (AA (AW FK (AC 0) (AW Ue AG AG)) AE))) (AA (AW JR (AC 0) AG) (AA AG AE))))))
noncomputable abbrev GE:Stmt:=top 46
theorem sc_Ldraw:Ac ["_law_well_here", "_law_base", "_law_found", "_law_number"] ["_law_well_here", "_law_base"] (AI GE):=⟨rfl,rfl,rfl,by decide +kernel,rfl,by decide +kernel,by decide +kernel⟩
theorem Sz{k:Nat}{f:Addr}(cdv:Value)(A:Around)(outer:List Env)(s:Shared)(H:Hp)(E:XK)(hr:Room k (A.deeper (PyProof.Rows.envOfC "_law_draw" (AI GE) s.heap.objs.size f cdv))):
  RSs (BP CX0 P w K mg base ["_law_well_here", "_law_base", "_law_found", "_law_number"] "_law_draw" (AI GE) f cdv A outer s H E).nox (AX GE) (EB):=by
 have nd:=sc_Ldraw.nd;exact(AK (BO (Au YA (AU Aj (AC 0) AG) AG) (AK (AT 2 nd (AW JR (AU Aj (AC 0) AG) (AC 1)))
   (AK (Gh (AW KL (AU Aj (AC 0) AG) (AC 1)) (Qa (AC 0) AG))
   (AQ (Ak (AC 2))))) As)
   (AK (Gh (AW FL (AU Aj (AC 0) AG) AG) (Qa (AC 0) AG))
   (AK (AT 3 nd (AW JR (AW HB (AW FL (AW FL (AU Aj (AC 0) AG) (AW HB AG (AU Aj (AC 0) AG))) AG) AG) AG))
   (AK (AT 3 nd (AW JR (AW HB (AC 3) (AW FL (AW KL (AC 3) AG) AG)) AG))
   (AK (AT 3 nd (AW JR (AW HB (AC 3) (AW FL (AW KL (AC 3) AG) AG)) AG))
   (AQ (Ak (AW JR (AW FL (AW HB (AC 3) AG) (AW KL (AC 3) AG)) (AC 1)))))))))
noncomputable abbrev GD:Stmt:=top 47
theorem sc_Lexpr:Ac ["_law_well_here", "_law_names", "_law_deep", "_law_way", "_law_word", "_law_one", "_law_other"] ["_law_well_here", "_law_names", "_law_deep"] (AI GD):=⟨rfl,rfl,rfl,by decide +kernel,rfl,by decide +kernel,by decide +kernel⟩
theorem Sy{ZW:List D->M D}{Zm:Nat}{Z2:List D->M D}{ci:Nat}{k:Nat}{f:Addr}(ZX:Fn P w K mg base "_law_draw" ["_law_well_here", "_law_base"] Zm ZW)(ZY:Zm<=k)(aP:Fn P w K mg base "_law_expr" ["_law_well_here", "_law_names", "_law_deep"] ci Z2)(ae:ci<=k)(Za:mg "len" = none)(dW:mg "min" = none)(cdv:Value)(A:Around)(outer:List Env)(s:Shared)(H:Hp)(E:XK)(hr:Room k (A.deeper (PyProof.Rows.envOfC "_law_expr" (AI GD) s.heap.objs.size f cdv))):
  RSs (BP CX0 P w K mg base ["_law_well_here", "_law_names", "_law_deep", "_law_way", "_law_word", "_law_one", "_law_other"] "_law_expr" (AI GD) f cdv A outer s H E).nox (AX GD) (GM ZW Z2):=by
 have nd:=sc_Lexpr.nd;exact(AK (AT 3 nd (AS (hkj:=ZY) ZX hr (AA (AC 0) (AA AG AE))))
   (AK (BO (RW.rt (ND (Au (C0 hr) (AC 2) AG) (MF (Au Ob (AC 3) AG)))) (AK (BO (RW.rt (ND (Au (C0 hr) (AC 1) (Ao AE)) (MF (Au (C0 hr) (AS (hkj:=ZY) ZX hr (AA (AC 0) (AA AG AE))) AG)))) (AQ (Ak (AO (AA AL (AA (AS (hkj:=ZY) ZX hr (AA (AC 0) (AA AG AE))) AE))))) As)
   (AQ (Ak (AO (AA AL (AA (AU Aj (AC 1) (AS (hkj:=ZY) ZX hr (AA (AC 0) (AA (Ae CS Za Mi.Ax (AA (AC 1) AE)) AE)))) AE)))))) As)
   (AK (BO (Au (C0 hr) (AC 3) AG) (AQ (Ak (AO (AA AL (AA (AS (hkj:=ae) aP hr (AA (AC 0) (AA (AC 1) (AA (AW FK (AC 2) AG) AE)))) AE))))) As)
   (AK (AT 4 nd (AU Aj (Ao (AA AL (AA AL (AA AL (AA AL (AA AL (AA AL AE))))))) (AW FK (AC 3) AG)))
   (AK (AT 5 nd (AS (hkj:=ae) aP hr (AA (AC 0) (AA (AC 1) (AA (AW FK (AC 2) AG) AE)))))
   (AK (AT 6 nd (AS (hkj:=ae) aP hr (AA (AC 0) (AA (AC 1) (AA (Ae (Uq rfl) dW Mi.Lp (AA (AW FK (AC 2) AG) (AA AG AE))) AE)))))
   (AQ (Ak (AU Aj (Ao (AA (AO (AA (AC 4) (AA (AC 5) (AA (AC 6) AE)))) (AA (AO (AA (AC 4) (AA (AC 6) (AA (AC 5) AE)))) AE))) (AS (hkj:=ZY) ZX hr (AA (AC 0) (AA AG AE))))))))))))
noncomputable abbrev Hr:Stmt:=top 48
theorem sc_Lrow:Ac ["_law_well_here", "_law_own", "_law_boxes", "_law_names", "_law_many", "_law_is_writer", "_law_way", "_law_deep", "_law_seen"] ["_law_well_here", "_law_own", "_law_boxes", "_law_names", "_law_many", "_law_is_writer"] (AI Hr):=⟨rfl,rfl,rfl,by decide +kernel,rfl,by decide +kernel,by decide +kernel⟩
theorem VS{ZW:List D->M D}{Zm:Nat}{Z2:List D->M D}{ci:Nat}{k:Nat}{f:Addr}(ZX:Fn P w K mg base "_law_draw" ["_law_well_here", "_law_base"] Zm ZW)(ZY:Zm<=k)(aP:Fn P w K mg base "_law_expr" ["_law_well_here", "_law_names", "_law_deep"] ci Z2)(ae:ci<=k)(dW:mg "min" = none)(cp:mg "int" = none)(Za:mg "len" = none)(cdv:Value)(A:Around)(outer:List Env)(s:Shared)(H:Hp)(E:XK)(hr:Room k (A.deeper (PyProof.Rows.envOfC "_law_row" (AI Hr) s.heap.objs.size f cdv))):
  RSs (BP CX0 P w K mg base ["_law_well_here", "_law_own", "_law_boxes", "_law_names", "_law_many", "_law_is_writer", "_law_way", "_law_deep", "_law_seen"] "_law_row" (AI Hr) f cdv A outer s H E).nox (AX Hr) (KN ZW Z2):=by
 have nd:=sc_Lrow.nd;exact(AK (AT 6 nd (AS (hkj:=ZY) ZX hr (AA (AC 0) (AA AG AE))))
   (AK (AT 7 nd (AU Aj (Ao (AA AG (AA AG (AA AG (AA AG AE))))) (AS (hkj:=ZY) ZX hr (AA (AC 0) (AA AG AE)))))
   (AK (BO (Au YA (AC 4) AG) (AQ (AT 7 nd (Ae (Uq rfl) dW Mi.Lp (AA (AC 7) (AA AG AE))))) As)
   (AK (AT 8 nd (AW FL (AC 3) (AW HB (Ao (AA AL AE)) (Bp Ur cp Mi.Iq (AA (AC 5) AE)))))
   (AK (BO (RW.rt (QM (Au Ob (AC 6) AG) (NE (Au (MQ hr) (AC 1) (Ao AE))))) (AQ (Ak (AO (AA AL (AA (AU Aj (AC 1) (AS (hkj:=ZY) ZX hr (AA (AC 0) (AA (Ae CS Za Mi.Ax (AA (AC 1) AE)) AE)))) (AA (AS (hkj:=ae) aP hr (AA (AC 0) (AA (AC 8) (AA (AC 7) AE)))) AE)))))) As)
   (AK (BO (RW.rt (QM (Au Ob (AC 6) AG) (NE (Au (MQ hr) (AC 2) (Ao AE))))) (AQ (Ak (AO (AA AL (AA (AU Aj (AC 3) (AS (hkj:=ZY) ZX hr (AA (AC 0) (AA (Ae CS Za Mi.Ax (AA (AC 3) AE)) AE)))) (AA (AU Aj (AC 2) (AS (hkj:=ZY) ZX hr (AA (AC 0) (AA (Ae CS Za Mi.Ax (AA (AC 2) AE)) AE)))) AE)))))) As)
   (AK (BO (Au Ob (AC 6) AG) (AQ (Ak (AO (AA AL (AA (AU Aj (AC 3) (AS (hkj:=ZY) ZX hr (AA (AC 0) (AA (Ae CS Za Mi.Ax (AA (AC 3) AE)) AE)))) (AA (AS (hkj:=ae) aP hr (AA (AC 0) (AA (AC 8) (AA (AC 7) AE)))) AE)))))) As)
   (AK (BO (Au (C0 hr) (AC 6) AG) (AQ (Ak (AO (AA AL (AA (AS (hkj:=ae) aP hr (AA (AC 0) (AA (AC 8) (AA (AC 7) AE)))) (AA (AS (hkj:=ZY) ZX hr (AA (AC 0) (AA (AW FL (AC 4) AG) AE))) AE)))))) As)
   (AK (BO (Au (C0 hr) (AC 6) AG) (AQ (Ak (AO (AA AL (AA (AS (hkj:=ZY) ZX hr (AA (AC 0) (AA (AW FL (AC 4) AG) AE))) AE))))) As)
   (AQ (Ak (AU Aj (Ao (AA (AO (AA AL (AA (AS (hkj:=ae) aP hr (AA (AC 0) (AA (AC 8) (AA (AC 7) AE)))) AE))) (AA (AO (AA AL AE)) AE))) (Bp Ur cp Mi.Iq (AA (AC 5) AE))))))))))))))
noncomputable abbrev EM:Stmt:=top 49
theorem sc_Lmaking:Ac ["_law_well_here", "_law_some", "_law_turn", "_law_names", "_law_boxes", "_law_k", "_law_size", "_law_kind", "_law_hands", "_law_longest", "_law_name", "_law_many", "_law_own", "_law_row_names", "_law_rows"] ["_law_well_here"] (AI EM):=⟨rfl,rfl,rfl,by decide +kernel,rfl,by decide +kernel,by decide +kernel⟩
theorem OR{ZW:List D->M D}{Zm:Nat}{dy:List D->M D}{fY:Nat}{k:Nat}{f:Addr}(ZX:Fn P w K mg base "_law_draw" ["_law_well_here", "_law_base"] Zm ZW)(ZY:Zm<=k)(eS:Fn P w K mg base "_law_row" ["_law_well_here", "_law_own", "_law_boxes", "_law_names", "_law_many", "_law_is_writer"] fY dy)(ff:fY<=k)(dU:mg "range" = none)(Za:mg "len" = none)(aQ:mg "enumerate" = none)(Z3:mg "tuple" = none)(cdv:Value)(A:Around)(outer:List Env)(s:Shared)(H:Hp)(E:XK)(hr:Room k (A.deeper (PyProof.Rows.envOfC "_law_making" (AI EM) s.heap.objs.size f cdv))):
  RSs (BP CX0 P w K mg base ["_law_well_here", "_law_some", "_law_turn", "_law_names", "_law_boxes", "_law_k", "_law_size", "_law_kind", "_law_hands", "_law_longest", "_law_name", "_law_many", "_law_own", "_law_row_names", "_law_rows"] "_law_making" (AI EM) f cdv A outer s H E).nox (AX EM) (m_Lmaking ZW dy):=by
 have nd:=sc_Lmaking.nd;exact(AK (AT 1 nd (Ao (AA AL (AA AL (AA AL (AA AL (AA AL (AA AL (AA AL (AA AL (AA AL (AA AL (AA AL (AA AL AE))))))))))))))
   (AK (AT 2 nd (AS (hkj:=ZY) ZX hr (AA (AC 0) (AA AG AE))))
   (AK (AT 1 nd (AW Ap (Bc (AC 1) (Az (AC 2)) A2) (Bc (AC 1) A2 (Az (AC 2)))))
   (AK (AT 3 nd (Bc (AC 1) A2 (Az (AW Ap AG (AS (hkj:=ZY) ZX hr (AA (AC 0) (AA AG AE)))))))
   (AK (AT 4 nd (GF AE))
   (AK (FE PassesOwn.never rfl (JO dU (AA (AS (hkj:=ZY) ZX hr (AA (AC 0) (AA AG AE))) AE)) (D8 5 nd) (AK (AT 6 nd (AW Ap AG (AS (hkj:=ZY) ZX hr (AA (AC 0) (AA AG AE)))))
   (AK (AT 7 nd (AU Aj (Ao (AA AL (AA AL (AA AL AE)))) (AS (hkj:=ZY) ZX hr (AA (AC 0) (AA AG AE)))))
   (AQ (BJ (FH PySem.F.slot_list_append PySem.F.type_list_append IM (AC 4) (AA (AO (AA (AU Aj (AC 1) (AW FK AG (AC 5))) (AA (AC 7) (AA (AC 6) (AA (AS (hkj:=ZY) ZX hr (AA (AC 0) (AA (AC 6) AE))) (AA (AU Aj (AC 3) (AS (hkj:=ZY) ZX hr (AA (AC 0) (AA (Ae CS Za Mi.Ax (AA (AC 3) AE)) AE)))) AE)))))) AE)))))))
   (AK (AT 8 nd (GF AE))
   (AK (AT 9 nd (AS (hkj:=ZY) ZX hr (AA (AC 0) (AA (AW HB AG (Ae CS Za Mi.Ax (AA (AC 3) AE))) AE))))
   (AK (FE PassesOwn.never rfl (QY aQ (AA (AC 3) AE)) (FF (is:=[5,10]) rfl (Am (Ab (i:=5) nd rfl (by first|exact Or.inl rfl|exact Or.inr rfl)) (Am (Ab (i:=10) nd rfl (by first|exact Or.inl rfl|exact Or.inr rfl)) EA))) (AK (AT 11 nd (AU Aj (Ao (AA AG (AA AG (AA AG (AA AG (AA AG AE)))))) (AS (hkj:=ZY) ZX hr (AA (AC 0) (AA AG AE)))))
   (AK (BO (Au (C0 hr) (AC 5) (AC 9)) (AQ (AT 11 nd AG)) As)
   (AK (AT 12 nd (LJ (by wtm_at "l") (by wtm_at "l") (tgs:=["_law_box"]) (ix:=[10]) (i:=0) (n:=1) ⟨rfl,by decide +kernel,by decide +kernel,⟨Or.inl rfl,trivial⟩,rfl,by decide +kernel⟩ rfl (QZ (AC 4)) (λ_ _ _ _=>Ab (i:=0) (show List.Nodup (["_law_box", "_law_name"]:List Str) from by decide +kernel) rfl (Or.inl rfl)) (λ_ _ _ _=>QV (Au (C0 hr) (AU Aj (AC 0) AG) (AC 1))) (λ_ _ _ _=>(AU Aj (AC 0) AG))))
   (AK (AT 13 nd (Bc (Ao (AA AL (AA AL (AA AL (AA AL (AA AL AE)))))) A2 (Az (AW Ap AG (AS (hkj:=ZY) ZX hr (AA (AC 0) (AA AG AE)))))))
   (AK (Hv 14 (tgs:=["_law_j"]) (ix:=[4,5,11,12,13,0]) (i:=0) (n:=1) nd ⟨rfl,by decide +kernel,by decide +kernel,⟨Or.inl rfl,Or.inl rfl,Or.inl rfl,Or.inl rfl,Or.inl rfl,Or.inl rfl,trivial⟩,rfl,by decide +kernel⟩ rfl (JO dU (AA (AC 11) AE)) (λ_ _ _ _=>Ab (i:=0) (show List.Nodup (["_law_j", "_law_boxes", "_law_k", "_law_many", "_law_own", "_law_row_names", "_law_well_here"]:List Str) from by decide +kernel) rfl (Or.inl rfl)) (λ_ _ _ _=>Bo) (λ_ _ _ _=>(AS (hkj:=ff) eS hr (AA (AC 6) (AA (AC 4) (AA (LJ (by wtm_at "l") (by wtm_at "l") (tgs:=["_law_box"]) (ix:=[]) (i:=0) (n:=1) ⟨rfl,by decide +kernel,by decide +kernel,trivial,rfl,by decide +kernel⟩ rfl (QZ (AC 1)) (λ_ _ _ _=>Ab (i:=0) (show List.Nodup (["_law_box"]:List Str) from by decide +kernel) rfl (Or.inl rfl)) (λ_ _ _ _=>Bo) (λ_ _ _ _=>(AU Aj (AC 0) AG))) (AA (AC 5) (AA (AC 3) (AA (CV (C0 hr) (AC 2) AG) AE)))))))) (λ_ _ _ _ _ _ _ _ R i e q=>Ei R i e q))
   (AQ (BJ (FH PySem.F.slot_list_append PySem.F.type_list_append IM (AC 8) (AA (AO (AA (AC 10) (AA (AU Aj (Ao (AA AG (AA AG (AA AG (AA AG (AA AG AE)))))) (AS (hkj:=ZY) ZX hr (AA (AC 0) (AA AG AE)))) (AA (Bp HV Z3 Mi.DK (AA (AC 14) AE)) AE)))) AE))))))))))
   (AK (AT 6 nd (AW Ap AG (AS (hkj:=ZY) ZX hr (AA (AC 0) (AA AG AE)))))
   (AK (AT 7 nd (AU Aj (Ao (AA AL (AA AL (AA AL AE)))) (AS (hkj:=ZY) ZX hr (AA (AC 0) (AA AG AE)))))
   (AQ (Ak (AO (AA (AC 7) (AA (AC 6) (AA (AS (hkj:=ZY) ZX hr (AA (AC 0) (AA (AC 6) AE))) (AA (Bp HV Z3 Mi.DK (AA (AC 4) AE)) (AA (Bp HV Z3 Mi.DK (AA (AC 8) AE)) AE)))))))))))))))))))
noncomputable abbrev CY:Stmt:=top 50
theorem sc_Lbad_worths:Ac ["_law_some"] [] (AI CY):=⟨rfl,rfl,rfl,by decide +kernel,rfl,by decide +kernel,by decide +kernel⟩
theorem Iz{k:Nat}{f:Addr}(cdv:Value)(A:Around)(outer:List Env)(s:Shared)(H:Hp)(E:XK)(hr:Room k (A.deeper (PyProof.Rows.envOfC "_law_bad_worths" (AI CY) s.heap.objs.size f cdv))):
  RSs (BP CX0 P w K mg base ["_law_some"] "_law_bad_worths" (AI CY) f cdv A outer s H E).nox (AX CY) (DP):=by
 have nd:=sc_Lbad_worths.nd;exact(AK (AT 0 nd (Ao (AA (AO (AA AL (AA AG (AA AG AE)))) (AA (AO (AA AL (AA AG (AA AG AE)))) (AA (AO (AA DT (AA AG (AA AG AE)))) (AA (AO (AA AL (AA AG (AA AG AE)))) (AA (AO (AA (Ao (AA AL AE)) (AA AG (AA AG AE)))) (AA (AO (AA AL (AA AG (AA AG AE)))) AE))))))))
   (AK (AT 0 nd (AW Ap (AC 0) (Ao (AA (AO (AA AL (AA AG (AA AG AE)))) (AA (AO (AA AL (AA AG (AA AG AE)))) (AA (AO (AA AL (AA (Qb Q4 AG) (AA AG AE)))) (AA (AO (AA AL (AA AG (AA AG AE)))) (AA (AO (AA AL (AA FI (AA AG AE)))) AE))))))))
   (AK (AT 0 nd (AW Ap (AC 0) (Ao (AA (AO (AA AL (AA DT (AA AG AE)))) (AA (AO (AA AL (AA AL (AA AG AE)))) (AA (AO (AA AL (AA AG (AA AG AE)))) (AA (AO (AA AL (AA AG (AA (Qb Q4 AG) AE)))) (AA (AO (AA AL (AA AG (AA FI AE)))) AE))))))))
   (AQ (Ak (AW Ap (AC 0) (Ao (AA (AO (AA AL (AA AG (AA AG AE)))) (AA (AO (AA AL (AA AG (AA DT AE)))) (AA (AO (AA AL (AA AG (AA AL AE)))) (AA (AO (AA AL (AA AG (AA FI AE)))) (AA (AO (AA AL (AA (AO (AA AG AE)) (AA AG AE)))) AE))))))))))))
noncomputable abbrev Cy:Stmt:=top 51
theorem sc_Lbad_names:Ac [] [] (AI Cy):=⟨rfl,rfl,rfl,by decide +kernel,rfl,by decide +kernel,by decide +kernel⟩
theorem KI{k:Nat}{f:Addr}(cdv:Value)(A:Around)(outer:List Env)(s:Shared)(H:Hp)(E:XK)(hr:Room k (A.deeper (PyProof.Rows.envOfC "_law_bad_names" (AI Cy) s.heap.objs.size f cdv))):
  RSs (BP CX0 P w K mg base [] "_law_bad_names" (AI Cy) f cdv A outer s H E).nox (AX Cy) (Dd):=by
 have nd:=sc_Lbad_names.nd;exact(AQ (Ak (Ao (AA AL (AA AL (AA AL (AA AL (AA AL (AA AL (AA DT (AA AG (AA FI (AA (Ao (AA AL AE)) (AA (AO (AA AL AE)) (AA AL (AA AL AE))))))))))))))))
noncomputable abbrev BV:Stmt:=top 52
theorem sc_Lwhole_otherwise:Ac ["_law_well_here", "_law_making_here", "_law_kind", "_law_size", "_law_begin", "_law_boxes", "_law_hands", "_law_some", "_law_more", "_law_extra"] ["_law_well_here", "_law_making_here"] (AI BV):=⟨rfl,rfl,rfl,by decide +kernel,rfl,by decide +kernel,by decide +kernel⟩
theorem Ft{Zq:List D->M D}{aM:Nat}{ZW:List D->M D}{Zm:Nat}{k:Nat}{f:Addr}(Z7:Fn P w K mg base "_law_bad_worths" [] aM Zq)(bh:aM<=k)(ZX:Fn P w K mg base "_law_draw" ["_law_well_here", "_law_base"] Zm ZW)(ZY:Zm<=k)(aX:mg "list" = none)(Z3:mg "tuple" = none)(Za:mg "len" = none)(cdv:Value)(A:Around)(outer:List Env)(s:Shared)(H:Hp)(E:XK)(hr:Room k (A.deeper (PyProof.Rows.envOfC "_law_whole_otherwise" (AI BV) s.heap.objs.size f cdv))):
  RSs (BP CX0 P w K mg base ["_law_well_here", "_law_making_here", "_law_kind", "_law_size", "_law_begin", "_law_boxes", "_law_hands", "_law_some", "_law_more", "_law_extra"] "_law_whole_otherwise" (AI BV) f cdv A outer s H E).nox (AX BV) (BX Zq ZW):=by
 have nd:=sc_Lwhole_otherwise.nd;exact(AK (Gh (AC 1) (FF (is:=[2,3,4,5,6]) rfl (Am (Ab (i:=2) nd rfl (by first|exact Or.inl rfl|exact Or.inr rfl)) (Am (Ab (i:=3) nd rfl (by first|exact Or.inl rfl|exact Or.inr rfl)) (Am (Ab (i:=4) nd rfl (by first|exact Or.inl rfl|exact Or.inr rfl)) (Am (Ab (i:=5) nd rfl (by first|exact Or.inl rfl|exact Or.inr rfl)) (Am (Ab (i:=6) nd rfl (by first|exact Or.inl rfl|exact Or.inr rfl)) EA)))))))
   (AK (AT 7 nd (Ao (AA DT (AA AG (AA AL (AA (Ao AE) (AA (Bp GY aX Mi.EV (AA (AC 1) AE)) (AA (Bc (AC 1) A2 (Az AG)) (AA (AW Ap (AC 1) (AO (AA AG AE))) (AA (AO AE) (AA (AO (AA (AC 1) AE)) AE)))))))))))
   (AK (AT 7 nd (AW Ap (AC 7) (Ao (AA (AO (AA (AC 2) (AA (AC 3) (AA (AC 4) (AA (Bp GY aX Mi.EV (AA (AC 5) AE)) (AA (AC 6) AE)))))) (AA (AO (AA (AC 2) (AA (AC 3) (AA (AC 4) (AA (AC 5) (AA (Bp GY aX Mi.EV (AA (AC 6) AE)) AE)))))) AE)))))
   (AK (AT 7 nd (AW Ap (AC 7) (Ao (AA (AO (AA (AC 2) (AA (AC 3) (AA (AC 4) (AA DT (AA (AC 6) AE)))))) (AA (AO (AA (AC 2) (AA (AC 3) (AA (AC 4) (AA (AC 5) (AA (Bc (AC 6) A2 (Az AG)) AE)))))) (AA (AW Ap (Bc (AC 1) A2 (Az AG)) (AO (AA (AO AE) AE))) AE))))))
   (AK (AT 8 nd (AO (AA (AO (AA AL (AA AG (AA (AO AE) AE)))) (AA (AO (AA AL (AA AG (AA (AO AE) AE)))) (AA (AO (AA AL (AA AG (AA (AO AE) AE)))) (AA (AO (AA AL (AA AG (AA (AO AE) AE)))) (AA (AO (AA AL (AA AG (AA (AO AE) AE)))) AE)))))))
   (AK (AT 7 nd (AW Ap (AC 7) (Ao (AA (AO (AA (AC 2) (AA (AC 3) (AA (AC 4) (AA (AC 5) (AA (Bc (AW Ap (AC 6) (AC 8)) A2 (Az AG)) AE)))))) (AA (AO (AA (AC 2) (AA (AC 3) (AA (AC 4) (AA (AC 5) (AA (AW MR (Bc (AC 6) A2 (Az AG)) AG) AE)))))) AE)))))
   (AK (AT 9 nd (Bp HV Z3 Mi.DK (AA (DN (tgs:=["_law_name"]) (ix:=[6]) (i:=0) (n:=1) ⟨rfl,by decide +kernel,by decide +kernel,⟨Or.inl rfl,trivial⟩,rfl,by decide +kernel⟩ rfl (CK (Ao (AA AL (AA AL (AA AL (AA AL (AA AL (AA AL (AA AL AE))))))))) (λ_ _ _ _=>Ab (i:=0) (show List.Nodup (["_law_name", "_law_hands"]:List Str) from by decide +kernel) rfl (Or.inl rfl)) (λ_ _ _ _=>Bo) (λ_ _ _ _=>(AO (AA (AC 0) (AA AL (AA AG (AA AG (AA (AU Aj (AU Aj (AC 1) AG) AG) AE)))))))) AE)))
   (AK (AT 7 nd (AW Ap (AC 7) (Ao (AA (AO (AA (AC 2) (AA (AC 3) (AA (AC 4) (AA (Bc (AW Ap (AC 5) (AC 9)) A2 (Az AG)) (AA (AC 6) AE)))))) (AA (AO (AA (AC 2) (AA (AC 3) (AA (AC 4) (AA (AW MR (Bc (AC 5) A2 (Az AG)) AG) (AA (AC 6) AE)))))) AE)))))
   (AK (AT 7 nd (AW Ap (AC 7) (DN (tgs:=["_law_worths"]) (ix:=[5,6]) (i:=0) (n:=1) ⟨rfl,by decide +kernel,by decide +kernel,⟨Or.inl rfl,Or.inl rfl,trivial⟩,rfl,by decide +kernel⟩ rfl (CK (Hy (hkj:=bh) Z7 hr)) (λ_ _ _ _=>Ab (i:=0) (show List.Nodup (["_law_worths", "_law_boxes", "_law_hands"]:List Str) from by decide +kernel) rfl (Or.inl rfl)) (λ_ _ _ _=>Bo) (λ_ _ _ _=>(AW Ap (AC 0) (AO (AA (AC 1) (AA (AC 2) AE))))))))
   (AQ (Ak (AU Aj (AC 7) (AS (hkj:=ZY) ZX hr (AA (AC 0) (AA (Ae CS Za Mi.Ax (AA (AC 7) AE)) AE)))))))))))))))
noncomputable abbrev Bn:Stmt:=top 53
theorem sc_Lbox_otherwise:Ac ["_law_well_here", "_law_making_here", "_law_kind", "_law_size", "_law_begin", "_law_boxes", "_law_hands", "_law_at", "_law_box", "_law_some", "_law_thing"] ["_law_well_here", "_law_making_here"] (AI Bn):=⟨rfl,rfl,rfl,by decide +kernel,rfl,by decide +kernel,by decide +kernel⟩
theorem Gi{ZW:List D->M D}{Zm:Nat}{Zp:List D->M D}{aV:Nat}{Zq:List D->M D}{aM:Nat}{k:Nat}{f:Addr}(ZX:Fn P w K mg base "_law_draw" ["_law_well_here", "_law_base"] Zm ZW)(ZY:Zm<=k)(Z5:Fn P w K mg base "_law_bad_names" [] aV Zp)(bE:aV<=k)(Z7:Fn P w K mg base "_law_bad_worths" [] aM Zq)(bh:aM<=k)(Za:mg "len" = none)(aX:mg "list" = none)(cdv:Value)(A:Around)(outer:List Env)(s:Shared)(H:Hp)(E:XK)(hr:Room k (A.deeper (PyProof.Rows.envOfC "_law_box_otherwise" (AI Bn) s.heap.objs.size f cdv))):
  RSs (BP CX0 P w K mg base ["_law_well_here", "_law_making_here", "_law_kind", "_law_size", "_law_begin", "_law_boxes", "_law_hands", "_law_at", "_law_box", "_law_some", "_law_thing"] "_law_box_otherwise" (AI Bn) f cdv A outer s H E).nox (AX Bn) (Br ZW Zp Zq):=by
 have nd:=sc_Lbox_otherwise.nd;exact(AK (Gh (AC 1) (FF (is:=[2,3,4,5,6]) rfl (Am (Ab (i:=2) nd rfl (by first|exact Or.inl rfl|exact Or.inr rfl)) (Am (Ab (i:=3) nd rfl (by first|exact Or.inl rfl|exact Or.inr rfl)) (Am (Ab (i:=4) nd rfl (by first|exact Or.inl rfl|exact Or.inr rfl)) (Am (Ab (i:=5) nd rfl (by first|exact Or.inl rfl|exact Or.inr rfl)) (Am (Ab (i:=6) nd rfl (by first|exact Or.inl rfl|exact Or.inr rfl)) EA)))))))
   (AK (AT 7 nd (AS (hkj:=ZY) ZX hr (AA (AC 0) (AA (Ae CS Za Mi.Ax (AA (AC 5) AE)) AE))))
   (AK (AT 8 nd (AU Aj (AC 5) (AC 7)))
   (AK (AT 9 nd (Ao (AA (Bp GY aX Mi.EV (AA (AC 8) AE)) (AA (Bc (AC 8) A2 (Az AG)) (AA (AW Ap (AC 8) (AO (AA AG AE))) (AA DT (AA (AO AE) (AA (AU Aj (AC 8) AG) AE))))))))
   (AK (AT 9 nd (AW Ap (AC 9) (DN (tgs:=["_law_name"]) (ix:=[8]) (i:=0) (n:=1) ⟨rfl,by decide +kernel,by decide +kernel,⟨Or.inl rfl,trivial⟩,rfl,by decide +kernel⟩ rfl (CK (Hy (hkj:=bE) Z5 hr)) (λ_ _ _ _=>Ab (i:=0) (show List.Nodup (["_law_name", "_law_box"]:List Str) from by decide +kernel) rfl (Or.inl rfl)) (λ_ _ _ _=>Bo) (λ_ _ _ _=>(AW Ap (AO (AA (AC 0) AE)) (Bc (AC 1) (Az AG) A2))))))
   (AK (AT 9 nd (AW Ap (AC 9) (DN (tgs:=["_law_worths"]) (ix:=[8]) (i:=0) (n:=1) ⟨rfl,by decide +kernel,by decide +kernel,⟨Or.inl rfl,trivial⟩,rfl,by decide +kernel⟩ rfl (CK (Hy (hkj:=bh) Z7 hr)) (λ_ _ _ _=>Ab (i:=0) (show List.Nodup (["_law_worths", "_law_box"]:List Str) from by decide +kernel) rfl (Or.inl rfl)) (λ_ _ _ _=>Bo) (λ_ _ _ _=>(AW Ap (AW Ap (Bc (AC 1) A2 (Az AG)) (AC 0)) (Bc (AC 1) (Az AG) A2))))))
   (AK (AT 9 nd (AW Ap (AC 9) (DN (tgs:=["_law_hand"]) (ix:=[8]) (i:=0) (n:=1) ⟨rfl,by decide +kernel,by decide +kernel,⟨Or.inl rfl,trivial⟩,rfl,by decide +kernel⟩ rfl (CK (AW Ap (Hy (hkj:=bE) Z5 hr) (Ao (AA AL (AA (AC 8) AE))))) (λ_ _ _ _=>Ab (i:=0) (show List.Nodup (["_law_hand", "_law_box"]:List Str) from by decide +kernel) rfl (Or.inl rfl)) (λ_ _ _ _=>Bo) (λ_ _ _ _=>(AW Ap (Bc (AC 1) A2 (Az AG)) (AO (AA (AC 0) AE)))))))
   (AK (AT 10 nd (AU Aj (AC 9) (AS (hkj:=ZY) ZX hr (AA (AC 0) (AA (Ae CS Za Mi.Ax (AA (AC 9) AE)) AE)))))
   (AQ (Ak (AO (AA (AC 2) (AA (AC 3) (AA (AC 4) (AA (AW Ap (AW Ap (Bc (AC 5) A2 (Az (AC 7))) (AO (AA (AC 10) AE))) (Bc (AC 5) (Az (AW Ap (AC 7) AG)) A2)) (AA (AC 6) AE))))))))))))))))
noncomputable abbrev Bg:Stmt:=top 54
theorem sc_Lhand_otherwise:Ac ["_law_well_here", "_law_making_here", "_law_at", "_law_name", "_law_within", "_law_rows", "_law_some", "_law_thing"] ["_law_well_here", "_law_making_here"] (AI Bg):=⟨rfl,rfl,rfl,by decide +kernel,rfl,by decide +kernel,by decide +kernel⟩
theorem GH{ZW:List D->M D}{Zm:Nat}{Zp:List D->M D}{aV:Nat}{k:Nat}{f:Addr}(ZX:Fn P w K mg base "_law_draw" ["_law_well_here", "_law_base"] Zm ZW)(ZY:Zm<=k)(Z5:Fn P w K mg base "_law_bad_names" [] aV Zp)(bE:aV<=k)(Za:mg "len" = none)(aX:mg "list" = none)(cdv:Value)(A:Around)(outer:List Env)(s:Shared)(H:Hp)(E:XK)(hr:Room k (A.deeper (PyProof.Rows.envOfC "_law_hand_otherwise" (AI Bg) s.heap.objs.size f cdv))):
  RSs (BP CX0 P w K mg base ["_law_well_here", "_law_making_here", "_law_at", "_law_name", "_law_within", "_law_rows", "_law_some", "_law_thing"] "_law_hand_otherwise" (AI Bg) f cdv A outer s H E).nox (AX Bg) (Bi ZW Zp):=by
 have nd:=sc_Lhand_otherwise.nd;exact(AK (AT 2 nd (AS (hkj:=ZY) ZX hr (AA (AC 0) (AA (Ae CS Za Mi.Ax (AA (AU Aj (AC 1) AG) AE)) AE))))
   (AK (Gh (AU Aj (AU Aj (AC 1) AG) (AC 2)) (FF (is:=[3,4,5]) rfl (Am (Ab (i:=3) nd rfl (by first|exact Or.inl rfl|exact Or.inr rfl)) (Am (Ab (i:=4) nd rfl (by first|exact Or.inl rfl|exact Or.inr rfl)) (Am (Ab (i:=5) nd rfl (by first|exact Or.inl rfl|exact Or.inr rfl)) EA)))))
   (AK (AT 6 nd (Ao (AA (Ao (AA (AC 3) (AA (AC 4) (AA (AC 5) AE)))) (AA (AO (AA (AC 3) (AA (AC 4) AE))) (AA (AO (AA (AC 3) (AA (AC 4) (AA (AC 5) (AA AG AE))))) (AA DT (AA (AO AE) (AA (AC 3) (AA (AO (AA (AC 3) (AA (AC 4) (AA (Bp GY aX Mi.EV (AA (AC 5) AE)) AE)))) AE)))))))))
   (AK (AT 6 nd (AW Ap (AC 6) (Ao (AA (AO (AA (AC 3) (AA (AC 4) (AA DT AE)))) (AA (AO (AA (AC 3) (AA (AC 4) (AA (AW MR (AO (AA (AO (AA AL (AA AG AE))) AE)) AG) AE)))) (AA (AO (AA (AC 3) (AA AG (AA (AC 5) AE)))) (AA (AO (AA (AC 3) (AA (Qb Q4 AG) (AA (AC 5) AE)))) AE)))))))
   (AK (AT 6 nd (AW Ap (AC 6) (DN (tgs:=["_law_odd"]) (ix:=[3,5]) (i:=0) (n:=1) ⟨rfl,by decide +kernel,by decide +kernel,⟨Or.inl rfl,Or.inl rfl,trivial⟩,rfl,by decide +kernel⟩ rfl (CK (Ao (AA FI (AA FI (AA DT (AA AL (AA (AW Ue AG AG) (AA (Ao (AA AG AE)) AE)))))))) (λ_ _ _ _=>Ab (i:=0) (show List.Nodup (["_law_odd", "_law_name", "_law_rows"]:List Str) from by decide +kernel) rfl (Or.inl rfl)) (λ_ _ _ _=>Bo) (λ_ _ _ _=>(AO (AA (AC 1) (AA (AC 0) (AA (AC 2) AE))))))))
   (AK (AT 6 nd (AW Ap (AW Ap (AC 6) (DN (tgs:=["_law_odd"]) (ix:=[5,4]) (i:=0) (n:=1) ⟨rfl,by decide +kernel,by decide +kernel,⟨Or.inl rfl,Or.inl rfl,trivial⟩,rfl,by decide +kernel⟩ rfl (CK (Hy (hkj:=bE) Z5 hr)) (λ_ _ _ _=>Ab (i:=0) (show List.Nodup (["_law_odd", "_law_rows", "_law_within"]:List Str) from by decide +kernel) rfl (Or.inl rfl)) (λ_ _ _ _=>Bo) (λ_ _ _ _=>(AO (AA (AC 0) (AA (AC 2) (AA (AC 1) AE))))))) (Ao (AA (AO (AA (AU Aj (AU Aj (AU Aj (AC 1) AG) (AW FK (AC 2) AG)) AG) (AA (AC 4) (AA (AC 5) AE)))) AE))))
   (AK (AT 7 nd (AU Aj (AC 6) (AS (hkj:=ZY) ZX hr (AA (AC 0) (AA (Ae CS Za Mi.Ax (AA (AC 6) AE)) AE)))))
   (AQ (Ak (AW Ap (Bc (AC 1) A2 (Az AG)) (AO (AA (AW Ap (AW Ap (Bc (AU Aj (AC 1) AG) A2 (Az (AC 2))) (AO (AA (AC 7) AE))) (Bc (AU Aj (AC 1) AG) (Az (AW Ap (AC 2) AG)) A2)) AE))))))))))))
noncomputable abbrev Dl:Stmt:=top 55
theorem sc_Lrefused:Ac ["_law_thing", "_law_good", "e", "_law_others"] ["_law_thing"] (AI Dl):=⟨rfl,rfl,rfl,by decide +kernel,rfl,by decide +kernel,by decide +kernel⟩
theorem MJ{Zh:List D->M Dx}{aB:Nat}{bF:Addr}{cw:Addr}{dj:Addr}{c7:Addr}{de:Addr}{di:Addr}{df:Addr}{dF:Addr}{ar:Addr}{k:Nat}{f:Addr}(Zw:FnX P w K mg base "check_making" ["making"] aB Zh)(aL:aB<=k)(mc_StrongError:mg "StrongError" = some (.ref bF))(mc_NoEvents:mg "NoEvents" = some (.ref cw))(mc_NoLine:mg "NoLine" = some (.ref dj))(mc_NoPaper:mg "NoPaper" = some (.ref c7))(mc_NoStep:mg "NoStep" = some (.ref de))(mc_NoText:mg "NoText" = some (.ref di))(mc_NoUpon:mg "NoUpon" = some (.ref df))(mc_TooMany:mg "TooMany" = some (.ref dF))(mc_NoMaking:mg "NoMaking" = some (.ref ar))(cd_StrongError:Cd K "StrongError" bF)(bl_StrongError:N2 K ["NoMaking"] bF)(tb_NoEvents_NoLine_NoPaper_NoStep_NoText_NoUpon_TooMany:Tb K [("NoMaking",false)] ([cw,dj,c7,de,di,df,dF].map Value.ref))(tb_NoMaking:Tb K [("NoMaking",true)] ([ar].map Value.ref))(tb_ValueError:Tb K [("NoMaking",true)] [.type "ValueError"])(ZZ:mg "isinstance" = none)(cR:mg "ValueError" = none)(cdv:Value)(A:Around)(outer:List Env)(s:Shared)(H:Hp)(E:XK)(hr:Room k (A.deeper (PyProof.Rows.envOfC "_law_refused" (AI Dl) s.heap.objs.size f cdv))):
  RSs (BP CX0 P w K mg base ["_law_thing", "_law_good", "e", "_law_others"] "_law_refused" (AI Dl) f cdv A outer s H E).nox (AX Dl) (Dr Zh):=by
 have nd:=sc_Lrefused.nd;exact(AK (AT 1 nd FI)
   (AK (Sj (i:=2) (ok:=["NoMaking"]) cd_StrongError mc_StrongError bl_StrongError nd (Cr (BH (Co (hkj:=aL) Zw hr (AA (AC 0) AE)))) (λ_=>(AK (AT 3 nd (Sn ZZ (AC 2) (Eh mc_NoEvents (Eh mc_NoLine (Eh mc_NoPaper (Eh mc_NoStep (Eh mc_NoText (Eh mc_NoUpon (Eh mc_TooMany WC))))))) tb_NoEvents_NoLine_NoPaper_NoStep_NoText_NoUpon_TooMany))
   (AQ (AT 1 nd (Dp (VO ZZ (AC 2) mc_NoMaking tb_NoMaking) (Dp (So ZZ (AC 2) (Eg cR PyProof.Rows.Boot.«ValueError») tb_ValueError) (FG (Qd (AC 3))))))))))
   (AQ (Ak (AC 1)))))
noncomputable abbrev LG:Stmt:=top 56
theorem sc_law:Ac ["_law_script", "_law_well_here", "_law_kind", "_law_size", "_law_begin", "_law_boxes", "_law_hands", "_law_making_here", "_law_cell", "_law_way", "_law_other"] ["_law_script"] (AI LG):=⟨rfl,rfl,rfl,by decide +kernel,rfl,by decide +kernel,by decide +kernel⟩
theorem Xg{bK:List D->M D}{dl:Nat}{ck:List D->M D}{fB:Nat}{cV:List D->M D}{eL:Nat}{Zh:List D->M Dx}{aB:Nat}{ZW:List D->M D}{Zm:Nat}{Z8:List D->M D}{bp:Nat}{aK:List D->M D}{cM:Nat}{aC:List D->M D}{bz:Nat}{cG:List D->M D}{dn:Nat}{k:Nat}{f:Addr}(cF:Fn P w K mg base "_law_cell_at" ["_law_script", "_law_k"] dl bK)(dc:dl<=k)(dR:Fn P w K mg base "_law_well" ["_law_cell"] fB ck)(eU:fB<=k)(dB:Fn P w K mg base "_law_making" ["_law_well_here"] eL cV)(fE:eL<=k)(Zw:FnX P w K mg base "check_making" ["making"] aB Zh)(aL:aB<=k)(ZX:Fn P w K mg base "_law_draw" ["_law_well_here", "_law_base"] Zm ZW)(ZY:Zm<=k)(aT:Fn P w K mg base "_law_whole_otherwise" ["_law_well_here", "_law_making_here"] bp Z8)(c6:bp<=k)(bI:Fn P w K mg base "_law_box_otherwise" ["_law_well_here", "_law_making_here"] cM aK)(dY:cM<=k)(bB:Fn P w K mg base "_law_hand_otherwise" ["_law_well_here", "_law_making_here"] bz aC)(dA:bz<=k)(cq:Fn P w K mg base "_law_refused" ["_law_thing"] dn cG)(fA:dn<=k)(cdv:Value)(A:Around)(outer:List Env)(s:Shared)(H:Hp)(E:XK)(hr:Room k (A.deeper (PyProof.Rows.envOfC "law" (AI LG) s.heap.objs.size f cdv))):
  RSs (BP CX0 P w K mg base ["_law_script", "_law_well_here", "_law_kind", "_law_size", "_law_begin", "_law_boxes", "_law_hands", "_law_making_here", "_law_cell", "_law_way", "_law_other"] "law" (AI LG) f cdv A outer s H E).nox (AX LG) (m_law bK ck cV Zh ZW Z8 aK aC cG):=by
 have nd:=sc_law.nd;exact(AK (AT 1 nd (AS (hkj:=eU) dR hr (AA (AS (hkj:=dc) cF hr (AA (AC 0) (AA AG AE))) AE)))
   (AK (Gh (AS (hkj:=fE) dB hr (AA (AC 1) AE)) (FF (is:=[2,3,4,5,6]) rfl (Am (Ab (i:=2) nd rfl (by first|exact Or.inl rfl|exact Or.inr rfl)) (Am (Ab (i:=3) nd rfl (by first|exact Or.inl rfl|exact Or.inr rfl)) (Am (Ab (i:=4) nd rfl (by first|exact Or.inl rfl|exact Or.inr rfl)) (Am (Ab (i:=5) nd rfl (by first|exact Or.inl rfl|exact Or.inr rfl)) (Am (Ab (i:=6) nd rfl (by first|exact Or.inl rfl|exact Or.inr rfl)) EA)))))))
   (AK (BO (Au (C0 hr) (AC 5) (AO AE)) (AQ (AT 5 nd (AO (AA (AO (AA AL (AA AL (AA AG (AA AG (AA (AU Aj (AU Aj (AC 6) AG) AG) AE)))))) AE)))) As)
   (AK (AT 7 nd (AO (AA (AC 2) (AA (AC 3) (AA (AC 4) (AA (AC 5) (AA (AC 6) AE)))))))
   (AK (BO (Au Tg (Qe (hkj:=aL) Zw hr (AA (AC 7) AE)) DT) (AQ (Ak FI)) As)
   (AK (FE PassesOwn.never rfl (CK (AW Ap (Ao (AA (AS (hkj:=dc) cF hr (AA (AC 0) (AA AG AE))) AE)) (Bc (AC 0) (Az AG) (Az AG)))) (D8 8 nd) (AK (AT 1 nd (AS (hkj:=eU) dR hr (AA (AC 8) AE)))
   (AK (AT 9 nd (AS (hkj:=ZY) ZX hr (AA (AC 1) (AA AG AE))))
   (AK (BO (Au (C0 hr) (AC 9) AG) (AQ (AT 10 nd (AS (hkj:=c6) aT hr (AA (AC 1) (AA (AC 7) AE))))) (AQ (BO (Au (C0 hr) (AC 9) AG) (AQ (AT 10 nd (AS (hkj:=dY) bI hr (AA (AC 1) (AA (AC 7) AE))))) (AQ (AT 10 nd (AS (hkj:=dA) bB hr (AA (AC 1) (AA (AC 7) AE))))))))
   (AQ (BO (KD (Hu (AS (hkj:=fA) cq hr (AA (AC 10) AE)))) (AQ (Ak FI)) As))))))
   (AQ (Ak (CV ZC (Qe (hkj:=aL) Zw hr (AA (AC 7) AE)) DT)))))))))
end
noncomputable def f_Lmaking:List D->M D:=BG .drop 15 1 (m_Lmaking BA Ic)
noncomputable def Ek:List D->M Dx:=Ey .all 2 2 (GL)
noncomputable def CA:List D->M Dx:=Ey .all 3 3 (B9 Ek Ci)
noncomputable def DA:List D->M Dx:=Ey .all 2 1 (CN Ek Cj Cq CA DB)
noncomputable def C9:List D->M Dx:=Ey .all 2 1 (CM Ek Cj Cq Ci DB)
noncomputable def Al:List D->M Dx:=Ey .all 6 1 (Be Ek Cj CA DA C9 C8)
noncomputable def DQ:List D->M D:=Ez .all 1 0 (DP)
noncomputable def BY:List D->M D:=Ez .all 10 2 (BX DQ BA)
noncomputable def El:List D->M D:=Ez .all 0 0 (Dd)
noncomputable def Bv:List D->M D:=Ez .all 11 2 (Br BA El DQ)
noncomputable def Bk:List D->M D:=Ez .all 8 2 (Bi BA El)
noncomputable def Dy:List D->M D:=Ez .all 4 1 (Dr Al)
noncomputable def f_law:List D->M D:=BG .drop 11 1 (m_law Ck GS f_Lmaking Al BA BY Bv Bk Dy)
theorem all_mk{l:PySem.W.OpenLaw}{w:World}{K:PySem.W.Frag}{h:Heap}{mg:Str->Option Value}{fa:Addr}(hφ:∀ns:List Int,ns.length<=63->∃μ',f_law [.scr ns] []=some (.bl true,μ'))(X:K.In h)(G:h.Ns mainGlobals mg)(hfa:mg "law" = some (.ref fa))
  (cv:∃f fd,Df K "_law_cell_at" Dm f fd)
  (eK:∃f fd,Df K "_law_well" GC f fd)
  (d9:∃f fd,Df K "_law_draw" GE f fd)
  (eG:∃f fd,Df K "_law_expr" GD f fd)
  (eo:∃f fd,Df K "_law_row" Hr f fd)
  (dN:∃f fd,Df K "_law_making" EM f fd)
  (d8:∃f fd,Df K "need" GB f fd)
  (cz:∃f fd,Df K "is_tuple" Dk f fd)
  (cr:∃f fd,Df K "is_whole" Dj f fd)
  (bT:∃f fd,Df K "check_worths" B7 f fd)
  (dE:∃f fd,Df K "is_name" EL f fd)
  (cQ:∃f fd,Df K "are_unlike" Cw f fd)
  (bc:∃f fd,Df K "check_boxes" CJ f fd)
  (bd:∃f fd,Df K "check_hands" CH f fd)
  (eW:∃f fd,Df K "need" Hq f fd)
  (bR:∃f fd,Df K "is_expression" B6 f fd)
  (dL:∃f fd,Df K "is_part" EK f fd)
  (cU:∃f fd,Df K "check_form" Cv f fd)
  (bU:∃f fd,Df K "check_ending" CI f fd)
  (bn:∃f fd,Df K "variables_in" CG f fd)
  (bV:∃f fd,Df K "variables_of" CF f fd)
  (au:∃f fd,Df K "check_variables" Bf f fd)
  (cL:∃f fd,Df K "check_rows" Cu f fd)
  (bN:∃f fd,Df K "check_making" B8 f fd)
  (br:∃f fd,Df K "_law_bad_worths" CY f fd)
  (aS:∃f fd,Df K "_law_whole_otherwise" BV f fd)
  (cK:∃f fd,Df K "_law_bad_names" Cy f fd)
  (bG:∃f fd,Df K "_law_box_otherwise" Bn f fd)
  (bA:∃f fd,Df K "_law_hand_otherwise" Bg f fd)
  (cx:∃f fd,Df K "_law_refused" Dl f fd)
  (fH:∃f fd,Df K "law" LG f fd)
  (x_NoEvents:∃C,BK K "NoEvents" C)
  (x_NoLine:∃C,BK K "NoLine" C)
  (x_NoMaking:∃C,BK K "NoMaking" C)
  (x_NoPaper:∃C,BK K "NoPaper" C)
  (x_NoStep:∃C,BK K "NoStep" C)
  (x_NoText:∃C,BK K "NoText" C)
  (x_NoUpon:∃C,BK K "NoUpon" C)
  (x_StrongError:∃C,BK K "StrongError" C)
  (x_TooMany:∃C,BK K "TooMany" C)
  (xr_NoMaking:∀C,BK K "NoMaking" C->Ec K "NoMaking" C)
  (xc_StrongError:∀C,BK K "StrongError" C->Cd K "StrongError" C)
  (xb_StrongError:∀C,BK K "StrongError" C->N2 K ["NoMaking"] C)
  (xtb_NoEvents_NoLine_NoPaper_NoStep_NoText_NoUpon_TooMany:∀Ds,NsL K ["NoEvents", "NoLine", "NoPaper", "NoStep", "NoText", "NoUpon", "TooMany"] Ds->Tb K [("NoMaking",false)] (Ds.map Value.ref))
  (xtb_NoMaking:∀Ds,NsL K ["NoMaking"] Ds->Tb K [("NoMaking",true)] (Ds.map Value.ref))
  (xtb_ValueError:Tb K [("NoMaking",true)] [.type "ValueError"])
  (cO:PySem.W.nsIn K mainGlobals "ValueError" = some none)
  (fI:PySem.W.nsIn K mainGlobals "all" = some none)
  (et:PySem.W.nsIn K mainGlobals "bool" = some none)
  (cY:PySem.W.nsIn K mainGlobals "enumerate" = some none)
  (fR:PySem.W.nsIn K mainGlobals "int" = some none)
  (cP:PySem.W.nsIn K mainGlobals "isinstance" = some none)
  (fM:PySem.W.nsIn K mainGlobals "len" = some none)
  (eT:PySem.W.nsIn K mainGlobals "list" = some none)
  (fJ:PySem.W.nsIn K mainGlobals "max" = some none)
  (fK:PySem.W.nsIn K mainGlobals "min" = some none)
  (eE:PySem.W.nsIn K mainGlobals "range" = some none)
  (fO:PySem.W.nsIn K mainGlobals "set" = some none)
  (fN:PySem.W.nsIn K mainGlobals "str" = some none)
  (eC:PySem.W.nsIn K mainGlobals "tuple" = some none)
  (fF:PySem.W.nsIn K mainGlobals "zip" = some none)
  (bo:Glo K mg "DEEPEST" DJ)
  (bM:Glo K mg "GREATEST" Cm)
  (cj:Glo K mg "KINDS" Kk)
  (aO:Glo K mg "LEAST_HANDS" EH)
  (aU:Glo K mg "LEAST_SIZE" Ep)
  (bq:Glo K mg "LETTERS" ES)
  (aZ:Glo K mg "MOST_BOXES" Eo)
  (ac:Glo K mg "MOST_HANDS" En)
  (bC:Glo K mg "MOST_ROWS" FU)
  (bD:Glo K mg "MOST_SIZE" FT)
  (aN:Glo K mg "MOST_WITHIN" EG)
  (aG:Glo K mg "NO_VARIABLES" CO)
  (ah:Glo K mg "PAIR_WORDS" B4)
  (al:PV w K mg "PARTS" BQ) :
  ∃fd:FuncData,(∀(s:Shared) (v:Value),BindsTo s fd ⟨[v],[]⟩ [("_law_script",v)])/\∀base:Heap,K.In base->base.Ns mainGlobals mg->FnOk l.prog w K mg base CX0 14 fa fd ["_law_script"] (NC K):=by
 have cR:=PySem.W.mg_none_of X G cO;have fP:=PySem.W.mg_none_of X G fI;have eV:=PySem.W.mg_none_of X G et;have aQ:=PySem.W.mg_none_of X G cY;have cp:=PySem.W.mg_none_of X G fR;have ZZ:=PySem.W.mg_none_of X G cP;have Za:=PySem.W.mg_none_of X G fM;have aX:=PySem.W.mg_none_of X G eT;have fG:=PySem.W.mg_none_of X G fJ;have dW:=PySem.W.mg_none_of X G fK;have dU:=PySem.W.mg_none_of X G eE;have fU:=PySem.W.mg_none_of X G fO;have dQ:=PySem.W.mg_none_of X G fN;have Z3:=PySem.W.mg_none_of X G eC;have dO:=PySem.W.mg_none_of X G fF;obtain⟨fa_Lcell_at,fd_Lcell_at,cn⟩:=cv;have B3:=PySem.W.mg_of X G cn.a;have fT:=cn.F.binds (ps:=["_law_script", "_law_k"]) λ_ _ _ _ _ _ us hl=>match us,hl with | [_,_],_=>rfl
 obtain⟨fa_Lwell,fd_Lwell,dz⟩:=eK;have Fc:=PySem.W.mg_of X G dz.a;have fc:=dz.F.binds (ps:=["_law_cell"]) λ_ _ _ _ _ _ us hl=>match us,hl with | [_],_=>rfl
 obtain⟨fa_Ldraw,fd_Ldraw,eB⟩:=d9;have EB:=PySem.W.mg_of X G eB.a;have fb:=eB.F.binds (ps:=["_law_well_here", "_law_base"]) λ_ _ _ _ _ _ us hl=>match us,hl with | [_,_],_=>rfl
 obtain⟨fa_Lexpr,fd_Lexpr,dS⟩:=eG;have GM:=PySem.W.mg_of X G dS.a;have fD:=dS.F.binds (ps:=["_law_well_here", "_law_names", "_law_deep"]) λ_ _ _ _ _ _ us hl=>match us,hl with | [_,_,_],_=>rfl
 obtain⟨fa_Lrow,fd_Lrow,e9⟩:=eo;have KN:=PySem.W.mg_of X G e9.a;have fh:=e9.F.binds (ps:=["_law_well_here", "_law_own", "_law_boxes", "_law_names", "_law_many", "_law_is_writer"]) λ_ _ _ _ _ _ us hl=>match us,hl with | [_,_,_,_,_,_],_=>rfl
 obtain⟨fa_Lmaking,fd_Lmaking,dD⟩:=dN;have m_Lmaking:=PySem.W.mg_of X G dD.a;have fZ:=dD.F.binds (ps:=["_law_well_here"]) λ_ _ _ _ _ _ us hl=>match us,hl with | [_],_=>rfl
 obtain⟨fa_needX,fd_needX,eA⟩:=d8;have GL:=PySem.W.mg_of X G eA.a;have fe:=eA.F.binds (ps:=["holds", "words"]) λ_ _ _ _ _ _ us hl=>match us,hl with | [_,_],_=>rfl
 obtain⟨fa_is_tuple,fd_is_tuple,cy⟩:=cz;have DI:=PySem.W.mg_of X G cy.a;have fV:=cy.F.binds (ps:=["thing", "least", "most"]) λ_ _ _ _ _ _ us hl=>match us,hl with | [_,_,_],_=>rfl
 obtain⟨fa_is_whole,fd_is_whole,cm⟩:=cr;have DH:=PySem.W.mg_of X G cm.a;have fL:=cm.F.binds (ps:=["thing", "least", "most"]) λ_ _ _ _ _ _ us hl=>match us,hl with | [_,_,_],_=>rfl
 obtain⟨fa_check_worthsX,fd_check_worthsX,bP⟩:=bT;have B9:=PySem.W.mg_of X G bP.a;have dv:=bP.F.binds (ps:=["kind", "size", "begin"]) λ_ _ _ _ _ _ us hl=>match us,hl with | [_,_,_],_=>rfl
 obtain⟨fa_is_name,fd_is_name,c9⟩:=dE;have EQ:=PySem.W.mg_of X G c9.a;have fX:=c9.F.binds (ps:=["thing"]) λ_ _ _ _ _ _ us hl=>match us,hl with | [_],_=>rfl
 obtain⟨fa_are_unlike,fd_are_unlike,cN⟩:=cQ;have CP:=PySem.W.mg_of X G cN.a;have el:=cN.F.binds (ps:=["names"]) λ_ _ _ _ _ _ us hl=>match us,hl with | [_],_=>rfl
 obtain⟨fa_check_boxesX,fd_check_boxesX,bZ⟩:=bc;have CN:=PySem.W.mg_of X G bZ.a;have d7:=bZ.F.binds (ps:=["boxes"]) λ_ _ _ _ _ _ us hl=>match us,hl with | [_],_=>rfl
 obtain⟨fa_check_handsX,fd_check_handsX,bj⟩:=bd;have CM:=PySem.W.mg_of X G bj.a;have eF:=bj.F.binds (ps:=["hands"]) λ_ _ _ _ _ _ us hl=>match us,hl with | [_],_=>rfl
 obtain⟨fa_need,fd_need,eY⟩:=eW;have KM:=PySem.W.mg_of X G eY.a;have fg:=eY.F.binds (ps:=["holds", "words"]) λ_ _ _ _ _ _ us hl=>match us,hl with | [_,_],_=>rfl
 obtain⟨fa_is_expression,fd_is_expression,aR⟩:=bR;have A0:=PySem.W.mg_of X G aR.a;have cX:=aR.F.binds (ps:=["thing", "deep"]) λ_ _ _ _ _ _ us hl=>match us,hl with | [_,_],_=>rfl
 obtain⟨fa_is_part,fd_is_part,dH⟩:=dL;have Cp:=PySem.W.mg_of X G dH.a;have fW:=dH.F.binds (ps:=["part", "thing", "length"]) λ_ _ _ _ _ _ us hl=>match us,hl with | [_,_,_],_=>rfl
 obtain⟨fa_check_form,fd_check_form,cI⟩:=cU;have A6:=PySem.W.mg_of X G cI.a;have eg:=cI.F.binds (ps:=["row", "length"]) λ_ _ _ _ _ _ us hl=>match us,hl with | [_,_],_=>rfl
 obtain⟨fa_check_ending,fd_check_ending,bb⟩:=bU;have Bq:=PySem.W.mg_of X G bb.a;have eJ:=bb.F.binds (ps:=["word", "is_writer"]) λ_ _ _ _ _ _ us hl=>match us,hl with | [_,_],_=>rfl
 obtain⟨fa_variables_in,fd_variables_in,ao⟩:=bn;have Aw:=PySem.W.mg_of X G ao.a;have cb:=ao.F.binds (ps:=["expression"]) λ_ _ _ _ _ _ us hl=>match us,hl with | [_],_=>rfl
 obtain⟨fa_variables_of,fd_variables_of,be⟩:=bV;have Ar:=PySem.W.mg_of X G be.a;have eD:=be.F.binds (ps:=["row"]) λ_ _ _ _ _ _ us hl=>match us,hl with | [_],_=>rfl
 obtain⟨fa_check_variables,fd_check_variables,a0⟩:=au;have Bh:=PySem.W.mg_of X G a0.a;have dX:=a0.F.binds (ps:=["row", "is_writer"]) λ_ _ _ _ _ _ us hl=>match us,hl with | [_,_],_=>rfl
 obtain⟨fa_check_rows,fd_check_rows,cS⟩:=cL;have Dc:=PySem.W.mg_of X G cS.a;have eZ:=cS.F.binds (ps:=["hand", "is_writer", "writers"]) λ_ _ _ _ _ _ us hl=>match us,hl with | [_,_,_],_=>rfl
 obtain⟨fa_check_makingX,fd_check_makingX,bO⟩:=bN;have Be:=PySem.W.mg_of X G bO.a;have du:=bO.F.binds (ps:=["making"]) λ_ _ _ _ _ _ us hl=>match us,hl with | [_],_=>rfl
 obtain⟨fa_Lbad_worths,fd_Lbad_worths,bu⟩:=br;have DP:=PySem.W.mg_of X G bu.a;have eQ:=bu.F.binds (ps:=[]) λ_ _ _ _ _ _ us hl=>match us,hl with | [],_=>rfl
 obtain⟨fa_Lwhole_otherwise,fd_Lwhole_otherwise,af⟩:=aS;have BX:=PySem.W.mg_of X G af.a;have c8:=af.F.binds (ps:=["_law_well_here", "_law_making_here"]) λ_ _ _ _ _ _ us hl=>match us,hl with | [_,_],_=>rfl
 obtain⟨fa_Lbad_names,fd_Lbad_names,cH⟩:=cK;have Dd:=PySem.W.mg_of X G cH.a;have eX:=cH.F.binds (ps:=[]) λ_ _ _ _ _ _ us hl=>match us,hl with | [],_=>rfl
 obtain⟨fa_Lbox_otherwise,fd_Lbox_otherwise,bH⟩:=bG;have Br:=PySem.W.mg_of X G bH.a;have dh:=bH.F.binds (ps:=["_law_well_here", "_law_making_here"]) λ_ _ _ _ _ _ us hl=>match us,hl with | [_,_],_=>rfl
 obtain⟨fa_Lhand_otherwise,fd_Lhand_otherwise,az⟩:=bA;have Bi:=PySem.W.mg_of X G az.a;have dZ:=az.F.binds (ps:=["_law_well_here", "_law_making_here"]) λ_ _ _ _ _ _ us hl=>match us,hl with | [_,_],_=>rfl
 obtain⟨fa_Lrefused,fd_Lrefused,cu⟩:=cx;have Dr:=PySem.W.mg_of X G cu.a;have fQ:=cu.F.binds (ps:=["_law_thing"]) λ_ _ _ _ _ _ us hl=>match us,hl with | [_],_=>rfl
 obtain⟨fa_law,fd_law,eR⟩:=fH;have m_law:=PySem.W.mg_of X G eR.a;have fi:=eR.F.binds (ps:=["_law_script"]) λ_ _ _ _ _ _ us hl=>match us,hl with | [_],_=>rfl
 obtain⟨cw,at_NoEvents⟩:=x_NoEvents;have mc_NoEvents:=PySem.W.mg_of X G at_NoEvents;obtain⟨dj,at_NoLine⟩:=x_NoLine;have mc_NoLine:=PySem.W.mg_of X G at_NoLine;obtain⟨ar,at_NoMaking⟩:=x_NoMaking;have mc_NoMaking:=PySem.W.mg_of X G at_NoMaking;obtain⟨c7,at_NoPaper⟩:=x_NoPaper;have mc_NoPaper:=PySem.W.mg_of X G at_NoPaper;obtain⟨de,at_NoStep⟩:=x_NoStep;have mc_NoStep:=PySem.W.mg_of X G at_NoStep;obtain⟨di,at_NoText⟩:=x_NoText;have mc_NoText:=PySem.W.mg_of X G at_NoText;obtain⟨df,at_NoUpon⟩:=x_NoUpon;have mc_NoUpon:=PySem.W.mg_of X G at_NoUpon;obtain⟨bF,at_StrongError⟩:=x_StrongError;have mc_StrongError:=PySem.W.mg_of X G at_StrongError;obtain⟨dF,at_TooMany⟩:=x_TooMany;have mc_TooMany:=PySem.W.mg_of X G at_TooMany;have ec_NoMaking:=xr_NoMaking _ at_NoMaking;have cd_StrongError:=xc_StrongError _ at_StrongError;have bl_StrongError:=xb_StrongError _ at_StrongError;have tb_NoEvents_NoLine_NoPaper_NoStep_NoText_NoUpon_TooMany:=xtb_NoEvents_NoLine_NoPaper_NoStep_NoText_NoUpon_TooMany _ (.cons at_NoEvents (.cons at_NoLine (.cons at_NoPaper (.cons at_NoStep (.cons at_NoText (.cons at_NoUpon (.cons at_TooMany NsL.nil)))))));have tb_NoMaking:=xtb_NoMaking _ (.cons at_NoMaking NsL.nil);have tb_ValueError:=xtb_ValueError;have e:=hfa.symm.trans m_law;cases e;refine⟨fd_law,λs v=>?_,λbase _ _=>?_⟩
 ·obtain⟨oc,od,kV,doc,pm,an,cdv,ct,osl,rfl,lk,hcd⟩:=eR.F.ex;exact .of_eq rfl
 have cF:Fn l.prog w K mg base "_law_cell_at" ["_law_script", "_law_k"] 1 (Ck):=BR (k:=0) .drop cn.F sc_Lcell_at B3 fT (MK Za);have dR:Fn l.prog w K mg base "_law_well" ["_law_cell"] 1 (GS):=BR (k:=0) .all dz.F sc_Lwell Fc fc (Sx fG);have ZX:Fn l.prog w K mg base "_law_draw" ["_law_well_here", "_law_base"] 1 (BA):=BR (k:=0) .drop eB.F sc_Ldraw EB fb Sz;have aP:∀n:Nat,Fn l.prog w K mg base "_law_expr" ["_law_well_here", "_law_names", "_law_deep"] (n+2) (DC n):=λn=>by
  induction n with
  |zero=>exact Ia dS.F GM fD
  |succ n ih=>exact(BR (k:=n+2) .drop dS.F sc_Lexpr GM fD (Sy ZX (by omega) ih (AAF _) Za dW)).mono (by omega)
 have eS:Fn l.prog w K mg base "_law_row" ["_law_well_here", "_law_own", "_law_boxes", "_law_names", "_law_many", "_law_is_writer"] 9 (Ic):=BR (k:=8) .drop e9.F sc_Lrow KN fh (VS ZX (by decide) (aP 6) (by decide) dW cp Za);have dB:Fn l.prog w K mg base "_law_making" ["_law_well_here"] 10 (f_Lmaking):=BR (k:=9) .drop dD.F sc_Lmaking m_Lmaking fZ (OR ZX (by decide) eS (by decide) dU Za aQ Z3);have Zg:FnX l.prog w K mg base "need" ["holds", "words"] 1 (Ek):=FR (k:=0) .all eA.F sc_needX GL fe (Sv mc_NoMaking ec_NoMaking);have Zj:Fn l.prog w K mg base "is_tuple" ["thing", "least", "most"] 1 (Cj):=BR (k:=0) .drop cy.F sc_is_tuple DI fV (MI Z3 ZZ Za);have Zn:Fn l.prog w K mg base "is_whole" ["thing", "least", "most"] 1 (Ci):=BR (k:=0) .drop cm.F sc_is_whole DH fL (MH cp ZZ eV);have Z1:FnX l.prog w K mg base "check_worths" ["kind", "size", "begin"] 2 (CA):=FR (k:=1) .all bP.F sc_check_worthsX B9 dv (HG Zg (by decide) Zn (by decide) cj aU bD);have Zy:Fn l.prog w K mg base "is_name" ["thing"] 1 (Cq):=BR (k:=0) .drop c9.F sc_is_name EQ fX (OQ dQ ZZ Za fP bq);have aF:Fn l.prog w K mg base "are_unlike" ["names"] 1 (DB):=BR (k:=0) .drop cN.F sc_are_unlike CP el (KH Za fU);have bi:FnX l.prog w K mg base "check_boxes" ["boxes"] 3 (DA):=FR (k:=2) .all bZ.F sc_check_boxesX CN d7 (ID Zg (by decide) Zj (by decide) Zy (by decide) Z1 (by decide) aF (by decide) aZ);have bX:FnX l.prog w K mg base "check_hands" ["hands"] 2 (C9):=FR (k:=1) .all bj.F sc_check_handsX CM eF (IB Zg (by decide) Zj (by decide) Zy (by decide) Zn (by decide) aF (by decide) aO ac aN bC);have Zu:Fn l.prog w K mg base "need" ["holds", "words"] 1 (Dw):=BR (k:=0) .drop eY.F sc_need KM fg VR;have Zv:∀n:Nat,Fn l.prog w K mg base "is_expression" ["thing", "deep"] (n+2) (Ce n):=λn=>by
  induction n with
  |zero=>exact Ia aR.F A0 cX
  |succ n ih=>exact(BR (k:=n+2) .drop aR.F sc_is_expression A0 cX (HF ih (AAF _) Zn (by omega) Zy (by omega) Z3 ZZ Za ah bM)).mono (by omega)
 have dI:Fn l.prog w K mg base "is_part" ["part", "thing", "length"] 9 (Di):=BR (k:=8) .drop dH.F sc_is_part Cp fW (OP (Zv 6) (by decide) Zn (by decide) Zy (by decide) bo);have cT:Fn l.prog w K mg base "check_form" ["row", "length"] 10 (Dh):=BR (k:=9) .drop cI.F sc_check_form A6 eg (KG Zj (by decide) Zu (by decide) dI (by decide) dQ ZZ Za dO al);have bW:Fn l.prog w K mg base "check_ending" ["word", "is_writer"] 2 (Bu):=BR (k:=1) .drop bb.F sc_check_ending Bq eJ (IC Zu (by decide));have aE:∀n:Nat,Fn l.prog w K mg base "variables_in" ["expression"] (n+1) (BF n):=λn=>by
  induction n with
  |zero=>exact Ia ao.F Aw cb
  |succ n ih=>exact(BR (k:=n+1) .frz ao.F sc_variables_in Aw cb (IA ih (AAF _))).mono (by omega)
 have bY:Fn l.prog w K mg base "variables_of" ["row"] 8 (C7):=BR (k:=7) .frz be.F sc_variables_of Ar eD (H9 (aE 6) (by decide) dO al);have av:Fn l.prog w K mg base "check_variables" ["row", "is_writer"] 9 (CC):=BR (k:=8) .drop a0.F sc_check_variables Bh dX (GG bY (by decide) Zu (by decide) aG);have cJ:Fn l.prog w K mg base "check_rows" ["hand", "is_writer", "writers"] 11 (C8):=BR (k:=10) .drop cS.F sc_check_rows Dc eZ (KF cT (by decide) bW (by decide) av (by decide) Zu (by decide) Za);have Zw:FnX l.prog w K mg base "check_making" ["making"] 12 (Al):=FR (k:=11) .all bO.F sc_check_makingX Be du (HH Zg (by decide) Zj (by decide) Z1 (by decide) bi (by decide) bX (by decide) cJ (by decide) aQ);have Z7:Fn l.prog w K mg base "_law_bad_worths" [] 1 (DQ):=ER (k:=0) .all bu.F sc_Lbad_worths DP eQ Iz;have aT:Fn l.prog w K mg base "_law_whole_otherwise" ["_law_well_here", "_law_making_here"] 2 (BY):=ER (k:=1) .all af.F sc_Lwhole_otherwise BX c8 (Ft Z7 (by decide) ZX (by decide) aX Z3 Za);have Z5:Fn l.prog w K mg base "_law_bad_names" [] 1 (El):=ER (k:=0) .all cH.F sc_Lbad_names Dd eX KI;have bI:Fn l.prog w K mg base "_law_box_otherwise" ["_law_well_here", "_law_making_here"] 2 (Bv):=ER (k:=1) .all bH.F sc_Lbox_otherwise Br dh (Gi ZX (by decide) Z5 (by decide) Z7 (by decide) Za aX);have bB:Fn l.prog w K mg base "_law_hand_otherwise" ["_law_well_here", "_law_making_here"] 2 (Bk):=ER (k:=1) .all az.F sc_Lhand_otherwise Bi dZ (GH ZX (by decide) Z5 (by decide) Za aX);have cq:Fn l.prog w K mg base "_law_refused" ["_law_thing"] 13 (Dy):=ER (k:=12) .all cu.F sc_Lrefused Dr fQ (MJ Zw (by decide) mc_StrongError mc_NoEvents mc_NoLine mc_NoPaper mc_NoStep mc_NoText mc_NoUpon mc_TooMany mc_NoMaking cd_StrongError bl_StrongError tb_NoEvents_NoLine_NoPaper_NoStep_NoText_NoUpon_TooMany tb_NoMaking tb_ValueError ZZ cR);exact MC (φ:=f_law) (Rb (k:=13) .drop eR.F sc_law (Xg cF (by decide) dR (by decide) dB (by decide) Zw (by decide) ZX (by decide) aT (by decide) bI (by decide) bB (by decide) cq (by decide))) hφ
end K3
namespace Mi
open PySem L2
section
variable{τ τ1:Sl}{μ μ1 μ2 μ3 μ4:Mh}{d x y z:D}{ds:List D}{ma mb mc:Sl->M D}{tc tb:Sl->M Bool}{b:Bool}{m1 m2:Sl->M (Fl×Sl)}{g g':D->D->M D}{r:Fl×Sl}
theorem DD{i:Nat}(h:τ[i]?=some (some d)):AD i τ μ=some (d,μ):=by unfold AD;rw[h]
theorem F3:mC d τ μ=some (d,μ):=rfl
theorem Bl(h1:ma τ μ=some (x,μ1))(h2:mb τ μ1=some (y,μ2))(h3:g x y μ2=some (d,μ3)):mOp g ma mb τ μ=some (d,μ3):=by unfold mOp;rw[AM h1,AM h2,h3]
theorem Up{u:D->M D}(h1:ma τ μ=some (x,μ1))(h3:u x μ1=some (d,μ3)):mUn u ma τ μ=some (d,μ3):=by unfold mUn;rw[AM h1,h3]
theorem UI:AH τ μ=some ([],μ):=rfl
theorem BZ{as:Sl->M (List D)}(h1:ma τ μ=some (x,μ1))(h2:as τ μ1=some (ds,μ2)):AB ma as τ μ=some (x::ds,μ2):=by unfold AB;rw[AM h1,AM h2];rfl
theorem A3{f:List D->M D}{as:Sl->M (List D)}(h1:as τ μ=some (ds,μ1))(h2:f ds μ1=some (d,μ2)):AF f as τ μ=some (d,μ2):=by unfold AF;rw[AM h1,h2]
theorem UK{f:D->List D->M D}{as:Sl->M (List D)}{u:Unit}(h1:ma τ μ=some (x,μ1))(h0:FQ x μ1=some (u,μ2))(h2:as τ μ2=some (ds,μ3))(h3:f x ds μ3=some (d,μ4)):Dt f ma as τ μ=some (d,μ4):=by unfold Dt;rw[AM h1,AM h0,AM h2,h3]
theorem CQ(h:ma τ μ=some (.bl b,μ1)):AY ma τ μ=some (b,μ1):=by unfold AY;rw[AM h];rfl
theorem Wm(h:tc τ μ=some (b,μ1)):JA tc τ μ=some (!b,μ1):=by unfold JA;rw[AM h];rfl
theorem GU(h1:tc τ μ=some (true,μ1))(h2:tb τ μ1=some (b,μ2)):IQ tc tb τ μ=some (b,μ2):=by unfold IQ;rw[AM h1,if_pos rfl,h2]
theorem Kh(h1:tc τ μ=some (false,μ1)):IQ tc tb τ μ=some (false,μ1):=by unfold IQ;rw[AM h1];rfl
theorem Wk(h1:tc τ μ=some (true,μ1)):mOr tc tb τ μ=some (true,μ1):=by unfold mOr;rw[AM h1];rfl
theorem Wl(h1:tc τ μ=some (false,μ1))(h2:tb τ μ1=some (b,μ2)):mOr tc tb τ μ=some (b,μ2):=by unfold mOr;rw[AM h1,if_neg (by decide),h2]
theorem Rg(h1:ma τ μ=some (.bl true,μ1))(h2:mb τ μ1=some (d,μ2)):DX ma mb τ μ=some (d,μ2):=by
 unfold DX;rw[AM h1,AM (show asB (.bl true) μ1=some (true,μ1) from rfl),if_pos rfl,h2]
theorem UE(h1:ma τ μ=some (.bl true,μ1)):MU ma mb τ μ=some (.bl true,μ1):=by
 unfold MU;rw[AM h1,AM (show asB (.bl true) μ1=some (true,μ1) from rfl)];rfl
theorem UF(h1:ma τ μ=some (.bl false,μ1))(h2:mb τ μ1=some (d,μ2)):MU ma mb τ μ=some (d,μ2):=by
 unfold MU;rw[AM h1,AM (show asB (.bl false) μ1=some (false,μ1) from rfl),if_neg (by decide),h2]
theorem UG(h:ma τ μ=some (.bl b,μ1)):HC ma τ μ=some (.bl (!b),μ1):=by
 unfold HC;rw[AM h,AM (show asB (.bl b) μ1=some (b,μ1) from rfl)];rfl
theorem UH(h:tc τ μ=some (true,μ1)):JA tc τ μ=some (false,μ1):=Wm h
theorem Re(h:ma τ μ=some (.bl false,μ1)):HC ma τ μ=some (.bl true,μ1):=UG h
theorem O6(h1:ma τ μ=some (x,μ1))(h2:mb τ μ1=some (y,μ2))(h3:g x y μ2=some (.bl true,μ3))(h4:mc τ μ3=some (z,μ4))(h5:g' y z μ4=some (d,μ4)):Du g g' ma mb mc τ μ=some (d,μ4):=by
 unfold Du;rw[AM h1,AM h2,AM h3,AM (show asB (.bl true) μ3=some (true,μ3) from rfl),if_pos rfl,AM h4,h5]
theorem O4:BC τ μ=some (none,μ):=rfl
theorem UD{i:Int}(h:ma τ μ=some (.int i,μ1)):BT ma τ μ=some (some i,μ1):=by unfold BT;rw[AM h];rfl
theorem Ya{l h:Sl->M (Option Int)}{a b:Option Int}(h1:ma τ μ=some (x,μ1))(h2:l τ μ1=some (a,μ2))(h3:h τ μ2=some (b,μ3))(h4:Qj a b x μ3=some (d,μ4)):mSl ma l h τ μ=some (d,μ4):=by unfold mSl;rw[AM h1,AM h2,AM h3,h4]
theorem Wn:BW τ μ=some ((.next,τ),μ):=rfl
theorem BN(h1:m1 τ μ=some ((.next,τ1),μ1))(h2:m2 τ1 μ1=some (r,μ2)):AR m1 m2 τ μ=some (r,μ2):=by unfold AR;rw[AM h1];exact h2
theorem GT(h1:m1 τ μ=some ((.rt d,τ1),μ1)):AR m1 m2 τ μ=some ((.rt d,τ1),μ1):=by unfold AR;rw[AM h1];rfl
theorem Nm(h1:ma τ μ=some (d,μ1)):BE ma τ μ=some ((.next,τ),μ1):=by unfold BE;rw[AM h1];rfl
theorem Kf(h1:ma τ μ=some (d,μ1)):A9 ma τ μ=some ((.rt d,τ),μ1):=by unfold A9;rw[AM h1];rfl
theorem Gw(h1:tc τ μ=some (true,μ1))(h2:m1 τ μ1=some (r,μ2)):sIf tc m1 m2 τ μ=some (r,μ2):=by unfold sIf;rw[AM h1,if_pos rfl,h2]
theorem DV(h1:tc τ μ=some (false,μ1))(h2:m2 τ μ1=some (r,μ2)):sIf tc m1 m2 τ μ=some (r,μ2):=by unfold sIf;rw[AM h1,if_neg (by decide),h2]
theorem Dz{bf:D->Sl->M Sl}(h1:ma τ μ=some (d,μ1))(h2:bf d τ μ1=some (τ1,μ2)):Ai ma bf τ μ=some ((.next,τ1),μ2):=by unfold Ai;rw[AM h1,AM h2];rfl
theorem UJ{i:Nat}(h:τ.set i (some d)=τ1):AN i d τ μ=some (τ1,μ):=by rw[←h];rfl
theorem Wj{u:Unit}(h1:ma τ μ=some (x,μ1))(h2:mb τ μ1=some (y,μ2))(h3:QJ x y d μ2=some (u,μ3)):SA ma mb d τ μ=some (τ,μ3):=by unfold SA;rw[AM h1,AM h2,AM h3];rfl
theorem Kg{src:Sl->M (List D)}{bf:D->Sl->M Sl}(h1:src τ μ=some (ds,μ1))(h2:Dv bf m1 ds τ μ1=some (r,μ2)):Ef src bf m1 τ μ=some (r,μ2):=by unfold Ef;rw[AM h1,h2]
theorem Oj{i j:Int}(h:i<j):Fu (.int i) (.int j) μ=some (.bl true,μ):=by show some (D.bl (decide (i<j)),μ)=_;rw[AAP h]
theorem RH{i j:Int}(h:j<=i):Fu (.int i) (.int j) μ=some (.bl false,μ):=by show some (D.bl (decide (i<j)),μ)=_;rw[AAO (by omega)]
theorem ZE{i j:Int}(h:i<=j):Fv (.int i) (.int j) μ=some (.bl true,μ):=by show some (D.bl (decide (i<=j)),μ)=_;rw[AAP h]
theorem ZF{i j:Int}(h:j<i):OS (.int i) (.int j) μ=some (.bl true,μ):=by show some (D.bl (decide (j<i)),μ)=_;rw[AAP h]
theorem YM{i j:Int}(h:i<=j):OS (.int i) (.int j) μ=some (.bl false,μ):=by show some (D.bl (decide (j<i)),μ)=_;rw[AAO (by omega)]
theorem YK{i j:Int}(h:0<j):HA (.int i) (.int j) μ=some (.int (i % j),μ):=by show (if 0<j then some (D.int (i % j),μ) else none)=_;rw[if_pos h]
theorem WS{i j:Int}(h:0<j)(h2:j<1073741824):Gk (.int i) (.int j) μ=some (.int (i / j),μ):=by show (if 0<j/\j<1073741824 then some (D.int (i / j),μ) else none)=_;rw[if_pos ⟨h,h2⟩]
theorem Ui{i j:Int}(h:(-(2 ^ 64)<i/\i<2 ^ 64)∨(-(2 ^ 64)<j/\j<2 ^ 64)):Dq (.int i) (.int j) μ=some (.int (i * j),μ):=by show (if (-(2 ^ 64)<i/\i<2 ^ 64)∨(-(2 ^ 64)<j/\j<2 ^ 64) then some (D.int (i * j),μ) else none)=_;rw[if_pos h]
theorem YR{i j:Int}:Cz (.int i) (.int j) μ=some (.int (i+j),μ):=rfl
theorem YF{i j:Int}:D9 (.int i) (.int j) μ=some (.int (i-j),μ):=rfl
theorem On{i:Int}:Eu [.int i,.ty "int"] μ=some (.bl true,μ):=by
 show (Et "int" "int").map (λb=>(D.bl b,μ))=_;rw[show Et "int" "int" = some true from by decide];rfl
theorem Oo{i:Int}:Eu [.int i,.ty "bool"] μ=some (.bl false,μ):=by
 show (Et "int" "bool").map (λb=>(D.bl b,μ))=_;rw[show Et "int" "bool" = some false from by decide];rfl
theorem Om{x:Str}:Eu [.str x,.ty "str"] μ=some (.bl true,μ):=by
 show (Et "str" "str").map (λb=>(D.bl b,μ))=_;rw[show Et "str" "str" = some true from by decide];rfl
theorem Ol{ds:List D}:Eu [.tup ds,.ty "tuple"] μ=some (.bl true,μ):=by
 show (Et "tuple" "tuple").map (λb=>(D.bl b,μ))=_;rw[show Et "tuple" "tuple" = some true from by decide];rfl
theorem Na{n:Nat}{ds:List D}{i:Int}(h:μ[n]?=some (.lst ds))(h2:atI ds i=some d):AV (.ref n) (.int i) μ=some (d,μ):=by
 show bnd (Bw (.ref n)) (λds=>ixD ds i) μ=_;rw[AM (show Bw (.ref n) μ=some (ds,μ) from by show (match μ[n]? with|some (.lst ds)=>some (ds,μ)|_=>none)=_;rw[h])];unfold ixD;rw[h2];rfl
theorem JU{ds:List D}{i:Int}(h2:atI ds i=some d):AV (.tup ds) (.int i) μ=some (d,μ):=by
 show bnd (Bw (.tup ds)) (λds=>ixD ds i) μ=_;rw[AM (show Bw (.tup ds) μ=some (ds,μ) from rfl)];unfold ixD;rw[h2];rfl
theorem IV{ds:List D}{i:Int}(h2:atI ds i=some d):AV (.lst ds) (.int i) μ=some (d,μ):=by
 show bnd (Bw (.lst ds)) (λds=>ixD ds i) μ=_;rw[AM (show Bw (.lst ds) μ=some (ds,μ) from rfl)];unfold ixD;rw[h2];rfl
theorem YG{n j:Nat}{k:Int}{ds:List D}(h:μ[n]?=some (.lst ds))(h2:ixN ds.length k=some j):QJ (.ref n) (.int k) d μ=some ((),μ.set n (.lst (ds.set j d))):=by
 show (match μ[n]? with|some (.lst ds)=>(ixN ds.length k).map λj=>((),μ.set n (.lst (ds.set j d)))|_=>none)=_;rw[h];show (ixN ds.length k).map _=_;rw[h2];rfl
end
end Mi
local macro_rules | `(tactic| wtm_at "h")=>`(tactic| first|rfl|assumption)
local macro_rules | `(tactic| wtm_at "b")=>`(tactic| first
 |(with_reducible apply Mi.Wn)|(with_reducible apply Mi.UI)|(with_reducible apply Mi.F3)|(with_reducible apply Mi.O4)|(with_reducible apply Mi.ev_retN)
 |((with_reducible apply Mi.DD);first|rfl|assumption)
 |((with_reducible apply Mi.GT);wtm_at "b")
 |((with_reducible apply Mi.BN);(wtm_at "b");(wtm_at "b"))
 |((with_reducible apply Mi.Dz);(wtm_at "b");(wtm_at "b"))
 |((with_reducible apply Mi.UJ);rfl)
 |((with_reducible apply Mi.Wj);(wtm_at "b");(wtm_at "b");(wtm_at "b"))
 |((with_reducible apply Mi.Nm);wtm_at "b")
 |((with_reducible apply Mi.Kf);wtm_at "b")
 |((with_reducible apply Mi.Gw);(wtm_at "b");(wtm_at "b"))
 |((with_reducible apply Mi.DV);(wtm_at "b");(wtm_at "b"))
 |((with_reducible apply Mi.Bl);(wtm_at "b");(wtm_at "b");(wtm_at "b"))
 |((with_reducible apply Mi.Up);(wtm_at "b");(wtm_at "b"))
 |((with_reducible apply Mi.A3);(wtm_at "b");(wtm_at "b"))
 |((with_reducible apply Mi.BZ);(wtm_at "b");(wtm_at "b"))
 |((with_reducible apply Mi.UK);(wtm_at "b");(wtm_at "b");(wtm_at "b");(wtm_at "b"))
 |((with_reducible apply Mi.CQ);wtm_at "b")
 |((with_reducible apply Mi.ev_notT);wtm_at "b")
 |((with_reducible apply Mi.UH);wtm_at "b")
 |((with_reducible apply Mi.GU);(wtm_at "b");(wtm_at "b"))
 |((with_reducible apply Mi.Kh);wtm_at "b")
 |((with_reducible apply Mi.Wl);(wtm_at "b");(wtm_at "b"))
 |((with_reducible apply Mi.Wk);wtm_at "b")
 |((with_reducible apply Mi.Rg);(wtm_at "b");(wtm_at "b"))
 |((with_reducible apply Mi.ev_andVF);wtm_at "b")
 |((with_reducible apply Mi.UF);(wtm_at "b");(wtm_at "b"))
 |((with_reducible apply Mi.UE);wtm_at "b")
 |((with_reducible apply Mi.Re);wtm_at "b")
 |((with_reducible apply Mi.ev_notVF);wtm_at "b")
 |((with_reducible apply Mi.O6);(wtm_at "b");(wtm_at "b");(wtm_at "b");(wtm_at "b");(wtm_at "b"))
 |((with_reducible apply Mi.ev_chainF);(wtm_at "b");(wtm_at "b");(wtm_at "b"))
 |((with_reducible apply Mi.UD);wtm_at "b")
 |((with_reducible apply Mi.Ya);(wtm_at "b");(wtm_at "b");(wtm_at "b");(wtm_at "b"))
 |wtm_at "h")
local macro_rules | `(tactic| wtm_at "e")=>`(tactic| first|assumption|decide|omega)
local macro_rules | `(tactic| wtm_at "h")=>`(tactic| first
 |((with_reducible apply Mi.ZE);wtm_at "e")|((with_reducible apply Mi.l_leF);wtm_at "e")|((with_reducible apply Mi.Oj);wtm_at "e")|((with_reducible apply Mi.RH);wtm_at "e")|((with_reducible apply Mi.ZF);wtm_at "e")|((with_reducible apply Mi.YM);wtm_at "e")
 |(with_reducible apply Mi.On)|(with_reducible apply Mi.Oo)|(with_reducible apply Mi.Om)|(with_reducible apply Mi.Ol)|(with_reducible apply Mi.YR)|(with_reducible apply Mi.YF)|((with_reducible apply Mi.YK);wtm_at "e")|((with_reducible apply Mi.WS);(wtm_at "e");(wtm_at "e"))|((with_reducible apply Mi.Ui);first|(left;omega)|(right;omega))
 |((with_reducible apply Mi.JU);rfl)|((with_reducible apply Mi.IV);rfl)|((with_reducible apply Mi.Na);(first|assumption|rfl);(rfl))|((with_reducible apply Mi.YG);(first|assumption|rfl);(rfl)))
namespace K1
open PySem L2 Mi
section
variable{μ:Mh}{x y:Str}
theorem RL{i j:Int}:A7 (.int i) (.int j) μ=some (.bl (i==j),μ):=rfl
theorem WV{i j:Int}(h:i=j):A7 (.int i) (.int j) μ=some (.bl true,μ):=by rw[RL,h,beq_self_eq_true]
theorem WW{i j:Int}(h:i≠j):A7 (.int i) (.int j) μ=some (.bl false,μ):=by rw[RL,AAe.mpr h]
theorem YJ{i j:Int}:EO (.int i) (.int j) μ=some (.bl (!(i==j)),μ):=rfl
theorem WM{i j:Int}(h:i=j):EO (.int i) (.int j) μ=some (.bl false,μ):=by rw[YJ,h,beq_self_eq_true];rfl
theorem Ee(h:PyData.strOk x=true):SeqAt.shaped (.str x)=true:=by
 show (PyData.strOk x&&decide ((PyData.str x).depth<=64))=true;rw[h];rfl
theorem RK(h1:PyData.strOk x=true)(h2:PyData.strOk y=true):A7 (.str x) (.str y) μ=some (.bl (x==y),μ):=by
 show (if SeqAt.shaped (.str x)=true/\SeqAt.shaped (.str y)=true then some (D.bl (x==y),μ) else none)=_;rw[if_pos ⟨Ee h1,Ee h2⟩]
theorem YI(h1:PyData.strOk x=true)(h2:PyData.strOk y=true):EO (.str x) (.str y) μ=some (.bl (!(x==y)),μ):=by
 show (if SeqAt.shaped (.str x)=true/\SeqAt.shaped (.str y)=true then some (D.bl (!(x==y)),μ) else none)=_;rw[if_pos ⟨Ee h1,Ee h2⟩]
theorem WT(h1:PyData.strOk x=true)(h2:PyData.strOk y=true)(h:x=y):A7 (.str x) (.str y) μ=some (.bl true,μ):=by rw[RK h1 h2,h,beq_self_eq_true]
theorem WU(h1:PyData.strOk x=true)(h2:PyData.strOk y=true)(h:x≠y):A7 (.str x) (.str y) μ=some (.bl false,μ):=by rw[RK h1 h2,AAe.mpr h]
theorem WL(h1:PyData.strOk x=true)(h2:PyData.strOk y=true)(h:x≠y):EO (.str x) (.str y) μ=some (.bl true,μ):=by rw[YI h1 h2,AAe.mpr h];rfl
theorem Jc:∀xs:List Str,Gu (xs.map D.str)=some (xs.map V.str)
 |[]=>rfl
 |x::r=>by show (Je (.str x)).bind _=_;rw[Jc r];rfl
theorem La:∀xs:List Str,inV (.str x) (xs.map V.str)=decide (x∈xs)
 |[]=>rfl
 |y::r=>by
  have h:=La r;unfold inV at h ⊢;rw[AAX,List.any_cons,h];show ((y==x)||decide (x∈r))=_;by_cases e:x=y
  ·subst e;simp
  ·have:(y==x)=false:=AAe.mpr λz=>e z.symm;rw[this,Bool.false_or];simp[e]
theorem KQ{neg:Bool}{ds:List D}{c:D}{xs:List Str}(h:Bw c μ=some (xs.map D.str,μ)):IX neg (.str x) c μ=some (.bl (if neg then !decide (x∈xs) else decide (x∈xs)),μ):=by
 unfold IX;rw[AM h];simp only[Jc];show (match Je (.str x),some (xs.map V.str) with|some x,some xs=>some (D.bl (if neg then !inV x xs else inV x xs),μ)|_,_=>none)=_;show some (D.bl (if neg then !inV (.str x) (xs.map V.str) else inV (.str x) (xs.map V.str)),μ)=_;rw[La]
theorem Uj{xs:List Str}(h:x∈xs):Fk false (.str x) (sl xs) μ=some (.bl true,μ):=by
 show IX false (.str x) (.tup (xs.map D.str)) μ=_;rw[KQ (ds:=[]) rfl,AAP h];rfl
theorem Uk{xs:List Str}(h:x∉xs):Fk false (.str x) (sl xs) μ=some (.bl false,μ):=by
 show IX false (.str x) (.tup (xs.map D.str)) μ=_;rw[KQ (ds:=[]) rfl,AAO h];rfl
theorem WK{xs:List Str}(h:x∉xs):Fk true (.str x) (sl xs) μ=some (.bl true,μ):=by
 show IX true (.str x) (.tup (xs.map D.str)) μ=_;rw[KQ (ds:=[]) rfl,AAO h];rfl
theorem WN{ds:List D}:Bs [.tup ds] μ=some (.int ds.length,μ):=rfl
theorem Gr{ds:List D}:Bs [.lst ds] μ=some (.int ds.length,μ):=rfl
end
end K1
local macro_rules | `(tactic| wtm_at "d")=>`(tactic| first|assumption|decide +kernel)
local macro_rules | `(tactic| wtm_at "h")=>`(tactic| first
 |(with_reducible apply K1.WN)|(with_reducible apply K1.Gr)
 |((with_reducible apply K1.WV);wtm_at "e")|((with_reducible apply K1.WW);wtm_at "e")|((with_reducible apply K1.l_neIT);wtm_at "e")|((with_reducible apply K1.WM);wtm_at "e")
 |((with_reducible apply K1.WT);(wtm_at "d");(wtm_at "d");(first|rfl|wtm_at "d"))|((with_reducible apply K1.WU);(wtm_at "d");(wtm_at "d");(wtm_at "d"))|((with_reducible apply K1.WL);(wtm_at "d");(wtm_at "d");(wtm_at "d"))|((with_reducible apply K1.l_neSF);(wtm_at "d");(wtm_at "d");(first|rfl|wtm_at "d"))
 |((with_reducible apply K1.Uj);wtm_at "d")|((with_reducible apply K1.Uk);wtm_at "d")|((with_reducible apply K1.WK);wtm_at "d"))
namespace K1
open PySem L2 Mi
section
variable{μ:Mh}{b:Int}
theorem U4{w:Str}:Dw [.bl true,.str w] μ=some (.non,μ):=
 A8 (g:=[]) (τ2:=_) (by rw[AAZ];rfl) rfl
theorem L4{i a b:Int}(h1:a<=i)(h2:i<=b):Ci [.int i,.int a,.int b] μ=some (.bl true,μ):=
 Ah (g:=[]) (τ2:=_) (by
  rw[AAZ];unfold DH;wtm_at "b") rfl (by unfold Cl;trivial)
theorem L5{ds:List D}{a b:Int}(h1:a<=ds.length)(h2:(ds.length:Int)<=b):Cj [.tup ds,.int a,.int b] μ=some (.bl true,μ):=
 Ah (g:=[]) (τ2:=_) (by
  rw[AAZ];unfold DI;wtm_at "b") rfl (by unfold Cl;trivial)
end
end K1
local macro_rules | `(tactic| wtm_at "h")=>`(tactic| first
 |(with_reducible apply K1.U4)|((with_reducible apply K1.L4);(wtm_at "e");(wtm_at "e"))|((with_reducible apply K1.L5);(first|wtm_at "e" |simp);(first|wtm_at "e" |simp)))
namespace K1
open PySem L2 Mi
def WellAt(μ:Mh)(n:Nat):Prop:=∃a m c:Int,μ[n]?=some (.lst [.int a,.int m,.int c])/\0<=a
def Upd(n:Nat)(μ μ':Mh):Prop:=∃a m c:Int,0<=a/\μ'=μ.set n (.lst [.int a,.int m,.int c])
section
variable{μ μ1 μ2:Mh}{n:Nat}{d:D}{τ2:Sl}
theorem WellAt.lt(h:WellAt μ n):n<μ.length:=by
 obtain⟨_,_,_,h,_⟩:=h;exact(AAU.mp h).1
theorem WellAt.refl(h:WellAt μ n):Upd n μ μ:=by
 have hl:=h.lt;obtain⟨a,m,c,h,ha⟩:=h;refine⟨a,m,c,ha,?_⟩;apply List.ext_getElem?;intro j;rw[List.getElem?_set];split
 ·rename_i e;subst e;exact h
 ·rfl
theorem Upd.trans(h:Upd n μ μ1)(h2:Upd n μ1 μ2):Upd n μ μ2:=by
 obtain⟨a,m,c,ha,rfl⟩:=h;obtain⟨a2,m2,c2,ha2,rfl⟩:=h2;exact⟨a2,m2,c2,ha2,by rw[List.set_set]⟩
theorem Upd.len(h:Upd n μ μ1):μ1.length=μ.length:=by
 obtain⟨a,m,c,ha,rfl⟩:=h;simp
theorem Upd.well(h:Upd n μ μ1)(hn:n<μ.length):WellAt μ1 n:=by
 obtain⟨a,m,c,ha,rfl⟩:=h;exact⟨a,m,c,by rw[List.getElem?_set_self hn],ha⟩
theorem Upd.other(h:Upd n μ μ1){j:Nat}(hj:j≠n):μ1[j]?=μ[j]?:=by
 obtain⟨a,m,c,ha,rfl⟩:=h;rw[AAm (λe=>hj e.symm)]
theorem Upd.app{g:Mh}(h:Upd n (μ++g) μ1)(hn:n<μ.length):∃μ2,Upd n μ μ2/\μ1=μ2++g:=by
 obtain⟨a,m,c,ha,rfl⟩:=h;exact⟨_,⟨a,m,c,ha,rfl⟩,by rw[List.set_append_left _ _ hn]⟩
theorem Rs{k:Nat}{a m c:Int}:ClL k [D.int a,.int m,.int c]:=by simp[ClL,Cl]
theorem Upd.tells{g:Mh}(h:Upd n μ μ1)(c:Cl μ.length d):E7 μ (μ1++g) μ1 d d:=by
 refine⟨⟨g,rfl⟩,by rw[h.len];exact AAF _,λj o e=>?_,.inl ⟨rfl,by rw[h.len];exact c⟩⟩;by_cases hj:j=n
 ·subst hj;obtain⟨a,m,c,ha,rfl⟩:=h;right;rw[List.getElem?_set] at e;simp at e;obtain⟨_,rfl⟩:=e;exact Rs
 ·left;rw[←h.other hj];exact e
theorem Fg{N ps:Nat}{mb:Sl->M (Fl×Sl)}{ds:List D}{g:Mh}(e:mb (Ay N ds) μ=some ((.rt d,τ2),μ1++g))(hl:ds.length=ps)(u:Upd n μ μ1)(c:Cl μ.length d):BG .drop N ps mb ds μ=some (d,μ1):=by
 have t:HI μ (μ1++g) .drop=μ1:=by show (μ1++g).take μ.length=μ1;rw[←u.len,List.take_left]
 have h:=EU (hw:=.drop) e hl (.inr ⟨d,rfl⟩) (by rw[t];exact u.tells c);rw[t] at h;exact h
theorem Tv{ds:List D}{i:Int}(hn:n<μ.length)(h2:atI ds i=some d):AV (.ref n) (.int i) (μ.set n (.lst ds))=some (d,μ.set n (.lst ds)):=Na (List.getElem?_set_self hn) h2
end
end K1
local macro_rules | `(tactic| wtm_at "h")=>`(tactic| first
 |((with_reducible apply K1.Tv);(assumption);(rfl))|((with_reducible apply K1.l_setSet);(assumption);(rfl)))
namespace K1
open PySem L2 Mi
section
variable{μ μ':Mh}{n:Nat}{b:Int}{τ2:Sl}
theorem CU(w:WellAt μ n)(hb:0<b)(hb2:b<1073741824):∃r μ',BA [.ref n,.int b] μ=some (.int r,μ')/\0<=r/\r<b/\Upd n μ μ':=by
 have hn:=w.lt;obtain⟨a,m,c,h,ha⟩:=w;have hne:b≠0:=by omega
 by_cases h0:0<a
 ·have e:∃τ2,EB (Ay 4 [.ref n,.int b]) μ=some ((.rt (.int (a % b)),τ2),μ.set n (.lst [.int (a / b),.int m,.int c])):=by
   refine' ⟨_,Eq.trans ?e ?f⟩
   case e=>unfold EB;wtm_at "b"
   case f=>rfl
  obtain⟨τ2,e⟩:=e;have u:Upd n μ (μ.set n (.lst [.int (a / b),.int m,.int c])):=⟨_,_,_,Int.ediv_nonneg ha (by omega),rfl⟩;exact⟨_,_,Fg (g:=[]) (by rw[AAZ];exact e) rfl u (by unfold Cl;trivial),Int.emod_nonneg _ hne,Int.emod_lt_of_pos _ hb,u⟩
 ·have e:∃q τ2,EB (Ay 4 [.ref n,.int b]) μ=some ((.rt (.int (q % b)),τ2),μ.set n (.lst [.int a,.int m,.int (c+1)])):=by
   refine' ⟨_,_,Eq.trans ?e ?f⟩
   case e=>unfold EB;wtm_at "b"
   case f=>rfl
  obtain⟨q,τ2,e⟩:=e;have u:Upd n μ (μ.set n (.lst [.int a,.int m,.int (c+1)])):=⟨_,_,_,ha,rfl⟩;exact⟨_,_,Fg (g:=[]) (by rw[AAZ];exact e) rfl u (by unfold Cl;trivial),Int.emod_nonneg _ hne,Int.emod_lt_of_pos _ hb,u⟩
end
section
variable{μ μ1 μ2 μ':Mh}{b:Int}{d:D}{x y:Str}{τ τ2:Sl}
theorem HR{N:Nat}{ix:List Nat}{src:Sl->M (List D)}{bf:D->Sl->M Sl}{mc:Sl->M Bool}{me:Sl->M D}{fin:List D->M D}{ds es:List D}(h1:src τ μ=some (ds,μ1))(hl:ds.length<=sizeLine)(h2:CW bf mc me (BI N ix τ) ds [] μ1=some (es,μ2))(h3:fin es μ2=some (d,μ')):B0 N ix src bf mc me fin τ μ=some (d,μ'):=by
 unfold B0;rw[AM h1,AM (show lim ds.length μ1=some ((),μ1) from by unfold lim;rw[if_pos hl]),AM h2,h3]
theorem Li{me:Sl->M D}{τ0:Sl}{F:D->D}:∀{xs ys:List D},(∀z∈xs,me (τ0.set 0 (some z)) μ=some (F z,μ))->CW (AN 0) Bz me τ0 xs ys μ=some (ys++xs.map F,μ)
 |[],ys,_=>by show some (ys,μ)=_;simp
 |z::xs,ys,h=>by
  show bnd (AN 0 z τ0) _ μ=_;rw[AM (show AN 0 z τ0 μ=some (τ0.set 0 (some z),μ) from rfl),AM (show Bz (τ0.set 0 (some z)) μ=some (true,μ) from rfl),if_pos rfl,AM (h z (by simp))];rw[Li λw hw=>h w (by simp[hw])];simp
theorem C1{ds:List D}(h:ds.length<=sizeLine):Aq ds μ=some (.lst ds,μ):=by
 unfold Aq;rw[AM (show lim ds.length μ=some ((),μ) from by unfold lim;rw[if_pos h])];rfl
def EE(x:Str):Prop:=∀c∈x.cps.toList,97<=c/\c<123
structure GoodName(x:Str):Prop where
 lo:1<=x.length
 hi:x.length<=8
 ab:EE x
theorem Oi:∀c,c<123->97<=c->(!(Builtin.Str.occurrences "abcdefghijklmnopqrstuvwxyz" ⟨#[c]⟩ 0 (Str.length "abcdefghijklmnopqrstuvwxyz") 1).isEmpty)=true:=by decide +kernel
theorem GoodName.ok(h:GoodName x):PyData.strOk x=true:=by
 unfold PyData.strOk;rw[Array.all_eq_true_iff_forall_mem];intro c hc;have:=h.ab c (by simpa using hc);simp;omega
theorem Lr:∀k:Nat,Km (List.replicate k (D.bl true))=some (List.replicate k true)
 |0=>rfl
 |k+1=>by
  rw[AAj,AAj];show (Km (List.replicate k (D.bl true))).map (true::·)=_;rw[Lr k];rfl
theorem JJ(h:GoodName x):Cq [.str x] μ=some (.bl true,μ):=
 Ah (g:=[]) (τ2:=_) (by
  rw[AAZ];have hs:x.length<=sizeLine:=AAr h.hi (by decide);have h1:(1:Int)<=x.length:=by have:=h.lo;omega
  have h8:(x.length:Int)<=8:=by have:=h.hi;omega
  have l:Bs [.str x] μ=some (.int x.length,μ):=by show (if x.length<=sizeLine then some (D.int x.length,μ) else none)=_;rw[if_pos hs]
  have hl:(x.cps.toList.map λc=>D.str ⟨#[c]⟩).length=x.length:=by simp[Str.length]
  have c:B0 1 [] (Q9 (AD 0)) (AN 0) Bz (mOp (Fk false) (AD 0) (mC ES)) Aq (Ay 1 [.str x]) μ=some (.lst (List.replicate x.length (.bl true)),μ):=by
   refine HR (ds:=x.cps.toList.map λc=>D.str ⟨#[c]⟩) rfl (by rw[hl];exact hs) (Li (F:=λ_=>.bl true) λz hz=>?_) ?_
   ·rw[AAM] at hz;obtain⟨c,hc,rfl⟩:=hz;have:=h.ab c hc;refine Bl (x:=.str ⟨#[c]⟩) (y:=ES) (DD rfl) F3 ?_;show some (D.bl (!(Builtin.Str.occurrences "abcdefghijklmnopqrstuvwxyz" ⟨#[c]⟩ 0 (Str.length "abcdefghijklmnopqrstuvwxyz") 1).isEmpty),μ)=_;rw[Oi c this.2 this.1]
   ·rw[List.nil_append,List.map_const',hl];exact C1 (by rw[AAl];exact hs)
  have a:UU [.lst (List.replicate x.length (.bl true))] μ=some (.bl true,μ):=by
   show (Km (List.replicate x.length (D.bl true))).map (λbs=>(D.bl (bs.all id),μ))=_;rw[Lr];show some (D.bl ((List.replicate x.length true).all id),μ)=_;simp
  unfold EQ;wtm_at "b") rfl (by unfold Cl;trivial)
end
end K1
local macro_rules | `(tactic| wtm_at "e")=>`(tactic| first|assumption|(simp only[AAI,List.length_nil];first|decide|omega))
local macro_rules | `(tactic| wtm_at "h")=>`(tactic| ((with_reducible apply K1.JJ);assumption))
namespace K1
open PySem L2 Mi
inductive Ex where
 |num (i:Int)|var (x:Str)|neg (e:Ex)|pair (w:Str) (a b:Ex)
def Ex.toD:Ex->D
 | .num i=>.tup [.str "num",.int i]
 | .var x=>.tup [.str "var",.str x]
 | .neg e=>.tup [.str "not",e.toD]
 | .pair w a b=>.tup [.str w,a.toD,b.toD]
noncomputable def Gn:List Str:=["+", "-", "=", "<", "and", "or"]
noncomputable def Ex.Ok:Nat->Ex->Prop
 |0,_=>False
 |_+1,.num i=>0<=i/\i<=9
 |_+1,.var x=>GoodName x
 |k+1,.neg e=>e.Ok k
 |k+1,.pair w a b=>w∈Gn/\a.Ok k/\b.Ok k
def Ex.vars:Ex->List Str
 | .num _=>[]
 | .var x=>[x]
 | .neg e=>e.vars
 | .pair _ a b=>a.vars++b.vars
theorem Ex.Ok.succ:∀{k:Nat} {e:Ex},e.Ok k->e.Ok (k+1)
 |_+1,.num _,h=>h
 |_+1,.var _,h=>h
 |k+1,.neg e,h=>Ex.Ok.succ (k:=k) (e:=e) h
 |k+1,.pair _ a b,h=>⟨h.1,Ex.Ok.succ (k:=k) (e:=a) h.2.1,Ex.Ok.succ (k:=k) (e:=b) h.2.2⟩
theorem Ex.Ok.mono{k j:Nat}{e:Ex}(h:e.Ok k)(hj:k<=j):e.Ok j:=by
 induction hj with
 |refl=>exact h
 |step _ ih=>exact ih.succ
section
variable{μ:Mh}{n:Nat}{b:Int}{x:Str}{τ2:Sl}
theorem Cb:∀(k n:Nat) (e:Ex) (j:Int) (μ:Mh),j=k->k<=n->e.Ok k->Ce n [e.toD,.int j] μ=some (.bl true,μ)
 |0,_,_,_,_,_,_,h=>by cases h
 |_+1,0,_,_,_,_,hn,_=>by omega
 |k+1,n+1,.num i,j,μ,hj,hn,h=>by
  have hj1:1<=j:=by omega
  obtain⟨h1,h2⟩:0<=i/\i<=9:=h;exact Ah (g:=[]) (τ2:=_) (by rw[AAZ];unfold A0 B4 Cm Ex.toD;wtm_at "b") rfl (by unfold Cl;trivial)
 |k+1,n+1,.var x,j,μ,hj,hn,h=>by
  have hj1:1<=j:=by omega
  have h:GoodName x:=h;exact Ah (g:=[]) (τ2:=_) (by rw[AAZ];unfold A0 B4 Cm Ex.toD;wtm_at "b") rfl (by unfold Cl;trivial)
 |k+1,n+1,.neg e,j,μ,hj,hn,h=>by
  have hj1:1<=j:=by omega
  have ih:=Cb k n e (j-1) μ (by omega) (by omega) h;exact Ah (g:=[]) (τ2:=_) (by rw[AAZ];unfold A0 B4 Cm Ex.toD;wtm_at "b") rfl (by unfold Cl;trivial)
 |k+1,n+1,.pair w a b,j,μ,hj,hn,h=>by
  have hj1:1<=j:=by omega
  obtain⟨hw,ha,hb⟩:=h;have hw:w∈(["+", "-", "=", "<", "and", "or"]:List Str):=hw;have ia:=Cb k n a (j-1) μ (by omega) (by omega) ha;have ib:=Cb k n b (j-1) μ (by omega) (by omega) hb;exact Ah (g:=[]) (τ2:=_) (by rw[AAZ];unfold A0 B4 Cm Ex.toD;wtm_at "b") rfl (by unfold Cl;trivial)
end
section
variable{μ μ1 μ2 μ3:Mh}{d x y:D}{τ τ1 τ2:Sl}{ma:Sl->M D}{ds es:List D}{r:Fl×Sl}{m1:Sl->M (Fl×Sl)}{bf:D->Sl->M Sl}
theorem Ie(h1:ma τ μ=some (x,μ1))(h2:Jo x μ1=some (ds,μ2)):De ma τ μ=some (ds,μ2):=by unfold De;rw[AM h1,h2]
theorem RF:Jo (.tup ds) μ=some (ds,μ):=rfl
theorem O5:Dv bf m1 [] τ μ=some ((.next,τ),μ):=rfl
theorem Em(h1:bf x τ μ=some (τ1,μ1))(h2:m1 τ1 μ1=some ((.next,τ2),μ2))(h3:Dv bf m1 ds τ2 μ2=some (r,μ3)):Dv bf m1 (x::ds) τ μ=some (r,μ3):=by
 show bnd (bf x τ) _ μ=_;rw[AM h1,AM h2];exact h3
theorem Wi{m:Sl->M (List D)}(h1:m τ μ=some (ds,μ1))(h2:FY ds μ1=some (es,μ2)):Q8 m τ μ=some (es,μ2):=by unfold Q8;rw[AM h1,h2]
theorem WI:FY [.tup [],.tup []] μ=some ([],μ):=rfl
theorem WH:FY [.tup [x],.tup [y]] μ=some ([.tup [x,y]],μ):=rfl
theorem WG{x' y':D}:FY [.tup [x,x'],.tup [y,y']] μ=some ([.tup [x,y],.tup [x',y']],μ):=rfl
theorem Ty{i j:Nat}:G5 [i,j] (.tup [x,y]) τ μ=some ((τ.set i (some x)).set j (some y),μ):=rfl
theorem WJ:Qj (some 1) none (.tup (x::ds)) μ=some (.tup ds,μ):=by
 have h1:HT.sIx (x::ds).length 0 (some 1)=1:=by rw[show (some (1:Int))=some ((1:Nat):Int) from rfl,HT.KB];simp
 have h2:HT.sIx (x::ds).length (x::ds).length none=(x::ds).length:=rfl;show (if HT.sIx (x::ds).length 0 (some 1)=0/\HT.sIx (x::ds).length (x::ds).length none=(x::ds).length then (Mi.BS:M D) else Mi.ret (D.tup (E9 (x::ds) (some 1) none))) μ=_;rw[if_neg (by rw[h1];simp)];show some (D.tup (E9 (x::ds) (some 1) none),μ)=_;unfold E9;rw[h1,h2];simp
theorem Tm(h:ds.length<=sizeLine):IK ds μ=some (.ref μ.length,μ++[.lst ds]):=by
 unfold IK;rw[AM (show lim ds.length μ=some ((),μ) from by unfold lim;rw[if_pos h])]
theorem HQ(h:ds.length<=sizeLine):AZ ds μ=some (.tup ds,μ):=by
 unfold AZ;rw[AM (show lim ds.length μ=some ((),μ) from by unfold lim;rw[if_pos h])];rfl
theorem Tw:FQ (.ref μ.length) (μ++[.lst ds])=some ((),μ++[.lst ds]):=by
 unfold FQ;rw[AM (show Cn (.ref μ.length) (μ++[.lst ds])=some (ds,μ++[.lst ds]) from by
  unfold Cn;dsimp only;rw[List.getElem?_concat_length])];rfl
theorem K7{k:List D->Option (D×List D)}(h:k ds=some (d,es)):J3 μ.length k (μ++[.lst ds])=some (d,μ++[.lst es]):=by
 unfold J3;rw[List.getElem?_concat_length];show (k ds).map _=_;rw[h];show some (d,(μ++[MO.lst ds]).set μ.length (.lst es))=_;simp
theorem YN(h:ds.length+es.length<=sizeLine):Rc (.ref μ.length) [.lst es] (μ++[.lst ds])=some (.non,μ++[.lst (ds++es)]):=K7 (by rw[if_pos h])
theorem YQ(h:ds.length<sizeLine):Mn (.ref μ.length) [d] (μ++[.lst ds])=some (.non,μ++[.lst (ds++[d])]):=K7 (by rw[if_pos h])
theorem UL{i:Nat}{u v:Str}(h:τ[i]?=some (some (.str v)))(h1:(Str.empty++u).length<=sizeLine)(h2:v.length<=sizeLine)(h3:(Str.empty++u++v).length<=sizeLine):NV [mC (.str u),Tt (AD i)] τ μ=some (.str (Str.empty++u++v),μ):=by
 have lm:∀k:Nat,k<=sizeLine->lim k μ=some ((),μ):=λk hk=>by unfold lim;rw[if_pos hk]
 unfold NV Gs;rw[AM F3];dsimp only;rw[AM (lm _ h1)];unfold Gs;rw[AM (show Tt (AD i) τ μ=some (.str v,μ) from Up (DD h) (by show (if v.length<=sizeLine then some (D.str v,μ) else none)=_;rw[if_pos h2]))];dsimp only;rw[AM (lm _ h3)];unfold Gs;rw[AM (lm _ h3)];rfl
theorem Xy:BQ "put" = some (.tup [.str "box",.str "expression"]):=by kernel_rfl
theorem X0:BQ "get" = some (.tup [.str "variable",.str "box"]):=by kernel_rfl
theorem Xz:BQ "let" = some (.tup [.str "variable",.str "expression"]):=by kernel_rfl
theorem Qz:BQ "unless" = some (.tup [.str "expression",.str "target"]):=by kernel_rfl
theorem Vu:BQ "jump" = some (.tup [.str "target"]):=by kernel_rfl
theorem Vt:BQ "tell" = some (.tup [.str "expression"]):=by kernel_rfl
theorem Vv:BQ "done" = some (.tup []):=by kernel_rfl
theorem WO{w:Str}(h:BQ w=some d):Nf BQ (.str w) μ=some (d,μ):=by show (BQ w).map _=_;rw[h];rfl
theorem YL{w:Str}(h:BQ w=some d):T4 BQ (.str w) μ=some (.bl true,μ):=by show some (D.bl (BQ w).isSome,μ)=_;rw[h];rfl
end
end K1
local macro_rules | `(tactic| wtm_at "k")=>`(tactic| first|assumption|decide|(simp only[AAI,List.length_nil,AAH,AAG];first|decide|omega))
local macro_rules | `(tactic| wtm_at "n")=>`(tactic| first|exact K1.Xy|exact K1.X0|exact K1.Xz|exact K1.Qz|exact K1.Vu|exact K1.Vt|exact K1.Vv)
local macro_rules | `(tactic| wtm_at "h")=>`(tactic| first
 |((with_reducible apply K1.Ie);(wtm_at "b");(wtm_at "b"))|(with_reducible apply K1.RF)|(with_reducible apply K1.l_seqL)|((with_reducible apply Mi.Kg);(wtm_at "b");(wtm_at "b"))|(with_reducible apply K1.O5)|((with_reducible apply K1.Em);(wtm_at "b");(wtm_at "b");(wtm_at "b"))
 |((with_reducible apply K1.Wi);(wtm_at "b");(wtm_at "b"))|(with_reducible apply K1.WI)|(with_reducible apply K1.WH)|(with_reducible apply K1.WG)|(with_reducible apply K1.Ty)|(with_reducible apply K1.WJ)
 |((with_reducible apply K1.C1);wtm_at "k")|((with_reducible apply K1.Tm);wtm_at "k")|((with_reducible apply K1.HQ);wtm_at "k")|(with_reducible apply K1.Tw)|((with_reducible apply K1.YN);wtm_at "k")|((with_reducible apply K1.YQ);wtm_at "k")
 |((with_reducible apply K1.WO);wtm_at "n")|((with_reducible apply K1.YL);wtm_at "n")|((with_reducible apply K1.UL);(rfl);(decide +kernel);(decide +kernel);(decide +kernel)))
namespace K1
open PySem L2 Mi
section
variable{μ:Mh}{n:Nat}{b:Int}{x:Str}{τ2:Sl}
theorem Ex.vlen:∀{k:Nat} {e:Ex},e.Ok k->e.vars.length<=2 ^ k
 |k+1,.num _,_=>by simp[Ex.vars]
 |k+1,.var _,_=>by show 1<=2 ^ (k+1);exact Nat.one_le_two_pow
 |k+1,.neg e,h=>by have:=Ex.vlen (k:=k) (e:=e) h;show e.vars.length<=2 ^ (k+1);rw[Nat.pow_succ];omega
 |k+1,.pair _ a b,h=>by
  have h1:=Ex.vlen (k:=k) (e:=a) h.2.1;have h2:=Ex.vlen (k:=k) (e:=b) h.2.2;show (a.vars++b.vars).length<=2 ^ (k+1);rw[AAH,Nat.pow_succ];omega
theorem Gz{k:Nat}:∀xs:List Str,ClL k (xs.map D.str)
 |[]=>by simp[ClL]
 |x::r=>by rw[AAX];unfold ClL;exact⟨by unfold Cl;trivial,Gz r⟩
theorem Ct:∀(k n:Nat) (e:Ex) (μ:Mh),k<=n->k<=6->e.Ok k->BF n [e.toD] μ=some (.lst (e.vars.map D.str),μ)
 |0,_,_,_,_,_,h=>by cases h
 |_+1,0,_,_,hn,_,_=>by omega
 |k+1,n+1,.num i,μ,hn,h6,h=>Im (g:=[]) (τ2:=_) (by rw[AAZ];unfold Aw Ex.toD;wtm_at "b") rfl (Gz [])
 |k+1,n+1,.var x,μ,hn,h6,h=>Im (es:=[.str x]) (g:=[]) (τ2:=_) (by rw[AAZ];unfold Aw Ex.toD;wtm_at "b") rfl (Gz [x])
 |k+1,n+1,.neg e,μ,hn,h6,h=>by
  have ih:=Ct k n e (μ++[.lst []]) (by omega) (by omega) h;have hl:=Ex.vlen (k:=k) (e:=e) h;have hp:2 ^ k<=2 ^ 6:=Nat.pow_le_pow_right (by decide) (by omega);have hz:sizeLine=16777216:=by decide
  have hb:([]:List D).length+(e.vars.map D.str).length<=sizeLine:=by simp;omega
  have q:∃τ2,Aw (BF n) (Ay 3 [(Ex.neg e).toD]) μ=some ((.rt (.ref μ.length),τ2),μ++[.lst (e.vars.map D.str)]):=by
   refine' ⟨_,Eq.trans ?e1 ?e2⟩
   case e1=>unfold Aw Ex.toD;wtm_at "b"
   case e2=>rfl
  obtain⟨τ2,q⟩:=q;exact G0 q rfl (AAF _) (List.getElem?_concat_length) (Gz _)
 |k+1,n+1,.pair w a b,μ,hn,h6,h=>by
  obtain⟨hw,ha,hb⟩:=h;have ia:=Ct k n a (μ++[.lst []]) (by omega) (by omega) ha;have ib:=Ct k n b (μ++[.lst ([]++a.vars.map D.str)]) (by omega) (by omega) hb;have la:=Ex.vlen (k:=k) (e:=a) ha;have lb:=Ex.vlen (k:=k) (e:=b) hb;have hp:2 ^ k<=2 ^ 6:=Nat.pow_le_pow_right (by decide) (by omega);have hz:sizeLine=16777216:=by decide
  have hb1:([]:List D).length+(a.vars.map D.str).length<=sizeLine:=by simp;omega
  have hb2:([]++a.vars.map D.str).length+(b.vars.map D.str).length<=sizeLine:=by simp;omega
  have w1:PyData.strOk w=true/\w ≠ "num" /\ w ≠ "var" := by
   have hw:w∈(["+", "-", "=", "<", "and", "or"]:List Str):=hw;simp only[AAJ,List.not_mem_nil,or_false] at hw;rcases hw with rfl|rfl|rfl|rfl|rfl|rfl<;>decide +kernel
  obtain⟨w1,w2,w3⟩:=w1;have q:∃τ2,Aw (BF n) (Ay 3 [(Ex.pair w a b).toD]) μ=some ((.rt (.ref μ.length),τ2),μ++[.lst ([]++a.vars.map D.str++b.vars.map D.str)]):=by
   refine' ⟨_,?e⟩
   case e=>unfold Aw Ex.toD;wtm_at "b"
  obtain⟨τ2,q⟩:=q;have z:([]++a.vars.map D.str++b.vars.map D.str)=(Ex.pair w a b).vars.map D.str:=by simp[Ex.vars]
  rw[z] at q;exact G0 q rfl (AAF _) (List.getElem?_concat_length) (Gz _)
end
inductive Rw where
 |put (bx:Str) (e:Ex)|get (x bx:Str)|letr (x:Str) (e:Ex)|unless (e:Ex) (t:Int)|jump (t:Int)|tell (e:Ex)|done
def Rw.toD:Rw->D
 | .put bx e=>.tup [.str "put",.str bx,e.toD]
 | .get x bx=>.tup [.str "get",.str x,.str bx]
 | .letr x e=>.tup [.str "let",.str x,e.toD]
 | .unless e t=>.tup [.str "unless",e.toD,.int t]
 | .jump t=>.tup [.str "jump",.int t]
 | .tell e=>.tup [.str "tell",e.toD]
 | .done=>.tup [.str "done"]
noncomputable def Rw.Form(l:Int):Rw->Prop
 | .put bx e=>GoodName bx/\e.Ok 5
 | .get x bx=>GoodName x/\GoodName bx
 | .letr x e=>GoodName x/\e.Ok 5
 | .unless e t=>e.Ok 5/\0<=t/\t<=l
 | .jump t=>0<=t/\t<=l
 | .tell e=>e.Ok 5
 | .done=>True
def Rw.vars:Rw->List Str
 | .put _ e=>e.vars
 | .get x _=>[x]
 | .letr x e=>x::e.vars
 | .unless e _=>e.vars
 | .jump _=>[]
 | .tell e=>e.vars
 | .done=>[]
section
variable{μ:Mh}{l:Int}{x:Str}{τ2:Sl}
theorem Px{e:Ex}(h:e.Ok 5):Di [.str "expression",e.toD,.int l] μ=some (.bl true,μ):=by
 have ih:=Cb 5 6 e 5 μ rfl (by decide) h;exact Ah (g:=[]) (τ2:=_) (by rw[AAZ];unfold Cp DJ;wtm_at "b") rfl (by unfold Cl;trivial)
theorem Pw{t:Int}(h1:0<=t)(h2:t<=l):Di [.str "target",.int t,.int l] μ=some (.bl true,μ):=
 Ah (g:=[]) (τ2:=_) (by rw[AAZ];unfold Cp DJ;wtm_at "b") rfl (by unfold Cl;trivial)
theorem Pv(h:GoodName x):Di [.str "variable",.str x,.int l] μ=some (.bl true,μ):=
 Ah (g:=[]) (τ2:=_) (by rw[AAZ];unfold Cp DJ;wtm_at "b") rfl (by unfold Cl;trivial)
theorem Py(h:GoodName x):Di [.str "box",.str x,.int l] μ=some (.bl true,μ):=
 Ah (g:=[]) (τ2:=_) (by rw[AAZ];unfold Cp DJ;wtm_at "b") rfl (by unfold Cl;trivial)
end
end K1
local macro_rules | `(tactic| wtm_at "h")=>`(tactic| first
 |((with_reducible apply K1.Px);assumption)|((with_reducible apply K1.Pw);(assumption);(assumption))|((with_reducible apply K1.Pv);assumption)|((with_reducible apply K1.Py);assumption))
namespace K1
open PySem L2 Mi
section
variable{μ:Mh}{l:Int}{τ2:Sl}
theorem Jz:∀{r:Rw},r.Form l->Dh [r.toD,.int l] μ=some (.non,μ)
 | .put bx e,⟨h1,h2⟩=>A8 (g:=[]) (τ2:=_) (by rw[AAZ];unfold A6 Rw.toD;wtm_at "b") rfl
 | .get bx e,⟨h1,h2⟩=>A8 (g:=[]) (τ2:=_) (by rw[AAZ];unfold A6 Rw.toD;wtm_at "b") rfl
 | .letr bx e,⟨h1,h2⟩=>A8 (g:=[]) (τ2:=_) (by rw[AAZ];unfold A6 Rw.toD;wtm_at "b") rfl
 | .unless bx e,⟨h1,h2,h3⟩=>A8 (g:=[]) (τ2:=_) (by rw[AAZ];unfold A6 Rw.toD;wtm_at "b") rfl
 | .jump t,⟨h1,h2⟩=>A8 (g:=[]) (τ2:=_) (by rw[AAZ];unfold A6 Rw.toD;wtm_at "b") rfl
 | .tell e,h=>A8 (g:=[]) (τ2:=_) (by have h:e.Ok 5:=h;rw[AAZ];unfold A6 Rw.toD;wtm_at "b") rfl
 | .done,h=>A8 (g:=[]) (τ2:=_) (by rw[AAZ];unfold A6 Rw.toD;wtm_at "b") rfl
end
end K1
set_option maxHeartbeats 4000000
namespace K1
open PySem L2 Mi
section
variable{μ:Mh}{x:Str}{τ2:Sl}
theorem SY{e:Ex}(h:e.Ok 5):BF 6 [e.toD] μ=some (.lst (e.vars.map D.str),μ):=Ct 5 6 e μ (by decide) (by decide) h
theorem L6{w:Str}(hw:PyData.strOk w=true)(h:w ≠ "tell"):Bu [.str w,.bl true] μ=some (.non,μ):=
 A8 (g:=[]) (τ2:=_) (by rw[AAZ];unfold Bq;wtm_at "b") rfl
theorem L7{w:Str}(hw:PyData.strOk w=true)(h:w ≠ "done"):Bu [.str w,.bl false] μ=some (.non,μ):=
 A8 (g:=[]) (τ2:=_) (by rw[AAZ];unfold Bq;wtm_at "b") rfl
theorem WQ{a b:Str}(h:x∈[a,b]):Fk false (.str x) (.tup [.str a,.str b]) μ=some (.bl true,μ):=Uj (xs:=[a,b]) h
theorem WR{a b:Str}(h:x∉[a,b]):Fk false (.str x) (.tup [.str a,.str b]) μ=some (.bl false,μ):=Uk (xs:=[a,b]) h
end
end K1
local macro_rules | `(tactic| wtm_at "h")=>`(tactic| first
 |((with_reducible apply K1.SY);assumption)|((with_reducible apply K1.WQ);wtm_at "d")|((with_reducible apply K1.WR);wtm_at "d")|((with_reducible apply K1.L6);(wtm_at "d");(wtm_at "d"))|((with_reducible apply K1.L7);(wtm_at "d");(wtm_at "d")))
namespace K1
open PySem L2 Mi
section
variable{μ μ1 μ2:Mh}{l:Int}{x y:Str}{τ1 τ2:Sl}
theorem Fq{r:Rw}{xs:List D}(h:xs=r.vars.map D.str)(q:∃τ2,Ar (BF 6) (Ay 4 [r.toD]) μ=some ((.rt (.ref μ.length),τ2),μ++[.lst xs])):C7 [r.toD] μ=some (.lst (r.vars.map D.str),μ):=by
 obtain⟨τ2,q⟩:=q;rw[h] at q;exact G0 q rfl (AAF _) List.getElem?_concat_length (Gz _)
theorem Hh:∀{r:Rw},r.Form l->C7 [r.toD] μ=some (.lst (r.vars.map D.str),μ)
 | .put bx e,⟨h1,h2⟩=>by
  have hl:=Ex.vlen h2;have hz:sizeLine=16777216:=by decide
  refine Fq (xs:=[]++e.vars.map D.str) rfl ?_;refine' ⟨_,?e1⟩
  case e1=>unfold Ar Rw.toD;wtm_at "b"
 | .get x bx,⟨h1,h2⟩=>by
  refine Fq (xs:=[]++[.str x]) rfl ?_;refine' ⟨_,?e1⟩
  case e1=>unfold Ar Rw.toD;wtm_at "b"
 | .letr x e,⟨h1,h2⟩=>by
  have hl:=Ex.vlen h2;have hz:sizeLine=16777216:=by decide
  refine Fq (xs:=[]++[.str x]++e.vars.map D.str) rfl ?_;refine' ⟨_,?e1⟩
  case e1=>unfold Ar Rw.toD;wtm_at "b"
 | .unless e t,⟨h1,h2,h3⟩=>by
  have hl:=Ex.vlen h1;have hz:sizeLine=16777216:=by decide
  refine Fq (xs:=[]++e.vars.map D.str) rfl ?_;refine' ⟨_,?e1⟩
  case e1=>unfold Ar Rw.toD;wtm_at "b"
 | .jump t,⟨h1,h2⟩=>by
  refine Fq (xs:=[]) rfl ?_;refine' ⟨_,?e1⟩
  case e1=>unfold Ar Rw.toD;wtm_at "b"
 | .tell e,h1=>by
  have h1:e.Ok 5:=h1;have hl:=Ex.vlen h1;have hz:sizeLine=16777216:=by decide
  refine Fq (xs:=[]++e.vars.map D.str) rfl ?_;refine' ⟨_,?e1⟩
  case e1=>unfold Ar Rw.toD;wtm_at "b"
 | .done,_=>by
  refine Fq (xs:=[]) rfl ?_;refine' ⟨_,?e1⟩
  case e1=>unfold Ar Rw.toD;wtm_at "b"
def SD(wr:Bool)(x:Str):Prop:=PyData.strOk x=true/\x∉(["not", "and", "or"]:List Str)/\(wr=true∨x ≠ "v")
theorem JH{wr:Bool}{rD:D}:∀(xs:List Str) (o:Option D),(∀x∈xs,SD wr x)->∃o',Dv (AN 2) (AR (BE (AF Dw (AB (mOp (Fk true) (AD 2) (mC CO)) (AB (mC (.str "a variable is called like a word of expressions")) AH))))
  (BE (AF Dw (AB (MU (AD 1) (mOp EO (AD 2) (mC (.str "v")))) (AB (mC (.str "a reader has no variable v")) AH))))) (xs.map D.str) [some rD,some (.bl wr),o] μ=some ((.next,[some rD,some (.bl wr),o']),μ)
 |[],o,_=>⟨o,rfl⟩
 |x::r,o,h=>by
  obtain⟨h1,h2,h3⟩:=h x (by simp);obtain⟨o',ih⟩:=JH (wr:=wr) (rD:=rD) r (some (.str x)) λy hy=>h y (by simp[hy]);refine⟨o',?_⟩;refine Em (τ1:=[some rD,some (.bl wr),some (.str x)]) (τ2:=[some rD,some (.bl wr),some (.str x)]) (μ1:=μ) (μ2:=μ) rfl ?_ ih;unfold CO;cases wr with
  |true=>wtm_at "b"
  |false=>
   have h4:x ≠ "v" := by rcases h3 with z|z;cases z;exact z
   wtm_at "b"
noncomputable def Rw.word:Rw->Str
 | .put _ _ => "put" | .get _ _ => "get" | .letr _ _ => "let" | .unless _ _ => "unless" | .jump _ => "jump" | .tell _ => "tell" | .done => "done"
noncomputable def Rw.setOk:Rw->Prop
 | .get x _=>x ≠ "v"
 | .letr x _=>x ≠ "v"
 |_=>True
theorem F9{wr:Bool}{r:Rw}(hf:r.Form l)(hv:∀x∈r.vars,SD wr x)(hs:r.setOk):CC [r.toD,.bl wr] μ=some (.non,μ):=by
 have v:=Hh (μ:=μ) hf;obtain⟨o,lp⟩:=JH (μ:=μ) (wr:=wr) (rD:=r.toD) r.vars none hv;have b:∃τ2,sIf (AY (mOp (Fk false) (mOp AV (AD 0) (mC (.int 0))) (AF AZ (AB (mC (.str "get")) (AB (mC (.str "let")) AH))))) (BE (AF Dw (AB (mOp EO (mOp AV (AD 0) (mC (.int 1))) (mC (.str "v"))) (AB (mC (.str "the variable v is set by no row")) AH)))) BW [some r.toD,some (.bl wr),o] μ=some ((.next,τ2),μ):=by
  cases r with
  |get x bx=>
   have h1:=hf.1.ok;have h2:x ≠ "v" := hs;simp only[Rw.toD];exact⟨_,by wtm_at "b"⟩
  |letr x e=>
   have h1:=hf.1.ok;have h2:x ≠ "v" := hs;simp only[Rw.toD];exact⟨_,by wtm_at "b"⟩
  |_=>
   simp only[Rw.toD];exact⟨_,by wtm_at "b"⟩
 obtain⟨τ2,b⟩:=b;refine A8 (g:=[]) (τ2:=τ2) ?_ rfl;rw[AAZ];unfold Bh;refine BN (τ1:=[some r.toD,some (.bl wr),o]) (μ1:=μ) (Kg (ds:=r.vars.map D.str) (μ1:=μ) (Ie (x:=.lst (r.vars.map D.str)) (μ1:=μ) (A3 (ds:=[r.toD]) (μ1:=μ) ?_ v) rfl) lp) b;rfl
end
end K1
set_option maxHeartbeats 4000000
namespace K1
open PySem L2 Mi
section
variable{μ:Mh}{n:Nat}{z:D}{τ:Sl}
theorem G6{L:List (Key×D)}(h:μ[n]?=some (.dK L)):EI (.ref n) μ=some ((n,L),μ):=by unfold EI;dsimp only;rw[h]
theorem Rf{mo mi:Sl->M D}{L:List (Key×D)}{bx:Str}(h1:mo τ μ=some (.ref n,μ))(h:μ[n]?=some (.dK L))(h2:mi τ μ=some (.str bx,μ))(hv:EZ L (.inr bx)=some z):IP mo mi τ μ=some (z,μ):=by
 unfold IP;rw[AM h1,AM (show Kb (.ref n) μ=some ((),μ) from by unfold Kb;rw[AM (G6 h)];rfl),AM h2];unfold Rn;rw[AM (G6 h)];show some ((EZ L (.inr bx)).getD .non,μ)=_;rw[hv];rfl
theorem YO{L:List (Key×D)}{bx:Str}(h:μ[n]?=some (.dK L))(hv:(EZ L (.inr bx)).isSome=true):O7 false (.str bx) (.ref n) μ=some (.bl true,μ):=by
 unfold O7;rw[AM (G6 h)];show some (D.bl (EZ L (.inr bx)).isSome,μ)=_;rw[hv]
end
end K1
local macro_rules | `(tactic| wtm_at "h")=>`(tactic| first
 |((with_reducible apply K1.Rf);(wtm_at "b");(assumption);(wtm_at "b");(assumption))|((with_reducible apply K1.YO);(assumption);(assumption)))
namespace K1
open PySem L2 Mi
section
variable{μ μ1 μ2:Mh}{n:Nat}{l:Int}{x y:Str}
noncomputable def Rw.Tab(L:List (Key×D))(nm:Str):Rw->Prop
 | .put bx _=>EZ L (.inr bx)=some (.str nm)
 | .get _ bx=>(EZ L (.inr bx)).isSome=true
 |_=>True
noncomputable def Rw.EndOk(wr:Bool):Rw->Prop
 | .tell _=>wr=false
 | .done=>wr=true
 |_=>True
structure Rw.Ok(L:List (Key×D))(nm:Str)(wr:Bool)(l:Int)(r:Rw):Prop where
 form:r.Form l
 ends:r.EndOk wr
 vars:∀x∈r.vars,SD wr x
 set:r.setOk
 tab:r.Tab L nm
theorem P3{wr:Bool}:∀{r:Rw},r.EndOk wr->Bu [.str r.word,.bl wr] μ=some (.non,μ):=by
 intro r h;cases r with
 |tell e=>cases (show wr=false from h);simp only[Rw.word];exact L7 (by decide +kernel) (by decide +kernel)
 |done=>cases (show wr=true from h);simp only[Rw.word];exact L6 (by decide +kernel) (by decide +kernel)
 |_=>
  simp only[Rw.word];cases wr with
  |false=>exact L7 (by decide +kernel) (by decide +kernel)
  |true=>exact L6 (by decide +kernel) (by decide +kernel)
noncomputable abbrev Lq:Sl->M (Fl×Sl):=(AR (BE (AF Dh (AB (AD 3) (AB (AF Bs (AB (mOp AV (AD 0) (mC (.int 2))) AH)) AH))))
  (AR (BE (AF Bu (AB (mOp AV (AD 3) (mC (.int 0))) (AB (AD 1) AH))))
  (AR (BE (AF CC (AB (AD 3) (AB (AD 1) AH))))
  (AR (sIf (AY (mOp A7 (mOp AV (AD 3) (mC (.int 0))) (mC (.str "put")))) (BE (AF Dw (AB (mOp A7 (IP (AD 2) (mOp AV (AD 3) (mC (.int 1)))) (mOp AV (AD 0) (mC (.int 0)))) (AB (mC (.str "a hand puts a box that it does not write")) AH)))) BW)
  (sIf (AY (mOp A7 (mOp AV (AD 3) (mC (.int 0))) (mC (.str "get")))) (BE (AF Dw (AB (mOp (O7 false) (mOp AV (AD 3) (mC (.int 2))) (AD 2)) (AB (mC (.str "a hand gets a box that is none")) AH)))) BW)))))
theorem QQ{L:List (Key×D)}{nm:Str}{wr:Bool}{w:Int}{ds:List D}(hn:μ[n]?=some (.dK L))(hm:PyData.strOk nm=true):∀{r:Rw},r.Ok L nm wr ds.length->
  Lq [some (.tup [.str nm,.int w,.tup ds]),some (.bl wr),some (.ref n),some r.toD] μ=some ((.next,[some (.tup [.str nm,.int w,.tup ds]),some (.bl wr),some (.ref n),some r.toD]),μ):=by
 intro r h;have c1:=Jz (μ:=μ) h.form;have c2:=P3 (μ:=μ) h.ends;have c3:=F9 (μ:=μ) h.form h.vars h.set;have c4:=h.tab;cases r with
 |put bx e=>
  have c4:EZ L (.inr bx)=some (.str nm):=c4;simp only[Rw.toD,Rw.word] at c1 c2 c3 ⊢;wtm_at "b"
 |get x bx=>
  have c4:(EZ L (.inr bx)).isSome=true:=c4;simp only[Rw.toD,Rw.word] at c1 c2 c3 ⊢;wtm_at "b"
 |_=>
  simp only[Rw.toD,Rw.word] at c1 c2 c3 ⊢;wtm_at "b"
theorem JN{L:List (Key×D)}{nm:Str}{wr:Bool}{w:Int}{ds:List D}(hn:μ[n]?=some (.dK L))(hm:PyData.strOk nm=true):∀(rs:List Rw) (o:Option D),(∀r∈rs,r.Ok L nm wr ds.length)->∃o',
  Dv (AN 3) Lq (rs.map Rw.toD) [some (.tup [.str nm,.int w,.tup ds]),some (.bl wr),some (.ref n),o] μ=some ((.next,[some (.tup [.str nm,.int w,.tup ds]),some (.bl wr),some (.ref n),o']),μ)
 |[],o,_=>⟨o,rfl⟩
 |r::rs,o,h=>by
  obtain⟨o',ih⟩:=JN (w:=w) hn hm rs (some r.toD) λq hq=>h q (by simp[hq]);exact⟨o',Em rfl (QQ hn hm (h r (by simp))) ih⟩
theorem Jy{L:List (Key×D)}{nm:Str}{wr:Bool}{w:Int}{rs:List Rw}(hn:μ[n]?=some (.dK L))(hm:PyData.strOk nm=true)(h:∀r∈rs,r.Ok L nm wr rs.length):C8 [.tup [.str nm,.int w,.tup (rs.map Rw.toD)],.bl wr,.ref n] μ=some (.non,μ):=by
 obtain⟨o',lp⟩:=JN (w:=w) (ds:=rs.map Rw.toD) hn hm rs none (by rw[AAG];exact h);exact A8 (g:=[]) (by
  rw[AAZ];exact Kg (ds:=rs.map Rw.toD) (μ1:=μ) (Ie (x:=.tup (rs.map Rw.toD)) (μ1:=μ) (Bl (x:=.tup [.str nm,.int w,.tup (rs.map Rw.toD)]) (y:=.int 2) (μ1:=μ) (μ2:=μ) rfl rfl rfl) rfl) lp) rfl
end
end K1
set_option maxHeartbeats 4000000
namespace K1
open PySem L2 Mi
section
variable{μ:Mh}{x:Str}{τ2:Sl}
theorem NS:∀(xs ys:List Str),(ys++xs).Nodup->(xs.foldl (λys x=>if x∈ys then ys else ys++[x]) ys)=ys++xs
 |[],ys,_=>by simp
 |x::xs,ys,h=>by
  have hx:x∉ys:=by
   intro hm;rw[List.nodup_append] at h;exact h.2.2 x hm x (by simp) rfl
  show xs.foldl _ (if x∈ys then ys else ys++[x])=_;rw[if_neg hx,NS xs (ys++[x]) (by simpa using h)];simp
theorem J7:∀xs:List Str,G9 (xs.map D.str)=some xs
 |[]=>rfl
 |x::r=>by
  show (G9 (r.map D.str)).map (x::·)=_;rw[J7 r];rfl
theorem J2{xs:List Str}(h:xs.Nodup)(hl:xs.length<=1000):DB [.lst (xs.map D.str)] μ=some (.bl true,μ):=by
 have e:Fd (.lst (xs.map D.str)) μ=some (.int xs.length,μ):=by
  unfold Fd;rw[AM (show Cn (.lst (xs.map D.str)) μ=some (xs.map D.str,μ) from rfl),J7];show (if xs.length+2<scanBound then some (D.int (By xs).length,μ) else none)=_;rw[if_pos (by have:scanBound=4096:=rfl;omega)];have:By xs=xs:=by unfold By;rw[NS xs [] (by simpa using h)];simp
  rw[this]
 have hq:((xs.length:Nat):Int)=((xs.map D.str).length:Nat):=by simp
 exact Ah (g:=[]) (τ2:=_) (by rw[AAZ];unfold CP;wtm_at "b") rfl (by unfold Cl;trivial)
structure Bx where
 nm:Str
 kd:Str
 sz:Int
 bg:Int
 wr:Str
def Bx.toD(b:Bx):D:=.tup [.str b.nm,.str b.kd,.int b.sz,.int b.bg,.str b.wr]
def Jp(kd:Str)(sz bg:Int):Prop:=kd∈(["safe", "steady", "whole"]:List Str)/\2<=sz/\sz<=10/\0<=bg/\bg<=sz-1
structure Hd where
 nm:Str
 wi:Int
 rs:List Rw
def Hd.toD(h:Hd):D:=.tup [.str h.nm,.int h.wi,.tup (h.rs.map Rw.toD)]
end
end K1
set_option maxHeartbeats 4000000
namespace K1
open PySem L2 Mi
section
variable{μ μ1 μ2:Mh}{n:Nat}{x y:Str}{τ1 τ2:Sl}
noncomputable def kv(b:Bx):Key×D:=(.inr b.nm,.str b.wr)
theorem S9{bs:List Bx}{b:Bx}(h:b.nm∉bs.map Bx.nm):Fm (bs.map kv) (.inr b.nm) (.str b.wr)=(bs++[b]).map kv:=by
 unfold Fm;rw[if_neg]
 ·simp[kv]
 ·intro z;rw[List.any_eq_true] at z;obtain⟨p,hp,e⟩:=z;rw[AAM] at hp;obtain⟨c,hc,rfl⟩:=hp;have e:=of_decide_eq_true e;have e2:(Sum.inr c.nm:Key)=.inr b.nm:=e;exact h (AAM.mpr ⟨c,hc,Sum.inr.inj e2⟩)
theorem L3:∀{bs:List Bx} {b:Bx},(bs.map Bx.nm).Nodup->b∈bs->EZ (bs.map kv) (.inr b.nm)=some (.str b.wr)
 |c::bs,b,hd,hb=>by
  unfold EZ;rw[AAX,List.find?_cons];rw[AAX,List.nodup_cons] at hd;by_cases e:c.nm=b.nm
  ·have hbc:b=c:=by
    rcases AAJ.mp hb with z|z
    ·exact z
    ·exact absurd (show b.nm∈bs.map Bx.nm from AAM.mpr ⟨b,z,rfl⟩) (by rw[←e];exact hd.1)
   subst hbc;simp[kv]
  ·have hb':b∈bs:=by
    rcases AAJ.mp hb with z|z
    ·exact absurd (by rw[z]) e
    ·exact z
   have:decide ((kv c).1=(Sum.inr b.nm:Key))=false:=AAO (by intro z;exact e (Sum.inr.inj (show (Sum.inr c.nm:Key)=.inr b.nm from z)));simp only[this];exact L3 hd.2 hb'
structure Mk where
 kd:Str
 sz:Int
 bg:Int
 bs:List Bx
 hs:List Hd
def Mk.toD(m:Mk):D:=.tup [.str m.kd,.int m.sz,.int m.bg,.tup (m.bs.map Bx.toD),.tup (m.hs.map Hd.toD)]
structure Mk.Ok(m:Mk):Prop where
 worth:Jp m.kd m.sz m.bg
 boxes:∀b∈m.bs,GoodName b.nm/\Jp b.kd b.sz b.bg
 most:m.bs.length<=6
 unlike:(m.bs.map Bx.nm).Nodup
 hands:∀h∈m.hs,GoodName h.nm/\0<=h.wi/\h.wi<=400/\h.rs.length<=60
 least:2<=m.hs.length
 mosth:m.hs.length<=4
 unlikeh:(m.hs.map Hd.nm).Nodup
 writers:∀b∈m.bs,b.wr∈m.hs.map Hd.nm
 rows:∀(i:Nat) (h:Hd),m.hs[i]?=some h->∀r∈h.rs,r.Ok (m.bs.map kv) h.nm (i==0) h.rs.length
theorem Ij{t t1 o3:Option D}{L:List (Key×D)}(hn:μ[n]?=some (.dK L)):∀(hs:List Hd) (k:Nat) (o4 o5:Option D),(∀h∈hs,PyData.strOk h.nm=true)->(∀(i:Nat) (h:Hd),hs[i]?=some h->∀r∈h.rs,r.Ok L h.nm (i+k==0) h.rs.length)->∃o4' o5',
  Dv (G5 [4,5]) (BE (AF C8 (AB (AD 5) (AB (mOp A7 (AD 4) (mC (.int 0))) (AB (AD 2) AH))))) (D3 k (hs.map Hd.toD)) [t,t1,some (.ref n),o3,o4,o5] μ=some ((.next,[t,t1,some (.ref n),o3,o4',o5']),μ)
 |[],k,o4,o5,_,_=>⟨o4,o5,rfl⟩
 |h::hs,k,o4,o5,hh,hr=>by
  obtain⟨o4',o5',ih⟩:=Ij (t:=t) (t1:=t1) (o3:=o3) hn hs (k+1) (some (.int k)) (some h.toD) (λq hq=>hh q (by simp[hq])) λi q hq r hrr=>by
   have:=hr (i+1) q (by simpa using hq) r hrr;rw[show i+(k+1)=i+1+k from by omega];exact this
  have hb:(((k:Nat):Int)==0)=(0+k==0):=by
   rw[Nat.zero_add];by_cases z:k=0
   ·subst z;rfl
   ·rw[AAe.mpr z,AAe.mpr (by omega)]
  have c:=Jy (w:=h.wi) hn (hh h (by simp)) (hr 0 h rfl);have e:A7 (.int k) (.int 0) μ=some (.bl (0+k==0),μ):=by rw[RL,hb]
  refine⟨o4',o5',Em (τ1:=[t,t1,some (.ref n),o3,some (.int k),some h.toD]) (τ2:=[t,t1,some (.ref n),o3,some (.int k),some h.toD]) (μ1:=μ) (μ2:=μ) rfl ?_ ih⟩;exact Nm (A3 (ds:=[h.toD,.bl (0+k==0),.ref n]) (μ1:=μ) (BZ (μ1:=μ) rfl (BZ (μ1:=μ) (Bl (x:=.int k) (y:=.int 0) (μ1:=μ) (μ2:=μ) rfl rfl e) (BZ (μ1:=μ) rfl rfl))) c)
end
end K1
set_option maxHeartbeats 4000000
namespace K1
open PySem L2 Mi
section
variable{μ:Mh}{x y:Str}
theorem JL:∀xs:List Str,E8 μ (xs.map D.str)=some (xs.map PyData.str)
 |[]=>rfl
 |x::r=>by
  rw[AAX];unfold E8;rw[JL r];rfl
theorem LT:∀{xs:List Str},(∀x∈xs,PyData.strOk x=true)->PyData.canLayAll0 (xs.map PyData.str)=true/\PyData.depthAll (xs.map PyData.str)=0
 |[],_=>⟨rfl,rfl⟩
 |x::r,h=>by
  obtain⟨h1,h2⟩:=LT (xs:=r) λy hy=>h y (by simp[hy]);refine⟨?_,?_⟩
  ·rw[AAX];unfold PyData.canLayAll0;rw[h1,Bool.and_true];exact h x (by simp)
  ·rw[AAX];unfold PyData.depthAll;rw[h2];rfl
theorem LE{xs:List Str}(h:∀x∈xs,PyData.strOk x=true):SeqAt.shaped (.list (xs.map PyData.str))=true:=by
 obtain⟨h1,h2⟩:=LT h;show (PyData.canLayAll0 (xs.map PyData.str)&&decide (PyData.depthAll (xs.map PyData.str)+1<=64))=true;rw[h1,h2];rfl
theorem HS{neg:Bool}{xs:List Str}(h:∀x∈xs,PyData.strOk x=true):Fo neg (.lst (xs.map D.str)) (.lst []) μ=some (.bl (if neg then !(PyData.eqv (.list (xs.map PyData.str)) (.list [])) else PyData.eqv (.list (xs.map PyData.str)) (.list [])),μ):=by
 have e1:J6 μ (.lst (xs.map D.str))=some (.list (xs.map PyData.str)):=by
  show (E8 μ (xs.map D.str)).map PyData.list=_;rw[JL];rfl
 have e2:J6 μ (.lst [])=some (.list []):=rfl;unfold Fo;rw[e1,e2];show (if SeqAt.shaped (.list (xs.map PyData.str))=true/\SeqAt.shaped (.list [])=true then _ else none)=_;rw[if_pos ⟨LE h,rfl⟩]
theorem Tx:A7 (.lst []) (.lst []) μ=some (.bl true,μ):=HS (neg:=false) (xs:=[]) (by simp)
theorem KP:EO (.lst []) (.lst []) μ=some (.bl false,μ):=HS (neg:=true) (xs:=[]) (by simp)
theorem RM{xs:List Str}(h:∀x∈xs,PyData.strOk x=true)(hn:xs≠[]):A7 (.lst (xs.map D.str)) (.lst []) μ=some (.bl false,μ):=by
 cases xs with
 |nil=>exact absurd rfl hn
 |cons x r=>exact HS (neg:=false) h
theorem IU{xs:List Str}(h:∀x∈xs,PyData.strOk x=true)(hn:xs≠[]):EO (.lst (xs.map D.str)) (.lst []) μ=some (.bl true,μ):=by
 cases xs with
 |nil=>exact absurd rfl hn
 |cons x r=>exact HS (neg:=true) h
theorem Gm{α:Type}{f:α->D}{xs:List α}{i:Int}(h1:0<=i)(h2:i<xs.length):∃a∈xs,atI (xs.map f) i=some (f a):=by
 obtain⟨k,rfl⟩:=Int.eq_ofNat_of_zero_le h1;have hk:k<xs.length:=by omega
 refine⟨xs[k],List.getElem_mem hk,?_⟩;unfold atI ixN;rw[if_pos h1,if_pos (by rw[AAG];exact h2)];show (xs.map f)[(k:Int).toNat]?=_;simp[hk]
theorem Ex.cl{k:Nat}:∀e:Ex,Cl k e.toD
 | .num _=>by simp[Ex.toD,Cl,ClL]
 | .var _=>by simp[Ex.toD,Cl,ClL]
 | .neg e=>by have:=Ex.cl (k:=k) e;simp[Ex.toD,Cl,ClL,this]
 | .pair _ a b=>by have h1:=Ex.cl (k:=k) a;have h2:=Ex.cl (k:=k) b;simp[Ex.toD,Cl,ClL,h1,h2]
end
end K1
local macro_rules | `(tactic| wtm_at "h")=>`(tactic| first
 |with_reducible assumption|(with_reducible apply K1.Tx)|(with_reducible apply K1.KP)|((with_reducible apply K1.RM);(assumption);(assumption))|((with_reducible apply K1.IU);(assumption);(assumption))|((with_reducible apply K1.l_minT);omega)|((with_reducible apply K1.l_minF);omega)|((with_reducible apply Mi.IV);assumption))
namespace K1
open PySem L2 Mi
section
variable{μ μ2 μ':Mh}{w:Nat}{x:Str}
noncomputable abbrev Ug:Sl->M (Fl×Sl):=(AR (sIf (mOr (AY (mOp A7 (AD 1) (AF Aq AH))) (AY (mOp A7 (AF BA (AB (AD 0) (AB (mC (.int 2)) AH))) (mC (.int 0))))) (A9 (AF AZ (AB (mC (.str "num")) (AB (AF BA (AB (AD 0) (AB (mC (.int 10)) AH))) AH)))) BW)
  (A9 (AF AZ (AB (mC (.str "var")) (AB (mOp AV (AD 1) (AF BA (AB (AD 0) (AB (AF Bs (AB (AD 1) AH)) AH)))) AH)))))
theorem Tu{k:Nat}{j r1:Int}{ns:List Str}(hw:WellAt μ w)(hns:∀x∈ns,GoodName x)(hl:ns.length<=1000):∃(e:Ex) (μ':Mh) (τ':Sl),Ug [some (.ref w),some (.lst (ns.map D.str)),some (.int j),some (.int r1),none,none,none] μ=some ((.rt e.toD,τ'),μ')/\e.Ok (k+1)/\(∀x∈e.vars,x∈ns)/\Upd w μ μ':=by
 by_cases h0:ns=[]
 ·subst h0;obtain⟨r2,μ2,d2,a2,b2,u2⟩:=CU (b:=10) hw (by decide) (by decide);refine⟨.num r2,μ2,[some (.ref w),some (.lst []),some (.int j),some (.int r1),none,none,none],?_,⟨a2,by omega⟩,by simp[Ex.vars],u2⟩;unfold Ex.toD;show Ug [some (.ref w),some (.lst []),some (.int j),some (.int r1),none,none,none] μ=_;wtm_at "b"
 ·have hok:∀x∈ns,PyData.strOk x=true:=λx hx=>(hns x hx).ok;obtain⟨r2,μ2,d2,a2,b2,u2⟩:=CU (b:=2) hw (by decide) (by decide);have w2:=u2.well hw.lt;by_cases hr:r2=0
  ·obtain⟨r3,μ3,d3,a3,b3,u3⟩:=CU (b:=10) w2 (by decide) (by decide);refine⟨.num r3,μ3,[some (.ref w),some (.lst (ns.map D.str)),some (.int j),some (.int r1),none,none,none],?_,⟨a3,by omega⟩,by simp[Ex.vars],u2.trans u3⟩;unfold Ex.toD;wtm_at "b"
  ·have hp:0<ns.length:=List.length_pos_iff.mpr h0;obtain⟨r3,μ3,d3,a3,b3,u3⟩:=CU (b:=((ns.map D.str).length:Nat)) w2 (by simp;omega) (by simp;omega);obtain⟨x,hx,px⟩:=Gm (f:=D.str) (xs:=ns) a3 (by simpa using b3);refine⟨.var x,μ3,[some (.ref w),some (.lst (ns.map D.str)),some (.int j),some (.int r1),none,none,none],?_,hns x hx,by simp[Ex.vars,hx],u2.trans u3⟩;unfold Ex.toD;wtm_at "b"
end
end K1
set_option maxHeartbeats 4000000
namespace K1
open PySem L2 Mi
section
variable{μ μ1 μ2 μ':Mh}{n w:Nat}{d:D}{x:Str}{τ1 τ2:Sl}
theorem Upd.fin{N ps:Nat}{mb:Sl->M (Fl×Sl)}{ds:List D}(e:mb (Ay N ds) μ=some ((.rt d,τ2),μ1))(hl:ds.length=ps)(u:Upd w μ μ1)(c:Cl μ.length d):BG .drop N ps mb ds μ=some (d,μ1):=
 Fg (g:=[]) (by rw[AAZ];exact e) hl u c
theorem Pr{i:Int}(h1:4<=i)(h2:i<10):∃x∈Gn,atI [D.str "+",.str "-",.str "=",.str "<",.str "and",.str "or"] (i-4)=some (.str x):=
 Gm (f:=D.str) (xs:=Gn) (by omega) (by show i-4<6;omega)
theorem Hi{w:Nat}{ns:List Str}(hns:∀x∈ns,GoodName x)(hl:ns.length<=1000):∀(k n:Nat) (j:Int) (μ:Mh),j=k->1<=k->k<=n->WellAt μ w->∃(e:Ex) (μ':Mh),DC n [.ref w,.lst (ns.map D.str),.int j] μ=some (e.toD,μ')/\e.Ok k/\(∀x∈e.vars,x∈ns)/\Upd w μ μ'
 |0,_,_,_,_,h,_,_=>by omega
 |_+1,0,_,_,_,_,h,_=>by omega
 |k+1,n+1,j,μ,hj,_,hn,hw=>by
  obtain⟨r1,μ1,d1,a1,b1,u1⟩:=CU (b:=10) hw (by decide) (by decide);have w1:=u1.well hw.lt;by_cases c:j=1∨r1<3
  ·obtain⟨e,μ',τ',q,ok,vs,u⟩:=Tu (k:=k) (j:=j) (r1:=r1) w1 hns hl;refine⟨e,μ',?_,ok,vs,u1.trans u⟩;refine Upd.fin (τ2:=τ') ?_ rfl (u1.trans u) (Ex.cl e);have t:mOr (AY (mOp A7 (AD 2) (mC (.int 1)))) (AY (mOp Fu (AD 3) (mC (.int 3)))) [some (.ref w),some (.lst (ns.map D.str)),some (.int j),some (.int r1),none,none,none] μ1=some (true,μ1):=by
    by_cases c1:j=1
    ·wtm_at "b"
    ·have c2:r1<3:=by omega
     wtm_at "b"
   exact BN (τ1:=[some (.ref w),some (.lst (ns.map D.str)),some (.int j),some (.int r1),none,none,none]) (μ1:=μ1) (Dz (A3 (ds:=[.ref w,.int 10]) (μ1:=μ) rfl d1) rfl) (GT (Gw t q))
  ·have c1:j≠1:=by omega
   have c2:3<=r1:=by omega
   by_cases c3:r1=3
   ·obtain⟨e,μ',q,ok,vs,u⟩:=Hi hns hl k n (j-1) μ1 (by omega) (by omega) (by omega) w1;refine⟨.neg e,μ',?_,ok,vs,u1.trans u⟩;refine Upd.fin (τ2:=[some (.ref w),some (.lst (ns.map D.str)),some (.int j),some (.int r1),none,none,none]) ?_ rfl (u1.trans u) (Ex.cl (.neg e));unfold Ex.toD;refine BN (τ1:=[some (.ref w),some (.lst (ns.map D.str)),some (.int j),some (.int r1),none,none,none]) (μ1:=μ1) (Dz (A3 (ds:=[.ref w,.int 10]) (μ1:=μ) rfl d1) rfl) ?_;wtm_at "b"
   ·have c4:4<=r1:=by omega
    obtain⟨wd,hwd,pw⟩:=Pr c4 b1;obtain⟨a,μ2,q2,ok2,vs2,u2⟩:=Hi hns hl k n (j-1) μ1 (by omega) (by omega) (by omega) w1;have w2:=u2.well w1.lt;obtain⟨b,μ3,q3,ok3,vs3,u3,kb,j2,m2⟩:∃(b:Ex) (μ3:Mh),DC n [.ref w,.lst (ns.map D.str),.int (if 2<j-1 then 2 else j-1)] μ2=some (b.toD,μ3)/\b.Ok k/\(∀x∈b.vars,x∈ns)/\Upd w μ2 μ3/\True/\True/\True:=by
     by_cases z:2<j-1
     ·obtain⟨b,μ3,q3,ok3,vs3,u3⟩:=Hi hns hl (min k 2) n 2 μ2 (by omega) (by omega) (by omega) w2;exact⟨b,μ3,by rw[if_pos z];exact q3,ok3.mono (by omega),vs3,u3,trivial,trivial,trivial⟩
     ·obtain⟨b,μ3,q3,ok3,vs3,u3⟩:=Hi hns hl k n (j-1) μ2 (by omega) (by omega) (by omega) w2;exact⟨b,μ3,by rw[if_neg z];exact q3,ok3,vs3,u3,trivial,trivial,trivial⟩
    have w3:=u3.well w2.lt;obtain⟨r4,μ4,d4,a4,b4,u4⟩:=CU (b:=2) w3 (by decide) (by decide);have U:=u1.trans (u2.trans (u3.trans u4));have mn:Of [.int (j-1),.int 2] μ2=some (.int (if 2<j-1 then 2 else j-1),μ2):=rfl;have fin:∀(e:Ex),atI [D.tup [.str wd,a.toD,b.toD],.tup [.str wd,b.toD,a.toD]] r4=some e.toD->DC (n+1) [.ref w,.lst (ns.map D.str),.int j] μ=some (e.toD,μ4):=by
     intro e he;refine Upd.fin (τ2:=[some (.ref w),some (.lst (ns.map D.str)),some (.int j),some (.int r1),some (.str wd),some a.toD,some b.toD]) ?_ rfl U (Ex.cl e);refine BN (τ1:=[some (.ref w),some (.lst (ns.map D.str)),some (.int j),some (.int r1),none,none,none]) (μ1:=μ1) (Dz (A3 (ds:=[.ref w,.int 10]) (μ1:=μ) rfl d1) rfl) ?_;refine BN (τ1:=[some (.ref w),some (.lst (ns.map D.str)),some (.int j),some (.int r1),none,none,none]) (μ1:=μ1) (by wtm_at "b") ?_;refine BN (τ1:=[some (.ref w),some (.lst (ns.map D.str)),some (.int j),some (.int r1),none,none,none]) (μ1:=μ1) (by wtm_at "b") ?_;refine BN (τ1:=[some (.ref w),some (.lst (ns.map D.str)),some (.int j),some (.int r1),some (.str wd),none,none]) (μ1:=μ1) (Dz (d:=.str wd) (μ1:=μ1) (by wtm_at "b") rfl) ?_;refine BN (τ1:=[some (.ref w),some (.lst (ns.map D.str)),some (.int j),some (.int r1),some (.str wd),some a.toD,none]) (μ1:=μ2) (Dz (d:=a.toD) (μ1:=μ2) (by wtm_at "b") rfl) ?_;refine BN (τ1:=[some (.ref w),some (.lst (ns.map D.str)),some (.int j),some (.int r1),some (.str wd),some a.toD,some b.toD]) (μ1:=μ3) (Dz (d:=b.toD) (μ1:=μ3) (A3 (ds:=[.ref w,.lst (ns.map D.str),.int (if 2<j-1 then 2 else j-1)]) (μ1:=μ2) rfl q3) rfl) ?_;wtm_at "b"
    by_cases z:r4=0
    ·refine⟨.pair wd a b,μ4,fin _ (by subst z;rfl),⟨hwd,ok2,ok3⟩,λx hx=>?_,U⟩;rcases AAK.mp (show x∈a.vars++b.vars from hx) with q|q
     ·exact vs2 x q
     ·exact vs3 x q
    ·have z1:r4=1:=by omega
     refine⟨.pair wd b a,μ4,fin _ (by subst z1;rfl),⟨hwd,ok3,ok2⟩,λx hx=>?_,U⟩;rcases AAK.mp (show x∈b.vars++a.vars from hx) with q|q
     ·exact vs3 x q
     ·exact vs2 x q
end
end K1
set_option maxHeartbeats 4000000
namespace K1
open PySem L2 Mi
noncomputable def Fj(ns:List Str)(wr:Bool):List Str:=ns++(if wr then (["v"]:List Str) else [])
noncomputable def Rw.From(own bxs ns:List Str):Rw->Prop
 | .put bx _=>bx∈own
 | .get x bx=>x∈ns/\bx∈bxs
 | .letr x _=>x∈ns
 |_=>True
structure Rw.Drawn(own bxs ns:List Str)(wr:Bool)(l:Int)(r:Rw):Prop where
 form:r.Form l
 ends:r.EndOk wr
 vars:∀x∈r.vars,x∈Fj ns wr
 frm:r.From own bxs ns
section
variable{μ μ1 μ2 μ':Mh}{w:Nat}{d:D}{x y:Str}{τ τ1 τ2:Sl}
theorem Rw.cl{k:Nat}(r:Rw):Cl k r.toD:=by
 cases r with
 |put bx e=>have:=Ex.cl (k:=k) e;simp[Rw.toD,Cl,ClL,this]
 |letr bx e=>have:=Ex.cl (k:=k) e;simp[Rw.toD,Cl,ClL,this]
 | «unless» e t=>have:=Ex.cl (k:=k) e;simp[Rw.toD,Cl,ClL,this]
 |tell e=>have:=Ex.cl (k:=k) e;simp[Rw.toD,Cl,ClL,this]
 |_=>simp[Rw.toD,Cl,ClL]
theorem UN{i:Int}(h1:0<=i)(h2:i<4):∃k:Int,1<=k/\k<=5/\atI [D.int 1,.int 2,.int 3,.int 5] i=some (.int k):=by
 obtain⟨k,hk,e⟩:=Gm (f:=D.int) (xs:=[1,2,3,5]) h1 (by show i<4;exact h2);simp at hk;exact⟨k,by omega,by omega,e⟩
theorem Si{ns:List Str}{wr:Bool}(hl:ns.length<=1000){τ:Sl}(h3:τ[3]?=some (some (.lst (ns.map D.str))))(h5:τ[5]?=some (some (.bl wr))):mOp Cz (AD 3) (mOp Dq (AF Aq (AB (mC (.str "v")) AH)) (AF LY (AB (AD 5) AH))) τ μ=some (.lst ((Fj ns wr).map D.str),μ):=by
 have hz:sizeLine=16777216:=by decide
 have s3:AD 3 τ μ=some (.lst (ns.map D.str),μ):=DD h3;have s5:AD 5 τ μ=some (.bl wr,μ):=DD h5;cases wr with
 |true=>
  have m:Dq (.lst [.str "v"]) (.int 1) μ=some (.lst [.str "v"],μ):=rfl;have a:Cz (.lst (ns.map D.str)) (.lst [.str "v"]) μ=some (.lst (ns.map D.str++[.str "v"]),μ):=C1 (by simp;omega);have e:(Fj ns true).map D.str=ns.map D.str++[.str "v"]:=by simp[Fj]
  rw[e];exact Bl s3 (Bl (x:=.lst [.str "v"]) (y:=.int 1) (μ1:=μ) (μ2:=μ) rfl (A3 (ds:=[.bl true]) (μ1:=μ) (BZ s5 rfl) rfl) m) a
 |false=>
  have m:Dq (.lst [.str "v"]) (.int 0) μ=some (.lst [],μ):=rfl;have a:Cz (.lst (ns.map D.str)) (.lst []) μ=some (.lst (ns.map D.str++[]),μ):=C1 (by simp;omega);have e:(Fj ns false).map D.str=ns.map D.str++[]:=by simp[Fj]
  rw[e];exact Bl s3 (Bl (x:=.lst [.str "v"]) (y:=.int 0) (μ1:=μ) (μ2:=μ) rfl (A3 (ds:=[.bl false]) (μ1:=μ) (BZ s5 rfl) rfl) m) a
theorem XH{w:Nat}{own bxs ns:List Str}{many:Int}{wr:Bool}(hw:WellAt μ w)(hm:0<=many)(hm2:many<=60)(ho:∀x∈own,GoodName x)(hb:∀x∈bxs,GoodName x)(hn:∀x∈ns,GoodName x)(hne:ns≠[])(lo:own.length<=100)(lb:bxs.length<=100)(ln:ns.length<=100):
  ∃(r:Rw) (μ':Mh),Ic [.ref w,.lst (own.map D.str),.lst (bxs.map D.str),.lst (ns.map D.str),.int many,.bl wr] μ=some (r.toD,μ')/\r.Drawn own bxs ns wr many/\Upd w μ μ':=by
 obtain⟨r1,μ1,d1,a1,b1,u1⟩:=CU (b:=8) hw (by decide) (by decide);have w1:=u1.well hw.lt;obtain⟨r2,μ2,d2,a2,b2,u2⟩:=CU (b:=4) w1 (by decide) (by decide);have w2:=u2.well w1.lt;obtain⟨k0,k1,k2,ka⟩:=UN a2 b2;have ho':∀x∈own,PyData.strOk x=true:=λx hx=>(ho x hx).ok;have hb':∀x∈bxs,PyData.strOk x=true:=λx hx=>(hb x hx).ok;have hs:∀x∈Fj ns wr,GoodName x:=by
  intro x hx;rcases AAK.mp (show x∈ns++(if wr then (["v"]:List Str) else []) from hx) with z|z
  ·exact hn x z
  ·cases wr with
   |true=>
    simp at z;subst z;exact⟨by decide +kernel,by decide +kernel,by unfold EE;decide +kernel⟩
   |false=>simp at z
 have hsl:(Fj ns wr).length<=1000:=by
  unfold Fj;rw[AAH];cases wr<;>simp<;>omega
 obtain⟨k,k3,k4,kd⟩:∃k:Int,1<=k/\k<=5/\sIf (AY (mOp OS (AD 4) (mC (.int 9)))) (Ai (AF Of (AB (AD 7) (AB (mC (.int 2)) AH))) (AN 7)) BW [some (.ref w),some (.lst (own.map D.str)),some (.lst (bxs.map D.str)),some (.lst (ns.map D.str)),some (.int many),some (.bl wr),some (.int r1),some (.int k0),none] μ2=some ((.next,[some (.ref w),some (.lst (own.map D.str)),some (.lst (bxs.map D.str)),some (.lst (ns.map D.str)),some (.int many),some (.bl wr),some (.int r1),some (.int k),none]),μ2):=by
  by_cases c:9<many
  ·refine⟨if 2<k0 then 2 else k0,by split<;>omega,by split<;>omega,?_⟩;exact Gw (μ1:=μ2) (by wtm_at "b") (Dz (d:=.int (if 2<k0 then 2 else k0)) (μ1:=μ2) (A3 (ds:=[.int k0,.int 2]) (μ1:=μ2) rfl rfl) rfl)
  ·refine⟨k0,k1,k2,?_⟩;wtm_at "b"
 have kn:((k.toNat:Nat):Int)=k:=by omega
 have X:∀ν:Mh,WellAt ν w->∃(e:Ex) (μ':Mh),DC 6 [.ref w,.lst ((Fj ns wr).map D.str),.int k] ν=some (e.toD,μ')/\e.Ok 5/\(∀x∈e.vars,x∈Fj ns wr)/\Upd w ν μ':=by
  intro ν hν;obtain⟨e,μ',q,ok,vs,u⟩:=Hi hs hsl k.toNat 6 k ν kn.symm (by omega) (by omega) hν;exact⟨e,μ',q,ok.mono (by omega),vs,u⟩
 have P:∀(r:Rw) (μ':Mh) (τ':Sl),Upd w μ2 μ'->
   (AR (sIf (IQ (AY (mOp Fu (AD 6) (mC (.int 2)))) (AY (mOp EO (AD 1) (AF Aq AH)))) (A9 (AF AZ (AB (mC (.str "put")) (AB (mOp AV (AD 1) (AF BA (AB (AD 0) (AB (AF Bs (AB (AD 1) AH)) AH)))) (AB (AF (DC 6) (AB (AD 0) (AB (AD 8) (AB (AD 7) AH)))) AH))))) BW)
  (AR (sIf (IQ (AY (mOp Fu (AD 6) (mC (.int 4)))) (AY (mOp EO (AD 2) (AF Aq AH)))) (A9 (AF AZ (AB (mC (.str "get")) (AB (mOp AV (AD 3) (AF BA (AB (AD 0) (AB (AF Bs (AB (AD 3) AH)) AH)))) (AB (mOp AV (AD 2) (AF BA (AB (AD 0) (AB (AF Bs (AB (AD 2) AH)) AH)))) AH))))) BW)
  (AR (sIf (AY (mOp Fu (AD 6) (mC (.int 5)))) (A9 (AF AZ (AB (mC (.str "let")) (AB (mOp AV (AD 3) (AF BA (AB (AD 0) (AB (AF Bs (AB (AD 3) AH)) AH)))) (AB (AF (DC 6) (AB (AD 0) (AB (AD 8) (AB (AD 7) AH)))) AH))))) BW)
  (AR (sIf (AY (mOp A7 (AD 6) (mC (.int 5)))) (A9 (AF AZ (AB (mC (.str "unless")) (AB (AF (DC 6) (AB (AD 0) (AB (AD 8) (AB (AD 7) AH)))) (AB (AF BA (AB (AD 0) (AB (mOp Cz (AD 4) (mC (.int 1))) AH))) AH))))) BW)
  (AR (sIf (AY (mOp A7 (AD 6) (mC (.int 6)))) (A9 (AF AZ (AB (mC (.str "jump")) (AB (AF BA (AB (AD 0) (AB (mOp Cz (AD 4) (mC (.int 1))) AH))) AH)))) BW)
  (A9 (mOp AV (AF Aq (AB (AF AZ (AB (mC (.str "tell")) (AB (AF (DC 6) (AB (AD 0) (AB (AD 8) (AB (AD 7) AH)))) AH))) (AB (AF AZ (AB (mC (.str "done")) AH)) AH))) (AF LY (AB (AD 5) AH))))))))) [some (.ref w),some (.lst (own.map D.str)),some (.lst (bxs.map D.str)),some (.lst (ns.map D.str)),some (.int many),some (.bl wr),some (.int r1),some (.int k),some (.lst ((Fj ns wr).map D.str))] μ2=some ((.rt r.toD,τ'),μ')->
   Ic [.ref w,.lst (own.map D.str),.lst (bxs.map D.str),.lst (ns.map D.str),.int many,.bl wr] μ=some (r.toD,μ'):=by
  intro r μ' τ' u q;refine Upd.fin (τ2:=τ') ?_ rfl (u1.trans (u2.trans u)) (Rw.cl r);refine BN (τ1:=[some (.ref w),some (.lst (own.map D.str)),some (.lst (bxs.map D.str)),some (.lst (ns.map D.str)),some (.int many),some (.bl wr),some (.int r1),none,none]) (μ1:=μ1) (Dz (A3 (ds:=[.ref w,.int 8]) (μ1:=μ) rfl d1) rfl) ?_;refine BN (τ1:=[some (.ref w),some (.lst (own.map D.str)),some (.lst (bxs.map D.str)),some (.lst (ns.map D.str)),some (.int many),some (.bl wr),some (.int r1),some (.int k0),none]) (μ1:=μ2) (Dz (d:=.int k0) (μ1:=μ2) (by wtm_at "b") rfl) ?_;refine BN kd ?_;exact BN (Dz (Si (by omega) rfl rfl) rfl) q
 have hlen:∀xs:List Str,xs.length<=100->xs≠[]->(0:Int)<((xs.map D.str).length:Nat)/\(((xs.map D.str).length:Nat):Int)<1073741824:=by
  intro xs h1 h2;have:=List.length_pos_iff.mpr h2;simp;omega
 by_cases cA:r1<2/\own≠[]
 ·obtain⟨cA1,cA2⟩:=cA;obtain⟨p1,p2⟩:=hlen own lo cA2;obtain⟨r3,μ3,d3,a3,b3,u3⟩:=CU w2 p1 p2;obtain⟨bx,hbx,px⟩:=Gm (f:=D.str) (xs:=own) a3 (by simpa using b3);obtain⟨e,μ4,q4,ok,vs,u4⟩:=X μ3 (u3.well w2.lt);refine⟨.put bx e,μ4,P _ μ4 _ (u3.trans u4) (GT (Gw (GU (CQ (Bl (x:=.int r1) (μ1:=μ2) rfl F3 (Oj cA1))) (CQ (Bl (x:=.lst (own.map D.str)) (μ1:=μ2) rfl (A3 (ds:=[]) (μ1:=μ2) rfl (C1 (by decide))) (IU ho' cA2)))) (Kf (A3 (ds:=[.str "put",.str bx,e.toD]) (μ1:=μ4) (BZ (μ1:=μ2) F3 (BZ (μ1:=μ3) (Bl (x:=.lst (own.map D.str)) (y:=.int r3) (μ1:=μ2) (μ2:=μ3) rfl (A3 (ds:=[.ref w,.int ((own.map D.str).length:Nat)]) (μ1:=μ2) rfl d3) (IV px)) (BZ (μ1:=μ4) (A3 (ds:=[.ref w,.lst ((Fj ns wr).map D.str),.int k]) (μ1:=μ3) rfl q4) rfl))) (HQ (show 3<=sizeLine by decide)))))),⟨⟨ho bx hbx,ok⟩,trivial,vs,hbx⟩,u1.trans (u2.trans (u3.trans u4))⟩
 have tA:∀{τ:Sl},τ[1]?=some (some (.lst (own.map D.str)))->τ[6]?=some (some (.int r1))->IQ (AY (mOp Fu (AD 6) (mC (.int 2)))) (AY (mOp EO (AD 1) (AF Aq AH))) τ μ2=some (false,μ2):=by
  intro τ h1 h6;have s1:AD 1 τ μ2=some (.lst (own.map D.str),μ2):=DD h1;have s6:AD 6 τ μ2=some (.int r1,μ2):=DD h6;by_cases c:r1<2
  ·have c0:own=[]:=by rcases Classical.em (own=[]) with z|z;exact z;exact absurd ⟨c,z⟩ cA
   subst c0;exact GU (CQ (Bl s6 F3 (Oj c))) (CQ (Bl s1 (A3 (ds:=[]) (μ1:=μ2) rfl (C1 (by decide))) KP))
  ·exact Kh (CQ (Bl s6 F3 (RH (by omega))))
 have tA':=tA (τ:=[some (.ref w),some (.lst (own.map D.str)),some (.lst (bxs.map D.str)),some (.lst (ns.map D.str)),some (.int many),some (.bl wr),some (.int r1),some (.int k),some (.lst ((Fj ns wr).map D.str))]) rfl rfl;by_cases cB:r1<4/\bxs≠[]
 ·obtain⟨cB1,cB2⟩:=cB;obtain⟨p1,p2⟩:=hlen ns ln hne;obtain⟨r3,μ3,d3,a3,b3,u3⟩:=CU w2 p1 p2;obtain⟨x,hx,px⟩:=Gm (f:=D.str) (xs:=ns) a3 (by simpa using b3);have w3:=u3.well w2.lt;obtain⟨p3,p4⟩:=hlen bxs lb cB2;obtain⟨r4,μ4,d4,a4,b4,u4⟩:=CU w3 p3 p4;obtain⟨bx,hbx,pb⟩:=Gm (f:=D.str) (xs:=bxs) a4 (by simpa using b4);refine⟨.get x bx,μ4,P _ μ4 _ (u3.trans u4) (BN (DV tA' rfl) (GT (Gw (GU (CQ (Bl (x:=.int r1) (μ1:=μ2) rfl F3 (Oj cB1))) (CQ (Bl (x:=.lst (bxs.map D.str)) (μ1:=μ2) rfl (A3 (ds:=[]) (μ1:=μ2) rfl (C1 (by decide))) (IU hb' cB2)))) (Kf (A3 (ds:=[.str "get",.str x,.str bx]) (μ1:=μ4) (BZ (μ1:=μ2) F3 (BZ (μ1:=μ3) (Bl (x:=.lst (ns.map D.str)) (y:=.int r3) (μ1:=μ2) (μ2:=μ3) rfl (A3 (ds:=[.ref w,.int ((ns.map D.str).length:Nat)]) (μ1:=μ2) rfl d3) (IV px)) (BZ (μ1:=μ4) (Bl (x:=.lst (bxs.map D.str)) (y:=.int r4) (μ1:=μ3) (μ2:=μ4) rfl (A3 (ds:=[.ref w,.int ((bxs.map D.str).length:Nat)]) (μ1:=μ3) rfl d4) (IV pb)) rfl))) (HQ (show 3<=sizeLine by decide))))))),⟨⟨hn x hx,hb bx hbx⟩,trivial,?_,hx,hbx⟩,u1.trans (u2.trans (u3.trans u4))⟩;intro y hy;have:y=x:=by simpa[Rw.vars] using hy
  subst this;exact AAb _ hx
 have tB':IQ (AY (mOp Fu (AD 6) (mC (.int 4)))) (AY (mOp EO (AD 2) (AF Aq AH))) [some (.ref w),some (.lst (own.map D.str)),some (.lst (bxs.map D.str)),some (.lst (ns.map D.str)),some (.int many),some (.bl wr),some (.int r1),some (.int k),some (.lst ((Fj ns wr).map D.str))] μ2=some (false,μ2):=by
  by_cases c:r1<4
  ·have c0:bxs=[]:=by rcases Classical.em (bxs=[]) with z|z;exact z;exact absurd ⟨c,z⟩ cB
   subst c0;exact GU (CQ (Bl (x:=.int r1) (μ1:=μ2) rfl F3 (Oj c))) (CQ (Bl (x:=.lst []) (μ1:=μ2) rfl (A3 (ds:=[]) (μ1:=μ2) rfl (C1 (by decide))) KP))
  ·exact Kh (CQ (Bl (x:=.int r1) (μ1:=μ2) rfl F3 (RH (by omega))))
 by_cases cC:r1<5
 ·obtain⟨p1,p2⟩:=hlen ns ln hne;obtain⟨r3,μ3,d3,a3,b3,u3⟩:=CU w2 p1 p2;obtain⟨x,hx,px⟩:=Gm (f:=D.str) (xs:=ns) a3 (by simpa using b3);obtain⟨e,μ4,q4,ok,vs,u4⟩:=X μ3 (u3.well w2.lt);refine⟨.letr x e,μ4,P _ μ4 _ (u3.trans u4) (BN (DV tA' rfl) (BN (DV tB' rfl) (GT (Gw (CQ (Bl (x:=.int r1) (μ1:=μ2) rfl F3 (Oj cC))) (Kf (A3 (ds:=[.str "let",.str x,e.toD]) (μ1:=μ4) (BZ (μ1:=μ2) F3 (BZ (μ1:=μ3) (Bl (x:=.lst (ns.map D.str)) (y:=.int r3) (μ1:=μ2) (μ2:=μ3) rfl (A3 (ds:=[.ref w,.int ((ns.map D.str).length:Nat)]) (μ1:=μ2) rfl d3) (IV px)) (BZ (μ1:=μ4) (A3 (ds:=[.ref w,.lst ((Fj ns wr).map D.str),.int k]) (μ1:=μ3) rfl q4) rfl))) (HQ (show 3<=sizeLine by decide)))))))),⟨⟨hn x hx,ok⟩,trivial,?_,hx⟩,u1.trans (u2.trans (u3.trans u4))⟩;intro y hy;rcases AAJ.mp (show y∈x::e.vars from hy) with z|z
  ·subst z;exact AAb _ hx
  ·exact vs y z
 by_cases cD:r1=5
 ·obtain⟨e,μ3,q3,ok,vs,u3⟩:=X μ2 w2;obtain⟨r4,μ4,d4,a4,b4,u4⟩:=CU (b:=many+1) (u3.well w2.lt) (by omega) (by omega);have cC':5<=r1:=by omega
  exact⟨.unless e r4,μ4,P _ μ4 _ (u3.trans u4) (by simp only[Rw.toD];exact BN (DV tA' rfl) (BN (DV tB' rfl) (by wtm_at "b"))),⟨⟨ok,a4,by omega⟩,trivial,vs,trivial⟩,u1.trans (u2.trans (u3.trans u4))⟩
 by_cases cE:r1=6
 ·obtain⟨r4,μ4,d4,a4,b4,u4⟩:=CU (b:=many+1) w2 (by omega) (by omega);have cC':5<=r1:=by omega
  exact⟨.jump r4,μ4,P _ μ4 _ u4 (by simp only[Rw.toD];exact BN (DV tA' rfl) (BN (DV tB' rfl) (by wtm_at "b"))),⟨⟨a4,by omega⟩,trivial,by simp[Rw.vars],trivial⟩,u1.trans (u2.trans u4)⟩
 ·obtain⟨e,μ3,q3,ok,vs,u3⟩:=X μ2 w2;have cC':5<=r1:=by omega
  cases wr with
  |true=>
   have ii:LY [.bl true] μ3=some (.int 1,μ3):=rfl;exact⟨.done,μ3,P _ μ3 _ u3 (by simp only[Rw.toD];exact BN (DV tA' rfl) (BN (DV tB' rfl) (by wtm_at "b"))),⟨trivial,rfl,by simp[Rw.vars],trivial⟩,u1.trans (u2.trans u3)⟩
  |false=>
   have ii:LY [.bl false] μ3=some (.int 0,μ3):=rfl;exact⟨.tell e,μ3,P _ μ3 _ u3 (by simp only[Rw.toD];exact BN (DV tA' rfl) (BN (DV tB' rfl) (by wtm_at "b"))),⟨ok,rfl,vs,trivial⟩,u1.trans (u2.trans u3)⟩
end
end K1
set_option maxHeartbeats 4000000
namespace K1
open PySem L2 Mi
section
variable{μ μ' g:Mh}{w:Nat}{l:Int}{τ2:Sl}
theorem WellAt.app(h:WellAt μ w):WellAt (μ++g) w:=by
 have hl:=h.lt;obtain⟨a,m,c,h,ha⟩:=h;exact⟨a,m,c,by rw[AAT hl];exact h,ha⟩
theorem SZ{b:Int}(hw:WellAt μ w)(hb:0<b)(hb2:b<1073741824):∃r μ',BA [.ref w,.int b] (μ++g)=some (.int r,μ'++g)/\0<=r/\r<b/\Upd w μ μ':=by
 obtain⟨r,ν,e,h1,h2,u⟩:=CU (hw.app (g:=g)) hb hb2;obtain⟨μ',u',rfl⟩:=u.app hw.lt;exact⟨r,μ',e,h1,h2,u'⟩
theorem U5:∀ns:List Int,∃c:Int,Ck [.scr ns,.int 0] μ=some (.int c,μ)
 |[]=>by
  have l:Bs [.scr []] μ=some (.int 0,μ):=rfl;exact⟨0,Ah (g:=[]) (τ2:=_) (by rw[AAZ];unfold B3;wtm_at "b") rfl (by unfold Cl;trivial)⟩
 |c::ns=>by
  have l:Bs [.scr (c::ns)] μ=some (.int ((((c::ns).map D.int).length:Nat):Int),μ):=rfl;have h0:(0:Int)<((((c::ns).map D.int).length:Nat):Int):=by simp
  have i:AV (.scr (c::ns)) (.int 0) μ=some (.int c,μ):=by
   show bnd (Bw (.scr (c::ns))) (λds=>ixD ds 0) μ=_;rw[AM (show Bw (.scr (c::ns)) μ=some ((c::ns).map D.int,μ) from rfl)];unfold ixD;rw[show atI ((c::ns).map D.int) 0=some (.int c) from by
    unfold atI ixN;rw[if_pos (by decide),if_pos h0];rfl]
   rfl
  exact⟨c,Ah (g:=[]) (τ2:=_) (by rw[AAZ];unfold B3;wtm_at "b") rfl (by unfold Cl;trivial)⟩
theorem YH:NJ (.int 10) (.int 9) μ=some (.int 1000000000,μ):=by
 show (if (0:Int)<=9/\(9:Int)<=1000000/\(10:Int).natAbs<2 ^ 64 then some (D.int ((10:Int) ^ (9:Int).toNat),μ) else none)=_;rw[if_pos (by decide)];rfl
theorem U3{c:Int}:∃a m:Int,0<=a/\GS [.int c] μ=some (.ref μ.length,μ++[.lst [.int a,.int m,.int 0]]):=by
 refine⟨if c-1000000000 > 0 then c-1000000000 else 0,c % 2147483647,by split<;>omega,?_⟩;have p:=YH (μ:=μ);have mx:Tq [.int 0,.int (c-1000000000)] μ=some (.int (if c-1000000000 > 0 then c-1000000000 else 0),μ):=rfl;have e:Fc (Ay 1 [.int c]) μ=some ((.rt (.ref μ.length),Ay 1 [.int c]),μ++[.lst [.int (if c-1000000000 > 0 then c-1000000000 else 0),.int (c % 2147483647),.int 0]]):=by
  unfold Fc;wtm_at "b"
 exact EU (hw:=.all) e rfl (.inr ⟨_,rfl⟩) ⟨⟨[],by simp[HI]⟩,by simp[HI],λj o q=>by
  have q:(μ++[MO.lst [.int (if c-1000000000 > 0 then c-1000000000 else 0),.int (c % 2147483647),.int 0]])[j]?=some o:=q;by_cases hj:j<μ.length
  ·left;rw[AAT hj] at q;exact q
  ·right;rw[AAS (by omega)] at q;have:j-μ.length=0:=by
    have:=(AAU.mp q).1;simp at this;omega
   rw[this] at q;cases q;exact Rs,.inl ⟨rfl,by show Cl _ (D.ref μ.length);unfold Cl;simp[HI]⟩⟩
theorem YY:GoodName "abcdefgh" := ⟨by decide +kernel,by decide +kernel,by unfold EE;decide +kernel⟩
end
end K1
set_option maxHeartbeats 4000000
namespace K1
open PySem L2 Mi
section
variable{μ:Mh}{n w:Nat}{x y:Str}{τ:Sl}{ds:List D}
theorem Lg(k:Nat)(h:k<=ds.length):E9 ds (some (k:Int)) none=ds.drop k:=by
 unfold E9;rw[HT.KB,Nat.min_eq_left h];show (ds.drop k).take (ds.length-k)=_;exact List.take_of_length_le (by simp)
theorem Rp(k:Nat):E9 ds none (some (k:Int))=ds.take k:=by
 unfold E9;rw[HT.KB];show (ds.drop 0).take (min k ds.length-0)=_;rw[List.drop_zero,Nat.sub_zero];by_cases h:k<=ds.length
 ·rw[Nat.min_eq_left h]
 ·rw[Nat.min_eq_right (by omega),List.take_length,List.take_of_length_le (by omega)]
theorem RD{ma:Sl->M D}(h1:ma τ μ=some (.ref n,μ))(h:μ[n]?=some (.lst ds)):IN ma τ μ=some (ds,μ):=by
 unfold IN;rw[AM h1];show (match μ[n]? with|some (.lst ds)=>some (ds,μ)|_=>none)=_;rw[h]
noncomputable def base11:List Str:=["w", "r", "put", "makes", "box", "hand", "z", "not", "v", "safe", "x"]
noncomputable def Hn(x:Str):List Str:=base11.take 6++x::base11.drop 6
theorem Ml:base11.Nodup:=by decide +kernel
theorem PQ:∀y∈base11,GoodName y:=by
 have h:∀y∈base11,(1<=y.length/\y.length<=8)/\EE y:=by unfold EE;decide +kernel
 exact λy hy=>⟨(h y hy).1.1,(h y hy).1.2,(h y hy).2⟩
theorem OH:(Hn x).Perm (x::base11):=by
 unfold Hn;refine List.perm_middle.trans ?_;rw[List.take_append_drop]
structure N1(sm:List Str):Prop where
 len:sm.length=12
 nd:sm.Nodup
 good:∀y∈sm,GoodName y
theorem Tn(h:x∉base11)(hx:GoodName x){sm:List Str}(p:sm.Perm (Hn x)):N1 sm:=by
 have p:=p.trans OH;refine⟨by rw[p.length_eq];rfl,p.nodup_iff.mpr (List.nodup_cons.mpr ⟨h,Ml⟩),λy hy=>?_⟩;rcases AAJ.mp (p.mem_iff.mp hy) with z|z
 ·rw[z];exact hx
 ·exact PQ y z
theorem Hw{sm:List Str}(t:Nat):(sm.drop t++sm.take t).Perm sm:=by
 refine List.perm_append_comm.trans ?_;rw[List.take_append_drop]
end
end K1
set_option maxHeartbeats 4000000
namespace K1
open PySem L2 Mi
section
variable{x:Str}
theorem Nd{i:Int}(h1:0<=i)(h2:i<3):∃k∈(["safe", "steady", "whole"]:List Str),atI [D.str "safe",.str "steady",.str "whole"] i=some (.str k):=
 Gm (f:=D.str) (xs:=["safe", "steady", "whole"]) h1 (by show i<3;exact h2)
theorem VM{sm:List Str}(h:sm.length=12){k:Nat}(hk:k<12):∃x,sm.reverse[k]?=some x/\x∈sm/\atI (sm.map D.str) (11-(k:Int))=some (.str x):=by
 have hk':11-k<sm.length:=by omega
 refine⟨sm[11-k],?_,List.getElem_mem hk',?_⟩
 ·rw[List.getElem?_reverse (by omega)];rw[show sm.length-1-k=11-k from by omega];exact AAt hk'
 ·unfold atI ixN;rw[if_pos (by omega),if_pos (by rw[AAG];omega)];show (sm.map D.str)[(11-(k:Int)).toNat]?=_;rw[show (11-(k:Int)).toNat=11-k from by omega,AAW,AAt hk'];rfl
structure UZ(sm ns:List Str)(k:Nat)(bs:List Bx):Prop where
 nms:bs.map Bx.nm=sm.reverse.take k
 wor:∀b∈bs,Jp b.kd b.sz b.bg
 wri:∀b∈bs,b.wr∈ns
end
end K1
set_option maxHeartbeats 4000000
namespace K1
open PySem L2 Mi
section
variable{μ μ1 μ2:Mh}{n:Nat}{l:Int}{d:D}{x y:Str}{τ:Sl}
noncomputable def own(bs:List Bx)(nm:Str):List Str:=(bs.filter λb=>b.wr==nm).map Bx.nm
theorem Rl{bs:List Bx}{nm:Str}{rn:List Str}{wr:Bool}{l:Int}(hnd:(bs.map Bx.nm).Nodup)(hrn:∀y∈rn,GoodName y/\y∉(["v", "not", "and", "or"]:List Str)){r:Rw}(h:r.Drawn (own bs nm) (bs.map Bx.nm) rn wr l):r.Ok (bs.map kv) nm wr l:=by
 have nv:∀y∈rn,y ≠ "v" := λy hy z=>(hrn y hy).2 (by rw[z];simp);refine⟨h.form,h.ends,λx hx=>?_,?_,?_⟩
 ·rcases AAK.mp (show x∈rn++(if wr then (["v"]:List Str) else []) from h.vars x hx) with z|z
  ·refine⟨(hrn x z).1.ok,λq=>(hrn x z).2 ?_,.inr (nv x z)⟩;simp at q ⊢;exact .inr q
  ·cases wr with
   |true=>
    simp at z;subst z;exact⟨by decide +kernel,by decide +kernel,.inl rfl⟩
   |false=>simp at z
 ·have f:=h.frm;cases r with
  |get x bx=>exact nv x f.1
  |letr x e=>exact nv x f
  |_=>trivial
 ·have f:=h.frm;cases r with
  |put bx e=>
   have f:bx∈own bs nm:=f;unfold own at f;rw[AAM] at f;obtain⟨b,hb,rfl⟩:=f;rw[List.mem_filter] at hb;have e2:b.wr=nm:=beq_iff_eq.mp hb.2;show EZ (bs.map kv) (.inr b.nm)=some (.str nm);rw[L3 hnd hb.1,e2]
  |get x bx=>
   have f:bx∈bs.map Bx.nm:=f.2;rw[AAM] at f;obtain⟨b,hb,rfl⟩:=f;show (EZ (bs.map kv) (.inr b.nm)).isSome=true;rw[L3 hnd hb];rfl
  |_=>trivial
theorem Q0{nm:Str}(hn:PyData.strOk nm=true):∀(bs:List Bx) (ys:List D),(∀b∈bs,PyData.strOk b.wr=true)->CW (AN 0) (AY (mOp A7 (mOp AV (AD 0) (mC (.int 4))) (AD 1))) (mOp AV (AD 0) (mC (.int 0))) [none,some (.str nm)] (bs.map Bx.toD) ys μ=some (ys++(own bs nm).map D.str,μ)
 |[],ys,_=>by show some (ys,μ)=_;simp[own]
 |b::bs,ys,h=>by
  have ih:=λys=>Q0 hn bs ys λq hq=>h q (by simp[hq]);have hb:=h b (by simp);show bnd (AN 0 b.toD [none,some (.str nm)]) _ μ=_;rw[AM (show AN 0 b.toD [none,some (.str nm)] μ=some ([some b.toD,some (.str nm)],μ) from rfl)];have t:AY (mOp A7 (mOp AV (AD 0) (mC (.int 4))) (AD 1)) [some b.toD,some (.str nm)] μ=some (b.wr==nm,μ):=CQ (Bl (x:=.str b.wr) (y:=.str nm) (μ1:=μ) (μ2:=μ) (Bl (x:=b.toD) (y:=.int 4) (μ1:=μ) (μ2:=μ) rfl rfl (JU rfl)) rfl (RK hb hn));rw[AM t];by_cases c:b.wr=nm
  ·have c':(b.wr==nm)=true:=beq_iff_eq.mpr c;rw[c',if_pos rfl,AM (Bl (x:=b.toD) (y:=.int 0) (d:=.str b.nm) (μ1:=μ) (μ2:=μ) (μ3:=μ) rfl rfl (JU rfl)),ih];simp[own,c']
  ·have c':(b.wr==nm)=false:=AAe.mpr c;rw[c',if_neg (by decide),ih];simp[own,c']
theorem Md{bs:List Bx}(hl:bs.length<=1000){ma:Sl->M D}(hm:ma τ μ=some (.ref n,μ))(h:μ[n]?=some (.lst (bs.map Bx.toD))):B0 1 [] (IN ma) (AN 0) Bz (mOp AV (AD 0) (mC (.int 0))) Aq τ μ=some (.lst ((bs.map Bx.nm).map D.str),μ):=by
 have hz:sizeLine=16777216:=by decide
 have go:∀(xs:List Bx) (ys:List D),CW (AN 0) Bz (mOp AV (AD 0) (mC (.int 0))) (BI 1 [] τ) (xs.map Bx.toD) ys μ=some (ys++(xs.map Bx.nm).map D.str,μ):=by
  intro xs
  induction xs with
  |nil=>intro ys;show some (ys,μ)=_;simp
  |cons a xs ih=>
   intro ys;show bnd (AN 0 a.toD (BI 1 [] τ)) _ μ=_;rw[AM (show AN 0 a.toD (BI 1 [] τ) μ=some ((BI 1 [] τ).set 0 (some a.toD),μ) from rfl),AM (show Bz ((BI 1 [] τ).set 0 (some a.toD)) μ=some (true,μ) from rfl),if_pos rfl,AM (Bl (x:=a.toD) (y:=.int 0) (d:=.str a.nm) (μ1:=μ) (μ2:=μ) (μ3:=μ) (DD rfl) F3 (JU rfl)),ih];simp
 exact HR (RD hm h) (by simp;omega) (go bs []) (C1 (by simp;omega))
noncomputable abbrev Y5:Sl->M D:=(AF Ic (AB (AD 6) (AB (AD 4) (AB (B0 1 [] (IN (AD 1)) (AN 0) Bz (mOp AV (AD 0) (mC (.int 0))) Aq) (AB (AD 5) (AB (AD 3) (AB (mOp A7 (AD 2) (mC (.int 0))) AH)))))))
end
end K1
set_option maxHeartbeats 4000000
namespace K1
open PySem L2 Mi
section
structure XA(bs:List Bx)(i:Nat)(h:Hd):Prop where
 lo:0<=h.wi
 hi:h.wi<=400
 most:h.rs.length<=60
 rows:∀r∈h.rs,r.Ok (bs.map kv) h.nm (i==0) h.rs.length
theorem Tr{i:Int}(h1:0<=i)(h2:i<5):∃k:Int,0<=k/\k<=60/\atI [D.int 0,.int 1,.int 3,.int 5,.int 7] i=some (.int k):=by
 obtain⟨k,hk,e⟩:=Gm (f:=D.int) (xs:=[0,1,3,5,7]) h1 (by show i<5;exact h2);simp at hk;exact⟨k,by omega,by omega,e⟩
theorem OB{i:Int}(h1:0<=i)(h2:i<5):∃k:Int,0<=k/\k<=400/\atI [D.int 0,.int 1,.int 9,.int 99,.int 400] i=some (.int k):=by
 obtain⟨k,hk,e⟩:=Gm (f:=D.int) (xs:=[0,1,9,99,400]) h1 (by show i<5;exact h2);simp at hk;exact⟨k,by omega,by omega,e⟩
end
end K1
set_option maxHeartbeats 4000000
namespace K1
open PySem L2 Mi
section
variable{x:Str}
theorem HU{α:Type}{f:α->D}{k:Nat}(h:∀a,Cl k (f a)):∀xs:List α,ClL k (xs.map f)
 |[]=>by simp[ClL]
 |x::r=>by rw[AAX];unfold ClL;exact⟨h x,HU h r⟩
theorem Bx.cl{k:Nat}(b:Bx):Cl k b.toD:=by simp[Bx.toD,Cl,ClL]
theorem Hd.cl{k:Nat}(b:Hd):Cl k b.toD:=by
 have:=HU (k:=k) (f:=Rw.toD) (λr=>r.cl) b.rs;simp[Hd.toD,Cl,ClL,this]
theorem Mk.cl{k:Nat}(m:Mk):Cl k m.toD:=by
 have h1:=HU (k:=k) (f:=Bx.toD) (λr=>r.cl) m.bs;have h2:=HU (k:=k) (f:=Hd.toD) (λr=>r.cl) m.hs;simp[Mk.toD,Cl,ClL,h1,h2]
end
end K1
set_option maxHeartbeats 4000000
namespace K1
open PySem L2 Mi
end K1
namespace L2
open PySem PySem.Spec PyProof.Rows
end L2
namespace Mi
open PySem L2
end Mi
namespace L2
open PySem PySem.Spec PyProof.Rows
end L2
namespace Mi
open PySem L2 Ht
end Mi
namespace Sq
open PySem PySem.W PyProof.Rows
end Sq
namespace Nk
open PySem PySem.Spec PyProof.Rows HT
end Nk
namespace Hs
open PySem PySem.SetTable
end Hs
namespace Hs
open PySem PySem.SetTable Ht
end Hs
set_option maxHeartbeats 4000000
namespace Hs
open PySem PySem.Spec PyProof.Rows Nk
end Hs
set_option maxHeartbeats 4000000
namespace Hs
open PySem PySem.Spec PyProof.Rows Nk PySem.SetTable Ht
end Hs
set_option maxHeartbeats 4000000
namespace Hs
open PySem PySem.Spec PyProof.Rows Nk PySem.SetTable Ht
end Hs
set_option maxHeartbeats 4000000
namespace Hs
open PySem PySem.Spec PyProof.Rows Nk PySem.SetTable Ht
end Hs
set_option maxHeartbeats 4000000
namespace Hs
open PySem PySem.Spec PyProof.Rows Nk PySem.SetTable Ht
end Hs
set_option maxHeartbeats 4000000
namespace Hs
open PySem PySem.Spec PyProof.Rows Nk PySem.SetTable Ht
end Hs
set_option maxHeartbeats 4000000
namespace Hs
open PySem PySem.Spec PyProof.Rows Sem L2 Nk PySem.SetTable Ht
section
variable{α:Type}[DecidableEq α]
end
end Hs
namespace Hs
open PySem PySem.Spec PyProof.Rows Sem L2 Nk Ht
end Hs
set_option maxHeartbeats 4000000
namespace Nk
open PySem PySem.Spec PyProof.Rows Ht
end Nk
namespace Nk
open PySem PySem.Spec PyProof.Rows L2 Mi
end Nk
namespace Mi
open PySem L2 Ht Nk
end Mi
namespace Hs
open PySem PySem.Spec PyProof.Rows Sem L2 Nk Ht
end Hs
namespace Nk
open PySem PySem.Spec PyProof.Rows PySem.SeqAt
end Nk
set_option maxHeartbeats 4000000
namespace Hs
open PySem PySem.Spec PyProof.Rows PySem.SeqAt Nk Ht
end Hs
set_option maxHeartbeats 4000000
namespace Hs
open PySem PySem.Spec PyProof.Rows Nk PySem.SetTable Ht L2
end Hs
set_option maxHeartbeats 4000000
namespace Hs
open PySem PySem.Spec PyProof.Rows Nk PySem.SetTable Ht L2
end Hs
set_option maxHeartbeats 4000000
namespace Hs
open PySem PySem.Spec PyProof.Rows Nk PySem.SetTable Ht L2
end Hs
namespace Mi
open PySem L2 Ht Nk
end Mi
namespace Mi
open PySem L2 Ht Nk PySem.SeqAt
end Mi
set_option maxHeartbeats 2000000
namespace Mi
open PySem PySem.Spec PyProof.Rows L2 Ht Nk Hs
end Mi
set_option maxHeartbeats 2000000
namespace Mi
open PySem PySem.Spec PyProof.Rows L2 Ht Nk Hs
end Mi
namespace L2
open PySem PySem.Spec PyProof.Rows
end L2
namespace Mi
open PySem L2
end Mi
set_option maxHeartbeats 2000000
namespace Xt
open PySem PySem.Spec PyProof.Rows Sem L2 Ht
section
variable{s:Shared}
set_option hygiene false in
local macro_rules | `(tactic| wtm_at "r")=>`(tactic| (
 refine AAA (wpAny_storeSet_of (s:={ s with toks:=s.toks+1 }) ho hd ?_ (by rw[sizeLine_eq];unfold scanBound at room;omega));have ho1:=get_put ho hd es1 t2;have sb1:=Heap.SameBut.update s.heap a (Obj.putSet es1 t2);by_cases hf:(!wd&&t2.tooFull)=true
 ·rw[if_pos hf];have rp:=relayAll_perm t2 es1 (SetTable.grown es1.size);have rf:=relayAll_fits t2 es1 (SetTable.grown es1.size);have rl:=relay_led t2 es1 (SetTable.grown es1.size);generalize relayAll t2 es1 (SetTable.grown es1.size)=ry at rp rf rl;obtain⟨es3,t3,gv3⟩:=ry;dsimp only at rp rf rl ⊢;have s3:es3.size=es1.size:=by simpa using rp.length_eq
  cases gv3
  all_goals
   first
    |refine AAA (AAB ?_)
    |refine AAA (wpAny_rule ?_)
   refine AAA (wpAny_storeSet_of (s:={ s with heap:=s.heap.update a (Obj.putSet es1 t2),toks:=s.toks+1 }) ho1 rfl ?_ (by rw[sizeLine_eq];unfold scanBound at room;omega));exact AAB (AAB (wrap es3 t3 _ o _ _ (sb1.trans (Heap.SameBut.update _ a _)) (get_put ho1 rfl es3 t3) rp rf (rl.1.trans fl.2.1) (rl.2 fl.2.2)))
 ·rw[if_neg hf];exact AAB (AAB (wrap es1 t2 _ o _ _ sb1 ho1 (.refl _) fl.1 fl.2.1 fl.2.2))))
end
end Xt
set_option maxHeartbeats 2000000
namespace Xt
open PySem PySem.Spec PyProof.Rows Sem L2 Ht
end Xt
set_option maxHeartbeats 2000000
namespace Xt
open PySem PySem.Spec PyProof.Rows Sem L2 Ht
end Xt
set_option maxHeartbeats 2000000
namespace Xt
open PySem PySem.Spec PyProof.Rows Sem L2 Ht
end Xt
set_option maxHeartbeats 2000000
namespace Xt
open PySem PySem.Spec PyProof.Rows Sem L2 Ht
end Xt
namespace L2
open PySem PySem.Spec PyProof.Rows Sem Ht Xt
end L2
namespace Mi
open PySem L2 Ht Xt
end Mi
namespace Mi
open PySem L2
end Mi
namespace Kst
open PySem L2 Mi
end Kst
namespace Mi
open PySem L2
def WP{α:Type}(m:M α)(μ:Mh)(Q:α->Mh->Prop):Prop:=∃a μ',m μ=some (a,μ')/\Q a μ'
section
variable{α β:Type}{m:M α}{f:α->M β}{μ μ':Mh}{Q Q':α->Mh->Prop}{R:β->Mh->Prop}{a:α}
theorem A5(h:m μ=some (a,μ'))(q:Q a μ'):WP m μ Q:=⟨a,μ',h,q⟩
theorem Aa(h:WP m μ Q)(k:∀a μ',Q a μ'->Q' a μ'):WP m μ Q':=by
 obtain⟨a,μ',e,q⟩:=h;exact⟨a,μ',e,k a μ' q⟩
theorem Af(h:WP m μ λa μ1=>WP (f a) μ1 R):WP (bnd m f) μ R:=by
 obtain⟨a,μ1,e,b,μ2,e2,q⟩:=h;exact⟨b,μ2,by rw[AM e];exact e2,q⟩
theorem BL(q:Q a μ):WP (ret a) μ Q:=⟨a,μ,rfl,q⟩
end
section
variable{τ τ1:Sl}{μ μ1:Mh}{d x y:D}{ds:List D}{ma mb:Sl->M D}{ra:Sl->M (List D)}{tc:Sl->M Bool}{m1 m2:Sl->M (Fl×Sl)}{g:D->D->M D}{QD:D->Mh->Prop}{QB:Bool->Mh->Prop}{QL:List D->Mh->Prop}{QS:Fl×Sl->Mh->Prop}{QO:Option Int->Mh->Prop}{i j:Int}{n:Nat}
theorem DM{i:Nat}(h:τ[i]?=some (some d))(q:QD d μ):WP (AD i τ) μ QD:=A5 (DD h) q
theorem SS(q:QD d μ):WP (mC d τ) μ QD:=⟨d,μ,rfl,q⟩
theorem JG(h:WP (ma τ) μ λx μ1=>WP (mb τ) μ1 λy μ2=>WP (g x y) μ2 QD):WP (mOp g ma mb τ) μ QD:=Af (Aa h λ_ _ z=>Af z)
theorem EY{f:List D->M D}(h:WP (ra τ) μ λds μ1=>WP (f ds) μ1 QD):WP (AF f ra τ) μ QD:=Af h
theorem F7(q:QL [] μ):WP (AH τ) μ QL:=⟨[],μ,rfl,q⟩
theorem CD(h:WP (ma τ) μ λx μ1=>WP (ra τ) μ1 λds μ2=>QL (x::ds) μ2):WP (AB ma ra τ) μ QL:=Af (Aa h λ_ _ z=>Af (Aa z λ_ _ z=>BL z))
theorem Ux{l h:Sl->M (Option Int)}(z:WP (ma τ) μ λx μ1=>WP (l τ) μ1 λa μ2=>WP (h τ) μ2 λb μ3=>WP (IE a b x) μ3 QD):WP (DU ma l h τ) μ QD:=Af (Aa z λ_ _ z=>Af (Aa z λ_ _ z=>Af z))
theorem N9(q:QO none μ):WP (BC τ) μ QO:=⟨none,μ,rfl,q⟩
theorem SQ(h:WP (ma τ) μ λd μ1=>∃i,d=.int i/\QO (some i) μ1):WP (BT ma τ) μ QO:=Af (Aa h λ_ _ ⟨i,e,q⟩=>by subst e;exact BL q)
theorem HM(h:WP (ma τ) μ λd μ1=>∃b,d=.bl b/\QB b μ1):WP (AY ma τ) μ QB:=Af (Aa h λ_ _ ⟨b,e,q⟩=>by subst e;exact BL q)
theorem Js(h:WP (tc τ) μ λb μ1=>QB (!b) μ1):WP (JA tc τ) μ QB:=Af (Aa h λ_ _ q=>BL q)
theorem ST(h:WP (ma τ) μ λd μ1=>∃b,d=.bl b/\(b=true->WP (mb τ) μ1 QD)/\(b=false->QD (.bl false) μ1)):WP (DX ma mb τ) μ QD:=Af (Aa h λd μ1 ⟨b,e,z⟩=>by
 subst e;refine Af (BL ?_);cases b
 ·exact BL (z.2 rfl)
 ·exact z.1 rfl)
noncomputable def P9(m2:Sl->M (Fl×Sl))(QS:Fl×Sl->Mh->Prop):Fl×Sl->Mh->Prop
 |(.next,τ1),μ1=>WP (m2 τ1) μ1 QS
 |r,μ1=>QS r μ1
theorem Ad(h:WP (m2 τ1) μ1 QS):P9 m2 QS (.next,τ1) μ1:=h
theorem BD(h:WP (m1 τ) μ (P9 m2 QS)):WP (AR m1 m2 τ) μ QS:=Af (Aa h λr _ z=>by
 obtain⟨fl,τ1⟩:=r;cases fl
 ·exact z
 ·exact BL z
 ·exact BL z
 ·exact BL z
 ·exact BL z)
theorem U2{x:Exn}(h:QS (.xc x,τ1) μ1):P9 m2 QS (.xc x,τ1) μ1:=h
theorem Db{i:Nat}(h:WP (ma τ) μ λd μ1=>QS (.next,τ.set i (some d)) μ1):WP (Ai ma (AN i) τ) μ QS:=Af (Aa h λ_ _ q=>Af (BL (BL q)))
theorem Pp{bf:D->Sl->M Sl}(h:WP (ma τ) μ λd μ1=>WP (bf d τ) μ1 λτ1 μ2=>QS (.next,τ1) μ2):WP (Ai ma bf τ) μ QS:=Af (Aa h λ_ _ q=>Af (Aa q λ_ _ z=>BL z))
theorem Uy(h:WP (ma τ) μ λd μ1=>QS (.rt d,τ) μ1):WP (A9 ma τ) μ QS:=Af (Aa h λ_ _ q=>BL q)
theorem Jv(h:WP (ma τ) μ λ_ μ1=>QS (.next,τ) μ1):WP (BE ma τ) μ QS:=Af (Aa h λ_ _ q=>BL q)
theorem Uz(q:QS (.next,τ) μ):WP (BW τ) μ QS:=⟨_,μ,rfl,q⟩
noncomputable def ifK(m1 m2:Sl->M (Fl×Sl))(τ:Sl)(QS:Fl×Sl->Mh->Prop):Bool->Mh->Prop
 |true,μ=>WP (m1 τ) μ QS
 |false,μ=>WP (m2 τ) μ QS
theorem My(h:WP (m1 τ) μ QS):ifK m1 m2 τ QS true μ:=h
theorem Jw(h:WP (m2 τ) μ QS):ifK m1 m2 τ QS false μ:=h
theorem L1{b:Bool}(h1:b=true->WP (m1 τ) μ QS)(h2:b=false->WP (m2 τ) μ QS):ifK m1 m2 τ QS b μ:=by cases b;exact h2 rfl;exact h1 rfl
theorem Ha(h:WP (tc τ) μ (ifK m1 m2 τ QS)):WP (sIf tc m1 m2 τ) μ QS:=Af (Aa h λb _ z=>by cases b;exact z;exact z)
theorem L0{src:Sl->M (List D)}{bf:D->Sl->M Sl}(h:WP (src τ) μ λds μ1=>WP (Dv bf m1 ds τ) μ1 QS):WP (Ef src bf m1 τ) μ QS:=Af h
noncomputable def NX(I:Sl->Mh->Prop)(QS:Fl×Sl->Mh->Prop):Fl×Sl->Mh->Prop
 |(.next,τ),μ=>I τ μ
 |(.cont,τ),μ=>I τ μ
 |(.brk,τ),μ=>QS (.next,τ) μ
 |(.rt d,τ),μ=>QS (.rt d,τ) μ
 |(.xc x,τ),μ=>QS (.xc x,τ) μ
theorem Hc{I:Sl->Mh->Prop}(h:I τ μ):NX I QS (.next,τ) μ:=h
theorem FB{bf:D->Sl->M Sl}(I:List D->Sl->Mh->Prop)(step:∀x xs τ μ,I (x::xs) τ μ->WP (bf x τ) μ λτ1 μ1=>WP (m1 τ1) μ1 (NX (I xs) QS))(fin:∀τ μ,I [] τ μ->QS (.next,τ) μ):∀{ds:List D} {τ:Sl} {μ:Mh},I ds τ μ->WP (Dv bf m1 ds τ) μ QS
 |[],τ,μ,h=>BL (fin τ μ h)
 |x::xs,τ,μ,h=>Af (Aa (step x xs τ μ h) λτ1 μ1 z=>Af (Aa z λr μ2 z=>by
   obtain⟨fl,τ2⟩:=r;cases fl
   ·exact FB I step fin z
   ·exact BL z
   ·exact FB I step fin z
   ·exact BL z
   ·exact BL z))
theorem OA{I:Sl->Mh->Prop}{x:Exn}(h:QS (.xc x,τ) μ):NX I QS (.xc x,τ) μ:=h
theorem Ky{QT:Sl->Mh->Prop}{i:Nat}(q:QT (τ.set i (some d)) μ):WP (AN i d τ) μ QT:=⟨_,μ,rfl,q⟩
theorem Po{QT:Sl->Mh->Prop}{i j:Nat}(q:QT ((τ.set i (some x)).set j (some y)) μ):WP (G5 [i,j] (.tup [x,y]) τ) μ QT:=⟨_,μ,rfl,q⟩
theorem Mv{N:Nat}{ix:List Nat}{src:Sl->M (List D)}{bf:D->Sl->M Sl}{fin:List D->M D}(h:WP (src τ) μ λds μ1=>ds.length<=sizeLine/\WP (CW bf tc ma (BI N ix τ) ds []) μ1 λes μ2=>WP (fin es) μ2 QD):WP (B0 N ix src bf tc ma fin τ) μ QD:=Af (Aa h λds μ1 z=>Af (A5 (IS z.1 μ1) (Af z.2)))
theorem HP{bf:D->Sl->M Sl}{τ0:Sl}(I:List D->List D->Mh->Prop)(step:∀x xs ys μ,I (x::xs) ys μ->WP (bf x τ0) μ λτ1 μ1=>WP (tc τ1) μ1 λc μ2=>(c=true->WP (ma τ1) μ2 λy μ3=>I xs (ys++[y]) μ3)/\(c=false->I xs ys μ2))(fin:∀ys μ,I [] ys μ->QL ys μ):∀{ds ys:List D} {μ:Mh},I ds ys μ->WP (CW bf tc ma τ0 ds ys) μ QL
 |[],ys,μ,h=>BL (fin ys μ h)
 |x::xs,ys,μ,h=>Af (Aa (step x xs ys μ h) λτ1 μ1 z=>Af (Aa z λc μ2 z=>by
   cases c
   ·exact HP I step fin (z.2 rfl)
   ·exact Af (Aa (z.1 rfl) λy μ3 z=>HP I step fin z)))
theorem SU(q:QD (.int (i+j)) μ):WP (Ag (.int i) (.int j)) μ QD:=⟨_,μ,rfl,q⟩
theorem Uv(q:QD (.int (i-j)) μ):WP (D9 (.int i) (.int j)) μ QD:=⟨_,μ,rfl,q⟩
theorem U0(h:(-(2 ^ 64)<i/\i<2 ^ 64)∨(-(2 ^ 64)<j/\j<2 ^ 64))(q:QD (.int (i * j)) μ):WP (Dq (.int i) (.int j)) μ QD:=A5 (Ui h) q
theorem Hb(q:QD (.bl (i==j)) μ):WP (A7 (.int i) (.int j)) μ QD:=⟨_,μ,rfl,q⟩
theorem Jt(h:ds.length<=sizeLine)(q:QD (.tup ds) μ):WP (AZ ds) μ QD:=by
 refine A5 (a:=.tup ds) (μ':=μ) ?_ q;unfold AZ;rw[AM (IS h _)];rfl
theorem HN(h:ds.length<=sizeLine)(q:QD (.lst ds) μ):WP (Aq ds) μ QD:=by
 refine A5 (a:=.lst ds) (μ':=μ) ?_ q;unfold Aq;rw[AM (IS h _)];rfl
theorem Ju(h:ds.length<=sizeLine)(q:QD (.ref μ.length) (μ++[.lst ds])):WP (IK ds) μ QD:=by
 refine A5 (a:=.ref μ.length) (μ':=μ++[.lst ds]) ?_ q;unfold IK;rw[AM (IS h _)]
theorem Gd(h2:atI ds i=some d)(q:QD d μ):WP (AV (.tup ds) (.int i)) μ QD:=A5 (JU h2) q
theorem FA(h2:atI ds i=some d)(q:QD d μ):WP (AV (.lst ds) (.int i)) μ QD:=A5 (IV h2) q
theorem Uw(h:WP (ma τ) μ λd μ1=>WP (Jo d) μ1 QL):WP (De ma τ) μ QL:=Af h
theorem SN(q:QL ds μ):WP (Jo (.tup ds)) μ QL:=⟨_,μ,rfl,q⟩
theorem SO(q:QL ds μ):WP (Jo (.lst ds)) μ QL:=⟨_,μ,rfl,q⟩
theorem Mu(h:WP (ra τ) μ λds μ1=>∃j:Nat,ds=[.int j]/\j<1000000/\QL ((List.range j).map λ(i:Nat)=>.int (i:Int)) μ1):WP (NU ra τ) μ QL:=Af (Aa h λds μ1 ⟨j,e,hj,q⟩=>by
 subst e;refine A5 (a:=LI 0 j) (μ':=μ1) ?_ ?_
 ·have hj2:-(2 ^ 62)<=(j:Int)/\(j:Int)<2 ^ 62:=⟨by omega,by omega⟩;unfold QU;simp only[];rw[if_pos hj2]
 ·have e:LI 0 (j:Int)=(List.range j).map λ(i:Nat)=>.int (i:Int):=by
   unfold LI;rw[show ((j:Int)-0).toNat=j by omega];congr 1
   funext i
   rw[Int.zero_add]
  rw[e];exact q)
theorem SM(q:QD (.tup ds) μ):WP (FD [.lst ds]) μ QD:=⟨_,μ,rfl,q⟩
theorem Mt(h:μ[n]?=some (.lst ds))(q:QD (.tup ds) μ):WP (FD [.ref n]) μ QD:=by
 refine A5 (a:=.tup ds) (μ':=μ) ?_ q;show bnd (Cn (.ref n)) (λds=>ret (D.tup ds)) μ=_;rw[AM (show Cn (.ref n) μ=some (ds,μ) from by show (match μ[n]? with|some (.lst ds)=>some (ds,μ)|_=>none)=_;rw[h])];rfl
theorem SR(q:QD (.int ds.length) μ):WP (Bs [.tup ds]) μ QD:=⟨_,μ,rfl,q⟩
theorem Mw{gs:Mh}{i:Nat}(ht:τ[i]?=some (some (.ref gs.length)))(hs:ds.length<sizeLine)(h:WP (ra τ) (gs++[.lst ds]) λes μ1=>∃gs' y,es=[y]/\μ1=gs'++[.lst ds]/\gs'.length=gs.length/\QD .non (gs'++[.lst (ds++[y])])):WP (Dt Mn (AD i) ra τ) (gs++[.lst ds]) QD:=by
 unfold Dt;refine Af (A5 (DD ht) ?_);have hg:FQ (.ref gs.length) (gs++[.lst ds])=some ((),gs++[.lst ds]):=by
  unfold FQ;rw[AM (show Cn (.ref gs.length) (gs++[.lst ds])=some (ds,gs++[.lst ds]) from by show (match (gs++[MO.lst ds])[gs.length]? with|some (.lst ds')=>some (ds',gs++[MO.lst ds])|_=>none)=some (ds,gs++[MO.lst ds]);rw[AAS (AAF _)];simp)];rfl
 refine Af (A5 hg (Af (Aa h ?_)));rintro es μ1 ⟨gs',y,rfl,rfl,hl,q⟩;refine A5 (a:=.non) (μ':=gs'++[.lst (ds++[y])]) ?_ q;show J3 gs.length (λds=>if ds.length<sizeLine then some (.non,ds++[y]) else none) (gs'++[.lst ds])=_;unfold J3;rw[←hl,AAS (AAF _)];simp[hs]
theorem SV{N ps:Nat}{mb:Sl->M (Fl×Sl)}{ds:List D}{QD:D->Mh->Prop}(hl:ds.length=ps)(h:WP (mb (Ay N ds)) μ λr μ2=>∃d τ2 gs,r=(.rt d,τ2)/\μ2=μ++gs/\Cl μ.length d/\QD d μ):WP (BG .drop N ps mb ds) μ QD:=by
 obtain⟨r,μ2,e,d,τ2,gs,rfl,rfl,c,q⟩:=h;exact A5 (Ah e hl c) q
end
mutual
def Pz:D->Prop
 | .non=>True
 | .int _=>True
 | .str x=>PyData.strOk x=true
 | .tup ds=>PzL ds
 | .lst ds=>PzL ds
 |_=>False
def PzL:List D->Prop
 |[]=>True
 |d::ds=>Pz d/\PzL ds
end
mutual
def dpt:D->Nat
 | .tup ds=>HK ds+1
 | .lst ds=>HK ds+1
 |_=>0
def HK:List D->Nat
 |[]=>0
 |d::ds=>max (dpt d) (HK ds)
end
mutual
def toZ:D->PyData
 | .int i=>.int i
 | .str x=>.str x
 | .tup ds=>.tuple (D5 ds)
 | .lst ds=>.list (D5 ds)
 |_=>.none
def D5:List D->List PyData
 |[]=>[]
 |d::ds=>toZ d::D5 ds
end
mutual
theorem MD(μ:Mh):∀{d:D},Pz d->toP μ d=some (toZ d)
 | .non,_=>rfl
 | .int _,_=>rfl
 | .str _,_=>rfl
 | .tup ds,h=>by unfold Pz at h;unfold toP toZ;rw[J5 μ h];rfl
 | .lst ds,h=>by unfold Pz at h;unfold toP toZ;rw[J5 μ h];rfl
 | .bl _,h | .ty _,h | .scr _,h | .ref _,h=>by unfold Pz at h;exact h.elim
theorem J5(μ:Mh):∀{ds:List D},PzL ds->E8 μ ds=some (D5 ds)
 |[],_=>by unfold E8 D5;rfl
 |d::ds,h=>by
  unfold PzL at h;unfold E8 D5;rw[MD μ h.1,J5 μ h.2];rfl
end
mutual
theorem J4:∀{d:D},Pz d->PyData.canLay0 (toZ d)=true/\PyData.depth (toZ d)=dpt d
 | .non,_=>⟨rfl,rfl⟩
 | .int _,_=>⟨rfl,rfl⟩
 | .str _,h=>by unfold Pz at h;exact⟨h,rfl⟩
 | .tup ds,h=>by
  unfold Pz at h;obtain⟨h1,h2⟩:=Hj h;unfold toZ dpt;exact⟨h1,by show PyData.depthAll (D5 ds)+1=_;rw[h2]⟩
 | .lst ds,h=>by
  unfold Pz at h;obtain⟨h1,h2⟩:=Hj h;unfold toZ dpt;exact⟨h1,by show PyData.depthAll (D5 ds)+1=_;rw[h2]⟩
 | .bl _,h | .ty _,h | .scr _,h | .ref _,h=>by unfold Pz at h;exact h.elim
theorem Hj:∀{ds:List D},PzL ds->PyData.canLayAll0 (D5 ds)=true/\PyData.depthAll (D5 ds)=HK ds
 |[],_=>by unfold D5 HK;exact⟨rfl,rfl⟩
 |d::ds,h=>by
  unfold PzL at h;obtain⟨h1,h2⟩:=J4 h.1;obtain⟨h3,h4⟩:=Hj h.2;unfold D5 HK;refine⟨?_,?_⟩
  ·show (PyData.canLay0 (toZ d)&&PyData.canLayAll0 (D5 ds))=true;rw[h1,h3];rfl
  ·show max (PyData.depth (toZ d)) (PyData.depthAll (D5 ds))=_;rw[h2,h4]
end
mutual
theorem eqZ:∀{a b:D},Pz a->Pz b->(PyData.eqv (toZ a) (toZ b)=true↔a=b)
 | .non,b,_,hb=>by
  cases b<;>first|exact⟨λ_=>rfl,λ_=>rfl⟩|(unfold Pz at hb;exact hb.elim)|(unfold toZ;exact⟨λz=>(by cases z),λz=>(by cases z)⟩)
 | .int i,b,_,hb=>by
  cases b with
  |int j=>exact⟨λz=>by have:(i==j)=true:=z;rw[beq_iff_eq.mp this],λz=>by cases z;show (i==i)=true;simp⟩
  |_=>first|(unfold Pz at hb;exact hb.elim)|(unfold toZ;exact⟨λz=>(by cases z),λz=>(by cases z)⟩)
 | .str i,b,_,hb=>by
  cases b with
  |str j=>exact⟨λz=>by have:(i==j)=true:=z;rw[beq_iff_eq.mp this],λz=>by cases z;show (i==i)=true;simp⟩
  |_=>first|(unfold Pz at hb;exact hb.elim)|(unfold toZ;exact⟨λz=>(by cases z),λz=>(by cases z)⟩)
 | .tup xs,b,ha,hb=>by
  cases b with
  |tup ys=>
   unfold Pz at ha hb;unfold toZ;have:=Wo ha hb;exact⟨λz=>by rw[this.mp z],λz=>by cases z;exact this.mpr rfl⟩
  |_=>first|(unfold Pz at hb;exact hb.elim)|(unfold toZ;exact⟨λz=>(by cases z),λz=>(by cases z)⟩)
 | .lst xs,b,ha,hb=>by
  cases b with
  |lst ys=>
   unfold Pz at ha hb;unfold toZ;have:=Wo ha hb;exact⟨λz=>by rw[this.mp z],λz=>by cases z;exact this.mpr rfl⟩
  |_=>first|(unfold Pz at hb;exact hb.elim)|(unfold toZ;exact⟨λz=>(by cases z),λz=>(by cases z)⟩)
 | .bl _,_,h,_ | .ty _,_,h,_ | .scr _,_,h,_ | .ref _,_,h,_=>by unfold Pz at h;exact h.elim
theorem Wo:∀{as bs:List D},PzL as->PzL bs->(PyData.eqvAll (D5 as) (D5 bs)=true↔as=bs)
 |[],[],_,_=>by unfold D5;exact⟨λ_=>rfl,λ_=>rfl⟩
 |[],_::_,_,_=>by unfold D5;exact⟨λz=>(by cases z),λz=>(by cases z)⟩
 |_::_,[],_,_=>by unfold D5;exact⟨λz=>(by cases z),λz=>(by cases z)⟩
 |a::as,b::bs,ha,hb=>by
  unfold PzL at ha hb;unfold D5;have h1:=eqZ ha.1 hb.1;have h2:=Wo ha.2 hb.2;show (PyData.eqv (toZ a) (toZ b)&&PyData.eqvAll (D5 as) (D5 bs))=true↔_;rw[Bool.and_eq_true,h1,h2];exact⟨λ⟨x,y⟩=>by rw[x,y],λz=>by cases z;exact⟨rfl,rfl⟩⟩
end
section
variable{μ:Mh}{a b:D}
theorem Wp{neg:Bool}(ha:Pz a)(hb:Pz b)(da:dpt a<=64)(db:dpt b<=64):∃e:Bool,(e=true↔a=b)/\Fo neg a b μ=some (.bl (if neg then !e else e),μ):=by
 refine⟨PyData.eqv (toZ a) (toZ b),eqZ ha hb,?_⟩;obtain⟨a1,a2⟩:=J4 ha;obtain⟨b1,b2⟩:=J4 hb;have s1:SeqAt.shaped (toZ a)=true:=by
  show (PyData.canLay0 (toZ a)&&decide (PyData.depth (toZ a)<=64))=true;rw[a1,AAP (by omega)];rfl
 have s2:SeqAt.shaped (toZ b)=true:=by
  show (PyData.canLay0 (toZ b)&&decide (PyData.depth (toZ b)<=64))=true;rw[b1,AAP (by omega)];rfl
 have e1:J6 μ a=some (toZ a):=by
  cases a with
  |ref n=>unfold Pz at ha;exact ha.elim
  |_=>exact MD μ ha
 have e2:J6 μ b=some (toZ b):=by
  cases b with
  |ref n=>unfold Pz at hb;exact hb.elim
  |_=>exact MD μ hb
 unfold Fo;rw[e1,e2];exact if_pos ⟨s1,s2⟩
end
theorem Qi{α:Type}{f:α->D}:∀{xs:List α},(∀a∈xs,Pz (f a))->PzL (xs.map f)
 |[],_=>by unfold List.map PzL;trivial
 |x::xs,h=>by unfold List.map PzL;exact⟨h x AAQ,Qi λa ha=>h a (AAR _ ha)⟩
theorem Np{α:Type}{f:α->D}{k:Nat}:∀{xs:List α},(∀a∈xs,dpt (f a)<=k)->HK (xs.map f)<=k
 |[],_=>by unfold List.map HK;omega
 |x::xs,h=>by
  unfold List.map HK;have:=h x AAQ;have:=Np λa ha=>h a (AAR x ha);omega
end Mi
namespace Mi
section
variable{b:Bool}{i:Int}
theorem F8{P:Bool->Prop}(h:P b):∃b',D.bl b=D.bl b'/\P b':=⟨b,rfl,h⟩
theorem SW{P:Int->Prop}(h:P i):∃i',D.int i=D.int i'/\P i':=⟨i,rfl,h⟩
theorem Mx{n:Nat}{P:Nat->Prop}(e:i=n)(hn:n<1000000)(h:P n):∃j:Nat,[D.int i]=[D.int j]/\j<1000000/\P j:=⟨n,by rw[e],hn,h⟩
end
end Mi
local macro_rules | `(tactic| wtm_at "j")=>`(tactic| first|assumption|decide|omega|exact AAE rfl)
local macro_rules | `(tactic| wtm_at "m")=>`(tactic| first
 |(with_reducible apply Mi.BD)|(with_reducible apply Mi.Ad)|(with_reducible apply Mi.Db)|(with_reducible apply Mi.Uy)|(with_reducible apply Mi.wkk_rt)|(with_reducible apply Mi.Jv)|(with_reducible apply Mi.Uz)|(with_reducible apply Mi.Ha)|(with_reducible apply Mi.My)|(with_reducible apply Mi.Jw)|(with_reducible apply Mi.JG)|(with_reducible apply Mi.SS)|((with_reducible apply Mi.DM);rfl)|(with_reducible apply Mi.CD)|(with_reducible apply Mi.F7)|(with_reducible apply Mi.EY)|(with_reducible apply Mi.wq_un)
 |(with_reducible apply Mi.HM)|(with_reducible apply Mi.F8)|(with_reducible apply Mi.Js)|(with_reducible apply Mi.wq_and)|(with_reducible apply Mi.wq_or)|(with_reducible apply Mi.L0)|(with_reducible apply Mi.Mv)|(with_reducible apply Mi.Uw)|(with_reducible apply Mi.SN)|(with_reducible apply Mi.SO)|(with_reducible apply Mi.Mu)|(with_reducible apply Mi.Ux)|(with_reducible apply Mi.N9)|(with_reducible apply Mi.SQ)|(with_reducible apply Mi.SW)
 |(with_reducible apply Mi.SU)|(with_reducible apply Mi.wq_add)|(with_reducible apply Mi.Uv)|(with_reducible apply Mi.wq_lt)|(with_reducible apply Mi.wq_gt)|(with_reducible apply Mi.wq_ge)|(with_reducible apply Mi.Hb)|(with_reducible apply Mi.wq_neI)|(with_reducible apply Mi.wq_isF)|(with_reducible apply Mi.wq_isT)|(with_reducible apply Mi.wq_intB)|(with_reducible apply Mi.wq_neB)|(with_reducible apply Mi.wq_tupT)|(with_reducible apply Mi.SM)|(with_reducible apply Mi.SR)|(with_reducible apply Mi.wq_true)|(with_reducible apply Mi.Ky)
 |((with_reducible apply Mi.wq_mod);(wtm_at "j"))|((with_reducible apply Mi.wq_fdiv);(wtm_at "j");(wtm_at "j"))|((with_reducible apply Mi.Jt);(wtm_at "j"))|((with_reducible apply Mi.HN);(wtm_at "j"))|((with_reducible apply Mi.Ju);(wtm_at "j"))|((with_reducible apply Mi.Gd);rfl)|((with_reducible apply Mi.FA);rfl))
local macro_rules | `(tactic| wtm_at "q")=>`(tactic| repeat wtm_at "m")
namespace Mi
open PySem L2
section
variable{τ1:Sl}{μ μ1:Mh}{y:D}{ma:Sl->M D}{tc:Sl->M Bool}{QL:List D->Mh->Prop}
theorem K0{α:Type}(f:α->D)(p:α->Bool)(F:α->D){bf:D->Sl->M Sl}{τ0:Sl}{xs:List α}(h:∀a∈xs,WP (bf (f a) τ0) μ λτ1 μ1=>μ1=μ/\WP (tc τ1) μ λc μ2=>c=p a/\μ2=μ/\(p a=true->WP (ma τ1) μ λy μ3=>y=F a/\μ3=μ))(q:QL ((xs.filter p).map F) μ):WP (CW bf tc ma τ0 (xs.map f) []) μ QL:=by
 refine HP (I:=λrest ys μ'=>∃a b,a++b=xs/\rest=b.map f/\ys=(a.filter p).map F/\μ'=μ) (λz zs ys μ' hI=>?_) (λys μ' hI=>?_) ⟨[],xs,rfl,rfl,rfl,rfl⟩
 ·obtain⟨a,b,hab,hr,rfl,rfl⟩:=hI;cases b with
  |nil=>cases hr
  |cons w b=>
   rw[AAX] at hr;obtain⟨e1,e2⟩:=List.cons.inj hr;subst e1;have hw:w∈xs:=by rw[←hab];simp
   refine Aa (h w hw) λτ1 μ1 ⟨e,z⟩=>?_;subst e;refine Aa z λc μ2 ⟨e3,e4,z2⟩=>?_;subst e3 e4;refine⟨λhc=>Aa (z2 hc) λy μ3 ⟨e5,e6⟩=>?_,λhc=>?_⟩
   ·subst e5 e6;exact⟨a++[w],b,by rw[←hab];simp,e2,by rw[List.filter_append,AAY,List.filter_cons_of_pos hc];rfl,rfl⟩
   ·exact⟨a++[w],b,by rw[←hab];simp,e2,by rw[List.filter_append,AAY,List.filter_cons_of_neg (by rw[hc];exact AAf)];simp,rfl⟩
 ·obtain⟨a,b,hab,hr,rfl,rfl⟩:=hI;cases b with
  |cons w b=>cases hr
  |nil=>
   rw[AAZ] at hab;subst hab;exact q
end
section
variable{ι2 ι':Nat->Addr}{k k2 k':Nat}
variable(ag:∀n,n<k->ι' n=ι2 n)(am:∀m,m<k'->∃n,n<k2/\ι' m=ι2 n)(hk:k<=k')
include ag am hk
end
theorem U1{bf:D->Sl->M Sl}{m1:Sl->M (Fl×Sl)}{QS:Fl×Sl->Mh->Prop}{m:Nat}{τ:Sl}{μ:Mh}(I:Nat->Sl->Mh->Prop)(step:∀(j:Nat) τ μ,j<m->I j τ μ->WP (bf (.int (j:Int)) τ) μ λτ1 μ1=>WP (m1 τ1) μ1 (NX (I (j+1)) QS))(last:∀τ μ,I m τ μ->QS (.next,τ) μ)(h:I 0 τ μ):WP (Dv bf m1 ((List.range m).map λ(i:Nat)=>D.int (i:Int)) τ) μ QS:=by
 refine FB (I:=λrest τ μ=>∃j,j<=m/\rest=(List.range' j (m-j)).map (λ(i:Nat)=>D.int (i:Int))/\I j τ μ) ?_ ?_ ⟨0,AAi _,by rw[Nat.sub_zero,←List.range_eq_range'],h⟩
 ·rintro x xs τ μ ⟨j,hj,hr,hI⟩;have hlt:j<m:=by
   rcases Nat.lt_or_ge j m with z|z
   ·exact z
   ·rw[show m-j=0 by omega] at hr;cases hr
  rw[show m-j=(m-(j+1))+1 by omega,List.range'_succ,AAX] at hr;obtain⟨e3,e4⟩:=List.cons.inj hr;subst e3;refine Aa (step j τ μ hlt hI) λτ1 μ1 z=>Aa z λr μ2 z2=>?_;obtain⟨fl,τ2⟩:=r;cases fl
  ·exact⟨j+1,hlt,e4,z2⟩
  ·exact z2
  ·exact⟨j+1,hlt,e4,z2⟩
  ·exact z2
  ·exact z2
 ·rintro τ μ ⟨j,hj,hr,hI⟩;have hj':j=m:=by
   have:=congrArg List.length hr;simp at this;omega
  subst hj';exact last τ μ hI
theorem Fa{μ:Mh}{N ps:Nat}{mb:Sl->M (Fl×Sl)}{ds:List D}{QD:D->Mh->Prop}(hl:Nat.beq ds.length ps=true)(h:WP (mb (Ay N ds)) μ λr μ2=>∃d τ2,r=(.rt d,τ2)/\QD d μ2):WP (Ez .all N ps mb ds) μ QD:=by
 obtain⟨r,μ2,e,d,τ2,rfl,q⟩:=h;refine A5 (a:=d) (μ':=μ2) ?_ q;unfold Ez;rw[hl,e];rfl
end Mi
namespace K21
open PySem L2 Mi
end K21
namespace Mi
open PySem L2
end Mi
namespace K21
open PySem L2 Mi
end K21
namespace K41
open PySem L2 Mi
end K41
namespace K41
open PySem L2 Mi Ht Nk Hs
end K41
namespace Mi
open PySem L2
end Mi
namespace K41
open PySem L2 Mi Ht Nk Hs
end K41
namespace K21
open PySem L2 Mi
end K21
namespace Mi
open PySem L2
end Mi
namespace K21
open PySem L2 Mi
end K21
namespace Mi
open PySem L2
end Mi
namespace K21
open PySem L2 Mi
end K21
namespace K21
open PySem L2 Mi Xt
end K21
namespace K21
open PySem L2 Mi
end K21
namespace Mi
open PySem L2
end Mi
namespace K21
open PySem L2 Mi
end K21
namespace Mi
open PySem L2
end Mi
namespace K21
open PySem L2 Mi
end K21
namespace Mi
open PySem L2
section
variable{τ:Sl}{μ μ1:Mh}{d x y:D}{ma mb:Sl->M D}{QD:D->Mh->Prop}{QS:Fl×Sl->Mh->Prop}
theorem Pl(q:QD (.bl true) μ):WP (LK false .non .non) μ QD:=⟨_,μ,rfl,q⟩
theorem Pj(q:QD (.bl false) μ):WP (LK true .non .non) μ QD:=⟨_,μ,rfl,q⟩
noncomputable def Us(m:M D)(QD:D->Mh->Prop):D->Mh->Prop
 | .bl true,μ=>WP m μ QD
 | .bl false,μ=>QD (.bl false) μ
 |_,_=>False
theorem Pn(h:WP (ma τ) μ (Us (mb τ) QD)):WP (DX ma mb τ) μ QD:=ST (Aa h λd μ1 z=>by
 match d,z with
 | .bl true,z=>exact⟨true,rfl,λ_=>z,λe=>(nomatch e)⟩
 | .bl false,z=>exact⟨false,rfl,λe=>(nomatch e),λ_=>z⟩)
theorem N8{m:M D}(h:WP m μ QD):Us m QD (.bl true) μ:=h
theorem Pi(h:WP (ma τ) μ λd μ1=>∃b,d=.bl b/\QD (.bl (!b)) μ1):WP (HC ma τ) μ QD:=by
 obtain⟨d,μ1,e,b,rfl,q⟩:=h;refine⟨.bl (!b),μ1,?_,q⟩;unfold HC;rw[AM e];rfl
theorem Pm{mo mi mv:Sl->M D}(h:WP (mv τ) μ λv μ1=>WP (mo τ) μ1 λx μ2=>WP (mi τ) μ2 λy μ3=>∃n l k,x=.ref n/\μ3[n]?=some (.dK l)/\LU y=some k/\l.length<1000/\QS (.next,τ) (μ3.set n (.dK (Fm l k v)))):WP (LH mo mi mv τ) μ QS:=by
 unfold LH;refine Af (Aa h λv μ1 h=>Af (Aa h λx μ2 h=>Af (Aa h λy μ3 ⟨n,l,k,e1,e2,e3,e4,q⟩=>?_)));subst e1;refine Af (A5 (show EI (.ref n) μ3=some ((n,l),μ3) from by unfold EI;dsimp only;rw[e2]) ?_);refine⟨_,_,?_,q⟩;rw[e3];dsimp only;rw[if_pos (by rw[sizeLine_eq];omega)]
end
end Mi
local macro_rules | `(tactic| wtm_at "f")=>`(tactic| (decide +kernel))
local macro_rules | `(tactic| wtm_at "g")=>`(tactic| first|omega|(focus (simp;done)))
local macro_rules | `(tactic| wtm_at "o")=>`(tactic| first
 |((with_reducible apply Mi.wqa_eqF);(wtm_at "f");(wtm_at "f");(wtm_at "f"))|((with_reducible apply Mi.wqa_eqT);(wtm_at "f");(wtm_at "f");(wtm_at "f"))|((with_reducible apply Mi.wqa_neT);(wtm_at "f");(wtm_at "f");(wtm_at "f"))|((with_reducible apply Mi.wqa_neF);(wtm_at "f");(wtm_at "f");(wtm_at "f"))
 |((with_reducible apply Mi.wqa_eqIT);(wtm_at "g"))|((with_reducible apply Mi.wqa_eqIF);(wtm_at "g"))|((with_reducible apply Mi.wqa_neIT);(wtm_at "g"))|((with_reducible apply Mi.wqa_neIF);(wtm_at "g"))|((with_reducible apply Mi.wqa_ltT);(wtm_at "g"))|((with_reducible apply Mi.wqa_ltF);(wtm_at "g"))|((with_reducible apply Mi.wqa_gtT);(wtm_at "g"))|((with_reducible apply Mi.wqa_gtF);(wtm_at "g"))|((with_reducible apply Mi.wqa_geT);(wtm_at "g"))|((with_reducible apply Mi.wqa_geF);(wtm_at "g"))|((with_reducible apply Mi.wqa_leT);(wtm_at "g"))
 |(with_reducible apply Mi.Pl)|(with_reducible apply Mi.Pj)|(with_reducible apply Mi.wqa_isI)|(with_reducible apply Mi.wqa_isP)|(with_reducible apply Mi.wqa_andT)|(with_reducible apply Mi.wqa_andF)|(with_reducible apply Mi.wqa_orT)|(with_reducible apply Mi.wqa_orF)|(with_reducible apply Mi.wqa_mif)|(with_reducible apply Mi.wqa_mifT)|(with_reducible apply Mi.wqa_mifF)|(with_reducible apply Mi.Pn)|(with_reducible apply Mi.N8)|(with_reducible apply Mi.wqa_andVF)|(with_reducible apply Mi.wqa_orV)|(with_reducible apply Mi.wqa_orVT)|(with_reducible apply Mi.wqa_orVF)|(with_reducible apply Mi.wqa_chain)
 |wtm_at "m")
local macro_rules | `(tactic| wtm_at "u")=>`(tactic| repeat wtm_at "o")
namespace Xc
open PySem L2 Mi
section
variable{τ:Sl}{μ:Mh}{d:D}{ds:List D}{ra:Sl->M (List D)}{QX:Dx->Mh->Prop}{QD:D->Mh->Prop}{QS:Fl×Sl->Mh->Prop}{φ:List D->M Dx}{m:Sl->M Dx}
noncomputable def UM(QX:Dx->Mh->Prop):Fl×Sl->Mh->Prop
 |(.next,_),μ=>QX (.inl .non) μ
 |(.rt d,_),μ=>QX (.inl d) μ
 |(.xc x,_),μ=>QX (.inr x) μ
 |_,_=>False
theorem FZ{N ps:Nat}{mb:Sl->M (Fl×Sl)}(hl:Nat.beq (List.length ds) ps=true)(h:WP (mb (Ay N ds)) μ (UM QX)):WP (Ey .all N ps mb ds) μ QX:=by
 obtain⟨⟨fl,τ2⟩,μ2,e,q⟩:=h;cases fl with
 |next=>exact⟨_,μ2,by unfold Ey;rw[hl,e];rfl,q⟩
 |rt d=>exact⟨_,μ2,by unfold Ey;rw[hl,e];rfl,q⟩
 |xc x=>exact⟨_,μ2,by unfold Ey;rw[hl,e],q⟩
 |brk=>exact False.elim q
 |cont=>exact False.elim q
theorem wxk_next(q:QX (.inl .non) μ):UM QX (.next,τ) μ:=q
theorem wxk_xc{x:Exn}(q:QX (.inr x) μ):UM QX (.xc x,τ) μ:=q
noncomputable def exK(τ:Sl)(QS:Fl×Sl->Mh->Prop):Dx->Mh->Prop
 | .inl _,μ=>QS (.next,τ) μ
 | .inr x,μ=>QS (.xc x,τ) μ
theorem wx_exprX(h:WP (m τ) μ (exK τ QS)):WP (Bb m τ) μ QS:=Af (Aa h λr μ1 z=>by
 cases r with
 |inl d=>exact BL z
 |inr x=>exact BL z)
theorem wxk_l(q:QS (.next,τ) μ):exK τ QS (.inl d) μ:=q
theorem wxk_r{x:Exn}(q:QS (.xc x,τ) μ):exK τ QS (.inr x) μ:=q
theorem wx_dispX(h:WP (ra τ) μ λds μ1=>WP (φ ds) μ1 QX):WP (Bd φ ra τ) μ QX:=Af h
theorem Pc{c:Str}(h:WP (ra τ) μ λds μ1=>ds.length<=sizeLine/\QS (.xc (c,none),τ) μ1):WP (ME c ra τ) μ QS:=Af (Aa h λds μ1 z=>Af (A5 (IS z.1 μ1) (BL z.2)))
theorem Mq(h:WP (φ ds) μ λr μ1=>∃d,r=.inl d/\QD d μ1):WP (vals φ ds) μ QD:=by
 obtain⟨r,μ1,e,d,rfl,q⟩:=h;exact⟨d,μ1,by unfold vals;rw[e],q⟩
noncomputable def Yt(i:Nat)(ok:List Str)(mh:Sl->M (Fl×Sl))(QS:Fl×Sl->Mh->Prop):Fl×Sl->Mh->Prop
 |(.xc x,τ),μ=>x.1∈ok/\WP (mh (τ.set i (some (.ref (List.length μ))))) (μ++[.exc x.1 x.2]) λr μ1=>QS (r.1,r.2.set i none) μ1
 |r,μ=>QS r μ
theorem Ut{mb mh:Sl->M (Fl×Sl)}{i:Nat}{ok:List Str}(h:WP (mb τ) μ (Yt i ok mh QS)):WP (VG mb i ok mh τ) μ QS:=Af (Aa h λr μ1 z=>by
 obtain⟨fl,τ1⟩:=r;cases fl with
 |xc x=>
  obtain⟨h1,h2⟩:=z;show WP (if x.1∈ok then KC i mh x τ1 else BS) μ1 QS;rw[if_pos h1];obtain⟨r,μ2,e,q⟩:=h2;refine⟨(r.1,r.2.set i none),μ2,?_,q⟩;unfold KC;rw[AM e];rfl
 |_=>exact BL z)
theorem Lz{tab:List (Str×Bool)}{ma:Sl->M D}{b:Bool}(h:WP (ma τ) μ λd μ1=>∃n c k,d=.ref n/\μ1[n]?=some (.exc c k)/\tab.lookup c=some b/\QD (.bl b) μ1):WP (LR tab ma τ) μ QD:=Af (Aa h λd μ1 ⟨n,c,k,e,h1,h2,q⟩=>by
 subst e;refine⟨.bl b,μ1,?_,q⟩;show (match μ1[n]? with|some (.exc c _)=>(match tab.lookup c with|some b=>some (D.bl b,μ1)|none=>none)|_=>none)=_;rw[h1];show (match tab.lookup c with|some b=>some (D.bl b,μ1)|none=>none)=_;rw[h2])
theorem Pd{y:D}{xs:List Str}(hy:Ba y=true)(q:QD (.bl ((xs.map D.str).any λz=>decide (z=y))) μ)(hd:Bw d μ=some (xs.map D.str,μ)):WP (RV y d) μ QD:=by
 refine⟨_,μ,?_,q⟩;unfold RV;rw[AM hd];have:(xs.map D.str).all isS=true:=by simp[isS]
 exact if_pos ⟨this,hy⟩
end
end Xc
local macro_rules | `(tactic| wtm_at "p")=>`(tactic| first
 |(with_reducible apply Xc.wx_exprX)|(with_reducible apply Xc.wx_dispX)|(with_reducible apply Xc.wxk_l)|(with_reducible apply Xc.wxk_r)|(with_reducible apply Xc.wxk_next)|(with_reducible apply Xc.wxk_xc)|(with_reducible apply Mi.U2)|(with_reducible apply Mi.Hc)|(with_reducible apply Mi.OA)|(with_reducible apply Mi.wkk_loopR)
 |wtm_at "o")
local macro_rules | `(tactic| wtm_at "a")=>`(tactic| repeat wtm_at "p")
namespace K3
open PySem L2 Mi K1 Xc
noncomputable abbrev nom:Exn:=("NoMaking",none)
noncomputable def D4(d:D)(a b:Int):Bool:=match d with
 | .tup ds=>decide (a<=(ds.length:Int))&&decide ((ds.length:Int)<=b)
 |_=>false
noncomputable def DS(d:D)(a b:Int):Bool:=match d with
 | .int i=>decide (a<=i)&&decide (i<=b)
 |_=>false
noncomputable def Ld(x:Str):Bool:=decide (1<=x.length)&&(decide (x.length<=8)&&x.cps.toList.all λc=>decide (97<=c)&&decide (c<123))
noncomputable def R9:List Str:=["", "abcdefghi", "A", "a1", "a b", "a.", "w\n", "-", "1"]
noncomputable def FM(d:D):Bool:=match d with
 | .str x=>Ld x
 |_=>false
def NmP(d:D):Prop:=∀x,d=.str x->GoodName x∨x∈R9
noncomputable def kinds3:List Str:=["safe", "steady", "whole"]
noncomputable def GO(d:D):Bool:=(kinds3.map D.str).any λz=>decide (z=d)
noncomputable def Cg(k s b:D):Bool:=GO k&&(DS s 2 10&&(match s with | .int i=>DS b 0 (i-1)|_=>false))
theorem GP{x:Str}(h:GoodName x):Ld x=true:=by
 unfold Ld;rw[AAP h.lo,AAP h.hi,Bool.true_and,Bool.true_and,List.all_eq_true];intro c hc;have:=h.ab c hc;simp[this]
theorem Oz:∀x∈R9,Ld x=false:=by decide +kernel
section
variable{μ:Mh}{QX:Dx->Mh->Prop}{d k s b:D}{w:Str}{τ:Sl}
theorem Bm{c:Bool}(h1:c=true->QX (.inl .non) μ)(h2:c=false->QX (.inr nom) μ):WP (Ek [.bl c,.str w]) μ QX:=by
 unfold Ek;refine FZ rfl ?_;unfold GL;cases c with
 |true=>
  refine Ha ?_;refine Js ?_;wtm_at "a";refine Jw ?_;wtm_at "a";exact h1 rfl
 |false=>
  refine Ha ?_;refine Js ?_;wtm_at "a";refine My ?_;refine Pc ?_;wtm_at "a";exact⟨AAE rfl,h2 rfl⟩
theorem LS{ma mb mc:Sl->M D}{i j l:Int}(h1:ma τ μ=some (.int i,μ))(h2:mb τ μ=some (.int j,μ))(h3:mc τ μ=some (.int l,μ)):Du Fv Fv ma mb mc τ μ=some (.bl (decide (i<=j)&&decide (j<=l)),μ):=by
 unfold Du;rw[AM h1,AM h2,AM (show Fv (.int i) (.int j) μ=some (.bl (decide (i<=j)),μ) from rfl),AM (show asB (.bl (decide (i<=j))) μ=some (decide (i<=j),μ) from rfl)];by_cases h:i<=j
 ·rw[AAP h,if_pos rfl,AM h3,Bool.true_and];rfl
 ·rw[AAO h,if_neg (by decide),Bool.false_and];rfl
theorem NN{N ps:Nat}{mb:Sl->M (Fl×Sl)}{ds:List D}(e:mb (Ay N ds) μ=some ((.rt d,Ay N ds),μ))(hl:ds.length=ps)(c:Cl μ.length d):BG .drop N ps mb ds μ=some (d,μ):=Ah (g:=[]) (by rw[AAZ];exact e) hl c
theorem Eb{a b:Int}(h:Ba d=true):Cj [d,.int a,.int b] μ=some (.bl (D4 d a b),μ):=by
 cases d with
 |tup ds=>
  refine Ah (g:=[]) (τ2:=[some (.tup ds),some (.int a),some (.int b)]) ?_ rfl (by simp[Cl]);rw[AAZ];unfold DI;have e:=LS (μ:=μ) (τ:=[some (.tup ds),some (.int a),some (.int b)]) (ma:=AD 1) (mb:=AF Bs (AB (AD 0) AH)) (mc:=AD 2) (i:=a) (j:=ds.length) (l:=b) rfl rfl rfl;show bnd (Du Fv Fv (AD 1) (AF Bs (AB (AD 0) AH)) (AD 2) [some (.tup ds),some (.int a),some (.int b)]) _ μ=_;rw[AM e];rfl
 |non|bl _|int _|str _|lst _=>exact NN (by kernel_rfl) rfl (by simp[Cl])
 |_=>cases h
theorem Jx{a b:Int}(h:Ba d=true):Ci [d,.int a,.int b] μ=some (.bl (DS d a b),μ):=by
 cases d with
 |int i=>
  refine Ah (g:=[]) (τ2:=[some (.int i),some (.int a),some (.int b)]) ?_ rfl (by simp[Cl]);rw[AAZ];unfold DH;have e:=LS (μ:=μ) (τ:=[some (.int i),some (.int a),some (.int b)]) (ma:=AD 1) (mb:=AD 0) (mc:=AD 2) (i:=a) (j:=i) (l:=b) rfl rfl rfl;show bnd (Du Fv Fv (AD 1) (AD 0) (AD 2) [some (.int i),some (.int a),some (.int b)]) _ μ=_;rw[AM e];rfl
 |non|bl _|tup _|str _|lst _=>exact NN (by kernel_rfl) rfl (by simp[Cl])
 |_=>cases h
theorem XI{x:Str}(h:x∈R9):Cq [.str x] μ=some (.bl false,μ):=by
 unfold R9 at h;simp only[AAJ,List.not_mem_nil,or_false] at h;rcases h with rfl|rfl|rfl|rfl|rfl|rfl|rfl|rfl|rfl<;>exact NN (by kernel_rfl) rfl (by simp[Cl])
theorem P0(h:Ba d=true)(hn:NmP d):Cq [d] μ=some (.bl (FM d),μ):=by
 cases d with
 |str x=>
  rcases hn x rfl with g|g
  ·rw[show FM (.str x)=true from GP g];exact JJ g
  ·rw[show FM (.str x)=false from Oz x g];exact XI g
 |non|bl _|tup _|int _|lst _=>exact NN (by kernel_rfl) rfl (by simp[Cl])
 |_=>cases h
theorem Q6:∀(xs ys:List Str),ys.Nodup->¬(ys++xs).Nodup->(xs.foldl (λys x=>if x∈ys then ys else ys++[x]) ys).length<ys.length+xs.length
 |[],ys,h,z=>by rw[AAZ] at z;exact absurd h z
 |x::xs,ys,h,z=>by
  show (xs.foldl _ (if x∈ys then ys else ys++[x])).length<_;by_cases hx:x∈ys
  ·rw[if_pos hx];have:=Go xs ys;simp only[AAI];omega
  ·rw[if_neg hx];have:=Q6 xs (ys++[x]) (by rw[List.nodup_append];exact⟨h,by simp,by intro a ha b hb e;simp at hb;subst hb e;exact hx ha⟩) (by rw[AAk];exact z);simp only[AAH,AAI,List.length_nil] at this ⊢;omega
theorem K6{xs:List Str}(hl:xs.length<=1000):DB [.lst (xs.map D.str)] μ=some (.bl (decide xs.Nodup),μ):=by
 by_cases h:xs.Nodup
 ·rw[AAP h];exact J2 h hl
 ·rw[AAO h];have e:Fd (.lst (xs.map D.str)) μ=some (.int (By xs).length,μ):=by
   unfold Fd;rw[AM (show Cn (.lst (xs.map D.str)) μ=some (xs.map D.str,μ) from rfl),J7];show (if xs.length+2<scanBound then some (D.int (By xs).length,μ) else none)=_;rw[if_pos (by have:scanBound=4096:=rfl;omega)]
  have q:=Q6 xs [] (by simp) (by simpa using h);have hq:((By xs).length:Int)≠((xs.map D.str).length:Nat):=by
   rw[AAG];have:(By xs).length<xs.length:=by simpa[By] using q
   omega
  exact Ah (g:=[]) (τ2:=_) (by rw[AAZ];unfold CP;wtm_at "b") rfl (by unfold Cl;trivial)
theorem JE(hk:Ba k=true)(hs:Ba s=true)(hb:Ba b=true)(h1:Cg k s b=true->QX (.inl .non) μ)(h2:Cg k s b=false->QX (.inr nom) μ):WP (CA [k,s,b]) μ QX:=by
 unfold CA;refine FZ rfl ?_;unfold B9;wtm_at "a";refine Pd (xs:=kinds3) hk ?_ rfl;change WP (AB _ AH _) μ _;wtm_at "a";refine Bm (λe1=>?_) (λe1=>?_)
 ·wtm_at "a";refine A5 (Jx hs) ?_;wtm_at "a";refine Bm (λe2=>?_) (λe2=>?_)
  ·wtm_at "a";cases s with
   |int i=>
    refine A5 (a:=.int (i-1)) rfl ?_;wtm_at "a";refine A5 (Jx hb) ?_;wtm_at "a";refine Bm (λe3=>?_) (λe3=>?_)
    ·wtm_at "a";exact h1 (by unfold Cg;show (GO k&&(DS (.int i) 2 10&&DS b 0 (i-1)))=true;rw[show GO k=true from e1,e2,e3];rfl)
    ·wtm_at "a";exact h2 (by unfold Cg;show (GO k&&(DS (.int i) 2 10&&DS b 0 (i-1)))=false;rw[show GO k=true from e1,e2,e3];rfl)
   |_=>cases e2
  ·wtm_at "a";exact h2 (by unfold Cg;rw[e2,Bool.false_and,Bool.and_false])
 ·wtm_at "a";exact h2 (by unfold Cg;rw[show GO k=false from e1,Bool.false_and])
end
noncomputable def B1:D->Str
 | .tup (.str x::_)=>x
 |_ => ""
noncomputable def GZ:D->Bool
 | .tup [n,k,s,b,_]=>FM n&&Cg k s b
 |_=>false
def Lw(d:D):Prop:=Ba d=true/\∀n k s b w,d=.tup [n,k,s,b,w]->Ba n=true/\NmP n/\Ba k=true/\Ba s=true/\Ba b=true
noncomputable def Er:D->Bool
 | .tup ds=>decide (ds.length<=6)&&(ds.all GZ&&decide (ds.map B1).Nodup)
 |_=>false
def N4(d:D):Prop:=Ba d=true/\∀ds,d=.tup ds->∀x∈ds,Lw x
noncomputable def Ev:D->Bool
 | .tup [n,w,r]=>FM n&&(DS w 0 400&&D4 r 0 60)
 |_=>false
def Kt(d:D):Prop:=Ba d=true/\∀n w r,d=.tup [n,w,r]->Ba n=true/\NmP n/\Ba w=true/\Ba r=true
noncomputable def Ej:D->Bool
 | .tup ds=>(decide (2<=ds.length)&&decide (ds.length<=4))&&(ds.all Ev&&decide (ds.map B1).Nodup)
 |_=>false
def N3(d:D):Prop:=Ba d=true/\∀ds,d=.tup ds->∀x∈ds,Kt x
theorem G3{n k s b w:D}:GZ (.tup [n,k,s,b,w])=(FM n&&Cg k s b):=rfl
theorem DE{ds:List D}:Er (.tup ds)=(decide (ds.length<=6)&&(ds.all GZ&&decide (ds.map B1).Nodup)):=rfl
theorem Cc{n w r:D}:Ev (.tup [n,w,r])=(FM n&&(DS w 0 400&&D4 r 0 60)):=rfl
theorem C6{ds:List D}:Ej (.tup ds)=((decide (2<=ds.length)&&decide (ds.length<=4))&&(ds.all Ev&&decide (ds.map B1).Nodup)):=rfl
theorem Gp{n:D}(h:FM n=true):∃x,n=.str x:=by
 cases n with
 |str x=>exact⟨x,rfl⟩
 |_=>cases h
theorem Yr{d:D}(h:D4 d 5 5=true):∃n k s b w,d=.tup [n,k,s,b,w]:=by
 cases d with
 |tup ds=>
  match ds,h with
  |[n,k,s,b,w],_=>exact⟨n,k,s,b,w,rfl⟩
  |[],h | [_],h | [_,_],h | [_,_,_],h | [_,_,_,_],h=>cases h
  |_::_::_::_::_::_::r,h=>
   unfold D4 at h;simp only[Bool.and_eq_true,decide_eq_true_eq,AAI] at h;omega
 |_=>cases h
theorem Ys{d:D}(h:D4 d 3 3=true):∃n w r,d=.tup [n,w,r]:=by
 cases d with
 |tup ds=>
  match ds,h with
  |[n,w,r],_=>exact⟨n,w,r,rfl⟩
  |[],h | [_],h | [_,_],h=>cases h
  |_::_::_::_::r,h=>
   unfold D4 at h;simp only[Bool.and_eq_true,decide_eq_true_eq,AAI] at h;omega
 |_=>cases h
theorem Ln{d:D}(h:D4 d 5 5=false):GZ d=false:=by
 unfold GZ;split
 ·cases h
 ·rfl
theorem JX{d:D}(h:D4 d 3 3=false):Ev d=false:=by
 unfold Ev;split
 ·cases h
 ·rfl
section
variable{μ:Mh}{QX:Dx->Mh->Prop}{d k s b:D}{w:Str}{τ:Sl}
theorem at0(x:D)(r:List D):atI (x::r) 0=some x:=by
 have:ixN (x::r).length 0=some 0:=by
  unfold ixN;rw[if_pos (by decide),if_pos (by simp)];rfl
 unfold atI;rw[this];rfl
theorem IL{P:D->Bool}(hP:∀d,P d=true->∃x r,d=.tup (.str x::r)){ds:List D}(h:ds.all P=true)(hl:ds.length<=1000){ma:Sl->M D}(hm:ma τ μ=some (.tup ds,μ)):B0 1 [] (De ma) (AN 0) Bz (mOp AV (AD 0) (mC (.int 0))) Aq τ μ=some (.lst ((ds.map B1).map D.str),μ):=by
 have hz:sizeLine=16777216:=by decide
 have go:∀(xs:List D) (ys:List D),xs.all P=true->CW (AN 0) Bz (mOp AV (AD 0) (mC (.int 0))) (BI 1 [] τ) xs ys μ=some (ys++(xs.map B1).map D.str,μ):=by
  intro xs
  induction xs with
  |nil=>intro ys _;show some (ys,μ)=_;simp
  |cons a xs ih=>
   intro ys z;rw[List.all_cons,Bool.and_eq_true] at z;obtain⟨x,r,rfl⟩:=hP a z.1;show bnd (AN 0 (.tup (.str x::r)) (BI 1 [] τ)) _ μ=_;rw[AM (show AN 0 (.tup (.str x::r)) (BI 1 [] τ) μ=some ((BI 1 [] τ).set 0 (some (.tup (.str x::r))),μ) from rfl),AM (show Bz ((BI 1 [] τ).set 0 (some (.tup (.str x::r)))) μ=some (true,μ) from rfl),if_pos rfl,AM (Bl (DD rfl) F3 (JU (d:=.str x) (at0 _ _))),ih _ z.2];simp[B1]
 refine HR (Ie hm RF) (by omega) (go ds [] h) (C1 (by simp;omega))
theorem UR(d:D)(h:GZ d=true):∃x r,d=.tup (.str x::r):=by
 unfold GZ at h;split at h
 ·rw[Bool.and_eq_true] at h;obtain⟨x,rfl⟩:=Gp h.1;exact⟨x,_,rfl⟩
 ·cases h
theorem Lb(d:D)(h:Ev d=true):∃x r,d=.tup (.str x::r):=by
 unfold Ev at h;split at h
 ·rw[Bool.and_eq_true] at h;obtain⟨x,rfl⟩:=Gp h.1;exact⟨x,_,rfl⟩
 ·cases h
theorem Ir{P:D->Bool}{done:List D}{x:D}(h:done.all P=true)(hx:P x=true):(done++[x]).all P=true:=by rw[List.all_append,h];simp[hx]
theorem Fh{P:D->Bool}{done rest:List D}{x:D}(hx:P x=false):(done++x::rest).all P=false:=by rw[List.all_append,List.all_cons,hx];simp
theorem Ph(ha:N4 d)(h1:Er d=true->QX (.inl .non) μ)(h2:Er d=false->QX (.inr nom) μ):WP (DA [d]) μ QX:=by
 obtain⟨ha,hb⟩:=ha;unfold DA;refine FZ rfl ?_;unfold CN;wtm_at "a";refine A5 (Eb (a:=0) (b:=6) ha) ?_;wtm_at "a";refine Bm (λe1=>?_) (λe1=>?_)
 case refine_2=>
  wtm_at "a";refine h2 ?_;cases d with
  |tup ds=>
   unfold D4 at e1;simp only[Bool.and_eq_false_iff,decide_eq_false_iff_not] at e1;rw[DE,AAO (by omega),Bool.false_and]
  |_=>rfl
 cases d with
 |tup ds=>
  have hl:ds.length<=6:=by
   unfold D4 at e1;simp only[Bool.and_eq_true,decide_eq_true_eq] at e1;omega
  have hb:=hb ds rfl;wtm_at "a";refine FB (I:=λrest τ ν=>ν=μ/\∃done o,ds=done++rest/\done.all GZ=true/\τ=[some (.tup ds),o]) ?_ ?_ ⟨rfl,[],none,rfl,rfl,rfl⟩
  ·rintro x xs τ ν ⟨rfl,done,o,e,hd,rfl⟩;obtain⟨ax,bx⟩:=hb x (by rw[e];simp);wtm_at "a";refine A5 (Eb (a:=5) (b:=5) ax) ?_;wtm_at "a";have bad:GZ x=false->QX (.inr nom) ν:=λz=>h2 (by rw[DE,e,Fh z];simp);refine Bm (λe2=>?_) (λe2=>?_)
   case refine_2=>wtm_at "a";exact bad (Ln e2)
   obtain⟨n,k,s,b,w,rfl⟩:=Yr e2;obtain⟨a1,a2,a3,a4,a5⟩:=bx n k s b w rfl;wtm_at "a";refine A5 (P0 a1 a2) ?_;wtm_at "a";refine Bm (λe3=>?_) (λe3=>?_)
   case refine_2=>wtm_at "a";exact bad (by rw[G3,e3];rfl)
   wtm_at "a";refine JE a3 a4 a5 (λe4=>?_) (λe4=>?_)
   case refine_2=>wtm_at "a";exact bad (by rw[G3,e3,e4];rfl)
   wtm_at "a";exact⟨rfl,done++[.tup [n,k,s,b,w]],_,by rw[e];simp,Ir hd (by rw[G3,e3,e4];rfl),rfl⟩
  ·rintro τ ν ⟨rfl,done,o,e,hd,rfl⟩;rw[AAZ] at e;subst e;refine Ad ?_;refine wx_exprX ?_;refine wx_dispX ?_;refine CD ?_;refine EY ?_;refine CD ?_;refine A5 (IL UR hd (by omega) rfl) ?_;wtm_at "a";refine A5 (K6 (by simp;omega)) ?_;wtm_at "a";refine Bm (λe5=>?_) (λe5=>?_)
   ·wtm_at "a";exact h1 (by rw[DE,AAP hl,hd,e5];rfl)
   ·wtm_at "a";exact h2 (by rw[DE,AAP hl,hd,e5];rfl)
 |_=>cases e1
theorem Pe(ha:N3 d)(h1:Ej d=true->QX (.inl .non) μ)(h2:Ej d=false->QX (.inr nom) μ):WP (C9 [d]) μ QX:=by
 obtain⟨ha,hb⟩:=ha;unfold C9;refine FZ rfl ?_;unfold CM;wtm_at "a";refine A5 (Eb (a:=2) (b:=4) ha) ?_;wtm_at "a";refine Bm (λe1=>?_) (λe1=>?_)
 case refine_2=>
  wtm_at "a";refine h2 ?_;cases d with
  |tup ds=>
   unfold D4 at e1;simp only[Bool.and_eq_false_iff,decide_eq_false_iff_not] at e1;have:(decide (2<=ds.length)&&decide (ds.length<=4))=false:=by
    simp only[Bool.and_eq_false_iff,decide_eq_false_iff_not];omega
   rw[C6,this,Bool.false_and]
  |_=>rfl
 cases d with
 |tup ds=>
  have hl:2<=ds.length/\ds.length<=4:=by
   unfold D4 at e1;simp only[Bool.and_eq_true,decide_eq_true_eq] at e1;omega
  have hb:=hb ds rfl;wtm_at "a";refine FB (I:=λrest τ ν=>ν=μ/\∃done o,ds=done++rest/\done.all Ev=true/\τ=[some (.tup ds),o]) ?_ ?_ ⟨rfl,[],none,rfl,rfl,rfl⟩
  ·rintro x xs τ ν ⟨rfl,done,o,e,hd,rfl⟩;obtain⟨ax,bx⟩:=hb x (by rw[e];simp);wtm_at "a";refine A5 (Eb (a:=3) (b:=3) ax) ?_;wtm_at "a";have bad:Ev x=false->QX (.inr nom) ν:=λz=>h2 (by rw[C6,e,Fh z];simp);refine Bm (λe2=>?_) (λe2=>?_)
   case refine_2=>wtm_at "a";exact bad (JX e2)
   obtain⟨n,w,r,rfl⟩:=Ys e2;obtain⟨a1,a2,a3,a4⟩:=bx n w r rfl;wtm_at "a";refine A5 (P0 a1 a2) ?_;wtm_at "a";refine Bm (λe3=>?_) (λe3=>?_)
   case refine_2=>wtm_at "a";exact bad (by rw[Cc,e3];rfl)
   wtm_at "a";refine A5 (Jx (a:=0) (b:=400) a3) ?_;wtm_at "a";refine Bm (λe4=>?_) (λe4=>?_)
   case refine_2=>wtm_at "a";exact bad (by rw[Cc,e3,e4];rfl)
   wtm_at "a";refine A5 (Eb (a:=0) (b:=60) a4) ?_;wtm_at "a";refine Bm (λe5=>?_) (λe5=>?_)
   case refine_2=>wtm_at "a";exact bad (by rw[Cc,e3,e4,e5];rfl)
   wtm_at "a";exact⟨rfl,done++[.tup [n,w,r]],_,by rw[e];simp,Ir hd (by rw[Cc,e3,e4,e5];rfl),rfl⟩
  ·rintro τ ν ⟨rfl,done,o,e,hd,rfl⟩;rw[AAZ] at e;subst e;refine Ad ?_;refine wx_exprX ?_;refine wx_dispX ?_;refine CD ?_;refine EY ?_;refine CD ?_;refine A5 (IL Lb hd (by omega) rfl) ?_;wtm_at "a";refine A5 (K6 (by simp;omega)) ?_;wtm_at "a";refine Bm (λe5=>?_) (λe5=>?_)
   ·wtm_at "a";exact h1 (by rw[C6,AAP hl.1,AAP hl.2,hd,e5];rfl)
   ·wtm_at "a";exact h2 (by rw[C6,AAP hl.1,AAP hl.2,hd,e5];rfl)
 |_=>cases e1
end
noncomputable def F6:D->D
 | .tup [_,_,_,_,w]=>w
 |_=>.non
noncomputable def wrB(ns:List Str)(d:D):Bool:=(ns.map D.str).any λz=>decide (z=F6 d)
noncomputable def Fi:D->Bool
 | .tup [k,s,b,.tup ds,.tup es]=>Cg k s b&&(Er (.tup ds)&&(Ej (.tup es)&&ds.all (wrB (es.map B1))))
 |_=>false
structure SE(k s b bs hs:D):Prop where
 k1:Ba k=true
 s1:Ba s=true
 b1:Ba b=true
 bs1:N4 bs
 hs1:N3 hs
 w1:∀ds,bs=.tup ds->∀x∈ds,Ba (F6 x)=true
noncomputable def GR(ds:List D):List (Key×D):=ds.foldl (λl d=>Fm l (.inr (B1 d)) (F6 d)) []
theorem Mb(ds:List D)(d:D):GR (ds++[d])=Fm (GR ds) (.inr (B1 d)) (F6 d):=by unfold GR;rw[List.foldl_append];rfl
theorem Ib:∀(ds:List D) (l:List (Key×D)),(ds.foldl (λl d=>Fm l (.inr (B1 d)) (F6 d)) l).length<=l.length+ds.length
 |[],l=>AAF _
 |d::ds,l=>by
  have h:(Fm l (.inr (B1 d)) (F6 d)).length<=l.length+1:=by unfold Fm;split<;>simp
  have:=Ib ds (Fm l (.inr (B1 d)) (F6 d));rw[List.foldl_cons,AAI];omega
theorem O2(ds:List D):(GR ds).length<=ds.length:=by have:=Ib ds [];unfold GR;simpa using this
theorem Rx{d:D}(h:GZ d=true):∃x k s b w,d=.tup [.str x,k,s,b,w]:=by
 unfold GZ at h;split at h
 ·rw[Bool.and_eq_true] at h;obtain⟨x,rfl⟩:=Gp h.1;exact⟨x,_,_,_,_,rfl⟩
 ·cases h
noncomputable abbrev YE:Sl->M (Fl×Sl):=(Ef (MV (AB (mOp AV (AD 0) (mC (.int 4))) AH)) (G5 [4,5]) (BE (AF C8 (AB (AD 5) (AB (mOp A7 (AD 4) (mC (.int 0))) (AB (AD 2) AH))))))
section
variable{μ:Mh}{QD:D->Mh->Prop}{QX:Dx->Mh->Prop}{d k s b bs hs:D}{τ:Sl}
theorem SJ(q:QD (.ref μ.length) (μ++[.dK []])):WP (WD τ) μ QD:=⟨_,_,rfl,q⟩
theorem SI(ha:Ba d=true)(h:D4 d 5 5=false)(q:QX (.inr nom) μ):WP (Al [d]) μ QX:=by
 unfold Al;refine FZ rfl ?_;unfold Be;wtm_at "a";refine A5 (Eb (a:=5) (b:=5) ha) ?_;wtm_at "a";rw[h];refine Bm (λe1=>nomatch e1) (λe1=>?_);wtm_at "a";exact q
theorem Pb(ha:SE k s b bs hs)(h2:Fi (.tup [k,s,b,bs,hs])=false->∀ν,QX (.inr nom) ν)
  (h1:Fi (.tup [k,s,b,bs,hs])=true->∀ds es o,bs=.tup ds->hs=.tup es->WP (YE [some (.tup [k,s,b,bs,hs]),some (.lst ((es.map B1).map D.str)),some (.ref μ.length),o,none,none]) (μ++[.dK (GR ds)]) (UM QX)):WP (Al [.tup [k,s,b,bs,hs]]) μ QX:=by
 unfold Al;refine FZ rfl ?_;unfold Be;wtm_at "a";refine A5 (Eb (a:=5) (b:=5) rfl) ?_;wtm_at "a";refine Bm (λe1=>?_) (λe1=>nomatch e1);wtm_at "a";refine JE ha.k1 ha.s1 ha.b1 (λe2=>?_) (λe2=>?_)
 case refine_2=>
  wtm_at "a";refine h2 ?_ _;unfold Fi;split
  ·next h=>cases h;rw[e2];rfl
  ·rfl
 wtm_at "a";refine Ph ha.bs1 (λe3=>?_) (λe3=>?_)
 case refine_2=>
  wtm_at "a";refine h2 ?_ _;unfold Fi;split
  ·next h=>cases h;rw[e3,e2];rfl
  ·rfl
 wtm_at "a";refine Pe ha.hs1 (λe4=>?_) (λe4=>?_)
 case refine_2=>
  wtm_at "a";refine h2 ?_ _;unfold Fi;split
  ·next h=>cases h;rw[e4,e3,e2];rfl
  ·rfl
 cases bs with
 |tup ds=>cases hs with
  |tup es=>
   have e3':=e3;have e4':=e4;rw[DE,Bool.and_eq_true,Bool.and_eq_true,decide_eq_true_eq] at e3';rw[C6,Bool.and_eq_true,Bool.and_eq_true,Bool.and_eq_true,decide_eq_true_eq,decide_eq_true_eq] at e4';refine Ad ?_;refine BD ?_;refine Db ?_;refine A5 (IL Lb e4'.2.1 (by omega) rfl) ?_;refine Ad ?_;refine BD ?_;refine Db ?_;refine SJ ?_;refine Ad ?_;refine BD ?_;refine L0 ?_;refine A5 (Ie (x:=.tup ds) (ds:=ds) rfl rfl) ?_;have top:Fi (.tup [k,s,b,.tup ds,.tup es])=ds.all (wrB (es.map B1)):=by
    show (Cg k s b&&(Er (.tup ds)&&(Ej (.tup es)&&ds.all (wrB (es.map B1)))))=_;rw[e2,e3,e4];rfl
   refine FB (I:=λrest τ ν=>∃done o,ds=done++rest/\done.all (wrB (es.map B1))=true/\ν=μ++[.dK (GR done)]/\τ=[some (.tup [k,s,b,.tup ds,.tup es]),some (.lst ((es.map B1).map D.str)),some (.ref μ.length),o,none,none]) ?_ ?_ ⟨[],none,rfl,rfl,rfl,rfl⟩
   ·rintro x xs τ ν ⟨done,o,e,hd,rfl,rfl⟩;have hx:x∈ds:=by rw[e];simp
    have bx:=Rx (List.all_eq_true.mp e3'.2.1 x hx);have wx:=ha.w1 ds rfl x hx;obtain⟨x,k',s',b',w',rfl⟩:=bx;wtm_at "a";refine Pd (xs:=es.map B1) wx ?_ rfl;change WP (AB _ AH _) _ _;wtm_at "a";refine Bm (λe5=>?_) (λe5=>?_)
    case refine_2=>
     wtm_at "a";exact h2 (by rw[top,e];exact Fh e5) _
    wtm_at "a";refine Pm ?_;wtm_at "a";refine⟨μ.length,GR done,.inr x,rfl,List.getElem?_concat_length,rfl,?_,?_⟩
    ·have:=O2 done;have:done.length<=ds.length:=by rw[e];simp
     omega
    ·wtm_at "a";refine⟨done++[.tup [.str x,k',s',b',w']],_,by rw[e];simp,Ir (P:=wrB (es.map B1)) (x:=.tup [.str x,k',s',b',w']) hd e5,?_,rfl⟩;rw[Mb];simp[B1,F6]
   ·rintro τ ν ⟨done,o,e,hd,rfl,rfl⟩;rw[AAZ] at e;subst e;refine Ad ?_;exact h1 (by rw[top];exact hd) _ _ o rfl rfl
  |_=>cases e4
 |_=>cases e3
theorem Ly(ha:SE k s b bs hs)(h:Fi (.tup [k,s,b,bs,hs])=false)(q:∀ν,QX (.inr nom) ν):WP (Al [.tup [k,s,b,bs,hs]]) μ QX:=
 Pb ha (λ_=>q) (λe=>by rw[h] at e;cases e)
end
def Refd(d:D):Prop:=∀(μ:Mh) (QX:Dx->Mh->Prop),(∀ν,QX (.inr nom) ν)->WP (Al [d]) μ QX
theorem Refd.not5{d:D}(ha:Ba d=true)(h:D4 d 5 5=false):Refd d:=λ_ _ q=>SI ha h (q _)
theorem Refd.top{k s b bs hs:D}(ha:SE k s b bs hs)(h:Fi (.tup [k,s,b,bs,hs])=false):Refd (.tup [k,s,b,bs,hs]):=λ_ _ q=>Ly ha h q
theorem N6{μ:Mh}{QD:D->Mh->Prop}{d:D}(h:Refd d)(q:∀ν,QD (.bl true) ν):WP (Dy [d]) μ QD:=by
 unfold Dy;refine Fa rfl ?_;unfold Dr;wtm_at "a";refine Ut ?_;wtm_at "a";refine h _ _ λν=>?_;refine wxk_r ?_;refine⟨by simp,?_⟩;have hn:(ν++[MO.exc nom.1 nom.2])[ν.length]?=some (.exc "NoMaking" none):=List.getElem?_concat_length;wtm_at "a";refine Lz (b:=false) ?_;wtm_at "a";refine⟨_,_,_,rfl,hn,rfl,?_⟩;wtm_at "a";refine Lz (b:=true) ?_;wtm_at "a";refine⟨_,_,_,rfl,hn,rfl,?_⟩;wtm_at "a";refine Lz (b:=true) ?_;wtm_at "a";refine⟨_,_,_,rfl,hn,rfl,?_⟩;wtm_at "a";refine Pi ?_;wtm_at "a";exact⟨_,_,rfl,q _⟩
theorem T1{k:Str}(h:k∈(["safe", "steady", "whole"]:List Str)):GO (.str k)=true:=by
 unfold GO;rw[List.any_eq_true];exact⟨.str k,AAM.mpr ⟨k,h,rfl⟩,by simp⟩
theorem K2{k:Str}{s b:Int}(h:Jp k s b):Cg (.str k) (.int s) (.int b)=true:=by
 obtain⟨h0,h1,h2,h3,h4⟩:=h;show (GO (.str k)&&((decide (2<=s)&&decide (s<=10))&&(decide (0<=b)&&decide (b<=s-1))))=true;rw[T1 h0,AAP h1,AAP h2,AAP h3,AAP h4];rfl
theorem W3{b:Bx}(h:GoodName b.nm):Lw b.toD:=⟨rfl,λn k s g w e=>by
 unfold Bx.toD at e;cases e;exact⟨rfl,λx e=>by cases e;exact .inl h,rfl,rfl,rfl⟩⟩
theorem W2{b:Hd}(h:GoodName b.nm):Kt b.toD:=⟨rfl,λn k s e=>by
 unfold Hd.toD at e;cases e;exact⟨rfl,λx e=>by cases e;exact .inl h,rfl,rfl⟩⟩
theorem Yk{b:Bx}(h:GoodName b.nm/\Jp b.kd b.sz b.bg):GZ b.toD=true:=by
 unfold Bx.toD;rw[G3,show FM (.str b.nm)=true from GP h.1,K2 h.2];rfl
theorem YX{b:Hd}(h:GoodName b.nm/\0<=b.wi/\b.wi<=400/\b.rs.length<=60):Ev b.toD=true:=by
 obtain⟨h0,h1,h2,h3⟩:=h;unfold Hd.toD;rw[Cc,show FM (.str b.nm)=true from GP h0];show (true&&((decide (0<=b.wi)&&decide (b.wi<=400))&&(decide ((0:Int)<=((b.rs.map Rw.toD).length:Int))&&decide (((b.rs.map Rw.toD).length:Int)<=60))))=true;rw[AAG,AAP h1,AAP h2,AAP (by omega),AAP (by omega)];rfl
theorem WB(bs:List Bx):(bs.map Bx.toD).map B1=bs.map Bx.nm:=by rw[List.map_map];rfl
theorem IJ(bs:List Hd):(bs.map Hd.toD).map B1=bs.map Hd.nm:=by rw[List.map_map];rfl
section
variable{m:Mk}(h:m.Ok)
theorem W4{bs:List Bx}(h:∀b∈bs,GoodName b.nm):N4 (.tup (bs.map Bx.toD)):=⟨rfl,λds e x hx=>by
 cases e;obtain⟨b,hb,rfl⟩:=AAM.mp hx;exact W3 (h b hb)⟩
theorem W1{hs:List Hd}(h:∀b∈hs,GoodName b.nm):N3 (.tup (hs.map Hd.toD)):=⟨rfl,λds e x hx=>by
 cases e;obtain⟨b,hb,rfl⟩:=AAM.mp hx;exact W2 (h b hb)⟩
theorem Wz{bs:List Bx}(h:∀b∈bs,GoodName b.nm/\Jp b.kd b.sz b.bg):(bs.map Bx.toD).all GZ=true:=by
 rw[List.all_eq_true];intro x hx;obtain⟨b,hb,rfl⟩:=AAM.mp hx;exact Yk (h b hb)
theorem Wy{hs:List Hd}(h:∀h∈hs,GoodName h.nm/\0<=h.wi/\h.wi<=400/\h.rs.length<=60):(hs.map Hd.toD).all Ev=true:=by
 rw[List.all_eq_true];intro x hx;obtain⟨b,hb,rfl⟩:=AAM.mp hx;exact YX (h b hb)
include h in
theorem Rv:Er (.tup (m.bs.map Bx.toD))=true:=by
 rw[DE,Wz h.boxes,WB,AAG,AAP h.most,AAP h.unlike];rfl
include h in
theorem RZ:Ej (.tup (m.hs.map Hd.toD))=true:=by
 rw[C6,Wy h.hands,IJ,AAG,AAP h.least,AAP h.mosth,AAP h.unlikeh];rfl
theorem ZN(bs:List Bx):∀ds,D.tup (bs.map Bx.toD)=.tup ds->∀x∈ds,Ba (F6 x)=true:=λds e x hx=>by
 cases e;obtain⟨b,hb,rfl⟩:=AAM.mp hx;rfl
theorem XF{ns:List Str}{b:Bx}(hb:b.wr∈ns):wrB ns b.toD=true:=by
 unfold wrB;rw[List.any_eq_true];exact⟨.str b.wr,AAM.mpr ⟨_,hb,rfl⟩,by simp[Bx.toD,F6]⟩
include h in
theorem MC:Fi m.toD=true:=by
 show (Cg (.str m.kd) (.int m.sz) (.int m.bg)&&(Er (.tup (m.bs.map Bx.toD))&&(Ej (.tup (m.hs.map Hd.toD))&&(m.bs.map Bx.toD).all (wrB ((m.hs.map Hd.toD).map B1)))))=true;rw[K2 h.worth,Rv h,RZ h,IJ];simp only[Bool.true_and];rw[List.all_eq_true];intro x hx;obtain⟨b,hb,rfl⟩:=AAM.mp hx;exact XF (h.writers b hb)
include h in
theorem SB:SE (.str m.kd) (.int m.sz) (.int m.bg) (.tup (m.bs.map Bx.toD)) (.tup (m.hs.map Hd.toD)):=⟨rfl,rfl,rfl,W4 λb hb=>(h.boxes b hb).1,W1 λb hb=>(h.hands b hb).1,ZN m.bs⟩
theorem Lf:∀(rest done:List Bx),((done++rest).map Bx.nm).Nodup->(rest.map Bx.toD).foldl (λl d=>Fm l (.inr (B1 d)) (F6 d)) (done.map kv)=(done++rest).map kv
 |[],done,_=>by simp
 |b::rest,done,hd=>by
  have hb:b.nm∉done.map Bx.nm:=by
   rw[AAY,List.nodup_append] at hd;intro z;exact hd.2.2 _ z b.nm (by simp) rfl
  rw[AAX,List.foldl_cons];have e:Fm (done.map kv) (.inr (B1 b.toD)) (F6 b.toD)=(done++[b]).map kv:=K1.S9 hb;rw[e,Lf rest (done++[b]) (by simpa using hd)];simp
include h in
theorem Ms{μ:Mh}{QX:Dx->Mh->Prop}(q:∀ν,QX (.inl .non) ν):WP (Al [m.toD]) μ QX:=by
 refine Pb (SB h) (λe=>?_) (λ_ ds es o e1 e2=>?_)
 ·have:=MC h;unfold Mk.toD at this;rw[this] at e;cases e
 ·cases e1;cases e2;have ef:GR (m.bs.map Bx.toD)=m.bs.map kv:=Lf m.bs [] (by simpa using h.unlike);rw[ef,IJ];obtain⟨o4,o5,l2⟩:=Ij (μ:=μ++[.dK (m.bs.map kv)]) (n:=μ.length) (t:=some m.toD) (t1:=some (.lst ((m.hs.map Hd.nm).map D.str))) (o3:=o) List.getElem?_concat_length m.hs 0 none none (λq hq=>(h.hands q hq).1.ok) (by simpa using h.rows);exact A5 (Kg (ds:=D3 0 (m.hs.map Hd.toD)) rfl l2) (q _)
end
section
variable{μ:Mh}{QD:D->Mh->Prop}{d:D}{ds es:List D}{w:Nat}
theorem szl:sizeLine=16777216:=by decide
theorem DY{i:Int}(k:Nat)(h:i=(k:Int))(q:QD (.tup (ds.take k)) μ):WP (IE none (some i) (.tup ds)) μ QD:=by
 subst h;exact⟨_,μ,rfl,by rw[Rp];exact q⟩
theorem JF{i:Int}(k:Nat)(h:i=(k:Int))(hk:k<=ds.length)(q:QD (.tup (ds.drop k)) μ):WP (IE (some i) none (.tup ds)) μ QD:=by
 subst h;exact⟨_,μ,rfl,by rw[Lg k hk];exact q⟩
theorem DZ(h:ds.length+es.length<=1000000)(q:QD (.tup (ds++es)) μ):WP (Ag (.tup ds) (.tup es)) μ QD:=by
 cases ds with
 |nil=>exact⟨_,μ,rfl,q⟩
 |cons a as=>exact Jt (by rw[szl,AAH];omega) q
theorem D7(h:ds.length+es.length<=1000000)(q:QD (.lst (ds++es)) μ):WP (Ag (.lst ds) (.lst es)) μ QD:=HN (by rw[szl,AAH];omega) q
theorem Mr{i:Int}(j:Nat)(h:i=((j+1:Nat):Int))(h2:j<1000)(hn:ds≠[])(hl:ds.length<=1000)(q:QD (.tup (List.replicate (j+1) ds).flatten) μ):WP (Gj (.tup ds) (.int i)) μ QD:=by
 subst h;cases ds with
 |nil=>exact absurd rfl hn
 |cons a as=>
  refine⟨.tup (List.replicate (j+1) (a::as)).flatten,μ,?_,q⟩;show (if (a::as)≠[]/\(a::as).length<=1000/\(1:Int)<=((j+1:Nat):Int)/\((j+1:Nat):Int)<=1000 then some (D.tup (List.replicate ((j+1:Nat):Int).toNat (a::as)).flatten,μ) else none)=_;rw[if_pos ⟨hn,hl,by omega,by omega⟩];rfl
theorem Kx(q:QD (.lst ds) μ):WP (FP [.tup ds]) μ QD:=⟨_,μ,rfl,q⟩
theorem HZ{r:Int}(h1:0<=r)(h2:r<ds.length)(q:∀d∈ds,QD d μ):WP (AV (.lst ds) (.int r)) μ QD:=by
 obtain⟨a,ha,e⟩:=Gm (f:=λd:D=>d) (xs:=ds) h1 h2;rw[List.map_id'] at e;exact FA e (q a ha)
theorem D6{b:Int}(hw:WellAt μ w)(hb:0<b)(hb2:b<1073741824)(q:∀r μ',0<=r->r<b->WellAt μ' w->Upd w μ μ'->QD (.int r) μ'):WP (BA [.ref w,.int b]) μ QD:=by
 obtain⟨r,μ',e,h1,h2,u⟩:=CU hw hb hb2;exact⟨_,μ',e,q r μ' h1 h2 (u.well hw.lt) u⟩
end
noncomputable def badW:List (D×D×D):=[(.str "Safe",.int 2,.int 0),(.str "",.int 2,.int 0),(.non,.int 2,.int 0),(.str "strong",.int 2,.int 0),(.lst [.str "safe"],.int 2,.int 0),(.str "safe ",.int 2,.int 0),
 (.str "safe",.int 1,.int 0),(.str "safe",.int 0,.int 0),(.str "safe",.int (-3),.int 0),(.str "safe",.int 11,.int 0),(.str "safe",.bl true,.int 0),
 (.str "safe",.non,.int 0),(.str "safe",.str "2",.int 0),(.str "steady",.int 3,.int 3),(.str "whole",.int 3,.int (-1)),(.str "safe",.int 2,.bl true),
 (.str "safe",.int 10,.int 10),(.str "safe",.int 2,.non),(.str "safe",.int 2,.str "0"),(.str "safe",.int 2,.bl false),(.str "safe",.tup [.int 2],.int 0)]
noncomputable def badN:List D:=[.str "",.str "abcdefghi",.str "A",.str "a1",.str "a b",.str "a.",.non,.int 5,.bl true,.lst [.str "a"],.tup [.str "a"],.str "w\n",.str "-"]
theorem Nz:∀t∈badW,Ba t.1=true/\Ba t.2.1=true/\Ba t.2.2=true/\Cg t.1 t.2.1 t.2.2=false:=by decide +kernel
noncomputable def YB:D->Bool
 | .str x=>decide (x∈R9)
 |_=>true
theorem HW:∀n∈badN,Ba n=true/\FM n=false/\YB n=true:=by decide +kernel
theorem NmP.of{n:D}(h:YB n=true):NmP n:=λx e=>by
 subst e;exact .inr (of_decide_eq_true h)
theorem U6{μ:Mh}:DQ [] μ=some (.lst (badW.map λt=>.tup [t.1,t.2.1,t.2.2]),μ):=by kernel_rfl
theorem CB{α:Type}{m:M α}{μ:Mh}{a:α}{Q:α->Mh->Prop}(e:m μ=some (a,μ))(q:Q a μ):WP m μ Q:=⟨a,μ,e,q⟩
theorem SC{ds:List D}(h:∀x∈ds,Lw x):N4 (.tup ds):=⟨rfl,λ_ e=>by cases e;exact h⟩
theorem Lu{ds:List D}(h:∀x∈ds,Kt x):N3 (.tup ds):=⟨rfl,λ_ e=>by cases e;exact h⟩
theorem Yu{k s b bs hs:D}(h:Cg k s b=false):Fi (.tup [k,s,b,bs,hs])=false:=by
 unfold Fi;split
 ·next e=>cases e;rw[h];rfl
 ·rfl
theorem P6{k s b bs hs:D}(h:Er bs=false):Fi (.tup [k,s,b,bs,hs])=false:=by
 unfold Fi;split
 ·next e=>cases e;rw[h,Bool.false_and,Bool.and_false]
 ·rfl
theorem LB{k s b bs hs:D}(h:Ej hs=false):Fi (.tup [k,s,b,bs,hs])=false:=by
 unfold Fi;split
 ·next e=>cases e;rw[h,Bool.false_and,Bool.and_false,Bool.and_false]
 ·rfl
theorem XJ{k s b:D}{ds es:List D}(h:ds.all (wrB (es.map B1))=false):Fi (.tup [k,s,b,.tup ds,.tup es])=false:=by
 show (Cg k s b&&(Er (.tup ds)&&(Ej (.tup es)&&ds.all (wrB (es.map B1)))))=false;rw[h,Bool.and_false,Bool.and_false,Bool.and_false]
noncomputable def X5:List D:=[.tup [.str "ka",.int 0,.tup []],.tup [.str "kb",.int 0,.tup []],.tup [.str "kc",.int 0,.tup []],.tup [.str "kd",.int 0,.tup []],.tup [.str "ke",.int 0,.tup []]]
noncomputable def ks7:List Str:=["ka", "kb", "kc", "kd", "ke", "kf", "kg"]
noncomputable def X7(n:D):List D:=ks7.map λk=>.tup [.str k,.str "safe",.int 2,.int 0,n]
theorem Nb:∀k∈ks7,GoodName k:=by
 have:∀k∈ks7,1<=k.length/\k.length<=8/\∀c∈k.cps.toList,97<=c/\c<123:=by decide +kernel
 exact λk hk=>⟨(this k hk).1,(this k hk).2.1,(this k hk).2.2⟩
theorem W7:∀x∈X5,Kt x:=by
 intro x hx;unfold X5 at hx;have g:∀k∈ks7,Kt (.tup [.str k,.int 0,.tup []]):=λk hk=>⟨rfl,λn w r e=>by
  cases e;exact⟨rfl,λx e=>by cases e;exact .inl (Nb k hk),rfl,rfl⟩⟩
 simp only[AAJ,List.not_mem_nil,or_false] at hx;rcases hx with rfl|rfl|rfl|rfl|rfl
 ·exact g "ka" (by simp[ks7])
 ·exact g "kb" (by simp[ks7])
 ·exact g "kc" (by simp[ks7])
 ·exact g "kd" (by simp[ks7])
 ·exact g "ke" (by simp[ks7])
theorem W6{n:D}:∀x∈X7 n,Lw x:=by
 intro x hx;obtain⟨k,hk,rfl⟩:=AAM.mp hx;exact⟨rfl,λn w r b g e=>by
  cases e;exact⟨rfl,λx e=>by cases e;exact .inl (Nb k hk),rfl,rfl,rfl⟩⟩
structure Pt(k s b:D)(ds es:List D):Prop where
 adm:SE k s b (.tup ds) (.tup es)
 d1:1<=ds.length
 d6:ds.length<=6
 e2:2<=es.length
 e4:es.length<=4
 hn:∀x∈es,∃n w r,x=.tup [.str n,w,.tup r]
noncomputable def Ge(k s b:D)(ds es:List D)(n:D):List D:=
 [.non,.int 5,.str "making",.lst [],.lst [k,s,b,.tup ds,.tup es],.tup [k,s,b,.tup ds],.tup [k,s,b,.tup ds,.tup es,.int 0],.tup [],.tup [.tup [k,s,b,.tup ds,.tup es]]]
 ++ [.tup [k,s,b,.lst ds,.tup es],.tup [k,s,b,.tup ds,.lst es]]
 ++ [.tup [k,s,b,.non,.tup es],.tup [k,s,b,.tup ds,.tup (es.take 1)],.tup [k,s,b,.tup ds,.tup []]]
 ++ [.tup [k,s,b,.tup ds,.tup ((es++X5).take 5)],.tup [k,s,b,.tup ds,.tup (List.replicate (1+1) (es.take 1)).flatten]]
 ++ [.tup [k,s,b,.tup ((ds++X7 n).take 7),.tup es],.tup [k,s,b,.tup (List.replicate (1+1) (ds.take 1)).flatten,.tup es]]
 ++ (badW.map λt=>.tup [t.1,t.2.1,t.2.2,.tup ds,.tup es])
theorem M3{α:Type}:∀{l:List α},1<=l.length->∃x r,l=x::r/\l.take 1=[x]
 |x::r,_=>⟨x,r,rfl,rfl⟩
theorem K4{k s b n:D}{ds es:List D}(p:Pt k s b ds es)(hn:Ba n=true):∀d∈Ge k s b ds es n,Refd d:=by
 obtain⟨⟨k1,s1,b1,bs1,hs1,w1⟩,d1,d6,e2,e4,hx⟩:=p;have db:=bs1.2 ds rfl;have eh:=hs1.2 es rfl;obtain⟨d0,dr,ed,td⟩:=M3 d1;obtain⟨h0,hr,ee,te⟩:=M3 (AAr (by decide:1<=2) e2);unfold Ge;simp only[List.forall_mem_append];refine⟨⟨⟨⟨⟨?_,?_⟩,?_⟩,?_⟩,?_⟩,?_⟩
 ·simp only[AAs];exact⟨.not5 rfl rfl,.not5 rfl rfl,.not5 rfl rfl,.not5 rfl rfl,.not5 rfl rfl,.not5 rfl rfl,.not5 rfl rfl,.not5 rfl rfl,.not5 rfl rfl,λ_ h=>nomatch h⟩
 ·simp only[AAs];exact⟨.top ⟨k1,s1,b1,⟨rfl,λ_ e=>nomatch e⟩,hs1,λ_ e=>nomatch e⟩ rfl,.top ⟨k1,s1,b1,bs1,⟨rfl,λ_ e=>nomatch e⟩,w1⟩ rfl,λ_ h=>nomatch h⟩
 ·simp only[AAs];refine⟨.top ⟨k1,s1,b1,⟨rfl,λ_ e=>nomatch e⟩,hs1,λ_ e=>nomatch e⟩ rfl,.top ⟨k1,s1,b1,bs1,Lu λx hx=>eh x (List.mem_of_mem_take hx),w1⟩ (LB ?_),.top ⟨k1,s1,b1,bs1,Lu λx hx=>(nomatch hx),w1⟩ (LB rfl),λ_ h=>nomatch h⟩;rw[te];rfl
 ·simp only[AAs];refine⟨.top ⟨k1,s1,b1,bs1,Lu λx hx=>?_,w1⟩ (LB ?_),.top ⟨k1,s1,b1,bs1,Lu λx hx=>?_,w1⟩ (LB ?_),λ_ h=>nomatch h⟩
  ·rcases AAK.mp (List.mem_of_mem_take hx) with h|h
   ·exact eh x h
   ·exact W7 x h
  ·rw[C6,show ((es++X5).take 5).length=5 from by rw[List.length_take,AAH,show X5.length=5 from rfl];omega];rfl
  ·rw[te] at hx;have:x=h0:=by simpa using hx
   subst this;exact eh x (by rw[ee];simp)
  ·rw[te,C6,show (List.replicate (1+1) [h0]).flatten=[h0,h0] from rfl,AAO (p:=(List.map B1 [h0,h0]).Nodup) (by simp),Bool.and_false,Bool.and_false]
 ·simp only[AAs];refine⟨.top ⟨k1,s1,b1,SC λx hx=>?_,hs1,λds' e x hx=>?_⟩ (P6 ?_),.top ⟨k1,s1,b1,SC λx hx=>?_,hs1,λds' e x hx=>?_⟩ (P6 ?_),λ_ h=>nomatch h⟩
  ·rcases AAK.mp (List.mem_of_mem_take hx) with h|h
   ·exact db x h
   ·exact W6 x h
  ·cases e;rcases AAK.mp (List.mem_of_mem_take hx) with h|h
   ·exact w1 ds rfl x h
   ·obtain⟨k,hk,rfl⟩:=AAM.mp h;exact hn
  ·rw[DE,show ((ds++X7 n).take 7).length=7 from by rw[List.length_take,AAH,show (X7 n).length=7 from rfl];omega];rfl
  ·rw[td] at hx;have:x=d0:=by simpa using hx
   subst this;exact db x (by rw[ed];simp)
  ·cases e;rw[td] at hx;have:x=d0:=by simpa using hx
   subst this;exact w1 ds rfl x (by rw[ed];simp)
  ·rw[td,DE,show (List.replicate (1+1) [d0]).flatten=[d0,d0] from rfl,AAO (p:=(List.map B1 [d0,d0]).Nodup) (by simp),Bool.and_false,Bool.and_false]
 ·intro d hd;obtain⟨t,ht,rfl⟩:=AAM.mp hd;obtain⟨t1,t2,t3,t4⟩:=Nz t ht;exact .top ⟨t1,t2,t3,bs1,hs1,w1⟩ (Yu t4)
theorem He{k s b n:D}{ds es:List D}:(Ge k s b ds es n).length=39:=rfl
theorem Pa{μ:Mh}{QD:D->Mh->Prop}{k s b:D}{ds es:List D}{w:Nat}(hw:WellAt μ w)(p:Pt k s b ds es)(q:∀d ν,Refd d->QD d ν):WP (BY [.ref w,.tup [k,s,b,.tup ds,.tup es]]) μ QD:=by
 have d1:=p.d1;have d6:=p.d6;have e2:=p.e2;have e4:=p.e4;obtain⟨d0,dr,ed,td⟩:=M3 d1;obtain⟨h0,hr,ee,te⟩:=M3 (AAr (by decide:1<=2) e2);obtain⟨n,wi,rs,eh⟩:=p.hn h0 (by rw[ee];simp);subst eh;have hX5:X5.length=5:=rfl;have hX7:(X7 (.str n)).length=7:=rfl;unfold BY;refine Fa rfl ?_;unfold BX;refine BD ?_;refine CB (a:=(.next,[some (.ref w),some (.tup [k,s,b,.tup ds,.tup es]),some k,some s,some b,some (.tup ds),some (.tup es),none,none,none])) (by kernel_rfl) ?_;refine Ad ?_;refine BD ?_;refine CB (a:=(.next,[some (.ref w),some (.tup [k,s,b,.tup ds,.tup es]),some k,some s,some b,some (.tup ds),some (.tup es),some (.lst [.non,.int 5,.str "making",.lst [],.lst [k,s,b,.tup ds,.tup es],.tup [k,s,b,.tup ds],.tup [k,s,b,.tup ds,.tup es,.int 0],.tup [],.tup [.tup [k,s,b,.tup ds,.tup es]]]),none,none])) (by kernel_rfl) ?_;refine Ad ?_;wtm_at "a";refine Kx ?_;wtm_at "a";refine Kx ?_;wtm_at "a";refine D7 (by simp) ?_;wtm_at "a";refine DY 1 rfl ?_;wtm_at "a";refine DY 4 rfl ?_;wtm_at "a";refine DZ (by simp) ?_;wtm_at "a";refine D7 (by simp) ?_;wtm_at "a";refine DZ (es:=X5) (by rw[hX5];omega) ?_;wtm_at "a";refine DY 5 rfl ?_;wtm_at "a";refine DY 1 rfl ?_;wtm_at "a";refine Mr 1 rfl (by decide) (by rw[te];simp) (by rw[te];simp) ?_;wtm_at "a";refine D7 (by simp) ?_;wtm_at "a";refine⟨AAE rfl,K0 (f:=D.str) (p:=λ_=>true) (F:=λk=>.tup [.str k,.str "safe",.int 2,.int 0,.str n]) (xs:=ks7) (λa ha=>?_) ?_⟩
 ·refine⟨_,_,rfl,rfl,true,_,rfl,rfl,rfl,λ_=>?_⟩;wtm_at "a";refine Gd (ds:=es) (d:=.tup [.str n,wi,.tup rs]) (by rw[ee];exact at0 _ _) ?_;wtm_at "a";exact⟨rfl,rfl⟩
 ·change WP (Aq (X7 (.str n))) μ _;wtm_at "a";refine DZ (es:=X7 (.str n)) (by rw[hX7];omega) ?_;wtm_at "a";refine DY 7 rfl ?_;wtm_at "a";refine DY 1 rfl ?_;wtm_at "a";refine Mr 1 rfl (by decide) (by rw[td];simp) (by rw[td];simp) ?_;wtm_at "a";refine D7 (by simp) ?_;wtm_at "a";refine A5 U6 ?_;wtm_at "a";refine⟨AAE rfl,K0 (f:=λt:D×D×D=>.tup [t.1,t.2.1,t.2.2]) (p:=λ_=>true) (F:=λt=>.tup [t.1,t.2.1,t.2.2,.tup ds,.tup es]) (xs:=badW) (λt ht=>?_) ?_⟩
  ·refine⟨_,_,rfl,rfl,true,_,rfl,rfl,rfl,λ_=>?_⟩;wtm_at "a";refine DZ (by simp) ?_;exact⟨rfl,rfl⟩
  ·change WP (Aq (badW.map λt=>.tup [t.1,t.2.1,t.2.2,.tup ds,.tup es])) μ _;refine HN (AAE rfl) ?_;refine D7 (AAE rfl) ?_;wtm_at "a";refine CB (Gr (ds:=Ge k s b ds es (.str n))) ?_;wtm_at "a";refine D6 (b:=(Ge k s b ds es (.str n)).length) hw (by rw[He];decide) (by rw[He];decide) (λr μ' h1 h2 _ _=>?_);refine HZ (ds:=Ge k s b ds es (.str n)) h1 h2 (λd hd=>?_);exact⟨_,_,rfl,q _ _ (K4 p rfl d hd)⟩
structure BadX(es:List D)(d:D):Prop where
 adm:Lw d
 wr:Ba (F6 d)=true
 bad:GZ d=false∨wrB (es.map B1) d=false
structure Nms(es:List D):Prop where
 ok:∀x∈es.map B1,GoodName x
 nob:("nobody" : Str)∉es.map B1
theorem BadX.refd{k s b:D}{ds es:List D}(p:Pt k s b ds es){d:D}(h:BadX es d)(i:Nat):Refd (.tup [k,s,b,.tup (ds.take i++[d]++ds.drop (i+1)),.tup es]):=by
 obtain⟨⟨k1,s1,b1,bs1,hs1,w1⟩,d1,d6,e2,e4,hx⟩:=p;have mem:∀{P:D->Prop},(∀x∈ds,P x)->P d->∀x∈ds.take i++[d]++ds.drop (i+1),P x:=by
  intro P h1 h2 x hx;rcases AAK.mp hx with hx|hx
  ·rcases AAK.mp hx with hx|hx
   ·exact h1 x (List.mem_of_mem_take hx)
   ·rw[AAL] at hx;subst hx;exact h2
  ·exact h1 x (List.mem_of_mem_drop hx)
 refine .top ⟨k1,s1,b1,SC (mem (bs1.2 ds rfl) h.adm),hs1,λ_ e=>by cases e;exact mem (w1 ds rfl) h.wr⟩ ?_;have e:ds.take i++[d]++ds.drop (i+1)=ds.take i++d::ds.drop (i+1):=by simp
 rcases h.bad with z|z
 ·refine P6 ?_;rw[DE,e,Fh z,Bool.false_and,Bool.and_false]
 ·exact XJ (by rw[e];exact Fh z)
noncomputable def Ip(n k s b w:D):List D:=
 [.lst [n,k,s,b,w],.tup [n,k,s,b],.tup [n,k,s,b,w,.int 0],.non,.tup [],n]++(badN.map λx=>.tup [x,k,s,b,w])++(badW.map λt=>.tup [n,t.1,t.2.1,t.2.2,w])++((badN++[D.str "nobody",D.tup [n,k,s,b,w]]).map λx=>.tup [n,k,s,b,x])
theorem W0{d:D}(h:Ba d=true)(h5:D4 d 5 5=false):Lw d:=⟨h,λn k s b w e=>by subst e;cases h5⟩
theorem BadX.no{es:List D}{d:D}(h:Ba d=true)(h5:D4 d 5 5=false)(hw:F6 d=.non):BadX es d:=⟨W0 h h5,by rw[hw];rfl,.inl (Ln h5)⟩
theorem W5{n k s b w:D}(h:Ba n=true)(hn:NmP n)(hk:Ba k=true)(hs:Ba s=true)(hb:Ba b=true):Lw (.tup [n,k,s,b,w]):=⟨rfl,λ_ _ _ _ _ e=>by cases e;exact⟨h,hn,hk,hs,hb⟩⟩
theorem Wv:∀x∈badN,∀y,x=.str y->¬GoodName y:=by
 intro x hx y e g;have:=(HW x hx).2.1;subst e;have z:=GP g;rw[show Ld y=false from this] at z;cases z
theorem Me{es:List D}(hes:Nms es){x k s b w:D}{nm:Str}(ha:Lw (.tup [.str nm,k,s,b,w]))(hw:Ba w=true):∀d∈Ip (.str nm) k s b w,BadX es d:=by
 obtain⟨a1,a2,a3,a4,a5⟩:=ha.2 _ _ _ _ _ rfl;unfold Ip;simp only[List.forall_mem_append];refine⟨⟨⟨?_,?_⟩,?_⟩,?_⟩
 ·simp only[AAs];exact⟨.no rfl rfl rfl,.no rfl rfl rfl,.no rfl rfl rfl,.no rfl rfl rfl,.no rfl rfl rfl,.no rfl rfl rfl,λ_ h=>nomatch h⟩
 ·intro d hd;obtain⟨t,ht,rfl⟩:=AAM.mp hd;obtain⟨t1,t2,t3⟩:=HW t ht;exact⟨W5 t1 (.of t3) a3 a4 a5,hw,.inl (by rw[G3,t2];rfl)⟩
 ·intro d hd;obtain⟨t,ht,rfl⟩:=AAM.mp hd;obtain⟨t1,t2,t3,t4⟩:=Nz t ht;exact⟨W5 a1 a2 t1 t2 t3,hw,.inl (by rw[G3,t4,Bool.and_false])⟩
 ·intro d hd;obtain⟨t,ht,rfl⟩:=AAM.mp hd;have key:Ba t=true/\∀y∈es.map B1,D.str y≠t:=by
   rcases AAK.mp ht with ht|ht
   ·exact⟨(HW t ht).1,λy hy e=>Wv t ht y e.symm (hes.ok y hy)⟩
   ·simp only[AAJ,List.not_mem_nil,or_false] at ht;rcases ht with rfl|rfl
    ·exact⟨rfl,λy hy e=>by cases e;exact hes.nob hy⟩
    ·exact⟨rfl,λy hy e=>nomatch e⟩
  refine⟨W5 a1 a2 a3 a4 a5,key.1,.inr ?_⟩;unfold wrB;rw[List.any_eq_false];intro z hz;obtain⟨y,hy,rfl⟩:=AAM.mp hz;have:=key.2 y hy;show ¬decide (D.str y=t)=true;rw[decide_eq_true_eq];exact this
theorem Io{n k s b w:D}:(Ip n k s b w).length=55:=rfl
theorem Kw{μ:Mh}{QD:D->Mh->Prop}{ds:List D}{r:Int}(h1:0<=r)(h2:r<ds.length)(q:∀d∈ds,QD d μ):WP (AV (.tup ds) (.int r)) μ QD:=by
 obtain⟨a,ha,e⟩:=Gm (f:=λd:D=>d) (xs:=ds) h1 h2;rw[List.map_id'] at e;exact Gd e (q a ha)
theorem Uu{μ:Mh}{QD:D->Mh->Prop}{k s b:D}{ds es:List D}{w:Nat}(hw:WellAt μ w)(p:Pt k s b ds es)(hes:Nms es)(hds:∀x∈ds,∃nm k s b w,x=.tup [.str nm,k,s,b,w])(q:∀d ν,Refd d->QD d ν):WP (Bv [.ref w,.tup [k,s,b,.tup ds,.tup es]]) μ QD:=by
 have d1:=p.d1;have d6:=p.d6;unfold Bv;refine Fa rfl ?_;unfold Br;refine BD ?_;refine CB (a:=(.next,[some (.ref w),some (.tup [k,s,b,.tup ds,.tup es]),some k,some s,some b,some (.tup ds),some (.tup es),none,none,none,none])) (by kernel_rfl) ?_;refine Ad ?_;wtm_at "a";refine D6 hw (by omega) (by omega) (λr μ1 h1 h2 hw1 _=>?_);obtain⟨i,rfl⟩:=Int.eq_ofNat_of_zero_le h1;wtm_at "a";refine Kw h1 h2 (λd hd=>?_);obtain⟨nm,k0,s0,b0,w0,rfl⟩:=hds d hd;have ad:=p.adm.bs1.2 ds rfl _ hd;have aw:=p.adm.w1 ds rfl _ hd;refine Ad ?_;refine BD ?_;refine CB (a:=(.next,[some (.ref w),some (.tup [k,s,b,.tup ds,.tup es]),some k,some s,some b,some (.tup ds),some (.tup es),some (.int i),some (.tup [.str nm,k0,s0,b0,w0]),some (.lst [.lst [.str nm,k0,s0,b0,w0],.tup [.str nm,k0,s0,b0],.tup [.str nm,k0,s0,b0,w0,.int 0],.non,.tup [],.str nm]),none])) (by kernel_rfl) ?_;refine Ad ?_;refine BD ?_;refine CB (a:=(.next,[some (.ref w),some (.tup [k,s,b,.tup ds,.tup es]),some k,some s,some b,some (.tup ds),some (.tup es),some (.int i),some (.tup [.str nm,k0,s0,b0,w0]),some (.lst ([.lst [.str nm,k0,s0,b0,w0],.tup [.str nm,k0,s0,b0],.tup [.str nm,k0,s0,b0,w0,.int 0],.non,.tup [],.str nm]++(badN.map λx=>.tup [x,k0,s0,b0,w0]))),none])) (by kernel_rfl) ?_;refine Ad ?_;refine BD ?_;refine CB (a:=(.next,[some (.ref w),some (.tup [k,s,b,.tup ds,.tup es]),some k,some s,some b,some (.tup ds),some (.tup es),some (.int i),some (.tup [.str nm,k0,s0,b0,w0]),some (.lst ([.lst [.str nm,k0,s0,b0,w0],.tup [.str nm,k0,s0,b0],.tup [.str nm,k0,s0,b0,w0,.int 0],.non,.tup [],.str nm]++(badN.map λx=>.tup [x,k0,s0,b0,w0])++(badW.map λt=>.tup [.str nm,t.1,t.2.1,t.2.2,w0]))),none])) (by kernel_rfl) ?_;refine Ad ?_;refine BD ?_;refine CB (a:=(.next,[some (.ref w),some (.tup [k,s,b,.tup ds,.tup es]),some k,some s,some b,some (.tup ds),some (.tup es),some (.int i),some (.tup [.str nm,k0,s0,b0,w0]),some (.lst (Ip (.str nm) k0 s0 b0 w0)),none])) (by kernel_rfl) ?_;wtm_at "a";refine CB Gr ?_;wtm_at "a";refine D6 (b:=(Ip (.str nm) k0 s0 b0 w0).length) hw1 (by rw[Io];decide) (by rw[Io];decide) (λr μ' h1 h2 _ _=>?_);refine HZ h1 h2 (λd hd=>?_);have bx:=Me (x:=.non) hes ad aw d hd;wtm_at "a";refine DY i rfl ?_;wtm_at "a";refine DZ (by simp;omega) ?_;wtm_at "a";refine JF (i+1) (by omega) (by omega) ?_;refine DZ (by simp;omega) ?_;wtm_at "a";exact⟨_,_,rfl,q _ _ (bx.refd p i)⟩
theorem ZD{ds:List D}{d:D}{i:Nat}{P:D->Prop}(h1:∀x∈ds,P x)(h2:P d):∀x∈ds.take i++[d]++ds.drop (i+1),P x:=by
 intro x hx;rcases AAK.mp hx with hx|hx
 ·rcases AAK.mp hx with hx|hx
  ·exact h1 x (List.mem_of_mem_take hx)
  ·rw[AAL] at hx;subst hx;exact h2
 ·exact h1 x (List.mem_of_mem_drop hx)
structure BadY(es:List D)(i:Nat)(d:D):Prop where
 adm:Kt d
 bad:Ev d=false∨(∃x∈es.take i,B1 x=B1 d)∨∃x∈es.drop (i+1),B1 x=B1 d
theorem BadY.refd{k s b:D}{ds es:List D}(p:Pt k s b ds es){d:D}{i:Nat}(h:BadY es i d):Refd (.tup [k,s,b,.tup ds,.tup (es.take i++[d]++es.drop (i+1))]):=by
 obtain⟨⟨k1,s1,b1,bs1,hs1,w1⟩,d1,d6,e2,e4,hx⟩:=p;refine .top ⟨k1,s1,b1,bs1,Lu (ZD (hs1.2 es rfl) h.adm),w1⟩ (LB ?_);have e:es.take i++[d]++es.drop (i+1)=es.take i++d::es.drop (i+1):=by simp
 rw[C6];rcases h.bad with z|z
 ·rw[e,Fh z,Bool.false_and,Bool.and_false]
 ·have:¬((es.take i++[d]++es.drop (i+1)).map B1).Nodup:=by
   rw[AAY,AAY];intro nd;rw[List.nodup_append,List.nodup_append] at nd;rcases z with ⟨x,hx,ex⟩|⟨x,hx,ex⟩
   ·exact nd.1.2.2 _ (AAM.mpr ⟨x,hx,ex⟩) _ (AAM.mpr ⟨d,by simp,rfl⟩) rfl
   ·exact nd.2.2 _ (AAK.mpr (.inr (AAM.mpr ⟨d,by simp,rfl⟩))) _ (AAM.mpr ⟨x,hx,ex⟩) rfl
  rw[AAO this,Bool.and_false,Bool.and_false]
theorem UT{es:List D}{i:Nat}(hi:i<es.length)(h2:2<=es.length):∃x,atI es ((i:Int)-1)=some x/\((x∈es.take i∨x∈es.drop (i+1))/\x∈es):=by
 by_cases h:i=0
 ·subst h;have hj:es.length-1<es.length:=by omega
  refine⟨es[es.length-1],?_,.inr ?_,List.getElem_mem hj⟩
  ·unfold atI ixN;rw[if_neg (by omega),if_pos (by omega)];show es[_]?=_;rw[show ((((0:Nat):Int)-1)+(es.length:Int)).toNat=es.length-1 from by omega,AAt hj]
  ·rw[List.mem_iff_getElem];exact⟨es.length-2,by rw[List.length_drop];omega,by rw[List.getElem_drop];congr 1;omega⟩
 ·have hj:i-1<es.length:=by omega
  refine⟨es[i-1],?_,.inl ?_,List.getElem_mem hj⟩
  ·unfold atI ixN;rw[if_pos (by omega),if_pos (by omega)];show es[_]?=_;rw[show ((i:Int)-1).toNat=i-1 from by omega,AAt hj]
  ·rw[List.mem_iff_getElem];exact⟨i-1,by rw[List.length_take];omega,by rw[List.getElem_take]⟩
noncomputable def J61:List D:=List.replicate 61 (.tup [.str "jump",.int 0])
noncomputable def badT:List D:=[.bl true,.bl false,.non,.str "9",.int (10 ^ 30),.lst [.int 3]]
theorem US:∀t∈badT,Ba t=true/\DS t 0 400=false:=by decide +kernel
noncomputable def IY(n w:D)(rs:List D):List D:=
 [.lst [n,w,.tup rs],.tup [n,w],.tup [n,w,.tup rs,.int 0],.non,.tup [],n,.tup [n,w,.lst rs]]++[.tup [n,w,.non],.tup [n,w,.tup J61],.tup [n,.int 401,.tup rs],.tup [n,.int (-1),.tup rs]]++(badT.map λt=>.tup [n,t,.tup rs])++(badN.map λx=>.tup [x,w,.tup rs])
theorem UV{d:D}(h:Ba d=true)(h5:D4 d 3 3=false):Kt d:=⟨h,λn w r e=>by subst e;cases h5⟩
theorem BadY.no{es:List D}{i:Nat}{d:D}(h:Ba d=true)(h5:D4 d 3 3=false):BadY es i d:=⟨UV h h5,.inl (JX h5)⟩
theorem Lv{n w r:D}(h:Ba n=true)(hn:NmP n)(hw:Ba w=true)(hr:Ba r=true):Kt (.tup [n,w,r]):=⟨rfl,λ_ _ _ e=>by cases e;exact⟨h,hn,hw,hr⟩⟩
theorem MZ{es:List D}{i:Nat}{w:D}{rs:List D}{nm:Str}(ha:Kt (.tup [.str nm,w,.tup rs])):∀d∈IY (.str nm) w rs,BadY es i d:=by
 obtain⟨a1,a2,a3,a4⟩:=ha.2 _ _ _ rfl;unfold IY;simp only[List.forall_mem_append];refine⟨⟨⟨?_,?_⟩,?_⟩,?_⟩
 ·simp only[AAs];exact⟨.no rfl rfl,.no rfl rfl,.no rfl rfl,.no rfl rfl,.no rfl rfl,.no rfl rfl,⟨Lv a1 a2 a3 rfl,.inl (by rw[Cc,show D4 (.lst rs) 0 60=false from rfl,Bool.and_false,Bool.and_false])⟩,λ_ h=>nomatch h⟩
 ·simp only[AAs];exact⟨⟨Lv a1 a2 a3 rfl,.inl (by rw[Cc,show D4 .non 0 60=false from rfl,Bool.and_false,Bool.and_false])⟩,⟨Lv a1 a2 a3 rfl,.inl (by rw[Cc,show D4 (.tup J61) 0 60=false from by decide +kernel,Bool.and_false,Bool.and_false])⟩,⟨Lv a1 a2 rfl a4,.inl (by rw[Cc,show DS (.int 401) 0 400=false from rfl,Bool.false_and,Bool.and_false])⟩,⟨Lv a1 a2 rfl a4,.inl (by rw[Cc,show DS (.int (-1)) 0 400=false from rfl,Bool.false_and,Bool.and_false])⟩,λ_ h=>nomatch h⟩
 ·intro d hd;obtain⟨t,ht,rfl⟩:=AAM.mp hd;obtain⟨t1,t2⟩:=US t ht;exact⟨Lv a1 a2 t1 a4,.inl (by rw[Cc,t2,Bool.false_and,Bool.and_false])⟩
 ·intro d hd;obtain⟨t,ht,rfl⟩:=AAM.mp hd;obtain⟨t1,t2,t3⟩:=HW t ht;exact⟨Lv t1 (.of t3) a3 a4,.inl (by rw[Cc,t2];rfl)⟩
theorem F1{n w:D}{rs:List D}:(IY n w rs).length=30:=rfl
theorem SK{μ:Mh}{QD:D->Mh->Prop}{k s b:D}{ds es:List D}{w:Nat}(hw:WellAt μ w)(p:Pt k s b ds es)(q:∀d ν,Refd d->QD d ν):WP (Bk [.ref w,.tup [k,s,b,.tup ds,.tup es]]) μ QD:=by
 have e2:=p.e2;have e4:=p.e4;unfold Bk;refine Fa rfl ?_;unfold Bi;wtm_at "a";refine D6 hw (by omega) (by omega) (λr μ1 h1 h2 hw1 _=>?_);obtain⟨i,rfl⟩:=Int.eq_ofNat_of_zero_le h1;refine Ad ?_;refine BD ?_;refine Pp ?_;wtm_at "a";refine Kw h1 h2 (λd hd=>?_);obtain⟨nm,wi,rs,rfl⟩:=p.hn d hd;have ad:=p.adm.hs1.2 es rfl _ hd;refine CB (a:=[some (.ref w),some (.tup [k,s,b,.tup ds,.tup es]),some (.int i),some (.str nm),some wi,some (.tup rs),none,none]) (by kernel_rfl) ?_;refine Ad ?_;refine BD ?_;refine CB (a:=(.next,[some (.ref w),some (.tup [k,s,b,.tup ds,.tup es]),some (.int i),some (.str nm),some wi,some (.tup rs),some (.lst [.lst [.str nm,wi,.tup rs],.tup [.str nm,wi],.tup [.str nm,wi,.tup rs,.int 0],.non,.tup [],.str nm,.tup [.str nm,wi,.lst rs]]),none])) (by kernel_rfl) ?_;refine Ad ?_;refine BD ?_;refine CB (a:=(.next,[some (.ref w),some (.tup [k,s,b,.tup ds,.tup es]),some (.int i),some (.str nm),some wi,some (.tup rs),some (.lst ([.lst [.str nm,wi,.tup rs],.tup [.str nm,wi],.tup [.str nm,wi,.tup rs,.int 0],.non,.tup [],.str nm,.tup [.str nm,wi,.lst rs]]++[.tup [.str nm,wi,.non],.tup [.str nm,wi,.tup J61],.tup [.str nm,.int 401,.tup rs],.tup [.str nm,.int (-1),.tup rs]])),none])) (by kernel_rfl) ?_;refine Ad ?_;refine BD ?_;refine CB (a:=(.next,[some (.ref w),some (.tup [k,s,b,.tup ds,.tup es]),some (.int i),some (.str nm),some wi,some (.tup rs),some (.lst ([.lst [.str nm,wi,.tup rs],.tup [.str nm,wi],.tup [.str nm,wi,.tup rs,.int 0],.non,.tup [],.str nm,.tup [.str nm,wi,.lst rs]]++[.tup [.str nm,wi,.non],.tup [.str nm,wi,.tup J61],.tup [.str nm,.int 401,.tup rs],.tup [.str nm,.int (-1),.tup rs]]++(badT.map λt=>.tup [.str nm,t,.tup rs]))),none])) (by kernel_rfl) ?_;refine Ad ?_;refine BD ?_;refine Db ?_;refine JG ?_;refine CB (a:=.lst (IY (.str nm) wi rs)) (by kernel_rfl) ?_;obtain⟨y,ey,hy⟩:=UT (es:=es) (i:=i) (by omega) e2;obtain⟨ny,wy,ry,rfl⟩:=p.hn y hy.2;have ay:=p.adm.hs1.2 es rfl _ hy.2;obtain⟨y1,y2,y3,y4⟩:=ay.2 _ _ _ rfl;obtain⟨a1,a2,a3,a4⟩:=ad.2 _ _ _ rfl;wtm_at "a";refine Gd ey ?_;wtm_at "a";refine D7 (by rw[F1];simp) ?_;wtm_at "a";refine CB Gr ?_;wtm_at "a";refine D6 (b:=(IY (.str nm) wi rs++[D.tup [.str ny,wi,.tup rs]]).length) hw1 (by rw[AAH,F1];exact(by decide:(0:Int)<31)) (by rw[AAH,F1];exact(by decide:(31:Int)<1073741824)) (λr μ' h1 h2 _ _=>?_);refine HZ h1 h2 (λd hd=>?_);have bx:BadY es i d:=by
  rcases AAK.mp hd with hd|hd
  ·exact MZ ad d hd
  ·rw[AAL] at hd;subst hd;refine⟨Lv y1 y2 a3 a4,.inr ?_⟩;rcases hy.1 with z|z
   ·exact .inl ⟨_,z,rfl⟩
   ·exact .inr ⟨_,z,rfl⟩
 wtm_at "a";refine DY 4 rfl ?_;wtm_at "a";refine DY i rfl ?_;wtm_at "a";refine DZ (by simp;omega) ?_;wtm_at "a";refine JF (i+1) (by omega) (by omega) ?_;refine DZ (by simp;omega) ?_;wtm_at "a";refine DZ (by simp) ?_;exact⟨_,_,rfl,q _ _ (bx.refd p)⟩
section
variable{μ:Mh}{QD:D->Mh->Prop}{QL:List D->Mh->Prop}{d:D}{ds:List D}{w:Nat}{τ:Sl}
theorem HY{i:Int}(k:Nat)(h:i=(k:Int))(q:QD (.lst (ds.take k)) μ):WP (IE none (some i) (.lst ds)) μ QD:=by
 subst h;exact⟨_,μ,rfl,by rw[Rp];exact q⟩
theorem Lx{i:Int}(k:Nat)(h:i=(k:Int))(hk:k<=ds.length)(q:QD (.lst (ds.drop k)) μ):WP (IE (some i) none (.lst ds)) μ QD:=by
 subst h;exact⟨_,μ,rfl,by rw[Lg k hk];exact q⟩
theorem B5{b:Int}{g:Mh}(hw:WellAt μ w)(hb:0<b)(hb2:b<1073741824)(q:∀r μ',0<=r->r<b->WellAt μ' w->Upd w μ μ'->μ'.length=μ.length->QD (.int r) (μ'++g)):WP (BA [.ref w,.int b]) (μ++g) QD:=by
 obtain⟨r,μ',e,h1,h2,u⟩:=SZ (g:=g) hw hb hb2;exact⟨_,_,e,q r μ' h1 h2 (u.well hw.lt) u u.len⟩
theorem Pq{N ps:Nat}{mb:Sl->M (Fl×Sl)}(hl:ds.length=ps)(h:WP (mb (Ay N ds)) μ λr μ2=>∃d τ2 μ1 g,r=(.rt d,τ2)/\μ2=μ1++g/\Upd w μ μ1/\Cl μ.length d/\QD d μ1):WP (BG .drop N ps mb ds) μ QD:=by
 obtain⟨r,μ2,e,d,τ2,μ1,g,rfl,rfl,u,c,q⟩:=h;exact⟨d,μ1,Fg e hl u c,q⟩
theorem SL{ra:Sl->M (List D)}(h:WP (ra τ) μ λas μ1=>∃ds,as=[.lst ds]/\QL (D3 0 ds) μ1):WP (NW ra τ) μ QL:=by
 unfold NW;refine Af (Aa h λas μ1 ⟨ds,e,q⟩=>?_);subst e;exact Af ⟨ds,μ1,rfl,BL q⟩
theorem SH{bs:List Bx}{nm:Str}{rn:List Str}{many:Int}{k:Nat}{ex:Mh}{L:Nat}(hw:WellAt μ w)(hL:μ.length=L)(hbs:∀b∈bs,GoodName b.nm)(hbl:bs.length<=6)(hrn:∀y∈rn,GoodName y)(hne:rn≠[])(hrl:rn.length<=100)(hm:0<=many)(hm2:many<=60)
  (q:∀(rs:List Rw) (μ':Mh),rs.length=ds.length->(∀r∈rs,r.Drawn (own bs nm) (bs.map Bx.nm) rn (k==0) many)->WellAt μ' w->Upd w μ μ'->μ'.length=L->QL (rs.map Rw.toD) (μ'++(.lst (bs.map Bx.toD)::ex))) :
  WP (CW (AN 0) Bz Y5 [none,some (.ref L),some (.int k),some (.int many),some (.lst ((own bs nm).map D.str)),some (.lst (rn.map D.str)),some (.ref w)] ds []) (μ++(.lst (bs.map Bx.toD)::ex)) QL:=by
 subst hL;refine HP (I:=λrest ys ν=>∃(rs:List Rw) (μ':Mh),ys=rs.map Rw.toD/\ν=μ'++(.lst (bs.map Bx.toD)::ex)/\rs.length+rest.length=ds.length/\(∀r∈rs,r.Drawn (own bs nm) (bs.map Bx.nm) rn (k==0) many)/\WellAt μ' w/\Upd w μ μ'/\μ'.length=μ.length) ?_ ?_ ⟨([]:List Rw),μ,rfl,rfl,by simp,by simp,hw,hw.refl,rfl⟩
 ·rintro x xs ys ν ⟨rs,μ1,rfl,rfl,hl,hd,hw1,u1,l1⟩;refine⟨_,_,rfl,true,_,rfl,λ_=>?_,λe=>nomatch e⟩;have ho:∀x∈own bs nm,GoodName x:=λx hx=>by
   unfold own at hx;rw[AAM] at hx;obtain⟨b,hb,rfl⟩:=hx;exact hbs b (List.mem_filter.mp hb).1
  have hb:∀x∈bs.map Bx.nm,GoodName x:=λx hx=>by
   rw[AAM] at hx;obtain⟨b,hb,rfl⟩:=hx;exact hbs b hb
  have lo:(own bs nm).length<=100:=by
   unfold own;rw[AAG];exact AAr (List.length_filter_le _ _) (by omega)
  obtain⟨r,ν,e,dr,v⟩:=XH (own:=own bs nm) (bxs:=bs.map Bx.nm) (ns:=rn) (many:=many) (wr:=k==0) (hw1.app (g:=.lst (bs.map Bx.toD)::ex)) hm hm2 ho hb hrn hne lo (by rw[AAG];omega) hrl;obtain⟨μ2,u2,rfl⟩:=v.app hw1.lt;have hk:(((k:Nat):Int)==0)=(k==0):=by
   by_cases z:k=0
   ·subst z;rfl
   ·rw[AAe.mpr z,AAe.mpr (by omega)]
  have ht:(μ1++(MO.lst (bs.map Bx.toD)::ex))[μ.length]?=some (.lst (bs.map Bx.toD)):=by rw[←l1,AAS (AAF _)];simp
  refine EY ?_;refine CD ?_;refine DM rfl ?_;refine CD ?_;refine DM rfl ?_;refine CD ?_;refine CB (Md (by omega) rfl ht) ?_;refine CD ?_;refine DM rfl ?_;refine CD ?_;refine DM rfl ?_;refine CD ?_;refine JG ?_;refine DM rfl ?_;refine SS ?_;refine Hb ?_;rw[hk];refine F7 ?_;refine A5 e ?_;refine⟨rs++[r],μ2,by simp,rfl,by simp at hl ⊢;omega,λq hq=>?_,u2.well hw1.lt,u1.trans u2,by rw[u2.len,l1]⟩;rcases AAK.mp hq with z|z
  ·exact hd q z
  ·rw[AAL] at z;subst z;exact dr
 ·rintro ys ν ⟨rs,μ1,rfl,rfl,hl,hd,hw1,u1,l1⟩;exact q rs μ1 (by simpa using hl) hd hw1 u1 l1
end
noncomputable def n12:List Str:=Hn "abcdefgh"
theorem WE(t:Nat):N1 (n12.drop t++n12.take t):=Tn (x := "abcdefgh") (by decide +kernel) YY (Hw t)
theorem Tp(t:Nat):("nobody" : Str)∉n12.drop t++n12.take t:=by
 intro h;have:("nobody" : Str)∈n12:=(Hw (sm:=n12) t).mem_iff.mp h;exact absurd this (by decide +kernel)
theorem To(t:Nat):("nobox" : Str)∉n12.drop t++n12.take t:=by
 intro h;have:("nobox" : Str)∈n12:=(Hw (sm:=n12) t).mem_iff.mp h;exact absurd this (by decide +kernel)
noncomputable def r5:List Str:=["x", "abcdefgh", "tell", "vv", "if"]
theorem Xm:∀y∈r5,GoodName y/\y∉(["v", "not", "and", "or"]:List Str):=by
 have h:∀y∈r5,((1<=y.length/\y.length<=8)/\EE y)/\y∉(["v", "not", "and", "or"]:List Str):=by unfold EE;decide +kernel
 exact λy hy=>⟨⟨(h y hy).1.1.1,(h y hy).1.1.2,(h y hy).1.2⟩,(h y hy).2⟩
theorem N7{μ:Mh}{QD:D->Mh->Prop}{w:Nat}(hw:WellAt μ w)(q:∀(m:Mk) (ν:Mh),m.Ok->("nobody" : Str)∉m.hs.map Hd.nm->("nobox" : Str)∉m.bs.map Bx.nm->QD m.toD ν):WP (K3.f_Lmaking [.ref w]) μ QD:=by
 have hz:=szl;unfold K3.f_Lmaking;refine Pq (w:=w) rfl ?_;unfold K3.m_Lmaking;wtm_at "a";refine D6 hw (by decide) (by decide) (λt μ1 a1 b1 w1 u1=>?_);obtain⟨t,rfl⟩:=Int.eq_ofNat_of_zero_le a1;wtm_at "a";refine Lx (ds:=n12.map D.str) t rfl (by show t<=12;omega) ?_;wtm_at "a";refine HY (ds:=n12.map D.str) t rfl ?_;refine D7 (by simp[n12,Hn,base11];omega) ?_;rw[show (n12.map D.str).drop t++(n12.map D.str).take t=(n12.drop t++n12.take t).map D.str from by simp[List.map_drop,List.map_take]];have N:=WE t;have nob:=Tp t;have nox:=To t;generalize n12.drop t++n12.take t=sm at N nob nox;wtm_at "a";refine D6 w1 (by decide) (by decide) (λc μ2 a2 b2 w2 u2=>?_);obtain⟨c,rfl⟩:=Int.eq_ofNat_of_zero_le a2;wtm_at "a";refine HY (2+c) (by omega) ?_;rw[←List.map_take];have nsl:(sm.take (2+c)).length=2+c:=by rw[List.length_take,N.len];omega
 have nsg:∀y∈sm.take (2+c),GoodName y:=λy hy=>N.good y (List.mem_of_mem_take hy);have nsd:(sm.take (2+c)).Nodup:=N.nd.sublist (List.take_sublist _ _);have nsb:("nobody" : Str)∉sm.take (2+c):=λh=>nob (List.mem_of_mem_take h);generalize hns:sm.take (2+c)=ns at nsl nsg nsd nsb;have l2:μ2.length=μ.length:=by rw[u2.len,u1.len]
 have u2:=u1.trans u2;refine Ad ?_;refine BD ?_;refine Db ?_;refine EY ?_;refine F7 ?_;refine Ju (AAi _) ?_;rw[l2];wtm_at "a";refine B5 w2 (by decide) (by decide) (λr μ3 a3 b3 w3 u3 l3=>?_);obtain⟨r,rfl⟩:=Int.eq_ofNat_of_zero_le a3;have l3:μ3.length=μ.length:=by rw[l3,l2]
 have u3:=u2.trans u3;refine F7 ?_;refine Mx rfl (by omega) ?_;refine U1 (I:=λk τ ν=>∃(bs:List Bx) (μ4:Mh) (o5 o6 o7:Option D),ν=μ4++[.lst (bs.map Bx.toD)]/\Upd w μ μ4/\WellAt μ4 w/\μ4.length=μ.length/\UZ sm ns k bs/\τ=[some (.ref w),some (.lst (sm.map D.str)),some (.int t),some (.lst (ns.map D.str)),some (.ref μ.length),o5,o6,o7,none,none,none,none,none,none,none]) ?_ ?_ ⟨[],μ3,none,none,none,rfl,u3,w3,l3,⟨by simp,by simp,by simp⟩,rfl⟩
 ·rintro k τ ν hk ⟨bs,μ4,o5,o6,o7,rfl,u4,w4,l4,B,rfl⟩;have lbs:bs.length<=6:=by
   have:=congrArg List.length B.nms;rw[AAG,List.length_take] at this;omega
  refine Ky ?_;wtm_at "a";refine B5 w4 (by decide) (by decide) (λr1 μ5 a5 b5 w5 u5 l5=>?_);wtm_at "a";refine B5 w5 (by decide) (by decide) (λr2 μ6 a6 b6 w6 u6 l6=>?_);obtain⟨kd,hkd,ek⟩:=Nd a6 b6;refine FA ek ?_;refine Ad ?_;refine Jv ?_;obtain⟨x,ex,hx,ei⟩:=VM (sm:=sm) (k:=k) N.len (by omega);refine Mw (by rw[l6,l5,l4];rfl) (by rw[AAG];omega) ?_;wtm_at "a";refine FA ei ?_;wtm_at "a";refine B5 w6 (by omega) (by omega) (λr3 μ7 a7 b7 w7 u7 l7=>?_);wtm_at "a";refine CB Gr ?_;wtm_at "a";refine B5 w7 (by rw[AAG];omega) (by rw[AAG];omega) (λr4 μ8 a8 b8 w8 u8 l8=>?_);rw[AAG] at b8;obtain⟨wr,hwr,ew⟩:=Gm (f:=D.str) (xs:=ns) a8 b8;refine FA ew ?_;wtm_at "a";refine⟨μ8,(Bx.mk x kd (2+r1) r3 wr).toD,rfl,rfl,by omega,?_⟩;refine Hc ?_;refine⟨bs++[⟨x,kd,2+r1,r3,wr⟩],μ8,_,_,_,by simp,u4.trans (u5.trans (u6.trans (u7.trans u8))),w8,by omega,⟨?_,?_,?_⟩,rfl⟩
  ·rw[AAY,B.nms,List.take_add_one,ex];rfl
  ·intro b hb;rcases AAK.mp hb with z|z
   ·exact B.wor b z
   ·simp at z;subst z;exact⟨hkd,by show 2<=2+r1;omega,by show 2+r1<=10;omega,a7,by show r3<=2+r1-1;omega⟩
  ·intro b hb;rcases AAK.mp hb with z|z
   ·exact B.wri b z
   ·simp at z;subst z;exact hwr
 ·rintro τ ν ⟨bs,μ4,o5,o6,o7,rfl,u4,w4,l4,B,rfl⟩;have bl:bs.length<=6:=by
   have:=congrArg List.length B.nms;rw[AAG,List.length_take] at this;omega
  have bnd':(bs.map Bx.nm).Nodup:=by
   rw[B.nms];exact((List.reverse_perm sm).nodup_iff.mpr N.nd).sublist (List.take_sublist _ _)
  have bg:∀b∈bs,GoodName b.nm:=λb hb=>by
   have:b.nm∈sm.reverse.take r:=by rw[←B.nms];exact AAM.mpr ⟨b,hb,rfl⟩
   exact N.good _ (List.mem_reverse.mp (List.mem_of_mem_take this))
  have bw:∀b∈bs,PyData.strOk b.wr=true:=λb hb=>(nsg _ (B.wri b hb)).ok;refine Ad ?_;refine BD ?_;refine Db ?_;refine EY ?_;refine F7 ?_;refine Ju (AAi _) ?_;rw[AAH,l4,AAk];wtm_at "a";refine CB Gr ?_;wtm_at "a";refine U0 (.inl (by omega)) ?_;wtm_at "a";have lns:((ns.map D.str).length:Int)=2+c:=by rw[AAG];omega
  refine B5 (g:=[.lst (bs.map Bx.toD),.lst []]) w4 (by omega) (by omega) (λlg μ5 a5 b5 w5 u5 l5=>?_);have l5:μ5.length=μ.length:=by omega
  have u5:=u4.trans u5;refine Ad ?_;refine BD ?_;refine L0 ?_;refine SL ?_;wtm_at "a";refine⟨_,rfl,?_⟩;refine FB (I:=λrest τ ν=>∃(hs:List Hd) (rem:List Str) (μ6:Mh) (o5 o10 o11 o12 o13 o14:Option D),rest=D3 hs.length (rem.map D.str)/\ns=hs.map Hd.nm++rem/\ν=μ6++[.lst (bs.map Bx.toD),.lst (hs.map Hd.toD)]/\Upd w μ μ6/\WellAt μ6 w/\μ6.length=μ.length/\(∀(i:Nat) (h:Hd),hs[i]?=some h->XA bs i h)/\τ=[some (.ref w),some (.lst (sm.map D.str)),some (.int t),some (.lst (ns.map D.str)),some (.ref μ.length),o5,o6,o7,some (.ref (μ.length+1)),some (.int lg),o10,o11,o12,o13,o14]) ?_ ?_ ⟨[],ns,μ5,o5,none,none,none,none,none,rfl,rfl,rfl,u5,w5,l5,by simp,rfl⟩
  ·rintro x xs τ ν ⟨hs,rem,μ6,o5,o10,o11,o12,o13,o14,er,en,rfl,u6,w6,l6,H,rfl⟩;cases rem with
   |nil=>cases er
   |cons nm rem=>
    have hx:x=.tup [.int hs.length,.str nm]/\xs=D3 (hs.length+1) (rem.map D.str):=by
     have:=List.cons.inj er;exact⟨this.1,this.2⟩
    obtain⟨rfl,rfl⟩:=hx;have gnm:GoodName nm:=nsg nm (by rw[en];simp);have hsl:hs.length<4:=by
     have:=congrArg List.length en;rw[nsl,AAH,AAG,AAI] at this;omega
    refine Po ?_;wtm_at "a";refine B5 w6 (by decide) (by decide) (λr1 μ7 a7 b7 w7 u7 l7=>?_);have l7:μ7.length=μ.length:=by omega
    obtain⟨m0,hm0,hm60,em⟩:=Tr a7 b7;refine FA em ?_;refine Ad ?_;refine BD ?_;refine Aa (Q:=λr ν=>∃many:Nat,many<=60/\ν=μ7++[.lst (bs.map Bx.toD),.lst (hs.map Hd.toD)]/\r=(Fl.next,[some (.ref w),some (.lst (sm.map D.str)),some (.int t),some (.lst (ns.map D.str)),some (.ref μ.length),some (.int hs.length),o6,o7,some (.ref (μ.length+1)),some (.int lg),some (.str nm),some (.int many),o12,o13,o14])) ?_ ?_
    ·refine Ha ?_;refine HM ?_;refine JG ?_;refine DM rfl ?_;refine DM rfl ?_;refine Hb ?_;refine F8 ?_;refine L1 (λ_=>?_) (λ_=>?_)
     ·wtm_at "a";exact⟨60,by omega,rfl,rfl⟩
     ·wtm_at "a";obtain⟨m0,rfl⟩:=Int.eq_ofNat_of_zero_le hm0;exact⟨m0,by omega,rfl,rfl⟩
    ·rintro _ _ ⟨many,hmany,rfl,rfl⟩;refine Ad ?_;refine BD ?_;refine Db ?_;have ht:(μ7++[MO.lst (bs.map Bx.toD),.lst (hs.map Hd.toD)])[μ.length]?=some (.lst (bs.map Bx.toD)):=by rw[←l7,AAS (AAF _)];simp
     refine CB (a:=.lst ((own bs nm).map D.str)) (HR (ds:=bs.map Bx.toD) (RD (n:=μ.length) rfl ht) (by rw[AAG];omega) (Q0 gnm.ok bs [] bw) (C1 (by rw[List.nil_append,AAG];unfold own;rw[AAG];exact AAr (List.length_filter_le _ _) (by omega)))) ?_;wtm_at "a";refine B5 w7 (by decide) (by decide) (λr2 μ8 a8 b8 w8 u8 l8=>?_);have l8:μ8.length=μ.length:=by omega
     obtain⟨r2,rfl⟩:=Int.eq_ofNat_of_zero_le a8;wtm_at "a";refine HY (ds:=r5.map D.str) (1+r2) (by omega) ?_;rw[←List.map_take];have rl:(r5.take (1+r2)).length=1+r2:=by rw[List.length_take,show r5.length=5 from rfl];omega
     have rg:∀y∈r5.take (1+r2),GoodName y/\y∉(["v", "not", "and", "or"]:List Str):=λy hy=>Xm y (List.mem_of_mem_take hy);generalize r5.take (1+r2)=rn at rl rg;refine Ad ?_;refine BD ?_;refine Db ?_;refine Mv ?_;refine Mu ?_;wtm_at "a";refine Mx rfl (by omega) ?_;refine⟨by simp;omega,?_⟩;refine SH (bs:=bs) (nm:=nm) (rn:=rn) (many:=many) (k:=hs.length) w8 l8 bg bl (λy hy=>(rg y hy).1) (by intro z;rw[z] at rl;simp at rl;omega) (by omega) (by omega) (by omega) (λrs μ9 lr hd w9 u9 l9=>?_);have lr:rs.length=many:=by simpa using lr
     refine HN (by rw[AAG];omega) ?_;refine Ad ?_;refine Jv ?_;rw[show μ9++[MO.lst (bs.map Bx.toD),.lst (hs.map Hd.toD)]=(μ9++[MO.lst (bs.map Bx.toD)])++[.lst (hs.map Hd.toD)] from by simp];refine Mw (by rw[AAH,l9];rfl) (by rw[AAG];omega) ?_;wtm_at "a";rw[AAk];refine B5 w9 (by decide) (by decide) (λr5' μa aa ba wa ua la=>?_);obtain⟨wi,hwi,hwi4,ew⟩:=OB aa ba;refine FA ew ?_;wtm_at "a";refine⟨μa++[.lst (bs.map Bx.toD)],(Hd.mk nm wi rs).toD,rfl,by simp,by simp;omega,?_⟩;refine Hc ?_;refine⟨hs++[⟨nm,wi,rs⟩],rem,μa,_,_,_,_,_,_,by simp,by rw[en];simp,by simp,u6.trans (u7.trans (u8.trans (u9.trans ua))),wa,by omega,?_,rfl⟩;intro i h e;by_cases hi:i<hs.length
     ·rw[AAT hi] at e;exact H i h e
     ·rw[AAS (by omega)] at e;have hi0:i-hs.length=0:=by
       by_cases z:i-hs.length=0
       ·exact z
       ·rw[List.getElem?_eq_none (by simp;omega)] at e;cases e
      rw[hi0] at e;cases e;have:i=hs.length:=by omega
      subst this;exact⟨hwi,hwi4,by show rs.length<=60;omega,λr hr=>by show r.Ok _ _ _ (rs.length:Int);rw[lr];exact Rl bnd' rg (hd r hr)⟩
  ·rintro τ ν ⟨hs,rem,μ6,o5,o10,o11,o12,o13,o14,er,en,rfl,u6,w6,l6,H,rfl⟩;cases rem with
   |cons nm rem=>cases er
   |nil=>
    rw[AAZ] at en;have hsl:hs.length=2+c:=by
     have:=congrArg List.length en;rw[nsl,AAG] at this;omega
    wtm_at "a";refine B5 w6 (by decide) (by decide) (λr6 μ7 a7 b7 w7 u7 l7=>?_);wtm_at "a";refine B5 w7 (by decide) (by decide) (λr7 μ8 a8 b8 w8 u8 l8=>?_);obtain⟨kd,hkd,ek⟩:=Nd a8 b8;refine FA ek ?_;wtm_at "a";refine B5 w8 (by omega) (by omega) (λr8 μ9 a9 b9 w9 u9 l9=>?_);have l9:μ9.length=μ.length:=by omega
    wtm_at "a";refine Mt (ds:=bs.map Bx.toD) (by rw[←l9,AAS (AAF _)];simp) ?_;wtm_at "a";refine Mt (ds:=hs.map Hd.toD) (by rw[←l9,AAS (by omega)];simp) ?_;wtm_at "a";refine⟨_,_,μ9,_,rfl,rfl,u6.trans (u7.trans (u8.trans u9)),Mk.cl ⟨kd,2+r6,r8,bs,hs⟩,?_⟩;refine q ⟨kd,2+r6,r8,bs,hs⟩ _ ?_ (by rw[←en];exact nsb) (by show _∉bs.map Bx.nm;rw[B.nms];exact λz=>nox (List.mem_reverse.mp (List.mem_of_mem_take z)));refine⟨⟨hkd,by show 2<=2+r6;omega,by show 2+r6<=10;omega,a9,by show r8<=2+r6-1;omega⟩,λb hb=>⟨bg b hb,B.wor b hb⟩,bl,bnd',λh hh=>?_,by show 2<=hs.length;omega,by show hs.length<=4;omega,by show (hs.map Hd.nm).Nodup;rw[←en];exact nsd,λb hb=>?_,λi h e=>(H i h e).rows⟩
    ·obtain⟨i,e⟩:=List.mem_iff_getElem?.mp hh;have z:=H i h e;exact⟨nsg _ (by rw[en];exact AAM.mpr ⟨h,hh,rfl⟩),z.lo,z.hi,z.most⟩
    ·show b.wr∈hs.map Hd.nm;rw[←en];exact B.wri b hb
section
variable{μ:Mh}{QD:D->Mh->Prop}
theorem Sa:∀ns:List Int,∃c:Int,Ck [.scr ns,.int 1] μ=some (.int c,μ)
 |[]=>by
  have l:Bs [.scr []] μ=some (.int 0,μ):=rfl;exact⟨0,Ah (g:=[]) (τ2:=_) (by rw[AAZ];unfold B3;wtm_at "b") rfl (by unfold Cl;trivial)⟩
 |[c]=>by
  have l:Bs [.scr [c]] μ=some (.int 1,μ):=rfl;exact⟨0,Ah (g:=[]) (τ2:=_) (by rw[AAZ];unfold B3;wtm_at "b") rfl (by unfold Cl;trivial)⟩
 |b::c::ns=>by
  have l:Bs [.scr (b::c::ns)] μ=some (.int ((((b::c::ns).map D.int).length:Nat):Int),μ):=rfl;have h0:(1:Int)<((((b::c::ns).map D.int).length:Nat):Int):=by simp;omega
  have i:AV (.scr (b::c::ns)) (.int 1) μ=some (.int c,μ):=by
   show bnd (Bw (.scr (b::c::ns))) (λds=>ixD ds 1) μ=_;rw[AM (show Bw (.scr (b::c::ns)) μ=some ((b::c::ns).map D.int,μ) from rfl)];unfold ixD;rw[show atI ((b::c::ns).map D.int) 1=some (.int c) from by
    unfold atI ixN;rw[if_pos (by decide),if_pos h0];rfl]
   rfl
  exact⟨c,Ah (g:=[]) (τ2:=_) (by rw[AAZ];unfold B3;wtm_at "b") rfl (by unfold Cl;trivial)⟩
theorem Pg{ns:List Int}(q:∀c,QD (.int c) μ):WP (Ck [.scr ns,.int 0]) μ QD:=by
 obtain⟨c,e⟩:=U5 (μ:=μ) ns;exact⟨_,μ,e,q c⟩
theorem Pf{ns:List Int}(q:∀c,QD (.int c) μ):WP (Ck [.scr ns,.int 1]) μ QD:=by
 obtain⟨c,e⟩:=Sa (μ:=μ) ns;exact⟨_,μ,e,q c⟩
theorem Mp{c:Int}(q:∀a m:Int,0<=a->WellAt (μ++[.lst [.int a,.int m,.int 0]]) μ.length->QD (.ref μ.length) (μ++[.lst [.int a,.int m,.int 0]])):WP (GS [.int c]) μ QD:=by
 obtain⟨a,m,h,e⟩:=U3 (c:=c) (μ:=μ);exact⟨_,_,e,q a m h ⟨a,m,0,List.getElem?_concat_length,h⟩⟩
end
theorem XD{m:Mk}(h:m.Ok):∀b∈m.bs,PyData.strOk b.wr=true:=λb hb=>by
 obtain⟨h',hh,e⟩:=AAM.mp (h.writers b hb);rw[←e];exact(h.hands h' hh).1.ok
theorem YS{k:Str}(h:k∈(["safe", "steady", "whole"]:List Str)):PyData.strOk k=true:=by
 have:∀k∈(["safe", "steady", "whole"]:List Str),PyData.strOk k=true:=by decide +kernel
 exact this k h
theorem Pt.of{m:Mk}(h:m.Ok)(hb:m.bs≠[]):Pt (.str m.kd) (.int m.sz) (.int m.bg) (m.bs.map Bx.toD) (m.hs.map Hd.toD):=
 ⟨SB h,by rw[AAG];exact List.length_pos_iff.mpr hb,by rw[AAG];exact h.most,by rw[AAG];exact h.least,by rw[AAG];exact h.mosth,λx hx=>by
  obtain⟨b,hb,rfl⟩:=AAM.mp hx;exact⟨_,_,_,rfl⟩⟩
theorem Nms.of{m:Mk}(h:m.Ok)(hn:("nobody" : Str)∉m.hs.map Hd.nm):Nms (m.hs.map Hd.toD):=
 ⟨λx hx=>by
  rw[IJ] at hx;obtain⟨b,hb,rfl⟩:=AAM.mp hx;exact(h.hands b hb).1,by rw[IJ];exact hn⟩
theorem OZ:GoodName "only" := ⟨by decide +kernel,by decide +kernel,by unfold EE;decide +kernel⟩
theorem Td{m:Mk}(h:m.Ok)(hb:m.bs=[]){h1:Hd}(hh:h1∈m.hs):(Mk.mk m.kd m.sz m.bg [⟨"only", "steady",4,3,h1.nm⟩] m.hs).Ok:=
 ⟨h.worth,λb hb=>by
  rw[AAL] at hb;subst hb;exact⟨OZ,(by decide:("steady" : Str)∈(["safe", "steady", "whole"]:List Str)),(by decide:(2:Int)<=4),(by decide:(4:Int)<=10),(by decide:(0:Int)<=3),(by decide:(3:Int)<=4-1)⟩,by show 1<=6;decide,by show [_].Nodup;simp,h.hands,h.least,h.mosth,h.unlikeh,λb hb=>by
  rw[AAL] at hb;subst hb;exact AAM.mpr ⟨h1,hh,rfl⟩,λi h' e r hr=>by
  have z:=h.rows i h' e r hr;rw[hb] at z;refine⟨z.form,z.ends,z.vars,z.set,?_⟩;have t:=z.tab;cases r with
  |put bx e=>cases t
  |get x bx=>cases t
  |_=>trivial⟩
theorem Yl{μ:Mh}{m:Mk}(h:m.Ok)(hb:m.bs≠[]):A7 (.tup (m.bs.map Bx.toD)) (.tup []) μ=some (.bl false,μ):=by
 have pz:Pz (.tup (m.bs.map Bx.toD)):=by
  unfold Pz;refine Qi λb hb=>?_;have k:=YS (h.boxes b hb).2.1;have n:=(h.boxes b hb).1.ok;have w:=XD h b hb;simp[Bx.toD,Pz,PzL,k,n,w]
 have dp:dpt (.tup (m.bs.map Bx.toD))<=64:=by
  have:HK (m.bs.map Bx.toD)<=1:=Np λb hb=>by simp[Bx.toD,dpt,HK]
  unfold dpt;omega
 obtain⟨e,he,z⟩:=Wp (neg:=false) (μ:=μ) (a:=.tup (m.bs.map Bx.toD)) (b:=.tup []) pz (by simp[Pz,PzL]) dp (by simp[dpt,HK]);have:e=false:=by
  cases e with
  |false=>rfl
  |true=>
   have:=he.mp rfl;exfalso;apply hb;simpa using this
 subst this;exact z
noncomputable def YD:Sl->M (Fl×Sl):=(AR (Ai (AF GS (AB (AD 8) AH)) (AN 1))
  (AR (Ai (AF BA (AB (AD 1) (AB (mC (.int 3)) AH))) (AN 9))
  (AR (sIf (AY (mOp A7 (AD 9) (mC (.int 0)))) (Ai (AF BY (AB (AD 1) (AB (AD 7) AH))) (AN 10)) (sIf (AY (mOp A7 (AD 9) (mC (.int 1)))) (Ai (AF Bv (AB (AD 1) (AB (AD 7) AH))) (AN 10)) (Ai (AF Bk (AB (AD 1) (AB (AD 7) AH))) (AN 10))))
  (sIf (JA (AY (AF Dy (AB (AD 10) AH)))) (A9 (mC (.bl false))) BW))))
theorem RB{m:Mk}(h:m.Ok)(hb:m.bs≠[])(hn:("nobody" : Str)∉m.hs.map Hd.nm){ns:List Int}(hl:ns.length<=63){μ:Mh}{o1 o2 o3 o4 o5 o6:Option D}{QS:Fl×Sl->Mh->Prop}(q:∀τ ν,QS (.rt (.bl true),τ) ν):
  WP (AR (sIf (AY (mOp (LK true) (AF (vals Al) (AB (AD 7) AH)) (mC .non))) (A9 (mC (.bl false))) BW)
  (AR (Ef (De (mOp Ag (AF Aq (AB (AF Ck (AB (AD 0) (AB (mC (.int 1)) AH))) AH)) (DU (AD 0) (BT (mC (.int 2))) (BT (mC (.int 20)))))) (AN 8) YD)
  (A9 (mOp (LK false) (AF (vals Al) (AB (AD 7) AH)) (mC .non)))) [some (.scr ns),o1,o2,o3,o4,o5,o6,some m.toD,none,none,none]) μ QS:=by
 have p:=Pt.of h hb;have nm:=Nms.of h hn;wtm_at "a";refine Mq ?_;refine Ms h (λν=>⟨.non,rfl,?_⟩);wtm_at "a";refine Pf (λc=>?_);wtm_at "a";obtain⟨cs,ecs,hcs⟩:∃cs:List Int,E9 (ns.map D.int) (some 2) (some 20)=cs.map D.int/\cs.length<=63:=by
  unfold E9;refine⟨(ns.drop (HT.sIx (ns.map D.int).length 0 (some 2))).take (HT.sIx (ns.map D.int).length (ns.map D.int).length (some 20)-HT.sIx (ns.map D.int).length 0 (some 2)),by rw[List.map_take,List.map_drop],?_⟩;rw[List.length_take,List.length_drop];omega
 refine CB (a:=.lst (cs.map D.int)) (by show some (D.lst (E9 (ns.map D.int) (some 2) (some 20)),ν)=_;rw[ecs]) ?_;refine D7 (by simp;omega) ?_;wtm_at "a";refine FB (I:=λrest τ _=>∃(xs:List Int) (o1 o8 o9 o10:Option D),rest=xs.map D.int/\τ=[some (.scr ns),o1,o2,o3,o4,o5,o6,some m.toD,o8,o9,o10]) ?_ ?_ ⟨c::cs,o1,none,none,none,rfl,rfl⟩
 ·rintro x xs τ ν ⟨l,o1,o8,o9,o10,er,rfl⟩;cases l with
  |nil=>cases er
  |cons c l=>
   obtain⟨rfl,rfl⟩:=List.cons.inj er;unfold YD;wtm_at "a";refine Mp (λa k ha hw=>?_);wtm_at "a";refine D6 hw (by decide) (by decide) (λr ν1 h1 h2 hw1 _=>?_);refine Ad ?_;refine BD ?_;refine Aa (Q:=λz _=>∃d,Refd d/\z=(Fl.next,[some (.scr ns),some (.ref ν.length),o2,o3,o4,o5,o6,some m.toD,some (.int c),some (.int r),some d])) ?_ ?_
   ·refine Ha ?_;refine HM ?_;refine JG ?_;refine DM rfl ?_;refine SS ?_;refine Hb ?_;refine F8 ?_;refine L1 (λ_=>?_) (λ_=>?_)
    ·wtm_at "a";exact Pa hw1 p λd ν rd=>⟨d,rd,rfl⟩
    ·refine Ha ?_;refine HM ?_;refine JG ?_;refine DM rfl ?_;refine SS ?_;refine Hb ?_;refine F8 ?_;refine L1 (λ_=>?_) (λ_=>?_)
     ·wtm_at "a";exact Uu hw1 p nm (λx hx=>by obtain⟨b,hb,rfl⟩:=AAM.mp hx;exact⟨_,_,_,_,_,rfl⟩) λd ν rd=>⟨d,rd,rfl⟩
     ·wtm_at "a";exact SK hw1 p λd ν rd=>⟨d,rd,rfl⟩
   ·rintro _ _ ⟨d,rd,rfl⟩;refine Ad ?_;refine Ha ?_;refine Js ?_;wtm_at "a";refine N6 rd (λν=>?_);wtm_at "a";refine Jw ?_;wtm_at "a";exact⟨l,_,_,_,_,rfl,rfl⟩
 ·rintro τ ν ⟨l,o1,o8,o9,o10,er,rfl⟩;wtm_at "a";refine Mq ?_;refine Ms h (λν=>⟨.non,rfl,?_⟩);wtm_at "a";exact q _ _
theorem math:∀ns:List Int,ns.length<=63->∃μ',K3.f_law [.scr ns] []=some (.bl true,μ'):=by
 intro ns hl;have key:WP (K3.f_law [.scr ns]) [] λd _=>d=.bl true:=by
  unfold K3.f_law;refine SV rfl ?_;unfold K3.m_law;wtm_at "a";refine Pg (λc=>?_);wtm_at "a";refine Mp (λa k ha hw=>?_);refine Ad ?_;refine BD ?_;refine Pp ?_;wtm_at "a";refine N7 hw (λm ν h hn _=>?_);refine CB (a:=[some (.scr ns),some (.ref 0),some (.str m.kd),some (.int m.sz),some (.int m.bg),some (.tup (m.bs.map Bx.toD)),some (.tup (m.hs.map Hd.toD)),none,none,none,none]) rfl ?_;refine Ad ?_;refine BD ?_;refine Aa (Q:=λz _=>∃bs:List Bx,(Mk.mk m.kd m.sz m.bg bs m.hs).Ok/\bs≠[]/\z=(Fl.next,[some (.scr ns),some (.ref 0),some (.str m.kd),some (.int m.sz),some (.int m.bg),some (.tup (bs.map Bx.toD)),some (.tup (m.hs.map Hd.toD)),none,none,none,none])) ?_ ?_
  ·by_cases hb:m.bs=[]
   ·have hE:A7 (.tup (m.bs.map Bx.toD)) (.tup []) ν=some (.bl true,ν):=by rw[hb];kernel_rfl
    wtm_at "a";refine CB hE ?_;obtain⟨h0,h1,hr,eh⟩:∃h0 h1 hr,m.hs=h0::h1::hr:=by
     have:=h.least
     match m.hs,this with
     |h0::h1::hr,_=>exact⟨h0,h1,hr,rfl⟩
    have hI:atI (m.hs.map Hd.toD) 1=some h1.toD:=by
     rw[eh];unfold atI ixN;rw[if_pos (by decide),if_pos (by simp;omega)];rfl
    wtm_at "a";refine Gd hI ?_;wtm_at "a";refine Gd (ds:=[.str h1.nm,.int h1.wi,.tup (h1.rs.map Rw.toD)]) (d:=.str h1.nm) rfl ?_;wtm_at "a";exact⟨_,Td (h1:=h1) h hb (by rw[eh];simp),by simp,rfl⟩
   ·have hE:A7 (.tup (m.bs.map Bx.toD)) (.tup []) ν=some (.bl false,ν):=Yl h hb;wtm_at "a";refine CB hE ?_;wtm_at "a";exact⟨m.bs,h,hb,rfl⟩
  ·rintro _ _ ⟨bs,h,hb,rfl⟩;refine Ad ?_;refine BD ?_;refine Db ?_;refine EY ?_;refine CB (a:=[.str m.kd,.int m.sz,.int m.bg,.tup (bs.map Bx.toD),.tup (m.hs.map Hd.toD)]) rfl ?_;refine Jt (AAE rfl) ?_;refine Ad ?_;refine RB (m:=⟨m.kd,m.sz,m.bg,bs,m.hs⟩) h hb hn hl (λτ ν=>?_);exact⟨_,_,ν,rfl,rfl,by unfold Cl;trivial,rfl⟩
 obtain⟨d,μ',e,rfl⟩:=key;exact⟨μ',e⟩
end K3
open PySem PySem.W PyProof.Rows
local macro_rules | `(tactic| wtm_at "c")=>`(tactic| (refine' Mi.Yf ?qa ?ql ?qc ?qk;(case qa=>k_is);(case ql=>k_is);(case qc=>k_is);(case qk=>k_is)))
local macro_rules | `(tactic| wtm_at "s")=>`(tactic| (refine' Mi.dc_mk ?qa ?qb ?qc ?qd ?qe ?qf;(case qa=>k_is);(case qb=>k_is);(case qc=>k_is);(case qd=>k_is);(case qe=>k_is)))
local macro_rules | `(tactic| wtm_at "t")=>`(tactic| (refine' Mi.di_mk ?qa ?qb ?qc ?qd ?qe ?qf ?qg ?qh;(case qa=>k_is);(case qb=>k_is);(case qc=>k_is);(case qd=>k_is);(case qe=>k_is);(case qf=>k_is);(case qg=>k_is);(case qh=>k_is)))
local macro_rules | `(tactic| wtm_at "v")=>`(tactic| (refine' Mi.dm_mk ?qa ?qb ?qc ?qd ?qe ?qf ?qg ?qh ?qi ?qj;(case qa=>k_is);(case qb=>k_is);(case qc=>k_is);(case qd=>k_is);(case qe=>k_is);(case qf=>k_is);(case qg=>k_is);(case qh=>k_is);(case qi=>k_is);(case qj=>k_is)))
local macro_rules | `(tactic| wtm_at "i")=>`(tactic| (refine' Mi.XL ?pl ?pe;(case pl=>k_is);(case pe=>rfl)))
set_option maxRecDepth 100000 in
set_option maxHeartbeats 0 in
theorem PySem.Challenge.cw_strongboxes_k03_what_is_no_making_holds : PySem.Challenge.rw_strongboxes_k03_what_is_no_making.Holds := by
 w_on;o_law;k_head;(case hw=>w_witness2)
 k_fill
 refine Mi.XG (k:=14) (l:=PySem.Challenge.rw_strongboxes_k03_what_is_no_making) rfl rfl (by decide) (λw h Y=>PySem.W.kIn_of Y) ?F
 case F=>
  intro w mg fa h KX G hmg;refine' K3.all_mk K3.math KX G hmg ?cv ?eK ?d9 ?eG ?eo ?dN ?d8 ?cz ?cr ?bT ?dE ?cQ ?bc ?bd ?eW ?bR ?dL ?cU ?bU ?bn ?bV ?au ?cL ?bN ?br ?aS ?cK ?bG ?bA ?cx ?fH  ?x_NoEvents ?x_NoLine ?x_NoMaking ?x_NoPaper ?x_NoStep ?x_NoText ?x_NoUpon ?x_StrongError ?x_TooMany ?xr_NoMaking ?xc_StrongError ?xb_StrongError ?xtb_NoEvents_NoLine_NoPaper_NoStep_NoText_NoUpon_TooMany ?xtb_NoMaking ?xtb_ValueError ?cO ?fI ?et ?cY ?fR ?cP ?fM ?eT ?fJ ?fK ?eE ?fO ?fN ?eC ?fF ?bo ?bM ?cj ?aO ?aU ?bq ?aZ ?ac ?bC ?bD ?aN ?aG ?ah ?al
  (case cv=>wtm_at "c")
  (case eK=>wtm_at "c")
  (case d9=>wtm_at "c")
  (case eG=>wtm_at "c")
  (case eo=>wtm_at "c")
  (case dN=>wtm_at "c")
  (case d8=>wtm_at "c")
  (case cz=>wtm_at "c")
  (case cr=>wtm_at "c")
  (case bT=>wtm_at "c")
  (case dE=>wtm_at "c")
  (case cQ=>wtm_at "c")
  (case bc=>wtm_at "c")
  (case bd=>wtm_at "c")
  (case eW=>wtm_at "c")
  (case bR=>wtm_at "c")
  (case dL=>wtm_at "c")
  (case cU=>wtm_at "c")
  (case bU=>wtm_at "c")
  (case bn=>wtm_at "c")
  (case bV=>wtm_at "c")
  (case au=>wtm_at "c")
  (case cL=>wtm_at "c")
  (case bN=>wtm_at "c")
  (case br=>wtm_at "c")
  (case aS=>wtm_at "c")
  (case cK=>wtm_at "c")
  (case bG=>wtm_at "c")
  (case bA=>wtm_at "c")
  (case cx=>wtm_at "c")
  (case fH=>wtm_at "c")
  (case x_NoEvents=>refine' Xc.cls_mk ?qa;(case qa=>k_is))
  (case x_NoLine=>refine' Xc.cls_mk ?qa;(case qa=>k_is))
  (case x_NoMaking=>refine' Xc.cls_mk ?qa;(case qa=>k_is))
  (case x_NoPaper=>refine' Xc.cls_mk ?qa;(case qa=>k_is))
  (case x_NoStep=>refine' Xc.cls_mk ?qa;(case qa=>k_is))
  (case x_NoText=>refine' Xc.cls_mk ?qa;(case qa=>k_is))
  (case x_NoUpon=>refine' Xc.cls_mk ?qa;(case qa=>k_is))
  (case x_StrongError=>refine' Xc.cls_mk ?qa;(case qa=>k_is))
  (case x_TooMany=>refine' Xc.cls_mk ?qa;(case qa=>k_is))
  (case xr_NoMaking=>refine' Xc.ec_mk ?qa ?qb;(case qa=>k_is);(case qb=>k_exc))
  (case xc_StrongError=>refine' Xc.cd_mk ?qa ?qb ?qc ?qd;(case qa=>k_is);(case qb=>k_is);(case qc=>k_is);(case qd=>k_is))
  (case xb_StrongError=>refine' Xc.bl_mk ?qa ?qb ?qc;(case qa=>k_is);(case qb=>k_is);(case qc=>k_is))
  (case xtb_NoEvents_NoLine_NoPaper_NoStep_NoText_NoUpon_TooMany=>refine' Xc.tbT_mk ?qa ?ql ?qf ?qk;(case qa=>k_is);(case ql=>refine' Xc.NsV.cons ?v ?r;(case v=>k_is);(case r=>refine' Xc.NsV.cons ?v ?r;(case v=>k_is);(case r=>refine' Xc.NsV.cons ?v ?r;(case v=>k_is);(case r=>refine' Xc.NsV.cons ?v ?r;(case v=>k_is);(case r=>refine' Xc.NsV.cons ?v ?r;(case v=>k_is);(case r=>refine' Xc.NsV.cons ?v ?r;(case v=>k_is);(case r=>refine' Xc.NsV.cons ?v ?r;(case v=>k_is);(case r=>exact Xc.NsV.nil))))))));(case qf=>refine' Xc.ea_mk ?u1 ?u2 ?u3 ?u4 ?u5 ?u6 ?u7 ?u8;(case u1=>k_is);(case u2=>k_is);(case u3=>k_is);(case u4=>k_is);(case u5=>k_is);(case u6=>k_is);(case u7=>k_is);(case u8=>k_is));(case qk=>kit_is))
  (case xtb_NoMaking=>refine' Xc.tbT_mk ?qa ?ql ?qf ?qk;(case qa=>k_is);(case ql=>refine' Xc.NsV.cons ?v ?r;(case v=>k_is);(case r=>exact Xc.NsV.nil));(case qf=>refine' Xc.ea_mk ?u1 ?u2 ?u3 ?u4 ?u5 ?u6 ?u7 ?u8;(case u1=>k_is);(case u2=>k_is);(case u3=>k_is);(case u4=>k_is);(case u5=>k_is);(case u6=>k_is);(case u7=>k_is);(case u8=>k_is));(case qk=>kit_is))
  (case xtb_ValueError=>refine' Xc.tb_mk ?qa ?qf ?qk;(case qa=>k_is);(case qf=>refine' Xc.ea_mk ?u1 ?u2 ?u3 ?u4 ?u5 ?u6 ?u7 ?u8;(case u1=>k_is);(case u2=>k_is);(case u3=>k_is);(case u4=>k_is);(case u5=>k_is);(case u6=>k_is);(case u7=>k_is);(case u8=>k_is));(case qk=>kit_is))
  (case cO=>k_is)
  (case fI=>k_is)
  (case et=>k_is)
  (case cY=>k_is)
  (case fR=>k_is)
  (case cP=>k_is)
  (case fM=>k_is)
  (case eT=>k_is)
  (case fJ=>k_is)
  (case fK=>k_is)
  (case eE=>k_is)
  (case fO=>k_is)
  (case fN=>k_is)
  (case eC=>k_is)
  (case fF=>k_is)
  (case bo=>refine' Mi.Dg KX G ?qa;(case qa=>k_is))
  (case bM=>refine' Mi.Dg KX G ?qa;(case qa=>k_is))
  (case cj=>refine' Mi.Kc KX G ?qa ?ql ?qh;(case qa=>k_is);(case ql=>wtm_at "i");(case qh=>decide))
  (case aO=>refine' Mi.Dg KX G ?qa;(case qa=>k_is))
  (case aU=>refine' Mi.Dg KX G ?qa;(case qa=>k_is))
  (case bq=>refine' Mi.UB KX G ?qa;(case qa=>k_is))
  (case aZ=>refine' Mi.Dg KX G ?qa;(case qa=>k_is))
  (case ac=>refine' Mi.Dg KX G ?qa;(case qa=>k_is))
  (case bC=>refine' Mi.Dg KX G ?qa;(case qa=>k_is))
  (case bD=>refine' Mi.Dg KX G ?qa;(case qa=>k_is))
  (case aN=>refine' Mi.Dg KX G ?qa;(case qa=>k_is))
  (case aG=>refine' Mi.Kc KX G ?qa ?ql ?qh;(case qa=>k_is);(case ql=>wtm_at "i");(case qh=>decide))
  (case ah=>refine' Mi.Kc KX G ?qa ?ql ?qh;(case qa=>k_is);(case ql=>wtm_at "i");(case qh=>decide))
  (case al=>refine' Mi.Tz KX G ?qa ?ql ?qk ?qs ?qT;(case qa=>k_is);(case ql=>k_is);(case qk=>exact⟨⟨_,_,rfl,rfl⟩,⟨⟨_,_,rfl,rfl⟩,⟨⟨_,_,rfl,rfl⟩,⟨⟨_,_,rfl,rfl⟩,⟨⟨_,_,rfl,rfl⟩,⟨⟨_,_,rfl,rfl⟩,⟨⟨_,_,rfl,rfl⟩,trivial⟩⟩⟩⟩⟩⟩⟩);(case qs=>rfl);(case qT=>refine' ⟨_,_,_,_,_,rfl,rfl,rfl,?qt,?qu,?_⟩;(case qt=>wtm_at "i");(case qu=>decide);refine' ⟨_,_,_,_,_,rfl,rfl,rfl,?qt,?qu,?_⟩;(case qt=>wtm_at "i");(case qu=>decide);refine' ⟨_,_,_,_,_,rfl,rfl,rfl,?qt,?qu,?_⟩;(case qt=>wtm_at "i");(case qu=>decide);refine' ⟨_,_,_,_,_,rfl,rfl,rfl,?qt,?qu,?_⟩;(case qt=>wtm_at "i");(case qu=>decide);refine' ⟨_,_,_,_,_,rfl,rfl,rfl,?qt,?qu,?_⟩;(case qt=>wtm_at "i");(case qu=>decide);refine' ⟨_,_,_,_,_,rfl,rfl,rfl,?qt,?qu,?_⟩;(case qt=>wtm_at "i");(case qu=>decide);refine' ⟨_,_,_,_,_,rfl,rfl,rfl,?qt,?qu,?_⟩;(case qt=>wtm_at "i");(case qu=>decide);rfl))
