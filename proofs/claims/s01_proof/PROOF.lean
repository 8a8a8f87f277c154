import PyProof.Rows.All
import Wide.All
import OpenK.AllK
import Wide.FinOn
import PyProof.EqAt
import PyProof.EqKinds
import PyProof.TupleCall
import KE.BitLaws
import VbemalSpec
import PyProof.Dict
import PySem.Builtin.Tuple.Common
import Open.SpecLaws
import KE.OsHead
import KE.OsGo
import KE.KLam
import PyProof.CollectIter
import PyProof.TupleOps
import PyProof.ListMulRoad
import KE.KSortKeySt
import PyVbemal
import KE.KNest
import PySem.Challenge.RW_marketaccounts_s01_answers
set_option Elab.async false
set_option linter.all false
set_option maxRecDepth 100000
set_option maxHeartbeats 0
def DS:=@List.length_map
def D3:=@List.getElem?_eq_getElem
def D4:=@PySem.wpAny_bind
def D5:=@Nat.le_of_ble_eq_true
def D6:=@if_neg
def D7:=@if_pos
def D8:=@PySem.Heap.get?_push_of_some
def D9:=@Nat.le_refl
def HD:=@List.getElem?_map
def aan:=@PySem.wpAny_pure
def aao:=@List.getElem?_eq_some_iff
def aap:=@List.mem_cons_of_mem
def aaq:=@PySem.Heap.lt_size
def aar:=@Option.some.inj
def aas:=@List.mem_cons
def aat:=@List.length_append
def aau:=@List.mem_cons_self
def aav:=@List.size_toArray
def aaw:=@PySem.Heap.get?_push_size
def aax:=@List.length_cons
def aay:=@Bool.false_ne_true
def aaz:=@List.map_append
def aaA:=@List.getElem?_append_left
def aaB:=@List.mem_of_getElem?
def aaC:=@Bool.false_eq_true
def aaD:=@Nat.le_trans
def aaE:=@List.mem_map
def aaF:=@Nat.lt_of_lt_of_le
def aaG:=@List.getElem?_append_right
def aaH:=@List.length_take
def aaI:=@Nat.ne_of_lt
def aaJ:=@List.map_cons
def aaK:=@PySem.boot_len
def aaL:=@Nat.lt_of_le_of_lt
def aaM:=@List.take_length
def aaN:=@List.length_range
def aaO:=@List.nodup_cons
def aaP:=@List.getElem?_eq_none
def aaQ:=@Nat.lt_of_lt_of_eq
def aaR:=@Bool.and_true
def aaS:=@PySem.mem_of_lookup
def aaT:=@PySem.F.plainAttrs_list
def aaU:=@List.sum_cons
def aaV:=@List.mem_append
def aaW:=@beq_eq_false_iff_ne
def aaX:=@Nat.le_succ
def aaY:=@List.mem_append_right
def aaZ:=@PySem.Heap.size_push
def aa0:=@Nat.zero_le
def aa1:=@Bool.and_eq_true
def aa2:=@PySem.AutoSeq1.wpAny_loadPart'
def aa3:=@if_true
def aa4:=@if_false
def aa5:=@List.mem_singleton
def aa6:=@PyProof.Rows.take_snoc
def aa7:=@decide_eq_false
def aa8:=@decide_eq_true
def aa9:=@List.replicate_succ
def aa_:=@Int.toNat_natCast
def aa':=@List.getElem?_set_ne
def aba:=@Prod.mk.inj
def abb:=@List.getElem?_set_self
def abc:=@Nat.lt_irrefl
def abd:=@PySem.PassesOwn.never
def abe:=@List.map_map
def abf:=@PySem.F.slot_list_append
def abg:=@PySem.F.type_list_append
def abh:=@PySem.wpAny_setField_rec
def abi:=@List.filter_cons
def abj:=@Nat.le_of_not_lt
def abk:=@List.map_congr_left
def abl:=@List.ext_getElem?
def abm:=@Except.ok.inj
def abn:=@List.mem_filterMap
def abo:=@List.mem_append_left
def abp:=@List.take_of_length_le
def abq:=@PySem.wpAny_field
def abr:=@List.append_nil
def abt:=@PySem.F.slot_dict_itemiterator_next
def abu:=@List.not_mem_nil
def abv:=@PySem.wpAny_Call_Name_kw
def abw:=@List.length_drop
def abx:=@PySem.sizeLine_eq
def aby:=@PySem.wpAny_mono
def abz:=@List.mem_iff_getElem
def abA:=@PySem.wpAny_truthy_bool
def abB:=@List.flatten_cons
def abC:=@PySem.wpAny_dictEntries
def abD:=@Bool.eq_iff_iff
def abE:=@PyProof.Rows.callWith_type1
def abF:=@List.mem_map_of_mem
def abG:=@Nat.mod_lt
def abH:=@List.getD_eq_getElem?_getD
def abI:=@Nat.le_add_right
def abJ:=@List.pairwise_cons
def abK:=@PySem.F.slot_dict_get
def abL:=@List.length_filter_le
def abM:=@List.getElem?_zip_eq_some
def abN:=@beq_iff_eq
def abO:=@List.length_zip
def abP:=@PySem.wpAny_typeNameOfWhole_itemiter
def abQ:=@Nat.mul_le_mul_left
def abR:=@List.filterMap_cons
def abS:=@List.mem_range
def abT:=@Nat.min_le_right
def abU:=@List.lookup_cons
def abV:=@PySem.wpAny_call_entry
def abW:=@Nat.ne_of_gt
def abX:=@PySem.tupleKind_room_in1
def abY:=@decide_eq_true_iff
def abZ:=@List.find?_cons
def ab0:=@List.length_set
def ab1:=@PySem.wpAny_passesOwn
def ab2:=@PySem.wpAny_newObj_type
def ab3:=@of_decide_eq_true
def ab4:=@List.mem_of_mem_take
def ab5:=@Array.getElem?_eq_getElem
def ab6:=@PySem.wpAny_typeNameOf_itemiter
def ab7:=@List.mem_flatMap
def ab8:=@List.all_eq_true
def ab9:=@PySem.F.slot_list_extend
def ab_:=@PySem.F.type_list_extend
def ab':=@List.length_filterMap_le
def acd:=@List.getElem?_range
def ace:=@List.filter_append
def acf:=@List.sum_append
def acg:=@Bool.or_eq_true
def ach:=@PySem.Calls.spliced_cons
def aci:=@PySem.F.entry_dict_get
def acj:=@Array.getElem?_eq_none
def ack:=@List.append_assoc
def acm:=@PySem.wpAny_pyIter_list
def acn:=@Ne.symm
def aco:=@PySem.wpAny_seqItems
def acp:=@Nat.succ_pos
def acq:=@List.any_eq_true
def acr:=@PySem.call_meets
def acs:=@PySem.F.slot_tuple_mul
def acu:=@PySem.Paired.length
def acv:=@Sum.inl.inj
def acw:=@Option.some_ne_none
def acy:=@Array.length_toList
def acz:=@Nat.add_le_add_left
def acA:=@Nat.div_add_mod
def acB:=@Nat.pos_of_ne_zero
def acC:=@Nat.le_of_lt
def acD:=@PySem.F.args_tuple_add_2
def acE:=@List.any_map
def acF:=@List.getElem?_drop
def acG:=@List.forIn_nil
def acH:=@List.any_eq_false
def acI:=@List.nodup_append
def acJ:=@Nat.le_of_succ_le
namespace VI
open Vbemal
theorem qT{α:Type}(g:α→α):∀(i:Nat) (l:List α),(mapAt g i l).length=l.length
 |_,[]=>by cases ‹Nat› <;>rfl
 |0,x::r=>rfl
 |i+1,x::r=>by show(mapAt g i r).length+1=r.length+1;rw[qT g i r]
theorem zM{α:Type}(g:α→α):∀(i j:Nat) (l:List α),(mapAt g i l)[j]?=if j=i then(l[j]?).map g else l[j]?
 |i,j,[]=>by cases i<;>simp[mapAt]
 |0,0,x::r=>rfl
 |0,j+1,x::r=>rfl
 |i+1,0,x::r=>rfl
 |i+1,j+1,x::r=>by
  show(mapAt g i r)[j]?=if j+1=i+1 then(r[j]?).map g else r[j]?
  rw[zM g i j r]
  by_cases h:j=i
  ·simp[h]
  ·simp[h]
def oJ(l:List Invoice)(m:Nat):Nat:=((l.filter fun x=>x.m==m).map fun x=>x.rest).sum
def tot(l:List Invoice):Nat:=(l.map fun x=>x.rest).sum
theorem dU(s:State)(m:Nat):restOf s m=oJ s.invoices m:=rfl
theorem qU(m:Nat):oJ [] m=0:=rfl
theorem eK(x:Invoice)(l:List Invoice)(m:Nat):oJ (x::l) m=(if x.m=m then x.rest else 0)+oJ l m:=by
 unfold oJ
 by_cases h:x.m=m
 ·rw[abi,D7 (by simp[h]),D7 h,aaJ,aaU]
 ·rw[abi,D6 (by simp[h]),D6 h,Nat.zero_add]
theorem wK(l k:List Invoice)(m:Nat):oJ (l++k) m=oJ l m+oJ k m:=by
 unfold oJ
 rw[ace,aaz,acf]
theorem ly(x:Invoice)(l:List Invoice):tot (x::l)=x.rest+tot l:=by
 unfold tot;rw[aaJ,aaU]
theorem BH(l k:List Invoice):tot (l++k)=tot l+tot k:=by
 unfold tot;rw[aaz,acf]
theorem BI(m:Nat):∀l:List Invoice,oJ l m≤tot l
 |[]=>D9 _
 |x::l=>by
  have:=BI m l
  rw[eK,ly]
  split<;>omega
theorem Bl(m:Nat):∀(l:List Invoice) (c:Nat),(onInvoices m c l).2=c-oJ l m
 |[],c=>by simp[onInvoices,qU]
 |x::l,c=>by
  rw[eK]
  unfold onInvoices
  by_cases h:x.m=m
  ·rw[D7 h,D7 h]
   show(onInvoices m (c-x.rest) l).2=_
   rw[Bl m l];omega
  ·rw[D6 h,D6 h]
   show(onInvoices m c l).2=_
   rw[Bl m l];omega
theorem Bm(m:Nat):∀(l:List Invoice) (c:Nat),oJ (onInvoices m c l).1 m=oJ l m-c
 |[],c=>by simp[onInvoices,qU]
 |x::l,c=>by
  rw[eK]
  unfold onInvoices
  by_cases h:x.m=m
  ·rw[D7 h,D7 h]
   show oJ ({x with rest:=x.rest-c}::(onInvoices m (c-x.rest) l).1) m=_
   rw[eK,D7 h,Bm m l]
   show x.rest-c+_=_
   omega
  ·rw[D6 h,D6 h]
   show oJ (x::(onInvoices m c l).1) m=_
   rw[eK,D6 h,Bm m l];omega
theorem yd{m k:Nat}(hk:k≠m):∀(l:List Invoice) (c:Nat),oJ (onInvoices m c l).1 k=oJ l k
 |[],c=>by simp[onInvoices]
 |x::l,c=>by
  rw[eK]
  unfold onInvoices
  by_cases h:x.m=m
  ·rw[D7 h]
   show oJ ({x with rest:=x.rest-c}::(onInvoices m (c-x.rest) l).1) k=_
   rw[eK,yd hk l]
   show(if x.m=k then _ else _)+_=_
   rw[D6 (by omega),D6 (by omega)]
  ·rw[D6 h]
   show oJ (x::(onInvoices m c l).1) k=_
   rw[eK,yd hk l]
theorem Fi(m:Nat):∀(l:List Invoice) (c:Nat),tot (onInvoices m c l).1≤tot l
 |[],c=>by simp[onInvoices]
 |x::l,c=>by
  rw[ly]
  unfold onInvoices
  by_cases h:x.m=m
  ·rw[D7 h]
   show tot ({x with rest:=x.rest-c}::(onInvoices m (c-x.rest) l).1)≤_
   rw[ly]
   have:=Fi m l (c-x.rest)
   show x.rest-c+_≤_
   omega
  ·rw[D6 h]
   show tot (x::(onInvoices m c l).1)≤_
   rw[ly]
   have:=Fi m l c
   omega
theorem zN(m:Nat){β:Type}(g:Invoice→β)(hg:∀x r,g {x with rest:=r}=g x):∀(l:List Invoice) (c:Nat),(onInvoices m c l).1.map g=l.map g
 |[],c=>rfl
 |x::l,c=>by
  unfold onInvoices
  by_cases h:x.m=m
  ·rw[D7 h]
   show g {x with rest:=x.rest-c}::(onInvoices m (c-x.rest) l).1.map g=g x::l.map g
   rw[hg,zN m g hg l]
  ·rw[D6 h]
   show g x::(onInvoices m c l).1.map g=g x::l.map g
   rw[zN m g hg l]
theorem qA(m:Nat)(l:List Invoice)(c:Nat):(onInvoices m c l).1.length=l.length:=by
 have:=congrArg List.length (zN m (fun x=>x.m) (fun _ _=>rfl) l c)
 simpa using this
theorem i_(s:State){m k:Nat}(hm:0<m)(g:Member→Member):member? (setMember s m g) k=if k=m then(member? s k).map g else member? s k:=by
 unfold member? setMember
 by_cases h0:k=0
 ·subst h0
  rw[D7 rfl,D7 rfl,D6 (by omega)]
 ·rw[D6 h0,D6 h0]
  show(mapAt g (m-1) s.members)[k-1]?=_
  rw[zM]
  by_cases h:k=m
  ·rw[D7 (by omega),D7 h]
  ·rw[D6 (by omega),D6 h]
theorem eN(s:State)(m:Nat)(g:Member→Member):(setMember s m g).members.length=s.members.length:=qT _ _ _
theorem aR{s:State}{m:Nat}:(∃x,member? s m=some x)↔0<m∧m≤s.members.length:=by
 unfold member?
 by_cases h0:m=0
 ·rw[D7 h0];constructor
  ·rintro⟨x,h⟩;cases h
  ·omega
 ·rw[D6 h0];constructor
  ·rintro⟨x,h⟩
   have:=(aao.mp h).1
   omega
  ·intro h
   exact⟨_,D3 (by omega)⟩
def kX(z:Int):Prop:=-BOOK≤z∧z≤BOOK
structure My(s:State):Prop where
 mem:∀m x,member? s m=some x→kX x.unbilled∧kX (CENT*((restOf s m:Int)-(x.pool:Int)))∧kX (-(CENT*(x.collateral:Int)))∧kX (-(CENT*(x.fund:Int)))
 ma:kX s.market
 rd:kX s.rounding
 tx:kX (CENT*s.taxes)
 ca:kX (CENT*s.cash)
 ho:kX (-(CENT*(s.house:Int)))
 lo:kX (CENT*(s.loss:Int))
theorem pO{s:State}{m:Nat}:m∈membersOf s↔0<m∧m≤s.members.length:=by
 unfold membersOf
 rw[aaE]
 constructor
 ·rintro⟨i,hi,rfl⟩
  rw[abS]at hi
  omega
 ·intro h
  exact⟨m-1,abS.mpr (by omega),by omega⟩
theorem mX(s:State):beyond s=false↔My s:=by
 have e:beyond s=false↔∀z∈accounts s,kX z:=by
  unfold beyond
  rw[acH]
  constructor
  ·intro h z hz
   have:=h z hz
   simp only[acg,decide_eq_true_eq,not_or]at this
   unfold kX;omega
  ·intro h z hz
   have:=h z hz
   unfold kX at this
   simp only[acg,decide_eq_true_eq,not_or]
   omega
 rw[e]
 unfold accounts
 constructor
 ·intro h
  refine⟨fun m x hx=>?_,?_,?_,?_,?_,?_,?_⟩
  ·have hm:m∈membersOf s:=pO.mpr (aR.mp ⟨x,hx⟩)
   have k:∀z,z∈([x.unbilled,CENT*((restOf s m:Int)-(x.pool:Int)),-(CENT*(x.collateral:Int)),-(CENT*(x.fund:Int))]:List Int)→kX z:=fun z hz=>
    h z (abo _ (ab7.mpr ⟨m,hm,by rw[hx];exact hz⟩))
   exact⟨k _ (by simp),k _ (by simp),k _ (by simp),k _ (by simp)⟩
  all_goals exact h _ (aaY _ (by simp))
 ·intro b z hz
  rcases aaV.mp hz with hz |hz
  ·obtain⟨m,hm,hz⟩:=ab7.mp hz
   obtain⟨x,hx⟩:=aR.mpr (pO.mp hm)
   rw[hx]at hz
   obtain⟨b1,b2,b3,b4⟩:=b.mem m x hx
   simp only[aas,abu,or_false]at hz
   rcases hz with rfl |rfl |rfl |rfl<;>assumption
  ·simp only[aas,abu,or_false]at hz
   rcases hz with rfl |rfl |rfl |rfl |rfl |rfl
   ·exact b.ma
   ·exact b.rd
   ·exact b.tx
   ·exact b.ca
   ·exact b.ho
   ·exact b.lo
def key(e:Entry):Nat×Nat:=(e.m,e.period)
def wL(a b:Entry):Prop:=a.period<b.period∨(a.period=b.period∧a.m<b.m)
theorem qV{a b:Entry}:key a=key b↔a.m=b.m∧a.period=b.period:=by
 unfold key;exact Prod.mk.injEq .. ▸Iff.rfl
theorem vo{x:Entry}:∀{l:List Entry},l.Pairwise wL→(∃e∈l,key e=key x)→putEntry x l=l.map fun e=>if key e=key x then x else e
 |[],_,h=>by obtain⟨e,he,_⟩:=h;cases he
 |y::r,hs,h=>by
  obtain⟨h1,h2⟩:=abJ.mp hs
  unfold putEntry
  rw[aaJ]
  by_cases k:key y=key x
  ·have k':=qV.mp k
   rw[D7 ⟨k'.1.symm,k'.2.symm⟩,D7 k]
   congr 1
   have:∀e∈r,(if key e=key x then x else e)=e:=fun e he=>by
    have:=h1 e he
    rw[D6]
    intro q
    have q':=qV.mp q
    unfold wL at this
    omega
   rw[abk this,List.map_id']
  ·obtain⟨e,he,ke⟩:=h
   have he:e∈r:=by
    rcases aas.mp he with rfl |he
    ·exact absurd ke k
    ·exact he
   have l1:=h1 e he
   have ke':=qV.mp ke
   unfold wL at l1
   rw[D6 (fun q=>k (qV.mpr ⟨q.1.symm,q.2.symm⟩)),D6 (by omega),D6 k,vo h2 ⟨e,he,ke⟩]
theorem ye{x:Entry}:∀{l:List Entry},(∀e∈l,key e≠key x)→(putEntry x l).Perm (x::l)
 |[],_=>.refl _
 |y::r,h=>by
  unfold putEntry
  rw[D6 (fun q=>h y (aau ..) (qV.mpr ⟨q.1.symm,q.2.symm⟩))]
  split
  ·exact .refl _
  ·exact((ye fun e he=>h e (aap _ he)).cons y).trans (.swap x y r)
theorem Bo{x e:Entry}{l:List Entry}(hs:l.Pairwise wL):e∈putEntry x l→e=x∨e∈l:=by
 by_cases h:∃e∈l,key e=key x
 ·rw[vo hs h]
  intro he
  obtain⟨y,hy,rfl⟩:=aaE.mp he
  split
  ·exact .inl rfl
  ·exact .inr hy
 ·intro he
  have:=(ye fun e he k=>h ⟨e,he,k⟩).mem_iff.mp he
  exact(aas.mp this)
theorem wM{x:Entry}:∀{l:List Entry},l.Pairwise wL→(putEntry x l).Pairwise wL
 |[],_=>by simp[putEntry]
 |y::r,hs=>by
  obtain⟨h1,h2⟩:=abJ.mp hs
  unfold putEntry
  split
  ·rename_i k
   refine abJ.mpr ⟨fun e he=>?_,h2⟩
   have:=h1 e he
   unfold wL at this⊢;omega
  ·split
   ·rename_i k1 k
    refine abJ.mpr ⟨fun e he=>?_,hs⟩
    rcases aas.mp he with rfl |he
    ·exact k
    ·have:=h1 e he
     unfold wL at this⊢;omega
   ·rename_i k1 k
    refine abJ.mpr ⟨fun e he=>?_,wM h2⟩
    rcases Bo h2 he with rfl |he
    ·unfold wL;omega
    ·exact h1 e he
theorem ju{l:List Entry}(hs:l.Pairwise wL):(l.map key).Nodup:=by
 rw[List.nodup_iff_pairwise_ne,List.pairwise_map]
 exact hs.imp fun{a b} h q=>by
  have:=qV.mp q
  unfold wL at h;omega
theorem yf{l:List Entry}{m p:Nat}{e:Entry}(hn:(l.map key).Nodup)(he:e∈l)(k:key e=(m,p)):(l.find? fun e=>e.m==m&&e.period==p)=some e:=by
 induction l with
 |nil=>cases he
 |cons y r ih=>
  rw[aaJ,aaO]at hn
  rw[abZ]
  by_cases hy:key y=(m,p)
  ·have q:y=e:=by
    rcases aas.mp he with rfl |he
    ·rfl
    ·exact absurd (aaE.mpr ⟨e,he,k.trans hy.symm⟩) hn.1
   subst q
   have:(y.m==m&&y.period==p)=true:=by
    have:=aba hy
    simp[this.1,this.2]
   rw[this]
  ·have:(y.m==m&&y.period==p)=false:=by
    cases q:(y.m==m&&y.period==p)with
    |false=>rfl
    |true=>
     simp at q
     exact absurd (Prod.ext q.1 q.2) hy
   rw[this]
   rcases aas.mp he with rfl |he
   ·exact absurd k hy
   ·exact ih hn.2 he
theorem find_none{l:List Entry}{m p:Nat}(h:∀e∈l,key e≠(m,p)):(l.find? fun e=>e.m==m&&e.period==p)=none:=by
 rw[List.find?_eq_none]
 intro e he q
 simp at q
 exact h e he (Prod.ext q.1 q.2)
theorem mH{s:State}{m p:Nat}:hasEntry s m p=true↔∃e∈s.entries,key e=(m,p):=by
 unfold hasEntry
 rw[acq]
 constructor
 ·rintro⟨e,he,q⟩
  simp at q
  exact⟨e,he,Prod.ext q.1 q.2⟩
 ·rintro⟨e,he,q⟩
  have:=aba q
  exact⟨e,he,by simp[this.1,this.2]⟩
theorem Km(f:Entry→Nat){x:Entry}{l:List Entry}(hs:l.Pairwise wL):((putEntry x l).map f).sum+(((l.find? fun e=>e.m==x.m&&e.period==x.period).map f).getD 0)=(l.map f).sum+f x:=by
 by_cases h:∃e∈l,key e=key x
 ·obtain⟨e,he,k⟩:=h
  rw[vo hs ⟨e,he,k⟩,yf (ju hs) he k]
  have hn:=ju hs
  clear hs
  show _+f e=_
  induction l with
  |nil=>cases he
  |cons y r ih=>
   rw[aaJ,aaO]at hn
   simp only[aaJ,aaU]
   rcases aas.mp he with rfl |he
   ·rw[D7 k]
    have:∀y∈r,(if key y=key x then x else y)=y:=fun y hy=>by
     rw[D6]
     intro q
     exact hn.1 (aaE.mpr ⟨y,hy,q.trans k.symm⟩)
    rw[abk this,List.map_id']
    omega
   ·rw[D6 (fun q=>hn.1 (aaE.mpr ⟨e,he,k.trans q.symm⟩))]
    have:=ih he hn.2
    omega
 ·have hk:∀e∈l,key e≠key x:=fun e he k=>h ⟨e,he,k⟩
  have p:=(ye hk).map f
  rw[find_none hk,p.sum_nat]
  simp
  omega
theorem BJ{x:Entry}{l:List Entry}(hs:l.Pairwise wL):(putEntry x l).length≤l.length+1∧((∃e∈l,key e=key x)→(putEntry x l).length=l.length):=by
 by_cases h:∃e∈l,key e=key x
 ·rw[vo hs h,DS]
  exact⟨by omega,fun _=>rfl⟩
 ·rw[(ye fun e he k=>h ⟨e,he,k⟩).length_eq]
  exact⟨D9 _,fun q=>absurd q h⟩
def pend(rate:Nat)(e:Entry):Nat:=((centsOf e.total-e.cents)+(taxOf rate (centsOf e.total)-e.tax)).toNat
def mj(rate:Nat)(l:List Entry):Nat:=(l.map (pend rate)).sum
structure Core(n:Nat)(s:State):Prop where
 fO:s.members.length≤16
 excl:∀m,0<restOf s m→poolOf s m=0
 qW:∀x∈s.invoices,0<x.m∧x.m≤s.members.length
 fP:s.entries.Pairwise wL
 vJ:∀e∈s.entries,0<e.m∧e.m≤s.members.length
 qX:s.entries.length≤256
 yg:s.closed.length≤256
 yh:s.closed.Nodup
 mq:(s.failures.map (·.m)).Nodup
 gx:∀f∈s.failures,isFailed s f.m=true∧f.othersLeft.length≤s.members.length
 IL:(s.failures.map (·.nobodyLeft)).sum≤s.loss
 IM:s.loss+tot s.invoices+mj s.rate s.entries≤2000000000001*n
 rate:s.rate≤10000
structure Good(n:Nat)(s:State):Prop where
 core:Core n s
 bnd:My s
 sV:s.invoices.length≤256
 new:s.opened=false→s=start
theorem gX{n k:Nat}{s:State}(h:Core n s)(hk:n≤k):Core k s:=
 ⟨h.fO,h.excl,h.qW,h.fP,h.vJ,h.qX,h.yg,h.yh,h.mq,h.gx,h.IL,aaD h.IM (abQ _ hk),h.rate⟩
theorem good_mono{n k:Nat}{s:State}(h:Good n s)(hk:n≤k):Good k s:=⟨gX h.core hk,h.bnd,h.sV,h.new⟩
theorem wN(s:State){m k:Nat}(hm:0<m)(g:Member→Member):poolOf (setMember s m g) k=if k=m then((member? s k).map fun x=>(g x).pool).getD 0 else poolOf s k:=by
 unfold poolOf
 rw[i_ s hm]
 by_cases h:k=m
 ·rw[D7 h,D7 h];cases member? s k<;>rfl
 ·rw[D6 h,D6 h]
theorem qY(s:State){m k:Nat}(hm:0<m){g:Member→Member}(hg:∀x,(g x).failed=x.failed):isFailed (setMember s m g) k=isFailed s k:=by
 unfold isFailed
 rw[i_ s hm]
 by_cases h:k=m
 ·rw[D7 h]
  cases member? s k with
  |none=>rfl
  |some x=>exact hg x
 ·rw[D6 h]
theorem BK{n:Nat}{s:State}(h:Core n s){m:Nat}(hm:0<m){g:Member→Member}(hp:∀x,(g x).pool≤x.pool)(hf:∀x,(g x).failed=x.failed):Core n (setMember s m g):=by
 have hl:=eN s m g
 refine⟨by rw[hl];exact h.fO,fun k hk=>?_,fun x hx=>by rw[hl];exact h.qW x hx,h.fP,fun e he=>by rw[hl];exact h.vJ e he,h.qX,h.yg,h.yh,h.mq,fun f hf'=>?_,h.IL,h.IM,h.rate⟩
 ·have:=h.excl k hk
  rw[wN s hm]
  split
  ·unfold poolOf at this
   cases e:member? s k with
   |none=>rfl
   |some x=>
    rw[e]at this
    have h1:x.pool=0:=this
    have h2:=hp x
    show(g x).pool=0
    omega
  ·exact this
 ·rw[qY s hm hf,hl];exact h.gx f hf'
theorem v7{n:Nat}{s:State}(h:Core n s){m:Nat}(hm:0<m)(c:Nat):Core n (credited s m c):=by
 show Core n (setMember {s with invoices:=(onInvoices m c s.invoices).1} m fun y=>{y with pool:=y.pool+(onInvoices m c s.invoices).2})
 have hl:=eN {s with invoices:=(onInvoices m c s.invoices).1} m fun y=>{y with pool:=y.pool+(onInvoices m c s.invoices).2}
 have hin:∀x∈(onInvoices m c s.invoices).1,x.m∈s.invoices.map (·.m):=fun x hx=>by
  rw[←zN m (fun x=>x.m) (fun _ _=>rfl) s.invoices c]
  exact aaE.mpr ⟨x,hx,rfl⟩
 refine⟨by rw[hl];exact h.fO,fun k hk=>?_,fun x hx=>?_,h.fP,fun e he=>by rw[hl];exact h.vJ e he,h.qX,h.yg,h.yh,h.mq,fun f hf'=>?_,h.IL,?_,h.rate⟩
 ·have hk':0<oJ (onInvoices m c s.invoices).1 k:=hk
  rw[wN _ hm]
  by_cases e:k=m
  ·subst e
   rw[D7 rfl]
   rw[Bm]at hk'
   have h1:=h.excl k (by rw[dU];omega)
   have h2:=Bl k s.invoices c
   unfold poolOf at h1
   show((member? s k).map fun x=>x.pool+(onInvoices k c s.invoices).2).getD 0=0
   rw[h2]
   cases e:member? s k with
   |none=>rfl
   |some x=>
    rw[e]at h1
    have:x.pool=0:=h1
    show x.pool+(c-oJ s.invoices k)=0
    omega
  ·rw[D6 e]
   rw[yd e]at hk'
   exact h.excl k hk'
 ·obtain⟨y,hy,e⟩:=aaE.mp (hin x hx)
  rw[←e,hl]
  exact h.qW y hy
 ·exact⟨(qY _ hm (by intro _;rfl)).trans (h.gx f hf').1,by rw[hl];exact(h.gx f hf').2⟩
 ·have h1:=h.IM
  have h2:=Fi m s.invoices c
  show s.loss+tot (onInvoices m c s.invoices).1+mj s.rate s.entries≤_
  omega
theorem lC{s:State}{m p:Nat}(hs:s.entries.Pairwise wL)(h:hasEntry s m p=true):entryOf s m p∈s.entries∧(entryOf s m p).m=m∧(entryOf s m p).period=p:=by
 obtain⟨e,he,k⟩:=mH.mp h
 have:entryOf s m p=e:=by
  unfold entryOf
  rw[yf (ju hs) he k];rfl
 rw[this]
 have:=aba k
 exact⟨he,this.1,this.2⟩
theorem lE{s:State}{m p:Nat}(h:hasEntry s m p=false):entryOf s m p=⟨m,p,0,0,0,0⟩:=by
 unfold entryOf
 rw[find_none]
 ·rfl
 ·intro e he k
  have:=mH.mpr ⟨e,he,k⟩
  rw[h]at this;cases this
theorem oK(s:State){m p:Nat}(hs:s.entries.Pairwise wL):(entryOf s m p).m=m∧(entryOf s m p).period=p:=by
 cases h:hasEntry s m p with
 |true=>exact(lC hs h).2
 |false=>rw[lE h];exact⟨rfl,rfl⟩
theorem Em(rate:Nat){s:State}{m p:Nat}{x:Entry}(hs:s.entries.Pairwise wL)(h:hasEntry s m p=true)(hx:x.m=m∧x.period=p):mj rate (putEntry x s.entries)+pend rate (entryOf s m p)=mj rate s.entries+pend rate x:=by
 obtain⟨e,he,k⟩:=mH.mp h
 have f1:=yf (ju hs) he k
 have:=Km (pend rate) (x:=x) hs
 rw[hx.1,hx.2,f1]at this
 have e1:entryOf s m p=e:=by unfold entryOf;rw[f1];rfl
 rw[e1]
 exact this
theorem Lb(rate:Nat){s:State}{m p:Nat}{x:Entry}(hs:s.entries.Pairwise wL)(h:hasEntry s m p=false)(hx:x.m=m∧x.period=p):mj rate (putEntry x s.entries)=mj rate s.entries+pend rate x:=by
 have:=Km (pend rate) (x:=x) hs
 have f1:(s.entries.find? fun e=>e.m==x.m&&e.period==x.period)=none:=by
  rw[hx.1,hx.2]
  apply find_none
  intro e he k
  have:=mH.mpr ⟨e,he,k⟩
  rw[h]at this;cases this
 rw[f1]at this
 exact this
def bO(s:State)(m p:Nat):Entry:={entryOf s m p with seen:=(entryOf s m p).total,cents:=(entryOf s m p).cents+(billOf s m p).1,tax:=(entryOf s m p).tax+(billOf s m p).2}
def Kn(s:State)(m p:Nat):State:={s with
 entries:=putEntry (bO s m p) s.entries
 rounding:=s.rounding+((entryOf s m p).total-(entryOf s m p).seen-CENT*(billOf s m p).1)
 taxes:=s.taxes-(billOf s m p).2}
def lG(s:State)(m p:Nat):State:=setMember (Kn s m p) m fun x=>{x with unbilled:=x.unbilled-((entryOf s m p).total-(entryOf s m p).seen)}
def gG(s:State)(x:Invoice):State:={s with invoices:=s.invoices++[x]}
def emptied(s:State)(m:Nat):State:=setMember s m fun x=>{x with pool:=0}
def due(s:State)(m p:Nat):Int:=(billOf s m p).1+(billOf s m p).2
def Fj(s:State)(m p:Nat):Invoice:=⟨m,p,(billOf s m p).1,(billOf s m p).2,s.today+s.terms,(due s m p).toNat⟩
theorem ki(s:State)(m p:Nat):billed s m p=if due s m p=0 then lG s m p else if due s m p<0 then credited (gG (lG s m p) (Fj s m p)) m (-(due s m p)).toNat
 else credited (emptied (gG (lG s m p) (Fj s m p)) m) m (poolOf s m):=rfl
theorem Fl{n:Nat}{s:State}(h:Core n s){x:Invoice}(hm:0<x.m∧x.m≤s.members.length)(h0:x.rest=0):Core n (gG s x):=by
 refine⟨h.fO,fun k hk=>?_,fun y hy=>?_,h.fP,h.vJ,h.qX,h.yg,h.yh,h.mq,h.gx,h.IL,?_,h.rate⟩
 ·refine h.excl k ?_
  have hk':0<oJ (s.invoices++[x]) k:=hk
  rw[wK,eK,qU,h0]at hk'
  rw[dU]
  split at hk'<;>omega
 ·rcases aaV.mp hy with hy |hy
  ·exact h.qW y hy
  ·rw[aa5]at hy
   subst hy
   exact hm
 ·have:=h.IM
  show s.loss+tot (s.invoices++[x])+mj s.rate s.entries≤_
  rw[BH,ly,h0]
  show _+(_+(0+0))+_≤_
  omega
theorem IP{n:Nat}{s:State}(h:Core n s){x:Invoice}(hm:0<x.m∧x.m≤s.members.length)(c:Nat)(hp:s.loss+tot s.invoices+mj s.rate s.entries+x.rest≤2000000000001*n):Core n (credited (emptied (gG s x) x.m) x.m c):=by
 have hm0:=hm.1
 have hl:(credited (emptied (gG s x) x.m) x.m c).members.length=s.members.length:=by
  refine(eN _ _ _).trans ?_
  exact eN (gG s x) x.m _
 have hi:(credited (emptied (gG s x) x.m) x.m c).invoices=(onInvoices x.m c (s.invoices++[x])).1:=rfl
 have hin:∀y∈(onInvoices x.m c (s.invoices++[x])).1,0<y.m∧y.m≤s.members.length:=fun y hy=>by
  have:y.m∈(s.invoices++[x]).map (·.m):=by
   rw[←zN x.m (fun x=>x.m) (fun _ _=>rfl) (s.invoices++[x]) c]
   exact aaE.mpr ⟨y,hy,rfl⟩
  obtain⟨y',hy',e⟩:=aaE.mp this
  rw[←e]
  rcases aaV.mp hy' with hy' |hy'
  ·exact h.qW y' hy'
  ·rw[aa5]at hy'
   subst hy'
   exact hm
 have hfl:∀k,isFailed (credited (emptied (gG s x) x.m) x.m c) k=isFailed s k:=fun k=>by
  refine(qY _ hm0 (by intro _;rfl)).trans ?_
  exact(qY (gG s x) hm0 (by intro _;rfl)).trans rfl
 have V0:∀k,member? (credited (emptied (gG s x) x.m) x.m c) k=if k=x.m then(member? s k).map (fun y=>{y with pool:=0+(onInvoices x.m c (s.invoices++[x])).2})else member? s k:=fun k=>by
  refine(i_ _ hm0 _).trans ?_
  have e1:∀k,member? (emptied (gG s x) x.m) k=if k=x.m then(member? s k).map (fun x=>{x with pool:=0})else member? s k:=fun k=>i_ (gG s x) hm0 _
  by_cases e:k=x.m
  ·rw[D7 e,D7 e]
   show(member? (emptied (gG s x) x.m) k).map _=_
   rw[e1,D7 e]
   cases member? s k<;>rfl
  ·rw[D6 e,D6 e]
   exact(e1 k).trans (D6 e)
 refine⟨by rw[hl];exact h.fO,fun k hk=>?_,fun y hy=>by rw[hl];exact hin y hy,h.fP,fun e he=>by rw[hl];exact h.vJ e he,h.qX,h.yg,h.yh,h.mq,fun f hf=>by rw[hl,hfl];exact h.gx f hf,h.IL,?_,h.rate⟩
 ·rw[dU,hi]at hk
  unfold poolOf
  rw[V0]
  by_cases e:k=x.m
  ·subst e
   rw[D7 rfl]
   rw[Bm]at hk
   have h2:=Bl x.m (s.invoices++[x]) c
   cases member? s x.m with
   |none=>rfl
   |some y=>
    show 0+(onInvoices x.m c (s.invoices++[x])).2=0
    omega
  ·rw[D6 e]
   rw[yd e,wK,eK,qU,D6 (fun q=>e q.symm)]at hk
   exact h.excl k (by rw[dU];omega)
 ·have h1:=Fi x.m (s.invoices++[x]) c
  rw[BH,ly]at h1
  show s.loss+tot (onInvoices x.m c (s.invoices++[x])).1+mj s.rate s.entries≤_
  have h2:tot ([]:List Invoice)=0:=rfl
  omega
theorem AG(s:State)(m p:Nat):(lG s m p).members.length=s.members.length∧(lG s m p).invoices=s.invoices∧(lG s m p).loss=s.loss∧(lG s m p).rate=s.rate∧(lG s m p).entries=putEntry (bO s m p) s.entries:=
 ⟨eN (Kn s m p) m _,rfl,rfl,rfl,rfl⟩
theorem Eo{s:State}{m p:Nat}(hs:s.entries.Pairwise wL)(he:hasEntry s m p=true):mj s.rate (putEntry (bO s m p) s.entries)+(due s m p).toNat=mj s.rate s.entries:=by
 obtain⟨e1,e2,e3⟩:=lC hs he
 have hxp:pend s.rate (bO s m p)=0:=by
  unfold pend bO billOf
  dsimp only
  omega
 have hpp:pend s.rate (entryOf s m p)=(due s m p).toNat:=rfl
 have hsum:=Em s.rate (x:=bO s m p) hs he ⟨e2,e3⟩
 rw[hxp,hpp]at hsum
 exact hsum
theorem IQ{n:Nat}{s:State}(h:Core n s){m p:Nat}(hm:0<m)(hml:m≤s.members.length)(he:hasEntry s m p=true):Core n (lG s m p):=by
 obtain⟨e1,e2,e3⟩:=lC h.fP he
 have hs:=Eo h.fP he
 have QL:=h.IM
 refine BK (s:=Kn s m p) ?_ hm (fun _=>D9 _) fun _=>rfl
 refine⟨h.fO,h.excl,h.qW,wM h.fP,fun e he=>?_,?_,h.yg,h.yh,h.mq,h.gx,h.IL,?_,h.rate⟩
 ·rcases Bo h.fP he with rfl |he
  ·exact⟨by show 0<(entryOf s m p).m;rw[e2];exact hm,by show(entryOf s m p).m≤s.members.length;rw[e2];exact hml⟩
  ·exact h.vJ e he
 ·have:=(BJ (x:=bO s m p) h.fP).2 ⟨_,e1,rfl⟩
  show(putEntry (bO s m p) s.entries).length≤256
  rw[this];exact h.qX
 ·show s.loss+tot s.invoices+mj s.rate (putEntry (bO s m p) s.entries)≤_
  omega
theorem lH{n:Nat}{s:State}(h:Core n s){m p:Nat}(hm:0<m)(hml:m≤s.members.length)(he:hasEntry s m p=true):Core n (billed s m p):=by
 have h1:=IQ h hm hml he
 have hs:=Eo h.fP he
 have QL:=h.IM
 obtain⟨f1,f2,f3,f4,f5⟩:=AG s m p
 rw[ki]
 split
 ·exact h1
 ·split
  ·refine v7 (Fl h1 ⟨hm,by rw[f1];exact hml⟩ ?_) hm _
   show(due s m p).toNat=0
   omega
  ·refine IP (x:=Fj s m p) h1 ⟨hm,by rw[f1];exact hml⟩ _ ?_
   rw[f2,f3,f4,f5]
   show _+(due s m p).toNat≤_
   omega
theorem fJ{t t':State}{a l:List Int}(h:booked t a=.ok (t',l)):t'=t∧l=a∧My t:=by
 unfold booked at h
 split at h
 ·cases h
 ·rename_i hb
  have e:=aba (abm h)
  exact⟨e.1.symm,e.2.symm,(mX t).mp (by simpa using hb)⟩
theorem zO{t:State}{a:List Int}(h:My t):booked t a=.ok (t,a):=by
 unfold booked
 rw[(mX t).mpr h];rfl
theorem Mz(rate:Nat)(hr:rate≤10000){c d k:Int}(hk:0≤k)(h:d≤c+k):taxOf rate d≤taxOf rate c+k:=by
 unfold taxOf
 have hr':(rate:Int)≤10000:=by omega
 have h0:(0:Int)≤(rate:Int):=by omega
 have h1:d*(rate:Int)≤(c+k)*(rate:Int):=Int.mul_le_mul_of_nonneg_right h h0
 have h2:k*(rate:Int)≤k*10000:=Int.mul_le_mul_of_nonneg_left hr' hk
 rw[Int.add_mul]at h1
 show(d*(rate:Int)+5000)/10000≤(c*(rate:Int)+5000)/10000+k
 generalize d*(rate:Int)=x at*
 generalize c*(rate:Int)=y at*
 generalize k*(rate:Int)=z at*
 omega
def bz(e:Entry)(a:Int):Entry:={e with total:=e.total+a}
theorem Lc{rate:Nat}(hr:rate≤10000)(e:Entry){a:Int}(ha:a≤1000000000000000):pend rate (bz e a)≤pend rate e+2000000000001:=by
 have h1:centsOf (e.total+a)≤centsOf e.total+1000000000000:=by
  unfold centsOf CENT;omega
 have h2:=Mz rate hr (k:=1000000000000) (by omega) h1
 unfold pend bz
 dsimp only
 generalize taxOf rate (centsOf (e.total+a))=x at*
 generalize taxOf rate (centsOf e.total)=y at*
 omega
theorem pP{s:State}{m:Nat}{x:Member}(h:member? s m=some x):isFailed s m=x.failed:=by
 unfold isFailed;rw[h];rfl
theorem Ld{n:Nat}{s t:State}{m p:Nat}{a:Int}{l:List Int}(g:Good n s)(ho:s.opened=true)(ha:a≤1000000000000000)(h:does s (.item m p a)=.ok (t,l)):Good (n+1) t:=by
 have c:=g.core
 simp only[does]at h
 cases hx:member? s m with
 |none=>rw[hx]at h;cases h
 |some x=>
  rw[hx]at h
  dsimp only at h
  split at h
  ·cases h
  split at h
  ·cases h
  split at h
  ·cases h
  split at h
  ·cases h
  rename_i _ _ hent _
  obtain⟨rfl,_,b⟩:=fJ h
  have hm:=aR.mp ⟨x,hx⟩
  refine⟨BK (s:={s with entries:=putEntry (bz (entryOf s m p) a) s.entries,market:=s.market-a}) ?_ hm.1 (fun _=>D9 _) (fun _=>rfl),b,g.sV,fun q=>?_⟩
  ·have hk:=oK s (m:=m) (p:=p) c.fP
   have hlen:=BJ (x:=bz (entryOf s m p) a) c.fP
   have QL:=c.IM
   have Y7:=Lc c.rate (entryOf s m p) ha
   refine⟨c.fO,c.excl,c.qW,wM c.fP,fun e he=>?_,?_,c.yg,c.yh,c.mq,c.gx,c.IL,?_,c.rate⟩
   ·rcases Bo c.fP he with rfl |he
    ·exact⟨by show 0<(entryOf s m p).m;rw[hk.1];exact hm.1,by show(entryOf s m p).m≤_;rw[hk.1];exact hm.2⟩
    ·exact c.vJ e he
   ·show(putEntry _ s.entries).length≤256
    have hN:=c.qX
    cases hh:hasEntry s m p with
    |true=>
     obtain⟨h1,h2,h3⟩:=lC c.fP hh
     rw[hlen.2 ⟨_,h1,rfl⟩];exact hN
    |false=>
     have:¬ENTRIES≤s.entries.length:=fun q=>hent ⟨q,hh⟩
     unfold ENTRIES at this
     omega
   ·show s.loss+tot s.invoices+mj s.rate (putEntry _ s.entries)≤_
    cases hh:hasEntry s m p with
    |true=>
     have:=Em s.rate (x:=bz (entryOf s m p) a) c.fP hh hk
     omega
    |false=>
     have:=Lb s.rate (x:=bz (entryOf s m p) a) c.fP hh hk
     have hz:pend s.rate (entryOf s m p)=0:=by
      rw[lE hh]
      unfold pend centsOf taxOf CENT
      dsimp only
      rw[show((0:Int)/1000)=0 from rfl]
      rw[Int.zero_mul]
      decide
     omega
  ·have q':s.opened=false:=q
   rw[ho]at q';cases q'
theorem kY(s:State)(m p:Nat):(billed s m p).members.length=s.members.length:=by
 rw[ki]
 have h1:=(AG s m p).1
 split
 ·exact h1
 ·split
  ·exact(eN _ _ _).trans h1
  ·exact(eN _ _ _).trans ((eN _ _ _).trans h1)
theorem v8(s:State)(m p:Nat):(billed s m p).opened=s.opened:=by
 rw[ki]
 split
 ·rfl
 ·split<;>rfl
theorem iZ(s:State)(m p:Nat):(billed s m p).invoices.length=s.invoices.length+(if due s m p=0 then 0 else 1):=by
 rw[ki]
 split
 ·rfl
 ·split
  ·show(onInvoices m _ (s.invoices++[_])).1.length=_
   rw[qA,aat];rfl
  ·show(onInvoices m _ (s.invoices++[_])).1.length=_
   rw[qA,aat];rfl
theorem tL(s:State)(m p:Nat):(billed s m p).entries=putEntry (bO s m p) s.entries:=by
 rw[ki]
 split
 ·rfl
 ·split<;>rfl
theorem Ou{s t:State}{x:Entry}(hs:s.entries.Pairwise wL)(ht:t.entries=putEntry x s.entries)(hx:hasEntry s x.m x.period=true)(m p:Nat):hasEntry t m p=hasEntry s m p:=by
 obtain⟨e0,he0,k0⟩:=mH.mp hx
 have e:putEntry x s.entries=s.entries.map fun e=>if key e=key x then x else e:=vo hs ⟨e0,he0,k0⟩
 have k:∀y∈s.entries,key (if key y=key x then x else y)=key y:=fun y _=>by
  split
  ·rename_i h;exact h.symm
  ·rfl
 apply abD.mpr
 rw[mH,mH,ht,e]
 constructor
 ·rintro⟨y,hy,q⟩
  obtain⟨z,hz,rfl⟩:=aaE.mp hy
  exact⟨z,hz,(k z hz).symm.trans q⟩
 ·rintro⟨y,hy,q⟩
  exact⟨_,aaE.mpr ⟨y,hy,rfl⟩,(k y hy).trans q⟩
theorem qZ{s:State}{m p:Nat}(hs:s.entries.Pairwise wL)(he:hasEntry s m p=true)(k q:Nat):hasEntry (billed s m p) k q=hasEntry s k q:=by
 obtain⟨_,h2,h3⟩:=lC hs he
 refine Ou hs (tL s m p) ?_ k q
 show hasEntry s (entryOf s m p).m (entryOf s m p).period=true
 rw[h2,h3];exact he
theorem Le{n:Nat}{s t:State}{m p:Nat}{l:List Int}(g:Good n s)(ho:s.opened=true)(h:does s (.bill m p)=.ok (t,l)):Good (n+1) t:=by
 have c:=g.core
 simp only[does]at h
 cases hx:member? s m with
 |none=>rw[hx]at h;cases h
 |some x=>
  rw[hx]at h
  dsimp only at h
  split at h
  ·cases h
  split at h
  ·cases h
  split at h
  ·cases h
  rename_i hb
  split at h
  ·obtain⟨rfl,_⟩:=aba (abm h)
   exact good_mono g (aaX n)
  ·rename_i hh
   have IF:hasEntry s m p=true:=by simpa using hh
   obtain⟨rfl,_,b⟩:=fJ h
   have hm:=aR.mp ⟨x,hx⟩
   refine⟨gX (lH c hm.1 hm.2 IF) (aaX n),b,?_,fun q=>by rw[v8,ho]at q;cases q⟩
   rw[iZ]
   have hN:=g.sV
   split
   ·omega
   ·rename_i hd
    have:¬INVOICES≤s.invoices.length:=fun q=>hb ⟨by
     unfold bills
     exact bne_iff_ne.mpr hd,q⟩
    unfold INVOICES at this
    omega
theorem lI{s:State}{m p:Nat}(h:changedEntry s m p=true):hasEntry s m p=true:=by
 cases e:hasEntry s m p with
 |true=>rfl
 |false=>
  unfold changedEntry at h
  rw[lE e]at h
  simp at h
theorem eg{s:State}{p m:Nat}(h:m∈billable s p):(0<m∧m≤s.members.length)∧isFailed s m=false∧changedEntry s m p=true:=by
 unfold billable at h
 rw[List.mem_filter]at h
 obtain⟨h1,h2⟩:=h
 rw[aa1]at h2
 exact⟨pO.mp h1,by simpa using h2.1,h2.2⟩
theorem vp{n p:Nat}:∀(l:List Nat) {s:State},Core n s→(∀m∈l,(0<m∧m≤s.members.length)∧hasEntry s m p=true)→Core n (l.foldl (fun t m=>billed t m p) s)∧(l.foldl (fun t m=>billed t m p) s).opened=s.opened∧(l.foldl (fun t m=>billed t m p) s).members.length=s.members.length
 |[],s,c,_=>⟨c,rfl,rfl⟩
 |m::l,s,c,h=>by
  obtain⟨h1,h2⟩:=h m (aau ..)
  have c1:=lH c h1.1 h1.2 h2
  have:=vp l (s:=billed s m p) c1 fun k hk=>by
   obtain⟨h3,h4⟩:=h k (aap _ hk)
   rw[kY,qZ c.fP h2]
   exact⟨h3,h4⟩
  rw[v8,kY]at this
  exact this
theorem Fo{n:Nat}{s t:State}{p:Nat}{l:List Int}(g:Good n s)(ho:s.opened=true)(h:does s (.billAll p)=.ok (t,l)):Good (n+1) t:=by
 have c:=g.core
 simp only[does]at h
 split at h
 ·cases h
 split at h
 ·cases h
 rename_i hN
 obtain⟨rfl,_,b⟩:=fJ h
 obtain⟨c1,o1,_⟩:=vp (billable s p) (p:=p) c fun m hm=>⟨(eg hm).1,lI (eg hm).2.2⟩
 refine⟨gX c1 (aaX n),b,?_,fun q=>by rw[o1,ho]at q;cases q⟩
 unfold INVOICES at hN
 omega
theorem GK{l:List Invoice}{m:Nat}(h:∀x∈l,x.m≠m):oJ l m=0:=by
 unfold oJ
 rw[List.filter_eq_nil_iff.mpr fun x hx=>by have:=h x hx;simpa using this]
 rfl
theorem yi:kX 0:=by unfold kX BOOK;omega
theorem Ep:My start:=by
 refine⟨fun m x hx=>?_,yi,yi,yi,yi,yi,yi⟩
 unfold member? at hx
 split at hx
 ·cases hx
 ·simp[start]at hx
theorem IS:Good 0 start:=by
 refine⟨⟨by decide,fun m h=>?_,fun x hx=>(by cases hx),.nil,fun x hx=>(by cases hx),by decide,by decide,.nil,.nil,fun x hx=>(by cases hx),by decide,by decide,by decide⟩,Ep,by decide,fun _=>rfl⟩
 exact absurd h (by rw[dU,GK (fun x hx=>by cases hx)];omega)
theorem IT{n:Nat}{s t:State}{te r ho:Nat}{l:List Int}(g:Good n s)(hr:r≤10000)(hh:ho≤1000000000000000)(h:does s (.opens te r ho)=.ok (t,l)):Good (n+1) t:=by
 simp only[does]at h
 split at h
 ·cases h
 rename_i hop
 have e:=g.new (by simpa using hop)
 subst e
 obtain⟨rfl,_⟩:=aba (abm h)
 have c:=g.core
 refine⟨⟨c.fO,c.excl,c.qW,c.fP,c.vJ,c.qX,c.yg,c.yh,c.mq,c.gx,c.IL,aa0 _,hr⟩,?_,g.sV,fun q=>by cases q⟩
 have b:=Ep
 refine⟨b.mem,yi,yi,yi,?_,?_,yi⟩
 ·show kX (CENT*(ho:Int))
  unfold kX BOOK CENT;omega
 ·show kX (-(CENT*(ho:Int)))
  unfold kX BOOK CENT;omega
theorem wO(s:State)(k:Nat):member? {s with members:=s.members++[{}]} k=if k=s.members.length+1 then some {}else member? s k:=by
 unfold member?
 by_cases h0:k=0
 ·rw[D7 h0,D7 h0,D6 (by omega)]
 ·rw[D6 h0,D6 h0]
  show(s.members++[({}:Member)])[k-1]?=_
  by_cases h:k=s.members.length+1
  ·rw[D7 h,aaG (by omega)]
   have:k-1-s.members.length=0:=by omega
   rw[this];rfl
  ·rw[D6 h]
   by_cases h':k-1<s.members.length
   ·rw[aaA h']
   ·rw[aaP (by simp;omega),aaP (by omega)]
theorem GL{n:Nat}{s t:State}{l:List Int}(g:Good n s)(ho:s.opened=true)(h:does s .member=.ok (t,l)):Good (n+1) t:=by
 simp only[does]at h
 split at h
 ·cases h
 rename_i hN
 obtain⟨rfl,_⟩:=aba (abm h)
 have c:=g.core
 have hl:(s.members++[({}:Member)]).length=s.members.length+1:=by simp
 have hz:restOf s (s.members.length+1)=0:=by
  rw[dU]
  refine GK fun x hx=>?_
  have:=c.qW x hx;omega
 unfold MEMBERS at hN
 refine⟨⟨by show(s.members++[_]).length≤16;omega,fun k hk=>?_,fun x hx=>?_,c.fP,fun e he=>?_,c.qX,c.yg,c.yh,c.mq,fun f hf=>?_,c.IL,?_,c.rate⟩,?_,g.sV,fun q=>?_⟩
 ·have:=c.excl k hk
  unfold poolOf at this⊢
  rw[wO]
  split
  ·rfl
  ·exact this
 ·have:=c.qW x hx
  exact⟨this.1,by show x.m≤(s.members++[_]).length;omega⟩
 ·have:=c.vJ e he
  exact⟨this.1,by show e.m≤(s.members++[_]).length;omega⟩
 ·obtain⟨h1,h2⟩:=c.gx f hf
  refine⟨?_,by show _≤(s.members++[_]).length;omega⟩
  unfold isFailed at h1⊢
  rw[wO]
  split
  ·rename_i e
   have:member? s f.m=none:=by
    cases q:member? s f.m with
    |none=>rfl
    |some x=>
     have:=aR.mp ⟨x,q⟩
     omega
   rw[this]at h1;cases h1
  ·exact h1
 ·have:=c.IM
  show s.loss+tot s.invoices+mj s.rate s.entries≤_
  omega
 ·have b:=g.bnd
  refine⟨fun m x hx=>?_,b.ma,b.rd,b.tx,b.ca,b.ho,b.lo⟩
  rw[wO]at hx
  split at hx
  ·rename_i e
   cases hx
   subst e
   show kX 0∧kX (CENT*((restOf s (s.members.length+1):Int)-0))∧kX (-(CENT*0))∧kX (-(CENT*0))
   rw[hz]
   exact⟨yi,yi,yi,yi⟩
  ·exact b.mem m x hx
 ·have q':s.opened=false:=q
  rw[ho]at q';cases q'
theorem MB{n:Nat}{s t:State}{d:Nat}{l:List Int}(g:Good n s)(ho:s.opened=true)(h:does s (.day d)=.ok (t,l)):Good (n+1) t:=by
 simp only[does]at h
 split at h
 ·cases h
 obtain⟨rfl,_⟩:=aba (abm h)
 have c:=gX g.core (aaX n)
 refine⟨⟨c.fO,c.excl,c.qW,c.fP,c.vJ,c.qX,c.yg,c.yh,c.mq,c.gx,c.IL,c.IM,c.rate⟩,⟨g.bnd.mem,g.bnd.ma,g.bnd.rd,g.bnd.tx,g.bnd.ca,g.bnd.ho,g.bnd.lo⟩,g.sV,fun q=>?_⟩
 have q':s.opened=false:=q
 rw[ho]at q';cases q'
theorem Er{n:Nat}{s:State}(c:Core n s)(x:Int):Core n {s with cash:=x}:=
 ⟨c.fO,c.excl,c.qW,c.fP,c.vJ,c.qX,c.yg,c.yh,c.mq,c.gx,c.IL,c.IM,c.rate⟩
theorem MC{n:Nat}{s t:State}{m c:Nat}{l:List Int}(g:Good n s)(ho:s.opened=true)(h:does s (.pay m c)=.ok (t,l)):Good (n+1) t:=by
 simp only[does]at h
 cases hx:member? s m with
 |none=>rw[hx]at h;cases h
 |some x=>
  rw[hx]at h
  dsimp only at h
  split at h
  ·cases h
  obtain⟨rfl,_,b⟩:=fJ h
  have hm:=aR.mp ⟨x,hx⟩
  refine⟨gX (v7 (Er g.core _) hm.1 c) (aaX n),b,?_,fun q=>?_⟩
  ·show(onInvoices m c s.invoices).1.length≤256
   rw[qA];exact g.sV
  ·have q':s.opened=false:=q
   rw[ho]at q';cases q'
theorem yj{n:Nat}{s:State}{m:Nat}{f:Member→Member}{x:Int}(g:Good n s)(ho:s.opened=true)(hm:0<m)(hp:∀x,(f x).pool≤x.pool)(hf:∀x,(f x).failed=x.failed)(b:My (setMember {s with cash:=x} m f)):Good (n+1) (setMember {s with cash:=x} m f):=
 ⟨gX (BK (Er g.core _) hm hp hf) (aaX n),b,g.sV,fun q=>by
  have q':s.opened=false:=q
  rw[ho]at q';cases q'⟩
theorem GN{n:Nat}{s t:State}{m c:Nat}{l:List Int}(g:Good n s)(ho:s.opened=true)(h:does s (.refund m c)=.ok (t,l)):Good (n+1) t:=by
 simp only[does]at h
 cases hx:member? s m with
 |none=>rw[hx]at h;cases h
 |some x=>
  rw[hx]at h
  dsimp only at h
  split at h
  ·cases h
  split at h
  ·cases h
  obtain⟨rfl,_,b⟩:=fJ h
  exact yj g ho (aR.mp ⟨x,hx⟩).1 (fun _=>Nat.sub_le _ _) (fun _=>rfl) b
theorem Fp{n:Nat}{s t:State}{m c:Nat}{l:List Int}(g:Good n s)(ho:s.opened=true)(h:does s (.release m c)=.ok (t,l)):Good (n+1) t:=by
 simp only[does]at h
 cases hx:member? s m with
 |none=>rw[hx]at h;cases h
 |some x=>
  rw[hx]at h
  dsimp only at h
  split at h
  ·cases h
  split at h
  ·cases h
  obtain⟨rfl,_,b⟩:=fJ h
  exact yj g ho (aR.mp ⟨x,hx⟩).1 (fun _=>D9 _) (fun _=>rfl) b
theorem Fq{n:Nat}{s t:State}{m c:Nat}{l:List Int}(g:Good n s)(ho:s.opened=true)(h:does s (.deposit m c)=.ok (t,l)):Good (n+1) t:=by
 simp only[does]at h
 cases hx:member? s m with
 |none=>rw[hx]at h;cases h
 |some x=>
  rw[hx]at h
  dsimp only at h
  split at h
  ·cases h
  obtain⟨rfl,_,b⟩:=fJ h
  exact yj g ho (aR.mp ⟨x,hx⟩).1 (fun _=>D9 _) (fun _=>rfl) b
theorem Lf{n:Nat}{s t:State}{m c:Nat}{l:List Int}(g:Good n s)(ho:s.opened=true)(h:does s (.fund m c)=.ok (t,l)):Good (n+1) t:=by
 simp only[does]at h
 cases hx:member? s m with
 |none=>rw[hx]at h;cases h
 |some x=>
  rw[hx]at h
  dsimp only at h
  split at h
  ·cases h
  obtain⟨rfl,_,b⟩:=fJ h
  exact yj g ho (aR.mp ⟨x,hx⟩).1 (fun _=>D9 _) (fun _=>rfl) b
theorem IU{n:Nat}{s t:State}{p:Nat}{l:List Int}(g:Good n s)(ho:s.opened=true)(h:does s (.close p)=.ok (t,l)):Good (n+1) t:=by
 simp only[does]at h
 split at h
 ·cases h
 rename_i hc
 split at h
 ·cases h
 split at h
 ·cases h
 rename_i hN
 obtain⟨rfl,_⟩:=aba (abm h)
 have c:=gX g.core (aaX n)
 unfold ENTRIES at hN
 refine⟨⟨c.fO,c.excl,c.qW,c.fP,c.vJ,c.qX,?_,?_,c.mq,c.gx,c.IL,c.IM,c.rate⟩,⟨g.bnd.mem,g.bnd.ma,g.bnd.rd,g.bnd.tx,g.bnd.ca,g.bnd.ho,g.bnd.lo⟩,g.sV,fun q=>?_⟩
 ·show(s.closed++[p]).length≤256
  rw[aat]
  show _+1≤256
  omega
 ·show(s.closed++[p]).Nodup
  rw[acI]
  refine⟨c.yh,by simp,fun a ha b hb q=>?_⟩
  rw[aa5]at hb
  subst hb q
  unfold isClosed at hc
  simp at hc
  exact hc ha
 ·have q':s.opened=false:=q
  rw[ho]at q';cases q'
theorem Es{n:Nat}{s:State}(g:Good n s){m:Nat}{x:Member}(hx:member? s m=some x):x.pool=0∨restOf s m=0:=by
 by_cases h:0<restOf s m
 ·left
  have:=g.core.excl m h
  unfold poolOf at this
  rw[hx]at this
  exact this
 ·right;omega
theorem IV{n:Nat}{s:State}(g:Good n s){m c:Nat}{x:Member}(hx:member? s m=some x)(hp:c≤x.pool)(hc:(c:Int)≤s.cash):My (setMember {s with cash:=s.cash-(c:Int)} m fun y=>{y with pool:=y.pool-c}):=by
 have b:=g.bnd
 have hm:=aR.mp ⟨x,hx⟩
 refine⟨fun k y hy=>?_,b.ma,b.rd,b.tx,?_,b.ho,b.lo⟩
 ·rw[i_ _ hm.1]at hy
  split at hy
  ·rename_i e
   subst e
   have hy':(member? s k).map (fun y=>{y with pool:=y.pool-c})=some y:=hy
   rw[hx]at hy'
   cases hy'
   obtain⟨b1,b2,b3,b4⟩:=b.mem k x hx
   refine⟨b1,?_,b3,b4⟩
   show kX (CENT*((restOf s k:Int)-((x.pool-c:Nat):Int)))
   rcases Es g hx with h |h
   ·have:x.pool-c=x.pool:=by omega
    rw[this];exact b2
   ·rw[h]at b2⊢
    unfold kX BOOK CENT at*
    omega
  ·exact b.mem k y hy
 ·have:=b.ca
  show kX (CENT*(s.cash-(c:Int)))
  unfold kX BOOK CENT at*
  omega
theorem GO{n:Nat}{s:State}(g:Good n s){m c:Nat}{x:Member}(hx:member? s m=some x)(hp:c≤x.collateral)(hc:(c:Int)≤s.cash):My (setMember {s with cash:=s.cash-(c:Int)} m fun y=>{y with collateral:=y.collateral-c}):=by
 have b:=g.bnd
 have hm:=aR.mp ⟨x,hx⟩
 refine⟨fun k y hy=>?_,b.ma,b.rd,b.tx,?_,b.ho,b.lo⟩
 ·rw[i_ _ hm.1]at hy
  split at hy
  ·rename_i e
   subst e
   have hy':(member? s k).map (fun y=>{y with collateral:=y.collateral-c})=some y:=hy
   rw[hx]at hy'
   cases hy'
   obtain⟨b1,b2,b3,b4⟩:=b.mem k x hx
   refine⟨b1,b2,?_,b4⟩
   show kX (-(CENT*((x.collateral-c:Nat):Int)))
   unfold kX BOOK CENT at*
   omega
  ·exact b.mem k y hy
 ·have:=b.ca
  show kX (CENT*(s.cash-(c:Int)))
  unfold kX BOOK CENT at*
  omega
theorem fk(w:Nat)(l:List Nat):(split w l).length=l.length:=by
 unfold split
 dsimp only
 split
 ·rw[DS]
 ·rw[DS,aaN]
theorem Du(f:Nat→Nat):∀(l:List Nat),((List.range l.length).map fun i=>f (nth l i)).sum=(l.map f).sum:=by
 intro l
 have:(List.range l.length).map (fun i=>f (nth l i))=l.map f:=by
  apply abl
  intro i
  rw[HD,HD]
  by_cases h:i<l.length
  ·rw[D3 (by rw[aaN];exact h),D3 h]
   simp[nth,D3 h]
  ·rw[aaP (by rw[aaN];omega),aaP (by omega)];rfl
 rw[this]
theorem wQ(x t:Nat):∀l:List Nat,t*(l.map fun w=>x*w/t).sum+(l.map fun w=>x*w%t).sum=x*l.sum
 |[]=>by simp
 |a::l=>by
  have ih:=wQ x t l
  simp only[aaJ,aaU,Nat.mul_add]
  have:=acA (x*a) t
  omega
theorem Et{t:Nat}(ht:0<t)(f:Nat→Nat):∀l:List Nat,(∀j∈l,f j<t)→(l.map f).sum+(l.filter fun j=>decide (0<f j)).length≤t*(l.filter fun j=>decide (0<f j)).length
 |[],_=>by simp
 |a::l,h=>by
  have ih:=Et ht f l fun j hj=>h j (aap _ hj)
  have ha:=h a (aau ..)
  rw[aaJ,aaU,abi]
  by_cases hz:0<f a
  ·rw[D7 (by simpa using hz),aax,Nat.mul_add]
   omega
  ·rw[D6 (by simpa using hz)]
   omega
theorem IW{x:Nat}{l:List Nat}:l.sum*(x-(l.map fun w=>x*w/l.sum).sum)=(l.map fun w=>x*w%l.sum).sum:=by
 have:=wQ x l.sum l
 rw[Nat.mul_sub,Nat.mul_comm l.sum x]
 omega
theorem IX{x:Nat}{l:List Nat}(hW:0<l.sum){i:Nat}(h:rank x l.sum l i<x-(l.map fun w=>x*w/l.sum).sum):0<x*nth l i%l.sum:=by
 apply acB
 intro hz
 have hm:=IW (x:=x) (l:=l)
 have hs:=Du (fun w=>x*w%l.sum) l
 have hc:=Et hW (fun j=>x*nth l j%l.sum) (List.range l.length) fun j _=>abG _ hW
 rw[hs]at hc
 have hr:((List.range l.length).filter fun j=>decide (0<x*nth l j%l.sum)).length≤rank x l.sum l i:=by
  unfold rank
  rw[hz]
  rw[←List.countP_eq_length_filter,←List.countP_eq_length_filter]
  apply List.countP_mono_left
  intro j _ hj
  rw[hj];rfl
 generalize ((List.range l.length).filter fun j=>decide (0<x*nth l j%l.sum)).length=k at hc hr
 generalize x-(l.map fun w=>x*w/l.sum).sum=mi at h hm
 have h1:l.sum*mi≤l.sum*k:=by omega
 have h2:mi≤k:=Nat.le_of_mul_le_mul_left h1 hW
 omega
theorem Eu{x:Nat}{l:List Nat}(hW:l.sum≠0){i:Nat}(hi:i<l.length):nth (split x l) i=x*nth l i/l.sum+(if rank x l.sum l i<x-(l.map fun w=>x*w/l.sum).sum then 1 else 0):=by
 unfold split
 dsimp only
 rw[D6 hW]
 unfold nth
 rw[HD,D3 (by rw[aaN];exact hi)]
 simp
theorem Ft{l:List Nat}{i:Nat}(h:l.length≤i):nth l i=0:=by
 unfold nth;rw[aaP h];rfl
theorem split_le{x:Nat}{l:List Nat}(hx:x≤l.sum)(i:Nat):nth (split x l) i≤nth l i:=by
 by_cases hi:i<l.length
 ·by_cases hW:l.sum=0
  ·unfold split
   dsimp only
   rw[D7 hW]
   unfold nth
   rw[HD,D3 hi]
   exact aa0 _
  ·rw[Eu hW hi]
   have hW':0<l.sum:=acB hW
   have h1:x*nth l i≤l.sum*nth l i:=Nat.mul_le_mul_right _ hx
   have h2:x*nth l i/l.sum≤nth l i:=by
    apply Nat.div_le_of_le_mul
    exact h1
   split
   ·rename_i h
    have h3:=IX hW' h
    have h4:=acA (x*nth l i) l.sum
    have h5:x*nth l i/l.sum<nth l i:=by
     apply Nat.lt_of_mul_lt_mul_left (a:=l.sum)
     omega
    omega
   ·exact h2
 ·rw[Ft (by rw[fk];omega)]
  exact aa0 _
theorem zP{α β:Type}(f:Nat×α→β)(l:List α)(i:Nat):(((List.range l.length).zip l).map f)[i]?=(l[i]?).map fun y=>f (i,y):=by
 rw[HD]
 by_cases h:i<l.length
 ·have e:((List.range l.length).zip l)[i]?=some (i,l[i]):=by
   rw[abM]
   exact⟨by rw[D3 (by rw[aaN];exact h)];simp,D3 h⟩
  rw[e,D3 h];rfl
 ·rw[aaP (by simp;omega),aaP (by omega)];rfl
theorem zQ{α β:Type}(f:Nat×α→β)(l:List α):(((List.range l.length).zip l).map f).length=l.length:=by simp
theorem zR(s t:State)(f:Nat×Member→Member)(ht:t.members=((List.range s.members.length).zip s.members).map f)(k:Nat):member? t k=(member? s k).map fun y=>f (k-1,y):=by
 unfold member?
 split
 ·rfl
 ·rw[ht,zP]
def dQ(m:Nat)(l:List Invoice):List Invoice:=l.map fun y=>if y.m=m then{y with rest:=0}else y
theorem BL(m:Nat):∀l:List Invoice,tot (dQ m l)+oJ l m=tot l
 |[]=>rfl
 |x::l=>by
  have ih:=BL m l
  have e:dQ m (x::l)=(if x.m=m then{x with rest:=0}else x)::dQ m l:=rfl
  rw[e,ly,ly,eK]
  by_cases h:x.m=m
  ·rw[D7 h,D7 h]
   show 0+_+_=_
   omega
  ·rw[D6 h,D6 h]
   omega
theorem wR(m k:Nat):∀l:List Invoice,oJ (dQ m l) k=if k=m then 0 else oJ l k
 |[]=>by rw[show dQ m []=[]from rfl,qU];split<;>rfl
 |x::l=>by
  have ih:=wR m k l
  have e:dQ m (x::l)=(if x.m=m then{x with rest:=0}else x)::dQ m l:=rfl
  rw[e,eK,eK,ih]
  by_cases h:x.m=m
  ·rw[D7 h]
   show(if x.m=k then 0 else 0)+_=_
   by_cases hk:k=m
   ·rw[D7 hk,D7 hk];split<;>rfl
   ·rw[D6 hk,D6 hk,D6 (by omega),D6 (by omega)]
  ·rw[D6 h]
   by_cases hk:k=m
   ·rw[D7 hk,D7 hk,D6 (by omega)]
   ·rw[D6 hk,D6 hk]
def aN(s:State)(m:Nat)(x:Member):Borne:=borne (restOf s m) x.collateral x.fund s.house (funds s m)
def dW(s:State)(m:Nat)(x:Member):State:=(failed s m x).1
theorem q_(s:State)(m:Nat)(x:Member):(dW s m x).members=((List.range s.members.length).zip s.members).map fun y=>if y.1+1=m then{y.2 with collateral:=y.2.collateral-(aN s m x).collateral,fund:=y.2.fund-(aN s m x).own,failed:=true}else{y.2 with fund:=y.2.fund-nth (aN s m x).others y.1}:=rfl
theorem pQ(s:State)(m:Nat)(x:Member):(dW s m x).invoices=dQ m s.invoices:=rfl
theorem pR(s:State)(m:Nat)(x:Member):(dW s m x).failures=s.failures++[⟨m,restOf s m,(aN s m x).collateral,(aN s m x).own,(aN s m x).house,(aN s m x).others,(aN s m x).nobody,(aN s m x).house,(aN s m x).others,(aN s m x).nobody⟩]:=rfl
theorem oM(s:State){m:Nat}(x:Member){k:Nat}{y:Member}(hk:member? s k=some y):member? (dW s m x) k=some (if k=m then{y with collateral:=y.collateral-(aN s m x).collateral,fund:=y.fund-(aN s m x).own,failed:=true}else{y with fund:=y.fund-nth (aN s m x).others (k-1)}):=by
 have h0:=(aR.mp ⟨y,hk⟩).1
 rw[zR s _ _ (q_ s m x),hk]
 show some (if k-1+1=m then _ else _)=_
 rw[show k-1+1=k by omega]
theorem qB(s:State){m:Nat}(x:Member){k:Nat}(hk:member? s k=none):member? (dW s m x) k=none:=by
 rw[zR s _ _ (q_ s m x),hk];rfl
theorem Lg(s:State)(m:Nat)(x:Member):(aN s m x).nobody≤restOf s m:=by
 show restOf s m-_-_-_-_≤_
 omega
theorem GP(s:State)(m:Nat)(x:Member)(k:Nat):poolOf (dW s m x) k=poolOf s k:=by
 unfold poolOf
 cases hk:member? s k with
 |none=>rw[qB s x hk]
 |some y=>
  rw[oM s x hk]
  show(if k=m then({y with collateral:=y.collateral-(aN s m x).collateral,fund:=y.fund-(aN s m x).own,failed:=true}:Member)else{y with fund:=y.fund-nth (aN s m x).others (k-1)}).pool=y.pool
  split<;>rfl
theorem Dv(s:State){m:Nat}(x:Member)(k:Nat)(h:isFailed s k=true):isFailed (dW s m x) k=true:=by
 unfold isFailed at h⊢
 cases hk:member? s k with
 |none=>rw[hk]at h;cases h
 |some y=>
  rw[hk]at h
  rw[oM s x hk]
  show(if k=m then({y with collateral:=y.collateral-(aN s m x).collateral,fund:=y.fund-(aN s m x).own,failed:=true}:Member)else{y with fund:=y.fund-nth (aN s m x).others (k-1)}).failed=true
  split
  ·rfl
  ·exact h
theorem mJ(s:State)(m:Nat):(funds s m).length=s.members.length:=by
 unfold funds membersOf;simp
theorem iS(s:State)(m:Nat)(x:Member):(aN s m x).others.length=s.members.length:=by
 show(split _ (funds s m)).length=_
 rw[fk,mJ]
theorem Ew{n:Nat}{s:State}(c:Core n s){m:Nat}{x:Member}(hx:member? s m=some x)(hf:x.failed=false):Core n (dW s m x):=by
 have hl:(dW s m x).members.length=s.members.length:=by rw[q_,zQ]
 have hm:=aR.mp ⟨x,hx⟩
 refine⟨by rw[hl];exact c.fO,fun k hk=>?_,fun y hy=>?_,c.fP,fun e he=>by rw[hl];exact c.vJ e he,c.qX,c.yg,c.yh,?_,fun f hf'=>?_,?_,?_,c.rate⟩
 ·rw[GP]
  rw[dU,pQ,wR]at hk
  split at hk
  ·omega
  ·exact c.excl k hk
 ·rw[pQ]at hy
  obtain⟨z,hz,e⟩:=aaE.mp hy
  have:y.m=z.m:=by
   rw[←e];split<;>rfl
  rw[hl,this]
  exact c.qW z hz
 ·rw[pR,aaz,acI]
  refine⟨c.mq,by simp,fun a ha b hb q=>?_⟩
  simp only[aaJ,List.map_nil,aa5]at hb
  subst hb q
  obtain⟨f,hf',e⟩:=aaE.mp ha
  have h1:=(c.gx f hf').1
  rw[e,pP hx,hf]at h1
  cases h1
 ·rw[pR]at hf'
  rcases aaV.mp hf' with hf' |hf'
  ·rw[hl]
   exact⟨Dv s x _ (c.gx f hf').1,(c.gx f hf').2⟩
  ·rw[aa5]at hf'
   subst hf'
   refine⟨?_,by rw[hl];exact Nat.le_of_eq (iS s m x)⟩
   unfold isFailed
   rw[oM s x hx,D7 rfl]
   rfl
 ·rw[pR,aaz,acf]
  have:=c.IL
  show _+((aN s m x).nobody+0)≤s.loss+(aN s m x).nobody
  omega
 ·have:=c.IM
  have h1:=BL m s.invoices
  have h2:=Lg s m x
  rw[dU]at h2
  show s.loss+(aN s m x).nobody+tot (dQ m s.invoices)+mj s.rate s.entries≤_
  omega
theorem MD{n:Nat}{s:State}(g:Good n s)(hn:n≤400){m:Nat}{x:Member}(hx:member? s m=some x)(hf:x.failed=false)(ho:hasOverdue s m=true):My (dW s m x):=by
 have b:=g.bnd
 have QL:=(Ew g.core hx hf).IM
 have TN:x.pool=0:=by
  rcases Es g hx with h |h
  ·exact h
  ·exfalso
   unfold hasOverdue at ho
   rw[acq]at ho
   obtain⟨y,hy,q⟩:=ho
   rw[aa1]at q
   obtain⟨q1,q2⟩:=q
   unfold isOverdue at q2
   rw[aa1]at q2
   have q3:0<y.rest:=by simpa using q2.2
   have q4:y.m=m:=by simpa using q1
   have:∀l:List Invoice,y∈l→0<oJ l m:=by
    intro l
    induction l with
    |nil=>intro h;cases h
    |cons z r ih=>
     intro h
     rw[eK]
     rcases aas.mp h with rfl |h
     ·rw[D7 q4];omega
     ·have:=ih h;omega
   have:=this _ hy
   rw[dU]at h
   omega
 refine⟨fun k y hy=>?_,b.ma,b.rd,b.tx,b.ca,?_,?_⟩
 ·cases hk:member? s k with
  |none=>rw[qB s x hk]at hy;cases hy
  |some z=>
   rw[oM s x hk]at hy
   obtain⟨b1,b2,b3,b4⟩:=b.mem k z hk
   have er:restOf (dW s m x) k=if k=m then 0 else restOf s k:=by
    rw[dU,pQ,wR,dU]
   rw[er]
   split at hy
   ·rename_i e
    rw[D7 e]
    subst e
    rw[hx]at hk
    cases hk
    cases hy
    dsimp only
    rw[TN]
    refine⟨b1,by unfold kX BOOK CENT;omega,?_,?_⟩
    ·unfold kX BOOK CENT at*;omega
    ·unfold kX BOOK CENT at*;omega
   ·rename_i e
    rw[D6 e]
    cases hy
    dsimp only
    refine⟨b1,b2,b3,?_⟩
    unfold kX BOOK CENT at*;omega
 ·have:=b.ho
  show kX (-(CENT*((s.house-(aN s m x).house:Nat):Int)))
  unfold kX BOOK CENT at*;omega
 ·show kX (CENT*(((dW s m x).loss:Nat):Int))
  unfold kX BOOK CENT
  omega
theorem Lh{n:Nat}{s t:State}{m:Nat}{l:List Int}(g:Good n s)(ho:s.opened=true)(h:does s (.fail m)=.ok (t,l)):Good (n+1) t:=by
 simp only[does]at h
 cases hx:member? s m with
 |none=>rw[hx]at h;cases h
 |some x=>
  rw[hx]at h
  dsimp only at h
  split at h
  ·cases h
  rename_i hf
  split at h
  ·cases h
  obtain⟨rfl,_,b⟩:=fJ h
  refine⟨gX (Ew g.core hx (by simpa using hf)) (aaX n),b,?_,fun q=>?_⟩
  ·show(dQ m s.invoices).length≤256
   unfold dQ
   rw[DS];exact g.sV
  ·have q':s.opened=false:=q
   rw[ho]at q';cases q'
def cN(f:Failure)(c:Nat):Nat:=min c f.nobodyLeft
def jv(f:Failure)(c:Nat):Nat:=min (c-cN f c) f.othersLeft.sum
def gy(f:Failure)(c:Nat):Nat:=c-cN f c-jv f c
def dR(f:Failure)(c:Nat):List Nat:=split (jv f c) f.othersLeft
def yk(f:Failure)(c:Nat):Failure:={f with nobodyLeft:=f.nobodyLeft-cN f c,othersLeft:=(List.range f.othersLeft.length).map (fun i=>nth f.othersLeft i-nth (dR f c) i),houseLeft:=f.houseLeft-gy f c}
def gY(s:State)(f:Failure)(c:Nat):State:={s with
 cash:=s.cash+nat c
 loss:=s.loss-cN f c
 house:=s.house+gy f c
 members:=((List.range s.members.length).zip s.members).map fun y=>{y.2 with fund:=y.2.fund+nth (dR f c) y.1}
 failures:=s.failures.map fun h=>if h.m=f.m then yk f c else h}
theorem back_eq(s:State)(f:Failure)(c:Nat):gotBack s f c=(gY s f c,[nat (cN f c),nat (jv f c),nat (gy f c)]++(dR f c).map nat):=rfl
theorem gp{s:State}{m:Nat}{f:Failure}(h:failureOf s m=some f):f∈s.failures∧f.m=m:=by
 unfold failureOf at h
 exact⟨List.mem_of_find?_eq_some h,by have:=List.find?_some h;simpa using this⟩
theorem GQ{f g:Failure}(hg:g.nobodyLeft≤f.nobodyLeft):∀l:List Failure,(l.map (·.m)).Nodup→f∈l→((l.map fun h=>if h.m=f.m then g else h).map (·.nobodyLeft)).sum+(f.nobodyLeft-g.nobodyLeft)=(l.map (·.nobodyLeft)).sum
 |[],_,h=>by cases h
 |x::l,hn,h=>by
  rw[aaJ,aaO]at hn
  simp only[aaJ,aaU]
  rcases aas.mp h with rfl |h
  ·rw[D7 rfl]
   have:∀y∈l,(if y.m=f.m then g else y)=y:=fun y hy=>by
    rw[D6]
    intro q
    exact hn.1 (aaE.mpr ⟨y,hy,q⟩)
   rw[abk this,List.map_id']
   omega
  ·rw[D6 (fun q=>hn.1 (aaE.mpr ⟨f,h,q.symm⟩))]
   have:=GQ hg l hn.2 h
   omega
theorem Ex{n:Nat}{s:State}(c:Core n s){f:Failure}(hf:f∈s.failures)(k:Nat):Core n (gY s f k):=by
 have hl:(gY s f k).members.length=s.members.length:=zQ _ _
 have V0:∀j,member? (gY s f k) j=(member? s j).map fun y=>{y with fund:=y.fund+nth (dR f k) (j-1)}:=fun j=>zR s (gY s f k) (fun y=>{y.2 with fund:=y.2.fund+nth (dR f k) y.1}) rfl j
 have hmm:(gY s f k).failures.map (·.m)=s.failures.map (·.m):=by
  show(s.failures.map fun h=>if h.m=f.m then yk f k else h).map (·.m)=_
  rw[abe]
  apply abk
  intro h _
  show(if h.m=f.m then yk f k else h).m=h.m
  split
  ·rename_i e;exact e.symm
  ·rfl
 refine⟨by rw[hl];exact c.fO,fun j hj=>?_,fun y hy=>by rw[hl];exact c.qW y hy,c.fP,fun e he=>by rw[hl];exact c.vJ e he,c.qX,c.yg,c.yh,by rw[hmm];exact c.mq,fun h hh=>?_,?_,?_,c.rate⟩
 ·have:=c.excl j hj
  unfold poolOf at this⊢
  rw[V0]
  cases q:member? s j with
  |none=>rfl
  |some y=>rw[q]at this;exact this
 ·obtain⟨h0,QM,e⟩:=aaE.mp hh
  obtain⟨c1,c2⟩:=c.gx h0 QM
  have c3:=(c.gx f hf).2
  have em:h.m=h0.m:=by
   rw[←e];split
   ·rename_i q;exact q.symm
   ·rfl
  refine⟨?_,?_⟩
  ·rw[em]
   unfold isFailed at c1⊢
   rw[V0]
   cases q:member? s h0.m with
   |none=>rw[q]at c1;cases c1
   |some y=>rw[q]at c1;exact c1
  ·rw[hl,←e]
   split
   ·show((List.range f.othersLeft.length).map _).length≤_
    rw[DS,aaN];exact c3
   ·exact c2
 ·have h1:=GQ (f:=f) (g:=yk f k) (Nat.sub_le _ _) s.failures c.mq hf
  have h2:=c.IL
  show((s.failures.map fun h=>if h.m=f.m then yk f k else h).map (·.nobodyLeft)).sum≤s.loss-cN f k
  have h3:f.nobodyLeft-(yk f k).nobodyLeft=cN f k:=by
   show f.nobodyLeft-(f.nobodyLeft-cN f k)=_
   unfold cN;omega
  omega
 ·have:=c.IM
  show s.loss-cN f k+tot s.invoices+mj s.rate s.entries≤_
  omega
theorem Fv{n:Nat}{s t:State}{m c:Nat}{l:List Int}(g:Good n s)(ho:s.opened=true)(h:does s (.recover m c)=.ok (t,l)):Good (n+1) t:=by
 simp only[does]at h
 cases hx:member? s m with
 |none=>rw[hx]at h;cases h
 |some x=>
  rw[hx]at h
  dsimp only at h
  cases hf:failureOf s m with
  |none=>rw[hf]at h;cases h
  |some f=>
   rw[hf]at h
   dsimp only at h
   split at h
   ·cases h
   rw[back_eq]at h
   obtain⟨rfl,_,b⟩:=fJ h
   refine⟨gX (Ex g.core (gp hf).1 c) (aaX n),b,g.sV,fun q=>?_⟩
   have q':s.opened=false:=q
   rw[ho]at q';cases q'
def S1:Call→Prop
 | .opens _ r h=>r≤10000∧h≤1000000000000000
 | .item _ _ a=>a≤1000000000000000
 |_=>True
theorem Li{n:Nat}{s t:State}{c:Call}{l:List Int}(g:Good n s)(ho:s.opened=true∨isOpens c=true)(hc:S1 c)(h:does s c=.ok (t,l)):Good (n+1) t:=by
 have k:isOpens c=false→s.opened=true:=fun q=>by
  rcases ho with z |z
  ·exact z
  ·rw[q]at z;cases z
 have same:(∃l',does s c=.ok (s,l'))→Good (n+1) t:=fun⟨l',e⟩=>by
  rw[e]at h
  obtain⟨rfl,_⟩:=aba (abm h)
  exact good_mono g (aaX n)
 cases c with
 |opens te r ho=>exact IT g hc.1 hc.2 h
 |member=>exact GL g (k rfl) h
 |day d=>exact MB g (k rfl) h
 |item m p a=>exact Ld g (k rfl) hc h
 |bill m p=>exact Le g (k rfl) h
 |billAll p=>exact Fo g (k rfl) h
 |pay m c=>exact MC g (k rfl) h
 |refund m c=>exact GN g (k rfl) h
 |deposit m c=>exact Fq g (k rfl) h
 |release m c=>exact Fp g (k rfl) h
 |fund m c=>exact Lf g (k rfl) h
 |fail m=>exact Lh g (k rfl) h
 |recover m c=>exact Fv g (k rfl) h
 |close p=>exact IU g (k rfl) h
 |total m p=>
  simp only[does]at h
  split at h
  ·cases h
  ·obtain⟨rfl,_⟩:=aba (abm h)
   exact good_mono g (aaX n)
 |invoice i=>
  simp only[does]at h
  split at h
  ·cases h
  ·obtain⟨rfl,_⟩:=aba (abm h)
   exact good_mono g (aaX n)
 |invoices m=>
  simp only[does]at h
  split at h
  ·cases h
  ·obtain⟨rfl,_⟩:=aba (abm h)
   exact good_mono g (aaX n)
 |balance m=>
  simp only[does]at h
  split at h
  ·cases h
  ·obtain⟨rfl,_⟩:=aba (abm h)
   exact good_mono g (aaX n)
 |short=>exact same ⟨_,rfl⟩
 |overdue=>exact same ⟨_,rfl⟩
 |ledger=>exact same ⟨_,rfl⟩
 |taxes p=>exact same ⟨_,rfl⟩
 |failure m=>
  simp only[does]at h
  split at h
  ·cases h
  ·obtain⟨rfl,_⟩:=aba (abm h)
   exact good_mono g (aaX n)
 |preview m p=>
  simp only[does]at h
  split at h
  ·cases h
  ·obtain⟨rfl,_⟩:=aba (abm h)
   exact good_mono g (aaX n)
 |reckon t=>exact same ⟨_,rfl⟩
 |loss a b c d e=>exact same ⟨_,rfl⟩
theorem Lj{n:Nat}{s:State}{c:Call}(g:Good n s)(hc:S1 c):Good (n+1) (step s c).1:=by
 unfold step
 split
 ·exact good_mono g (aaX n)
 ·rename_i h
  have ho:s.opened=true∨isOpens c=true:=by
   cases e:s.opened with
   |true=>exact .inl rfl
   |false=>
    right
    cases e':isOpens c with
    |true=>rfl
    |false=>exact absurd ⟨e,e'⟩ h
  split
  ·exact good_mono g (aaX n)
  ·rename_i t l e
   exact Li g ho hc e
theorem BN{b:Bool}{a c:Call}(h:Vbemal.guard b a=some c):b=true∧a=c:=by
 unfold Vbemal.guard at h
 split at h
 ·exact⟨by assumption,aar h⟩
 ·cases h
theorem rj{n lo hi:Int}:inside n lo hi=true↔lo≤n∧n≤hi:=by
 unfold inside;simp
theorem Lk{c:List (List Int)}{a:Call}(h:decode c=some a):S1 a:=by
 rcases c with _|⟨_|⟨(n|n),x⟩,_|⟨y,_|⟨z,c⟩⟩⟩
 all_goals try exact absurd h (acw a).symm
 all_goals rcases x with _|⟨x0,_|⟨x1,_|⟨x2,_|⟨x3,_|⟨x4,x⟩⟩⟩⟩⟩
 all_goals try exact absurd h (acw a).symm
 all_goals (iterate 26 (rcases n with _|n;first
  |exact absurd h (acw a).symm
  |(obtain⟨h1,rfl⟩:=BN h;exact trivial)
  |(obtain⟨h1,rfl⟩:=BN h;simp only[aa1,rj]at h1;simp only[S1];unfold MONEY at h1;omega)
  |(have e:=aar h;subst e;exact trivial)))
 all_goals exact absurd h (acw a).symm
theorem Fw{n:Nat}{s:State}(g:Good n s)(c:List (List Int)):Good (n+1) (stepNumbers s c).1:=by
 unfold stepNumbers
 split
 ·exact good_mono g (aaX n)
 ·rename_i a e
  exact Lj g (Lk e)
def Ll(r:Nat→Nat)(j i:Nat):Bool:=decide (r i<r j)||(r j==r i&&decide (j<i))
theorem IY(r:Nat→Nat)(i:Nat):Ll r i i=false:=by unfold Ll;simp
theorem Lm{r:Nat→Nat}{i j:Nat}(h:Ll r j i=true):Ll r i j=false:=by
 unfold Ll at*
 simp only[acg,aa1,decide_eq_true_eq,abN]at h
 simp only[Bool.or_eq_false_iff,Bool.and_eq_false_iff,decide_eq_false_iff_not,aaW]
 omega
theorem Ov(whole total:Nat)(l:List Nat)(i:Nat):rank whole total l i=((List.range l.length).filter fun j=>Ll (fun j=>whole*nth l j%total) j i).length:=rfl
theorem Ey{r:Nat→Nat}:∀{L:List Nat} {i x:Nat},L.Pairwise (fun a b=>Ll r a b=true)→L[i]?=some x→(L.filter fun j=>Ll r j x).length=i
 |[],i,x,_,h=>by simp at h
 |a::L,0,x,hp,h=>by
  have e:a=x:=by simpa using h
  subst e
  obtain⟨h1,_⟩:=abJ.mp hp
  rw[abi,D6 (by rw[IY];decide)]
  rw[List.filter_eq_nil_iff.mpr fun b hb=>by rw[Lm (h1 b hb)];decide]
  rfl
 |a::L,i+1,x,hp,h=>by
  obtain⟨h1,h2⟩:=abJ.mp hp
  have h':L[i]?=some x:=by simpa using h
  have hx:=h1 x (aaB h')
  rw[abi,D7 hx,aax,Ey h2 h']
theorem Ln{r:Nat→Nat}{n k:Nat}{L:List Nat}(hP:L.Perm (List.range n))(hs:L.Pairwise (fun a b=>Ll r a b=true)){x:Nat}(hx:x<n):x∈L.take k↔((List.range n).filter fun j=>Ll r j x).length<k:=by
 have hm:x∈L:=hP.mem_iff.mpr (abS.mpr hx)
 obtain⟨i,hi⟩:=List.getElem?_of_mem hm
 have hc:=Ey hs hi
 have he:((List.range n).filter fun j=>Ll r j x).length=i:=by
  rw[←hc]
  exact((hP.filter _).length_eq).symm
 rw[he]
 have hn:L.Nodup:=hP.nodup_iff.mpr List.nodup_range
 constructor
 ·intro h
  obtain⟨j,hj⟩:=List.getElem?_of_mem h
  rw[List.getElem?_take]at hj
  split at hj
  ·rename_i hjk
   obtain⟨a1,b1⟩:=aao.mp hi
   obtain⟨a2,b2⟩:=aao.mp hj
   have:i=j:=(List.getElem_inj hn).mp (b1.trans b2.symm)
   omega
  ·cases hj
 ·intro h
  refine aaB (i:=i) ?_
  rw[List.getElem?_take,D7 h]
  exact hi
theorem IZ{r:Nat→Nat}{n:Nat}{L:List Nat}(ho:L.Pairwise fun a b=>r b≤r a)(hst:∀z,L.filter (fun x=>r x==z)=(List.range n).filter fun x=>r x==z):L.Pairwise fun a b=>Ll r a b=true:=by
 rw[List.pairwise_iff_getElem]at ho⊢
 intro i j hi hj hij
 have h1:=ho i j hi hj hij
 unfold Ll
 simp only[acg,aa1,decide_eq_true_eq,abN]
 by_cases e:r L[i]=r L[j]
 ·right
  refine⟨e,?_⟩
  have hp:(L.filter fun x=>r x==r L[i]).Pairwise (· < ·):=by
   rw[hst]
   exact(List.pairwise_lt_range).filter _
  rw[List.pairwise_filter,List.pairwise_iff_getElem]at hp
  exact hp i j hi hj hij (by simp) (by simp[e])
 ·left;omega
def bump(mY:List Int):List Nat→List Int
 |[]=>mY
 |p::ps=>bump (mY.set p (mY.getD p 0+1)) ps
theorem tM:∀(ps:List Nat) (mY:List Int),(bump mY ps).length=mY.length
 |[],_=>rfl
 |p::ps,sh=>by
  show(bump _ ps).length=_
  rw[tM ps,ab0]
theorem GR:∀(ps:List Nat) (mY:List Int),ps.Nodup→(∀p∈ps,p<mY.length)→∀i,i<mY.length→(bump mY ps).getD i 0=mY.getD i 0+(if i∈ps then 1 else 0)
 |[],sh,_,_,i,_=>by
  show sh.getD i 0=_
  simp
 |p::ps,sh,hn,hb,i,hi=>by
  rw[aaO]at hn
  have hp:=hb p (aau ..)
  show(bump (sh.set p (sh.getD p 0+1)) ps).getD i 0=_
  rw[GR ps _ hn.2 (fun q hq=>by rw[ab0];exact hb q (aap _ hq)) i (by rw[ab0];exact hi)]
  by_cases e:i=p
  ·subst e
   rw[D6 hn.1,D7 (aau ..)]
   simp[List.getD,abb hi]
  ·have:(i∈p::ps)↔i∈ps:=by simp[e]
   simp only[this]
   congr 1
   simp[List.getD,aa' (fun q=>e q.symm)]
theorem I_{x:Nat}{l:List Nat}(hW:l.sum≠0){L:List Nat}(hP:L.Perm (List.range l.length))(ho:L.Pairwise fun a b=>x*nth l b%l.sum≤x*nth l a%l.sum)(hst:∀z,L.filter (fun j=>x*nth l j%l.sum==z)=(List.range l.length).filter fun j=>x*nth l j%l.sum==z):bump (l.map fun w=>((x*w/l.sum:Nat):Int)) (L.take (x-(l.map fun w=>x*w/l.sum).sum))=(split x l).map Int.ofNat:=by
 have hs:=IZ (r:=fun j=>x*nth l j%l.sum) ho hst
 have hn:L.Nodup:=hP.nodup_iff.mpr List.nodup_range
 have hlt:∀p∈L,p<l.length:=fun p hp=>abS.mp (hP.mem_iff.mp hp)
 have hlen:(bump (l.map fun w=>((x*w/l.sum:Nat):Int)) (L.take (x-(l.map fun w=>x*w/l.sum).sum))).length=l.length:=by
  rw[tM,DS]
 apply List.ext_getElem
 ·rw[hlen,DS,fk]
 ·intro i h1 h2
  have hi:i<l.length:=by rw[hlen]at h1;exact h1
  have hg:=GR (L.take (x-(l.map fun w=>x*w/l.sum).sum)) (l.map fun w=>((x*w/l.sum:Nat):Int)) (hn.sublist (List.take_sublist ..)) (fun p hp=>by rw[DS];exact hlt p (ab4 hp)) i (by rw[DS];exact hi)
  have e1:∀(k:List Int) (h:i<k.length),k.getD i 0=k[i]:=fun k h=>by simp[List.getD,D3 h]
  rw[e1 _ h1,e1 _ (by rw[DS];exact hi)]at hg
  rw[hg,List.getElem_map,List.getElem_map]
  have hs2:=Eu (x:=x) hW hi
  have e2:nth (split x l) i=(split x l)[i]'(by rw[fk];exact hi):=by
   unfold nth;rw[D3 (by rw[fk];exact hi)];rfl
  have e3:nth l i=l[i]:=by unfold nth;rw[D3 hi];rfl
  rw[←e2,hs2,←e3]
  have ht:=Ln (k:=x-(l.map fun w=>x*w/l.sum).sum) hP hs hi
  rw[Ov]
  by_cases q:i∈L.take (x-(l.map fun w=>x*w/l.sum).sum)
  ·rw[D7 q,D7 (ht.mp q)]
   simp
  ·rw[D6 q,D6 (fun z=>q (ht.mpr z))]
   simp
theorem Ko(m:Nat)(x:Invoice):∀(l:List Invoice) (c:Nat),onInvoices m c (l++[x])=if x.m=m then((onInvoices m c l).1++[{x with rest:=x.rest-(onInvoices m c l).2}],(onInvoices m c l).2-x.rest)else((onInvoices m c l).1++[x],(onInvoices m c l).2)
 |[],c=>by
  show onInvoices m c [x]=_
  unfold onInvoices
  by_cases h:x.m=m
  ·rw[D7 h,D7 h];rfl
  ·rw[D6 h,D6 h];rfl
 |y::l,c=>by
  show onInvoices m c (y::(l++[x]))=_
  have e:∀c',onInvoices m c' (l++[x])=_:=Ko m x l
  by_cases hy:y.m=m
  ·have e1:∀r:List Invoice,onInvoices m c (y::r)=({y with rest:=y.rest-c}::(onInvoices m (c-y.rest) r).1,(onInvoices m (c-y.rest) r).2):=fun r=>by
    conv=>lhs;unfold onInvoices
    rw[D7 hy]
   rw[e1,e1,e]
   by_cases h:x.m=m
   ·rw[D7 h,D7 h];rfl
   ·rw[D6 h,D6 h];rfl
  ·have e1:∀r:List Invoice,onInvoices m c (y::r)=(y::(onInvoices m c r).1,(onInvoices m c r).2):=fun r=>by
    conv=>lhs;unfold onInvoices
    rw[D6 hy]
   rw[e1,e1,e]
   by_cases h:x.m=m
   ·rw[D7 h,D7 h];rfl
   ·rw[D6 h,D6 h];rfl
theorem aa6{α:Type}:∀{l:List α} {i:Nat} {x:α},l[i]?=some x→l.take (i+1)=l.take i++[x]
 |[],i,x,h=>by simp at h
 |a::l,0,x,h=>by
  have e:a=x:=aar h
  subst e
  rfl
 |a::l,i+1,x,h=>by
  have ih:=aa6 (l:=l) (i:=i) (x:=x) h
  show a::l.take (i+1)=a::l.take i++[x]
  rw[ih]
  rfl
def pS(n:Nat)(l:List Invoice):List Int:=(List.range n).map fun k=>((oJ l (k+1):Nat):Int)
theorem kZ(n:Nat)(l:List Invoice):(pS n l).length=n:=by unfold pS;simp
theorem mZ{n:Nat}{l:List Invoice}{k:Nat}(h:k<n):(pS n l)[k]?=some ((oJ l (k+1):Nat):Int):=by
 unfold pS
 rw[HD,D3 (by rw[aaN];exact h)]
 simp
theorem GS{n:Nat}{l:List Invoice}{x:Invoice}(h:0<x.m∧x.m≤n):(pS n l).set (x.m-1) (((oJ l x.m:Nat):Int)+(x.rest:Int))=pS n (l++[x]):=by
 apply abl
 intro k
 by_cases hk:k<n
 ·rw[mZ hk,wK,eK,qU]
  by_cases e:x.m-1=k
  ·have:k+1=x.m:=by omega
   rw[e,abb (by rw[kZ];exact hk),this,D7 rfl]
   congr 1
  ·rw[aa' e,mZ hk,D6 (by omega)]
   congr 1
 ·rw[aaP (by rw[ab0,kZ];omega),aaP (by rw[kZ];omega)]
theorem Ja(n:Nat):pS n []=List.replicate n 0:=by
 unfold pS
 apply abl
 intro k
 by_cases hk:k<n
 ·simp[hk,qU]
 ·simp[hk]
def fK(s:State)(n:Nat):List Int:=[s.taxes,s.cash,-(s.house:Int),(s.loss:Int)]++
 ((List.range n).flatMap fun k=>match s.members[k]? with
  |none=>[]
  |some x=>[((oJ s.invoices (k+1):Nat):Int)-(x.pool:Int),-(x.collateral:Int),-(x.fund:Int)])
def gH(s:State)(n:Nat):List Int:=[s.market,s.rounding]++
 ((List.range n).flatMap fun k=>match s.members[k]? with
  |none=>[]
  |some x=>[x.unbilled])
def m8(s:State):List Int:=gH s s.members.length++(fK s s.members.length).map fun c=>1000*c
def vK(z:Int):Bool:=decide (z< -1000000000000000000)||decide (1000000000000000000<z)
theorem Ez(s:State):(m8 s).any vK=false↔My s:=by
 have ob:∀z,vK z=false↔kX z:=fun z=>by
  unfold vK kX BOOK
  simp only[Bool.or_eq_false_iff,decide_eq_false_iff_not]
  omega
 rw[acH]
 have k:(∀z∈m8 s,¬vK z=true)↔∀z∈m8 s,kX z:=by
  constructor
  ·intro h z hz;exact(ob z).mp (by simpa using h z hz)
  ·intro h z hz;rw[(ob z).mpr (h z hz)];decide
 rw[k]
 have gm:∀i x,s.members[i]?=some x↔member? s (i+1)=some x:=fun i x=>by unfold member?;rw[D6 (by omega)];rfl
 constructor
 ·intro h
  have hu:∀z∈gH s s.members.length,kX z:=fun z hz=>h z (abo _ hz)
  have hc:∀z∈fK s s.members.length,kX (1000*z):=fun z hz=>h _ (aaY _ (aaE.mpr ⟨z,hz,rfl⟩))
  have hc4:∀z∈([s.taxes,s.cash,-(s.house:Int),(s.loss:Int)]:List Int),kX (1000*z):=fun z hz=>hc z (abo _ hz)
  refine⟨fun m x hx=>?_,hu _ (abo _ (by simp)),hu _ (abo _ (by simp)),hc4 _ (by simp),hc4 _ (by simp),?_,hc4 _ (by simp)⟩
  ·obtain⟨h1,h2⟩:=aR.mp ⟨x,hx⟩
   have hx':s.members[m-1]?=some x:=(gm (m-1) x).mpr (by rw[show m-1+1=m by omega];exact hx)
   have hm:m-1∈List.range s.members.length:=abS.mpr (by omega)
   have c3:∀z∈([((oJ s.invoices m:Nat):Int)-(x.pool:Int),-(x.collateral:Int),-(x.fund:Int)]:List Int),kX (1000*z):=fun z hz=>
    hc z (aaY _ (ab7.mpr ⟨m-1,hm,by rw[hx',show m-1+1=m by omega];exact hz⟩))
   refine⟨hu _ (aaY _ (ab7.mpr ⟨m-1,hm,by rw[hx'];simp⟩)),c3 _ (aau ..),?_,?_⟩
   ·have:=c3 (-(x.collateral:Int)) (by simp)
    unfold kX BOOK CENT at*;omega
   ·have:=c3 (-(x.fund:Int)) (by simp)
    unfold kX BOOK CENT at*;omega
  ·have:=hc4 (-(s.house:Int)) (by simp)
   unfold kX BOOK CENT at*;omega
 ·intro b z hz
  have b2:=b.tx;have b3:=b.ca;have b4:=b.ho;have b5:=b.lo
  rcases aaV.mp hz with hz |hz
  ·rcases aaV.mp hz with hz |hz
   ·simp only[aas,abu,or_false]at hz
    rcases hz with rfl |rfl
    ·exact b.ma
    ·exact b.rd
   ·obtain⟨i,hi,hz⟩:=ab7.mp hz
    cases q:s.members[i]? with
    |none=>rw[q]at hz;cases hz
    |some x=>
     rw[q]at hz
     rw[aa5]at hz
     subst hz
     exact(b.mem (i+1) x ((gm i x).mp q)).1
  ·obtain⟨c,hc,rfl⟩:=aaE.mp hz
   rcases aaV.mp hc with hc |hc
   ·simp only[aas,abu,or_false]at hc
    rcases hc with rfl |rfl |rfl |rfl
    ·exact b2
    ·exact b3
    ·unfold kX BOOK CENT at*;omega
    ·exact b5
   ·obtain⟨i,hi,hc⟩:=ab7.mp hc
    cases q:s.members[i]? with
    |none=>rw[q]at hc;cases hc
    |some x=>
     rw[q]at hc
     obtain⟨c1,c2,c3,c4⟩:=b.mem (i+1) x ((gm i x).mp q)
     rw[dU]at c2
     simp only[aas,abu,or_false]at hc
     rcases hc with rfl |rfl |rfl
     ·exact c2
     ·unfold kX BOOK CENT at*;omega
     ·unfold kX BOOK CENT at*;omega
theorem tN{s:State}{n:Nat}{x:Member}(h:s.members[n]?=some x):fK s (n+1)=fK s n++[((oJ s.invoices (n+1):Nat):Int)-(x.pool:Int),-(x.collateral:Int),-(x.fund:Int)]:=by
 unfold fK
 rw[List.range_succ,List.flatMap_append,ack]
 simp[h]
theorem tO{s:State}{n:Nat}{x:Member}(h:s.members[n]?=some x):gH s (n+1)=gH s n++[x.unbilled]:=by
 unfold gH
 rw[List.range_succ,List.flatMap_append,ack]
 simp[h]
theorem Fx(s:State)(n:Nat)(h:n≤s.members.length):(fK s n).length=4+3*n∧(gH s n).length=2+n:=by
 induction n with
 |zero=>exact⟨rfl,rfl⟩
 |succ n ih=>
  obtain⟨x,hx⟩:∃x,s.members[n]?=some x:=⟨_,D3 (by omega)⟩
  have:=ih (by omega)
  rw[tN hx,tO hx,aat,aat,this.1,this.2]
  exact⟨by simp;omega,by simp;omega⟩
theorem GU{s:State}{m p:Nat}{e:Entry}(hs:s.entries.Pairwise wL)(he:e∈s.entries)(k:key e=(m,p)):entryOf s m p=e:=by
 unfold entryOf
 rw[yf (ju hs) he k];rfl
def rq(m:Nat)(l:List Member):List Member:=mapAt (fun x=>{x with failed:=true}) (m-1) l
theorem GV(s:State){m:Nat}(hm:0<m):(rq m s.members).map (fun x=>if x.failed=true then 0 else x.fund)=funds s m:=by
 apply abl
 intro i
 unfold funds membersOf rq
 rw[HD,abe,HD,zM]
 by_cases h:i<s.members.length
 ·rw[D3 (l:=List.range _) (by rw[aaN];exact h)]
  have e:member? s (i+1)=some s.members[i]:=by
   unfold member?
   rw[D6 (by omega)]
   exact D3 h
  have e2:isFailed s (i+1)=s.members[i].failed:=by unfold isFailed;rw[e];rfl
  rw[D3 h]
  simp only[List.getElem_range,Option.map_some,Function.comp_apply,e,e2,Option.getD_some]
  by_cases q:i=m-1
  ·rw[D7 q]
   simp[show i+1=m by omega]
  ·rw[D6 q]
   have:¬i+1=m:=by omega
   simp[this]
 ·rw[aaP (l:=List.range _) (by rw[aaN];omega),aaP (by omega)]
  split<;>rfl
theorem Lo(s:State){m:Nat}(hm:0<m)(hl:m≤s.members.length):Vbemal.nth (funds s m) (m-1)=0:=by
 unfold Vbemal.nth funds membersOf
 rw[abe,HD,D3 (by rw[aaN];omega)]
 simp[show m-1+1=m by omega]
theorem GW(s:State){m:Nat}(x:Member)(hm:0<m)(hl:m≤s.members.length):Vbemal.nth (aN s m x).others (m-1)=0:=by
 have h1:Vbemal.nth (split (min (restOf s m-min (restOf s m) x.collateral-min (restOf s m-min (restOf s m) x.collateral) x.fund-min (restOf s m-min (restOf s m) x.collateral-min (restOf s m-min (restOf s m) x.collateral) x.fund) s.house) (funds s m).sum) (funds s m)) (m-1)≤Vbemal.nth (funds s m) (m-1):=split_le (abT _ _) _
 rw[Lo s hm hl]at h1
 exact Nat.le_zero.mp h1
theorem EA(s:State)(m:Nat)(x:Member)(i:Nat):Vbemal.nth (aN s m x).others i≤Vbemal.nth (funds s m) i:=split_le (abT _ _) _
def cU(k:Nat):List Invoice→List (List Int)
 |[]=>[]
 |x::l=>[nat (k+1),nat x.m,x.cents,x.tax]::cU (k+1) l
theorem yl:∀(l:List Invoice) (k:Nat),(cU k l).length=l.length
 |[],_=>rfl
 |x::l,k=>by show(cU (k+1) l).length+1=l.length+1;rw[yl l]
theorem oN(b:Nat):∀(l:List Invoice) (k:Nat),((List.range' k l.length).zip l).filterMap (fun x=>if x.1<b then none else some [nat (x.1+1),nat x.2.m,x.2.cents,x.2.tax])=cU (max k b) (l.drop (b-k))
 |[],k=>by simp[cU]
 |x::l,k=>by
  have ih:=oN b l (k+1)
  rw[aax,List.range'_succ,List.zip_cons_cons,abR]
  by_cases h:k<b
  ·rw[D7 h]
   dsimp only
   rw[ih,show b-k=(b-(k+1))+1 by omega,List.drop_succ_cons]
   congr 1
   omega
  ·rw[D6 h]
   dsimp only
   rw[ih,show b-k=0 by omega,show b-(k+1)=0 by omega,List.drop_zero,List.drop_zero]
   show _=[nat (max k b+1),nat x.m,x.cents,x.tax]::cU (max k b+1) l
   rw[show max k b=k by omega,show max (k+1) b=k+1 by omega]
theorem wU(s t:State):newOnes s t=cU s.invoices.length (t.invoices.drop s.invoices.length):=by
 unfold newOnes
 rw[List.range_eq_range',oN]
 rw[show max 0 s.invoices.length=s.invoices.length by omega,Nat.sub_zero]
theorem BO(x:Invoice):∀(l:List Invoice) (k:Nat),cU k (l++[x])=cU k l++[[nat (k+l.length+1),nat x.m,x.cents,x.tax]]
 |[],k=>rfl
 |y::l,k=>by
  show _::cU (k+1) (l++[x])=_::(cU (k+1) l++_)
  rw[BO x l,aax,show k+(l.length+1)+1=k+1+l.length+1 by omega]
theorem oO(l:List Invoice):∀k,(cU k l).flatten.length=4*l.length:=by
 induction l with
 |nil=>intro k;rfl
 |cons x l ih=>
  intro k
  show([nat (k+1),nat x.m,x.cents,x.tax]++(cU (k+1) l).flatten).length=_
  rw[aat,ih]
  show 4+4*l.length=4*(l.length+1)
  omega
theorem EB(s:State)(m p:Nat):bills s m p=true↔¬due s m p=0:=by
 unfold bills due
 exact bne_iff_ne
theorem ME{s:State}{m p:Nat}(h:hasEntry s m p=false):due s m p=0:=by
 unfold due billOf
 rw[lE h]
 dsimp only
 have e:centsOf 0=0:=by decide
 rw[e]
 have e2:taxOf s.rate 0=0:=by unfold taxOf;rw[Int.zero_mul];decide
 rw[e2]
 decide
end VI
namespace MA
open PySem
abbrev hM:Nat:=18446744073709551616
abbrev hA:Nat:=11400714785074694791
abbrev hB:Nat:=14029467366897019727
abbrev hS:Nat:=2870177450012600261
abbrev Wx:Nat:=614540362697595703
abbrev Oh:Nat:=839798700976720815
abbrev hC:Nat:=2870177450013471924
def S2(a:Nat):Nat:=(a*2147483648)%hM+a/8589934592
def GX(r:Nat):Nat:=(r%2147483648)*8589934592+r/2147483648
theorem Lp{a:Nat}(h:a<hM):GX (S2 a)=a:=by
 have e:(a*2147483648)%hM=(a%8589934592)*2147483648:=by
  have h1:a=8589934592*(a/8589934592)+a%8589934592:=(acA a 8589934592).symm
  have h2:a%8589934592<8589934592:=abG _ (by decide)
  generalize a/8589934592=q at h1
  generalize a%8589934592=r at h1 h2⊢
  subst h1
  have e2:(8589934592*q+r)*2147483648=r*2147483648+hM*q:=by
   show _=r*2147483648+18446744073709551616*q
   omega
  rw[e2,Nat.add_mul_mod_self_left]
  exact Nat.mod_eq_of_lt (by show _<18446744073709551616;omega)
 unfold GX S2
 rw[e]
 have h2:a%8589934592<8589934592:=abG _ (by decide)
 have h3:a/8589934592<2147483648:=by
  have:a<18446744073709551616:=h
  omega
 have h4:=acA a 8589934592
 omega
theorem QN{a:Nat}(h:a<hM):S2 a<hM:=by
 have e:(a*2147483648)%hM=(a%8589934592)*2147483648:=by
  have h1:a=8589934592*(a/8589934592)+a%8589934592:=(acA a 8589934592).symm
  have h2:a%8589934592<8589934592:=abG _ (by decide)
  generalize a/8589934592=q at h1
  generalize a%8589934592=r at h1 h2⊢
  subst h1
  have e2:(8589934592*q+r)*2147483648=r*2147483648+hM*q:=by
   show _=r*2147483648+18446744073709551616*q
   omega
  rw[e2,Nat.add_mul_mod_self_left]
  exact Nat.mod_eq_of_lt (by show _<18446744073709551616;omega)
 unfold S2
 rw[e]
 have h2:a%8589934592<8589934592:=abG _ (by decide)
 have h3:a/8589934592<2147483648:=by
  have:a<18446744073709551616:=h
  omega
 show _<18446744073709551616
 omega
def stp(acc x:Nat):Nat:=(S2 ((acc+x*hB)%hM)*hA)%hM
theorem Ow{r c ci:Nat}(hr:r<hM)(hc:c*ci%hM=1):(r*c%hM)*ci%hM=r:=by
 rw[Nat.mul_mod,Nat.mod_mod,←Nat.mul_mod,Nat.mul_assoc,Nat.mul_mod,hc,Nat.mul_one,Nat.mod_mod]
 exact Nat.mod_eq_of_lt hr
theorem Ox(acc x:Nat):GX ((stp acc x*Wx)%hM)=(acc+x*hB)%hM:=by
 have hlt:(acc+x*hB)%hM<hM:=abG _ (by decide)
 unfold stp
 rw[Ow (QN hlt) (by decide+kernel),Lp hlt]
def GY(x:Nat):Nat:=(stp hS x*Oh)%hM
theorem Oz(f x:Nat):((f+x*hB)%hM*Oh)%hM=(f*Oh%hM+x)%hM:=by
 have e:x*hB*Oh=x*(hB*Oh):=Nat.mul_assoc _ _ _
 have e1:(x*hB*Oh)%hM=x%hM:=by
  rw[e,Nat.mul_mod,show hB*Oh%hM=1 by decide+kernel,Nat.mul_one,Nat.mod_mod]
 rw[Nat.mul_mod,Nat.mod_mod,←Nat.mul_mod,Nat.add_mul,Nat.add_mod,e1,←Nat.add_mod,Nat.add_mod,←Nat.add_mod]
 rw[Nat.add_mod (f*Oh%hM) x,Nat.mod_mod,←Nat.add_mod]
theorem MF(x y:Nat):(GX ((stp (stp hS x) y*Wx)%hM)*Oh)%hM=(GY x+y)%hM:=by
 rw[Ox,Oz]
 rfl
theorem Y8:∀x:Fin 17,∀y:Fin 17,x≠y→9999<(GY x.val+hM-GY y.val)%hM:=by decide+kernel
def OA:Nat:=(GX (((hM-1-hC)*Wx)%hM)*Oh)%hM
theorem Wy:∀x:Fin 17,9999<(OA+hM-GY x.val)%hM:=by decide+kernel
theorem Jb(x:Nat):GY x<hM:=abG _ (by decide)
def fin(v:Nat):Int:=if(v==hM-1)=true then 1546275796 else if v<9223372036854775808 then(v:Int)else(v:Int)-hM
theorem Jc{v:Nat}(nv:v≠hM-1):fin v=if v<9223372036854775808 then(v:Int)else(v:Int)-18446744073709551616:=by
 unfold fin
 rw[D6 (by simpa using nv)]
 rfl
theorem OB{v w:Nat}(hv:v<hM)(hw:w<hM)(nv:v≠hM-1)(nw:w≠hM-1)(h:fin v=fin w):v=w:=by
 rw[Jc nv,Jc nw]at h
 have hv':v<18446744073709551616:=hv
 have hw':w<18446744073709551616:=hw
 by_cases h1:v<9223372036854775808
 ·by_cases h2:w<9223372036854775808
  ·rw[D7 h1,D7 h2]at h;omega
  ·rw[D7 h1,D6 h2]at h;omega
 ·by_cases h2:w<9223372036854775808
  ·rw[D6 h1,D7 h2]at h;omega
  ·rw[D6 h1,D6 h2]at h;omega
def QO(m k l a:Nat):Nat:=(a*k)%m+a/l
def MG(m k l b c acc x:Nat):Nat:=(QO m k l ((acc+x*b)%m)*c)%m
def OC(m h:Nat)(v:Nat):Int:=if v==m-1 then 1546275796 else if v<h then(v:Int)else(v:Int)-m
def MH(m QS QT QU k l h c:Nat)(hashes:List Int):Int:=
 OC m h (((hashes.foldl (init:=QU) fun acc h=>MG m k l QT QS acc (h%(m:Int)).toNat)+(hashes.length^^^c))%m)
theorem MI(hs:List Int):Builtin.Tuple.tupleHashOf hs=MH (2^64) 11400714785074694791 14029467366897019727 2870177450012600261 (2^31) (2^33) (2^63) (2870177450012600261^^^3527539) hs:=by
 delta Builtin.Tuple.tupleHashOf MH OC MG QO
 with_reducible rfl
theorem Lq(m p1 p2 p5 k l h c:Nat)(a b:Int):MH m p1 p2 p5 k l h c [a,b]=OC m h ((MG m k l p2 p1 (MG m k l p2 p1 p5 (a%(m:Int)).toNat) (b%(m:Int)).toNat+(2^^^c))%m):=rfl
theorem c64:(2:Nat)^64=hM:=by decide+kernel
theorem c31:(2:Nat)^31=2147483648:=by decide+kernel
theorem c33:(2:Nat)^33=8589934592:=by decide+kernel
theorem c63:(2:Nat)^63=9223372036854775808:=by decide+kernel
theorem cX:2^^^(2870177450012600261^^^3527539)=hC:=by decide+kernel
theorem Lr(a b:Int):Builtin.Tuple.tupleHashOf [a,b]=fin ((stp (stp hS (a%(hM:Int)).toNat) (b%(hM:Int)).toNat+hC)%hM):=by
 rw[MI,Lq,c64,c31,c33,c63,cX]
 delta fin stp S2 OC MG QO
 with_reducible rfl
theorem BP(x y:Nat)(hx:x<hM)(hy:y<hM):Builtin.Tuple.tupleHashOf [(x:Int),(y:Int)]=fin ((stp (stp hS x) y+hC)%hM):=by
 have ex:∀z:Nat,z<hM→(((z:Int)%(hM:Int)).toNat)=z:=fun z hz=>by
  have:z<18446744073709551616:=hz
  have e64:((hM:Nat):Int)=18446744073709551616:=rfl
  rw[e64]
  omega
 rw[Lr,ex x hx,ex y hy]
theorem Fy{x y:Nat}(hx:x≤16)(hy:y≤9999):(stp (stp hS x) y+hC)%hM≠hM-1:=by
 intro h
 have hl:stp (stp hS x) y<hM:=abG _ (by decide)
 have e:stp (stp hS x) y=hM-1-hC:=by
  have hl':stp (stp hS x) y<18446744073709551616:=hl
  have h':(stp (stp hS x) y+2870177450013471924)%18446744073709551616=18446744073709551615:=h
  show _=18446744073709551616-1-2870177450013471924
  omega
 have t:=MF x y
 rw[e]at t
 have t':OA=(GY x+y)%hM:=t
 have f:=Wy ⟨x,by omega⟩
 have l:=Jb x
 have f':9999<(OA+18446744073709551616-GY x)%18446744073709551616:=f
 have l':GY x<18446744073709551616:=l
 have t2:OA=(GY x+y)%18446744073709551616:=t'
 omega
theorem Ls{x y x' y':Nat}(hx:x≤16)(hy:y≤9999)(hx':x'≤16)(hy':y'≤9999)(h:Builtin.Tuple.tupleHashOf [(x:Int),(y:Int)]=Builtin.Tuple.tupleHashOf [(x':Int),(y':Int)]):x=x'∧y=y':=by
 have b:∀z:Nat,z≤9999→z<hM:=fun z hz=>by show z<18446744073709551616;omega
 rw[BP x y (b x (by omega)) (b y hy),BP x' y' (b x' (by omega)) (b y' hy')]at h
 have e:=OB (abG _ (by decide)) (abG _ (by decide)) (Fy hx hy) (Fy hx' hy') h
 have hl:stp (stp hS x) y<18446744073709551616:=abG _ (by decide)
 have hl':stp (stp hS x') y'<18446744073709551616:=abG _ (by decide)
 have e2:stp (stp hS x) y=stp (stp hS x') y':=by
  have e':(stp (stp hS x) y+2870177450013471924)%18446744073709551616=(stp (stp hS x') y'+2870177450013471924)%18446744073709551616:=e
  omega
 have t:=MF x y
 rw[e2,MF x' y']at t
 have t':(GY x'+y')%18446744073709551616=(GY x+y)%18446744073709551616:=t
 have l1:GY x<18446744073709551616:=Jb x
 have l2:GY x'<18446744073709551616:=Jb x'
 by_cases hxx:x=x'
 ·subst hxx
  refine⟨rfl,?_⟩
  omega
 ·exfalso
  have f1:9999<(GY x+18446744073709551616-GY x')%18446744073709551616:=Y8 ⟨x,by omega⟩ ⟨x',by omega⟩ (fun q=>hxx (congrArg Fin.val q))
  have f2:9999<(GY x'+18446744073709551616-GY x)%18446744073709551616:=Y8 ⟨x',by omega⟩ ⟨x,by omega⟩ (fun q=>hxx (congrArg Fin.val q).symm)
  omega
end MA
section
namespace L2
open PySem PySem.Spec PyProof.Rows
abbrev Key:=Sum Int Str
def EC:Key→Value→Bool
 | .inl k,v=>Value.isInt k v
 | .inr x,v=>Value.isStrOf x v
def WA(w:World):Key→Int
 | .inl k=>hashInt k
 | .inr x=>hashStr w x
theorem fq:∀{k:Key} {v:Value},EC k v=true→(∃i t,k=Sum.inl i∧v=Value.int i t)∨(∃x t,k=Sum.inr x∧v=Value.str x t)
 | .inl i,v,h=>by
   obtain⟨t,e⟩:=Value.isInt_shape (k:=i) (v:=v) h
   exact .inl ⟨i,t,rfl,e⟩
 | .inr x,v,h=>by
   obtain⟨t,e⟩:=Value.isStrOf_shape (x:=x) (v:=v) h
   exact .inr ⟨x,t,rfl,e⟩
theorem Lu(i:Int)(t:Tok):EC (.inl i) (.int i t)=true:=by simp[EC,Value.isInt]
theorem Lv(x:Str)(t:Tok):EC (.inr x) (.str x t)=true:=by simp[EC,Value.isStrOf]
theorem QV(a b:Int):decide ((Sum.inl a:Key)=Sum.inl b)=(a==b):=by
 by_cases e:a=b
 ·subst e;simp
 ·have h:¬(Sum.inl a:Key)=Sum.inl b:=fun q=>e (acv q)
  rw[aa7 h]
  exact(aaW.mpr e).symm
theorem QW(a b:Str):decide ((Sum.inr a:Key)=Sum.inr b)=decide (a=b):=by
 by_cases e:a=b
 ·subst e;simp
 ·have h:¬(Sum.inr a:Key)=Sum.inr b:=fun q=>e (Sum.inr.inj q)
  rw[aa7 h,aa7 e]
theorem QX(a:Int)(b:Str):decide ((Sum.inl a:Key)=Sum.inr b)=false:=aa7 (fun q=>nomatch q)
theorem QY(a:Str)(b:Int):decide ((Sum.inr a:Key)=Sum.inl b)=false:=aa7 (fun q=>nomatch q)
def cQ(prog:Program)(w:World):PySem.KeyKind prog w Key where
 is:=EC
 hash:=WA w
 inj:=fun v a b ha hb=>by
  rcases fq ha with⟨i,t,rfl,rfl⟩ |⟨x,t,rfl,rfl⟩
  ·rcases fq hb with⟨j,u,rfl,e⟩ |⟨y,u,rfl,e⟩
   ·injection e with e1 _;rw[e1]
   ·exact nomatch e
  ·rcases fq hb with⟨j,u,rfl,e⟩ |⟨y,u,rfl,e⟩
   ·exact nomatch e
   ·injection e with e1 _;rw[e1]
 byValue:=fun k v h=>by
  rcases fq h with⟨i,t,rfl,rfl⟩ |⟨x,t,rfl,rfl⟩<;>rfl
 pyHash:=fun hv h=>by
  rcases fq hv with⟨i,t,rfl,rfl⟩ |⟨x,t,rfl,rfl⟩
  ·exact wpAny_pyHash_int h
  ·exact wpAny_pyHash_str h
 eqBool:=fun hu hv h=>by
  rcases fq hu with⟨i,t,rfl,rfl⟩ |⟨x,t,rfl,rfl⟩
  ·rcases fq hv with⟨j,u,rfl,rfl⟩ |⟨y,u,rfl,rfl⟩
   ·rw[QV]at h;exact wpAny_eqBool_int h
   ·rw[QX]at h;exact SeqAt.EqAt.int_str i t y u _ _ _ _ h
  ·rcases fq hv with⟨j,u,rfl,rfl⟩ |⟨y,u,rfl,rfl⟩
   ·rw[QY]at h;exact SeqAt.EqAt.str_int x t j u _ _ _ _ h
   ·rw[QW]at h;exact wpAny_eqBool_str h
 «strs»:=fun k x t v h=>by
  rcases fq h with⟨i,u,rfl,e⟩ |⟨y,u,rfl,e⟩
  ·exact nomatch e
  ·injection e with e1 _
   subst e1
   cases v<;>rfl
theorem GZ(prog:Program)(w:World)(i:Int)(t:Tok):(cQ prog w).is (.inl i) (.int i t)=true:=Lu i t
theorem G9(prog:Program)(w:World)(x:Str)(t:Tok):(cQ prog w).is (.inr x) (.str x t)=true:=Lv x t
end L2
namespace L2
open PySem PySem.Spec PyProof.Rows
inductive V where
 |lJ |bl (b:Bool) |int (i:Int) |str (x:Str) |G_ (b:Array UInt8) |TQ (b:UInt64) |ref (a:Addr) |ty (n:String)
 deriving DecidableEq
def RelV:V→Value→Prop
 | .lJ,u=>u=Value.none
 | .bl b,u=>u=Value.bool b
 | .int i,u=>∃t,u=Value.int i t
 | .str x,u=>∃t,u=Value.str x t
 | .G_ b,u=>∃t,u=Value.bytes b t
 | .TQ b,u=>∃t,u=Value.float b t
 | .ref a,u=>u=Value.ref a
 | .ty n,u=>u=Value.type n
abbrev Vals:List V→List Value→Prop:=Paired RelV
theorem Vals.length{xs:List V}{us:List Value}(r:Vals xs us):xs.length=us.length:=acu r
theorem Vals.get:∀{xs:List V} {us:List Value} {i:Nat} {x:V},Vals xs us→xs[i]?=some x→∃u,us[i]?=some u∧RelV x u
 |_,_,_,_,.nil,e=>by simp at e
 |_,_,0,_,.cons r _,e=>by simp at e;subst e;exact⟨_,rfl,r⟩
 |_,_,i+1,x,.cons _ t,e=>by
  obtain⟨u,h1,h2⟩:=Vals.get (i:=i) (x:=x) t (by simpa using e)
  exact⟨u,by simpa using h1,h2⟩
theorem Vals.set{x:V}{u:Value}(r:RelV x u):∀{xs:List V} {us:List Value} (i:Nat),Vals xs us→Vals (xs.set i x) (us.set i u)
 |_,_,_,.nil=>.nil
 |_,_,0,.cons _ t=>.cons r t
 |_,_,i+1,.cons q t=>.cons q (Vals.set r i t)
theorem Vals.append:∀{xs ys:List V} {us ws:List Value},Vals xs us→Vals ys ws→Vals (xs++ys) (us++ws)
 |_,_,_,_,.nil,s=>s
 |_,_,_,_,.cons r t,s=>.cons r (Vals.append t s)
theorem Vals.take:∀{xs:List V} {us:List Value} (n:Nat),Vals xs us→Vals (xs.take n) (us.take n)
 |_,_,0,_=>.nil
 |_,_,_+1,.nil=>.nil
 |_,_,n+1,.cons r t=>.cons r (Vals.take n t)
theorem Vals.drop:∀{xs:List V} {us:List Value} (n:Nat),Vals xs us→Vals (xs.drop n) (us.drop n)
 |_,_,0,r=>r
 |_,_,_+1,.nil=>.nil
 |_,_,n+1,.cons _ t=>Vals.drop n t
def sW:Option V→Option Value→Prop
 |some v,some u=>RelV v u
 |none,none=>True
 |_,_=>False
def KV{κ:Type}:List (κ×V)→List (κ×Value)→Prop:=Paired fun(p:κ×V) (q:κ×Value)=>p.1=q.1∧RelV p.2 q.2
def kV:Key→V
 | .inl i=>.int i
 | .inr x=>.str x
inductive HO where
 |lst (xs:List V)
 |tup (xs:List V)
 |dK (kvs:List (Key×V)) |dT (kvs:List (List Key×V))
 |set (S:Int→Bool) (n:Nat)
 |ins (C dx:Addr) (fs:List (Str×V))
 |own (x:Addr)
 |xd (fs:List (Str×V))
 |met (f x:Addr)
 |Fz (lo hi:Int)
 |lX (o:Obj) (u:HO)
 |ym (ps:Array Value)
 |ext (φ:Heap→Prop)
abbrev Hp:=Addr→Option HO
def upd(H:Hp)(a:Addr)(o:HO):Hp:=fun b=>if b=a then some o else H b
theorem af{H:Hp}{a:Addr}{o:HO}:upd H a o a=some o:=by unfold upd;rw[D7 rfl]
theorem aq{H:Hp}{a b:Addr}{o:HO}(h:b≠a):upd H a o b=H b:=by unfold upd;rw[D6 h]
theorem bH{H:Hp}{a:Addr}{o u:HO}:upd (upd H a o) a u=upd H a u:=by
 funext b;unfold upd;split<;>rfl
theorem TR{H:Hp}{a b:Addr}{o u:HO}(h:H a=some o)(h':H b=some u)(d:o≠u):a≠b:=by
 intro e;subst e;rw[h]at h';exact d (aar h')
theorem aA{H:Hp}{a b:Addr}{o:HO}(h:H a=some o)(h':H b=none):a≠b:=by
 intro e;subst e;rw[h]at h';cases h'
section
variable(P:Program)(w:World)
def ff(H:Hp)(h:Heap)(a:Addr):HO→Prop
 | .lst xs=>xs.length≤sizeLine∧∃(its:List Value) (n:Nat),Vals xs its∧h.get? a=some {cls:=.type "list",data:=.seq its.toArray n}
 | .tup xs=>xs.length≤sizeLine∧∃its:List Value,Vals xs its∧IsTup h a its.toArray
 | .dK kvs=>kvs.length≤sizeLine∧(a==sysModules)=false∧∃vs,KV kvs vs∧h.DictOf (cQ P w) a vs
 | .dT kvs=>kvs.length≤sizeLine∧(a==sysModules)=false∧∃xs:List (List Key×Addr×Value),
    Paired (fun(p:List Key×V) (q:List Key×Addr×Value)=>p.1=q.1∧H q.2.1=some (.tup (p.1.map kV))∧RelV p.2 q.2.2) kvs xs∧
    ∃o es ep,h.get? a=some o∧o.ExactDict∧o.data=.dict es ep∧es.toList=xs.map (entryOfKey (tupleKind (cQ P w)))∧(xs.map (·.1)).Nodup
 | .set S n=>h.SetOf (intKind P w) a S n
 | .ins C dx fs=>H dx=some (.own a)∧fs.length≤1000∧dx≠a∧h.get? a=some (W.instObj C dx)∧
    ∃mA,h.Ns1 dx mA∧(∀f,sW (fs.lookup f) (mA f))∧PySem.Within mA (fs.map (·.1))
 | .own _=>∃o,h.get? a=some o
 | .xd fs=>∃mA,h.Ns1 a mA∧∀f,sW (fs.lookup f) (mA f)
 | .Fz lo hi=>∃t u v,h.get? a=some {cls:=.type "range",data:=.fields #[.int lo t,.int hi u,.int 1 v]}
 | .lX o u=>h.get? a=some o∧ff H h a u
 | .ym ps=>h.get? a=some {cls:=.none,data:=.fields ps}
 | .met f x=>h.get? a=some (W.methodObj (.ref f) (.ref x))
 | .ext φ=>φ h∧(∃o,h.get? a=some o)∧∀h1 h2:Heap,φ h1→(∀o,h1.get? a=some o→h2.get? a=some o)→φ h2
def tK(H:Hp)(h:Heap):Prop:=∀a o,H a=some o→ff P w H h a o
end
section
variable{P:Program}{w:World}{H H':Hp}{h h':Heap}{a:Addr}{o:HO}
theorem ff.lt(x:ff P w H h a o):a<h.objs.size:=by
 cases o with
 |lst xs=>obtain⟨_,_,_,_,e⟩:=x;exact aaq e
 |tup xs=>obtain⟨_,_,_,p⟩:=x;exact p.lt
 |dK kvs=>obtain⟨_,_,_,_,o,_,_,e,_⟩:=x;exact aaq e
 |dT kvs=>obtain⟨_,_,_,_,o,_,_,e,_⟩:=x;exact aaq e
 |set S n=>obtain⟨o,_,_,_,e,_⟩:=x;exact aaq e
 |ins C dx fs=>obtain⟨_,_,_,e,_⟩:=x;exact aaq e
 |own y=>obtain⟨_,e⟩:=x;exact aaq e
 |xd fs=>obtain⟨_,⟨_,_,_,e,_⟩,_⟩:=x;exact aaq e
 |Fz lo hi=>obtain⟨_,_,_,e⟩:=x;exact aaq e
 |lX ob u=>obtain⟨e,_⟩:=x;exact aaq e
 |ym ps=>exact aaq (show h.get? a=some _ from x)
 |met f y=>exact aaq (show h.get? a=some _ from x)
 |ext φ=>obtain⟨_,⟨_,e⟩,_⟩:=x;exact aaq e
theorem Paired.OD{α β:Type}{F G:α→β→Prop}:∀{l₁:List α} {l₂:List β},Paired F l₁ l₂→(∀a b,F a b→G a b)→Paired G l₁ l₂
 |_,_,.nil,_=>.nil
 |_,_,.cons r t,f=>.cons (f _ _ r) (Paired.OD t f)
theorem ff.stay(x:ff P w H h a o)(k:∀b u,(b=a∨H b=some (.own a))→h.get? b=some u→h'.get? b=some u)(ho:∀b,H b=some (.own a)→H' b=some (.own a))(ht:∀b xs,H b=some (.tup xs)→H' b=some (.tup xs)):ff P w H' h' a o:=by
 induction o with
 |lst xs=>obtain⟨z,its,n,r,e⟩:=x;exact⟨z,its,n,r,k _ _ (.inl rfl) e⟩
 |tup xs=>obtain⟨z,its,r,ob,e,c⟩:=x;exact⟨z,its,r,ob,k _ _ (.inl rfl) e,c⟩
 |dK kvs=>obtain⟨z,y,vs,r,ob,es,ep,e,c⟩:=x;exact⟨z,y,vs,r,ob,es,ep,k _ _ (.inl rfl) e,c⟩
 |dT kvs=>
  obtain⟨z,y,xs,r,ob,es,ep,e,c⟩:=x
  exact⟨z,y,xs,Paired.OD r fun p q z=>⟨z.1,ht _ _ z.2.1,z.2.2⟩,ob,es,ep,k _ _ (.inl rfl) e,c⟩
 |set S n=>obtain⟨ob,es,ep,t,e,c⟩:=x;exact⟨ob,es,ep,t,k _ _ (.inl rfl) e,c⟩
 |ins C dx fs=>
  obtain⟨d,z,ne,e,mA,⟨od,es,ep,e2,c⟩,r⟩:=x
  exact⟨ho _ d,z,ne,k _ _ (.inl rfl) e,mA,⟨od,es,ep,k _ _ (.inr d) e2,c⟩,r⟩
 |own y=>obtain⟨ob,e⟩:=x;exact⟨ob,k _ _ (.inl rfl) e⟩
 |xd fs=>obtain⟨mA,⟨od,es,ep,e,c⟩,r⟩:=x;exact⟨mA,⟨od,es,ep,k _ _ (.inl rfl) e,c⟩,r⟩
 |Fz lo hi=>obtain⟨t,u,v,e⟩:=x;exact⟨t,u,v,k _ _ (.inl rfl) e⟩
 |lX ob u ih=>obtain⟨e,q⟩:=x;exact⟨k _ _ (.inl rfl) e,ih q⟩
 |ym ps=>
  have e:h.get? a=some {cls:=.none,data:=.fields ps}:=x
  show h'.get? a=some {cls:=.none,data:=.fields ps}
  exact k a _ (.inl rfl) e
 |met f y=>
  have e:h.get? a=some (W.methodObj (.ref f) (.ref y)):=x
  show h'.get? a=some (W.methodObj (.ref f) (.ref y))
  exact k a _ (.inl rfl) e
 |ext φ=>obtain⟨p,⟨o,e⟩,st⟩:=x;exact⟨st _ _ p fun o q=>k _ _ (.inl rfl) q,⟨o,k _ _ (.inl rfl) e⟩,st⟩
theorem tK.lt(x:tK P w H h)(e:H a=some o):a<h.objs.size:=(x a o e).lt
theorem tK.fresh(x:tK P w H h)(e:h.objs.size≤a):H a=none:=by
 cases q:H a with
 |none=>rfl
 |some u=>exact absurd (aaF (x.lt q) e) (abc _)
theorem tK.kept(x:tK P w H h)(k:∀b u,h.get? b=some u→h'.get? b=some u):tK P w H h':=fun a o e=>
 (x a o e).stay (fun b u _ q=>k b u q) (fun _ q=>q) fun _ _ q=>q
theorem tK.laid(x:tK P w H h)(k:∀b u,h.get? b=some u→h'.get? b=some u)(hp:h.objs.size≤a)(new:ff P w (upd H a o) h' a o):tK P w (upd H a o) h':=fun b u e=>by
 have hn:=x.fresh hp
 by_cases hb:b=a
 ·subst hb;rw[af]at e;cases e;exact new
 ·rw[aq hb]at e
  exact(x b u e).stay (fun c v _ q=>k c v q) (fun c q=>by rw[aq (aA q hn)];exact q) fun c xs q=>by rw[aq (aA q hn)];exact q
end
def Rd(H:Hp)(a:Addr)(u:HO):Prop:=H a=some u∨∃o,H a=some (.lX o u)
theorem Rd.ok{P:Program}{w:World}{H:Hp}{h:Heap}{a:Addr}{u:HO}(r:Rd H a u)(x:tK P w H h):ff P w H h a u:=by
 rcases r with r |⟨o,r⟩
 ·exact x a u r
 ·obtain⟨_,q⟩:=x a _ r
  exact q
def OE:Option HO→Prop
 |some (.lst _)=>True
 |some (.dK _)=>True
 |some (.dT _)=>True
 |some (.set _ _)=>True
 |some (.ins _ _ _)=>True
 |some (.ext _)=>True
 |_=>False
section
variable{P:Program}{w:World}{H:Hp}{h h':Heap}{x e:Addr}{o':HO}
theorem tK.write(ok:tK P w H h)(mu:OE (H x))(he:e=x∨H e=some (.own x))(k:∀b u,b≠e→h.get? b=some u→h'.get? b=some u)(S4:∃u,h'.get? e=some u)(new:ff P w (upd H x o') h' x o'):tK P w (upd H x o') h':=fun b u q=>by
 have TU:∀c y,H c=some (.own y)→c≠x:=fun c y r z=>by subst z;rw[r]at mu;exact mu
 have WB:∀c xs,H c=some (.tup xs)→c≠x:=fun c xs r z=>by subst z;rw[r]at mu;exact mu
 by_cases hb:b=x
 ·subst hb;rw[af]at q;cases q;exact new
 ·rw[aq hb]at q
  by_cases OF:b=e
  ·have q':H b=some (.own x):=by
    rcases he with z |z
    ·exact absurd (OF.trans z) hb
    ·rw[OF];exact z
   rw[q]at q';cases q'
   obtain⟨v,hv⟩:=S4
   exact⟨v,by rw[OF];exact hv⟩
  ·refine(ok b u q).stay (fun c v hc r=>k c v ?_ r) (fun c r=>by rw[aq (TU c b r)];exact r) fun c xs r=>by rw[aq (WB c xs r)];exact r
   rcases hc with rfl |hc
   ·exact OF
   ·rintro rfl
    rcases he with z |z
    ·exact TU c b hc z
    ·rw[hc]at z;cases z;exact hb rfl
end
structure Un(fs ex:List Addr)(H H':Hp)(h h':Heap):Prop where
 keep:∀b o,h.get? b=some o→H b=none→b∉fs→b∉ex→h'.get? b=some o
 slot:∀b o,h.get? b=some o→H b=none→b∈fs→b∉ex→∃sl,h'.get? b=some {o with slots:=sl}
 free:∀b o,h.get? b=some o→H b=none→b∉ex→H' b=none
 there:∀b o,h.get? b=some o→b∉ex→∃o',h'.get? b=some o'
 tups:∀b xs,H b=some (.tup xs)→H' b=some (.tup xs)
 BQ:∀b o u,H b=some (.lX o u)→H' b=some (.lX o u)
 Dy:∀b ps,H b=some (.ym ps)→∃more,H' b=some (.ym (ps++more))
section
variable{fs fs' ex ex':List Addr}{H H1 H2:Hp}{h h1 h2 h':Heap}{a x e:Addr}{o:HO}
theorem Un.any(u:Un fs ex H H1 h h1){b:Addr}{ob:Obj}(q:h.get? b=some ob)(n:H b=none)(hx:b∉ex):∃sl,h1.get? b=some {ob with slots:=sl}:=by
 by_cases hb:b∈fs
 ·exact u.slot b ob q n hb hx
 ·exact⟨ob.slots,u.keep b ob q n hb hx⟩
theorem Un.kept(k:∀b u,h.get? b=some u→h'.get? b=some u):Un fs ex H H h h':=
 ⟨fun b ob q _ _ _=>k b ob q,fun b ob q _ _ _=>⟨ob.slots,k b ob q⟩,fun _ _ _ n _=>n,fun b ob q _=>⟨ob,k b ob q⟩,fun _ _ q=>q,fun _ _ _ q=>q,fun _ ps q=>⟨#[],by rw[q];simp⟩⟩
theorem Un.refl:Un fs ex H H h h:=Un.kept fun _ _ q=>q
theorem Un.laid(k:∀b u,h.get? b=some u→h'.get? b=some u)(hp:h.objs.size≤a)(hn:H a=none):Un fs ex H (upd H a o) h h' where
 keep:=fun b u q _ _ _=>k b u q
 slot:=fun b u q _ _ _=>⟨u.slots,k b u q⟩
 free:=fun b u q n _=>by rw[aq (aaI (aaF (aaq q) hp))];exact n
 there:=fun b u q _=>⟨u,k b u q⟩
 tups:=fun b xs q=>by rw[aq (aA q hn)];exact q
 BQ:=fun b u xs q=>by rw[aq (aA q hn)];exact q
 Dy:=fun b ps q=>⟨#[],by rw[aq (aA q hn),q];simp⟩
theorem Un.write(mu:OE (H x))(he:e=x∨H e=some (.own x))(k:∀b u,b≠e→h.get? b=some u→h'.get? b=some u)(S4:∃u,h'.get? e=some u):Un fs ex H (upd H x o) h h':=by
 have hx:∀b,H b=none→b≠x:=fun b n z=>by subst z;rw[n]at mu;exact mu
 have hb:∀b,H b=none→b≠e:=fun b n z=>by
  subst z
  rcases he with r |r
  ·exact hx b n r
  ·rw[n]at r;cases r
 have hm:∀b u,H b=some u→¬OE (some u)→b≠x:=fun b u q nm z=>by subst z;rw[q]at mu;exact nm mu
 refine⟨fun b u q n _ _=>k b u (hb b n) q,fun b u q n _ _=>⟨u.slots,k b u (hb b n) q⟩,fun b u q n _=>by rw[aq (hx b n)];exact n,fun b u q _=>?_,
  fun b xs q=>by rw[aq (hm b _ q fun z=>z)];exact q,fun b u xs q=>by rw[aq (hm b _ q fun z=>z)];exact q,fun b ps q=>⟨#[],by rw[aq (hm b _ q fun z=>z),q];simp⟩⟩
 by_cases OF:b=e
 ·subst OF;exact S4
 ·exact⟨u,k b u OF q⟩
end
def V2(h:Heap)(H:Hp):List Addr:=(List.range h.objs.size).filter fun a=>(H a).isSome
def BR(h:Heap)(H:Hp):Heap:=W.hideAll h (V2 h H)
theorem Lw(h:Heap)(H:Hp):(BR h H).objs.size=h.objs.size:=W.hideAll_size _ _
theorem MJ{h:Heap}{H:Hp}{b:Addr}{o:Obj}(e:h.get? b=some o)(n:H b=none):(BR h H).get? b=some o:=
 W.hideAll_get _ e fun hm=>by
  have q:(H b).isSome=true:=(List.mem_filter.mp hm).2
  rw[n]at q;simp at q
theorem OG{h:Heap}{H:Hp}{b:Addr}{o:Obj}(e:(BR h H).get? b=some o):h.get? b=some o∧H b=none:=by
 have e':h.get? b=some o:=W.of_hideAll (V2 h H) e
 refine⟨e',?_⟩
 cases q:H b with
 |none=>rfl
 |some x=>
  have hm:b∈V2 h H:=List.mem_filter.mpr ⟨abS.mpr (aaq e'),by simp[q]⟩
  have z:(BR h H).get? b=none:=W.hideAll_none (V2 h H) hm
  rw[z]at e;cases e
end L2
namespace L2
open PySem PySem.Spec PyProof.Rows
structure Mod(K:W.Frag)(mg:Str→Option Value)(base:Heap):Prop where
 S5:K.In base
 glob:base.Ns mainGlobals mg
 blt:∃mb,base.Ns builtinsNs mb∧∀x:Str,x≠"__name__"→mb x=bootBuiltins x
 nolimit:base.NoLimit
structure Cx where
 prog:Program
 w:World
 K:W.Frag
 mg:Str→Option Value
 base:Heap
 A:Around
 N:List Str
 ED:Shared
 QZ:Hp
 env:Env
 outer:List Env
 stack:List Env
 ex:List Addr
 fn:Str→Bool
 calm:Bool
 pn:List (Addr×Obj)
 xe:Value→Shared→Prop
def frs(l:List Env):List Addr:=l.filterMap (·.frame)
abbrev Cx.fs(X:Cx):List Addr:=frs X.outer
def Q0(sc:Scope)(x:Str):Prop:=sc.names.lookup x=some .local∨sc.names.lookup x=some .cell∨sc.names.lookup x=some .free
def Loc(sc:Scope)(x:Str):Prop:=sc.names.lookup x=some .local∨sc.names.lookup x=some .cell
def Look(env:Env)(h:Heap)(m:Str→Option Value)(x:Str)(u:Value):Prop:=
 (env.kindOf x=some .local∧m x=some u)∨((env.kindOf x=some .cell∨env.kindOf x=some .free)∧∃c,env.cells.lookup x=some c∧h.IsCell c (some u))
structure Cx.Ok(X:Cx):Prop where
 mod:Mod X.K X.mg X.base
 kind:X.env.scope.kind=.function
 glob:X.env.globals=mainGlobals
 blt:X.env.builtins=builtinsNs
 above:X.ED.heap.objs.size≤X.env.locals
 inj:∀x y c,X.env.cells.lookup x=some c→X.env.cells.lookup y=some c→x=y
 has:∀x,(X.env.kindOf x=some .cell∨X.env.kindOf x=some .free)→∃c,X.env.cells.lookup x=some c
 TV:∀x c,X.fn x=true→X.env.cells.lookup x=some c→X.ED.heap.objs.size≤c
 hd:X.calm=true→X.A.handled=none
 frames:X.A.frames=some X.stack
 stk:X.stack=X.outer∨(X.stack=X.env::X.outer∧X.env.frame=some X.env.locals)
 V3:∀b∈X.ex,b≠X.env.locals∧∀x c,X.env.cells.lookup x=some c→c≠b
 bs:∀b o,X.base.get? b=some o→X.ED.heap.get? b=some o∧X.QZ b=none
 MK:X.base.objs.size≤X.ED.heap.objs.size
 ML:∀b o,X.base.get? b=some o→b∉X.ex
 MM:∀b∈X.ex,b∉X.fs
 A1:X.ED.heap.FunFrames X.base X.outer
 Q2:∀b∈X.fs,X.QZ b=none
structure Inv(X:Cx)(pins:List (Addr×Obj))(σ:List (Option V))(H:Hp)(s:Shared):Prop where
 ok:X.Ok
 os:s.os=X.ED.os
 bare:AllBare s.gens
 base:Un X.fs X.ex X.QZ H X.ED.heap s.heap
 loc:∃m,s.heap.Ns X.env.locals m∧∀(i:Nat) (x:Str) (v:V),X.N[i]?=some x→σ[i]?=some (some v)→Q0 X.env.scope x→∃u,RelV v u∧Look X.env s.heap m x u
 cell:∀x c,X.env.cells.lookup x=some c→∃v,s.heap.IsCell c v
 free:H X.env.locals=none
 qC:∀x c,X.env.cells.lookup x=some c→H c=none
 pin:∀p∈X.pn++pins,s.heap.get? p.1=some p.2∧H p.1=none∧p.1≠X.env.locals∧p.1∉X.fs∧∀v,p.2.data≠ .cell v
 hok:tK X.prog X.w H s.heap
 len:σ.length=X.N.length
section
variable{X:Cx}{pins:List (Addr×Obj)}{σ:List (Option V)}{H H':Hp}{s:Shared}{h':Heap}
theorem Cx.Ok.WC(ok:X.Ok){b:Addr}{o:Obj}(e:X.base.get? b=some o):b∉X.fs:=fun hb=>by
 have:=(ok.A1.mem hb).1
 rw[e]at this;cases this
theorem Inv.bs(I:Inv X pins σ H s):∀b o,X.base.get? b=some o→s.heap.get? b=some o∧H b=none:=fun b o e=>
 ⟨I.base.keep b o (I.ok.bs b o e).1 (I.ok.bs b o e).2 (I.ok.WC e) (I.ok.ML b o e),I.base.free b o (I.ok.bs b o e).1 (I.ok.bs b o e).2 (I.ok.ML b o e)⟩
theorem Inv.bk(I:Inv X pins σ H s):∀b o,X.base.get? b=some o→s.heap.get? b=some o:=fun b o e=>(I.bs b o e).1
theorem Inv.mod(I:Inv X pins σ H s):Mod X.K X.mg X.base:=I.ok.mod
theorem Inv.IG(I:Inv X pins σ H s):X.K.In s.heap:=I.ok.mod.S5.keeps I.bk
theorem Inv.fr(I:Inv X pins σ H s):∃m,Fr X.base X.env.locals s.heap m:=
 let⟨m,hn,_⟩:=I.loc
 ⟨m,hn,I.bk,aaD I.ok.MK I.ok.above⟩
theorem Inv.lt(I:Inv X pins σ H s):X.env.locals<s.heap.objs.size:=let⟨_,hn,_⟩:=I.loc;hn.lt
theorem Inv.sz(I:Inv X pins σ H s):X.ED.heap.objs.size≤s.heap.objs.size:=aaD I.ok.above (acC I.lt)
theorem Inv.WD(I:Inv X pins σ H s){a:Addr}(h:s.heap.objs.size≤a):a∉X.fs:=fun hb=>by
 obtain⟨_,o,ho,_⟩:=I.ok.A1.mem hb
 exact absurd (aaF (aaq ho) (aaD I.sz h)) (abc _)
theorem Inv.Qh(I:Inv X pins σ H s):∀x c,X.env.cells.lookup x=some c→c≠X.env.locals:=fun x c e z=>by
 obtain⟨v,o,ho,hd⟩:=I.cell x c e
 obtain⟨m,⟨o',es,ep,ho',hd',_⟩,_⟩:=I.loc
 rw[z,ho']at ho;cases ho;rw[hd']at hd;cases hd
theorem Inv.A1(I:Inv X pins σ H s):s.heap.FunFrames X.base X.outer:=by
 have all:∀(l:List Env),(∀b∈frs l,b∈X.fs)→X.ED.heap.FunFrames X.base l→s.heap.FunFrames X.base l:=by
  intro l
  induction l with
  |nil=>intro _ _;trivial
  |cons env r ih=>
   intro hs hl
   obtain⟨hk,⟨L,o,hf,hn,ho,hd⟩,hr⟩:=hl
   have hL:L∈X.fs:=hs L (by unfold frs;rw[abR,hf];exact aau)
   obtain⟨sl,e⟩:=I.base.slot L o ho (I.ok.Q2 L hL) hL fun z=>I.ok.MM L z hL
   exact⟨hk,⟨L,_,hf,hn,e,hd⟩,ih (fun b hb=>hs b (by unfold frs;rw[abR,hf];exact aap _ hb)) hr⟩
 exact all X.outer (fun _ hb=>hb) I.ok.A1
theorem Inv.stack(I:Inv X pins σ H s):s.heap.FunFrames X.base X.stack:=by
 rcases I.ok.stk with e |⟨e,hf⟩
 ·rw[e];exact I.A1
 ·rw[e]
  obtain⟨m,hn,_⟩:=I.loc
  refine .cons (by rw[I.ok.kind];decide) hf hn ?_ I.A1
  exact Heap.get?_none_of_le (aaD I.ok.MK I.ok.above)
theorem Inv.Jd(I:Inv X pins σ H s):∀b∈frs X.stack,b∈X.env.locals::X.fs:=fun b hb=>by
 rcases I.ok.stk with e |⟨e,hf⟩
 ·rw[e]at hb;exact aap _ hb
 ·rw[e]at hb
  unfold frs at hb
  rw[abR,hf]at hb
  exact hb
theorem Inv.Kp(I:Inv X pins σ H s):∀b∈frs X.stack,H b=none:=fun b hb=>by
 rcases aas.mp (I.Jd b hb)with e |hb
 ·rw[e];exact I.free
 ·obtain⟨_,o,ho,_⟩:=I.ok.A1.mem hb
  exact I.base.free b o ho (I.ok.Q2 b hb) fun z=>I.ok.MM b z hb
theorem Inv.step{g':Array GenState}{t':Nat}{d':Drawn}{ch:List Addr}(I:Inv X pins σ H s)(hch:∀b∈ch,(b∈X.ex∨X.ED.heap.objs.size≤b)∧b≠X.env.locals∧(∀x c,X.env.cells.lookup x=some c→c≠b)∧∀p∈X.pn++pins,p.1≠b)(keep:∀b o,b≠X.env.locals→b∉X.fs→b∉ch→s.heap.get? b=some o→H b=none→h'.get? b=some o)(slot:∀b o,b≠X.env.locals→b∈X.fs→b∉ch→s.heap.get? b=some o→H b=none→∃sl,h'.get? b=some {o with slots:=sl})(free:∀b o,b∉ch→s.heap.get? b=some o→H b=none→H' b=none)(there:∀b o,b∉ch→s.heap.get? b=some o→∃o',h'.get? b=some o')(tups:∀b xs,H b=some (.tup xs)→H' b=some (.tup xs))(BQ:∀b o u,H b=some (.lX o u)→H' b=some (.lX o u))(Dy:∀b ps,H b=some (.ym ps)→∃more,H' b=some (.ym (ps++more)))(ns:∀m,s.heap.Ns X.env.locals m→h'.Ns X.env.locals m)(hok:tK X.prog X.w H' h')(hg:AllBare g'):Inv X pins σ H' {s with heap:=h',gens:=g',drawn:=d',toks:=t'}:=by
 have Y_:∀b o,X.ED.heap.get? b=some o→b≠X.env.locals:=fun b o e=>aaI (aaF (aaq e) I.ok.above)
 have V4:∀b o,X.ED.heap.get? b=some o→b∉X.ex→b∉ch:=fun b o e hx hb=>by
  rcases(hch b hb).1 with z |z
  ·exact hx z
  ·exact absurd (aaF (aaq e) z) (abc _)
 have cellK:∀x c,X.env.cells.lookup x=some c→∀v,s.heap.IsCell c v→h'.IsCell c v:=fun x c e v ⟨o,ho,hd⟩=>by
  have TY:c∉ch:=fun z=>(hch c z).2.2.1 x c e rfl
  by_cases hc:c∈X.fs
  ·obtain⟨sl,q⟩:=slot c o (I.Qh x c e) hc TY ho (I.qC x c e)
   exact⟨_,q,hd⟩
  ·exact⟨o,keep c o (I.Qh x c e) hc TY ho (I.qC x c e),hd⟩
 refine⟨I.ok,I.os,hg,⟨fun b o e n hb hx=>?_,fun b o e n hb hx=>?_,fun b o e n hx=>?_,fun b o e hx=>?_,fun b xs e=>tups b xs (I.base.tups b xs e),fun b o xs e=>BQ b o xs (I.base.BQ b o xs e),fun b ps e=>?_⟩,?_,fun x c e=>?_,?_,fun x c e=>?_,fun p hp=>?_,hok,I.len⟩
 ·exact keep b o (Y_ b o e) hb (V4 b o e hx) (I.base.keep b o e n hb hx) (I.base.free b o e n hx)
 ·obtain⟨sl,e1⟩:=I.base.slot b o e n hb hx
  obtain⟨Za,e2⟩:=slot b _ (Y_ b o e) hb (V4 b o e hx) e1 (I.base.free b o e n hx)
  exact⟨Za,e2⟩
 ·obtain⟨o',e1⟩:=I.base.there b o e hx
  exact free b o' (V4 b o e hx) e1 (I.base.free b o e n hx)
 ·obtain⟨o',e1⟩:=I.base.there b o e hx
  exact there b o' (V4 b o e hx) e1
 ·obtain⟨m1,e1⟩:=I.base.Dy b ps e
  obtain⟨m2,e2⟩:=Dy b _ e1
  exact⟨m1++m2,by rw[e2,Array.append_assoc]⟩
 ·obtain⟨m,hn,hl⟩:=I.loc
  refine⟨m,ns m hn,fun i x v e1 e2 e3=>?_⟩
  obtain⟨u,r,l⟩:=hl i x v e1 e2 e3
  refine⟨u,r,?_⟩
  rcases l with l |⟨k,c,e,z⟩
  ·exact .inl l
  ·exact .inr ⟨k,c,e,cellK x c e _ z⟩
 ·obtain⟨v,z⟩:=I.cell x c e
  exact⟨v,cellK x c e v z⟩
 ·obtain⟨m,⟨o,_,_,ho,_⟩,_⟩:=I.loc
  exact free _ o (fun z=>(hch _ z).2.1 rfl) ho I.free
 ·obtain⟨v,o,ho,hd⟩:=I.cell x c e
  exact free c o (fun z=>(hch c z).2.2.1 x c e rfl) ho (I.qC x c e)
 ·obtain⟨e,n,ne,nf,d⟩:=I.pin p hp
  have TY:p.1∉ch:=fun z=>(hch p.1 z).2.2.2 p hp rfl
  exact⟨keep p.1 p.2 ne nf TY e n,free p.1 p.2 TY e n,ne,nf,d⟩
theorem Inv.un{t':Nat}(I:Inv X pins σ H s)(u:Un X.fs [] H H' s.heap h')(hok:tK X.prog X.w H' h'):Inv X pins σ H' {s with heap:=h',toks:=t'}:=by
 obtain⟨m,⟨o,es,ep,ho,r⟩,_⟩:=id I.loc
 obtain⟨sl,hL⟩:=u.any ho I.free (by simp)
 exact I.step (g':=s.gens) (d':=s.drawn) (ch:=[]) (fun _ z=>nomatch z) (fun b o _ hb _ e n=>u.keep b o e n hb (by simp)) (fun b o _ hb _ e n=>u.slot b o e n hb (by simp)) (fun b o _ e n=>u.free b o e n (by simp)) (fun b o _ e=>u.there b o e (by simp)) u.tups u.BQ u.Dy (fun m' hm=>by
  obtain⟨o',es',OH,ho',r'⟩:=hm
  rw[ho]at ho';cases ho'
  exact⟨_,es',OH,hL,r'⟩) hok I.bare
theorem Inv.call{g':Array GenState}{t':Nat}{d':Drawn}{ch:List Addr}(I:Inv X pins σ H s)(u:Un (frs X.stack) ch H H' s.heap h')(hok:tK X.prog X.w H' h')(hg:AllBare g')(hch:∀b∈ch,(b∈X.ex∨X.ED.heap.objs.size≤b)∧b≠X.env.locals∧(∀x c,X.env.cells.lookup x=some c→c≠b)∧∀p∈X.pn++pins,p.1≠b):Inv X pins σ H' {s with heap:=h',gens:=g',drawn:=d',toks:=t'}:=by
 obtain⟨m,⟨o,es,ep,ho,r⟩,_⟩:=id I.loc
 obtain⟨sl,hL⟩:=u.any ho I.free fun z=>(hch _ z).2.1 rfl
 exact I.step (ch:=ch) hch (fun b o hL hb hc e n=>u.keep b o e n (fun z=>(aas.mp (I.Jd b z)).elim hL hb) hc) (fun b o _ _ hc e n=>u.any e n hc) (fun b o hc e n=>u.free b o e n hc) (fun b o hc e=>u.there b o e hc) u.tups u.BQ u.Dy (fun m' hm=>by
  obtain⟨o',es',OH,ho',r'⟩:=hm
  rw[ho]at ho';cases ho'
  exact⟨_,es',OH,hL,r'⟩) hok hg
theorem Inv.turned{t':Nat}{it:Addr}(I:Inv X pins σ H s)(k:∀b o,b≠it→s.heap.get? b=some o→h'.get? b=some o)(hn:H it=none)(hL:it≠X.env.locals)(h1:it∈X.ex∨X.ED.heap.objs.size≤it)(h2:∀x c,X.env.cells.lookup x=some c→c≠it)(h3:∀p∈X.pn++pins,p.1≠it):Inv X pins σ H {s with heap:=h',toks:=t'}:=by
 have Qi:∀b u,H b=some u→b≠it:=fun b u e z=>by rw[z,hn]at e;cases e
 refine I.step (g':=s.gens) (d':=s.drawn) (ch:=[it]) (fun b hb=>?_) (fun b o _ _ hc e _=>k b o (fun z=>hc (by simp[z])) e) (fun b o _ _ hc e _=>⟨o.slots,k b o (fun z=>hc (by simp[z])) e⟩) (fun _ _ _ _ n=>n)
  (fun b o hc e=>⟨o,k b o (fun z=>hc (by simp[z])) e⟩) (fun _ _ e=>e) (fun _ _ _ e=>e) (fun b ps e=>⟨#[],by rw[e];simp⟩) (fun m hm=>?_) (fun b u e=>?_) I.bare
 ·have e:b=it:=by simpa using hb
  subst e
  exact⟨h1,hL,h2,h3⟩
 ·obtain⟨o,es,ep,ho,r⟩:=hm
  exact⟨o,es,ep,k _ o (acn hL) ho,r⟩
 ·refine(I.hok b u e).stay (fun c v hc q=>k c v ?_ q) (fun _ q=>q) fun _ _ q=>q
  rcases hc with z |z
  ·rw[z];exact Qi b u e
  ·exact Qi c _ z
theorem Inv.tok(I:Inv X pins σ H s)(t:Nat):Inv X pins σ H {s with toks:=t}:=I.un (h':=s.heap) (t':=t) Un.refl I.hok
theorem Inv.kept{t':Nat}(I:Inv X pins σ H s)(k:∀b u,s.heap.get? b=some u→h'.get? b=some u):Inv X pins σ H {s with heap:=h',toks:=t'}:=I.un (Un.kept k) (I.hok.kept k)
theorem Inv.laid{a:Addr}{o:HO}{t':Nat}(I:Inv X pins σ H s)(k:∀b u,s.heap.get? b=some u→h'.get? b=some u)(hp:s.heap.objs.size≤a)(new:ff X.prog X.w (upd H a o) h' a o):Inv X pins σ (upd H a o) {s with heap:=h',toks:=t'}:=I.un (Un.laid k hp (I.hok.fresh hp)) (I.hok.laid k hp new)
theorem Inv.write{x e:Addr}{o:HO}{t':Nat}(I:Inv X pins σ H s)(mu:OE (H x))(he:e=x∨H e=some (.own x))(k:∀b u,b≠e→s.heap.get? b=some u→h'.get? b=some u)(S4:∃u,h'.get? e=some u)(new:ff X.prog X.w (upd H x o) h' x o):Inv X pins σ (upd H x o) {s with heap:=h',toks:=t'}:=I.un (Un.write mu he k S4) (I.hok.write mu he k S4 new)
theorem Inv.weak{σ':List (Option V)}(I:Inv X pins σ H s)(hl:σ'.length=σ.length)(w:∀(i:Nat) v,σ'[i]?=some (some v)→σ[i]?=some (some v)):Inv X pins σ' H s:=
 ⟨I.ok,I.os,I.bare,I.base,let⟨m,hn,hl'⟩:=I.loc;⟨m,hn,fun i x v e1 e2 e3=>hl' i x v e1 (w i v e2) e3⟩,I.cell,I.free,I.qC,I.pin,I.hok,hl.trans I.len⟩
theorem Inv.Kq{Qj:List (Addr×Obj)}(I:Inv X pins σ H s)(h:∀p∈Qj,s.heap.get? p.1=some p.2∧H p.1=none∧p.1≠X.env.locals∧p.1∉X.fs∧∀v,p.2.data≠ .cell v):Inv X Qj σ H s:=
 ⟨I.ok,I.os,I.bare,I.base,I.loc,I.cell,I.free,I.qC,fun p hp=>(aaV.mp hp).elim (fun z=>I.pin p (abo _ z)) (h p),I.hok,I.len⟩
theorem BS{N:List Str}(hN:N.Nodup){i j:Nat}{x:Str}(a:N[i]?=some x)(b:N[j]?=some x):i=j:=by
 obtain⟨h1,e1⟩:=aao.mp a
 obtain⟨h2,e2⟩:=aao.mp b
 exact(List.getElem_inj hN).mp (e1.trans e2.symm)
theorem EE{M:Model}{A:Around}{E:Value→Shared→Prop}{i:Nat}{x:Str}{v:V}{u:Value}{Q:Unit→Shared→Prop}(I:Inv X pins σ H s)(hN:X.N.Nodup)(hi:X.N[i]?=some x)(hx:Loc X.env.scope x)(r:RelV v u)(h:∀s',Inv X pins (σ.set i (some v)) H s'→(∃a,Heap.SameBut a s.heap s'.heap∧(a=X.env.locals∨X.env.cells.lookup x=some a))→Q () s')(hf:X.fn x=true∨X.env.scope.names.lookup x=some .local:=by first |exact .inl rfl |exact .inr rfl |assumption):wpAny M A (storeName X.env x u) Q E s:=by
 obtain⟨m,hn,hl⟩:=id I.loc
 have hcls:(X.env.scope.kind== .class||(X.env.scope.kind== .module&&X.env.locals != X.env.globals))=false:=by rw[I.ok.kind];rfl
 have hiσ:i<σ.length:=by rw[I.len];exact(aao.mp hi).1
 have Qh:=I.Qh
 have tracked:∀{a:Addr} {h':Heap},(∃o,s.heap.get? a=some o∧H a=none)→Heap.SameBut a s.heap h'→tK X.prog X.w H h':=fun{a h'} ha hs b ob e=>by
  obtain⟨_,_,hfree⟩:=ha
  refine(I.hok b ob e).stay (fun c w' hc q=>(hs.2 c ?_).trans q) (fun _ q=>q) fun _ _ q=>q
  rintro rfl
  rcases hc with rfl |hc
  ·rw[hfree]at e;cases e
  ·rw[hfree]at hc;cases hc
 rcases hx with hk |hk
 ·refine wpAny_storeName_local hk hn (fun h' hn' hs=>?_) hcls
  obtain⟨oL,_,_,hoL,_⟩:=id hn
  refine h _ ⟨I.ok,I.os,I.bare,⟨fun b o e n hb hx=>?_,fun b o e n hb hx=>?_,I.base.free,fun b o e hx=>?_,I.base.tups,I.base.BQ,I.base.Dy⟩,⟨_,hn',fun j y v' e1 e2 e3=>?_⟩,fun y c e=>?_,I.free,I.qC,fun p hp=>?_,tracked ⟨oL,hoL,I.free⟩ hs,by simpa using I.len⟩ ⟨_,hs,.inl rfl⟩
  ·exact(hs.2 b (aaI (aaF (aaq e) I.ok.above))).trans (I.base.keep b o e n hb hx)
  ·obtain⟨sl,e1⟩:=I.base.slot b o e n hb hx
   exact⟨sl,(hs.2 b (aaI (aaF (aaq e) I.ok.above))).trans e1⟩
  ·obtain⟨o',e1⟩:=I.base.there b o e hx
   exact⟨o',(hs.2 b (aaI (aaF (aaq e) I.ok.above))).trans e1⟩
  ·by_cases hj:j=i
   ·subst hj
    rw[hi]at e1;cases e1
    rw[abb hiσ]at e2
    cases e2
    exact⟨u,r,.inl ⟨hk,by simp⟩⟩
   ·rw[aa' (acn hj)]at e2
    obtain⟨u',r',q⟩:=hl j y v' e1 e2 e3
    refine⟨u',r',?_⟩
    rcases q with⟨k,e⟩ |⟨k,c,e,z⟩
    ·refine .inl ⟨k,?_⟩
     have:y≠x:=fun e=>hj (BS hN e1 (e▸hi))
     simp[this,e]
    ·exact .inr ⟨k,c,e,z.sameBut hs (Qh y c e)⟩
  ·obtain⟨w',z⟩:=I.cell y c e
   exact⟨w',z.sameBut hs (Qh y c e)⟩
  ·obtain⟨e,n,ne,nf,d⟩:=I.pin p hp
   exact⟨(hs.2 p.1 ne).trans e,n,ne,nf,d⟩
 ·have hfn:X.fn x=true:=by
   rcases hf with z |z
   ·exact z
   ·rw[z]at hk;cases hk
  obtain⟨c,hc⟩:=I.ok.has x (.inl hk)
  obtain⟨w',z⟩:=I.cell x c hc
  refine wpAny_storeName_cell I.ok.kind hk hc z (fun h' hc' hs=>?_)
  obtain⟨oc,hoc,WE⟩:=id z
  refine h {s with heap:=h'} ⟨I.ok,I.os,I.bare,⟨fun b o e n hb hx=>?_,fun b o e n hb hx=>?_,I.base.free,fun b o e hx=>?_,I.base.tups,I.base.BQ,I.base.Dy⟩,⟨m,hn.sameBut hs (acn (Qh x c hc)),fun j y v' e1 e2 e3=>?_⟩,fun y c' e=>?_,I.free,I.qC,fun p hp=>?_,tracked ⟨oc,hoc,I.qC x c hc⟩ hs,by simpa using I.len⟩ ⟨c,hs,.inr hc⟩
  ·exact(hs.2 b (aaI (aaF (aaq e) (I.ok.TV x c hfn hc)))).trans (I.base.keep b o e n hb hx)
  ·obtain⟨sl,e1⟩:=I.base.slot b o e n hb hx
   exact⟨sl,(hs.2 b (aaI (aaF (aaq e) (I.ok.TV x c hfn hc)))).trans e1⟩
  ·obtain⟨o',e1⟩:=I.base.there b o e hx
   exact⟨o',(hs.2 b (aaI (aaF (aaq e) (I.ok.TV x c hfn hc)))).trans e1⟩
  ·by_cases hj:j=i
   ·subst hj
    rw[hi]at e1;cases e1
    rw[abb hiσ]at e2
    cases e2
    exact⟨u,r,.inr ⟨.inl hk,c,hc,hc'⟩⟩
   ·rw[aa' (acn hj)]at e2
    obtain⟨u',r',q⟩:=hl j y v' e1 e2 e3
    refine⟨u',r',?_⟩
    rcases q with q |⟨k,c',e,z'⟩
    ·exact .inl q
    ·refine .inr ⟨k,c',e,z'.sameBut hs ?_⟩
     rintro rfl
     exact hj (BS hN e1 (I.ok.inj _ _ _ e hc▸hi))
  ·by_cases hcc:c'=c
   ·subst hcc;exact⟨_,hc'⟩
   ·obtain⟨w2,z2⟩:=I.cell y c' e
    exact⟨w2,z2.sameBut hs hcc⟩
  ·obtain⟨e,n,ne,nf,d⟩:=I.pin p hp
   refine⟨(hs.2 p.1 ?_).trans e,n,ne,nf,d⟩
   intro q
   rw[q,hoc]at e
   have q':oc=p.2:=aar e
   exact d w' (by rw[←q'];exact WE)
theorem BU{M:Model}{A:Around}{E:Value→Shared→Prop}{i:Nat}{x:Str}{v:V}{u:Value}{Q:Unit→Shared→Prop}(I:Inv X pins σ H s)(hN:X.N.Nodup)(hi:X.N[i]?=some x)(hx:Loc X.env.scope x)(r:RelV v u)(h:∀s',Inv X pins (σ.set i (some v)) H s'→Q () s')(hf:X.fn x=true∨X.env.scope.names.lookup x=some .local:=by first |exact .inl rfl |exact .inr rfl |assumption):wpAny M A (storeName X.env x u) Q E s:=
 EE I hN hi hx r (fun s' I' _=>h s' I') hf
theorem Inv.TZ{s':Shared}{ch:List Addr}(I:Inv X pins σ H s)(ho:s'.os=s.os)(u:Un (frs X.stack) ch H H' s.heap s'.heap)(hok:tK X.prog X.w H' s'.heap)(hg:AllBare s'.gens)(hch:∀b∈ch,(b∈X.ex∨X.ED.heap.objs.size≤b)∧b≠X.env.locals∧(∀x c,X.env.cells.lookup x=some c→c≠b)∧∀p∈X.pn++pins,p.1≠b):Inv X pins σ H' s':=by
 obtain⟨h',g',d',t',o'⟩:=s'
 have e:o'=s.os:=ho
 subst e
 exact I.call (g':=g') (t':=t') (d':=d') u hok hg hch
end
abbrev XK:=Value→Option Addr→Hp→Prop
abbrev St:=List (Option V)
abbrev VK:=V→Hp→Prop
abbrev TE:=St→Hp→VK→Prop
abbrev TT:=St→Hp→(Bool→Hp→Prop)→Prop
abbrev TA:=St→Hp→(List V→Hp→Prop)→Prop
structure Ends where
 nx:St→Hp→Prop
 rt:VK
 bk:St→Hp→Prop:=fun _ _=>False
 ct:St→Hp→Prop:=fun _ _=>False
abbrev TS:=Ends→St→Hp→Prop
def EP(X:Cx)(pins:List (Addr×Obj))(σ:St)(Q:VK)(u:Value)(s':Shared):Prop:=∃v H',Inv X pins σ H' s'∧RelV v u∧Q v H'
def TP(X:Cx)(pins:List (Addr×Obj))(σ:St)(Q:Bool→Hp→Prop)(b:Bool)(s':Shared):Prop:=∃H',Inv X pins σ H' s'∧Q b H'
def AP(X:Cx)(pins:List (Addr×Obj))(σ:St)(Q:List V→Hp→Prop)(us:List Value)(s':Shared):Prop:=∃vs H',Inv X pins σ H' s'∧Vals vs us∧Q vs H'
def SP(X:Cx)(pins:List (Addr×Obj))(D:Ends)(f:Flow)(s':Shared):Prop:=
 match f with
 | .next=>∃σ' H',Inv X pins σ' H' s'∧D.nx σ' H'
 | .brk=>∃σ' H',Inv X pins σ' H' s'∧D.bk σ' H'
 | .cont=>∃σ' H',Inv X pins σ' H' s'∧D.ct σ' H'
 | .ret u=>∃v σ' H',Inv X pins σ' H' s'∧RelV v u∧D.rt v H'
def PE(X:Cx)(e:Expr)(t:TE):Prop:=
 ∀(pins:List (Addr×Obj)) (s:Shared) (σ:St) (H:Hp) (Q:VK),Inv X pins σ H s→t σ H Q→wpAny (model X.prog X.w) X.A (eval e X.env) (EP X pins σ Q) X.xe s
def PT(X:Cx)(e:Expr)(t:TT):Prop:=
 ∀(pins:List (Addr×Obj)) (s:Shared) (σ:St) (H:Hp) (Q:Bool→Hp→Prop),Inv X pins σ H s→t σ H Q→wpAny (model X.prog X.w) X.A (isTrue e X.env (eval e X.env)) (TP X pins σ Q) X.xe s
def PW(X:Cx)(e:Expr)(t:TT):Prop:=
 ∀(whole:Sem Value) (pins:List (Addr×Obj)) (s:Shared) (σ:St) (H:Hp) (Q:Bool→Hp→Prop),Inv X pins σ H s→t σ H Q→wpAny (model X.prog X.w) X.A (isTrue e X.env whole) (TP X pins σ Q) X.xe s
theorem PW.pt{X:Cx}{e:Expr}{t:TT}(h:PW X e t):PT X e t:=h _
def PA(X:Cx)(es:List Expr)(t:TA):Prop:=
 ∀(pos:Pos) (pins:List (Addr×Obj)) (s:Shared) (σ:St) (H:Hp) (Q:List V→Hp→Prop),Inv X pins σ H s→t σ H Q→wpAny (model X.prog X.w) X.A (spliced (backTo pos (starEach es X.env))) (AP X pins σ Q) X.xe s
def PS(X:Cx)(st:Stmt)(t:TS):Prop:=
 ∀(pins:List (Addr×Obj)) (s:Shared) (σ:St) (H:Hp) (D:Ends),Inv X pins σ H s→t D σ H→wpAny (model X.prog X.w) X.A (exec st X.env) (SP X pins D) X.xe s
def Kr(X:Cx)(st:List Stmt)(t:TS):Prop:=
 ∀(pins:List (Addr×Obj)) (s:Shared) (σ:St) (H:Hp) (D:Ends),Inv X pins σ H s→t D σ H→wpAny (model X.prog X.w) X.A (execs st X.env) (SP X pins D) X.xe s
theorem dX{α:Type}{t:Sem α}{Q Q':α→Shared→Prop}{M:Model}{A:Around}{E:Value→Shared→Prop}{s:Shared}(h:wpAny M A t Q E s)(hQ:∀a s,Q a s→Q' a s):wpAny M A t Q' E s:=aby h hQ fun _ _ x=>x
end L2
namespace L2
open PySem PySem.Spec PyProof.Rows
section
variable{X:Cx}
theorem bin{a b:Expr}{ta tb:TE}(ha:PE X a ta)(hb:PE X b tb){pins:List (Addr×Obj)}{s:Shared}{σ:St}{H:Hp}{R:V→V→Hp→Prop}(I:Inv X pins σ H s)(h:ta σ H fun x H1=>tb σ H1 fun y H2=>R x y H2){α:Type}{Q:α→Shared→Prop}{f:Value→Value→Sem α}(hf:∀v u s2 x y H2,Inv X pins σ H2 s2→RelV x v→RelV y u→R x y H2→wpAny (model X.prog X.w) X.A (f v u) Q X.xe s2):wpAny (model X.prog X.w) X.A (eval a X.env) (fun v s₁=>wpAny (model X.prog X.w) X.A (eval b X.env) (fun u s₂=>wpAny (model X.prog X.w) X.A (f v u) Q X.xe s₂) X.xe s₁) X.xe s:=by
 refine dX (ha pins s σ H _ I h) fun v s1 ⟨x,H1,I1,r1,q1⟩=>?_
 refine dX (hb pins s1 σ H1 _ I1 q1) fun u s2 ⟨y,H2,I2,r2,q2⟩=>?_
 exact hf v u s2 x y H2 I2 r1 r2 q2
inductive T3(i:Nat)(σ:St)(H:Hp)(Q:VK):Prop
 |mk (v:V) (e:σ[i]?=some (some v)) (k:Q v H)
def j7(i:Nat):TE:=T3 i
def tC(v:V):TE:=fun _ H Q=>Q v H
theorem MN{i:Nat}{x:Str}{pos:Pos}(hN:X.N[i]?=some x)(hv:Q0 X.env.scope x)(hd:(x==("__debug__":Str))=false:=by decide)(hcd:(x==("__classdict__":Str))=false:=by decide):PE X (.Name x pos) (j7 i):=by
 intro pins s σ H Q I h
 obtain⟨v,e,h⟩:=h
 obtain⟨m,hn,hl⟩:=I.loc
 obtain⟨u,r,l⟩:=hl i x v hN e hv
 have fin:EP X pins σ Q u s:=⟨v,H,I,r,h⟩
 rcases l with⟨hk,hm⟩ |⟨hk,c,hc,hcell⟩
 ·exact wpAny_Name (wpAny_loadName_local I.ok.kind hk hn hm fin) hd
 ·rcases hk with hk |hk
  ·exact wpAny_Name (wpAny_loadName_cell I.ok.kind hk hc hcell fin) hd
  ·exact wpAny_Name (wpAny_loadName_free I.ok.kind hk hc hcell fin hcd) hd
theorem aG{i j pos}:PE X (.Constant (.int i) j pos) (tC (.int i)):=fun _ _ _ H _ I h=>wpAny_Constant_int ⟨.int i,H,I.tok _,⟨_,rfl⟩,h⟩
theorem Hf{b j pos}:PE X (.Constant (.bool b) j pos) (tC (.bl b)):=fun _ _ _ H _ I h=>Constant_bool ⟨.bl b,H,I,rfl,h⟩
def Gl(X:Cx)(x:Str):Prop:=X.env.kindOf x=some .globalImplicit
theorem Bp{E:Value→Shared→Prop}{pins:List (Addr×Obj)}{s:Shared}{σ:St}{H:Hp}{x:Str}{u:Value}{pos:Pos}{Q:Value→Shared→Prop}(I:Inv X pins σ H s)(hg:Gl X x)(hm:X.mg x=some u)(h:Q u s)(hd:(x==("__debug__":Str))=false:=by decide):wpAny (model X.prog X.w) X.A (eval (.Name x pos) X.env) Q E s:=
 Calls.Name_function_global I.ok.kind hg (Calls.loadGlobal_global (by rw[I.ok.glob];exact I.mod.glob.keeps I.bk) hm h) hd
theorem tQ{E:Value→Shared→Prop}{pins:List (Addr×Obj)}{s:Shared}{σ:St}{H:Hp}{x:Str}{u:Value}{pos:Pos}{Q:Value→Shared→Prop}(I:Inv X pins σ H s)(hg:Gl X x)(hm:X.mg x=none)(hv:bootBuiltins x=some u)(h:Q u s)(hn:x≠"__name__":=by decide)(hd:(x==("__debug__":Str))=false:=by decide):wpAny (model X.prog X.w) X.A (eval (.Name x pos) X.env) Q E s:=by
 obtain⟨mb,h1,h2⟩:=I.mod.blt
 exact Calls.Name_function_global I.ok.kind hg (Calls.loadGlobal_builtin (by rw[I.ok.glob];exact I.mod.glob.keeps I.bk) hm (by rw[I.ok.blt];exact h1.keeps I.bk) ((h2 x hn).trans hv) h) hd
theorem au{x:Str}{v:V}{u:Value}{pos:Pos}(hg:Gl X x)(hm:X.mg x=some u)(r:RelV v u)(hd:(x==("__debug__":Str))=false:=by decide):PE X (.Name x pos) (tC v):=
 fun _ _ _ H _ I h=>Bp I hg hm ⟨v,H,I,r,h⟩ hd
variable{a b:Expr}{ta tb:TE}{pos:Pos}
def PC(X:Cx)(op:CmpOp)(a b:Expr)(t:TE):Prop:=
 ∀(pins:List (Addr×Obj)) (s:Shared) (σ:St) (H:Hp) (Q:VK),Inv X pins σ H s→t σ H Q→
  wpAny (model X.prog X.w) X.A (eval a X.env) (fun v s₁=>wpAny (model X.prog X.w) X.A (eval b X.env) (fun u s₂=>wpAny (model X.prog X.w) X.A (compareOp op v u) (EP X pins σ Q) X.xe s₂) X.xe s₁) X.xe s
theorem MO(b:Expr){op:CmpOp}(h:op≠ .In)(h2:op≠ .NotIn):behindInMarks op b=false:=by
 have e1:(op==CmpOp.In)=false:=by cases op<;>first |rfl |exact absurd rfl h
 have e2:(op==CmpOp.NotIn)=false:=by cases op<;>first |rfl |exact absurd rfl h2
 cases b<;>simp[behindInMarks,e1,e2]
def WG(ta:TE):TE:=fun σ H Q=>ta σ H fun x H1=>Q (.bl (decide (x=.lJ))) H1
theorem RelV.MP{x:V}{v:Value}(r:RelV x v):(v==Value.none)=decide (x=.lJ):=by
 cases x with
 |lJ=>cases r;rfl
 |bl _=>cases r;rfl
 |int _=>obtain⟨t,rfl⟩:=r;rfl
 |str _=>obtain⟨t,rfl⟩:=r;rfl
 |G_ _=>obtain⟨t,rfl⟩:=r;rfl
 |TQ _=>obtain⟨t,rfl⟩:=r;rfl
 |ref _=>cases r;rfl
 |ty _=>cases r;rfl
theorem MQ{j pos'}(ha:PE X a ta):PC X .Is a (.Constant .none j pos') (WG ta):=by
 intro pins s σ H Q I h
 refine dX (ha pins s σ H _ I h) fun v s1 ⟨x,H1,I1,r1,q1⟩=>?_
 exact Constant_none (is_none_gen ⟨.bl _,H1,I1,by rw[r1.MP];rfl,q1⟩)
inductive S6(x:V)(H:Hp)(Q:Bool→Hp→Prop):Prop
 |mk (c:Bool) (e:x=.bl c) (k:Q c H)
def tB(t:TE):TT:=fun σ H Q=>t σ H fun x H1=>S6 x H1 Q
theorem BV{op:CmpOp}{t:TE}(h:PC X op a b t)(h1:behindInMarks op b=false:=by first |exact MO _ (by decide) (by decide) |rfl):PT X (.Compare a [op] [b] pos) (tB t):=by
 intro pins s σ H Q I hw
 refine wpAny_isTrue_Compare1 (dX (h pins s σ H _ I hw) fun v s1 h1=>dX h1 fun u s2 h2=>dX h2 fun c s3 ⟨x,H1,I1,r1,q1⟩=>?_) h1
 obtain⟨d,rfl,q⟩:=q1
 cases r1
 exact abA ⟨H1,I1,q⟩
theorem ja{e:Expr}{t:TE}(h:PE X e t)(he:∀whole,isTrue e X.env whole=(do let v ←whole;standAt e.pos;holding [v] (truthy v)):=by intro _;rfl):PT X e (tB t):=by
 intro pins s σ H Q I hw
 refine isTrue_plain (dX (h pins s σ H _ I hw) fun v s1 ⟨x,H1,I1,r1,q1⟩=>?_) (he _)
 obtain⟨d,rfl,q⟩:=q1
 cases r1
 exact abA ⟨H1,I1,q⟩
variable{tA V5:TT}{rest:List Expr}
def WH(t u:TT):TT:=fun σ H Q=>t σ H fun c H1=>if c=true then u σ H1 Q else Q false H1
def tOr(t u:TT):TT:=fun σ H Q=>t σ H fun c H1=>if c=true then Q true H1 else u σ H1 Q
def WI(t:TT):TT:=fun σ H Q=>t σ H fun c H1=>Q (!c) H1
theorem yo(ha:PT X a tA):PW X (.BoolOp .And [a] pos) tA:=by
 intro wh pins s σ H Q I h
 refine isTrue_and (dX (ha pins s σ H Q I h) fun c s1 e=>?_)
 cases c with
 |true=>exact isTrue_and_nil e
 |false=>exact e
theorem BW(ha:PT X a tA):PW X (.BoolOp .Or [a] pos) tA:=by
 intro wh pins s σ H Q I h
 refine isTrue_or (dX (ha pins s σ H Q I h) fun c s1 e=>?_)
 cases c with
 |false=>exact isTrue_or_nil e
 |true=>exact e
theorem BX(ha:PT X a tA)(hb:PW X (.BoolOp .And (b::rest) pos) V5):PW X (.BoolOp .And (a::b::rest) pos) (WH tA V5):=by
 intro wh pins s σ H Q I h
 refine isTrue_and (dX (ha pins s σ H _ I h) fun c s1 ⟨H1,I1,q1⟩=>?_)
 cases c with
 |true=>exact hb wh pins s1 σ H1 Q I1 q1
 |false=>exact⟨H1,I1,q1⟩
theorem EF(ha:PT X a tA)(hb:PW X (.BoolOp .Or (b::rest) pos) V5):PW X (.BoolOp .Or (a::b::rest) pos) (tOr tA V5):=by
 intro wh pins s σ H Q I h
 refine isTrue_or (dX (ha pins s σ H _ I h) fun c s1 ⟨H1,I1,q1⟩=>?_)
 cases c with
 |true=>exact⟨H1,I1,q1⟩
 |false=>exact hb wh pins s1 σ H1 Q I1 q1
theorem BY(ha:PT X a tA):PT X (.UnaryOp .Not a pos) (WI tA):=by
 intro pins s σ H Q I h
 exact isTrue_not (ha pins s σ H (fun c H1=>Q (!c) H1) I h)
def T4(ta tb:TE):TE:=fun σ H Q=>ta σ H fun x H1=>S6 x H1 fun c H1=>if c=true then tb σ H1 Q else Q (.bl false) H1
def WJ(ta tb:TE):TE:=fun σ H Q=>ta σ H fun x H1=>S6 x H1 fun c H1=>if c=true then Q (.bl true) H1 else tb σ H1 Q
def T5(ta:TE):TE:=fun σ H Q=>ta σ H fun x H1=>S6 x H1 fun c H1=>Q (.bl (!c)) H1
theorem Je{op}{t:TE}(h:PE X a t):PE X (.BoolOp op [a] pos) t:=fun pins s σ H Q I hw=>BoolOp_one (h pins s σ H Q I hw)
theorem MR(ha:PE X a ta)(hb:PE X (.BoolOp .And (b::rest) pos) tb):PE X (.BoolOp .And (a::b::rest) pos) (T4 ta tb):=by
 intro pins s σ H Q I h
 refine BoolOp_and (dX (ha pins s σ H _ I h) fun v s1 ⟨x,H1,I1,r1,q1⟩=>?_)
 obtain⟨c,rfl,q1⟩:=q1
 cases r1
 refine abA ?_
 cases c with
 |true=>exact hb pins s1 σ H1 Q I1 q1
 |false=>exact⟨.bl false,H1,I1,rfl,q1⟩
theorem T6(ha:PE X a ta)(hb:PE X (.BoolOp .Or (b::rest) pos) tb):PE X (.BoolOp .Or (a::b::rest) pos) (WJ ta tb):=by
 intro pins s σ H Q I h
 refine BoolOp_or (dX (ha pins s σ H _ I h) fun v s1 ⟨x,H1,I1,r1,q1⟩=>?_)
 obtain⟨c,rfl,q1⟩:=q1
 cases r1
 refine abA ?_
 cases c with
 |false=>exact hb pins s1 σ H1 Q I1 q1
 |true=>exact⟨.bl true,H1,I1,rfl,q1⟩
theorem MS(ha:PE X a ta):PE X (.UnaryOp .Not a pos) (T5 ta):=by
 intro pins s σ H Q I h
 refine UnaryOp_ (dX (ha pins s σ H _ I h) fun v s1 ⟨x,H1,I1,r1,q1⟩=>?_)
 obtain⟨c,rfl,q1⟩:=q1
 cases r1
 exact not_of (abA ⟨.bl (!c),H1,I1,rfl,q1⟩)
def tIf(t:TT)(ta tb:TE):TE:=fun σ H Q=>t σ H fun c H1=>if c=true then ta σ H1 Q else tb σ H1 Q
theorem iT{c:Expr}(hc:PT X c tA)(ha:PE X a ta)(hb:PE X b tb):PE X (.IfExp c a b pos) (tIf tA ta tb):=by
 intro pins s σ H Q I h
 refine wpAny_IfExp (dX (hc pins s σ H _ I h) fun d s1 ⟨H1,I1,q1⟩=>?_)
 cases d with
 |true=>exact ha pins s1 σ H1 Q I1 q1
 |false=>exact hb pins s1 σ H1 Q I1 q1
end
end L2
namespace L2
open PySem PySem.Spec PyProof.Rows
def bD(K:W.Frag)(H:Hp)(a:Addr)(xs:List V):Prop:=
 Rd H a (.lst xs)∨
  ∃(o:Obj) (its:Array Value) (n:Nat),K.lookup a=some o∧o.cls=.type "list"∧o.dict=none∧o.data=.seq its n∧its.size≤sizeLine∧Vals xs its.toList
def i6(K:W.Frag)(H:Hp)(a:Addr)(xs:List V):Prop:=
 Rd H a (.tup xs)∨
  ∃(o:Obj) (its:Array Value) (n:Nat),K.lookup a=some o∧o.cls=.type "tuple"∧o.data=.seq its n∧its.size≤sizeLine∧Vals xs its.toList
def WK:Value→Option V
 | .none=>some .lJ
 | .bool b=>some (.bl b)
 | .int i _=>some (.int i)
 | .str x _=>some (.str x)
 | .bytes b _=>some (.G_ b)
 | .float b _=>some (.TQ b)
 | .ref a=>some (.ref a)
 | .type n=>some (.ty n)
 |_=>none
theorem RelV.abs{x:V}{u:Value}(r:RelV x u):WK u=some x:=by
 cases x with
 |lJ=>cases r;rfl
 |bl _=>cases r;rfl
 |int _=>obtain⟨t,rfl⟩:=r;rfl
 |str _=>obtain⟨t,rfl⟩:=r;rfl
 |G_ _=>obtain⟨t,rfl⟩:=r;rfl
 |TQ _=>obtain⟨t,rfl⟩:=r;rfl
 |ref _=>cases r;rfl
 |ty _=>cases r;rfl
theorem RelV.inj{x y:V}{u:Value}(r:RelV x u)(q:RelV y u):x=y:=aar (r.abs.symm.trans q.abs)
theorem Vals.inj:∀{xs ys:List V} {us:List Value},Vals xs us→Vals ys us→xs=ys
 |_,_,_,.nil,.nil=>rfl
 |_,_,_,.cons r t,.cons r' t'=>by rw[r.inj r',Vals.inj t t']
section
variable{X:Cx}{pins:List (Addr×Obj)}{σ:St}{H:Hp}{s:Shared}{a:Addr}{xs ys:List V}
theorem bD.of{K:W.Frag}(h:H a=some (.lst xs)):bD K H a xs:=.inl (.inl h)
theorem i6.of{K:W.Frag}(h:H a=some (.tup xs)):i6 K H a xs:=.inl (.inl h)
theorem Inv.list(I:Inv X pins σ H s)(h:bD X.K H a xs):∃its:List Value,Vals xs its∧PlainL s.heap a its.toArray∧xs.length≤sizeLine:=by
 rcases h with h |⟨o,its,n,hk,hc,hd,hs,hz,r⟩
 ·obtain⟨z,its,n,r,e⟩:=h.ok I.hok
  exact⟨its,r,⟨_,n,e,rfl,rfl,rfl⟩,z⟩
 ·refine⟨its.toList,r,⟨o,n,I.IG a o hk,hc,hd,by simpa using hs⟩,?_⟩
  have e:=r.length
  simp only[acy]at e
  omega
theorem Inv.tuple(I:Inv X pins σ H s)(h:i6 X.K H a xs):∃its:List Value,Vals xs its∧IsTup s.heap a its.toArray∧xs.length≤sizeLine:=by
 rcases h with h |⟨o,its,n,hk,hc,hs,hz,r⟩
 ·obtain⟨z,its,r,p⟩:=h.ok I.hok
  exact⟨its,r,p,z⟩
 ·refine⟨its.toList,r,⟨o,I.IG a o hk,hc,n,by simpa using hs⟩,?_⟩
  have e:=r.length
  simp only[acy]at e
  omega
theorem Inv.tR(I:Inv X pins σ H s)(h:bD X.K H a xs)(h':bD X.K H a ys):xs=ys:=by
 obtain⟨its,r,⟨o,n,e,_,_,d⟩,_⟩:=I.list h
 obtain⟨its',r',⟨o',n',e',_,_,d'⟩,_⟩:=I.list h'
 rw[e]at e';cases e'
 rw[d]at d'
 injection d' with d1 _
 have:its=its':=by simpa using congrArg Array.toList d1
 subst this
 exact r.inj r'
theorem Inv.Lx(I:Inv X pins σ H s)(h:i6 X.K H a xs)(h':i6 X.K H a ys):xs=ys:=by
 obtain⟨its,r,⟨o,e,_,n,d⟩,_⟩:=I.tuple h
 obtain⟨its',r',⟨o',e',_,n',d'⟩,_⟩:=I.tuple h'
 rw[e]at e';cases e'
 rw[d]at d'
 injection d' with d1 _
 have:its=its':=by simpa using congrArg Array.toList d1
 subst this
 exact r.inj r'
end
abbrev Cx.Dz(X:Cx)(E:Value→Shared→Prop):Cx:={X with xe:=E}
abbrev Cx.S7(X:Cx):Cx:=X.Dz fun _ _=>False
theorem Cx.Ok.Dz{X:Cx}(ok:X.Ok)(E:Value→Shared→Prop):(X.Dz E).Ok:=
 ⟨ok.mod,ok.kind,ok.glob,ok.blt,ok.above,ok.inj,ok.has,ok.TV,ok.hd,ok.frames,ok.stk,ok.V3,ok.bs,ok.MK,ok.ML,ok.MM,ok.A1,ok.Q2⟩
theorem Cx.Ok.tS{X:Cx}{E:Value→Shared→Prop}(ok:(X.Dz E).Ok):X.Ok:=
 ⟨ok.mod,ok.kind,ok.glob,ok.blt,ok.above,ok.inj,ok.has,ok.TV,ok.hd,ok.frames,ok.stk,ok.V3,ok.bs,ok.MK,ok.ML,ok.MM,ok.A1,ok.Q2⟩
section
variable{X:Cx}{pins:List (Addr×Obj)}{σ:St}{H:Hp}{s:Shared}{E:Value→Shared→Prop}
theorem Inv.Dz(I:Inv X pins σ H s)(E:Value→Shared→Prop):Inv (X.Dz E) pins σ H s:=⟨I.ok.Dz E,I.os,I.bare,I.base,I.loc,I.cell,I.free,I.qC,I.pin,I.hok,I.len⟩
theorem Inv.tS(I:Inv (X.Dz E) pins σ H s):Inv X pins σ H s:=⟨I.ok.tS,I.os,I.bare,I.base,I.loc,I.cell,I.free,I.qC,I.pin,I.hok,I.len⟩
theorem SP.tS{D:Ends}{f:Flow}{s':Shared}(h:SP (X.Dz E) pins D f s'):SP X pins D f s':=by
 cases f with
 |next=>obtain⟨σ',H',I,q⟩:=h;exact⟨σ',H',I.tS,q⟩
 |brk=>obtain⟨σ',H',I,q⟩:=h;exact⟨σ',H',I.tS,q⟩
 |cont=>obtain⟨σ',H',I,q⟩:=h;exact⟨σ',H',I.tS,q⟩
 |ret u=>obtain⟨v,σ',H',I,r,q⟩:=h;exact⟨v,σ',H',I.tS,r,q⟩
theorem Kr.S7{st:List Stmt}{t:TS}(h:Kr X.S7 st t):Kr X st t:=fun pins s σ H D I hw=>
 aby (h pins s σ H D (I.Dz _) hw) (fun _ _ q=>q.tS) fun _ _ z=>False.elim z
end
section
variable{X:Cx}{st:Stmt}{rest:List Stmt}{t u:TS}{e:Expr}{te:TE}{pos:Pos}
def Qk:TS:=fun D σ H=>D.nx σ H
def BZ(t u:TS):TS:=fun D σ H=>t {D with nx:=u D} σ H
theorem bw:Kr X [] Qk:=fun _ _ σ H _ I h=>wpAny_execs_nil ⟨σ,H,I,h⟩
theorem ah(h1:PS X st t)(h2:Kr X rest u):Kr X (st::rest) (BZ t u):=by
 intro pins s σ H D I h
 refine wpAny_execs_cons (dX (h1 pins s σ H {D with nx:=u D} I h) fun f s1 q=>?_)
 cases f with
 |next=>
  obtain⟨σ',H',I',q⟩:=q
  exact h2 pins s1 σ' H' D I' q
 |ret v=>exact q
 |brk=>exact q
 |cont=>exact q
theorem ay(h1:PS X st t):Kr X [st] t:=by
 intro pins s σ H D I h
 refine wpAny_execs_cons (dX (h1 pins s σ H D I h) fun f s1 q=>?_)
 cases f with
 |next=>exact wpAny_execs_nil q
 |ret v=>exact q
 |brk=>exact q
 |cont=>exact q
theorem Inv.quiet{pins:List (Addr×Obj)}{σ:St}{H:Hp}{s:Shared}(I:Inv X pins σ H s):interactive X.env=false:=by simp[interactive,I.ok.kind]
def T7(te:TE):TS:=fun D σ H=>te σ H fun _ H1=>D.nx σ H1
theorem eE(he:PE X e te)(hs:swapsWith e none pos.line X.env=pure false:=by rfl):PS X (.Expr e pos) (T7 te):=by
 intro pins s σ H D I h
 exact wpAny_Expr_any (dX (he pins s σ H _ I h) fun v s1 ⟨x,H1,I1,r1,q1⟩=>⟨σ,H1,I1,q1⟩) I.quiet hs
def Q3(te:TE):TS:=fun D σ H=>te σ H D.rt
theorem aC(he:PE X e te):PS X (.Return (some e) pos) (Q3 te):=by
 intro pins s σ H D I h
 exact wpAny_Return_some (dX (he pins s σ H _ I h) fun v s1 ⟨x,H1,I1,r1,q1⟩=>⟨x,σ,H1,I1,r1,q1⟩)
def T8(c:TT)(t u:TS):TS:=fun D σ H=>c σ H fun b H1=>if b=true then t D σ H1 else u D σ H1
theorem bZ{c:Expr}{a b:List Stmt}{tc:TT}(hc:PT X c tc)(ha:Kr X a t)(hb:Kr X b u):PS X (.If c a b pos) (T8 tc t u):=by
 intro pins s σ H D I h
 refine wpAny_If (dX (hc pins s σ H _ I h) fun d s1 ⟨H1,I1,q1⟩=>?_)
 cases d with
 |true=>exact ha pins s1 σ H1 D I1 q1
 |false=>exact hb pins s1 σ H1 D I1 q1
def Q4:TS:=fun _ _ _=>False
theorem MT:PS X st Q4:=fun _ _ _ _ _ _ h=>h.elim
end
abbrev TG:=V→St→Hp→(St→Hp→Prop)→Prop
abbrev Ql:=List V→St→Hp→(St→Hp→Prop)→Prop
def PG(X:Cx)(target:Expr)(t:TG):Prop:=
 ∀(pins:List (Addr×Obj)) (s:Shared) (σ:St) (H:Hp) (v:V) (u:Value) (Q:St→Hp→Prop),Inv X pins σ H s→RelV v u→t v σ H Q→
  wpAny (model X.prog X.w) X.A (assign target X.env u) (fun _ s'=>∃σ' H',Inv X pins σ' H' s'∧Q σ' H') X.xe s
def T9(X:Cx)(ts:List Expr)(t:Ql):Prop:=
 ∀(pins:List (Addr×Obj)) (s:Shared) (σ:St) (H:Hp) (vs:List V) (us:List Value) (Q:St→Hp→Prop),Inv X pins σ H s→Vals vs us→t vs σ H Q→
  wpAny (model X.prog X.w) X.A (assignInOrder ((assignEach ts X.env).map (·.2)) us) (fun _ s'=>∃σ' H',Inv X pins σ' H' s'∧Q σ' H') X.xe s
abbrev Q5:=V→V→V→Hp→(Hp→Prop)→Prop
def T_(X:Cx)(t:Q5):Prop:=
 ∀(pins:List (Addr×Obj)) (s:Shared) (σ:St) (H:Hp) (o i v:V) (ov iv u:Value) (Q:Hp→Prop),Inv X pins σ H s→RelV o ov→RelV i iv→RelV v u→t o i v H Q→
  wpAny (model X.prog X.w) X.A (setItem ov iv u) (fun _ s'=>∃H',Inv X pins σ H' s'∧Q H') X.xe s
abbrev S8:=V→V→Hp→VK→Prop
def V6(X:Cx)(op:Operator)(t:S8):Prop:=
 ∀(pins:List (Addr×Obj)) (s:Shared) (σ:St) (H:Hp) (x y:V) (v u:Value) (Q:VK),Inv X pins σ H s→RelV x v→RelV y u→t x y H Q→
  wpAny (model X.prog X.w) X.A (inplaceOp op v u) (EP X pins σ Q) X.xe s
section
variable{X:Cx}{pos:Pos}
def Hg(i:Nat):TG:=fun v σ H Q=>Q (σ.set i (some v)) H
theorem bC{i:Nat}{x:Str}(hN:X.N.Nodup)(hi:X.N[i]?=some x)(hx:Loc X.env.scope x)(hf:X.fn x=true∨X.env.scope.names.lookup x=some .local:=by first |exact .inl rfl |exact .inr rfl |assumption):PG X (.Name x pos) (Hg i):=by
 intro pins s σ H v u Q I r h
 exact wpAny_assign_Name (BU I hN hi hx r (fun s' I'=>⟨_,H,I',h⟩) hf)
def WL:Ql:=fun vs σ H Q=>vs=[]∧Q σ H
def Ua(t:TG)(u:Ql):Ql:=fun vs σ H Q=>∃v r,vs=v::r∧t v σ H fun σ' H'=>u r σ' H' Q
theorem jw:T9 X [] WL:=by
 intro pins s σ H vs us Q I r h
 obtain⟨e,h⟩:=h
 subst e
 cases r
 exact assignInOrder_nil ⟨σ,H,I,h⟩
theorem b9{e:Expr}{es:List Expr}{t:TG}{u:Ql}(h1:PG X e t)(h2:T9 X es u)(hs:(assignEach (e::es) X.env).map (·.2)=assign e X.env::(assignEach es X.env).map (·.2):=by rfl):T9 X (e::es) (Ua t u):=by
 intro pins s σ H vs us Q I r h
 obtain⟨v,vr,e1,h⟩:=h
 subst e1
 cases r with
 |cons r rr=>
  rw[hs]
  refine assignInOrder_cons (dX (h1 pins s σ H _ _ _ I r h) fun _ s1 ⟨σ1,H1,I1,q1⟩=>?_)
  exact h2 pins s1 σ1 H1 _ _ Q I1 rr q1
def Ub(K:W.Frag)(n:Nat)(t:Ql):TG:=fun v σ H Q=>∃a xs,v=.ref a∧i6 K H a xs∧xs.length=n∧t xs σ H Q
theorem tT{es:List Expr}{k:Nat}{t:Ql}{n:Nat}(hc:X.calm=true)(h:T9 X es t)(hn:(assignEach es X.env).length=n:=by rfl)(hst:(assignEach es X.env).findIdx? (·.1)=none:=by rfl):PG X (.Tuple es k pos) (Ub X.K n t):=by
 intro pins s σ H v u Q I r hw
 obtain⟨a,xs,e1,hq,hl,hw⟩:=hw
 subst e1
 cases r
 obtain⟨its,rv,ht,hz⟩:=I.tuple hq
 refine assign_Tuple_tuple (I.ok.hd hc) ht (by simp[hn,←hl,rv.length]) hst fun h' hx=>?_
 have I1:Inv X pins σ H {s with heap:=h'}:=I.kept (t':=s.toks) fun b o e=>hx b o (aaI (aaq e)) e
 exact h pins _ σ H xs _ Q I1 (by simpa using rv) hw
def Q6(te:TE)(g:TG):TS:=fun D σ H=>te σ H fun x H1=>g x σ H1 D.nx
theorem aE{i:Nat}{x:Str}{e:Expr}{te:TE}{pos':Pos}(hN:X.N.Nodup)(hi:X.N[i]?=some x)(hx:Loc X.env.scope x)(he:PE X e te)(hs:swapsWith e (some (.Name x pos')) pos.line X.env=pure false:=by rfl)(hf:X.fn x=true∨X.env.scope.names.lookup x=some .local:=by first |exact .inl rfl |exact .inr rfl |assumption):PS X (.Assign [.Name x pos'] e pos) (Q6 te (Hg i)):=by
 intro pins s σ H D I h
 refine wpAny_Assign_Name (dX (he pins s σ H _ I h) fun v s1 ⟨y,H1,I1,r1,q1⟩=>?_) hs
 exact BU I1 hN hi hx r1 (fun s2 I2=>⟨_,H1,I2,q1⟩) hf
def WM(i:Nat)(te:TE)(ti:S8):TS:=fun D σ H=>T3 i σ H fun x H=>te σ H fun y H1=>ti x y H1 fun z H2=>D.nx (σ.set i (some z)) H2
theorem Jf{i:Nat}{x:Str}{e:Expr}{te:TE}{op:Operator}{ti:S8}{pos':Pos}(hN:X.N.Nodup)(hi:X.N[i]?=some x)(hx:Loc X.env.scope x)(he:PE X e te)(ho:V6 X op ti)(hf:X.fn x=true∨X.env.scope.names.lookup x=some .local:=by first |exact .inl rfl |exact .inr rfl |assumption):PS X (.AugAssign (.Name x pos') op e pos) (WM i te ti):=by
 intro pins s σ H D I h
 obtain⟨v,e1,h⟩:=h
 obtain⟨m,hn,hl⟩:=I.loc
 have vis:Q0 X.env.scope x:=by rcases hx with k |k;exact .inl k;exact .inr (.inl k)
 obtain⟨u,r,l⟩:=hl i x v hi e1 vis
 refine wpAny_AugAssign_Name ?_
 have go:wpAny (model X.prog X.w) X.A (eval e X.env) (fun w s₂=>wpAny (model X.prog X.w) X.A (inplaceOp op u w) (fun r s₃=>wpAny (model X.prog X.w) X.A (storeName X.env x r) (fun _=>SP X pins D .next) X.xe s₃) X.xe s₂) X.xe s:=by
  refine dX (he pins s σ H _ I h) fun w s1 ⟨y,H1,I1,r1,q1⟩=>?_
  refine dX (ho pins s1 σ H1 v y u w _ I1 r r1 q1) fun z s2 ⟨zv,H2,I2,r2,q2⟩=>?_
  exact BU I2 hN hi hx r2 (fun s3 I3=>⟨_,H2,I3,q2⟩) hf
 rcases l with⟨hk,hm⟩ |⟨hk,c,hc,hcell⟩
 ·exact wpAny_loadName_local I.ok.kind hk hn hm go
 ·rcases hk with hk |hk
  ·exact wpAny_loadName_cell I.ok.kind hk hc hcell go
  ·rcases hx with k |k
   ·have:X.env.scope.names.lookup x=some .free:=hk
    rw[k]at this;cases this
   ·have:X.env.scope.names.lookup x=some .free:=hk
    rw[k]at this;cases this
def Uc(to ti te:TE)(OI:V→V→Hp→VK→Prop)(V7:S8)(OJ:Q5):TS:=fun D σ H=>to σ H fun o H1=>ti σ H1 fun i H2=>OI o i H2 fun x H3=>te σ H3 fun y H4=>V7 x y H4 fun z H5=>OJ o i z H5 fun H6=>D.nx σ H6
def Ud(X:Cx)(t:V→V→Hp→VK→Prop):Prop:=
 ∀(pins:List (Addr×Obj)) (s:Shared) (σ:St) (H:Hp) (o i:V) (ov iv:Value) (Q:VK),Inv X pins σ H s→RelV o ov→RelV i iv→t o i H Q→
  wpAny (model X.prog X.w) X.A (getItem ov iv) (EP X pins σ Q) X.xe s
theorem Ks{o i e:Expr}{to ti te:TE}{OI:V→V→Hp→VK→Prop}{V7:S8}{OJ:Q5}{op:Operator}{tpos:Pos}(ho:PE X o to)(hi:PE X i ti)(hg:Ud X OI)(he:PE X e te)(hp:V6 X op V7)(hs:T_ X OJ)(ha:∀ov iv new,augStore i ov iv new=(do holding [new,ov,iv] (setItem ov iv new);release [new,ov,iv] [];pure .next):=by intros;rfl):PS X (.AugAssign (.Subscript o i tpos) op e pos) (Uc to ti te OI V7 OJ):=by
 intro pins s σ H D I h
 refine wpAny_AugAssign_SubscriptAny (dX (ho pins s σ H _ I h) fun ov s1 ⟨x1,H1,I1,r1,q1⟩=>?_) ha
 refine dX (hi pins s1 σ H1 _ I1 q1) fun iv s2 ⟨x2,H2,I2,r2,q2⟩=>?_
 refine dX (hg pins s2 σ H2 x1 x2 ov iv _ I2 r1 r2 q2) fun old s3 ⟨x3,H3,I3,r3,q3⟩=>?_
 refine dX (he pins s3 σ H3 _ I3 q3) fun v s4 ⟨x4,H4,I4,r4,q4⟩=>?_
 refine dX (hp pins s4 σ H4 x3 x4 old v _ I4 r3 r4 q4) fun new s5 ⟨x5,H5,I5,r5,q5⟩=>?_
 exact dX (hs pins s5 σ H5 x1 x2 x5 ov iv new _ I5 r1 r2 r5 q5) fun _ s6 ⟨H6,I6,q6⟩=>⟨σ,H6,I6,q6⟩
inductive XIp(f:Int→Int→Int)(x y:V)(H:Hp)(Q:VK):Prop
 |mk (i j:Int) (e:x=.int i) (e':y=.int j) (k:Q (.int (f i j)) H)
def Zb(f:Int→Int→Int):S8:=XIp f
theorem MU:V6 X .Add (Zb fun i j=>i+j):=by
 intro pins s σ H x y v u Q I r1 r2 h
 obtain⟨i,j,e1,e2,q⟩:=h
 subst e1;subst e2
 obtain⟨t,rfl⟩:=r1
 obtain⟨t',rfl⟩:=r2
 exact iadd_int ⟨.int _,H,I.tok _,⟨_,rfl⟩,q⟩
theorem Jg:V6 X .Sub (Zb fun i j=>i-j):=by
 intro pins s σ H x y v u Q I r1 r2 h
 obtain⟨i,j,e1,e2,q⟩:=h
 subst e1;subst e2
 obtain⟨t,rfl⟩:=r1
 obtain⟨t',rfl⟩:=r2
 exact isub_int ⟨.int _,H,I.tok _,⟨_,rfl⟩,q⟩
end
section
variable{X:Cx}{pos:Pos}
def MV(c:TT)(tb:TS):TS:=fun D σ H=>∃W:Nat→St→Hp→Prop,(∃m,W m σ H)∧∀m σ H,W m σ H→
 c σ H fun b H1=>if b=true then ∃N:St→Hp→Prop,(∀σ' H',N σ' H'→∃m',m'<m∧W m' σ' H')∧tb {D with nx:=N,ct:=N,bk:=D.nx} σ H1 else D.nx σ H1
theorem MW{c:Expr}{body:List Stmt}{tc:TT}{tb:TS}(hp:PassesOwn (model X.prog X.w) X.A X.env X.xe)(hc:PT X c tc)(hb:Kr X body tb):PS X (.While c body [] pos) (MV tc tb):=by
 intro pins s σ H D I h
 obtain⟨W,⟨m0,w0⟩,turn⟩:=h
 refine wpAny_While (codeAny_whileLoop (fun n s'=>∃σ' H',Inv X pins σ' H' s'∧W n σ' H') ?_ m0 ⟨σ,H,I,w0⟩)
 rintro n s1 ⟨σ1,H1,I1,w1⟩
 refine ab1 hp (dX (hc pins s1 σ1 H1 _ I1 (turn n σ1 H1 w1)) fun b s2 ⟨H2,I2,q2⟩=>?_)
 cases b with
 |true=>
  obtain⟨N,hN,q2⟩:=q2
  rw[D7 rfl]
  refine ab1 hp (dX (hb pins s2 σ1 H2 _ I2 q2) fun f s3 q3=>?_)
  cases f with
  |next=>
   obtain⟨σ3,H3,I3,n3⟩:=q3
   obtain⟨m',hm,w3⟩:=hN σ3 H3 n3
   exact⟨m',hm,σ3,H3,I3,w3⟩
  |cont=>
   obtain⟨σ3,H3,I3,n3⟩:=q3
   obtain⟨m',hm,w3⟩:=hN σ3 H3 n3
   exact⟨m',hm,σ3,H3,I3,w3⟩
  |brk=>exact q3
  |ret v=>exact q3
 |false=>
  rw[D6 aay]
  exact wpAny_execs_nil ⟨σ1,H2,I2,q2⟩
end
structure It where
 go:Nat→Hp→Prop
 MX:Nat→Hp→V→Hp→Prop
 stop:Nat→Hp→Prop
def A2(X:Cx)(pins:List (Addr×Obj))(H:Hp)(b:Addr):Prop:=
 H b=none∧b≠X.env.locals∧b∉X.fs∧(b∈X.ex∨X.ED.heap.objs.size≤b)∧(∀x c,X.env.cells.lookup x=some c→c≠b)∧∀p∈X.pn++pins,p.1≠b
theorem Inv.Jh{X:Cx}{pins:List (Addr×Obj)}{σ:St}{H H':Hp}{s:Shared}{b:Addr}(I:Inv X pins σ H s)(hb:s.heap.objs.size≤b)(hn:H' b=none):A2 X pins H' b:=by
 refine⟨hn,abW (aaF I.lt hb),I.WD hb,.inr (aaD I.sz hb),fun x c e z=>?_,fun p hp z=>?_⟩
 ·obtain⟨v,q⟩:=I.cell x c e
  exact absurd (aaF q.lt (by rw[z];exact hb)) (abc _)
 ·exact absurd (aaF (aaq (I.pin p hp).1) (by rw[z];exact hb)) (abc _)
structure Turn(P:Program)(w:World)(K:W.Frag)(tg:Expr)(J:It)(fp:List Addr)(it:Addr)(tn:Nat→Heap→Prop):Prop where
 mem:it∈fp
 obj:∀i h,tn i h→∀b∈fp,∃o,h.get? b=some o∧∀v,o.data≠ .cell v
 keep:∀i h h',tn i h→(∀b∈fp,∀o,h.get? b=some o→h'.get? b=some o)→tn i h'
 item:∀(X:Cx),X.prog=P→X.w=w→X.K=K→X.calm=true→∀(i:Nat) (pins:List (Addr×Obj)) (s:Shared) (σ:St) (H:Hp) (E:Value→Shared→Prop),Inv X pins σ H s→(∀b∈fp,A2 X pins H b)→tn i s.heap→J.go i H→
  wpAny (model P w) X.A (pyNext (.ref it)) (fun r s1=>∃u,r=some u∧wpAny (model P w) X.A (letOwnedTupleGo tg (.ref it) u) (fun _ s2=>∃x H',Inv X pins σ H' s2∧RelV x u∧J.MX i H x H'∧tn (i+1) s2.heap∧∀b∈fp,H' b=none) E s1) E s
 done:∀(X:Cx),X.prog=P→X.w=w→X.K=K→X.calm=true→∀(i:Nat) (pins:List (Addr×Obj)) (s:Shared) (σ:St) (H:Hp) (E:Value→Shared→Prop),Inv X pins σ H s→(∀b∈fp,A2 X pins H b)→tn i s.heap→J.stop i H→
  wpAny (model P w) X.A (pyNext (.ref it)) (fun r s1=>r=none∧Inv X pins σ H s1) E s
 self:∀(A:Around) (i:Nat) (s:Shared) (Q:Value→Shared→Prop) (E:Value→Shared→Prop),tn i s.heap→Q (.ref it) s→wpAny (model P w) A (pyIter (.ref it)) Q E s
abbrev TI:=St→Hp→(It→Hp→Prop)→Prop
def V8(X:Cx)(pins:List (Addr×Obj))(σ:St)(tg:Expr)(R:It→Hp→Prop)(itv:Value)(s2:Shared):Prop:=
 ∃(it:Addr) (fp:List Addr) (tn:Nat→Heap→Prop) (J:It) (H':Hp),itv=.ref it∧Inv X pins σ H' s2∧Turn X.prog X.w X.K tg J fp it tn∧tn 0 s2.heap∧(∀b∈fp,A2 X pins H' b)∧R J H'
def PI(X:Cx)(tg iter:Expr)(wi:TI):Prop:=
 ∀(pins:List (Addr×Obj)) (s:Shared) (σ:St) (H:Hp) (R:It→Hp→Prop),Inv X pins σ H s→wi σ H R→
  wpAny (model X.prog X.w) X.A (eval iter X.env) (fun v s1=>wpAny (model X.prog X.w) X.A (pyIter v) (V8 X pins σ tg R) X.xe s1) X.xe s
theorem Qm{M:Model}{A:Around}{E:Value→Shared→Prop}{s:Shared}{tg:Expr}{it:Addr}{u:Value}{o:Obj}{n:String}{vs:Array Value}{Q:Unit→Shared→Prop}(ho:s.heap.get? it=some o)(hc:o.cls=.type n)(hd:o.data=.fields vs)(hn:["enumerate","zip","dict_itemiterator","dict_reverseitemiterator","odict_iterator","itertools.zip_longest","itertools.pairwise"].contains n=false)(hQ:Q () s):wpAny M A (letOwnedTupleGo tg (.ref it) u) Q E s:=by
 unfold letOwnedTupleGo
 cases tg<;>first
  |exact aan hQ
  |(cases u<;>first
     |exact aan hQ
     |(refine D4 (wpAny_load ho ?_)
       rw[hc,hd]
       show wpAny M A (if(["enumerate","zip","dict_itemiterator","dict_reverseitemiterator","odict_iterator","itertools.zip_longest","itertools.pairwise"].contains n&&vs[0]?==some (rawInt _))=true then _ else _) Q E s
       rw[D6 (by intro h;rw[hn,Bool.false_and]at h;cases h)]
       exact aan hQ))
def Qn(K:W.Frag)(a:Addr):It:=
 ⟨fun i H=>∃xs x,bD K H a xs∧xs[i]?=some x,fun i H x H'=>H'=H∧∀xs,bD K H a xs→xs[i]?=some x,fun i H=>∃xs,bD K H a xs∧xs.length≤i⟩
def OL(lo:Int)(n:Nat):It:=⟨fun i _=>i<n,fun i H x H'=>H'=H∧x=.int (lo+i),fun i _=>n≤i⟩
theorem Ly{P:Program}{w:World}{K:W.Frag}{tg:Expr}(a it:Addr):Turn P w K tg (Qn K a) [it] it (fun i h=>h.IsListIter it a i) where
 mem:=by simp
 obj:=fun i h st b hb=>by
  have e:b=it:=by simpa using hb
  subst e
  obtain⟨o,e,c,d⟩:=st
  exact⟨o,e,fun v z=>by rw[d]at z;cases z⟩
 keep:=fun i h h' st k=>st.at fun o e=>k it (by simp) o e
 item:=by
  intro X hP hw hK hc i pins s σ H E I hf st hg
  subst hP hw hK
  obtain⟨xs,x,hq,hx⟩:=hg
  obtain⟨its,rv,p,hz⟩:=I.list hq
  obtain⟨u,hu,ru⟩:=rv.get hx
  obtain⟨f0,f1,f2,f3,f4,f5⟩:=hf it (by simp)
  refine wpAny_pyNext_list_item st p.isList (x:=u) (by simpa using hu) fun h' st' sb=>?_
  have I1:Inv X pins σ H {s with heap:=h'}:=I.turned (t':=s.toks) (fun b o hb e=>(sb.2 b hb).trans e) f0 f1 f3 f4 f5
  obtain⟨o,e,c,d⟩:=id st'
  exact⟨u,rfl,Qm (s:={s with heap:=h'}) e c d (by decide) ⟨x,H,I1,ru,⟨rfl,fun ys hy=>by rw[I.tR hy hq];exact hx⟩,st',fun b hb=>(hf b hb).1⟩⟩
 done:=by
  intro X hP hw hK hc i pins s σ H E I hf st hg
  subst hP hw hK
  obtain⟨xs,hq,hx⟩:=hg
  obtain⟨its,rv,p,hz⟩:=I.list hq
  obtain⟨f0,f1,f2,f3,f4,f5⟩:=hf it (by simp)
  have hl:=rv.length
  exact wpAny_pyNext_list_end (I.ok.hd hc) st p.isList (by simp;omega) fun h' eb=>⟨rfl,I.turned (t':=s.toks) (fun b o hb e=>eb b o hb e) f0 f1 f3 f4 f5⟩
 self:=fun _ _ _ _ _ st h=>wpAny_pyIter_listiter st h
theorem Ji{P:Program}{w:World}{K:W.Frag}{tg:Expr}(it:Addr)(lo:Int)(n:Nat):Turn P w K tg (OL lo n) [it] it (fun i h=>IsRangeIter h it (lo+(i:Nat)*1) ((n:Int)-(i:Nat)) 1) where
 mem:=by simp
 obj:=fun i h st b hb=>by
  have e:b=it:=by simpa using hb
  subst e
  exact⟨_,st,fun v z=>by
   have z':Data.fields _=Data.cell v:=z
   cases z'⟩
 keep:=fun i h h' st k=>k it (by simp) _ st
 item:=by
  intro X hP hw hK hc i pins s σ H E I hf st hg
  subst hP hw hK
  obtain⟨f0,f1,f2,f3,f4,f5⟩:=hf it (by simp)
  have W:=Walks.range (prog:=X.prog) (w:=X.w) (I.ok.hd hc) it lo 1 n
  refine W.item i s _ _ hg st fun v h' tk hv st' kk=>?_
  obtain⟨t,rfl⟩:=hv
  have I1:Inv X pins σ H {s with heap:=h',toks:=tk}:=I.turned (fun b o hb e=>kk b o (by simpa using hb) e) f0 f1 f3 f4 f5
  refine⟨_,rfl,Qm (s:={s with heap:=h',toks:=tk}) (n:="range_iterator") st' rfl rfl (by decide) ⟨.int (lo+i),H,I1,⟨t,?_⟩,⟨rfl,rfl⟩,st',fun b hb=>(hf b hb).1⟩⟩
  rw[Int.mul_one]
 done:=by
  intro X hP hw hK hc i pins s σ H E I hf st hg
  subst hP hw hK
  obtain⟨f0,f1,f2,f3,f4,f5⟩:=hf it (by simp)
  exact wpAny_pyNext_range_end (I.ok.hd hc) st (by have:n≤i:=hg;omega) fun h' eb=>⟨rfl,I.turned (t':=s.toks) (fun b o hb e=>eb b o hb e) f0 f1 f3 f4 f5⟩
 self:=fun _ _ _ _ _ st h=>wpAny_pyIter_rangeiter st h
end L2
namespace L2
open PySem PySem.Spec PyProof.Rows
section
variable{X:Cx}{tg:Expr}
def Ue(K:W.Frag)(tl:TE):TI:=fun σ H R=>tl σ H fun x H1=>∃a,x=.ref a∧(∃xs,bD K H1 a xs)∧R (Qn K a) H1
theorem fS{l:Expr}{tl:TE}(hl:PE X l tl):PI X tg l (Ue X.K tl):=by
 intro pins s σ H R I h
 refine dX (hl pins s σ H _ I h) fun v s1 ⟨x,H1,I1,r1,q1⟩=>?_
 obtain⟨a,e,⟨xs,hq⟩,q⟩:=q1
 subst e
 cases r1
 obtain⟨its,rv,p,hz⟩:=I1.list hq
 refine acm p.isList ?_
 refine⟨s1.heap.objs.size,[s1.heap.objs.size],_,_,H1,rfl,I1.kept (t':=s1.toks) fun b o e=>D8 _ e,Ly a _,⟨_,aaw _ rfl,rfl,rfl⟩,fun b hb=>?_,q⟩
 have e:b=s1.heap.objs.size:=by simpa using hb
 subst e
 exact I1.Jh (D9 _) (I1.hok.fresh (D9 _))
theorem MY{pins:List (Addr×Obj)}{σ:St}{H:Hp}{s:Shared}{R:It→Hp→Prop}{E:Value→Shared→Prop}{lo hi:Int}{t u v:Tok}{tk:Nat}(I:Inv X pins σ H s)(h1: -(2^62)≤lo)(h2:lo<2^62)(h3: -(2^62)≤hi)(h4:hi<2^62)(q:R (OL lo (hi-lo).toNat) H):wpAny (model X.prog X.w) X.A (pyIter (.ref s.heap.objs.size)) (V8 X pins σ tg R) E {s with heap:=s.heap.push {cls:=.type "range",data:=.fields #[.int lo t,.int hi u,.int 1 v]},toks:=tk}:=by
 refine wpAny_pyIter_range (IsRange.new ..) (small_one h1 h2 h3 h4) ?_
 have I1:Inv X pins σ H {s with heap:=s.heap.push {cls:=.type "range",data:=.fields #[.int lo t,.int hi u,.int 1 v]},toks:=tk}:=I.kept fun b o e=>D8 _ e
 refine⟨(s.heap.push {cls:=.type "range",data:=.fields #[.int lo t,.int hi u,.int 1 v]}).objs.size,[(s.heap.push {cls:=.type "range",data:=.fields #[.int lo t,.int hi u,.int 1 v]}).objs.size],_,_,H,rfl,I1.kept (t':=tk) fun b o e=>D8 _ e,Ji _ lo (hi-lo).toNat,?_,fun b hb=>?_,q⟩
 ·have e1:lo+((0:Nat):Int)*1=lo:=by simp
  have e2:(((hi-lo).toNat:Nat):Int)-((0:Nat):Int)=Builtin.Range.rangeSize lo hi 1:=by rw[rangeSize_one];split<;>omega
  show IsRangeIter _ _ (lo+((0:Nat):Int)*1) ((((hi-lo).toNat:Nat):Int)-((0:Nat):Int)) 1
  rw[e1,e2]
  exact aaw _ rfl
 ·have e:b=(s.heap.push {cls:=.type "range",data:=.fields #[.int lo t,.int hi u,.int 1 v]}).objs.size:=by simpa using hb
  subst e
  exact I1.Jh (D9 _) (I1.hok.fresh (D9 _))
def Ug(ta:TA):TI:=fun σ H R=>ta σ H fun vs H1=>∃i j:Int,vs=[.int i,.int j]∧(-(2^62)≤i∧i<2^62∧-(2^62)≤j∧j<2^62)∧R (OL i (j-i).toNat) H1
theorem Lz{a b:Expr}{ta:TA}{p pos:Pos}(hg:Gl X "range")(hm:X.mg "range"=none)(ha:PA X [a,b] ta)(hs:starEach [a,b] X.env=[(false,eval a X.env),(false,eval b X.env)]:=by rfl)(hs2:starEach [b] X.env=[(false,eval b X.env)]:=by rfl):PI X tg (.Call (.Name "range" p) [a,b] [] pos) (Ug ta):=by
 intro pins s σ H R I h
 refine Call_ (tQ I hg hm boot_range (abE (dX (ha pos pins s σ H _ I h) fun us s1 ⟨vs,H1,I1,r1,q1⟩=>?_) (by rw[hs,hs2]) (by rw[hs2];rfl)))
 obtain⟨i,j,e,⟨q1,q2,q3,q4⟩,q⟩:=q1
 subst e
 cases r1 with
 |cons r rr=>
  cases rr with
  |cons r' rr=>
   cases rr
   obtain⟨t,rfl⟩:=r
   obtain⟨t',rfl⟩:=r'
   exact call_range_2 (MY I1 q1 q2 q3 q4 q)
def WN(wi:TI)(g:TG)(tb:TS):TS:=fun D σ H=>wi σ H fun J H1=>∃W:Nat→Nat→St→Hp→Prop,(∃m,W 0 m σ H1)∧∀i m σ H,W i m σ H→
 (J.stop i H∧D.nx σ H)∨(J.go i H∧∃N:St→Hp→Prop,(∀σ' H',N σ' H'→∃m',m'<m∧W (i+1) m' σ' H')∧∀x H',J.MX i H x H'→g x σ H' fun σ2 H2=>tb {D with nx:=N,ct:=N,bk:=D.nx} σ2 H2)
def B0(fp:List Addr)(h:Heap):List (Addr×Obj):=fp.filterMap fun b=>(h.get? b).map fun o=>(b,o)
theorem wV{fp:List Addr}{h:Heap}{b:Addr}{o:Obj}(hb:b∈fp)(e:h.get? b=some o):(b,o)∈B0 fp h:=abn.mpr ⟨b,hb,by rw[e];rfl⟩
theorem LA{fp:List Addr}{h:Heap}{p:Addr×Obj}(hp:p∈B0 fp h):p.1∈fp∧h.get? p.1=some p.2:=by
 obtain⟨b,hb,e⟩:=abn.mp hp
 cases q:h.get? b with
 |none=>rw[q]at e;cases e
 |some o=>
  rw[q]at e
  have e':(b,o)=p:=aar e
  subst e'
  exact⟨hb,q⟩
theorem Inv.pinned{pins:List (Addr×Obj)}{σ:St}{H:Hp}{s:Shared}{fp:List Addr}(I:Inv X pins σ H s)(hf:∀b∈fp,A2 X pins H b)(ho:∀b∈fp,∃o,s.heap.get? b=some o∧∀v,o.data≠ .cell v):Inv X (pins++B0 fp s.heap) σ H s:=
 I.Kq fun p hp=>(aaV.mp hp).elim (fun z=>I.pin p (aaY _ z)) fun z=>by
  obtain⟨hb,e⟩:=LA z
  obtain⟨f0,f1,f2,_⟩:=hf p.1 hb
  obtain⟨o,e',d⟩:=ho p.1 hb
  rw[e]at e';cases e'
  exact⟨e,f0,f1,f2,d⟩
theorem Inv.yp{pins pl:List (Addr×Obj)}{σ:St}{H:Hp}{s:Shared}(I:Inv X (pins++pl) σ H s):Inv X pins σ H s:=I.Kq fun p hp=>I.pin p (aaY _ (abo _ hp))
theorem lY{iter:Expr}{body:List Stmt}{wi:TI}{g:TG}{tb:TS}{pos:Pos}(hp:PassesOwn (model X.prog X.w) X.A X.env X.xe)(hc:X.calm=true)(hi:PI X tg iter wi)(hg:PG X tg g)(hb:Kr X body tb)(hs:∀x,foldedSetIterable iter X.env x=pure x:=by intro _;rfl):PS X (.For tg iter body [] pos) (WN wi g tb):=by
 intro pins s σ H D I h
 refine wpAny_For (dX (hi pins s σ H _ I h) fun v s1 h1=>dX h1 fun itv s2 h2=>?_) hs
 obtain⟨it,fp,tn,J,H2,e,I2,T,st2,f2,W,⟨m0,w0⟩,turn⟩:=h2
 subst e
 have Jj:∀{H':Hp},(∀b∈fp,H' b=none)→∀b∈fp,A2 X pins H' b:=fun hn b hb=>⟨hn b hb,(f2 b hb).2⟩
 refine codeAny_forLoop_any (fun n s'=>∃i σ' H',Inv X pins σ' H' s'∧tn i s'.heap∧(∀b∈fp,H' b=none)∧W i n σ' H') ?_ m0 ⟨0,σ,H2,I2,st2,fun b hb=>(f2 b hb).1,w0⟩
 rintro n s3 ⟨i,σ3,H3,I3,st3,Zc,w3⟩
 rcases turn i n σ3 H3 w3 with⟨stop,qn⟩ |⟨go,N,hN,step⟩
 ·refine ab1 hp (dX (T.done X rfl rfl rfl hc i pins s3 σ3 H3 X.xe I3 (Jj Zc) st3 stop) fun r s4 ⟨hr,I4⟩=>?_)
  subst hr
  exact wpAny_execs_nil ⟨σ3,H3,I4,qn⟩
 ·refine ab1 hp (dX (T.item X rfl rfl rfl hc i pins s3 σ3 H3 X.xe I3 (Jj Zc) st3 go) fun r s4 ⟨u,hr,h4⟩=>?_)
  subst hr
  refine ab1 hp (dX h4 fun _ s5 ⟨x,H5,I5,r5,y5,st5,WO⟩=>?_)
  have I5':=I5.pinned (Jj WO) (T.obj _ _ st5)
  refine ab1 hp (dX (hg _ s5 σ3 H5 x u _ I5' r5 (step x H5 y5)) fun _ s6 ⟨σ6,H6,I6,q6⟩=>?_)
  refine ab1 hp (dX (hb _ s6 σ6 H6 _ I6 q6) fun f s7 q7=>?_)
  have again:∀{σ7:St} {H7:Hp},Inv X (pins++B0 fp s5.heap) σ7 H7 s7→N σ7 H7→∃m,m<n∧∃i σ' H',Inv X pins σ' H' s7∧tn i s7.heap∧(∀b∈fp,H' b=none)∧W i m σ' H':=fun{σ7 H7} I7 n7=>by
   obtain⟨m',hm,w7⟩:=hN σ7 H7 n7
   refine⟨m',hm,i+1,σ7,H7,I7.yp,T.keep _ _ _ st5 fun b hb o e=>(I7.pin (b,o) (aaY _ (aaY _ (wV hb e)))).1,fun b hb=>?_,w7⟩
   obtain⟨o,e,d⟩:=T.obj _ _ st5 b hb
   exact(I7.pin (b,o) (aaY _ (aaY _ (wV hb e)))).2.1
  cases f with
  |next=>obtain⟨σ7,H7,I7,n7⟩:=q7;exact again I7 n7
  |cont=>obtain⟨σ7,H7,I7,n7⟩:=q7;exact again I7 n7
  |brk=>obtain⟨σ7,H7,I7,q7⟩:=q7;exact⟨σ7,H7,I7.yp,q7⟩
  |ret v=>obtain⟨x7,σ7,H7,I7,r7,q7⟩:=q7;exact⟨x7,σ7,H7,I7.yp,r7,q7⟩
end
theorem tU{K:W.Frag}{a:Addr}{xs:List V}{g:TG}{tb:TS}{D:Ends}{σ:St}{H:Hp}(Pv:Nat→St→Hp→Prop)(h0:Pv 0 σ H)(hl:∀i σ H,i≤xs.length→Pv i σ H→bD K H a xs)(hs:∀i x σ H,xs[i]?=some x→Pv i σ H→g x σ H fun σ2 H2=>tb {D with nx:=Pv (i+1),ct:=Pv (i+1),bk:=D.nx} σ2 H2)(hd:∀σ H,Pv xs.length σ H→D.nx σ H):∃W:Nat→Nat→St→Hp→Prop,(∃m,W 0 m σ H)∧∀i m σ H,W i m σ H→((Qn K a).stop i H∧D.nx σ H)∨((Qn K a).go i H∧∃N:St→Hp→Prop,(∀σ' H',N σ' H'→∃m',m'<m∧W (i+1) m' σ' H')∧∀x H',(Qn K a).MX i H x H'→g x σ H' fun σ2 H2=>tb {D with nx:=N,ct:=N,bk:=D.nx} σ2 H2):=by
 refine⟨fun i m σ H=>m=xs.length-i∧i≤xs.length∧Pv i σ H,⟨xs.length,by simp,aa0 _,h0⟩,?_⟩
 rintro i m σ H ⟨rfl,hi,p⟩
 have q:=hl i σ H hi p
 by_cases hlt:i<xs.length
 ·refine .inr ⟨⟨xs,xs[i],q,by simp[hlt]⟩,Pv (i+1),fun σ' H' p'=>⟨xs.length-(i+1),by omega,rfl,hlt,p'⟩,fun x H' y=>?_⟩
  obtain⟨e,y⟩:=y
  subst e
  exact hs i x σ _ (y xs q) p
 ·have e:i=xs.length:=by omega
  subst e
  exact .inl ⟨⟨xs,q,D9 _⟩,hd σ H p⟩
theorem S9{lo:Int}{n:Nat}{g:TG}{tb:TS}{D:Ends}{σ:St}{H:Hp}(Pv:Nat→St→Hp→Prop)(h0:Pv 0 σ H)(hs:∀i σ H,i<n→Pv i σ H→g (.int (lo+i)) σ H fun σ2 H2=>tb {D with nx:=Pv (i+1),ct:=Pv (i+1),bk:=D.nx} σ2 H2)(hd:∀σ H,Pv n σ H→D.nx σ H):∃W:Nat→Nat→St→Hp→Prop,(∃m,W 0 m σ H)∧∀i m σ H,W i m σ H→((OL lo n).stop i H∧D.nx σ H)∨((OL lo n).go i H∧∃N:St→Hp→Prop,(∀σ' H',N σ' H'→∃m',m'<m∧W (i+1) m' σ' H')∧∀x H',(OL lo n).MX i H x H'→g x σ H' fun σ2 H2=>tb {D with nx:=N,ct:=N,bk:=D.nx} σ2 H2):=by
 refine⟨fun i m σ H=>m=n-i∧i≤n∧Pv i σ H,⟨n,by simp,aa0 _,h0⟩,?_⟩
 rintro i m σ H ⟨rfl,hi,p⟩
 by_cases hlt:i<n
 ·refine .inr ⟨hlt,Pv (i+1),fun σ' H' p'=>⟨n-(i+1),by omega,rfl,hlt,p'⟩,fun x H' y=>?_⟩
  obtain⟨e,y⟩:=y
  subst e y
  exact hs i σ _ hlt p
 ·have e:i=n:=by omega
  subst e
  exact .inl ⟨D9 _,hd σ H p⟩
theorem MZ{c:TT}{tb:TS}{D:Ends}{σ:St}{H:Hp}(Pv:St→Hp→Prop)(μ:St→Hp→Nat)(h0:Pv σ H)(hs:∀σ H,Pv σ H→c σ H fun b H1=>if b=true then tb {D with nx:=fun σ' H'=>Pv σ' H'∧μ σ' H'<μ σ H,ct:=fun σ' H'=>Pv σ' H'∧μ σ' H'<μ σ H,bk:=D.nx} σ H1 else D.nx σ H1)(mono:∀σ H Q Q',(∀b H1,Q b H1→Q' b H1)→c σ H Q→c σ H Q'):MV c tb D σ H:=by
 refine⟨fun m σ H=>m=μ σ H∧Pv σ H,⟨_,rfl,h0⟩,?_⟩
 rintro m σ H ⟨rfl,p⟩
 refine mono σ H _ _ (fun b H1 q=>?_) (hs σ H p)
 cases b with
 |true=>exact⟨_,fun σ' H' ⟨p',l⟩=>⟨_,l,rfl,p'⟩,q⟩
 |false=>exact q
end L2
namespace L2
open PySem PySem.Spec PyProof.Rows
abbrev R2:=V→V→Hp→VK→Prop
def Bq(X:Cx)(f:Value→Value→Sem Value)(r:R2):Prop:=
 ∀(pins:List (Addr×Obj)) (s:Shared) (σ:St) (H:Hp) (x y:V) (v u:Value) (Q:VK),Inv X pins σ H s→RelV x v→RelV y u→r x y H Q→
  wpAny (model X.prog X.w) X.A (f v u) (EP X pins σ Q) X.xe s
def WQ(X:Cx)(f:Value→Sem Value)(r:V→Hp→VK→Prop):Prop:=
 ∀(pins:List (Addr×Obj)) (s:Shared) (σ:St) (H:Hp) (x:V) (v:Value) (Q:VK),Inv X pins σ H s→RelV x v→r x H Q→
  wpAny (model X.prog X.w) X.A (f v) (EP X pins σ Q) X.xe s
def qD(X:Cx)(f:Value)(r:List V→Hp→VK→Prop):Prop:=
 ∀(pins:List (Addr×Obj)) (s:Shared) (σ:St) (H:Hp) (xs:List V) (us:List Value) (Q:VK),Inv X pins σ H s→Vals xs us→r xs H Q→
  wpAny (model X.prog X.w) X.A (call f us) (EP X pins σ Q) X.xe s
def S_(r:R2)(ta tb:TE):TE:=fun σ H Q=>ta σ H fun x H1=>tb σ H1 fun y H2=>r x y H2 Q
def tUn(r:V→Hp→VK→Prop)(ta:TE):TE:=fun σ H Q=>ta σ H fun x H1=>r x H1 Q
inductive XI(C:Int→Int→Prop)(g:Int→Int→V)(x y:V)(H:Hp)(Q:VK):Prop
 |mk (i j:Int) (e:x=.int i) (e':y=.int j) (c:C i j) (k:Q (g i j) H)
inductive XI0(g:Int→Int→V)(x y:V)(H:Hp)(Q:VK):Prop
 |mk (i j:Int) (e:x=.int i) (e':y=.int j) (k:Q (g i j) H)
inductive XU(g:Int→V)(x:V)(H:Hp)(Q:VK):Prop
 |mk (i:Int) (e:x=.int i) (k:Q (g i) H)
def rI(C:Int→Int→Prop)(g:Int→Int→V):R2:=XI C g
def Qo(g:Int→Int→V):R2:=XI0 g
def rU(g:Int→V):V→Hp→VK→Prop:=XU g
section
variable{X:Cx}{a b c:Expr}{ta tb tc:TE}{pos:Pos}
theorem Q7(ha:PE X a ta)(hb:PE X b tb){pins:List (Addr×Obj)}{s:Shared}{σ:St}{H:Hp}{R:V→V→Hp→Prop}(I:Inv X pins σ H s)(h:ta σ H fun x H1=>tb σ H1 fun y H2=>R x y H2){Q:Value→Shared→Prop}{f:Value→Value→Sem Value}(hf:∀v u s2 x y H2,Inv X pins σ H2 s2→RelV x v→RelV y u→R x y H2→wpAny (model X.prog X.w) X.A (f v u) Q X.xe s2):wpAny (model X.prog X.w) X.A (eval a X.env) (fun v s₁=>wpAny (model X.prog X.w) X.A (eval b X.env) (fun u s₂=>wpAny (model X.prog X.w) X.A (f v u) Q X.xe s₂) X.xe s₁) X.xe s:=by
 refine dX (ha pins s σ H _ I h) fun v s1 ⟨x,H1,I1,r1,q1⟩=>?_
 refine dX (hb pins s1 σ H1 _ I1 q1) fun u s2 ⟨y,H2,I2,r2,q2⟩=>?_
 exact hf v u s2 x y H2 I2 r1 r2 q2
theorem aW{op:Operator}{r:R2}(ho:Bq X (binaryOp op) r)(ha:PE X a ta)(hb:PE X b tb):PE X (.BinOp a op b pos) (S_ r ta tb):=by
 intro pins s σ H Q I h
 exact wpAny_BinOp (Q7 ha hb I h fun v u s2 x y H2 I2 rx ry q=>ho pins s2 σ H2 x y v u Q I2 rx ry q)
theorem B3{op:UnaryOp}{r:V→Hp→VK→Prop}(ho:WQ X (unaryOp op) r)(ha:PE X a ta):PE X (.UnaryOp op a pos) (tUn r ta):=by
 intro pins s σ H Q I h
 exact UnaryOp_ (dX (ha pins s σ H _ I h) fun v s1 ⟨x,H1,I1,r1,q1⟩=>ho pins s1 σ H1 x v Q I1 r1 q1)
theorem V9{f:Value→Value→Sem Value}{C:Int→Int→Prop}{g:Int→Int→Int}(rule:∀(i j:Int) (t u:Tok) (s:Shared) (Q:Value→Shared→Prop) (E:Value→Shared→Prop),C i j→Q (.int (g i j) s.toks) {s with toks:=s.toks+1}→wpAny (model X.prog X.w) X.A (f (.int i t) (.int j u)) Q E s):Bq X f (rI C fun i j=>.int (g i j)):=by
 intro pins s σ H x y v u Q I rx ry h
 obtain⟨i,j,rfl,rfl,hc,q⟩:=h
 obtain⟨t,rfl⟩:=rx
 obtain⟨t',rfl⟩:=ry
 exact rule i j t t' s _ _ hc ⟨.int (g i j),H,I.tok _,⟨_,rfl⟩,q⟩
theorem Uh{f:Value→Value→Sem Value}{g:Int→Int→Int}(rule:∀(i j:Int) (t u:Tok) (s:Shared) (Q:Value→Shared→Prop) (E:Value→Shared→Prop),Q (.int (g i j) s.toks) {s with toks:=s.toks+1}→wpAny (model X.prog X.w) X.A (f (.int i t) (.int j u)) Q E s):Bq X f (Qo fun i j=>.int (g i j)):=by
 intro pins s σ H x y v u Q I rx ry h
 obtain⟨i,j,rfl,rfl,q⟩:=h
 obtain⟨t,rfl⟩:=rx
 obtain⟨t',rfl⟩:=ry
 exact rule i j t t' s _ _ ⟨.int (g i j),H,I.tok _,⟨_,rfl⟩,q⟩
theorem Q8{f:Value→Value→Sem Value}{g:Int→Int→Bool}(rule:∀(i j:Int) (t u:Tok) (s:Shared) (Q:Value→Shared→Prop) (E:Value→Shared→Prop),Q (.bool (g i j)) s→wpAny (model X.prog X.w) X.A (f (.int i t) (.int j u)) Q E s):Bq X f (Qo fun i j=>.bl (g i j)):=by
 intro pins s σ H x y v u Q I rx ry h
 obtain⟨i,j,rfl,rfl,q⟩:=h
 obtain⟨t,rfl⟩:=rx
 obtain⟨t',rfl⟩:=ry
 exact rule i j t t' s _ _ ⟨.bl (g i j),H,I,rfl,q⟩
def WR(i j:Int):Prop:=0<j∧j<1073741824
def Q9(i j:Int):Prop:=(-(2^64)<i∧i<2^64)∨(-(2^64)<j∧j<2^64)
theorem Q9.ok{i j:Int}(h:Q9 i j):IntMulOk i j:=by
 rcases h with⟨h1,h2⟩ |⟨h1,h2⟩
 ·exact .of_left (intBits_le_64 h1 h2)
 ·exact .of_right (intBits_le_64 h1 h2)
theorem iB:Bq X (binaryOp .Add) (Qo fun i j=>.int (i+j)):=Uh fun _ _ _ _ _ _ _ q=>add_int q
theorem bP:Bq X (binaryOp .Sub) (Qo fun i j=>.int (i-j)):=Uh fun _ _ _ _ _ _ _ q=>sub_int q
theorem wW:Bq X (binaryOp .Mult) (rI Q9 fun i j=>.int (i*j)):=V9 fun _ _ _ _ _ _ _ hc q=>mul_int q hc.ok
theorem OM:Bq X (binaryOp .FloorDiv) (rI WR fun i j=>.int (i/j)):=V9 fun i j _ _ _ _ _ hc q=>by
 have h1:(0:Int)<j:=hc.1
 have h2:j<1073741824:=hc.2
 exact floordiv_int (by omega) (by rw[Int.fdiv_eq_ediv_of_nonneg i (by omega)];exact q) (.inl (PyProof.noPylong_small (by omega)))
theorem Q_:Bq X (binaryOp .Mod) (rI (fun _ j=>0<j) fun i j=>.int (i%j)):=V9 fun i j _ _ _ _ _ hc q=>by
 have h1:(0:Int)<j:=hc
 exact mod_int' (by omega) (by rw[Int.fmod_eq_emod_of_nonneg i (by omega)];exact q)
theorem unI{f:Value→Sem Value}{g:Int→Int}(rule:∀(i:Int) (t:Tok) (s:Shared) (Q:Value→Shared→Prop) (E:Value→Shared→Prop),Q (.int (g i) s.toks) {s with toks:=s.toks+1}→wpAny (model X.prog X.w) X.A (f (.int i t)) Q E s):WQ X f (rU fun i=>.int (g i)):=by
 intro pins s σ H x v Q I rx h
 obtain⟨i,rfl,q⟩:=h
 obtain⟨t,rfl⟩:=rx
 exact rule i t s _ _ ⟨.int (g i),H,I.tok _,⟨_,rfl⟩,q⟩
theorem wX:WQ X (unaryOp .USub) (rU fun i=>.int (-i)):=unI fun _ _ _ _ _ q=>neg_int q
end
def sY:V→V→Bool
 | .lJ,.lJ=>true | .lJ,.int _=>true | .int _,.lJ=>true | .lJ,.bl _=>true | .bl _,.lJ=>true | .lJ,.str _=>true | .str _,.lJ=>true
 | .int _,.int _=>true | .bl _,.bl _=>true | .str _,.str _=>true | .G_ _,.G_ _=>true
 | .int _,.str _=>true | .str _,.int _=>true | .bl _,.str _=>true | .str _,.bl _=>true
 |_,_=>false
def rEq:R2:=fun x y H Q=>sY x y=true∧Q (.bl (decide (x=y))) H
def rNe:R2:=fun x y H Q=>sY x y=true∧Q (.bl (!decide (x=y))) H
theorem yq{i j:Int}:decide (V.int i=V.int j)=(i==j):=by
 rw[abD]
 simp
theorem M0{i j:Bool}:decide (V.bl i=V.bl j)=(i==j):=by
 rw[abD]
 simp
theorem Ku{i j:Str}:decide (V.str i=V.str j)=(i==j):=by
 rw[abD]
 simp
theorem Kv{i j:Array UInt8}:decide (V.G_ i=V.G_ j)=(i.toList==j.toList):=by
 rw[abD]
 cases i
 cases j
 simp
section
variable{X:Cx}{a b c:Expr}{ta tb tc:TE}{pos:Pos}
theorem cR{pins:List (Addr×Obj)}{σ:St}{H:Hp}{s:Shared}{Q:VK}{k k':Bool}(I:Inv X pins σ H s)(q:Q (.bl k) H)(e:k=k'):EP X pins σ Q (.bool k') s:=by
 subst e
 exact⟨.bl k,H,I,rfl,q⟩
theorem j9:Bq X (compareOp .Eq) rEq:=by
 intro pins s σ H x y v u Q I rx ry h
 obtain⟨hs,q⟩:=h
 cases x with
 |lJ=>
  cases rx
  cases y with
  |lJ=>cases ry;exact PySem.EqNone.eq_none_none (cR I q (by simp))
  |bl j=>cases ry;exact PySem.EqNone.eq_none_bool (cR I q (by simp))
  |int j=>obtain⟨t',rfl⟩:=ry;exact PySem.EqNone.eq_none_int (cR I q (by simp))
  |str j=>obtain⟨t',rfl⟩:=ry;exact PySem.EqNone.eq_none_str (cR I q (by simp))
  |_=>exact absurd (show false=true from hs) aay
 |bl i=>
  cases rx
  cases y with
  |lJ=>cases ry;exact PySem.EqNone.eq_bool_none (cR I q (by simp))
  |bl j=>cases ry;exact eq_bool (cR I q M0)
  |str j=>obtain⟨t',rfl⟩:=ry;exact PySem.EqMixed.eq_bool_str (cR I q (by simp))
  |_=>exact absurd (show false=true from hs) aay
 |int i=>
  obtain⟨t,rfl⟩:=rx
  cases y with
  |lJ=>cases ry;exact PySem.EqNone.eq_int_none (cR I q (by simp))
  |int j=>obtain⟨t',rfl⟩:=ry;exact eq_int (cR I q yq)
  |str j=>obtain⟨t',rfl⟩:=ry;exact PySem.EqMixed.eq_int_str (cR I q (by simp))
  |_=>exact absurd (show false=true from hs) aay
 |str i=>
  obtain⟨t,rfl⟩:=rx
  cases y with
  |lJ=>cases ry;exact PySem.EqNone.eq_str_none (cR I q (by simp))
  |bl j=>cases ry;exact PySem.EqMixed.eq_str_bool (cR I q (by simp))
  |int j=>obtain⟨t',rfl⟩:=ry;exact PySem.EqMixed.eq_str_int (cR I q (by simp))
  |str j=>obtain⟨t',rfl⟩:=ry;exact eq_str (cR I q Ku)
  |_=>exact absurd (show false=true from hs) aay
 |G_ i=>
  obtain⟨t,rfl⟩:=rx
  cases y with
  |G_ j=>obtain⟨t',rfl⟩:=ry;exact W.eq_bytes (cR I q Kv)
  |_=>exact absurd (show false=true from hs) aay
 |_=>cases y<;>exact absurd (show false=true from hs) aay
theorem j_:Bq X (compareOp .NotEq) rNe:=by
 intro pins s σ H x y v u Q I rx ry h
 obtain⟨hs,q⟩:=h
 cases x with
 |lJ=>
  cases rx
  cases y with
  |lJ=>cases ry;exact PySem.EqNone.ne_none_none (cR I q (by simp))
  |bl j=>cases ry;exact PySem.EqNone.ne_none_bool (cR I q (by simp))
  |int j=>obtain⟨t',rfl⟩:=ry;exact PySem.EqNone.ne_none_int (cR I q (by simp))
  |str j=>obtain⟨t',rfl⟩:=ry;exact PySem.EqNone.ne_none_str (cR I q (by simp))
  |_=>exact absurd (show false=true from hs) aay
 |bl i=>
  cases rx
  cases y with
  |lJ=>cases ry;exact PySem.EqNone.ne_bool_none (cR I q (by simp))
  |bl j=>cases ry;exact ne_bool (cR I q (congrArg not M0))
  |str j=>obtain⟨t',rfl⟩:=ry;exact PySem.EqMixed.ne_bool_str (cR I q (by simp))
  |_=>exact absurd (show false=true from hs) aay
 |int i=>
  obtain⟨t,rfl⟩:=rx
  cases y with
  |lJ=>cases ry;exact PySem.EqNone.ne_int_none (cR I q (by simp))
  |int j=>obtain⟨t',rfl⟩:=ry;exact ne_int (cR I q (congrArg not yq))
  |str j=>obtain⟨t',rfl⟩:=ry;exact PySem.EqMixed.ne_int_str (cR I q (by simp))
  |_=>exact absurd (show false=true from hs) aay
 |str i=>
  obtain⟨t,rfl⟩:=rx
  cases y with
  |lJ=>cases ry;exact PySem.EqNone.ne_str_none (cR I q (by simp))
  |bl j=>cases ry;exact PySem.EqMixed.ne_str_bool (cR I q (by simp))
  |int j=>obtain⟨t',rfl⟩:=ry;exact PySem.EqMixed.ne_str_int (cR I q (by simp))
  |str j=>obtain⟨t',rfl⟩:=ry;exact ne_str (cR I q (congrArg not Ku))
  |_=>exact absurd (show false=true from hs) aay
 |G_ i=>
  obtain⟨t,rfl⟩:=rx
  cases y with
  |G_ j=>obtain⟨t',rfl⟩:=ry;exact W.ne_bytes (cR I q (congrArg not Kv))
  |_=>exact absurd (show false=true from hs) aay
 |_=>cases y<;>exact absurd (show false=true from hs) aay
theorem tV:Bq X (compareOp .Lt) (Qo fun i j=>.bl (decide (i<j))):=Q8 fun _ _ _ _ _ _ _ q=>lt_int q
theorem Kw:Bq X (compareOp .LtE) (Qo fun i j=>.bl (decide (i≤j))):=Q8 fun _ _ _ _ _ _ _ q=>le_int q
theorem yr:Bq X (compareOp .Gt) (Qo fun i j=>.bl (decide (j<i))):=Q8 fun _ _ _ _ _ _ _ q=>gt_int q
theorem bh(b:Expr){op:CmpOp}(h:op≠ .In:=by decide)(h2:op≠ .NotIn:=by decide):behindInMarks op b=false:=by
 have e1:(op==CmpOp.In)=false:=by cases op<;>first |rfl |exact absurd rfl h
 have e2:(op==CmpOp.NotIn)=false:=by cases op<;>first |rfl |exact absurd rfl h2
 cases b<;>simp[behindInMarks,e1,e2]
theorem rA{op:CmpOp}{r:R2}(ho:Bq X (compareOp op) r)(ha:PE X a ta)(hb:PE X b tb)(hm:behindInMarks op b=false):PE X (.Compare a [op] [b] pos) (S_ r ta tb):=by
 intro pins s σ H Q I h
 exact wpAny_Compare1 (Q7 ha hb I h fun v u s2 x y H2 I2 rx ry q=>ho pins s2 σ H2 x y v u Q I2 rx ry q) hm
def Ui(t:TE):TT:=fun σ H Q=>t σ H fun x H'=>S6 x H' Q
theorem aU{op:CmpOp}{r:R2}(ho:Bq X (compareOp op) r)(ha:PE X a ta)(hb:PE X b tb)(hm:behindInMarks op b=false):PT X (.Compare a [op] [b] pos) (Ui (S_ r ta tb)):=by
 intro pins s σ H Q I h
 refine wpAny_isTrue_Compare1 (dX (ha pins s σ H _ I h) fun v s1 ⟨x,H1,I1,r1,q1⟩=>dX (hb pins s1 σ H1 _ I1 q1) fun u s2 ⟨y,H2,I2,r2,q2⟩=>dX (ho pins s2 σ H2 x y v u _ I2 r1 r2 q2) fun c s3 ⟨z,H3,I3,r3,k,e,q3⟩=>?_) hm
 subst e
 cases r3
 exact abA ⟨H3,I3,q3⟩
def Ra(r r':R2)(ta tb tc:TE):TE:=fun σ H Q=>ta σ H fun x H1=>tb σ H1 fun y H2=>r x y H2 fun z H3=>S6 z H3 fun k H3=>if k=true then tc σ H3 fun w' H4=>r' y w' H4 Q else Q (.bl false) H3
theorem M3{op op':CmpOp}{r r':R2}(ho:Bq X (compareOp op) r)(ho':Bq X (compareOp op') r')(ha:PE X a ta)(hb:PE X b tb)(hc:PE X c tc)(hm:lastMarks [op,op'] [b,c]=false:=by with_unfolding_all rfl):PE X (.Compare a [op,op'] [b,c] pos) (Ra r r' ta tb tc):=by
 intro pins s σ H Q I h
 refine Compare_chain (dX (ha pins s σ H _ I h) fun v s1 ⟨x,H1,I1,r1,q1⟩=>chain_link (dX (hb pins s1 σ H1 _ I1 q1) fun u s2 ⟨y,H2,I2,r2,q2⟩=>dX (ho pins s2 σ H2 x y v u _ I2 r1 r2 q2) fun d s3 ⟨z,H3,I3,r3,k,e,q3⟩=>?_)) hm
 subst e
 cases r3
 refine abA ?_
 cases k with
 |false=>exact ite_ff ⟨.bl false,H3,I3,rfl,q3⟩
 |true=>exact ite_tt (chain_last (dX (hc pins s3 σ H3 _ I3 q3) fun w' s4 ⟨z',H4,I4,r4,q4⟩=>ho' pins s4 σ H4 y z' u w' Q I4 r2 r4 q4))
theorem B4:(sizeLine:Nat)<2^63:=by rw[abx];decide
theorem vals1{x:V}{us:List Value}(r:Vals [x] us):∃u,us=[u]∧RelV x u:=by
 cases r with
 |cons r1 r2=>cases r2;exact⟨_,rfl,r1⟩
theorem vals2{x y:V}{us:List Value}(r:Vals [x,y] us):∃u w',us=[u,w']∧RelV x u∧RelV y w':=by
 cases r with
 |cons r1 r2=>
  cases r2 with
  |cons r3 r4=>cases r4;exact⟨_,_,rfl,r1,r3⟩
theorem zS(hc:X.calm=true):qD X (.builtin "max") (fun xs H Q=>∃i j,xs=[.int i,.int j]∧Q (.int (if j>i then j else i)) H):=by
 intro pins s σ H xs us Q I r h
 obtain⟨i,j,rfl,q⟩:=h
 obtain⟨u,w',rfl,⟨t,rfl⟩,⟨t',rfl⟩⟩:=vals2 r
 refine max_two_ints (I.ok.hd hc) fun h' tk k=>⟨_,H,I.kept k,?_,q⟩
 by_cases hj:j>i
 ·rw[D7 hj,D7 hj];exact⟨_,rfl⟩
 ·rw[D6 hj,D6 hj];exact⟨_,rfl⟩
theorem kj(hc:X.calm=true):qD X (.builtin "min") (fun xs H Q=>∃i j,xs=[.int i,.int j]∧Q (.int (if j<i then j else i)) H):=by
 intro pins s σ H xs us Q I r h
 obtain⟨i,j,rfl,q⟩:=h
 obtain⟨u,w',rfl,⟨t,rfl⟩,⟨t',rfl⟩⟩:=vals2 r
 refine min_two_ints (I.ok.hd hc) fun h' tk k=>⟨_,H,I.kept k,?_,q⟩
 by_cases hj:j<i
 ·rw[D7 hj,D7 hj];exact⟨_,rfl⟩
 ·rw[D6 hj,D6 hj];exact⟨_,rfl⟩
end
end L2
namespace L2
open PySem PySem.Spec PyProof.Rows
structure Jk(h:Heap)(x dx C:Addr)(mA:Str→Option Value):Prop where
 obj:h.get? x=some (W.instObj C dx)
 ns:h.Ns1 dx mA
 ne:dx≠x
theorem LB{h:Heap}{dx:Addr}{mA:Str→Option Value}(n:h.Ns1 dx mA):∃od,h.get? dx=some od∧∀name,W.lookIn name od=some (mA name):=by
 obtain⟨o,es,ep,ho,hd,hk,_,hm⟩:=n
 refine⟨o,ho,fun name=>?_⟩
 have e:=hm name
 unfold nsFind findBy at e
 rw[←Array.find?_toList]at e
 unfold W.lookIn
 rw[hd]
 dsimp only
 split
 ·rename_i y q
  rw[q]at e
  exact congrArg some e
 ·rename_i q
  rw[q]at e
  have a:es.toList.any (·.refKey)=false:=by
   rw[acH]
   intro y hy
   obtain⟨z,t,hkey⟩:=hk y (Array.mem_toList_iff.mp hy)
   simp[DictEntry.refKey,hkey]
  have a':¬es.toList.any (·.refKey)=true:=by rw[a];exact aay
  rw[D6 a']
  exact congrArg some e
theorem Jk.look{h:Heap}{x dx C:Addr}{mA:Str→Option Value}(I:Jk h x dx C mA):∃od,W.InstAt h x (W.instObj C dx) C (some od)∧∀name,W.lookIn name od=some (mA name):=
 let⟨od,ho,hl⟩:=LB I.ns
 ⟨od,⟨I.obj,rfl,rfl,ho⟩,hl⟩
section
variable{prog:Program}{w:World}{A:Around}{E:Value→Shared→Prop}{s:Shared}{K:W.Frag}{x dx C f:Addr}{mA:Str→Option Value}{name:Str}{v:Value}
theorem get_map{expr:Bool}{Q:Value→Shared→Prop}(X:K.In s.heap)(I:Jk s.heap x dx C mA)(hg:W.plainGet K C name=true)(hh:W.hasDictIn K C=true)(ha:W.findIn K (.ref C) name=some none)(hv:mA name=some v)(hv':W.handedIn v=true)(h:Q v {s with toks:=s.toks+1}):wpAny (model prog w) A (getAttr (.ref x) name expr) Q E s:=by
 obtain⟨od,J,hl⟩:=I.look
 exact W.get_value X J (W.plainGet_of hg).1 (W.findObj_own hh ha rfl (by rw[hl,hv])) hv' h
theorem M4{pl:Sem Bool}{Q:Value×List Value→Shared→Prop}(X:K.In s.heap)(I:Jk s.heap x dx C mA)(hg:W.plainGet K C name=true)(hf:W.findIn K (.ref C) name=some (some (.ref f)))(ht:W.isFn K (.ref f)=true)(hv:mA name=none)(h:Q (.ref f,[.ref x]) s):wpAny (model prog w) A (getMethod (.ref x) name pl) Q E s:=by
 obtain⟨od,J,hl⟩:=I.look
 exact W.method_fn X J (W.plainGet_of hg).1 (W.plainGet_of hg).2 hf (abN.mp ht) (by show(W.lookIn name od).map (·.isSome)=some false;rw[hl,hv];rfl) h
theorem ON{ns:List Str}{Q:Unit→Shared→Prop}(X:K.In s.heap)(I:Jk s.heap x dx C mA)(hs:W.findIn K (.ref C) "__setattr__"=some (some (.builtin "object.__setattr__")))(hp:W.plainOver K C=true)(ht:W.takerIn K C name=some none)(hh:W.hasDictIn K C=true)(hw:PySem.Within mA ns)(hsz:ns.length≤sizeLine)(h:∀h',Jk h' x dx C (fun y=>if y=name then some v else mA y)→Heap.SameBut dx s.heap h'→Q () {s with heap:=h',toks:=s.toks+2}):wpAny (model prog w) A (setAttr (.ref x) name v) Q E s:=by
 obtain⟨od,J,hl⟩:=I.look
 refine W.set_plain X J hs (W.osa_open (s:={s with toks:=s.toks+1}) (r:=none) X J hp ht fun b=>?_)
 obtain⟨cd,hc,hd'⟩:=W.any_some hh
 have hx:s.heap.get? x=some ⟨.ref C,some dx,.plain,#[]⟩:=I.obj
 refine D4 (aan (D4 (D4 (wpAny_loadPart hx (D4 (W.Looks.here (s:={s with toks:=s.toks+1}) (W.looks_clsIn X hc) ?_))))))
 rw[hd']
 refine aan (a:=some dx) (D4 (aan (D4 ?_)))
 refine wpAny_nsSet1 (s:={s with toks:=s.toks+1}) I.ns fun h' hn2 hs2=>?_
 obtain⟨oD,esD,epD,hoD,hdD,hcD⟩:=hn2.count (PySem.Within.cons name v hw)
 refine D4 (wpAny_lookBehind hoD (by rw[hdD];exact pastItsLine_dict (aaD hcD (by rw[aax];omega))) ?_)
 exact aan (h _ ⟨(hs2.2 _ (acn I.ne)).trans I.obj,hn2,I.ne⟩ hs2)
theorem M5{R:Result→Shared→Prop}{vs:List Value}{kw:List (Str×Value)}(X:K.In s.heap)(hm:W.makesIn K C=true)(hi:W.findIn K (.ref C) "__init__"=some (some (.ref f)))(hf:W.typeIn K (.ref f)=some (.type "function"))(h:codeAny (model prog w) (A.under (.builtin "type.__call__" ⟨.ref C::vs,kw⟩)) (.call (.ref f) ⟨.ref (s.heap.objs.size+1)::vs,kw⟩) (W.InitBack (s.heap.objs.size+1) R) {s with heap:=(s.heap.push W.emptyDict).push (W.instObj C s.heap.objs.size)}):codeAny (model prog w) A (.call (.ref C) ⟨vs,kw⟩) R s:=by
 obtain⟨hh,g,d,t,os⟩:=s
 exact W.make_core (W.makes_of X hm) (W.looks_findIn X hi) (fun self=>W.bind_fn X self hf) (.inl rfl) h
end
def dS(f:Str)(v:V):List (Str×V)→List (Str×V)
 |[]=>[(f,v)]
 |(g,x)::r=>if g=f then(g,v)::r else(g,x)::dS f v r
theorem AH(f g:Str)(v:V):∀fs:List (Str×V),(dS f v fs).lookup g=if g=f then some v else fs.lookup g
 |[]=>by
  show List.lookup g [(f,v)]=_
  by_cases h:g=f
  ·have hb:(g==f)=true:=abN.mpr h
   simp only[List.lookup,hb,D7 h]
  ·have hb:(g==f)=false:=aaW.mpr h
   simp only[List.lookup,hb,D6 h]
 |(k,x)::r=>by
  have ih:=AH f g v r
  rw[show dS f v ((k,x)::r)=(if k=f then(k,v)::r else(k,x)::dS f v r)from rfl]
  by_cases hk:k=f
  ·rw[D7 hk]
   by_cases h:g=k
   ·have hb:(g==k)=true:=abN.mpr h
    simp only[List.lookup,hb,D7 (h.trans hk)]
   ·have hb:(g==k)=false:=aaW.mpr h
    simp only[List.lookup,hb,D6 (fun e:g=f=>h (e.trans hk.symm))]
  ·rw[D6 hk]
   by_cases h:g=k
   ·have hb:(g==k)=true:=abN.mpr h
    simp only[List.lookup,hb,D6 (fun e:g=f=>hk (h.symm.trans e))]
   ·have hb:(g==k)=false:=aaW.mpr h
    simp only[List.lookup,hb]
    exact ih
theorem zT(f:Str)(v:V):∀fs:List (Str×V),f∈(dS f v fs).map (·.1)∧∀g,g∈fs.map (·.1)→g∈(dS f v fs).map (·.1)
 |[]=>⟨by simp[dS],fun g h=>by simp at h⟩
 |(k,x)::r=>by
  obtain⟨i1,i2⟩:=zT f v r
  rw[show dS f v ((k,x)::r)=(if k=f then(k,v)::r else(k,x)::dS f v r)from rfl]
  by_cases hk:k=f
  ·rw[D7 hk]
   subst hk
   exact⟨by simp,fun g h=>by simpa using h⟩
  ·rw[D6 hk]
   refine⟨?_,fun g h=>?_⟩
   ·rw[aaJ]
    exact aap _ i1
   ·rw[aaJ]at h⊢
    rcases aas.mp h with e |e
    ·exact aas.mpr (.inl e)
    ·exact aap _ (i2 g e)
theorem AI(f:Str)(v:V):∀fs:List (Str×V),(dS f v fs).length≤fs.length+1
 |[]=>by simp[dS]
 |(k,x)::r=>by
  have ih:=AI f v r
  rw[show dS f v ((k,x)::r)=(if k=f then(k,v)::r else(k,x)::dS f v r)from rfl]
  by_cases hk:k=f
  ·rw[D7 hk,aax,aax];omega
  ·rw[D6 hk,aax,aax];omega
theorem sW.some_of{v:V}{o:Option Value}(r:sW (some v) o):∃u,o=some u∧RelV v u:=by
 cases o with
 |none=>exact(show False from r).elim
 |some u=>exact⟨u,rfl,r⟩
theorem sW.none_of{o:Option Value}(r:sW none o):o=none:=by
 cases o with
 |none=>rfl
 |some u=>exact(show False from r).elim
theorem LC{v:V}{u:Value}(r:RelV v u):W.handedIn u=true:=by
 cases v with
 |lJ=>cases(show u=Value.none from r);rfl
 |bl b=>cases(show u=Value.bool b from r);rfl
 |int i=>obtain⟨t,e⟩:=(show ∃t,u=Value.int i t from r);cases e;rfl
 |str x=>obtain⟨t,e⟩:=(show ∃t,u=Value.str x t from r);cases e;rfl
 |G_ b=>obtain⟨t,e⟩:=(show ∃t,u=Value.bytes b t from r);cases e;rfl
 |TQ b=>obtain⟨t,e⟩:=(show ∃t,u=Value.float b t from r);cases e;rfl
 |ref a=>cases(show u=Value.ref a from r);rfl
 |ty n=>cases(show u=Value.type n from r);rfl
section
variable{P:Program}{w:World}{H H':Hp}{h h':Heap}{a C dx:Addr}{fs fs':List (Str×V)}
theorem FA(hok:tK P w H h)(e:H a=some (.ins C dx fs)):∃mA,Jk h a dx C mA∧(∀f,sW (fs.lookup f) (mA f))∧PySem.Within mA (fs.map (·.1))∧fs.length≤1000∧H dx=some (.own a):=by
 obtain⟨d,z,ne,ob,mA,n,r,q⟩:=(show ff P w H h a (.ins C dx fs)from hok a _ e)
 exact⟨mA,⟨ob,n,ne⟩,r,q,z,d⟩
end
structure Br(K:W.Frag)(C:Addr):Prop where
 pg:W.plainGet K C Str.empty=true
 hd:W.hasDictIn K C=true
 po:W.plainOver K C=true
 sa:W.findIn K (.ref C) "__setattr__"=some (some (.builtin "object.__setattr__"))
theorem Br.get{K:W.Frag}{C:Addr}(c:Br K C)(f:Str):W.plainGet K C f=true:=c.pg
def bx(K:W.Frag)(C:Addr)(f:Str):Prop:=W.findIn K (.ref C) f=some none
theorem bx.Uj{K:W.Frag}{C:Addr}{f:Str}(n:bx K C f):W.takerIn K C f=some none:=by
 unfold W.takerIn
 rw[show W.findIn K (.ref C) f=some none from n]
 rfl
structure Meth(K:W.Frag)(C:Addr)(m:Str)(f:Addr):Prop where
 at_:W.findIn K (.ref C) m=some (some (.ref f))
 fn:W.isFn K (.ref f)=true
 kp:W.keepIn K (.ref f)=true
section
variable{X:Cx}{pins:List (Addr×Obj)}{σ:St}{H:Hp}{s:Shared}{a C dx:Addr}{fs:List (Str×V)}{f:Str}{v:V}{A:Around}{E:Value→Shared→Prop}
theorem B5{b:Bool}{Q:Value→Shared→Prop}(I:Inv X pins σ H s)(e:H a=some (.ins C dx fs))(c:Br X.K C)(n:bx X.K C f)(l:fs.lookup f=some v)(h:∀u s',Inv X pins σ H s'→RelV v u→Q u s'):wpAny (model X.prog X.w) A (getAttr (.ref a) f b) Q E s:=by
 obtain⟨mA,O,r,_,_,_⟩:=FA I.hok e
 obtain⟨u,hu,ru⟩:=sW.some_of (v:=v) (o:=mA f) (by rw[←l];exact r f)
 exact get_map I.IG O (c.get f) c.hd n hu (LC ru) (h u _ (I.tok _) ru)
theorem wY{m:Str}{g:Addr}{pl:Sem Bool}{Q:Value×List Value→Shared→Prop}(I:Inv X pins σ H s)(e:H a=some (.ins C dx fs))(c:Br X.K C)(k:Meth X.K C m g)(l:fs.lookup m=none)(h:Q (.ref g,[.ref a]) s):wpAny (model X.prog X.w) A (getMethod (.ref a) m pl) Q E s:=by
 obtain⟨mA,O,r,_,_,_⟩:=FA I.hok e
 have hn:mA m=none:=sW.none_of (by rw[←l];exact r m)
 exact M4 I.IG O (c.get m) k.at_ k.fn hn h
theorem B6{y:V}{u:Value}{Q:Unit→Shared→Prop}(I:Inv X pins σ H s)(e:H a=some (.ins C dx fs))(c:Br X.K C)(n:bx X.K C f)(hl:fs.length<1000)(ry:RelV y u)(h:∀s',Inv X pins σ (upd H a (.ins C dx (dS f y fs))) s'→Q () s'):wpAny (model X.prog X.w) A (setAttr (.ref a) f u) Q E s:=by
 obtain⟨mA,O,r,wi,_,ho⟩:=FA I.hok e
 have hz:(fs.map (·.1)).length≤sizeLine:=by rw[DS,abx];omega
 refine ON I.IG O c.sa c.po n.Uj c.hd wi hz fun h' O' sb=>h _ ?_
 have hd:∃o,h'.get? dx=some o:=let⟨o,_,_,e',_⟩:=O'.ns;⟨o,e'⟩
 refine I.write (x:=a) (e:=dx) (by rw[e];exact True.intro) (.inr ho) (fun b q hb z=>(sb.2 b hb).trans z) hd ?_
 refine⟨by rw[aq O.ne];exact ho,?_,O.ne,O'.obj,_,O'.ns,fun g=>?_,fun g hg=>?_⟩
 ·have:=AI f y fs;omega
 ·show sW ((dS f y fs).lookup g) (if g=f then some u else mA g)
  rw[AH]
  by_cases q:g=f
  ·rw[D7 q,D7 q];exact ry
  ·rw[D6 q,D6 q];exact r g
 ·by_cases q:g=f
  ·rw[q];exact(zT f y fs).1
  ·refine(zT f y fs).2 g (wi g fun z=>hg ?_)
   show(if g=f then some u else mA g)=none
   rw[D6 q];exact z
theorem Inv.made(I:Inv X pins σ H s):Inv X pins σ (upd (upd H s.heap.objs.size (.own (s.heap.objs.size+1))) (s.heap.objs.size+1) (.ins C s.heap.objs.size [])) {s with heap:=(s.heap.push W.emptyDict).push (W.instObj C s.heap.objs.size)}:=by
 have e1:(s.heap.push W.emptyDict).get? s.heap.objs.size=some W.emptyDict:=aaw s.heap rfl
 have e2:((s.heap.push W.emptyDict).push (W.instObj C s.heap.objs.size)).get? (s.heap.objs.size+1)=some (W.instObj C s.heap.objs.size):=by
  have:=aaw (s.heap.push W.emptyDict) (o:=W.instObj C s.heap.objs.size) rfl
  rwa [aaZ]at this
 have e3:(s.heap.push W.emptyDict).Ns s.heap.objs.size (fun _=>none):=⟨W.emptyDict,#[],_,e1,rfl,(fun e he=>absurd he (by simp)),fun _=>rfl⟩
 have I1:=I.laid (a:=s.heap.objs.size) (o:=.own (s.heap.objs.size+1)) (h':=s.heap.push W.emptyDict) (t':=s.toks) (fun b u q=>D8 _ q) (D9 _) ⟨_,e1⟩
 refine I1.laid (a:=s.heap.objs.size+1) (o:=.ins C s.heap.objs.size []) (t':=s.toks) (fun b u q=>D8 _ q) (Nat.le_of_eq (aaZ _ _)) ?_
 have ne:s.heap.objs.size≠s.heap.objs.size+1:=aaI (Nat.lt_succ_self _)
 refine⟨by rw[aq ne,af],aa0 _,ne,e2,fun _=>none,(Heap.Ns1.of_empty e3).at fun o q=>D8 _ q,fun _=>True.intro,fun y hy=>absurd rfl hy⟩
theorem OO{prog:Program}{w:World}{env:Env}{e:Expr}{f:Str}{pos:Pos}{s:Shared}{Q:Value→Shared→Prop}(hb:attributeBase e f env (eval e env)=eval e env)(h:wpAny (model prog w) A (eval e env) (fun o s₁=>wpAny (model prog w) A (getAttr o f true) Q E s₁) E s):wpAny (model prog w) A (eval (.Attribute e f pos) env) Q E s:=
 Attribute_any_ h (by rw[arm_eval_Attribute,hb])
end
inductive Uk(K:W.Frag)(f:Str)(x:V)(H:Hp)(Q:VK):Prop
 |mk (a C dx:Addr) (fs:List (Str×V)) (v:V) (e:x=.ref a) (h:H a=some (.ins C dx fs)) (c:Br K C) (n:bx K C f) (l:fs.lookup f=some v) (k:Q v H)
def DA(K:W.Frag)(ta:TE)(f:Str):TE:=fun σ H Q=>ta σ H fun x H1=>Uk K f x H1 Q
inductive XSt(K:W.Frag)(f:Str)(x y:V)(H:Hp)(Q:Hp→Prop):Prop
 |mk (a C dx:Addr) (fs:List (Str×V)) (e:x=.ref a) (h:H a=some (.ins C dx fs)) (c:Br K C) (n:bx K C f) (l:fs.length<1000) (k:Q (upd H a (.ins C dx (dS f y fs))))
def M6(K:W.Frag)(ta tv:TE)(f:Str):TS:=fun D σ H=>tv σ H fun y H1=>ta σ H1 fun x H2=>XSt K f x y H2 (D.nx σ)
def Rb(X:Cx)(op:Operator)(rd:V→V→Hp→VK→Prop):Prop:=
 ∀(pins:List (Addr×Obj)) (s:Shared) (σ:St) (H:Hp) (x y:V) (u v:Value) (Q:VK),Inv X pins σ H s→RelV x u→RelV y v→rd x y H Q→wpAny (model X.prog X.w) X.A (inplaceOp op u v) (EP X pins σ Q) X.xe s
inductive XFa(K:W.Frag)(f:Str)(x:V)(H:Hp)(R:Addr→Addr→V→Prop):Prop
 |mk (a C dx:Addr) (fs:List (Str×V)) (v:V) (e:x=.ref a) (h:H a=some (.ins C dx fs)) (c:Br K C) (n:bx K C f) (l:fs.lookup f=some v) (k:R a C v)
inductive XFb(a C:Addr)(f:Str)(z:V)(H:Hp)(Q:Hp→Prop):Prop
 |mk (dx:Addr) (fs:List (Str×V)) (h:H a=some (.ins C dx fs)) (l:fs.length<1000) (k:Q (upd H a (.ins C dx (dS f z fs))))
def FD(K:W.Frag)(ta tv:TE)(rd:V→V→Hp→VK→Prop)(f:Str):TS:=fun D σ H=>ta σ H fun x H1=>XFa K f x H1 fun a C v=>tv σ H1 fun y H2=>rd v y H2 fun z H3=>XFb a C f z H3 (D.nx σ)
section
variable{X:Cx}{o e value:Expr}{f:Str}{pos pos' tpos:Pos}{ta tv:TE}
theorem ak(he:PE X e ta)(hb:attributeBase e f X.env (eval e X.env)=eval e X.env):PE X (.Attribute e f pos) (DA X.K ta f):=by
 intro pins s σ H Q I h
 refine OO hb (dX (he pins s σ H _ I h) fun u s1 ⟨x,H1,I1,rx,a,C,dx,fs,v,ex,ea,c,n,l,q⟩=>?_)
 subst ex
 obtain rfl:u=Value.ref a:=rx
 exact B5 I1 ea c n l fun u' s2 I2 ru=>⟨v,H1,I2,ru,q⟩
theorem aP(ha:PE X o ta)(hv:PE X value tv)(hs:swapsWith value (some (.Attribute o f pos')) pos.line X.env=pure false):PS X (.Assign [.Attribute o f pos'] value pos) (M6 X.K ta tv f):=by
 intro pins s σ H D I h
 refine plainObj_wpAny_Assign_Attribute (dX (hv pins s σ H _ I h) fun u s1 ⟨y,H1,I1,ry,q⟩=>dX (ha pins s1 σ H1 _ I1 q) fun ov s2 ⟨x,H2,I2,rx,a,C,dx,fs,ex,ea,c,n,l,q2⟩=>?_) hs
 subst ex
 obtain rfl:ov=Value.ref a:=rx
 exact B6 I2 ea c n l ry fun s3 I3=>⟨σ,_,I3,q2⟩
theorem bN{op:Operator}{rd:V→V→Hp→VK→Prop}(ha:PE X o ta)(hv:PE X value tv)(hop:Rb X op rd):PS X (.AugAssign (.Attribute o f tpos) op value pos) (FD X.K ta tv rd f):=by
 intro pins s σ H D I h
 refine wpAny_AugAssign_AttributeAny (dX (ha pins s σ H _ I h) fun ov s1 ⟨x,H1,I1,rx,a,C,dx,fs,v,ex,ea,c,n,l,q⟩=>?_)
 subst ex
 obtain rfl:ov=Value.ref a:=rx
 refine B5 I1 ea c n l fun u s2 I2 ru=>dX (hv pins s2 σ H1 _ I2 q) fun w3 s3 ⟨y,H2,I3,ry,q3⟩=>dX (hop pins s3 σ H2 v y u w3 _ I3 ru ry q3) fun w4 s4 ⟨z,H3,I4,rz,Qp,fs',ea',l',q4⟩=>?_
 exact B6 I4 ea' c n l' rz fun s5 I5=>⟨σ,_,I5,q4⟩
inductive WS(x y:V)(H:Hp)(Q:VK):Prop
 |mk (i j:Int) (e:x=.int i) (e':y=.int j) (k:Q (.int (i+j)) H)
def Ul:V→V→Hp→VK→Prop:=WS
inductive WT(x y:V)(H:Hp)(Q:VK):Prop
 |mk (i j:Int) (e:x=.int i) (e':y=.int j) (k:Q (.int (i-j)) H)
def Um:V→V→Hp→VK→Prop:=WT
theorem lZ:Rb X .Add Ul:=by
 rintro pins s σ H x y u v Q I rx ry ⟨i,j,rfl,rfl,q⟩
 obtain⟨t,rfl⟩:=(show ∃t,u=Value.int i t from rx)
 obtain⟨t',rfl⟩:=(show ∃t',v=Value.int j t' from ry)
 exact PyProof.Rows.iadd_int ⟨.int (i+j),H,I.tok _,⟨_,rfl⟩,q⟩
theorem m9:Rb X .Sub Um:=by
 rintro pins s σ H x y u v Q I rx ry ⟨i,j,rfl,rfl,q⟩
 obtain⟨t,rfl⟩:=(show ∃t,u=Value.int i t from rx)
 obtain⟨t',rfl⟩:=(show ∃t',v=Value.int j t' from ry)
 exact PyProof.Rows.isub_int ⟨.int (i-j),H,I.tok _,⟨_,rfl⟩,q⟩
theorem Qq{pl:Sem Bool}{m:Str}{apos:Pos}{args:List Expr}{pins:List (Addr×Obj)}{s:Shared}{σ:St}{H:Hp}{Q:Value→Shared→Prop}{te:TE}(he:PE X e te)(I:Inv X pins σ H s)(h:te σ H fun x H1=>∃a C dx fs g,x=.ref a∧H1 a=some (.ins C dx fs)∧Br X.K C∧Meth X.K C m g∧fs.lookup m=none∧∀s1,Inv X pins σ H1 s1→wpAny (model X.prog X.w) X.A (callWith pos (.ref g) [.ref a] (backTo pos (starEach args X.env)) (backToKw pos (keywordEach [] X.env))) Q X.xe s1)(ht:eval (.Call (.Attribute e m apos) args [] pos) X.env=(do
 let ov ←eval e X.env
 standAt apos.atName
 let(f,first) ←holding [ov] (getMethod ov m pl)
 callWith pos f first (backTo pos (starEach args X.env)) (backToKw pos (keywordEach [] X.env)))):
 wpAny (model X.prog X.w) X.A (eval (.Call (.Attribute e m apos) args [] pos) X.env) Q X.xe s:=by
 refine W.methodCall_KW (pl:=pl) (dX (he pins s σ H _ I h) fun u s1 ⟨x,H1,I1,rx,a,C,dx,fs,g,ex,ea,c,k,l,q⟩=>?_) ht
 subst ex
 obtain rfl:u=Value.ref a:=rx
 exact wY I1 ea c k l (q s1 I1)
end
section
variable{X:Cx}{pins:List (Addr×Obj)}{σ:St}{H:Hp}{s:Shared}{A:Around}{E:Value→Shared→Prop}{Q:Value→Shared→Prop}{c:Value}{b:Bool}
end
end L2
namespace L2
open PySem PySem.Spec PyProof.Rows
structure j8(k:Nat)(A:Around):Prop where
 hd:A.handled=none
 dp:A.depth+3*k+5<recursionLimit
 un:A.units+16*k+200<cLine
theorem j8.mono{j k:Nat}{A:Around}(r:j8 k A)(h:j≤k):j8 j A:=⟨r.hd,by have:=r.dp;omega,by have:=r.un;omega⟩
theorem j8.deeper{k:Nat}{A:Around}(r:j8 (k+1) A)(env:Env):j8 k (A.deeper env):=
 ⟨r.hd,by have:=r.dp;show A.depth+1+3*k+5<_;omega,by have:=r.un;show A.units+3+16*k+200<_;omega⟩
theorem Jl{A:Around}{C:Addr}{us:List Value}{kw:List (Str×Value)}:(A.under (.builtin "type.__call__" ⟨.ref C::us,kw⟩)).depth=A.depth+1:=by
 first |rfl |simp[Around.under,Code.weight,Code.isCreation,Code.isGuard,Code.isCaller,Code.frames,Code.isFrame,guardIds]
theorem Jm{A:Around}{C:Addr}{us:List Value}{kw:List (Str×Value)}:(A.under (.builtin "type.__call__" ⟨.ref C::us,kw⟩)).units=A.units+1:=by
 first |rfl |simp[Around.under,Code.cUnits,Code.frames,Code.isFrame]
theorem j8.make{k:Nat}{A:Around}(r:j8 (k+1) A)(C:Addr)(us:List Value)(kw:List (Str×Value)):j8 k (A.under (.builtin "type.__call__" ⟨.ref C::us,kw⟩)):=
 ⟨r.hd,by have:=r.dp;rw[Jl];omega,by have:=r.un;rw[Jm];omega⟩
theorem j8.depth{k:Nat}{A:Around}(r:j8 k A):A.depth<recursionLimit:=by have:=r.dp;omega
theorem j8.units{k:Nat}{A:Around}(r:j8 k A):A.units+64<cLine:=by have:=r.un;omega
def vM:TA:=fun _ H Q=>Q [] H
def jx(ta:TE)(tr:TA):TA:=fun σ H Q=>ta σ H fun x H1=>tr σ H1 fun xs H2=>Q (x::xs) H2
section
variable{X:Cx}{e:Expr}{es:List Expr}{te:TE}{t:TA}{pos:Pos}
theorem ai:PA X [] vM:=fun _ _ _ _ H Q I h=>Calls.spliced_nil ⟨[],H,I,.nil,h⟩
theorem aa(ha:PE X e te)(hr:PA X es t)(hs:starEach (e::es) X.env=(false,eval e X.env)::starEach es X.env:=by rfl):PA X (e::es) (jx te t):=by
 intro pos pins s σ H Q I h
 rw[hs]
 show wpAny _ _ (spliced ((false,eval e X.env)::backTo pos (starEach es X.env))) _ _ s
 refine ach (dX (ha pins s σ H _ I h) fun u s1 ⟨x,H1,I1,r1,q1⟩=>?_)
 exact dX (hr pos pins s1 σ H1 _ I1 q1) fun us s2 ⟨xs,H2,I2,r2,q2⟩=>⟨x::xs,H2,I2,.cons r1 r2,q2⟩
def Rc(t:TA):TE:=fun σ H Q=>t σ H fun xs H1=>xs.length≤sizeLine∧∀p,H1 p=none→Q (.ref p) (upd H1 p (.tup xs))
def Rf(t:TA):TE:=fun σ H Q=>t σ H fun xs H1=>xs.length≤sizeLine∧∀p,H1 p=none→Q (.ref p) (upd H1 p (.lst xs))
theorem aZ{x1}(h:PA X es t):PE X (.Tuple es x1 pos) (Rc t):=by
 intro pins s σ H Q I hq
 refine wpAny_Tuple_spliced (dX (h pos pins s σ H _ I hq) fun us s1 ⟨xs,H1,I1,r,z,q⟩=>⟨by rw[←r.length];exact z,?_⟩)
 have hf:H1 s1.heap.objs.size=none:=I1.hok.fresh (D9 _)
 refine⟨.ref s1.heap.objs.size,upd H1 s1.heap.objs.size (.tup xs),I1.laid (t':=s1.toks) (fun b u e=>D8 _ e) (D9 _) ?_,rfl,q _ hf⟩
 exact⟨z,us,r,⟨_,aaw _ rfl,rfl,_,rfl⟩⟩
theorem aK(h:PA X es t):PE X (.List es pos) (Rf t):=by
 intro pins s σ H Q I hq
 refine wpAny_List_spliced (dX (h pos pins s σ H _ I hq) fun us s1 ⟨xs,H1,I1,r,z,q⟩=>⟨by rw[←r.length];exact z,?_⟩)
 have hf:H1 s1.heap.objs.size=none:=I1.hok.fresh (D9 _)
 refine⟨.ref s1.heap.objs.size,upd H1 s1.heap.objs.size (.lst xs),I1.laid (t':=s1.toks) (fun b u e=>D8 _ e) (D9 _) ?_,rfl,q _ hf⟩
 exact⟨z,us,0,r,aaw _ rfl⟩
end
abbrev Sp:=List V→Hp→VK→XK→Prop
abbrev LD:=List Env→Hp→Shared→XK→Value→Shared→Prop
structure Jo(P:Program)(w:World)(K:W.Frag)(mg:Str→Option Value)(base:Heap)(A:Around)(outer:List Env)(s:Shared)(H:Hp):Prop where
 frames:A.frames=some outer
 mod:Mod K mg base
 bs:∀b o,base.get? b=some o→s.heap.get? b=some o∧H b=none
 MK:base.objs.size≤s.heap.objs.size
 A1:s.heap.FunFrames base outer
 Q2:∀b∈frs outer,H b=none
 hok:tK P w H s.heap
 bare:AllBare s.gens
def CE(outer:List Env)(P:Program)(w:World)(H:Hp)(s:Shared)(Q:VK)(u:Value)(s':Shared):Prop:=
 ∃v H',s'.os=s.os∧AllBare s'.gens∧Un (frs outer) [] H H' s.heap s'.heap∧tK P w H' s'.heap∧RelV v u∧Q v H'
def CR(CX:LD)(outer:List Env)(P:Program)(w:World)(H:Hp)(s:Shared)(Q:VK)(E:XK)(r:Result)(s':Shared):Prop:=
 match r with
 | .ok (.ret u)=>CE outer P w H s Q u s'
 | .ok _=>False
 | .error e=>CX outer H s E e s'
structure bE(P:Program)(w:World)(K:W.Frag)(mg:Str→Option Value)(base:Heap)(CX:LD)(k:Nat)(f:Addr)(fd:FuncData)(ps:List Str)(sp:Sp):Prop where
 len:∀vs H Q E,sp vs H Q E→vs.length=ps.length
 run:∀(A:Around) (outer:List Env) (s:Shared) (H:Hp) (args:Args) (us:List Value) (vs:List V) (Q:VK) (E:XK),j8 k A→Jo P w K mg base A outer s H→BindsTo s fd args (ps.zip us)→Vals vs us→sp vs H Q E→
  codeAny (model P w) A (.call (.ref f) args) (CR CX outer P w H s Q E) s
theorem bE.imp{P:Program}{w:World}{K:W.Frag}{mg:Str→Option Value}{base:Heap}{CX:LD}{k:Nat}{f:Addr}{fd:FuncData}{ps:List Str}{sp Zd:Sp}(F:bE P w K mg base CX k f fd ps sp)(h:∀vs H Q E,Zd vs H Q E→sp vs H Q E):bE P w K mg base CX k f fd ps Zd:=
 ⟨fun vs H Q E q=>F.len vs H Q E (h _ _ _ _ q),fun A outer s H args us vs Q E hr he hb hv hs=>F.run A outer s H args us vs Q E hr he hb hv (h _ _ _ _ hs)⟩
theorem Jo.make{P:Program}{w:World}{K:W.Frag}{mg:Str→Option Value}{base:Heap}{A:Around}{outer:List Env}{s:Shared}{H:Hp}(e:Jo P w K mg base A outer s H)(C:Addr)(us:List Value)(kw:List (Str×Value)):Jo P w K mg base (A.under (.builtin "type.__call__" ⟨.ref C::us,kw⟩)) outer s H:=⟨by first |exact e.frames |(simpa[Around.under,Code.envs,Code.isFrame,pushEnvs]using e.frames),e.mod,e.bs,e.MK,e.A1,e.Q2,e.hok,e.bare⟩
section
variable{X:Cx}{pins:List (Addr×Obj)}{σ:St}{H:Hp}{s s':Shared}
theorem Inv.Uo(I:Inv X pins σ H s):Jo X.prog X.w X.K X.mg X.base X.A X.stack s H:=
 ⟨I.ok.frames,I.ok.mod,I.bs,aaD I.ok.MK I.sz,I.stack,I.Kp,I.hok,I.bare⟩
theorem Inv.after{Q:VK}{u:Value}(I:Inv X pins σ H s)(h:CE X.stack X.prog X.w H s Q u s'):EP X pins σ Q u s':=by
 obtain⟨v,H',os,bare,un,hok,r,q⟩:=h
 obtain⟨hh,g,d,t,os'⟩:=s'
 obtain rfl:os'=s.os:=os
 exact⟨v,H',I.call (h':=hh) (g':=g) (d':=d) (t':=t) (ch:=[]) un hok bare (fun b z=>absurd z (by simp)),r,q⟩
end
def Ky(sp:Sp)(B7:List V)(E:XK)(t:TA):TE:=fun σ H Q=>t σ H fun vs H1=>sp (vs++B7) H1 Q E
inductive XMe(C:Addr)(m:Str)(x:V)(H:Hp)(R:Prop):Prop
 |mk (a dx:Addr) (fs:List (Str×V)) (e:x=.ref a) (h:H a=some (.ins C dx fs)) (l:fs.lookup m=none) (k:R)
def Kz(C:Addr)(m:Str)(sp:Sp)(B7:List V)(E:XK)(ta:TE)(t:TA):TE:=fun σ H Q=>ta σ H fun x H1=>XMe C m x H1 (t σ H1 fun vs H2=>sp (x::(vs++B7)) H2 Q E)
def Qs(C:Addr)(sp:Sp)(B7:List V)(E:XK)(t:TA):TE:=fun σ H Q=>t σ H fun vs H1=>∀x dx,H1 x=none→H1 dx=none→dx≠x→
 sp (.ref x::(vs++B7)) (upd (upd H1 dx (.own x)) x (.ins C dx [])) (fun v H2=>v=.lJ∧Q (.ref x) H2) E
def Binds(K:W.Frag)(fd:FuncData)(ps:List Str)(ds:List Value):Prop:=
 ∀(s:Shared) (us:List Value),K.In s.heap→(us++ds).length=ps.length→BindsTo s fd ⟨us,[]⟩ (ps.zip (us++ds))
theorem Binds.all{K:W.Frag}{fd:FuncData}{ps:List Str}(h:∀us:List Value,us.length=ps.length→bindArgs fd ⟨us,[]⟩=pure (ps.zip us)):Binds K fd ps []:=fun s us _ hl=>by
 rw[abr]at hl⊢
 exact .of_eq (h us hl)
def Passes(CX:LD)(X:Cx)(E:XK):Prop:=∀(pins:List (Addr×Obj)) (σ:St) (H:Hp) (s:Shared) (e:Value) (s':Shared),Inv X pins σ H s→CX X.stack H s E e s'→X.xe e s'
section
variable{X:Cx}{CX:LD}{k:Nat}{f C:Addr}{fd:FuncData}{ps:List Str}{sp:Sp}{B7:List V}{ds:List Value}{E:XK}{x m:Str}{p pos apos:Pos}{e o:Expr}{es:List Expr}{ta:TE}{t:TA}
theorem FE{pins:List (Addr×Obj)}{σ:St}{H:Hp}{s:Shared}{Q:VK}{us:List Value}{vs:List V}(F:bE X.prog X.w X.K X.mg X.base CX k f fd ps sp)(hr:j8 k X.A)(hb:Binds X.K fd ps ds)(hd:Vals B7 ds)(hx:Passes CX X E)(I:Inv X pins σ H s)(r:Vals vs us)(h:sp (vs++B7) H Q E):wpAny (model X.prog X.w) X.A (call (.ref f) us) (EP X pins σ Q) X.xe s:=by
 have r2:Vals (vs++B7) (us++ds):=r.append hd
 have hl:(us++ds).length=ps.length:=by rw[←r2.length];exact F.len _ _ _ _ h
 refine wpAny_call (codeAny_mono (F.run X.A X.stack s H ⟨us,[]⟩ (us++ds) (vs++B7) Q E hr I.Uo (hb s us I.IG hl) r2 h) fun r s' hq=>?_)
 cases r with
 |error e=>exact hx pins σ H s e s' I hq
 |ok fl=>
  cases fl with
  |ret u=>exact I.after hq
  |next=>exact False.elim hq
  |brk=>exact False.elim hq
  |cont=>exact False.elim hq
theorem aF(F:bE X.prog X.w X.K X.mg X.base CX k f fd ps sp)(hr:j8 k X.A)(hg:Gl X x)(hm:X.mg x=some (.ref f))(hk:W.keepIn X.K (.ref f)=true)(hb:Binds X.K fd ps ds)(hd:Vals B7 ds)(hx:Passes CX X E)(ha:PA X (e::es) t)(hdb:(x==("__debug__":Str))=false:=by decide)(he:starEach (e::es) X.env=(false,eval e X.env)::starEach es X.env:=by rfl)(hpl:(backTo pos (starEach es X.env)).any (·.1)=false:=by rfl):PE X (.Call (.Name x p) (e::es) [] pos) (Ky sp B7 E t):=by
 intro pins s σ H Q I h
 refine abv (Bp I hg hm ?_ hdb)
 refine W.callWith_K (h₀:=X.base) I.ok.mod.S5 hk (dX (ha pos pins s σ H _ I h) fun us s1 ⟨vs,H1,I1,r,q⟩=>⟨I1.IG,?_⟩) he hpl
 exact FE F hr hb hd hx I1 r q
theorem jy{pl:Sem Bool}(he:PE X o ta)(c:Br X.K C)(hm:Meth X.K C m f)(F:bE X.prog X.w X.K X.mg X.base CX k f fd ps sp)(hr:j8 k X.A)(hb:Binds X.K fd ps ds)(hd:Vals B7 ds)(hx:Passes CX X E)(ha:PA X (e::es) t)(hst:starEach (e::es) X.env=(false,eval e X.env)::starEach es X.env:=by rfl)(hpl:(backTo pos (starEach es X.env)).any (·.1)=false:=by rfl)(ht:eval (.Call (.Attribute o m apos) (e::es) [] pos) X.env=(do
 let ov ←eval o X.env
 standAt apos.atName
 let(f,first) ←holding [ov] (getMethod ov m pl)
 callWith pos f first (backTo pos (starEach (e::es) X.env)) (backToKw pos (keywordEach [] X.env))):=by rfl):
 PE X (.Call (.Attribute o m apos) (e::es) [] pos) (Kz C m sp B7 E ta t):=by
 intro pins s σ H Q I h
 refine W.methodCall_KW (pl:=pl) (dX (he pins s σ H _ I h) fun u s1 ⟨x,H1,I1,rx,a,dx,fs,ex,ea,l,q⟩=>?_) ht
 subst ex
 obtain rfl:u=Value.ref a:=rx
 refine wY I1 ea c hm l ?_
 refine W.callWith_K (first:=[.ref a]) (h₀:=X.base) I.ok.mod.S5 hm.kp (dX (ha pos pins s1 σ H1 _ I1 q) fun us s2 ⟨vs,H2,I2,r,q2⟩=>⟨I2.IG,?_⟩) hst hpl
 exact FE (us:=.ref a::us) (vs:=.ref a::vs) F hr hb hd hx I2 (.cons rfl r) q2
theorem m_{pl:Sem Bool}(he:PE X o ta)(c:Br X.K C)(hm:Meth X.K C m f)(F:bE X.prog X.w X.K X.mg X.base CX k f fd ps sp)(hr:j8 k X.A)(hb:Binds X.K fd ps ds)(hd:Vals B7 ds)(hx:Passes CX X E)(ht:eval (.Call (.Attribute o m apos) [] [] pos) X.env=(do
 let ov ←eval o X.env
 standAt apos.atName
 let(f,first) ←holding [ov] (getMethod ov m pl)
 callWith pos f first (backTo pos (starEach [] X.env)) (backToKw pos (keywordEach [] X.env))):=by rfl):
 PE X (.Call (.Attribute o m apos) [] [] pos) (Kz C m sp B7 E ta vM):=by
 intro pins s σ H Q I h
 refine W.methodCall_KW (pl:=pl) (dX (he pins s σ H _ I h) fun u s1 ⟨x,H1,I1,rx,a,dx,fs,ex,ea,l,q⟩=>?_) ht
 subst ex
 obtain rfl:u=Value.ref a:=rx
 refine wY I1 ea c hm l ?_
 exact W.callWith_K0 (first:=[.ref a]) I1.IG hm.kp (FE (us:=[.ref a]) (vs:=[.ref a]) F hr hb hd hx I1 (.cons rfl .nil) q)
structure Mk(K:W.Frag)(C f:Addr):Prop where
 makes:W.makesIn K C=true
 init:W.findIn K (.ref C) "__init__"=some (some (.ref f))
 fn:W.isFn K (.ref f)=true
 kp:W.keepIn K (.ref C)=true
theorem Hh{pins:List (Addr×Obj)}{σ:St}{H:Hp}{s:Shared}{Q:VK}{us:List Value}{vs:List V}(M:Mk X.K C f)(F:bE X.prog X.w X.K X.mg X.base CX k f fd ps sp)(hr:j8 (k+1) X.A)(hb:Binds X.K fd ps ds)(hd:Vals B7 ds)(hx:Passes CX X E)(I:Inv X pins σ H s)(r:Vals vs us)(h:∀x dx,H x=none→H dx=none→dx≠x→sp (.ref x::(vs++B7)) (upd (upd H dx (.own x)) x (.ins C dx [])) (fun v H2=>v=.lJ∧Q (.ref x) H2) E):wpAny (model X.prog X.w) X.A (call (.ref C) us) (EP X pins σ Q) X.xe s:=by
 have hq:=h (s.heap.objs.size+1) s.heap.objs.size (I.hok.fresh (aaX _)) (I.hok.fresh (D9 _)) (aaI (Nat.lt_succ_self _))
 have I2:=Inv.made (C:=C) I
 have r2:Vals (V.ref (s.heap.objs.size+1)::(vs++B7)) (Value.ref (s.heap.objs.size+1)::(us++ds)):=.cons rfl (r.append hd)
 have hl:(Value.ref (s.heap.objs.size+1)::us++ds).length=ps.length:=by
  have e:=r2.length
  rw[F.len _ _ _ _ hq]at e
  exact e.symm
 refine wpAny_call (M5 (f:=f) I.IG M.makes M.init (abN.mp M.fn) (codeAny_mono (F.run _ X.stack _ _ ⟨Value.ref (s.heap.objs.size+1)::us,[]⟩ (Value.ref (s.heap.objs.size+1)::(us++ds)) _ _ E (hr.make C us []) (I2.Uo.make C us []) (hb _ (Value.ref (s.heap.objs.size+1)::us) I2.IG hl) r2 hq) fun r s' hq'=>?_))
 cases r with
 |error e=>exact hx pins σ _ _ e s' I2 hq'
 |ok fl=>
  cases fl with
  |ret u=>
   obtain⟨v,H',I3,rv,ev,q3⟩:=I2.after hq'
   subst ev
   exact⟨rv,⟨V.ref (s.heap.objs.size+1),H',I3,rfl,q3⟩⟩
  |next=>exact False.elim hq'
  |brk=>exact False.elim hq'
  |cont=>exact False.elim hq'
theorem oQ(M:Mk X.K C f)(F:bE X.prog X.w X.K X.mg X.base CX k f fd ps sp)(hr:j8 (k+1) X.A)(hg:Gl X x)(hm:X.mg x=some (.ref C))(hb:Binds X.K fd ps ds)(hd:Vals B7 ds)(hx:Passes CX X E)(ha:PA X (e::es) t)(hdb:(x==("__debug__":Str))=false:=by decide)(he:starEach (e::es) X.env=(false,eval e X.env)::starEach es X.env:=by rfl)(hpl:(backTo pos (starEach es X.env)).any (·.1)=false:=by rfl):PE X (.Call (.Name x p) (e::es) [] pos) (Qs C sp B7 E t):=by
 intro pins s σ H Q I h
 refine abv (Bp I hg hm ?_ hdb)
 refine W.callWith_K (h₀:=X.base) I.ok.mod.S5 M.kp (dX (ha pos pins s σ H _ I h) fun us s1 ⟨vs,H1,I1,r,q⟩=>⟨I1.IG,?_⟩) he hpl
 exact Hh M F hr hb hd hx I1 r q
theorem yt(M:Mk X.K C f)(F:bE X.prog X.w X.K X.mg X.base CX k f fd ps sp)(hr:j8 (k+1) X.A)(hg:Gl X x)(hm:X.mg x=some (.ref C))(hb:Binds X.K fd ps ds)(hd:Vals B7 ds)(hx:Passes CX X E)(hdb:(x==("__debug__":Str))=false:=by decide):PE X (.Call (.Name x p) [] [] pos) (Qs C sp B7 E vM):=by
 intro pins s σ H Q I h
 refine abv (Bp I hg hm ?_ hdb)
 exact W.callWith_K0 I.IG M.kp (Hh (us:=[]) M F hr hb hd hx I .nil h)
end
section
variable{X:Cx}{CX:LD}{k:Nat}{f C:Addr}{fd:FuncData}{ps ks:List Str}{sp:Sp}{E:XK}{x m:Str}{p pos apos kpos:Pos}{e o:Expr}{es:List Expr}{kws:List Keyword}{te ta:TE}{t tk:TA}{nm:Option Str}
variable{g:List Value→List Value→List Value}{gV:List V→List V→List V}
end
structure aD(N P:List Str)(sc:Scope):Prop where
 kind:sc.kind=.function
 co:sc.isCoroutine=false
 gen:sc.isGenerator=false
 nd:N.Nodup
 pre:N.take P.length=P
 par:∀x∈P,sc.names.lookup x=some .local∨sc.names.lookup x=some .cell
 Rg:∀y∈sc.names,y.2≠ .free
theorem EG{kindOf:Str→Option NameKind}{x:Str}:∀{binds:List (Str×Value)} {m:Str→Option Value},(∀v,(x,v)∉binds)→bindL kindOf binds m x=m x
 |[],_,_=>rfl
 |(n,v)::r,m,h=>by
  unfold bindL
  rw[EG fun w hw=>h w (aap _ hw)]
  split
  ·have:x≠n:=by rintro rfl;exact h v aau
   simp[this]
  ·rfl
theorem EH{kindOf:Str→Option NameKind}{x:Str}:∀{binds:List (Str×Value)} {m:Str→Option Value},(∀v,(x,v)∉binds)→bindC kindOf binds m x=m x
 |[],_,_=>rfl
 |(n,v)::r,m,h=>by
  unfold bindC
  rw[EH fun w hw=>h w (aap _ hw)]
  split
  ·rfl
  ·have:x≠n:=by rintro rfl;exact h v aau
   simp[this]
theorem EI{kindOf:Str→Option NameKind}{x:Str}{v:Value}:∀{P:List Str} {vs:List Value} {i:Nat} {m:Str→Option Value},P.Nodup→P[i]?=some x→vs[i]?=some v→kindOf x=some .local→bindL kindOf (P.zip vs) m x=some v
 |[],_,_,_,_,h,_,_=>by simp at h
 |_::_,[],_,_,_,_,h,_=>by simp at h
 |p::P,w::vs,0,m,nd,h1,h2,hk=>by
  simp at h1 h2;subst h1;subst h2
  show bindL kindOf ((p,w)::P.zip vs) m p=_
  unfold bindL
  rw[EG fun v hv=>(aaO.mp nd).1 (List.of_mem_zip hv).1,D7 hk]
  simp
 |p::P,w::vs,i+1,m,nd,h1,h2,hk=>by
  show bindL kindOf ((p,w)::P.zip vs) m x=_
  unfold bindL
  exact EI (i:=i) (aaO.mp nd).2 (by simpa using h1) (by simpa using h2) hk
theorem EJ{kindOf:Str→Option NameKind}{x:Str}{v:Value}:∀{P:List Str} {vs:List Value} {i:Nat} {m:Str→Option Value},P.Nodup→P[i]?=some x→vs[i]?=some v→kindOf x≠some .local→bindC kindOf (P.zip vs) m x=some v
 |[],_,_,_,_,h,_,_=>by simp at h
 |_::_,[],_,_,_,_,h,_=>by simp at h
 |p::P,w::vs,0,m,nd,h1,h2,hk=>by
  simp at h1 h2;subst h1;subst h2
  show bindC kindOf ((p,w)::P.zip vs) m p=_
  unfold bindC
  rw[EH fun v hv=>(aaO.mp nd).1 (List.of_mem_zip hv).1,D6 hk]
  simp
 |p::P,w::vs,i+1,m,nd,h1,h2,hk=>by
  show bindC kindOf ((p,w)::P.zip vs) m x=_
  unfold bindC
  exact EJ (i:=i) (aaO.mp nd).2 (by simpa using h1) (by simpa using h2) hk
def start(N:List Str)(vs:List V):St:=vs.map some++List.replicate (N.length-vs.length) none
def Jp(CX:LD)(P:Program)(w:World)(K:W.Frag)(mg:Str→Option Value)(base:Heap)(N:List Str)(qual:Str)(scope:Scope)(f:Addr)(cd:Value)(A:Around)(outer:List Env)(s:Shared)(H:Hp)(E:XK):Cx where
 prog:=P
 w:=w
 K:=K
 mg:=mg
 base:=base
 A:=A.deeper (envOfC qual scope s.heap.objs.size f cd)
 N:=N
 ED:=s
 QZ:=H
 env:=envOfC qual scope s.heap.objs.size f cd
 outer:=outer
 stack:=envOfC qual scope s.heap.objs.size f cd::outer
 ex:=[]
 calm:=true
 fn:=fun _=>true
 pn:=[]
 xe:=fun e s'=>wpAny (model P w) (A.deeper (envOfC qual scope s.heap.objs.size f cd)) (leaving (envOfC qual scope s.heap.objs.size f cd) e) (fun _ s''=>CX outer H s E e s'') (fun e' s''=>CX outer H s E e' s'') s'
theorem Hi{sc:Scope}{n:Nat}{x:Str}(h:sc.names.lookup x=some .cell):∃c,(cellsFrom n sc.names []).lookup x=some c:=by
 have q:=W.cellsFrom_some sc.names n [] (.inl h)
 exact Option.isSome_iff_exists.mp q
theorem LF{CX:LD}{P:Program}{w:World}{K:W.Frag}{mg:Str→Option Value}{base:Heap}{N ps:List Str}{qual:Str}{scope:Scope}{f:Addr}{cd:Value}{A:Around}{outer:List Env}{s s1:Shared}{H:Hp}{E:XK}{us:List Value}{vs:List V}(S:aD N ps scope)(hd:A.handled=none)(e0:Jo P w K mg base A outer s H)(hl:vs.length=ps.length)(r:Vals vs us)(x:InCallC s s.heap.objs.size (bindL (envOfC qual scope s.heap.objs.size f cd).kindOf (ps.zip us) fun _=>none) (cellsFrom (s.heap.objs.size+1) scope.names []) (bindC (envOfC qual scope s.heap.objs.size f cd).kindOf (ps.zip us) fun _=>none) s1):Inv (Jp CX P w K mg base N qual scope f cd A outer s H E) [] (start N vs) H s1:=by
 have hpl:ps.length≤N.length:=by have:=congrArg List.length S.pre;rw[aaH]at this;omega
 obtain⟨h1,tk,rfl,hk⟩:=x.done
 have WU:∀b:Addr,b∉(Jp CX P w K mg base N qual scope f cd A outer s H E).ex:=fun b z=>absurd (show b∈([]:List Addr)from z) (by simp)
 refine⟨⟨e0.mod,S.kind,rfl,rfl,D9 _,fun y z c h1 h2=>?_,fun y hy=>?_,fun y c _ h=>?_,fun _=>hd,Around.frames_deeper e0.frames,.inr ⟨rfl,rfl⟩,fun b z=>absurd z (WU b),e0.bs,e0.MK,fun b _ _=>WU b,fun b z=>absurd z (WU b),e0.A1,e0.Q2⟩,rfl,e0.bare,Un.kept hk,⟨_,x.toInCall.ns,fun i y v h1 h2 h3=>?_⟩,fun y c h=>⟨_,x.cell y c h⟩,e0.hok.fresh (D9 _),fun y c h=>?_,fun p hp=>absurd (show p∈([]:List (Addr×Obj))from hp) (by simp),e0.hok.kept hk,?_⟩
 ·exact name_of_addr x.apart (aaS h1) (aaS h2)
 ·have hy:scope.names.lookup y=some .cell∨scope.names.lookup y=some .free:=hy
  rcases hy with hy |hy
  ·exact Hi hy
  ·exact absurd rfl (S.Rg _ (aaS hy))
 ·exact acC (x.above y c (aaS h))
 ·have hi:i<vs.length:=by
   unfold start at h2
   by_cases hi:i<vs.length
   ·exact hi
   ·rw[aaG (by simpa using hi)]at h2
    rw[List.getElem?_replicate]at h2
    split at h2<;>cases h2
  have ha:vs[i]?=some v:=by
   unfold start at h2
   rw[aaA (by simpa using hi),HD]at h2
   cases e:vs[i]? with
   |none=>rw[e]at h2;cases h2
   |some a=>rw[e]at h2;cases h2;rfl
  obtain⟨u,hu,rv⟩:=r.get ha
  have hp:ps[i]?=some y:=by
   rw[←S.pre,List.getElem?_take_of_lt (by omega)];exact h1
  have Ze:ps.Nodup:=by rw[←S.pre];exact S.nd.sublist (List.take_sublist _ _)
  refine⟨u,rv,?_⟩
  rcases S.par y (aaB hp)with k |k
  ·exact .inl ⟨k,EI Ze hp hu k⟩
  ·obtain⟨c,e⟩:=Hi (n:=s.heap.objs.size+1) k
   refine .inr ⟨.inl k,c,e,?_⟩
   have q:=x.cell y c e
   rw[EJ Ze hp hu (by show scope.names.lookup y≠_;rw[k];decide)]at q
   exact q
 ·exact e0.hok.fresh (acC (x.above y c (aaS h)))
 ·unfold start
  show _=N.length
  rw[aat,DS,List.length_replicate]
  omega
theorem Qt{CX:LD}{P:Program}{w:World}{K:W.Frag}{mg:Str→Option Value}{base:Heap}{k:Nat}{f:Addr}{name qual:Str}{params:Arguments}{body:List Stmt}{scope:Scope}{dV kV doc pm cdv ct oc:Value}{an od:Option Addr}{osl:Array (Option Value)}{N ps:List Str}{sp:Sp}(lk:K.lookup f=some ⟨oc,od,.func (W.fnOf name qual params body scope dV kV doc pm an cdv ct),osl⟩)(hcd:W.codeIn K cdv qual=true)(S:aD N ps scope)(len:∀vs H Q E,sp vs H Q E→vs.length=ps.length)(hbody:∀(A:Around) (outer:List Env) (s:Shared) (H:Hp) (vs:List V) (Q:VK) (E:XK),j8 k (A.deeper (envOfC qual scope s.heap.objs.size f cdv))→sp vs H Q E→∃t,Kr (Jp CX P w K mg base N qual scope f cdv A outer s H E) body t∧t {nx:=fun _ H'=>Q .lJ H',rt:=Q} (start N vs) H):bE P w K mg base CX (k+1) f (W.fnOf name qual params body scope dV kV doc pm an cdv ct) ps sp:=by
 refine⟨len,fun A outer s H args us vs Q E hr e0 hb r Oi=>?_⟩
 have hl:=len _ _ _ _ Oi
 have KX:K.In s.heap:=e0.mod.S5.keeps fun b o e=>(e0.bs b o e).1
 have lim:s.heap.NoLimit:=e0.mod.nolimit.keeps fun b o e=>(e0.bs b o e).1
 have hkind:∀y∈ps.zip us,scope.names.lookup y.1=some .local∨(scope.names.lookup y.1=some .cell∧((cellsFrom (s.heap.objs.size+1) scope.names []).lookup y.1).isSome=true):=fun⟨n,v⟩ hy=>by
  rcases S.par n (List.of_mem_zip hy).1 with q |q
  ·exact .inl q
  ·exact .inr ⟨q,W.cellsFrom_some _ _ _ (.inl q)⟩
 refine codeAny_call_function hr.depth (KX _ _ lk) rfl S.co S.gen rfl (W.codeRec_of KX hcd) (hb _ _ _ _ ?_)
 refine wpAny_newFunctionEnv_cells S.kind hkind fun env he s1 x=>?_
 subst he
 refine⟨lim.keeps x.toInCall.keep,codeAny_func ?_⟩
 obtain⟨t,ht,hq⟩:=hbody A outer s H vs Q E (hr.deeper _) Oi
 have I:Inv (Jp CX P w K mg base N qual scope f cdv A outer s H E) [] (start N vs) H s1:=LF S hr.hd e0 hl r x
 refine aby (ht [] s1 (start N vs) H _ I hq) (fun fl s' hs=>?_) fun e s' hs=>hs
 have fin:∀{σ':St} {H':Hp} {v:V} {u:Value},Inv (Jp CX P w K mg base N qual scope f cdv A outer s H E) [] σ' H' s'→RelV v u→Q v H'→CE outer P w H s Q u s':=
  fun{σ' H' v u} J rv q=>⟨v,H',J.os,J.bare,J.base,J.hok,rv,q⟩
 cases fl with
 |ret u=>
  obtain⟨v,σ',H',J,rv,q⟩:=hs
  exact fin J rv q
 |next=>
  obtain⟨σ',H',J,q⟩:=hs
  exact fin (v:=V.lJ) (u:=Value.none) J rfl q
 |brk=>
  obtain⟨_,_,_,q⟩:=hs
  exact False.elim q
 |cont=>
  obtain⟨_,_,_,q⟩:=hs
  exact False.elim q
end L2
namespace L2
open PySem PySem.Spec PyProof.Rows
section
variable{X:Cx}{x:Str}{p pos:Pos}{e:Expr}{es:List Expr}{t:TA}{id T:String}{r:List V→Hp→VK→Prop}
def WV(r:List V→Hp→VK→Prop)(t:TA):TE:=fun σ H Q=>t σ H fun vs H1=>r vs H1 Q
theorem aQ(hc:qD X (.builtin id) r)(hg:Gl X x)(hm:X.mg x=none)(hv:bootBuiltins x=some (.builtin id))(ha:PA X (e::es) t)(hn:x≠"__name__":=by decide)(hdb:(x==("__debug__":Str))=false:=by decide)(he:starEach (e::es) X.env=(false,eval e X.env)::starEach es X.env:=by rfl)(hpl:(backTo pos (starEach es X.env)).any (·.1)=false:=by rfl):PE X (.Call (.Name x p) (e::es) [] pos) (WV r t):=by
 intro pins s σ H Q I h
 refine abv (tQ I hg hm hv ?_ hn hdb)
 exact PyProof.Rows.callWith_builtin1 (dX (ha pos pins s σ H _ I h) fun us s1 ⟨vs,H1,I1,r1,q1⟩=>hc pins s1 σ H1 vs us Q I1 r1 q1) he hpl
theorem vq(hc:qD X (.type T) r)(hg:Gl X x)(hm:X.mg x=none)(hv:bootBuiltins x=some (.type T))(ha:PA X (e::es) t)(hn:x≠"__name__":=by decide)(hdb:(x==("__debug__":Str))=false:=by decide)(he:starEach (e::es) X.env=(false,eval e X.env)::starEach es X.env:=by rfl)(hpl:(backTo pos (starEach es X.env)).any (·.1)=false:=by rfl):PE X (.Call (.Name x p) (e::es) [] pos) (WV r t):=by
 intro pins s σ H Q I h
 refine abv (tQ I hg hm hv ?_ hn hdb)
 exact abE (dX (ha pos pins s σ H _ I h) fun us s1 ⟨vs,H1,I1,r1,q1⟩=>hc pins s1 σ H1 vs us Q I1 r1 q1) he hpl
end
end L2
namespace HT
open PySem PyProof.Rows
section
open PySem.SeqAt
open PySem.AutoSeq1 (wpAny_loadPart')
open PySem.MeetsSeq PySem.MeetsSeq2 PySem.MeetsSeq3
end
section
variable{prog:Program}{w:World}{A:Around}{E:Value→Shared→Prop}{s:Shared}
theorem OP{t b:Addr}{vs ws:List Value}{Q:Value→Shared→Prop}(ht:IsTup s.heap t vs.toArray)(hb:IsTup s.heap b ws.toArray)(hv:vs≠[])(h1:ws=[]→Q (.ref t) s)(h2:ws≠[]→Q (.ref s.heap.objs.size) {s with heap:=s.heap.push {cls:=.type "tuple",data:=.seq (vs++ws).toArray} })(hsz:vs.length+ws.length≤sizeLine):wpAny (model prog w) A (binaryOp .Add (.ref t) (.ref b)) Q E s:=by
 obtain⟨⟨cls,dd,data,sl⟩,ho,hc,n,hd⟩:=id ht
 obtain⟨⟨WW,dd2,data2,sl2⟩,ho2,hc2,n2,hd2⟩:=id hb
 simp only at hc hd hc2 hd2
 subst hc hd hc2 hd2
 have e:vs.toArray++ws.toArray=(vs++ws).toArray:=by simp
 by_cases hw:ws=[]
 ·exact concat_meets ⟨_,ho,rfl⟩ ⟨_,ho2,rfl⟩ noFill_tuple_add seq_tuple_add PySem.F.slot_tuple_add PySem.F.entry_tuple_add (acD _ _)
   (tuple_addW1 t b vs.toArray ws.toArray n n2 dd dd2 sl sl2 (by simpa using hv) (by simp[hw])) ⟨ho,ho2,h1 hw⟩
 ·refine concat_meets ⟨_,ho,rfl⟩ ⟨_,ho2,rfl⟩ noFill_tuple_add seq_tuple_add PySem.F.slot_tuple_add PySem.F.entry_tuple_add (acD _ _)
   (tuple_addW2 t b vs.toArray ws.toArray n n2 dd dd2 sl sl2 (by simpa using hv) (by simpa using hw) (by rw[aav,aav];exact hsz)) ⟨ho,ho2,?_⟩
  rw[e]
  exact h2 hw
def Hj(n d:Nat):Option Int→Nat
 |none=>d
 |some v=>if v<0 then(v+(n:Int)).toNat else min v.toNat n
theorem Hl(n d:Nat):Hj n d none=d:=rfl
theorem Bs(n d k:Nat):Hj n d (some (k:Int))=min k n:=by
 show(if(k:Int)<0 then((k:Int)+(n:Int)).toNat else min (k:Int).toNat n)=min k n
 rw[D6 (by omega),aa_]
end
end HT
namespace L2
open PySem PySem.Spec PyProof.Rows
abbrev TO:=St→Hp→(Option Int→Hp→Prop)→Prop
def PO(X:Cx)(e:Option Expr)(t:TO):Prop:=
 ∀(pins:List (Addr×Obj)) (s:Shared) (σ:St) (H:Hp) (Q:Option Int→Hp→Prop),Inv X pins σ H s→t σ H Q→
  wpAny (model X.prog X.w) X.A (evalPart e X.env) (fun u s'=>∃o H',Inv X pins σ H' s'∧IsPart u o∧Q o H') X.xe s
def OQ:TO:=fun _ H Q=>Q none H
def Up(t:TE):TO:=fun σ H Q=>t σ H fun x H1=>∃i,x=.int i∧Q (some i) H1
section
variable{X:Cx}{e:Expr}{te:TE}{lo hi:Option Expr}{tl th:TO}{pos p2:Pos}
theorem FF:PO X none OQ:=by
 intro pins s σ H Q I h
 rw[evalPart_none]
 exact aan ⟨none,H,I,.none,h⟩
theorem yu(h:PE X e te):PO X (some e) (Up te):=by
 intro pins s σ H Q I hw
 rw[evalPart_some]
 refine dX (h pins s σ H _ I hw) fun u s1 ⟨x,H1,I1,r1,q1⟩=>?_
 obtain⟨i,rfl,q⟩:=q1
 obtain⟨t,rfl⟩:=r1
 exact⟨some i,H1,I1,.int i t,q⟩
def Zf(X:Cx)(r:V→Option Int→Option Int→Hp→VK→Prop):Prop:=
 ∀(pins:List (Addr×Obj)) (s:Shared) (σ:St) (H:Hp) (x:V) (v vl vu:Value) (lo hi:Option Int) (sl:Addr) (Q:VK),Inv X pins σ H s→RelV x v→s.heap.IsSliceOf sl vl vu .none→IsPart vl lo→IsPart vu hi→r x lo hi H Q→
  ∃T id,typeLookup (.type T) "__getitem__"=pure (some (.builtin id))∧s.TypeIs v T∧wpAny (model X.prog X.w) X.A (getItem v (.ref sl)) (EP X pins σ Q) X.xe s
def tSl(r:V→Option Int→Option Int→Hp→VK→Prop)(te:TE)(tl th:TO):TE:=fun σ H Q=>te σ H fun x H1=>tl σ H1 fun l H2=>th σ H2 fun u H3=>r x l u H3 Q
theorem yw{r:V→Option Int→Option Int→Hp→VK→Prop}(hr:Zf X r)(he:PE X e te)(hl:PO X lo tl)(hu:PO X hi th):PE X (.Subscript e (.Slice lo hi none p2) pos) (tSl r te tl th):=by
 intro pins s σ H Q I h
 refine Subscript_ (dX (he pins s σ H _ I h) fun v s1 ⟨x,H1,I1,r1,q1⟩=>?_)
 refine wpAny_Slice (dX (hl pins s1 σ H1 _ I1 q1) fun vl s2 ⟨l,H2,I2,pl,q2⟩=>dX (hu pins s2 σ H2 _ I2 q2) fun vu s3 ⟨u,H3,I3,pu,q3⟩=>?_)
 rw[evalPart_none]
 refine aan ?_
 have I4:Inv X pins σ H3 {s3 with heap:=s3.heap.push {cls:=.type "slice",data:=.fields #[vl,vu,.none]} }:=I3.kept (t':=s3.toks) fun b ob q=>D8 _ q
 obtain⟨T,id,hT,ht,hg⟩:=hr pins {s3 with heap:=s3.heap.push {cls:=.type "slice",data:=.fields #[vl,vu,.none]} } σ H3 x v vl vu l u s3.heap.objs.size Q I4 r1 (Heap.IsSliceOf.new ..) pl pu q3
 show wpAny (model X.prog X.w) X.A (subscriptTail e (.Slice lo hi none p2) v (.ref s3.heap.objs.size)) (EP X pins σ Q) X.xe {s3 with heap:=s3.heap.push {cls:=.type "slice",data:=.fields #[vl,vu,.none]} }
 exact tail_any (ops:=[.ref s3.heap.objs.size,v]) ht hT hg (by with_unfolding_all rfl)
def A3(xs:List V)(lo hi:Option Int):List V:=(xs.drop (HT.Hj xs.length 0 lo)).take (HT.Hj xs.length xs.length hi-HT.Hj xs.length 0 lo)
theorem Ho(xs:List V)(lo hi:Option Int):(A3 xs lo hi).length≤xs.length:=by
 unfold A3
 rw[aaH,abw]
 omega
def Uq(K:W.Frag):R2:=fun x y H Q=>∃a b xs ys,x=.ref a∧y=.ref b∧i6 K H a xs∧i6 K H b ys∧xs≠[]∧xs.length+ys.length≤sizeLine∧
 (ys=[]→Q (.ref a) H)∧(ys≠[]→∀p,H p=none→Q (.ref p) (upd H p (.tup (xs++ys))))
theorem Vals.yx{xs:List V}{us:List Value}(r:Vals xs us):us=[]↔xs=[]:=by
 cases r with
 |nil=>simp
 |cons _ _=>simp
theorem OR:Bq X (binaryOp .Add) (Uq X.K):=by
 intro pins s σ H x y v u Q I rx ry h
 obtain⟨a,b,xs,ys,rfl,rfl,ha,hb,hx,hz,q1,q2⟩:=h
 cases rx
 cases ry
 obtain⟨its,r1,p1,_⟩:=I.tuple ha
 obtain⟨its2,r2,p2,_⟩:=I.tuple hb
 refine HT.OP p1 p2 (fun z=>hx (r1.yx.mp z)) (fun z=>⟨.ref a,H,I,rfl,q1 (r2.yx.mp z)⟩) (fun z=>?_) (by rw[←r1.length,←r2.length];exact hz)
 refine⟨.ref s.heap.objs.size,_,I.laid (t':=s.toks) (o:=.tup (xs++ys)) (fun b ob q=>D8 _ q) (D9 _) ?_,rfl,q2 (fun w=>z (r2.yx.mpr w)) _ (I.hok.fresh (D9 _))⟩
 exact⟨by rw[aat];exact hz,_,r1.append r2,IsTup.new _ _⟩
end
end L2
namespace L2
open PySem PySem.Spec PyProof.Rows
def Oj(n:Nat)(i:Int):Option Nat:=if 0≤i then(if i<n then some i.toNat else none)else if-(n:Int)≤i then some (i+n).toNat else none
def M7{α:Type}(xs:List α)(i:Int):Option α:=(Oj xs.length i).bind fun j=>xs[j]?
theorem KA{n:Nat}{i:Int}{j:Nat}(h:Oj n i=some j):seqIndex? i n=some j∧j<n∧-(n:Int)≤i∧i<n:=by
 unfold Oj at h
 by_cases h0:0≤i
 ·rw[D7 h0]at h
  by_cases h1:i<n
  ·rw[D7 h1]at h
   have e:i.toNat=j:=aar h
   exact⟨by rw[seqIndex_of h0 h1,e],by omega,by omega,h1⟩
  ·rw[D6 h1]at h;cases h
 ·rw[D6 h0]at h
  by_cases h1: -(n:Int)≤i
  ·rw[D7 h1]at h
   have e:(i+n).toNat=j:=aar h
   exact⟨by rw[seqIndex_neg (by omega) h1,e],by omega,h1,by omega⟩
  ·rw[D6 h1]at h;cases h
theorem FG{α:Type}{xs:List α}{i:Int}{v:α}(h:M7 xs i=some v):∃j,seqIndex? i xs.length=some j∧xs[j]?=some v∧j<xs.length∧-(xs.length:Int)≤i∧i<xs.length:=by
 unfold M7 at h
 cases e:Oj xs.length i with
 |none=>rw[e]at h;cases h
 |some j=>
  rw[e]at h
  obtain⟨h1,h2,h3,h4⟩:=KA e
  exact⟨j,h1,h,h2,h3,h4⟩
theorem OS{α:Type}{xs:List α}{j:Nat}{v:α}(h:xs[j]?=some v):M7 xs (j:Int)=some v:=by
 have hj:j<xs.length:=(aao.mp h).1
 have e:Oj xs.length (j:Int)=some j:=by
  unfold Oj
  rw[D7 (by omega),D7 (by omega)];simp
 unfold M7;rw[e];exact h
def OT(b:Expr):Prop:=∀o i,subscripted b false o i=operate [o,i] (getItem o i)
def V_(X:Cx)(r:R2):Prop:=
 ∀(value slice:Expr) (pins:List (Addr×Obj)) (s:Shared) (σ:St) (H:Hp) (x y:V) (v u:Value) (Q:VK),Inv X pins σ H s→RelV x v→RelV y u→r x y H Q→
  subscripted slice false v u=operate [v,u] (getItem v u)→wpAny (model X.prog X.w) X.A (subscriptTail value slice v u) (EP X pins σ Q) X.xe s
def MtR(X:Cx)(id:String)(r:V→List V→Hp→VK→Prop):Prop:=
 ∀(pins:List (Addr×Obj)) (s:Shared) (σ:St) (H:Hp) (x:V) (xs:List V) (v:Value) (us:List Value) (Q:VK),Inv X pins σ H s→RelV x v→Vals xs us→r x xs H Q→
  wpAny (model X.prog X.w) X.A (call (.builtin id) (v::us)) (EP X pins σ Q) X.xe s
section
variable{X:Cx}{a b:Expr}{ta tb:TE}{pos:Pos}
theorem cz{r:R2}(hr:V_ X r)(ha:PE X a ta)(hb:PE X b tb)(hs:OT b):PE X (.Subscript a b pos) (S_ r ta tb):=by
 intro pins s σ H Q I h
 exact Subscript_ (Q7 ha hb I h fun v u s2 x y H2 I2 rx ry q=>hr a b pins s2 σ H2 x y v u Q I2 rx ry q (hs _ _))
inductive Zg(S:Addr→List V→Prop)(x y:V)(H:Hp)(Q:VK):Prop
 |mk (p:Addr) (xs:List V) (i:Int) (v:V) (e:x=.ref p) (e':y=.int i) (s:S p xs) (a:M7 xs i=some v) (k:Q v H)
def Rh(K:W.Frag):R2:=fun x y H Q=>Zg (bD K H) x y H Q
def Ur(K:W.Frag):R2:=fun x y H Q=>Zg (i6 K H) x y H Q
theorem bL:V_ X (Rh X.K):=by
 intro value slice pins s σ H x y v u Q I rx ry h hs
 obtain⟨p,xs,i,z,rfl,rfl,hq,he,q⟩:=h
 cases rx
 obtain⟨t,rfl⟩:=ry
 obtain⟨its,r,pl,hz⟩:=I.list hq
 obtain⟨j,h1,h2,h3,h4,h5⟩:=FG he
 obtain⟨w,ew,rw'⟩:=r.get h2
 have hl:=r.length
 have hn:=B4
 have fin:EP X pins σ Q w s:=⟨z,H,I,rw',q⟩
 by_cases h0:0≤i
 ·have hj:i.toNat=j:=by
   rw[seqIndex_of h0 h5]at h1
   exact aar h1
  exact item_listR pl.isList h0 (by omega) (by rw[hj];simpa using ew) fin hs
 ·have hj:(i+(its.toArray.size:Int)).toNat=j:=by
   rw[seqIndex_neg (by omega) h4]at h1
   rw[aav,←hl]
   exact aar h1
  exact subscriptTail_builtinR (x:=w) pl.isList.typeIs slot_list_getitem.lookup
   (wpAny_getItem_list_neg (Q:=fun r s'=>r=w∧EP X pins σ Q r s') pl.isList (by omega) (by rw[aav]<;>omega) (by omega) (by rw[hj];simpa using ew) ⟨rfl,fin⟩) hs
theorem tW:V_ X (Ur X.K):=by
 intro value slice pins s σ H x y v u Q I rx ry h hs
 obtain⟨p,xs,i,z,rfl,rfl,hq,he,q⟩:=h
 cases rx
 obtain⟨t,rfl⟩:=ry
 obtain⟨its,r,pl,hz⟩:=I.tuple hq
 obtain⟨j,h1,h2,h3,h4,h5⟩:=FG he
 obtain⟨w,ew,rw'⟩:=r.get h2
 have hl:=r.length
 have hn:=B4
 have fin:EP X pins σ Q w s:=⟨z,H,I,rw',q⟩
 exact subscriptTail_builtinR (x:=w) pl.typeIs slot_tuple_getitem.lookup
  (getItem_tuple (j:=j) (Q:=fun r s'=>r=w∧EP X pins σ Q r s') pl (by omega) (by omega) (by rw[aav,←hl];exact h1) (by simpa using ew) ⟨rfl,fin⟩) hs
theorem Jq(its:List Value)(n j:Nat)(u:Value):Obj.mapSeq (·.setIfInBounds j u) {cls:=.type "list",data:=.seq its.toArray n}={cls:=.type "list",data:=.seq (its.set j u).toArray n}:=by
 simp[Obj.mapSeq]
theorem Inv.lst{pins:List (Addr×Obj)}{σ:St}{H:Hp}{s:Shared}{p:Addr}{xs:List V}(I:Inv X pins σ H s)(h:H p=some (.lst xs)):∃(its:List Value) (n:Nat),Vals xs its∧s.heap.get? p=some {cls:=.type "list",data:=.seq its.toArray n}∧xs.length≤sizeLine:=by
 obtain⟨z,its,n,r,e⟩:=I.hok p _ h
 exact⟨its,n,r,e,z⟩
theorem Inv.Ri{pins:List (Addr×Obj)}{σ:St}{H:Hp}{s:Shared}{p:Addr}{xs ys:List V}{its its':List Value}{n n':Nat}{f:Obj→Obj}(I:Inv X pins σ H s)(h:H p=some (.lst xs))(ho:s.heap.get? p=some {cls:=.type "list",data:=.seq its.toArray n})(hf:f {cls:=.type "list",data:=.seq its.toArray n}={cls:=.type "list",data:=.seq its'.toArray n'})(r:Vals ys its')(hz:ys.length≤sizeLine)(t:Nat):Inv X pins σ (upd H p (.lst ys)) {s with heap:=s.heap.update p f,toks:=t}:=by
 have e:(s.heap.update p f).get? p=some {cls:=.type "list",data:=.seq its'.toArray n'}:=by
  rw[Heap.get?_update_self f ho (by rw[hf]<;>rfl),hf]
 refine I.write (x:=p) (e:=p) (by rw[h];trivial) (.inl rfl) (fun b u hb q=>(Heap.get?_update_other _ _ (acn hb)).trans q) ⟨_,e⟩ ?_
 exact⟨hz,its',n',r,e⟩
def Us:V→V→V→Hp→(Hp→Prop)→Prop:=fun o i v H Q=>∃p xs k j,o=.ref p∧i=.int k∧H p=some (.lst xs)∧Oj xs.length k=some j∧Q (upd H p (.lst (xs.set j v)))
theorem set_list:T_ X Us:=by
 intro pins s σ H o i v ov iv u Q I ro ri rv h
 obtain⟨p,xs,k,j,rfl,rfl,hp,hj,q⟩:=h
 cases ro
 obtain⟨t,rfl⟩:=ri
 obtain⟨its,n,r,ho,hz⟩:=I.lst hp
 obtain⟨h1,h2,h3,h4⟩:=KA hj
 have hl:=r.length
 have hn:=B4
 have I':Inv X pins σ (upd H p (.lst (xs.set j v))) {s with heap:=s.heap.update p (Obj.mapSeq (·.setIfInBounds j u))}:=
  I.Ri hp ho (Jq its n j u) (r.set rv j) (by rw[ab0];exact hz) s.toks
 by_cases h0:0≤k
 ·have hk:k.toNat=j:=by
   rw[seqIndex_of h0 h4]at h1
   exact aar h1
  exact W.ki_setAt ho h0 (by omega) (by rw[aav,←hl];exact h4) (by rw[hk];exact⟨_,I',q⟩)
 ·have hk:(k+(its.toArray.size:Int)).toNat=j:=by
   rw[seqIndex_neg (by omega) h3]at h1
   rw[aav,←hl]
   exact aar h1
  exact W.ki_setBack ho (by omega) (by rw[aav,←hl];exact h3) (by omega) (by rw[hk];exact⟨_,I',q⟩)
theorem FH(lo hi:Option Int)(n:Nat):(sliceBounds lo hi none n).1=((HT.Hj n 0 lo:Nat):Int)∧(sliceBounds lo hi none n).2.1=((HT.Hj n n hi:Nat):Int)∧(sliceBounds lo hi none n).2.2=1:=by
 refine⟨?_,?_,rfl⟩
 ·cases lo with
  |none=>simp[sliceBounds,HT.Hj]
  |some i=>
   simp only[sliceBounds,HT.Hj,Option.getD_none,show(1:Int)>0 by decide,aa3]
   by_cases h:i<0
   ·simp only[h,aa3]<;>omega
   ·simp only[h,aa4]<;>omega
 ·cases hi with
  |none=>simp[sliceBounds,HT.Hj]
  |some i=>
   simp only[sliceBounds,HT.Hj,Option.getD_none,show(1:Int)>0 by decide,aa3]
   by_cases h:i<0
   ·simp only[h,aa3]<;>omega
   ·simp only[h,aa4]<;>omega
theorem DB(its:List Value)(lo hi:Option Int):slicePick its.toArray lo hi none=((its.drop (HT.Hj its.length 0 lo)).take (HT.Hj its.length its.length hi-HT.Hj its.length 0 lo)).toArray:=by
 obtain⟨h1,h2,h3⟩:=FH lo hi its.toArray.size
 unfold slicePick
 rw[h1,h2,h3]
 simp only[sliceRange_one,pick_run,aav]<;>rfl
def WX(K:W.Frag):V→Option Int→Option Int→Hp→VK→Prop:=fun x lo hi H Q=>∃a xs,x=.ref a∧bD K H a xs∧∀p,H p=none→Q (.ref p) (upd H p (.lst (A3 xs lo hi)))
theorem Bt:Zf X (WX X.K):=by
 intro pins s σ H x v vl vu lo hi sl Q I rx hs pl pu h
 obtain⟨a,xs,rfl,hx,q⟩:=h
 cases rx
 obtain⟨its,r,ht,hz⟩:=I.list hx
 have hlen:=r.length
 refine⟨"list",_,slot_list_getitem.lookup,ht.isList.typeIs,?_⟩
 refine wpAny_getItem_list_slice ht.isList hs pl pu .none (by simp) ?_ (by rw[aav]<;>omega)
 rw[DB,←hlen]
 refine⟨.ref s.heap.objs.size,_,I.laid (t':=s.toks) (o:=.lst (A3 xs lo hi)) (fun b ob q=>D8 _ q) (D9 _) ?_,rfl,q _ (I.hok.fresh (D9 _))⟩
 exact⟨aaD (Ho xs lo hi) hz,_,0,(r.drop (HT.Hj xs.length 0 lo)).take (HT.Hj xs.length xs.length hi-HT.Hj xs.length 0 lo),aaw _ rfl⟩
theorem a_:qD X (.builtin "len") (fun xs H Q=>∃p ys,xs=[.ref p]∧(bD X.K H p ys∨i6 X.K H p ys)∧Q (.int ys.length) H):=by
 intro pins s σ H xs us Q I r h
 obtain⟨p,ys,rfl,hq,q⟩:=h
 obtain⟨u,rfl,rx⟩:=vals1 r
 cases rx
 have hn:=B4
 rcases hq with hq |hq
 ·obtain⟨its,r',pl,hz⟩:=I.list hq
  have hlen:=r'.length
  exact Calls.call_len_list pl.isList (by simp only[aav]<;>omega) ⟨.int ys.length,H,I.tok _,⟨s.toks+1,by rw[aav,hlen]⟩,q⟩
 ·obtain⟨its,r',pl,hz⟩:=I.tuple hq
  have hlen:=r'.length
  exact len_tuple pl (by simp only[aav]<;>omega) ⟨.int ys.length,H,I.tok _,⟨s.toks+1,by rw[aav,hlen]⟩,q⟩
theorem FI:qD X (.type "list") (fun xs H Q=>∃p ys,xs=[.ref p]∧(bD X.K H p ys∨i6 X.K H p ys)∧∀l,H l=none→Q (.ref l) (upd H l (.lst ys))):=by
 intro pins s σ H xs us Q I r h
 obtain⟨p,ys,rfl,hq,q⟩:=h
 obtain⟨u,rfl,rx⟩:=vals1 r
 cases rx
 have fin:∀(its:List Value),Vals ys its→ys.length≤sizeLine→∀(h':Heap) (c':Nat),(∀b o',s.heap.get? b=some o'→h'.get? b=some o')→
  h'.get? s.heap.objs.size=some {cls:=.type "list",dict:=none,data:=.seq its.toArray c',slots:=#[]}→EP X pins σ Q (.ref s.heap.objs.size) {s with heap:=h'}:=fun its r' hz h' c' kp e=>
  ⟨.ref s.heap.objs.size,_,I.laid (t':=s.toks) kp (D9 _) (show ff X.prog X.w _ h' _ (.lst ys)from⟨hz,its,c',r',e⟩),rfl,q _ (I.hok.fresh (D9 _))⟩
 rcases hq with hq |hq
 ·obtain⟨its,r',pl,hz⟩:=I.list hq
  have hlen:=r'.length
  obtain⟨o,ho,hc,n,hd⟩:=pl.isList
  exact call_list_seq p (.inl rfl) ho hc hd (fun h' c' kp e=>fin its r' hz h' c' kp e) (by simp only[aav]<;>omega)
 ·obtain⟨its,r',pl,hz⟩:=I.tuple hq
  have hlen:=r'.length
  obtain⟨o,ho,hc,n,hd⟩:=pl
  exact call_list_seq p (.inr rfl) ho hc hd (fun h' c' kp e=>fin its r' hz h' c' kp e) (by simp only[aav]<;>omega)
def Zh(K:W.Frag)(T:String)(x:V)(H:Hp):Prop:=match x with
 | .str _=>T="str"
 | .int _=>T="int"
 | .ref p=>(T="list"∧∃xs,bD K H p xs)∨(T="tuple"∧∃o,K.lookup p=some o∧o.cls=.type "tuple"∧o.dict=none)∨
    (T="dict"∧((∃kvs,H p=some (.dK kvs))∨∃kvs,H p=some (.dT kvs)))∨(T="set"∧∃S n,H p=some (.set S n))
 |_=>False
theorem Rj{pins:List (Addr×Obj)}{σ:St}{H:Hp}{s:Shared}{T:String}{x:V}{v:Value}(I:Inv X pins σ H s)(r:RelV x v)(ty:Zh X.K T x H):s.TypeIs v T∧∀a,v=.ref a→∃ob,s.heap.get? a=some ob∧ob.dict=none:=by
 cases x with
 |str z=>
  obtain⟨t,rfl⟩:=r
  cases(show T="str" from ty)
  exact⟨typeIs_str s z t,fun _ e=>nomatch e⟩
 |int i=>
  obtain⟨t,rfl⟩:=r
  cases(show T="int" from ty)
  exact⟨typeIs_int s i t,fun _ e=>nomatch e⟩
 |ref p=>
  cases r
  rcases ty with⟨rfl,xs,hq⟩ |⟨rfl,o,hk,hc,hd⟩ |⟨rfl,hk⟩ |⟨rfl,S,n,hk⟩
  ·obtain⟨its,_,pl,_⟩:=I.list hq
   refine⟨pl.isList.typeIs,fun a e=>?_⟩
   cases e
   obtain⟨o,n,e,c,hd,_⟩:=pl
   exact⟨o,e,hd⟩
  ·refine⟨⟨o,I.IG p o hk,hc⟩,fun a e=>?_⟩
   cases e
   exact⟨o,I.IG _ o hk,hd⟩
  ·have z:∃o,s.heap.get? p=some o∧o.ExactDict:=by
    rcases hk with⟨kvs,hk⟩ |⟨kvs,hk⟩
    ·obtain⟨_,_,_,_,o,_,_,e,ex,_⟩:=I.hok p _ hk
     exact⟨o,e,ex⟩
    ·obtain⟨_,_,_,_,o,_,_,e,ex,_⟩:=I.hok p _ hk
     exact⟨o,e,ex⟩
   obtain⟨o,e,ex⟩:=z
   refine⟨⟨o,e,ex.1⟩,fun a e2=>?_⟩
   cases e2
   exact⟨o,e,ex.2.1⟩
  ·obtain⟨o,_,_,_,e,ex,_⟩:=I.hok p _ hk
   refine⟨⟨o,e,ex.1⟩,fun a e2=>?_⟩
   cases e2
   exact⟨o,e,ex.2.1⟩
 |_=>exact False.elim ty
def tBM(K:W.Frag)(T:String)(r:V→List V→Hp→VK→Prop)(to:TE)(t:TA):TE:=fun σ H Q=>to σ H fun x H1=>Zh K T x H1∧t σ H1 fun xs H2=>r x xs H2 Q
variable{o e:Expr}{es:List Expr}{to:TE}{t:TA}{name:Str}{apos cpos:Pos}{T id:String}{r:V→List V→Hp→VK→Prop}
theorem su(pa:PlainAttrs T)(slot:Slot T name id)(hty:typeOf (.builtin id)=pure (.type "method_descriptor"))(hm:MtR X id r)(ho:PE X o to)(ha:PA X (e::es) t)(hbase:attributeBase o name X.env (eval o X.env)=eval o X.env:=by rfl)(hfew:((backTo cpos (starEach (e::es) X.env)).all (fun x=> !x.1)&&(backToKw cpos (keywordEach [] X.env)).all (fun x=>x.1.isSome)&&decide ((e::es).length+([]:List Keyword).length+(if([]:List Keyword).isEmpty then 0 else 1)<30))=true:=by rfl)(hline:(apos.endLine==cpos.line)=true:=by rfl)(hs:starEach (e::es) X.env=(false,eval e X.env)::starEach es X.env:=by rfl)(hplain:(backTo cpos (starEach es X.env)).any (·.1)=false:=by rfl):PE X (.Call (.Attribute o name apos) (e::es) [] cpos) (tBM X.K T r to t):=by
 intro pins s σ H Q I h
 refine wpAny_Call_method_late hbase hfew hline rfl (dX (ho pins s σ H _ I h) fun v s1 ⟨x,H1,I1,r1,ty,q1⟩=>?_)
 obtain⟨h1,h2⟩:=Rj I1 r1 ty
 refine⟨T,id,pa,slot,hty,h1,h2,?_⟩
 have hA:=ha cpos pins s1 σ H1 _ I1 q1
 rw[hs]at hA⊢
 refine Calls.callWith_builtin (by show(false||(backTo cpos (starEach es X.env)).any (·.1))=false;rw[hplain]<;>rfl) (Calls.evalArgs_plain ?_)
 exact dX hA fun us s2 ⟨vs,H2,I2,r2,q2⟩=>hm pins s2 σ H2 x vs v us Q I2 r1 r2 q2
end
end L2
namespace L2
open PySem PySem.Spec PyProof.Rows
def Zi(X:Cx)(id:String)(r:V→List V→Hp→VK→Prop):Prop:=
 ∀(pins:List (Addr×Obj)) (s:Shared) (σ:St) (H:Hp) (x:V) (xs:List V) (v:Value) (us:List Value) (Q:VK),Inv X pins σ H s→RelV x v→Vals xs us→r x xs H Q→
  wpAny (model X.prog X.w) X.A (call (.builtin id) (v::us)) (EP X pins σ Q) X.xe s
theorem Vals.one:∀{x:V} {us:List Value},Vals [x] us→∃u,us=[u]∧RelV x u
 |_,_,.cons r .nil=>⟨_,rfl,r⟩
theorem Vals.rep{xs:List V}{us:List Value}(h:Vals xs us):∀k:Nat,Vals (List.replicate k xs).flatten (List.replicate k us).flatten
 |0=>.nil
 |k+1=>by
  rw[aa9,aa9,abB,abB]
  exact Vals.append h (Vals.rep h k)
theorem foldl_rep(its:List Value):∀(k:Nat) (acc:List Value),List.foldl (fun x1 x2=>x1++x2) acc.toArray (List.replicate k its.toArray)=(acc++(List.replicate k its).flatten).toArray
 |0,acc=>by simp
 |k+1,acc=>by
  have e:acc.toArray++its.toArray=(acc++its).toArray:=by simp
  have e2:(acc++its)++(List.replicate k its).flatten=acc++(List.replicate (k+1) its).flatten:=by
   rw[aa9,abB,ack]
  rw[←e2,←foldl_rep its k (acc++its),←e,aa9,List.foldl_cons]
section
variable{X:Cx}{pins:List (Addr×Obj)}{σ:St}{H:Hp}{s:Shared}{l b:Addr}{xs ys zs:List V}
theorem Inv.Ut{its its':List Value}{n:Nat}{f:Array Value→Array Value}{t':Nat}(I:Inv X pins σ H s)(hH:H l=some (.lst xs))(e:s.heap.get? l=some {cls:=.type "list",data:=.seq its.toArray n})(hf:f its.toArray=its'.toArray)(hv:Vals ys its')(hz:ys.length≤sizeLine):Inv X pins σ (upd H l (.lst ys)) {s with heap:=s.heap.update l (Obj.mapSeq f),toks:=t'}:=by
 have q:=PySem.IsL.update e f
 rw[hf]at q
 refine I.write (x:=l) (e:=l) (by rw[hH];exact trivial) (.inl rfl) (fun b' u hb hu=>(Heap.get?_update_other s.heap (Obj.mapSeq f) (acn hb)).trans hu) ⟨_,q⟩ ?_
 exact⟨hz,its',_,hv,q⟩
theorem Inv.Uu{its:List Value}{t':Nat}(I:Inv X pins σ H s)(hv:Vals ys its)(hz:ys.length≤sizeLine):Inv X pins σ (upd H s.heap.objs.size (.lst ys)) {s with heap:=s.heap.push {cls:=.type "list",data:=.seq its.toArray},toks:=t'}:=
 I.laid (fun _ _ q=>D8 _ q) (D9 _) ⟨hz,its,0,hv,aaw _ rfl⟩
theorem Inv.fresh(I:Inv X pins σ H s):H s.heap.objs.size=none:=I.hok.fresh (D9 _)
theorem Inv.LG(I:Inv X pins σ H s)(hH:H l=some (.lst xs)):xs.length≤sizeLine∧∃(its:List Value) (n:Nat),Vals xs its∧xs.length=its.length∧s.heap.get? l=some {cls:=.type "list",data:=.seq its.toArray n}:=by
 obtain⟨z,its,n,r,e⟩:=I.hok l _ hH
 exact⟨z,its,n,r,r.length,e⟩
theorem Hq{n:Nat}(h:n≤sizeLine):Builtin.List.listTooLong n=false:=by
 unfold Builtin.List.listTooLong
 exact aa7 (by omega)
end
section
variable{X:Cx}
inductive XAp(x:V)(vs:List V)(H:Hp)(Q:VK):Prop
 |mk (l:Addr) (xs:List V) (y:V) (e:x=.ref l) (e':vs=[y]) (h:H l=some (.lst xs)) (b:xs.length<sizeLine) (k:Q .lJ (upd H l (.lst (xs++[y]))))
def OU:V→List V→Hp→VK→Prop:=XAp
theorem jm:Zi X "list.append" OU:=by
 intro pins s σ H x vs v us Q I rx rv h
 obtain⟨l,xs,y,rfl,rfl,hH,hz,q⟩:=h
 cases rx
 obtain⟨u,rfl,ru⟩:=rv.one
 obtain⟨z,its,n,r,hl,e⟩:=I.LG hH
 refine acr F.slot_list_append ⟨_,e,rfl⟩ F.entry_list_append (F.args_list_append_2 _ _) (PySem.list_append l its.toArray n u (by rw[aav];omega)) ⟨e,?_⟩
 refine⟨.lJ,_,I.Ut (its':=its++[u]) hH e (by simp) (r.append (.cons ru .nil)) ?_,rfl,q⟩
 rw[aat,List.length_singleton]
 omega
def OV:V→List V→Hp→VK→Prop:=fun x vs H Q=>∃l b xs zs,x=.ref l∧vs=[.ref b]∧H l=some (.lst xs)∧H b=some (.lst zs)∧xs.length+zs.length≤sizeLine∧Q .lJ (upd H l (.lst (xs++zs)))
theorem vt:Zi X "list.extend" OV:=by
 intro pins s σ H x vs v us Q I rx rv h
 obtain⟨l,b,xs,zs,rfl,rfl,hH,hB,hz,q⟩:=h
 cases rx
 obtain⟨u,rfl,ru⟩:=rv.one
 cases ru
 obtain⟨z,its,n,r,hl,e⟩:=I.LG hH
 obtain⟨z2,its2,n2,r2,hl2,e2⟩:=I.LG hB
 have hsz:its.toArray.size+its2.toArray.size≤sizeLine:=by rw[aav,aav];omega
 have M8:¬(!its.toArray.isEmpty&&Builtin.List.listTooLong (its.toArray.size+its2.toArray.size))=true:=by
  rw[Hq hsz,Bool.and_false]
  exact aay
 refine acr F.slot_list_extend ⟨_,e,rfl⟩ F.entry_list_extend (F.args_list_extend_2 _ _)
  (AutoSeq1.list_extend_list_list_0 l its.toArray n b its2.toArray n2 M8 (by rw[aav];omega) (by omega)) ⟨e,e2,?_⟩
 refine⟨.lJ,_,I.Ut (its':=its++its2) hH e (by simp) (r.append r2) ?_,rfl,q⟩
 rw[aat]
 omega
def Uv:R2:=fun x y H Q=>∃l b xs zs,x=.ref l∧y=.ref b∧H l=some (.lst xs)∧H b=some (.lst zs)∧xs.length+zs.length≤sizeLine∧∀p,H p=none→Q (.ref p) (upd H p (.lst (xs++zs)))
theorem l7:Bq X (binaryOp .Add) Uv:=by
 intro pins s σ H x y v u Q I rx ry h
 obtain⟨l,b,xs,zs,rfl,rfl,hH,hB,hz,q⟩:=h
 cases rx
 cases ry
 obtain⟨z,its,n,r,hl,e⟩:=I.LG hH
 obtain⟨z2,its2,n2,r2,hl2,e2⟩:=I.LG hB
 refine PySem.P.add_list e e2 ?_ (by rw[aav,aav];omega)
 have ea:its.toArray++its2.toArray=(its++its2).toArray:=by simp
 rw[ea]
 exact⟨.ref _,_,I.Uu (t':=s.toks) (r.append r2) (by rw[aat];omega),rfl,q _ I.fresh⟩
def WY:R2:=fun x y H Q=>∃l k xs,x=.ref l∧y=.int k∧H l=some (.lst xs)∧-(2^63)≤k∧k<2^63∧xs.length*k.toNat≤sizeLine∧
 ∀p,H p=none→Q (.ref p) (upd H p (.lst (List.replicate k.toNat xs).flatten))
theorem len_rep{α:Type}(xs:List α)(k:Nat):(List.replicate k xs).flatten.length=k*xs.length:=by
 induction k with
 |zero=>simp
 |succ k ih=>rw[aa9,abB,aat,ih,Nat.succ_mul,Nat.add_comm]
theorem M9:Bq X (binaryOp .Mult) WY:=by
 intro pins s σ H x y v u Q I rx ry h
 obtain⟨l,k,xs,rfl,rfl,hH,h1,h2,hz,q⟩:=h
 cases rx
 obtain⟨t,rfl⟩:=ry
 obtain⟨z,its,n,r,hl,e⟩:=I.LG hH
 have hlen:its.toArray.size*k.toNat≤sizeLine:=by rw[aav,←hl];exact hz
 have hcap:¬its.toArray.size*k.toNat>(2^63-1)/8:=by
  have:(sizeLine:Nat)≤(2^63-1)/8:=by decide
  omega
 have hfit:¬(!Builtin.List.listFitsIndex k)=true:=by
  rw[fitsIndex_both h1 h2]
  exact aay
 have M8:¬Builtin.List.listTooLong (its.toArray.size*k.toNat)=true:=by
  rw[Hq hlen]
  exact aay
 have hnew:List.foldl (fun x1 x2=>x1++x2) #[] (List.replicate (if its.toArray.isEmpty=true then 0 else k.toNat) its.toArray)=(List.replicate k.toNat its).flatten.toArray:=by
  have f0:∀m:Nat,List.foldl (fun x1 x2=>x1++x2) #[] (List.replicate m its.toArray)=(List.replicate m its).flatten.toArray:=fun m=>by
   have:=foldl_rep its m []
   rw[List.nil_append]at this
   exact this
  rw[f0]
  cases its with
  |nil=>simp
  |cons a r'=>rw[D6 (by simp)]
 refine wpAny_binaryOp_repeat_ref (T:="list") (U:="int") (by decide) ⟨_,e,rfl⟩ (fun s'=>typeIs_int s' k t) noFill_list_mul F.fills_int_mul F.slot_int_rmul repeat_list F.slot_int_index.lookup
  (acr F.slot_int_rmul (typeIs_int s k t) F.entry_int_rmul (F.args_int_rmul_2 _ _) (int___rmul___int_list k t l its.toArray n) ⟨e,rfl,⟨_,e,rfl⟩,acr F.slot_list_mul ⟨_,e,rfl⟩ F.entry_list_mul (F.args_list_mul_2 _ _) (AutoListH.list___mul___list_int_3 l its.toArray n k t hfit hcap M8) ⟨e,?_⟩⟩)
 rw[hnew]
 exact⟨.ref _,_,I.Uu (t':=s.toks) (r.rep k.toNat) (by rw[len_rep,Nat.mul_comm];exact hz),rfl,q _ I.fresh⟩
end
section
variable{prog:Program}{w:World}{A:Around}{E:Value→Shared→Prop}{s:Shared}
end
section
variable{X:Cx}
end
end L2
namespace L2
open PySem PySem.Spec PyProof.Rows
theorem Vals.ints:∀{ns:List Int} {us:List Value},Vals (ns.map V.int) us→IntsAre us ns
 |[],us,h=>by
  rw[List.map_nil]at h
  cases h
  exact IntsAre.nil
 |n::ns,us,h=>by
  rw[aaJ]at h
  cases h with
  |cons r t=>
   obtain⟨k,rfl⟩:=r
   exact IntsAre.cons n k (Vals.ints t)
theorem yy:∀{us:List Value} {ns:List Int},IntsAre us ns→Vals (ns.map V.int) us
 |_,_,.nil=>by rw[List.map_nil];exact Paired.nil
 |_,_,.cons n t h=>by rw[aaJ];exact Paired.cons (show RelV (V.int n) (Value.int n t)from⟨t,rfl⟩) (yy h)
theorem Vals.WZ:∀{bs:List Bool} {us:List Value},Vals (bs.map V.bl) us→us=bs.map Value.bool
 |[],us,h=>by
  rw[List.map_nil]at h
  cases h
  rfl
 |b::bs,us,h=>by
  rw[aaJ]at h
  cases h with
  |cons r t=>
   cases r
   rw[Vals.WZ t,aaJ]
theorem Vals.Rk{a:Addr}{us:List Value}(r:Vals [V.ref a] us):us=[Value.ref a]:=by
 cases r with
 |cons r t=>
  cases t
  cases r
  rfl
section
variable{prog:Program}{w:World}{A:Around}{E:Value→Shared→Prop}{s:Shared}{l:Addr}{its:List Value}{ns:List Int}{Q:Value→Shared→Prop}
theorem OW(hh:A.handled=none)(hl:s.heap.IsList l its.toArray)(hi:IntsAre its ns)(h:∀h' tk t',(∀b o,s.heap.get? b=some o→h'.get? b=some o)→Q (.int ns.sum t') {s with heap:=h',toks:=tk}):wpAny (model prog w) A (call (.builtin "sum") [.ref l]) Q E s:=by
 obtain⟨xs,e⟩:=hi.allInts.items
 have hn:numsOf (intItems xs).toList=ns:=by rw[←e];exact hi.numsOf
 rw[nums_intItems]at hn
 rw[e]at hl
 refine PySem.sum_intListG hh hl fun h' tk t' hk=>?_
 have:=h h' tk t' hk
 rw[preSum_eq,abp (by simp),hn];exact this
end
section
variable{X:Cx}
def W0(K:W.Frag):List V→Hp→VK→Prop:=fun vs H Q=>∃(a:Addr) (ns:List Int),vs=[V.ref a]∧bD K H a (ns.map V.int)∧Q (.int ns.sum) H
theorem wZ(hc:X.calm=true):qD X (.builtin "sum") (W0 X.K):=by
 intro pins s σ H vs us Q I r h
 obtain⟨a,ns,rfl,hs,q⟩:=h
 obtain⟨its,rv,hl,_⟩:=I.list hs
 rw[Vals.Rk r]
 exact OW (I.ok.hd hc) hl.isList rv.ints fun h' tk t' hk=>⟨.int _,H,I.kept hk,⟨_,rfl⟩,q⟩
end
section
variable{X:Cx}
end
section
variable{X:Cx}
end
theorem Hr{prog:Program}{w:World}{A:Around}{E:Value→Shared→Prop}{s:Shared}{l:Addr}{items:Array Value}{Q:Value→Shared→Prop}(hl:s.heap.IsList l items)(h:∀s₂:Shared,s₂={s with heap:=s.heap.push {cls:=.type "list_iterator",data:=.fields #[.ref l,.int 0 0]} }→(s₂.heap.IsListIter s.heap.objs.size l 0∧s₂.heap.IsList l items)→l≠s.heap.objs.size→Q (.ref s.heap.objs.size) s₂):wpAny (model prog w) A (pyIter (.ref l)) Q E s:=by
 have hlt:l<s.heap.objs.size:=by obtain⟨_,e,_⟩:=hl;exact aaq e
 exact acm hl (h _ rfl ⟨⟨_,aaw _ rfl,rfl,rfl⟩,hl.push _⟩ (aaI hlt))
theorem AJ{prog:Program}{w:World}{A:Around}{bs:List Bool}{its:List Value}(e:its=bs.map Value.bool):TruthOf prog w A (fun i v=>its.toArray[i]?=some v) (fun i=>bs.getD i false):=fun i v s Q E hv hq=>by
 have hv':its[i]?=some v:=by simpa using hv
 rw[e,HD]at hv'
 obtain⟨b,hb,rfl⟩:=Option.map_eq_some_iff.mp hv'
 have hg:bs.getD i false=b:=by rw[abH,hb]<;>rfl
 have hq':Q (bs.getD i false) s:=hq
 rw[hg]at hq'
 exact abA hq'
theorem any_range:∀bs:List Bool,(List.range bs.length).any (fun i=>bs.getD i false)=bs.any id
 |[]=>rfl
 |b::bs=>by
  rw[aax,List.range_succ_eq_map,List.any_cons,acE,List.any_cons,←any_range bs]
  all_goals rfl
theorem all_range:∀bs:List Bool,(List.range bs.length).all (fun i=>bs.getD i false)=bs.all id
 |[]=>rfl
 |b::bs=>by
  rw[aax,List.range_succ_eq_map,List.all_cons,List.all_map,List.all_cons,←all_range bs]
  all_goals rfl
section
variable{X:Cx}
def W2(K:W.Frag):List V→Hp→VK→Prop:=fun vs H Q=>∃(a:Addr) (bs:List Bool),vs=[V.ref a]∧bD K H a (bs.map V.bl)∧Q (.bl (bs.any id)) H
def W3(K:W.Frag):List V→Hp→VK→Prop:=fun vs H Q=>∃(a:Addr) (bs:List Bool),vs=[V.ref a]∧bD K H a (bs.map V.bl)∧Q (.bl (bs.all id)) H
theorem Jr(hc:X.calm=true):qD X (.builtin "any") (W2 X.K):=by
 intro pins s σ H vs us Q I r h
 obtain⟨a,bs,rfl,hs,q⟩:=h
 obtain⟨its,rv,hl,_⟩:=I.list hs
 rw[Vals.Rk r]
 have hb:=rv.WZ
 refine call_any_walk (Hr hl.isList fun s₂ e2 st hne=>?_)
 subst e2
 refine⟨_,_,_,_,_,_,_,rfl,Walks.list (A:=X.A.in1) (I.ok.hd hc) _ a hne its.toArray,st,AJ hb,fun h' tk hk=>?_⟩
 refine⟨.bl _,H,I.kept fun b o eo=>hk b o (fun hmem=>?_) (D8 _ eo),?_,q⟩
 ·rcases aas.mp hmem with e1 |hmem
  ·exact absurd (e1▸aaq eo) (abc _)
  ·cases hmem
 ·show Value.bool _=Value.bool _
  rw[←any_range,hb,aav,DS]
theorem Rl(hc:X.calm=true):qD X (.builtin "all") (W3 X.K):=by
 intro pins s σ H vs us Q I r h
 obtain⟨a,bs,rfl,hs,q⟩:=h
 obtain⟨its,rv,hl,_⟩:=I.list hs
 rw[Vals.Rk r]
 have hb:=rv.WZ
 refine call_all_walk (Hr hl.isList fun s₂ e2 st hne=>?_)
 subst e2
 refine⟨_,_,_,_,_,_,_,rfl,Walks.list (A:=X.A.in1) (I.ok.hd hc) _ a hne its.toArray,st,AJ hb,fun h' tk hk=>?_⟩
 refine⟨.bl _,H,I.kept fun b o eo=>hk b o (fun hmem=>?_) (D8 _ eo),?_,q⟩
 ·rcases aas.mp hmem with e1 |hmem
  ·exact absurd (e1▸aaq eo) (abc _)
  ·cases hmem
 ·show Value.bool _=Value.bool _
  rw[←all_range,hb,aav,DS]
end
section
variable{X:Cx}{pins:List (Addr×Obj)}{σ:St}{H:Hp}{s:Shared}
end
section
variable{X:Cx}
end
end L2
namespace L2
open PySem PySem.Spec PyProof.Rows
abbrev M_(h:Heap)(c:Addr)(v:Option Value):Prop:=h.IsCell c v
def W4(scope sc:Scope):Scope:=
 {scope with names:=scope.names.map fun(n,k)=>if(k== .free&&sc.kind== .function&&sc.names.lookup n==some .cell)then(n,.cell)else(n,k)}
def dJ(cells:List (Str×Addr)):List (Str×NameKind)→List (Str×Addr)→List (Str×Addr)
 |[],acc=>acc
 |(n,k)::r,acc=>if k== .free then dJ cells r ((n,(cells.lookup n).getD 0)::acc)else dJ cells r acc
theorem yz(env:Env)(f:Str×NameKind→List (Str×Addr)→Sem (ForInStep (List (Str×Addr))))(hf:∀n k c,f (n,k) c=if k== .free then(do let a ←cellOf env n;pure (.yield ((n,a)::c)))else pure (.yield c)):
 ∀(names:List (Str×NameKind)) (acc:List (Str×Addr)),(∀y∈names,y.2=.free→∃c,env.cells.lookup y.1=some c)→forIn names acc f=pure (dJ env.cells names acc)
 |[],acc,_=>by rw[acG];rfl
 |(n,k)::r,acc,h=>by
  rw[List.forIn_cons,hf]
  have ih:=fun acc=>yz env f hf r acc fun y hy=>h y (aap _ hy)
  unfold dJ
  by_cases hk:(k==NameKind.free)=true
  ·rw[D7 hk,D7 hk]
   obtain⟨c,hc⟩:=h (n,k) aau (by simpa using hk)
   have e:cellOf env n=pure c:=by unfold cellOf;rw[hc]
   rw[e]
   have e2:(env.cells.lookup n).getD 0=c:=by rw[hc];rfl
   rw[e2]
   exact ih _
  ·rw[D6 hk,D6 hk]
   exact ih _
theorem Js{scope:Scope}{env:Env}(h:∀y∈scope.names,y.2=.free→∃c,env.cells.lookup y.1=some c):closureFor scope env=pure (dJ env.cells scope.names []):=by
 simp only[closureFor]
 rw[yz env _ (fun n k c=>rfl) scope.names [] h]
 rfl
theorem mem_lookup{α:Type}:∀{l:List (Str×α)} {n:Str} {c:α},(n,c)∈l→∃c',l.lookup n=some c'
 |(k,v)::r,n,c,h=>by
  rw[abU]
  cases hb:n==k with
  |true=>exact⟨_,rfl⟩
  |false=>
   rcases aas.mp h with e |h
   ·cases e;simp at hb
   ·exact mem_lookup h
theorem oR{cells:List (Str×Addr)}:∀{names:List (Str×NameKind)} {acc:List (Str×Addr)} {n:Str} {c:Addr},(n,c)∈dJ cells names acc→(n,c)∈acc∨((n,.free)∈names∧c=(cells.lookup n).getD 0)
 |[],_,_,_,h=>.inl h
 |(m,k)::r,acc,n,c,h=>by
  unfold dJ at h
  split at h
  ·rename_i hk
   have hk:k=.free:=by simpa using hk
   rcases oR h with h |⟨h1,h2⟩
   ·rcases aas.mp h with e |h
    ·cases e;exact .inr ⟨hk▸aau,rfl⟩
    ·exact .inl h
   ·exact .inr ⟨aap _ h1,h2⟩
  ·rcases oR h with h |⟨h1,h2⟩
   ·exact .inl h
   ·exact .inr ⟨aap _ h1,h2⟩
theorem tX{cells:List (Str×Addr)}:∀{names:List (Str×NameKind)} {acc:List (Str×Addr)} {p:Str×Addr},p∈acc→p∈dJ cells names acc
 |[],_,_,h=>h
 |(m,k)::r,acc,p,h=>by
  unfold dJ
  split
  ·exact tX (aap _ h)
  ·exact tX h
theorem tY{cells:List (Str×Addr)}:∀{names:List (Str×NameKind)} {acc:List (Str×Addr)} {n:Str},(n,.free)∈names→(n,(cells.lookup n).getD 0)∈dJ cells names acc
 |(m,k)::r,acc,n,h=>by
  unfold dJ
  rcases aas.mp h with e |h
  ·cases e
   exact tX aau
  ·split
   ·exact tY h
   ·exact tY h
theorem qE:∀{names:List (Str×NameKind)} {h:Heap} {acc:List (Str×Addr)} {x:Str} {c:Addr},(x,c)∈cellsFrom h.objs.size names acc→(x,c)∈acc∨((x,.cell)∈names∧h.objs.size≤c∧M_ (pushCells h names) c none)
 |[],_,_,_,_,h=>.inl h
 |(n,k)::r,h,acc,x,c,hm=>by
  unfold cellsFrom at hm
  unfold pushCells
  split at hm
  ·rename_i hk
   rw[D7 hk]
   have hk:k=.cell:=by simpa using hk
   rw[←aaZ h {cls:=.type "cell",data:=.cell none}]at hm
   rcases qE hm with hm |⟨h1,h2,h3⟩
   ·rcases aas.mp hm with e |hm
    ·cases e
     exact .inr ⟨hk▸aau,D9 _,_,pushCells_keeps r _ _ _ (aaw _ rfl),rfl⟩
    ·exact .inl hm
   ·rw[aaZ]at h2
    exact .inr ⟨aap _ h1,acJ h2,h3⟩
  ·rename_i hk
   rw[D6 hk]
   rcases qE hm with hm |⟨h1,h2,h3⟩
   ·exact .inl hm
   ·exact .inr ⟨aap _ h1,h2,h3⟩
theorem vv:∀{names:List (Str×NameKind)} {n:Nat} {acc:List (Str×Addr)} {p:Str×Addr},p∈acc→p∈cellsFrom n names acc
 |[],_,_,_,h=>h
 |(m,k)::r,n,acc,p,h=>by
  unfold cellsFrom
  split
  ·exact vv (aap _ h)
  ·exact vv h
theorem zU:∀{names:List (Str×NameKind)} {n:Nat} {acc:List (Str×Addr)} {x:Str},(x,.cell)∈names→∃c,(x,c)∈cellsFrom n names acc
 |(m,k)::r,n,acc,x,h=>by
  unfold cellsFrom
  rcases aas.mp h with e |h
  ·cases e
   exact⟨n,vv aau⟩
  ·split
   ·exact zU h
   ·exact zU h
theorem zV:∀{names:List (Str×NameKind)} {h:Heap} {acc:List (Str×Addr)} {x y:Str} {c:Addr},(∀p∈acc,p.2<h.objs.size)→(∀x y c,(x,c)∈acc→(y,c)∈acc→x=y)→(x,c)∈cellsFrom h.objs.size names acc→(y,c)∈cellsFrom h.objs.size names acc→x=y
 |[],_,_,_,_,_,_,hi,h1,h2=>hi _ _ _ h1 h2
 |(n,k)::r,h,acc,x,y,c,hl,hi,h1,h2=>by
  unfold cellsFrom at h1 h2
  split at h1
  ·rename_i hk
   rw[D7 hk]at h2
   rw[←aaZ h {cls:=.type "cell",data:=.cell none}]at h1 h2
   refine zV (h:=h.push _) (fun p hp=>?_) (fun x y c a b=>?_) h1 h2
   ·rw[aaZ]
    rcases aas.mp hp with rfl |hp
    ·exact Nat.lt_succ_self _
    ·exact Nat.lt_succ_of_lt (hl p hp)
   ·rcases aas.mp a with e |a<;>rcases aas.mp b with e' |b
    ·cases e;cases e';rfl
    ·cases e;exact absurd (hl _ b) (abc _)
    ·cases e';exact absurd (hl _ a) (abc _)
    ·exact hi _ _ _ a b
  ·rename_i hk
   rw[D6 hk]at h2
   exact zV hl hi h1 h2
theorem Hs{M:Model}{A:Around}{E:Value→Shared→Prop}{s:Shared}{scope:Scope}{globals:Addr}{closure:List (Str×Addr)}{qual:Str}{func:Option Addr}{code:Value}{around:Env}{builtins:Addr}{Q:Env→Shared→Prop}(h:Q (newEnv scope s.heap.objs.size globals (cellsFrom (s.heap.objs.size+1) scope.names closure) qual func code (some around) builtins) {s with heap:=pushCells (s.heap.push {cls:=.type "dict",data:=.dict #[]}) scope.names}):wpAny M A (newFunctionEnv scope globals closure [] qual func code (some around) builtins) Q E s:=by
 simp only[newFunctionEnv,Option.isSome_some,aa3]
 refine D4 (wpAny_alloc ?_)
 refine D4 (wpAny_layCells _ (fun n k c=>rfl) scope.names closure _ _ ?_)
 rw[show({s with heap:=s.heap.push {cls:=.type "dict",data:=.dict #[]} }:Shared).heap.objs.size=s.heap.objs.size+1 from aaZ ..]
 rw[acG]
 exact D4 (aan (aan h))
theorem tZ{sc:Scope}:∀{names:List (Str×NameKind)} {x:Str} {k:NameKind},(names.map fun(n,k)=>if(k==NameKind.free&&sc.kind== .function&&sc.names.lookup n==some .cell)then(n,NameKind.cell)else(n,k)).lookup x=some k→∃k',names.lookup x=some k'∧(k=k'∨(k'=.free∧k=.cell))
 |[],_,_,h=>by simp at h
 |(n,k₀)::r,x,k,h=>by
  have ih:=@tZ sc r x k
  have h':List.lookup x ((if(k₀==NameKind.free&&sc.kind== .function&&sc.names.lookup n==some .cell)=true then(n,NameKind.cell)else(n,k₀))::(r.map _))=some k:=h
  cases hx:x==n with
  |true=>
   simp only[abU,hx]
   by_cases hc:(k₀==NameKind.free&&sc.kind== .function&&sc.names.lookup n==some .cell)=true
   ·rw[D7 hc]at h'
    simp only[abU,hx]at h'
    cases h'
    simp only[aa1,abN]at hc
    exact⟨k₀,rfl,.inr ⟨hc.1.1,rfl⟩⟩
   ·rw[D6 hc]at h'
    simp only[abU,hx]at h'
    cases h'
    exact⟨_,rfl,.inl rfl⟩
  |false=>
   simp only[abU,hx]
   by_cases hc:(k₀==NameKind.free&&sc.kind== .function&&sc.names.lookup n==some .cell)=true
   ·rw[D7 hc]at h'
    simp only[abU,hx]at h'
    exact ih h'
   ·rw[D6 hc]at h'
    simp only[abU,hx]at h'
    exact ih h'
structure Ht(N:List Str)(sc scope:Scope)(own:List (Str×Nat)):Prop where
 kind:scope.kind=.function
 uniq:∀y∈scope.names,scope.names.lookup y.1=some y.2
 ix:∀p∈own,N[p.2]?=some p.1
 free:∀y∈scope.names,y.2=.free→sc.names.lookup y.1=some .cell∨sc.names.lookup y.1=some .free
 own:∀y∈scope.names,y.2=.local∨y.2=.cell→y.1∈own.map (·.1)∨y.1∉N
def wipe(σ:St):List Nat→St
 |[]=>σ
 |v::vs=>(wipe σ vs).set v none
theorem t6(σ:St):∀vs:List Nat,(wipe σ vs).length=σ.length
 |[]=>rfl
 |v::vs=>by unfold wipe;rw[ab0,t6 σ vs]
theorem zW{σ:St}{i:Nat}{x:V}:∀{vs:List Nat},(wipe σ vs)[i]?=some (some x)→σ[i]?=some (some x)∧i∉vs
 |[],h=>⟨h,by simp⟩
 |v::vs,h=>by
  unfold wipe at h
  by_cases hi:v=i
  ·subst hi
   by_cases hv:v<(wipe σ vs).length
   ·rw[abb hv]at h;cases h
   ·rw[aaP (by simpa using hv)]at h;cases h
  ·rw[aa' hi]at h
   obtain⟨h1,h2⟩:=zW h
   exact⟨h1,by simp only[aas,not_or];exact⟨fun e=>hi e.symm,h2⟩⟩
abbrev Cx.Bu(X:Cx)(s:Shared)(H:Hp)(scope:Scope)(cenv:Env)(fp:List Addr):Cx:={X with ED:=s,QZ:=H,env:=cenv,outer:=X.stack,ex:=fp,fn:=fun x=>scope.names.lookup x==some .cell,pn:=[],xe:=fun _ _=>False}
section
variable{X:Cx}{pins:List (Addr×Obj)}{σ:St}{H:Hp}{s:Shared}
theorem Hu{scope:Scope}{own:List (Str×Nat)}{fp:List Addr}(I:Inv X pins σ H s)(ok:Ht X.N X.env.scope scope own)(hN:X.N.Nodup)(hfp:∀b∈fp,A2 X pins H b∧b<s.heap.objs.size):Inv (X.Bu s H scope (compEnvC scope (cellsFrom (s.heap.objs.size+1) scope.names (dJ X.env.cells scope.names [])) s.heap.objs.size X.env) fp) [] (wipe σ (own.map (·.2))) H {s with heap:=pushCells (s.heap.push {cls:=.type "dict",data:=.dict #[]}) scope.names}:=by
 have hfree:∀y∈scope.names,y.2=.free→∃c,X.env.cells.lookup y.1=some c:=fun y hy e=>by
  rcases ok.free y hy e with k |k
  ·exact I.ok.has _ (.inl k)
  ·exact I.ok.has _ (.inr k)
 generalize Hv:compEnvC scope (cellsFrom (s.heap.objs.size+1) scope.names (dJ X.env.cells scope.names [])) s.heap.objs.size X.env=cenv
 have kp:∀b o,s.heap.get? b=some o→(pushCells (s.heap.push {cls:=.type "dict",data:=.dict #[]}) scope.names).get? b=some o:=fun b o e=>pushCells_keeps _ _ _ _ (D8 _ e)
 have hL:cenv.locals=s.heap.objs.size:=by rw[←Hv];rfl
 have hcl:cenv.cells=cellsFrom (s.heap.objs.size+1) scope.names (dJ X.env.cells scope.names []):=by rw[←Hv];rfl
 have hsc:cenv.scope=W4 scope X.env.scope:=by rw[←Hv];rfl
 rw[←aaZ s.heap {cls:=.type "dict",data:=.dict #[]}]at hcl
 have cm:∀{y c},(y,c)∈dJ X.env.cells scope.names []→X.env.cells.lookup y=some c∧c<s.heap.objs.size:=fun{y c} hm=>by
  rcases oR hm with hm |⟨h1,rfl⟩
  ·cases hm
  ·obtain⟨c,hc⟩:=hfree _ h1 rfl
   rw[hc]
   obtain⟨w,z⟩:=I.cell _ _ hc
   exact⟨rfl,z.lt⟩
 have mem:∀{y c},cenv.cells.lookup y=some c→(X.env.cells.lookup y=some c∧c<s.heap.objs.size)∨(s.heap.objs.size+1≤c∧M_ (pushCells (s.heap.push {cls:=.type "dict",data:=.dict #[]}) scope.names) c none):=fun{y c} e=>by
  rw[hcl]at e
  rcases qE (aaS e)with hm |⟨_,h2,h3⟩
  ·exact .inl (cm hm)
  ·rw[aaZ]at h2;exact .inr ⟨h2,h3⟩
 have look:∀{y},scope.names.lookup y=some .free→∃c,cenv.cells.lookup y=some c∧X.env.cells.lookup y=some c:=fun{y} hl=>by
  have hy:(y,NameKind.free)∈scope.names:=aaS hl
  obtain⟨c',e'⟩:=mem_lookup (vv (names:=scope.names) (n:=(s.heap.push {cls:=.type "dict",data:=.dict #[]}).objs.size) (tY (cells:=X.env.cells) (acc:=[]) hy))
  rw[←hcl]at e'
  refine⟨c',e',?_⟩
  rw[hcl]at e'
  rcases qE (aaS e')with hm |⟨h1,_,_⟩
  ·exact(cm hm).1
  ·have:=ok.uniq _ h1
   rw[hl]at this;cases this
 have okB:(X.Bu s H scope cenv fp).Ok:=by
  refine⟨I.ok.mod,by show cenv.scope.kind=_;rw[hsc];exact ok.kind,by show cenv.globals=_;rw[←Hv];exact I.ok.glob,by show cenv.builtins=_;rw[←Hv];exact I.ok.blt,by show s.heap.objs.size≤cenv.locals;rw[hL];exact D9 _,
   fun y z c e1 e2=>?_,fun y hy=>?_,fun y c z e=>?_,I.ok.hd,I.ok.frames,.inl rfl,fun b hb=>⟨?_,fun y c e z=>?_⟩,I.bs,aaD I.ok.MK I.sz,fun b o e hb=>?_,fun b hb z=>?_,I.stack,I.Kp⟩
  ·have e1:cenv.cells.lookup y=some c:=e1
   have e2:cenv.cells.lookup z=some c:=e2
   rw[hcl]at e1 e2
   refine zV (fun p hp=>?_) (fun y z c a b=>I.ok.inj y z c (cm a).1 (cm b).1) (aaS e1) (aaS e2)
   rw[aaZ]
   exact Nat.lt_succ_of_lt (cm (y:=p.1) (c:=p.2) hp).2
  ·show ∃c,cenv.cells.lookup y=some c
   have key:∀k,cenv.kindOf y=some k→(k=.cell∨k=.free)→∃c,cenv.cells.lookup y=some c:=fun k hk hk'=>by
    unfold Env.kindOf at hk
    rw[hsc]at hk
    obtain⟨k',e,r⟩:=tZ hk
    have:k'=.cell∨k'=.free:=by
     rcases r with rfl |⟨rfl,_⟩
     ·exact hk'
     ·exact .inr rfl
    rcases this with rfl |rfl
    ·obtain⟨c,hm⟩:=zU (n:=(s.heap.push {cls:=.type "dict",data:=.dict #[]}).objs.size) (acc:=dJ X.env.cells scope.names []) (aaS e)
     obtain⟨c',e'⟩:=mem_lookup hm
     exact⟨c',by rw[hcl];exact e'⟩
    ·obtain⟨c,h1,_⟩:=look e
     exact⟨c,h1⟩
   rcases hy with hy |hy
   ·exact key _ hy (.inl rfl)
   ·exact key _ hy (.inr rfl)
  ·have z:(scope.names.lookup y==some NameKind.cell)=true:=z
   have z:scope.names.lookup y=some .cell:=by simpa using z
   have e:cenv.cells.lookup y=some c:=e
   rw[hcl]at e
   rcases qE (aaS e)with hm |⟨_,h2,_⟩
   ·rcases oR hm with hm |⟨h1,_⟩
    ·cases hm
    ·have q:=ok.uniq _ h1
     rw[z]at q;cases q
   ·rw[aaZ]at h2
    exact acJ h2
  ·show b≠cenv.locals
   rw[hL];exact aaI (hfp b hb).2
  ·have e:cenv.cells.lookup y=some c:=e
   rcases mem e with⟨h1,_⟩ |⟨h1,_⟩
   ·exact(hfp b hb).1.2.2.2.2.1 y c h1 z
   ·have h2:s.heap.objs.size+1≤b:=by rw[←z];exact h1
    exact absurd (aaF (hfp b hb).2 (acJ h2)) (abc _)
  ·rcases(hfp b hb).1.2.2.2.1 with z |z
   ·exact I.ok.ML b o e z
   ·exact absurd (aaF (aaq e) (aaD I.ok.MK z)) (abc _)
  ·rcases aas.mp (I.Jd b z)with z |z
   ·exact(hfp b hb).1.2.1 z
   ·exact(hfp b hb).1.2.2.1 z
 refine⟨okB,rfl,I.bare,Un.kept kp,⟨fun _=>none,?_,fun i y av e1 e2 e3=>?_⟩,fun y c e=>?_,?_,fun y c e=>?_,fun p hp=>?_,I.hok.kept kp,by rw[t6];exact I.len⟩
 ·show Heap.Ns _ cenv.locals _
  rw[hL]
  exact Heap.Ns.keeps (Heap.Ns.new ..) fun b o e=>pushCells_keeps _ _ _ _ e
 ·obtain⟨e2,hne⟩:=zW e2
  have hfr:scope.names.lookup y=some .free∧(cenv.kindOf y=some .cell∨cenv.kindOf y=some .free):=by
   have key:∀k,cenv.scope.names.lookup y=some k→k=.local∨k=.cell∨k=.free→scope.names.lookup y=some .free∧(cenv.kindOf y=some .cell∨cenv.kindOf y=some .free):=fun k hk hk'=>by
    have hk0:=hk
    rw[hsc]at hk
    obtain⟨k',e,r⟩:=tZ hk
    have no:¬(k'=.local∨k'=.cell):=fun hh=>by
     rcases ok.own _ (aaS e) hh with e' |e'
     ·obtain⟨p,hp,hpy⟩:=aaE.mp e'
      have e3:=ok.ix p hp
      have:p.1=y:=hpy
      rw[this]at e3
      exact hne (aaE.mpr ⟨p,hp,BS hN e3 e1⟩)
     ·exact e' (aaB e1)
    rcases r with rfl |⟨rfl,rfl⟩
    ·rcases hk' with rfl |rfl |rfl
     ·exact absurd (.inl rfl) no
     ·exact absurd (.inr rfl) no
     ·exact⟨e,.inr hk0⟩
    ·exact⟨e,.inl hk0⟩
   have e3:Q0 cenv.scope y:=e3
   rcases e3 with e3 |e3 |e3
   ·exact key _ e3 (.inl rfl)
   ·exact key _ e3 (.inr (.inl rfl))
   ·exact key _ e3 (.inr (.inr rfl))
  obtain⟨m,hn,hl⟩:=I.loc
  have W5:Q0 X.env.scope y:=(ok.free _ (aaS hfr.1) rfl).elim (fun k=>.inr (.inl k)) (fun k=>.inr (.inr k))
  obtain⟨w,r,q⟩:=hl i y av e1 e2 W5
  refine⟨w,r,.inr ⟨hfr.2,?_⟩⟩
  obtain⟨c,h1,h2⟩:=look hfr.1
  rcases q with⟨k,_⟩ |⟨_,c',e',z⟩
  ·have k:X.env.scope.names.lookup y=some .local:=k
   rcases ok.free _ (aaS hfr.1) rfl with k' |k'<;>rw[show X.env.scope.names.lookup y=_ from k']at k<;>cases k
  ·rw[h2]at e';cases e'
   exact⟨c,h1,z.keeps kp⟩
 ·have e:cenv.cells.lookup y=some c:=e
  rcases mem e with⟨h1,_⟩ |⟨_,z⟩
  ·obtain⟨w,z⟩:=I.cell y c h1
   exact⟨w,z.keeps kp⟩
  ·exact⟨_,z⟩
 ·show H cenv.locals=none
  rw[hL];exact I.hok.fresh (D9 _)
 ·have e:cenv.cells.lookup y=some c:=e
  rcases mem e with⟨h1,_⟩ |⟨h1,_⟩
  ·exact I.qC y c h1
  ·exact I.hok.fresh (acJ h1)
 ·exact absurd (show p∈([]:List (Addr×Obj))++[]from hp) (by simp)
theorem Rm{E:Value→Shared→Prop}{D:Addr}{xs:List V}{y:V}{v:Value}{Q:Value→Shared→Prop}(I:Inv X pins σ H s)(hD:H D=some (.lst xs))(hz:xs.length<sizeLine)(r:RelV y v)(h:∀s',Inv X pins σ (upd H D (.lst (xs++[y]))) s'→Q .none s'):wpAny (model X.prog X.w) X.A (call (.builtin "list.append") [.ref D,v]) Q E s:=by
 obtain⟨hz',its,n,ri,e⟩:=I.hok D _ hD
 have hl:=ri.length
 refine append_at (hsz:=by rw[aav];omega) e fun h' sb ho'=>?_
 refine h {s with heap:=h'} (I.write (t':=s.toks) (by rw[hD];trivial) (.inl rfl) (fun b u hb q=>(sb.2 b hb).trans q) ⟨_,ho'⟩ ⟨by rw[aat];exact hz,its++[v],n+1,ri.append (.cons r .nil),?_⟩)
 rw[ho']
 simp
def Uw(X:Cx)(ifs:List Expr)(t:TT):Prop:=
 ∀(pins:List (Addr×Obj)) (s:Shared) (σ:St) (H:Hp) (Q:Bool→Hp→Prop),Inv X pins σ H s→t σ H Q→
  wpAny (model X.prog X.w) X.A (forIn ifs true fun c r=>if r=true then do let ok ←isTrue c X.env (eval c X.env);pure (ForInStep.yield ok)else pure (ForInStep.yield r)) (TP X pins σ Q) X.xe s
def W6:TT:=fun _ H Q=>Q true H
theorem jz:Uw X [] W6:=fun _ _ _ H _ I h=>wpAny_tests_nil ⟨H,I,h⟩
theorem Bv{c:Expr}{t:TT}(h:PT X c t):Uw X [c] t:=fun pins s σ H Q I hw=>wpAny_tests_one (h pins s σ H Q I hw)
end
theorem LH{α:Type}{t:Sem α}{Q Q':α→Shared→Prop}{M:Model}{A:Around}{E:Value→Shared→Prop}{s:Shared}(h:wpAny M A t Q (fun _ _=>False) s)(hQ:∀a s,Q a s→Q' a s):wpAny M A t Q' E s:=aby h hQ fun _ _ z=>False.elim z
theorem FJ{prog:Program}{w:World}{A:Around}{R:Result→Shared→Prop}{s:Shared}{elt target iter:Expr}{ifs:List Expr}{scope:Scope}{pos:Pos}{it acc:Value}{env:Env}(I:Nat→Shared→Prop)(turn:∀n s,I n s→wpAny (model prog w) A (pyNext it) (fun r s₁=>match r with
 |none=>R (.ok .next) s₁
 |some v=>wpAny (model prog w) A (letOwnedTupleGo target it v) (fun _ s₁'=>wpAny (model prog w) A (assign target env v) (fun _ s₂=>wpAny (model prog w) A (forIn ifs true fun c r=>if r=true then do let ok ←isTrue c env (eval c env);pure (ForInStep.yield ok)else pure (ForInStep.yield r)) (fun ok s₃=>if ok=true then wpAny (model prog w) A (eval elt env) (fun x s₄=>wpAny (model prog w) A (call (.builtin "list.append") [acc,x]) (fun _ s₅=>∃m,m<n∧I m s₅) (notedBy (model prog w) A env fun e s'=>R (.error e) s') s₄) (notedBy (model prog w) A env fun e s'=>R (.error e) s') s₃
   else ∃m,m<n∧I m s₃) (notedBy (model prog w) A env fun e s'=>R (.error e) s') s₂) (notedBy (model prog w) A env fun e s'=>R (.error e) s') s₁') (notedBy (model prog w) A env fun e s'=>R (.error e) s') s₁) (notedBy (model prog w) A env fun e s'=>R (.error e) s') s)
 (n:Nat) (h:I n s):
 codeAny (model prog w) A (.compLoop (.ListComp elt [⟨target,iter,ifs,0⟩] scope pos) 0 it acc env) R s:=by
 refine codeAny_loop rfl I (fun n s hI=>?_) n h
 show wpAny _ A ((compTurn (.ListComp elt [⟨target,iter,ifs,0⟩] scope pos) 0 it acc env).onRaise (fun x=>do noteFrame x env;theTreesLotGoes x)) _ _ s
 refine wpAny_noted ?_
 rw[compTurn_list]
 refine D4 (wpAny_standAt (D4 (aby (turn n s hI) (fun r s₁ h₁=>?_) fun _ _ h'=>h')))
 cases r with
 |none=>exact aan h₁
 |some v=>
  refine D4 (aby h₁ (fun _ s₁' h₁'=>?_) fun _ _ h'=>h')
  refine D4 (aby h₁' (fun _ s₂ h₂=>D4 (aby h₂ (fun ok s₃ h₃=>?_) fun _ _ h'=>h')) fun _ _ h'=>h')
  cases ok with
  |false=>exact aan ⟨rfl,h₃⟩
  |true=>
   exact D4 (D4 (aby h₃ (fun x s₄ h₄=>D4 (aby h₄ (fun _ s₅ h₅=>aan (aan ⟨rfl,h₅⟩)) fun _ _ h'=>h')) fun _ _ h'=>h'))
section
variable{X:Cx}
def Wa(wi:TI)(g:TG)(tt:TT)(te:TE)(vs:List Nat):TE:=fun σ H Q=>wi σ H fun J H1=>∀D,H1 D=none→∃W:Nat→Nat→Hp→Prop,(∃m,W 0 m (upd H1 D (.lst [])))∧∀i m H,W i m H→
 (J.stop i H∧Q (.ref D) H)∨(J.go i H∧∃Nx:Hp→Prop,(∀H',Nx H'→∃m',m'<m∧W (i+1) m' H')∧∀x H',J.MX i H x H'→g x (wipe σ vs) H' fun σ2 H2=>wipe σ2 vs=wipe σ vs∧tt σ2 H2 fun b H3=>if b=true then te σ2 H3 fun y H4=>∃acc,H4 D=some (.lst acc)∧acc.length<sizeLine∧Nx (upd H4 D (.lst (acc++[y])))else Nx H3)
theorem KC{pins:List (Addr×Obj)}{s:Shared}{σ:St}{H:Hp}{Q:VK}{elt tg iter:Expr}{ifs:List Expr}{scope:Scope}{own:List (Str×Nat)}{pos pos':Pos}{wi:TI}{g:TG}{tt:TT}{te:TE}{use:Option (Value→Sem Unit)}{Qf:Value→Shared→Prop}(hc:X.calm=true)(hN:X.N.Nodup)(I:Inv X pins σ H s)(hi:PI X tg iter wi)(ok:Ht X.N X.env.scope scope own)(hg:∀(s:Shared) (H:Hp) (C:Addr) (cl:List (Str×Addr)) (fp:List Addr),PG (X.Bu s H scope (compEnvC scope cl C X.env) fp) tg g)(ht:∀(s:Shared) (H:Hp) (C:Addr) (cl:List (Str×Addr)) (fp:List Addr),Uw (X.Bu s H scope (compEnvC scope cl C X.env) fp) ifs tt)(he:∀(s:Shared) (H:Hp) (C:Addr) (cl:List (Str×Addr)) (fp:List Addr),PE (X.Bu s H scope (compEnvC scope cl C X.env) fp) elt te)(hs:∀x,foldedSetIterable iter X.env x=pure x)(h:Wa wi g tt te (own.map (·.2)) σ H Q)(hRR:∀D C s' m H',Inv X pins σ H' s'→Q (.ref D) H'→s'.heap.Ns C m→A2 X pins H' C→compPost (model X.prog X.w) X.A X.xe use Qf (.ref D) C (.ok .next) s'):wpAny (model X.prog X.w) X.A (comprehension (.ListComp elt [⟨tg,iter,ifs,0⟩] scope pos) scope X.env pos' (newList []) false (eval iter X.env) use) Qf X.xe s:=by
 have hfree:∀y∈scope.names,y.2=.free→∃c,X.env.cells.lookup y.1=some c:=fun y hy e=>by
  rcases ok.free y hy e with k |k
  ·exact I.ok.has _ (.inl k)
  ·exact I.ok.has _ (.inr k)
 refine wpAny_comprehension_free (use:=use) rfl hs (Js hfree) ok.kind (fun y hy e=>by rw[ok.uniq y hy,e])
  (dX (hi pins s σ H _ I h) fun xv s1 hx=>dX hx fun itv s2 h2=>?_)
 obtain⟨it,fp,tn,J,H2,e,I2,T,st2,f2,q⟩:=h2
 subst e
 refine ab2 (Hs ?_) (by show 0≤sizeLine;decide)
 generalize hD:s2.heap.objs.size=D
 have Mv:H2 D=none:=I2.hok.fresh (Nat.le_of_eq hD)
 obtain⟨W,⟨m0,w0⟩,turn⟩:=q D Mv
 generalize Tc:({s2 with heap:=s2.heap.push {cls:=.type "list",data:=.seq ([]:List Value).toArray} }:Shared)=s3
 have I3:Inv X pins σ (upd H2 D (.lst [])) s3:=by
  rw[←Tc]
  refine I2.laid (t':=s2.toks) (fun b o e=>D8 _ e) (Nat.le_of_eq hD) ⟨aa0 _,[],0,.nil,?_⟩
  rw[←hD]
  exact aaw _ rfl
 have h3:s3.heap=s2.heap.push {cls:=.type "list",data:=.seq ([]:List Value).toArray}:=by rw[←Tc]
 have sz:∀b∈fp,b<s2.heap.objs.size:=fun b hb=>by
  obtain⟨o,e,_⟩:=T.obj _ _ st2 b hb
  exact aaq e
 have f3:∀b∈fp,A2 X pins (upd H2 D (.lst [])) b∧b<s3.heap.objs.size:=fun b hb=>by
  have hlt:=sz b hb
  refine⟨⟨?_,(f2 b hb).2⟩,by rw[h3,aaZ];exact Nat.lt_succ_of_lt hlt⟩
  rw[aq (by rw[←hD];exact aaI hlt)]
  exact(f2 b hb).1
 have st3:tn 0 s3.heap:=T.keep _ _ _ st2 fun b _ o e=>by rw[h3];exact D8 _ e
 have I4:=Hu I3 ok hN f3
 have pg:=hg s3 (upd H2 D (.lst [])) s3.heap.objs.size (cellsFrom (s3.heap.objs.size+1) scope.names (dJ X.env.cells scope.names [])) fp
 have pt:=ht s3 (upd H2 D (.lst [])) s3.heap.objs.size (cellsFrom (s3.heap.objs.size+1) scope.names (dJ X.env.cells scope.names [])) fp
 have pe:=he s3 (upd H2 D (.lst [])) s3.heap.objs.size (cellsFrom (s3.heap.objs.size+1) scope.names (dJ X.env.cells scope.names [])) fp
 show codeAny _ _ (.compStart (.ListComp elt [⟨tg,iter,ifs,0⟩] scope pos) 0 (.ref it) (.ref D) (compEnvC scope (cellsFrom (s3.heap.objs.size+1) scope.names (dJ X.env.cells scope.names [])) s3.heap.objs.size X.env)) (compPost (model X.prog X.w) X.A X.xe use Qf (.ref D) s3.heap.objs.size) {s3 with heap:=pushCells (s3.heap.push {cls:=.type "dict",data:=.dict #[]}) scope.names}
 have Zj:∀b∈fp,(upd H2 D (.lst [])) b=none:=fun b hb=>(f3 b hb).1.1
 generalize hce:compEnvC scope (cellsFrom (s3.heap.objs.size+1) scope.names (dJ X.env.cells scope.names [])) s3.heap.objs.size X.env=ce at I4 pg pt pe⊢
 have cL:ce.locals=s3.heap.objs.size:=by subst hce;rfl
 generalize hH3:upd H2 D (.lst [])=H3 at I3 I4 pg pt pe w0 Zj f3
 generalize hs4:({s3 with heap:=pushCells (s3.heap.push {cls:=.type "dict",data:=.dict #[]}) scope.names}:Shared)=s4 at I4⊢
 have st4:tn 0 s4.heap:=T.keep _ _ _ st3 fun b _ o e=>by rw[←hs4];exact pushCells_keeps _ _ _ _ (D8 _ e)
 have Jj:∀{σ':St} {H':Hp} {s':Shared},Inv (X.Bu s3 H3 scope ce fp) [] σ' H' s'→(∀b∈fp,H' b=none)→∀b∈fp,A2 (X.Bu s3 H3 scope ce fp) [] H' b:=fun{σ' H' s'} I' hn b hb=>
  ⟨hn b hb,(I'.ok.V3 b hb).1,I'.ok.MM b hb,.inl hb,fun x c e=>(I'.ok.V3 b hb).2 x c e,fun p hp=>absurd (show p∈([]:List (Addr×Obj))++[]from hp) (by simp)⟩
 have loop:codeAny (model X.prog X.w) X.A (.compLoop (.ListComp elt [⟨tg,iter,ifs,0⟩] scope pos) 0 (.ref it) (.ref D) ce) (compPost (model X.prog X.w) X.A X.xe use Qf (.ref D) s3.heap.objs.size) s4:=by
  refine FJ (fun n s'=>∃i H',Inv (X.Bu s3 H3 scope ce fp) [] (wipe σ (own.map (·.2))) H' s'∧tn i s'.heap∧(∀b∈fp,H' b=none)∧W i n H') ?_ m0 ⟨0,H3,I4,st4,Zj,w0⟩
  rintro n s5 ⟨i,H5,I5,st5,n5,w5⟩
  rcases turn i n H5 w5 with⟨stop,qq⟩ |⟨go,Nx,hNx,step⟩
  ·have td:=T.done (X.Bu s3 H3 scope ce fp) rfl rfl rfl hc i [] s5 _ H5 (fun _ _=>False) I5 (Jj I5 n5) st5 stop
   refine LH td fun r s6 ⟨hr,I6⟩=>?_
   subst hr
   have I7:Inv X pins σ H5 s6:=I3.TZ (ch:=fp) I6.os I6.base I6.hok I6.bare fun b hb=>⟨(f3 b hb).1.2.2.2.1,(f3 b hb).1.2.1,(f3 b hb).1.2.2.2.2.1,(f3 b hb).1.2.2.2.2.2⟩
   have nC:H5 s3.heap.objs.size=none:=by
    have z:H5 ce.locals=none:=I6.free
    rw[cL]at z
    exact z
   obtain⟨m,hn,_⟩:=I6.loc
   have hn:s6.heap.Ns ce.locals m:=hn
   rw[cL]at hn
   exact hRR D s3.heap.objs.size s6 m H5 I7 qq hn (I3.Jh (D9 _) nC)
  ·have ti:=T.item (X.Bu s3 H3 scope ce fp) rfl rfl rfl hc i [] s5 _ H5 (fun _ _=>False) I5 (Jj I5 n5) st5 go
   refine LH ti fun r s6 ⟨u,hr,h6⟩=>?_
   subst hr
   refine LH h6 fun _ s7 ⟨x,H7,I7,r7,y7,W7,n7⟩=>?_
   have I7':=I7.pinned (Jj I7 n7) (T.obj _ _ W7)
   refine LH (pg _ s7 _ H7 x u _ I7' r7 (step x H7 y7)) fun _ s8 ⟨σ8,H8,I8,Zk,q8⟩=>?_
   refine LH (pt _ s8 σ8 H8 _ I8 q8) fun b s9 ⟨H9,I9,q9⟩=>?_
   have fin:∀{s':Shared} {H':Hp},Inv (X.Bu s3 H3 scope ce fp) ([]++B0 fp s7.heap) σ8 H' s'→Nx H'→∃m,m<n∧∃i H',Inv (X.Bu s3 H3 scope ce fp) [] (wipe σ (own.map (·.2))) H' s'∧tn i s'.heap∧(∀b∈fp,H' b=none)∧W i m H':=fun{s' H'} I' nx=>by
    obtain⟨m',hm,w'⟩:=hNx H' nx
    have Ux:∀b∈fp,∀o,s7.heap.get? b=some o→s'.heap.get? b=some o∧H' b=none:=fun b hb o e=>
     let z:=I'.pin (b,o) (aaY _ (aaY _ (wV hb e)))
     ⟨z.1,z.2.1⟩
    have hl:(wipe σ (own.map (·.2))).length=σ8.length:=by rw[←Zk,t6]
    refine⟨m',hm,i+1,H',(I'.yp (pins:=[])).weak hl (fun j v e=>?_),T.keep _ _ _ W7 fun b hb o e=>(Ux b hb o e).1,fun b hb=>?_,w'⟩
    ·rw[←Zk]at e
     exact(zW e).1
    ·obtain⟨o,e,_⟩:=T.obj _ _ W7 b hb
     exact(Ux b hb o e).2
   cases b with
   |false=>
    simp only[aaC,aa4]at q9⊢
    exact fin I9 q9
   |true=>
    simp only[aa3]at q9⊢
    refine LH (pe _ s9 σ8 H9 _ I9 q9) fun z Td ⟨yv,Wb,I10,r10,acc,W8,W9,nx⟩=>?_
    exact Rm (X:=X.Bu s3 H3 scope ce fp) I10 W8 W9 r10 fun s11 I11=>fin I11 nx
 exact codeAny_compStart_list loop (T.self X.A 0 _ _ _ st4 loop)
theorem v_{elt tg iter:Expr}{ifs:List Expr}{scope:Scope}{own:List (Str×Nat)}{pos:Pos}{wi:TI}{g:TG}{tt:TT}{te:TE}(hc:X.calm=true)(hN:X.N.Nodup)(hi:PI X tg iter wi)(ok:Ht X.N X.env.scope scope own)(hg:∀(s:Shared) (H:Hp) (C:Addr) (cl:List (Str×Addr)) (fp:List Addr),PG (X.Bu s H scope (compEnvC scope cl C X.env) fp) tg g)(ht:∀(s:Shared) (H:Hp) (C:Addr) (cl:List (Str×Addr)) (fp:List Addr),Uw (X.Bu s H scope (compEnvC scope cl C X.env) fp) ifs tt)(he:∀(s:Shared) (H:Hp) (C:Addr) (cl:List (Str×Addr)) (fp:List Addr),PE (X.Bu s H scope (compEnvC scope cl C X.env) fp) elt te)(hs:∀x,foldedSetIterable iter X.env x=pure x:=by intro _;rfl):PE X (.ListComp elt [⟨tg,iter,ifs,0⟩] scope pos) (Wa wi g tt te (own.map (·.2))):=by
 intro pins s σ H Q I h
 rw[eval_ListComp]
 refine KC hc hN I hi ok hg ht he hs h fun D C s' m H' I' q hn f=>⟨m,hn,fun h'' sb=>?_⟩
 obtain⟨f0,f1,f2,f3,f4,f5⟩:=f
 exact⟨.ref D,H',I'.turned (t':=s'.toks) (fun b o hb e=>(sb.2 b hb).trans e) f0 f1 f3 f4 f5,rfl,q⟩
theorem t7{i:Nat}{y:Str}{py:Pos}{elt tg iter:Expr}{ifs:List Expr}{scope:Scope}{own:List (Str×Nat)}{pos spos:Pos}{wi:TI}{g:TG}{tt:TT}{te:TE}(hc:X.calm=true)(hN:X.N.Nodup)(hy:X.N[i]?=some y)(hyl:X.env.scope.names.lookup y=some .local)(hsw:swapsWith (.ListComp elt [⟨tg,iter,ifs,0⟩] scope pos) (some (.Name y py)) spos.line X.env=pure true)(hi:PI X tg iter wi)(ok:Ht X.N X.env.scope scope own)(hg:∀(s:Shared) (H:Hp) (C:Addr) (cl:List (Str×Addr)) (fp:List Addr),PG (X.Bu s H scope (compEnvC scope cl C X.env) fp) tg g)(ht:∀(s:Shared) (H:Hp) (C:Addr) (cl:List (Str×Addr)) (fp:List Addr),Uw (X.Bu s H scope (compEnvC scope cl C X.env) fp) ifs tt)(he:∀(s:Shared) (H:Hp) (C:Addr) (cl:List (Str×Addr)) (fp:List Addr),PE (X.Bu s H scope (compEnvC scope cl C X.env) fp) elt te)(hs:∀x,foldedSetIterable iter X.env x=pure x:=by intro _;rfl):PS X (.Assign [.Name y py] (.ListComp elt [⟨tg,iter,ifs,0⟩] scope pos) spos) (Q6 (Wa wi g tt te (own.map (·.2))) (Hg i)):=by
 intro pins s σ H D I h
 rw[exec_Assign_Name_used _ _ _ _ hsw]
 refine D4 (wpAny_standAt (D4 ?_))
 show wpAny _ X.A (do let _ ←comprehension (.ListComp elt [⟨tg,iter,ifs,0⟩] scope pos) scope X.env (firstIterPos [⟨tg,iter,ifs,0⟩] pos) (newList []) false (eval iter X.env) (some (assign (.Name y py) X.env))) _ _ s
 have h:Wa wi g tt te (own.map (·.2)) σ H (fun x H1=>Hg i x σ H1 D.nx):=h
 refine D4 (dX (KC (Qf:=fun _ s'=>SP X pins D .next s') hc hN I hi ok hg ht he hs h fun L C s' m H' I' q hn f=>?_) fun _ s' hq=>aan (aan hq))
 show wpAny _ _ (assign (.Name y py) X.env (.ref L)) _ _ _
 refine wpAny_assign_Name (EE (v:=V.ref L) I' hN hy (.inl hyl) rfl (fun s2 I2 ⟨a,sb,ha⟩=>?_) (.inr hyl))
 obtain⟨f0,f1,f2,f3,f4,f5⟩:=f
 have haC:C≠a:=by
  rcases ha with z |z
  ·rw[z];exact f1
  ·exact fun e=>f4 y a z e.symm
 refine⟨m,hn.sameBut sb haC,fun h3 sb3=>?_⟩
 exact⟨_,H',I2.turned (t':=s2.toks) (fun b o hb e=>(sb3.2 b hb).trans e) f0 f1 f3 f4 f5,q⟩
theorem yC{elt:Expr}{gs:List Comprehension}{scope:Scope}{pos py:Pos}{y:Str}{l:Nat}{env:Env}(hk:env.scope.kind=.function)(hy:env.scope.names.lookup y=some .local)(hl:(py.line==pos.line)=true)(ha:(scope.names.any fun(n,k)=>n==y&&(k== .local||k== .cell))=false):swapsWith (.ListComp elt gs scope pos) (some (.Name y py)) l env=pure true:=by
 have ky:env.kindOf y=some .local:=hy
 have hb:env.blockKind=.function:=by unfold Env.blockKind;rw[hk];rfl
 unfold swapsWith
 simp only[hb,ky,ha,Expr.pos,hl]
 rfl
end
theorem Na{lo:Int}{n:Nat}{g:TG}{tt:TT}{te:TE}{vs:List Nat}{σ:St}{H1:Hp}{D:Addr}{Qd:Hp→Prop}(Pv:Nat→Hp→Prop)(h0:Pv 0 (upd H1 D (.lst [])))(hs:∀i H,i<n→Pv i H→g (.int (lo+i)) (wipe σ vs) H fun σ2 H2=>wipe σ2 vs=wipe σ vs∧tt σ2 H2 fun b H3=>if b=true then te σ2 H3 fun y H4=>∃acc,H4 D=some (.lst acc)∧acc.length<sizeLine∧Pv (i+1) (upd H4 D (.lst (acc++[y])))else Pv (i+1) H3)(hd:∀H,Pv n H→Qd H):∃W:Nat→Nat→Hp→Prop,(∃m,W 0 m (upd H1 D (.lst [])))∧∀i m H,W i m H→((OL lo n).stop i H∧Qd H)∨((OL lo n).go i H∧∃Nx:Hp→Prop,(∀H',Nx H'→∃m',m'<m∧W (i+1) m' H')∧∀x H',(OL lo n).MX i H x H'→g x (wipe σ vs) H' fun σ2 H2=>wipe σ2 vs=wipe σ vs∧tt σ2 H2 fun b H3=>if b=true then te σ2 H3 fun y H4=>∃acc,H4 D=some (.lst acc)∧acc.length<sizeLine∧Nx (upd H4 D (.lst (acc++[y])))else Nx H3):=by
 refine⟨fun i m H=>m=n-i∧i≤n∧Pv i H,⟨n,by simp,aa0 _,h0⟩,?_⟩
 rintro i m H ⟨rfl,hi,p⟩
 by_cases hlt:i<n
 ·refine .inr ⟨hlt,Pv (i+1),fun H' p'=>⟨n-(i+1),by omega,rfl,hlt,p'⟩,fun x H' y=>?_⟩
  obtain⟨e,y⟩:=y
  subst e y
  exact hs i _ hlt p
 ·have e:i=n:=by omega
  subst e
  exact .inl ⟨D9 _,hd H p⟩
theorem k_{K:W.Frag}{a:Addr}{xs:List V}{g:TG}{tt:TT}{te:TE}{vs:List Nat}{σ:St}{H1:Hp}{D:Addr}{Qd:Hp→Prop}(Pv:Nat→Hp→Prop)(h0:Pv 0 (upd H1 D (.lst [])))(hl:∀i H,i≤xs.length→Pv i H→bD K H a xs)(hs:∀i x H,xs[i]?=some x→Pv i H→g x (wipe σ vs) H fun σ2 H2=>wipe σ2 vs=wipe σ vs∧tt σ2 H2 fun b H3=>if b=true then te σ2 H3 fun y H4=>∃acc,H4 D=some (.lst acc)∧acc.length<sizeLine∧Pv (i+1) (upd H4 D (.lst (acc++[y])))else Pv (i+1) H3)(hd:∀H,Pv xs.length H→Qd H):∃W:Nat→Nat→Hp→Prop,(∃m,W 0 m (upd H1 D (.lst [])))∧∀i m H,W i m H→((Qn K a).stop i H∧Qd H)∨((Qn K a).go i H∧∃Nx:Hp→Prop,(∀H',Nx H'→∃m',m'<m∧W (i+1) m' H')∧∀x H',(Qn K a).MX i H x H'→g x (wipe σ vs) H' fun σ2 H2=>wipe σ2 vs=wipe σ vs∧tt σ2 H2 fun b H3=>if b=true then te σ2 H3 fun y H4=>∃acc,H4 D=some (.lst acc)∧acc.length<sizeLine∧Nx (upd H4 D (.lst (acc++[y])))else Nx H3):=by
 refine⟨fun i m H=>m=xs.length-i∧i≤xs.length∧Pv i H,⟨xs.length,by simp,aa0 _,h0⟩,?_⟩
 rintro i m H ⟨rfl,hi,p⟩
 have q:=hl i H hi p
 by_cases hlt:i<xs.length
 ·refine .inr ⟨⟨xs,xs[i],q,by simp[hlt]⟩,Pv (i+1),fun H' p'=>⟨xs.length-(i+1),by omega,rfl,hlt,p'⟩,fun x H' y=>?_⟩
  obtain⟨e,y⟩:=y
  subst e
  exact hs i x _ (y xs q) p
 ·have e:i=xs.length:=by omega
  subst e
  exact .inl ⟨⟨xs,q,D9 _⟩,hd H p⟩
def t9(N:List Str)(sc scope:Scope)(own:List (Str×Nat)):Bool:=
 (match scope.kind with | .function=>true |_=>false)&&(scope.names.all fun y=>decide (scope.names.lookup y.1=some y.2))&&(own.all fun p=>decide (N[p.2]?=some p.1))&&
  (scope.names.all fun y=>match y.2 with
   | .free=>(match sc.names.lookup y.1 with |some .cell=>true |some .free=>true |_=>false)
   | .local=>decide (y.1∈own.map (·.1))||decide (y.1∉N)
   | .cell=>decide (y.1∈own.map (·.1))||decide (y.1∉N)
   |_=>true)
theorem eO{N:List Str}{sc scope:Scope}{own:List (Str×Nat)}(h:t9 N sc scope own=true):Ht N sc scope own:=by
 unfold t9 at h
 simp only[aa1,ab8,decide_eq_true_eq]at h
 obtain⟨⟨⟨h1,h2⟩,h3⟩,h4⟩:=h
 refine⟨?_,h2,h3,fun y hy e=>?_,fun y hy e=>?_⟩
 ·split at h1
  ·assumption
  ·cases h1
 ·have q:=h4 y hy
  simp only[e]at q
  split at q<;>first |exact .inl (by assumption) |exact .inr (by assumption) |cases q
 ·have q:=h4 y hy
  rcases e with e |e<;>(simp only[e,acg,decide_eq_true_eq]at q;exact q)
end L2
namespace L2
open PySem PySem.Spec PyProof.Rows
section
variable{prog:Program}{w:World}{A:Around}{R:Result→Shared→Prop}{s:Shared}{elt t0 i0 t1 i1:Expr}{aad aae:List Expr}{scope:Scope}{pos:Pos}{it acc:Value}{env:Env}
end
section
variable{X:Cx}
end
end L2
namespace L2
open PySem PySem.Spec PyProof.Rows
section
variable{κ:Type}[DecidableEq κ]
def gI(kvs:List (κ×V))(k:κ):Option V:=(kvs.find? fun kv=>decide (kv.1=k)).map (·.2)
def putK(kvs:List (κ×V))(k:κ)(v:V):List (κ×V):=
 if(kvs.any fun kv=>decide (kv.1=k))=true then kvs.map (fun kv=>if kv.1=k then(kv.1,v)else kv)else kvs++[(k,v)]
theorem t_{p:κ×V}{r:List (κ×V)}{k:κ}(e:p.1=k):gI (p::r) k=some p.2:=by simp[gI,abZ,e]
theorem ua{p:κ×V}{r:List (κ×V)}{k:κ}(e:¬p.1=k):gI (p::r) k=gI r k:=by simp[gI,abZ,e]
theorem yD(k:κ):∀kvs:List (κ×V),(kvs.any fun kv=>decide (kv.1=k))=(gI kvs k).isSome
 |[]=>rfl
 |p::r=>by
  rw[List.any_cons]
  by_cases e:p.1=k
  ·simp only[t_ e,aa8 e,Bool.true_or,Option.isSome_some]
  ·rw[ua e,aa7 e,Bool.false_or];exact yD k r
theorem AK(kvs:List (κ×V))(k:κ)(v:V):(putK kvs k v).length≤kvs.length+1:=by
 unfold putK
 split
 ·rw[DS];omega
 ·rw[aat,aax,List.length_nil];omega
theorem Hw{kvs:List (κ×V)}{k:κ}(v:V)(h:gI kvs k=none):putK kvs k v=kvs++[(k,v)]:=by
 unfold putK
 rw[yD,h]
 exact D6 (by decide)
theorem sW.qF{o:Option V}{u:Option Value}(r:sW o u):o.isSome=u.isSome:=by
 cases o with
 |none=>cases u with
  |none=>rfl
  |some _=>exact(show False from r).elim
 |some _=>cases u with
  |none=>exact(show False from r).elim
  |some _=>rfl
theorem sW.getD{o:Option V}{u:Option Value}{d:V}{d':Value}(r:sW o u)(rd:RelV d d'):RelV (o.getD d) (u.getD d'):=by
 cases o with
 |none=>cases u with
  |none=>exact rd
  |some _=>exact(show False from r).elim
 |some _=>cases u with
  |none=>exact(show False from r).elim
  |some _=>exact r
theorem KV.val{kvs:List (κ×V)}{vs:List (κ×Value)}(r:KV kvs vs)(k:κ):sW (gI kvs k) (valueAt vs k):=by
 unfold KV at r
 induction r with
 |nil=>exact True.intro
 | @cons p q ps qs h t ih=>
   obtain⟨h1,h2⟩:=h
   by_cases e:p.1=k
   ·have e':q.1=k:=h1.symm.trans e
    have b:valueAt (q::qs) k=some q.2:=by simp[valueAt,abZ,e']
    rw[t_ e,b];exact h2
   ·have e':¬q.1=k:=fun z=>e (h1.trans z)
    have b:valueAt (q::qs) k=valueAt qs k:=by simp[valueAt,abZ,e']
    rw[ua e,b];exact ih
theorem KV.any{kvs:List (κ×V)}{vs:List (κ×Value)}(r:KV kvs vs)(k:κ):(kvs.any fun kv=>decide (kv.1=k))=vs.any fun kv=>decide (kv.1=k):=by
 unfold KV at r
 induction r with
 |nil=>rfl
 |cons h t ih=>rw[List.any_cons,List.any_cons,ih,h.1]
theorem KV.repl{kvs:List (κ×V)}{vs:List (κ×Value)}(r:KV kvs vs)(k:κ){y:V}{u:Value}(ry:RelV y u):KV (kvs.map fun kv=>if kv.1=k then(kv.1,y)else kv) (vs.map fun kv=>if kv.1=k then(kv.1,u)else kv):=by
 unfold KV at r⊢
 induction r with
 |nil=>exact .nil
 | @cons p q ps qs h t ih=>
   rw[aaJ,aaJ]
   refine .cons ?_ ih
   obtain⟨h1,h2⟩:=h
   by_cases e:p.1=k
   ·rw[D7 e,D7 (h1.symm.trans e)];exact⟨h1,ry⟩
   ·rw[D6 e,D6 (fun z=>e (h1.trans z))];exact⟨h1,h2⟩
theorem KV.put{kvs:List (κ×V)}{vs:List (κ×Value)}(r:KV kvs vs)(k:κ){y:V}{u:Value}(ry:RelV y u):KV (putK kvs k y) (stored vs k u):=by
 unfold putK stored
 rw[r.any k]
 by_cases e:(vs.any fun kv=>decide (kv.1=k))=true
 ·rw[D7 e,D7 e];exact r.repl k ry
 ·rw[D6 e,D6 e];exact Paired.snoc r ⟨rfl,ry⟩
theorem KV.length{kvs:List (κ×V)}{vs:List (κ×Value)}(r:KV kvs vs):kvs.length=vs.length:=acu r
end
theorem B8{P:Program}{w:World}{k:Key}{u:Value}(r:RelV (kV k) u):(cQ P w).is k u=true:=by
 cases k with
 |inl i=>obtain⟨t,e⟩:=(show ∃t,u=Value.int i t from r);subst e;exact GZ P w i t
 |inr x=>obtain⟨t,e⟩:=(show ∃t,u=Value.str x t from r);subst e;exact G9 P w x t
theorem EK{P:Program}{w:World}:∀{ks:List Key} {us:List Value},Vals (ks.map kV) us→ItemsAre (cQ P w) ks us
 |[],_,r=>by rw[List.map_nil]at r;cases r;exact .nil
 |k::ks,_,r=>by
  rw[aaJ]at r
  cases r with
  |cons h t=>exact .cons (B8 h) (EK t)
abbrev KT(H:Hp):List (List Key×V)→List (List Key×Addr×Value)→Prop:=Paired fun p q=>p.1=q.1∧H q.2.1=some (.tup (p.1.map kV))∧RelV p.2 q.2.2
theorem KT.val{H:Hp}{kvs:List (List Key×V)}{xs:List (List Key×Addr×Value)}(r:KT H kvs xs)(k:List Key):sW (gI kvs k) ((atKey xs k).map (·.2)):=by
 induction r with
 |nil=>exact True.intro
 | @cons p q ps qs h t ih=>
   obtain⟨h1,_,h2⟩:=h
   by_cases e:p.1=k
   ·have e':q.1=k:=h1.symm.trans e
    have b:atKey (q::qs) k=some q.2:=by simp[atKey,abZ,e']
    rw[t_ e,b];exact h2
   ·have e':¬q.1=k:=fun z=>e (h1.trans z)
    have b:atKey (q::qs) k=atKey qs k:=by simp[atKey,abZ,e']
    rw[ua e,b];exact ih
theorem KT.repl{H:Hp}{kvs:List (List Key×V)}{xs:List (List Key×Addr×Value)}(r:KT H kvs xs)(k:List Key){y:V}{u:Value}(ry:RelV y u):KT H (kvs.map fun kv=>if kv.1=k then(kv.1,y)else kv) (xs.map (putAt k u)):=by
 induction r with
 |nil=>exact .nil
 | @cons p q ps qs h t ih=>
   rw[aaJ,aaJ]
   refine .cons ?_ ih
   obtain⟨h1,h2,h3⟩:=h
   unfold putAt
   by_cases e:p.1=k
   ·rw[D7 e,D7 (h1.symm.trans e)];exact⟨h1,h2,ry⟩
   ·rw[D6 e,D6 (fun z=>e (h1.trans z))];exact⟨h1,h2,h3⟩
theorem KT.put{H:Hp}{kvs:List (List Key×V)}{xs:List (List Key×Addr×Value)}(r:KT H kvs xs)(k:List Key){b:Addr}{y:V}{u:Value}(hb:H b=some (.tup (k.map kV)))(ry:RelV y u):KT H (putK kvs k y) (storedH xs k b u):=by
 have e:(kvs.any fun kv=>decide (kv.1=k))=(atKey xs k).isSome:=by
  rw[yD,(r.val k).qF,Option.isSome_map]
 unfold putK storedH
 rw[e]
 by_cases q:(atKey xs k).isSome=true
 ·rw[D7 q,D7 q];exact r.repl k ry
 ·rw[D6 q,D6 q];exact Paired.snoc r ⟨rfl,hb,ry⟩
theorem KT.keeps{H H':Hp}{kvs:List (List Key×V)}{xs:List (List Key×Addr×Value)}(r:KT H kvs xs)(ht:∀b ys,H b=some (.tup ys)→H' b=some (.tup ys)):KT H' kvs xs:=
 Paired.OD r fun _ _ z=>⟨z.1,ht _ _ z.2.1,z.2.2⟩
section
variable{P:Program}{w:World}{H:Hp}{h:Heap}{a:Addr}
theorem Qu{u:HO}(ok:tK P w H h)(e:Rd H a u):ff P w H h a u:=e.ok ok
theorem wc{kvs:List (Key×V)}(ok:tK P w H h)(e:Rd H a (.dK kvs)):kvs.length≤sizeLine∧(a==sysModules)=false∧∃vs,KV kvs vs∧h.DictOf (cQ P w) a vs:=
 show ff P w H h a (.dK kvs)from Qu ok e
theorem Uy{kvs:List (Key×V)}(ok:tK P w H h)(e:H a=some (.dK kvs)):kvs.length≤sizeLine∧(a==sysModules)=false∧∃vs,KV kvs vs∧h.DictOf (cQ P w) a vs:=wc ok (.inl e)
theorem w6{ks:List Key}(ok:tK P w H h)(e:H a=some (.tup (ks.map kV))):(tupleKind (cQ P w)).is h ks a:=by
 obtain⟨_,its,r,o,h1,h2,n,h3⟩:=(show ff P w H h a (.tup (ks.map kV))from ok a _ e)
 exact⟨o,its.toArray,n,h1,h2,h3,by simpa using EK r⟩
theorem AL{kvs:List (List Key×V)}(ok:tK P w H h)(e:Rd H a (.dT kvs)):kvs.length≤sizeLine∧(a==sysModules)=false∧∃xs,KT H kvs xs∧h.DictOfH (tupleKind (cQ P w)) a xs:=by
 obtain⟨z,y,xs,r,o,es,ep,h1,h2,h3,h4,h5⟩:=(show ff P w H h a (.dT kvs)from Qu ok e)
 refine⟨z,y,xs,r,o,es,ep,h1,h2,h3,h4,fun x hx=>?_,h5⟩
 have all:∀{l:List (List Key×V)} {m:List (List Key×Addr×Value)},KT H l m→∀x∈m,(tupleKind (cQ P w)).is h x.1 x.2.1:=by
  intro l m q
  induction q with
  |nil=>intro x hx;exact nomatch hx
  | @cons p q ps qs hq t ih=>
    intro x hx
    rcases aas.mp hx with e |hx
    ·subst e
     exact w6 ok (by rw[←hq.1];exact hq.2.1)
    ·exact ih x hx
 exact all r x hx
theorem Qv{kvs:List (List Key×V)}(ok:tK P w H h)(e:H a=some (.dT kvs)):kvs.length≤sizeLine∧(a==sysModules)=false∧∃xs,KT H kvs xs∧h.DictOfH (tupleKind (cQ P w)) a xs:=AL ok (.inl e)
end
def oF(H:Hp)(a:Addr)(y:V)(r:Option V):Prop:=
 (∃kvs k,Rd H a (.dK kvs)∧y=kV k∧r=gI kvs k)∨∃kvs k b,Rd H a (.dT kvs)∧y=.ref b∧H b=some (.tup (k.map kV))∧r=gI kvs k
def B9(H:Hp)(a:Addr)(y v:V)(H':Hp):Prop:=
 (∃kvs k,H a=some (.dK kvs)∧y=kV k∧kvs.length<sizeLine∧H'=upd H a (.dK (putK kvs k v)))∨
 ∃kvs k b,H a=some (.dT kvs)∧y=.ref b∧H b=some (.tup (k.map kV))∧kvs.length<sizeLine∧H'=upd H a (.dT (putK kvs k v))
theorem oF.k{H:Hp}{a:Addr}{kvs:List (Key×V)}{k:Key}(e:H a=some (.dK kvs)):oF H a (kV k) (gI kvs k):=.inl ⟨kvs,k,.inl e,rfl,rfl⟩
theorem oF.t{H:Hp}{a b:Addr}{kvs:List (List Key×V)}{k:List Key}(e:H a=some (.dT kvs))(eb:H b=some (.tup (k.map kV))):oF H a (.ref b) (gI kvs k):=.inr ⟨kvs,k,b,.inl e,rfl,eb,rfl⟩
theorem B9.k{H:Hp}{a:Addr}{kvs:List (Key×V)}{k:Key}{v:V}(e:H a=some (.dK kvs))(hl:kvs.length<sizeLine):B9 H a (kV k) v (upd H a (.dK (putK kvs k v))):=.inl ⟨kvs,k,e,rfl,hl,rfl⟩
theorem B9.t{H:Hp}{a b:Addr}{kvs:List (List Key×V)}{k:List Key}{v:V}(e:H a=some (.dT kvs))(eb:H b=some (.tup (k.map kV)))(hl:kvs.length<sizeLine):B9 H a (.ref b) v (upd H a (.dT (putK kvs k v))):=.inr ⟨kvs,k,b,e,rfl,eb,hl,rfl⟩
section
variable{X:Cx}{pins:List (Addr×Obj)}{σ:St}{H:Hp}{s:Shared}{a:Addr}{y v:V}{u r:Value}{o:Option V}{A:Around}{E:Value→Shared→Prop}
theorem Inv.big(I:Inv X pins σ H s):sysModules<s.heap.objs.size:=by
 have h:mainGlobals<s.heap.objs.size:=(I.mod.glob.keeps I.bk).lt
 exact Nat.lt_trans (by decide) h
theorem LI{Q:Value→Shared→Prop}(hu:A.units+1<cLine)(I:Inv X pins σ H s)(g:oF H a y (some v))(ry:RelV y u)(h:∀w' s',Inv X pins σ H s'→RelV v w'→Q w' s'):wpAny (model X.prog X.w) A (getItem (.ref a) u) Q E s:=by
 rcases g with⟨kvs,k,e,ey,l⟩ |⟨kvs,k,b,e,ey,eb,l⟩
 ·subst ey
  obtain⟨z,hd,vs,rel,dd⟩:=wc I.hok e
  obtain⟨w',hw,rw'⟩:=sW.some_of (v:=v) (o:=valueAt vs k) (by rw[l];exact rel.val k)
  exact wpAny_getItem_of (B8 ry) dd.mapOf hw (h w' _ (I.tok _) rw')
 ·subst ey
  cases(show u=Value.ref b from ry)
  obtain⟨z,hd,xs,rel,dd⟩:=AL I.hok e
  obtain⟨w',hw,rw'⟩:=sW.some_of (v:=v) (o:=(atKey xs k).map (·.2)) (by rw[l];exact rel.val k)
  obtain⟨p,hp,hp2⟩:=Option.map_eq_some_iff.mp hw
  refine wpAny_getItem_heap (abX hu) (w6 I.hok eb) dd hp ?_
  rw[hp2]
  exact h w' _ (I.tok _) rw'
theorem W_{Q:Value→Shared→Prop}(hu:A.units+1<cLine)(I:Inv X pins σ H s)(g:oF H a y o)(ry:RelV y u)(h:∀s',Inv X pins σ H s'→Q (.bool o.isSome) s'):wpAny (model X.prog X.w) A (compareOp .In u (.ref a)) Q E s:=by
 rcases g with⟨kvs,k,e,ey,l⟩ |⟨kvs,k,b,e,ey,eb,l⟩
 ·subst ey
  obtain⟨z,hd,vs,rel,dd⟩:=wc I.hok e
  refine wpAny_in_of (B8 ry) hd dd.mapOf ?_
  rw[←(rel.val k).qF,←l]
  exact h _ (I.tok _)
 ·subst ey
  cases(show u=Value.ref b from ry)
  obtain⟨z,hd,xs,rel,dd⟩:=AL I.hok e
  refine wpAny_in_heap (abX hu) (w6 I.hok eb) hd dd ?_
  have q:=(rel.val k).qF
  rw[Option.isSome_map]at q
  rw[←q,←l]
  exact h _ (I.tok _)
theorem OX{Q:Value→Shared→Prop}(hu:A.units+1<cLine)(I:Inv X pins σ H s)(g:oF H a y o)(ry:RelV y u)(h:∀s',Inv X pins σ H s'→Q (.bool (!o.isSome)) s'):wpAny (model X.prog X.w) A (compareOp .NotIn u (.ref a)) Q E s:=by
 rcases g with⟨kvs,k,e,ey,l⟩ |⟨kvs,k,b,e,ey,eb,l⟩
 ·subst ey
  obtain⟨z,hd,vs,rel,dd⟩:=wc I.hok e
  refine wpAny_notIn_of (B8 ry) hd dd.mapOf ?_
  rw[←(rel.val k).qF,←l]
  exact h _ (I.tok _)
 ·subst ey
  cases(show u=Value.ref b from ry)
  obtain⟨z,hd,xs,rel,dd⟩:=AL I.hok e
  refine wpAny_notIn_heap (abX hu) (w6 I.hok eb) hd dd ?_
  have q:=(rel.val k).qF
  rw[Option.isSome_map]at q
  rw[←q,←l]
  exact h _ (I.tok _)
theorem KD{h':Heap}{t':Nat}{ob:HO}(I:Inv X pins σ H s)(mu:OE (H a))(hs:Heap.SameBut a s.heap h')(he:∃q,h'.get? a=some q)(new:ff X.prog X.w (upd H a ob) h' a ob):Inv X pins σ (upd H a ob) {s with heap:=h',toks:=t'}:=
 I.write (x:=a) (e:=a) mu (.inl rfl) (fun b q hb z=>(hs.2 b hb).trans z) he new
theorem Nb{P:Program}{w:World}{H':Hp}{h':Heap}{kvs:List (Key×V)}{vs:List (Key×Value)}(z:kvs.length≤sizeLine)(hd:(a==sysModules)=false)(rel:KV kvs vs)(dd:h'.DictOf (cQ P w) a vs):ff P w H' h' a (.dK kvs):=⟨z,hd,vs,rel,dd⟩
theorem LJ{H':Hp}{Q:Unit→Shared→Prop}(hu:A.units+1<cLine)(I:Inv X pins σ H s)(g:B9 H a y v H')(ry:RelV y u)(rv:RelV v r)(h:∀s',Inv X pins σ H' s'→Q () s'):wpAny (model X.prog X.w) A (setItem (.ref a) u r) Q E s:=by
 rcases g with⟨kvs,k,e,ey,l,eH⟩ |⟨kvs,k,b,e,ey,eb,l,eH⟩
 ·subst ey eH
  obtain⟨z,hd,vs,rel,dd⟩:=Uy I.hok e
  have hz:vs.length≤sizeLine:=by rw[←rel.length];exact z
  have hl:(putK kvs k v).length≤sizeLine:=by have:=AK kvs k v;omega
  refine wpAny_setItem_pairs (hsz:=hz) (B8 ry) dd fun h' Te hs=>h _ ?_
  have he:∃q,h'.get? a=some q:=let⟨q,_,_,hq,_⟩:=Te;⟨q,hq⟩
  exact KD I (by rw[e];exact True.intro) hs he (Nb hl hd (rel.put k rv) Te)
 ·subst ey eH
  cases(show u=Value.ref b from ry)
  obtain⟨z,hd,xs,rel,dd⟩:=Qv I.hok e
  have hz:xs.length≤sizeLine:=by rw[←acu rel];exact z
  have hl:(putK kvs k v).length≤sizeLine:=by have:=AK kvs k v;omega
  refine wpAny_setItem_heap (hsz:=hz) (abX hu) (w6 I.hok eb) dd fun h' Te hs=>h _ ?_
  obtain⟨q,es,ep,hq,h2,h3,h4,_,h5⟩:=Te
  refine KD I (by rw[e];exact True.intro) hs ⟨q,hq⟩ ⟨hl,hd,_,(rel.put k eb rv).keeps fun c ys ec=>?_,q,es,ep,hq,h2,h3,h4,h5⟩
  rw[aq (TR ec e (fun z=>nomatch z))]
  exact ec
end
section
variable{X:Cx}{pins:List (Addr×Obj)}{σ:St}{H:Hp}{s:Shared}{a:Addr}{kvs:List (Key×V)}{k:Key}{u:Value}{A:Around}{E:Value→Shared→Prop}
theorem Uz{Q:Value→Shared→Prop}(I:Inv X pins σ H s)(e:Rd H a (.dK kvs))(h:∀t s',Inv X pins σ H s'→Q (.int kvs.length t) s'):wpAny (model X.prog X.w) A (call (.builtin "len") [.ref a]) Q E s:=by
 obtain⟨z,hd,vs,rel,dd⟩:=wc I.hok e
 refine call_len_dict hd dd (by rw[←rel.length];rw[abx]at z;omega) ?_
 rw[←rel.length]
 exact h _ _ (I.tok _)
end
def UA(i:Expr):Prop:=∀ov iv,subscripted i false ov iv=operate [ov,iv] (getItem ov iv)
theorem OY{prog:Program}{w:World}{A:Around}{E:Value→Shared→Prop}{s:Shared}{env:Env}{value slice:Expr}{pos:Pos}{T id:String}{Q:Value→Shared→Prop}(hl:typeLookup (.type T) "__getitem__"=pure (some (.builtin id)))(hs:UA slice)(h:wpAny (model prog w) A (eval value env) (fun o s₁=>wpAny (model prog w) A (eval slice env) (fun i s₂=>s₂.TypeIs o T∧wpAny (model prog w) A (getItem o i) Q E s₂) E s₁) E s):wpAny (model prog w) A (eval (.Subscript value slice pos) env) Q E s:=by
 refine Subscript_ (aby h (fun o s₁ h₁=>aby h₁ (fun i s₂ h₂=>?_) fun _ _ x=>x) fun _ _ x=>x)
 obtain⟨hT,h₂⟩:=h₂
 unfold subscriptTail
 refine D4 ?_
 rw[getitemInPython_of_ne hT.not_modules]
 refine D4 (wpAny_specialOf hT hl ?_)
 have fin:wpAny (model prog w) A (subscripted slice false o i) (fun r s₃=>wpAny (model prog w) A (letTemporaryGo value o r>>=fun _=>pure r) Q E s₃) E s₂:=by
  rw[hs o i]
  exact wpAny_operating (aby h₂ (fun r s₃ h₃=>D4 (wpAny_letTemporaryGo (aan h₃))) fun _ _ x=>x)
 first
  |exact aan (D4 fin)
  |exact D4 (aan (D4 fin))
  |exact D4 fin
theorem Hx{X:Cx}{pins:List (Addr×Obj)}{σ:St}{H:Hp}{s:Shared}{a:Addr}{y:V}{o:Option V}(I:Inv X pins σ H s)(g:oF H a y o):s.TypeIs (.ref a) "dict":=by
 rcases g with⟨kvs,k,e,_,_⟩ |⟨kvs,k,b,e,_,_,_⟩
 ·obtain⟨_,_,vs,_,dd⟩:=wc I.hok e
  exact dd.typeIs
 ·obtain⟨_,_,xs,_,dd⟩:=AL I.hok e
  exact dd.typeIs
def UB(td ty:TE):TE:=fun σ H Q=>td σ H fun x H1=>ty σ H1 fun y H2=>∃a v,x=.ref a∧oF H2 a y (some v)∧Q v H2
def Xa(ty td:TE):TE:=fun σ H Q=>ty σ H fun y H1=>td σ H1 fun x H2=>∃a o,x=.ref a∧oF H2 a y o∧Q (.bl o.isSome) H2
def OZ(ty td:TE):TE:=fun σ H Q=>ty σ H fun y H1=>td σ H1 fun x H2=>∃a o,x=.ref a∧oF H2 a y o∧Q (.bl (!o.isSome)) H2
def Qw(td ty tv:TE):TS:=fun D σ H=>tv σ H fun v H1=>td σ H1 fun x H2=>ty σ H2 fun y H3=>∃a H4,x=.ref a∧B9 H3 a y v H4∧D.nx σ H4
section
variable{X:Cx}{o i e value:Expr}{pos pos' tpos:Pos}{td ty tv:TE}
theorem O0(hu:X.A.units+1<cLine)(ho:PE X o td)(hi:PE X i ty)(hs:UA i):PE X (.Subscript o i pos) (UB td ty):=by
 intro pins s σ H Q I h
 refine OY PySem.F.slot_dict_getitem.lookup hs (dX (ho pins s σ H _ I h) fun u s1 ⟨x,H1,I1,rx,q1⟩=>dX (hi pins s1 σ H1 _ I1 q1) fun iv s2 ⟨y,H2,I2,ry,a,v,ex,g,q2⟩=>?_)
 subst ex
 obtain rfl:u=Value.ref a:=rx
 exact⟨Hx I2 g,LI hu I2 g ry fun w' s3 I3 rw'=>⟨v,H2,I3,rw',q2⟩⟩
theorem Nc(hu:X.A.units+1<cLine)(hi:PE X i ty)(ho:PE X o td):PC X .In i o (Xa ty td):=by
 intro pins s σ H Q I h
 refine dX (hi pins s σ H _ I h) fun iv s1 ⟨y,H1,I1,ry,q1⟩=>dX (ho pins s1 σ H1 _ I1 q1) fun u s2 ⟨x,H2,I2,rx,a,ov,ex,g,q2⟩=>?_
 subst ex
 obtain rfl:u=Value.ref a:=rx
 exact W_ hu I2 g ry fun s3 I3=>⟨.bl ov.isSome,H2,I3,rfl,q2⟩
theorem LK(hu:X.A.units+1<cLine)(hi:PE X i ty)(ho:PE X o td):PC X .NotIn i o (OZ ty td):=by
 intro pins s σ H Q I h
 refine dX (hi pins s σ H _ I h) fun iv s1 ⟨y,H1,I1,ry,q1⟩=>dX (ho pins s1 σ H1 _ I1 q1) fun u s2 ⟨x,H2,I2,rx,a,ov,ex,g,q2⟩=>?_
 subst ex
 obtain rfl:u=Value.ref a:=rx
 exact OX hu I2 g ry fun s3 I3=>⟨.bl (!ov.isSome),H2,I3,rfl,q2⟩
theorem yE(hu:X.A.units+1<cLine)(ho:PE X o td)(hi:PE X i ty)(hv:PE X value tv)(hs:swapsWith value (some (.Subscript o i pos')) pos.line X.env=pure false):PS X (.Assign [.Subscript o i pos'] value pos) (Qw td ty tv):=by
 intro pins s σ H D I h
 refine wpAny_Assign_Subscript (dX (hv pins s σ H _ I h) fun r s1 ⟨v,H1,I1,rv,q1⟩=>dX (ho pins s1 σ H1 _ I1 q1) fun u s2 ⟨x,H2,I2,rx,q2⟩=>dX (hi pins s2 σ H2 _ I2 q2) fun iv s3 ⟨y,H3,I3,ry,a,H4,ex,g,q3⟩=>?_) hs
 subst ex
 obtain rfl:u=Value.ref a:=rx
 exact LJ hu I3 g ry rv fun s4 I4=>⟨σ,H4,I4,q3⟩
end
theorem Nd{P:Program}{w:World}{H:Hp}(h:Heap)(hb:sysModules<h.objs.size):ff P w H (h.push {cls:=.type "dict",data:=.dict #[]}) h.objs.size (.dK []):=
 ⟨aa0 _,aaW.mpr (acn (aaI hb)),[],.nil,Heap.DictOf.new h⟩
theorem Nf{P:Program}{w:World}{H:Hp}(h:Heap)(hb:sysModules<h.objs.size):ff P w H (h.push {cls:=.type "dict",data:=.dict #[]}) h.objs.size (.dT []):=
 ⟨aa0 _,aaW.mpr (acn (aaI hb)),[],.nil,_,#[],0,aaw _ rfl,⟨rfl,rfl,rfl⟩,rfl,rfl,List.nodup_nil⟩
def Rn:TE:=fun _ H Q=>∀p,H p=none→Q (.ref p) (upd H p (.dK []))
def Ro:TE:=fun _ H Q=>∀p,H p=none→Q (.ref p) (upd H p (.dT []))
section
variable{X:Cx}{pos:Pos}
theorem Hy:PE X (.Dict [] [] pos) Rn:=fun pins s σ H Q I h=>
 wpAny_Dict_empty ⟨.ref s.heap.objs.size,_,I.laid (a:=s.heap.objs.size) (o:=.dK []) (t':=s.toks) (fun _ _ q=>D8 _ q) (D9 _) (Nd s.heap I.big),rfl,h _ (I.hok.fresh (D9 _))⟩
theorem Ng:PE X (.Dict [] [] pos) Ro:=fun pins s σ H Q I h=>
 wpAny_Dict_empty ⟨.ref s.heap.objs.size,_,I.laid (a:=s.heap.objs.size) (o:=.dT []) (t':=s.toks) (fun _ _ q=>D8 _ q) (D9 _) (Nf s.heap I.big),rfl,h _ (I.hok.fresh (D9 _))⟩
end
structure M1(X:Cx)(o:Expr)(m:Str)(apos:Pos)(e:Expr)(cpos:Pos):Prop where
 base:attributeBase o m X.env (eval o X.env)=eval o X.env
 few:((backTo cpos (starEach [e] X.env)).all (fun x=> !x.1)&&(backToKw cpos (keywordEach [] X.env)).all (fun x=>x.1.isSome)&&decide (([e]:List Expr).length+([]:List Keyword).length+(if([]:List Keyword).isEmpty then 0 else 1)<30))=true
 line:(apos.endLine==cpos.line)=true
 trees:backTo cpos (starEach [e] X.env)=[(false,eval e X.env)]
structure M2(X:Cx)(o:Expr)(m:Str)(apos:Pos)(e f:Expr)(cpos:Pos):Prop where
 base:attributeBase o m X.env (eval o X.env)=eval o X.env
 few:((backTo cpos (starEach [e,f] X.env)).all (fun x=> !x.1)&&(backToKw cpos (keywordEach [] X.env)).all (fun x=>x.1.isSome)&&decide (([e,f]:List Expr).length+([]:List Keyword).length+(if([]:List Keyword).isEmpty then 0 else 1)<30))=true
 line:(apos.endLine==cpos.line)=true
 trees:backTo cpos (starEach [e,f] X.env)=[(false,eval e X.env),(false,eval f X.env)]
def Xb(H:Hp)(a:Addr):Prop:=(∃kvs,Rd H a (.dK kvs))∨∃kvs,Rd H a (.dT kvs)
theorem Nh{X:Cx}{pins:List (Addr×Obj)}{σ:St}{H:Hp}{s:Shared}{a:Addr}(I:Inv X pins σ H s)(d:Xb H a):s.TypeIs (.ref a) "dict"∧(∀b,Value.ref a=.ref b→∃ob,s.heap.get? b=some ob∧ob.dict=none)∧(a==sysModules)=false:=by
 rcases d with⟨kvs,e⟩ |⟨kvs,e⟩
 ·obtain⟨_,hd,vs,_,dd⟩:=wc I.hok e
  refine⟨dd.typeIs,fun b q=>?_,hd⟩
  cases q
  obtain⟨ob,_,_,h1,h2,_⟩:=dd
  exact⟨ob,h1,h2.2.1⟩
 ·obtain⟨_,hd,xs,_,dd⟩:=AL I.hok e
  refine⟨dd.typeIs,fun b q=>?_,hd⟩
  cases q
  obtain⟨ob,_,_,h1,h2,_⟩:=dd
  exact⟨ob,h1,h2.2.1⟩
section
variable{X:Cx}{pins:List (Addr×Obj)}{σ:St}{H:Hp}{s:Shared}{a:Addr}{y d:V}{u r:Value}{o:Option V}{A:Around}{E:Value→Shared→Prop}
theorem Rp{Q:Value→Shared→Prop}(hu:A.units+1<cLine)(I:Inv X pins σ H s)(g:oF H a y o)(ry:RelV y u)(h:∀w' s',Inv X pins σ H s'→RelV (o.getD .lJ) w'→Q w' s'):wpAny (model X.prog X.w) A (call (.builtin "dict.get") [.ref a,u]) Q E s:=by
 rcases g with⟨kvs,k,e,ey,l⟩ |⟨kvs,k,b,e,ey,eb,l⟩
 ·subst ey
  obtain⟨z,hd,vs,rel,dd⟩:=wc I.hok e
  refine call_meetsIn abK dd.typeIs aci (PySem.F.args_dict_get_2 _ _) (meets_dict_get (cQ X.prog X.w) a (B8 ry) hd) ⟨_,dd.mapOf,h _ _ (I.tok _) ?_⟩
  rw[l]
  exact(rel.val k).getD rfl
 ·subst ey
  cases(show u=Value.ref b from ry)
  obtain⟨z,hd,xs,rel,dd⟩:=AL I.hok e
  refine call_meetsIn abK dd.typeIs aci (PySem.F.args_dict_get_2 _ _) (meetsH_dict_get (tupleKind (cQ X.prog X.w)) a b hd) ⟨abX hu,k,xs,w6 I.hok eb,dd,h _ _ (I.tok _) ?_⟩
  rw[l]
  exact(rel.val k).getD rfl
theorem Rq{Q:Value→Shared→Prop}(hu:A.units+1<cLine)(I:Inv X pins σ H s)(g:oF H a y o)(ry:RelV y u)(rd:RelV d r)(h:∀w' s',Inv X pins σ H s'→RelV (o.getD d) w'→Q w' s'):wpAny (model X.prog X.w) A (call (.builtin "dict.get") [.ref a,u,r]) Q E s:=by
 rcases g with⟨kvs,k,e,ey,l⟩ |⟨kvs,k,b,e,ey,eb,l⟩
 ·subst ey
  obtain⟨z,hd,vs,rel,dd⟩:=wc I.hok e
  refine call_meetsIn abK dd.typeIs aci (PySem.F.args_dict_get_3 _ _ _) (meets_dict_get_default (cQ X.prog X.w) a (B8 ry) hd r) ⟨_,dd.mapOf,h _ _ (I.tok _) ?_⟩
  rw[l]
  exact(rel.val k).getD rd
 ·subst ey
  cases(show u=Value.ref b from ry)
  obtain⟨z,hd,xs,rel,dd⟩:=AL I.hok e
  refine call_meetsIn abK dd.typeIs aci (PySem.F.args_dict_get_3 _ _ _) (meetsH_dict_get_default (tupleKind (cQ X.prog X.w)) a b hd r) ⟨abX hu,k,xs,w6 I.hok eb,dd,h _ _ (I.tok _) ?_⟩
  rw[l]
  exact(rel.val k).getD rd
end
def Rr(td ty:TE):TE:=fun σ H Q=>td σ H fun x H1=>∃a,x=.ref a∧Xb H1 a∧ty σ H1 fun y H2=>∃o,oF H2 a y o∧Q (o.getD .lJ) H2
def Rt(td ty tx:TE):TE:=fun σ H Q=>td σ H fun x H1=>∃a,x=.ref a∧Xb H1 a∧ty σ H1 fun y H2=>tx σ H2 fun z H3=>∃o,oF H3 a y o∧Q (o.getD z) H3
section
variable{X:Cx}{o e f:Expr}{apos cpos:Pos}{td ty tx:TE}
theorem Hz(hu:X.A.units+1<cLine)(ho:PE X o td)(he:PE X e ty)(m:M1 X o "get" apos e cpos):PE X (.Call (.Attribute o "get" apos) [e] [] cpos) (Rr td ty):=by
 intro pins s σ H Q I h
 refine wpAny_Call_method m.base m.few m.line PySem.F.plainAttrs_dict abK PySem.F.type_dict_get (dX (ho pins s σ H _ I h) fun u s1 ⟨x,H1,I1,rx,a,ex,d,q1⟩=>?_)
 subst ex
 obtain rfl:u=Value.ref a:=rx
 obtain⟨t1,t2,_⟩:=Nh I1 d
 refine⟨t1,t2,?_⟩
 rw[m.trees]
 refine Calls.callWith_builtin rfl (Calls.evalArgs_plain (ach (dX (he pins s1 σ H1 _ I1 q1) fun iv s2 ⟨y,H2,I2,ry,ov,g,q2⟩=>Calls.spliced_nil ?_)))
 exact Rp hu I2 g ry fun w' s3 I3 rw'=>⟨_,H2,I3,rw',q2⟩
theorem Ni(hu:X.A.units+1<cLine)(ho:PE X o td)(he:PE X e ty)(hf:PE X f tx)(m:M2 X o "get" apos e f cpos):PE X (.Call (.Attribute o "get" apos) [e,f] [] cpos) (Rt td ty tx):=by
 intro pins s σ H Q I h
 refine wpAny_Call_method m.base m.few m.line PySem.F.plainAttrs_dict abK PySem.F.type_dict_get (dX (ho pins s σ H _ I h) fun u s1 ⟨x,H1,I1,rx,a,ex,d,q1⟩=>?_)
 subst ex
 obtain rfl:u=Value.ref a:=rx
 obtain⟨t1,t2,_⟩:=Nh I1 d
 refine⟨t1,t2,?_⟩
 rw[m.trees]
 refine Calls.callWith_builtin rfl (Calls.evalArgs_plain (ach (dX (he pins s1 σ H1 _ I1 q1) fun iv s2 ⟨y,H2,I2,ry,q2⟩=>ach (dX (hf pins s2 σ H2 _ I2 q2) fun fv s3 ⟨z,H3,I3,rz,ov,g,q3⟩=>Calls.spliced_nil ?_))))
 exact Rq hu I3 g ry rz fun w' s4 I4 rw'=>⟨_,H3,I4,rw',q3⟩
end
section
variable{X:Cx}{pins:List (Addr×Obj)}{σ:St}{H:Hp}{s:Shared}{a:Addr}{kvs:List (Key×V)}{A:Around}{E:Value→Shared→Prop}
theorem Nj{Q:Value→Shared→Prop}(I:Inv X pins σ H s)(e:Rd H a (.dK kvs))(h:∀p s',H p=none→Inv X pins σ (upd H p (.dK kvs)) s'→Q (.ref p) s'):wpAny (model X.prog X.w) A (call (.type "dict") [.ref a]) Q E s:=by
 obtain⟨z,hd,vs,rel,dd⟩:=wc I.hok e
 refine kt_call_dict hd dd (by rw[←rel.length];exact z) fun h' Te hs=>?_
 refine h _ _ (I.hok.fresh (D9 _)) (I.laid (a:=s.heap.objs.size) (o:=.dK kvs) (t':=s.toks) (fun b q hq=>?_) (D9 _) (Nb z (aaW.mpr (acn (aaI I.big))) rel Te))
 exact(hs.2 b (aaI (aaq hq))).trans (D8 _ hq)
end
section
variable{X:Cx}{pins:List (Addr×Obj)}{σ:St}{H:Hp}{s:Shared}{a:Addr}{y:V}{u:Value}{A:Around}{E:Value→Shared→Prop}
end
end L2
namespace L2
open PySem PySem.Spec PyProof.Rows
section
variable{prog:Program}{w:World}{A:Around}{E:Value→Shared→Prop}
end
section
variable{X:Cx}
end
end L2
namespace L2
open PySem PySem.Spec PyProof.Rows
section
variable{X:Cx}{pins:List (Addr×Obj)}{σ:St}{H:Hp}{s:Shared}{h':Heap}
theorem Inv.KG{t':Nat}{ch:List Addr}(I:Inv X pins σ H s)(k:∀b o,b∉ch→s.heap.get? b=some o→h'.get? b=some o)(hf:∀b∈ch,A2 X pins H b):Inv X pins σ H {s with heap:=h',toks:=t'}:=by
 have Qi:∀b u,H b=some u→b∉ch:=fun b u e z=>by
  have q:=(hf b z).1
  rw[q]at e;cases e
 refine I.step (g':=s.gens) (d':=s.drawn) (ch:=ch) (fun b hb=>⟨(hf b hb).2.2.2.1,(hf b hb).2.1,(hf b hb).2.2.2.2.1,(hf b hb).2.2.2.2.2⟩) (fun b o _ _ hc e _=>k b o hc e) (fun b o _ _ hc e _=>⟨o.slots,k b o hc e⟩)
  (fun _ _ _ _ n=>n) (fun b o hc e=>⟨o,k b o hc e⟩) (fun _ _ e=>e) (fun _ _ _ e=>e) (fun b ps e=>⟨#[],by rw[e];simp⟩) (fun m hm=>?_) (fun b u e=>?_) I.bare
 ·obtain⟨o,es,ep,ho,r⟩:=hm
  exact⟨o,es,ep,k _ o (fun z=>(hf _ z).2.1 rfl) ho,r⟩
 ·refine(I.hok b u e).stay (fun c v hc q=>k c v ?_ q) (fun _ q=>q) fun _ _ q=>q
  rcases hc with z |z
  ·rw[z];exact Qi b u e
  ·exact Qi c _ z
theorem Inv.vz{t':Nat}{ch:List Addr}{T:Addr}{ob:HO}(I:Inv X pins σ H s)(k:∀b o,b∉ch→s.heap.get? b=some o→h'.get? b=some o)(hf:∀b∈ch,A2 X pins H b)(hT:s.heap.objs.size≤T)(new:ff X.prog X.w (upd H T ob) h' T ob):Inv X pins σ (upd H T ob) {s with heap:=h',toks:=t'}:=by
 have hn:H T=none:=I.hok.fresh hT
 have Qi:∀b u,H b=some u→b∉ch:=fun b u e z=>by
  have q:=(hf b z).1
  rw[q]at e;cases e
 refine I.step (g':=s.gens) (d':=s.drawn) (ch:=ch) (fun b hb=>⟨(hf b hb).2.2.2.1,(hf b hb).2.1,(hf b hb).2.2.2.2.1,(hf b hb).2.2.2.2.2⟩) (fun b o _ _ hc e _=>k b o hc e) (fun b o _ _ hc e _=>⟨o.slots,k b o hc e⟩)
  (fun b o _ e n=>?_) (fun b o hc e=>⟨o,k b o hc e⟩) (fun b xs e=>?_) (fun b o u e=>?_) (fun b ps e=>⟨#[],?_⟩) (fun m hm=>?_) (fun b u e=>?_) I.bare
 ·rw[aq (aaI (aaF (aaq e) hT))];exact n
 ·rw[aq (aA e hn)];exact e
 ·rw[aq (aA e hn)];exact e
 ·rw[aq (aA e hn),e];simp
 ·obtain⟨o,es,ep,ho,r⟩:=hm
  exact⟨o,es,ep,k _ o (fun z=>(hf _ z).2.1 rfl) ho,r⟩
 ·by_cases hb:b=T
  ·subst hb
   rw[af]at e
   cases e
   exact new
  ·rw[aq hb]at e
   refine(I.hok b u e).stay (fun c v hc q=>k c v ?_ q) (fun c q=>by rw[aq (aA q hn)];exact q) fun c xs q=>by rw[aq (aA q hn)];exact q
   rcases hc with z |z
   ·rw[z];exact Qi b u e
   ·exact Qi c _ z
theorem Inv.lock{d:Addr}{u:HO}(I:Inv X pins σ H s)(h:H d=some u)(mu:OE (some u)):∃od,Inv X pins σ (upd H d (.lX od u)) s:=by
 have x:=I.hok d u h
 have ex:∃od,s.heap.get? d=some od:=by
  cases u with
  |lst xs=>obtain⟨_,_,_,_,e⟩:=x;exact⟨_,e⟩
  |dK kvs=>obtain⟨_,_,_,_,o,_,_,e,_⟩:=x;exact⟨o,e⟩
  |dT kvs=>obtain⟨_,_,_,_,o,_,_,e,_⟩:=x;exact⟨o,e⟩
  |set S n=>obtain⟨o,_,_,_,e,_⟩:=x;exact⟨o,e⟩
  |ins C dx fs=>obtain⟨_,_,_,e,_⟩:=x;exact⟨_,e⟩
  |ext φ=>obtain⟨_,⟨_,e⟩,_⟩:=x;exact⟨_,e⟩
  |_=>exact False.elim mu
 obtain⟨od,e⟩:=ex
 have new:ff X.prog X.w (upd H d (.lX od u)) s.heap d (.lX od u):=by
  refine⟨e,x.stay (fun b v _ q=>q) (fun b q=>?_) fun b xs q=>?_⟩
  ·rw[aq (fun z=>by rw[z,h]at q;cases q;exact mu)];exact q
  ·rw[aq (fun z=>by rw[z,h]at q;cases q;exact mu)];exact q
 exact⟨od,I.write (x:=d) (e:=d) (t':=s.toks) (h':=s.heap) (by rw[h];exact mu) (.inl rfl) (fun b v _ q=>q) ⟨od,e⟩ new⟩
theorem Inv.HA{d:Addr}{u:HO}(I:Inv X pins σ H s)(h:H d=some u)(mu:OE (some u)):∀o' u',X.QZ d≠some (.lX o' u'):=fun o' u' e=>by
 have q:=I.base.BQ d o' u' e
 rw[h]at q
 cases q
 exact mu
theorem Inv.unlock{d:Addr}{od:Obj}{u:HO}(I:Inv X pins σ H s)(h:H d=some (.lX od u))(hn:∀o' u',X.QZ d≠some (.lX o' u')):Inv X pins σ (upd H d u) s:=by
 have Tf:∀b o,H b=some o→(∀o' u',o≠ .lX o' u')→b≠d:=fun b o e hne z=>by
  rw[z,h]at e
  cases e
  exact hne _ _ rfl
 have neN:∀b,H b=none→b≠d:=fun b e z=>by rw[z,h]at e;cases e
 refine⟨I.ok,I.os,I.bare,⟨I.base.keep,I.base.slot,fun b o e n hx=>?_,I.base.there,fun b xs e=>?_,fun b o x e=>?_,fun b ps e=>?_⟩,I.loc,I.cell,?_,fun x c e=>?_,fun p hp=>?_,fun b o e=>?_,I.len⟩
 ·rw[aq (neN b (I.base.free b o e n hx))];exact I.base.free b o e n hx
 ·have q:=I.base.tups b xs e
  rw[aq (Tf b _ q (fun _ _ z=>nomatch z))];exact q
 ·have q:=I.base.BQ b o x e
  rw[aq (fun z=>by rw[z]at e;exact hn _ _ e)];exact q
 ·obtain⟨m,q⟩:=I.base.Dy b ps e
  exact⟨m,by rw[aq (Tf b _ q (fun _ _ z=>nomatch z))];exact q⟩
 ·rw[aq (neN _ I.free)];exact I.free
 ·rw[aq (neN c (I.qC x c e))];exact I.qC x c e
 ·obtain⟨e,n,r⟩:=I.pin p hp
  exact⟨e,by rw[aq (neN _ n)];exact n,r⟩
 ·by_cases hb:b=d
  ·rw[hb,af]at e
   cases e
   rw[hb]
   obtain⟨_,x⟩:=I.hok d _ h
   exact x.stay (fun c v _ q=>q) (fun c q=>by rw[aq (Tf c _ q (fun _ _ z=>nomatch z))];exact q) fun c xs q=>by rw[aq (Tf c _ q (fun _ _ z=>nomatch z))];exact q
  ·rw[aq hb]at e
   exact(I.hok b o e).stay (fun c v _ q=>q) (fun c q=>by rw[aq (Tf c _ q (fun _ _ z=>nomatch z))];exact q) fun c xs q=>by rw[aq (Tf c _ q (fun _ _ z=>nomatch z))];exact q
end
def UC(t:TS):TS:=fun D σ H=>∃d u,H d=some u∧OE (some u)∧∀od,t ⟨fun σ' H'=>H' d=some (.lX od u)∧D.nx σ' (upd H' d u),fun v H'=>H' d=some (.lX od u)∧D.rt v (upd H' d u),fun σ' H'=>H' d=some (.lX od u)∧D.bk σ' (upd H' d u),fun σ' H'=>H' d=some (.lX od u)∧D.ct σ' (upd H' d u)⟩ σ (upd H d (.lX od u))
def Ru(t:TE):TE:=fun σ H Q=>∃d u,H d=some u∧OE (some u)∧∀od,t σ (upd H d (.lX od u)) fun v H'=>H' d=some (.lX od u)∧Q v (upd H' d u)
section
variable{X:Cx}
theorem O1{st:Stmt}{t:TS}(h:PS X st t):PS X st (UC t):=by
 intro pins s σ H D I hw
 obtain⟨d,u,hd,mu,hw⟩:=hw
 obtain⟨od,I1⟩:=I.lock hd mu
 refine dX (h pins s σ _ _ I1 (hw od)) fun f s1 q=>?_
 cases f with
 |next=>obtain⟨σ',H',I2,e,q⟩:=q;exact⟨σ',_,I2.unlock e (I.HA hd mu),q⟩
 |brk=>obtain⟨σ',H',I2,e,q⟩:=q;exact⟨σ',_,I2.unlock e (I.HA hd mu),q⟩
 |cont=>obtain⟨σ',H',I2,e,q⟩:=q;exact⟨σ',_,I2.unlock e (I.HA hd mu),q⟩
 |ret v=>obtain⟨x,σ',H',I2,r,e,q⟩:=q;exact⟨x,σ',_,I2.unlock e (I.HA hd mu),r,q⟩
theorem O2{e:Expr}{t:TE}(h:PE X e t):PE X e (Ru t):=by
 intro pins s σ H Q I hw
 obtain⟨d,u,hd,mu,hw⟩:=hw
 obtain⟨od,I1⟩:=I.lock hd mu
 refine dX (h pins s σ _ _ I1 (hw od)) fun v s1 ⟨x,H1,I2,r,e2,q⟩=>?_
 exact⟨x,_,I2.unlock e2 (I.HA hd mu),r,q⟩
theorem Rv{tg:Expr}{pins:List (Addr×Obj)}{σ:St}{H:Hp}{s:Shared}{R:It→Hp→Prop}{J:It}{tn:Nat→Heap→Prop}{tk:Nat}(I:Inv X pins σ H s)(o:Obj)(T:Turn X.prog X.w X.K tg J [s.heap.objs.size] s.heap.objs.size tn)(st:tn 0 (s.heap.push o))(q:R J H):V8 X pins σ tg R (.ref s.heap.objs.size) {s with heap:=s.heap.push o,toks:=tk}:=by
 refine⟨s.heap.objs.size,[s.heap.objs.size],tn,J,H,rfl,I.kept fun b ob e=>D8 _ e,T,st,fun b hb=>?_,q⟩
 have e:b=s.heap.objs.size:=by simpa using hb
 subst e
 exact I.Jh (D9 _) (I.hok.fresh (D9 _))
end
section
variable{X:Cx}{tg:Expr}
end
section
variable{X:Cx}{tg:Expr}
end
section
variable{prog:Program}{w:World}{A:Around}{E:Value→Shared→Prop}{s:Shared}
end
theorem Jt{α β:Type}{G:α→β→Prop}{l₁:List α}{l₂:List β}(h:Paired G l₁ l₂):∀{i:Nat} {a:α},l₁[i]?=some a→∃b,l₂[i]?=some b∧G a b:=by
 induction h with
 |nil=>intro i a e;simp at e
 | @cons a b l₁ l₂ r t ih=>
   intro i a' e
   cases i with
   |zero=>
    simp only[List.getElem?_cons_zero,Option.some.injEq]at e
    subst e
    exact⟨b,rfl,r⟩
   |succ j=>
    simp only[List.getElem?_cons_succ]at e⊢
    exact ih e
section
variable{X:Cx}{pins:List (Addr×Obj)}{σ:St}{H:Hp}{s:Shared}{d:Addr}{o:Obj}
end
theorem KH{o:Obj}{es es':Array DictEntry}{ep OH:Nat}(h:o.data=.dict es ep)(h':o.data=.dict es' OH):es'=es∧OH=ep:=by
 rw[h]at h'
 cases h'
 exact⟨rfl,rfl⟩
section
variable{P:Program}{w:World}{K:W.Frag}{tg:Expr}{d:Addr}{o:Obj}{es:Array DictEntry}{ep:Nat}
end
section
variable{X:Cx}{tg e:Expr}{td:TE}{apos cpos:Pos}
end
theorem EL:bootBuiltins "zip"=some (.type "zip"):=by decide+kernel
def Tg(K:W.Frag)(a b:Addr):It:=
 ⟨fun i H=>∃(xs ys:List V) (x y:V),bD K H a xs∧bD K H b ys∧xs[i]?=some x∧ys[i]?=some y,fun i H v H'=>∃T x y,v=.ref T∧H T=none∧H'=upd H T (.tup [x,y])∧(∀xs,bD K H a xs→xs[i]?=some x)∧∀ys,bD K H b ys→ys[i]?=some y,fun i H=>∃xs ys:List V,bD K H a xs∧bD K H b ys∧(xs.length≤i∨ys.length≤i)⟩
theorem Nk{P:Program}{w:World}{K:W.Frag}{elts:List Expr}{kk:Nat}{tpos:Pos}{a b z TI TO i1 i2:Addr}(D:ZipApart z TI TO i1 i2 a b):Turn P w K (.Tuple elts kk tpos) (Tg K a b) [z,TI,TO,i1,i2] z (fun i h=>IsZip h z TI TO .none∧IsPair h TI (.ref i1) (.ref i2)∧(∃x y,IsPair h TO x y)∧h.IsListIter i1 a i∧h.IsListIter i2 b i) where
 mem:=by simp
 obj:=fun i h st c hc=>by
  obtain⟨hz,hTI,⟨x,y,hTO⟩,⟨o1,e1,_,d1⟩,⟨o2,e2,_,d2⟩⟩:=st
  have e':c=z∨c=TI∨c=TO∨c=i1∨c=i2:=by simpa using hc
  rcases e' with q |q |q |q |q
  ·rw[q];exact⟨_,hz,fun v q=>nomatch q⟩
  ·rw[q];exact⟨_,hTI,fun v q=>nomatch q⟩
  ·rw[q];exact⟨_,hTO,fun v q=>nomatch q⟩
  ·rw[q];exact⟨o1,e1,fun v q=>by rw[d1]at q;cases q⟩
  ·rw[q];exact⟨o2,e2,fun v q=>by rw[d2]at q;cases q⟩
 keep:=fun i h h' st k=>by
  obtain⟨hz,hTI,⟨x,y,hTO⟩,h1,h2⟩:=st
  exact⟨k z (by simp) _ hz,k TI (by simp) _ hTI,⟨x,y,k TO (by simp) _ hTO⟩,h1.at fun o q=>k i1 (by simp) o q,h2.at fun o q=>k i2 (by simp) o q⟩
 item:=by
  intro X hP hw hK hc i pins s σ H E I hf st hg
  subst hP hw hK
  obtain⟨hz,hTI,⟨x0,y0,hTO⟩,h1,h2⟩:=st
  obtain⟨xs,ys,x,y,LL,Nl,hx,hy⟩:=hg
  obtain⟨its,rv,p,_⟩:=I.list LL
  obtain⟨its2,Rw,p2,_⟩:=I.list Nl
  obtain⟨u,hu,ru⟩:=rv.get hx
  obtain⟨u2,UD,UE⟩:=Rw.get hy
  have Zl:z<s.heap.objs.size:=aaq hz
  refine wpAny_pyNext_zip_item D hz hTI hTO h1 h2 p.isList p2.isList (x:=u) (y:=u2) (by simpa using hu) (by simpa using UD) fun h' z' TO' UG h2' hT hsz hk=>?_
  refine⟨_,rfl,wpAny_letOwnedTupleGo_zip (s:={s with heap:=h'}) z' fun h'' z'' sb=>?_⟩
  have hT2:h''.get? s.heap.objs.size=some {cls:=.type "tuple",data:=.seq #[u,u2]}:=(sb.2 _ (abW Zl)).trans hT
  have new:ff X.prog X.w (upd H s.heap.objs.size (.tup [x,y])) h'' s.heap.objs.size (.tup [x,y]):=
   ⟨by show 2≤sizeLine;decide,[u,u2],.cons ru (.cons UE .nil),⟨_,hT2,rfl,_,rfl⟩⟩
  have I1:Inv X pins σ (upd H s.heap.objs.size (.tup [x,y])) {s with heap:=h''}:=
   I.vz (t':=s.toks) (ch:=[z,TI,TO,i1,i2]) (fun c o hb q=>(sb.2 c (fun q'=>hb (by simp[q']))).trans (hk c o (fun q'=>hb (by simp[q'])) (fun q'=>hb (by simp[q'])) (fun q'=>hb (by simp[q'])) (fun q'=>hb (by simp[q'])) q)) hf (D9 _) new
  refine⟨.ref s.heap.objs.size,_,I1,rfl,⟨_,x,y,rfl,I.hok.fresh (D9 _),rfl,fun l hl=>by rw[I.tR hl LL];exact hx,fun l hl=>by rw[I.tR hl Nl];exact hy⟩,⟨z'',?_,⟨u,u2,?_⟩,?_,?_⟩,fun c O3=>?_⟩
  ·exact(sb.2 _ D.TIz).trans (hk _ _ D.TIz D.TITO D.TIi1 D.TIi2 hTI)
  ·exact(sb.2 _ D.TOz).trans TO'
  ·exact UG.at fun o q=>(sb.2 _ D.i1z).trans q
  ·exact h2'.at fun o q=>(sb.2 _ D.i2z).trans q
  ·have hlt:c<s.heap.objs.size:=by
    have e':c=z∨c=TI∨c=TO∨c=i1∨c=i2:=by simpa using O3
    rcases e' with q |q |q |q |q
    ·rw[q];exact Zl
    ·rw[q];exact aaq hTI
    ·rw[q];exact aaq hTO
    ·rw[q];obtain⟨_,e1,_⟩:=h1;exact aaq e1
    ·rw[q];obtain⟨_,e2,_⟩:=h2;exact aaq e2
   rw[aq (aaI hlt)]
   exact(hf c O3).1
 done:=by
  intro X hP hw hK hc i pins s σ H E I hf st hg
  subst hP hw hK
  obtain⟨hz,hTI,⟨x0,y0,hTO⟩,h1,h2⟩:=st
  obtain⟨xs,ys,LL,Nl,hend⟩:=hg
  obtain⟨its,rv,p,_⟩:=I.list LL
  obtain⟨its2,Rw,p2,_⟩:=I.list Nl
  have l1:=rv.length
  have l2:=Rw.length
  have he:its.toArray[i]?=none∨its2.toArray[i]?=none:=by
   rcases hend with q |q
   ·exact .inl (by simp;omega)
   ·exact .inr (by simp;omega)
  exact wpAny_pyNext_zip_end (I.ok.hd hc) D hz hTI hTO h1 h2 p.isList p2.isList he fun h' hk=>⟨rfl,I.KG (t':=s.toks) (ch:=[z,TI,TO,i1,i2]) (fun c o hb q=>hk c o (fun q'=>hb (by simp[q'])) (fun q'=>hb (by simp[q'])) (fun q'=>hb (by simp[q'])) (fun q'=>hb (by simp[q'])) q) hf⟩
 self:=fun A i s Q E st h=>wpAny_pyIter_zip st.1 h
def Xc(K:W.Frag)(ta:TA):TI:=fun σ H R=>ta σ H fun vs H1=>∃a b xs ys,vs=[.ref a,.ref b]∧bD K H1 a xs∧bD K H1 b ys∧R (Tg K a b) H1
theorem FL{X:Cx}{e e2:Expr}{ta:TA}{p pos tpos:Pos}{elts:List Expr}{kk:Nat}(hg:Gl X "zip")(hm:X.mg "zip"=none)(ha:PA X [e,e2] ta)(hs:starEach [e,e2] X.env=(false,eval e X.env)::starEach [e2] X.env:=by rfl)(hpl:(backTo pos (starEach [e2] X.env)).any (·.1)=false:=by rfl):PI X (.Tuple elts kk tpos) (.Call (.Name "zip" p) [e,e2] [] pos) (Xc X.K ta):=by
 intro pins s σ H R I h
 refine Call_ (tQ I hg hm EL (abE (dX (ha pos pins s σ H _ I h) fun us s1 ⟨vs,H1,I1,r1,q1⟩=>?_) hs hpl))
 obtain⟨a,b,xs,ys,ex,LL,Nl,q⟩:=q1
 subst ex
 cases r1 with
 |cons r rr=>
  cases rr with
  |cons r' rr=>
   cases rr
   cases r
   cases r'
   obtain⟨its,rv,p1,_⟩:=I1.list LL
   obtain⟨its2,Rw,p2,_⟩:=I1.list Nl
   have la:a<s1.heap.objs.size:=p1.lt
   have lb:b<s1.heap.objs.size:=p2.lt
   refine call_zip_2 p1.isList p2.isList fun h' hz hTI hTO h1 h2 hsz hk=>wpAny_pyIter_zip hz ?_
   have I2:Inv X pins σ H1 {s1 with heap:=h'}:=I1.kept (t':=s1.toks) hk
   refine⟨s1.heap.objs.size+4,[s1.heap.objs.size+4,s1.heap.objs.size+2,s1.heap.objs.size+3,s1.heap.objs.size,s1.heap.objs.size+1],_,_,H1,rfl,I2,Nk (W.ktu_apart s1.heap.objs.size a b la lb),⟨hz,hTI,⟨_,_,hTO⟩,h1,h2⟩,fun c O3=>?_,q⟩
   have e':c=s1.heap.objs.size+4∨c=s1.heap.objs.size+2∨c=s1.heap.objs.size+3∨c=s1.heap.objs.size∨c=s1.heap.objs.size+1:=by simpa using O3
   have hle:s1.heap.objs.size≤c:=by
    rcases e' with z |z |z |z |z
    ·rw[z];exact abI _ _
    ·rw[z];exact abI _ _
    ·rw[z];exact abI _ _
    ·rw[z];exact D9 _
    ·rw[z];exact abI _ _
   exact I1.Jh hle (I1.hok.fresh hle)
end L2
namespace Nm
open PySem PySem.W PySem.Calls PyProof.Rows
section
variable{prog:Program}{w:World}{A:Around}{E:Value→Shared→Prop}{s:Shared}{K:Frag}
def B_(h:Heap):Heap:={h with objs:=#[]}
theorem w9(h:Heap)(b:Addr):(B_ h).get? b=none:=by
 cases e:(B_ h).get? b with
 |none=>rfl
 |some o=>exact absurd (aaq e) (Nat.not_lt_zero _)
def ledger(h:Heap)(L d:Addr):List (Addr×Obj):=(List.range h.objs.size).filterMap fun a=>if a=L∨a=d then none else(h.get? a).map fun o=>(a,o)
theorem rB{h:Heap}{L d a:Addr}{o:Obj}:(a,o)∈ledger h L d↔a≠L∧a≠d∧h.get? a=some o:=by
 unfold ledger
 rw[abn]
 constructor
 ·rintro⟨b,_,e⟩
  split at e
  ·cases e
  ·rename_i hb
   obtain⟨o',ho,e'⟩:=Option.map_eq_some_iff.mp e
   cases e'
   exact⟨fun q=>hb (.inl q),fun q=>hb (.inr q),ho⟩
 ·rintro⟨n1,n2,ho⟩
  refine⟨a,abS.mpr (aaq ho),?_⟩
  rw[D6 (show ¬(a=L∨a=d)from fun q=>q.elim n1 n2),ho]<;>rfl
theorem Rx{h:Heap}{L:Addr}{m:Str→Option Value}(n:h.Ns L m):Fr (B_ h) L h m:=
 ⟨n,fun b o e=>(by rw[w9]at e;cases e),aa0 _⟩
end
end Nm
namespace L2
open PySem PySem.Spec PyProof.Rows
def inClass(s:Stmt)(j:Nat):Stmt:=match s with
 | .ClassDef _ _ _ body _ _ _ _ _ _ _=>body.getD j (.Pass ⟨0,0,0,0⟩)
 |_=>.Pass ⟨0,0,0,0⟩
def jA(s:Stmt):Arguments:=match s with
 | .FunctionDef _ a _ _ _ _ _ _ _ _=>a
 |_=>{posonlyargs:=[],args:=[],vararg:=none,kwonlyargs:=[],kw_defaults:=[],kwarg:=none,defaults:=[]}
def gZ(s:Stmt):List Stmt:=match s with
 | .FunctionDef _ _ b _ _ _ _ _ _ _=>b
 |_=>[]
def az(s:Stmt):Scope:=match s with
 | .FunctionDef _ _ _ _ _ _ sc _ _ _=>sc
 |_=>{kind:=.function,names:=[],isGenerator:=false,isCoroutine:=false}
abbrev fG:LD:=fun _ _ _ _ _ _=>False
abbrev E0:XK:=fun _ _ _=>False
theorem aI{X:Cx}:Passes fG X E0:=fun _ _ _ _ _ _ _ h=>h.elim
structure bI(K:W.Frag)(x qual:Str)(st:Stmt)(f:Addr)(fd:FuncData):Prop where
 ex:∃(oc:Value) (od:Option Addr) (kV doc pm:Value) (an:Option Addr) (cdv ct:Value) (osl:Array (Option Value)),
  fd=W.fnOf x qual (jA st) (gZ st) (az st) .none kV doc pm an cdv ct∧K.lookup f=some ⟨oc,od,.func fd,osl⟩∧W.codeIn K cdv qual=true
 kp:W.keepIn K (.ref f)=true
section
variable{P:Program}{w:World}{K:W.Frag}{mg:Str→Option Value}{base:Heap}
theorem bI.ok{x qual:Str}{st:Stmt}{f:Addr}{fd:FuncData}{N ps:List Str}{k:Nat}{sp:Sp}(F:bI K x qual st f fd)(S:aD N ps (az st))(len:∀vs H Q E,sp vs H Q E→vs.length=ps.length)(hbody:∀(cdv:Value) (A:Around) (outer:List Env) (s:Shared) (H:Hp) (vs:List V) (Q:VK) (E:XK),j8 k (A.deeper (envOfC qual (az st) s.heap.objs.size f cdv))→sp vs H Q E→∃t,Kr (Jp fG P w K mg base N qual (az st) f cdv A outer s H E).S7 (gZ st) t∧t {nx:=fun _ H'=>Q .lJ H',rt:=Q} (start N vs) H):bE P w K mg base fG (k+1) f fd ps sp:=by
 obtain⟨oc,od,kV,doc,pm,an,cdv,ct,osl,rfl,lk,hcd⟩:=F.ex
 refine Qt lk hcd S len fun A outer s H vs Q E hr Oi=>?_
 obtain⟨t,h,q⟩:=hbody cdv A outer s H vs Q E hr Oi
 exact⟨t,h.S7,q⟩
theorem bI.binds{x qual:Str}{st:Stmt}{f:Addr}{fd:FuncData}{ps:List Str}(F:bI K x qual st f fd)(h:∀(kV doc pm:Value) (an:Option Addr) (cdv ct:Value) (us:List Value),us.length=ps.length→bindArgs (W.fnOf x qual (jA st) (gZ st) (az st) .none kV doc pm an cdv ct) ⟨us,[]⟩=pure (ps.zip us)):Binds K fd ps []:=by
 obtain⟨oc,od,kV,doc,pm,an,cdv,ct,osl,rfl,lk,hcd⟩:=F.ex
 exact .all (h kV doc pm an cdv ct)
theorem Xd{x qual:Str}{st:Stmt}{f:Addr}{oc:Value}{od an:Option Addr}{osl:Array (Option Value)}{kV doc pm cdv ct:Value}(l:K.lookup f=some ⟨oc,od,.func (W.fnOf x qual (jA st) (gZ st) (az st) .none kV doc pm an cdv ct),osl⟩)(c:W.codeIn K cdv qual=true)(k:W.keepIn K (.ref f)=true):bI K x qual st f (W.fnOf x qual (jA st) (gZ st) (az st) .none kV doc pm an cdv ct):=⟨⟨oc,od,kV,doc,pm,an,cdv,ct,osl,rfl,l,c⟩,k⟩
end
theorem yF{A:Around}{k:Nat}(hr:j8 k A):A.units+1<cLine:=aaL (acz (by decide:1≤64) _) hr.units
section
variable{X:Cx}
theorem pv(i:Nat){x:Str}{pos:Pos}(hN:X.N[i]?=some x:=by rfl)(hv:Q0 X.env.scope x:=by first |exact Or.inl rfl |exact Or.inr (Or.inl rfl) |exact Or.inr (Or.inr rfl))(hd:(x==("__debug__":Str))=false:=by decide)(hcd:(x==("__classdict__":Str))=false:=by decide):PE X (.Name x pos) (j7 i):=MN hN hv hd hcd
theorem LM:qD X (.builtin "len") (fun xs H Q=>∃a kvs,xs=[V.ref a]∧H a=some (.dK kvs)∧Q (.int kvs.length) H):=by
 intro pins s σ H xs us Q I r h
 obtain⟨a,kvs,rfl,ha,q⟩:=h
 obtain⟨u,rfl,ru⟩:=vals1 r
 cases ru
 exact Uz I (.inl ha) fun t s' I'=>⟨.int kvs.length,H,I',⟨t,rfl⟩,q⟩
end
theorem Xe{c A B:Prop}[Decidable c](h1:c→A)(h2:¬c→B):if c then A else B:=by
 by_cases h:c
 ·rw[D7 h]
  exact h1 h
 ·rw[D6 h]
  exact h2 h
def ao(H H':Hp):Prop:=∀b o,H b=some o→H' b=some o
theorem ao.refl(H:Hp):ao H H:=fun _ _ h=>h
theorem ao.trans{H H1 H2:Hp}(a:ao H H1)(b:ao H1 H2):ao H H2:=fun c o h=>b c o (a c o h)
theorem ao.free{H H':Hp}(e:ao H H'){l:Addr}(h:H' l=Option.none):H l=Option.none:=by
 cases q:H l with
 |none=>rfl
 |some o=>
  rw[e l o q]at h
  cases h
theorem ao.seq{K:W.Frag}{H H':Hp}{a:Addr}{xs:List V}(e:ao H H')(h:bD K H a xs):bD K H' a xs:=by
 rcases h with(h |⟨o,h⟩) |h
 ·exact .inl (.inl (e _ _ h))
 ·exact .inl (.inr ⟨o,e _ _ h⟩)
 ·exact .inr h
section
variable{κ:Type}[DecidableEq κ]
end
theorem at_of{xs:List V}{z:Int}{j:Nat}{v:V}(e:z=(j:Int))(h:xs[j]?=some v):M7 xs z=some v:=by
 rw[e]
 exact OS h
end L2
section
section
namespace L2
open PySem PySem.Spec PyProof.Rows
open PySem.W (WData Codec OpenSpec Well WellAll ReadsW ReadsAllW)
mutual
inductive Dw(K:W.Frag)(H:Hp):V→WData→Prop
 |lJ:Dw K H .lJ .none
 |bl (b:Bool):Dw K H (.bl b) (.bool b)
 |int (i:Int):Dw K H (.int i) (.int i)
 |str (x:Str):Dw K H (.str x) (.str x)
 |G_ (b:Array UInt8):Dw K H (.G_ b) (.bytes b.toList)
 |lst {a:Addr} {xs:List V} {ds:List WData}:bD K H a xs→sA K H xs ds→Dw K H (.ref a) (.list ds)
 |tup {a:Addr} {xs:List V} {ds:List WData}:i6 K H a xs→sA K H xs ds→Dw K H (.ref a) (.tuple ds)
inductive sA(K:W.Frag)(H:Hp):List V→List WData→Prop
 |nil:sA K H [] []
 |cons {v:V} {vs:List V} {d:WData} {ds:List WData}:Dw K H v d→sA K H vs ds→sA K H (v::vs) (d::ds)
end
theorem KI{K:W.Frag}{H:Hp}:∀ns:List Int,sA K H (ns.map V.int) (ns.map WData.int)
 |[]=>.nil
 |n::r=>.cons (.int n) (KI r)
theorem KJ{K:W.Frag}{H:Hp}:∀(ns:List Int) (xs:List V),sA K H xs (ns.map WData.int)→xs=ns.map V.int
 |[],xs,h=>by
  cases h
  rfl
 |n::r,xs,h=>by
  cases h with
  |cons h1 h2=>
   cases h1
   rw[KJ r _ h2]<;>rfl
section
variable{P:Program}{w:World}{K:W.Frag}{H:Hp}{h:Heap}{R:W.WRecords}{cl:Str→Option Addr}
theorem Ry{a:Addr}{xs:List V}(hok:tK P w H h)(KX:K.In h)(q:bD K H a xs):∃(its:List Value) (o:Obj) (n:Nat),Vals xs its∧h.get? a=some o∧o.cls=.type "list"∧o.data=.seq its.toArray n:=by
 rcases q with q |⟨o,its,n,e,hc,_,hd,_,hv⟩
 ·obtain⟨_,its,n,hv,e⟩:=(show ff P w H h a (.lst xs)from q.ok hok)
  exact⟨its,_,n,hv,e,rfl,rfl⟩
 ·exact⟨its.toList,o,n,hv,KX _ _ e,hc,by simp[hd]⟩
theorem Rz{a:Addr}{xs:List V}(hok:tK P w H h)(KX:K.In h)(q:i6 K H a xs):∃(its:List Value) (o:Obj) (n:Nat),Vals xs its∧h.get? a=some o∧o.cls=.type "tuple"∧o.data=.seq its.toArray n:=by
 rcases q with q |⟨o,its,n,e,hc,hd,_,hv⟩
 ·obtain⟨_,its,hv,o,e,hc,n,hd⟩:=(show ff P w H h a (.tup xs)from q.ok hok)
  exact⟨its,o,n,hv,e,hc,hd⟩
 ·exact⟨its.toList,o,n,hv,KX _ _ e,hc,by simp[hd]⟩
mutual
theorem Dw.reads(hok:tK P w H h)(KX:K.In h):∀(d:WData) (v:V) (u:Value),Dw K H v d→RelV v u→∃as,ReadsW R cl h u d as
 | .none,_,_,x,r=>by
   cases x
   cases r
   exact⟨_,ReadsW.none⟩
 | .bool b,_,_,x,r=>by
   cases x
   cases r
   exact⟨_,ReadsW.bool b⟩
 | .int i,_,_,x,r=>by
   cases x
   obtain⟨t,rfl⟩:=r
   exact⟨_,ReadsW.int i t⟩
 | .str s,_,_,x,r=>by
   cases x
   obtain⟨t,rfl⟩:=r
   exact⟨_,ReadsW.str s t⟩
 | .bytes b,_,_,x,r=>by
   cases x
   obtain⟨t,rfl⟩:=r
   exact⟨_,ReadsW.bytes _ t⟩
 | .list ds,_,_,x,r=>by
   cases x with
   |lst hs ha=>
    cases r
    obtain⟨its,o,n,rv,ho,hc,hd⟩:=Ry hok KX hs
    obtain⟨as,hr⟩:=Dw.readsAll hok KX ds _ its ha rv
    exact⟨_,ReadsW.list ho hc hd hr⟩
 | .tuple ds,_,_,x,r=>by
   cases x with
   |tup hs ha=>
    cases r
    obtain⟨its,o,n,rv,ho,hc,hd⟩:=Rz hok KX hs
    obtain⟨as,hr⟩:=Dw.readsAll hok KX ds _ its ha rv
    exact⟨_,ReadsW.tuple ho hc hd hr⟩
 | .float _,_,_,x,_=>by cases x
 | .dict _,_,_,x,_=>by cases x
 | .bytearray _,_,_,x,_=>by cases x
 | .set _,_,_,x,_=>by cases x
 | .frozenset _,_,_,x,_=>by cases x
 | .obj _ _,_,_,x,_=>by cases x
theorem Dw.readsAll(hok:tK P w H h)(KX:K.In h):∀(ds:List WData) (vs:List V) (us:List Value),sA K H vs ds→Vals vs us→∃as,ReadsAllW R cl h us ds as
 |[],_,_,x,r=>by
  cases x
  cases r
  exact⟨_,ReadsAllW.nil⟩
 |d::ds,_,_,x,r=>by
  cases x with
  |cons h1 h2=>
   cases r with
   |cons r1 r2=>
    obtain⟨as,q1⟩:=Dw.reads hok KX d _ _ h1 r1
    obtain⟨bs,q2⟩:=Dw.readsAll hok KX ds _ _ h2 r2
    exact⟨_,ReadsAllW.cons q1 q2⟩
end
end
mutual
def KL:WData→Bool
 | .none=>true
 | .bool _=>true
 | .int _=>true
 | .str _=>true
 | .bytes _=>true
 | .list xs=>A4 xs
 | .tuple xs=>A4 xs
 |_=>false
def A4:List WData→Bool
 |[]=>true
 |x::r=>KL x&&A4 r
end
theorem HB{α:Type}{f:α→WData}(h:∀a,KL (f a)=true):∀l:List α,A4 (l.map f)=true
 |[]=>rfl
 |x::r=>by
  show(KL (f x)&&A4 (r.map f))=true
  rw[h x,HB h r]<;>rfl
theorem uc:∀(c:Codec) (a:c.denote),KL (c.enc a)=true
 | .unit,_=>rfl
 | .bool,_=>rfl
 | .int _ _,_=>rfl
 | .nat _ _,_=>rfl
 | .u8,_=>rfl
 | .bytes _ _,_=>rfl
 | .text _ _ _ _,_=>rfl
 | .list _ _ c,a=>HB (fun x=>uc c x) a
 | .pair c d,a=>by
   show(KL (c.enc a.1)&&(KL (d.enc a.2)&&true))=true
   rw[uc c a.1,uc d a.2]<;>rfl
 | .triple c d e,a=>by
   show(KL (c.enc a.1)&&(KL (d.enc a.2.1)&&(KL (e.enc a.2.2)&&true)))=true
   rw[uc c a.1,uc d a.2.1,uc e a.2.2]<;>rfl
 | .option c,none=>rfl
 | .option c,some x=>uc c x
theorem EM:∀(cs:List Codec) (a:Codec.denoteAll cs),A4 (Codec.encAll cs a)=true
 |[],_=>rfl
 |c::cs,a=>by
  show(KL (c.enc a.1)&&A4 (Codec.encAll cs a.2))=true
  rw[uc c a.1,EM cs a.2]<;>rfl
theorem w_:∀{xs:List WData} {d:WData},d∈xs→d.weight≤WData.weightAll xs
 |[],d,h=>absurd h (by simp)
 |x::r,d,h=>by
  show d.weight≤x.weight+1+WData.weightAll r
  rcases aas.mp h with e |m
  ·rw[e]
   omega
  ·have z:=w_ m
   omega
def toV:Value→V
 | .none=>.lJ
 | .bool b=>.bl b
 | .int i _=>.int i
 | .str x _=>.str x
 | .bytes b _=>.G_ b
 | .ref a=>.ref a
 |_=>.lJ
def LN(A:List Addr):Value→Prop
 | .none=>True
 | .bool _=>True
 | .int _ _=>True
 | .str _ _=>True
 | .bytes _ _=>True
 | .ref a=>a∈A
 |_=>False
theorem LN.mono{A B:List Addr}(h:∀a∈A,a∈B):∀{u:Value},LN A u→LN B u:=fun{u} x=>by
 cases u with
 |ref a=>exact h a x
 |none=>trivial
 |bool b=>trivial
 |int i t=>trivial
 |str s t=>trivial
 |bytes b t=>trivial
 |_=>exact False.elim x
theorem Nn{A:List Addr}{u:Value}(x:LN A u):RelV (toV u) u:=by
 cases u with
 |ref a=>rfl
 |none=>rfl
 |bool b=>rfl
 |int i t=>exact⟨t,rfl⟩
 |str s t=>exact⟨t,rfl⟩
 |bytes b t=>exact⟨t,rfl⟩
 |_=>exact False.elim x
theorem qG{A:List Addr}:∀{vs:List Value},(∀u∈vs,LN A u)→Vals (vs.map toV) vs
 |[],_=>.nil
 |u::r,h=>.cons (Nn (h u (aau ..))) (qG fun x hx=>h x (aap _ hx))
def sC(h:Heap)(A:List Addr)(a:Addr):Prop:=∃vs:List Value,vs.length≤sizeLine∧(∀u∈vs,LN A u)∧
 (h.get? a=some {cls:=.type "list",data:=.seq vs.toArray}∨h.get? a=some {cls:=.type "tuple",data:=.seq vs.toArray})
theorem sC.mono{h:Heap}{A B:List Addr}{a:Addr}(k:∀a∈A,a∈B)(x:sC h A a):sC h B a:=by
 obtain⟨vs,h1,h2,h3⟩:=x
 exact⟨vs,h1,fun u hu=>(h2 u hu).mono k,h3⟩
theorem oS{P:Params}{h:Heap}:∀{vs:List Value} {ds:List WData},WellAll P h vs ds→vs.length=ds.length
 |_,_,.nil=>rfl
 |_,_,.cons _ b=>by
  show _+1=_+1
  rw[oS b]
theorem EN{P:Params}{h:Heap}{v:Value}{ds:List WData}(x:Well P h v (.list ds)):∃(a:Addr) (vs:List Value),v=.ref a∧h.get? a=some {cls:=.type "list",data:=.seq vs.toArray}∧WellAll P h vs ds:=by
 cases x with
 |list ho hall=>exact⟨_,_,rfl,ho,hall⟩
theorem Ca{P:Params}{h:Heap}{v:Value}{ds:List WData}(x:Well P h v (.tuple ds)):∃(a:Addr) (vs:List Value),v=.ref a∧h.get? a=some {cls:=.type "tuple",data:=.seq vs.toArray}∧WellAll P h vs ds:=by
 cases x with
 |tuple ho hall=>exact⟨_,_,rfl,ho,hall⟩
theorem EO{P:Params}{h:Heap}{us:List Value}{d:WData}{ds:List WData}(x:WellAll P h us (d::ds)):∃(v:Value) (vs:List Value),us=v::vs∧Well P h v d∧WellAll P h vs ds:=by
 cases x with
 |cons a b=>exact⟨_,_,rfl,a,b⟩
theorem KN{n:Nat}(h:n≤1048576):n≤sizeLine:=aaD h (by decide)
section
variable{P:Params}{h:Heap}
mutual
theorem Np:∀(d:WData) (v:Value),Well P h v d→KL d=true→d.weight≤1048576→∃A:List Addr,LN A v∧∀a∈A,sC h A a
 | .none,_,x,_,_=>by
   cases x
   exact⟨[],trivial,fun a m=>absurd m (by simp)⟩
 | .bool b,_,x,_,_=>by
   cases x
   exact⟨[],trivial,fun a m=>absurd m (by simp)⟩
 | .int i,_,x,_,_=>by
   cases x
   exact⟨[],trivial,fun a m=>absurd m (by simp)⟩
 | .str s,_,x,_,_=>by
   cases x
   exact⟨[],trivial,fun a m=>absurd m (by simp)⟩
 | .bytes b,_,x,_,_=>by
   cases x
   exact⟨[],trivial,fun a m=>absurd m (by simp)⟩
 | .list ds,_,x,p,z=>by
   obtain⟨a,vs,rfl,ho,hall⟩:=EN x
   have z2:WData.weightAll ds≤1048576:=z
   obtain⟨A,h1,h2⟩:=yG ds _ hall p fun d hd=>aaD (w_ hd) z2
   have k:∀b∈A,b∈a::A:=fun b hb=>aap _ hb
   refine⟨a::A,aau ..,fun b hb=>?_⟩
   rcases aas.mp hb with e |m
   ·rw[e]
    exact⟨vs,KN (by rw[oS hall];exact aaD (W.length_le_weightAllW ds) z2),fun u hu=>(h1 u hu).mono k,.inl ho⟩
   ·exact(h2 b m).mono k
 | .tuple ds,_,x,p,z=>by
   obtain⟨a,vs,rfl,ho,hall⟩:=Ca x
   have z2:WData.weightAll ds≤1048576:=z
   obtain⟨A,h1,h2⟩:=yG ds _ hall p fun d hd=>aaD (w_ hd) z2
   have k:∀b∈A,b∈a::A:=fun b hb=>aap _ hb
   refine⟨a::A,aau ..,fun b hb=>?_⟩
   rcases aas.mp hb with e |m
   ·rw[e]
    exact⟨vs,KN (by rw[oS hall];exact aaD (W.length_le_weightAllW ds) z2),fun u hu=>(h1 u hu).mono k,.inr ho⟩
   ·exact(h2 b m).mono k
 | .float _,_,_,p,_=>Bool.noConfusion (show false=true from p)
 | .dict _,_,_,p,_=>Bool.noConfusion (show false=true from p)
 | .bytearray _,_,_,p,_=>Bool.noConfusion (show false=true from p)
 | .set _,_,_,p,_=>Bool.noConfusion (show false=true from p)
 | .frozenset _,_,_,p,_=>Bool.noConfusion (show false=true from p)
 | .obj _ _,_,_,p,_=>Bool.noConfusion (show false=true from p)
theorem yG:∀(ds:List WData) (vs:List Value),WellAll P h vs ds→A4 ds=true→(∀d∈ds,d.weight≤1048576)→∃A:List Addr,(∀u∈vs,LN A u)∧∀a∈A,sC h A a
 |[],_,x,_,_=>by
  cases x
  exact⟨[],fun u m=>absurd m (by simp),fun a m=>absurd m (by simp)⟩
 |d::ds,_,x,p,z=>by
  obtain⟨v,vs,rfl,x1,x2⟩:=EO x
  have q:KL d=true∧A4 ds=true:=Bool.and_eq_true_iff.mp p
  obtain⟨A,a1,a2⟩:=Np d v x1 q.1 (z d (aau ..))
  obtain⟨B,b1,b2⟩:=yG ds vs x2 q.2 fun e he=>z e (aap _ he)
  have kA:∀b∈A,b∈A++B:=fun b hb=>aaV.mpr (.inl hb)
  have kB:∀b∈B,b∈A++B:=fun b hb=>aaV.mpr (.inr hb)
  refine⟨A++B,fun u hu=>?_,fun b hb=>?_⟩
  ·rcases aas.mp hu with e |m
   ·rw[e]
    exact a1.mono kA
   ·exact(b1 u m).mono kB
  ·rcases aaV.mp hb with m |m
   ·exact(a2 b m).mono kA
   ·exact(b2 b m).mono kB
end
end
def O4(o:Obj):Option HO:=match o.data with
 | .seq vs _=>if(o.cls==Value.type "list")=true then some (.lX o (.lst (vs.toList.map toV)))else some (.lX o (.tup (vs.toList.map toV)))
 |_=>none
def rC(K:W.Frag)(h:Heap)(A:List Addr):Hp:=fun b=>if b∈A then(if(K.lookup b).isNone=true then(h.get? b).bind O4 else none)else none
def HC(H:Hp):Prop:=∀b,H b=none∨∃o u,H b=some (.lX o u)
theorem HE(vs:List Value):O4 {cls:=.type "list",data:=.seq vs.toArray}=some (.lX {cls:=.type "list",data:=.seq vs.toArray} (.lst (vs.map toV))):=by
 show(if(Value.type "list"==Value.type "list")=true then some (HO.lX {cls:=.type "list",data:=.seq vs.toArray} (.lst (vs.toArray.toList.map toV)))else some (HO.lX {cls:=.type "list",data:=.seq vs.toArray} (.tup (vs.toArray.toList.map toV))))=_
 rw[D7 (beq_self_eq_true _)]
theorem HF(vs:List Value):O4 {cls:=.type "tuple",data:=.seq vs.toArray}=some (.lX {cls:=.type "tuple",data:=.seq vs.toArray} (.tup (vs.map toV))):=by
 show(if(Value.type "tuple"==Value.type "list")=true then some (HO.lX {cls:=.type "tuple",data:=.seq vs.toArray} (.lst (vs.toArray.toList.map toV)))else some (HO.lX {cls:=.type "tuple",data:=.seq vs.toArray} (.tup (vs.toArray.toList.map toV))))=_
 rw[D6 (by decide)]
section
variable{P:Program}{w:World}{K:W.Frag}{h:Heap}{A:List Addr}
theorem Bw{b:Addr}{o:Obj}(hb:b∈A)(hk:K.lookup b=none)(e:h.get? b=some o):rC K h A b=O4 o:=by
 unfold rC
 rw[D7 hb,hk,D7 (show(none:Option Obj).isNone=true from rfl),e]<;>rfl
theorem O5{b:Addr}{u:HO}(q:rC K h A b=some u):b∈A∧K.lookup b=none:=by
 unfold rC at q
 by_cases hb:b∈A
 ·rw[D7 hb]at q
  cases hk:K.lookup b with
  |none=>exact⟨hb,rfl⟩
  |some o=>
   rw[hk,D6 (by simp)]at q
   cases q
 ·rw[D6 hb]at q
  cases q
theorem Bx(ar:∀a∈A,sC h A a){b:Addr}{u:HO}(q:rC K h A b=some u):K.lookup b=none∧∃vs:List Value,vs.length≤sizeLine∧(∀u∈vs,LN A u)∧((h.get? b=some {cls:=.type "list",data:=.seq vs.toArray}∧u=.lX {cls:=.type "list",data:=.seq vs.toArray} (.lst (vs.map toV)))∨(h.get? b=some {cls:=.type "tuple",data:=.seq vs.toArray}∧u=.lX {cls:=.type "tuple",data:=.seq vs.toArray} (.tup (vs.map toV)))):=by
 obtain⟨hb,hk⟩:=O5 q
 obtain⟨vs,h1,h2,h3⟩:=ar b hb
 refine⟨hk,vs,h1,h2,?_⟩
 rcases h3 with e |e
 ·rw[Bw hb hk e,HE]at q
  exact .inl ⟨e,(aar q).symm⟩
 ·rw[Bw hb hk e,HF]at q
  exact .inr ⟨e,(aar q).symm⟩
theorem LO(ar:∀a∈A,sC h A a):HC (rC K h A):=fun b=>by
 cases q:rC K h A b with
 |none=>exact .inl rfl
 |some u=>
  obtain⟨_,vs,_,_,⟨_,e⟩ |⟨_,e⟩⟩:=Bx ar q
  ·exact .inr ⟨_,_,by rw[e]⟩
  ·exact .inr ⟨_,_,by rw[e]⟩
theorem O6(ar:∀a∈A,sC h A a):tK P w (rC K h A) h:=fun b u q=>by
 obtain⟨_,vs,h1,h2,⟨e,rfl⟩ |⟨e,rfl⟩⟩:=Bx ar q
 ·exact⟨e,by rw[DS];exact h1,vs,_,qG h2,e⟩
 ·exact⟨e,by rw[DS];exact h1,vs,qG h2,_,e,rfl,_,rfl⟩
theorem By{c c':Value}{vs us:List Value}(e:(some {cls:=c,data:=.seq vs.toArray}:Option Obj)=some {cls:=c',data:=.seq us.toArray}):c=c'∧vs=us:=by
 have e1:=aar e
 have e2:c=c':=congrArg Obj.cls e1
 have e3:Data.seq vs.toArray=Data.seq us.toArray:=congrArg Obj.data e1
 injection e3 with e4
 refine⟨e2,?_⟩
 have e5:=congrArg Array.toList e4
 simpa using e5
theorem Xf(KX:K.In h)(ar:∀a∈A,sC h A a){a:Addr}{vs:List Value}(ha:a∈A)(e:h.get? a=some {cls:=.type "list",data:=.seq vs.toArray}):(∀u∈vs,LN A u)∧bD K (rC K h A) a (vs.map toV):=by
 obtain⟨us,h1,h2,h3⟩:=ar a ha
 have hu:us=vs:=by
  rcases h3 with q |q
  ·rw[e]at q
   exact(By q).2.symm
  ·rw[e]at q
   exact absurd (Value.type.inj (By q).1) (by decide)
 subst hu
 refine⟨h2,?_⟩
 cases hk:K.lookup a with
 |none=>exact .inl (.inr ⟨_,by rw[Bw ha hk e,HE]⟩)
 |some o=>
  have e2:=KX a o hk
  rw[e]at e2
  obtain rfl:=aar e2
  exact .inr ⟨_,us.toArray,_,hk,rfl,rfl,rfl,by rw[aav];exact h1,by simpa using qG h2⟩
theorem Xg(KX:K.In h)(ar:∀a∈A,sC h A a){a:Addr}{vs:List Value}(ha:a∈A)(e:h.get? a=some {cls:=.type "tuple",data:=.seq vs.toArray}):(∀u∈vs,LN A u)∧i6 K (rC K h A) a (vs.map toV):=by
 obtain⟨us,h1,h2,h3⟩:=ar a ha
 have hu:us=vs:=by
  rcases h3 with q |q
  ·rw[e]at q
   exact absurd (Value.type.inj (By q).1) (by decide)
  ·rw[e]at q
   exact(By q).2.symm
 subst hu
 refine⟨h2,?_⟩
 cases hk:K.lookup a with
 |none=>exact .inl (.inr ⟨_,by rw[Bw ha hk e,HF]⟩)
 |some o=>
  have e2:=KX a o hk
  rw[e]at e2
  obtain rfl:=aar e2
  exact .inr ⟨_,us.toArray,_,hk,rfl,rfl,by rw[aav];exact h1,by simpa using qG h2⟩
mutual
theorem RA{Pm:Params}(KX:K.In h)(ar:∀a∈A,sC h A a):∀(d:WData) (v:Value),Well Pm h v d→KL d=true→LN A v→Dw K (rC K h A) (toV v) d
 | .none,_,x,_,_=>by
   cases x
   exact .lJ
 | .bool b,_,x,_,_=>by
   cases x
   exact .bl b
 | .int i,_,x,_,_=>by
   cases x
   exact .int i
 | .str s,_,x,_,_=>by
   cases x
   exact .str s
 | .bytes b,_,x,_,_=>by
   cases x
   have z:=Dw.G_ (K:=K) (H:=rC K h A) b.toArray
   exact z
 | .list ds,_,x,p,hu=>by
   obtain⟨a,vs,rfl,ho,hall⟩:=EN x
   obtain⟨h2,hs⟩:=Xf KX ar hu ho
   exact .lst hs (FN KX ar ds _ hall p h2)
 | .tuple ds,_,x,p,hu=>by
   obtain⟨a,vs,rfl,ho,hall⟩:=Ca x
   obtain⟨h2,hs⟩:=Xg KX ar hu ho
   exact .tup hs (FN KX ar ds _ hall p h2)
 | .float _,_,_,p,_=>Bool.noConfusion (show false=true from p)
 | .dict _,_,_,p,_=>Bool.noConfusion (show false=true from p)
 | .bytearray _,_,_,p,_=>Bool.noConfusion (show false=true from p)
 | .set _,_,_,p,_=>Bool.noConfusion (show false=true from p)
 | .frozenset _,_,_,p,_=>Bool.noConfusion (show false=true from p)
 | .obj _ _,_,_,p,_=>Bool.noConfusion (show false=true from p)
theorem FN{Pm:Params}(KX:K.In h)(ar:∀a∈A,sC h A a):∀(ds:List WData) (vs:List Value),WellAll Pm h vs ds→A4 ds=true→(∀u∈vs,LN A u)→sA K (rC K h A) (vs.map toV) ds
 |[],_,x,_,_=>by
  cases x
  exact .nil
 |d::ds,_,x,p,hu=>by
  obtain⟨v,vs,rfl,x1,x2⟩:=EO x
  have q:KL d=true∧A4 ds=true:=Bool.and_eq_true_iff.mp p
  exact .cons (RA KX ar d v x1 q.1 (hu _ (aau ..))) (FN KX ar ds vs x2 q.2 fun u m=>hu u (aap _ m))
end
end
theorem Cb{ds:List WData}(h:WData.layableAll ds=true):∀d∈ds,d.weight≤1048576:=fun d hd=>
 (W.layableW_iff.mp (ab8.mp h d hd)).2.2
theorem Cc:∀(cs:List Codec) (a:Codec.denoteAll cs),(Codec.encAll cs a).length=cs.length
 |[],_=>rfl
 |c::cs,a=>by
  show(Codec.encAll cs a.2).length+1=cs.length+1
  rw[Cc cs a.2]
end L2
end
end
namespace MA
open PySem L2 Vbemal
abbrev En:=Vbemal.Entry
theorem aJ:∀{N:List Str} {vs:List V} {i:Nat} {x:Str} {v:V},N.Nodup→N[i]?=some x→vs[i]?=some v→(N.zip vs).lookup x=some v
 |[],_,_,_,_,_,h,_=>by simp at h
 |_::_,[],_,_,_,_,_,h=>by simp at h
 |n::N,w::vs,0,x,v,_,h,h'=>by
  simp at h h'
  subst h h'
  simp[List.lookup]
 |n::N,w::vs,i+1,x,v,nd,h,h'=>by
  have LP:=aaO.mp nd
  have h1:N[i]?=some x:=by simpa using h
  have hne:(x==n)=false:=by
   rw[aaW]
   intro e
   exact LP.1 (e▸aaB h1)
  show(List.lookup x ((n,w)::N.zip vs))=some v
  rw[List.lookup,hne]
  exact aJ LP.2 h1 (by simpa using h')
theorem fT:∀{N:List Str} {vs:List V} {x:Str},x∉N→(N.zip vs).lookup x=none
 |[],_,_,_=>by simp
 |_::_,[],_,_=>by simp
 |n::N,w::vs,x,h=>by
  have hne:(x==n)=false:=by
   rw[aaW]
   intro e
   exact h (by simp[e])
  show(List.lookup x ((n,w)::N.zip vs))=none
  rw[List.lookup,hne]
  exact fT (fun q=>h (aap _ q))
theorem cV:∀{N:List Str} {vs:List V} {i:Nat} {x:Str} (y:V),N.Nodup→N[i]?=some x→i<vs.length→dS x y (N.zip vs)=N.zip (vs.set i y)
 |[],_,_,_,_,_,h,_=>by simp at h
 |_::_,[],_,_,_,_,_,h=>by simp at h
 |n::N,w::vs,0,x,y,_,h,h'=>by
  simp at h
  subst h
  show(if n=n then(n,y)::N.zip vs else _)=_
  rw[D7 rfl]
  rfl
 |n::N,w::vs,i+1,x,y,nd,h,h'=>by
  have LP:=aaO.mp nd
  have h1:N[i]?=some x:=by simpa using h
  have hne:¬n=x:=fun e=>LP.1 (e▸aaB h1)
  show(if n=x then _ else(n,w)::dS x y (N.zip vs))=_
  rw[D6 hne,cV y LP.2 h1 (by simpa using h')]
  rfl
theorem rD:∀{N:List Str} {vs:List V} {x:Str} (y:V),N.Nodup→N[vs.length]?=some x→dS x y (N.zip vs)=N.zip (vs++[y])
 |[],_,_,_,_,h=>by simp at h
 |n::N,[],x,y,_,h=>by
  simp at h
  subst h
  simp[dS]
 |n::N,w::vs,x,y,nd,h=>by
  have LP:=aaO.mp nd
  have h1:N[vs.length]?=some x:=by simpa using h
  have hne:¬n=x:=fun e=>LP.1 (e▸aaB h1)
  show(if n=x then _ else(n,w)::dS x y (N.zip vs))=_
  rw[D6 hne,rD y LP.2 h1]
  rfl
theorem g9(N:List Str)(vs:List V):(N.zip vs).length≤N.length:=by rw[abO];exact Nat.min_le_left _ _
structure Cs where
 cM:Addr
 cP:Addr
 cI:Addr
 cF:Addr
 cB:Addr
 cH:Addr
 tP:Addr
 tok:Array Value→Option Addr→Prop
 Zm:Addr→Heap→Prop
def Ol:HO→Bool
 | .ym _=>true
 |_=>false
def Cd:HO→Bool
 | .ym _=>false
 | .ext _=>false
 |_=>true
def kc(c:Cs)(H:Hp):Prop:=∃ps o,H c.tP=some (.ym ps)∧c.tok ps o∧∀a,o=some a→H a=some (.ext (c.Zm a))
theorem kc.keep{c:Cs}{H H':Hp}(h:kc c H)(k:∀b o,H b=some o→Cd o=false→H' b=some o):kc c H':=
 let⟨ps,o,e,t,x⟩:=h
 ⟨ps,o,k _ _ e rfl,t,fun a ea=>k _ _ (x a ea) rfl⟩
def Sm(H H':Hp):Prop:=∀b o,H b=some o→Ol o=false→H' b=some o
theorem ao.sm{H H':Hp}(s:ao H H'):Sm H H':=fun b o h _=>s b o h
theorem Sm.trans{H H1 H2:Hp}(a:Sm H H1)(b:Sm H1 H2):Sm H H2:=fun c o h t=>b c o (a c o h t) t
def NM:List Str:=["unbilled","pool","collateral","fund_part","failed"]
def NP:List Str:=["total","seen","billed","tax_billed"]
def NI:List Str:=["number_of_member","period","cents","tax","due_day","rest"]
def NF:List Str:=["loss","burden","nobody_not_back","others_not_back","house_not_back"]
def NB:List Str:=["by_collateral","by_fund_part","by_house","by_nobody","by_others"]
def NH:List Str:=["is_open","terms","rate","today","market","rounding","taxes","cash","house_part","loss","members","pairs","invoices","failures","closed"]
theorem jn:NM.Nodup:=by decide+kernel
theorem AM:NP.Nodup:=by decide+kernel
theorem sD:NI.Nodup:=by decide+kernel
theorem we:NF.Nodup:=by decide+kernel
theorem wg:NB.Nodup:=by decide+kernel
theorem bJ:NH.Nodup:=by decide+kernel
abbrev vn(n:Nat):V:=.int (n:Int)
abbrev aO(l:List Int):List V:=l.map V.int
abbrev cS(l:List Nat):List V:=l.map vn
def dB(m:Member):List V:=[.int m.unbilled,vn m.pool,vn m.collateral,vn m.fund,.bl m.failed]
def f_(e:En):List V:=[.int e.total,.int e.seen,.int e.cents,.int e.tax]
def xg(x:Invoice):List V:=[vn x.m,vn x.period,.int x.cents,.int x.tax,vn x.due,vn x.rest]
def sE(c:Cs)(H:Hp)(a:Addr)(m:Member):Prop:=∃dx,H a=some (.ins c.cM dx (NM.zip (dB m)))
def kr(c:Cs)(H:Hp)(a:Addr)(e:En):Prop:=∃dx,H a=some (.ins c.cP dx (NP.zip (f_ e)))
def oU(c:Cs)(H:Hp)(a:Addr)(x:Invoice):Prop:=∃dx,H a=some (.ins c.cI dx (NI.zip (xg x)))
def sF(c:Cs)(H:Hp)(b lo:Addr)(w:Borne):Prop:=
 (∃db,H b=some (.ins c.cB db (NB.zip [vn w.collateral,vn w.own,vn w.house,vn w.nobody,.ref lo])))∧H lo=some (.lst (cS w.others))
structure AD where
 ml:Addr
 pd:Addr
 il:Addr
 fd:Addr
 cd:Addr
 dx:Addr
 ms:List Addr
 es:List (Addr×En)
 is:List Addr
 fs:List Addr
def muts(p:Addr)(d:AD):List Addr:=p::d.ml::d.pd::d.il::d.fd::d.cd::d.ms
def Im(Z p:Addr)(d:AD)(a:Addr):Prop:=a∉muts p d∧a≠Z
def xh(c:Cs)(H:Hp)(Z p:Addr)(d:AD)(a:Addr)(f:Failure):Prop:=
 ∃dx b lo la,H a=some (.ins c.cF dx (NF.zip [vn f.loss,.ref b,vn f.nobodyLeft,.ref la,vn f.houseLeft]))∧sF c H b lo ⟨f.collateral,f.own,f.house,f.others,f.nobody⟩∧
  H la=some (.lst (cS f.othersLeft))∧Im Z p d a∧Im Z p d b∧Im Z p d lo∧Im Z p d la
def aB(d:AD)(s:State):List V:=
 [.bl s.opened,vn s.terms,vn s.rate,vn s.today,.int s.market,.int s.rounding,.int s.taxes,.int s.cash,vn s.house,vn s.loss,.ref d.ml,.ref d.pd,.ref d.il,.ref d.fd,.ref d.cd]
def aV(l:List (Addr×En)):List (List Key×V):=l.map fun q=>([.inl (q.2.m:Int),.inl (q.2.period:Int)],.ref q.1)
def bT(fs:List Failure)(as:List Addr):List (Key×V):=(fs.zip as).map fun q=>(.inl (q.1.m:Int),.ref q.2)
def gu(l:List Nat):List (Key×V):=l.map fun(p:Nat)=>(.inl (p:Int),.bl true)
structure DC(c:Cs)(H:Hp)(Z p:Addr)(d:AD)(s:State):Prop where
 pr:∀q∈d.es,kr c H q.1 q.2∧Im Z p d q.1
 inv:∀(i:Nat) a x,d.is[i]?=some a→s.invoices[i]?=some x→oU c H a x∧Im Z p d a
 fail:∀(i:Nat) a f,d.fs[i]?=some a→s.failures[i]?=some f→xh c H Z p d a f
structure aj(c:Cs)(H:Hp)(Z p:Addr)(d:AD)(s:State):Prop where
 ins:H p=some (.ins c.cH d.dx (NH.zip (aB d s)))
 ml:H d.ml=some (.lst (d.ms.map V.ref))
 iC:d.ms.length=s.members.length
 mem:∀(i:Nat) a m,d.ms[i]?=some a→s.members[i]?=some m→sE c H a m
 pd:H d.pd=some (.dT (aV d.es))
 pp:(d.es.map (·.2)).Perm s.entries
 il:H d.il=some (.lst (d.is.map V.ref))
 iD:d.is.length=s.invoices.length
 fd:H d.fd=some (.dK (bT s.failures d.fs))
 pT:d.fs.length=s.failures.length
 cd:H d.cd=some (.dK (gu s.closed))
 im:DC c H Z p d s
 tb:kc c H
 nd:(muts p d).Nodup
 fz:Z∉muts p d
 zz:∃o,H Z=some o
structure aM(H:Hp)(p:Addr)(d:AD)(H':Hp)(d':AD):Prop where
 keep:∀b o,H b=some o→Ol o=false→b∉muts p d→H' b=some o
 grow:∀b,b∈muts p d'→b∈muts p d∨H b=none
 Ce:∀b o,H b=some o→∃o',H' b=some o'
theorem aM.free{H H':Hp}{p:Addr}{d d':AD}(k:aM H p d H' d'){b:Addr}(h:H' b=none):H b=none:=by
 cases q:H b with
 |none=>rfl
 |some o=>
  obtain⟨o',e⟩:=k.Ce b o q
  rw[e]at h
  cases h
theorem aM.refl(H:Hp)(p:Addr)(d:AD):aM H p d H d:=⟨fun _ _ h _ _=>h,fun _ h=>.inl h,fun _ o h=>⟨o,h⟩⟩
theorem aM.trans{H H1 H2:Hp}{p:Addr}{d d1 d2:AD}(a:aM H p d H1 d1)(b:aM H1 p d1 H2 d2):aM H p d H2 d2 where
 keep:=fun x o h t n=>b.keep x o (a.keep x o h t n) t fun q=>by
  rcases a.grow x q with r |r
  ·exact n r
  ·rw[h]at r;cases r
 grow:=fun x q=>by
  rcases b.grow x q with r |r
  ·exact a.grow x r
  ·exact .inr (a.free r)
 Ce:=fun x o h=>let⟨o',e⟩:=a.Ce x o h;b.Ce x o' e
theorem aM.same{H H':Hp}{p:Addr}{d:AD}(s:ao H H'):aM H p d H' d:=⟨fun b o h _ _=>s b o h,fun _ h=>.inl h,fun b o h=>⟨o,s b o h⟩⟩
theorem aM.upd{H:Hp}{p x:Addr}{d:AD}{o:HO}(hx:x∈muts p d):aM H p d (upd H x o) d where
 keep:=fun b u h _ n=>by rw[aq (fun e=>n (by rw[e];exact hx))];exact h
 grow:=fun _ h=>.inl h
 Ce:=fun b u h=>by
  by_cases e:b=x
  ·subst e;exact⟨o,af⟩
  ·exact⟨u,by rw[aq e];exact h⟩
theorem ao.new{H:Hp}{a:Addr}{o:HO}(h:H a=none):ao H (upd H a o):=fun b u e=>by
 rw[aq (aA e h)];exact e
def zK(H:Hp)(dx x C:Addr)(fs:List (Str×V)):Hp:=upd (upd H dx (.own x)) x (.ins C dx fs)
theorem ao.mk{H:Hp}{dx x C:Addr}{fs:List (Str×V)}(hx:H x=none)(hd:H dx=none):ao H (zK H dx x C fs):=fun b u e=>by
 unfold zK
 rw[aq (aA e hx),aq (aA e hd)];exact e
theorem pU{H:Hp}{dx x C:Addr}{fs:List (Str×V)}:zK H dx x C fs x=some (.ins C dx fs):=af
section
variable{c:Cs}{H H':Hp}{Z p:Addr}{d:AD}{s s':State}
theorem ao.mem{a:Addr}{m:Member}(h:ao H H')(x:sE c H a m):sE c H' a m:=let⟨dx,e⟩:=x;⟨dx,h _ _ e⟩
theorem DC.keep(h:DC c H Z p d s)(k:∀b o,H b=some o→Ol o=false→b∉muts p d→b≠Z→H' b=some o):DC c H' Z p d s where
 pr:=fun q hq=>let⟨⟨dx,e⟩,i⟩:=h.pr q hq;⟨⟨dx,k _ _ e rfl i.1 i.2⟩,i⟩
 inv:=fun j a x ha hx=>let⟨⟨dx,e⟩,i⟩:=h.inv j a x ha hx;⟨⟨dx,k _ _ e rfl i.1 i.2⟩,i⟩
 fail:=fun j a f ha hf=>by
  obtain⟨dx,b,lo,la,e1,⟨⟨db,e2⟩,e3⟩,e4,i1,i2,i3,i4⟩:=h.fail j a f ha hf
  exact⟨dx,b,lo,la,k _ _ e1 rfl i1.1 i1.2,⟨⟨db,k _ _ e2 rfl i2.1 i2.2⟩,k _ _ e3 rfl i3.1 i3.2⟩,k _ _ e4 rfl i4.1 i4.2,i1,i2,i3,i4⟩
theorem DC.st(h:DC c H Z p d s)(e1:s'.invoices=s.invoices)(e2:s'.failures=s.failures):DC c H Z p d s':=
 ⟨h.pr,fun j a x ha hx=>h.inv j a x ha (e1▸hx),fun j a f ha hf=>h.fail j a f ha (e2▸hf)⟩
theorem aj.gJ:p∈muts p d:=aau
theorem aj.Nq:d.ml∈muts p d:=by simp[muts]
theorem aj.xj:d.pd∈muts p d:=by simp[muts]
theorem aj.Ju:d.il∈muts p d:=by simp[muts]
theorem aj.xm:d.fd∈muts p d:=by simp[muts]
theorem aj.Jv:d.cd∈muts p d:=by simp[muts]
theorem aj.gv{i:Nat}{a:Addr}(h:d.ms[i]?=some a):a∈muts p d:=by
 have:=aaB h
 simp[muts,this]
theorem aj.KO(h:aj c H Z p d s):∀b,b∈muts p d→∃o,H b=some o∧Cd o=true:=by
 intro b hb
 unfold muts at hb
 simp only[aas]at hb
 rcases hb with rfl |rfl |rfl |rfl |rfl |rfl |hb
 ·exact⟨_,h.ins,rfl⟩
 ·exact⟨_,h.ml,rfl⟩
 ·exact⟨_,h.pd,rfl⟩
 ·exact⟨_,h.il,rfl⟩
 ·exact⟨_,h.fd,rfl⟩
 ·exact⟨_,h.cd,rfl⟩
 ·obtain⟨i,hi,e⟩:=abz.mp hb
  have h1:d.ms[i]?=some b:=by rw[D3 hi,e]
  have h2:i<s.members.length:=by rw[←h.iC];exact hi
  obtain⟨dx,e2⟩:=h.mem i b _ h1 (D3 h2)
  exact⟨_,e2,rfl⟩
theorem aj.O7(h:aj c H Z p d s):∀b,b∈muts p d→∃o,H b=some o:=fun b hb=>let⟨o,e,_⟩:=h.KO b hb;⟨o,e⟩
theorem aj.O8(h:aj c H Z p d s)(k:∀b o,H b=some o→b∉muts p d→H' b=some o):kc c H':=h.tb.keep fun b o e n=>k b o e fun q=>by
 obtain⟨u,e2,n2⟩:=h.KO b q
 rw[e]at e2
 cases e2
 rw[n]at n2
 cases n2
theorem aj.mono(h:aj c H Z p d s)(k:ao H H'):aj c H' Z p d s:=
 ⟨k _ _ h.ins,k _ _ h.ml,h.iC,fun i a m ha hm=>ao.mem k (h.mem i a m ha hm),k _ _ h.pd,h.pp,k _ _ h.il,h.iD,k _ _ h.fd,h.pT,k _ _ h.cd,h.im.keep fun b o e _ _ _=>k b o e,h.tb.keep fun b o e _=>k b o e,h.nd,h.fz,let⟨o,e⟩:=h.zz;⟨o,k _ _ e⟩⟩
theorem aj.Qx(h:aj c H Z p d s)(k:Sm H H')(tb:kc c H')(hz:∃o,H' Z=some o):aj c H' Z p d s:=
 ⟨k _ _ h.ins rfl,k _ _ h.ml rfl,h.iC,fun i a m ha hm=>let⟨dx,e⟩:=h.mem i a m ha hm;⟨dx,k _ _ e rfl⟩,k _ _ h.pd rfl,h.pp,k _ _ h.il rfl,h.iD,k _ _ h.fd rfl,h.pT,k _ _ h.cd rfl,
  h.im.keep fun b o e t _ _=>k b o e t,tb,h.nd,h.fz,hz⟩
theorem aj.RB(h:aj c H Z p d s)(k:∀b o,H b=some o→b≠Z→H' b=some o)(hz:∃o,H' Z=some o)(pz:∃o,H Z=some o∧Cd o=true):aj c H' Z p d s:=by
 have ne:∀b,b∈muts p d→b≠Z:=fun b hb e=>h.fz (e▸hb)
 have tbz:kc c H':=h.tb.keep fun b o e n=>k b o e fun q=>by
  obtain⟨u,e2,n2⟩:=pz
  rw[q,e2]at e
  cases e
  rw[n]at n2
  cases n2
 exact⟨k _ _ h.ins (ne _ aj.gJ),k _ _ h.ml (ne _ aj.Nq),h.iC,fun i a m ha hm=>let⟨dx,e⟩:=h.mem i a m ha hm;⟨dx,k _ _ e (ne _ (aj.gv ha))⟩,
  k _ _ h.pd (ne _ aj.xj),h.pp,k _ _ h.il (ne _ aj.Ju),h.iD,k _ _ h.fd (ne _ aj.xm),h.pT,k _ _ h.cd (ne _ aj.Jv),
  h.im.keep fun b o e _ _ nz=>k b o e nz,tbz,h.nd,h.fz,hz⟩
theorem aj.sY(h:aj c H Z p d s)(e1:s'.members=s.members)(e2:s'.entries=s.entries)(e3:s'.invoices=s.invoices)(e4:s'.failures=s.failures)(e5:s'.closed=s.closed):aj c (upd H p (.ins c.cH d.dx (NH.zip (aB d s')))) Z p d s':=by
 have ne:∀b,b∈d.ml::d.pd::d.il::d.fd::d.cd::d.ms→b≠p:=fun b k e=>(aaO.mp h.nd).1 (e▸k)
 have k:∀b o,H b=some o→b≠p→upd H p (.ins c.cH d.dx (NH.zip (aB d s'))) b=some o:=fun b o e n=>by rw[aq n];exact e
 refine⟨af,k _ _ h.ml (ne _ (by simp)),by rw[e1];exact h.iC,fun i a m ha hm=>?_,k _ _ h.pd (ne _ (by simp)),by rw[e2];exact h.pp,k _ _ h.il (ne _ (by simp)),by rw[e3];exact h.iD,
  by rw[e4];exact k _ _ h.fd (ne _ (by simp)),by rw[e4];exact h.pT,by rw[e5];exact k _ _ h.cd (ne _ (by simp)),?_,h.O8 fun b o e nm=>k b o e fun q=>nm (q▸aj.gJ),h.nd,h.fz,?_⟩
 ·rw[e1]at hm
  obtain⟨dx,e⟩:=h.mem i a m ha hm
  exact⟨dx,k _ _ e (ne _ (by simp[aaB ha]))⟩
 ·exact(h.im.keep fun b o e _ nm _=>k b o e fun q=>nm (q▸aj.gJ)).st e3 e4
 ·obtain⟨o,e⟩:=h.zz
  exact⟨o,k _ _ e fun q=>h.fz (q▸aj.gJ)⟩
theorem RC(nd:(muts p d).Nodup){i j:Nat}{a:Addr}(hi:d.ms[i]?=some a)(hj:d.ms[j]?=some a):i=j:=by
 have LP:d.ms.Nodup:=by
  unfold muts at nd
  simp only[aaO]at nd
  exact nd.2.2.2.2.2.2
 obtain⟨h1,e1⟩:=aao.mp hi
 obtain⟨h2,e2⟩:=aao.mp hj
 exact(List.getElem_inj LP).mp (e1.trans e2.symm)
theorem aj.RD(h:aj c H Z p d s){i:Nat}{a dx:Addr}{m m':Member}(ha:d.ms[i]?=some a)(hm:s.members[i]?=some m):aj c (upd H a (.ins c.cM dx (NM.zip (dB m')))) Z p d {s with members:=s.members.set i m'}:=by
 have nd:=h.nd
 unfold muts at nd
 simp only[aaO,aas,not_or]at nd
 obtain⟨⟨_,_,_,_,_,np⟩,⟨_,_,_,_,O9⟩,⟨_,_,_,Qy⟩,⟨_,_,nil⟩,⟨_,Th⟩,UH,_⟩:=nd
 have am:=aaB ha
 have k:∀b o,H b=some o→b≠a→upd H a (.ins c.cM dx (NM.zip (dB m'))) b=some o:=fun b o e n=>by rw[aq n];exact e
 refine⟨k _ _ h.ins fun e=>np (e▸am),k _ _ h.ml fun e=>O9 (e▸am),by simp[h.iC],fun j b x hb hx=>?_,k _ _ h.pd fun e=>Qy (e▸am),h.pp,k _ _ h.il fun e=>nil (e▸am),h.iD,
  k _ _ h.fd fun e=>Th (e▸am),h.pT,k _ _ h.cd fun e=>UH (e▸am),?_,h.O8 fun b o e nm=>k b o e fun q=>nm (q▸aj.gv ha),h.nd,h.fz,?_⟩
 ·by_cases e:j=i
  ·subst e
   rw[ha]at hb
   cases hb
   rw[abb (aao.mp hm).1]at hx
   cases hx
   exact⟨dx,af⟩
  ·rw[aa' (fun q=>e q.symm)]at hx
   obtain⟨dy,e2⟩:=h.mem j b x hb hx
   exact⟨dy,k _ _ e2 fun q=>e (RC h.nd (q▸hb) ha)⟩
 ·exact(h.im.keep fun b o e _ nm _=>k b o e fun q=>nm (q▸aj.gv ha)).st rfl rfl
 ·obtain⟨o,e⟩:=h.zz
  exact⟨o,k _ _ e fun q=>h.fz (q▸aj.gv ha)⟩
end
end MA
namespace MA
open PySem L2 Vbemal VI
theorem eT(d:AD)(s:State):(aB d s).length=15:=rfl
theorem ud(m:Member):(dB m).length=5:=rfl
section
variable(d:AD)(s:State)(m:Member)(e:En)(x:Invoice)
theorem xo:(NH.zip (aB d s)).lookup ("is_open":Str)=some (.bl s.opened):=aJ (i:=0) bJ rfl rfl
theorem HG:(NH.zip (aB d s)).lookup ("terms":Str)=some (vn s.terms):=aJ (i:=1) bJ rfl rfl
theorem BA:(NH.zip (aB d s)).lookup ("rate":Str)=some (vn s.rate):=aJ (i:=2) bJ rfl rfl
theorem ue:(NH.zip (aB d s)).lookup ("today":Str)=some (vn s.today):=aJ (i:=3) bJ rfl rfl
theorem vA:(NH.zip (aB d s)).lookup ("market":Str)=some (.int s.market):=aJ (i:=4) bJ rfl rfl
theorem oV:(NH.zip (aB d s)).lookup ("rounding":Str)=some (.int s.rounding):=aJ (i:=5) bJ rfl rfl
theorem yH:(NH.zip (aB d s)).lookup ("taxes":Str)=some (.int s.taxes):=aJ (i:=6) bJ rfl rfl
theorem jB:(NH.zip (aB d s)).lookup ("cash":Str)=some (.int s.cash):=aJ (i:=7) bJ rfl rfl
theorem gq:(NH.zip (aB d s)).lookup ("house_part":Str)=some (vn s.house):=aJ (i:=8) bJ rfl rfl
theorem yI:(NH.zip (aB d s)).lookup ("loss":Str)=some (vn s.loss):=aJ (i:=9) bJ rfl rfl
theorem bq:(NH.zip (aB d s)).lookup ("members":Str)=some (.ref d.ml):=aJ (i:=10) bJ rfl rfl
theorem iU:(NH.zip (aB d s)).lookup ("pairs":Str)=some (.ref d.pd):=aJ (i:=11) bJ rfl rfl
theorem cA:(NH.zip (aB d s)).lookup ("invoices":Str)=some (.ref d.il):=aJ (i:=12) bJ rfl rfl
theorem lK:(NH.zip (aB d s)).lookup ("failures":Str)=some (.ref d.fd):=aJ (i:=13) bJ rfl rfl
theorem vB:(NH.zip (aB d s)).lookup ("closed":Str)=some (.ref d.cd):=aJ (i:=14) bJ rfl rfl
theorem HH(b:Bool):dS "is_open" (.bl b) (NH.zip (aB d s))=NH.zip (aB d {s with opened:=b}):=cV (i:=0) _ bJ rfl (aaQ (by decide) (eT d s).symm)
theorem LQ(n:Nat):dS "terms" (vn n) (NH.zip (aB d s))=NH.zip (aB d {s with terms:=n}):=cV (i:=1) _ bJ rfl (aaQ (by decide) (eT d s).symm)
theorem Nr(n:Nat):dS "rate" (vn n) (NH.zip (aB d s))=NH.zip (aB d {s with rate:=n}):=cV (i:=2) _ bJ rfl (aaQ (by decide) (eT d s).symm)
theorem LR(n:Nat):dS "today" (vn n) (NH.zip (aB d s))=NH.zip (aB d {s with today:=n}):=cV (i:=3) _ bJ rfl (aaQ (by decide) (eT d s).symm)
theorem Jw(z:Int):dS "market" (.int z) (NH.zip (aB d s))=NH.zip (aB d {s with market:=z}):=cV (i:=4) _ bJ rfl (aaQ (by decide) (eT d s).symm)
theorem FO(z:Int):dS "rounding" (.int z) (NH.zip (aB d s))=NH.zip (aB d {s with rounding:=z}):=cV (i:=5) _ bJ rfl (aaQ (by decide) (eT d s).symm)
theorem LS(z:Int):dS "taxes" (.int z) (NH.zip (aB d s))=NH.zip (aB d {s with taxes:=z}):=cV (i:=6) _ bJ rfl (aaQ (by decide) (eT d s).symm)
theorem ng(z:Int):dS "cash" (.int z) (NH.zip (aB d s))=NH.zip (aB d {s with cash:=z}):=cV (i:=7) _ bJ rfl (aaQ (by decide) (eT d s).symm)
theorem nh(n:Nat):dS "house_part" (vn n) (NH.zip (aB d s))=NH.zip (aB d {s with house:=n}):=cV (i:=8) _ bJ rfl (aaQ (by decide) (eT d s).symm)
theorem HJ(n:Nat):dS "loss" (vn n) (NH.zip (aB d s))=NH.zip (aB d {s with loss:=n}):=cV (i:=9) _ bJ rfl (aaQ (by decide) (eT d s).symm)
theorem yJ(a:Addr):dS "invoices" (.ref a) (NH.zip (aB d s))=NH.zip (aB {d with il:=a} s):=cV (i:=12) _ bJ rfl (aaQ (by decide) (eT d s).symm)
theorem jo:(NM.zip (dB m)).lookup ("unbilled":Str)=some (.int m.unbilled):=aJ (i:=0) jn rfl rfl
theorem lg:(NM.zip (dB m)).lookup ("pool":Str)=some (vn m.pool):=aJ (i:=1) jn rfl rfl
theorem dM:(NM.zip (dB m)).lookup ("collateral":Str)=some (vn m.collateral):=aJ (i:=2) jn rfl rfl
theorem dN:(NM.zip (dB m)).lookup ("fund_part":Str)=some (vn m.fund):=aJ (i:=3) jn rfl rfl
theorem mU:(NM.zip (dB m)).lookup ("failed":Str)=some (.bl m.failed):=aJ (i:=4) jn rfl rfl
theorem AN(z:Int):dS "unbilled" (.int z) (NM.zip (dB m))=NM.zip (dB {m with unbilled:=z}):=cV (i:=0) _ jn rfl (aaQ (by decide) (ud m).symm)
theorem FP(n:Nat):dS "pool" (vn n) (NM.zip (dB m))=NM.zip (dB {m with pool:=n}):=cV (i:=1) _ jn rfl (aaQ (by decide) (ud m).symm)
theorem pV(n:Nat):dS "collateral" (vn n) (NM.zip (dB m))=NM.zip (dB {m with collateral:=n}):=cV (i:=2) _ jn rfl (aaQ (by decide) (ud m).symm)
theorem mK(n:Nat):dS "fund_part" (vn n) (NM.zip (dB m))=NM.zip (dB {m with fund:=n}):=cV (i:=3) _ jn rfl (aaQ (by decide) (ud m).symm)
theorem LU(b:Bool):dS "failed" (.bl b) (NM.zip (dB m))=NM.zip (dB {m with failed:=b}):=cV (i:=4) _ jn rfl (aaQ (by decide) (ud m).symm)
theorem iV:(NP.zip (f_ e)).lookup ("total":Str)=some (.int e.total):=aJ (i:=0) AM rfl rfl
theorem BB:(NP.zip (f_ e)).lookup ("seen":Str)=some (.int e.seen):=aJ (i:=1) AM rfl rfl
theorem vC:(NP.zip (f_ e)).lookup ("billed":Str)=some (.int e.cents):=aJ (i:=2) AM rfl rfl
theorem iW:(NP.zip (f_ e)).lookup ("tax_billed":Str)=some (.int e.tax):=aJ (i:=3) AM rfl rfl
theorem g_:(NI.zip (xg x)).lookup ("number_of_member":Str)=some (vn x.m):=aJ (i:=0) sD rfl rfl
theorem ER:(NI.zip (xg x)).lookup ("period":Str)=some (vn x.period):=aJ (i:=1) sD rfl rfl
theorem Cf:(NI.zip (xg x)).lookup ("cents":Str)=some (.int x.cents):=aJ (i:=2) sD rfl rfl
theorem Jx:(NI.zip (xg x)).lookup ("tax":Str)=some (.int x.tax):=aJ (i:=3) sD rfl rfl
theorem rE:(NI.zip (xg x)).lookup ("due_day":Str)=some (vn x.due):=aJ (i:=4) sD rfl rfl
theorem oW:(NI.zip (xg x)).lookup ("rest":Str)=some (vn x.rest):=aJ (i:=5) sD rfl rfl
end
theorem ES{α:Type}(g:α→α):∀{i:Nat} {l:List α} {x:α},l[i]?=some x→mapAt g i l=l.set i (g x)
 |_,[],_,h=>by simp at h
 |0,y::r,x,h=>by
  simp at h
  subst h
  rfl
 |i+1,y::r,x,h=>by
  show y::mapAt g i r=y::r.set i (g x)
  rw[ES g (by simpa using h)]
theorem jq{s:State}{m:Nat}{x:Member}(h:member? s m=some x):0<m∧s.members[m-1]?=some x:=by
 unfold member? at h
 split at h
 ·cases h
 ·exact⟨by omega,h⟩
theorem mL{s:State}{m:Nat}{x:Member}{g:Member→Member}(h:member? s m=some x):setMember s m g={s with members:=s.members.set (m-1) (g x)}:=by
 unfold setMember
 rw[ES g (jq h).2]
theorem aj.addr{c:Cs}{H:Hp}{Z p:Addr}{d:AD}{s:State}(h:aj c H Z p d s){i:Nat}{x:Member}(hx:s.members[i]?=some x):∃a dx,d.ms[i]?=some a∧H a=some (.ins c.cM dx (NM.zip (dB x))):=by
 have hi:i<d.ms.length:=by rw[h.iC];exact(aao.mp hx).1
 obtain⟨dx,e⟩:=h.mem i _ x (D3 hi) hx
 exact⟨_,dx,D3 hi,e⟩
theorem aj.UI{c:Cs}{H:Hp}{Z p:Addr}{d:AD}{s:State}(h:aj c H Z p d s){i:Nat}{x:Invoice}(hx:s.invoices[i]?=some x):∃a dx,d.is[i]?=some a∧H a=some (.ins c.cI dx (NI.zip (xg x)))∧Im Z p d a:=by
 have hi:i<d.is.length:=by rw[h.iD];exact(aao.mp hx).1
 obtain⟨⟨dx,e⟩,im⟩:=h.im.inv i _ x (D3 hi) hx
 exact⟨_,dx,D3 hi,e,im⟩
section
variable{c:Cs}{H H':Hp}{Z p:Addr}{d d':AD}{s s':State}
theorem Im.of{a:Addr}(h:Im Z p d a)(ha:∃o,H a=some o)(g:∀b,b∈muts p d'→b∈muts p d∨H b=none):Im Z p d' a:=by
 refine⟨fun q=>?_,h.2⟩
 rcases g a q with r |r
 ·exact h.1 r
 ·obtain⟨o,e⟩:=ha
  rw[e]at r
  cases r
theorem xh.of{a:Addr}{f:Failure}(h:xh c H Z p d a f)(g:∀b,b∈muts p d'→b∈muts p d∨H b=none)(k:∀b o,H b=some o→Ol o=false→b∉muts p d→b≠Z→H' b=some o):xh c H' Z p d' a f:=by
 obtain⟨dx,b,lo,la,e1,⟨⟨db,e2⟩,e3⟩,e4,i1,i2,i3,i4⟩:=h
 exact⟨dx,b,lo,la,k _ _ e1 rfl i1.1 i1.2,⟨⟨db,k _ _ e2 rfl i2.1 i2.2⟩,k _ _ e3 rfl i3.1 i3.2⟩,k _ _ e4 rfl i4.1 i4.2,i1.of ⟨_,e1⟩ g,i2.of ⟨_,e2⟩ g,i3.of ⟨_,e3⟩ g,i4.of ⟨_,e4⟩ g⟩
theorem DC.of(h:DC c H Z p d s)(g:∀b,b∈muts p d'→b∈muts p d∨H b=none)(k:∀b o,H b=some o→Ol o=false→b∉muts p d→b≠Z→H' b=some o)(e1:d'.es=d.es)(e2:d'.is=d.is)(e3:d'.fs=d.fs)(e4:s'.invoices=s.invoices)(e5:s'.failures=s.failures):DC c H' Z p d' s' where
 pr:=fun q hq=>by
  rw[e1]at hq
  obtain⟨⟨dx,e⟩,i⟩:=h.pr q hq
  exact⟨⟨dx,k _ _ e rfl i.1 i.2⟩,i.of ⟨_,e⟩ g⟩
 inv:=fun j a x ha hx=>by
  rw[e2]at ha
  rw[e4]at hx
  obtain⟨⟨dx,e⟩,i⟩:=h.inv j a x ha hx
  exact⟨⟨dx,k _ _ e rfl i.1 i.2⟩,i.of ⟨_,e⟩ g⟩
 fail:=fun j a f ha hf=>by
  rw[e3]at ha
  rw[e5]at hf
  exact(h.fail j a f ha hf).of g k
end
section
variable{c:Cs}{H H1:Hp}{Z p:Addr}{d:AD}{s:State}
theorem O_(nd:(muts p d).Nodup):(p≠d.ml∧p≠d.pd∧p≠d.il∧p≠d.fd∧p≠d.cd∧p∉d.ms)∧(d.ml≠d.pd∧d.ml≠d.il∧d.ml≠d.fd∧d.ml≠d.cd∧d.ml∉d.ms)∧(d.pd≠d.il∧d.pd≠d.fd∧d.pd≠d.cd∧d.pd∉d.ms)∧(d.il≠d.fd∧d.il≠d.cd∧d.il∉d.ms)∧(d.fd≠d.cd∧d.fd∉d.ms)∧d.cd∉d.ms∧d.ms.Nodup:=by
 unfold muts at nd
 simp only[aaO,aas,not_or]at nd
 exact nd
theorem aj.rest(h:aj c H Z p d s){x:Addr}{o:HO}(k:ao H H1)(hx:x∈muts p d):(p≠x→upd H1 x o p=some (.ins c.cH d.dx (NH.zip (aB d s))))∧(d.ml≠x→upd H1 x o d.ml=some (.lst (d.ms.map V.ref)))∧(x∉d.ms→∀(i:Nat) a m,d.ms[i]?=some a→s.members[i]?=some m→sE c (upd H1 x o) a m)∧(d.pd≠x→upd H1 x o d.pd=some (.dT (aV d.es)))∧(d.il≠x→upd H1 x o d.il=some (.lst (d.is.map V.ref)))∧(d.fd≠x→upd H1 x o d.fd=some (.dK (bT s.failures d.fs)))∧(d.cd≠x→upd H1 x o d.cd=some (.dK (gu s.closed)))∧(∀b u,H b=some u→b∉muts p d→upd H1 x o b=some u)∧(∃u,upd H1 x o Z=some u):=by
 have kk:∀b u,H b=some u→b≠x→upd H1 x o b=some u:=fun b u e n=>by rw[aq n];exact k _ _ e
 refine⟨kk _ _ h.ins,kk _ _ h.ml,fun n i a m ha hm=>?_,kk _ _ h.pd,kk _ _ h.il,kk _ _ h.fd,kk _ _ h.cd,fun b u e n=>kk b u e fun q=>n (q▸hx),?_⟩
 ·obtain⟨dx,e⟩:=h.mem i a m ha hm
  exact⟨dx,kk _ _ e fun q=>n (q▸aaB ha)⟩
 ·obtain⟨u,e⟩:=h.zz
  exact⟨u,kk _ _ e fun q=>h.fz (q▸hx)⟩
theorem aj.h_(h:aj c H Z p d s){a:Addr}(ha:H a=none):a∉muts p d∧a≠Z:=by
 refine⟨fun q=>?_,fun q=>?_⟩
 ·obtain⟨o,e⟩:=h.O7 a q
  rw[e]at ha;cases ha
 ·obtain⟨o,e⟩:=h.zz
  rw[←q,ha]at e;cases e
theorem aj.uf(h:aj c H Z p d s){a:Addr}(ha:H a=none):Im Z p d a:=h.h_ ha
theorem aj.Qz(h:aj c H Z p d s)(k:ao H H1){a:Addr}(ha:H a=none){is':List Addr}{l':List Invoice}(hl:H1 a=some (.lst (is'.map V.ref)))(hlen:is'.length=l'.length)(hi:∀(i:Nat) b x,is'[i]?=some b→l'[i]?=some x→oU c H1 b x∧Im Z p d b∧b≠a):aj c (upd H1 p (.ins c.cH d.dx (NH.zip (aB {d with il:=a} s)))) Z p {d with il:=a,is:=is'} {s with invoices:=l'}∧aM H p d (upd H1 p (.ins c.cH d.dx (NH.zip (aB {d with il:=a} s)))) {d with il:=a,is:=is'}:=by
 obtain⟨na,nz⟩:=h.h_ ha
 obtain⟨n1,n2,n3,n4,n5,n6,n7⟩:=O_ h.nd
 obtain⟨r1,r2,r3,r4,r5,r6,r7,r8,r9⟩:=h.rest (o:=.ins c.cH d.dx (NH.zip (aB {d with il:=a} s))) k (aj.gJ (d:=d))
 have na':=na
 unfold muts at na'
 simp only[aas,not_or]at na'
 obtain⟨a1,a2,a3,a4,a5,a6,a7⟩:=na'
 have g:∀b,b∈muts p {d with il:=a,is:=is'}→b∈muts p d∨H b=none:=fun b hb=>by
  unfold muts at hb⊢
  simp only[aas]at hb⊢
  rcases hb with q |q |q |q |q |q |q
  ·exact .inl (.inl q)
  ·exact .inl (.inr (.inl q))
  ·exact .inl (.inr (.inr (.inl q)))
  ·subst q;exact .inr ha
  ·exact .inl (.inr (.inr (.inr (.inr (.inl q)))))
  ·exact .inl (.inr (.inr (.inr (.inr (.inr (.inl q))))))
  ·exact .inl (.inr (.inr (.inr (.inr (.inr (.inr q))))))
 have ga:∀b,Im Z p d b→b≠a→Im Z p {d with il:=a,is:=is'} b:=fun b i n=>by
  refine⟨fun hb=>?_,i.2⟩
  have hn:=i.1
  unfold muts at hb hn
  simp only[aas,not_or]at hb hn
  rcases hb with q |q |q |q |q |q |q
  ·exact hn.1 q
  ·exact hn.2.1 q
  ·exact hn.2.2.1 q
  ·exact n q
  ·exact hn.2.2.2.2.1 q
  ·exact hn.2.2.2.2.2.1 q
  ·exact hn.2.2.2.2.2.2 q
 refine⟨⟨af,r2 n1.1.symm,h.iC,r3 n1.2.2.2.2.2,r4 n1.2.1.symm,h.pp,?_,hlen,r6 n1.2.2.2.1.symm,h.pT,r7 n1.2.2.2.2.1.symm,?_,h.O8 r8,?_,?_,r9⟩,⟨fun b u e _ n=>r8 b u e n,g,fun b o e=>?_⟩⟩
 ·show upd H1 p _ a=_
  rw[aq a1]
  exact hl
 ·refine⟨fun q hq=>?_,fun i b x hb hx=>?_,fun i b f hb hf=>(h.im.fail i b f hb hf).of g fun b u e _ n _=>r8 b u e n⟩
  ·obtain⟨⟨dx,e⟩,i⟩:=h.im.pr q hq
   exact⟨⟨dx,r8 _ _ e i.1⟩,i.of ⟨_,e⟩ g⟩
  ·obtain⟨⟨dx,e⟩,i,n⟩:=hi i b x hb hx
   exact⟨⟨dx,by rw[aq (fun q=>i.1 (by rw[q];exact aj.gJ))];exact e⟩,ga b i n⟩
 ·show(p::d.ml::d.pd::a::d.fd::d.cd::d.ms).Nodup
  simp only[aaO,aas,not_or]
  exact⟨⟨n1.1,n1.2.1,fun q=>a1 q.symm,n1.2.2.2.1,n1.2.2.2.2.1,n1.2.2.2.2.2⟩,⟨n2.1,fun q=>a2 q.symm,n2.2.2.1,n2.2.2.2.1,n2.2.2.2.2⟩,⟨fun q=>a3 q.symm,n3.2.1,n3.2.2.1,n3.2.2.2⟩,⟨a5,a6,a7⟩,n5,n6,n7⟩
 ·intro hb
  rcases g Z hb with q |q
  ·exact h.fz q
  ·obtain⟨o,e⟩:=h.zz
   rw[q]at e;cases e
 ·by_cases q:b=p
  ·exact⟨_,by rw[q];exact af⟩
  ·exact⟨o,by rw[aq q];exact k _ _ e⟩
theorem aj.Xh(h:aj c H Z p d s){b:Addr}{x:Invoice}(hb:oU c H b x)(ib:Im Z p d b):aj c (upd H d.il (.lst (d.is.map V.ref++[V.ref b]))) Z p {d with is:=d.is++[b]} {s with invoices:=s.invoices++[x]}:=by
 obtain⟨n1,n2,n3,n4,n5,n6,n7⟩:=O_ h.nd
 obtain⟨r1,r2,r3,r4,r5,r6,r7,r8,r9⟩:=h.rest (o:=.lst (d.is.map V.ref++[V.ref b])) (fun _ _ e=>e) (aj.Ju (p:=p) (d:=d))
 refine⟨r1 n1.2.2.1,r2 n2.2.1,h.iC,r3 n4.2.2,r4 n3.1,h.pp,?_,by simp[h.iD],r6 n4.1.symm,h.pT,r7 n4.2.1.symm,?_,h.O8 r8,h.nd,h.fz,r9⟩
 ·show upd H d.il _ d.il=_
  rw[af,aaz]
  rfl
 ·refine⟨fun q hq=>?_,fun i a y ha hy=>?_,fun i a f ha hf=>(h.im.fail i a f ha hf).of (fun b hb=>.inl hb) fun b u e _ n _=>r8 b u e n⟩
  ·obtain⟨⟨dx,e⟩,i⟩:=h.im.pr q hq
   exact⟨⟨dx,r8 _ _ e i.1⟩,i⟩
  ·by_cases hi:i<d.is.length
   ·rw[aaA hi]at ha
    rw[aaA (by rw[←h.iD];exact hi)]at hy
    obtain⟨⟨dx,e⟩,im⟩:=h.im.inv i a y ha hy
    exact⟨⟨dx,r8 _ _ e im.1⟩,im⟩
   ·rw[aaG (abj hi)]at ha
    rw[aaG (by rw[←h.iD];exact abj hi),←h.iD]at hy
    cases q:i-d.is.length with
    |zero=>
     rw[q]at ha hy
     cases ha
     cases hy
     obtain⟨dx,e⟩:=hb
     exact⟨⟨dx,r8 _ _ e ib.1⟩,ib⟩
    |succ j=>rw[q]at ha;simp at ha
theorem aj.Xi(h:aj c H Z p d s)(k:ao H H1){a:Addr}{x:Member}(ha:H a=none)(hm:sE c H1 a x):aj c (upd H1 d.ml (.lst (d.ms.map V.ref++[V.ref a]))) Z p {d with ms:=d.ms++[a]} {s with members:=s.members++[x]}∧aM H p d (upd H1 d.ml (.lst (d.ms.map V.ref++[V.ref a]))) {d with ms:=d.ms++[a]}:=by
 obtain⟨na,nz⟩:=h.h_ ha
 obtain⟨n1,n2,n3,n4,n5,n6,n7⟩:=O_ h.nd
 obtain⟨r1,r2,r3,r4,r5,r6,r7,r8,r9⟩:=h.rest (o:=.lst (d.ms.map V.ref++[V.ref a])) k (aj.Nq (p:=p) (d:=d))
 have na':=na
 unfold muts at na'
 simp only[aas,not_or]at na'
 obtain⟨a1,a2,a3,a4,a5,a6,a7⟩:=na'
 have g:∀b,b∈muts p {d with ms:=d.ms++[a]}→b∈muts p d∨H b=none:=fun b hb=>by
  unfold muts at hb⊢
  simp only[aas,aaV,abu,or_false]at hb⊢
  rcases hb with q |q |q |q |q |q |q |q
  ·exact .inl (.inl q)
  ·exact .inl (.inr (.inl q))
  ·exact .inl (.inr (.inr (.inl q)))
  ·exact .inl (.inr (.inr (.inr (.inl q))))
  ·exact .inl (.inr (.inr (.inr (.inr (.inl q)))))
  ·exact .inl (.inr (.inr (.inr (.inr (.inr (.inl q))))))
  ·exact .inl (.inr (.inr (.inr (.inr (.inr (.inr q))))))
  ·subst q;exact .inr ha
 refine⟨⟨r1 n1.1,?_,by simp[h.iC],fun i b m hb hm'=>?_,r4 n2.1.symm,h.pp,r5 n2.2.1.symm,h.iD,r6 n2.2.2.1.symm,h.pT,r7 n2.2.2.2.1.symm,?_,h.O8 r8,?_,?_,r9⟩,⟨fun b u e _ n=>r8 b u e n,g,fun b o e=>?_⟩⟩
 ·show upd H1 d.ml _ d.ml=_
  rw[af,aaz]
  rfl
 ·by_cases hi:i<d.ms.length
  ·rw[aaA hi]at hb
   rw[aaA (by rw[←h.iC];exact hi)]at hm'
   exact r3 n2.2.2.2.2 i b m hb hm'
  ·rw[aaG (abj hi)]at hb
   rw[aaG (by rw[←h.iC];exact abj hi),←h.iC]at hm'
   cases q:i-d.ms.length with
   |zero=>
    rw[q]at hb hm'
    cases hb
    cases hm'
    obtain⟨dx,e⟩:=hm
    exact⟨dx,by rw[aq a2];exact e⟩
   |succ j=>rw[q]at hb;simp at hb
 ·exact h.im.of g (fun b u e _ n _=>r8 b u e n) rfl rfl rfl rfl rfl
 ·show(p::d.ml::d.pd::d.il::d.fd::d.cd::(d.ms++[a])).Nodup
  have nn:(d.ms++[a]).Nodup:=by
   rw[acI]
   refine⟨n7,by simp,fun x hx y hy=>?_⟩
   rw[aa5.mp hy]
   exact fun e=>a7 (e▸hx)
  simp only[aaO,aas,not_or,aaV,abu,not_false_iff,and_true]
  exact⟨⟨n1.1,n1.2.1,n1.2.2.1,n1.2.2.2.1,n1.2.2.2.2.1,n1.2.2.2.2.2,fun q=>a1 q.symm⟩,⟨n2.1,n2.2.1,n2.2.2.1,n2.2.2.2.1,n2.2.2.2.2,fun q=>a2 q.symm⟩,⟨n3.1,n3.2.1,n3.2.2.1,n3.2.2.2,fun q=>a3 q.symm⟩,⟨n4.1,n4.2.1,n4.2.2,fun q=>a4 q.symm⟩,⟨n5.1,n5.2,fun q=>a5 q.symm⟩,⟨n6,fun q=>a6 q.symm⟩,nn⟩
 ·intro hb
  rcases g Z hb with q |q
  ·exact h.fz q
  ·obtain⟨o,e⟩:=h.zz
   rw[q]at e;cases e
 ·by_cases q:b=d.ml
  ·exact⟨_,by rw[q];exact af⟩
  ·exact⟨o,by rw[aq q];exact k _ _ e⟩
theorem aj.Xj(h:aj c H Z p d s){n:Nat}(hn:n∉s.closed):aj c (upd H d.cd (.dK (putK (gu s.closed) (.inl (n:Int)) (.bl true)))) Z p d {s with closed:=s.closed++[n]}:=by
 obtain⟨n1,n2,n3,n4,n5,n6,n7⟩:=O_ h.nd
 obtain⟨r1,r2,r3,r4,r5,r6,r7,r8,r9⟩:=h.rest (o:=.dK (putK (gu s.closed) (.inl (n:Int)) (.bl true))) (fun _ _ e=>e) (aj.Jv (p:=p) (d:=d))
 refine⟨r1 n1.2.2.2.2.1,r2 n2.2.2.2.1,h.iC,r3 n6,r4 n3.2.2.1,h.pp,r5 n4.2.1,h.iD,r6 n5.1,h.pT,?_,?_,h.O8 r8,h.nd,h.fz,r9⟩
 ·have hnone:gI (gu s.closed) (.inl (n:Int))=none:=by
   unfold gI
   rw[List.find?_eq_none.mpr]
   ·rfl
   ·intro q hq
    unfold gu at hq
    obtain⟨m,hm,rfl⟩:=aaE.mp hq
    intro e
    have e2:(Sum.inl (m:Int):Key)=Sum.inl (n:Int):=ab3 e
    have e3:(m:Int)=(n:Int):=acv e2
    have e4:m=n:=by omega
    exact hn (e4▸hm)
  show upd H d.cd _ d.cd=_
  rw[af,Hw _ hnone]
  unfold gu
  rw[aaz]
  rfl
 ·exact h.im.of (fun b hb=>.inl hb) (fun b u e _ n _=>r8 b u e n) rfl rfl rfl rfl rfl
end
abbrev pk(m p:Nat):List Key:=[.inl (m:Int),.inl (p:Int)]
theorem FQ{m p m' p':Nat}:pk m p=pk m' p'↔m=m'∧p=p':=by
 constructor
 ·intro h
  have h1:=List.cons.inj h
  have h2:=List.cons.inj h1.2
  have e1:(m:Int)=m':=acv h1.1
  have e2:(p:Int)=p':=acv h2.1
  omega
 ·rintro⟨rfl,rfl⟩;rfl
theorem FT{e x:En}:pk e.m e.period=pk x.m x.period↔key e=key x:=by rw[FQ,qV]
def sI(l:List (Addr×En))(a:Addr)(x:En):List (Addr×En):=
 if(l.any fun q=>decide (key q.2=key x))=true then l.map (fun q=>if key q.2=key x then(a,x)else q)else l++[(a,x)]
theorem Jy(l:List (Addr×En))(a:Addr)(x:En):putK (aV l) (pk x.m x.period) (.ref a)=aV (sI l a x):=by
 have e1:((aV l).any fun kv=>decide (kv.1=pk x.m x.period))=l.any fun q=>decide (key q.2=key x):=by
  unfold aV
  rw[acE]
  congr 1
  funext q
  show decide (pk q.2.m q.2.period=pk x.m x.period)=decide (key q.2=key x)
  rw[decide_eq_decide]
  exact FT
 unfold putK sI
 rw[e1]
 split
 ·unfold aV
  rw[abe,abe]
  refine abk fun q _=>?_
  show(if pk q.2.m q.2.period=pk x.m x.period then(pk q.2.m q.2.period,V.ref a)else(pk q.2.m q.2.period,V.ref q.1))=_
  by_cases h:key q.2=key x
  ·show _=(fun q:Addr×En=>(pk q.2.m q.2.period,V.ref q.1)) (if key q.2=key x then(a,x)else q)
   rw[D7 h,D7 (FT.mpr h),FT.mpr h]
  ·show _=(fun q:Addr×En=>(pk q.2.m q.2.period,V.ref q.1)) (if key q.2=key x then(a,x)else q)
   rw[D6 h,D6 (fun z=>h (FT.mp z))]
 ·unfold aV
  rw[aaz]
  rfl
theorem Jz{l:List (Addr×En)}{es:List En}(hp:(l.map (·.2)).Perm es)(hs:es.Pairwise wL)(a:Addr)(x:En):((sI l a x).map (·.2)).Perm (putEntry x es):=by
 unfold sI
 split
 ·rename_i h
  obtain⟨q,hq,e⟩:=acq.mp h
  have e':key q.2=key x:=ab3 e
  rw[vo hs ⟨q.2,hp.mem_iff.mp (abF hq),e'⟩,abe]
  have:=hp.map fun e=>if key e=key x then x else e
  rw[abe]at this
  refine List.Perm.trans (List.Perm.of_eq ?_) this
  refine abk fun q _=>?_
  show((if key q.2=key x then(a,x)else q):Addr×En).2=if key q.2=key x then x else q.2
  split<;>rfl
 ·rename_i h
  have hn:∀e∈es,key e≠key x:=fun e he k=>by
   obtain⟨q,hq,rfl⟩:=aaE.mp (hp.mem_iff.mpr he)
   exact h (acq.mpr ⟨q,hq,aa8 k⟩)
  rw[aaz]
  exact((List.perm_append_comm).trans ((List.Perm.cons x hp))).trans (ye hn).symm
theorem LV{l:List (Addr×En)}{a:Addr}{x:En}{q:Addr×En}(h:q∈sI l a x):q=(a,x)∨q∈l:=by
 unfold sI at h
 split at h
 ·obtain⟨r,hr,e⟩:=aaE.mp h
  split at e
  ·exact .inl e.symm
  ·exact .inr (e▸hr)
 ·rcases aaV.mp h with r |r
  ·exact .inr r
  ·exact .inl (aa5.mp r)
section
variable{c:Cs}{H H1:Hp}{Z p:Addr}{d:AD}{s:State}
theorem JA(l:List (Addr×En))(m q:Nat):gI (aV l) (pk m q)=(l.find? fun r=>r.2.m==m&&r.2.period==q).map fun r=>V.ref r.1:=by
 unfold gI aV
 rw[List.find?_map,Option.map_map]
 have e:((fun kv:List Key×V=>decide (kv.1=pk m q))∘fun q:Addr×En=>(pk q.2.m q.2.period,V.ref q.1))=fun r:Addr×En=>r.2.m==m&&r.2.period==q:=by
  funext r
  show decide (pk r.2.m r.2.period=pk m q)=(r.2.m==m&&r.2.period==q)
  by_cases h:r.2.m=m∧r.2.period=q
  ·rw[aa8 (FQ.mpr h),h.1,h.2];simp
  ·rw[aa7 (fun z=>h (FQ.mp z))]
   symm
   rw[Bool.and_eq_false_iff]
   by_cases h1:r.2.m=m
   ·exact .inr (by simpa using fun z=>h ⟨h1,z⟩)
   ·exact .inl (by simpa using h1)
 rw[e]
 rfl
theorem aj.pair(h:aj c H Z p d s)(hs:s.entries.Pairwise wL)(m q:Nat):(hasEntry s m q=true∧∃a,gI (aV d.es) (pk m q)=some (.ref a)∧kr c H a (entryOf s m q)∧Im Z p d a)∨(hasEntry s m q=false∧gI (aV d.es) (pk m q)=none):=by
 rw[JA]
 cases hf:d.es.find? fun r=>r.2.m==m&&r.2.period==q with
 |none=>
  refine .inr ⟨?_,rfl⟩
  cases hh:hasEntry s m q with
  |false=>rfl
  |true=>
   obtain⟨e,he,k⟩:=mH.mp hh
   obtain⟨r,hr,rfl⟩:=aaE.mp (h.pp.mem_iff.mpr he)
   have k':r.2.m=m∧r.2.period=q:=⟨congrArg Prod.fst k,congrArg Prod.snd k⟩
   have:=List.find?_eq_none.mp hf r hr
   simp[k'.1,k'.2]at this
 |some r=>
  have hm:=List.mem_of_find?_eq_some hf
  have hk:=List.find?_some hf
  rw[aa1]at hk
  have k1:r.2.m=m:=by simpa using hk.1
  have k2:r.2.period=q:=by simpa using hk.2
  have he:r.2∈s.entries:=h.pp.mem_iff.mp (abF hm)
  have ke:key r.2=(m,q):=by show(r.2.m,r.2.period)=_;rw[k1,k2]
  obtain⟨pa,im⟩:=h.im.pr r hm
  refine .inl ⟨mH.mpr ⟨r.2,he,ke⟩,r.1,rfl,?_,im⟩
  rw[GU hs he ke]
  exact pa
theorem aj.Cg(h:aj c H Z p d s):d.es.length=s.entries.length:=by
 have:=h.pp.length_eq
 rw[DS]at this
 exact this
theorem aj.UJ(h:aj c H Z p d s)(hs:s.entries.Pairwise wL){a:Addr}{x:En}(pa:kr c H a x)(ia:Im Z p d a):aj c (upd H d.pd (.dT (putK (aV d.es) (pk x.m x.period) (.ref a)))) Z p {d with es:=sI d.es a x} {s with entries:=putEntry x s.entries}:=by
 obtain⟨n1,n2,n3,n4,n5,n6,n7⟩:=O_ h.nd
 obtain⟨r1,r2,r3,r4,r5,r6,r7,r8,r9⟩:=h.rest (o:=.dT (putK (aV d.es) (pk x.m x.period) (.ref a))) (fun _ _ e=>e) (aj.xj (p:=p) (d:=d))
 refine⟨r1 n1.2.1,r2 n2.1,h.iC,r3 n3.2.2.2,?_,Jz h.pp hs a x,r5 n3.1.symm,h.iD,r6 n3.2.1.symm,h.pT,r7 n3.2.2.1.symm,?_,h.O8 r8,h.nd,h.fz,r9⟩
 ·show upd H d.pd _ d.pd=_
  rw[af,Jy]
 ·refine⟨fun q hq=>?_,fun i b y hb hy=>?_,fun i b f hb hf=>(h.im.fail i b f hb hf).of (fun b hb=>.inl hb) fun b u e _ n _=>r8 b u e n⟩
  ·rcases LV hq with rfl |hq
   ·obtain⟨dx,e⟩:=pa
    exact⟨⟨dx,r8 _ _ e ia.1⟩,ia⟩
   ·obtain⟨⟨dx,e⟩,i⟩:=h.im.pr q hq
    exact⟨⟨dx,r8 _ _ e i.1⟩,i⟩
  ·obtain⟨⟨dx,e⟩,i⟩:=h.im.inv i b y hb hy
   exact⟨⟨dx,r8 _ _ e i.1⟩,i⟩
theorem Ci:∀(fs:List Failure) (as:List Addr) (m:Nat),as.length=fs.length→(∃(i:Nat) (f:Failure) (a:Addr),fs.find? (fun f=>f.m==m)=some f∧fs[i]?=some f∧as[i]?=some a∧gI (bT fs as) (.inl (m:Int))=some (.ref a))∨(fs.find? (fun f=>f.m==m)=none∧gI (bT fs as) (.inl (m:Int))=none)
 |[],[],m,_=>.inr ⟨rfl,rfl⟩
 |[],_::_,_,h=>by simp at h
 |_::_,[],_,h=>by simp at h
 |f::fs,a::as,m,h=>by
  by_cases e:f.m=m
  ·refine .inl ⟨0,f,a,?_,rfl,rfl,?_⟩
   ·rw[List.find?_cons_of_pos (by simpa using e)]
   ·show gI ((Sum.inl (f.m:Int),V.ref a)::bT fs as) (.inl (m:Int))=_
    rw[t_ (by rw[e])]
  ·have hne:¬(Sum.inl (f.m:Int):Key)=Sum.inl (m:Int):=fun q=>e (by have:=acv q;omega)
   have e1:(f::fs).find? (fun f=>f.m==m)=fs.find? (fun f=>f.m==m):=List.find?_cons_of_neg (by simpa using e)
   have e2:gI (bT (f::fs) (a::as)) (.inl (m:Int))=gI (bT fs as) (.inl (m:Int)):=by
    show gI ((Sum.inl (f.m:Int),V.ref a)::bT fs as) (.inl (m:Int))=_
    rw[ua hne]
   rw[e1,e2]
   rcases Ci fs as m (by simpa using h)with⟨i,g,b,h1,h2,h3,h4⟩ |h
   ·exact .inl ⟨i+1,g,b,h1,by simpa using h2,by simpa using h3,h4⟩
   ·exact .inr h
theorem aj.failure(h:aj c H Z p d s)(m:Nat):(∃f a,failureOf s m=some f∧gI (bT s.failures d.fs) (.inl (m:Int))=some (.ref a)∧xh c H Z p d a f)∨(failureOf s m=none∧gI (bT s.failures d.fs) (.inl (m:Int))=none):=by
 rcases Ci s.failures d.fs m h.pT with⟨i,f,a,h1,h2,h3,h4⟩ |h'
 ·exact .inl ⟨f,a,h1,h4,h.im.fail i a f h3 h2⟩
 ·exact .inr h'
theorem Cj(fs:List Failure)(as:List Addr)(h:as.length=fs.length):(bT fs as).length=fs.length:=by
 unfold bT
 rw[DS,abO,h,Nat.min_self]
theorem aj.Xk(h:aj c H Z p d s){a:Addr}{f:Failure}(hn:failureOf s f.m=none)(fa:xh c H Z p d a f):aj c (upd H d.fd (.dK (putK (bT s.failures d.fs) (.inl (f.m:Int)) (.ref a)))) Z p {d with fs:=d.fs++[a]} {s with failures:=s.failures++[f]}:=by
 obtain⟨n1,n2,n3,n4,n5,n6,n7⟩:=O_ h.nd
 obtain⟨r1,r2,r3,r4,r5,r6,r7,r8,r9⟩:=h.rest (o:=.dK (putK (bT s.failures d.fs) (.inl (f.m:Int)) (.ref a))) (fun _ _ e=>e) (aj.xm (p:=p) (d:=d))
 have hv:gI (bT s.failures d.fs) (.inl (f.m:Int))=none:=by
  rcases h.failure f.m with⟨g,b,e,_⟩ |⟨_,e⟩
  ·rw[hn]at e;cases e
  ·exact e
 refine⟨r1 n1.2.2.2.1,r2 n2.2.2.1,h.iC,r3 n5.2,r4 n3.2.1,h.pp,r5 n4.1,h.iD,?_,by simp[h.pT],r7 n5.1.symm,?_,h.O8 r8,h.nd,h.fz,r9⟩
 ·show upd H d.fd _ d.fd=_
  rw[af,Hw _ hv]
  unfold bT
  rw[List.zip_append h.pT.symm,aaz]
  rfl
 ·refine⟨fun q hq=>?_,fun i b y hb hy=>?_,fun i b g hb hg=>?_⟩
  ·obtain⟨⟨dx,e⟩,i⟩:=h.im.pr q hq
   exact⟨⟨dx,r8 _ _ e i.1⟩,i⟩
  ·obtain⟨⟨dx,e⟩,i⟩:=h.im.inv i b y hb hy
   exact⟨⟨dx,r8 _ _ e i.1⟩,i⟩
  ·have kk:∀b u,H b=some u→Ol u=false→b∉muts p d→b≠Z→upd H d.fd (.dK (putK (bT s.failures d.fs) (.inl (f.m:Int)) (.ref a))) b=some u:=fun b u e _ n _=>r8 b u e n
   by_cases hi:i<d.fs.length
   ·rw[aaA hi]at hb
    rw[aaA (by rw[←h.pT];exact hi)]at hg
    exact(h.im.fail i b g hb hg).of (fun b hb=>.inl hb) kk
   ·rw[aaG (abj hi)]at hb
    rw[aaG (by rw[←h.pT];exact abj hi),←h.pT]at hg
    cases q:i-d.fs.length with
    |zero=>
     rw[q]at hb hg
     cases hb
     cases hg
     exact fa.of (fun b hb=>.inl hb) kk
    |succ j=>rw[q]at hb;simp at hb
def AO(fs:List Failure)(as:List Addr)(m:Nat)(a:Addr):List Addr:=(fs.zip as).map fun q=>if q.1.m=m then a else q.2
theorem JB{fs:List Failure}{as:List Addr}{m:Nat}{a:Addr}{g:Failure}(hg:g.m=m)(hs:(gI (bT fs as) (.inl (m:Int))).isSome=true):putK (bT fs as) (.inl (m:Int)) (.ref a)=bT (fs.map fun f=>if f.m=m then g else f) (AO fs as m a):=by
 unfold putK
 rw[yD,hs,D7 rfl]
 unfold bT AO
 clear hs
 induction fs generalizing as with
 |nil=>simp
 |cons f fs ih=>
  cases as with
  |nil=>simp
  |cons b as=>
   simp only[List.zip_cons_cons,aaJ,List.cons.injEq]
   refine⟨?_,ih⟩
   by_cases e:f.m=m
   ·rw[D7 (by rw[e]),D7 e,D7 e,hg,e]
   ·rw[D6 (fun q=>e (by have:=acv q;omega)),D6 e,D6 e]
theorem aj.Xl(h:aj c H Z p d s){a:Addr}{f g:Failure}(hf:failureOf s f.m=some f)(hg:g.m=f.m)(fa:xh c H Z p d a g):aj c (upd H d.fd (.dK (putK (bT s.failures d.fs) (.inl (f.m:Int)) (.ref a)))) Z p {d with fs:=AO s.failures d.fs f.m a} {s with failures:=s.failures.map fun x=>if x.m=f.m then g else x}:=by
 obtain⟨n1,n2,n3,n4,n5,n6,n7⟩:=O_ h.nd
 obtain⟨r1,r2,r3,r4,r5,r6,r7,r8,r9⟩:=h.rest (o:=.dK (putK (bT s.failures d.fs) (.inl (f.m:Int)) (.ref a))) (fun _ _ e=>e) (aj.xm (p:=p) (d:=d))
 have hv:(gI (bT s.failures d.fs) (.inl (f.m:Int))).isSome=true:=by
  rcases h.failure f.m with⟨g,b,_,e,_⟩ |⟨e,_⟩
  ·rw[e];rfl
  ·rw[hf]at e;cases e
 refine⟨r1 n1.2.2.2.1,r2 n2.2.2.1,h.iC,r3 n5.2,r4 n3.2.1,h.pp,r5 n4.1,h.iD,?_,?_,r7 n5.1.symm,?_,h.O8 r8,h.nd,h.fz,r9⟩
 ·show upd H d.fd _ d.fd=_
  rw[af,JB hg hv]
 ·show(AO s.failures d.fs f.m a).length=(s.failures.map _).length
  unfold AO
  rw[DS,DS,abO,h.pT,Nat.min_self]
 ·refine⟨fun q hq=>?_,fun i b y hb hy=>?_,fun i b x hb hx=>?_⟩
  ·obtain⟨⟨dx,e⟩,i⟩:=h.im.pr q hq
   exact⟨⟨dx,r8 _ _ e i.1⟩,i⟩
  ·obtain⟨⟨dx,e⟩,i⟩:=h.im.inv i b y hb hy
   exact⟨⟨dx,r8 _ _ e i.1⟩,i⟩
  ·have kk:∀b u,H b=some u→Ol u=false→b∉muts p d→b≠Z→upd H d.fd (.dK (putK (bT s.failures d.fs) (.inl (f.m:Int)) (.ref a))) b=some u:=fun b u e _ n _=>r8 b u e n
   have hb':(AO s.failures d.fs f.m a)[i]?=some b:=hb
   have hx':(s.failures.map fun x=>if x.m=f.m then g else x)[i]?=some x:=hx
   unfold AO at hb'
   rw[HD]at hb' hx'
   cases e1:s.failures[i]? with
   |none=>rw[e1]at hx';cases hx'
   |some y=>
    have hi:i<d.fs.length:=by rw[h.pT];exact(aao.mp e1).1
    have e2:d.fs[i]?=some d.fs[i]:=D3 hi
    have e3:(s.failures.zip d.fs)[i]?=some (y,d.fs[i]):=by rw[abM];exact⟨e1,e2⟩
    rw[e3]at hb'
    rw[e1]at hx'
    have hb2:(if y.m=f.m then a else d.fs[i])=b:=aar hb'
    have Mw:(if y.m=f.m then g else y)=x:=aar hx'
    by_cases e:y.m=f.m
    ·rw[D7 e]at hb2 Mw
     subst hb2 Mw
     exact fa.of (fun b hb=>.inl hb) kk
    ·rw[D6 e]at hb2 Mw
     subst hb2 Mw
     exact(h.im.fail i _ y e2 e1).of (fun b hb=>.inl hb) kk
end
end MA
namespace L2
open PySem PySem.Spec PyProof.Rows
theorem xq:bootBuiltins "sum"=some (.builtin "sum"):=by decide+kernel
theorem JC:bootBuiltins "any"=some (.builtin "any"):=by decide+kernel
theorem RE:bootBuiltins "all"=some (.builtin "all"):=by decide+kernel
theorem xr:bootBuiltins "min"=some (.builtin "min"):=by decide+kernel
theorem JD:bootBuiltins "max"=some (.builtin "max"):=by decide+kernel
theorem FU:bootBuiltins "dict"=some (.type "dict"):=by decide+kernel
theorem Pa:bootBuiltins "list"=some (.type "list"):=by decide+kernel
theorem LW:bootBuiltins "sorted"=some (.builtin "sorted"):=by decide+kernel
section
variable{X:Cx}
theorem Ck:Bq X (binaryOp .FloorDiv) (rI (fun _ j=>0<j∧j<2^100) fun i j=>.int (i/j)):=V9 fun i j _ _ _ _ _ hc q=>by
 have h1:(0:Int)<j:=hc.1
 have h2:j<2^100:=hc.2
 refine floordiv_int (by omega) (by rw[Int.fdiv_eq_ediv_of_nonneg i (by omega)];exact q) (.inl (PyProof.noPylong_of_log2 ?_))
 have h3:j.natAbs≠0:=by omega
 have h4:j.natAbs.log2<100:=(Nat.log2_lt h3).mpr (by omega)
 omega
theorem HK:Ud X (Rh X.K):=by
 intro pins s σ H x y v u Q I rx ry h
 obtain⟨p,xs,i,z,rfl,rfl,hq,he,q⟩:=h
 cases rx
 obtain⟨t,rfl⟩:=ry
 obtain⟨its,r,pl,hz⟩:=I.list hq
 obtain⟨j,h1,h2,h3,h4,h5⟩:=FG he
 obtain⟨w,ew,rw'⟩:=r.get h2
 have hl:=r.length
 have hn:=B4
 have fin:EP X pins σ Q w s:=⟨z,H,I,rw',q⟩
 by_cases h0:0≤i
 ·have hj:i.toNat=j:=by
   rw[seqIndex_of h0 h5]at h1
   exact aar h1
  exact wpAny_getItem_list pl.isList h0 (by omega) (by rw[hj];simpa using ew) fin
 ·have hj:(i+(its.toArray.size:Int)).toNat=j:=by
   rw[seqIndex_neg (by omega) h4]at h1
   rw[aav,←hl]
   exact aar h1
  exact wpAny_getItem_list_neg pl.isList (by omega) (by rw[aav]<;>omega) (by omega) (by rw[hj];simpa using ew) fin
theorem Cm:qD X (.type "dict") (fun xs H Q=>∃a kvs,xs=[.ref a]∧H a=some (.dK kvs)∧∀p,H p=none→Q (.ref p) (upd H p (.dK kvs))):=by
 intro pins s σ H xs us Q I r h
 obtain⟨a,kvs,rfl,ha,q⟩:=h
 obtain⟨u,rfl,ru⟩:=vals1 r
 cases ru
 exact Nj I (.inl ha) fun p s' hp I'=>⟨.ref p,_,I',rfl,q p hp⟩
end
section
variable{X:Cx}
theorem LX:qD X (.builtin "len") (fun xs H Q=>∃a kvs,xs=[V.ref a]∧H a=some (.dT kvs)∧Q (.int kvs.length) H):=by
 intro pins s σ H xs us Q I r h
 obtain⟨a,kvs,rfl,ha,q⟩:=h
 obtain⟨u,rfl,ru⟩:=vals1 r
 cases ru
 obtain⟨z,hd,xs,kt,o,es,ep,ho,hx,hdt,he,hk,hn⟩:=Qv I.hok ha
 have hl:kvs.length=xs.length:=acu kt
 have hsz:es.size=xs.length:=size_of_entries he
 rw[abx]at z
 refine call_len_slot (n:=(kvs.length:Int)) ⟨_,ho,hx.1⟩ F.slot_dict_len (fun Q' hq=>?_) (by omega) (by omega) ⟨.int kvs.length,H,I.tok _,⟨_,rfl⟩,q⟩
 refine abV F.slot_dict_len ⟨_,ho,hx.1⟩ F.entry_dict_len ?_ (F.args_dict_len_1 _)
 show wpAny _ _ (dictSize a>>=_) _ _ s
 unfold dictSize
 refine D4 (D4 (abC ho hdt (aan (D4 (m:=Builtin.Dict.pendingCount a) (wpAny_pendingCount_other hd (wpAny_ret_mkInt ?_))))))
 rw[hsz,←hl]
 simpa using hq
end
section
variable{prog:Program}{w:World}{A:Around}{E:Value→Shared→Prop}{s:Shared}
theorem efe{id:String}{d:Addr}{ob:Obj}{es:Array DictEntry}{ep:Nat}{Q:Array DictEntry→Shared→Prop}(ho:s.heap.get? d=some ob)(hd:ob.data=.dict es ep)(hk:∀e∈es.toList,∃q,e.key=.ref q∧s.TypeIs (.ref q) "tuple")(hf:∀e∈es.toList,¬(es.filter (·.hash==e.hash)).size>1)(h:Q es s):wpAny (model prog w) A (Builtin.Dict.entriesForEmpty id d) Q E s:=by
 unfold Builtin.Dict.entriesForEmpty
 refine D4 (abC ho hd (D4 ?_))
 rw[←Array.forIn_toList]
 refine wpAny_forIn_list _ (fun rest _ s'=>s'=s∧∀e∈rest,e∈es.toList) _ (fun x rest b s' ⟨e1,e2⟩=>?_) (fun b s' ⟨e1,_⟩=>by subst e1;exact aan h) _ _ ⟨rfl,fun _ z=>z⟩
 subst e1
 obtain⟨q,kq,tq⟩:=hk x (e2 x aau)
 refine D4 ?_
 rw[kq]
 unfold Builtin.Dict.quietEq
 refine D4 (wpAny_specialOf tq F.slot_tuple_eq.lookup (aan ?_))
 have hq:(!(some (Value.builtin "tuple.__eq__")==some (Value.builtin "object.__eq__")))=true:=by decide+kernel
 rw[D7 hq,D6 (hf x (e2 x aau))]
 exact aan ⟨rfl,fun e he=>e2 e (aap _ he)⟩
theorem Xm{nm:String}{d o:Addr}{od oo:Obj}{eso:Array DictEntry}{Ti Xn:Nat}{Q:Unit→Shared→Prop}(hdo:d≠o)(hoS:(o==sysModules)=false)(hod:s.heap.get? d=some od)(Zn:od.data=.dict #[] Ti)(RG:s.heap.get? o=some oo)(LY:oo.data=.dict eso Xn)(hk:∀e∈eso.toList,∃q,e.key=.ref q∧s.TypeIs (.ref q) "tuple")(hf:∀e∈eso.toList,¬(eso.filter (·.hash==e.hash)).size>1)(hz:eso.size≤sizeLine)(h0:eso=#[]→Q () s)(h1:eso≠#[]→Q () {s with heap:=s.heap.update d (Obj.mapDictKeys fun _=>eso)}):wpAny (model prog w) A (Builtin.Dict.mergeDict nm d o) Q E s:=by
 unfold Builtin.Dict.mergeDict Builtin.Dict.showsAll
 rw[D6 (by simpa using hdo),D6 (by rw[hoS];exact aay)]
 refine D4 (aan (D4 (abC RG LY ?_)))
 by_cases he:eso=#[]
 ·subst he
  have hfew:(!(decide ((#[]:Array DictEntry).size≤8)&&(#[]:Array DictEntry).all fun e=>(keyPart e.key).isSome))=false:=by simp
  dsimp only
  rw[hfew]
  refine D4 (wpAny_dictEpoch RG LY (D4 (abC RG LY ?_)))
  simp only[Array.size_empty]
  refine D4 ?_
  rw[Std.Legacy.Range.forIn_eq_forIn_range']
  simp only[Std.Legacy.Range.size,Nat.sub_zero,Nat.div_one,Nat.zero_add,Nat.sub_self,List.range'_zero,acG]
  exact aan (aan (h0 rfl))
 ·have hne:∃e,e∈eso.toList:=by
   cases q:eso.toList with
   |nil=>exact absurd (Array.toList_eq_nil_iff.mp q) he
   |cons e r=>exact⟨e,aau⟩
  have hfew:(!(decide (eso.size≤8)&&eso.all fun e=>(keyPart e.key).isSome))=true:=by
   obtain⟨e,hm⟩:=hne
   obtain⟨q,kq,_⟩:=hk e hm
   have ha:(eso.all fun e=>(keyPart e.key).isSome)=false:=by
    rw[Bool.eq_false_iff]
    intro z
    rw[←Array.all_toList,ab8]at z
    have:=z e hm
    rw[kq]at this
    cases this
   rw[ha,Bool.and_false,Bool.not_false]
  dsimp only
  rw[D7 hfew]
  refine D4 (abC hod Zn ?_)
  rw[D7 (by rfl)]
  refine D4 (efe RG LY hk hf ?_)
  rw[D7 (by simpa using he)]
  exact D4 (wpAny_updateDictKeysTo hod Zn (aan (h1 he)) (by omega))
theorem UK{o:Addr}{oo:Obj}{eso:Array DictEntry}{Xn:Nat}{Q:Value→Shared→Prop}(hoS:(o==sysModules)=false)(RG:s.heap.get? o=some oo)(hx:oo.ExactDict)(LY:oo.data=.dict eso Xn)(hk:∀e∈eso.toList,∃q,e.key=.ref q∧s.TypeIs (.ref q) "tuple")(hf:∀e∈eso.toList,¬(eso.filter (·.hash==e.hash)).size>1)(hz:eso.size≤sizeLine)(h:∀h' od Ti,h'.get? s.heap.objs.size=some od→od.ExactDict→od.data=.dict eso Ti→Heap.SameBut s.heap.objs.size (s.heap.push {cls:=.type "dict",data:=.dict #[]}) h'→Q (.ref s.heap.objs.size) {s with heap:=h'}):wpAny (model prog w) A (call (.type "dict") [.ref o]) Q E s:=by
 refine callType_codes (Q₁:=fun v s₁=>v=.ref s.heap.objs.size∧s₁={s with heap:=s.heap.push {cls:=.type "dict",data:=.dict #[]} }) F.kt_called_dict (F.kt_typeCall_dict_1 _) F.entry_dict_init (kt_code_dict_new _ ⟨rfl,rfl⟩) fun v s₁ ⟨e1,e2⟩=>?_
 subst e1 e2
 have hn:(s.heap.push {cls:=.type "dict",data:=.dict #[]}).get? s.heap.objs.size=some {cls:=.type "dict",data:=.dict #[]}:=aaw _ rfl
 have ho2:(s.heap.push {cls:=.type "dict",data:=.dict #[]}).get? o=some oo:=D8 _ RG
 have hdo:s.heap.objs.size≠o:=fun e=>absurd (aaq RG) (by rw[e];exact abc _)
 have Zo:Shared.TypeIs {s with heap:=s.heap.push {cls:=.type "dict",data:=.dict #[]} } (.ref s.heap.objs.size) "dict":=⟨_,hn,rfl⟩
 have Xo:Shared.TypeIs {s with heap:=s.heap.push {cls:=.type "dict",data:=.dict #[]} } (.ref o) "dict":=⟨_,ho2,hx.1⟩
 have Zp:Obj.ExactDict {cls:=.type "dict",data:=.dict #[]}:=⟨rfl,rfl,rfl⟩
 refine⟨Zo,F.args_dict_init_2 _ _,?_⟩
 unfold Builtin.«dict.__init__» Builtin.Dict.selfAndRest
 refine D4 (D4 (wpAny_notOrdered_dict Zo ?_))
 show wpAny _ _ (pure (s.heap.objs.size,[Value.ref o])) _ _ _
 refine aan ?_
 show wpAny _ _ (Builtin.Dict.updateFrom "dict.__init__" s.heap.objs.size (.ref o) [] .none) _ _ _
 unfold Builtin.Dict.updateFrom
 refine D4 (wpAny_typeOf Xo ?_)
 rw[D6 (by decide)]
 refine D4 ?_
 unfold Builtin.Dict.merge Builtin.Dict.readDirectly
 refine D4 (D4 (wpAny_isInstance Xo isSubtype_dict_dict ?_))
 simp only[Bool.not_true,aaC,aa4]
 refine D4 (wpAny_specialOf Xo F.slot_dict_iter.lookup (aan ?_))
 simp only[beq_self_eq_true,aa3]
 refine D4 (aan ?_)
 have hk2:∀e∈eso.toList,∃q,e.key=.ref q∧Shared.TypeIs {s with heap:=s.heap.push {cls:=.type "dict",data:=.dict #[]} } (.ref q) "tuple":=fun e he=>by
  obtain⟨q,kq,ob,hb,hc⟩:=hk e he
  exact⟨q,kq,ob,D8 _ hb,hc⟩
 refine Xm (Ti:=0) hdo hoS hn rfl ho2 LY hk2 hf hz (fun e0=>?_) (fun _=>?_)
 ·subst e0
  exact D4 (aan (aan ⟨rfl,h _ _ _ hn Zp rfl (Heap.SameBut.refl _ _)⟩))
 ·refine D4 (aan (aan ⟨rfl,h _ _ _ (Heap.get?_update_self _ hn (Obj.isFreed_of_dict (Obj.data_mapDictKeys rfl _))) (Zp.mapDictKeys _) (Obj.data_mapDictKeys rfl _) (Heap.SameBut.update ..)⟩))
end
theorem QA{α β:Type}[DecidableEq β](f:α→β)(h:α→Int)(c:Int):∀l:List α,(l.map f).Nodup→(∀x∈l,∀y∈l,h x=h y→f x=f y)→(l.filter fun x=>h x==c).length≤1
 |[],_,_=>by simp
 |a::l,nd,hi=>by
  have LP:=aaO.mp nd
  have ih:=QA f h c l LP.2 (fun x hx y hy=>hi x (aap _ hx) y (aap _ hy))
  rw[abi]
  split
  ·rename_i e
   have e0:(l.filter fun x=>h x==c)=[]:=by
    rw[List.filter_eq_nil_iff]
    intro y hy q
    have e1:h a=c:=by simpa using e
    have e2:h y=c:=by simpa using q
    exact LP.1 (by rw[hi a aau y (aap _ hy) (e1.trans e2.symm)];exact abF hy)
   rw[aax,e0]
   exact D9 _
  ·exact ih
def RH(P:Program)(w:World)(kvs:List (List Key×V)):Prop:=∀x∈kvs,∀y∈kvs,tupleKeyHash (cQ P w) x.1=tupleKeyHash (cQ P w) y.1→x.1=y.1
theorem JE{X:Cx}:qD X (.type "dict") (fun xs H Q=>∃a kvs,xs=[.ref a]∧H a=some (.dT kvs)∧RH X.prog X.w kvs∧∀p,H p=none→Q (.ref p) (upd H p (.dT kvs))):=by
 intro pins s σ H xs us Q I r h
 obtain⟨a,kvs,rfl,ha,hi,q⟩:=h
 obtain⟨u,rfl,ru⟩:=vals1 r
 cases ru
 obtain⟨z,hs,ys,pr,o,es,ep,ho,hx,hdt,he,hn⟩:=I.hok a _ ha
 have hl:kvs.length=ys.length:=acu pr
 have hsz:es.size=ys.length:=size_of_entries he
 have hy:∀y∈ys,∃x∈kvs,x.1=y.1∧H y.2.1=some (.tup (x.1.map kV)):=by
  intro y hy
  clear hl hsz he hn hi ha q z
  induction pr with
  |nil=>cases hy
  | @cons a' b l₁ l₂ c1 c2 ih=>
    rcases aas.mp hy with rfl |hy
    ·exact⟨a',aau,c1.1,c1.2.1⟩
    ·obtain⟨x,hx,e⟩:=ih hy
     exact⟨x,aap _ hx,e⟩
 refine UK hs ho hx hdt (fun e hm=>?_) (fun e hm=>?_) (by rw[hsz,←hl];exact z) fun h' od Ti h1 h2 h3 h4=>?_
 ·rw[he]at hm
  obtain⟨y,hym,rfl⟩:=aaE.mp hm
  obtain⟨x,_,_,e2⟩:=hy y hym
  obtain⟨_,its,_,ob,hb,hc,_⟩:=I.hok _ _ e2
  exact⟨y.2.1,rfl,ob,hb,hc⟩
 ·have hs1:(es.filter (·.hash==e.hash)).size=(ys.filter fun y=>tupleKeyHash (cQ X.prog X.w) y.1==e.hash).length:=by
   rw[←acy,Array.toList_filter,he,List.filter_map,DS]
   rfl
  rw[hs1]
  have:=QA (fun y:List Key×Addr×Value=>y.1) (fun y=>tupleKeyHash (cQ X.prog X.w) y.1) e.hash ys hn (fun y1 h1 y2 h2 e=>by
   obtain⟨x1,m1,k1,_⟩:=hy y1 h1
   obtain⟨x2,m2,k2,_⟩:=hy y2 h2
   have:=hi x1 m1 x2 m2 (by rw[k1,k2];exact e)
   rw[k1,k2]at this
   exact this)
  omega
 ·have hp:H s.heap.objs.size=none:=I.hok.fresh (D9 _)
  refine⟨.ref s.heap.objs.size,_,I.laid (a:=s.heap.objs.size) (o:=.dT kvs) (t':=s.toks) (fun b ob hb=>(h4.2 b (aaI (aaq hb))).trans (D8 _ hb)) (D9 _) ?_,rfl,q _ hp⟩
  exact⟨z,aaW.mpr (acn (aaI I.big)),ys,Paired.OD pr fun x y c=>⟨c.1,by rw[aq (aA c.2.1 hp)];exact c.2.1,c.2.2⟩,od,es,Ti,h1,h2,h3,he,hn⟩
section
variable{X:Cx}{s:Shared}{H:Hp}{scope:Scope}{cenv:Env}{fp:List Addr}
theorem BC{es:List Expr}{k:Nat}{t:Ql}{n:Nat}{pos:Pos}(hc:X.calm=true)(h:T9 (X.Bu s H scope cenv fp) es t)(hn:(assignEach es cenv).length=n:=by rfl)(hst:(assignEach es cenv).findIdx? (·.1)=none:=by rfl):PG (X.Bu s H scope cenv fp) (.Tuple es k pos) (Ub X.K n t):=tT hc h hn hst
theorem vD{e:Expr}{f:Str}{pos:Pos}{ta:TE}(he:PE (X.Bu s H scope cenv fp) e ta)(hb:attributeBase e f cenv (eval e cenv)=eval e cenv):PE (X.Bu s H scope cenv fp) (.Attribute e f pos) (DA X.K ta f):=ak he hb
theorem BD:V_ (X.Bu s H scope cenv fp) (Ur X.K):=tW
end
theorem Pb(z:Int)(t:Tok)(l:Addr)(its:Array Value)(n:Nat)(dd:Option Addr)(sl:Array (Option Value)):Meets (Builtin.«int.__rmul__» ⟨[.int z t,.ref l],[]⟩) (fun _ R s=>s.heap.get? l=some {cls:=.type "tuple",dict:=dd,data:=.seq its n,slots:=sl}∧R (.ok (.ret Value.notImplemented)) s):=
 .of_wp fun prog w A R s ⟨e,q⟩=>by obtain⟨hp,g,d,tk,os⟩:=s;wp_walk;exact⟨_,rfl,q⟩
theorem FW:fillsNumberSlot (.type "tuple") "mul"=pure false:=
 PySem.fillsNumberSlot_seq (id:="tuple.__mul__") (r:=some (.builtin "tuple.__rmul__")) acs.lookup (by decide+kernel) F.slot_tuple_rmul.lookup (by decide+kernel)
theorem LZ:seqRepeat? (.type "tuple")=pure (some (.builtin "tuple.__mul__")):=by
 unfold seqRepeat?
 rw[PySem.seqSlot_of (T:="tuple") (name:="__mul__") (id:="tuple.__mul__") acs.lookup (by decide+kernel),PySem.seqSlot_of (T:="tuple") (name:="__rmul__") (id:="tuple.__rmul__") F.slot_tuple_rmul.lookup (by decide+kernel)]
 rfl
theorem UM(l:Addr)(its:Array Value)(n:Nat)(dd:Option Addr)(sl:Array (Option Value))(t:Tok)(h0:its.isEmpty=false):Meets (Builtin.«tuple.__mul__» ⟨[.ref l,.int 0 t],[]⟩) (fun _ R s=>s.heap.get? l=some {cls:=.type "tuple",dict:=dd,data:=.seq its n,slots:=sl}∧R (.ok (.ret (.ref s.heap.objs.size))) {s with heap:=s.heap.push {cls:=.type "tuple",data:=.seq #[]} }):=
 .of_wp fun prog w A R s ⟨e,q⟩=>by
  obtain⟨hp,g,d,tk,os⟩:=s
  have f1:=AutoSeq1.idx_int
  wp_walk using aa2 e
  exact⟨_,rfl,q⟩
theorem UN(l:Addr)(its:Array Value)(n:Nat)(dd:Option Addr)(sl:Array (Option Value))(t:Tok)(h0:its.isEmpty=false):Meets (Builtin.«tuple.__mul__» ⟨[.ref l,.int 1 t],[]⟩) (fun _ R s=>s.heap.get? l=some {cls:=.type "tuple",dict:=dd,data:=.seq its n,slots:=sl}∧R (.ok (.ret (.ref l))) s):=
 .of_wp fun prog w A R s ⟨e,q⟩=>by
  obtain⟨hp,g,d,tk,os⟩:=s
  have f1:=AutoSeq1.idx_int
  have f2:=AutoSeq1.sub_tuple_tuple
  wp_walk using aa2 e
  exact⟨_,rfl,q⟩
theorem UO(l:Addr)(its:Array Value)(n:Nat)(dd:Option Addr)(sl:Array (Option Value))(k:Int)(t:Tok)(h0:its.isEmpty=false)(c1:¬(decide (k< -2^63)||decide (k≥2^63))=true)(c2:¬(its.isEmpty||k==1)=true)(c3:¬(decide (k≤0)||its.isEmpty)=true)(c4:¬(its.size:Int)*k>(2^63-1)/8)(c5:¬Builtin.Tuple.tupleTooMany ((its.size:Int)*k)=true)(c6:(List.foldl (fun x1 x2=>x1++x2) #[] (List.replicate k.toNat its)).size≤sizeLine):Meets (Builtin.«tuple.__mul__» ⟨[.ref l,.int k t],[]⟩) (fun _ R s=>s.heap.get? l=some {cls:=.type "tuple",dict:=dd,data:=.seq its n,slots:=sl}∧R (.ok (.ret (.ref s.heap.objs.size))) {s with heap:=s.heap.push {cls:=.type "tuple",data:=.seq (List.foldl (fun x1 x2=>x1++x2) #[] (List.replicate k.toNat its))} }):=
 .of_wp fun prog w A R s ⟨e,q⟩=>by
  obtain⟨hp,g,d,tk,os⟩:=s
  have f1:=AutoSeq1.idx_int
  have f2:=AutoSeq1.sub_tuple_tuple
  wp_walk using aa2 e
  rw[D6 c1]
  wp_walk using aa2 e
  rw[D6 c2]
  wp_walk using aa2 e
  rw[D6 c3]
  wp_walk using aa2 e
  rw[D6 c4]
  wp_walk using aa2 e
  exact⟨_,rfl,q⟩
def QC(H H':Hp):Prop:=∀b o,H b=some o→H' b=some o
def UP(K:W.Frag):R2:=fun x y H Q=>∃l k xs,x=.ref l∧y=.int k∧i6 K H l xs∧xs≠[]∧0≤k∧k<2^62∧xs.length*k.toNat≤sizeLine∧∀H' r,QC H H'→i6 K H' r (List.replicate k.toNat xs).flatten→Q (.ref r) H'
theorem Pc{X:Cx}:Bq X (binaryOp .Mult) (UP X.K):=by
 intro pins s σ H x y v u Q I rx ry h
 obtain⟨l,k,xs,rfl,rfl,hH,hne,h1,h2,hz,q⟩:=h
 cases rx
 obtain⟨t,rfl⟩:=ry
 obtain⟨its,r,p1,_⟩:=I.tuple hH
 have hlen:=r.length
 have hits:its.toArray.isEmpty=false:=by
  cases its with
  |nil=>exact absurd (r.yx.mp rfl) hne
  |cons a b=>rfl
 obtain⟨⟨cls,dd,data,sl⟩,ho,hc,n,hd⟩:=id p1
 simp only at hc hd
 subst hc hd
 refine wpAny_binaryOp_repeat_ref (T:="tuple") (U:="int") (by decide) ⟨_,ho,rfl⟩ (fun s'=>typeIs_int s' k t) FW F.fills_int_mul F.slot_int_rmul LZ F.slot_int_index.lookup
  (acr F.slot_int_rmul (typeIs_int s k t) F.entry_int_rmul (F.args_int_rmul_2 _ _) (Pb k t l its.toArray n dd sl) ⟨ho,rfl,⟨_,ho,rfl⟩,?_⟩)
 have nw:∀{ys:List V} {vs:List Value},Vals ys vs→ys.length≤sizeLine→ys=(List.replicate k.toNat xs).flatten→EP X pins σ Q (.ref s.heap.objs.size) {s with heap:=s.heap.push {cls:=.type "tuple",data:=.seq vs.toArray} }:=fun{ys vs} rv z e=>
  ⟨.ref s.heap.objs.size,upd H s.heap.objs.size (.tup ys),I.laid (t':=s.toks) (fun b u e=>D8 _ e) (D9 _) ⟨z,vs,rv,⟨_,aaw _ rfl,rfl,_,rfl⟩⟩,rfl,q _ _ (fun b o eb=>by rw[aq (aA eb I.fresh)];exact eb) (by rw[←e];exact i6.of af)⟩
 by_cases e0:k=0
 ·subst e0
  exact acr acs ⟨_,ho,rfl⟩ F.entry_tuple_mul (F.args_tuple_mul_2 _ _) (UM l its.toArray n dd sl t hits) ⟨ho,nw (ys:=[]) (vs:=[]) .nil (aa0 _) rfl⟩
 by_cases e1:k=1
 ·subst e1
  exact acr acs ⟨_,ho,rfl⟩ F.entry_tuple_mul (F.args_tuple_mul_2 _ _) (UN l its.toArray n dd sl t hits) ⟨ho,⟨.ref l,H,I,rfl,q H l (fun _ _ e=>e) (by simpa using hH)⟩⟩
 have Za:=abx
 have hk2:(its.toArray.size:Int)*k=((xs.length*k.toNat:Nat):Int):=by
  rw[aav,←hlen,Int.natCast_mul]
  congr 1
  omega
 have QD:List.foldl (fun x1 x2=>x1++x2) #[] (List.replicate k.toNat its.toArray)=(List.replicate k.toNat its).flatten.toArray:=by
  have:=foldl_rep its k.toNat []
  rw[List.nil_append]at this
  exact this
 have hsz:(List.replicate k.toNat its).flatten.length≤sizeLine:=by rw[len_rep,←hlen,Nat.mul_comm];exact hz
 refine acr acs ⟨_,ho,rfl⟩ F.entry_tuple_mul (F.args_tuple_mul_2 _ _) (UO l its.toArray n dd sl k t hits ?_ ?_ ?_ ?_ ?_ ?_) ⟨ho,?_⟩
 ·rw[acg,abY,abY];omega
 ·rw[hits,Bool.false_or];intro z;exact e1 (eq_of_beq z)
 ·rw[hits,Bool.or_false,abY];omega
 ·rw[hk2];omega
 ·rw[hk2]
  intro z
  have:((xs.length*k.toNat:Nat):Int)>(sizeLine:Int):=ab3 z
  omega
 ·rw[QD,aav];exact hsz
 ·rw[QD]
  exact nw (r.rep k.toNat) (by rw[len_rep,Nat.mul_comm];exact hz) rfl
def StF(it l:Addr)(its:Array Value)(k j:Nat)(h:Heap):Prop:=k≤j∧h.IsList l its∧((j<k+its.size∧h.IsListIter it l (j-k))∨(k+its.size≤j∧∃p,its.size≤p∧h.IsListIter it l p))
theorem L0{P:Program}{w:World}{A:Around}(hh:A.handled=none)(it l:Addr)(hne:l≠it)(its:Array Value)(k:Nat):Draws P w A it [it,l] (k+its.size) (fun j v=>its[j-k]?=some v) (StF it l its k) where
 live:=by
  rintro j h ⟨_,_,⟨_,o,e,_⟩ |⟨_,p,_,o,e,_⟩⟩<;>exact⟨o,e⟩
 frame:=by
  rintro j h h' ⟨h1,h2,h3⟩ kp
  refine⟨h1,h2.at fun o e=>kp l (by simp) o e,?_⟩
  rcases h3 with⟨a,b⟩ |⟨a,p,b,c⟩
  ·exact .inl ⟨a,b.at fun o e=>kp it (by simp) o e⟩
  ·exact .inr ⟨a,p,b,c.at fun o e=>kp it (by simp) o e⟩
 item:=by
  rintro j s Q E hj ⟨h1,h2,h3⟩ q
  rcases h3 with⟨_,h3⟩ |⟨z,_⟩
  ·have hi:j-k<its.size:=by omega
   refine wpAny_nextOf_list_item (x:=its[j-k]) h3 h2 (ab5 hi) fun h' n sb=>q _ h' s.toks (ab5 hi) ⟨by omega,h2.extBut sb.extBut hne,?_⟩ sb
   by_cases e:j+1<k+its.size
   ·exact .inl ⟨e,by rw[show j+1-k=j-k+1 by omega];exact n⟩
   ·exact .inr ⟨by omega,j-k+1,by omega,n⟩
  ·omega
 done:=by
  rintro s Q E ⟨_,h2,h3⟩ q
  rcases h3 with⟨z,_⟩ |⟨_,p,hp,h3⟩
  ·omega
  ·exact wpAny_nextOf_list_end hh h3 h2 (acj hp) q
theorem Pd(l:Addr)(its:Array Value)(n:Nat)(dd:Option Addr)(sl:Array (Option Value))(k:Int)(t:Tok)(hk:¬(!Builtin.SmallTypes.fitsIndex k)=true):Meets (Builtin.«enumerate.__new__» ⟨[.type "enumerate",.ref l],[("start",.int k t)]⟩) (fun _ R s=>s.heap.get? l=some {cls:=.type "list",dict:=dd,data:=.seq its n,slots:=sl}∧R (.ok (.ret (.ref (s.heap.objs.size+1)))) {s with heap:=(s.heap.push {cls:=.type "list_iterator",data:=.fields #[.ref l,.int 0 0]}).push {cls:=.type "enumerate",data:=.fields #[.none,.bool false,.ref s.heap.objs.size,rawInt k,.none,.none]} }):=
 .of_wp fun prog w A R s ⟨e,q⟩=>by
  obtain⟨hp,g,d,tk,os⟩:=s
  have f0:=sub_enumerate
  have f1:=AutoSeq1.idx_int
  have L:Heap.IsList (Shared.heap ⟨hp,g,d,tk,os⟩) l its:=⟨_,e,rfl,n,rfl⟩
  have z:(hp.push {cls:=.type "list_iterator",data:=.fields #[.ref l,.int 0 0]}).objs.size=hp.objs.size+1:=aaZ ..
  wp_walk using aa2 e
  refine wpAny_stack_any fun st=>aan ?_
  have fin:∃v,PySem.Fin.done (Flow.ret (Value.ref (hp.push {cls:=.type "list_iterator",data:=.fields #[.ref l,.int 0 0]}).objs.size))=.done (.ret v)∧R (.ok (.ret v)) ⟨(hp.push {cls:=.type "list_iterator",data:=.fields #[.ref l,.int 0 0]}).push {cls:=.type "enumerate",data:=.fields #[.none,.bool false,.ref hp.objs.size,rawInt k,.none,.none]},g,d,tk,os⟩:=
   ⟨_,rfl,by rw[z];exact q⟩
  split
  ·rename_i c _ _ _ _ _
   cases(c==Value.type "enumerate")<;>(wp_walk using aa2 e,acm L;exact fin)
  ·wp_walk using aa2 e,acm L
   exact fin
section
variable{prog:Program}{w:World}{A:Around}{E:Value→Shared→Prop}{s:Shared}
theorem RI(self a b:Value)(hl:typeLookup (.type "enumerate") "__init__"=pure (some (.builtin "object.__init__")))(hm:Bind.madeBy (.type "enumerate")=pure (some "enumerate.__new__")):Meets (Builtin.«object.__init__» ⟨[self,a],[("start",b)]⟩) (fun _ R s=>s.TypeIs self "enumerate"∧R (.ok (.ret .none)) s):=
 .of_wp fun prog w A R s ⟨hT,q⟩=>by
  have hne:(some "enumerate.__new__" != some "object.__new__")=true:=by decide
  repeat (any_goals (first |assumption |wp_step))
  exact⟨_,rfl,q⟩
theorem Nt{l:Addr}{its:Array Value}{k:Int}{t:Tok}{Q:Value→Shared→Prop}(hk:¬(!Builtin.SmallTypes.fitsIndex k)=true)(hL:s.heap.IsList l its)(q:∀h',IsEnum h' (s.heap.objs.size+1) s.heap.objs.size k .none→h'.IsListIter s.heap.objs.size l 0→(∀b o,s.heap.get? b=some o→h'.get? b=some o)→Q (.ref (s.heap.objs.size+1)) {s with heap:=h'}):wpAny (model prog w) A (call (.type "enumerate") [.ref l] [("start",.int k t)]) Q E s:=by
 obtain⟨⟨c0,dd,dt,sl⟩,hl,hc0,n,hd0⟩:=hL
 obtain rfl:c0=.type "list":=hc0
 obtain rfl:dt=.seq its n:=hd0
 have ft:=F.called_enumerate
 obtain⟨c,tl,aaf⟩:=ft.mro
 have hmade:=ft.made;have hsub:=ft.sub;have h1:=ft.notType;have h2:=ft.canCreate
 have hct:checkTypeCall "enumerate" ⟨[.ref l],[("start",.int k t)]⟩=pure ():=by kernel_rfl
 have hcn:checkBuiltinCall "enumerate.__new__" ⟨[.type "enumerate",.ref l],[("start",.int k t)]⟩=pure ():=by kernel_rfl
 have z:(s.heap.push {cls:=.type "list_iterator",data:=.fields #[.ref l,.int 0 0]}).objs.size=s.heap.objs.size+1:=aaZ ..
 have ge:IsEnum ((s.heap.push {cls:=.type "list_iterator",data:=.fields #[.ref l,.int 0 0]}).push {cls:=.type "enumerate",data:=.fields #[.none,.bool false,.ref s.heap.objs.size,rawInt k,.none,.none]}) (s.heap.objs.size+1) s.heap.objs.size k .none:=by
  have g:=aaw (s.heap.push {cls:=.type "list_iterator",data:=.fields #[.ref l,.int 0 0]}) (o:={cls:=.type "enumerate",data:=.fields #[.none,.bool false,.ref s.heap.objs.size,rawInt k,.none,.none]}) rfl
  rw[z]at g;exact g
 refine wpAny_call (codeAny_of_tree ?go)
 show wpAny _ _ (callAny (.type "enumerate") _) _ _ _
 refine aan ⟨Code.quiet_builtin _ (by decide+kernel),codeAny_builtin F.entry_type_call ?go2⟩
 rw[Around.under_plain (weight_type_call_type "enumerate" [.ref l] _) (units_type_call_type "enumerate" [.ref l] _)]
 repeat (any_goals (first |assumption |wp_step))
 refine codeAny_mono (codeAny_call_builtin ft.plain F.entry_enumerate_new (wpAny_of_eq hcn (Pd l its n dd sl k t hk prog w A.in1 (wants (fun v s'=>v=.ref (s.heap.objs.size+1)∧s'={s with heap:=(s.heap.push {cls:=.type "list_iterator",data:=.fields #[.ref l,.int 0 0]}).push {cls:=.type "enumerate",data:=.fields #[.none,.bool false,.ref s.heap.objs.size,rawInt k,.none,.none]} }) E) s ⟨hl,rfl,rfl⟩))) fun r s1 hr=>?go3
 cases r with
 |error e=>exact hr
 |ok fl=>
  cases fl with
  |ret obj=>
   obtain⟨rfl,rfl⟩:=hr
   have hT:Shared.TypeIs {s with heap:=(s.heap.push {cls:=.type "list_iterator",data:=.fields #[.ref l,.int 0 0]}).push {cls:=.type "enumerate",data:=.fields #[.none,.bool false,.ref s.heap.objs.size,rawInt k,.none,.none]} } (.ref (s.heap.objs.size+1)) "enumerate":=⟨_,ge,rfl⟩
   have hli:=ft.init.lookup;have hbi:=ft.init.bind (.ref (s.heap.objs.size+1))
   have hok:argsOk "object.__init__" ⟨[.ref (s.heap.objs.size+1),.ref l],[("start",.int k t)]⟩:=by kernel_rfl
   repeat (any_goals (first |assumption |wp_step))
   refine codeAny_mono (codeAny_call_builtin ft.init.plain F.entry_object_init (ft.init.check _ _ _ _ _ _ _ _ hT hok (RI _ (.ref l) (.int k t) hli hmade prog w A.in1 (wants (fun v s'=>v=.none∧s'=_) E) _ ⟨hT,rfl,rfl⟩))) fun r2 s2 hr2=>?go4
   cases r2 with
   |error e=>exact hr2
   |ok fl2=>
    cases fl2 with
    |ret v=>
     obtain⟨rfl,rfl⟩:=hr2
     have fin:=q _ ge ⟨_,D8 _ (aaw _ rfl),rfl,rfl⟩ fun b o x=>D8 _ (D8 _ x)
     repeat (any_goals (first |assumption |wp_step))
    |_=>exact hr2.elim
  |_=>exact hr.elim
end
theorem RJ{M:Model}{A:Around}{E:Value→Shared→Prop}{s:Shared}{pos:Pos}{T:String}{es:List (Bool×Sem Value)}{kws:List (Option Str×Sem Value)}{R:Value→Shared→Prop}(p1:es.any (·.1)=false)(p2:kws.any (·.1.isNone)=false)(h:wpAny M A (evalArgs (.type T) true es kws) (fun a s1=>wpAny M A (call (.type T) a.pos a.kw) R E s1) E s):wpAny M A (callWith pos (.type T) [] es kws) R E s:=by
 unfold callWith
 refine D4 (wpAny_holding (dX h fun a s1 h1=>D4 (wpAny_standAt ?_)))
 simp only[p1,p2,Bool.or_self]
 exact D4 (aan (D4 (dX h1 fun r s2 hr=>D4 (wpAny_holding (wpAny_point (aan hr))))))
def L3(K:W.Frag)(a:Addr)(k:Int):It:=
 ⟨fun i H=>∃(xs:List V) (x:V),bD K H a xs∧xs[i]?=some x,fun i H v H'=>∃T x,v=.ref T∧H T=none∧H'=upd H T (.tup [.int (k+(i:Nat)),x])∧∀xs,bD K H a xs→xs[i]?=some x,fun i H=>∃xs:List V,bD K H a xs∧xs.length≤i⟩
def RK(K:W.Frag)(ta:TA)(te:TE):TI:=fun σ H R=>ta σ H fun vs H1=>te σ H1 fun y H2=>∃a xs k,vs=[.ref a]∧y=.int k∧0≤k∧k<2^62∧bD K H2 a xs∧R (L3 K a k) H2
theorem Pe{P:Program}{w:World}{A:Around}(hh:A.handled=none)(it l:Addr)(hne:l≠it)(its:Array Value)(k:Nat):Draws P w A it [it,l] (k+its.size) (fun j v=>its[j-k]?=some v) (fun j h=>k≤j∧h.IsList l its∧h.IsListIter it l (j-k)) where
 live:=by
  rintro j h ⟨_,_,o,e,_⟩
  exact⟨o,e⟩
 frame:=by
  rintro j h h' ⟨h1,h2,h3⟩ kp
  exact⟨h1,h2.at fun o e=>kp l (by simp) o e,h3.at fun o e=>kp it (by simp) o e⟩
 item:=by
  rintro j s Q E hj ⟨h1,h2,h3⟩ q
  have hi:j-k<its.size:=by omega
  exact wpAny_nextOf_list_item (x:=its[j-k]) h3 h2 (ab5 hi) fun h' n sb=>q _ h' s.toks (ab5 hi) ⟨by omega,h2.extBut sb.extBut hne,by rw[show j+1-k=j-k+1 by omega];exact n⟩ sb
 done:=by
  rintro s Q E ⟨_,h2,h3⟩ q
  exact wpAny_nextOf_list_end hh h3 h2 (acj (by omega)) q
theorem AQ{h:Heap}{a it:Addr}{its:Array Value}{i:Nat}(p:h.IsList a its)(q:h.IsListIter it a i):a≠it:=by
 intro z
 obtain⟨o1,q1,c1,_⟩:=q
 obtain⟨o2,q2,c2,_⟩:=p
 rw[z,q1]at q2
 cases q2
 rw[c1]at c2
 exact absurd c2 (by decide)
theorem Pf{h:Heap}{a e it:Addr}{its:Array Value}{i:Int}{old:Value}(p:h.IsList a its)(q:IsEnum h e it i old):e≠a:=by
 intro z
 obtain⟨o2,q2,c2,_⟩:=p
 rw[←z,q]at q2
 cases q2
 exact absurd (show Value.type "enumerate"=Value.type "list" from c2) (by decide)
theorem L4{P:Program}{w:World}{K:W.Frag}{elts:List Expr}{kk:Nat}{tpos:Pos}(a e it:Addr)(k:Nat):Turn P w K (.Tuple elts kk tpos) (L3 K a (k:Int)) [e,it] e (fun i h=>(∃old,IsEnum h e it ((k+i:Nat):Int) old)∧h.IsListIter it a i∧e≠it) where
 mem:=by simp
 obj:=by
  rintro i h ⟨⟨old,he⟩,⟨o,ho,hc,hd⟩,_⟩ b hb
  rcases(show b=e∨b=it by simpa using hb)with rfl |rfl
  ·exact⟨_,he,fun v q=>nomatch q⟩
  ·exact⟨o,ho,fun v q=>(by rw[hd]at q;cases q)⟩
 keep:=by
  rintro i h h' ⟨⟨old,he⟩,hi,hne⟩ kp
  exact⟨⟨old,kp e (by simp) _ he⟩,hi.at fun o q=>kp it (by simp) o q,hne⟩
 item:=by
  rintro X rfl rfl rfl hc i pins s σ H E I hf ⟨⟨old,he⟩,hit,hne⟩ ⟨xs,x,hq,hx⟩
  obtain⟨its,rv,p,hz⟩:=I.list hq
  obtain⟨u,hu,ru⟩:=rv.get hx
  have lt1:e<s.heap.objs.size:=aaq he
  have lt2:it<s.heap.objs.size:=by obtain⟨_,q,_⟩:=hit;exact aaq q
  have isz:i<its.toArray.size:=by rw[aav];exact(aao.mp hu).1
  have nla:=AQ p.isList hit
  have nea:=Pf p.isList he
  refine wpAny_pyNext_enum_itemD (i:=k+i) (Pe (P:=X.prog) (w:=X.w) (A:=X.A.in1) (I.ok.hd hc) it a nla its.toArray k) he ⟨by omega,p.isList,by rw[Nat.add_sub_cancel_left];exact hit⟩ (by omega) hne (by simp[hne,nea]) fun x' h' tk hP ho st hT hsz kp=>?_
  rw[Nat.add_sub_cancel_left]at hP
  obtain rfl:u=x':=by
   have Zq:its[i]?=some x':=by simpa using hP
   rw[hu]at Zq
   exact aar Zq
  refine⟨_,rfl,wpAny_letOwnedTupleGo_enum (s:={s with heap:=h',toks:=tk+1}) ho fun h2 Xp sb=>?_⟩
  have hT2:h2.get? s.heap.objs.size=some {cls:=.type "tuple",data:=.seq #[.int ((k+i:Nat):Int) tk,u]}:=(sb.2 _ (abW lt1)).trans hT
  have ek:((k:Nat):Int)+(i:Nat)=((k+i:Nat):Int):=by omega
  have new:ff X.prog X.w (upd H s.heap.objs.size (.tup [.int ((k:Int)+(i:Nat)),x])) h2 s.heap.objs.size (.tup [.int ((k:Int)+(i:Nat)),x]):=
   ⟨by show 2≤sizeLine;decide,[.int ((k+i:Nat):Int) tk,u],.cons ⟨tk,by rw[ek]⟩ (.cons ru .nil),⟨_,hT2,rfl,_,rfl⟩⟩
  have I1:Inv X pins σ (upd H s.heap.objs.size (.tup [.int ((k:Int)+(i:Nat)),x])) {s with heap:=h2,toks:=tk+1}:=
   I.vz (ch:=[e,it]) (fun b ob hb q=>(sb.2 b (fun z=>hb (by simp[z]))).trans (kp b ob (fun z=>hb (by simp[z])) (fun z=>hb (by simp[z])) q)) hf (D9 _) new
  have Xq:h'.IsListIter it a (i+1):=by
   have z:=st.2.2
   rw[show k+i+1-k=i+1 by omega]at z
   exact z
  refine⟨.ref s.heap.objs.size,_,I1,rfl,⟨_,x,rfl,I.hok.fresh (D9 _),rfl,fun ys hy=>by rw[I.tR hy hq];exact hx⟩,⟨⟨u,?_⟩,Xq.at fun o q=>(sb.2 it (acn hne)).trans q,hne⟩,fun b hb=>?_⟩
  ·rw[show((k+(i+1):Nat):Int)=((k+i:Nat):Int)+1 by omega];exact Xp
  ·have lb:b<s.heap.objs.size:=by rcases(show b=e∨b=it by simpa using hb)with rfl |rfl<;>assumption
   rw[aq (aaI lb)]
   exact(hf b hb).1
 done:=by
  rintro X rfl rfl rfl hc i pins s σ H E I hf ⟨⟨old,he⟩,hit,hne⟩ ⟨xs,hq,hx⟩
  obtain⟨its,rv,p,hz⟩:=I.list hq
  obtain⟨f0,f1,f2,f3,f4,f5⟩:=hf it (by simp)
  have hl:=rv.length
  exact wpAny_pyNext_enum_endD (L0 (P:=X.prog) (w:=X.w) (A:=X.A.in1) (I.ok.hd hc) it a (AQ p.isList hit) its.toArray k) he ⟨by omega,p.isList,.inr ⟨D9 _,i,by rw[aav];omega,hit⟩⟩ fun h' eb=>⟨rfl,I.turned (t':=s.toks) (fun b o hb q=>eb b o hb q) f0 f1 f3 f4 f5⟩
 self:=fun A i s Q E st h=>let⟨⟨_,he⟩,_⟩:=st;wpAny_pyIter_enum he h
theorem yK{X:Cx}{e e2:Expr}{ta:TA}{te:TE}{p pos tpos kpos:Pos}{elts:List Expr}{kk:Nat}(hg:Gl X "enumerate")(hm:X.mg "enumerate"=none)(ha:PA X [e] ta)(he:PE X e2 te)(hs:starEach [e] X.env=[(false,eval e X.env)]:=by rfl):PI X (.Tuple elts kk tpos) (.Call (.Name "enumerate" p) [e] [⟨some "start",e2,kpos⟩] pos) (RK X.K ta te):=by
 intro pins s σ H R I h
 have pl:(backTo pos (starEach [e] X.env)).any (·.1)=false:=by rw[hs];rfl
 refine abv (tQ I hg hm boot_enumerate (RJ pl rfl ?_))
 have hs2:backTo pos (starEach [e] X.env)=[(false,eval e X.env)]:=by rw[hs];rfl
 have hA:=ha pos pins s σ H _ I h
 rw[hs2]at hA⊢
 refine evalArgs_kwB rfl (dX hA fun us s1 ⟨vs,H1,I1,r1,q1⟩=>kws_cons (dX (he pins s1 σ H1 _ I1 q1) fun v s2 ⟨y,H2,I2,ry,a,xs,k,ex,ey,k0,k1,hq,q⟩=>kws_nil ?_))
 subst ex ey
 cases r1 with
 |cons r rr=>
  cases rr
  cases r
  obtain⟨t,rfl⟩:=ry
  obtain⟨kn,rfl⟩:∃kn:Nat,k=(kn:Int):=⟨k.toNat,by omega⟩
  obtain⟨its,rv,p',hz⟩:=I2.list hq
  have fit:¬(!Builtin.SmallTypes.fitsIndex (kn:Int))=true:=by
   unfold Builtin.SmallTypes.fitsIndex
   rw[aa8 (show-(2^63:Int)≤(kn:Int) by omega),aa8 (show(kn:Int)<2^63 by omega)]
   simp
  show wpAny _ _ (call (.type "enumerate") [.ref a] [("start",.int (kn:Int) t)]) _ _ _
  refine Nt fit p'.isList fun h' he' hit kp=>wpAny_pyIter_enum he' ?_
  have I3:Inv X pins σ H2 {s2 with heap:=h'}:=I2.kept (t':=s2.toks) kp
  refine⟨s2.heap.objs.size+1,[s2.heap.objs.size+1,s2.heap.objs.size],_,_,H2,rfl,I3,L4 a (s2.heap.objs.size+1) s2.heap.objs.size kn,⟨⟨.none,by rw[Nat.add_zero];exact he'⟩,hit,Nat.succ_ne_self _⟩,fun b hb=>?_,q⟩
  have hle:s2.heap.objs.size≤b:=by
   rcases(show b=s2.heap.objs.size+1∨b=s2.heap.objs.size by simpa using hb)with rfl |rfl
   ·exact aaX _
   ·exact D9 _
  exact I2.Jh hle (I2.hok.fresh hle)
section
variable{prog:Program}{w:World}{A:Around}{E:Value→Shared→Prop}{s:Shared}
theorem L5(d:Addr)(hd:(d==sysModules)=false):MeetsIn prog w (Builtin.«dict.items» ⟨[.ref d],[]⟩) (fun _ R s=>s.TypeIs (.ref d) "dict"∧R (.ok (.ret (.ref s.heap.objs.size))) {s with heap:=s.heap.push {cls:=.type "dict_items",data:=.fields #[.ref d]} }):=
 .of_wp fun A R s ⟨hT,q⟩=>by
  unfold Builtin.«dict.items» Builtin.Dict.noArgs
  refine D4 (D4 (wpAny_notOrdered_dict hT ?_))
  show wpAny _ _ (pure d) _ _ _
  refine aan ?_
  show wpAny _ _ (Builtin.Dict.showsAll d>>=_) _ _ _
  unfold Builtin.Dict.showsAll
  rw[hd,D6 aay]
  exact D4 (aan (D4 (ab2 (aan ⟨_,rfl,q⟩))))
theorem JF{v d:Addr}{od:Obj}{es:Array DictEntry}{ep:Nat}{Q:Value→Shared→Prop}(hv:s.heap.IsItemsView v d)(ho:s.heap.get? d=some od)(hd:od.data=.dict es ep)(q:Q (.ref s.heap.objs.size) {s with heap:=s.heap.push {cls:=.type "dict_itemiterator",data:=.fields #[.none,.bool false,.ref d,.int 0 0,.int es.size 0,.int ep 0,.none,.none]} }):wpAny (model prog w) A (pyIter (.ref v)) Q E s:=by
 obtain⟨ov,hov,hcv,hdv⟩:=id hv
 refine wpAny_pyIter_slot hv.typeIs F.slot_dict_items_iter (abV F.slot_dict_items_iter hv.typeIs F.entry_dict_items_iter ?_ (F.args_dict_items_iter_1 _))
 unfold Builtin.«dict_items.__iter__»
 refine D4 (aan ?_)
 unfold Builtin.Dict_items.dictOf Builtin.Dict_items.newIterator
 refine D4 (D4 (abq hov hdv (x:=.ref d) rfl (aan ?_)))
 refine D4 (D4 (abC ho hd (D4 (wpAny_dictEpoch ho hd ?_))))
 simp only[show Builtin.Dict_items.ownsTuple "dict_itemiterator"=true by decide,aa3]
 refine ab2 (aan ⟨_,rfl,"dict_itemiterator",_,⟨_,aaw _ rfl,rfl⟩,abt.lookup,?_⟩)
  (by simp only[sizeOk,Builtin.Dict_items.ownedTupleFields,aav,aat,aax,List.length_nil,abx];omega)
 simpa[rawInt,Builtin.Dict_items.ownedTupleFields]using q
theorem L6{it d:Addr}{i n ep:Nat}{od:Obj}{es:Array DictEntry}{en:DictEntry}{ok ov:Value}{Q:Option Value→Shared→Prop}(hit:IsItemIter s.heap it d i n ep ok ov)(ho:s.heap.get? d=some od)(hd:od.data=.dict es ep)(hsz:es.size=n)(hx:es[i]?=some en)(q:∀h',IsItemIterOut h' it d (i+1) n ep en.key en.val s.heap.objs.size→h'.get? s.heap.objs.size=some {cls:=.type "tuple",data:=.seq #[en.key,en.val]}→(∀b o,b≠it→s.heap.get? b=some o→h'.get? b=some o)→Q (some (.ref s.heap.objs.size)) {s with heap:=h'}):wpAny (model prog w) A (pyNext (.ref it)) Q E s:=by
 obtain⟨hp,g,dr,tk,os⟩:=s
 have hT:Shared.TypeIs ⟨hp,g,dr,tk,os⟩ (.ref it) "dict_itemiterator":=⟨_,hit,rfl⟩
 have il:it<hp.objs.size:=aaq hit
 obtain⟨lt,eq⟩:=Array.getElem?_eq_some_iff.mp hx
 unfold pyNext
 refine D4 (wpAny_attempt (wpAny_callSpecial?_slot (name:=Str.ofString "__next__") hT abt (abV abt hT F.entry_dict_itemiterator_next ?_ (F.args_dict_itemiterator_next_1 _))))
 refine D4 (aan (D4 (D4 ?_)))
 first |refine D4 (abP hT (aan ?_)) |refine D4 (ab6 hT (aan ?_))
 refine D4 (wpAny_fieldsOf hit rfl ?_)
 simp only[show Builtin.Dict_items.ownsTuple "dict_itemiterator"=true by decide,aa3]
 show wpAny _ _ (if(Value.ref d==Value.none)=true then _ else _) _ _ _
 rw[D6 (show ¬((Value.ref d==Value.none)=true) by intro z;exact aay z)]
 refine D4 (aan (D4 (abC ho hd ?_)))
 rw[D6 (by rw[hsz];simp)]
 refine D4 (aan (D4 (wpAny_dictEpoch ho hd ?_)))
 rw[D6 (by simp)]
 refine aan ?_
 simp only[show ¬((i:Int)<0) by omega,aa4,aa_,hx]
 refine D4 ?_
 first |refine D4 (abP hT (aan ?_)) |refine D4 (ab6 hT (aan ?_))
 refine D4 (wpAny_isOneOf_itemiter hT ?_)
 show wpAny _ _ (setField (.ref it) 3 (rawInt ((i:Int)+1))>>=_) _ _ _
 refine D4 (abh hit (by simp) fun g1 e1 b1=>?_)
 have e1:IsItemIter g1 it d (i+1) n ep ok ov:=by
  show g1.get? it=some {cls:=.type "dict_itemiterator",dict:=none,data:=.fields #[.none,.bool false,.ref d,.int ((i+1:Nat):Int) 0,.int n 0,.int ep 0,ok,ov],slots:=#[]}
  rw[show((i+1:Nat):Int)=(i:Int)+1 by omega]
  simpa[rawInt]using e1
 have b1:Heap.SameBut it hp g1:=b1
 have hT1:Shared.TypeIs ⟨g1,g,dr,tk,os⟩ (.ref it) "dict_itemiterator":=⟨_,e1,rfl⟩
 refine D4 (wpAny_holding (D4 (wpAny_isOneOf_itemiter hT1 (D4 (wpAny_isOneOf_itemiter hT1 ?_)))))
 show wpAny _ _ (Builtin.Dict_items.pairFromOwner (.ref it) 6 en.key en.val) _ _ _
 unfold Builtin.Dict_items.pairFromOwner Builtin.Dict_items.ownedTupleIsFree
 refine D4 (wpAny_newTuple ?_)
 have z1:g1.objs.size=hp.objs.size:=b1.1
 have e2:IsItemIter (g1.push {cls:=.type "tuple",data:=.seq #[en.key,en.val]}) it d (i+1) n ep ok ov:=D8 _ e1
 have t2:(g1.push {cls:=.type "tuple",data:=.seq #[en.key,en.val]}).get? hp.objs.size=some {cls:=.type "tuple",data:=.seq #[en.key,en.val]}:=by rw[←z1];exact aaw _ rfl
 have k2:∀b o,b≠it→hp.get? b=some o→(g1.push {cls:=.type "tuple",data:=.seq #[en.key,en.val]}).get? b=some o:=fun b o hb e=>D8 _ (b1.extBut b o hb e)
 show wpAny _ _ (_>>=_) _ _ ⟨g1.push {cls:=.type "tuple",data:=.seq #[en.key,en.val]},g,dr,tk,os⟩
 rw[z1]
 generalize g1.push {cls:=.type "tuple",data:=.seq #[en.key,en.val]}=g2 at e2 t2 k2⊢
 refine D4 (D4 (abq e2 rfl (x:=.none) rfl (aan ?_)))
 simp only[aa3]
 refine D4 (abq e2 rfl (x:=ok) rfl (D4 (abq e2 rfl (x:=ov) rfl (D4 (abh e2 (by simp) fun g3 e3 b3=>?_)))))
 have e3:IsItemIter g3 it d (i+1) n ep en.key ov:=e3
 refine D4 (abh e3 (by simp) fun g4 e4 b4=>?_)
 have e4:IsItemIter g4 it d (i+1) n ep en.key en.val:=e4
 refine D4 (abh e4 (by simp) fun g5 e5 b5=>?_)
 have e5:IsItemIterOut g5 it d (i+1) n ep en.key en.val hp.objs.size:=e5
 refine D4 (abh e5 (by simp) fun g6 e6 b6=>?_)
 have e6:IsItemIterOut g6 it d (i+1) n ep en.key en.val hp.objs.size:=e6
 have up:∀b o,b≠it→g2.get? b=some o→g6.get? b=some o:=fun b o hb e=>b6.extBut b o hb (b5.extBut b o hb (b4.extBut b o hb (b3.extBut b o hb e)))
 exact D4 (wpAny_letGo (aan (aan ⟨_,rfl,aan (q g6 e6 (up _ _ (abW il) t2) fun b o hb e=>up b o hb (k2 b o hb e))⟩)))
theorem Nu{it d:Addr}{i n ep:Nat}{od:Obj}{es:Array DictEntry}{ok ov:Value}{Q:Option Value→Shared→Prop}(hh:A.handled=none)(hit:IsItemIter s.heap it d i n ep ok ov)(ho:s.heap.get? d=some od)(hd:od.data=.dict es ep)(hsz:es.size=n)(hx:n≤i)(q:∀h',Heap.ExtBut it s.heap h'→Q none {s with heap:=h'}):wpAny (model prog w) A (pyNext (.ref it)) Q E s:=by
 have hT:s.TypeIs (.ref it) "dict_itemiterator":=⟨_,hit,rfl⟩
 unfold pyNext
 refine D4 (wpAny_attempt (wpAny_callSpecial?_slot (name:=Str.ofString "__next__") hT abt (abV abt hT F.entry_dict_itemiterator_next ?_ (F.args_dict_itemiterator_next_1 _))))
 refine D4 (aan (D4 (D4 ?_)))
 first |refine D4 (abP hT (aan ?_)) |refine D4 (ab6 hT (aan ?_))
 refine D4 (wpAny_fieldsOf hit rfl ?_)
 simp only[show Builtin.Dict_items.ownsTuple "dict_itemiterator"=true by decide,aa3]
 show wpAny _ _ (if(Value.ref d==Value.none)=true then _ else _) _ _ _
 rw[D6 (show ¬((Value.ref d==Value.none)=true) by intro z;exact aay z)]
 refine D4 (aan (D4 (abC ho hd ?_)))
 rw[D6 (by rw[hsz];simp)]
 refine D4 (aan (D4 (wpAny_dictEpoch ho hd ?_)))
 rw[D6 (by simp)]
 refine aan ?_
 simp only[show ¬((i:Int)<0) by omega,aa4,aa_,acj (show es.size≤i by omega)]
 refine D4 ?_
 first |refine D4 (abP hT (aan ?_)) |refine D4 (ab6 hT (aan ?_))
 show wpAny _ _ (setField (.ref it) 2 .none>>=_) _ _ _
 refine D4 (wpAny_setField hit rfl (by simp) ?_)
 show wpAny _ _ (newExc (.type "StopIteration") []>>=_) _ _ _
 refine D4 ?_
 simp only[newExc,newTuple]
 refine D4 (ab2 (D4 (m:=firstArgMember _ _) (wpAny_of_eq (a:=Value.none) (by first |rfl |(simp only[firstArgMember];rfl)) (ab2 ?_ (by size_fits)))) (by size_fits))
 simp only[raiseNew]
 refine D4 (wpAny_handled ?_)
 rw[show A.in1.handled=none from hh]
 refine D4 (aan (wpAny_throw ?_))
 refine D4 (wpAny_isInstance (T:="StopIteration") (b:=true) ⟨_,aaw _ rfl,rfl⟩ isSubtype_stop ?_)
 exact aan (q _ (((Heap.SameBut.update ..).extBut.push _).push _))
end
def Pg(d:Addr)(o:Obj)(kvs:List (List Key×V)):It:=
 ⟨fun i H=>H d=some (.lX o (.dT kvs))∧i<kvs.length,fun i H x H'=>∃T k v q,kvs[i]?=some (k,v)∧x=.ref T∧H T=none∧H q=some (.tup (k.map kV))∧H'=upd H T (.tup [.ref q,v]),fun i H=>H d=some (.lX o (.dT kvs))∧kvs.length≤i⟩
def Ph(td:TE):TI:=fun σ H R=>td σ H fun x H1=>∃d o kvs,x=.ref d∧H1 d=some (.lX o (.dT kvs))∧R (Pg d o kvs) H1
theorem Nv{X:Cx}{pins:List (Addr×Obj)}{σ:St}{H:Hp}{s:Shared}{d:Addr}{o:Obj}{kvs:List (List Key×V)}(I:Inv X pins σ H s)(h:H d=some (.lX o (.dT kvs))):(d==sysModules)=false∧s.heap.get? d=some o∧o.ExactDict∧∃es ep,o.data=.dict es ep∧es.size=kvs.length∧∀(i:Nat) k v,kvs[i]?=some (k,v)→∃en q,es[i]?=some en∧en.key=.ref q∧H q=some (.tup (k.map kV))∧RelV v en.val:=by
 obtain⟨h1,_,h3,ys,pr,o',es,ep,ho,hx,hdt,he,_⟩:=I.hok d _ h
 obtain rfl:o'=o:=aar (ho.symm.trans h1)
 have l1:es.size=ys.length:=size_of_entries he
 have l2:kvs.length=ys.length:=acu pr
 refine⟨h3,h1,hx,es,ep,hdt,by omega,fun i k v e=>?_⟩
 obtain⟨b,hb,e1,e2,e3⟩:=Jt pr e
 have q:=entry_at he i
 rw[hb]at q
 exact⟨_,b.2.1,q,rfl,e2,e3⟩
theorem JG{P:Program}{w:World}{K:W.Frag}{d:Addr}{o:Obj}{es:Array DictEntry}{ep:Nat}{kvs:List (List Key×V)}{elts:List Expr}{kk:Nat}{tpos:Pos}(it:Addr)(hod:o.data=.dict es ep):Turn P w K (.Tuple elts kk tpos) (Pg d o kvs) [it] it (fun i h=>∃ok ov,IsItemIter h it d i kvs.length ep ok ov) where
 mem:=by simp
 obj:=by
  rintro i h ⟨ok,ov,e⟩ b hb
  obtain rfl:b=it:=by simpa using hb
  exact⟨_,e,fun v z=>nomatch z⟩
 keep:=by
  rintro i h h' ⟨ok,ov,e⟩ kp
  exact⟨ok,ov,kp it (by simp) _ e⟩
 item:=by
  rintro X rfl rfl rfl hc i pins s σ H E I hf ⟨ok,ov,he⟩ ⟨hd,hi⟩
  obtain⟨hs,hg,hx,es',OH,hdt,hsz,ent⟩:=Nv I hd
  obtain⟨rfl,rfl⟩:=KH hod hdt
  have hkv:kvs[i]?=some (kvs[i].1,kvs[i].2):=D3 hi
  obtain⟨en,b,h1,h2,h3,h4⟩:=ent i _ _ hkv
  have lt:it<s.heap.objs.size:=aaq he
  have hfree:H it=none:=(hf it (by simp)).1
  refine L6 he hg hdt hsz h1 fun g ho hT kp=>⟨_,rfl,wpAny_letOwnedTupleGo_items (s:={s with heap:=g}) ho fun g2 Xp sb=>?_⟩
  have hT2:g2.get? s.heap.objs.size=some {cls:=.type "tuple",data:=.seq #[en.key,en.val]}:=(sb.2 _ (abW lt)).trans hT
  have new:ff X.prog X.w (upd H s.heap.objs.size (.tup [.ref b,kvs[i].2])) g2 s.heap.objs.size (.tup [.ref b,kvs[i].2]):=
   ⟨by show 2≤sizeLine;decide,[en.key,en.val],.cons h2 (.cons h4 .nil),⟨_,hT2,rfl,_,rfl⟩⟩
  have I1:Inv X pins σ (upd H s.heap.objs.size (.tup [.ref b,kvs[i].2])) {s with heap:=g2}:=
   I.vz (t':=s.toks) (ch:=[it]) (fun c ob hb e=>(sb.2 c (by simpa using hb)).trans (kp c ob (by simpa using hb) e)) hf (D9 _) new
  refine⟨.ref s.heap.objs.size,_,I1,rfl,⟨_,_,_,b,hkv,rfl,I.hok.fresh (D9 _),h3,rfl⟩,⟨_,_,Xp⟩,fun c hb=>?_⟩
  obtain rfl:c=it:=by simpa using hb
  rw[aq (aaI lt)]
  exact hfree
 done:=by
  rintro X rfl rfl rfl hc i pins s σ H E I hf ⟨ok,ov,he⟩ ⟨hd,hi⟩
  obtain⟨f0,f1,f2,f3,f4,f5⟩:=hf it (by simp)
  obtain⟨hs,hg,hx,es',OH,hdt,hsz,ent⟩:=Nv I hd
  obtain⟨rfl,rfl⟩:=KH hod hdt
  exact Nu (I.ok.hd hc) he hg hdt hsz hi fun g eb=>⟨rfl,I.turned (t':=s.toks) (fun b ob hb e=>eb b ob hb e) f0 f1 f3 f4 f5⟩
 self:=fun A i s Q E st h=>let⟨_,_,e⟩:=st;W.kcp_self e h
theorem ET{X:Cx}{e:Expr}{td:TE}{apos cpos:Pos}{elts:List Expr}{kk:Nat}{tpos:Pos}(he:PE X e td)(hbase:attributeBase e "items" X.env (eval e X.env)=eval e X.env:=by rfl)(hline:(apos.endLine==cpos.line)=true:=by rfl):PI X (.Tuple elts kk tpos) (.Call (.Attribute e "items" apos) [] [] cpos) (Ph td):=by
 intro pins s σ H R I h
 refine wpAny_Call_method (T:="dict") (id:="dict.items") hbase rfl hline F.plainAttrs_dict F.slot_dict_items F.type_dict_items (dX (he pins s σ H _ I h) fun u s1 ⟨x,H1,I1,rx,d,o,kvs,ex,hd,q⟩=>?_)
 subst ex
 obtain rfl:u=Value.ref d:=rx
 obtain⟨hs,hg,hx,es,ep,hdt,hsz,ent⟩:=Nv I1 hd
 have hT:s1.TypeIs (.ref d) "dict":=⟨o,hg,hx.1⟩
 refine⟨hT,fun b z=>⟨o,(by cases z;exact hg),hx.2.1⟩,?_⟩
 have I2:Inv X pins σ H1 {s1 with heap:=s1.heap.push {cls:=.type "dict_items",data:=.fields #[.ref d]} }:=I1.kept (t':=s1.toks) fun b ob q=>D8 _ q
 have fin:wpAny (model X.prog X.w) X.A (pyIter (.ref s1.heap.objs.size)) (V8 X pins σ (.Tuple elts kk tpos) R) X.xe {s1 with heap:=s1.heap.push {cls:=.type "dict_items",data:=.fields #[.ref d]} }:=by
  refine JF (d:=d) ⟨_,aaw _ rfl,rfl,rfl⟩ (D8 _ hg) hdt (Rv (tk:=s1.toks) I2 _ (JG _ hdt) ⟨.none,.none,?_⟩ q)
  rw[←hsz]
  exact aaw _ rfl
 show wpAny _ _ (callWith cpos (.builtin "dict.items") [.ref d] [] []) _ X.xe s1
 exact method_meetsIn F.slot_dict_items F.entry_dict_items rfl (PySem.evalArgs_none ⟨rfl,hT,F.args_dict_items_1 _,_,L5 d hs,hT,fin⟩)
section
variable{prog:Program}{w:World}{A:Around}{E:Value→Shared→Prop}{s:Shared}
theorem RL{it t:Addr}{i:Nat}{its:Array Value}{x:Value}{Q:Value→Shared→Prop}(hit:s.heap.IsTupleIter it t i)(ht:s.heap.IsTuple t its)(hx:its[i]?=some x)(q:∀h',h'.IsTupleIter it t (i+1)→Heap.SameBut it s.heap h'→Q x {s with heap:=h'}):wpAny (model prog w) A (Builtin.SmallTypes.nextOf (.ref it)) Q E s:=by
 obtain⟨o,ho,hc,hd⟩:=id hit
 obtain⟨ol,hol,_,nl,hdl⟩:=ht
 unfold Builtin.SmallTypes.nextOf
 refine D4 (wpAny_callSpecial?_slot (name:=Str.ofString "__next__") hit.typeIs F.slot_tuple_iterator_next (abV F.slot_tuple_iterator_next hit.typeIs F.entry_tuple_iterator_next ?_ (F.args_tuple_iterator_next_1 _)))
 show wpAny _ _ (field (.ref it) 0>>=_) _ _ _
 refine D4 (abq ho hd (x:=.ref t) rfl ?_)
 show wpAny _ _ (if(Value.ref t==Value.none)=true then _ else _) _ _ _
 rw[D6 (show ¬((Value.ref t==Value.none)=true) by intro z;exact aay z)]
 show wpAny _ _ (field (.ref it) 1>>=_) _ _ _
 refine D4 (abq ho hd (x:=.int i 0) rfl ?_)
 show wpAny _ _ (seqItems? (.ref t)>>=_) _ _ _
 refine D4 (aco hol hdl ?_)
 simp only[aa_,hx]
 refine D4 (wpAny_setField ho hd (by simp) (aan ⟨x,rfl,aan (q _ ⟨_,Heap.get?_update_self _ ho (Obj.isFreed_of_fields (Obj.data_mapFields hd _)),(Obj.cls_mapFields ..).trans hc,?_⟩ (Heap.SameBut.update ..))⟩))
 rw[Obj.data_mapFields hd]
 simp[rawInt]
theorem Ny{z TI TO i1 i2 l1 l2:Addr}{i:Nat}{xs ys:Array Value}{x y a b:Value}{Q:Value→Shared→Prop}(D:ZipApart z TI TO i1 i2 l1 l2)(hz:IsZip s.heap z TI TO .none)(hTI:IsPair s.heap TI (.ref i1) (.ref i2))(hTO:IsPair s.heap TO a b)(h1:s.heap.IsListIter i1 l1 i)(h2:s.heap.IsTupleIter i2 l2 i)(hl1:s.heap.IsList l1 xs)(hl2:s.heap.IsTuple l2 ys)(hx:xs[i]?=some x)(hy:ys[i]?=some y)(q:∀h',IsZip h' z TI TO (rawInt s.heap.objs.size)→IsPair h' TO x y→h'.IsListIter i1 l1 (i+1)→h'.IsTupleIter i2 l2 (i+1)→IsPair h' s.heap.objs.size x y→(∀c o,c≠z→c≠TO→c≠i1→c≠i2→s.heap.get? c=some o→h'.get? c=some o)→Q (.ref s.heap.objs.size) {s with heap:=h'}):wpAny (model prog w) A (Builtin.«zip.__next__» ⟨[.ref z],[]⟩) (fun fin s'=>∃v,fin=.done (.ret v)∧Q v s') E s:=by
 show wpAny _ _ (field (.ref z) 2>>=_) _ _ _
 refine D4 (abq hz rfl (x:=.bool false) rfl ?_)
 show wpAny _ _ (field (.ref z) 3>>=_) _ _ _
 refine D4 (abq hz rfl (x:=.ref TI) rfl (D4 (aco hTI rfl ?_)))
 show wpAny _ _ (Builtin.SmallTypes.ownedTupleIsFree (.ref z)>>=_) _ _ _
 unfold Builtin.SmallTypes.ownedTupleIsFree
 refine D4 (D4 (abq hz rfl (x:=.none) rfl (aan ?_)))
 simp only[aa3]
 refine D4 (wpAny_rule (D4 (abq hz rfl (x:=.ref TO) rfl (D4 (abh hz (by simp) fun g1 z1 b1=>?_)))))
 have z1:IsZip g1 z TI TO .ellipsis:=z1
 refine D4 ?_
 simp only[List.zipIdx_cons,List.zipIdx_nil,List.forIn_cons,acG]
 refine D4 (D4 (wpAny_onRaise ?_))
 show wpAny _ _ (Builtin.SmallTypes.nextOf (.ref i1)>>=_) _ _ _
 refine D4 (wpAny_nextOf_list_item (h1.extBut b1.extBut D.i1z) (hl1.extBut b1.extBut D.l1z) hx fun g2 j1 b2=>aan ?_)
 have p2:IsPair g2 TO a b:=b2.extBut _ _ D.TOi1 (b1.extBut _ _ D.TOz hTO)
 refine D4 (aco p2 rfl (D4 (wpAny_updateSeq_pair p2 fun g3 p3 b3=>?_)))
 have p3:IsPair g3 TO x b:=p3
 refine D4 (wpAny_letGo (aan (D4 (D4 (wpAny_onRaise ?_)))))
 show wpAny _ _ (Builtin.SmallTypes.nextOf (.ref i2)>>=_) _ _ _
 refine D4 (RL (((h2.extBut b1.extBut D.i2z).extBut b2.extBut D.i12.symm).extBut b3.extBut D.TOi2.symm) (((hl2.extBut b1.extBut D.l2z).extBut b2.extBut D.l2i1).extBut b3.extBut D.l2TO) hy fun g4 j2 b4=>aan ?_)
 have p4:IsPair g4 TO x b:=b4.extBut _ _ D.TOi2 p3
 refine D4 (aco p4 rfl (D4 (wpAny_updateSeq_pair p4 fun g5 p5 b5=>?_)))
 have p5:IsPair g5 TO x y:=p5
 refine D4 (wpAny_letGo (aan (aan ?_)))
 refine D4 (aco p5 rfl (D4 (wpAny_newTuple ?_)))
 have sz:g5.objs.size=s.heap.objs.size:=by rw[b5.1,b4.1,b3.1,b2.1,b1.1]
 have up5:∀c o,c≠z→c≠TO→c≠i1→c≠i2→s.heap.get? c=some o→g5.get? c=some o:=fun c o c1 c2 c3 c4 e=>b5.extBut _ _ c2 (b4.extBut _ _ c4 (b3.extBut _ _ c2 (b2.extBut _ _ c3 (b1.extBut _ _ c1 e))))
 have z5:IsZip g5 z TI TO .ellipsis:=b5.extBut _ _ D.TOz.symm (b4.extBut _ _ D.i2z.symm (b3.extBut _ _ D.TOz.symm (b2.extBut _ _ D.i1z.symm z1)))
 have j15:g5.IsListIter i1 l1 (i+1):=((j1.extBut b3.extBut D.TOi1.symm).extBut b4.extBut D.i12).extBut b5.extBut D.TOi1.symm
 have j25:g5.IsTupleIter i2 l2 (i+1):=j2.extBut b5.extBut D.TOi2.symm
 have zl:z<g5.objs.size:=aaq z5
 show wpAny _ _ (Builtin.SmallTypes.ownedTupleHandOut (.ref z) (.ref g5.objs.size)>>=_) _ _ _
 unfold Builtin.SmallTypes.ownedTupleHandOut
 refine D4 (D4 (abh (D8 _ z5) (by simp) fun g7 z7 b7=>?_))
 have z7:IsZip g7 z TI TO (rawInt g5.objs.size):=z7
 refine abh z7 (by simp) fun g8 z8 b8=>?_
 have z8:IsZip g8 z TI TO (rawInt g5.objs.size):=z8
 have up:∀c o,c≠z→g5.get? c=some o→g8.get? c=some o:=fun c o c1 e=>b8.extBut _ _ c1 (b7.extBut _ _ c1 (D8 _ e))
 have t8:IsPair g8 g5.objs.size x y:=b8.extBut _ _ (abW zl) (b7.extBut _ _ (abW zl) (aaw _ rfl))
 refine aan ⟨_,rfl,?_⟩
 show Q (.ref g5.objs.size) _
 rw[sz]at z8 t8⊢
 exact q g8 z8 (up _ _ D.TOz p5) (j15.at fun o e=>up _ o D.i1z e) (j25.at fun o e=>up _ o D.i2z e) t8 fun c o c1 c2 c3 c4 e=>up c o c1 (up5 c o c1 c2 c3 c4 e)
theorem Pj{z TI TO i1 i2 l1:Addr}{i:Nat}{xs:Array Value}{a b:Value}{Q:PySem.Fin→Shared→Prop}(hh:A.handled=none)(i1z:i1≠z)(l1z:l1≠z)(hz:IsZip s.heap z TI TO .none)(hTI:IsPair s.heap TI (.ref i1) (.ref i2))(hTO:IsPair s.heap TO a b)(h1:s.heap.IsListIter i1 l1 i)(hl1:s.heap.IsList l1 xs)(hx:xs[i]?=none)(q:∀h' e,(∀c o,c≠z→c≠i1→s.heap.get? c=some o→h'.get? c=some o)→(∃o,h'.get? e=some o∧o.cls=.type "StopIteration")→E (.ref e) {s with heap:=h'}):wpAny (model prog w) A (Builtin.«zip.__next__» ⟨[.ref z],[]⟩) Q E s:=by
 show wpAny _ _ (field (.ref z) 2>>=_) _ _ _
 refine D4 (abq hz rfl (x:=.bool false) rfl ?_)
 show wpAny _ _ (field (.ref z) 3>>=_) _ _ _
 refine D4 (abq hz rfl (x:=.ref TI) rfl (D4 (aco hTI rfl ?_)))
 show wpAny _ _ (Builtin.SmallTypes.ownedTupleIsFree (.ref z)>>=_) _ _ _
 unfold Builtin.SmallTypes.ownedTupleIsFree
 refine D4 (D4 (abq hz rfl (x:=.none) rfl (aan ?_)))
 simp only[aa3]
 refine D4 (wpAny_rule (D4 (abq hz rfl (x:=.ref TO) rfl (D4 (abh hz (by simp) fun g1 z1 b1=>?_)))))
 have z1:IsZip g1 z TI TO .ellipsis:=z1
 refine D4 ?_
 simp only[List.zipIdx_cons,List.zipIdx_nil,List.forIn_cons,acG]
 refine D4 (D4 (wpAny_onRaise ?_))
 show wpAny _ _ (Builtin.SmallTypes.nextOf (.ref i1)>>=_) _ _ _
 refine D4 (wpAny_nextOf_list_end hh (h1.extBut b1.extBut i1z) (hl1.extBut b1.extBut l1z) hx fun g2 e b2 ⟨oe,Xr,hce⟩=>?_)
 have z2:IsZip g2 z TI TO .ellipsis:=b2 _ _ i1z.symm z1
 have ez:e≠z:=fun x=>by subst x;rw[z2]at Xr;cases Xr;simp at hce
 exact abh z2 (by simp) fun g3 _ b3=>q g3 e (fun c o c1 c3 x=>b3.extBut _ _ c1 (b2 _ _ c3 (b1.extBut _ _ c1 x))) ⟨oe,b3.extBut _ _ ez Xr,hce⟩
theorem Pk(l1 l2:Addr)(xs ys:Array Value):Meets (Builtin.«zip.__new__» ⟨[.type "zip",.ref l1,.ref l2],[]⟩) (fun _ R s=>s.heap.IsList l1 xs∧s.heap.IsTuple l2 ys∧∀h',IsZip h' (s.heap.objs.size+4) (s.heap.objs.size+2) (s.heap.objs.size+3) .none→IsPair h' (s.heap.objs.size+2) (.ref s.heap.objs.size) (.ref (s.heap.objs.size+1))→IsPair h' (s.heap.objs.size+3) .none .none→h'.IsListIter s.heap.objs.size l1 0→h'.IsTupleIter (s.heap.objs.size+1) l2 0→(∀c o,s.heap.get? c=some o→h'.get? c=some o)→R (.ok (.ret (.ref (s.heap.objs.size+4)))) {s with heap:=h'}):=
 .of_wp fun prog w A R s ⟨p1,p2,q⟩=>by
  obtain⟨hp,g,d,tk,os⟩:=s
  have f0:=sub_zip
  have L1:Heap.IsList (Shared.heap ⟨hp,g,d,tk,os⟩) l1 xs:=p1
  have L2:Heap.IsTuple (Shared.heap ⟨hp.push {cls:=.type "list_iterator",data:=.fields #[.ref l1,.int 0 0]},g,d,tk,os⟩) l2 ys:=Heap.IsTuple.push p2 _
  wp_walk using acm L1,wpAny_pyIter_tuple L2
  refine⟨_,rfl,?_⟩
  have z1:(hp.push {cls:=.type "list_iterator",data:=.fields #[.ref l1,.int 0 0]}).objs.size=hp.objs.size+1:=aaZ ..
  generalize e1:hp.push {cls:=.type "list_iterator",data:=.fields #[.ref l1,.int 0 0]}=g1 at*
  have z2:(g1.push {cls:=.type "tuple_iterator",data:=.fields #[.ref l2,.int 0 0]}).objs.size=hp.objs.size+2:=by rw[aaZ,z1]
  generalize e2:g1.push {cls:=.type "tuple_iterator",data:=.fields #[.ref l2,.int 0 0]}=g2 at*
  have r:∀G3,G3=g2.push {cls:=.type "tuple",data:=.seq #[.ref hp.objs.size,.ref g1.objs.size]}→∀G4,G4=G3.push {cls:=.type "tuple",data:=.seq #[.none,.none]}→R (.ok (.ret (.ref G4.objs.size))) ⟨G4.push {cls:=.type "zip",data:=.fields #[.none,.bool false,.bool false,.ref g2.objs.size,.ref G3.objs.size]},g,d,tk,os⟩:=by
   intro G3 e3 G4 e4
   have z3:G3.objs.size=hp.objs.size+3:=by rw[e3,aaZ,z2]
   have z4:G4.objs.size=hp.objs.size+4:=by rw[e4,aaZ,z3]
   have a5:=aaw G4 (o:={cls:=.type "zip",data:=.fields #[.none,.bool false,.bool false,.ref g2.objs.size,.ref G3.objs.size]}) rfl
   have Wc:∀c o,G3.get? c=some o→G4.get? c=some o:=fun c o e=>by rw[e4];exact D8 _ e
   have Xs:∀c o,g2.get? c=some o→G3.get? c=some o:=fun c o e=>by rw[e3];exact D8 _ e
   have up1:∀c o,g1.get? c=some o→g2.get? c=some o:=fun c o e=>by rw[←e2];exact D8 _ e
   have up0:∀c o,hp.get? c=some o→g1.get? c=some o:=fun c o e=>by rw[←e1];exact D8 _ e
   have a4:G4.get? G3.objs.size=some {cls:=.type "tuple",data:=.seq #[.none,.none]}:=by rw[e4];exact aaw _ rfl
   have a3:G3.get? g2.objs.size=some {cls:=.type "tuple",data:=.seq #[.ref hp.objs.size,.ref g1.objs.size]}:=by rw[e3];exact aaw _ rfl
   have a2:g2.get? g1.objs.size=some {cls:=.type "tuple_iterator",data:=.fields #[.ref l2,.int 0 0]}:=by rw[←e2];exact aaw _ rfl
   have a1:g1.get? hp.objs.size=some {cls:=.type "list_iterator",data:=.fields #[.ref l1,.int 0 0]}:=by rw[←e1];exact aaw _ rfl
   rw[z4,z3,z2]at a5
   rw[z3]at a4
   rw[z2,z1]at a3
   rw[z1]at a2
   rw[z4,z3,z2]
   have UQ:∀(u:Obj) c o,G4.get? c=some o→(G4.push u).get? c=some o:=fun u c o e=>D8 _ e
   exact q _ a5 (UQ _ _ _ (Wc _ _ a3)) (UQ _ _ _ a4) ⟨_,UQ _ _ _ (Wc _ _ (Xs _ _ (up1 _ _ a1))),rfl,rfl⟩ ⟨_,UQ _ _ _ (Wc _ _ (Xs _ _ a2)),rfl,rfl⟩ fun c o e=>UQ _ _ _ (Wc _ _ (Xs _ _ (up1 _ _ (up0 _ _ e))))
  exact r _ rfl _ rfl
theorem Nz{l1 l2:Addr}{xs ys:Array Value}{Q:Value→Shared→Prop}(p1:s.heap.IsList l1 xs)(p2:s.heap.IsTuple l2 ys)(q:∀h',IsZip h' (s.heap.objs.size+4) (s.heap.objs.size+2) (s.heap.objs.size+3) .none→IsPair h' (s.heap.objs.size+2) (.ref s.heap.objs.size) (.ref (s.heap.objs.size+1))→IsPair h' (s.heap.objs.size+3) .none .none→h'.IsListIter s.heap.objs.size l1 0→h'.IsTupleIter (s.heap.objs.size+1) l2 0→(∀c o,s.heap.get? c=some o→h'.get? c=some o)→Q (.ref (s.heap.objs.size+4)) {s with heap:=h'}):wpAny (model prog w) A (call (.type "zip") [.ref l1,.ref l2]) Q E s:=
 callType_new F.called_zip (by decide) (F.typeCall_zip_2 _ _) (F.newCall_zip_2 _ _) (fun obj=>F.args_object_init_3 obj _ _) F.entry_zip_new (Pk l1 l2 xs ys) ⟨p1,p2,fun h' a b c d e k=>⟨⟨_,a,rfl⟩,q h' a b c d e k⟩⟩
end
def RM(K:W.Frag)(a b:Addr):It:=
 ⟨fun i H=>∃(xs ys:List V) (x y:V),bD K H a xs∧i6 K H b ys∧xs[i]?=some x∧ys[i]?=some y,fun i H v H'=>∃T x y,v=.ref T∧H T=none∧H'=upd H T (.tup [x,y])∧(∀xs,bD K H a xs→xs[i]?=some x)∧∀ys,i6 K H b ys→ys[i]?=some y,fun i H=>∃xs:List V,bD K H a xs∧xs.length≤i⟩
def UR(K:W.Frag)(ta:TA):TI:=fun σ H R=>ta σ H fun vs H1=>∃a b xs ys,vs=[.ref a,.ref b]∧bD K H1 a xs∧i6 K H1 b ys∧R (RM K a b) H1
theorem NC{P:Program}{w:World}{K:W.Frag}{elts:List Expr}{kk:Nat}{tpos:Pos}{a b z TI TO i1 i2:Addr}(D:ZipApart z TI TO i1 i2 a b):Turn P w K (.Tuple elts kk tpos) (RM K a b) [z,TI,TO,i1,i2] z (fun i h=>IsZip h z TI TO .none∧IsPair h TI (.ref i1) (.ref i2)∧(∃x y,IsPair h TO x y)∧h.IsListIter i1 a i∧h.IsTupleIter i2 b i) where
 mem:=by simp
 obj:=by
  rintro i h ⟨hz,hTI,⟨x,y,hTO⟩,⟨o1,e1,_,d1⟩,⟨o2,e2,_,d2⟩⟩ c hc
  rcases(show c=z∨c=TI∨c=TO∨c=i1∨c=i2 by simpa using hc)with rfl |rfl |rfl |rfl |rfl
  ·exact⟨_,hz,fun v q=>nomatch q⟩
  ·exact⟨_,hTI,fun v q=>nomatch q⟩
  ·exact⟨_,hTO,fun v q=>nomatch q⟩
  ·exact⟨o1,e1,fun v q=>(by rw[d1]at q;cases q)⟩
  ·exact⟨o2,e2,fun v q=>(by rw[d2]at q;cases q)⟩
 keep:=by
  rintro i h h' ⟨hz,hTI,⟨x,y,hTO⟩,h1,h2⟩ k
  exact⟨k z (by simp) _ hz,k TI (by simp) _ hTI,⟨x,y,k TO (by simp) _ hTO⟩,h1.at fun o q=>k i1 (by simp) o q,h2.at fun o q=>k i2 (by simp) o q⟩
 item:=by
  rintro X rfl rfl rfl hc i pins s σ H E I hf ⟨hz,hTI,⟨x0,y0,hTO⟩,h1,h2⟩ ⟨xs,ys,x,y,LL,Nl,hx,hy⟩
  obtain⟨its,rv,p,_⟩:=I.list LL
  obtain⟨its2,Rw,p2,_⟩:=I.tuple Nl
  obtain⟨u,hu,ru⟩:=rv.get hx
  obtain⟨u2,UD,UE⟩:=Rw.get hy
  have zl:z<s.heap.objs.size:=aaq hz
  have hT:s.TypeIs (.ref z) "zip":=⟨_,hz,rfl⟩
  unfold pyNext
  refine D4 (wpAny_attempt (wpAny_callSpecial?_slot (name:=Str.ofString "__next__") hT F.slot_zip_next (abV F.slot_zip_next hT F.entry_zip_next (Ny D hz hTI hTO h1 h2 p.isList p2 (x:=u) (y:=u2) (by simpa using hu) (by simpa using UD) fun g z1 TO1 j1 j2 hT1 hk=>aan ?_) (F.args_zip_next_1 _))))
  refine⟨_,rfl,wpAny_letOwnedTupleGo_zip (s:={s with heap:=g}) z1 fun g2 z2 sb=>?_⟩
  have hT2:g2.get? s.heap.objs.size=some {cls:=.type "tuple",data:=.seq #[u,u2]}:=(sb.2 _ (abW zl)).trans hT1
  have new:ff X.prog X.w (upd H s.heap.objs.size (.tup [x,y])) g2 s.heap.objs.size (.tup [x,y]):=⟨by show 2≤sizeLine;decide,[u,u2],.cons ru (.cons UE .nil),⟨_,hT2,rfl,_,rfl⟩⟩
  have I1:Inv X pins σ (upd H s.heap.objs.size (.tup [x,y])) {s with heap:=g2}:=
   I.vz (t':=s.toks) (ch:=[z,TI,TO,i1,i2]) (fun c o hb q=>(sb.2 c (fun e=>hb (by simp[e]))).trans (hk c o (fun e=>hb (by simp[e])) (fun e=>hb (by simp[e])) (fun e=>hb (by simp[e])) (fun e=>hb (by simp[e])) q)) hf (D9 _) new
  refine⟨.ref s.heap.objs.size,_,I1,rfl,⟨_,x,y,rfl,I.hok.fresh (D9 _),rfl,fun l hl=>by rw[I.tR hl LL];exact hx,fun l hl=>by rw[I.Lx hl Nl];exact hy⟩,⟨z2,(sb.2 _ D.TIz).trans (hk _ _ D.TIz D.TITO D.TIi1 D.TIi2 hTI),⟨u,u2,(sb.2 _ D.TOz).trans TO1⟩,j1.at fun o q=>(sb.2 _ D.i1z).trans q,j2.at fun o q=>(sb.2 _ D.i2z).trans q⟩,fun c O3=>?_⟩
  have lt:c<s.heap.objs.size:=by
   rcases(show c=z∨c=TI∨c=TO∨c=i1∨c=i2 by simpa using O3)with rfl |rfl |rfl |rfl |rfl
   ·exact zl
   ·exact aaq hTI
   ·exact aaq hTO
   ·obtain⟨_,e,_⟩:=h1;exact aaq e
   ·obtain⟨_,e,_⟩:=h2;exact aaq e
  rw[aq (aaI lt)]
  exact(hf c O3).1
 done:=by
  rintro X rfl rfl rfl hc i pins s σ H E I hf ⟨hz,hTI,⟨x0,y0,hTO⟩,h1,h2⟩ ⟨xs,LL,hend⟩
  obtain⟨its,rv,p,_⟩:=I.list LL
  have l1:=rv.length
  have hT:s.TypeIs (.ref z) "zip":=⟨_,hz,rfl⟩
  unfold pyNext
  refine D4 (wpAny_attempt (wpAny_callSpecial?_slot (name:=Str.ofString "__next__") hT F.slot_zip_next (abV F.slot_zip_next hT F.entry_zip_next (Pj (I.ok.hd hc) D.i1z D.l1z hz hTI hTO h1 p.isList (acj (by rw[aav];omega)) fun g e hk ⟨o,ho,hcl⟩=>?_) (F.args_zip_next_1 _))))
  refine D4 (wpAny_isInstance (T:="StopIteration") (b:=true) ⟨o,ho,hcl⟩ isSubtype_stop (aan ⟨rfl,I.KG (t':=s.toks) (ch:=[z,TI,TO,i1,i2]) (fun c o hb q=>hk c o (fun e=>hb (by simp[e])) (fun e=>hb (by simp[e])) q) hf⟩))
 self:=fun A i s Q E st h=>wpAny_pyIter_zip st.1 h
theorem Pn{X:Cx}{e e2:Expr}{ta:TA}{p pos tpos:Pos}{elts:List Expr}{kk:Nat}(hg:Gl X "zip")(hm:X.mg "zip"=none)(ha:PA X [e,e2] ta)(hs:starEach [e,e2] X.env=(false,eval e X.env)::starEach [e2] X.env:=by rfl)(hpl:(backTo pos (starEach [e2] X.env)).any (·.1)=false:=by rfl):PI X (.Tuple elts kk tpos) (.Call (.Name "zip" p) [e,e2] [] pos) (UR X.K ta):=by
 intro pins s σ H R I h
 refine Call_ (tQ I hg hm EL (abE (dX (ha pos pins s σ H _ I h) fun us s1 ⟨vs,H1,I1,r1,q1⟩=>?_) hs hpl))
 obtain⟨a,b,xs,ys,ex,LL,Nl,q⟩:=q1
 subst ex
 cases r1 with
 |cons r rr=>
  cases rr with
  |cons r' rr=>
   cases rr
   cases r
   cases r'
   obtain⟨its,rv,p1,_⟩:=I1.list LL
   obtain⟨its2,Rw,p2,_⟩:=I1.tuple Nl
   have la:a<s1.heap.objs.size:=p1.lt
   have lb:b<s1.heap.objs.size:=by obtain⟨_,e,_⟩:=p2;exact aaq e
   refine Nz p1.isList p2 fun h' hz hTI hTO h1 h2 hk=>wpAny_pyIter_zip hz ?_
   have I2:Inv X pins σ H1 {s1 with heap:=h'}:=I1.kept (t':=s1.toks) hk
   refine⟨s1.heap.objs.size+4,[s1.heap.objs.size+4,s1.heap.objs.size+2,s1.heap.objs.size+3,s1.heap.objs.size,s1.heap.objs.size+1],_,_,H1,rfl,I2,NC (W.ktu_apart s1.heap.objs.size a b la lb),⟨hz,hTI,⟨_,_,hTO⟩,h1,h2⟩,fun c O3=>?_,q⟩
   have hle:s1.heap.objs.size≤c:=by
    rcases(show c=s1.heap.objs.size+4∨c=s1.heap.objs.size+2∨c=s1.heap.objs.size+3∨c=s1.heap.objs.size∨c=s1.heap.objs.size+1 by simpa using O3)with rfl |rfl |rfl |rfl |rfl
    ·exact abI _ _
    ·exact abI _ _
    ·exact abI _ _
    ·exact D9 _
    ·exact abI _ _
   exact I1.Jh hle (I1.hok.fresh hle)
def US(K:W.Frag):R2:=fun x y H Q=>∃a b xs ys,x=.ref a∧y=.ref b∧i6 K H a xs∧i6 K H b ys∧xs.length+ys.length≤sizeLine∧∀H' r,QC H H'→i6 K H' r (xs++ys)→Q (.ref r) H'
theorem Po{X:Cx}:Bq X (binaryOp .Add) (US X.K):=by
 intro pins s σ H x y v u Q I rx ry h
 obtain⟨a,b,xs,ys,rfl,rfl,ha,hb,hz,q⟩:=h
 by_cases hx:xs=[]
 ·subst hx
  cases rx
  cases ry
  obtain⟨its,r1,p1,_⟩:=I.tuple ha
  obtain⟨its2,r2,p2,_⟩:=I.tuple hb
  have e1:its=[]:=r1.yx.mpr rfl
  subst e1
  obtain⟨⟨cls,dd,data,sl⟩,ho,hc,n,hd⟩:=id p1
  obtain⟨⟨WW,dd2,data2,sl2⟩,ho2,hc2,n2,hd2⟩:=id p2
  simp only at hc hd hc2 hd2
  subst hc hd hc2 hd2
  exact concat_meets ⟨_,ho,rfl⟩ ⟨_,ho2,rfl⟩ noFill_tuple_add seq_tuple_add PySem.F.slot_tuple_add PySem.F.entry_tuple_add (acD _ _)
   (tuple_addW0 a b ([]:List Value).toArray its2.toArray n n2 dd dd2 sl sl2 rfl) ⟨ho,ho2,⟨.ref b,H,I,rfl,q H b (fun _ _ e=>e) (by simpa using hb)⟩⟩
 ·refine OR pins s σ H (.ref a) (.ref b) v u Q I rx ry ⟨a,b,xs,ys,rfl,rfl,ha,hb,hx,hz,fun e=>q H a (fun _ _ e=>e) (by subst e;simpa using ha),fun _ p hp=>q _ p (fun b o e=>by rw[aq (aA e hp)];exact e) (i6.of af)⟩
section
variable{X:Cx}{CX:LD}{k:Nat}{f:Addr}{fd:FuncData}{ps:List Str}{sp:Sp}{E:XK}{x:Str}{p pos:Pos}{e:Expr}{es:List Expr}{t:TA}{i:Nat}
def RN(i:Nat)(f:Addr)(sp:Sp)(E:XK)(t:TA):TE:=fun σ H Q=>σ[i]?=some (some (.ref f))∧t σ H fun vs H1=>sp vs H1 Q E
theorem ug(i:Nat)(F:bE X.prog X.w X.K X.mg X.base CX k f fd ps sp)(hr:j8 k X.A)(hk:W.keepIn X.K (.ref f)=true)(hb:Binds X.K fd ps [])(hx:Passes CX X E)(ha:PA X (e::es) t)(hN:X.N[i]?=some x:=by rfl)(hv:Q0 X.env.scope x:=by first |exact Or.inl rfl |exact Or.inr (Or.inl rfl) |exact Or.inr (Or.inr rfl))(hdb:(x==("__debug__":Str))=false:=by decide)(hcd:(x==("__classdict__":Str))=false:=by decide)(he:starEach (e::es) X.env=(false,eval e X.env)::starEach es X.env:=by rfl)(hpl:(backTo pos (starEach es X.env)).any (·.1)=false:=by rfl):PE X (.Call (.Name x p) (e::es) [] pos) (RN i f sp E t):=by
 intro pins s σ H Q I h
 obtain⟨hi,h⟩:=h
 refine abv (dX (MN hN hv hdb hcd pins s σ H (fun v H'=>v=.ref f∧H'=H) I ⟨_,hi,rfl,rfl⟩) fun u s0 ⟨v,H0,I0,r0,e1,e2⟩=>?_)
 subst e1 e2
 obtain rfl:u=Value.ref f:=r0
 refine W.callWith_K (h₀:=X.base) I0.ok.mod.S5 hk (dX (ha pos pins s0 σ H0 _ I0 h) fun us s1 ⟨vs,H1,I1,r,q⟩=>⟨I1.IG,?_⟩) he hpl
 exact FE F hr hb .nil hx I1 r (by rw[abr];exact q)
end
abbrev gb:Scope:={kind:=.function,names:=[(("place":Str),.local),(("remainders":Str),.free)],isGenerator:=false,isCoroutine:=false,more:=[]}
abbrev ic(p:Pos):Arguments:={posonlyargs:=[],args:=[{arg:="place",annotation:=none,pos:=p}],vararg:=none,kwonlyargs:=[],kw_defaults:=[],kwarg:=none,defaults:=[]}
abbrev mO(p1 p2 p3 p4:Pos):Expr:=.UnaryOp .USub (.Subscript (.Name "remainders" p1) (.Name "place" p2) p3) p4
section
variable{prog:Program}{w:World}{A:Around}{E:Value→Shared→Prop}{s:Shared}
theorem Pp{f c c0 l:Addr}{nm qual:Str}{p0 p1 p2 p3 p4:Pos}{pm ctv:Value}{its:Array Value}{i:Nat}{k:Int}{t u:Tok}{Q:Value→Shared→Prop}(ho:s.heap.get? f=some (W.kla_obj nm qual (ic p0) (mO p1 p2 p3 p4) gb [("remainders",c0)] pm c ctv))(hcd:s.heap.CodeRec (.ref c) qual)(hlim:s.heap.NoLimit)(hroom:A.depth<recursionLimit)(hc:s.heap.IsCell c0 (some (.ref l)))(hl:s.heap.IsList l its)(hx:its[i]?=some (.int k u))(hi:(i:Int)<2^63)(q:∀h' tk t2,(∀b o,s.heap.get? b=some o→h'.get? b=some o)→Q (.int (-k) t2) {s with heap:=h',toks:=tk}):wpAny (model prog w) A (call (.ref f) [.int (i:Int) t]) Q E s:=by
 refine wpAny_call (W.kla_callFunE hroom ho rfl rfl rfl rfl hcd ?_)
 have hb:bindArgs (W.kla_fn nm qual (ic p0) (mO p1 p2 p3 p4) gb [("remainders",c0)] pm (.ref c) ctv) ⟨[.int (i:Int) t],[]⟩=pure [(("place":Str),.int (i:Int) t)]:=rfl
 rw[hb]
 refine aan (wpAny_newFunctionEnv (show ∀x∈gb.names,x.2≠ .cell by decide) (fun x hx=>?_) (fun g hn sb=>?_) rfl)
 ·rw[aa5.mp hx];rfl
 have up:∀b o,s.heap.get? b=some o→g.get? b=some o:=fun b o e=>sb.extBut b o (aaI (aaq e)) (D8 _ e)
 refine⟨hlim.keeps up,W.kla_codeExpr ?_⟩
 refine UnaryOp_ (Subscript_ (wpAny_Name (wpAny_loadName_free rfl rfl rfl (hc.keeps up) ?_ (by decide)) (by decide)))
 refine wpAny_Name (wpAny_loadName_local rfl rfl hn (show _=some (.int (i:Int) t)from rfl) ?_) (by decide)
 refine item_listR (x:=.int k u) (hl.at fun o e=>up l o e) (by omega) (by omega) (by rw[aa_];exact hx) ?_ rfl
 exact neg_int (q _ _ _ up)
theorem collectRange{r:Addr}{n:Nat}{t u v:Tok}{Q:List Value→Shared→Prop}(hh:A.handled=none)(hr:IsRange s.heap r 0 n 1 t u v)(hn:n≤1000)(q:∀h' tk vs,(∀b o,s.heap.get? b=some o→h'.get? b=some o)→s.heap.objs.size≤h'.objs.size→IntsAre vs ((List.range n).map fun(i:Nat)=>(i:Int))→Q vs {s with heap:=h',toks:=tk}):wpAny (model prog w) A (collect (.ref r)) Q E s:=by
 unfold collect
 refine D4 (wpAny_runValue (codeAny_builtin F.entry_proto_collect ?_))
 rw[Around.under_plainId F.plain_proto_collect _]
 show wpAny _ _ (newList []>>=fun l=>again (.builtin "list.__iadd__" ⟨[l,.ref r],[]⟩)) _ _ _
 refine D4 (ab2 (aan ⟨plainId_quiet F.plain_list_iadd _,codeAny_builtin F.entry_list_iadd ?_⟩))
 rw[Around.under_plainId F.plain_list_iadd _]
 have size:Builtin.Range.rangeSize 0 n 1=n:=by
  unfold Builtin.Range.rangeSize
  rw[D7 (by decide)]
  split<;>omega
 have small:Builtin.Range.small 0 n 1=true:=by
  have f:∀z:Int,0≤z→z≤1000→Builtin.Range.rangeFitsLong z=true:=fun z a b=>by
   unfold Builtin.Range.rangeFitsLong
   simp only[aa1,decide_eq_true_eq]
   omega
  unfold Builtin.Range.small
  rw[size,f 0 (by omega) (by omega),f n (by omega) (by omega),f 1 (by omega) (by omega),D7 (by decide),f ((n:Int)+(1-1)) (by omega) (by omega)]
  simp
 show wpAny _ _ (Builtin.List.listExtendWith (.ref s.heap.objs.size) (.ref r) (.ref s.heap.objs.size)) _ _ _
 refine wpAny_extend_range (prog:=prog) (w:=w) (A:=A) (R:=fun r s'=>match r with
  | .ok (.ret v)=>wpAny (model prog w) A (match v with
     | .ref a=>do
       match(←load a).data with
       | .seq xs _=>pure xs.toList
       |_=>unsupported "internal:collect"
     |_=>unsupported "internal:collect") Q E s'
  | .ok _=>False
  | .error e=>E e s') (s:={s with heap:=s.heap.push {cls:=.type "list",data:=.seq ([]:List Value).toArray} }) (n:=n) hh (D8 _ hr) small size (by omega) s.heap.objs.size (.ref s.heap.objs.size) 0 (aaw _ rfl) fun h' tk acc c kp hS hI=>?_
 show wpAny _ _ (load s.heap.objs.size>>=_) _ _ _
 refine D4 (wpAny_load hS (aan (q h' tk _ (fun b o e=>kp b o (aaI (aaq e)) (D8 _ e)) (acC (aaq hS)) ?_)))
 have gen:∀(l:List Value) (k:Nat),(∀(j:Nat) v,l[j]?=some v→∃t,v=.int (((k+j:Nat):Nat):Int) t)→IntsAre l ((List.range' k l.length).map fun(i:Nat)=>(i:Int)):=by
  intro l
  induction l with
  |nil=>exact fun _ _=>.nil
  |cons x l ih=>
   intro k h
   obtain⟨t,rfl⟩:=h 0 x rfl
   rw[aax,List.range'_succ]
   exact .cons _ t (ih (k+1) fun j v e=>by
    obtain⟨t,e2⟩:=h (j+1) v e
    exact⟨t,by rw[e2,show k+(j+1)=k+1+j by omega]⟩)
 have z:=gen acc.toList 0 fun j v e=>by
  obtain⟨t,e2⟩:=hI.2 j v (by simpa using e)
  exact⟨t,by rw[e2,show(0:Int)+(j:Int)*1=((0+j:Nat):Int) by omega]⟩
 rw[acy,hI.1,←List.range_eq_range']at z
 exact z
end
section
variable{prog:Program}{w:World}{A:Around}{E:Value→Shared→Prop}{s:Shared}
theorem HL{h:Heap}{L a:Addr}:News (Nm.B_ h) L h (Nm.ledger h L a):=by
 rintro⟨b,o⟩ hp
 obtain⟨n1,_,e⟩:=Nm.rB.mp hp
 exact⟨e,n1,Nm.w9 _ _⟩
theorem L7{L r:Addr}{fa:Addr}{m:Str→Option Value}{n:Nat}{t u v:Tok}{kz:List Int}{Q:Value→Shared→Prop}(hh:A.in1.handled=none)(hL:s.heap.Ns L m)(hr:IsRange s.heap r 0 n 1 t u v)(hn:n≤1000)(hk:kz.length=n)(turn:∀(i:Nat) (t:Tok) (k:Int),i<n→kz[i]?=some k→∀h tk,(∀b o,b≠L→s.heap.get? b=some o→h.get? b=some o)→wpAny (model prog w) A.in1.in1 (call (.ref fa) [.int (i:Int) t]) (fun v s2=>∃h' tk' t',s2={s with heap:=h',toks:=tk'}∧v=.int k t'∧∀b o,h.get? b=some o→h'.get? b=some o) (fun _ _=>False) {s with heap:=h,toks:=tk})(q:∀D h' tk vs out c,h'.Ns L m→(∀b o,b≠L→s.heap.get? b=some o→h'.get? b=some o)→s.heap.objs.size≤D→D≠L→h'.get? D=some {cls:=.type "list",data:=.seq out c}→IntsAre vs ((List.range n).map fun(i:Nat)=>(i:Int))→KskOutSt false kz vs out.toList→Q (.ref D) {s with heap:=h',toks:=tk}):wpAny (model prog w) A (call (.builtin "sorted") [.ref r] [("key",.ref fa)]) Q E s:=by
 have lz:n≤sizeLine:=by rw[abx];omega
 refine call_function_entry_kw kind_sorted plain_sorted entry_sorted (by kernel_rfl) ?_
 unfold Builtin.«sorted»
 refine D4 (m:=checkCount "sorted" 1 1 _) (aan ?_)
 refine D4 (collectRange hh hr hn fun h1 Zr vs kp sle hI=>?_)
 have hvl:vs.length=n:=by rw[hI.length,DS,aaN]
 refine D4 (wpAny_newList ?_ (by rw[hvl];exact lz))
 have old:∀b o,s.heap.get? b=some o→(h1.push (seqObj "list" vs.toArray 0)).get? b=some o:=fun b o e=>D8 _ (kp b o e)
 have ho:(h1.push (seqObj "list" vs.toArray 0)).get? h1.objs.size=some (seqObj "list" vs.toArray 0):=aaw _ rfl
 have hL2:(h1.push (seqObj "list" vs.toArray 0)).Ns L m:=hL.keeps old
 have aL:h1.objs.size≠L:=abW (aaF hL.lt sle)
 have UT:∀b o,s.heap.get? b=some o→b≠h1.objs.size:=fun b o e=>aaI (aaF (aaq e) sle)
 show wpAny _ _ (holding _ _>>=_) _ _ {s with heap:=h1.push (seqObj "list" vs.toArray 0),toks:=Zr}
 refine D4 (wpAny_holding (wpAny_call_entry_kw slot_list_sort ⟨_,ho,rfl⟩ entry_list_sort ?body (ksk_l1 _ _)))
 show wpAny (model prog w) A.in1.in1 (Builtin.«list.sort» ⟨[.ref h1.objs.size],[("key",.ref fa)]⟩) _ _ _
 rw[show Builtin.«list.sort» ⟨[.ref h1.objs.size],[("key",.ref fa)]⟩=ksk_tree h1.objs.size (.ref fa) false from rfl]
 refine ksk_sortSt (s:={s with heap:=h1.push (seqObj "list" vs.toArray 0),toks:=Zr}) (h₀:=Nm.B_ (h1.push (seqObj "list" vs.toArray 0))) (L:=L) (m:=m) (kz:=kz) (Nm.Rx hL2) (HL (a:=h1.objs.size)) ho aL (Nm.w9 _ _) (fun p hp=>(Nm.rB.mp hp).2.1) (by rw[hk,hvl]) (by rw[hvl];exact lz)
  (fun i v k hv hkk h tk own F N=>?turn) fun h' tk out c F N ks=>⟨_,rfl,?fin⟩
 case turn=>
  have iv:i<n:=by rw[←hvl];exact(aao.mp hv).1
  obtain⟨t',e⟩:=hI.get i (i:Int) (by rw[HD,acd iv];rfl)
  rw[hv]at e
  cases e
  refine aby (turn i t' k iv hkk h tk fun b o n1 e=>?_) (fun v s2 ⟨h',tk',t2,e1,e2,II⟩=>⟨h',tk',t2,e1,e2,F.kept II,N.grown II⟩) fun _ _ z=>z
  exact(N _ (abo _ (Nm.rB.mpr ⟨n1,UT b o e,old b o e⟩))).1
 case fin=>
  refine aan ⟨_,rfl,q h1.objs.size h' tk vs out c F.ns (fun b o n1 e=>?_) sle aL (N _ (List.Mem.head _)).1 hI ks⟩
  exact(N _ (List.Mem.tail _ (Nm.rB.mpr ⟨n1,UT b o e,old b o e⟩))).1
end
def RO(lp:Pos)(ps:Array Value)(o:Option Addr):Prop:=(ps=#[]∧o=none)∨∃c,o=some c∧ps=#[rawInt lp.line,rawInt lp.col,.ref c]
def JH(qual:Str)(c:Addr)(h:Heap):Prop:=h.CodeRec (.ref c) qual
def HM(lp:Pos)(qual:Str)(P:Addr)(H:Hp):Prop:=∃ps o,H P=some (.ym ps)∧RO lp ps o∧∀c,o=some c→H c=some (.ext (JH qual c))
section
variable{X:Cx}{pins:List (Addr×Obj)}{σ:St}{H:Hp}{s:Shared}
theorem yL{qual:Str}{c:Addr}(h1 h2:Heap)(x:JH qual c h1)(k:∀o,h1.get? c=some o→h2.get? c=some o):JH qual c h2:=by
 obtain⟨c2,o,vs,t,e,ho,r⟩:=x
 cases e
 exact⟨c,o,vs,t,rfl,k o ho,r⟩
theorem Inv.grow{P c:Addr}{ps more:Array Value}{φ:Heap→Prop}{h':Heap}{t':Nat}(I:Inv X pins σ H s)(hP:H P=some (.ym ps))(k:∀b u,b≠P→s.heap.get? b=some u→h'.get? b=some u)(hn:h'.get? P=some {cls:=.none,data:=.fields (ps++more)})(hc:s.heap.objs.size≤c)(hco:∃o,h'.get? c=some o)(hφ:φ h')(st:∀h1 h2:Heap,φ h1→(∀o,h1.get? c=some o→h2.get? c=some o)→φ h2):Inv X pins σ (upd (upd H P (.ym (ps++more))) c (.ext φ)) {s with heap:=h',toks:=t'}:=by
 have hcn:H c=none:=I.hok.fresh hc
 have nPc:P≠c:=aA hP hcn
 have np:∀b u,H b=some u→u≠ .ym ps→b≠P:=fun b u e n z=>by rw[z,hP]at e;exact n (aar e).symm
 have nb:∀b,H b=none→b≠P:=fun b e z=>by rw[z,hP]at e;cases e
 have nc:∀b u,H b=some u→b≠c:=fun b u e=>aA e hcn
 have lc:∀b o,s.heap.get? b=some o→b≠c:=fun b o e=>aaI (aaF (aaq e) hc)
 refine I.un ⟨fun b u e n _ _=>k b u (nb b n) e,fun b u e n _ _=>⟨u.slots,k b u (nb b n) e⟩,fun b u e n _=>?_,fun b u e _=>?_,fun b xs e=>?_,fun b o xs e=>?_,fun b qs e=>?_⟩ fun b u e=>?_
 ·rw[aq (lc b u e),aq (nb b n)];exact n
 ·by_cases z:b=P
  ·exact⟨_,by rw[z];exact hn⟩
  ·exact⟨u,k b u z e⟩
 ·rw[aq (nc b _ e),aq (np b _ e (by intro z;cases z))];exact e
 ·rw[aq (nc b _ e),aq (np b _ e (by intro z;cases z))];exact e
 ·by_cases z:b=P
  ·subst z
   rw[hP]at e
   cases e
   exact⟨more,by rw[aq nPc,af]⟩
  ·exact⟨#[],by rw[aq (nc b _ e),aq z,e];simp⟩
 ·by_cases z:b=c
  ·subst z
   rw[af]at e
   cases e
   exact⟨hφ,hco,st⟩
  ·rw[aq z]at e
   by_cases zp:b=P
   ·subst zp
    rw[af]at e
    cases e
    exact hn
   ·rw[aq zp]at e
    refine(I.hok b u e).stay (fun d v hd q=>k d v ?_ q) (fun d q=>?_) fun d xs q=>?_
    ·rcases hd with r |r
     ·rw[r];exact zp
     ·exact np d _ r (by intro z;cases z)
    ·rw[aq (nc d _ q),aq (np d _ q (by intro z;cases z))];exact q
    ·rw[aq (nc d _ q),aq (np d _ q (by intro z;cases z))];exact q
theorem Pq{P cc c0:Addr}{p0 p1 p2 p3 p4 lp:Pos}{Q:Value→Shared→Prop}{E:Value→Shared→Prop}(I:Inv X pins σ H s)(hcode:X.env.code=.ref cc)(C:W.CodeHd X.base cc P)(B:X.base.BuiltinsAt X.mg P)(cl:closureFor gb X.env=pure [(("remainders":Str),c0)])(tb:HM lp (X.env.qual++"<lambda>") P H)(q:∀fa c ctv pm h' tk H',Inv X pins σ H' {s with heap:=h',toks:=tk}→h'.get? fa=some (W.kla_obj "<lambda>" (X.env.qual++"<lambda>") (ic p0) (mO p1 p2 p3 p4) gb [("remainders",c0)] pm c ctv)→h'.CodeRec (.ref c) (X.env.qual++"<lambda>")→(∀b o,b≠P→H b=some o→H' b=some o)→(∀b,H' b=none→H b=none)→(∀b o,b≠P→s.heap.get? b=some o→h'.get? b=some o)→HM lp (X.env.qual++"<lambda>") P H'→Q (.ref fa) {s with heap:=h',toks:=tk}):wpAny (model X.prog X.w) X.A (eval (.Lambda (ic p0) (mO p1 p2 p3 p4) gb lp) X.env) Q E s:=by
 obtain⟨ps,o,hP,tk0,hx⟩:=tb
 have Xu:s.heap.get? P=some (W.tabObj ps):=I.hok P _ hP
 have hg:s.heap.Ns mainGlobals X.mg:=I.mod.glob.keeps I.bk
 have hB:s.heap.BuiltinsAt X.mg P:=by
  obtain⟨bm,ob,b1,b2,b3,b4,b5,b6⟩:=B
  exact⟨bm,ob,b1,b2,b3,b4,I.bk _ _ b5,b6⟩
 have hgP:mainGlobals≠P:=fun z=>by
  obtain⟨o,es,ep,e,hd,_⟩:=hg
  rw[z,Xu]at e;cases e;cases hd
 refine W.kla_eval rfl ?_
 rcases tk0 with⟨rfl,rfl⟩ |⟨c,rfl,rfl⟩
 ·refine W.kla_makeFunction cl I.ok.glob hg hcode (C.keeps I.bk) Xu trivial rfl hgP hB fun c ctv h' tk hx' hge hlt hrec htb=>?_
  have up:∀b o,h'.get? b=some o→(h'.push (W.kla_obj "<lambda>" (X.env.qual++"<lambda>") (ic p0) (mO p1 p2 p3 p4) gb [("remainders",c0)] ((X.mg "__name__").getD .none) c ctv)).get? b=some o:=fun b o e=>D8 _ e
  have kp:∀b o,b≠P→s.heap.get? b=some o→(h'.push (W.kla_obj "<lambda>" (X.env.qual++"<lambda>") (ic p0) (mO p1 p2 p3 p4) gb [("remainders",c0)] ((X.mg "__name__").getD .none) c ctv)).get? b=some o:=fun b o n e=>up b o (hx' b o n e)
  have hcn:H c=none:=I.hok.fresh hge
  have UU:JH (X.env.qual++"<lambda>") c (h'.push (W.kla_obj "<lambda>" (X.env.qual++"<lambda>") (ic p0) (mO p1 p2 p3 p4) gb [("remainders",c0)] ((X.mg "__name__").getD .none) c ctv)):=yL _ _ hrec fun o e=>up c o e
  obtain⟨_,oc,_,_,ec,hoc,_⟩:=id hrec
  cases ec
  have I2:=I.grow (t':=tk) hP kp (up P _ htb) hge ⟨oc,up _ _ hoc⟩ UU yL
  refine q h'.objs.size c ctv _ _ tk _ I2 (aaw _ rfl) UU (fun b o n e=>?_) (fun b e=>?_) kp ⟨_,some c,?_,.inr ⟨c,rfl,rfl⟩,fun d ed=>?_⟩
  ·rw[aq (aA e hcn),aq n];exact e
  ·by_cases z:b=c
   ·rw[z];exact hcn
   ·rw[aq z]at e
    by_cases zp:b=P
    ·rw[zp,af]at e;cases e
    ·rw[aq zp]at e;exact e
  ·rw[aq (aA hP hcn),af,Array.empty_append]
  ·cases ed;exact af
 ·have hcx:=hx c rfl
  have hrec:JH (X.env.qual++"<lambda>") c s.heap:=(I.hok c _ hcx).1
  refine W.kla_makeFunctionHit cl I.ok.glob hg hcode (C.keeps I.bk) Xu (by trivial) (show PySem.codeAmong lp _=some (.ref c)from ?_) hB fun ctv h' tk hk hsz=>?_
  ·show(if((lp.line:Int)==(lp.line:Int)&&(lp.col:Int)==(lp.col:Int))=true then some (Value.ref c)else _)=_
   rw[D7 (by simp)]
  ·have kp:∀b o,s.heap.get? b=some o→(h'.push (W.kla_obj "<lambda>" (X.env.qual++"<lambda>") (ic p0) (mO p1 p2 p3 p4) gb [("remainders",c0)] ((X.mg "__name__").getD .none) c ctv)).get? b=some o:=fun b o e=>D8 _ (hk b o e)
   exact q h'.objs.size c ctv _ _ tk H (I.kept (t':=tk) kp) (aaw _ rfl) (yL _ _ hrec fun o e=>kp c o e) (fun b o _ e=>e) (fun b e=>e) (fun b o _ e=>kp b o e) ⟨_,some c,hP,.inr ⟨c,rfl,rfl⟩,hx⟩
end
def Placed(rs:List Int)(L:List Nat):Prop:=L.Perm (List.range rs.length)∧(L.Pairwise fun a b=>rs.getD b 0≤rs.getD a 0)∧∀z,L.filter (fun x=>rs.getD x 0==z)=(List.range rs.length).filter fun x=>rs.getD x 0==z
def RP(K:W.Frag)(lp:Pos)(qual:Str)(P:Addr)(ir:Nat)(ta:TA):TE:=fun σ H Q=>ta σ H fun vs H1=>∃l rs,vs=[.int (rs.length:Int)]∧rs.length≤1000∧σ[ir]?=some (some (.ref l))∧bD K H1 l (rs.map V.int)∧HM lp qual P H1∧
 ∀H' D L,(∀b o,b≠P→H1 b=some o→H' b=some o)→(∀b,H' b=none→H1 b=none)→H1 D=none→H' D=some (.lst (L.map fun(i:Nat)=>V.int (i:Int)))→Placed rs L→HM lp qual P H'→Q (.ref D) H'
theorem L8{rs:List Int}{vs out:List Value}(hv:IntsAre vs ((List.range rs.length).map fun(i:Nat)=>(i:Int)))(ko:KskOutSt false (rs.map fun z=>-z) vs out):∃L:List Nat,Placed rs L∧IntsAre out (L.map fun(i:Nat)=>(i:Int)):=by
 obtain⟨ps,hp,rfl,hs,hst⟩:=ko
 have hlen:vs.length=rs.length:=by rw[hv.length,DS,aaN]
 have zl:((rs.map fun z=>-z).zip vs).length=rs.length:=by rw[abO,DS,hlen,Nat.min_self]
 have Zs:∀i (h:i<rs.length),∃t,((rs.map fun z=>-z).zip vs)[i]?=some (-rs.getD i 0,.int (i:Int) t):=fun i h=>by
  obtain⟨t,e⟩:=hv.get i (i:Int) (by rw[HD,acd h];rfl)
  refine⟨t,?_⟩
  rw[abM]
  refine⟨?_,e⟩
  rw[HD,D3 h,abH,D3 h]
  rfl
 have UW:∀p∈(rs.map fun z=>-z).zip vs,p.1= -rs.getD (numOf p.2).toNat 0∧∃t,p.2=.int (((numOf p.2).toNat:Nat):Int) t:=fun p hp=>by
  obtain⟨i,hi⟩:=List.mem_iff_getElem?.mp hp
  have hil:i<rs.length:=by rw[←zl];exact(aao.mp hi).1
  obtain⟨t,e⟩:=Zs i hil
  rw[hi]at e
  have e:=aar e
  rw[e]
  exact⟨rfl,t,rfl⟩
 have UX:((rs.map fun z=>-z).zip vs).map (fun p=>(numOf p.2).toNat)=List.range rs.length:=by
  apply abl
  intro i
  by_cases h:i<rs.length
  ·obtain⟨t,e⟩:=Zs i h
   rw[HD,e,acd h]
   rfl
  ·rw[aaP (by rw[DS,zl];omega),aaP (by rw[aaN];omega)]
 have Pr:∀p∈ps,p.1= -rs.getD (numOf p.2).toNat 0∧∃t,p.2=.int (((numOf p.2).toNat:Nat):Int) t:=fun p h=>UW p (hp.mem_iff.mp h)
 have key:∀(l:List (Int×Value)) z,(∀p∈l,p.1= -rs.getD (numOf p.2).toNat 0∧∃t,p.2=.int (((numOf p.2).toNat:Nat):Int) t)→(l.map fun p=>(numOf p.2).toNat).filter (fun x=>rs.getD x 0==z)=(l.filter fun p=>p.1== -z).map fun p=>(numOf p.2).toNat:=fun l z h=>by
  rw[List.filter_map]
  congr 1
  refine List.filter_congr fun p hp=>?_
  show(rs.getD (numOf p.2).toNat 0==z)=(p.1== -z)
  rw[(h p hp).1,abD,abN,abN]
  omega
 refine⟨ps.map fun p=>(numOf p.2).toNat,⟨?_,?_,fun z=>?_⟩,?_⟩
 ·rw[←UX];exact hp.map _
 ·rw[List.pairwise_map]
  refine List.Pairwise.imp_of_mem (fun{p q} h1 h2 h=>?_) hs
  have h:p.1≤q.1:=h
  rw[(Pr p h1).1,(Pr q h2).1]at h
  omega
 ·rw[key ps z Pr,hst,←key _ z UW,UX]
 ·have gen:∀l:List (Int×Value),(∀p∈l,∃t,p.2=.int (((numOf p.2).toNat:Nat):Int) t)→IntsAre (l.map Prod.snd) ((l.map fun p=>(numOf p.2).toNat).map fun(i:Nat)=>(i:Int)):=by
   intro l
   induction l with
   |nil=>exact fun _=>.nil
   |cons p l ih=>
    intro h
    obtain⟨t,e⟩:=h p aau
    have:=ih fun p hp=>h p (aap _ hp)
    show IntsAre (p.2::_) ((((numOf p.2).toNat:Nat):Int)::_)
    generalize (((numOf p.2).toNat:Nat):Int)=z at e⊢
    rw[e]
    exact .cons z t this
  exact gen ps fun p h=>(Pr p h).2
theorem Pu{h:Heap}{L:Addr}{m m':Str→Option Value}(a:h.Ns L m)(b:h.Ns L m'):m=m':=by
 obtain⟨o,es,ep,e,d,_,f⟩:=a
 obtain⟨o',es',OH,e',d',_,f'⟩:=b
 rw[e]at e'
 cases e'
 rw[d]at d'
 cases d'
 funext x
 rw[←f,←f']
theorem IsList.ne_ns{h:Heap}{L l:Addr}{m:Str→Option Value}{its:Array Value}(a:h.IsList l its)(b:h.Ns L m):l≠L:=fun z=>by
 obtain⟨o,e,_,n,d⟩:=a
 obtain⟨o',es,ep,e',d',_⟩:=b
 rw[z,e']at e
 cases e
 rw[d']at d
 cases d
theorem JI{X:Cx}{e:Expr}{ta:TA}{q1 q2 q3 p0 p1 p2 p3 p4 lp kp pos:Pos}{P cc c0:Addr}{ir:Nat}(UY:X.calm=true)(hgS:Gl X "sorted")(hmS:X.mg "sorted"=none)(hgR:Gl X "range")(hmR:X.mg "range"=none)(ha:PA X [e] ta)(hN:X.N[ir]?=some "remainders")(hk:X.env.kindOf "remainders"=some .cell)(hc0:X.env.cells.lookup ("remainders":Str)=some c0)(hcode:X.env.code=.ref cc)(C:W.CodeHd X.base cc P)(B:X.base.BuiltinsAt X.mg P)(cl:closureFor gb X.env=pure [(("remainders":Str),c0)])(hroom:X.A.depth<recursionLimit)(hs:starEach [e] X.env=[(false,eval e X.env)]:=by rfl)(hs2:starEach [Expr.Call (.Name "range" q2) [e] [] q3] X.env=[(false,eval (.Call (.Name "range" q2) [e] [] q3) X.env)]:=by rfl):PE X (.Call (.Name "sorted" q1) [.Call (.Name "range" q2) [e] [] q3] [⟨some "key",.Lambda (ic p0) (mO p1 p2 p3 p4) gb lp,kp⟩] pos) (RP X.K lp (X.env.qual++"<lambda>") P ir ta):=by
 intro pins s σ H Q I h
 have Tc:backTo pos (starEach [Expr.Call (.Name "range" q2) [e] [] q3] X.env)=[(false,eval (.Call (.Name "range" q2) [e] [] q3) X.env)]:=by rw[hs2];rfl
 refine abv (tQ I hgS hmS LW (callWith_kw (id:="sorted") ?_ (by rw[Tc];rfl) (by rw[Tc];rfl)))
 rw[Tc]
 refine ach (Call_ (tQ I hgR hmR boot_range (abE (dX (ha q3 pins s σ H _ I h) fun us s1 ⟨vs,H1,I1,r1,l,rs,ev,EU,hl,hq,tb,q⟩=>?_) hs rfl)))
 subst ev
 cases r1 with
 |cons r rr=>
  cases rr
  obtain⟨t,rfl⟩:=r
  refine call_range_1 (Calls.spliced_nil ?_)
  have I2:Inv X pins σ H1 {s1 with heap:=s1.heap.push {cls:=.type "range",data:=.fields #[.int 0 s1.toks,.int (rs.length:Int) t,.int 1 (s1.toks+1)]},toks:=s1.toks+1+1}:=I1.kept (t':=s1.toks+1+1) fun b u e=>D8 _ e
  have hr:IsRange (s1.heap.push {cls:=.type "range",data:=.fields #[.int 0 s1.toks,.int (rs.length:Int) t,.int 1 (s1.toks+1)]}) s1.heap.objs.size 0 rs.length 1 s1.toks t (s1.toks+1):=aaw _ rfl
  generalize s1.heap.push {cls:=.type "range",data:=.fields #[.int 0 s1.toks,.int (rs.length:Int) t,.int 1 (s1.toks+1)]}=g2 at I2 hr⊢
  refine kws_cons (Pq I2 hcode C B cl tb fun fa c ctv pm h' tk H' I3 RQ hrec kH kN kp tb'=>kws_nil ?_)
  have Xv:∃ps,H1 P=some (.ym ps):=let⟨ps,_,e,_⟩:=tb;⟨ps,e⟩
  have nrP:s1.heap.objs.size≠P:=fun z=>by
   obtain⟨ps,e⟩:=Xv
   have e2:=I2.hok P _ e
   rw[←z]at e2
   have e3:g2.get? s1.heap.objs.size=some {cls:=.none,data:=.fields ps}:=e2
   rw[hr]at e3
   cases e3
  have hr':IsRange h' s1.heap.objs.size 0 rs.length 1 s1.toks t (s1.toks+1):=kp _ _ nrP hr
  obtain⟨m,hn,UZ⟩:=id I3.loc
  obtain⟨u,ru,lu⟩:=UZ ir "remainders" (.ref l) hN hl (.inr (.inl hk))
  obtain rfl:u=.ref l:=ru
  have hcell:h'.IsCell c0 (some (.ref l)):=by
   rcases lu with⟨z,_⟩ |⟨_,c1,e1,z⟩
   ·rw[hk]at z;cases z
   ·rw[hc0]at e1;cases e1;exact z
  have nlP:∀xs,bD X.K H1 l xs→bD X.K H' l xs:=fun xs z=>by
   rcases z with(z |⟨o,z⟩) |z
   ·exact .inl (.inl (kH _ _ (fun w=>by obtain⟨ps,e⟩:=Xv;rw[w,e]at z;cases z) z))
   ·exact .inl (.inr ⟨o,kH _ _ (fun w=>by obtain⟨ps,e⟩:=Xv;rw[w,e]at z;cases z) z⟩)
   ·exact .inr z
  obtain⟨its,rv,pl,_⟩:=I3.list (nlP _ hq)
  have nl:=IsList.ne_ns pl.isList hn
  have nf:fa≠X.env.locals:=fun z=>by
   obtain⟨o',es,ep,e',d',_⟩:=hn
   have RQ:h'.get? fa=some _:=RQ
   rw[z,e']at RQ
   cases RQ
   cases d'
  have ncc:c≠X.env.locals:=fun z=>by
   obtain⟨c2,o,vs,t2,e,ho,hd,_⟩:=id hrec
   cases e
   obtain⟨o',es,ep,e',d',_⟩:=hn
   rw[z,e']at ho
   cases ho
   rw[d']at hd
   cases hd
  have nc0:c0≠X.env.locals:=I3.Qh _ _ hc0
  show wpAny _ _ (call (.builtin "sorted") [.ref s1.heap.objs.size] [("key",.ref fa)]) _ _ {s1 with heap:=h',toks:=tk}
  refine L7 (s:={s1 with heap:=h',toks:=tk}) (kz:=rs.map fun z=>-z) (I3.ok.hd UY) hn hr' EU (by rw[DS]) (fun i t' k hi hkk h Wd II=>?turn) fun D h2 Wd vs out c2 hn2 II hD nD hDo hI ks=>?fin
  case turn=>
   rw[HD,D3 hi]at hkk
   have hkk: -rs[i]=k:=aar hkk
   obtain⟨u2,UD,UE⟩:=rv.get (show(rs.map V.int)[i]?=some (.int rs[i]) by rw[HD,D3 hi];rfl)
   obtain⟨t3,rfl⟩:=UE
   rw[←hkk]
   have U0:h.CodeRec (.ref c) (X.env.qual++"<lambda>"):=yL (c:=c) h' h hrec fun o e=>II c o ncc e
   have RS:h.IsCell c0 (some (.ref l)):=by
    obtain⟨o,ho,hd⟩:=hcell
    exact⟨o,II c0 o nc0 ho,hd⟩
   have hlim:h.NoLimit:=I3.ok.mod.nolimit.keeps fun b o e=>II b o (fun z=>by
    have:=aaq e
    have q2:=I3.ok.MK
    have q3:=I3.ok.above
    rw[z]at this
    exact absurd (aaF this (aaD q2 q3)) (abc _)) (I3.bk b o e)
   refine Pp (s:={s1 with heap:=h,toks:=Wd}) (II fa _ nf RQ) U0 hlim hroom RS (pl.isList.at fun o e=>II l o nl e) (by simpa using UD) (by omega) fun h3 tk3 t4 kp3=>⟨h3,tk3,t4,rfl,rfl,kp3⟩
  case fin=>
   obtain⟨L,hpl,hiL⟩:=L8 hI ks
   have Mv:H' D=none:=I3.hok.fresh hD
   have tr:∀b u,H' b=some u→b≠X.env.locals:=fun b u e z=>by rw[z,I3.free]at e;cases e
   have Xw:L.length≤sizeLine:=by rw[hpl.1.length_eq,aaN,abx];omega
   have vL:Vals (L.map fun(i:Nat)=>V.int (i:Int)) out.toList:=by
    have:=yy hiL
    rw[abe]at this
    exact this
   have I4:Inv X pins σ (upd H' D (.lst (L.map fun(i:Nat)=>V.int (i:Int)))) {s1 with heap:=h2,toks:=Wd}:=by
    refine I3.step (s:={s1 with heap:=h',toks:=tk}) (g':=s1.gens) (d':=s1.drawn) (t':=Wd) (ch:=[]) (fun _ z=>nomatch z) (fun b o n _ _ e _=>II b o n e) (fun b o n _ _ e _=>⟨o.slots,II b o n e⟩) (fun b o _ e n=>?_) (fun b o _ e=>?_) (fun b xs e=>?_) (fun b o xs e=>?_) (fun b ps e=>?_) (fun m' hm'=>?_) (fun b u e=>?_) I3.bare
    ·rw[aq (aaI (aaF (aaq e) hD))];exact n
    ·by_cases z:b=X.env.locals
     ·obtain⟨o',_,_,e',_⟩:=hn2
      exact⟨o',by rw[z];exact e'⟩
     ·exact⟨o,II b o z e⟩
    ·rw[aq (aA e Mv)];exact e
    ·rw[aq (aA e Mv)];exact e
    ·exact⟨#[],by rw[aq (aA e Mv),e];simp⟩
    ·rw[Pu hm' hn];exact hn2
    ·by_cases z:b=D
     ·subst z
      rw[af]at e
      cases e
      exact⟨by rw[DS];exact Xw,out.toList,c2,vL,by simpa using hDo⟩
     ·rw[aq z]at e
      refine(I3.hok b u e).stay (fun d v hd q=>II d v ?_ q) (fun d q=>?_) fun d xs q=>?_
      ·rcases hd with w |w
       ·rw[w];exact tr b u e
       ·exact tr d _ w
      ·rw[aq (aA q Mv)];exact q
      ·rw[aq (aA q Mv)];exact q
   refine⟨.ref D,_,I4,rfl,q _ D L (fun b o n e=>?_) (fun b e=>?_) (kN D Mv) af hpl ?_⟩
   ·have e2:=kH b o n e
    rw[aq (aA e2 Mv)];exact e2
   ·by_cases z:b=D
    ·rw[z];exact kN D Mv
    ·rw[aq z]at e;exact kN b e
   ·obtain⟨ps,o,e1,e2,e3⟩:=tb'
    exact⟨ps,o,by rw[aq (aA e1 Mv)];exact e1,e2,fun d ed=>by rw[aq (aA (e3 d ed) Mv)];exact e3 d ed⟩
end L2
namespace MA
open PySem PySem.Spec PyProof.Rows L2
def top(i:Nat):Stmt:=PySem.Challenge.pw_marketaccounts_s01_answers.main.body.getD i (.Pass ⟨0,0,0,0⟩)
abbrev ku:Stmt:=top 4
abbrev ni:Stmt:=top 5
abbrev eU:Stmt:=top 6
abbrev pW:Stmt:=inClass (top 7) 0
abbrev iE:Stmt:=inClass (top 7) 1
abbrev rF:Stmt:=top 8
abbrev iF:Stmt:=top 24
abbrev iG:Stmt:=top 25
abbrev iH:Stmt:=top 26
abbrev jC:Stmt:=top 27
abbrev jb:Stmt:=top 30
abbrev jD:Stmt:=top 31
abbrev kC:Stmt:=top 32
abbrev kD:Stmt:=top 33
abbrev gz:Stmt:=top 34
abbrev jE:Stmt:=top 35
abbrev e_:Stmt:=top 36
abbrev pX:Stmt:=inClass (top 38) 0
abbrev pY:Stmt:=inClass (top 38) 1
abbrev uh:Stmt:=inClass (top 39) 0
abbrev kE:Stmt:=inClass (top 39) 1
abbrev kF:Stmt:=inClass (top 39) 2
abbrev jc:Stmt:=inClass (top 39) 3
abbrev nj:Stmt:=inClass (top 40) 0
abbrev iI:Stmt:=inClass (top 40) 1
abbrev gK:Stmt:=inClass (top 40) 2
abbrev nk:Stmt:=inClass (top 41) 0
abbrev fh:Stmt:=inClass (top 41) 1
abbrev dY:Stmt:=inClass (top 41) 2
abbrev rG:Stmt:=inClass (top 42) 0
abbrev l9:Stmt:=inClass (top 42) 1
abbrev mP:Stmt:=inClass (top 42) 2
abbrev jF:Stmt:=top 46
abbrev nt:Stmt:=top 47
abbrev l_:Stmt:=top 48
abbrev pZ:Stmt:=top 49
abbrev um:Stmt:=top 50
abbrev jG:Stmt:=top 51
abbrev JJ:Stmt:=top 52
abbrev jH:Stmt:=top 53
abbrev gA:Stmt:=top 54
abbrev xu:Stmt:=top 55
abbrev nu:Stmt:=top 56
abbrev uo:Stmt:=top 58
abbrev p9:Stmt:=top 59
abbrev kG:Stmt:=top 60
abbrev ny:Stmt:=top 61
abbrev p_:Stmt:=top 62
abbrev uq:Stmt:=top 63
abbrev qa:Stmt:=top 64
abbrev rH:Stmt:=top 65
abbrev oX:Stmt:=top 66
abbrev qb:Stmt:=top 67
abbrev qc:Stmt:=top 68
abbrev rJ:Stmt:=top 69
abbrev xw:Stmt:=top 70
abbrev rK:Stmt:=top 74
abbrev rL:Stmt:=top 75
abbrev ur:Stmt:=top 76
abbrev uu:Stmt:=top 77
abbrev dz:Stmt:=top 79
abbrev eV:Stmt:=top 80
abbrev fU:Stmt:=top 81
abbrev qd:Stmt:=top 82
abbrev FY:Stmt:=top 83
abbrev zX:Stmt:=top 84
abbrev ND:Stmt:=top 86
abbrev Cn:Stmt:=top 87
abbrev zY:Stmt:=top 88
abbrev zZ:Stmt:=top 89
abbrev JK:Stmt:=top 90
abbrev z6:Stmt:=top 108
abbrev qe:Stmt:=top 109
abbrev jI:Stmt:=top 110
abbrev uv:Stmt:=top 111
abbrev kI:Stmt:=top 112
abbrev jd:Stmt:=top 113
abbrev z9:Stmt:=top 114
theorem yM:aD ["total"] ["total"] (az ku):=by constructor<;>first |rfl |decide+kernel
theorem A5:aD ["cents","rate"] ["cents","rate"] (az ni):=by constructor<;>first |rfl |decide+kernel
theorem bM:aD ["whole","weights","weight_in_all","shares","weight","remainders","places","place"] ["whole","weights"] (az eU):=by constructor<;>first |rfl |decide+kernel
theorem Co:aD ["self","by_collateral","by_fund_part","by_house","by_nobody","by_others"] ["self","by_collateral","by_fund_part","by_house","by_nobody","by_others"] (az pW):=by constructor<;>first |rfl |decide+kernel
theorem uw:aD ["self"] ["self"] (az iE):=by constructor<;>first |rfl |decide+kernel
theorem dO:aD ["loss","collateral","fund_part","house_part","other_fund_parts","by_collateral","left","by_fund_part","by_house","by_others_together","by_others"] ["loss","collateral","fund_part","house_part","other_fund_parts"] (az rF):=by constructor<;>first |rfl |decide+kernel
theorem ux:aD ["house","number"] ["house","number"] (az iF):=by constructor<;>first |rfl |decide+kernel
theorem lM:aD ["house","number","refusal"] ["house","number"] (az iG):=by constructor<;>first |rfl |decide+kernel
theorem uy:aD ["house","period"] ["house","period"] (az iH):=by constructor<;>first |rfl |decide+kernel
theorem nA:aD ["house","number","period","refusal"] ["house","number","period"] (az jC):=by constructor<;>first |rfl |decide+kernel
theorem iJ:aD ["house","rests","invoice"] ["house"] (az jb):=by constructor<;>first |rfl |decide+kernel
theorem xx:aD ["house","number"] ["house","number"] (az jD):=by constructor<;>first |rfl |decide+kernel
theorem oY:aD ["house","number","member"] ["house","number"] (az kC):=by constructor<;>first |rfl |decide+kernel
theorem oZ:aD ["house","number","needed_cents"] ["house","number"] (az kD):=by constructor<;>first |rfl |decide+kernel
theorem cK:aD ["house","in_cents","in_units","member","rests","cents"] ["house"] (az gz):=by constructor<;>first |rfl |decide+kernel
theorem xy:aD ["units"] ["units"] (az jE):=by constructor<;>first |rfl |decide+kernel
theorem fV:aD ["house","answer","units"] ["house","answer"] (az e_):=by constructor<;>first |rfl |decide+kernel
theorem Cp:aD ["self"] ["self"] (az pX):=by constructor<;>first |rfl |decide+kernel
theorem uz:aD ["self","other"] ["self"] (az pY):=by constructor<;>first |rfl |decide+kernel
theorem FZ:aD ["self","total","seen","billed","tax_billed"] ["self","total","seen","billed","tax_billed"] (az uh):=by constructor<;>first |rfl |decide+kernel
theorem yN:aD ["self","amount"] ["self","amount"] (az kE):=by constructor<;>first |rfl |decide+kernel
theorem yO:aD ["self","cents","tax"] ["self","cents","tax"] (az kF):=by constructor<;>first |rfl |decide+kernel
theorem vN:aD ["self"] ["self"] (az jc):=by constructor<;>first |rfl |decide+kernel
theorem A6:aD ["self","number_of_member","period","cents","tax","due_day","rest"] ["self","number_of_member","period","cents","tax","due_day","rest"] (az nj):=by constructor<;>first |rfl |decide+kernel
theorem uA:aD ["self","rest"] ["self","rest"] (az iI):=by constructor<;>first |rfl |decide+kernel
theorem sZ:aD ["self","today"] ["self","today"] (az gK):=by constructor<;>first |rfl |decide+kernel
theorem A7:aD ["self","loss","burden","nobody_not_back","others_not_back","house_not_back"] ["self","loss","burden","nobody_not_back","others_not_back","house_not_back"] (az nk):=by constructor<;>first |rfl |decide+kernel
theorem nB:aD ["self"] ["self"] (az fh):=by constructor<;>first |rfl |decide+kernel
theorem bR:aD ["self","to_nobody","shares","to_house","others_not_back","part","share","nobody_not_back","house_not_back"] ["self","to_nobody","shares","to_house"] (az dY):=by constructor<;>first |rfl |decide+kernel
theorem DE:aD ["self"] ["self"] (az rG):=by constructor<;>first |rfl |decide+kernel
theorem z_:aD ["self","number","period"] ["self","number","period"] (az l9):=by constructor<;>first |rfl |decide+kernel
theorem lq:aD ["self","other","member"] ["self"] (az mP):=by constructor<;>first |rfl |decide+kernel
theorem dD:aD ["house","number","money","left","invoices","invoice","taken"] ["house","number","money"] (az jF):=by constructor<;>first |rfl |decide+kernel
theorem gc:aD ["house","number","period","cents","tax","owed","due_day","member","money"] ["house","number","period","cents","tax"] (az nt):=by constructor<;>first |rfl |decide+kernel
theorem Aa:aD ["pair"] ["pair"] (az l_):=by constructor<;>first |rfl |decide+kernel
theorem Cq:aD ["pair","rate"] ["pair","rate"] (az pZ):=by constructor<;>first |rfl |decide+kernel
theorem jJ:aD ["house","number","period","pair","cents","tax","unseen"] ["house","number","period"] (az um):=by constructor<;>first |rfl |decide+kernel
theorem eW:aD ["house","invoices_before","made","answer","number","invoice"] ["house","invoices_before"] (az jG):=by constructor<;>first |rfl |decide+kernel
theorem F0:aD ["house","number","period","refusal","invoices_before"] ["house","number","period"] (az JJ):=by constructor<;>first |rfl |decide+kernel
theorem xA:aD ["house","number","period"] ["house","number","period"] (az jH):=by constructor<;>first |rfl |decide+kernel
theorem je:aD ["house","period","number"] ["house","period"] (az gA):=by constructor<;>first |rfl |decide+kernel
theorem o5:aD ["house","period","refusal","invoices_before","number"] ["house","period"] (az xu):=by constructor<;>first |rfl |decide+kernel
theorem sJ:aD ["house","period","refusal"] ["house","period"] (az nu):=by constructor<;>first |rfl |decide+kernel
theorem rM:aD ["house","number","period","refusal","pair"] ["house","number","period"] (az uo):=by constructor<;>first |rfl |decide+kernel
theorem nE:aD ["house","number","invoice","answer"] ["house","number"] (az p9):=by constructor<;>first |rfl |decide+kernel
theorem jK:aD ["rows","answer","row"] ["rows"] (az kG):=by constructor<;>first |rfl |decide+kernel
theorem gf:aD ["house","member_number","refusal","rows","number","invoice"] ["house","member_number"] (az ny):=by constructor<;>first |rfl |decide+kernel
theorem jL:aD ["house","number","refusal","member","answer"] ["house","number"] (az p_):=by constructor<;>first |rfl |decide+kernel
theorem jM:aD ["house","rows","number","member","lack"] ["house"] (az uq):=by constructor<;>first |rfl |decide+kernel
theorem jN:aD ["house","rows","number","invoice"] ["house"] (az qa):=by constructor<;>first |rfl |decide+kernel
theorem wj:aD ["house","own_accounts"] ["house"] (az rH):=by constructor<;>first |rfl |decide+kernel
theorem mQ:aD ["house","period","key","pair"] ["house","period"] (az oX):=by constructor<;>first |rfl |decide+kernel
theorem gM:aD ["house","number","failure","burden","borne","not_back"] ["house","number"] (az qb):=by constructor<;>first |rfl |decide+kernel
theorem nF:aD ["house","number","period","refusal","pair"] ["house","number","period"] (az qc):=by constructor<;>first |rfl |decide+kernel
theorem wk:aD ["house","total","cents"] ["house","total"] (az rJ):=by constructor<;>first |rfl |decide+kernel
theorem HN:aD ["house","loss","collateral","fund_part","house_part","other_fund_parts"] ["house","loss","collateral","fund_part","house_part","other_fund_parts"] (az xw):=by constructor<;>first |rfl |decide+kernel
theorem DF:aD ["house","terms","rate","house_part"] ["house","terms","rate","house_part"] (az rK):=by constructor<;>first |rfl |decide+kernel
theorem DG:aD ["house"] ["house"] (az rL):=by constructor<;>first |rfl |decide+kernel
theorem F1:aD ["house","day"] ["house","day"] (az ur):=by constructor<;>first |rfl |decide+kernel
theorem mR:aD ["house","number","period","amount","refusal","key","pair"] ["house","number","period","amount"] (az uu):=by constructor<;>first |rfl |decide+kernel
theorem cW:aD ["house","number","overdue","invoice"] ["house","number"] (az dz):=by constructor<;>first |rfl |decide+kernel
theorem dh:aD ["house","number","unseen","key","pair"] ["house","number"] (az eV):=by constructor<;>first |rfl |decide+kernel
theorem iK:aD ["invoices","number","invoice"] ["invoices","number"] (az fU):=by constructor<;>first |rfl |decide+kernel
theorem jO:aD ["house","number","burden","member","other","part"] ["house","number","burden"] (az qd):=by constructor<;>first |rfl |decide+kernel
theorem rN:aD ["house","number","refusal","loss","member","other_fund_parts","other","burden"] ["house","number"] (az FY):=by constructor<;>first |rfl |decide+kernel
theorem fW:aD ["house","number","cents","refusal","failure","to_nobody","to_others","to_house","shares","member","share"] ["house","number","cents"] (az zX):=by constructor<;>first |rfl |decide+kernel
theorem JL:aD ["house","number","cents","refusal","answer"] ["house","number","cents"] (az ND):=by constructor<;>first |rfl |decide+kernel
theorem Ab:aD ["house","number","cents","refusal","member"] ["house","number","cents"] (az Cn):=by constructor<;>first |rfl |decide+kernel
theorem xB:aD ["house","number","cents","refusal","member"] ["house","number","cents"] (az zY):=by constructor<;>first |rfl |decide+kernel
theorem rO:aD ["house","number","cents","refusal","member","kept"] ["house","number","cents"] (az zZ):=by constructor<;>first |rfl |decide+kernel
theorem F2:aD ["house","number","cents","refusal","member"] ["house","number","cents"] (az JK):=by constructor<;>first |rfl |decide+kernel
theorem Cr:aD ["place","calls"] ["place"] (az z6):=by constructor<;>first |rfl |decide+kernel
theorem uB:aD ["calls","at","behind"] ["calls","at"] (az qe):=by constructor<;>first |rfl |decide+kernel
theorem gg:aD ["arguments","told_ranges","ranges","argument","ends"] ["arguments","told_ranges"] (az jI):=by constructor<;>first |rfl |decide+kernel
theorem F3:aD ["deed","house","arguments"] ["deed","house","arguments"] (az uv):=by constructor<;>first |rfl |decide+kernel
theorem o8:aD ["house","place","arguments","call"] ["house","place","arguments"] (az kI):=by constructor<;>first |rfl |decide+kernel
theorem iL:aD ["house","place","arguments","trial","answer"] ["house","place","arguments"] (az jd):=by constructor<;>first |rfl |decide+kernel
theorem fX:aD ["calls","house","told","at","place","behind","outcome"] ["calls"] (az z9):=by constructor<;>first |rfl |decide+kernel
section
variable{K:W.Frag}{x q:Str}{f:Addr}{fd:FuncData}{st:Stmt}{p0 p1 p2 p3 p4 p5 p6 p7 p8:Str}
theorem GI(F:bI K x q st f fd)(h:∀(kV dc pm:Value) (an:Option Addr) (cdv ct a0:Value),bindArgs (W.fnOf x q (jA st) (gZ st) (az st) .none kV dc pm an cdv ct) ⟨[a0],[]⟩=pure [(p0,a0)]):Binds K fd [p0] []:=F.binds fun _ _ _ _ _ _ us hl=>match us,hl with |[_],_=>h ..
theorem yb(F:bI K x q st f fd)(h:∀(kV dc pm:Value) (an:Option Addr) (cdv ct a0 a1:Value),bindArgs (W.fnOf x q (jA st) (gZ st) (az st) .none kV dc pm an cdv ct) ⟨[a0,a1],[]⟩=pure [(p0,a0),(p1,a1)]):Binds K fd [p0,p1] []:=F.binds fun _ _ _ _ _ _ us hl=>match us,hl with |[_,_],_=>h ..
theorem F4(F:bI K x q st f fd)(h:∀(kV dc pm:Value) (an:Option Addr) (cdv ct a0 a1 a2:Value),bindArgs (W.fnOf x q (jA st) (gZ st) (az st) .none kV dc pm an cdv ct) ⟨[a0,a1,a2],[]⟩=pure [(p0,a0),(p1,a1),(p2,a2)]):Binds K fd [p0,p1,p2] []:=F.binds fun _ _ _ _ _ _ us hl=>match us,hl with |[_,_,_],_=>h ..
theorem Xx(F:bI K x q st f fd)(h:∀(kV dc pm:Value) (an:Option Addr) (cdv ct a0 a1 a2 a3:Value),bindArgs (W.fnOf x q (jA st) (gZ st) (az st) .none kV dc pm an cdv ct) ⟨[a0,a1,a2,a3],[]⟩=pure [(p0,a0),(p1,a1),(p2,a2),(p3,a3)]):Binds K fd [p0,p1,p2,p3] []:=F.binds fun _ _ _ _ _ _ us hl=>match us,hl with |[_,_,_,_],_=>h ..
theorem Xy(F:bI K x q st f fd)(h:∀(kV dc pm:Value) (an:Option Addr) (cdv ct a0 a1 a2 a3 a4:Value),bindArgs (W.fnOf x q (jA st) (gZ st) (az st) .none kV dc pm an cdv ct) ⟨[a0,a1,a2,a3,a4],[]⟩=pure [(p0,a0),(p1,a1),(p2,a2),(p3,a3),(p4,a4)]):Binds K fd [p0,p1,p2,p3,p4] []:=F.binds fun _ _ _ _ _ _ us hl=>match us,hl with |[_,_,_,_,_],_=>h ..
theorem Xz(F:bI K x q st f fd)(h:∀(kV dc pm:Value) (an:Option Addr) (cdv ct a0 a1 a2 a3 a4 a5:Value),bindArgs (W.fnOf x q (jA st) (gZ st) (az st) .none kV dc pm an cdv ct) ⟨[a0,a1,a2,a3,a4,a5],[]⟩=pure [(p0,a0),(p1,a1),(p2,a2),(p3,a3),(p4,a4),(p5,a5)]):Binds K fd [p0,p1,p2,p3,p4,p5] []:=F.binds fun _ _ _ _ _ _ us hl=>match us,hl with |[_,_,_,_,_,_],_=>h ..
theorem bn7(F:bI K x q st f fd)(h:∀(kV dc pm:Value) (an:Option Addr) (cdv ct a0 a1 a2 a3 a4 a5 a6:Value),bindArgs (W.fnOf x q (jA st) (gZ st) (az st) .none kV dc pm an cdv ct) ⟨[a0,a1,a2,a3,a4,a5,a6],[]⟩=pure [(p0,a0),(p1,a1),(p2,a2),(p3,a3),(p4,a4),(p5,a5),(p6,a6)]):Binds K fd [p0,p1,p2,p3,p4,p5,p6] []:=F.binds fun _ _ _ _ _ _ us hl=>match us,hl with |[_,_,_,_,_,_,_],_=>h ..
theorem kJ(F:bI K x q ku f fd):Binds K fd ["total"] []:=GI F (by intros;rfl)
theorem uC(F:bI K x q ni f fd):Binds K fd ["cents","rate"] []:=yb F (by intros;rfl)
theorem nG(F:bI K x q eU f fd):Binds K fd ["whole","weights"] []:=yb F (by intros;rfl)
theorem DH(F:bI K x q pW f fd):Binds K fd ["self","by_collateral","by_fund_part","by_house","by_nobody","by_others"] []:=Xz F (by intros;rfl)
theorem mw(F:bI K x q iE f fd):Binds K fd ["self"] []:=GI F (by intros;rfl)
theorem yP(F:bI K x q rF f fd):Binds K fd ["loss","collateral","fund_part","house_part","other_fund_parts"] []:=Xy F (by intros;rfl)
theorem di(F:bI K x q iF f fd):Binds K fd ["house","number"] []:=yb F (by intros;rfl)
theorem b_(F:bI K x q iG f fd):Binds K fd ["house","number"] []:=yb F (by intros;rfl)
theorem iM(F:bI K x q iH f fd):Binds K fd ["house","period"] []:=yb F (by intros;rfl)
theorem o9(F:bI K x q jC f fd):Binds K fd ["house","number","period"] []:=F4 F (by intros;rfl)
theorem nH(F:bI K x q jb f fd):Binds K fd ["house"] []:=GI F (by intros;rfl)
theorem gB(F:bI K x q jD f fd):Binds K fd ["house","number"] []:=yb F (by intros;rfl)
theorem kK(F:bI K x q kC f fd):Binds K fd ["house","number"] []:=yb F (by intros;rfl)
theorem Ac(F:bI K x q kD f fd):Binds K fd ["house","number"] []:=yb F (by intros;rfl)
theorem o_(F:bI K x q gz f fd):Binds K fd ["house"] []:=GI F (by intros;rfl)
theorem pq(F:bI K x q jE f fd):Binds K fd ["units"] []:=GI F (by intros;rfl)
theorem cE(F:bI K x q e_ f fd):Binds K fd ["house","answer"] []:=yb F (by intros;rfl)
theorem wm(F:bI K x q pX f fd):Binds K fd ["self"] []:=GI F (by intros;rfl)
theorem DI(F:bI K x q pY f fd):Binds K fd ["self"] []:=GI F (by intros;rfl)
theorem uD(F:bI K x q uh f fd):Binds K fd ["self","total","seen","billed","tax_billed"] []:=Xy F (by intros;rfl)
theorem Ad(F:bI K x q kE f fd):Binds K fd ["self","amount"] []:=yb F (by intros;rfl)
theorem Ae(F:bI K x q kF f fd):Binds K fd ["self","cents","tax"] []:=F4 F (by intros;rfl)
theorem nI(F:bI K x q jc f fd):Binds K fd ["self"] []:=GI F (by intros;rfl)
theorem uE(F:bI K x q nj f fd):Binds K fd ["self","number_of_member","period","cents","tax","due_day","rest"] []:=bn7 F (by intros;rfl)
theorem mz(F:bI K x q iI f fd):Binds K fd ["self","rest"] []:=yb F (by intros;rfl)
theorem lN(F:bI K x q gK f fd):Binds K fd ["self","today"] []:=yb F (by intros;rfl)
theorem uF(F:bI K x q nk f fd):Binds K fd ["self","loss","burden","nobody_not_back","others_not_back","house_not_back"] []:=Xz F (by intros;rfl)
theorem oG(F:bI K x q fh f fd):Binds K fd ["self"] []:=GI F (by intros;rfl)
theorem qH(F:bI K x q dY f fd):Binds K fd ["self","to_nobody","shares","to_house"] []:=Xx F (by intros;rfl)
theorem yQ(F:bI K x q rG f fd):Binds K fd ["self"] []:=GI F (by intros;rfl)
theorem i7(F:bI K x q l9 f fd):Binds K fd ["self","number","period"] []:=F4 F (by intros;rfl)
theorem F5(F:bI K x q mP f fd):Binds K fd ["self"] []:=GI F (by intros;rfl)
theorem jP(F:bI K x q jF f fd):Binds K fd ["house","number","money"] []:=F4 F (by intros;rfl)
theorem Ct(F:bI K x q nt f fd):Binds K fd ["house","number","period","cents","tax"] []:=Xy F (by intros;rfl)
theorem sL(F:bI K x q l_ f fd):Binds K fd ["pair"] []:=GI F (by intros;rfl)
theorem wo(F:bI K x q pZ f fd):Binds K fd ["pair","rate"] []:=yb F (by intros;rfl)
theorem AR(F:bI K x q um f fd):Binds K fd ["house","number","period"] []:=F4 F (by intros;rfl)
theorem pA(F:bI K x q jG f fd):Binds K fd ["house","invoices_before"] []:=yb F (by intros;rfl)
theorem RT(F:bI K x q JJ f fd):Binds K fd ["house","number","period"] []:=F4 F (by intros;rfl)
theorem yR(F:bI K x q jH f fd):Binds K fd ["house","number","period"] []:=F4 F (by intros;rfl)
theorem pB(F:bI K x q gA f fd):Binds K fd ["house","period"] []:=yb F (by intros;rfl)
theorem JM(F:bI K x q xu f fd):Binds K fd ["house","period"] []:=yb F (by intros;rfl)
theorem Cu(F:bI K x q nu f fd):Binds K fd ["house","period"] []:=yb F (by intros;rfl)
theorem HP(F:bI K x q uo f fd):Binds K fd ["house","number","period"] []:=F4 F (by intros;rfl)
theorem DJ(F:bI K x q p9 f fd):Binds K fd ["house","number"] []:=yb F (by intros;rfl)
theorem kL(F:bI K x q kG f fd):Binds K fd ["rows"] []:=GI F (by intros;rfl)
theorem Cv(F:bI K x q ny f fd):Binds K fd ["house","member_number"] []:=yb F (by intros;rfl)
theorem DK(F:bI K x q p_ f fd):Binds K fd ["house","number"] []:=yb F (by intros;rfl)
theorem HQ(F:bI K x q uq f fd):Binds K fd ["house"] []:=GI F (by intros;rfl)
theorem DL(F:bI K x q qa f fd):Binds K fd ["house"] []:=GI F (by intros;rfl)
theorem F6(F:bI K x q rH f fd):Binds K fd ["house"] []:=GI F (by intros;rfl)
theorem HR(F:bI K x q oX f fd):Binds K fd ["house","period"] []:=yb F (by intros;rfl)
theorem DM(F:bI K x q qb f fd):Binds K fd ["house","number"] []:=yb F (by intros;rfl)
theorem DN(F:bI K x q qc f fd):Binds K fd ["house","number","period"] []:=F4 F (by intros;rfl)
theorem F7(F:bI K x q rJ f fd):Binds K fd ["house","total"] []:=yb F (by intros;rfl)
theorem JN(F:bI K x q xw f fd):Binds K fd ["house","loss","collateral","fund_part","house_part","other_fund_parts"] []:=Xz F (by intros;rfl)
theorem F8(F:bI K x q rK f fd):Binds K fd ["house","terms","rate","house_part"] []:=Xx F (by intros;rfl)
theorem F9(F:bI K x q rL f fd):Binds K fd ["house"] []:=GI F (by intros;rfl)
theorem HS(F:bI K x q ur f fd):Binds K fd ["house","day"] []:=yb F (by intros;rfl)
theorem HU(F:bI K x q uu f fd):Binds K fd ["house","number","period","amount"] []:=Xx F (by intros;rfl)
theorem s_(F:bI K x q dz f fd):Binds K fd ["house","number"] []:=yb F (by intros;rfl)
theorem xC(F:bI K x q eV f fd):Binds K fd ["house","number"] []:=yb F (by intros;rfl)
theorem xD(F:bI K x q fU f fd):Binds K fd ["invoices","number"] []:=yb F (by intros;rfl)
theorem DO(F:bI K x q qd f fd):Binds K fd ["house","number","burden"] []:=F4 F (by intros;rfl)
theorem RU(F:bI K x q FY f fd):Binds K fd ["house","number"] []:=yb F (by intros;rfl)
theorem L_(F:bI K x q zX f fd):Binds K fd ["house","number","cents"] []:=F4 F (by intros;rfl)
theorem U1(F:bI K x q ND f fd):Binds K fd ["house","number","cents"] []:=F4 F (by intros;rfl)
theorem NG(F:bI K x q Cn f fd):Binds K fd ["house","number","cents"] []:=F4 F (by intros;rfl)
theorem Ma(F:bI K x q zY f fd):Binds K fd ["house","number","cents"] []:=F4 F (by intros;rfl)
theorem Mb(F:bI K x q zZ f fd):Binds K fd ["house","number","cents"] []:=F4 F (by intros;rfl)
theorem RV(F:bI K x q JK f fd):Binds K fd ["house","number","cents"] []:=F4 F (by intros;rfl)
theorem EV(F:bI K x q z6 f fd):Binds K fd ["place"] []:=GI F (by intros;rfl)
theorem DP(F:bI K x q qe f fd):Binds K fd ["calls","at"] []:=yb F (by intros;rfl)
theorem Cw(F:bI K x q jI f fd):Binds K fd ["arguments","told_ranges"] []:=yb F (by intros;rfl)
theorem HV(F:bI K x q uv f fd):Binds K fd ["deed","house","arguments"] []:=F4 F (by intros;rfl)
theorem Af(F:bI K x q kI f fd):Binds K fd ["house","place","arguments"] []:=F4 F (by intros;rfl)
theorem xE(F:bI K x q jd f fd):Binds K fd ["house","place","arguments"] []:=F4 F (by intros;rfl)
end
structure TX where
 c:Cs
 f:Nat→Addr
 fd:Nat→FuncData
 k:Nat→Tok
 u:Nat→Addr
 b:Heap
 cc:Addr
abbrev RW:Str:=("split_by_weights":Str)++".<locals>."++"<lambda>"
abbrev RX:Pos:=⟨15,45,15,77⟩
structure Txt(K:W.Frag)(mg:Str→Option Value)(t:TX):Prop where
 dF:bI K "cents_of_total" "cents_of_total" ku (t.f 0) (t.fd 0)
 gO:bI K "tax_on_cents" "tax_on_cents" ni (t.f 1) (t.fd 1)
 eX:bI K "split_by_weights" "split_by_weights" eU (t.f 2) (t.fd 2)
 wu:bI K "__init__" "Burden.__init__" pW (t.f 3) (t.fd 3)
 iN:bI K "as_numbers" "Burden.as_numbers" iE (t.f 4) (t.fd 4)
 jQ:bI K "loss_borne" "loss_borne" rF (t.f 5) (t.fd 5)
 bf:bI K "refusal_of_number" "refusal_of_number" iF (t.f 6) (t.fd 6)
 aS:bI K "refusal_of_member" "refusal_of_member" iG (t.f 7) (t.fd 7)
 cg:bI K "refusal_of_period" "refusal_of_period" iH (t.f 8) (t.fd 8)
 fu:bI K "refusal_of_pair" "refusal_of_pair" jC (t.f 9) (t.fd 9)
 eY:bI K "rests_of_members" "rests_of_members" jb (t.f 10) (t.fd 10)
 bU:bI K "rests_of_member" "rests_of_member" jD (t.f 11) (t.fd 11)
 dG:bI K "need_of_member" "need_of_member" kC (t.f 12) (t.fd 12)
 kM:bI K "lack_of_member" "lack_of_member" kD (t.f 13) (t.fd 13)
 fy:bI K "signed_accounts" "signed_accounts" gz (t.f 14) (t.fd 14)
 fB:bI K "is_beyond_limit" "is_beyond_limit" jE (t.f 15) (t.fd 15)
 aT:bI K "unless_beyond_limit" "unless_beyond_limit" e_ (t.f 16) (t.fd 16)
 qf:bI K "__init__" "Member.__init__" pX (t.f 17) (t.fd 17)
 wz:bI K "twin" "Member.twin" pY (t.f 18) (t.fd 18)
 pC:bI K "__init__" "Pair.__init__" uh (t.f 19) (t.fd 19)
 qI:bI K "with_item" "Pair.with_item" kE (t.f 20) (t.fd 20)
 qJ:bI K "with_bill" "Pair.with_bill" kF (t.f 21) (t.fd 21)
 jf:bI K "is_all_seen" "Pair.is_all_seen" jc (t.f 22) (t.fd 22)
 nJ:bI K "__init__" "Invoice.__init__" nj (t.f 23) (t.fd 23)
 iO:bI K "with_rest" "Invoice.with_rest" iI (t.f 24) (t.fd 24)
 gP:bI K "is_overdue" "Invoice.is_overdue" gK (t.f 25) (t.fd 25)
 nM:bI K "__init__" "Failure.__init__" nk (t.f 26) (t.fd 26)
 iA:bI K "not_back_in_all" "Failure.not_back_in_all" fh (t.f 27) (t.fd 27)
 jr:bI K "with_recovery" "Failure.with_recovery" dY (t.f 28) (t.fd 28)
 rP:bI K "__init__" "House.__init__" rG (t.f 29) (t.fd 29)
 gh:bI K "pair_of" "House.pair_of" l9 (t.f 30) (t.fd 30)
 yS:bI K "twin" "House.twin" mP (t.f 31) (t.fd 31)
 cY:bI K "put_on_invoices" "put_on_invoices" jF (t.f 32) (t.fd 32)
 nN:bI K "make_invoice" "make_invoice" nt (t.f 33) (t.fd 33)
 gi:bI K "cents_to_bill" "cents_to_bill" l_ (t.f 34) (t.fd 34)
 iX:bI K "tax_to_bill" "tax_to_bill" pZ (t.f 35) (t.fd 35)
 lO:bI K "bill_pair" "bill_pair" um (t.f 36) (t.fd 36)
 fC:bI K "answer_of_bills" "answer_of_bills" jG (t.f 37) (t.fd 37)
 JO:bI K "bill" "bill" JJ (t.f 38) (t.fd 38)
 jR:bI K "is_to_be_billed" "is_to_be_billed" jH (t.f 39) (t.fd 39)
 fD:bI K "numbers_to_bill" "numbers_to_bill" gA (t.f 40) (t.fd 40)
 xF:bI K "bill_all" "bill_all" xu (t.f 41) (t.fd 41)
 nO:bI K "close_period" "close_period" nu (t.f 42) (t.fd 42)
 uG:bI K "ask_total" "ask_total" uo (t.f 43) (t.fd 43)
 qg:bI K "ask_invoice" "ask_invoice" p9 (t.f 44) (t.fd 44)
 dH:bI K "answer_of_rows" "answer_of_rows" kG (t.f 45) (t.fd 45)
 nQ:bI K "ask_invoices" "ask_invoices" ny (t.f 46) (t.fd 46)
 qh:bI K "ask_balance" "ask_balance" p_ (t.f 47) (t.fd 47)
 uH:bI K "ask_short" "ask_short" uq (t.f 48) (t.fd 48)
 qi:bI K "ask_overdue" "ask_overdue" qa (t.f 49) (t.fd 49)
 rQ:bI K "ask_ledger" "ask_ledger" rH (t.f 50) (t.fd 50)
 uI:bI K "ask_taxes" "ask_taxes" oX (t.f 51) (t.fd 51)
 qj:bI K "ask_failure" "ask_failure" qb (t.f 52) (t.fd 52)
 qk:bI K "ask_preview" "ask_preview" qc (t.f 53) (t.fd 53)
 rR:bI K "ask_reckon" "ask_reckon" rJ (t.f 54) (t.fd 54)
 xG:bI K "ask_loss" "ask_loss" xw (t.f 55) (t.fd 55)
 rS:bI K "open_house" "open_house" rK (t.f 56) (t.fd 56)
 rT:bI K "add_member" "add_member" rL (t.f 57) (t.fd 57)
 uJ:bI K "begin_day" "begin_day" ur (t.f 58) (t.fd 58)
 uK:bI K "tell_item" "tell_item" uu (t.f 59) (t.fd 59)
 gw:bI K "has_overdue_invoice" "has_overdue_invoice" dz (t.f 60) (t.fd 60)
 jg:bI K "has_unseen_total" "has_unseen_total" eV (t.f 61) (t.fd 61)
 jh:bI K "without_rests_of" "without_rests_of" fU (t.f 62) (t.fd 62)
 qo:bI K "take_burden" "take_burden" qd (t.f 63) (t.fd 63)
 JP:bI K "fail" "fail" FY (t.f 64) (t.fd 64)
 Ag:bI K "recover" "recover" zX (t.f 65) (t.fd 65)
 NJ:bI K "pay" "pay" ND (t.f 66) (t.fd 66)
 Cy:bI K "refund" "refund" Cn (t.f 67) (t.fd 67)
 Ah:bI K "deposit" "deposit" zY (t.f 68) (t.fd 68)
 Ai:bI K "release" "release" zZ (t.f 69) (t.fd 69)
 JQ:bI K "fund" "fund" JK (t.f 70) (t.fd 70)
 qK:bI K "call_at" "call_at" z6 (t.f 71) (t.fd 71)
 qt:bI K "end_of_call" "end_of_call" qe (t.f 72) (t.fd 72)
 nT:bI K "are_in_range" "are_in_range" jI (t.f 73) (t.fd 73)
 uL:bI K "done_with" "done_with" uv (t.f 74) (t.fd 74)
 kO:bI K "answer_to_call" "answer_to_call" kI (t.f 75) (t.fd 75)
 ji:bI K "house_and_answer" "house_and_answer" jd (t.f 76) (t.fd 76)
 Mc:bI K "answers" "answers" z9 (t.f 77) (t.fd 77)
 kP:mg "cents_of_total"=some (.ref (t.f 0))
 uM:mg "tax_on_cents"=some (.ref (t.f 1))
 nU:mg "split_by_weights"=some (.ref (t.f 2))
 lP:Meth K t.c.cB "as_numbers" (t.f 4)
 yT:mg "loss_borne"=some (.ref (t.f 5))
 dm:mg "refusal_of_number"=some (.ref (t.f 6))
 cu:mg "refusal_of_member"=some (.ref (t.f 7))
 iP:mg "refusal_of_period"=some (.ref (t.f 8))
 pD:mg "refusal_of_pair"=some (.ref (t.f 9))
 nV:mg "rests_of_members"=some (.ref (t.f 10))
 gC:mg "rests_of_member"=some (.ref (t.f 11))
 kQ:mg "need_of_member"=some (.ref (t.f 12))
 Aj:mg "lack_of_member"=some (.ref (t.f 13))
 pF:mg "signed_accounts"=some (.ref (t.f 14))
 pG:mg "is_beyond_limit"=some (.ref (t.f 15))
 cG:mg "unless_beyond_limit"=some (.ref (t.f 16))
 Cz:Meth K t.c.cM "twin" (t.f 18)
 yU:Meth K t.c.cP "with_item" (t.f 20)
 yV:Meth K t.c.cP "with_bill" (t.f 21)
 mC:Meth K t.c.cP "is_all_seen" (t.f 22)
 lQ:Meth K t.c.cI "with_rest" (t.f 24)
 kg:Meth K t.c.cI "is_overdue" (t.f 25)
 nW:Meth K t.c.cF "not_back_in_all" (t.f 27)
 qu:Meth K t.c.cF "with_recovery" (t.f 28)
 ie:Meth K t.c.cH "pair_of" (t.f 30)
 DQ:Meth K t.c.cH "twin" (t.f 31)
 jS:mg "put_on_invoices"=some (.ref (t.f 32))
 CA:mg "make_invoice"=some (.ref (t.f 33))
 sM:mg "cents_to_bill"=some (.ref (t.f 34))
 wA:mg "tax_to_bill"=some (.ref (t.f 35))
 AS:mg "bill_pair"=some (.ref (t.f 36))
 pH:mg "answer_of_bills"=some (.ref (t.f 37))
 RY:mg "bill"=some (.ref (t.f 38))
 yW:mg "is_to_be_billed"=some (.ref (t.f 39))
 pI:mg "numbers_to_bill"=some (.ref (t.f 40))
 JR:mg "bill_all"=some (.ref (t.f 41))
 CB:mg "close_period"=some (.ref (t.f 42))
 HW:mg "ask_total"=some (.ref (t.f 43))
 DR:mg "ask_invoice"=some (.ref (t.f 44))
 kR:mg "answer_of_rows"=some (.ref (t.f 45))
 CC:mg "ask_invoices"=some (.ref (t.f 46))
 DT:mg "ask_balance"=some (.ref (t.f 47))
 HY:mg "ask_short"=some (.ref (t.f 48))
 DU:mg "ask_overdue"=some (.ref (t.f 49))
 F_:mg "ask_ledger"=some (.ref (t.f 50))
 HZ:mg "ask_taxes"=some (.ref (t.f 51))
 DV:mg "ask_failure"=some (.ref (t.f 52))
 DW:mg "ask_preview"=some (.ref (t.f 53))
 Ga:mg "ask_reckon"=some (.ref (t.f 54))
 JS:mg "ask_loss"=some (.ref (t.f 55))
 Gb:mg "open_house"=some (.ref (t.f 56))
 Gd:mg "add_member"=some (.ref (t.f 57))
 H_:mg "begin_day"=some (.ref (t.f 58))
 Ia:mg "tell_item"=some (.ref (t.f 59))
 tu:mg "has_overdue_invoice"=some (.ref (t.f 60))
 xH:mg "has_unseen_total"=some (.ref (t.f 61))
 xJ:mg "without_rests_of"=some (.ref (t.f 62))
 DX:mg "take_burden"=some (.ref (t.f 63))
 RZ:mg "fail"=some (.ref (t.f 64))
 Me:mg "recover"=some (.ref (t.f 65))
 U3:mg "pay"=some (.ref (t.f 66))
 NK:mg "refund"=some (.ref (t.f 67))
 Mf:mg "deposit"=some (.ref (t.f 68))
 Mg:mg "release"=some (.ref (t.f 69))
 R0:mg "fund"=some (.ref (t.f 70))
 EW:mg "call_at"=some (.ref (t.f 71))
 DY:mg "end_of_call"=some (.ref (t.f 72))
 CD:mg "are_in_range"=some (.ref (t.f 73))
 Ib:mg "done_with"=some (.ref (t.f 74))
 Ak:mg "answer_to_call"=some (.ref (t.f 75))
 xK:mg "house_and_answer"=some (.ref (t.f 76))
 Tj:mg "answers"=some (.ref (t.f 77))
 kT:Br K t.c.cM
 Ic:mg "Member"=some (.ref t.c.cM)
 Ie:Mk K t.c.cM (t.f 17)
 fR:bx K t.c.cM "unbilled"
 ig:bx K t.c.cM "pool"
 bX:bx K t.c.cM "collateral"
 cJ:bx K t.c.cM "fund_part"
 iu:bx K t.c.cM "failed"
 xM:Br K t.c.cP
 JT:mg "Pair"=some (.ref t.c.cP)
 JU:Mk K t.c.cP (t.f 19)
 gQ:bx K t.c.cP "total"
 yX:bx K t.c.cP "seen"
 qL:bx K t.c.cP "billed"
 gr:bx K t.c.cP "tax_billed"
 rV:Br K t.c.cI
 EX:mg "Invoice"=some (.ref t.c.cI)
 EY:Mk K t.c.cI (t.f 23)
 bF:bx K t.c.cI "number_of_member"
 Al:bx K t.c.cI "period"
 yY:bx K t.c.cI "cents"
 Ge:bx K t.c.cI "tax"
 nX:bx K t.c.cI "due_day"
 mS:bx K t.c.cI "rest"
 CF:Br K t.c.cF
 EZ:mg "Failure"=some (.ref t.c.cF)
 E1:Mk K t.c.cF (t.f 26)
 Gf:bx K t.c.cF "loss"
 Am:bx K t.c.cF "burden"
 eZ:bx K t.c.cF "nobody_not_back"
 dI:bx K t.c.cF "others_not_back"
 gD:bx K t.c.cF "house_not_back"
 bS:Br K t.c.cH
 KP:mg "House"=some (.ref t.c.cH)
 KQ:Mk K t.c.cH (t.f 29)
 kU:bx K t.c.cH "is_open"
 uN:bx K t.c.cH "terms"
 rW:bx K t.c.cH "rate"
 lR:bx K t.c.cH "today"
 mV:bx K t.c.cH "market"
 jt:bx K t.c.cH "rounding"
 qM:bx K t.c.cH "taxes"
 gE:bx K t.c.cH "cash"
 dP:bx K t.c.cH "house_part"
 rX:bx K t.c.cH "loss"
 aX:bx K t.c.cH "members"
 gj:bx K t.c.cH "pairs"
 bK:bx K t.c.cH "invoices"
 gR:bx K t.c.cH "failures"
 mW:bx K t.c.cH "closed"
 BE:Br K t.c.cB
 NL:mg "Burden"=some (.ref t.c.cB)
 NN:Mk K t.c.cB (t.f 3)
 iw:bx K t.c.cB "by_collateral"
 i8:bx K t.c.cB "by_fund_part"
 lS:bx K t.c.cB "by_house"
 jT:bx K t.c.cB "by_nobody"
 mT:bx K t.c.cB "by_others"
 dZ:mg "UNITS_OF_A_CENT"=some (.int (1000) (t.k 0))
 Ig:mg "TAX_PARTS"=some (.int (10000) (t.k 1))
 vO:mg "HALF_OF_TAX_PARTS"=some (.int (5000) (t.k 2))
 aH:mg "ACCEPTED"=some (.int (0) (t.k 3))
 CG:mg "OUT_OF_RANGE"=some (.int (-1) (t.k 4))
 An:mg "HOUSE_NOT_OPEN"=some (.int (-2) (t.k 5))
 uO:mg "HOUSE_OPEN_ALREADY"=some (.int (-3) (t.k 6))
 vE:mg "NO_ROOM"=some (.int (-4) (t.k 7))
 Ao:mg "NO_SUCH_MEMBER"=some (.int (-5) (t.k 8))
 A8:mg "MEMBER_FAILED"=some (.int (-6) (t.k 9))
 A9:mg "PERIOD_CLOSED"=some (.int (-7) (t.k 10))
 uP:mg "BEYOND_LIMIT"=some (.int (-8) (t.k 11))
 yZ:mg "NOT_ENOUGH"=some (.int (-9) (t.k 12))
 y9:mg "NOT_AFTER_TODAY"=some (.int (-10) (t.k 13))
 CH:mg "NOT_RIPE"=some (.int (-11) (t.k 14))
 pJ:mg "NO_SUCH_FAILURE"=some (.int (-12) (t.k 15))
 xN:mg "INVOICE_NOT_MADE"=some (.int (-13) (t.k 16))
 KR:mg "LIMIT"=some (.int (1000000000000000000) (t.k 17))
 A_:mg "MOST_INVOICES"=some (.int (256) (t.k 18))
 tw:mg "MOST_CLOSED_PERIODS"=some (.int (256) (t.k 19))
 CI:mg "MOST_MEMBERS"=some (.int (16) (t.k 20))
 Gg:mg "MOST_PAIRS"=some (.int (256) (t.k 21))
 Gh:mg "OPEN_PLACE"=some (.int (0) (t.k 22))
 Gi:mg "LOSS_PLACE"=some (.int (25) (t.k 23))
 Gj:mg "LAST_PLACE"=some (.int (25) (t.k 24))
 Pw:mg "TERMS"=some (.ref (t.u 0))
 Px:∀H:Hp,i6 K H (t.u 0) [.int (0),.int (1000)]
 R1:mg "RATE"=some (.ref (t.u 1))
 R3:∀H:Hp,i6 K H (t.u 1) [.int (0),.int (10000)]
 Gk:mg "HOUSE_PART"=some (.ref (t.u 2))
 Gm:∀H:Hp,i6 K H (t.u 2) [.int (0),.int (1000000000000000)]
 U4:mg "DAY"=some (.ref (t.u 3))
 U5:∀H:Hp,i6 K H (t.u 3) [.int (0),.int (1000000)]
 fE:mg "MEMBER"=some (.ref (t.u 4))
 NO:∀H:Hp,i6 K H (t.u 4) [.int (1),.int (16)]
 nY:mg "PERIOD"=some (.ref (t.u 5))
 NQ:∀H:Hp,i6 K H (t.u 5) [.int (0),.int (9999)]
 NR:mg "AMOUNT"=some (.ref (t.u 6))
 NS:∀H:Hp,i6 K H (t.u 6) [.int (-1000000000000000),.int (1000000000000000)]
 vF:mg "CENTS"=some (.ref (t.u 7))
 Py:∀H:Hp,i6 K H (t.u 7) [.int (1),.int (1000000000000000)]
 Mh:mg "INVOICE"=some (.ref (t.u 8))
 Mi:∀H:Hp,i6 K H (t.u 8) [.int (1),.int (256)]
 Pz:mg "TOTAL"=some (.ref (t.u 9))
 PB:∀H:Hp,i6 K H (t.u 9) [.int (-1000000000000000000),.int (1000000000000000000)]
 CJ:mg "PART"=some (.ref (t.u 10))
 R4:∀H:Hp,i6 K H (t.u 10) [.int (0),.int (1000000000000000)]
 y_:mg "COUNT_OF_OTHERS"=some (.ref (t.u 11))
 za:∀H:Hp,i6 K H (t.u 11) [.int (0),.int (16)]
 hdc:W.CodeHd t.b t.cc t.c.tP
 bmb:t.b.BuiltinsAt mg t.c.tP
 fdc:(t.fd 2).code=.ref t.cc
 tk:t.c.tok=RO RX
 ck:t.c.Zm=JH RW
 U6:mg "all"=none
 NT:mg "any"=none
 JV:mg "dict"=none
 pK:mg "enumerate"=none
 gk:mg "len"=none
 R5:mg "list"=none
 NU:mg "max"=none
 CK:mg "min"=none
 KS:mg "range"=none
 NV:mg "sorted"=none
 CL:mg "sum"=none
 Ih:mg "zip"=none
end MA
namespace MA
open PySem PySem.Spec PyProof.Rows L2 Vbemal
theorem ri{i:Int}{k:Tok}:RelV (.int i) (.int i k):=⟨k,rfl⟩
theorem rr{a:Addr}:RelV (.ref a) (.ref a):=rfl
theorem fl{K:W.Frag}{H:Hp}{a C dx:Addr}{fs:List (Str×V)}{f:Str}{v:V}{Q:VK}(e:H a=some (.ins C dx fs))(c:Br K C)(n:bx K C f)(l:fs.lookup f=some v)(q:Q v H):Uk K f (.ref a) H Q:=⟨a,C,dx,fs,v,rfl,e,c,n,l,q⟩
section
variable{P:Program}{w:World}{K:W.Frag}{mg:Str→Option Value}{base:Heap}{t:TX}
def zb:Sp:=fun vs H Q _=>∃z,vs=[.int z]∧Q (.int (centsOf z)) H
theorem jU(T:Txt K mg t):bE P w K mg t.b fG 1 (t.f 0) (t.fd 0) ["total"] zb:=by
 refine T.dF.ok yM (fun vs H Q E h=>?_) (fun cdv A outer s H vs Q E hr h=>?_)
 ·obtain⟨z,rfl,_⟩:=h
  rfl
 ·obtain⟨z,rfl,k⟩:=h
  refine⟨_,(ay (aC (aW OM (pv 0) (au rfl T.dZ ri)))),?_⟩
  exact⟨_,rfl,_,_,rfl,rfl,⟨by decide,by decide⟩,k⟩
def nZ(s:State)(n:Nat):Int:=if n≤s.members.length then 0 else-5
def uQ(t:TX):Sp:=fun vs H Q _=>∃Z p d s n,vs=[.ref p,vn n]∧aj t.c H Z p d s∧Q (.int (nZ s n)) H
theorem cO(T:Txt K mg t):bE P w K mg t.b fG 1 (t.f 6) (t.fd 6) ["house","number"] (uQ t):=by
 refine T.bf.ok ux (fun vs H Q E h=>?_) (fun cdv A outer s0 H vs Q E hr h=>?_)
 ·obtain⟨Z,p,d,s,n,rfl,_⟩:=h
  rfl
 ·obtain⟨Z,p,d,s,n,rfl,hh,k⟩:=h
  refine⟨_,(ay (aC (iT (aU Kw (pv 1) (aQ a_ rfl T.gk aaK (aa (ak (pv 0) rfl) ai)) (bh _)) (au rfl T.aH ri) (au rfl T.Ao ri)))),?_⟩
  refine⟨_,rfl,_,rfl,fl hh.ins T.bS T.aX (bq d s) ⟨_,_,rfl,.inl (bD.of hh.ml),_,_,rfl,rfl,_,rfl,?_⟩⟩
  rw[DS,hh.iC]
  refine Xe (fun c=>?_) (fun c=>?_)
  ·have e:nZ s n=0:=D7 (by have:=ab3 c;omega)
   rw[e]at k
   exact k
  ·have e:nZ s n= -5:=D6 (fun q=>c (aa8 (by omega)))
   rw[e]at k
   exact k
end
end MA
namespace MA
open PySem PySem.Spec PyProof.Rows L2 Vbemal VI
theorem uR{A B c:Prop}[Decidable c](h:c)(q:A):if decide c=true then A else B:=by rw[D7 (aa8 h)];exact q
theorem tD{A B c:Prop}[Decidable c](h:¬c)(q:B):if decide c=true then A else B:=by rw[D6 (fun z=>h (ab3 z))];exact q
theorem tE{A B c:Prop}[Decidable c](h:¬c)(q:A):if(!decide c)=true then A else B:=by rw[D7 (by rw[aa7 h];rfl)];exact q
theorem tF{A B c:Prop}[Decidable c](h:c)(q:B):if(!decide c)=true then A else B:=by rw[D6 (by rw[aa8 h];exact aay)];exact q
theorem NW{A B:Prop}{b:Bool}(h1:b=true→A)(h2:b=false→B):if b=true then A else B:=by cases b with
 |true=>rw[D7 rfl];exact h1 rfl
 |false=>rw[D6 aay];exact h2 rfl
theorem bG{i j:Int}(h:V.int i=V.int j):i=j:=by injection h
theorem Tn{xs:List V}{n:Nat}{v:V}(h0:0<n)(h:xs[n-1]?=some v):M7 xs ((n:Int)-1)=some v:=at_of (j:=n-1) (by omega) h
section
variable{P:Program}{w:World}{K:W.Frag}{mg:Str→Option Value}{base:Heap}{t:TX}
def Ba:Sp:=fun vs H Q _=>∃c r,vs=[.int c,vn r]∧r≤10000∧Q (.int (taxOf r c)) H
theorem sN(T:Txt K mg t):bE P w K mg t.b fG 1 (t.f 1) (t.fd 1) ["cents","rate"] (Ba):=by
 refine T.gO.ok A5 (fun vs H Q E h=>?_) (fun cdv A outer s0 H vs Q E hr h=>?_)
 ·obtain⟨c,r,rfl,_⟩:=h
  rfl
 ·obtain⟨c,r,rfl,hc,k⟩:=h
  refine⟨_,(ay (aC (aW Ck (aW iB (aW wW (pv 0) (pv 1)) (au rfl T.vO ri)) (au rfl T.Ig ri)))),?_⟩
  exact⟨_,rfl,_,rfl,_,_,rfl,rfl,.inr ⟨by omega,by omega⟩,_,_,rfl,rfl,_,_,rfl,rfl,⟨by decide,by decide⟩,k⟩
def fQ(s:State)(n:Nat):Int:=match member? s n with
 |none=>-5
 |some x=>if x.failed=true then-6 else 0
theorem E2{s:State}{n:Nat}{x:Member}(h:member? s n=some x):nZ s n=0:=D7 (aR.mp ⟨x,h⟩).2
theorem Aq{s:State}{n:Nat}(h0:0<n)(h:member? s n=none):nZ s n= -5:=D6 fun q=>by
 obtain⟨x,e⟩:=aR.mpr ⟨h0,q⟩
 rw[h]at e;cases e
def uS(t:TX):Sp:=fun vs H Q _=>∃Z p d s n,vs=[.ref p,vn n]∧aj t.c H Z p d s∧0<n∧Q (.int (fQ s n)) H
theorem bW(T:Txt K mg t):bE P w K mg t.b fG 2 (t.f 7) (t.fd 7) ["house","number"] (uS t):=by
 have bA:=cO (P:=P) (w:=w) T
 refine T.aS.ok lM (fun vs H Q E h=>?_) (fun cdv A outer s0 H vs Q E hr h=>?_)
 ·obtain⟨Z,p,d,s,n,rfl,_⟩:=h
  rfl
 ·obtain⟨Z,p,d,s,n,rfl,hh,h0,k⟩:=h
  refine⟨_,(ah (aE (i:=2) lM.nd rfl (Or.inl rfl) (aF bA (hr.mono (by decide)) rfl T.dm T.bf.kp (di T.bf) .nil aI (aa (pv 0) (aa (pv 1) ai)))) (ah (bZ (PW.pt (BX (aU j9 (pv 2) (au rfl T.aH ri) (bh _)) (yo (ja (ak (cz bL (ak (pv 0) rfl) (aW bP (pv 1) aG) (fun _ _=>rfl)) rfl))))) (ay (aC (au rfl T.A8 ri))) bw) (ay (aC (pv 2))))),?_⟩
  refine⟨_,rfl,_,rfl,Z,p,d,s,n,rfl,hh,_,rfl,rfl,_,rfl,?_⟩
  cases hm:member? s n with
  |none=>
   have e:fQ s n= -5:=by unfold fQ;rw[hm]
   rw[e]at k
   rw[Aq h0 hm]
   exact tD (by intro q;have:=bG q;omega) ⟨_,rfl,k⟩
  |some x=>
   rw[E2 hm]
   obtain⟨_,hx⟩:=jq hm
   obtain⟨a,dx,ha,hb⟩:=hh.addr hx
   refine uR rfl ⟨_,rfl,_,_,_,_,_,rfl,hh.ins,T.bS,T.aX,bq d s,_,rfl,_,_,rfl,rfl,d.ml,_,_,_,rfl,rfl,bD.of hh.ml,Tn h0 (v:=.ref a) (by rw[HD,ha];rfl),_,_,_,_,_,rfl,hb,T.kT,T.iu,mU x,_,rfl,?_⟩
   refine NW (fun q=>?_) (fun q=>?_)
   ·have e:fQ s n= -6:=by unfold fQ;rw[hm];exact D7 q
    rw[e]at k
    exact k
   ·have e:fQ s n=0:=by unfold fQ;rw[hm];exact D6 (by rw[q];exact aay)
    rw[e]at k
    exact⟨_,rfl,k⟩
def CM(s:State)(q:Nat):Int:=if isClosed s q=true then-7 else 0
theorem NX(l:List Nat)(n:Nat):(gI (gu l) (.inl (n:Int))).isSome=l.contains n:=by
 induction l with
 |nil=>rfl
 |cons a l ih=>
  show(gI ((Sum.inl (a:Int),V.bl true)::gu l) (.inl (n:Int))).isSome=_
  by_cases e:a=n
  ·rw[t_ (by rw[e]),e]
   simp
  ·rw[ua (fun q=>e (by have:=acv q;omega)),ih]
   have:(n==a)=false:=by simpa using fun q=>e q.symm
   rw[List.contains_cons,this,Bool.false_or]
def uT(t:TX):Sp:=fun vs H Q _=>∃Z p d s q,vs=[.ref p,vn q]∧aj t.c H Z p d s∧Q (.int (CM s q)) H
theorem gS(T:Txt K mg t):bE P w K mg t.b fG 1 (t.f 8) (t.fd 8) ["house","period"] (uT t):=by
 refine T.cg.ok uy (fun vs H Q E h=>?_) (fun cdv A outer s0 H vs Q E hr h=>?_)
 ·obtain⟨Z,p,d,s,q,rfl,_⟩:=h
  rfl
 ·obtain⟨Z,p,d,s,q,rfl,hh,k⟩:=h
  have hu:=yF hr
  refine⟨_,(ay (aC (iT (BV (Nc hu (pv 1) (ak (pv 0) rfl))) (au rfl T.A9 ri) (au rfl T.aH ri)))),?_⟩
  refine⟨_,rfl,_,rfl,_,_,_,_,_,rfl,hh.ins,T.bS,T.mW,vB d s,d.cd,_,rfl,oF.k (k:=Sum.inl (q:Int)) hh.cd,_,rfl,?_⟩
  rw[NX]
  refine NW (fun e=>?_) (fun e=>?_)
  ·have e2:CM s q= -7:=D7 e
   rw[e2]at k
   exact k
  ·have e2:CM s q=0:=D6 (by show ¬s.closed.contains q=true;rw[e];exact aay)
   rw[e2]at k
   exact k
def vP(s:State)(n q:Nat):Int:=if fQ s n=0 then CM s q else fQ s n
def xO(t:TX):Sp:=fun vs H Q _=>∃Z p d s n q,vs=[.ref p,vn n,vn q]∧aj t.c H Z p d s∧0<n∧Q (.int (vP s n q)) H
theorem n8(T:Txt K mg t):bE P w K mg t.b fG 3 (t.f 9) (t.fd 9) ["house","number","period"] (xO t):=by
 have bg:=bW (P:=P) (w:=w) T
 have ee:=gS (P:=P) (w:=w) T
 refine T.fu.ok nA (fun vs H Q E h=>?_) (fun cdv A outer s0 H vs Q E hr h=>?_)
 ·obtain⟨Z,p,d,s,n,q,rfl,_⟩:=h
  rfl
 ·obtain⟨Z,p,d,s,n,q,rfl,hh,h0,k⟩:=h
  refine⟨_,(ah (aE (i:=3) nA.nd rfl (Or.inl rfl) (aF bg (hr.mono (by decide)) rfl T.cu T.aS.kp (b_ T.aS) .nil aI (aa (pv 0) (aa (pv 1) ai)))) (ay (aC (iT (aU j_ (pv 3) (au rfl T.aH ri) (bh _)) (pv 3) (aF ee (hr.mono (by decide)) rfl T.iP T.cg.kp (iM T.cg) .nil aI (aa (pv 0) (aa (pv 2) ai))))))),?_⟩
  refine⟨_,rfl,_,rfl,Z,p,d,s,n,rfl,hh,h0,_,rfl,rfl,_,rfl,?_⟩
  by_cases e:fQ s n=0
  ·refine tF (by rw[e]) ⟨_,rfl,_,rfl,Z,p,d,s,q,rfl,hh,?_⟩
   have e2:vP s n q=CM s q:=D7 e
   rw[e2]at k
   exact k
  ·refine tE (fun z=>e (bG z)) ⟨_,rfl,?_⟩
   have e2:vP s n q=fQ s n:=D6 e
   rw[e2]at k
   exact k
end
structure Wf(s:State):Prop where
 inv:∀x∈s.invoices,0<x.m∧x.m≤s.members.length
 fO:s.members.length≤16
theorem ao.put{H H':Hp}{a:Addr}{o:HO}(h:ao H H')(ha:H a=none):ao H (upd H' a o):=fun b u e=>by rw[aq (aA e ha)];exact h b u e
theorem ixM{n m:Nat}(h:0<m∧m≤n):Oj n ((m:Int)-1)=some (m-1):=by
 unfold Oj
 rw[D7 (by omega),D7 (by omega)]
 congr 1
 omega
theorem get_map{α:Type}{f:α→V}{l:List α}{i:Nat}{y:V}(h:(l.map f)[i]?=some y):∃a,l[i]?=some a∧y=f a:=by
 rw[HD]at h
 cases e:l[i]? with
 |none=>rw[e]at h;cases h
 |some a=>rw[e]at h;exact⟨a,rfl,(aar h).symm⟩
theorem aj.xP{c:Cs}{H:Hp}{Z p:Addr}{d:AD}{s:State}(h:aj c H Z p d s){i:Nat}{a:Addr}(ha:d.is[i]?=some a):∃x dx,s.invoices[i]?=some x∧H a=some (.ins c.cI dx (NI.zip (xg x)))∧Im Z p d a:=by
 have hi:i<s.invoices.length:=by rw[←h.iD];exact(aao.mp ha).1
 obtain⟨⟨dx,e⟩,im⟩:=h.im.inv i a _ ha (D3 hi)
 exact⟨_,dx,D3 hi,e,im⟩
theorem aj.JW{c:Cs}{H:Hp}{Z p:Addr}{d:AD}{s:State}(h:aj c H Z p d s){i:Nat}{a:Addr}(ha:d.ms[i]?=some a):∃x dx,s.members[i]?=some x∧H a=some (.ins c.cM dx (NM.zip (dB x))):=by
 have hi:i<s.members.length:=by rw[←h.iC];exact(aao.mp ha).1
 obtain⟨dx,e⟩:=h.mem i a _ ha (D3 hi)
 exact⟨_,dx,D3 hi,e⟩
theorem lz{n:Nat}(h:Nat.ble n 1000=true):n≤sizeLine:=by rw[abx];have:=D5 h;omega
theorem jV(a b:List Int):aO a++aO b=aO (a++b):=aaz.symm
theorem bV{n:Nat}(h:n<16777216):n<sizeLine:=by rw[abx];exact h
theorem fH{n:Nat}(h:n≤16777216):n≤sizeLine:=by rw[abx];exact h
section
variable{P:Program}{w:World}{K:W.Frag}{mg:Str→Option Value}{base:Heap}{t:TX}
def rests(s:State):List Int:=pS s.members.length s.invoices
def vQ(t:TX):Sp:=fun vs H Q _=>∃Z p d s,vs=[.ref p]∧aj t.c H Z p d s∧Wf s∧∀H' l,ao H H'→H l=none→H' l=some (.lst (aO (rests s)))→Q (.ref l) H'
theorem mD(T:Txt K mg t):bE P w K mg t.b fG 1 (t.f 10) (t.fd 10) ["house"] (vQ t):=by
 refine T.eY.ok iJ (fun vs H Q E h=>?_) (fun cdv A outer s0 H vs Q E hr h=>?_)
 ·obtain⟨Z,p,d,s,rfl,_⟩:=h
  rfl
 ·obtain⟨Z,p,d,s,rfl,hh,wf,k⟩:=h
  refine⟨_,(ah (aE (i:=1) iJ.nd rfl (Or.inl rfl) (aW M9 (aK (aa aG ai)) (aQ a_ rfl T.gk aaK (aa (ak (pv 0) rfl) ai)))) (ah (lY abd rfl (fS (ak (pv 0) rfl)) (bC (i:=2) iJ.nd rfl (Or.inl rfl)) (ay (Ks (pv 1) (aW bP (ak (pv 2) rfl) aG) HK (ak (pv 2) rfl) MU set_list))) (ay (aC (pv 1))))),?_⟩
  refine⟨fH (by decide),fun l0 h0=>?_⟩
  have QM:=hh.mono (ao.new (o:=.lst [.int 0]) h0)
  refine⟨_,rfl,_,_,_,_,_,rfl,QM.ins,T.bS,T.aX,bq d s,_,_,rfl,.inl (bD.of QM.ml),l0,_,_,rfl,rfl,af,by omega,?_,?_,fun l hl=>?_⟩
  ·rw[DS,hh.iC];have:=wf.fO;omega
  ·rw[DS,hh.iC];exact fH (by have:=wf.fO;simp;omega)
  have sl:ao H (upd H l0 (.lst [.int 0])):=ao.new h0
  have XA:H l=none:=ao.free sl hl
  have sl2:ao H (upd (upd H l0 (.lst [.int 0])) l (.lst (List.replicate (((d.ms.map V.ref).length:Nat):Int).toNat [V.int 0]).flatten)):=ao.put sl XA
  have i9:=hh.mono sl2
  refine⟨_,rfl,_,_,_,_,_,rfl,i9.ins,T.bS,T.bK,cA d s,d.il,rfl,⟨_,bD.of i9.il⟩,tU (K:=K) (a:=d.il) (xs:=d.is.map V.ref) (fun i σ H'=>∃v,σ=[some (.ref p),some (.ref l),v]∧ao H H'∧H' l=some (.lst (aO (pS s.members.length (s.invoices.take i))))) ⟨none,rfl,sl2,?_⟩ (fun i σ H' _ ⟨_,_,sm,_⟩=>bD.of (sm _ _ hh.il)) ?_ ?_⟩
  ·rw[af,List.take_zero,Ja,DS,hh.iC]
   congr 2
   rw[aa_]
   induction s.members.length with
   |zero=>rfl
   |succ n ih=>rw[aa9,abB,ih,aa9];rfl
  ·rintro i y σ H' hi ⟨v,rfl,sm,hl'⟩
   obtain⟨a,ha,rfl⟩:=get_map hi
   obtain⟨x,dx,hx,hb,_⟩:=hh.xP ha
   have hm:=wf.inv x (aaB hx)
   have hb':=sm _ _ hb
   refine⟨_,rfl,_,rfl,_,_,_,_,_,rfl,hb',T.rV,T.bF,g_ x,_,_,rfl,rfl,l,_,_,V.int ((oJ (s.invoices.take i) x.m:Nat):Int),rfl,rfl,bD.of hl',Tn hm.1 ?_,_,rfl,_,_,_,_,_,rfl,hb',T.rV,T.mS,oW x,_,_,rfl,rfl,l,_,_,x.m-1,rfl,rfl,hl',?_,?_⟩
   ·rw[HD,mZ (by omega)]
    have e:x.m-1+1=x.m:=by omega
    rw[e]
    rfl
   ·rw[DS,kZ]
    exact ixM hm
   ·refine⟨_,rfl,ao.put sm XA,?_⟩
    rw[af,aa6 hx,←GS hm]
    exact congrArg (fun q=>some (HO.lst q)) List.map_set.symm
  ·rintro σ H' ⟨v,rfl,sm,hl'⟩
   refine⟨_,rfl,k H' l sm XA ?_⟩
   rw[DS,hh.iD,aaM]at hl'
   exact hl'
def xQ(t:TX):Sp:=fun vs H Q _=>∃Z p d s n,vs=[.ref p,vn n]∧aj t.c H Z p d s∧Wf s∧0<n∧n≤s.members.length∧∀H',ao H H'→Q (vn (restOf s n)) H'
theorem fY(T:Txt K mg t):bE P w K mg t.b fG 2 (t.f 11) (t.fd 11) ["house","number"] (xQ t):=by
 have jj:=mD (P:=P) (w:=w) T
 refine T.bU.ok xx (fun vs H Q E h=>?_) (fun cdv A outer s0 H vs Q E hr h=>?_)
 ·obtain⟨Z,p,d,s,n,rfl,_⟩:=h
  rfl
 ·obtain⟨Z,p,d,s,n,rfl,hh,wf,h0,hn,k⟩:=h
  refine⟨_,(ay (aC (cz bL (aF jj (hr.mono (by decide)) rfl T.nV T.eY.kp (nH T.eY) .nil aI (aa (pv 0) ai)) (aW bP (pv 1) aG) (fun _ _=>rfl)))),?_⟩
  refine⟨_,rfl,Z,p,d,s,rfl,hh,wf,fun H' l sm hl hl'=>?_⟩
  refine⟨_,rfl,_,_,rfl,rfl,l,_,_,vn (restOf s n),rfl,rfl,bD.of hl',Tn h0 ?_,k H' sm⟩
  unfold rests
  rw[HD,mZ (by omega)]
  have e:n-1+1=n:=by omega
  rw[e]
  rfl
def pL(t:TX):Sp:=fun vs H Q _=>∃Z p d s n,vs=[.ref p,vn n]∧aj t.c H Z p d s∧Wf s∧0<n∧n≤s.members.length∧∀H',ao H H'→Q (.int (need s n)) H'
theorem jW(T:Txt K mg t):bE P w K mg t.b fG 3 (t.f 12) (t.fd 12) ["house","number"] (pL t):=by
 have cZ:=fY (P:=P) (w:=w) T
 refine T.dG.ok oY (fun vs H Q E h=>?_) (fun cdv A outer s0 H vs Q E hr h=>?_)
 ·obtain⟨Z,p,d,s,n,rfl,_⟩:=h
  rfl
 ·obtain⟨Z,p,d,s,n,rfl,hh,wf,h0,hn,k⟩:=h
  obtain⟨x,hx⟩:=aR.mpr ⟨h0,hn⟩
  obtain⟨_,hx'⟩:=jq hx
  obtain⟨a,dx,ha,hb⟩:=hh.addr hx'
  refine⟨_,(ah (aE (i:=2) oY.nd rfl (Or.inl rfl) (cz bL (ak (pv 0) rfl) (aW bP (pv 1) aG) (fun _ _=>rfl))) (ay (aC (aQ (zS rfl) rfl T.NU JD (aa aG (aa (aW iB (ak (pv 2) rfl) (aW wW (au rfl T.dZ ri) (aW bP (aF cZ (hr.mono (by decide)) rfl T.gC T.bU.kp (gB T.bU) .nil aI (aa (pv 0) (aa (pv 1) ai))) (ak (pv 2) rfl)))) ai)))))),?_⟩
  refine⟨_,rfl,_,_,_,_,_,rfl,hh.ins,T.bS,T.aX,bq d s,_,rfl,_,_,rfl,rfl,d.ml,_,_,_,rfl,rfl,bD.of hh.ml,Tn h0 (v:=.ref a) (by rw[HD,ha];rfl),?_⟩
  refine⟨_,rfl,_,_,_,_,_,rfl,hb,T.kT,T.fR,jo x,_,rfl,_,rfl,Z,p,d,s,n,rfl,hh,wf,h0,hn,fun H' sm=>?_⟩
  have hb':=sm _ _ hb
  refine⟨_,rfl,_,_,_,_,_,rfl,hb',T.kT,T.ig,lg x,_,_,rfl,rfl,_,_,rfl,rfl,.inl ⟨by decide,by decide⟩,_,_,rfl,rfl,_,_,rfl,?_⟩
  have e:need s n=max 0 (x.unbilled+1000*((restOf s n:Int)-(x.pool:Int))):=by
   unfold need unbilledOf poolOf
   rw[hx]
   rfl
  have e2:(if x.unbilled+1000*((restOf s n:Int)-(x.pool:Int))>0 then x.unbilled+1000*((restOf s n:Int)-(x.pool:Int))else 0)=need s n:=by
   rw[e]
   split<;>omega
  rw[e2]
  exact k H' sm
def zc(t:TX):Sp:=fun vs H Q _=>∃Z p d s n,vs=[.ref p,vn n]∧aj t.c H Z p d s∧Wf s∧0<n∧n≤s.members.length∧∀H',ao H H'→Q (.int (lack s n)) H'
theorem zd(T:Txt K mg t):bE P w K mg t.b fG 4 (t.f 13) (t.fd 13) ["house","number"] (zc t):=by
 have fL:=jW (P:=P) (w:=w) T
 refine T.kM.ok oZ (fun vs H Q E h=>?_) (fun cdv A outer s0 H vs Q E hr h=>?_)
 ·obtain⟨Z,p,d,s,n,rfl,_⟩:=h
  rfl
 ·obtain⟨Z,p,d,s,n,rfl,hh,wf,h0,hn,k⟩:=h
  obtain⟨x,hx⟩:=aR.mpr ⟨h0,hn⟩
  obtain⟨_,hx'⟩:=jq hx
  obtain⟨a,dx,ha,hb⟩:=hh.addr hx'
  refine⟨_,(ah (aE (i:=2) oZ.nd rfl (Or.inl rfl) (B3 wX (aW Ck (B3 wX (aF fL (hr.mono (by decide)) rfl T.kQ T.dG.kp (kK T.dG) .nil aI (aa (pv 0) (aa (pv 1) ai)))) (au rfl T.dZ ri)))) (ay (aC (aQ (zS rfl) rfl T.NU JD (aa aG (aa (aW bP (pv 2) (ak (cz bL (ak (pv 0) rfl) (aW bP (pv 1) aG) (fun _ _=>rfl)) rfl)) ai)))))),?_⟩
  refine⟨_,rfl,_,rfl,Z,p,d,s,n,rfl,hh,wf,h0,hn,fun H' sm=>?_⟩
  have IF:=hh.mono sm
  have hb':=sm _ _ hb
  refine⟨_,rfl,_,_,rfl,rfl,⟨by decide,by decide⟩,_,rfl,_,rfl,_,rfl,_,_,_,_,_,rfl,IF.ins,T.bS,T.aX,bq d s,_,rfl,_,_,rfl,rfl,d.ml,_,_,_,rfl,rfl,bD.of IF.ml,Tn h0 (v:=.ref a) (by rw[HD,ha];rfl),_,_,_,_,_,rfl,hb',T.kT,T.bX,dM x,_,_,rfl,rfl,_,_,rfl,?_⟩
  have e:lack s n=max 0 ((need s n-1000*(x.collateral:Int)+999)/1000):=by
   unfold lack
   rw[hx]
   rfl
  have e2:(if-(-need s n/1000)-(x.collateral:Int)>0 then-(-need s n/1000)-(x.collateral:Int)else 0)=lack s n:=by
   rw[e]
   split<;>omega
  rw[e2]
  exact k H' sm
def n9:Sp:=fun vs H Q _=>∃z,vs=[.int z]∧Q (.bl (vK z)) H
theorem n_(T:Txt K mg t):bE P w K mg t.b fG 1 (t.f 15) (t.fd 15) ["units"] (n9):=by
 refine T.fB.ok xy (fun vs H Q E h=>?_) (fun cdv A outer s0 H vs Q E hr h=>?_)
 ·obtain⟨z,rfl,_⟩:=h
  rfl
 ·obtain⟨z,rfl,k⟩:=h
  refine⟨_,(ay (aC (T6 (rA tV (pv 0) (B3 wX (au rfl T.KR ri)) (bh _)) (Je (rA yr (pv 0) (au rfl T.KR ri) (bh _)))))),?_⟩
  refine⟨_,rfl,_,rfl,_,_,rfl,rfl,_,rfl,?_⟩
  by_cases h1:z< -1000000000000000000
  ·refine uR h1 ?_
   have e:vK z=true:=by unfold vK;rw[aa8 h1];rfl
   rw[e]at k
   exact k
  ·refine tD h1 ⟨_,rfl,_,_,rfl,rfl,?_⟩
   have e:vK z=decide (1000000000000000000<z):=by unfold vK;rw[aa7 h1];rfl
   rw[e]at k
   exact k
end
end MA
section
namespace L2
open PySem PySem.Spec PyProof.Rows
theorem xR{J:It}{g:TG}{tb:TS}{D:Ends}{σ:St}{H:Hp}(N:Nat)(Pv:Nat→St→Hp→Prop)(h0:Pv 0 σ H)(hgo:∀i σ H,i<N→Pv i σ H→J.go i H)(hst:∀σ H,Pv N σ H→J.stop N H)(hs:∀i σ H x H',i<N→Pv i σ H→J.MX i H x H'→g x σ H' fun σ2 H2=>tb {D with nx:=Pv (i+1),ct:=Pv (i+1),bk:=D.nx} σ2 H2)(hd:∀σ H,Pv N σ H→D.nx σ H):∃W:Nat→Nat→St→Hp→Prop,(∃m,W 0 m σ H)∧∀i m σ H,W i m σ H→(J.stop i H∧D.nx σ H)∨(J.go i H∧∃N:St→Hp→Prop,(∀σ' H',N σ' H'→∃m',m'<m∧W (i+1) m' σ' H')∧∀x H',J.MX i H x H'→g x σ H' fun σ2 H2=>tb {D with nx:=N,ct:=N,bk:=D.nx} σ2 H2):=by
 refine⟨fun i m σ H=>m=N-i∧i≤N∧Pv i σ H,⟨N,by simp,aa0 _,h0⟩,?_⟩
 rintro i m σ H ⟨rfl,hi,p⟩
 by_cases hlt:i<N
 ·exact .inr ⟨hgo i σ H hlt p,Pv (i+1),fun σ' H' p'=>⟨N-(i+1),by omega,rfl,hlt,p'⟩,fun x H' y=>hs i σ H x H' hlt p y⟩
 ·obtain rfl:i=N:=by omega
  exact .inl ⟨hst σ H p,hd σ H p⟩
theorem KU{J:It}{g:TG}{tt:TT}{te:TE}{vs:List Nat}{σ:St}{H1:Hp}{D:Addr}{Qd:Hp→Prop}(N:Nat)(Pv:Nat→Hp→Prop)(h0:Pv 0 (upd H1 D (.lst [])))(hgo:∀i H,i<N→Pv i H→J.go i H)(hst:∀H,Pv N H→J.stop N H)(hs:∀i H x H',i<N→Pv i H→J.MX i H x H'→g x (wipe σ vs) H' fun σ2 H2=>wipe σ2 vs=wipe σ vs∧tt σ2 H2 fun b H3=>if b=true then te σ2 H3 fun y H4=>∃acc,H4 D=some (.lst acc)∧acc.length<sizeLine∧Pv (i+1) (upd H4 D (.lst (acc++[y])))else Pv (i+1) H3)(hd:∀H,Pv N H→Qd H):∃W:Nat→Nat→Hp→Prop,(∃m,W 0 m (upd H1 D (.lst [])))∧∀i m H,W i m H→(J.stop i H∧Qd H)∨(J.go i H∧∃Nx:Hp→Prop,(∀H',Nx H'→∃m',m'<m∧W (i+1) m' H')∧∀x H',J.MX i H x H'→g x (wipe σ vs) H' fun σ2 H2=>wipe σ2 vs=wipe σ vs∧tt σ2 H2 fun b H3=>if b=true then te σ2 H3 fun y H4=>∃acc,H4 D=some (.lst acc)∧acc.length<sizeLine∧Nx (upd H4 D (.lst (acc++[y])))else Nx H3):=by
 refine⟨fun i m H=>m=N-i∧i≤N∧Pv i H,⟨N,by simp,aa0 _,h0⟩,?_⟩
 rintro i m H ⟨rfl,hi,p⟩
 by_cases hlt:i<N
 ·exact .inr ⟨hgo i H hlt p,Pv (i+1),fun H' p'=>⟨N-(i+1),by omega,rfl,hlt,p'⟩,fun x H' y=>hs i H x H' hlt p y⟩
 ·obtain rfl:i=N:=by omega
  exact .inl ⟨hst H p,hd H p⟩
end L2
namespace MA
open PySem PySem.Spec PyProof.Rows L2 Vbemal VI
theorem Ii{s:State}{i:Nat}(h:i<s.members.length):(rests s)[i]?=some ((oJ s.invoices (i+1):Nat):Int):=mZ h
section
variable{P:Program}{w:World}{K:W.Frag}{mg:Str→Option Value}{base:Heap}{t:TX}
def xS(t:TX):Sp:=fun vs H Q _=>∃Z p d s,vs=[.ref p]∧aj t.c H Z p d s∧Wf s∧∀H' l,ao H H'→H l=none→H' l=some (.lst (aO (m8 s)))→Q (.ref l) H'
theorem oh(T:Txt K mg t):bE P w K mg t.b fG 2 (t.f 14) (t.fd 14) ["house"] (xS t):=by
 have jj:=mD (P:=P) (w:=w) T
 refine T.fy.ok cK (fun vs H Q E h=>?_) (fun cdv A outer s0 H vs Q E hr h=>?_)
 ·obtain⟨Z,p,d,s,rfl,_⟩:=h
  rfl
 ·obtain⟨Z,p,d,s,rfl,hh,wf,k⟩:=h
  refine⟨_,(ah (aE (i:=1) cK.nd rfl (Or.inl rfl) (aK (aa (ak (pv 0) rfl) (aa (ak (pv 0) rfl) (aa (B3 wX (ak (pv 0) rfl)) (aa (ak (pv 0) rfl) ai)))))) (ah (aE (i:=2) cK.nd rfl (Or.inl rfl) (aK (aa (ak (pv 0) rfl) (aa (ak (pv 0) rfl) ai)))) (ah (lY abd rfl (FL rfl T.Ih (aa (ak (pv 0) rfl) (aa (aF jj (hr.mono (by decide)) rfl T.nV T.eY.kp (nH T.eY) .nil aI (aa (pv 0) ai)) ai))) (tT (n:=2) rfl (b9 (bC (i:=3) cK.nd rfl (Or.inl rfl)) (b9 (bC (i:=4) cK.nd rfl (Or.inl rfl)) jw))) (ah (eE (su aaT ab9 ab_ vt (pv 1) (aa (aK (aa (aW bP (pv 4) (ak (pv 3) rfl)) (aa (B3 wX (ak (pv 3) rfl)) (aa (B3 wX (ak (pv 3) rfl)) ai)))) ai))) (ay (eE (su aaT abf abg jm (pv 2) (aa (ak (pv 3) rfl) ai)))))) (ay (aC (aW l7 (pv 2) (v_ rfl cK.nd (fS (pv 1)) (eO (own:=[("cents",5)]) (by show t9 ["house","in_cents","in_units","member","rests","cents"] (az gz) _ _=true;decide+kernel)) (fun _ _ _ _ _=>(bC (i:=5) cK.nd rfl (Or.inl rfl))) (fun _ _ _ _ _=>jz) (fun _ _ _ _ _=>(aW wW (au rfl T.dZ ri) (pv 5)))))))))),?_⟩
  refine⟨_,rfl,_,_,_,_,_,rfl,hh.ins,T.bS,T.qM,yH d s,_,rfl,_,_,_,_,_,rfl,hh.ins,T.bS,T.gE,jB d s,_,rfl,_,_,_,_,_,rfl,hh.ins,T.bS,T.dP,gq d s,_,rfl,_,rfl,_,_,_,_,_,rfl,hh.ins,T.bS,T.rX,yI d s,lz rfl,fun lc XC=>?_⟩
  have s1:ao H (upd H lc (.lst [.int s.taxes,.int s.cash,.int (-(s.house:Int)),vn s.loss])):=ao.new XC
  have i9:=hh.mono s1
  refine⟨_,rfl,_,_,_,_,_,rfl,i9.ins,T.bS,T.mV,vA d s,_,rfl,_,_,_,_,_,rfl,i9.ins,T.bS,T.jt,oV d s,lz rfl,fun lu Zt=>?_⟩
  have U7:H lu=none:=ao.free s1 Zt
  have We:lc≠lu:=aA af Zt
  have s2:ao H (upd (upd H lc (.lst [.int s.taxes,.int s.cash,.int (-(s.house:Int)),vn s.loss])) lu (.lst [.int s.market,.int s.rounding])):=ao.put s1 U7
  have Ds:=hh.mono s2
  refine⟨_,rfl,_,_,_,_,_,rfl,Ds.ins,T.bS,T.aX,bq d s,_,rfl,Z,p,d,s,rfl,Ds,wf,fun H3 rl s3 hrl U8=>?_⟩
  have NY:ao H H3:=s2.trans s3
  have XD:H3 lc=some (.lst (aO (fK s 0))):=s3 _ _ (by rw[aq We,af];rfl)
  have XE:H3 lu=some (.lst (aO (gH s 0))):=s3 _ _ (by rw[af];rfl)
  have aag:H rl=none:=ao.free s2 hrl
  have nrc:rl≠lc:=fun e=>by rw[e,aq We,af]at hrl;cases hrl
  have nru:rl≠lu:=fun e=>by rw[e,af]at hrl;cases hrl
  refine⟨d.ml,rl,_,_,rfl,bD.of (s3 _ _ Ds.ml),bD.of U8,xR (J:=Tg K d.ml rl) s.members.length (fun i σ H'=>∃v1 v2,σ=[some (.ref p),some (.ref lc),some (.ref lu),v1,v2,none]∧ao H H'∧H' lc=some (.lst (aO (fK s i)))∧H' lu=some (.lst (aO (gH s i)))∧H' rl=some (.lst (aO (rests s)))) ⟨none,none,rfl,NY,XD,XE,U8⟩ ?_ ?_ ?_ ?_⟩
  ·rintro i σ H' hi ⟨v1,v2,rfl,sm,h1,h2,h3⟩
   obtain⟨a,dx,ha,_⟩:=hh.addr (D3 hi)
   exact⟨_,_,.ref a,_,bD.of (sm _ _ hh.ml),bD.of h3,by rw[HD,ha];rfl,by rw[HD,Ii hi];rfl⟩
  ·rintro σ H' ⟨v1,v2,rfl,sm,h1,h2,h3⟩
   exact⟨_,_,bD.of (sm _ _ hh.ml),bD.of h3,.inl (by rw[DS,hh.iC];exact D9 _)⟩
  ·rintro i σ H' x dw hi ⟨v1,v2,rfl,sm,h1,h2,h3⟩ ⟨Tt,u,v,rfl,hT,rfl,hu1,hv1⟩
   obtain⟨a,dx,ha,hb⟩:=hh.addr (D3 hi)
   have eu:u=.ref a:=by
    have:=hu1 _ (bD.of (sm _ _ hh.ml))
    rw[HD,ha]at this
    exact(aar this).symm
   have ev:v=.int ((oJ s.invoices (i+1):Nat):Int):=by
    have:=hv1 _ (bD.of h3)
    rw[HD,Ii hi]at this
    exact(aar this).symm
   subst eu ev
   have sT:ao H' (upd H' Tt (.tup [.ref a,.int ((oJ s.invoices (i+1):Nat):Int)])):=ao.new hT
   have XF:ao H (upd H' Tt (.tup [.ref a,.int ((oJ s.invoices (i+1):Nat):Int)])):=sm.trans sT
   have Ar:=XF _ _ hb
   refine⟨Tt,_,rfl,i6.of af,rfl,_,_,rfl,_,_,rfl,rfl,?_⟩
   have XG:=sT _ _ h1
   have Zu:=sT _ _ h2
   have Zv:=sT _ _ h3
   refine⟨_,rfl,.inl ⟨rfl,_,bD.of XG⟩,_,rfl,_,rfl,_,_,_,_,_,rfl,Ar,T.kT,T.ig,lg s.members[i],_,_,rfl,rfl,_,rfl,_,_,_,_,_,rfl,Ar,T.kT,T.bX,dM s.members[i],_,rfl,_,rfl,_,_,_,_,_,rfl,Ar,T.kT,T.cJ,dN s.members[i],_,rfl,lz rfl,fun lx hlx=>?_⟩
   have sX:=ao.new (o:=.lst [.int (((oJ s.invoices (i+1):Nat):Int)-(s.members[i].pool:Int)),.int (-(s.members[i].collateral:Int)),.int (-(s.members[i].fund:Int))]) hlx
   have hcX:=sX _ _ XG
   have U9:=wf.fO
   have hacc:=Fx s i (acC hi)
   have nxc:lc≠lx:=aA XG hlx
   have nxu:lu≠lx:=aA Zu hlx
   have nxr:rl≠lx:=aA Zv hlx
   refine⟨lc,lx,_,_,rfl,rfl,hcX,af,?_,?_⟩
   ·rw[DS,hacc.1];exact fH (by simp;omega)
   ·have Zw:upd (upd (upd H' Tt (.tup [.ref a,.int ((oJ s.invoices (i+1):Nat):Int)])) lx (.lst [.int (((oJ s.invoices (i+1):Nat):Int)-(s.members[i].pool:Int)),.int (-(s.members[i].collateral:Int)),.int (-(s.members[i].fund:Int))])) lc (.lst (aO (fK s i)++[.int (((oJ s.invoices (i+1):Nat):Int)-(s.members[i].pool:Int)),.int (-(s.members[i].collateral:Int)),.int (-(s.members[i].fund:Int))])) lu=some (.lst (aO (gH s i))):=by
     rw[aq We.symm];exact sX _ _ Zu
    refine⟨_,rfl,.inl ⟨rfl,_,bD.of Zw⟩,_,rfl,_,_,_,_,_,rfl,ao.put (XF.trans sX) XC _ _ hb,T.kT,T.fR,jo s.members[i],lu,_,_,rfl,rfl,Zw,?_,?_⟩
    ·rw[DS,hacc.2];exact bV (by omega)
    ·refine⟨_,_,rfl,ao.put (ao.put (XF.trans sX) XC) U7,?_,?_,?_⟩
     ·rw[aq We,af,tN (D3 hi)]
      exact congrArg (fun q=>some (HO.lst q)) (jV (fK s i) [_,_,_])
     ·rw[af,tO (D3 hi)]
      exact congrArg (fun q=>some (HO.lst q)) (jV (gH s i) [_])
     ·rw[aq nru,aq nrc];exact sX _ _ Zv
  ·rintro σ H' ⟨v1,v2,rfl,sm,h1,h2,h3⟩
   have U9:=wf.fO
   have hacc:=Fx s s.members.length (D9 _)
   refine⟨_,rfl,_,rfl,lc,rfl,⟨_,bD.of h1⟩,fun D hD=>k_ (K:=K) (a:=lc) (xs:=aO (fK s s.members.length)) (fun i dw=>ao H' (upd dw D (.lst []))∧dw D=some (.lst (aO (((fK s s.members.length).take i).map fun c=>1000*c)))∧∀b o,H' b=some o→dw b=some o) ⟨?_,?_,?_⟩ ?_ ?_ ?_⟩
   ·rw[bH];exact ao.new hD
   ·exact af
   ·exact ao.new hD
   ·rintro i dw _ ⟨_,_,q⟩
    exact bD.of (q _ _ h1)
   ·rintro i x dw hx ⟨q1,q2,q3⟩
    obtain⟨z,hz,rfl⟩:=get_map hx
    refine⟨rfl,_,rfl,_,_,rfl,rfl,.inl ⟨by decide,by decide⟩,_,q2,?_,?_,?_,?_⟩
    ·rw[DS,DS,aaH];exact bV (by omega)
    ·rw[bH];exact q1
    ·rw[af,aa6 hz]
     rw[aaz]
     exact congrArg (fun q=>some (HO.lst q)) (jV _ [_])
    ·exact fun b o e=>by rw[aq (aA e hD)];exact q3 b o e
   ·rintro dw ⟨q1,q2,q3⟩
    have Wg:H D=none:=ao.free sm hD
    rw[DS,aaM]at q2
    refine⟨lu,D,_,_,rfl,rfl,q3 _ _ h2,q2,?_,fun l hl=>?_⟩
    ·rw[DS,DS,DS,hacc.1,hacc.2];exact fH (by omega)
    ·have q4:ao H dw:=fun b o e=>q3 b o (sm b o e)
     refine k _ l (ao.put q4 (ao.free q4 hl)) (ao.free q4 hl) ?_
     rw[af]
     exact congrArg (fun q=>some (HO.lst q)) (jV _ _)
end
end MA
end
namespace MA
open PySem PySem.Spec PyProof.Rows L2 Vbemal VI
theorem JX(s:State):(m8 s).any vK=beyond s:=by
 cases h:beyond s with
 |false=>exact(Ez s).mpr ((mX s).mp h)
 |true=>
  cases h2:(m8 s).any vK with
  |true=>rfl
  |false=>
   rw[(mX s).mpr ((Ez s).mp h2)]at h
   cases h
theorem As{K:W.Frag}{f:Str}{N:List Str}{vs:List V}{D:Ends}{σ:L2.St}{H:Hp}{p C dx:Addr}{v:V}{tv:TE}(hv:∀Q:VK,Q v H→tv σ H Q)(h0:σ[0]?=some (some (.ref p)))(hp:H p=some (.ins C dx (N.zip vs)))(cl:Br K C)(na:bx K C f)(nd:N.Nodup)(hf:N[vs.length]?=some f)(h1:N.length<1000)(k:D.nx σ (upd H p (.ins C dx (N.zip (vs++[v]))))):M6 K (j7 0) tv f D σ H:=
 hv _ ⟨.ref p,h0,p,C,dx,_,rfl,hp,cl,na,aaL (g9 N vs) h1,by rw[rD v nd hf];exact k⟩
theorem bQ{K:W.Frag}{f:Str}{N:List Str}{vs:List V}{D:Ends}{u:TS}{σ:L2.St}{H:Hp}{p C dx:Addr}{v:V}{tv:TE}(hv:∀Q:VK,Q v H→tv σ H Q)(h0:σ[0]?=some (some (.ref p)))(hp:H p=some (.ins C dx (N.zip vs)))(cl:Br K C)(na:bx K C f)(nd:N.Nodup)(hf:N[vs.length]?=some f)(h1:N.length<1000)(k:u D σ (upd H p (.ins C dx (N.zip (vs++[v]))))):BZ (M6 K (j7 0) tv f) u D σ H:=
 As (D:={D with nx:=u D}) hv h0 hp cl na nd hf h1 k
theorem R6{K:W.Frag}{f:Str}{N:List Str}{vs:List V}{i:Nat}{D:Ends}{σ:L2.St}{H:Hp}{a x C C2 da dx:Addr}{v:V}{fs:List (Str×V)}(h0:σ[0]?=some (some (.ref a)))(h1:σ[1]?=some (some (.ref x)))(ha:H a=some (.ins C da fs))(hx:H x=some (.ins C2 dx (N.zip vs)))(cl:Br K C)(na:bx K C f)(l:fs.lookup f=some v)(XH:Br K C2)(na2:bx K C2 f)(nd:N.Nodup)(hf:N[i]?=some f)(hi:i<vs.length)(hN:N.length<1000)(k:D.nx σ (upd H x (.ins C2 dx (N.zip (vs.set i v))))):M6 K (j7 1) (DA K (j7 0) f) f D σ H:=
 ⟨_,h0,a,C,da,fs,v,rfl,ha,cl,na,l,_,h1,x,C2,dx,_,rfl,hx,XH,na2,aaL (g9 N vs) hN,by rw[cV v nd hf hi];exact k⟩
theorem fZ{K:W.Frag}{f:Str}{N:List Str}{vs:List V}{i:Nat}{D:Ends}{u:TS}{σ:L2.St}{H:Hp}{a x C C2 da dx:Addr}{v:V}{fs:List (Str×V)}(h0:σ[0]?=some (some (.ref a)))(h1:σ[1]?=some (some (.ref x)))(ha:H a=some (.ins C da fs))(hx:H x=some (.ins C2 dx (N.zip vs)))(cl:Br K C)(na:bx K C f)(l:fs.lookup f=some v)(XH:Br K C2)(na2:bx K C2 f)(nd:N.Nodup)(hf:N[i]?=some f)(hi:i<vs.length)(hN:N.length<1000)(k:u D σ (upd H x (.ins C2 dx (N.zip (vs.set i v))))):BZ (M6 K (j7 1) (DA K (j7 0) f) f) u D σ H:=R6 (D:={D with nx:=u D}) h0 h1 ha hx cl na l XH na2 nd hf hi hN k
section
variable{P:Program}{w:World}{K:W.Frag}{mg:Str→Option Value}{base:Heap}{t:TX}
def jX(t:TX):Sp:=fun vs H Q _=>∃Z p d s l Mx,vs=[.ref p,.ref l]∧aj t.c H Z p d s∧Wf s∧H l=some (.lst (aO Mx))∧
 (∀H',ao H H'→(beyond s=false→Q (.ref l) H')∧(beyond s=true→∀l',H l'=none→H' l'=some (.lst (aO [-8]))→Q (.ref l') H'))
theorem bY(T:Txt K mg t):bE P w K mg t.b fG 3 (t.f 16) (t.fd 16) ["house","answer"] (jX t):=by
 have jY:=n_ (P:=P) (w:=w) T
 have jZ:=oh (P:=P) (w:=w) T
 refine T.aT.ok fV (fun vs H Q E h=>?_) (fun cdv A outer s0 H vs Q E hr h=>?_)
 ·obtain⟨Z,p,d,s,l,Mx,rfl,_⟩:=h
  rfl
 ·obtain⟨Z,p,d,s,l,Mx,rfl,hh,wf,hl,k⟩:=h
  refine⟨_,(ah (bZ (ja (aQ (Jr rfl) rfl T.NT JC (aa (v_ rfl fV.nd (fS (aF jZ (hr.mono (by decide)) rfl T.pF T.fy.kp (o_ T.fy) .nil aI (aa (pv 0) ai))) (eO (own:=[("units",2)]) (by show t9 ["house","answer","units"] (az e_) _ _=true;decide+kernel)) (fun _ _ _ _ _=>(bC (i:=2) fV.nd rfl (Or.inl rfl))) (fun _ _ _ _ _=>jz) (fun _ _ _ _ _=>(aF jY (hr.mono (by decide)) rfl T.pG T.fB.kp (pq T.fB) .nil aI (aa (pv 2) ai)))) ai))) (ay (aC (aK (aa (au rfl T.uP ri) ai)))) bw) (ay (aC (pv 1)))),?_⟩
  have U9:=wf.fO
  have hacc:=Fx s s.members.length (D9 _)
  have hlen:(m8 s).length≤100:=by unfold m8;rw[aat,DS,hacc.1,hacc.2];omega
  refine⟨_,rfl,Z,p,d,s,rfl,hh,wf,fun H1 la s1 hla U_=>⟨la,rfl,⟨_,bD.of U_⟩,fun D hD=>k_ (K:=K) (a:=la) (xs:=aO (m8 s)) (fun i dw=>dw D=some (.lst (((m8 s).take i).map fun z=>V.bl (vK z)))∧ao H1 dw) ⟨af,ao.new hD⟩ ?_ ?_ ?_⟩⟩
  ·rintro i dw _ ⟨_,q⟩
   exact bD.of (q _ _ U_)
  ·rintro i x dw hx ⟨q2,q3⟩
   obtain⟨z,hz,rfl⟩:=get_map hx
   refine⟨rfl,_,rfl,z,rfl,_,q2,?_,?_,ao.put q3 hD⟩
   ·rw[DS,aaH];exact bV (by omega)
   ·rw[af,aa6 hz,aaz]
    rfl
  ·rintro dw ⟨q2,q3⟩
   rw[DS,aaM]at q2
   have s2:ao H dw:=s1.trans q3
   refine⟨D,(m8 s).map vK,rfl,bD.of (by rw[q2,abe];rfl),_,rfl,?_⟩
   have e:((m8 s).map vK).any id=beyond s:=by
    rw[←JX,acE]
    rfl
   rw[e]
   refine NW (fun q=>?_) (fun q=>?_)
   ·refine⟨lz rfl,fun l' hl'=>?_⟩
    exact(k _ (ao.put s2 (ao.free s2 hl'))).2 q l' (ao.free s2 hl') af
   ·exact⟨_,rfl,(k _ s2).1 q⟩
def CN(t:TX):Sp:=fun vs H Q _=>∃p dx,vs=[.ref p]∧H p=some (.ins t.c.cM dx [])∧Q .lJ (upd H p (.ins t.c.cM dx (NM.zip (dB {}))))
theorem uU(T:Txt K mg t):bE P w K mg t.b fG 1 (t.f 17) (t.fd 17) ["self"] (CN t):=by
 refine T.qf.ok Cp (fun vs H Q E h=>?_) (fun cdv A outer s0 H vs Q E hr h=>?_)
 ·obtain⟨p,dx,rfl,_⟩:=h
  rfl
 ·obtain⟨p,dx,rfl,hp,k⟩:=h
  refine⟨_,(ah (aP (pv 0) aG rfl) (ah (aP (pv 0) aG rfl) (ah (aP (pv 0) aG rfl) (ah (aP (pv 0) aG rfl) (ay (aP (pv 0) Hf rfl)))))),?_⟩
  refine bQ (N:=NM) (vs:=[]) (v:=.int 0) (fun _ q=>q) rfl hp T.kT T.fR jn rfl (by decide) ?_
  refine bQ (N:=NM) (v:=.int 0) (fun _ q=>q) rfl af T.kT T.ig jn rfl (by decide) ?_
  refine bQ (N:=NM) (v:=.int 0) (fun _ q=>q) rfl af T.kT T.bX jn rfl (by decide) ?_
  refine bQ (N:=NM) (v:=.int 0) (fun _ q=>q) rfl af T.kT T.cJ jn rfl (by decide) ?_
  refine As (N:=NM) (v:=.bl false) (fun _ q=>q) rfl af T.kT T.iu jn rfl (by decide) ?_
  simp only[bH]
  exact k
def CO(t:TX):Sp:=fun vs H Q _=>∃a m,vs=[.ref a]∧sE t.c H a m∧∀H' x,ao H H'→H x=none→sE t.c H' x m→Q (.ref x) H'
theorem CP(T:Txt K mg t):bE P w K mg t.b fG 3 (t.f 18) (t.fd 18) ["self"] (CO t):=by
 have qv:=uU (P:=P) (w:=w) T
 refine T.wz.ok uz (fun vs H Q E h=>?_) (fun cdv A outer s0 H vs Q E hr h=>?_)
 ·obtain⟨a,m,rfl,_⟩:=h
  rfl
 ·obtain⟨a,m,rfl,⟨da,ha⟩,k⟩:=h
  refine⟨_,(ah (aE (i:=1) uz.nd rfl (Or.inl rfl) (yt T.Ie qv (hr.mono (by decide)) rfl T.Ic (wm T.qf) .nil aI)) (ah (aP (pv 1) (ak (pv 0) rfl) rfl) (ah (aP (pv 1) (ak (pv 0) rfl) rfl) (ah (aP (pv 1) (ak (pv 0) rfl) rfl) (ah (aP (pv 1) (ak (pv 0) rfl) rfl) (ah (aP (pv 1) (ak (pv 0) rfl) rfl) (ay (aC (pv 1))))))))),?_⟩
  intro x dx hx hdx ne
  refine⟨x,dx,rfl,af,rfl,?_⟩
  rw[bH]
  have sm:ao H (zK H dx x t.c.cM (NM.zip (dB {}))):=ao.mk hx hdx
  have nax:a≠x:=aA ha hx
  have put:∀fs,ao H (upd (upd H dx (.own x)) x (.ins t.c.cM dx fs)):=fun fs=>ao.mk hx hdx
  refine fZ (N:=NM) (i:=0) rfl rfl (put _ _ _ ha) af T.kT T.fR (jo m) T.kT T.fR jn rfl (D5 rfl) (by decide) ?_
  rw[bH]
  refine fZ (N:=NM) (i:=1) rfl rfl (put _ _ _ ha) af T.kT T.ig (lg m) T.kT T.ig jn rfl (D5 rfl) (by decide) ?_
  rw[bH]
  refine fZ (N:=NM) (i:=2) rfl rfl (put _ _ _ ha) af T.kT T.bX (dM m) T.kT T.bX jn rfl (D5 rfl) (by decide) ?_
  rw[bH]
  refine fZ (N:=NM) (i:=3) rfl rfl (put _ _ _ ha) af T.kT T.cJ (dN m) T.kT T.cJ jn rfl (D5 rfl) (by decide) ?_
  rw[bH]
  refine fZ (N:=NM) (i:=4) rfl rfl (put _ _ _ ha) af T.kT T.iu (mU m) T.kT T.iu jn rfl (D5 rfl) (by decide) ?_
  rw[bH]
  exact⟨_,rfl,k _ x (put _) hx ⟨dx,af⟩⟩
def Gn(t:TX):Sp:=fun vs H Q _=>∃p dx e,vs=.ref p::f_ e∧H p=some (.ins t.c.cP dx [])∧Q .lJ (upd H p (.ins t.c.cP dx (NP.zip (f_ e))))
theorem rY(T:Txt K mg t):bE P w K mg t.b fG 1 (t.f 19) (t.fd 19) ["self","total","seen","billed","tax_billed"] (Gn t):=by
 refine T.pC.ok FZ (fun vs H Q E h=>?_) (fun cdv A outer s0 H vs Q E hr h=>?_)
 ·obtain⟨p,dx,e,rfl,_⟩:=h
  rfl
 ·obtain⟨p,dx,e,rfl,hp,k⟩:=h
  refine⟨_,(ah (aP (pv 0) (pv 1) rfl) (ah (aP (pv 0) (pv 2) rfl) (ah (aP (pv 0) (pv 3) rfl) (ay (aP (pv 0) (pv 4) rfl))))),?_⟩
  refine bQ (N:=NP) (vs:=[]) (fun _ q=>⟨_,rfl,q⟩) rfl hp T.xM T.gQ AM rfl (by decide) ?_
  refine bQ (N:=NP) (fun _ q=>⟨_,rfl,q⟩) rfl af T.xM T.yX AM rfl (by decide) ?_
  refine bQ (N:=NP) (fun _ q=>⟨_,rfl,q⟩) rfl af T.xM T.qL AM rfl (by decide) ?_
  refine As (N:=NP) (fun _ q=>⟨_,rfl,q⟩) rfl af T.xM T.gr AM rfl (by decide) ?_
  simp only[bH]
  exact k
def pM(t:TX):Sp:=fun vs H Q _=>∃a e z,vs=[.ref a,.int z]∧kr t.c H a e∧∀x dx,H x=none→H dx=none→dx≠x→Q (.ref x) (zK H dx x t.c.cP (NP.zip (f_ {e with total:=e.total+z})))
theorem ze(T:Txt K mg t):bE P w K mg t.b fG 3 (t.f 20) (t.fd 20) ["self","amount"] (pM t):=by
 have lT:=rY (P:=P) (w:=w) T
 refine T.qI.ok yN (fun vs H Q E h=>?_) (fun cdv A outer s0 H vs Q E hr h=>?_)
 ·obtain⟨a,e,z,rfl,_⟩:=h
  rfl
 ·obtain⟨a,e,z,rfl,⟨da,ha⟩,k⟩:=h
  refine⟨_,(ay (aC (oQ T.JU lT (hr.mono (by decide)) rfl T.JT (uD T.pC) .nil aI (aa (aW iB (ak (pv 0) rfl) (pv 1)) (aa (ak (pv 0) rfl) (aa (ak (pv 0) rfl) (aa (ak (pv 0) rfl) ai))))))),?_⟩
  refine⟨_,rfl,_,_,_,_,_,rfl,ha,T.xM,T.gQ,iV e,_,rfl,_,_,rfl,rfl,_,rfl,_,_,_,_,_,rfl,ha,T.xM,T.yX,BB e,_,rfl,_,_,_,_,_,rfl,ha,T.xM,T.qL,vC e,_,rfl,_,_,_,_,_,rfl,ha,T.xM,T.gr,iW e,?_⟩
  intro x dx hx hdx ne
  refine⟨x,dx,{e with total:=e.total+z},rfl,af,rfl,?_⟩
  rw[bH]
  exact k x dx hx hdx ne
def zf(t:TX):Sp:=fun vs H Q _=>∃a e c z,vs=[.ref a,.int c,.int z]∧kr t.c H a e∧∀x dx,H x=none→H dx=none→dx≠x→Q (.ref x) (zK H dx x t.c.cP (NP.zip (f_ {e with seen:=e.total,cents:=e.cents+c,tax:=e.tax+z})))
theorem zg(T:Txt K mg t):bE P w K mg t.b fG 3 (t.f 21) (t.fd 21) ["self","cents","tax"] (zf t):=by
 have lT:=rY (P:=P) (w:=w) T
 refine T.qJ.ok yO (fun vs H Q E h=>?_) (fun cdv A outer s0 H vs Q E hr h=>?_)
 ·obtain⟨a,e,c,z,rfl,_⟩:=h
  rfl
 ·obtain⟨a,e,c,z,rfl,⟨da,ha⟩,k⟩:=h
  refine⟨_,(ay (aC (oQ T.JU lT (hr.mono (by decide)) rfl T.JT (uD T.pC) .nil aI (aa (ak (pv 0) rfl) (aa (ak (pv 0) rfl) (aa (aW iB (ak (pv 0) rfl) (pv 1)) (aa (aW iB (ak (pv 0) rfl) (pv 2)) ai))))))),?_⟩
  refine⟨_,rfl,_,_,_,_,_,rfl,ha,T.xM,T.gQ,iV e,_,rfl,_,_,_,_,_,rfl,ha,T.xM,T.gQ,iV e,_,rfl,_,_,_,_,_,rfl,ha,T.xM,T.qL,vC e,_,rfl,_,_,rfl,rfl,_,rfl,_,_,_,_,_,rfl,ha,T.xM,T.gr,iW e,_,rfl,_,_,rfl,rfl,?_⟩
  intro x dx hx hdx ne
  refine⟨x,dx,{e with seen:=e.total,cents:=e.cents+c,tax:=e.tax+z},rfl,af,rfl,?_⟩
  rw[bH]
  exact k x dx hx hdx ne
def vR(t:TX):Sp:=fun vs H Q _=>∃a e,vs=[.ref a]∧kr t.c H a e∧Q (.bl (e.total==e.seen)) H
theorem mE(T:Txt K mg t):bE P w K mg t.b fG 1 (t.f 22) (t.fd 22) ["self"] (vR t):=by
 refine T.jf.ok vN (fun vs H Q E h=>?_) (fun cdv A outer s0 H vs Q E hr h=>?_)
 ·obtain⟨a,e,rfl,_⟩:=h
  rfl
 ·obtain⟨a,e,rfl,⟨da,ha⟩,k⟩:=h
  refine⟨_,(ay (aC (rA j9 (ak (pv 0) rfl) (ak (pv 0) rfl) (bh _)))),?_⟩
  refine⟨_,rfl,_,_,_,_,_,rfl,ha,T.xM,T.gQ,iV e,_,rfl,_,_,_,_,_,rfl,ha,T.xM,T.yX,BB e,rfl,?_⟩
  rw[yq]
  exact k
def Bb(t:TX):Sp:=fun vs H Q _=>∃p dx y,vs=.ref p::xg y∧H p=some (.ins t.c.cI dx [])∧Q .lJ (upd H p (.ins t.c.cI dx (NI.zip (xg y))))
theorem sO(T:Txt K mg t):bE P w K mg t.b fG 1 (t.f 23) (t.fd 23) ["self","number_of_member","period","cents","tax","due_day","rest"] (Bb t):=by
 refine T.nJ.ok A6 (fun vs H Q E h=>?_) (fun cdv A outer s0 H vs Q E hr h=>?_)
 ·obtain⟨p,dx,e,rfl,_⟩:=h
  rfl
 ·obtain⟨p,dx,e,rfl,hp,k⟩:=h
  refine⟨_,(ah (aP (pv 0) (pv 1) rfl) (ah (aP (pv 0) (pv 2) rfl) (ah (aP (pv 0) (pv 3) rfl) (ah (aP (pv 0) (pv 4) rfl) (ah (aP (pv 0) (pv 5) rfl) (ay (aP (pv 0) (pv 6) rfl))))))),?_⟩
  refine bQ (N:=NI) (vs:=[]) (fun _ q=>⟨_,rfl,q⟩) rfl hp T.rV T.bF sD rfl (by decide) ?_
  refine bQ (N:=NI) (fun _ q=>⟨_,rfl,q⟩) rfl af T.rV T.Al sD rfl (by decide) ?_
  refine bQ (N:=NI) (fun _ q=>⟨_,rfl,q⟩) rfl af T.rV T.yY sD rfl (by decide) ?_
  refine bQ (N:=NI) (fun _ q=>⟨_,rfl,q⟩) rfl af T.rV T.Ge sD rfl (by decide) ?_
  refine bQ (N:=NI) (fun _ q=>⟨_,rfl,q⟩) rfl af T.rV T.nX sD rfl (by decide) ?_
  refine As (N:=NI) (fun _ q=>⟨_,rfl,q⟩) rfl af T.rV T.mS sD rfl (by decide) ?_
  simp only[bH]
  exact k
def uV(t:TX):Sp:=fun vs H Q _=>∃a y r,vs=[.ref a,vn r]∧oU t.c H a y∧∀x dx,H x=none→H dx=none→dx≠x→Q (.ref x) (zK H dx x t.c.cI (NI.zip (xg {y with rest:=r})))
theorem lU(T:Txt K mg t):bE P w K mg t.b fG 3 (t.f 24) (t.fd 24) ["self","rest"] (uV t):=by
 have oi:=sO (P:=P) (w:=w) T
 refine T.iO.ok uA (fun vs H Q E h=>?_) (fun cdv A outer s0 H vs Q E hr h=>?_)
 ·obtain⟨a,y,r,rfl,_⟩:=h
  rfl
 ·obtain⟨a,y,r,rfl,⟨da,ha⟩,k⟩:=h
  refine⟨_,(ay (aC (oQ T.EY oi (hr.mono (by decide)) rfl T.EX (uE T.nJ) .nil aI (aa (ak (pv 0) rfl) (aa (ak (pv 0) rfl) (aa (ak (pv 0) rfl) (aa (ak (pv 0) rfl) (aa (ak (pv 0) rfl) (aa (pv 1) ai))))))))),?_⟩
  refine⟨_,rfl,_,_,_,_,_,rfl,ha,T.rV,T.bF,g_ y,_,rfl,_,_,_,_,_,rfl,ha,T.rV,T.Al,ER y,_,rfl,_,_,_,_,_,rfl,ha,T.rV,T.yY,Cf y,_,rfl,_,_,_,_,_,rfl,ha,T.rV,T.Ge,Jx y,_,rfl,_,_,_,_,_,rfl,ha,T.rV,T.nX,rE y,_,rfl,?_⟩
  intro x dx hx hdx ne
  refine⟨x,dx,{y with rest:=r},rfl,af,rfl,?_⟩
  rw[bH]
  exact k x dx hx hdx ne
def tG(t:TX):Sp:=fun vs H Q _=>∃a y n,vs=[.ref a,vn n]∧oU t.c H a y∧Q (.bl (decide (y.due<n)&&decide (0<y.rest))) H
theorem kh(T:Txt K mg t):bE P w K mg t.b fG 1 (t.f 25) (t.fd 25) ["self","today"] (tG t):=by
 refine T.gP.ok sZ (fun vs H Q E h=>?_) (fun cdv A outer s0 H vs Q E hr h=>?_)
 ·obtain⟨a,y,n,rfl,_⟩:=h
  rfl
 ·obtain⟨a,y,n,rfl,⟨da,ha⟩,k⟩:=h
  refine⟨_,(ay (aC (MR (rA tV (ak (pv 0) rfl) (pv 1) (bh _)) (Je (rA yr (ak (pv 0) rfl) aG (bh _)))))),?_⟩
  refine⟨_,rfl,_,_,_,_,_,rfl,ha,T.rV,T.nX,rE y,_,rfl,_,_,rfl,rfl,_,rfl,?_⟩
  by_cases h1:y.due<n
  ·refine uR (by omega) ⟨_,rfl,_,_,_,_,_,rfl,ha,T.rV,T.mS,oW y,_,_,rfl,rfl,?_⟩
   rw[aa8 h1,Bool.true_and]at k
   have e:decide ((0:Int)<(y.rest:Int))=decide (0<y.rest):=decide_eq_decide.mpr (by omega)
   show Q (.bl (decide ((0:Int)<(y.rest:Int)))) H
   rw[e]
   exact k
  ·refine tD (by omega) ?_
   rw[aa7 h1,Bool.false_and]at k
   exact k
end
structure CQ(c:Cs)(H H':Hp):Prop where
 sm:Sm H H'
 tb:kc c H'
 dom:∀b o,H b=some o→∃o',H' b=some o'
section
variable{c:Cs}{H H' H1 H2:Hp}
theorem CQ.free(h:CQ c H H'){b:Addr}(e:H' b=none):H b=none:=by
 cases q:H b with
 |none=>rfl
 |some o=>
  obtain⟨o',e'⟩:=h.dom b o q
  rw[e']at e
  cases e
theorem CQ.of(h:ao H H')(tb:kc c H):CQ c H H':=⟨ao.sm h,tb.keep fun b o e _=>h b o e,fun b o e=>⟨o,h b o e⟩⟩
theorem CQ.trans(a:CQ c H H1)(b:CQ c H1 H2):CQ c H H2:=⟨a.sm.trans b.sm,b.tb,fun x o e=>let⟨o',e'⟩:=a.dom x o e;b.dom x o' e'⟩
theorem CQ.same(a:CQ c H H1)(b:ao H1 H2):CQ c H H2:=a.trans (CQ.of b a.tb)
theorem aj.NZ{Z p:Addr}{d:AD}{s:State}(h:aj c H Z p d s)(k:CQ c H H'):aj c H' Z p d s:=h.Qx k.sm k.tb (let⟨o,e⟩:=h.zz;k.dom _ _ e)
theorem CQ.keep{p:Addr}{d:AD}(k:CQ c H H'):aM H p d H' d:=⟨fun b o e t _=>k.sm b o e t,fun _ h=>.inl h,k.dom⟩
end
section
variable{P:Program}{w:World}{K:W.Frag}{mg:Str→Option Value}{base:Heap}{t:TX}
def vS(K:W.Frag)(t:TX):Sp:=fun vs H Q _=>∃x l a,vs=[vn x,.ref a]∧bD K H a (cS l)∧l.length≤16∧x<2^62∧l.sum<2^90∧kc t.c H∧
 ∀H' p,CQ t.c H H'→H p=none→H' p=some (.lst (cS (split x l)))→Q (.ref p) H'
theorem bI.S1{base:Heap}{x qual:Str}{st:Stmt}{f:Addr}{fd:FuncData}{N ps:List Str}{k:Nat}{sp:Sp}(F:bI K x qual st f fd)(S:aD N ps (az st))(len:∀vs H Q E,sp vs H Q E→vs.length=ps.length)(hbody:∀(cdv:Value) (A:Around) (outer:List Env) (s:Shared) (H:Hp) (vs:List V) (Q:VK) (E:XK),cdv=fd.code→j8 k (A.deeper (envOfC qual (az st) s.heap.objs.size f cdv))→sp vs H Q E→∃t,Kr (Jp fG P w K mg base N qual (az st) f cdv A outer s H E).S7 (gZ st) t∧t {nx:=fun _ H'=>Q .lJ H',rt:=Q} (L2.start N vs) H):bE P w K mg base fG (k+1) f fd ps sp:=by
 obtain⟨oc,od,kV,doc,pm,an,cdv,ct,osl,rfl,lk,hcd⟩:=F.ex
 refine Qt lk hcd S len fun A outer s H vs Q E hr Oi=>?_
 obtain⟨t,h,q⟩:=hbody cdv A outer s H vs Q E rfl hr Oi
 exact⟨t,h.S7,q⟩
theorem U'(l:List Nat):cS l=(l.map fun(n:Nat)=>(n:Int)).map V.int:=by rw[abe];rfl
theorem Va(l:List Nat):(l.map fun(n:Nat)=>(n:Int)).sum=((l.sum:Nat):Int):=by
 induction l with
 |nil=>rfl
 |cons a l ih=>rw[aaJ,aaU,aaU,ih];omega
theorem Mj{x:Nat}{l:List Nat}(h:l.sum≠0):(l.map fun w=>x*w/l.sum).sum≤x:=by
 have h1:=wQ x l.sum l
 have h2:l.sum*(l.map fun w=>x*w/l.sum).sum≤x*l.sum:=by omega
 rw[Nat.mul_comm x]at h2
 exact Nat.le_of_mul_le_mul_left h2 (acB h)
theorem E3(p:Nat):∀(ps:List Nat) (sh:List Int),bump sh (ps++[p])=(bump sh ps).set p ((bump sh ps).getD p 0+1)
 |[],sh=>rfl
 |q::ps,sh=>E3 p ps _
theorem R7{xs:List V}{k:Nat}:A3 xs none (some (k:Int))=xs.take k:=by
 unfold A3
 rw[HT.Bs,HT.Hl,List.drop_zero,Nat.sub_zero]
 by_cases h:k≤xs.length
 ·rw[Nat.min_eq_left h]
 ·rw[Nat.min_eq_right (by omega),abp (D9 _),abp (by omega)]
theorem CQ.upd{c:Cs}{H H':Hp}{a:Addr}{o u:HO}(h:CQ c H H')(ha:H a=none)(hu:H' a=some u)(pu:Cd u=true):CQ c H (upd H' a o):=by
 refine⟨fun b v e t=>?_,h.tb.keep fun b v e n=>?_,fun b v e=>?_⟩
 ·rw[aq (aA e ha)];exact h.sm b v e t
 ·rw[aq (fun z=>by rw[z,hu]at e;cases e;rw[n]at pu;cases pu)];exact e
 ·obtain⟨v',e'⟩:=h.dom b v e
  exact⟨v',by rw[aq (aA e ha)];exact e'⟩
theorem JY(x:Nat)(l:List Nat)(i:Nat):(l.map fun w=>((x*w%l.sum:Nat):Int)).getD i 0=((x*Vbemal.nth l i%l.sum:Nat):Int):=by
 rw[abH,HD]
 unfold Vbemal.nth
 cases l[i]? with
 |none=>show(0:Int)=((x*0%l.sum:Nat):Int);rw[Nat.mul_zero,Nat.zero_mod];rfl
 |some w=>rfl
theorem mF(T:Txt K mg t):bE P w K mg t.b fG 4 (t.f 2) (t.fd 2) ["whole","weights"] (vS K t):=by
 refine bI.S1 T.eX bM (fun vs H Q E h=>?_) (fun cdv A outer s0 H vs Q E hcd hr h=>?_)
 ·obtain⟨x,l,a,rfl,_⟩:=h
  rfl
 ·obtain⟨x,l,a,rfl,ha,CS,hx,hsum,tb,k⟩:=h
  have hcd:cdv=.ref t.cc:=hcd.trans T.fdc
  refine⟨_,(ah (aE (i:=2) bM.nd rfl (Or.inr rfl) (aQ (wZ rfl) rfl T.CL xq (aa (pv 1) ai))) (ah (bZ (aU j9 (pv 2) aG (bh _)) (ay (aC (aW M9 (aK (aa aG ai)) (aQ a_ rfl T.gk aaK (aa (pv 1) ai))))) bw) (ah (t7 (i:=3) rfl bM.nd rfl rfl (yC rfl rfl rfl (by decide+kernel)) (fS (pv 1)) (eO (own:=[("weight",4)]) (by show t9 ["whole","weights","weight_in_all","shares","weight","remainders","places","place"] (az eU) _ _=true;decide+kernel)) (fun _ _ _ _ _=>(bC (i:=4) bM.nd rfl (Or.inl rfl))) (fun _ _ _ _ _=>jz) (fun _ _ _ _ _=>(aW Ck (aW wW (pv 0) (pv 4)) (pv 2)))) (ah (aE (i:=5) bM.nd rfl (Or.inr rfl) (v_ rfl bM.nd (fS (pv 1)) (eO (own:=[("weight",4)]) (by show t9 ["whole","weights","weight_in_all","shares","weight","remainders","places","place"] (az eU) _ _=true;decide+kernel)) (fun _ _ _ _ _=>(bC (i:=4) bM.nd rfl (Or.inl rfl))) (fun _ _ _ _ _=>jz) (fun _ _ _ _ _=>(aW Q_ (aW wW (pv 0) (pv 4)) (pv 2))))) (ah (aE (i:=6) bM.nd rfl (Or.inl rfl) (JI (ir:=5) rfl rfl T.NV rfl T.KS (aa (aQ a_ rfl T.gk aaK (aa (pv 1) ai)) ai) rfl rfl rfl hcd T.hdc T.bmb rfl hr.depth)) (ah (lY abd rfl (fS (yw Bt (pv 6) FF (yu (aW bP (pv 0) (aQ (wZ rfl) rfl T.CL xq (aa (pv 3) ai)))))) (bC (i:=7) bM.nd rfl (Or.inl rfl)) (ay (Ks (pv 3) (pv 7) HK aG MU set_list))) (ay (aC (pv 3))))))))),?_⟩
  refine⟨_,rfl,a,l.map fun(n:Nat)=>(n:Int),rfl,by rw[←U'];exact ha,?_⟩
  rw[Va]
  refine⟨_,rfl,rfl,_,rfl,?_⟩
  by_cases h0:l.sum=0
  ·refine uR (by rw[h0];rfl) ⟨lz rfl,fun l0 Zx=>?_⟩
   have s1:=ao.new (o:=.lst [.int 0]) Zx
   refine⟨_,rfl,a,_,rfl,.inl (s1.seq ha),l0,_,_,rfl,rfl,af,by omega,?_,?_,fun p hp=>?_⟩
   ·rw[DS];omega
   ·rw[DS];exact fH (by simp;omega)
   have es:split x l=l.map fun _=>0:=by unfold split;rw[D7 h0]
   have el:(List.replicate (((cS l).length:Nat):Int).toNat [V.int 0]).flatten=cS (split x l):=by
    rw[es,DS,aa_]
    clear es CS hsum ha h0 k
    induction l with
    |nil=>rfl
    |cons y l ih=>rw[aax,aa9,abB,ih];rfl
   refine k _ p (CQ.of (s1.trans (ao.new hp)) tb) (ao.free s1 hp) ?_
   rw[af,el]
  ·refine tD (fun z=>h0 (by have:=bG z;omega)) ?_
   have hpos:0<l.sum:=acB h0
   refine⟨_,rfl,a,rfl,⟨_,ha⟩,fun D hD=>k_ (K:=K) (a:=a) (xs:=cS l) (fun i dw=>dw D=some (.lst (aO ((l.take i).map fun w=>((x*w/l.sum:Nat):Int))))∧ao H dw) ⟨af,ao.new hD⟩ (fun i dw _ ⟨_,sm⟩=>sm.seq ha) ?_ ?_⟩
   ·rintro i y dw hi ⟨j0,sm⟩
    obtain⟨w',hw,rfl⟩:=get_map hi
    refine⟨rfl,_,rfl,_,rfl,_,_,rfl,rfl,.inl ⟨by omega,by omega⟩,_,rfl,_,_,rfl,rfl,⟨by omega,by omega⟩,_,j0,?_,?_,ao.put sm hD⟩
    ·rw[DS,DS,aaH];exact bV (by omega)
    ·rw[af,aa6 hw,aaz,←jV]
     have e:(x:Int)*(w':Int)/((l.sum:Nat):Int)=((x*w'/l.sum:Nat):Int):=by rw[←Int.natCast_mul,←Int.natCast_ediv]
     show some (HO.lst (_++[V.int (_/_)]))=_
     rw[e]
     rfl
   ·rintro H1 ⟨To,s1⟩
    rw[DS,aaM]at To
    refine⟨_,rfl,a,rfl,⟨_,s1.seq ha⟩,fun R hR=>k_ (K:=K) (a:=a) (xs:=cS l) (fun i dw=>dw R=some (.lst (aO ((l.take i).map fun w=>((x*w%l.sum:Nat):Int))))∧ao H1 dw) ⟨af,ao.new hR⟩ (fun i dw _ ⟨_,sm⟩=>sm.seq (s1.seq ha)) ?_ ?_⟩
    ·rintro i y dw hi ⟨j0,sm⟩
     obtain⟨w',hw,rfl⟩:=get_map hi
     refine⟨rfl,_,rfl,_,rfl,_,_,rfl,rfl,.inl ⟨by omega,by omega⟩,_,rfl,_,_,rfl,rfl,(by show(0:Int)<_;omega),_,j0,?_,?_,ao.put sm hR⟩
     ·rw[DS,DS,aaH];exact bV (by omega)
     ·rw[af,aa6 hw,aaz,←jV]
      have e:(x:Int)*(w':Int)%((l.sum:Nat):Int)=((x*w'%l.sum:Nat):Int):=by rw[←Int.natCast_mul,←Int.natCast_emod]
      show some (HO.lst (_++[V.int (_%_)]))=_
      rw[e]
      rfl
    ·rintro H2 ⟨Zy,s2⟩
     rw[DS,aaM]at Zy
     have Zz:kc t.c H2:=tb.keep fun b o e _=>s2 _ _ (s1 _ _ e)
     have XJ:HM RX RW t.c.tP H2:=by
      obtain⟨ps,o,e1,e2,e3⟩:=Zz
      rw[T.tk]at e2
      exact⟨ps,o,e1,e2,fun c ec=>by have:=e3 c ec;rw[T.ck]at this;exact this⟩
     refine⟨_,rfl,a,_,rfl,.inl (s2.seq (s1.seq ha)),R,l.map (fun w=>((x*w%l.sum:Nat):Int)),?_,by rw[DS];omega,rfl,bD.of Zy,XJ,fun H3 Dp L kH kN hDp XM pl Vb=>?_⟩
     ·rw[DS,DS]
     have nP:∀b o,H b=some o→Ol o=false→b≠t.c.tP:=fun b o e n z=>by
      obtain⟨ps,_,e2,_⟩:=tb
      rw[z,e2]at e
      cases e
      cases n
     have nP2:∀b xs,H2 b=some (.lst xs)→H3 b=some (.lst xs):=fun b xs e=>kH b _ (fun z=>by
      obtain⟨ps,_,e2,_⟩:=Zz
      rw[z,e2]at e
      cases e) e
     have m3:CQ t.c H H3:=⟨fun b o e n=>kH b o (nP b o e n) (s2 _ _ (s1 _ _ e)),by
      obtain⟨ps,o,e1,e2,e3⟩:=Vb
      exact⟨ps,o,e1,by rw[T.tk];exact e2,fun c ec=>by rw[T.ck];exact e3 c ec⟩,fun b o e=>by
      by_cases z:b=t.c.tP
      ·obtain⟨ps,_,e1,_⟩:=Vb
       exact⟨_,by rw[z];exact e1⟩
      ·exact⟨o,kH b o z (s2 _ _ (s1 _ _ e))⟩⟩
     have Ml:=nP2 _ _ (s2 _ _ To)
     have hsh:=Mj (x:=x) h0
     have ZA:L.length=l.length:=by rw[pl.1.length_eq,aaN,DS]
     refine⟨_,rfl,_,rfl,_,rfl,D,l.map (fun w=>((x*w/l.sum:Nat):Int)),rfl,bD.of Ml,_,_,rfl,rfl,_,rfl,Dp,_,rfl,bD.of XM,fun p hp=>?_⟩
     have ec:(x:Int)-(l.map (fun w=>((x*w/l.sum:Nat):Int))).sum=((x-(l.map fun w=>x*w/l.sum).sum:Nat):Int):=by
      have:=Va (l.map fun w=>x*w/l.sum)
      rw[abe]at this
      have e2:(l.map (fun w=>((x*w/l.sum:Nat):Int))).sum=(((l.map fun w=>x*w/l.sum).sum:Nat):Int):=this
      rw[e2]
      omega
     rw[ec,R7,←List.map_take]
     generalize hps:L.take (x-(l.map fun w=>x*w/l.sum).sum)=ps
     have psl:∀q∈ps,q<l.length:=fun q hq=>by
      rw[←hps]at hq
      have:=pl.1.mem_iff.mp (ab4 hq)
      rw[DS]at this
      exact abS.mp this
     have sp:=ao.new (o:=.lst (ps.map fun(i:Nat)=>V.int (i:Int))) hp
     have m4:=m3.same sp
     have Vc:=sp _ _ Ml
     have XN:upd H3 p (.lst (ps.map fun(i:Nat)=>V.int (i:Int))) p=some (.lst (ps.map fun(i:Nat)=>V.int (i:Int))):=af
     have npD:p≠D:=(aA Ml hp).symm
     generalize upd H3 p (.lst (ps.map fun(i:Nat)=>V.int (i:Int)))=H4 at m4 Vc XN⊢
     refine⟨p,rfl,⟨_,bD.of XN⟩,tU (K:=K) (a:=p) (xs:=ps.map fun(i:Nat)=>V.int (i:Int)) (fun i σ H'=>∃v,σ=[some (vn x),some (.ref a),some (vn l.sum),some (.ref D),none,some (.ref R),some (.ref Dp),v]∧CQ t.c H H'∧H' p=some (.lst (ps.map fun(i:Nat)=>V.int (i:Int)))∧H' D=some (.lst (aO (bump (l.map fun w=>((x*w/l.sum:Nat):Int)) (ps.take i))))) ⟨none,rfl,m4,XN,Vc⟩ (fun i σ H' _ ⟨_,_,_,h,_⟩=>bD.of h) ?_ ?_⟩
     ·rintro i y σ H' hi ⟨v,rfl,mm,Vd,j0⟩
      obtain⟨q,hq,rfl⟩:=get_map hi
      have ql:=psl q (aaB hq)
      have bl:(bump (l.map fun w=>((x*w/l.sum:Nat):Int)) (ps.take i)).length=l.length:=by rw[tM,DS]
      refine⟨_,rfl,_,rfl,D,_,_,V.int ((bump (l.map fun w=>((x*w/l.sum:Nat):Int)) (ps.take i)).getD q 0),rfl,rfl,bD.of j0,?_,_,_,rfl,rfl,D,_,_,q,rfl,rfl,j0,?_,?_⟩
      ·refine at_of (j:=q) rfl ?_
       rw[HD,abH,D3 (by rw[bl];exact ql)]
       rfl
      ·rw[DS,bl]
       unfold Oj
       rw[D7 (by omega),D7 (by omega),aa_]
      ·refine⟨_,rfl,mm.upd hD j0 rfl,by rw[aq npD];exact Vd,?_⟩
       rw[af,aa6 hq,E3]
       exact congrArg (fun q=>some (HO.lst q)) List.map_set.symm
     ·rintro σ H' ⟨v,rfl,mm,Vd,j0⟩
      rw[DS,aaM,←hps]at j0
      have eL:L.Perm (List.range l.length):=by have:=pl.1;rw[DS]at this;exact this
      have pw:L.Pairwise fun a b=>x*Vbemal.nth l b%l.sum≤x*Vbemal.nth l a%l.sum:=List.Pairwise.imp (fun{a b} z=>by
       have z:(l.map fun w=>((x*w%l.sum:Nat):Int)).getD b 0≤(l.map fun w=>((x*w%l.sum:Nat):Int)).getD a 0:=z
       rw[JY,JY]at z
       omega) pl.2.1
      have st:∀z:Nat,L.filter (fun j=>x*Vbemal.nth l j%l.sum==z)=(List.range l.length).filter fun j=>x*Vbemal.nth l j%l.sum==z:=fun z=>by
       have:=pl.2.2 (z:Int)
       rw[DS]at this
       have e:∀j,((l.map fun w=>((x*w%l.sum:Nat):Int)).getD j 0==(z:Int))=(x*Vbemal.nth l j%l.sum==z):=fun j=>by
        rw[JY,abD,abN,abN]
        omega
       simp only[e]at this
       exact this
      rw[I_ h0 eL pw st]at j0
      refine⟨_,rfl,k H' D mm hD ?_⟩
      rw[j0]
      unfold aO
      rw[abe]
      rfl
end
theorem uW(l:List Nat):cS l=(l.map fun(n:Nat)=>(n:Int)).map V.int:=by rw[abe];rfl
theorem JZ(l:List Nat):cS l=aO (l.map nat):=uW l
theorem sum_ints(l:List Nat):(l.map fun(n:Nat)=>(n:Int)).sum=((l.sum:Nat):Int):=by
 induction l with
 |nil=>rfl
 |cons a l ih=>rw[aaJ,aaU,aaU,ih];omega
theorem xT(a b:Nat):(if(b:Int)<(a:Int)then(b:Int)else(a:Int))=((min a b:Nat):Int):=by split<;>omega
section
variable{P:Program}{w:World}{K:W.Frag}{mg:Str→Option Value}{base:Heap}{t:TX}
def CT(t:TX):Sp:=fun vs H Q _=>∃p dx a b c e lo,vs=[.ref p,a,b,c,e,lo]∧H p=some (.ins t.c.cB dx [])∧Q .lJ (upd H p (.ins t.c.cB dx (NB.zip [a,b,c,e,lo])))
theorem CU(T:Txt K mg t):bE P w K mg t.b fG 1 (t.f 3) (t.fd 3) ["self","by_collateral","by_fund_part","by_house","by_nobody","by_others"] (CT t):=by
 refine T.wu.ok Co (fun vs H Q E h=>?_) (fun cdv A outer s0 H vs Q E hr h=>?_)
 ·obtain⟨p,dx,a,b,c,e,lo,rfl,_⟩:=h
  rfl
 ·obtain⟨p,dx,a,b,c,e,lo,rfl,hp,k⟩:=h
  refine⟨_,(ah (aP (pv 0) (pv 1) rfl) (ah (aP (pv 0) (pv 2) rfl) (ah (aP (pv 0) (pv 3) rfl) (ah (aP (pv 0) (pv 4) rfl) (ay (aP (pv 0) (pv 5) rfl)))))),?_⟩
  refine bQ (N:=NB) (vs:=[]) (fun _ q=>⟨_,rfl,q⟩) rfl hp T.BE T.iw wg rfl (by decide) ?_
  refine bQ (N:=NB) (fun _ q=>⟨_,rfl,q⟩) rfl af T.BE T.i8 wg rfl (by decide) ?_
  refine bQ (N:=NB) (fun _ q=>⟨_,rfl,q⟩) rfl af T.BE T.lS wg rfl (by decide) ?_
  refine bQ (N:=NB) (fun _ q=>⟨_,rfl,q⟩) rfl af T.BE T.jT wg rfl (by decide) ?_
  refine As (N:=NB) (fun _ q=>⟨_,rfl,q⟩) rfl af T.BE T.mT wg rfl (by decide) ?_
  simp only[bH]
  exact k
theorem qw(x:Borne)(lo:Addr):(NB.zip [vn x.collateral,vn x.own,vn x.house,vn x.nobody,.ref lo]).lookup ("by_collateral":Str)=some (vn x.collateral):=aJ (i:=0) wg rfl rfl
theorem J0(x:Borne)(lo:Addr):(NB.zip [vn x.collateral,vn x.own,vn x.house,vn x.nobody,.ref lo]).lookup ("by_fund_part":Str)=some (vn x.own):=aJ (i:=1) wg rfl rfl
theorem zh(x:Borne)(lo:Addr):(NB.zip [vn x.collateral,vn x.own,vn x.house,vn x.nobody,.ref lo]).lookup ("by_house":Str)=some (vn x.house):=aJ (i:=2) wg rfl rfl
theorem vG(x:Borne)(lo:Addr):(NB.zip [vn x.collateral,vn x.own,vn x.house,vn x.nobody,.ref lo]).lookup ("by_nobody":Str)=some (vn x.nobody):=aJ (i:=3) wg rfl rfl
theorem Au(x:Borne)(lo:Addr):(NB.zip [vn x.collateral,vn x.own,vn x.house,vn x.nobody,.ref lo]).lookup ("by_others":Str)=some (.ref lo):=aJ (i:=4) wg rfl rfl
def J1(x:Borne):List Int:=[nat x.collateral,nat x.own,nat x.house,nat x.nobody]++x.others.map nat
def uX(t:TX):Sp:=fun vs H Q _=>∃b lo x,vs=[.ref b]∧sF t.c H b lo x∧x.others.length≤16∧∀H' l,ao H H'→H l=none→H' l=some (.lst (aO (J1 x)))→Q (.ref l) H'
theorem lV(T:Txt K mg t):bE P w K mg t.b fG 1 (t.f 4) (t.fd 4) ["self"] (uX t):=by
 refine T.iN.ok uw (fun vs H Q E h=>?_) (fun cdv A outer s0 H vs Q E hr h=>?_)
 ·obtain⟨b,lo,x,rfl,_⟩:=h
  rfl
 ·obtain⟨b,lo,x,rfl,⟨⟨db,hb⟩,hlo⟩,hl,k⟩:=h
  refine⟨_,(ay (aC (aW l7 (aK (aa (ak (pv 0) rfl) (aa (ak (pv 0) rfl) (aa (ak (pv 0) rfl) (aa (ak (pv 0) rfl) ai))))) (ak (pv 0) rfl)))),?_⟩
  refine⟨_,rfl,_,_,_,_,_,rfl,hb,T.BE,T.iw,qw x lo,_,rfl,_,_,_,_,_,rfl,hb,T.BE,T.i8,J0 x lo,_,rfl,_,_,_,_,_,rfl,hb,T.BE,T.lS,zh x lo,_,rfl,_,_,_,_,_,rfl,hb,T.BE,T.jT,vG x lo,lz rfl,fun l1 h1=>?_⟩
  have s1:=ao.new (o:=.lst [vn x.collateral,vn x.own,vn x.house,vn x.nobody]) h1
  have hb1:=s1 _ _ hb
  refine⟨_,rfl,_,_,_,_,_,rfl,hb1,T.BE,T.mT,Au x lo,l1,lo,_,_,rfl,rfl,af,s1 _ _ hlo,?_,fun l hl'=>?_⟩
  ·rw[DS];exact fH (by simp;omega)
  ·refine k _ l (ao.put s1 (ao.free s1 hl')) (ao.free s1 hl') ?_
   rw[af]
   unfold J1
   rw[←jV]
   rw[JZ]
   rfl
def DZ(K:W.Frag)(t:TX):Sp:=fun vs H Q _=>∃l c o h others a,vs=[vn l,vn c,vn o,vn h,.ref a]∧bD K H a (cS others)∧others.length≤16∧l<2^62∧others.sum<2^90∧kc t.c H∧
 ∀H' b lo,CQ t.c H H'→H b=none→H lo=none→sF t.c H' b lo (borne l c o h others)→Q (.ref b) H'
theorem wB(T:Txt K mg t):bE P w K mg t.b fG 5 (t.f 5) (t.fd 5) ["loss","collateral","fund_part","house_part","other_fund_parts"] (DZ K t):=by
 have D0:=CU (P:=P) (w:=w) T
 have jk:=mF (P:=P) (w:=w) T
 refine T.jQ.ok dO (fun vs H Q E h=>?_) (fun cdv A outer s0 H vs Q E hr h=>?_)
 ·obtain⟨l,c,o,h,others,a,rfl,_⟩:=h
  rfl
 ·obtain⟨l,c,o,h,others,a,rfl,ha,hlen,hl,hsum,tb,k⟩:=h
  refine⟨_,(ah (aE (i:=5) dO.nd rfl (Or.inl rfl) (aQ (kj rfl) rfl T.CK xr (aa (pv 0) (aa (pv 1) ai)))) (ah (aE (i:=6) dO.nd rfl (Or.inl rfl) (aW bP (pv 0) (pv 5))) (ah (aE (i:=7) dO.nd rfl (Or.inl rfl) (aQ (kj rfl) rfl T.CK xr (aa (pv 6) (aa (pv 2) ai)))) (ah (Jf (i:=6) dO.nd rfl (Or.inl rfl) (pv 7) Jg) (ah (aE (i:=8) dO.nd rfl (Or.inl rfl) (aQ (kj rfl) rfl T.CK xr (aa (pv 6) (aa (pv 3) ai)))) (ah (Jf (i:=6) dO.nd rfl (Or.inl rfl) (pv 8) Jg) (ah (aE (i:=9) dO.nd rfl (Or.inl rfl) (aQ (kj rfl) rfl T.CK xr (aa (pv 6) (aa (aQ (wZ rfl) rfl T.CL xq (aa (pv 4) ai)) ai)))) (ah (aE (i:=10) dO.nd rfl (Or.inl rfl) (aF jk (hr.mono (by decide)) rfl T.nU T.eX.kp (nG T.eX) .nil aI (aa (pv 9) (aa (pv 4) ai)))) (ay (aC (oQ T.NN D0 (hr.mono (by decide)) rfl T.NL (DH T.wu) .nil aI (aa (pv 5) (aa (pv 7) (aa (pv 8) (aa (aW bP (pv 6) (pv 9)) (aa (pv 10) ai)))))))))))))))),?_⟩
  refine⟨_,rfl,_,rfl,_,_,rfl,?_⟩
  rw[xT]
  refine⟨_,rfl,_,rfl,_,_,rfl,rfl,?_⟩
  have e1:(l:Int)-((min l c:Nat):Int)=((l-min l c:Nat):Int):=by omega
  dsimp only
  rw[e1]
  refine⟨_,rfl,_,rfl,_,_,rfl,?_⟩
  rw[xT]
  refine⟨_,rfl,_,rfl,_,_,rfl,rfl,?_⟩
  have e2:((l-min l c:Nat):Int)-((min (l-min l c) o:Nat):Int)=((l-min l c-min (l-min l c) o:Nat):Int):=by omega
  dsimp only
  rw[e2]
  refine⟨_,rfl,_,rfl,_,_,rfl,?_⟩
  rw[xT]
  refine⟨_,rfl,_,rfl,_,_,rfl,rfl,?_⟩
  have e3:((l-min l c-min (l-min l c) o:Nat):Int)-((min (l-min l c-min (l-min l c) o) h:Nat):Int)=((l-min l c-min (l-min l c) o-min (l-min l c-min (l-min l c) o) h:Nat):Int):=by omega
  dsimp only
  rw[e3]
  refine⟨_,rfl,_,rfl,a,others.map fun(n:Nat)=>(n:Int),rfl,by rw[←uW];exact ha,_,_,rfl,?_⟩
  rw[sum_ints,xT]
  refine⟨_,rfl,_,rfl,_,others,a,rfl,ha,hlen,by omega,hsum,tb,fun H1 lo s1 hlo XO=>?_⟩
  refine⟨_,rfl,_,rfl,_,rfl,_,rfl,_,rfl,_,_,rfl,rfl,_,rfl,?_⟩
  intro x dx hx hdx ne
  refine⟨x,dx,_,_,_,_,_,rfl,af,rfl,?_⟩
  rw[bH]
  have sx:∀fs,ao H1 (zK H1 dx x t.c.cB fs):=fun fs=>ao.mk hx hdx
  have e4:((l-min l c-min (l-min l c) o-min (l-min l c-min (l-min l c) o) h:Nat):Int)-((min (l-min l c-min (l-min l c) o-min (l-min l c-min (l-min l c) o) h) others.sum:Nat):Int)=(((borne l c o h others).nobody:Nat):Int):=by
   show _=((l-min l c-min (l-min l c) o-min (l-min l c-min (l-min l c) o) h-min (l-min l c-min (l-min l c) o-min (l-min l c-min (l-min l c) o) h) others.sum:Nat):Int)
   omega
  refine k _ x lo (s1.same (sx _)) (s1.free hx) hlo ⟨⟨dx,?_⟩,sx _ _ _ XO⟩
  show zK H1 dx x t.c.cB _ x=_
  rw[pU]
  show some (HO.ins t.c.cB dx (NB.zip [_,_,_,V.int (_-_),_]))=_
  rw[e4]
  rfl
def Bc(t:TX):Sp:=fun vs H Q _=>∃p dx a b c e lo,vs=[.ref p,a,b,c,e,lo]∧H p=some (.ins t.c.cF dx [])∧Q .lJ (upd H p (.ins t.c.cF dx (NF.zip [a,b,c,e,lo])))
theorem sP(T:Txt K mg t):bE P w K mg t.b fG 1 (t.f 26) (t.fd 26) ["self","loss","burden","nobody_not_back","others_not_back","house_not_back"] (Bc t):=by
 refine T.nM.ok A7 (fun vs H Q E h=>?_) (fun cdv A outer s0 H vs Q E hr h=>?_)
 ·obtain⟨p,dx,a,b,c,e,lo,rfl,_⟩:=h
  rfl
 ·obtain⟨p,dx,a,b,c,e,lo,rfl,hp,k⟩:=h
  refine⟨_,(ah (aP (pv 0) (pv 1) rfl) (ah (aP (pv 0) (pv 2) rfl) (ah (aP (pv 0) (pv 3) rfl) (ah (aP (pv 0) (pv 4) rfl) (ay (aP (pv 0) (pv 5) rfl)))))),?_⟩
  refine bQ (N:=NF) (vs:=[]) (fun _ q=>⟨_,rfl,q⟩) rfl hp T.CF T.Gf we rfl (by decide) ?_
  refine bQ (N:=NF) (fun _ q=>⟨_,rfl,q⟩) rfl af T.CF T.Am we rfl (by decide) ?_
  refine bQ (N:=NF) (fun _ q=>⟨_,rfl,q⟩) rfl af T.CF T.eZ we rfl (by decide) ?_
  refine bQ (N:=NF) (fun _ q=>⟨_,rfl,q⟩) rfl af T.CF T.dI we rfl (by decide) ?_
  refine As (N:=NF) (fun _ q=>⟨_,rfl,q⟩) rfl af T.CF T.gD we rfl (by decide) ?_
  simp only[bH]
  exact k
def CV(f:Failure)(b la:Addr):List V:=[vn f.loss,.ref b,vn f.nobodyLeft,.ref la,vn f.houseLeft]
theorem KW(f:Failure)(b la:Addr):(NF.zip (CV f b la)).lookup ("loss":Str)=some (vn f.loss):=aJ (i:=0) we rfl rfl
theorem E4(f:Failure)(b la:Addr):(NF.zip (CV f b la)).lookup ("burden":Str)=some (.ref b):=aJ (i:=1) we rfl rfl
theorem vH(f:Failure)(b la:Addr):(NF.zip (CV f b la)).lookup ("nobody_not_back":Str)=some (vn f.nobodyLeft):=aJ (i:=2) we rfl rfl
theorem qN(f:Failure)(b la:Addr):(NF.zip (CV f b la)).lookup ("others_not_back":Str)=some (.ref la):=aJ (i:=3) we rfl rfl
theorem CW(f:Failure)(b la:Addr):(NF.zip (CV f b la)).lookup ("house_not_back":Str)=some (vn f.houseLeft):=aJ (i:=4) we rfl rfl
def oj(t:TX):Sp:=fun vs H Q _=>∃a da f b la,vs=[.ref a]∧H a=some (.ins t.c.cF da (NF.zip (CV f b la)))∧H la=some (.lst (cS f.othersLeft))∧Q (vn (f.nobodyLeft+f.othersLeft.sum+f.houseLeft)) H
theorem om(T:Txt K mg t):bE P w K mg t.b fG 1 (t.f 27) (t.fd 27) ["self"] (oj t):=by
 refine T.iA.ok nB (fun vs H Q E h=>?_) (fun cdv A outer s0 H vs Q E hr h=>?_)
 ·obtain⟨a,da,f,b,la,rfl,_⟩:=h
  rfl
 ·obtain⟨a,da,f,b,la,rfl,ha,hla,k⟩:=h
  refine⟨_,(ay (aC (aW iB (aW iB (ak (pv 0) rfl) (aQ (wZ rfl) rfl T.CL xq (aa (ak (pv 0) rfl) ai))) (ak (pv 0) rfl)))),?_⟩
  refine⟨_,rfl,_,_,_,_,_,rfl,ha,T.CF,T.eZ,vH f b la,_,rfl,_,_,_,_,_,rfl,ha,T.CF,T.dI,qN f b la,la,f.othersLeft.map fun(n:Nat)=>(n:Int),rfl,bD.of (by rw[hla,uW]),_,_,rfl,rfl,_,rfl,_,_,_,_,_,rfl,ha,T.CF,T.gD,CW f b la,_,_,rfl,rfl,?_⟩
  rw[sum_ints]
  have e:(f.nobodyLeft:Int)+((f.othersLeft.sum:Nat):Int)+(f.houseLeft:Int)=((f.nobodyLeft+f.othersLeft.sum+f.houseLeft:Nat):Int):=by omega
  dsimp only
  rw[e]
  exact k
end
def zj(a b:List Nat):List Nat:=(List.range a.length).map fun i=>Vbemal.nth a i-Vbemal.nth b i
theorem E5{a b:List Nat}{i:Nat}(h:i<a.length):(zj a b)[i]?=some (Vbemal.nth a i-Vbemal.nth b i):=by
 unfold zj
 rw[HD,acd h]
 rfl
theorem J2(a b:List Nat):cS a++cS b=cS (a++b):=aaz.symm
theorem BF{l:List Nat}{i x:Nat}(h:l[i]?=some x):Vbemal.nth l i=x:=by unfold Vbemal.nth;rw[h];rfl
section
variable{P:Program}{w:World}{K:W.Frag}{mg:Str→Option Value}{base:Heap}{t:TX}
def qx(t:TX):Sp:=fun vs H Q _=>∃a da f b la x sh sl y,vs=[.ref a,vn x,.ref sh,vn y]∧H a=some (.ins t.c.cF da (NF.zip (CV f b la)))∧H la=some (.lst (cS f.othersLeft))∧H sh=some (.lst (cS sl))∧
 sl.length=f.othersLeft.length∧f.othersLeft.length≤16∧(∀i,Vbemal.nth sl i≤Vbemal.nth f.othersLeft i)∧x≤f.nobodyLeft∧y≤f.houseLeft∧
 ∀H' a' KY la',ao H H'→H a'=none→H la'=none→H' a'=some (.ins t.c.cF KY (NF.zip [vn f.loss,.ref b,vn (f.nobodyLeft-x),.ref la',vn (f.houseLeft-y)]))→H' la'=some (.lst (cS (zj f.othersLeft sl)))→Q (.ref a') H'
theorem qy(T:Txt K mg t):bE P w K mg t.b fG 3 (t.f 28) (t.fd 28) ["self","to_nobody","shares","to_house"] (qx t):=by
 have oq:=sP (P:=P) (w:=w) T
 refine T.jr.ok bR (fun vs H Q E h=>?_) (fun cdv A outer s0 H vs Q E hr h=>?_)
 ·obtain⟨a,da,f,b,la,x,sh,sl,y,rfl,_⟩:=h
  rfl
 ·obtain⟨a,da,f,b,la,x,sh,sl,y,rfl,ha,hla,hsh,hl,CS,hle,hx,hy,k⟩:=h
  refine⟨_,(ah (t7 (i:=4) rfl bR.nd rfl rfl (yC rfl rfl rfl (by decide+kernel)) (FL rfl T.Ih (aa (ak (pv 0) rfl) (aa (pv 2) ai))) (eO (own:=[("part",5),("share",6)]) (by show t9 ["self","to_nobody","shares","to_house","others_not_back","part","share","nobody_not_back","house_not_back"] (az dY) _ _=true;decide+kernel)) (fun _ _ _ _ _=>(BC (n:=2) rfl (b9 (bC (i:=5) bR.nd rfl (Or.inl rfl)) (b9 (bC (i:=6) bR.nd rfl (Or.inl rfl)) jw)))) (fun _ _ _ _ _=>jz) (fun _ _ _ _ _=>(aW bP (pv 5) (pv 6)))) (ah (aE (i:=7) bR.nd rfl (Or.inl rfl) (aW bP (ak (pv 0) rfl) (pv 1))) (ah (aE (i:=8) bR.nd rfl (Or.inl rfl) (aW bP (ak (pv 0) rfl) (pv 3))) (ay (aC (oQ T.E1 oq (hr.mono (by decide)) rfl T.EZ (uF T.nM) .nil aI (aa (ak (pv 0) rfl) (aa (ak (pv 0) rfl) (aa (pv 7) (aa (pv 4) (aa (pv 8) ai))))))))))),?_⟩
  refine⟨_,rfl,_,_,_,_,_,rfl,ha,T.CF,T.dI,qN f b la,_,rfl,la,sh,_,_,rfl,bD.of hla,bD.of hsh,fun D hD=>KU (J:=Tg K la sh) f.othersLeft.length (fun i dw=>dw D=some (.lst (cS ((zj f.othersLeft sl).take i)))∧ao H dw) ⟨af,ao.new hD⟩ ?_ ?_ ?_ ?_⟩
  ·rintro i dw hi ⟨_,sm⟩
   exact⟨_,_,vn f.othersLeft[i],vn (sl[i]'(by omega)),bD.of (sm _ _ hla),bD.of (sm _ _ hsh),by rw[HD,D3 hi];rfl,by rw[HD,D3 (by omega)];rfl⟩
  ·rintro dw ⟨_,sm⟩
   exact⟨_,_,bD.of (sm _ _ hla),bD.of (sm _ _ hsh),.inl (by rw[DS];exact D9 _)⟩
  ·rintro i dw z H3 hi ⟨j0,sm⟩ ⟨Tt,u,v,rfl,hT,rfl,hu1,hv1⟩
   have i2:i<sl.length:=by omega
   have eu:u=vn f.othersLeft[i]:=by
    have:=hu1 _ (bD.of (sm _ _ hla))
    rw[HD,D3 hi]at this
    exact(aar this).symm
   have ev:v=vn sl[i]:=by
    have:=hv1 _ (bD.of (sm _ _ hsh))
    rw[HD,D3 i2]at this
    exact(aar this).symm
   subst eu ev
   have nTD:D≠Tt:=aA j0 hT
   have e1:=BF (D3 hi)
   have e2:=BF (D3 i2)
   have hle':=hle i
   rw[e1,e2]at hle'
   refine⟨Tt,_,rfl,i6.of af,rfl,_,_,rfl,_,_,rfl,rfl,rfl,_,rfl,_,rfl,_,_,rfl,rfl,_,(by rw[aq nTD];exact j0),?_,?_,ao.put (sm.trans (ao.new hT)) hD⟩
   ·rw[DS,aaH];exact bV (by omega)
   ·rw[af,aa6 (E5 (b:=sl) hi),←J2,e1,e2]
    have e3:(f.othersLeft[i]:Int)-(sl[i]:Int)=((f.othersLeft[i]-sl[i]:Nat):Int):=by omega
    show some (HO.lst (_++[V.int (_-_)]))=_
    rw[e3]
    rfl
  ·rintro dw ⟨j0,sm⟩
   have Wg:H D=none:=hD
   have hlen:(zj f.othersLeft sl).length=f.othersLeft.length:=by unfold zj;simp
   rw[←hlen,aaM]at j0
   have ha':=sm _ _ ha
   refine⟨_,rfl,_,_,_,_,_,rfl,ha',T.CF,T.eZ,vH f b la,_,rfl,_,_,rfl,rfl,?_⟩
   refine⟨_,rfl,_,_,_,_,_,rfl,ha',T.CF,T.gD,CW f b la,_,rfl,_,_,rfl,rfl,?_⟩
   refine⟨_,rfl,_,_,_,_,_,rfl,ha',T.CF,T.Gf,KW f b la,_,rfl,_,_,_,_,_,rfl,ha',T.CF,T.Am,E4 f b la,_,rfl,_,rfl,_,rfl,?_⟩
   intro a' dx hx' hdx ne
   refine⟨a',dx,_,_,_,_,_,rfl,af,rfl,?_⟩
   rw[bH]
   have sx:∀fs,ao dw (zK dw dx a' t.c.cF fs):=fun fs=>ao.mk hx' hdx
   refine k _ a' dx D (sm.trans (sx _)) (ao.free sm hx') Wg ?_ (sx _ _ _ j0)
   show zK dw dx a' t.c.cF _ a'=_
   rw[pU]
   have e4:(f.nobodyLeft:Int)-(x:Int)=((f.nobodyLeft-x:Nat):Int):=by omega
   have e5:(f.houseLeft:Int)-(y:Int)=((f.houseLeft-y:Nat):Int):=by omega
   show some (HO.ins t.c.cF dx (NF.zip [_,_,V.int (_-_),_,V.int (_-_)]))=_
   rw[e4,e5]
def qO(t:TX):Sp:=fun vs H Q _=>∃Z p d s m q,vs=[.ref p,vn m,vn q]∧aj t.c H Z p d s∧s.entries.Pairwise wL∧∀H' a,ao H H'→kr t.c H' a (entryOf s m q)→Q (.ref a) H'
theorem iy(T:Txt K mg t):bE P w K mg t.b fG 3 (t.f 30) (t.fd 30) ["self","number","period"] (qO t):=by
 have lT:=rY (P:=P) (w:=w) T
 refine T.gh.ok z_ (fun vs H Q E h=>?_) (fun cdv A outer s0 H vs Q E hr h=>?_)
 ·obtain⟨Z,p,d,s,m,q,rfl,_⟩:=h
  rfl
 ·obtain⟨Z,p,d,s,m,q,rfl,hh,hs,k⟩:=h
  have hu:=yF hr
  refine⟨_,(ay (aC (Ni hu (ak (pv 0) rfl) (aZ (aa (pv 1) (aa (pv 2) ai))) (oQ T.JU lT (hr.mono (by decide)) rfl T.JT (uD T.pC) .nil aI (aa aG (aa aG (aa aG (aa aG ai))))) ⟨rfl,rfl,rfl,rfl⟩))),?_⟩
  refine⟨_,rfl,_,_,_,_,_,rfl,hh.ins,T.bS,T.gj,iU d s,d.pd,rfl,.inr ⟨_,.inl hh.pd⟩,_,rfl,_,rfl,lz rfl,fun tp htp=>?_⟩
  have s1:=ao.new (o:=.tup [vn m,vn q]) htp
  intro x dx hx hdx ne
  refine⟨x,dx,⟨m,q,0,0,0,0⟩,rfl,af,rfl,?_⟩
  rw[bH]
  have s2:ao H (zK (upd H tp (.tup [vn m,vn q])) dx x t.c.cP (NP.zip (f_ ⟨m,q,0,0,0,0⟩))):=s1.trans (ao.mk hx hdx)
  have Ds:=hh.mono s2
  have XQ:zK (upd H tp (.tup [vn m,vn q])) dx x t.c.cP (NP.zip (f_ ⟨m,q,0,0,0,0⟩)) tp=some (.tup ((pk m q).map kV)):=(ao.mk hx hdx) _ _ af
  refine⟨_,oF.t (k:=pk m q) Ds.pd XQ,?_⟩
  rcases Ds.pair hs m q with⟨_,a,e,pa,_⟩ |⟨hn,e⟩
  ·rw[e]
   exact k _ a s2 pa
  ·rw[e]
   refine k _ x s2 ?_
   rw[lE hn]
   exact⟨dx,pU⟩
end
theorem zk{H H1:Hp}{p a:Addr}{o u:HO}(kp:∀b o,H b=some o→b≠p→H1 b=some o)(ha:H1 a=none):∀b v,H b=some v→b≠p→upd (upd H1 a o) p u b=some v:=fun b v e n=>by
 rw[aq n,aq (aA (kp b v e n) ha)];exact kp b v e n
section
variable{P:Program}{w:World}{K:W.Frag}{mg:Str→Option Value}{base:Heap}{t:TX}
def mG(ml pd il fd cd dx:Addr):AD:=⟨ml,pd,il,fd,cd,dx,[],[],[],[]⟩
structure Init(c:Cs)(H H':Hp)(p dx ml pd il fd cd:Addr):Prop where
 ins:H' p=some (.ins c.cH dx (NH.zip (aB (mG ml pd il fd cd dx) start)))
 keep:∀b o,H b=some o→b≠p→H' b=some o
 hml:H' ml=some (.lst [])
 Mm:H' pd=some (.dT [])
 hil:H' il=some (.lst [])
 hfd:H' fd=some (.dK [])
 hcd:H' cd=some (.dK [])
 nd:(muts p (mG ml pd il fd cd dx)).Nodup
 fresh:∀b∈muts p (mG ml pd il fd cd dx),b≠p→H b=none
def D_(t:TX):Sp:=fun vs H Q _=>∃p dx,vs=[.ref p]∧H p=some (.ins t.c.cH dx [])∧∀H' ml pd il fd cd,Init t.c H H' p dx ml pd il fd cd→Q .lJ H'
theorem wC(T:Txt K mg t):bE P w K mg t.b fG 1 (t.f 29) (t.fd 29) ["self"] (D_ t):=by
 refine T.rP.ok DE (fun vs H Q E h=>?_) (fun cdv A outer s0 H vs Q E hr h=>?_)
 ·obtain⟨p,dx,rfl,_⟩:=h
  rfl
 ·obtain⟨p,dx,rfl,hp,k⟩:=h
  refine⟨_,(ah (aP (pv 0) Hf rfl) (ah (aP (pv 0) aG rfl) (ah (aP (pv 0) aG rfl) (ah (aP (pv 0) aG rfl) (ah (aP (pv 0) aG rfl) (ah (aP (pv 0) aG rfl) (ah (aP (pv 0) aG rfl) (ah (aP (pv 0) aG rfl) (ah (aP (pv 0) aG rfl) (ah (aP (pv 0) aG rfl) (ah (aP (pv 0) (aK ai) rfl) (ah (aP (pv 0) Ng rfl) (ah (aP (pv 0) (aK ai) rfl) (ah (aP (pv 0) Hy rfl) (ay (aP (pv 0) Hy rfl)))))))))))))))),?_⟩
  refine bQ (N:=NH) (vs:=[]) (v:=.bl false) (fun _ q=>q) rfl hp T.bS T.kU bJ rfl (by decide) ?_
  refine bQ (N:=NH) (v:=.int 0) (fun _ q=>q) rfl af T.bS T.uN bJ rfl (by decide) ?_
  refine bQ (N:=NH) (v:=.int 0) (fun _ q=>q) rfl af T.bS T.rW bJ rfl (by decide) ?_
  refine bQ (N:=NH) (v:=.int 0) (fun _ q=>q) rfl af T.bS T.lR bJ rfl (by decide) ?_
  refine bQ (N:=NH) (v:=.int 0) (fun _ q=>q) rfl af T.bS T.mV bJ rfl (by decide) ?_
  refine bQ (N:=NH) (v:=.int 0) (fun _ q=>q) rfl af T.bS T.jt bJ rfl (by decide) ?_
  refine bQ (N:=NH) (v:=.int 0) (fun _ q=>q) rfl af T.bS T.qM bJ rfl (by decide) ?_
  refine bQ (N:=NH) (v:=.int 0) (fun _ q=>q) rfl af T.bS T.gE bJ rfl (by decide) ?_
  refine bQ (N:=NH) (v:=.int 0) (fun _ q=>q) rfl af T.bS T.dP bJ rfl (by decide) ?_
  refine bQ (N:=NH) (v:=.int 0) (fun _ q=>q) rfl af T.bS T.rX bJ rfl (by decide) ?_
  simp only[bH]
  have q0:∀b v,H b=some v→b≠p→upd H p (.ins t.c.cH dx (NH.zip [.bl false,.int 0,.int 0,.int 0,.int 0,.int 0,.int 0,.int 0,.int 0,.int 0])) b=some v:=fun b v e n=>by rw[aq n];exact e
  have p0:upd H p (.ins t.c.cH dx (NH.zip [.bl false,.int 0,.int 0,.int 0,.int 0,.int 0,.int 0,.int 0,.int 0,.int 0])) p=some (.ins t.c.cH dx (NH.zip [.bl false,.int 0,.int 0,.int 0,.int 0,.int 0,.int 0,.int 0,.int 0,.int 0])):=af
  have nn:∀{G:Hp} {a:Addr},(∀b v,H b=some v→b≠p→G b=some v)→(∃o,G p=some o)→G a=none→H a=none∧p≠a:=fun{G a} f ⟨o,Vd⟩ e=>by
   refine⟨?_,fun q=>by rw[←q,Vd]at e;cases e⟩
   cases z:H a with
   |none=>rfl
   |some u=>
    have:a≠p:=fun q=>by rw[q,Vd]at e;cases e
    rw[f a u z this]at e;cases e
  show BZ _ _ _ _ (upd H p (.ins t.c.cH dx (NH.zip [.bl false,.int 0,.int 0,.int 0,.int 0,.int 0,.int 0,.int 0,.int 0,.int 0])))
  generalize upd H p (.ins t.c.cH dx (NH.zip [.bl false,.int 0,.int 0,.int 0,.int 0,.int 0,.int 0,.int 0,.int 0,.int 0]))=G0 at q0 p0⊢
  refine⟨lz rfl,fun ml hml=>?_⟩
  obtain⟨fml,O9⟩:=nn q0 ⟨_,p0⟩ hml
  refine⟨_,rfl,p,_,dx,_,rfl,(by rw[aq O9];exact p0),T.bS,T.aX,aaL (g9 NH _) (by decide),?_⟩
  rw[show dS "members" (V.ref ml) (NH.zip [.bl false,.int 0,.int 0,.int 0,.int 0,.int 0,.int 0,.int 0,.int 0,.int 0])=_ from rD _ bJ rfl]
  have q1:=zk (o:=.lst []) (u:=.ins t.c.cH dx (NH.zip ([.bl false,.int 0,.int 0,.int 0,.int 0,.int 0,.int 0,.int 0,.int 0,.int 0]++[.ref ml]))) q0 hml
  have p1:upd (upd G0 ml (.lst [])) p (.ins t.c.cH dx (NH.zip ([.bl false,.int 0,.int 0,.int 0,.int 0,.int 0,.int 0,.int 0,.int 0,.int 0]++[.ref ml]))) p=some (.ins t.c.cH dx (NH.zip ([.bl false,.int 0,.int 0,.int 0,.int 0,.int 0,.int 0,.int 0,.int 0,.int 0]++[.ref ml]))):=af
  have m1:upd (upd G0 ml (.lst [])) p (.ins t.c.cH dx (NH.zip ([.bl false,.int 0,.int 0,.int 0,.int 0,.int 0,.int 0,.int 0,.int 0,.int 0]++[.ref ml]))) ml=some (.lst []):=by rw[aq O9.symm];exact af
  generalize upd (upd G0 ml (.lst [])) p (.ins t.c.cH dx (NH.zip ([.bl false,.int 0,.int 0,.int 0,.int 0,.int 0,.int 0,.int 0,.int 0,.int 0]++[.ref ml])))=G1 at q1 p1 m1⊢
  intro pd Mm
  obtain⟨XR,Qy⟩:=nn q1 ⟨_,p1⟩ Mm
  have d1:ml≠pd:=aA m1 Mm
  refine⟨_,rfl,p,_,dx,_,rfl,(by rw[aq Qy];exact p1),T.bS,T.gj,aaL (g9 NH _) (by decide),?_⟩
  rw[show dS "pairs" (V.ref pd) (NH.zip ([.bl false,.int 0,.int 0,.int 0,.int 0,.int 0,.int 0,.int 0,.int 0,.int 0]++[.ref ml]))=_ from rD _ bJ rfl]
  have q2:=zk (o:=.dT []) (u:=.ins t.c.cH dx (NH.zip ([.bl false,.int 0,.int 0,.int 0,.int 0,.int 0,.int 0,.int 0,.int 0,.int 0]++[.ref ml]++[.ref pd]))) q1 Mm
  have p2:upd (upd G1 pd (.dT [])) p (.ins t.c.cH dx (NH.zip ([.bl false,.int 0,.int 0,.int 0,.int 0,.int 0,.int 0,.int 0,.int 0,.int 0]++[.ref ml]++[.ref pd]))) p=some (.ins t.c.cH dx (NH.zip ([.bl false,.int 0,.int 0,.int 0,.int 0,.int 0,.int 0,.int 0,.int 0,.int 0]++[.ref ml]++[.ref pd]))):=af
  have m2:upd (upd G1 pd (.dT [])) p (.ins t.c.cH dx (NH.zip ([.bl false,.int 0,.int 0,.int 0,.int 0,.int 0,.int 0,.int 0,.int 0,.int 0]++[.ref ml]++[.ref pd]))) ml=some (.lst []):=by rw[aq O9.symm,aq d1];exact m1
  have n2:upd (upd G1 pd (.dT [])) p (.ins t.c.cH dx (NH.zip ([.bl false,.int 0,.int 0,.int 0,.int 0,.int 0,.int 0,.int 0,.int 0,.int 0]++[.ref ml]++[.ref pd]))) pd=some (.dT []):=by rw[aq Qy.symm];exact af
  generalize upd (upd G1 pd (.dT [])) p (.ins t.c.cH dx (NH.zip ([.bl false,.int 0,.int 0,.int 0,.int 0,.int 0,.int 0,.int 0,.int 0,.int 0]++[.ref ml]++[.ref pd])))=G2 at q2 p2 m2 n2⊢
  refine⟨lz rfl,fun il hil=>?_⟩
  obtain⟨XS,nil⟩:=nn q2 ⟨_,p2⟩ hil
  have d2:ml≠il:=aA m2 hil
  have d3:pd≠il:=aA n2 hil
  refine⟨_,rfl,p,_,dx,_,rfl,(by rw[aq nil];exact p2),T.bS,T.bK,aaL (g9 NH _) (by decide),?_⟩
  rw[show dS "invoices" (V.ref il) (NH.zip ([.bl false,.int 0,.int 0,.int 0,.int 0,.int 0,.int 0,.int 0,.int 0,.int 0]++[.ref ml]++[.ref pd]))=_ from rD _ bJ rfl]
  generalize e3:([.bl false,.int 0,.int 0,.int 0,.int 0,.int 0,.int 0,.int 0,.int 0,.int 0]++[.ref ml]++[.ref pd]++[.ref il]:List V)=v3
  have l3:v3.length=13:=by rw[←e3];rfl
  have q3:=zk (o:=.lst []) (u:=.ins t.c.cH dx (NH.zip v3)) q2 hil
  have p3:upd (upd G2 il (.lst [])) p (.ins t.c.cH dx (NH.zip v3)) p=some (.ins t.c.cH dx (NH.zip v3)):=af
  have m3:upd (upd G2 il (.lst [])) p (.ins t.c.cH dx (NH.zip v3)) ml=some (.lst []):=by rw[aq O9.symm,aq d2];exact m2
  have n3:upd (upd G2 il (.lst [])) p (.ins t.c.cH dx (NH.zip v3)) pd=some (.dT []):=by rw[aq Qy.symm,aq d3];exact n2
  have o3:upd (upd G2 il (.lst [])) p (.ins t.c.cH dx (NH.zip v3)) il=some (.lst []):=by rw[aq nil.symm];exact af
  generalize upd (upd G2 il (.lst [])) p (.ins t.c.cH dx (NH.zip v3))=G3 at q3 p3 m3 n3 o3⊢
  intro fd hfd
  obtain⟨XT,Th⟩:=nn q3 ⟨_,p3⟩ hfd
  have d4:ml≠fd:=aA m3 hfd
  have d5:pd≠fd:=aA n3 hfd
  have d6:il≠fd:=aA o3 hfd
  refine⟨_,rfl,p,_,dx,_,rfl,(by rw[aq Th];exact p3),T.bS,T.gR,aaL (g9 NH _) (by decide),?_⟩
  rw[show dS "failures" (V.ref fd) (NH.zip v3)=_ from rD _ bJ (by rw[l3];rfl)]
  have q4:=zk (o:=.dK []) (u:=.ins t.c.cH dx (NH.zip (v3++[.ref fd]))) q3 hfd
  have p4:upd (upd G3 fd (.dK [])) p (.ins t.c.cH dx (NH.zip (v3++[.ref fd]))) p=some (.ins t.c.cH dx (NH.zip (v3++[.ref fd]))):=af
  have m4:upd (upd G3 fd (.dK [])) p (.ins t.c.cH dx (NH.zip (v3++[.ref fd]))) ml=some (.lst []):=by rw[aq O9.symm,aq d4];exact m3
  have n4:upd (upd G3 fd (.dK [])) p (.ins t.c.cH dx (NH.zip (v3++[.ref fd]))) pd=some (.dT []):=by rw[aq Qy.symm,aq d5];exact n3
  have o4:upd (upd G3 fd (.dK [])) p (.ins t.c.cH dx (NH.zip (v3++[.ref fd]))) il=some (.lst []):=by rw[aq nil.symm,aq d6];exact o3
  have r4:upd (upd G3 fd (.dK [])) p (.ins t.c.cH dx (NH.zip (v3++[.ref fd]))) fd=some (.dK []):=by rw[aq Th.symm];exact af
  generalize upd (upd G3 fd (.dK [])) p (.ins t.c.cH dx (NH.zip (v3++[.ref fd])))=G4 at q4 p4 m4 n4 o4 r4⊢
  intro cd hcd
  obtain⟨XW,UH⟩:=nn q4 ⟨_,p4⟩ hcd
  have d7:ml≠cd:=aA m4 hcd
  have d8:pd≠cd:=aA n4 hcd
  have d9:il≠cd:=aA o4 hcd
  have Wh:fd≠cd:=aA r4 hcd
  refine⟨_,rfl,p,_,dx,_,rfl,(by rw[aq UH];exact p4),T.bS,T.mW,aaL (g9 NH _) (by decide),?_⟩
  rw[show dS "closed" (V.ref cd) (NH.zip (v3++[.ref fd]))=_ from rD _ bJ (by rw[aat,l3];rfl)]
  refine k _ ml pd il fd cd ⟨?_,zk q4 hcd,?_,?_,?_,?_,?_,?_,?_⟩
  ·rw[af,←e3]
   rfl
  ·rw[aq O9.symm,aq d7];exact m4
  ·rw[aq Qy.symm,aq d8];exact n4
  ·rw[aq nil.symm,aq d9];exact o4
  ·rw[aq Th.symm,aq Wh];exact r4
  ·rw[aq UH.symm];exact af
  ·show([p,ml,pd,il,fd,cd]:List Addr).Nodup
   simp only[aaO,aas,abu,or_false,not_or,not_false_iff,and_true,List.nodup_nil]
   exact⟨⟨O9,Qy,nil,Th,UH⟩,⟨d1,d2,d4,d7⟩,⟨d3,d5,d8⟩,⟨d6,d9⟩,Wh⟩
  ·intro b hb hbp
   have hb':b∈([p,ml,pd,il,fd,cd]:List Addr):=hb
   simp only[aas,abu,or_false]at hb'
   rcases hb' with q |q |q |q |q |q
   ·exact absurd q hbp
   ·rw[q];exact fml
   ·rw[q];exact XR
   ·rw[q];exact XS
   ·rw[q];exact XT
   ·rw[q];exact XW
end
theorem PD:("twin":Str)∉NM:=by decide+kernel
section
variable{P:Program}{w:World}{K:W.Frag}{mg:Str→Option Value}{base:Heap}{t:TX}
def Ea(P:Program)(w:World)(t:TX):Sp:=fun vs H Q _=>∃Z p d s,vs=[.ref p]∧aj t.c H Z p d s∧RH P w (aV d.es)∧s.members.length≤16∧
 ∀H' p' d',ao H H'→(∀b∈muts p' d',H b=none)→d'.es=d.es→aj t.c H' Z p' d' s→Q (.ref p') H'
theorem Eb(T:Txt K mg t):bE P w K mg t.b fG 4 (t.f 31) (t.fd 31) ["self"] (Ea P w t):=by
 have rZ:=wC (P:=P) (w:=w) T
 have Ec:=CP (P:=P) (w:=w) T
 refine T.yS.ok lq (fun vs H Q E h=>?_) (fun cdv A outer s0 H vs Q E hr h=>?_)
 ·obtain⟨Z,p,d,s,rfl,_⟩:=h
  rfl
 ·obtain⟨Z,p,d,s,rfl,hh,hinj,CS,k⟩:=h
  refine⟨_,(ah (aE (i:=1) lq.nd rfl (Or.inl rfl) (yt T.KQ rZ (hr.mono (by decide)) rfl T.KP (yQ T.rP) .nil aI)) (ah (aP (pv 1) (ak (pv 0) rfl) rfl) (ah (aP (pv 1) (ak (pv 0) rfl) rfl) (ah (aP (pv 1) (ak (pv 0) rfl) rfl) (ah (aP (pv 1) (ak (pv 0) rfl) rfl) (ah (aP (pv 1) (ak (pv 0) rfl) rfl) (ah (aP (pv 1) (ak (pv 0) rfl) rfl) (ah (aP (pv 1) (ak (pv 0) rfl) rfl) (ah (aP (pv 1) (ak (pv 0) rfl) rfl) (ah (aP (pv 1) (ak (pv 0) rfl) rfl) (ah (aP (pv 1) (ak (pv 0) rfl) rfl) (ah (aP (pv 1) (v_ rfl lq.nd (fS (ak (pv 0) rfl)) (eO (own:=[("member",2)]) (by show t9 ["self","other","member"] (az mP) _ _=true;decide+kernel)) (fun _ _ _ _ _=>(bC (i:=2) lq.nd rfl (Or.inl rfl))) (fun _ _ _ _ _=>jz) (fun _ _ _ _ _=>(m_ (pv 2) T.kT T.Cz Ec (hr.mono (by decide)) (DI T.wz) .nil aI))) rfl) (ah (aP (pv 1) (vq JE rfl T.JV FU (aa (ak (pv 0) rfl) ai)) rfl) (ah (aP (pv 1) (vq FI rfl T.R5 Pa (aa (ak (pv 0) rfl) ai)) rfl) (ah (aP (pv 1) (vq Cm rfl T.JV FU (aa (ak (pv 0) rfl) ai)) rfl) (ah (aP (pv 1) (vq Cm rfl T.JV FU (aa (ak (pv 0) rfl) ai)) rfl) (ay (aC (pv 1))))))))))))))))))),?_⟩
  intro x dx hx hdx ne
  refine⟨x,dx,rfl,af,fun H1 Tp KZ Dt yc sQ hi=>⟨rfl,?_⟩⟩
  have s1:ao H H1:=fun b o e=>hi.keep b o ((ao.mk (C:=t.c.cH) (fs:=[]) hx hdx) b o e) (aA e hx)
  have px:=hi.ins
  clear hi
  have put:∀fs,ao H (upd H1 x (.ins t.c.cH dx fs)):=fun fs=>ao.put s1 hx
  refine fZ (N:=NH) (i:=0) rfl rfl (s1 _ _ hh.ins) px T.bS T.kU (xo d s) T.bS T.kU bJ rfl (D5 rfl) (by decide) ?_
  refine fZ (N:=NH) (i:=1) rfl rfl (put _ _ _ hh.ins) af T.bS T.uN (HG d s) T.bS T.uN bJ rfl (D5 rfl) (by decide) ?_
  rw[bH]
  refine fZ (N:=NH) (i:=2) rfl rfl (put _ _ _ hh.ins) af T.bS T.rW (BA d s) T.bS T.rW bJ rfl (D5 rfl) (by decide) ?_
  rw[bH]
  refine fZ (N:=NH) (i:=3) rfl rfl (put _ _ _ hh.ins) af T.bS T.lR (ue d s) T.bS T.lR bJ rfl (D5 rfl) (by decide) ?_
  rw[bH]
  refine fZ (N:=NH) (i:=4) rfl rfl (put _ _ _ hh.ins) af T.bS T.mV (vA d s) T.bS T.mV bJ rfl (D5 rfl) (by decide) ?_
  rw[bH]
  refine fZ (N:=NH) (i:=5) rfl rfl (put _ _ _ hh.ins) af T.bS T.jt (oV d s) T.bS T.jt bJ rfl (D5 rfl) (by decide) ?_
  rw[bH]
  refine fZ (N:=NH) (i:=6) rfl rfl (put _ _ _ hh.ins) af T.bS T.qM (yH d s) T.bS T.qM bJ rfl (D5 rfl) (by decide) ?_
  rw[bH]
  refine fZ (N:=NH) (i:=7) rfl rfl (put _ _ _ hh.ins) af T.bS T.gE (jB d s) T.bS T.gE bJ rfl (D5 rfl) (by decide) ?_
  rw[bH]
  refine fZ (N:=NH) (i:=8) rfl rfl (put _ _ _ hh.ins) af T.bS T.dP (gq d s) T.bS T.dP bJ rfl (D5 rfl) (by decide) ?_
  rw[bH]
  refine fZ (N:=NH) (i:=9) rfl rfl (put _ _ _ hh.ins) af T.bS T.rX (yI d s) T.bS T.rX bJ rfl (D5 rfl) (by decide) ?_
  rw[bH]
  have s2:=put (NH.zip (aB (mG Tp KZ Dt yc sQ dx) {s with members:=[]}))
  have p2:upd H1 x (.ins t.c.cH dx (NH.zip (aB (mG Tp KZ Dt yc sQ dx) {s with members:=[]}))) x=some (.ins t.c.cH dx (NH.zip (aB (mG Tp KZ Dt yc sQ dx) {s with members:=[]}))):=af
  show BZ _ _ _ _ (upd H1 x (.ins t.c.cH dx (NH.zip (aB (mG Tp KZ Dt yc sQ dx) {s with members:=[]}))))
  clear put px s1
  generalize upd H1 x (.ins t.c.cH dx (NH.zip (aB (mG Tp KZ Dt yc sQ dx) {s with members:=[]})))=G2 at s2 p2⊢
  have Ds:=hh.mono s2
  refine⟨_,rfl,_,_,_,_,_,rfl,Ds.ins,T.bS,T.aX,bq d s,d.ml,rfl,⟨_,bD.of Ds.ml⟩,fun D hD=>k_ (K:=K) (a:=d.ml) (xs:=d.ms.map V.ref) (fun i dw=>∃as:List Addr,as.length=i∧dw D=some (.lst (as.map V.ref))∧ao G2 dw∧as.Nodup∧(∀b∈as,H b=none∧b≠x∧b≠D)∧∀(j:Nat) a m,as[j]?=some a→s.members[j]?=some m→sE t.c dw a m) ⟨[],rfl,af,ao.new hD,List.nodup_nil,fun b hb=>(by cases hb),fun j a m h=>(by simp at h)⟩ ?_ ?_ ?_⟩
  ·rintro i dw _ ⟨as,_,_,q,_⟩
   exact bD.of (q _ _ Ds.ml)
  ·rintro i y dw hy ⟨as,hlen,j0,sm,nd,fr,mem⟩
   obtain⟨a,ha,rfl⟩:=get_map hy
   obtain⟨m,da,hm,hb⟩:=Ds.JW ha
   have hb':=sm _ _ hb
   refine⟨rfl,_,rfl,a,da,_,rfl,hb',fT PD,a,m,rfl,⟨da,hb'⟩,fun H3 x3 GJ PF hm3=>?_⟩
   have i16:as.length<16:=by
    have:=(aao.mp hm).1
    omega
   have Ml:=GJ _ _ j0
   have PJ:D≠x3:=aA j0 PF
   have kk:ao dw (upd H3 D (.lst (as.map V.ref++[V.ref x3])))→True:=fun _=>trivial
   refine⟨_,Ml,?_,as++[x3],by simp[hlen],?_,?_,?_,?_,?_⟩
   ·rw[DS];exact bV (by omega)
   ·rw[af,aaz];rfl
   ·exact ao.put (sm.trans GJ) hD
   ·rw[acI]
    refine⟨nd,by simp,fun u hu v hv=>?_⟩
    rw[aa5.mp hv]
    intro e
    obtain⟨j,hj,ej⟩:=abz.mp hu
    have hjm:j<s.members.length:=by have:=(aao.mp hm).1;omega
    obtain⟨dj,zL⟩:=mem j u _ (by rw[D3 hj,ej]) (D3 hjm)
    rw[e,PF]at zL
    cases zL
   ·intro b hb2
    rcases aaV.mp hb2 with q |q
    ·exact fr b q
    ·rw[aa5.mp q]
     refine⟨ao.free (s2.trans sm) PF,fun e=>?_,PJ.symm⟩
     rw[e,sm _ _ p2]at PF
     cases PF
   ·intro j u m' hu hm'
    have QE:∀b o,H3 b=some o→b≠D→upd H3 D (.lst (as.map V.ref++[V.ref x3])) b=some o:=fun b o e n=>by rw[aq n];exact e
    by_cases hj:j<as.length
    ·rw[aaA hj]at hu
     obtain⟨dj,zL⟩:=mem j u m' hu hm'
     exact⟨dj,QE _ _ (GJ _ _ zL) (fr u (aaB hu)).2.2⟩
    ·rw[aaG (abj hj)]at hu
     cases q:j-as.length with
     |zero=>
      rw[q]at hu
      cases hu
      have ej:j=i:=by omega
      rw[ej,hm]at hm'
      cases hm'
      obtain⟨dj,zL⟩:=hm3
      exact⟨dj,QE _ _ zL PJ.symm⟩
     |succ n=>rw[q]at hu;simp at hu
  ·rintro H3 ⟨as,hlen,j0,sm,nd,fr,mem⟩
   rw[DS,hh.iC]at hlen
   have Wg:H D=none:=ao.free s2 hD
   have PJ:D≠x:=fun e=>by rw[e,p2]at hD;cases hD
   refine⟨_,rfl,x,_,dx,_,rfl,sm _ _ p2,T.bS,T.aX,aaL (g9 NH _) (by decide),?_⟩
   rw[show dS "members" (V.ref D) (NH.zip (aB (mG Tp KZ Dt yc sQ dx) {s with members:=[]}))=NH.zip (aB (mG D KZ Dt yc sQ dx) s)from cV (i:=10) _ bJ rfl (D5 rfl)]
   have s4:ao H (upd H3 x (.ins t.c.cH dx (NH.zip (aB (mG D KZ Dt yc sQ dx) s)))):=ao.put (s2.trans sm) hx
   have p4:upd H3 x (.ins t.c.cH dx (NH.zip (aB (mG D KZ Dt yc sQ dx) s))) x=some (.ins t.c.cH dx (NH.zip (aB (mG D KZ Dt yc sQ dx) s))):=af
   have m4:upd H3 x (.ins t.c.cH dx (NH.zip (aB (mG D KZ Dt yc sQ dx) s))) D=some (.lst (as.map V.ref)):=by rw[aq PJ];exact j0
   have e4:∀(j:Nat) a m,as[j]?=some a→s.members[j]?=some m→sE t.c (upd H3 x (.ins t.c.cH dx (NH.zip (aB (mG D KZ Dt yc sQ dx) s)))) a m:=fun j a m ha hm=>by
    obtain⟨dj,zL⟩:=mem j a m ha hm
    exact⟨dj,by rw[aq (fr a (aaB ha)).2.1];exact zL⟩
   generalize upd H3 x (.ins t.c.cH dx (NH.zip (aB (mG D KZ Dt yc sQ dx) s)))=G4 at s4 p4 m4 e4⊢
   have R8:=hh.mono s4
   refine⟨_,rfl,_,_,_,_,_,rfl,R8.ins,T.bS,T.gj,iU d s,d.pd,_,rfl,R8.pd,hinj,fun pd Mm=>?_⟩
   have XR:H pd=none:=ao.free s4 Mm
   have Tq:x≠pd:=aA p4 Mm
   refine⟨_,rfl,x,_,dx,_,rfl,(by rw[aq Tq];exact p4),T.bS,T.gj,aaL (g9 NH _) (by decide),?_⟩
   rw[show dS "pairs" (V.ref pd) (NH.zip (aB (mG D KZ Dt yc sQ dx) s))=NH.zip (aB (mG D pd Dt yc sQ dx) s)from cV (i:=11) _ bJ rfl (D5 rfl)]
   have s5:ao H (upd (upd G4 pd (.dT (aV d.es))) x (.ins t.c.cH dx (NH.zip (aB (mG D pd Dt yc sQ dx) s)))):=ao.put (s4.trans (ao.new Mm)) hx
   have p5:upd (upd G4 pd (.dT (aV d.es))) x (.ins t.c.cH dx (NH.zip (aB (mG D pd Dt yc sQ dx) s))) x=some (.ins t.c.cH dx (NH.zip (aB (mG D pd Dt yc sQ dx) s))):=af
   have k5:∀b o,G4 b=some o→b≠x→upd (upd G4 pd (.dT (aV d.es))) x (.ins t.c.cH dx (NH.zip (aB (mG D pd Dt yc sQ dx) s))) b=some o:=fun b o e n=>by rw[aq n];exact ao.new Mm b o e
   have n5:upd (upd G4 pd (.dT (aV d.es))) x (.ins t.c.cH dx (NH.zip (aB (mG D pd Dt yc sQ dx) s))) pd=some (.dT (aV d.es)):=by rw[aq Tq.symm];exact af
   generalize upd (upd G4 pd (.dT (aV d.es))) x (.ins t.c.cH dx (NH.zip (aB (mG D pd Dt yc sQ dx) s)))=G5 at s5 p5 k5 n5⊢
   have m5:=k5 _ _ m4 PJ
   have Wi:=hh.mono s5
   have dDp:D≠pd:=aA m4 Mm
   have WO:∀b∈as,b≠pd:=fun b hb e=>by
    obtain⟨j,hj,ej⟩:=abz.mp hb
    obtain⟨dj,zL⟩:=e4 j b _ (by rw[D3 hj,ej]) (D3 (by omega))
    rw[e,Mm]at zL;cases zL
   have e5:∀(j:Nat) a m,as[j]?=some a→s.members[j]?=some m→sE t.c G5 a m:=fun j a m ha hm=>let⟨dj,zL⟩:=e4 j a m ha hm;⟨dj,k5 _ _ zL (fr a (aaB ha)).2.1⟩
   refine⟨_,rfl,_,_,_,_,_,rfl,Wi.ins,T.bS,T.bK,cA d s,d.il,_,rfl,.inl (bD.of Wi.il),fun il hil=>?_⟩
   have XS:H il=none:=ao.free s5 hil
   have Ve:x≠il:=aA p5 hil
   refine⟨_,rfl,x,_,dx,_,rfl,(by rw[aq Ve];exact p5),T.bS,T.bK,aaL (g9 NH _) (by decide),?_⟩
   rw[show dS "invoices" (V.ref il) (NH.zip (aB (mG D pd Dt yc sQ dx) s))=NH.zip (aB (mG D pd il yc sQ dx) s)from cV (i:=12) _ bJ rfl (D5 rfl)]
   have s6:ao H (upd (upd G5 il (.lst (d.is.map V.ref))) x (.ins t.c.cH dx (NH.zip (aB (mG D pd il yc sQ dx) s)))):=ao.put (s5.trans (ao.new hil)) hx
   have p6:upd (upd G5 il (.lst (d.is.map V.ref))) x (.ins t.c.cH dx (NH.zip (aB (mG D pd il yc sQ dx) s))) x=some (.ins t.c.cH dx (NH.zip (aB (mG D pd il yc sQ dx) s))):=af
   have k6:∀b o,G5 b=some o→b≠x→upd (upd G5 il (.lst (d.is.map V.ref))) x (.ins t.c.cH dx (NH.zip (aB (mG D pd il yc sQ dx) s))) b=some o:=fun b o e n=>by rw[aq n];exact ao.new hil b o e
   have o6:upd (upd G5 il (.lst (d.is.map V.ref))) x (.ins t.c.cH dx (NH.zip (aB (mG D pd il yc sQ dx) s))) il=some (.lst (d.is.map V.ref)):=by rw[aq Ve.symm];exact af
   generalize upd (upd G5 il (.lst (d.is.map V.ref))) x (.ins t.c.cH dx (NH.zip (aB (mG D pd il yc sQ dx) s)))=G6 at s6 p6 k6 o6⊢
   have m6:=k6 _ _ m5 PJ
   have n6:=k6 _ _ n5 Tq.symm
   have ZC:=hh.mono s6
   have dDi:D≠il:=aA m5 hil
   have dpi:pd≠il:=aA n5 hil
   have fr6:∀b∈as,b≠il:=fun b hb e=>by
    obtain⟨j,hj,ej⟩:=abz.mp hb
    obtain⟨dj,zL⟩:=e5 j b _ (by rw[D3 hj,ej]) (D3 (by omega))
    rw[e,hil]at zL;cases zL
   have e6:∀(j:Nat) a m,as[j]?=some a→s.members[j]?=some m→sE t.c G6 a m:=fun j a m ha hm=>let⟨dj,zL⟩:=e5 j a m ha hm;⟨dj,k6 _ _ zL (fr a (aaB ha)).2.1⟩
   refine⟨_,rfl,_,_,_,_,_,rfl,ZC.ins,T.bS,T.gR,lK d s,d.fd,_,rfl,ZC.fd,fun fd hfd=>?_⟩
   have XT:H fd=none:=ao.free s6 hfd
   have Wj:x≠fd:=aA p6 hfd
   refine⟨_,rfl,x,_,dx,_,rfl,(by rw[aq Wj];exact p6),T.bS,T.gR,aaL (g9 NH _) (by decide),?_⟩
   rw[show dS "failures" (V.ref fd) (NH.zip (aB (mG D pd il yc sQ dx) s))=NH.zip (aB (mG D pd il fd sQ dx) s)from cV (i:=13) _ bJ rfl (D5 rfl)]
   have s7:ao H (upd (upd G6 fd (.dK (bT s.failures d.fs))) x (.ins t.c.cH dx (NH.zip (aB (mG D pd il fd sQ dx) s)))):=ao.put (s6.trans (ao.new hfd)) hx
   have p7:upd (upd G6 fd (.dK (bT s.failures d.fs))) x (.ins t.c.cH dx (NH.zip (aB (mG D pd il fd sQ dx) s))) x=some (.ins t.c.cH dx (NH.zip (aB (mG D pd il fd sQ dx) s))):=af
   have k7:∀b o,G6 b=some o→b≠x→upd (upd G6 fd (.dK (bT s.failures d.fs))) x (.ins t.c.cH dx (NH.zip (aB (mG D pd il fd sQ dx) s))) b=some o:=fun b o e n=>by rw[aq n];exact ao.new hfd b o e
   have r7:upd (upd G6 fd (.dK (bT s.failures d.fs))) x (.ins t.c.cH dx (NH.zip (aB (mG D pd il fd sQ dx) s))) fd=some (.dK (bT s.failures d.fs)):=by rw[aq Wj.symm];exact af
   generalize upd (upd G6 fd (.dK (bT s.failures d.fs))) x (.ins t.c.cH dx (NH.zip (aB (mG D pd il fd sQ dx) s)))=G7 at s7 p7 k7 r7⊢
   have m7:=k7 _ _ m6 PJ
   have n7:=k7 _ _ n6 Tq.symm
   have o7:=k7 _ _ o6 Ve.symm
   have ZD:=hh.mono s7
   have dDf:D≠fd:=aA m6 hfd
   have dpf:pd≠fd:=aA n6 hfd
   have dif:il≠fd:=aA o6 hfd
   have fr7:∀b∈as,b≠fd:=fun b hb e=>by
    obtain⟨j,hj,ej⟩:=abz.mp hb
    obtain⟨dj,zL⟩:=e6 j b _ (by rw[D3 hj,ej]) (D3 (by omega))
    rw[e,hfd]at zL;cases zL
   have e7:∀(j:Nat) a m,as[j]?=some a→s.members[j]?=some m→sE t.c G7 a m:=fun j a m ha hm=>let⟨dj,zL⟩:=e6 j a m ha hm;⟨dj,k7 _ _ zL (fr a (aaB ha)).2.1⟩
   refine⟨_,rfl,_,_,_,_,_,rfl,ZD.ins,T.bS,T.mW,vB d s,d.cd,_,rfl,ZD.cd,fun cd hcd=>?_⟩
   have XW:H cd=none:=ao.free s7 hcd
   have XX:x≠cd:=aA p7 hcd
   refine⟨_,rfl,x,_,dx,_,rfl,(by rw[aq XX];exact p7),T.bS,T.mW,aaL (g9 NH _) (by decide),?_⟩
   rw[show dS "closed" (V.ref cd) (NH.zip (aB (mG D pd il fd sQ dx) s))=NH.zip (aB (mG D pd il fd cd dx) s)from cV (i:=14) _ bJ rfl (D5 rfl)]
   have s8:ao H (upd (upd G7 cd (.dK (gu s.closed))) x (.ins t.c.cH dx (NH.zip (aB (mG D pd il fd cd dx) s)))):=ao.put (s7.trans (ao.new hcd)) hx
   have p8:upd (upd G7 cd (.dK (gu s.closed))) x (.ins t.c.cH dx (NH.zip (aB (mG D pd il fd cd dx) s))) x=some (.ins t.c.cH dx (NH.zip (aB (mG D pd il fd cd dx) s))):=af
   have k8:∀b o,G7 b=some o→b≠x→upd (upd G7 cd (.dK (gu s.closed))) x (.ins t.c.cH dx (NH.zip (aB (mG D pd il fd cd dx) s))) b=some o:=fun b o e n=>by rw[aq n];exact ao.new hcd b o e
   have c8:upd (upd G7 cd (.dK (gu s.closed))) x (.ins t.c.cH dx (NH.zip (aB (mG D pd il fd cd dx) s))) cd=some (.dK (gu s.closed)):=by rw[aq XX.symm];exact af
   generalize upd (upd G7 cd (.dK (gu s.closed))) x (.ins t.c.cH dx (NH.zip (aB (mG D pd il fd cd dx) s)))=G8 at s8 p8 k8 c8⊢
   have dDc:D≠cd:=aA m7 hcd
   have dpc:pd≠cd:=aA n7 hcd
   have dic:il≠cd:=aA o7 hcd
   have dfc:fd≠cd:=aA r7 hcd
   have fr8:∀b∈as,b≠cd:=fun b hb e=>by
    obtain⟨j,hj,ej⟩:=abz.mp hb
    obtain⟨dj,zL⟩:=e7 j b _ (by rw[D3 hj,ej]) (D3 (by omega))
    rw[e,hcd]at zL;cases zL
   have hfr:∀b∈muts x ⟨D,pd,il,fd,cd,dx,as,d.es,d.is,d.fs⟩,H b=none:=fun b hb=>by
    unfold muts at hb
    simp only[aas]at hb
    rcases hb with q |q |q |q |q |q |q
    ·rw[q];exact hx
    ·rw[q];exact Wg
    ·rw[q];exact XR
    ·rw[q];exact XS
    ·rw[q];exact XT
    ·rw[q];exact XW
    ·exact(fr b q).1
   have ZE:=hh.mono s8
   refine⟨_,rfl,k G8 x ⟨D,pd,il,fd,cd,dx,as,d.es,d.is,d.fs⟩ s8 hfr rfl ⟨p8,k8 _ _ m7 PJ,hlen,fun j a m ha hm=>?_,k8 _ _ n7 Tq.symm,hh.pp,k8 _ _ o7 Ve.symm,hh.iD,k8 _ _ r7 Wj.symm,hh.pT,c8,?_,ZE.tb,?_,?_,ZE.zz⟩⟩
   ·obtain⟨dj,zL⟩:=e7 j a m ha hm
    exact⟨dj,k8 _ _ zL (fr a (aaB ha)).2.1⟩
   ·have Tr:∀a,(∃o,H a=some o)→a≠Z→Im Z x ⟨D,pd,il,fd,cd,dx,as,d.es,d.is,d.fs⟩ a:=fun a ⟨o,e⟩ nz=>⟨fun q=>(by rw[hfr a q]at e;cases e),nz⟩
    refine⟨fun q hq=>?_,fun j a y ha hy=>?_,fun j a f ha hf=>?_⟩
    ·obtain⟨⟨dq,e⟩,i⟩:=hh.im.pr q hq
     exact⟨⟨dq,s8 _ _ e⟩,Tr _ ⟨_,e⟩ i.2⟩
    ·obtain⟨⟨dq,e⟩,i⟩:=hh.im.inv j a y ha hy
     exact⟨⟨dq,s8 _ _ e⟩,Tr _ ⟨_,e⟩ i.2⟩
    ·obtain⟨df,b,lo,la,g1,⟨⟨db,g2⟩,g3⟩,g4,i1,i2,i3,i4⟩:=hh.im.fail j a f ha hf
     exact⟨df,b,lo,la,s8 _ _ g1,⟨⟨db,s8 _ _ g2⟩,s8 _ _ g3⟩,s8 _ _ g4,Tr _ ⟨_,g1⟩ i1.2,Tr _ ⟨_,g2⟩ i2.2,Tr _ ⟨_,g3⟩ i3.2,Tr _ ⟨_,g4⟩ i4.2⟩
   ·show(x::D::pd::il::fd::cd::as).Nodup
    simp only[aaO,aas,not_or]
    exact⟨⟨PJ.symm,Tq,Ve,Wj,XX,fun q=>(fr x q).2.1 rfl⟩,⟨dDp,dDi,dDf,dDc,fun q=>(fr D q).2.2 rfl⟩,⟨dpi,dpf,dpc,fun q=>WO pd q rfl⟩,⟨dif,dic,fun q=>fr6 il q rfl⟩,⟨dfc,fun q=>fr7 fd q rfl⟩,fun q=>fr8 cd q rfl,nd⟩
   ·intro q
    obtain⟨o,e⟩:=hh.zz
    rw[hfr Z q]at e;cases e
end
theorem zm:("with_rest":Str)∉NI:=by decide+kernel
theorem Gp:("with_bill":Str)∉NP:=by decide+kernel
theorem Gq:("with_item":Str)∉NP:=by decide+kernel
theorem AU:("is_all_seen":Str)∉NP:=by decide+kernel
theorem CY:("is_overdue":Str)∉NI:=by decide+kernel
theorem r_:("pair_of":Str)∉NH:=by decide+kernel
theorem PK:("twin":Str)∉NH:=by decide+kernel
theorem vI(N:List Str)(vs:List V)(h:Nat.ble N.length 999=true):(N.zip vs).length<1000:=aaL (g9 N vs) (Nat.lt_succ_of_le (D5 h))
theorem K0{l:List Addr}{n:Nat}{a:Addr}(h0:0<n)(h:l[n-1]?=some a):M7 (l.map V.ref) ((n:Int)-1)=some (V.ref a):=Tn h0 (by rw[HD,h];rfl)
theorem aj.one{c:Cs}{H:Hp}{Z p:Addr}{d:AD}{s:State}(h:aj c H Z p d s){m:Nat}{x:Member}(hx:member? s m=some x):0<m∧∃a dx,d.ms[m-1]?=some a∧s.members[m-1]?=some x∧H a=some (.ins c.cM dx (NM.zip (dB x))):=
 let⟨h0,h1⟩:=jq hx
 let⟨a,dx,h2,h3⟩:=h.addr h1
 ⟨h0,a,dx,h2,h1,h3⟩
theorem aj.CZ{c:Cs}{H:Hp}{Z p:Addr}{d:AD}{s:State}(h:aj c H Z p d s){m:Nat}{x:Member}{a dx:Addr}{g:Member→Member}(hx:member? s m=some x)(ha:d.ms[m-1]?=some a):aj c (upd H a (.ins c.cM dx (NM.zip (dB (g x))))) Z p d (setMember s m g):=by
 rw[mL hx]
 exact h.RD ha (jq hx).2
theorem gn{s:State}{m:Nat}{x:Member}{g:Member→Member}(hx:member? s m=some x):member? (setMember s m g) m=some (g x):=by
 rw[i_ s (jq hx).1,D7 rfl,hx]
 rfl
section
variable{P:Program}{w:World}{K:W.Frag}{mg:Str→Option Value}{base:Heap}{t:TX}
def xU(t:TX):Sp:=fun vs H Q _=>∃Z p d s m c x,vs=[.ref p,vn m,vn c]∧aj t.c H Z p d s∧s.invoices.length≤300∧member? s m=some x∧∀H' d',aM H p d H' d'→d'.es=d.es→aj t.c H' Z p d' (credited s m c)→Q .lJ H'
theorem ou(T:Txt K mg t):bE P w K mg t.b fG 4 (t.f 32) (t.fd 32) ["house","number","money"] (xU t):=by
 have iQ:=lU (P:=P) (w:=w) T
 refine T.cY.ok dD (fun vs H Q E h=>?_) (fun cdv A outer s0 H vs Q E hr h=>?_)
 ·obtain⟨Z,p,d,s,m,c,x,rfl,_⟩:=h
  rfl
 ·obtain⟨Z,p,d,s,m,c,x,rfl,hh,Ij,hx,k⟩:=h
  refine⟨_,(ah (aE (i:=3) dD.nd rfl (Or.inl rfl) (pv 2)) (ah (aE (i:=4) dD.nd rfl (Or.inl rfl) (aK ai)) (ah (lY abd rfl (fS (ak (pv 0) rfl)) (bC (i:=5) dD.nd rfl (Or.inl rfl)) (ah (aE (i:=6) dD.nd rfl (Or.inl rfl) (iT (aU j9 (ak (pv 5) rfl) (pv 1) (bh _)) (aQ (kj rfl) rfl T.CK xr (aa (ak (pv 5) rfl) (aa (pv 3) ai))) aG)) (ah (Jf (i:=3) dD.nd rfl (Or.inl rfl) (pv 6) Jg) (ay (eE (su aaT abf abg jm (pv 4) (aa (iT (aU yr (pv 6) aG (bh _)) (jy (pv 5) T.rV T.lQ iQ (hr.mono (by decide)) (mz T.iO) .nil aI (aa (aW bP (ak (pv 5) rfl) (pv 6)) ai)) (pv 5)) ai))))))) (ah (aP (pv 0) (pv 4) rfl) (ay (bN (cz bL (ak (pv 0) rfl) (aW bP (pv 1) aG) (fun _ _=>rfl)) (pv 3) lZ)))))),?_⟩
  refine⟨_,rfl,lz rfl,fun L hL=>?_⟩
  have s0:=ao.new (o:=.lst []) hL
  have QM:=hh.mono s0
  obtain⟨nL,_⟩:=hh.h_ hL
  refine⟨_,rfl,_,_,_,_,_,rfl,QM.ins,T.bS,T.bK,cA d s,d.il,rfl,⟨_,bD.of QM.il⟩,tU (K:=K) (a:=d.il) (xs:=d.is.map V.ref) (fun i σ H'=>∃v5 v6 as,σ=[some (.ref p),some (vn m),some (vn c),some (vn (onInvoices m c (s.invoices.take i)).2),some (.ref L),v5,v6]∧ao H H'∧as.length=i∧H' L=some (.lst (as.map V.ref))∧∀(j:Nat) b y,as[j]?=some b→(onInvoices m c (s.invoices.take i)).1[j]?=some y→oU t.c H' b y∧Im Z p d b∧b≠L) ⟨none,none,[],rfl,s0,rfl,af,fun j b y h=>(by simp at h)⟩ (fun i σ H' _ ⟨_,_,_,_,sm,_⟩=>bD.of (sm _ _ hh.il)) ?_ ?_⟩
  ·rintro i y σ H' hi ⟨v5,v6,as,rfl,sm,hlen,hL',pt⟩
   obtain⟨a,ha,rfl⟩:=get_map hi
   obtain⟨y,dy,hy,hb,im⟩:=hh.xP ha
   have hb':=sm _ _ hb
   have hi':i<s.invoices.length:=(aao.mp hy).1
   have naL:a≠L:=aA hb hL
   have e1:=Ko m y (s.invoices.take i) c
   rw[←aa6 hy]at e1
   have Vf:(onInvoices m c (s.invoices.take i)).1.length=i:=by rw[qA,aaH];omega
   obtain⟨tk,htk,hst⟩:∃tk:Nat,tk=(if y.m=m then min y.rest (onInvoices m c (s.invoices.take i)).2 else 0)∧True:=⟨_,rfl,trivial⟩
   have hleft:(onInvoices m c (s.invoices.take (i+1))).2=(onInvoices m c (s.invoices.take i)).2-tk∧tk≤(onInvoices m c (s.invoices.take i)).2:=by
    rw[e1,htk]
    split
    ·exact⟨by show _-_=_;omega,by omega⟩
    ·exact⟨by show _=_;omega,by omega⟩
   have QF:(onInvoices m c (s.invoices.take (i+1))).1=(onInvoices m c (s.invoices.take i)).1++[{y with rest:=y.rest-tk}]∧tk≤y.rest:=by
    rw[e1,htk]
    split
    ·refine⟨?_,by omega⟩
     show _++[{y with rest:=y.rest-(onInvoices m c (s.invoices.take i)).2}]=_
     congr 3
     omega
    ·exact⟨rfl,aa0 _⟩
   have body:∀H3,ao H' H3→∀b,oU t.c H3 b {y with rest:=y.rest-tk}→Im Z p d b→b≠L→
    ∃v5 v6,∃as':List Addr,([some (.ref p),some (vn m),some (vn c),some (vn ((onInvoices m c (s.invoices.take i)).2-tk)),some (.ref L),some (V.ref a),some (vn tk)]:L2.St)=[some (.ref p),some (vn m),some (vn c),some (vn (onInvoices m c (s.invoices.take (i+1))).2),some (.ref L),v5,v6]∧ao H (upd H3 L (.lst (as.map V.ref++[V.ref b])))∧as'.length=i+1∧upd H3 L (.lst (as.map V.ref++[V.ref b])) L=some (.lst (as'.map V.ref))∧
    ∀(j:Nat) b' y',as'[j]?=some b'→(onInvoices m c (s.invoices.take (i+1))).1[j]?=some y'→oU t.c (upd H3 L (.lst (as.map V.ref++[V.ref b]))) b' y'∧Im Z p d b'∧b'≠L:=by
    intro H3 GJ b XY XZ ZF
    refine⟨_,_,as++[b],by rw[hleft.1],ao.put (sm.trans GJ) hL,by simp[hlen],by rw[af,aaz];rfl,fun j b' y' hb' hy'=>?_⟩
    have kk:∀u o,H3 u=some o→u≠L→upd H3 L (.lst (as.map V.ref++[V.ref b])) u=some o:=fun u o e n=>by rw[aq n];exact e
    rw[QF.1]at hy'
    by_cases hj:j<i
    ·rw[aaA (by omega)]at hb'
     rw[aaA (by omega)]at hy'
     obtain⟨⟨dq,hq⟩,X0,nq⟩:=pt j b' y' hb' hy'
     exact⟨⟨dq,kk _ _ (GJ _ _ hq) nq⟩,X0,nq⟩
    ·rw[aaG (by omega)]at hb' hy'
     have e2:j-as.length=j-i:=by omega
     have e3:j-(onInvoices m c (s.invoices.take i)).1.length=j-i:=by omega
     rw[e2]at hb'
     rw[e3]at hy'
     cases q:j-i with
     |zero=>
      rw[q]at hb' hy'
      cases hb'
      cases hy'
      obtain⟨dq,hq⟩:=XY
      exact⟨⟨dq,kk _ _ hq ZF⟩,XZ,ZF⟩
     |succ n=>rw[q]at hb';simp at hb'
   have zero:tk=0→oU t.c H' a {y with rest:=y.rest-tk}:=fun e=>by
    rw[e]
    exact⟨dy,hb'⟩
   have fin:∀(σ:L2.St),σ=[some (.ref p),some (vn m),some (vn c),some (vn (onInvoices m c (s.invoices.take i)).2),some (.ref L),some (V.ref a),some (vn tk)]→True:=fun _ _=>trivial
   refine⟨_,rfl,_,_,_,_,_,rfl,hb',T.rV,T.bF,g_ y,_,rfl,rfl,_,rfl,?_⟩
   have next:∀(Q:VK),(Q (vn tk) H')→(if decide (V.int (y.m:Int)=vn m)=true then
    (WV (fun xs H Q=>∃i j,xs=[V.int i,V.int j]∧Q (V.int (if j<i then j else i)) H) (jx (DA K (j7 5) "rest") (jx (j7 3) vM))) [some (.ref p),some (vn m),some (vn c),some (vn (onInvoices m c (s.invoices.take i)).2),some (.ref L),some (V.ref a),v6] H' Q else tC (.int 0) [some (.ref p),some (vn m),some (vn c),some (vn (onInvoices m c (s.invoices.take i)).2),some (.ref L),some (V.ref a),v6] H' Q):=by
    intro Q q
    by_cases hm:y.m=m
    ·refine uR (by rw[hm]) ⟨_,rfl,_,_,_,_,_,rfl,hb',T.rV,T.mS,oW y,_,rfl,_,_,rfl,?_⟩
     rw[xT]
     rw[D7 hm]at htk
     rw[←htk]
     exact q
    ·refine tD (fun z=>hm (by have:=bG z;omega)) ?_
     rw[D6 hm]at htk
     rw[htk]at q
     exact q
   refine next _ ?_
   refine⟨_,rfl,_,rfl,_,_,rfl,rfl,?_⟩
   have e4:(((onInvoices m c (s.invoices.take i)).2:Nat):Int)-(tk:Int)=(((onInvoices m c (s.invoices.take i)).2-tk:Nat):Int):=by have:=hleft.2;omega
   dsimp only
   rw[e4]
   refine⟨_,rfl,.inl ⟨rfl,_,bD.of hL'⟩,_,rfl,_,_,rfl,rfl,_,rfl,?_⟩
   by_cases h0:tk=0
   ·refine tD (by omega) ⟨_,rfl,L,_,_,rfl,rfl,hL',?_,body H' (ao.refl H') a (zero h0) im naL⟩
    rw[DS];exact bV (by omega)
   ·refine uR (by omega) ⟨_,rfl,a,dy,_,rfl,hb',fT zm,_,rfl,_,_,_,_,_,rfl,hb',T.rV,T.mS,oW y,_,rfl,_,_,rfl,rfl,?_⟩
    have e5:(y.rest:Int)-(tk:Int)=((y.rest-tk:Nat):Int):=by have:=QF.2;omega
    dsimp only
    rw[e5]
    refine⟨a,y,y.rest-tk,rfl,⟨dy,hb'⟩,fun x3 ZG PF X3 ne3=>?_⟩
    have GJ:ao H' (zK H' ZG x3 t.c.cI (NI.zip (xg {y with rest:=y.rest-tk}))):=ao.mk PF X3
    refine⟨L,_,_,rfl,rfl,GJ _ _ hL',?_,body _ GJ x3 ⟨ZG,pU⟩ (hh.uf (ao.free sm PF)) (aA hL' PF).symm⟩
    rw[DS];exact bV (by omega)
  ·rintro σ H' ⟨v5,v6,as,rfl,sm,hlen,hL',pt⟩
   rw[DS,hh.iD]at hlen pt
   rw[DS,hh.iD,aaM]
   rw[aaM]at pt
   have IF:=hh.mono sm
   refine⟨_,rfl,_,rfl,p,_,d.dx,_,rfl,IF.ins,T.bS,T.bK,vI NH _ rfl,?_⟩
   rw[yJ]
   obtain⟨h1,kp⟩:=hh.Qz sm hL (l':=(onInvoices m c s.invoices).1) hL' (by rw[qA];exact hlen) pt
   have Gr:member? {s with invoices:=(onInvoices m c s.invoices).1} m=some x:=hx
   obtain⟨m0,a,dx,ha,_,hb⟩:=h1.one Gr
   refine⟨_,rfl,_,_,_,_,_,rfl,h1.ins,T.bS,T.aX,bq _ _,_,rfl,_,_,rfl,rfl,d.ml,_,_,_,rfl,rfl,bD.of h1.ml,K0 m0 ha,_,_,_,_,_,rfl,hb,T.kT,T.ig,lg x,_,rfl,_,_,rfl,rfl,dx,_,hb,vI NM _ rfl,?_⟩
   rw[show dS "pool" (V.int ((x.pool:Int)+(((onInvoices m c s.invoices).2:Nat):Int))) (NM.zip (dB x))=_ from FP x (x.pool+(onInvoices m c s.invoices).2)]
   exact k _ _ (kp.trans (aM.upd (aj.gv ha))) rfl (h1.CZ (g:=fun y=>{y with pool:=y.pool+(onInvoices m c s.invoices).2}) Gr ha)
end
theorem X4(z:Int):(if z>0 then z else 0)=((z.toNat:Nat):Int):=by split<;>omega
def uY(s:State)(m q:Nat)(b1 b2:Int):State:=
 if b1+b2<0 then credited (gG s ⟨m,q,b1,b2,s.today+s.terms,(b1+b2).toNat⟩) m (-(b1+b2)).toNat
 else credited (emptied (gG s ⟨m,q,b1,b2,s.today+s.terms,(b1+b2).toNat⟩) m) m (poolOf s m)
theorem aM.N1{H H':Hp}{p:Addr}{d d1 d2:AD}(k:aM H p d H' d1)(e:muts p d2=muts p d1):aM H p d H' d2:=⟨k.keep,fun b h=>k.grow b (e▸h),k.Ce⟩
section
variable{P:Program}{w:World}{K:W.Frag}{mg:Str→Option Value}{base:Heap}{t:TX}
def Bd(t:TX):Sp:=fun vs H Q _=>∃Z p d s m q b1 b2 x,vs=[.ref p,vn m,vn q,.int b1,.int b2]∧aj t.c H Z p d s∧s.invoices.length<300∧member? s m=some x∧∀H' d',aM H p d H' d'→d'.es=d.es→aj t.c H' Z p d' (uY s m q b1 b2)→Q .lJ H'
theorem Be(T:Txt K mg t):bE P w K mg t.b fG 5 (t.f 33) (t.fd 33) ["house","number","period","cents","tax"] (Bd t):=by
 have oi:=sO (P:=P) (w:=w) T
 have gF:=ou (P:=P) (w:=w) T
 refine T.nN.ok gc (fun vs H Q E h=>?_) (fun cdv A outer s0 H vs Q E hr h=>?_)
 ·obtain⟨Z,p,d,s,m,q,b1,b2,x,rfl,_⟩:=h
  rfl
 ·obtain⟨Z,p,d,s,m,q,b1,b2,x,rfl,hh,Ij,hx,k⟩:=h
  refine⟨_,(ah (aE (i:=5) gc.nd rfl (Or.inl rfl) (aW iB (pv 3) (pv 4))) (ah (aE (i:=6) gc.nd rfl (Or.inl rfl) (aW iB (ak (pv 0) rfl) (ak (pv 0) rfl))) (ah (eE (su aaT abf abg jm (ak (pv 0) rfl) (aa (oQ T.EY oi (hr.mono (by decide)) rfl T.EX (uE T.nJ) .nil aI (aa (pv 1) (aa (pv 2) (aa (pv 3) (aa (pv 4) (aa (pv 6) (aa (aQ (zS rfl) rfl T.NU JD (aa aG (aa (pv 5) ai))) ai))))))) ai))) (ay (bZ (aU tV (pv 5) aG (bh _)) (ay (eE (aF gF (hr.mono (by decide)) rfl T.jS T.cY.kp (jP T.cY) .nil aI (aa (pv 0) (aa (pv 1) (aa (B3 wX (pv 5)) ai)))))) (ah (aE (i:=7) gc.nd rfl (Or.inl rfl) (cz bL (ak (pv 0) rfl) (aW bP (pv 1) aG) (fun _ _=>rfl))) (ah (aE (i:=8) gc.nd rfl (Or.inl rfl) (ak (pv 7) rfl)) (ah (aP (pv 7) aG rfl) (ay (eE (aF gF (hr.mono (by decide)) rfl T.jS T.cY.kp (jP T.cY) .nil aI (aa (pv 0) (aa (pv 1) (aa (pv 8) ai)))))))))))))),?_⟩
  refine⟨_,rfl,_,rfl,_,_,rfl,rfl,?_⟩
  refine⟨_,rfl,_,_,_,_,_,rfl,hh.ins,T.bS,T.lR,ue d s,_,rfl,_,_,_,_,_,rfl,hh.ins,T.bS,T.uN,HG d s,_,_,rfl,rfl,?_⟩
  refine⟨_,rfl,_,_,_,_,_,rfl,hh.ins,T.bS,T.bK,cA d s,.inl ⟨rfl,_,bD.of hh.il⟩,_,rfl,_,rfl,_,rfl,_,rfl,_,rfl,_,rfl,_,_,rfl,?_⟩
  rw[X4]
  intro y dy hy PL ne
  refine⟨y,dy,⟨m,q,b1,b2,s.today+s.terms,(b1+b2).toNat⟩,rfl,af,rfl,?_⟩
  rw[bH]
  have s1:ao H (zK H dy y t.c.cI (NI.zip (xg ⟨m,q,b1,b2,s.today+s.terms,(b1+b2).toNat⟩))):=ao.mk hy PL
  have i9:=hh.mono s1
  refine⟨d.il,_,_,rfl,rfl,i9.il,by rw[DS,hh.iD];exact bV (by omega),?_⟩
  have h2:=i9.Xh (b:=y) (x:=⟨m,q,b1,b2,s.today+s.terms,(b1+b2).toNat⟩) ⟨dy,pU⟩ (hh.uf hy)
  have k2:aM H p d _ {d with is:=d.is++[y]}:=((aM.same s1).trans (aM.upd (d:=d) (o:=.lst (d.is.map V.ref++[V.ref y])) (aj.Ju (p:=p) (d:=d)))).N1 rfl
  refine⟨_,rfl,_,_,rfl,rfl,_,rfl,?_⟩
  have Mw:member? (gG s ⟨m,q,b1,b2,s.today+s.terms,(b1+b2).toNat⟩) m=some x:=hx
  have l2:(gG s ⟨m,q,b1,b2,s.today+s.terms,(b1+b2).toNat⟩).invoices.length≤300:=by
   show(s.invoices++[_]).length≤300
   rw[aat];simp;omega
  by_cases h0:b1+b2<0
  ·refine uR h0 ⟨_,rfl,_,rfl,_,rfl,_,rfl,?_⟩
   have e: -(b1+b2)=(((-(b1+b2)).toNat:Nat):Int):=by omega
   dsimp only
   rw[e]
   refine⟨Z,p,_,_,m,_,x,rfl,h2,l2,Mw,fun H' d' kp es IF=>k H' d' (k2.trans kp) es ?_⟩
   unfold uY
   rw[D7 h0]
   exact IF
  ·refine tD h0 ?_
   obtain⟨m0,a,da,ha,_,hb⟩:=h2.one Mw
   refine⟨_,rfl,_,_,_,_,_,rfl,h2.ins,T.bS,T.aX,bq _ _,_,rfl,_,_,rfl,rfl,d.ml,_,_,_,rfl,rfl,bD.of h2.ml,K0 m0 ha,?_⟩
   refine⟨_,rfl,_,_,_,_,_,rfl,hb,T.kT,T.ig,lg x,?_⟩
   refine⟨_,rfl,a,_,da,_,rfl,hb,T.kT,T.ig,vI NM _ rfl,?_⟩
   rw[show dS "pool" (V.int 0) (NM.zip (dB x))=_ from FP x 0]
   have h3:=h2.CZ (dx:=da) (g:=fun y=>{y with pool:=0}) Mw ha
   have k3:=k2.trans (aM.upd (o:=.ins t.c.cM da (NM.zip (dB {x with pool:=0}))) (aj.gv (p:=p) ha))
   have e:poolOf s m=x.pool:=by unfold poolOf;rw[hx];rfl
   refine⟨_,rfl,_,rfl,_,rfl,Z,p,_,_,m,x.pool,_,rfl,h3,l2,gn Mw,fun H' d' kp es IF=>k H' d' (k3.trans kp) es ?_⟩
   unfold uY
   rw[D6 h0,e]
   exact IF
def Av(t:TX):Sp:=fun vs H Q _=>∃a e,vs=[.ref a]∧kr t.c H a e∧Q (.int (centsOf e.total-e.cents)) H
theorem qP(T:Txt K mg t):bE P w K mg t.b fG 2 (t.f 34) (t.fd 34) ["pair"] (Av t):=by
 have fM:=jU (P:=P) (w:=w) T
 refine T.gi.ok Aa (fun vs H Q E h=>?_) (fun cdv A outer s0 H vs Q E hr h=>?_)
 ·obtain⟨a,e,rfl,_⟩:=h
  rfl
 ·obtain⟨a,e,rfl,⟨da,ha⟩,k⟩:=h
  refine⟨_,(ay (aC (aW bP (aF fM (hr.mono (by decide)) rfl T.kP T.dF.kp (kJ T.dF) .nil aI (aa (ak (pv 0) rfl) ai)) (ak (pv 0) rfl)))),?_⟩
  exact⟨_,rfl,_,_,_,_,_,rfl,ha,T.xM,T.gQ,iV e,_,rfl,_,rfl,_,_,_,_,_,rfl,ha,T.xM,T.qL,vC e,_,_,rfl,rfl,k⟩
def C0(t:TX):Sp:=fun vs H Q _=>∃a e r,vs=[.ref a,vn r]∧kr t.c H a e∧r≤10000∧Q (.int (taxOf r (centsOf e.total)-e.tax)) H
theorem uZ(T:Txt K mg t):bE P w K mg t.b fG 2 (t.f 35) (t.fd 35) ["pair","rate"] (C0 t):=by
 have fM:=jU (P:=P) (w:=w) T
 have ow:=sN (P:=P) (w:=w) T
 refine T.iX.ok Cq (fun vs H Q E h=>?_) (fun cdv A outer s0 H vs Q E hr h=>?_)
 ·obtain⟨a,e,r,rfl,_⟩:=h
  rfl
 ·obtain⟨a,e,r,rfl,⟨da,ha⟩,hr',k⟩:=h
  refine⟨_,(ay (aC (aW bP (aF ow (hr.mono (by decide)) rfl T.uM T.gO.kp (uC T.gO) .nil aI (aa (aF fM (hr.mono (by decide)) rfl T.kP T.dF.kp (kJ T.dF) .nil aI (aa (ak (pv 0) rfl) ai)) (aa (pv 1) ai))) (ak (pv 0) rfl)))),?_⟩
  exact⟨_,rfl,_,_,_,_,_,rfl,ha,T.xM,T.gQ,iV e,_,rfl,_,rfl,_,r,rfl,hr',_,rfl,_,_,_,_,_,rfl,ha,T.xM,T.gr,iW e,_,_,rfl,rfl,k⟩
theorem zo(s:State)(m q:Nat):billed s m q=if due s m q=0 then lG s m q else uY (lG s m q) m q (billOf s m q).1 (billOf s m q).2:=by
 rw[ki]
 by_cases h:due s m q=0
 ·rw[D7 h,D7 h]
 ·rw[D6 h,D6 h]
  unfold uY
  have e1:poolOf (lG s m q) m=poolOf s m:=by
   unfold lG
   by_cases hm:0<m
   ·rw[wN _ hm,D7 rfl]
    rfl
   ·have:m=0:=by omega
    subst this
    rfl
  rw[e1]
  rfl
theorem sR{s:State}{m q:Nat}(hs:s.entries.Pairwise wL):(bO s m q).m=m∧(bO s m q).period=q:=oK s hs
def Gs(t:TX):Sp:=fun vs H Q _=>∃Z p d s m q x,vs=[.ref p,vn m,vn q]∧aj t.c H Z p d s∧s.entries.Pairwise wL∧s.entries.length≤256∧hasEntry s m q=true∧s.rate≤10000∧s.invoices.length<300∧member? s m=some x∧
 ∀H' d',aM H p d H' d'→aj t.c H' Z p d' (billed s m q)→Q .lJ H'
theorem zq(T:Txt K mg t):bE P w K mg t.b fG 6 (t.f 36) (t.fd 36) ["house","number","period"] (Gs t):=by
 have Aw:=zg (P:=P) (w:=w) T
 have mh:=qP (P:=P) (w:=w) T
 have C1:=Be (P:=P) (w:=w) T
 have qz:=uZ (P:=P) (w:=w) T
 refine T.lO.ok jJ (fun vs H Q E h=>?_) (fun cdv A outer s0 H vs Q E hr h=>?_)
 ·obtain⟨Z,p,d,s,m,q,x,rfl,_⟩:=h
  rfl
 ·obtain⟨Z,p,d,s,m,q,x,rfl,hh,hs,aah,he,Vg,Ij,hx,k⟩:=h
  have hu:=yF hr
  refine⟨_,(ah (aE (i:=3) jJ.nd rfl (Or.inl rfl) (O0 hu (ak (pv 0) rfl) (aZ (aa (pv 1) (aa (pv 2) ai))) (fun _ _=>rfl))) (ah (aE (i:=4) jJ.nd rfl (Or.inl rfl) (aF mh (hr.mono (by decide)) rfl T.sM T.gi.kp (sL T.gi) .nil aI (aa (pv 3) ai))) (ah (aE (i:=5) jJ.nd rfl (Or.inl rfl) (aF qz (hr.mono (by decide)) rfl T.wA T.iX.kp (wo T.iX) .nil aI (aa (pv 3) (aa (ak (pv 0) rfl) ai)))) (ah (aE (i:=6) jJ.nd rfl (Or.inl rfl) (aW bP (ak (pv 3) rfl) (ak (pv 3) rfl))) (ah (bN (cz bL (ak (pv 0) rfl) (aW bP (pv 1) aG) (fun _ _=>rfl)) (pv 6) m9) (ah (bN (pv 0) (aW bP (pv 6) (aW wW (au rfl T.dZ ri) (pv 4))) lZ) (ah (bN (pv 0) (pv 5) m9) (ah (yE hu (ak (pv 0) rfl) (aZ (aa (pv 1) (aa (pv 2) ai))) (jy (pv 3) T.xM T.yV Aw (hr.mono (by decide)) (Ae T.qJ) .nil aI (aa (pv 4) (aa (pv 5) ai))) rfl) (ay (bZ (aU j_ (aW iB (pv 4) (pv 5)) aG (bh _)) (ay (eE (aF C1 (hr.mono (by decide)) rfl T.CA T.nN.kp (Ct T.nN) .nil aI (aa (pv 0) (aa (pv 1) (aa (pv 2) (aa (pv 4) (aa (pv 5) ai)))))))) bw)))))))))),?_⟩
  refine⟨_,rfl,_,_,_,_,_,rfl,hh.ins,T.bS,T.gj,iU d s,_,rfl,_,rfl,lz rfl,fun tp htp=>?_⟩
  have s1:=ao.new (o:=.tup [vn m,vn q]) htp
  have i9:=hh.mono s1
  obtain⟨pa,hv,hpa,ZH⟩:∃a,gI (aV d.es) (pk m q)=some (.ref a)∧kr t.c (upd H tp (.tup [vn m,vn q])) a (entryOf s m q)∧Im Z p d a:=by
   rcases i9.pair hs m q with⟨_,a,e1,e2,e3⟩ |⟨e1,_⟩
   ·exact⟨a,e1,e2,e3⟩
   ·rw[he]at e1;cases e1
  have dg:=oF.t (k:=pk m q) i9.pd (b:=tp) (af (H:=H) (a:=tp) (o:=.tup [vn m,vn q]))
  rw[hv]at dg
  refine⟨d.pd,_,rfl,dg,?_⟩
  generalize upd H tp (.tup [vn m,vn q])=H1 at s1 i9 hpa dg⊢
  refine⟨_,rfl,pa,entryOf s m q,rfl,hpa,?_⟩
  refine⟨_,rfl,_,rfl,_,_,_,_,_,rfl,i9.ins,T.bS,T.rW,BA d s,pa,entryOf s m q,s.rate,rfl,hpa,Vg,?_⟩
  obtain⟨Vh,Tu⟩:=hpa
  refine⟨_,rfl,_,_,_,_,_,rfl,Tu,T.xM,T.gQ,iV (entryOf s m q),_,rfl,_,_,_,_,_,rfl,Tu,T.xM,T.yX,BB (entryOf s m q),_,_,rfl,rfl,?_⟩
  obtain⟨m0,a,dx,ha,_,hb⟩:=i9.one hx
  refine⟨_,rfl,_,_,_,_,_,rfl,i9.ins,T.bS,T.aX,bq d s,_,rfl,_,_,rfl,rfl,d.ml,_,_,_,rfl,rfl,bD.of i9.ml,K0 m0 ha,_,_,_,_,_,rfl,hb,T.kT,T.fR,jo x,_,rfl,_,_,rfl,rfl,dx,_,hb,vI NM _ rfl,?_⟩
  dsimp only
  rw[AN]
  have h2:=i9.CZ (dx:=dx) (g:=fun y=>{y with unbilled:=y.unbilled-((entryOf s m q).total-(entryOf s m q).seen)}) hx ha
  have k2:aM H p d _ d:=(aM.same s1).trans (aM.upd (o:=.ins t.c.cM dx (NM.zip (dB {x with unbilled:=x.unbilled-((entryOf s m q).total-(entryOf s m q).seen)}))) (aj.gv (p:=p) ha))
  have npa:pa≠a:=fun e=>ZH.1 (by rw[e];exact aj.gv ha)
  have Vi:upd H1 a (.ins t.c.cM dx (NM.zip (dB {x with unbilled:=x.unbilled-((entryOf s m q).total-(entryOf s m q).seen)}))) pa=some (.ins t.c.cP Vh (NP.zip (f_ (entryOf s m q)))):=by rw[aq npa];exact Tu
  generalize upd H1 a (.ins t.c.cM dx (NM.zip (dB {x with unbilled:=x.unbilled-((entryOf s m q).total-(entryOf s m q).seen)})))=H2 at h2 k2 Vi⊢
  generalize eG:setMember s m (fun y=>{y with unbilled:=y.unbilled-((entryOf s m q).total-(entryOf s m q).seen)})=sG at h2
  refine⟨_,rfl,_,_,_,_,_,rfl,h2.ins,T.bS,T.jt,oV _ _,_,rfl,_,rfl,_,_,rfl,rfl,.inl ⟨by decide,by decide⟩,_,_,rfl,rfl,_,_,rfl,rfl,d.dx,_,h2.ins,vI NH _ rfl,?_⟩
  dsimp only
  rw[FO]
  have h3:=h2.sY (s':={sG with rounding:=sG.rounding+((entryOf s m q).total-(entryOf s m q).seen-1000*(centsOf (entryOf s m q).total-(entryOf s m q).cents))}) rfl rfl rfl rfl rfl
  generalize e3:({sG with rounding:=sG.rounding+((entryOf s m q).total-(entryOf s m q).seen-1000*(centsOf (entryOf s m q).total-(entryOf s m q).cents))}:State)=s3 at h3⊢
  have k3:aM H p d _ d:=k2.trans (aM.upd (o:=.ins t.c.cH d.dx (NH.zip (aB d s3))) (aj.gJ (d:=d)))
  have Tv:pa≠p:=fun e=>ZH.1 (by rw[e];exact aj.gJ)
  have Vj:upd H2 p (.ins t.c.cH d.dx (NH.zip (aB d s3))) pa=some (.ins t.c.cP Vh (NP.zip (f_ (entryOf s m q)))):=by rw[aq Tv];exact Vi
  generalize upd H2 p (.ins t.c.cH d.dx (NH.zip (aB d s3)))=H3 at h3 k3 Vj⊢
  refine⟨_,rfl,_,_,_,_,_,rfl,h3.ins,T.bS,T.qM,yH _ _,_,rfl,_,_,rfl,rfl,d.dx,_,h3.ins,vI NH _ rfl,?_⟩
  dsimp only
  rw[LS]
  have h4:=h3.sY (s':={s3 with taxes:=s3.taxes-(taxOf s.rate (centsOf (entryOf s m q).total)-(entryOf s m q).tax)}) rfl rfl rfl rfl rfl
  generalize e5:({s3 with taxes:=s3.taxes-(taxOf s.rate (centsOf (entryOf s m q).total)-(entryOf s m q).tax)}:State)=s4 at h4⊢
  have k4:aM H p d _ d:=k3.trans (aM.upd (o:=.ins t.c.cH d.dx (NH.zip (aB d s4))) (aj.gJ (d:=d)))
  have R9:upd H3 p (.ins t.c.cH d.dx (NH.zip (aB d s4))) pa=some (.ins t.c.cP Vh (NP.zip (f_ (entryOf s m q)))):=by rw[aq Tv];exact Vj
  generalize upd H3 p (.ins t.c.cH d.dx (NH.zip (aB d s4)))=H4 at h4 k4 R9⊢
  refine⟨_,rfl,pa,Vh,_,rfl,R9,fT Gp,_,rfl,_,rfl,pa,entryOf s m q,_,_,rfl,⟨Vh,R9⟩,fun y dy hy PL ne=>?_⟩
  have s5:ao H4 (zK H4 dy y t.c.cP (NP.zip (f_ (bO s m q)))):=ao.mk hy PL
  have h5:=h4.mono s5
  refine⟨_,rfl,_,_,_,_,_,rfl,h5.ins,T.bS,T.gj,iU d s4,_,rfl,_,rfl,lz rfl,fun tq ZI=>?_⟩
  have s6:=s5.trans (ao.new (o:=.tup [vn m,vn q]) ZI)
  have h6:=h4.mono s6
  obtain⟨km,kq⟩:=sR (m:=m) (q:=q) hs
  have hent:s4.entries=s.entries:=by rw[←e5,←e3,←eG];rfl
  have pk6:kr t.c (upd (zK H4 dy y t.c.cP (NP.zip (f_ (bO s m q)))) tq (.tup [vn m,vn q])) y (bO s m q):=⟨dy,(ao.new (o:=.tup [vn m,vn q]) ZI) _ _ pU⟩
  have hpl:(aV d.es).length<sizeLine:=by
   unfold aV
   rw[DS,hh.Cg]
   exact bV (by omega)
  refine⟨d.pd,_,rfl,B9.t (k:=pk m q) h6.pd af hpl,?_⟩
  have h7:=h6.UJ (by rw[hent];exact hs) pk6 (h4.uf hy)
  rw[km,kq]at h7
  have k7:aM H p d _ {d with es:=sI d.es y (bO s m q)}:=((k4.trans (aM.same s6)).trans (aM.upd (d:=d) (o:=.dT (putK (aV d.es) (pk m q) (.ref y))) (aj.xj (p:=p) (d:=d)))).N1 rfl
  have e7:({s4 with entries:=putEntry (bO s m q) s4.entries}:State)=lG s m q:=by rw[←e5,←e3,←eG];rfl
  rw[e7]at h7
  refine⟨_,rfl,_,rfl,_,_,rfl,rfl,rfl,_,rfl,?_⟩
  by_cases hd:due s m q=0
  ·refine tF (by show V.int (due s m q)=V.int 0;rw[hd]) ?_
   refine k _ _ k7 ?_
   rw[zo,D7 hd]
   exact h7
  ·refine tE (fun z=>hd (bG z)) ?_
   have hxb:member? (lG s m q) m=some {x with unbilled:=x.unbilled-((entryOf s m q).total-(entryOf s m q).seen)}:=by
    unfold lG
    exact gn (s:=Kn s m q) hx
   refine⟨_,rfl,_,rfl,_,rfl,_,rfl,_,rfl,Z,p,_,lG s m q,m,q,_,_,_,rfl,h7,Ij,hxb,fun H' d' kp _ IF=>?_⟩
   refine k H' d' (k7.trans kp) ?_
   rw[zo,D6 hd]
   exact IF
end
structure Pre(c:Cs)(H:Hp)(Z p:Addr)(d:AD)(s:State)(n:Nat):Prop where
 hh:aj c H Z p d s
 g:Good n s
 hn:n<400
 op:s.opened=true
theorem Pre.wf{c:Cs}{H:Hp}{Z p:Addr}{d:AD}{s:State}{n:Nat}(h:Pre c H Z p d s n):Wf s:=⟨h.g.core.qW,h.g.core.fO⟩
def Post(c:Cs)(H:Hp)(Z p:Addr)(d:AD)(r:Res)(Q:VK):Prop:=∀H' l Mx,H' l=some (.lst (aO Mx))→l≠Z→
 (∃d',aM H p d H' d'∧kc c H'∧match r with
  | .error e=>Mx=[e]∧e≠0
  | .ok (s',a)=>Mx=0::a∧aj c H' Z p d' s')→Q (.ref l) H'
section
variable{c:Cs}{H H1 H':Hp}{Z p l:Addr}{d d1:AD}{s t':State}{Q:VK}{e:Int}{a:List Int}{r:Res}
theorem bB(po:Post c H Z p d r Q)(hr:r=.error e)(hh:aj c H Z p d s)(he:e≠0)(sm:ao H H')(hl:H l=none)(hl':H' l=some (.lst (aO [e]))):Q (.ref l) H':=
 po H' l [e] hl' (hh.h_ hl).2 ⟨d,aM.same sm,(hh.mono sm).tb,by rw[hr];exact⟨rfl,he⟩⟩
theorem c_(po:Post c H Z p d r Q)(hr:r=.ok (t',a))(hh:aj c H Z p d s)(kp:aM H p d H' d1)(h1:aj c H' Z p d1 t')(hl:H l=none)(hl':H' l=some (.lst (aO (0::a)))):Q (.ref l) H':=
 po H' l _ hl' (hh.h_ hl).2 ⟨d1,kp,h1.tb,by rw[hr];exact⟨rfl,h1⟩⟩
theorem qQ(po:Post c H Z p d r Q)(hr:r=.error e)(hh:aj c H Z p d s)(he:e≠0)(kp:aM H p d H' d1)(tb:kc c H')(hl:H l=none)(hl':H' l=some (.lst (aO [e]))):Q (.ref l) H':=
 po H' l [e] hl' (hh.h_ hl).2 ⟨d1,kp,tb,by rw[hr];exact⟨rfl,he⟩⟩
theorem lW(po:Post c H Z p d r Q)(hr:r=booked t' a)(hh:aj c H Z p d s)(kp:aM H p d H1 d1)(h1:aj c H1 Z p d1 t')(hl:H l=none)(hl1:H1 l=some (.lst (aO (0::a)))):∀H',ao H1 H'→(beyond t'=false→Q (.ref l) H')∧(beyond t'=true→∀l',H1 l'=none→H' l'=some (.lst (aO [-8]))→Q (.ref l') H'):=fun H' sm=>by
 refine⟨fun hb=>?_,fun hb l' hl' R_=>?_⟩
 ·refine c_ po (by rw[hr];unfold booked;rw[hb];rfl) hh (kp.trans (aM.same sm)) (h1.mono sm) hl (sm _ _ hl1)
 ·refine qQ po (e:=-8) (by rw[hr];unfold booked;rw[hb];rfl) hh (by decide) (kp.trans (aM.same (d:=d1) sm)) (h1.mono sm).tb (kp.free hl') R_
end
theorem pN{s:State}{m:Nat}(h:fQ s m≠0):(member? s m=none∧fQ s m= -5)∨(∃x,member? s m=some x∧x.failed=true∧fQ s m= -6):=by
 unfold fQ at h⊢
 cases hm:member? s m with
 |none=>exact .inl ⟨rfl,rfl⟩
 |some x=>
  rw[hm]at h
  by_cases hf:x.failed=true
  ·exact .inr ⟨x,rfl,hf,D7 hf⟩
  ·exact absurd (D6 hf) h
theorem iz{s:State}{m:Nat}(h:fQ s m=0):∃x,member? s m=some x∧x.failed=false:=by
 unfold fQ at h
 cases hm:member? s m with
 |none=>rw[hm]at h;cases h
 |some x=>
  rw[hm]at h
  by_cases hf:x.failed=true
  ·have h':(if x.failed=true then(-6:Int)else 0)=0:=h
   rw[D7 hf]at h'
   cases h'
  ·exact⟨x,rfl,by simpa using hf⟩
theorem Wf.set{s:State}(h:Wf s)(m:Nat)(g:Member→Member):Wf (setMember s m g):=⟨fun x hx=>by rw[eN];exact h.inv x hx,by rw[eN];exact h.fO⟩
section
variable{P:Program}{w:World}{K:W.Frag}{mg:Str→Option Value}{base:Heap}{t:TX}
def C3(t:TX):Sp:=fun vs H Q _=>∃Z p d s n m c,vs=[.ref p,vn m,vn c]∧Pre t.c H Z p d s n∧0<m∧Post t.c H Z p d (does s (.deposit m c)) Q
theorem PM{s:State}{m c:Nat}(h:fQ s m≠0):does s (.deposit m c)=.error (fQ s m):=by
 rcases pN h with⟨h1,h2⟩ |⟨x,h1,h2,h3⟩
 ·rw[h2];simp only[does,h1]
 ·rw[h3];simp only[does,h1,h2,aa3]
theorem Sa{s:State}{m c:Nat}{x:Member}(h1:member? s m=some x)(h2:x.failed=false):does s (.deposit m c)=booked (setMember {s with cash:=s.cash+nat c} m fun y=>{y with collateral:=y.collateral+c}) [nat (x.collateral+c)]:=by
 simp only[does,h1,h2,aaC,aa4]
theorem J3(T:Txt K mg t):bE P w K mg t.b fG 4 (t.f 68) (t.fd 68) ["house","number","cents"] (C3 t):=by
 have bg:=bW (P:=P) (w:=w) T
 have br:=bY (P:=P) (w:=w) T
 refine T.Ah.ok xB (fun vs H Q E h=>?_) (fun cdv A outer s0 H vs Q E hr h=>?_)
 ·obtain⟨Z,p,d,s,n,m,c,rfl,_⟩:=h
  rfl
 ·obtain⟨Z,p,d,s,n,m,c,rfl,pr,m0,po⟩:=h
  have hh:=pr.hh
  refine⟨_,(ah (aE (i:=3) xB.nd rfl (Or.inl rfl) (aF bg (hr.mono (by decide)) rfl T.cu T.aS.kp (b_ T.aS) .nil aI (aa (pv 0) (aa (pv 1) ai)))) (ah (bZ (aU j_ (pv 3) (au rfl T.aH ri) (bh _)) (ay (aC (aK (aa (pv 3) ai)))) bw) (ah (aE (i:=4) xB.nd rfl (Or.inl rfl) (cz bL (ak (pv 0) rfl) (aW bP (pv 1) aG) (fun _ _=>rfl))) (ah (bN (pv 0) (pv 2) lZ) (ah (bN (pv 4) (pv 2) lZ) (ay (aC (aF br (hr.mono (by decide)) rfl T.cG T.aT.kp (cE T.aT) .nil aI (aa (pv 0) (aa (aK (aa (au rfl T.aH ri) (aa (ak (pv 4) rfl) ai))) ai)))))))))),?_⟩
  refine⟨_,rfl,_,rfl,Z,p,d,s,m,rfl,hh,m0,_,rfl,rfl,_,rfl,?_⟩
  by_cases h0:fQ s m=0
  ·refine tF (by rw[h0]) ?_
   obtain⟨x,hx,hf⟩:=iz h0
   obtain⟨_,a,da,ha,_,hb⟩:=hh.one hx
   refine⟨_,rfl,_,_,_,_,_,rfl,hh.ins,T.bS,T.aX,bq d s,_,rfl,_,_,rfl,rfl,d.ml,_,_,_,rfl,rfl,bD.of hh.ml,K0 m0 ha,?_⟩
   refine⟨_,rfl,_,_,_,_,_,rfl,hh.ins,T.bS,T.gE,jB d s,_,rfl,_,_,rfl,rfl,d.dx,_,hh.ins,vI NH _ rfl,?_⟩
   dsimp only
   rw[ng]
   have h1:=hh.sY (s':={s with cash:=s.cash+nat c}) rfl rfl rfl rfl rfl
   have Gr:member? {s with cash:=s.cash+nat c} m=some x:=hx
   obtain⟨_,a',KY,ha',_,hb1⟩:=h1.one Gr
   obtain rfl:a'=a:=aar (ha'.symm.trans ha)
   refine⟨_,rfl,_,_,_,_,_,rfl,hb1,T.kT,T.bX,dM x,_,rfl,_,_,rfl,rfl,KY,_,hb1,vI NM _ rfl,?_⟩
   dsimp only
   rw[show dS "collateral" (V.int ((x.collateral:Int)+(c:Int))) (NM.zip (dB x))=_ from pV x (x.collateral+c)]
   have h2:=h1.CZ (dx:=KY) (g:=fun y=>{y with collateral:=y.collateral+c}) Gr ha
   have k2:aM H p d _ d:=(aM.upd (o:=.ins t.c.cH d.dx (NH.zip (aB d {s with cash:=s.cash+nat c}))) (aj.gJ (d:=d))).trans (aM.upd (o:=.ins t.c.cM KY (NM.zip (dB {x with collateral:=x.collateral+c}))) (aj.gv (p:=p) ha))
   have hb2:upd (upd H p (.ins t.c.cH d.dx (NH.zip (aB d {s with cash:=s.cash+nat c})))) a' (.ins t.c.cM KY (NM.zip (dB {x with collateral:=x.collateral+c}))) a'=some (.ins t.c.cM KY (NM.zip (dB {x with collateral:=x.collateral+c}))):=af
   refine⟨_,rfl,_,rfl,_,_,_,_,_,rfl,hb2,T.kT,T.bX,dM _,lz rfl,fun l hl=>?_⟩
   have sl:=ao.new (o:=.lst [.int 0,vn (x.collateral+c)]) hl
   exact⟨Z,p,d,_,l,[0,nat (x.collateral+c)],rfl,h2.mono sl,Wf.set (s:={s with cash:=s.cash+nat c}) ⟨pr.wf.inv,pr.wf.fO⟩ _ _,af,lW po (Sa hx hf) hh (k2.trans (aM.same sl)) (h2.mono sl) (k2.free hl) af⟩
  ·refine tE (fun z=>h0 (bG z)) ⟨_,rfl,lz rfl,fun l hl=>?_⟩
   exact bB po (PM h0) hh h0 (ao.new hl) hl af
def K1(t:TX):Sp:=fun vs H Q _=>∃Z p d s n m c,vs=[.ref p,vn m,vn c]∧Pre t.c H Z p d s n∧0<m∧Post t.c H Z p d (does s (.fund m c)) Q
theorem N2{s:State}{m c:Nat}(h:fQ s m≠0):does s (.fund m c)=.error (fQ s m):=by
 rcases pN h with⟨h1,h2⟩ |⟨x,h1,h2,h3⟩
 ·rw[h2];simp only[does,h1]
 ·rw[h3];simp only[does,h1,h2,aa3]
theorem PN{s:State}{m c:Nat}{x:Member}(h1:member? s m=some x)(h2:x.failed=false):does s (.fund m c)=booked (setMember {s with cash:=s.cash+nat c} m fun y=>{y with fund:=y.fund+c}) [nat (x.fund+c)]:=by
 simp only[does,h1,h2,aaC,aa4]
theorem PR(T:Txt K mg t):bE P w K mg t.b fG 4 (t.f 70) (t.fd 70) ["house","number","cents"] (K1 t):=by
 have bg:=bW (P:=P) (w:=w) T
 have br:=bY (P:=P) (w:=w) T
 refine T.JQ.ok F2 (fun vs H Q E h=>?_) (fun cdv A outer s0 H vs Q E hr h=>?_)
 ·obtain⟨Z,p,d,s,n,m,c,rfl,_⟩:=h
  rfl
 ·obtain⟨Z,p,d,s,n,m,c,rfl,pr,m0,po⟩:=h
  have hh:=pr.hh
  refine⟨_,(ah (aE (i:=3) F2.nd rfl (Or.inl rfl) (aF bg (hr.mono (by decide)) rfl T.cu T.aS.kp (b_ T.aS) .nil aI (aa (pv 0) (aa (pv 1) ai)))) (ah (bZ (aU j_ (pv 3) (au rfl T.aH ri) (bh _)) (ay (aC (aK (aa (pv 3) ai)))) bw) (ah (aE (i:=4) F2.nd rfl (Or.inl rfl) (cz bL (ak (pv 0) rfl) (aW bP (pv 1) aG) (fun _ _=>rfl))) (ah (bN (pv 0) (pv 2) lZ) (ah (bN (pv 4) (pv 2) lZ) (ay (aC (aF br (hr.mono (by decide)) rfl T.cG T.aT.kp (cE T.aT) .nil aI (aa (pv 0) (aa (aK (aa (au rfl T.aH ri) (aa (ak (pv 4) rfl) ai))) ai)))))))))),?_⟩
  refine⟨_,rfl,_,rfl,Z,p,d,s,m,rfl,hh,m0,_,rfl,rfl,_,rfl,?_⟩
  by_cases h0:fQ s m=0
  ·refine tF (by rw[h0]) ?_
   obtain⟨x,hx,hf⟩:=iz h0
   obtain⟨_,a,da,ha,_,hb⟩:=hh.one hx
   refine⟨_,rfl,_,_,_,_,_,rfl,hh.ins,T.bS,T.aX,bq d s,_,rfl,_,_,rfl,rfl,d.ml,_,_,_,rfl,rfl,bD.of hh.ml,K0 m0 ha,?_⟩
   refine⟨_,rfl,_,_,_,_,_,rfl,hh.ins,T.bS,T.gE,jB d s,_,rfl,_,_,rfl,rfl,d.dx,_,hh.ins,vI NH _ rfl,?_⟩
   dsimp only
   rw[ng]
   have h1:=hh.sY (s':={s with cash:=s.cash+nat c}) rfl rfl rfl rfl rfl
   have Gr:member? {s with cash:=s.cash+nat c} m=some x:=hx
   obtain⟨_,a',KY,ha',_,hb1⟩:=h1.one Gr
   obtain rfl:a'=a:=aar (ha'.symm.trans ha)
   refine⟨_,rfl,_,_,_,_,_,rfl,hb1,T.kT,T.cJ,dN x,_,rfl,_,_,rfl,rfl,KY,_,hb1,vI NM _ rfl,?_⟩
   dsimp only
   rw[show dS "fund_part" (V.int ((x.fund:Int)+(c:Int))) (NM.zip (dB x))=_ from mK x (x.fund+c)]
   have h2:=h1.CZ (dx:=KY) (g:=fun y=>{y with fund:=y.fund+c}) Gr ha
   have k2:aM H p d _ d:=(aM.upd (o:=.ins t.c.cH d.dx (NH.zip (aB d {s with cash:=s.cash+nat c}))) (aj.gJ (d:=d))).trans (aM.upd (o:=.ins t.c.cM KY (NM.zip (dB {x with fund:=x.fund+c}))) (aj.gv (p:=p) ha))
   have hb2:upd (upd H p (.ins t.c.cH d.dx (NH.zip (aB d {s with cash:=s.cash+nat c})))) a' (.ins t.c.cM KY (NM.zip (dB {x with fund:=x.fund+c}))) a'=some (.ins t.c.cM KY (NM.zip (dB {x with fund:=x.fund+c}))):=af
   refine⟨_,rfl,_,rfl,_,_,_,_,_,rfl,hb2,T.kT,T.cJ,dN _,lz rfl,fun l hl=>?_⟩
   have sl:=ao.new (o:=.lst [.int 0,vn (x.fund+c)]) hl
   exact⟨Z,p,d,_,l,[0,nat (x.fund+c)],rfl,h2.mono sl,Wf.set (s:={s with cash:=s.cash+nat c}) ⟨pr.wf.inv,pr.wf.fO⟩ _ _,af,lW po (PN hx hf) hh (k2.trans (aM.same sl)) (h2.mono sl) (k2.free hl) af⟩
  ·refine tE (fun z=>h0 (bG z)) ⟨_,rfl,lz rfl,fun l hl=>?_⟩
   exact bB po (N2 h0) hh h0 (ao.new hl) hl af
end
theorem Ik{s:State}(h:Wf s)(m c:Nat):Wf (credited s m c):=by
 show Wf (setMember {s with invoices:=(onInvoices m c s.invoices).1} m fun y=>{y with pool:=y.pool+(onInvoices m c s.invoices).2})
 refine Wf.set (s:={s with invoices:=(onInvoices m c s.invoices).1}) ⟨fun x hx=>?_,h.fO⟩ _ _
 have e:=zN m (fun x=>x.m) (fun _ _=>rfl) s.invoices c
 have h1:x.m∈((onInvoices m c s.invoices).1.map fun x=>x.m):=abF hx
 rw[e]at h1
 obtain⟨y,hy,ey⟩:=aaE.mp h1
 have:=h.inv y hy
 rw[←ey]
 exact this
theorem Gu(s:State)(m c:Nat):(credited s m c).members.length=s.members.length:=by unfold credited;exact eN _ _ _
section
variable{P:Program}{w:World}{K:W.Frag}{mg:Str→Option Value}{base:Heap}{t:TX}
def N3(t:TX):Sp:=fun vs H Q _=>∃Z p d s n m c,vs=[.ref p,vn m,vn c]∧Pre t.c H Z p d s n∧0<m∧Post t.c H Z p d (does s (.pay m c)) Q
theorem PU{s:State}{m c:Nat}(h:fQ s m≠0):does s (.pay m c)=.error (fQ s m):=by
 rcases pN h with⟨h1,h2⟩ |⟨x,h1,h2,h3⟩
 ·rw[h2];simp only[does,h1]
 ·rw[h3];simp only[does,h1,h2,aa3]
theorem Sb{s:State}{m c:Nat}{x:Member}(h1:member? s m=some x)(h2:x.failed=false):does s (.pay m c)=booked (credited {s with cash:=s.cash+nat c} m c) [nat (restOf (credited {s with cash:=s.cash+nat c} m c) m),nat (poolOf (credited {s with cash:=s.cash+nat c} m c) m)]:=by
 simp only[does,h1,h2,aaC,aa4]
theorem Sd(T:Txt K mg t):bE P w K mg t.b fG 5 (t.f 66) (t.fd 66) ["house","number","cents"] (N3 t):=by
 have gF:=ou (P:=P) (w:=w) T
 have bg:=bW (P:=P) (w:=w) T
 have cZ:=fY (P:=P) (w:=w) T
 have br:=bY (P:=P) (w:=w) T
 refine T.NJ.ok JL (fun vs H Q E h=>?_) (fun cdv A outer s0 H vs Q E hr h=>?_)
 ·obtain⟨Z,p,d,s,n,m,c,rfl,_⟩:=h
  rfl
 ·obtain⟨Z,p,d,s,n,m,c,rfl,pr,m0,po⟩:=h
  have hh:=pr.hh
  refine⟨_,(ah (aE (i:=3) JL.nd rfl (Or.inl rfl) (aF bg (hr.mono (by decide)) rfl T.cu T.aS.kp (b_ T.aS) .nil aI (aa (pv 0) (aa (pv 1) ai)))) (ah (bZ (aU j_ (pv 3) (au rfl T.aH ri) (bh _)) (ay (aC (aK (aa (pv 3) ai)))) bw) (ah (bN (pv 0) (pv 2) lZ) (ah (eE (aF gF (hr.mono (by decide)) rfl T.jS T.cY.kp (jP T.cY) .nil aI (aa (pv 0) (aa (pv 1) (aa (pv 2) ai))))) (ah (aE (i:=4) JL.nd rfl (Or.inl rfl) (aK (aa (au rfl T.aH ri) (aa (aF cZ (hr.mono (by decide)) rfl T.gC T.bU.kp (gB T.bU) .nil aI (aa (pv 0) (aa (pv 1) ai))) (aa (ak (cz bL (ak (pv 0) rfl) (aW bP (pv 1) aG) (fun _ _=>rfl)) rfl) ai))))) (ay (aC (aF br (hr.mono (by decide)) rfl T.cG T.aT.kp (cE T.aT) .nil aI (aa (pv 0) (aa (pv 4) ai)))))))))),?_⟩
  refine⟨_,rfl,_,rfl,Z,p,d,s,m,rfl,hh,m0,_,rfl,rfl,_,rfl,?_⟩
  by_cases h0:fQ s m=0
  ·refine tF (by rw[h0]) ?_
   obtain⟨x,hx,hf⟩:=iz h0
   refine⟨_,rfl,_,_,_,_,_,rfl,hh.ins,T.bS,T.gE,jB d s,_,rfl,_,_,rfl,rfl,d.dx,_,hh.ins,vI NH _ rfl,?_⟩
   dsimp only
   rw[ng]
   have h1:=hh.sY (s':={s with cash:=s.cash+nat c}) rfl rfl rfl rfl rfl
   have k1:aM H p d _ d:=aM.upd (o:=.ins t.c.cH d.dx (NH.zip (aB d {s with cash:=s.cash+nat c}))) (aj.gJ (d:=d))
   have Gr:member? {s with cash:=s.cash+nat c} m=some x:=hx
   have hinv:=pr.g.sV
   refine⟨_,rfl,_,rfl,_,rfl,Z,p,d,_,m,c,x,rfl,h1,by show s.invoices.length≤300;omega,Gr,fun H2 d2 kp _ h2=>?_⟩
   have ml:=(aR.mp ⟨x,hx⟩).2
   have ZJ:Wf (credited {s with cash:=s.cash+nat c} m c):=Ik (s:={s with cash:=s.cash+nat c}) ⟨pr.wf.inv,pr.wf.fO⟩ m c
   have ZK:m≤(credited {s with cash:=s.cash+nat c} m c).members.length:=by rw[Gu];exact ml
   have k2:=k1.trans kp
   refine⟨_,rfl,_,rfl,Z,p,d2,_,m,rfl,h2,ZJ,m0,ZK,fun H3 s3=>?_⟩
   have h3:=h2.mono s3
   obtain⟨x2,Mw⟩:=aR.mpr ⟨m0,ZK⟩
   obtain⟨_,a,da,ha,_,hb⟩:=h3.one Mw
   refine⟨_,rfl,_,_,_,_,_,rfl,h3.ins,T.bS,T.aX,bq _ _,_,rfl,_,_,rfl,rfl,d2.ml,_,_,_,rfl,rfl,bD.of h3.ml,K0 m0 ha,_,_,_,_,_,rfl,hb,T.kT,T.ig,lg x2,lz rfl,fun l hl=>?_⟩
   have sl:=ao.new (o:=.lst [.int 0,vn (restOf (credited {s with cash:=s.cash+nat c} m c) m),vn x2.pool]) hl
   have e2:poolOf (credited {s with cash:=s.cash+nat c} m c) m=x2.pool:=by unfold poolOf;rw[Mw];rfl
   have ZL:=Sb (c:=c) hx hf
   rw[e2]at ZL
   exact⟨_,rfl,_,rfl,Z,p,d2,_,l,[0,nat (restOf (credited {s with cash:=s.cash+nat c} m c) m),nat x2.pool],rfl,h3.mono sl,ZJ,af,lW po ZL hh ((k2.trans (aM.same s3)).trans (aM.same sl)) (h3.mono sl) ((k2.trans (aM.same s3)).free hl) af⟩
  ·refine tE (fun z=>h0 (bG z)) ⟨_,rfl,lz rfl,fun l hl=>?_⟩
   exact bB po (PU h0) hh h0 (ao.new hl) hl af
def E6(t:TX):Sp:=fun vs H Q _=>∃Z p d s n m c,vs=[.ref p,vn m,vn c]∧Pre t.c H Z p d s n∧0<m∧Post t.c H Z p d (does s (.refund m c)) Q
theorem J4{s:State}{m c:Nat}(h:fQ s m≠0):does s (.refund m c)=.error (fQ s m):=by
 rcases pN h with⟨h1,h2⟩ |⟨x,h1,h2,h3⟩
 ·rw[h2];simp only[does,h1]
 ·rw[h3];simp only[does,h1,h2,aa3]
theorem E7{s:State}{m c:Nat}{x:Member}(h1:member? s m=some x)(h2:x.failed=false)(h3:x.pool<c∨s.cash<nat c):does s (.refund m c)=.error (-9):=by
 simp only[does,h1,h2,aaC,aa4,D7 h3]
theorem Mn{n:Nat}{s:State}{m c:Nat}{x:Member}(g:Good n s)(h1:member? s m=some x)(h2:x.failed=false)(h3:¬(x.pool<c∨s.cash<nat c)):does s (.refund m c)=.ok (setMember {s with cash:=s.cash-nat c} m fun y=>{y with pool:=y.pool-c},[nat (x.pool-c)]):=by
 simp only[does,h1,h2,aaC,aa4,D6 h3]
 exact zO (IV g h1 (by omega) (by show(c:Int)≤s.cash;unfold nat at h3;omega))
theorem Mp(T:Txt K mg t):bE P w K mg t.b fG 3 (t.f 67) (t.fd 67) ["house","number","cents"] (E6 t):=by
 have bg:=bW (P:=P) (w:=w) T
 refine T.Cy.ok Ab (fun vs H Q E h=>?_) (fun cdv A outer s0 H vs Q E hr h=>?_)
 ·obtain⟨Z,p,d,s,n,m,c,rfl,_⟩:=h
  rfl
 ·obtain⟨Z,p,d,s,n,m,c,rfl,pr,m0,po⟩:=h
  have hh:=pr.hh
  refine⟨_,(ah (aE (i:=3) Ab.nd rfl (Or.inl rfl) (aF bg (hr.mono (by decide)) rfl T.cu T.aS.kp (b_ T.aS) .nil aI (aa (pv 0) (aa (pv 1) ai)))) (ah (bZ (aU j_ (pv 3) (au rfl T.aH ri) (bh _)) (ay (aC (aK (aa (pv 3) ai)))) bw) (ah (aE (i:=4) Ab.nd rfl (Or.inl rfl) (cz bL (ak (pv 0) rfl) (aW bP (pv 1) aG) (fun _ _=>rfl))) (ah (bZ (PW.pt (EF (aU tV (ak (pv 4) rfl) (pv 2) (bh _)) (BW (aU tV (ak (pv 0) rfl) (pv 2) (bh _))))) (ay (aC (aK (aa (au rfl T.yZ ri) ai)))) bw) (ah (bN (pv 4) (pv 2) m9) (ah (bN (pv 0) (pv 2) m9) (ay (aC (aK (aa (au rfl T.aH ri) (aa (ak (pv 4) rfl) ai))))))))))),?_⟩
  refine⟨_,rfl,_,rfl,Z,p,d,s,m,rfl,hh,m0,_,rfl,rfl,_,rfl,?_⟩
  by_cases h0:fQ s m=0
  ·refine tF (by rw[h0]) ?_
   obtain⟨x,hx,hf⟩:=iz h0
   obtain⟨_,a,da,ha,_,hb⟩:=hh.one hx
   refine⟨_,rfl,_,_,_,_,_,rfl,hh.ins,T.bS,T.aX,bq d s,_,rfl,_,_,rfl,rfl,d.ml,_,_,_,rfl,rfl,bD.of hh.ml,K0 m0 ha,?_⟩
   refine⟨_,rfl,_,_,_,_,_,rfl,hb,T.kT,T.ig,lg x,_,rfl,_,_,rfl,rfl,_,rfl,?_⟩
   by_cases h1:x.pool<c
   ·refine uR (by omega) ⟨lz rfl,fun l hl=>?_⟩
    exact bB po (E7 hx hf (.inl h1)) hh (by decide) (ao.new hl) hl af
   ·refine tD (by omega) ⟨_,rfl,_,_,_,_,_,rfl,hh.ins,T.bS,T.gE,jB d s,_,rfl,_,_,rfl,rfl,_,rfl,?_⟩
    by_cases h2:s.cash<(c:Int)
    ·refine uR h2 ⟨lz rfl,fun l hl=>?_⟩
     exact bB po (E7 hx hf (.inr h2)) hh (by decide) (ao.new hl) hl af
    ·refine tD h2 ?_
     refine⟨_,rfl,_,_,_,_,_,rfl,hb,T.kT,T.ig,lg x,_,rfl,_,_,rfl,rfl,da,_,hb,vI NM _ rfl,?_⟩
     have e1:(x.pool:Int)-(c:Int)=((x.pool-c:Nat):Int):=by omega
     dsimp only
     rw[e1,FP]
     have h3:=hh.CZ (dx:=da) (g:=fun y=>{y with pool:=y.pool-c}) hx ha
     refine⟨_,rfl,_,_,_,_,_,rfl,h3.ins,T.bS,T.gE,jB _ _,_,rfl,_,_,rfl,rfl,d.dx,_,h3.ins,vI NH _ rfl,?_⟩
     dsimp only
     rw[ng]
     have h4:=h3.sY (s':={setMember s m (fun y=>{y with pool:=y.pool-c})with cash:=s.cash-nat c}) rfl rfl rfl rfl rfl
     have k4:aM H p d _ d:=(aM.upd (o:=.ins t.c.cM da (NM.zip (dB {x with pool:=x.pool-c}))) (aj.gv (p:=p) ha)).trans (aM.upd (o:=.ins t.c.cH d.dx (NH.zip (aB d {setMember s m (fun y=>{y with pool:=y.pool-c})with cash:=s.cash-nat c}))) (aj.gJ (d:=d)))
     obtain⟨_,a',KY,ha',_,hb4⟩:=h4.one (show member? {setMember s m (fun y=>{y with pool:=y.pool-c})with cash:=s.cash-nat c} m=some {x with pool:=x.pool-c}from gn hx)
     obtain rfl:a'=a:=aar (ha'.symm.trans ha)
     refine⟨_,rfl,_,_,_,_,_,rfl,hb4,T.kT,T.ig,lg _,lz rfl,fun l hl=>?_⟩
     have sl:=ao.new (o:=.lst [.int 0,vn (x.pool-c)]) hl
     exact c_ po (Mn pr.g hx hf (by unfold nat;omega)) hh (k4.trans (aM.same sl)) (h4.mono sl) (k4.free hl) af
  ·refine tE (fun z=>h0 (bG z)) ⟨_,rfl,lz rfl,fun l hl=>?_⟩
   exact bB po (J4 h0) hh h0 (ao.new hl) hl af
def C4(t:TX):Sp:=fun vs H Q _=>∃Z p d s n m c,vs=[.ref p,vn m,vn c]∧Pre t.c H Z p d s n∧0<m∧Post t.c H Z p d (does s (.release m c)) Q
theorem Il{s:State}{m c:Nat}(h:fQ s m≠0):does s (.release m c)=.error (fQ s m):=by
 rcases pN h with⟨h1,h2⟩ |⟨x,h1,h2,h3⟩
 ·rw[h2];simp only[does,h1]
 ·rw[h3];simp only[does,h1,h2,aa3]
theorem xV{s:State}{m c:Nat}{x:Member}(h1:member? s m=some x)(h2:x.failed=false)(h3:x.collateral<c∨CENT*(nat x.collateral-nat c)<need s m∨s.cash<nat c):does s (.release m c)=.error (-9):=by
 simp only[does,h1,h2,aaC,aa4,D7 h3]
theorem J5{n:Nat}{s:State}{m c:Nat}{x:Member}(g:Good n s)(h1:member? s m=some x)(h2:x.failed=false)(h3:¬(x.collateral<c∨CENT*(nat x.collateral-nat c)<need s m∨s.cash<nat c)):does s (.release m c)=.ok (setMember {s with cash:=s.cash-nat c} m fun y=>{y with collateral:=y.collateral-c},[nat (x.collateral-c)]):=by
 simp only[does,h1,h2,aaC,aa4,D6 h3]
 exact zO (GO g h1 (by omega) (by show(c:Int)≤s.cash;unfold nat at h3;omega))
theorem J6(T:Txt K mg t):bE P w K mg t.b fG 4 (t.f 69) (t.fd 69) ["house","number","cents"] (C4 t):=by
 have fL:=jW (P:=P) (w:=w) T
 have bg:=bW (P:=P) (w:=w) T
 refine T.Ai.ok rO (fun vs H Q E h=>?_) (fun cdv A outer s0 H vs Q E hr h=>?_)
 ·obtain⟨Z,p,d,s,n,m,c,rfl,_⟩:=h
  rfl
 ·obtain⟨Z,p,d,s,n,m,c,rfl,pr,m0,po⟩:=h
  have hh:=pr.hh
  refine⟨_,(ah (aE (i:=3) rO.nd rfl (Or.inl rfl) (aF bg (hr.mono (by decide)) rfl T.cu T.aS.kp (b_ T.aS) .nil aI (aa (pv 0) (aa (pv 1) ai)))) (ah (bZ (aU j_ (pv 3) (au rfl T.aH ri) (bh _)) (ay (aC (aK (aa (pv 3) ai)))) bw) (ah (aE (i:=4) rO.nd rfl (Or.inl rfl) (cz bL (ak (pv 0) rfl) (aW bP (pv 1) aG) (fun _ _=>rfl))) (ah (aE (i:=5) rO.nd rfl (Or.inl rfl) (aW bP (ak (pv 4) rfl) (pv 2))) (ah (bZ (PW.pt (EF (aU tV (pv 5) aG (bh _)) (EF (aU tV (aW wW (au rfl T.dZ ri) (pv 5)) (aF fL (hr.mono (by decide)) rfl T.kQ T.dG.kp (kK T.dG) .nil aI (aa (pv 0) (aa (pv 1) ai))) (bh _)) (BW (aU tV (ak (pv 0) rfl) (pv 2) (bh _)))))) (ay (aC (aK (aa (au rfl T.yZ ri) ai)))) bw) (ah (aP (pv 4) (pv 5) rfl) (ah (bN (pv 0) (pv 2) m9) (ay (aC (aK (aa (au rfl T.aH ri) (aa (pv 5) ai)))))))))))),?_⟩
  refine⟨_,rfl,_,rfl,Z,p,d,s,m,rfl,hh,m0,_,rfl,rfl,_,rfl,?_⟩
  by_cases h0:fQ s m=0
  ·refine tF (by rw[h0]) ?_
   obtain⟨x,hx,hf⟩:=iz h0
   obtain⟨_,a,da,ha,_,hb⟩:=hh.one hx
   have ml:=(aR.mp ⟨x,hx⟩).2
   refine⟨_,rfl,_,_,_,_,_,rfl,hh.ins,T.bS,T.aX,bq d s,_,rfl,_,_,rfl,rfl,d.ml,_,_,_,rfl,rfl,bD.of hh.ml,K0 m0 ha,?_⟩
   refine⟨_,rfl,_,_,_,_,_,rfl,hb,T.kT,T.bX,dM x,_,rfl,_,_,rfl,rfl,?_⟩
   refine⟨_,rfl,_,_,rfl,rfl,_,rfl,?_⟩
   by_cases h1:(x.collateral:Int)-(c:Int)<0
   ·refine uR h1 ⟨lz rfl,fun l hl=>?_⟩
    exact bB po (xV hx hf (.inl (by omega))) hh (by decide) (ao.new hl) hl af
   ·refine tD h1 ⟨_,rfl,_,_,rfl,rfl,.inl ⟨by decide,by decide⟩,_,rfl,_,rfl,Z,p,d,s,m,rfl,hh,pr.wf,m0,ml,fun H1 s1=>?_⟩
    have i9:=hh.mono s1
    have hb1:=s1 _ _ hb
    refine⟨_,_,rfl,rfl,_,rfl,?_⟩
    by_cases h2:1000*((x.collateral:Int)-(c:Int))<need s m
    ·refine uR h2 ⟨lz rfl,fun l hl=>?_⟩
     exact bB po (xV hx hf (.inr (.inl h2))) hh (by decide) (s1.trans (ao.new hl)) (ao.free s1 hl) af
    ·refine tD h2 ⟨_,rfl,_,_,_,_,_,rfl,i9.ins,T.bS,T.gE,jB d s,_,rfl,_,_,rfl,rfl,_,rfl,?_⟩
     by_cases h3:s.cash<(c:Int)
     ·refine uR h3 ⟨lz rfl,fun l hl=>?_⟩
      exact bB po (xV hx hf (.inr (.inr h3))) hh (by decide) (s1.trans (ao.new hl)) (ao.free s1 hl) af
     ·refine tD h3 ?_
      have e1:(x.collateral:Int)-(c:Int)=((x.collateral-c:Nat):Int):=by omega
      refine⟨_,rfl,_,rfl,a,_,da,_,rfl,hb1,T.kT,T.bX,vI NM _ rfl,?_⟩
      dsimp only
      rw[e1,pV]
      have h4:=i9.CZ (dx:=da) (g:=fun y=>{y with collateral:=y.collateral-c}) hx ha
      refine⟨_,rfl,_,_,_,_,_,rfl,h4.ins,T.bS,T.gE,jB _ _,_,rfl,_,_,rfl,rfl,d.dx,_,h4.ins,vI NH _ rfl,?_⟩
      dsimp only
      rw[ng]
      have h5:=h4.sY (s':={setMember s m (fun y=>{y with collateral:=y.collateral-c})with cash:=s.cash-nat c}) rfl rfl rfl rfl rfl
      have k5:aM H p d _ d:=((aM.same (d:=d) s1).trans (aM.upd (o:=.ins t.c.cM da (NM.zip (dB {x with collateral:=x.collateral-c}))) (aj.gv (p:=p) ha))).trans (aM.upd (o:=.ins t.c.cH d.dx (NH.zip (aB d {setMember s m (fun y=>{y with collateral:=y.collateral-c})with cash:=s.cash-nat c}))) (aj.gJ (d:=d)))
      refine⟨_,rfl,lz rfl,fun l hl=>?_⟩
      have sl:=ao.new (o:=.lst [.int 0,vn (x.collateral-c)]) hl
      exact c_ po (J5 pr.g hx hf (by unfold nat CENT;omega)) hh (k5.trans (aM.same sl)) (h5.mono sl) (k5.free hl) af
  ·refine tE (fun z=>h0 (bG z)) ⟨_,rfl,lz rfl,fun l hl=>?_⟩
   exact bB po (Il h0) hh h0 (ao.new hl) hl af
end
section
variable{P:Program}{w:World}{K:W.Frag}{mg:Str→Option Value}{base:Heap}{t:TX}
def wD(t:TX):Sp:=fun vs H Q _=>∃Z p d s te ra ho,vs=[.ref p,vn te,vn ra,vn ho]∧aj t.c H Z p d s∧Post t.c H Z p d (does s (.opens te ra ho)) Q
theorem Ed(T:Txt K mg t):bE P w K mg t.b fG 1 (t.f 56) (t.fd 56) ["house","terms","rate","house_part"] (wD t):=by
 refine T.rS.ok DF (fun vs H Q E h=>?_) (fun cdv A outer s0 H vs Q E hr h=>?_)
 ·obtain⟨Z,p,d,s,te,ra,ho,rfl,_⟩:=h
  rfl
 ·obtain⟨Z,p,d,s,te,ra,ho,rfl,hh,po⟩:=h
  refine⟨_,(ah (bZ (ja (ak (pv 0) rfl)) (ay (aC (aK (aa (au rfl T.uO ri) ai)))) bw) (ah (aP (pv 0) Hf rfl) (ah (aP (pv 0) (pv 1) rfl) (ah (aP (pv 0) (pv 2) rfl) (ah (aP (pv 0) (pv 3) rfl) (ah (aP (pv 0) (pv 3) rfl) (ay (aC (aK (aa (au rfl T.aH ri) ai)))))))))),?_⟩
  refine⟨_,rfl,_,_,_,_,_,rfl,hh.ins,T.bS,T.kU,xo d s,_,rfl,?_⟩
  refine NW (fun q=>⟨lz rfl,fun l hl=>?_⟩) (fun q=>?_)
  ·exact bB po (e:=-3) (by simp only[does,q,aa3]) hh (by decide) (ao.new hl) hl af
  ·refine⟨_,rfl,p,_,d.dx,_,rfl,hh.ins,T.bS,T.kU,vI NH _ rfl,?_⟩
   rw[HH]
   refine⟨_,rfl,_,rfl,p,_,d.dx,_,rfl,af,T.bS,T.uN,vI NH _ rfl,?_⟩
   rw[LQ,bH]
   refine⟨_,rfl,_,rfl,p,_,d.dx,_,rfl,af,T.bS,T.rW,vI NH _ rfl,?_⟩
   rw[Nr,bH]
   refine⟨_,rfl,_,rfl,p,_,d.dx,_,rfl,af,T.bS,T.dP,vI NH _ rfl,?_⟩
   rw[nh,bH]
   refine⟨_,rfl,_,rfl,p,_,d.dx,_,rfl,af,T.bS,T.gE,vI NH _ rfl,?_⟩
   rw[ng,bH]
   have h1:=hh.sY (s':={s with opened:=true,terms:=te,rate:=ra,house:=ho,cash:=nat ho}) rfl rfl rfl rfl rfl
   have k1:aM H p d _ d:=aM.upd (o:=.ins t.c.cH d.dx (NH.zip (aB d {s with opened:=true,terms:=te,rate:=ra,house:=ho,cash:=nat ho}))) (aj.gJ (d:=d))
   refine⟨lz rfl,fun l hl=>?_⟩
   have sl:=ao.new (o:=.lst [.int 0]) hl
   exact c_ po (by simp only[does,q,aaC,aa4];rfl) hh (k1.trans (aM.same sl)) (h1.mono sl) (k1.free hl) af
def wF(t:TX):Sp:=fun vs H Q _=>∃Z p d s n,vs=[.ref p]∧Pre t.c H Z p d s n∧Post t.c H Z p d (does s .member) Q
theorem Ef(T:Txt K mg t):bE P w K mg t.b fG 3 (t.f 57) (t.fd 57) ["house"] (wF t):=by
 have qv:=uU (P:=P) (w:=w) T
 refine T.rT.ok DG (fun vs H Q E h=>?_) (fun cdv A outer s0 H vs Q E hr h=>?_)
 ·obtain⟨Z,p,d,s,n,rfl,_⟩:=h
  rfl
 ·obtain⟨Z,p,d,s,n,rfl,pr,po⟩:=h
  have hh:=pr.hh
  have CS:=pr.wf.fO
  refine⟨_,(ah (bZ (aU j9 (aQ a_ rfl T.gk aaK (aa (ak (pv 0) rfl) ai)) (au rfl T.CI ri) (bh _)) (ay (aC (aK (aa (au rfl T.vE ri) ai)))) bw) (ah (eE (su aaT abf abg jm (ak (pv 0) rfl) (aa (yt T.Ie qv (hr.mono (by decide)) rfl T.Ic (wm T.qf) .nil aI) ai))) (ay (aC (aK (aa (au rfl T.aH ri) (aa (aQ a_ rfl T.gk aaK (aa (ak (pv 0) rfl) ai)) ai))))))),?_⟩
  refine⟨_,rfl,_,_,_,_,_,rfl,hh.ins,T.bS,T.aX,bq d s,_,_,rfl,.inl (bD.of hh.ml),rfl,_,rfl,?_⟩
  rw[DS,hh.iC]
  by_cases h1:s.members.length=16
  ·refine uR (by rw[h1];rfl) ⟨lz rfl,fun l hl=>?_⟩
   exact bB po (e:=-4) (by simp only[does,MEMBERS,h1,D9,aa3]) hh (by decide) (ao.new hl) hl af
  ·refine tD (fun z=>h1 (by have:=bG z;omega)) ⟨_,rfl,_,_,_,_,_,rfl,hh.ins,T.bS,T.aX,bq d s,.inl ⟨rfl,_,bD.of hh.ml⟩,?_⟩
   intro x dx hx hdx ne
   refine⟨x,dx,rfl,af,rfl,?_⟩
   rw[bH]
   have s1:ao H (zK H dx x t.c.cM (NM.zip (dB {}))):=ao.mk hx hdx
   have i9:=hh.mono s1
   refine⟨d.ml,_,_,rfl,rfl,i9.ml,by rw[DS,hh.iC];exact bV (by omega),?_⟩
   obtain⟨h2,k2⟩:=hh.Xi s1 (x:={}) hx ⟨dx,pU⟩
   refine⟨_,rfl,_,_,_,_,_,rfl,h2.ins,T.bS,T.aX,bq _ _,_,_,rfl,.inl (bD.of h2.ml),lz rfl,fun l hl=>?_⟩
   have sl:=ao.new (o:=.lst [.int 0,V.int (((d.ms++[x]).map V.ref).length:Nat)]) hl
   have e:(((d.ms++[x]).map V.ref).length:Int)=nat (s.members.length+1):=by simp[hh.iC,nat]
   refine c_ po (t':={s with members:=s.members++[{}]}) (a:=[nat (s.members.length+1)]) (by
    have h3:¬16≤s.members.length:=by omega
    simp only[does,MEMBERS]
    exact D6 h3) hh (k2.trans (aM.same sl)) (h2.mono sl) (k2.free hl) ?_
   rw[af,e]
   rfl
def zu(t:TX):Sp:=fun vs H Q _=>∃Z p d s n y,vs=[.ref p,vn y]∧Pre t.c H Z p d s n∧Post t.c H Z p d (does s (.day y)) Q
theorem Gv(T:Txt K mg t):bE P w K mg t.b fG 1 (t.f 58) (t.fd 58) ["house","day"] (zu t):=by
 refine T.uJ.ok F1 (fun vs H Q E h=>?_) (fun cdv A outer s0 H vs Q E hr h=>?_)
 ·obtain⟨Z,p,d,s,n,y,rfl,_⟩:=h
  rfl
 ·obtain⟨Z,p,d,s,n,y,rfl,pr,po⟩:=h
  have hh:=pr.hh
  refine⟨_,(ah (bZ (aU Kw (pv 1) (ak (pv 0) rfl) (bh _)) (ay (aC (aK (aa (au rfl T.y9 ri) ai)))) bw) (ah (aP (pv 0) (pv 1) rfl) (ay (aC (aK (aa (au rfl T.aH ri) ai)))))),?_⟩
  refine⟨_,rfl,_,rfl,_,_,_,_,_,rfl,hh.ins,T.bS,T.lR,ue d s,_,_,rfl,rfl,_,rfl,?_⟩
  by_cases h1:y≤s.today
  ·refine uR (by omega) ⟨lz rfl,fun l hl=>?_⟩
   exact bB po (e:=-10) (by simp only[does,D7 h1]) hh (by decide) (ao.new hl) hl af
  ·refine tD (by omega) ?_
   refine⟨_,rfl,_,rfl,p,_,d.dx,_,rfl,hh.ins,T.bS,T.lR,vI NH _ rfl,?_⟩
   rw[LR]
   have h2:=hh.sY (s':={s with today:=y}) rfl rfl rfl rfl rfl
   have k1:aM H p d _ d:=aM.upd (o:=.ins t.c.cH d.dx (NH.zip (aB d {s with today:=y}))) (aj.gJ (d:=d))
   refine⟨lz rfl,fun l hl=>?_⟩
   have sl:=ao.new (o:=.lst [.int 0]) hl
   exact c_ po (by simp only[does,D6 h1];rfl) hh (k1.trans (aM.same sl)) (h2.mono sl) (k1.free hl) af
theorem K2{s:State}{m q:Nat}(h:vP s m q≠0):(fQ s m≠0∧vP s m q=fQ s m)∨(fQ s m=0∧isClosed s q=true∧vP s m q= -7):=by
 unfold vP at h⊢
 by_cases h0:fQ s m=0
 ·rw[D7 h0]at h⊢
  unfold CM at h⊢
  by_cases hc:isClosed s q=true
  ·exact .inr ⟨h0,hc,D7 hc⟩
  ·exact absurd (D6 hc) h
 ·rw[D6 h0]
  exact .inl ⟨h0,rfl⟩
theorem E8{s:State}{m q:Nat}(h:vP s m q=0):(∃x,member? s m=some x∧x.failed=false)∧isClosed s q=false:=by
 unfold vP at h
 by_cases h0:fQ s m=0
 ·rw[D7 h0]at h
  refine⟨iz h0,?_⟩
  unfold CM at h
  by_cases hc:isClosed s q=true
  ·rw[D7 hc]at h;cases h
  ·simpa using hc
 ·rw[D6 h0]at h
  exact absurd h h0
theorem N4{s:State}{m q:Nat}{z:Int}(h:vP s m q≠0):does s (.item m q z)=.error (vP s m q):=by
 rcases K2 h with⟨h0,e⟩ |⟨h0,hc,e⟩
 ·rw[e]
  rcases pN h0 with⟨h1,h2⟩ |⟨x,h1,h2,h3⟩
  ·rw[h2];simp only[does,h1]
  ·rw[h3];simp only[does,h1,h2,aa3]
 ·obtain⟨x,h1,h2⟩:=iz h0
  rw[e]
  simp only[does,h1,h2,hc,aaC,aa4,aa3]
def C5(s:State)(m q:Nat)(z:Int):State:=setMember {s with entries:=putEntry (bz (entryOf s m q) z) s.entries,market:=s.market-z} m fun y=>{y with unbilled:=y.unbilled+z}
def zw(t:TX):Sp:=fun vs H Q _=>∃Z p d s n m q z,vs=[.ref p,vn m,vn q,.int z]∧Pre t.c H Z p d s n∧0<m∧Post t.c H Z p d (does s (.item m q z)) Q
theorem Gw(T:Txt K mg t):bE P w K mg t.b fG 4 (t.f 59) (t.fd 59) ["house","number","period","amount"] (zw t):=by
 have d_:=iy (P:=P) (w:=w) T
 have Ax:=ze (P:=P) (w:=w) T
 have jY:=n_ (P:=P) (w:=w) T
 have j3:=n8 (P:=P) (w:=w) T
 have br:=bY (P:=P) (w:=w) T
 refine T.uK.ok mR (fun vs H Q E h=>?_) (fun cdv A outer s0 H vs Q E hr h=>?_)
 ·obtain⟨Z,p,d,s,n,m,q,z,rfl,_⟩:=h
  rfl
 ·obtain⟨Z,p,d,s,n,m,q,z,rfl,pr,m0,po⟩:=h
  have hh:=pr.hh
  have hu:=yF hr
  have hs:=pr.g.core.fP
  have hN:=pr.g.core.qX
  refine⟨_,(ah (aE (i:=4) mR.nd rfl (Or.inl rfl) (aF j3 (hr.mono (by decide)) rfl T.pD T.fu.kp (o9 T.fu) .nil aI (aa (pv 0) (aa (pv 1) (aa (pv 2) ai))))) (ah (bZ (aU j_ (pv 4) (au rfl T.aH ri) (bh _)) (ay (aC (aK (aa (pv 4) ai)))) bw) (ah (aE (i:=5) mR.nd rfl (Or.inl rfl) (aZ (aa (pv 1) (aa (pv 2) ai)))) (ah (bZ (PW.pt (BX (BV (LK hu (pv 5) (ak (pv 0) rfl))) (yo (aU j9 (aQ LX rfl T.gk aaK (aa (ak (pv 0) rfl) ai)) (au rfl T.Gg ri) (bh _))))) (ay (aC (aK (aa (au rfl T.vE ri) ai)))) bw) (ah (aE (i:=6) mR.nd rfl (Or.inl rfl) (jy (jy (pv 0) T.bS T.ie d_ (hr.mono (by decide)) (i7 T.gh) .nil aI (aa (pv 1) (aa (pv 2) ai))) T.xM T.yU Ax (hr.mono (by decide)) (Ad T.qI) .nil aI (aa (pv 3) ai))) (ah (bZ (ja (aF jY (hr.mono (by decide)) rfl T.pG T.fB.kp (pq T.fB) .nil aI (aa (ak (pv 6) rfl) ai))) (ay (aC (aK (aa (au rfl T.uP ri) ai)))) bw) (ah (yE hu (ak (pv 0) rfl) (pv 5) (pv 6) rfl) (ah (bN (cz bL (ak (pv 0) rfl) (aW bP (pv 1) aG) (fun _ _=>rfl)) (pv 3) lZ) (ah (bN (pv 0) (pv 3) m9) (ay (aC (aF br (hr.mono (by decide)) rfl T.cG T.aT.kp (cE T.aT) .nil aI (aa (pv 0) (aa (aK (aa (au rfl T.aH ri) (aa (ak (pv 6) rfl) ai))) ai)))))))))))))),?_⟩
  refine⟨_,rfl,_,rfl,_,rfl,Z,p,d,s,m,q,rfl,hh,m0,_,rfl,rfl,_,rfl,?_⟩
  by_cases h0:vP s m q=0
  ·refine tF (by rw[h0]) ?_
   obtain⟨⟨x,hx,hf⟩,hc⟩:=E8 h0
   have ml:=(aR.mp ⟨x,hx⟩).2
   refine⟨_,rfl,_,rfl,lz rfl,fun tp htp=>?_⟩
   have s1:=ao.new (o:=.tup [vn m,vn q]) htp
   have i9:=hh.mono s1
   have ht1:upd H tp (.tup [vn m,vn q]) tp=some (.tup ((pk m q).map kV)):=af
   generalize upd H tp (.tup [vn m,vn q])=H1 at s1 i9 ht1⊢
   refine⟨_,rfl,_,rfl,_,_,_,_,_,rfl,i9.ins,T.bS,T.gj,iU d s,d.pd,_,rfl,oF.t (k:=pk m q) i9.pd ht1,_,rfl,?_⟩
   have hv:(gI (aV d.es) (pk m q)).isSome=hasEntry s m q:=by
    rcases i9.pair hs m q with⟨e1,a,e2,_⟩ |⟨e1,e2⟩
    ·rw[e2,e1];rfl
    ·rw[e2,e1];rfl
   rw[hv]
   have fin:does s (.item m q z)=.error (-4)∨(¬(ENTRIES≤s.entries.length∧hasEntry s m q=false)):=by
    by_cases h4:ENTRIES≤s.entries.length∧hasEntry s m q=false
    ·left
     simp only[does,hx,hf,hc,aaC,aa4,D7 h4]
    ·exact .inr h4
   have body:(¬(ENTRIES≤s.entries.length∧hasEntry s m q=false))→(BZ (Q6 (Kz t.c.cP "with_item" (pM t) [] E0 (Kz t.c.cH "pair_of" (qO t) [] E0 (j7 0) (jx (j7 1) (jx (j7 2) vM))) (jx (j7 3) vM)) (Hg 6)) (BZ (T8 (tB (Ky n9 [] E0 (jx (DA K (j7 6) "total") vM))) (Q3 (Rf (jx (tC (.int (-8))) vM))) Qk) (BZ (Qw (DA K (j7 0) "pairs") (j7 5) (j7 6)) (BZ (FD K (S_ (Rh K) (DA K (j7 0) "members") (S_ (Qo fun i j=>.int (i-j)) (j7 1) (tC (.int 1)))) (j7 3) Ul "unbilled") (BZ (FD K (j7 0) (j7 3) Um "market") (Q3 (Ky (jX t) [] E0 (jx (j7 0) (jx (Rf (jx (tC (.int 0)) (jx (DA K (j7 6) "total") vM))) vM))))))))) {nx:=fun _ H'=>Q .lJ H',rt:=Q} [some (.ref p),some (vn m),some (vn q),some (.int z),some (.int (vP s m q)),some (.ref tp),none] H1:=by
    intro h4
    refine⟨_,rfl,p,d.dx,_,rfl,i9.ins,fT r_,_,rfl,_,rfl,Z,p,d,s,m,q,rfl,i9,hs,fun H2 a s2 pa=>?_⟩
    obtain⟨da,hpa⟩:=pa
    refine⟨a,da,_,rfl,hpa,fT Gq,_,rfl,a,entryOf s m q,z,rfl,⟨da,hpa⟩,fun y dy hy PL ne=>?_⟩
    have s3:ao H2 (zK H2 dy y t.c.cP (NP.zip (f_ (bz (entryOf s m q) z)))):=ao.mk hy PL
    have Om:ao H1 (zK H2 dy y t.c.cP (NP.zip (f_ (bz (entryOf s m q) z)))):=s2.trans s3
    have py:zK H2 dy y t.c.cP (NP.zip (f_ (bz (entryOf s m q) z))) y=some (.ins t.c.cP dy (NP.zip (f_ (bz (entryOf s m q) z)))):=pU
    have Tw:=i9.uf (ao.free s2 hy)
    show BZ _ _ _ _ (zK H2 dy y t.c.cP (NP.zip (f_ (bz (entryOf s m q) z))))
    generalize zK H2 dy y t.c.cP (NP.zip (f_ (bz (entryOf s m q) z)))=H3 at s3 Om py⊢
    refine⟨_,rfl,_,_,_,_,_,rfl,py,T.xM,T.gQ,iV _,_,rfl,_,rfl,?_⟩
    have Oo:=i9.mono Om
    have ht3:=Om _ _ ht1
    by_cases h5:(entryOf s m q).total+z< -BOOK∨BOOK<(entryOf s m q).total+z
    ·have eo:vK ((bz (entryOf s m q) z).total)=true:=by
      show(decide ((entryOf s m q).total+z< -1000000000000000000)||decide (1000000000000000000<(entryOf s m q).total+z))=true
      rcases h5 with h |h
      ·rw[aa8 (show(entryOf s m q).total+z< -1000000000000000000 from h)];rfl
      ·rw[aa8 (show 1000000000000000000<(entryOf s m q).total+z from h),Bool.or_true]
     rw[eo]
     refine⟨lz rfl,fun l hl=>?_⟩
     exact bB po (e:=-8) (by simp only[does,hx,hf,hc,aaC,aa4,D6 h4,D7 h5]) hh (by decide) ((s1.trans Om).trans (ao.new hl)) (ao.free (s1.trans Om) hl) af
    ·have eo:vK ((bz (entryOf s m q) z).total)=false:=by
      show(decide ((entryOf s m q).total+z< -1000000000000000000)||decide (1000000000000000000<(entryOf s m q).total+z))=false
      rw[aa7 (show ¬(entryOf s m q).total+z< -1000000000000000000 from fun h=>h5 (.inl h)),aa7 (show ¬1000000000000000000<(entryOf s m q).total+z from fun h=>h5 (.inr h))];rfl
     rw[eo]
     have hdo:does s (.item m q z)=booked (C5 s m q z) [(entryOf s m q).total+z]:=by
      simp only[does,hx,hf,hc,aaC,aa4,D6 h4,D6 h5]
      rfl
     obtain⟨km,kq⟩:=oK s (m:=m) (p:=q) hs
     have hpl:(aV d.es).length<sizeLine:=by
      unfold aV
      rw[DS,hh.Cg]
      exact bV (by omega)
     refine⟨_,rfl,_,rfl,_,_,_,_,_,rfl,Oo.ins,T.bS,T.gj,iU d s,_,rfl,d.pd,_,rfl,B9.t (k:=pk m q) Oo.pd ht3 hpl,?_⟩
     have h6:=Oo.UJ hs (x:=bz (entryOf s m q) z) ⟨dy,py⟩ Tw
     rw[show pk (bz (entryOf s m q) z).m (bz (entryOf s m q) z).period=pk m q by rw[show(bz (entryOf s m q) z).m=m from km,show(bz (entryOf s m q) z).period=q from kq]]at h6
     have k6:aM H p d _ {d with es:=sI d.es y (bz (entryOf s m q) z)}:=(((aM.same s1).trans (aM.same Om)).trans (aM.upd (d:=d) (o:=.dT (putK (aV d.es) (pk m q) (.ref y))) (aj.xj (p:=p) (d:=d)))).N1 rfl
     have npy:y≠d.pd:=fun e=>Tw.1 (by rw[e];exact aj.xj)
     have ZM:upd H3 d.pd (.dT (putK (aV d.es) (pk m q) (.ref y))) y=some (.ins t.c.cP dy (NP.zip (f_ (bz (entryOf s m q) z)))):=by rw[aq npy];exact py
     generalize upd H3 d.pd (.dT (putK (aV d.es) (pk m q) (.ref y)))=H6 at h6 k6 ZM⊢
     have Vk:member? {s with entries:=putEntry (bz (entryOf s m q) z) s.entries} m=some x:=hx
     obtain⟨_,a,dx,ha,_,hb⟩:=h6.one Vk
     refine⟨_,rfl,_,_,_,_,_,rfl,h6.ins,T.bS,T.aX,bq _ _,_,rfl,_,_,rfl,rfl,d.ml,_,_,_,rfl,rfl,bD.of h6.ml,K0 m0 ha,_,_,_,_,_,rfl,hb,T.kT,T.fR,jo x,_,rfl,_,_,rfl,rfl,dx,_,hb,vI NM _ rfl,?_⟩
     dsimp only
     rw[AN]
     have h7:=h6.CZ (dx:=dx) (g:=fun y=>{y with unbilled:=y.unbilled+z}) Vk ha
     have k7:=k6.trans (aM.upd (o:=.ins t.c.cM dx (NM.zip (dB {x with unbilled:=x.unbilled+z}))) (aj.gv (p:=p) ha))
     have nya:y≠a:=fun e=>Tw.1 (by rw[e];exact aj.gv (d:=d) ha)
     have ZN:upd H6 a (.ins t.c.cM dx (NM.zip (dB {x with unbilled:=x.unbilled+z}))) y=some (.ins t.c.cP dy (NP.zip (f_ (bz (entryOf s m q) z)))):=by rw[aq nya];exact ZM
     generalize upd H6 a (.ins t.c.cM dx (NM.zip (dB {x with unbilled:=x.unbilled+z})))=H7 at h7 k7 ZN⊢
     refine⟨_,rfl,_,_,_,_,_,rfl,h7.ins,T.bS,T.mV,vA _ _,_,rfl,_,_,rfl,rfl,d.dx,_,h7.ins,vI NH _ rfl,?_⟩
     dsimp only
     rw[Jw]
     have h8:=h7.sY (s':=C5 s m q z) rfl rfl rfl rfl rfl
     have k8:=k7.trans (aM.upd (o:=.ins t.c.cH d.dx (NH.zip (aB {d with es:=sI d.es y (bz (entryOf s m q) z)} (C5 s m q z)))) (aj.gJ (p:=p) (d:={d with es:=sI d.es y (bz (entryOf s m q) z)})))
     have nyp:y≠p:=fun e=>Tw.1 (by rw[e];exact aj.gJ)
     have py8:upd H7 p (.ins t.c.cH d.dx (NH.zip (aB {d with es:=sI d.es y (bz (entryOf s m q) z)} (C5 s m q z)))) y=some (.ins t.c.cP dy (NP.zip (f_ (bz (entryOf s m q) z)))):=by rw[aq nyp];exact ZN
     refine⟨_,rfl,_,rfl,_,_,_,_,_,rfl,py8,T.xM,T.gQ,iV _,lz rfl,fun l hl=>?_⟩
     have sl:=ao.new (o:=.lst [.int 0,.int (bz (entryOf s m q) z).total]) hl
     refine⟨Z,p,_,C5 s m q z,l,[0,(entryOf s m q).total+z],rfl,h8.mono sl,?_,af,lW po hdo hh (k8.trans (aM.same sl)) (h8.mono sl) (k8.free hl) af⟩
     exact Wf.set (s:={s with entries:=putEntry (bz (entryOf s m q) z) s.entries,market:=s.market-z}) ⟨pr.wf.inv,pr.wf.fO⟩ _ _
   cases he:hasEntry s m q with
   |true=>
    exact body (fun h=>by rw[he]at h;cases h.2)
   |false=>
    refine⟨_,rfl,_,_,_,_,_,rfl,i9.ins,T.bS,T.gj,iU d s,d.pd,_,rfl,i9.pd,rfl,_,rfl,?_⟩
    have el:(aV d.es).length=s.entries.length:=by unfold aV;rw[DS,hh.Cg]
    rw[el]
    by_cases h4:s.entries.length=256
    ·refine uR (by rw[h4];rfl) ⟨lz rfl,fun l hl=>?_⟩
     rcases fin with hd |hd
     ·exact bB po hd hh (by decide) (s1.trans (ao.new hl)) (ao.free s1 hl) af
     ·exact absurd ⟨(by show 256≤_;omega),he⟩ hd
    ·refine tD (fun e=>h4 (by have:=bG e;omega)) ?_
     exact body (fun h=>h4 (by have:256≤s.entries.length:=h.1;omega))
  ·refine tE (fun z=>h0 (bG z)) ⟨_,rfl,lz rfl,fun l hl=>?_⟩
   exact bB po (N4 h0) hh h0 (ao.new hl) hl af
end
section
variable{P:Program}{w:World}{K:W.Frag}{mg:Str→Option Value}{base:Heap}{t:TX}
def xW(t:TX):Sp:=fun vs H Q _=>∃Z p d s m q x,vs=[.ref p,vn m,vn q]∧aj t.c H Z p d s∧s.entries.Pairwise wL∧member? s m=some x∧∀H',ao H H'→Q (.bl (!x.failed&&changedEntry s m q)) H'
theorem xX(T:Txt K mg t):bE P w K mg t.b fG 4 (t.f 39) (t.fd 39) ["house","number","period"] (xW t):=by
 have d_:=iy (P:=P) (w:=w) T
 have jl:=mE (P:=P) (w:=w) T
 refine T.jR.ok xA (fun vs H Q E h=>?_) (fun cdv A outer s0 H vs Q E hr h=>?_)
 ·obtain⟨Z,p,d,s,m,q,x,rfl,_⟩:=h
  rfl
 ·obtain⟨Z,p,d,s,m,q,x,rfl,hh,hs,hx,k⟩:=h
  obtain⟨m0,a,da,ha,_,hb⟩:=hh.one hx
  refine⟨_,(ay (aC (MR (MS (ak (cz bL (ak (pv 0) rfl) (aW bP (pv 1) aG) (fun _ _=>rfl)) rfl)) (Je (MS (m_ (jy (pv 0) T.bS T.ie d_ (hr.mono (by decide)) (i7 T.gh) .nil aI (aa (pv 1) (aa (pv 2) ai))) T.xM T.mC jl (hr.mono (by decide)) (nI T.jf) .nil aI)))))),?_⟩
  refine⟨_,rfl,_,_,_,_,_,rfl,hh.ins,T.bS,T.aX,bq d s,_,rfl,_,_,rfl,rfl,d.ml,_,_,_,rfl,rfl,bD.of hh.ml,K0 m0 ha,_,_,_,_,_,rfl,hb,T.kT,T.iu,mU x,_,rfl,_,rfl,?_⟩
  refine NW (fun e=>?_) (fun e=>?_)
  ·refine⟨_,rfl,p,d.dx,_,rfl,hh.ins,fT r_,_,rfl,_,rfl,Z,p,d,s,m,q,rfl,hh,hs,fun H1 b s1 pb=>?_⟩
   obtain⟨db,Tu⟩:=pb
   refine⟨b,db,_,rfl,Tu,fT AU,b,entryOf s m q,rfl,⟨db,Tu⟩,_,rfl,?_⟩
   have:=k H1 s1
   rw[e,Bool.true_and]at this
   exact this
  ·have:=k H (ao.refl H)
   rw[e,Bool.false_and]at this
   exact this
theorem wG{s:State}{i:Nat}(h:i<s.members.length):(membersOf s)[i]?=some (i+1):=by
 unfold membersOf
 rw[HD,acd h]
 rfl
theorem iY(s:State):(membersOf s).length=s.members.length:=by unfold membersOf;simp
theorem u_{s:State}{m:Nat}{x:Member}(h:member? s m=some x):isFailed s m=x.failed:=pP h
def xY(t:TX):Sp:=fun vs H Q _=>∃Z p d s q,vs=[.ref p,vn q]∧aj t.c H Z p d s∧s.entries.Pairwise wL∧s.members.length≤16∧∀H' l,ao H H'→H l=none→H' l=some (.lst (cS (billable s q)))→Q (.ref l) H'
theorem oA(T:Txt K mg t):bE P w K mg t.b fG 5 (t.f 40) (t.fd 40) ["house","period"] (xY t):=by
 have zx:=xX (P:=P) (w:=w) T
 refine T.fD.ok je (fun vs H Q E h=>?_) (fun cdv A outer s0 H vs Q E hr h=>?_)
 ·obtain⟨Z,p,d,s,q,rfl,_⟩:=h
  rfl
 ·obtain⟨Z,p,d,s,q,rfl,hh,hs,CS,k⟩:=h
  refine⟨_,(ay (aC (v_ rfl je.nd (Lz rfl T.KS (aa aG (aa (aW iB (aQ a_ rfl T.gk aaK (aa (ak (pv 0) rfl) ai)) aG) ai))) (eO (own:=[("number",2)]) (by show t9 ["house","period","number"] (az gA) _ _=true;decide+kernel)) (fun _ _ _ _ _=>(bC (i:=2) je.nd rfl (Or.inl rfl))) (fun _ _ _ _ _=>(Bv (ja (aF zx (hr.mono (by decide)) rfl T.yW T.jR.kp (yR T.jR) .nil aI (aa (pv 0) (aa (pv 2) (aa (pv 1) ai))))))) (fun _ _ _ _ _=>(pv 2))))),?_⟩
  refine⟨_,rfl,_,_,_,_,_,rfl,hh.ins,T.bS,T.aX,bq d s,_,_,rfl,.inl (bD.of hh.ml),_,_,rfl,rfl,1,((s.members.length:Nat):Int)+1,by rw[DS,hh.iC],⟨by decide,by decide,by omega,by omega⟩,fun D hD=>?_⟩
  have en:(((s.members.length:Nat):Int)+1-1).toNat=s.members.length:=by omega
  rw[en]
  refine Na (lo:=1) (n:=s.members.length) (fun i dw=>dw D=some (.lst (cS (((membersOf s).take i).filter fun m=> !isFailed s m&&changedEntry s m q)))∧ao H dw) ⟨af,ao.new hD⟩ ?_ ?_
  ·rintro i dw hi ⟨j0,sm⟩
   have IF:=hh.mono sm
   obtain⟨x,hx⟩:=aR.mpr ⟨acp i,Nat.succ_le_of_lt hi⟩
   have ev:(1:Int)+(i:Int)=((i+1:Nat):Int):=by omega
   rw[ev]
   refine⟨rfl,_,rfl,_,rfl,_,rfl,Z,p,d,s,i+1,q,x,rfl,IF,hs,hx,fun H3 s3=>⟨_,rfl,?_⟩⟩
   have e1:=aa6 (wG hi)
   have e2:(!isFailed s (i+1)&&changedEntry s (i+1) q)=(!x.failed&&changedEntry s (i+1) q):=by rw[u_ hx]
   have Ml:=s3 _ _ j0
   refine NW (fun e=>?_) (fun e=>?_)
   ·refine⟨_,rfl,_,Ml,?_,?_,ao.put (sm.trans s3) hD⟩
    ·rw[DS]
     refine bV (aaL (abL _ _) ?_)
     rw[aaH];omega
    ·rw[af,e1,ace,abi,D7 (by rw[e2];exact e),List.filter_nil,←J2]
     rfl
   ·refine⟨?_,sm.trans s3⟩
    rw[Ml,e1,ace,abi,D6 (by rw[e2,e];exact aay),List.filter_nil,abr]
  ·rintro dw ⟨j0,sm⟩
   rw[←iY,aaM]at j0
   exact k _ D sm hD j0
def sS(t:TX):Sp:=fun vs H Q _=>∃Z p d s n q,vs=[.ref p,vn q]∧Pre t.c H Z p d s n∧Post t.c H Z p d (does s (.close q)) Q
theorem Bf(T:Txt K mg t):bE P w K mg t.b fG 6 (t.f 42) (t.fd 42) ["house","period"] (sS t):=by
 have j4:=oA (P:=P) (w:=w) T
 have ee:=gS (P:=P) (w:=w) T
 refine T.nO.ok sJ (fun vs H Q E h=>?_) (fun cdv A outer s0 H vs Q E hr h=>?_)
 ·obtain⟨Z,p,d,s,n,q,rfl,_⟩:=h
  rfl
 ·obtain⟨Z,p,d,s,n,q,rfl,pr,po⟩:=h
  have hh:=pr.hh
  have hu:=yF hr
  refine⟨_,(ah (aE (i:=2) sJ.nd rfl (Or.inl rfl) (aF ee (hr.mono (by decide)) rfl T.iP T.cg.kp (iM T.cg) .nil aI (aa (pv 0) (aa (pv 1) ai)))) (ah (bZ (aU j_ (pv 2) (au rfl T.aH ri) (bh _)) (ay (aC (aK (aa (pv 2) ai)))) bw) (ah (bZ (aU yr (aQ a_ rfl T.gk aaK (aa (aF j4 (hr.mono (by decide)) rfl T.pI T.fD.kp (pB T.fD) .nil aI (aa (pv 0) (aa (pv 1) ai))) ai)) aG (bh _)) (ay (aC (aK (aa (au rfl T.CH ri) ai)))) bw) (ah (bZ (aU j9 (aQ LM rfl T.gk aaK (aa (ak (pv 0) rfl) ai)) (au rfl T.tw ri) (bh _)) (ay (aC (aK (aa (au rfl T.vE ri) ai)))) bw) (ah (yE hu (ak (pv 0) rfl) (pv 1) Hf rfl) (ay (aC (aK (aa (au rfl T.aH ri) ai))))))))),?_⟩
  refine⟨_,rfl,_,rfl,Z,p,d,s,q,rfl,hh,_,rfl,rfl,_,rfl,?_⟩
  by_cases hc:isClosed s q=true
  ·have e:CM s q= -7:=D7 hc
   rw[e]
   refine tE (by intro z;have:=bG z;omega) ⟨_,rfl,lz rfl,fun l hl=>?_⟩
   exact bB po (e:=-7) (by simp only[does,hc,aa3]) hh (by decide) (ao.new hl) hl af
  ·have e:CM s q=0:=D6 hc
   rw[e]
   refine tF rfl ⟨_,rfl,_,rfl,Z,p,d,s,q,rfl,hh,pr.g.core.fP,pr.wf.fO,fun H1 l1 s1 hl1 C6=>?_⟩
   have i9:=hh.mono s1
   refine⟨l1,_,rfl,.inl (bD.of C6),_,_,rfl,rfl,_,rfl,?_⟩
   rw[DS]
   by_cases hb:(billable s q).isEmpty=false
   ·have hb':0<(billable s q).length:=by
     cases h:billable s q with
     |nil=>rw[h]at hb;cases hb
     |cons a r=>exact acp _
    refine uR (by omega) ⟨lz rfl,fun l hl=>?_⟩
    exact bB po (e:=-11) (by simp only[does,D6 hc,D7 hb]) hh (by decide) (s1.trans (ao.new hl)) (ao.free s1 hl) af
   ·have hb':(billable s q).length=0:=by
     cases h:billable s q with
     |nil=>rfl
     |cons a r=>rw[h]at hb;exact absurd rfl hb
    refine tD (by omega) ⟨_,rfl,_,_,_,_,_,rfl,i9.ins,T.bS,T.mW,vB d s,d.cd,_,rfl,i9.cd,rfl,_,rfl,?_⟩
    have el:(gu s.closed).length=s.closed.length:=by unfold gu;rw[DS]
    rw[el]
    have hcl:=pr.g.core.yg
    by_cases h4:s.closed.length=256
    ·refine uR (by rw[h4];rfl) ⟨lz rfl,fun l hl=>?_⟩
     exact bB po (e:=-4) (by
      have h5:ENTRIES≤s.closed.length:=by show 256≤_;omega
      simp only[does,D6 hc,D6 hb,D7 h5]) hh (by decide) (s1.trans (ao.new hl)) (ao.free s1 hl) af
    ·refine tD (fun z=>h4 (by have:=bG z;omega)) ?_
     refine⟨_,rfl,_,_,_,_,_,rfl,i9.ins,T.bS,T.mW,vB d s,_,rfl,d.cd,_,rfl,B9.k (k:=Sum.inl (q:Int)) i9.cd (by rw[el];exact bV (by omega)),?_⟩
     have hq:q∉s.closed:=fun h=>hc (by unfold isClosed;simpa using h)
     have h2:=i9.Xj hq
     have k2:aM H p d _ d:=(aM.same s1).trans (aM.upd (o:=.dK (putK (gu s.closed) (.inl (q:Int)) (.bl true))) (aj.Jv (p:=p) (d:=d)))
     refine⟨lz rfl,fun l hl=>?_⟩
     have sl:=ao.new (o:=.lst [.int 0]) hl
     refine c_ po (a:=[]) (t':={s with closed:=s.closed++[q]}) (by
      have h5:¬ENTRIES≤s.closed.length:=by show ¬256≤_;omega
      simp only[does,D6 hc,D6 hb,D6 h5]) hh (k2.trans (aM.same sl)) (h2.mono sl) (k2.free hl) af
end
theorem Io{xs:List V}{k:Nat}(h:k≤xs.length):A3 xs (some (k:Int)) none=xs.drop k:=by
 unfold A3
 rw[HT.Bs,HT.Hl,Nat.min_eq_left h]
 exact abp (by rw[abw];exact D9 _)
section
variable{P:Program}{w:World}{K:W.Frag}{mg:Str→Option Value}{base:Heap}{t:TX}
def sd(nb:Nat)(u:State):List Int:=rows (cU nb (u.invoices.drop nb))
def xZ(t:TX):Sp:=fun vs H Q _=>∃Z p d u nb,vs=[.ref p,vn nb]∧aj t.c H Z p d u∧Wf u∧nb≤u.invoices.length∧u.invoices.length≤300∧
 (256<u.invoices.length→∀H' l,ao H H'→H l=none→H' l=some (.lst (aO [-4]))→Q (.ref l) H')∧
 (u.invoices.length≤256→beyond u=false→∀H' l,ao H H'→H l=none→H' l=some (.lst (aO (0::sd nb u)))→Q (.ref l) H')∧
 (u.invoices.length≤256→beyond u=true→∀H' l,ao H H'→H l=none→H' l=some (.lst (aO [-8]))→Q (.ref l) H')
theorem oB(T:Txt K mg t):bE P w K mg t.b fG 4 (t.f 37) (t.fd 37) ["house","invoices_before"] (xZ t):=by
 have br:=bY (P:=P) (w:=w) T
 refine T.fC.ok eW (fun vs H Q E h=>?_) (fun cdv A outer s0 H vs Q E hr h=>?_)
 ·obtain⟨Z,p,d,u,nb,rfl,_⟩:=h
  rfl
 ·obtain⟨Z,p,d,u,nb,rfl,hh,wf,hnb,Ij,k1,k2,k3⟩:=h
  refine⟨_,(ah (bZ (aU yr (aQ a_ rfl T.gk aaK (aa (ak (pv 0) rfl) ai)) (au rfl T.A_ ri) (bh _)) (ay (aC (aK (aa (au rfl T.vE ri) ai)))) bw) (ah (aE (i:=2) eW.nd rfl (Or.inl rfl) (yw Bt (ak (pv 0) rfl) (yu (pv 1)) FF)) (ah (aE (i:=3) eW.nd rfl (Or.inl rfl) (aK (aa (au rfl T.aH ri) (aa (aQ a_ rfl T.gk aaK (aa (pv 2) ai)) ai)))) (ah (lY abd rfl (yK rfl T.pK (aa (pv 2) ai) (aW iB (pv 1) aG)) (tT (n:=2) rfl (b9 (bC (i:=4) eW.nd rfl (Or.inl rfl)) (b9 (bC (i:=5) eW.nd rfl (Or.inl rfl)) jw))) (ay (eE (su aaT ab9 ab_ vt (pv 3) (aa (aK (aa (pv 4) (aa (ak (pv 5) rfl) (aa (ak (pv 5) rfl) (aa (ak (pv 5) rfl) ai))))) ai))))) (ay (aC (aF br (hr.mono (by decide)) rfl T.cG T.aT.kp (cE T.aT) .nil aI (aa (pv 0) (aa (pv 3) ai))))))))),?_⟩
  refine⟨_,rfl,_,_,_,_,_,rfl,hh.ins,T.bS,T.bK,cA d u,_,_,rfl,.inl (bD.of hh.il),_,_,rfl,rfl,_,rfl,?_⟩
  rw[DS,hh.iD]
  by_cases h1:256<u.invoices.length
  ·refine uR (by omega) ⟨lz rfl,fun l hl=>?_⟩
   exact k1 h1 _ l (ao.new hl) hl af
  ·refine tD (by omega) ?_
   refine⟨_,rfl,_,_,_,_,_,rfl,hh.ins,T.bS,T.bK,cA d u,_,rfl,_,rfl,d.il,_,rfl,bD.of hh.il,fun D hD=>?_⟩
   have hlm:nb≤(d.is.map V.ref).length:=by rw[DS,hh.iD];exact hnb
   rw[Io hlm]
   have s1:=ao.new (o:=.lst ((d.is.map V.ref).drop nb)) hD
   have d1:upd H D (.lst ((d.is.map V.ref).drop nb)) D=some (.lst ((d.is.map V.ref).drop nb)):=af
   generalize upd H D (.lst ((d.is.map V.ref).drop nb))=H1 at s1 d1⊢
   have hlen:((d.is.map V.ref).drop nb).length=u.invoices.length-nb:=by rw[abw,DS,hh.iD]
   refine⟨_,rfl,D,_,rfl,.inl (bD.of d1),lz rfl,fun L hL=>?_⟩
   rw[hlen]
   have hLH:H L=none:=ao.free s1 hL
   have s2:ao H1 (upd H1 L (.lst [.int 0,V.int ((u.invoices.length-nb:Nat):Int)])):=ao.new hL
   have l2:upd H1 L (.lst [.int 0,V.int ((u.invoices.length-nb:Nat):Int)]) L=some (.lst (aO (0::nat (u.invoices.length-nb)::(cU nb ((u.invoices.drop nb).take 0)).flatten))):=af
   generalize upd H1 L (.lst [.int 0,V.int ((u.invoices.length-nb:Nat):Int)])=H2 at s2 l2⊢
   refine⟨_,rfl,_,rfl,_,_,rfl,rfl,D,_,((nb+1:Nat):Int),rfl,rfl,by omega,by omega,bD.of (s2 _ _ d1),xR (J:=L3 K D ((nb+1:Nat):Int)) (u.invoices.length-nb) (fun i σ H'=>∃v4 v5,σ=[some (.ref p),some (vn nb),some (.ref D),some (.ref L),v4,v5]∧ao H1 H'∧H' L=some (.lst (aO (0::nat (u.invoices.length-nb)::(cU nb ((u.invoices.drop nb).take i)).flatten))))
    ⟨none,none,rfl,s2,l2⟩ ?_ ?_ ?_ ?_⟩
   ·rintro i σ H' hi ⟨v4,v5,rfl,sm,_⟩
    exact⟨_,((d.is.map V.ref).drop nb)[i]'(by rw[hlen];exact hi),bD.of (sm _ _ d1),D3 _⟩
   ·rintro σ H' ⟨v4,v5,rfl,sm,_⟩
    exact⟨_,bD.of (sm _ _ d1),by rw[hlen];exact D9 _⟩
   ·rintro i σ H' x dw hi ⟨v4,v5,rfl,sm,hL'⟩ ⟨Tt,y,rfl,hT,rfl,hy⟩
    have hy1:=hy _ (bD.of (sm _ _ d1))
    rw[acF]at hy1
    obtain⟨a,ha,rfl⟩:=get_map hy1
    obtain⟨iv,dv,hiv,hb,_⟩:=hh.xP ha
    have sT:ao H1 (upd H' Tt (.tup [.int (((nb+1:Nat):Int)+(i:Nat)),.ref a])):=sm.trans (ao.new hT)
    have Ar:=sT _ _ (s1 _ _ hb)
    have ZO:upd H' Tt (.tup [.int (((nb+1:Nat):Int)+(i:Nat)),.ref a]) L=_:=(ao.new hT) _ _ hL'
    have hx:(u.invoices.drop nb)[i]?=some iv:=by rw[acF];exact hiv
    refine⟨Tt,_,rfl,i6.of af,rfl,_,_,rfl,_,_,rfl,rfl,?_⟩
    refine⟨_,rfl,.inl ⟨rfl,_,bD.of ZO⟩,_,rfl,_,rfl,_,_,_,_,_,rfl,Ar,T.rV,T.bF,g_ iv,_,rfl,_,_,_,_,_,rfl,Ar,T.rV,T.yY,Cf iv,_,rfl,_,_,_,_,_,rfl,Ar,T.rV,T.Ge,Jx iv,lz rfl,fun X hX=>?_⟩
    have sX:=ao.new (o:=.lst [.int (((nb+1:Nat):Int)+(i:Nat)),vn iv.m,.int iv.cents,.int iv.tax]) hX
    have hfl:(cU nb ((u.invoices.drop nb).take i)).flatten.length≤1200:=by
     rw[oO,aaH];omega
    refine⟨L,X,_,_,rfl,rfl,sX _ _ ZO,af,?_,?_⟩
    ·rw[DS,aax,aax];exact fH (by show _+1+1+4≤_;omega)
    ·refine⟨_,_,rfl,ao.put (sT.trans sX) hL,?_⟩
     rw[af,aa6 hx,BO,List.flatten_append]
     have e:((nb+1:Nat):Int)+(i:Nat)=nat (nb+((u.invoices.drop nb).take i).length+1):=by
      have:((u.invoices.drop nb).take i).length=i:=by rw[aaH,abw];omega
      rw[this]
      unfold nat
      omega
     rw[e]
     exact congrArg (fun q=>some (HO.lst q)) (jV (0::nat (u.invoices.length-nb)::(cU nb ((u.invoices.drop nb).take i)).flatten) [_,_,_,_])
   ·rintro σ H' ⟨v4,v5,rfl,sm,hL'⟩
    have e0:(u.invoices.drop nb).take (u.invoices.length-nb)=u.invoices.drop nb:=abp (by rw[abw];exact D9 _)
    rw[e0]at hL'
    have e1:(0::nat (u.invoices.length-nb)::(cU nb (u.invoices.drop nb)).flatten:List Int)=0::sd nb u:=by
     unfold sd rows
     rw[yl,abw]
    rw[e1]at hL'
    have sH:=s1.trans sm
    refine⟨_,rfl,_,rfl,Z,p,d,u,L,_,rfl,hh.mono sH,wf,hL',fun H3 s3=>⟨fun hb=>?_,fun hb l' hl' R_=>?_⟩⟩
    ·exact k2 (by omega) hb H3 L (sH.trans s3) hLH (s3 _ _ hL')
    ·exact k3 (by omega) hb H3 l' (sH.trans s3) (ao.free sH hl') R_
theorem N5{s:State}{m q:Nat}(h:vP s m q≠0):does s (.bill m q)=.error (vP s m q):=by
 rcases K2 h with⟨h0,e⟩ |⟨h0,hc,e⟩
 ·rw[e]
  rcases pN h0 with⟨h1,h2⟩ |⟨x,h1,h2,h3⟩
  ·rw[h2];simp only[does,h1]
  ·rw[h3];simp only[does,h1,h2,aa3]
 ·obtain⟨x,h1,h2⟩:=iz h0
  rw[e]
  simp only[does,h1,h2,hc,aaC,aa4,aa3]
def K3(t:TX):Sp:=fun vs H Q _=>∃Z p d s n m q,vs=[.ref p,vn m,vn q]∧Pre t.c H Z p d s n∧0<m∧Post t.c H Z p d (does s (.bill m q)) Q
theorem PV(T:Txt K mg t):bE P w K mg t.b fG 7 (t.f 38) (t.fd 38) ["house","number","period"] (K3 t):=by
 have j5:=oB (P:=P) (w:=w) T
 have vc:=zq (P:=P) (w:=w) T
 have j3:=n8 (P:=P) (w:=w) T
 refine T.JO.ok F0 (fun vs H Q E h=>?_) (fun cdv A outer s0 H vs Q E hr h=>?_)
 ·obtain⟨Z,p,d,s,n,m,q,rfl,_⟩:=h
  rfl
 ·obtain⟨Z,p,d,s,n,m,q,rfl,pr,m0,po⟩:=h
  have hh:=pr.hh
  have hu:=yF hr
  have hs:=pr.g.core.fP
  have hN:=pr.g.core.qX
  have hI:=pr.g.sV
  refine⟨_,(ah (aE (i:=3) F0.nd rfl (Or.inl rfl) (aF j3 (hr.mono (by decide)) rfl T.pD T.fu.kp (o9 T.fu) .nil aI (aa (pv 0) (aa (pv 1) (aa (pv 2) ai))))) (ah (bZ (aU j_ (pv 3) (au rfl T.aH ri) (bh _)) (ay (aC (aK (aa (pv 3) ai)))) bw) (ah (aE (i:=4) F0.nd rfl (Or.inl rfl) (aQ a_ rfl T.gk aaK (aa (ak (pv 0) rfl) ai))) (ah (bZ (BV (Nc hu (aZ (aa (pv 1) (aa (pv 2) ai))) (ak (pv 0) rfl))) (ay (eE (aF vc (hr.mono (by decide)) rfl T.AS T.lO.kp (AR T.lO) .nil aI (aa (pv 0) (aa (pv 1) (aa (pv 2) ai)))))) bw) (ay (aC (aF j5 (hr.mono (by decide)) rfl T.pH T.fC.kp (pA T.fC) .nil aI (aa (pv 0) (aa (pv 4) ai))))))))),?_⟩
  refine⟨_,rfl,_,rfl,_,rfl,Z,p,d,s,m,q,rfl,hh,m0,_,rfl,rfl,_,rfl,?_⟩
  by_cases h0:vP s m q=0
  ·refine tF (by rw[h0]) ?_
   obtain⟨⟨x,hx,hf⟩,hc⟩:=E8 h0
   have ml:=(aR.mp ⟨x,hx⟩).2
   refine⟨_,rfl,_,_,_,_,_,rfl,hh.ins,T.bS,T.bK,cA d s,_,_,rfl,.inl (bD.of hh.il),?_⟩
   rw[DS,hh.iD]
   refine⟨_,rfl,_,rfl,lz rfl,fun tp htp=>?_⟩
   have s1:=ao.new (o:=.tup [vn m,vn q]) htp
   have i9:=hh.mono s1
   have ht1:upd H tp (.tup [vn m,vn q]) tp=some (.tup ((pk m q).map kV)):=af
   generalize upd H tp (.tup [vn m,vn q])=H1 at s1 i9 ht1⊢
   refine⟨_,rfl,_,_,_,_,_,rfl,i9.ins,T.bS,T.gj,iU d s,d.pd,_,rfl,oF.t (k:=pk m q) i9.pd ht1,_,rfl,?_⟩
   have hv:(gI (aV d.es) (pk m q)).isSome=hasEntry s m q:=by
    rcases i9.pair hs m q with⟨e1,a,e2,_⟩ |⟨e1,e2⟩
    ·rw[e2,e1];rfl
    ·rw[e2,e1];rfl
   rw[hv]
   cases he:hasEntry s m q with
   |true=>
    refine⟨_,rfl,_,rfl,_,rfl,Z,p,d,s,m,q,x,rfl,i9,hs,hN,he,pr.g.core.rate,by omega,hx,fun H2 d2 kp h2=>?_⟩
    have c2:=lH pr.g.core m0 ml he
    have k2:aM H p d H2 d2:=(aM.same s1).trans kp
    have bl:=iZ s m q
    have hbd:bills s m q=true↔¬due s m q=0:=EB s m q
    have le1:(billed s m q).invoices.length≤300:=by rw[bl];split<;>omega
    have le2:s.invoices.length≤(billed s m q).invoices.length:=by rw[bl];split<;>omega
    have dn:¬(bills s m q=true∧INVOICES≤s.invoices.length)→does s (.bill m q)=booked (billed s m q) (sd s.invoices.length (billed s m q)):=fun hb=>by
     simp only[does,hx,hf,hc,aaC,aa4,D6 hb,he]
     rw[wU]
     rfl
    refine⟨_,rfl,_,rfl,Z,p,d2,billed s m q,s.invoices.length,rfl,h2,⟨c2.qW,c2.fO⟩,le2,le1,fun hb H3 l s3 hl hl'=>?_,fun hb hy H3 l s3 hl hl'=>?_,fun hb hy H3 l s3 hl hl'=>?_⟩
    ·refine qQ po (e:=-4) ?_ hh (by decide) (k2.trans (aM.same s3)) (h2.mono s3).tb (k2.free hl) hl'
     have hd:¬due s m q=0:=fun z=>by rw[bl,D7 z]at hb;omega
     have h4:bills s m q=true∧INVOICES≤s.invoices.length:=⟨hbd.mpr hd,by rw[bl,D6 hd]at hb;show 256≤_;omega⟩
     simp only[does,hx,hf,hc,aaC,aa4,D7 h4]
    ·have hb':¬(bills s m q=true∧INVOICES≤s.invoices.length):=by
      rintro⟨q1,q2⟩
      rw[bl,D6 (hbd.mp q1)]at hb
      have:256≤s.invoices.length:=q2
      omega
     exact c_ po (by rw[dn hb'];unfold booked;rw[hy];rfl) hh (k2.trans (aM.same s3)) (h2.mono s3) (k2.free hl) hl'
    ·have hb':¬(bills s m q=true∧INVOICES≤s.invoices.length):=by
      rintro⟨q1,q2⟩
      rw[bl,D6 (hbd.mp q1)]at hb
      have:256≤s.invoices.length:=q2
      omega
     exact qQ po (e:=-8) (by rw[dn hb'];unfold booked;rw[hy];rfl) hh (by decide) (k2.trans (aM.same s3)) (h2.mono s3).tb (k2.free hl) hl'
   |false=>
    have hnb:¬(bills s m q=true∧INVOICES≤s.invoices.length):=fun h=>(EB s m q).mp h.1 (ME he)
    have OF:beyond s=false:=(mX s).mpr pr.g.bnd
    have hdo:does s (.bill m q)=.ok (s,[0]):=by simp only[does,hx,hf,hc,aaC,aa4,D6 hnb,he,aa3]
    refine⟨_,rfl,_,rfl,Z,p,d,s,s.invoices.length,rfl,i9,pr.wf,D9 _,by omega,fun hb=>?_,fun hb hy H3 l s3 hl hl'=>?_,fun hb hy=>?_⟩
    ·omega
    ·have e:sd s.invoices.length s=[0]:=by
      unfold sd
      rw[List.drop_length]
      rfl
     rw[e]at hl'
     exact c_ po hdo hh (aM.same (s1.trans s3)) (i9.mono s3) (ao.free s1 hl) hl'
    ·rw[OF]at hy;cases hy
  ·refine tE (fun z=>h0 (bG z)) ⟨_,rfl,lz rfl,fun l hl=>?_⟩
   exact bB po (N5 h0) hh h0 (ao.new hl) hl af
theorem Ip{n q:Nat}:∀(l:List Nat) {s:State},Core n s→(∀m∈l,(0<m∧m≤s.members.length)∧hasEntry s m q=true)→∀k r,hasEntry (l.foldl (fun t m=>billed t m q) s) k r=hasEntry s k r
 |[],s,_,_,_,_=>rfl
 |m::l,s,c,h,k,r=>by
  obtain⟨h1,h2⟩:=h m aau
  have c1:=lH c h1.1 h1.2 h2
  have:=Ip l (s:=billed s m q) c1 (fun k hk=>by
   obtain⟨h3,h4⟩:=h k (aap _ hk)
   rw[kY,qZ c.fP h2]
   exact⟨h3,h4⟩) k r
  rw[qZ c.fP h2]at this
  exact this
theorem C7{q:Nat}:∀(l:List Nat) (s:State),s.invoices.length≤(l.foldl (fun t m=>billed t m q) s).invoices.length∧(l.foldl (fun t m=>billed t m q) s).invoices.length≤s.invoices.length+l.length
 |[],s=>⟨D9 _,D9 _⟩
 |m::l,s=>by
  have h:=C7 (q:=q) l (billed s m q)
  have bl:=iZ s m q
  have e:(if due s m q=0 then 0 else 1)≤1:=by split<;>omega
  rw[List.foldl_cons,aax]
  omega
def AV(t:TX):Sp:=fun vs H Q _=>∃Z p d s n q,vs=[.ref p,vn q]∧Pre t.c H Z p d s n∧Post t.c H Z p d (does s (.billAll q)) Q
theorem Iq(T:Txt K mg t):bE P w K mg t.b fG 7 (t.f 41) (t.fd 41) ["house","period"] (AV t):=by
 have j5:=oB (P:=P) (w:=w) T
 have vc:=zq (P:=P) (w:=w) T
 have j4:=oA (P:=P) (w:=w) T
 have ee:=gS (P:=P) (w:=w) T
 refine T.xF.ok o5 (fun vs H Q E h=>?_) (fun cdv A outer s0 H vs Q E hr h=>?_)
 ·obtain⟨Z,p,d,s,n,q,rfl,_⟩:=h
  rfl
 ·obtain⟨Z,p,d,s,n,q,rfl,pr,po⟩:=h
  have hh:=pr.hh
  have hs:=pr.g.core.fP
  have hI:=pr.g.sV
  have CS:=pr.wf.fO
  refine⟨_,(ah (aE (i:=2) o5.nd rfl (Or.inl rfl) (aF ee (hr.mono (by decide)) rfl T.iP T.cg.kp (iM T.cg) .nil aI (aa (pv 0) (aa (pv 1) ai)))) (ah (bZ (aU j_ (pv 2) (au rfl T.aH ri) (bh _)) (ay (aC (aK (aa (pv 2) ai)))) bw) (ah (aE (i:=3) o5.nd rfl (Or.inl rfl) (aQ a_ rfl T.gk aaK (aa (ak (pv 0) rfl) ai))) (ah (lY abd rfl (fS (aF j4 (hr.mono (by decide)) rfl T.pI T.fD.kp (pB T.fD) .nil aI (aa (pv 0) (aa (pv 1) ai)))) (bC (i:=4) o5.nd rfl (Or.inl rfl)) (ay (eE (aF vc (hr.mono (by decide)) rfl T.AS T.lO.kp (AR T.lO) .nil aI (aa (pv 0) (aa (pv 4) (aa (pv 1) ai))))))) (ay (aC (aF j5 (hr.mono (by decide)) rfl T.pH T.fC.kp (pA T.fC) .nil aI (aa (pv 0) (aa (pv 3) ai))))))))),?_⟩
  refine⟨_,rfl,_,rfl,Z,p,d,s,q,rfl,hh,_,rfl,rfl,_,rfl,?_⟩
  by_cases hc:isClosed s q=true
  ·have e:CM s q= -7:=D7 hc
   rw[e]
   refine tE (by intro z;have:=bG z;omega) ⟨_,rfl,lz rfl,fun l hl=>?_⟩
   exact bB po (e:=-7) (by simp only[does,hc,aa3]) hh (by decide) (ao.new hl) hl af
  ·have e:CM s q=0:=D6 hc
   rw[e]
   refine tF rfl ⟨_,rfl,_,_,_,_,_,rfl,hh.ins,T.bS,T.bK,cA d s,_,_,rfl,.inl (bD.of hh.il),?_⟩
   rw[DS,hh.iD]
   refine⟨_,rfl,_,rfl,Z,p,d,s,q,rfl,hh,hs,CS,fun H1 l1 s1 hl1 C6=>?_⟩
   have hbl:(billable s q).length≤16:=by
    unfold billable
    exact aaD (abL _ _) (by rw[iY];exact CS)
   have ok:∀i m,m∈(billable s q).take i→(0<m∧m≤s.members.length)∧hasEntry s m q=true:=fun i m hm=>⟨(eg (ab4 hm)).1,lI (eg (ab4 hm)).2.2⟩
   refine⟨l1,rfl,⟨_,bD.of C6⟩,tU (K:=K) (a:=l1) (xs:=cS (billable s q)) (fun i σ H'=>∃v d',σ=[some (.ref p),some (vn q),some (.int 0),some (vn s.invoices.length),v]∧aM H1 p d H' d'∧H' l1=some (.lst (cS (billable s q)))∧aj t.c H' Z p d' (((billable s q).take i).foldl (fun t m=>billed t m q) s)) ⟨none,d,rfl,aM.refl H1 p d,C6,hh.mono s1⟩ (fun i σ H' _ ⟨_,_,_,_,h,_⟩=>bD.of h) ?_ ?_⟩
   ·rintro i y σ H' hi ⟨v,d',rfl,kp,hl',h'⟩
    obtain⟨m,hm,rfl⟩:=get_map hi
    have mm:=aaB hm
    obtain⟨cF,_,lF⟩:=vp ((billable s q).take i) (p:=q) pr.g.core (ok i)
    have hF:=Ip ((billable s q).take i) (q:=q) pr.g.core (ok i)
    obtain⟨ZP,ZQ⟩:=C7 (q:=q) ((billable s q).take i) s
    rw[aaH]at ZQ
    have b1:=eg mm
    obtain⟨x,hx⟩:=aR.mpr (show 0<m∧m≤(((billable s q).take i).foldl (fun t m=>billed t m q) s).members.length by rw[lF];exact b1.1)
    refine⟨_,rfl,_,rfl,_,rfl,Z,p,d',_,m,q,x,rfl,h',cF.fP,cF.qX,by rw[hF];exact lI b1.2.2,cF.rate,by omega,hx,fun H2 d2 II h2=>?_⟩
    have nl:l1∉muts p d':=fun hb=>by
     rcases kp.grow l1 hb with z |z
     ·exact(hh.h_ hl1).1 z
     ·rw[C6]at z;cases z
    refine⟨_,d2,rfl,kp.trans II,II.keep _ _ hl' rfl nl,?_⟩
    rw[aa6 hm,List.foldl_append]
    exact h2
   ·rintro σ H' ⟨v,d',rfl,kp1,hl',h'⟩
    have kp:aM H p d H' d':=(aM.same s1).trans kp1
    rw[DS,aaM]at h'
    have ok':∀m∈billable s q,(0<m∧m≤s.members.length)∧hasEntry s m q=true:=fun m hm=>⟨(eg hm).1,lI (eg hm).2.2⟩
    obtain⟨cF,_,lF⟩:=vp (billable s q) (p:=q) pr.g.core ok'
    obtain⟨ZP,ZQ⟩:=C7 (q:=q) (billable s q) s
    refine⟨_,rfl,_,rfl,Z,p,d',(billable s q).foldl (fun t m=>billed t m q) s,s.invoices.length,rfl,h',⟨cF.qW,cF.fO⟩,ZP,by omega,fun hb H3 l s3 hl hl2=>?_,fun hb hy H3 l s3 hl hl2=>?_,fun hb hy H3 l s3 hl hl2=>?_⟩
    ·refine qQ po (e:=-4) ?_ hh (by decide) (kp.trans (aM.same s3)) (h'.mono s3).tb (kp.free hl) hl2
     have h4:INVOICES<((billable s q).foldl (fun t m=>billed t m q) s).invoices.length:=hb
     simp only[does,D6 hc,D7 h4]
    ·refine c_ po (t':=(billable s q).foldl (fun t m=>billed t m q) s) (a:=sd s.invoices.length ((billable s q).foldl (fun t m=>billed t m q) s)) ?_ hh (kp.trans (aM.same s3)) (h'.mono s3) (kp.free hl) hl2
     have h4:¬INVOICES<((billable s q).foldl (fun t m=>billed t m q) s).invoices.length:=by show ¬256<_;omega
     simp only[does,D6 hc,D6 h4]
     rw[wU]
     unfold booked
     rw[hy]
     rfl
    ·refine qQ po (e:=-8) ?_ hh (by decide) (kp.trans (aM.same s3)) (h'.mono s3).tb (kp.free hl) hl2
     have h4:¬INVOICES<((billable s q).foldl (fun t m=>billed t m q) s).invoices.length:=by show ¬256<_;omega
     simp only[does,D6 hc,D6 h4]
     unfold booked
     rw[hy]
     rfl
end
theorem C8{s:State}{m:Nat}(m0:0<m)(h:nZ s m=0):∃x,member? s m=some x:=by
 cases hm:member? s m with
 |some x=>exact⟨x,rfl⟩
 |none=>rw[Aq m0 hm]at h;cases h
theorem zy{s:State}{m:Nat}(m0:0<m)(h:nZ s m≠0):member? s m=none∧nZ s m= -5:=by
 cases hm:member? s m with
 |some x=>exact absurd (E2 hm) h
 |none=>exact⟨rfl,Aq m0 hm⟩
def gT(H:Hp)(R:Addr)(as:List Addr)(rs:List (List Int)):Prop:=
 H R=some (.lst (as.map V.ref))∧as.length=rs.length∧∀(i:Nat) a r,as[i]?=some a→rs[i]?=some r→H a=some (.lst (aO r))∧a≠R
theorem gT.nil{H:Hp}{R:Addr}(h:H R=some (.lst [])):gT H R [] []:=⟨h,rfl,fun i a r h=>by simp at h⟩
theorem gT.mono{H H':Hp}{R:Addr}{as:List Addr}{rs:List (List Int)}(h:gT H R as rs)(s:ao H H'):gT H' R as rs:=
 ⟨s _ _ h.1,h.2.1,fun i a r ha hr=>⟨s _ _ (h.2.2 i a r ha hr).1,(h.2.2 i a r ha hr).2⟩⟩
theorem gT.snoc{H:Hp}{R x:Addr}{as:List Addr}{rs:List (List Int)}{r:List Int}(h:gT H R as rs)(hx:H x=some (.lst (aO r)))(nx:x≠R):gT (upd H R (.lst (as.map V.ref++[V.ref x]))) R (as++[x]) (rs++[r]):=by
 refine⟨by rw[af,aaz];rfl,by rw[aat,aat,h.2.1];rfl,fun i a q ha hq=>?_⟩
 by_cases hi:i<as.length
 ·rw[aaA hi]at ha
  rw[aaA (by rw[←h.2.1];exact hi)]at hq
  obtain⟨e,n⟩:=h.2.2 i a q ha hq
  exact⟨by rw[aq n];exact e,n⟩
 ·rw[aaG (abj hi)]at ha
  rw[aaG (by rw[←h.2.1];exact abj hi),←h.2.1]at hq
  cases e:i-as.length with
  |zero=>
   rw[e]at ha hq
   cases ha
   cases hq
   exact⟨by rw[aq nx];exact hx,nx⟩
  |succ j=>rw[e]at ha;simp at ha
theorem K4{α β:Type}(f:Nat×α→Option β)(l:List α)(x:α):((List.range (l++[x]).length).zip (l++[x])).filterMap f=((List.range l.length).zip l).filterMap f++(f (l.length,x)).toList:=by
 rw[aat,List.length_singleton,List.range_succ,List.zip_append (by simp),List.filterMap_append]
 have e:List.filterMap f [(l.length,x)]=(f (l.length,x)).toList:=by
  rw[abR]
  cases f (l.length,x)<;>rfl
 exact congrArg (_++ ·) e
theorem PX{α β:Type}(f:α→Option β)(l:List α)(x:α):(l++[x]).filterMap f=l.filterMap f++(f x).toList:=by
 rw[List.filterMap_append]
 have e:List.filterMap f [x]=(f x).toList:=by
  rw[abR]
  cases f x<;>rfl
 exact congrArg (_++ ·) e
theorem Gx:∀{l:List (List Int)} {k:Nat},(∀r∈l,r.length≤k)→l.flatten.length≤k*l.length
 |[],k,_=>by simp
 |r::l,k,h=>by
  have h1:=Gx (l:=l) (k:=k) fun q hq=>h q (aap _ hq)
  have h2:=h r aau
  rw[abB,aat,aax,Nat.mul_succ]
  omega
section
variable{P:Program}{w:World}{K:W.Frag}{mg:Str→Option Value}{base:Heap}{t:TX}
def zA(t:TX):Sp:=fun vs H Q _=>∃Z p d s n m q,vs=[.ref p,vn m,vn q]∧Pre t.c H Z p d s n∧0<m∧Post t.c H Z p d (does s (.total m q)) Q
theorem Gy(T:Txt K mg t):bE P w K mg t.b fG 4 (t.f 43) (t.fd 43) ["house","number","period"] (zA t):=by
 have d_:=iy (P:=P) (w:=w) T
 have bA:=cO (P:=P) (w:=w) T
 refine T.uG.ok rM (fun vs H Q E h=>?_) (fun cdv A outer s0 H vs Q E hr h=>?_)
 ·obtain⟨Z,p,d,s,n,m,q,rfl,_⟩:=h
  rfl
 ·obtain⟨Z,p,d,s,n,m,q,rfl,pr,m0,po⟩:=h
  have hh:=pr.hh
  refine⟨_,(ah (aE (i:=3) rM.nd rfl (Or.inl rfl) (aF bA (hr.mono (by decide)) rfl T.dm T.bf.kp (di T.bf) .nil aI (aa (pv 0) (aa (pv 1) ai)))) (ah (bZ (aU j_ (pv 3) (au rfl T.aH ri) (bh _)) (ay (aC (aK (aa (pv 3) ai)))) bw) (ah (aE (i:=4) rM.nd rfl (Or.inl rfl) (jy (pv 0) T.bS T.ie d_ (hr.mono (by decide)) (i7 T.gh) .nil aI (aa (pv 1) (aa (pv 2) ai)))) (ay (aC (aK (aa (au rfl T.aH ri) (aa (ak (pv 4) rfl) (aa (ak (pv 4) rfl) (aa (ak (pv 4) rfl) (aa (ak (pv 4) rfl) ai))))))))))),?_⟩
  refine⟨_,rfl,_,rfl,Z,p,d,s,m,rfl,hh,_,rfl,rfl,_,rfl,?_⟩
  by_cases h0:nZ s m=0
  ·refine tF (by rw[h0]) ?_
   obtain⟨x,hx⟩:=C8 m0 h0
   refine⟨_,rfl,p,d.dx,_,rfl,hh.ins,fT r_,_,rfl,_,rfl,Z,p,d,s,m,q,rfl,hh,pr.g.core.fP,fun H1 b s1 pb=>?_⟩
   obtain⟨db,hb⟩:=pb
   refine⟨_,rfl,_,_,_,_,_,rfl,hb,T.xM,T.gQ,iV (entryOf s m q),_,rfl,_,_,_,_,_,rfl,hb,T.xM,T.yX,BB (entryOf s m q),_,rfl,_,_,_,_,_,rfl,hb,T.xM,T.qL,vC (entryOf s m q),_,rfl,_,_,_,_,_,rfl,hb,T.xM,T.gr,iW (entryOf s m q),lz rfl,fun l hl=>?_⟩
   exact c_ po (a:=[(entryOf s m q).total,(entryOf s m q).seen,(entryOf s m q).cents,(entryOf s m q).tax]) (t':=s) (by simp only[does,hx,Option.isNone_some,aaC,aa4]) hh (aM.same (s1.trans (ao.new hl))) (hh.mono (s1.trans (ao.new hl))) (ao.free s1 hl) af
  ·obtain⟨e1,e2⟩:=zy m0 h0
   refine tE (fun z=>h0 (bG z)) ⟨_,rfl,lz rfl,fun l hl=>?_⟩
   exact bB po (e:=nZ s m) (by rw[e2];simp only[does,e1,Option.isNone_none,aa3]) hh h0 (ao.new hl) hl af
def vd(t:TX):Sp:=fun vs H Q _=>∃Z p d s n m,vs=[.ref p,vn m]∧Pre t.c H Z p d s n∧0<m∧Post t.c H Z p d (does s (.invoice m)) Q
theorem C9(T:Txt K mg t):bE P w K mg t.b fG 1 (t.f 44) (t.fd 44) ["house","number"] (vd t):=by
 refine T.qg.ok nE (fun vs H Q E h=>?_) (fun cdv A outer s0 H vs Q E hr h=>?_)
 ·obtain⟨Z,p,d,s,n,m,rfl,_⟩:=h
  rfl
 ·obtain⟨Z,p,d,s,n,m,rfl,pr,m0,po⟩:=h
  have hh:=pr.hh
  refine⟨_,(ah (bZ (aU yr (pv 1) (aQ a_ rfl T.gk aaK (aa (ak (pv 0) rfl) ai)) (bh _)) (ay (aC (aK (aa (au rfl T.xN ri) ai)))) bw) (ah (aE (i:=2) nE.nd rfl (Or.inl rfl) (cz bL (ak (pv 0) rfl) (aW bP (pv 1) aG) (fun _ _=>rfl))) (ah (aE (i:=3) nE.nd rfl (Or.inl rfl) (aK (aa (au rfl T.aH ri) (aa (ak (pv 2) rfl) (aa (ak (pv 2) rfl) (aa (ak (pv 2) rfl) (aa (ak (pv 2) rfl) ai))))))) (ay (aC (aW l7 (pv 3) (aK (aa (ak (pv 2) rfl) (aa (ak (pv 2) rfl) ai))))))))),?_⟩
  refine⟨_,rfl,_,rfl,_,_,_,_,_,rfl,hh.ins,T.bS,T.bK,cA d s,_,_,rfl,.inl (bD.of hh.il),_,_,rfl,rfl,_,rfl,?_⟩
  rw[DS,hh.iD]
  by_cases h0:s.invoices.length<m
  ·refine uR (by omega) ⟨lz rfl,fun l hl=>?_⟩
   refine bB po (e:=-13) ?_ hh (by decide) (ao.new hl) hl af
   have e:(if m=0 then none else s.invoices[m-1]?)=none:=by rw[D6 (by omega),List.getElem?_eq_none_iff];omega
   simp only[does,e]
  ·have hi:m-1<s.invoices.length:=by omega
   obtain⟨a,dx,ha,hb,_⟩:=hh.UI (D3 hi)
   refine tD (by omega) ⟨_,rfl,_,_,_,_,_,rfl,hh.ins,T.bS,T.bK,cA d s,_,rfl,_,_,rfl,rfl,d.il,_,_,_,rfl,rfl,bD.of hh.il,K0 m0 ha,?_⟩
   generalize ey:s.invoices[m-1]=y at hb
   refine⟨_,rfl,_,_,_,_,_,rfl,hb,T.rV,T.bF,g_ y,_,rfl,_,_,_,_,_,rfl,hb,T.rV,T.Al,ER y,_,rfl,_,_,_,_,_,rfl,hb,T.rV,T.yY,Cf y,_,rfl,_,_,_,_,_,rfl,hb,T.rV,T.Ge,Jx y,lz rfl,fun l1 hl1=>?_⟩
   have s1:=ao.new (o:=.lst [.int 0,vn y.m,vn y.period,.int y.cents,.int y.tax]) hl1
   have C6:upd H l1 (.lst [.int 0,vn y.m,vn y.period,.int y.cents,.int y.tax]) l1=some (.lst [.int 0,vn y.m,vn y.period,.int y.cents,.int y.tax]):=af
   generalize upd H l1 (.lst [.int 0,vn y.m,vn y.period,.int y.cents,.int y.tax])=H1 at s1 C6⊢
   have hb1:=s1 _ _ hb
   refine⟨_,rfl,_,rfl,_,_,_,_,_,rfl,hb1,T.rV,T.nX,rE y,_,rfl,_,_,_,_,_,rfl,hb1,T.rV,T.mS,oW y,lz rfl,fun l2 hl2=>?_⟩
   have s2:=ao.new (o:=.lst [vn y.due,vn y.rest]) hl2
   have PY:upd H1 l2 (.lst [vn y.due,vn y.rest]) l2=some (.lst [vn y.due,vn y.rest]):=af
   generalize upd H1 l2 (.lst [vn y.due,vn y.rest])=H2 at s2 PY⊢
   refine⟨l1,l2,_,_,rfl,rfl,s2 _ _ C6,PY,lz rfl,fun l hl=>?_⟩
   have s3:=(s1.trans s2).trans (ao.new (o:=.lst ([.int 0,vn y.m,vn y.period,.int y.cents,.int y.tax]++[vn y.due,vn y.rest])) hl)
   refine c_ po (a:=shownInvoice y) (t':=s) ?_ hh (aM.same s3) (hh.mono s3) (ao.free (s1.trans s2) hl) af
   have e:(if m=0 then none else s.invoices[m-1]?)=some y:=by rw[D6 (by omega),D3 hi,ey]
   simp only[does,e]
def zB:Sp:=fun vs H Q _=>∃R as rs,vs=[.ref R]∧gT H R as rs∧rs.length≤300∧(∀r∈rs,r.length≤3)∧∀H' l,ao H H'→H l=none→H' l=some (.lst (aO (0::Vbemal.rows rs)))→Q (.ref l) H'
theorem j6(T:Txt K mg t):bE P w K mg t.b fG 1 (t.f 45) (t.fd 45) ["rows"] (zB):=by
 refine T.dH.ok jK (fun vs H Q E h=>?_) (fun cdv A outer s0 H vs Q E hr h=>?_)
 ·obtain⟨R,as,rs,rfl,_⟩:=h
  rfl
 ·obtain⟨R,as,rs,rfl,ra,Ij,h3,k⟩:=h
  refine⟨_,(ah (aE (i:=1) jK.nd rfl (Or.inl rfl) (aK (aa (au rfl T.aH ri) (aa (aQ a_ rfl T.gk aaK (aa (pv 0) ai)) ai)))) (ah (lY abd rfl (fS (pv 0)) (bC (i:=2) jK.nd rfl (Or.inl rfl)) (ay (eE (su aaT ab9 ab_ vt (pv 1) (aa (pv 2) ai))))) (ay (aC (pv 1))))),?_⟩
  refine⟨_,rfl,R,_,rfl,.inl (bD.of ra.1),lz rfl,fun L hL=>?_⟩
  rw[DS,ra.2.1]
  have s1:=ao.new (o:=.lst [.int 0,.int ((rs.length:Nat):Int)]) hL
  have ZR:upd H L (.lst [.int 0,.int ((rs.length:Nat):Int)]) L=some (.lst (aO (0::nat rs.length::(rs.take 0).flatten))):=af
  generalize upd H L (.lst [.int 0,.int ((rs.length:Nat):Int)])=H1 at s1 ZR⊢
  refine⟨_,rfl,R,rfl,⟨_,bD.of (s1 _ _ ra.1)⟩,tU (K:=K) (a:=R) (xs:=as.map V.ref) (fun i σ H'=>∃v,σ=[some (.ref R),some (.ref L),v]∧ao H H'∧H' L=some (.lst (aO (0::nat rs.length::(rs.take i).flatten)))) ⟨none,rfl,s1,ZR⟩ (fun i σ H' _ ⟨_,_,sm,_⟩=>bD.of (sm _ _ ra.1)) ?_ ?_⟩
  ·rintro i y σ H' hi ⟨v,rfl,sm,hL'⟩
   obtain⟨a,ha,rfl⟩:=get_map hi
   have X5:i<rs.length:=by rw[←ra.2.1];exact(aao.mp ha).1
   obtain⟨hb,_⟩:=ra.2.2 i a _ ha (D3 X5)
   refine⟨_,rfl,.inl ⟨rfl,_,bD.of hL'⟩,_,rfl,L,a,_,_,rfl,rfl,hL',sm _ _ hb,?_,?_⟩
   ·have f1:=Gx (l:=rs.take i) (k:=3) fun r hr=>h3 r (ab4 hr)
    have f2:=h3 _ (List.getElem_mem X5)
    rw[aaH]at f1
    rw[DS,DS,aax,aax]
    exact fH (by omega)
   ·refine⟨_,rfl,ao.put sm hL,?_⟩
    rw[af,aa6 (D3 X5),List.flatten_append]
    have e:(([rs[i]]:List (List Int)).flatten)=rs[i]:=by simp
    rw[e]
    exact congrArg (fun q=>some (HO.lst q)) (jV (0::nat rs.length::(rs.take i).flatten) _)
  ·rintro σ H' ⟨v,rfl,sm,hL'⟩
   rw[DS,ra.2.1,aaM]at hL'
   exact⟨_,rfl,k H' L sm hL hL'⟩
def Eg(m:Nat)(x:Nat×Invoice):Option (List Int):=if x.2.m=m∧0<x.2.rest then some [nat (x.1+1),nat x.2.due,nat x.2.rest]else none
theorem Ay{α β:Type}(f:Nat×α→Option β)(l:List α):(((List.range l.length).zip l).filterMap f).length≤l.length:=by
 refine aaD (ab' _ _) ?_
 rw[abO,aaN,Nat.min_self];exact D9 _
def sU(t:TX):Sp:=fun vs H Q _=>∃Z p d s n m,vs=[.ref p,vn m]∧Pre t.c H Z p d s n∧0<m∧Post t.c H Z p d (does s (.invoices m)) Q
theorem Bg(T:Txt K mg t):bE P w K mg t.b fG 2 (t.f 46) (t.fd 46) ["house","member_number"] (sU t):=by
 have fN:=j6 (P:=P) (w:=w) T
 have bA:=cO (P:=P) (w:=w) T
 refine T.nQ.ok gf (fun vs H Q E h=>?_) (fun cdv A outer s0 H vs Q E hr h=>?_)
 ·obtain⟨Z,p,d,s,n,m,rfl,_⟩:=h
  rfl
 ·obtain⟨Z,p,d,s,n,m,rfl,pr,m0,po⟩:=h
  have hh:=pr.hh
  have hI:=pr.g.sV
  refine⟨_,(ah (aE (i:=2) gf.nd rfl (Or.inl rfl) (aF bA (hr.mono (by decide)) rfl T.dm T.bf.kp (di T.bf) .nil aI (aa (pv 0) (aa (pv 1) ai)))) (ah (bZ (aU j_ (pv 2) (au rfl T.aH ri) (bh _)) (ay (aC (aK (aa (pv 2) ai)))) bw) (ah (aE (i:=3) gf.nd rfl (Or.inl rfl) (aK ai)) (ah (lY abd rfl (yK rfl T.pK (aa (ak (pv 0) rfl) ai) aG) (tT (n:=2) rfl (b9 (bC (i:=4) gf.nd rfl (Or.inl rfl)) (b9 (bC (i:=5) gf.nd rfl (Or.inl rfl)) jw))) (ay (bZ (PW.pt (BX (aU j9 (ak (pv 5) rfl) (pv 1) (bh _)) (yo (aU yr (ak (pv 5) rfl) aG (bh _))))) (ay (eE (su aaT abf abg jm (pv 3) (aa (aK (aa (pv 4) (aa (ak (pv 5) rfl) (aa (ak (pv 5) rfl) ai)))) ai)))) bw))) (ay (aC (aF fN (hr.mono (by decide)) rfl T.kR T.dH.kp (kL T.dH) .nil aI (aa (pv 3) ai)))))))),?_⟩
  refine⟨_,rfl,_,rfl,Z,p,d,s,m,rfl,hh,_,rfl,rfl,_,rfl,?_⟩
  by_cases h0:nZ s m=0
  ·refine tF (by rw[h0]) ?_
   obtain⟨x,hx⟩:=C8 m0 h0
   refine⟨lz rfl,fun R hR=>?_⟩
   have s1:=ao.new (o:=.lst []) hR
   have i9:=hh.mono s1
   have QG:upd H R (.lst []) R=some (.lst []):=af
   generalize upd H R (.lst [])=H1 at s1 i9 QG⊢
   refine⟨_,rfl,_,_,_,_,_,rfl,i9.ins,T.bS,T.bK,cA d s,d.il,_,1,rfl,rfl,by decide,by decide,bD.of i9.il,xR (J:=L3 K d.il 1) s.invoices.length (fun i σ H'=>∃v4 v5 as,σ=[some (.ref p),some (vn m),some (.int (nZ s m)),some (.ref R),v4,v5]∧ao H H'∧gT H' R as (((List.range (s.invoices.take i).length).zip (s.invoices.take i)).filterMap (Eg m)))
    ⟨none,none,[],rfl,s1,gT.nil QG⟩ ?_ ?_ ?_ ?_⟩
   ·rintro i σ H' hi ⟨v4,v5,as,rfl,sm,_⟩
    exact⟨_,(d.is.map V.ref)[i]'(by rw[DS,hh.iD];exact hi),bD.of (sm _ _ hh.il),D3 _⟩
   ·rintro σ H' ⟨v4,v5,as,rfl,sm,_⟩
    exact⟨_,bD.of (sm _ _ hh.il),by rw[DS,hh.iD];exact D9 _⟩
   ·rintro i σ H' z dw hi ⟨v4,v5,as,rfl,sm,ra⟩ ⟨Tt,y,rfl,hT,rfl,hy⟩
    obtain⟨a,ha,rfl⟩:=get_map (hy _ (bD.of (sm _ _ hh.il)))
    obtain⟨iv,dv,hiv,hb,_⟩:=hh.xP ha
    have ei:(1:Int)+(i:Nat)=nat (i+1):=by unfold nat;omega
    rw[ei]
    have sT:ao H' (upd H' Tt (.tup [.int (nat (i+1)),.ref a])):=ao.new hT
    have C_:upd H' Tt (.tup [.int (nat (i+1)),.ref a]) Tt=some (.tup [.int (nat (i+1)),.ref a]):=af
    have IJ:=ra.mono sT
    generalize upd H' Tt (.tup [.int (nat (i+1)),.ref a])=HT at sT C_ IJ⊢
    have Ar:=sT _ _ (sm _ _ hb)
    have hR':R≠a:=fun e=>by rw[e]at hR;rw[hR]at hb;cases hb
    refine⟨Tt,_,rfl,i6.of C_,rfl,_,_,rfl,_,_,rfl,rfl,?_⟩
    have lt:(s.invoices.take i).length=i:=by rw[aaH];omega
    have es:=K4 (Eg m) (s.invoices.take i) iv
    rw[←aa6 hiv,lt]at es
    refine⟨_,rfl,_,_,_,_,_,rfl,Ar,T.rV,T.bF,g_ iv,_,rfl,rfl,_,rfl,?_⟩
    have no:Eg m (i,iv)=none→∃v4 v5 as,([some (.ref p),some (vn m),some (.int (nZ s m)),some (.ref R),some (.int (nat (i+1))),some (.ref a)]:L2.St)=[some (.ref p),some (vn m),some (.int (nZ s m)),some (.ref R),v4,v5]∧ao H HT∧gT HT R as (((List.range (s.invoices.take (i+1)).length).zip (s.invoices.take (i+1))).filterMap (Eg m)):=fun e=>by
     rw[e]at es
     refine⟨_,_,as,rfl,sm.trans sT,?_⟩
     rw[es,Option.toList_none,abr]
     rw[lt]at IJ
     exact IJ
    by_cases h1:iv.m=m
    ·refine uR (by rw[h1]) ⟨_,rfl,_,_,_,_,_,rfl,Ar,T.rV,T.mS,oW iv,_,_,rfl,rfl,_,rfl,?_⟩
     by_cases h2:0<iv.rest
     ·refine uR (by omega) ⟨_,rfl,.inl ⟨rfl,_,bD.of IJ.1⟩,_,rfl,_,rfl,_,_,_,_,_,rfl,Ar,T.rV,T.nX,rE iv,_,rfl,_,_,_,_,_,rfl,Ar,T.rV,T.mS,oW iv,lz rfl,fun X hX=>?_⟩
      have sX:=ao.new (o:=.lst [.int (nat (i+1)),vn iv.due,vn iv.rest]) hX
      have QH:upd HT X (.lst [.int (nat (i+1)),vn iv.due,vn iv.rest]) X=some (.lst (aO [nat (i+1),nat iv.due,nat iv.rest])):=af
      have IK:=IJ.mono sX
      generalize upd HT X (.lst [.int (nat (i+1)),vn iv.due,vn iv.rest])=HX at sX QH IK⊢
      refine⟨R,_,_,rfl,rfl,IK.1,?_,?_⟩
      ·rw[DS,IK.2.1]
       have:=Ay (Eg m) (s.invoices.take i)
       exact bV (by omega)
      ·refine⟨_,_,as++[X],rfl,ao.put ((sm.trans sT).trans sX) hR,?_⟩
       have e:Eg m (i,iv)=some [nat (i+1),nat iv.due,nat iv.rest]:=D7 ⟨h1,h2⟩
       rw[es,e]
       rw[lt]at IK
       exact IK.snoc QH (aA IJ.1 hX).symm
     ·refine tD (by omega) ?_
      exact no (D6 fun z=>h2 z.2)
    ·refine tD (fun z=>h1 (by have:=bG z;omega)) ?_
     exact no (D6 fun z=>h1 z.1)
   ·rintro σ H' ⟨v4,v5,as,rfl,sm,ra⟩
    rw[aaM]at ra
    refine⟨_,rfl,R,as,_,rfl,ra,aaD (Ay _ _) (by omega),fun r hr=>?_,fun H3 l s3 hl hl'=>?_⟩
    ·obtain⟨y,_,e⟩:=abn.mp hr
     unfold Eg at e
     split at e
     ·cases e;exact D9 _
     ·cases e
    ·exact c_ po (a:=rows (((List.range s.invoices.length).zip s.invoices).filterMap (Eg m))) (t':=s) (by simp only[does,hx,Option.isNone_some,aaC,aa4];rfl) hh (aM.same (sm.trans s3)) (hh.mono (sm.trans s3)) (ao.free sm hl) hl'
  ·obtain⟨e1,e2⟩:=zy m0 h0
   refine tE (fun z=>h0 (bG z)) ⟨_,rfl,lz rfl,fun l hl=>?_⟩
   exact bB po (e:=nZ s m) (by rw[e2];simp only[does,e1,Option.isNone_none,aa3]) hh h0 (ao.new hl) hl af
end
theorem PZ(l:List Int):(l.map fun c=>1000*c).sum=1000*l.sum:=by
 induction l with
 |nil=>rfl
 |cons a l ih=>rw[aaJ,aaU,aaU,ih,Int.mul_add]
section
variable{P:Program}{w:World}{K:W.Frag}{mg:Str→Option Value}{base:Heap}{t:TX}
def ve(t:TX):Sp:=fun vs H Q _=>∃Z p d s n m,vs=[.ref p,vn m]∧Pre t.c H Z p d s n∧0<m∧Post t.c H Z p d (does s (.balance m)) Q
theorem Dc(T:Txt K mg t):bE P w K mg t.b fG 4 (t.f 47) (t.fd 47) ["house","number"] (ve t):=by
 have fL:=jW (P:=P) (w:=w) T
 have bA:=cO (P:=P) (w:=w) T
 have cZ:=fY (P:=P) (w:=w) T
 refine T.qh.ok jL (fun vs H Q E h=>?_) (fun cdv A outer s0 H vs Q E hr h=>?_)
 ·obtain⟨Z,p,d,s,n,m,rfl,_⟩:=h
  rfl
 ·obtain⟨Z,p,d,s,n,m,rfl,pr,m0,po⟩:=h
  have hh:=pr.hh
  refine⟨_,(ah (aE (i:=2) jL.nd rfl (Or.inl rfl) (aF bA (hr.mono (by decide)) rfl T.dm T.bf.kp (di T.bf) .nil aI (aa (pv 0) (aa (pv 1) ai)))) (ah (bZ (aU j_ (pv 2) (au rfl T.aH ri) (bh _)) (ay (aC (aK (aa (pv 2) ai)))) bw) (ah (aE (i:=3) jL.nd rfl (Or.inl rfl) (cz bL (ak (pv 0) rfl) (aW bP (pv 1) aG) (fun _ _=>rfl))) (ah (aE (i:=4) jL.nd rfl (Or.inl rfl) (aK (aa (au rfl T.aH ri) (aa (ak (pv 3) rfl) (aa (aF cZ (hr.mono (by decide)) rfl T.gC T.bU.kp (gB T.bU) .nil aI (aa (pv 0) (aa (pv 1) ai))) (aa (ak (pv 3) rfl) (aa (ak (pv 3) rfl) ai))))))) (ay (aC (aW l7 (pv 4) (aK (aa (ak (pv 3) rfl) (aa (iT (ja (ak (pv 3) rfl)) aG aG) (aa (aF fL (hr.mono (by decide)) rfl T.kQ T.dG.kp (kK T.dG) .nil aI (aa (pv 0) (aa (pv 1) ai))) ai))))))))))),?_⟩
  refine⟨_,rfl,_,rfl,Z,p,d,s,m,rfl,hh,_,rfl,rfl,_,rfl,?_⟩
  by_cases h0:nZ s m=0
  ·refine tF (by rw[h0]) ?_
   obtain⟨x,hx⟩:=C8 m0 h0
   have ml:=(aR.mp ⟨x,hx⟩).2
   obtain⟨_,a,da,ha,_,hb⟩:=hh.one hx
   refine⟨_,rfl,_,_,_,_,_,rfl,hh.ins,T.bS,T.aX,bq d s,_,rfl,_,_,rfl,rfl,d.ml,_,_,_,rfl,rfl,bD.of hh.ml,K0 m0 ha,?_⟩
   refine⟨_,rfl,_,_,_,_,_,rfl,hb,T.kT,T.fR,jo x,_,rfl,_,rfl,Z,p,d,s,m,rfl,hh,pr.wf,m0,ml,fun H1 s1=>?_⟩
   have hb1:=s1 _ _ hb
   refine⟨_,rfl,_,_,_,_,_,rfl,hb1,T.kT,T.ig,lg x,_,rfl,_,_,_,_,_,rfl,hb1,T.kT,T.bX,dM x,lz rfl,fun l1 hl1=>?_⟩
   have s2:=s1.trans (ao.new (o:=.lst [.int 0,.int x.unbilled,vn (restOf s m),vn x.pool,vn x.collateral]) hl1)
   have C6:upd H1 l1 (.lst [.int 0,.int x.unbilled,vn (restOf s m),vn x.pool,vn x.collateral]) l1=some (.lst [.int 0,.int x.unbilled,vn (restOf s m),vn x.pool,vn x.collateral]):=af
   generalize upd H1 l1 (.lst [.int 0,.int x.unbilled,vn (restOf s m),vn x.pool,vn x.collateral])=H2 at s2 C6⊢
   have hb2:=s2 _ _ hb
   refine⟨_,rfl,_,rfl,_,_,_,_,_,rfl,hb2,T.kT,T.cJ,dN x,_,rfl,_,_,_,_,_,rfl,hb2,T.kT,T.iu,mU x,_,rfl,?_⟩
   have go:∀g:Int,g=flag x.failed→jx (Ky (pL t) [] E0 (jx (j7 0) (jx (j7 1) vM))) vM [some (.ref p),some (vn m),some (.int (nZ s m)),some (.ref a),some (.ref l1)] H2 (fun vs H3=>(V.int x.fund::V.int g::vs).length≤sizeLine∧∀l,H3 l=none→Uv (V.ref l1) (.ref l) (upd H3 l (.lst (V.int x.fund::V.int g::vs))) Q):=by
    rintro g rfl
    refine⟨_,rfl,_,rfl,Z,p,d,s,m,rfl,hh.mono s2,pr.wf,m0,ml,fun H3 s3=>⟨lz rfl,fun l2 hl2=>?_⟩⟩
    have s4:=s2.trans s3
    refine⟨l1,l2,_,_,rfl,rfl,(s3.trans (ao.new hl2)) _ _ C6,af,lz rfl,fun l hl=>?_⟩
    have s5:=s4.trans ((ao.new (o:=.lst [.int x.fund,.int (flag x.failed),.int (need s m)]) hl2))
    have s6:=s5.trans (ao.new (o:=.lst ([.int 0,.int x.unbilled,vn (restOf s m),vn x.pool,vn x.collateral]++[.int x.fund,.int (flag x.failed),.int (need s m)])) hl)
    exact c_ po (a:=[x.unbilled,nat (restOf s m),nat x.pool,nat x.collateral,nat x.fund,flag x.failed,need s m]) (t':=s) (by simp only[does,hx]) hh (aM.same s6) (hh.mono s6) (ao.free s5 hl) af
   refine NW (fun e=>?_) (fun e=>?_)
   ·exact go 1 (by rw[e];rfl)
   ·exact go 0 (by rw[e];rfl)
  ·obtain⟨e1,e2⟩:=zy m0 h0
   refine tE (fun z=>h0 (bG z)) ⟨_,rfl,lz rfl,fun l hl=>?_⟩
   exact bB po (e:=nZ s m) (by rw[e2];simp only[does,e1]) hh h0 (ao.new hl) hl af
def Eh(s:State)(m:Nat):Option (List Int):=if lack s m=0∨isFailed s m=true then none else some [nat m,lack s m]
def zC(t:TX):Sp:=fun vs H Q _=>∃Z p d s n,vs=[.ref p]∧Pre t.c H Z p d s n∧Post t.c H Z p d (does s .short) Q
theorem Gz(T:Txt K mg t):bE P w K mg t.b fG 5 (t.f 48) (t.fd 48) ["house"] (zC t):=by
 have fN:=j6 (P:=P) (w:=w) T
 have Az:=zd (P:=P) (w:=w) T
 refine T.uH.ok jM (fun vs H Q E h=>?_) (fun cdv A outer s0 H vs Q E hr h=>?_)
 ·obtain⟨Z,p,d,s,n,rfl,_⟩:=h
  rfl
 ·obtain⟨Z,p,d,s,n,rfl,pr,po⟩:=h
  have hh:=pr.hh
  have CS:=pr.wf.fO
  refine⟨_,(ah (aE (i:=1) jM.nd rfl (Or.inl rfl) (aK ai)) (ah (lY abd rfl (yK rfl T.pK (aa (ak (pv 0) rfl) ai) aG) (tT (n:=2) rfl (b9 (bC (i:=2) jM.nd rfl (Or.inl rfl)) (b9 (bC (i:=3) jM.nd rfl (Or.inl rfl)) jw))) (ah (aE (i:=4) jM.nd rfl (Or.inl rfl) (aF Az (hr.mono (by decide)) rfl T.Aj T.kM.kp (Ac T.kM) .nil aI (aa (pv 0) (aa (pv 2) ai)))) (ay (bZ (PW.pt (BX (BY (ja (ak (pv 3) rfl))) (yo (aU yr (pv 4) aG (bh _))))) (ay (eE (su aaT abf abg jm (pv 1) (aa (aK (aa (pv 2) (aa (pv 4) ai))) ai)))) bw)))) (ay (aC (aF fN (hr.mono (by decide)) rfl T.kR T.dH.kp (kL T.dH) .nil aI (aa (pv 1) ai)))))),?_⟩
  refine⟨lz rfl,fun R hR=>?_⟩
  have s1:=ao.new (o:=.lst []) hR
  have i9:=hh.mono s1
  have QG:upd H R (.lst []) R=some (.lst []):=af
  generalize upd H R (.lst [])=H1 at s1 i9 QG⊢
  refine⟨_,rfl,_,_,_,_,_,rfl,i9.ins,T.bS,T.aX,bq d s,d.ml,_,1,rfl,rfl,by decide,by decide,bD.of i9.ml,xR (J:=L3 K d.ml 1) s.members.length (fun i σ H'=>∃v2 v3 v4 as,σ=[some (.ref p),some (.ref R),v2,v3,v4]∧ao H H'∧gT H' R as (((membersOf s).take i).filterMap (Eh s)))
   ⟨none,none,none,[],rfl,s1,gT.nil QG⟩ ?_ ?_ ?_ ?_⟩
  ·rintro i σ H' hi ⟨v2,v3,v4,as,rfl,sm,_⟩
   exact⟨_,(d.ms.map V.ref)[i]'(by rw[DS,hh.iC];exact hi),bD.of (sm _ _ hh.ml),D3 _⟩
  ·rintro σ H' ⟨v2,v3,v4,as,rfl,sm,_⟩
   exact⟨_,bD.of (sm _ _ hh.ml),by rw[DS,hh.iC];exact D9 _⟩
  ·rintro i σ H' z dw hi ⟨v2,v3,v4,as,rfl,sm,ra⟩ ⟨Tt,y,rfl,hT,rfl,hy⟩
   obtain⟨a,ha,rfl⟩:=get_map (hy _ (bD.of (sm _ _ hh.ml)))
   obtain⟨x,dv,hx,hb⟩:=hh.JW ha
   have ZS:member? s (i+1)=some x:=hx
   have ei:(1:Int)+(i:Nat)=nat (i+1):=by unfold nat;omega
   rw[ei]
   have sT:ao H' (upd H' Tt (.tup [.int (nat (i+1)),.ref a])):=ao.new hT
   have C_:upd H' Tt (.tup [.int (nat (i+1)),.ref a]) Tt=some (.tup [.int (nat (i+1)),.ref a]):=af
   have IJ:=ra.mono sT
   generalize upd H' Tt (.tup [.int (nat (i+1)),.ref a])=HT at sT C_ IJ⊢
   refine⟨Tt,_,rfl,i6.of C_,rfl,_,_,rfl,_,_,rfl,rfl,?_⟩
   refine⟨_,rfl,_,rfl,Z,p,d,s,i+1,rfl,hh.mono (sm.trans sT),pr.wf,acp i,hi,fun H3 s3=>?_⟩
   have GJ:=(sm.trans sT).trans s3
   have XY:=GJ _ _ hb
   have Wk:=IJ.mono s3
   have es:=PX (Eh s) ((membersOf s).take i) (i+1)
   rw[←aa6 (wG hi)]at es
   have no:Eh s (i+1)=none→∃v2 v3 v4 as,([some (.ref p),some (.ref R),some (.int (nat (i+1))),some (.ref a),some (.int (lack s (i+1)))]:L2.St)=[some (.ref p),some (.ref R),v2,v3,v4]∧ao H H3∧gT H3 R as (((membersOf s).take (i+1)).filterMap (Eh s)):=fun e=>by
    rw[e]at es
    refine⟨_,_,_,as,rfl,GJ,?_⟩
    rw[es,Option.toList_none,abr]
    exact Wk
   have Zx:0≤lack s (i+1):=by unfold lack;omega
   refine⟨_,rfl,_,_,_,_,_,rfl,XY,T.kT,T.iu,mU x,_,rfl,?_⟩
   cases hf:x.failed with
   |true=>exact no (D7 (.inr (by rw[u_ ZS];exact hf)))
   |false=>
    refine⟨_,rfl,_,_,rfl,rfl,_,rfl,?_⟩
    by_cases h2:0<lack s (i+1)
    ·refine uR h2 ⟨_,rfl,.inl ⟨rfl,_,bD.of Wk.1⟩,_,rfl,_,rfl,lz rfl,fun X hX=>?_⟩
     have sX:=ao.new (o:=.lst [.int (nat (i+1)),.int (lack s (i+1))]) hX
     have QH:upd H3 X (.lst [.int (nat (i+1)),.int (lack s (i+1))]) X=some (.lst (aO [nat (i+1),lack s (i+1)])):=af
     have IK:=Wk.mono sX
     generalize upd H3 X (.lst [.int (nat (i+1)),.int (lack s (i+1))])=HX at sX QH IK⊢
     refine⟨R,_,_,rfl,rfl,IK.1,?_,?_⟩
     ·rw[DS,IK.2.1]
      have:=ab' (Eh s) ((membersOf s).take i)
      rw[aaH]at this
      exact bV (by omega)
     ·refine⟨_,_,_,as++[X],rfl,ao.put (GJ.trans sX) hR,?_⟩
      have e:Eh s (i+1)=some [nat (i+1),lack s (i+1)]:=D6 (by
       rintro(z |z)
       ·omega
       ·rw[u_ ZS,hf]at z;cases z)
      rw[es,e]
      exact IK.snoc QH (aA Wk.1 hX).symm
    ·exact tD h2 (no (D7 (.inl (by omega))))
  ·rintro σ H' ⟨v2,v3,v4,as,rfl,sm,ra⟩
   rw[←iY,aaM]at ra
   refine⟨_,rfl,R,as,_,rfl,ra,aaD (ab' _ _) (by rw[iY];omega),fun r hr=>?_,fun H3 l s3 hl hl'=>?_⟩
   ·obtain⟨y,_,e⟩:=abn.mp hr
    unfold Eh at e
    split at e
    ·cases e
    ·cases e;exact aaX 2
   ·exact c_ po (a:=rows ((membersOf s).filterMap (Eh s))) (t':=s) rfl hh (aM.same (sm.trans s3)) (hh.mono (sm.trans s3)) (ao.free sm hl) hl'
def GA(s:State)(x:Nat×Invoice):Option (List Int):=if isOverdue s x.2=true then some [nat (x.1+1),nat x.2.m,nat x.2.rest]else none
def vf(t:TX):Sp:=fun vs H Q _=>∃Z p d s n,vs=[.ref p]∧Pre t.c H Z p d s n∧Post t.c H Z p d (does s .overdue) Q
theorem Dd(T:Txt K mg t):bE P w K mg t.b fG 2 (t.f 49) (t.fd 49) ["house"] (vf t):=by
 have gU:=kh (P:=P) (w:=w) T
 have fN:=j6 (P:=P) (w:=w) T
 refine T.qi.ok jN (fun vs H Q E h=>?_) (fun cdv A outer s0 H vs Q E hr h=>?_)
 ·obtain⟨Z,p,d,s,n,rfl,_⟩:=h
  rfl
 ·obtain⟨Z,p,d,s,n,rfl,pr,po⟩:=h
  have hh:=pr.hh
  have hI:=pr.g.sV
  refine⟨_,(ah (aE (i:=1) jN.nd rfl (Or.inl rfl) (aK ai)) (ah (lY abd rfl (yK rfl T.pK (aa (ak (pv 0) rfl) ai) aG) (tT (n:=2) rfl (b9 (bC (i:=2) jN.nd rfl (Or.inl rfl)) (b9 (bC (i:=3) jN.nd rfl (Or.inl rfl)) jw))) (ay (bZ (ja (jy (pv 3) T.rV T.kg gU (hr.mono (by decide)) (lN T.gP) .nil aI (aa (ak (pv 0) rfl) ai))) (ay (eE (su aaT abf abg jm (pv 1) (aa (aK (aa (pv 2) (aa (ak (pv 3) rfl) (aa (ak (pv 3) rfl) ai)))) ai)))) bw))) (ay (aC (aF fN (hr.mono (by decide)) rfl T.kR T.dH.kp (kL T.dH) .nil aI (aa (pv 1) ai)))))),?_⟩
  refine⟨lz rfl,fun R hR=>?_⟩
  have s1:=ao.new (o:=.lst []) hR
  have i9:=hh.mono s1
  have QG:upd H R (.lst []) R=some (.lst []):=af
  generalize upd H R (.lst [])=H1 at s1 i9 QG⊢
  refine⟨_,rfl,_,_,_,_,_,rfl,i9.ins,T.bS,T.bK,cA d s,d.il,_,1,rfl,rfl,by decide,by decide,bD.of i9.il,xR (J:=L3 K d.il 1) s.invoices.length (fun i σ H'=>∃v2 v3 as,σ=[some (.ref p),some (.ref R),v2,v3]∧ao H H'∧gT H' R as (((List.range (s.invoices.take i).length).zip (s.invoices.take i)).filterMap (GA s)))
   ⟨none,none,[],rfl,s1,gT.nil QG⟩ ?_ ?_ ?_ ?_⟩
  ·rintro i σ H' hi ⟨v4,v5,as,rfl,sm,_⟩
   exact⟨_,(d.is.map V.ref)[i]'(by rw[DS,hh.iD];exact hi),bD.of (sm _ _ hh.il),D3 _⟩
  ·rintro σ H' ⟨v4,v5,as,rfl,sm,_⟩
   exact⟨_,bD.of (sm _ _ hh.il),by rw[DS,hh.iD];exact D9 _⟩
  ·rintro i σ H' z dw hi ⟨v4,v5,as,rfl,sm,ra⟩ ⟨Tt,y,rfl,hT,rfl,hy⟩
   obtain⟨a,ha,rfl⟩:=get_map (hy _ (bD.of (sm _ _ hh.il)))
   obtain⟨iv,dv,hiv,hb,_⟩:=hh.xP ha
   have ei:(1:Int)+(i:Nat)=nat (i+1):=by unfold nat;omega
   rw[ei]
   have sT:ao H' (upd H' Tt (.tup [.int (nat (i+1)),.ref a])):=ao.new hT
   have C_:upd H' Tt (.tup [.int (nat (i+1)),.ref a]) Tt=some (.tup [.int (nat (i+1)),.ref a]):=af
   have IJ:=ra.mono sT
   generalize upd H' Tt (.tup [.int (nat (i+1)),.ref a])=HT at sT C_ IJ⊢
   have hhT:=hh.mono (sm.trans sT)
   have Ar:=sT _ _ (sm _ _ hb)
   refine⟨Tt,_,rfl,i6.of C_,rfl,_,_,rfl,_,_,rfl,rfl,?_⟩
   have lt:(s.invoices.take i).length=i:=by rw[aaH];omega
   have es:=K4 (GA s) (s.invoices.take i) iv
   rw[←aa6 hiv,lt]at es
   refine⟨_,rfl,a,dv,_,rfl,Ar,fT CY,_,rfl,_,_,_,_,_,rfl,hhT.ins,T.bS,T.lR,ue d s,a,iv,s.today,rfl,⟨dv,Ar⟩,_,rfl,?_⟩
   refine NW (fun h2=>?_) (fun h2=>?_)
   ·refine⟨_,rfl,.inl ⟨rfl,_,bD.of IJ.1⟩,_,rfl,_,rfl,_,_,_,_,_,rfl,Ar,T.rV,T.bF,g_ iv,_,rfl,_,_,_,_,_,rfl,Ar,T.rV,T.mS,oW iv,lz rfl,fun X hX=>?_⟩
    have sX:=ao.new (o:=.lst [.int (nat (i+1)),vn iv.m,vn iv.rest]) hX
    have QH:upd HT X (.lst [.int (nat (i+1)),vn iv.m,vn iv.rest]) X=some (.lst (aO [nat (i+1),nat iv.m,nat iv.rest])):=af
    have IK:=IJ.mono sX
    generalize upd HT X (.lst [.int (nat (i+1)),vn iv.m,vn iv.rest])=HX at sX QH IK⊢
    refine⟨R,_,_,rfl,rfl,IK.1,?_,?_⟩
    ·rw[DS,IK.2.1]
     have:=Ay (GA s) (s.invoices.take i)
     exact bV (by omega)
    ·refine⟨_,_,as++[X],rfl,ao.put ((sm.trans sT).trans sX) hR,?_⟩
     have e:GA s (i,iv)=some [nat (i+1),nat iv.m,nat iv.rest]:=D7 h2
     rw[es,e]
     rw[lt]at IK
     exact IK.snoc QH (aA IJ.1 hX).symm
   ·have e:GA s (i,iv)=none:=D6 (by show ¬(decide (iv.due<s.today)&&decide (0<iv.rest))=true;rw[h2];exact aay)
    rw[e]at es
    refine⟨_,_,as,rfl,sm.trans sT,?_⟩
    rw[es,Option.toList_none,abr]
    rw[lt]at IJ
    exact IJ
  ·rintro σ H' ⟨v4,v5,as,rfl,sm,ra⟩
   rw[aaM]at ra
   refine⟨_,rfl,R,as,_,rfl,ra,aaD (Ay _ _) (by omega),fun r hr=>?_,fun H3 l s3 hl hl'=>?_⟩
   ·obtain⟨y,_,e⟩:=abn.mp hr
    unfold GA at e
    split at e
    ·cases e;exact D9 _
    ·cases e
   ·exact c_ po (a:=rows (((List.range s.invoices.length).zip s.invoices).filterMap (GA s))) (t':=s) rfl hh (aM.same (sm.trans s3)) (hh.mono (sm.trans s3)) (ao.free sm hl) hl'
end
theorem N6{α:Type}(f g h:α→List Int):∀l:List α,(∀k∈l,(f k).sum+1000*(g k).sum=(h k).sum)→(l.flatMap f).sum+1000*(l.flatMap g).sum=(l.flatMap h).sum
 |[],_=>rfl
 |a::l,q=>by
  have h1:=q a aau
  have h2:=N6 f g h l fun k hk=>q k (aap _ hk)
  simp only[List.flatMap_cons,acf]
  omega
theorem P0(s:State):(m8 s).sum=(accounts s).sum:=by
 unfold m8
 rw[acf,PZ]
 unfold gH fK accounts membersOf
 rw[List.flatMap_map]
 simp only[acf]
 have:=N6 (fun k=>match s.members[k]? with |none=>[] |some x=>[x.unbilled]) (fun k=>match s.members[k]? with |none=>[] |some x=>[((oJ s.invoices (k+1):Nat):Int)-(x.pool:Int),-(x.collateral:Int),-(x.fund:Int)])
  (fun k=>match member? s (k+1)with |none=>[] |some x=>[x.unbilled,CENT*((restOf s (k+1):Int)-(x.pool:Int)),-(CENT*(x.collateral:Int)),-(CENT*(x.fund:Int))]) (List.range s.members.length) (fun k _=>by
   have e:member? s (k+1)=s.members[k]?:=rfl
   rw[e]
   cases s.members[k]? with
   |none=>rfl
   |some x=>
    simp only[aaU,List.sum_nil,dU,CENT]
    omega)
 simp only[aaU,List.sum_nil]
 exact(show ∀A B C m r tx ca ho lo:Int,A+1000*B=C→m+(r+0)+A+1000*(tx+(ca+(-ho+(lo+0)))+B)=C+(m+(r+(CENT*tx+(CENT*ca+(-(CENT*ho)+(CENT*lo+0)))))) by intros;unfold CENT;omega) _ _ _ _ _ _ _ _ _ this
theorem N7{l k:List Int}(h:l.Perm k):l.sum=k.sum:=by
 induction h with
 |nil=>rfl
 |cons x _ ih=>rw[aaU,aaU,ih]
 |swap x y l=>simp only[aaU];omega
 |trans _ _ h1 h2=>exact h1.trans h2
theorem E9{H H':Hp}{d:Addr}{u f:HO}(h:H d=some u)(s:ao (upd H d f) H'):ao H (upd H' d u):=fun b o e=>by
 by_cases q:b=d
 ·subst q
  rw[h]at e
  cases e
  exact af
 ·rw[aq q]
  exact s _ _ (by rw[aq q];exact e)
theorem wH:("as_numbers":Str)∉NB:=by decide+kernel
section
variable{P:Program}{w:World}{K:W.Frag}{mg:Str→Option Value}{base:Heap}{t:TX}
def wI(t:TX):Sp:=fun vs H Q _=>∃Z p d s n,vs=[.ref p]∧Pre t.c H Z p d s n∧Post t.c H Z p d (does s .ledger) Q
theorem Ei(T:Txt K mg t):bE P w K mg t.b fG 3 (t.f 50) (t.fd 50) ["house"] (wI t):=by
 have jZ:=oh (P:=P) (w:=w) T
 refine T.rQ.ok wj (fun vs H Q E h=>?_) (fun cdv A outer s0 H vs Q E hr h=>?_)
 ·obtain⟨Z,p,d,s,n,rfl,_⟩:=h
  rfl
 ·obtain⟨Z,p,d,s,n,rfl,pr,po⟩:=h
  have hh:=pr.hh
  refine⟨_,(ah (aE (i:=1) wj.nd rfl (Or.inl rfl) (aK (aa (ak (pv 0) rfl) (aa (ak (pv 0) rfl) (aa (ak (pv 0) rfl) (aa (ak (pv 0) rfl) (aa (ak (pv 0) rfl) (aa (ak (pv 0) rfl) ai)))))))) (ay (aC (aW l7 (aW l7 (aK (aa (au rfl T.aH ri) ai)) (pv 1)) (aK (aa (aQ (wZ rfl) rfl T.CL xq (aa (aF jZ (hr.mono (by decide)) rfl T.pF T.fy.kp (o_ T.fy) .nil aI (aa (pv 0) ai)) ai)) ai)))))),?_⟩
  refine⟨_,rfl,_,_,_,_,_,rfl,hh.ins,T.bS,T.mV,vA d s,_,rfl,_,_,_,_,_,rfl,hh.ins,T.bS,T.jt,oV d s,_,rfl,_,_,_,_,_,rfl,hh.ins,T.bS,T.qM,yH d s,_,rfl,_,_,_,_,_,rfl,hh.ins,T.bS,T.gE,jB d s,_,rfl,_,_,_,_,_,rfl,hh.ins,T.bS,T.dP,gq d s,_,rfl,_,_,_,_,_,rfl,hh.ins,T.bS,T.rX,yI d s,lz rfl,fun l1 hl1=>?_⟩
  have s1:=ao.new (o:=.lst [.int s.market,.int s.rounding,.int s.taxes,.int s.cash,vn s.house,vn s.loss]) hl1
  have e1:upd H l1 (.lst [.int s.market,.int s.rounding,.int s.taxes,.int s.cash,vn s.house,vn s.loss]) l1=some (.lst [.int s.market,.int s.rounding,.int s.taxes,.int s.cash,vn s.house,vn s.loss]):=af
  generalize upd H l1 (.lst [.int s.market,.int s.rounding,.int s.taxes,.int s.cash,vn s.house,vn s.loss])=H1 at s1 e1⊢
  refine⟨lz rfl,fun l2 hl2=>?_⟩
  have s2:=ao.new (o:=.lst [.int 0]) hl2
  have e2:upd H1 l2 (.lst [.int 0]) l2=some (.lst [.int 0]):=af
  generalize upd H1 l2 (.lst [.int 0])=H2 at s2 e2⊢
  refine⟨_,rfl,l2,l1,_,_,rfl,rfl,e2,s2 _ _ e1,lz rfl,fun l3 hl3=>?_⟩
  have s3:=ao.new (o:=.lst ([.int 0]++[.int s.market,.int s.rounding,.int s.taxes,.int s.cash,vn s.house,vn s.loss])) hl3
  have e3:upd H2 l3 (.lst ([.int 0]++[.int s.market,.int s.rounding,.int s.taxes,.int s.cash,vn s.house,vn s.loss])) l3=some (.lst ([.int 0]++[.int s.market,.int s.rounding,.int s.taxes,.int s.cash,vn s.house,vn s.loss])):=af
  generalize upd H2 l3 (.lst ([.int 0]++[.int s.market,.int s.rounding,.int s.taxes,.int s.cash,vn s.house,vn s.loss]))=H3 at s3 e3⊢
  have NY:=(s1.trans s2).trans s3
  refine⟨_,rfl,Z,p,d,s,rfl,hh.mono NY,pr.wf,fun H4 l4 s4 Vl X6=>?_⟩
  refine⟨l4,m8 s,rfl,bD.of X6,lz rfl,fun l5 Tz=>?_⟩
  rw[P0]
  have s5:=ao.new (o:=.lst [.int (accounts s).sum]) Tz
  refine⟨l3,l5,_,_,rfl,rfl,(s4.trans s5) _ _ e3,af,lz rfl,fun l hl=>?_⟩
  have s6:=((NY.trans s4).trans s5).trans (ao.new (o:=.lst (([.int 0]++[.int s.market,.int s.rounding,.int s.taxes,.int s.cash,vn s.house,vn s.loss])++[.int (accounts s).sum])) hl)
  exact c_ po (a:=[s.market,s.rounding,s.taxes,s.cash,nat s.house,nat s.loss,(accounts s).sum]) (t':=s) rfl hh (aM.same s6) (hh.mono s6) (ao.free ((NY.trans s4).trans s5) hl) af
def GB(q:Nat)(l:List (Addr×En)):List Int:=(l.filter fun x=>x.2.period==q).map fun x=>x.2.tax
theorem Mq(q:Nat)(l:List (Addr×En))(x:Addr×En):GB q (l++[x])=GB q l++(if x.2.period=q then[x.2.tax]else[]):=by
 unfold GB
 rw[ace,aaz]
 by_cases h:x.2.period=q
 ·rw[D7 h,abi,D7 (by simpa using h)];rfl
 ·rw[D6 h,abi,D6 (by simpa using h)];rfl
theorem N8{s:State}{q:Nat}{es:List (Addr×En)}(h:(es.map (·.2)).Perm s.entries):(GB q es).sum=taxIn s q:=by
 unfold GB taxIn
 refine N7 ?_
 have:=(h.filter fun e=>e.period==q).map fun e=>e.tax
 rw[List.filter_map,abe]at this
 exact this
def zD(t:TX):Sp:=fun vs H Q _=>∃Z p d s n q,vs=[.ref p,vn q]∧Pre t.c H Z p d s n∧Post t.c H Z p d (does s (.taxes q)) Q
theorem GC(T:Txt K mg t):bE P w K mg t.b fG 1 (t.f 51) (t.fd 51) ["house","period"] (zD t):=by
 refine T.uI.ok mQ (fun vs H Q E h=>?_) (fun cdv A outer s0 H vs Q E hr h=>?_)
 ·obtain⟨Z,p,d,s,n,q,rfl,_⟩:=h
  rfl
 ·obtain⟨Z,p,d,s,n,q,rfl,pr,po⟩:=h
  have hh:=pr.hh
  have hN:=pr.g.core.qX
  refine⟨_,(ay (aC (aK (aa (au rfl T.aH ri) (aa (aQ (wZ rfl) rfl T.CL xq (aa (O2 (v_ rfl mQ.nd (ET (ak (pv 0) rfl)) (eO (own:=[("key",2),("pair",3)]) (by show t9 ["house","period","key","pair"] (az oX) _ _=true;decide+kernel)) (fun _ _ _ _ _=>(BC (n:=2) rfl (b9 (bC (i:=2) mQ.nd rfl (Or.inl rfl)) (b9 (bC (i:=3) mQ.nd rfl (Or.inl rfl)) jw)))) (fun _ _ _ _ _=>(Bv (aU j9 (cz BD (pv 2) aG (fun _ _=>rfl)) (pv 1) (bh _)))) (fun _ _ _ _ _=>(vD (pv 3) rfl)))) ai)) ai))))),?_⟩
  refine⟨d.pd,_,hh.pd,trivial,fun od=>?_⟩
  have Tv:p≠d.pd:=(O_ hh.nd).1.2.1
  have hp0:upd H d.pd (.lX od (.dT (aV d.es))) p=some (.ins t.c.cH d.dx (NH.zip (aB d s))):=by rw[aq Tv];exact hh.ins
  have hd0:upd H d.pd (.lX od (.dT (aV d.es))) d.pd=some (.lX od (.dT (aV d.es))):=af
  have ps:∀x∈d.es,kr t.c (upd H d.pd (.lX od (.dT (aV d.es)))) x.1 x.2:=fun x hx=>by
   obtain⟨⟨dx,e⟩,im⟩:=hh.im.pr x hx
   exact⟨dx,by rw[aq (fun z=>im.1 (by rw[z];exact aj.xj))];exact e⟩
  have lk:∀H',ao (upd H d.pd (.lX od (.dT (aV d.es)))) H'→ao H (upd H' d.pd (.dT (aV d.es))):=fun H'=>E9 hh.pd
  generalize upd H d.pd (.lX od (.dT (aV d.es)))=H0 at hp0 hd0 ps lk⊢
  have kl:(aV d.es).length=d.es.length:=by unfold aV;rw[DS]
  have el:=hh.Cg
  refine⟨_,rfl,_,_,_,_,_,rfl,hp0,T.bS,T.gj,iU d s,d.pd,od,_,rfl,hd0,fun D hD=>KU (J:=Pg d.pd od (aV d.es)) d.es.length (fun i dw=>dw D=some (.lst (aO (GB q (d.es.take i))))∧ao H0 dw) ⟨af,ao.new hD⟩ ?_ ?_ ?_ ?_⟩
  ·rintro i dw hi ⟨_,sm⟩
   exact⟨sm _ _ hd0,by rw[kl];exact hi⟩
  ·rintro dw ⟨_,sm⟩
   exact⟨sm _ _ hd0,by rw[kl];exact D9 _⟩
  ·rintro i dw z H3 hi ⟨j0,sm⟩ ⟨Tt,k,v,b,hk,rfl,hT,hb,rfl⟩
   have hx:d.es[i]?=some d.es[i]:=D3 hi
   have hkv:(pk d.es[i].2.m d.es[i].2.period,V.ref d.es[i].1)=(k,v):=by
    unfold aV at hk
    rw[HD,hx]at hk
    exact aar hk
   obtain⟨rfl,rfl⟩:=aba hkv
   have es:=Mq q (d.es.take i) d.es[i]
   rw[←aa6 hx]at es
   obtain⟨dx,hp⟩:=ps _ (List.getElem_mem hi)
   generalize d.es[i]=xe at*
   have sT:=ao.new (o:=.tup [.ref b,.ref xe.1]) hT
   have C_:upd dw Tt (.tup [.ref b,.ref xe.1]) Tt=some (.tup [.ref b,.ref xe.1]):=af
   generalize upd dw Tt (.tup [.ref b,.ref xe.1])=HT at sT C_⊢
   have Ar:=sT _ _ hb
   have Wl:=sT _ _ (sm _ _ hp)
   refine⟨Tt,_,rfl,i6.of C_,rfl,_,_,rfl,_,_,rfl,rfl,rfl,_,rfl,b,_,1,_,rfl,rfl,i6.of Ar,rfl,_,rfl,rfl,_,rfl,?_⟩
   by_cases h1:xe.2.period=q
   ·rw[D7 h1]at es
    refine uR (by rw[h1];rfl) ⟨_,rfl,_,_,_,_,_,rfl,Wl,T.xM,T.gr,iW xe.2,_,sT _ _ j0,?_,?_,ao.put (sm.trans sT) hD⟩
    ·rw[DS]
     unfold GB
     rw[DS]
     refine bV (aaL (abL _ _) ?_)
     rw[aaH];omega
    ·rw[af,es]
     exact congrArg (fun q=>some (HO.lst q)) (jV _ [_])
   ·rw[D6 h1,abr]at es
    refine tD (fun z=>h1 (by have:=bG z;omega)) ⟨?_,sm.trans sT⟩
    rw[es]
    exact sT _ _ j0
  ·rintro dw ⟨j0,sm⟩
   rw[aaM]at j0
   have s2:=lk _ sm
   refine⟨sm _ _ hd0,?_⟩
   have nD:D≠d.pd:=(aA hd0 hD).symm
   have P1:upd dw d.pd (.dT (aV d.es)) D=some (.lst (aO (GB q d.es))):=by rw[aq nD];exact j0
   generalize upd dw d.pd (.dT (aV d.es))=H2 at s2 P1⊢
   refine⟨D,GB q d.es,rfl,bD.of P1,lz rfl,fun l hl=>?_⟩
   rw[N8 hh.pp]
   have s3:=s2.trans (ao.new (o:=.lst [.int 0,.int (taxIn s q)]) hl)
   exact c_ po (a:=[taxIn s q]) (t':=s) rfl hh (aM.same s3) (hh.mono s3) (ao.free s2 hl) af
def vg(t:TX):Sp:=fun vs H Q _=>∃Z p d s n m,vs=[.ref p,vn m]∧Pre t.c H Z p d s n∧(∀f∈s.failures,f.othersLeft.length≤16)∧Post t.c H Z p d (does s (.failure m)) Q
theorem De(T:Txt K mg t):bE P w K mg t.b fG 1 (t.f 52) (t.fd 52) ["house","number"] (vg t):=by
 refine T.qj.ok gM (fun vs H Q E h=>?_) (fun cdv A outer s0 H vs Q E hr h=>?_)
 ·obtain⟨Z,p,d,s,n,m,rfl,_⟩:=h
  rfl
 ·obtain⟨Z,p,d,s,n,m,rfl,pr,ol,po⟩:=h
  have hh:=pr.hh
  have hu:=yF hr
  refine⟨_,(ah (aE (i:=2) gM.nd rfl (Or.inl rfl) (Hz hu (ak (pv 0) rfl) (pv 1) ⟨rfl,rfl,rfl,rfl⟩)) (ah (bZ (BV (MQ (pv 2))) (ay (aC (aK (aa (au rfl T.pJ ri) ai)))) bw) (ah (aE (i:=3) gM.nd rfl (Or.inl rfl) (ak (pv 2) rfl)) (ah (aE (i:=4) gM.nd rfl (Or.inl rfl) (aK (aa (ak (pv 3) rfl) (aa (ak (pv 3) rfl) (aa (ak (pv 3) rfl) (aa (ak (pv 3) rfl) ai)))))) (ah (aE (i:=5) gM.nd rfl (Or.inl rfl) (aW l7 (aK (aa (ak (pv 2) rfl) (aa (ak (pv 2) rfl) ai))) (ak (pv 2) rfl))) (ay (aC (aW l7 (aW l7 (aK (aa (au rfl T.aH ri) (aa (ak (pv 2) rfl) ai))) (pv 4)) (pv 5))))))))),?_⟩
  refine⟨_,rfl,_,_,_,_,_,rfl,hh.ins,T.bS,T.gR,lK d s,d.fd,rfl,.inl ⟨_,.inl hh.fd⟩,_,rfl,_,oF.k (k:=Sum.inl (m:Int)) hh.fd,?_⟩
  rcases hh.failure m with⟨f,a,hf,e,fa⟩ |⟨hf,e⟩
  ·rw[e]
   obtain⟨dx,b,lo,la,e1,⟨⟨db,e2⟩,e3⟩,e4,_⟩:=fa
   have ol':=ol f (gp hf).1
   refine⟨_,rfl,_,rfl,?_⟩
   refine tD (by intro z;cases z) ?_
   refine⟨_,rfl,_,_,_,_,_,rfl,e1,T.CF,T.Am,E4 f b la,?_⟩
   refine⟨_,rfl,_,_,_,_,_,rfl,e2,T.BE,T.iw,qw ⟨f.collateral,f.own,f.house,f.others,f.nobody⟩ lo,_,rfl,_,_,_,_,_,rfl,e2,T.BE,T.i8,J0 ⟨f.collateral,f.own,f.house,f.others,f.nobody⟩ lo,_,rfl,_,_,_,_,_,rfl,e2,T.BE,T.lS,zh ⟨f.collateral,f.own,f.house,f.others,f.nobody⟩ lo,_,rfl,_,_,_,_,_,rfl,e2,T.BE,T.jT,vG ⟨f.collateral,f.own,f.house,f.others,f.nobody⟩ lo,lz rfl,fun l1 hl1=>?_⟩
   have s1:=ao.new (o:=.lst [vn f.collateral,vn f.own,vn f.house,vn f.nobody]) hl1
   have h1:upd H l1 (.lst [vn f.collateral,vn f.own,vn f.house,vn f.nobody]) l1=some (.lst [vn f.collateral,vn f.own,vn f.house,vn f.nobody]):=af
   dsimp only at s1 h1⊢
   generalize upd H l1 (.lst [vn f.collateral,vn f.own,vn f.house,vn f.nobody])=H1 at s1 h1⊢
   have Se:=s1 _ _ e1
   refine⟨_,rfl,_,_,_,_,_,rfl,Se,T.CF,T.gD,CW f b la,_,rfl,_,_,_,_,_,rfl,Se,T.CF,T.eZ,vH f b la,lz rfl,fun l2 hl2=>?_⟩
   have s2:=ao.new (o:=.lst [vn f.houseLeft,vn f.nobodyLeft]) hl2
   have h2:upd H1 l2 (.lst [vn f.houseLeft,vn f.nobodyLeft]) l2=some (.lst [vn f.houseLeft,vn f.nobodyLeft]):=af
   generalize upd H1 l2 (.lst [vn f.houseLeft,vn f.nobodyLeft])=H2 at s2 h2⊢
   have TF:=s2 _ _ Se
   refine⟨_,rfl,_,_,_,_,_,rfl,TF,T.CF,T.dI,qN f b la,l2,la,_,_,rfl,rfl,h2,(s1.trans s2) _ _ e4,by rw[DS];exact fH (by simp;omega),fun l3 hl3=>?_⟩
   have s3:=ao.new (o:=.lst ([vn f.houseLeft,vn f.nobodyLeft]++cS f.othersLeft)) hl3
   have h3:upd H2 l3 (.lst ([vn f.houseLeft,vn f.nobodyLeft]++cS f.othersLeft)) l3=some (.lst ([vn f.houseLeft,vn f.nobodyLeft]++cS f.othersLeft)):=af
   generalize upd H2 l3 (.lst ([vn f.houseLeft,vn f.nobodyLeft]++cS f.othersLeft))=H3 at s3 h3⊢
   have Vm:=s3 _ _ TF
   refine⟨_,rfl,_,_,_,_,_,rfl,Vm,T.CF,T.Gf,KW f b la,lz rfl,fun l4 Vl=>?_⟩
   have s4:=ao.new (o:=.lst [.int 0,vn f.loss]) Vl
   have h4:upd H3 l4 (.lst [.int 0,vn f.loss]) l4=some (.lst [.int 0,vn f.loss]):=af
   generalize upd H3 l4 (.lst [.int 0,vn f.loss])=H4 at s4 h4⊢
   refine⟨_,rfl,l4,l1,_,_,rfl,rfl,h4,((s2.trans s3).trans s4) _ _ h1,lz rfl,fun l5 Tz=>?_⟩
   have s5:=ao.new (o:=.lst ([.int 0,vn f.loss]++[vn f.collateral,vn f.own,vn f.house,vn f.nobody])) Tz
   have h5:upd H4 l5 (.lst ([.int 0,vn f.loss]++[vn f.collateral,vn f.own,vn f.house,vn f.nobody])) l5=some (.lst ([.int 0,vn f.loss]++[vn f.collateral,vn f.own,vn f.house,vn f.nobody])):=af
   generalize upd H4 l5 (.lst ([.int 0,vn f.loss]++[vn f.collateral,vn f.own,vn f.house,vn f.nobody]))=H5 at s5 h5⊢
   refine⟨_,rfl,l5,l3,_,_,rfl,rfl,h5,(s4.trans s5) _ _ h3,?_,fun l hl=>?_⟩
   ·simp only[aat,DS,aax,List.length_nil];exact fH (by omega)
   have s6:=(((s1.trans s2).trans s3).trans s4).trans s5
   have s7:=s6.trans (ao.new (o:=.lst (([.int 0,vn f.loss]++[vn f.collateral,vn f.own,vn f.house,vn f.nobody])++([vn f.houseLeft,vn f.nobodyLeft]++cS f.othersLeft))) hl)
   refine c_ po (a:=[nat f.loss,nat f.collateral,nat f.own,nat f.house,nat f.nobody,nat f.houseLeft,nat f.nobodyLeft]++f.othersLeft.map nat) (t':=s) (by simp only[does,hf]) hh (aM.same s7) (hh.mono s7) (ao.free s6 hl) ?_
   rw[af,JZ]
   exact congrArg (fun q=>some (HO.lst q)) (jV (0::[nat f.loss,nat f.collateral,nat f.own,nat f.house,nat f.nobody,nat f.houseLeft,nat f.nobodyLeft]) _)
  ·rw[e]
   refine⟨_,rfl,_,rfl,uR rfl ⟨lz rfl,fun l hl=>?_⟩⟩
   exact bB po (e:=-12) (by simp only[does,hf]) hh (by decide) (ao.new hl) hl af
def vh(t:TX):Sp:=fun vs H Q _=>∃Z p d s n m q,vs=[.ref p,vn m,vn q]∧Pre t.c H Z p d s n∧0<m∧Post t.c H Z p d (does s (.preview m q)) Q
theorem Df(T:Txt K mg t):bE P w K mg t.b fG 4 (t.f 53) (t.fd 53) ["house","number","period"] (vh t):=by
 have d_:=iy (P:=P) (w:=w) T
 have mh:=qP (P:=P) (w:=w) T
 have bA:=cO (P:=P) (w:=w) T
 have qz:=uZ (P:=P) (w:=w) T
 refine T.qk.ok nF (fun vs H Q E h=>?_) (fun cdv A outer s0 H vs Q E hr h=>?_)
 ·obtain⟨Z,p,d,s,n,m,q,rfl,_⟩:=h
  rfl
 ·obtain⟨Z,p,d,s,n,m,q,rfl,pr,m0,po⟩:=h
  have hh:=pr.hh
  refine⟨_,(ah (aE (i:=3) nF.nd rfl (Or.inl rfl) (aF bA (hr.mono (by decide)) rfl T.dm T.bf.kp (di T.bf) .nil aI (aa (pv 0) (aa (pv 1) ai)))) (ah (bZ (aU j_ (pv 3) (au rfl T.aH ri) (bh _)) (ay (aC (aK (aa (pv 3) ai)))) bw) (ah (aE (i:=4) nF.nd rfl (Or.inl rfl) (jy (pv 0) T.bS T.ie d_ (hr.mono (by decide)) (i7 T.gh) .nil aI (aa (pv 1) (aa (pv 2) ai)))) (ay (aC (aK (aa (au rfl T.aH ri) (aa (aF mh (hr.mono (by decide)) rfl T.sM T.gi.kp (sL T.gi) .nil aI (aa (pv 4) ai)) (aa (aF qz (hr.mono (by decide)) rfl T.wA T.iX.kp (wo T.iX) .nil aI (aa (pv 4) (aa (ak (pv 0) rfl) ai))) ai))))))))),?_⟩
  refine⟨_,rfl,_,rfl,Z,p,d,s,m,rfl,hh,_,rfl,rfl,_,rfl,?_⟩
  by_cases h0:nZ s m=0
  ·refine tF (by rw[h0]) ?_
   obtain⟨x,hx⟩:=C8 m0 h0
   refine⟨_,rfl,p,d.dx,_,rfl,hh.ins,fT r_,_,rfl,_,rfl,Z,p,d,s,m,q,rfl,hh,pr.g.core.fP,fun H1 b s1 pb=>?_⟩
   have i9:=hh.mono s1
   refine⟨_,rfl,b,_,rfl,pb,_,rfl,_,rfl,_,_,_,_,_,rfl,i9.ins,T.bS,T.rW,BA d s,b,_,s.rate,rfl,pb,pr.g.core.rate,lz rfl,fun l hl=>?_⟩
   have s2:=s1.trans (ao.new (o:=.lst [.int 0,.int (centsOf (entryOf s m q).total-(entryOf s m q).cents),.int (taxOf s.rate (centsOf (entryOf s m q).total)-(entryOf s m q).tax)]) hl)
   exact c_ po (a:=[(billOf s m q).1,(billOf s m q).2]) (t':=s) (by simp only[does,hx,Option.isNone_some,aaC,aa4]) hh (aM.same s2) (hh.mono s2) (ao.free s1 hl) af
  ·obtain⟨e1,e2⟩:=zy m0 h0
   refine tE (fun z=>h0 (bG z)) ⟨_,rfl,lz rfl,fun l hl=>?_⟩
   exact bB po (e:=nZ s m) (by rw[e2];simp only[does,e1,Option.isNone_none,aa3]) hh h0 (ao.new hl) hl af
def wJ(t:TX):Sp:=fun vs H Q _=>∃Z p d s n z,vs=[.ref p,.int z]∧Pre t.c H Z p d s n∧Post t.c H Z p d (does s (.reckon z)) Q
theorem Ej(T:Txt K mg t):bE P w K mg t.b fG 2 (t.f 54) (t.fd 54) ["house","total"] (wJ t):=by
 have fM:=jU (P:=P) (w:=w) T
 have ow:=sN (P:=P) (w:=w) T
 refine T.rR.ok wk (fun vs H Q E h=>?_) (fun cdv A outer s0 H vs Q E hr h=>?_)
 ·obtain⟨Z,p,d,s,n,z,rfl,_⟩:=h
  rfl
 ·obtain⟨Z,p,d,s,n,z,rfl,pr,po⟩:=h
  have hh:=pr.hh
  refine⟨_,(ah (aE (i:=2) wk.nd rfl (Or.inl rfl) (aF fM (hr.mono (by decide)) rfl T.kP T.dF.kp (kJ T.dF) .nil aI (aa (pv 1) ai))) (ay (aC (aK (aa (au rfl T.aH ri) (aa (pv 2) (aa (aF ow (hr.mono (by decide)) rfl T.uM T.gO.kp (uC T.gO) .nil aI (aa (pv 2) (aa (ak (pv 0) rfl) ai))) ai))))))),?_⟩
  refine⟨_,rfl,z,rfl,?_⟩
  refine⟨_,rfl,_,rfl,_,rfl,_,_,_,_,_,rfl,hh.ins,T.bS,T.rW,BA d s,_,s.rate,rfl,pr.g.core.rate,lz rfl,fun l hl=>?_⟩
  exact c_ po (a:=[centsOf z,taxOf s.rate (centsOf z)]) (t':=s) rfl hh (aM.same (ao.new hl)) (hh.mono (ao.new hl)) hl af
theorem AA(l c o h:Nat)(x:List Nat):(borne l c o h x).others.length=x.length:=fk _ _
def AW(t:TX):Sp:=fun vs H Q _=>∃Z p d s n l c o h x a,vs=[.ref p,vn l,vn c,vn o,vn h,.ref a]∧Pre t.c H Z p d s n∧H a=some (.lst (cS x))∧x.length≤16∧l<2^62∧x.sum<2^90∧Post t.c H Z p d (does s (.loss l c o h x)) Q
theorem Ir(T:Txt K mg t):bE P w K mg t.b fG 6 (t.f 55) (t.fd 55) ["house","loss","collateral","fund_part","house_part","other_fund_parts"] (AW t):=by
 have iR:=lV (P:=P) (w:=w) T
 have se:=wB (P:=P) (w:=w) T
 refine T.xG.ok HN (fun vs H Q E h=>?_) (fun cdv A outer s0 H vs Q E hr h=>?_)
 ·obtain⟨Z,p,d,s,n,l,c,o,h,x,a,rfl,_⟩:=h
  rfl
 ·obtain⟨Z,p,d,s,n,l,c,o,h,x,a,rfl,pr,ha,CS,X7,hs,po⟩:=h
  have hh:=pr.hh
  refine⟨_,(ay (aC (aW l7 (aK (aa (au rfl T.aH ri) ai)) (m_ (aF se (hr.mono (by decide)) rfl T.yT T.jQ.kp (yP T.jQ) .nil aI (aa (pv 1) (aa (pv 2) (aa (pv 3) (aa (pv 4) (aa (pv 5) ai)))))) T.BE T.lP iR (hr.mono (by decide)) (mw T.iN) .nil aI)))),?_⟩
  refine⟨lz rfl,fun l1 hl1=>?_⟩
  have s1:=ao.new (o:=.lst [.int 0]) hl1
  have h1:upd H l1 (.lst [.int 0]) l1=some (.lst [.int 0]):=af
  generalize upd H l1 (.lst [.int 0])=H1 at s1 h1⊢
  have i9:=hh.mono s1
  refine⟨_,rfl,_,rfl,_,rfl,_,rfl,_,rfl,l,c,o,h,x,a,rfl,bD.of (s1 _ _ ha),CS,X7,hs,i9.tb,fun H2 b lo s2 hb hlo bb=>?_⟩
  have Ds:=i9.NZ s2
  refine⟨b,_,_,rfl,bb.1.choose_spec,fT wH,b,lo,_,rfl,bb,by rw[AA];exact CS,fun H3 l3 s3 hl3 X8=>?_⟩
  refine⟨l1,l3,_,_,rfl,rfl,s3 _ _ (s2.sm _ _ h1 rfl),X8,?_,fun l4 Vl=>?_⟩
  ·unfold J1
   rw[DS,aat,DS,AA]
   exact fH (by simp;omega)
  ·have s4:=s3.trans (ao.new (o:=.lst ([.int 0]++aO (J1 (borne l c o h x)))) Vl)
   have k4:aM H p d _ d:=((aM.same s1).trans s2.keep).trans (aM.same s4)
   refine c_ po (a:=J1 (borne l c o h x)) (t':=s) rfl hh k4 (Ds.mono s4) ((((aM.same (p:=p) (d:=d) s1).trans s2.keep).trans (aM.same s3)).free Vl) ?_
   rw[af]
   rfl
end
theorem N9{α β:Type}{l:List α}{k:List β}{i:Nat}{a:α}{b:β}(h1:l[i]?=some a)(h2:k[i]?=some b):(l.zip k)[i]?=some (a,b):=by rw[abM];exact⟨h1,h2⟩
theorem E_{α:Type}(f:α→Bool)(l:List α)(x:α):(l++[x]).filter f=l.filter f++(if f x=true then[x]else[]):=by
 rw[ace,abi]
 split<;>rfl
theorem zE{α:Type}(f:α→Bool)(l:List α)(i:Nat):((l.take i).filter f).length≤i:=by
 refine aaD (abL _ _) ?_
 rw[aaH];omega
section
variable{P:Program}{w:World}{K:W.Frag}{mg:Str→Option Value}{base:Heap}{t:TX}
def refsOf{α:Type}(l:List (Addr×α)):List V:=l.map fun q=>V.ref q.1
def Mr(s:State)(q:Addr×Invoice):Bool:=isOverdue s q.2
theorem P4{s:State}{is:List Addr}{m:Nat}(h:is.length=s.invoices.length):(((is.zip s.invoices).filter (Mr s)).map fun q=>decide (V.int (q.2.m:Int)=vn m)).any id=hasOverdue s m:=by
 rw[acE,List.any_filter]
 unfold hasOverdue
 have e:s.invoices=(is.zip s.invoices).map (·.2):=by rw[List.map_snd_zip (by omega)]
 conv=>rhs;rw[e,acE]
 congr 1
 funext q
 show(Mr s q&&decide (V.int (q.2.m:Int)=vn m))=(q.2.m==m&&isOverdue s q.2)
 rw[yq,Bool.and_comm]
 congr 1
 by_cases z:q.2.m=m
 ·rw[z];simp
 ·have z2:¬(q.2.m:Int)=(m:Int):=by omega
  rw[aaW.mpr z,aaW.mpr z2]
def sf(t:TX):Sp:=fun vs H Q _=>∃Z p d s m,vs=[.ref p,vn m]∧aj t.c H Z p d s∧s.invoices.length≤300∧∀H',ao H H'→Q (.bl (hasOverdue s m)) H'
theorem sj(T:Txt K mg t):bE P w K mg t.b fG 2 (t.f 60) (t.fd 60) ["house","number"] (sf t):=by
 have gU:=kh (P:=P) (w:=w) T
 refine T.gw.ok cW (fun vs H Q E h=>?_) (fun cdv A outer s0 H vs Q E hr h=>?_)
 ·obtain⟨Z,p,d,s,m,rfl,_⟩:=h
  rfl
 ·obtain⟨Z,p,d,s,m,rfl,hh,Ij,k⟩:=h
  refine⟨_,(ah (t7 (i:=2) rfl cW.nd rfl rfl (yC rfl rfl rfl (by decide+kernel)) (fS (ak (pv 0) rfl)) (eO (own:=[("invoice",3)]) (by show t9 ["house","number","overdue","invoice"] (az dz) _ _=true;decide+kernel)) (fun _ _ _ _ _=>(bC (i:=3) cW.nd rfl (Or.inl rfl))) (fun _ _ _ _ _=>(Bv (ja (jy (pv 3) T.rV T.kg gU (hr.mono (by decide)) (lN T.gP) .nil aI (aa (vD (pv 0) rfl) ai))))) (fun _ _ _ _ _=>(pv 3))) (ay (aC (aQ (Jr rfl) rfl T.NT JC (aa (v_ rfl cW.nd (fS (pv 2)) (eO (own:=[("invoice",3)]) (by show t9 ["house","number","overdue","invoice"] (az dz) _ _=true;decide+kernel)) (fun _ _ _ _ _=>(bC (i:=3) cW.nd rfl (Or.inl rfl))) (fun _ _ _ _ _=>jz) (fun _ _ _ _ _=>(rA j9 (vD (pv 3) rfl) (pv 1) (bh _)))) ai))))),?_⟩
  refine⟨_,rfl,_,_,_,_,_,rfl,hh.ins,T.bS,T.bK,cA d s,d.il,rfl,⟨_,bD.of hh.il⟩,fun D hD=>k_ (K:=K) (a:=d.il) (xs:=d.is.map V.ref) (fun i dw=>dw D=some (.lst (refsOf (((d.is.zip s.invoices).take i).filter (Mr s))))∧ao H dw) ⟨af,ao.new hD⟩ (fun i dw _ ⟨_,sm⟩=>bD.of (sm _ _ hh.il)) ?_ ?_⟩
  ·rintro i y dw hi ⟨j0,sm⟩
   obtain⟨a,ha,rfl⟩:=get_map hi
   obtain⟨x,dx,hx,hb,_⟩:=hh.xP ha
   have IF:=hh.mono sm
   have hb':=sm _ _ hb
   have es:=E_ (Mr s) ((d.is.zip s.invoices).take i) (a,x)
   rw[←aa6 (N9 ha hx)]at es
   refine⟨rfl,_,rfl,a,dx,_,rfl,hb',fT CY,_,rfl,_,_,_,_,_,rfl,IF.ins,T.bS,T.lR,ue d s,a,x,s.today,rfl,⟨dx,hb'⟩,_,rfl,?_⟩
   refine NW (fun e=>?_) (fun e=>?_)
   ·rw[D7 (show Mr s (a,x)=true from e)]at es
    refine⟨_,rfl,_,j0,?_,?_,ao.put sm hD⟩
    ·unfold refsOf
     rw[DS]
     have h1:=zE (Mr s) (d.is.zip s.invoices) i
     have h2:=(aao.mp hx).1
     exact bV (by omega)
    ·rw[af,es]
     unfold refsOf
     rw[aaz]
     rfl
   ·rw[D6 (show ¬Mr s (a,x)=true from by show ¬(decide (x.due<s.today)&&decide (0<x.rest))=true;rw[e];exact aay),abr]at es
    rw[es]
    exact⟨j0,sm⟩
  ·rintro H1 ⟨To,s1⟩
   have e0:(d.is.zip s.invoices).take (d.is.map V.ref).length=d.is.zip s.invoices:=abp (by rw[abO,DS];omega)
   rw[e0]at To
   have Vf:((d.is.zip s.invoices).filter (Mr s)).length≤300:=aaD (abL _ _) (by rw[abO];omega)
   have ok:∀(j:Nat) q,((d.is.zip s.invoices).filter (Mr s))[j]?=some q→oU t.c H q.1 q.2:=fun j q hq=>by
    have hm:=(List.mem_filter.mp (aaB hq)).1
    obtain⟨i,hi⟩:=List.mem_iff_getElem?.mp hm
    obtain⟨h1,h2⟩:=abM.mp hi
    exact(hh.im.inv i _ _ h1 h2).1
   refine⟨_,rfl,D,rfl,⟨_,bD.of To⟩,fun D2 P1=>k_ (K:=K) (a:=D) (xs:=refsOf ((d.is.zip s.invoices).filter (Mr s))) (fun i dw=>dw D2=some (.lst (((((d.is.zip s.invoices).filter (Mr s)).take i).map fun q=>decide (V.int (q.2.m:Int)=vn m)).map V.bl))∧ao H1 dw) ⟨af,ao.new P1⟩ (fun i dw _ ⟨_,sm⟩=>bD.of (sm _ _ To)) ?_ ?_⟩
   ·rintro i y dw hi ⟨j0,sm⟩
    obtain⟨q,hq,rfl⟩:=get_map hi
    obtain⟨dx,hb⟩:=ok i q hq
    have hb':=sm _ _ (s1 _ _ hb)
    refine⟨rfl,_,rfl,_,_,_,_,_,rfl,hb',T.rV,T.bF,g_ q.2,_,rfl,rfl,_,j0,?_,?_,ao.put sm P1⟩
    ·rw[DS,DS,aaH];exact bV (by omega)
    ·rw[af,aa6 hq,aaz,aaz]
     rfl
   ·rintro dw ⟨j0,sm⟩
    have e1:(refsOf ((d.is.zip s.invoices).filter (Mr s))).length=((d.is.zip s.invoices).filter (Mr s)).length:=by unfold refsOf;rw[DS]
    rw[e1,aaM]at j0
    refine⟨D2,_,rfl,bD.of j0,?_⟩
    rw[P4 hh.iD]
    exact k _ (s1.trans sm)
def vj(H:Hp)(bs:List Addr)(l:List (Addr×En)):Prop:=bs.length=l.length∧∀(i:Nat) b q,bs[i]?=some b→l[i]?=some q→H b=some (.tup ((pk q.2.m q.2.period).map kV))
theorem vj.mono{H H':Hp}{bs:List Addr}{l:List (Addr×En)}(h:vj H bs l)(s:ao H H'):vj H' bs l:=⟨h.1,fun i b q hb hq=>s _ _ (h.2 i b q hb hq)⟩
theorem vj.snoc{H:Hp}{bs:List Addr}{l:List (Addr×En)}{b:Addr}{q:Addr×En}(h:vj H bs l)(hb:H b=some (.tup ((pk q.2.m q.2.period).map kV))):vj H (bs++[b]) (l++[q]):=by
 refine⟨by rw[aat,aat,h.1];rfl,fun i c r hc hr=>?_⟩
 by_cases hi:i<bs.length
 ·rw[aaA hi]at hc
  rw[aaA (by rw[←h.1];exact hi)]at hr
  exact h.2 i c r hc hr
 ·rw[aaG (abj hi)]at hc
  rw[aaG (by rw[←h.1];exact abj hi),←h.1]at hr
  cases e:i-bs.length with
  |zero=>
   rw[e]at hc hr
   cases hc
   cases hr
   exact hb
  |succ j=>rw[e]at hc;simp at hc
def K5(q:Addr×En):Bool:= !(q.2.total==q.2.seen)
theorem P5{s:State}{es:List (Addr×En)}{m:Nat}(h:(es.map (·.2)).Perm s.entries):((es.filter K5).map fun q=>decide (V.int (q.2.m:Int)=vn m)).any id= !allBilled s m:=by
 rw[acE,List.any_filter]
 have e0:(es.any fun q=>K5 q&&decide (V.int (q.2.m:Int)=vn m))=es.any fun q=> !(q.2.m != m||q.2.total==q.2.seen):=by
  congr 1
  funext q
  unfold K5
  rw[yq]
  by_cases z:q.2.m=m
  ·rw[z];simp
  ·have z2:¬(q.2.m:Int)=(m:Int):=by omega
   rw[aaW.mpr z2,bne_iff_ne.mpr z]
   simp
 show(es.any fun q=>K5 q&&decide (V.int (q.2.m:Int)=vn m))=_
 rw[e0]
 unfold allBilled
 cases q:s.entries.all fun e=>e.m != m||e.total==e.seen with
 |true=>
  rw[ab8]at q
  rw[Bool.not_true,acH]
  intro x hx z
  have:=q x.2 (h.mem_iff.mp (abF hx))
  rw[this]at z
  cases z
 |false=>
  rw[List.all_eq_false]at q
  obtain⟨e,he,z⟩:=q
  obtain⟨x,hx,rfl⟩:=aaE.mp (h.mem_iff.mpr he)
  rw[Bool.not_false,acq]
  exact⟨x,hx,by rw[Bool.eq_false_iff.mpr z];rfl⟩
def vU(t:TX):Sp:=fun vs H Q _=>∃Z p d s m,vs=[.ref p,vn m]∧aj t.c H Z p d s∧s.entries.length≤300∧∀H',ao H H'→Q (.bl (!allBilled s m)) H'
theorem vV(T:Txt K mg t):bE P w K mg t.b fG 2 (t.f 61) (t.fd 61) ["house","number"] (vU t):=by
 have jl:=mE (P:=P) (w:=w) T
 refine T.jg.ok dh (fun vs H Q E h=>?_) (fun cdv A outer s0 H vs Q E hr h=>?_)
 ·obtain⟨Z,p,d,s,m,rfl,_⟩:=h
  rfl
 ·obtain⟨Z,p,d,s,m,rfl,hh,Ij,k⟩:=h
  refine⟨_,(ah (O1 (t7 (i:=2) rfl dh.nd rfl rfl (yC rfl rfl rfl (by decide+kernel)) (ET (ak (pv 0) rfl)) (eO (own:=[("key",3),("pair",4)]) (by show t9 ["house","number","unseen","key","pair"] (az eV) _ _=true;decide+kernel)) (fun _ _ _ _ _=>(BC (n:=2) rfl (b9 (bC (i:=3) dh.nd rfl (Or.inl rfl)) (b9 (bC (i:=4) dh.nd rfl (Or.inl rfl)) jw)))) (fun _ _ _ _ _=>(Bv (BY (ja (m_ (pv 4) T.xM T.mC jl (hr.mono (by decide)) (nI T.jf) .nil aI))))) (fun _ _ _ _ _=>(pv 3)))) (ay (aC (aQ (Jr rfl) rfl T.NT JC (aa (v_ rfl dh.nd (fS (pv 2)) (eO (own:=[("key",3)]) (by show t9 ["house","number","unseen","key","pair"] (az eV) _ _=true;decide+kernel)) (fun _ _ _ _ _=>(bC (i:=3) dh.nd rfl (Or.inl rfl))) (fun _ _ _ _ _=>jz) (fun _ _ _ _ _=>(rA j9 (cz BD (pv 3) aG (fun _ _=>rfl)) (pv 1) (bh _)))) ai))))),?_⟩
  refine⟨d.pd,_,hh.pd,trivial,fun od=>?_⟩
  have Tv:p≠d.pd:=(O_ hh.nd).1.2.1
  have hp0:upd H d.pd (.lX od (.dT (aV d.es))) p=some (.ins t.c.cH d.dx (NH.zip (aB d s))):=by rw[aq Tv];exact hh.ins
  have hd0:upd H d.pd (.lX od (.dT (aV d.es))) d.pd=some (.lX od (.dT (aV d.es))):=af
  have ps:∀x∈d.es,kr t.c (upd H d.pd (.lX od (.dT (aV d.es)))) x.1 x.2:=fun x hx=>by
   obtain⟨⟨dx,e⟩,im⟩:=hh.im.pr x hx
   exact⟨dx,by rw[aq (fun z=>im.1 (by rw[z];exact aj.xj))];exact e⟩
  have lk:∀H',ao (upd H d.pd (.lX od (.dT (aV d.es)))) H'→ao H (upd H' d.pd (.dT (aV d.es))):=fun H'=>E9 hh.pd
  generalize upd H d.pd (.lX od (.dT (aV d.es)))=H0 at hp0 hd0 ps lk⊢
  have kl:(aV d.es).length=d.es.length:=by unfold aV;rw[DS]
  have el:=hh.Cg
  refine⟨_,rfl,_,_,_,_,_,rfl,hp0,T.bS,T.gj,iU d s,d.pd,od,_,rfl,hd0,fun D hD=>KU (J:=Pg d.pd od (aV d.es)) d.es.length (fun i dw=>∃bs:List Addr,dw D=some (.lst (bs.map V.ref))∧vj dw bs ((d.es.take i).filter K5)∧ao H0 dw) ⟨[],af,⟨rfl,fun i b q hb=>by simp at hb⟩,ao.new hD⟩ ?_ ?_ ?_ ?_⟩
  ·rintro i dw hi ⟨_,_,_,sm⟩
   exact⟨sm _ _ hd0,by rw[kl];exact hi⟩
  ·rintro dw ⟨_,_,_,sm⟩
   exact⟨sm _ _ hd0,by rw[kl];exact D9 _⟩
  ·rintro i dw z H3 hi ⟨bs,j0,ka,sm⟩ ⟨Tt,k',v,b,hk,rfl,hT,hb,rfl⟩
   have hx:d.es[i]?=some d.es[i]:=D3 hi
   have hkv:(pk d.es[i].2.m d.es[i].2.period,V.ref d.es[i].1)=(k',v):=by
    unfold aV at hk
    rw[HD,hx]at hk
    exact aar hk
   obtain⟨rfl,rfl⟩:=aba hkv
   have es:=E_ K5 (d.es.take i) d.es[i]
   rw[←aa6 hx]at es
   obtain⟨dx,hp⟩:=ps _ (List.getElem_mem hi)
   have fl:=zE K5 d.es i
   generalize d.es[i]=xe at*
   have sT:=ao.new (o:=.tup [.ref b,.ref xe.1]) hT
   have C_:upd dw Tt (.tup [.ref b,.ref xe.1]) Tt=some (.tup [.ref b,.ref xe.1]):=af
   generalize upd dw Tt (.tup [.ref b,.ref xe.1])=HT at sT C_⊢
   have Ar:=sT _ _ hb
   have Wl:=sT _ _ (sm _ _ hp)
   refine⟨Tt,_,rfl,i6.of C_,rfl,_,_,rfl,_,_,rfl,rfl,rfl,_,rfl,xe.1,dx,_,rfl,Wl,fT AU,xe.1,xe.2,rfl,⟨dx,Wl⟩,_,rfl,?_⟩
   refine NW (fun e=>?_) (fun e=>?_)
   ·rw[D7 (show K5 xe=true from e)]at es
    have ZT:=sT _ _ j0
    refine⟨_,rfl,_,ZT,?_,bs++[b],?_,?_,ao.put (sm.trans sT) hD⟩
    ·rw[DS,ka.1];exact bV (by omega)
    ·rw[af,aaz];rfl
    ·rw[es]
     have k2:=(ka.mono sT).snoc (q:=xe) Ar
     exact⟨k2.1,fun j c r hc hr=>by
      have h3:=k2.2 j c r hc hr
      rw[aq (fun z=>by rw[z,ZT]at h3;cases h3)]
      exact h3⟩
   ·rw[D6 (show ¬K5 xe=true from by rw[show K5 xe=_ from e];exact aay),abr]at es
    refine⟨bs,sT _ _ j0,?_,sm.trans sT⟩
    rw[es]
    exact ka.mono sT
  ·rintro dw ⟨bs,j0,ka,sm⟩
   rw[aaM]at ka
   have s2:=lk _ sm
   refine⟨sm _ _ hd0,?_⟩
   have nD:D≠d.pd:=(aA hd0 hD).symm
   have P1:upd dw d.pd (.dT (aV d.es)) D=some (.lst (bs.map V.ref)):=by rw[aq nD];exact j0
   have Wm:vj (upd dw d.pd (.dT (aV d.es))) bs (d.es.filter K5):=⟨ka.1,fun i b q hb hq=>by
    have h3:=ka.2 i b q hb hq
    rw[aq (fun z=>by rw[z,sm _ _ hd0]at h3;cases h3)]
    exact h3⟩
   generalize upd dw d.pd (.dT (aV d.es))=H1 at s2 P1 Wm⊢
   have Vf:(d.es.filter K5).length≤300:=aaD (abL _ _) (by omega)
   refine⟨_,rfl,D,rfl,⟨_,bD.of P1⟩,fun D2 ZU=>k_ (K:=K) (a:=D) (xs:=bs.map V.ref) (fun i dw=>dw D2=some (.lst ((((d.es.filter K5).take i).map fun q=>decide (V.int (q.2.m:Int)=vn m)).map V.bl))∧ao H1 dw) ⟨af,ao.new ZU⟩ (fun i dw _ ⟨_,sm⟩=>bD.of (sm _ _ P1)) ?_ ?_⟩
   ·rintro i y H3 hi ⟨Ml,GJ⟩
    obtain⟨b,hb,rfl⟩:=get_map hi
    have hif:i<(d.es.filter K5).length:=by rw[←Wm.1];exact(aao.mp hb).1
    have hq:=D3 hif
    have hbt:=GJ _ _ (Wm.2 i b _ hb hq)
    refine⟨rfl,_,rfl,b,_,0,_,rfl,rfl,i6.of hbt,rfl,_,rfl,rfl,_,Ml,?_,?_,ao.put GJ ZU⟩
    ·rw[DS,DS,aaH];exact bV (by omega)
    ·rw[af,aa6 hq,aaz,aaz]
     rfl
   ·rintro H3 ⟨Ml,GJ⟩
    rw[DS,Wm.1,aaM]at Ml
    refine⟨D2,_,rfl,bD.of Ml,?_⟩
    rw[P5 hh.pp]
    exact k _ (s2.trans GJ)
def vW(t:TX):Sp:=fun vs H Q _=>∃Z p d s m,vs=[.ref d.il,vn m]∧aj t.c H Z p d s∧s.invoices.length≤300∧
 ∀H' L (is':List Addr),ao H H'→H L=none→H' L=some (.lst (is'.map V.ref))→is'.length=s.invoices.length→(∀(i:Nat) b y,is'[i]?=some b→(dQ m s.invoices)[i]?=some y→oU t.c H' b y∧Im Z p d b∧b≠L)→Q (.ref L) H'
theorem vX(T:Txt K mg t):bE P w K mg t.b fG 4 (t.f 62) (t.fd 62) ["invoices","number"] (vW t):=by
 have iQ:=lU (P:=P) (w:=w) T
 refine T.jh.ok iK (fun vs H Q E h=>?_) (fun cdv A outer s0 H vs Q E hr h=>?_)
 ·obtain⟨Z,p,d,s,m,rfl,_⟩:=h
  rfl
 ·obtain⟨Z,p,d,s,m,rfl,hh,Ij,k⟩:=h
  refine⟨_,(ay (aC (v_ rfl iK.nd (fS (pv 0)) (eO (own:=[("invoice",2)]) (by show t9 ["invoices","number","invoice"] (az fU) _ _=true;decide+kernel)) (fun _ _ _ _ _=>(bC (i:=2) iK.nd rfl (Or.inl rfl))) (fun _ _ _ _ _=>jz) (fun _ _ _ _ _=>(iT (aU j9 (vD (pv 2) rfl) (pv 1) (bh _)) (jy (pv 2) T.rV T.lQ iQ (hr.mono (by decide)) (mz T.iO) .nil aI (aa aG ai)) (pv 2)))))),?_⟩
  refine⟨_,rfl,d.il,rfl,⟨_,bD.of hh.il⟩,fun D hD=>k_ (K:=K) (a:=d.il) (xs:=d.is.map V.ref) (fun i dw=>∃bs:List Addr,dw D=some (.lst (bs.map V.ref))∧bs.length=i∧(∀(j:Nat) b y,bs[j]?=some b→(dQ m s.invoices)[j]?=some y→oU t.c dw b y∧Im Z p d b∧b≠D)∧ao H dw) ⟨[],af,rfl,fun j b y hb=>by simp at hb,ao.new hD⟩ (fun i dw _ ⟨_,_,_,_,sm⟩=>bD.of (sm _ _ hh.il)) ?_ ?_⟩
  ·rintro i y dw hi ⟨bs,j0,hl,pt,sm⟩
   obtain⟨a,ha,rfl⟩:=get_map hi
   obtain⟨x,dx,hx,hb,im⟩:=hh.xP ha
   have hb':=sm _ _ hb
   have hix:=(aao.mp hx).1
   have hz:(dQ m s.invoices)[i]?=some (if x.m=m then{x with rest:=0}else x):=by unfold dQ;rw[HD,hx];rfl
   have fin:∀H3 b,ao dw H3→oU t.c H3 b (if x.m=m then{x with rest:=0}else x)→Im Z p d b→b≠D→∃acc,H3 D=some (.lst acc)∧acc.length<sizeLine∧∃bs:List Addr,upd H3 D (.lst (acc++[V.ref b])) D=some (.lst (bs.map V.ref))∧bs.length=i+1∧(∀(j:Nat) b' y,bs[j]?=some b'→(dQ m s.invoices)[j]?=some y→oU t.c (upd H3 D (.lst (acc++[V.ref b]))) b' y∧Im Z p d b'∧b'≠D)∧ao H (upd H3 D (.lst (acc++[V.ref b]))):=by
    intro H3 b s3 ib XZ nb
    refine⟨_,s3 _ _ j0,by rw[DS];exact bV (by omega),bs++[b],by rw[af,aaz];rfl,by rw[aat,hl];rfl,fun j b' y' hb2 X_=>?_,ao.put (sm.trans s3) hD⟩
    have kk:∀u o,H3 u=some o→u≠D→upd H3 D (.lst (bs.map V.ref++[V.ref b])) u=some o:=fun u o e n=>by rw[aq n];exact e
    by_cases hj:j<i
    ·rw[aaA (by omega)]at hb2
     obtain⟨⟨dq,hq⟩,X0,nq⟩:=pt j b' y' hb2 X_
     exact⟨⟨dq,kk _ _ (s3 _ _ hq) nq⟩,X0,nq⟩
    ·rw[aaG (by omega),hl]at hb2
     cases q:j-i with
     |zero=>
      have ej:j=i:=by omega
      rw[q]at hb2
      cases hb2
      rw[ej,hz]at X_
      cases X_
      obtain⟨dq,hq⟩:=ib
      exact⟨⟨dq,kk _ _ hq nb⟩,XZ,nb⟩
     |succ r=>rw[q]at hb2;simp at hb2
   refine⟨rfl,_,rfl,_,_,_,_,_,rfl,hb',T.rV,T.bF,g_ x,_,rfl,rfl,_,rfl,?_⟩
   by_cases h1:x.m=m
   ·refine uR (by rw[h1]) ⟨_,rfl,a,dx,_,rfl,hb',fT zm,a,x,0,rfl,⟨dx,hb'⟩,fun y dy hy PL ne=>?_⟩
    have s3:ao dw (zK dw dy y t.c.cI (NI.zip (xg {x with rest:=0}))):=ao.mk hy PL
    exact fin _ y s3 (by rw[D7 h1];exact⟨dy,pU⟩) (hh.uf (ao.free sm hy)) (aA j0 hy).symm
   ·refine tD (fun z=>h1 (by have:=bG z;omega)) ⟨_,rfl,fin _ a (ao.refl _) (by rw[D6 h1];exact⟨dx,hb'⟩) im (aA hb hD)⟩
  ·rintro dw ⟨bs,j0,hl,pt,sm⟩
   rw[DS,hh.iD]at hl
   exact k dw D bs sm hD j0 hl pt
end
def upto(g:Nat→Member→Member)(i:Nat)(l:List Member):List Member:=((List.range l.length).zip l).map fun y=>if y.1<i then g y.1 y.2 else y.2
theorem qR(g:Nat→Member→Member)(i:Nat)(l:List Member)(j:Nat):(upto g i l)[j]?=(l[j]?).map fun y=>if j<i then g j y else y:=zP _ _ _
theorem zF(g:Nat→Member→Member)(i:Nat)(l:List Member):(upto g i l).length=l.length:=zQ _ _
theorem Fb(g:Nat→Member→Member)(l:List Member):upto g 0 l=l:=by
 apply abl
 intro j
 rw[qR]
 cases l[j]?<;>rfl
theorem Fc{g:Nat→Member→Member}{i:Nat}{l:List Member}{x:Member}(h:l[i]?=some x):(upto g i l).set i (g i x)=upto g (i+1) l:=by
 apply abl
 intro j
 have hi:=(aao.mp h).1
 rw[qR]
 by_cases e:j=i
 ·subst e
  rw[abb (by rw[zF];exact hi),h]
  show _=some (if j<j+1 then g j x else x)
  rw[D7 (Nat.lt_succ_self j)]
 ·rw[aa' (fun z=>e z.symm),qR]
  cases l[j]? with
  |none=>rfl
  |some y=>
   show some (if j<i then _ else _)=some (if j<i+1 then _ else _)
   by_cases h1:j<i
   ·rw[D7 h1,D7 (by omega)]
   ·rw[D6 h1,D6 (by omega)]
theorem K6{g:Nat→Member→Member}{i:Nat}{l:List Member}{x:Member}(h:l[i]?=some x):(upto g i l)[i]?=some x:=by
 rw[qR,h]
 show some (if i<i then _ else _)=_
 rw[D6 (abc i)]
theorem N_{g:Nat→Member→Member}{i:Nat}{l:List Member}(h:∀(j:Nat) x,i≤j→l[j]?=some x→g j x=x):upto g i l=((List.range l.length).zip l).map fun y=>g y.1 y.2:=by
 apply abl
 intro j
 rw[qR,zP]
 cases e:l[j]? with
 |none=>rfl
 |some x=>
  show some (if j<i then _ else _)=some (g j x)
  by_cases h1:j<i
  ·rw[D7 h1]
  ·rw[D6 h1,h j x (by omega) e]
section
variable{P:Program}{w:World}{K:W.Frag}{mg:Str→Option Value}{base:Heap}{t:TX}
def taken(s:State)(m:Nat)(b:Borne):State:={s with
 members:=((List.range s.members.length).zip s.members).map fun y=>if y.1+1=m then{y.2 with collateral:=y.2.collateral-b.collateral,fund:=y.2.fund-b.own-Vbemal.nth b.others y.1}else{y.2 with fund:=y.2.fund-Vbemal.nth b.others y.1}
 house:=s.house-b.house
 loss:=s.loss+b.nobody}
theorem sF.keep{c:Cs}{H H':Hp}{p:Addr}{d d':AD}{b lo:Addr}{x:Borne}(h:sF c H b lo x)(k:aM H p d H' d')(nb:b∉muts p d)(nl:lo∉muts p d):sF c H' b lo x:=
 let⟨⟨db,e⟩,e2⟩:=h
 ⟨⟨db,k.keep _ _ e rfl nb⟩,k.keep _ _ e2 rfl nl⟩
def zG(l:List Nat)(i:Nat)(y:Member):Member:={y with fund:=y.fund-Vbemal.nth l i}
def AX(l:List Nat)(i:Nat)(y:Member):Member:={y with fund:=y.fund+Vbemal.nth l i}
theorem GD{l:List Nat}{i:Nat}(h:i<l.length):(cS l)[i]?=some (vn (Vbemal.nth l i)):=by
 rw[HD,D3 h,BF (D3 h)]
 rfl
def Dg(t:TX):Sp:=fun vs H Q _=>∃Z p d s m x b lo w,vs=[.ref p,vn m,.ref b]∧aj t.c H Z p d s∧member? s m=some x∧sF t.c H b lo w∧b∉muts p d∧lo∉muts p d∧
 w.others.length=s.members.length∧w.collateral≤x.collateral∧w.own≤x.fund∧w.house≤s.house∧(∀(i:Nat) y,s.members[i]?=some y→Vbemal.nth w.others i≤y.fund)∧Vbemal.nth w.others (m-1)=0∧
 ∀H',aM H p d H' d→aj t.c H' Z p d (taken s m w)→Q .lJ H'
theorem Dh(T:Txt K mg t):bE P w K mg t.b fG 1 (t.f 63) (t.fd 63) ["house","number","burden"] (Dg t):=by
 refine T.qo.ok jO (fun vs H Q E h=>?_) (fun cdv A outer s0 H vs Q E hr h=>?_)
 ·obtain⟨Z,p,d,s,m,x,b,lo,w,rfl,_⟩:=h
  rfl
 ·obtain⟨Z,p,d,s,m,x,b,lo,w,rfl,hh,hx,ba,nb,nl,hlen,hc,ho,hho,hot,hz,k⟩:=h
  refine⟨_,(ah (aE (i:=3) jO.nd rfl (Or.inl rfl) (cz bL (ak (pv 0) rfl) (aW bP (pv 1) aG) (fun _ _=>rfl))) (ah (bN (pv 3) (ak (pv 2) rfl) m9) (ah (bN (pv 3) (ak (pv 2) rfl) m9) (ah (bN (pv 0) (ak (pv 2) rfl) m9) (ah (bN (pv 0) (ak (pv 2) rfl) lZ) (ay (lY abd rfl (FL rfl T.Ih (aa (ak (pv 0) rfl) (aa (ak (pv 2) rfl) ai))) (tT (n:=2) rfl (b9 (bC (i:=4) jO.nd rfl (Or.inl rfl)) (b9 (bC (i:=5) jO.nd rfl (Or.inl rfl)) jw))) (ay (bN (pv 4) (pv 5) m9))))))))),?_⟩
  obtain⟨m0,a,da,ha,ZV,hb⟩:=hh.one hx
  obtain⟨⟨db,TH⟩,hlo⟩:=id ba
  refine⟨_,rfl,_,_,_,_,_,rfl,hh.ins,T.bS,T.aX,bq d s,_,rfl,_,_,rfl,rfl,d.ml,_,_,_,rfl,rfl,bD.of hh.ml,K0 m0 ha,?_⟩
  have am:=aj.gv (p:=p) ha
  refine⟨_,rfl,_,_,_,_,_,rfl,hb,T.kT,T.bX,dM x,_,rfl,_,_,_,_,_,rfl,TH,T.BE,T.iw,qw w lo,_,_,rfl,rfl,da,_,hb,vI NM _ rfl,?_⟩
  have e1:(x.collateral:Int)-(w.collateral:Int)=((x.collateral-w.collateral:Nat):Int):=by omega
  dsimp only
  rw[e1,pV]
  have h1:=hh.CZ (dx:=da) (g:=fun y=>{y with collateral:=y.collateral-w.collateral}) hx ha
  have k1:aM H p d _ d:=aM.upd (o:=.ins t.c.cM da (NM.zip (dB {x with collateral:=x.collateral-w.collateral}))) am
  have b1:=ba.keep k1 nb nl
  have x1:upd H a (.ins t.c.cM da (NM.zip (dB {x with collateral:=x.collateral-w.collateral}))) a=some (.ins t.c.cM da (NM.zip (dB {x with collateral:=x.collateral-w.collateral}))):=af
  generalize upd H a (.ins t.c.cM da (NM.zip (dB {x with collateral:=x.collateral-w.collateral})))=H1 at h1 k1 b1 x1⊢
  obtain⟨⟨db1,Yb⟩,aai⟩:=id b1
  have Gr:member? (setMember s m (fun y=>{y with collateral:=y.collateral-w.collateral})) m=some {x with collateral:=x.collateral-w.collateral}:=gn hx
  refine⟨_,rfl,_,_,_,_,_,rfl,x1,T.kT,T.cJ,dN _,_,rfl,_,_,_,_,_,rfl,Yb,T.BE,T.i8,J0 w lo,_,_,rfl,rfl,da,_,x1,vI NM _ rfl,?_⟩
  have e2:(x.fund:Int)-(w.own:Int)=((x.fund-w.own:Nat):Int):=by omega
  dsimp only
  rw[e2,mK]
  have h2:=h1.CZ (dx:=da) (g:=fun y=>{y with fund:=y.fund-w.own}) Gr ha
  have k2:aM H p d _ d:=k1.trans (aM.upd (o:=.ins t.c.cM da (NM.zip (dB {x with collateral:=x.collateral-w.collateral,fund:=x.fund-w.own}))) am)
  have b2:=ba.keep k2 nb nl
  dsimp only at h2⊢
  generalize upd H1 a (.ins t.c.cM da (NM.zip (dB {x with collateral:=x.collateral-w.collateral,fund:=x.fund-w.own})))=H2 at h2 k2 b2⊢
  obtain⟨⟨db2,Yc⟩,aaj⟩:=id b2
  generalize Vn:setMember (setMember s m (fun y=>{y with collateral:=y.collateral-w.collateral})) m (fun y=>{y with fund:=y.fund-w.own})=s2 at h2
  have q1:s2.house=s.house:=by rw[←Vn];rfl
  have q2:s2.loss=s.loss:=by rw[←Vn];rfl
  refine⟨_,rfl,_,_,_,_,_,rfl,h2.ins,T.bS,T.dP,gq _ _,_,rfl,_,_,_,_,_,rfl,Yc,T.BE,T.lS,zh w lo,_,_,rfl,rfl,d.dx,_,h2.ins,vI NH _ rfl,?_⟩
  have e3:(s2.house:Int)-(w.house:Int)=((s2.house-w.house:Nat):Int):=by omega
  dsimp only
  rw[e3,nh]
  have h3:=h2.sY (s':={s2 with house:=s2.house-w.house}) rfl rfl rfl rfl rfl
  have k3:aM H p d _ d:=k2.trans (aM.upd (o:=.ins t.c.cH d.dx (NH.zip (aB d {s2 with house:=s2.house-w.house}))) (aj.gJ (d:=d)))
  have b3:=ba.keep k3 nb nl
  generalize upd H2 p (.ins t.c.cH d.dx (NH.zip (aB d {s2 with house:=s2.house-w.house})))=H3 at h3 k3 b3⊢
  obtain⟨⟨db3,Yd⟩,aak⟩:=id b3
  refine⟨_,rfl,_,_,_,_,_,rfl,h3.ins,T.bS,T.rX,yI _ _,_,rfl,_,_,_,_,_,rfl,Yd,T.BE,T.jT,vG w lo,_,_,rfl,rfl,d.dx,_,h3.ins,vI NH _ rfl,?_⟩
  have e4:(s2.loss:Int)+(w.nobody:Int)=((s2.loss+w.nobody:Nat):Int):=by omega
  dsimp only
  rw[e4,HJ]
  have h4:=h3.sY (s':={s2 with house:=s2.house-w.house,loss:=s2.loss+w.nobody}) rfl rfl rfl rfl rfl
  have k4:aM H p d _ d:=k3.trans (aM.upd (o:=.ins t.c.cH d.dx (NH.zip (aB d {s2 with house:=s2.house-w.house,loss:=s2.loss+w.nobody}))) (aj.gJ (d:=d)))
  have b4:=ba.keep k4 nb nl
  dsimp only at h4⊢
  generalize upd H3 p (.ins t.c.cH d.dx (NH.zip (aB d {s2 with house:=s2.house-w.house,loss:=s2.loss+w.nobody})))=H4 at h4 k4 b4⊢
  obtain⟨⟨db4,Ye⟩,Yg⟩:=id b4
  have hmem:s2.members=(s.members).set (m-1) {x with collateral:=x.collateral-w.collateral,fund:=x.fund-w.own}:=by
   rw[←Vn,mL Gr,mL hx]
   show((s.members.set (m-1) _).set (m-1) _)=_
   rw[List.set_set]
  have hl2:s2.members.length=s.members.length:=by rw[hmem,ab0]
  generalize TJ:({s2 with house:=s2.house-w.house,loss:=s2.loss+w.nobody}:State)=s4 at h4
  have q3:s4.members=s2.members:=by rw[←TJ]
  have fin:{s4 with members:=upto (zG w.others) s.members.length s2.members}=taken s m w:=by
   rw[←TJ]
   unfold taken
   rw[←Vn]
   show({s with members:=_,house:=_,loss:=_}:State)=_
   congr 1
   have es3:(setMember (setMember s m (fun y=>{y with collateral:=y.collateral-w.collateral})) m (fun y=>{y with fund:=y.fund-w.own})).members=s2.members:=by rw[Vn]
   rw[es3]
   apply abl
   intro j
   rw[qR,zP,hmem]
   by_cases ej:j=m-1
   ·have hj:j<s.members.length:=by rw[ej];exact(aao.mp ZV).1
    rw[ej]at hj⊢
    rw[abb hj,ZV]
    show some (if m-1<s.members.length then _ else _)=some (if m-1+1=m then _ else _)
    rw[D7 hj,D7 (by omega)]
    rfl
   ·rw[aa' (fun z=>ej z.symm)]
    cases e:s.members[j]? with
    |none=>rfl
    |some y=>
     show some (if j<s.members.length then _ else _)=some (if j+1=m then _ else _)
     rw[D7 (aao.mp e).1,D6 (by omega)]
     rfl
  have Vo:∀(i:Nat) y,s2.members[i]?=some y→Vbemal.nth w.others i≤y.fund:=fun i y hy=>by
   rw[hmem]at hy
   by_cases ej:i=m-1
   ·rw[ej,hz];exact aa0 _
   ·rw[aa' (fun z=>ej z.symm)]at hy
    exact hot i y hy
  refine⟨_,rfl,_,_,_,_,_,rfl,h4.ins,T.bS,T.aX,bq _ _,_,rfl,_,_,_,_,_,rfl,Ye,T.BE,T.mT,Au w lo,d.ml,lo,_,_,rfl,bD.of h4.ml,bD.of Yg,xR (J:=Tg K d.ml lo) s.members.length (fun i σ H'=>∃v4 v5,σ=[some (.ref p),some (vn m),some (.ref b),some (.ref a),v4,v5]∧aM H p d H' d∧aj t.c H' Z p d {s4 with members:=upto (zG w.others) i s2.members}) ⟨none,none,rfl,k4,?_⟩ ?_ ?_ ?_ ?_⟩
  ·rw[Fb,←q3];exact h4
  ·rintro i σ H' hi ⟨v4,v5,rfl,kp,h'⟩
   have hi2:i<(upto (zG w.others) i s2.members).length:=by rw[zF,hl2];exact hi
   obtain⟨a',Qp,ha',_⟩:=h'.addr (D3 hi2)
   exact⟨_,_,.ref a',_,bD.of h'.ml,bD.of (ba.keep kp nb nl).2,by rw[HD,ha'];rfl,GD (by omega)⟩
  ·rintro σ H' ⟨v4,v5,rfl,kp,h'⟩
   refine⟨_,_,bD.of h'.ml,bD.of (ba.keep kp nb nl).2,.inl ?_⟩
   rw[DS,h'.iC]
   show(upto (zG w.others) s.members.length s2.members).length≤_
   rw[zF,hl2];exact D9 _
  ·rintro i σ H' z dw hi ⟨v4,v5,rfl,kp,h'⟩ ⟨Tt,u,v,rfl,hT,rfl,hu1,hv1⟩
   have hi2:i<s2.members.length:=by rw[hl2];exact hi
   have hy:=D3 hi2
   have hy':({s4 with members:=upto (zG w.others) i s2.members}:State).members[i]?=some s2.members[i]:=K6 hy
   have hf:=Vo i _ hy
   generalize s2.members[i]=y at*
   obtain⟨a',Qp,ha',hb'⟩:=h'.addr hy'
   have eu:u=.ref a':=by
    have:=hu1 _ (bD.of h'.ml)
    rw[HD,ha']at this
    exact(aar this).symm
   have ev:v=vn (Vbemal.nth w.others i):=by
    have:=hv1 _ (bD.of (ba.keep kp nb nl).2)
    rw[GD (by omega)]at this
    exact(aar this).symm
   subst eu ev
   have sT:=ao.new (o:=.tup [.ref a',vn (Vbemal.nth w.others i)]) hT
   have C_:upd H' Tt (.tup [.ref a',vn (Vbemal.nth w.others i)]) Tt=some (.tup [.ref a',vn (Vbemal.nth w.others i)]):=af
   generalize upd H' Tt (.tup [.ref a',vn (Vbemal.nth w.others i)])=HT at sT C_⊢
   have Yh:=h'.mono sT
   have Ar:=sT _ _ hb'
   refine⟨Tt,_,rfl,i6.of C_,rfl,_,_,rfl,_,_,rfl,rfl,?_⟩
   refine⟨_,rfl,_,_,_,_,_,rfl,Ar,T.kT,T.cJ,dN y,_,rfl,_,_,rfl,rfl,Qp,_,Ar,vI NM _ rfl,?_⟩
   have e5:(y.fund:Int)-((Vbemal.nth w.others i:Nat):Int)=((y.fund-Vbemal.nth w.others i:Nat):Int):=by omega
   dsimp only
   rw[e5,mK]
   refine⟨_,_,rfl,(kp.trans (aM.same sT)).trans (aM.upd (aj.gv (p:=p) ha')),?_⟩
   have:=Yh.RD (dx:=Qp) (m':=zG w.others i y) ha' hy'
   rw[show({s4 with members:=upto (zG w.others) i s2.members}:State).members.set i (zG w.others i y)=upto (zG w.others) (i+1) s2.members from Fc hy]at this
   exact this
  ·rintro σ H' ⟨v4,v5,rfl,kp,h'⟩
   rw[fin]at h'
   exact k _ kp h'
end
theorem J7{n:Nat}{s:State}(c:Core n s){m:Nat}{x:Member}(hx:member? s m=some x)(hf:x.failed=false):failureOf s m=none:=by
 cases e:failureOf s m with
 |none=>rfl
 |some f=>
  obtain⟨h1,h2⟩:=gp e
  have:=(c.gx f h1).1
  rw[h2,pP hx,hf]at this
  cases this
theorem sum_bound:∀{l:List Nat} {k:Nat},(∀x∈l,x≤k)→l.sum≤k*l.length
 |[],k,_=>by simp
 |a::l,k,h=>by
  have h1:=sum_bound (l:=l) (k:=k) fun x hx=>h x (aap _ hx)
  have h2:=h a aau
  rw[aaU,aax,Nat.mul_succ]
  omega
theorem Fd{s:State}(b:My s)(CS:s.members.length≤16)(m:Nat):(funds s m).sum<2^90:=by
 have h:∀x∈funds s m,x≤1000000000000000:=fun x hx=>by
  unfold funds at hx
  obtain⟨k,hk,rfl⟩:=aaE.mp hx
  split
  ·omega
  ·cases e:member? s k with
   |none=>exact aa0 _
   |some y=>
    have:=(b.mem k y e).2.2.2
    unfold kX CENT BOOK at this
    show y.fund≤_
    omega
 have h2:=sum_bound h
 rw[mJ]at h2
 have:(1000000000000000:Nat)*s.members.length≤1000000000000000*16:=abQ _ CS
 omega
theorem J8{n:Nat}{s:State}(c:Core n s)(hn:n<400)(m:Nat):restOf s m<2^62:=by
 have h1:=BI m s.invoices
 have h2:=c.IM
 rw[dU]
 omega
theorem Oa{n:Nat}{s:State}(c:Core n s){m:Nat}{x:Member}(hx:member? s m=some x):{taken (setMember {s with invoices:=dQ m s.invoices} m fun y=>{y with failed:=true}) m (aN s m x)with failures:=s.failures++[⟨m,restOf s m,(aN s m x).collateral,(aN s m x).own,(aN s m x).house,(aN s m x).others,(aN s m x).nobody,(aN s m x).house,(aN s m x).others,(aN s m x).nobody⟩]}=dW s m x:=by
 have Gr:member? {s with invoices:=dQ m s.invoices} m=some x:=hx
 obtain⟨m0,hm⟩:=jq hx
 have ml:=(aR.mp ⟨x,hx⟩).2
 have oz:=GW s x m0 ml
 unfold taken
 rw[mL Gr]
 show({s with invoices:=_,members:=_,house:=_,loss:=_,failures:=_}:State)={s with invoices:=_,members:=_,house:=_,loss:=_,failures:=_}
 congr 1
 apply abl
 intro j
 show(((List.range (s.members.set (m-1) {x with failed:=true}).length).zip (s.members.set (m-1) {x with failed:=true})).map _)[j]?=_
 rw[zP,zP]
 by_cases ej:j=m-1
 ·have hj:j<s.members.length:=by omega
  rw[ej]at hj⊢
  rw[abb hj,hm]
  show some (if m-1+1=m then _ else _)=some (if m-1+1=m then _ else _)
  rw[D7 (by omega),D7 (by omega),oz]
  rfl
 ·rw[aa' (fun z=>ej z.symm)]
  cases e:s.members[j]? with
  |none=>rfl
  |some y=>
   show some (if j+1=m then _ else _)=some (if j+1=m then _ else _)
   rw[D6 (by omega),D6 (by omega)]
   rfl
theorem AY:∀(n:Nat) (l:List Nat),l.Nodup→(∀x∈l,x<n)→l.length≤n
 |0,[],_,_=>D9 _
 |0,a::l,_,h=>absurd (h a aau) (Nat.not_lt_zero _)
 |n+1,l,nd,h=>by
  have ih:=AY n (l.erase n) (nd.erase n) (fun x hx=>by
   have h1:=h x (List.mem_of_mem_erase hx)
   have:x≠n:=fun e=>by
    rw[e]at hx
    exact nd.not_mem_erase hx
   omega)
  by_cases m:n∈l
  ·rw[List.length_erase_of_mem m]at ih
   omega
  ·rw[List.erase_of_not_mem m]at ih
   omega
theorem Fe{n:Nat}{s:State}(c:Core n s):s.failures.length≤17:=by
 have:=AY 17 (s.failures.map (·.m)) c.mq (fun x hx=>by
  obtain⟨f,hf,rfl⟩:=aaE.mp hx
  have h1:=(c.gx f hf).1
  have CS:=c.fO
  cases e:member? s f.m with
  |none=>unfold isFailed at h1;rw[e]at h1;cases h1
  |some y=>
   have:=(aR.mp ⟨y,e⟩).2
   omega)
 rw[DS]at this
 exact this
theorem J9{l:List Member}{i:Nat}{y:Member}(h:l[i]?=some y):Vbemal.nth (l.map fun x=>if x.failed=true then 0 else x.fund) i≤y.fund:=by
 unfold Vbemal.nth
 rw[HD,h]
 show(if y.failed=true then 0 else y.fund)≤_
 split<;>omega
section
variable{P:Program}{w:World}{K:W.Frag}{mg:Str→Option Value}{base:Heap}{t:TX}
def K7(t:TX):Sp:=fun vs H Q _=>∃Z p d s n m,vs=[.ref p,vn m]∧Pre t.c H Z p d s n∧0<m∧Post t.c H Z p d (does s (.fail m)) Q
theorem Ob{s:State}{m:Nat}(h:fQ s m≠0):does s (.fail m)=.error (fQ s m):=by
 rcases pN h with⟨h1,h2⟩ |⟨x,h1,h2,h3⟩
 ·rw[h2];simp only[does,h1]
 ·rw[h3];simp only[does,h1,h2,aa3]
theorem P6(T:Txt K mg t):bE P w K mg t.b fG 6 (t.f 64) (t.fd 64) ["house","number"] (K7 t):=by
 have iR:=lV (P:=P) (w:=w) T
 have oq:=sP (P:=P) (w:=w) T
 have tH:=sj (P:=P) (w:=w) T
 have x6:=vV (P:=P) (w:=w) T
 have se:=wB (P:=P) (w:=w) T
 have bg:=bW (P:=P) (w:=w) T
 have cZ:=fY (P:=P) (w:=w) T
 have Ek:=Dh (P:=P) (w:=w) T
 have x8:=vX (P:=P) (w:=w) T
 refine T.JP.ok rN (fun vs H Q E h=>?_) (fun cdv A outer s0 H vs Q E hr h=>?_)
 ·obtain⟨Z,p,d,s,n,m,rfl,_⟩:=h
  rfl
 ·obtain⟨Z,p,d,s,n,m,rfl,pr,m0,po⟩:=h
  have hh:=pr.hh
  have hu:=yF hr
  have hI:=pr.g.sV
  have hE:=pr.g.core.qX
  have hn:=pr.hn
  refine⟨_,(ah (aE (i:=2) rN.nd rfl (Or.inl rfl) (aF bg (hr.mono (by decide)) rfl T.cu T.aS.kp (b_ T.aS) .nil aI (aa (pv 0) (aa (pv 1) ai)))) (ah (bZ (aU j_ (pv 2) (au rfl T.aH ri) (bh _)) (ay (aC (aK (aa (pv 2) ai)))) bw) (ah (bZ (PW.pt (EF (BY (ja (aF tH (hr.mono (by decide)) rfl T.tu T.gw.kp (s_ T.gw) .nil aI (aa (pv 0) (aa (pv 1) ai))))) (BW (ja (aF x6 (hr.mono (by decide)) rfl T.xH T.jg.kp (xC T.jg) .nil aI (aa (pv 0) (aa (pv 1) ai))))))) (ay (aC (aK (aa (au rfl T.CH ri) ai)))) bw) (ah (aE (i:=3) rN.nd rfl (Or.inl rfl) (aF cZ (hr.mono (by decide)) rfl T.gC T.bU.kp (gB T.bU) .nil aI (aa (pv 0) (aa (pv 1) ai)))) (ah (aP (pv 0) (aF x8 (hr.mono (by decide)) rfl T.xJ T.jh.kp (xD T.jh) .nil aI (aa (ak (pv 0) rfl) (aa (pv 1) ai))) rfl) (ah (aE (i:=4) rN.nd rfl (Or.inl rfl) (cz bL (ak (pv 0) rfl) (aW bP (pv 1) aG) (fun _ _=>rfl))) (ah (aP (pv 4) Hf rfl) (ah (t7 (i:=5) rfl rN.nd rfl rfl (yC rfl rfl rfl (by decide+kernel)) (fS (ak (pv 0) rfl)) (eO (own:=[("other",6)]) (by show t9 ["house","number","refusal","loss","member","other_fund_parts","other","burden"] (az FY) _ _=true;decide+kernel)) (fun _ _ _ _ _=>(bC (i:=6) rN.nd rfl (Or.inl rfl))) (fun _ _ _ _ _=>jz) (fun _ _ _ _ _=>(iT (ja (vD (pv 6) rfl)) aG (vD (pv 6) rfl)))) (ah (aE (i:=7) rN.nd rfl (Or.inl rfl) (aF se (hr.mono (by decide)) rfl T.yT T.jQ.kp (yP T.jQ) .nil aI (aa (pv 3) (aa (ak (pv 4) rfl) (aa (ak (pv 4) rfl) (aa (ak (pv 0) rfl) (aa (pv 5) ai))))))) (ah (eE (aF Ek (hr.mono (by decide)) rfl T.DX T.qo.kp (DO T.qo) .nil aI (aa (pv 0) (aa (pv 1) (aa (pv 7) ai))))) (ah (yE hu (ak (pv 0) rfl) (pv 1) (oQ T.E1 oq (hr.mono (by decide)) rfl T.EZ (uF T.nM) .nil aI (aa (pv 3) (aa (pv 7) (aa (ak (pv 7) rfl) (aa (ak (pv 7) rfl) (aa (ak (pv 7) rfl) ai)))))) rfl) (ay (aC (aW l7 (aK (aa (au rfl T.aH ri) (aa (pv 3) ai))) (m_ (pv 7) T.BE T.lP iR (hr.mono (by decide)) (mw T.iN) .nil aI))))))))))))))),?_⟩
  refine⟨_,rfl,_,rfl,Z,p,d,s,m,rfl,hh,m0,_,rfl,rfl,_,rfl,?_⟩
  by_cases h0:fQ s m=0
  ·refine tF (by rw[h0]) ?_
   obtain⟨x,hx,hf⟩:=iz h0
   have ml:=(aR.mp ⟨x,hx⟩).2
   have hno:hasOverdue s m=false∨allBilled s m=false→does s (.fail m)=.error (-11):=fun z=>by simp only[does,hx,hf,aaC,aa4,D7 z]
   refine⟨_,rfl,_,rfl,Z,p,d,s,m,rfl,hh,by omega,fun H1 s1=>?_⟩
   refine⟨_,rfl,?_⟩
   cases ho:hasOverdue s m with
   |false=>
    refine⟨lz rfl,fun l hl=>?_⟩
    exact bB po (hno (.inl ho)) hh (by decide) (s1.trans (ao.new hl)) (ao.free s1 hl) af
   |true=>
   refine⟨_,rfl,_,rfl,Z,p,d,s,m,rfl,hh.mono s1,by omega,fun H2 s2=>⟨_,rfl,?_⟩⟩
   cases ha:allBilled s m with
   |false=>
    refine⟨lz rfl,fun l hl=>?_⟩
    exact bB po (hno (.inr ha)) hh (by decide) ((s1.trans s2).trans (ao.new hl)) (ao.free (s1.trans s2) hl) af
   |true=>
   have hdo:does s (.fail m)=.ok (dW s m x,[nat (restOf s m),nat (aN s m x).collateral,nat (aN s m x).own,nat (aN s m x).house,nat (aN s m x).nobody]++(aN s m x).others.map nat):=by
    have z:¬(hasOverdue s m=false∨allBilled s m=false):=by rw[ho,ha];simp
    simp only[does,hx,hf,aaC,aa4,D6 z]
    exact zO (MD pr.g (acC hn) hx hf ho)
   have k2:aM H p d H2 d:=aM.same (s1.trans s2)
   have Ds:=(hh.mono s1).mono s2
   clear s1 s2 hno
   refine⟨_,rfl,_,rfl,Z,p,d,s,m,rfl,Ds,pr.wf,m0,ml,fun H3 s3=>?_⟩
   have Oo:=Ds.mono s3
   have k3:=k2.trans (aM.same s3)
   refine⟨_,rfl,_,_,_,_,_,rfl,Oo.ins,T.bS,T.bK,cA d s,_,rfl,Z,p,d,s,m,rfl,Oo,by omega,fun H4 L is' s4 hL hL' hlen pt=>?_⟩
   refine⟨_,rfl,p,_,d.dx,_,rfl,(Oo.mono s4).ins,T.bS,T.bK,vI NH _ rfl,?_⟩
   rw[yJ]
   obtain⟨h5,ZW⟩:=Oo.Qz s4 hL (l':=dQ m s.invoices) hL' (by unfold dQ;rw[DS];exact hlen) pt
   have k5:=k3.trans ZW
   generalize upd H4 p (.ins t.c.cH d.dx (NH.zip (aB {d with il:=L} s)))=H5 at h5 k5⊢
   generalize ed1:({d with il:=L,is:=is'}:AD)=d1 at h5 k5
   have ems:d1.ms=d.ms:=by rw[←ed1]
   clear ZW pt hL' hlen s4 hL Oo k3 s3 Ds k2
   have Gr:member? {s with invoices:=dQ m s.invoices} m=some x:=hx
   obtain⟨_,a,da,ha1,_,hb⟩:=h5.one Gr
   refine⟨_,rfl,_,_,_,_,_,rfl,h5.ins,T.bS,T.aX,bq _ _,_,rfl,_,_,rfl,rfl,d1.ml,_,_,_,rfl,rfl,bD.of h5.ml,K0 m0 ha1,?_⟩
   refine⟨_,rfl,a,_,da,_,rfl,hb,T.kT,T.iu,vI NM _ rfl,?_⟩
   rw[LU]
   have h6:=h5.CZ (dx:=da) (g:=fun y=>{y with failed:=true}) Gr ha1
   have k6:=k5.trans (aM.upd (o:=.ins t.c.cM da (NM.zip (dB {x with failed:=true}))) (aj.gv (p:=p) ha1))
   have ZX:upd H5 a (.ins t.c.cM da (NM.zip (dB {x with failed:=true}))) a=some (.ins t.c.cM da (NM.zip (dB {x with failed:=true}))):=af
   generalize upd H5 a (.ins t.c.cM da (NM.zip (dB {x with failed:=true})))=H6 at h6 k6 ZX⊢
   have Vk:member? (setMember {s with invoices:=dQ m s.invoices} m fun y=>{y with failed:=true}) m=some {x with failed:=true}:=gn Gr
   have Wn:(setMember {s with invoices:=dQ m s.invoices} m fun y=>{y with failed:=true}).members=rq m s.members:=rfl
   have eF:=Oa pr.g.core hx
   have ho6:(setMember {s with invoices:=dQ m s.invoices} m fun y=>{y with failed:=true}).house=s.house:=rfl
   have ZY:(setMember {s with invoices:=dQ m s.invoices} m fun y=>{y with failed:=true}).failures=s.failures:=rfl
   generalize setMember {s with invoices:=dQ m s.invoices} m (fun y=>{y with failed:=true})=s6 at h6 Vk Wn eF ho6 ZY
   have l6:s6.members.length=s.members.length:=by rw[Wn];unfold rq;rw[qT]
   have CS:=pr.wf.fO
   refine⟨_,rfl,_,_,_,_,_,rfl,h6.ins,T.bS,T.aX,bq _ _,d1.ml,rfl,⟨_,bD.of h6.ml⟩,fun D hD=>k_ (K:=K) (a:=d1.ml) (xs:=d1.ms.map V.ref) (fun i dw=>dw D=some (.lst (cS ((s6.members.take i).map fun x=>if x.failed=true then 0 else x.fund)))∧ao H6 dw) ⟨af,ao.new hD⟩ (fun i dw _ ⟨_,sm⟩=>bD.of (sm _ _ h6.ml)) ?_ ?_⟩
   ·rintro i y dw hi ⟨j0,sm⟩
    obtain⟨c,hc,rfl⟩:=get_map hi
    obtain⟨y,dy,hy,hyb⟩:=h6.JW hc
    have hy':=sm _ _ hyb
    have hi6:=(aao.mp hy).1
    refine⟨rfl,_,rfl,_,_,_,_,_,rfl,hy',T.kT,T.iu,mU y,_,rfl,?_⟩
    have ln:(cS ((s6.members.take i).map fun x=>if x.failed=true then 0 else x.fund)).length<sizeLine:=by
     rw[DS,DS,aaH];exact bV (by omega)
    have st:∀v:Nat,v=(if y.failed=true then 0 else y.fund)→upd dw D (.lst (cS ((s6.members.take i).map fun x=>if x.failed=true then 0 else x.fund)++[vn v])) D=some (.lst (cS ((s6.members.take (i+1)).map fun x=>if x.failed=true then 0 else x.fund))):=by
     rintro v rfl
     rw[af,aa6 hy,aaz,←J2]
     rfl
    refine NW (fun e=>?_) (fun e=>?_)
    ·exact⟨_,j0,ln,st 0 (by rw[e];rfl),ao.put sm hD⟩
    ·exact⟨_,rfl,_,_,_,_,_,rfl,hy',T.kT,T.cJ,dN y,_,j0,ln,st y.fund (by rw[e];rfl),ao.put sm hD⟩
   ·rintro H7 ⟨ZZ,s7⟩
    rw[DS,h6.iC,aaM,Wn,GV s m0]at ZZ
    have h7:=h6.mono s7
    have k7:=k6.trans (aM.same s7)
    have Z0:=s7 _ _ ZX
    refine⟨_,rfl,_,rfl,_,_,_,_,_,rfl,Z0,T.kT,T.bX,dM _,_,rfl,_,_,_,_,_,rfl,Z0,T.kT,T.cJ,dN _,_,rfl,_,_,_,_,_,rfl,h7.ins,T.bS,T.dP,gq _ _,_,rfl,restOf s m,x.collateral,x.fund,s6.house,funds s m,D,rfl,bD.of ZZ,by rw[mJ];exact CS,J8 pr.g.core hn m,Fd pr.g.bnd CS m,h7.tb,fun H8 b lo s8 hb8 Yi Z1=>?_⟩
    rw[ho6]at Z1
    have Vp:sF t.c H8 b lo (aN s m x):=Z1
    have h8:=h7.NZ s8
    have k8:=k7.trans s8.keep
    obtain⟨nb,nbz⟩:=h7.h_ hb8
    obtain⟨nl,Z2⟩:=h7.h_ Yi
    refine⟨_,rfl,_,rfl,_,rfl,Z,p,d1,s6,m,{x with failed:=true},b,lo,aN s m x,rfl,h8,Vk,Vp,nb,nl,by rw[iS,l6],abT _ _,abT _ _,by rw[ho6];exact abT _ _,fun i y hy=>?_,GW s x m0 ml,fun H9 Z3 h9=>?_⟩
    ·refine aaD (EA s m x i) ?_
     rw[←GV s m0]
     rw[Wn]at hy
     exact J9 hy
    have bu9:=Vp.keep Z3 nb nl
    have k9:=k8.trans Z3
    obtain⟨⟨db,TH⟩,hlo⟩:=id bu9
    refine⟨_,rfl,_,rfl,_,rfl,_,_,_,_,_,rfl,TH,T.BE,T.jT,vG (aN s m x) lo,_,rfl,_,_,_,_,_,rfl,TH,T.BE,T.mT,Au (aN s m x) lo,_,rfl,_,_,_,_,_,rfl,TH,T.BE,T.lS,zh (aN s m x) lo,?_⟩
    intro y dy hy PL ne
    refine⟨y,dy,_,_,_,_,_,rfl,af,rfl,?_⟩
    rw[bH]
    have Td:ao H9 (zK H9 dy y t.c.cF (NF.zip [vn (restOf s m),.ref b,vn (aN s m x).nobody,.ref lo,vn (aN s m x).house])):=ao.mk hy PL
    have Vq:zK H9 dy y t.c.cF (NF.zip [vn (restOf s m),.ref b,vn (aN s m x).nobody,.ref lo,vn (aN s m x).house]) y=some (.ins t.c.cF dy (NF.zip [vn (restOf s m),.ref b,vn (aN s m x).nobody,.ref lo,vn (aN s m x).house])):=pU
    have Tw:Im Z p d1 y:=h9.uf hy
    change DA _ (j7 0) "failures" _ (zK H9 dy y t.c.cF (NF.zip [vn (restOf s m),.ref b,vn (aN s m x).nobody,.ref lo,vn (aN s m x).house])) _
    generalize zK H9 dy y t.c.cF (NF.zip [vn (restOf s m),.ref b,vn (aN s m x).nobody,.ref lo,vn (aN s m x).house])=Wb at Td Vq⊢
    have Wo:=h9.mono Td
    have Yj:=k9.trans (aM.same Td)
    have ef:(taken s6 m (aN s m x)).failures=s.failures:=ZY
    refine⟨_,rfl,_,_,_,_,_,rfl,Wo.ins,T.bS,T.gR,lK _ _,_,rfl,d1.fd,_,rfl,B9.k (k:=Sum.inl (m:Int)) Wo.fd ?_,?_⟩
    ·rw[Cj _ _ Wo.pT,ef]
     exact bV (by have:=Fe pr.g.core;omega)
    have Sf:sF t.c Wb b lo (aN s m x):=⟨⟨db,Td _ _ TH⟩,Td _ _ hlo⟩
    have h11:=Wo.Xk (a:=y) (f:=⟨m,restOf s m,(aN s m x).collateral,(aN s m x).own,(aN s m x).house,(aN s m x).others,(aN s m x).nobody,(aN s m x).house,(aN s m x).others,(aN s m x).nobody⟩) (by
     show(taken s6 m (aN s m x)).failures.find? _=none
     rw[ef]
     exact J7 pr.g.core hx hf) ⟨dy,b,lo,lo,Vq,Sf,Sf.2,Tw,⟨nb,nbz⟩,⟨nl,Z2⟩,⟨nl,Z2⟩⟩
    rw[ef]at h11⊢
    have Vr:=Yj.trans ((aM.upd (d:=d1) (o:=.dK (putK (bT s.failures d1.fs) (.inl (m:Int)) (.ref y))) (aj.xm (p:=p) (d:=d1))).N1 (d2:={d1 with fs:=d1.fs++[y]}) rfl)
    have P7:sF t.c (upd Wb d1.fd (.dK (putK (bT s.failures d1.fs) (.inl (m:Int)) (.ref y)))) b lo (aN s m x):=Sf.keep (aM.upd (d:=d1) (aj.xm (p:=p) (d:=d1))) nb nl
    dsimp only at h11
    generalize upd Wb d1.fd (.dK (putK (bT s.failures d1.fs) (.inl (m:Int)) (.ref y)))=Z4 at h11 Vr P7⊢
    rw[eF]at h11
    refine⟨_,rfl,lz rfl,fun l1 hl1=>?_⟩
    have s12:=ao.new (o:=.lst [.int 0,vn (restOf s m)]) hl1
    have Vs:upd Z4 l1 (.lst [.int 0,vn (restOf s m)]) l1=some (.lst [.int 0,vn (restOf s m)]):=af
    generalize upd Z4 l1 (.lst [.int 0,vn (restOf s m)])=H12 at s12 Vs⊢
    have Vt:sF t.c H12 b lo (aN s m x):=⟨⟨P7.1.choose,s12 _ _ P7.1.choose_spec⟩,s12 _ _ P7.2⟩
    have ol:(aN s m x).others.length≤16:=by rw[iS];exact CS
    refine⟨_,rfl,b,_,_,rfl,Vt.1.choose_spec,fT wH,b,lo,_,rfl,Vt,ol,fun H13 l2 Om hl2 PY=>?_⟩
    refine⟨l1,l2,_,_,rfl,rfl,Om _ _ Vs,PY,?_,fun l hl=>?_⟩
    ·unfold J1
     rw[DS,aat,DS]
     exact fH (by simp;omega)
    have Z5:=(s12.trans Om).trans (ao.new (o:=.lst ([.int 0,vn (restOf s m)]++aO (J1 (aN s m x)))) hl)
    refine c_ po hdo hh (Vr.trans (aM.same Z5)) (h11.mono Z5) ((Vr.trans (aM.same (s12.trans Om))).free hl) ?_
    rw[af]
    rfl
  ·refine tE (fun z=>h0 (bG z)) ⟨_,rfl,lz rfl,fun l hl=>?_⟩
   exact bB po (Ob h0) hh h0 (ao.new hl) hl af
end
theorem Iu:("not_back_in_all":Str)∉NF:=by decide+kernel
theorem AB:("with_recovery":Str)∉NF:=by decide+kernel
theorem Sg{l:List Failure}{f:Failure}(h:f∈l):f.nobodyLeft≤(l.map (·.nobodyLeft)).sum:=by
 induction l with
 |nil=>cases h
 |cons a l ih=>
  rw[aaJ,aaU]
  rcases aas.mp h with rfl |h
  ·omega
  ·have:=ih h;omega
section
variable{P:Program}{w:World}{K:W.Frag}{mg:Str→Option Value}{base:Heap}{t:TX}
def Di(t:TX):Sp:=fun vs H Q _=>∃Z p d s n m c,vs=[.ref p,vn m,vn c]∧Pre t.c H Z p d s n∧0<m∧c<2^62∧(∀f∈s.failures,f.othersLeft.sum<2^90)∧Post t.c H Z p d (does s (.recover m c)) Q
theorem J_(T:Txt K mg t):bE P w K mg t.b fG 5 (t.f 65) (t.fd 65) ["house","number","cents"] (Di t):=by
 have oH:=om (P:=P) (w:=w) T
 have qS:=qy (P:=P) (w:=w) T
 have bA:=cO (P:=P) (w:=w) T
 have jk:=mF (P:=P) (w:=w) T
 have br:=bY (P:=P) (w:=w) T
 refine T.Ag.ok fW (fun vs H Q E h=>?_) (fun cdv A outer s0 H vs Q E hr h=>?_)
 ·obtain⟨Z,p,d,s,n,m,c,rfl,_⟩:=h
  rfl
 ·obtain⟨Z,p,d,s,n,m,c,rfl,pr,m0,hc,hsum,po⟩:=h
  have hh:=pr.hh
  have hu:=yF hr
  have CS:=pr.wf.fO
  refine⟨_,(ah (aE (i:=3) fW.nd rfl (Or.inl rfl) (aF bA (hr.mono (by decide)) rfl T.dm T.bf.kp (di T.bf) .nil aI (aa (pv 0) (aa (pv 1) ai)))) (ah (bZ (aU j_ (pv 3) (au rfl T.aH ri) (bh _)) (ay (aC (aK (aa (pv 3) ai)))) bw) (ah (aE (i:=4) fW.nd rfl (Or.inl rfl) (Hz hu (ak (pv 0) rfl) (pv 1) ⟨rfl,rfl,rfl,rfl⟩)) (ah (bZ (PW.pt (EF (BV (MQ (pv 4))) (BW (aU tV (m_ (pv 4) T.CF T.nW oH (hr.mono (by decide)) (oG T.iA) .nil aI) (pv 2) (bh _))))) (ay (aC (aK (aa (au rfl T.pJ ri) ai)))) bw) (ah (aE (i:=5) fW.nd rfl (Or.inl rfl) (aQ (kj rfl) rfl T.CK xr (aa (pv 2) (aa (ak (pv 4) rfl) ai)))) (ah (aE (i:=6) fW.nd rfl (Or.inl rfl) (aQ (kj rfl) rfl T.CK xr (aa (aW bP (pv 2) (pv 5)) (aa (aQ (wZ rfl) rfl T.CL xq (aa (ak (pv 4) rfl) ai)) ai)))) (ah (aE (i:=7) fW.nd rfl (Or.inl rfl) (aW bP (aW bP (pv 2) (pv 5)) (pv 6))) (ah (aE (i:=8) fW.nd rfl (Or.inl rfl) (aF jk (hr.mono (by decide)) rfl T.nU T.eX.kp (nG T.eX) .nil aI (aa (pv 6) (aa (ak (pv 4) rfl) ai)))) (ah (bN (pv 0) (pv 2) lZ) (ah (bN (pv 0) (pv 5) m9) (ah (bN (pv 0) (pv 7) lZ) (ah (lY abd rfl (FL rfl T.Ih (aa (ak (pv 0) rfl) (aa (pv 8) ai))) (tT (n:=2) rfl (b9 (bC (i:=9) fW.nd rfl (Or.inl rfl)) (b9 (bC (i:=10) fW.nd rfl (Or.inl rfl)) jw))) (ay (bN (pv 9) (pv 10) lZ))) (ah (yE hu (ak (pv 0) rfl) (pv 1) (jy (pv 4) T.CF T.qu qS (hr.mono (by decide)) (qH T.jr) .nil aI (aa (pv 5) (aa (pv 8) (aa (pv 7) ai)))) rfl) (ay (aC (aF br (hr.mono (by decide)) rfl T.cG T.aT.kp (cE T.aT) .nil aI (aa (pv 0) (aa (aW l7 (aK (aa (au rfl T.aH ri) (aa (pv 5) (aa (pv 6) (aa (pv 7) ai))))) (pv 8)) ai)))))))))))))))))),?_⟩
  refine⟨_,rfl,_,rfl,Z,p,d,s,m,rfl,hh,_,rfl,rfl,_,rfl,?_⟩
  by_cases h0:nZ s m=0
  ·refine tF (by rw[h0]) ?_
   obtain⟨x,hx⟩:=C8 m0 h0
   refine⟨_,rfl,_,_,_,_,_,rfl,hh.ins,T.bS,T.gR,lK d s,d.fd,rfl,.inl ⟨_,.inl hh.fd⟩,_,rfl,_,oF.k (k:=Sum.inl (m:Int)) hh.fd,?_⟩
   rcases hh.failure m with⟨f,a,hf,e,fa⟩ |⟨hf,e⟩
   ·rw[e]
    obtain⟨da,b,lo,la,e1,bu,e4,ia,ib,ilo,ila⟩:=id fa
    have hfm:=gp hf
    refine⟨_,rfl,_,rfl,tD (by intro z;cases z) ⟨_,rfl,a,da,_,rfl,e1,fT Iu,a,da,f,b,la,rfl,e1,e4,_,rfl,_,_,rfl,rfl,_,rfl,?_⟩⟩
    by_cases h1:f.nobodyLeft+f.othersLeft.sum+f.houseLeft<c
    ·refine uR (by omega) ⟨lz rfl,fun l hl=>?_⟩
     exact bB po (e:=-12) (by simp only[does,hx,hf,D7 h1]) hh (by decide) (ao.new hl) hl af
    ·refine tD (by omega) ?_
     have hdo:does s (.recover m c)=booked (gY s f c) ([nat (cN f c),nat (jv f c),nat (gy f c)]++(dR f c).map nat):=by
      simp only[does,hx,hf,D6 h1]
      rfl
     have ol:f.othersLeft.length≤s.members.length:=(pr.g.core.gx f hfm.1).2
     refine⟨_,rfl,_,rfl,_,_,_,_,_,rfl,e1,T.CF,T.eZ,vH f b la,_,_,rfl,?_⟩
     rw[xT]
     have eA:min c f.nobodyLeft=cN f c:=rfl
     rw[eA]
     have lA:cN f c≤c:=Nat.min_le_left _ _
     have lA2:cN f c≤f.nobodyLeft:=abT _ _
     refine⟨_,rfl,_,rfl,_,_,rfl,rfl,_,rfl,_,_,_,_,_,rfl,e1,T.CF,T.dI,qN f b la,la,f.othersLeft.map fun(n:Nat)=>(n:Int),rfl,by rw[←uW];exact bD.of e4,_,_,rfl,?_⟩
     have eS:(c:Int)-((cN f c:Nat):Int)=((c-cN f c:Nat):Int):=by omega
     rw[sum_ints,eS,xT]
     have eB:min (c-cN f c) f.othersLeft.sum=jv f c:=rfl
     rw[eB]
     have lB:jv f c≤c-cN f c:=Nat.min_le_left _ _
     have lB2:jv f c≤f.othersLeft.sum:=abT _ _
     refine⟨_,rfl,_,rfl,_,_,rfl,rfl,_,rfl,_,_,rfl,rfl,?_⟩
     have eD:(c:Int)-((cN f c:Nat):Int)-((jv f c:Nat):Int)=((gy f c:Nat):Int):=by unfold gy;omega
     dsimp only
     rw[eD]
     have lD:gy f c≤f.houseLeft:=by
      have hA:cN f c=min c f.nobodyLeft:=rfl
      have hB:jv f c=min (c-cN f c) f.othersLeft.sum:=rfl
      unfold gy
      omega
     refine⟨_,rfl,_,rfl,_,_,_,_,_,rfl,e1,T.CF,T.dI,qN f b la,jv f c,f.othersLeft,la,rfl,bD.of e4,by omega,by omega,hsum f hfm.1,hh.tb,fun H1 sh s1 hsh Yk=>?_⟩
     have Yl:H1 sh=some (.lst (cS (dR f c))):=Yk
     have UG:=hh.NZ s1
     have k1:aM H p d H1 d:=s1.keep
     obtain⟨nsh,_⟩:=hh.h_ hsh
     have Vu:(dR f c).length=f.othersLeft.length:=fk _ _
     refine⟨_,rfl,_,_,_,_,_,rfl,UG.ins,T.bS,T.gE,jB d s,_,rfl,_,_,rfl,rfl,d.dx,_,UG.ins,vI NH _ rfl,?_⟩
     dsimp only
     rw[ng]
     have h2:=UG.sY (s':={s with cash:=s.cash+(c:Int)}) rfl rfl rfl rfl rfl
     have k2:aM H1 p d _ d:=aM.upd (d:=d) (o:=.ins t.c.cH d.dx (NH.zip (aB d {s with cash:=s.cash+(c:Int)}))) (aj.gJ (d:=d))
     generalize upd H1 p (.ins t.c.cH d.dx (NH.zip (aB d {s with cash:=s.cash+(c:Int)})))=H2 at h2 k2⊢
     refine⟨_,rfl,_,_,_,_,_,rfl,h2.ins,T.bS,T.rX,yI _ _,_,rfl,_,_,rfl,rfl,d.dx,_,h2.ins,vI NH _ rfl,?_⟩
     have lL:cN f c≤s.loss:=by
      have q1:=Sg hfm.1
      have q2:=pr.g.core.IL
      omega
     have e5:(s.loss:Int)-((cN f c:Nat):Int)=((s.loss-cN f c:Nat):Int):=by omega
     dsimp only
     rw[e5,HJ]
     have h3:=h2.sY (s':={s with cash:=s.cash+(c:Int),loss:=s.loss-cN f c}) rfl rfl rfl rfl rfl
     have k3:=k2.trans (aM.upd (d:=d) (o:=.ins t.c.cH d.dx (NH.zip (aB d {s with cash:=s.cash+(c:Int),loss:=s.loss-cN f c}))) (aj.gJ (d:=d)))
     dsimp only at h3⊢
     generalize upd H2 p (.ins t.c.cH d.dx (NH.zip (aB d {s with cash:=s.cash+(c:Int),loss:=s.loss-cN f c})))=H3 at h3 k3⊢
     refine⟨_,rfl,_,_,_,_,_,rfl,h3.ins,T.bS,T.dP,gq _ _,_,rfl,_,_,rfl,rfl,d.dx,_,h3.ins,vI NH _ rfl,?_⟩
     have e6:(s.house:Int)+((gy f c:Nat):Int)=((s.house+gy f c:Nat):Int):=by omega
     dsimp only
     rw[e6,nh]
     have h4:=h3.sY (s':={s with cash:=s.cash+(c:Int),loss:=s.loss-cN f c,house:=s.house+gy f c}) rfl rfl rfl rfl rfl
     have k4:=k3.trans (aM.upd (d:=d) (o:=.ins t.c.cH d.dx (NH.zip (aB d {s with cash:=s.cash+(c:Int),loss:=s.loss-cN f c,house:=s.house+gy f c}))) (aj.gJ (d:=d)))
     dsimp only at h4⊢
     generalize upd H3 p (.ins t.c.cH d.dx (NH.zip (aB d {s with cash:=s.cash+(c:Int),loss:=s.loss-cN f c,house:=s.house+gy f c})))=H4 at h4 k4⊢
     generalize TJ:({s with cash:=s.cash+(c:Int),loss:=s.loss-cN f c,house:=s.house+gy f c}:State)=s4 at h4
     have Z6:s4.members=s.members:=by rw[←TJ]
     have ef4:s4.failures=s.failures:=by rw[←TJ]
     have Vv:∀{H':Hp},aM H1 p d H' d→H' sh=some (.lst (cS (dR f c))):=fun k=>k.keep _ _ Yl rfl nsh
     have Wq:aM H1 p d H4 d:=k4
     refine⟨_,rfl,_,_,_,_,_,rfl,h4.ins,T.bS,T.aX,bq _ _,_,rfl,d.ml,sh,_,_,rfl,bD.of h4.ml,bD.of (Vv Wq),xR (J:=Tg K d.ml sh) (dR f c).length (fun i σ H'=>∃v9 v10,σ=[some (.ref p),some (vn m),some (vn c),some (.int (nZ s m)),some (.ref a),some (vn (cN f c)),some (vn (jv f c)),some (vn (gy f c)),some (.ref sh),v9,v10]∧aM H1 p d H' d∧aj t.c H' Z p d {s4 with members:=upto (AX (dR f c)) i s4.members}) ⟨none,none,rfl,Wq,?_⟩ ?_ ?_ ?_ ?_⟩
     ·rw[Fb];exact h4
     ·rintro i σ H' hi ⟨v4,v5,rfl,kp,h'⟩
      have hi2:i<(upto (AX (dR f c)) i s4.members).length:=by rw[zF,Z6];omega
      obtain⟨a',Qp,ha',_⟩:=h'.addr (D3 hi2)
      exact⟨_,_,.ref a',_,bD.of h'.ml,bD.of (Vv kp),by rw[HD,ha'];rfl,GD hi⟩
     ·rintro σ H' ⟨v4,v5,rfl,kp,h'⟩
      refine⟨_,_,bD.of h'.ml,bD.of (Vv kp),.inr ?_⟩
      rw[DS];exact D9 _
     ·rintro i σ H' z dw hi ⟨v4,v5,rfl,kp,h'⟩ ⟨Tt,u,v,rfl,hT,rfl,hu1,hv1⟩
      have hi2:i<s4.members.length:=by rw[Z6];omega
      have hy:=D3 hi2
      have hy':({s4 with members:=upto (AX (dR f c)) i s4.members}:State).members[i]?=some s4.members[i]:=K6 hy
      generalize s4.members[i]=y at*
      obtain⟨a',Qp,ha',hb'⟩:=h'.addr hy'
      have eu:u=.ref a':=by
       have:=hu1 _ (bD.of h'.ml)
       rw[HD,ha']at this
       exact(aar this).symm
      have ev:v=vn (Vbemal.nth (dR f c) i):=by
       have:=hv1 _ (bD.of (Vv kp))
       rw[GD hi]at this
       exact(aar this).symm
      subst eu ev
      have sT:=ao.new (o:=.tup [.ref a',vn (Vbemal.nth (dR f c) i)]) hT
      have C_:upd H' Tt (.tup [.ref a',vn (Vbemal.nth (dR f c) i)]) Tt=some (.tup [.ref a',vn (Vbemal.nth (dR f c) i)]):=af
      generalize upd H' Tt (.tup [.ref a',vn (Vbemal.nth (dR f c) i)])=HT at sT C_⊢
      have Yh:=h'.mono sT
      have Ar:=sT _ _ hb'
      refine⟨Tt,_,rfl,i6.of C_,rfl,_,_,rfl,_,_,rfl,rfl,?_⟩
      refine⟨_,rfl,_,_,_,_,_,rfl,Ar,T.kT,T.cJ,dN y,_,rfl,_,_,rfl,rfl,Qp,_,Ar,vI NM _ rfl,?_⟩
      have e5:(y.fund:Int)+((Vbemal.nth (dR f c) i:Nat):Int)=((y.fund+Vbemal.nth (dR f c) i:Nat):Int):=by omega
      dsimp only
      rw[e5,mK]
      refine⟨_,_,rfl,(kp.trans (aM.same sT)).trans (aM.upd (aj.gv (p:=p) ha')),?_⟩
      have:=Yh.RD (dx:=Qp) (m':=AX (dR f c) i y) ha' hy'
      rw[show({s4 with members:=upto (AX (dR f c)) i s4.members}:State).members.set i (AX (dR f c) i y)=upto (AX (dR f c)) (i+1) s4.members from Fc hy]at this
      exact this
     ·rintro σ H5 ⟨v9,v10,rfl,kp,h5⟩
      rw[N_ (fun j y hj hy=>by
       show({y with fund:=y.fund+Vbemal.nth (dR f c) j}:Member)=y
       rw[Ft hj]
       rfl)]at h5
      have k5:aM H p d H5 d:=k1.trans kp
      have a5:=k5.keep _ _ e1 rfl ia.1
      have la5:=k5.keep _ _ e4 rfl ila.1
      have Z7:=Vv kp
      have Ym:=bu.keep k5 ib.1 ilo.1
      generalize Z8:({s4 with members:=((List.range s4.members.length).zip s4.members).map fun y=>AX (dR f c) y.1 y.2}:State)=s5 at h5
      have Yn:s5.failures=s.failures:=by rw[←Z8];exact ef4
      refine⟨_,rfl,a,da,_,rfl,a5,fT AB,_,rfl,_,rfl,_,rfl,a,da,f,b,la,cN f c,sh,dR f c,gy f c,rfl,a5,la5,Z7,Vu,by omega,fun i=>split_le lB2 i,lA2,lD,fun H6 a6 da6 la6 s6 ha6 Yo Yp Vw=>?_⟩
      have h6:=h5.mono s6
      have k6:=k5.trans (aM.same s6)
      have bu6:sF t.c H6 b lo ⟨f.collateral,f.own,f.house,f.others,f.nobody⟩:=⟨⟨Ym.1.choose,s6 _ _ Ym.1.choose_spec⟩,s6 _ _ Ym.2⟩
      refine⟨_,rfl,_,_,_,_,_,rfl,h6.ins,T.bS,T.gR,lK _ _,_,rfl,d.fd,_,rfl,B9.k (k:=Sum.inl (m:Int)) h6.fd ?_,?_⟩
      ·rw[Cj _ _ h6.pT,Yn]
       exact bV (by have:=Fe pr.g.core;omega)
      have em:f.m=m:=hfm.2
      have h7:=h6.Xl (a:=a6) (f:=f) (g:=yk f c) (by
       show s5.failures.find? _=some f
       rw[Yn,em]
       exact hf) rfl ⟨da6,b,lo,la6,Yp,bu6,Vw,h5.uf ha6,ib,ilo,h5.uf Yo⟩
      rw[em]at h7
      have k7:=k6.trans ((aM.upd (d:=d) (o:=.dK (putK (bT s5.failures d.fs) (.inl (m:Int)) (.ref a6))) (aj.xm (p:=p) (d:=d))).N1 (d2:={d with fs:=AO s5.failures d.fs m a6}) rfl)
      have Z9:upd H6 d.fd (.dK (putK (bT s5.failures d.fs) (.inl (m:Int)) (.ref a6))) sh=some (.lst (cS (dR f c))):=by
       rw[aq (fun z=>nsh (by rw[z];exact aj.xm))]
       exact s6 _ _ Z7
      generalize upd H6 d.fd (.dK (putK (bT s5.failures d.fs) (.inl (m:Int)) (.ref a6)))=H7 at h7 k7 Z9⊢
      have eF:({s5 with failures:=s5.failures.map fun x=>if x.m=m then yk f c else x}:State)=gY s f c:=by
       rw[Yn,←Z8,←TJ]
       unfold gY
       rw[em]
       rfl
      rw[eF]at h7
      refine⟨_,rfl,_,rfl,_,rfl,_,rfl,lz rfl,fun l1 hl1=>?_⟩
      have s8:=ao.new (o:=.lst [.int 0,vn (cN f c),vn (jv f c),vn (gy f c)]) hl1
      have l8:upd H7 l1 (.lst [.int 0,vn (cN f c),vn (jv f c),vn (gy f c)]) l1=some (.lst [.int 0,vn (cN f c),vn (jv f c),vn (gy f c)]):=af
      generalize upd H7 l1 (.lst [.int 0,vn (cN f c),vn (jv f c),vn (gy f c)])=H8 at s8 l8⊢
      refine⟨_,rfl,l1,sh,_,_,rfl,rfl,l8,s8 _ _ Z9,?_,fun l hl=>?_⟩
      ·rw[DS,Vu];exact fH (by simp;omega)
      have s9:=s8.trans (ao.new (o:=.lst ([.int 0,vn (cN f c),vn (jv f c),vn (gy f c)]++cS (dR f c))) hl)
      have el:upd H8 l (.lst ([.int 0,vn (cN f c),vn (jv f c),vn (gy f c)]++cS (dR f c))) l=some (.lst (aO (0::([nat (cN f c),nat (jv f c),nat (gy f c)]++(dR f c).map nat)))):=by
       rw[af,JZ]
       exact congrArg (fun q=>some (HO.lst q)) (jV [0,nat (cN f c),nat (jv f c),nat (gy f c)] _)
      have c9:=Ex pr.g.core hfm.1 c
      exact⟨Z,p,_,_,l,_,rfl,h7.mono s9,⟨c9.qW,c9.fO⟩,el,lW po hdo hh (k7.trans (aM.same s9)) (h7.mono s9) ((k7.trans (aM.same s8)).free hl) el⟩
   ·rw[e]
    refine⟨_,rfl,_,rfl,uR rfl ⟨lz rfl,fun l hl=>?_⟩⟩
    exact bB po (e:=-12) (by simp only[does,hx,hf]) hh (by decide) (ao.new hl) hl af
  ·obtain⟨e1,e2⟩:=zy m0 h0
   refine tE (fun z=>h0 (bG z)) ⟨_,rfl,lz rfl,fun l hl=>?_⟩
   exact bB po (e:=nZ s m) (by rw[e2];simp only[does,e1]) hh h0 (ao.new hl) hl af
end
end MA
section
namespace L2
open PySem PySem.Spec PyProof.Rows
theorem PE.weak{X:Cx}{e:Expr}{t t':TE}(h:PE X e t)(k:∀σ H Q,t' σ H Q→t σ H Q):PE X e t':=fun pins s σ H Q I q=>h pins s σ H Q I (k σ H Q q)
def J'(f:Addr)(us:List Addr):TE:=fun σ H Q=>∀H' c R,(∀b o,H b=some o→H' b=some o)→H' c=some (.tup [.ref f,.ref R])→H' R=some (.tup (us.map V.ref))→Q (.ref c) H'
def Oc:List Addr→TA
 |[]=>vM
 |u::r=>jx (tC (.ref u)) (Oc r)
theorem K8{σ:St}{H:Hp}:∀{us:List Addr} {Q:List V→Hp→Prop},Q (us.map V.ref) H→Oc us σ H Q
 |[],_,q=>q
 |u::r,Q,q=>K8 (us:=r) (Q:=fun xs H2=>Q (V.ref u::xs) H2) q
theorem cC{X:Cx}{e:Expr}{f:Addr}{us:List Addr}(h:PE X e (Rc (jx (tC (.ref f)) (jx (Rc (Oc us)) vM))))(hl:us.length≤1000:=by exact D5 rfl):PE X e (J' f us):=by
 refine h.weak fun σ H Q q=>?_
 have z1:us.length≤sizeLine:=by rw[abx];omega
 have z2:2≤sizeLine:=by rw[abx];omega
 refine K8 ⟨by rw[DS];exact z1,fun R hR=>⟨z2,fun c hc=>?_⟩⟩
 have ne:R≠c:=aA (af (H:=H) (a:=R) (o:=.tup (us.map V.ref))) hc
 refine q _ c R (fun b o e=>?_) af (by rw[aq ne];exact af)
 have nR:b≠R:=aA e hR
 have e2:upd H R (.tup (us.map V.ref)) b=some o:=by rw[aq nR];exact e
 rw[aq (aA e2 hc)]
 exact e2
def Dj:List (Addr×List Addr)→TA
 |[]=>vM
 |q::r=>jx (J' q.1 q.2) (Dj r)
theorem Od{X:Cx}:PA X [] (Dj []):=ai
theorem cD{X:Cx}{e:Expr}{es:List Expr}{f:Addr}{us:List Addr}{L:List (Addr×List Addr)}(ha:PE X e (J' f us))(hr:PA X es (Dj L))(hs:starEach (e::es) X.env=(false,eval e X.env)::starEach es X.env:=by rfl):PA X (e::es) (Dj ((f,us)::L)):=aa ha hr hs
def K9(H:Hp)(cs:List Addr)(L:List (Addr×List Addr)):Prop:=cs.length=L.length∧∀(i:Nat) c q,cs[i]?=some c→L[i]?=some q→∃R,H c=some (.tup [.ref q.1,.ref R])∧H R=some (.tup (q.2.map V.ref))
theorem Iv{σ:St}:∀{L:List (Addr×List Addr)} {H:Hp} {Q:List V→Hp→Prop},(∀H' cs,(∀b o,H b=some o→H' b=some o)→K9 H' cs L→Q (cs.map V.ref) H')→Dj L σ H Q
 |[],H,Q,q=>q H [] (fun _ _ e=>e) ⟨rfl,fun i c p h=>by simp at h⟩
 |p::r,H,Q,q=>fun H1 c R s1 hc hR=>Iv (L:=r) fun H2 cs s2 pa=>q H2 (c::cs) (fun b o e=>s2 b o (s1 b o e)) ⟨by rw[aax,aax,pa.1],fun i c' p' h1 h2=>by
   cases i with
   |zero=>
    cases h1
    cases h2
    exact⟨R,s2 _ _ hc,s2 _ _ hR⟩
   |succ i=>exact pa.2 i c' p' h1 h2⟩
end L2
namespace MA
open PySem PySem.Spec PyProof.Rows L2 Vbemal VI
def GF:List (Nat×List Nat):=[(56,[0,1,2]),(57,[]),(58,[3]),(59,[4,5,6]),(38,[4,5]),(41,[5]),(66,[4,7]),(67,[4,7]),(68,[4,7]),(69,[4,7]),(70,[4,7]),(64,[4]),(65,[4,7]),(42,[5]),(43,[4,5]),(44,[8]),(46,[4]),(47,[4]),(48,[]),(49,[]),(50,[]),(51,[5]),(52,[4]),(53,[4,5]),(54,[9]),(55,[10,10,10,10,11])]
def kW(n:Nat):Nat×List Nat:=GF.getD n (0,[])
section
variable{P:Program}{w:World}{K:W.Frag}{mg:Str→Option Value}{base:Heap}{t:TX}
def Ka(t:TX):Sp:=fun vs H Q _=>∃n:Nat,vs=[vn n]∧n≤25∧∀H' c R,ao H H'→H' c=some (.tup [.ref (t.f (kW n).1),.ref R])→H' R=some (.tup ((kW n).2.map fun i=>V.ref (t.u i)))→Q (.ref c) H'
theorem Dk(T:Txt K mg t):bE P w K mg t.b fG 1 (t.f 71) (t.fd 71) ["place"] (Ka t):=by
 refine T.qK.ok Cr (fun vs H Q E h=>?_) (fun cdv A outer s0 H vs Q E hr h=>?_)
 ·obtain⟨n,rfl,_⟩:=h
  rfl
 ·obtain⟨n,rfl,hn,k⟩:=h
  refine⟨_,(ah (bZ (PW.pt (EF (aU tV (pv 0) aG (bh _)) (BW (aU yr (pv 0) (au rfl T.Gj ri) (bh _))))) (ay MT) bw) (ah (aE (i:=1) Cr.nd rfl (Or.inl rfl) (aZ (cD (cC (us:=[t.u 0,t.u 1,t.u 2]) (aZ (aa (au rfl T.Gb rr) (aa (aZ (aa (au rfl T.Pw rr) (aa (au rfl T.R1 rr) (aa (au rfl T.Gk rr) ai)))) ai)))) (cD (cC (us:=[]) (aZ (aa (au rfl T.Gd rr) (aa (aZ ai) ai)))) (cD (cC (us:=[t.u 3]) (aZ (aa (au rfl T.H_ rr) (aa (aZ (aa (au rfl T.U4 rr) ai)) ai)))) (cD (cC (us:=[t.u 4,t.u 5,t.u 6]) (aZ (aa (au rfl T.Ia rr) (aa (aZ (aa (au rfl T.fE rr) (aa (au rfl T.nY rr) (aa (au rfl T.NR rr) ai)))) ai)))) (cD (cC (us:=[t.u 4,t.u 5]) (aZ (aa (au rfl T.RY rr) (aa (aZ (aa (au rfl T.fE rr) (aa (au rfl T.nY rr) ai))) ai)))) (cD (cC (us:=[t.u 5]) (aZ (aa (au rfl T.JR rr) (aa (aZ (aa (au rfl T.nY rr) ai)) ai)))) (cD (cC (us:=[t.u 4,t.u 7]) (aZ (aa (au rfl T.U3 rr) (aa (aZ (aa (au rfl T.fE rr) (aa (au rfl T.vF rr) ai))) ai)))) (cD (cC (us:=[t.u 4,t.u 7]) (aZ (aa (au rfl T.NK rr) (aa (aZ (aa (au rfl T.fE rr) (aa (au rfl T.vF rr) ai))) ai)))) (cD (cC (us:=[t.u 4,t.u 7]) (aZ (aa (au rfl T.Mf rr) (aa (aZ (aa (au rfl T.fE rr) (aa (au rfl T.vF rr) ai))) ai)))) (cD (cC (us:=[t.u 4,t.u 7]) (aZ (aa (au rfl T.Mg rr) (aa (aZ (aa (au rfl T.fE rr) (aa (au rfl T.vF rr) ai))) ai)))) (cD (cC (us:=[t.u 4,t.u 7]) (aZ (aa (au rfl T.R0 rr) (aa (aZ (aa (au rfl T.fE rr) (aa (au rfl T.vF rr) ai))) ai)))) (cD (cC (us:=[t.u 4]) (aZ (aa (au rfl T.RZ rr) (aa (aZ (aa (au rfl T.fE rr) ai)) ai)))) (cD (cC (us:=[t.u 4,t.u 7]) (aZ (aa (au rfl T.Me rr) (aa (aZ (aa (au rfl T.fE rr) (aa (au rfl T.vF rr) ai))) ai)))) (cD (cC (us:=[t.u 5]) (aZ (aa (au rfl T.CB rr) (aa (aZ (aa (au rfl T.nY rr) ai)) ai)))) (cD (cC (us:=[t.u 4,t.u 5]) (aZ (aa (au rfl T.HW rr) (aa (aZ (aa (au rfl T.fE rr) (aa (au rfl T.nY rr) ai))) ai)))) (cD (cC (us:=[t.u 8]) (aZ (aa (au rfl T.DR rr) (aa (aZ (aa (au rfl T.Mh rr) ai)) ai)))) (cD (cC (us:=[t.u 4]) (aZ (aa (au rfl T.CC rr) (aa (aZ (aa (au rfl T.fE rr) ai)) ai)))) (cD (cC (us:=[t.u 4]) (aZ (aa (au rfl T.DT rr) (aa (aZ (aa (au rfl T.fE rr) ai)) ai)))) (cD (cC (us:=[]) (aZ (aa (au rfl T.HY rr) (aa (aZ ai) ai)))) (cD (cC (us:=[]) (aZ (aa (au rfl T.DU rr) (aa (aZ ai) ai)))) (cD (cC (us:=[]) (aZ (aa (au rfl T.F_ rr) (aa (aZ ai) ai)))) (cD (cC (us:=[t.u 5]) (aZ (aa (au rfl T.HZ rr) (aa (aZ (aa (au rfl T.nY rr) ai)) ai)))) (cD (cC (us:=[t.u 4]) (aZ (aa (au rfl T.DV rr) (aa (aZ (aa (au rfl T.fE rr) ai)) ai)))) (cD (cC (us:=[t.u 4,t.u 5]) (aZ (aa (au rfl T.DW rr) (aa (aZ (aa (au rfl T.fE rr) (aa (au rfl T.nY rr) ai))) ai)))) (cD (cC (us:=[t.u 9]) (aZ (aa (au rfl T.Ga rr) (aa (aZ (aa (au rfl T.Pz rr) ai)) ai)))) (cD (cC (us:=[t.u 10,t.u 10,t.u 10,t.u 10,t.u 11]) (aZ (aa (au rfl T.JS rr) (aa (aZ (aa (au rfl T.CJ rr) (aa (au rfl T.CJ rr) (aa (au rfl T.CJ rr) (aa (au rfl T.CJ rr) (aa (au rfl T.y_ rr) ai)))))) ai)))) Od)))))))))))))))))))))))))))) (ay (aC (cz tW (pv 1) (pv 0) (fun _ _=>rfl)))))),?_⟩
  refine⟨_,rfl,_,_,rfl,rfl,_,rfl,tD (by omega) ⟨_,rfl,_,_,rfl,rfl,_,rfl,tD (by omega) ?_⟩⟩
  refine Iv (fun H1 cs s1 pa=>⟨?_,fun p hp=>?_⟩)
  ·rw[DS,pa.1];exact lz rfl
  change K9 H1 cs (GF.map fun q=>(t.f q.1,q.2.map t.u))at pa
  have hlen:cs.length=26:=by rw[pa.1];rfl
  have hc:cs[n]?=some (cs[n]'(by omega)):=D3 _
  have hq:(GF.map fun q=>(t.f q.1,q.2.map t.u))[n]?=some (t.f (kW n).1,(kW n).2.map t.u):=by
   have Z_:n<GF.length:=by show n<26;omega
   rw[HD,D3 Z_]
   unfold kW
   rw[abH,D3 Z_]
   rfl
  obtain⟨R,h1,h2⟩:=pa.2 n _ _ hc hq
  have s2:=ao.new (o:=.tup (cs.map V.ref)) hp
  refine⟨_,rfl,_,rfl,p,_,_,V.ref (cs[n]'(by omega)),rfl,rfl,i6.of af,at_of (j:=n) rfl (by rw[HD,hc];rfl),k _ _ R (ao.trans s1 s2) (s2 _ _ h1) ?_⟩
  rw[s2 _ _ h2,abe]
  rfl
end
end MA
end
namespace MA
open PySem PySem.Spec PyProof.Rows L2 Vbemal VI
theorem Oq{K:W.Frag}{H H':Hp}{a:Addr}{xs:List V}(s:ao H H')(h:bD K H a xs):bD K H' a xs:=by
 rcases h with(h |⟨o,h⟩) |h
 ·exact .inl (.inl (s _ _ h))
 ·exact .inl (.inr ⟨o,s _ _ h⟩)
 ·exact .inr h
def Yq:List (Int×Int):=[(0,1000),(0,10000),(0,1000000000000000),(0,1000000),(1,16),(0,9999),(-1000000000000000,1000000000000000),(1,1000000000000000),(1,256),(-1000000000000000000,1000000000000000000),(0,1000000000000000),(0,16)]
def Fz(i:Nat):Int×Int:=Yq.getD i (0,0)
def inR(us:List Nat)(args:List Int):Bool:=(args.zip us).all fun q=>decide ((Fz q.2).1≤q.1)&&decide (q.1≤(Fz q.2).2)
section
variable{P:Program}{w:World}{K:W.Frag}{mg:Str→Option Value}{base:Heap}{t:TX}
theorem Vx(T:Txt K mg t):∀(i:Nat) (H:Hp),i<12→i6 K H (t.u i) [.int (Fz i).1,.int (Fz i).2]
 |0,H,_=>T.Px H
 |1,H,_=>T.R3 H
 |2,H,_=>T.Gm H
 |3,H,_=>T.U5 H
 |4,H,_=>T.NO H
 |5,H,_=>T.NQ H
 |6,H,_=>T.NS H
 |7,H,_=>T.Py H
 |8,H,_=>T.Mi H
 |9,H,_=>T.PB H
 |10,H,_=>T.R4 H
 |11,H,_=>T.za H
 |n+12,_,h=>absurd h (by omega)
theorem Ff{l:List Int}{i:Nat}{z:Int}(h:l[i]?=some z):M7 (aO l) (i:Int)=some (.int z):=at_of (j:=i) rfl (by rw[HD,h];rfl)
def oE(K:W.Frag):Sp:=fun vs H Q _=>∃a l i n,vs=[.ref a,vn i]∧bD K H a (aO l)∧l[i]?=some ((n:Nat):Int)∧n≤25∧
 (n=25→∃k:Nat,l[i+5]?=some (k:Int)∧∀H',ao H H'→Q (vn (i+6+k)) H')∧(n≠25→∀H',ao H H'→Q (vn (i+1+(kW n).2.length)) H')
theorem Dl(T:Txt K mg t):bE P w K mg t.b fG 2 (t.f 72) (t.fd 72) ["calls","at"] (oE K):=by
 have AE:=Dk (P:=P) (w:=w) T
 refine T.qt.ok uB (fun vs H Q E h=>?_) (fun cdv A outer s0 H vs Q E hr h=>?_)
 ·obtain⟨a,l,i,n,rfl,_⟩:=h
  rfl
 ·obtain⟨a,l,i,n,rfl,ha,hi,hn,k1,k2⟩:=h
  refine⟨_,(ah (aE (i:=2) uB.nd rfl (Or.inl rfl) (aW iB (aW iB (pv 1) aG) (aQ a_ rfl T.gk aaK (aa (cz tW (aF AE (hr.mono (by decide)) rfl T.EW T.qK.kp (EV T.qK) .nil aI (aa (cz bL (pv 0) (pv 1) (fun _ _=>rfl)) ai)) aG (fun _ _=>rfl)) ai)))) (ay (aC (iT (aU j9 (cz bL (pv 0) (pv 1) (fun _ _=>rfl)) (au rfl T.Gi ri) (bh _)) (aW iB (pv 2) (cz bL (pv 0) (aW bP (pv 2) aG) (fun _ _=>rfl))) (pv 2))))),?_⟩
  refine⟨_,rfl,_,_,rfl,rfl,_,rfl,_,rfl,a,_,_,_,rfl,rfl,ha,Ff hi,n,rfl,hn,fun H1 c R s1 hc hR=>?_⟩
  refine⟨c,_,1,_,rfl,rfl,i6.of hc,rfl,R,_,rfl,.inr (i6.of hR),_,_,rfl,rfl,?_⟩
  rw[DS]
  have e:(i:Int)+1+(((kW n).2.length:Nat):Int)=((i+1+(kW n).2.length:Nat):Int):=by omega
  dsimp only
  rw[e]
  refine⟨_,rfl,_,rfl,a,_,_,_,rfl,rfl,Oq s1 ha,Ff hi,rfl,_,rfl,?_⟩
  by_cases Vy:n=25
  ·obtain⟨k,hk,kq⟩:=k1 Vy
   have e5:(kW n).2.length=5:=by rw[Vy];rfl
   rw[e5]
   refine uR (by rw[Vy];rfl) ⟨_,rfl,_,rfl,_,rfl,_,_,rfl,rfl,a,_,((i+5:Nat):Int),_,rfl,?_,Oq s1 ha,Ff hk,_,_,rfl,rfl,?_⟩
   ·show V.int (((i+1+5:Nat):Int)-1)=_
    congr 1
    omega
   ·have e6:((i+1+5:Nat):Int)+(k:Int)=((i+6+k:Nat):Int):=by omega
    dsimp only
    rw[e6]
    exact kq H1 s1
  ·refine tD (fun z=>Vy (by have:=bG z;omega)) ⟨_,rfl,k2 Vy H1 s1⟩
def Bh(K:W.Frag)(t:TX):Sp:=fun vs H Q _=>∃a R args us,vs=[.ref a,.ref R]∧bD K H a (aO args)∧H R=some (.tup (us.map fun i=>V.ref (t.u i)))∧us.length≤args.length∧args.length≤1000∧(∀u∈us,u<12)∧
 ∀H',ao H H'→Q (.bl (inR (us++List.replicate (args.length-us.length) 10) args)) H'
theorem Bj(T:Txt K mg t):bE P w K mg t.b fG 1 (t.f 73) (t.fd 73) ["arguments","told_ranges"] (Bh K t):=by
 refine T.nT.ok gg (fun vs H Q E h=>?_) (fun cdv A outer s0 H vs Q E hr h=>?_)
 ·obtain⟨a,R,args,us,rfl,_⟩:=h
  rfl
 ·obtain⟨a,R,args,us,rfl,ha,hR,hle,EU,h12,k⟩:=h
  refine⟨_,(ah (aE (i:=2) gg.nd rfl (Or.inl rfl) (aW Po (pv 1) (aW Pc (aZ (aa (au rfl T.CJ rr) ai)) (aW bP (aQ a_ rfl T.gk aaK (aa (pv 0) ai)) (aQ a_ rfl T.gk aaK (aa (pv 1) ai)))))) (ay (aC (aQ (Rl rfl) rfl T.U6 RE (aa (v_ rfl gg.nd (Pn rfl T.Ih (aa (pv 0) (aa (pv 2) ai))) (eO (own:=[("argument",3),("ends",4)]) (by show t9 ["arguments","told_ranges","ranges","argument","ends"] (az jI) _ _=true;decide+kernel)) (fun _ _ _ _ _=>(BC (n:=2) rfl (b9 (bC (i:=3) gg.nd rfl (Or.inl rfl)) (b9 (bC (i:=4) gg.nd rfl (Or.inl rfl)) jw)))) (fun _ _ _ _ _=>jz) (fun _ _ _ _ _=>(M3 Kw Kw (cz BD (pv 4) aG (fun _ _=>rfl)) (pv 3) (cz BD (pv 4) aG (fun _ _=>rfl))))) ai))))),?_⟩
  refine⟨_,rfl,lz rfl,fun tp htp=>?_⟩
  have s1:=ao.new (o:=.tup [.ref (t.u 10)]) htp
  have tp1:upd H tp (.tup [.ref (t.u 10)]) tp=some (.tup [.ref (t.u 10)]):=af
  generalize upd H tp (.tup [.ref (t.u 10)])=H1 at s1 tp1⊢
  refine⟨_,rfl,a,_,rfl,.inl (Oq s1 ha),_,rfl,R,_,rfl,.inr (i6.of (s1 _ _ hR)),_,_,rfl,rfl,?_⟩
  rw[DS,DS]
  have e1:(args.length:Int)-(us.length:Int)=((args.length-us.length:Nat):Int):=by omega
  dsimp only
  rw[e1]
  refine⟨tp,_,_,rfl,rfl,i6.of tp1,List.cons_ne_nil _ _,by omega,by omega,?_,fun H2 r s2 hr2=>?_⟩
  ·rw[aa_];exact fH (by simp;omega)
  rw[aa_]at hr2
  have er:(List.replicate (args.length-us.length) [V.ref (t.u 10)]).flatten=(List.replicate (args.length-us.length) 10).map fun i=>V.ref (t.u i):=by
   induction args.length-us.length with
   |zero=>rfl
   |succ n ih=>rw[aa9,abB,ih,aa9];rfl
  rw[er]at hr2
  have QI:ao H H2:=fun b o e=>s2 b o (s1 b o e)
  refine⟨R,r,_,_,rfl,rfl,i6.of (QI _ _ hR),hr2,by rw[DS,DS,List.length_replicate];exact fH (by omega),fun H3 q s3 hq=>?_⟩
  rw[←aaz]at hq
  have NY:ao H H3:=fun b o e=>s3 b o (QI b o e)
  have Yr:(us++List.replicate (args.length-us.length) 10).length=args.length:=by rw[aat,List.length_replicate];omega
  have u12:∀u∈us++List.replicate (args.length-us.length) 10,u<12:=fun u hu=>by
   rcases aaV.mp hu with h |h
   ·exact h12 u h
   ·rw[List.eq_of_mem_replicate h];decide
  generalize us++List.replicate (args.length-us.length) 10=vs at hq Yr u12 k
  have hqs:∀{H':Hp},ao H3 H'→i6 K H' q (vs.map fun i=>V.ref (t.u i)):=fun s=>by
   rcases hq with(h |⟨o,h⟩) |h
   ·exact .inl (.inl (s _ _ h))
   ·exact .inl (.inr ⟨o,s _ _ h⟩)
   ·exact .inr h
  refine⟨_,rfl,_,rfl,a,q,_,_,rfl,Oq NY ha,hq,fun D hD=>KU (J:=RM K a q) args.length (fun i dw=>dw D=some (.lst ((((args.zip vs).take i).map fun q=>decide ((Fz q.2).1≤q.1)&&decide (q.1≤(Fz q.2).2)).map V.bl))∧ao H3 dw) ⟨af,ao.new hD⟩ ?_ ?_ ?_ ?_⟩
  ·rintro i dw hi ⟨_,sm⟩
   exact⟨_,_,.int args[i],.ref (t.u (vs[i]'(by omega))),Oq (NY.trans sm) ha,hqs sm,by rw[HD,D3 hi];rfl,by rw[HD,D3 (by omega)];rfl⟩
  ·rintro dw ⟨_,sm⟩
   exact⟨_,Oq (NY.trans sm) ha,by rw[DS];exact D9 _⟩
  ·rintro i dw z H4 hi ⟨j0,sm⟩ ⟨Tt,x,y,rfl,hT,rfl,hx,hy⟩
   have iv:i<vs.length:=by omega
   have ex:x=.int args[i]:=by
    have:=hx _ (Oq (NY.trans sm) ha)
    rw[HD,D3 hi]at this
    exact(aar this).symm
   have ey:y=.ref (t.u vs[i]):=by
    have:=hy _ (hqs sm)
    rw[HD,D3 iv]at this
    exact(aar this).symm
   subst ex ey
   have ez:=N9 (D3 hi) (D3 iv)
   have u1:=u12 _ (List.getElem_mem iv)
   generalize args[i]=z at*
   generalize vs[i]=u at*
   have sT:=ao.new (o:=.tup [.int z,.ref (t.u u)]) hT
   have C_:upd dw Tt (.tup [.int z,.ref (t.u u)]) Tt=some (.tup [.int z,.ref (t.u u)]):=af
   generalize upd dw Tt (.tup [.int z,.ref (t.u u)])=HT at sT C_⊢
   have fin:∀b:Bool,b=(decide ((Fz u).1≤z)&&decide (z≤(Fz u).2))→∃acc,HT D=some (.lst acc)∧acc.length<sizeLine∧upd HT D (.lst (acc++[V.bl b])) D=some (.lst ((((args.zip vs).take (i+1)).map fun q=>decide ((Fz q.2).1≤q.1)&&decide (q.1≤(Fz q.2).2)).map V.bl))∧ao H3 (upd HT D (.lst (acc++[V.bl b]))):=by
    rintro b rfl
    refine⟨_,sT _ _ j0,?_,?_,ao.put (sm.trans sT) hD⟩
    ·rw[DS,DS,aaH];exact bV (by omega)
    ·rw[af,aa6 ez,aaz,aaz]
     rfl
   refine⟨Tt,_,rfl,i6.of C_,rfl,_,_,rfl,_,_,rfl,rfl,rfl,_,rfl,t.u u,_,0,_,rfl,rfl,Vx T u HT u1,rfl,_,rfl,_,_,rfl,rfl,_,rfl,?_⟩
   by_cases h1:(Fz u).1≤z
   ·refine uR h1 ⟨_,rfl,t.u u,_,1,_,rfl,rfl,Vx T u HT u1,rfl,_,_,rfl,rfl,fin _ (by rw[aa8 h1,Bool.true_and])⟩
   ·exact tD h1 (fin _ (by rw[aa7 h1,Bool.false_and]))
  ·rintro dw ⟨j0,sm⟩
   have e0:(args.zip vs).take args.length=args.zip vs:=abp (by rw[abO];omega)
   rw[e0]at j0
   refine⟨D,_,rfl,bD.of j0,?_⟩
   rw[List.all_map]
   exact k _ (NY.trans sm)
def sr(P:Program)(w:World)(K:W.Frag)(mg:Str→Option Value)(base:Heap):Sp:=fun vs H Q _=>∃f p a args k fd ps sp,vs=[.ref f,.ref p,.ref a]∧bD K H a (aO args)∧k≤9∧bE P w K mg base fG k f fd ps sp∧W.keepIn K (.ref f)=true∧Binds K fd ps []∧
 ((args=[]∧sp [.ref p] H Q E0)∨(∃x,args=[x]∧sp [.ref p,.int x] H Q E0)∨(∃x y,args=[x,y]∧sp [.ref p,.int x,.int y] H Q E0)∨(∃x y z,args=[x,y,z]∧sp [.ref p,.int x,.int y,.int z] H Q E0)∨(∃x0 x1 x2 x3 x4 r,args=x0::x1::x2::x3::x4::r∧∀b,H b=none→sp [.ref p,.int x0,.int x1,.int x2,.int x3,.ref b] (upd H b (.lst (aO r))) Q E0))
theorem GG(T:Txt K mg t):bE P w K mg t.b fG 10 (t.f 74) (t.fd 74) ["deed","house","arguments"] (sr P w K mg t.b):=by
 refine T.uL.ok F3 (fun vs H Q E h=>?_) (fun cdv A outer s0 H vs Q E hr h=>?_)
 ·obtain⟨f,p,a,args,k,fd,ps,sp,rfl,_⟩:=h
  rfl
 ·obtain⟨f,p,a,args,k,fd,ps,sp,rfl,ha,kk,F,hk,hb,cs⟩:=h
  refine⟨_,(ah (bZ (aU j9 (aQ a_ rfl T.gk aaK (aa (pv 2) ai)) aG (bh _)) (ay (aC (ug 0 F (hr.mono kk) hk hb aI (aa (pv 1) ai)))) bw) (ah (bZ (aU j9 (aQ a_ rfl T.gk aaK (aa (pv 2) ai)) aG (bh _)) (ay (aC (ug 0 F (hr.mono kk) hk hb aI (aa (pv 1) (aa (cz bL (pv 2) aG (fun _ _=>rfl)) ai))))) bw) (ah (bZ (aU j9 (aQ a_ rfl T.gk aaK (aa (pv 2) ai)) aG (bh _)) (ay (aC (ug 0 F (hr.mono kk) hk hb aI (aa (pv 1) (aa (cz bL (pv 2) aG (fun _ _=>rfl)) (aa (cz bL (pv 2) aG (fun _ _=>rfl)) ai)))))) bw) (ah (bZ (aU j9 (aQ a_ rfl T.gk aaK (aa (pv 2) ai)) aG (bh _)) (ay (aC (ug 0 F (hr.mono kk) hk hb aI (aa (pv 1) (aa (cz bL (pv 2) aG (fun _ _=>rfl)) (aa (cz bL (pv 2) aG (fun _ _=>rfl)) (aa (cz bL (pv 2) aG (fun _ _=>rfl)) ai))))))) bw) (ay (aC (ug 0 F (hr.mono kk) hk hb aI (aa (pv 1) (aa (cz bL (pv 2) aG (fun _ _=>rfl)) (aa (cz bL (pv 2) aG (fun _ _=>rfl)) (aa (cz bL (pv 2) aG (fun _ _=>rfl)) (aa (cz bL (pv 2) aG (fun _ _=>rfl)) (aa (yw Bt (pv 2) (yu aG) FF) ai))))))))))))),?_⟩
  have ln:∀i:Nat,decide (V.int ((aO args).length:Int)=V.int (i:Int))=decide (args.length=i):=fun i=>by
   rw[DS,decide_eq_decide]
   constructor
   ·intro z;have:=bG z;omega
   ·intro z;rw[z]
  refine⟨_,rfl,a,_,rfl,.inl ha,rfl,_,rfl,?_⟩
  rw[show(V.int 0:V)=V.int ((0:Nat):Int)from rfl,ln]
  rcases cs with⟨rfl,q⟩ |cs
  ·exact uR rfl ⟨rfl,_,rfl,q⟩
  have n0:¬args.length=0:=by rcases cs with⟨x,rfl,_⟩ |⟨x,y,rfl,_⟩ |⟨x,y,z,rfl,_⟩ |⟨x0,x1,x2,x3,x4,r,rfl,_⟩<;>exact Nat.succ_ne_zero _
  refine tD n0 ⟨_,rfl,a,_,rfl,.inl ha,rfl,_,rfl,?_⟩
  rw[show(V.int 1:V)=V.int ((1:Nat):Int)from rfl,ln]
  rcases cs with⟨x,rfl,q⟩ |cs
  ·exact uR rfl ⟨rfl,_,rfl,_,rfl,a,_,0,_,rfl,rfl,ha,rfl,q⟩
  have n1:¬args.length=1:=by rcases cs with⟨x,y,rfl,_⟩ |⟨x,y,z,rfl,_⟩ |⟨x0,x1,x2,x3,x4,r,rfl,_⟩<;>simp
  refine tD n1 ⟨_,rfl,a,_,rfl,.inl ha,rfl,_,rfl,?_⟩
  rw[show(V.int 2:V)=V.int ((2:Nat):Int)from rfl,ln]
  rcases cs with⟨x,y,rfl,q⟩ |cs
  ·exact uR rfl ⟨rfl,_,rfl,_,rfl,a,_,0,_,rfl,rfl,ha,rfl,_,rfl,a,_,1,_,rfl,rfl,ha,rfl,q⟩
  have n2:¬args.length=2:=by rcases cs with⟨x,y,z,rfl,_⟩ |⟨x0,x1,x2,x3,x4,r,rfl,_⟩<;>simp
  refine tD n2 ⟨_,rfl,a,_,rfl,.inl ha,rfl,_,rfl,?_⟩
  rw[show(V.int 3:V)=V.int ((3:Nat):Int)from rfl,ln]
  rcases cs with⟨x,y,z,rfl,q⟩ |⟨x0,x1,x2,x3,x4,r,rfl,q⟩
  ·exact uR rfl ⟨rfl,_,rfl,_,rfl,a,_,0,_,rfl,rfl,ha,rfl,_,rfl,a,_,1,_,rfl,rfl,ha,rfl,_,rfl,a,_,2,_,rfl,rfl,ha,rfl,q⟩
  have Wr:∀(i:Nat) z,i<4→[x0,x1,x2,x3][i]?=some z→M7 (aO (x0::x1::x2::x3::x4::r)) (i:Int)=some (.int z):=fun i z hi h=>Ff (by
   have:=aaA (l₁:=[x0,x1,x2,x3]) (l₂:=x4::r) (i:=i) hi
   rw[show x0::x1::x2::x3::x4::r=[x0,x1,x2,x3]++x4::r from rfl,this,h])
  refine tD (by simp) ⟨rfl,_,rfl,_,rfl,a,_,0,_,rfl,rfl,ha,Wr 0 x0 (by decide) rfl,_,rfl,a,_,1,_,rfl,rfl,ha,Wr 1 x1 (by decide) rfl,_,rfl,a,_,2,_,rfl,rfl,ha,Wr 2 x2 (by decide) rfl,_,rfl,a,_,3,_,rfl,rfl,ha,Wr 3 x3 (by decide) rfl,?_⟩
  refine⟨_,rfl,_,rfl,a,_,rfl,ha,fun b hb'=>?_⟩
  have ec:A3 (aO (x0::x1::x2::x3::x4::r)) (some 5) none=aO r:=Io (xs:=aO (x0::x1::x2::x3::x4::r)) (k:=5) (by rw[DS];exact Nat.le_add_left _ _)
  rw[ec]
  exact q b hb'
end
inductive x9:Nat→List Int→Call→Prop
 |c0 (x0 x1 x2:Int) (n0 n1 n2:Nat) (e0:x0=(n0:Int)) (e1:x1=(n1:Int)) (e2:x2=(n2:Int)):x9 0 [x0,x1,x2] (.opens n0 n1 n2)
 |c1:x9 1 [] (.member)
 |c2 (x0:Int) (n0:Nat) (e0:x0=(n0:Int)):x9 2 [x0] (.day n0)
 |c3 (x0 x1 x2:Int) (n0 n1:Nat) (e0:x0=(n0:Int)) (s0:0<n0) (e1:x1=(n1:Int)) (s1:n1≤9999):x9 3 [x0,x1,x2] (.item n0 n1 x2)
 |c4 (x0 x1:Int) (n0 n1:Nat) (e0:x0=(n0:Int)) (s0:0<n0) (e1:x1=(n1:Int)) (s1:n1≤9999):x9 4 [x0,x1] (.bill n0 n1)
 |c5 (x0:Int) (n0:Nat) (e0:x0=(n0:Int)) (s0:n0≤9999):x9 5 [x0] (.billAll n0)
 |c6 (x0 x1:Int) (n0 n1:Nat) (e0:x0=(n0:Int)) (s0:0<n0) (e1:x1=(n1:Int)) (s1:n1≤1000000000000000):x9 6 [x0,x1] (.pay n0 n1)
 |c7 (x0 x1:Int) (n0 n1:Nat) (e0:x0=(n0:Int)) (s0:0<n0) (e1:x1=(n1:Int)) (s1:n1≤1000000000000000):x9 7 [x0,x1] (.refund n0 n1)
 |c8 (x0 x1:Int) (n0 n1:Nat) (e0:x0=(n0:Int)) (s0:0<n0) (e1:x1=(n1:Int)) (s1:n1≤1000000000000000):x9 8 [x0,x1] (.deposit n0 n1)
 |c9 (x0 x1:Int) (n0 n1:Nat) (e0:x0=(n0:Int)) (s0:0<n0) (e1:x1=(n1:Int)) (s1:n1≤1000000000000000):x9 9 [x0,x1] (.release n0 n1)
 |Ys (x0 x1:Int) (n0 n1:Nat) (e0:x0=(n0:Int)) (s0:0<n0) (e1:x1=(n1:Int)) (s1:n1≤1000000000000000):x9 10 [x0,x1] (.fund n0 n1)
 |Yt (x0:Int) (n0:Nat) (e0:x0=(n0:Int)) (s0:0<n0):x9 11 [x0] (.fail n0)
 |c12 (x0 x1:Int) (n0 n1:Nat) (e0:x0=(n0:Int)) (s0:0<n0) (e1:x1=(n1:Int)) (s1:n1≤1000000000000000):x9 12 [x0,x1] (.recover n0 n1)
 |Yu (x0:Int) (n0:Nat) (e0:x0=(n0:Int)) (s0:n0≤9999):x9 13 [x0] (.close n0)
 |Yv (x0 x1:Int) (n0 n1:Nat) (e0:x0=(n0:Int)) (s0:0<n0) (e1:x1=(n1:Int)) (s1:n1≤9999):x9 14 [x0,x1] (.total n0 n1)
 |Yw (x0:Int) (n0:Nat) (e0:x0=(n0:Int)) (s0:0<n0):x9 15 [x0] (.invoice n0)
 |Yx (x0:Int) (n0:Nat) (e0:x0=(n0:Int)) (s0:0<n0):x9 16 [x0] (.invoices n0)
 |Yy (x0:Int) (n0:Nat) (e0:x0=(n0:Int)) (s0:0<n0):x9 17 [x0] (.balance n0)
 |Yz:x9 18 [] (.short)
 |YA:x9 19 [] (.overdue)
 |YB:x9 20 [] (.ledger)
 |YC (x0:Int) (n0:Nat) (e0:x0=(n0:Int)) (s0:n0≤9999):x9 21 [x0] (.taxes n0)
 |YD (x0:Int) (n0:Nat) (e0:x0=(n0:Int)) (s0:0<n0):x9 22 [x0] (.failure n0)
 |YE (x0 x1:Int) (n0 n1:Nat) (e0:x0=(n0:Int)) (s0:0<n0) (e1:x1=(n1:Int)) (s1:n1≤9999):x9 23 [x0,x1] (.preview n0 n1)
 |YF (x0:Int):x9 24 [x0] (.reckon x0)
 |YG (x0 x1 x2 x3:Int) (row:List Int) (n0 n1 n2 n3:Nat) (r:List Nat) (e0:x0=(n0:Int)) (e1:x1=(n1:Int)) (e2:x2=(n2:Int)) (e3:x3=(n3:Int)) (e4:row=r.map fun(n:Nat)=>(n:Int)) (s0:n0≤1000000000000000) (s1:r.length≤16) (s2:∀z∈r,z≤1000000000000000):x9 25 (x0::x1::x2::x3::(row.length:Int)::row) (.loss n0 n1 n2 n3 r)
theorem aY{u:Nat}{us:List Nat}{x:Int}{xs:List Int}:inR (u::us) (x::xs)=true↔((Fz u).1≤x∧x≤(Fz u).2)∧inR us xs=true:=by
 show((decide ((Fz u).1≤x)&&decide (x≤(Fz u).2))&&inR us xs)=true↔_
 rw[aa1,aa1,abY,abY]
theorem Vz(x0 x1 x2:Int):decode [[0,x0,x1,x2]]=Vbemal.guard (inR [0,1,2] [x0,x1,x2]) (.opens x0.toNat x1.toNat x2.toNat):=by
 have e:inR [0,1,2] [x0,x1,x2]=(inside x0 0 1000&&(inside x1 0 10000&&(inside x2 0 MONEY))):=by
  show(_&&(_&&(_&&true)))=_
  rw[aaR]
  rfl
 rw[e]
 rfl
theorem VA(x0:Int):decode [[2,x0]]=Vbemal.guard (inR [3] [x0]) (.day x0.toNat):=by
 have e:inR [3] [x0]=(inside x0 0 DAYS):=by
  show(_&&true)=_
  rw[aaR]
  rfl
 rw[e]
 rfl
theorem VB(x0 x1 x2:Int):decode [[3,x0,x1,x2]]=Vbemal.guard (inR [4,5,6] [x0,x1,x2]) (.item x0.toNat x1.toNat x2):=by
 have e:inR [4,5,6] [x0,x1,x2]=(isM x0&&(isP x1&&(inside x2 (-MONEY) MONEY))):=by
  show(_&&(_&&(_&&true)))=_
  rw[aaR]
  rfl
 rw[e]
 rfl
theorem VC(x0 x1:Int):decode [[4,x0,x1]]=Vbemal.guard (inR [4,5] [x0,x1]) (.bill x0.toNat x1.toNat):=by
 have e:inR [4,5] [x0,x1]=(isM x0&&(isP x1)):=by
  show(_&&(_&&true))=_
  rw[aaR]
  rfl
 rw[e]
 rfl
theorem VD(x0:Int):decode [[5,x0]]=Vbemal.guard (inR [5] [x0]) (.billAll x0.toNat):=by
 have e:inR [5] [x0]=(isP x0):=by
  show(_&&true)=_
  rw[aaR]
  rfl
 rw[e]
 rfl
theorem VE(x0 x1:Int):decode [[6,x0,x1]]=Vbemal.guard (inR [4,7] [x0,x1]) (.pay x0.toNat x1.toNat):=by
 have e:inR [4,7] [x0,x1]=(isM x0&&(isC x1)):=by
  show(_&&(_&&true))=_
  rw[aaR]
  rfl
 rw[e]
 rfl
theorem VF(x0 x1:Int):decode [[7,x0,x1]]=Vbemal.guard (inR [4,7] [x0,x1]) (.refund x0.toNat x1.toNat):=by
 have e:inR [4,7] [x0,x1]=(isM x0&&(isC x1)):=by
  show(_&&(_&&true))=_
  rw[aaR]
  rfl
 rw[e]
 rfl
theorem VG(x0 x1:Int):decode [[8,x0,x1]]=Vbemal.guard (inR [4,7] [x0,x1]) (.deposit x0.toNat x1.toNat):=by
 have e:inR [4,7] [x0,x1]=(isM x0&&(isC x1)):=by
  show(_&&(_&&true))=_
  rw[aaR]
  rfl
 rw[e]
 rfl
theorem VH(x0 x1:Int):decode [[9,x0,x1]]=Vbemal.guard (inR [4,7] [x0,x1]) (.release x0.toNat x1.toNat):=by
 have e:inR [4,7] [x0,x1]=(isM x0&&(isC x1)):=by
  show(_&&(_&&true))=_
  rw[aaR]
  rfl
 rw[e]
 rfl
theorem Sh(x0 x1:Int):decode [[10,x0,x1]]=Vbemal.guard (inR [4,7] [x0,x1]) (.fund x0.toNat x1.toNat):=by
 have e:inR [4,7] [x0,x1]=(isM x0&&(isC x1)):=by
  show(_&&(_&&true))=_
  rw[aaR]
  rfl
 rw[e]
 rfl
theorem Si(x0:Int):decode [[11,x0]]=Vbemal.guard (inR [4] [x0]) (.fail x0.toNat):=by
 have e:inR [4] [x0]=(isM x0):=by
  show(_&&true)=_
  rw[aaR]
  rfl
 rw[e]
 rfl
theorem Sj(x0 x1:Int):decode [[12,x0,x1]]=Vbemal.guard (inR [4,7] [x0,x1]) (.recover x0.toNat x1.toNat):=by
 have e:inR [4,7] [x0,x1]=(isM x0&&(isC x1)):=by
  show(_&&(_&&true))=_
  rw[aaR]
  rfl
 rw[e]
 rfl
theorem Sk(x0:Int):decode [[13,x0]]=Vbemal.guard (inR [5] [x0]) (.close x0.toNat):=by
 have e:inR [5] [x0]=(isP x0):=by
  show(_&&true)=_
  rw[aaR]
  rfl
 rw[e]
 rfl
theorem Sl(x0 x1:Int):decode [[14,x0,x1]]=Vbemal.guard (inR [4,5] [x0,x1]) (.total x0.toNat x1.toNat):=by
 have e:inR [4,5] [x0,x1]=(isM x0&&(isP x1)):=by
  show(_&&(_&&true))=_
  rw[aaR]
  rfl
 rw[e]
 rfl
theorem Sn(x0:Int):decode [[15,x0]]=Vbemal.guard (inR [8] [x0]) (.invoice x0.toNat):=by
 have e:inR [8] [x0]=(inside x0 1 INVOICES):=by
  show(_&&true)=_
  rw[aaR]
  rfl
 rw[e]
 rfl
theorem So(x0:Int):decode [[16,x0]]=Vbemal.guard (inR [4] [x0]) (.invoices x0.toNat):=by
 have e:inR [4] [x0]=(isM x0):=by
  show(_&&true)=_
  rw[aaR]
  rfl
 rw[e]
 rfl
theorem Sq(x0:Int):decode [[17,x0]]=Vbemal.guard (inR [4] [x0]) (.balance x0.toNat):=by
 have e:inR [4] [x0]=(isM x0):=by
  show(_&&true)=_
  rw[aaR]
  rfl
 rw[e]
 rfl
theorem Ss(x0:Int):decode [[21,x0]]=Vbemal.guard (inR [5] [x0]) (.taxes x0.toNat):=by
 have e:inR [5] [x0]=(isP x0):=by
  show(_&&true)=_
  rw[aaR]
  rfl
 rw[e]
 rfl
theorem Su(x0:Int):decode [[22,x0]]=Vbemal.guard (inR [4] [x0]) (.failure x0.toNat):=by
 have e:inR [4] [x0]=(isM x0):=by
  show(_&&true)=_
  rw[aaR]
  rfl
 rw[e]
 rfl
theorem Sv(x0 x1:Int):decode [[23,x0,x1]]=Vbemal.guard (inR [4,5] [x0,x1]) (.preview x0.toNat x1.toNat):=by
 have e:inR [4,5] [x0,x1]=(isM x0&&(isP x1)):=by
  show(_&&(_&&true))=_
  rw[aaR]
  rfl
 rw[e]
 rfl
theorem Sw(x0:Int):decode [[24,x0]]=Vbemal.guard (inR [9] [x0]) (.reckon x0):=by
 have e:inR [9] [x0]=(inside x0 (-BOOK) BOOK):=by
  show(_&&true)=_
  rw[aaR]
  rfl
 rw[e]
 rfl
def vm(n:Nat)(args:List Int)(c:List (List Int)):Prop:=(n≤24∧args.length=(kW n).2.length∧c=[(n:Int)::args])∨(n=25∧∃x0 x1 x2 x3 row,args=x0::x1::x2::x3::(row.length:Int)::row∧c=[[25,x0,x1,x2,x3],row])
def inN(n:Nat)(args:List Int):Bool:=inR ((kW n).2++List.replicate (args.length-(kW n).2.length) 10) args
def Dec(n:Nat)(args:List Int)(c:List (List Int)):Prop:=(inN n args=false∧decode c=none)∨(inN n args=true∧∃call,decode c=some call∧x9 n args call)
theorem fj{n:Nat}{args:List Int}{c:List (List Int)}{b:Bool}{call:Call}(h1:inN n args=b)(h2:decode c=Vbemal.guard b call)(h3:b=true→x9 n args call):Dec n args c:=by
 cases b with
 |false=>exact .inl ⟨h1,h2⟩
 |true=>exact .inr ⟨h1,call,h2,h3 rfl⟩
theorem VJ(x0 x1 x2:Int):Dec 0 [x0,x1,x2] [[0,x0,x1,x2]]:=by
 refine fj (b:=inR [0,1,2] [x0,x1,x2]) rfl (Vz x0 x1 x2) fun h=>?_
 obtain⟨⟨a0,b0⟩,h⟩:=aY.mp h
 have a0:(0:Int)≤x0:=a0
 have b0:x0≤(1000:Int):=b0
 obtain⟨⟨a1,b1⟩,h⟩:=aY.mp h
 have a1:(0:Int)≤x1:=a1
 have b1:x1≤(10000:Int):=b1
 obtain⟨⟨a2,b2⟩,h⟩:=aY.mp h
 have a2:(0:Int)≤x2:=a2
 have b2:x2≤(1000000000000000:Int):=b2
 exact .c0 _ _ _ _ _ _ (by omega) (by omega) (by omega)
theorem VL:Dec 1 [] [[1]]:=by
 exact .inr ⟨rfl,_,rfl,.c1⟩
theorem VM(x0:Int):Dec 2 [x0] [[2,x0]]:=by
 refine fj (b:=inR [3] [x0]) rfl (VA x0) fun h=>?_
 obtain⟨⟨a0,b0⟩,h⟩:=aY.mp h
 have a0:(0:Int)≤x0:=a0
 have b0:x0≤(1000000:Int):=b0
 exact .c2 _ _ (by omega)
theorem VN(x0 x1 x2:Int):Dec 3 [x0,x1,x2] [[3,x0,x1,x2]]:=by
 refine fj (b:=inR [4,5,6] [x0,x1,x2]) rfl (VB x0 x1 x2) fun h=>?_
 obtain⟨⟨a0,b0⟩,h⟩:=aY.mp h
 have a0:(1:Int)≤x0:=a0
 have b0:x0≤(16:Int):=b0
 obtain⟨⟨a1,b1⟩,h⟩:=aY.mp h
 have a1:(0:Int)≤x1:=a1
 have b1:x1≤(9999:Int):=b1
 obtain⟨⟨a2,b2⟩,h⟩:=aY.mp h
 have a2:(-1000000000000000:Int)≤x2:=a2
 have b2:x2≤(1000000000000000:Int):=b2
 exact .c3 _ _ _ _ _ (by omega) (by omega) (by omega) (by omega)
theorem VO(x0 x1:Int):Dec 4 [x0,x1] [[4,x0,x1]]:=by
 refine fj (b:=inR [4,5] [x0,x1]) rfl (VC x0 x1) fun h=>?_
 obtain⟨⟨a0,b0⟩,h⟩:=aY.mp h
 have a0:(1:Int)≤x0:=a0
 have b0:x0≤(16:Int):=b0
 obtain⟨⟨a1,b1⟩,h⟩:=aY.mp h
 have a1:(0:Int)≤x1:=a1
 have b1:x1≤(9999:Int):=b1
 exact .c4 _ _ _ _ (by omega) (by omega) (by omega) (by omega)
theorem VP(x0:Int):Dec 5 [x0] [[5,x0]]:=by
 refine fj (b:=inR [5] [x0]) rfl (VD x0) fun h=>?_
 obtain⟨⟨a0,b0⟩,h⟩:=aY.mp h
 have a0:(0:Int)≤x0:=a0
 have b0:x0≤(9999:Int):=b0
 exact .c5 _ _ (by omega) (by omega)
theorem VQ(x0 x1:Int):Dec 6 [x0,x1] [[6,x0,x1]]:=by
 refine fj (b:=inR [4,7] [x0,x1]) rfl (VE x0 x1) fun h=>?_
 obtain⟨⟨a0,b0⟩,h⟩:=aY.mp h
 have a0:(1:Int)≤x0:=a0
 have b0:x0≤(16:Int):=b0
 obtain⟨⟨a1,b1⟩,h⟩:=aY.mp h
 have a1:(1:Int)≤x1:=a1
 have b1:x1≤(1000000000000000:Int):=b1
 exact .c6 _ _ _ _ (by omega) (by omega) (by omega) (by omega)
theorem VR(x0 x1:Int):Dec 7 [x0,x1] [[7,x0,x1]]:=by
 refine fj (b:=inR [4,7] [x0,x1]) rfl (VF x0 x1) fun h=>?_
 obtain⟨⟨a0,b0⟩,h⟩:=aY.mp h
 have a0:(1:Int)≤x0:=a0
 have b0:x0≤(16:Int):=b0
 obtain⟨⟨a1,b1⟩,h⟩:=aY.mp h
 have a1:(1:Int)≤x1:=a1
 have b1:x1≤(1000000000000000:Int):=b1
 exact .c7 _ _ _ _ (by omega) (by omega) (by omega) (by omega)
theorem VS(x0 x1:Int):Dec 8 [x0,x1] [[8,x0,x1]]:=by
 refine fj (b:=inR [4,7] [x0,x1]) rfl (VG x0 x1) fun h=>?_
 obtain⟨⟨a0,b0⟩,h⟩:=aY.mp h
 have a0:(1:Int)≤x0:=a0
 have b0:x0≤(16:Int):=b0
 obtain⟨⟨a1,b1⟩,h⟩:=aY.mp h
 have a1:(1:Int)≤x1:=a1
 have b1:x1≤(1000000000000000:Int):=b1
 exact .c8 _ _ _ _ (by omega) (by omega) (by omega) (by omega)
theorem VT(x0 x1:Int):Dec 9 [x0,x1] [[9,x0,x1]]:=by
 refine fj (b:=inR [4,7] [x0,x1]) rfl (VH x0 x1) fun h=>?_
 obtain⟨⟨a0,b0⟩,h⟩:=aY.mp h
 have a0:(1:Int)≤x0:=a0
 have b0:x0≤(16:Int):=b0
 obtain⟨⟨a1,b1⟩,h⟩:=aY.mp h
 have a1:(1:Int)≤x1:=a1
 have b1:x1≤(1000000000000000:Int):=b1
 exact .c9 _ _ _ _ (by omega) (by omega) (by omega) (by omega)
theorem Sx(x0 x1:Int):Dec 10 [x0,x1] [[10,x0,x1]]:=by
 refine fj (b:=inR [4,7] [x0,x1]) rfl (Sh x0 x1) fun h=>?_
 obtain⟨⟨a0,b0⟩,h⟩:=aY.mp h
 have a0:(1:Int)≤x0:=a0
 have b0:x0≤(16:Int):=b0
 obtain⟨⟨a1,b1⟩,h⟩:=aY.mp h
 have a1:(1:Int)≤x1:=a1
 have b1:x1≤(1000000000000000:Int):=b1
 exact .Ys _ _ _ _ (by omega) (by omega) (by omega) (by omega)
theorem Sy(x0:Int):Dec 11 [x0] [[11,x0]]:=by
 refine fj (b:=inR [4] [x0]) rfl (Si x0) fun h=>?_
 obtain⟨⟨a0,b0⟩,h⟩:=aY.mp h
 have a0:(1:Int)≤x0:=a0
 have b0:x0≤(16:Int):=b0
 exact .Yt _ _ (by omega) (by omega)
theorem Sz(x0 x1:Int):Dec 12 [x0,x1] [[12,x0,x1]]:=by
 refine fj (b:=inR [4,7] [x0,x1]) rfl (Sj x0 x1) fun h=>?_
 obtain⟨⟨a0,b0⟩,h⟩:=aY.mp h
 have a0:(1:Int)≤x0:=a0
 have b0:x0≤(16:Int):=b0
 obtain⟨⟨a1,b1⟩,h⟩:=aY.mp h
 have a1:(1:Int)≤x1:=a1
 have b1:x1≤(1000000000000000:Int):=b1
 exact .c12 _ _ _ _ (by omega) (by omega) (by omega) (by omega)
theorem SA(x0:Int):Dec 13 [x0] [[13,x0]]:=by
 refine fj (b:=inR [5] [x0]) rfl (Sk x0) fun h=>?_
 obtain⟨⟨a0,b0⟩,h⟩:=aY.mp h
 have a0:(0:Int)≤x0:=a0
 have b0:x0≤(9999:Int):=b0
 exact .Yu _ _ (by omega) (by omega)
theorem SD(x0 x1:Int):Dec 14 [x0,x1] [[14,x0,x1]]:=by
 refine fj (b:=inR [4,5] [x0,x1]) rfl (Sl x0 x1) fun h=>?_
 obtain⟨⟨a0,b0⟩,h⟩:=aY.mp h
 have a0:(1:Int)≤x0:=a0
 have b0:x0≤(16:Int):=b0
 obtain⟨⟨a1,b1⟩,h⟩:=aY.mp h
 have a1:(0:Int)≤x1:=a1
 have b1:x1≤(9999:Int):=b1
 exact .Yv _ _ _ _ (by omega) (by omega) (by omega) (by omega)
theorem SE(x0:Int):Dec 15 [x0] [[15,x0]]:=by
 refine fj (b:=inR [8] [x0]) rfl (Sn x0) fun h=>?_
 obtain⟨⟨a0,b0⟩,h⟩:=aY.mp h
 have a0:(1:Int)≤x0:=a0
 have b0:x0≤(256:Int):=b0
 exact .Yw _ _ (by omega) (by omega)
theorem SG(x0:Int):Dec 16 [x0] [[16,x0]]:=by
 refine fj (b:=inR [4] [x0]) rfl (So x0) fun h=>?_
 obtain⟨⟨a0,b0⟩,h⟩:=aY.mp h
 have a0:(1:Int)≤x0:=a0
 have b0:x0≤(16:Int):=b0
 exact .Yx _ _ (by omega) (by omega)
theorem SH(x0:Int):Dec 17 [x0] [[17,x0]]:=by
 refine fj (b:=inR [4] [x0]) rfl (Sq x0) fun h=>?_
 obtain⟨⟨a0,b0⟩,h⟩:=aY.mp h
 have a0:(1:Int)≤x0:=a0
 have b0:x0≤(16:Int):=b0
 exact .Yy _ _ (by omega) (by omega)
theorem SI:Dec 18 [] [[18]]:=by
 exact .inr ⟨rfl,_,rfl,.Yz⟩
theorem SJ:Dec 19 [] [[19]]:=by
 exact .inr ⟨rfl,_,rfl,.YA⟩
theorem SK:Dec 20 [] [[20]]:=by
 exact .inr ⟨rfl,_,rfl,.YB⟩
theorem SM(x0:Int):Dec 21 [x0] [[21,x0]]:=by
 refine fj (b:=inR [5] [x0]) rfl (Ss x0) fun h=>?_
 obtain⟨⟨a0,b0⟩,h⟩:=aY.mp h
 have a0:(0:Int)≤x0:=a0
 have b0:x0≤(9999:Int):=b0
 exact .YC _ _ (by omega) (by omega)
theorem SN(x0:Int):Dec 22 [x0] [[22,x0]]:=by
 refine fj (b:=inR [4] [x0]) rfl (Su x0) fun h=>?_
 obtain⟨⟨a0,b0⟩,h⟩:=aY.mp h
 have a0:(1:Int)≤x0:=a0
 have b0:x0≤(16:Int):=b0
 exact .YD _ _ (by omega) (by omega)
theorem SO(x0 x1:Int):Dec 23 [x0,x1] [[23,x0,x1]]:=by
 refine fj (b:=inR [4,5] [x0,x1]) rfl (Sv x0 x1) fun h=>?_
 obtain⟨⟨a0,b0⟩,h⟩:=aY.mp h
 have a0:(1:Int)≤x0:=a0
 have b0:x0≤(16:Int):=b0
 obtain⟨⟨a1,b1⟩,h⟩:=aY.mp h
 have a1:(0:Int)≤x1:=a1
 have b1:x1≤(9999:Int):=b1
 exact .YE _ _ _ _ (by omega) (by omega) (by omega) (by omega)
theorem SQ(x0:Int):Dec 24 [x0] [[24,x0]]:=by
 refine fj (b:=inR [9] [x0]) rfl (Sw x0) fun h=>?_
 obtain⟨⟨a0,b0⟩,h⟩:=aY.mp h
 have a0:(-1000000000000000000:Int)≤x0:=a0
 have b0:x0≤(1000000000000000000:Int):=b0
 exact .YF _
theorem K_{row:List Int}:inR (List.replicate row.length 10) row=true↔∀z∈row,0≤z∧z≤1000000000000000:=by
 induction row with
 |nil=>exact⟨fun _ z hz=>(by cases hz),fun _=>rfl⟩
 |cons x row ih=>
  rw[aax,aa9,aY,ih]
  constructor
  ·rintro⟨h1,h2⟩ z hz
   rcases aas.mp hz with rfl |hz
   ·exact h1
   ·exact h2 z hz
  ·intro h
   exact⟨h x aau,fun z hz=>h z (aap _ hz)⟩
theorem SR(x0 x1 x2 x3:Int)(row:List Int):Dec 25 (x0::x1::x2::x3::(row.length:Int)::row) [[25,x0,x1,x2,x3],row]:=by
 have e0:inN 25 (x0::x1::x2::x3::(row.length:Int)::row)=inR ([10,10,10,10,11]++List.replicate row.length 10) (x0::x1::x2::x3::(row.length:Int)::row):=rfl
 have e1:decode [[25,x0,x1,x2,x3],row]=Vbemal.guard (inR ([10,10,10,10,11]++List.replicate row.length 10) (x0::x1::x2::x3::(row.length:Int)::row)) (.loss x0.toNat x1.toNat x2.toNat x3.toNat (row.map Int.toNat)):=by
  show Vbemal.guard _ _=_
  congr 1
  have h1:inR ([10,10,10,10,11]++List.replicate row.length 10) (x0::x1::x2::x3::(row.length:Int)::row)=(inside x0 0 MONEY&&(inside x1 0 MONEY&&(inside x2 0 MONEY&&(inside x3 0 MONEY&&(inside (row.length:Int) 0 16&&inR (List.replicate row.length 10) row))))):=rfl
  have h2:inR (List.replicate row.length 10) row=row.all fun n=>inside n 0 MONEY:=by
   rw[abD,K_,ab8]
   constructor
   ·exact fun h z hz=>rj.mpr (h z hz)
   ·exact fun h z hz=>rj.mp (h z hz)
  have h3:inside (row.length:Int) 0 16=decide (row.length≤MEMBERS):=by
   rw[abD,rj,abY]
   show _↔row.length≤16
   omega
  rw[h1,h2,h3]
  show((inside x0 0 MONEY&&(inside x1 0 MONEY&&(inside x2 0 MONEY&&(inside x3 0 MONEY&&true))))&&_)=_
  simp only[aaR,Bool.and_assoc]
 refine fj e0 e1 fun h=>?_
 obtain⟨a0,h⟩:=aY.mp h
 obtain⟨a1,h⟩:=aY.mp h
 obtain⟨a2,h⟩:=aY.mp h
 obtain⟨a3,h⟩:=aY.mp h
 obtain⟨a4,h⟩:=aY.mp h
 have h:=K_.mp h
 have a0:(0:Int)≤x0∧x0≤1000000000000000:=a0
 have a1:(0:Int)≤x1∧x1≤1000000000000000:=a1
 have a2:(0:Int)≤x2∧x2≤1000000000000000:=a2
 have a3:(0:Int)≤x3∧x3≤1000000000000000:=a3
 have a4:(0:Int)≤(row.length:Int)∧(row.length:Int)≤16:=a4
 refine .YG _ _ _ _ _ _ _ _ _ _ (by omega) (by omega) (by omega) (by omega) ?_ (by omega) (by rw[DS];omega) fun z hz=>?_
 ·rw[abe]
  conv=>lhs;rw[←List.map_id row]
  refine abk fun z hz=>?_
  have:=h z hz
  show z=((z.toNat:Nat):Int)
  omega
 ·obtain⟨y,hy,rfl⟩:=aaE.mp hz
  have:=h y hy
  omega
theorem Oe{n:Nat}{args:List Int}{c:List (List Int)}(h:vm n args c):Dec n args c:=by
 rcases h with⟨hn,hl,rfl⟩ |⟨rfl,x0,x1,x2,x3,row,rfl,rfl⟩
 ·match n,hn,args,hl with
  |0,_,[x0,x1,x2],_=>exact VJ x0 x1 x2
  |1,_,[],_=>exact VL
  |2,_,[x0],_=>exact VM x0
  |3,_,[x0,x1,x2],_=>exact VN x0 x1 x2
  |4,_,[x0,x1],_=>exact VO x0 x1
  |5,_,[x0],_=>exact VP x0
  |6,_,[x0,x1],_=>exact VQ x0 x1
  |7,_,[x0,x1],_=>exact VR x0 x1
  |8,_,[x0,x1],_=>exact VS x0 x1
  |9,_,[x0,x1],_=>exact VT x0 x1
  |10,_,[x0,x1],_=>exact Sx x0 x1
  |11,_,[x0],_=>exact Sy x0
  |12,_,[x0,x1],_=>exact Sz x0 x1
  |13,_,[x0],_=>exact SA x0
  |14,_,[x0,x1],_=>exact SD x0 x1
  |15,_,[x0],_=>exact SE x0
  |16,_,[x0],_=>exact SG x0
  |17,_,[x0],_=>exact SH x0
  |18,_,[],_=>exact SI
  |19,_,[],_=>exact SJ
  |20,_,[],_=>exact SK
  |21,_,[x0],_=>exact SM x0
  |22,_,[x0],_=>exact SN x0
  |23,_,[x0,x1],_=>exact SO x0 x1
  |24,_,[x0],_=>exact SQ x0
  |n+25,hn,_,_=>exact absurd hn (by omega)
 ·exact SR _ _ _ _ _
structure Extra(s:State):Prop where
 per:∀e∈s.entries,e.period≤9999
 Ot:∀f∈s.failures,f.othersLeft.sum<2^90
theorem Extra.of{s t:State}(h:Extra s)(e1:t.entries=s.entries)(e2:t.failures=s.failures):Extra t:=⟨fun e he=>h.per e (e1▸he),fun f hf=>h.Ot f (e2▸hf)⟩
theorem Iw:Extra Vbemal.start:=⟨fun e he=>(by cases he),fun f hf=>(by cases hf)⟩
theorem La{l:List En}{x:En}(hs:l.Pairwise wL)(h:∀e∈l,e.period≤9999)(hx:x.period≤9999):∀e∈putEntry x l,e.period≤9999:=fun e he=>by
 rcases Bo hs he with rfl |he
 ·exact hx
 ·exact h e he
theorem Bk(s:State)(m q:Nat):(billed s m q).failures=s.failures:=by
 rw[ki]
 split
 ·rfl
 ·split<;>rfl
theorem x_:∀{a b:List Nat},a.length=b.length→(∀i,Vbemal.nth a i≤Vbemal.nth b i)→a.sum≤b.sum
 |[],[],_,_=>D9 _
 |[],_::_,h,_=>by simp at h
 |_::_,[],h,_=>by simp at h
 |x::a,y::b,h,hn=>by
  have h0:x≤y:=hn 0
  have h1:=x_ (a:=a) (b:=b) (by simpa using h) fun i=>hn (i+1)
  rw[aaU,aaU]
  omega
theorem zH{n:Nat}{s:State}(c:Core n s)(x:Extra s){m q:Nat}(hq:q≤9999):Extra (billed s m q):=by
 refine⟨?_,fun f hf=>x.Ot f (by rw[←Bk s m q];exact hf)⟩
 rw[tL]
 exact La c.fP x.per (by rw[(sR c.fP).2];exact hq)
theorem Dm{n q:Nat}(hq:q≤9999):∀(l:List Nat) {s:State},Core n s→Extra s→(∀m∈l,(0<m∧m≤s.members.length)∧hasEntry s m q=true)→Extra (l.foldl (fun t m=>billed t m q) s)
 |[],s,_,x,_=>x
 |m::l,s,c,x,h=>by
  obtain⟨h1,h2⟩:=h m aau
  exact Dm hq l (s:=billed s m q) (lH c h1.1 h1.2 h2) (zH c x hq) fun k hk=>by
   obtain⟨h3,h4⟩:=h k (aap _ hk)
   rw[kY,qZ c.fP h2]
   exact⟨h3,h4⟩
theorem Dn{l:List (List Int)}{k:Nat}(h:∀r∈l,r.length≤k):(rows l).length≤1+k*l.length:=by
 unfold rows
 rw[aax]
 have:=Gx h
 omega
theorem AZ(s t:State):(rows (newOnes s t)).length≤1+4*t.invoices.length:=by
 rw[wU]
 unfold rows
 rw[aax,oO,abw]
 omega
def SS(t:State)(l:List Int):Prop:=Extra t∧l.length≤2000
theorem fF{t t':State}{a l:List Int}(h:booked t a=.ok (t',l))(x:Extra t)(ha:a.length≤2000):SS t' l:=by
 obtain⟨rfl,rfl,_⟩:=fJ h
 exact⟨x,ha⟩
theorem gW{t t':State}{a l:List Int}(h:(.ok (t,a):Res)=.ok (t',l))(x:Extra t)(ha:a.length≤2000):SS t' l:=by
 cases h
 exact⟨x,ha⟩
theorem Of{n:Nat}{args:List Int}{k:Nat}{s t:State}{c:Call}{l:List Int}(fc:x9 n args c)(g:Good k s)(x:Extra s)(h:does s c=.ok (t,l)):SS t l:=by
 have hI:=g.sV
 have CS:=g.core.fO
 cases fc with
 |c0=>simp only[does]at h;repeat' (first |exact gW h ⟨x.per,x.Ot⟩ (aa0 _) |(cases h;done) |split at h)
 |c1=>simp only[does]at h;repeat' (first |exact gW h ⟨x.per,x.Ot⟩ (D5 rfl) |(cases h;done) |split at h)
 |c2=>simp only[does]at h;repeat' (first |exact gW h ⟨x.per,x.Ot⟩ (aa0 _) |(cases h;done) |split at h)
 |c3 x0 x1 x2 m p _ _ _ hp=>
  simp only[does]at h
  split at h
  ·cases h
  ·split at h
   ·cases h
   ·split at h
    ·cases h
    ·split at h
     ·cases h
     ·split at h
      ·cases h
      ·refine fF h ⟨?_,x.Ot⟩ (D5 rfl)
       exact La g.core.fP x.per (by show(entryOf s m p).period≤9999;rw[(oK s g.core.fP).2];exact hp)
 |c4 x0 x1 m p _ _ _ hp=>
  simp only[does]at h
  split at h
  ·cases h
  ·split at h
   ·cases h
   ·split at h
    ·cases h
    ·split at h
     ·cases h
     ·split at h
      ·exact gW h x (D5 rfl)
      ·refine fF h (zH g.core x hp) ?_
       have h1:=AZ s (billed s m p)
       have h2:=iZ s m p
       have h3:(if due s m p=0 then 0 else 1)≤1:=by split<;>omega
       omega
 |c5 x0 p _ hp=>
  simp only[does]at h
  split at h
  ·cases h
  ·split at h
   ·cases h
   ·rename_i hi
    have ok':∀m∈billable s p,(0<m∧m≤s.members.length)∧hasEntry s m p=true:=fun m hm=>⟨(eg hm).1,lI (eg hm).2.2⟩
    refine fF h (Dm hp _ g.core x ok') ?_
    have h1:=AZ s ((billable s p).foldl (fun t m=>billed t m p) s)
    have h2:¬256<((billable s p).foldl (fun t m=>billed t m p) s).invoices.length:=hi
    omega
 |c6=>simp only[does]at h;repeat' (first |exact fF h (x.of rfl rfl) (D5 rfl) |(cases h;done) |split at h)
 |c7=>simp only[does]at h;repeat' (first |exact fF h (x.of rfl rfl) (D5 rfl) |(cases h;done) |split at h)
 |c8=>simp only[does]at h;repeat' (first |exact fF h (x.of rfl rfl) (D5 rfl) |(cases h;done) |split at h)
 |c9=>simp only[does]at h;repeat' (first |exact fF h (x.of rfl rfl) (D5 rfl) |(cases h;done) |split at h)
 |Ys=>simp only[does]at h;repeat' (first |exact fF h (x.of rfl rfl) (D5 rfl) |(cases h;done) |split at h)
 |Yt x0 m _ _=>
  simp only[does]at h
  split at h
  ·cases h
  ·rename_i y hy
   split at h
   ·cases h
   ·split at h
    ·cases h
    ·refine fF h ⟨x.per,fun f hf=>?_⟩ ?_
     ·rcases aaV.mp hf with hf |hf
      ·exact x.Ot f hf
      ·rw[aa5.mp hf]
       refine aaL (x_ (b:=funds s m) ?_ (EA s m y)) (Fd g.bnd CS m)
       show(aN s m y).others.length=_
       rw[iS,mJ]
     ·have:=iS s m y
      show([_,_,_,_,_]++(aN s m y).others.map nat).length≤2000
      rw[aat,DS]
      show 5+_≤_
      omega
 |c12 x0 x1 m c _ _ _ _=>
  simp only[does]at h
  split at h
  ·cases h
  ·split at h
   ·cases h
   ·rename_i f hf
    have fm:=gp hf
    have ol:=(g.core.gx f fm.1).2
    split at h
    ·cases h
    ·refine fF h ⟨x.per,fun f' hf'=>?_⟩ ?_
     ·obtain⟨y,hy,rfl⟩:=aaE.mp (show f'∈s.failures.map fun h=>if h.m=f.m then yk f c else h from hf')
      split
      ·refine aaL (x_ (b:=f.othersLeft) ?_ fun i=>?_) (x.Ot f fm.1)
       ·show((List.range f.othersLeft.length).map _).length=_
        rw[DS,aaN]
       ·show Vbemal.nth (zj f.othersLeft (dR f c)) i≤_
        by_cases hi:i<f.othersLeft.length
        ·rw[BF (E5 hi)];omega
        ·rw[Ft (l:=zj f.othersLeft (dR f c)) (by unfold zj;rw[DS,aaN];omega)];omega
      ·exact x.Ot y hy
     ·show([_,_,_]++(dR f c).map nat).length≤2000
      rw[aat,DS,show(dR f c).length=f.othersLeft.length from fk _ _]
      show 3+_≤_
      omega
 |Yu=>simp only[does]at h;repeat' (first |exact gW h (x.of rfl rfl) (aa0 _) |(cases h;done) |split at h)
 |Yv=>simp only[does]at h;repeat' (first |exact gW h x (D5 rfl) |(cases h;done) |split at h)
 |Yw=>simp only[does]at h;repeat' (first |exact gW h x (D5 rfl) |(cases h;done) |split at h)
 |Yx x0 m=>
  simp only[does]at h
  split at h
  ·cases h
  ·refine gW h x ?_
   refine aaD (Dn (k:=3) fun r hr=>?_) ?_
   ·obtain⟨y,_,e⟩:=abn.mp hr
    split at e
    ·cases e;exact D9 _
    ·cases e
   ·have:=Ay (Eg m) s.invoices
    have e:(((List.range s.invoices.length).zip s.invoices).filterMap (Eg m)).length≤256:=by omega
    exact aaD (acz (abQ 3 e) 1) (D5 rfl)
 |Yy=>simp only[does]at h;repeat' (first |exact gW h x (D5 rfl) |(cases h;done) |split at h)
 |Yz=>
  refine gW h x ?_
  refine aaD (Dn (k:=3) fun r hr=>?_) ?_
  ·obtain⟨y,_,e⟩:=abn.mp hr
   split at e
   ·cases e
   ·cases e;exact aaX 2
  ·have h1:=ab' (Eh s) (membersOf s)
   rw[iY]at h1
   have e:((membersOf s).filterMap (Eh s)).length≤16:=by omega
   exact aaD (acz (abQ 3 e) 1) (D5 rfl)
 |YA=>
  refine gW h x ?_
  refine aaD (Dn (k:=3) fun r hr=>?_) ?_
  ·obtain⟨y,_,e⟩:=abn.mp hr
   split at e
   ·cases e;exact D9 _
   ·cases e
  ·have:=Ay (GA s) s.invoices
   have e:(((List.range s.invoices.length).zip s.invoices).filterMap (GA s)).length≤256:=by omega
   exact aaD (acz (abQ 3 e) 1) (D5 rfl)
 |YB=>exact gW h x (D5 rfl)
 |YC=>exact gW h x (D5 rfl)
 |YD x0 m=>
  simp only[does]at h
  split at h
  ·cases h
  ·rename_i f hf
   have ol:=(g.core.gx f (gp hf).1).2
   refine gW h x ?_
   rw[aat,DS]
   show 7+_≤_
   omega
 |YE=>simp only[does]at h;repeat' (first |exact gW h x (D5 rfl) |(cases h;done) |split at h)
 |YF=>exact gW h x (D5 rfl)
 |YG x0 x1 x2 x3 row n0 n1 n2 n3 r _ _ _ _ _ _ s1 _=>
  refine gW h x ?_
  rw[aat,DS,AA]
  show 4+_≤_
  omega
theorem Iz{n:Nat}{args:List Int}{c:List (List Int)}{k:Nat}{s:State}(hc:vm n args c)(g:Good k s)(x:Extra s):Extra (stepNumbers s c).1∧(stepNumbers s c).2.length≤2001∧0<(stepNumbers s c).2.length:=by
 unfold stepNumbers
 rcases Oe hc with⟨_,e⟩ |⟨_,call,e,fc⟩
 ·rw[e]
  exact⟨x,D5 rfl,acp _⟩
 ·rw[e]
  show Extra (Vbemal.step s call).1∧(Vbemal.step s call).2.length≤2001∧0<(Vbemal.step s call).2.length
  unfold Vbemal.step
  split
  ·exact⟨x,D5 rfl,acp _⟩
  ·split
   ·exact⟨x,D5 rfl,acp _⟩
   ·rename_i t l h
    obtain⟨h1,h2⟩:=Of fc g x h
    exact⟨h1,Nat.succ_le_succ h2,acp _⟩
theorem Ms{s:State}{c:List (List Int)}(h:(stepNumbers s c).2.head?≠some 0):(stepNumbers s c).1=s:=by
 unfold stepNumbers at h⊢
 split
 ·rfl
 ·rename_i call e
  rw[e]at h
  have h:(Vbemal.step s call).2.head?≠some 0:=h
  unfold Vbemal.step at h⊢
  split
  ·rfl
  ·rename_i h1
   rw[D6 h1]at h
   split
   ·rfl
   ·rename_i t l h2
    rw[h2]at h
    exact absurd rfl h
def QJ(c:Cs)(H:Hp)(Z p:Addr)(d:AD)(r:State×Ans)(Q:VK):Prop:=∀H' l,H' l=some (.lst (aO r.2))→l≠Z→(∃d',aM H p d H' d'∧kc c H'∧(r.2.head? =some 0→aj c H' Z p d' r.1))→Q (.ref l) H'
theorem Fg{n:Nat}{args:List Int}{c:Call}(h:x9 n args c):(n=0∧isOpens c=true)∨(n≠0∧isOpens c=false):=by
 cases h with
 |c0=>exact .inl ⟨rfl,rfl⟩
 |_=>exact .inr ⟨by decide,rfl⟩
section
variable{P:Program}{w:World}{K:W.Frag}{mg:Str→Option Value}{base:Heap}{t:TX}
theorem P8(T:Txt K mg t){H:Hp}{Q:VK}{E:XK}{Z p a:Addr}{d:AD}{s:State}{k n:Nat}{args:List Int}{call:Call}(fc:x9 n args call)(hh:aj t.c H Z p d s)(g:Good k s)(hk:k<400)(x:Extra s)(ho:n=0∨s.opened=true)(ha:bD K H a (aO args))(po:Post t.c H Z p d (does s call) Q):sr P w K mg t.b [.ref (t.f (kW n).1),.ref p,.ref a] H Q E:=by
 have pre:(n=0∨¬n=0)→n≠0→Pre t.c H Z p d s k:=fun _ h=>⟨hh,g,hk,ho.resolve_left h⟩
 have pre:(False∨n≠0)→Pre t.c H Z p d s k:=fun h=>⟨hh,g,hk,ho.resolve_left (h.resolve_left id)⟩
 cases fc with
 |c0 x0 x1 x2 n0 n1 n2 e0 e1 e2=>
  subst e0
  subst e1
  subst e2
  exact⟨t.f _,p,a,_,_,t.fd _,_,wD t,rfl,ha,D5 rfl,Ed (P:=P) (w:=w) T,T.rS.kp,F8 T.rS,.inr (.inr (.inr (.inl ⟨_,_,_,rfl,⟨Z,p,d,s,n0,n1,n2,rfl,hh,po⟩⟩)))⟩
 |c1=>
  exact⟨t.f _,p,a,_,_,t.fd _,_,wF t,rfl,ha,D5 rfl,Ef (P:=P) (w:=w) T,T.rT.kp,F9 T.rT,.inl ⟨rfl,⟨Z,p,d,s,k,rfl,pre (.inr (by decide)),po⟩⟩⟩
 |c2 x0 n0 e0=>
  subst e0
  exact⟨t.f _,p,a,_,_,t.fd _,_,zu t,rfl,ha,D5 rfl,Gv (P:=P) (w:=w) T,T.uJ.kp,HS T.uJ,.inr (.inl ⟨_,rfl,⟨Z,p,d,s,k,n0,rfl,pre (.inr (by decide)),po⟩⟩)⟩
 |c3 x0 x1 x2 n0 n1 e0 s0 e1 s1=>
  subst e0
  subst e1
  exact⟨t.f _,p,a,_,_,t.fd _,_,zw t,rfl,ha,D5 rfl,Gw (P:=P) (w:=w) T,T.uK.kp,HU T.uK,.inr (.inr (.inr (.inl ⟨_,_,_,rfl,⟨Z,p,d,s,k,n0,n1,x2,rfl,pre (.inr (by decide)),s0,po⟩⟩)))⟩
 |c4 x0 x1 n0 n1 e0 s0 e1 s1=>
  subst e0
  subst e1
  exact⟨t.f _,p,a,_,_,t.fd _,_,K3 t,rfl,ha,D5 rfl,PV (P:=P) (w:=w) T,T.JO.kp,RT T.JO,.inr (.inr (.inl ⟨_,_,rfl,⟨Z,p,d,s,k,n0,n1,rfl,pre (.inr (by decide)),s0,po⟩⟩))⟩
 |c5 x0 n0 e0 s0=>
  subst e0
  exact⟨t.f _,p,a,_,_,t.fd _,_,AV t,rfl,ha,D5 rfl,Iq (P:=P) (w:=w) T,T.xF.kp,JM T.xF,.inr (.inl ⟨_,rfl,⟨Z,p,d,s,k,n0,rfl,pre (.inr (by decide)),po⟩⟩)⟩
 |c6 x0 x1 n0 n1 e0 s0 e1 s1=>
  subst e0
  subst e1
  exact⟨t.f _,p,a,_,_,t.fd _,_,N3 t,rfl,ha,D5 rfl,Sd (P:=P) (w:=w) T,T.NJ.kp,U1 T.NJ,.inr (.inr (.inl ⟨_,_,rfl,⟨Z,p,d,s,k,n0,n1,rfl,pre (.inr (by decide)),s0,po⟩⟩))⟩
 |c7 x0 x1 n0 n1 e0 s0 e1 s1=>
  subst e0
  subst e1
  exact⟨t.f _,p,a,_,_,t.fd _,_,E6 t,rfl,ha,D5 rfl,Mp (P:=P) (w:=w) T,T.Cy.kp,NG T.Cy,.inr (.inr (.inl ⟨_,_,rfl,⟨Z,p,d,s,k,n0,n1,rfl,pre (.inr (by decide)),s0,po⟩⟩))⟩
 |c8 x0 x1 n0 n1 e0 s0 e1 s1=>
  subst e0
  subst e1
  exact⟨t.f _,p,a,_,_,t.fd _,_,C3 t,rfl,ha,D5 rfl,J3 (P:=P) (w:=w) T,T.Ah.kp,Ma T.Ah,.inr (.inr (.inl ⟨_,_,rfl,⟨Z,p,d,s,k,n0,n1,rfl,pre (.inr (by decide)),s0,po⟩⟩))⟩
 |c9 x0 x1 n0 n1 e0 s0 e1 s1=>
  subst e0
  subst e1
  exact⟨t.f _,p,a,_,_,t.fd _,_,C4 t,rfl,ha,D5 rfl,J6 (P:=P) (w:=w) T,T.Ai.kp,Mb T.Ai,.inr (.inr (.inl ⟨_,_,rfl,⟨Z,p,d,s,k,n0,n1,rfl,pre (.inr (by decide)),s0,po⟩⟩))⟩
 |Ys x0 x1 n0 n1 e0 s0 e1 s1=>
  subst e0
  subst e1
  exact⟨t.f _,p,a,_,_,t.fd _,_,K1 t,rfl,ha,D5 rfl,PR (P:=P) (w:=w) T,T.JQ.kp,RV T.JQ,.inr (.inr (.inl ⟨_,_,rfl,⟨Z,p,d,s,k,n0,n1,rfl,pre (.inr (by decide)),s0,po⟩⟩))⟩
 |Yt x0 n0 e0 s0=>
  subst e0
  exact⟨t.f _,p,a,_,_,t.fd _,_,K7 t,rfl,ha,D5 rfl,P6 (P:=P) (w:=w) T,T.JP.kp,RU T.JP,.inr (.inl ⟨_,rfl,⟨Z,p,d,s,k,n0,rfl,pre (.inr (by decide)),s0,po⟩⟩)⟩
 |c12 x0 x1 n0 n1 e0 s0 e1 s1=>
  subst e0
  subst e1
  exact⟨t.f _,p,a,_,_,t.fd _,_,Di t,rfl,ha,D5 rfl,J_ (P:=P) (w:=w) T,T.Ag.kp,L_ T.Ag,.inr (.inr (.inl ⟨_,_,rfl,⟨Z,p,d,s,k,n0,n1,rfl,pre (.inr (by decide)),s0,by omega,x.Ot,po⟩⟩))⟩
 |Yu x0 n0 e0 s0=>
  subst e0
  exact⟨t.f _,p,a,_,_,t.fd _,_,sS t,rfl,ha,D5 rfl,Bf (P:=P) (w:=w) T,T.nO.kp,Cu T.nO,.inr (.inl ⟨_,rfl,⟨Z,p,d,s,k,n0,rfl,pre (.inr (by decide)),po⟩⟩)⟩
 |Yv x0 x1 n0 n1 e0 s0 e1 s1=>
  subst e0
  subst e1
  exact⟨t.f _,p,a,_,_,t.fd _,_,zA t,rfl,ha,D5 rfl,Gy (P:=P) (w:=w) T,T.uG.kp,HP T.uG,.inr (.inr (.inl ⟨_,_,rfl,⟨Z,p,d,s,k,n0,n1,rfl,pre (.inr (by decide)),s0,po⟩⟩))⟩
 |Yw x0 n0 e0 s0=>
  subst e0
  exact⟨t.f _,p,a,_,_,t.fd _,_,vd t,rfl,ha,D5 rfl,C9 (P:=P) (w:=w) T,T.qg.kp,DJ T.qg,.inr (.inl ⟨_,rfl,⟨Z,p,d,s,k,n0,rfl,pre (.inr (by decide)),s0,po⟩⟩)⟩
 |Yx x0 n0 e0 s0=>
  subst e0
  exact⟨t.f _,p,a,_,_,t.fd _,_,sU t,rfl,ha,D5 rfl,Bg (P:=P) (w:=w) T,T.nQ.kp,Cv T.nQ,.inr (.inl ⟨_,rfl,⟨Z,p,d,s,k,n0,rfl,pre (.inr (by decide)),s0,po⟩⟩)⟩
 |Yy x0 n0 e0 s0=>
  subst e0
  exact⟨t.f _,p,a,_,_,t.fd _,_,ve t,rfl,ha,D5 rfl,Dc (P:=P) (w:=w) T,T.qh.kp,DK T.qh,.inr (.inl ⟨_,rfl,⟨Z,p,d,s,k,n0,rfl,pre (.inr (by decide)),s0,po⟩⟩)⟩
 |Yz=>
  exact⟨t.f _,p,a,_,_,t.fd _,_,zC t,rfl,ha,D5 rfl,Gz (P:=P) (w:=w) T,T.uH.kp,HQ T.uH,.inl ⟨rfl,⟨Z,p,d,s,k,rfl,pre (.inr (by decide)),po⟩⟩⟩
 |YA=>
  exact⟨t.f _,p,a,_,_,t.fd _,_,vf t,rfl,ha,D5 rfl,Dd (P:=P) (w:=w) T,T.qi.kp,DL T.qi,.inl ⟨rfl,⟨Z,p,d,s,k,rfl,pre (.inr (by decide)),po⟩⟩⟩
 |YB=>
  exact⟨t.f _,p,a,_,_,t.fd _,_,wI t,rfl,ha,D5 rfl,Ei (P:=P) (w:=w) T,T.rQ.kp,F6 T.rQ,.inl ⟨rfl,⟨Z,p,d,s,k,rfl,pre (.inr (by decide)),po⟩⟩⟩
 |YC x0 n0 e0 s0=>
  subst e0
  exact⟨t.f _,p,a,_,_,t.fd _,_,zD t,rfl,ha,D5 rfl,GC (P:=P) (w:=w) T,T.uI.kp,HR T.uI,.inr (.inl ⟨_,rfl,⟨Z,p,d,s,k,n0,rfl,pre (.inr (by decide)),po⟩⟩)⟩
 |YD x0 n0 e0 s0=>
  subst e0
  exact⟨t.f _,p,a,_,_,t.fd _,_,vg t,rfl,ha,D5 rfl,De (P:=P) (w:=w) T,T.qj.kp,DM T.qj,.inr (.inl ⟨_,rfl,⟨Z,p,d,s,k,n0,rfl,pre (.inr (by decide)),fun f hf=>aaD (g.core.gx f hf).2 g.core.fO,po⟩⟩)⟩
 |YE x0 x1 n0 n1 e0 s0 e1 s1=>
  subst e0
  subst e1
  exact⟨t.f _,p,a,_,_,t.fd _,_,vh t,rfl,ha,D5 rfl,Df (P:=P) (w:=w) T,T.qk.kp,DN T.qk,.inr (.inr (.inl ⟨_,_,rfl,⟨Z,p,d,s,k,n0,n1,rfl,pre (.inr (by decide)),s0,po⟩⟩))⟩
 |YF x0=>
  exact⟨t.f _,p,a,_,_,t.fd _,_,wJ t,rfl,ha,D5 rfl,Ej (P:=P) (w:=w) T,T.rR.kp,F7 T.rR,.inr (.inl ⟨_,rfl,⟨Z,p,d,s,k,x0,rfl,pre (.inr (by decide)),po⟩⟩)⟩
 |YG x0 x1 x2 x3 row n0 n1 n2 n3 r e0 e1 e2 e3 e4 s0 s1 s2=>
  subst e0 e1 e2 e3 e4
  refine⟨t.f _,p,a,_,_,t.fd _,_,AW t,rfl,ha,D5 rfl,Ir (P:=P) (w:=w) T,T.xG.kp,JN T.xG,.inr (.inr (.inr (.inr ⟨_,_,_,_,_,_,rfl,fun b hb=>?_⟩)))⟩
  have sb:=ao.new (o:=.lst (aO (r.map fun(n:Nat)=>(n:Int)))) hb
  have pr:=pre (.inr (by decide))
  refine⟨Z,p,d,s,k,n0,n1,n2,n3,r,b,rfl,⟨hh.mono sb,g,hk,pr.op⟩,by rw[af,uW],s1,by omega,?_,fun H' l Mx hl hz ⟨d',kp,tb,r'⟩=>po H' l Mx hl hz ⟨d',(aM.same sb).trans kp,tb,r'⟩⟩
  have:=sum_bound s2
  have:(1000000000000000:Nat)*r.length≤1000000000000000*16:=abQ _ s1
  omega
theorem post_of{H:Hp}{Q:VK}{c:Cs}{Z p:Addr}{d:AD}{s:State}{call:Call}{cs:List (List Int)}(e:decode cs=some call)(h:¬(s.opened=false∧isOpens call=false))(po:QJ c H Z p d (stepNumbers s cs) Q):Post c H Z p d (does s call) Q:=by
 intro H' l Mx hl hz ⟨d',kp,tb,hr⟩
 have e1:stepNumbers s cs=Vbemal.step s call:=by unfold stepNumbers;rw[e]
 rw[e1]at po
 unfold Vbemal.step at po
 rw[D6 h]at po
 cases hd:does s call with
 |error q=>
  rw[hd]at po hr
  have hr:Mx=[q]∧q≠0:=hr
  refine po H' l (by rw[hl,hr.1]) hz ⟨d',kp,tb,fun z=>?_⟩
  have z:some q=some 0:=z
  exact absurd (aar z) hr.2
 |ok v=>
  obtain⟨s',b⟩:=v
  rw[hd]at po hr
  have hr:Mx=0::b∧aj c H' Z p d' s':=hr
  exact po H' l (by rw[hl,hr.1]) hz ⟨d',kp,tb,fun _=>hr.2⟩
theorem P9{n:Nat}(h:n≤25):∀u∈(kW n).2,u<12:=by
 have:∀m:Fin 26,∀u∈(kW m.1).2,u<12:=by decide+kernel
 exact this ⟨n,Nat.lt_succ_of_le h⟩
theorem IA{n:Nat}{args:List Int}{c:List (List Int)}(h:vm n args c):n≤25∧(kW n).2.length≤args.length:=by
 rcases h with⟨h1,h2,_⟩ |⟨rfl,x0,x1,x2,x3,row,rfl,_⟩
 ·exact⟨by omega,by omega⟩
 ·exact⟨by decide,by show 5≤_;simp⟩
def zI(K:W.Frag)(t:TX):Sp:=fun vs H Q _=>∃Z p d s k n args a c,vs=[.ref p,vn n,.ref a]∧aj t.c H Z p d s∧Good k s∧k<400∧Extra s∧bD K H a (aO args)∧args.length≤1000∧vm n args c∧QJ t.c H Z p d (stepNumbers s c) Q
theorem zJ(T:Txt K mg t):bE P w K mg t.b fG 11 (t.f 75) (t.fd 75) ["house","place","arguments"] (zI K t):=by
 have Dq:=Bj (P:=P) (w:=w) T
 have AE:=Dk (P:=P) (w:=w) T
 have IB:=GG (P:=P) (w:=w) T
 refine T.kO.ok o8 (fun vs H Q E h=>?_) (fun cdv A outer s0 H vs Q E hr h=>?_)
 ·obtain⟨Z,p,d,s,k,n,args,a,c,rfl,_⟩:=h
  rfl
 ·obtain⟨Z,p,d,s,k,n,args,a,c,rfl,hh,g,hk,x,ha,EU,hc,po⟩:=h
  obtain⟨hn,hle⟩:=IA hc
  refine⟨_,(ah (aE (i:=3) o8.nd rfl (Or.inl rfl) (aF AE (hr.mono (by decide)) rfl T.EW T.qK.kp (EV T.qK) .nil aI (aa (pv 1) ai))) (ah (bZ (BY (ja (aF Dq (hr.mono (by decide)) rfl T.CD T.nT.kp (Cw T.nT) .nil aI (aa (pv 2) (aa (cz tW (pv 3) aG (fun _ _=>rfl)) ai))))) (ay (aC (aK (aa (au rfl T.CG ri) ai)))) bw) (ah (bZ (PW.pt (BX (aU j_ (pv 1) (au rfl T.Gh ri) (bh _)) (yo (BY (ja (ak (pv 0) rfl)))))) (ay (aC (aK (aa (au rfl T.An ri) ai)))) bw) (ay (aC (aF IB (hr.mono (by decide)) rfl T.Ib T.uL.kp (HV T.uL) .nil aI (aa (cz tW (pv 3) aG (fun _ _=>rfl)) (aa (pv 0) (aa (pv 2) ai))))))))),?_⟩
  refine⟨_,rfl,n,rfl,hn,fun H1 cl R s1 hcl hR=>?_⟩
  refine⟨_,rfl,_,rfl,cl,_,1,_,rfl,rfl,i6.of hcl,rfl,a,R,args,(kW n).2,rfl,Oq s1 ha,hR,hle,EU,P9 hn,fun H2 s2=>⟨_,rfl,?_⟩⟩
  have QI:=s1.trans s2
  have Ds:=hh.mono QI
  have VU:=s2 _ _ hcl
  rcases Oe hc with⟨ei,ed⟩ |⟨ei,call,ed,fc⟩
  ·have ei:inR ((kW n).2++List.replicate (args.length-(kW n).2.length) 10) args=false:=ei
   rw[ei]
   have es:stepNumbers s c=(s,[-1]):=by unfold stepNumbers;rw[ed]
   rw[es]at po
   refine⟨lz rfl,fun l hl=>?_⟩
   have s3:=QI.trans (ao.new (o:=.lst [.int (-1)]) hl)
   exact po _ l af (Ds.h_ hl).2 ⟨d,aM.same s3,(hh.mono s3).tb,fun z=>by cases z⟩
  ·have ei:inR ((kW n).2++List.replicate (args.length-(kW n).2.length) 10) args=true:=ei
   rw[ei]
   refine⟨_,rfl,rfl,_,rfl,?_⟩
   have go:(n=0∨s.opened=true)→∀v,sr P w K mg t.b [.ref (t.f (kW n).1),.ref p,.ref a] H2 Q v:=fun ho v=>by
    refine P8 T fc Ds g hk x ho (Oq QI ha) (post_of ed ?_ fun H' l hl hz ⟨d',kp,tb,r'⟩=>po H' l hl hz ⟨d',(aM.same QI).trans kp,tb,r'⟩)
    rintro⟨h1,h2⟩
    rcases ho with h |h
    ·rcases Fg fc with⟨_,z⟩ |⟨z,_⟩
     ·rw[z]at h2;cases h2
     ·exact z h
    ·rw[h]at h1;cases h1
   by_cases h0:n=0
   ·refine tF (by rw[h0];rfl) ⟨_,rfl,cl,_,0,_,rfl,rfl,i6.of VU,rfl,_,rfl,_,rfl,go (.inl h0) E0⟩
   ·refine tE (fun z=>h0 (by have:=bG z;omega)) ⟨_,rfl,_,_,_,_,_,rfl,Ds.ins,T.bS,T.kU,xo d s,_,rfl,?_⟩
    cases ho:s.opened with
    |false=>
     have es:stepNumbers s c=(s,[-2]):=by
      unfold stepNumbers
      rw[ed]
      show Vbemal.step s call=_
      unfold Vbemal.step
      rw[D7 ⟨ho,(Fg fc).elim (fun z=>absurd z.1 h0) (·.2)⟩]
     rw[es]at po
     refine⟨lz rfl,fun l hl=>?_⟩
     have s3:=QI.trans (ao.new (o:=.lst [.int (-2)]) hl)
     exact po _ l af (Ds.h_ hl).2 ⟨d,aM.same s3,(hh.mono s3).tb,fun z=>by cases z⟩
    |true=>exact⟨_,rfl,cl,_,0,_,rfl,rfl,i6.of VU,rfl,_,rfl,_,rfl,go (.inr ho) E0⟩
end
theorem A0{n:Nat}(h:n≤9999):hashInt (n:Int)=(n:Int):=by
 have e:rawHash (n:Int)=(n:Int):=by
  unfold rawHash
  have:¬((n:Int)<0):=by omega
  simp only[this,aa4,Int.natAbs_natCast]
  have h3:(n:Int)%((2^61-1:Nat):Int)=(n:Int):=by
   rw[show(2^61-1:Nat)=2305843009213693951 from by decide]
   exact Int.emod_eq_of_lt (by omega) (by omega)
  rw[h3]
  exact D6 (by intro z;have:=eq_of_beq z;omega)
 unfold hashInt
 rw[e]
 exact D6 (by intro z;have:=eq_of_beq z;omega)
theorem Kc{v:Nat}(hv:v<hM)(nv:v≠hM-1):reduceHash (fin v)=fin v:=by
 have hv':v<18446744073709551616:=hv
 have nv':v≠18446744073709551615:=nv
 have e:=Jc nv
 have h1: -9223372036854775808≤fin v∧fin v<9223372036854775808∧fin v≠ -1:=by
  rw[e]
  split<;>omega
 unfold reduceHash
 have p63:(2:Int)^63=9223372036854775808:=by decide
 rw[p63,aa8 h1.1,aa8 h1.2.1]
 simp only[Bool.and_self,aa3]
 rw[D6 (by simpa using h1.2.2)]
theorem IC(P:Program)(w:World){m p:Nat}(hm:m≤16)(hp:p≤9999):tupleKeyHash (cQ P w) (pk m p)=Builtin.Tuple.tupleHashOf [(m:Int),(p:Int)]:=by
 show reduceHash (Builtin.Tuple.tupleHashOf [hashInt (m:Int),hashInt (p:Int)])=_
 rw[A0 (by omega),A0 hp,BP m p (by show m<18446744073709551616;omega) (by show p<18446744073709551616;omega)]
 exact Kc (abG _ (by decide)) (Fy hm hp)
theorem P_{P:Program}{w:World}{s:State}{n:Nat}(c:Core n s)(x:Extra s){es:List (Addr×En)}(h:(es.map (·.2)).Perm s.entries):RH P w (aV es):=by
 intro a ha b hb e
 unfold aV at ha hb
 obtain⟨q,hq,rfl⟩:=aaE.mp ha
 obtain⟨r,hr,rfl⟩:=aaE.mp hb
 have q1:=h.mem_iff.mp (abF hq)
 have r1:=h.mem_iff.mp (abF hr)
 have CS:=c.fO
 have qm:=(c.vJ _ q1).2
 have rm:=(c.vJ _ r1).2
 have e':tupleKeyHash (cQ P w) (pk q.2.m q.2.period)=tupleKeyHash (cQ P w) (pk r.2.m r.2.period):=e
 have qm2:q.2.m≤16:=by omega
 have rm2:r.2.m≤16:=by omega
 have qp:=x.per _ q1
 have rp:=x.per _ r1
 rw[IC P w qm2 qp,IC P w rm2 rp]at e'
 exact FQ.mpr (Ls qm2 qp rm2 rp e')
section
variable{P:Program}{w:World}{K:W.Frag}{mg:Str→Option Value}{base:Heap}{t:TX}
def vY(K:W.Frag)(t:TX):Sp:=fun vs H Q _=>∃Z p d s k n args a c,vs=[.ref p,vn n,.ref a]∧aj t.c H Z p d s∧Good k s∧k<400∧Extra s∧H a=some (.lst (aO args))∧args.length≤1000∧vm n args c∧
 ∀H' tp p' d' l,H' tp=some (.tup [.ref p',.ref l])→aj t.c H' Z p' d' (stepNumbers s c).1→H' l=some (.lst (aO (stepNumbers s c).2))→l≠Z→(∀b o,H b=some o→Ol o=false→b∉muts p d→H' b=some o)→Q (.ref tp) H'
theorem vZ(T:Txt K mg t):bE P w K mg t.b fG 12 (t.f 76) (t.fd 76) ["house","place","arguments"] (vY K t):=by
 have GH:=Eb (P:=P) (w:=w) T
 have AF:=zJ (P:=P) (w:=w) T
 refine T.ji.ok iL (fun vs H Q E h=>?_) (fun cdv A outer s0 H vs Q E hr h=>?_)
 ·obtain⟨Z,p,d,s,k,n,args,a,c,rfl,_⟩:=h
  rfl
 ·obtain⟨Z,p,d,s,k,n,args,a,c,rfl,hh,g,hk,x,ha,EU,hc,q⟩:=h
  refine⟨_,(ah (aE (i:=3) iL.nd rfl (Or.inl rfl) (m_ (pv 0) T.bS T.DQ GH (hr.mono (by decide)) (F5 T.yS) .nil aI)) (ah (aE (i:=4) iL.nd rfl (Or.inl rfl) (aF AF (hr.mono (by decide)) rfl T.Ak T.kO.kp (Af T.kO) .nil aI (aa (pv 3) (aa (pv 1) (aa (pv 2) ai))))) (ay (aC (aZ (aa (iT (aU j9 (cz bL (pv 4) aG (fun _ _=>rfl)) (au rfl T.aH ri) (bh _)) (pv 3) (pv 0)) (aa (pv 4) ai))))))),?_⟩
  refine⟨_,rfl,p,d.dx,_,rfl,hh.ins,fT PK,Z,p,d,s,rfl,hh,P_ g.core x hh.pp,g.core.fO,fun H1 p1 d1 s1 fr _ h1=>?_⟩
  refine⟨_,rfl,_,rfl,_,rfl,Z,p1,d1,s,k,n,args,a,c,rfl,h1,g,hk,x,bD.of (s1 _ _ ha),EU,hc,fun H2 l hl lz' ⟨d2,kp,tb,hr'⟩=>?_⟩
  have keep:∀b o,H b=some o→Ol o=false→H2 b=some o:=fun b o e i=>kp.keep b o (s1 b o e) i fun z=>by
   rw[fr b z]at e;cases e
  have hz2:∃o,H2 Z=some o:=let⟨o,e⟩:=h1.zz;kp.Ce _ _ e
  obtain⟨_,hlen,hpos⟩:=Iz hc g x
  obtain⟨z0,rest,er⟩:∃z r,(stepNumbers s c).2=z::r:=by
   cases e:(stepNumbers s c).2 with
   |nil=>rw[e]at hpos;exact absurd hpos (abc _)
   |cons z r=>exact⟨z,r,rfl⟩
  have hat:M7 (aO (stepNumbers s c).2) 0=some (.int z0):=by rw[er];exact Ff (i:=0) rfl
  refine⟨_,rfl,l,_,0,_,rfl,rfl,bD.of hl,hat,rfl,_,rfl,?_⟩
  by_cases h0:z0=0
  ·refine uR (by rw[h0]) ⟨_,rfl,_,rfl,lz rfl,fun tp htp=>?_⟩
   have s3:=ao.new (o:=.tup [.ref p1,.ref l]) htp
   exact q _ tp p1 d2 l af ((hr' (by rw[er,h0];rfl)).mono s3) (s3 _ _ hl) lz' fun b o e i _=>s3 _ _ (keep b o e i)
  ·refine tD (fun z=>h0 (bG z)) ⟨_,rfl,_,rfl,lz rfl,fun tp htp=>?_⟩
   have s3:=ao.new (o:=.tup [.ref p,.ref l]) htp
   have es:(stepNumbers s c).1=s:=Ms (by rw[er];intro z;exact h0 (aar z))
   refine q _ tp p d l af ?_ (s3 _ _ hl) lz' fun b o e i _=>s3 _ _ (keep b o e i)
   rw[es]
   exact(hh.Qx keep tb hz2).mono s3
end
theorem ID{p:Int}{a b:Nat}(h:PyVbemal.shape p=some (a,b)):∃n:Nat,p=(n:Int)∧((n≤24∧b=0∧a=(kW n).2.length)∨(n=25∧a=4∧b=1)):=by
 unfold PyVbemal.shape at h
 by_cases e0:p=0
 ·rw[D7 e0]at h;cases h;exact⟨0,e0,.inl ⟨by decide,rfl,rfl⟩⟩
 rw[D6 e0]at h
 by_cases e1:p=1
 ·rw[D7 e1]at h;cases h;exact⟨1,e1,.inl ⟨by decide,rfl,rfl⟩⟩
 rw[D6 e1]at h
 by_cases e2:p=2
 ·rw[D7 e2]at h;cases h;exact⟨2,e2,.inl ⟨by decide,rfl,rfl⟩⟩
 rw[D6 e2]at h
 by_cases e3:p=3
 ·rw[D7 e3]at h;cases h;exact⟨3,e3,.inl ⟨by decide,rfl,rfl⟩⟩
 rw[D6 e3]at h
 by_cases e4:p=4
 ·rw[D7 e4]at h;cases h;exact⟨4,e4,.inl ⟨by decide,rfl,rfl⟩⟩
 rw[D6 e4]at h
 by_cases e5:p=5
 ·rw[D7 e5]at h;cases h;exact⟨5,e5,.inl ⟨by decide,rfl,rfl⟩⟩
 rw[D6 e5]at h
 by_cases e6:p=6
 ·rw[D7 e6]at h;cases h;exact⟨6,e6,.inl ⟨by decide,rfl,rfl⟩⟩
 rw[D6 e6]at h
 by_cases e7:p=7
 ·rw[D7 e7]at h;cases h;exact⟨7,e7,.inl ⟨by decide,rfl,rfl⟩⟩
 rw[D6 e7]at h
 by_cases e8:p=8
 ·rw[D7 e8]at h;cases h;exact⟨8,e8,.inl ⟨by decide,rfl,rfl⟩⟩
 rw[D6 e8]at h
 by_cases e9:p=9
 ·rw[D7 e9]at h;cases h;exact⟨9,e9,.inl ⟨by decide,rfl,rfl⟩⟩
 rw[D6 e9]at h
 by_cases TL:p=10
 ·rw[D7 TL]at h;cases h;exact⟨10,TL,.inl ⟨by decide,rfl,rfl⟩⟩
 rw[D6 TL]at h
 by_cases Se:p=11
 ·rw[D7 Se]at h;cases h;exact⟨11,Se,.inl ⟨by decide,rfl,rfl⟩⟩
 rw[D6 Se]at h
 by_cases TF:p=12
 ·rw[D7 TF]at h;cases h;exact⟨12,TF,.inl ⟨by decide,rfl,rfl⟩⟩
 rw[D6 TF]at h
 by_cases Vm:p=13
 ·rw[D7 Vm]at h;cases h;exact⟨13,Vm,.inl ⟨by decide,rfl,rfl⟩⟩
 rw[D6 Vm]at h
 by_cases YH:p=14
 ·rw[D7 YH]at h;cases h;exact⟨14,YH,.inl ⟨by decide,rfl,rfl⟩⟩
 rw[D6 YH]at h
 by_cases YI:p=15
 ·rw[D7 YI]at h;cases h;exact⟨15,YI,.inl ⟨by decide,rfl,rfl⟩⟩
 rw[D6 YI]at h
 by_cases YJ:p=16
 ·rw[D7 YJ]at h;cases h;exact⟨16,YJ,.inl ⟨by decide,rfl,rfl⟩⟩
 rw[D6 YJ]at h
 by_cases YK:p=17
 ·rw[D7 YK]at h;cases h;exact⟨17,YK,.inl ⟨by decide,rfl,rfl⟩⟩
 rw[D6 YK]at h
 by_cases YL:p=18
 ·rw[D7 YL]at h;cases h;exact⟨18,YL,.inl ⟨by decide,rfl,rfl⟩⟩
 rw[D6 YL]at h
 by_cases YM:p=19
 ·rw[D7 YM]at h;cases h;exact⟨19,YM,.inl ⟨by decide,rfl,rfl⟩⟩
 rw[D6 YM]at h
 by_cases YN:p=20
 ·rw[D7 YN]at h;cases h;exact⟨20,YN,.inl ⟨by decide,rfl,rfl⟩⟩
 rw[D6 YN]at h
 by_cases YO:p=21
 ·rw[D7 YO]at h;cases h;exact⟨21,YO,.inl ⟨by decide,rfl,rfl⟩⟩
 rw[D6 YO]at h
 by_cases YQ:p=22
 ·rw[D7 YQ]at h;cases h;exact⟨22,YQ,.inl ⟨by decide,rfl,rfl⟩⟩
 rw[D6 YQ]at h
 by_cases YR:p=23
 ·rw[D7 YR]at h;cases h;exact⟨23,YR,.inl ⟨by decide,rfl,rfl⟩⟩
 rw[D6 YR]at h
 by_cases YS:p=24
 ·rw[D7 YS]at h;cases h;exact⟨24,YS,.inl ⟨by decide,rfl,rfl⟩⟩
 rw[D6 YS]at h
 by_cases YT:p=25
 ·rw[D7 YT]at h;cases h;exact⟨25,YT,.inr ⟨rfl,rfl,rfl⟩⟩
 rw[D6 YT]at h
 cases h
theorem Kd{l:List Int}{c:List (List Int)}{t:List Int}(h:PyFlat.call PyVbemal.shape l=some (c,t)):∃(n:Nat) (args:List Int),l=(n:Int)::(args++t)∧vm n args c:=by
 cases l with
 |nil=>cases h
 |cons p r=>
  cases hs:PyVbemal.shape p with
  |none=>
   simp only[PyFlat.call,hs]at h
   cases h
  |some ab=>
   obtain⟨a,b⟩:=ab
   simp only[PyFlat.call,hs]at h
   obtain⟨n,rfl,hn⟩:=ID hs
   split at h
   ·cases h
   ·rename_i hl
    rcases hn with⟨h24,rfl,rfl⟩ |⟨rfl,rfl,rfl⟩
    ·have h:some (((n:Int)::r.take (kW n).2.length)::[],r.drop (kW n).2.length)=some (c,t):=h
     cases h
     exact⟨n,r.take (kW n).2.length,by rw[List.take_append_drop],.inl ⟨h24,by rw[aaH];omega,rfl⟩⟩
    ·match r,hl,h with
     |x0::x1::x2::x3::r,_,h=>
      have h:(match PyFlat.rows 1 r with
       |none=>none
       |some (xs,t)=>some ([25,x0,x1,x2,x3]::xs,t))=some (c,t):=h
      cases r with
      |nil=>cases h
      |cons k r=>
       by_cases hk:0≤k∧k.toNat≤r.length
       ·have e:PyFlat.rows 1 (k::r)=some ([r.take k.toNat],r.drop k.toNat):=by
         show(match PyFlat.row (k::r)with
          |none=>none
          |some (x,s)=>match PyFlat.rows 0 s with
           |none=>none
           |some (xs,t)=>some (x::xs,t))=_
         have e2:PyFlat.row (k::r)=some (r.take k.toNat,r.drop k.toNat):=D7 hk
         rw[e2]
         rfl
        rw[e]at h
        cases h
        refine⟨25,x0::x1::x2::x3::k::r.take k.toNat,?_,.inr ⟨rfl,x0,x1,x2,x3,r.take k.toNat,?_,rfl⟩⟩
        ·show _=(25:Int)::x0::x1::x2::x3::k::(r.take k.toNat++r.drop k.toNat)
         rw[List.take_append_drop]
         rfl
        ·have:(((r.take k.toNat).length:Nat):Int)=k:=by rw[aaH];omega
         rw[this]
       ·have e:PyFlat.rows 1 (k::r)=none:=by
         show(match PyFlat.row (k::r)with
          |none=>none
          |some (x,s)=>match PyFlat.rows 0 s with
           |none=>none
           |some (xs,t)=>some (x::xs,t))=_
         have e2:PyFlat.row (k::r)=none:=D6 hk
         rw[e2]
        rw[e]at h
        cases h
     |[],hl,_=>exact absurd (show 0<4 by decide) hl
     |[_],hl,_=>exact absurd (show 1<4 by decide) hl
     |[_,_],hl,_=>exact absurd (show 2<4 by decide) hl
     |[_,_,_],hl,_=>exact absurd (show 3<4 by decide) hl
theorem IE(c:List (List Int)):PyVbemal.whole c=c:=by
 rcases c with _|⟨_|⟨(n|n),x⟩,_|⟨y,_|⟨z,c⟩⟩⟩
 all_goals try rfl
 all_goals rcases x with _|⟨x0,_|⟨x1,_|⟨x2,_|⟨x3,_|⟨x4,x⟩⟩⟩⟩⟩
 all_goals try rfl
 all_goals (iterate 26 (rcases n with _|n;rfl))
 all_goals rfl
theorem Og{n:Nat}{args:List Int}{c:List (List Int)}(h:vm n args c)(ha:VbemalNeutral.asked1 c=true):args.length≤1000:=by
 rcases h with⟨h1,h2,_⟩ |⟨rfl,x0,x1,x2,x3,row,rfl,rfl⟩
 ·rw[h2]
  have:∀m:_root_.Fin 26,(kW m.1).2.length≤1000:=by decide+kernel
  exact this ⟨n,by omega⟩
 ·have ha:(VbemalNeutral.whole60 x0&&(VbemalNeutral.whole60 x1&&(VbemalNeutral.whole60 x2&&(VbemalNeutral.whole60 x3&&(row.all (fun(z:Int)=>VbemalNeutral.whole60 z)&&decide (row.length≤200))))))=true:=ha
  simp only[aa1,decide_eq_true_eq]at ha
  simp only[aax]
  omega
theorem Ke{f:Nat}{l:List Int}{cs:List (List (List Int))}(h:PyFlat.calls PyVbemal.shape f l=some cs)(hl:l≠[]):∃f' c t cs',PyFlat.call PyVbemal.shape l=some (c,t)∧PyFlat.calls PyVbemal.shape f' t=some cs'∧cs=c::cs':=by
 cases l with
 |nil=>exact absurd rfl hl
 |cons p r=>
  cases f with
  |zero=>cases h
  |succ f=>
   unfold PyFlat.calls at h
   split at h
   ·cases h
   ·rename_i c t e
    split at h
    ·cases h
    ·rename_i cs' e2
     cases h
     exact⟨f,c,t,cs',e,e2,rfl⟩
theorem Mt{f:Nat}{cs:List (List (List Int))}(h:PyFlat.calls PyVbemal.shape f []=some cs):cs=[]:=by
 unfold PyFlat.calls at h
 cases f<;>(cases h;rfl)
theorem Mu(a:List Int)(r:List (List Int)):PyFlat.told (a::r)=((a.length:Int)::a)++PyFlat.told r:=by
 unfold PyFlat.told
 rw[List.flatMap_cons]
theorem Qa{xs:List V}{j k:Nat}(h1:j≤k)(h:k≤xs.length):A3 xs (some (j:Int)) (some (k:Int))=(xs.drop j).take (k-j):=by
 unfold A3
 rw[HT.Bs,HT.Bs,Nat.min_eq_left h,Nat.min_eq_left (aaD h1 h)]
theorem aj.Qc{c:Cs}{H:Hp}{Z p a:Addr}{d:AD}{s:State}{o:Obj}{u:HO}(h:aj c H Z p d s)(e:H a=some (.lX o u)):a∉muts p d:=fun hb=>by
 unfold muts at hb
 simp only[aas]at hb
 rcases hb with rfl |rfl |rfl |rfl |rfl |rfl |hb
 ·rw[h.ins]at e;cases e
 ·rw[h.ml]at e;cases e
 ·rw[h.pd]at e;cases e
 ·rw[h.il]at e;cases e
 ·rw[h.fd]at e;cases e
 ·rw[h.cd]at e;cases e
 ·obtain⟨i,hi,e1⟩:=abz.mp hb
  have h1:d.ms[i]?=some a:=by rw[D3 hi,e1]
  have h2:i<s.members.length:=by rw[←h.iC];exact hi
  obtain⟨dx,e2⟩:=h.mem i a _ h1 (D3 h2)
  rw[e2]at e;cases e
theorem Kf{c:Cs}{H H':Hp}{p dx ml pd il fd cd Z:Addr}(i:Init c H H' p dx ml pd il fd cd)(hp:∃o,H p=some o∧Cd o=true)(tb:kc c H)(hZ:H' Z=none):aj c (upd H' Z (.lst [])) Z p (mG ml pd il fd cd dx) Vbemal.start:=by
 have sm:=ao.new (o:=.lst []) hZ
 have mu:∀b∈muts p (mG ml pd il fd cd dx),∃o,H' b=some o:=fun b hb=>by
  unfold muts at hb
  simp only[aas]at hb
  rcases hb with rfl |rfl |rfl |rfl |rfl |rfl |hb
  ·exact⟨_,i.ins⟩
  ·exact⟨_,i.hml⟩
  ·exact⟨_,i.Mm⟩
  ·exact⟨_,i.hil⟩
  ·exact⟨_,i.hfd⟩
  ·exact⟨_,i.hcd⟩
  ·cases hb
 refine⟨sm _ _ i.ins,sm _ _ i.hml,rfl,fun j a m h=>(by cases h),sm _ _ i.Mm,List.Perm.refl _,sm _ _ i.hil,rfl,sm _ _ i.hfd,rfl,sm _ _ i.hcd,⟨fun q hq=>(by cases hq),fun j a x h=>(by cases h),fun j a f h=>(by cases h)⟩,?_,i.nd,fun hb=>?_,⟨_,af⟩⟩
 ·refine tb.keep fun b o e n=>sm _ _ (i.keep b o e fun q=>?_)
  obtain⟨u,e2,n2⟩:=hp
  rw[q,e2]at e
  cases e
  rw[n]at n2
  cases n2
 ·obtain⟨o,e⟩:=mu Z hb
  rw[hZ]at e;cases e
def TM(K:W.Frag)(H:Hp)(a:Addr)(xs:List V):Prop:=(∃o,H a=some (.lX o (.lst xs)))∨∀H':Hp,bD K H' a xs
theorem TM.sq{K:W.Frag}{H:Hp}{a:Addr}{xs:List V}(h:TM K H a xs):bD K H a xs:=by
 rcases h with⟨o,h⟩ |h
 ·exact .inl (.inr ⟨o,h⟩)
 ·exact h H
section
variable{P:Program}{w:World}{K:W.Frag}{mg:Str→Option Value}{base:Heap}{t:TX}
theorem SV{H:Hp}{Q:VK}{E:XK}{a:Addr}{l args rest:List Int}{i n:Nat}{c:List (List Int)}(ha:bD K H a (aO l))(hl:l.drop i=(n:Int)::(args++rest))(hc:vm n args c)(q:∀H',ao H H'→Q (vn (i+1+args.length)) H'):oE K [.ref a,vn i] H Q E:=by
 have Ws:∀j,l[i+j]?=((n:Int)::(args++rest))[j]?:=fun j=>by rw[←hl,acF]
 refine⟨a,l,i,n,rfl,ha,Ws 0,(IA hc).1,fun h=>?_,fun h=>?_⟩
 ·rcases hc with⟨h1,_⟩ |⟨_,x0,x1,x2,x3,row,rfl,_⟩
  ·omega
  ·refine⟨row.length,by rw[Ws 5];rfl,fun H' s=>?_⟩
   have:=q H' s
   rw[show i+1+(x0::x1::x2::x3::(row.length:Int)::row).length=i+6+row.length by simp only[aax];omega]at this
   exact this
 ·rcases hc with⟨_,h2,_⟩ |⟨h1,_⟩
  ·rw[←h2];exact q
  ·exact absurd h1 h
def Kg(K:W.Frag)(t:TX):Sp:=fun vs H Q _=>∃a l,vs=[.ref a]∧TM K H a (aO l)∧PyVbemal.answers_asked l=true∧kc t.c H∧∀H' p,H' p=some (.lst (aO (PyVbemal.answers l)))→Q (.ref p) H'
def left(l:List Int)(σ:L2.St):Nat:=match σ[3]? with
 |some (some (V.int z))=>l.length-z.toNat
 |_=>0
theorem Kh(T:Txt K mg t):bE P w K mg t.b fG 13 (t.f 77) (t.fd 77) ["calls"] (Kg K t):=by
 have rZ:=wC (P:=P) (w:=w) T
 have El:=Dl (P:=P) (w:=w) T
 have ya:=vZ (P:=P) (w:=w) T
 refine T.Mc.ok fX (fun vs H Q E h=>?_) (fun cdv A outer s0 H vs Q E hr h=>?_)
 ·obtain⟨a,l,rfl,_⟩:=h
  rfl
 ·obtain⟨a,l,rfl,ha,Dr,tb,q⟩:=h
  obtain⟨SW,hcs,aal,hall⟩:∃cs,PyFlat.calls PyVbemal.shape l.length l=some cs∧cs.length≤400∧∀c∈cs,VbemalNeutral.asked1 c=true:=by
   unfold PyVbemal.answers_asked PyVbemal.calls at Dr
   cases e:PyFlat.calls PyVbemal.shape l.length l with
   |none=>rw[e]at Dr;cases Dr
   |some cs=>
    rw[e]at Dr
    have em:cs.map PyVbemal.whole=cs:=by
     conv=>rhs;rw[←List.map_id cs]
     exact abk fun c _=>IE c
    have Dr:(PyFlat.atMost 400 (cs.map PyVbemal.whole)&&VbemalNeutral.asked (cs.map PyVbemal.whole))=true:=Dr
    rw[em,aa1]at Dr
    refine⟨cs,rfl,ab3 Dr.1,?_⟩
    have h2:(cs.all VbemalNeutral.asked1&&(decide (1≤cs.length)&&decide (cs.length≤400)))=true:=Dr.2
    rw[aa1,ab8]at h2
    exact h2.1
  have YU:PyVbemal.answers l=PyFlat.told (PyFlat.played stepNumbers Vbemal.start SW):=by
   unfold PyVbemal.answers PyVbemal.calls
   rw[hcs]
   have em:SW.map PyVbemal.whole=SW:=by
    conv=>rhs;rw[←List.map_id SW]
    exact abk fun c _=>IE c
   show PyFlat.told (PyFlat.played VbemalNeutral.step VbemalNeutral.start (SW.map PyVbemal.whole))=_
   rw[em]
   rfl
  rw[YU]at q
  refine⟨_,(ah (aE (i:=1) fX.nd rfl (Or.inl rfl) (yt T.KQ rZ (hr.mono (by decide)) rfl T.KP (yQ T.rP) .nil aI)) (ah (aE (i:=2) fX.nd rfl (Or.inl rfl) (aK ai)) (ah (aE (i:=3) fX.nd rfl (Or.inl rfl) aG) (ah (MW abd (aU tV (pv 3) (aQ a_ rfl T.gk aaK (aa (pv 0) ai)) (bh _)) (ah (aE (i:=4) fX.nd rfl (Or.inl rfl) (cz bL (pv 0) (pv 3) (fun _ _=>rfl))) (ah (aE (i:=5) fX.nd rfl (Or.inl rfl) (aF El (hr.mono (by decide)) rfl T.DY T.qt.kp (DP T.qt) .nil aI (aa (pv 0) (aa (pv 3) ai)))) (ah (aE (i:=6) fX.nd rfl (Or.inl rfl) (aF ya (hr.mono (by decide)) rfl T.xK T.ji.kp (xE T.ji) .nil aI (aa (pv 1) (aa (pv 4) (aa (yw Bt (pv 0) (yu (aW iB (pv 3) aG)) (yu (pv 5))) ai))))) (ah (aE (i:=1) fX.nd rfl (Or.inl rfl) (cz tW (pv 6) aG (fun _ _=>rfl))) (ah (eE (su aaT abf abg jm (pv 2) (aa (aQ a_ rfl T.gk aaK (aa (cz tW (pv 6) aG (fun _ _=>rfl)) ai)) ai))) (ah (eE (su aaT ab9 ab_ vt (pv 2) (aa (cz tW (pv 6) aG (fun _ _=>rfl)) ai))) (ay (aE (i:=3) fX.nd rfl (Or.inl rfl) (pv 5)))))))))) (ay (aC (pv 2))))))),?_⟩
  intro p0 dx hp0 hdx ne
  have s0:ao H (upd (upd H dx (.own p0)) p0 (.ins t.c.cH dx [])):=ao.mk hp0 hdx
  have YV:upd (upd H dx (.own p0)) p0 (.ins t.c.cH dx []) p0=some (.ins t.c.cH dx []):=af
  refine⟨p0,dx,rfl,YV,fun H1 ml pd il fd cd ini=>⟨rfl,?_⟩⟩
  have tb0:kc t.c (upd (upd H dx (.own p0)) p0 (.ins t.c.cH dx [])):=tb.keep fun b o e _=>s0 b o e
  have k01:∀b o,H b=some o→H1 b=some o:=fun b o e=>ini.keep b o (s0 b o e) (aA e hp0)
  refine⟨lz rfl,fun Z hZ=>?_⟩
  have h2:=Kf ini ⟨_,YV,rfl⟩ tb0 hZ
  have s2:ao H (upd H1 Z (.lst [])):=fun b o e=>ao.new hZ _ _ (k01 b o e)
  have hZ2:upd H1 Z (.lst []) Z=some (.lst (aO [])):=af
  have ha2:TM K (upd H1 Z (.lst [])) a (aO l):=by
   rcases ha with⟨o,h⟩ |h
   ·exact .inl ⟨o,s2 _ _ h⟩
   ·exact .inr h
  generalize upd H1 Z (.lst [])=H2 at h2 hZ2 ha2⊢
  clear s2 k01 tb0 ini YV s0 ha
  refine MZ (fun σ H'=>∃(i k f:Nat) (p:Addr) (d:AD) (s:State) (cs:List (List (List Int))) (out:List Int) (v4 v5 v6:Option V),σ=[some (.ref a),some (.ref p),some (.ref Z),some (vn i),v4,v5,v6]∧aj t.c H' Z p d s∧H' Z=some (.lst (aO out))∧TM K H' a (aO l)∧Good k s∧Extra s∧i≤l.length∧PyFlat.calls PyVbemal.shape f (l.drop i)=some cs∧k+cs.length≤400∧(∀c∈cs,VbemalNeutral.asked1 c=true)∧out++PyFlat.told (PyFlat.played stepNumbers s cs)=PyFlat.told (PyFlat.played stepNumbers Vbemal.start SW)∧out.length≤2002*k)
   (fun σ _=>left l σ) ⟨0,0,l.length,p0,_,Vbemal.start,SW,[],none,none,none,rfl,h2,hZ2,ha2,IS,Iw,aa0 _,hcs,by omega,hall,rfl,D9 _⟩ ?_ ?_
  ·rintro σ H' ⟨i,k,f,p,d,s,cs,out,v4,v5,v6,rfl,hh,YW,ha',g,x,hi,hc,hk,hal,heq,hout⟩
   have sq:=ha'.sq
   refine⟨_,rfl,_,rfl,a,_,rfl,.inl sq,_,_,rfl,rfl,_,rfl,?_⟩
   rw[DS]
   by_cases hlt:i<l.length
   ·refine uR (by omega) ?_
    have hne:l.drop i≠[]:=fun z=>by
     have:=congrArg List.length z
     rw[abw]at this
     simp at this
     omega
    obtain⟨f',c,rest,cs',hcall,YX,rfl⟩:=Ke hc hne
    obtain⟨n,args,hl,ci⟩:=Kd hcall
    have hk4:k<400:=by rw[aax]at hk;omega
    have Ws:l[i]?=some ((n:Nat):Int):=by
     have:(l.drop i)[0]?=some ((n:Nat):Int):=by rw[hl];rfl
     rw[acF]at this
     exact this
    have hlen:=congrArg List.length hl
    rw[abw,aax,aat]at hlen
    have VV:l.drop (i+1+args.length)=rest:=by
     rw[Nat.add_assoc,←List.drop_drop,hl,Nat.add_comm 1,List.drop_succ_cons,List.drop_left]
    have VW:(l.drop (i+1)).take args.length=args:=by
     rw[←List.drop_drop,hl,List.drop_succ_cons,List.drop_zero,List.take_left]
    refine⟨_,rfl,_,rfl,a,_,_,_,rfl,rfl,sq,Ff Ws,?_⟩
    refine⟨_,rfl,_,rfl,?_⟩
    dsimp only[vM,List.append_nil]
    show oE K (V.ref a::V.int (i:Int)::_) H' _ _
    refine SV sq hl ci fun H3 s3=>?_
    have Oo:=hh.mono s3
    have sq3:=Oq s3 sq
    refine⟨_,rfl,_,rfl,_,rfl,_,rfl,_,_,rfl,rfl,_,rfl,_,rfl,_,rfl,a,_,rfl,sq3,fun D hD=>?_⟩
    have ec:A3 (aO l) (some ((i:Int)+1)) (some ((i+1+args.length:Nat):Int))=aO args:=by
     rw[show(i:Int)+1=((i+1:Nat):Int) by omega,Qa (by omega) (by rw[DS];omega),show i+1+args.length-(i+1)=args.length by omega,←List.map_drop,←List.map_take,VW]
    rw[ec]
    have s4:=s3.trans (ao.new (o:=.lst (aO args)) hD)
    have R8:=hh.mono s4
    have Vc:upd H3 D (.lst (aO args)) D=some (.lst (aO args)):=af
    generalize upd H3 D (.lst (aO args))=H4 at s4 R8 Vc⊢
    refine⟨Z,p,d,s,k,n,args,D,c,rfl,R8,g,hk4,x,Vc,Og ci (hal c aau),ci,fun H5 tp p5 d5 l5 htp Wi Tz nz kp=>?_⟩
    have Wt:H5 Z=some (.lst (aO out)):=kp _ _ (s4 _ _ YW) rfl R8.fz
    obtain⟨x5,aam,_⟩:=Iz ci g x
    refine⟨_,rfl,tp,_,0,_,rfl,rfl,i6.of htp,rfl,?_⟩
    refine⟨_,rfl,.inl ⟨rfl,_,bD.of Wt⟩,_,rfl,tp,_,1,_,rfl,rfl,i6.of htp,rfl,l5,_,rfl,.inl (bD.of Tz),Z,_,_,rfl,rfl,Wt,?_,?_⟩
    ·rw[DS];exact bV (by omega)
    rw[DS]
    have nzt:tp≠Z:=fun z=>by rw[z,Wt]at htp;cases htp
    have VX:upd H5 Z (.lst (aO out++[V.int (((stepNumbers s c).2.length:Nat):Int)])) tp=some (.tup [.ref p5,.ref l5]):=by rw[aq nzt];exact htp
    have hl6:upd H5 Z (.lst (aO out++[V.int (((stepNumbers s c).2.length:Nat):Int)])) l5=some (.lst (aO (stepNumbers s c).2)):=by rw[aq nz];exact Tz
    have YY:upd H5 Z (.lst (aO out++[V.int (((stepNumbers s c).2.length:Nat):Int)])) Z=some (.lst (aO (out++[(((stepNumbers s c).2.length:Nat):Int)]))):=by rw[af,←jV];rfl
    have k6:∀b o,H5 b=some o→b≠Z→upd H5 Z (.lst (aO out++[V.int (((stepNumbers s c).2.length:Nat):Int)])) b=some o:=fun b o e n=>by rw[aq n];exact e
    generalize upd H5 Z (.lst (aO out++[V.int (((stepNumbers s c).2.length:Nat):Int)]))=H6 at VX hl6 YY k6⊢
    refine⟨_,rfl,.inl ⟨rfl,_,bD.of YY⟩,_,rfl,tp,_,1,_,rfl,rfl,i6.of VX,rfl,Z,l5,_,_,rfl,rfl,YY,hl6,?_,?_⟩
    ·rw[DS,DS,aat];exact fH (by simp;omega)
    have YZ:upd H6 Z (.lst (aO (out++[(((stepNumbers s c).2.length:Nat):Int)])++aO (stepNumbers s c).2)) Z=some (.lst (aO (out++((((stepNumbers s c).2.length:Nat):Int)::(stepNumbers s c).2)))):=by
     rw[af,jV,ack];rfl
    have k7:∀b o,H5 b=some o→b≠Z→upd H6 Z (.lst (aO (out++[(((stepNumbers s c).2.length:Nat):Int)])++aO (stepNumbers s c).2)) b=some o:=fun b o e n=>by rw[aq n];exact k6 b o e n
    generalize upd H6 Z (.lst (aO (out++[(((stepNumbers s c).2.length:Nat):Int)])++aO (stepNumbers s c).2))=H7 at YZ k7⊢
    refine⟨_,rfl,⟨i+1+args.length,k+1,f',p5,d5,(stepNumbers s c).1,cs',_,_,_,_,rfl,Wi.RB k7 ⟨_,YZ⟩ ⟨_,Wt,rfl⟩,YZ,?_,Fw g c,x5,by omega,by rw[VV];exact YX,by rw[aax]at hk;omega,fun c' h'=>hal c' (aap _ h'),?_,?_⟩,?_⟩
    ·rcases ha' with⟨o,h⟩ |h
     ·have na:a≠Z:=fun z=>by rw[z,YW]at h;cases h
      exact .inl ⟨o,k7 _ _ (kp _ _ (s4 _ _ h) rfl (R8.Qc (s4 _ _ h))) na⟩
     ·exact .inr h
    ·rw[←heq,ack]
     show _=out++PyFlat.told ((stepNumbers s c).2::PyFlat.played stepNumbers (stepNumbers s c).1 cs')
     rw[Mu]
    ·rw[aat,aax];omega
    ·show l.length-((i+1+args.length:Nat):Int).toNat<l.length-((i:Nat):Int).toNat
     rw[aa_,aa_]
     omega
   ·refine tD (by omega) ?_
    have e:l.drop i=[]:=List.drop_eq_nil_of_le (by omega)
    rw[e]at hc
    have:=Mt hc
    subst this
    have heq:out++PyFlat.told []=_:=heq
    refine⟨_,rfl,q H' Z ?_⟩
    rw[YW,←heq]
    show _=some (HO.lst (aO (out++[])))
    rw[abr]
  ·rintro σ H' Q Q' qq ⟨x1,h1,x2,h2,x3,xs,h3,h4,i,j,h5,h6,b,h7,h8⟩
   exact⟨x1,h1,x2,h2,x3,xs,h3,h4,i,j,h5,h6,b,h7,qq _ _ h8⟩
end
end MA
namespace L2
open PySem PySem.Spec PyProof.Rows
open PySem.W (WData Codec OpenSpec Well WellAll ReadsW ReadsAllW)
theorem Kl{P:Program}{w:World}{K:W.Frag}{mg mb:Str→Option Value}{CX:LD}{k:Nat}{fa cT PT:Addr}{fd:FuncData}{ps:List Str}{sp:Sp}{s₁:Shared}{vals:List Value}{ds:List WData}{R:W.WRecords}{cl:Str→Option Addr}{d0:WData}(KX:K.In s₁.heap)(hns:s₁.heap.Ns mainGlobals mg)(hb:s₁.heap.Ns builtinsNs mb)(hbb:∀x:Str,x≠"__name__"→mb x=bootBuiltins x)(hlim:s₁.heap.NoLimit)(hg:s₁.gens=#[])(hwl:WellAll w.params s₁.heap vals ds)(hpl:A4 ds=true)(hwt:∀d∈ds,d.weight≤1048576)(hr:j8 k callerA)(hC:W.CodeHd s₁.heap cT PT)(Qe:s₁.heap.get? PT=some (W.tabObj #[]))(Wu:K.lookup PT=none)(hbm:s₁.heap.BuiltinsAt mg PT)(F:∀base:Heap,K.In base→base.Ns mainGlobals mg→W.CodeHd base cT PT→base.BuiltinsAt mg PT→bE P w K mg base CX k fa fd ps sp)(hbind:∀(s:Shared) (us:List Value),us.length=ps.length→BindsTo s fd ⟨us,[]⟩ (ps.zip us))(hlen:ds.length=ps.length)(Oi:∀(H:Hp) (xs:List V),HC H→H PT=none→sA K H xs ds→sp xs (upd H PT (.ym #[])) (fun v H'=>Dw K H' v d0) fun _ _ _=>False)(Y0:∀H e s',CX [] H s₁ (fun _ _ _=>False) e s'→False):codeAny (model P w) callerA (.call (.ref fa) ⟨vals,[]⟩) (fun r s'=>∃u as,r=.ok (.ret u)∧ReadsW R cl s'.heap u d0 as∧OldK s₁.heap s'.heap∧s'.os=s₁.os∧AllBare s'.gens) s₁:=by
 obtain⟨A,ho,ar⟩:=yG ds vals hwl hpl hwt
 have hO:HC (rC K s₁.heap A):=LO ar
 have SX:tK P w (rC K s₁.heap A) s₁.heap:=O6 ar
 have hS:=FN KX ar ds vals hwl hpl ho
 have hV:=qG ho
 have hK:∀b u,rC K s₁.heap A b=some u→K.lookup b=none:=fun b u q=>(Bx ar q).1
 have VY:∀{b:Addr} {o:Obj},s₁.heap.get? b=some o→(∀xs n,o.data≠ .seq xs n)→rC K s₁.heap A b=none:=fun{b o} e d=>by
  cases q:rC K s₁.heap A b with
  |none=>rfl
  |some u=>
   obtain⟨_,vs,_,_,⟨e2,_⟩ |⟨e2,_⟩⟩:=Bx ar q
   ·rw[e2]at e
    cases e
    exact absurd rfl (d _ _)
   ·rw[e2]at e
    cases e
    exact absurd rfl (d _ _)
 generalize rC K s₁.heap A=H0 at hO SX hS hK VY
 have Y3:H0 PT=none:=VY Qe fun xs n z=>by cases z
 have hH:∀b,b≠PT→upd H0 PT (.ym #[]) b=H0 b:=fun b n=>aq n
 have hok:tK P w (upd H0 PT (.ym #[])) s₁.heap:=fun b u e=>by
  by_cases z:b=PT
  ·subst z
   rw[af]at e
   cases e
   exact Qe
  ·rw[aq z]at e
   exact(SX b u e).stay (fun c v _ q=>q) (fun c q=>by rw[aq (aA q Y3)];exact q) fun c xs q=>by rw[aq (aA q Y3)];exact q
 have BG:∀{b:Addr} {o:Obj},s₁.heap.get? b=some o→H0 b=none→b≠PT→(BR s₁.heap (upd H0 PT (.ym #[]))).get? b=some o:=fun e n z=>MJ e (by rw[aq z];exact n)
 have Wv:∀{b:Addr} {m:Str→Option Value},s₁.heap.Ns b m→(BR s₁.heap (upd H0 PT (.ym #[]))).Ns b m:=fun{b m} ⟨o,es,ep,e,d,r⟩=>⟨o,es,ep,BG e (VY e fun xs n z=>by rw[d]at z;cases z) (fun z=>by rw[z,Qe]at e;cases e;cases d),d,r⟩
 have nK:∀b o,K.lookup b=some o→H0 b=none:=fun b o e=>by
  cases q:H0 b with
  |none=>rfl
  |some u=>rw[hK b u q]at e;cases e
 have hKb:K.In (BR s₁.heap (upd H0 PT (.ym #[]))):=fun b o e=>BG (KX b o e) (nK b o e) fun z=>by rw[z,Wu]at e;cases e
 have hCb:W.CodeHd (BR s₁.heap (upd H0 PT (.ym #[]))) cT PT:=by
  obtain⟨o,vs,file,tf,flags,tg,Y4,text,tt,e1,e2,e3,e4,e5,e6,e7,e8,e9,TL⟩:=hC
  exact⟨o,vs,file,tf,flags,tg,Y4,text,tt,BG e1 (VY e1 fun xs n z=>by rw[e3]at z;cases z) TL,e2,e3,e4,e5,e6,e7,e8,e9,TL⟩
 have hBb:(BR s₁.heap (upd H0 PT (.ym #[]))).BuiltinsAt mg PT:=by
  obtain⟨bm,o,b1,b2,b3,b4,b5,b6,b7,b8⟩:=hbm
  exact⟨bm,o,b1,b2,b3,b4,BG b5 (VY b5 fun xs n z=>by rw[b8]at z;cases z) b4,b6,b7,b8⟩
 have hM:Mod K mg (BR s₁.heap (upd H0 PT (.ym #[]))):=⟨hKb,Wv hns,⟨mb,Wv hb,hbb⟩,let⟨mc,h1,h2⟩:=hlim;⟨mc,Wv h1,h2⟩⟩
 have e0:Jo P w K mg (BR s₁.heap (upd H0 PT (.ym #[]))) callerA [] s₁ (upd H0 PT (.ym #[])):=⟨rfl,hM,fun b o e=>OG e,Nat.le_of_eq (Lw _ _),trivial,fun b hb=>absurd (show b∈([]:List Addr)from hb) (by simp),hok,.of_eq hg⟩
 have hl:vals.length=ps.length:=by rw[oS hwl];exact hlen
 refine codeAny_mono ((F _ hKb (Wv hns) hCb hBb).run callerA [] s₁ _ ⟨vals,[]⟩ vals (vals.map toV) _ _ hr e0 (hbind s₁ vals hl) hV (Oi H0 _ hO Y3 hS)) fun r s' x=>?_
 cases r with
 |error e=>exact(Y0 _ e s' x).elim
 |ok fl=>
  cases fl with
  |next=>exact False.elim x
  |brk=>exact False.elim x
  |cont=>exact False.elim x
  |ret u=>
   obtain⟨v,H',os,bare,un,SY,r',q⟩:=x
   have kept:∀b o,b≠PT→s₁.heap.get? b=some o→s'.heap.get? b=some o:=fun b o z e=>by
    cases q2:H0 b with
    |none=>exact un.keep b o e (by rw[aq z];exact q2) (by intro z;exact absurd (show b∈([]:List Addr)from z) (by simp)) (by simp)
    |some u2=>
     rcases hO b with y |⟨ob,u3,y⟩
     ·rw[q2]at y
      cases y
     ·have z2:=un.BQ b ob _ (by rw[aq z];exact y)
      obtain⟨e1,_⟩:=SX b _ y
      obtain⟨e2,_⟩:=SY b _ z2
      rw[e]at e1
      cases e1
      exact e2
   obtain⟨more,tb⟩:=un.Dy PT #[] af
   have tb':s'.heap.get? PT=some (W.tabObj (#[]++more)):=SY PT _ tb
   have KX':K.In s'.heap:=fun b o e=>kept b o (fun z=>by rw[z,Wu]at e;cases e) (KX b o e)
   obtain⟨as,hrd⟩:=Dw.reads (R:=R) (cl:=cl) SY KX' d0 v u q r'
   have nS:PT≠cStatics:=fun z=>by
    obtain⟨mc,⟨o,es,ep,e,d,_⟩,_⟩:=hlim
    rw[←z,Qe]at e
    cases e
    cases d
   have ex:Heap.ExtBut PT s₁.heap s'.heap:=fun b o n e=>kept b o n e
   have hC':W.CodeHd s'.heap cT PT:=by
    obtain⟨o,vs,file,tf,flags,tg,Y4,text,tt,e1,r⟩:=hC
    exact⟨o,vs,file,tf,flags,tg,Y4,text,tt,kept _ _ r.2.2.2.2.2.2.2.2 e1,r⟩
   exact⟨u,as,rfl,hrd,OldK.step_table (OldK.of_keep fun _ _ e=>e) (hC.tab Qe) (hC.tab Qe) (hC'.tab tb') ex nS,os,bare⟩
theorem S0{r:OpenSpec}{k:Nat}{q:Program}{loose:List Str}{XP:(Str→Option Value)→Heap→Prop}{YP:World→Heap→Prop}{d dT:DefRec}{nm:Str}{cT PT:Addr}{K:Params→W.Frag}{CX:LD}{ps:List Str}{sp:W.Frag→Sp}(VZ:r.wellSaid=true)(hdf:d.params.defaults=[])(hlen:r.args.length=ps.length)(hr:j8 k callerA)(hY:∀(w:World) (h:Heap),YP w h→(K w.params).In h)(hrec:(recsOf q).find? (fun e=>e.name==nm)=some dT)(htab:∀p:Params,W.tabIn (K p) nm=some (cT,PT))(Wu:∀p:Params,(K p).lookup PT=none)(F:∀(w:World) (mg:Str→Option Value) (fa:Addr) (h:Heap),YP w h→(K w.params).In h→h.Ns mainGlobals mg→mg d.name=some (.ref fa)→∃fd:FuncData,(∀(s:Shared) (us:List Value),us.length=ps.length→BindsTo s fd ⟨us,[]⟩ (ps.zip us))∧∀base:Heap,(K w.params).In base→base.Ns mainGlobals mg→W.CodeHd base cT PT→base.BuiltinsAt mg PT→bE r.prog w (K w.params) mg base CX k fa fd ps (sp (K w.params)))(Oi:∀(K:W.Frag) (H:Hp) (xs:List V) (a:Codec.denoteAll r.args),HC H→H PT=none→Codec.withinAll r.args a=true→Codec.app r.args r.asked a=true→sA K H xs (Codec.encAll r.args a)→sp K xs (upd H PT (.ym #[])) (fun v H'=>Dw K H' v (r.ret.enc (Codec.app r.args r.f a))) fun _ _ _=>False)(Y0:∀(H:Hp) (s:Shared) (e:Value) (s':Shared),CX [] H s (fun _ _ _=>False) e s'→False):W.WalkOS q loose XP YP r d [] (fun f vs=>PySem.call f vs):=by
 intro w ED s₁ mg mb G Y fa o pm cd doc dV kV ho hd hcd hD hmg hg args vals as hpre hlay hrd hwl hlo
 obtain⟨a,e1,e2⟩:=W.os_pre_some hpre
 obtain⟨e3,hwi⟩:=Codec.encAll_of_decAll r.args args a e1
 subst e3
 have KX:=hY w _ Y
 obtain⟨fd,hb,hF⟩:=F w mg fa _ Y KX G.T.g hmg
 obtain⟨hC,Qe⟩:=W.tab_of G.T KX hrec (htab w.params)
 have hbm:s₁.heap.BuiltinsAt mg PT:=by
  obtain⟨bm,ob,b1,b2,b3,b4,b5,b6⟩:=G.T.bmain
  refine⟨bm,ob,b1,b2,fun z=>?_,fun z=>?_,b3,b4,b5,b6⟩
  ·obtain⟨o,es,ep,e,hd,_⟩:=G.T.g
   rw[z,e]at b3;cases b3;rw[hd]at b6;cases b6
  ·rw[z,Qe]at b3;cases b3;cases b4
 refine W.enter_call (codeAny_mono (Kl (R:=[]) (cl:=classAt ED.heap) (d0:=r.ret.enc (Codec.app r.args r.f a)) KX G.T.g G.T.b G.T.builtins G.T.nolimit hg hwl (EM _ _) (Cb hlay) hr hC Qe (Wu w.params) hbm hF hb (by rw[Cc];exact hlen) (fun H xs hO hP hS=>Oi (K w.params) H xs a hO hP hwi e2 hS) fun H e s'=>Y0 H s₁ e s') fun r' s' hq=>?_)
 obtain⟨u,as',rfl,h1,h2,h3,h4⟩:=hq
 exact⟨.inl ⟨u,_,as',rfl,fun _=>rfl,h1,(OpenSpec.post_iff VZ hwi _ _).mpr rfl,fun z=>Bool.noConfusion (show false=true from z)⟩,h2,h3,h4⟩
end L2
namespace MA
open PySem PySem.Spec PyProof.Rows L2
def QK(PT:Addr)(K:W.Frag):Sp:=fun vs H Q _=>∃a l,vs=[.ref a]∧TM K H a (aO l)∧PyVbemal.answers_asked l=true∧H PT=some (.ym #[])∧∀H' p,H' p=some (.lst (aO (PyVbemal.answers l)))→Q (.ref p) H'
theorem Y5{K:W.Frag}{u:Addr}{od:Option Addr}{lo hi:Int}{t1 t2:Tok}{n:Nat}{sl:Array (Option Value)}(h:K.lookup u=some ⟨.type "tuple",od,.seq #[.int lo t1,.int hi t2] n,sl⟩)(H:Hp):i6 K H u [.int lo,.int hi]:=
 .inr ⟨_,_,_,h,rfl,rfl,lz rfl,.cons ⟨t1,rfl⟩ (.cons ⟨t2,rfl⟩ .nil)⟩
def mkT(c:Cs)(fs:List Addr)(d:FuncData)(fds:List FuncData)(ks:List Tok)(us:List Addr)(b:Heap)(cc:Addr):TX:=⟨c,fun i=>fs.getD i 0,fun i=>fds.getD i d,fun i=>ks.getD i 0,fun i=>us.getD i 0,b,cc⟩
theorem all_mk{P:Program}{w:World}{K:W.Frag}{h:Heap}{mg:Str→Option Value}{fa cM cP cI cF cB cH cT PT f0 f1 f2 f3 f4 f5 f6 f7 f8 f9 f10 f11 f12 f13 f14 f15 f16 f17 f18 f19 f20 f21 f22 f23 f24 f25 f26 f27 f28 f29 f30 f31 f32 f33 f34 f35 f36 f37 f38 f39 f40 f41 f42 f43 f44 f45 f46 f47 f48 f49 f50 f51 f52 f53 f54 f55 f56 f57 f58 f59 f60 f61 f62 f63 f64 f65 f66 f67 f68 f69 f70 f71 f72 f73 f74 f75 f76 Ww u0 u1 u2 u3 u4 u5 u6 u7 u8 u9 u10 u11:Addr}{d0 d1 d2 d3 d4 d5 d6 d7 d8 d9 Wh d11 d12 d13 d14 d15 d16 d17 d18 d19 d20 d21 d22 d23 d24 d25 d26 d27 d28 d29 d30 d31 d32 d33 d34 d35 d36 d37 d38 d39 d40 d41 d42 d43 d44 d45 d46 d47 d48 d49 d50 d51 d52 d53 d54 d55 d56 d57 d58 d59 d60 d61 d62 d63 d64 d65 d66 d67 d68 d69 d70 d71 d72 d73 d74 d75 d76 Y6:FuncData}{k0 k1 k2 k3 k4 k5 k6 k7 k8 k9 Yj Vr k12 k13 Wq k15 k16 k17 k18 k19 k20 k21 k22 k23 k24:Tok}(X:K.In h)(G:h.Ns mainGlobals mg)(RQ:mg "answers"=some (.ref fa))(T:∀b,W.CodeHd b cT PT→b.BuiltinsAt mg PT→Txt K mg (mkT ⟨cM,cP,cI,cF,cB,cH,PT,RO RX,JH RW⟩ (f0::f1::f2::f3::f4::f5::f6::f7::f8::f9::f10::f11::f12::f13::f14::f15::f16::f17::f18::f19::f20::f21::f22::f23::f24::f25::f26::f27::f28::f29::f30::f31::f32::f33::f34::f35::f36::f37::f38::f39::f40::f41::f42::f43::f44::f45::f46::f47::f48::f49::f50::f51::f52::f53::f54::f55::f56::f57::f58::f59::f60::f61::f62::f63::f64::f65::f66::f67::f68::f69::f70::f71::f72::f73::f74::f75::f76::Ww::[]) Y6 (d0::d1::d2::d3::d4::d5::d6::d7::d8::d9::Wh::d11::d12::d13::d14::d15::d16::d17::d18::d19::d20::d21::d22::d23::d24::d25::d26::d27::d28::d29::d30::d31::d32::d33::d34::d35::d36::d37::d38::d39::d40::d41::d42::d43::d44::d45::d46::d47::d48::d49::d50::d51::d52::d53::d54::d55::d56::d57::d58::d59::d60::d61::d62::d63::d64::d65::d66::d67::d68::d69::d70::d71::d72::d73::d74::d75::d76::Y6::[]) (k0::k1::k2::k3::k4::k5::k6::k7::k8::k9::Yj::Vr::k12::k13::Wq::k15::k16::k17::k18::k19::k20::k21::k22::k23::k24::[]) (u0::u1::u2::u3::u4::u5::u6::u7::u8::u9::u10::u11::[]) b cT))(A:W.nsIn K mainGlobals "answers"=some (some (.ref Ww)))(B:bI K "answers" "answers" z9 Ww Y6):∃fd:FuncData,(∀(s:Shared) (us:List Value),us.length=(["calls"]:List Str).length→BindsTo s fd ⟨us,[]⟩ ((["calls"]:List Str).zip us))∧∀base:Heap,K.In base→base.Ns mainGlobals mg→W.CodeHd base cT PT→base.BuiltinsAt mg PT→bE P w K mg base fG 13 fa fd ["calls"] (QK PT K):=by
 have e:Ww=fa:=Value.ref.inj (aar ((W.mg_of X G A).symm.trans RQ))
 subst e
 obtain⟨⟨_,_,_,_,_,_,_,_,_,rfl,_⟩,_⟩:=B
 exact⟨_,fun s us hu=>match us,hu with |[_],_=>.of_eq rfl,fun b _ _ hC hB=>(Kh (P:=P) (w:=w) (T b hC hB)).imp fun vs H Q E ⟨a,l,e1,e2,e3,e4,e5⟩=>⟨a,l,e1,e2,e3,⟨#[],none,e4,.inl ⟨rfl,rfl⟩,fun _ z=>by cases z⟩,e5⟩⟩
end MA
namespace MA
open PySem PySem.Spec PyProof.Rows L2
open PySem.W (Codec)
theorem aaa(K:W.Frag)(H:Hp)(xs:List V)(a:Codec.denoteAll PySem.Challenge.rw_marketaccounts_s01_answers.args)(hO:HC H)(hP:H 30=none)(Dr:Codec.app PySem.Challenge.rw_marketaccounts_s01_answers.args PySem.Challenge.rw_marketaccounts_s01_answers.asked a=true)(hx:sA K H xs (Codec.encAll PySem.Challenge.rw_marketaccounts_s01_answers.args a)):QK 30 K xs (upd H 30 (.ym #[])) (fun v H'=>Dw K H' v (PySem.Challenge.rw_marketaccounts_s01_answers.ret.enc (Codec.app PySem.Challenge.rw_marketaccounts_s01_answers.args PySem.Challenge.rw_marketaccounts_s01_answers.f a))) fun _ _ _=>False:=by
 cases hx with
 |cons h1 h2=>
  cases h2
  cases h1 with
  |lst hs ha=>
   have e:=L2.KJ a.1 _ ha
   subst e
   refine⟨_,a.1,rfl,?_,Dr,af,fun H' p hp=>.lst (bD.of hp) (KI _)⟩
   rcases hs with(h |⟨o,h⟩) |h
   ·rcases hO _ with y |⟨ob,u,y⟩
    ·rw[h]at y
     cases y
    ·rw[h]at y
     cases y
   ·exact .inl ⟨o,by rw[aq (aA h hP)];exact h⟩
   ·exact .inr fun H'=>.inr h
end MA
namespace PySem.W.Fast
def zq:=trivial
def tw4595338712820010361:=zq
def tw15572997784787299380:=zq
def tw9329948718505475867:=zq
def tw11453725169784757941:=zq
def tw7476627259443874666:=zq
def tw13466312626743352077:=zq
def tw10808240216696358502:=zq
def tw7746480535282961885:=zq
def tw3278219449638567835:=zq
def tw3815788078367118969:=zq
def tw767507609917727268:=zq
def tw6847897322929425020:=zq
def tw6428877543279745535:=zq
def tw601324144094872210:=zq
def tw17275673148725395864:=zq
def tw493764967512959043:=zq
def tw6068460011884435195:=zq
def tw17765236618240837309:=zq
def tw137066812652795244:=zq
def tw15089310307820301548:=zq
def tw8751964408543138768:=zq
def tw10991297006074407582:=zq
def tw8722582734490921646:=zq
def tw195770593406183056:=zq
def tw17282347052182805095:=zq
def tw15450172942514730034:=zq
def tw18059046608209347053:=zq
def tw13575228049256319821:=zq
def tw15132426993149768799:=zq
def tw5382539284173028787:=zq
def tw6367885687081822397:=zq
def tw10520400608370931323:=zq
def tw13984569456093329720:=zq
def tw7439929173613724505:=zq
def tw9869317170701710376:=zq
def tw2088522261026630130:=zq
def tw4160819210650695978:=zq
def tw16085555939303217761:=zq
def tw15038979399105695904:=zq
def tw3587166585331750519:=zq
def tw2771513417452643856:=zq
def tw11895806159754193683:=zq
def tw112940527051490012:=zq
def tw9837691479070141293:=zq
def tw10127758833796571414:=zq
def tw6117918591711223927:=zq
def tw17668428542726156461:=zq
def tw12105493850754762273:=zq
def tw11158140528598856560:=zq
def tw6551302700877207092:=zq
def tw16082119687914751866:=zq
def tw1570799535043845468:=zq
def tw7510183185094591019:=zq
def tw11352808161708845235:=zq
def tw1178009925517348141:=zq
def tw1225840730704788008:=zq
def tw9271999591140840587:=zq
def tw8995607033026792044:=zq
def tw12176822906209254650:=zq
def tw12128023570071189701:=zq
def tw15100345597169551043:=zq
def tw15397885539961386838:=zq
def tw17219073518234664915:=zq
def tw17434018915865900725:=zq
def tw11174987039763506941:=zq
def tw634303466015519738:=zq
def tw5408520762696417388:=zq
def tw7639875945915054216:=zq
def tw17314136130372359042:=zq
def tw6854484837649019841:=zq
def tw2019083568790902084:=zq
def tw17067970686822465949:=zq
def tw15291879848600204570:=zq
def tw17979753092130323948:=zq
def tw2752157342735325849:=zq
def tw6858240040558503717:=zq
def tw16283917119502129843:=zq
def tw11563980106755902939:=zq
def tw4218842359734592499:=zq
def tw9782907671968348120:=zq
def tw5957354887119701619:=zq
def tw15527299931652189870:=zq
def tw16336393853550053090:=zq
def tw7213386070956449923:=zq
def tw4291013470939431660:=zq
def tw17532926923541285758:=zq
def tw15656460019250008799:=zq
def tw18289608925323036999:=zq
def tw4624923853390697671:=zq
def tw8157496326153200737:=zq
def tw845304874477963695:=zq
def tw2175813138131611963:=zq
def tw13282333686543877529:=zq
def tw17086125123868444767:=zq
def tw4033971040741728271:=zq
def tw1857094183136599195:=zq
def tw7820219813009938114:=zq
def tw3790594648790228241:=zq
def tw2501485622775490439:=zq
def tw9186324872836347920:=zq
def tw14640729790416676432:=zq
def tw584704305519327392:=zq
def tw4243208650862653796:=zq
def tw12280447647849927776:=zq
def tw1537119081497026214:=zq
def tw4521593025856596875:=zq
def tw10390253211298237640:=zq
def tw5405556092506186454:=zq
def tw12232766166318971476:=zq
def tw5317932413803979058:=zq
def tw7436975451604273747:=zq
def tw16240888580419698550:=zq
def tw9502056803009420815:=zq
def tw15771795491118643534:=zq
def tw802782613735284226:=zq
def tw13236549071340452685:=zq
def tw6660330128356240460:=zq
def tw12764139725875248854:=zq
def tw3450005022449980295:=zq
def tw11550860956680017397:=zq
def tw895045475832423801:=zq
def tw1137715987105258929:=zq
def tw7254009077832975121:=zq
def tw7795314059386276116:=zq
def tw12920397900910554000:=zq
def tw11718101827551058418:=zq
def tw9392553228282752883:=zq
def tw4895566695551014482:=zq
def tw10350168163084898013:=zq
def tw11844042421818473359:=zq
def tw8164838120033788102:=zq
def tw5292481250084805703:=zq
def tw4287357325974642614:=zq
def tw2811116887989394138:=zq
def tw11825443048186656913:=zq
def tw7940717870847517672:=zq
def tw8952642865611109160:=zq
def tw17710885296418138083:=zq
def tw2519906075997140658:=zq
def tw4033526550999202538:=zq
def tw3406362478566603681:=zq
def tw7568550584212840971:=zq
def tw4290369107655653337:=zq
def tw1597783534661948303:=zq
def tw12496234637761494752:=zq
def tw6533303517998649222:=zq
def tw9854520188415752708:=zq
def tw7908580520242756638:=zq
def tw6292276681085055743:=zq
def tw9699905010449626663:=zq
def tw13033268102987483481:=zq
def tw2067180641144634733:=zq
def tw951421180832445986:=zq
def tw9867274126025735876:=zq
def tw11285944705382158922:=zq
def tw13891047215115927096:=zq
def tw17774574221261649590:=zq
def tw5993916045752063934:=zq
def tw8711788288076900894:=zq
def tw2552447068256997214:=zq
def tw9160196741169805767:=zq
def tw10793874756314324356:=zq
def tw3753023121151743798:=zq
def tw18286388689125462104:=zq
def tw13190899590825414420:=zq
def tw7132108008107821232:=zq
def tw15402091548758552032:=zq
def tw6617823278882726219:=zq
def tw6257116205596901344:=zq
def tw11295929897749822124:=zq
def tw8398231956142378438:=zq
def tw3605831499906642696:=zq
def tw10362429246887440730:=zq
def tw7604165577271912320:=zq
def tw10765824686670905725:=zq
def tw15783422861284651886:=zq
def tw644544298674388941:=zq
def tw8895825323743903704:=zq
def tw3160609072236085428:=zq
def tw14224917989537650232:=zq
def tw6174163167739603078:=zq
def tw5825951720421116396:=zq
def tw14232301779043249669:=zq
def tw18038236663603683035:=zq
def tw9147266429878110639:=zq
def tw10899611050792468515:=zq
def tw13660171253324146820:=zq
def tw4621663748849323057:=zq
def tw15202107279155675967:=zq
def tw15261276699250436071:=zq
def tw11968646080027308585:=zq
def tw5521704163659836222:=zq
def tw8346098477755690477:=zq
def tw13464729669073636628:=zq
def tw8886450901191613945:=zq
def tw9207071410200237126:=zq
def tw5387619196004930959:=zq
def tw9409195164822868550:=zq
def tw5457150051593946832:=zq
def tw10411860471118136884:=zq
def tw8734360163064470208:=zq
def tw3735332697039420524:=zq
def tw2591330831815182328:=zq
def tw11784429402373941221:=zq
def tw18134554144286178030:=zq
def tw16159696396908494217:=zq
def tw16443878133164240475:=zq
def tw14140343938757531081:=zq
def tw333586685610733904:=zq
def tw13313552516927032383:=zq
def tw7708646570153117567:=zq
def tw14958169234674926617:=zq
def tw13303557612221411563:=zq
def tw2055103660468121348:=zq
def tw14550240375235977609:=zq
def tw65469106806150418:=zq
def tw6343498904784279606:=zq
def tw10383706804551794766:=zq
def tw3143229164957149917:=zq
def tw7316213116409502975:=zq
def tw11485326694770466720:=zq
def tw8163996342799333593:=zq
def tw16758072179184732338:=zq
def tw8458833900457844984:=zq
def tw3374920841467348112:=zq
def tw16270060156565702409:=zq
def tw1682314704223476440:=zq
def tw17888343013671915523:=zq
def tw15157077674497486437:=zq
def tw12497099845319153806:=zq
def tw9158420656775284491:=zq
def tw529977271350930456:=zq
def tw3808640992775011383:=zq
def tw7730569562945654591:=zq
def tw7693882717613444687:=zq
def tw4052556169245941569:=zq
def tw13212670590105727814:=zq
def tw12071762091375277417:=zq
def tw12982335214439239942:=zq
def tw1522472358346532974:=zq
def tw16106567273015660922:=zq
def tw5538071965614017021:=zq
def tw11464270782021304824:=zq
def tw17050160864971616441:=zq
def tw18183020602493375464:=zq
def tw16809797611250521696:=zq
def tw1449079200794164252:=zq
def tw14649391110583756325:=zq
def tw16991055625060599965:=zq
def tw9753581182441577828:=zq
def tw16931263547440720943:=zq
def tw11016925350506200379:=zq
def tw6099064699842559217:=zq
def tw14582079375938038257:=zq
def tw18365856882273804057:=zq
def tw2709769651609007387:=zq
def tw11460293191846508207:=zq
def tw7238146196282738185:=zq
def tw6660912236448072739:=zq
def tw7672128674761107306:=zq
def tw7558104081804430121:=zq
def tw15193804713502959762:=zq
def tw16991894439705213298:=zq
def tw627512220297978060:=zq
def tw17067442530571436199:=zq
def tw57633036651876473:=zq
def tw182730155725225934:=zq
def tw290611089312432384:=zq
def tw17623779182157334472:=zq
def tw5479241522761018264:=zq
def tw16682610992234828295:=zq
def tw1095001876790590452:=zq
def tw18031074878011403843:=zq
def tw2963851422544244312:=zq
def tw7562673057075348395:=zq
def tw16811229539515312261:=zq
def tw5986098807599070923:=zq
def tw17307970561252241663:=zq
def tw5619533732284109397:=zq
def tw7777987623165115919:=zq
def tw1035896732481895877:=zq
def tw3837910320754289024:=zq
def tw16697182061459357568:=zq
def tw15900870856811554029:=zq
def tw9869920294171260640:=zq
def tw1532121707090683697:=zq
def tw18063856686442977588:=zq
def tw9558994011392377959:=zq
def tw7307889922567688676:=zq
def tw6565709198775634273:=zq
def tw185810754793040584:=zq
def tw17941745626626733204:=zq
def tw14888903118236506213:=zq
def tw14183437240414158893:=zq
def tw8892539166410236866:=zq
def tw5501140491569410566:=zq
def tw12485893103384871389:=zq
def tw8002322933394153180:=zq
def tw6452445609377508955:=zq
def tw2573030386060904568:=zq
def tw17340250176403783036:=zq
def tw16730298946639384605:=zq
def tw7177874963691172863:=zq
def tw4179338984717000068:=zq
def tw14950952676661650988:=zq
def tw11856396789781869400:=zq
def tw6203940765840885715:=zq
def tw5466178841928980064:=zq
def tw12115312542443179617:=zq
def tw4605442622137272286:=zq
def tw5803851262996069266:=zq
def tw12682227402460206731:=zq
def tw15331781665621662359:=zq
def tw4003483335722213133:=zq
def tw13932360468594784108:=zq
def tw17227207035503882207:=zq
def tw17377707119857599339:=zq
def tw7184749064484507533:=zq
def tw556674679122368968:=zq
def tw17112632746684947803:=zq
def tw13003964752435940084:=zq
def tw8225554929791393551:=zq
def tw2075207348949831655:=zq
def tw8974610876232406131:=zq
def tw3778832912908376627:=zq
def tw11044888249249411953:=zq
def tw4657354690440679551:=zq
def tw3260760858389999332:=zq
def tw17124278353333877959:=zq
def tw8369381731579311309:=zq
def tw2023097994415820358:=zq
def tw16293873812965161857:=zq
def tw15483817493141452865:=zq
def tw863586706661391754:=zq
def tw3738156469994687095:=zq
def tw11389826750137772112:=zq
def tw10657144531488147379:=zq
def tw10685607430566425002:=zq
def tw14196716609211770088:=zq
def tw2347252123483184447:=zq
def tw12017645330509875731:=zq
def tw842537026911765542:=zq
def tw14789358642933860691:=zq
def tw8296848133315887107:=zq
def tw11297976695666636421:=zq
def tw13340398628120579978:=zq
def tw14418365851129779361:=zq
def tw17659666825861457792:=zq
def tw13893175726085961914:=zq
def tw7845757060536248048:=zq
def tw6067878565847986157:=zq
def tw4924519594336729098:=zq
def tw15366259059650251526:=zq
def tw11858911305720567847:=zq
def tw592227599046847747:=zq
def tw9625412202253774741:=zq
def tw12175691614001630094:=zq
def tw13805840641266767357:=zq
def tw10149168617579862501:=zq
def tw1319473587430120333:=zq
def tw11325025219014079167:=zq
def tw9906665998006912616:=zq
def tw11016617560057620460:=zq
def tw4362526961310525791:=zq
def tw17021625004562871733:=zq
def tw14952942119993165655:=zq
def tw14070025603828904823:=zq
def tw10500611836418512364:=zq
def tw9172117120163522282:=zq
def tw3832267280723322793:=zq
def tw3716731075238745153:=zq
def tw1841751274303876657:=zq
def tw1741612239133811711:=zq
def tw14632845461925906806:=zq
def tw10569736267336556890:=zq
def tw17019747422173206571:=zq
def tw708409840736133848:=zq
def tw6510865123795037404:=zq
def tw10916723769554797496:=zq
def tw14392091397936474074:=zq
def tw2927679233555807158:=zq
def tw3017115554803057499:=zq
def tw17467035243684874182:=zq
def tw8928438400453982678:=zq
def tw8232014292773961414:=zq
def tw445077132321499679:=zq
def tw4070950242086746400:=zq
def tw17934163301553023276:=zq
def tw12482116349001783027:=zq
def tw11190455044039893391:=zq
def tw3110777615220163792:=zq
def tw7820268026654095083:=zq
def tw13899360360130201841:=zq
def tw5522664564997908957:=zq
def tw14859617604630725613:=zq
def tw12769316518808401531:=zq
def tw1017504624255231152:=zq
def tw3855836533253174876:=zq
def tw7036398212643658719:=zq
def tw6338067653720618962:=zq
def tw6168009047762414939:=zq
def tw4390217791506966659:=zq
def tw17197586936520947641:=zq
def tw16060028315917065323:=zq
def tw8689233902877018151:=zq
def tw6690169815809669338:=zq
def tw3987741260325962521:=zq
def tw16454072257846316281:=zq
def tw14877020530924264445:=zq
def tw12547143233583444952:=zq
def tw10272951525551945557:=zq
def tw7894095838299835885:=zq
def tw4358249730669849968:=zq
def tw3265685455493050542:=zq
def tw14892750462892886366:=zq
def tw13416585370564854285:=zq
def tw11438766624861263494:=zq
def tw11175343250263606821:=zq
def tw9521875996992708356:=zq
def tw18231972822511851332:=zq
end PySem.W.Fast
open PySem PySem.W PyProof.Rows
set_option maxRecDepth 100000 in
set_option maxHeartbeats 0 in
theorem PySem.Challenge.cw_marketaccounts_s01_answers_holds : PySem.Challenge.rw_marketaccounts_s01_answers.Holds := by
  w_on; k_headS; (case hw => exact ⟨[.list [.int 1]], by decide +kernel, by decide +kernel⟩)
  k_fillS
  refine L2.S0 (r := PySem.Challenge.rw_marketaccounts_s01_answers) (k := 13) (nm := "split_by_weights") (cT := 32) (PT := 30) (CX := L2.fG) (ps := ["calls"]) (sp := MA.QK 30) (by decide +kernel) rfl rfl ⟨rfl, by decide, by decide⟩ (fun w h Y => PySem.W.kIn_of Y) rfl (fun p => by kernel_rfl) (fun p => by kernel_rfl) ?F (fun K H xs a hO hP _ Dr hx => MA.aaa K H xs a hO hP Dr hx) (fun _ _ _ _ z => z)
  case F =>
    intro w mg fa h Y KX G hmg
    apply MA.all_mk KX G hmg
    case A => k_is
    case T =>
      intro b hC hB
      constructor
      all_goals try (refine' mg_of KX G ?e; (case e => k_is))
      all_goals try (refine' mg_none_of KX G ?e; (case e => k_is))
      all_goals try (constructor <;> dsimp only [MA.mkT, List.getD, List.getElem?_cons_succ, List.getElem?_cons_zero, Option.getD] <;> k_is)
      all_goals try (change findIn _ _ _ = _; dsimp only [MA.mkT]; k_is)
      all_goals try ((conv => arg 5; whnf); (conv => arg 6; whnf); refine' L2.Xd ?l ?c ?k; (case l => k_is); (case c => k_is); (case k => k_is))
      all_goals try (intro H; (conv => arg 3; whnf); refine' MA.Y5 ?l H; (case l => k_is))
      all_goals first | exact hC | exact hB | rfl
    case B => refine' L2.Xd ?l ?c ?k; (case l => k_is); (case c => k_is); (case k => k_is)
