import PyProof.Rows.All
import Wide.All
import OpenK.AllK
import Wide.FinOn
import PyProof.EqAt
import PyProof.EqKinds
import PyProof.TupleCall
import KE.BitLaws
import Open.SpecLaws
import KE.OsHead
import KE.OsGo
import KE.KSortRegAny
import KE.RegKIsAll
import PyProof.SetScanFacts
import PyProof.Rows.SortShellAny
import PyProof.Rows.SetFrom
import PyProof.CollectWalk
import PySem.Challenge.RW_sharedtrees_s01_answers
set_option Elab.async false
set_option linter.all false
set_option maxRecDepth 100000
set_option compiler.extract_closed false
set_option maxHeartbeats 0
set_option bootstrap.genMatcherCode false
noncomputable section
def aB:=@PySem.wpAny_bind
def aO:=@List.length_map
def bU:=@List.mem_cons_self
def cP:=@List.mem_cons_of_mem
def eB:=@PySem.Heap.get?_push_of_some
def cQ:=@decide_eq_true_iff
def cY:=@List.mem_singleton
def aP:=@PySem.wpAny_pure
def bN:=@List.mem_cons
def aq:=@if_neg
def cB:=@Bool.and_eq_true
def cF:=@List.length_cons
def br:=@List.mem_map
def ay:=@if_pos
def iu:=@List.getElem?_eq_some_iff
def f_:=@Option.map_eq_some_iff
def dO:=@Int.toNat_natCast
def iw:=@List.getElem?_eq_getElem
def bw:=@Nat.le_refl
def fB:=@PySem.Heap.get?_push_size
def dg:=@List.mem_append
def iL:=@Option.isSome_iff_exists
def fj:=@List.getElem?_map
def gb:=@List.length_append
def gy:=@List.filterMap_cons
def cC:=@PySem.Heap.lt_size
def dG:=@List.map_cons
def gZ:=@Bool.false_ne_true
def fG:=@Option.some.inj
def kD:=@PySem.F.plainAttrs_list
def iF:=@List.pairwise_cons
def jo:=@Array.length_toList
def iM:=@List.size_toArray
def jZ:=@Nat.lt_of_lt_of_le
def i9:=@List.take_length
def i_:=@decide_eq_false
def g_:=@PySem.W.mg_of
def fC:=@Nat.zero_le
def pD:=@List.drop_eq_getElem_cons
def iN:=@Bool.and_assoc
def l_:=@List.mem_of_getElem?
def pF:=@PySem.F.type_list_append
def pG:=@PySem.F.slot_list_append
def gz:=@Nat.le_trans
def jN:=@List.mem_filter
def jO:=@List.map_append
def iO:=@Bool.and_true
def k8:=@decide_eq_true_eq
def kP:=@List.filter_cons
def jP:=@decide_eq_true
def iG:=@Nat.ne_of_lt
def mh:=@Bool.false_eq_true
def mS:=@PySem.mem_of_lookup
def kE:=@PySem.PassesOwn.never
def rA:=@Array.getElem?_eq_getElem
def kQ:=@List.nodup_cons
def pH:=@Array.getElem?_toList
def lG:=@List.length_take
def tS:=@List.getD_eq_getElem?_getD
def qg:=@List.mem_append_right
def qh:=@List.getElem?_eq_none
def yc:=@List.eq_nil_of_length_eq_zero
def yd:=@Array.getD_eq_getD_getElem?
def kR:=@Nat.lt_or_ge
def vR:=@decide_eq_false_iff_not
def mj:=@PySem.Heap.size_push
def nP:=@List.append_nil
def tT:=@List.mem_append_left
def vS:=@Array.getElem?_eq_none
def pI:=@PySem.wpAny_call_entry
def lH:=@Nat.le_of_lt
def tU:=@Nat.lt_of_le_of_lt
def qj:=@Bool.eq_iff_iff
def Bc:=@PySem.F.type_list_extend
def Be:=@PySem.F.slot_list_extend
def ye:=@List.mem_iff_getElem?
def rB:=@PySem.W.kia_one
def Eb:=@PyProof.Rows.callWith_type1
def Ec:=@PySem.F.slot_dict_keyiterator_next
def tV:=@Nat.div_eq_of_lt
def Ed:=@List.getElem?_append_right
def Bf:=@List.length_filter_le
def vU:=@Nat.mod_eq_of_lt
def Bg:=@PySem.Heap.get?_update_self
def rC:=@Bool.true_and
def yf:=@PySem.wpAny_setField_rec
def Ef:=@Nat.div_div_eq_div_mul
def Eg:=@PySem.wpAny_callSpecial?_slot
def yg:=@PySem.wpAny_truthy_bool
def yh:=@PySem.wpAny_newObj_type
def mT:=@PySem.wpAny_mono
def yi:=@PySem.wpAny_dictEntries
def yj:=@List.not_mem_nil
def tW:=@Nat.lt_irrefl
def Bh:=@List.filter_append
def Eh:=@List.filterMap_append
def GN:=@List.pairwise_iff_getElem
def vV:=@List.mem_range
def GO:=@List.getElem?_append_left
def sf:=@PySem.wpAny_isInstance
def jd:=@congrArg
def yk:=@List.length_take_le'
def vG:=@Bool.eq_false_iff
def o7:=@Nat.ne_of_gt
def jH:=@if_false
def yl:=@beq_eq_false_iff_ne
def ym:=@List.filter_sublist
def vH:=@List.lookup_cons
def sr:=@Bool.false_and
def BG:=@List.drop_eq_nil_of_le
def yo:=@PySem.Heap.SameBut.update
def EY:=@PySem.wpAny_typeNameOfWhole_keyiter
def vI:=@Nat.two_pow_pos
def BH:=@List.Pairwise.sublist
def yp:=@Nat.lt_succ_of_lt
def yq:=@List.nodup_append
def BI:=@PySem.Heap.get?_update_other
def BJ:=@PySem.Calls.callWith_builtin
def yr:=@PySem.tupleKind_room_in1
def BK:=@List.pairwise_append
def BL:=@List.mem_of_mem_take
def vJ:=@PySem.wpAny_passesOwn
def su:=@PySem.wpAny_holding
def qA:=@Sum.inl.inj
def sA:=@Nat.pow_succ
def sC:=@List.map_nil
def EZ:=@List.length_filterMap_le
def BN:=@List.mem_filterMap
def yt:=@List.foldl_cons
def J0:=@List.findIdx?_eq_some_iff_getElem
def yu:=@List.find?_cons
def J1:=@Nat.testBit_eq_decide_div_mod_eq
def E1:=@PySem.wpAny_typeNameOf_keyiter
def sD:=@PySem.F.called_set
def BO:=@List.filter_congr
def BP:=@Bool.not_eq_true'
def BQ:=@PySem.wpAny_Call_Name_kw
def vK:=@PySem.Paired.length
def E2:=@Bool.and_eq_false_iff
def BR:=@Nat.le_add_right
def BS:=@List.all_eq_true
def sE:=@PySem.wpAny_field
def sF:=@PySem.sizeLine_eq
def yw:=@Nat.mul_assoc
def E3:=@List.drop_succ_cons
def E4:=@PySem.W.callWith_K
def yx:=@Nat.mul_comm
def yy:=@Nat.le_of_eq
def E5:=@PySem.Calls.evalArgs_plain
def yz:=@PySem.wpAny_attempt
def mz:=@if_true
def mC:=@Ne.symm
def J2:=@List.findIdx?_eq_none_iff
def BU:=@PySem.wpAny_dictEpoch
def vL:=@beq_iff_eq
def E6:=@Nat.le_of_succ_le
def E7:=@List.length_range
def J3:=@PySem.F.plainAttrs_dict
def J4:=@List.getElem?_cons_zero
def yC:=@PySem.codeAny_mono
def E8:=@Nat.lt_succ_self
def E9:=@List.Sublist.map
def E_:=@PySem.Calls.spliced_cons
def BV:=@PySem.wpAny_seqItems
def J5:=@Nat.div_eq_zero_iff_lt
def J6:=@List.length_pos_of_mem
def J7:=@List.getElem?_set_self
def Fb:=@PySem.wpAny_pyIter_slot
def J8:=@PySem.F.slot_dict_pop
def J9:=@PySem.F.slot_dict_get
def Fc:=@Option.map_some
def BW:=@Nat.sub_self
def BX:=@Nat.lt_trans
def Fd:=@List.of_mem_zip
def Fe:=@List.length_zip
def J_:=@List.contains_iff_mem
def Ff:=@PySem.Heap.SameBut.refl
def Fg:=@PySem.Calls.spliced_nil
def yD:=@Nat.mod_lt
def Ka:=@List.getElem?_set_ne
def Fi:=@PySem.wpAny_askSetting
def Fj:=@List.forIn_nil
def Fl:=@List.drop_zero
def Fo:=@Bool.and_false
def Fp:=@Array.size_map
def Kc:=@PySem.W.plainGet_of
def Kd:=@List.flatMap_append
def Fq:=@PySem.wpAny_execs_nil
def Ft:=@PySem.pushCells_keeps
def Fv:=@PySem.codeAny_builtin
def Ke:=@Nat.eq_zero_or_pos
def Fw:=@PySem.F.slot_zip_next
def Kf:=@Option.isSome_map
def Kg:=@Nat.lt_trichotomy
def Kh:=@List.append_assoc
def Kl:=@Array.toList_push
def Km:=@PySem.Around.under_plainId
def Fx:=@PySem.wpAny_fieldsOf
def Fy:=@List.map_map
def Kn:=@Nat.succ_le_succ
section
namespace SM
open Vbwsae
abbrev bI:=Store Int
abbrev Nd:=Node Int
abbrev Tr:=T Int
def bJ(s:bI):nodeAt s 0=none:=by simp[nodeAt]
def iD(s:bI)(i:Nat):nodeAt s (i+1)=s.getD i none:=by simp[nodeAt]
def Lu{s:bI}{i:Nat}{n:Nd}(h:nodeAt s i=some n):0<i:=by
 cases i with
 |zero=>rw[bJ]at h;cases h
 |succ i=>exact Nat.succ_pos i
def zR{s:bI}{i:Nat}{n:Nd}(h:nodeAt s i=some n):i<=s.length:=by
 cases i with
 |zero=>exact fC _
 |succ i=>
  rw[iD]at h;rcases kR i s.length with q|q
  ·exact q
  ·rw[tS,qh q]at h;cases h
def Ext(s s':bI):Prop:=∀i n,nodeAt s i=some n->nodeAt s' i=some n
def jY(s s':bI):Prop:=∃new:List Nd,s'=s++new.map some
def jY.refl(s:bI):jY s s:=⟨[],by simp⟩
def jY.trans{a b c:bI}(h:jY a b)(g:jY b c):jY a c:=by
 obtain⟨x,rfl⟩:=h;obtain⟨y,rfl⟩:=g;exact⟨x++y,by rw[jO,Kh]⟩
def jY.len{s s':bI}(h:jY s s'):s.length<=s'.length:=by
 obtain⟨x,rfl⟩:=h;rw[gb];exact BR _ _
def jY.ext{s s':bI}(h:jY s s'):Ext s s':=by
 obtain⟨x,rfl⟩:=h;intro i n q;cases i with
 |zero=>rw[bJ]at q;cases q
 |succ i=>
  rw[iD]at q⊢;rw[tS]at q⊢;rcases kR i s.length with z|z
  ·rw[GO z];exact q
  ·rw[qh z]at q;cases q
def same_iff{a b:Int}:same a b=true↔a=b:=by simp[same]
def yE{a b:Nd}:sameNode same a b=true↔a=b:=by
 cases a<;>cases b<;>simp[sameNode,same_iff,cB,vL]
def qB(s:bI):Prop:=∀i j n,nodeAt s i=some n->nodeAt s j=some n->i=j
def BY(s:bI)(n:Nd):nodeAt (s++[some n]) (s.length+1)=some n:=by
 rw[iD,tS,Ed (bw _),BW];rfl
def uh{s:bI}{n m:Nd}{i:Nat}(h:nodeAt (s++[some n]) i=some m):nodeAt s i=some m\/(i=s.length+1/\m=n):=by
 cases i with
 |zero=>rw[bJ]at h;cases h
 |succ i=>
  rw[iD,tS]at h;rw[iD,tS];rcases Kg i s.length with z|z|z
  ·rw[GO z]at h;exact .inl h
  ·subst z;rw[Ed (bw _),BW]at h;exact .inr ⟨rfl,(fG h).symm⟩
  ·rw[qh (by rw[gb];exact z)]at h;cases h
def xQ{s:bI}(U:qB s)(n:Nd):
  (∃i,nodeAt s i=some n/\mk same s n=(s,i))\/((∀i,nodeAt s i≠some n)/\mk same s n=(s++[some n],s.length+1)):=by
 cases e:s.findIdx? (λx=>x.any (sameNode same n))with
 |some i=>
  obtain⟨hi,hp,_⟩:=J0.mp e;refine .inl ⟨i+1,?_,?_⟩
  ·rw[iD,tS,iw hi];cases q:s[i]with
   |none=>rw[q]at hp;cases hp
   |some m=>
    rw[q]at hp;have:n=m:=yE.mp hp
    rw[this];rfl
  ·unfold mk;rw[e]
 |none=>
  refine .inr ⟨λi h=>?_,?_⟩
  ·rw[J2]at e;cases i with
   |zero=>rw[bJ]at h;cases h
   |succ i=>
    rw[iD,tS]at h;cases q:s[i]? with
    |none=>rw[q]at h;cases h
    |some o=>
     rw[q]at h;have h:o=some n:=h
     have:=e o (l_ q);rw[h]at this;simp[yE.mpr rfl]at this
  ·unfold mk;rw[e]
def k_{s:bI}(U:qB s)(n:Nd):jY s (mk same s n).1/\qB (mk same s n).1/\nodeAt (mk same s n).1 (mk same s n).2=some n:=by
 rcases xQ U n with⟨i,h,e⟩|⟨h,e⟩
 ·rw[e];exact⟨jY.refl s,U,h⟩
 ·rw[e];refine⟨⟨[n],rfl⟩,λi j m hi hj=>?_,BY s n⟩;rcases uh hi with a|⟨a,b⟩<;>rcases uh hj with c|⟨c,d⟩
  ·exact U i j m a c
  ·subst d;exact absurd a (h i)
  ·subst b;exact absurd c (h j)
  ·rw[a,c]
inductive Rep(s:bI):Nat->Tr->Prop
 |leaf {i k:Nat} {x:Int}:nodeAt s i=some (.leaf k x)->Rep s i (.leaf k x)
 |fork {i b l r:Nat} {tl tr:Tr}:nodeAt s i=some (.fork b l r)->Rep s l tl->Rep s r tr->Rep s i (.fork b tl tr)
def ji(s:bI)(i:Nat)(t:Tr):Prop:=(i=0/\t=.none)\/Rep s i t
def Rep.ext{s s':bI}(h:Ext s s'){i:Nat}{t:Tr}(r:Rep s i t):Rep s' i t:=by
 induction r with
 |leaf e=>exact .leaf (h _ _ e)
 |fork e _ _ a b=>exact .fork (h _ _ e) a b
theorem ji.ext{s s':bI}(h:Ext s s'){i:Nat}{t:Tr}(r:ji s i t):ji s' i t:=r.imp id (Rep.ext h)
def Rep.pos{s:bI}{i:Nat}{t:Tr}(r:Rep s i t):0<i:=by cases r<;>exact Lu (by assumption)
def Rep.node{s:bI}{i:Nat}{t:Tr}(r:Rep s i t):∃n,nodeAt s i=some n:=by
 cases r<;>exact⟨_,by assumption⟩
def Rep.le{s:bI}{i:Nat}{t:Tr}(r:Rep s i t):i<=s.length:=by obtain⟨n,h⟩:=r.node;exact zR h
def Rep.inj{s:bI}{i:Nat}{t u:Tr}(r:Rep s i t):Rep s i u->t=u:=by
 induction r generalizing u with
 |leaf e=>
  intro q;cases q with
  |leaf e'=>rw[e]at e';cases e';rfl
  |fork e' _ _=>rw[e]at e';cases e'
 |fork e _ _ a b=>
  intro q;cases q with
  |leaf e'=>rw[e]at e';cases e'
  |fork e' x y=>rw[e]at e';cases e';rw[a x,b y]
def Rep.gn{s:bI}{i:Nat}{t:Tr}(r:Rep s i t):t≠ .none:=by cases r<;>exact λh=>nomatch h
inductive WT:Tr->Nat->Nat->Prop
 |leaf {k:Nat} {x:Int} {c p:Nat}:k/2^c=p->WT (.leaf k x) c p
 |fork {b c p q:Nat} {tl tr:Tr}:b<c->WT tl b (2*q)->WT tr b (2*q+1)->q/2^(c-b-1)=p->WT (.fork b tl tr) c p
theorem WT.depth{t:Tr}{c p:Nat}(h:WT t c p):depth t<=c+1:=by
 induction h with
 |leaf _=>exact Kn (fC _)
 |fork hb _ _ _ a b=>
  show 1+max _ _<=_
  omega
def WT.gn{t:Tr}{c p:Nat}(h:WT t c p):t≠ .none:=by cases h<;>exact λh=>nomatch h
def ju{k b c:Nat}(h:b<=c):k/2^c=k/2^b/2^(c-b):=by
 rw[Ef,<- Nat.pow_add,Nat.add_sub_cancel' h]
def kL(k b:Nat):k/2^(b+1)=k/2^b/2:=by
 rw[sA,Ef]
def xA(k b:Nat):k.testBit b=true↔k/2^b%2=1:=by
 rw[J1,cQ]
def WT.up{t:Tr}{c p:Nat}(h:WT t c p){d:Nat}(hd:c<=d):WT t d (p/2^(d-c)):=by
 cases h with
 |leaf e=>exact .leaf (by rw[<- e];exact ju hd)
 |@fork b _ _ q _ _ hb hl hr e=>
  refine .fork (jZ hb hd) hl hr ?_;rw[<- e,Ef,<- Nat.pow_add]
  congr 2
  omega
noncomputable def keysOf (t:Tr):List Nat:=(pairs t).map (·.1)
def WT.keys{t:Tr}{c p:Nat}(h:WT t c p):∀k∈keysOf t,k/2^c=p:=by
 induction h with
 |leaf e=>intro k hk;simp[keysOf,pairs]at hk;subst hk;exact e
 |@fork b c p q tl tr hb _ _ e a d=>
  intro k hk;have hk:k∈keysOf tl\/k∈keysOf tr:=by
   simpa[keysOf,pairs]using hk
  rw[ju (b:=b+1) hb,kL];have z:c-(b+1)=c-b-1:=by omega
  rw[z];rcases hk with hk|hk
  ·rw[a k hk];rw[show 2*q/2=q by omega];exact e
  ·rw[d k hk];rw[show(2*q+1)/2=q by omega];exact e
theorem jq:∀{t:Tr} {c p:Nat},WT t c p->leastKey t∈keysOf t
 | .leaf k x,_,_,_=>by simp[keysOf,pairs,leastKey]
 | .fork b l r,_,_,h=>by
  cases h with
  |fork _ hl _ _=>
   have:=jq hl;simp[keysOf,pairs,leastKey]at this⊢;exact .inl this
 | .none,_,_,h=>absurd rfl h.gn
def WT.rising{t:Tr}{c p:Nat}(h:WT t c p):(keysOf t).Pairwise (· < ·):=by
 induction h with
 |leaf _=>simp[keysOf,pairs]
 |@fork b c p q tl tr hb hl hr e a d=>
  have e:keysOf (.fork b tl tr)=keysOf tl++keysOf tr:=by simp[keysOf,pairs]
  rw[e,BK];refine⟨a,d,λx hx y hy=>?_⟩;have h1:=hl.keys x hx
  have h2:=hr.keys y hy;rcases kR x y with z|z
  ·exact z
  ·have:=Nat.div_le_div_right (c:=2^b) z;omega
theorem yF(a:Nat):∀n,topFrom a a n=0
 |0=>rfl
 |n+1=>by simp[topFrom,yF a n]
theorem yG{a b:Nat}:∀{n:Nat},a/2^n=b/2^n->a≠b->a/2^(topFrom a b n+1)=b/2^(topFrom a b n+1)/\a.testBit (topFrom a b n)≠b.testBit (topFrom a b n)/\topFrom a b n<n
 |0,h,hn=>absurd (by simpa using h) hn
 |n+1,h,hn=>by
  unfold topFrom;by_cases e:a.testBit n=b.testBit n
  ·rw[aq (by simp[e])];have h2:a/2^n=b/2^n:=by
    have h1:=h;rw[kL,kL]at h1;have e1:(a/2^n%2=1)↔(b/2^n%2=1):=by rw[<- xA,<- xA,e]
    omega
   obtain⟨x,y,z⟩:=yG h2 hn;exact⟨x,y,yp z⟩
  ·rw[ay (by simp[e])];exact⟨h,e,E8 n⟩
def Pp{a n:Nat}(h:a<2^n):a/2^n=0:=tV h
def xR{a b:Nat}(ha:a<2^40)(hb:b<2^40)(hn:a≠b):a/2^(top a b+1)=b/2^(top a b+1)/\a.testBit (top a b)≠b.testBit (top a b)/\top a b<40:=
 yG (n:=40) (by rw[Pp ha,Pp hb]) hn
def Iv(a:Nat):top a a=0:=yF a 40
def top_lt{a b c:Nat}(ha:a<2^40)(hb:b<2^40)(hn:a≠b)(h:a/2^c=b/2^c):top a b<c:=by
 rcases kR (top a b) c with z|z
 ·exact z
 ·exfalso;obtain⟨_,y,_⟩:=xR ha hb hn;apply y;rw[J1,J1,ju z,h,<- ju z]
def Pq{a b e:Nat}(ha:a<2^40)(hb:b<2^40)(h:top a b<=e):a/2^(e+1)=b/2^(e+1):=by
 by_cases hn:a=b
 ·rw[hn]
 ·rw[ju (b:=top a b+1) (Kn h),(xR ha hb hn).1,<- ju (Kn h)]
end SM
end
section
namespace SM
open Vbwsae
structure Good(s:bI):Prop where
 uniq:qB s
 tree:∀i n,nodeAt s i=some n->∃t,Rep s i t/\WT t 40 0
def Qm:Good []:=⟨λi j n h=>by cases i<;>simp[nodeAt]at h,λi n h=>by cases i<;>simp[nodeAt]at h⟩
def Pu{t:Tr}(h:WT t 40 0){k:Nat}(hk:k∈keysOf t):k<2^40:=by
 have:=h.keys k hk;exact(J5 (vI 40)).mp this
inductive Nq(s:bI):Nd->Tr->Prop
 |leaf {k:Nat} {x:Int}:Nq s (.leaf k x) (.leaf k x)
 |fork {b l r:Nat} {tl tr:Tr}:Rep s l tl->Rep s r tr->Nq s (.fork b l r) (.fork b tl tr)
def Nq.rep{s:bI}{n:Nd}{t:Tr}(h:Nq s n t){s':bI}(e:Ext s s'){i:Nat}(hi:nodeAt s' i=some n):Rep s' i t:=by
 cases h with
 |leaf=>exact .leaf hi
 |fork a b=>exact .fork hi (a.ext e) (b.ext e)
def lg{s:bI}(G:Good s){n:Nd}{t:Tr}(h:Nq s n t)(w:WT t 40 0):jY s (mk same s n).1/\Good (mk same s n).1/\Rep (mk same s n).1 (mk same s n).2 t:=by
 obtain⟨g,u,a⟩:=k_ G.uniq n;refine⟨g,⟨u,λi m hi=>?_⟩,h.rep g.ext a⟩;rcases xQ G.uniq n with⟨j,hj,e⟩|⟨hj,e⟩
 ·rw[e]at hi⊢;exact G.tree i m hi
 ·rw[e]at hi;rcases uh hi with q|⟨q1,q2⟩
  ·obtain⟨t',r',w'⟩:=G.tree i m q;exact⟨t',r'.ext g.ext,w'⟩
  ·subst q2;exact⟨t,h.rep g.ext (by rw[e];exact hi),w⟩
def o8{t:Tr}{c p:Nat}(h:WT t c p)(hc:c<=40)(hp:p<2^(40-c)):WT t 40 0:=by
 have:=h.up hc;rw[tV hp]at this;exact this
def Bo{k b q:Nat}(h:k/2^(b+1)=q):k/2^b=if k.testBit b=true then 2*q+1 else 2*q:=by
 rw[kL]at h;by_cases e:k.testBit b=true
 ·rw[ay e];have:=(xA k b).mp e
  omega
 ·rw[aq e];have:¬(k/2^b%2=1):=λz=>e ((xA k b).mpr z)
  omega
def Iw{k j:Nat}{x:Int}{t:Tr}{c p:Nat}(hk:k<2^40)(hj:j<2^40)(hn:k≠j)(hkc:k/2^c=p)(hjc:j/2^c=p)
  (ht:WT t (top k j) (j/2^top k j)):WT (under (top k j) k (.leaf k x) t) c p:=by
 obtain⟨a,b,_⟩:=xR hk hj hn;have l:=top_lt hk hj hn (hkc.trans hjc.symm)
 generalize top k j=e at *;have sk:=Bo (k:=k) (b:=e) rfl
 have sj:=Bo (k:=j) (b:=e) rfl;rw[<- a]at sj;have z:k/2^(e+1)/2^(c-e-1)=p:=by
  rw[show c-e-1=c-(e+1)by omega,<- ju l];exact hkc
 unfold under;by_cases h:k.testBit e=true
 ·rw[ay h]at sk⊢;have h':¬j.testBit e=true:=λq=>b (h.trans q.symm)
  rw[aq h']at sj;rw[sj]at ht;exact .fork l ht (.leaf sk) z
 ·rw[aq h]at sk⊢;have h':j.testBit e=true:=by
   cases q:j.testBit e with
   |true=>rfl
   |false=>exact absurd ((vG.mpr h).trans q.symm) b
  rw[ay h']at sj;rw[sj]at ht;exact .fork l (.leaf sk) ht z
def GP{t:Tr}{c p:Nat}(h:WT t c p)(hc:c<=40)(hp:p<2^(40-c)){k:Nat}(hk:k/2^c=p):k<2^40:=by
 have:k/2^40=0:=by rw[ju hc,hk,tV hp]
 exact(J5 (vI 40)).mp this
def mD{b c p q:Nat}(hb:b<c)(hc:c<=40)(hp:p<2^(40-c))(e:q/2^(c-b-1)=p)(z:Nat)(hz:z<2):2*q+z<2^(40-b):=by
 have h1:q<2^(40-b-1):=by
  have:q/2^(c-b-1)/2^(40-c)=0:=by rw[e,tV hp]
  rw[Ef,<- Nat.pow_add,show c-b-1+(40-c)=40-b-1 by omega]at this;exact(J5 (vI _)).mp this
 have h2:2^(40-b)=2*2^(40-b-1):=by
  rw[<- Nat.pow_succ',show(40-b-1).succ=40-b by omega]
 omega
def Ko{t:Tr}{c p:Nat}(h:WT t c p):∀{k:Nat} {x:Int},c<=40->p<2^(40-c)->k/2^c=p->WT (put k x t) c p:=by
 induction h with
 |@leaf j y c p e=>
  intro k x hc hp hk;unfold put;by_cases q:j=k
  ·rw[ay q];exact .leaf hk
  ·rw[aq q];have hw:WT (.leaf j y) c p:= .leaf e
   exact Iw (GP hw hc hp hk) (GP hw hc hp e) (mC q) hk e (.leaf rfl)
 |@fork b c p q tl tr hb hl hr e ihl ihr=>
  intro k x hc hp hk;have hw:WT (.fork b tl tr) c p:= .fork hb hl hr e
  have hm:=hl.keys _ (jq hl);have hkl:=GP hw hc hp hk
  have hml:=GP hl (by omega) (by have:=mD hb hc hp e 0 (by omega);omega) hm;have Nr:leastKey tl/2^(b+1)=q:=by rw[kL,hm];omega
  have hmc:leastKey tl/2^c=p:=by rw[ju (b:=b+1) hb,Nr,show c-(b+1)=c-b-1 by omega];exact e
  unfold put
  dsimp only
  by_cases z:b<top k (leastKey tl)
  ·rw[ay z];have hn:k≠leastKey tl:=λq=>by rw[<- q,Iv]at z;omega
   refine Iw hkl hml hn hk hmc ?_;have e2:leastKey tl/2^top k (leastKey tl)=q/2^(top k (leastKey tl)-b-1):=by
    rw[ju (b:=b+1) z,Nr,show top k (leastKey tl)-(b+1)=top k (leastKey tl)-b-1 by omega]
   exact .fork z hl hr e2.symm
  ·rw[aq z];have Yr:k/2^(b+1)=q:=(Pq hkl hml (Nat.le_of_not_lt z)).trans Nr
   have sd:=Bo Yr;by_cases y:k.testBit b=true
   ·rw[ay y]at sd⊢;exact .fork hb hl (ihr (by omega) (mD hb hc hp e 1 (by omega)) sd) e
   ·rw[aq y]at sd⊢;exact .fork hb (ihl (by omega) (by have:=mD hb hc hp e 0 (by omega);omega) sd) hr e
def Pw{t:Tr}{c p:Nat}(h:WT t c p):∀{k:Nat},del k t=.none\/WT (del k t) c p:=by
 induction h with
 |@leaf j y c p e=>
  intro k;unfold del;by_cases q:j=k
  ·rw[ay q];exact .inl rfl
  ·rw[aq q];exact .inr (.leaf e)
 |@fork b c p q tl tr hb hl hr e ihl ihr=>
  intro k;unfold del
  right
  have up:∀{t:Tr} {z:Nat},z<2->WT t b (2*q+z)->WT t c p:=λ{t z} hz w=>by
   have:=w.up (lH hb);rw[show c-b=(c-b-1)+1 by omega,Nat.pow_succ',<- Ef,show(2*q+z)/2=q by omega,e]at this;exact this
  by_cases y:k.testBit b=true
  ·rw[ay y];rcases ihr (k:=k)with d|d
   ·rw[d];have:joined b tl .none=tl:=by cases tl<;>rfl
    rw[this];exact up (z:=0) (by omega) hl
   ·have:joined b tl (del k tr)=.fork b tl (del k tr):=by
     cases q1:tl with
     |none=>exact absurd q1 hl.gn
     |leaf _ _=>cases q2:del k tr with
      |none=>exact absurd q2 d.gn
      |leaf _ _=>rfl
      |fork _ _ _=>rfl
     |fork _ _ _=>cases q2:del k tr with
      |none=>exact absurd q2 d.gn
      |leaf _ _=>rfl
      |fork _ _ _=>rfl
    rw[this];exact .fork hb hl d e
  ·rw[aq y];rcases ihl (k:=k)with d|d
   ·rw[d];exact up (z:=1) (by omega) hr
   ·have:joined b (del k tl) tr=.fork b (del k tl) tr:=by
     cases q1:del k tl with
     |none=>exact absurd q1 d.gn
     |leaf _ _=>cases q2:tr with
      |none=>exact absurd q2 hr.gn
      |leaf _ _=>rfl
      |fork _ _ _=>rfl
     |fork _ _ _=>cases q2:tr with
      |none=>exact absurd q2 hr.gn
      |leaf _ _=>rfl
      |fork _ _ _=>rfl
    rw[this];exact .fork hb d hr e
def jv{s:bI}{i:Nat}{t:Tr}(r:Rep s i t):1<=depth t:=by cases r<;>simp[depth]<;>omega
def mE{s:bI}{i:Nat}{t:Tr}(r:Rep s i t):∀{d:Nat},depth t<=d->tree s d i=t:=by
 induction r with
 |leaf e=>
  intro d h;cases d with
  |zero=>simp[depth]at h
  |succ d=>simp[tree,e]
 |fork e _ _ a b=>
  intro d h;cases d with
  |zero=>simp[depth]at h
  |succ d=>
   simp only[depth]at h;simp[tree,e,a (d:=d) (by omega),b (d:=d) (by omega)]
def kX{s:bI}{i:Nat}{t:Tr}(r:Rep s i t):∀{d:Nat},depth t<=d->leastAt s d i=leastKey t:=by
 induction r with
 |leaf e=>
  intro d h;cases d with
  |zero=>simp[depth]at h
  |succ d=>simp[leastAt,e,leastKey]
 |fork e _ _ a b=>
  intro d h;cases d with
  |zero=>simp[depth]at h
  |succ d=>
   simp only[depth]at h;simp[leastAt,e,a (d:=d) (by omega),leastKey]
def Sd{s:bI}{i:Nat}{t:Tr}(r:Rep s i t)(k:Nat):∀{d:Nat},depth t<=d->getAt s k d i=Vbwsae.get t k:=by
 induction r with
 |leaf e=>
  intro d h;cases d with
  |zero=>simp[depth]at h
  |succ d=>simp[getAt,e,Vbwsae.get]
 |fork e _ _ a b=>
  intro d h;cases d with
  |zero=>simp[depth]at h
  |succ d=>
   simp only[depth]at h;simp only[getAt,e,Vbwsae.get]
   split
   ·exact b (d:=d) (by omega)
   ·exact a (d:=d) (by omega)
def Fz{s:bI}{i:Nat}{t:Tr}(r:Rep s i t):∀{d:Nat},depth t<=d->countAt s d i=size t:=by
 induction r with
 |leaf e=>
  intro d h;cases d with
  |zero=>simp[depth]at h
  |succ d=>simp[countAt,e,size]
 |fork e _ _ a b=>
  intro d h;cases d with
  |zero=>simp[depth]at h
  |succ d=>
   simp only[depth]at h;simp[countAt,e,a (d:=d) (by omega),b (d:=d) (by omega),size]
theorem j6:∀t:Tr,(pairs t).length=size t
 | .none=>rfl
 | .leaf _ _=>rfl
 | .fork _ l r=>by simp[pairs,size,j6 l,j6 r]
def WT.GQ{t:Tr}(h:WT t 40 0):Vbwsae.depth t<=41:=WT.depth h
def nothing{s:bI}{d:Nat}:tree s d 0=.none/\leastAt s d 0=0/\countAt s d 0=0/\(∀k,getAt s k d 0=none):=by
 cases d<;>simp[tree,leastAt,countAt,getAt,bJ]
theorem Kp{k:Nat}{x:Int}(hk:k<2^40):∀{t:Tr} {s:bI} {i c p d:Nat},Good s->Rep s i t->WT t c p->c<=40->p<2^(40-c)->k/2^c=p->depth t<=d->
  jY s (putAt same k x d s i).1/\Good (putAt same k x d s i).1/\Rep (putAt same k x d s i).1 (putAt same k x d s i).2 (put k x t)
 | .none,s,i,c,p,d,G,R,W,_,_,_,_=>absurd rfl W.gn
 | .leaf j y,s,i,c,p,d,G,R,W,hc,hp,hkc,hd=>by
  cases d with
  |zero=>simp[depth]at hd
  |succ d=>
   cases R with
   |leaf e=>
    have kl:WT (.leaf k x) 40 0:= .leaf (tV hk);obtain⟨g1,G1,R1⟩:=lg G (n:= .leaf k x) .leaf kl;have wp:=Ko W (x:=x) hc hp hkc
    simp only[putAt,e];by_cases q:j=k
    ·rw[ay q];simp only[put,ay q];exact⟨g1,G1,R1⟩
    ·rw[aq q];simp only[put,aq q]at wp⊢;unfold underAt;unfold under at wp⊢;have e1:=R1
     have r2:Rep (mk same s (.leaf k x)).1 i (.leaf j y):=(Rep.leaf e).ext g1.ext
     split
     ·rename_i z;rw[ay z]at wp;obtain⟨g2,G2,R2⟩:=lg G1 (n:= .fork (top k j) i (mk same s (.leaf k x)).2) (.fork r2 R1) (o8 wp hc hp);exact⟨g1.trans g2,G2,R2⟩
     ·rename_i z;rw[aq z]at wp;obtain⟨g2,G2,R2⟩:=lg G1 (n:= .fork (top k j) (mk same s (.leaf k x)).2 i) (.fork R1 r2) (o8 wp hc hp);exact⟨g1.trans g2,G2,R2⟩
 | .fork b tl tr,s,i,c,p,d,G,R,W,hc,hp,hkc,hd=>by
  cases d with
  |zero=>simp[depth]at hd
  |succ d=>
   cases R with
   |@fork _ _ l r _ _ e Rl Rr=>
    cases W with
    |@fork _ _ _ q _ _ hb hl hr eq=>
     have W:WT (.fork b tl tr) c p:= .fork hb hl hr eq;simp only[depth]at hd;have hm:leastAt s LEVELS l=leastKey tl:=kX Rl (by have:=hl.depth;show _<=41;omega)
     have wp:=Ko W (x:=x) hc hp hkc;simp only[putAt,e,hm];have hm:=hl.keys _ (jq hl)
     have hml:=GP hl (by omega) (by have:=mD hb hc hp eq 0 (by omega);omega) hm;have Nr:leastKey tl/2^(b+1)=q:=by rw[kL,hm];omega
     by_cases z:b<top k (leastKey tl)
     ·rw[ay z];simp only[put,ay z]at wp⊢;have kl:WT (.leaf k x) 40 0:= .leaf (tV hk)
      obtain⟨g1,G1,R1⟩:=lg G (n:= .leaf k x) .leaf kl;unfold underAt;unfold under at wp⊢;have r2:Rep (mk same s (.leaf k x)).1 i (.fork b tl tr):=(Rep.fork e Rl Rr).ext g1.ext
      split
      ·rename_i y;rw[ay y]at wp;obtain⟨g2,G2,R2⟩:=lg G1 (n:= .fork (top k (leastKey tl)) i (mk same s (.leaf k x)).2) (.fork r2 R1) (o8 wp hc hp);exact⟨g1.trans g2,G2,R2⟩
      ·rename_i y;rw[aq y]at wp;obtain⟨g2,G2,R2⟩:=lg G1 (n:= .fork (top k (leastKey tl)) (mk same s (.leaf k x)).2 i) (.fork R1 r2) (o8 wp hc hp);exact⟨g1.trans g2,G2,R2⟩
     ·rw[aq z];simp only[put,aq z]at wp⊢;have Yr:k/2^(b+1)=q:=(Pq hk hml (Nat.le_of_not_lt z)).trans Nr
      have sd:=Bo Yr;by_cases y:k.testBit b=true
      ·rw[ay y]at sd wp⊢;rw[ay y];obtain⟨g1,G1,R1⟩:=Kp hk G Rr hr (by omega) (mD hb hc hp eq 1 (by omega)) sd (d:=d) (by omega);obtain⟨g2,G2,R2⟩:=lg G1 (n:= .fork b l (putAt same k x d s r).2) (.fork (Rl.ext g1.ext) R1) (o8 wp hc hp);exact⟨g1.trans g2,G2,R2⟩
      ·rw[aq y]at sd wp⊢;rw[aq y];obtain⟨g1,G1,R1⟩:=Kp hk G Rl hl (by omega) (by have:=mD hb hc hp eq 0 (by omega);omega) sd (d:=d) (by omega);obtain⟨g2,G2,R2⟩:=lg G1 (n:= .fork b (putAt same k x d s l).2 r) (.fork R1 (Rr.ext g1.ext)) (o8 wp hc hp);exact⟨g1.trans g2,G2,R2⟩
def Qn{b:Nat}{l r:Tr}(h:r≠ .none):joined b .none r=r:=by cases r<;>first|rfl|exact absurd rfl h
def Qo{b:Nat}{l:Tr}:joined b l .none=l:=by cases l<;>rfl
def Iz{b:Nat}{l r:Tr}(hl:l≠ .none)(hr:r≠ .none):joined b l r=.fork b l r:=by
 cases l<;>cases r<;>first|rfl|exact absurd rfl hl|exact absurd rfl hr
theorem Kq{k:Nat}:∀{t:Tr} {s:bI} {i c p d:Nat},Good s->Rep s i t->WT t c p->c<=40->p<2^(40-c)->depth t<=d->
  jY s (delAt same k d s i).1/\Good (delAt same k d s i).1/\ji (delAt same k d s i).1 (delAt same k d s i).2 (del k t)
 | .none,s,i,c,p,d,G,R,W,_,_,_=>absurd rfl W.gn
 | .leaf j y,s,i,c,p,d,G,R,W,hc,hp,hd=>by
  cases d with
  |zero=>simp[depth]at hd
  |succ d=>
   cases R with
   |leaf e=>
    simp only[delAt,e,del];by_cases q:j=k
    ·rw[ay q,ay q];exact⟨jY.refl s,G,.inl ⟨rfl,rfl⟩⟩
    ·rw[aq q,aq q];exact⟨jY.refl s,G,.inr (.leaf e)⟩
 | .fork b tl tr,s,i,c,p,d,G,R,W,hc,hp,hd=>by
  cases d with
  |zero=>simp[depth]at hd
  |succ d=>
   cases R with
   |@fork _ _ l r _ _ e Rl Rr=>
    cases W with
    |@fork _ _ _ q _ _ hb hl hr eq=>
     have W:WT (.fork b tl tr) c p:= .fork hb hl hr eq;simp only[depth]at hd;have wd:=Pw W (k:=k)
     simp only[delAt,e];unfold del at wd⊢;by_cases y:k.testBit b=true
     ·rw[ay y]at wd⊢;rw[ay y];obtain⟨g1,G1,R1⟩:=Kq (k:=k) G Rr hr (by omega) (mD hb hc hp eq 1 (by omega)) (d:=d) (by omega);rcases R1 with⟨z,zt⟩|R1
      ·rw[ay z,zt,Qo];exact⟨g1,G1,.inr (Rl.ext g1.ext)⟩
      ·rw[aq (by have:=R1.pos;omega)];rw[Iz hl.gn R1.gn]at wd⊢;have wd:=wd.resolve_left (λh=>nomatch h)
       obtain⟨g2,G2,R2⟩:=lg G1 (n:= .fork b l (delAt same k d s r).2) (.fork (Rl.ext g1.ext) R1) (o8 wd hc hp);exact⟨g1.trans g2,G2,.inr R2⟩
     ·rw[aq y]at wd⊢;rw[aq y];obtain⟨g1,G1,R1⟩:=Kq (k:=k) G Rl hl (by omega) (by have:=mD hb hc hp eq 0 (by omega);omega) (d:=d) (by omega);rcases R1 with⟨z,zt⟩|R1
      ·rw[ay z,zt,Qn (l:=tl) hr.gn];exact⟨g1,G1,.inr (Rr.ext g1.ext)⟩
      ·rw[aq (by have:=R1.pos;omega)];rw[Iz R1.gn hr.gn]at wd⊢;have wd:=wd.resolve_left (λh=>nomatch h)
       obtain⟨g2,G2,R2⟩:=lg G1 (n:= .fork b (delAt same k d s l).2 r) (.fork R1 (Rr.ext g1.ext)) (o8 wd hc hp);exact⟨g1.trans g2,G2,.inr R2⟩
def Top(s:bI)(i:Nat):Prop:=∃t,ji s i t/\(t=.none\/WT t 40 0)
def Top.zero(s:bI):Top s 0:=⟨.none,.inl ⟨rfl,rfl⟩,.inl rfl⟩
theorem Top.ext{s s':bI}(h:Ext s s'){i:Nat}(t:Top s i):Top s' i:=by
 obtain⟨t,r,w⟩:=t;exact⟨t,r.ext h,w⟩
def Top.cases{s:bI}{i:Nat}(h:Top s i):i=0\/∃t,Rep s i t/\WT t 40 0:=by
 obtain⟨t,r|r,w⟩:=h
 ·exact .inl r.1
 ·exact .inr ⟨t,r,w.resolve_left r.gn⟩
def Se{s:bI}(G:Good s){i:Nat}(h:Top s i){k:Nat}{x:Int}(hk:k<2^40):
  jY s (putAt same k x 41 s i).1/\Good (putAt same k x 41 s i).1/\Top (putAt same k x 41 s i).1 (putAt same k x 41 s i).2:=by
 rcases h.cases with rfl|⟨t,r,w⟩
 ·have kl:WT (.leaf k x) 40 0:= .leaf (tV hk);obtain⟨g1,G1,R1⟩:=lg G (n:= .leaf k x) .leaf kl;simp only[putAt,bJ];exact⟨g1,G1,_,.inr R1,.inr kl⟩
 ·obtain⟨g,G',R'⟩:=Kp (x:=x) hk G r w (by omega) (by simp) (tV hk) w.GQ;exact⟨g,G',_,.inr R',.inr (Ko w (by omega) (by simp) (tV hk))⟩
def Sf{s:bI}(G:Good s){i:Nat}(h:Top s i){k:Nat}:
  jY s (delAt same k 41 s i).1/\Good (delAt same k 41 s i).1/\Top (delAt same k 41 s i).1 (delAt same k 41 s i).2:=by
 rcases h.cases with rfl|⟨t,r,w⟩
 ·simp only[delAt,bJ];exact⟨jY.refl s,G,Top.zero s⟩
 ·obtain⟨g,G',R'⟩:=Kq (k:=k) G r w (by omega) (by simp) w.GQ;refine⟨g,G',_,R',Pw w⟩
end SM
end
section
namespace SM
open Vbwsae
noncomputable def rangeT (lo hi:Nat):Tr->List (Nat×Int)×Nat
 | .none=>([],0)
 | .leaf k x=>(if lo<=k/\k<=hi then [(k,x)]else [],1)
 | .fork b l r=>
  let first:=leastKey l/2^(b+1)*2^(b+1)
  let mid:=first+2^b
  if hi<first\/first+2^(b+1)<=lo then([],1)
  else
   let x:=if lo<mid then rangeT lo hi l else([],0)
   let y:=if mid<=hi then rangeT lo hi r else([],0)
   (x.1++y.1,x.2+y.2+1)
def Nt{s:bI}(lo hi:Nat){i:Nat}{t:Tr}(r:Rep s i t):∀{c p d:Nat},WT t c p->c<=40->depth t<=d->rangeAt s lo hi d i=rangeT lo hi t:=by
 induction r with
 |leaf e=>
  intro c p d w hc h;cases d with
  |zero=>simp[depth]at h
  |succ d=>simp[rangeAt,e,rangeT]
 |@fork i b l r tl tr e Rl Rr a b=>
  intro c p d w hc h;cases d with
  |zero=>simp[depth]at h
  |succ d=>
   cases w with
   |fork hb wl wr _=>
    simp only[depth]at h;have hm:leastAt s LEVELS l=leastKey tl:=kX Rl (by have:=WT.depth wl;show _<=41;omega)
    simp only[rangeAt,e,rangeT,hm,a (d:=d) wl (by omega) (by omega),b (d:=d) wr (by omega) (by omega)]
def range_zero{s:bI}(lo hi d:Nat):rangeAt s lo hi d 0=([],0):=by cases d<;>simp[rangeAt,bJ]
noncomputable def iZ (lo hi:Nat) (p:Nat×Int):Bool:=decide (lo<=p.1)&&decide (p.1<=hi)
theorem filter_none{α:Type}{f:α->Bool}:∀{l:List α},(∀x∈l,f x=false)->l.filter f=[]
 | [],_=>rfl
 |a::l,h=>by
  rw[kP,aq (by rw[h a (bU ..)];simp),filter_none λx hx=>h x (cP _ hx)]
def tX{t:Tr}{p:Nat×Int}(h:p∈pairs t):p.1∈keysOf t:=br.mpr ⟨p,h,rfl⟩
def qW{k m q:Nat}(hm:0<m)(h:k/m=q):q*m<=k/\k<q*m+m:=by
 subst h;constructor
 ·exact Nat.div_mul_le_self k m
 ·have:=Nat.lt_div_mul_add (a:=k) hm;exact this
def um{lo hi:Nat}{t:Tr}{c p:Nat}(h:WT t c p):(rangeT lo hi t).1=(pairs t).filter (iZ lo hi):=by
 induction h with
 |@leaf k x c p e=>
  simp only[rangeT,pairs];by_cases q:lo<=k/\k<=hi
  ·rw[ay q,kP,ay (by simp[iZ,q]),List.filter_nil]
  ·rw[aq q,kP,aq (by simp[iZ];omega),List.filter_nil]
 |@fork b c p q tl tr hb hl hr e a d=>
  have hm:=hl.keys _ (jq hl);have Nr:leastKey tl/2^(b+1)=q:=by rw[kL,hm];omega
  have p0:0<2^b:=vI b;have e2:2^(b+1)=2*2^b:=by rw[sA];omega
  have kl:∀x∈pairs tl,q*2^(b+1)<=x.1/\x.1<q*2^(b+1)+2^b:=λx hx=>by
   have:=qW p0 (hl.keys _ (tX hx));rw[e2];rw[yx 2 q,yw]at this;exact this
  have kr:∀x∈pairs tr,q*2^(b+1)+2^b<=x.1/\x.1<q*2^(b+1)+2^(b+1):=λx hx=>by
   have:=qW p0 (hr.keys _ (tX hx));rw[Nat.add_mul,Nat.one_mul,yx 2 q,yw]at this;rw[e2];omega
  simp only[rangeT,Nr,pairs,Bh];generalize q*2^(b+1)=f at *;by_cases z:hi<f\/f+2^(b+1)<=lo
  ·rw[ay z,filter_none (l:=pairs tl),filter_none (l:=pairs tr)]
   ·rfl
   ·intro x hx;have:=kr x hx;simp only[iZ,E2,vR];omega
   ·intro x hx;have:=kl x hx;simp only[iZ,E2,vR];omega
  ·rw[aq z];have e3:(if lo<f+2^b then rangeT lo hi tl else([],0)).1=(pairs tl).filter (iZ lo hi):=by
    by_cases y:lo<f+2^b
    ·rw[ay y];exact a
    ·rw[aq y,filter_none];intro x hx;have:=kl x hx;simp only[iZ,E2,vR];omega
   have e4:(if f+2^b<=hi then rangeT lo hi tr else([],0)).1=(pairs tr).filter (iZ lo hi):=by
    by_cases y:f+2^b<=hi
    ·rw[ay y];exact d
    ·rw[aq y,filter_none];intro x hx;have:=kr x hx;simp only[iZ,E2,vR];omega
   show _++_=_
   rw[e3,e4]
theorem filter_all{α:Type}{f:α->Bool}:∀{l:List α},(∀x∈l,f x=true)->l.filter f=l
 | [],_=>rfl
 |a::l,h=>by
  rw[kP,ay (h a (bU ..)),filter_all λx hx=>h x (cP _ hx)]
def range_all{ps:List (Nat×Int)}(h:∀p∈ps,p.1<2^40):ps.filter (iZ 0 1099511627775)=ps:=
 filter_all λx hx=>by have:=h x hx;simp only[iZ,cB,cQ];omega
def Sg{s:bI}{i:Nat}{t:Tr}(r:Rep s i t):∀{d n:Nat},depth t<=d->nthAt s d i n=(pairs t)[n]? :=by
 induction r with
 |leaf e=>
  intro d n h;cases d with
  |zero=>simp[depth]at h
  |succ d=>
   simp only[nthAt,e,pairs];cases n with
   |zero=>rfl
   |succ n=>simp
 |@fork i b l r tl tr e Rl Rr a b=>
  intro d n h;cases d with
  |zero=>simp[depth]at h
  |succ d=>
   simp only[depth]at h;simp only[nthAt,e,pairs];rw[Fz Rl (d:=d) (by omega)];by_cases z:n<size tl
   ·rw[ay z,a (d:=d) (by omega),GO (by rw[j6];exact z)]
   ·rw[aq z,b (d:=d) (by omega),Ed (by rw[j6];omega),j6]
def Qp{s:bI}(k:Nat){i:Nat}{t:Tr}(r:Rep s i t):∀{c p d:Nat},WT t c p->c<=40->depth t<=d->fromAt s k d i=((pairs t).filter λp=>decide (k<=p.1)).head? :=by
 induction r with
 |@leaf i j x e=>
  intro c p d w hc h;cases d with
  |zero=>simp[depth]at h
  |succ d=>
   simp only[fromAt,e,pairs];by_cases q:k<=j
   ·rw[ay q,kP,ay (by simp[q])];rfl
   ·rw[aq q,kP,aq (by simp;omega)];rfl
 |@fork i b l r tl tr e Rl Rr a d'=>
  intro c p d w hc h;cases d with
  |zero=>simp[depth]at h
  |succ d=>
   cases w with
   |@fork _ _ _ q _ _ hb hl hr eq=>
    simp only[depth]at h;have hm:leastAt s LEVELS l=leastKey tl:=kX Rl (by have:=WT.depth hl;show _<=41;omega)
    have hk:=hl.keys _ (jq hl);have Nr:leastKey tl/2^(b+1)=q:=by rw[kL,hk];omega
    have p0:0<2^b:=vI b;have e2:2^(b+1)=2*2^b:=by rw[sA];omega
    have kl:∀x∈pairs tl,q*2^(b+1)<=x.1/\x.1<q*2^(b+1)+2^b:=λx hx=>by
     have:=qW p0 (hl.keys _ (tX hx));rw[e2];rw[yx 2 q,yw]at this;exact this
    have kr:∀x∈pairs tr,q*2^(b+1)+2^b<=x.1/\x.1<q*2^(b+1)+2^(b+1):=λx hx=>by
     have:=qW p0 (hr.keys _ (tX hx));rw[Nat.add_mul,Nat.one_mul,yx 2 q,yw]at this;rw[e2];omega
    simp only[fromAt,e,hm,Nr,pairs,Bh];generalize q*2^(b+1)=f at *;rw[a (d:=d) hl (by omega) (by omega),d' (d:=d) hr (by omega) (by omega)];by_cases z:f+2^(b+1)<=k
    ·rw[ay z,filter_none (l:=pairs tl),filter_none (l:=pairs tr)]
     ·rfl
     ·intro x hx;have:=kr x hx;simp only[vR];omega
     ·intro x hx;have:=kl x hx;simp only[vR];omega
    ·rw[aq z];by_cases y:k<f+2^b
     ·rw[ay y,List.head?_append];cases ((pairs tl).filter λp=>decide (k<=p.1)).head?<;>rfl
     ·rw[aq y,filter_none (l:=pairs tl)]
      ·rfl
      ·intro x hx;have:=kl x hx;simp only[vR];omega
def Sh{s:bI}{i:Nat}(h:Top s i)(n:Nat):nthAt s LEVELS i n=(pairs (treeOf s i))[n]? :=by
 rcases h.cases with rfl|⟨t,r,w⟩
 ·simp[treeOf,nothing.1,pairs,LEVELS,nthAt,bJ]
 ·rw[Sg r (d:=LEVELS) w.GQ];unfold treeOf;rw[mE r (d:=LEVELS) w.GQ]
def Qq{s:bI}{i:Nat}(h:Top s i)(k:Nat):fromAt s k LEVELS i=((pairs (treeOf s i)).filter (iZ k 1099511627775)).head? :=by
 rcases h.cases with rfl|⟨t,r,w⟩
 ·simp[treeOf,nothing.1,pairs,LEVELS,fromAt,bJ]
 ·rw[Qp k r (d:=LEVELS) w (by omega) w.GQ];unfold treeOf;rw[mE r (d:=LEVELS) w.GQ]
  congr 1
  apply BO;intro x hx;have:=Pu w (tX hx)
  simp only[iZ];rw[jP (show x.1<=1099511627775 by omega),iO]
end SM
end
section
namespace SM
open Vbwsae
abbrev b6(l:List Nat):Prop:=l.Pairwise (· < ·)
def l8{ks:List Nat}{x:Nat}{P:Nat->Prop}(hr:b6 ks)(hm:∀k,k∈ks↔k=x\/P k)(hx:∀k,P k->x<k):∃ks',ks=x::ks'/\b6 ks'/\(∀k,k∈ks'↔P k)/\∀k∈ks',x<k:=by
 cases ks with
 |nil=>exact absurd ((hm x).mpr (.inl rfl)) (by simp)
 |cons y r=>
  obtain⟨h1,h2⟩:=iF.mp hr;have e:y=x:=by
   rcases(hm y).mp (bU ..)with z|z
   ·exact z
   ·have a:=hx y z;have b:=(hm x).mpr (.inl rfl)
    rcases bN.mp b with c|c
    ·omega
    ·have:=h1 x c;omega
  subst e;refine⟨r,rfl,h2,λk=>⟨λhk=>?_,λhk=>?_⟩,h1⟩
  ·rcases(hm k).mp (cP _ hk)with z|z
   ·have:=h1 k hk;omega
   ·exact z
  ·rcases bN.mp ((hm k).mpr (.inr hk))with z|z
   ·have:=hx k hk;omega
   ·exact z
def Qs{ks:List Nat}(hm:∀k,k∈ks->False):ks=[]:=by
 cases ks with
 |nil=>rfl
 |cons a r=>exact(hm a (bU ..)).elim
def qk{a b:List Nat}(ha:b6 a)(hb:b6 b)(h:∀k,k∈a↔k∈b):a=b:=by
 induction a generalizing b with
 |nil=>exact(Qs λk hk=>by have:=(h k).mpr hk;simp at this).symm
 |cons x a ih=>
  obtain⟨h1,h2⟩:=iF.mp ha;obtain⟨b',e,hb',hm,_⟩:=l8 (x:=x) (P:=λk=>k∈a) hb (λk=>by rw[<- h k,bN]) h1;rw[e,ih h2 hb' λk=>(hm k).symm]
def cT{l:List Nat}(h:b6 l):l.Nodup:=h.imp λh=>iG h
theorem bP{α:Type} [DecidableEq α]:∀{a b:List α},a.Nodup->(∀x∈a,x∈b)->a.length<=b.length
 | [],b,_,_=>fC _
 |x::a,b,hn,h=>by
  obtain⟨h1,h2⟩:=kQ.mp hn;have hx:=h x (bU ..)
  have:=bP (a:=a) (b:=b.erase x) h2 λy hy=>(List.mem_erase_of_ne (λe=>h1 (by rw[<- e];exact hy))).mpr (h y (cP _ hy))
  rw[List.length_erase_of_mem hx]at this;have:0<b.length:=J6 hx
  rw[cF];omega
def uR{α:Type} [DecidableEq α]{a b:List α}(ha:a.Nodup)(hb:b.Nodup)(h:∀x,x∈a↔x∈b):a.length=b.length:=
 Nat.le_antisymm (bP ha λx hx=>(h x).mp hx) (bP hb λx hx=>(h x).mpr hx)
noncomputable def lk {β:Type} (l:List (Nat×β)) (k:Nat):Option β:=(l.find? λp=>p.1==k).map (·.2)
def Px{β:Type}(k:Nat):lk ([]:List (Nat×β)) k=none:=rfl
def lq{β:Type}(p:Nat×β)(l:List (Nat×β))(k:Nat):lk (p::l) k=if p.1=k then some p.2 else lk l k:=by
 unfold lk;by_cases h:p.1=k
 ·rw[ay h,List.find?_cons_of_pos (by simpa using h)];rfl
 ·rw[aq h,List.find?_cons_of_neg (by simpa using h)]
theorem Gu{β:Type}:∀{l:List (Nat×β)} {k:Nat},(∀p∈l,p.1≠k)->lk l k=none
 | [],_,_=>rfl
 |p::l,k,h=>by rw[lq,aq (h p (bU ..)),Gu λq hq=>h q (cP _ hq)]
theorem Kr{β:Type}:∀{l:List (Nat×β)} {k:Nat} {x:β},b6 (l.map (·.1))->(k,x)∈l->lk l k=some x
 |p::l,k,x,hr,h=>by
  obtain⟨h1,h2⟩:=iF.mp (show b6 (p.1::l.map (·.1))from hr);rw[lq];rcases bN.mp h with e|e
  ·rw[<- e];simp
  ·have:=h1 k (br.mpr ⟨_,e,rfl⟩);rw[aq (by omega),Kr h2 e]
noncomputable def h_ (a b:List (Nat×Int)) (k:Nat):Option (Change Int):=if lk a k=lk b k then none else some {key:=k,old:=lk a k,new:=lk b k}
theorem ic{α β:Type}{f g:α->Option β}:∀{l:List α},(∀x∈l,f x=g x)->l.filterMap f=l.filterMap g
 | [],_=>rfl
 |a::l,h=>by
  rw[gy,gy,h a (bU ..),ic λx hx=>h x (cP _ hx)]
def Mr{β:Type}{p:Nat×β}{a:List (Nat×β)}(h:b6 ((p::a).map (·.1))):∀k∈a.map (·.1),p.1<k:=(iF.mp (show b6 (p.1::a.map (·.1))from h)).1
def tY{β:Type}{p:Nat×β}{a:List (Nat×β)}(h:b6 ((p::a).map (·.1))):b6 (a.map (·.1)):=(iF.mp (show b6 (p.1::a.map (·.1))from h)).2
theorem lM:∀{n:Nat} {a b:List (Nat×Int)} {ks:List Nat},a.length+b.length<n->b6 (a.map (·.1))->b6 (b.map (·.1))->b6 ks->(∀k,k∈ks↔k∈a.map (·.1)\/k∈b.map (·.1))->
  diffPairs same n a b=ks.filterMap (h_ a b)
 |0,a,b,ks,h,_,_,_,_=>by omega
 |n+1,[],b,ks,h,ha,hb,hk,hm=>by
  have e:ks=b.map (·.1):=qk hk hb λk=>by rw[hm k];simp
  subst e;simp only[diffPairs];have key:∀(l:List (Nat×Int)),b6 (l.map (·.1))->(∀p∈l,lk b p.1=some p.2)->(l.map λp=>({key:=p.1,old:=none,new:=some p.2}:Change Int))=(l.map (·.1)).filterMap (h_ [] b):=by
   intro l
   induction l with
   |nil=>intro _ _;rfl
   |cons p l ih=>
    intro hr hl;rw[dG,dG,gy];have z:h_ [] b p.1=some {key:=p.1,old:=none,new:=some p.2}:=by
     unfold h_;rw[Px,hl p (bU ..),aq (by simp)]
    rw[z,ih (tY hr) λq hq=>hl q (cP _ hq)]
  exact key b hb λp hp=>Kr hb hp
 |n+1,p::a,[],ks,h,ha,hb,hk,hm=>by
  have e:ks=(p::a).map (·.1):=qk hk ha λk=>by rw[hm k];simp
  subst e;simp only[diffPairs];have key:∀(c l:List (Nat×Int)),b6 (l.map (·.1))->(∀p∈l,lk c p.1=some p.2)->(l.map λp=>({key:=p.1,old:=some p.2,new:=none}:Change Int))=(l.map (·.1)).filterMap (h_ c []):=by
   intro c l
   induction l with
   |nil=>intro _ _;rfl
   |cons p l ih=>
    intro hr hl;rw[dG,dG,gy];have z:h_ c [] p.1=some {key:=p.1,old:=some p.2,new:=none}:=by
     unfold h_;rw[Px,hl p (bU ..),aq (by simp)]
    rw[z,ih (tY hr) λq hq=>hl q (cP _ hq)]
  exact key (p::a) (p::a) ha λp hp=>Kr ha hp
 |n+1,p::a,q::b,ks,h,ha,hb,hk,hm=>by
  simp only[cF]at h;have la:=Mr ha
  have lb:=Mr hb;simp only[diffPairs];by_cases c1:p.1<q.1
  ·rw[ay c1];obtain⟨ks',e,hr',hm',hx⟩:=l8 (x:=p.1) (P:=λk=>k∈a.map (·.1)\/k∈(q::b).map (·.1)) hk (λk=>by rw[hm k,dG,bN,or_assoc])
    (λk hk'=>by
     rcases hk' with z|z
     ·exact la k z
     ·rcases bN.mp (show k∈q.1::b.map (·.1)from z)with y|y
      ·omega
      ·have:=lb k y;omega)
   subst e;rw[gy];have z:h_ (p::a) (q::b) p.1=some {key:=p.1,old:=some p.2,new:=none}:=by
    unfold h_;rw[lq,ay rfl,Gu (l:=q::b) (k:=p.1) (λr hr=>by
     rcases bN.mp hr with y|y
     ·subst y;omega
     ·have:=lb r.1 (br.mpr ⟨r,y,rfl⟩);omega),aq (by simp)]
   rw[z,lM (n:=n) (a:=a) (b:=q::b) (ks:=ks') (by simp only[cF];omega) (tY ha) hb hr' hm'];show _::_=_::_
   congr 1
   exact ic λk hk'=>by
    have y:=hx k hk';unfold h_;rw[lq p a,aq (show¬p.1=k by omega)]
  ·rw[aq c1];by_cases c2:q.1<p.1
   ·rw[ay c2];obtain⟨ks',e,hr',hm',hx⟩:=l8 (x:=q.1) (P:=λk=>k∈(p::a).map (·.1)\/k∈b.map (·.1)) hk (λk=>by
      rw[hm k,dG (l:=b),bN (b:=q.1)];constructor
      ·rintro(z|z|z)
       ·exact .inr (.inl z)
       ·exact .inl z
       ·exact .inr (.inr z)
      ·rintro(z|z|z)
       ·exact .inr (.inl z)
       ·exact .inl z
       ·exact .inr (.inr z))
     (λk hk'=>by
      rcases hk' with z|z
      ·rcases bN.mp (show k∈p.1::a.map (·.1)from z)with y|y
       ·omega
       ·have:=la k y;omega
      ·exact lb k z)
    subst e;rw[gy];have z:h_ (p::a) (q::b) q.1=some {key:=q.1,old:=none,new:=some q.2}:=by
     unfold h_;rw[lq q b,ay rfl,Gu (l:=p::a) (k:=q.1) (λr hr=>by
      rcases bN.mp hr with y|y
      ·subst y;omega
      ·have:=la r.1 (br.mpr ⟨r,y,rfl⟩);omega),aq (by simp)]
    rw[z,lM (n:=n) (a:=p::a) (b:=b) (ks:=ks') (by simp only[cF];omega) ha (tY hb) hr' hm'];show _::_=_::_
    congr 1
    exact ic λk hk'=>by
     have y:=hx k hk';unfold h_;rw[lq q b,aq (show¬q.1=k by omega)]
   ·rw[aq c2];have epq:p.1=q.1:=by omega
    obtain⟨ks',e,hr',hm',hx⟩:=l8 (x:=p.1) (P:=λk=>k∈a.map (·.1)\/k∈b.map (·.1)) hk (λk=>by
      rw[hm k,dG,dG,bN,bN,<- epq];constructor
      ·rintro((z|z)|(z|z))
       ·exact .inl z
       ·exact .inr (.inl z)
       ·exact .inl z
       ·exact .inr (.inr z)
      ·rintro(z|z|z)
       ·exact .inl (.inl z)
       ·exact .inl (.inr z)
       ·exact .inr (.inr z))
     (λk hk'=>by
      rcases hk' with z|z
      ·exact la k z
      ·have:=lb k z;omega)
    subst e;rw[gy];have z:h_ (p::a) (q::b) p.1=if p.2=q.2 then none else some {key:=p.1,old:=some p.2,new:=some q.2}:=by
     unfold h_;rw[lq,ay rfl,lq,ay epq.symm];by_cases y:p.2=q.2
     ·rw[ay y,ay (by rw[y])]
     ·rw[aq y,aq (by simpa using y)]
    have t:ks'.filterMap (h_ (p::a) (q::b))=ks'.filterMap (h_ a b):=ic λk hk'=>by
     have:=hx k hk';unfold h_;rw[lq p a,aq (show¬p.1=k by omega),lq q b,aq (show¬q.1=k by omega)]
    rw[z,t,lM (n:=n) (a:=a) (b:=b) (ks:=ks') (by omega) (tY ha) (tY hb) hr' hm'];by_cases y:p.2=q.2
    ·rw[ay (same_iff.mpr y),ay y]
    ·rw[aq (λh=>y (same_iff.mp h)),aq y]
def FA{t u:Tr}(ht:b6 (keysOf t))(hu:b6 (keysOf u)){ks:List Nat}(hk:b6 ks)(hm:∀k,k∈ks↔k∈keysOf t\/k∈keysOf u):diff same t u=ks.filterMap (h_ (pairs t) (pairs u)):=by
 unfold diff;exact lM (by rw[j6,j6];omega) ht hu hk hm
abbrev Ch:=Change Int
noncomputable def fk (l:List Ch) (k:Nat):Option Ch:=l.find? λc=>c.key==k
def BZ(k:Nat):fk [] k=none:=rfl
def kM(c:Ch)(l:List Ch)(k:Nat):fk (c::l) k=if c.key=k then some c else fk l k:=by
 unfold fk;by_cases h:c.key=k
 ·rw[ay h,List.find?_cons_of_pos (by simpa using h)]
 ·rw[aq h,List.find?_cons_of_neg (by simpa using h)]
def Ms{l:List Ch}{k:Nat}(h:∀c∈l,c.key≠k):fk l k=none:=by
 induction l with
 |nil=>rfl
 |cons c l ih=>rw[kM,aq (h c (bU ..)),ih λq hq=>h q (cP _ hq)]
def FD{l:List Ch}{k:Nat}:(fk l k).isSome=true↔k∈l.map (·.key):=by
 induction l with
 |nil=>simp[BZ]
 |cons p l ih=>
  rw[kM];by_cases e:p.key=k
  ·rw[ay e];simp[e]
  ·rw[aq e,ih];simp;intro h;exact absurd h.symm e
def fX{a b:Option Int}:sameOpt same a b=true↔a=b:=by
 cases a<;>cases b<;>simp[sameOpt,same_iff]
abbrev dJ(l:List Ch):Prop:=b6 (l.map (·.key))
noncomputable def jr (a b:List Ch):List Nat->Option (List Ch)
 | []=>some []
 |k::ks=>match fk a k,fk b k with
  |some p,some q=>if p.new=q.old then(jr a b ks).map λl=>if p.old=q.new then l else{key:=k,old:=p.old,new:=q.new}::l else none
  |some p,none=>(jr a b ks).map λl=>p::l
  |none,some q=>(jr a b ks).map λl=>q::l
  |none,none=>jr a b ks
theorem pO{a b a' b':List Ch}:∀{ks:List Nat},(∀k∈ks,fk a k=fk a' k/\fk b k=fk b' k)->jr a b ks=jr a' b' ks
 | [],_=>rfl
 |k::ks,h=>by
  have e:=pO (ks:=ks) λx hx=>h x (cP _ hx)
  have z:=h k (bU ..);simp only[jr,e,z.1,z.2]
noncomputable def j0 (a b:List Ch) (k:Nat):Option (Nat×Option Int):=match fk a k,fk b k with
 |some p,some q=>if p.new=q.new then some (k,q.new)else none
 |some p,none=>some (k,p.new)
 |none,some q=>some (k,q.new)
 |none,none=>none
noncomputable def j3 (a b:List Ch) (k:Nat):Option (Conflict Int):=match fk a k,fk b k with
 |some p,some q=>if p.new=q.new then none else some {key:=k,base:=p.old,one:=p.new,two:=q.new}
 |_,_=>none
def heads{p q:Ch}{a b:List Ch}{ks:List Nat}(ha:dJ (p::a))(hb:dJ (q::b))(hk:b6 ks)(hm:∀k,k∈ks↔k∈(p::a).map (·.key)\/k∈(q::b).map (·.key)):
  (p.key<q.key->∃ks',ks=p.key::ks'/\b6 ks'/\(∀k,k∈ks'↔k∈a.map (·.key)\/k∈(q::b).map (·.key))/\fk (p::a) p.key=some p/\fk (q::b) p.key=none/\∀k∈ks',fk (p::a) k=fk a k)/\
  (q.key<p.key->∃ks',ks=q.key::ks'/\b6 ks'/\(∀k,k∈ks'↔k∈(p::a).map (·.key)\/k∈b.map (·.key))/\fk (q::b) q.key=some q/\fk (p::a) q.key=none/\∀k∈ks',fk (q::b) k=fk b k)/\
  (p.key=q.key->∃ks',ks=p.key::ks'/\b6 ks'/\(∀k,k∈ks'↔k∈a.map (·.key)\/k∈b.map (·.key))/\fk (p::a) p.key=some p/\fk (q::b) p.key=some q/\∀k∈ks',fk (p::a) k=fk a k/\fk (q::b) k=fk b k):=by
 have la:∀k∈a.map (·.key),p.key<k:=(iF.mp (show b6 (p.key::a.map (·.key))from ha)).1;have lb:∀k∈b.map (·.key),q.key<k:=(iF.mp (show b6 (q.key::b.map (·.key))from hb)).1
 have hm:∀k,k∈ks↔(k=p.key\/k∈a.map (·.key))\/(k=q.key\/k∈b.map (·.key)):=λk=>by
  rw[hm k,dG,dG,bN,bN]
 refine⟨λc=>?_,λc=>?_,λc=>?_⟩
 ·obtain⟨ks',e,hr',hm',hx⟩:=l8 (x:=p.key) (P:=λk=>k∈a.map (·.key)\/k∈(q::b).map (·.key)) hk (λk=>by rw[hm k,dG,bN,or_assoc])
   (λk hk'=>by
    rcases hk' with z|z
    ·exact la k z
    ·rcases bN.mp (show k∈q.key::b.map (·.key)from z)with y|y
     ·omega
     ·have:=lb k y;omega)
  refine⟨ks',e,hr',hm',by rw[kM,ay rfl],Ms λr hr=>?_,λk hk'=>?_⟩
  ·rcases bN.mp hr with y|y
   ·subst y;omega
   ·have:=lb r.key (br.mpr ⟨r,y,rfl⟩);omega
  ·rw[kM,aq (by have:=hx k hk';omega)]
 ·obtain⟨ks',e,hr',hm',hx⟩:=l8 (x:=q.key) (P:=λk=>k∈(p::a).map (·.key)\/k∈b.map (·.key)) hk (λk=>by
    rw[hm k,dG,bN];constructor
    ·rintro(z|z|z)
     ·exact .inr (.inl z)
     ·exact .inl z
     ·exact .inr (.inr z)
    ·rintro(z|z|z)
     ·exact .inr (.inl z)
     ·exact .inl z
     ·exact .inr (.inr z))
   (λk hk'=>by
    rcases hk' with z|z
    ·rcases bN.mp (show k∈p.key::a.map (·.key)from z)with y|y
     ·omega
     ·have:=la k y;omega
    ·exact lb k z)
  refine⟨ks',e,hr',hm',by rw[kM,ay rfl],Ms λr hr=>?_,λk hk'=>?_⟩
  ·rcases bN.mp hr with y|y
   ·subst y;omega
   ·have:=la r.key (br.mpr ⟨r,y,rfl⟩);omega
  ·rw[kM,aq (by have:=hx k hk';omega)]
 ·obtain⟨ks',e,hr',hm',hx⟩:=l8 (x:=p.key) (P:=λk=>k∈a.map (·.key)\/k∈b.map (·.key)) hk (λk=>by
    rw[hm k,<- c];constructor
    ·rintro((z|z)|(z|z))
     ·exact .inl z
     ·exact .inr (.inl z)
     ·exact .inl z
     ·exact .inr (.inr z)
    ·rintro(z|z|z)
     ·exact .inl (.inl z)
     ·exact .inl (.inr z)
     ·exact .inr (.inr z))
   (λk hk'=>by
    rcases hk' with z|z
    ·exact la k z
    ·have:=lb k z;omega)
  refine⟨ks',e,hr',hm',by rw[kM,ay rfl],by rw[kM,ay c.symm],λk hk'=>?_⟩;have:=hx k hk'
  exact⟨by rw[kM,aq (by omega)],by rw[kM,aq (by omega)]⟩
def Nu{p:Ch}{a:List Ch}(h:dJ (p::a)):dJ a:=(iF.mp (show b6 (p.key::a.map (·.key))from h)).2
def Bp{l:List Ch}(h:dJ l){c:Ch}(hc:c∈l):fk l c.key=some c:=by
 induction l with
 |nil=>cases hc
 |cons p l ih=>
  rw[kM];rcases bN.mp hc with e|e
  ·rw[ay (by rw[e]),e]
  ·have:=(iF.mp (show b6 (p.key::l.map (·.key))from h)).1 c.key (br.mpr ⟨c,e,rfl⟩);rw[aq (by omega),ih (Nu h) e]
theorem AH{b:List Ch}:∀{l:List Ch},(∀c∈l,fk b c.key=some c)->jr [] b (l.map (·.key))=some l
 | [],_=>rfl
 |c::l,h=>by
  rw[dG];simp only[jr,BZ,h c (bU ..),AH λq hq=>h q (cP _ hq)];rfl
theorem AI{a:List Ch}:∀{l:List Ch},(∀c∈l,fk a c.key=some c)->jr a [] (l.map (·.key))=some l
 | [],_=>rfl
 |c::l,h=>by
  rw[dG];simp only[jr,BZ,h c (bU ..),AI λq hq=>h q (cP _ hq)];rfl
theorem uS:∀{n:Nat} {a b:List Ch} {ks:List Nat},a.length+b.length<n->dJ a->dJ b->b6 ks->(∀k,k∈ks↔k∈a.map (·.key)\/k∈b.map (·.key))->join same n a b=jr a b ks
 |0,_,_,_,h,_,_,_,_=>by omega
 |n+1,[],b,ks,h,ha,hb,hk,hm=>by
  have e:ks=b.map (·.key):=qk hk hb λk=>by rw[hm k];simp
  subst e;rw[AH λc hc=>Bp hb hc];rfl
 |n+1,p::a,[],ks,h,ha,hb,hk,hm=>by
  have e:ks=(p::a).map (·.key):=qk hk ha λk=>by rw[hm k];simp
  subst e;rw[AI λc hc=>Bp ha hc];rfl
 |n+1,p::a,q::b,ks,h,ha,hb,hk,hm=>by
  simp only[cF]at h;obtain⟨h1,h2,h3⟩:=heads ha hb hk hm;simp only[join];by_cases c1:p.key<q.key
  ·rw[ay c1];obtain⟨ks',e,hr',hm',f1,f2,f3⟩:=h1 c1;subst e;rw[uS (n:=n) (a:=a) (b:=q::b) (ks:=ks') (by simp only[cF];omega) (Nu ha) hb hr' hm'];simp only[jr,f1,f2];rw[pO (a:=p::a) (b:=q::b) (a':=a) (b':=q::b) λk hk'=>⟨f3 k hk',rfl⟩]
  ·rw[aq c1];by_cases c2:q.key<p.key
   ·rw[ay c2];obtain⟨ks',e,hr',hm',f1,f2,f3⟩:=h2 c2;subst e;rw[uS (n:=n) (a:=p::a) (b:=b) (ks:=ks') (by simp only[cF];omega) ha (Nu hb) hr' hm'];simp only[jr,f1,f2];rw[pO (a:=p::a) (b:=q::b) (a':=p::a) (b':=b) λk hk'=>⟨rfl,f3 k hk'⟩]
   ·rw[aq c2];obtain⟨ks',e,hr',hm',f1,f2,f3⟩:=h3 (by omega);subst e;rw[uS (n:=n) (a:=a) (b:=b) (ks:=ks') (by omega) (Nu ha) (Nu hb) hr' hm'];simp only[jr,f1,f2];rw[pO (a:=p::a) (b:=q::b) (a':=a) (b':=b) f3];by_cases y:p.new=q.old
    ·rw[aq (by rw[fX.mpr y];simp),ay y]
     congr 1
     funext l
     by_cases z:p.old=q.new
     ·rw[ay (fX.mpr z),ay z]
     ·rw[aq (λh=>z (fX.mp h)),aq z]
    ·rw[ay (vG.mpr λh=>y (fX.mp h)),aq y]
noncomputable def wr (c:Ch):Nat×Option Int:=(c.key,c.new)
theorem uT:∀{n:Nat} {a b:List Ch} {ks:List Nat},a.length+b.length<n->dJ a->dJ b->b6 ks->(∀k,k∈ks↔k∈a.map (·.key)\/k∈b.map (·.key))->
  (both same n a b).1.map wr=ks.filterMap (j0 a b)/\(both same n a b).2=ks.filterMap (j3 a b)
 |0,_,_,_,h,_,_,_,_=>by omega
 |n+1,[],b,ks,h,ha,hb,hk,hm=>by
  have e:ks=b.map (·.key):=qk hk hb λk=>by rw[hm k];simp
  subst e;have key:∀(l:List Ch),(∀c∈l,fk b c.key=some c)->l.map wr=(l.map (·.key)).filterMap (j0 [] b)/\(l.map (·.key)).filterMap (j3 [] b)=[]:=by
   intro l
   induction l with
   |nil=>intro _;exact⟨rfl,rfl⟩
   |cons c l ih=>
    intro hl;obtain⟨i1,i2⟩:=ih λq hq=>hl q (cP _ hq)
    have z:=hl c (bU ..);rw[dG,dG,gy,gy];simp only[j0,j3,BZ,z,i1];exact⟨rfl,i2⟩
  obtain⟨i1,i2⟩:=key b λc hc=>Bp hb hc
  exact⟨i1,i2.symm⟩
 |n+1,p::a,[],ks,h,ha,hb,hk,hm=>by
  have e:ks=(p::a).map (·.key):=qk hk ha λk=>by rw[hm k];simp
  subst e;have key:∀(d l:List Ch),(∀c∈l,fk d c.key=some c)->l.map wr=(l.map (·.key)).filterMap (j0 d [])/\(l.map (·.key)).filterMap (j3 d [])=[]:=by
   intro d l
   induction l with
   |nil=>intro _;exact⟨rfl,rfl⟩
   |cons c l ih=>
    intro hl;obtain⟨i1,i2⟩:=ih λq hq=>hl q (cP _ hq)
    have z:=hl c (bU ..);rw[dG,dG,gy,gy];simp only[j0,j3,BZ,z,i1];exact⟨rfl,i2⟩
  obtain⟨i1,i2⟩:=key (p::a) (p::a) λc hc=>Bp ha hc
  exact⟨i1,i2.symm⟩
 |n+1,p::a,q::b,ks,h,ha,hb,hk,hm=>by
  simp only[cF]at h;obtain⟨h1,h2,h3⟩:=heads ha hb hk hm;have wc:∀{a b a' b':List Ch} {ks:List Nat},(∀k∈ks,fk a k=fk a' k/\fk b k=fk b' k)->ks.filterMap (j0 a b)=ks.filterMap (j0 a' b')/\ks.filterMap (j3 a b)=ks.filterMap (j3 a' b'):=λh=>
   ⟨ic λk hk=>by simp only[j0,(h k hk).1,(h k hk).2],ic λk hk=>by simp only[j3,(h k hk).1,(h k hk).2]⟩
  simp only[both];by_cases c1:p.key<q.key
  ·rw[ay c1];obtain⟨ks',e,hr',hm',f1,f2,f3⟩:=h1 c1;subst e;obtain⟨i1,i2⟩:=uT (n:=n) (a:=a) (b:=q::b) (ks:=ks') (by simp only[cF];omega) (Nu ha) hb hr' hm';obtain⟨w1,w2⟩:=wc (a:=p::a) (b:=q::b) (a':=a) (b':=q::b) (ks:=ks') λk hk'=>⟨f3 k hk',rfl⟩
   rw[gy,gy,w1,w2];simp only[j0,j3,f1,f2,dG];exact⟨by rw[i1];rfl,i2⟩
  ·rw[aq c1];by_cases c2:q.key<p.key
   ·rw[ay c2];obtain⟨ks',e,hr',hm',f1,f2,f3⟩:=h2 c2;subst e;obtain⟨i1,i2⟩:=uT (n:=n) (a:=p::a) (b:=b) (ks:=ks') (by simp only[cF];omega) ha (Nu hb) hr' hm';obtain⟨w1,w2⟩:=wc (a:=p::a) (b:=q::b) (a':=p::a) (b':=b) (ks:=ks') λk hk'=>⟨rfl,f3 k hk'⟩
    rw[gy,gy,w1,w2];simp only[j0,j3,f1,f2,dG];exact⟨by rw[i1];rfl,i2⟩
   ·rw[aq c2];obtain⟨ks',e,hr',hm',f1,f2,f3⟩:=h3 (by omega);subst e;obtain⟨i1,i2⟩:=uT (n:=n) (a:=a) (b:=b) (ks:=ks') (by omega) (Nu ha) (Nu hb) hr' hm';obtain⟨w1,w2⟩:=wc (a:=p::a) (b:=q::b) (a':=a) (b':=b) (ks:=ks') f3;rw[gy,gy,w1,w2];simp only[j0,j3,f1,f2];by_cases y:p.new=q.new
    ·rw[ay (fX.mpr y),ay y,ay y];refine⟨?_,i2⟩;rw[dG,i1];show(p.key,p.new)::_=_
     rw[y]
    ·rw[aq (λh=>y (fX.mp h)),aq y,aq y];refine⟨i1,?_⟩;show _::_=_::_
     rw[i2]
theorem nQ:∀l:List Ch,wellDiff same l=true↔dJ l/\∀c∈l,c.old≠c.new
 | []=>by simp[wellDiff,dJ,b6]
 | [a]=>by
  simp only[wellDiff,dJ,b6,dG,sC];rw[BP,vG,Ne,fX];simp
 |a::b::r=>by
  have ih:=nQ (b::r);simp only[wellDiff,cB,cQ];rw[ih,BP,vG,Ne,fX];constructor
  ·rintro⟨h1,h2,h3,h4⟩
   refine⟨iF.mpr ⟨λk hk=>?_,h3⟩,λc hc=>?_⟩
   ·show a.key<k
    rcases bN.mp (show k∈b.key::r.map (·.key)from hk)with y|y
    ·omega
    ·have:=(iF.mp (show b6 (b.key::r.map (·.key))from h3)).1 k y;omega
   ·rcases bN.mp hc with y|y
    ·subst y;exact h2
    ·exact h4 c y
  ·rintro⟨h1,h2⟩
   obtain⟨h3,h4⟩:=iF.mp (show b6 (a.key::(b::r).map (·.key))from h1);exact⟨h3 b.key (by simp),h2 a (bU ..),h4,λc hc=>h2 c (cP _ hc)⟩
theorem oB{f:Nat->Option Ch}(hf:∀k c,f k=some c->c.key=k):∀{ks:List Nat},b6 ks->dJ (ks.filterMap f)
 | [],_=>by simp[dJ,b6]
 |k::ks,h=>by
  obtain⟨h1,h2⟩:=iF.mp h;rw[gy];cases e:f k with
  |none=>exact oB hf h2
  |some c=>
   refine iF.mpr ⟨λj hj=>?_,oB hf h2⟩;obtain⟨d,hd,e2⟩:=br.mp hj;obtain⟨k',hk',e3⟩:=BN.mp hd;have:=h1 k' hk'
   show c.key<j
   rw[hf k c e,<- e2,hf k' d e3];exact this
end SM
end
section
namespace SM
open Vbwsae
abbrev Vs:=List Version
structure Dz(vs:Vs):Prop where
 pos:0<vs.length
 less:∀(i:Nat) x,vs[i]? =some x->∀p∈x.parents,p<i
 O1:∀(i:Nat) x,vs[i]? =some x->i≠0->x.parents≠ []
inductive uU(vs:Vs)(v:Nat):Nat->Prop
 |self:uU vs v v
 |step {u p:Nat} {x:Version}:uU vs v u->vs[u]? =some x->p∈x.parents->uU vs v p
def uU.le{vs:Vs}(ok:Dz vs){v u:Nat}(h:uU vs v u):u<=v:=by
 induction h with
 |self=>exact bw _
 |step _ e hp ih=>have:=ok.less _ _ e _ hp;omega
theorem uU.zero{vs:Vs}(ok:Dz vs){v:Nat}(hv:v<vs.length):uU vs v 0:=by
 have key:∀n u,u<=n->u<vs.length->uU vs v u->uU vs v 0:=by
  intro n
  induction n with
  |zero=>exact λu h _ a=>(show u=0 by omega)▸a
  |succ n ih=>
   intro u h hu a;by_cases z:u=0
   ·subst z;exact a
   ·have e:vs[u]? =some vs[u]:=iw hu;have ne:=ok.O1 u _ e z
    obtain⟨p,hp⟩:∃p,p∈vs[u].parents:=List.exists_mem_of_ne_nil _ ne;have:=ok.less u _ e p hp
    exact ih p (by omega) (by omega) (.step a e hp)
 exact key v v (bw _) hv .self
theorem mP{n k:Nat}:∀{l:List Nat},k∈putNumber n l↔k=n\/k∈l
 | []=>by simp[putNumber]
 |m::r=>by
  unfold putNumber;by_cases h1:n<m
  ·rw[ay h1];simp
  ·rw[aq h1];by_cases h2:n=m
   ·rw[ay h2];subst h2;simp
   ·rw[aq h2,bN,mP,bN];constructor
    ·rintro(z|z|z)
     ·exact .inr (.inl z)
     ·exact .inl z
     ·exact .inr (.inr z)
    ·rintro(z|z|z)
     ·exact .inr (.inl z)
     ·exact .inl z
     ·exact .inr (.inr z)
theorem oE{n:Nat}:∀{l:List Nat},b6 l->b6 (putNumber n l)
 | [],_=>by simp[putNumber,b6]
 |m::r,h=>by
  obtain⟨a,b⟩:=iF.mp h;unfold putNumber;by_cases h1:n<m
  ·rw[ay h1];exact iF.mpr ⟨λk hk=>by
    rcases bN.mp hk with z|z
    ·omega
    ·have:=a k z;omega,h⟩
  ·rw[aq h1];by_cases h2:n=m
   ·rw[ay h2];exact h
   ·rw[aq h2];exact iF.mpr ⟨λk hk=>by
     rcases mP.mp hk with z|z
     ·omega
     ·exact a k z,oE b⟩
def IA{l:List Nat}:∀{m:List Nat},b6 m->b6 (l.foldl (λm p=>putNumber p m) m)/\∀k,k∈l.foldl (λm p=>putNumber p m) m↔k∈l\/k∈m:=by
 induction l with
 |nil=>intro m h;exact⟨h,λk=>by simp⟩
 |cons p l ih=>
  intro m h;obtain⟨a,b⟩:=ih (m:=putNumber p m) (oE h);refine⟨a,λk=>?_⟩;rw[yt,b k,mP,bN];constructor
  ·rintro(z|z|z)
   ·exact .inl (.inr z)
   ·exact .inl (.inl z)
   ·exact .inr z
  ·rintro((z|z)|z)
   ·exact .inr (.inl z)
   ·exact .inl z
   ·exact .inr (.inr z)
def uV{a b:List Nat}(hb:b6 b):b6 (union a b)/\∀k,k∈union a b↔k∈a\/k∈b:=IA hb
noncomputable def ql (s:St) (l0 l:List Nat):List Nat:=l0.foldl (λm v=>match s.versions[v]? with
  |none=>m
  |some x=>x.parents.foldl (λm p=>putNumber p m) m) l
theorem uo(s:St):∀{l0 m:List Nat},b6 m->b6 (ql s l0 m)/\∀k,k∈ql s l0 m↔k∈m\/∃u x,u∈l0/\s.versions[u]? =some x/\k∈x.parents
 | [],m,h=>⟨h,λk=>by simp[ql]⟩
 |v::l0,m,h=>by
  unfold ql;rw[yt];cases e:s.versions[v]? with
  |none=>
   obtain⟨a,b⟩:=uo s (l0:=l0) h;refine⟨a,λk=>?_⟩;show k∈ql s l0 m↔_
   rw[b k];constructor
   ·rintro(z|⟨u,x,h1,h2,h3⟩)
    ·exact .inl z
    ·exact .inr ⟨u,x,cP _ h1,h2,h3⟩
   ·rintro(z|⟨u,x,h1,h2,h3⟩)
    ·exact .inl z
    ·rcases bN.mp h1 with y|y
     ·subst y;rw[e]at h2;cases h2
     ·exact .inr ⟨u,x,y,h2,h3⟩
  |some y=>
   obtain⟨c,d⟩:=IA (l:=y.parents) h;obtain⟨a,b⟩:=uo s (l0:=l0) c;refine⟨a,λk=>?_⟩;show k∈ql s l0 _↔_
   rw[b k,d k];constructor
   ·rintro((z|z)|⟨u,x,h1,h2,h3⟩)
    ·exact .inr ⟨v,y,bU ..,e,z⟩
    ·exact .inl z
    ·exact .inr ⟨u,x,cP _ h1,h2,h3⟩
   ·rintro(z|⟨u,x,h1,h2,h3⟩)
    ·exact .inl (.inr z)
    ·rcases bN.mp h1 with q|q
     ·subst q;rw[e]at h2;cases h2;exact .inl (.inl h3)
     ·exact .inr ⟨u,x,q,h2,h3⟩
inductive vW(vs:Vs)(v:Nat):Nat->Nat->Prop
 |self {n:Nat}:vW vs v n v
 |step {n u p:Nat} {x:Version}:vW vs v n u->vs[u]? =some x->p∈x.parents->vW vs v (n+1) p
def vW.mono{vs:Vs}{v n u:Nat}(h:vW vs v n u):∀{m:Nat},n<=m->vW vs v m u:=by
 induction h with
 |self=>intro m _;exact .self
 |step _ e hp ih=>
  intro m hm;cases m with
  |zero=>omega
  |succ m=>exact .step (ih (by omega)) e hp
def vW.anc{vs:Vs}{v n u:Nat}(h:vW vs v n u):uU vs v u:=by
 induction h with
 |self=>exact .self
 |step _ e hp ih=>exact .step ih e hp
def uU.Zg{vs:Vs}(ok:Dz vs){v u:Nat}(h:uU vs v u):vW vs v (v-u) u:=by
 induction h with
 |self=>exact .self
 |@step u p x a e hp ih=>
  have h1:=ok.less _ _ e _ hp;have h2:=a.le ok
  have:vW vs v (v-u+1) p:= .step ih e hp;exact this.mono (by omega)
theorem Mt(s:St)(v:Nat):∀(n j:Nat) {l:List Nat},b6 l->(∀k,k∈l↔vW s.versions v j k)->b6 (line s n l)/\∀k,k∈line s n l↔vW s.versions v (j+n) k
 |0,j,l,h,hm=>⟨h,hm⟩
 |n+1,j,l,h,hm=>by
  obtain⟨a,b⟩:=uo s (l0:=l) h;have:=Mt s v n (j+1) a (λk=>by
   rw[b k,hm k];constructor
   ·rintro(z|⟨u,x,h1,h2,h3⟩)
    ·exact z.mono (Nat.le_succ j)
    ·exact .step ((hm u).mp h1) h2 h3
   ·intro z;cases z with
    |self=>exact .inl .self
    |step h1 h2 h3=>exact .inr ⟨_,_,(hm _).mpr h1,h2,h3⟩)
  rw[show j+(n+1)=j+1+n by omega];exact this
def nT{s:St}(ok:Dz s.versions){v:Nat}(hv:v<s.versions.length):b6 (allBefore s v)/\∀k,k∈allBefore s v↔uU s.versions v k:=by
 obtain⟨a,b⟩:=Mt s v s.versions.length 0 (l:=[v]) (by simp[b6]) (λk=>by
  constructor
  ·intro h;rw[cY.mp h];exact .self
  ·intro h;cases h;exact cY.mpr rfl)
 refine⟨a,λk=>?_⟩;show k∈line s s.versions.length [v]↔_
 rw[b k];exact⟨vW.anc,λh=>(h.Zg ok).mono (by omega)⟩
theorem IB:∀{l:List Nat},b6 l->∀{m:Nat},m∈l->(∀k∈l,k<=m)->l.getLastD 0=m
 | [],_,m,hm,_=>by simp at hm
 | [a],_,m,hm,_=>by simp at hm;subst hm;rfl
 |a::b::r,h,m,hm,hx=>by
  obtain⟨h1,h2⟩:=iF.mp h;have e:(a::b::r).getLastD 0=(b::r).getLastD 0:=by simp[List.getLastD_eq_getLast?,List.getLast?_cons_cons]
  rw[e];refine IB h2 ?_ λk hk=>hx k (cP _ hk)
  rcases bN.mp hm with z|z
  ·subst z;have q1:=h1 b (bU ..)
   have q2:=hx b (cP _ (bU ..));omega
  ·exact z
def Nv{s:St}(ok:Dz s.versions){a b m:Nat}(ha:a<s.versions.length)(hb:b<s.versions.length)(h1:uU s.versions a m)(h2:uU s.versions b m)(hx:∀k,uU s.versions a k->uU s.versions b k->k<=m):common s a b=m:=by
 obtain⟨r1,m1⟩:=nT ok ha;obtain⟨r2,m2⟩:=nT ok hb;unfold common;refine IB (r1.filter _) ?_ λk hk=>?_
 ·exact jN.mpr ⟨(m1 m).mpr h1,by simpa using(m2 m).mpr h2⟩
 ·obtain⟨x,y⟩:=jN.mp hk;exact hx k ((m1 k).mp x) ((m2 k).mp (by simpa using y))
def Ny{s:St}(ok:Dz s.versions){a b:Nat}(ha:a<s.versions.length)(hb:b<s.versions.length):common s a b<=a/\uU s.versions a (common s a b):=by
 obtain⟨r1,m1⟩:=nT ok ha;obtain⟨r2,m2⟩:=nT ok hb;have hz:(0:Nat)∈(allBefore s a).filter λv=>(allBefore s b).contains v:=jN.mpr ⟨(m1 0).mpr (uU.zero ok ha),by simpa using(m2 0).mpr (uU.zero ok hb)⟩
 have hl:common s a b∈(allBefore s a).filter λv=>(allBefore s b).contains v:=by
  unfold common;rw[List.getLastD_eq_getLast?];cases e:((allBefore s a).filter λv=>(allBefore s b).contains v).getLast? with
  |none=>rw[List.getLast?_eq_none_iff]at e;rw[e]at hz;simp at hz
  |some m=>exact List.mem_of_getLast? e
 have:=(m1 _).mp (jN.mp hl).1;exact⟨this.le ok,this⟩
inductive Reach(s:bI):Nat->Nat->Prop
 |self {i:Nat} {n:Nd}:nodeAt s i=some n->Reach s i i
 |left {i b l r k:Nat}:nodeAt s i=some (.fork b l r)->Reach s l k->Reach s i k
 |right {i b l r k:Nat}:nodeAt s i=some (.fork b l r)->Reach s r k->Reach s i k
theorem Reach.none{s:bI}{i k:Nat}(e:nodeAt s i=Option.none)(h:Reach s i k):False:=by
 cases h with
 |self q=>rw[e]at q;cases q
 |left q _=>rw[e]at q;cases q
 |right q _=>rw[e]at q;cases q
def Reach.trans{s:bI}{i j k:Nat}(h:Reach s i j)(g:Reach s j k):Reach s i k:=by
 induction h with
 |self _=>exact g
 |left e _ ih=>exact .left e (ih g)
 |right e _ ih=>exact .right e (ih g)
def tu{s:bI}{i:Nat}{t:Tr}(r:Rep s i t):∀{d:Nat},depth t<=d->b6 (below s d i)/\∀k,k∈below s d i↔Reach s i k:=by
 induction r with
 |leaf e=>
  intro d h;cases d with
  |zero=>simp[depth]at h
  |succ d=>
   simp only[below,e];refine⟨by simp[b6],λk=>⟨λhk=>?_,λhk=>?_⟩⟩
   ·rw[cY.mp hk];exact .self e
   ·cases hk with
    |self _=>exact cY.mpr rfl
    |left q _=>rw[e]at q;cases q
    |right q _=>rw[e]at q;cases q
 |fork e Rl Rr a b=>
  intro d h;cases d with
  |zero=>simp[depth]at h
  |succ d=>
   simp only[depth]at h;obtain⟨a1,a2⟩:=a (d:=d) (by omega);obtain⟨b1,b2⟩:=b (d:=d) (by omega);obtain⟨u1,u2⟩:=uV (a:=below s d _) b1;simp only[below,e];refine⟨oE u1,λk=>?_⟩;rw[mP,u2 k,a2 k,b2 k];constructor
   ·rintro(z|z|z)
    ·subst z;exact .self e
    ·exact .left e z
    ·exact .right e z
   ·intro z;cases z with
    |self _=>exact .inl rfl
    |left q w=>rw[e]at q;cases q;exact .inr (.inl w)
    |right q w=>rw[e]at q;cases q;exact .inr (.inr w)
def wY{s:bI}{i:Nat}(h:Top s i):b6 (nodesOf s i)/\∀k,k∈nodesOf s i↔Reach s i k:=by
 rcases h.cases with rfl|⟨t,r,w⟩
 ·have e:nodesOf s 0=[]:=by simp[nodesOf,LEVELS,below,bJ]
  rw[e];exact⟨by simp[b6],λk=>⟨λh=>by simp at h,λh=>(h.none (bJ s)).elim⟩⟩
 ·exact tu r w.GQ
theorem uq{st:bI}:∀{vs:Vs} {l:List Nat},(∀x∈vs,Top st x.node)->b6 l->
  b6 (vs.foldl (λl v=>if v.held=true then union (nodesOf st v.node) l else l) l)/\∀k,k∈vs.foldl (λl v=>if v.held=true then union (nodesOf st v.node) l else l) l↔k∈l\/∃x∈vs,x.held=true/\Reach st x.node k
 | [],l,_,h=>⟨h,λk=>by simp⟩
 |v::vs,l,ht,h=>by
  rw[yt];have ht':∀x∈vs,Top st x.node:=λx hx=>ht x (cP _ hx)
  by_cases c:v.held=true
  ·rw[ay c];obtain⟨n1,n2⟩:=wY (ht v (bU ..));obtain⟨u1,u2⟩:=uV (a:=nodesOf st v.node) h;obtain⟨a,b⟩:=uq ht' u1;refine⟨a,λk=>?_⟩;rw[b k,u2 k,n2 k];constructor
   ·rintro((z|z)|⟨x,h1,h2,h3⟩)
    ·exact .inr ⟨v,bU ..,c,z⟩
    ·exact .inl z
    ·exact .inr ⟨x,cP _ h1,h2,h3⟩
   ·rintro(z|⟨x,h1,h2,h3⟩)
    ·exact .inl (.inr z)
    ·rcases bN.mp h1 with y|y
     ·subst y;exact .inl (.inl h3)
     ·exact .inr ⟨x,y,h2,h3⟩
  ·rw[aq c];obtain⟨a,b⟩:=uq ht' h;refine⟨a,λk=>?_⟩;rw[b k];constructor
   ·rintro(z|⟨x,h1,h2,h3⟩)
    ·exact .inl z
    ·exact .inr ⟨x,cP _ h1,h2,h3⟩
   ·rintro(z|⟨x,h1,h2,h3⟩)
    ·exact .inl z
    ·rcases bN.mp h1 with y|y
     ·subst y;exact absurd h2 c
     ·exact .inr ⟨x,y,h2,h3⟩
def zS{s:St}(ht:∀x∈s.versions,x.held=true->Top s.store x.node):b6 (needed s)/\∀k,k∈needed s↔∃x∈s.versions,x.held=true/\Reach s.store x.node k:=by
 have e:needed s=(s.versions.filter λx=>x.held).foldl (λl v=>if v.held=true then union (nodesOf s.store v.node) l else l) []:=by
  unfold needed;rw[List.foldl_filter]
  congr 1
  funext l v
  by_cases c:v.held=true<;>simp[c]
 rw[e];obtain⟨a,b⟩:=uq (st:=s.store) (vs:=s.versions.filter λx=>x.held) (l:=[]) (λx hx=>by
  obtain⟨h1,h2⟩:=jN.mp hx;exact ht x h1 h2) (by simp[b6])
 refine⟨a,λk=>?_⟩;rw[b k];constructor
 ·rintro(z|⟨x,h1,h2,h3⟩)
  ·simp at z
  ·exact⟨x,(jN.mp h1).1,h2,h3⟩
 ·rintro⟨x,h1,h2,h3⟩
  exact .inr ⟨x,jN.mpr ⟨h1,h2⟩,h2,h3⟩
noncomputable def aZ:Nat->bI->List (Nat×Nd)
 |_,[]=>[]
 |i,none::r=>aZ (i+1) r
 |i,some n::r=>(i,n)::aZ (i+1) r
noncomputable abbrev rowsOf (s:bI):List (Nat×Nd):=aZ 1 s
theorem mQ:∀{s:bI} {i j:Nat} {n:Nd},(j,n)∈aZ i s↔i<=j/\s[j-i]? =some (some n)
 | [],i,j,n=>by simp[aZ]
 |none::r,i,j,n=>by
  simp only[aZ];rw[mQ];constructor
  ·rintro⟨h1,h2⟩
   refine⟨by omega,?_⟩;rw[show j-i=(j-(i+1))+1 by omega];exact h2
  ·rintro⟨h1,h2⟩
   by_cases e:j=i
   ·subst e;rw[BW]at h2;cases h2
   ·refine⟨by omega,?_⟩;rw[show j-i=(j-(i+1))+1 by omega]at h2;exact h2
 |some m::r,i,j,n=>by
  simp only[aZ,bN];rw[mQ];constructor
  ·rintro(h|⟨h1,h2⟩)
   ·cases h;exact⟨bw _,by rw[BW];rfl⟩
   ·refine⟨by omega,?_⟩;rw[show j-i=(j-(i+1))+1 by omega];exact h2
  ·rintro⟨h1,h2⟩
   by_cases e:j=i
   ·subst e;rw[BW]at h2;have:=fG (fG h2)
    subst this;exact .inl rfl
   ·refine .inr ⟨by omega,?_⟩;rw[show j-i=(j-(i+1))+1 by omega]at h2;exact h2
def gf{s:bI}{j:Nat}{n:Nd}:(j,n)∈rowsOf s↔nodeAt s j=some n:=by
 rw[mQ];cases j with
 |zero=>simp[nodeAt]
 |succ j=>
  rw[iD,tS];constructor
  ·rintro⟨_,h⟩
   rw[Nat.add_sub_cancel]at h;rw[h];rfl
  ·intro h;refine⟨by omega,?_⟩;rw[Nat.add_sub_cancel];cases e:s[j]? with
   |none=>rw[e]at h;cases h
   |some o=>rw[e]at h;exact jd some h
theorem CL:∀{s:bI} {i:Nat} {p:Nat×Nd},p∈aZ i s->i<=p.1/\p.1<i+s.length
 |s,i,(j,n),h=>by
  obtain⟨h1,h2⟩:=mQ.mp h;have:=(iu.mp h2).1
  exact⟨h1,by show j<_;omega⟩
theorem zT:∀{s:bI} {i:Nat},((aZ i s).map (·.1)).Pairwise (· < ·)
 | [],i=>by simp[aZ]
 |none::r,i=>zT (s:=r)
 |some m::r,i=>by
  simp only[aZ,dG];refine iF.mpr ⟨λk hk=>?_,zT (s:=r)⟩;obtain⟨p,hp,e⟩:=br.mp hk;have:=CL hp
  show i<k
  omega
theorem nU:∀{s:bI} {i:Nat} {l:bI},aZ i (s++l)=aZ i s++aZ (i+s.length) l
 | [],i,l=>by simp[aZ]
 |none::r,i,l=>by
  show aZ (i+1) (r++l)=aZ (i+1) r++_
  rw[nU,cF,show i+1+r.length=i+(r.length+1)by omega]
 |some m::r,i,l=>by
  show(i,m)::aZ (i+1) (r++l)=(i,m)::aZ (i+1) r++_
  rw[nU,cF,show i+1+r.length=i+(r.length+1)by omega];rfl
theorem uW:∀{s:bI} {i:Nat},(aZ i s).length=(s.filter λx=>x.isSome).length
 | [],i=>rfl
 |none::r,i=>by simp[aZ,uW (s:=r)]
 |some m::r,i=>by simp[aZ,uW (s:=r)]
def CM(s:St):(rowsOf s.store).length=alive s:=uW
noncomputable def qX (p:Nat->Bool) (s:bI):bI:=s.zipIdx.map λx=>if p (x.2+1)=true then x.1 else none
def Nz(p:Nat->Bool):∀{s:bI} {i:Nat},aZ (i+1) ((s.zipIdx i).map λx=>if p (x.2+1)=true then x.1 else none)=(aZ (i+1) s).filter λr=>p r.1:=by
 intro s
 induction s with
 |nil=>intro i;rfl
 |cons o s ih=>
  intro i;rw[List.zipIdx_cons,dG];cases o with
  |none=>
   have:(if p (i+1)=true then(none:Option Nd)else none)=none:=by split<;>rfl
   show aZ (i+1) ((if p (i+1)=true then(none:Option Nd)else none)::_)=_
   rw[this];exact ih
  |some m=>
   show aZ (i+1) ((if p (i+1)=true then some m else none)::_)=((i+1,m)::aZ (i+1+1) s).filter _
   rw[kP];by_cases c:p (i+1)=true
   ·rw[ay c,ay c];show(i+1,m)::_=_
    rw[ih]
   ·rw[aq c,aq c];exact ih
def zU(p:Nat->Bool)(s:bI):rowsOf (qX p s)=(rowsOf s).filter λr=>p r.1:=Nz p
def IC(p:Nat->Bool)(s:bI):(qX p s).length=s.length:=by simp[qX]
def qC{p:Nat->Bool}{s:bI}{i:Nat}{n:Nd}:nodeAt (qX p s) i=some n↔nodeAt s i=some n/\p i=true:=by
 rw[<- gf,<- gf,zU,jN]
def ID{p:Nat->Bool}{s:bI}{i:Nat}{t:Tr}(r:Rep s i t):(∀k,Reach s i k->p k=true)->Rep (qX p s) i t:=by
 induction r with
 |leaf e=>intro h;exact .leaf (qC.mpr ⟨e,h _ (.self e)⟩)
 |fork e _ _ a b=>intro h;exact .fork (qC.mpr ⟨e,h _ (.self e)⟩) (a λk hk=>h k (.left e hk)) (b λk hk=>h k (.right e hk))
def NB{p:Nat->Bool}{s:bI}(G:Good s)(h:∀i k,p i=true->Reach s i k->p k=true):Good (qX p s):=by
 refine⟨λi j n hi hj=>G.uniq i j n (qC.mp hi).1 (qC.mp hj).1,λi n hi=>?_⟩;obtain⟨h1,h2⟩:=qC.mp hi;obtain⟨t,r,w⟩:=G.tree i n h1;exact⟨t,ID r λk hk=>h i k h2 hk,w⟩
def Qt{p:Nat->Bool}{s:bI}{i:Nat}(h:Top s i)(hp:∀k,Reach s i k->p k=true):Top (qX p s) i:=by
 rcases h.cases with rfl|⟨t,r,w⟩
 ·exact Top.zero _
 ·exact⟨t,.inr (ID r hp),.inr w⟩
noncomputable def FE (x:bI×Nat) (w:Nat×Option Int):bI×Nat:=match w.2 with
 |some v=>putAt same w.1 v LEVELS x.1 x.2
 |none=>delAt same w.1 LEVELS x.1 x.2
noncomputable def e8 (x:bI×Nat) (ws:List (Nat×Option Int)):bI×Nat:=ws.foldl FE x
def UR{s:bI}(G:Good s){i:Nat}(h:Top s i){w:Nat×Option Int}(hk:w.1<2^40):jY s (FE (s,i) w).1/\Good (FE (s,i) w).1/\Top (FE (s,i) w).1 (FE (s,i) w).2:=by
 unfold FE;cases w.2 with
 |some v=>exact Se G h hk
 |none=>exact Sf G h
theorem qL:∀{ws:List (Nat×Option Int)} {s:bI} {i:Nat},Good s->Top s i->(∀w∈ws,w.1<2^40)->jY s (e8 (s,i) ws).1/\Good (e8 (s,i) ws).1/\Top (e8 (s,i) ws).1 (e8 (s,i) ws).2
 | [],s,i,G,h,_=>⟨jY.refl s,G,h⟩
 |w::ws,s,i,G,h,hw=>by
  obtain⟨a,b,c⟩:=UR G h (hw w (bU ..));obtain⟨d,e,f⟩:=qL (ws:=ws) b c λx hx=>hw x (cP _ hx)
  exact⟨a.trans d,e,f⟩
def lN(s:bI)(i:Nat)(d:List Ch):changesAt s i d=e8 (s,i) (d.map wr):=by
 unfold changesAt e8;rw[List.foldl_map]
 congr 1
def AJ(s:bI)(i:Nat)(l:List (Nat×Int)):l.foldl (λx p=>putAt same p.1 p.2 LEVELS x.1 x.2) (s,i)=e8 (s,i) (l.map λp=>(p.1,some p.2)):=by
 unfold e8;rw[List.foldl_map]
 all_goals rfl
def IE{s:bI}{i:Nat}(h:Top s i):∃t,tree s LEVELS i=t/\ji s i t/\(t=.none\/WT t 40 0):=by
 rcases h.cases with rfl|⟨t,r,w⟩
 ·exact⟨.none,nothing.1,.inl ⟨rfl,rfl⟩,.inl rfl⟩
 ·exact⟨t,mE r w.GQ,.inr r,.inr w⟩
def FF{a b:List (Nat×Int)}{k:Nat}{c:Ch}(h:h_ a b k=some c):c.key=k/\c.old=lk a k/\c.new=lk b k/\c.old≠c.new:=by
 unfold h_ at h;by_cases e:lk a k=lk b k
 ·rw[ay e]at h;cases h
 ·rw[aq e]at h;cases h;exact⟨rfl,rfl,rfl,e⟩
structure Ks(ks1 ks2:List Nat)(d:List Ch):Prop where
 rise:dJ d
 mem:∀c∈d,c.key∈ks1\/c.key∈ks2
def GR{a b:List Nat}(hb:b6 b):∃ks,b6 ks/\∀k,k∈ks↔k∈a\/k∈b:=⟨union a b,(uV hb).1,(uV hb).2⟩
def Mu{t u:Tr}(ht:b6 (keysOf t))(hu:b6 (keysOf u)):Ks (keysOf t) (keysOf u) (diff same t u):=by
 obtain⟨ks,hr,hm⟩:=GR (a:=keysOf t) hu;rw[FA ht hu hr hm];refine⟨oB (λk c h=>(FF h).1) hr,λc hc=>?_⟩;obtain⟨k,hk,e⟩:=BN.mp hc;rw[(FF e).1];exact(hm k).mp hk
def qD{b:Nat}{l r:Tr}:keysOf (.fork b l r)=keysOf l++keysOf r:=by simp[keysOf,pairs]
theorem uX{s:bI}:∀{d i j:Nat} {t u:Tr} {c p c' p':Nat},Rep s i t->Rep s j u->WT t c p->WT u c' p'->c<=40->c'<=40->depth t<=d->depth u<=d->Ks (keysOf t) (keysOf u) (diffAt same s d i j).1
 |0,i,j,t,u,c,p,c',p',R,R',W,W',_,_,h,_=>by have:=jv R;omega
 |d+1,i,j,t,u,c,p,c',p',R,R',W,W',hc,hc',h,h'=>by
  unfold diffAt;by_cases e:i=j
  ·rw[ay e];exact⟨by simp[dJ,b6],by simp⟩
  ·rw[aq e];have key:Ks (keysOf t) (keysOf u) (diff same (tree s (d+1) i) (tree s (d+1) j)):=by
    rw[mE R h,mE R' h'];exact Mu W.rising W'.rising
   cases R with
   |leaf e1=>simp only[e1];exact key
   |@fork _ b l r tl tr e1 Rl Rr=>
    cases R' with
    |leaf e2=>simp only[e1,e2];exact key
    |@fork _ b' m q ul ur e2 Rm Rq=>
     simp only[e1,e2]
     split
     ·rename_i cnd;obtain⟨cb,cm⟩:=cnd;subst cb;cases W with
      |@fork _ _ _ z _ _ hb wl wr ez=>
       cases W' with
       |@fork _ _ _ z' _ _ hb' wm wq ez'=>
        simp only[depth]at h h';have hl1:leastAt s LEVELS l=leastKey tl:=kX Rl (by have:=wl.depth;show _<=41;omega)
        have hl2:leastAt s LEVELS m=leastKey ul:=kX Rm (by have:=wm.depth;show _<=41;omega);have k1:=wl.keys _ (jq wl)
        have k2:=wm.keys _ (jq wm);rw[hl1,hl2,kL,kL,k1,k2]at cm;have ezz:z=z':=by omega
        subst ezz;have D1:=uX (d:=d) Rl Rm wl wm (by omega) (by omega) (by omega) (by omega)
        have D2:=uX (d:=d) Rr Rq wr wq (by omega) (by omega) (by omega) (by omega);refine⟨?_,λx hx=>?_⟩
        ·show b6 (List.map (λx:Ch=>x.key) (_++_))
         rw[jO];refine BK.mpr ⟨D1.rise,D2.rise,λx hx y hy=>?_⟩;obtain⟨c1,hc1,ex⟩:=br.mp hx;obtain⟨c2,hc2,ey⟩:=br.mp hy;have q1:x/2^b=2*z:=by
          rw[<- ex];rcases D1.mem c1 hc1 with w|w
          ·exact wl.keys _ w
          ·exact wm.keys _ w
         have q2:y/2^b=2*z+1:=by
          rw[<- ey];rcases D2.mem c2 hc2 with w|w
          ·exact wr.keys _ w
          ·exact wq.keys _ w
         rcases kR x y with w|w
         ·exact w
         ·have:=Nat.div_le_div_right (c:=2^b) w;omega
        ·rw[qD,qD,dg,dg];rcases dg.mp hx with w|w
         ·rcases D1.mem x w with v|v
          ·exact .inl (.inl v)
          ·exact .inr (.inl v)
         ·rcases D2.mem x w with v|v
          ·exact .inl (.inr v)
          ·exact .inr (.inr v)
     ·exact key
def ow{s:bI}{i j:Nat}(h:Top s i)(h':Top s j):dJ (diffAt same s LEVELS i j).1/\∀c∈(diffAt same s LEVELS i j).1,c.key∈keysOf (treeOf s i)\/c.key∈keysOf (treeOf s j):=by
 have rz:∀{t:Tr},(t=.none\/WT t 40 0)->b6 (keysOf t):=λ{t} z=>by
  rcases z with rfl|z
  ·simp[keysOf,pairs,b6]
  ·exact z.rising
 have V9:diffAt same s LEVELS i j=(diff same (treeOf s i) (treeOf s j),1)->dJ (diffAt same s LEVELS i j).1/\∀c∈(diffAt same s LEVELS i j).1,c.key∈keysOf (treeOf s i)\/c.key∈keysOf (treeOf s j):=λe=>by
  rw[e];obtain⟨t,et,rt,wt⟩:=IE h;obtain⟨u,eu,ru,wu⟩:=IE h';have a:treeOf s i=t:=et
  have b:treeOf s j=u:=eu;have D:=Mu (rz wt) (rz wu)
  rw[a,b];exact⟨D.rise,D.mem⟩
 have e0:∀(x y:Nat),x≠y->(nodeAt s x=none\/nodeAt s y=none)->diffAt same s LEVELS x y=(diff same (treeOf s x) (treeOf s y),1):=λx y hn hz=>by
  show diffAt same s (40+1) x y=_
  unfold diffAt;rw[aq hn];rcases hz with z|z
  ·simp only[z];rfl
  ·cases q:nodeAt s x with
   |none=>rfl
   |some n=>
    simp only[z];cases n<;>rfl
 by_cases Ys:i=j
 ·subst Ys;have:diffAt same s LEVELS i i=([],0):=by
   show diffAt same s (40+1) i i=_
   unfold diffAt;rw[ay rfl]
  rw[this];exact⟨by simp[dJ,b6],by simp⟩
 ·rcases h.cases with rfl|⟨t,r,w⟩
  ·exact V9 (e0 _ _ Ys (.inl (bJ s)))
  ·rcases h'.cases with rfl|⟨u,r',w'⟩
   ·exact V9 (e0 _ _ Ys (.inr (bJ s)))
   ·have D:=uX (d:=LEVELS) r r' w w' (by omega) (by omega) w.GQ w'.GQ;have a:treeOf s i=t:=mE r w.GQ
    have b:treeOf s j=u:=mE r' w'.GQ;rw[a,b];exact⟨D.rise,D.mem⟩
end SM
end
section
namespace SM
open Vbwsae
def Si(n:Nat):∀m,(n ^^^ m)+2*(n &&& m)=n+m:=by
 induction n using Nat.strongRecOn with
 |_ n ih=>
  intro m;by_cases h:n=0
  ·subst h;simp
  ·have:=ih (n/2) (by omega) (m/2);have e1:(n ^^^ m)/2=n/2 ^^^ m/2:=Nat.xor_div_two
   have e2:(n &&& m)/2=n/2 &&& m/2:=Nat.and_div_two;have e3:(n ^^^ m)%2=1↔¬(n%2=1↔m%2=1):=Nat.xor_mod_two_eq_one
   have e4:(n &&& m)%2=1↔n%2=1/\m%2=1:=Nat.and_mod_two_eq_one;rw[<- e1,<- e2]at this
   revert this e3 e4
   clear e1 e2 ih;generalize n ^^^ m=x;generalize n &&& m=y;intro this e3 e4;omega
def Lv(n m:Nat):PySem.Builtin.bitXor (n:Int) (m:Int)=((n ^^^ m:Nat):Int):=by
 have h:=PyProof.Rows.bitXor_and (n:Int) (m:Int);have e:PySem.Builtin.bitAnd (n:Int) (m:Int)=((n &&& m:Nat):Int):=by
  simp[PySem.Builtin.bitAnd]
 rw[e]at h;have:=Si n m
 omega
def xb{a b:Bool}(h:(a ^^ b)=false):a=b:=by revert h;cases a<;>cases b<;>decide
def xb2{a b:Bool}(h:a≠b):(a ^^ b)=true:=by revert h;cases a<;>cases b<;>decide
def Qu{k o:Nat}(hk:k<2^40)(ho:o<2^40)(hn:k≠o):PySem.Builtin.Int.intBits (PySem.Builtin.bitXor (k:Int) (o:Int))=top k o+1:=by
 rw[Lv];obtain⟨h1,h2,h3⟩:=xR hk ho hn;have hx:(k ^^^ o)≠0:=λz=>by
  have:=Nat.testBit_xor k o (top k o);rw[z,Nat.zero_testBit]at this;exact h2 (xb this.symm)
 have hl:(k ^^^ o).log2=top k o:=by
  refine(Nat.log2_eq_iff hx).mpr ⟨?_,?_⟩
  ·refine Nat.ge_two_pow_of_testBit ?_;rw[Nat.testBit_xor];exact xb2 h2
  ·refine Nat.lt_pow_two_of_testBit _ λi hi=>?_
   rw[Nat.testBit_xor];have e:∀n:Nat,n.testBit i=(n/2^(top k o+1)).testBit (i-(top k o+1)):=λn=>by
    rw[Nat.testBit_div_two_pow,Nat.sub_add_cancel hi]
   rw[e k,e o,h1];simp
 unfold PySem.Builtin.Int.intBits;rw[aq (by simpa using hx)];show(k ^^^ o:Nat).log2+1=_
 rw[hl]
end SM
end
section
namespace SM
open Vbwsae
def Small:Tr->Prop
 | .none=>True
 | .leaf k _=>k<2^40
 | .fork _ l r=>Small l/\Small r
theorem Small.least:∀{t:Tr},Small t->leastKey t<2^40
 | .none,_=>vI 40
 | .leaf _ _,h=>h
 | .fork _ l _,h=>Small.least (t:=l) h.1
theorem CN:∀{t:Tr},(∀k∈keysOf t,k<2^40)->Small t
 | .none,_=>trivial
 | .leaf k x,h=>h k (by simp[keysOf,pairs])
 | .fork b l r,h=>⟨CN λk hk=>h k (by simp[keysOf,pairs]at hk⊢;exact .inl hk),CN λk hk=>h k (by simp[keysOf,pairs]at hk⊢;exact .inr hk)⟩
def Top.small{s:bI}{i:Nat}(h:Top s i):∃t,ji s i t/\depth t<=41/\Small t/\(t=.none\/WT t 40 0):=by
 obtain⟨t,r,w⟩:=h;rcases w with w|w
 ·subst w;exact⟨_,r,by simp[depth],trivial,.inl rfl⟩
 ·exact⟨t,r,w.GQ,CN λk hk=>Pu w hk,.inr w⟩
def o9(s:bI)(n:Nd):(mk same s n).1.length<=s.length+1:=by
 unfold mk
 split<;>simp
theorem xB(k:Nat)(x:Int):∀(d:Nat) (s:bI) (i:Nat),(putAt same k x d s i).1.length<=s.length+d+1
 |0,s,i=>by simp[putAt]
 |d+1,s,i=>by
  unfold putAt;cases nodeAt s i with
  |none=>have:=o9 s (.leaf k x);simp only;omega
  |some n=>
   cases n with
   |leaf j y=>
    simp only;have h1:=o9 s (.leaf k x)
    have h2:=o9 (mk same s (.leaf k x)).1 (if k.testBit (top k j)=true then .fork (top k j) i (mk same s (.leaf k x)).2 else .fork (top k j) (mk same s (.leaf k x)).2 i)
    split
    ·omega
    ·unfold underAt;omega
   |fork b l r=>
    simp only
    split
    ·have h1:=o9 s (.leaf k x);unfold underAt;have h2:=o9 (mk same s (.leaf k x)).1 (if k.testBit (top k (leastAt s LEVELS l))=true then .fork (top k (leastAt s LEVELS l)) i (mk same s (.leaf k x)).2 else .fork (top k (leastAt s LEVELS l)) (mk same s (.leaf k x)).2 i)
     omega
    ·split
     ·have:=xB k x d s r;have:=o9 (putAt same k x d s r).1 (.fork b l (putAt same k x d s r).2)
      omega
     ·have:=xB k x d s l;have:=o9 (putAt same k x d s l).1 (.fork b (putAt same k x d s l).2 r)
      omega
theorem xC(k:Nat):∀(d:Nat) (s:bI) (i:Nat),(delAt same k d s i).1.length<=s.length+d
 |0,s,i=>by simp[delAt]
 |d+1,s,i=>by
  unfold delAt;cases nodeAt s i with
  |none=>simp only;omega
  |some n=>
   cases n with
   |leaf j y=>simp only;omega
   |fork b l r=>
    simp only
    split
    ·have:=xC k d s r
     split
     ·show List.length (delAt same k d s _).1<=_;omega
     ·have:=o9 (delAt same k d s r).1 (.fork b l (delAt same k d s r).2);omega
    ·have:=xC k d s l
     split
     ·show List.length (delAt same k d s _).1<=_;omega
     ·have:=o9 (delAt same k d s l).1 (.fork b (delAt same k d s l).2 r);omega
theorem uY{k:Nat}{x:Int}:∀{d:Nat} {s:bI} {i:Nat} {t:Tr},qB s->0<d->ji s i t->depth t<=d->
  jY s (putAt same k x d s i).1/\qB (putAt same k x d s i).1/\∃n,nodeAt (putAt same k x d s i).1 (putAt same k x d s i).2=some n
 |d+1,s,i,t,U,_,r0,hd=>by
  unfold putAt;cases e:nodeAt s i with
  |none=>obtain⟨a,b,c⟩:=k_ U (.leaf k x);exact⟨a,b,_,c⟩
  |some n=>
   cases n with
   |leaf j y=>
    obtain⟨a,b,c⟩:=k_ U (.leaf k x);simp only
    split
    ·exact⟨a,b,_,c⟩
    ·unfold underAt;obtain⟨a',b',c'⟩:=k_ b (if k.testBit (top k j)=true then .fork (top k j) i (mk same s (.leaf k x)).2 else .fork (top k j) (mk same s (.leaf k x)).2 i);exact⟨a.trans a',b',_,c'⟩
   |fork b l r=>
    simp only
    split
    ·obtain⟨a,b,c⟩:=k_ U (.leaf k x);unfold underAt;obtain⟨a',b',c'⟩:=k_ b (if k.testBit (top k (leastAt s LEVELS l))=true then .fork (top k (leastAt s LEVELS l)) i (mk same s (.leaf k x)).2 else .fork (top k (leastAt s LEVELS l)) (mk same s (.leaf k x)).2 i);exact⟨a.trans a',b',_,c'⟩
    ·rcases r0 with⟨z,_⟩|r0
     ·rw[z,bJ]at e;cases e
     cases r0 with
     |leaf e'=>rw[e]at e';cases e'
     |fork e' rl rr=>
      rw[e]at e';cases e';have:=jv rl
      simp only[depth]at hd
      split
      ·obtain⟨a,b',c⟩:=uY (k:=k) (x:=x) (d:=d) U (by omega) (.inr rr) (by omega);obtain⟨a2,b2,c2⟩:=k_ b' (.fork b l (putAt same k x d s r).2);exact⟨a.trans a2,b2,_,c2⟩
      ·obtain⟨a,b',c⟩:=uY (k:=k) (x:=x) (d:=d) U (by omega) (.inr rl) (by omega);obtain⟨a2,b2,c2⟩:=k_ b' (.fork b (putAt same k x d s l).2 r);exact⟨a.trans a2,b2,_,c2⟩
theorem uZ{k:Nat}:∀{d:Nat} {s:bI} {i:Nat} {t:Tr},qB s->0<d->ji s i t->depth t<=d->
  jY s (delAt same k d s i).1/\qB (delAt same k d s i).1/\((delAt same k d s i).2=0\/∃n,nodeAt (delAt same k d s i).1 (delAt same k d s i).2=some n)
 |d+1,s,i,t,U,_,r0,hd=>by
  unfold delAt;cases e:nodeAt s i with
  |none=>exact⟨jY.refl _,U,.inl rfl⟩
  |some n=>
   cases n with
   |leaf j y=>
    simp only;refine⟨jY.refl _,U,?_⟩
    split
    ·exact .inl rfl
    ·exact .inr ⟨_,e⟩
   |fork b l r=>
    simp only;rcases r0 with⟨z,_⟩|r0
    ·rw[z,bJ]at e;cases e
    cases r0 with
    |leaf e'=>rw[e]at e';cases e'
    |fork e' rl rr=>
     rw[e]at e';cases e';have:=jv rl
     simp only[depth]at hd
     split
     ·obtain⟨a,b',c⟩:=uZ (k:=k) (d:=d) U (by omega) (.inr rr) (by omega)
      split
      ·obtain⟨n,hn⟩:=rl.node;exact⟨a,b',.inr ⟨n,a.ext _ _ hn⟩⟩
      ·obtain⟨a2,b2,c2⟩:=k_ b' (.fork b l (delAt same k d s r).2);exact⟨a.trans a2,b2,.inr ⟨_,c2⟩⟩
     ·obtain⟨a,b',c⟩:=uZ (k:=k) (d:=d) U (by omega) (.inr rl) (by omega)
      split
      ·obtain⟨n,hn⟩:=rr.node;exact⟨a,b',.inr ⟨n,a.ext _ _ hn⟩⟩
      ·obtain⟨a2,b2,c2⟩:=k_ b' (.fork b (delAt same k d s l).2 r);exact⟨a.trans a2,b2,.inr ⟨_,c2⟩⟩
end SM
end
section
namespace ST
open PySem PySem.SetTable
noncomputable def F5 (z:Nat):Nat:=5*z+1
noncomputable def GS:Nat->Nat->Nat
 |0,z=>z
 |n+1,z=>GS n (F5 z)
theorem Gv:∀(m n z:Nat),GS (m+n) z=GS n (GS m z)
 |0,n,z=>by rw[Nat.zero_add];rfl
 |m+1,n,z=>by rw[show m+1+n=(m+n)+1 by omega];exact Gv m n (F5 z)
theorem Mv:∀e:Nat,∃u:Nat,u%2=1/\∀z,GS (2^e) z=z+2^e*(u*(4*z+1))
 |0=>⟨1,rfl,λz=>by show 5*z+1=_;simp;omega⟩
 |e+1=>by
  obtain⟨u,hu,h⟩:=Mv e;refine⟨u*(1+2*2^e*u),?_,λz=>?_⟩
  ·rw[Nat.mul_mod,hu,yw,Nat.add_mod,Nat.mul_mod_right]
  ·rw[sA,Nat.mul_two,Gv,h,h];generalize 2^e=p
   grind
def Qv(e z:Nat):GS (2^e) z%2^(e+1)=(z+2^e)%2^(e+1):=by
 obtain⟨u,hu,h⟩:=Mv e;rw[h];have o:u*(4*z+1)%2=1:=by
  rw[Nat.mul_mod,hu];omega
 obtain⟨v,hv⟩:∃v,u*(4*z+1)=2*v+1:=⟨u*(4*z+1)/2,by omega⟩;rw[hv,show z+2^e*(2*v+1)=(z+2^e)+2^(e+1)*v by rw[sA];grind,Nat.add_mul_mod_self_left]
theorem reachF:∀(e x y:Nat),∃m,m<2^e/\GS m x%2^e=y%2^e
 |0,x,y=>⟨0,by decide,by simp[Nat.mod_one]⟩
 |e+1,x,y=>by
  obtain⟨m,hm,h⟩:=reachF e x y;have p:2^(e+1)=2*2^e:=by rw[sA];omega
  by_cases c:GS m x%2^(e+1)=y%2^(e+1)
  ·exact⟨m,by omega,c⟩
  ·refine⟨m+2^e,by omega,?_⟩;rw[Gv,Qv];have q:0<2^e:=vI e
   generalize GS m x=a at *;generalize 2^e=n at *;rw[p]at c⊢;have e1:a%(2*n)=a%n\/a%(2*n)=a%n+n:=by
    have h1:=Nat.mod_add_div a (2*n);have h2:=yD a (show 0<2*n by omega)
    have h3:a%(2*n)%n=a%n:=Nat.mod_mul_left_mod a 2 n;rcases kR (a%(2*n)) n with z|z
    ·left;rw[vU z]at h3;exact h3
    ·right
     rw[Nat.mod_eq_sub_mod z,vU (by omega)]at h3;omega
   have e2:y%(2*n)=y%n\/y%(2*n)=y%n+n:=by
    have h2:=yD y (show 0<2*n by omega);have h3:y%(2*n)%n=y%n:=Nat.mod_mul_left_mod y 2 n
    rcases kR (y%(2*n)) n with z|z
    ·left;rw[vU z]at h3;exact h3
    ·right
     rw[Nat.mod_eq_sub_mod z,vU (by omega)]at h3;omega
   rw[Nat.add_mod,vU (show n<2*n by omega)];have la:=yD a q
   rcases e1 with e1|e1<;>rcases e2 with e2|e2
   ·omega
   ·rw[e1,e2,vU (by omega)];omega
   ·rw[e1,e2,show a%n+n+n=a%n+2*n by omega,Nat.add_mod_right,vU (by omega)];exact h
   ·omega
noncomputable def lp (mask:Nat) (x:Nat×Nat):Nat×Nat:=leap mask x.1 x.2
noncomputable def yH (mask:Nat):Nat->Nat×Nat->Nat×Nat
 |0,x=>x
 |n+1,x=>yH mask n (lp mask x)
theorem Mw(mask:Nat):∀(m n:Nat) (x:Nat×Nat),yH mask (m+n) x=yH mask n (yH mask m x)
 |0,n,x=>by rw[Nat.zero_add];rfl
 |m+1,n,x=>by rw[show m+1+n=(m+n)+1 by omega];exact Mw mask m n _
theorem AK(mask:Nat):∀(n:Nat) (x:Nat×Nat),(yH mask n x).2=x.2/32^n
 |0,x=>by simp[yH]
 |n+1,x=>by
  show(yH mask n (lp mask x)).2=_
  rw[AK];show x.2/32/32^n=_
  rw[Ef,sA,yx]
theorem IF(mask:Nat):∀(n i:Nat),(yH mask n (i,0)).1%(mask+1)=GS n i%(mask+1)
 |0,i=>rfl
 |n+1,i=>by
  show(yH mask n (leap mask i 0)).1%_=_
  unfold leap;rw[show(0:Nat)/32=0 from rfl,Nat.add_zero,IF];show _=GS n (F5 i)%_
  have key:∀(n a b:Nat),a%(mask+1)=b%(mask+1)->GS n a%(mask+1)=GS n b%(mask+1):=by
   intro n
   induction n with
   |zero=>intro a b h;exact h
   |succ n ih=>
    intro a b h;refine ih _ _ ?_;unfold F5;rw[Nat.add_mod,Nat.mul_mod,h,<- Nat.mul_mod,<- Nat.add_mod]
  refine key n _ _ ?_;rw[Nat.mod_mod,yx i 5];rfl
def Xa(mask:Nat)(x:Nat×Nat):(lp mask x).1<=mask:=Nat.le_of_lt_succ (yD _ (Nat.succ_pos mask))
theorem Ku{mask:Nat}:∀{n:Nat} {x:Nat×Nat},x.1<=mask->(yH mask n x).1<=mask
 |0,x,h=>h
 |n+1,x,h=>Ku (n:=n) (x:=lp mask x) (Xa mask x)
def Sj(h:Int):bits h<2^64:=by
 unfold bits;have a:=Int.emod_nonneg h (show(2^64:Int)≠0 by decide)
 have b:=Int.emod_lt_of_pos h (show(0:Int)< 2^64 by decide);omega
def FG{mask e:Nat}(hm:mask+1=2^e)(h:Int){y:Nat}(hy:y<=mask):∃n,n<turns mask/\(yH mask n (bits h%(mask+1),bits h)).1=y:=by
 let x:Nat×Nat:=(bits h%(mask+1),bits h)
 have p:(yH mask 13 x).2=0:=by
  rw[AK];exact tV (jZ (Sj h) (by decide))
 obtain⟨m,h1,h2⟩:=reachF e (yH mask 13 x).1 y;rw[<- hm]at h1 h2;refine⟨13+m,by unfold turns;omega,?_⟩;rw[Mw];have ep:yH mask 13 x=((yH mask 13 x).1,0):=by rw[<- p]
 have lt:(yH mask m (yH mask 13 x)).1<=mask:=Ku (Ku (Nat.le_of_lt_succ (yD _ (Nat.succ_pos mask))));have:=IF mask m (yH mask 13 x).1
 rw[<- ep,h2,vU (Nat.lt_succ_of_le lt),vU (Nat.lt_succ_of_le hy)]at this;exact this
def NC(mask i:Nat):i<=runEnd mask i:=by unfold runEnd;split<;>omega
theorem Mx{mask:Nat}{owner:Array (Option Nat)}(hs:owner.size=mask+1){y:Nat}(hy:owner[y]? =some none):∀(f i pb:Nat),(∃n,n<f/\(yH mask n (i,pb)).1=y)->
  ∃j,layClean.free mask owner f i pb=some j/\owner[j]? =some none
 |0,i,pb,h=>by obtain⟨n,hn,_⟩:=h;omega
 |f+1,i,pb,h=>by
  unfold layClean.free;cases e:(List.range (runEnd mask i+1-i)).find? (λk=>(owner.getD (i+k) (some 0)).isNone)with
  |some k=>
   have:=List.find?_some e;refine⟨i+k,rfl,?_⟩;rw[yd]at this;cases q:owner[i+k]? with
   |none=>rw[q]at this;cases this
   |some o=>rw[q]at this;cases o with
    |none=>rfl
    |some z=>cases this
  |none=>
   rw[List.find?_eq_none]at e;obtain⟨n,hn,hx⟩:=h;cases n with
   |zero=>
    exfalso;have:i=y:=hx
    subst this;have:=e 0 (vV.mpr (by have:=NC mask i;omega))
    rw[yd,Nat.add_zero,hy]at this;exact this rfl
   |succ n=>exact Mx hs hy f _ _ ⟨n,by omega,hx⟩
theorem we{g:Nat->Option Nat}{j k:Nat}(hj:g j=none):∀{l:List Nat},l.Nodup->j∈l->(l.filterMap λi=>if i=j then some k else g i).Perm (k::l.filterMap g)
 |a::l,hn,h=>by
  obtain⟨h1,h2⟩:=kQ.mp hn;rw[gy,gy];by_cases e:a=j
  ·subst e;rw[ay rfl,hj];have:(l.filterMap λi=>if i=a then some k else g i)=l.filterMap g:=by
    clear hn h h2
    induction l with
    |nil=>rfl
    |cons b l ih=>
     rw[gy,gy,aq (λq=>h1 (by rw[q];exact bU ..)),ih (λq=>h1 (cP _ q))]
   show(k::_).Perm _
   rw[this]
  ·rw[aq e];have ih:=we (k:=k) hj h2 ((bN.mp h).resolve_left (λq=>e q.symm))
   cases g a with
   |none=>exact ih
   |some z=>exact(List.Perm.cons z ih).trans (List.Perm.swap k z _)
structure Own(mask:Nat)(owner:Array (Option Nat))(k:Nat):Prop where
 sz:owner.size=mask+1
 perm:((List.range (mask+1)).filterMap λj=>owner.getD j none).Perm (List.range k)
def ND(mask:Nat):Own mask (Array.replicate (mask+1) none) 0:=by
 refine⟨by simp,?_⟩;have:((List.range (mask+1)).filterMap λj=>(Array.replicate (mask+1) (none:Option Nat)).getD j none)=[]:=by
  rw[List.filterMap_eq_nil_iff];intro j _;rw[yd,Array.getElem?_replicate]
  split<;>rfl
 rw[this];exact .nil
theorem wg{α β:Type}{g:α->Option β}:∀{l:List α},(∀x∈l,(g x).isSome=true)->(l.filterMap g).length=l.length
 | [],_=>rfl
 |a::l,h=>by
  rw[gy];have:=h a (bU ..)
  cases e:g a with
  |none=>rw[e]at this;cases this
  |some z=>rw[cF,wg λx hx=>h x (cP _ hx),cF]
def NF{mask k:Nat}{owner:Array (Option Nat)}(O:Own mask owner k)(hk:k<=mask):∃y,y<=mask/\owner[y]? =some none:=by
 by_cases c:∃y,y<=mask/\owner[y]? =some none
 ·exact c
 ·exfalso;have:=wg (g:=λj=>owner.getD j none) (l:=List.range (mask+1)) (λx hx=>by
   have hx:=vV.mp hx;rw[yd];have hx':x<owner.size:=by rw[O.sz];exact hx
   have e:owner[x]? =some owner[x]:=rA hx';cases q:owner[x]with
   |none=>exact absurd ⟨x,by omega,by rw[e,q]⟩ c
   |some z=>rw[e,q];rfl)
  rw[O.perm.length_eq,E7,E7]at this;omega
def Sk{mask k j:Nat}{owner:Array (Option Nat)}(O:Own mask owner k)(hj:owner[j]? =some none):Own mask (owner.setIfInBounds j (some k)) (k+1):=by
 have hjl:j<owner.size:=by
  rcases kR j owner.size with z|z
  ·exact z
  ·rw[vS z]at hj;cases hj
 refine⟨by rw[Array.size_setIfInBounds];exact O.sz,?_⟩;have e:(λi=>(owner.setIfInBounds j (some k)).getD i none)=λi=>if i=j then some k else owner.getD i none:=by
  funext i
  rw[yd,yd,Array.getElem?_setIfInBounds];by_cases q:i=j
  ·subst q;simp[hjl]
  ·rw[aq (λz=>q z.symm),aq q]
 rw[e];have hg:(λj=>owner.getD j none) j=none:=by
  show owner.getD j none=none
  rw[yd,hj];rfl
 refine(we (k:=k) hg List.nodup_range (vV.mpr (by rw[<- O.sz];exact hjl))).trans ?_;rw[List.range_succ (n:=k)];exact(List.Perm.cons k O.perm).trans (List.perm_append_singleton k _).symm
theorem AL{mask e:Nat}(hm:mask+1=2^e):∀(hs:List Int) (owner:Array (Option Nat)) (k:Nat),Own mask owner k->k+hs.length<=mask->
  ∃owner',hs.foldl (λ(acc:Option (Array (Option Nat)×Nat)) h=>do
   let(owner,k) <- acc
   let j <- layClean.free mask owner (turns mask) (bits h%(mask+1)) (bits h)
   pure (owner.setIfInBounds j (some k),k+1)) (some (owner,k))=some (owner',k+hs.length)/\Own mask owner' (k+hs.length)
 | [],owner,k,O,_=>⟨owner,rfl,O⟩
 |h::hs,owner,k,O,hk=>by
  rw[cF]at hk;obtain⟨y,hy,hy'⟩:=NF O (by omega);obtain⟨j,hj,hj'⟩:=Mx O.sz hy' (turns mask) (bits h%(mask+1)) (bits h) (FG hm h hy);obtain⟨o',h1,h2⟩:=AL hm hs _ (k+1) (Sk O hj') (by omega);refine⟨o',?_,?_⟩
  ·rw[yt];have:(do
     let(owner,k) <- some (owner,k)
     let j <- layClean.free mask owner (turns mask) (bits h%(mask+1)) (bits h)
     pure (owner.setIfInBounds j (some k),k+1))=some (owner.setIfInBounds j (some k),k+1):=by
    show(layClean.free mask owner (turns mask) (bits h%(mask+1)) (bits h) >>= λj=>pure (owner.setIfInBounds j (some k),k+1))=_
    rw[hj];rfl
   rw[this,h1,cF,show k+1+hs.length=k+(hs.length+1)by omega]
  ·rw[cF,show k+(hs.length+1)=k+1+hs.length by omega];exact h2
abbrev pJ(l:List Nat):Prop:=l.Pairwise (· < ·)
def My{mask e:Nat}(hm:mask+1=2^e)(finger moves:Nat)(led plain:Bool)(hashes:Array Int)(hz:hashes.size<=mask):
  ∃t order,laid mask finger moves led plain hashes=some (t,order)/\t.mask=mask/\t.dummies=#[]/\t.led=led/\t.plain=plain/\t.place.size=hashes.size/\pJ t.place.toList/\order.toList.Perm (List.range hashes.size):=by
 obtain⟨o,h1,O⟩:=AL hm hashes.toList _ 0 (ND mask) (by rw[jo];omega);rw[Nat.zero_add,jo]at h1 O;have h2:layClean mask hashes=some o:=by
  unfold layClean;rw[<- Array.foldl_toList,h1];rfl
 have key:∀(l:List Nat),((l.filterMap λj=>(o.getD j none).map (j,·)).map (·.2))=l.filterMap λj=>o.getD j none:=by
  intro l
  induction l with
  |nil=>rfl
  |cons a l ih=>
   rw[gy,gy];cases q:o.getD a none with
   |none=>exact ih
   |some z=>show z::_=z::_;rw[ih]
 have Zh:∀(l:List Nat),pJ l->pJ ((l.filterMap λj=>(o.getD j none).map (j,·)).map (·.1))/\∀x∈(l.filterMap λj=>(o.getD j none).map (j,·)).map (·.1),x∈l:=by
  intro l
  induction l with
  |nil=>intro _;exact⟨by simp,by simp⟩
  |cons a l ih=>
   intro hr;obtain⟨r1,r2⟩:=iF.mp hr;obtain⟨i1,i2⟩:=ih r2;rw[gy];cases q:o.getD a none with
   |none=>exact⟨i1,λx hx=>cP _ (i2 x hx)⟩
   |some z=>
    refine⟨iF.mpr ⟨λx hx=>r1 x (i2 x hx),i1⟩,λx hx=>?_⟩;rcases bN.mp (show x∈a::_ from hx)with y|y
    ·rw[y];exact bU ..
    ·exact cP _ (i2 x y)
 refine⟨{mask,place:=(((List.range (mask+1)).filterMap λj=>(o.getD j none).map (j,·)).map (·.1)).toArray,dummies:=#[],finger,led,moves,plain},
  (((List.range (mask+1)).filterMap λj=>(o.getD j none).map (j,·)).map (·.2)).toArray,?_,?_⟩
 ·unfold laid;rw[h2];rfl
 ·refine⟨rfl,rfl,rfl,rfl,?_,?_,?_⟩
  ·have:=O.perm.length_eq;rw[<- key,aO,E7]at this;show(((List.range (mask+1)).filterMap λj=>(o.getD j none).map (j,·)).map (·.1)).toArray.size=_
   rw[iM,aO];exact this
  ·exact(Zh _ (List.pairwise_lt_range)).1
  ·show((((List.range (mask+1)).filterMap λj=>(o.getD j none).map (j,·)).map (·.2)).toArray.toList).Perm _
   rw[key];exact O.perm
theorem yI:∀(f size n:Nat),(∃e,size=2^e)->(∃e,sizeAbove.go n f size=2^e)
 |0,size,n,h=>h
 |f+1,size,n,h=>by
  unfold sizeAbove.go
  split
  ·obtain⟨e,rfl⟩:=h;exact yI f _ n ⟨e+1,by rw[sA]⟩
  ·exact h
def Eo(n:Nat):∃e,sizeAbove n=2^e:=yI 64 8 n ⟨3,rfl⟩
theorem sG:∀(f size n:Nat),n<size*2^f->n<sizeAbove.go n f size
 |0,size,n,h=>by show n<size;simpa using h
 |f+1,size,n,h=>by
  unfold sizeAbove.go
  split
  ·exact sG f _ n (by rw[yw,<- Nat.pow_succ'];exact h)
  ·omega
theorem sH:∀(f size n:Nat),sizeAbove.go n f size<=max size (2*n)
 |0,size,n=>by show size<=_;omega
 |f+1,size,n=>by
  unfold sizeAbove.go
  split
  ·have:=sH f (size*2) n;omega
  ·omega
def yJ{n:Nat}(h:n<100000):n<sizeAbove n:=sG 64 8 n (jZ h (by decide))
def GU(n:Nat):sizeAbove n<=max 8 (2*n):=sH 64 8 n
theorem CO{xs:Array Nat}{j:Nat}:∀(f lo hi:Nat),lo<=hi->hi<=xs.size->hi-lo<=f->(∀i,i<lo->∃v,xs[i]? =some v/\v<j)->(∀i v,hi<=i->xs[i]? =some v->j<=v)->pJ xs.toList->
  ∃r,below.go xs j f lo hi=r/\r<=xs.size/\(∀i,i<r->∃v,xs[i]? =some v/\v<j)/\∀i v,r<=i->xs[i]? =some v->j<=v
 |0,lo,hi,h1,h2,h3,h4,h5,_=>⟨lo,rfl,by omega,h4,λi v hi'=>h5 i v (by omega)⟩
 |f+1,lo,hi,h1,h2,h3,h4,h5,hr=>by
  unfold below.go;by_cases c:lo<hi
  ·rw[ay c]
   dsimp only
   have hmid:(lo+hi)/2<xs.size:=by omega
   have eg:xs.getD ((lo+hi)/2) j=xs[(lo+hi)/2]:=by
    rw[yd,rA hmid];rfl
   rw[eg];have mono:∀a b va vb,a<b->xs[a]? =some va->xs[b]? =some vb->va<vb:=λa b va vb hab ha hb=>by
    rw[<- pH]at ha hb;obtain⟨la,ea⟩:=iu.mp ha;obtain⟨lb,eb⟩:=iu.mp hb;have:=GN.mp hr a b la lb hab
    rw[ea,eb]at this;exact this
   have em:xs[(lo+hi)/2]? =some xs[(lo+hi)/2]:=rA hmid;by_cases d:xs[(lo+hi)/2]< j
   ·rw[ay d];refine CO f _ hi (by omega) h2 (by omega) (λi hi'=>?_) h5 hr;rcases kR i lo with z|z
    ·exact h4 i z
    ·have hi2:i<xs.size:=by omega
     refine⟨xs[i],rA hi2,?_⟩;rcases kR i ((lo+hi)/2)with y|y
     ·have:=mono i _ _ _ y (rA hi2) em;omega
     ·have:i=(lo+hi)/2:=by omega
      subst this;exact d
   ·rw[aq d];refine CO f lo _ (by omega) (by omega) (by omega) h4 (λi v hi' hv=>?_) hr;rcases kR ((lo+hi)/2) i with y|y
    ·have:=mono _ i _ _ y em hv;omega
    ·have:i=(lo+hi)/2:=by omega
     subst this;rw[em]at hv;have:=fG hv
     omega
  ·rw[aq c];exact⟨lo,rfl,by omega,h4,λi v hi'=>h5 i v (by omega)⟩
def tu{xs:Array Nat}(hr:pJ xs.toList)(j:Nat):below xs j<=xs.size/\(∀i,i<below xs j->∃v,xs[i]? =some v/\v<j)/\∀i v,below xs j<=i->xs[i]? =some v->j<=v:=by
 obtain⟨r,e,a,b,c⟩:=CO (xs:=xs) (j:=j) xs.size 0 xs.size (fC _) (bw _) (by omega) (λi h=>by omega) (λi v h hv=>by
  rw[vS h]at hv;cases hv) hr
 have e:below xs j=r:=e;rw[e];exact⟨a,b,c⟩
def Jm{xs:Array Nat}(hr:pJ xs.toList){j:Nat}(hj:xs[below xs j]?≠some j):pJ (insertAt xs (below xs j) j).toList:=by
 obtain⟨a,b,c⟩:=tu hr j;rw[SetTable.toList_insertAt];have t:pJ (xs.toList.take (below xs j)):=hr.sublist (List.take_sublist _ _)
 have d:pJ (xs.toList.drop (below xs j)):=hr.sublist (List.drop_sublist _ _);refine BK.mpr ⟨t,iF.mpr ⟨λy hy=>?_,d⟩,λx hx y hy=>?_⟩
 ·obtain⟨i,hi⟩:=ye.mp hy;rw[List.getElem?_drop,pH]at hi;have:=c _ y (BR _ i) hi
  rcases kR j y with z|z
  ·exact z
  ·have ey:y=j:=by omega
   subst ey;exfalso;cases i with
   |zero=>exact hj hi
   |succ i=>
    have h0:below xs y<xs.size:=by
     rcases kR (below xs y+(i+1)) xs.size with q|q
     ·omega
     ·rw[vS q]at hi;cases hi
    have e0:xs[below xs y]? =some xs[below xs y]:=rA h0;have l0:=c _ _ (bw _) e0
    rw[<- pH]at e0 hi;obtain⟨la,ea⟩:=iu.mp e0;obtain⟨lb,eb⟩:=iu.mp hi;have:=GN.mp hr _ _ la lb (by omega)
    rw[ea,eb]at this;omega
 ·obtain⟨i,hi⟩:=ye.mp hx;rw[List.getElem?_take]at hi
  split at hi
  ·rename_i hlt;obtain⟨v,hv,Uz⟩:=b i hlt;rw[pH,hv]at hi;have:=fG hi
   subst this;rcases bN.mp hy with z|z
   ·rw[z];exact Uz
   ·obtain⟨k,hk⟩:=ye.mp z;rw[List.getElem?_drop,pH]at hk;have:=c _ y (BR _ k) hk
    omega
  ·cases hi
end ST
end
section
namespace ST
open PySem PySem.SetTable
structure Tab(t:SetTable)(n:Nat):Prop where
 pow:∃e,t.mask+1=2^e
 V_:t.dummies=#[]
 plain:t.plain=true
 size:t.place.size=n
 room:n*5<t.mask*3
 rise:pJ t.place.toList
theorem Tab.fill{t:SetTable}{n:Nat}(h:Tab t n):t.fill=n:=by unfold SetTable.fill;rw[h.size,h.V_];rfl
theorem Tab.fits{t:SetTable}{n:Nat}(h:Tab t n):t.fits n=true:=by
 unfold SetTable.fits;rw[h.fill,h.size];have:=h.room
 simp;omega
def NG(finger moves:Nat)(led:Bool):Tab (.fresh finger moves led) 0:=⟨⟨3,rfl⟩,rfl,rfl,rfl,(by show 0*5<7*3;decide),by simp[SetTable.fresh]⟩
def Mz(j:Nat):has #[] j=false:=by
 unfold has;have:below #[] j=0:=rfl
 rw[this];rfl
def qY{t:SetTable}{n:Nat}(h:Tab t n)(j:Nat):(t.slot j=.empty/\t.place[below t.place j]?≠some j)\/(∃i,t.slot j=.live i/\t.place[i]? =some j):=by
 unfold SetTable.slot;by_cases c:t.place[below t.place j]? =some j
 ·right
  refine⟨below t.place j,?_,c⟩;simp[c]
 ·left
  refine⟨?_,c⟩;simp[c,h.V_,Mz]
theorem xS{α:Type} [DecidableEq α]:∀{a b:List α},a.Nodup->(∀x∈a,x∈b)->a.length<=b.length
 | [],b,_,_=>fC _
 |x::a,b,hn,h=>by
  obtain⟨h1,h2⟩:=kQ.mp hn;have hx:=h x (bU ..)
  have:=xS (a:=a) (b:=b.erase x) h2 λy hy=>(List.mem_erase_of_ne (λe=>h1 (by rw[<- e];exact hy))).mpr (h y (cP _ hy))
  rw[List.length_erase_of_mem hx]at this;have:0<b.length:=J6 hx
  rw[cF];omega
def GV{t:SetTable}{n:Nat}(h:Tab t n):∃y,y<=t.mask/\t.slot y=.empty:=by
 by_cases c:∃y,y<=t.mask/\t.slot y=.empty
 ·exact c
 ·exfalso;have:=xS (a:=List.range (t.mask+1)) (b:=t.place.toList) List.nodup_range (λy hy=>by
   have hy:=vV.mp hy;rcases qY h y with⟨e,_⟩|⟨i,_,e⟩
   ·exact absurd ⟨y,by omega,e⟩ c
   ·rw[<- pH]at e;exact l_ e)
  rw[E7,jo,h.size]at this;have:=h.room
  omega
def Py(mask i:Nat):runEnd mask i-i<=9:=by unfold runEnd;split<;>omega
theorem FH{t:SetTable}{n:Nat}(T:Tab t n){hashAt:Nat->Int}{h:Int}(hh:∀i,(hashAt i==h)=false):∀(m f f':Nat) (p:Probe),p.dummy=none->p.more=m->m+1+f'<=f->
  (∀g,f'<=g->∃j,probe.go t hashAt h g {p with j:=(leap t.mask p.i p.perturb).1,more:=runEnd t.mask (leap t.mask p.i p.perturb).1-(leap t.mask p.i p.perturb).1,i:=(leap t.mask p.i p.perturb).1,perturb:=(leap t.mask p.i p.perturb).2}=some (.empty j none)/\t.slot j=.empty)->
  ∃j,probe.go t hashAt h f p=some (.empty j none)/\t.slot j=.empty
 |m,0,f',p,hd,hm,hf,k=>by omega
 |0,f+1,f',p,hd,hm,hf,k=>by
  unfold probe.go;rcases qY T p.j with⟨e,_⟩|⟨i,e,_⟩
  ·rw[e];exact⟨p.j,by rw[hd],e⟩
  ·rw[e];simp only[hh];have ea:t.advance p={p with j:=(leap t.mask p.i p.perturb).1,more:=runEnd t.mask (leap t.mask p.i p.perturb).1-(leap t.mask p.i p.perturb).1,i:=(leap t.mask p.i p.perturb).1,perturb:=(leap t.mask p.i p.perturb).2}:=by
    unfold SetTable.advance;rw[aq (by omega)]
   simp only[mh,jH];rw[ea];exact k f (by omega)
 |m+1,f+1,f',p,hd,hm,hf,k=>by
  unfold probe.go;rcases qY T p.j with⟨e,_⟩|⟨i,e,_⟩
  ·rw[e];exact⟨p.j,by rw[hd],e⟩
  ·rw[e];simp only[hh];have ea:t.advance p={p with j:=p.j+1,more:=p.more-1}:=by
    unfold SetTable.advance;rw[ay (by omega)]
   simp only[mh,jH];rw[ea];exact FH T hh m f f' {p with j:=p.j+1,more:=p.more-1} hd (by show p.more-1=m;omega) (by omega) k
theorem IG{t:SetTable}{n:Nat}(T:Tab t n){hashAt:Nat->Int}{h:Int}(hh:∀i,(hashAt i==h)=false){y:Nat}(hy:t.slot y=.empty):∀(k f:Nat) (p:Probe),p.dummy=none->p.j=p.i->p.more<=9->(yH t.mask k (p.i,p.perturb)).1=y->10*k+1<=f->
  ∃j,probe.go t hashAt h f p=some (.empty j none)/\t.slot j=.empty
 |0,0,p,hd,hj,hm,hk,hf=>by omega
 |0,f+1,p,hd,hj,hm,hk,hf=>by
  have:p.i=y:=hk;unfold probe.go;rw[hj,this,hy];exact⟨y,by rw[hd],hy⟩
 |k+1,f,p,hd,hj,hm,hk,hf=>by
  refine FH T hh p.more f (10*k+1) p hd rfl (by omega) λg hg=>?_
  exact IG T hh hy k g _ hd rfl (Py _ _) hk hg
def Jo{t:SetTable}{n:Nat}(T:Tab t n)(h:Int):∃j,t.freeSlot h=some (j,false)/\t.place[below t.place j]?≠some j:=by
 obtain⟨y,hy,he⟩:=GV T;obtain⟨e,hp⟩:=T.pow;obtain⟨k,hk,hx⟩:=FG hp h hy;obtain⟨j,h1,h2⟩:=IG T (hashAt:=λ_=>h+1) (h:=h) (λi=>by simp;omega) he k (10*turns t.mask) (t.probeStart h) rfl rfl (Py _ _) hx (by omega);refine⟨j,?_,?_⟩
 ·unfold SetTable.freeSlot SetTable.probe;rw[h1];rfl
 ·rcases qY T j with⟨_,q⟩|⟨i,q,_⟩
  ·exact q
  ·rw[h2]at q;cases q
def NH{t:SetTable}{es:Array (Int×Value)}(T:Tab t es.size)(h:Int)(x:Value):
  ∃es' t',layNew t es h x=(es',t',false,false)/\es'.toList.Perm (es.push (h,x)).toList/\es'.size=es.size+1/\t'.led=t.led/\t'.mask=t.mask/\t'.plain=true/\t'.dummies=#[]/\t'.place.size=es.size+1/\pJ t'.place.toList:=by
 obtain⟨j,h1,h2⟩:=Jo T h;have hp:=SetTable.insertAt_perm es (below t.place j) (h,x)
 have hs:(insertAt es (below t.place j) (h,x)).size=es.size+1:=by
  rw[<- jo,hp.length_eq,jo,Array.size_push]
 have hs2:(insertAt t.place (below t.place j) j).size=es.size+1:=by
  rw[<- jo,(SetTable.insertAt_perm t.place _ j).length_eq,jo,Array.size_push,T.size]
 have hd:(if has t.dummies j then eraseAt t.dummies (below t.dummies j)else t.dummies)=#[]:=by
  rw[T.V_,Mz];rfl
 refine⟨insertAt es (below t.place j) (h,x),{t with place:=insertAt t.place (below t.place j) j,dummies:=#[]},?_,hp,hs,rfl,rfl,T.plain,rfl,hs2,Jm T.rise h2⟩;unfold layNew;rw[h1];have Zi:t.put j=({t with place:=insertAt t.place (below t.place j) j,dummies:=#[]},below t.place j):=by
  unfold SetTable.put
  dsimp only
  rw[hd]
 have hf:SetTable.fits {t with place:=insertAt t.place (below t.place j) j,dummies:=#[]} (es.size+1)=true:=by
  unfold SetTable.fits SetTable.fill;have:=T.room
  simp[hs2];omega
 simp only[Zi,hs];unfold SetTable.orStandIn;rw[ay hf,hf];rfl
def II{wanted n:Nat}(hw:2*n<=wanted)(hw0:0<wanted)(hb:wanted<100000)(finger moves:Nat)(led:Bool)(hashes:Array Int)(hn:hashes.size=n):
  ∃t order,laid (sizeAbove wanted-1) finger moves led true hashes=some (t,order)/\Tab t n/\t.led=led/\order.toList.Perm (List.range n)/\t.mask=sizeAbove wanted-1:=by
 obtain⟨e,he⟩:=Eo wanted;have g:=yJ hb
 have hm:sizeAbove wanted-1+1=2^e:=by omega
 obtain⟨t,o,h1,h2,h3,h4,h5,h6,h7,h8⟩:=My hm finger moves led true hashes (by omega);rw[hn]at h6 h8;exact⟨t,o,h1,⟨⟨e,by rw[h2];exact hm⟩,h3,h5,h6,by rw[h2];omega,h7⟩,h4,h8,h2⟩
def Lc{es:Array (Int×Value)}{order:Array Nat}(h:order.toList.Perm (List.range es.size)):(order.filterMap (es[·]?)).toList.Perm es.toList:=by
 rw[Array.toList_filterMap];exact(h.filterMap _).trans (by rw[filterMap_getElem?_range])
def qZ{es:Array (Int×Value)}{order:Array Nat}(h:order.toList.Perm (List.range es.size)):(order.filterMap (es[·]?)).size=es.size:=by
 rw[<- jo,(Lc h).length_eq,jo]
def Jp{t:SetTable}{es:Array (Int×Value)}{n:Nat}(hn:es.size=n)(hp:t.plain=true)(h0:0<n)(hb:n<20000):∃es' t',relayAll t es (grown n)=(es',t',false)/\es'.toList.Perm es.toList/\es'.size=n/\Tab t' n/\t'.led=t.led:=by
 have hg:grown n=n*4:=by unfold SetTable.grown;rw[aq (by omega)]
 obtain⟨t',o,h1,h2,h3,h4,_⟩:=II (wanted:=n*4) (n:=n) (by omega) (by omega) (by omega) t.finger (t.movedTo (sizeAbove (n*4)-1)) t.led (es.map (·.1)) (by rw[Fp];exact hn);have Wa:o.toList.Perm (List.range es.size):=by rw[hn];exact h4
 refine⟨_,t',?_,Lc Wa,by rw[qZ Wa,hn],h2,h3⟩;unfold relayAll;have h5:t.relaid (es.map (·.1)) (grown n)=some (t',o):=by
  unfold SetTable.relaid;rw[hg,hp];exact h1
 rw[h5]
 dsimp only
 have c1:coversAll o es.size=true:=by unfold coversAll;exact List.isPerm_iff.mpr Wa
 have c2:t'.fits (o.filterMap (es[·]?)).size=true:=by rw[qZ Wa,hn];exact h2.fits
 rw[c1,c2];rfl
theorem MA{α:Type}:∀{l:List α} {i:Nat} (h:i<l.length),(l[i]::l.eraseIdx i).Perm l
 |a::l,0,_=>.refl _
 |a::l,i+1,h=>(List.Perm.swap a _ _).trans (List.Perm.cons a (MA (l:=l) (i:=i) (Nat.lt_of_succ_lt_succ h)))
theorem MB{α:Type}(next:Nat->Nat):∀(f k:Nat) (left:List α) (out:Array α),left.length<=f->(pickOrder.go next f k left out).toList.Perm (out.toList++left)
 |0,k,left,out,h=>by
  have:left=[]:=yc (by omega);subst this;show out.toList.Perm _
  rw[nP]
 |f+1,k,left,out,h=>by
  unfold pickOrder.go;cases e:left[next k%left.length]? with
  |none=>
   have:left=[]:=by
    rcases Ke left.length with z|z
    ·exact yc z
    ·rw[iw (yD _ z)]at e;cases e
   subst this;show out.toList.Perm _
   rw[nP]
  |some x=>
   obtain⟨hl,ex⟩:=iu.mp e;have hlen:(left.eraseIdx (next k%left.length)).length=left.length-1:=List.length_eraseIdx_of_lt hl
   refine(MB next f (k+1) _ (out.push x) (by rw[hlen];omega)).trans ?_;rw[Kl,Kh];refine List.Perm.append_left _ ?_;have:=MA hl
   rw[ex]at this;exact this
def FI{α:Type}(next:Nat->Nat)(xs:Array α):(pickOrder next xs).toList.Perm xs.toList:=by
 have:=MB next xs.size 0 xs.toList #[] (by rw[jo];exact bw _);exact this
end ST
end
section
namespace ST
open PySem PySem.SetTable PyProof.Rows
noncomputable def intOf:Value->Int
 | .int k _=>k
 |_=>0
def FJ(e:Int×Value):Prop:=∃k tk,e=(hashInt k,Value.int k tk)
noncomputable abbrev jI (es:Array (Int×Value)):List Int:=es.toList.map λe=>intOf e.2
structure bZ(h:Heap)(a:Addr)(xD:Bool)(es:Array (Int×Value))(ep:Nat)(t:SetTable):Prop where
 obj:h.get? a=some {cls:= .type "set",dict:=none,data:= .set es ep t,slots:=#[]}
 els:∀e∈es.toList,FJ e
 nd:(jI es).Nodup
 tab:Tab t es.size
 led:t.led= !xD
 small:es.size<4096
def bZ.keep{h h':Heap}{a:Addr}{xD:Bool}{es ep t}(x:bZ h a xD es ep t)(k:∀o,h.get? a=some o->h'.get? a=some o):bZ h' a xD es ep t:=⟨k _ x.obj,x.els,x.nd,x.tab,x.led,x.small⟩
section
variable{prog:Program}{w:World}{A:Around}{E:Value->Shared->Prop}{s:Shared}
def FL{k k':Int}{tk:Tok}:(intKind prog w).is k (.int k' tk)=true↔k'=k:=by
 show Value.isInt k (.int k' tk)=true↔_
 simp[Value.isInt]
def US{es:Array (Int×Value)}(h:∀e∈es.toList,FJ e):ElemsOf (intKind prog w) es.toList:=λe he=>by
 obtain⟨k,tk,rfl⟩:=h e he;exact⟨⟨k,FL.mpr rfl,rfl⟩,rfl⟩
def bZ.state{a:Addr}{xD:Bool}{es ep t}{Q:(Array (Int×Value)×Nat×SetTable)->Shared->Prop}(x:bZ s.heap a xD es ep t)(h:Q (es,ep,t) s):wpAny (model prog w) A (setState a) Q E s:=
 wpAny_setState_of x.obj rfl x.tab.fits h
def bZ.store{a:Addr}{xD:Bool}{es ep t}{es':Array (Int×Value)}{t':SetTable}{Q:Unit->Shared->Prop}(x:bZ s.heap a xD es ep t)(els:∀e∈es'.toList,FJ e)(nd:(jI es').Nodup)(tab:Tab t' es'.size)(led:t'.led= !xD)(small:es'.size<4096)
  (h:∀h',Heap.SameBut a s.heap h'->bZ h' a xD es' (ep+1) t'->Q () {s with heap:=h'}):wpAny (model prog w) A (storeSet a es' t') Q E s:=by
 refine wpAny_storeSet_of x.obj rfl (h _ (yo _ _ _) ⟨?_,els,nd,tab,led,small⟩) (fits_of_scanBound small);have:=Bg (Obj.putSet es' t') x.obj (by rw[putSet_of es' t' rfl];rfl)
 rw[putSet_of es' t' (ep:=ep) (es:=es) (t:=t) rfl]at this;exact this
def IJ{es es':Array (Int×Value)}{k:Int}{tk:Tok}(hp:es'.toList.Perm (es.push (hashInt k,.int k tk)).toList):(jI es').Perm (jI es++[k]):=by
 have:=hp.map λe:Int×Value=>intOf e.2
 rw[Kl,jO]at this;exact this
def Qw{es es':Array (Int×Value)}{k:Int}{tk:Tok}(els:∀e∈es.toList,FJ e)(hp:es'.toList.Perm (es.push (hashInt k,.int k tk)).toList):∀e∈es'.toList,FJ e:=λe he=>by
 have:=hp.mem_iff.mp he;rw[Kl]at this;rcases dg.mp this with z|z
 ·exact els e z
 ·rw[cY.mp z];exact⟨k,tk,rfl⟩
def MC{l:List Int}{k:Int}(h:l.Nodup)(hk:k∉l):(l++[k]).Nodup:=by
 rw[yq];exact⟨h,by simp,λa ha b hb=>by rw[cY.mp hb];exact λe=>hk (e▸ha)⟩
def Pz{a:Addr}{xD:Bool}{es ep t}{k:Int}{tk:Tok}{Q:Bool->Shared->Prop}(x:bZ s.heap a xD es ep t)(hb:es.size+1<4096)
  (h:∀h' r es' u9 t',Heap.SameBut a s.heap h'->bZ h' a xD es' u9 t'->((k∈jI es/\es'=es)\/(k∉jI es/\(jI es').Perm (jI es++[k])))->Q r {s with heap:=h'}):
  wpAny (model prog w) A (setAddHashed a (.int k tk) (hashInt k)) Q E s:=by
 have hel:=US (prog:=prog) (w:=w) x.els;have hkey:(intKind prog w).is k (.int k tk)=true:=FL.mpr rfl
 have hby:byScan (.int k tk) es=true:=byScan_of rfl (by show es.size<4096;omega) hel;unfold setAddHashed setAddHashedIn;refine su (aB (x.state ?_))
 dsimp only
 rw[hby];simp only[↓reduceIte];unfold setAddByScan;refine aB (aB (wpAny_rule ?_));refine aB (wpAny_setScan_of (knd:=intKind prog w) (k:=k) hkey x.obj rfl x.tab.fits hel ?_);cases hr:List.findIdx? (λe=>(intKind prog w).is k e.2) es.toList with
 |some j=>
  obtain⟨hj,hpj,_⟩:=J0.mp hr;have hm:k∈jI es:=by
   obtain⟨k',tk',e⟩:=x.els _ (List.getElem_mem hj);rw[e]at hpj;have:k'=k:=FL.mp hpj
   exact br.mpr ⟨_,List.getElem_mem hj,by rw[e,this];rfl⟩
  dsimp only
  exact aP (aP (h s.heap _ es ep t (Ff a s.heap) x (.inl ⟨hm,rfl⟩)))
 |none=>
  have hm:k∉jI es:=λhk=>by
   obtain⟨e,he,ek⟩:=br.mp hk;obtain⟨k',tk',rfl⟩:=x.els e he;have:k'=k:=ek
   subst this;have q:=J2.mp hr _ he
   rw[FL.mpr rfl]at q;cases q
  dsimp only
  obtain⟨es1,t1,hL,O2,hs1,hl1,hm1,hp1,hd1,hz1,hr1⟩:=NH x.tab (hashInt k) (.int k tk);have hL':layNew t es ((intKind prog w).hash k) (.int k tk)=(es1,t1,false,false):=hL
  have Wb:=Qw x.els O2;have nd1:(jI es1).Nodup:=(IJ O2).nodup_iff.mpr (MC x.nd hm)
  obtain⟨e2,Zj⟩:=x.tab.pow;have hf1:t1.fits es1.size=true:=by
   unfold SetTable.fits SetTable.fill;have:=x.tab.room
   rw[hz1,hd1,hs1,hm1];simp;omega
  have hL2:layNew t es (hashInt k) (.int k tk)=(es1,t1,false,false):=hL
  first|rw[hL']|rw[hL2]|(show wpAny _ _ _ _ _ _;rw[hL2])
  dsimp only
  refine aB (show wpAny _ _ (pure ()) _ _ _ from aP ?_);rw[hp1];simp only[↓reduceIte];refine aB (show wpAny _ _ (hashByValue 8 (.int k tk)) _ _ _ from ?_);rw[show hashByValue 8 (Value.int k tk)=pure true from by rw[hashByValue_scannable 8 rfl];rfl];refine aP ?_;simp only[↓reduceIte];refine aB (wpAny_storeSet_of x.obj rfl ?_ (fits_of_scanBound (by show es1.size<4096;omega)));have g1:(s.heap.update a (Obj.putSet es1 t1)).get? a=some {cls:= .type "set",dict:=none,data:= .set es1 (ep+1) t1,slots:=#[]}:=by
   have:=Bg (Obj.putSet es1 t1) x.obj (by rw[putSet_of es1 t1 rfl];rfl);rw[putSet_of es1 t1 (ep:=ep) (es:=es) (t:=t) rfl]at this;exact this
  have MD:=yo s.heap a (Obj.putSet es1 t1);have pk:=IJ O2
  by_cases c:t1.tooFull=true
  ·obtain⟨ME,t2,hR,hpR,hsR,hTR,hlR⟩:=Jp (t:=t1) (es:=es1) (n:=es1.size) rfl hp1 (by omega) (by omega);rw[c];simp only[Bool.not_false,rC,↓reduceIte];rw[hR]
   dsimp only
   refine aB (show wpAny _ _ (pure ()) _ _ _ from aP ?_);refine aB (wpAny_storeSet_of g1 rfl ?_ (fits_of_scanBound (by show ME.size<4096;omega)));have g2:((s.heap.update a (Obj.putSet es1 t1)).update a (Obj.putSet ME t2)).get? a=some {cls:= .type "set",dict:=none,data:= .set ME (ep+1+1) t2,slots:=#[]}:=by
    have:=Bg (Obj.putSet ME t2) g1 (by rw[putSet_of ME t2 rfl];rfl);rw[putSet_of ME t2 (ep:=ep+1) (es:=es1) (t:=t1) rfl]at this;exact this
   have pk2:(jI ME).Perm (jI es++[k]):=(hpR.map _).trans pk;refine aP (aP (h _ _ ME (ep+1+1) t2 (MD.trans (yo _ a _)) ⟨g2,λe he=>Wb e (hpR.mem_iff.mp he),pk2.nodup_iff.mpr (MC x.nd hm),by rw[hsR];exact hTR,by rw[hlR,hl1];exact x.led,by omega⟩ (.inr ⟨hm,pk2⟩)))
  ·rw[vG.mpr c];simp only[Fo,mh,↓reduceIte];have room:es1.size*5<t1.mask*3:=by
    unfold SetTable.tooFull at c;have:¬(t1.fill*5>=t1.mask*3):=λq=>c (by simpa using q)
    unfold SetTable.fill at this;rw[hz1,hd1]at this;rw[hs1];simpa using this
   exact aP (aP (h _ _ es1 (ep+1) t1 MD ⟨g1,Wb,nd1,⟨⟨e2,by rw[hm1];exact Zj⟩,hd1,hp1,by rw[hz1,hs1],room,hr1⟩,by rw[hl1];exact x.led,by omega⟩ (.inr ⟨hm,pk⟩)))
end
end ST
end
section
namespace ST
open PySem PySem.SetTable PyProof.Rows
section
variable{prog:Program}{w:World}{A:Around}{E:Value->Shared->Prop}{s:Shared}
def qm{es es':Array (Int×Value)}(h:es'.toList.Perm es.toList):(jI es').Perm (jI es):=h.map _
def Qx{a:Addr}{xD:Bool}{es ep t}{wanted:Nat}{Q:Unit->Shared->Prop}(x:bZ s.heap a xD es ep t)(hw:2*es.size<=wanted)(h0:0<wanted)(hb:wanted<100000)
  (h:∀h' es' t',Heap.SameBut a s.heap h'->bZ h' a xD es' (ep+1) t'->es'.toList.Perm es.toList->t'.mask=sizeAbove wanted-1->Q () {s with heap:=h'}):wpAny (model prog w) A (setRelay a wanted) Q E s:=by
 obtain⟨t',o,h1,h2,h3,h4,h5⟩:=II (wanted:=wanted) (n:=es.size) hw h0 hb t.finger (t.movedTo (sizeAbove wanted-1)) t.led (es.map (·.1)) (by rw[Fp]);have hr:t.relaid (es.map (·.1)) wanted=some (t',o):=by
  unfold SetTable.relaid;rw[x.tab.plain];exact h1
 have hz:¬sizeAbove wanted > sizeLine:=by
  have:=GU wanted;rw[sF];omega
 unfold setRelay;refine aB (x.state ?_)
 dsimp only
 rw[aq hz];rw[hr];have hs:=qZ (es:=es) h4
 have Yt:(do
   let es':=o.filterMap (es[·]?)
   if es'.size !=es.size then unsupported "internal:set-table-lost-an-element"
   pure (es',t'):Sem (Array (Int×Value)×SetTable))=pure (o.filterMap (es[·]?),t'):=by
  have c:((o.filterMap (es[·]?)).size !=es.size)=false:=by rw[hs];simp
  dsimp only
  rw[c];rfl
 refine aB (show wpAny _ _ (do
   let es':=o.filterMap (es[·]?)
   if es'.size !=es.size then unsupported "internal:set-table-lost-an-element"
   pure (es',t'):Sem (Array (Int×Value)×SetTable)) _ _ _ from ?_)
 rw[Yt];refine aP ?_
 dsimp only
 have pe:=Lc (es:=es) h4;exact x.store (λe he=>x.els e (pe.mem_iff.mp he)) ((qm pe).nodup_iff.mpr x.nd) (by rw[hs];exact h2) (by rw[h3];exact x.led) (by rw[hs];exact x.small) λh' sb y=>h h' _ t' sb y pe h5
def MF{a:Addr}{xD:Bool}{es ep t}{more:Nat}{Q:Unit->Shared->Prop}(x:bZ s.heap a xD es ep t)(hb:es.size+more<20000)
  (h:∀h' es' u9 t',Heap.SameBut a s.heap h'->bZ h' a xD es' u9 t'->es'.toList.Perm es.toList->(es.size+more)*5<t'.mask*3->Q () {s with heap:=h'}):wpAny (model prog w) A (setRoomFor a more) Q E s:=by
 unfold setRoomFor;refine aB (x.state ?_)
 dsimp only
 unfold SetTable.roomFor;rw[x.tab.fill,x.tab.size];have r:=x.tab.room
 by_cases c:(es.size+more)*5>=t.mask*3
 ·rw[ay c];have h0:0<es.size+more:=by omega
  refine Qx x (by omega) (by omega) (by omega) λh' es' t' sb y p hm=>h h' es' _ t' sb y p ?_
  have:=yJ (n:=(es.size+more)*2) (by omega);rw[hm];omega
 ·rw[aq c];exact aP (h s.heap es ep t (Ff a s.heap) x (.refl _) (by omega))
def yK{Q:Bool->Shared->Prop}(h:Q (w.params.followText "set-order") s):wpAny (model prog w) A setsByText Q E s:=aB (Fi (aP h))
def Sl{a:Addr}{es ep t}{Q:Array (Int×Value)->Shared->Prop}(x:bZ s.heap a (w.params.followText "set-order") es ep t)
  (h:∀es':Array (Int×Value),es'.toList.Perm es.toList->Q es' s):wpAny (model prog w) A (setWalk a) Q E s:=by
 unfold setWalk;refine aB (x.state ?_)
 dsimp only
 refine aB (yK ?_);cases c:w.params.followText "set-order" with
 |true=>
  simp only[↓reduceIte];exact aB (Fi (aP (h _ (FI _ es))))
 |false=>
  simp only[mh,↓reduceIte];have hl:t.led=true:=by have:=x.led;rw[c]at this;exact this
  have hd:(!t.plain&&decide (es.size > 1))=false:=by rw[x.tab.plain];rfl
  split
  ·rename_i q;exact absurd (hd.symm.trans q) gZ
  ·refine aB (show wpAny _ _ (if(!t.led&&decide (es.size > 1))=true then unsupported "set:maker-not-led" else pure ()) _ _ _ from ?_);rw[hl];exact aP (aP (h es (.refl _)))
def Sm{a:Addr}{es ep t}(x:bZ s.heap a (w.params.followText "set-order") es ep t):(w.params.followText "set-order" ||(t.led&&t.plain)||decide (es.size<=1))=true:=by
 rw[x.led,x.tab.plain];cases w.params.followText "set-order" <;>rfl
def Ep{a:Addr}{es ep t}{others:List Addr}{f:Option Addr}{Q:Array (Int×Value)->Shared->Prop}(x:bZ s.heap a (w.params.followText "set-order") es ep t)
  (h:∀es':Array (Int×Value),es'.toList.Perm es.toList->Q es' s):wpAny (model prog w) A (setWalkUnseen a others f) Q E s:=by
 unfold setWalkUnseen;refine aB (x.state ?_)
 dsimp only
 refine aB (yK ?_);rw[Sm x];exact Sl x h
structure Merged(h h':Heap)(a:Addr)(xD:Bool)(l:List Int):Prop where
 sb:Heap.SameBut a h h'
 set:∃es ep t,bZ h' a xD es ep t/\∀k,k∈jI es↔k∈l
def size_le{es:Array (Int×Value)}{U:List Int}(nd:(jI es).Nodup)(hU:∀k∈jI es,k∈U):es.size<=U.length:=by
 have:=xS nd hU;rw[aO,jo]at this;exact this
def Sn{a o:Addr}{eo MG to}{U:List Int}(hao:a≠o)(hU:U.length<=4000){f:(Int×Value)->PUnit->Sem (ForInStep PUnit)}{Q:PUnit->Shared->Prop}
  (hf:∀(k:Int) (tk:Tok) (P:Shared->Prop) (s:Shared),bZ s.heap o (w.params.followText "set-order") eo MG to->wpAny (model prog w) A (setAddHashed a (.int k tk) (hashInt k)) (λ_ s'=>bZ s'.heap o (w.params.followText "set-order") eo MG to/\P s') E s->
   wpAny (model prog w) A (f (hashInt k,.int k tk) ⟨⟩) (λr s'=>r=.yield ⟨⟩/\P s') E s)
  {es ep t} (x:bZ s.heap a (w.params.followText "set-order") es ep t) (y:bZ s.heap o (w.params.followText "set-order") eo MG to) {l:Array (Int×Value)} (hl:∀e∈l.toList,FJ e)
  (h1:∀k∈jI es,k∈U) (h2:∀k∈jI l,k∈U) (h:∀h',Merged s.heap h' a (w.params.followText "set-order") (jI es++jI l)->Q ⟨⟩ {s with heap:=h'}):
  wpAny (model prog w) A (forIn l ⟨⟩ f) Q E s:=by
 refine PySem.MeetsSeq2.wpAny_forIn_array f (λrest _ s'=>∃h',s'={s with heap:=h'}/\Heap.SameBut a s.heap h'/\(∀e∈rest,FJ e/\intOf e.2∈U)/\∃es' u9 t',bZ h' a (w.params.followText "set-order") es' u9 t'/\(∀k∈jI es',k∈U)/\
   ∀k,(k∈jI es'\/k∈rest.map λe=>intOf e.2)↔k∈jI es++jI l) Q ?_ ?_ l ⟨⟩ ?_
 ·rintro e rest b s' ⟨h',rfl,sb,hr,es',u9,t',x',u',m'⟩
  obtain⟨k,tk,rfl⟩:=(hr e (bU ..)).1;have y':bZ h' o (w.params.followText "set-order") eo MG to:=y.keep λob q=>by rw[sb.2 o hao.symm];exact q
  have hz:=size_le x'.nd u';refine mT (hf k tk (λs2=>∃h2,s2={s with heap:=h2}/\Heap.SameBut a s.heap h2/\(∀e∈rest,FJ e/\intOf e.2∈U)/\∃es' u9 t',bZ h2 a (w.params.followText "set-order") es' u9 t'/\(∀k∈jI es',k∈U)/\
   ∀k,(k∈jI es'\/k∈rest.map λe=>intOf e.2)↔k∈jI es++jI l) _ y' ?_) (λr s2 hq=>by obtain⟨rfl,hq⟩:=hq;exact hq) λ_ _ z=>z
  refine Pz x' (by omega) λh2 r ME ep2 t2 FN x2 c=>?_
  have ku:k∈U:=(hr _ (bU ..)).2;refine⟨y'.keep λob q=>by rw[FN.2 o hao.symm];exact q,h2,rfl,sb.trans FN,λe he=>hr e (cP _ he),ME,ep2,t2,x2,?_,λj=>?_⟩
  ·intro j hj;rcases c with⟨_,rfl⟩|⟨_,p⟩
   ·exact u' j hj
   ·rcases dg.mp (p.mem_iff.mp hj)with z|z
    ·exact u' j z
    ·rw[cY.mp z];exact ku
  ·rw[<- m' j,dG,bN];show _↔j∈jI es'\/j=k\/_
   rcases c with⟨hk,rfl⟩|⟨_,p⟩
   ·constructor
    ·rintro(z|z)
     ·exact .inl z
     ·exact .inr (.inr z)
    ·rintro(z|z|z)
     ·exact .inl z
     ·rw[z];exact .inl hk
     ·exact .inr z
   ·rw[p.mem_iff,dg,cY];constructor
    ·rintro((z|z)|z)
     ·exact .inl z
     ·exact .inr (.inl z)
     ·exact .inr (.inr z)
    ·rintro(z|z|z)
     ·exact .inl (.inl z)
     ·exact .inl (.inr z)
     ·exact .inr z
 ·rintro b s' ⟨h',rfl,sb,_,es',u9,t',x',_,m'⟩
  exact h h' ⟨sb,es',u9,t',x',λk=>by rw[<- m' k];simp⟩
 ·exact⟨s.heap,rfl,Ff a s.heap,λe he=>⟨hl e he,h2 _ (br.mpr ⟨e,he,rfl⟩)⟩,es,ep,t,x,h1,λk=>by rw[dg]⟩
def IK{a o:Addr}{es ep t eo MG to}{U:List Int}{each:Sem Unit}{Q:Unit->Shared->Prop}(hao:a≠o)(hU:U.length<=4000)(x:bZ s.heap a (w.params.followText "set-order") es ep t)(y:bZ s.heap o (w.params.followText "set-order") eo MG to)
  (he:∀(s:Shared) (P:Unit->Shared->Prop),bZ s.heap o (w.params.followText "set-order") eo MG to->P () s->wpAny (model prog w) A each P E s)
  (h1:∀k∈jI es,k∈U) (h2:∀k∈jI eo,k∈U) (h:∀h',Merged s.heap h' a (w.params.followText "set-order") (jI es++jI eo)->Q () {s with heap:=h'}):
  wpAny (model prog w) A (setMerge a o each) Q E s:=by
 have z1:=size_le x.nd h1;have z2:=size_le y.nd h2
 unfold setMerge;have c0:(a==o)=false:=by simpa using hao
 rw[c0];simp only[mh,↓reduceIte];refine aB (y.state ?_)
 dsimp only
 by_cases c1:eo.isEmpty=true
 ·rw[ay c1];have e0:jI eo=[]:=by
   have:eo=#[]:=by simpa using c1
   rw[this];rfl
  exact aP (h s.heap ⟨Ff a s.heap,es,ep,t,x,λk=>by rw[e0,nP]⟩)
 ·rw[aq c1];have n0:0<eo.size:=by
   rcases Ke eo.size with q|q
   ·exact absurd (by simpa using q) c1
   ·exact q
  refine aB (MF x (by omega) λh' es' u9 t' sb x' pe hm=>?_);have y':bZ h' o (w.params.followText "set-order") eo MG to:=y.keep λob q=>by rw[sb.2 o hao.symm];exact q
  refine aB (x'.state ?_)
  dsimp only
  unfold SetTable.road;rw[x'.tab.fill];have pk:=qm pe
  have aco:es'.size=es.size:=by rw[<- jo,pe.length_eq,jo]
  by_cases c2:es'.size=0
  ·have ek:jI es=[]:=by
    have:es=#[]:=by
     have:es.size=0:=by omega
     simpa using this
    rw[this];rfl
   rw[aq (by simp[c2])];by_cases c3:(t'.mask==to.mask&&to.dummies.isEmpty)=true
   ·rw[ay c3]
    dsimp only
    refine x'.store y.els y.nd ⟨y.tab.pow,y.tab.V_,by show(t'.plain&&to.plain)=true;rw[x'.tab.plain,y.tab.plain];rfl,y.tab.size,y.tab.room,y.tab.rise⟩ (by show(t'.led&&to.led)=_;rw[x'.led,y.led];cases w.params.followText "set-order" <;>rfl) y.small λh2 FN x2=>?_
    exact h h2 ⟨sb.trans FN,eo,_,_,x2,λk=>by rw[ek,List.nil_append]⟩
   ·rw[aq c3]
    dsimp only
    obtain⟨e,hp⟩:=x'.tab.pow;obtain⟨t2,od,q1,q2,q3,q4,q5,q6,q7,q8⟩:=My hp t'.finger t'.moves (t'.led&&to.led) (t'.plain&&to.plain) (eo.map (·.1)) (by rw[Fp];omega);rw[Fp]at q6 q8;have hs:=qZ (es:=eo) q8
    have Yu:=Lc (es:=eo) q8;have Yt:(do
      let es':=od.filterMap (eo[·]?)
      if es'.size !=eo.size then unsupported "internal:set-table-lost-an-element"
      pure (es',t2):Sem (Array (Int×Value)×SetTable))=pure (od.filterMap (eo[·]?),t2):=by
     have c:((od.filterMap (eo[·]?)).size !=eo.size)=false:=by rw[hs];simp
     dsimp only
     rw[c];rfl
    rw[q1];refine aB (show wpAny _ _ (do
      let es':=od.filterMap (eo[·]?)
      if es'.size !=eo.size then unsupported "internal:set-table-lost-an-element"
      pure (es',t2):Sem (Array (Int×Value)×SetTable)) _ _ _ from ?_)
    rw[Yt];refine aP ?_
    dsimp only
    refine x'.store (λe he=>y.els e (Yu.mem_iff.mp he)) ((qm Yu).nodup_iff.mpr y.nd) ⟨⟨e,by rw[q2];exact hp⟩,q3,by rw[q5,x'.tab.plain,y.tab.plain];rfl,by rw[q6,hs],by rw[hs,q2];omega,q7⟩ (by rw[q4,x'.led,y.led];cases w.params.followText "set-order" <;>rfl) (by rw[hs];exact y.small) λh2 FN x2=>?_
    exact h h2 ⟨sb.trans FN,_,_,_,x2,λk=>by rw[ek,List.nil_append];exact(qm Yu).mem_iff⟩
  ·rw[ay (by simp[c2])]
   dsimp only
   refine aB (Ep y' λl pl=>?_);have pkl:=qm pl
   refine aB (Sn (prog:=prog) (w:=w) (A:=A) (E:=E) (s:={s with heap:=h'}) (U:=U) (eo:=eo) (MG:=MG) (to:=to) (es:=es') hao hU ?_ x' y' (λe he=>y.els e (pl.mem_iff.mp he)) (λk hk=>h1 k (pk.mem_iff.mp hk)) (λk hk=>h2 k (pkl.mem_iff.mp hk)) λh2' M=>?_)
   ·intro k tk P s3 y3 hadd
    dsimp only
    refine aB (su (mT hadd (λr s4 h0=>?_) λ_ _ z=>z));obtain⟨y4,hP⟩:=h0;refine aB (he s4 _ y4 ?_);refine aB (y4.state ?_)
    dsimp only
    rw[aq (by simp)];exact aP ⟨rfl,hP⟩
   ·obtain⟨Yv,e3,p3,t3,x3,m3⟩:=M;exact aP (h h2' ⟨sb.trans Yv,e3,p3,t3,x3,λk=>by rw[m3 k,dg,dg,pk.mem_iff,pkl.mem_iff]⟩)
end
end ST
end
section
namespace ST
open PySem PySem.SetTable PyProof.Rows
noncomputable abbrev sZ (w:World):Obj:={cls:= .type "set",dict:=none,data:= .set #[] 0 (.fresh 0 0 (!w.params.followText "set-order"))}
def Kv{h:Heap}{w:World}{a:Addr}(e:h.get? a=some (sZ w)):bZ h a (w.params.followText "set-order") #[] 0 (.fresh 0 0 (!w.params.followText "set-order")):=
 ⟨e,λe he=>by simp at he,by simp[jI],NG _ _ _,rfl,by decide⟩
section
variable{prog:Program}{w:World}{A:Around}{E:Value->Shared->Prop}{s:Shared}
def Lw{Q:Value->Shared->Prop}(h:Q (.ref s.heap.objs.size) {s with heap:=s.heap.push (sZ w)}):wpAny (model prog w) A (newSet (.type "set")) Q E s:=by
 unfold newSet;refine aB (yK ?_);dsimp only;simp only[newObj];exact aB (wpAny_alloc (aP h))
def Qy(v:Value){Q₁:Value->Shared->Prop}(h:Q₁ (.ref s.heap.objs.size) {s with heap:=s.heap.push (sZ w)}):
  codeAny (model prog w) A (.call (.builtin "set.__new__") ⟨[.type "set",v],[]⟩) (wants Q₁ E) s:=by
 refine codeAny_of_tree (show wpAny _ A.in1 (do checkBuiltinCall "set.__new__" ⟨[.type "set",v],[]⟩;again (.builtin "set.__new__" ⟨[.type "set",v],[]⟩)) _ _ s from ?_);refine aB (wpAny_of_eq (F.newCall_set_1 v) (aP ⟨plainId_quiet F.plain_set_new _,Fv F.entry_set_new ?_⟩));rw[Km F.plain_set_new _];unfold Builtin.«set.__new__» Builtin.Frozenset.newClass;have hsub:=sub_set_self;obtain⟨hp,g,d,tk,os⟩:=s;dsimp only
 wp_walk
 refine Fi (aP ?_);dsimp only;simp only[newObj];refine aB (wpAny_alloc (aP (aP h)))
def Jq{a d:Addr}{o:Obj}{es:Array DictEntry}{ep:Nat}{ks U:List Int}{Q:Unit->Shared->Prop}(had:a≠d)(hU:U.length<=4000)(hsys:(d==sysModules)=false)(ho:s.heap.get? d=some o)(hc:o.ExactDict)(hdat:o.data=.dict es ep)
  (hk:∀(i:Nat) (e:DictEntry),es[i]? =some e->∃k tk,ks[i]? =some k/\e.key=.int k tk/\e.hash=hashInt k) (hz:es.size=ks.length) (hn:ks.Nodup) (hu:∀k∈ks,k∈U) {e0 p0 t0} (x:bZ s.heap a (w.params.followText "set-order") e0 p0 t0) (hx:e0=#[])
  (h:∀h',Merged s.heap h' a (w.params.followText "set-order") ks->Q () {s with heap:=h'}):wpAny (model prog w) A (Builtin.Frozenset.updateFrom "set.__init__" a (.ref d)) Q E s:=by
 have hT:s.TypeIs (.ref d) "dict":=⟨o,ho,hc.1⟩;have hlen:=xS hn hu
 subst hx;unfold Builtin.Frozenset.updateFrom Builtin.Frozenset.isAnySet orM;refine aB (aB (sf hT F.sub_dict_set (show wpAny _ _ (isInstance (.ref d) (.type "frozenset")) _ _ _ from sf hT F.sub_dict_frozenset ?_)));simp only[mh,jH];refine aB (wpAny_typeOf hT ?_);rw[ay (by decide)];refine aB (wpAny_rule (aB (show wpAny _ _ (pure d) _ _ _ from aP ?_)));rw[hsys];simp only[mh,jH];refine aB (BU ho hdat (aB (yi ho hdat (aB (MF x (by show 0+es.size<20000;omega) λh1 e1 p1 t1 MD x1 pe1 _=>?_)))));have ho1:h1.get? d=some o:=by rw[MD.2 d had.symm];exact ho
 have hk1:jI e1=[]:=by
  have:=(qm pe1).length_eq;exact yc (by rw[this];rfl)
 refine aB (yi ho1 hdat ?_);rw[Std.Legacy.Range.forIn_eq_forIn_range'];refine aB (wpAny_forIn_list (α:=Nat) _ (λrest _ s'=>∃(j:Nat) (h':Heap),s'={s with heap:=h'}/\rest=List.range' j (es.size-j) 1/\j<=es.size/\Heap.SameBut a s.heap h'/\∃e' p' t',bZ h' a (w.params.followText "set-order") e' p' t'/\∀k,k∈jI e'↔k∈ks.take j) _ ?_ ?_ _ PUnit.unit ?_)
 ·rintro i rest b s' ⟨j,h',rfl,hr,hj,sb,e',p',t',x',m'⟩
  have hj':j<es.size:=by
   rcases kR j es.size with q|q
   ·exact q
   ·rw[show es.size-j=0 by omega]at hr;cases hr
  rw[show es.size-j=(es.size-(j+1))+1 by omega,List.range'_succ]at hr;obtain⟨rfl,rfl⟩:=List.cons.inj hr;have ho':h'.get? d=some o:=by rw[sb.2 d had.symm];exact ho
  have ei:es[i]? =some es[i]:=rA hj';obtain⟨k,tk,k1,k2,k3⟩:=hk i _ ei;refine aB (yi ho' hdat ?_);rw[ei];dsimp only;rw[k2,k3];have hz':=size_le x'.nd (U:=U) λq hq=>hu q (BL ((m' q).mp hq))
  refine aB (su (Pz x' (by omega) λh2 r e2 p2 t2 FN x2 c=>?_));have ho2:h2.get? d=some o:=by rw[FN.2 d had.symm];exact ho'
  refine aB (BU ho2 hdat ?_);rw[aq (by simp)];refine aP ⟨i+1,h2,rfl,rfl,by omega,sb.trans FN,e2,p2,t2,x2,λq=>?_⟩;have tk1:ks.take (i+1)=ks.take i++[k]:=by rw[List.take_succ,k1];rfl
  rw[tk1,dg,cY,<- m' q];rcases c with⟨hk',rfl⟩|⟨_,p⟩
  ·exact⟨.inl,λz=>z.elim id λy=>by rw[y];exact hk'⟩
  ·rw[p.mem_iff,dg,cY]
 ·rintro b s' ⟨j,h',rfl,hr,hj,sb,e',p',t',x',m'⟩
  have hj':j=es.size:=by
   rcases kR j es.size with q|q
   ·rw[show es.size-j=(es.size-(j+1))+1 by omega,List.range'_succ]at hr;cases hr
   ·omega
  rw[hj',hz,i9]at m';exact aP (h h' ⟨sb,e',p',t',x',m'⟩)
 ·exact⟨0,h1,rfl,by simp[Std.Legacy.Range.size],fC _,MD,e1,p1,t1,x1,λq=>by rw[hk1];simp⟩
def Er{d:Addr}{o:Obj}{es:Array DictEntry}{ep:Nat}{ks U:List Int}{Q:Value->Shared->Prop}(hh:A.handled=none)(hU:U.length<=4000)(hsys:(d==sysModules)=false)(ho:s.heap.get? d=some o)(hc:o.ExactDict)(hdat:o.data=.dict es ep)
  (hk:∀(i:Nat) (e:DictEntry),es[i]? =some e->∃k tk,ks[i]? =some k/\e.key=.int k tk/\e.hash=hashInt k) (hz:es.size=ks.length) (hn:ks.Nodup) (hu:∀k∈ks,k∈U)
  (h:∀(h':Heap),(∃e' p' t',bZ h' s.heap.objs.size (w.params.followText "set-order") e' p' t'/\∀k,k∈jI e'↔k∈ks)->(∀b o,s.heap.get? b=some o->h'.get? b=some o)->Q (.ref s.heap.objs.size) {s with heap:=h'}):
  wpAny (model prog w) A (call (.type "set") [.ref d]) Q E s:=by
 obtain⟨c,tl,aeW⟩:=sD.mro;have hmade:=sD.made;have hsub:=sD.sub;refine wpAny_call (codeAny_of_tree (show wpAny _ _ (callAny (.type "set") _) _ _ _ from aP ⟨Code.quiet_builtin _ (by decide +kernel),Fv F.entry_type_call ?_⟩));rw[Around.under_plain (weight_type_call_type "set" [.ref d] []) rfl];have h1:=sD.notType;have h2:=sD.canCreate;have hct:=F.typeCall_set_1 (.ref d)
 repeat (any_goals (first|assumption|wp_step))
 refine yC (Qy (.ref d) (E:=E) (Q₁:=λobj s₁=>obj=.ref s.heap.objs.size/\s₁={s with heap:=s.heap.push (sZ w)}) ⟨rfl,rfl⟩) λr s₁ hr=>?_
 cases r with
 |error e=>exact hr
 |ok fl=>
  cases fl with
  |ret obj=>
   obtain⟨rfl,rfl⟩:=hr;have hS:(s.heap.push (sZ w)).get? s.heap.objs.size=some (sZ w):=fB _ rfl
   have hT:Shared.TypeIs {s with heap:=s.heap.push (sZ w)} (.ref s.heap.objs.size) "set":=⟨_,hS,rfl⟩;have hli:=sD.init.lookup;have hbi:=sD.init.bind (.ref s.heap.objs.size)
   repeat (any_goals (first|assumption|wp_step))
   refine yC (codeAny_call_builtin (R:=wants (λr s₂=>r=.none/\∃h',s₂={s with heap:=h'}/\Merged (s.heap.push (sZ w)) h' s.heap.objs.size (w.params.followText "set-order") ks) E) sD.init.plain F.entry_set_init (check_set_init_1 hT ?_)) λr₂ s₂ Yw=>?_
   ·have ho':(s.heap.push (sZ w)).get? d=some o:=eB _ ho;have hne:s.heap.objs.size≠d:=o7 (cC ho)
    have hU0:∀(P:Bool->Shared->Prop),P false {s with heap:=s.heap.push (sZ w)}->wpAny (model prog w) A.in1.in1.in1 (setUsed s.heap.objs.size) P E {s with heap:=s.heap.push (sZ w)}:=λP hP=>aB ((Kv hS).state (aP (show P ((SetTable.fresh 0 0 (!w.params.followText "set-order")).fill !=0) _ from hP)))
    unfold Builtin.«set.__init__» noKeywords;generalize hUF:Builtin.Frozenset.updateFrom=UF
    wp_walk
    subst hUF;refine Jq (w:=w) hne hU hsys ho' hc hdat hk hz hn hu (Kv hS) rfl λh' M=>aP ⟨rfl,h',rfl,M⟩
   ·cases r₂ with
    |error e=>exact Yw
    |ok fl₂=>
     cases fl₂ with
     |ret r=>
      obtain⟨rfl,h',rfl,M⟩:=Yw
      repeat (any_goals (first|assumption|wp_step))
      exact h h' M.set λb ob e=>by rw[M.sb.2 b (iG (cC e))];exact eB _ e
     |_=>exact Yw.elim
  |_=>exact hr.elim
end
end ST
end
section
namespace ST
open PySem PySem.SetTable PyProof.Rows
def UT:entryFor table "set.__or__" =some Builtin.«frozenset.__or__» :=entryFor_alias (id':="frozenset.__or__") (by kernel_rfl) rfl (by decide +kernel) (by kernel_rfl)
def Qz:entryFor table "set.__iter__" =some Builtin.«frozenset.__iter__» :=entryFor_alias (id':="frozenset.__iter__") (by kernel_rfl) rfl (by decide +kernel) (by kernel_rfl)
def tZ:Slot "set_iterator" "__next__" "set_iterator.__next__":= .of (owner:="set_iterator") (n:="__next__") (by rw[typeLookup_type,builtinLookup_eq_fast];kernel_rfl) (by decide +kernel) (by decide +kernel) (by decide +kernel) (by first|exact .inl (by decide +kernel)|exact .inr (by decide +kernel)) (by rw[isSubtype_type];kernel_rfl)
def MH:Slot "set_iterator" "__iter__" "set_iterator.__iter__":= .of (owner:="set_iterator") (n:="__iter__") (by rw[typeLookup_type,builtinLookup_eq_fast];kernel_rfl) (by decide +kernel) (by decide +kernel) (by decide +kernel) (by first|exact .inl (by decide +kernel)|exact .inr (by decide +kernel)) (by rw[isSubtype_type];kernel_rfl)
def IL:entryFor table "set_iterator.__next__" =some Builtin.«set_iterator.__next__» :=entryFor_of_fast (by kernel_rfl)
def QA:entryFor table "set_iterator.__iter__" =some Builtin.«dict_keyiterator.__iter__» :=entryFor_alias (id':="dict_keyiterator.__iter__") (by kernel_rfl) rfl (by decide +kernel) (by kernel_rfl)
def MI(a:Value):argsOk "set_iterator.__next__" ⟨[a],[]⟩:=by unfold argsOk;kernel_rfl
def So(a:Value):argsOk "set_iterator.__iter__" ⟨[a],[]⟩:=by unfold argsOk;kernel_rfl
end ST
end
section
namespace ST
open PySem PySem.SetTable PyProof.Rows
section
variable{prog:Program}{w:World}{A:Around}{E:Value->Shared->Prop}{s:Shared}
def bZ.ty{a:Addr}{b es ep t}(x:bZ s.heap a b es ep t):s.TypeIs (.ref a) "set":=⟨_,x.obj,rfl⟩
def Kw{a:Addr}{b es ep t}{Q:Bool->Shared->Prop}(x:bZ s.heap a b es ep t)(h:Q true s):wpAny (model prog w) A (Builtin.Frozenset.isAnySet (.ref a)) Q E s:=by
 unfold Builtin.Frozenset.isAnySet orM;exact aB (sf x.ty sub_set_self (aP h))
def Sq{a:Addr}{es ep t}{U:List Int}{Q:Value->Shared->Prop}(hU:U.length<=4000)(hu:∀k∈jI es,k∈U)(x:bZ s.heap a (w.params.followText "set-order") es ep t)
  (h:∀h',Merged (s.heap.push (sZ w)) h' s.heap.objs.size (w.params.followText "set-order") (jI es)->Q (.ref s.heap.objs.size) {s with heap:=h'}):wpAny (model prog w) A (Builtin.Frozenset.copyOf a) Q E s:=by
 unfold Builtin.Frozenset.copyOf Builtin.Frozenset.baseOf;refine aB (aB (sf x.ty sub_set_self (aP ?_)));simp only[mz];refine aB (Lw (aB (show wpAny _ _ (pure s.heap.objs.size) _ _ _ from aP ?_)));have hS:(s.heap.push (sZ w)).get? s.heap.objs.size=some (sZ w):=fB _ rfl
 have x':bZ (s.heap.push (sZ w)) a (w.params.followText "set-order") es ep t:=x.keep λo e=>eB _ e
 refine aB (IK (U:=U) (o7 (cC x.obj)) hU (Kv hS) x' (λ_ _ _ hp=>aP hp) (by simp[jI]) hu λh' M=>aP (h h' ?_));exact⟨M.sb,M.set⟩
def Xb{a b:Addr}{es ep t eb pb tb}{U:List Int}{Q:Value->Shared->Prop}(hab:a≠b)(hU:U.length<=4000)(x:bZ s.heap a (w.params.followText "set-order") es ep t)(y:bZ s.heap b (w.params.followText "set-order") eb pb tb)(h1:∀k∈jI es,k∈U)(h2:∀k∈jI eb,k∈U)
  (h:∀(h':Heap),(∃e' p' t',bZ h' s.heap.objs.size (w.params.followText "set-order") e' p' t'/\∀k,k∈jI e'↔k∈jI es++jI eb)->(∀b o,s.heap.get? b=some o->h'.get? b=some o)->Q (.ref s.heap.objs.size) {s with heap:=h'}):
  wpAny (model prog w) A (binaryOp .BitOr (.ref a) (.ref b)) Q E s:=by
 refine wpAny_binaryOp_same (op:= .BitOr) x.ty y.ty F.fills_set_or F.slot_set_or (pI F.slot_set_or x.ty UT ?_ (F.args_set_or_2 _ _));show wpAny _ _ (do
  let(self,other) <- Builtin.Frozenset.slot1 "__or__" ⟨[.ref a,.ref b],[]⟩
  let(l,r):=if false=true then(other,self)else(self,other)
  if !(<- Builtin.Frozenset.isAnySet l <&&> Builtin.Frozenset.isAnySet r)then rule s!"frozenset.{"__or__"}.declined";return <- ret .notImplemented
  ret (<-(do
   let result <- Builtin.Frozenset.copyOf (<- Builtin.Frozenset.addrOf l)
   if r !=.ref (<- Builtin.Frozenset.addrOf l)then holding [result] (Builtin.Frozenset.updateFrom s!"frozenset.{"__or__"}" (<- Builtin.Frozenset.addrOf result) r)
   return result))) _ _ _
 refine aB (show wpAny _ _ (pure (Value.ref a,Value.ref b)) _ _ _ from aP ?_);simp only[mh,jH];unfold andM;refine aB (aB (Kw x (Kw y ?_)));simp only[Bool.not_true,mh,jH];refine aB ?_;refine aB (show wpAny _ _ (pure a) _ _ _ from aP (aB (Sq hU h1 x λh' M=>?_)));obtain⟨sb,e',p',t',x',m'⟩:=M;have hne:s.heap.objs.size≠b:=o7 (cC y.obj)
 have kp:∀c o,s.heap.get? c=some o->h'.get? c=some o:=λc o e=>by rw[sb.2 c (iG (cC e))];exact eB _ e
 have y':bZ h' b (w.params.followText "set-order") eb pb tb:=y.keep (kp b);refine aB (show wpAny _ _ (pure a) _ _ _ from aP ?_);rw[ay (by simp[hab.symm])];refine aB (show wpAny _ _ (pure s.heap.objs.size) _ _ _ from aP (aB (su ?_)));unfold Builtin.Frozenset.updateFrom;refine aB (Kw y' ?_);simp only[mz];refine aB (show wpAny _ _ (pure b) _ _ _ from aP ?_);unfold Builtin.Frozenset.merge;refine aB (show wpAny _ _ (setEpoch b) _ _ _ from aB (y'.state (aP ?_)))
 dsimp only
 refine IK (U:=U) hne hU x' y' (λs2 P y2 hp=>?_) (λk hk=>h1 k ((m' k).mp hk)) h2 λh2' M2=>?_
 ·unfold Builtin.Frozenset.unchanged;refine aB (show wpAny _ _ (setEpoch b) _ _ _ from aB (y2.state (aP ?_)))
  dsimp only
  rw[aq (by simp)];exact aP hp
 ·obtain⟨FN,e2,p2,t2,x2,m2⟩:=M2;refine aP (aP ⟨_,rfl,(λq=>(by cases q)),h h2' ⟨e2,p2,t2,x2,λk=>by rw[m2 k,dg,dg,m' k]⟩ λc o e=>?_⟩);rw[FN.2 c (iG (cC e))];exact kp c o e
def Wc(h:Heap)(I a:Addr)(slot given n ep:Nat):Prop:=h.get? I=some {cls:= .type "set_iterator",data:= .fields #[.int slot 0,.int given 0,.ref a,.int n 0,.int ep 0]}
def Ei(w:World)(a:Addr)(es:Array (Int×Value))(ep:Nat)(ord:List Value):Prop:=
 ord=((if w.params.followText "set-order" then pickOrder (w.params.setOrder a ep) es else es).toList.map (·.2))
def Ei.perm{w:World}{a:Addr}{es:Array (Int×Value)}{ep:Nat}{ord:List Value}(h:Ei w a es ep ord):ord.Perm (es.toList.map (·.2)):=by
 rw[h]
 split
 ·exact(FI _ es).map _
 ·exact .refl _
structure Zk(w:World)(h:Heap)(I a:Addr)(es:Array (Int×Value))(ep:Nat)(t:SetTable)(i:Nat):Prop where
 set:bZ h a (w.params.followText "set-order") es ep t
 it:∃slot,Wc h I a slot i es.size ep/\below t.place slot=i
def Lx{xs:Array Nat}(hr:pJ xs.toList):below xs 0=0:=by
 obtain⟨a,b,c⟩:=tu hr 0;rcases Ke (below xs 0)with z|z
 ·exact z
 ·obtain⟨v,_,hv⟩:=b 0 z;omega
def Ly{xs:Array Nat}(hr:pJ xs.toList){i j:Nat}(h:xs[i]? =some j):below xs (j+1)=i+1:=by
 obtain⟨a,b,c⟩:=tu hr (j+1);have hi:i<xs.size:=by
  rcases kR i xs.size with q|q
  ·exact q
  ·rw[vS q]at h;cases h
 have mono:∀a b va vb,a<b->xs[a]? =some va->xs[b]? =some vb->va<vb:=λa b va vb hab ha hb=>by
  rw[<- pH]at ha hb;obtain⟨la,ea⟩:=iu.mp ha;obtain⟨lb,eb⟩:=iu.mp hb;have:=GN.mp hr a b la lb hab
  rw[ea,eb]at this;exact this
 rcases Kg (below xs (j+1)) (i+1)with z|z|z
 ·exfalso;have:=c i j (by omega) h
  omega
 ·exact z
 ·exfalso;obtain⟨v,hv,hl⟩:=b (i+1) z;have:=mono i (i+1) j v (by omega) h hv
  omega
def Ss{a:Addr}{es ep t}{Q:Value->Shared->Prop}(x:bZ s.heap a (w.params.followText "set-order") es ep t)
  (h:∀h',(∀b o,s.heap.get? b=some o->h'.get? b=some o)->h'.objs.size=s.heap.objs.size+1->Zk w h' s.heap.objs.size a es ep t 0->Q (.ref s.heap.objs.size) {s with heap:=h'}):wpAny (model prog w) A (pyIter (.ref a)) Q E s:=by
 refine Fb x.ty F.slot_set_iter (pI F.slot_set_iter x.ty Qz ?_ (F.args_set_iter_1 _));unfold Builtin.«frozenset.__iter__»;refine aB (show wpAny _ _ (pure a) _ _ _ from aP (aB (show wpAny _ _ (Builtin.Frozenset.sizeOf a) _ _ _ from aB (show wpAny _ _ (setEntries a) _ _ _ from aB (x.state (aP (aP ?_)))))));refine aB (show wpAny _ _ (setDrawn a) _ _ _ from ?_);unfold setDrawn;refine aB (x.state (aB (yK (aP ?_))))
 dsimp only
 have hd:(!t.plain&&decide (es.size > 1))=false:=by rw[x.tab.plain];rfl
 split
 ·rename_i q;exact absurd (show(!w.params.followText "set-order" && (!t.plain&&decide (es.size > 1)))=true from q) (by rw[hd,Fo];exact gZ)
 ·refine aB (aP (aB (show wpAny _ _ (setEpoch a) _ _ _ from aB (x.state (aP ?_)))))
  dsimp only
  refine aB (yh (aP ⟨_,rfl,"set_iterator",_,⟨_,fB _ rfl,rfl⟩,tZ.lookup,?_⟩));refine h _ (λb o e=>eB _ e) (size_push' _ _) ⟨x.keep λo e=>eB _ e,0,?_,Lx x.tab.rise⟩;exact fB _ rfl
end
end ST
end
section
namespace ST
open PySem PySem.SetTable PyProof.Rows
section
variable{prog:Program}{w:World}{A:Around}{E:Value->Shared->Prop}{s:Shared}
def De{I a:Addr}{es ep t}{i slot:Nat}{ord:List Value}{Q:Option (Value×Nat)->Shared->Prop}(x:bZ s.heap a (w.params.followText "set-order") es ep t)(hb:w.params.followText "set-order" =true\/below t.place slot=i)(ho:Ei w a es ep ord)
  (h1:∀v next,ord[i]? =some v->(w.params.followText "set-order" =true\/below t.place next=i+1)->Q (some (v,next)) s) (h2:ord[i]? =none->Q none s):
  wpAny (model prog w) A (setNext a slot i ep) Q E s:=by
 unfold setNext;refine aB (x.state ?_)
 dsimp only
 refine aB (yK ?_);unfold Ei at ho;cases c:w.params.followText "set-order" with
 |true=>
  rw[c]at ho;simp only[mz]at ho⊢;rw[aq (by simp)];have hw:∀{P:Array (Int×Value)->Shared->Prop},P (pickOrder (w.params.setOrder a ep) es) s->wpAny (model prog w) A (setWalk a) P E s:=λhP=>by
   unfold setWalk;refine aB (x.state ?_)
   dsimp only
   refine aB (yK ?_);rw[c];simp only[mz];exact aB (Fi (aP hP))
  refine aB (hw (aP ?_));rw[ho]at h1 h2;cases e:(pickOrder (w.params.setOrder a ep) es)[i]? with
  |none=>exact h2 (by rw[fj,pH,e];rfl)
  |some p=>exact h1 p.2 slot (by rw[fj,pH,e];rfl) (.inl c)
 |false=>
  rw[c]at ho;simp only[mh,jH]at ho⊢;have hd:(!t.plain&&decide (es.size > 1))=false:=by rw[x.tab.plain];rfl
  have hl:t.led=true:=by have:=x.led;rw[c]at this;exact this
  split
  ·rename_i q;exact absurd (hd.symm.trans q) gZ
  ·refine aB (show wpAny _ _ (if(!t.led && !es.isEmpty)=true then unsupported "set:maker-not-led" else pure ()) _ _ _ from ?_);rw[hl];refine aP (aP ?_);rw[hb.resolve_left (by rw[c];exact gZ)];rw[ho]at h1 h2;cases e:es[i]? with
   |none=>exact h2 (by rw[fj,pH,e];rfl)
   |some p=>
    have hi:i<es.size:=by
     rcases kR i es.size with q|q
     ·exact q
     ·rw[vS q]at e;cases e
    have hi2:i<t.place.size:=by rw[x.tab.size];exact hi
    have e2:t.place[i]? =some t.place[i]:=rA hi2;rw[e2];exact h1 p.2 _ (by rw[fj,pH,e];rfl) (.inr (Ly x.tab.rise e2))
structure O3(w:World)(h:Heap)(I a:Addr)(es:Array (Int×Value))(ep:Nat)(t:SetTable)(i:Nat):Prop where
 set:bZ h a (w.params.followText "set-order") es ep t
 it:∃slot,Wc h I a slot i es.size ep/\(w.params.followText "set-order" =true\/below t.place slot=i)
 ne:I≠a
def O3.ty{I a:Addr}{es ep t}{i:Nat}(x:O3 w s.heap I a es ep t i):s.TypeIs (.ref I) "set_iterator":=by
 obtain⟨slot,e,_⟩:=x.it;exact⟨_,e,rfl⟩
def walks{I a:Addr}{es ep t}{ord:List Value}(hh:A.handled=none)(ho:Ei w a es ep ord)(hIa:I≠a):
  Walks prog w A I [I,a] [I] ord.length (λi v=>ord[i]? =some v) (λi h=>O3 w h I a es ep t i) where
 sub:=λb hb=>by simp at hb;simp[hb]
 frame:=λi h h' st k=>by
  obtain⟨x,⟨slot,e,z⟩,n⟩:=st;exact⟨x.keep λo q=>k a (by simp) o q,⟨slot,k I (by simp) _ e,z⟩,n⟩
 item:=λi s Q E hi st hQ=>by
  obtain⟨x,⟨slot,e,z⟩,n⟩:=id st;unfold pyNext;refine aB (yz (Eg (name:=Str.ofString "__next__") st.ty tZ (pI tZ st.ty IL ?_ (MI _))));unfold Builtin.«set_iterator.__next__»;refine aB (show wpAny _ _ (pure (Value.ref I,[])) _ _ _ from aP ?_)
  dsimp only
  refine aB (Fx e rfl ?_)
  dsimp only
  refine aB (show wpAny _ _ (setEntries a) _ _ _ from aB (x.state (aP ?_)))
  dsimp only
  rw[aq (by simp)];rw[dO,dO,dO];refine aB (De (I:=I) x z ho (λv next hv hn=>?_) (λhv=>?_))
  ·dsimp only
   refine aB (yf e (by simp) λh1 e1 MD=>?_);refine aB (yf e1 (by simp) λh2 e2 FN=>?_);refine aP ⟨v,rfl,aP ?_⟩;have ea:∀o,s.heap.get? a=some o->h2.get? a=some o:=λo q=>by rw[FN.2 a n.symm,MD.2 a n.symm];exact q
   exact hQ v h2 s.toks hv ⟨x.keep ea,⟨next,e2,hn⟩,n⟩ λb o hb q=>by rw[FN.2 b (by simpa using hb),MD.2 b (by simpa using hb)];exact q
  ·rw[iw hi]at hv;cases hv
 done:=λs Q E st hQ=>by
  obtain⟨x,⟨slot,e,z⟩,n⟩:=id st;unfold pyNext;refine aB (yz (Eg (name:=Str.ofString "__next__") st.ty tZ (pI tZ st.ty IL ?_ (MI _))));unfold Builtin.«set_iterator.__next__»;refine aB (show wpAny _ _ (pure (Value.ref I,[])) _ _ _ from aP ?_)
  dsimp only
  refine aB (Fx e rfl ?_)
  dsimp only
  refine aB (show wpAny _ _ (setEntries a) _ _ _ from aB (x.state (aP ?_)))
  dsimp only
  rw[aq (by simp),dO,dO,dO];refine aB (De (I:=I) x z ho (λv next hv hn=>?_) (λhv=>?_))
  ·rw[qh (bw _)]at hv;cases hv
  ·dsimp only
   refine aB (yf e (by simp) λh1 e1 MD=>aB ?_);simp only[newExc,newTuple];refine aB (yh (aB (m:=firstArgMember _ _) (wpAny_of_eq (a:=Value.none) (by first|rfl|(simp only[firstArgMember];rfl)) (yh ?_ (by size_fits)))) (by size_fits));simp only[raiseNew];refine aB (wpAny_handled ?_);rw[show A.in1.handled=none from hh];refine aB (aP (wpAny_throw ?_));refine aB (sf (b:=true) (T:="StopIteration") ⟨_,fB _ rfl,rfl⟩ isSubtype_stop ?_);exact aP (hQ _ s.toks λb o hb q=>eB _ (eB _ (by rw[MD.2 b (by simpa using hb)];exact q)))
 self:=λi s Q E st hQ=>by
  refine Fb st.ty MH (pI MH st.ty QA ?_ (So _));exact aP ⟨_,rfl,"set_iterator",_,st.ty,tZ.lookup,hQ⟩
def Lz{a:Addr}{es ep t}{Q:List Value->Shared->Prop}(hh:A.handled=none)(x:bZ s.heap a (w.params.followText "set-order") es ep t)
  (h:∀(vs:List Value) (h':Heap) (tk:Nat),vs.Perm (es.toList.map (·.2))->(∀b o,s.heap.get? b=some o->h'.get? b=some o)->Q vs {s with heap:=h',toks:=tk}):wpAny (model prog w) A (collect (.ref a)) Q E s:=by
 unfold collect;refine aB (wpAny_runValue (Fv F.entry_proto_collect ?_));rw[Km F.plain_proto_collect _];refine(show wpAny _ A.in1 (newList [] >>= λl=>again (.builtin "list.__iadd__" ⟨[l,.ref a],[]⟩)) _ _ s from aB (yh (aP ⟨plainId_quiet F.plain_list_iadd _,Fv F.entry_list_iadd ?_⟩)));rw[Km F.plain_list_iadd _];have lS:(s.heap.push {cls:= .type "list",data:= .seq ([]:List Value).toArray}).get? s.heap.objs.size=some {cls:= .type "list",data:= .seq ([]:List Value).toArray}:=fB _ rfl
 have x1:bZ (s.heap.push {cls:= .type "list",data:= .seq ([]:List Value).toArray}) a (w.params.followText "set-order") es ep t:=x.keep λo e=>eB _ e
 have ha:s.heap.objs.size≠a:=o7 (cC x.obj);show wpAny _ A.in1 (Builtin.List.listExtendWith (.ref s.heap.objs.size) (.ref a) (.ref s.heap.objs.size)) _ _ _
 unfold Builtin.List.listExtendWith;refine aB (wpAny_typeOf x1.ty ?_);have c1:(Builtin.List.listSameRef (.ref s.heap.objs.size) (.ref a)||Value.type "set" ==Value.type "list" ||Value.type "set" ==Value.type "tuple")=false:=by simp[Builtin.List.listSameRef,ha]
 rw[c1];simp only[mh,jH];refine aB (Ss x1 λh2 k2 z2 it=>?_);have x2:bZ h2 a (w.params.followText "set-order") es ep t:=it.set
 have hl:∀{E:Value->Shared->Prop} {P:Bool->Shared->Prop},P false {s with heap:=h2}->wpAny (model prog w) A.in1 (Builtin.List.listLengthHint (.ref a)) P E {s with heap:=h2}:=λhP=>by
  unfold Builtin.List.listLengthHint;refine aB (wpAny_specialOf (s:={s with heap:=h2}) x2.ty F.slot_set_len.lookup ?_);have sp:splitId "set.__len__" =some ("set","__len__"):=by decide +kernel
  dsimp only
  rw[sp]
  dsimp only
  refine aB (sf (s:={s with heap:=h2}) x2.ty sub_set_self ?_);rw[aq (show¬((!true)=true)from gZ)];rw[ay]
  ·exact aB (wpAny_typeOf (s:={s with heap:=h2}) x2.ty (aP hP))
  ·decide +kernel
 refine aB (su (hl ?_));rw[ay (by decide +kernel)];have lS2:=k2 _ _ lS
 refine aB (wpAny_rule (aB ?_));show wpAny _ A.in1 (updateSeq s.heap.objs.size (·.push .none) >>= λ_=>updateSeq s.heap.objs.size (·.pop)) _ _ {s with heap:=h2}
 refine aB (wpAny_updateSeq lS2 rfl ?_);have lS3:=Bg (Obj.mapSeq (·.push Value.none)) lS2 rfl
 refine wpAny_updateSeq lS3 rfl ?_;have lS4:((h2.update s.heap.objs.size (Obj.mapSeq (·.push Value.none))).update s.heap.objs.size (Obj.mapSeq (·.pop))).get? s.heap.objs.size=some {cls:= .type "list",dict:=none,data:= .seq #[] 2,slots:=#[]}:=Bg (Obj.mapSeq (·.pop)) lS3 rfl
 have Yx:∀b o,b≠s.heap.objs.size->h2.get? b=some o->((h2.update s.heap.objs.size (Obj.mapSeq (·.push Value.none))).update s.heap.objs.size (Obj.mapSeq (·.pop))).get? b=some o:=λb o hb e=>(BI _ _ (mC hb)).trans ((BI _ _ (mC hb)).trans e)
 have zs:(s.heap.push {cls:= .type "list",data:= .seq ([]:List Value).toArray}).objs.size=s.heap.objs.size+1:=size_push' _ _;obtain⟨slot,e2,z⟩:=it.it;have nI:s.heap.objs.size+1≠a:=o7 (yp (cC x.obj))
 have nS:s.heap.objs.size+1≠s.heap.objs.size:=Nat.succ_ne_self _;obtain⟨ord,ho⟩:∃ord,Ei w a es ep ord:=⟨_,rfl⟩;have hord:ord.length=es.size:=by rw[ho.perm.length_eq,aO,jo]
 have W:=(walks (prog:=prog) (w:=w) (A:=A.in1) (I:=s.heap.objs.size+1) (t:=t) (by simpa using hh) ho nI).toS;rw[zs]at e2;refine aP ⟨plainId_quiet F.plain_extend_loop _,?_⟩;rw[zs];refine codeAny_extend_loopS W (by have:=x.small;rw[hord,sF];omega) s.heap.objs.size (by simp[ha]) _ ord.length 0 _ #[] 2 rfl (fC _) ?_ ?_ (ItemsOf.nil _) λs' acc' c' hm hS' hacc=>?_
 rotate_left
 ·exact lS4
 rotate_left
 ·exact⟨x2.keep λo q=>Yx a o ha.symm q,⟨slot,Yx _ _ nS e2,.inr z⟩,nI⟩
 ·obtain⟨h',g',d',tk',os'⟩:=s';have eg:g'=s.gens:=hm.gens
  have ed:d'=s.drawn:=hm.drawn;have eo:os'=s.os:=hm.os
  subst eg ed eo;refine(show wpAny _ A (load s.heap.objs.size >>= _) _ _ _ from aB (wpAny_load hS' (aP (h acc'.toList h' tk' ?_ (λb o e=>?_)))))
  ·have:acc'.toList=ord:=by
    apply List.ext_getElem?;intro j;rw[pH];rcases kR j acc'.size with q|q
    ·have:=hacc.2 j acc'[j] (rA q);rw[rA q,this]
    ·rw[vS q,qh (by rw[<- hacc.1];exact q)]
   rw[this];exact ho.perm
  ·have hb1:b≠s.heap.objs.size:=iG (cC e);have hb2:b≠s.heap.objs.size+1:=iG (yp (cC e))
   exact hm.heap b o (by simp[hb1,hb2]) (Yx b o hb1 (k2 b o (eB _ e)))
end
end ST
end
section
namespace L2
open PySem PySem.Spec PyProof.Rows
abbrev Key:=Sum Int Str
noncomputable def vX:Key->Value->Bool
 | .inl k,v=>Value.isInt k v
 | .inr x,v=>Value.isStrOf x v
noncomputable def Zl (w:World):Key->Int
 | .inl k=>hashInt k
 | .inr x=>hashStr w x
theorem fY:∀{k:Key} {v:Value},vX k v=true->(∃i t,k=Sum.inl i/\v=Value.int i t)\/(∃x t,k=Sum.inr x/\v=Value.str x t)
 | .inl i,v,h=>by
  obtain⟨t,e⟩:=Value.isInt_shape (k:=i) (v:=v) h;exact .inl ⟨i,t,rfl,e⟩
 | .inr x,v,h=>by
  obtain⟨t,e⟩:=Value.isStrOf_shape (x:=x) (v:=v) h;exact .inr ⟨x,t,rfl,e⟩
def NI(i:Int)(t:Tok):vX (.inl i) (.int i t)=true:=by simp[vX,Value.isInt]
def NJ(x:Str)(t:Tok):vX (.inr x) (.str x t)=true:=by simp[vX,Value.isStrOf]
def UU(a b:Int):decide ((Sum.inl a:Key)=Sum.inl b)=(a==b):=by
 by_cases e:a=b
 ·subst e;simp
 ·have h:¬(Sum.inl a:Key)=Sum.inl b:=λq=>e (qA q)
  rw[i_ h];exact(yl.mpr e).symm
def UW(a b:Str):decide ((Sum.inr a:Key)=Sum.inr b)=decide (a=b):=by
 by_cases e:a=b
 ·subst e;simp
 ·have h:¬(Sum.inr a:Key)=Sum.inr b:=λq=>e (Sum.inr.inj q)
  rw[i_ h,i_ e]
def UX(a:Int)(b:Str):decide ((Sum.inl a:Key)=Sum.inr b)=false:=i_ (λq=>nomatch q)
theorem UY(a:Str)(b:Int):decide ((Sum.inr a:Key)=Sum.inl b)=false:=i_ (λq=>nomatch q)
noncomputable def e_ (prog:Program) (w:World):PySem.KeyKind prog w Key where
 is:=vX
 hash:=Zl w
 inj:=λv a b ha hb=>by
  rcases fY ha with⟨i,t,rfl,rfl⟩|⟨x,t,rfl,rfl⟩
  ·rcases fY hb with⟨j,u,rfl,e⟩|⟨y,u,rfl,e⟩
   ·injection e with e1 _;rw[e1]
   ·exact nomatch e
  ·rcases fY hb with⟨j,u,rfl,e⟩|⟨y,u,rfl,e⟩
   ·exact nomatch e
   ·injection e with e1 _;rw[e1]
 byValue:=λk v h=>by
  rcases fY h with⟨i,t,rfl,rfl⟩|⟨x,t,rfl,rfl⟩<;>rfl
 pyHash:=λhv h=>by
  rcases fY hv with⟨i,t,rfl,rfl⟩|⟨x,t,rfl,rfl⟩
  ·exact wpAny_pyHash_int h
  ·exact wpAny_pyHash_str h
 eqBool:=λhu hv h=>by
  rcases fY hu with⟨i,t,rfl,rfl⟩|⟨x,t,rfl,rfl⟩
  ·rcases fY hv with⟨j,u,rfl,rfl⟩|⟨y,u,rfl,rfl⟩
   ·rw[UU]at h;exact wpAny_eqBool_int h
   ·rw[UX]at h;exact SeqAt.EqAt.int_str i t y u _ _ _ _ h
  ·rcases fY hv with⟨j,u,rfl,rfl⟩|⟨y,u,rfl,rfl⟩
   ·rw[UY]at h;exact SeqAt.EqAt.str_int x t j u _ _ _ _ h
   ·rw[UW]at h;exact wpAny_eqBool_str h
 «strs» :=λk x t v h=>by
  rcases fY h with⟨i,u,rfl,e⟩|⟨y,u,rfl,e⟩
  ·exact nomatch e
  ·injection e with e1 _
   subst e1;cases v<;>rfl
def Jr(prog:Program)(w:World)(i:Int)(t:Tok):(e_ prog w).is (.inl i) (.int i t)=true:=NI i t
def Js(prog:Program)(w:World)(x:Str)(t:Tok):(e_ prog w).is (.inr x) (.str x t)=true:=NJ x t
inductive V where
 |gq|bl (b:Bool)|int (i:Int)|str (x:Str)|B0 (b:Array UInt8)|PB (b:UInt64)|ref (a:Addr)|ty (n:String)
 deriving DecidableEq
def RelV:V->Value->Prop
 | .gq,u=>u=Value.none
 | .bl b,u=>u=Value.bool b
 | .int i,u=>∃t,u=Value.int i t
 | .str x,u=>∃t,u=Value.str x t
 | .B0 b,u=>∃t,u=Value.bytes b t
 | .PB b,u=>∃t,u=Value.float b t
 | .ref a,u=>u=Value.ref a
 | .ty n,u=>u=Value.type n
abbrev Vals:List V->List Value->Prop:=Paired RelV
theorem Vals.length{xs:List V}{us:List Value}(r:Vals xs us):xs.length=us.length:=vK r
theorem Vals.get:∀{xs:List V} {us:List Value} {i:Nat} {x:V},Vals xs us->xs[i]? =some x->∃u,us[i]? =some u/\RelV x u
 |_,_,_,_,.nil,e=>by simp at e
 |_,_,0,_,.cons r _,e=>by simp at e;subst e;exact⟨_,rfl,r⟩
 |_,_,i+1,x,.cons _ t,e=>by
  obtain⟨u,h1,h2⟩:=Vals.get (i:=i) (x:=x) t (by simpa using e);exact⟨u,by simpa using h1,h2⟩
theorem Vals.append:∀{xs ys:List V} {us ws:List Value},Vals xs us->Vals ys ws->Vals (xs++ys) (us++ws)
 |_,_,_,_,.nil,s=>s
 |_,_,_,_,.cons r t,s=>.cons r (Vals.append t s)
theorem Vals.take:∀{xs:List V} {us:List Value} (n:Nat),Vals xs us->Vals (xs.take n) (us.take n)
 |_,_,0,_=>.nil
 |_,_,_+1,.nil=>.nil
 |_,_,n+1,.cons r t=>.cons r (Vals.take n t)
theorem Vals.drop:∀{xs:List V} {us:List Value} (n:Nat),Vals xs us->Vals (xs.drop n) (us.drop n)
 |_,_,0,r=>r
 |_,_,_+1,.nil=>.nil
 |_,_,n+1,.cons _ t=>Vals.drop n t
def nV:Option V->Option Value->Prop
 |some v,some u=>RelV v u
 |none,none=>True
 |_,_=>False
def KV{κ:Type}:List (κ×V)->List (κ×Value)->Prop:=Paired λ(p:κ×V) (q:κ×Value)=>p.1=q.1/\RelV p.2 q.2
noncomputable def kV:Key->V
 | .inl i=>.int i
 | .inr x=>.str x
inductive HO where
 |lst (xs:List V)
 |tup (xs:List V)
 |dK (kvs:List (Key×V))|dT (kvs:List (List Key×V))
 |set (S:Int->Bool) (n:Nat)
 |ins (C dx:Addr) (fs:List (Str×V))
 |own (x:Addr)
 |xd (fs:List (Str×V))
 |met (f x:Addr)
 |Yy (lo hi:Int)
 |je (o:Obj) (u:HO)
 |RP (ps:Array Value)
 |ext (φ:Heap->Prop)
abbrev Hp:=Addr->Option HO
noncomputable def upd (H:Hp) (a:Addr) (o:HO):Hp:=λb=>if b=a then some o else H b
def af{H:Hp}{a:Addr}{o:HO}:upd H a o a=some o:=by unfold upd;rw[ay rfl]
def ai{H:Hp}{a b:Addr}{o:HO}(h:b≠a):upd H a o b=H b:=by unfold upd;rw[aq h]
def qM{H:Hp}{a:Addr}{o u:HO}:upd (upd H a o) a u=upd H a u:=by
 funext b;unfold upd;split<;>rfl
def bh{H:Hp}{a b:Addr}{o u:HO}(h:H a=some o)(h':H b=some u)(d:o≠u):a≠b:=by
 intro e;subst e;rw[h]at h';exact d (fG h')
def aj{H:Hp}{a b:Addr}{o:HO}(h:H a=some o)(h':H b=none):a≠b:=by
 intro e;subst e;rw[h]at h';cases h'
section
variable(P:Program)(w:World)
def fm(H:Hp)(h:Heap)(a:Addr):HO->Prop
 | .lst xs=>xs.length<=sizeLine/\∃(its:List Value) (n:Nat),Vals xs its/\h.get? a=some {cls:= .type "list",data:= .seq its.toArray n}
 | .tup xs=>xs.length<=sizeLine/\∃its:List Value,Vals xs its/\IsTup h a its.toArray
 | .dK kvs=>kvs.length<=sizeLine/\(a==sysModules)=false/\∃vs,KV kvs vs/\h.DictOf (e_ P w) a vs
 | .dT kvs=>kvs.length<=sizeLine/\(a==sysModules)=false/\∃xs:List (List Key×Addr×Value),
   Paired (λ(p:List Key×V) (q:List Key×Addr×Value)=>p.1=q.1/\H q.2.1=some (.tup (p.1.map kV))/\RelV p.2 q.2.2) kvs xs/\
   ∃o es ep,h.get? a=some o/\o.ExactDict/\o.data=.dict es ep/\es.toList=xs.map (entryOfKey (tupleKind (e_ P w)))/\(xs.map (·.1)).Nodup
 | .set S n=>h.SetOf (intKind P w) a S n
 | .ins C dx fs=>H dx=some (.own a)/\fs.length<=1000/\dx≠a/\h.get? a=some (W.instObj C dx)/\
   ∃mA,h.Ns1 dx mA/\(∀f,nV (fs.lookup f) (mA f))/\PySem.Within mA (fs.map (·.1))
 | .own _=>∃o,h.get? a=some o
 | .xd fs=>∃mA,h.Ns1 a mA/\∀f,nV (fs.lookup f) (mA f)
 | .Yy lo hi=>∃t u v,h.get? a=some {cls:= .type "range",data:= .fields #[.int lo t,.int hi u,.int 1 v]}
 | .je o u=>h.get? a=some o/\fm H h a u
 | .RP ps=>h.get? a=some {cls:= .none,data:= .fields ps}
 | .met f x=>h.get? a=some (W.methodObj (.ref f) (.ref x))
 | .ext φ=>φ h/\(∃o,h.get? a=some o)/\∀h1 h2:Heap,φ h1->(∀o,h1.get? a=some o->h2.get? a=some o)->φ h2
def mV(H:Hp)(h:Heap):Prop:=∀a o,H a=some o->fm P w H h a o
end
section
variable{P:Program}{w:World}{H H':Hp}{h h':Heap}{a:Addr}{o:HO}
theorem fm.lt(x:fm P w H h a o):a<h.objs.size:=by
 cases o with
 |lst xs=>obtain⟨_,_,_,_,e⟩:=x;exact cC e
 |tup xs=>obtain⟨_,_,_,p⟩:=x;exact p.lt
 |dK kvs=>obtain⟨_,_,_,_,o,_,_,e,_⟩:=x;exact cC e
 |dT kvs=>obtain⟨_,_,_,_,o,_,_,e,_⟩:=x;exact cC e
 |set S n=>obtain⟨o,_,_,_,e,_⟩:=x;exact cC e
 |ins C dx fs=>obtain⟨_,_,_,e,_⟩:=x;exact cC e
 |own y=>obtain⟨_,e⟩:=x;exact cC e
 |xd fs=>obtain⟨_,⟨_,_,_,e,_⟩,_⟩:=x;exact cC e
 |Yy lo hi=>obtain⟨_,_,_,e⟩:=x;exact cC e
 |je ob u=>obtain⟨e,_⟩:=x;exact cC e
 |RP ps=>exact cC (show h.get? a=some _ from x)
 |met f y=>exact cC (show h.get? a=some _ from x)
 |ext φ=>obtain⟨_,⟨_,e⟩,_⟩:=x;exact cC e
theorem Paired.UA{α β:Type}{F G:α->β->Prop}:∀{l₁:List α} {l₂:List β},Paired F l₁ l₂->(∀a b,F a b->G a b)->Paired G l₁ l₂
 |_,_,.nil,_=>.nil
 |_,_,.cons r t,f=>.cons (f _ _ r) (Paired.UA t f)
def fm.stay(x:fm P w H h a o)(k:∀b u,(b=a\/H b=some (.own a))->h.get? b=some u->h'.get? b=some u)
  (ho:∀b,H b=some (.own a)->H' b=some (.own a)) (ht:∀b xs,H b=some (.tup xs)->H' b=some (.tup xs)):fm P w H' h' a o:=by
 induction o with
 |lst xs=>obtain⟨z,its,n,r,e⟩:=x;exact⟨z,its,n,r,k _ _ (.inl rfl) e⟩
 |tup xs=>obtain⟨z,its,r,ob,e,c⟩:=x;exact⟨z,its,r,ob,k _ _ (.inl rfl) e,c⟩
 |dK kvs=>obtain⟨z,y,vs,r,ob,es,ep,e,c⟩:=x;exact⟨z,y,vs,r,ob,es,ep,k _ _ (.inl rfl) e,c⟩
 |dT kvs=>
  obtain⟨z,y,xs,r,ob,es,ep,e,c⟩:=x;exact⟨z,y,xs,Paired.UA r λp q z=>⟨z.1,ht _ _ z.2.1,z.2.2⟩,ob,es,ep,k _ _ (.inl rfl) e,c⟩
 |set S n=>obtain⟨ob,es,ep,t,e,c⟩:=x;exact⟨ob,es,ep,t,k _ _ (.inl rfl) e,c⟩
 |ins C dx fs=>
  obtain⟨d,z,ne,e,mA,⟨od,es,ep,e2,c⟩,r⟩:=x;exact⟨ho _ d,z,ne,k _ _ (.inl rfl) e,mA,⟨od,es,ep,k _ _ (.inr d) e2,c⟩,r⟩
 |own y=>obtain⟨ob,e⟩:=x;exact⟨ob,k _ _ (.inl rfl) e⟩
 |xd fs=>obtain⟨mA,⟨od,es,ep,e,c⟩,r⟩:=x;exact⟨mA,⟨od,es,ep,k _ _ (.inl rfl) e,c⟩,r⟩
 |Yy lo hi=>obtain⟨t,u,v,e⟩:=x;exact⟨t,u,v,k _ _ (.inl rfl) e⟩
 |je ob u ih=>obtain⟨e,q⟩:=x;exact⟨k _ _ (.inl rfl) e,ih q⟩
 |RP ps=>
  have e:h.get? a=some {cls:= .none,data:= .fields ps}:=x;show h'.get? a=some {cls:= .none,data:= .fields ps}
  exact k a _ (.inl rfl) e
 |met f y=>
  have e:h.get? a=some (W.methodObj (.ref f) (.ref y)):=x;show h'.get? a=some (W.methodObj (.ref f) (.ref y))
  exact k a _ (.inl rfl) e
 |ext φ=>obtain⟨p,⟨o,e⟩,st⟩:=x;exact⟨st _ _ p λo q=>k _ _ (.inl rfl) q,⟨o,k _ _ (.inl rfl) e⟩,st⟩
theorem mV.lt(x:mV P w H h)(e:H a=some o):a<h.objs.size:=(x a o e).lt
def mV.fresh(x:mV P w H h)(e:h.objs.size<=a):H a=none:=by
 cases q:H a with
 |none=>rfl
 |some u=>exact absurd (jZ (x.lt q) e) (tW _)
def mV.kept(x:mV P w H h)(k:∀b u,h.get? b=some u->h'.get? b=some u):mV P w H h':=λa o e=>
 (x a o e).stay (λb u _ q=>k b u q) (λ_ q=>q) λ_ _ q=>q
def mV.laid(x:mV P w H h)(k:∀b u,h.get? b=some u->h'.get? b=some u)(hp:h.objs.size<=a)(new:fm P w (upd H a o) h' a o):mV P w (upd H a o) h':=λb u e=>by
 have hn:=x.fresh hp;by_cases hb:b=a
 ·subst hb;rw[af]at e;cases e;exact new
 ·rw[ai hb]at e;exact(x b u e).stay (λc v _ q=>k c v q) (λc q=>by rw[ai (aj q hn)];exact q) λc xs q=>by rw[ai (aj q hn)];exact q
end
def Rd(H:Hp)(a:Addr)(u:HO):Prop:=H a=some u\/∃o,H a=some (.je o u)
def Rd.ok{P:Program}{w:World}{H:Hp}{h:Heap}{a:Addr}{u:HO}(r:Rd H a u)(x:mV P w H h):fm P w H h a u:=by
 rcases r with r|⟨o,r⟩
 ·exact x a u r
 ·obtain⟨_,q⟩:=x a _ r;exact q
def PD:Option HO->Prop
 |some (.lst _)=>True
 |some (.dK _)=>True
 |some (.dT _)=>True
 |some (.set _ _)=>True
 |some (.ins _ _ _)=>True
 |some (.ext _)=>True
 |_=>False
section
variable{P:Program}{w:World}{H:Hp}{h h':Heap}{x e:Addr}{o':HO}
def mV.write(ok:mV P w H h)(mu:PD (H x))(he:e=x\/H e=some (.own x))(k:∀b u,b≠e->h.get? b=some u->h'.get? b=some u)(T3:∃u,h'.get? e=some u)
  (new:fm P w (upd H x o') h' x o'):mV P w (upd H x o') h':=λb u q=>by
 have Wd:∀c y,H c=some (.own y)->c≠x:=λc y r z=>by subst z;rw[r]at mu;exact mu
 have Zm:∀c xs,H c=some (.tup xs)->c≠x:=λc xs r z=>by subst z;rw[r]at mu;exact mu
 by_cases hb:b=x
 ·subst hb;rw[af]at q;cases q;exact new
 ·rw[ai hb]at q;by_cases RQ:b=e
  ·have q':H b=some (.own x):=by
    rcases he with z|z
    ·exact absurd (RQ.trans z) hb
    ·rw[RQ];exact z
   rw[q]at q';cases q';obtain⟨v,hv⟩:=T3;exact⟨v,by rw[RQ];exact hv⟩
  ·refine(ok b u q).stay (λc v hc r=>k c v ?_ r) (λc r=>by rw[ai (Wd c b r)];exact r) λc xs r=>by rw[ai (Zm c xs r)];exact r
   rcases hc with rfl|hc
   ·exact RQ
   ·rintro rfl
    rcases he with z|z
    ·exact Wd c b hc z
    ·rw[hc]at z;cases z;exact hb rfl
end
structure Un(fs ex:List Addr)(H H':Hp)(h h':Heap):Prop where
 keep:∀b o,h.get? b=some o->H b=none->b∉fs->b∉ex->h'.get? b=some o
 slot:∀b o,h.get? b=some o->H b=none->b∈fs->b∉ex->∃sl,h'.get? b=some {o with slots:=sl}
 free:∀b o,h.get? b=some o->H b=none->b∉ex->H' b=none
 there:∀b o,h.get? b=some o->b∉ex->∃o',h'.get? b=some o'
 tups:∀b xs,H b=some (.tup xs)->H' b=some (.tup xs)
 zV:∀b o u,H b=some (.je o u)->H' b=some (.je o u)
 DA:∀b ps,H b=some (.RP ps)->∃more,H' b=some (.RP (ps++more))
section
variable{fs fs' ex ex':List Addr}{H H1 H2:Hp}{h h1 h2 h':Heap}{a x e:Addr}{o:HO}
def Un.any(u:Un fs ex H H1 h h1){b:Addr}{ob:Obj}(q:h.get? b=some ob)(n:H b=none)(hx:b∉ex):∃sl,h1.get? b=some {ob with slots:=sl}:=by
 by_cases hb:b∈fs
 ·exact u.slot b ob q n hb hx
 ·exact⟨ob.slots,u.keep b ob q n hb hx⟩
def Un.kept(k:∀b u,h.get? b=some u->h'.get? b=some u):Un fs ex H H h h':=
 ⟨λb ob q _ _ _=>k b ob q,λb ob q _ _ _=>⟨ob.slots,k b ob q⟩,λ_ _ _ n _=>n,λb ob q _=>⟨ob,k b ob q⟩,λ_ _ q=>q,λ_ _ _ q=>q,λ_ ps q=>⟨#[],by rw[q];simp⟩⟩
def Un.refl:Un fs ex H H h h:=Un.kept λ_ _ q=>q
def Un.laid(k:∀b u,h.get? b=some u->h'.get? b=some u)(hp:h.objs.size<=a)(hn:H a=none):Un fs ex H (upd H a o) h h' where
 keep:=λb u q _ _ _=>k b u q
 slot:=λb u q _ _ _=>⟨u.slots,k b u q⟩
 free:=λb u q n _=>by rw[ai (iG (jZ (cC q) hp))];exact n
 there:=λb u q _=>⟨u,k b u q⟩
 tups:=λb xs q=>by rw[ai (aj q hn)];exact q
 zV:=λb u xs q=>by rw[ai (aj q hn)];exact q
 DA:=λb ps q=>⟨#[],by rw[ai (aj q hn),q];simp⟩
def Un.write(mu:PD (H x))(he:e=x\/H e=some (.own x))(k:∀b u,b≠e->h.get? b=some u->h'.get? b=some u)(T3:∃u,h'.get? e=some u):Un fs ex H (upd H x o) h h':=by
 have hx:∀b,H b=none->b≠x:=λb n z=>by subst z;rw[n]at mu;exact mu
 have hb:∀b,H b=none->b≠e:=λb n z=>by
  subst z;rcases he with r|r
  ·exact hx b n r
  ·rw[n]at r;cases r
 have hm:∀b u,H b=some u->¬PD (some u)->b≠x:=λb u q nm z=>by subst z;rw[q]at mu;exact nm mu
 refine⟨λb u q n _ _=>k b u (hb b n) q,λb u q n _ _=>⟨u.slots,k b u (hb b n) q⟩,λb u q n _=>by rw[ai (hx b n)];exact n,λb u q _=>?_,
  λb xs q=>by rw[ai (hm b _ q λz=>z)];exact q,λb u xs q=>by rw[ai (hm b _ q λz=>z)];exact q,λb ps q=>⟨#[],by rw[ai (hm b _ q λz=>z),q];simp⟩⟩
 by_cases RQ:b=e
 ·subst RQ;exact T3
 ·exact⟨u,k b u RQ q⟩
end
noncomputable def We (h:Heap) (H:Hp):List Addr:=(List.range h.objs.size).filter λa=>(H a).isSome
noncomputable def DB (h:Heap) (H:Hp):Heap:=W.hideAll h (We h H)
def NK(h:Heap)(H:Hp):(DB h H).objs.size=h.objs.size:=W.hideAll_size _ _
def QB{h:Heap}{H:Hp}{b:Addr}{o:Obj}(e:h.get? b=some o)(n:H b=none):(DB h H).get? b=some o:=
 W.hideAll_get _ e λhm=>by
  have q:(H b).isSome=true:=(jN.mp hm).2;rw[n]at q;simp at q
def Su{h:Heap}{H:Hp}{b:Addr}{o:Obj}(e:(DB h H).get? b=some o):h.get? b=some o/\H b=none:=by
 have e':h.get? b=some o:=W.of_hideAll (We h H) e;refine⟨e',?_⟩;cases q:H b with
 |none=>rfl
 |some x=>
  have hm:b∈We h H:=jN.mpr ⟨vV.mpr (cC e'),by simp[q]⟩;have z:(DB h H).get? b=none:=W.hideAll_none (We h H) hm
  rw[z]at e;cases e
structure Mod(K:W.Frag)(mg:Str->Option Value)(base:Heap):Prop where
 T4:K.In base
 glob:base.Ns mainGlobals mg
 blt:∃mb,base.Ns builtinsNs mb/\∀x:Str,x≠ "__name__" ->mb x=bootBuiltins x
 nolimit:base.NoLimit
structure Cx where
 prog:Program
 w:World
 K:W.Frag
 mg:Str->Option Value
 base:Heap
 A:Around
 N:List Str
 yL:Shared
 RS:Hp
 env:Env
 outer:List Env
 stack:List Env
 ex:List Addr
 fn:Str->Bool
 calm:Bool
 pn:List (Addr×Obj)
 xe:Value->Shared->Prop
noncomputable def frs (l:List Env):List Addr:=l.filterMap (·.frame)
noncomputable abbrev Cx.fs (X:Cx):List Addr:=frs X.outer
def RT(sc:Scope)(x:Str):Prop:=sc.names.lookup x=some .local\/sc.names.lookup x=some .cell\/sc.names.lookup x=some .free
def Loc(sc:Scope)(x:Str):Prop:=sc.names.lookup x=some .local\/sc.names.lookup x=some .cell
def Look(env:Env)(h:Heap)(m:Str->Option Value)(x:Str)(u:Value):Prop:=
 (env.kindOf x=some .local/\m x=some u)\/((env.kindOf x=some .cell\/env.kindOf x=some .free)/\∃c,env.cells.lookup x=some c/\h.IsCell c (some u))
structure Cx.Ok(X:Cx):Prop where
 mod:Mod X.K X.mg X.base
 kind:X.env.scope.kind=.function
 glob:X.env.globals=mainGlobals
 blt:X.env.builtins=builtinsNs
 above:X.yL.heap.objs.size<=X.env.locals
 inj:∀x y c,X.env.cells.lookup x=some c->X.env.cells.lookup y=some c->x=y
 has:∀x,(X.env.kindOf x=some .cell\/X.env.kindOf x=some .free)->∃c,X.env.cells.lookup x=some c
 UZ:∀x c,X.fn x=true->X.env.cells.lookup x=some c->X.yL.heap.objs.size<=c
 hd:X.calm=true->X.A.handled=none
 frames:X.A.frames=some X.stack
 stk:X.stack=X.outer\/(X.stack=X.env::X.outer/\X.env.frame=some X.env.locals)
 Wf:∀b∈X.ex,b≠X.env.locals/\∀x c,X.env.cells.lookup x=some c->c≠b
 bs:∀b o,X.base.get? b=some o->X.yL.heap.get? b=some o/\X.RS b=none
 NL:X.base.objs.size<=X.yL.heap.objs.size
 NN:∀b o,X.base.get? b=some o->b∉X.ex
 NO:∀b∈X.ex,b∉X.fs
 xT:X.yL.heap.FunFrames X.base X.outer
 RU:∀b∈X.fs,X.RS b=none
structure Inv(X:Cx)(pins:List (Addr×Obj))(σ:List (Option V))(H:Hp)(s:Shared):Prop where
 ok:X.Ok
 os:s.os=X.yL.os
 bare:AllBare s.gens
 base:Un X.fs X.ex X.RS H X.yL.heap s.heap
 loc:∃m,s.heap.Ns X.env.locals m/\∀(i:Nat) (x:Str) (v:V),X.N[i]? =some x->σ[i]? =some (some v)->RT X.env.scope x->∃u,RelV v u/\Look X.env s.heap m x u
 cell:∀x c,X.env.cells.lookup x=some c->∃v,s.heap.IsCell c v
 free:H X.env.locals=none
 pK:∀x c,X.env.cells.lookup x=some c->H c=none
 pin:∀p∈X.pn++pins,s.heap.get? p.1=some p.2/\H p.1=none/\p.1≠X.env.locals/\p.1∉X.fs/\∀v,p.2.data≠ .cell v
 hok:mV X.prog X.w H s.heap
 len:σ.length=X.N.length
section
variable{X:Cx}{pins:List (Addr×Obj)}{σ:List (Option V)}{H H':Hp}{s:Shared}{h':Heap}
def Cx.Ok.Zn(ok:X.Ok){b:Addr}{o:Obj}(e:X.base.get? b=some o):b∉X.fs:=λhb=>by
 have:=(ok.xT.mem hb).1;rw[e]at this;cases this
theorem Inv.bs(I:Inv X pins σ H s):∀b o,X.base.get? b=some o->s.heap.get? b=some o/\H b=none:=λb o e=>
 ⟨I.base.keep b o (I.ok.bs b o e).1 (I.ok.bs b o e).2 (I.ok.Zn e) (I.ok.NN b o e),I.base.free b o (I.ok.bs b o e).1 (I.ok.bs b o e).2 (I.ok.NN b o e)⟩
def Inv.bk(I:Inv X pins σ H s):∀b o,X.base.get? b=some o->s.heap.get? b=some o:=λb o e=>(I.bs b o e).1
theorem Inv.mod(I:Inv X pins σ H s):Mod X.K X.mg X.base:=I.ok.mod
def Inv.rD(I:Inv X pins σ H s):X.K.In s.heap:=I.ok.mod.T4.keeps I.bk
theorem Inv.lt(I:Inv X pins σ H s):X.env.locals<s.heap.objs.size:=let⟨_,hn,_⟩:=I.loc;hn.lt
def Inv.sz(I:Inv X pins σ H s):X.yL.heap.objs.size<=s.heap.objs.size:=gz I.ok.above (lH I.lt)
def Inv.Zo(I:Inv X pins σ H s){a:Addr}(h:s.heap.objs.size<=a):a∉X.fs:=λhb=>by
 obtain⟨_,o,ho,_⟩:=I.ok.xT.mem hb;exact absurd (jZ (cC ho) (gz I.sz h)) (tW _)
def Inv.RV(I:Inv X pins σ H s):∀x c,X.env.cells.lookup x=some c->c≠X.env.locals:=λx c e z=>by
 obtain⟨v,o,ho,hd⟩:=I.cell x c e;obtain⟨m,⟨o',es,ep,ho',hd',_⟩,_⟩:=I.loc;rw[z,ho']at ho;cases ho;rw[hd']at hd;cases hd
theorem Inv.xT(I:Inv X pins σ H s):s.heap.FunFrames X.base X.outer:=by
 have all:∀(l:List Env),(∀b∈frs l,b∈X.fs)->X.yL.heap.FunFrames X.base l->s.heap.FunFrames X.base l:=by
  intro l
  induction l with
  |nil=>intro _ _;trivial
  |cons env r ih=>
   intro hs hl;obtain⟨hk,⟨L,o,hf,hn,ho,hd⟩,hr⟩:=hl;have hL:L∈X.fs:=hs L (by unfold frs;rw[gy,hf];exact bU)
   obtain⟨sl,e⟩:=I.base.slot L o ho (I.ok.RU L hL) hL λz=>I.ok.NO L z hL
   exact⟨hk,⟨L,_,hf,hn,e,hd⟩,ih (λb hb=>hs b (by unfold frs;rw[gy,hf];exact cP _ hb)) hr⟩
 exact all X.outer (λ_ hb=>hb) I.ok.xT
theorem Inv.stack(I:Inv X pins σ H s):s.heap.FunFrames X.base X.stack:=by
 rcases I.ok.stk with e|⟨e,hf⟩
 ·rw[e];exact I.xT
 ·rw[e];obtain⟨m,hn,_⟩:=I.loc;refine .cons (by rw[I.ok.kind];decide) hf hn ?_ I.xT;exact Heap.get?_none_of_le (gz I.ok.NL I.ok.above)
def Inv.Ky(I:Inv X pins σ H s):∀b∈frs X.stack,b∈X.env.locals::X.fs:=λb hb=>by
 rcases I.ok.stk with e|⟨e,hf⟩
 ·rw[e]at hb;exact cP _ hb
 ·rw[e]at hb;unfold frs at hb;rw[gy,hf]at hb;exact hb
def Inv.MJ(I:Inv X pins σ H s):∀b∈frs X.stack,H b=none:=λb hb=>by
 rcases bN.mp (I.Ky b hb)with e|hb
 ·rw[e];exact I.free
 ·obtain⟨_,o,ho,_⟩:=I.ok.xT.mem hb;exact I.base.free b o ho (I.ok.RU b hb) λz=>I.ok.NO b z hb
def Inv.step{g':Array GenState}{t':Nat}{d':Drawn}{ch:List Addr}(I:Inv X pins σ H s)
  (hch:∀b∈ch,(b∈X.ex\/X.yL.heap.objs.size<=b)/\b≠X.env.locals/\(∀x c,X.env.cells.lookup x=some c->c≠b)/\∀p∈X.pn++pins,p.1≠b)
  (keep:∀b o,b≠X.env.locals->b∉X.fs->b∉ch->s.heap.get? b=some o->H b=none->h'.get? b=some o)
  (slot:∀b o,b≠X.env.locals->b∈X.fs->b∉ch->s.heap.get? b=some o->H b=none->∃sl,h'.get? b=some {o with slots:=sl}) (free:∀b o,b∉ch->s.heap.get? b=some o->H b=none->H' b=none)
  (there:∀b o,b∉ch->s.heap.get? b=some o->∃o',h'.get? b=some o')
  (tups:∀b xs,H b=some (.tup xs)->H' b=some (.tup xs)) (zV:∀b o u,H b=some (.je o u)->H' b=some (.je o u)) (DA:∀b ps,H b=some (.RP ps)->∃more,H' b=some (.RP (ps++more)))
  (ns:∀m,s.heap.Ns X.env.locals m->h'.Ns X.env.locals m) (hok:mV X.prog X.w H' h') (hg:AllBare g'):
  Inv X pins σ H' {s with heap:=h',gens:=g',drawn:=d',toks:=t'}:=by
 have neL:∀b o,X.yL.heap.get? b=some o->b≠X.env.locals:=λb o e=>iG (jZ (cC e) I.ok.above)
 have Wg:∀b o,X.yL.heap.get? b=some o->b∉X.ex->b∉ch:=λb o e hx hb=>by
  rcases(hch b hb).1 with z|z
  ·exact hx z
  ·exact absurd (jZ (cC e) z) (tW _)
 have cellK:∀x c,X.env.cells.lookup x=some c->∀v,s.heap.IsCell c v->h'.IsCell c v:=λx c e v ⟨o,ho,hd⟩=>by
  have U0:c∉ch:=λz=>(hch c z).2.2.1 x c e rfl
  by_cases hc:c∈X.fs
  ·obtain⟨sl,q⟩:=slot c o (I.RV x c e) hc U0 ho (I.pK x c e);exact⟨_,q,hd⟩
  ·exact⟨o,keep c o (I.RV x c e) hc U0 ho (I.pK x c e),hd⟩
 refine⟨I.ok,I.os,hg,⟨λb o e n hb hx=>?_,λb o e n hb hx=>?_,λb o e n hx=>?_,λb o e hx=>?_,λb xs e=>tups b xs (I.base.tups b xs e),λb o xs e=>zV b o xs (I.base.zV b o xs e),λb ps e=>?_⟩,?_,λx c e=>?_,?_,λx c e=>?_,λp hp=>?_,hok,I.len⟩
 ·exact keep b o (neL b o e) hb (Wg b o e hx) (I.base.keep b o e n hb hx) (I.base.free b o e n hx)
 ·obtain⟨sl,e1⟩:=I.base.slot b o e n hb hx;obtain⟨sl',e2⟩:=slot b _ (neL b o e) hb (Wg b o e hx) e1 (I.base.free b o e n hx);exact⟨sl',e2⟩
 ·obtain⟨o',e1⟩:=I.base.there b o e hx;exact free b o' (Wg b o e hx) e1 (I.base.free b o e n hx)
 ·obtain⟨o',e1⟩:=I.base.there b o e hx;exact there b o' (Wg b o e hx) e1
 ·obtain⟨m1,e1⟩:=I.base.DA b ps e;obtain⟨m2,e2⟩:=DA b _ e1;exact⟨m1++m2,by rw[e2,Array.append_assoc]⟩
 ·obtain⟨m,hn,hl⟩:=I.loc;refine⟨m,ns m hn,λi x v e1 e2 e3=>?_⟩;obtain⟨u,r,l⟩:=hl i x v e1 e2 e3;refine⟨u,r,?_⟩;rcases l with l|⟨k,c,e,z⟩
  ·exact .inl l
  ·exact .inr ⟨k,c,e,cellK x c e _ z⟩
 ·obtain⟨v,z⟩:=I.cell x c e;exact⟨v,cellK x c e v z⟩
 ·obtain⟨m,⟨o,_,_,ho,_⟩,_⟩:=I.loc;exact free _ o (λz=>(hch _ z).2.1 rfl) ho I.free
 ·obtain⟨v,o,ho,hd⟩:=I.cell x c e;exact free c o (λz=>(hch c z).2.2.1 x c e rfl) ho (I.pK x c e)
 ·obtain⟨e,n,ne,nf,d⟩:=I.pin p hp;have U0:p.1∉ch:=λz=>(hch p.1 z).2.2.2 p hp rfl
  exact⟨keep p.1 p.2 ne nf U0 e n,free p.1 p.2 U0 e n,ne,nf,d⟩
def Inv.un{t':Nat}(I:Inv X pins σ H s)(u:Un X.fs [] H H' s.heap h')(hok:mV X.prog X.w H' h'):Inv X pins σ H' {s with heap:=h',toks:=t'}:=by
 obtain⟨m,⟨o,es,ep,ho,r⟩,_⟩:=id I.loc;obtain⟨sl,hL⟩:=u.any ho I.free (by simp);exact I.step (g':=s.gens) (d':=s.drawn) (ch:=[]) (λ_ z=>nomatch z) (λb o _ hb _ e n=>u.keep b o e n hb (by simp)) (λb o _ hb _ e n=>u.slot b o e n hb (by simp)) (λb o _ e n=>u.free b o e n (by simp)) (λb o _ e=>u.there b o e (by simp)) u.tups u.zV u.DA (λm' hm=>by
  obtain⟨o',es',u9,ho',r'⟩:=hm;rw[ho]at ho';cases ho';exact⟨_,es',u9,hL,r'⟩) hok I.bare
def Inv.call{g':Array GenState}{t':Nat}{d':Drawn}{ch:List Addr}(I:Inv X pins σ H s)(u:Un (frs X.stack) ch H H' s.heap h')(hok:mV X.prog X.w H' h')(hg:AllBare g')
  (hch:∀b∈ch,(b∈X.ex\/X.yL.heap.objs.size<=b)/\b≠X.env.locals/\(∀x c,X.env.cells.lookup x=some c->c≠b)/\∀p∈X.pn++pins,p.1≠b):
  Inv X pins σ H' {s with heap:=h',gens:=g',drawn:=d',toks:=t'}:=by
 obtain⟨m,⟨o,es,ep,ho,r⟩,_⟩:=id I.loc;obtain⟨sl,hL⟩:=u.any ho I.free λz=>(hch _ z).2.1 rfl
 exact I.step (ch:=ch) hch (λb o hL hb hc e n=>u.keep b o e n (λz=>(bN.mp (I.Ky b z)).elim hL hb) hc) (λb o _ _ hc e n=>u.any e n hc) (λb o hc e n=>u.free b o e n hc) (λb o hc e=>u.there b o e hc) u.tups u.zV u.DA (λm' hm=>by
  obtain⟨o',es',u9,ho',r'⟩:=hm;rw[ho]at ho';cases ho';exact⟨_,es',u9,hL,r'⟩) hok hg
def Inv.turned{t':Nat}{it:Addr}(I:Inv X pins σ H s)(k:∀b o,b≠it->s.heap.get? b=some o->h'.get? b=some o)(hn:H it=none)(hL:it≠X.env.locals)
  (h1:it∈X.ex\/X.yL.heap.objs.size<=it) (h2:∀x c,X.env.cells.lookup x=some c->c≠it) (h3:∀p∈X.pn++pins,p.1≠it):Inv X pins σ H {s with heap:=h',toks:=t'}:=by
 have PF:∀b u,H b=some u->b≠it:=λb u e z=>by rw[z,hn]at e;cases e
 refine I.step (g':=s.gens) (d':=s.drawn) (ch:=[it]) (λb hb=>?_) (λb o _ _ hc e _=>k b o (λz=>hc (by simp[z])) e) (λb o _ _ hc e _=>⟨o.slots,k b o (λz=>hc (by simp[z])) e⟩) (λ_ _ _ _ n=>n)
  (λb o hc e=>⟨o,k b o (λz=>hc (by simp[z])) e⟩) (λ_ _ e=>e) (λ_ _ _ e=>e) (λb ps e=>⟨#[],by rw[e];simp⟩) (λm hm=>?_) (λb u e=>?_) I.bare
 ·have e:b=it:=by simpa using hb
  subst e;exact⟨h1,hL,h2,h3⟩
 ·obtain⟨o,es,ep,ho,r⟩:=hm;exact⟨o,es,ep,k _ o (mC hL) ho,r⟩
 ·refine(I.hok b u e).stay (λc v hc q=>k c v ?_ q) (λ_ q=>q) λ_ _ q=>q
  rcases hc with z|z
  ·rw[z];exact PF b u e
  ·exact PF c _ z
def Inv.tok(I:Inv X pins σ H s)(t:Nat):Inv X pins σ H {s with toks:=t}:=I.un (h':=s.heap) (t':=t) Un.refl I.hok
theorem Inv.kept{t':Nat}(I:Inv X pins σ H s)(k:∀b u,s.heap.get? b=some u->h'.get? b=some u):Inv X pins σ H {s with heap:=h',toks:=t'}:=I.un (Un.kept k) (I.hok.kept k)
theorem Inv.laid{a:Addr}{o:HO}{t':Nat}(I:Inv X pins σ H s)(k:∀b u,s.heap.get? b=some u->h'.get? b=some u)(hp:s.heap.objs.size<=a)(new:fm X.prog X.w (upd H a o) h' a o):
  Inv X pins σ (upd H a o) {s with heap:=h',toks:=t'}:=I.un (Un.laid k hp (I.hok.fresh hp)) (I.hok.laid k hp new)
theorem Inv.write{x e:Addr}{o:HO}{t':Nat}(I:Inv X pins σ H s)(mu:PD (H x))(he:e=x\/H e=some (.own x))(k:∀b u,b≠e->s.heap.get? b=some u->h'.get? b=some u)(T3:∃u,h'.get? e=some u)
  (new:fm X.prog X.w (upd H x o) h' x o):Inv X pins σ (upd H x o) {s with heap:=h',toks:=t'}:=I.un (Un.write mu he k T3) (I.hok.write mu he k T3 new)
def Inv.weak{σ':List (Option V)}(I:Inv X pins σ H s)(hl:σ'.length=σ.length)(w:∀(i:Nat) v,σ'[i]? =some (some v)->σ[i]? =some (some v)):Inv X pins σ' H s:=
 ⟨I.ok,I.os,I.bare,I.base,let⟨m,hn,hl'⟩:=I.loc;⟨m,hn,λi x v e1 e2 e3=>hl' i x v e1 (w i v e2) e3⟩,I.cell,I.free,I.pK,I.pin,I.hok,hl.trans I.len⟩
def Inv.MK{T5:List (Addr×Obj)}(I:Inv X pins σ H s)(h:∀p∈T5,s.heap.get? p.1=some p.2/\H p.1=none/\p.1≠X.env.locals/\p.1∉X.fs/\∀v,p.2.data≠ .cell v):Inv X T5 σ H s:=
 ⟨I.ok,I.os,I.bare,I.base,I.loc,I.cell,I.free,I.pK,λp hp=>(dg.mp hp).elim (λz=>I.pin p (tT _ z)) (h p),I.hok,I.len⟩
def CP{N:List Str}(hN:N.Nodup){i j:Nat}{x:Str}(a:N[i]? =some x)(b:N[j]? =some x):i=j:=by
 obtain⟨h1,e1⟩:=iu.mp a;obtain⟨h2,e2⟩:=iu.mp b;exact(List.getElem_inj hN).mp (e1.trans e2.symm)
def FO{M:Model}{A:Around}{E:Value->Shared->Prop}{i:Nat}{x:Str}{v:V}{u:Value}{Q:Unit->Shared->Prop}(I:Inv X pins σ H s)(hN:X.N.Nodup)(hi:X.N[i]? =some x)(hx:Loc X.env.scope x)(r:RelV v u)
  (h:∀s',Inv X pins (σ.set i (some v)) H s'->(∃a,Heap.SameBut a s.heap s'.heap/\(a=X.env.locals\/X.env.cells.lookup x=some a))->Q () s') (hf:X.fn x=true\/X.env.scope.names.lookup x=some .local:=by first|exact .inl rfl|exact .inr rfl|assumption):wpAny M A (storeName X.env x u) Q E s:=by
 obtain⟨m,hn,hl⟩:=id I.loc;have hcls:(X.env.scope.kind==.class||(X.env.scope.kind==.module&&X.env.locals !=X.env.globals))=false:=by rw[I.ok.kind];rfl
 have hiσ:i<σ.length:=by rw[I.len];exact(iu.mp hi).1
 have RV:=I.RV;have tracked:∀{a:Addr} {h':Heap},(∃o,s.heap.get? a=some o/\H a=none)->Heap.SameBut a s.heap h'->mV X.prog X.w H h':=λ{a h'} ha hs b ob e=>by
  obtain⟨_,_,hfree⟩:=ha;refine(I.hok b ob e).stay (λc w' hc q=>(hs.2 c ?_).trans q) (λ_ q=>q) λ_ _ q=>q
  rintro rfl
  rcases hc with rfl|hc
  ·rw[hfree]at e;cases e
  ·rw[hfree]at hc;cases hc
 rcases hx with hk|hk
 ·refine wpAny_storeName_local hk hn (λh' hn' hs=>?_) hcls;obtain⟨oL,_,_,T6,_⟩:=id hn;refine h _ ⟨I.ok,I.os,I.bare,⟨λb o e n hb hx=>?_,λb o e n hb hx=>?_,I.base.free,λb o e hx=>?_,I.base.tups,I.base.zV,I.base.DA⟩,⟨_,hn',λj y v' e1 e2 e3=>?_⟩,λy c e=>?_,I.free,I.pK,λp hp=>?_,tracked ⟨oL,T6,I.free⟩ hs,by simpa using I.len⟩ ⟨_,hs,.inl rfl⟩
  ·exact(hs.2 b (iG (jZ (cC e) I.ok.above))).trans (I.base.keep b o e n hb hx)
  ·obtain⟨sl,e1⟩:=I.base.slot b o e n hb hx;exact⟨sl,(hs.2 b (iG (jZ (cC e) I.ok.above))).trans e1⟩
  ·obtain⟨o',e1⟩:=I.base.there b o e hx;exact⟨o',(hs.2 b (iG (jZ (cC e) I.ok.above))).trans e1⟩
  ·by_cases hj:j=i
   ·subst hj;rw[hi]at e1;cases e1;rw[J7 hiσ]at e2;cases e2;exact⟨u,r,.inl ⟨hk,by simp⟩⟩
   ·rw[Ka (mC hj)]at e2;obtain⟨u',r',q⟩:=hl j y v' e1 e2 e3;refine⟨u',r',?_⟩;rcases q with⟨k,e⟩|⟨k,c,e,z⟩
    ·refine .inl ⟨k,?_⟩;have:y≠x:=λe=>hj (CP hN e1 (e▸hi))
     simp[this,e]
    ·exact .inr ⟨k,c,e,z.sameBut hs (RV y c e)⟩
  ·obtain⟨w',z⟩:=I.cell y c e;exact⟨w',z.sameBut hs (RV y c e)⟩
  ·obtain⟨e,n,ne,nf,d⟩:=I.pin p hp;exact⟨(hs.2 p.1 ne).trans e,n,ne,nf,d⟩
 ·have hfn:X.fn x=true:=by
   rcases hf with z|z
   ·exact z
   ·rw[z]at hk;cases hk
  obtain⟨c,hc⟩:=I.ok.has x (.inl hk);obtain⟨w',z⟩:=I.cell x c hc;refine wpAny_storeName_cell I.ok.kind hk hc z (λh' hc' hs=>?_);obtain⟨oc,hoc,Zp⟩:=id z;refine h {s with heap:=h'} ⟨I.ok,I.os,I.bare,⟨λb o e n hb hx=>?_,λb o e n hb hx=>?_,I.base.free,λb o e hx=>?_,I.base.tups,I.base.zV,I.base.DA⟩,⟨m,hn.sameBut hs (mC (RV x c hc)),λj y v' e1 e2 e3=>?_⟩,λy c' e=>?_,I.free,I.pK,λp hp=>?_,tracked ⟨oc,hoc,I.pK x c hc⟩ hs,by simpa using I.len⟩ ⟨c,hs,.inr hc⟩
  ·exact(hs.2 b (iG (jZ (cC e) (I.ok.UZ x c hfn hc)))).trans (I.base.keep b o e n hb hx)
  ·obtain⟨sl,e1⟩:=I.base.slot b o e n hb hx;exact⟨sl,(hs.2 b (iG (jZ (cC e) (I.ok.UZ x c hfn hc)))).trans e1⟩
  ·obtain⟨o',e1⟩:=I.base.there b o e hx;exact⟨o',(hs.2 b (iG (jZ (cC e) (I.ok.UZ x c hfn hc)))).trans e1⟩
  ·by_cases hj:j=i
   ·subst hj;rw[hi]at e1;cases e1;rw[J7 hiσ]at e2;cases e2;exact⟨u,r,.inr ⟨.inl hk,c,hc,hc'⟩⟩
   ·rw[Ka (mC hj)]at e2;obtain⟨u',r',q⟩:=hl j y v' e1 e2 e3;refine⟨u',r',?_⟩;rcases q with q|⟨k,c',e,z'⟩
    ·exact .inl q
    ·refine .inr ⟨k,c',e,z'.sameBut hs ?_⟩
     rintro rfl
     exact hj (CP hN e1 (I.ok.inj _ _ _ e hc▸hi))
  ·by_cases hcc:c'=c
   ·subst hcc;exact⟨_,hc'⟩
   ·obtain⟨w2,z2⟩:=I.cell y c' e;exact⟨w2,z2.sameBut hs hcc⟩
  ·obtain⟨e,n,ne,nf,d⟩:=I.pin p hp;refine⟨(hs.2 p.1 ?_).trans e,n,ne,nf,d⟩;intro q;rw[q,hoc]at e;have q':oc=p.2:=fG e
   exact d w' (by rw[<- q'];exact Zp)
def CQ{M:Model}{A:Around}{E:Value->Shared->Prop}{i:Nat}{x:Str}{v:V}{u:Value}{Q:Unit->Shared->Prop}(I:Inv X pins σ H s)(hN:X.N.Nodup)(hi:X.N[i]? =some x)(hx:Loc X.env.scope x)(r:RelV v u)
  (h:∀s',Inv X pins (σ.set i (some v)) H s'->Q () s') (hf:X.fn x=true\/X.env.scope.names.lookup x=some .local:=by first|exact .inl rfl|exact .inr rfl|assumption):wpAny M A (storeName X.env x u) Q E s:=
 FO I hN hi hx r (λs' I' _=>h s' I') hf
def Inv.Xc{s':Shared}{ch:List Addr}(I:Inv X pins σ H s)(ho:s'.os=s.os)(u:Un (frs X.stack) ch H H' s.heap s'.heap)(hok:mV X.prog X.w H' s'.heap)(hg:AllBare s'.gens)
  (hch:∀b∈ch,(b∈X.ex\/X.yL.heap.objs.size<=b)/\b≠X.env.locals/\(∀x c,X.env.cells.lookup x=some c->c≠b)/\∀p∈X.pn++pins,p.1≠b):Inv X pins σ H' s':=by
 obtain⟨h',g',d',t',o'⟩:=s';have e:o'=s.os:=ho
 subst e;exact I.call (g':=g') (t':=t') (d':=d') u hok hg hch
end
abbrev XK:=Value->Option Addr->Hp->Prop
abbrev St:=List (Option V)
abbrev VK:=V->Hp->Prop
abbrev TE:=St->Hp->VK->Prop
abbrev TT:=St->Hp->(Bool->Hp->Prop)->Prop
abbrev TA:=St->Hp->(List V->Hp->Prop)->Prop
structure Ends where
 nx:St->Hp->Prop
 rt:VK
 bk:St->Hp->Prop:=λ_ _=>False
 ct:St->Hp->Prop:=λ_ _=>False
abbrev TS:=Ends->St->Hp->Prop
inductive EP(X:Cx)(pins:List (Addr×Obj))(σ:St)(Q:VK)(u:Value)(s':Shared):Prop
 |mk (v:_) (H':_) (_:Inv X pins σ H' s') (_:RelV v u) (_:Q v H')
def TP(X:Cx)(pins:List (Addr×Obj))(σ:St)(Q:Bool->Hp->Prop)(b:Bool)(s':Shared):Prop:=∃H',Inv X pins σ H' s'/\Q b H'
inductive AP(X:Cx)(pins:List (Addr×Obj))(σ:St)(Q:List V->Hp->Prop)(us:List Value)(s':Shared):Prop
 |mk (vs:_) (H':_) (_:Inv X pins σ H' s') (_:Vals vs us) (_:Q vs H')
def SP(X:Cx)(pins:List (Addr×Obj))(D:Ends)(f:Flow)(s':Shared):Prop:=
 match f with
 | .next=>∃σ' H',Inv X pins σ' H' s'/\D.nx σ' H'
 | .brk=>∃σ' H',Inv X pins σ' H' s'/\D.bk σ' H'
 | .cont=>∃σ' H',Inv X pins σ' H' s'/\D.ct σ' H'
 | .ret u=>∃v σ' H',Inv X pins σ' H' s'/\RelV v u/\D.rt v H'
def PE(X:Cx)(e:Expr)(t:TE):Prop:=
 ∀(pins:List (Addr×Obj)) (s:Shared) (σ:St) (H:Hp) (Q:VK),Inv X pins σ H s->t σ H Q->wpAny (model X.prog X.w) X.A (eval e X.env) (EP X pins σ Q) X.xe s
def PT(X:Cx)(e:Expr)(t:TT):Prop:=
 ∀(pins:List (Addr×Obj)) (s:Shared) (σ:St) (H:Hp) (Q:Bool->Hp->Prop),Inv X pins σ H s->t σ H Q->wpAny (model X.prog X.w) X.A (isTrue e X.env (eval e X.env)) (TP X pins σ Q) X.xe s
def PW(X:Cx)(e:Expr)(t:TT):Prop:=
 ∀(whole:Sem Value) (pins:List (Addr×Obj)) (s:Shared) (σ:St) (H:Hp) (Q:Bool->Hp->Prop),Inv X pins σ H s->t σ H Q->wpAny (model X.prog X.w) X.A (isTrue e X.env whole) (TP X pins σ Q) X.xe s
def PW.pt{X:Cx}{e:Expr}{t:TT}(h:PW X e t):PT X e t:=h _
def PA(X:Cx)(es:List Expr)(t:TA):Prop:=
 ∀(pos:Pos) (pins:List (Addr×Obj)) (s:Shared) (σ:St) (H:Hp) (Q:List V->Hp->Prop),Inv X pins σ H s->t σ H Q->wpAny (model X.prog X.w) X.A (spliced (backTo pos (starEach es X.env))) (AP X pins σ Q) X.xe s
def PS(X:Cx)(st:Stmt)(t:TS):Prop:=
 ∀(pins:List (Addr×Obj)) (s:Shared) (σ:St) (H:Hp) (D:Ends),Inv X pins σ H s->t D σ H->wpAny (model X.prog X.w) X.A (exec st X.env) (SP X pins D) X.xe s
def GW(X:Cx)(st:List Stmt)(t:TS):Prop:=
 ∀(pins:List (Addr×Obj)) (s:Shared) (σ:St) (H:Hp) (D:Ends),Inv X pins σ H s->t D σ H->wpAny (model X.prog X.w) X.A (execs st X.env) (SP X pins D) X.xe s
def cX{α:Type}{t:Sem α}{Q Q':α->Shared->Prop}{M:Model}{A:Around}{E:Value->Shared->Prop}{s:Shared}(h:wpAny M A t Q E s)(hQ:∀a s,Q a s->Q' a s):wpAny M A t Q' E s:=mT h hQ λ_ _ x=>x
section
variable{X:Cx}
def bin{a b:Expr}{ta tb:TE}(ha:PE X a ta)(hb:PE X b tb){pins:List (Addr×Obj)}{s:Shared}{σ:St}{H:Hp}{R:V->V->Hp->Prop}(I:Inv X pins σ H s)(h:ta σ H λx H1=>tb σ H1 λy H2=>R x y H2)
  {α:Type} {Q:α->Shared->Prop} {f:Value->Value->Sem α}
  (hf:∀v u s2 x y H2,Inv X pins σ H2 s2->RelV x v->RelV y u->R x y H2->wpAny (model X.prog X.w) X.A (f v u) Q X.xe s2):
  wpAny (model X.prog X.w) X.A (eval a X.env) (λv s₁=>wpAny (model X.prog X.w) X.A (eval b X.env) (λu s₂=>wpAny (model X.prog X.w) X.A (f v u) Q X.xe s₂) X.xe s₁) X.xe s:=by
 refine cX (ha pins s σ H _ I h) λv s1 h0=>?_
 obtain⟨x,H1,I1,r1,q1⟩:=h0;refine cX (hb pins s1 σ H1 _ I1 q1) λu s2 h0=>?_
 obtain⟨y,H2,I2,r2,q2⟩:=h0;exact hf v u s2 x y H2 I2 r1 r2 q2
inductive l9(i:Nat)(σ:St)(H:Hp)(Q:VK):Prop
 |mk (v:_) (_:σ[i]? =some (some v)) (_:Q v H)
def tC(v:V):TE:=λ_ H Q=>Q v H
def PJ{i:Nat}{x:Str}{pos:Pos}(hN:X.N[i]? =some x)(hv:RT X.env.scope x)(hd:(x==("__debug__":Str))=false:=by decide)(hcd:(x==("__classdict__":Str))=false:=by decide):PE X (.Name x pos) (l9 i):=by
 intro pins s σ H Q I h;obtain⟨v,e,h⟩:=h;obtain⟨m,hn,hl⟩:=I.loc;obtain⟨u,r,l⟩:=hl i x v hN e hv;have fin:EP X pins σ Q u s:=⟨v,H,I,r,h⟩
 rcases l with⟨hk,hm⟩|⟨hk,c,hc,hcell⟩
 ·exact wpAny_Name (wpAny_loadName_local I.ok.kind hk hn hm fin) hd
 ·rcases hk with hk|hk
  ·exact wpAny_Name (wpAny_loadName_cell I.ok.kind hk hc hcell fin) hd
  ·exact wpAny_Name (wpAny_loadName_free I.ok.kind hk hc hcell fin hcd) hd
def aD{i j pos}:PE X (.Constant (.int i) j pos) (tC (.int i)):=λ_ _ _ H _ I h=>wpAny_Constant_int ⟨.int i,H,I.tok _,⟨_,rfl⟩,h⟩
def k9{b j pos}:PE X (.Constant (.bool b) j pos) (tC (.bl b)):=λ_ _ _ H _ I h=>Constant_bool ⟨.bl b,H,I,rfl,h⟩
def yM{j pos}:PE X (.Constant .none j pos) (tC .gq):=λ_ _ _ H _ I h=>Constant_none ⟨.gq,H,I,rfl,h⟩
def sI{x j pos}:PE X (.Constant (.str x) j pos) (tC (.str x)):=λ_ _ _ H _ I h=>Calls.Constant_str ⟨.str x,H,I.tok _,⟨_,rfl⟩,h⟩
def Gl(X:Cx)(x:Str):Prop:=X.env.kindOf x=some .globalImplicit
def Bq{E:Value->Shared->Prop}{pins:List (Addr×Obj)}{s:Shared}{σ:St}{H:Hp}{x:Str}{u:Value}{pos:Pos}{Q:Value->Shared->Prop}(I:Inv X pins σ H s)(hg:Gl X x)(hm:X.mg x=some u)(h:Q u s)
  (hd:(x==("__debug__":Str))=false:=by decide):wpAny (model X.prog X.w) X.A (eval (.Name x pos) X.env) Q E s:=
 Calls.Name_function_global I.ok.kind hg (Calls.loadGlobal_global (by rw[I.ok.glob];exact I.mod.glob.keeps I.bk) hm h) hd
def vM{E:Value->Shared->Prop}{pins:List (Addr×Obj)}{s:Shared}{σ:St}{H:Hp}{x:Str}{u:Value}{pos:Pos}{Q:Value->Shared->Prop}(I:Inv X pins σ H s)(hg:Gl X x)(hm:X.mg x=none)(hv:bootBuiltins x=some u)(h:Q u s)
  (hn:x≠ "__name__":=by decide) (hd:(x==("__debug__":Str))=false:=by decide):wpAny (model X.prog X.w) X.A (eval (.Name x pos) X.env) Q E s:=by
 obtain⟨mb,h1,h2⟩:=I.mod.blt;exact Calls.Name_function_global I.ok.kind hg (Calls.loadGlobal_builtin (by rw[I.ok.glob];exact I.mod.glob.keeps I.bk) hm (by rw[I.ok.blt];exact h1.keeps I.bk) ((h2 x hn).trans hv) h) hd
def ML{x:Str}{v:V}{u:Value}{pos:Pos}(hg:Gl X x)(hm:X.mg x=some u)(r:RelV v u)(hd:(x==("__debug__":Str))=false:=by decide):PE X (.Name x pos) (tC v):=
 λ_ _ _ H _ I h=>Bq I hg hm ⟨v,H,I,r,h⟩ hd
def t2I(ta tb:TE)(k:Int->Int->Hp->Prop):St->Hp->Prop:=λσ H=>ta σ H λx H1=>tb σ H1 λy H2=>∃i j,x=.int i/\y=.int j/\k i j H2
variable{a b:Expr}{ta tb:TE}{pos:Pos}
def PC(X:Cx)(op:CmpOp)(a b:Expr)(t:TE):Prop:=
 ∀(pins:List (Addr×Obj)) (s:Shared) (σ:St) (H:Hp) (Q:VK),Inv X pins σ H s->t σ H Q->
  wpAny (model X.prog X.w) X.A (eval a X.env) (λv s₁=>wpAny (model X.prog X.w) X.A (eval b X.env) (λu s₂=>wpAny (model X.prog X.w) X.A (compareOp op v u) (EP X pins σ Q) X.xe s₂) X.xe s₁) X.xe s
def IM(b:Expr){op:CmpOp}(h:op≠ .In)(h2:op≠ .NotIn):behindInMarks op b=false:=by
 have e1:(op==CmpOp.In)=false:=by cases op<;>first|rfl|exact absurd rfl h
 have e2:(op==CmpOp.NotIn)=false:=by cases op<;>first|rfl|exact absurd rfl h2
 cases b<;>simp[behindInMarks,e1,e2]
def Ik(p:Int->Int->Bool)(ta tb:TE):TE:=λσ H Q=>t2I ta tb (λi j H2=>Q (.bl (p i j)) H2) σ H
abbrev tLt:TE->TE->TE:=Ik λi j=>decide (i<j)
abbrev tLe:TE->TE->TE:=Ik λi j=>decide (i<=j)
abbrev tGt:TE->TE->TE:=Ik λi j=>decide (j<i)
abbrev tGe:TE->TE->TE:=Ik λi j=>decide (j<=i)
abbrev Zq:TE->TE->TE:=Ik λi j=>decide (i=j)
abbrev Zr:TE->TE->TE:=Ik λi j=>!decide (i=j)
def yN{op:CmpOp}{p:Int->Int->Bool}(ha:PE X a ta)(hb:PE X b tb)
  (rule:∀(i j:Int) (t u:Tok) (Q:Value->Shared->Prop) (s:Shared),Q (.bool (p i j)) s->wpAny (model X.prog X.w) X.A (compareOp op (.int i t) (.int j u)) Q X.xe s):PC X op a b (Ik p ta tb):=by
 intro pins s σ H Q I h;refine bin ha hb I h λv u s2 x y H2 I2 rx ry q=>?_
 obtain⟨i,j,rfl,rfl,q⟩:=q;obtain⟨t,rfl⟩:=rx;obtain⟨t',rfl⟩:=ry;exact rule i j t t' _ s2 ⟨.bl _,H2,I2,rfl,q⟩
def GX(ha:PE X a ta)(hb:PE X b tb):PC X .Lt a b (tLt ta tb):=yN ha hb λ_ _ _ _ _ _ h=>lt_int h
def Xd(ha:PE X a ta)(hb:PE X b tb):PC X .LtE a b (tLe ta tb):=yN ha hb λ_ _ _ _ _ _ h=>le_int h
def Ld(ha:PE X a ta)(hb:PE X b tb):PC X .Gt a b (tGt ta tb):=yN ha hb λ_ _ _ _ _ _ h=>gt_int h
def Le(ha:PE X a ta)(hb:PE X b tb):PC X .GtE a b (tGe ta tb):=yN ha hb λ_ _ _ _ _ _ h=>ge_int h
def eL(ha:PE X a ta)(hb:PE X b tb):PC X .Eq a b (Zq ta tb):=yN ha hb λ_ _ _ _ _ _ h=>eq_int (by rw[Bool.beq_eq_decide_eq];exact h)
def Kz(ha:PE X a ta)(hb:PE X b tb):PC X .NotEq a b (Zr ta tb):=yN ha hb λ_ _ _ _ _ _ h=>ne_int (by rw[bne,Bool.beq_eq_decide_eq];exact h)
def Zs(ta:TE):TE:=λσ H Q=>ta σ H λx H1=>Q (.bl (decide (x=.gq))) H1
def Xe(ta:TE):TE:=λσ H Q=>ta σ H λx H1=>Q (.bl (!decide (x=.gq))) H1
def RelV.IP{x:V}{v:Value}(r:RelV x v):(v==Value.none)=decide (x=.gq):=by
 cases x with
 |gq=>cases r;rfl
 |bl _=>cases r;rfl
 |int _=>obtain⟨t,rfl⟩:=r;rfl
 |str _=>obtain⟨t,rfl⟩:=r;rfl
 |B0 _=>obtain⟨t,rfl⟩:=r;rfl
 |PB _=>obtain⟨t,rfl⟩:=r;rfl
 |ref _=>cases r;rfl
 |ty _=>cases r;rfl
def KA{j pos'}(ha:PE X a ta):PC X .Is a (.Constant .none j pos') (Zs ta):=by
 intro pins s σ H Q I h;refine cX (ha pins s σ H _ I h) λv s1 h0=>?_
 obtain⟨x,H1,I1,r1,q1⟩:=h0;exact Constant_none (is_none_gen ⟨.bl _,H1,I1,by rw[r1.IP];rfl,q1⟩)
def Sv{j pos'}(ha:PE X a ta):PC X .IsNot a (.Constant .none j pos') (Xe ta):=by
 intro pins s σ H Q I h;refine cX (ha pins s σ H _ I h) λv s1 h0=>?_
 obtain⟨x,H1,I1,r1,q1⟩:=h0;exact Constant_none (isnot_none_gen ⟨.bl _,H1,I1,by rw[r1.IP];rfl,q1⟩)
inductive tB_(Q:Bool->Hp->Prop)(x:V)(H1:Hp):Prop
 |mk (c:_) (_:x=.bl c) (_:Q c H1)
def tB(t:TE):TT:=λσ H Q=>t σ H λx H1=>tB_ Q x H1
def B3{op:CmpOp}{t:TE}(h:PC X op a b t)(h1:behindInMarks op b=false:=by first|exact IM _ (by decide) (by decide)|rfl):PE X (.Compare a [op] [b] pos) t:=λpins s σ H Q I hw=>wpAny_Compare1 (h pins s σ H Q I hw) h1
def bf{op:CmpOp}{t:TE}(h:PC X op a b t)(h1:behindInMarks op b=false:=by first|exact IM _ (by decide) (by decide)|rfl):PT X (.Compare a [op] [b] pos) (tB t):=by
 intro pins s σ H Q I hw;refine wpAny_isTrue_Compare1 (cX (h pins s σ H _ I hw) λv s1 h1=>cX h1 λu s2 h2=>cX h2 λc s3 h0=>?_) h1;obtain⟨x,H1,I1,r1,q1⟩:=h0;obtain⟨d,rfl,q⟩:=q1;cases r1;exact yg ⟨H1,I1,q⟩
def fD{e:Expr}{t:TE}(h:PE X e t)(he:∀whole,isTrue e X.env whole=(do let v <- whole;standAt e.pos;holding [v] (truthy v)):=by intro _;rfl):PT X e (tB t):=by
 intro pins s σ H Q I hw;refine isTrue_plain (cX (h pins s σ H _ I hw) λv s1 h0=>?_) (he _);obtain⟨x,H1,I1,r1,q1⟩:=h0;obtain⟨d,rfl,q⟩:=q1;cases r1;exact yg ⟨H1,I1,q⟩
variable{tA Wh:TT}{rest:List Expr}
def Zt(t u:TT):TT:=λσ H Q=>t σ H λc H1=>if c=true then u σ H1 Q else Q false H1
def tOr(t u:TT):TT:=λσ H Q=>t σ H λc H1=>if c=true then Q true H1 else u σ H1 Q
def Zu(t:TT):TT:=λσ H Q=>t σ H λc H1=>Q (!c) H1
def MM(ha:PT X a tA):PW X (.BoolOp .And [a] pos) tA:=by
 intro wh pins s σ H Q I h;refine isTrue_and (cX (ha pins s σ H Q I h) λc s1 e=>?_);cases c with
 |true=>exact isTrue_and_nil e
 |false=>exact e
def qE(ha:PT X a tA):PW X (.BoolOp .Or [a] pos) tA:=by
 intro wh pins s σ H Q I h;refine isTrue_or (cX (ha pins s σ H Q I h) λc s1 e=>?_);cases c with
 |false=>exact isTrue_or_nil e
 |true=>exact e
def PK(ha:PT X a tA)(hb:PW X (.BoolOp .And (b::rest) pos) Wh):PW X (.BoolOp .And (a::b::rest) pos) (Zt tA Wh):=by
 intro wh pins s σ H Q I h;refine isTrue_and (cX (ha pins s σ H _ I h) λc s1 h0=>?_);obtain⟨H1,I1,q1⟩:=h0;cases c with
 |true=>exact hb wh pins s1 σ H1 Q I1 q1
 |false=>exact⟨H1,I1,q1⟩
def t_(ha:PT X a tA)(hb:PW X (.BoolOp .Or (b::rest) pos) Wh):PW X (.BoolOp .Or (a::b::rest) pos) (tOr tA Wh):=by
 intro wh pins s σ H Q I h;refine isTrue_or (cX (ha pins s σ H _ I h) λc s1 h0=>?_);obtain⟨H1,I1,q1⟩:=h0;cases c with
 |true=>exact⟨H1,I1,q1⟩
 |false=>exact hb wh pins s1 σ H1 Q I1 q1
def jJ(ha:PT X a tA):PT X (.UnaryOp .Not a pos) (Zu tA):=by
 intro pins s σ H Q I h;exact isTrue_not (ha pins s σ H (λc H1=>Q (!c) H1) I h)
def T7(ta tb:TE):TE:=λσ H Q=>ta σ H λx H1=>∃c,x=.bl c/\if c=true then tb σ H1 Q else Q (.bl false) H1
def KC{op}{t:TE}(h:PE X a t):PE X (.BoolOp op [a] pos) t:=λpins s σ H Q I hw=>BoolOp_one (h pins s σ H Q I hw)
def KD(ha:PE X a ta)(hb:PE X (.BoolOp .And (b::rest) pos) tb):PE X (.BoolOp .And (a::b::rest) pos) (T7 ta tb):=by
 intro pins s σ H Q I h;refine BoolOp_and (cX (ha pins s σ H _ I h) λv s1 h0=>?_);obtain⟨x,H1,I1,r1,q1⟩:=h0;obtain⟨c,rfl,q1⟩:=q1;cases r1;refine yg ?_;cases c with
 |true=>exact hb pins s1 σ H1 Q I1 q1
 |false=>exact⟨.bl false,H1,I1,rfl,q1⟩
def tIf(t:TT)(ta tb:TE):TE:=λσ H Q=>t σ H λc H1=>if c=true then ta σ H1 Q else tb σ H1 Q
def jm{c:Expr}(hc:PT X c tA)(ha:PE X a ta)(hb:PE X b tb):PE X (.IfExp c a b pos) (tIf tA ta tb):=by
 intro pins s σ H Q I h;refine wpAny_IfExp (cX (hc pins s σ H _ I h) λd s1 h0=>?_);obtain⟨H1,I1,q1⟩:=h0;cases d with
 |true=>exact ha pins s1 σ H1 Q I1 q1
 |false=>exact hb pins s1 σ H1 Q I1 q1
end
def aX(K:W.Frag)(H:Hp)(a:Addr)(xs:List V):Prop:=
 Rd H a (.lst xs)\/
  ∃(o:Obj) (its:Array Value) (n:Nat),K.lookup a=some o/\o.cls=.type "list" /\o.dict=none/\o.data=.seq its n/\its.size<=sizeLine/\Vals xs its.toList
def mW(K:W.Frag)(H:Hp)(a:Addr)(xs:List V):Prop:=
 Rd H a (.tup xs)\/
  ∃(o:Obj) (its:Array Value) (n:Nat),K.lookup a=some o/\o.cls=.type "tuple" /\o.data=.seq its n/\its.size<=sizeLine/\Vals xs its.toList
noncomputable def Zv:Value->Option V
 | .none=>some .gq
 | .bool b=>some (.bl b)
 | .int i _=>some (.int i)
 | .str x _=>some (.str x)
 | .bytes b _=>some (.B0 b)
 | .float b _=>some (.PB b)
 | .ref a=>some (.ref a)
 | .type n=>some (.ty n)
 |_=>none
def RelV.abs{x:V}{u:Value}(r:RelV x u):Zv u=some x:=by
 cases x with
 |gq=>cases r;rfl
 |bl _=>cases r;rfl
 |int _=>obtain⟨t,rfl⟩:=r;rfl
 |str _=>obtain⟨t,rfl⟩:=r;rfl
 |B0 _=>obtain⟨t,rfl⟩:=r;rfl
 |PB _=>obtain⟨t,rfl⟩:=r;rfl
 |ref _=>cases r;rfl
 |ty _=>cases r;rfl
def RelV.inj{x y:V}{u:Value}(r:RelV x u)(q:RelV y u):x=y:=fG (r.abs.symm.trans q.abs)
theorem Vals.inj:∀{xs ys:List V} {us:List Value},Vals xs us->Vals ys us->xs=ys
 |_,_,_,.nil,.nil=>rfl
 |_,_,_,.cons r t,.cons r' t'=>by rw[r.inj r',Vals.inj t t']
section
variable{X:Cx}{pins:List (Addr×Obj)}{σ:St}{H:Hp}{s:Shared}{a:Addr}{xs ys:List V}
def aX.of{K:W.Frag}(h:H a=some (.lst xs)):aX K H a xs:= .inl (.inl h)
def mW.of{K:W.Frag}(h:H a=some (.tup xs)):mW K H a xs:= .inl (.inl h)
def Inv.list(I:Inv X pins σ H s)(h:aX X.K H a xs):∃its:List Value,Vals xs its/\PlainL s.heap a its.toArray/\xs.length<=sizeLine:=by
 rcases h with h|⟨o,its,n,hk,hc,hd,hs,hz,r⟩
 ·obtain⟨z,its,n,r,e⟩:=h.ok I.hok;exact⟨its,r,⟨_,n,e,rfl,rfl,rfl⟩,z⟩
 ·refine⟨its.toList,r,⟨o,n,I.rD a o hk,hc,hd,by simpa using hs⟩,?_⟩;have e:=r.length
  simp only[jo]at e;omega
def Inv.tuple(I:Inv X pins σ H s)(h:mW X.K H a xs):∃its:List Value,Vals xs its/\IsTup s.heap a its.toArray/\xs.length<=sizeLine:=by
 rcases h with h|⟨o,its,n,hk,hc,hs,hz,r⟩
 ·obtain⟨z,its,r,p⟩:=h.ok I.hok;exact⟨its,r,p,z⟩
 ·refine⟨its.toList,r,⟨o,I.rD a o hk,hc,n,by simpa using hs⟩,?_⟩;have e:=r.length
  simp only[jo]at e;omega
def Inv.CS(I:Inv X pins σ H s)(h:aX X.K H a xs)(h':aX X.K H a ys):xs=ys:=by
 obtain⟨its,r,⟨o,n,e,_,_,d⟩,_⟩:=I.list h;obtain⟨its',r',⟨o',n',e',_,_,d'⟩,_⟩:=I.list h';rw[e]at e';cases e';rw[d]at d';injection d' with d1 _
 have:its=its':=by simpa using jd Array.toList d1
 subst this;exact r.inj r'
def Inv.NP(I:Inv X pins σ H s)(h:mW X.K H a xs)(h':mW X.K H a ys):xs=ys:=by
 obtain⟨its,r,⟨o,e,_,n,d⟩,_⟩:=I.tuple h;obtain⟨its',r',⟨o',e',_,n',d'⟩,_⟩:=I.tuple h';rw[e]at e';cases e';rw[d]at d';injection d' with d1 _
 have:its=its':=by simpa using jd Array.toList d1
 subst this;exact r.inj r'
end
noncomputable abbrev Cx.Br (X:Cx) (E:Value->Shared->Prop):Cx:={X with xe:=E}
noncomputable abbrev Cx.Wi (X:Cx):Cx:=X.Br λ_ _=>False
theorem Cx.Ok.Br{X:Cx}(ok:X.Ok)(E:Value->Shared->Prop):(X.Br E).Ok:=
 ⟨ok.mod,ok.kind,ok.glob,ok.blt,ok.above,ok.inj,ok.has,ok.UZ,ok.hd,ok.frames,ok.stk,ok.Wf,ok.bs,ok.NL,ok.NN,ok.NO,ok.xT,ok.RU⟩
def Cx.Ok.sJ{X:Cx}{E:Value->Shared->Prop}(ok:(X.Br E).Ok):X.Ok:=
 ⟨ok.mod,ok.kind,ok.glob,ok.blt,ok.above,ok.inj,ok.has,ok.UZ,ok.hd,ok.frames,ok.stk,ok.Wf,ok.bs,ok.NL,ok.NN,ok.NO,ok.xT,ok.RU⟩
section
variable{X:Cx}{pins:List (Addr×Obj)}{σ:St}{H:Hp}{s:Shared}{E:Value->Shared->Prop}
theorem Inv.Br(I:Inv X pins σ H s)(E:Value->Shared->Prop):Inv (X.Br E) pins σ H s:=⟨I.ok.Br E,I.os,I.bare,I.base,I.loc,I.cell,I.free,I.pK,I.pin,I.hok,I.len⟩
theorem Inv.sJ(I:Inv (X.Br E) pins σ H s):Inv X pins σ H s:=⟨I.ok.sJ,I.os,I.bare,I.base,I.loc,I.cell,I.free,I.pK,I.pin,I.hok,I.len⟩
theorem SP.sJ{D:Ends}{f:Flow}{s':Shared}(h:SP (X.Br E) pins D f s'):SP X pins D f s':=by
 cases f with
 |next=>obtain⟨σ',H',I,q⟩:=h;exact⟨σ',H',I.sJ,q⟩
 |brk=>obtain⟨σ',H',I,q⟩:=h;exact⟨σ',H',I.sJ,q⟩
 |cont=>obtain⟨σ',H',I,q⟩:=h;exact⟨σ',H',I.sJ,q⟩
 |ret u=>obtain⟨v,σ',H',I,r,q⟩:=h;exact⟨v,σ',H',I.sJ,r,q⟩
theorem GW.Wi{st:List Stmt}{t:TS}(h:GW X.Wi st t):GW X st t:=λpins s σ H D I hw=>
 mT (h pins s σ H D (I.Br _) hw) (λ_ _ q=>q.sJ) λ_ _ z=>False.elim z
end
section
variable{X:Cx}{st:Stmt}{rest:List Stmt}{t u:TS}{e:Expr}{te:TE}{pos:Pos}
def Xf:TS:=λD σ H=>D.nx σ H
def Zw(t u:TS):TS:=λD σ H=>t {D with nx:=u D} σ H
def aN:GW X [] Xf:=λ_ _ σ H _ I h=>Fq ⟨σ,H,I,h⟩
def ak(h1:PS X st t)(h2:GW X rest u):GW X (st::rest) (Zw t u):=by
 intro pins s σ H D I h;refine wpAny_execs_cons (cX (h1 pins s σ H {D with nx:=u D} I h) λf s1 q=>?_);cases f with
 |next=>
  obtain⟨σ',H',I',q⟩:=q;exact h2 pins s1 σ' H' D I' q
 |ret v=>exact q
 |brk=>exact q
 |cont=>exact q
def ao(h1:PS X st t):GW X [st] t:=by
 intro pins s σ H D I h;refine wpAny_execs_cons (cX (h1 pins s σ H D I h) λf s1 q=>?_);cases f with
 |next=>exact Fq q
 |ret v=>exact q
 |brk=>exact q
 |cont=>exact q
def Inv.quiet{pins:List (Addr×Obj)}{σ:St}{H:Hp}{s:Shared}(I:Inv X pins σ H s):interactive X.env=false:=by simp[interactive,I.ok.kind]
def Xg(te:TE):TS:=λD σ H=>te σ H λ_ H1=>D.nx σ H1
def bQ(he:PE X e te)(hs:swapsWith e none pos.line X.env=pure false:=by rfl):PS X (.Expr e pos) (Xg te):=by
 intro pins s σ H D I h;refine wpAny_Expr_any (cX (he pins s σ H _ I h) λv s1 h0=>?_) I.quiet hs;obtain⟨x,H1,I1,r1,q1⟩:=h0;exact⟨σ,H1,I1,q1⟩
def Zx(te:TE):TS:=λD σ H=>te σ H D.rt
def aC(he:PE X e te):PS X (.Return (some e) pos) (Zx te):=by
 intro pins s σ H D I h;refine wpAny_Return_some (cX (he pins s σ H _ I h) λv s1 h0=>?_);obtain⟨x,H1,I1,r1,q1⟩:=h0;exact⟨x,σ,H1,I1,r1,q1⟩
def Xh:TS:=λD _ H=>D.rt .gq H
def Gw:PS X (.Return none pos) Xh:=λ_ _ σ H _ I h=>wpAny_Return_none ⟨.gq,σ,H,I,rfl,h⟩
def Zy(c:TT)(t u:TS):TS:=λD σ H=>c σ H λb H1=>if b=true then t D σ H1 else u D σ H1
def bx{c:Expr}{a b:List Stmt}{tc:TT}(hc:PT X c tc)(ha:GW X a t)(hb:GW X b u):PS X (.If c a b pos) (Zy tc t u):=by
 intro pins s σ H D I h;refine wpAny_If (cX (hc pins s σ H _ I h) λd s1 h0=>?_);obtain⟨H1,I1,q1⟩:=h0;cases d with
 |true=>exact ha pins s1 σ H1 D I1 q1
 |false=>exact hb pins s1 σ H1 D I1 q1
end
abbrev TG:=V->St->Hp->(St->Hp->Prop)->Prop
abbrev RW:=List V->St->Hp->(St->Hp->Prop)->Prop
def PG(X:Cx)(target:Expr)(t:TG):Prop:=
 ∀(pins:List (Addr×Obj)) (s:Shared) (σ:St) (H:Hp) (v:V) (u:Value) (Q:St->Hp->Prop),Inv X pins σ H s->RelV v u->t v σ H Q->
  wpAny (model X.prog X.w) X.A (assign target X.env u) (λ_ s'=>∃σ' H',Inv X pins σ' H' s'/\Q σ' H') X.xe s
def Wj(X:Cx)(ts:List Expr)(t:RW):Prop:=
 ∀(pins:List (Addr×Obj)) (s:Shared) (σ:St) (H:Hp) (vs:List V) (us:List Value) (Q:St->Hp->Prop),Inv X pins σ H s->Vals vs us->t vs σ H Q->
  wpAny (model X.prog X.w) X.A (assignInOrder ((assignEach ts X.env).map (·.2)) us) (λ_ s'=>∃σ' H',Inv X pins σ' H' s'/\Q σ' H') X.xe s
abbrev Yz:=V->V->Hp->VK->Prop
def PIp(X:Cx)(op:Operator)(t:Yz):Prop:=
 ∀(pins:List (Addr×Obj)) (s:Shared) (σ:St) (H:Hp) (x y:V) (v u:Value) (Q:VK),Inv X pins σ H s->RelV x v->RelV y u->t x y H Q->
  wpAny (model X.prog X.w) X.A (inplaceOp op v u) (EP X pins σ Q) X.xe s
section
variable{X:Cx}{pos:Pos}
def yO(i:Nat):TG:=λv σ H Q=>Q (σ.set i (some v)) H
def b_{i:Nat}{x:Str}(hN:X.N.Nodup)(hi:X.N[i]? =some x)(hx:Loc X.env.scope x)(hf:X.fn x=true\/X.env.scope.names.lookup x=some .local:=by first|exact .inl rfl|exact .inr rfl|assumption):PG X (.Name x pos) (yO i):=by
 intro pins s σ H v u Q I r h;exact wpAny_assign_Name (CQ I hN hi hx r (λs' I'=>⟨_,H,I',h⟩) hf)
def Wk:RW:=λvs σ H Q=>vs=[]/\Q σ H
def O4(t:TG)(u:RW):RW:=λvs σ H Q=>∃v r,vs=v::r/\t v σ H λσ' H'=>u r σ' H' Q
def Gx:Wj X [] Wk:=by
 intro pins s σ H vs us Q I r h;obtain⟨e,h⟩:=h;subst e;cases r;exact assignInOrder_nil ⟨σ,H,I,h⟩
def qo{e:Expr}{es:List Expr}{t:TG}{u:RW}(h1:PG X e t)(h2:Wj X es u)
  (hs:(assignEach (e::es) X.env).map (·.2)=assign e X.env::(assignEach es X.env).map (·.2):=by rfl):Wj X (e::es) (O4 t u):=by
 intro pins s σ H vs us Q I r h;obtain⟨v,vr,e1,h⟩:=h;subst e1;cases r with
 |cons r rr=>
  rw[hs];refine assignInOrder_cons (cX (h1 pins s σ H _ _ _ I r h) λ_ s1 h0=>?_);obtain⟨σ1,H1,I1,q1⟩:=h0;exact h2 pins s1 σ1 H1 _ _ Q I1 rr q1
inductive Wl(K:W.Frag)(n:Nat)(t:RW)(v:V)(σ:St)(H:Hp)(Q:St->Hp->Prop):Prop
 |mk (a:_) (xs:_) (_:v=.ref a) (_:mW K H a xs) (_:xs.length=n) (_:t xs σ H Q)
def KG{es:List Expr}{k:Nat}{t:RW}{n:Nat}(hc:X.calm=true)(h:Wj X es t)
  (hn:(assignEach es X.env).length=n:=by rfl) (hst:(assignEach es X.env).findIdx? (·.1)=none:=by rfl):PG X (.Tuple es k pos) (Wl X.K n t):=by
 intro pins s σ H v u Q I r hw;obtain⟨a,xs,e1,hq,hl,hw⟩:=hw;subst e1;cases r;obtain⟨its,rv,ht,hz⟩:=I.tuple hq;refine assign_Tuple_tuple (I.ok.hd hc) ht (by simp[hn,<- hl,rv.length]) hst λh' hx=>?_
 have I1:Inv X pins σ H {s with heap:=h'}:=I.kept (t':=s.toks) λb o e=>hx b o (iG (cC e)) e
 exact h pins _ σ H xs _ Q I1 (by simpa using rv) hw
def Wm(te:TE)(g:TG):TS:=λD σ H=>te σ H λx H1=>g x σ H1 D.nx
def aJ{i:Nat}{x:Str}{e:Expr}{te:TE}{pos':Pos}(hN:X.N.Nodup)(hi:X.N[i]? =some x)(hx:Loc X.env.scope x)(he:PE X e te)(hs:swapsWith e (some (.Name x pos')) pos.line X.env=pure false:=by rfl)(hf:X.fn x=true\/X.env.scope.names.lookup x=some .local:=by first|exact .inl rfl|exact .inr rfl|assumption):
  PS X (.Assign [.Name x pos'] e pos) (Wm te (yO i)):=by
 intro pins s σ H D I h;refine wpAny_Assign_Name (cX (he pins s σ H _ I h) λv s1 h0=>?_) hs;obtain⟨y,H1,I1,r1,q1⟩:=h0;exact CQ I1 hN hi hx r1 (λs2 I2=>⟨_,H1,I2,q1⟩) hf
def Zz(i:Nat)(te:TE)(ti:Yz):TS:=λD σ H=>∃x,σ[i]? =some (some x)/\te σ H λy H1=>ti x y H1 λz H2=>D.nx (σ.set i (some z)) H2
def PL{i:Nat}{x:Str}{e:Expr}{te:TE}{op:Operator}{ti:Yz}{pos':Pos}(hN:X.N.Nodup)(hi:X.N[i]? =some x)(hx:Loc X.env.scope x)(he:PE X e te)(ho:PIp X op ti)(hf:X.fn x=true\/X.env.scope.names.lookup x=some .local:=by first|exact .inl rfl|exact .inr rfl|assumption):
  PS X (.AugAssign (.Name x pos') op e pos) (Zz i te ti):=by
 intro pins s σ H D I h;obtain⟨v,e1,h⟩:=h;obtain⟨m,hn,hl⟩:=I.loc;have vis:RT X.env.scope x:=by rcases hx with k|k;exact .inl k;exact .inr (.inl k)
 obtain⟨u,r,l⟩:=hl i x v hi e1 vis;refine wpAny_AugAssign_Name ?_;have go:wpAny (model X.prog X.w) X.A (eval e X.env) (λw s₂=>wpAny (model X.prog X.w) X.A (inplaceOp op u w) (λr s₃=>wpAny (model X.prog X.w) X.A (storeName X.env x r) (λ_=>SP X pins D .next) X.xe s₃) X.xe s₂) X.xe s:=by
  refine cX (he pins s σ H _ I h) λw s1 h0=>?_
  obtain⟨y,H1,I1,r1,q1⟩:=h0;refine cX (ho pins s1 σ H1 v y u w _ I1 r r1 q1) λz s2 h0=>?_
  obtain⟨zv,H2,I2,r2,q2⟩:=h0;exact CQ I2 hN hi hx r2 (λs3 I3=>⟨_,H2,I3,q2⟩) hf
 rcases l with⟨hk,hm⟩|⟨hk,c,hc,hcell⟩
 ·exact wpAny_loadName_local I.ok.kind hk hn hm go
 ·rcases hk with hk|hk
  ·exact wpAny_loadName_cell I.ok.kind hk hc hcell go
  ·rcases hx with k|k
   ·have:X.env.scope.names.lookup x=some .free:=hk;rw[k]at this;cases this
   ·have:X.env.scope.names.lookup x=some .free:=hk;rw[k]at this;cases this
inductive ipI(f:Int->Int->Int)(x:V)(y:V)(H:Hp)(Q:VK):Prop
 |mk (i:_) (j:_) (_:x=.int i) (_:y=.int j) (_:Q (.int (f i j)) H)
def PM:PIp X .Add (ipI λi j=>i+j):=by
 intro pins s σ H x y v u Q I r1 r2 h;obtain⟨i,j,e1,e2,q⟩:=h;subst e1;subst e2;obtain⟨t,rfl⟩:=r1;obtain⟨t',rfl⟩:=r2;exact iadd_int ⟨.int _,H,I.tok _,⟨_,rfl⟩,q⟩
end
section
variable{X:Cx}{pos:Pos}
def U3(c:TT)(tb:TS):TS:=λD σ H=>∃W:Nat->St->Hp->Prop,(∃m,W m σ H)/\∀m σ H,W m σ H->
 c σ H λb H1=>if b=true then∃N:St->Hp->Prop,(∀σ' H',N σ' H'->∃m',m'<m/\W m' σ' H')/\tb {D with nx:=N,ct:=N,bk:=D.nx} σ H1 else D.nx σ H1
def IQ{c:Expr}{body:List Stmt}{tc:TT}{tb:TS}(hp:PassesOwn (model X.prog X.w) X.A X.env X.xe)(hc:PT X c tc)(hb:GW X body tb):PS X (.While c body [] pos) (U3 tc tb):=by
 intro pins s σ H D I h;obtain⟨W,⟨m0,w0⟩,turn⟩:=h;refine wpAny_While (codeAny_whileLoop (λn s'=>∃σ' H',Inv X pins σ' H' s'/\W n σ' H') ?_ m0 ⟨σ,H,I,w0⟩)
 rintro n s1 ⟨σ1,H1,I1,w1⟩
 refine vJ hp (cX (hc pins s1 σ1 H1 _ I1 (turn n σ1 H1 w1)) λb s2 h0=>?_);obtain⟨H2,I2,q2⟩:=h0;cases b with
 |true=>
  obtain⟨N,hN,q2⟩:=q2;rw[ay rfl];refine vJ hp (cX (hb pins s2 σ1 H2 _ I2 q2) λf s3 q3=>?_);cases f with
  |next=>
   obtain⟨σ3,H3,I3,n3⟩:=q3;obtain⟨m',hm,w3⟩:=hN σ3 H3 n3;exact⟨m',hm,σ3,H3,I3,w3⟩
  |cont=>
   obtain⟨σ3,H3,I3,n3⟩:=q3;obtain⟨m',hm,w3⟩:=hN σ3 H3 n3;exact⟨m',hm,σ3,H3,I3,w3⟩
  |brk=>exact q3
  |ret v=>exact q3
 |false=>
  rw[aq gZ];exact Fq ⟨σ1,H2,I2,q2⟩
end
structure It where
 go:Nat->Hp->Prop
 El:Nat->Hp->V->Hp->Prop
 stop:Nat->Hp->Prop
def xU(X:Cx)(pins:List (Addr×Obj))(H:Hp)(b:Addr):Prop:=
 H b=none/\b≠X.env.locals/\b∉X.fs/\(b∈X.ex\/X.yL.heap.objs.size<=b)/\(∀x c,X.env.cells.lookup x=some c->c≠b)/\∀p∈X.pn++pins,p.1≠b
def Inv.Il{X:Cx}{pins:List (Addr×Obj)}{σ:St}{H H':Hp}{s:Shared}{b:Addr}(I:Inv X pins σ H s)(hb:s.heap.objs.size<=b)(hn:H' b=none):xU X pins H' b:=by
 refine⟨hn,o7 (jZ I.lt hb),I.Zo hb,.inr (gz I.sz hb),λx c e z=>?_,λp hp z=>?_⟩
 ·obtain⟨v,q⟩:=I.cell x c e;exact absurd (jZ q.lt (by rw[z];exact hb)) (tW _)
 ·exact absurd (jZ (cC (I.pin p hp).1) (by rw[z];exact hb)) (tW _)
structure Turn(P:Program)(w:World)(K:W.Frag)(tg:Expr)(J:It)(fp:List Addr)(it:Addr)(tn:Nat->Heap->Prop):Prop where
 mem:it∈fp
 obj:∀i h,tn i h->∀b∈fp,∃o,h.get? b=some o/\∀v,o.data≠ .cell v
 keep:∀i h h',tn i h->(∀b∈fp,∀o,h.get? b=some o->h'.get? b=some o)->tn i h'
 item:∀(X:Cx),X.prog=P->X.w=w->X.K=K->X.calm=true->∀(i:Nat) (pins:List (Addr×Obj)) (s:Shared) (σ:St) (H:Hp) (E:Value->Shared->Prop),Inv X pins σ H s->(∀b∈fp,xU X pins H b)->tn i s.heap->J.go i H->
  wpAny (model P w) X.A (pyNext (.ref it)) (λr s1=>∃u,r=some u/\
   wpAny (model P w) X.A (letOwnedTupleGo tg (.ref it) u) (λ_ s2=>∃x H',Inv X pins σ H' s2/\RelV x u/\J.El i H x H'/\tn (i+1) s2.heap/\∀b∈fp,H' b=none) E s1) E s
 done:∀(X:Cx),X.prog=P->X.w=w->X.K=K->X.calm=true->∀(i:Nat) (pins:List (Addr×Obj)) (s:Shared) (σ:St) (H:Hp) (E:Value->Shared->Prop),Inv X pins σ H s->(∀b∈fp,xU X pins H b)->tn i s.heap->J.stop i H->
  wpAny (model P w) X.A (pyNext (.ref it)) (λr s1=>r=none/\Inv X pins σ H s1) E s
 self:∀(A:Around) (i:Nat) (s:Shared) (Q:Value->Shared->Prop) (E:Value->Shared->Prop),tn i s.heap->Q (.ref it) s->wpAny (model P w) A (pyIter (.ref it)) Q E s
abbrev TI:=St->Hp->(It->Hp->Prop)->Prop
def YA(X:Cx)(pins:List (Addr×Obj))(σ:St)(tg:Expr)(R:It->Hp->Prop)(itv:Value)(s2:Shared):Prop:=
 ∃(it:Addr) (fp:List Addr) (tn:Nat->Heap->Prop) (J:It) (H':Hp),itv=.ref it/\Inv X pins σ H' s2/\Turn X.prog X.w X.K tg J fp it tn/\tn 0 s2.heap/\(∀b∈fp,xU X pins H' b)/\R J H'
def PI(X:Cx)(tg iter:Expr)(wi:TI):Prop:=
 ∀(pins:List (Addr×Obj)) (s:Shared) (σ:St) (H:Hp) (R:It->Hp->Prop),Inv X pins σ H s->wi σ H R->
  wpAny (model X.prog X.w) X.A (eval iter X.env) (λv s1=>wpAny (model X.prog X.w) X.A (pyIter v) (YA X pins σ tg R) X.xe s1) X.xe s
def Bj{M:Model}{A:Around}{E:Value->Shared->Prop}{s:Shared}{tg:Expr}{it:Addr}{u:Value}{o:Obj}{n:String}{vs:Array Value}{Q:Unit->Shared->Prop}(ho:s.heap.get? it=some o)(hc:o.cls=.type n)(hd:o.data=.fields vs)
  (hn: ["enumerate","zip","dict_itemiterator","dict_reverseitemiterator","odict_iterator","itertools.zip_longest","itertools.pairwise"].contains n=false) (hQ:Q () s):wpAny M A (letOwnedTupleGo tg (.ref it) u) Q E s:=by
 unfold letOwnedTupleGo;cases tg<;>first
  |exact aP hQ
  |(cases u<;>first
    |exact aP hQ
    |(refine aB (wpAny_load ho ?_)
      rw[hc,hd];show wpAny M A (if(["enumerate","zip","dict_itemiterator","dict_reverseitemiterator","odict_iterator","itertools.zip_longest","itertools.pairwise"].contains n&&vs[0]? ==some (rawInt _))=true then _ else _) Q E s
      rw[aq (by intro h;rw[hn,sr]at h;cases h)];exact aP hQ))
noncomputable def PN (K:W.Frag) (a:Addr):It:=
 ⟨λi H=>∃xs x,aX K H a xs/\xs[i]? =some x,λi H x H'=>H'=H/\∀xs,aX K H a xs->xs[i]? =some x,λi H=>∃xs,aX K H a xs/\xs.length<=i⟩
noncomputable def U4 (K:W.Frag) (a:Addr):It:=
 ⟨λi H=>∃xs x,mW K H a xs/\xs[i]? =some x,λi H x H'=>H'=H/\∀xs,mW K H a xs->xs[i]? =some x,λi H=>∃xs,mW K H a xs/\xs.length<=i⟩
noncomputable def MN (lo:Int) (n:Nat):It:=⟨λi _=>i<n,λi H x H'=>H'=H/\x=.int (lo+i),λi _=>n<=i⟩
def NQ{P:Program}{w:World}{K:W.Frag}{tg:Expr}(a it:Addr):Turn P w K tg (PN K a) [it] it (λi h=>h.IsListIter it a i) where
 mem:=by simp
 obj:=λi h st b hb=>by
  have e:b=it:=by simpa using hb
  subst e;obtain⟨o,e,c,d⟩:=st;exact⟨o,e,λv z=>by rw[d]at z;cases z⟩
 keep:=λi h h' st k=>st.at λo e=>k it (by simp) o e
 item:=by
  intro X hP hw hK hc i pins s σ H E I hf st hg;subst hP hw hK;obtain⟨xs,x,hq,hx⟩:=hg;obtain⟨its,rv,p,hz⟩:=I.list hq;obtain⟨u,hu,ru⟩:=rv.get hx;obtain⟨f0,f1,f2,f3,f4,f5⟩:=hf it (by simp);refine wpAny_pyNext_list_item st p.isList (x:=u) (by simpa using hu) λh' st' sb=>?_
  have I1:Inv X pins σ H {s with heap:=h'}:=I.turned (t':=s.toks) (λb o hb e=>(sb.2 b hb).trans e) f0 f1 f3 f4 f5;obtain⟨o,e,c,d⟩:=id st';exact⟨u,rfl,Bj (s:={s with heap:=h'}) e c d (by decide) ⟨x,H,I1,ru,⟨rfl,λys hy=>by rw[I.CS hy hq];exact hx⟩,st',λb hb=>(hf b hb).1⟩⟩
 done:=by
  intro X hP hw hK hc i pins s σ H E I hf st hg;subst hP hw hK;obtain⟨xs,hq,hx⟩:=hg;obtain⟨its,rv,p,hz⟩:=I.list hq;obtain⟨f0,f1,f2,f3,f4,f5⟩:=hf it (by simp);have hl:=rv.length
  exact wpAny_pyNext_list_end (I.ok.hd hc) st p.isList (by simp;omega) λh' eb=>⟨rfl,I.turned (t':=s.toks) (λb o hb e=>eb b o hb e) f0 f1 f3 f4 f5⟩
 self:=λ_ _ _ _ _ st h=>wpAny_pyIter_listiter st h
def LA{P:Program}{w:World}{K:W.Frag}{tg:Expr}(a it:Addr):Turn P w K tg (U4 K a) [it] it (λi h=>h.IsTupleIter it a i) where
 mem:=by simp
 obj:=λi h st b hb=>by
  have e:b=it:=by simpa using hb
  subst e;obtain⟨o,e,c,d⟩:=st;exact⟨o,e,λv z=>by rw[d]at z;cases z⟩
 keep:=λi h h' st k=>st.at λo e=>k it (by simp) o e
 item:=by
  intro X hP hw hK hc i pins s σ H E I hf st hg;subst hP hw hK;obtain⟨xs,x,hq,hx⟩:=hg;obtain⟨its,rv,p,hz⟩:=I.tuple hq;obtain⟨u,hu,ru⟩:=rv.get hx;obtain⟨f0,f1,f2,f3,f4,f5⟩:=hf it (by simp);refine wpAny_pyNext_tuple_item st (show s.heap.IsTuple a its.toArray from p) (x:=u) (by simpa using hu) λh' st' sb=>?_
  have I1:Inv X pins σ H {s with heap:=h'}:=I.turned (t':=s.toks) (λb o hb e=>(sb.2 b hb).trans e) f0 f1 f3 f4 f5;obtain⟨o,e,c,d⟩:=id st';exact⟨u,rfl,Bj (s:={s with heap:=h'}) e c d (by decide) ⟨x,H,I1,ru,⟨rfl,λys hy=>by rw[I.NP hy hq];exact hx⟩,st',λb hb=>(hf b hb).1⟩⟩
 done:=by
  intro X hP hw hK hc i pins s σ H E I hf st hg;subst hP hw hK;obtain⟨xs,hq,hx⟩:=hg;obtain⟨its,rv,p,hz⟩:=I.tuple hq;obtain⟨f0,f1,f2,f3,f4,f5⟩:=hf it (by simp);have hl:=rv.length
  exact wpAny_pyNext_tuple_end (I.ok.hd hc) st (show s.heap.IsTuple a its.toArray from p) (by simp;omega) λh' eb=>⟨rfl,I.turned (t':=s.toks) (λb o hb e=>eb b o hb e) f0 f1 f3 f4 f5⟩
 self:=λ_ _ _ _ _ st h=>wpAny_pyIter_tupleiter st h
def LB{P:Program}{w:World}{K:W.Frag}{tg:Expr}(it:Addr)(lo:Int)(n:Nat):Turn P w K tg (MN lo n) [it] it (λi h=>IsRangeIter h it (lo+(i:Nat)*1) ((n:Int)-(i:Nat)) 1) where
 mem:=by simp
 obj:=λi h st b hb=>by
  have e:b=it:=by simpa using hb
  subst e;exact⟨_,st,λv z=>by
   have z':Data.fields _=Data.cell v:=z;cases z'⟩
 keep:=λi h h' st k=>k it (by simp) _ st
 item:=by
  intro X hP hw hK hc i pins s σ H E I hf st hg;subst hP hw hK;obtain⟨f0,f1,f2,f3,f4,f5⟩:=hf it (by simp);have W:=Walks.range (prog:=X.prog) (w:=X.w) (I.ok.hd hc) it lo 1 n
  refine W.item i s _ _ hg st λv h' tk hv st' kk=>?_
  obtain⟨t,rfl⟩:=hv;have I1:Inv X pins σ H {s with heap:=h',toks:=tk}:=I.turned (λb o hb e=>kk b o (by simpa using hb) e) f0 f1 f3 f4 f5
  refine⟨_,rfl,Bj (s:={s with heap:=h',toks:=tk}) (n:="range_iterator") st' rfl rfl (by decide) ⟨.int (lo+i),H,I1,⟨t,?_⟩,⟨rfl,rfl⟩,st',λb hb=>(hf b hb).1⟩⟩;rw[Int.mul_one]
 done:=by
  intro X hP hw hK hc i pins s σ H E I hf st hg;subst hP hw hK;obtain⟨f0,f1,f2,f3,f4,f5⟩:=hf it (by simp);exact wpAny_pyNext_range_end (I.ok.hd hc) st (by have:n<=i:=hg;omega) λh' eb=>⟨rfl,I.turned (t':=s.toks) (λb o hb e=>eb b o hb e) f0 f1 f3 f4 f5⟩
 self:=λ_ _ _ _ _ st h=>wpAny_pyIter_rangeiter st h
section
variable{X:Cx}{tg:Expr}
def Xi(K:W.Frag)(tl:TE):TI:=λσ H R=>tl σ H λx H1=>∃a,x=.ref a/\(∃xs,aX K H1 a xs)/\R (PN K a) H1
def ZA(K:W.Frag)(tl:TE):TI:=λσ H R=>tl σ H λx H1=>∃a,x=.ref a/\(∃xs,mW K H1 a xs)/\R (U4 K a) H1
def i6{l:Expr}{tl:TE}(hl:PE X l tl):PI X tg l (Xi X.K tl):=by
 intro pins s σ H R I h;refine cX (hl pins s σ H _ I h) λv s1 h0=>?_
 obtain⟨x,H1,I1,r1,q1⟩:=h0;obtain⟨a,e,⟨xs,hq⟩,q⟩:=q1;subst e;cases r1;obtain⟨its,rv,p,hz⟩:=I1.list hq;refine wpAny_pyIter_list p.isList ?_;refine⟨s1.heap.objs.size,[s1.heap.objs.size],_,_,H1,rfl,I1.kept (t':=s1.toks) λb o e=>eB _ e,NQ a _,⟨_,fB _ rfl,rfl,rfl⟩,λb hb=>?_,q⟩;have e:b=s1.heap.objs.size:=by simpa using hb
 subst e;exact I1.Il (bw _) (I1.hok.fresh (bw _))
def U5{l:Expr}{tl:TE}(hl:PE X l tl):PI X tg l (ZA X.K tl):=by
 intro pins s σ H R I h;refine cX (hl pins s σ H _ I h) λv s1 h0=>?_
 obtain⟨x,H1,I1,r1,q1⟩:=h0;obtain⟨a,e,⟨xs,hq⟩,q⟩:=q1;subst e;cases r1;obtain⟨its,rv,p,hz⟩:=I1.tuple hq;refine wpAny_pyIter_tuple (show s1.heap.IsTuple a its.toArray from p) ?_;refine⟨s1.heap.objs.size,[s1.heap.objs.size],_,_,H1,rfl,I1.kept (t':=s1.toks) λb o e=>eB _ e,LA a _,⟨_,fB _ rfl,rfl,rfl⟩,λb hb=>?_,q⟩;have e:b=s1.heap.objs.size:=by simpa using hb
 subst e;exact I1.Il (bw _) (I1.hok.fresh (bw _))
def IS{pins:List (Addr×Obj)}{σ:St}{H:Hp}{s:Shared}{R:It->Hp->Prop}{E:Value->Shared->Prop}{lo hi:Int}{t u v:Tok}{tk:Nat}(I:Inv X pins σ H s)(h1: -(2^62)<=lo)(h2:lo<2^62)(h3: -(2^62)<=hi)(h4:hi<2^62)
  (q:R (MN lo (hi-lo).toNat) H):wpAny (model X.prog X.w) X.A (pyIter (.ref s.heap.objs.size)) (YA X pins σ tg R) E {s with heap:=s.heap.push {cls:= .type "range",data:= .fields #[.int lo t,.int hi u,.int 1 v]},toks:=tk}:=by
 refine wpAny_pyIter_range (IsRange.new ..) (small_one h1 h2 h3 h4) ?_;have I1:Inv X pins σ H {s with heap:=s.heap.push {cls:= .type "range",data:= .fields #[.int lo t,.int hi u,.int 1 v]},toks:=tk}:=I.kept λb o e=>eB _ e
 refine⟨(s.heap.push {cls:= .type "range",data:= .fields #[.int lo t,.int hi u,.int 1 v]}).objs.size,[(s.heap.push {cls:= .type "range",data:= .fields #[.int lo t,.int hi u,.int 1 v]}).objs.size],_,_,H,rfl,
  I1.kept (t':=tk) λb o e=>eB _ e,LB _ lo (hi-lo).toNat,?_,λb hb=>?_,q⟩
 ·have e1:lo+((0:Nat):Int)*1=lo:=by simp
  have e2:(((hi-lo).toNat:Nat):Int)-((0:Nat):Int)=Builtin.Range.rangeSize lo hi 1:=by rw[rangeSize_one];split<;>omega
  show IsRangeIter _ _ (lo+((0:Nat):Int)*1) ((((hi-lo).toNat:Nat):Int)-((0:Nat):Int)) 1
  rw[e1,e2];exact fB _ rfl
 ·have e:b=(s.heap.push {cls:= .type "range",data:= .fields #[.int lo t,.int hi u,.int 1 v]}).objs.size:=by simpa using hb
  subst e;exact I1.Il (bw _) (I1.hok.fresh (bw _))
def Xj(ta:TA):TI:=λσ H R=>ta σ H λvs H1=>∃j:Int,vs=[.int j]/\ -(2^62)<=j/\j<2^62/\R (MN 0 j.toNat) H1
def Xk(ta:TA):TI:=λσ H R=>ta σ H λvs H1=>∃i j:Int,vs=[.int i,.int j]/\(-(2^62)<=i/\i<2^62/\ -(2^62)<=j/\j<2^62)/\R (MN i (j-i).toNat) H1
def NR{a:Expr}{ta:TA}{p pos:Pos}(hg:Gl X "range")(hm:X.mg "range" =none)(ha:PA X [a] ta)(hs:starEach [a] X.env=[(false,eval a X.env)]:=by rfl):PI X tg (.Call (.Name "range" p) [a] [] pos) (Xj ta):=by
 intro pins s σ H R I h;refine Call_ (vM I hg hm boot_range (Eb (cX (ha pos pins s σ H _ I h) λus s1 h0=>?_) hs rfl));obtain⟨vs,H1,I1,r1,q1⟩:=h0;obtain⟨j,e,q1,q2,q⟩:=q1;subst e;cases r1 with
 |cons r rr=>
  cases rr;obtain⟨t,rfl⟩:=r;exact call_range_1 (IS I1 (by omega) (by omega) q1 q2 (by simpa using q))
def NS{a b:Expr}{ta:TA}{p pos:Pos}(hg:Gl X "range")(hm:X.mg "range" =none)(ha:PA X [a,b] ta)(hs:starEach [a,b] X.env=[(false,eval a X.env),(false,eval b X.env)]:=by rfl)(hs2:starEach [b] X.env=[(false,eval b X.env)]:=by rfl):
  PI X tg (.Call (.Name "range" p) [a,b] [] pos) (Xk ta):=by
 intro pins s σ H R I h;refine Call_ (vM I hg hm boot_range (Eb (cX (ha pos pins s σ H _ I h) λus s1 h0=>?_) (by rw[hs,hs2]) (by rw[hs2];rfl)));obtain⟨vs,H1,I1,r1,q1⟩:=h0;obtain⟨i,j,e,⟨q1,q2,q3,q4⟩,q⟩:=q1;subst e;cases r1 with
 |cons r rr=>
  cases rr with
  |cons r' rr=>
   cases rr;obtain⟨t,rfl⟩:=r;obtain⟨t',rfl⟩:=r';exact call_range_2 (IS I1 q1 q2 q3 q4 q)
def ZC(wi:TI)(g:TG)(tb:TS):TS:=λD σ H=>wi σ H λJ H1=>∃W:Nat->Nat->St->Hp->Prop,(∃m,W 0 m σ H1)/\∀i m σ H,W i m σ H->
 (J.stop i H/\D.nx σ H)\/(J.go i H/\∃N:St->Hp->Prop,(∀σ' H',N σ' H'->∃m',m'<m/\W (i+1) m' σ' H')/\∀x H',J.El i H x H'->g x σ H' λσ2 H2=>tb {D with nx:=N,ct:=N,bk:=D.nx} σ2 H2)
noncomputable def B4 (fp:List Addr) (h:Heap):List (Addr×Obj):=fp.filterMap λb=>(h.get? b).map λo=>(b,o)
def wZ{fp:List Addr}{h:Heap}{b:Addr}{o:Obj}(hb:b∈fp)(e:h.get? b=some o):(b,o)∈B4 fp h:=BN.mpr ⟨b,hb,by rw[e];rfl⟩
def NT{fp:List Addr}{h:Heap}{p:Addr×Obj}(hp:p∈B4 fp h):p.1∈fp/\h.get? p.1=some p.2:=by
 obtain⟨b,hb,e⟩:=BN.mp hp;cases q:h.get? b with
 |none=>rw[q]at e;cases e
 |some o=>
  rw[q]at e;have e':(b,o)=p:=fG e
  subst e';exact⟨hb,q⟩
def Inv.pinned{pins:List (Addr×Obj)}{σ:St}{H:Hp}{s:Shared}{fp:List Addr}(I:Inv X pins σ H s)(hf:∀b∈fp,xU X pins H b)(ho:∀b∈fp,∃o,s.heap.get? b=some o/\∀v,o.data≠ .cell v):Inv X (pins++B4 fp s.heap) σ H s:=
 I.MK λp hp=>(dg.mp hp).elim (λz=>I.pin p (qg _ z)) λz=>by
  obtain⟨hb,e⟩:=NT z;obtain⟨f0,f1,f2,_⟩:=hf p.1 hb;obtain⟨o,e',d⟩:=ho p.1 hb;rw[e]at e';cases e';exact⟨e,f0,f1,f2,d⟩
def Inv.xV{pins pl:List (Addr×Obj)}{σ:St}{H:Hp}{s:Shared}(I:Inv X (pins++pl) σ H s):Inv X pins σ H s:=I.MK λp hp=>I.pin p (qg _ (tT _ hp))
def jf{iter:Expr}{body:List Stmt}{wi:TI}{g:TG}{tb:TS}{pos:Pos}(hp:PassesOwn (model X.prog X.w) X.A X.env X.xe)(hc:X.calm=true)(hi:PI X tg iter wi)(hg:PG X tg g)(hb:GW X body tb)
  (hs:∀x,foldedSetIterable iter X.env x=pure x:=by intro _;rfl):PS X (.For tg iter body [] pos) (ZC wi g tb):=by
 intro pins s σ H D I h;refine wpAny_For (cX (hi pins s σ H _ I h) λv s1 h1=>cX h1 λitv s2 h2=>?_) hs;obtain⟨it,fp,tn,J,H2,e,I2,T,st2,f2,W,⟨m0,w0⟩,turn⟩:=h2;subst e;have Im:∀{H':Hp},(∀b∈fp,H' b=none)->∀b∈fp,xU X pins H' b:=λhn b hb=>⟨hn b hb,(f2 b hb).2⟩
 refine codeAny_forLoop_any (λn s'=>∃i σ' H',Inv X pins σ' H' s'/\tn i s'.heap/\(∀b∈fp,H' b=none)/\W i n σ' H') ?_ m0 ⟨0,σ,H2,I2,st2,λb hb=>(f2 b hb).1,w0⟩
 rintro n s3 ⟨i,σ3,H3,I3,st3,fr3,w3⟩
 rcases turn i n σ3 H3 w3 with⟨stop,qn⟩|⟨go,N,hN,step⟩
 ·refine vJ hp (cX (T.done X rfl rfl rfl hc i pins s3 σ3 H3 X.xe I3 (Im fr3) st3 stop) λr s4 h0=>?_);obtain⟨hr,I4⟩:=h0;subst hr;exact Fq ⟨σ3,H3,I4,qn⟩
 ·refine vJ hp (cX (T.item X rfl rfl rfl hc i pins s3 σ3 H3 X.xe I3 (Im fr3) st3 go) λr s4 h0=>?_);obtain⟨u,hr,h4⟩:=h0;subst hr;refine vJ hp (cX h4 λ_ s5 h0=>?_);obtain⟨x,H5,I5,r5,y5,st5,fr5⟩:=h0;have I5':=I5.pinned (Im fr5) (T.obj _ _ st5)
  refine vJ hp (cX (hg _ s5 σ3 H5 x u _ I5' r5 (step x H5 y5)) λ_ s6 h0=>?_);obtain⟨σ6,H6,I6,q6⟩:=h0;refine vJ hp (cX (hb _ s6 σ6 H6 _ I6 q6) λf s7 q7=>?_);have again:∀{σ7:St} {H7:Hp},Inv X (pins++B4 fp s5.heap) σ7 H7 s7->N σ7 H7->∃m,m<n/\∃i σ' H',Inv X pins σ' H' s7/\tn i s7.heap/\(∀b∈fp,H' b=none)/\W i m σ' H':=λ{σ7 H7} I7 n7=>by
   obtain⟨m',hm,w7⟩:=hN σ7 H7 n7;refine⟨m',hm,i+1,σ7,H7,I7.xV,T.keep _ _ _ st5 λb hb o e=>(I7.pin (b,o) (qg _ (qg _ (wZ hb e)))).1,λb hb=>?_,w7⟩;obtain⟨o,e,d⟩:=T.obj _ _ st5 b hb;exact(I7.pin (b,o) (qg _ (qg _ (wZ hb e)))).2.1
  cases f with
  |next=>obtain⟨σ7,H7,I7,n7⟩:=q7;exact again I7 n7
  |cont=>obtain⟨σ7,H7,I7,n7⟩:=q7;exact again I7 n7
  |brk=>obtain⟨σ7,H7,I7,q7⟩:=q7;exact⟨σ7,H7,I7.xV,q7⟩
  |ret v=>obtain⟨x7,σ7,H7,I7,r7,q7⟩:=q7;exact⟨x7,σ7,H7,I7.xV,r7,q7⟩
end
def jT{K:W.Frag}{a:Addr}{xs:List V}{g:TG}{tb:TS}{D:Ends}{σ:St}{H:Hp}(Pv:Nat->St->Hp->Prop)(h0:Pv 0 σ H)(hl:∀i σ H,i<=xs.length->Pv i σ H->aX K H a xs)
  (hs:∀i x σ H,xs[i]? =some x->Pv i σ H->g x σ H λσ2 H2=>tb {D with nx:=Pv (i+1),ct:=Pv (i+1),bk:=D.nx} σ2 H2) (hd:∀σ H,Pv xs.length σ H->D.nx σ H):
  ∃W:Nat->Nat->St->Hp->Prop,(∃m,W 0 m σ H)/\∀i m σ H,W i m σ H->
   ((PN K a).stop i H/\D.nx σ H)\/((PN K a).go i H/\∃N:St->Hp->Prop,(∀σ' H',N σ' H'->∃m',m'<m/\W (i+1) m' σ' H')/\∀x H',(PN K a).El i H x H'->g x σ H' λσ2 H2=>tb {D with nx:=N,ct:=N,bk:=D.nx} σ2 H2):=by
 refine⟨λi m σ H=>m=xs.length-i/\i<=xs.length/\Pv i σ H,⟨xs.length,by simp,fC _,h0⟩,?_⟩
 rintro i m σ H ⟨rfl,hi,p⟩
 have q:=hl i σ H hi p;by_cases hlt:i<xs.length
 ·refine .inr ⟨⟨xs,xs[i],q,by simp[hlt]⟩,Pv (i+1),λσ' H' p'=>⟨xs.length-(i+1),by omega,rfl,hlt,p'⟩,λx H' y=>?_⟩;obtain⟨e,y⟩:=y;subst e;exact hs i x σ _ (y xs q) p
 ·have e:i=xs.length:=by omega
  subst e;exact .inl ⟨⟨xs,q,bw _⟩,hd σ H p⟩
def Sw{K:W.Frag}{a:Addr}{xs:List V}{g:TG}{tb:TS}{D:Ends}{σ:St}{H:Hp}(Pv:Nat->St->Hp->Prop)(h0:Pv 0 σ H)(hl:∀i σ H,i<=xs.length->Pv i σ H->mW K H a xs)
  (hs:∀i x σ H,xs[i]? =some x->Pv i σ H->g x σ H λσ2 H2=>tb {D with nx:=Pv (i+1),ct:=Pv (i+1),bk:=D.nx} σ2 H2) (hd:∀σ H,Pv xs.length σ H->D.nx σ H):
  ∃W:Nat->Nat->St->Hp->Prop,(∃m,W 0 m σ H)/\∀i m σ H,W i m σ H->
   ((U4 K a).stop i H/\D.nx σ H)\/((U4 K a).go i H/\∃N:St->Hp->Prop,(∀σ' H',N σ' H'->∃m',m'<m/\W (i+1) m' σ' H')/\∀x H',(U4 K a).El i H x H'->g x σ H' λσ2 H2=>tb {D with nx:=N,ct:=N,bk:=D.nx} σ2 H2):=by
 refine⟨λi m σ H=>m=xs.length-i/\i<=xs.length/\Pv i σ H,⟨xs.length,by simp,fC _,h0⟩,?_⟩
 rintro i m σ H ⟨rfl,hi,p⟩
 have q:=hl i σ H hi p;by_cases hlt:i<xs.length
 ·refine .inr ⟨⟨xs,xs[i],q,by simp[hlt]⟩,Pv (i+1),λσ' H' p'=>⟨xs.length-(i+1),by omega,rfl,hlt,p'⟩,λx H' y=>?_⟩;obtain⟨e,y⟩:=y;subst e;exact hs i x σ _ (y xs q) p
 ·have e:i=xs.length:=by omega
  subst e;exact .inl ⟨⟨xs,q,bw _⟩,hd σ H p⟩
def NU{lo:Int}{n:Nat}{g:TG}{tb:TS}{D:Ends}{σ:St}{H:Hp}(Pv:Nat->St->Hp->Prop)(h0:Pv 0 σ H)
  (hs:∀i σ H,i<n->Pv i σ H->g (.int (lo+i)) σ H λσ2 H2=>tb {D with nx:=Pv (i+1),ct:=Pv (i+1),bk:=D.nx} σ2 H2) (hd:∀σ H,Pv n σ H->D.nx σ H):
  ∃W:Nat->Nat->St->Hp->Prop,(∃m,W 0 m σ H)/\∀i m σ H,W i m σ H->
   ((MN lo n).stop i H/\D.nx σ H)\/((MN lo n).go i H/\∃N:St->Hp->Prop,(∀σ' H',N σ' H'->∃m',m'<m/\W (i+1) m' σ' H')/\∀x H',(MN lo n).El i H x H'->g x σ H' λσ2 H2=>tb {D with nx:=N,ct:=N,bk:=D.nx} σ2 H2):=by
 refine⟨λi m σ H=>m=n-i/\i<=n/\Pv i σ H,⟨n,by simp,fC _,h0⟩,?_⟩
 rintro i m σ H ⟨rfl,hi,p⟩
 by_cases hlt:i<n
 ·refine .inr ⟨hlt,Pv (i+1),λσ' H' p'=>⟨n-(i+1),by omega,rfl,hlt,p'⟩,λx H' y=>?_⟩;obtain⟨e,y⟩:=y;subst e y;exact hs i σ _ hlt p
 ·have e:i=n:=by omega
  subst e;exact .inl ⟨bw _,hd σ H p⟩
abbrev R2:=V->V->Hp->VK->Prop
def vN(X:Cx)(f:Value->Value->Sem Value)(r:R2):Prop:=
 ∀(pins:List (Addr×Obj)) (s:Shared) (σ:St) (H:Hp) (x y:V) (v u:Value) (Q:VK),Inv X pins σ H s->RelV x v->RelV y u->r x y H Q->
  wpAny (model X.prog X.w) X.A (f v u) (EP X pins σ Q) X.xe s
def YB(X:Cx)(f:Value->Sem Value)(r:V->Hp->VK->Prop):Prop:=
 ∀(pins:List (Addr×Obj)) (s:Shared) (σ:St) (H:Hp) (x:V) (v:Value) (Q:VK),Inv X pins σ H s->RelV x v->r x H Q->
  wpAny (model X.prog X.w) X.A (f v) (EP X pins σ Q) X.xe s
def qp(X:Cx)(f:Value)(r:List V->Hp->VK->Prop):Prop:=
 ∀(pins:List (Addr×Obj)) (s:Shared) (σ:St) (H:Hp) (xs:List V) (us:List Value) (Q:VK),Inv X pins σ H s->Vals xs us->r xs H Q->
  wpAny (model X.prog X.w) X.A (call f us) (EP X pins σ Q) X.xe s
def MO(r:R2)(ta tb:TE):TE:=λσ H Q=>ta σ H λx H1=>tb σ H1 λy H2=>r x y H2 Q
def tUn(r:V->Hp->VK->Prop)(ta:TE):TE:=λσ H Q=>ta σ H λx H1=>r x H1 Q
inductive rI(C:Int->Int->Prop)(g:Int->Int->V)(x:V)(y:V)(H:Hp)(Q:VK):Prop
 |mk (i:_) (j:_) (_:x=.int i) (_:y=.int j) (_:C i j) (_:Q (g i j) H)
inductive PR(g:Int->Int->V)(x:V)(y:V)(H:Hp)(Q:VK):Prop
 |mk (i:_) (j:_) (_:x=.int i) (_:y=.int j) (_:Q (g i j) H)
inductive rU(g:Int->V)(x:V)(H:Hp)(Q:VK):Prop
 |mk (i:_) (_:x=.int i) (_:Q (g i) H)
section
variable{X:Cx}{a b c:Expr}{ta tb tc:TE}{pos:Pos}
def Wn(ha:PE X a ta)(hb:PE X b tb){pins:List (Addr×Obj)}{s:Shared}{σ:St}{H:Hp}{R:V->V->Hp->Prop}(I:Inv X pins σ H s)
  (h:ta σ H λx H1=>tb σ H1 λy H2=>R x y H2) {Q:Value->Shared->Prop} {f:Value->Value->Sem Value}
  (hf:∀v u s2 x y H2,Inv X pins σ H2 s2->RelV x v->RelV y u->R x y H2->wpAny (model X.prog X.w) X.A (f v u) Q X.xe s2):
  wpAny (model X.prog X.w) X.A (eval a X.env) (λv s₁=>wpAny (model X.prog X.w) X.A (eval b X.env) (λu s₂=>wpAny (model X.prog X.w) X.A (f v u) Q X.xe s₂) X.xe s₁) X.xe s:=by
 refine cX (ha pins s σ H _ I h) λv s1 h0=>?_
 obtain⟨x,H1,I1,r1,q1⟩:=h0;refine cX (hb pins s1 σ H1 _ I1 q1) λu s2 h0=>?_
 obtain⟨y,H2,I2,r2,q2⟩:=h0;exact hf v u s2 x y H2 I2 r1 r2 q2
def cU{op:Operator}{r:R2}(ho:vN X (binaryOp op) r)(ha:PE X a ta)(hb:PE X b tb):PE X (.BinOp a op b pos) (MO r ta tb):=by
 intro pins s σ H Q I h;exact wpAny_BinOp (Wn ha hb I h λv u s2 x y H2 I2 rx ry q=>ho pins s2 σ H2 x y v u Q I2 rx ry q)
def O5{op:UnaryOp}{r:V->Hp->VK->Prop}(ho:YB X (unaryOp op) r)(ha:PE X a ta):PE X (.UnaryOp op a pos) (tUn r ta):=by
 intro pins s σ H Q I h;refine UnaryOp_ (cX (ha pins s σ H _ I h) λv s1 h0=>?_);obtain⟨x,H1,I1,r1,q1⟩:=h0;exact ho pins s1 σ H1 x v Q I1 r1 q1
def YC{f:Value->Value->Sem Value}{C:Int->Int->Prop}{g:Int->Int->Int}
  (rule:∀(i j:Int) (t u:Tok) (s:Shared) (Q:Value->Shared->Prop) (E:Value->Shared->Prop),C i j->Q (.int (g i j) s.toks) {s with toks:=s.toks+1}->wpAny (model X.prog X.w) X.A (f (.int i t) (.int j u)) Q E s):
  vN X f (rI C λi j=>.int (g i j)):=by
 intro pins s σ H x y v u Q I rx ry h;obtain⟨i,j,rfl,rfl,hc,q⟩:=h;obtain⟨t,rfl⟩:=rx;obtain⟨t',rfl⟩:=ry;exact rule i j t t' s _ _ hc ⟨.int (g i j),H,I.tok _,⟨_,rfl⟩,q⟩
def UB{f:Value->Value->Sem Value}{g:Int->Int->Int}
  (rule:∀(i j:Int) (t u:Tok) (s:Shared) (Q:Value->Shared->Prop) (E:Value->Shared->Prop),Q (.int (g i j) s.toks) {s with toks:=s.toks+1}->wpAny (model X.prog X.w) X.A (f (.int i t) (.int j u)) Q E s):
  vN X f (PR λi j=>.int (g i j)):=by
 intro pins s σ H x y v u Q I rx ry h;obtain⟨i,j,rfl,rfl,q⟩:=h;obtain⟨t,rfl⟩:=rx;obtain⟨t',rfl⟩:=ry;exact rule i j t t' s _ _ ⟨.int (g i j),H,I.tok _,⟨_,rfl⟩,q⟩
def Wo{f:Value->Value->Sem Value}{g:Int->Int->Bool}
  (rule:∀(i j:Int) (t u:Tok) (s:Shared) (Q:Value->Shared->Prop) (E:Value->Shared->Prop),Q (.bool (g i j)) s->wpAny (model X.prog X.w) X.A (f (.int i t) (.int j u)) Q E s):
  vN X f (PR λi j=>.bl (g i j)):=by
 intro pins s σ H x y v u Q I rx ry h;obtain⟨i,j,rfl,rfl,q⟩:=h;obtain⟨t,rfl⟩:=rx;obtain⟨t',rfl⟩:=ry;exact rule i j t t' s _ _ ⟨.bl (g i j),H,I,rfl,q⟩
def Wq(i j:Int):Prop:=0<=j/\j<=1000000/\i.natAbs<2^64
def LC(k:Nat):(0:Int)<=2^k:=by
 rw[two_pow_cast];exact Int.natCast_nonneg _
def ig:vN X (binaryOp .Add) (PR λi j=>.int (i+j)):=UB λ_ _ _ _ _ _ _ q=>add_int q
def FP:vN X (binaryOp .Sub) (PR λi j=>.int (i-j)):=UB λ_ _ _ _ _ _ _ q=>sub_int q
def KI:vN X (binaryOp .Mod) (rI (λ_ j=>0<j) λi j=>.int (i%j)):=YC λi j _ _ _ _ _ hc q=>by
 have h1:(0:Int)< j:=hc;exact mod_int' (by omega) (by rw[Int.fmod_eq_emod_of_nonneg i (by omega)];exact q)
def KJ:vN X (binaryOp .LShift) (rI Wq λi j=>.int (i*2^j.toNat)):=YC λ_ _ _ _ _ _ _ hc q=>lshift_int_small hc.1 hc.2.1 hc.2.2 q
def FQ:vN X (binaryOp .RShift) (rI (λ_ j=>0<=j) λi j=>.int (i/2^j.toNat)):=YC λi j _ _ _ _ _ hc q=>
 rshift_int hc (by rw[Int.fdiv_eq_ediv_of_nonneg i (LC _)];exact q)
def U6:vN X (binaryOp .BitXor) (PR λi j=>.int (Builtin.bitXor i j)):=UB λ_ _ _ _ _ _ _ q=>xor_int q
def unI{f:Value->Sem Value}{g:Int->Int}
  (rule:∀(i:Int) (t:Tok) (s:Shared) (Q:Value->Shared->Prop) (E:Value->Shared->Prop),Q (.int (g i) s.toks) {s with toks:=s.toks+1}->wpAny (model X.prog X.w) X.A (f (.int i t)) Q E s):
  YB X f (rU λi=>.int (g i)):=by
 intro pins s σ H x v Q I rx h;obtain⟨i,rfl,q⟩:=h;obtain⟨t,rfl⟩:=rx;exact rule i t s _ _ ⟨.int (g i),H,I.tok _,⟨_,rfl⟩,q⟩
def KL:YB X (unaryOp .USub) (rU λi=>.int (-i)):=unI λ_ _ _ _ _ q=>neg_int q
end
noncomputable def UC:V->V->Bool
 | .gq,.gq=>true| .gq,.int _=>true| .int _,.gq=>true| .gq,.bl _=>true| .bl _,.gq=>true| .gq,.str _=>true| .str _,.gq=>true
 | .int _,.int _=>true| .bl _,.bl _=>true| .str _,.str _=>true| .B0 _,.B0 _=>true
 | .int _,.str _=>true| .str _,.int _=>true| .bl _,.str _=>true| .str _,.bl _=>true
 |_,_=>false
def rEq:R2:=λx y H Q=>UC x y=true/\Q (.bl (decide (x=y))) H
def rNe:R2:=λx y H Q=>UC x y=true/\Q (.bl (!decide (x=y))) H
def MP{i j:Int}:decide (V.int i=V.int j)=(i==j):=by
 rw[qj];simp
def PU{i j:Bool}:decide (V.bl i=V.bl j)=(i==j):=by
 rw[qj];simp
def MQ{i j:Str}:decide (V.str i=V.str j)=(i==j):=by
 rw[qj];simp
def MR{i j:Array UInt8}:decide (V.B0 i=V.B0 j)=(i.toList==j.toList):=by
 rw[qj];cases i;cases j;simp
section
variable{X:Cx}{a b c:Expr}{ta tb tc:TE}{pos:Pos}
def dZ{pins:List (Addr×Obj)}{σ:St}{H:Hp}{s:Shared}{Q:VK}{k k':Bool}(I:Inv X pins σ H s)(q:Q (.bl k) H)(e:k=k'):EP X pins σ Q (.bool k') s:=by
 subst e;exact⟨.bl k,H,I,rfl,q⟩
def yP:vN X (compareOp .Eq) rEq:=by
 intro pins s σ H x y v u Q I rx ry h;obtain⟨hs,q⟩:=h;cases x with
 |gq=>
  cases rx;cases y with
  |gq=>cases ry;exact PySem.EqNone.eq_none_none (dZ I q (by simp))
  |bl j=>cases ry;exact PySem.EqNone.eq_none_bool (dZ I q (by simp))
  |int j=>obtain⟨t',rfl⟩:=ry;exact PySem.EqNone.eq_none_int (dZ I q (by simp))
  |str j=>obtain⟨t',rfl⟩:=ry;exact PySem.EqNone.eq_none_str (dZ I q (by simp))
  |_=>exact absurd (show false=true from hs) gZ
 |bl i=>
  cases rx;cases y with
  |gq=>cases ry;exact PySem.EqNone.eq_bool_none (dZ I q (by simp))
  |bl j=>cases ry;exact eq_bool (dZ I q PU)
  |str j=>obtain⟨t',rfl⟩:=ry;exact PySem.EqMixed.eq_bool_str (dZ I q (by simp))
  |_=>exact absurd (show false=true from hs) gZ
 |int i=>
  obtain⟨t,rfl⟩:=rx;cases y with
  |gq=>cases ry;exact PySem.EqNone.eq_int_none (dZ I q (by simp))
  |int j=>obtain⟨t',rfl⟩:=ry;exact eq_int (dZ I q MP)
  |str j=>obtain⟨t',rfl⟩:=ry;exact PySem.EqMixed.eq_int_str (dZ I q (by simp))
  |_=>exact absurd (show false=true from hs) gZ
 |str i=>
  obtain⟨t,rfl⟩:=rx;cases y with
  |gq=>cases ry;exact PySem.EqNone.eq_str_none (dZ I q (by simp))
  |bl j=>cases ry;exact PySem.EqMixed.eq_str_bool (dZ I q (by simp))
  |int j=>obtain⟨t',rfl⟩:=ry;exact PySem.EqMixed.eq_str_int (dZ I q (by simp))
  |str j=>obtain⟨t',rfl⟩:=ry;exact eq_str (dZ I q MQ)
  |_=>exact absurd (show false=true from hs) gZ
 |B0 i=>
  obtain⟨t,rfl⟩:=rx;cases y with
  |B0 j=>obtain⟨t',rfl⟩:=ry;exact W.eq_bytes (dZ I q MR)
  |_=>exact absurd (show false=true from hs) gZ
 |_=>cases y<;>exact absurd (show false=true from hs) gZ
def Lf:vN X (compareOp .NotEq) rNe:=by
 intro pins s σ H x y v u Q I rx ry h;obtain⟨hs,q⟩:=h;cases x with
 |gq=>
  cases rx;cases y with
  |gq=>cases ry;exact PySem.EqNone.ne_none_none (dZ I q (by simp))
  |bl j=>cases ry;exact PySem.EqNone.ne_none_bool (dZ I q (by simp))
  |int j=>obtain⟨t',rfl⟩:=ry;exact PySem.EqNone.ne_none_int (dZ I q (by simp))
  |str j=>obtain⟨t',rfl⟩:=ry;exact PySem.EqNone.ne_none_str (dZ I q (by simp))
  |_=>exact absurd (show false=true from hs) gZ
 |bl i=>
  cases rx;cases y with
  |gq=>cases ry;exact PySem.EqNone.ne_bool_none (dZ I q (by simp))
  |bl j=>cases ry;exact ne_bool (dZ I q (jd not PU))
  |str j=>obtain⟨t',rfl⟩:=ry;exact PySem.EqMixed.ne_bool_str (dZ I q (by simp))
  |_=>exact absurd (show false=true from hs) gZ
 |int i=>
  obtain⟨t,rfl⟩:=rx;cases y with
  |gq=>cases ry;exact PySem.EqNone.ne_int_none (dZ I q (by simp))
  |int j=>obtain⟨t',rfl⟩:=ry;exact ne_int (dZ I q (jd not MP))
  |str j=>obtain⟨t',rfl⟩:=ry;exact PySem.EqMixed.ne_int_str (dZ I q (by simp))
  |_=>exact absurd (show false=true from hs) gZ
 |str i=>
  obtain⟨t,rfl⟩:=rx;cases y with
  |gq=>cases ry;exact PySem.EqNone.ne_str_none (dZ I q (by simp))
  |bl j=>cases ry;exact PySem.EqMixed.ne_str_bool (dZ I q (by simp))
  |int j=>obtain⟨t',rfl⟩:=ry;exact PySem.EqMixed.ne_str_int (dZ I q (by simp))
  |str j=>obtain⟨t',rfl⟩:=ry;exact ne_str (dZ I q (jd not MQ))
  |_=>exact absurd (show false=true from hs) gZ
 |B0 i=>
  obtain⟨t,rfl⟩:=rx;cases y with
  |B0 j=>obtain⟨t',rfl⟩:=ry;exact W.ne_bytes (dZ I q (jd not MR))
  |_=>exact absurd (show false=true from hs) gZ
 |_=>cases y<;>exact absurd (show false=true from hs) gZ
def Xl:vN X (compareOp .Lt) (PR λi j=>.bl (decide (i<j))):=Wo λ_ _ _ _ _ _ _ q=>lt_int q
def vY:vN X (compareOp .LtE) (PR λi j=>.bl (decide (i<=j))):=Wo λ_ _ _ _ _ _ _ q=>le_int q
inductive U7(Q:Bool->Hp->Prop)(x:V)(H':Hp):Prop
 |mk (k:_) (_:x=.bl k) (_:Q k H')
def O6(t:TE):TT:=λσ H Q=>t σ H λx H'=>U7 Q x H'
def jw{op:CmpOp}{r:R2}(ho:vN X (compareOp op) r)(ha:PE X a ta)(hb:PE X b tb)(hm:behindInMarks op b=false):PT X (.Compare a [op] [b] pos) (O6 (MO r ta tb)):=by
 intro pins s σ H Q I h;refine wpAny_isTrue_Compare1 (cX (ha pins s σ H _ I h) λv s1 ⟨x,H1,I1,r1,q1⟩=>cX (hb pins s1 σ H1 _ I1 q1) λu s2 ⟨y,H2,I2,r2,q2⟩=>
  cX (ho pins s2 σ H2 x y v u _ I2 r1 r2 q2) λc s3 ⟨z,H3,I3,r3,k,e,q3⟩=>?_) hm
 subst e;cases r3;exact yg ⟨H3,I3,q3⟩
def PV(r r':R2)(ta tb tc:TE):TE:=λσ H Q=>ta σ H λx H1=>tb σ H1 λy H2=>r x y H2 λz H3=>∃k,z=.bl k/\
 (if k=true then tc σ H3 λw' H4=>r' y w' H4 Q else Q (.bl false) H3)
def xW{op op':CmpOp}{r r':R2}(ho:vN X (compareOp op) r)(ho':vN X (compareOp op') r')(ha:PE X a ta)(hb:PE X b tb)(hc:PE X c tc)
  (hm:lastMarks [op,op'] [b,c]=false:=by with_unfolding_all rfl):PE X (.Compare a [op,op'] [b,c] pos) (PV r r' ta tb tc):=by
 intro pins s σ H Q I h;refine Compare_chain (cX (ha pins s σ H _ I h) λv s1 ⟨x,H1,I1,r1,q1⟩=>chain_link (cX (hb pins s1 σ H1 _ I1 q1) λu s2 ⟨y,H2,I2,r2,q2⟩=>
  cX (ho pins s2 σ H2 x y v u _ I2 r1 r2 q2) λd s3 ⟨z,H3,I3,r3,k,e,q3⟩=>?_)) hm
 subst e;cases r3;refine yg ?_;cases k with
 |false=>exact ite_ff ⟨.bl false,H3,I3,rfl,q3⟩
 |true=>exact ite_tt (chain_last (cX (hc pins s3 σ H3 _ I3 q3) λw' s4 ⟨z',H4,I4,r4,q4⟩=>ho' pins s4 σ H4 y z' u w' Q I4 r2 r4 q4))
def QC{op op':CmpOp}{r r':R2}(ho:vN X (compareOp op) r)(ho':vN X (compareOp op') r')(ha:PE X a ta)(hb:PE X b tb)(hc:PE X c tc)
  (hm:lastMarks [op,op'] [b,c]=false:=by with_unfolding_all rfl):PT X (.Compare a [op,op'] [b,c] pos) (O6 (PV r r' ta tb tc)):=by
 intro pins s σ H Q I h;refine isTrue_chain (cX (ha pins s σ H _ I h) λv s1 ⟨x,H1,I1,r1,q1⟩=>test_link (cX (hb pins s1 σ H1 _ I1 q1) λu s2 ⟨y,H2,I2,r2,q2⟩=>
  cX (ho pins s2 σ H2 x y v u _ I2 r1 r2 q2) λd s3 ⟨z,H3,I3,r3,k,e,q3⟩=>?_)) hm
 subst e;cases r3;refine yg ?_;cases k with
 |false=>
  obtain⟨k',e',q'⟩:=q3;cases e';exact ite_ff ⟨H3,I3,q'⟩
 |true=>
  refine ite_tt (test_last (cX (hc pins s3 σ H3 _ I3 q3) λw' s4 ⟨z',H4,I4,r4,q4⟩=>cX (ho' pins s4 σ H4 y z' u w' _ I4 r2 r4 q4) λd' s5 h0=>?_));obtain⟨z2,H5,I5,r5,k2,e2,q5⟩:=h0;subst e2;cases r5;exact yg ⟨H5,I5,q5⟩
def KN:(sizeLine:Nat)< 2^63:=by rw[sF];decide
def vals1{x:V}{us:List Value}(r:Vals [x] us):∃u,us=[u]/\RelV x u:=by
 cases r with
 |cons r1 r2=>cases r2;exact⟨_,rfl,r1⟩
def vals2{x y:V}{us:List Value}(r:Vals [x,y] us):∃u w',us=[u,w']/\RelV x u/\RelV y w':=by
 cases r with
 |cons r1 r2=>
  cases r2 with
  |cons r3 r4=>cases r4;exact⟨_,_,rfl,r1,r3⟩
def NV(hc:X.calm=true):qp X (.builtin "max") (λxs H Q=>∃i j,xs=[.int i,.int j]/\Q (.int (if j > i then j else i)) H):=by
 intro pins s σ H xs us Q I r h;obtain⟨i,j,rfl,q⟩:=h;obtain⟨u,w',rfl,⟨t,rfl⟩,⟨t',rfl⟩⟩:=vals2 r;refine max_two_ints (I.ok.hd hc) λh' tk k=>⟨_,H,I.kept k,?_,q⟩
 by_cases hj:j > i
 ·rw[ay hj,ay hj];exact⟨_,rfl⟩
 ·rw[aq hj,aq hj];exact⟨_,rfl⟩
end
structure Io(h:Heap)(x dx C:Addr)(mA:Str->Option Value):Prop where
 obj:h.get? x=some (W.instObj C dx)
 ns:h.Ns1 dx mA
 ne:dx≠x
def NW{h:Heap}{dx:Addr}{mA:Str->Option Value}(n:h.Ns1 dx mA):∃od,h.get? dx=some od/\∀name,W.lookIn name od=some (mA name):=by
 obtain⟨o,es,ep,ho,hd,hk,_,hm⟩:=n;refine⟨o,ho,λname=>?_⟩;have e:=hm name
 unfold nsFind findBy at e;rw[<- Array.find?_toList]at e;unfold W.lookIn;rw[hd]
 dsimp only
 split
 ·rename_i y q;rw[q]at e;exact jd some e
 ·rename_i q;rw[q]at e;have a:es.toList.any (·.refKey)=false:=by
   rw[List.any_eq_false];intro y hy;obtain⟨z,t,hkey⟩:=hk y (Array.mem_toList_iff.mp hy);simp[DictEntry.refKey,hkey]
  have a':¬es.toList.any (·.refKey)=true:=by rw[a];exact gZ
  rw[aq a'];exact jd some e
def Io.look{h:Heap}{x dx C:Addr}{mA:Str->Option Value}(I:Io h x dx C mA):∃od,W.InstAt h x (W.instObj C dx) C (some od)/\∀name,W.lookIn name od=some (mA name):=
 let⟨od,ho,hl⟩:=NW I.ns
 ⟨od,⟨I.obj,rfl,rfl,ho⟩,hl⟩
section
variable{prog:Program}{w:World}{A:Around}{E:Value->Shared->Prop}{s:Shared}{K:W.Frag}{x dx C f:Addr}{mA:Str->Option Value}{name:Str}{v:Value}
def get_map{expr:Bool}{Q:Value->Shared->Prop}(X:K.In s.heap)(I:Io s.heap x dx C mA)(hg:W.plainGet K C name=true)(hh:W.hasDictIn K C=true)
  (ha:W.findIn K (.ref C) name=some none) (hv:mA name=some v) (hv':W.handedIn v=true) (h:Q v {s with toks:=s.toks+1}):
  wpAny (model prog w) A (getAttr (.ref x) name expr) Q E s:=by
 obtain⟨od,J,hl⟩:=I.look;exact W.get_value X J (Kc hg).1 (W.findObj_own hh ha rfl (by rw[hl,hv])) hv' h
def QD{pl:Sem Bool}{Q:Value×List Value->Shared->Prop}(X:K.In s.heap)(I:Io s.heap x dx C mA)(hg:W.plainGet K C name=true)
  (hf:W.findIn K (.ref C) name=some (some (.ref f))) (ht:W.isFn K (.ref f)=true) (hv:mA name=none) (h:Q (.ref f,[.ref x]) s):
  wpAny (model prog w) A (getMethod (.ref x) name pl) Q E s:=by
 obtain⟨od,J,hl⟩:=I.look;exact W.method_fn X J (Kc hg).1 (Kc hg).2 hf (vL.mp ht) (by show(W.lookIn name od).map (·.isSome)=some false;rw[hl,hv];rfl) h
def Sx{ns:List Str}{Q:Unit->Shared->Prop}(X:K.In s.heap)(I:Io s.heap x dx C mA)
  (hs:W.findIn K (.ref C) "__setattr__" =some (some (.builtin "object.__setattr__"))) (hp:W.plainOver K C=true) (ht:W.takerIn K C name=some none) (hh:W.hasDictIn K C=true)
  (hw:PySem.Within mA ns) (hsz:ns.length<=sizeLine)
  (h:∀h',Io h' x dx C (λy=>if y=name then some v else mA y)->Heap.SameBut dx s.heap h'->Q () {s with heap:=h',toks:=s.toks+2}):
  wpAny (model prog w) A (setAttr (.ref x) name v) Q E s:=by
 obtain⟨od,J,hl⟩:=I.look;refine W.set_plain X J hs (W.osa_open (s:={s with toks:=s.toks+1}) (r:=none) X J hp ht λb=>?_);obtain⟨cd,hc,hd'⟩:=W.any_some hh;have hx:s.heap.get? x=some ⟨.ref C,some dx,.plain,#[]⟩:=I.obj
 refine aB (aP (aB (aB (wpAny_loadPart hx (aB (W.Looks.here (s:={s with toks:=s.toks+1}) (W.looks_clsIn X hc) ?_))))));rw[hd'];refine aP (a:=some dx) (aB (aP (aB ?_)));refine wpAny_nsSet1 (s:={s with toks:=s.toks+1}) I.ns λh' hn2 hs2=>?_
 obtain⟨oD,esD,epD,hoD,hdD,hcD⟩:=hn2.count (PySem.Within.cons name v hw);refine aB (wpAny_lookBehind hoD (by rw[hdD];exact pastItsLine_dict (gz hcD (by rw[cF];omega))) ?_);exact aP (h _ ⟨(hs2.2 _ (mC I.ne)).trans I.obj,hn2,I.ne⟩ hs2)
def QE{R:Result->Shared->Prop}{vs:List Value}{kw:List (Str×Value)}(X:K.In s.heap)(hm:W.makesIn K C=true)
  (hi:W.findIn K (.ref C) "__init__" =some (some (.ref f))) (hf:W.typeIn K (.ref f)=some (.type "function"))
  (h:codeAny (model prog w) (A.under (.builtin "type.__call__" ⟨.ref C::vs,kw⟩)) (.call (.ref f) ⟨.ref (s.heap.objs.size+1)::vs,kw⟩) (W.InitBack (s.heap.objs.size+1) R)
   {s with heap:=(s.heap.push W.emptyDict).push (W.instObj C s.heap.objs.size)}):
  codeAny (model prog w) A (.call (.ref C) ⟨vs,kw⟩) R s:=by
 obtain⟨hh,g,d,t,os⟩:=s;exact W.make_core (W.makes_of X hm) (W.looks_findIn X hi) (λself=>W.bind_fn X self hf) (.inl rfl) h
end
noncomputable def kY (f:Str) (v:V):List (Str×V)->List (Str×V)
 | []=>[(f,v)]
 |(g,x)::r=>if g=f then(g,v)::r else(g,x)::kY f v r
theorem AM(f g:Str)(v:V):∀fs:List (Str×V),(kY f v fs).lookup g=if g=f then some v else fs.lookup g
 | []=>by
  show List.lookup g [(f,v)]=_
  by_cases h:g=f
  ·have hb:(g==f)=true:=vL.mpr h;simp only[List.lookup,hb,ay h]
  ·have hb:(g==f)=false:=yl.mpr h;simp only[List.lookup,hb,aq h]
 |(k,x)::r=>by
  have ih:=AM f g v r;rw[show kY f v ((k,x)::r)=(if k=f then(k,v)::r else(k,x)::kY f v r)from rfl];by_cases hk:k=f
  ·rw[ay hk];by_cases h:g=k
   ·have hb:(g==k)=true:=vL.mpr h;simp only[List.lookup,hb,ay (h.trans hk)]
   ·have hb:(g==k)=false:=yl.mpr h;simp only[List.lookup,hb,aq (λe:g=f=>h (e.trans hk.symm))]
  ·rw[aq hk];by_cases h:g=k
   ·have hb:(g==k)=true:=vL.mpr h;simp only[List.lookup,hb,aq (λe:g=f=>hk (h.symm.trans e))]
   ·have hb:(g==k)=false:=yl.mpr h;simp only[List.lookup,hb];exact ih
theorem zW(f:Str)(v:V):∀fs:List (Str×V),f∈(kY f v fs).map (·.1)/\∀g,g∈fs.map (·.1)->g∈(kY f v fs).map (·.1)
 | []=>⟨by simp[kY],λg h=>by simp at h⟩
 |(k,x)::r=>by
  obtain⟨i1,i2⟩:=zW f v r;rw[show kY f v ((k,x)::r)=(if k=f then(k,v)::r else(k,x)::kY f v r)from rfl];by_cases hk:k=f
  ·rw[ay hk];subst hk;exact⟨by simp,λg h=>by simpa using h⟩
  ·rw[aq hk];refine⟨?_,λg h=>?_⟩
   ·rw[dG];exact cP _ i1
   ·rw[dG]at h⊢;rcases bN.mp h with e|e
    ·exact bN.mpr (.inl e)
    ·exact cP _ (i2 g e)
theorem AN(f:Str)(v:V):∀fs:List (Str×V),(kY f v fs).length<=fs.length+1
 | []=>by simp[kY]
 |(k,x)::r=>by
  have ih:=AN f v r;rw[show kY f v ((k,x)::r)=(if k=f then(k,v)::r else(k,x)::kY f v r)from rfl];by_cases hk:k=f
  ·rw[ay hk,cF,cF];omega
  ·rw[aq hk,cF,cF];omega
def nV.some_of{v:V}{o:Option Value}(r:nV (some v) o):∃u,o=some u/\RelV v u:=by
 cases o with
 |none=>exact(show False from r).elim
 |some u=>exact⟨u,rfl,r⟩
def nV.none_of{o:Option Value}(r:nV none o):o=none:=by
 cases o with
 |none=>rfl
 |some u=>exact(show False from r).elim
def NX{v:V}{u:Value}(r:RelV v u):W.handedIn u=true:=by
 cases v with
 |gq=>cases (show u=Value.none from r);rfl
 |bl b=>cases (show u=Value.bool b from r);rfl
 |int i=>obtain⟨t,e⟩:=(show∃t,u=Value.int i t from r);cases e;rfl
 |str x=>obtain⟨t,e⟩:=(show∃t,u=Value.str x t from r);cases e;rfl
 |B0 b=>obtain⟨t,e⟩:=(show∃t,u=Value.bytes b t from r);cases e;rfl
 |PB b=>obtain⟨t,e⟩:=(show∃t,u=Value.float b t from r);cases e;rfl
 |ref a=>cases (show u=Value.ref a from r);rfl
 |ty n=>cases (show u=Value.type n from r);rfl
section
variable{P:Program}{w:World}{H H':Hp}{h h':Heap}{a C dx:Addr}{fs fs':List (Str×V)}
def Bs(hok:mV P w H h)(e:H a=some (.ins C dx fs)):∃mA,Io h a dx C mA/\(∀f,nV (fs.lookup f) (mA f))/\PySem.Within mA (fs.map (·.1))/\fs.length<=1000/\H dx=some (.own a):=by
 obtain⟨d,z,ne,ob,mA,n,r,q⟩:=(show fm P w H h a (.ins C dx fs)from hok a _ e);exact⟨mA,⟨ob,n,ne⟩,r,q,z,d⟩
end
structure rE(K:W.Frag)(C:Addr):Prop where
 pg:W.plainGet K C Str.empty=true
 hd:W.hasDictIn K C=true
 po:W.plainOver K C=true
 sa:W.findIn K (.ref C) "__setattr__" =some (some (.builtin "object.__setattr__"))
def rE.get{K:W.Frag}{C:Addr}(c:rE K C)(f:Str):W.plainGet K C f=true:=c.pg
def bz(K:W.Frag)(C:Addr)(f:Str):Prop:=W.findIn K (.ref C) f=some none
def bz.Xm{K:W.Frag}{C:Addr}{f:Str}(n:bz K C f):W.takerIn K C f=some none:=by
 unfold W.takerIn;rw[show W.findIn K (.ref C) f=some none from n];rfl
structure Meth(K:W.Frag)(C:Addr)(m:Str)(f:Addr):Prop where
 at_:W.findIn K (.ref C) m=some (some (.ref f))
 fn:W.isFn K (.ref f)=true
 kp:W.keepIn K (.ref f)=true
section
variable{X:Cx}{pins:List (Addr×Obj)}{σ:St}{H:Hp}{s:Shared}{a C dx:Addr}{fs:List (Str×V)}{f:Str}{v:V}{A:Around}{E:Value->Shared->Prop}
def Df{b:Bool}{Q:Value->Shared->Prop}(I:Inv X pins σ H s)(e:H a=some (.ins C dx fs))(c:rE X.K C)(n:bz X.K C f)(l:fs.lookup f=some v)
  (h:∀u s',Inv X pins σ H s'->RelV v u->Q u s'):wpAny (model X.prog X.w) A (getAttr (.ref a) f b) Q E s:=by
 obtain⟨mA,O,r,_,_,_⟩:=Bs I.hok e;obtain⟨u,hu,ru⟩:=nV.some_of (v:=v) (o:=mA f) (by rw[<- l];exact r f);exact get_map I.rD O (c.get f) c.hd n hu (NX ru) (h u _ (I.tok _) ru)
def Dg{m:Str}{g:Addr}{pl:Sem Bool}{Q:Value×List Value->Shared->Prop}(I:Inv X pins σ H s)(e:H a=some (.ins C dx fs))(c:rE X.K C)(k:Meth X.K C m g)(l:fs.lookup m=none)
  (h:Q (.ref g,[.ref a]) s):wpAny (model X.prog X.w) A (getMethod (.ref a) m pl) Q E s:=by
 obtain⟨mA,O,r,_,_,_⟩:=Bs I.hok e;have hn:mA m=none:=nV.none_of (by rw[<- l];exact r m)
 exact QD I.rD O (c.get m) k.at_ k.fn hn h
def Dh{y:V}{u:Value}{Q:Unit->Shared->Prop}(I:Inv X pins σ H s)(e:H a=some (.ins C dx fs))(c:rE X.K C)(n:bz X.K C f)(hl:fs.length<1000)(ry:RelV y u)
  (h:∀s',Inv X pins σ (upd H a (.ins C dx (kY f y fs))) s'->Q () s'):wpAny (model X.prog X.w) A (setAttr (.ref a) f u) Q E s:=by
 obtain⟨mA,O,r,wi,_,ho⟩:=Bs I.hok e;have hz:(fs.map (·.1)).length<=sizeLine:=by rw[aO,sF];omega
 refine Sx I.rD O c.sa c.po n.Xm c.hd wi hz λh' O' sb=>h _ ?_
 have hd:∃o,h'.get? dx=some o:=let⟨o,_,_,e',_⟩:=O'.ns;⟨o,e'⟩;refine I.write (x:=a) (e:=dx) (by rw[e];exact True.intro) (.inr ho) (λb q hb z=>(sb.2 b hb).trans z) hd ?_;refine⟨by rw[ai O.ne];exact ho,?_,O.ne,O'.obj,_,O'.ns,λg=>?_,λg hg=>?_⟩
 ·have:=AN f y fs;omega
 ·show nV ((kY f y fs).lookup g) (if g=f then some u else mA g)
  rw[AM];by_cases q:g=f
  ·rw[ay q,ay q];exact ry
  ·rw[aq q,aq q];exact r g
 ·by_cases q:g=f
  ·rw[q];exact(zW f y fs).1
  ·refine(zW f y fs).2 g (wi g λz=>hg ?_);show(if g=f then some u else mA g)=none
   rw[aq q];exact z
def Inv.made(I:Inv X pins σ H s):Inv X pins σ (upd (upd H s.heap.objs.size (.own (s.heap.objs.size+1))) (s.heap.objs.size+1) (.ins C s.heap.objs.size []))
  {s with heap:=(s.heap.push W.emptyDict).push (W.instObj C s.heap.objs.size)}:=by
 have e1:(s.heap.push W.emptyDict).get? s.heap.objs.size=some W.emptyDict:=fB s.heap rfl;have e2:((s.heap.push W.emptyDict).push (W.instObj C s.heap.objs.size)).get? (s.heap.objs.size+1)=some (W.instObj C s.heap.objs.size):=by
  have:=fB (s.heap.push W.emptyDict) (o:=W.instObj C s.heap.objs.size) rfl
  rwa [mj]at this
 have e3:(s.heap.push W.emptyDict).Ns s.heap.objs.size (λ_=>none):=⟨W.emptyDict,#[],_,e1,rfl,(λe he=>absurd he (by simp)),λ_=>rfl⟩;have I1:=I.laid (a:=s.heap.objs.size) (o:= .own (s.heap.objs.size+1)) (h':=s.heap.push W.emptyDict) (t':=s.toks) (λb u q=>eB _ q) (bw _) ⟨_,e1⟩
 refine I1.laid (a:=s.heap.objs.size+1) (o:= .ins C s.heap.objs.size []) (t':=s.toks) (λb u q=>eB _ q) (yy (mj _ _)) ?_;have ne:s.heap.objs.size≠s.heap.objs.size+1:=iG (E8 _)
 refine⟨by rw[ai ne,af],fC _,ne,e2,λ_=>none,(Heap.Ns1.of_empty e3).at λo q=>eB _ q,λ_=>True.intro,λy hy=>absurd rfl hy⟩
def Sy{prog:Program}{w:World}{env:Env}{e:Expr}{f:Str}{pos:Pos}{s:Shared}{Q:Value->Shared->Prop}(hb:attributeBase e f env (eval e env)=eval e env)
  (h:wpAny (model prog w) A (eval e env) (λo s₁=>wpAny (model prog w) A (getAttr o f true) Q E s₁) E s):wpAny (model prog w) A (eval (.Attribute e f pos) env) Q E s:=
 Attribute_any_ h (by rw[arm_eval_Attribute,hb])
end
inductive Xn(K:W.Frag)(f:Str)(Q:VK)(x:V)(H1:Hp):Prop
 |mk (a:_) (C:_) (dx:_) (fs:_) (v:_) (_:x=.ref a) (_:H1 a=some (.ins C dx fs)) (_:rE K C) (_:bz K C f) (_:fs.lookup f=some v) (_:Q v H1)
def Lg(K:W.Frag)(ta:TE)(f:Str):TE:=λσ H Q=>ta σ H λx H1=>Xn K f Q x H1
inductive Xo(K:W.Frag)(f:Str)(D:Ends)(σ:St)(y:V)(x:V)(H2:Hp):Prop
 |mk (a:_) (C:_) (dx:_) (fs:_) (_:x=.ref a) (_:H2 a=some (.ins C dx fs)) (_:rE K C) (_:bz K C f) (_:fs.length<1000) (_:D.nx σ (upd H2 a (.ins C dx (kY f y fs))))
def ZD(K:W.Frag)(ta tv:TE)(f:Str):TS:=λD σ H=>tv σ H λy H1=>ta σ H1 λx H2=>Xo K f D σ y x H2
def Wr(X:Cx)(op:Operator)(rd:V->V->Hp->VK->Prop):Prop:=
 ∀(pins:List (Addr×Obj)) (s:Shared) (σ:St) (H:Hp) (x y:V) (u v:Value) (Q:VK),Inv X pins σ H s->RelV x u->RelV y v->rd x y H Q->wpAny (model X.prog X.w) X.A (inplaceOp op u v) (EP X pins σ Q) X.xe s
def Sz(K:W.Frag)(ta tv:TE)(rd:V->V->Hp->VK->Prop)(f:Str):TS:=λD σ H=>ta σ H λx H1=>∃a C dx fs v,x=.ref a/\H1 a=some (.ins C dx fs)/\rE K C/\bz K C f/\fs.lookup f=some v/\
 tv σ H1 λy H2=>rd v y H2 λz H3=>∃U8 fs',H3 a=some (.ins C U8 fs')/\fs'.length<1000/\D.nx σ (upd H3 a (.ins C U8 (kY f z fs')))
section
variable{X:Cx}{o e value:Expr}{f:Str}{pos pos' tpos:Pos}{ta tv:TE}
def au(he:PE X e ta)(hb:attributeBase e f X.env (eval e X.env)=eval e X.env):PE X (.Attribute e f pos) (Lg X.K ta f):=by
 intro pins s σ H Q I h;refine Sy hb (cX (he pins s σ H _ I h) λu s1 h0=>?_);obtain⟨x,H1,I1,rx,a,C,dx,fs,v,ex,ea,c,n,l,q⟩:=h0;subst ex;obtain rfl:u=Value.ref a:=rx;exact Df I1 ea c n l λu' s2 I2 ru=>⟨v,H1,I2,ru,q⟩
def d8(ha:PE X o ta)(hv:PE X value tv)(hs:swapsWith value (some (.Attribute o f pos')) pos.line X.env=pure false):PS X (.Assign [.Attribute o f pos'] value pos) (ZD X.K ta tv f):=by
 intro pins s σ H D I h;refine plainObj_wpAny_Assign_Attribute (cX (hv pins s σ H _ I h) λu s1 ⟨y,H1,I1,ry,q⟩=>cX (ha pins s1 σ H1 _ I1 q) λov s2 h0=>?_) hs;obtain⟨x,H2,I2,rx,a,C,dx,fs,ex,ea,c,n,l,q2⟩:=h0;subst ex;obtain rfl:ov=Value.ref a:=rx;exact Dh I2 ea c n l ry λs3 I3=>⟨σ,_,I3,q2⟩
def zX{op:Operator}{rd:V->V->Hp->VK->Prop}(ha:PE X o ta)(hv:PE X value tv)(hop:Wr X op rd):PS X (.AugAssign (.Attribute o f tpos) op value pos) (Sz X.K ta tv rd f):=by
 intro pins s σ H D I h;refine wpAny_AugAssign_AttributeAny (cX (ha pins s σ H _ I h) λov s1 h0=>?_);obtain⟨x,H1,I1,rx,a,C,dx,fs,v,ex,ea,c,n,l,q⟩:=h0;subst ex;obtain rfl:ov=Value.ref a:=rx;refine Df I1 ea c n l λu s2 I2 ru=>cX (hv pins s2 σ H1 _ I2 q) λw3 s3 ⟨y,H2,I3,ry,q3⟩=>cX (hop pins s3 σ H2 v y u w3 _ I3 ru ry q3) λw4 s4 h0=>?_
 obtain⟨z,H3,I4,rz,U8,fs',ea',l',q4⟩:=h0;exact Dh I4 ea' c n l' rz λs5 I5=>⟨σ,_,I5,q4⟩
inductive ZE(x:V)(y:V)(H:Hp)(Q:VK):Prop
 |mk (i:_) (j:_) (_:x=.int i) (_:y=.int j) (_:Q (.int (i+j)) H)
def KO:Wr X .Add ZE:=by
 rintro pins s σ H x y u v Q I rx ry ⟨i,j,rfl,rfl,q⟩
 obtain⟨t,rfl⟩:=(show∃t,u=Value.int i t from rx);obtain⟨t',rfl⟩:=(show∃t',v=Value.int j t' from ry);exact PyProof.Rows.iadd_int ⟨.int (i+j),H,I.tok _,⟨_,rfl⟩,q⟩
end
section
variable{X:Cx}{pins:List (Addr×Obj)}{σ:St}{H:Hp}{s:Shared}{A:Around}{E:Value->Shared->Prop}{Q:Value->Shared->Prop}{c:Value}{b:Bool}
inductive pP(K:W.Frag)(H:Hp):V->Value->Prop where
 |gq:pP K H .gq (.type "NoneType")
 |bl (x:Bool):pP K H (.bl x) (.type "bool")
 |int (i:Int):pP K H (.int i) (.type "int")
 |str (x:Str):pP K H (.str x) (.type "str")
 |PB (x:UInt64):pP K H (.PB x) (.type "float")
 |lst {a:Addr} {xs:List V} (e:H a=some (.lst xs)):pP K H (.ref a) (.type "list")
 |je {a:Addr} {o:Obj} {xs:List V} (e:H a=some (.je o (.lst xs))):pP K H (.ref a) (.type "list")
 |tup {a:Addr} {xs:List V} (e:H a=some (.tup xs)):pP K H (.ref a) (.type "tuple")
 |dK {a:Addr} {kvs:List (Key×V)} (e:H a=some (.dK kvs)):pP K H (.ref a) (.type "dict")
 |dT {a:Addr} {kvs:List (List Key×V)} (e:H a=some (.dT kvs)):pP K H (.ref a) (.type "dict")
 |ins {a C dx:Addr} {fs:List (Str×V)} (e:H a=some (.ins C dx fs)) (cl:rE K C) (ha:W.findIn K (.ref C) "__class__" =some (some (.builtin "object.__class__")))
   (hn:W.specialIn K (.builtin "object.__class__") "__get__" =some (some (.builtin "getset_descriptor.__get__"))) (htk:W.takesIn K (.builtin "object.__class__")=some true)
   (hm:W.mroIn K C (.type "object")=some true):pP K H (.ref a) (.ref C)
def NY{x:V}{u t:Value}(I:Inv X pins σ H s)(rx:RelV x u)(ty:pP X.K H x t)(e:W.kitOne X.K t c=some b)(h:∀tk,Q (.bool b) {s with toks:=tk}):
  wpAny (model X.prog X.w) A (call (.builtin "isinstance") [u,c]) Q E s:=by
 cases ty with
 |gq=>cases (show u=Value.none from rx);exact rB W.kitx_none I.rD True.intro e (λz=>nomatch z) h
 |bl y=>cases (show u=Value.bool y from rx);exact rB W.kitx_bool I.rD True.intro e (λz=>nomatch z) h
 |int i=>obtain⟨t,q⟩:=(show∃t,u=Value.int i t from rx);cases q;exact rB W.kitx_int I.rD True.intro e (λz=>nomatch z) h
 |str y=>obtain⟨t,q⟩:=(show∃t,u=Value.str y t from rx);cases q;exact rB W.kitx_str I.rD True.intro e (λz=>nomatch z) h
 |PB y=>obtain⟨t,q⟩:=(show∃t,u=Value.float y t from rx);cases q;exact rB W.kitx_float I.rD True.intro e (λz=>nomatch z) h
 |@lst a xs ea=>
  cases (show u=Value.ref a from rx);obtain⟨_,_,n,_,h1⟩:=(show fm X.prog X.w H s.heap a (.lst xs)from I.hok a _ ea);exact rB W.kitx_list I.rD ⟨_,h1,rfl⟩ e (λz=>nomatch z) h
 |@je a ob xs ea=>
  cases (show u=Value.ref a from rx);obtain⟨_,_,_,n,_,h1⟩:=(show fm X.prog X.w H s.heap a (.je ob (.lst xs))from I.hok a _ ea);exact rB W.kitx_list I.rD ⟨_,h1,rfl⟩ e (λz=>nomatch z) h
 |@tup a xs ea=>
  cases (show u=Value.ref a from rx);obtain⟨_,_,_,p⟩:=(show fm X.prog X.w H s.heap a (.tup xs)from I.hok a _ ea);obtain⟨o,h1,h2,_⟩:=p;exact rB W.kitx_tuple I.rD ⟨o,h1,h2⟩ e (λz=>nomatch z) h
 |@dK a kvs ea=>
  cases (show u=Value.ref a from rx);obtain⟨_,_,vs,_,p⟩:=(show fm X.prog X.w H s.heap a (.dK kvs)from I.hok a _ ea);obtain⟨o,es,ep,h1,h2,_⟩:=p;exact rB W.kitx_dict I.rD ⟨o,h1,h2.1⟩ e (λz=>nomatch z) h
 |@dT a kvs ea=>
  cases (show u=Value.ref a from rx);obtain⟨_,_,xs,_,o,es,ep,h1,h2,_⟩:=(show fm X.prog X.w H s.heap a (.dT kvs)from I.hok a _ ea);exact rB W.kitx_dict I.rD ⟨o,h1,h2.1⟩ e (λz=>nomatch z) h
 |@ins a C dx fs ea cl ha hn htk hm=>
  cases (show u=Value.ref a from rx);obtain⟨mA,O,_⟩:=Bs I.hok ea;obtain⟨od,J,_⟩:=O.look;exact rB (W.kitx_own (cl.get _) cl.hd ha hn htk hm) I.rD J e (λz=>nomatch z) h
end
structure jS(k:Nat)(A:Around):Prop where
 hd:A.handled=none
 dp:A.depth+3*k+5<recursionLimit
 un:A.units+16*k+200<cLine
def jS.mono{j k:Nat}{A:Around}(r:jS k A)(h:j<=k):jS j A:=⟨r.hd,by have:=r.dp;omega,by have:=r.un;omega⟩
theorem jS.deeper{k:Nat}{A:Around}(r:jS (k+1) A)(env:Env):jS k (A.deeper env):=
 ⟨r.hd,by have:=r.dp;show A.depth+1+3*k+5<_;omega,by have:=r.un;show A.units+3+16*k+200<_;omega⟩
def LD{A:Around}{C:Addr}{us:List Value}{kw:List (Str×Value)}:(A.under (.builtin "type.__call__" ⟨.ref C::us,kw⟩)).depth=A.depth+1:=by
 first|rfl|simp[Around.under,Code.weight,Code.isCreation,Code.isGuard,Code.isCaller,Code.frames,Code.isFrame,guardIds]
def LF{A:Around}{C:Addr}{us:List Value}{kw:List (Str×Value)}:(A.under (.builtin "type.__call__" ⟨.ref C::us,kw⟩)).units=A.units+1:=by
 first|rfl|simp[Around.under,Code.cUnits,Code.frames,Code.isFrame]
def jS.make{k:Nat}{A:Around}(r:jS (k+1) A)(C:Addr)(us:List Value)(kw:List (Str×Value)):jS k (A.under (.builtin "type.__call__" ⟨.ref C::us,kw⟩)):=
 ⟨r.hd,by have:=r.dp;rw[LD];omega,by have:=r.un;rw[LF];omega⟩
theorem jS.depth{k:Nat}{A:Around}(r:jS k A):A.depth<recursionLimit:=by have:=r.dp;omega
theorem jS.units{k:Nat}{A:Around}(r:jS k A):A.units+64<cLine:=by have:=r.un;omega
def xX:TA:=λ_ H Q=>Q [] H
def pL(ta:TE)(tr:TA):TA:=λσ H Q=>ta σ H λx H1=>tr σ H1 λxs H2=>Q (x::xs) H2
section
variable{X:Cx}{e:Expr}{es:List Expr}{te:TE}{t:TA}{pos:Pos}
def ah:PA X [] xX:=λ_ _ _ _ H Q I h=>Fg ⟨[],H,I,.nil,h⟩
def aa(ha:PE X e te)(hr:PA X es t)(hs:starEach (e::es) X.env=(false,eval e X.env)::starEach es X.env:=by rfl):PA X (e::es) (pL te t):=by
 intro pos pins s σ H Q I h;rw[hs];show wpAny _ _ (spliced ((false,eval e X.env)::backTo pos (starEach es X.env))) _ _ s
 refine E_ (cX (ha pins s σ H _ I h) λu s1 h0=>?_);obtain⟨x,H1,I1,r1,q1⟩:=h0;refine cX (hr pos pins s1 σ H1 _ I1 q1) λus s2 h0=>?_
 obtain⟨xs,H2,I2,r2,q2⟩:=h0;exact⟨x::xs,H2,I2,.cons r1 r2,q2⟩
def UD(t:TA):TE:=λσ H Q=>t σ H λxs H1=>xs.length<=sizeLine/\∀p,H1 p=none->Q (.ref p) (upd H1 p (.tup xs))
def ZF(t:TA):TE:=λσ H Q=>t σ H λxs H1=>xs.length<=sizeLine/\∀p,H1 p=none->Q (.ref p) (upd H1 p (.lst xs))
def j7{x1}(h:PA X es t):PE X (.Tuple es x1 pos) (UD t):=by
 intro pins s σ H Q I hq;refine wpAny_Tuple_spliced (cX (h pos pins s σ H _ I hq) λus s1 ⟨xs,H1,I1,r,z,q⟩=>⟨by rw[<- r.length];exact z,?_⟩);have hf:H1 s1.heap.objs.size=none:=I1.hok.fresh (bw _)
 refine⟨.ref s1.heap.objs.size,upd H1 s1.heap.objs.size (.tup xs),I1.laid (t':=s1.toks) (λb u e=>eB _ e) (bw _) ?_,rfl,q _ hf⟩;exact⟨z,us,r,⟨_,fB _ rfl,rfl,_,rfl⟩⟩
def bF(h:PA X es t):PE X (.List es pos) (ZF t):=by
 intro pins s σ H Q I hq;refine wpAny_List_spliced (cX (h pos pins s σ H _ I hq) λus s1 ⟨xs,H1,I1,r,z,q⟩=>⟨by rw[<- r.length];exact z,?_⟩);have hf:H1 s1.heap.objs.size=none:=I1.hok.fresh (bw _)
 refine⟨.ref s1.heap.objs.size,upd H1 s1.heap.objs.size (.lst xs),I1.laid (t':=s1.toks) (λb u e=>eB _ e) (bw _) ?_,rfl,q _ hf⟩;exact⟨z,us,0,r,fB _ rfl⟩
end
abbrev Sp:=List V->Hp->VK->XK->Prop
abbrev FT:=List Env->Hp->Shared->XK->Value->Shared->Prop
structure Ip(P:Program)(w:World)(K:W.Frag)(mg:Str->Option Value)(base:Heap)(A:Around)(outer:List Env)(s:Shared)(H:Hp):Prop where
 frames:A.frames=some outer
 mod:Mod K mg base
 bs:∀b o,base.get? b=some o->s.heap.get? b=some o/\H b=none
 NL:base.objs.size<=s.heap.objs.size
 xT:s.heap.FunFrames base outer
 RU:∀b∈frs outer,H b=none
 hok:mV P w H s.heap
 bare:AllBare s.gens
def CE(outer:List Env)(P:Program)(w:World)(H:Hp)(s:Shared)(Q:VK)(u:Value)(s':Shared):Prop:=
 ∃v H',s'.os=s.os/\AllBare s'.gens/\Un (frs outer) [] H H' s.heap s'.heap/\mV P w H' s'.heap/\RelV v u/\Q v H'
def CR(CX:FT)(outer:List Env)(P:Program)(w:World)(H:Hp)(s:Shared)(Q:VK)(E:XK)(r:Result)(s':Shared):Prop:=
 match r with
 | .ok (.ret u)=>CE outer P w H s Q u s'
 | .ok _=>False
 | .error e=>CX outer H s E e s'
structure aT(P:Program)(w:World)(K:W.Frag)(mg:Str->Option Value)(base:Heap)(CX:FT)(k:Nat)(f:Addr)(fd:FuncData)(ps:List Str)(sp:Sp):Prop where
 len:∀vs H Q E,sp vs H Q E->vs.length=ps.length
 run:∀(A:Around) (outer:List Env) (s:Shared) (H:Hp) (args:Args) (us:List Value) (vs:List V) (Q:VK) (E:XK),jS k A->Ip P w K mg base A outer s H->BindsTo s fd args (ps.zip us)->Vals vs us->sp vs H Q E->
  codeAny (model P w) A (.call (.ref f) args) (CR CX outer P w H s Q E) s
theorem aT.mono{P:Program}{w:World}{K:W.Frag}{mg:Str->Option Value}{base:Heap}{CX:FT}{j k:Nat}{f:Addr}{fd:FuncData}{ps:List Str}{sp:Sp}(F:aT P w K mg base CX j f fd ps sp)(h:j<=k):
  aT P w K mg base CX k f fd ps sp:=⟨F.len,λA outer s H args us vs Q E hr=>F.run A outer s H args us vs Q E (hr.mono h)⟩
def aT.imp{P:Program}{w:World}{K:W.Frag}{mg:Str->Option Value}{base:Heap}{CX:FT}{k:Nat}{f:Addr}{fd:FuncData}{ps:List Str}{sp sp':Sp}(F:aT P w K mg base CX k f fd ps sp)
  (h:∀vs H Q E,sp' vs H Q E->sp vs H Q E):aT P w K mg base CX k f fd ps sp':=
 ⟨λvs H Q E q=>F.len vs H Q E (h _ _ _ _ q),λA outer s H args us vs Q E hr he hb hv hs=>F.run A outer s H args us vs Q E hr he hb hv (h _ _ _ _ hs)⟩
def Ip.make{P:Program}{w:World}{K:W.Frag}{mg:Str->Option Value}{base:Heap}{A:Around}{outer:List Env}{s:Shared}{H:Hp}(e:Ip P w K mg base A outer s H)(C:Addr)(us:List Value)(kw:List (Str×Value)):
  Ip P w K mg base (A.under (.builtin "type.__call__" ⟨.ref C::us,kw⟩)) outer s H:=⟨by first|exact e.frames|(simpa[Around.under,Code.envs,Code.isFrame,pushEnvs]using e.frames),e.mod,e.bs,e.NL,e.xT,e.RU,e.hok,e.bare⟩
section
variable{X:Cx}{pins:List (Addr×Obj)}{σ:St}{H:Hp}{s s':Shared}
def Inv.Ws(I:Inv X pins σ H s):Ip X.prog X.w X.K X.mg X.base X.A X.stack s H:=
 ⟨I.ok.frames,I.ok.mod,I.bs,gz I.ok.NL I.sz,I.stack,I.MJ,I.hok,I.bare⟩
def Inv.after{Q:VK}{u:Value}(I:Inv X pins σ H s)(h:CE X.stack X.prog X.w H s Q u s'):EP X pins σ Q u s':=by
 obtain⟨v,H',os,bare,un,hok,r,q⟩:=h;obtain⟨hh,g,d,t,os'⟩:=s';obtain rfl:os'=s.os:=os;exact⟨v,H',I.call (h':=hh) (g':=g) (d':=d) (t':=t) (ch:=[]) un hok bare (λb z=>absurd z (by simp)),r,q⟩
end
def Lh(sp:Sp)(tw:List V)(E:XK)(t:TA):TE:=λσ H Q=>t σ H λvs H1=>sp (vs++tw) H1 Q E
inductive U9(C:Addr)(m:Str)(sp:Sp)(tw:List V)(E:XK)(t:TA)(σ:St)(Q:VK)(x:V)(H1:Hp):Prop
 |mk (a:_) (dx:_) (fs:_) (_:x=.ref a) (_:H1 a=some (.ins C dx fs)) (_:fs.lookup m=none) (_:t σ H1 λvs H2=>sp (x::(vs++tw)) H2 Q E)
def GY(C:Addr)(m:Str)(sp:Sp)(tw:List V)(E:XK)(ta:TE)(t:TA):TE:=λσ H Q=>ta σ H λx H1=>U9 C m sp tw E t σ Q x H1
def O7(C:Addr)(sp:Sp)(tw:List V)(E:XK)(t:TA):TE:=λσ H Q=>t σ H λvs H1=>∀x dx,H1 x=none->H1 dx=none->dx≠x->
 sp (.ref x::(vs++tw)) (upd (upd H1 dx (.own x)) x (.ins C dx [])) (λv H2=>v=.gq/\Q (.ref x) H2) E
def Binds(K:W.Frag)(fd:FuncData)(ps:List Str)(ds:List Value):Prop:=
 ∀(s:Shared) (us:List Value),K.In s.heap->(us++ds).length=ps.length->BindsTo s fd ⟨us,[]⟩ (ps.zip (us++ds))
def Binds.all{K:W.Frag}{fd:FuncData}{ps:List Str}(h:∀us:List Value,us.length=ps.length->bindArgs fd ⟨us,[]⟩=pure (ps.zip us)):Binds K fd ps []:=λs us _ hl=>by
 rw[nP]at hl⊢;exact .of_eq (h us hl)
def Passes(CX:FT)(X:Cx)(E:XK):Prop:=∀(pins:List (Addr×Obj)) (σ:St) (H:Hp) (s:Shared) (e:Value) (s':Shared),Inv X pins σ H s->CX X.stack H s E e s'->X.xe e s'
section
variable{X:Cx}{CX:FT}{k:Nat}{f C:Addr}{fd:FuncData}{ps:List Str}{sp:Sp}{tw:List V}{ds:List Value}{E:XK}{x m:Str}{p pos apos:Pos}{e o:Expr}{es:List Expr}{ta:TE}{t:TA}
def FU{pins:List (Addr×Obj)}{σ:St}{H:Hp}{s:Shared}{Q:VK}{us:List Value}{vs:List V}(F:aT X.prog X.w X.K X.mg X.base CX k f fd ps sp)(hr:jS k X.A)(hb:Binds X.K fd ps ds)(hd:Vals tw ds)(hx:Passes CX X E)
  (I:Inv X pins σ H s) (r:Vals vs us) (h:sp (vs++tw) H Q E):wpAny (model X.prog X.w) X.A (call (.ref f) us) (EP X pins σ Q) X.xe s:=by
 have r2:Vals (vs++tw) (us++ds):=r.append hd;have hl:(us++ds).length=ps.length:=by rw[<- r2.length];exact F.len _ _ _ _ h
 refine wpAny_call (yC (F.run X.A X.stack s H ⟨us,[]⟩ (us++ds) (vs++tw) Q E hr I.Ws (hb s us I.rD hl) r2 h) λr s' hq=>?_);cases r with
 |error e=>exact hx pins σ H s e s' I hq
 |ok fl=>
  cases fl with
  |ret u=>exact I.after hq
  |next=>exact False.elim hq
  |brk=>exact False.elim hq
  |cont=>exact False.elim hq
def aF(F:aT X.prog X.w X.K X.mg X.base CX k f fd ps sp)(hr:jS k X.A)(hg:Gl X x)(hm:X.mg x=some (.ref f))(hk:W.keepIn X.K (.ref f)=true)(hb:Binds X.K fd ps ds)(hd:Vals tw ds)(hx:Passes CX X E)
  (ha:PA X (e::es) t) (hdb:(x==("__debug__":Str))=false:=by decide) (he:starEach (e::es) X.env=(false,eval e X.env)::starEach es X.env:=by rfl) (hpl:(backTo pos (starEach es X.env)).any (·.1)=false:=by rfl):
  PE X (.Call (.Name x p) (e::es) [] pos) (Lh sp tw E t):=by
 intro pins s σ H Q I h;refine BQ (Bq I hg hm ?_ hdb);refine E4 (h₀:=X.base) I.ok.mod.T4 hk (cX (ha pos pins s σ H _ I h) λus s1 ⟨vs,H1,I1,r,q⟩=>⟨I1.rD,?_⟩) he hpl;exact FU F hr hb hd hx I1 r q
def aI{pl:Sem Bool}(he:PE X o ta)(c:rE X.K C)(hm:Meth X.K C m f)(F:aT X.prog X.w X.K X.mg X.base CX k f fd ps sp)(hr:jS k X.A)(hb:Binds X.K fd ps ds)(hd:Vals tw ds)(hx:Passes CX X E)(ha:PA X (e::es) t)
  (hst:starEach (e::es) X.env=(false,eval e X.env)::starEach es X.env:=by rfl) (hpl:(backTo pos (starEach es X.env)).any (·.1)=false:=by rfl)
  (ht:eval (.Call (.Attribute o m apos) (e::es) [] pos) X.env=(do
   let ov <- eval o X.env
   standAt apos.atName
   let(f,first) <- holding [ov] (getMethod ov m pl)
   callWith pos f first (backTo pos (starEach (e::es) X.env)) (backToKw pos (keywordEach [] X.env))):=by rfl):
  PE X (.Call (.Attribute o m apos) (e::es) [] pos) (GY C m sp tw E ta t):=by
 intro pins s σ H Q I h;refine W.methodCall_KW (pl:=pl) (cX (he pins s σ H _ I h) λu s1 h0=>?_) ht;obtain⟨x,H1,I1,rx,a,dx,fs,ex,ea,l,q⟩:=h0;subst ex;obtain rfl:u=Value.ref a:=rx;refine Dg I1 ea c hm l ?_;refine E4 (first:=[.ref a]) (h₀:=X.base) I.ok.mod.T4 hm.kp (cX (ha pos pins s1 σ H1 _ I1 q) λus s2 ⟨vs,H2,I2,r,q2⟩=>⟨I2.rD,?_⟩) hst hpl;exact FU (us:= .ref a::us) (vs:= .ref a::vs) F hr hb hd hx I2 (.cons rfl r) q2
def lE{pl:Sem Bool}(he:PE X o ta)(c:rE X.K C)(hm:Meth X.K C m f)(F:aT X.prog X.w X.K X.mg X.base CX k f fd ps sp)(hr:jS k X.A)(hb:Binds X.K fd ps ds)(hd:Vals tw ds)(hx:Passes CX X E)
  (ht:eval (.Call (.Attribute o m apos) [] [] pos) X.env=(do
   let ov <- eval o X.env
   standAt apos.atName
   let(f,first) <- holding [ov] (getMethod ov m pl)
   callWith pos f first (backTo pos (starEach [] X.env)) (backToKw pos (keywordEach [] X.env))):=by rfl):
  PE X (.Call (.Attribute o m apos) [] [] pos) (GY C m sp tw E ta xX):=by
 intro pins s σ H Q I h;refine W.methodCall_KW (pl:=pl) (cX (he pins s σ H _ I h) λu s1 h0=>?_) ht;obtain⟨x,H1,I1,rx,a,dx,fs,ex,ea,l,q⟩:=h0;subst ex;obtain rfl:u=Value.ref a:=rx;refine Dg I1 ea c hm l ?_;exact W.callWith_K0 (first:=[.ref a]) I1.rD hm.kp (FU (us:=[.ref a]) (vs:=[.ref a]) F hr hb hd hx I1 (.cons rfl .nil) q)
structure Mk(K:W.Frag)(C f:Addr):Prop where
 makes:W.makesIn K C=true
 init:W.findIn K (.ref C) "__init__" =some (some (.ref f))
 fn:W.isFn K (.ref f)=true
 kp:W.keepIn K (.ref C)=true
def IT{pins:List (Addr×Obj)}{σ:St}{H:Hp}{s:Shared}{Q:VK}{us:List Value}{vs:List V}(M:Mk X.K C f)(F:aT X.prog X.w X.K X.mg X.base CX k f fd ps sp)(hr:jS (k+1) X.A)(hb:Binds X.K fd ps ds)(hd:Vals tw ds)
  (hx:Passes CX X E) (I:Inv X pins σ H s) (r:Vals vs us)
  (h:∀x dx,H x=none->H dx=none->dx≠x->sp (.ref x::(vs++tw)) (upd (upd H dx (.own x)) x (.ins C dx [])) (λv H2=>v=.gq/\Q (.ref x) H2) E):
  wpAny (model X.prog X.w) X.A (call (.ref C) us) (EP X pins σ Q) X.xe s:=by
 have hq:=h (s.heap.objs.size+1) s.heap.objs.size (I.hok.fresh (Nat.le_succ _)) (I.hok.fresh (bw _)) (iG (E8 _));have I2:=Inv.made (C:=C) I
 have r2:Vals (V.ref (s.heap.objs.size+1)::(vs++tw)) (Value.ref (s.heap.objs.size+1)::(us++ds)):= .cons rfl (r.append hd);have hl:(Value.ref (s.heap.objs.size+1)::us++ds).length=ps.length:=by
  have e:=r2.length;rw[F.len _ _ _ _ hq]at e;exact e.symm
 refine wpAny_call (QE (f:=f) I.rD M.makes M.init (vL.mp M.fn) (yC (F.run _ X.stack _ _ ⟨Value.ref (s.heap.objs.size+1)::us,[]⟩ (Value.ref (s.heap.objs.size+1)::(us++ds)) _ _ E (hr.make C us [])
  (I2.Ws.make C us []) (hb _ (Value.ref (s.heap.objs.size+1)::us) I2.rD hl) r2 hq) λr s' hq'=>?_))
 cases r with
 |error e=>exact hx pins σ _ _ e s' I2 hq'
 |ok fl=>
  cases fl with
  |ret u=>
   obtain⟨v,H',I3,rv,ev,q3⟩:=I2.after hq';subst ev;exact⟨rv,⟨V.ref (s.heap.objs.size+1),H',I3,rfl,q3⟩⟩
  |next=>exact False.elim hq'
  |brk=>exact False.elim hq'
  |cont=>exact False.elim hq'
def l5(M:Mk X.K C f)(F:aT X.prog X.w X.K X.mg X.base CX k f fd ps sp)(hr:jS (k+1) X.A)(hg:Gl X x)(hm:X.mg x=some (.ref C))(hb:Binds X.K fd ps ds)(hd:Vals tw ds)(hx:Passes CX X E)
  (ha:PA X (e::es) t) (hdb:(x==("__debug__":Str))=false:=by decide) (he:starEach (e::es) X.env=(false,eval e X.env)::starEach es X.env:=by rfl) (hpl:(backTo pos (starEach es X.env)).any (·.1)=false:=by rfl):
  PE X (.Call (.Name x p) (e::es) [] pos) (O7 C sp tw E t):=by
 intro pins s σ H Q I h;refine BQ (Bq I hg hm ?_ hdb);refine E4 (h₀:=X.base) I.ok.mod.T4 M.kp (cX (ha pos pins s σ H _ I h) λus s1 ⟨vs,H1,I1,r,q⟩=>⟨I1.rD,?_⟩) he hpl;exact IT M F hr hb hd hx I1 r q
def CT(M:Mk X.K C f)(F:aT X.prog X.w X.K X.mg X.base CX k f fd ps sp)(hr:jS (k+1) X.A)(hg:Gl X x)(hm:X.mg x=some (.ref C))(hb:Binds X.K fd ps ds)(hd:Vals tw ds)(hx:Passes CX X E)
  (hdb:(x==("__debug__":Str))=false:=by decide):PE X (.Call (.Name x p) [] [] pos) (O7 C sp tw E xX):=by
 intro pins s σ H Q I h;refine BQ (Bq I hg hm ?_ hdb);exact W.callWith_K0 I.rD M.kp (IT (us:=[]) M F hr hb hd hx I .nil h)
end
section
variable{X:Cx}{CX:FT}{k:Nat}{f C:Addr}{fd:FuncData}{ps ks:List Str}{sp:Sp}{E:XK}{x m:Str}{p pos apos kpos:Pos}{e o:Expr}{es:List Expr}{kws:List Keyword}{te ta:TE}{t tk:TA}{nm:Option Str}
variable{g:List Value->List Value->List Value}{gV:List V->List V->List V}
end
structure Bt(N P:List Str)(sc:Scope):Prop where
 kind:sc.kind=.function
 co:sc.isCoroutine=false
 gen:sc.isGenerator=false
 nd:N.Nodup
 pre:N.take P.length=P
 par:∀x∈P,sc.names.lookup x=some .local\/sc.names.lookup x=some .cell
 U_:∀y∈sc.names,y.2≠ .free
theorem FW{kindOf:Str->Option NameKind}{x:Str}:∀{binds:List (Str×Value)} {m:Str->Option Value},(∀v,(x,v)∉binds)->bindL kindOf binds m x=m x
 | [],_,_=>rfl
 |(n,v)::r,m,h=>by
  unfold bindL;rw[FW λw hw=>h w (cP _ hw)]
  split
  ·have:x≠n:=by rintro rfl;exact h v bU
   simp[this]
  ·rfl
theorem FY{kindOf:Str->Option NameKind}{x:Str}:∀{binds:List (Str×Value)} {m:Str->Option Value},(∀v,(x,v)∉binds)->bindC kindOf binds m x=m x
 | [],_,_=>rfl
 |(n,v)::r,m,h=>by
  unfold bindC;rw[FY λw hw=>h w (cP _ hw)]
  split
  ·rfl
  ·have:x≠n:=by rintro rfl;exact h v bU
   simp[this]
theorem FZ{kindOf:Str->Option NameKind}{x:Str}{v:Value}:∀{P:List Str} {vs:List Value} {i:Nat} {m:Str->Option Value},P.Nodup->P[i]? =some x->vs[i]? =some v->kindOf x=some .local->
  bindL kindOf (P.zip vs) m x=some v
 | [],_,_,_,_,h,_,_=>by simp at h
 |_::_,[],_,_,_,_,h,_=>by simp at h
 |p::P,w::vs,0,m,nd,h1,h2,hk=>by
  simp at h1 h2;subst h1;subst h2;show bindL kindOf ((p,w)::P.zip vs) m p=_
  unfold bindL;rw[FW λv hv=>(kQ.mp nd).1 (Fd hv).1,ay hk];simp
 |p::P,w::vs,i+1,m,nd,h1,h2,hk=>by
  show bindL kindOf ((p,w)::P.zip vs) m x=_
  unfold bindL;exact FZ (i:=i) (kQ.mp nd).2 (by simpa using h1) (by simpa using h2) hk
theorem F0{kindOf:Str->Option NameKind}{x:Str}{v:Value}:∀{P:List Str} {vs:List Value} {i:Nat} {m:Str->Option Value},P.Nodup->P[i]? =some x->vs[i]? =some v->kindOf x≠some .local->
  bindC kindOf (P.zip vs) m x=some v
 | [],_,_,_,_,h,_,_=>by simp at h
 |_::_,[],_,_,_,_,h,_=>by simp at h
 |p::P,w::vs,0,m,nd,h1,h2,hk=>by
  simp at h1 h2;subst h1;subst h2;show bindC kindOf ((p,w)::P.zip vs) m p=_
  unfold bindC;rw[FY λv hv=>(kQ.mp nd).1 (Fd hv).1,aq hk];simp
 |p::P,w::vs,i+1,m,nd,h1,h2,hk=>by
  show bindC kindOf ((p,w)::P.zip vs) m x=_
  unfold bindC;exact F0 (i:=i) (kQ.mp nd).2 (by simpa using h1) (by simpa using h2) hk
noncomputable def start (N:List Str) (vs:List V):St:=vs.map some++List.replicate (N.length-vs.length) none
noncomputable def Li (CX:FT) (P:Program) (w:World) (K:W.Frag) (mg:Str->Option Value) (base:Heap) (N:List Str) (qual:Str) (scope:Scope) (f:Addr) (cd:Value) (A:Around) (outer:List Env) (s:Shared) (H:Hp) (E:XK):Cx where
 prog:=P
 w:=w
 K:=K
 mg:=mg
 base:=base
 A:=A.deeper (envOfC qual scope s.heap.objs.size f cd)
 N:=N
 yL:=s
 RS:=H
 env:=envOfC qual scope s.heap.objs.size f cd
 outer:=outer
 stack:=envOfC qual scope s.heap.objs.size f cd::outer
 ex:=[]
 calm:=true
 fn:=λ_=>true
 pn:=[]
 xe:=λe s'=>wpAny (model P w) (A.deeper (envOfC qual scope s.heap.objs.size f cd)) (leaving (envOfC qual scope s.heap.objs.size f cd) e) (λ_ s''=>CX outer H s E e s'') (λe' s''=>CX outer H s E e' s'') s'
def IU{sc:Scope}{n:Nat}{x:Str}(h:sc.names.lookup x=some .cell):∃c,(cellsFrom n sc.names []).lookup x=some c:=by
 have q:=W.cellsFrom_some sc.names n [] (.inl h);exact iL.mp q
def NZ{CX:FT}{P:Program}{w:World}{K:W.Frag}{mg:Str->Option Value}{base:Heap}{N ps:List Str}{qual:Str}{scope:Scope}{f:Addr}{cd:Value}{A:Around}{outer:List Env}{s s1:Shared}{H:Hp}{E:XK}{us:List Value}{vs:List V}
  (S:Bt N ps scope) (hd:A.handled=none) (e0:Ip P w K mg base A outer s H) (hl:vs.length=ps.length) (r:Vals vs us)
  (x:InCallC s s.heap.objs.size (bindL (envOfC qual scope s.heap.objs.size f cd).kindOf (ps.zip us) λ_=>none) (cellsFrom (s.heap.objs.size+1) scope.names []) (bindC (envOfC qual scope s.heap.objs.size f cd).kindOf (ps.zip us) λ_=>none) s1):
  Inv (Li CX P w K mg base N qual scope f cd A outer s H E) [] (start N vs) H s1:=by
 have hpl:ps.length<=N.length:=by have:=jd List.length S.pre;rw[lG]at this;omega
 obtain⟨h1,tk,rfl,hk⟩:=x.done;have T8:∀b:Addr,b∉(Li CX P w K mg base N qual scope f cd A outer s H E).ex:=λb z=>absurd (show b∈([]:List Addr)from z) (by simp)
 refine⟨⟨e0.mod,S.kind,rfl,rfl,bw _,λy z c h1 h2=>?_,λy hy=>?_,λy c _ h=>?_,λ_=>hd,Around.frames_deeper e0.frames,.inr ⟨rfl,rfl⟩,λb z=>absurd z (T8 b),e0.bs,e0.NL,λb _ _=>T8 b,λb z=>absurd z (T8 b),e0.xT,e0.RU⟩,
  rfl,e0.bare,Un.kept hk,⟨_,x.toInCall.ns,λi y v h1 h2 h3=>?_⟩,λy c h=>⟨_,x.cell y c h⟩,e0.hok.fresh (bw _),λy c h=>?_,λp hp=>absurd (show p∈([]:List (Addr×Obj))from hp) (by simp),e0.hok.kept hk,?_⟩
 ·exact name_of_addr x.apart (mS h1) (mS h2)
 ·have hy:scope.names.lookup y=some .cell\/scope.names.lookup y=some .free:=hy;rcases hy with hy|hy
  ·exact IU hy
  ·exact absurd rfl (S.U_ _ (mS hy))
 ·exact lH (x.above y c (mS h))
 ·have hi:i<vs.length:=by
   unfold start at h2;by_cases hi:i<vs.length
   ·exact hi
   ·rw[Ed (by simpa using hi)]at h2;rw[List.getElem?_replicate]at h2
    split at h2<;>cases h2
  have ha:vs[i]? =some v:=by
   unfold start at h2;rw[GO (by simpa using hi),fj]at h2;cases e:vs[i]? with
   |none=>rw[e]at h2;cases h2
   |some a=>rw[e]at h2;cases h2;rfl
  obtain⟨u,hu,rv⟩:=r.get ha;have hp:ps[i]? =some y:=by
   rw[<- S.pre,List.getElem?_take_of_lt (by omega)];exact h1
  have ndP:ps.Nodup:=by rw[<- S.pre];exact S.nd.sublist (List.take_sublist _ _)
  refine⟨u,rv,?_⟩;rcases S.par y (l_ hp)with k|k
  ·exact .inl ⟨k,FZ ndP hp hu k⟩
  ·obtain⟨c,e⟩:=IU (n:=s.heap.objs.size+1) k;refine .inr ⟨.inl k,c,e,?_⟩;have q:=x.cell y c e
   rw[F0 ndP hp hu (by show scope.names.lookup y≠_;rw[k];decide)]at q;exact q
 ·exact e0.hok.fresh (lH (x.above y c (mS h)))
 ·unfold start;show _=N.length
  rw[gb,aO,List.length_replicate];omega
def Xp{CX:FT}{P:Program}{w:World}{K:W.Frag}{mg:Str->Option Value}{base:Heap}{k:Nat}{f:Addr}{name qual:Str}{params:Arguments}{body:List Stmt}{scope:Scope}{dV kV doc pm cdv ct oc:Value}{an od:Option Addr}
  {osl:Array (Option Value)} {N ps:List Str} {sp:Sp} (lk:K.lookup f=some ⟨oc,od,.func (W.fnOf name qual params body scope dV kV doc pm an cdv ct),osl⟩) (hcd:W.codeIn K cdv qual=true) (S:Bt N ps scope)
  (len:∀vs H Q E,sp vs H Q E->vs.length=ps.length)
  (hbody:∀(A:Around) (outer:List Env) (s:Shared) (H:Hp) (vs:List V) (Q:VK) (E:XK),jS k (A.deeper (envOfC qual scope s.heap.objs.size f cdv))->sp vs H Q E->
   ∃t,GW (Li CX P w K mg base N qual scope f cdv A outer s H E) body t/\t {nx:=λ_ H'=>Q .gq H',rt:=Q} (start N vs) H):
  aT P w K mg base CX (k+1) f (W.fnOf name qual params body scope dV kV doc pm an cdv ct) ps sp:=by
 refine⟨len,λA outer s H args us vs Q E hr e0 hb r MS=>?_⟩;have hl:=len _ _ _ _ MS
 have KX:K.In s.heap:=e0.mod.T4.keeps λb o e=>(e0.bs b o e).1
 have lim:s.heap.NoLimit:=e0.mod.nolimit.keeps λb o e=>(e0.bs b o e).1
 have hkind:∀y∈ps.zip us,scope.names.lookup y.1=some .local\/(scope.names.lookup y.1=some .cell/\((cellsFrom (s.heap.objs.size+1) scope.names []).lookup y.1).isSome=true):=λ⟨n,v⟩ hy=>by
  rcases S.par n (Fd hy).1 with q|q
  ·exact .inl q
  ·exact .inr ⟨q,W.cellsFrom_some _ _ _ (.inl q)⟩
 refine codeAny_call_function hr.depth (KX _ _ lk) rfl S.co S.gen rfl (W.codeRec_of KX hcd) (hb _ _ _ _ ?_);refine wpAny_newFunctionEnv_cells S.kind hkind λenv he s1 x=>?_
 subst he;refine⟨lim.keeps x.toInCall.keep,codeAny_func ?_⟩;obtain⟨t,ht,hq⟩:=hbody A outer s H vs Q E (hr.deeper _) MS;have I:Inv (Li CX P w K mg base N qual scope f cdv A outer s H E) [] (start N vs) H s1:=NZ S hr.hd e0 hl r x
 refine mT (ht [] s1 (start N vs) H _ I hq) (λfl s' hs=>?_) λe s' hs=>hs
 have fin:∀{σ':St} {H':Hp} {v:V} {u:Value},Inv (Li CX P w K mg base N qual scope f cdv A outer s H E) [] σ' H' s'->RelV v u->Q v H'->CE outer P w H s Q u s':=
  λ{σ' H' v u} J rv q=>⟨v,H',J.os,J.bare,J.base,J.hok,rv,q⟩
 cases fl with
 |ret u=>
  obtain⟨v,σ',H',J,rv,q⟩:=hs;exact fin J rv q
 |next=>
  obtain⟨σ',H',J,q⟩:=hs;exact fin (v:=V.gq) (u:=Value.none) J rfl q
 |brk=>
  obtain⟨_,_,_,q⟩:=hs;exact False.elim q
 |cont=>
  obtain⟨_,_,_,q⟩:=hs;exact False.elim q
section
variable{X:Cx}{x:Str}{p pos:Pos}{e:Expr}{es:List Expr}{t:TA}{id T:String}{r:List V->Hp->VK->Prop}
def tCB(r:List V->Hp->VK->Prop)(t:TA):TE:=λσ H Q=>t σ H λvs H1=>r vs H1 Q
def aV(hc:qp X (.builtin id) r)(hg:Gl X x)(hm:X.mg x=none)(hv:bootBuiltins x=some (.builtin id))(ha:PA X (e::es) t)(hn:x≠ "__name__":=by decide)(hdb:(x==("__debug__":Str))=false:=by decide)
  (he:starEach (e::es) X.env=(false,eval e X.env)::starEach es X.env:=by rfl) (hpl:(backTo pos (starEach es X.env)).any (·.1)=false:=by rfl):PE X (.Call (.Name x p) (e::es) [] pos) (tCB r t):=by
 intro pins s σ H Q I h;refine BQ (vM I hg hm hv ?_ hn hdb);refine PyProof.Rows.callWith_builtin1 (cX (ha pos pins s σ H _ I h) λus s1 h0=>?_) he hpl;obtain⟨vs,H1,I1,r1,q1⟩:=h0;exact hc pins s1 σ H1 vs us Q I1 r1 q1
def kZ(hc:qp X (.type T) r)(hg:Gl X x)(hm:X.mg x=none)(hv:bootBuiltins x=some (.type T))(ha:PA X (e::es) t)(hn:x≠ "__name__":=by decide)(hdb:(x==("__debug__":Str))=false:=by decide)
  (he:starEach (e::es) X.env=(false,eval e X.env)::starEach es X.env:=by rfl) (hpl:(backTo pos (starEach es X.env)).any (·.1)=false:=by rfl):PE X (.Call (.Name x p) (e::es) [] pos) (tCB r t):=by
 intro pins s σ H Q I h;refine BQ (vM I hg hm hv ?_ hn hdb);refine Eb (cX (ha pos pins s σ H _ I h) λus s1 h0=>?_) he hpl;obtain⟨vs,H1,I1,r1,q1⟩:=h0;exact hc pins s1 σ H1 vs us Q I1 r1 q1
end
end L2
namespace HT
open PySem PyProof.Rows
section
open PySem.SeqAt
open PySem.AutoSeq1 (wpAny_loadPart')
open PySem.MeetsSeq PySem.MeetsSeq2 PySem.MeetsSeq3
end
section
variable{prog:Program}{w:World}{A:Around}{E:Value->Shared->Prop}{s:Shared}
noncomputable def Di (n d:Nat):Option Int->Nat
 |none=>d
 |some v=>if v<0 then(v+(n:Int)).toNat else min v.toNat n
def MT(n d k:Nat):Di n d (some (k:Int))=min k n:=by
 show(if(k:Int)< 0 then((k:Int)+(n:Int)).toNat else min (k:Int).toNat n)=min k n
 rw[aq (by omega),dO]
end
end HT
namespace L2
open PySem PySem.Spec PyProof.Rows
abbrev TO:=St->Hp->(Option Int->Hp->Prop)->Prop
def PO(X:Cx)(e:Option Expr)(t:TO):Prop:=
 ∀(pins:List (Addr×Obj)) (s:Shared) (σ:St) (H:Hp) (Q:Option Int->Hp->Prop),Inv X pins σ H s->t σ H Q->
  wpAny (model X.prog X.w) X.A (evalPart e X.env) (λu s'=>∃o H',Inv X pins σ H' s'/\IsPart u o/\Q o H') X.xe s
inductive Va(Q:Option Int->Hp->Prop)(x:V)(H1:Hp):Prop
 |mk (i:_) (_:x=.int i) (_:Q (some i) H1)
def Xq(t:TE):TO:=λσ H Q=>t σ H λx H1=>Va Q x H1
section
variable{X:Cx}{e:Expr}{te:TE}{lo hi:Option Expr}{tl th:TO}{pos p2:Pos}
def MU(h:PE X e te):PO X (some e) (Xq te):=by
 intro pins s σ H Q I hw;rw[evalPart_some];refine cX (h pins s σ H _ I hw) λu s1 h0=>?_
 obtain⟨x,H1,I1,r1,q1⟩:=h0;obtain⟨i,rfl,q⟩:=q1;obtain⟨t,rfl⟩:=r1;exact⟨some i,H1,I1,.int i t,q⟩
def SlR(X:Cx)(r:V->Option Int->Option Int->Hp->VK->Prop):Prop:=
 ∀(pins:List (Addr×Obj)) (s:Shared) (σ:St) (H:Hp) (x:V) (v vl vu:Value) (lo hi:Option Int) (sl:Addr) (Q:VK),Inv X pins σ H s->RelV x v->s.heap.IsSliceOf sl vl vu .none->IsPart vl lo->IsPart vu hi->r x lo hi H Q->
  ∃T id,typeLookup (.type T) "__getitem__" =pure (some (.builtin id))/\s.TypeIs v T/\wpAny (model X.prog X.w) X.A (getItem v (.ref sl)) (EP X pins σ Q) X.xe s
def tSl(r:V->Option Int->Option Int->Hp->VK->Prop)(te:TE)(tl th:TO):TE:=λσ H Q=>te σ H λx H1=>tl σ H1 λl H2=>th σ H2 λu H3=>r x l u H3 Q
def QF{r:V->Option Int->Option Int->Hp->VK->Prop}(hr:SlR X r)(he:PE X e te)(hl:PO X lo tl)(hu:PO X hi th):PE X (.Subscript e (.Slice lo hi none p2) pos) (tSl r te tl th):=by
 intro pins s σ H Q I h;refine Subscript_ (cX (he pins s σ H _ I h) λv s1 h0=>?_);obtain⟨x,H1,I1,r1,q1⟩:=h0;refine wpAny_Slice (cX (hl pins s1 σ H1 _ I1 q1) λvl s2 ⟨l,H2,I2,pl,q2⟩=>cX (hu pins s2 σ H2 _ I2 q2) λvu s3 h0=>?_);obtain⟨u,H3,I3,pu,q3⟩:=h0;rw[evalPart_none];refine aP ?_;have I4:Inv X pins σ H3 {s3 with heap:=s3.heap.push {cls:= .type "slice",data:= .fields #[vl,vu,.none]}}:=I3.kept (t':=s3.toks) λb ob q=>eB _ q
 obtain⟨T,id,hT,ht,hg⟩:=hr pins {s3 with heap:=s3.heap.push {cls:= .type "slice",data:= .fields #[vl,vu,.none]}} σ H3 x v vl vu l u s3.heap.objs.size Q I4 r1 (Heap.IsSliceOf.new ..) pl pu q3;show wpAny (model X.prog X.w) X.A (subscriptTail e (.Slice lo hi none p2) v (.ref s3.heap.objs.size)) (EP X pins σ Q) X.xe {s3 with heap:=s3.heap.push {cls:= .type "slice",data:= .fields #[vl,vu,.none]}}
 exact tail_any (ops:=[.ref s3.heap.objs.size,v]) ht hT hg (by with_unfolding_all rfl)
noncomputable def Lj (xs:List V) (lo hi:Option Int):List V:=(xs.drop (HT.Di xs.length 0 lo)).take (HT.Di xs.length xs.length hi-HT.Di xs.length 0 lo)
def Jt(xs:List V)(lo hi:Option Int):(Lj xs lo hi).length<=xs.length:=by
 unfold Lj;rw[lG,List.length_drop];omega
end
noncomputable def T9 (n:Nat) (i:Int):Option Nat:=if 0<=i then(if i<n then some i.toNat else none)else if -(n:Int)<=i then some (i+n).toNat else none
noncomputable def RX {α:Type} (xs:List α) (i:Int):Option α:=(T9 xs.length i).bind λj=>xs[j]?
def SA{n:Nat}{i:Int}{j:Nat}(h:T9 n i=some j):seqIndex? i n=some j/\j<n/\ -(n:Int)<=i/\i<n:=by
 unfold T9 at h;by_cases h0:0<=i
 ·rw[ay h0]at h;by_cases h1:i<n
  ·rw[ay h1]at h;have e:i.toNat=j:=fG h
   exact⟨by rw[seqIndex_of h0 h1,e],by omega,by omega,h1⟩
  ·rw[aq h1]at h;cases h
 ·rw[aq h0]at h;by_cases h1: -(n:Int)<=i
  ·rw[ay h1]at h;have e:(i+n).toNat=j:=fG h
   exact⟨by rw[seqIndex_neg (by omega) h1,e],by omega,h1,by omega⟩
  ·rw[aq h1]at h;cases h
def MV{α:Type}{xs:List α}{i:Int}{v:α}(h:RX xs i=some v):∃j,seqIndex? i xs.length=some j/\xs[j]? =some v/\j<xs.length/\ -(xs.length:Int)<=i/\i<xs.length:=by
 unfold RX at h;cases e:T9 xs.length i with
 |none=>rw[e]at h;cases h
 |some j=>
  rw[e]at h;obtain⟨h1,h2,h3,h4⟩:=SA e;exact⟨j,h1,h,h2,h3,h4⟩
def aL{α:Type}{xs:List α}{j:Nat}{v:α}(h:xs[j]? =some v):RX xs (j:Int)=some v:=by
 have hj:j<xs.length:=(iu.mp h).1;have e:T9 xs.length (j:Int)=some j:=by
  unfold T9;rw[ay (by omega),ay (by omega)];simp
 unfold RX;rw[e];exact h
def SD(b:Expr):Prop:=∀o i,subscripted b false o i=operate [o,i] (getItem o i)
def YD(X:Cx)(r:R2):Prop:=
 ∀(value slice:Expr) (pins:List (Addr×Obj)) (s:Shared) (σ:St) (H:Hp) (x y:V) (v u:Value) (Q:VK),Inv X pins σ H s->RelV x v->RelV y u->r x y H Q->
  subscripted slice false v u=operate [v,u] (getItem v u)->wpAny (model X.prog X.w) X.A (subscriptTail value slice v u) (EP X pins σ Q) X.xe s
def YE(X:Cx)(id:String)(r:V->List V->Hp->VK->Prop):Prop:=
 ∀(pins:List (Addr×Obj)) (s:Shared) (σ:St) (H:Hp) (x:V) (xs:List V) (v:Value) (us:List Value) (Q:VK),Inv X pins σ H s->RelV x v->Vals xs us->r x xs H Q->
  wpAny (model X.prog X.w) X.A (call (.builtin id) (v::us)) (EP X pins σ Q) X.xe s
section
variable{X:Cx}{a b:Expr}{ta tb:TE}{pos:Pos}
def a_{r:R2}(hr:YD X r)(ha:PE X a ta)(hb:PE X b tb)(hs:SD b):PE X (.Subscript a b pos) (MO r ta tb):=by
 intro pins s σ H Q I h;exact Subscript_ (Wn ha hb I h λv u s2 x y H2 I2 rx ry q=>hr a b pins s2 σ H2 x y v u Q I2 rx ry q (hs _ _))
inductive UE(K:W.Frag)(x:V)(y:V)(H:Hp)(Q:VK):Prop
 |mk (p:_) (xs:_) (i:_) (v:_) (_:x=.ref p) (_:y=.int i) (_:aX K H p xs) (_:RX xs i=some v) (_:Q v H)
inductive RH(K:W.Frag)(x:V)(y:V)(H:Hp)(Q:VK):Prop
 |mk (p:_) (xs:_) (i:_) (v:_) (_:x=.ref p) (_:y=.int i) (_:mW K H p xs) (_:RX xs i=some v) (_:Q v H)
def aK:YD X (UE X.K):=by
 intro value slice pins s σ H x y v u Q I rx ry h hs;obtain⟨p,xs,i,z,rfl,rfl,hq,he,q⟩:=h;cases rx;obtain⟨t,rfl⟩:=ry;obtain⟨its,r,pl,hz⟩:=I.list hq;obtain⟨j,h1,h2,h3,h4,h5⟩:=MV he;obtain⟨w,ew,rw'⟩:=r.get h2;have hl:=r.length
 have hn:=KN;have fin:EP X pins σ Q w s:=⟨z,H,I,rw',q⟩
 by_cases h0:0<=i
 ·have hj:i.toNat=j:=by
   rw[seqIndex_of h0 h5]at h1;exact fG h1
  exact item_listR pl.isList h0 (by omega) (by rw[hj];simpa using ew) fin hs
 ·have hj:(i+(its.toArray.size:Int)).toNat=j:=by
   rw[seqIndex_neg (by omega) h4]at h1;rw[iM,<- hl];exact fG h1
  exact subscriptTail_builtinR (x:=w) pl.isList.typeIs slot_list_getitem.lookup
   (wpAny_getItem_list_neg (Q:=λr s'=>r=w/\EP X pins σ Q r s') pl.isList (by omega) (by rw[iM]<;>omega) (by omega) (by rw[hj];simpa using ew) ⟨rfl,fin⟩) hs
def sL:YD X (RH X.K):=by
 intro value slice pins s σ H x y v u Q I rx ry h hs;obtain⟨p,xs,i,z,rfl,rfl,hq,he,q⟩:=h;cases rx;obtain⟨t,rfl⟩:=ry;obtain⟨its,r,pl,hz⟩:=I.tuple hq;obtain⟨j,h1,h2,h3,h4,h5⟩:=MV he;obtain⟨w,ew,rw'⟩:=r.get h2;have hl:=r.length
 have hn:=KN;have fin:EP X pins σ Q w s:=⟨z,H,I,rw',q⟩
 exact subscriptTail_builtinR (x:=w) pl.typeIs slot_tuple_getitem.lookup
  (getItem_tuple (j:=j) (Q:=λr s'=>r=w/\EP X pins σ Q r s') pl (by omega) (by omega) (by rw[iM,<- hl];exact h1) (by simpa using ew) ⟨rfl,fin⟩) hs
def GZ(lo hi:Option Int)(n:Nat):(sliceBounds lo hi none n).1=((HT.Di n 0 lo:Nat):Int)/\(sliceBounds lo hi none n).2.1=((HT.Di n n hi:Nat):Int)/\(sliceBounds lo hi none n).2.2=1:=by
 refine⟨?_,?_,rfl⟩
 ·cases lo with
  |none=>simp[sliceBounds,HT.Di]
  |some i=>
   simp only[sliceBounds,HT.Di,Option.getD_none,show(1:Int) > 0 by decide,mz];by_cases h:i<0
   ·simp only[h,mz]<;>omega
   ·simp only[h,jH]<;>omega
 ·cases hi with
  |none=>simp[sliceBounds,HT.Di]
  |some i=>
   simp only[sliceBounds,HT.Di,Option.getD_none,show(1:Int) > 0 by decide,mz];by_cases h:i<0
   ·simp only[h,mz]<;>omega
   ·simp only[h,jH]<;>omega
def Es(its:List Value)(lo hi:Option Int):slicePick its.toArray lo hi none=((its.drop (HT.Di its.length 0 lo)).take (HT.Di its.length its.length hi-HT.Di its.length 0 lo)).toArray:=by
 obtain⟨h1,h2,h3⟩:=GZ lo hi its.toArray.size;unfold slicePick;rw[h1,h2,h3];simp only[sliceRange_one,pick_run,iM]<;>rfl
inductive ZG(K:W.Frag)(x:V)(lo:Option Int)(hi:Option Int)(H:Hp)(Q:VK):Prop
 |mk (a:_) (xs:_) (_:x=.ref a) (_:aX K H a xs) (_:∀p,H p=none->Q (.ref p) (upd H p (.lst (Lj xs lo hi))))
def SE:SlR X (ZG X.K):=by
 intro pins s σ H x v vl vu lo hi sl Q I rx hs pl pu h;obtain⟨a,xs,rfl,hx,q⟩:=h;cases rx;obtain⟨its,r,ht,hz⟩:=I.list hx;have hlen:=r.length
 refine⟨"list",_,slot_list_getitem.lookup,ht.isList.typeIs,?_⟩;refine wpAny_getItem_list_slice ht.isList hs pl pu .none (by simp) ?_ (by rw[iM]<;>omega);rw[Es,<- hlen];refine⟨.ref s.heap.objs.size,_,I.laid (t':=s.toks) (o:= .lst (Lj xs lo hi)) (λb ob q=>eB _ q) (bw _) ?_,rfl,q _ (I.hok.fresh (bw _))⟩;exact⟨gz (Jt xs lo hi) hz,_,0,(r.drop (HT.Di xs.length 0 lo)).take (HT.Di xs.length xs.length hi-HT.Di xs.length 0 lo),fB _ rfl⟩
def bg:qp X (.builtin "len") (λxs H Q=>∃p ys,xs=[.ref p]/\(aX X.K H p ys\/mW X.K H p ys)/\Q (.int ys.length) H):=by
 intro pins s σ H xs us Q I r h;obtain⟨p,ys,rfl,hq,q⟩:=h;obtain⟨u,rfl,rx⟩:=vals1 r;cases rx;have hn:=KN
 rcases hq with hq|hq
 ·obtain⟨its,r',pl,hz⟩:=I.list hq;have hlen:=r'.length
  exact Calls.call_len_list pl.isList (by simp only[iM]<;>omega) ⟨.int ys.length,H,I.tok _,⟨s.toks+1,by rw[iM,hlen]⟩,q⟩
 ·obtain⟨its,r',pl,hz⟩:=I.tuple hq;have hlen:=r'.length
  exact len_tuple pl (by simp only[iM]<;>omega) ⟨.int ys.length,H,I.tok _,⟨s.toks+1,by rw[iM,hlen]⟩,q⟩
def yQ:qp X (.type "list") (λxs H Q=>∃p ys,xs=[.ref p]/\(aX X.K H p ys\/mW X.K H p ys)/\∀l,H l=none->Q (.ref l) (upd H l (.lst ys))):=by
 intro pins s σ H xs us Q I r h;obtain⟨p,ys,rfl,hq,q⟩:=h;obtain⟨u,rfl,rx⟩:=vals1 r;cases rx;have fin:∀(its:List Value),Vals ys its->ys.length<=sizeLine->∀(h':Heap) (c':Nat),(∀b o',s.heap.get? b=some o'->h'.get? b=some o')->
   h'.get? s.heap.objs.size=some {cls:= .type "list",dict:=none,data:= .seq its.toArray c',slots:=#[]}->EP X pins σ Q (.ref s.heap.objs.size) {s with heap:=h'}:=λits r' hz h' c' kp e=>
  ⟨.ref s.heap.objs.size,_,I.laid (t':=s.toks) kp (bw _) (show fm X.prog X.w _ h' _ (.lst ys)from⟨hz,its,c',r',e⟩),rfl,q _ (I.hok.fresh (bw _))⟩
 rcases hq with hq|hq
 ·obtain⟨its,r',pl,hz⟩:=I.list hq;have hlen:=r'.length
  obtain⟨o,ho,hc,n,hd⟩:=pl.isList;exact call_list_seq p (.inl rfl) ho hc hd (λh' c' kp e=>fin its r' hz h' c' kp e) (by simp only[iM]<;>omega)
 ·obtain⟨its,r',pl,hz⟩:=I.tuple hq;have hlen:=r'.length
  obtain⟨o,ho,hc,n,hd⟩:=pl;exact call_list_seq p (.inr rfl) ho hc hd (λh' c' kp e=>fin its r' hz h' c' kp e) (by simp only[iM]<;>omega)
def YF(K:W.Frag)(T:String)(x:V)(H:Hp):Prop:=match x with
 | .str _=>T= "str"
 | .int _=>T= "int"
 | .ref p=>(T= "list" /\∃xs,aX K H p xs)\/(T= "tuple" /\∃o,K.lookup p=some o/\o.cls=.type "tuple" /\o.dict=none)\/
   (T= "dict" /\((∃kvs,H p=some (.dK kvs))\/∃kvs,H p=some (.dT kvs)))\/(T= "set" /\∃S n,H p=some (.set S n))
 |_=>False
def PX{pins:List (Addr×Obj)}{σ:St}{H:Hp}{s:Shared}{T:String}{x:V}{v:Value}(I:Inv X pins σ H s)(r:RelV x v)(ty:YF X.K T x H):
  s.TypeIs v T/\∀a,v=.ref a->∃ob,s.heap.get? a=some ob/\ob.dict=none:=by
 cases x with
 |str z=>
  obtain⟨t,rfl⟩:=r;cases (show T= "str" from ty);exact⟨typeIs_str s z t,λ_ e=>nomatch e⟩
 |int i=>
  obtain⟨t,rfl⟩:=r;cases (show T= "int" from ty);exact⟨typeIs_int s i t,λ_ e=>nomatch e⟩
 |ref p=>
  cases r;rcases ty with⟨rfl,xs,hq⟩|⟨rfl,o,hk,hc,hd⟩|⟨rfl,hk⟩|⟨rfl,S,n,hk⟩
  ·obtain⟨its,_,pl,_⟩:=I.list hq;refine⟨pl.isList.typeIs,λa e=>?_⟩;cases e;obtain⟨o,n,e,c,hd,_⟩:=pl;exact⟨o,e,hd⟩
  ·refine⟨⟨o,I.rD p o hk,hc⟩,λa e=>?_⟩;cases e;exact⟨o,I.rD _ o hk,hd⟩
  ·have z:∃o,s.heap.get? p=some o/\o.ExactDict:=by
    rcases hk with⟨kvs,hk⟩|⟨kvs,hk⟩
    ·obtain⟨_,_,_,_,o,_,_,e,ex,_⟩:=I.hok p _ hk;exact⟨o,e,ex⟩
    ·obtain⟨_,_,_,_,o,_,_,e,ex,_⟩:=I.hok p _ hk;exact⟨o,e,ex⟩
   obtain⟨o,e,ex⟩:=z;refine⟨⟨o,e,ex.1⟩,λa e2=>?_⟩;cases e2;exact⟨o,e,ex.2.1⟩
  ·obtain⟨o,_,_,_,e,ex,_⟩:=I.hok p _ hk;refine⟨⟨o,e,ex.1⟩,λa e2=>?_⟩;cases e2;exact⟨o,e,ex.2.1⟩
 |_=>exact False.elim ty
def ZH(K:W.Frag)(T:String)(r:V->List V->Hp->VK->Prop)(to:TE):TE:=λσ H Q=>to σ H λx H1=>YF K T x H1/\r x [] H1 Q
def tBM(K:W.Frag)(T:String)(r:V->List V->Hp->VK->Prop)(to:TE)(t:TA):TE:=λσ H Q=>to σ H λx H1=>YF K T x H1/\t σ H1 λxs H2=>r x xs H2 Q
variable{o e:Expr}{es:List Expr}{to:TE}{t:TA}{name:Str}{apos cpos:Pos}{T id:String}{r:V->List V->Hp->VK->Prop}
def Vb(pa:PlainAttrs T)(slot:Slot T name id)(hty:typeOf (.builtin id)=pure (.type "method_descriptor"))(hm:YE X id r)(ho:PE X o to)
  (hbase:attributeBase o name X.env (eval o X.env)=eval o X.env:=by rfl) (hline:(apos.endLine==cpos.line)=true:=by rfl):PE X (.Call (.Attribute o name apos) [] [] cpos) (ZH X.K T r to):=by
 intro pins s σ H Q I h;refine wpAny_Call_method0_late hbase hline (cX (ho pins s σ H _ I h) λv s1 h0=>?_);obtain⟨x,H1,I1,r1,ty,q1⟩:=h0;obtain⟨h1,h2⟩:=PX I1 r1 ty;exact⟨T,id,pa,slot,hty,h1,h2,BJ rfl (PySem.evalArgs_none (hm pins s1 σ H1 x [] v [] Q I1 r1 .nil q1))⟩
def kF(pa:PlainAttrs T)(slot:Slot T name id)(hty:typeOf (.builtin id)=pure (.type "method_descriptor"))(hm:YE X id r)(ho:PE X o to)(ha:PA X (e::es) t)
  (hbase:attributeBase o name X.env (eval o X.env)=eval o X.env:=by rfl)
  (hfew:((backTo cpos (starEach (e::es) X.env)).all (λx=>!x.1)&&(backToKw cpos (keywordEach [] X.env)).all (λx=>x.1.isSome)
   && decide ((e::es).length+([]:List Keyword).length+(if([]:List Keyword).isEmpty then 0 else 1)< 30))=true:=by rfl)
  (hline:(apos.endLine==cpos.line)=true:=by rfl) (hs:starEach (e::es) X.env=(false,eval e X.env)::starEach es X.env:=by rfl) (hplain:(backTo cpos (starEach es X.env)).any (·.1)=false:=by rfl):
  PE X (.Call (.Attribute o name apos) (e::es) [] cpos) (tBM X.K T r to t):=by
 intro pins s σ H Q I h;refine wpAny_Call_method_late hbase hfew hline rfl (cX (ho pins s σ H _ I h) λv s1 h0=>?_);obtain⟨x,H1,I1,r1,ty,q1⟩:=h0;obtain⟨h1,h2⟩:=PX I1 r1 ty;refine⟨T,id,pa,slot,hty,h1,h2,?_⟩;have hA:=ha cpos pins s1 σ H1 _ I1 q1
 rw[hs]at hA⊢;refine BJ (by show(false||(backTo cpos (starEach es X.env)).any (·.1))=false;rw[hplain]<;>rfl) (E5 ?_);refine cX hA λus s2 h0=>?_
 obtain⟨vs,H2,I2,r2,q2⟩:=h0;exact hm pins s2 σ H2 x vs v us Q I2 r1 r2 q2
end
def YG(X:Cx)(id:String)(r:V->List V->Hp->VK->Prop):Prop:=
 ∀(pins:List (Addr×Obj)) (s:Shared) (σ:St) (H:Hp) (x:V) (xs:List V) (v:Value) (us:List Value) (Q:VK),Inv X pins σ H s->RelV x v->Vals xs us->r x xs H Q->
  wpAny (model X.prog X.w) X.A (call (.builtin id) (v::us)) (EP X pins σ Q) X.xe s
theorem Vals.one:∀{x:V} {us:List Value},Vals [x] us->∃u,us=[u]/\RelV x u
 |_,_,.cons r .nil=>⟨_,rfl,r⟩
theorem Vals.zero:∀{us:List Value},Vals [] us->us=[]
 |_,.nil=>rfl
section
variable{X:Cx}{pins:List (Addr×Obj)}{σ:St}{H:Hp}{s:Shared}{l b:Addr}{xs ys zs:List V}
def Inv.UG{its its':List Value}{n:Nat}{f:Array Value->Array Value}{t':Nat}(I:Inv X pins σ H s)(hH:H l=some (.lst xs))
  (e:s.heap.get? l=some {cls:= .type "list",data:= .seq its.toArray n}) (hf:f its.toArray=its'.toArray) (hv:Vals ys its') (hz:ys.length<=sizeLine):
  Inv X pins σ (upd H l (.lst ys)) {s with heap:=s.heap.update l (Obj.mapSeq f),toks:=t'}:=by
 have q:=PySem.IsL.update e f;rw[hf]at q;refine I.write (x:=l) (e:=l) (by rw[hH];exact trivial) (.inl rfl) (λb' u hb hu=>(BI s.heap (Obj.mapSeq f) (mC hb)).trans hu) ⟨_,q⟩ ?_;exact⟨hz,its',_,hv,q⟩
def Inv.ZI{its:List Value}{t':Nat}(I:Inv X pins σ H s)(hv:Vals ys its)(hz:ys.length<=sizeLine):
  Inv X pins σ (upd H s.heap.objs.size (.lst ys)) {s with heap:=s.heap.push {cls:= .type "list",data:= .seq its.toArray},toks:=t'}:=
 I.laid (λ_ _ q=>eB _ q) (bw _) ⟨hz,its,0,hv,fB _ rfl⟩
theorem Inv.fresh(I:Inv X pins σ H s):H s.heap.objs.size=none:=I.hok.fresh (bw _)
def Inv.Lk(I:Inv X pins σ H s)(hH:H l=some (.lst xs)):xs.length<=sizeLine/\∃(its:List Value) (n:Nat),Vals xs its/\xs.length=its.length/\s.heap.get? l=some {cls:= .type "list",data:= .seq its.toArray n}:=by
 obtain⟨z,its,n,r,e⟩:=I.hok l _ hH;exact⟨z,its,n,r,r.length,e⟩
def IV{n:Nat}(h:n<=sizeLine):Builtin.List.listTooLong n=false:=by
 unfold Builtin.List.listTooLong;exact i_ (by omega)
end
section
variable{X:Cx}
inductive SG(x:V)(vs:List V)(H:Hp)(Q:VK):Prop
 |mk (l:_) (xs:_) (y:_) (_:x=.ref l) (_:vs=[y]) (_:H l=some (.lst xs)) (_:xs.length<sizeLine) (_:Q .gq (upd H l (.lst (xs++[y]))))
def gA:YG X "list.append" SG:=by
 intro pins s σ H x vs v us Q I rx rv h;obtain⟨l,xs,y,rfl,rfl,hH,hz,q⟩:=h;cases rx;obtain⟨u,rfl,ru⟩:=rv.one;obtain⟨z,its,n,r,hl,e⟩:=I.Lk hH;refine call_meets F.slot_list_append ⟨_,e,rfl⟩ F.entry_list_append (F.args_list_append_2 _ _) (PySem.list_append l its.toArray n u (by rw[iM];omega)) ⟨e,?_⟩;refine⟨.gq,_,I.UG (its':=its++[u]) hH e (by simp) (r.append (.cons ru .nil)) ?_,rfl,q⟩;rw[gb,List.length_singleton];omega
inductive SH(x:V)(vs:List V)(H:Hp)(Q:VK):Prop
 |mk (l:_) (b:_) (xs:_) (zs:_) (_:x=.ref l) (_:vs=[.ref b]) (_:H l=some (.lst xs)) (_:H b=some (.lst zs)) (_:xs.length+zs.length<=sizeLine) (_:Q .gq (upd H l (.lst (xs++zs))))
def nW:YG X "list.extend" SH:=by
 intro pins s σ H x vs v us Q I rx rv h;obtain⟨l,b,xs,zs,rfl,rfl,hH,hB,hz,q⟩:=h;cases rx;obtain⟨u,rfl,ru⟩:=rv.one;cases ru;obtain⟨z,its,n,r,hl,e⟩:=I.Lk hH;obtain⟨z2,its2,n2,r2,hl2,e2⟩:=I.Lk hB;have hsz:its.toArray.size+its2.toArray.size<=sizeLine:=by rw[iM,iM];omega
 have O8:¬(!its.toArray.isEmpty&&Builtin.List.listTooLong (its.toArray.size+its2.toArray.size))=true:=by
  rw[IV hsz,Fo];exact gZ
 refine call_meets F.slot_list_extend ⟨_,e,rfl⟩ F.entry_list_extend (F.args_list_extend_2 _ _)
  (AutoSeq1.list_extend_list_list_0 l its.toArray n b its2.toArray n2 O8 (by rw[iM];omega) (by omega)) ⟨e,e2,?_⟩
 refine⟨.gq,_,I.UG (its':=its++its2) hH e (by simp) (r.append r2) ?_,rfl,q⟩;rw[gb];omega
inductive ZJ(x:V)(y:V)(H:Hp)(Q:VK):Prop
 |mk (l:_) (b:_) (xs:_) (zs:_) (_:x=.ref l) (_:y=.ref b) (_:H l=some (.lst xs)) (_:H b=some (.lst zs)) (_:xs.length+zs.length<=sizeLine) (_:∀p,H p=none->Q (.ref p) (upd H p (.lst (xs++zs))))
def yR:vN X (binaryOp .Add) ZJ:=by
 intro pins s σ H x y v u Q I rx ry h;obtain⟨l,b,xs,zs,rfl,rfl,hH,hB,hz,q⟩:=h;cases rx;cases ry;obtain⟨z,its,n,r,hl,e⟩:=I.Lk hH;obtain⟨z2,its2,n2,r2,hl2,e2⟩:=I.Lk hB;refine PySem.P.add_list e e2 ?_ (by rw[iM,iM];omega);have ea:its.toArray++its2.toArray=(its++its2).toArray:=by simp
 rw[ea];exact⟨.ref _,_,I.ZI (t':=s.toks) (r.append r2) (by rw[gb];omega),rfl,q _ I.fresh⟩
end
section
variable{prog:Program}{w:World}{A:Around}{E:Value->Shared->Prop}{s:Shared}
end
section
variable{X:Cx}
end
theorem Vals.ints:∀{ns:List Int} {us:List Value},Vals (ns.map V.int) us->IntsAre us ns
 | [],us,h=>by
  rw[sC]at h;cases h;exact IntsAre.nil
 |n::ns,us,h=>by
  rw[dG]at h;cases h with
  |cons r t=>
   obtain⟨k,rfl⟩:=r;exact IntsAre.cons n k (Vals.ints t)
theorem yS:∀{us:List Value} {ns:List Int},IntsAre us ns->Vals (ns.map V.int) us
 |_,_,.nil=>by rw[sC];exact Paired.nil
 |_,_,.cons n t h=>by rw[dG];exact Paired.cons (show RelV (V.int n) (Value.int n t)from⟨t,rfl⟩) (yS h)
theorem Vals.bls:∀{bs:List Bool} {us:List Value},Vals (bs.map V.bl) us->us=bs.map Value.bool
 | [],us,h=>by
  rw[sC]at h;cases h;rfl
 |b::bs,us,h=>by
  rw[dG]at h;cases h with
  |cons r t=>
   cases r;rw[Vals.bls t,dG]
def Vals.N5{a:Addr}{us:List Value}(r:Vals [V.ref a] us):us=[Value.ref a]:=by
 cases r with
 |cons r t=>
  cases t;cases r;rfl
section
variable{prog:Program}{w:World}{A:Around}{E:Value->Shared->Prop}{s:Shared}{l:Addr}{its:List Value}{ns:List Int}{Q:Value->Shared->Prop}
def SI(hh:A.handled=none)(hl:s.heap.IsList l its.toArray)(hi:IntsAre its ns)
  (h:∀h' tk t',(∀b o,s.heap.get? b=some o->h'.get? b=some o)->Q (.int ns.sum t') {s with heap:=h',toks:=tk}):wpAny (model prog w) A (call (.builtin "sum") [.ref l]) Q E s:=by
 obtain⟨xs,e⟩:=hi.allInts.items;have hn:numsOf (intItems xs).toList=ns:=by rw[<- e];exact hi.numsOf
 rw[nums_intItems]at hn;rw[e]at hl;refine PySem.sum_intListG hh hl λh' tk t' hk=>?_
 have:=h h' tk t' hk;rw[preSum_eq,List.take_of_length_le (by simp),hn];exact this
def SJ(hh:A.handled=none)(hl:s.heap.IsList l its.toArray)(hi:IntsAre its ns)(hne:0<ns.length)
  (h:∀h' tk M t',(∀b o,s.heap.get? b=some o->h'.get? b=some o)->M∈ns->(∀a,a∈ns->a<=M)->Q (.int M t') {s with heap:=h',toks:=tk}):wpAny (model prog w) A (call (.builtin "max") [.ref l]) Q E s:=by
 obtain⟨xs,e⟩:=hi.allInts.items;have hn:numsOf (intItems xs).toList=ns:=by rw[<- e];exact hi.numsOf
 rw[nums_intItems]at hn;subst hn;rw[e]at hl;have hsz:0<xs.size:=by simpa using hne
 refine PySem.max_intList hh hl hsz λv h' tk hv hk=>?_
 obtain⟨t,rfl⟩:=intItems_at hv;obtain⟨h1,h2⟩:=argBest_gt (numAt xs) (xs.size-1);refine h h' tk _ t hk ?_ λa ha=>?_
 ·rw[numAt_eq];exact PySem.getD_mem (by rw[aO,jo];omega)
 ·obtain⟨j,hj,rfl⟩:=mem_getD ha;rw[aO,jo]at hj;rw[<- numAt_eq];exact h2 j (by omega)
end
section
variable{X:Cx}
def ZK(K:W.Frag):List V->Hp->VK->Prop:=λvs H Q=>∃(a:Addr) (ns:List Int),vs=[V.ref a]/\aX K H a (ns.map V.int)/\Q (.int ns.sum) H
def ZL(K:W.Frag):List V->Hp->VK->Prop:=λvs H Q=>∃(a:Addr) (ns:List Int),vs=[V.ref a]/\aX K H a (ns.map V.int)/\0<ns.length/\∀m,m∈ns->(∀y,y∈ns->y<=m)->Q (.int m) H
def Vc(hc:X.calm=true):qp X (.builtin "sum") (ZK X.K):=by
 intro pins s σ H vs us Q I r h;obtain⟨a,ns,rfl,hs,q⟩:=h;obtain⟨its,rv,hl,_⟩:=I.list hs;rw[Vals.N5 r];exact SI (I.ok.hd hc) hl.isList rv.ints λh' tk t' hk=>⟨.int _,H,I.kept hk,⟨_,rfl⟩,q⟩
def Vd(hc:X.calm=true):qp X (.builtin "max") (ZL X.K):=by
 intro pins s σ H vs us Q I r h;obtain⟨a,ns,rfl,hs,hne,q⟩:=h;obtain⟨its,rv,hl,_⟩:=I.list hs;rw[Vals.N5 r];exact SJ (I.ok.hd hc) hl.isList rv.ints hne λh' tk m t' hk h1 h2=>⟨.int _,H,I.kept hk,⟨_,rfl⟩,q m h1 h2⟩
end
section
variable{X:Cx}
end
section
variable{X:Cx}
end
def QG{prog:Program}{w:World}{A:Around}{E:Value->Shared->Prop}{s:Shared}{l:Addr}{items:Array Value}{Q:Value->Shared->Prop}(hl:s.heap.IsList l items)
  (h:∀s₂:Shared,s₂={s with heap:=s.heap.push {cls:= .type "list_iterator",data:= .fields #[.ref l,.int 0 0]}}->
   (s₂.heap.IsListIter s.heap.objs.size l 0/\s₂.heap.IsList l items)->l≠s.heap.objs.size->Q (.ref s.heap.objs.size) s₂):wpAny (model prog w) A (pyIter (.ref l)) Q E s:=by
 have hlt:l<s.heap.objs.size:=by obtain⟨_,e,_⟩:=hl;exact cC e
 exact wpAny_pyIter_list hl (h _ rfl ⟨⟨_,fB _ rfl,rfl,rfl⟩,hl.push _⟩ (iG hlt))
def Ju{prog:Program}{w:World}{A:Around}{bs:List Bool}{its:List Value}(e:its=bs.map Value.bool):
  TruthOf prog w A (λi v=>its.toArray[i]? =some v) (λi=>bs.getD i false):=λi v s Q E hv hq=>by
 have hv':its[i]? =some v:=by simpa using hv
 rw[e,fj]at hv';obtain⟨b,hb,rfl⟩:=f_.mp hv';have hg:bs.getD i false=b:=by rw[tS,hb]<;>rfl
 have hq':Q (bs.getD i false) s:=hq;rw[hg]at hq';exact yg hq'
theorem all_range:∀bs:List Bool,(List.range bs.length).all (λi=>bs.getD i false)=bs.all id
 | []=>rfl
 |b::bs=>by
  rw[cF,List.range_succ_eq_map,List.all_cons,List.all_map,List.all_cons,<- all_range bs]
  all_goals rfl
section
variable{X:Cx}
def ZM(K:W.Frag):List V->Hp->VK->Prop:=λvs H Q=>∃(a:Addr) (bs:List Bool),vs=[V.ref a]/\aX K H a (bs.map V.bl)/\Q (.bl (bs.all id)) H
def PY(hc:X.calm=true):qp X (.builtin "all") (ZM X.K):=by
 intro pins s σ H vs us Q I r h;obtain⟨a,bs,rfl,hs,q⟩:=h;obtain⟨its,rv,hl,_⟩:=I.list hs;rw[Vals.N5 r];have hb:=rv.bls
 refine call_all_walk (QG hl.isList λs₂ e2 st hne=>?_);subst e2;refine⟨_,_,_,_,_,_,_,rfl,Walks.list (A:=X.A.in1) (I.ok.hd hc) _ a hne its.toArray,st,Ju hb,λh' tk hk=>?_⟩;refine⟨.bl _,H,I.kept λb o eo=>hk b o (λhmem=>?_) (eB _ eo),?_,q⟩
 ·rcases bN.mp hmem with e1|hmem
  ·exact absurd (e1▸cC eo) (tW _)
  ·cases hmem
 ·show Value.bool _=Value.bool _
  rw[<- all_range,hb,iM,aO]
end
section
variable{X:Cx}{pins:List (Addr×Obj)}{σ:St}{H:Hp}{s:Shared}
end
section
variable{X:Cx}
end
abbrev PZ(h:Heap)(c:Addr)(v:Option Value):Prop:=h.IsCell c v
noncomputable def ZN (scope sc:Scope):Scope:=
 {scope with names:=scope.names.map λ(n,k)=>if(k==.free&&sc.kind==.function&&sc.names.lookup n==some .cell)then(n,.cell)else(n,k)}
noncomputable def fF (cells:List (Str×Addr)):List (Str×NameKind)->List (Str×Addr)->List (Str×Addr)
 | [],acc=>acc
 |(n,k)::r,acc=>if k==.free then fF cells r ((n,(cells.lookup n).getD 0)::acc)else fF cells r acc
theorem yT(env:Env)(f:Str×NameKind->List (Str×Addr)->Sem (ForInStep (List (Str×Addr))))
  (hf:∀n k c,f (n,k) c=if k==.free then(do let a <- cellOf env n;pure (.yield ((n,a)::c)))else pure (.yield c)):
  ∀(names:List (Str×NameKind)) (acc:List (Str×Addr)),(∀y∈names,y.2=.free->∃c,env.cells.lookup y.1=some c)->forIn names acc f=pure (fF env.cells names acc)
 | [],acc,_=>by rw[Fj];rfl
 |(n,k)::r,acc,h=>by
  rw[List.forIn_cons,hf];have ih:=λacc=>yT env f hf r acc λy hy=>h y (cP _ hy)
  unfold fF;by_cases hk:(k==NameKind.free)=true
  ·rw[ay hk,ay hk];obtain⟨c,hc⟩:=h (n,k) bU (by simpa using hk);have e:cellOf env n=pure c:=by unfold cellOf;rw[hc]
   rw[e];have e2:(env.cells.lookup n).getD 0=c:=by rw[hc];rfl
   rw[e2];exact ih _
  ·rw[aq hk,aq hk];exact ih _
def LG{scope:Scope}{env:Env}(h:∀y∈scope.names,y.2=.free->∃c,env.cells.lookup y.1=some c):closureFor scope env=pure (fF env.cells scope.names []):=by
 simp only[closureFor];rw[yT env _ (λn k c=>rfl) scope.names [] h];rfl
theorem mem_lookup{α:Type}:∀{l:List (Str×α)} {n:Str} {c:α},(n,c)∈l->∃c',l.lookup n=some c'
 |(k,v)::r,n,c,h=>by
  rw[vH];cases hb:n==k with
  |true=>exact⟨_,rfl⟩
  |false=>
   rcases bN.mp h with e|h
   ·cases e;simp at hb
   ·exact mem_lookup h
theorem pQ{cells:List (Str×Addr)}:∀{names:List (Str×NameKind)} {acc:List (Str×Addr)} {n:Str} {c:Addr},(n,c)∈fF cells names acc->(n,c)∈acc\/((n,.free)∈names/\c=(cells.lookup n).getD 0)
 | [],_,_,_,h=>.inl h
 |(m,k)::r,acc,n,c,h=>by
  unfold fF at h
  split at h
  ·rename_i hk;have hk:k=.free:=by simpa using hk
   rcases pQ h with h|⟨h1,h2⟩
   ·rcases bN.mp h with e|h
    ·cases e;exact .inr ⟨hk▸bU,rfl⟩
    ·exact .inl h
   ·exact .inr ⟨cP _ h1,h2⟩
  ·rcases pQ h with h|⟨h1,h2⟩
   ·exact .inl h
   ·exact .inr ⟨cP _ h1,h2⟩
theorem uu{cells:List (Str×Addr)}:∀{names:List (Str×NameKind)} {acc:List (Str×Addr)} {p:Str×Addr},p∈acc->p∈fF cells names acc
 | [],_,_,h=>h
 |(m,k)::r,acc,p,h=>by
  unfold fF
  split
  ·exact uu (cP _ h)
  ·exact uu h
theorem uv{cells:List (Str×Addr)}:∀{names:List (Str×NameKind)} {acc:List (Str×Addr)} {n:Str},(n,.free)∈names->(n,(cells.lookup n).getD 0)∈fF cells names acc
 |(m,k)::r,acc,n,h=>by
  unfold fF;rcases bN.mp h with e|h
  ·cases e;exact uu bU
  ·split
   ·exact uv h
   ·exact uv h
theorem qF:∀{names:List (Str×NameKind)} {h:Heap} {acc:List (Str×Addr)} {x:Str} {c:Addr},(x,c)∈cellsFrom h.objs.size names acc->
  (x,c)∈acc\/((x,.cell)∈names/\h.objs.size<=c/\PZ (pushCells h names) c none)
 | [],_,_,_,_,h=>.inl h
 |(n,k)::r,h,acc,x,c,hm=>by
  unfold cellsFrom at hm;unfold pushCells
  split at hm
  ·rename_i hk;rw[ay hk];have hk:k=.cell:=by simpa using hk
   rw[<- mj h {cls:= .type "cell",data:= .cell none}]at hm;rcases qF hm with hm|⟨h1,h2,h3⟩
   ·rcases bN.mp hm with e|hm
    ·cases e;exact .inr ⟨hk▸bU,bw _,_,Ft r _ _ _ (fB _ rfl),rfl⟩
    ·exact .inl hm
   ·rw[mj]at h2;exact .inr ⟨cP _ h1,E6 h2,h3⟩
  ·rename_i hk;rw[aq hk];rcases qF hm with hm|⟨h1,h2,h3⟩
   ·exact .inl hm
   ·exact .inr ⟨cP _ h1,h2,h3⟩
theorem u_:∀{names:List (Str×NameKind)} {n:Nat} {acc:List (Str×Addr)} {p:Str×Addr},p∈acc->p∈cellsFrom n names acc
 | [],_,_,_,h=>h
 |(m,k)::r,n,acc,p,h=>by
  unfold cellsFrom
  split
  ·exact u_ (cP _ h)
  ·exact u_ h
theorem zY:∀{names:List (Str×NameKind)} {n:Nat} {acc:List (Str×Addr)} {x:Str},(x,.cell)∈names->∃c,(x,c)∈cellsFrom n names acc
 |(m,k)::r,n,acc,x,h=>by
  unfold cellsFrom;rcases bN.mp h with e|h
  ·cases e;exact⟨n,u_ bU⟩
  ·split
   ·exact zY h
   ·exact zY h
theorem zZ:∀{names:List (Str×NameKind)} {h:Heap} {acc:List (Str×Addr)} {x y:Str} {c:Addr},(∀p∈acc,p.2<h.objs.size)->(∀x y c,(x,c)∈acc->(y,c)∈acc->x=y)->
  (x,c)∈cellsFrom h.objs.size names acc->(y,c)∈cellsFrom h.objs.size names acc->x=y
 | [],_,_,_,_,_,_,hi,h1,h2=>hi _ _ _ h1 h2
 |(n,k)::r,h,acc,x,y,c,hl,hi,h1,h2=>by
  unfold cellsFrom at h1 h2
  split at h1
  ·rename_i hk;rw[ay hk]at h2;rw[<- mj h {cls:= .type "cell",data:= .cell none}]at h1 h2;refine zZ (h:=h.push _) (λp hp=>?_) (λx y c a b=>?_) h1 h2
   ·rw[mj];rcases bN.mp hp with rfl|hp
    ·exact E8 _
    ·exact yp (hl p hp)
   ·rcases bN.mp a with e|a<;>rcases bN.mp b with e'|b
    ·cases e;cases e';rfl
    ·cases e;exact absurd (hl _ b) (tW _)
    ·cases e';exact absurd (hl _ a) (tW _)
    ·exact hi _ _ _ a b
  ·rename_i hk;rw[aq hk]at h2;exact zZ hl hi h1 h2
def Jv{M:Model}{A:Around}{E:Value->Shared->Prop}{s:Shared}{scope:Scope}{globals:Addr}{closure:List (Str×Addr)}{qual:Str}{func:Option Addr}{code:Value}{around:Env}{builtins:Addr}{Q:Env->Shared->Prop}
  (h:Q (newEnv scope s.heap.objs.size globals (cellsFrom (s.heap.objs.size+1) scope.names closure) qual func code (some around) builtins)
   {s with heap:=pushCells (s.heap.push {cls:= .type "dict",data:= .dict #[]}) scope.names}):
  wpAny M A (newFunctionEnv scope globals closure [] qual func code (some around) builtins) Q E s:=by
 simp only[newFunctionEnv,Option.isSome_some,mz];refine aB (wpAny_alloc ?_);refine aB (wpAny_layCells _ (λn k c=>rfl) scope.names closure _ _ ?_);rw[show({s with heap:=s.heap.push {cls:= .type "dict",data:= .dict #[]}}:Shared).heap.objs.size=s.heap.objs.size+1 from mj ..];rw[Fj];exact aB (aP (aP h))
theorem uw{sc:Scope}:∀{names:List (Str×NameKind)} {x:Str} {k:NameKind},
  (names.map λ(n,k)=>if(k==NameKind.free&&sc.kind==.function&&sc.names.lookup n==some .cell)then(n,NameKind.cell)else(n,k)).lookup x=some k->
  ∃k',names.lookup x=some k'/\(k=k'\/(k'=.free/\k=.cell))
 | [],_,_,h=>by simp at h
 |(n,k₀)::r,x,k,h=>by
  have ih:=@uw sc r x k;have h':List.lookup x ((if(k₀==NameKind.free&&sc.kind==.function&&sc.names.lookup n==some .cell)=true then(n,NameKind.cell)else(n,k₀))::(r.map _))=some k:=h
  cases hx:x==n with
  |true=>
   simp only[vH,hx];by_cases hc:(k₀==NameKind.free&&sc.kind==.function&&sc.names.lookup n==some .cell)=true
   ·rw[ay hc]at h';simp only[vH,hx]at h';cases h';simp only[cB,vL]at hc;exact⟨k₀,rfl,.inr ⟨hc.1.1,rfl⟩⟩
   ·rw[aq hc]at h';simp only[vH,hx]at h';cases h';exact⟨_,rfl,.inl rfl⟩
  |false=>
   simp only[vH,hx];by_cases hc:(k₀==NameKind.free&&sc.kind==.function&&sc.names.lookup n==some .cell)=true
   ·rw[ay hc]at h';simp only[vH,hx]at h';exact ih h'
   ·rw[aq hc]at h';simp only[vH,hx]at h';exact ih h'
structure G0(N:List Str)(sc scope:Scope)(own:List (Str×Nat)):Prop where
 kind:scope.kind=.function
 uniq:∀y∈scope.names,scope.names.lookup y.1=some y.2
 ix:∀p∈own,N[p.2]? =some p.1
 free:∀y∈scope.names,y.2=.free->sc.names.lookup y.1=some .cell\/sc.names.lookup y.1=some .free
 own:∀y∈scope.names,y.2=.local\/y.2=.cell->y.1∈own.map (·.1)\/y.1∉N
noncomputable def wipe (σ:St):List Nat->St
 | []=>σ
 |v::vs=>(wipe σ vs).set v none
theorem ux(σ:St):∀vs:List Nat,(wipe σ vs).length=σ.length
 | []=>rfl
 |v::vs=>by unfold wipe;rw[List.length_set,ux σ vs]
theorem z0{σ:St}{i:Nat}{x:V}:∀{vs:List Nat},(wipe σ vs)[i]? =some (some x)->σ[i]? =some (some x)/\i∉vs
 | [],h=>⟨h,by simp⟩
 |v::vs,h=>by
  unfold wipe at h;by_cases hi:v=i
  ·subst hi;by_cases hv:v <(wipe σ vs).length
   ·rw[J7 hv]at h;cases h
   ·rw[qh (by simpa using hv)]at h;cases h
  ·rw[Ka hi]at h;obtain⟨h1,h2⟩:=z0 h;exact⟨h1,by simp only[bN,not_or];exact⟨λe=>hi e.symm,h2⟩⟩
noncomputable abbrev Cx.z9 (X:Cx) (s:Shared) (H:Hp) (scope:Scope) (cenv:Env) (fp:List Addr):Cx:={X with yL:=s,RS:=H,env:=cenv,outer:=X.stack,ex:=fp,fn:=λx=>scope.names.lookup x==some .cell,pn:=[],xe:=λ_ _=>False}
section
variable{X:Cx}{pins:List (Addr×Obj)}{σ:St}{H:Hp}{s:Shared}
def Jw{scope:Scope}{own:List (Str×Nat)}{fp:List Addr}(I:Inv X pins σ H s)(ok:G0 X.N X.env.scope scope own)(hN:X.N.Nodup)(hfp:∀b∈fp,xU X pins H b/\b<s.heap.objs.size):
  Inv (X.z9 s H scope (compEnvC scope (cellsFrom (s.heap.objs.size+1) scope.names (fF X.env.cells scope.names [])) s.heap.objs.size X.env) fp) [] (wipe σ (own.map (·.2))) H {s with heap:=pushCells (s.heap.push {cls:= .type "dict",data:= .dict #[]}) scope.names}:=by
 have hfree:∀y∈scope.names,y.2=.free->∃c,X.env.cells.lookup y.1=some c:=λy hy e=>by
  rcases ok.free y hy e with k|k
  ·exact I.ok.has _ (.inl k)
  ·exact I.ok.has _ (.inr k)
 generalize G3:compEnvC scope (cellsFrom (s.heap.objs.size+1) scope.names (fF X.env.cells scope.names [])) s.heap.objs.size X.env=cenv;have kp:∀b o,s.heap.get? b=some o->(pushCells (s.heap.push {cls:= .type "dict",data:= .dict #[]}) scope.names).get? b=some o:=λb o e=>Ft _ _ _ _ (eB _ e)
 have hL:cenv.locals=s.heap.objs.size:=by rw[<- G3];rfl
 have hcl:cenv.cells=cellsFrom (s.heap.objs.size+1) scope.names (fF X.env.cells scope.names []):=by rw[<- G3];rfl
 have hsc:cenv.scope=ZN scope X.env.scope:=by rw[<- G3];rfl
 rw[<- mj s.heap {cls:= .type "dict",data:= .dict #[]}]at hcl;have cm:∀{y c},(y,c)∈fF X.env.cells scope.names []->X.env.cells.lookup y=some c/\c<s.heap.objs.size:=λ{y c} hm=>by
  rcases pQ hm with hm|⟨h1,rfl⟩
  ·cases hm
  ·obtain⟨c,hc⟩:=hfree _ h1 rfl;rw[hc];obtain⟨w,z⟩:=I.cell _ _ hc;exact⟨rfl,z.lt⟩
 have mem:∀{y c},cenv.cells.lookup y=some c->(X.env.cells.lookup y=some c/\c<s.heap.objs.size)\/(s.heap.objs.size+1<=c/\PZ (pushCells (s.heap.push {cls:= .type "dict",data:= .dict #[]}) scope.names) c none):=λ{y c} e=>by
  rw[hcl]at e;rcases qF (mS e)with hm|⟨_,h2,h3⟩
  ·exact .inl (cm hm)
  ·rw[mj]at h2;exact .inr ⟨h2,h3⟩
 have look:∀{y},scope.names.lookup y=some .free->∃c,cenv.cells.lookup y=some c/\X.env.cells.lookup y=some c:=λ{y} hl=>by
  have hy:(y,NameKind.free)∈scope.names:=mS hl;obtain⟨c',e'⟩:=mem_lookup (u_ (names:=scope.names) (n:=(s.heap.push {cls:= .type "dict",data:= .dict #[]}).objs.size) (uv (cells:=X.env.cells) (acc:=[]) hy));rw[<- hcl]at e';refine⟨c',e',?_⟩;rw[hcl]at e';rcases qF (mS e')with hm|⟨h1,_,_⟩
  ·exact(cm hm).1
  ·have:=ok.uniq _ h1;rw[hl]at this;cases this
 have okB:(X.z9 s H scope cenv fp).Ok:=by
  refine⟨I.ok.mod,by show cenv.scope.kind=_;rw[hsc];exact ok.kind,by show cenv.globals=_;rw[<- G3];exact I.ok.glob,by show cenv.builtins=_;rw[<- G3];exact I.ok.blt,by show s.heap.objs.size<=cenv.locals;rw[hL];exact bw _,
   λy z c e1 e2=>?_,λy hy=>?_,λy c z e=>?_,I.ok.hd,I.ok.frames,.inl rfl,λb hb=>⟨?_,λy c e z=>?_⟩,I.bs,gz I.ok.NL I.sz,λb o e hb=>?_,λb hb z=>?_,I.stack,I.MJ⟩
  ·have e1:cenv.cells.lookup y=some c:=e1;have e2:cenv.cells.lookup z=some c:=e2
   rw[hcl]at e1 e2;refine zZ (λp hp=>?_) (λy z c a b=>I.ok.inj y z c (cm a).1 (cm b).1) (mS e1) (mS e2);rw[mj];exact yp (cm (y:=p.1) (c:=p.2) hp).2
  ·show∃c,cenv.cells.lookup y=some c
   have key:∀k,cenv.kindOf y=some k->(k=.cell\/k=.free)->∃c,cenv.cells.lookup y=some c:=λk hk hk'=>by
    unfold Env.kindOf at hk;rw[hsc]at hk;obtain⟨k',e,r⟩:=uw hk;have:k'=.cell\/k'=.free:=by
     rcases r with rfl|⟨rfl,_⟩
     ·exact hk'
     ·exact .inr rfl
    rcases this with rfl|rfl
    ·obtain⟨c,hm⟩:=zY (n:=(s.heap.push {cls:= .type "dict",data:= .dict #[]}).objs.size) (acc:=fF X.env.cells scope.names []) (mS e);obtain⟨c',e'⟩:=mem_lookup hm;exact⟨c',by rw[hcl];exact e'⟩
    ·obtain⟨c,h1,_⟩:=look e;exact⟨c,h1⟩
   rcases hy with hy|hy
   ·exact key _ hy (.inl rfl)
   ·exact key _ hy (.inr rfl)
  ·have z:(scope.names.lookup y==some NameKind.cell)=true:=z;have z:scope.names.lookup y=some .cell:=by simpa using z
   have e:cenv.cells.lookup y=some c:=e;rw[hcl]at e;rcases qF (mS e)with hm|⟨_,h2,_⟩
   ·rcases pQ hm with hm|⟨h1,_⟩
    ·cases hm
    ·have q:=ok.uniq _ h1;rw[z]at q;cases q
   ·rw[mj]at h2;exact E6 h2
  ·show b≠cenv.locals
   rw[hL];exact iG (hfp b hb).2
  ·have e:cenv.cells.lookup y=some c:=e;rcases mem e with⟨h1,_⟩|⟨h1,_⟩
   ·exact(hfp b hb).1.2.2.2.2.1 y c h1 z
   ·have h2:s.heap.objs.size+1<=b:=by rw[<- z];exact h1
    exact absurd (jZ (hfp b hb).2 (E6 h2)) (tW _)
  ·rcases(hfp b hb).1.2.2.2.1 with z|z
   ·exact I.ok.NN b o e z
   ·exact absurd (jZ (cC e) (gz I.ok.NL z)) (tW _)
  ·rcases bN.mp (I.Ky b z)with z|z
   ·exact(hfp b hb).1.2.1 z
   ·exact(hfp b hb).1.2.2.1 z
 refine⟨okB,rfl,I.bare,Un.kept kp,⟨λ_=>none,?_,λi y av e1 e2 e3=>?_⟩,λy c e=>?_,?_,λy c e=>?_,λp hp=>?_,I.hok.kept kp,by rw[ux];exact I.len⟩
 ·show Heap.Ns _ cenv.locals _
  rw[hL];exact Heap.Ns.keeps (Heap.Ns.new ..) λb o e=>Ft _ _ _ _ e
 ·obtain⟨e2,hne⟩:=z0 e2;have hfr:scope.names.lookup y=some .free/\(cenv.kindOf y=some .cell\/cenv.kindOf y=some .free):=by
   have key:∀k,cenv.scope.names.lookup y=some k->k=.local\/k=.cell\/k=.free->scope.names.lookup y=some .free/\(cenv.kindOf y=some .cell\/cenv.kindOf y=some .free):=λk hk hk'=>by
    have hk0:=hk;rw[hsc]at hk;obtain⟨k',e,r⟩:=uw hk;have no:¬(k'=.local\/k'=.cell):=λhh=>by
     rcases ok.own _ (mS e) hh with e'|e'
     ·obtain⟨p,hp,hpy⟩:=br.mp e';have e3:=ok.ix p hp
      have:p.1=y:=hpy;rw[this]at e3;exact hne (br.mpr ⟨p,hp,CP hN e3 e1⟩)
     ·exact e' (l_ e1)
    rcases r with rfl|⟨rfl,rfl⟩
    ·rcases hk' with rfl|rfl|rfl
     ·exact absurd (.inl rfl) no
     ·exact absurd (.inr rfl) no
     ·exact⟨e,.inr hk0⟩
    ·exact⟨e,.inl hk0⟩
   have e3:RT cenv.scope y:=e3;rcases e3 with e3|e3|e3
   ·exact key _ e3 (.inl rfl)
   ·exact key _ e3 (.inr (.inl rfl))
   ·exact key _ e3 (.inr (.inr rfl))
  obtain⟨m,hn,hl⟩:=I.loc;have ZO:RT X.env.scope y:=(ok.free _ (mS hfr.1) rfl).elim (λk=>.inr (.inl k)) (λk=>.inr (.inr k))
  obtain⟨w,r,q⟩:=hl i y av e1 e2 ZO;refine⟨w,r,.inr ⟨hfr.2,?_⟩⟩;obtain⟨c,h1,h2⟩:=look hfr.1;rcases q with⟨k,_⟩|⟨_,c',e',z⟩
  ·have k:X.env.scope.names.lookup y=some .local:=k;rcases ok.free _ (mS hfr.1) rfl with k'|k'<;>rw[show X.env.scope.names.lookup y=_ from k']at k<;>cases k
  ·rw[h2]at e';cases e';exact⟨c,h1,z.keeps kp⟩
 ·have e:cenv.cells.lookup y=some c:=e;rcases mem e with⟨h1,_⟩|⟨_,z⟩
  ·obtain⟨w,z⟩:=I.cell y c h1;exact⟨w,z.keeps kp⟩
  ·exact⟨_,z⟩
 ·show H cenv.locals=none
  rw[hL];exact I.hok.fresh (bw _)
 ·have e:cenv.cells.lookup y=some c:=e;rcases mem e with⟨h1,_⟩|⟨h1,_⟩
  ·exact I.pK y c h1
  ·exact I.hok.fresh (E6 h1)
 ·exact absurd (show p∈([]:List (Addr×Obj))++[]from hp) (by simp)
def Ve{E:Value->Shared->Prop}{D:Addr}{xs:List V}{y:V}{v:Value}{Q:Value->Shared->Prop}(I:Inv X pins σ H s)(hD:H D=some (.lst xs))(hz:xs.length<sizeLine)(r:RelV y v)
  (h:∀s',Inv X pins σ (upd H D (.lst (xs++[y]))) s'->Q .none s'):wpAny (model X.prog X.w) X.A (call (.builtin "list.append") [.ref D,v]) Q E s:=by
 obtain⟨hz',its,n,ri,e⟩:=I.hok D _ hD;have hl:=ri.length
 refine append_at (hsz:=by rw[iM];omega) e λh' sb ho'=>?_
 refine h {s with heap:=h'} (I.write (t':=s.toks) (by rw[hD];trivial) (.inl rfl) (λb u hb q=>(sb.2 b hb).trans q) ⟨_,ho'⟩ ⟨by rw[gb];exact hz,its++[v],n+1,ri.append (.cons r .nil),?_⟩);rw[ho'];simp
def Vf(X:Cx)(ifs:List Expr)(t:TT):Prop:=
 ∀(pins:List (Addr×Obj)) (s:Shared) (σ:St) (H:Hp) (Q:Bool->Hp->Prop),Inv X pins σ H s->t σ H Q->
  wpAny (model X.prog X.w) X.A (forIn ifs true λc r=>if r=true then do let ok <- isTrue c X.env (eval c X.env);pure (ForInStep.yield ok)else pure (ForInStep.yield r)) (TP X pins σ Q) X.xe s
def Wt:TT:=λ_ H Q=>Q true H
def qN:Vf X [] Wt:=λ_ _ _ H _ I h=>wpAny_tests_nil ⟨H,I,h⟩
def Bu{c:Expr}{t:TT}(h:PT X c t):Vf X [c] t:=λpins s σ H Q I hw=>wpAny_tests_one (h pins s σ H Q I hw)
end
def Ll{α:Type}{t:Sem α}{Q Q':α->Shared->Prop}{M:Model}{A:Around}{E:Value->Shared->Prop}{s:Shared}(h:wpAny M A t Q (λ_ _=>False) s)(hQ:∀a s,Q a s->Q' a s):wpAny M A t Q' E s:=mT h hQ λ_ _ z=>False.elim z
def G4{prog:Program}{w:World}{A:Around}{R:Result->Shared->Prop}{s:Shared}{elt target iter:Expr}{ifs:List Expr}{scope:Scope}{pos:Pos}{it acc:Value}{env:Env}(I:Nat->Shared->Prop)
  (turn:∀n s,I n s->wpAny (model prog w) A (pyNext it) (λr s₁=>match r with
   |none=>R (.ok .next) s₁
   |some v=>wpAny (model prog w) A (letOwnedTupleGo target it v) (λ_ s₁'=>wpAny (model prog w) A (assign target env v) (λ_ s₂=>
     wpAny (model prog w) A (forIn ifs true λc r=>if r=true then do let ok <- isTrue c env (eval c env);pure (ForInStep.yield ok)else pure (ForInStep.yield r)) (λok s₃=>
      if ok=true then wpAny (model prog w) A (eval elt env) (λx s₄=>
       wpAny (model prog w) A (call (.builtin "list.append") [acc,x]) (λ_ s₅=>∃m,m<n/\I m s₅) (notedBy (model prog w) A env λe s'=>R (.error e) s') s₄) (notedBy (model prog w) A env λe s'=>R (.error e) s') s₃
      else∃m,m<n/\I m s₃) (notedBy (model prog w) A env λe s'=>R (.error e) s') s₂) (notedBy (model prog w) A env λe s'=>R (.error e) s') s₁') (notedBy (model prog w) A env λe s'=>R (.error e) s') s₁) (notedBy (model prog w) A env λe s'=>R (.error e) s') s)
  (n:Nat) (h:I n s):
  codeAny (model prog w) A (.compLoop (.ListComp elt [⟨target,iter,ifs,0⟩] scope pos) 0 it acc env) R s:=by
 refine codeAny_loop rfl I (λn s hI=>?_) n h;show wpAny _ A ((compTurn (.ListComp elt [⟨target,iter,ifs,0⟩] scope pos) 0 it acc env).onRaise (λx=>do noteFrame x env;theTreesLotGoes x)) _ _ s
 refine wpAny_noted ?_;rw[compTurn_list];refine aB (wpAny_standAt (aB (mT (turn n s hI) (λr s₁ h₁=>?_) λ_ _ h'=>h')));cases r with
 |none=>exact aP h₁
 |some v=>
  refine aB (mT h₁ (λ_ s₁' h₁'=>?_) λ_ _ h'=>h');refine aB (mT h₁' (λ_ s₂ h₂=>aB (mT h₂ (λok s₃ h₃=>?_) λ_ _ h'=>h')) λ_ _ h'=>h');cases ok with
  |false=>exact aP ⟨rfl,h₃⟩
  |true=>
   exact aB (aB (mT h₃ (λx s₄ h₄=>aB (mT h₄ (λ_ s₅ h₅=>aP (aP ⟨rfl,h₅⟩)) λ_ _ h'=>h')) λ_ _ h'=>h'))
section
variable{X:Cx}
def Wu(wi:TI)(g:TG)(tt:TT)(te:TE)(vs:List Nat):TE:=λσ H Q=>wi σ H λJ H1=>∀D,H1 D=none->∃W:Nat->Nat->Hp->Prop,(∃m,W 0 m (upd H1 D (.lst [])))/\∀i m H,W i m H->
 (J.stop i H/\Q (.ref D) H)\/(J.go i H/\∃Nx:Hp->Prop,(∀H',Nx H'->∃m',m'<m/\W (i+1) m' H')/\∀x H',J.El i H x H'->g x (wipe σ vs) H' λσ2 H2=>wipe σ2 vs=wipe σ vs/\tt σ2 H2 λb H3=>
  if b=true then te σ2 H3 λy H4=>∃acc,H4 D=some (.lst acc)/\acc.length<sizeLine/\Nx (upd H4 D (.lst (acc++[y])))else Nx H3)
def MW{pins:List (Addr×Obj)}{s:Shared}{σ:St}{H:Hp}{Q:VK}{elt tg iter:Expr}{ifs:List Expr}{scope:Scope}{own:List (Str×Nat)}{pos pos':Pos}{wi:TI}{g:TG}{tt:TT}{te:TE}{use:Option (Value->Sem Unit)}{Qf:Value->Shared->Prop}
  (hc:X.calm=true) (hN:X.N.Nodup) (I:Inv X pins σ H s) (hi:PI X tg iter wi) (ok:G0 X.N X.env.scope scope own)
  (hg:∀(s:Shared) (H:Hp) (C:Addr) (cl:List (Str×Addr)) (fp:List Addr),PG (X.z9 s H scope (compEnvC scope cl C X.env) fp) tg g) (ht:∀(s:Shared) (H:Hp) (C:Addr) (cl:List (Str×Addr)) (fp:List Addr),Vf (X.z9 s H scope (compEnvC scope cl C X.env) fp) ifs tt)
  (he:∀(s:Shared) (H:Hp) (C:Addr) (cl:List (Str×Addr)) (fp:List Addr),PE (X.z9 s H scope (compEnvC scope cl C X.env) fp) elt te) (hs:∀x,foldedSetIterable iter X.env x=pure x)
  (h:Wu wi g tt te (own.map (·.2)) σ H Q)
  (hRR:∀D C s' m H',Inv X pins σ H' s'->Q (.ref D) H'->s'.heap.Ns C m->xU X pins H' C->compPost (model X.prog X.w) X.A X.xe use Qf (.ref D) C (.ok .next) s'):
  wpAny (model X.prog X.w) X.A (comprehension (.ListComp elt [⟨tg,iter,ifs,0⟩] scope pos) scope X.env pos' (newList []) false (eval iter X.env) use) Qf X.xe s:=by
 have hfree:∀y∈scope.names,y.2=.free->∃c,X.env.cells.lookup y.1=some c:=λy hy e=>by
  rcases ok.free y hy e with k|k
  ·exact I.ok.has _ (.inl k)
  ·exact I.ok.has _ (.inr k)
 refine wpAny_comprehension_free (use:=use) rfl hs (LG hfree) ok.kind (λy hy e=>by rw[ok.uniq y hy,e])
  (cX (hi pins s σ H _ I h) λxv s1 hx=>cX hx λitv s2 h2=>?_)
 obtain⟨it,fp,tn,J,H2,e,I2,T,st2,f2,q⟩:=h2;subst e;refine yh (Jv ?_) (by show 0<=sizeLine;decide);generalize hD:s2.heap.objs.size=D;have hDn:H2 D=none:=I2.hok.fresh (yy hD)
 obtain⟨W,⟨m0,w0⟩,turn⟩:=q D hDn;generalize hs3:({s2 with heap:=s2.heap.push {cls:= .type "list",data:= .seq ([]:List Value).toArray}}:Shared)=s3;have I3:Inv X pins σ (upd H2 D (.lst [])) s3:=by
  rw[<- hs3];refine I2.laid (t':=s2.toks) (λb o e=>eB _ e) (yy hD) ⟨fC _,[],0,.nil,?_⟩;rw[<- hD];exact fB _ rfl
 have h3:s3.heap=s2.heap.push {cls:= .type "list",data:= .seq ([]:List Value).toArray}:=by rw[<- hs3]
 have sz:∀b∈fp,b<s2.heap.objs.size:=λb hb=>by
  obtain⟨o,e,_⟩:=T.obj _ _ st2 b hb;exact cC e
 have f3:∀b∈fp,xU X pins (upd H2 D (.lst [])) b/\b<s3.heap.objs.size:=λb hb=>by
  have hlt:=sz b hb;refine⟨⟨?_,(f2 b hb).2⟩,by rw[h3,mj];exact yp hlt⟩;rw[ai (by rw[<- hD];exact iG hlt)];exact(f2 b hb).1
 have st3:tn 0 s3.heap:=T.keep _ _ _ st2 λb _ o e=>by rw[h3];exact eB _ e
 have I4:=Jw I3 ok hN f3;have pg:=hg s3 (upd H2 D (.lst [])) s3.heap.objs.size (cellsFrom (s3.heap.objs.size+1) scope.names (fF X.env.cells scope.names [])) fp
 have pt:=ht s3 (upd H2 D (.lst [])) s3.heap.objs.size (cellsFrom (s3.heap.objs.size+1) scope.names (fF X.env.cells scope.names [])) fp;have pe:=he s3 (upd H2 D (.lst [])) s3.heap.objs.size (cellsFrom (s3.heap.objs.size+1) scope.names (fF X.env.cells scope.names [])) fp
 show codeAny _ _ (.compStart (.ListComp elt [⟨tg,iter,ifs,0⟩] scope pos) 0 (.ref it) (.ref D) (compEnvC scope (cellsFrom (s3.heap.objs.size+1) scope.names (fF X.env.cells scope.names [])) s3.heap.objs.size X.env)) (compPost (model X.prog X.w) X.A X.xe use Qf (.ref D) s3.heap.objs.size) {s3 with heap:=pushCells (s3.heap.push {cls:= .type "dict",data:= .dict #[]}) scope.names}
 have nfp:∀b∈fp,(upd H2 D (.lst [])) b=none:=λb hb=>(f3 b hb).1.1
 generalize hce:compEnvC scope (cellsFrom (s3.heap.objs.size+1) scope.names (fF X.env.cells scope.names [])) s3.heap.objs.size X.env=ce at I4 pg pt pe⊢;have cL:ce.locals=s3.heap.objs.size:=by subst hce;rfl
 generalize hH3:upd H2 D (.lst [])=H3 at I3 I4 pg pt pe w0 nfp f3;generalize G5:({s3 with heap:=pushCells (s3.heap.push {cls:= .type "dict",data:= .dict #[]}) scope.names}:Shared)=s4 at I4⊢;have st4:tn 0 s4.heap:=T.keep _ _ _ st3 λb _ o e=>by rw[<- G5];exact Ft _ _ _ _ (eB _ e)
 have Im:∀{σ':St} {H':Hp} {s':Shared},Inv (X.z9 s3 H3 scope ce fp) [] σ' H' s'->(∀b∈fp,H' b=none)->∀b∈fp,xU (X.z9 s3 H3 scope ce fp) [] H' b:=λ{σ' H' s'} I' hn b hb=>
  ⟨hn b hb,(I'.ok.Wf b hb).1,I'.ok.NO b hb,.inl hb,λx c e=>(I'.ok.Wf b hb).2 x c e,λp hp=>absurd (show p∈([]:List (Addr×Obj))++[]from hp) (by simp)⟩
 have loop:codeAny (model X.prog X.w) X.A (.compLoop (.ListComp elt [⟨tg,iter,ifs,0⟩] scope pos) 0 (.ref it) (.ref D) ce) (compPost (model X.prog X.w) X.A X.xe use Qf (.ref D) s3.heap.objs.size) s4:=by
  refine G4 (λn s'=>∃i H',Inv (X.z9 s3 H3 scope ce fp) [] (wipe σ (own.map (·.2))) H' s'/\tn i s'.heap/\(∀b∈fp,H' b=none)/\W i n H') ?_ m0 ⟨0,H3,I4,st4,nfp,w0⟩
  rintro n s5 ⟨i,H5,I5,st5,n5,w5⟩
  rcases turn i n H5 w5 with⟨stop,qq⟩|⟨go,Nx,hNx,step⟩
  ·have td:=T.done (X.z9 s3 H3 scope ce fp) rfl rfl rfl hc i [] s5 _ H5 (λ_ _=>False) I5 (Im I5 n5) st5 stop;refine Ll td λr s6 h0=>?_
   obtain⟨hr,I6⟩:=h0;subst hr;have I7:Inv X pins σ H5 s6:=I3.Xc (ch:=fp) I6.os I6.base I6.hok I6.bare λb hb=>⟨(f3 b hb).1.2.2.2.1,(f3 b hb).1.2.1,(f3 b hb).1.2.2.2.2.1,(f3 b hb).1.2.2.2.2.2⟩
   have nC:H5 s3.heap.objs.size=none:=by
    have z:H5 ce.locals=none:=I6.free;rw[cL]at z;exact z
   obtain⟨m,hn,_⟩:=I6.loc;have hn:s6.heap.Ns ce.locals m:=hn
   rw[cL]at hn;exact hRR D s3.heap.objs.size s6 m H5 I7 qq hn (I3.Il (bw _) nC)
  ·have ti:=T.item (X.z9 s3 H3 scope ce fp) rfl rfl rfl hc i [] s5 _ H5 (λ_ _=>False) I5 (Im I5 n5) st5 go;refine Ll ti λr s6 h0=>?_
   obtain⟨u,hr,h6⟩:=h0;subst hr;refine Ll h6 λ_ s7 h0=>?_
   obtain⟨x,H7,I7,r7,y7,YH,n7⟩:=h0;have I7':=I7.pinned (Im I7 n7) (T.obj _ _ YH)
   refine Ll (pg _ s7 _ H7 x u _ I7' r7 (step x H7 y7)) λ_ s8 h0=>?_
   obtain⟨σ8,H8,I8,hw8,q8⟩:=h0;refine Ll (pt _ s8 σ8 H8 _ I8 q8) λb s9 h0=>?_
   obtain⟨H9,I9,q9⟩:=h0;have fin:∀{s':Shared} {H':Hp},Inv (X.z9 s3 H3 scope ce fp) ([]++B4 fp s7.heap) σ8 H' s'->Nx H'->∃m,m<n/\∃i H',Inv (X.z9 s3 H3 scope ce fp) [] (wipe σ (own.map (·.2))) H' s'/\tn i s'.heap/\(∀b∈fp,H' b=none)/\W i m H':=λ{s' H'} I' nx=>by
    obtain⟨m',hm,w'⟩:=hNx H' nx;have Wv:∀b∈fp,∀o,s7.heap.get? b=some o->s'.heap.get? b=some o/\H' b=none:=λb hb o e=>
     let z:=I'.pin (b,o) (qg _ (qg _ (wZ hb e)))
     ⟨z.1,z.2.1⟩
    have hl:(wipe σ (own.map (·.2))).length=σ8.length:=by rw[<- hw8,ux]
    refine⟨m',hm,i+1,H',(I'.xV (pins:=[])).weak hl (λj v e=>?_),T.keep _ _ _ YH λb hb o e=>(Wv b hb o e).1,λb hb=>?_,w'⟩
    ·rw[<- hw8]at e;exact(z0 e).1
    ·obtain⟨o,e,_⟩:=T.obj _ _ YH b hb;exact(Wv b hb o e).2
   cases b with
   |false=>
    simp only[mh,jH]at q9⊢;exact fin I9 q9
   |true=>
    simp only[mz]at q9⊢;refine Ll (pe _ s9 σ8 H9 _ I9 q9) λz s10 h0=>?_
    obtain⟨yv,H10,I10,r10,acc,ZP,ZQ,nx⟩:=h0;exact Ve (X:=X.z9 s3 H3 scope ce fp) I10 ZP ZQ r10 λs11 I11=>fin I11 nx
 exact codeAny_compStart_list loop (T.self X.A 0 _ _ _ st4 loop)
def vZ{elt tg iter:Expr}{ifs:List Expr}{scope:Scope}{own:List (Str×Nat)}{pos:Pos}{wi:TI}{g:TG}{tt:TT}{te:TE}(hc:X.calm=true)(hN:X.N.Nodup)(hi:PI X tg iter wi)(ok:G0 X.N X.env.scope scope own)
  (hg:∀(s:Shared) (H:Hp) (C:Addr) (cl:List (Str×Addr)) (fp:List Addr),PG (X.z9 s H scope (compEnvC scope cl C X.env) fp) tg g) (ht:∀(s:Shared) (H:Hp) (C:Addr) (cl:List (Str×Addr)) (fp:List Addr),Vf (X.z9 s H scope (compEnvC scope cl C X.env) fp) ifs tt)
  (he:∀(s:Shared) (H:Hp) (C:Addr) (cl:List (Str×Addr)) (fp:List Addr),PE (X.z9 s H scope (compEnvC scope cl C X.env) fp) elt te) (hs:∀x,foldedSetIterable iter X.env x=pure x:=by intro _;rfl):
  PE X (.ListComp elt [⟨tg,iter,ifs,0⟩] scope pos) (Wu wi g tt te (own.map (·.2))):=by
 intro pins s σ H Q I h;rw[eval_ListComp];refine MW hc hN I hi ok hg ht he hs h λD C s' m H' I' q hn f=>⟨m,hn,λh'' sb=>?_⟩
 obtain⟨f0,f1,f2,f3,f4,f5⟩:=f;exact⟨.ref D,H',I'.turned (t':=s'.toks) (λb o hb e=>(sb.2 b hb).trans e) f0 f1 f3 f4 f5,rfl,q⟩
def IW{i:Nat}{y:Str}{py:Pos}{elt tg iter:Expr}{ifs:List Expr}{scope:Scope}{own:List (Str×Nat)}{pos spos:Pos}{wi:TI}{g:TG}{tt:TT}{te:TE}(hc:X.calm=true)(hN:X.N.Nodup)(hy:X.N[i]? =some y)(hyl:X.env.scope.names.lookup y=some .local)
  (hsw:swapsWith (.ListComp elt [⟨tg,iter,ifs,0⟩] scope pos) (some (.Name y py)) spos.line X.env=pure true) (hi:PI X tg iter wi) (ok:G0 X.N X.env.scope scope own)
  (hg:∀(s:Shared) (H:Hp) (C:Addr) (cl:List (Str×Addr)) (fp:List Addr),PG (X.z9 s H scope (compEnvC scope cl C X.env) fp) tg g) (ht:∀(s:Shared) (H:Hp) (C:Addr) (cl:List (Str×Addr)) (fp:List Addr),Vf (X.z9 s H scope (compEnvC scope cl C X.env) fp) ifs tt)
  (he:∀(s:Shared) (H:Hp) (C:Addr) (cl:List (Str×Addr)) (fp:List Addr),PE (X.z9 s H scope (compEnvC scope cl C X.env) fp) elt te) (hs:∀x,foldedSetIterable iter X.env x=pure x:=by intro _;rfl):
  PS X (.Assign [.Name y py] (.ListComp elt [⟨tg,iter,ifs,0⟩] scope pos) spos) (Wm (Wu wi g tt te (own.map (·.2))) (yO i)):=by
 intro pins s σ H D I h;rw[exec_Assign_Name_used _ _ _ _ hsw];refine aB (wpAny_standAt (aB ?_));show wpAny _ X.A (do let _ <- comprehension (.ListComp elt [⟨tg,iter,ifs,0⟩] scope pos) scope X.env (firstIterPos [⟨tg,iter,ifs,0⟩] pos) (newList []) false (eval iter X.env) (some (assign (.Name y py) X.env))) _ _ s
 have h:Wu wi g tt te (own.map (·.2)) σ H (λx H1=>yO i x σ H1 D.nx):=h;refine aB (cX (MW (Qf:=λ_ s'=>SP X pins D .next s') hc hN I hi ok hg ht he hs h λL C s' m H' I' q hn f=>?_) λ_ s' hq=>aP (aP hq));show wpAny _ _ (assign (.Name y py) X.env (.ref L)) _ _ _
 refine wpAny_assign_Name (FO (v:=V.ref L) I' hN hy (.inl hyl) rfl (λs2 I2 h0=>?_) (.inr hyl));obtain⟨a,sb,ha⟩:=h0;obtain⟨f0,f1,f2,f3,f4,f5⟩:=f;have haC:C≠a:=by
  rcases ha with z|z
  ·rw[z];exact f1
  ·exact λe=>f4 y a z e.symm
 refine⟨m,hn.sameBut sb haC,λh3 Yv=>?_⟩;exact⟨_,H',I2.turned (t':=s2.toks) (λb o hb e=>(Yv.2 b hb).trans e) f0 f1 f3 f4 f5,q⟩
def MX{elt:Expr}{gs:List Comprehension}{scope:Scope}{pos py:Pos}{y:Str}{l:Nat}{env:Env}(hk:env.scope.kind=.function)(hy:env.scope.names.lookup y=some .local)(hl:(py.line==pos.line)=true)
  (ha:(scope.names.any λ(n,k)=>n==y&&(k==.local||k==.cell))=false):swapsWith (.ListComp elt gs scope pos) (some (.Name y py)) l env=pure true:=by
 have ky:env.kindOf y=some .local:=hy;have hb:env.blockKind=.function:=by unfold Env.blockKind;rw[hk];rfl
 unfold swapsWith;simp only[hb,ky,ha,show(Expr.ListComp elt gs scope pos).pos=pos from rfl,show(Expr.Name y py).pos=py from rfl,hl];rfl
end
def QH{lo:Int}{n:Nat}{g:TG}{tt:TT}{te:TE}{vs:List Nat}{σ:St}{H1:Hp}{D:Addr}{Qd:Hp->Prop}(Pv:Nat->Hp->Prop)(h0:Pv 0 (upd H1 D (.lst [])))
  (hs:∀i H,i<n->Pv i H->g (.int (lo+i)) (wipe σ vs) H λσ2 H2=>wipe σ2 vs=wipe σ vs/\tt σ2 H2 λb H3=>
   if b=true then te σ2 H3 λy H4=>∃acc,H4 D=some (.lst acc)/\acc.length<sizeLine/\Pv (i+1) (upd H4 D (.lst (acc++[y])))else Pv (i+1) H3) (hd:∀H,Pv n H->Qd H):
  ∃W:Nat->Nat->Hp->Prop,(∃m,W 0 m (upd H1 D (.lst [])))/\∀i m H,W i m H->
   ((MN lo n).stop i H/\Qd H)\/((MN lo n).go i H/\∃Nx:Hp->Prop,(∀H',Nx H'->∃m',m'<m/\W (i+1) m' H')/\∀x H',(MN lo n).El i H x H'->g x (wipe σ vs) H' λσ2 H2=>wipe σ2 vs=wipe σ vs/\tt σ2 H2 λb H3=>
    if b=true then te σ2 H3 λy H4=>∃acc,H4 D=some (.lst acc)/\acc.length<sizeLine/\Nx (upd H4 D (.lst (acc++[y])))else Nx H3):=by
 refine⟨λi m H=>m=n-i/\i<=n/\Pv i H,⟨n,by simp,fC _,h0⟩,?_⟩
 rintro i m H ⟨rfl,hi,p⟩
 by_cases hlt:i<n
 ·refine .inr ⟨hlt,Pv (i+1),λH' p'=>⟨n-(i+1),by omega,rfl,hlt,p'⟩,λx H' y=>?_⟩;obtain⟨e,y⟩:=y;subst e y;exact hs i _ hlt p
 ·have e:i=n:=by omega
  subst e;exact .inl ⟨bw _,hd H p⟩
def Bv{K:W.Frag}{a:Addr}{xs:List V}{g:TG}{tt:TT}{te:TE}{vs:List Nat}{σ:St}{H1:Hp}{D:Addr}{Qd:Hp->Prop}(Pv:Nat->Hp->Prop)(h0:Pv 0 (upd H1 D (.lst [])))(hl:∀i H,i<=xs.length->Pv i H->aX K H a xs)
  (hs:∀i x H,xs[i]? =some x->Pv i H->g x (wipe σ vs) H λσ2 H2=>wipe σ2 vs=wipe σ vs/\tt σ2 H2 λb H3=>
   if b=true then te σ2 H3 λy H4=>∃acc,H4 D=some (.lst acc)/\acc.length<sizeLine/\Pv (i+1) (upd H4 D (.lst (acc++[y])))else Pv (i+1) H3) (hd:∀H,Pv xs.length H->Qd H):
  ∃W:Nat->Nat->Hp->Prop,(∃m,W 0 m (upd H1 D (.lst [])))/\∀i m H,W i m H->
   ((PN K a).stop i H/\Qd H)\/((PN K a).go i H/\∃Nx:Hp->Prop,(∀H',Nx H'->∃m',m'<m/\W (i+1) m' H')/\∀x H',(PN K a).El i H x H'->g x (wipe σ vs) H' λσ2 H2=>wipe σ2 vs=wipe σ vs/\tt σ2 H2 λb H3=>
    if b=true then te σ2 H3 λy H4=>∃acc,H4 D=some (.lst acc)/\acc.length<sizeLine/\Nx (upd H4 D (.lst (acc++[y])))else Nx H3):=by
 refine⟨λi m H=>m=xs.length-i/\i<=xs.length/\Pv i H,⟨xs.length,by simp,fC _,h0⟩,?_⟩
 rintro i m H ⟨rfl,hi,p⟩
 have q:=hl i H hi p;by_cases hlt:i<xs.length
 ·refine .inr ⟨⟨xs,xs[i],q,by simp[hlt]⟩,Pv (i+1),λH' p'=>⟨xs.length-(i+1),by omega,rfl,hlt,p'⟩,λx H' y=>?_⟩;obtain⟨e,y⟩:=y;subst e;exact hs i x _ (y xs q) p
 ·have e:i=xs.length:=by omega
  subst e;exact .inl ⟨⟨xs,q,bw _⟩,hd H p⟩
noncomputable def Ww (N:List Str) (sc scope:Scope) (own:List (Str×Nat)):Bool:=
 (match scope.kind with| .function=>true|_=>false)&&(scope.names.all λy=>decide (scope.names.lookup y.1=some y.2))&&(own.all λp=>decide (N[p.2]? =some p.1)) &&
  (scope.names.all λy=>match y.2 with
   | .free=>(match sc.names.lookup y.1 with|some .cell=>true|some .free=>true|_=>false)
   | .local=>decide (y.1∈own.map (·.1))||decide (y.1∉N)
   | .cell=>decide (y.1∈own.map (·.1))||decide (y.1∉N)
   |_=>true)
def jU{N:List Str}{sc scope:Scope}{own:List (Str×Nat)}(h:Ww N sc scope own=true):G0 N sc scope own:=by
 unfold Ww at h;simp only[cB,BS,k8]at h;obtain⟨⟨⟨h1,h2⟩,h3⟩,h4⟩:=h;refine⟨?_,h2,h3,λy hy e=>?_,λy hy e=>?_⟩
 ·split at h1
  ·assumption
  ·cases h1
 ·have q:=h4 y hy;simp only[e]at q
  split at q<;>first|exact .inl (by assumption)|exact .inr (by assumption)|cases q
 ·have q:=h4 y hy;rcases e with e|e<;>(simp only[e,Bool.or_eq_true,k8]at q;exact q)
section
variable{prog:Program}{w:World}{A:Around}{R:Result->Shared->Prop}{s:Shared}{elt t0 i0 t1 i1:Expr}{aeX aeY:List Expr}{scope:Scope}{pos:Pos}{it acc:Value}{env:Env}
end
section
variable{X:Cx}
end
section
variable{κ:Type} [DecidableEq κ]
noncomputable def fO (kvs:List (κ×V)) (k:κ):Option V:=(kvs.find? λkv=>decide (kv.1=k)).map (·.2)
noncomputable def putK (kvs:List (κ×V)) (k:κ) (v:V):List (κ×V):=
 if(kvs.any λkv=>decide (kv.1=k))=true then kvs.map (λkv=>if kv.1=k then(kv.1,v)else kv)else kvs++[(k,v)]
noncomputable def j5 (kvs:List (κ×V)) (k:κ):List (κ×V):=kvs.filter λkv=>decide (kv.1≠k)
def gU{p:κ×V}{r:List (κ×V)}{k:κ}(e:p.1=k):fO (p::r) k=some p.2:=by simp[fO,yu,e]
def gg{p:κ×V}{r:List (κ×V)}{k:κ}(e:¬p.1=k):fO (p::r) k=fO r k:=by simp[fO,yu,e]
theorem tD(k:κ):∀kvs:List (κ×V),(kvs.any λkv=>decide (kv.1=k))=(fO kvs k).isSome
 | []=>rfl
 |p::r=>by
  rw[List.any_cons];by_cases e:p.1=k
  ·simp only[gU e,jP e,Bool.true_or,Option.isSome_some]
  ·rw[gg e,i_ e,Bool.false_or];exact tD k r
theorem IX(k j:κ)(y:V):∀kvs:List (κ×V),fO (kvs.map λkv=>if kv.1=k then(kv.1,y)else kv) j=(fO kvs j).map λx=>if j=k then y else x
 | []=>rfl
 |p::r=>by
  have ih:=IX k j y r;rw[dG];by_cases h:p.1=k
  ·rw[ay h];by_cases e:p.1=j
   ·rw[gU (p:=(p.1,y)) e,gU e,Fc,ay (e.symm.trans h)]
   ·rw[gg (p:=(p.1,y)) e,gg e,ih]
  ·rw[aq h];by_cases e:p.1=j
   ·rw[gU (p:=p) e,gU e,Fc,aq (λz=>h (e.trans z))]
   ·rw[gg (p:=p) e,gg e,ih]
theorem F1(k j:κ)(y:V):∀kvs:List (κ×V),fO kvs k=none->fO (kvs++[(k,y)]) j=if j=k then some y else fO kvs j
 | [],_=>by
  by_cases e:k=j
  ·rw[ay e.symm];exact gU (p:=(k,y)) e
  ·rw[aq (λz=>e z.symm)];exact gg (p:=(k,y)) e
 |p::r,hn=>by
  rw[List.cons_append];have hk:¬p.1=k:=λz=>by rw[gU z]at hn;cases hn
  rw[gg hk]at hn;have ih:=F1 k j y r hn
  by_cases e:p.1=j
  ·rw[gU e,gU e,aq (λz=>hk (e.trans z))]
  ·rw[gg e,gg e,ih]
def QI(kvs:List (κ×V))(k j:κ)(y:V):fO (putK kvs k y) j=if j=k then some y else fO kvs j:=by
 unfold putK;by_cases a:(kvs.any λkv=>decide (kv.1=k))=true
 ·rw[ay a,IX];rw[tD]at a;by_cases e:j=k
  ·obtain⟨x,hx⟩:=iL.mp a;rw[ay e,e,hx,Fc,ay rfl]
  ·rw[aq e];cases fO kvs j with
   |none=>rfl
   |some x=>rw[Fc,aq e]
 ·rw[aq a];refine F1 k j y kvs ?_;rw[tD]at a;cases q:fO kvs k with
  |none=>rfl
  |some x=>rw[q]at a;exact(a rfl).elim
def uy(kvs:List (κ×V))(k:κ)(v:V):(putK kvs k v).length<=kvs.length+1:=by
 unfold putK
 split
 ·rw[aO];omega
 ·rw[gb,cF,List.length_nil];omega
def qt{kvs:List (κ×V)}{k:κ}(v:V)(h:fO kvs k=none):putK kvs k v=kvs++[(k,v)]:=by
 unfold putK;rw[tD,h];exact aq (by decide)
def nV.qG{o:Option V}{u:Option Value}(r:nV o u):o.isSome=u.isSome:=by
 cases o with
 |none=>cases u with
  |none=>rfl
  |some _=>exact(show False from r).elim
 |some _=>cases u with
  |none=>exact(show False from r).elim
  |some _=>rfl
theorem nV.getD{o:Option V}{u:Option Value}{d:V}{d':Value}(r:nV o u)(rd:RelV d d'):RelV (o.getD d) (u.getD d'):=by
 cases o with
 |none=>cases u with
  |none=>exact rd
  |some _=>exact(show False from r).elim
 |some _=>cases u with
  |none=>exact(show False from r).elim
  |some _=>exact r
def KV.val{kvs:List (κ×V)}{vs:List (κ×Value)}(r:KV kvs vs)(k:κ):nV (fO kvs k) (valueAt vs k):=by
 unfold KV at r
 induction r with
 |nil=>exact True.intro
 |@cons p q ps qs h t ih=>
  obtain⟨h1,h2⟩:=h;by_cases e:p.1=k
  ·have e':q.1=k:=h1.symm.trans e;have b:valueAt (q::qs) k=some q.2:=by simp[valueAt,yu,e']
   rw[gU e,b];exact h2
  ·have e':¬q.1=k:=λz=>e (h1.trans z)
   have b:valueAt (q::qs) k=valueAt qs k:=by simp[valueAt,yu,e']
   rw[gg e,b];exact ih
theorem KV.any{kvs:List (κ×V)}{vs:List (κ×Value)}(r:KV kvs vs)(k:κ):(kvs.any λkv=>decide (kv.1=k))=vs.any λkv=>decide (kv.1=k):=by
 unfold KV at r
 induction r with
 |nil=>rfl
 |cons h t ih=>rw[List.any_cons,List.any_cons,ih,h.1]
def KV.repl{kvs:List (κ×V)}{vs:List (κ×Value)}(r:KV kvs vs)(k:κ){y:V}{u:Value}(ry:RelV y u):
  KV (kvs.map λkv=>if kv.1=k then(kv.1,y)else kv) (vs.map λkv=>if kv.1=k then(kv.1,u)else kv):=by
 unfold KV at r⊢
 induction r with
 |nil=>exact .nil
 |@cons p q ps qs h t ih=>
  rw[dG,dG];refine .cons ?_ ih;obtain⟨h1,h2⟩:=h;by_cases e:p.1=k
  ·rw[ay e,ay (h1.symm.trans e)];exact⟨h1,ry⟩
  ·rw[aq e,aq (λz=>e (h1.trans z))];exact⟨h1,h2⟩
def KV.put{kvs:List (κ×V)}{vs:List (κ×Value)}(r:KV kvs vs)(k:κ){y:V}{u:Value}(ry:RelV y u):KV (putK kvs k y) (stored vs k u):=by
 unfold putK stored;rw[r.any k];by_cases e:(vs.any λkv=>decide (kv.1=k))=true
 ·rw[ay e,ay e];exact r.repl k ry
 ·rw[aq e,aq e];exact Paired.snoc r ⟨rfl,ry⟩
def KV.drop{kvs:List (κ×V)}{vs:List (κ×Value)}(r:KV kvs vs)(k:κ):KV (j5 kvs k) (without vs k):=by
 unfold KV at r⊢;unfold j5 without
 induction r with
 |nil=>exact .nil
 |@cons p q ps qs h t ih=>
  obtain⟨h1,h2⟩:=h;rw[kP,kP];by_cases e:p.1=k
  ·have a:¬decide (p.1≠k)=true:=by simp[e]
   have b:¬decide (q.1≠k)=true:=by simp[h1.symm.trans e]
   rw[aq a,aq b];exact ih
  ·have e':¬q.1=k:=λz=>e (h1.trans z)
   have a:decide (p.1≠k)=true:=by simp[e]
   have b:decide (q.1≠k)=true:=by simp[e']
   rw[ay a,ay b];exact .cons ⟨h1,h2⟩ ih
def KV.keys{kvs:List (κ×V)}{vs:List (κ×Value)}(r:KV kvs vs):kvs.map (·.1)=vs.map (·.1):=by
 unfold KV at r
 induction r with
 |nil=>rfl
 |cons h t ih=>rw[dG,dG,ih,h.1]
theorem KV.length{kvs:List (κ×V)}{vs:List (κ×Value)}(r:KV kvs vs):kvs.length=vs.length:=vK r
def IY(kvs:List (κ×V))(k:κ):(j5 kvs k).length<=kvs.length:=Bf _ _
end
def yU{P:Program}{w:World}{k:Key}{u:Value}(r:RelV (kV k) u):(e_ P w).is k u=true:=by
 cases k with
 |inl i=>obtain⟨t,e⟩:=(show∃t,u=Value.int i t from r);subst e;exact Jr P w i t
 |inr x=>obtain⟨t,e⟩:=(show∃t,u=Value.str x t from r);subst e;exact Js P w x t
theorem F2{P:Program}{w:World}:∀{ks:List Key} {us:List Value},Vals (ks.map kV) us->ItemsAre (e_ P w) ks us
 | [],_,r=>by rw[sC]at r;cases r;exact .nil
 |k::ks,_,r=>by
  rw[dG]at r;cases r with
  |cons h t=>exact .cons (yU h) (F2 t)
abbrev KT(H:Hp):List (List Key×V)->List (List Key×Addr×Value)->Prop:=Paired λp q=>p.1=q.1/\H q.2.1=some (.tup (p.1.map kV))/\RelV p.2 q.2.2
def KT.val{H:Hp}{kvs:List (List Key×V)}{xs:List (List Key×Addr×Value)}(r:KT H kvs xs)(k:List Key):nV (fO kvs k) ((atKey xs k).map (·.2)):=by
 induction r with
 |nil=>exact True.intro
 |@cons p q ps qs h t ih=>
  obtain⟨h1,_,h2⟩:=h;by_cases e:p.1=k
  ·have e':q.1=k:=h1.symm.trans e;have b:atKey (q::qs) k=some q.2:=by simp[atKey,yu,e']
   rw[gU e,b];exact h2
  ·have e':¬q.1=k:=λz=>e (h1.trans z)
   have b:atKey (q::qs) k=atKey qs k:=by simp[atKey,yu,e']
   rw[gg e,b];exact ih
def KT.repl{H:Hp}{kvs:List (List Key×V)}{xs:List (List Key×Addr×Value)}(r:KT H kvs xs)(k:List Key){y:V}{u:Value}(ry:RelV y u):
  KT H (kvs.map λkv=>if kv.1=k then(kv.1,y)else kv) (xs.map (putAt k u)):=by
 induction r with
 |nil=>exact .nil
 |@cons p q ps qs h t ih=>
  rw[dG,dG];refine .cons ?_ ih;obtain⟨h1,h2,h3⟩:=h;unfold putAt;by_cases e:p.1=k
  ·rw[ay e,ay (h1.symm.trans e)];exact⟨h1,h2,ry⟩
  ·rw[aq e,aq (λz=>e (h1.trans z))];exact⟨h1,h2,h3⟩
def KT.put{H:Hp}{kvs:List (List Key×V)}{xs:List (List Key×Addr×Value)}(r:KT H kvs xs)(k:List Key){b:Addr}{y:V}{u:Value}(hb:H b=some (.tup (k.map kV)))(ry:RelV y u):
  KT H (putK kvs k y) (storedH xs k b u):=by
 have e:(kvs.any λkv=>decide (kv.1=k))=(atKey xs k).isSome:=by
  rw[tD,(r.val k).qG,Kf]
 unfold putK storedH;rw[e];by_cases q:(atKey xs k).isSome=true
 ·rw[ay q,ay q];exact r.repl k ry
 ·rw[aq q,aq q];exact Paired.snoc r ⟨rfl,hb,ry⟩
def KT.keeps{H H':Hp}{kvs:List (List Key×V)}{xs:List (List Key×Addr×Value)}(r:KT H kvs xs)(ht:∀b ys,H b=some (.tup ys)->H' b=some (.tup ys)):KT H' kvs xs:=
 Paired.UA r λ_ _ z=>⟨z.1,ht _ _ z.2.1,z.2.2⟩
section
variable{P:Program}{w:World}{H:Hp}{h:Heap}{a:Addr}
def T_{u:HO}(ok:mV P w H h)(e:Rd H a u):fm P w H h a u:=e.ok ok
def yV{kvs:List (Key×V)}(ok:mV P w H h)(e:Rd H a (.dK kvs)):kvs.length<=sizeLine/\(a==sysModules)=false/\∃vs,KV kvs vs/\h.DictOf (e_ P w) a vs:=
 show fm P w H h a (.dK kvs)from T_ ok e
def Lm{kvs:List (Key×V)}(ok:mV P w H h)(e:H a=some (.dK kvs)):kvs.length<=sizeLine/\(a==sysModules)=false/\∃vs,KV kvs vs/\h.DictOf (e_ P w) a vs:=yV ok (.inl e)
def vO{ks:List Key}(ok:mV P w H h)(e:H a=some (.tup (ks.map kV))):(tupleKind (e_ P w)).is h ks a:=by
 obtain⟨_,its,r,o,h1,h2,n,h3⟩:=(show fm P w H h a (.tup (ks.map kV))from ok a _ e);exact⟨o,its.toArray,n,h1,h2,h3,by simpa using F2 r⟩
def Bk{kvs:List (List Key×V)}(ok:mV P w H h)(e:Rd H a (.dT kvs)):kvs.length<=sizeLine/\(a==sysModules)=false/\
  ∃xs,KT H kvs xs/\h.DictOfH (tupleKind (e_ P w)) a xs:=by
 obtain⟨z,y,xs,r,o,es,ep,h1,h2,h3,h4,h5⟩:=(show fm P w H h a (.dT kvs)from T_ ok e);refine⟨z,y,xs,r,o,es,ep,h1,h2,h3,h4,λx hx=>?_,h5⟩;have all:∀{l:List (List Key×V)} {m:List (List Key×Addr×Value)},KT H l m->∀x∈m,(tupleKind (e_ P w)).is h x.1 x.2.1:=by
  intro l m q
  induction q with
  |nil=>intro x hx;exact nomatch hx
  |@cons p q ps qs hq t ih=>
   intro x hx;rcases bN.mp hx with e|hx
   ·subst e;exact vO ok (by rw[<- hq.1];exact hq.2.1)
   ·exact ih x hx
 exact all r x hx
def Ua{kvs:List (List Key×V)}(ok:mV P w H h)(e:H a=some (.dT kvs)):kvs.length<=sizeLine/\(a==sysModules)=false/\
  ∃xs,KT H kvs xs/\h.DictOfH (tupleKind (e_ P w)) a xs:=Bk ok (.inl e)
end
def gx(H:Hp)(a:Addr)(y:V)(r:Option V):Prop:=
 (∃kvs k,Rd H a (.dK kvs)/\y=kV k/\r=fO kvs k)\/∃kvs k b,Rd H a (.dT kvs)/\y=.ref b/\H b=some (.tup (k.map kV))/\r=fO kvs k
def xY(H:Hp)(a:Addr)(y v:V)(H':Hp):Prop:=
 (∃kvs k,H a=some (.dK kvs)/\y=kV k/\kvs.length<sizeLine/\H'=upd H a (.dK (putK kvs k v)))\/
 ∃kvs k b,H a=some (.dT kvs)/\y=.ref b/\H b=some (.tup (k.map kV))/\kvs.length<sizeLine/\H'=upd H a (.dT (putK kvs k v))
theorem gx.k{H:Hp}{a:Addr}{kvs:List (Key×V)}{k:Key}(e:H a=some (.dK kvs)):gx H a (kV k) (fO kvs k):= .inl ⟨kvs,k,.inl e,rfl,rfl⟩
def gx.t{H:Hp}{a b:Addr}{kvs:List (List Key×V)}{k:List Key}(e:H a=some (.dT kvs))(eb:H b=some (.tup (k.map kV))):gx H a (.ref b) (fO kvs k):= .inr ⟨kvs,k,b,.inl e,rfl,eb,rfl⟩
theorem xY.k{H:Hp}{a:Addr}{kvs:List (Key×V)}{k:Key}{v:V}(e:H a=some (.dK kvs))(hl:kvs.length<sizeLine):xY H a (kV k) v (upd H a (.dK (putK kvs k v))):= .inl ⟨kvs,k,e,rfl,hl,rfl⟩
def xY.t{H:Hp}{a b:Addr}{kvs:List (List Key×V)}{k:List Key}{v:V}(e:H a=some (.dT kvs))(eb:H b=some (.tup (k.map kV)))(hl:kvs.length<sizeLine):
  xY H a (.ref b) v (upd H a (.dT (putK kvs k v))):= .inr ⟨kvs,k,b,e,rfl,eb,hl,rfl⟩
section
variable{X:Cx}{pins:List (Addr×Obj)}{σ:St}{H:Hp}{s:Shared}{a:Addr}{y v:V}{u r:Value}{o:Option V}{A:Around}{E:Value->Shared->Prop}
def Inv.big(I:Inv X pins σ H s):sysModules<s.heap.objs.size:=by
 have h:mainGlobals<s.heap.objs.size:=(I.mod.glob.keeps I.bk).lt;exact BX (by decide) h
def N6{Q:Value->Shared->Prop}(hu:A.units+1<cLine)(I:Inv X pins σ H s)(g:gx H a y (some v))(ry:RelV y u)(h:∀w' s',Inv X pins σ H s'->RelV v w'->Q w' s'):
  wpAny (model X.prog X.w) A (getItem (.ref a) u) Q E s:=by
 rcases g with⟨kvs,k,e,ey,l⟩|⟨kvs,k,b,e,ey,eb,l⟩
 ·subst ey;obtain⟨z,hd,vs,rel,dd⟩:=yV I.hok e;obtain⟨w',hw,rw'⟩:=nV.some_of (v:=v) (o:=valueAt vs k) (by rw[l];exact rel.val k);exact wpAny_getItem_of (yU ry) dd.mapOf hw (h w' _ (I.tok _) rw')
 ·subst ey;cases (show u=Value.ref b from ry);obtain⟨z,hd,xs,rel,dd⟩:=Bk I.hok e;obtain⟨w',hw,rw'⟩:=nV.some_of (v:=v) (o:=(atKey xs k).map (·.2)) (by rw[l];exact rel.val k);obtain⟨p,hp,hp2⟩:=f_.mp hw;refine wpAny_getItem_heap (yr hu) (vO I.hok eb) dd hp ?_;rw[hp2];exact h w' _ (I.tok _) rw'
def ZR{Q:Value->Shared->Prop}(hu:A.units+1<cLine)(I:Inv X pins σ H s)(g:gx H a y o)(ry:RelV y u)(h:∀s',Inv X pins σ H s'->Q (.bool o.isSome) s'):
  wpAny (model X.prog X.w) A (compareOp .In u (.ref a)) Q E s:=by
 rcases g with⟨kvs,k,e,ey,l⟩|⟨kvs,k,b,e,ey,eb,l⟩
 ·subst ey;obtain⟨z,hd,vs,rel,dd⟩:=yV I.hok e;refine wpAny_in_of (yU ry) hd dd.mapOf ?_;rw[<-(rel.val k).qG,<- l];exact h _ (I.tok _)
 ·subst ey;cases (show u=Value.ref b from ry);obtain⟨z,hd,xs,rel,dd⟩:=Bk I.hok e;refine wpAny_in_heap (yr hu) (vO I.hok eb) hd dd ?_;have q:=(rel.val k).qG
  rw[Kf]at q;rw[<- q,<- l];exact h _ (I.tok _)
def SK{Q:Value->Shared->Prop}(hu:A.units+1<cLine)(I:Inv X pins σ H s)(g:gx H a y o)(ry:RelV y u)(h:∀s',Inv X pins σ H s'->Q (.bool (!o.isSome)) s'):
  wpAny (model X.prog X.w) A (compareOp .NotIn u (.ref a)) Q E s:=by
 rcases g with⟨kvs,k,e,ey,l⟩|⟨kvs,k,b,e,ey,eb,l⟩
 ·subst ey;obtain⟨z,hd,vs,rel,dd⟩:=yV I.hok e;refine wpAny_notIn_of (yU ry) hd dd.mapOf ?_;rw[<-(rel.val k).qG,<- l];exact h _ (I.tok _)
 ·subst ey;cases (show u=Value.ref b from ry);obtain⟨z,hd,xs,rel,dd⟩:=Bk I.hok e;refine wpAny_notIn_heap (yr hu) (vO I.hok eb) hd dd ?_;have q:=(rel.val k).qG
  rw[Kf]at q;rw[<- q,<- l];exact h _ (I.tok _)
def xE{h':Heap}{t':Nat}{ob:HO}(I:Inv X pins σ H s)(mu:PD (H a))(hs:Heap.SameBut a s.heap h')(he:∃q,h'.get? a=some q)(new:fm X.prog X.w (upd H a ob) h' a ob):
  Inv X pins σ (upd H a ob) {s with heap:=h',toks:=t'}:=
 I.write (x:=a) (e:=a) mu (.inl rfl) (λb q hb z=>(hs.2 b hb).trans z) he new
def KP{P:Program}{w:World}{H':Hp}{h':Heap}{kvs:List (Key×V)}{vs:List (Key×Value)}(z:kvs.length<=sizeLine)(hd:(a==sysModules)=false)(rel:KV kvs vs)(dd:h'.DictOf (e_ P w) a vs):
  fm P w H' h' a (.dK kvs):=⟨z,hd,vs,rel,dd⟩
def N7{H':Hp}{Q:Unit->Shared->Prop}(hu:A.units+1<cLine)(I:Inv X pins σ H s)(g:xY H a y v H')(ry:RelV y u)(rv:RelV v r)(h:∀s',Inv X pins σ H' s'->Q () s'):
  wpAny (model X.prog X.w) A (setItem (.ref a) u r) Q E s:=by
 rcases g with⟨kvs,k,e,ey,l,eH⟩|⟨kvs,k,b,e,ey,eb,l,eH⟩
 ·subst ey eH;obtain⟨z,hd,vs,rel,dd⟩:=Lm I.hok e;have hz:vs.length<=sizeLine:=by rw[<- rel.length];exact z
  have hl:(putK kvs k v).length<=sizeLine:=by have:=uy kvs k v;omega
  refine wpAny_setItem_pairs (hsz:=hz) (yU ry) dd λh' IZ hs=>h _ ?_
  have he:∃q,h'.get? a=some q:=let⟨q,_,_,hq,_⟩:=IZ;⟨q,hq⟩;exact xE I (by rw[e];exact True.intro) hs he (KP hl hd (rel.put k rv) IZ)
 ·subst ey eH;cases (show u=Value.ref b from ry);obtain⟨z,hd,xs,rel,dd⟩:=Ua I.hok e;have hz:xs.length<=sizeLine:=by rw[<- vK rel];exact z
  have hl:(putK kvs k v).length<=sizeLine:=by have:=uy kvs k v;omega
  refine wpAny_setItem_heap (hsz:=hz) (yr hu) (vO I.hok eb) dd λh' IZ hs=>h _ ?_
  obtain⟨q,es,ep,hq,h2,h3,h4,_,h5⟩:=IZ;refine xE I (by rw[e];exact True.intro) hs ⟨q,hq⟩ ⟨hl,hd,_,(rel.put k eb rv).keeps λc ys ec=>?_,q,es,ep,hq,h2,h3,h4,h5⟩;rw[ai (bh ec e (λz=>nomatch z))];exact ec
end
section
variable{X:Cx}{pins:List (Addr×Obj)}{σ:St}{H:Hp}{s:Shared}{a:Addr}{kvs:List (Key×V)}{k:Key}{u:Value}{A:Around}{E:Value->Shared->Prop}
def Xr{v:V}{more:List Value}{Q:Value->Shared->Prop}(I:Inv X pins σ H s)(e:H a=some (.dK kvs))(ry:RelV (kV k) u)(l:fO kvs k=some v)(hm:more=[]\/∃x,more=[x])
  (h:∀w' s',Inv X pins σ (upd H a (.dK (j5 kvs k))) s'->RelV v w'->Q w' s'):wpAny (model X.prog X.w) A (call (.builtin "dict.pop") (.ref a::u::more)) Q E s:=by
 obtain⟨z,hd,vs,rel,dd⟩:=Lm I.hok e;obtain⟨w',hw,rw'⟩:=nV.some_of (v:=v) (o:=valueAt vs k) (by rw[<- l];exact rel.val k);have hp:(keyPart u).isSome=true:=by
  cases k with
  |inl i=>obtain⟨t,q⟩:=(show∃t,u=Value.int i t from ry);subst q;rfl
  |inr x=>obtain⟨t,q⟩:=(show∃t,u=Value.str x t from ry);subst q;rfl
 have ha:argsOk "dict.pop" ⟨.ref a::u::more,[]⟩:=by
  rcases hm with q|⟨x,q⟩
  ·subst q;exact PySem.F.args_dict_pop_2 _ _
  ·subst q;exact PySem.F.args_dict_pop_3 _ _ _
 refine call_meetsIn J8 dd.typeIs PySem.F.entry_dict_pop ha (meets_dict_pop_there (e_ X.prog X.w) a (yU ry) more hm hp)
  ⟨vs,w',dd,by rw[<- rel.length];exact z,hw,λh' IZ hs=>h w' _ ?_ rw'⟩
 have he:∃q,h'.get? a=some q:=let⟨q,_,_,hq,_⟩:=IZ;⟨q,hq⟩;exact xE I (by rw[e];exact True.intro) hs he (KP (gz (IY kvs k) z) hd (rel.drop k) IZ)
def Xs{Q:Value->Shared->Prop}(I:Inv X pins σ H s)(e:Rd H a (.dK kvs))(h:∀t s',Inv X pins σ H s'->Q (.int kvs.length t) s'):wpAny (model X.prog X.w) A (call (.builtin "len") [.ref a]) Q E s:=by
 obtain⟨z,hd,vs,rel,dd⟩:=yV I.hok e;refine call_len_dict hd dd (by rw[<- rel.length];rw[sF]at z;omega) ?_;rw[<- rel.length];exact h _ _ (I.tok _)
end
def Wx(i:Expr):Prop:=∀ov iv,subscripted i false ov iv=operate [ov,iv] (getItem ov iv)
def SN{prog:Program}{w:World}{A:Around}{E:Value->Shared->Prop}{s:Shared}{env:Env}{value slice:Expr}{pos:Pos}{T id:String}{Q:Value->Shared->Prop}
  (hl:typeLookup (.type T) "__getitem__" =pure (some (.builtin id))) (hs:Wx slice)
  (h:wpAny (model prog w) A (eval value env) (λo s₁=>wpAny (model prog w) A (eval slice env) (λi s₂=>s₂.TypeIs o T/\wpAny (model prog w) A (getItem o i) Q E s₂) E s₁) E s):
  wpAny (model prog w) A (eval (.Subscript value slice pos) env) Q E s:=by
 refine Subscript_ (mT h (λo s₁ h₁=>mT h₁ (λi s₂ h₂=>?_) λ_ _ x=>x) λ_ _ x=>x);obtain⟨hT,h₂⟩:=h₂;unfold subscriptTail;refine aB ?_;rw[getitemInPython_of_ne hT.not_modules];refine aB (wpAny_specialOf hT hl ?_);have fin:wpAny (model prog w) A (subscripted slice false o i) (λr s₃=>wpAny (model prog w) A (letTemporaryGo value o r >>= λ_=>pure r) Q E s₃) E s₂:=by
  rw[hs o i];exact wpAny_operating (mT h₂ (λr s₃ h₃=>aB (wpAny_letTemporaryGo (aP h₃))) λ_ _ x=>x)
 first
  |exact aP (aB fin)
  |exact aB (aP (aB fin))
  |exact aB fin
def Jx{X:Cx}{pins:List (Addr×Obj)}{σ:St}{H:Hp}{s:Shared}{a:Addr}{y:V}{o:Option V}(I:Inv X pins σ H s)(g:gx H a y o):s.TypeIs (.ref a) "dict":=by
 rcases g with⟨kvs,k,e,_,_⟩|⟨kvs,k,b,e,_,_,_⟩
 ·obtain⟨_,_,vs,_,dd⟩:=yV I.hok e;exact dd.typeIs
 ·obtain⟨_,_,xs,_,dd⟩:=Bk I.hok e;exact dd.typeIs
inductive Vg(Q:VK)(x:V)(y:V)(H2:Hp):Prop
 |mk (a:_) (v:_) (_:x=.ref a) (_:gx H2 a y (some v)) (_:Q v H2)
def Xu(td ty:TE):TE:=λσ H Q=>td σ H λx H1=>ty σ H1 λy H2=>Vg Q x y H2
inductive Xv(Q:VK)(y:V)(x:V)(H2:Hp):Prop
 |mk (a:_) (o:_) (_:x=.ref a) (_:gx H2 a y o) (_:Q (.bl o.isSome) H2)
def Wy(ty td:TE):TE:=λσ H Q=>ty σ H λy H1=>td σ H1 λx H2=>Xv Q y x H2
inductive QJ(Q:VK)(y:V)(x:V)(H2:Hp):Prop
 |mk (a:_) (o:_) (_:x=.ref a) (_:gx H2 a y o) (_:Q (.bl (!o.isSome)) H2)
def SO(ty td:TE):TE:=λσ H Q=>ty σ H λy H1=>td σ H1 λx H2=>QJ Q y x H2
inductive Vh(D:Ends)(σ:St)(v:V)(x:V)(y:V)(H3:Hp):Prop
 |mk (a:_) (H4:_) (_:x=.ref a) (_:xY H3 a y v H4) (_:D.nx σ H4)
def Xw(td ty tv:TE):TS:=λD σ H=>tv σ H λv H1=>td σ H1 λx H2=>ty σ H2 λy H3=>Vh D σ v x y H3
section
variable{X:Cx}{o i e value:Expr}{pos pos' tpos:Pos}{td ty tv:TE}
def gQ(hu:X.A.units+1<cLine)(ho:PE X o td)(hi:PE X i ty)(hs:Wx i):PE X (.Subscript o i pos) (Xu td ty):=by
 intro pins s σ H Q I h;refine SN PySem.F.slot_dict_getitem.lookup hs (cX (ho pins s σ H _ I h) λu s1 ⟨x,H1,I1,rx,q1⟩=>cX (hi pins s1 σ H1 _ I1 q1) λiv s2 h0=>?_);obtain⟨y,H2,I2,ry,a,v,ex,g,q2⟩:=h0;subst ex;obtain rfl:u=Value.ref a:=rx;exact⟨Jx I2 g,N6 hu I2 g ry λw' s3 I3 rw'=>⟨v,H2,I3,rw',q2⟩⟩
def F3(hu:X.A.units+1<cLine)(hi:PE X i ty)(ho:PE X o td):PC X .In i o (Wy ty td):=by
 intro pins s σ H Q I h;refine cX (hi pins s σ H _ I h) λiv s1 ⟨y,H1,I1,ry,q1⟩=>cX (ho pins s1 σ H1 _ I1 q1) λu s2 h0=>?_
 obtain⟨x,H2,I2,rx,a,ov,ex,g,q2⟩:=h0;subst ex;obtain rfl:u=Value.ref a:=rx;exact ZR hu I2 g ry λs3 I3=>⟨.bl ov.isSome,H2,I3,rfl,q2⟩
def nX(hu:X.A.units+1<cLine)(hi:PE X i ty)(ho:PE X o td):PC X .NotIn i o (SO ty td):=by
 intro pins s σ H Q I h;refine cX (hi pins s σ H _ I h) λiv s1 ⟨y,H1,I1,ry,q1⟩=>cX (ho pins s1 σ H1 _ I1 q1) λu s2 h0=>?_
 obtain⟨x,H2,I2,rx,a,ov,ex,g,q2⟩:=h0;subst ex;obtain rfl:u=Value.ref a:=rx;exact SK hu I2 g ry λs3 I3=>⟨.bl (!ov.isSome),H2,I3,rfl,q2⟩
def uc(hu:X.A.units+1<cLine)(ho:PE X o td)(hi:PE X i ty)(hv:PE X value tv)(hs:swapsWith value (some (.Subscript o i pos')) pos.line X.env=pure false):
  PS X (.Assign [.Subscript o i pos'] value pos) (Xw td ty tv):=by
 intro pins s σ H D I h;refine wpAny_Assign_Subscript (cX (hv pins s σ H _ I h) λr s1 ⟨v,H1,I1,rv,q1⟩=>cX (ho pins s1 σ H1 _ I1 q1) λu s2 ⟨x,H2,I2,rx,q2⟩=>cX (hi pins s2 σ H2 _ I2 q2) λiv s3 h0=>?_) hs;obtain⟨y,H3,I3,ry,a,H4,ex,g,q3⟩:=h0;subst ex;obtain rfl:u=Value.ref a:=rx;exact N7 hu I3 g ry rv λs4 I4=>⟨σ,H4,I4,q3⟩
end
def I0{P:Program}{w:World}{H:Hp}(h:Heap)(hb:sysModules<h.objs.size):fm P w H (h.push {cls:= .type "dict",data:= .dict #[]}) h.objs.size (.dK []):=
 ⟨fC _,yl.mpr (mC (iG hb)),[],.nil,Heap.DictOf.new h⟩
def QK{P:Program}{w:World}{H:Hp}(h:Heap)(hb:sysModules<h.objs.size):fm P w H (h.push {cls:= .type "dict",data:= .dict #[]}) h.objs.size (.dT []):=
 ⟨fC _,yl.mpr (mC (iG hb)),[],.nil,_,#[],0,fB _ rfl,⟨rfl,rfl,rfl⟩,rfl,rfl,List.nodup_nil⟩
def Vi:TE:=λ_ H Q=>∀p,H p=none->Q (.ref p) (upd H p (.dK []))
def Vj:TE:=λ_ H Q=>∀p,H p=none->Q (.ref p) (upd H p (.dT []))
section
variable{X:Cx}{pos:Pos}
def tE:PE X (.Dict [] [] pos) Vi:=λpins s σ H Q I h=>
 wpAny_Dict_empty ⟨.ref s.heap.objs.size,_,I.laid (a:=s.heap.objs.size) (o:= .dK []) (t':=s.toks) (λ_ _ q=>eB _ q) (bw _) (I0 s.heap I.big),rfl,h _ (I.hok.fresh (bw _))⟩
def QL:PE X (.Dict [] [] pos) Vj:=λpins s σ H Q I h=>
 wpAny_Dict_empty ⟨.ref s.heap.objs.size,_,I.laid (a:=s.heap.objs.size) (o:= .dT []) (t':=s.toks) (λ_ _ q=>eB _ q) (bw _) (QK s.heap I.big),rfl,h _ (I.hok.fresh (bw _))⟩
end
def KQ:List (TE×TE)->St->Hp->(List (V×V)->Hp->Prop)->Prop
 | [],_,H,Q=>Q [] H
 |(tk,tv)::r,σ,H,Q=>tk σ H λx H1=>tv σ H1 λy H2=>KQ r σ H2 λps H3=>Q ((x,y)::ps) H3
abbrev VV:List (V×V)->List (Value×Value)->Prop:=Paired λp q=>RelV p.1 q.1/\RelV p.2 q.2
def Wz(X:Cx)(pos:Pos)(keys:List (Option Expr))(values:List Expr)(N8:List (TE×TE)):Prop:=
 ∀(pins:List (Addr×Obj)) (s:Shared) (σ:St) (H:Hp) (Q:List (V×V)->Hp->Prop),Inv X pins σ H s->KQ N8 σ H Q->
  wpAny (model X.prog X.w) X.A (evalPairs (pairTrees keys values X.env pos)) (λvs s'=>∃ps H',Inv X pins σ H' s'/\VV ps vs/\Q ps H') X.xe s
def SQ{X:Cx}{pos:Pos}:Wz X pos [] [] []:=λpins s σ H Q I h=>pairTrees_nil_walk ⟨[],H,I,.nil,h⟩
def QM{X:Cx}{pos:Pos}{k v:Expr}{ks:List (Option Expr)}{vs:List Expr}{tk tv:TE}{N8:List (TE×TE)}(hk:PE X k tk)(hv:PE X v tv)(hr:Wz X pos ks vs N8):
  Wz X pos (some k::ks) (v::vs) ((tk,tv)::N8):=λpins s σ H Q I h=>
 pairTrees_cons_walk (cX (hk pins s σ H _ I h) λu s1 ⟨x,H1,I1,rx,q1⟩=>cX (hv pins s1 σ H1 _ I1 q1) λw2 s2 ⟨y,H2,I2,ry,q2⟩=>
  cX (hr pins s2 σ H2 _ I2 q2) λws s3 ⟨ps,H3,I3,rel,q3⟩=>⟨(x,y)::ps,H3,I3,.cons ⟨rx,ry⟩ rel,q3⟩)
noncomputable def vP (kvs more:List (Key×V)):List (Key×V):=more.foldl (λacc kv=>putK acc kv.1 kv.2) kvs
def KV.merge:∀{more:List (Key×V)} {rs:List (Key×Value)} {kvs:List (Key×V)} {vs:List (Key×Value)},KV more rs->KV kvs vs->KV (vP kvs more) (merged vs rs):=by
 intro more rs kvs vs r;unfold KV at r
 induction r generalizing kvs vs with
 |nil=>intro q;exact q
 |@cons p q ps qs h t ih=>
  intro r0;have e:KV (putK kvs p.1 p.2) (stored vs q.1 q.2):=by
   have:=r0.put p.1 h.2;rw[<- h.1];exact this
  exact ih e
theorem wj:∀(more kvs:List (Key×V)),(vP kvs more).length<=kvs.length+more.length
 | [],kvs=>by show kvs.length<=kvs.length+0;omega
 |p::r,kvs=>by
  have h1:=wj r (putK kvs p.1 p.2);have h2:=uy kvs p.1 p.2
  show(vP (putK kvs p.1 p.2) r).length<=_
  rw[cF];omega
theorem Dj{P:Program}{w:World}:∀{kvs:List (Key×V)} {ws:List (Value×Value)},VV (kvs.map λkv=>(kV kv.1,kv.2)) ws->∃rs,Carries (e_ P w) ws rs/\KV kvs rs
 | [],_,r=>by rw[sC]at r;cases r;exact⟨[],True.intro,.nil⟩
 |p::kvs,_,r=>by
  rw[dG]at r;cases r with
  |@cons a b as bs h t=>
   obtain⟨rs,c,q⟩:=Dj (P:=P) (w:=w) t;obtain⟨b1,b2⟩:=b;exact⟨(p.1,b2)::rs,⟨yU h.1,rfl,c⟩,.cons ⟨rfl,h.2⟩ q⟩
def Xx(N8:List (TE×TE)):TE:=λσ H Q=>∀p,H p=none->KQ N8 σ (upd H p (.dK [])) λps H2=>H2 p=some (.dK [])/\∃kvs:List (Key×V),ps=kvs.map (λkv=>(kV kv.1,kv.2))/\kvs.length<=15/\Q (.ref p) (upd H2 p (.dK (vP [] kvs)))
def SR{X:Cx}{pos:Pos}{keys:List (Option Expr)}{values:List Expr}{N8:List (TE×TE)}(h:Wz X pos keys values N8)(hall:keys.all (·.isSome)=true)(hl:keys.length=values.length)(h0:keys≠ [])
  (YI:keys.length<=15):PE X (.Dict keys values pos) (Xx N8):=by
 intro pins s σ H Q I q;have hn:=I.hok.fresh (bw s.heap.objs.size)
 have I1:=I.laid (a:=s.heap.objs.size) (o:= .dK []) (h':=s.heap.push {cls:= .type "dict",data:= .dict #[]}) (t':=s.toks) (λ_ _ q=>eB _ q) (bw _) (I0 s.heap I.big);refine wpAny_Dict_walk (knd:=e_ X.prog X.w) hall hl h0 YI (cX (h pins _ σ _ _ I1 (q _ hn)) λws s2 ⟨ps,H2,I2,rel,e,kvs,ep,lk,q2⟩=>?_);subst ep;obtain⟨rs,c,rk⟩:=Dj (P:=X.prog) (w:=X.w) rel;obtain⟨z,hd,vs0,r0,dd⟩:=Lm I2.hok e;cases r0;refine⟨rs,c,dd,λh' IZ hs=>⟨.ref s.heap.objs.size,_,?_,rfl,q2⟩⟩;have hz:(vP [] kvs).length<=sizeLine:=by
  have h1:=wj kvs [];rw[List.length_nil]at h1;rw[sF];omega
 have he:∃q,h'.get? s.heap.objs.size=some q:=let⟨q,_,_,hq,_⟩:=IZ;⟨q,hq⟩;exact xE I2 (by rw[e];exact True.intro) hs he (KP hz hd (rk.merge .nil) IZ)
structure M1(X:Cx)(o:Expr)(m:Str)(apos:Pos)(e:Expr)(cpos:Pos):Prop where
 base:attributeBase o m X.env (eval o X.env)=eval o X.env
 few:((backTo cpos (starEach [e] X.env)).all (λx=>!x.1)&&(backToKw cpos (keywordEach [] X.env)).all (λx=>x.1.isSome)
  && decide (([e]:List Expr).length+([]:List Keyword).length+(if([]:List Keyword).isEmpty then 0 else 1)< 30))=true
 line:(apos.endLine==cpos.line)=true
 trees:backTo cpos (starEach [e] X.env)=[(false,eval e X.env)]
def WA(H:Hp)(a:Addr):Prop:=(∃kvs,Rd H a (.dK kvs))\/∃kvs,Rd H a (.dT kvs)
def KR{X:Cx}{pins:List (Addr×Obj)}{σ:St}{H:Hp}{s:Shared}{a:Addr}(I:Inv X pins σ H s)(d:WA H a):
  s.TypeIs (.ref a) "dict" /\(∀b,Value.ref a=.ref b->∃ob,s.heap.get? b=some ob/\ob.dict=none)/\(a==sysModules)=false:=by
 rcases d with⟨kvs,e⟩|⟨kvs,e⟩
 ·obtain⟨_,hd,vs,_,dd⟩:=yV I.hok e;refine⟨dd.typeIs,λb q=>?_,hd⟩;cases q;obtain⟨ob,_,_,h1,h2,_⟩:=dd;exact⟨ob,h1,h2.2.1⟩
 ·obtain⟨_,hd,xs,_,dd⟩:=Bk I.hok e;refine⟨dd.typeIs,λb q=>?_,hd⟩;cases q;obtain⟨ob,_,_,h1,h2,_⟩:=dd;exact⟨ob,h1,h2.2.1⟩
section
variable{X:Cx}{pins:List (Addr×Obj)}{σ:St}{H:Hp}{s:Shared}{a:Addr}{y d:V}{u r:Value}{o:Option V}{A:Around}{E:Value->Shared->Prop}
def Vk{Q:Value->Shared->Prop}(hu:A.units+1<cLine)(I:Inv X pins σ H s)(g:gx H a y o)(ry:RelV y u)(h:∀w' s',Inv X pins σ H s'->RelV (o.getD .gq) w'->Q w' s'):
  wpAny (model X.prog X.w) A (call (.builtin "dict.get") [.ref a,u]) Q E s:=by
 rcases g with⟨kvs,k,e,ey,l⟩|⟨kvs,k,b,e,ey,eb,l⟩
 ·subst ey;obtain⟨z,hd,vs,rel,dd⟩:=yV I.hok e;refine call_meetsIn J9 dd.typeIs PySem.F.entry_dict_get (PySem.F.args_dict_get_2 _ _) (meets_dict_get (e_ X.prog X.w) a (yU ry) hd) ⟨_,dd.mapOf,h _ _ (I.tok _) ?_⟩;rw[l];exact(rel.val k).getD rfl
 ·subst ey;cases (show u=Value.ref b from ry);obtain⟨z,hd,xs,rel,dd⟩:=Bk I.hok e;refine call_meetsIn J9 dd.typeIs PySem.F.entry_dict_get (PySem.F.args_dict_get_2 _ _) (meetsH_dict_get (tupleKind (e_ X.prog X.w)) a b hd) ⟨yr hu,k,xs,vO I.hok eb,dd,h _ _ (I.tok _) ?_⟩;rw[l];exact(rel.val k).getD rfl
end
def Vl(td ty:TE):TE:=λσ H Q=>td σ H λx H1=>∃a,x=.ref a/\WA H1 a/\ty σ H1 λy H2=>∃o,gx H2 a y o/\Q (o.getD .gq) H2
def Vm(td ty:TE):TE:=λσ H Q=>td σ H λx H1=>∃a,x=.ref a/\WA H1 a/\ty σ H1 λy H2=>∃kvs k v,H2 a=some (.dK kvs)/\y=kV k/\fO kvs k=some v/\Q v (upd H2 a (.dK (j5 kvs k)))
section
variable{X:Cx}{o e f:Expr}{apos cpos:Pos}{td ty tx:TE}
def xZ(hu:X.A.units+1<cLine)(ho:PE X o td)(he:PE X e ty)(m:M1 X o "get" apos e cpos):PE X (.Call (.Attribute o "get" apos) [e] [] cpos) (Vl td ty):=by
 intro pins s σ H Q I h;refine wpAny_Call_method m.base m.few m.line J3 J9 PySem.F.type_dict_get (cX (ho pins s σ H _ I h) λu s1 h0=>?_);obtain⟨x,H1,I1,rx,a,ex,d,q1⟩:=h0;subst ex;obtain rfl:u=Value.ref a:=rx;obtain⟨t1,t2,_⟩:=KR I1 d;refine⟨t1,t2,?_⟩;rw[m.trees];refine BJ rfl (E5 (E_ (cX (he pins s1 σ H1 _ I1 q1) λiv s2 ⟨y,H2,I2,ry,ov,g,q2⟩=>Fg ?_)));exact Vk hu I2 g ry λw' s3 I3 rw'=>⟨_,H2,I3,rw',q2⟩
def QN(ho:PE X o td)(he:PE X e ty)(m:M1 X o "pop" apos e cpos):PE X (.Call (.Attribute o "pop" apos) [e] [] cpos) (Vm td ty):=by
 intro pins s σ H Q I h;refine wpAny_Call_method m.base m.few m.line J3 J8 PySem.F.type_dict_pop (cX (ho pins s σ H _ I h) λu s1 h0=>?_);obtain⟨x,H1,I1,rx,a,ex,d,q1⟩:=h0;subst ex;obtain rfl:u=Value.ref a:=rx;obtain⟨t1,t2,_⟩:=KR I1 d;refine⟨t1,t2,?_⟩;rw[m.trees];refine BJ rfl (E5 (E_ (cX (he pins s1 σ H1 _ I1 q1) λiv s2 ⟨y,H2,I2,ry,kvs,k,v,ea,ey,l,q2⟩=>Fg ?_)));subst ey;exact Xr I2 ea ry l (.inl rfl) λw' s3 I3 rw'=>⟨v,_,I3,rw',q2⟩
end
section
variable{X:Cx}{pins:List (Addr×Obj)}{σ:St}{H:Hp}{s:Shared}{a:Addr}{kvs:List (Key×V)}{A:Around}{E:Value->Shared->Prop}
end
section
variable{X:Cx}{pins:List (Addr×Obj)}{σ:St}{H:Hp}{s:Shared}{a:Addr}{y:V}{u:Value}{A:Around}{E:Value->Shared->Prop}
end
section
variable{prog:Program}{w:World}{A:Around}{E:Value->Shared->Prop}
end
section
variable{X:Cx}
end
section
variable{X:Cx}{pins:List (Addr×Obj)}{σ:St}{H:Hp}{s:Shared}{h':Heap}
def Inv.SS{t':Nat}{ch:List Addr}(I:Inv X pins σ H s)(k:∀b o,b∉ch->s.heap.get? b=some o->h'.get? b=some o)(hf:∀b∈ch,xU X pins H b):Inv X pins σ H {s with heap:=h',toks:=t'}:=by
 have PF:∀b u,H b=some u->b∉ch:=λb u e z=>by
  have q:=(hf b z).1;rw[q]at e;cases e
 refine I.step (g':=s.gens) (d':=s.drawn) (ch:=ch) (λb hb=>⟨(hf b hb).2.2.2.1,(hf b hb).2.1,(hf b hb).2.2.2.2.1,(hf b hb).2.2.2.2.2⟩) (λb o _ _ hc e _=>k b o hc e) (λb o _ _ hc e _=>⟨o.slots,k b o hc e⟩)
  (λ_ _ _ _ n=>n) (λb o hc e=>⟨o,k b o hc e⟩) (λ_ _ e=>e) (λ_ _ _ e=>e) (λb ps e=>⟨#[],by rw[e];simp⟩) (λm hm=>?_) (λb u e=>?_) I.bare
 ·obtain⟨o,es,ep,ho,r⟩:=hm;exact⟨o,es,ep,k _ o (λz=>(hf _ z).2.1 rfl) ho,r⟩
 ·refine(I.hok b u e).stay (λc v hc q=>k c v ?_ q) (λ_ q=>q) λ_ _ q=>q
  rcases hc with z|z
  ·rw[z];exact PF b u e
  ·exact PF c _ z
def Inv.F4{t':Nat}{ch:List Addr}{T:Addr}{ob:HO}(I:Inv X pins σ H s)(k:∀b o,b∉ch->s.heap.get? b=some o->h'.get? b=some o)(hf:∀b∈ch,xU X pins H b)(hT:s.heap.objs.size<=T)
  (new:fm X.prog X.w (upd H T ob) h' T ob):Inv X pins σ (upd H T ob) {s with heap:=h',toks:=t'}:=by
 have hn:H T=none:=I.hok.fresh hT;have PF:∀b u,H b=some u->b∉ch:=λb u e z=>by
  have q:=(hf b z).1;rw[q]at e;cases e
 refine I.step (g':=s.gens) (d':=s.drawn) (ch:=ch) (λb hb=>⟨(hf b hb).2.2.2.1,(hf b hb).2.1,(hf b hb).2.2.2.2.1,(hf b hb).2.2.2.2.2⟩) (λb o _ _ hc e _=>k b o hc e) (λb o _ _ hc e _=>⟨o.slots,k b o hc e⟩)
  (λb o _ e n=>?_) (λb o hc e=>⟨o,k b o hc e⟩) (λb xs e=>?_) (λb o u e=>?_) (λb ps e=>⟨#[],?_⟩) (λm hm=>?_) (λb u e=>?_) I.bare
 ·rw[ai (iG (jZ (cC e) hT))];exact n
 ·rw[ai (aj e hn)];exact e
 ·rw[ai (aj e hn)];exact e
 ·rw[ai (aj e hn),e];simp
 ·obtain⟨o,es,ep,ho,r⟩:=hm;exact⟨o,es,ep,k _ o (λz=>(hf _ z).2.1 rfl) ho,r⟩
 ·by_cases hb:b=T
  ·subst hb;rw[af]at e;cases e;exact new
  ·rw[ai hb]at e;refine(I.hok b u e).stay (λc v hc q=>k c v ?_ q) (λc q=>by rw[ai (aj q hn)];exact q) λc xs q=>by rw[ai (aj q hn)];exact q
   rcases hc with z|z
   ·rw[z];exact PF b u e
   ·exact PF c _ z
def Inv.lock{d:Addr}{u:HO}(I:Inv X pins σ H s)(h:H d=some u)(mu:PD (some u)):∃od,Inv X pins σ (upd H d (.je od u)) s:=by
 have x:=I.hok d u h;have ex:∃od,s.heap.get? d=some od:=by
  cases u with
  |lst xs=>obtain⟨_,_,_,_,e⟩:=x;exact⟨_,e⟩
  |dK kvs=>obtain⟨_,_,_,_,o,_,_,e,_⟩:=x;exact⟨o,e⟩
  |dT kvs=>obtain⟨_,_,_,_,o,_,_,e,_⟩:=x;exact⟨o,e⟩
  |set S n=>obtain⟨o,_,_,_,e,_⟩:=x;exact⟨o,e⟩
  |ins C dx fs=>obtain⟨_,_,_,e,_⟩:=x;exact⟨_,e⟩
  |ext φ=>obtain⟨_,⟨_,e⟩,_⟩:=x;exact⟨_,e⟩
  |_=>exact False.elim mu
 obtain⟨od,e⟩:=ex;have new:fm X.prog X.w (upd H d (.je od u)) s.heap d (.je od u):=by
  refine⟨e,x.stay (λb v _ q=>q) (λb q=>?_) λb xs q=>?_⟩
  ·rw[ai (λz=>by rw[z,h]at q;cases q;exact mu)];exact q
  ·rw[ai (λz=>by rw[z,h]at q;cases q;exact mu)];exact q
 exact⟨od,I.write (x:=d) (e:=d) (t':=s.toks) (h':=s.heap) (by rw[h];exact mu) (.inl rfl) (λb v _ q=>q) ⟨od,e⟩ new⟩
def Inv.Ln{d:Addr}{u:HO}(I:Inv X pins σ H s)(h:H d=some u)(mu:PD (some u)):∀o' u',X.RS d≠some (.je o' u'):=λo' u' e=>by
 have q:=I.base.zV d o' u' e;rw[h]at q;cases q;exact mu
def Inv.unlock{d:Addr}{od:Obj}{u:HO}(I:Inv X pins σ H s)(h:H d=some (.je od u))(hn:∀o' u',X.RS d≠some (.je o' u')):Inv X pins σ (upd H d u) s:=by
 have Ub:∀b o,H b=some o->(∀o' u',o≠ .je o' u')->b≠d:=λb o e hne z=>by
  rw[z,h]at e;cases e;exact hne _ _ rfl
 have neN:∀b,H b=none->b≠d:=λb e z=>by rw[z,h]at e;cases e
 refine⟨I.ok,I.os,I.bare,⟨I.base.keep,I.base.slot,λb o e n hx=>?_,I.base.there,λb xs e=>?_,λb o x e=>?_,λb ps e=>?_⟩,I.loc,I.cell,?_,λx c e=>?_,λp hp=>?_,λb o e=>?_,I.len⟩
 ·rw[ai (neN b (I.base.free b o e n hx))];exact I.base.free b o e n hx
 ·have q:=I.base.tups b xs e;rw[ai (Ub b _ q (λ_ _ z=>nomatch z))];exact q
 ·have q:=I.base.zV b o x e;rw[ai (λz=>by rw[z]at e;exact hn _ _ e)];exact q
 ·obtain⟨m,q⟩:=I.base.DA b ps e;exact⟨m,by rw[ai (Ub b _ q (λ_ _ z=>nomatch z))];exact q⟩
 ·rw[ai (neN _ I.free)];exact I.free
 ·rw[ai (neN c (I.pK x c e))];exact I.pK x c e
 ·obtain⟨e,n,r⟩:=I.pin p hp;exact⟨e,by rw[ai (neN _ n)];exact n,r⟩
 ·by_cases hb:b=d
  ·rw[hb,af]at e;cases e;rw[hb];obtain⟨_,x⟩:=I.hok d _ h;exact x.stay (λc v _ q=>q) (λc q=>by rw[ai (Ub c _ q (λ_ _ z=>nomatch z))];exact q) λc xs q=>by rw[ai (Ub c _ q (λ_ _ z=>nomatch z))];exact q
  ·rw[ai hb]at e;exact(I.hok b o e).stay (λc v _ q=>q) (λc q=>by rw[ai (Ub c _ q (λ_ _ z=>nomatch z))];exact q) λc xs q=>by rw[ai (Ub c _ q (λ_ _ z=>nomatch z))];exact q
end
def Xy(t:TS):TS:=λD σ H=>∃d u,H d=some u/\PD (some u)/\∀od,t ⟨λσ' H'=>H' d=some (.je od u)/\D.nx σ' (upd H' d u),λv H'=>H' d=some (.je od u)/\D.rt v (upd H' d u),λσ' H'=>H' d=some (.je od u)/\D.bk σ' (upd H' d u),λσ' H'=>H' d=some (.je od u)/\D.ct σ' (upd H' d u)⟩ σ (upd H d (.je od u))
section
variable{X:Cx}
def MY{st:Stmt}{t:TS}(h:PS X st t):PS X st (Xy t):=by
 intro pins s σ H D I hw;obtain⟨d,u,hd,mu,hw⟩:=hw;obtain⟨od,I1⟩:=I.lock hd mu;refine cX (h pins s σ _ _ I1 (hw od)) λf s1 q=>?_
 cases f with
 |next=>obtain⟨σ',H',I2,e,q⟩:=q;exact⟨σ',_,I2.unlock e (I.Ln hd mu),q⟩
 |brk=>obtain⟨σ',H',I2,e,q⟩:=q;exact⟨σ',_,I2.unlock e (I.Ln hd mu),q⟩
 |cont=>obtain⟨σ',H',I2,e,q⟩:=q;exact⟨σ',_,I2.unlock e (I.Ln hd mu),q⟩
 |ret v=>obtain⟨x,σ',H',I2,r,e,q⟩:=q;exact⟨x,σ',_,I2.unlock e (I.Ln hd mu),r,q⟩
def yW{tg:Expr}{pins:List (Addr×Obj)}{σ:St}{H:Hp}{s:Shared}{R:It->Hp->Prop}{J:It}{tn:Nat->Heap->Prop}{tk:Nat}(I:Inv X pins σ H s)(o:Obj)
  (T:Turn X.prog X.w X.K tg J [s.heap.objs.size] s.heap.objs.size tn) (st:tn 0 (s.heap.push o)) (q:R J H):YA X pins σ tg R (.ref s.heap.objs.size) {s with heap:=s.heap.push o,toks:=tk}:=by
 refine⟨s.heap.objs.size,[s.heap.objs.size],tn,J,H,rfl,I.kept λb ob e=>eB _ e,T,st,λb hb=>?_,q⟩;have e:b=s.heap.objs.size:=by simpa using hb
 subst e;exact I.Il (bw _) (I.hok.fresh (bw _))
end
noncomputable def P0 (lo c:Int) (n:Nat):It:=⟨λi _=>i<n,λi H x H'=>H'=H/\x=.int (lo+(i:Nat)*c),λi _=>n<=i⟩
def Jy{P:Program}{w:World}{K:W.Frag}{tg:Expr}(it:Addr)(lo c:Int)(n:Nat):Turn P w K tg (P0 lo c n) [it] it (λi h=>IsRangeIter h it (lo+(i:Nat)*c) ((n:Int)-(i:Nat)) c) where
 mem:=by simp
 obj:=λi h st b hb=>by
  have e:b=it:=by simpa using hb
  subst e;exact⟨_,st,λv z=>nomatch z⟩
 keep:=λi h h' st k=>k it (by simp) _ st
 item:=by
  intro X hP hw hK hc i pins s σ H E I hf st hg;subst hP hw hK;obtain⟨f0,f1,f2,f3,f4,f5⟩:=hf it (by simp);have W:=Walks.range (prog:=X.prog) (w:=X.w) (I.ok.hd hc) it lo c n
  refine W.item i s _ _ hg st λv h' tk hv st' kk=>?_
  obtain⟨t,rfl⟩:=hv;have I1:Inv X pins σ H {s with heap:=h',toks:=tk}:=I.turned (λb o hb e=>kk b o (by simpa using hb) e) f0 f1 f3 f4 f5
  exact⟨_,rfl,Bj (s:={s with heap:=h',toks:=tk}) (n:="range_iterator") st' rfl rfl (by decide) ⟨.int (lo+(i:Nat)*c),H,I1,⟨t,rfl⟩,⟨rfl,rfl⟩,st',λb hb=>(hf b hb).1⟩⟩
 done:=by
  intro X hP hw hK hc i pins s σ H E I hf st hg;subst hP hw hK;obtain⟨f0,f1,f2,f3,f4,f5⟩:=hf it (by simp);exact wpAny_pyNext_range_end (I.ok.hd hc) st (by have:n<=i:=hg;omega) λh' eb=>⟨rfl,I.turned (t':=s.toks) (λb o hb e=>eb b o hb e) f0 f1 f3 f4 f5⟩
 self:=λA i s Q E st h=>wpAny_pyIter_rangeiter st h
def Uc(i j c:Int)(n:Nat):Prop:=c≠0/\c.natAbs<1073741824/\Builtin.Range.small i j c=true/\Builtin.Range.rangeSize i j c=n
def Uc.neg{i j:Int}(ha: -(2^62)<=i)(ha':i<2^62)(hb: -(2^62)<=j)(hb':j<2^62):Uc i j (-1) (i-j).toNat:=
 ⟨by decide,by decide,W.small_down ha ha' hb hb',W.rangeSize_downNat i j⟩
def Xz(ta:TA):TI:=λσ H R=>ta σ H λvs H1=>∃(i j c:Int) (n:Nat),vs=[.int i,.int j,.int c]/\Uc i j c n/\R (P0 i c n) H1
section
variable{X:Cx}{tg:Expr}
def vc{a b c:Expr}{ta:TA}{p pos:Pos}(hg:Gl X "range")(hm:X.mg "range" =none)(ha:PA X [a,b,c] ta)
  (hs:starEach [a,b,c] X.env=(false,eval a X.env)::starEach [b,c] X.env:=by rfl) (hpl:(backTo pos (starEach [b,c] X.env)).any (·.1)=false:=by rfl):
  PI X tg (.Call (.Name "range" p) [a,b,c] [] pos) (Xz ta):=by
 intro pins s σ H R I h;refine Call_ (vM I hg hm boot_range (Eb (cX (ha pos pins s σ H _ I h) λus s1 h0=>?_) hs hpl));obtain⟨vs,H1,I1,r1,q1⟩:=h0;obtain⟨i,j,k,n,e,⟨c0,c1,c2,c3⟩,q⟩:=q1;subst e;cases r1 with
 |cons r rr=>
  cases rr with
  |cons r' rr=>
   cases rr with
   |cons r'' rr=>
    cases rr;obtain⟨t,rfl⟩:=r;obtain⟨t',rfl⟩:=r';obtain⟨t'',rfl⟩:=r'';refine call_range_3 c0 ?_ (.inl (PyProof.noPylong_small c1));refine wpAny_pyIter_range (IsRange.new ..) c2 ?_;have I2:Inv X pins σ H1 {s1 with heap:=s1.heap.push {cls:= .type "range",data:= .fields #[.int i t,.int j t',.int k t'']}}:=I1.kept (t':=s1.toks) λb o e=>eB _ e
    refine yW (tk:=s1.toks) I2 _ (Jy _ i k n) ?_ q;have e1:i+((0:Nat):Int)*k=i:=by simp
    have e2:(n:Int)-((0:Nat):Int)=Builtin.Range.rangeSize i j k:=by rw[c3];simp
    show IsRangeIter _ _ (i+((0:Nat):Int)*k) ((n:Int)-((0:Nat):Int)) k
    rw[e1,e2];exact fB _ rfl
end
def w6{lo c:Int}{n:Nat}{g:TG}{tb:TS}{D:Ends}{σ:St}{H:Hp}(Pv:Nat->St->Hp->Prop)(h0:Pv 0 σ H)
  (hs:∀i σ H,i<n->Pv i σ H->g (.int (lo+(i:Nat)*c)) σ H λσ2 H2=>tb {D with nx:=Pv (i+1),ct:=Pv (i+1),bk:=D.nx} σ2 H2) (hd:∀σ H,Pv n σ H->D.nx σ H):
  ∃W:Nat->Nat->St->Hp->Prop,(∃m,W 0 m σ H)/\∀i m σ H,W i m σ H->
   ((P0 lo c n).stop i H/\D.nx σ H)\/((P0 lo c n).go i H/\∃N:St->Hp->Prop,(∀σ' H',N σ' H'->∃m',m'<m/\W (i+1) m' σ' H')/\∀x H',(P0 lo c n).El i H x H'->g x σ H' λσ2 H2=>tb {D with nx:=N,ct:=N,bk:=D.nx} σ2 H2):=by
 refine⟨λi m σ H=>m=n-i/\i<=n/\Pv i σ H,⟨n,by simp,fC _,h0⟩,?_⟩
 rintro i m σ H ⟨rfl,hi,p⟩
 by_cases hlt:i<n
 ·refine .inr ⟨hlt,Pv (i+1),λσ' H' p'=>⟨n-(i+1),by omega,rfl,hlt,p'⟩,λx H' y=>?_⟩;obtain⟨e,y⟩:=y;subst e y;exact hs i σ _ hlt p
 ·have e:i=n:=by omega
  subst e;exact .inl ⟨bw _,hd σ H p⟩
section
variable{X:Cx}{tg:Expr}
end
noncomputable def Vn (x:Str):It:=⟨λi _=>i<x.cps.size,λi H v H'=>H'=H/\∃c,x.cps[i]? =some c/\v=.str ⟨#[c]⟩,λi _=>x.cps.size<=i⟩
def I_{P:Program}{w:World}{K:W.Frag}{tg:Expr}(it:Addr)(x:Str)(t:Tok)(ty:String)(hty:ty= "str_ascii_iterator" \/ty= "str_iterator"):
  Turn P w K tg (Vn x) [it] it (λi h=>h.IsStrIter it ty x t i) where
 mem:=by simp
 obj:=λi h st b hb=>by
  have e:b=it:=by simpa using hb
  subst e;obtain⟨o,e,c,d⟩:=st;exact⟨o,e,λv z=>by rw[d]at z;cases z⟩
 keep:=λi h h' st k=>let⟨o,ho,r⟩:=st;⟨o,k it (by simp) o ho,r⟩
 item:=by
  intro X hP hw hK hc i pins s σ H E I hf st hg;subst hP hw hK;obtain⟨f0,f1,f2,f3,f4,f5⟩:=hf it (by simp);have W:Walks X.prog X.w X.A it [it] [it] x.cps.size (SignAt x) (λi h=>h.IsStrIter it ty x t i):=by
   rcases hty with e|e
   ·rw[e];exact Walks.strAscii (I.ok.hd hc) it x t
   ·rw[e];exact Walks.strWide (I.ok.hd hc) it x t
  have hno: ["enumerate","zip","dict_itemiterator","dict_reverseitemiterator","odict_iterator","itertools.zip_longest","itertools.pairwise"].contains ty=false:=by
   rcases hty with e|e
   ·rw[e];decide
   ·rw[e];decide
  refine W.item i s _ _ hg st λv h' tk hv st' kk=>?_
  obtain⟨c,u,hcx,rfl⟩:=hv;have I1:Inv X pins σ H {s with heap:=h',toks:=tk}:=I.turned (λb o hb e=>kk b o (by simpa using hb) e) f0 f1 f3 f4 f5
  obtain⟨oi,e,cc,dd⟩:=id st';exact⟨_,rfl,Bj (s:={s with heap:=h',toks:=tk}) e cc dd hno ⟨.str ⟨#[c]⟩,H,I1,⟨u,rfl⟩,⟨rfl,c,hcx,rfl⟩,st',λb hb=>(hf b hb).1⟩⟩
 done:=by
  intro X hP hw hK hc i pins s σ H E I hf st hg;subst hP hw hK;obtain⟨f0,f1,f2,f3,f4,f5⟩:=hf it (by simp);have hx:x.cps[i]? =none:=vS hg
  rcases hty with e|e
  ·rw[e]at st;exact wpAny_pyNext_ascii_end (I.ok.hd hc) st hx λh' eb=>⟨rfl,I.turned (t':=s.toks) (λb o hb e=>eb b o hb e) f0 f1 f3 f4 f5⟩
  ·rw[e]at st;exact wpAny_pyNext_wide_end (I.ok.hd hc) st hx λh' eb=>⟨rfl,I.turned (t':=s.toks) (λb o hb e=>eb b o hb e) f0 f1 f3 f4 f5⟩
 self:=λA i s Q E st h=>by
  rcases hty with e|e
  ·rw[e]at st;exact wpAny_pyIter_striter_ascii st h
  ·rw[e]at st;exact wpAny_pyIter_striter_wide st h
def ZS(te:TE):TI:=λσ H R=>te σ H λv H1=>∃x,v=.str x/\R (Vn x) H1
def Vo{X:Cx}{tg e:Expr}{te:TE}(he:PE X e te):PI X tg e (ZS te):=by
 intro pins s σ H R I h;refine cX (he pins s σ H _ I h) λv s1 h0=>?_
 obtain⟨y,H1,I1,r1,x,ex,q⟩:=h0;subst ex;obtain⟨t,rfl⟩:=r1;cases ha:x.cps.all (· < 128)
 ·exact wpAny_pyIter_wide ha (yW (tk:=s1.toks) I1 _ (I_ _ x t "str_iterator" (.inr rfl)) ⟨_,fB _ rfl,rfl,rfl⟩ q)
 ·exact wpAny_pyIter_ascii ha (yW (tk:=s1.toks) I1 _ (I_ _ x t "str_ascii_iterator" (.inl rfl)) ⟨_,fB _ rfl,rfl,rfl⟩ q)
section
variable{prog:Program}{w:World}{A:Around}{E:Value->Shared->Prop}{s:Shared}
def z_{d:Addr}{o:Obj}{es:Array DictEntry}{ep:Nat}{Q:Value->Shared->Prop}(hd:(d==sysModules)=false)(ho:s.heap.get? d=some o)(hc:o.ExactDict)(hdat:o.data=.dict es ep)
  (hQ:Q (.ref s.heap.objs.size) {s with heap:=s.heap.push {cls:= .type "dict_keyiterator",data:= .fields #[.ref d,.int 0 0,.int es.size 0,.int ep 0]}}):
  wpAny (model prog w) A (pyIter (.ref d)) Q E s:=by
 have hT:s.TypeIs (.ref d) "dict":=⟨o,ho,hc.1⟩;refine Fb hT F.slot_dict_iter (pI F.slot_dict_iter hT F.entry_dict_iter ?_ (F.args_dict_iter_1 _));unfold Builtin.«dict.__iter__»;refine aB ?_;unfold Builtin.Dict.dictSlotNone;refine aB (wpAny_notOrdered_dict hT ?_);show wpAny _ _ (pure (Value.ref d)) _ _ s
 refine aP ?_;show wpAny _ _ (Builtin.Dict.showsAll d >>= _) _ _ s
 unfold Builtin.Dict.showsAll;rw[aq (by rw[hd];exact gZ)];refine aB (aP ?_);refine aB (yi ho hdat ?_);refine aB (BU ho hdat ?_);refine aB (yh (aP ⟨_,rfl,"dict_keyiterator",_,⟨_,fB _ rfl,rfl⟩,Ec.lookup,?_⟩));simpa[rawInt]using hQ
def Et{it d:Addr}{i n ep:Nat}{od:Obj}{es:Array DictEntry}{en:DictEntry}{Q:Option Value->Shared->Prop}(hit:s.heap.IsKeyIter it d i n ep)(hod:s.heap.get? d=some od)(Vp:od.data=.dict es ep)
  (hsz:es.size=n) (hx:es[i]? =some en) (hQ:∀h',h'.IsKeyIter it d (i+1) n ep->Heap.SameBut it s.heap h'->Q (some en.key) {s with heap:=h'}):wpAny (model prog w) A (pyNext (.ref it)) Q E s:=by
 obtain⟨o,ho,hc,hd⟩:=id hit;unfold pyNext;refine aB (yz (Eg (name:=Str.ofString "__next__") hit.typeIs Ec
  (pI Ec hit.typeIs F.entry_dict_keyiterator_next ?_ (F.args_dict_keyiterator_next_1 _))))
 refine aB (aP ?_);refine aB ?_;refine aB ?_
 first|refine aB (EY hit.typeIs (aP ?_))|refine aB (E1 hit.typeIs (aP ?_))
 refine aB (Fx ho hd ?_);have hown:Builtin.Dict_items.ownsTuple "dict_keyiterator" =false:=by decide
 simp only[hown,mh,jH];show wpAny _ _ (if(Value.ref d==Value.none)=true then _ else _) _ _ s
 rw[aq (show¬((Value.ref d==Value.none)=true)from gZ)];refine aB (aP ?_);refine aB (yi hod Vp ?_);rw[aq (by rw[hsz];simp)];refine aB (aP ?_);refine aB (BU hod Vp ?_);rw[aq (by simp)];refine aP ?_;obtain⟨hlt',hen⟩:=Array.getElem?_eq_some_iff.mp hx;simp only[show¬((i:Int)< 0)from by omega,jH,dO,rA hlt'];refine aB ?_
 first|refine aB (EY hit.typeIs (aP ?_))|refine aB (E1 hit.typeIs (aP ?_))
 refine aB (wpAny_isOneOf_keyiter hit.typeIs ?_);show wpAny _ _ (setField (.ref it) 1 (rawInt ((i:Int)+1)) >>= _) _ _ s
 refine aB (wpAny_setField ho hd (by simp) ?_);have RI:(s.heap.update it (Obj.mapFields (·.setIfInBounds 1 (rawInt ((i:Int)+1))))).IsKeyIter it d (i+1) n ep:=
  ⟨_,Bg _ ho (Obj.isFreed_of_fields (Obj.data_mapFields hd _)),(Obj.cls_mapFields ..).trans hc,by rw[Obj.data_mapFields hd];simp[rawInt]⟩
 refine aB (su ?_);refine aB (wpAny_isOneOf_keyiter (s:={s with heap:=s.heap.update it (Obj.mapFields (·.setIfInBounds 1 (rawInt ((i:Int)+1))))}) RI.typeIs ?_);show wpAny _ _ (pure es[i].key) _ _ _
 rw[hen];exact aP (aP ⟨_,rfl,aP (hQ _ RI (yo ..))⟩)
def yX{it d:Addr}{i n ep:Nat}{od:Obj}{es:Array DictEntry}{Q:Option Value->Shared->Prop}(hh:A.handled=none)(hit:s.heap.IsKeyIter it d i n ep)(hod:s.heap.get? d=some od)(Vp:od.data=.dict es ep)
  (hsz:es.size=n) (hge:n<=i) (hQ:∀h',Heap.ExtBut it s.heap h'->Q none {s with heap:=h'}):wpAny (model prog w) A (pyNext (.ref it)) Q E s:=by
 obtain⟨o,ho,hc,hd⟩:=id hit;unfold pyNext;refine aB (yz (Eg (name:=Str.ofString "__next__") hit.typeIs Ec
  (pI Ec hit.typeIs F.entry_dict_keyiterator_next ?_ (F.args_dict_keyiterator_next_1 _))))
 refine aB (aP ?_);refine aB ?_;refine aB ?_
 first|refine aB (EY hit.typeIs (aP ?_))|refine aB (E1 hit.typeIs (aP ?_))
 refine aB (Fx ho hd ?_);have hown:Builtin.Dict_items.ownsTuple "dict_keyiterator" =false:=by decide
 simp only[hown,mh,jH];show wpAny _ _ (if(Value.ref d==Value.none)=true then _ else _) _ _ s
 rw[aq (show¬((Value.ref d==Value.none)=true)from gZ)];refine aB (aP ?_);refine aB (yi hod Vp ?_);rw[aq (by rw[hsz];simp)];refine aB (aP ?_);refine aB (BU hod Vp ?_);rw[aq (by simp)];refine aP ?_;have ZT:es.size<=i:=by rw[hsz];exact hge
 simp only[show¬((i:Int)< 0)from by omega,jH,dO,vS ZT];refine aB ?_
 first|refine aB (EY hit.typeIs (aP ?_))|refine aB (E1 hit.typeIs (aP ?_))
 show wpAny _ _ (setField (.ref it) 0 .none >>= _) _ _ s
 refine aB (wpAny_setField ho hd (by simp) ?_);show wpAny _ _ (newExc (.type "StopIteration") [] >>= _) _ _ _
 refine aB ?_;simp only[newExc,newTuple];refine aB (yh ?_ (by size_fits));refine aB (m:=firstArgMember _ _) (wpAny_of_eq (a:=Value.none) (by first|rfl|(simp only[firstArgMember];rfl)) ?_);refine yh ?_ (by size_fits);simp only[raiseNew];refine aB (wpAny_handled ?_);rw[show A.in1.handled=none from hh];refine aB (aP (wpAny_throw ?_));refine aB (sf (T:="StopIteration") (b:=true) ⟨_,fB _ rfl,rfl⟩ isSubtype_stop ?_);exact aP (hQ _ (((yo ..).extBut.push _).push _))
end
def Vq{κ:Type}{kvs:List (κ×V)}{vs:List (κ×Value)}(h:KV kvs vs):∀{i:Nat} {k:κ} {v:V},kvs[i]? =some (k,v)->∃u,vs[i]? =some (k,u)/\RelV v u:=by
 unfold KV at h
 induction h with
 |nil=>intro i k v e;simp at e
 |@cons a b l₁ l₂ r t ih=>
  intro i k v e;cases i with
  |zero=>
   simp only[J4,Option.some.injEq]at e;subst e;refine⟨b.2,?_,r.2⟩;simp only[J4];exact jd some (Prod.ext r.1.symm rfl)
  |succ j=>
   simp only[List.getElem?_cons_succ]at e⊢;exact ih e
def LH{α β:Type}{G:α->β->Prop}{l₁:List α}{l₂:List β}(h:Paired G l₁ l₂):∀{i:Nat} {a:α},l₁[i]? =some a->∃b,l₂[i]? =some b/\G a b:=by
 induction h with
 |nil=>intro i a e;simp at e
 |@cons a b l₁ l₂ r t ih=>
  intro i a' e;cases i with
  |zero=>
   simp only[J4,Option.some.injEq]at e;subst e;exact⟨b,rfl,r⟩
  |succ j=>
   simp only[List.getElem?_cons_succ]at e⊢;exact ih e
def QO{k:Key}{u:Value}(h:vX k u=true):RelV (kV k) u:=by
 rcases fY h with⟨i,t,rfl,rfl⟩|⟨x,t,rfl,rfl⟩
 ·exact⟨t,rfl⟩
 ·exact⟨t,rfl⟩
section
variable{X:Cx}{pins:List (Addr×Obj)}{σ:St}{H:Hp}{s:Shared}{d:Addr}{o:Obj}
def Inv.RJ{kvs:List (Key×V)}(I:Inv X pins σ H s)(h:H d=some (.je o (.dK kvs))):
  (d==sysModules)=false/\s.heap.get? d=some o/\o.ExactDict/\∃(es:Array DictEntry) (ep:Nat) (vs:List (Key×Value)),o.data=.dict es ep/\es.size=kvs.length/\KV kvs vs/\s.heap.DictAt (e_ X.prog X.w) d vs ep:=by
 obtain⟨hd,z,hs,vs,kv,o',es,ep,ho,hx,hdt,r⟩:=I.hok d _ h;rw[hd]at ho;cases ho;refine⟨hs,hd,hx,es,ep,vs,hdt,?_,kv,o,es,hd,hx,hdt,r⟩;have l1:=r.2.1.length
 have l2:kvs.length=vs.length:=vK kv;rw[jo]at l1;omega
def Inv.UH{kvs:List (List Key×V)}(I:Inv X pins σ H s)(h:H d=some (.je o (.dT kvs))):
  (d==sysModules)=false/\s.heap.get? d=some o/\o.ExactDict/\∃(es:Array DictEntry) (ep:Nat),o.data=.dict es ep/\es.size=kvs.length/\
   ∀(i:Nat) (k:List Key) (v:V),kvs[i]? =some (k,v)->∃(en:DictEntry) (q:Addr),es[i]? =some en/\en.key=.ref q/\H q=some (.tup (k.map kV)):=by
 obtain⟨hd,z,hs,xs,pr,o',es,ep,ho,hx,hdt,he,_⟩:=I.hok d _ h;rw[hd]at ho;cases ho;refine⟨hs,hd,hx,es,ep,hdt,?_,λi k v e=>?_⟩
 ·have l1:es.size=xs.length:=size_of_entries he;have l2:kvs.length=xs.length:=vK pr
  omega
 ·obtain⟨b,hb,e1,e2,_⟩:=LH pr e;have q:=entry_at he i
  rw[hb]at q;exact⟨_,b.2.1,q,rfl,e2⟩
end
noncomputable def Ud (d:Addr) (o:Obj) (kvs:List (Key×V)):It:=
 ⟨λi H=>H d=some (.je o (.dK kvs))/\i<kvs.length,λi H x H'=>H'=H/\∃k v,kvs[i]? =some (k,v)/\x=kV k,λi H=>H d=some (.je o (.dK kvs))/\kvs.length<=i⟩
noncomputable def WB (d:Addr) (o:Obj) (kvs:List (List Key×V)):It:=
 ⟨λi H=>H d=some (.je o (.dT kvs))/\i<kvs.length,λi H x H'=>H'=H/\∃(k:List Key) (v:V) (q:Addr),kvs[i]? =some (k,v)/\x=.ref q/\H q=some (.tup (k.map kV)),λi H=>H d=some (.je o (.dT kvs))/\kvs.length<=i⟩
def Bw{o:Obj}{es es':Array DictEntry}{ep u9:Nat}(h:o.data=.dict es ep)(h':o.data=.dict es' u9):es'=es/\u9=ep:=by
 rw[h]at h';cases h';exact⟨rfl,rfl⟩
section
variable{P:Program}{w:World}{K:W.Frag}{tg:Expr}{d:Addr}{o:Obj}{es:Array DictEntry}{ep:Nat}
def F6{kvs:List (Key×V)}(it:Addr)(hod:o.data=.dict es ep):Turn P w K tg (Ud d o kvs) [it] it (λi h=>h.IsKeyIter it d i kvs.length ep) where
 mem:=by simp
 obj:=λi h st b hb=>by
  have e:b=it:=by simpa using hb
  subst e;obtain⟨oi,e,c,dd⟩:=st;exact⟨oi,e,λv z=>by rw[dd]at z;cases z⟩
 keep:=λi h h' st k=>st.at λoi e=>k it (by simp) oi e
 item:=by
  intro X hP hw hK hc i pins s σ H E I hf st hg;subst hP hw hK;obtain⟨hd,hi⟩:=hg;obtain⟨f0,f1,f2,f3,f4,f5⟩:=hf it (by simp);obtain⟨hs,hgd,hx,es',u9,vs,hdt,hsz,kv,hm⟩:=I.RJ hd;obtain⟨rfl,rfl⟩:=Bw hod hdt;obtain⟨⟨k,v⟩,hkv⟩:∃p,kvs[i]? =some p:=⟨kvs[i],iw hi⟩;obtain⟨u,hu,ru⟩:=Vq kv hkv;have hl:kvs.length=vs.length:=vK kv
  rw[hl]at st;refine wpAny_pyNext_dict_item st hm hu λkey h' hkey st' sb=>?_
  have I1:Inv X pins σ H {s with heap:=h'}:=I.turned (t':=s.toks) (λb ob hb e=>(sb.2 b hb).trans e) f0 f1 f3 f4 f5;obtain⟨oi,e,c,dd⟩:=id st';refine⟨key,rfl,Bj (s:={s with heap:=h'}) e c dd (by decide) ⟨kV k,H,I1,QO (show vX k key=true from hkey),⟨rfl,k,v,hkv,rfl⟩,?_,λb hb=>(hf b hb).1⟩⟩;show h'.IsKeyIter it d (i+1) kvs.length _
  rw[hl];exact st'
 done:=by
  intro X hP hw hK hc i pins s σ H E I hf st hg;subst hP hw hK;obtain⟨hd,hi⟩:=hg;obtain⟨f0,f1,f2,f3,f4,f5⟩:=hf it (by simp);obtain⟨hs,hgd,hx,es',u9,vs,hdt,hsz,kv,hm⟩:=I.RJ hd;obtain⟨rfl,rfl⟩:=Bw hod hdt;exact yX (I.ok.hd hc) st hgd hdt hsz hi λh' eb=>⟨rfl,I.turned (t':=s.toks) (λb ob hb e=>eb b ob hb e) f0 f1 f3 f4 f5⟩
 self:=λA i s Q E st h=>wpAny_pyIter_keyiter st h
def LI{kvs:List (List Key×V)}(it:Addr)(hod:o.data=.dict es ep):Turn P w K tg (WB d o kvs) [it] it (λi h=>h.IsKeyIter it d i kvs.length ep) where
 mem:=by simp
 obj:=λi h st b hb=>by
  have e:b=it:=by simpa using hb
  subst e;obtain⟨oi,e,c,dd⟩:=st;exact⟨oi,e,λv z=>by rw[dd]at z;cases z⟩
 keep:=λi h h' st k=>st.at λoi e=>k it (by simp) oi e
 item:=by
  intro X hP hw hK hc i pins s σ H E I hf st hg;subst hP hw hK;obtain⟨hd,hi⟩:=hg;obtain⟨f0,f1,f2,f3,f4,f5⟩:=hf it (by simp);obtain⟨hs,hgd,hx,es',u9,hdt,hsz,ent⟩:=I.UH hd;obtain⟨rfl,rfl⟩:=Bw hod hdt;obtain⟨⟨k,v⟩,hkv⟩:∃p,kvs[i]? =some p:=⟨kvs[i],iw hi⟩;obtain⟨en,q,hen,hkey,hq⟩:=ent i k v hkv;refine Et st hgd hdt hsz hen λh' st' sb=>?_
  have I1:Inv X pins σ H {s with heap:=h'}:=I.turned (t':=s.toks) (λb ob hb e=>(sb.2 b hb).trans e) f0 f1 f3 f4 f5;obtain⟨oi,e,c,dd⟩:=id st';exact⟨en.key,rfl,Bj (s:={s with heap:=h'}) e c dd (by decide) ⟨.ref q,H,I1,hkey,⟨rfl,k,v,q,hkv,rfl,hq⟩,st',λb hb=>(hf b hb).1⟩⟩
 done:=by
  intro X hP hw hK hc i pins s σ H E I hf st hg;subst hP hw hK;obtain⟨hd,hi⟩:=hg;obtain⟨f0,f1,f2,f3,f4,f5⟩:=hf it (by simp);obtain⟨hs,hgd,hx,es',u9,hdt,hsz,ent⟩:=I.UH hd;obtain⟨rfl,rfl⟩:=Bw hod hdt;exact yX (I.ok.hd hc) st hgd hdt hsz hi λh' eb=>⟨rfl,I.turned (t':=s.toks) (λb ob hb e=>eb b ob hb e) f0 f1 f3 f4 f5⟩
 self:=λA i s Q E st h=>by
  refine Fb st.typeIs F.slot_dict_keyiterator_iter (pI F.slot_dict_keyiterator_iter st.typeIs F.entry_dict_keyiterator_iter ?_ (F.args_dict_keyiterator_iter_1 _));show wpAny _ _ (ret (.ref it)) _ _ s
  exact aP ⟨_,rfl,"dict_keyiterator",_,st.typeIs,Ec.lookup,h⟩
end
def XA(td:TE):TI:=λσ H R=>td σ H λx H1=>∃d o,x=.ref d/\((∃kvs,H1 d=some (.je o (.dK kvs))/\R (Ud d o kvs) H1)\/∃kvs,H1 d=some (.je o (.dT kvs))/\R (WB d o kvs) H1)
section
variable{X:Cx}{tg e:Expr}{td:TE}{apos cpos:Pos}
def MZ(he:PE X e td):PI X tg e (XA td):=by
 intro pins s σ H R I h;refine cX (he pins s σ H _ I h) λu s1 h0=>?_
 obtain⟨x,H1,I1,rx,d,o,ex,q⟩:=h0;subst ex;obtain rfl:u=Value.ref d:=rx;rcases q with⟨kvs,hd,q⟩|⟨kvs,hd,q⟩
 ·obtain⟨hs,hgd,hx,es,ep,vs,hdt,hsz,kv,hm⟩:=I1.RJ hd;refine z_ hs hgd hx hdt (yW (tk:=s1.toks) I1 _ (F6 _ hdt) ⟨_,fB _ rfl,rfl,?_⟩ q);rw[hsz]<;>rfl
 ·obtain⟨hs,hgd,hx,es,ep,hdt,hsz,ent⟩:=I1.UH hd;refine z_ hs hgd hx hdt (yW (tk:=s1.toks) I1 _ (LI _ hdt) ⟨_,fB _ rfl,rfl,?_⟩ q);rw[hsz]<;>rfl
end
noncomputable def Vr (K:W.Frag) (a:Addr):It:=
 ⟨λi H=>∃(xs:List V) (x:V),aX K H a xs/\xs[i]? =some x,λi H v H'=>∃T x,v=.ref T/\H T=none/\H'=upd H T (.tup [.int (i:Nat),x])/\∀xs,aX K H a xs->xs[i]? =some x,λi H=>∃xs:List V,aX K H a xs/\xs.length<=i⟩
def N9{P:Program}{w:World}{K:W.Frag}{elts:List Expr}{kk:Nat}{tpos:Pos}(a e it:Addr):
  Turn P w K (.Tuple elts kk tpos) (Vr K a) [e,it] e (λi h=>(∃old,IsEnum h e it ((i:Nat):Int) old)/\h.IsListIter it a i/\e≠it) where
 mem:=by simp
 obj:=λi h st b hb=>by
  obtain⟨⟨old,he⟩,⟨o,ho,hc,hd⟩,_⟩:=st;have e':b=e\/b=it:=by simpa using hb
  rcases e' with z|z
  ·rw[z];exact⟨_,he,λv q=>nomatch q⟩
  ·rw[z];exact⟨o,ho,λv q=>by rw[hd]at q;cases q⟩
 keep:=λi h h' st k=>let⟨⟨old,he⟩,hi,hne⟩:=st;⟨⟨old,k e (by simp) _ he⟩,hi.at λo q=>k it (by simp) o q,hne⟩
 item:=by
  intro X hP hw hK hc i pins s σ H E I hf st hg;subst hP hw hK;obtain⟨⟨old,he⟩,hit,hne⟩:=st;obtain⟨xs,x,hq,hx⟩:=hg;obtain⟨its,rv,p,hz⟩:=I.list hq;obtain⟨u,hu,ru⟩:=rv.get hx;have hel:e<s.heap.objs.size:=cC he
  have hil:it<s.heap.objs.size:=by obtain⟨_,q,_⟩:=hit;exact cC q
  refine wpAny_pyNext_enum_item he hit p.isList (x:=u) (by simpa using hu) hne λh' ho RI hT hsz hk=>?_
  refine⟨_,rfl,wpAny_letOwnedTupleGo_enum (s:={s with heap:=h',toks:=s.toks+1}) ho λh'' he' sb=>?_⟩;have hT2:h''.get? s.heap.objs.size=some {cls:= .type "tuple",data:= .seq #[.int i s.toks,u]}:=(sb.2 _ (o7 hel)).trans hT
  have new:fm X.prog X.w (upd H s.heap.objs.size (.tup [.int (i:Nat),x])) h'' s.heap.objs.size (.tup [.int (i:Nat),x]):=
   ⟨by show 2<=sizeLine;decide,[.int i s.toks,u],.cons ⟨_,rfl⟩ (.cons ru .nil),⟨_,hT2,rfl,_,rfl⟩⟩
  have I1:Inv X pins σ (upd H s.heap.objs.size (.tup [.int (i:Nat),x])) {s with heap:=h'',toks:=s.toks+1}:=
   I.F4 (ch:=[e,it]) (λb ob hb q=>(sb.2 b (λz=>hb (by simp[z]))).trans (hk b ob (λz=>hb (by simp[z])) (λz=>hb (by simp[z])) q)) hf (bw _) new
  refine⟨.ref s.heap.objs.size,_,I1,rfl,⟨_,x,rfl,I.hok.fresh (bw _),rfl,λys hy=>by rw[I.CS hy hq];exact hx⟩,⟨⟨u,?_⟩,RI.at λo q=>(sb.2 it (mC hne)).trans q,hne⟩,λb hb=>?_⟩
  ·have e1:((i+1:Nat):Int)=(i:Int)+1:=by omega
   rw[e1];exact he'
  ·have hb':b<s.heap.objs.size:=by
    have e':b=e\/b=it:=by simpa using hb
    rcases e' with z|z
    ·rw[z];exact hel
    ·rw[z];exact hil
   rw[ai (iG hb')];exact(hf b hb).1
 done:=by
  intro X hP hw hK hc i pins s σ H E I hf st hg;subst hP hw hK;obtain⟨⟨old,he⟩,hit,hne⟩:=st;obtain⟨xs,hq,hx⟩:=hg;obtain⟨its,rv,p,hz⟩:=I.list hq;obtain⟨f0,f1,f2,f3,f4,f5⟩:=hf it (by simp);have hl:=rv.length
  exact wpAny_pyNext_enum_end (I.ok.hd hc) he hit p.isList (by simp;omega) λh' eb=>⟨rfl,I.turned (t':=s.toks) (λb o hb q=>eb b o hb q) f0 f1 f3 f4 f5⟩
 self:=λA i s Q E st h=>let⟨⟨_,he⟩,_⟩:=st;wpAny_pyIter_enum he h
def XC(K:W.Frag)(ta:TA):TI:=λσ H R=>ta σ H λvs H1=>∃a xs,vs=[.ref a]/\aX K H1 a xs/\R (Vr K a) H1
def SV{X:Cx}{e:Expr}{ta:TA}{p pos tpos:Pos}{elts:List Expr}{kk:Nat}(hg:Gl X "enumerate")(hm:X.mg "enumerate" =none)(ha:PA X [e] ta)(hs:starEach [e] X.env=[(false,eval e X.env)]:=by rfl):
  PI X (.Tuple elts kk tpos) (.Call (.Name "enumerate" p) [e] [] pos) (XC X.K ta):=by
 intro pins s σ H R I h;refine Call_ (vM I hg hm boot_enumerate (Eb (cX (ha pos pins s σ H _ I h) λus s1 h0=>?_) hs rfl));obtain⟨vs,H1,I1,r1,q1⟩:=h0;obtain⟨a,xs,ex,hq,q⟩:=q1;subst ex;cases r1 with
 |cons r rr=>
  cases rr;cases r;obtain⟨its,rv,p',hz⟩:=I1.list hq;refine call_enumerate_list p'.isList λh' he hit hsz hk=>wpAny_pyIter_enum he ?_
  have I2:Inv X pins σ H1 {s1 with heap:=h'}:=I1.kept (t':=s1.toks) hk;refine⟨s1.heap.objs.size+1,[s1.heap.objs.size+1,s1.heap.objs.size],_,_,H1,rfl,I2,N9 a (s1.heap.objs.size+1) s1.heap.objs.size,⟨⟨.none,he⟩,hit,Nat.succ_ne_self _⟩,λb hb=>?_,q⟩;have e':b=s1.heap.objs.size+1\/b=s1.heap.objs.size:=by simpa using hb
  have hle:s1.heap.objs.size<=b:=by
   rcases e' with z|z
   ·rw[z];exact BR _ _
   ·rw[z];exact bw _
  exact I1.Il hle (I1.hok.fresh hle)
def N_:bootBuiltins "zip" =some (.type "zip"):=by decide +kernel
end L2
section
namespace ZU
open PySem PyProof.Rows
end ZU
end
section
namespace TL
open PySem PySem.Builtin PySem.Builtin.Str PySem.StrLaws
end TL
end
namespace L2
open PySem PySem.Spec PyProof.Rows
section
variable{X:Cx}{pins:List (Addr×Obj)}{σ:St}{H:Hp}{s:Shared}{Q:VK}
end
section
variable{X:Cx}
end
section
variable{X:Cx}{o e:Expr}{to te:TE}
end
section
variable{X:Cx}
def LJ:vN X (compareOp .In) (λx y H Q=>∃(c:Nat) (z:Str),x=.str ⟨#[c]⟩/\y=.str z/\Q (.bl (decide (c∈z.cps.toList))) H):=by
 intro pins s σ H x y v u Q I rx ry h;obtain⟨c,z,rfl,rfl,q⟩:=h;obtain⟨t,rfl⟩:=rx;obtain⟨t',rfl⟩:=ry;exact PyProof.Rows.in_str (dZ I q (PySem.StrLaws.found_one z c).symm)
end
end L2
namespace Att
open PySem PySem.W PySem.Calls PyProof.Rows
section
variable{prog:Program}{w:World}{A:Around}{E:Value->Shared->Prop}{s:Shared}{K:Frag}
end
end Att
namespace L2
open PySem PySem.Spec PyProof.Rows
end L2
namespace L2
open PySem PySem.Spec PyProof.Rows
noncomputable def inClass (s:Stmt) (j:Nat):Stmt:=match s with
 | .ClassDef _ _ _ body _ _ _ _ _ _ _=>body.getD j (.Pass ⟨0,0,0,0⟩)
 |_=>.Pass ⟨0,0,0,0⟩
noncomputable def qO (s:Stmt):Arguments:=match s with
 | .FunctionDef _ a _ _ _ _ _ _ _ _=>a
 |_=>{posonlyargs:=[],args:=[],vararg:=none,kwonlyargs:=[],kw_defaults:=[],kwarg:=none,defaults:=[]}
noncomputable def o_ (s:Stmt):List Stmt:=match s with
 | .FunctionDef _ _ b _ _ _ _ _ _ _=>b
 |_=>[]
noncomputable def fP (s:Stmt):Scope:=match s with
 | .FunctionDef _ _ _ _ _ _ sc _ _ _=>sc
 |_=>{kind:= .function,names:=[],isGenerator:=false,isCoroutine:=false}
abbrev cR:FT:=λ_ _ _ _ _ _=>False
abbrev E0:XK:=λ_ _ _=>False
def aA{X:Cx}:Passes cR X E0:=λ_ _ _ _ _ _ _ h=>h.elim
structure RY(K:W.Frag)(x qual:Str)(st:Stmt)(f:Addr)(fd:FuncData):Prop where
 ex:∃(oc:Value) (od:Option Addr) (kV doc pm:Value) (an:Option Addr) (cdv ct:Value) (osl:Array (Option Value)),
  fd=W.fnOf x qual (qO st) (o_ st) (fP st) .none kV doc pm an cdv ct/\K.lookup f=some ⟨oc,od,.func fd,osl⟩/\W.codeIn K cdv qual=true
 kp:W.keepIn K (.ref f)=true
section
variable{P:Program}{w:World}{K:W.Frag}{mg:Str->Option Value}{base:Heap}
def RY.ok{x qual:Str}{st:Stmt}{f:Addr}{fd:FuncData}{N ps:List Str}{k:Nat}{sp:Sp}(F:RY K x qual st f fd)(S:Bt N ps (fP st))(len:∀vs H Q E,sp vs H Q E->vs.length=ps.length)
  (hbody:∀(cdv:Value) (A:Around) (outer:List Env) (s:Shared) (H:Hp) (vs:List V) (Q:VK) (E:XK),jS k (A.deeper (envOfC qual (fP st) s.heap.objs.size f cdv))->sp vs H Q E->
   ∃t,GW (Li cR P w K mg base N qual (fP st) f cdv A outer s H E).Wi (o_ st) t/\t {nx:=λ_ H'=>Q .gq H',rt:=Q} (start N vs) H):aT P w K mg base cR (k+1) f fd ps sp:=by
 obtain⟨oc,od,kV,doc,pm,an,cdv,ct,osl,rfl,lk,hcd⟩:=F.ex;refine Xp lk hcd S len λA outer s H vs Q E hr MS=>?_
 obtain⟨t,h,q⟩:=hbody cdv A outer s H vs Q E hr MS;exact⟨t,h.Wi,q⟩
def RY.binds{x qual:Str}{st:Stmt}{f:Addr}{fd:FuncData}{ps:List Str}(F:RY K x qual st f fd)
  (h:∀(kV doc pm:Value) (an:Option Addr) (cdv ct:Value) (us:List Value),us.length=ps.length->bindArgs (W.fnOf x qual (qO st) (o_ st) (fP st) .none kV doc pm an cdv ct) ⟨us,[]⟩=pure (ps.zip us)):Binds K fd ps []:=by
 obtain⟨oc,od,kV,doc,pm,an,cdv,ct,osl,rfl,lk,hcd⟩:=F.ex;exact .all (h kV doc pm an cdv ct)
def F7{x qual:Str}{st:Stmt}{f:Addr}{oc:Value}{od an:Option Addr}{osl:Array (Option Value)}{kV doc pm cdv ct:Value}(l:K.lookup f=some ⟨oc,od,.func (W.fnOf x qual (qO st) (o_ st) (fP st) .none kV doc pm an cdv ct),osl⟩)
  (c:W.codeIn K cdv qual=true) (k:W.keepIn K (.ref f)=true):RY K x qual st f (W.fnOf x qual (qO st) (o_ st) (fP st) .none kV doc pm an cdv ct):=⟨⟨oc,od,kV,doc,pm,an,cdv,ct,osl,rfl,l,c⟩,k⟩
end
def nY{A:Around}{k:Nat}(hr:jS k A):A.units+1<cLine:=tU (Nat.add_le_add_left (by decide:1<=64) _) hr.units
section
variable{X:Cx}
def pv(i:Nat){x:Str}{pos:Pos}(hN:X.N[i]? =some x:=by rfl)(hv:RT X.env.scope x:=by first|exact Or.inl rfl|exact Or.inr (Or.inl rfl)|exact Or.inr (Or.inr rfl))(hd:(x==("__debug__":Str))=false:=by decide)
  (hcd:(x==("__classdict__":Str))=false:=by decide):PE X (.Name x pos) (l9 i):=PJ hN hv hd hcd
def vd:qp X (.builtin "len") (λxs H Q=>∃a kvs,xs=[V.ref a]/\H a=some (.dK kvs)/\Q (.int kvs.length) H):=by
 intro pins s σ H xs us Q I r h;obtain⟨a,kvs,rfl,ha,q⟩:=h;obtain⟨u,rfl,ru⟩:=vals1 r;cases ru;exact Xs I (.inl ha) λt s' I'=>⟨.int kvs.length,H,I',⟨t,rfl⟩,q⟩
end
def fu{A B:Prop}(h:B):if false=true then A else B:=by
 rw[aq gZ];exact h
def dF{A B:Prop}(h:A):if true=true then A else B:=by
 rw[ay rfl];exact h
def az(H H':Hp):Prop:=∀b o,H b=some o->H' b=some o
def az.refl(H:Hp):az H H:=λ_ _ h=>h
def az.trans{H H1 H2:Hp}(a:az H H1)(b:az H1 H2):az H H2:=λc o h=>b c o (a c o h)
def az.free{H H':Hp}(e:az H H'){l:Addr}(h:H' l=Option.none):H l=Option.none:=by
 cases q:H l with
 |none=>rfl
 |some o=>
  rw[e l o q]at h;cases h
section
variable{κ:Type} [DecidableEq κ]
def F8{p:κ×V}{r:List (κ×V)}{k:κ}(e:p.1=k):j5 (p::r) k=j5 r k:=by
 unfold j5;rw[kP,aq (by simp[e])]
def F9{p:κ×V}{r:List (κ×V)}{k:κ}(e:¬p.1=k):j5 (p::r) k=p::j5 r k:=by
 unfold j5;rw[kP,ay (by simp[e])]
end
end L2
section
namespace L2
open PySem PySem.Spec PyProof.Rows
open PySem.W (WData Codec OpenSpec Well WellAll ReadsW ReadsAllW)
mutual
inductive Dw(K:W.Frag)(H:Hp):V->WData->Prop
 |gq:Dw K H .gq .none
 |bl (b:Bool):Dw K H (.bl b) (.bool b)
 |int (i:Int):Dw K H (.int i) (.int i)
 |str (x:Str):Dw K H (.str x) (.str x)
 |B0 (b:Array UInt8):Dw K H (.B0 b) (.bytes b.toList)
 |lst {a:Addr} {xs:List V} {ds:List WData}:aX K H a xs->qu K H xs ds->Dw K H (.ref a) (.list ds)
 |tup {a:Addr} {xs:List V} {ds:List WData}:mW K H a xs->qu K H xs ds->Dw K H (.ref a) (.tuple ds)
inductive qu(K:W.Frag)(H:Hp):List V->List WData->Prop
 |nil:qu K H [] []
 |cons {v:V} {vs:List V} {d:WData} {ds:List WData}:Dw K H v d->qu K H vs ds->qu K H (v::vs) (d::ds)
end
theorem M0{K:W.Frag}{H:Hp}:∀ns:List Int,qu K H (ns.map V.int) (ns.map WData.int)
 | []=>.nil
 |n::r=>.cons (.int n) (M0 r)
theorem M3{K:W.Frag}{H:Hp}:∀(ns:List Int) (xs:List V),qu K H xs (ns.map WData.int)->xs=ns.map V.int
 | [],xs,h=>by
  cases h;rfl
 |n::r,xs,h=>by
  cases h with
  |cons h1 h2=>
   cases h1;rw[M3 r _ h2]<;>rfl
section
variable{P:Program}{w:World}{K:W.Frag}{H:Hp}{h:Heap}{R:W.WRecords}{cl:Str->Option Addr}
def Vt{a:Addr}{xs:List V}(hok:mV P w H h)(KX:K.In h)(q:aX K H a xs):∃(its:List Value) (o:Obj) (n:Nat),Vals xs its/\h.get? a=some o/\o.cls=.type "list" /\o.data=.seq its.toArray n:=by
 rcases q with q|⟨o,its,n,e,hc,_,hd,_,hv⟩
 ·obtain⟨_,its,n,hv,e⟩:=(show fm P w H h a (.lst xs)from q.ok hok);exact⟨its,_,n,hv,e,rfl,rfl⟩
 ·exact⟨its.toList,o,n,hv,KX _ _ e,hc,by simp[hd]⟩
def Vu{a:Addr}{xs:List V}(hok:mV P w H h)(KX:K.In h)(q:mW K H a xs):∃(its:List Value) (o:Obj) (n:Nat),Vals xs its/\h.get? a=some o/\o.cls=.type "tuple" /\o.data=.seq its.toArray n:=by
 rcases q with q|⟨o,its,n,e,hc,hd,_,hv⟩
 ·obtain⟨_,its,hv,o,e,hc,n,hd⟩:=(show fm P w H h a (.tup xs)from q.ok hok);exact⟨its,o,n,hv,e,hc,hd⟩
 ·exact⟨its.toList,o,n,hv,KX _ _ e,hc,by simp[hd]⟩
mutual
theorem Dw.reads(hok:mV P w H h)(KX:K.In h):∀(d:WData) (v:V) (u:Value),Dw K H v d->RelV v u->∃as,ReadsW R cl h u d as
 | .none,_,_,x,r=>by
  cases x;cases r;exact⟨_,ReadsW.none⟩
 | .bool b,_,_,x,r=>by
  cases x;cases r;exact⟨_,ReadsW.bool b⟩
 | .int i,_,_,x,r=>by
  cases x;obtain⟨t,rfl⟩:=r;exact⟨_,ReadsW.int i t⟩
 | .str s,_,_,x,r=>by
  cases x;obtain⟨t,rfl⟩:=r;exact⟨_,ReadsW.str s t⟩
 | .bytes b,_,_,x,r=>by
  cases x;obtain⟨t,rfl⟩:=r;exact⟨_,ReadsW.bytes _ t⟩
 | .list ds,_,_,x,r=>by
  cases x with
  |lst hs ha=>
   cases r;obtain⟨its,o,n,rv,ho,hc,hd⟩:=Vt hok KX hs;obtain⟨as,hr⟩:=Dw.readsAll hok KX ds _ its ha rv;exact⟨_,ReadsW.list ho hc hd hr⟩
 | .tuple ds,_,_,x,r=>by
  cases x with
  |tup hs ha=>
   cases r;obtain⟨its,o,n,rv,ho,hc,hd⟩:=Vu hok KX hs;obtain⟨as,hr⟩:=Dw.readsAll hok KX ds _ its ha rv;exact⟨_,ReadsW.tuple ho hc hd hr⟩
 | .float _,_,_,x,_=>by cases x
 | .dict _,_,_,x,_=>by cases x
 | .bytearray _,_,_,x,_=>by cases x
 | .set _,_,_,x,_=>by cases x
 | .frozenset _,_,_,x,_=>by cases x
 | .obj _ _,_,_,x,_=>by cases x
theorem Dw.readsAll(hok:mV P w H h)(KX:K.In h):∀(ds:List WData) (vs:List V) (us:List Value),qu K H vs ds->Vals vs us->∃as,ReadsAllW R cl h us ds as
 | [],_,_,x,r=>by
  cases x;cases r;exact⟨_,ReadsAllW.nil⟩
 |d::ds,_,_,x,r=>by
  cases x with
  |cons h1 h2=>
   cases r with
   |cons r1 r2=>
    obtain⟨as,q1⟩:=Dw.reads hok KX d _ _ h1 r1;obtain⟨bs,q2⟩:=Dw.readsAll hok KX ds _ _ h2 r2;exact⟨_,ReadsAllW.cons q1 q2⟩
end
end
mutual
noncomputable def F_:WData->Bool
 | .none=>true
 | .bool _=>true
 | .int _=>true
 | .str _=>true
 | .bytes _=>true
 | .list xs=>x_ xs
 | .tuple xs=>x_ xs
 |_=>false
noncomputable def x_:List WData->Bool
 | []=>true
 |x::r=>F_ x&&x_ r
end
theorem Ja{α:Type}{f:α->WData}(h:∀a,F_ (f a)=true):∀l:List α,x_ (l.map f)=true
 | []=>rfl
 |x::r=>by
  show(F_ (f x)&&x_ (r.map f))=true
  rw[h x,Ja h r]<;>rfl
theorem sM:∀(c:Codec) (a:c.denote),F_ (c.enc a)=true
 | .unit,_=>rfl
 | .bool,_=>rfl
 | .int _ _,_=>rfl
 | .nat _ _,_=>rfl
 | .u8,_=>rfl
 | .bytes _ _,_=>rfl
 | .text _ _ _ _,_=>rfl
 | .list _ _ c,a=>Ja (λx=>sM c x) a
 | .pair c d,a=>by
  show(F_ (c.enc a.1)&&(F_ (d.enc a.2)&&true))=true
  rw[sM c a.1,sM d a.2]<;>rfl
 | .triple c d e,a=>by
  show(F_ (c.enc a.1)&&(F_ (d.enc a.2.1)&&(F_ (e.enc a.2.2)&&true)))=true
  rw[sM c a.1,sM d a.2.1,sM e a.2.2]<;>rfl
 | .option c,none=>rfl
 | .option c,some x=>sM c x
theorem Ga:∀(cs:List Codec) (a:Codec.denoteAll cs),x_ (Codec.encAll cs a)=true
 | [],_=>rfl
 |c::cs,a=>by
  show(F_ (c.enc a.1)&&x_ (Codec.encAll cs a.2))=true
  rw[sM c a.1,Ga cs a.2]<;>rfl
theorem w9:∀{xs:List WData} {d:WData},d∈xs->d.weight<=WData.weightAll xs
 | [],d,h=>absurd h (by simp)
 |x::r,d,h=>by
  show d.weight<=x.weight+1+WData.weightAll r
  rcases bN.mp h with e|m
  ·rw[e];omega
  ·have z:=w9 m;omega
noncomputable def toV:Value->V
 | .none=>.gq
 | .bool b=>.bl b
 | .int i _=>.int i
 | .str x _=>.str x
 | .bytes b _=>.B0 b
 | .ref a=>.ref a
 |_=>.gq
def G7(A:List Addr):Value->Prop
 | .none=>True
 | .bool _=>True
 | .int _ _=>True
 | .str _ _=>True
 | .bytes _ _=>True
 | .ref a=>a∈A
 |_=>False
def G7.mono{A B:List Addr}(h:∀a∈A,a∈B):∀{u:Value},G7 A u->G7 B u:=λ{u} x=>by
 cases u with
 |ref a=>exact h a x
 |none=>trivial
 |bool b=>trivial
 |int i t=>trivial
 |str s t=>trivial
 |bytes b t=>trivial
 |_=>exact False.elim x
def QS{A:List Addr}{u:Value}(x:G7 A u):RelV (toV u) u:=by
 cases u with
 |ref a=>rfl
 |none=>rfl
 |bool b=>rfl
 |int i t=>exact⟨t,rfl⟩
 |str s t=>exact⟨t,rfl⟩
 |bytes b t=>exact⟨t,rfl⟩
 |_=>exact False.elim x
theorem qv{A:List Addr}:∀{vs:List Value},(∀u∈vs,G7 A u)->Vals (vs.map toV) vs
 | [],_=>.nil
 |u::r,h=>.cons (QS (h u (bU ..))) (qv λx hx=>h x (cP _ hx))
def qw(h:Heap)(A:List Addr)(a:Addr):Prop:=∃vs:List Value,vs.length<=sizeLine/\(∀u∈vs,G7 A u)/\
 (h.get? a=some {cls:= .type "list",data:= .seq vs.toArray}\/h.get? a=some {cls:= .type "tuple",data:= .seq vs.toArray})
theorem qw.mono{h:Heap}{A B:List Addr}{a:Addr}(k:∀a∈A,a∈B)(x:qw h A a):qw h B a:=by
 obtain⟨vs,h1,h2,h3⟩:=x;exact⟨vs,h1,λu hu=>(h2 u hu).mono k,h3⟩
theorem pR{P:Params}{h:Heap}:∀{vs:List Value} {ds:List WData},WellAll P h vs ds->vs.length=ds.length
 |_,_,.nil=>rfl
 |_,_,.cons _ b=>by
  show _+1=_+1
  rw[pR b]
def Gb{P:Params}{h:Heap}{v:Value}{ds:List WData}(x:Well P h v (.list ds)):∃(a:Addr) (vs:List Value),v=.ref a/\h.get? a=some {cls:= .type "list",data:= .seq vs.toArray}/\WellAll P h vs ds:=by
 cases x with
 |list ho hall=>exact⟨_,_,rfl,ho,hall⟩
def Dk{P:Params}{h:Heap}{v:Value}{ds:List WData}(x:Well P h v (.tuple ds)):∃(a:Addr) (vs:List Value),v=.ref a/\h.get? a=some {cls:= .type "tuple",data:= .seq vs.toArray}/\WellAll P h vs ds:=by
 cases x with
 |tuple ho hall=>exact⟨_,_,rfl,ho,hall⟩
def Gd{P:Params}{h:Heap}{us:List Value}{d:WData}{ds:List WData}(x:WellAll P h us (d::ds)):∃(v:Value) (vs:List Value),us=v::vs/\Well P h v d/\WellAll P h vs ds:=by
 cases x with
 |cons a b=>exact⟨_,_,rfl,a,b⟩
def M4{n:Nat}(h:n<=1048576):n<=sizeLine:=gz h (by decide)
section
variable{P:Params}{h:Heap}
mutual
theorem QT:∀(d:WData) (v:Value),Well P h v d->F_ d=true->d.weight<=1048576->∃A:List Addr,G7 A v/\∀a∈A,qw h A a
 | .none,_,x,_,_=>by
  cases x;exact⟨[],trivial,λa m=>absurd m (by simp)⟩
 | .bool b,_,x,_,_=>by
  cases x;exact⟨[],trivial,λa m=>absurd m (by simp)⟩
 | .int i,_,x,_,_=>by
  cases x;exact⟨[],trivial,λa m=>absurd m (by simp)⟩
 | .str s,_,x,_,_=>by
  cases x;exact⟨[],trivial,λa m=>absurd m (by simp)⟩
 | .bytes b,_,x,_,_=>by
  cases x;exact⟨[],trivial,λa m=>absurd m (by simp)⟩
 | .list ds,_,x,p,z=>by
  obtain⟨a,vs,rfl,ho,hall⟩:=Gb x;have z2:WData.weightAll ds<=1048576:=z
  obtain⟨A,h1,h2⟩:=ya ds _ hall p λd hd=>gz (w9 hd) z2
  have k:∀b∈A,b∈a::A:=λb hb=>cP _ hb
  refine⟨a::A,bU ..,λb hb=>?_⟩;rcases bN.mp hb with e|m
  ·rw[e];exact⟨vs,M4 (by rw[pR hall];exact gz (W.length_le_weightAllW ds) z2),λu hu=>(h1 u hu).mono k,.inl ho⟩
  ·exact(h2 b m).mono k
 | .tuple ds,_,x,p,z=>by
  obtain⟨a,vs,rfl,ho,hall⟩:=Dk x;have z2:WData.weightAll ds<=1048576:=z
  obtain⟨A,h1,h2⟩:=ya ds _ hall p λd hd=>gz (w9 hd) z2
  have k:∀b∈A,b∈a::A:=λb hb=>cP _ hb
  refine⟨a::A,bU ..,λb hb=>?_⟩;rcases bN.mp hb with e|m
  ·rw[e];exact⟨vs,M4 (by rw[pR hall];exact gz (W.length_le_weightAllW ds) z2),λu hu=>(h1 u hu).mono k,.inr ho⟩
  ·exact(h2 b m).mono k
 | .float _,_,_,p,_=>Bool.noConfusion (show false=true from p)
 | .dict _,_,_,p,_=>Bool.noConfusion (show false=true from p)
 | .bytearray _,_,_,p,_=>Bool.noConfusion (show false=true from p)
 | .set _,_,_,p,_=>Bool.noConfusion (show false=true from p)
 | .frozenset _,_,_,p,_=>Bool.noConfusion (show false=true from p)
 | .obj _ _,_,_,p,_=>Bool.noConfusion (show false=true from p)
theorem ya:∀(ds:List WData) (vs:List Value),WellAll P h vs ds->x_ ds=true->(∀d∈ds,d.weight<=1048576)->∃A:List Addr,(∀u∈vs,G7 A u)/\∀a∈A,qw h A a
 | [],_,x,_,_=>by
  cases x;exact⟨[],λu m=>absurd m (by simp),λa m=>absurd m (by simp)⟩
 |d::ds,_,x,p,z=>by
  obtain⟨v,vs,rfl,x1,x2⟩:=Gd x;have q:F_ d=true/\x_ ds=true:=Bool.and_eq_true_iff.mp p
  obtain⟨A,a1,a2⟩:=QT d v x1 q.1 (z d (bU ..));obtain⟨B,b1,b2⟩:=ya ds vs x2 q.2 λe he=>z e (cP _ he)
  have kA:∀b∈A,b∈A++B:=λb hb=>dg.mpr (.inl hb)
  have kB:∀b∈B,b∈A++B:=λb hb=>dg.mpr (.inr hb)
  refine⟨A++B,λu hu=>?_,λb hb=>?_⟩
  ·rcases bN.mp hu with e|m
   ·rw[e];exact a1.mono kA
   ·exact(b1 u m).mono kB
  ·rcases dg.mp hb with m|m
   ·exact(a2 b m).mono kA
   ·exact(b2 b m).mono kB
end
end
noncomputable def RK (o:Obj):Option HO:=match o.data with
 | .seq vs _=>if(o.cls==Value.type "list")=true then some (.je o (.lst (vs.toList.map toV)))else some (.je o (.tup (vs.toList.map toV)))
 |_=>none
noncomputable def oF (K:W.Frag) (h:Heap) (A:List Addr):Hp:=λb=>if b∈A then(if(K.lookup b).isNone=true then(h.get? b).bind RK else none)else none
def G8(H:Hp):Prop:=∀b,H b=none\/∃o u,H b=some (.je o u)
def Jb(vs:List Value):RK {cls:= .type "list",data:= .seq vs.toArray}=some (.je {cls:= .type "list",data:= .seq vs.toArray} (.lst (vs.map toV))):=by
 show(if(Value.type "list" ==Value.type "list")=true then some (HO.je {cls:= .type "list",data:= .seq vs.toArray} (.lst (vs.toArray.toList.map toV)))else some (HO.je {cls:= .type "list",data:= .seq vs.toArray} (.tup (vs.toArray.toList.map toV))))=_
 rw[ay (beq_self_eq_true _)]
def Jc(vs:List Value):RK {cls:= .type "tuple",data:= .seq vs.toArray}=some (.je {cls:= .type "tuple",data:= .seq vs.toArray} (.tup (vs.map toV))):=by
 show(if(Value.type "tuple" ==Value.type "list")=true then some (HO.je {cls:= .type "tuple",data:= .seq vs.toArray} (.lst (vs.toArray.toList.map toV)))else some (HO.je {cls:= .type "tuple",data:= .seq vs.toArray} (.tup (vs.toArray.toList.map toV))))=_
 rw[aq (by decide)]
section
variable{P:Program}{w:World}{K:W.Frag}{h:Heap}{A:List Addr}
def Bx{b:Addr}{o:Obj}(hb:b∈A)(hk:K.lookup b=none)(e:h.get? b=some o):oF K h A b=RK o:=by
 unfold oF;rw[ay hb,hk,ay (show(none:Option Obj).isNone=true from rfl),e]<;>rfl
def SW{b:Addr}{u:HO}(q:oF K h A b=some u):b∈A/\K.lookup b=none:=by
 unfold oF at q;by_cases hb:b∈A
 ·rw[ay hb]at q;cases hk:K.lookup b with
  |none=>exact⟨hb,rfl⟩
  |some o=>
   rw[hk,aq (by simp)]at q;cases q
 ·rw[aq hb]at q;cases q
def By(ar:∀a∈A,qw h A a){b:Addr}{u:HO}(q:oF K h A b=some u):K.lookup b=none/\∃vs:List Value,vs.length<=sizeLine/\(∀u∈vs,G7 A u)/\
  ((h.get? b=some {cls:= .type "list",data:= .seq vs.toArray}/\u=.je {cls:= .type "list",data:= .seq vs.toArray} (.lst (vs.map toV)))\/
   (h.get? b=some {cls:= .type "tuple",data:= .seq vs.toArray}/\u=.je {cls:= .type "tuple",data:= .seq vs.toArray} (.tup (vs.map toV)))):=by
 obtain⟨hb,hk⟩:=SW q;obtain⟨vs,h1,h2,h3⟩:=ar b hb;refine⟨hk,vs,h1,h2,?_⟩;rcases h3 with e|e
 ·rw[Bx hb hk e,Jb]at q;exact .inl ⟨e,(fG q).symm⟩
 ·rw[Bx hb hk e,Jc]at q;exact .inr ⟨e,(fG q).symm⟩
def Oa(ar:∀a∈A,qw h A a):G8 (oF K h A):=λb=>by
 cases q:oF K h A b with
 |none=>exact .inl rfl
 |some u=>
  obtain⟨_,vs,_,_,⟨_,e⟩|⟨_,e⟩⟩:=By ar q
  ·exact .inr ⟨_,_,by rw[e]⟩
  ·exact .inr ⟨_,_,by rw[e]⟩
def SX(ar:∀a∈A,qw h A a):mV P w (oF K h A) h:=λb u q=>by
 obtain⟨_,vs,h1,h2,⟨e,rfl⟩|⟨e,rfl⟩⟩:=By ar q
 ·exact⟨e,by rw[aO];exact h1,vs,_,qv h2,e⟩
 ·exact⟨e,by rw[aO];exact h1,vs,qv h2,_,e,rfl,_,rfl⟩
def BA{c c':Value}{vs us:List Value}(e:(some {cls:=c,data:= .seq vs.toArray}:Option Obj)=some {cls:=c',data:= .seq us.toArray}):c=c'/\vs=us:=by
 have e1:=fG e;have e2:c=c':=jd Obj.cls e1
 have e3:Data.seq vs.toArray=Data.seq us.toArray:=jd Obj.data e1;injection e3 with e4
 refine⟨e2,?_⟩;have e5:=jd Array.toList e4
 simpa using e5
def ZV(KX:K.In h)(ar:∀a∈A,qw h A a){a:Addr}{vs:List Value}(ha:a∈A)(e:h.get? a=some {cls:= .type "list",data:= .seq vs.toArray}):(∀u∈vs,G7 A u)/\aX K (oF K h A) a (vs.map toV):=by
 obtain⟨us,h1,h2,h3⟩:=ar a ha;have hu:us=vs:=by
  rcases h3 with q|q
  ·rw[e]at q;exact(BA q).2.symm
  ·rw[e]at q;exact absurd (Value.type.inj (BA q).1) (by decide)
 subst hu;refine⟨h2,?_⟩;cases hk:K.lookup a with
 |none=>exact .inl (.inr ⟨_,by rw[Bx ha hk e,Jb]⟩)
 |some o=>
  have e2:=KX a o hk;rw[e]at e2;obtain rfl:=fG e2;exact .inr ⟨_,us.toArray,_,hk,rfl,rfl,rfl,by rw[iM];exact h1,by simpa using qv h2⟩
def ZW(KX:K.In h)(ar:∀a∈A,qw h A a){a:Addr}{vs:List Value}(ha:a∈A)(e:h.get? a=some {cls:= .type "tuple",data:= .seq vs.toArray}):(∀u∈vs,G7 A u)/\mW K (oF K h A) a (vs.map toV):=by
 obtain⟨us,h1,h2,h3⟩:=ar a ha;have hu:us=vs:=by
  rcases h3 with q|q
  ·rw[e]at q;exact absurd (Value.type.inj (BA q).1) (by decide)
  ·rw[e]at q;exact(BA q).2.symm
 subst hu;refine⟨h2,?_⟩;cases hk:K.lookup a with
 |none=>exact .inl (.inr ⟨_,by rw[Bx ha hk e,Jc]⟩)
 |some o=>
  have e2:=KX a o hk;rw[e]at e2;obtain rfl:=fG e2;exact .inr ⟨_,us.toArray,_,hk,rfl,rfl,by rw[iM];exact h1,by simpa using qv h2⟩
mutual
theorem Vv{Pm:Params}(KX:K.In h)(ar:∀a∈A,qw h A a):∀(d:WData) (v:Value),Well Pm h v d->F_ d=true->G7 A v->Dw K (oF K h A) (toV v) d
 | .none,_,x,_,_=>by
  cases x;exact .gq
 | .bool b,_,x,_,_=>by
  cases x;exact .bl b
 | .int i,_,x,_,_=>by
  cases x;exact .int i
 | .str s,_,x,_,_=>by
  cases x;exact .str s
 | .bytes b,_,x,_,_=>by
  cases x;have z:=Dw.B0 (K:=K) (H:=oF K h A) b.toArray
  exact z
 | .list ds,_,x,p,hu=>by
  obtain⟨a,vs,rfl,ho,hall⟩:=Gb x;obtain⟨h2,hs⟩:=ZV KX ar hu ho;exact .lst hs (Ge KX ar ds _ hall p h2)
 | .tuple ds,_,x,p,hu=>by
  obtain⟨a,vs,rfl,ho,hall⟩:=Dk x;obtain⟨h2,hs⟩:=ZW KX ar hu ho;exact .tup hs (Ge KX ar ds _ hall p h2)
 | .float _,_,_,p,_=>Bool.noConfusion (show false=true from p)
 | .dict _,_,_,p,_=>Bool.noConfusion (show false=true from p)
 | .bytearray _,_,_,p,_=>Bool.noConfusion (show false=true from p)
 | .set _,_,_,p,_=>Bool.noConfusion (show false=true from p)
 | .frozenset _,_,_,p,_=>Bool.noConfusion (show false=true from p)
 | .obj _ _,_,_,p,_=>Bool.noConfusion (show false=true from p)
theorem Ge{Pm:Params}(KX:K.In h)(ar:∀a∈A,qw h A a):∀(ds:List WData) (vs:List Value),WellAll Pm h vs ds->x_ ds=true->(∀u∈vs,G7 A u)->qu K (oF K h A) (vs.map toV) ds
 | [],_,x,_,_=>by
  cases x;exact .nil
 |d::ds,_,x,p,hu=>by
  obtain⟨v,vs,rfl,x1,x2⟩:=Gd x;have q:F_ d=true/\x_ ds=true:=Bool.and_eq_true_iff.mp p
  exact .cons (Vv KX ar d v x1 q.1 (hu _ (bU ..))) (Ge KX ar ds vs x2 q.2 λu m=>hu u (cP _ m))
end
end
def Ob{P:Program}{w:World}{K:W.Frag}{mg mb:Str->Option Value}{CX:FT}{k:Nat}{fa:Addr}{fd:FuncData}{ps:List Str}{sp:Sp}{s₁:Shared}{vals:List Value}{ds:List WData}{R:W.WRecords}{cl:Str->Option Addr}{d0:WData}
  (KX:K.In s₁.heap) (hns:s₁.heap.Ns mainGlobals mg) (hb:s₁.heap.Ns builtinsNs mb) (hbb:∀x:Str,x≠ "__name__" ->mb x=bootBuiltins x) (hlim:s₁.heap.NoLimit) (hg:s₁.gens=#[])
  (hwl:WellAll w.params s₁.heap vals ds) (hpl:x_ ds=true) (hwt:∀d∈ds,d.weight<=1048576) (hr:jS k callerA)
  (F:∀base:Heap,K.In base->base.Ns mainGlobals mg->aT P w K mg base CX k fa fd ps sp) (hbind:∀(s:Shared) (us:List Value),us.length=ps.length->BindsTo s fd ⟨us,[]⟩ (ps.zip us)) (hlen:ds.length=ps.length)
  (MS:∀(H:Hp) (xs:List V),G8 H->qu K H xs ds->sp xs H (λv H'=>Dw K H' v d0) λ_ _ _=>False)
  (Vw:∀H e s',CX [] H s₁ (λ_ _ _=>False) e s'->False):
  codeAny (model P w) callerA (.call (.ref fa) ⟨vals,[]⟩) (λr s'=>∃u as,r=.ok (.ret u)/\ReadsW R cl s'.heap u d0 as/\OldK s₁.heap s'.heap/\s'.os=s₁.os/\AllBare s'.gens) s₁:=by
 obtain⟨A,ho,ar⟩:=ya ds vals hwl hpl hwt;have hO:G8 (oF K s₁.heap A):=Oa ar
 have hok:mV P w (oF K s₁.heap A) s₁.heap:=SX ar;have hS:=Ge KX ar ds vals hwl hpl ho
 have hV:=qv ho;have hK:∀b u,oF K s₁.heap A b=some u->K.lookup b=none:=λb u q=>(By ar q).1
 have T8:∀{b:Addr} {o:Obj} {es:Array DictEntry} {ep:Nat},s₁.heap.get? b=some o->o.data=.dict es ep->oF K s₁.heap A b=none:=λ{b o es ep} e d=>by
  cases q:oF K s₁.heap A b with
  |none=>rfl
  |some u=>
   obtain⟨_,vs,_,_,⟨e2,_⟩|⟨e2,_⟩⟩:=By ar q
   ·rw[e2]at e;cases e;have d':Data.seq vs.toArray _=Data.dict es ep:=d
    cases d'
   ·rw[e2]at e;cases e;have d':Data.seq vs.toArray _=Data.dict es ep:=d
    cases d'
 generalize oF K s₁.heap A=H at hO hok hS hK T8;have M5:∀{b:Addr} {o:Obj},s₁.heap.get? b=some o->H b=none->(DB s₁.heap H).get? b=some o:=λe n=>QB e n
 have tF:∀{b:Addr} {m:Str->Option Value},s₁.heap.Ns b m->(DB s₁.heap H).Ns b m:=λ{b m} ⟨o,es,ep,e,d,r⟩=>⟨o,es,ep,M5 e (T8 e d),d,r⟩
 have nK:∀b o,K.lookup b=some o->H b=none:=λb o e=>by
  cases q:H b with
  |none=>rfl
  |some u=>
   rw[hK b u q]at e;cases e
 have hKb:K.In (DB s₁.heap H):=λb o e=>M5 (KX b o e) (nK b o e)
 have hM:Mod K mg (DB s₁.heap H):=⟨hKb,tF hns,⟨mb,tF hb,hbb⟩,let⟨mc,h1,h2⟩:=hlim;⟨mc,tF h1,h2⟩⟩;have e0:Ip P w K mg (DB s₁.heap H) callerA [] s₁ H:=⟨rfl,hM,λb o e=>Su e,yy (NK _ _),trivial,λb hb=>absurd (show b∈([]:List Addr)from hb) (by simp),hok,.of_eq hg⟩
 have hl:vals.length=ps.length:=by rw[pR hwl];exact hlen
 refine yC ((F _ hKb (tF hns)).run callerA [] s₁ H ⟨vals,[]⟩ vals (vals.map toV) _ _ hr e0 (hbind s₁ vals hl) hV (MS H _ hO hS)) λr s' x=>?_
 cases r with
 |error e=>exact(Vw H e s' x).elim
 |ok fl=>
  cases fl with
  |next=>exact False.elim x
  |brk=>exact False.elim x
  |cont=>exact False.elim x
  |ret u=>
   obtain⟨v,H',os,bare,un,WC,r',q⟩:=x;have kept:∀b o,s₁.heap.get? b=some o->s'.heap.get? b=some o:=λb o e=>by
    cases q2:H b with
    |none=>exact un.keep b o e q2 (by intro z;exact absurd (show b∈([]:List Addr)from z) (by simp)) (by simp)
    |some u2=>
     rcases hO b with z|⟨ob,u3,z⟩
     ·rw[q2]at z;cases z
     ·have z2:=un.zV b ob _ z;obtain⟨e1,_⟩:=hok b _ z;obtain⟨e2,_⟩:=WC b _ z2;rw[e]at e1;cases e1;exact e2
   have KX':K.In s'.heap:=λb o e=>kept b o (KX b o e)
   obtain⟨as,hrd⟩:=Dw.reads (R:=R) (cl:=cl) WC KX' d0 v u q r';exact⟨u,as,rfl,hrd,OldK.of_keep kept,os,bare⟩
def DC{ds:List WData}(h:WData.layableAll ds=true):∀d∈ds,d.weight<=1048576:=λd hd=>
 (W.layableW_iff.mp (BS.mp h d hd)).2.2
theorem Dl:∀(cs:List Codec) (a:Codec.denoteAll cs),(Codec.encAll cs a).length=cs.length
 | [],_=>rfl
 |c::cs,a=>by
  show(Codec.encAll cs a.2).length+1=cs.length+1
  rw[Dl cs a.2]
def Oc{r:OpenSpec}{k:Nat}{q:Program}{loose:List Str}{XP:(Str->Option Value)->Heap->Prop}{YP:World->Heap->Prop}{d:DefRec}{K:Params->W.Frag}{CX:World->FT}{ps:List Str}{sp:World->Sp}
  (O9:r.wellSaid=true) (hdf:d.params.defaults=[]) (hlen:r.args.length=ps.length) (hr:jS k callerA)
  (hY:∀(w:World) (h:Heap),YP w h->(K w.params).In h)
  (F:∀(w:World) (mg:Str->Option Value) (fa:Addr) (h:Heap),YP w h->(K w.params).In h->h.Ns mainGlobals mg->mg d.name=some (.ref fa)->
   ∃fd:FuncData,(∀(s:Shared) (us:List Value),us.length=ps.length->BindsTo s fd ⟨us,[]⟩ (ps.zip us))/\
    ∀base:Heap,(K w.params).In base->base.Ns mainGlobals mg->aT r.prog w (K w.params) mg base (CX w) k fa fd ps (sp w))
  (MS:∀(w:World) (H:Hp) (xs:List V) (a:Codec.denoteAll r.args),G8 H->Codec.withinAll r.args a=true->Codec.app r.args r.asked a=true->qu (K w.params) H xs (Codec.encAll r.args a)->
   sp w xs H (λv H'=>Dw (K w.params) H' v (r.ret.enc (Codec.app r.args r.f a))) λ_ _ _=>False)
  (Vw:∀(w:World) (H:Hp) (s:Shared) (e:Value) (s':Shared),CX w [] H s (λ_ _ _=>False) e s'->False):
  W.WalkOS q loose XP YP r d [] (λf vs=>PySem.call f vs):=by
 intro w yL s₁ mg mb G Y fa o pm cd doc dV kV ho hd hcd hD hmg hg args vals as hpre hlay hrd hwl hlo;obtain⟨a,e1,e2⟩:=W.os_pre_some hpre;obtain⟨e3,hwi⟩:=Codec.encAll_of_decAll r.args args a e1;subst e3;have KX:=hY w _ Y
 obtain⟨fd,hb,hF⟩:=F w mg fa _ Y KX G.T.g hmg;refine W.enter_call (yC (Ob (R:=[]) (cl:=classAt yL.heap) (d0:=r.ret.enc (Codec.app r.args r.f a)) KX G.T.g G.T.b G.T.builtins G.T.nolimit hg hwl (Ga _ _) (DC hlay) hr hF hb (by rw[Dl];exact hlen)
  (λH xs hO hS=>MS w H xs a hO hwi e2 hS) λH e s'=>Vw w H s₁ e s') λr' s' hq=>?_)
 obtain⟨u,as',rfl,h1,h2,h3,h4⟩:=hq;exact⟨.inl ⟨u,_,as',rfl,λ_=>rfl,h1,(OpenSpec.post_iff O9 hwi _ _).mpr rfl,λz=>Bool.noConfusion (show false=true from z)⟩,h2,h3,h4⟩
def LK{r:OpenSpec}{k:Nat}{q:Program}{loose:List Str}{XP:(Str->Option Value)->Heap->Prop}{YP:World->Heap->Prop}{d:DefRec}{K:Params->W.Frag}{CX:FT}{ps:List Str}{sp:W.Frag->Sp}
  (O9:r.wellSaid=true) (hdf:d.params.defaults=[]) (hlen:r.args.length=ps.length) (hr:jS k callerA)
  (hY:∀(w:World) (h:Heap),YP w h->(K w.params).In h)
  (F:∀(w:World) (mg:Str->Option Value) (fa:Addr) (h:Heap),YP w h->(K w.params).In h->h.Ns mainGlobals mg->mg d.name=some (.ref fa)->
   ∃fd:FuncData,(∀(s:Shared) (us:List Value),us.length=ps.length->BindsTo s fd ⟨us,[]⟩ (ps.zip us))/\
    ∀base:Heap,(K w.params).In base->base.Ns mainGlobals mg->aT r.prog w (K w.params) mg base CX k fa fd ps (sp (K w.params)))
  (MS:∀(K:W.Frag) (H:Hp) (xs:List V) (a:Codec.denoteAll r.args),G8 H->Codec.withinAll r.args a=true->Codec.app r.args r.asked a=true->qu K H xs (Codec.encAll r.args a)->
   sp K xs H (λv H'=>Dw K H' v (r.ret.enc (Codec.app r.args r.f a))) λ_ _ _=>False)
  (Vw:∀(H:Hp) (s:Shared) (e:Value) (s':Shared),CX [] H s (λ_ _ _=>False) e s'->False):
  W.WalkOS q loose XP YP r d [] (λf vs=>PySem.call f vs):=
 Oc (K:=K) (CX:=λ_=>CX) (sp:=λw=>sp (K w.params)) O9 hdf hlen hr hY F (λw H xs a h1 h2 h3 h4=>MS (K w.params) H xs a h1 h2 h3 h4) λ_ H s e s'=>Vw H s e s'
end L2
end
end
section
namespace ST
open PySem PySem.SetTable PyProof.Rows
section
variable{prog:Program}{w:World}{A:Around}{E:Value->Shared->Prop}{s:Shared}
theorem Gf:∀{vs:List Value},(∀v∈vs,∃k tk,v=Value.int k tk)->IntsAre vs (vs.map intOf)
 | [],_=>.nil
 |v::vs,h=>by
  obtain⟨k,tk,rfl⟩:=h v (bU ..);exact .cons k tk (Gf λx hx=>h x (cP _ hx))
def LL{a:Addr}{es ep t}{Q:Value->Shared->Prop}(hh:A.handled=none)(x:bZ s.heap a (w.params.followText "set-order") es ep t)
  (h:∀(ns':List Int) (out:List Value) (n:Nat) (h1 h':Heap) (tk:Nat),IntsAre out ns'->ns'.Perm (jI es)->ns'.Pairwise (·<=·)->(∀b o,s.heap.get? b=some o->h1.get? b=some o)->(∀b o,h1.get? b=some o->h'.get? b=some o)->h'.get? h1.objs.size=some {cls:= .type "list",data:= .seq out.toArray n}->
   Q (.ref h1.objs.size) {s with heap:=h',toks:=tk}):wpAny (model prog w) A (call (.builtin "sorted") [.ref a]) Q E s:=by
 refine Calls.call_function_entry kind_sorted plain_sorted entry_sorted (args_sorted1 _) ?_;unfold Builtin.«sorted»;refine aB (m:=checkCount "sorted" 1 1 _) (aP (aB (Lz (by simpa using hh) x λvs h1 tk pv k1=>?_)));have hv:∀v∈vs,∃k tk,v=Value.int k tk:=λv hv=>by
  obtain⟨e,he,rfl⟩:=br.mp (pv.mem_iff.mp hv);obtain⟨k,tk,rfl⟩:=x.els e he;exact⟨k,tk,rfl⟩
 have hI:=Gf hv;have hp:(vs.map intOf).Perm (jI es):=by
  have:=pv.map intOf;rw[Fy]at this;exact this
 have hL:vs.length<=sizeLine:=by
  have q:vs.length=es.size:=by rw[pv.length_eq,aO,jo]
  have:=x.small;rw[sF,q];omega
 refine aB (wpAny_newList ?_ (by first|exact hL|simpa using hL));have T6:(h1.push (seqObj "list" vs.toArray 0)).get? h1.objs.size=some (seqObj "list" vs.toArray 0):=fB _ rfl
 refine aB (su (pI slot_list_sort ⟨_,T6,rfl⟩ entry_list_sort (list_sort_treeAny T6 hI hL λout ns' a1 a2 a3=>⟨_,rfl,?_⟩) (args_list_sort _)));have hD:h1.objs.size <(h1.push (seqObj "list" vs.toArray 0)).objs.size:=cC T6
 have g1:=get?_update_seq T6 (λ_=>#[]);have s1:((h1.push (seqObj "list" vs.toArray 0)).update h1.objs.size (Obj.mapSeq λ_=>#[])).objs.size=h1.objs.size+1:=by rw[Heap.size_update,size_push']
 have g2:=get?_update_seq (eB (seqObj "list" #[] 0) (eB (seqObj "tuple" vs.toArray 0) g1)) (λ_=>out);refine aP ⟨_,rfl,h ns' out.toList _ h1 _ tk a1 (a2.trans hp) a3 k1 (λb o e=>?_) (by simpa[sortedHeap]using g2)⟩;have hb:b≠h1.objs.size:=iG (cC e)
 unfold sortedHeap;refine(BI _ _ hb.symm).trans (eB _ (eB _ ((BI _ _ hb.symm).trans (eB _ e))))
end
end ST
namespace L2
open PySem PySem.Spec PyProof.Rows
noncomputable def Ej (w:World) (a:Addr) (ks:List Int):HO:= .ext λh=>∃es ep t,ST.bZ h a (w.params.followText "set-order") es ep t/\∀k,k∈ST.jI es↔k∈ks
section
variable{X:Cx}
def M6{P:Program}{w:World}{H:Hp}{h:Heap}{a:Addr}{ks:List Int}(x:∃es ep t,ST.bZ h a (w.params.followText "set-order") es ep t/\∀k,k∈ST.jI es↔k∈ks):fm P w H h a (Ej w a ks):=by
 refine⟨x,?_,λh1 h2 ⟨es,ep,t,y,m⟩ k=>⟨es,ep,t,y.keep k,m⟩⟩;obtain⟨es,ep,t,y,_⟩:=x;exact⟨_,y.obj⟩
def SY{P:Program}{w:World}{H:Hp}{h:Heap}{a:Addr}{kvs:List (Key×V)}{ks:List Int}(ok:mV P w H h)(e:H a=some (.dK kvs))(hk:kvs.map (·.1)=ks.map Sum.inl):
  (a==sysModules)=false/\ks.Nodup/\∃o es ep,h.get? a=some o/\o.ExactDict/\o.data=.dict es ep/\es.size=ks.length/\∀(i:Nat) (e:DictEntry),es[i]? =some e->∃k tk,ks[i]? =some k/\e.key=.int k tk/\e.hash=hashInt k:=by
 obtain⟨z,hs,vs,kv,o,es,ep,h1,h2,h3,h4,h5,h6⟩:=Lm ok e;rw[<- kv.keys,hk]at h6;refine⟨hs,?_,o,es,ep,h1,h2,h3,?_,λi en hen=>?_⟩
 ·exact List.Pairwise.of_map _ (λa b q z=>q (by rw[z])) h6
 ·have q:=jd List.length hk;rw[aO,aO]at q;rw[<- jo,h5.length,<- kv.length,q]
 ·have key:∀{l:List DictEntry} {m:List (Key×Value)} {js:List Int},Pairs (e_ P w) l m->m.map (·.1)=js.map Sum.inl->∀(i:Nat) (e:DictEntry),l[i]? =some e->∃k,js[i]? =some k/\(e_ P w).is (Sum.inl k) e.key=true:=by
   intro l m js p
   induction p generalizing js with
   |nil=>intro _ i e h;simp at h
   |cons a b c ih=>
    intro hj i e h;cases js with
    |nil=>cases hj
    |cons j js=>
     obtain⟨q1,q2⟩:=List.cons.inj hj;cases i with
     |zero=>
      have:=fG h;subst this;exact⟨j,rfl,by rw[<- q1];exact a⟩
     |succ i=>exact ih q2 i e h
  obtain⟨k,hk1,hk2⟩:=key h5 (by rw[<- kv.keys,hk]) i en (by rw[pH];exact hen);rcases fY (show vX (Sum.inl k) en.key=true from hk2)with⟨j,tk,e1,e2⟩|⟨x,tk,e1,_⟩
  ·cases e1;obtain⟨k',YJ,hk4⟩:=h4 en (Array.mem_of_getElem? hen);have:=(e_ P w).inj _ _ _ hk2 YJ
   subst this;exact⟨k,tk,hk1,e2,hk4⟩
  ·cases e1
def yY(hc:X.calm=true):qp X (.type "set") (λvs H Q=>∃(d:Addr) (kvs:List (Key×V)) (ks U:List Int),vs=[.ref d]/\H d=some (.dK kvs)/\kvs.map (·.1)=ks.map Sum.inl/\(∀k∈ks,k∈U)/\U.length<=4000/\∀p,H p=none->Q (.ref p) (upd H p (Ej X.w p ks))):=by
 intro pins s σ H xs us Q I r h;obtain⟨d,kvs,ks,U,rfl,hd,hk,hu,hU,q⟩:=h;rw[Vals.N5 r];obtain⟨h1,h2,o,es,ep,h3,h4,h5,h6,h7⟩:=SY I.hok hd hk;refine ST.Er (I.ok.hd hc) hU h1 h3 h4 h5 h7 h6 h2 hu λh' hs kp=>?_
 exact⟨.ref _,_,I.laid (t':=s.toks) kp (bw _) (M6 hs),rfl,q _ I.fresh⟩
def KS:vN X (binaryOp .BitOr) (λx y H Q=>∃(a b:Addr) (ks js U:List Int),x=.ref a/\y=.ref b/\a≠b/\H a=some (Ej X.w a ks)/\H b=some (Ej X.w b js)/\(∀k∈ks,k∈U)/\(∀k∈js,k∈U)/\U.length<=4000/\∀p,H p=none->Q (.ref p) (upd H p (Ej X.w p (ks++js)))):=by
 intro pins s σ H x y v u Q I rx ry h;obtain⟨a,b,ks,js,U,rfl,rfl,hab,ha,hb,h1,h2,hU,q⟩:=h;cases rx;cases ry;obtain⟨⟨es,ep,t,sa,ma⟩,_⟩:=I.hok a _ ha;obtain⟨⟨eb,pb,tb,sb,mb⟩,_⟩:=I.hok b _ hb;refine ST.Xb hab hU sa sb (λk hk=>h1 k ((ma k).mp hk)) (λk hk=>h2 k ((mb k).mp hk)) λh' hs kp=>?_
 obtain⟨e',p',t',s',m'⟩:=hs;exact⟨.ref _,_,I.laid (t':=s.toks) kp (bw _) (M6 ⟨e',p',t',s',λk=>by rw[m' k,dg,dg,ma k,mb k]⟩),rfl,q _ I.fresh⟩
def rF(hc:X.calm=true):qp X (.builtin "sorted") (λvs H Q=>∃(a:Addr) (ks:List Int),vs=[.ref a]/\H a=some (Ej X.w a ks)/\∀(ns:List Int) (p:Addr),ns.Pairwise (· < ·)->(∀k,k∈ns↔k∈ks)->H p=none->Q (.ref p) (upd H p (.lst (ns.map V.int)))):=by
 intro pins s σ H xs us Q I r h;obtain⟨a,ks,rfl,ha,q⟩:=h;rw[Vals.N5 r];obtain⟨⟨es,ep,t,sa,ma⟩,_⟩:=I.hok a _ ha;refine ST.LL (I.ok.hd hc) sa λns out n h1 h' tk hi hp hs k1 k2 hg=>?_
 have I1:=I.kept (t':=tk) k1;have hn:ns.Nodup:=hp.nodup_iff.mpr sa.nd
 have hlen:(ns.map V.int).length<=sizeLine:=by
  rw[aO,hp.length_eq,aO,jo];have:=sa.small
  rw[sF];omega
 have hlt:ns.Pairwise (· < ·):=(hs.and hn).imp λ⟨a,b⟩=>by omega
 refine⟨.ref _,upd H h1.objs.size (.lst (ns.map V.int)),I1.laid (t':=tk) k2 (bw _) ⟨hlen,out,n,yS hi,hg⟩,rfl,q ns _ hlt (λk=>by rw[hp.mem_iff,ma k]) (I1.hok.fresh (bw _))⟩
end
end L2
end
section
namespace ST
open PySem PyProof.Rows
theorem erase_filter{K β:Type} [DecidableEq K]:∀{xs:List (K×β)} {j:Nat} {k:K} {p:β},(xs.map (·.1)).Nodup->xs[j]? =some (k,p)->xs.eraseIdx j=xs.filter λx=>decide (x.1≠k)
 | [],j,k,p,_,h=>by simp at h
 |x::xs,0,k,p,hn,h=>by
  have e:x=(k,p):=fG h;subst e;obtain⟨h1,h2⟩:=kQ.mp (show(k::xs.map (·.1)).Nodup from hn);rw[List.eraseIdx_cons_zero,kP,aq (by simp)]
  symm
  rw[List.filter_eq_self];intro y hy;have:y.1≠k:=λq=>h1 (by rw[<- q];exact br.mpr ⟨y,hy,rfl⟩)
  simp[this]
 |x::xs,j+1,k,p,hn,h=>by
  obtain⟨h1,h2⟩:=kQ.mp (show(x.1::xs.map (·.1)).Nodup from hn);have hx:x.1≠k:=λq=>h1 (by rw[q];exact br.mpr ⟨(k,p),l_ h,rfl⟩)
  rw[List.eraseIdx_cons_succ,kP,ay (by simp[hx]),erase_filter h2 h]
theorem Gg{α β:Type}(f:α->β):∀(l:List α) (j:Nat),(l.map f).eraseIdx j=(l.eraseIdx j).map f
 | [],_=>rfl
 |a::l,0=>rfl
 |a::l,j+1=>by show f a::(l.map f).eraseIdx j=f a::(l.eraseIdx j).map f;rw[Gg f l j]
section
variable{prog:Program}{w:World}{A:Around}{E:Value->Shared->Prop}{s:Shared}{K:Type} [DecidableEq K]{knd:HeapKind prog w K}
def QU{d a:Addr}{xs:List (K×Addr×Value)}{k:K}{p:Addr×Value}{Q:Value->Shared->Prop}(hu:knd.room A.in1)(hkey:knd.is s.heap k a)(hm:s.heap.DictOfH knd d xs)(hz:xs.length<=sizeLine)(hp:atKey xs k=some p)
  (h:∀h' tk,h'.DictOfH knd d (xs.filter λx=>decide (x.1≠k))->Heap.SameBut d s.heap h'->Q p.2 {s with heap:=h',toks:=tk}):wpAny (model prog w) A (call (.builtin "dict.pop") [.ref d,.ref a]) Q E s:=by
 have hT:=hm.typeIs;refine pI F.slot_dict_pop hT F.entry_dict_pop ?_ (F.args_dict_pop_2 _ _);unfold Builtin.«dict.pop»;refine aB ?_;unfold Builtin.Dict.keyAndDefault;refine aB (wpAny_notOrdered_dict hT (show wpAny _ _ (pure (d,Value.ref a,none)) _ _ s from aP ?_));obtain⟨o,es,ep,ho,hc,hd,he,his,hn⟩:=hm;have hne:es.isEmpty=false:=by
  cases q:es.isEmpty with
  |false=>rfl
  |true=>
   have:es=#[]:=by simpa using q
   rw[this]at he;have:xs=[]:=by simpa using he.symm
   rw[this]at hp;cases hp
 dsimp only
 rw[aq (by simp[keyPart])];refine aB (yi ho hd (aB (aP ?_)));rw[hne];simp only[mh,jH];refine aB ?_;unfold Builtin.Dict.takeOut;refine su (aB (knd.pyHash hu hkey (aB (wpAny_dictFind_heap (s:={s with toks:=s.toks+knd.draws k}) hu hkey ho hd he his hn ?_ ?_))))
 ·intro hno;rw[atKey_none_of_get hno]at hp;cases hp
 ·intro j p' hj;have u9:p'=p:=fG ((atKey_of_get hn hj).symm.trans hp)
  subst u9;refine aB (yi (s:={s with toks:=s.toks+knd.draws k}) ho hd ?_);rw[entry_at he j,hj]
  dsimp only[Option.map]
  have e1:=size_of_entries he;refine aB (wpAny_updateDictKeys (s:={s with toks:=s.toks+knd.draws k}) ho hd ?_ (hz:=by
   have:(es.eraseIdxIfInBounds j).size<=es.size:=by
    unfold Array.eraseIdxIfInBounds
    split
    ·rw[Array.size_eraseIdx];omega
    ·exact bw _
   omega))
  refine aP ?_;simp only[Option.isNone_some,mh,jH];have hsb:=yo s.heap d (Obj.mapDictKeys λx=>x.eraseIdxIfInBounds j)
  refine aB (wpAny_letGo (aP ⟨_,rfl,h _ _ ⟨_,_,ep+1,Bg _ ho (Obj.isFreed_of_dict (Obj.data_mapDictKeys hd _)),hc.mapDictKeys _,Obj.data_mapDictKeys hd _,?_,λx hx=>?_,?_⟩ hsb⟩))
  ·have:(es.eraseIdxIfInBounds j).toList=es.toList.eraseIdx j:=by
    unfold Array.eraseIdxIfInBounds
    split
    ·rw[Array.toList_eraseIdx]
    ·rename_i q;rw[List.eraseIdx_of_length_le (by rw[jo];omega)]
   rw[this,he,Gg,erase_filter hn hj]
  ·exact knd.keeps (his x (jN.mp hx).1) ho hd hsb
  ·exact(hn.sublist (E9 _ ym))
end
end ST
end
section
namespace ST
open PySem PyProof.Rows
section
variable{prog:Program}{w:World}{A:Around}{E:Value->Shared->Prop}{s:Shared}
abbrev qx(h:Heap)(it:Addr)(x:Str)(t:Tok)(i:Nat):Prop:=h.IsStrIter it "str_ascii_iterator" x t i
def qx.at_{h h':Heap}{it:Addr}{x:Str}{t:Tok}{i:Nat}(y:qx h it x t i)(k:∀o,h.get? it=some o->h'.get? it=some o):qx h' it x t i:=by
 obtain⟨o,e,r⟩:=y;exact⟨o,k o e,r⟩
def Od{z TI TO i1 i2 l2:Addr}{k1 k2:Nat}{ys:Array Value}{c0:Nat}{x:Str}{t:Tok}{y a b:Value}{Q:Value->Shared->Prop}(D:ZipApart z TI TO i1 i2 l2 l2)
  (hz:IsZip s.heap z TI TO .none) (hTI:IsPair s.heap TI (.ref i1) (.ref i2)) (hTO:IsPair s.heap TO a b) (h1:qx s.heap i1 x t k1) (h2:s.heap.IsListIter i2 l2 k2) (hl2:s.heap.IsList l2 ys) (hx:x.cps[k1]? =some c0) (hy:ys[k2]? =some y)
  (hQ:∀h',IsZip h' z TI TO (rawInt s.heap.objs.size)->IsPair h' TO (.str ⟨#[c0]⟩ s.toks) y->qx h' i1 x t (k1+1)->h'.IsListIter i2 l2 (k2+1)->IsPair h' s.heap.objs.size (.str ⟨#[c0]⟩ s.toks) y->
   (∀c o,c≠z->c≠TO->c≠i1->c≠i2->s.heap.get? c=some o->h'.get? c=some o)->Q (.ref s.heap.objs.size) {s with heap:=h',toks:=s.toks+1}):
  wpAny (model prog w) A (Builtin.«zip.__next__» ⟨[.ref z],[]⟩) (λfin s'=>∃v,fin=.done (.ret v)/\Q v s') E s:=by
 refine(show wpAny _ _ (field (.ref z) 2 >>= _) _ _ _ from aB (sE hz rfl (x:= .bool false) rfl ?_));refine(show wpAny _ _ (field (.ref z) 3 >>= _) _ _ _ from aB (sE hz rfl (x:= .ref TI) rfl (aB (BV hTI rfl ?_))));refine(show wpAny _ _ (Builtin.SmallTypes.ownedTupleIsFree (.ref z) >>= _) _ _ _ from aB ?_);unfold Builtin.SmallTypes.ownedTupleIsFree;refine aB (sE hz rfl (x:= .none) rfl (aP ?_));simp only[mz];refine aB (wpAny_rule (aB (sE hz rfl (x:= .ref TO) rfl (aB (yf hz (by simp) λg1 z1 s1=>aB ?_)))))
 replace z1:IsZip g1 z TI TO .ellipsis:=z1
 simp only[List.zipIdx_cons,List.zipIdx_nil,List.forIn_cons,Fj];refine aB (aB (wpAny_onRaise (show wpAny _ _ (Builtin.SmallTypes.nextOf (.ref i1) >>= _) _ _ _ from aB (wpAny_nextOf_ascii_item (s:={s with heap:=g1}) (h1.at_ λo e=>s1.extBut _ _ D.i1z e) hx λg2 i2' s2=>aP ?_))));have o2:IsPair g2 TO a b:=s2.extBut _ _ D.TOi1 (s1.extBut _ _ D.TOz hTO)
 refine aB (BV (s:={s with heap:=g2,toks:=s.toks+1}) o2 rfl (aB (wpAny_updateSeq_pair (s:={s with heap:=g2,toks:=s.toks+1}) o2 λg3 o3 s3=>aB (wpAny_letGo (aP ?_)))))
 replace o3:IsPair g3 TO (.str ⟨#[c0]⟩ s.toks) b:=o3
 refine aB (aB (wpAny_onRaise (show wpAny _ _ (Builtin.SmallTypes.nextOf (.ref i2) >>= _) _ _ _ from aB (wpAny_nextOf_list_item (s:={s with heap:=g3,toks:=s.toks+1}) (((h2.extBut s1.extBut D.i2z).extBut s2.extBut D.i12.symm).extBut s3.extBut D.TOi2.symm) (((hl2.extBut s1.extBut D.l2z).extBut s2.extBut D.l2i1).extBut s3.extBut D.l2TO) hy λg4 j4 s4=>aP ?_))));have o4:IsPair g4 TO (.str ⟨#[c0]⟩ s.toks) b:=s4.extBut _ _ D.TOi2 o3
 refine aB (BV (s:={s with heap:=g4,toks:=s.toks+1}) o4 rfl (aB (wpAny_updateSeq_pair (s:={s with heap:=g4,toks:=s.toks+1}) o4 λg5 o5 s5=>aB (wpAny_letGo (aP (aP ?_))))))
 replace o5:IsPair g5 TO (.str ⟨#[c0]⟩ s.toks) y:=o5
 refine aB (BV (s:={s with heap:=g5,toks:=s.toks+1}) o5 rfl (aB (wpAny_newTuple ?_)));have esz:g5.objs.size=s.heap.objs.size:=by rw[s5.1,s4.1,s3.1,s2.1,s1.1]
 have z5:IsZip g5 z TI TO .ellipsis:=s5.extBut _ _ D.TOz.symm (s4.extBut _ _ D.i2z.symm (s3.extBut _ _ D.TOz.symm (s2.extBut _ _ D.i1z.symm z1)));have k5:∀c o,c≠z->c≠TO->c≠i1->c≠i2->s.heap.get? c=some o->g5.get? c=some o:=λc o c1 c2 c3 c4 e=>s5.extBut _ _ c2 (s4.extBut _ _ c4 (s3.extBut _ _ c2 (s2.extBut _ _ c3 (s1.extBut _ _ c1 e))))
 have a5:qx g5 i1 x t (k1+1):=qx.at_ i2' λo e=>s5.extBut _ _ D.TOi1.symm (s4.extBut _ _ D.i12 (s3.extBut _ _ D.TOi1.symm e))
 have b5:g5.IsListIter i2 l2 (k2+1):=j4.extBut s5.extBut D.TOi2.symm;have zlt:z<g5.objs.size:=cC z5
 refine(show wpAny _ _ (Builtin.SmallTypes.ownedTupleHandOut (.ref z) (.ref g5.objs.size) >>= _) _ _ _ from aB ?_);unfold Builtin.SmallTypes.ownedTupleHandOut;have z6:IsZip (g5.push {cls:= .type "tuple",data:= .seq #[.str ⟨#[c0]⟩ s.toks,y]}) z TI TO .ellipsis:=eB _ z5
 refine aB (yf z6 (by simp) λg7 z7 s7=>?_)
 replace z7:IsZip g7 z TI TO (rawInt g5.objs.size):=z7
 refine yf z7 (by simp) λg8 z8 s8=>?_
 replace z8:IsZip g8 z TI TO (rawInt g5.objs.size):=z8
 have up:∀c o,c≠z->g5.get? c=some o->g8.get? c=some o:=λc o c1 e=>s8.extBut _ _ c1 (s7.extBut _ _ c1 (eB _ e))
 have t8:IsPair g8 g5.objs.size (.str ⟨#[c0]⟩ s.toks) y:=s8.extBut _ _ (o7 zlt) (s7.extBut _ _ (o7 zlt) (fB _ rfl));rw[esz]at z8 t8;refine aP ⟨_,rfl,?_⟩;show Q (.ref g5.objs.size) _
 rw[esz];exact hQ g8 z8 (up _ _ D.TOz o5) (a5.at_ λo e=>up _ o D.i1z e) (b5.at λo e=>up _ o D.i2z e) t8 λc o c1 c2 c3 c4 e=>up c o c1 (k5 c o c1 c2 c3 c4 e)
def QV{z TI TO i1 i2:Addr}{k1:Nat}{x:Str}{t:Tok}{Q:Fin->Shared->Prop}(hh:A.handled=none)(n1:i1≠z)
  (hz:IsZip s.heap z TI TO .none) (hTI:IsPair s.heap TI (.ref i1) (.ref i2)) (h1:qx s.heap i1 x t k1) (hx:x.cps[k1]? =none)
  (hE:∀h' e,(∀c o,c≠z->c≠i1->s.heap.get? c=some o->h'.get? c=some o)->(∃o,h'.get? e=some o/\o.cls=.type "StopIteration")->E (.ref e) {s with heap:=h'}):
  wpAny (model prog w) A (Builtin.«zip.__next__» ⟨[.ref z],[]⟩) Q E s:=by
 refine(show wpAny _ _ (field (.ref z) 2 >>= _) _ _ _ from aB (sE hz rfl (x:= .bool false) rfl ?_));refine(show wpAny _ _ (field (.ref z) 3 >>= _) _ _ _ from aB (sE hz rfl (x:= .ref TI) rfl (aB (BV hTI rfl ?_))));refine(show wpAny _ _ (Builtin.SmallTypes.ownedTupleIsFree (.ref z) >>= _) _ _ _ from aB ?_);unfold Builtin.SmallTypes.ownedTupleIsFree;refine aB (sE hz rfl (x:= .none) rfl (aP ?_));simp only[mz];refine aB (wpAny_rule (aB (sE hz rfl (x:= .ref TO) rfl (aB (yf hz (by simp) λg1 z1 s1=>aB ?_)))))
 replace z1:IsZip g1 z TI TO .ellipsis:=z1
 simp only[List.zipIdx_cons,List.zipIdx_nil,List.forIn_cons,Fj];refine aB (aB (wpAny_onRaise (show wpAny _ _ (Builtin.SmallTypes.nextOf (.ref i1) >>= _) _ _ _ from aB (wpAny_nextOf_ascii_end (s:={s with heap:=g1}) hh (h1.at_ λo e=>s1.extBut _ _ n1 e) hx λg2 e s2 he=>?_))));obtain⟨oe,YK,hce⟩:=he;have z2:IsZip g2 z TI TO .ellipsis:=s2 _ _ n1.symm z1
 have hez:e≠z:=λq=>by subst q;rw[z2]at YK;cases YK;simp at hce
 refine yf z2 (by simp) λg3 _ s3=>hE g3 e (λc o c1 c3 q=>s3.extBut _ _ c1 (s2 _ _ c3 (s1.extBut _ _ c1 q))) ⟨oe,s3.extBut _ _ hez YK,hce⟩
noncomputable abbrev WD (h:Heap) (x:Str) (t:Tok):Heap:=h.push {cls:= .type "str_ascii_iterator",data:= .fields #[.str x t,.int 0 0]}
noncomputable abbrev WE (h:Heap) (x:Str) (t:Tok) (l2:Addr):Heap:=(WD h x t).push {cls:= .type "list_iterator",data:= .fields #[.ref l2,.int 0 0]}
noncomputable abbrev WG (h:Heap) (x:Str) (t:Tok) (l2:Addr):Heap:=(WE h x t l2).push {cls:= .type "tuple",data:= .seq #[.ref h.objs.size,.ref (WD h x t).objs.size]}
noncomputable abbrev WH (h:Heap) (x:Str) (t:Tok) (l2:Addr):Heap:=(WG h x t l2).push {cls:= .type "tuple",data:= .seq #[.none,.none]}
noncomputable abbrev Ue (h:Heap) (x:Str) (t:Tok) (l2:Addr):Heap:=(WH h x t l2).push {cls:= .type "zip",data:= .fields #[.none,.bool false,.bool false,.ref (WE h x t l2).objs.size,.ref (WG h x t l2).objs.size]}
def QW(x:Str)(t:Tok)(l2:Addr)(ys:Array Value)(ha:x.cps.all (· < 128)=true):
  Meets (Builtin.«zip.__new__» ⟨[.type "zip",.str x t,.ref l2],[]⟩) (λ_ R s=>s.heap.IsList l2 ys/\R (.ok (.ret (.ref (WH s.heap x t l2).objs.size))) {s with heap:=Ue s.heap x t l2}):=
 .of_wp λprog w A R s h=>by
  obtain⟨hp,g,d,tk,os⟩:=s;obtain⟨hl2,h⟩:=h;have hsub:=sub_zip;have hL:Heap.IsList (Shared.heap ⟨hp.push {cls:= .type "str_ascii_iterator",data:= .fields #[.str x t,.int 0 0]},g,d,tk,os⟩) l2 ys:=Heap.IsList.push hl2 _
  wp_walk using wpAny_pyIter_ascii ha,wpAny_pyIter_list hL
  exact⟨_,rfl,h⟩
def Oe{x:Str}{t:Tok}{l2:Addr}{ys:Array Value}{Q:Value->Shared->Prop}(ha:x.cps.all (· < 128)=true)(hl2:s.heap.IsList l2 ys)
  (h:∀h',IsZip h' (s.heap.objs.size+4) (s.heap.objs.size+2) (s.heap.objs.size+3) .none->IsPair h' (s.heap.objs.size+2) (.ref s.heap.objs.size) (.ref (s.heap.objs.size+1))->
   IsPair h' (s.heap.objs.size+3) .none .none->qx h' s.heap.objs.size x t 0->h'.IsListIter (s.heap.objs.size+1) l2 0->(∀c o,s.heap.get? c=some o->h'.get? c=some o)->Q (.ref (s.heap.objs.size+4)) {s with heap:=h'}):
  wpAny (model prog w) A (call (.type "zip") [.str x t,.ref l2]) Q E s:=by
 refine callType_new F.called_zip (by decide) (F.typeCall_zip_2 _ _) (F.newCall_zip_2 _ _) (λobj=>F.args_object_init_3 obj _ _) F.entry_zip_new (QW x t l2 ys ha) ⟨hl2,?_⟩;have z1:(WD s.heap x t).objs.size=s.heap.objs.size+1:=mj ..
 have z2:(WE s.heap x t l2).objs.size=s.heap.objs.size+2:=by rw[mj,z1]
 have z3:(WG s.heap x t l2).objs.size=s.heap.objs.size+3:=by rw[mj,z2]
 have z4:(WH s.heap x t l2).objs.size=s.heap.objs.size+4:=by rw[mj,z3]
 have g5:(Ue s.heap x t l2).get? (WH s.heap x t l2).objs.size=some _:=fB _ rfl;have g4:(Ue s.heap x t l2).get? (WG s.heap x t l2).objs.size=some _:=eB _ (fB _ rfl)
 have g3:(Ue s.heap x t l2).get? (WE s.heap x t l2).objs.size=some _:=eB _ (eB _ (fB _ rfl));have g2:(Ue s.heap x t l2).get? (WD s.heap x t).objs.size=some _:=eB _ (eB _ (eB _ (fB _ rfl)))
 have g1:(Ue s.heap x t l2).get? s.heap.objs.size=some _:=eB _ (eB _ (eB _ (eB _ (fB _ rfl))));show _/\_
 rw[z2,z3,z4]at g5;rw[z1,z2]at g3;rw[z3]at g4;rw[z1]at g2;rw[z4];exact⟨⟨_,g5,rfl⟩,h _ g5 g3 g4 ⟨_,g1,rfl,rfl⟩ ⟨_,g2,rfl,rfl⟩ λc o q=>eB _ (eB _ (eB _ (eB _ (eB _ q))))⟩
end
end ST
namespace L2
open PySem PySem.Spec PyProof.Rows
noncomputable def P4 (K:W.Frag) (x:Str) (b:Addr):It:=
 ⟨λi H=>∃(ys:List V) (c:Nat) (y:V),aX K H b ys/\x.cps[i]? =some c/\ys[i]? =some y,
  λi H v H'=>∃T c y,v=.ref T/\H T=none/\H'=upd H T (.tup [.str ⟨#[c]⟩,y])/\x.cps[i]? =some c/\∀ys,aX K H b ys->ys[i]? =some y,λi _=>x.cps.size<=i⟩
def Of{P:Program}{w:World}{K:W.Frag}{elts:List Expr}{kk:Nat}{tpos:Pos}{b z TI TO i1 i2:Addr}{x:Str}{t:Tok}(D:ZipApart z TI TO i1 i2 b b):
  Turn P w K (.Tuple elts kk tpos) (P4 K x b) [z,TI,TO,i1,i2] z (λi h=>IsZip h z TI TO .none/\IsPair h TI (.ref i1) (.ref i2)/\(∃x y,IsPair h TO x y)/\ST.qx h i1 x t i/\h.IsListIter i2 b i) where
 mem:=by simp
 obj:=λi h st c hc=>by
  obtain⟨hz,hTI,⟨p,y,hTO⟩,⟨o1,e1,_,d1⟩,⟨o2,e2,_,d2⟩⟩:=st;have e':c=z\/c=TI\/c=TO\/c=i1\/c=i2:=by simpa using hc
  rcases e' with q|q|q|q|q<;>rw[q]
  ·exact⟨_,hz,λv q=>nomatch q⟩
  ·exact⟨_,hTI,λv q=>nomatch q⟩
  ·exact⟨_,hTO,λv q=>nomatch q⟩
  ·exact⟨o1,e1,λv q=>by rw[d1]at q;cases q⟩
  ·exact⟨o2,e2,λv q=>by rw[d2]at q;cases q⟩
 keep:=λi h h' st k=>by
  obtain⟨hz,hTI,⟨p,y,hTO⟩,h1,h2⟩:=st;exact⟨k z (by simp) _ hz,k TI (by simp) _ hTI,⟨p,y,k TO (by simp) _ hTO⟩,ST.qx.at_ h1 λo q=>k i1 (by simp) o q,h2.at λo q=>k i2 (by simp) o q⟩
 item:=by
  intro X hP hw hK hc i pins s σ H E I hf st hg;subst hP hw hK;obtain⟨hz,hTI,⟨x0,y0,hTO⟩,h1,h2⟩:=st;obtain⟨ys,c,y,WI,hx,hy⟩:=hg;obtain⟨its2,rv2,p2,_⟩:=I.list WI;obtain⟨u2,P5,ru2⟩:=rv2.get hy;have YL:z<s.heap.objs.size:=cC hz
  have hT:s.TypeIs (.ref z) "zip":=⟨_,hz,rfl⟩;unfold pyNext;refine aB (yz (Eg (name:=Str.ofString "__next__") hT Fw (pI Fw hT F.entry_zip_next (ST.Od D hz hTI hTO h1 h2 p2.isList hx (by simpa using P5) λh' z' TO' h1' h2' hTn hk=>aP ?_) (F.args_zip_next_1 _))));refine⟨_,rfl,wpAny_letOwnedTupleGo_zip (s:={s with heap:=h',toks:=s.toks+1}) z' λh'' z'' sb=>?_⟩;have hT2:h''.get? s.heap.objs.size=some {cls:= .type "tuple",data:= .seq #[.str ⟨#[c]⟩ s.toks,u2]}:=(sb.2 _ (o7 YL)).trans hTn
  have new:fm X.prog X.w (upd H s.heap.objs.size (.tup [.str ⟨#[c]⟩,y])) h'' s.heap.objs.size (.tup [.str ⟨#[c]⟩,y]):=
   ⟨by show 2<=sizeLine;decide,[.str ⟨#[c]⟩ s.toks,u2],.cons ⟨_,rfl⟩ (.cons ru2 .nil),⟨_,hT2,rfl,_,rfl⟩⟩
  have I1:Inv X pins σ (upd H s.heap.objs.size (.tup [.str ⟨#[c]⟩,y])) {s with heap:=h'',toks:=s.toks+1}:=
   I.F4 (t':=s.toks+1) (ch:=[z,TI,TO,i1,i2]) (λc o hb q=>(sb.2 c (λq'=>hb (by simp[q']))).trans (hk c o (λq'=>hb (by simp[q'])) (λq'=>hb (by simp[q'])) (λq'=>hb (by simp[q'])) (λq'=>hb (by simp[q'])) q)) hf (bw _) new
  refine⟨.ref s.heap.objs.size,_,I1,rfl,⟨_,c,y,rfl,I.hok.fresh (bw _),rfl,hx,λl hl=>by rw[I.CS hl WI];exact hy⟩,⟨z'',?_,⟨.str ⟨#[c]⟩ s.toks,u2,?_⟩,?_,?_⟩,λc WJ=>?_⟩
  ·exact(sb.2 _ D.TIz).trans (hk _ _ D.TIz D.TITO D.TIi1 D.TIi2 hTI)
  ·exact(sb.2 _ D.TOz).trans TO'
  ·exact ST.qx.at_ h1' λo q=>(sb.2 _ D.i1z).trans q
  ·exact h2'.at λo q=>(sb.2 _ D.i2z).trans q
  ·have hlt:c<s.heap.objs.size:=by
    have e':c=z\/c=TI\/c=TO\/c=i1\/c=i2:=by simpa using WJ
    rcases e' with q|q|q|q|q<;>rw[q]
    ·exact YL
    ·exact cC hTI
    ·exact cC hTO
    ·obtain⟨_,e1,_⟩:=h1;exact cC e1
    ·obtain⟨_,e2,_⟩:=h2;exact cC e2
   rw[ai (iG hlt)];exact(hf c WJ).1
 done:=by
  intro X hP hw hK hc i pins s σ H E I hf st hg;subst hP hw hK;obtain⟨hz,hTI,⟨x0,y0,hTO⟩,h1,h2⟩:=st;have hT:s.TypeIs (.ref z) "zip":=⟨_,hz,rfl⟩
  have hx:x.cps[i]? =none:=vS hg;unfold pyNext;refine aB (yz (Eg (name:=Str.ofString "__next__") hT Fw (pI Fw hT F.entry_zip_next (ST.QV (I.ok.hd hc) D.i1z hz hTI h1 hx λh' e hk he=>?_) (F.args_zip_next_1 _))));obtain⟨o,ho,hcl⟩:=he;refine aB (sf (T:="StopIteration") (b:=true) ⟨o,ho,hcl⟩ isSubtype_stop (aP ⟨rfl,I.SS (t':=s.toks) (ch:=[z,TI,TO,i1,i2]) (λc o hb q=>hk c o (λq'=>hb (by simp[q'])) (λq'=>hb (by simp[q'])) q) hf⟩))
 self:=λA i s Q E st h=>wpAny_pyIter_zip st.1 h
def XD(K:W.Frag)(ta:TA):TI:=λσ H R=>ta σ H λvs H1=>∃x b ys,vs=[.str x,.ref b]/\x.cps.all (· < 128)=true/\aX K H1 b ys/\R (P4 K x b) H1
def M7{X:Cx}{e e2:Expr}{ta:TA}{p pos tpos:Pos}{elts:List Expr}{kk:Nat}(hg:Gl X "zip")(hm:X.mg "zip" =none)(ha:PA X [e,e2] ta)
  (hs:starEach [e,e2] X.env=(false,eval e X.env)::starEach [e2] X.env:=by rfl) (hpl:(backTo pos (starEach [e2] X.env)).any (·.1)=false:=by rfl):
  PI X (.Tuple elts kk tpos) (.Call (.Name "zip" p) [e,e2] [] pos) (XD X.K ta):=by
 intro pins s σ H R I h;refine Call_ (vM I hg hm N_ (Eb (cX (ha pos pins s σ H _ I h) λus s1 h0=>?_) hs hpl));obtain⟨vs,H1,I1,r1,q1⟩:=h0;obtain⟨x,b,ys,ex,hasc,WI,q⟩:=q1;subst ex;obtain⟨u,w',rfl,ru,rw'⟩:=vals2 r1;obtain⟨t,rfl⟩:=ru;cases rw';obtain⟨its2,rv2,p2,_⟩:=I1.list WI;have lb:b<s1.heap.objs.size:=p2.lt
 refine ST.Oe hasc p2.isList λh' hz hTI hTO h1 h2 hk=>wpAny_pyIter_zip hz ?_
 have I2:Inv X pins σ H1 {s1 with heap:=h'}:=I1.kept (t':=s1.toks) hk;refine⟨s1.heap.objs.size+4,[s1.heap.objs.size+4,s1.heap.objs.size+2,s1.heap.objs.size+3,s1.heap.objs.size,s1.heap.objs.size+1],_,_,H1,rfl,I2,Of (W.ktu_apart s1.heap.objs.size b b lb lb),⟨hz,hTI,⟨_,_,hTO⟩,h1,h2⟩,λc WJ=>?_,q⟩;have e':c=s1.heap.objs.size+4\/c=s1.heap.objs.size+2\/c=s1.heap.objs.size+3\/c=s1.heap.objs.size\/c=s1.heap.objs.size+1:=by simpa using WJ
 have hle:s1.heap.objs.size<=c:=by
  rcases e' with z|z|z|z|z<;>rw[z]<;>first|exact bw _|exact BR _ _
 exact I1.Il hle (I1.hok.fresh hle)
end L2
end
section
namespace L2
open PySem PySem.Spec PyProof.Rows
open PySem.AutoSeq1 (wpAny_loadPart')
def S7(l:Addr)(items:Array Value)(n:Nat)(b:Addr)(items2:Array Value)(n2:Nat)(dd:Option Addr)(sl:Array (Option Value))(hs0:¬(!items.isEmpty&&Builtin.List.listTooLong (items.size+items2.size))=true)(hs1:items.size<=sizeLine)(hs2:items.size+items2.size<=sizeLine+1):
  Meets (Builtin.«list.extend» ⟨[.ref l,.ref b],[]⟩) (λ_ R s=>s.heap.get? l=some {cls:= .type "list",dict:=none,data:= .seq items n,slots:=#[]}/\s.heap.get? b=some {cls:= .type "tuple",dict:=dd,data:= .seq items2 n2,slots:=sl}/\R (.ok (.ret Value.none)) {s with heap:=s.heap.update l (Obj.mapSeq λx=>x++items2)}):=
 .of_wp λprog w A R s h=>by
  obtain⟨hp,g,d,tk,os⟩:=s;obtain⟨hl,hb,h⟩:=h;have f1:=PySem.AutoSeq1.idx_int;have f2:=PySem.AutoSeq1.sub_tuple_tuple;have f3:=PySem.AutoSeq1.sub_list_list;have f4:=PySem.AutoSeq1.sub_tuple_list;have f5:=PySem.AutoSeq1.sub_list_tuple;have hz':(items++items2).size<=sizeLine+1:=by rw[Array.size_append];exact hs2
  wp_walk using(wpAny_updateSeq hl rfl (hz:=hs1) (_hz':=hz')),wpAny_loadPart' hl,wpAny_loadPart' hb
  exact⟨_,rfl,h⟩
section
variable{X:Cx}
def FnV(X:Cx)(k:Nat)(f:Addr)(sp:Sp):Prop:=∃fd ps,aT X.prog X.w X.K X.mg X.base cR k f fd ps sp/\Binds X.K fd ps []/\W.keepIn X.K (.ref f)=true
def QX{i k:Nat}{x:Str}{e:Expr}{es:List Expr}{t:TA}{p pos:Pos}(hr:jS k X.A)(hN:X.N[i]? =some x)(hv:RT X.env.scope x)(ha:PA X (e::es) t)(hd:(x==("__debug__":Str))=false:=by decide)(hcd:(x==("__classdict__":Str))=false:=by decide)
  (he:starEach (e::es) X.env=(false,eval e X.env)::starEach es X.env:=by rfl) (hpl:(backTo pos (starEach es X.env)).any (·.1)=false:=by rfl):
  PE X (.Call (.Name x p) (e::es) [] pos) (λσ H Q=>∃f sp,σ[i]? =some (some (.ref f))/\FnV X k f sp/\t σ H λvs H1=>sp vs H1 Q E0):=by
 intro pins s σ H Q I h;obtain⟨f,sp,hf,⟨fd,ps,F,hb,hk⟩,q⟩:=h;refine Call_ (cX (PJ (pos:=p) hN hv hd hcd pins s σ H (λv H'=>v=.ref f/\H'=H) I ⟨_,hf,rfl,rfl⟩) λu s1 h0=>?_);obtain⟨v,H1,I1,r1,e1,e2⟩:=h0;subst e1 e2;cases r1;refine E4 (h₀:=X.base) I.ok.mod.T4 hk (cX (ha pos pins s1 σ H1 _ I1 q) λus s2 ⟨vs,H2,I2,r2,q2⟩=>⟨I2.rD,?_⟩) he hpl;exact FU F hr hb .nil aA I2 r2 (by rw[nP];exact q2)
def jx:qp X (.builtin "isinstance") (λxs H Q=>∃(x:V) (c:Addr) (t:Value) (b:Bool),xs=[x,.ref c]/\pP X.K H x t/\W.kitOne X.K t (.ref c)=some b/\Q (.bl b) H):=by
 intro pins s σ H xs us Q I r h;obtain⟨x,c,t,b,rfl,ty,hk,q⟩:=h;obtain⟨u,w',rfl,ru,rw'⟩:=vals2 r;cases rw';exact NY I ru ty hk λtk=>⟨.bl b,H,I.tok tk,rfl,q⟩
def LM:YG X "list.extend" (λx vs H Q=>∃l b xs zs,x=.ref l/\vs=[.ref b]/\H l=some (.lst xs)/\H b=some (.tup zs)/\xs.length+zs.length<=sizeLine/\Q .gq (upd H l (.lst (xs++zs)))):=by
 intro pins s σ H x vs v us Q I rx rv h;obtain⟨l,b,xs,zs,rfl,rfl,hH,hB,hz,q⟩:=h;cases rx;obtain⟨u,rfl,ru⟩:=rv.one;cases ru;obtain⟨z,its,n,r,hl,e⟩:=I.Lk hH;obtain⟨z2,its2,r2,o2,e2,c2,n2,d2⟩:=(show fm X.prog X.w H s.heap b (.tup zs)from I.hok b _ hB);obtain⟨oc,od,odt,osl⟩:=o2;simp only at c2 d2;subst c2 d2;have hl2:=r2.length
 have hsz:its.toArray.size+its2.toArray.size<=sizeLine:=by rw[iM,iM];omega
 have O8:¬(!its.toArray.isEmpty&&Builtin.List.listTooLong (its.toArray.size+its2.toArray.size))=true:=by rw[IV hsz,Fo];exact gZ
 refine call_meets F.slot_list_extend ⟨_,e,rfl⟩ F.entry_list_extend (F.args_list_extend_2 _ _) (S7 l its.toArray n b its2.toArray n2 od osl O8 (by rw[iM];omega) (by omega)) ⟨e,e2,?_⟩;refine⟨.gq,_,I.UG (its':=its++its2) hH e (by simp) (r.append r2) ?_,rfl,q⟩;rw[gb];omega
def Og:YE X "int.bit_length" (λx xs H Q=>∃i,x=.int i/\xs=[]/\Q (.int (Builtin.Int.intBits i:Nat)) H):=by
 intro pins s σ H x xs v us Q I rx r h;obtain⟨i,rfl,rfl,q⟩:=h;obtain⟨t,rfl⟩:=rx;cases r.zero;exact call_gives F.slot_int_bit_length (typeIs_int s i t) F.entry_int_bit_length (F.args_int_bit_length_1 _) (PySem.AutoIntG2.int_bit_length_int_0 i t) ⟨.int (Builtin.Int.intBits i:Nat),H,I.tok _,⟨_,rfl⟩,q⟩
def Vx(td ty:TE):TE:=λσ H Q=>td σ H λx H1=>∃a,x=.ref a/\WA H1 a/\ty σ H1 λy H2=>∃kvs k b v,H2 a=some (.dT kvs)/\y=.ref b/\H2 b=some (.tup (k.map kV))/\fO kvs k=some v/\Q v (upd H2 a (.dT (j5 kvs k)))
theorem KT.Ug{H:Hp}:∀{kvs:List (List Key×V)} {xs:List (List Key×Addr×Value)},KT H kvs xs->∀k,KT H (j5 kvs k) (xs.filter λx=>decide (x.1≠k))
 |_,_,.nil,k=>.nil
 |_,_,.cons (a:=p) (b:=q) h t,k=>by
  have ih:=KT.Ug t k;have e:p.1=q.1:=h.1
  by_cases c:p.1=k
  ·rw[F8 c,kP,aq (by simp[<- e,c])];exact ih
  ·rw[F9 c,kP,ay (by simp[<- e,c])];exact .cons h ih
def QY{o e:Expr}{apos cpos:Pos}{td ty:TE}(hu:X.A.units+1<cLine)(ho:PE X o td)(he:PE X e ty)(m:M1 X o "pop" apos e cpos):PE X (.Call (.Attribute o "pop" apos) [e] [] cpos) (Vx td ty):=by
 intro pins s σ H Q I h;refine wpAny_Call_method m.base m.few m.line J3 J8 PySem.F.type_dict_pop (cX (ho pins s σ H _ I h) λu s1 h0=>?_);obtain⟨x,H1,I1,rx,a,ex,d,q1⟩:=h0;subst ex;obtain rfl:u=Value.ref a:=rx;obtain⟨t1,t2,_⟩:=KR I1 d;refine⟨t1,t2,?_⟩;rw[m.trees];refine BJ rfl (E5 (E_ (cX (he pins s1 σ H1 _ I1 q1) λiv s2 ⟨y,H2,I2,ry,kvs,k,b,v,ea,ey,eb,l,q2⟩=>Fg ?_)));subst ey;cases (show iv=Value.ref b from ry);obtain⟨z,hd,xs,rel,dd⟩:=Ua I2.hok ea;have hz:xs.length<=sizeLine:=by rw[<- vK rel];exact z
 obtain⟨w',hw,rw'⟩:=nV.some_of (v:=v) (o:=(atKey xs k).map (·.2)) (by rw[<- l];exact rel.val k);obtain⟨p,hp,hp2⟩:=f_.mp hw;refine ST.QU (yr hu) (vO I2.hok eb) dd hz hp λh' tk IZ hs=>?_
 obtain⟨q,es,ep,hq,h2,h3,h4,_,h5⟩:=IZ;refine⟨v,upd H2 a (.dT (j5 kvs k)),xE (t':=tk) (ob:= .dT (j5 kvs k)) I2 (by rw[ea];exact True.intro) hs ⟨q,hq⟩ ⟨gz (IY kvs k) z,hd,_,(rel.Ug k).keeps λc ys ec=>?_,q,es,ep,hq,h2,h3,h4,h5⟩,by rw[hp2];exact rw',q2⟩;rw[ai (bh ec ea (λz=>nomatch z))];exact ec
end
end L2
end
section
namespace L2
open PySem PySem.Spec PyProof.Rows
def Vy(td:TE):TI:=λσ H R=>td σ H λx H1=>∃d kvs,x=.ref d/\H1 d=some (.dK kvs)/\∀o,R (Ud d o kvs) (upd H1 d (.je o (.dK kvs)))
def QZ{X:Cx}{tg e:Expr}{td:TE}(he:PE X e td):PI X tg e (Vy td):=by
 intro pins s σ H R I h;refine cX (he pins s σ H _ I h) λu s1 h0=>?_
 obtain⟨x,H1,I1,rx,d,kvs,ex,hd,q⟩:=h0;subst ex;obtain rfl:u=Value.ref d:=rx;obtain⟨o,I2⟩:=I1.lock hd trivial;obtain⟨hs,hgd,hx,es,ep,vs,hdt,hsz,kv,hm⟩:=I2.RJ af;refine z_ hs hgd hx hdt (yW (tk:=s1.toks) I2 _ (F6 _ hdt) ⟨_,fB _ rfl,rfl,?_⟩ (q o));rw[hsz]<;>rfl
def Gy{d:Addr}{o:Obj}{kvs:List (Key×V)}{g:TG}{tt:TT}{te:TE}{vs:List Nat}{σ:St}{H1:Hp}{D:Addr}{Qd:Hp->Prop}(Pv:Nat->Hp->Prop)(h0:Pv 0 (upd H1 D (.lst [])))(hl:∀i H,i<=kvs.length->Pv i H->H d=some (.je o (.dK kvs)))
  (hs:∀i k v H,kvs[i]? =some (k,v)->Pv i H->g (kV k) (wipe σ vs) H λσ2 H2=>wipe σ2 vs=wipe σ vs/\tt σ2 H2 λb H3=>
   if b=true then te σ2 H3 λy H4=>∃acc,H4 D=some (.lst acc)/\acc.length<sizeLine/\Pv (i+1) (upd H4 D (.lst (acc++[y])))else Pv (i+1) H3) (hd:∀H,Pv kvs.length H->Qd H):
  ∃W:Nat->Nat->Hp->Prop,(∃m,W 0 m (upd H1 D (.lst [])))/\∀i m H,W i m H->
   ((Ud d o kvs).stop i H/\Qd H)\/((Ud d o kvs).go i H/\∃Nx:Hp->Prop,(∀H',Nx H'->∃m',m'<m/\W (i+1) m' H')/\∀x H',(Ud d o kvs).El i H x H'->g x (wipe σ vs) H' λσ2 H2=>wipe σ2 vs=wipe σ vs/\tt σ2 H2 λb H3=>
    if b=true then te σ2 H3 λy H4=>∃acc,H4 D=some (.lst acc)/\acc.length<sizeLine/\Nx (upd H4 D (.lst (acc++[y])))else Nx H3):=by
 refine⟨λi m H=>m=kvs.length-i/\i<=kvs.length/\Pv i H,⟨kvs.length,by simp,fC _,h0⟩,?_⟩
 rintro i m H ⟨rfl,hi,p⟩
 have q:=hl i H hi p;by_cases hlt:i<kvs.length
 ·refine .inr ⟨⟨q,hlt⟩,Pv (i+1),λH' p'=>⟨kvs.length-(i+1),by omega,rfl,hlt,p'⟩,λx H' y=>?_⟩;obtain⟨e,k,v,hk,rfl⟩:=y;subst e;exact hs i k v _ hk p
 ·have e:i=kvs.length:=by omega
  subst e;exact .inl ⟨⟨q,bw _⟩,hd H p⟩
def Q0{K:W.Frag}{a:Addr}{xs:List V}{g:TG}{tb:TS}{D:Ends}{σ:St}{H:Hp}(Pv:Nat->St->Hp->Prop)(h0:Pv 0 σ H)(hl:∀i σ H,i<=xs.length->Pv i σ H->aX K H a xs)
  (hs:∀i x σ H t,xs[i]? =some x->Pv i σ H->H t=none->g (.ref t) σ (upd H t (.tup [.int (i:Nat),x])) λσ2 H2=>tb {D with nx:=Pv (i+1),ct:=Pv (i+1),bk:=D.nx} σ2 H2) (hd:∀σ H,Pv xs.length σ H->D.nx σ H):
  ∃W:Nat->Nat->St->Hp->Prop,(∃m,W 0 m σ H)/\∀i m σ H,W i m σ H->
   ((Vr K a).stop i H/\D.nx σ H)\/((Vr K a).go i H/\∃N:St->Hp->Prop,(∀σ' H',N σ' H'->∃m',m'<m/\W (i+1) m' σ' H')/\∀x H',(Vr K a).El i H x H'->g x σ H' λσ2 H2=>tb {D with nx:=N,ct:=N,bk:=D.nx} σ2 H2):=by
 refine⟨λi m σ H=>m=xs.length-i/\i<=xs.length/\Pv i σ H,⟨xs.length,by simp,fC _,h0⟩,?_⟩
 rintro i m σ H ⟨rfl,hi,p⟩
 have q:=hl i σ H hi p;by_cases hlt:i<xs.length
 ·refine .inr ⟨⟨xs,xs[i],q,by simp[hlt]⟩,Pv (i+1),λσ' H' p'=>⟨xs.length-(i+1),by omega,rfl,hlt,p'⟩,λv H' y=>?_⟩;obtain⟨t,x,rfl,ht,rfl,hx⟩:=y;exact hs i x σ H t (hx xs q) p ht
 ·have e:i=xs.length:=by omega
  subst e;exact .inl ⟨⟨xs,q,bw _⟩,hd σ H p⟩
end L2
end
namespace Pr
open PySem PySem.Spec PyProof.Rows L2
open Vbwsae (Version Node leastKey nodeAt underAt depth delAt leastAt LEVELS pairs wellDiff sameOpt diffAt tree join both valueIn rowIn keyIn diffIn CHANGES pairsIn changesOf optRow counted changeRow versionIn version newVersion VERSIONS NODES needed ofVersion treeOf getAt rangeAt Call ranged act bit sumOf alive listed addVersion nodesOf cut decode does)
noncomputable def top (i:Nat):Stmt:=PySem.Challenge.pw_sharedtrees_s01_answers.main.body.getD i (.Pass ⟨0,0,0,0⟩)
abbrev FS(N ps:List Str)(st:Stmt):Prop:=Bt N ps (fP st)
def fs{N ps:List Str}{st:Stmt}(h1:(fP st).kind=.function:=by rfl)(h2:(fP st).isCoroutine=false:=by rfl)(h3:(fP st).isGenerator=false:=by rfl)(h4:N.Nodup:=by decide +kernel)(h5:N.take ps.length=ps:=by rfl)
  (h6:∀x∈ps,(fP st).names.lookup x=some .local\/(fP st).names.lookup x=some .cell:=by decide +kernel) (h7:∀y∈(fP st).names,y.2≠ .free:=by decide +kernel):FS N ps st:=⟨h1,h2,h3,h4,h5,h6,h7⟩
abbrev uz:Stmt:=inClass (top 2) 0
def G9:FS ["self","key","value"] ["self","key","value"] uz:=fs
abbrev uA:Stmt:=inClass (top 3) 0
def G_:FS ["self","bit","left","right","least"] ["self","bit","left","right","least"] uA:=fs
abbrev rG:Stmt:=inClass (top 4) 0
def Eu:FS ["self"] ["self"] rG:=fs
abbrev rH:Stmt:=inClass (top 4) 1
def Ew:FS ["self","number"] ["self","number"] rH:=fs
abbrev lQ:Stmt:=inClass (top 4) 2
def xF:FS ["self","key","value"] ["self","key","value"] lQ:=fs
abbrev lR:Stmt:=inClass (top 4) 3
def xG:FS ["self","bit","left","right"] ["self","bit","left","right"] lR:=fs
abbrev rJ:Stmt:=inClass (top 4) 4
def Ex:FS ["self","node"] ["self","node"] rJ:=fs
abbrev ly:Stmt:=inClass (top 4) 5
def nZ:FS ["self","made","number"] ["self","made"] ly:=fs
abbrev lT:Stmt:=inClass (top 4) 6
def jy:FS ["self","needed","unneeded","number"] ["self","needed"] lT:=fs
abbrev lz:Stmt:=inClass (top 4) 7
def n6:FS ["self","number","node"] ["self","number"] lz:=fs
abbrev CU:Stmt:=top 6
def Oh:FS ["key","bit"] ["key","bit"] CU:=fs
abbrev kh:Stmt:=top 7
def tG:FS ["key","other"] ["key","other"] kh:=fs
abbrev pV:Stmt:=top 8
def oG:FS ["nodes","key","value","top","leaf","bit"] ["nodes","key","value","top"] pV:=fs
abbrev uB:Stmt:=top 9
def yZ:FS ["nodes","top","key","value","node"] ["nodes","top","key","value"] uB:=fs
abbrev w_:Stmt:=top 10
def pS:FS ["nodes","top","key","node","left","right"] ["nodes","top","key"] w_:=fs
abbrev xg:Stmt:=top 11
def uC:FS ["nodes","top","key","node"] ["nodes","top","key"] xg:=fs
abbrev rK:Stmt:=top 12
def wk:FS ["nodes","top","found","node"] ["nodes","top","found"] rK:=fs
abbrev oH:Stmt:=top 13
def gu:FS ["nodes","top","lo","hi","found","node","first","mid","count"] ["nodes","top","lo","hi","found"] oH:=fs
abbrev m_:Stmt:=top 14
def qP:FS ["nodes","top","lo","hi","pairs"] ["nodes","top","lo","hi"] m_:=fs
abbrev xh:Stmt:=top 15
def AO:FS ["nodes","top","node"] ["nodes","top"] xh:=fs
abbrev ng:Stmt:=top 16
def qQ:FS ["nodes","top","needed","node"] ["nodes","top","needed"] ng:=fs
abbrev pW:Stmt:=inClass (top 18) 0
def DE:FS ["self","key","before","behind"] ["self","key","before","behind"] pW:=fs
abbrev nh:Stmt:=inClass (top 19) 0
def An:FS ["self","key","base","first","second"] ["self","key","base","first","second"] nh:=fs
abbrev oJ:Stmt:=inClass (top 20) 0
def B5:FS ["self"] ["self"] oJ:=fs
abbrev ni:Stmt:=top 21
def kH:FS ["changes","last","change"] ["changes"] ni:=fs
abbrev oK:Stmt:=top 22
def nj:FS ["nodes","top","changes","place","change"] ["nodes","top","changes"] oK:=fs
abbrev uD:Stmt:=top 23
def rL:FS ["changes","change"] ["changes"] uD:=fs
abbrev xj:Stmt:=top 24
def uE:FS ["changes","change"] ["changes"] xj:=fs
abbrev CV:Stmt:=top 25
def Aa:FS ["changes","found","change"] ["changes"] CV:=fs
abbrev CW:Stmt:=top 26
def qH:FS ["first","second","ours","theirs","changes","key"] ["first","second"] CW:=fs
abbrev CY:Stmt:=top 27
def qI:FS ["first","second","ours","theirs","merging","key"] ["first","second"] CY:=fs
abbrev ki:Stmt:=top 28
def iA:FS ["nodes","top","other","changes","before","behind","key"] ["nodes","top","other","changes"] ki:=fs
abbrev lU:Stmt:=top 29
def lA:FS ["nodes","top","other","one","two"] ["nodes","top","other"] lU:=fs
abbrev Ab:Stmt:=top 30
def oz:FS ["nodes","top","other","changes","one","two","left_count","right_count"] ["nodes","top","other","changes"] Ab:=fs
abbrev rM:Stmt:=top 31
def wo:FS ["nodes","top","other","changes"] ["nodes","top","other"] rM:=fs
abbrev pX:Stmt:=inClass (top 52) 0
def DF:FS ["self","numbers"] ["self","numbers"] pX:=fs
abbrev lV:Stmt:=inClass (top 52) 1
def xH:FS ["self"] ["self"] lV:=fs
abbrev kj:Stmt:=inClass (top 52) 2
def mF:FS ["self","number"] ["self"] kj:=fs
abbrev jV:Stmt:=inClass (top 52) 3
def jF:FS ["self","count","start"] ["self"] jV:=fs
abbrev jc:Stmt:=inClass (top 52) 4
def iV:FS ["self","form","letter"] ["self","form"] jc:=fs
abbrev CZ:Stmt:=top 53
def Oi:FS ["number"] ["number"] CZ:=fs
abbrev xm:Stmt:=top 54
def Jz:FS ["number"] ["number"] xm:=fs
abbrev nq:Stmt:=top 55
def Ao:FS ["present","value"] ["present","value"] nq:=fs
abbrev lB:Stmt:=top 56
def n8:FS ["numbers","place"] ["numbers"] lB:=fs
abbrev mH:Stmt:=top 57
def lW:FS ["numbers","pair"] ["numbers"] mH:=fs
abbrev pY:Stmt:=top 58
def DG:FS ["letter","argument"] ["letter","argument"] pY:=fs
abbrev oM:Stmt:=top 59
def k6:FS ["form","arguments","letter","argument"] ["form","arguments"] oM:=fs
abbrev rN:Stmt:=top 60
def Ey:FS ["present","value"] ["present","value"] rN:=fs
abbrev oN:Stmt:=top 61
def jK:FS ["numbers","changes","place","before","behind"] ["numbers"] oN:=fs
abbrev rO:Stmt:=top 62
def pZ:FS ["numbers","place"] ["numbers"] rO:=fs
abbrev rP:Stmt:=top 63
def Ez:FS ["value"] ["value"] rP:=fs
abbrev oO:Stmt:=top 64
def nt:FS ["changes","told","change"] ["changes"] oO:=fs
abbrev mJ:Stmt:=top 65
def lX:FS ["conflicts","told","conflict"] ["conflicts"] mJ:=fs
abbrev rQ:Stmt:=top 66
def p5:FS ["pairs","told","pair"] ["pairs"] rQ:=fs
abbrev oQ:Stmt:=top 67
def B6:FS ["pairs","place"] ["pairs","place"] oQ:=fs
abbrev uF:Stmt:=top 68
def Hf:FS ["node"] ["node"] uF:=fs
abbrev xo:Stmt:=top 70
def AQ:FS ["store","arguments","version"] ["store","arguments"] xo:=fs
abbrev p6:Stmt:=top 71
def ve:FS ["store","arguments","version"] ["store","arguments"] p6:=fs
abbrev xq:Stmt:=top 72
def JA:FS ["store","arguments"] ["store","arguments"] xq:=fs
abbrev uG:Stmt:=top 73
def rR:FS ["store","arguments","pairs","count"] ["store","arguments"] uG:=fs
abbrev uH:Stmt:=top 74
def rS:FS ["store","arguments","changes","count"] ["store","arguments"] uH:=fs
abbrev rT:Stmt:=top 75
def mR:FS ["store","arguments","version","changes","misfit"] ["store","arguments"] rT:=fs
abbrev uI:Stmt:=top 76
def n9:FS ["store","arguments","first","second","changes"] ["store","arguments"] uI:=fs
abbrev rV:Stmt:=top 77
def kT:FS ["store","base","first","second","top","merging","parents","answer"] ["store","base","first","second"] rV:=fs
abbrev rW:Stmt:=top 78
def wz:FS ["store","arguments","base"] ["store","arguments"] rW:=fs
abbrev mK:Stmt:=top 79
def zB:FS ["store","arguments"] ["store","arguments"] mK:=fs
abbrev uJ:Stmt:=top 80
def Hg:FS ["store","arguments"] ["store","arguments"] uJ:=fs
abbrev rX:Stmt:=top 81
def wA:FS ["store","arguments","needed"] ["store","arguments"] rX:=fs
abbrev p7:Stmt:=top 82
def j9:FS ["store","arguments","first","second","both","number"] ["store","arguments"] p7:=fs
abbrev uK:Stmt:=top 83
def Hh:FS ["store","arguments"] ["store","arguments"] uK:=fs
abbrev oR:Stmt:=top 84
def B7:FS ["store","arguments"] ["store","arguments"] oR:=fs
abbrev uL:Stmt:=top 85
def y9:FS ["store","arguments","top"] ["store","arguments"] uL:=fs
abbrev uM:Stmt:=top 86
def Hi:FS ["store","arguments"] ["store","arguments"] uM:=fs
abbrev xr:Stmt:=top 87
def JB:FS ["store","arguments"] ["store","arguments"] xr:=fs
abbrev xu:Stmt:=top 88
def pT:FS ["store","arguments","pairs","pair"] ["store","arguments"] xu:=fs
abbrev oS:Stmt:=top 89
def sN:FS ["store","arguments","parents"] ["store","arguments"] oS:=fs
abbrev p8:Stmt:=top 90
def DH:FS ["store","arguments"] ["store","arguments"] p8:=fs
abbrev p9:Stmt:=top 91
def vg:FS ["store","arguments","version"] ["store","arguments"] p9:=fs
abbrev oU:Stmt:=top 92
def sO:FS ["store","arguments","changes"] ["store","arguments"] oU:=fs
abbrev uN:Stmt:=top 93
def y_:FS ["store","arguments","top"] ["store","arguments"] uN:=fs
abbrev nu:Stmt:=top 94
def Aq:FS ["store","arguments"] ["store","arguments"] nu:=fs
abbrev oV:Stmt:=inClass (top 98) 0
def B8:FS ["self","top","parents"] ["self","top","parents"] oV:=fs
abbrev rY:Stmt:=inClass (top 99) 0
def EA:FS ["self"] ["self"] rY:=fs
abbrev mL:Stmt:=inClass (top 99) 1
def zC:FS ["self","version"] ["self","version"] mL:=fs
abbrev ny:Stmt:=inClass (top 99) 2
def Ar:FS ["self","version"] ["self","version"] ny:=fs
abbrev oW:Stmt:=inClass (top 99) 3
def B9:FS ["self","version"] ["self","version"] oW:=fs
abbrev lC:Stmt:=inClass (top 99) 4
def v7:FS ["self","version"] ["self","version"] lC:=fs
abbrev rZ:Stmt:=inClass (top 99) 5
def wB:FS ["self","version","dropped"] ["self","version"] rZ:=fs
abbrev nA:Stmt:=inClass (top 99) 6
def As:FS ["self"] ["self"] nA:=fs
abbrev nB:Stmt:=inClass (top 99) 7
def kI:FS ["self","version","line","number","parent"] ["self","version"] nB:=fs
abbrev lY:Stmt:=inClass (top 99) 8
def jz:FS ["self","version","other","line","number"] ["self","version","other"] lY:=fs
abbrev lZ:Stmt:=inClass (top 99) 9
def lD:FS ["self","versions","needed","version"] ["self","versions"] lZ:=fs
abbrev jW:Stmt:=inClass (top 99) 10
def jG:FS ["self","number"] ["self"] jW:=fs
abbrev ko:Stmt:=inClass (top 99) 11
def iB:FS ["self","top","writes","parents","made","write"] ["self","top","writes","parents"] ko:=fs
abbrev nE:Stmt:=inClass (top 99) 12
def Au:FS ["self","top","key","value"] ["self","top","key","value"] nE:=fs
abbrev kC:Stmt:=top 101
def jX:FS ["store","form","arguments","letter","argument"] ["store","form","arguments"] kC:=fs
abbrev p_:Stmt:=top 102
def oX:FS ["store","number","arguments","form","perform"] ["store","number","arguments"] p_:=fs
abbrev Ac:Stmt:=top 103
def mq:FS ["calls","store","reader","told","number","answer"] ["calls"] Ac:=fs
structure TF(K:W.Frag)(mg:Str->Option Value)(x:Str)(st:Stmt)(p:Addr×FuncData)(ps:List Str):Prop where
 F:RY K x x st p.1 p.2
 b:Binds K p.2 ps []
 m:mg x=some (.ref p.1)
structure TM(K:W.Frag)(C:Addr)(x qual:Str)(st:Stmt)(p:Addr×FuncData)(ps:List Str):Prop where
 F:RY K x qual st p.1 p.2
 b:Binds K p.2 ps []
 m:Meth K C x p.1
set_option genInjectivity false in
set_option genSizeOf false in
structure Ad where
 (fE fq bW fy dH gB dB bV bX xJ ud:Addr)
 (j_ kg jj aQ bT aY gY dX eN cI iW bB eU e9 gh iP cK bL bD gi bR fz fU gC bE fQ jA kO iX joined merged cg dN compare difference iE eO bC cG bS j8 gj cV cZ eE gR fR fH bM fJ bH cD eF iH dP jB iQ eV iR gD gE fK gF fL fM cH gG fN eW gH dQ gI gJ iS iT dU eX eY dW gK cW fS jk dI b7 aG cJ jl fV d_ cS bK bu aW fW cz gS answers:Addr×FuncData)
structure Txt(K:W.Frag)(mg:Str->Option Value)(a:Ad):Prop where
 ir:rE K a.fE
 mZ:mg "Leaf" =some (.ref a.fE)
 S8:Mk K a.fE a.j_.1
 jg:bz K a.fE "key"
 kU:bz K a.fE "value"
 wC:bz K a.fE "least"
 wD:bz K a.fE "shape"
 aR:rE K a.fq
 Gz:mg "Fork" =some (.ref a.fq)
 S9:Mk K a.fq a.kg.1
 cA:bz K a.fq "bit"
 di:bz K a.fq "left"
 b8:bz K a.fq "right"
 jQ:bz K a.fq "least"
 wF:bz K a.fq "shape"
 aM:rE K a.bW
 Q2:mg "Nodes" =some (.ref a.bW)
 Q4:Mk K a.bW a.jj.1
 fc:bz K a.bW "made"
 iK:bz K a.bW "kept"
 ie:bz K a.bW "numbers"
 bq:rE K a.fy
 vh:mg "Change" =some (.ref a.fy)
 vj:Mk K a.fy a.fz.1
 gW:bz K a.fy "key"
 dY:bz K a.fy "before"
 bA:bz K a.fy "behind"
 jh:rE K a.dH
 JC:mg "Conflict" =some (.ref a.dH)
 JD:Mk K a.dH a.fU.1
 sP:bz K a.dH "key"
 qR:bz K a.dH "base"
 pU:bz K a.dH "first"
 pq:bz K a.dH "second"
 iI:rE K a.gB
 LN:mg "Merging" =some (.ref a.gB)
 LO:Mk K a.gB a.gC.1
 gr:bz K a.gB "writes"
 iJ:bz K a.gB "conflicts"
 eS:rE K a.dB
 Oj:mg "Reader" =some (.ref a.dB)
 Ol:Mk K a.dB a.iE.1
 gX:bz K a.dB "numbers_read"
 gv:bz K a.dB "place"
 kW:rE K a.bV
 Dm:mg "Version" =some (.ref a.bV)
 Dn:Mk K a.bV a.fS.1
 vm:bz K a.bV "top"
 pA:bz K a.bV "parents"
 nF:bz K a.bV "held"
 aE:rE K a.bX
 Q5:mg "Store" =some (.ref a.bX)
 Q6:Mk K a.bX a.jk.1
 aU:bz K a.bX "nodes"
 bY:bz K a.bX "versions"
 j_:TM K a.fE "__init__" "Leaf.__init__" uz a.j_ ["self","key","value"]
 kg:TM K a.fq "__init__" "Fork.__init__" uA a.kg ["self","bit","left","right","least"]
 jj:TM K a.bW "__init__" "Nodes.__init__" rG a.jj ["self"]
 aQ:TM K a.bW "node" "Nodes.node" rH a.aQ ["self","number"]
 bT:TM K a.bW "keep_leaf" "Nodes.keep_leaf" lQ a.bT ["self","key","value"]
 aY:TM K a.bW "keep_fork" "Nodes.keep_fork" lR a.aY ["self","bit","left","right"]
 gY:TM K a.bW "keep" "Nodes.keep" rJ a.gY ["self","node"]
 dX:TM K a.bW "undo_since" "Nodes.undo_since" ly a.dX ["self","made"]
 eN:TM K a.bW "keep_only" "Nodes.keep_only" lT a.eN ["self","needed"]
 cI:TM K a.bW "throw_away" "Nodes.throw_away" lz a.cI ["self","number"]
 iW:TF K mg "bit_of" CU a.iW ["key","bit"]
 bB:TF K mg "highest_unlike_bit" kh a.bB ["key","other"]
 eU:TF K mg "keep_beside" pV a.eU ["nodes","key","value","top"]
 e9:TF K mg "put_value" uB a.e9 ["nodes","top","key","value"]
 gh:TF K mg "take_out" w_ a.gh ["nodes","top","key"]
 iP:TF K mg "value_at" xg a.iP ["nodes","top","key"]
 cK:TF K mg "gather_map" rK a.cK ["nodes","top","found"]
 bL:TF K mg "gather_range" oH a.bL ["nodes","top","lo","hi","found"]
 bD:TF K mg "pairs_between" m_ a.bD ["nodes","top","lo","hi"]
 gi:TF K mg "depth_of" xh a.gi ["nodes","top"]
 bR:TF K mg "gather_needed" ng a.bR ["nodes","top","needed"]
 fz:TM K a.fy "__init__" "Change.__init__" pW a.fz ["self","key","before","behind"]
 fU:TM K a.dH "__init__" "Conflict.__init__" nh a.fU ["self","key","base","first","second"]
 gC:TM K a.gB "__init__" "Merging.__init__" oJ a.gC ["self"]
 bE:TF K mg "is_difference" ni a.bE ["changes"]
 fQ:TF K mg "first_misfit" oK a.fQ ["nodes","top","changes"]
 jA:TF K mg "writes_of" uD a.jA ["changes"]
 kO:TF K mg "inverted" xj a.kO ["changes"]
 iX:TF K mg "by_key" CV a.iX ["changes"]
 joined:TF K mg "joined" CW a.joined ["first","second"]
 merged:TF K mg "merged" CY a.merged ["first","second"]
 cg:TF K mg "append_map_changes" ki a.cg ["nodes","top","other","changes"]
 dN:TF K mg "are_forks_alike" lU a.dN ["nodes","top","other"]
 compare:TF K mg "compare" Ab a.compare ["nodes","top","other","changes"]
 difference:TF K mg "difference" rM a.difference ["nodes","top","other"]
 iE:TM K a.dB "__init__" "Reader.__init__" pX a.iE ["self","numbers"]
 eO:TM K a.dB "has_more" "Reader.has_more" lV a.eO ["self"]
 bC:TM K a.dB "take_number" "Reader.take_number" kj a.bC ["self"]
 cG:TM K a.dB "take_numbers" "Reader.take_numbers" jV a.cG ["self"]
 bS:TM K a.dB "take_arguments" "Reader.take_arguments" jc a.bS ["self","form"]
 j8:TF K mg "is_key" CZ a.j8 ["number"]
 gj:TF K mg "is_value" xm a.gj ["number"]
 cV:TF K mg "is_told_value" nq a.cV ["present","value"]
 cZ:TF K mg "are_told_changes" lB a.cZ ["numbers"]
 eE:TF K mg "are_told_pairs" mH a.eE ["numbers"]
 gR:TF K mg "is_in_range" pY a.gR ["letter","argument"]
 fR:TF K mg "are_in_range" oM a.fR ["form","arguments"]
 fH:TF K mg "read_value" rN a.fH ["present","value"]
 bM:TF K mg "read_changes" oN a.bM ["numbers"]
 fJ:TF K mg "read_pairs" rO a.fJ ["numbers"]
 bH:TF K mg "tell_value" rP a.bH ["value"]
 cD:TF K mg "tell_changes" oO a.cD ["changes"]
 eF:TF K mg "tell_conflicts" mJ a.eF ["conflicts"]
 iH:TF K mg "tell_pairs" rQ a.iH ["pairs"]
 dP:TF K mg "tell_pair_at" oQ a.dP ["pairs","place"]
 jB:TF K mg "tell_node" uF a.jB ["node"]
 iQ:TF K mg "call_put" xo a.iQ ["store","arguments"]
 eV:TF K mg "call_delete" p6 a.eV ["store","arguments"]
 iR:TF K mg "call_get" xq a.iR ["store","arguments"]
 gD:TF K mg "call_list" uG a.gD ["store","arguments"]
 gE:TF K mg "call_diff" uH a.gE ["store","arguments"]
 fK:TF K mg "call_patch" rT a.fK ["store","arguments"]
 gF:TF K mg "call_join" uI a.gF ["store","arguments"]
 fL:TF K mg "merge_from" rV a.fL ["store","base","first","second"]
 fM:TF K mg "call_merge" rW a.fM ["store","arguments"]
 cH:TF K mg "call_mergefrom" mK a.cH ["store","arguments"]
 gG:TF K mg "call_same" uJ a.gG ["store","arguments"]
 fN:TF K mg "call_nodes" rX a.fN ["store","arguments"]
 eW:TF K mg "call_shared" p7 a.eW ["store","arguments"]
 gH:TF K mg "call_drop" uK a.gH ["store","arguments"]
 dQ:TF K mg "call_collect" oR a.dQ ["store","arguments"]
 gI:TF K mg "call_size" uL a.gI ["store","arguments"]
 gJ:TF K mg "call_from" uM a.gJ ["store","arguments"]
 iS:TF K mg "call_nth" xr a.iS ["store","arguments"]
 iT:TF K mg "call_sum" xu a.iT ["store","arguments"]
 dU:TF K mg "call_parents" oS a.dU ["store","arguments"]
 eX:TF K mg "call_common" p8 a.eX ["store","arguments"]
 eY:TF K mg "call_putall" p9 a.eY ["store","arguments"]
 dW:TF K mg "call_inverse" oU a.dW ["store","arguments"]
 gK:TF K mg "call_look" uN a.gK ["store","arguments"]
 cW:TF K mg "call_versions" nu a.cW ["store","arguments"]
 fS:TM K a.bV "__init__" "Version.__init__" oV a.fS ["self","top","parents"]
 jk:TM K a.bX "__init__" "Store.__init__" rY a.jk ["self"]
 dI:TM K a.bX "is_there" "Store.is_there" mL a.dI ["self","version"]
 b7:TM K a.bX "is_held" "Store.is_held" ny a.b7 ["self","version"]
 aG:TM K a.bX "top_of" "Store.top_of" oW a.aG ["self","version"]
 cJ:TM K a.bX "parents_of" "Store.parents_of" lC a.cJ ["self","version"]
 jl:TM K a.bX "drop" "Store.drop" rZ a.jl ["self","version"]
 fV:TM K a.bX "collect" "Store.collect" nA a.fV ["self"]
 d_:TM K a.bX "line_of" "Store.line_of" nB a.d_ ["self","version"]
 cS:TM K a.bX "common_of" "Store.common_of" lY a.cS ["self","version","other"]
 bK:TM K a.bX "needed_by" "Store.needed_by" lZ a.bK ["self","versions"]
 bu:TM K a.bX "held_versions" "Store.held_versions" jW a.bu ["self"]
 aW:TM K a.bX "make_version" "Store.make_version" ko a.aW ["self","top","writes","parents"]
 fW:TM K a.bX "written" "Store.written" nE a.fW ["self","top","key","value"]
 cz:TF K mg "are_versions_there" kC a.cz ["store","form","arguments"]
 gS:TF K mg "answer_call" p_ a.gS ["store","number","arguments"]
 answers:TF K mg "answers" Ac a.answers ["calls"]
 jC:∃t,mg "NOTHING" =some (.int 0 t)
 lO:∃t,mg "GREATEST_KEY" =some (.int 1099511627775 t)
 EB:∃t,mg "LEAST_VALUE" =some (.int (-1000000000000000) t)
 Av:∃t,mg "GREATEST_VALUE" =some (.int 1000000000000000 t)
 sQ:∃t,mg "CHANGE_LENGTH" =some (.int 5 t)
 vA:∃t,mg "LONGEST_DIFFERENCE" =some (.int 500 t)
 wG:∃t,mg "PAIR_LENGTH" =some (.int 2 t)
 B_:∃t,mg "LONGEST_PAIRS" =some (.int 200 t)
 Aw:∃t,mg "GREATEST_PLACE" =some (.int 9999 t)
 sR:∃t,mg "MOST_VERSIONS" =some (.int 200 t)
 Hj:∃t,mg "MOST_NODES" =some (.int 4000 t)
 DI:∃t,mg "OUT_OF_RANGE" =some (.int (-1) t)
 zD:∃t,mg "NO_SUCH_VERSION" =some (.int (-2) t)
 v8:∃t,mg "TOO_MANY_VERSIONS" =some (.int (-3) t)
 Ax:∃t,mg "TOO_MANY_NODES" =some (.int (-4) t)
 nG:∃t,mg "NO_DIFFERENCE" =some (.int (-5) t)
 Cc:∃t,mg "BASE_NOT_HELD" =some (.int (-5) t)
 Cd:∃t,mg "NOT_DROPPABLE" =some (.int (-5) t)
 DJ:∃t,mg "NOT_JOINABLE" =some (.int (-6) t)
 DK:∃t,mg "FIRST_MISFIT" =some (.int (-1000) t)
 iy:mg "len" =none
 ue:mg "range" =none
 fT:mg "isinstance" =none
 C9:mg "sorted" =none
 Ek:mg "set" =none
 JE:mg "enumerate" =none
 Uh:mg "zip" =none
 Ui:mg "all" =none
 XE:mg "sum" =none
 Uj:mg "max" =none
 P6:mg "list" =none
 Q7:mg "CALLS" =some (.ref a.xJ)
 Jd:mg "FORMS" =some (.ref a.ud)
 GA:∀H,mW K H a.xJ [.ref a.iQ.1,.ref a.eV.1,.ref a.iR.1,.ref a.gD.1,.ref a.gE.1,.ref a.fK.1,.ref a.gF.1,.ref a.fM.1,.ref a.cH.1,.ref a.gG.1,.ref a.fN.1,.ref a.eW.1,.ref a.gH.1,.ref a.dQ.1,.ref a.gI.1,.ref a.gJ.1,.ref a.iS.1,.ref a.iT.1,.ref a.dU.1,.ref a.eX.1,.ref a.eY.1,.ref a.dW.1,.ref a.gK.1,.ref a.cW.1]
 BB:∀H,mW K H a.ud [.str "vkx",.str "vk",.str "vk",.str "vkk",.str "vv",.str "vd",.str "dd",.str "vv",.str "vvv",.str "vv",.str "",.str "vv",.str "v",.str "",.str "v",.str "vk",.str "vn",.str "vkk",.str "w",.str "ww",.str "vp",.str "d",.str "v",.str ""]
 M8:∀{H:Hp} {x dx:Addr} {fs:List (Str×V)},H x=some (.ins a.fE dx fs)->pP K H (.ref x) (.ref a.fE)
 M9:∀{H:Hp} {x dx:Addr} {fs:List (Str×V)},H x=some (.ins a.fq dx fs)->pP K H (.ref x) (.ref a.fq)
 Hl:W.kitOne K (.ref a.fE) (.ref a.fE)=some true
 Ho:W.kitOne K (.ref a.fE) (.ref a.fq)=some false
 Hq:W.kitOne K (.ref a.fq) (.ref a.fE)=some false
 Hr:W.kitOne K (.ref a.fq) (.ref a.fq)=some true
 nC: [a.fE,a.fq,a.bW,a.fy,a.dH,a.gB,a.dB,a.bV,a.bX].Nodup
variable{K:W.Frag}{x:Int}{C D C0 dx b q p dk dn ca vl:Addr}{mg:Str->Option Value}{n i m k e j c d v:Nat}{f:FuncData}{ps:List Str}{t u:SM.Tr}{H H':Hp}{y:Version}{fs:List (Str×V)}{S B qs ts aS:List Addr}{a:Ad}{xs:List V}{κ α β:Type}{l:List (Nat×SM.Nd)}{r row:List Int}{o:HO}{s:Vbwsae.St}{X:Cx}{Q:VK}{ks:List Nat}{cs:List Ch}{as:List Arg}
abbrev tF(K:W.Frag)(x:Str)(C:Addr):Prop:=W.nsIn K mainGlobals x=some (some (.ref C))
def Hs{x:Str}(h:tF K x C)(h':tF K x D):C=D:=by
 unfold tF at h h';rw[h]at h';cases h';rfl
def vn{x:Str}(h:mg x=some (.ref C))(h':mg x=some (.ref D)):C=D:=by
 rw[h]at h';cases h';rfl
section
variable{K:W.Frag}{h:Heap}{mg:Str->Option Value}
def l1{us:List Value}(h:us.length=n+1):∃a t,us=a::t/\t.length=n:=by
 cases us with
 |nil=>cases h
 |cons a t=>exact⟨a,t,rfl,Nat.succ.inj h⟩
def bd1(q:∀a,bindArgs f ⟨[a],[]⟩=pure (ps.zip [a]))(us:List Value)(h:us.length=1):bindArgs f ⟨us,[]⟩=pure (ps.zip us):=by
 obtain⟨a,u0,rfl,h0⟩:=l1 h;cases yc h0;exact q a
def bd2(q:∀a b,bindArgs f ⟨[a,b],[]⟩=pure (ps.zip [a,b]))(us:List Value)(h:us.length=2):bindArgs f ⟨us,[]⟩=pure (ps.zip us):=by
 obtain⟨a,u0,rfl,h0⟩:=l1 h;obtain⟨b,u1,rfl,h1⟩:=l1 h0;cases yc h1;exact q a b
def bd3(q:∀a b c,bindArgs f ⟨[a,b,c],[]⟩=pure (ps.zip [a,b,c]))(us:List Value)(h:us.length=3):bindArgs f ⟨us,[]⟩=pure (ps.zip us):=by
 obtain⟨a,u0,rfl,h0⟩:=l1 h;obtain⟨b,u1,rfl,h1⟩:=l1 h0;obtain⟨c,u2,rfl,h2⟩:=l1 h1;cases yc h2;exact q a b c
def bd4(q:∀a b c d,bindArgs f ⟨[a,b,c,d],[]⟩=pure (ps.zip [a,b,c,d]))(us:List Value)(h:us.length=4):bindArgs f ⟨us,[]⟩=pure (ps.zip us):=by
 obtain⟨a,u0,rfl,h0⟩:=l1 h;obtain⟨b,u1,rfl,h1⟩:=l1 h0;obtain⟨c,u2,rfl,h2⟩:=l1 h1;obtain⟨d,u3,rfl,h3⟩:=l1 h2;cases yc h3;exact q a b c d
def bd5(q:∀a b c d e,bindArgs f ⟨[a,b,c,d,e],[]⟩=pure (ps.zip [a,b,c,d,e]))(us:List Value)(h:us.length=5):bindArgs f ⟨us,[]⟩=pure (ps.zip us):=by
 obtain⟨a,u0,rfl,h0⟩:=l1 h;obtain⟨b,u1,rfl,h1⟩:=l1 h0;obtain⟨c,u2,rfl,h2⟩:=l1 h1;obtain⟨d,u3,rfl,h3⟩:=l1 h2;obtain⟨e,u4,rfl,h4⟩:=l1 h3;cases yc h4;exact q a b c d e
def Bd(x qual:Str)(st:Stmt)(ps:List Str):Prop:=∀(kV doc pm:Value) (an:Option Addr) (cdv ct:Value) (us:List Value),us.length=ps.length->bindArgs (W.fnOf x qual (qO st) (o_ st) (fP st) .none kV doc pm an cdv ct) ⟨us,[]⟩=pure (ps.zip us)
def TF.of(X:K.In h)(G:h.Ns mainGlobals mg)(x:Str)(st:Stmt)(ps:List Str)(hb:Bd x x st ps:=by
   intro _ _ _ _ _ _
   first|exact Pr.bd1 λ_=>rfl|exact Pr.bd2 λ_ _=>rfl|exact Pr.bd3 λ_ _ _=>rfl|exact Pr.bd4 λ_ _ _ _=>rfl|exact Pr.bd5 λ_ _ _ _ _=>rfl) {f:Addr} {oc:Value} {od an:Option Addr} {sl:Array (Option Value)} {kV dc pm cd ct:Value} (a1:W.nsIn K mainGlobals x=some (some (.ref f)):=by k_is)
  (l:K.lookup f=some ⟨oc,od,.func (W.fnOf x x (qO st) (o_ st) (fP st) .none kV dc pm an cd ct),sl⟩:=by k_is) (c:W.codeIn K cd x=true:=by k_is) (k:W.keepIn K (.ref f)=true:=by k_is):∃p,TF K mg x st p ps:=
 ⟨(f,_),F7 l c k,(F7 l c k).binds hb,g_ X G a1⟩
def TM.of{C0:Addr}{cx:Str}(n:tF K cx C0)(x qual:Str)(st:Stmt)(ps:List Str)(hb:Bd x qual st ps:=by
   intro _ _ _ _ _ _
   first|exact Pr.bd1 λ_=>rfl|exact Pr.bd2 λ_ _=>rfl|exact Pr.bd3 λ_ _ _=>rfl|exact Pr.bd4 λ_ _ _ _=>rfl|exact Pr.bd5 λ_ _ _ _ _=>rfl) {C f:Addr} {oc:Value} {od an:Option Addr} {sl:Array (Option Value)} {kV dc pm cd ct:Value} (h1:W.nsIn K mainGlobals cx=some (some (.ref C)):=by k_is) (a1:W.findIn K (.ref C) x=some (some (.ref f)):=by k_is) (i:W.isFn K (.ref f)=true:=by k_is)
  (l:K.lookup f=some ⟨oc,od,.func (W.fnOf x qual (qO st) (o_ st) (fP st) .none kV dc pm an cd ct),sl⟩:=by k_is) (c:W.codeIn K cd qual=true:=by k_is) (k:W.keepIn K (.ref f)=true:=by k_is):∃p,TM K C0 x qual st p ps:=by
 obtain rfl:=Hs n h1;exact⟨(f,_),F7 l c k,(F7 l c k).binds hb,a1,i,k⟩
def n_(X:K.In h)(G:h.Ns mainGlobals mg){x:Str}{i:Int}{t:Tok}(e:W.nsIn K mainGlobals x=some (some (.int i t)):=by k_is):∃t,mg x=some (.int i t):=⟨t,g_ X G e⟩
def CTy{x:Str}(n:tF K x C0)(c:rE K C0)(h0:W.nsIn K mainGlobals x=some (some (.ref C)):=by k_is)(h1:W.findIn K (.ref C) "__class__" =some (some (.builtin "object.__class__")):=by k_is)(h2:W.specialIn K (.builtin "object.__class__") "__get__" =some (some (.builtin "getset_descriptor.__get__")):=by k_is)(h3:W.takesIn K (.builtin "object.__class__")=some true:=by k_is)(h4:W.mroIn K C (.type "object")=some true:=by k_is){y:Addr}(e:H y=some (.ins C0 dx fs)):pP K H (.ref y) (.ref C0):=by
 obtain rfl:=Hs n h0;exact .ins e c h1 h2 h3 h4
def WK{x y:Str}{D0:Addr}(n:tF K x C0)(n':tF K y D0){b:Bool}(h0:W.nsIn K mainGlobals x=some (some (.ref C)):=by k_is)(h1:W.nsIn K mainGlobals y=some (some (.ref D)):=by k_is)(e:W.kitOne K (.ref C) (.ref D)=some b:=by kit_is):W.kitOne K (.ref C0) (.ref D0)=some b:=by
 obtain rfl:=Hs n h0;obtain rfl:=Hs n' h1;exact e
def YM(X:K.In h)(x x0 x1:Str){C:Addr}(e:W.nsIn K mainGlobals x=some (some (.ref C)):=by k_is)(pg:W.plainGet K C Str.empty=true:=by k_is)(hd:W.hasDictIn K C=true:=by k_is)(po:W.plainOver K C=true:=by k_is)(sa:W.findIn K (.ref C) "__setattr__" =some (some (.builtin "object.__setattr__")):=by k_is)(mk:W.makesIn K C=true:=by k_is)(kc:W.keepIn K (.ref C)=true:=by k_is)
  (n0:W.findIn K (.ref C) x0=some none:=by k_is) (n1:W.findIn K (.ref C) x1=some none:=by k_is):∃C,tF K x C/\rE K C/\W.makesIn K C=true/\W.keepIn K (.ref C)=true/\bz K C x0/\bz K C x1:=⟨C,e,⟨pg,hd,po,sa⟩,mk,kc,n0,n1⟩
def YN(X:K.In h)(x x0 x1 x2:Str){C:Addr}(e:W.nsIn K mainGlobals x=some (some (.ref C)):=by k_is)(pg:W.plainGet K C Str.empty=true:=by k_is)(hd:W.hasDictIn K C=true:=by k_is)(po:W.plainOver K C=true:=by k_is)(sa:W.findIn K (.ref C) "__setattr__" =some (some (.builtin "object.__setattr__")):=by k_is)(mk:W.makesIn K C=true:=by k_is)(kc:W.keepIn K (.ref C)=true:=by k_is)
  (n0:W.findIn K (.ref C) x0=some none:=by k_is) (n1:W.findIn K (.ref C) x1=some none:=by k_is) (n2:W.findIn K (.ref C) x2=some none:=by k_is):∃C,tF K x C/\rE K C/\W.makesIn K C=true/\W.keepIn K (.ref C)=true/\bz K C x0/\bz K C x1/\bz K C x2:=⟨C,e,⟨pg,hd,po,sa⟩,mk,kc,n0,n1,n2⟩
def Cl4(X:K.In h)(x x0 x1 x2 x3:Str){C:Addr}(e:W.nsIn K mainGlobals x=some (some (.ref C)):=by k_is)(pg:W.plainGet K C Str.empty=true:=by k_is)(hd:W.hasDictIn K C=true:=by k_is)(po:W.plainOver K C=true:=by k_is)(sa:W.findIn K (.ref C) "__setattr__" =some (some (.builtin "object.__setattr__")):=by k_is)(mk:W.makesIn K C=true:=by k_is)(kc:W.keepIn K (.ref C)=true:=by k_is)
  (n0:W.findIn K (.ref C) x0=some none:=by k_is) (n1:W.findIn K (.ref C) x1=some none:=by k_is) (n2:W.findIn K (.ref C) x2=some none:=by k_is) (n3:W.findIn K (.ref C) x3=some none:=by k_is):∃C,tF K x C/\rE K C/\W.makesIn K C=true/\W.keepIn K (.ref C)=true/\bz K C x0/\bz K C x1/\bz K C x2/\bz K C x3:=⟨C,e,⟨pg,hd,po,sa⟩,mk,kc,n0,n1,n2,n3⟩
def Cl5(X:K.In h)(x x0 x1 x2 x3 x4:Str){C:Addr}(e:W.nsIn K mainGlobals x=some (some (.ref C)):=by k_is)(pg:W.plainGet K C Str.empty=true:=by k_is)(hd:W.hasDictIn K C=true:=by k_is)(po:W.plainOver K C=true:=by k_is)(sa:W.findIn K (.ref C) "__setattr__" =some (some (.builtin "object.__setattr__")):=by k_is)(mk:W.makesIn K C=true:=by k_is)(kc:W.keepIn K (.ref C)=true:=by k_is)
  (n0:W.findIn K (.ref C) x0=some none:=by k_is) (n1:W.findIn K (.ref C) x1=some none:=by k_is) (n2:W.findIn K (.ref C) x2=some none:=by k_is) (n3:W.findIn K (.ref C) x3=some none:=by k_is) (n4:W.findIn K (.ref C) x4=some none:=by k_is):∃C,tF K x C/\rE K C/\W.makesIn K C=true/\W.keepIn K (.ref C)=true/\bz K C x0/\bz K C x1/\bz K C x2/\bz K C x3/\bz K C x4:=⟨C,e,⟨pg,hd,po,sa⟩,mk,kc,n0,n1,n2,n3,n4⟩
def CNo{D0 C1 D1 C2 D2 C3 D3 C4 D4 C5 D5 C6 D6 C7 D7 C8 D8:Addr}(h0:tF K "Leaf" C0)(h1:tF K "Fork" C1)(h2:tF K "Nodes" C2)(h3:tF K "Change" C3)(h4:tF K "Conflict" C4)(h5:tF K "Merging" C5)(h6:tF K "Reader" C6)(h7:tF K "Version" C7)(h8:tF K "Store" C8)(g0:W.nsIn K mainGlobals "Leaf" =some (some (.ref D0)):=by k_is)(g1:W.nsIn K mainGlobals "Fork" =some (some (.ref D1)):=by k_is)(g2:W.nsIn K mainGlobals "Nodes" =some (some (.ref D2)):=by k_is)(g3:W.nsIn K mainGlobals "Change" =some (some (.ref D3)):=by k_is)(g4:W.nsIn K mainGlobals "Conflict" =some (some (.ref D4)):=by k_is)(g5:W.nsIn K mainGlobals "Merging" =some (some (.ref D5)):=by k_is)(g6:W.nsIn K mainGlobals "Reader" =some (some (.ref D6)):=by k_is)(g7:W.nsIn K mainGlobals "Version" =some (some (.ref D7)):=by k_is)(g8:W.nsIn K mainGlobals "Store" =some (some (.ref D8)):=by k_is)(n: [D0,D1,D2,D3,D4,D5,D6,D7,D8].Nodup:=by decide): [C0,C1,C2,C3,C4,C5,C6,C7,C8].Nodup:=by
 obtain rfl:=Hs h0 g0;obtain rfl:=Hs h1 g1;obtain rfl:=Hs h2 g2;obtain rfl:=Hs h3 g3;obtain rfl:=Hs h4 g4;obtain rfl:=Hs h5 g5;obtain rfl:=Hs h6 g6;obtain rfl:=Hs h7 g7;obtain rfl:=Hs h8 g8;exact n
def Vz(X:K.In h)(G:h.Ns mainGlobals mg){t f0 f1 f2 f3 f4 f5 f6 f7 f8 f9 f10 f11 f12 f13 f14 f15 f16 f17 f18 f19 f20 f21 f22 f23:Addr}{od:Option Addr}{sl:Array (Option Value)}(e:W.nsIn K mainGlobals "CALLS" =some (some (.ref t)):=by k_is)(l:K.lookup t=some ⟨.type "tuple",od,.seq #[.ref f0,.ref f1,.ref f2,.ref f3,.ref f4,.ref f5,.ref f6,.ref f7,.ref f8,.ref f9,.ref f10,.ref f11,.ref f12,.ref f13,.ref f14,.ref f15,.ref f16,.ref f17,.ref f18,.ref f19,.ref f20,.ref f21,.ref f22,.ref f23] n,sl⟩:=by k_is){g0:Addr}(m0:mg "call_put" =some (.ref g0))(h0:W.nsIn K mainGlobals "call_put" =some (some (.ref f0)):=by k_is){g1:Addr}(m1:mg "call_delete" =some (.ref g1))(h1:W.nsIn K mainGlobals "call_delete" =some (some (.ref f1)):=by k_is){g2:Addr}(m2:mg "call_get" =some (.ref g2))(h2:W.nsIn K mainGlobals "call_get" =some (some (.ref f2)):=by k_is){g3:Addr}(m3:mg "call_list" =some (.ref g3))(h3:W.nsIn K mainGlobals "call_list" =some (some (.ref f3)):=by k_is){g4:Addr}(m4:mg "call_diff" =some (.ref g4))(h4:W.nsIn K mainGlobals "call_diff" =some (some (.ref f4)):=by k_is){g5:Addr}(m5:mg "call_patch" =some (.ref g5))(h5:W.nsIn K mainGlobals "call_patch" =some (some (.ref f5)):=by k_is){g6:Addr}(m6:mg "call_join" =some (.ref g6))(h6:W.nsIn K mainGlobals "call_join" =some (some (.ref f6)):=by k_is){g7:Addr}(m7:mg "call_merge" =some (.ref g7))(h7:W.nsIn K mainGlobals "call_merge" =some (some (.ref f7)):=by k_is){g8:Addr}(m8:mg "call_mergefrom" =some (.ref g8))(h8:W.nsIn K mainGlobals "call_mergefrom" =some (some (.ref f8)):=by k_is){g9:Addr}(m9:mg "call_same" =some (.ref g9))(h9:W.nsIn K mainGlobals "call_same" =some (some (.ref f9)):=by k_is){g10:Addr}(m10:mg "call_nodes" =some (.ref g10))(h10:W.nsIn K mainGlobals "call_nodes" =some (some (.ref f10)):=by k_is){g11:Addr}(m11:mg "call_shared" =some (.ref g11))(h11:W.nsIn K mainGlobals "call_shared" =some (some (.ref f11)):=by k_is){g12:Addr}(m12:mg "call_drop" =some (.ref g12))(h12:W.nsIn K mainGlobals "call_drop" =some (some (.ref f12)):=by k_is){g13:Addr}(m13:mg "call_collect" =some (.ref g13))(h13:W.nsIn K mainGlobals "call_collect" =some (some (.ref f13)):=by k_is){g14:Addr}(m14:mg "call_size" =some (.ref g14))(h14:W.nsIn K mainGlobals "call_size" =some (some (.ref f14)):=by k_is){g15:Addr}(m15:mg "call_from" =some (.ref g15))(YI:W.nsIn K mainGlobals "call_from" =some (some (.ref f15)):=by k_is){g16:Addr}(m16:mg "call_nth" =some (.ref g16))(h16:W.nsIn K mainGlobals "call_nth" =some (some (.ref f16)):=by k_is){g17:Addr}(m17:mg "call_sum" =some (.ref g17))(h17:W.nsIn K mainGlobals "call_sum" =some (some (.ref f17)):=by k_is){g18:Addr}(m18:mg "call_parents" =some (.ref g18))(h18:W.nsIn K mainGlobals "call_parents" =some (some (.ref f18)):=by k_is){g19:Addr}(m19:mg "call_common" =some (.ref g19))(h19:W.nsIn K mainGlobals "call_common" =some (some (.ref f19)):=by k_is){g20:Addr}(m20:mg "call_putall" =some (.ref g20))(h20:W.nsIn K mainGlobals "call_putall" =some (some (.ref f20)):=by k_is){g21:Addr}(m21:mg "call_inverse" =some (.ref g21))(h21:W.nsIn K mainGlobals "call_inverse" =some (some (.ref f21)):=by k_is){g22:Addr}(m22:mg "call_look" =some (.ref g22))(h22:W.nsIn K mainGlobals "call_look" =some (some (.ref f22)):=by k_is){g23:Addr}(m23:mg "call_versions" =some (.ref g23))(h23:W.nsIn K mainGlobals "call_versions" =some (some (.ref f23)):=by k_is):∃t,mg "CALLS" =some (.ref t)/\∀H,mW K H t [.ref g0,.ref g1,.ref g2,.ref g3,.ref g4,.ref g5,.ref g6,.ref g7,.ref g8,.ref g9,.ref g10,.ref g11,.ref g12,.ref g13,.ref g14,.ref g15,.ref g16,.ref g17,.ref g18,.ref g19,.ref g20,.ref g21,.ref g22,.ref g23]:=by
 obtain rfl:=vn m0 (g_ X G h0);obtain rfl:=vn m1 (g_ X G h1);obtain rfl:=vn m2 (g_ X G h2);obtain rfl:=vn m3 (g_ X G h3);obtain rfl:=vn m4 (g_ X G h4);obtain rfl:=vn m5 (g_ X G h5);obtain rfl:=vn m6 (g_ X G h6);obtain rfl:=vn m7 (g_ X G h7);obtain rfl:=vn m8 (g_ X G h8);obtain rfl:=vn m9 (g_ X G h9);obtain rfl:=vn m10 (g_ X G h10);obtain rfl:=vn m11 (g_ X G h11);obtain rfl:=vn m12 (g_ X G h12);obtain rfl:=vn m13 (g_ X G h13);obtain rfl:=vn m14 (g_ X G h14);obtain rfl:=vn m15 (g_ X G YI);obtain rfl:=vn m16 (g_ X G h16);obtain rfl:=vn m17 (g_ X G h17);obtain rfl:=vn m18 (g_ X G h18);obtain rfl:=vn m19 (g_ X G h19);obtain rfl:=vn m20 (g_ X G h20);obtain rfl:=vn m21 (g_ X G h21);obtain rfl:=vn m22 (g_ X G h22);obtain rfl:=vn m23 (g_ X G h23);exact⟨t,g_ X G e,λH=>.inr ⟨_,_,n,l,rfl,rfl,(by show 24<=sizeLine;decide),.cons rfl (.cons rfl (.cons rfl (.cons rfl (.cons rfl (.cons rfl (.cons rfl (.cons rfl (.cons rfl (.cons rfl (.cons rfl (.cons rfl (.cons rfl (.cons rfl (.cons rfl (.cons rfl (.cons rfl (.cons rfl (.cons rfl (.cons rfl (.cons rfl (.cons rfl (.cons rfl (.cons rfl (.nil))))))))))))))))))))))))⟩⟩
def VA(X:K.In h)(G:h.Ns mainGlobals mg){t:Addr}{t0 t1 t2 t3 t4 t5 t6 t7 t8 t9 t10 t11 t12 t13 t14 t15 t16 t17 t18 t19 t20 t21 t22 t23:Tok}{od:Option Addr}{sl:Array (Option Value)}(e:W.nsIn K mainGlobals "FORMS" =some (some (.ref t)):=by k_is)(l:K.lookup t=some ⟨.type "tuple",od,.seq #[.str "vkx" t0,.str "vk" t1,.str "vk" t2,.str "vkk" t3,.str "vv" t4,.str "vd" t5,.str "dd" t6,.str "vv" t7,.str "vvv" t8,.str "vv" t9,.str "" t10,.str "vv" t11,.str "v" t12,.str "" t13,.str "v" t14,.str "vk" t15,.str "vn" t16,.str "vkk" t17,.str "w" t18,.str "ww" t19,.str "vp" t20,.str "d" t21,.str "v" t22,.str "" t23] n,sl⟩:=by k_is):∃t,mg "FORMS" =some (.ref t)/\∀H,mW K H t [.str "vkx",.str "vk",.str "vk",.str "vkk",.str "vv",.str "vd",.str "dd",.str "vv",.str "vvv",.str "vv",.str "",.str "vv",.str "v",.str "",.str "v",.str "vk",.str "vn",.str "vkk",.str "w",.str "ww",.str "vp",.str "d",.str "v",.str ""]:=⟨t,g_ X G e,λH=>.inr ⟨_,_,n,l,rfl,rfl,(by show 24<=sizeLine;decide),.cons ⟨_,rfl⟩ (.cons ⟨_,rfl⟩ (.cons ⟨_,rfl⟩ (.cons ⟨_,rfl⟩ (.cons ⟨_,rfl⟩ (.cons ⟨_,rfl⟩ (.cons ⟨_,rfl⟩ (.cons ⟨_,rfl⟩ (.cons ⟨_,rfl⟩ (.cons ⟨_,rfl⟩ (.cons ⟨_,rfl⟩ (.cons ⟨_,rfl⟩ (.cons ⟨_,rfl⟩ (.cons ⟨_,rfl⟩ (.cons ⟨_,rfl⟩ (.cons ⟨_,rfl⟩ (.cons ⟨_,rfl⟩ (.cons ⟨_,rfl⟩ (.cons ⟨_,rfl⟩ (.cons ⟨_,rfl⟩ (.cons ⟨_,rfl⟩ (.cons ⟨_,rfl⟩ (.cons ⟨_,rfl⟩ (.cons ⟨_,rfl⟩ (.nil))))))))))))))))))))))))⟩⟩
end
noncomputable def lf (k:Nat) (x:Int) (t:Addr):List (Str×V):=[("key",.int k),("value",.int x),("least",.int k),("shape",.ref t)]
noncomputable def ff (b l r le:Nat) (t:Addr):List (Str×V):=[("bit",.int b),("left",.int l),("right",.int r),("least",.int le),("shape",.ref t)]
noncomputable def nf (m:Nat) (dk dn:Addr):List (Str×V):=[("made",.int m),("kept",.ref dk),("numbers",.ref dn)]
noncomputable def xK:SM.Nd->List Key
 | .leaf k x=>[.inl k,.inl x]
 | .fork b l r=>[.inl b,.inl l,.inl r]
def GB{m n:SM.Nd}(h:xK m=xK n):m=n:=by
 cases m<;>cases n<;>simp[xK]at h<;>simp[h]<;>omega
def gp(a:Ad)(H:Hp)(q:Addr)(n:SM.Nd)(le:Nat):Prop:=match n with
 | .leaf k x=>le=k/\∃dx t,H q=some (.ins a.fE dx (lf k x t))/\H t=some (.tup [.int k,.int x])
 | .fork b l r=>∃dx t,H q=some (.ins a.fq dx (ff b l r le t))/\H t=some (.tup [.int b,.int l,.int r])
noncomputable def tH (rows:List (Nat×SM.Nd)) (ob:Nat->Addr):List (Key×V):=rows.map λr=>(.inl (r.1:Int),.ref (ob r.1))
noncomputable def Em (rows:List (Nat×SM.Nd)):List (List Key×V):=rows.map λr=>(xK r.2,.int (r.1:Int))
structure Raw(a:Ad)(H:Hp)(p dk dn:Addr)(made:Nat)(rows:List (Nat×SM.Nd))(ob le:Nat->Nat):Prop where
 obj:∃dx,H p=some (.ins a.bW dx (nf made dk dn))
 kept:H dk=some (.dK (tH rows ob))
 nums:H dn=some (.dT (Em rows))
 node:∀r∈rows,gp a H (ob r.1) r.2 (le r.1)
 rise:(rows.map (·.1)).Pairwise (· < ·)
 uniq:(rows.map (·.2)).Nodup
 most:∀r∈rows,r.1<=made
 VB:∀n b l r,(n,Node.fork b l r)∈rows->l<=made/\le n=le l
def aH(S:List Addr)(H H':Hp):Prop:=∀b o,H b=some o->b∉S->H' b=some o
def aH.refl(S:List Addr)(H:Hp):aH S H H:=λ_ _ e _=>e
def aH.trans{H1 H2:Hp}(a:aH S H H1)(b:aH S H1 H2):aH S H H2:=λc o e h=>b c o (a c o e h) h
def aH.of(s:az H H'):aH S H H':=λb o e _=>s b o e
def aH.mono{S':List Addr}(k:aH S H H')(h:∀b∈S,b∈S'):aH S' H H':=λb o e n=>k b o e λz=>n (h b z)
def gp.keep{n:SM.Nd}{le:Nat}(x:gp a H q n le)(k:∀b o,H b=some o->(∃dx fs,o=.ins a.fE dx fs)\/(∃dx fs,o=.ins a.fq dx fs)\/(∃xs,o=.tup xs)->H' b=some o):gp a H' q n le:=by
 cases n with
 |leaf j x'=>
  obtain⟨h,dx,t,h1,h2⟩:=x;exact⟨h,dx,t,k _ _ h1 (.inl ⟨_,_,rfl⟩),k _ _ h2 (.inr (.inr ⟨_,rfl⟩))⟩
 |fork b l r=>
  obtain⟨dx,t,h1,h2⟩:=x;exact⟨dx,t,k _ _ h1 (.inr (.inl ⟨_,_,rfl⟩)),k _ _ h2 (.inr (.inr ⟨_,rfl⟩))⟩
section
variable{a:Ad}{H H':Hp}{p dk dn:Addr}{made:Nat}{rows:List (Nat×SM.Nd)}{ob le:Nat->Nat}
def v9(a:Ad)(p dk dn:Addr)(H:Hp)(b:Addr):Prop:=b≠p/\b≠dk/\b≠dn/\∀o,H b=some o->¬((∃dx fs,o=.ins a.fE dx fs)\/(∃dx fs,o=.ins a.fq dx fs)\/(∃xs,o=.tup xs))
theorem Raw.keep(N:Raw a H p dk dn made rows ob le)(k:aH S H H')(hS:∀b∈S,v9 a p dk dn H b):Raw a H' p dk dn made rows ob le:=by
 obtain⟨dx,h1⟩:=N.obj;refine⟨⟨dx,k _ _ h1 λz=>(hS _ z).1 rfl⟩,k _ _ N.kept λz=>(hS _ z).2.1 rfl,k _ _ N.nums λz=>(hS _ z).2.2.1 rfl,λr hr=>?_,N.rise,N.uniq,N.most,N.VB⟩;exact(N.node r hr).keep λb o e c=>k b o e λz=>(hS b z).2.2.2 o e c
def Raw.same(N:Raw a H p dk dn made rows ob le)(k:az H H'):Raw a H' p dk dn made rows ob le:=N.keep (S:=[]) (aH.of k) (by simp)
def Raw.Gh(N:Raw a H p dk dn made rows ob le)(h:H b=some (.lst xs)):v9 a p dk dn H b:=by
 obtain⟨dx,h1⟩:=N.obj;refine⟨bh h h1 (by intro z;cases z),bh h N.kept (by intro z;cases z),bh h N.nums (by intro z;cases z),λo e c=>?_⟩;rw[h]at e;cases e;rcases c with⟨_,_,c⟩|⟨_,_,c⟩|⟨_,c⟩<;>cases c
def Raw.LP(N:Raw a H p dk dn made rows ob le){kvs:List (Key×V)}(h:H b=some (.dK kvs))(n:b≠dk):v9 a p dk dn H b:=by
 obtain⟨dx,h1⟩:=N.obj;refine⟨bh h h1 (by intro z;cases z),n,bh h N.nums (by intro z;cases z),λo e c=>?_⟩;rw[h]at e;cases e;rcases c with⟨_,_,c⟩|⟨_,_,c⟩|⟨_,c⟩<;>cases c
theorem Ae [DecidableEq κ]{f:α->κ}{g:α->V}:∀{l:List α} {x:α},(l.map f).Nodup->x∈l->fO (l.map λr=>(f r,g r)) (f x)=some (g x)
 |y::l,x,hn,h=>by
  obtain⟨h1,h2⟩:=kQ.mp (show(f y::l.map f).Nodup from hn);rcases bN.mp h with e|e
  ·rw[e];exact gU rfl
  ·have:¬f y=f x:=λq=>h1 (by rw[q];exact br.mpr ⟨x,e,rfl⟩)
   show fO ((f y,g y)::l.map λr=>(f r,g r)) (f x)=_
   rw[gg this];exact Ae h2 e
theorem oA [DecidableEq κ]{f:α->κ}{g:α->V}{k:κ}:∀{l:List α},(∀x∈l,f x≠k)->fO (l.map λr=>(f r,g r)) k=none
 | [],_=>rfl
 |y::l,h=>by
  show fO ((f y,g y)::l.map λr=>(f r,g r)) k=none
  rw[gg (h y (bU ..))];exact oA λx hx=>h x (cP _ hx)
def XF(h:(l.map (·.1)).Pairwise (· < ·)):(l.map λr=>(Sum.inl (r.1:Int):Key)).Nodup:=by
 have:(l.map λr=>(Sum.inl (r.1:Int):Key))=(l.map (·.1)).map (λn:Nat=>(Sum.inl (n:Int):Key)):=by rw[Fy];rfl
 rw[this];exact List.Pairwise.map (R:=λa b:Nat=>a<b) (λn:Nat=>(Sum.inl (n:Int):Key)) (λa b hab e=>by have:=qA e;omega) h
def XG(h:(l.map (·.2)).Nodup):(l.map λr=>xK r.2).Nodup:=by
 have:(l.map λr=>xK r.2)=(l.map (·.2)).map xK:=by rw[Fy];rfl
 rw[this];exact List.Pairwise.map (R:=(·≠·)) _ (λ(a b:SM.Nd) (hab:a≠b) e=>hab (GB e)) h
def Raw.look(N:Raw a H p dk dn made rows ob le){r:Nat×SM.Nd}(h:r∈rows):fO (tH rows ob) (.inl (r.1:Int))=some (.ref (ob r.1)):=
 Ae (f:=λr:Nat×SM.Nd=>(Sum.inl (r.1:Int):Key)) (XF N.rise) h
def Raw.num(N:Raw a H p dk dn made rows ob le){r:Nat×SM.Nd}(h:r∈rows):fO (Em rows) (xK r.2)=some (.int (r.1:Int)):=
 Ae (f:=λr:Nat×SM.Nd=>xK r.2) (XG N.uniq) h
def Q8{n:SM.Nd}(h:∀r∈rows,r.2≠n):fO (Em rows) (xK n)=none:=oA (f:=λr:Nat×SM.Nd=>xK r.2) λr hr e=>h r hr (GB e)
def Om(h:∀r∈rows,r.1≠n):fO (tH rows ob) (.inl (n:Int))=none:=
 oA (f:=λr:Nat×SM.Nd=>(Sum.inl (r.1:Int):Key)) λr hr e=>h r hr (by have:=qA e;omega)
end
def iY:2<=sizeLine:=by decide
def qy:3<=sizeLine:=by decide
inductive LQ(a:Ad)(vs:List V)(H:Hp)(Q:VK)(gc:XK):Prop
 |mk (q dx:Addr) (k:Nat) (x:Int) (_:vs=[.ref q,.int k,.int x]) (_:H q=some (.ins a.fE dx [])) (_:∀(t:Addr) (H':Hp),H t=none->H' q=some (.ins a.fE dx (lf k x t))->H' t=some (.tup [.int k,.int x])->aH [q] H H'->Q .gq H')
inductive LR(a:Ad)(vs:List V)(H:Hp)(Q:VK)(gc:XK):Prop
 |mk (q dx:Addr) (b l r le:Nat) (_:vs=[.ref q,.int b,.int l,.int r,.int le]) (_:H q=some (.ins a.fq dx [])) (_:∀(t:Addr) (H':Hp),H t=none->H' q=some (.ins a.fq dx (ff b l r le t))->H' t=some (.tup [.int b,.int l,.int r])->aH [q] H H'->Q .gq H')
variable{P:Program}{w:World}{K:W.Frag}{mg:Str->Option Value}{base:Heap}{a:Ad}
def Ht(T:Txt K mg a):aT P w K mg base cR 1 a.j_.1 a.j_.2 ["self","key","value"] (LQ a):=by
 refine T.j_.F.ok G9 (λvs H Q E h=>?_) (λcdv A outer s H vs Q E hr h=>?_)
 ·obtain⟨q,dx,k,x,rfl,_⟩:=h;rfl
 ·obtain⟨q,dx,k,x,rfl,hq,kk⟩:=h;refine⟨_,ak (d8 (pv 0) (pv 1) rfl) (ak (d8 (pv 0) (pv 2) rfl) (ak (d8 (pv 0) (pv 1) rfl) (ao (d8 (pv 0) (j7 (aa (pv 1) (aa (pv 2) ah))) rfl)))),?_⟩;refine⟨_,rfl,_,rfl,q,_,dx,_,rfl,hq,T.ir,T.jg,by decide,?_⟩;refine⟨_,rfl,_,rfl,q,_,dx,_,rfl,af,T.ir,T.kU,(by show 1<1000;decide),?_⟩;refine⟨_,rfl,_,rfl,q,_,dx,_,rfl,af,T.ir,T.wC,(by show 2<1000;decide),?_⟩;refine⟨_,rfl,_,rfl,iY,λt ht=>?_⟩;have Je:q≠t:=aj af ht
  refine⟨_,rfl,q,_,dx,_,rfl,(by rw[ai Je];exact af),T.ir,T.wD,(by show 3<1000;decide),?_⟩;rw[ai Je.symm,ai Je.symm,ai Je.symm]at ht;refine kk t _ ht af (by rw[ai Je.symm];exact af) λb o e hb=>?_
  have hb:b≠q:=by simpa using hb
  rw[ai hb,ai (aj e ht),ai hb,ai hb,ai hb];exact e
def Hu(T:Txt K mg a):aT P w K mg base cR 1 a.kg.1 a.kg.2 ["self","bit","left","right","least"] (LR a):=by
 refine T.kg.F.ok G_ (λvs H Q E h=>?_) (λcdv A outer s H vs Q E hr h=>?_)
 ·obtain⟨q,dx,b,l,r,le,rfl,_⟩:=h;rfl
 ·obtain⟨q,dx,b,l,r,le,rfl,hq,kk⟩:=h;refine⟨_,ak (d8 (pv 0) (pv 1) rfl) (ak (d8 (pv 0) (pv 2) rfl) (ak (d8 (pv 0) (pv 3) rfl) (ak (d8 (pv 0) (pv 4) rfl) (ao (d8 (pv 0) (j7 (aa (pv 1) (aa (pv 2) (aa (pv 3) ah)))) rfl))))),?_⟩;refine⟨_,rfl,_,rfl,q,_,dx,_,rfl,hq,T.aR,T.cA,by decide,?_⟩;refine⟨_,rfl,_,rfl,q,_,dx,_,rfl,af,T.aR,T.di,(by show 1<1000;decide),?_⟩;refine⟨_,rfl,_,rfl,q,_,dx,_,rfl,af,T.aR,T.b8,(by show 2<1000;decide),?_⟩;refine⟨_,rfl,_,rfl,q,_,dx,_,rfl,af,T.aR,T.jQ,(by show 3<1000;decide),?_⟩;refine⟨_,rfl,_,rfl,_,rfl,qy,λt ht=>?_⟩;have Je:q≠t:=aj af ht
  refine⟨_,rfl,q,_,dx,_,rfl,(by rw[ai Je];exact af),T.aR,T.wF,(by show 4<1000;decide),?_⟩;rw[ai Je.symm,ai Je.symm,ai Je.symm,ai Je.symm]at ht;refine kk t _ ht af (by rw[ai Je.symm];exact af) λb o e hb=>?_
  have hb:b≠q:=by simpa using hb
  rw[ai hb,ai (aj e ht),ai hb,ai hb,ai hb,ai hb];exact e
theorem aH.upd(h:b∈S):aH S H (L2.upd H b o):=λc u e hc=>by rw[ai (λz=>hc (by rw[z];exact h))];exact e
def aH.new(h:H b=none):aH S H (L2.upd H b o):=λc u e _=>by rw[ai (aj e h)];exact e
def az.new(h:H b=none):az H (L2.upd H b o):=λc u e=>by rw[ai (aj e h)];exact e
theorem gp.shape(T:Txt K mg a){n:SM.Nd}(x:gp a H q n e):∃C dx fs t,H q=some (.ins C dx fs)/\rE K C/\bz K C "shape" /\fs.lookup ("shape":Str)=some (.ref t)/\H t=some (.tup ((xK n).map kV)):=by
 cases n with
 |leaf k v=>obtain⟨_,dx,t,h1,h2⟩:=x;exact⟨_,dx,_,t,h1,T.ir,T.wD,rfl,h2⟩
 |fork b l r=>obtain⟨dx,t,h1,h2⟩:=x;exact⟨_,dx,_,t,h1,T.aR,T.wF,rfl,h2⟩
theorem gp.least(T:Txt K mg a){n:SM.Nd}(x:gp a H q n e):∃C dx fs,H q=some (.ins C dx fs)/\rE K C/\bz K C "least" /\fs.lookup ("least":Str)=some (.int e):=by
 cases n with
 |leaf k v=>obtain⟨rfl,dx,t,h1,h2⟩:=x;exact⟨_,dx,_,h1,T.ir,T.wC,rfl⟩
 |fork b l r=>obtain⟨dx,t,h1,h2⟩:=x;exact⟨_,dx,_,h1,T.aR,T.jQ,rfl⟩
inductive JF(a:Ad)(vs:List V)(H:Hp)(Q:VK)(gc:XK):Prop
 |mk (p dx:Addr) (_:vs=[.ref p]) (_:H p=some (.ins a.bW dx [])) (_:∀(dk dn:Addr) (H':Hp),Raw a H' p dk dn 0 [] (λ_=>0) (λ_=>0)->aH [p] H H'->Q .gq H')
inductive VC(a:Ad)(vs:List V)(H:Hp)(Q:VK)(gc:XK):Prop
 |mk (p dk dn:Addr) (made:Nat) (rows:List (Nat×SM.Nd)) (ob le:Nat->Nat) (r:Nat×SM.Nd) (_:vs=[.ref p,.int (r.1:Int)]) (_:Raw a H p dk dn made rows ob le) (_:r∈rows) (_:Q (.ref (ob r.1)) H)
inductive P7(a:Ad)(vs:List V)(H:Hp)(Q:VK)(gc:XK):Prop
 |mk (p dk dn:Addr) (made:Nat) (rows:List (Nat×SM.Nd)) (ob le:Nat->Nat) (q:Addr) (n:SM.Nd) (e:Nat) (_:vs=[.ref p,.ref q]) (_:Raw a H p dk dn made rows ob le) (_:gp a H q n e) (_:rows.length<1000000) (_:(∀b l r,n=.fork b l r->l<=made/\e=le l)) (_:(∀m,(m,n)∈rows->Q (.int (m:Int)) H)) (_:((∀r∈rows,r.2≠n)->∀H',Raw a H' p dk dn (made+1) (rows++[(made+1,n)]) (λi=>if i=made+1 then q else ob i) (λi=>if i=made+1 then e else le i)->aH [p,dk,dn] H H'->Q (.int ((made+1:Nat):Int)) H'))
def EC(T:Txt K mg a):aT P w K mg base cR 1 a.jj.1 a.jj.2 ["self"] (JF a):=by
 refine T.jj.F.ok Eu (λvs H Q E h=>?_) (λcdv A outer s H vs Q E hr h=>?_)
 ·obtain⟨q,dx,rfl,_⟩:=h;rfl
 ·obtain⟨q,dx,rfl,hq,kk⟩:=h;refine⟨_,ak (d8 (pv 0) aD rfl) (ak (d8 (pv 0) tE rfl) (ao (d8 (pv 0) QL rfl))),?_⟩;refine⟨_,rfl,q,_,dx,_,rfl,hq,T.aM,T.fc,by decide,?_⟩;intro dk hk;have n1:q≠dk:=aj af hk
  refine⟨_,rfl,q,_,dx,_,rfl,(by rw[ai n1];exact af),T.aM,T.iK,(by show 1<1000;decide),?_⟩;intro dn hn;have n2:q≠dn:=aj af hn
  have n3:dk≠dn:=aj (o:= .dK []) (by rw[ai n1.symm];exact af) hn;refine⟨_,rfl,q,_,dx,_,rfl,(by rw[ai n2];exact af),T.aM,T.ie,(by show 2<1000;decide),?_⟩;refine kk dk dn _ ⟨⟨dx,af⟩,?_,?_,by simp,by simp,by simp,by simp,by simp⟩ λb o e hb=>?_
  ·rw[ai n1.symm,ai n3,ai n1.symm,af];rfl
  ·rw[ai n2.symm,af];rfl
  ·have hb:b≠q:=by simpa using hb
   rw[ai n1.symm]at hk;have hn':H dn=none:=by rw[ai n2.symm,ai n3.symm,ai n2.symm]at hn;exact hn
   rw[ai hb,ai (aj e hn'),ai hb,ai (aj e hk),ai hb];exact e
def ED(T:Txt K mg a):aT P w K mg base cR 1 a.aQ.1 a.aQ.2 ["self","number"] (VC a):=by
 refine T.aQ.F.ok Ew (λvs H Q E h=>?_) (λcdv A outer s H vs Q E hr h=>?_)
 ·obtain⟨p,dk,dn,made,rows,ob,le,r,rfl,_⟩:=h;rfl
 ·obtain⟨p,dk,dn,made,rows,ob,le,r,rfl,N,hm,k⟩:=h;obtain⟨dx,h1⟩:=N.obj;refine⟨_,ao (aC (gQ (nY hr) (au (pv 0) rfl) (pv 1) (λ_ _=>rfl))),?_⟩;refine⟨_,rfl,p,_,dx,_,_,rfl,h1,T.aM,T.iK,rfl,_,rfl,dk,_,rfl,?_,k⟩;have:=gx.k (k:=Sum.inl (r.1:Int)) N.kept
  rw[N.look hm]at this;exact this
def wH(T:Txt K mg a):aT P w K mg base cR 1 a.gY.1 a.gY.2 ["self","node"] (P7 a):=by
 refine T.gY.F.ok Ex (λvs H Q E h=>?_) (λcdv A outer s H vs Q E hr h=>?_)
 ·obtain⟨p,dk,dn,made,rows,ob,le,q,n,e,rfl,_⟩:=h;rfl
 ·obtain⟨p,dk,dn,made,rows,ob,le,q,n,e,rfl,N,ho,hz,hf,k1,k2⟩:=h;obtain⟨dx,h1⟩:=N.obj;obtain⟨C,dq,fs,t,s1,s2,s3,s4,s5⟩:=ho.shape T;have hu:=nY hr
  refine⟨_,ak (bx (bf (nX hu (au (pv 1) rfl) (au (pv 0) rfl)))
    (ak (zX (pv 0) aD KO) (ak (uc hu (au (pv 0) rfl) (au (pv 0) rfl) (pv 1) rfl) (ao (uc hu (au (pv 0) rfl) (au (pv 1) rfl) (au (pv 0) rfl) rfl)))) aN)
   (ao (aC (gQ hu (au (pv 0) rfl) (au (pv 1) rfl) (λ_ _=>rfl)))),?_⟩
  refine⟨_,rfl,q,C,dq,fs,_,rfl,s1,s2,s3,s4,_,rfl,p,_,dx,_,_,rfl,h1,T.aM,T.ie,rfl,dn,_,rfl,gx.t N.nums s5,_,rfl,?_⟩;by_cases c:∃m,(m,n)∈rows
  ·obtain⟨m,hm⟩:=c;have hv:=N.num hm
   rw[hv];refine fu ?_;refine⟨_,rfl,p,_,dx,_,_,rfl,h1,T.aM,T.ie,rfl,_,rfl,q,C,dq,fs,_,rfl,s1,s2,s3,s4,dn,_,rfl,?_,k1 m hm⟩;have:=gx.t N.nums s5
   rw[hv]at this;exact this
  ·have c':∀r∈rows,r.2≠n:=λr hr z=>c ⟨r.1,by rw[<- z];exact hr⟩
   have hv:=Q8 c';rw[hv];refine dF ?_;have VD:p≠dk:=bh h1 N.kept (by intro z;cases z)
   have RZ:p≠dn:=bh h1 N.nums (by intro z;cases z);have Uk:dk≠dn:=bh N.kept N.nums (by intro z;cases z)
   have WL:q≠dk:=bh s1 N.kept (by intro z;cases z);have nqn:q≠dn:=bh s1 N.nums (by intro z;cases z)
   have ntp:t≠p:=bh s5 h1 (by intro z;cases z);have WM:t≠dk:=bh s5 N.kept (by intro z;cases z)
   have ntn:t≠dn:=bh s5 N.nums (by intro z;cases z);have nqp:q≠p:=by
    intro z;rw[z,h1]at s1;have:=fG s1
    cases this;exact nomatch (show(none:Option V)=some (V.ref t)from s4)
   have hnew:∀r∈rows,r.1≠made+1:=λr hr z=>by have:=N.most r hr;omega
   have hl:(tH rows ob).length<sizeLine:=by rw[tH,aO];exact BX hz (by decide)
   have hl2:(Em rows).length<sizeLine:=by rw[Em,aO];exact BX hz (by decide)
   refine⟨_,rfl,p,_,dx,_,_,rfl,h1,T.aM,T.fc,rfl,_,_,rfl,rfl,dx,_,h1,(by show 3<1000;decide),?_⟩;refine⟨_,rfl,_,rfl,p,_,dx,_,_,rfl,af,T.aM,T.iK,rfl,_,rfl,p,_,dx,_,_,rfl,af,T.aM,T.fc,rfl,dk,_,rfl,xY.k (k:=Sum.inl ((made:Int)+1)) (by rw[ai VD.symm];exact N.kept) hl,?_⟩;refine⟨_,rfl,p,_,dx,_,_,rfl,(by rw[ai VD];exact af),T.aM,T.fc,rfl,_,rfl,p,_,dx,_,_,rfl,(by rw[ai VD];exact af),T.aM,T.ie,rfl,_,rfl,
    q,C,dq,fs,_,rfl,(by rw[ai WL,ai nqp];exact s1),s2,s3,s4,dn,_,rfl,xY.t (by rw[ai Uk.symm,ai RZ.symm];exact N.nums) (by rw[ai WM,ai ntp];exact s5) hl2,?_⟩
   refine⟨_,rfl,p,_,dx,_,_,rfl,(by rw[ai RZ,ai VD];exact af),T.aM,T.ie,rfl,_,rfl,q,C,dq,fs,_,rfl,(by rw[ai nqn,ai WL,ai nqp];exact s1),s2,s3,s4,dn,.int ((made:Int)+1),rfl,?_,?_⟩
   ·have:=gx.t (k:=xK n) (af (H:=L2.upd (L2.upd H p (.ins a.bW dx (kY "made" (.int ((made:Int)+1)) (nf made dk dn)))) dk (.dK (putK (tH rows ob) (Sum.inl ((made:Int)+1)) (.ref q)))) (a:=dn) (o:= .dT (putK (Em rows) (xK n) (.int ((made:Int)+1))))) (b:=t) (by rw[ai ntn,ai WM,ai ntp];exact s5);rw[QI,ay rfl]at this;exact this
   ·have e1:putK (tH rows ob) (Sum.inl ((made:Int)+1)) (.ref q)=tH (rows++[(made+1,n)]) (λi=>if i=made+1 then q else ob i):=by
     show putK (tH rows ob) (Sum.inl ((made+1:Nat):Int)) (.ref q)=_
     rw[qt _ (Om hnew)];unfold tH;rw[jO]
     congr 1
     ·apply List.map_congr_left;intro r hr;show _=((Sum.inl (r.1:Int):Key),V.ref (if r.1=made+1 then q else ob r.1))
      rw[aq (hnew r hr)]
     ·simp
    have e2:putK (Em rows) (xK n) (.int ((made:Int)+1))=Em (rows++[(made+1,n)]):=by
     rw[qt _ hv];unfold Em;rw[jO];rfl
    have ntl:∀{b:Addr} {C':Addr} {U8:Addr} {fs':List (Str×V)},H b=some (.ins C' U8 fs')->fs'.lookup ("shape":Str)≠none->b≠p:=λhb hs z=>by
     rw[z,h1]at hb;have:=fG hb
     cases this;exact hs rfl
    have Ul:∀{r:Addr} {m:SM.Nd} {e:Nat},gp a H r m e->gp a (L2.upd (L2.upd (L2.upd H p (.ins a.bW dx (kY "made" (.int ((made:Int)+1)) (nf made dk dn)))) dk (.dK (putK (tH rows ob) (Sum.inl ((made:Int)+1)) (.ref q)))) dn (.dT (putK (Em rows) (xK n) (.int ((made:Int)+1))))) r m e:=λ{r m e} x=>by
     cases m with
     |leaf j v=>
      obtain⟨z,dz,t',y1,y2⟩:=x;exact⟨z,dz,t',by rw[ai (bh y1 N.nums (by intro z;cases z)),ai (bh y1 N.kept (by intro z;cases z)),ai (ntl y1 (λz=>nomatch (show(some (V.ref t'):Option V)=none from z)))];exact y1,
       by rw[ai (bh y2 N.nums (by intro z;cases z)),ai (bh y2 N.kept (by intro z;cases z)),ai (bh y2 h1 (by intro z;cases z))];exact y2⟩
     |fork b l r=>
      obtain⟨dz,t',y1,y2⟩:=x;exact⟨dz,t',by rw[ai (bh y1 N.nums (by intro z;cases z)),ai (bh y1 N.kept (by intro z;cases z)),ai (ntl y1 (λz=>nomatch (show(some (V.ref t'):Option V)=none from z)))];exact y1,
       by rw[ai (bh y2 N.nums (by intro z;cases z)),ai (bh y2 N.kept (by intro z;cases z)),ai (bh y2 h1 (by intro z;cases z))];exact y2⟩
    refine k2 c' _ ⟨⟨dx,by rw[ai RZ,ai VD,af];rfl⟩,by rw[ai Uk,af,e1],by rw[af,e2],λr hr=>?_,?_,?_,λr hr=>?_,λm b l r hr=>?_⟩ λb o ob' hb=>?_
    ·rcases dg.mp hr with z|z
     ·rw[aq (hnew r z),aq (hnew r z)];exact Ul (N.node r z)
     ·rw[cY.mp z];rw[ay rfl,ay rfl];exact Ul ho
    ·rw[jO];refine BK.mpr ⟨N.rise,by simp,λx hx y hy=>?_⟩;obtain⟨r,hr,rfl⟩:=br.mp hx;have:=N.most r hr
     simp at hy;omega
    ·rw[jO];refine BK.mpr ⟨N.uniq,by simp,λx hx y hy=>?_⟩;obtain⟨r,hr,e⟩:=br.mp hx;rw[cY.mp (show y∈ [n]from hy),<- e];exact c' r hr
    ·rcases dg.mp hr with z|z
     ·have:=N.most r z;omega
     ·rw[cY.mp z];exact bw _
    ·rcases dg.mp hr with z|z
     ·obtain⟨y1,y2⟩:=N.VB m b l r z;have y3:=N.most _ z
      refine⟨by omega,?_⟩;rw[aq (hnew _ z),aq (by omega)];exact y2
     ·have z':=cY.mp z;injection z' with z1 z2
      obtain⟨y1,y2⟩:=hf b l r z2.symm;refine⟨by omega,?_⟩;rw[ay z1,aq (by omega)];exact y2
    ·simp at hb;rw[ai hb.2.2,ai hb.2.1,ai hb.1];exact ob'
def _root_.L2.jS.lt{A:Around}(r:jS k A)(h:j<=k:=by first|decide|omega):jS j A:=r.mono h
abbrev bI:=SM.bI
def jt(a:Ad)(H:Hp)(p dk dn:Addr)(s:bI):Prop:=∃ob le,Raw a H p dk dn s.length (SM.rowsOf s) ob le
section
variable{a:Ad}{H H':Hp}{p dk dn:Addr}{s:bI}
theorem jt.keep(N:jt a H p dk dn s)(k:aH S H H')(hS:∀b∈S,v9 a p dk dn H b):jt a H' p dk dn s:=by
 obtain⟨ob,le,N⟩:=N;exact⟨ob,le,N.keep k hS⟩
def jt.same(N:jt a H p dk dn s)(k:az H H'):jt a H' p dk dn s:=N.keep (S:=[]) (aH.of k) (by simp)
def Raw.VE{ob le:Nat->Nat}(N:Raw a H p dk dn s.length (SM.rowsOf s) ob le)(r:SM.Rep s i t):le i=leastKey t:=by
 induction r with
 |leaf e=>
  have:=N.node _ (SM.gf.mpr e);exact this.1
 |fork e _ _ ih _=>
  have:=N.VB _ _ _ _ (SM.gf.mpr e);rw[this.2,ih];rfl
theorem jt.obj(N:jt a H p dk dn s):∃dx,H p=some (.ins a.bW dx (nf s.length dk dn)):=by obtain⟨_,_,N⟩:=N;exact N.obj
theorem jt.kept(N:jt a H p dk dn s):∃ob,H dk=some (.dK (tH (SM.rowsOf s) ob)):=by obtain⟨ob,_,N⟩:=N;exact⟨ob,N.kept⟩
theorem jt.nums(N:jt a H p dk dn s):H dn=some (.dT (Em (SM.rowsOf s))):=by obtain⟨ob,_,N⟩:=N;exact N.nums
theorem jt.lst(N:jt a H p dk dn s)(h:H b=some (.lst xs)):b∉ [p,dk,dn]:=by
 obtain⟨_,_,N⟩:=N;obtain⟨h1,h2,h3,_⟩:=N.Gh h;simp[h1,h2,h3]
theorem jt.ins(N:jt a H p dk dn s)(h:H b=some (.ins C dx fs))(hC:C≠a.bW):b∉ [p,dk,dn]:=by
 obtain⟨_,h1⟩:=N.obj;obtain⟨_,h2⟩:=N.kept;have:b≠p:=λz=>by rw[z,h1]at h;have:=fG h;cases this;exact hC rfl
 simp[this,bh h h2 (by intro z;cases z),bh h N.nums (by intro z;cases z)]
theorem jt.tup(N:jt a H p dk dn s)(h:H b=some (.tup xs)):b∉ [p,dk,dn]:=by
 obtain⟨_,h1⟩:=N.obj;obtain⟨_,h2⟩:=N.kept;simp[bh h h1 (by intro z;cases z),bh h h2 (by intro z;cases z),bh h N.nums (by intro z;cases z)]
end
def abV{s:bI}(U:SM.qB s):((SM.rowsOf s).map (·.2)).Nodup:=by
 have h:=SM.zT (s:=s) (i:=1);have hm:∀j n,(j,n)∈SM.rowsOf s->nodeAt s j=some n:=λj n=>SM.gf.mp
 revert h hm
 show(List.map _ (SM.aZ 1 s)).Pairwise _->(∀j n,(j,n)∈SM.aZ 1 s->_)->(List.map _ (SM.aZ 1 s)).Nodup
 generalize SM.aZ 1 s=l;intro h hm
 induction l with
 |nil=>simp
 |cons x l ih=>
  obtain⟨h1,h2⟩:=iF.mp (show(x.1::l.map (·.1)).Pairwise (· < ·)from h);refine kQ.mpr ⟨λz=>?_,ih h2 λj n z=>hm j n (cP _ z)⟩;obtain⟨y,hy,e⟩:=br.mp z;have:=h1 y.1 (br.mpr ⟨y,hy,rfl⟩)
  have e1:=hm x.1 x.2 (bU ..);have e2:=hm y.1 y.2 (cP _ hy)
  rw[e]at e2;have:=U _ _ _ e1 e2
  omega
inductive S_(a:Ad)(vs:List V)(H:Hp)(Q:VK)(gc:XK):Prop
 |mk (p dk dn:Addr) (s:bI) (i:Nat) (n:SM.Nd) (_:vs=[.ref p,.int (i:Int)]) (_:jt a H p dk dn s) (_:nodeAt s i=some n) (_:∀q e,gp a H q n e->(∀t,SM.Rep s i t->e=leastKey t)->Q (.ref q) H)
inductive LS(a:Ad)(vs:List V)(H:Hp)(Q:VK)(gc:XK):Prop
 |mk (p dk dn:Addr) (s:bI) (k:Nat) (x:Int) (_:vs=[.ref p,.int (k:Int),.int x]) (_:jt a H p dk dn s) (_:SM.qB s) (_:s.length<1000000) (_:∀H',jt a H' p dk dn (Vbwsae.mk Vbwsae.same s (.leaf k x)).1->aH [p,dk,dn] H H'->Q (.int ((Vbwsae.mk Vbwsae.same s (.leaf k x)).2:Nat)) H')
inductive LU(a:Ad)(vs:List V)(H:Hp)(Q:VK)(gc:XK):Prop
 |mk (p dk dn:Addr) (s:bI) (b l r:Nat) (n:SM.Nd) (_:vs=[.ref p,.int (b:Int),.int (l:Int),.int (r:Int)]) (_:jt a H p dk dn s) (_:SM.qB s) (_:s.length<1000000) (_:nodeAt s l=some n) (_:∀H',jt a H' p dk dn (Vbwsae.mk Vbwsae.same s (.fork b l r)).1->aH [p,dk,dn] H H'->Q (.int ((Vbwsae.mk Vbwsae.same s (.fork b l r)).2:Nat)) H')
def BC{s:bI}:(SM.rowsOf s).length<=s.length:=by
 show(SM.aZ 1 s).length<=_
 rw[SM.uW];exact Bf _ _
def Jf{a:Ad}{H:Hp}{p dk dn q:Addr}{s:bI}{ob le:Nat->Nat}(N:Raw a H p dk dn s.length (SM.rowsOf s) ob le)(U:SM.qB s)(hz:s.length<1000000){n:SM.Nd}{e:Nat}(ho:gp a H q n e)(hf:∀b l r,n=.fork b l r->l<=s.length/\e=le l){Q:VK}{E:XK}
  (k:∀H',jt a H' p dk dn (Vbwsae.mk Vbwsae.same s n).1->aH [p,dk,dn] H H'->Q (.int ((Vbwsae.mk Vbwsae.same s n).2:Nat)) H'):P7 a [.ref p,.ref q] H Q E:=by
 refine⟨p,dk,dn,s.length,SM.rowsOf s,ob,le,q,n,e,rfl,N,ho,tU BC hz,hf,λm hm=>?_,λhn H' N' K'=>?_⟩
 ·have h:=SM.gf.mp hm;rcases SM.xQ U n with⟨i,h1,h2⟩|⟨h1,h2⟩
  ·have:=U _ _ _ h1 h;subst this;rw[h2]at k;exact k H ⟨ob,le,N⟩ (aH.refl _ _)
  ·exact absurd h (h1 m)
 ·rcases SM.xQ U n with⟨i,h1,h2⟩|⟨h1,h2⟩
  ·exact absurd rfl (hn (i,n) (SM.gf.mpr h1))
  ·rw[h2]at k;have er:SM.rowsOf (s++[some n])=SM.rowsOf s++[(s.length+1,n)]:=by
    show SM.aZ 1 (s++[some n])=_
    rw[SM.nU,Nat.add_comm 1];rfl
   refine k H' ⟨λi=>if i=s.length+1 then q else ob i,λi=>if i=s.length+1 then e else le i,?_⟩ K';show Raw a H' p dk dn (s++[some n]).length (SM.rowsOf (s++[some n])) _ _
   rw[gb,er];exact N'
def iC(T:Txt K mg a):aT P w K mg base cR 1 a.aQ.1 a.aQ.2 ["self","number"] (S_ a):=
 (ED T).imp λvs H Q E ⟨p,dk,dn,s,i,n,e,⟨ob,le,N⟩,hn,k⟩=>⟨p,dk,dn,_,_,ob,le,(i,n),e,N,SM.gf.mpr hn,k _ _ (N.node (i,n) (SM.gf.mpr hn)) λt r=>N.VE r⟩
def r8(T:Txt K mg a):aT P w K mg base cR 3 a.bT.1 a.bT.2 ["self","key","value"] (LS a):=by
 refine T.bT.F.ok xF (λvs H Q E h=>?_) (λcdv A outer s0 H vs Q E hr h=>?_)
 ·obtain⟨p,dk,dn,s,k,x,rfl,_⟩:=h;rfl
 ·obtain⟨p,dk,dn,s,k,x,rfl,⟨ob,le,N⟩,U,hz,kk⟩:=h;obtain⟨dx,h1⟩:=N.obj;refine⟨_,(ao (aC (aI (pv 0) T.aM T.gY.m (wH T) hr.lt T.gY.b .nil aA (aa (l5 T.S8 (Ht T) hr.lt rfl T.mZ T.j_.b .nil aA (aa (pv 1) (aa (pv 2) ah))) ah)))),?_⟩;refine⟨_,rfl,p,dx,_,rfl,h1,rfl,_,rfl,_,rfl,λq dq hq KU hne=>?_⟩;refine⟨q,dq,k,x,rfl,af,λt H' ht h2 h3 K'=>⟨rfl,?_⟩⟩;have S:az H H':=λb o e=>K' b o (by rw[ai (aj e hq),ai (aj e KU)];exact e) (by simpa using aj e hq)
  exact Jf (E:=E0) (N.same S) U hz (n:= .leaf k x) (e:=k) ⟨rfl,dq,t,h2,h3⟩ (λ_ _ _ z=>by cases z) λH2 N2 K2=>kk H2 N2 ((aH.of S).trans K2)
def kG(T:Txt K mg a):aT P w K mg base cR 3 a.aY.1 a.aY.2 ["self","bit","left","right"] (LU a):=by
 refine T.aY.F.ok xG (λvs H Q E h=>?_) (λcdv A outer s0 H vs Q E hr h=>?_)
 ·obtain⟨p,dk,dn,s,b,l,r,n,rfl,_⟩:=h;rfl
 ·obtain⟨p,dk,dn,s,b,l,r,n,rfl,⟨ob,le,N⟩,U,hz,hn,kk⟩:=h;obtain⟨dx,h1⟩:=N.obj;have hu:=nY hr
  have hN:=N.node (l,n) (SM.gf.mpr hn);obtain⟨C,dl,fs,s1,s2,s3,s4⟩:=hN.least T;refine⟨_,(ao (aC (aI (pv 0) T.aM T.gY.m (wH T) hr.lt T.gY.b .nil aA (aa (l5 T.S9 (Hu T) hr.lt rfl T.Gz T.kg.b .nil aA (aa (pv 1) (aa (pv 2) (aa (pv 3) (aa (au (gQ hu (au (pv 0) rfl) (pv 2) (λ_ _=>rfl)) rfl) ah))))) ah)))),?_⟩;refine⟨_,rfl,p,dx,_,rfl,h1,rfl,_,rfl,_,rfl,_,rfl,_,rfl,p,_,dx,_,_,rfl,h1,T.aM,T.iK,rfl,_,rfl,dk,.ref (ob l),rfl,?_,ob l,C,dl,fs,_,rfl,s1,s2,s3,s4,λq dq hq KU hne=>?_⟩
  ·have:=gx.k (k:=Sum.inl (l:Int)) N.kept;rw[N.look (r:=(l,n)) (SM.gf.mpr hn)]at this;exact this
  refine⟨q,dq,b,l,r,le l,rfl,af,λt H' ht h2 h3 K'=>⟨rfl,?_⟩⟩;have S:az H H':=λb o e=>K' b o (by rw[ai (aj e hq),ai (aj e KU)];exact e) (by simpa using aj e hq)
  exact Jf (E:=E0) (N.same S) U hz (n:= .fork b l r) (e:=le l) ⟨dq,t,h2,h3⟩ (λ_ _ _ z=>by cases z;exact⟨SM.zR hn,rfl⟩) λH2 N2 K2=>kk H2 N2 ((aH.of S).trans K2)
theorem C_ [DecidableEq κ]{f:α->κ}{g:α->V}{k:κ}{q:α->Bool}:∀{l:List α},(∀x∈l,decide (f x≠k)=q x)->j5 (l.map λr=>(f r,g r)) k=(l.filter q).map λr=>(f r,g r)
 | [],_=>rfl
 |x::l,h=>by
  have hx:=h x (bU ..);have ih:=C_ (g:=g) (l:=l) λy hy=>h y (cP _ hy)
  show j5 ((f x,g x)::l.map λr=>(f r,g r)) k=_
  by_cases c:f x=k
  ·rw[F8 (show(f x,g x).1=k from c),ih,kP,aq (by rw[<- hx];simp[c])]
  ·rw[F9 (show¬(f x,g x).1=k from c),ih,kP,ay (by rw[<- hx];simp[c])];rfl
def JG(h:(l.map (·.1)).Pairwise (· < ·)){x y:Nat×SM.Nd}(hx:x∈l)(hy:y∈l)(e:x.1=y.1):x=y:=by
 induction l with
 |nil=>cases hx
 |cons z l ih=>
  obtain⟨h1,h2⟩:=iF.mp (show(z.1::l.map (·.1)).Pairwise (· < ·)from h);rcases bN.mp hx with a|a<;>rcases bN.mp hy with b|b
  ·rw[a,b]
  ·have:=h1 y.1 (br.mpr ⟨y,b,rfl⟩);rw[a]at e;omega
  ·have:=h1 x.1 (br.mpr ⟨x,a,rfl⟩);rw[b]at e;omega
  ·exact ih h2 a b
def Hv(h:(l.map (·.2)).Nodup){x y:Nat×SM.Nd}(hx:x∈l)(hy:y∈l)(e:x.2=y.2):x.1=y.1:=by
 induction l with
 |nil=>cases hx
 |cons z l ih=>
  obtain⟨h1,h2⟩:=kQ.mp (show(z.2::l.map (·.2)).Nodup from h);rcases bN.mp hx with a|a<;>rcases bN.mp hy with b|b
  ·rw[a,b]
  ·exact absurd (br.mpr ⟨y,b,by rw[<- e,a]⟩) h1
  ·exact absurd (br.mpr ⟨x,a,by rw[e,b]⟩) h1
  ·exact ih h2 a b
inductive Tc(a:Ad)(vs:List V)(H:Hp)(Q:VK)(gc:XK):Prop
 |mk (p dk dn:Addr) (made:Nat) (rows:List (Nat×SM.Nd)) (ob le:Nat->Nat) (r:Nat×SM.Nd) (_:vs=[.ref p,.int (r.1:Int)]) (_:Raw a H p dk dn made rows ob le) (_:r∈rows) (_:∀H',Raw a H' p dk dn made (rows.filter λx=>decide (x.1≠r.1)) ob le->aH [dk,dn] H H'->Q .gq H')
inductive VF(a:Ad)(vs:List V)(H:Hp)(Q:VK)(gc:XK):Prop
 |mk (p dk dn:Addr) (s s':bI) (_:vs=[.ref p,.int (s.length:Int)]) (_:jt a H p dk dn s') (_:(∀n b l r,nodeAt s n=some (.fork b l r)->l<=s.length)) (_:SM.jY s s') (_:s'.length<1000000) (_:∀H',jt a H' p dk dn s->aH [p,dk,dn] H H'->Q .gq H')
def Raw.less{a:Ad}{H H':Hp}{p dk dn:Addr}{made made':Nat}{rows:List (Nat×SM.Nd)}{ob le:Nat->Nat}(N:Raw a H p dk dn made rows ob le)(f:Nat×SM.Nd->Bool)(k:aH [p,dk,dn] H H')(h0:∃dx,H' p=some (.ins a.bW dx (nf made' dk dn)))(hC:a.fE≠a.bW/\a.fq≠a.bW)(h1:H' dk=some (.dK (tH (rows.filter f) ob)))(h2:H' dn=some (.dT (Em (rows.filter f))))
  (hm:∀r∈rows,f r=true->r.1<=made'/\∀b l q,r.2=.fork b l q->l<=made'):Raw a H' p dk dn made' (rows.filter f) ob le:=by
 obtain⟨dx,hp⟩:=N.obj;have sub:∀r,r∈rows.filter f->r∈rows/\f r=true:=λr hr=>jN.mp hr
 refine⟨h0,h1,h2,λr hr=>(N.node r (sub r hr).1).keep λb o e c=>k b o e λz=>?_,?_,?_,λr hr=>(hm r (sub r hr).1 (sub r hr).2).1,λn b l q hr=>⟨(hm _ (sub _ hr).1 (sub _ hr).2).2 b l q rfl,(N.VB n b l q (sub _ hr).1).2⟩⟩
 ·simp only[bN,List.mem_nil_iff,or_false]at z;rcases z with z|z|z
  ·rw[z,hp]at e;cases e;rcases c with⟨_,_,c⟩|⟨_,_,c⟩|⟨_,c⟩
   ·injection c with c;exact hC.1 c.symm
   ·injection c with c;exact hC.2 c.symm
   ·cases c
  ·rw[z,N.kept]at e;cases e;rcases c with⟨_,_,c⟩|⟨_,_,c⟩|⟨_,c⟩<;>cases c
  ·rw[z,N.nums]at e;cases e;rcases c with⟨_,_,c⟩|⟨_,_,c⟩|⟨_,c⟩<;>cases c
 ·exact BH (E9 _ ym) N.rise
 ·exact BH (E9 _ ym) N.uniq
def Txt.VG(T:Txt K mg a):a.fE≠a.bW/\a.fq≠a.bW:=by
 have h:=T.nC;simp only[kQ,bN,not_or]at h;exact⟨h.1.2.1,h.2.1.1⟩
def wI(T:Txt K mg a):aT P w K mg base cR 1 a.cI.1 a.cI.2 ["self","number"] (Tc a):=by
 refine T.cI.F.ok n6 (λvs H Q E h=>?_) (λcdv A outer s0 H vs Q E hr h=>?_)
 ·obtain⟨p,dk,dn,made,rows,ob,le,r,rfl,_⟩:=h;rfl
 ·obtain⟨p,dk,dn,made,rows,ob,le,r,rfl,N,hm,k⟩:=h;obtain⟨dx,h1⟩:=N.obj;obtain⟨C,dq,fs,t,s1,s2,s3,s4,s5⟩:=(N.node r hm).shape T;have Um:p≠dk:=bh h1 N.kept (by intro z;cases z)
  have RZ:p≠dn:=bh h1 N.nums (by intro z;cases z);have Uk:dk≠dn:=bh N.kept N.nums (by intro z;cases z)
  have WL:ob r.1≠dk:=bh s1 N.kept (by intro z;cases z);have WM:t≠dk:=bh s5 N.kept (by intro z;cases z)
  refine⟨_,(ak (aJ (i:=2) n6.nd rfl (Or.inl rfl) (QN (au (pv 0) rfl) (pv 1) ⟨rfl,rfl,rfl,rfl⟩)) (ao (bQ (QY (nY hr) (au (pv 0) rfl) (au (pv 2) rfl) ⟨rfl,rfl,rfl,rfl⟩)))),?_⟩;refine⟨_,rfl,p,_,dx,_,_,rfl,h1,T.aM,T.iK,rfl,dk,rfl,.inl ⟨_,.inl N.kept⟩,_,rfl,_,Sum.inl (r.1:Int),_,N.kept,rfl,N.look hm,?_⟩;have e1:j5 (tH rows ob) (.inl (r.1:Int))=tH (rows.filter λx=>decide (x.1≠r.1)) ob:=C_ λx hx=>by
   by_cases c:x.1=r.1
   ·simp[c]
   ·have c2:¬(Sum.inl (x.1:Int):Key)=Sum.inl (r.1:Int):=λe=>c (by have:=qA e;omega)
    rw[jP c2,jP c]
  have e2:j5 (Em rows) (xK r.2)=Em (rows.filter λx=>decide (x.1≠r.1)):=C_ λx hx=>by
   by_cases c:x.1=r.1
   ·have:x=r:=by
     exact JG N.rise hx hm c
    simp[this]
   ·have c2:¬xK x.2=xK r.2:=λe=>c (by
     have e:=GB e;exact Hv N.uniq hx hm e)
    rw[jP c2,jP c]
  refine⟨_,rfl,p,_,dx,_,_,rfl,(by rw[ai Um];exact h1),T.aM,T.ie,rfl,dn,rfl,.inr ⟨_,.inl (by rw[ai Uk.symm];exact N.nums)⟩,_,rfl,ob r.1,C,dq,fs,_,rfl,(by rw[ai WL];exact s1),s2,s3,s4,_,xK r.2,t,_,(by rw[ai Uk.symm];exact N.nums),rfl,(by rw[ai WM];exact s5),N.num hm,?_⟩;have K':aH [dk,dn] H (L2.upd (L2.upd H dk (.dK (j5 (tH rows ob) (.inl (r.1:Int))))) dn (.dT (j5 (Em rows) (xK r.2)))):=λb o e hb=>by
   simp at hb;rw[ai hb.2,ai hb.1];exact e
  refine k _ (N.less _ (K'.mono λb hb=>cP _ hb) ⟨dx,by rw[ai RZ,ai Um];exact h1⟩ T.VG (by rw[ai Uk,af,e1]) (by rw[af,e2]) λx hx _=>⟨N.most x hx,λb l q e=>?_⟩) K';have:=N.VB x.1 b l q (by rw[<- e];exact hx)
  exact this.1
def EE(T:Txt K mg a):aT P w K mg base cR 2 a.dX.1 a.dX.2 ["self","made"] (VF a):=by
 refine T.dX.F.ok nZ (λvs H Q E h=>?_) (λcdv A outer s0 H vs Q E hr h=>?_)
 ·obtain⟨p,dk,dn,s,s',rfl,_⟩:=h;rfl
 ·obtain⟨p,dk,dn,s,s',rfl,⟨ob,le,N⟩,hf,⟨new,hg⟩,hz,k⟩:=h;obtain⟨dx,h1⟩:=N.obj;have hlen:s'.length=s.length+new.length:=by rw[hg];simp
  refine⟨_,(ak (jf kE rfl (NS rfl T.ue (aa (cU ig (pv 1) aD) (aa (cU ig (au (pv 0) rfl) aD) ah))) (b_ (i:=2) nZ.nd rfl (Or.inl rfl)) (ao (bQ (aI (pv 0) T.aM T.cI.m (wI T) hr.lt T.cI.b .nil aA (aa (pv 2) ah))))) (ao (d8 (pv 0) (pv 1) rfl))),?_⟩;refine⟨_,rfl,_,_,rfl,rfl,_,rfl,p,_,dx,_,_,rfl,h1,T.aM,T.fc,rfl,_,_,rfl,rfl,_,_,rfl,⟨by omega,by omega,by omega,by omega⟩,?_⟩;have en:((s'.length:Int)+1-((s.length:Int)+1)).toNat=new.length:=by omega
  rw[en];refine NU (λi σ H2=>∃v,σ=[some (.ref p),some (.int (s.length:Int)),v]/\Raw a H2 p dk dn s'.length ((SM.rowsOf s').filter λx=>decide (x.1<=s.length\/s.length+i<x.1)) ob le/\aH [p,dk,dn] H H2) ⟨none,rfl,?_,aH.refl _ _⟩ ?_ ?_
  ·have e:(SM.rowsOf s').filter (λx=>decide (x.1<=s.length\/s.length+0<x.1))=SM.rowsOf s':=SM.filter_all λx _=>by simp;omega
   rw[e];exact N
  ·rintro i σ H2 hi ⟨v,rfl,R,KK⟩
   obtain⟨mX,h2⟩:=R.obj;have hr0:(s.length+1+i,new[i])∈SM.rowsOf s':=SM.gf.mpr (by
    rw[show s.length+1+i=(s.length+i)+1 from by omega,SM.iD,hg,tS,Ed (by omega)];simp[hi])
   refine⟨_,rfl,p,mX,_,rfl,h2,rfl,_,rfl,?_⟩;refine⟨p,dk,dn,_,_,ob,le,(s.length+1+i,new[i]),by simp,R,jN.mpr ⟨hr0,by simp⟩,λH3 R3 K3=>?_⟩;refine⟨_,rfl,?_,KK.trans (K3.mono λb hb=>cP _ hb)⟩;rw[List.filter_filter]at R3;have e:(SM.rowsOf s').filter (λx=>decide (x.1<=s.length\/s.length+(i+1)< x.1))=(SM.rowsOf s').filter (λx=>decide (x.1≠s.length+1+i)&&decide (x.1<=s.length\/s.length+i<x.1)):=BO λx _=>by
    rw[qj];simp;omega
   rw[e];exact R3
  ·rintro σ H2 ⟨v,rfl,R,KK⟩
   obtain⟨mX,h2⟩:=R.obj;refine⟨_,rfl,_,rfl,p,_,mX,_,rfl,h2,T.aM,T.fc,(by show 3<1000;decide),?_⟩;have Um:p≠dk:=bh h2 R.kept (by intro z;cases z)
   have RZ:p≠dn:=bh h2 R.nums (by intro z;cases z);have e:(SM.rowsOf s').filter (λx=>decide (x.1<=s.length\/s.length+new.length<x.1))=SM.rowsOf s:=by
    have er:SM.rowsOf s'=SM.rowsOf s++SM.aZ (1+s.length) (new.map some):=by rw[hg];exact SM.nU
    rw[er,Bh,SM.filter_all (λx hx=>?_),SM.filter_none (λx hx=>?_),nP]
    ·have:=SM.CL hx;simp at this;simp;omega
    ·have:=SM.CL hx;simp;omega
   rw[e]at R;have K2:aH [p,dk,dn] H2 (L2.upd H2 p (.ins a.bW mX (kY "made" (.int (s.length:Int)) (nf s'.length dk dn)))):=aH.upd (bU ..)
   refine k _ ⟨ob,le,?_⟩ (KK.trans K2);have R2:=R.less (made':=s.length) (λ_=>true) K2 ⟨mX,by rw[af];rfl⟩ T.VG (by rw[ai Um.symm,SM.filter_all λ_ _=>rfl];exact R.kept) (by rw[ai RZ.symm,SM.filter_all λ_ _=>rfl];exact R.nums) λr hr _=>⟨SM.zR (SM.gf.mp hr),λb l q e=>hf r.1 b l q (by rw[<- e];exact SM.gf.mp hr)⟩
   rw[SM.filter_all λ_ _=>rfl]at R2;exact R2
inductive LV(a:Ad)(vs:List V)(H:Hp)(Q:VK)(gc:XK):Prop
 |mk (p dk dn nd:Addr) (s:bI) (kn:List (Key×V)) (pr:Nat->Bool) (_:vs=[.ref p,.ref nd]) (_:jt a H p dk dn s) (_:H nd=some (.dK kn)) (_:nd≠dk) (_:(∀i:Nat,(fO kn (.inl (i:Int))).isSome=pr i)) (_:s.length<1000000) (_:∀H',jt a H' p dk dn (SM.qX pr s)->aH [p,dk,dn] H H'->Q (.int ((SM.rowsOf s).filter λr=>!pr r.1).length) H')
def take_snoc{l:List α}{x:α}(h:l[i]? =some x):l.take (i+1)=l.take i++[x]:=by
 obtain⟨hi,e⟩:=iu.mp h;rw[List.take_succ,h];rfl
def eZ(h:n<1000000):n<sizeLine:=BX h (by decide)
def Hw(T:Txt K mg a):aT P w K mg base cR 2 a.eN.1 a.eN.2 ["self","needed"] (LV a):=by
 refine T.eN.F.ok jy (λvs H Q E h=>?_) (λcdv A outer s0 H vs Q E hr h=>?_)
 ·obtain⟨p,dk,dn,nd,s,kn,pr,rfl,_⟩:=h;rfl
 ·obtain⟨p,dk,dn,nd,s,kn,pr,rfl,⟨ob,le,N⟩,hnd,nnk,hpr,hz,k⟩:=h;obtain⟨dx,h1⟩:=N.obj;have hu:=nY hr
  have Um:p≠dk:=bh h1 N.kept (by intro z;cases z);refine⟨_,(ak (MY (IW (i:=2) (own:=[("number",3)]) rfl jy.nd rfl rfl (MX rfl rfl rfl rfl) (MZ (au (pv 0) rfl)) (jU rfl) (λs H C cl fp=>b_ (i:=3) jy.nd rfl (Or.inl rfl)) (λs H C cl fp=>Bu (bf (nX hu (pv 3) (pv 1)))) (λs H C cl fp=>pv 3))) (ak (jf kE rfl (i6 (pv 2)) (b_ (i:=3) jy.nd rfl (Or.inl rfl)) (ao (bQ (aI (pv 0) T.aM T.cI.m (wI T) hr.lt T.cI.b .nil aA (aa (pv 3) ah))))) (ao (aC (aV bg rfl T.iy rfl (aa (pv 2) ah)))))),?_⟩;refine⟨dk,_,N.kept,trivial,λod=>?_⟩;refine⟨_,rfl,p,_,dx,_,_,rfl,(by rw[ai Um];exact h1),T.aM,T.iK,rfl,dk,od,rfl,.inl ⟨_,af,λD hD=>?_⟩⟩;have WN:D≠dk:=(aj (o:=HO.je od (.dK (tH (SM.rowsOf s) ob))) (H:=L2.upd H dk (.je od (.dK (tH (SM.rowsOf s) ob)))) (by rw[af]) hD).symm
  rw[ai WN]at hD;refine Gy (λi H2=>H2=L2.upd (L2.upd H dk (.je od (.dK (tH (SM.rowsOf s) ob)))) D (.lst ((((SM.rowsOf s).take i).filter λr=>!pr r.1).map λr=>V.int (r.1:Int)))) rfl (λi H2 _ e=>?_) (λi ky v H2 hk e=>?_) (λH2 e=>?_)
  ·rw[e,ai WN.symm,af]
  ·subst e;rw[tH,fj]at hk;obtain⟨r,hr0,e⟩:=f_.mp hk;cases e;refine⟨rfl,_,rfl,_,rfl,nd,fO kn (.inl (r.1:Int)),rfl,.inl ⟨kn,.inl (r.1:Int),.inl (by rw[ai (aj hnd hD),ai nnk];exact hnd),rfl,rfl⟩,_,rfl,?_⟩;rw[hpr,take_snoc hr0,Bh,jO];cases hp:pr r.1
   ·refine dF ?_;refine⟨_,rfl,_,af,?_,?_⟩
    ·rw[aO];exact eZ (tU (gz (Bf _ _) (gz (yk _ _) BC)) hz)
    ·rw[qM];simp[hp,kV]
   ·refine fu ?_;simp[hp]
  ·have hlen:(tH (SM.rowsOf s) ob).length=(SM.rowsOf s).length:=by simp[tH]
   rw[hlen,i9]at e;subst e;refine⟨by rw[ai WN.symm,af],?_⟩;have eH:L2.upd (L2.upd (L2.upd H dk (.je od (.dK (tH (SM.rowsOf s) ob)))) D (.lst (((SM.rowsOf s).filter λr=>!pr r.1).map λr=>V.int (r.1:Int)))) dk (.dK (tH (SM.rowsOf s) ob))=L2.upd H D (.lst (((SM.rowsOf s).filter λr=>!pr r.1).map λr=>V.int (r.1:Int))):=by
    funext b
    by_cases c:b=dk
    ·rw[c,af,ai WN.symm,N.kept]
    ·rw[ai c];by_cases c2:b=D
     ·rw[c2,af,af]
     ·rw[ai c2,ai c2,ai c]
   rw[eH];have S:az H (L2.upd H D (.lst (((SM.rowsOf s).filter λr=>!pr r.1).map λr=>V.int (r.1:Int)))):=az.new hD
   refine⟨_,rfl,D,rfl,⟨_,aX.of af⟩,jT (K:=K) (xs:=((SM.rowsOf s).filter λr=>!pr r.1).map λr=>V.int (r.1:Int)) (λi σ H2=>∃v,σ=[some (.ref p),some (.ref nd),some (.ref D),v]/\H2 D=some (.lst (((SM.rowsOf s).filter λr=>!pr r.1).map λr=>V.int (r.1:Int)))/\
    Raw a H2 p dk dn s.length ((SM.rowsOf s).filter λx=>pr x.1|| !decide (x.1∈(((SM.rowsOf s).filter λr=>!pr r.1).take i).map (·.1))) ob le/\aH [p,dk,dn] H H2) ⟨_,rfl,af,?_,aH.of S⟩ ?_ ?_ ?_⟩
   ·rw[SM.filter_all (f:=λx:Nat×SM.Nd=>pr x.1|| !decide (x.1∈(((SM.rowsOf s).filter λr=>!pr r.1).take 0).map (·.1))) λx _=>by simp];exact N.same S
   ·rintro i σ H2 _ ⟨v,_,d9,_⟩
    exact aX.of d9
   ·rintro i x σ H2 hx ⟨v,rfl,d9,R,KK⟩
    obtain⟨mX,h2⟩:=R.obj;rw[fj]at hx;obtain⟨r,hr0,rfl⟩:=f_.mp hx;have hrm:=l_ hr0
    obtain⟨hr1,hr2⟩:=jN.mp hrm;have Jg:r.1∉(((SM.rowsOf s).filter λr=>!pr r.1).take i).map (·.1):=λz=>by
     have hp:((((SM.rowsOf s).filter λr=>!pr r.1)).map (·.1)).Pairwise (· < ·):=BH (E9 _ ym) N.rise;obtain⟨y,hy,e⟩:=br.mp z;obtain⟨j,hj,ej⟩:=List.mem_iff_getElem.mp hy;rw[List.getElem_take]at ej;have hji:j<i:=by rw[lG]at hj;omega
     obtain⟨hi,ei⟩:=iu.mp hr0;have:=GN.mp hp j i (by simp;omega) (by simpa using hi) hji
     simp only[List.getElem_map]at this;rw[ej,ei,e]at this;omega
    refine⟨_,rfl,p,mX,_,rfl,h2,rfl,_,rfl,?_⟩;refine⟨p,dk,dn,_,_,ob,le,r,rfl,R,jN.mpr ⟨hr1,by simpa using Or.inr (by simpa using Jg)⟩,λH3 R3 K3=>?_⟩;refine⟨_,rfl,?_,?_,KK.trans (K3.mono λb hb=>cP _ hb)⟩
    ·exact K3 _ _ d9 (by simp[bh d9 R.kept (by intro z;cases z),bh d9 R.nums (by intro z;cases z)])
    ·rw[List.filter_filter]at R3;rw[take_snoc hr0,jO];have e:(SM.rowsOf s).filter (λx=>pr x.1|| !decide (x.1∈(((SM.rowsOf s).filter λr=>!pr r.1).take i).map (·.1)++[r].map (·.1)))=(SM.rowsOf s).filter (λx=>decide (x.1≠r.1)&&(pr x.1|| !decide (x.1∈(((SM.rowsOf s).filter λr=>!pr r.1).take i).map (·.1)))):=BO λx _=>by
      rw[qj];by_cases c:x.1=r.1
      ·have hf:pr r.1=false:=by simpa using hr2
       rw[c];simp[hf]
      ·simp only[dG,sC,dg,cY,Bool.or_eq_true,cB,BP,vR,k8,not_or];constructor
       ·rintro(h|h)
        ·exact⟨c,.inl h⟩
        ·exact⟨c,.inr h.1⟩
       ·rintro⟨_,h|h⟩
        ·exact .inl h
        ·exact .inr ⟨h,c⟩
     rw[e];exact R3
   ·rintro σ H2 ⟨v,rfl,d9,R,KK⟩
    refine⟨_,rfl,D,_,rfl,.inl (aX.of d9),?_⟩;rw[aO]at R⊢;refine k H2 ⟨ob,le,?_⟩ KK;rw[SM.zU,SM.IC];rw[i9]at R;have e:(SM.rowsOf s).filter (λx=>pr x.1|| !decide (x.1∈((SM.rowsOf s).filter λr=>!pr r.1).map (·.1)))=(SM.rowsOf s).filter λr=>pr r.1:=BO λx hx=>by
     cases c:pr x.1
     ·have:x.1∈((SM.rowsOf s).filter λr=>!pr r.1).map (·.1):=br.mpr ⟨x,jN.mpr ⟨hx,by simp[c]⟩,rfl⟩;simp[this]
     ·rfl
    rw[e]at R;exact R
noncomputable def bi (b:Bool):Int:=if b=true then 1 else 0
inductive XH(vs:List V)(H:Hp)(Q:VK)(gc:XK):Prop
 |mk (k b:Nat) (_:vs=[.int (k:Int),.int (b:Int)]) (_:Q (.int (bi (k.testBit b))) H)
inductive VH(vs:List V)(H:Hp)(Q:VK)(gc:XK):Prop
 |mk (k o:Nat) (_:vs=[.int (k:Int),.int (o:Int)]) (_:k<2^40) (_:o<2^40) (_:Q (.int (Vbwsae.top k o:Nat)) H)
inductive Q9(a:Ad)(vs:List V)(H:Hp)(Q:VK)(gc:XK):Prop
 |mk (p dk dn:Addr) (s:bI) (k:Nat) (x:Int) (i:Nat) (t:SM.Tr) (_:vs=[.ref p,.int (k:Int),.int x,.int (i:Int)]) (_:jt a H p dk dn s) (_:SM.qB s) (_:s.length+2<1000000) (_:k<2^40) (_:SM.Rep s i t) (_:leastKey t<2^40) (_:∀H',let m:=Vbwsae.mk Vbwsae.same s (.leaf k x);let u:=underAt Vbwsae.same m.1 (Vbwsae.top k (leastKey t)) k m.2 i;jt a H' p dk dn u.1->aH [p,dk,dn] H H'->Q (.int (u.2:Nat)) H')
inductive XI(a:Ad)(d:Nat)(vs:List V)(H:Hp)(Q:VK)(gc:XK):Prop
 |mk (p dk dn:Addr) (s:bI) (i k:Nat) (x:Int) (t:SM.Tr) (_:vs=[.ref p,.int (i:Int),.int (k:Int),.int x]) (_:jt a H p dk dn s) (_:SM.qB s) (_:s.length+d+1<1000000) (_:k<2^40) (_:0<d) (_:d<=41) (_:SM.ji s i t) (_:depth t<=d) (_:SM.Small t) (_:∀H',jt a H' p dk dn (Vbwsae.putAt Vbwsae.same k x d s i).1->aH [p,dk,dn] H H'->Q (.int ((Vbwsae.putAt Vbwsae.same k x d s i).2:Nat)) H')
inductive VI(a:Ad)(d:Nat)(vs:List V)(H:Hp)(Q:VK)(gc:XK):Prop
 |mk (p dk dn:Addr) (s:bI) (i k:Nat) (t:SM.Tr) (_:vs=[.ref p,.int (i:Int),.int (k:Int)]) (_:jt a H p dk dn s) (_:SM.qB s) (_:s.length+d+1<1000000) (_:0<d) (_:SM.ji s i t) (_:depth t<=d) (_:∀H',jt a H' p dk dn (delAt Vbwsae.same k d s i).1->aH [p,dk,dn] H H'->Q (.int ((delAt Vbwsae.same k d s i).2:Nat)) H')
def XJ(k b:Nat):((k:Int)/2^(b:Int).toNat)%2=bi (k.testBit b):=by
 have h:=SM.xA k b;have e:((k:Int)/2^(b:Int).toNat)=((k/2^b:Nat):Int):=by simp
 rw[e];unfold bi;by_cases c:k.testBit b=true
 ·rw[ay c];have:=h.mp c;omega
 ·rw[aq c];have:k/2^b%2≠1:=λz=>c (h.mpr z);omega
def WO{b:Bool}:decide (bi b=0)=true↔b=false:=by cases b<;>decide
def gM{b:Bool}{c A B:Prop}(hb:b=true↔c)(h1:c->A)(h2:¬c->B):if b=true then A else B:=by
 cases b
 ·exact fu (h2 λz=>nomatch hb.mpr z)
 ·exact dF (h1 (hb.mp rfl))
def dj{x:Str}{i:Int}{t:Tok}{pos:Pos}(hg:Gl X x)(hm:X.mg x=some (.int i t))(hd:(x==("__debug__":Str))=false:=by decide):PE X (.Name x pos) (tC (.int i)):=ML (v:= .int i) hg hm ⟨t,rfl⟩ hd
def pM{x:Str}{f:Addr}{pos:Pos}(hg:Gl X x)(hm:X.mg x=some (.ref f))(hd:(x==("__debug__":Str))=false:=by decide):PE X (.Name x pos) (tC (.ref f)):=ML (v:= .ref f) hg hm rfl hd
def Bl{P:Program}{w:World}{base:Heap}{f:Addr}{fd:FuncData}{sp:Sp}(h:∀vs H Q E,¬sp vs H Q E):aT P w K mg base cR k f fd ps sp:=⟨λvs H Q E z=>(h vs H Q E z).elim,λA outer s H args us vs Q E _ _ _ _ z=>(h vs H Q E z).elim⟩
def vo(T:Txt K mg a):aT P w K mg base cR 1 a.iW.1 a.iW.2 ["key","bit"] XH:=by
 refine T.iW.F.ok Oh (λvs H Q E h=>?_) (λcdv A outer s0 H vs Q E hr h=>?_)
 ·obtain⟨k,b,rfl,_⟩:=h;rfl
 ·obtain⟨k,b,rfl,q⟩:=h;refine⟨_,(ao (aC (cU KI (cU FQ (pv 0) (pv 1)) aD))),?_⟩;refine⟨_,rfl,_,rfl,_,_,rfl,rfl,by omega,_,_,rfl,rfl,(by show(0:Int)< 2;decide),?_⟩;show Q (.int (((k:Int)/2^(b:Int).toNat)%2)) H
  rw[XJ];exact q
def M_(T:Txt K mg a):aT P w K mg base cR 1 a.bB.1 a.bB.2 ["key","other"] VH:=by
 refine T.bB.F.ok tG (λvs H Q E h=>?_) (λcdv A outer s0 H vs Q E hr h=>?_)
 ·obtain⟨k,b,rfl,_⟩:=h;rfl
 ·obtain⟨k,o,rfl,hk,ho,q⟩:=h;refine⟨_,(ak (bx (bf (eL (pv 0) (pv 1))) (ao (aC aD)) aN) (ao (aC (cU FP (Vb PySem.F.plainAttrs_int PySem.F.slot_int_bit_length PySem.F.type_int_bit_length Og (cU U6 (pv 0) (pv 1))) aD)))),?_⟩;refine⟨_,rfl,_,rfl,_,_,rfl,rfl,_,rfl,?_⟩;refine gM cQ (λc=>?_) (λc=>?_)
  ·have c:k=o:=by omega
   subst c;rw[SM.Iv]at q;exact q
  ·refine⟨_,rfl,_,rfl,_,_,rfl,rfl,rfl,_,rfl,rfl,_,_,rfl,rfl,?_⟩;show Q (.int ((Builtin.Int.intBits (Builtin.bitXor (k:Int) (o:Int)):Nat)-1)) H
   rw[SM.Qu hk ho (λz=>c (by rw[z]))];have e:((Vbwsae.top k o+1:Nat):Int)-1=(Vbwsae.top k o:Nat):=by omega
   rw[e];exact q
def Gi(T:Txt K mg a):aT P w K mg base cR 4 a.eU.1 a.eU.2 ["nodes","key","value","top"] (Q9 a):=by
 refine T.eU.F.ok oG (λvs H Q E h=>?_) (λcdv A outer s0 H vs Q E hr h=>?_)
 ·obtain⟨p,dk,dn,s,k,x,i,t,rfl,_⟩:=h;rfl
 ·obtain⟨p,dk,dn,s,k,x,i,t,rfl,N,U,hz,hk,r,hl,kk⟩:=h;obtain⟨dx,h1⟩:=N.obj;refine⟨_,(ak (aJ (i:=4) oG.nd rfl (Or.inl rfl) (aI (pv 0) T.aM T.bT.m (r8 T) hr.lt T.bT.b .nil aA (aa (pv 1) (aa (pv 2) ah)))) (ak (aJ (i:=5) oG.nd rfl (Or.inl rfl) (aF (M_ T) hr.lt rfl T.bB.m T.bB.F.kp T.bB.b .nil aA (aa (pv 1) (aa (au (aI (pv 0) T.aM T.aQ.m (iC T) hr.lt T.aQ.b .nil aA (aa (pv 3) ah)) rfl) ah)))) (ak (bx (bf (eL (aF (vo T) hr.lt rfl T.iW.m T.iW.F.kp T.iW.b .nil aA (aa (pv 1) (aa (pv 5) ah))) aD)) (ao (aC (aI (pv 0) T.aM T.aY.m (kG T) hr.lt T.aY.b .nil aA (aa (pv 5) (aa (pv 4) (aa (pv 3) ah)))))) aN) (ao (aC (aI (pv 0) T.aM T.aY.m (kG T) hr.lt T.aY.b .nil aA (aa (pv 5) (aa (pv 3) (aa (pv 4) ah))))))))),?_⟩;refine⟨_,rfl,p,dx,_,rfl,h1,rfl,_,rfl,_,rfl,p,dk,dn,s,k,x,rfl,N,U,by omega,λH1 N1 K1=>?_⟩;obtain⟨g1,u1,e1⟩:=SM.k_ U (.leaf k x);have z1:=SM.o9 s (.leaf k x)
  obtain⟨Ce,h2⟩:=N1.obj;obtain⟨n,hn⟩:=r.node;have hn1:=g1.ext _ _ hn
  refine⟨_,rfl,_,rfl,p,Ce,_,rfl,h2,rfl,_,rfl,p,dk,dn,_,i,n,rfl,N1,hn1,λq e ho he=>?_⟩;have e2:=he t (r.ext g1.ext)
  subst e2;obtain⟨C,dl,fs,s1,s2,s3,s4⟩:=ho.least T;refine⟨q,C,dl,fs,_,rfl,s1,s2,s3,s4,?_⟩;refine⟨k,_,rfl,hk,hl,?_⟩;refine⟨_,rfl,_,rfl,k,_,rfl,_,_,rfl,rfl,_,rfl,?_⟩;have VJ:=kk
  simp only[underAt]at VJ;refine gM WO (λhb=>?_) (λhb=>?_)
  ·rw[hb,aq gZ]at VJ;refine⟨_,rfl,p,Ce,_,rfl,h2,rfl,_,rfl,_,rfl,_,rfl,p,dk,dn,_,_,_,i,_,rfl,N1,u1,by omega,e1,λH2 N2 K2=>?_⟩;exact VJ H2 N2 (K1.trans K2)
  ·rw[show k.testBit (Vbwsae.top k (leastKey t))=true from by simpa using hb,ay rfl]at VJ;refine⟨_,rfl,p,Ce,_,rfl,h2,rfl,_,rfl,_,rfl,_,rfl,p,dk,dn,_,_,i,_,_,rfl,N1,u1,by omega,hn1,λH2 N2 K2=>?_⟩;exact VJ H2 N2 (K1.trans K2)
def gp.sS(T:Txt K mg a){n:SM.Nd}(x:gp a H q n e):∃t,pP K H (.ref q) t/\W.kitOne K t (.ref a.fE)=some (match n with| .leaf _ _=>true| .fork _ _ _=>false):=by
 cases n with
 |leaf k v=>obtain⟨_,dx,t,h1,h2⟩:=x;exact⟨_,T.M8 h1,T.Hl⟩
 |fork b l r=>obtain⟨dx,t,h1,h2⟩:=x;exact⟨_,T.M9 h1,T.Hq⟩
def jD{s:bI}(r:SM.ji s i t)(hi:¬(i:Int)=0):SM.Rep s i t:=by
 rcases r with⟨z,_⟩|r
 ·exact absurd (by rw[z];rfl) hi
 ·exact r
theorem zb(T:Txt K mg a):∀d,aT P w K mg base cR (d+5) a.e9.1 a.e9.2 ["nodes","top","key","value"] (XI a d)
 |0=>Bl λvs H Q E h0=>by obtain⟨p,dk,dn,s,i,k,x,t,_,_,_,_,_,h,_⟩:=h0;exact absurd h (by omega)
 |d+1=>by
  have ih:=zb T d;refine T.e9.F.ok yZ (λvs H Q E h=>?_) (λcdv A outer s0 H vs Q E hr h=>?_)
  ·obtain⟨p,dk,dn,s,i,k,x,t,rfl,_⟩:=h;rfl
  obtain⟨p,dk,dn,s,i,k,x,t,rfl,N,U,hz,hk,_,hd,r,Cg,hsm,kk⟩:=h;obtain⟨dx,h1⟩:=N.obj;obtain⟨tk,hN⟩:=T.jC;refine⟨_,(ak (bx (bf (eL (pv 1) (dj rfl hN))) (ao (aC (aI (pv 0) T.aM T.bT.m (r8 T) hr.lt T.bT.b .nil aA (aa (pv 2) (aa (pv 3) ah))))) aN) (ak (aJ (i:=4) yZ.nd rfl (Or.inl rfl) (aI (pv 0) T.aM T.aQ.m (iC T) hr.lt T.aQ.b .nil aA (aa (pv 1) ah))) (ak (bx (fD (aV jx rfl T.fT rfl (aa (pv 4) (aa (pM rfl T.mZ) ah))))
    (ak (bx (bf (eL (au (pv 4) rfl) (pv 2))) (ao (aC (aI (pv 0) T.aM T.bT.m (r8 T) hr.lt T.bT.b .nil aA (aa (pv 2) (aa (pv 3) ah))))) aN) (ao (aC (aF (Gi T) hr.lt rfl T.eU.m T.eU.F.kp T.eU.b .nil aA (aa (pv 0) (aa (pv 2) (aa (pv 3) (aa (pv 1) ah)))))))) aN) (ak (bx (bf (Ld (aF (M_ T) hr.lt rfl T.bB.m T.bB.F.kp T.bB.b .nil aA (aa (pv 2) (aa (au (pv 4) rfl) ah))) (au (pv 4) rfl))) (ao (aC (aF (Gi T) hr.lt rfl T.eU.m T.eU.F.kp T.eU.b .nil aA (aa (pv 0) (aa (pv 2) (aa (pv 3) (aa (pv 1) ah))))))) aN) (ak (bx (bf (eL (aF (vo T) hr.lt rfl T.iW.m T.iW.F.kp T.iW.b .nil aA (aa (pv 2) (aa (au (pv 4) rfl) ah))) aD)) (ao (aC (aI (pv 0) T.aM T.aY.m (kG T) hr.lt T.aY.b .nil aA (aa (au (pv 4) rfl) (aa (aF ih hr.lt rfl T.e9.m T.e9.F.kp T.e9.b .nil aA (aa (pv 0) (aa (au (pv 4) rfl) (aa (pv 2) (aa (pv 3) ah))))) (aa (au (pv 4) rfl) ah)))))) aN) (ao (aC (aI (pv 0) T.aM T.aY.m (kG T) hr.lt T.aY.b .nil aA (aa (au (pv 4) rfl) (aa (au (pv 4) rfl) (aa (aF ih hr.lt rfl T.e9.m T.e9.F.kp T.e9.b .nil aA (aa (pv 0) (aa (au (pv 4) rfl) (aa (pv 2) (aa (pv 3) ah))))) ah))))))))))),?_⟩
  refine⟨_,rfl,_,_,rfl,rfl,_,rfl,?_⟩;refine gM cQ (λc=>?_) (λc=>?_)
  ·have c:i=0:=by omega
   subst c;refine⟨_,rfl,p,dx,_,rfl,h1,rfl,_,rfl,_,rfl,p,dk,dn,s,k,x,rfl,N,U,by omega,λH1 N1 K1=>?_⟩;unfold Vbwsae.putAt at kk;rw[SM.bJ]at kk;exact kk H1 N1 K1
  have r:=jD r c;obtain⟨n,hn⟩:=r.node;refine⟨_,rfl,p,dx,_,rfl,h1,rfl,_,rfl,p,dk,dn,s,i,n,rfl,N,hn,λq e ho he=>?_⟩;have he:=he t r
  subst he;obtain⟨ty,i1,i2⟩:=ho.sS T;refine⟨_,rfl,_,_,_,_,rfl,i1,i2,_,rfl,?_⟩;unfold Vbwsae.putAt at kk;rw[hn]at kk;cases n with
  |leaf j y=>
   refine dF ?_;cases r with
   |fork e' _ _=>rw[hn]at e';cases e'
   |leaf e'=>
   rw[hn]at e';cases e';obtain⟨_,dq,tq,o1,o2⟩:=ho;refine⟨_,rfl,q,_,dq,_,_,rfl,o1,T.ir,T.jg,rfl,_,rfl,_,_,rfl,rfl,_,rfl,?_⟩;refine gM cQ (λc=>?_) (λc=>?_)
   ·have c:j=k:=by omega
    simp only[ay c]at kk;exact⟨_,rfl,p,dx,_,rfl,h1,rfl,_,rfl,_,rfl,p,dk,dn,s,k,x,rfl,N,U,by omega,kk⟩
   ·have c:¬j=k:=by omega
    simp only[aq c]at kk;exact⟨_,rfl,_,rfl,_,rfl,_,rfl,p,dk,dn,s,k,x,i,_,rfl,N,U,by omega,hk,.leaf hn,hsm,kk⟩
  |fork b l rr=>
   refine fu ?_;cases r with
   |leaf e'=>rw[hn]at e';cases e'
   |fork e' rl rq=>
   rename_i tl tr;rw[hn]at e';cases e';have hds:depth tl<=d/\depth tr<=d:=by simp only[depth]at Cg;omega
   have hdl:=SM.jv rl;have el:leastAt s LEVELS l=leastKey tl:=SM.kX rl (show _<=41 by omega)
   have ho':=ho;obtain⟨dq,tq,o1,o2⟩:=ho;simp only[el]at kk;refine⟨_,rfl,_,rfl,q,_,dq,_,_,rfl,o1,T.aR,T.jQ,rfl,k,leastKey tl,rfl,hk,hsm.1.least,_,rfl,q,_,dq,_,_,rfl,o1,T.aR,T.cA,rfl,_,_,rfl,rfl,_,rfl,?_⟩;refine gM cQ (λc=>?_) (λc=>?_)
   ·have c:b<Vbwsae.top k (leastKey tl):=by omega
    simp only[ay c]at kk;exact⟨_,rfl,_,rfl,_,rfl,_,rfl,p,dk,dn,s,k,x,i,_,rfl,N,U,by omega,hk,.fork hn rl rq,hsm.1.least,kk⟩
   have c:¬b<Vbwsae.top k (leastKey tl):=by omega
   simp only[aq c]at kk;refine⟨_,rfl,_,rfl,q,_,dq,_,_,rfl,o1,T.aR,T.cA,rfl,k,b,rfl,_,_,rfl,rfl,_,rfl,?_⟩;refine gM WO (λhb=>?_) (λhb=>?_)
   ·simp only[aq (show¬k.testBit b=true by rw[hb];exact gZ)]at kk;obtain⟨g,u1,n1,hn1⟩:=SM.uY (k:=k) (x:=x) (d:=d) U (by omega) (.inr rl) hds.1;have zz:=SM.xB k x d s l
    refine⟨_,rfl,p,dx,_,rfl,h1,rfl,_,rfl,q,_,dq,_,_,rfl,o1,T.aR,T.cA,rfl,_,rfl,_,rfl,q,_,dq,_,_,rfl,o1,T.aR,T.di,rfl,_,rfl,_,rfl,p,dk,dn,s,l,k,x,tl,rfl,N,U,by omega,hk,by omega,by omega,.inr rl,hds.1,hsm.1,λH1 N1 K1=>?_⟩;have Ci:=K1 _ _ o1 (N.ins o1 T.VG.2)
    exact⟨_,rfl,q,_,dq,_,_,rfl,Ci,T.aR,T.b8,rfl,p,dk,dn,_,b,_,rr,n1,rfl,N1,u1,by omega,hn1,λH2 N2 K2=>kk H2 N2 (K1.trans K2)⟩
   ·simp only[ay (show k.testBit b=true by simpa using hb)]at kk;obtain⟨g,u1,n1,hn1⟩:=SM.uY (k:=k) (x:=x) (d:=d) U (by omega) (.inr rq) hds.2;have zz:=SM.xB k x d s rr
    obtain⟨nl,hnl⟩:=rl.node;refine⟨_,rfl,p,dx,_,rfl,h1,rfl,_,rfl,q,_,dq,_,_,rfl,o1,T.aR,T.cA,rfl,_,rfl,q,_,dq,_,_,rfl,o1,T.aR,T.di,rfl,_,rfl,_,rfl,q,_,dq,_,_,rfl,o1,T.aR,T.b8,rfl,_,rfl,_,rfl,p,dk,dn,s,rr,k,x,tr,rfl,N,U,by omega,hk,by omega,by omega,.inr rq,hds.2,hsm.2,λH1 N1 K1=>?_⟩;exact⟨p,dk,dn,_,b,l,_,nl,rfl,N1,u1,by omega,g.ext _ _ hnl,λH2 N2 K2=>kk H2 N2 (K1.trans K2)⟩
noncomputable def oh:Option Int->V
 |none=>.gq
 |some x=>.int x
inductive Td(a:Ad)(vs:List V)(H:Hp)(Q:VK)(gc:XK):Prop
 |mk (p dk dn:Addr) (s:bI) (i k:Nat) (t:SM.Tr) (_:vs=[.ref p,.int (i:Int),.int (k:Int)]) (_:jt a H p dk dn s) (_:SM.ji s i t) (_:Q (oh (Vbwsae.get t k)) H)
noncomputable def pk (ps:List (Nat×Int)):List (Key×V):=ps.map λp=>(.inl (p.1:Int),.int p.2)
inductive XM(a:Ad)(d:Nat)(vs:List V)(H:Hp)(Q:VK)(gc:XK):Prop
 |mk (p dk dn fd:Addr) (s:bI) (i:Nat) (t:SM.Tr) (kvs:List (Nat×Int)) (_:vs=[.ref p,.int (i:Int),.ref fd]) (_:jt a H p dk dn s) (_:fd≠dk) (_:H fd=some (.dK (pk kvs))) (_:0<d) (_:SM.ji s i t) (_:depth t<=d) (_:((kvs++pairs t).map (·.1)).Nodup) (_:(kvs++pairs t).length<1000000) (_:∀H',H' fd=some (.dK (pk (kvs++pairs t)))->aH [fd] H H'->Q .gq H')
inductive eT{α β:Type}(R:α->β->Prop):List α->List β->Prop
 |nil:eT R [] []
 |cons {x y xs ys}:R x y->eT R xs ys->eT R (x::xs) (y::ys)
def eT.append{R:α->β->Prop}{a:List α}{b:List β}{c:List α}{d:List β}(h:eT R a b)(g:eT R c d):eT R (a++c) (b++d):=by
 induction h with
 |nil=>exact g
 |cons h _ ih=>exact .cons h ih
def eT.imp{R S:α->β->Prop}{a:List α}{b:List β}(h:eT R a b)(f:∀x y,x∈a->y∈b->R x y->S x y):eT S a b:=by
 induction h with
 |nil=>exact .nil
 |cons h _ ih=>exact .cons (f _ _ (bU ..) (bU ..) h) (ih λx y hx hy=>f x y (cP _ hx) (cP _ hy))
def eT.len{R:α->β->Prop}{a:List α}{b:List β}(h:eT R a b):a.length=b.length:=by
 induction h with
 |nil=>rfl
 |cons _ _ ih=>simp[ih]
def eT.get{R:α->β->Prop}{a:List α}{b:List β}(h:eT R a b):∀{i:Nat} {x:α},a[i]? =some x->∃y,b[i]? =some y/\R x y:=by
 induction h with
 |nil=>intro i x e;simp at e
 |cons h _ ih=>
  intro i x e;cases i with
  |zero=>simp at e;subst e;exact⟨_,rfl,h⟩
  |succ i=>simp at e;simpa using ih e
def eT.get'{R:α->β->Prop}{a:List α}{b:List β}(h:eT R a b):∀{i:Nat} {y:β},b[i]? =some y->∃x,a[i]? =some x/\R x y:=by
 induction h with
 |nil=>intro i x e;simp at e
 |cons h _ ih=>
  intro i x e;cases i with
  |zero=>simp at e;subst e;exact⟨_,rfl,h⟩
  |succ i=>simp at e;simpa using ih e
def eT.mem{R:α->β->Prop}{a:List α}{b:List β}(h:eT R a b){x:α}(hx:x∈a):∃y,y∈b/\R x y:=by
 obtain⟨i,hi⟩:=ye.mp hx;obtain⟨y,hy,r⟩:=h.get hi;exact⟨y,l_ hy,r⟩
def l6(H:Hp)(qs:List Addr)(ps:List (Nat×Int)):Prop:=eT (λq p=>H q=some (.tup [.int (p.1:Int),.int p.2])) qs ps
inductive Te(a:Ad)(d:Nat)(vs:List V)(H:Hp)(Q:VK)(gc:XK):Prop
 |mk (p dk dn fl:Addr) (s:bI) (i lo hi:Nat) (t:SM.Tr) (xs:List V) (_:vs=[.ref p,.int (i:Int),.int (lo:Int),.int (hi:Int),.ref fl]) (_:jt a H p dk dn s) (_:H fl=some (.lst xs)) (_:0<d) (_:SM.ji s i t) (_:depth t<=d) (_:(t=.none\/∃c p,SM.WT t c p/\c<=40)) (_:SM.Small t) (_:xs.length+(pairs t).length<1000000) (_:∀H' qs,H' fl=some (.lst (xs++qs.map V.ref))->l6 H' qs (SM.rangeT lo hi t).1->aH [fl] H H'->Q (.int ((SM.rangeT lo hi t).2:Nat)) H')
inductive Tf(a:Ad)(d:Nat)(vs:List V)(H:Hp)(Q:VK)(gc:XK):Prop
 |mk (p dk dn:Addr) (s:bI) (i:Nat) (t:SM.Tr) (_:vs=[.ref p,.int (i:Int)]) (_:jt a H p dk dn s) (_:0<d) (_:SM.ji s i t) (_:depth t<=d) (_:Q (.int (depth t:Nat)) H)
theorem AR(T:Txt K mg a):∀d,aT P w K mg base cR (d+5) a.gh.1 a.gh.2 ["nodes","top","key"] (VI a d)
 |0=>Bl λvs H Q E h0=>by obtain⟨p,dk,dn,s,i,k,t,_,_,_,_,h,_⟩:=h0;exact absurd h (by omega)
 |d+1=>by
  have ih:=AR T d;refine T.gh.F.ok pS (λvs H Q E h=>?_) (λcdv A outer s0 H vs Q E hr h=>?_)
  ·obtain⟨p,dk,dn,s,i,k,t,rfl,_⟩:=h;rfl
  obtain⟨p,dk,dn,s,i,k,t,rfl,N,U,hz,_,r,Cg,kk⟩:=h;obtain⟨dx,h1⟩:=N.obj;obtain⟨tk,hN⟩:=T.jC;refine⟨_,(ak (bx (bf (eL (pv 1) (dj rfl hN))) (ao (aC (dj rfl hN))) aN) (ak (aJ (i:=3) pS.nd rfl (Or.inl rfl) (aI (pv 0) T.aM T.aQ.m (iC T) hr.lt T.aQ.b .nil aA (aa (pv 1) ah))) (ak (bx (fD (aV jx rfl T.fT rfl (aa (pv 3) (aa (pM rfl T.mZ) ah))))
    (ao (aC (jm (bf (eL (au (pv 3) rfl) (pv 2))) (dj rfl hN) (pv 1)))) aN) (ak (bx (bf (eL (aF (vo T) hr.lt rfl T.iW.m T.iW.F.kp T.iW.b .nil aA (aa (pv 2) (aa (au (pv 3) rfl) ah))) aD))
    (ak (aJ (i:=4) pS.nd rfl (Or.inl rfl) (aF ih hr.lt rfl T.gh.m T.gh.F.kp T.gh.b .nil aA (aa (pv 0) (aa (au (pv 3) rfl) (aa (pv 2) ah))))) (ao (aC (jm (bf (eL (pv 4) (dj rfl hN))) (au (pv 3) rfl) (aI (pv 0) T.aM T.aY.m (kG T) hr.lt T.aY.b .nil aA (aa (au (pv 3) rfl) (aa (pv 4) (aa (au (pv 3) rfl) ah)))))))) aN) (ak (aJ (i:=5) pS.nd rfl (Or.inl rfl) (aF ih hr.lt rfl T.gh.m T.gh.F.kp T.gh.b .nil aA (aa (pv 0) (aa (au (pv 3) rfl) (aa (pv 2) ah))))) (ao (aC (jm (bf (eL (pv 5) (dj rfl hN))) (au (pv 3) rfl) (aI (pv 0) T.aM T.aY.m (kG T) hr.lt T.aY.b .nil aA (aa (au (pv 3) rfl) (aa (au (pv 3) rfl) (aa (pv 5) ah)))))))))))),?_⟩
  refine⟨_,rfl,_,_,rfl,rfl,_,rfl,?_⟩;refine gM cQ (λc=>?_) (λc=>?_)
  ·have c:i=0:=by omega
   subst c;unfold delAt at kk;rw[SM.bJ]at kk;exact kk H N (aH.refl _ _)
  have r:=jD r c;obtain⟨n,hn⟩:=r.node;refine⟨_,rfl,p,dx,_,rfl,h1,rfl,_,rfl,p,dk,dn,s,i,n,rfl,N,hn,λq e ho he=>?_⟩;obtain⟨ty,i1,i2⟩:=ho.sS T;refine⟨_,rfl,_,_,_,_,rfl,i1,i2,_,rfl,?_⟩;unfold delAt at kk;rw[hn]at kk;cases n with
  |leaf j y=>
   refine dF ?_;obtain⟨_,dq,tq,o1,o2⟩:=ho;refine⟨_,rfl,q,_,dq,_,_,rfl,o1,T.ir,T.jg,rfl,_,rfl,_,_,rfl,rfl,_,rfl,?_⟩;refine gM cQ (λc=>?_) (λc=>?_)
   ·have c:j=k:=by omega
    simp only[ay c]at kk;exact kk H N (aH.refl _ _)
   ·have c:¬j=k:=by omega
    simp only[aq c]at kk;exact⟨_,rfl,kk H N (aH.refl _ _)⟩
  |fork b l rr=>
   refine fu ?_;cases r with
   |leaf e'=>rw[hn]at e';cases e'
   |fork e' rl rq=>
   rename_i tl tr;rw[hn]at e';cases e';have hds:depth tl<=d/\depth tr<=d:=by simp only[depth]at Cg;omega
   have hdl:=SM.jv rl;obtain⟨dq,tq,o1,o2⟩:=ho;refine⟨_,rfl,_,rfl,q,_,dq,_,_,rfl,o1,T.aR,T.cA,rfl,k,b,rfl,_,_,rfl,rfl,_,rfl,?_⟩;refine gM WO (λhb=>?_) (λhb=>?_)
   ·simp only[aq (show¬k.testBit b=true by rw[hb];exact gZ)]at kk;obtain⟨g,u1,n1⟩:=SM.uZ (k:=k) (d:=d) U (by omega) (.inr rl) hds.1;have zz:=SM.xC k d s l
    refine⟨_,rfl,_,rfl,q,_,dq,_,_,rfl,o1,T.aR,T.di,rfl,_,rfl,p,dk,dn,s,l,k,tl,rfl,N,U,by omega,by omega,.inr rl,hds.1,λH1 N1 K1=>?_⟩;have Ci:=K1 _ _ o1 (N.ins o1 T.VG.2)
    obtain⟨Ce,h2⟩:=N1.obj;refine⟨_,rfl,_,_,rfl,rfl,_,rfl,?_⟩;refine gM cQ (λc=>?_) (λc=>?_)
    ·simp only[ay (show(delAt Vbwsae.same k d s l).2=0 by omega)]at kk;exact⟨_,rfl,q,_,dq,_,_,rfl,Ci,T.aR,T.b8,rfl,kk H1 N1 K1⟩
    ·have c:¬(delAt Vbwsae.same k d s l).2=0:=by omega
     simp only[aq c]at kk;obtain⟨n1,hn1⟩:=n1.resolve_left c;exact⟨_,rfl,p,Ce,_,rfl,h2,rfl,_,rfl,q,_,dq,_,_,rfl,Ci,T.aR,T.cA,rfl,_,rfl,_,rfl,q,_,dq,_,_,rfl,Ci,T.aR,T.b8,rfl,p,dk,dn,_,b,_,rr,n1,rfl,N1,u1,by omega,hn1,λH2 N2 K2=>kk H2 N2 (K1.trans K2)⟩
   ·simp only[ay (show k.testBit b=true by simpa using hb)]at kk;obtain⟨g,u1,n1⟩:=SM.uZ (k:=k) (d:=d) U (by omega) (.inr rq) hds.2;have zz:=SM.xC k d s rr
    obtain⟨nl,hnl⟩:=rl.node;refine⟨_,rfl,_,rfl,q,_,dq,_,_,rfl,o1,T.aR,T.b8,rfl,_,rfl,p,dk,dn,s,rr,k,tr,rfl,N,U,by omega,by omega,.inr rq,hds.2,λH1 N1 K1=>?_⟩;have Ci:=K1 _ _ o1 (N.ins o1 T.VG.2)
    obtain⟨Ce,h2⟩:=N1.obj;refine⟨_,rfl,_,_,rfl,rfl,_,rfl,?_⟩;refine gM cQ (λc=>?_) (λc=>?_)
    ·simp only[ay (show(delAt Vbwsae.same k d s rr).2=0 by omega)]at kk;exact⟨_,rfl,q,_,dq,_,_,rfl,Ci,T.aR,T.di,rfl,kk H1 N1 K1⟩
    ·have c:¬(delAt Vbwsae.same k d s rr).2=0:=by omega
     simp only[aq c]at kk;exact⟨_,rfl,p,Ce,_,rfl,h2,rfl,_,rfl,q,_,dq,_,_,rfl,Ci,T.aR,T.cA,rfl,_,rfl,q,_,dq,_,_,rfl,Ci,T.aR,T.di,rfl,_,rfl,p,dk,dn,_,b,l,_,nl,rfl,N1,u1,by omega,g.ext _ _ hnl,λH2 N2 K2=>kk H2 N2 (K1.trans K2)⟩
inductive WVa(a:Ad)(H:Hp)(s:bI)(p:Addr)(i k:Nat)(t:SM.Tr)(m:Nat)(σ:L2.St)(H':Hp):Prop
 |mk (_:H'=H) (q:Addr) (j:Nat) (t':SM.Tr) (n:SM.Nd) (e:_) (_:σ=[some (.ref p),some (.int (i:Int)),some (.int (k:Int)),some (.ref q)]) (_:SM.Rep s j t') (_:nodeAt s j=some n) (_:gp a H q n e) (_:Vbwsae.get t' k=Vbwsae.get t k) (_:m=depth t')
def AS(T:Txt K mg a):aT P w K mg base cR 2 a.iP.1 a.iP.2 ["nodes","top","key"] (Td a):=by
 refine T.iP.F.ok uC (λvs H Q E h=>?_) (λcdv A outer s0 H vs Q E hr h=>?_)
 ·obtain⟨p,dk,dn,s,i,k,t,rfl,_⟩:=h;rfl
 obtain⟨p,dk,dn,s,i,k,t,rfl,N,r,kk⟩:=h;obtain⟨dx,h1⟩:=N.obj;obtain⟨tk,hN⟩:=T.jC;refine⟨_,(ak (bx (bf (eL (pv 1) (dj rfl hN))) (ao (aC yM)) aN) (ak (aJ (i:=3) uC.nd rfl (Or.inl rfl) (aI (pv 0) T.aM T.aQ.m (iC T) hr.lt T.aQ.b .nil aA (aa (pv 1) ah))) (ak (IQ kE (jJ (fD (aV jx rfl T.fT rfl (aa (pv 3) (aa (pM rfl T.mZ) ah)))))
   (ao (aJ (i:=3) uC.nd rfl (Or.inl rfl) (aI (pv 0) T.aM T.aQ.m (iC T) hr.lt T.aQ.b .nil aA (aa (jm (bf (eL (aF (vo T) hr.lt rfl T.iW.m T.iW.F.kp T.iW.b .nil aA (aa (pv 2) (aa (au (pv 3) rfl) ah))) aD)) (au (pv 3) rfl) (au (pv 3) rfl)) ah))))) (ao (aC (jm (bf (eL (au (pv 3) rfl) (pv 2))) (au (pv 3) rfl) yM)))))),?_⟩
 refine⟨_,rfl,_,_,rfl,rfl,_,rfl,?_⟩;refine gM cQ (λc=>?_) (λc=>?_)
 ·have c:i=0:=by omega
  subst c;rcases r with⟨_,z⟩|r
  ·subst z;exact kk
  ·exact absurd r.pos (by omega)
 have r:=jD r c;obtain⟨n,hn⟩:=r.node;refine⟨_,rfl,p,dx,_,rfl,h1,rfl,_,rfl,p,dk,dn,s,i,n,rfl,N,hn,λq e ho he=>?_⟩;refine⟨WVa a H s p i k t,⟨_,rfl,q,i,t,n,e,rfl,r,hn,ho,rfl,rfl⟩,?_⟩;clear ho he hn r c e q n
 rintro m σ H' ⟨rfl,q,j,t',n,e,rfl,r,hn,ho,hg,rfl⟩
 obtain⟨ty,i1,i2⟩:=ho.sS T;refine⟨_,rfl,_,_,_,_,rfl,i1,i2,_,rfl,?_⟩;cases r with
 |leaf e'=>
  rw[hn]at e';cases e';refine fu ?_;obtain⟨_,dq,tq,o1,o2⟩:=ho;refine⟨_,rfl,q,_,dq,_,_,rfl,o1,T.ir,T.jg,rfl,_,rfl,_,_,rfl,rfl,_,rfl,?_⟩;rw[<- hg]at kk;unfold Vbwsae.get at kk;refine gM cQ (λc=>?_) (λc=>?_)
  ·rw[ay (by omega)]at kk;exact⟨_,rfl,q,_,dq,_,_,rfl,o1,T.ir,T.kU,rfl,kk⟩
  ·rw[aq (by omega)]at kk;exact kk
 |fork e' rl rr=>
  rename_i b l r tl tr;rw[hn]at e';cases e';refine dF ?_;obtain⟨dq,tq,o1,o2⟩:=ho;refine⟨_,λ_ _ z=>z,?_⟩;refine⟨_,rfl,p,dx,_,rfl,h1,rfl,_,rfl,_,rfl,q,_,dq,_,_,rfl,o1,T.aR,T.cA,rfl,k,b,rfl,_,_,rfl,rfl,_,rfl,?_⟩;refine gM WO (λhb=>?_) (λhb=>?_)
  ·obtain⟨nl,hnl⟩:=rl.node;refine⟨_,rfl,q,_,dq,_,_,rfl,o1,T.aR,T.di,rfl,p,dk,dn,s,l,nl,rfl,N,hnl,λq2 e2 ho2 _=>?_⟩;refine⟨depth tl,?_,rfl,q2,l,tl,nl,e2,rfl,rl,hnl,ho2,?_,rfl⟩
   ·simp only[depth];omega
   ·rw[<- hg];simp only[Vbwsae.get];rw[hb];rfl
  ·obtain⟨nl,hnl⟩:=rr.node;refine⟨_,rfl,q,_,dq,_,_,rfl,o1,T.aR,T.b8,rfl,p,dk,dn,s,r,nl,rfl,N,hnl,λq2 e2 ho2 _=>?_⟩;refine⟨depth tr,?_,rfl,q2,r,tr,nl,e2,rfl,rr,hnl,ho2,?_,rfl⟩
   ·simp only[depth];omega
   ·rw[<- hg];simp only[Vbwsae.get];rw[show k.testBit b=true by simpa using hb];rfl
def Tg{ps:List (Nat×Int)}(h:k∉ps.map (·.1)):fO (pk ps) (.inl (k:Int))=none:=
 oA (f:=λr:Nat×Int=>(Sum.inl (r.1:Int):Key)) λr hr e=>h (br.mpr ⟨r,hr,by have:=qA e;omega⟩)
def VL(ps:List (Nat×Int)):(pk ps).length=ps.length:=by simp[pk]
def jt.RL{s:bI}(N:jt a H p dk dn s){kvs:List (Key×V)}(h:H b=some (.dK kvs))(n:b≠dk):∀c∈ [b],v9 a p dk dn H c:=λc hc=>by
 obtain⟨_,_,N⟩:=N;rw[cY.mp hc];exact N.LP h n
def jt.RM{s:bI}(N:jt a H p dk dn s)(h:H b=some (.lst xs)):∀c∈ [b],v9 a p dk dn H c:=λc hc=>by
 obtain⟨_,_,N⟩:=N;rw[cY.mp hc];exact N.Gh h
theorem aH.ins(k:aH [b] H H')(h:H q=some (.ins C dx fs))(hb:H b=some o)(ho:∀C dx fs,o≠ .ins C dx fs):H' q=some (.ins C dx fs):=k _ _ h (by
 intro z;rw[cY.mp z,hb]at h;exact ho _ _ _ (fG h))
def l6.keep{ps:List (Nat×Int)}(h:l6 H qs ps)(k:aH [b] H H')(hb:H b=some o)(ho:∀xs,o≠ .tup xs):l6 H' qs ps:=eT.imp h λx y _ _ e=>k _ _ e (by
 intro z;rw[cY.mp z,hb]at e;exact ho _ (fG e))
inductive Th(a:Ad)(vs:List V)(H:Hp)(Q:VK)(gc:XK):Prop
 |mk (p dk dn:Addr) (s:bI) (i lo hi:Nat) (t:SM.Tr) (_:vs=[.ref p,.int (i:Int),.int (lo:Int),.int (hi:Int)]) (_:jt a H p dk dn s) (_:SM.ji s i t) (_:depth t<=41) (_:(t=.none\/∃c p,SM.WT t c p/\c<=40)) (_:SM.Small t) (_:(pairs t).length<1000000) (_:∀H' fl qs,H fl=none->H' fl=some (.lst (qs.map V.ref))->l6 H' qs (SM.rangeT lo hi t).1->az H H'->Q (.ref fl) H')
theorem qd(T:Txt K mg a):∀d,aT P w K mg base cR (d+2) a.cK.1 a.cK.2 ["nodes","top","found"] (XM a d)
 |0=>Bl λvs H Q E h0=>by obtain⟨p,dk,dn,fd,s,i,t,kvs,_,_,_,_,h,_⟩:=h0;exact absurd h (by omega)
 |d+1=>by
  have ih:=qd T d;refine T.cK.F.ok wk (λvs H Q E h=>?_) (λcdv A outer s0 H vs Q E hr h=>?_)
  ·obtain⟨p,dk,dn,fd,s,i,t,kvs,rfl,_⟩:=h;rfl
  obtain⟨p,dk,dn,fd,s,i,t,kvs,rfl,N,P8,hfd,_,r,Cg,hnd,hz,kk⟩:=h;obtain⟨dx,h1⟩:=N.obj;obtain⟨tk,hN⟩:=T.jC;have hu:=nY hr
  refine⟨_,(ak (bx (bf (eL (pv 1) (dj rfl hN))) (ao Gw) aN) (ak (aJ (i:=3) wk.nd rfl (Or.inl rfl) (aI (pv 0) T.aM T.aQ.m (iC T) hr.lt T.aQ.b .nil aA (aa (pv 1) ah))) (ak (bx (fD (aV jx rfl T.fT rfl (aa (pv 3) (aa (pM rfl T.mZ) ah))))
    (ak (uc hu (pv 2) (au (pv 3) rfl) (au (pv 3) rfl) rfl) (ao Gw)) aN) (ak (bQ (aF ih hr.lt rfl T.cK.m T.cK.F.kp T.cK.b .nil aA (aa (pv 0) (aa (au (pv 3) rfl) (aa (pv 2) ah))))) (ao (bQ (aF ih hr.lt rfl T.cK.m T.cK.F.kp T.cK.b .nil aA (aa (pv 0) (aa (au (pv 3) rfl) (aa (pv 2) ah)))))))))),?_⟩
  refine⟨_,rfl,_,_,rfl,rfl,_,rfl,?_⟩;refine gM cQ (λc=>?_) (λc=>?_)
  ·have c:i=0:=by omega
   subst c;rcases r with⟨_,z⟩|r
   ·subst z;simp only[pairs,nP]at kk;exact kk H hfd (aH.refl _ _)
   ·exact absurd r.pos (by omega)
  have r:=jD r c;obtain⟨n,hn⟩:=r.node;refine⟨_,rfl,p,dx,_,rfl,h1,rfl,_,rfl,p,dk,dn,s,i,n,rfl,N,hn,λq e ho he=>?_⟩;obtain⟨ty,i1,i2⟩:=ho.sS T;refine⟨_,rfl,_,_,_,_,rfl,i1,i2,_,rfl,?_⟩;cases r with
  |leaf e'=>
   rename_i k x;rw[hn]at e';cases e';refine dF ?_;obtain⟨_,dq,tq,o1,o2⟩:=ho;simp only[pairs]at hnd hz kk;have hk:k∉kvs.map (·.1):=by
    intro z;rw[jO,yq]at hnd;exact hnd.2.2 k z k (by simp) rfl
   refine⟨_,rfl,q,_,dq,_,_,rfl,o1,T.ir,T.kU,rfl,_,rfl,_,rfl,q,_,dq,_,_,rfl,o1,T.ir,T.jg,rfl,fd,_,rfl,xY.k (k:=Sum.inl (k:Int)) hfd (by rw[VL];exact eZ (by simp at hz;omega)),?_⟩;refine kk _ ?_ (aH.upd (bU ..));rw[af,qt _ (Tg hk)];simp[pk]
  |fork e' rl rr=>
   rename_i b l rq tl tr;rw[hn]at e';cases e';refine fu ?_;have hds:depth tl<=d/\depth tr<=d:=by simp only[depth]at Cg;omega
   have hdl:=SM.jv rl;obtain⟨dq,tq,o1,o2⟩:=ho;simp only[pairs,<- Kh]at hnd hz kk;refine⟨_,rfl,_,rfl,q,_,dq,_,_,rfl,o1,T.aR,T.di,rfl,_,rfl,p,dk,dn,fd,s,l,tl,kvs,rfl,N,P8,hfd,by omega,.inr rl,hds.1,?_,?_,λH1 f1 K1=>?_⟩
   ·rw[jO]at hnd;exact(yq.mp hnd).1
   ·rw[gb]at hz;omega
   have N1:=N.keep K1 (N.RL hfd P8);have Ci:=K1.ins o1 hfd (by intro _ _ _ z;cases z)
   exact⟨_,rfl,_,rfl,q,_,dq,_,_,rfl,Ci,T.aR,T.b8,rfl,_,rfl,p,dk,dn,fd,s,rq,tr,_,rfl,N1,P8,f1,by omega,.inr rr,hds.2,hnd,hz,λH2 f2 K2=>kk H2 f2 (K1.trans K2)⟩
theorem AU(T:Txt K mg a):∀d,aT P w K mg base cR (d+2) a.gi.1 a.gi.2 ["nodes","top"] (Tf a d)
 |0=>Bl λvs H Q E h0=>by obtain⟨p,dk,dn,s,i,t,_,_,h,_⟩:=h0;exact absurd h (by omega)
 |d+1=>by
  have ih:=AU T d;refine T.gi.F.ok AO (λvs H Q E h=>?_) (λcdv A outer s0 H vs Q E hr h=>?_)
  ·obtain⟨p,dk,dn,s,i,t,rfl,_⟩:=h;rfl
  obtain⟨p,dk,dn,s,i,t,rfl,N,_,r,Cg,kk⟩:=h;obtain⟨dx,h1⟩:=N.obj;obtain⟨tk,hN⟩:=T.jC;refine⟨_,(ak (bx (bf (eL (pv 1) (dj rfl hN))) (ao (aC aD)) aN) (ak (aJ (i:=2) AO.nd rfl (Or.inl rfl) (aI (pv 0) T.aM T.aQ.m (iC T) hr.lt T.aQ.b .nil aA (aa (pv 1) ah))) (ak (bx (fD (aV jx rfl T.fT rfl (aa (pv 2) (aa (pM rfl T.mZ) ah)))) (ao (aC aD)) aN) (ao (aC (cU ig aD (aV (NV rfl) rfl T.Uj rfl (aa (aF ih hr.lt rfl T.gi.m T.gi.F.kp T.gi.b .nil aA (aa (pv 0) (aa (au (pv 2) rfl) ah))) (aa (aF ih hr.lt rfl T.gi.m T.gi.F.kp T.gi.b .nil aA (aa (pv 0) (aa (au (pv 2) rfl) ah))) ah))))))))),?_⟩;refine⟨_,rfl,_,_,rfl,rfl,_,rfl,?_⟩;refine gM cQ (λc=>?_) (λc=>?_)
  ·have c:i=0:=by omega
   subst c;rcases r with⟨_,z⟩|r
   ·subst z;exact kk
   ·exact absurd r.pos (by omega)
  have r:=jD r c;obtain⟨n,hn⟩:=r.node;refine⟨_,rfl,p,dx,_,rfl,h1,rfl,_,rfl,p,dk,dn,s,i,n,rfl,N,hn,λq e ho he=>?_⟩;obtain⟨ty,i1,i2⟩:=ho.sS T;refine⟨_,rfl,_,_,_,_,rfl,i1,i2,_,rfl,?_⟩;cases r with
  |leaf e'=>
   rw[hn]at e';cases e';exact dF kk
  |fork e' rl rr=>
   rename_i b l rq tl tr;rw[hn]at e';cases e';refine fu ?_;have hds:depth tl<=d/\depth tr<=d:=by simp only[depth]at Cg;omega
   have hdl:=SM.jv rl;obtain⟨dq,tq,o1,o2⟩:=ho;refine⟨_,rfl,_,rfl,q,_,dq,_,_,rfl,o1,T.aR,T.di,rfl,p,dk,dn,s,l,tl,rfl,N,by omega,.inr rl,hds.1,?_⟩;refine⟨_,rfl,_,rfl,q,_,dq,_,_,rfl,o1,T.aR,T.b8,rfl,p,dk,dn,s,rq,tr,rfl,N,by omega,.inr rr,hds.2,?_⟩;refine⟨_,_,rfl,_,_,rfl,rfl,?_⟩;have e:(1:Int)+(if((depth tr:Nat):Int) >(depth tl:Nat)then((depth tr:Nat):Int)else(depth tl:Nat))=((depth (.fork b tl tr):Nat):Int):=by
    simp only[depth]
    split<;>omega
   show Q (.int ((1:Int)+(if((depth tr:Nat):Int) >(depth tl:Nat)then((depth tr:Nat):Int)else(depth tl:Nat)))) H
   rw[e];exact kk
def sh1(b:Nat):(1:Int)*2^((b:Int)).toNat=((2^b:Nat):Int):=by simp
def sh2(b:Nat):(1:Int)*2^((b:Int)+1).toNat=((2^(b+1):Nat):Int):=by
 have:((b:Int)+1).toNat=b+1:=by omega
 rw[this];simp
def sh3(k b:Nat):(k:Int)/2^((b:Int)+1).toNat*2^((b:Int)+1).toNat=((k/2^(b+1)*2^(b+1):Nat):Int):=by
 have:((b:Int)+1).toNat=b+1:=by omega
 rw[this];simp
def ZX{b:Nat}(hk:k<2^40)(hb:b<40):Wq ((k:Int)/2^((b:Int)+1).toNat) ((b:Int)+1):=by
 refine⟨by omega,by omega,?_⟩;have:((b:Int)+1).toNat=b+1:=by omega
 rw[this];have e:((k:Int)/2^(b+1))=((k/2^(b+1):Nat):Int):=by simp
 rw[e,Int.natAbs_natCast];exact tU (Nat.div_le_self _ _) (BX hk (by decide))
def q_{lo hi:Nat}(w:t=.none\/∃c p,SM.WT t c p/\c<=40):(SM.rangeT lo hi t).1.length<=(pairs t).length:=by
 rcases w with rfl|⟨c,p,w,_⟩
 ·simp[SM.rangeT]
 ·rw[SM.um w];exact Bf _ _
def qi{i j:Int}(e:i=j)(h:Q (.int j) H):Q (.int i) H:=by rw[e];exact h
def cv{x y:V}{σ:L2.St}{Q:L2.St->Hp->Prop}(e:x=y)(h:yO i y σ H Q):yO i x σ H Q:=by rw[e];exact h
theorem nH(T:Txt K mg a):∀d,aT P w K mg base cR (d+2) a.bL.1 a.bL.2 ["nodes","top","lo","hi","found"] (Te a d)
 |0=>Bl λvs H Q E h0=>by obtain⟨p,dk,dn,fl,s,i,lo,hi,t,xs,_,_,_,h,_⟩:=h0;exact absurd h (by omega)
 |d+1=>by
  have ih:=nH T d;refine T.bL.F.ok gu (λvs H Q E h=>?_) (λcdv A outer s0 H vs Q E hr h=>?_)
  ·obtain⟨p,dk,dn,fl,s,i,lo,hi,t,xs,rfl,_⟩:=h;rfl
  obtain⟨p,dk,dn,fl,s,i,lo,hi,t,xs,rfl,N,hfl,_,r,Cg,hw,hsm,hz,kk⟩:=h;obtain⟨dx,h1⟩:=N.obj;obtain⟨tk,hN⟩:=T.jC;refine⟨_,(ak (bx (bf (eL (pv 1) (dj rfl hN))) (ao (aC aD)) aN) (ak (aJ (i:=5) gu.nd rfl (Or.inl rfl) (aI (pv 0) T.aM T.aQ.m (iC T) hr.lt T.aQ.b .nil aA (aa (pv 1) ah))) (ak (bx (fD (aV jx rfl T.fT rfl (aa (pv 5) (aa (pM rfl T.mZ) ah))))
    (ak (bx (QC vY vY (pv 2) (au (pv 5) rfl) (pv 3)) (ao (bQ (kF kD pG pF gA (pv 4) (aa (j7 (aa (au (pv 5) rfl) (aa (au (pv 5) rfl) ah))) ah)))) aN) (ao (aC aD))) aN) (ak (aJ (i:=6) gu.nd rfl (Or.inl rfl) (cU KJ (cU FQ (au (pv 5) rfl) (cU ig (au (pv 5) rfl) aD)) (cU ig (au (pv 5) rfl) aD))) (ak (aJ (i:=7) gu.nd rfl (Or.inl rfl) (cU ig (pv 6) (cU KJ aD (au (pv 5) rfl)))) (ak (bx (PW.pt (t_ (bf (GX (pv 3) (pv 6))) (qE (bf (Le (pv 2) (cU ig (pv 6) (cU KJ aD (cU ig (au (pv 5) rfl) aD)))))))) (ao (aC aD)) aN) (ak (aJ (i:=8) gu.nd rfl (Or.inl rfl) aD) (ak (bx (bf (GX (pv 2) (pv 7))) (ao (PL (i:=8) gu.nd rfl (Or.inl rfl) (aF ih hr.lt rfl T.bL.m T.bL.F.kp T.bL.b .nil aA (aa (pv 0) (aa (au (pv 5) rfl) (aa (pv 2) (aa (pv 3) (aa (pv 4) ah)))))) PM)) aN) (ak (bx (bf (Le (pv 3) (pv 7))) (ao (PL (i:=8) gu.nd rfl (Or.inl rfl) (aF ih hr.lt rfl T.bL.m T.bL.F.kp T.bL.b .nil aA (aa (pv 0) (aa (au (pv 5) rfl) (aa (pv 2) (aa (pv 3) (aa (pv 4) ah)))))) PM)) aN) (ao (aC (pv 8)))))))))))),?_⟩
  refine⟨_,rfl,_,_,rfl,rfl,_,rfl,?_⟩;refine gM cQ (λc=>?_) (λc=>?_)
  ·have c:i=0:=by omega
   subst c;rcases r with⟨_,z⟩|r
   ·subst z;exact kk H [] (by simpa using hfl) .nil (aH.refl _ _)
   ·exact absurd r.pos (by omega)
  have r:=jD r c;obtain⟨n,hn⟩:=r.node;refine⟨_,rfl,p,dx,_,rfl,h1,rfl,_,rfl,p,dk,dn,s,i,n,rfl,N,hn,λq e ho he=>?_⟩;have he:=he t r
  subst he;obtain⟨ty,i1,i2⟩:=ho.sS T;refine⟨_,rfl,_,_,_,_,rfl,i1,i2,_,rfl,?_⟩;cases r with
  |leaf e'=>
   rename_i k x;rw[hn]at e';cases e';refine dF ?_;obtain⟨_,dq,tq,o1,o2⟩:=ho;simp only[pairs]at hz;simp only[SM.rangeT]at kk;refine⟨_,rfl,_,rfl,q,_,dq,_,_,rfl,o1,T.ir,T.jg,rfl,_,_,rfl,rfl,_,rfl,?_⟩;refine gM cQ (λc=>?_) (λc=>?_)
   ·refine⟨_,rfl,_,_,rfl,rfl,_,rfl,?_⟩;refine gM cQ (λc2=>?_) (λc2=>?_)
    ·rw[ay ⟨by omega,by omega⟩]at kk;refine⟨_,rfl,.inl ⟨rfl,_,aX.of hfl⟩,_,rfl,q,_,dq,_,_,rfl,o1,T.ir,T.jg,rfl,_,rfl,q,_,dq,_,_,rfl,o1,T.ir,T.kU,rfl,iY,λt2 Oo=>?_⟩;refine⟨fl,xs,_,rfl,rfl,(by rw[ai (aj hfl Oo)];exact hfl),eZ (by omega),?_⟩;exact kk _ [t2] (by rw[af];rfl) (.cons (by rw[ai (aj hfl Oo).symm,af]) .nil) ((aH.new Oo).trans (aH.upd (bU ..)))
    ·rw[aq (by omega)]at kk;exact kk H [] (by simpa using hfl) .nil (aH.refl _ _)
   ·rw[aq (by omega)]at kk;exact⟨_,rfl,kk H [] (by simpa using hfl) .nil (aH.refl _ _)⟩
  |fork e' rl rr=>
   rename_i b l rq tl tr;rw[hn]at e';cases e';refine fu ?_;have hds:depth tl<=d/\depth tr<=d:=by simp only[depth]at Cg;omega
   have hdl:=SM.jv rl;obtain⟨dq,tq,o1,o2⟩:=ho;have ZY:leastKey tl<2^40:=hsm.1.least
   obtain⟨cc,pp,hw,hcc⟩:=hw.resolve_left (λz=>nomatch z);cases hw with
   |fork hb wl wr he=>
   have ZZ:b<40:=by omega
   have YL:(pairs tl).length+(pairs tr).length=(pairs (.fork b tl tr)).length:=by simp[pairs]
   simp only[SM.rangeT]at kk;generalize hF:leastKey tl/2^(b+1)*2^(b+1)=F at kk;have hF':=sh3 (leastKey tl) b
   rw[hF]at hF';refine⟨_,rfl,q,_,dq,_,_,rfl,o1,T.aR,T.jQ,rfl,_,rfl,q,_,dq,_,_,rfl,o1,T.aR,T.cA,rfl,_,_,rfl,rfl,_,_,rfl,rfl,by omega,_,rfl,q,_,dq,_,_,rfl,o1,T.aR,T.cA,rfl,_,_,rfl,rfl,_,_,rfl,rfl,ZX ZY ZZ,?_⟩;refine cv (y:= .int (F:Int)) ?_ ?_
   ·exact jd V.int hF'
   refine⟨_,rfl,_,rfl,q,_,dq,_,_,rfl,o1,T.aR,T.cA,rfl,_,_,rfl,rfl,⟨by omega,by omega,by decide⟩,_,_,rfl,rfl,?_⟩;refine cv (y:= .int ((F+2^b:Nat):Int)) ?_ ?_
   ·have e:=sh1 b;exact jd V.int (show(F:Int)+1*2^((b:Int)).toNat=_ by rw[e];omega)
   refine⟨_,rfl,_,rfl,_,_,rfl,rfl,_,rfl,?_⟩;refine gM cQ (λc=>?_) (λc=>?_)
   ·rw[ay (.inl (by omega))]at kk;exact dF (kk H [] (by simpa using hfl) .nil (aH.refl _ _))
   refine⟨_,rfl,_,rfl,_,rfl,q,_,dq,_,_,rfl,o1,T.aR,T.cA,rfl,_,_,rfl,rfl,_,_,rfl,rfl,⟨by omega,by omega,by decide⟩,_,_,rfl,rfl,_,_,rfl,rfl,_,rfl,?_⟩;refine gM cQ (λc2=>?_) (λc2=>?_)
   ·have c2:(lo:Int)>= (F:Int)+1*2^((b:Int)+1).toNat:=c2;rw[sh2]at c2;rw[ay (.inr (by omega))]at kk;exact kk H [] (by simpa using hfl) .nil (aH.refl _ _)
   have c2:¬(lo:Int)>= (F:Int)+1*2^((b:Int)+1).toNat:=c2;rw[sh2]at c2;rw[aq (by omega)]at kk;refine⟨_,rfl,_,rfl,_,_,rfl,rfl,_,rfl,?_⟩;refine gM cQ (λc3=>?_) (λc3=>?_)
   ·rw[ay (by omega)]at kk;refine⟨_,rfl,_,rfl,_,rfl,q,_,dq,_,_,rfl,o1,T.aR,T.di,rfl,_,rfl,_,rfl,_,rfl,p,dk,dn,fl,s,l,lo,hi,tl,xs,rfl,N,hfl,by omega,.inr rl,hds.1,.inr ⟨_,_,wl,by omega⟩,hsm.1,by omega,λH1 AV f1 P1 K1=>?_⟩;have N1:=N.keep K1 (N.RM hfl)
    have Ci:=K1.ins o1 hfl (by intro _ _ _ z;cases z);have zl:=q_ (lo:=lo) (hi:=hi) (t:=tl) (.inr ⟨_,_,wl,by omega⟩)
    have zq:=P1.len;refine⟨_,_,rfl,rfl,_,rfl,_,rfl,_,_,rfl,rfl,_,rfl,?_⟩;refine gM cQ (λc4=>?_) (λc4=>?_)
    ·rw[ay (by omega)]at kk;refine⟨_,rfl,_,rfl,_,rfl,q,_,dq,_,_,rfl,Ci,T.aR,T.b8,rfl,_,rfl,_,rfl,_,rfl,p,dk,dn,fl,s,rq,lo,hi,tr,_,rfl,N1,f1,by omega,.inr rr,hds.2,.inr ⟨_,_,wr,by omega⟩,hsm.2,?_,λH2 wJ f2 P2 K2=>?_⟩
     ·rw[gb,aO];omega
     refine⟨_,_,rfl,rfl,_,rfl,?_⟩;have h:=kk H2 (AV++wJ) (by rw[f2];simp) ((P1.keep K2 f1 (by intro _ z;cases z)).append P2) (K1.trans K2)
     exact qi (show(1+((SM.rangeT lo hi tl).2:Nat)+((SM.rangeT lo hi tr).2:Nat):Int)=(((SM.rangeT lo hi tl).2+(SM.rangeT lo hi tr).2+1:Nat):Int)by omega) h
    ·rw[aq (by omega)]at kk;refine⟨_,rfl,?_⟩;have h:=kk H1 AV f1 (by simpa using P1) K1
     exact qi (show(1+((SM.rangeT lo hi tl).2:Nat):Int)=(((SM.rangeT lo hi tl).2+0+1:Nat):Int)by omega) h
   ·rw[aq (by omega)]at kk;refine⟨_,rfl,_,rfl,_,_,rfl,rfl,_,rfl,?_⟩;refine gM cQ (λc4=>?_) (λc4=>?_)
    ·rw[ay (by omega)]at kk;refine⟨_,rfl,_,rfl,_,rfl,q,_,dq,_,_,rfl,o1,T.aR,T.b8,rfl,_,rfl,_,rfl,_,rfl,p,dk,dn,fl,s,rq,lo,hi,tr,_,rfl,N,hfl,by omega,.inr rr,hds.2,.inr ⟨_,_,wr,by omega⟩,hsm.2,by omega,λH2 wJ f2 P2 K2=>?_⟩;refine⟨_,_,rfl,rfl,_,rfl,?_⟩;have h:=kk H2 wJ f2 P2 K2
     exact qi (show(1+((SM.rangeT lo hi tr).2:Nat):Int)=((0+(SM.rangeT lo hi tr).2+1:Nat):Int)by omega) h
    ·rw[aq (by omega)]at kk;exact⟨_,rfl,kk H [] (by simpa using hfl) .nil (aH.refl _ _)⟩
def kJ(T:Txt K mg a):aT P w K mg base cR 45 a.bD.1 a.bD.2 ["nodes","top","lo","hi"] (Th a):=by
 refine T.bD.F.ok qP (λvs H Q E h=>?_) (λcdv A outer s0 H vs Q E hr h=>?_)
 ·obtain⟨p,dk,dn,s,i,lo,hi,t,rfl,_⟩:=h;rfl
 obtain⟨p,dk,dn,s,i,lo,hi,t,rfl,N,r,Cg,hw,hsm,hz,kk⟩:=h;refine⟨_,(ak (aJ (i:=4) qP.nd rfl (Or.inl rfl) (bF ah)) (ak (bQ (aF (nH T 41) hr.lt rfl T.bL.m T.bL.F.kp T.bL.b .nil aA (aa (pv 0) (aa (pv 1) (aa (pv 2) (aa (pv 3) (aa (pv 4) ah))))))) (ao (aC (pv 4))))),?_⟩;refine⟨fC _,λfl hf=>?_⟩;refine⟨_,rfl,_,rfl,_,rfl,_,rfl,_,rfl,p,dk,dn,fl,s,i,lo,hi,t,[],rfl,N.same (az.new hf),af,by decide,r,Cg,hw,hsm,by simpa using hz,λH1 qs f1 P1 K1=>?_⟩;refine⟨_,rfl,kk H1 fl qs hf f1 P1 λb o e=>K1 b o (by rw[ai (aj e hf)];exact e) (by simpa using aj e hf)⟩
def Oq{s:bI}(h:SM.Reach s i j):∀{t:SM.Tr},SM.Rep s i t->∃u,SM.Rep s j u/\depth u<=depth t:=by
 induction h with
 |self _=>intro t r;exact⟨t,r,bw _⟩
 |left e _ ih=>
  intro t r;cases r with
  |leaf e'=>rw[e]at e';cases e'
  |fork e' rl rr=>
   rw[e]at e';cases e';obtain⟨u,ru,hu⟩:=ih rl;exact⟨u,ru,by simp only[depth];omega⟩
 |right e _ ih=>
  intro t r;cases r with
  |leaf e'=>rw[e]at e';cases e'
  |fork e' rl rr=>
   rw[e]at e';cases e';obtain⟨u,ru,hu⟩:=ih rr;exact⟨u,ru,by simp only[depth];omega⟩
def LW{s:bI}(h:SM.Reach s 0 j):False:=h.none (SM.bJ s)
def LX{s:bI}{b l r:Nat}(e:nodeAt s i=some (.fork b l r)):SM.Reach s i j↔j=i\/SM.Reach s l j\/SM.Reach s r j:=by
 constructor
 ·intro h;cases h with
  |self _=>exact .inl rfl
  |left e' h=>rw[e]at e';cases e';exact .inr (.inl h)
  |right e' h=>rw[e]at e';cases e';exact .inr (.inr h)
 ·rintro(h|h|h)
  ·rw[h];exact .self e
  ·exact .left e h
  ·exact .right e h
def LY{s:bI}(e:nodeAt s i=some (.leaf k x)):SM.Reach s i j↔j=i:=by
 constructor
 ·intro h;cases h with
  |self _=>rfl
  |left e' h=>rw[e]at e';cases e'
  |right e' h=>rw[e]at e';cases e'
 ·intro h;rw[h];exact .self e
noncomputable def nk (ks:List Nat):List (Key×V):=ks.map λk:Nat=>(.inl (k:Int),.bl true)
def zd:(fO (nk ks) (.inl (k:Int))).isSome=decide (k∈ks):=by
 induction ks with
 |nil=>rfl
 |cons j ks ih=>
  show(fO ((Sum.inl (j:Int),V.bl true)::nk ks) (.inl (k:Int))).isSome=_
  by_cases c:j=k
  ·subst c;rw[gU rfl];simp
  ·rw[gg (λz=>c (by have:=qA z;omega)),ih];have:k≠j:=λz=>c z.symm
   simp[this]
def Na(h:k∉ks):fO (nk ks) (.inl (k:Int))=none:=by
 have:=zd (ks:=ks) (k:=k);rw[i_ h]at this;exact Option.isNone_iff_eq_none.mp (by simpa using this)
def Nb(ks:List Nat)(k:Nat):nk ks++[(.inl (k:Int),.bl true)]=nk (ks++[k]):=by simp[nk]
def Bm(s:bI)(ks:List Nat):Prop:=ks.Nodup/\∀k∈ks,∃n,nodeAt s k=some n
def Bm.len{s:bI}(h:Bm s ks):ks.length<=s.length:=by
 have h1:=SM.bP h.1 (b:=(SM.rowsOf s).map (·.1)) λx hx=>by
  obtain⟨n,hn⟩:=h.2 x hx;exact br.mpr ⟨(x,n),SM.gf.mpr hn,rfl⟩
 rw[aO]at h1;exact gz h1 BC
inductive VM(a:Ad)(d:Nat)(vs:List V)(H:Hp)(Q:VK)(gc:XK):Prop
 |mk (p dk dn nd:Addr) (s:bI) (i:Nat) (t:SM.Tr) (ks:List Nat) (_:vs=[.ref p,.int (i:Int),.ref nd]) (_:jt a H p dk dn s) (_:nd≠dk) (_:H nd=some (.dK (nk ks))) (_:0<d) (_:SM.ji s i t) (_:depth t<=d) (_:Bm s ks) (_:s.length<1000000) (_:(∀j∈ks,SM.Reach s i j->∀m,SM.Reach s j m->m∈ks)) (_:∀H' ks',H' nd=some (.dK (nk ks'))->Bm s ks'->(∀j,j∈ks'↔j∈ks\/SM.Reach s i j)->aH [nd] H H'->Q .gq H')
theorem qS(T:Txt K mg a):∀d,aT P w K mg base cR (d+2) a.bR.1 a.bR.2 ["nodes","top","needed"] (VM a d)
 |0=>Bl λvs H Q E h0=>by obtain⟨p,dk,dn,fd,s,i,t,kvs,_,_,_,_,h,_⟩:=h0;exact absurd h (by omega)
 |d+1=>by
  have ih:=qS T d;refine T.bR.F.ok qQ (λvs H Q E h=>?_) (λcdv A outer s0 H vs Q E hr h=>?_)
  ·obtain⟨p,dk,dn,nd,s,i,t,ks,rfl,_⟩:=h;rfl
  obtain⟨p,dk,dn,nd,s,i,t,ks,rfl,N,P8,hnd,_,r,Cg,al,hz,cl,kk⟩:=h;obtain⟨dx,h1⟩:=N.obj;obtain⟨tk,hN⟩:=T.jC;have hu:=nY hr
  refine⟨_,(ak (bx (PW.pt (t_ (bf (eL (pv 1) (dj rfl hN))) (qE (bf (F3 hu (pv 1) (pv 2)))))) (ao Gw) aN) (ak (uc hu (pv 2) (pv 1) k9 rfl) (ak (aJ (i:=3) qQ.nd rfl (Or.inl rfl) (aI (pv 0) T.aM T.aQ.m (iC T) hr.lt T.aQ.b .nil aA (aa (pv 1) ah))) (ao (bx (jJ (fD (aV jx rfl T.fT rfl (aa (pv 3) (aa (pM rfl T.mZ) ah)))))
    (ak (bQ (aF ih hr.lt rfl T.bR.m T.bR.F.kp T.bR.b .nil aA (aa (pv 0) (aa (au (pv 3) rfl) (aa (pv 2) ah))))) (ao (bQ (aF ih hr.lt rfl T.bR.m T.bR.F.kp T.bR.b .nil aA (aa (pv 0) (aa (au (pv 3) rfl) (aa (pv 2) ah))))))) aN))))),?_⟩
  refine⟨_,rfl,_,_,rfl,rfl,_,rfl,?_⟩;refine gM cQ (λc=>dF ?_) (λc=>?_)
  ·have c:i=0:=by omega
   subst c;exact kk H ks hnd al (λj=>⟨.inl,λh=>h.resolve_right LW⟩) (aH.refl _ _)
  have r:=jD r c;obtain⟨n,hn⟩:=r.node;refine⟨_,rfl,_,rfl,nd,_,rfl,gx.k (k:=Sum.inl (i:Int)) hnd,_,rfl,?_⟩;rw[zd];refine gM cQ (λc=>?_) (λc=>?_)
  ·exact kk H ks hnd al (λj=>⟨.inl,λh=>h.elim id (cl i c (.self hn) j)⟩) (aH.refl _ _)
  have Uo:Bm s (ks++[i]):=⟨yq.mpr ⟨al.1,by simp,λx hx y hy=>by rw[cY.mp hy];intro z;exact c (z▸hx)⟩,λk hk=>by
   rcases dg.mp hk with h|h
   ·exact al.2 k h
   ·rw[cY.mp h];exact⟨n,hn⟩⟩
  refine⟨_,rfl,_,rfl,nd,_,rfl,xY.k (k:=Sum.inl (i:Int)) hnd (by rw[nk,aO];exact eZ (tU al.len hz)),?_⟩;rw[qt _ (Na c),Nb];have K1:aH [nd] H (L2.upd H nd (.dK (nk (ks++[i])))):=aH.upd (bU ..)
  have N1:=N.keep K1 (N.RL hnd P8);obtain⟨Ce,h2⟩:=N1.obj;refine⟨_,rfl,p,Ce,_,rfl,h2,rfl,_,rfl,p,dk,dn,s,i,n,rfl,N1,hn,λq e ho he=>?_⟩;obtain⟨ty,i1,i2⟩:=ho.sS T;refine⟨_,rfl,_,_,_,_,rfl,i1,i2,_,rfl,?_⟩;have rt:=r
  cases r with
  |leaf e'=>
   have e'':=e';rw[hn]at e';cases e';refine fu ?_;exact kk _ _ af Uo (λj=>by rw[LY e''];simp) K1
  |fork e' rl rr=>
   rename_i b l rq tl tr;have e'':=e'
   rw[hn]at e';cases e';refine dF ?_;have hds:depth tl<=d/\depth tr<=d:=by simp only[depth]at Cg;omega
   have hdl:=SM.jv rl;have cyc:∀{c u},SM.Rep s c u->depth u<depth (.fork b tl tr:SM.Tr)->¬SM.Reach s c i:=λru hu hc=>by
    obtain⟨v,rv,hv⟩:=Oq hc ru;rw[rv.inj rt]at hv;omega
   have cl1:¬SM.Reach s l i:=cyc rl (by simp only[depth];omega);have cl2:¬SM.Reach s rq i:=cyc rr (by simp only[depth];omega)
   obtain⟨dq,tq,o1,o2⟩:=ho;refine⟨_,rfl,_,rfl,q,_,dq,_,_,rfl,o1,T.aR,T.di,rfl,_,rfl,p,dk,dn,nd,s,l,tl,_,rfl,N1,P8,af,by omega,.inr rl,hds.1,Uo,hz,?_,λH2 ks2 f2 YO m2 K2=>?_⟩
   ·intro j hj hr' m hm;rcases dg.mp hj with h|h
    ·exact tT _ (cl j h (.left e'' hr') m hm)
    ·rw[cY.mp h]at hr';exact absurd hr' cl1
   have N2:=N1.keep K2 (N1.RL af P8);have Ci:=K2.ins o1 af (by intro _ _ _ z;cases z)
   refine⟨_,rfl,_,rfl,q,_,dq,_,_,rfl,Ci,T.aR,T.b8,rfl,_,rfl,p,dk,dn,nd,s,rq,tr,_,rfl,N2,P8,f2,by omega,.inr rr,hds.2,YO,hz,?_,λH3 KW f3 YQ m3 K3=>?_⟩
   ·intro j hj hr' m hm
    rcases(m2 j).mp hj with h|h
    ·rcases dg.mp h with h|h
     ·exact(m2 m).mpr (.inl (tT _ (cl j h (.right e'' hr') m hm)))
     ·rw[cY.mp h]at hr';exact absurd hr' cl2
    ·exact(m2 m).mpr (.inr (h.trans hm))
   ·exact kk H3 KW f3 YQ (λj=>by rw[m3,m2,LX e'',dg,cY,or_assoc,or_assoc]) ((K1.trans K2).trans K3)
abbrev Ch:=SM.Ch
abbrev Cf:=Vbwsae.Conflict Int
noncomputable def cf (c:Ch):List (Str×V):=[("key",.int c.key),("before",oh c.old),("behind",oh c.new)]
noncomputable def kf (c:Cf):List (Str×V):=[("key",.int c.key),("base",oh c.base),("first",oh c.one),("second",oh c.two)]
inductive YR(a:Ad)(H:Hp)(q:Addr)(c:Ch):Prop
 |mk (dx:_) (_:H q=some (.ins a.fy dx (cf c)))
inductive CoO(a:Ad)(H:Hp)(q:Addr)(c:Cf):Prop
 |mk (dx:_) (_:H q=some (.ins a.dH dx (kf c)))
def mY(a:Ad)(H:Hp)(qs:List Addr)(cs:List Ch):Prop:=eT (YR a H) qs cs
def Jh(a:Ad)(H:Hp)(qs:List Addr)(cs:List Cf):Prop:=eT (CoO a H) qs cs
def oj(H:Hp)(qs:List Addr)(ws:List (Nat×Option Int)):Prop:=eT (λq w=>H q=some (.tup [.int (w.1:Int),oh w.2])) qs ws
def mY.same(h:mY a H qs cs)(k:az H H'):mY a H' qs cs:=eT.imp h λ_ _ _ _ ⟨dx,e⟩=>⟨dx,k _ _ e⟩
def Jh.same{cs:List Cf}(h:Jh a H qs cs)(k:az H H'):Jh a H' qs cs:=eT.imp h λ_ _ _ _ ⟨dx,e⟩=>⟨dx,k _ _ e⟩
def oj.same{cs:List (Nat×Option Int)}(h:oj H qs cs)(k:az H H'):oj H' qs cs:=eT.imp h λ_ _ _ _ e=>k _ _ e
def l6.same{cs:List (Nat×Int)}(h:l6 H qs cs)(k:az H H'):l6 H' qs cs:=eT.imp h λ_ _ _ _ e=>k _ _ e
def mY.keep(h:mY a H qs cs)(k:aH S H H')(hS:∀b∈S,∀dx fs,H b≠some (.ins a.fy dx fs)):mY a H' qs cs:=eT.imp h λ_ _ _ _ ⟨dx,e⟩=>⟨dx,k _ _ e λz=>hS _ z _ _ e⟩
def Jh.keep{cs:List Cf}(h:Jh a H qs cs)(k:aH S H H')(hS:∀b∈S,∀dx fs,H b≠some (.ins a.dH dx fs)):Jh a H' qs cs:=eT.imp h λ_ _ _ _ ⟨dx,e⟩=>⟨dx,k _ _ e λz=>hS _ z _ _ e⟩
def oj.keep{cs:List (Nat×Option Int)}(h:oj H qs cs)(k:aH S H H')(hS:∀b∈S,∀xs,H b≠some (.tup xs)):oj H' qs cs:=eT.imp h λ_ _ _ _ e=>k _ _ e λz=>hS _ z _ e
def jn{x y:Option Int}:oh x=oh y↔x=y:=by
 cases x<;>cases y<;>simp[oh]
def om(x y:Option Int):UC (oh x) (oh y)=true:=by cases x<;>cases y<;>rfl
inductive ze(a:Ad)(vs:List V)(H:Hp)(Q:VK)(gc:XK):Prop
 |mk (q dx:Addr) (k x y:V) (_:vs=[.ref q,k,x,y]) (_:H q=some (.ins a.fy dx [])) (_:∀H',H' q=some (.ins a.fy dx [("key",k),("before",x),("behind",y)])->aH [q] H H'->Q .gq H')
inductive DL(a:Ad)(vs:List V)(H:Hp)(Q:VK)(gc:XK):Prop
 |mk (q dx:Addr) (k x y z:V) (_:vs=[.ref q,k,x,y,z]) (_:H q=some (.ins a.dH dx [])) (_:∀H',H' q=some (.ins a.dH dx [("key",k),("base",x),("first",y),("second",z)])->aH [q] H H'->Q .gq H')
inductive EF(a:Ad)(vs:List V)(H:Hp)(Q:VK)(gc:XK):Prop
 |mk (q dx:Addr) (_:vs=[.ref q]) (_:H q=some (.ins a.gB dx [])) (_:∀(wl cl:Addr) H',wl≠cl->H' q=some (.ins a.gB dx [("writes",.ref wl),("conflicts",.ref cl)])->H wl=none->H cl=none->H' wl=some (.lst [])->H' cl=some (.lst [])->aH [q] H H'->Q .gq H')
inductive Q_(a:Ad)(vs:List V)(H:Hp)(Q:VK)(gc:XK):Prop
 |mk (l:Addr) (qs:List Addr) (cs:List Ch) (_:vs=[.ref l]) (_:H l=some (.lst (qs.map V.ref))) (_:mY a H qs cs) (_:Q (.bl (wellDiff Vbwsae.same cs)) H)
inductive LZ(a:Ad)(vs:List V)(H:Hp)(Q:VK)(gc:XK):Prop
 |mk (l:Addr) (qs:List Addr) (cs:List Ch) (_:vs=[.ref l]) (_:H l=some (.lst (qs.map V.ref))) (_:mY a H qs cs) (_:cs.length<1000000) (_:∀H' D ts,H D=none->H' D=some (.lst (ts.map V.ref))->oj H' ts (cs.map SM.wr)->az H H'->Q (.ref D) H')
inductive L0(a:Ad)(vs:List V)(H:Hp)(Q:VK)(gc:XK):Prop
 |mk (l:Addr) (qs:List Addr) (cs:List Ch) (_:vs=[.ref l]) (_:H l=some (.lst (qs.map V.ref))) (_:mY a H qs cs) (_:cs.length<1000000) (_:∀H' D ts,H D=none->H' D=some (.lst (ts.map V.ref))->mY a H' ts (Vbwsae.inverse cs)->az H H'->Q (.ref D) H')
noncomputable def Hx (qs:List Addr) (cs:List Ch):List (Key×V):=(qs.zip cs).map λx=>(.inl (x.2.key:Int),.ref x.1)
inductive Ti(a:Ad)(vs:List V)(H:Hp)(Q:VK)(gc:XK):Prop
 |mk (l:Addr) (qs:List Addr) (cs:List Ch) (_:vs=[.ref l]) (_:H l=some (.lst (qs.map V.ref))) (_:mY a H qs cs) (_:SM.dJ cs) (_:cs.length<1000000) (_:∀H' d,H d=none->H' d=some (.dK (Hx qs cs))->az H H'->Q (.ref d) H')
noncomputable def wd:Int->List Ch->Bool
 |_,[]=>true
 |z,c::r=>!(decide ((c.key:Int)<=z)||decide (c.old=c.new))&&wd c.key r
theorem P9:∀{cs:List Ch} {z:Int},wd z cs=true↔(∀c∈cs,z<c.key)/\SM.dJ cs/\∀c∈cs,c.old≠c.new
 | [],z=>by simp[wd,SM.dJ,SM.b6]
 |c::r,z=>by
  simp only[wd,cB,BP,Bool.or_eq_false_iff,vR];rw[P9];constructor
  ·rintro⟨⟨h1,h2⟩,h3,h4,h5⟩
   refine⟨λc' hc=>?_,iF.mpr ⟨λk hk=>?_,h4⟩,λc' hc=>?_⟩
   ·rcases bN.mp hc with e|e
    ·rw[e];omega
    ·have:=h3 c' e;omega
   ·obtain⟨c',hc,e⟩:=br.mp hk;have:=h3 c' hc;have e:c'.key=k:=e;show c.key<k;omega
   ·rcases bN.mp hc with e|e
    ·rw[e];exact h2
    ·exact h5 c' e
  ·rintro⟨h1,h2,h3⟩
   obtain⟨h4,h5⟩:=iF.mp (show SM.b6 (c.key::r.map (·.key))from h2);have h0:=h1 c (bU ..)
   refine⟨⟨by omega,h3 c (bU ..)⟩,λc' hc=>?_,h5,λc' hc=>h3 c' (cP _ hc)⟩;have:=h4 c'.key (br.mpr ⟨c',hc,rfl⟩)
   omega
def GC(cs:List Ch):wd (-1) cs=wellDiff Vbwsae.same cs:=by
 rw[qj,P9,SM.nQ];exact⟨λh=>h.2,λh=>⟨λc _=>by omega,h⟩⟩
def Iq{σ:L2.St}{Q:Bool->Hp->Prop}(h:Q true H):Wt σ H Q:=h
def lP(T:Txt K mg a):aT P w K mg base cR 1 a.fz.1 a.fz.2 ["self","key","before","behind"] (ze a):=by
 refine T.fz.F.ok DE (λvs H Q E h=>?_) (λcdv A outer s0 H vs Q E hr h=>?_)
 ·obtain⟨q,dx,k,x,y,rfl,_⟩:=h;rfl
 obtain⟨q,dx,k,x,y,rfl,hq,kk⟩:=h;refine⟨_,(ak (d8 (pv 0) (pv 1) rfl) (ak (d8 (pv 0) (pv 2) rfl) (ao (d8 (pv 0) (pv 3) rfl)))),?_⟩;refine⟨_,rfl,_,rfl,q,_,dx,_,rfl,hq,T.bq,T.gW,by decide,?_⟩;refine⟨_,rfl,_,rfl,q,_,dx,_,rfl,af,T.bq,T.dY,(by show 1<1000;decide),?_⟩;refine⟨_,rfl,_,rfl,q,_,dx,_,rfl,af,T.bq,T.bA,(by show 2<1000;decide),?_⟩;refine kk _ af λb o e hb=>?_
 have hb:b≠q:=by simpa using hb
 rw[ai hb,ai hb,ai hb];exact e
def Ay(T:Txt K mg a):aT P w K mg base cR 1 a.fU.1 a.fU.2 ["self","key","base","first","second"] (DL a):=by
 refine T.fU.F.ok An (λvs H Q E h=>?_) (λcdv A outer s0 H vs Q E hr h=>?_)
 ·obtain⟨q,dx,k,x,y,z,rfl,_⟩:=h;rfl
 obtain⟨q,dx,k,x,y,z,rfl,hq,kk⟩:=h;refine⟨_,(ak (d8 (pv 0) (pv 1) rfl) (ak (d8 (pv 0) (pv 2) rfl) (ak (d8 (pv 0) (pv 3) rfl) (ao (d8 (pv 0) (pv 4) rfl))))),?_⟩;refine⟨_,rfl,_,rfl,q,_,dx,_,rfl,hq,T.jh,T.sP,by decide,?_⟩;refine⟨_,rfl,_,rfl,q,_,dx,_,rfl,af,T.jh,T.qR,(by show 1<1000;decide),?_⟩;refine⟨_,rfl,_,rfl,q,_,dx,_,rfl,af,T.jh,T.pU,(by show 2<1000;decide),?_⟩;refine⟨_,rfl,_,rfl,q,_,dx,_,rfl,af,T.jh,T.pq,(by show 3<1000;decide),?_⟩;refine kk _ af λb o e hb=>?_
 have hb:b≠q:=by simpa using hb
 rw[ai hb,ai hb,ai hb,ai hb];exact e
def Cj(T:Txt K mg a):aT P w K mg base cR 1 a.gC.1 a.gC.2 ["self"] (EF a):=by
 refine T.gC.F.ok B5 (λvs H Q E h=>?_) (λcdv A outer s0 H vs Q E hr h=>?_)
 ·obtain⟨q,dx,rfl,_⟩:=h;rfl
 obtain⟨q,dx,rfl,hq,kk⟩:=h;refine⟨_,(ak (d8 (pv 0) (bF ah) rfl) (ao (d8 (pv 0) (bF ah) rfl))),?_⟩;refine⟨fC _,λwl hw=>?_⟩;have n1:q≠wl:=aj hq hw
 refine⟨_,rfl,q,_,dx,_,rfl,(by rw[ai n1];exact hq),T.iI,T.gr,by decide,?_⟩;refine⟨fC _,λcl hc=>?_⟩;have n2:q≠cl:=aj af hc
 have n3:wl≠cl:=aj (o:= .lst []) (by rw[ai n1.symm];exact af) hc;refine⟨_,rfl,q,_,dx,_,rfl,(by rw[ai n2];exact af),T.iI,T.iJ,(by show 1<1000;decide),?_⟩;rw[ai n2.symm,ai n3.symm]at hc;refine kk wl cl _ n3 af hw hc (by rw[ai n1.symm,ai n3,ai n1.symm,af]) (by rw[ai n2.symm,af]) λb o e hb=>?_
 have hb:b≠q:=by simpa using hb
 rw[ai hb,ai (aj e hc),ai hb,ai (aj e hw)];exact e
def kK(T:Txt K mg a):aT P w K mg base cR 1 a.bE.1 a.bE.2 ["changes"] (Q_ a):=by
 refine T.bE.F.ok kH (λvs H Q E h=>?_) (λcdv A outer s0 H vs Q E hr h=>?_)
 ·obtain⟨l,qs,cs,rfl,_⟩:=h;rfl
 obtain⟨l,qs,cs,rfl,hl,hc,kk⟩:=h;refine⟨_,(ak (aJ (i:=1) kH.nd rfl (Or.inl rfl) (O5 KL aD)) (ak (jf kE rfl (i6 (pv 0)) (b_ (i:=2) kH.nd rfl (Or.inl rfl))
   (ak (bx (PW.pt (t_ (bf (Xd (au (pv 2) rfl) (pv 1))) (qE (jw yP (au (pv 2) rfl) (au (pv 2) rfl) rfl)))) (ao (aC k9)) aN) (ao (aJ (i:=1) kH.nd rfl (Or.inl rfl) (au (pv 2) rfl))))) (ao (aC k9)))),?_⟩
 refine⟨_,rfl,?_⟩;refine⟨_,rfl,l,rfl,⟨_,aX.of hl⟩,jT (K:=K) (xs:=qs.map V.ref) (λi σ H2=>H2=H/\∃z v,σ=[some (.ref l),some (.int z),v]/\wd (-1) cs=wd z (cs.drop i)) ⟨rfl,-1,none,rfl,rfl⟩ (λi σ H2 _ h=>by rw[h.1];exact aX.of hl) ?_ ?_⟩
 ·rintro i x σ H2 hx ⟨rfl,z,v,rfl,hw⟩
  rw[fj]at hx;obtain⟨q,hq,rfl⟩:=f_.mp hx;obtain⟨c,hcc,dx,hO⟩:=hc.get hq;have ed:cs.drop i=c::cs.drop (i+1):=by
   obtain⟨h1,h2⟩:=iu.mp hcc;rw[pD h1,h2]
  rw[ed]at hw;simp only[wd]at hw;refine⟨_,rfl,q,_,dx,_,_,rfl,hO,T.bq,T.gW,rfl,_,rfl,_,_,rfl,rfl,_,rfl,?_⟩;refine gM cQ (λc1=>dF ?_) (λc1=>?_)
  ·have e:wellDiff Vbwsae.same cs=false:=by rw[<- GC,hw,jP c1];rfl
   rw[e]at kk;exact kk
  refine⟨_,rfl,q,_,dx,_,_,rfl,hO,T.bq,T.dY,rfl,_,rfl,q,_,dx,_,_,rfl,hO,T.bq,T.bA,rfl,om _ _,_,rfl,?_⟩;refine gM cQ (λc2=>?_) (λc2=>?_)
  ·have e:wellDiff Vbwsae.same cs=false:=by rw[<- GC,hw,jP (jn.mp c2),Bool.or_true];rfl
   rw[e]at kk;exact kk
  refine⟨_,rfl,q,_,dx,_,_,rfl,hO,T.bq,T.gW,rfl,rfl,c.key,_,rfl,?_⟩;rw[hw,i_ c1,i_ (λz=>c2 (jn.mpr z))];rfl
 ·rintro σ H2 ⟨rfl,z,v,rfl,hw⟩
  have e:wellDiff Vbwsae.same cs=true:=by
   rw[<- GC,hw,aO,hc.len,List.drop_length];rfl
  rw[e]at kk;exact kk
def Hy(T:Txt K mg a):aT P w K mg base cR 1 a.jA.1 a.jA.2 ["changes"] (LZ a):=by
 refine T.jA.F.ok rL (λvs H Q E h=>?_) (λcdv A outer s0 H vs Q E hr h=>?_)
 ·obtain⟨l,qs,cs,rfl,_⟩:=h;rfl
 obtain⟨l,qs,cs,rfl,hl,hc,hz,kk⟩:=h;refine⟨_,(ao (aC (vZ (own:=[("change",1)]) (te:=UD (pL (Lg K (l9 1) "key") (pL (Lg K (l9 1) "behind") xX))) rfl rL.nd (i6 (pv 0)) (jU rfl) (λs H C cl fp=>b_ (i:=1) rL.nd rfl (Or.inl rfl)) (λs H C cl fp=>qN) (λs H C cl fp=>j7 (aa (au (pv 1) rfl) (aa (au (pv 1) rfl) ah)))))),?_⟩;refine⟨_,rfl,l,rfl,⟨_,aX.of hl⟩,λD hD=>?_⟩;refine Bv (K:=K) (xs:=qs.map V.ref) (λi H2=>∃ts:List Addr,H2 D=some (.lst (ts.map V.ref))/\oj H2 ts ((cs.take i).map SM.wr)/\az H H2) ⟨[],af,.nil,az.new hD⟩ (λi H2 _ h=>aX.of (h.choose_spec.2.2 _ _ hl)) ?_ ?_
 ·rintro i x H2 hx ⟨ts,d9,hw,S⟩
  rw[fj]at hx;obtain⟨q,hq,rfl⟩:=f_.mp hx;obtain⟨c,hcc,dx,hO⟩:=(hc.same S).get hq;refine⟨rfl,Iq ?_⟩;refine dF ?_;refine⟨_,rfl,q,_,dx,_,_,rfl,hO,T.bq,T.gW,rfl,_,rfl,q,_,dx,_,_,rfl,hO,T.bq,T.bA,rfl,iY,λt ht=>?_⟩;have hlen:=hw.len
  refine⟨ts.map V.ref,by rw[ai (aj d9 ht)];exact d9,?_,ts++[t],?_,?_,?_⟩
  ·rw[aO,hlen,aO];exact eZ (tU (yk _ _) hz)
  ·rw[af,jO];rfl
  ·rw[take_snoc hcc,jO];have S1:aH [D] H2 (L2.upd (L2.upd H2 t (.tup [.int (c.key:Int),oh c.new])) D (.lst (ts.map V.ref++[.ref t]))):=(aH.new ht).trans (aH.upd (bU ..))
   refine(hw.keep S1 λb hb xs z=>?_).append (.cons ?_ .nil)
   ·rw[cY.mp hb,d9]at z;cases z
   ·rw[ai (aj d9 ht).symm,af];rfl
  ·exact λb o e=>by rw[ai (aj e hD),ai (aj (S _ _ e) ht)];exact S _ _ e
 ·rintro H2 ⟨ts,d9,hw,S⟩
  rw[aO,hc.len,i9]at hw;exact kk H2 D ts hD d9 hw S
def JH(T:Txt K mg a):aT P w K mg base cR 3 a.kO.1 a.kO.2 ["changes"] (L0 a):=by
 refine T.kO.F.ok uE (λvs H Q E h=>?_) (λcdv A outer s0 H vs Q E hr h=>?_)
 ·obtain⟨l,qs,cs,rfl,_⟩:=h;rfl
 obtain⟨l,qs,cs,rfl,hl,hc,hz,kk⟩:=h;refine⟨_,(ao (aC (vZ (own:=[("change",1)]) (te:=O7 a.fy (ze a) [] E0 (pL (Lg K (l9 1) "key") (pL (Lg K (l9 1) "behind") (pL (Lg K (l9 1) "before") xX)))) rfl uE.nd (i6 (pv 0)) (jU rfl) (λs H C cl fp=>b_ (i:=1) uE.nd rfl (Or.inl rfl)) (λs H C cl fp=>qN) (λs H C cl fp=>(l5 T.vj (lP T) hr.lt rfl T.vh T.fz.b .nil aA (aa (au (pv 1) rfl) (aa (au (pv 1) rfl) (aa (au (pv 1) rfl) ah)))))))),?_⟩;refine⟨_,rfl,l,rfl,⟨_,aX.of hl⟩,λD hD=>?_⟩;refine Bv (K:=K) (xs:=qs.map V.ref) (λi H2=>∃ts:List Addr,H2 D=some (.lst (ts.map V.ref))/\mY a H2 ts (Vbwsae.inverse (cs.take i))/\az H H2) ⟨[],af,.nil,az.new hD⟩ (λi H2 _ h=>aX.of (h.choose_spec.2.2 _ _ hl)) ?_ ?_
 ·rintro i x H2 hx ⟨ts,d9,hw,S⟩
  rw[fj]at hx;obtain⟨q,hq,rfl⟩:=f_.mp hx;obtain⟨c,hcc,dx,hO⟩:=(hc.same S).get hq;refine⟨rfl,Iq ?_⟩;refine dF ?_;refine⟨_,rfl,q,_,dx,_,_,rfl,hO,T.bq,T.gW,rfl,_,rfl,q,_,dx,_,_,rfl,hO,T.bq,T.bA,rfl,_,rfl,q,_,dx,_,_,rfl,hO,T.bq,T.dY,rfl,λt dt ht hdt hne=>?_⟩;have hlen:=hw.len
  refine⟨t,dt,_,_,_,rfl,af,λH3 h3 K3=>⟨rfl,?_⟩⟩;have S3:az H2 H3:=λb o e=>K3 b o (by rw[ai (aj e ht),ai (aj e hdt)];exact e) (by simpa using aj e ht)
  have Af:=S3 _ _ d9;refine⟨ts.map V.ref,Af,?_,ts++[t],?_,?_,?_⟩
  ·rw[aO,hlen,Vbwsae.inverse,aO];exact eZ (tU (yk _ _) hz)
  ·rw[af,jO];rfl
  ·rw[take_snoc hcc,Vbwsae.inverse,jO];refine((hw.same S3).keep (S:=[D]) (aH.upd (bU ..)) λb hb dx fs z=>?_).append (.cons ⟨dt,?_⟩ .nil)
   ·rw[cY.mp hb,Af]at z;cases z
   ·rw[ai (bh h3 Af (by intro z;cases z))];exact h3
  ·exact λb o e=>by rw[ai (aj e hD)];exact S3 _ _ (S _ _ e)
 ·rintro H2 ⟨ts,d9,hw,S⟩
  rw[aO,hc.len,i9]at hw;exact kk H2 D ts hD d9 hw S
def vp(T:Txt K mg a):aT P w K mg base cR 1 a.iX.1 a.iX.2 ["changes"] (Ti a):=by
 refine T.iX.F.ok Aa (λvs H Q E h=>?_) (λcdv A outer s0 H vs Q E hr h=>?_)
 ·obtain⟨l,qs,cs,rfl,_⟩:=h;rfl
 obtain⟨l,qs,cs,rfl,hl,hc,Jg,hz,kk⟩:=h;refine⟨_,(ak (aJ (i:=1) Aa.nd rfl (Or.inl rfl) tE) (ak (jf kE rfl (i6 (pv 0)) (b_ (i:=2) Aa.nd rfl (Or.inl rfl)) (ao (uc (nY hr) (pv 1) (au (pv 2) rfl) (pv 2) rfl))) (ao (aC (pv 1))))),?_⟩;intro d hd;refine⟨_,rfl,l,rfl,⟨_,aX.of (az.new hd _ _ hl)⟩,jT (K:=K) (xs:=qs.map V.ref) (λi σ H2=>∃v,σ=[some (.ref l),some (.ref d),v]/\H2 d=some (.dK (Hx (qs.take i) (cs.take i)))/\az H H2) ⟨none,rfl,af,az.new hd⟩ (λi σ H2 _ h0=>by obtain⟨_,_,_,S⟩:=h0;exact aX.of (S _ _ hl)) ?_ ?_⟩
 ·rintro i x σ H2 hx ⟨v,rfl,hd2,S⟩
  rw[fj]at hx;obtain⟨q,hq,rfl⟩:=f_.mp hx;obtain⟨c,hcc,dx,hO⟩:=(hc.same S).get hq;have hlen:(Hx (qs.take i) (cs.take i)).length<sizeLine:=by
   rw[Hx,aO,Fe,lG,lG];exact eZ (by omega)
  refine⟨_,rfl,_,rfl,_,rfl,q,_,dx,_,_,rfl,hO,T.bq,T.gW,rfl,d,_,rfl,xY.k (k:=Sum.inl (c.key:Int)) hd2 hlen,?_⟩;refine⟨_,rfl,?_,λb o e=>by rw[ai (aj e hd)];exact S _ _ e⟩;have hnew:fO (Hx (qs.take i) (cs.take i)) (.inl (c.key:Int))=none:=oA (f:=λx:Addr×Ch=>(Sum.inl (x.2.key:Int):Key)) λx hx e=>by
   have hk:x.2.key=c.key:=by have:=qA e;omega
   have hm:=(Fd hx).2;obtain⟨j,hj,ej⟩:=List.mem_iff_getElem.mp hm;rw[List.getElem_take]at ej;have hji:j<i:=by rw[lG]at hj;omega
   obtain⟨hi,ei⟩:=iu.mp hcc;have:=GN.mp Jg j i (by simp;omega) (by simpa using hi) hji
   simp only[List.getElem_map]at this;rw[ej,ei]at this;omega
  rw[af,qt _ hnew];have hlt:(qs.take i).length=(cs.take i).length:=by rw[lG,lG,hc.len]
  rw[take_snoc hq,take_snoc hcc,Hx,Hx,List.zip_append hlt,jO];rfl
 ·rintro σ H2 ⟨v,rfl,hd2,S⟩
  rw[aO,i9,hc.len,i9]at hd2;exact⟨_,rfl,kk H2 d hd hd2 S⟩
noncomputable def Z0:Option Nat->V
 |none=>.gq
 |some i=>.int (i:Int)
inductive Ra(a:Ad)(vs:List V)(H:Hp)(Q:VK)(gc:XK):Prop
 |mk (p dk dn l:Addr) (s:bI) (i:Nat) (t:SM.Tr) (qs:List Addr) (cs:List Ch) (_:vs=[.ref p,.int (i:Int),.ref l]) (_:jt a H p dk dn s) (_:SM.ji s i t) (_:H l=some (.lst (qs.map V.ref))) (_:mY a H qs cs) (_:∀H',az H H'->Q (Z0 (cs.findIdx? λc=>!sameOpt Vbwsae.same (Vbwsae.get t c.key) c.old)) H')
noncomputable def alike:SM.Tr->SM.Tr->Bool
 | .fork b l _,.fork c m _=>decide (b=c/\leastKey l/2^(b+1)=leastKey m/2^(b+1))
 |_,_=>false
inductive Tj(a:Ad)(vs:List V)(H:Hp)(Q:VK)(gc:XK):Prop
 |mk (p dk dn:Addr) (s:bI) (i j:Nat) (t u:SM.Tr) (_:vs=[.ref p,.int (i:Int),.int (j:Int)]) (_:jt a H p dk dn s) (_:SM.ji s i t) (_:SM.ji s j u) (_:Q (.bl (alike t u)) H)
def TW(t:SM.Tr):Prop:=t=.none\/∃c p,SM.WT t c p/\c<=40
def TW.rise(h:TW t):SM.b6 (SM.keysOf t):=by
 rcases h with rfl|⟨c,p,h,_⟩
 ·simp[SM.keysOf,pairs,SM.b6]
 ·exact h.rising
inductive Rb(a:Ad)(vs:List V)(H:Hp)(Q:VK)(gc:XK):Prop
 |mk (p dk dn l:Addr) (s:bI) (i j:Nat) (t u:SM.Tr) (xs:List V) (U:List Nat) (_:vs=[.ref p,.int (i:Int),.int (j:Int),.ref l]) (_:jt a H p dk dn s) (_:SM.ji s i t) (_:SM.ji s j u) (_:depth t<=41) (_:depth u<=41) (_:TW t) (_:TW u) (_:H l=some (.lst xs)) (_:(∀k∈SM.keysOf t,k∈U)) (_:(∀k∈SM.keysOf u,k∈U)) (_:U.length<=4000) (_:xs.length<500000) (_:∀H' qs,H' l=some (.lst (xs++qs.map V.ref))->mY a H' qs (Vbwsae.diff Vbwsae.same t u)->aH [l] H H'->Q .gq H')
inductive Ot(a:Ad)(d:Nat)(vs:List V)(H:Hp)(Q:VK)(gc:XK):Prop
 |mk (p dk dn l:Addr) (s:bI) (i j:Nat) (t u:SM.Tr) (xs:List V) (U:List Nat) (_:vs=[.ref p,.int (i:Int),.int (j:Int),.ref l]) (_:jt a H p dk dn s) (_:SM.qB s) (_:0<d) (_:d<=41) (_:SM.ji s i t) (_:SM.ji s j u) (_:depth t<=d) (_:depth u<=d) (_:TW t) (_:TW u) (_:H l=some (.lst xs)) (_:(∀k∈SM.keysOf t,k∈U)) (_:(∀k∈SM.keysOf u,k∈U)) (_:U.length<=4000) (_:xs.length+(pairs t).length+(pairs u).length<500000) (_:∀H' qs,H' l=some (.lst (xs++qs.map V.ref))->mY a H' qs (diffAt Vbwsae.same s d i j).1->aH [l] H H'->Q (.int ((diffAt Vbwsae.same s d i j).2:Nat)) H')
inductive Hz(a:Ad)(vs:List V)(H:Hp)(Q:VK)(gc:XK):Prop
 |mk (p dk dn:Addr) (s:bI) (i j:Nat) (t u:SM.Tr) (U:List Nat) (_:vs=[.ref p,.int (i:Int),.int (j:Int)]) (_:jt a H p dk dn s) (_:SM.qB s) (_:SM.ji s i t) (_:SM.ji s j u) (_:depth t<=41) (_:depth u<=41) (_:TW t) (_:TW u) (_:(∀k∈SM.keysOf t,k∈U)) (_:(∀k∈SM.keysOf u,k∈U)) (_:U.length<=4000) (_:∀H' l qs,H l=none->H' l=some (.lst (qs.map V.ref))->mY a H' qs (diffAt Vbwsae.same s 41 i j).1->az H H'->Q (.ref l) H')
def zf{ps:List (Nat×Int)}:(fO (pk ps) (.inl (k:Int))).getD .gq=oh (SM.lk ps k):=by
 induction ps with
 |nil=>rfl
 |cons x ps ih=>
  show(fO ((Sum.inl (x.1:Int),V.int x.2)::pk ps) (.inl (k:Int))).getD .gq=_
  rw[SM.lq];by_cases c:x.1=k
  ·rw[ay c,c,gU rfl];rfl
  ·rw[aq c,gg (λz=>c (by have:=qA z;omega)),ih]
def GD{ns:List Int}(hp:ns.Pairwise (· < ·))(hm:∀k:Int,k∈ns↔k∈ks.map (λn:Nat=>(n:Int))):∃js:List Nat,ns=js.map (λn:Nat=>(n:Int))/\SM.b6 js/\∀k,k∈js↔k∈ks:=by
 have h0:∀x∈ns,0<=x:=λx hx=>by
  obtain⟨n,_,e⟩:=br.mp ((hm x).mp hx);omega
 have e:ns=(ns.map Int.toNat).map (λn:Nat=>(n:Int)):=by
  rw[Fy];have:ns.map ((λn:Nat=>(n:Int)) ∘Int.toNat)=ns.map id:=List.map_congr_left λx hx=>by
   have:=h0 x hx;simp;omega
  rw[this,List.map_id]
 refine⟨ns.map Int.toNat,e,?_,λk=>?_⟩
 ·rw[e]at hp;exact(List.pairwise_map.mp hp).imp λh=>by omega
 ·constructor
  ·intro h;obtain⟨x,hx,ex⟩:=br.mp h;obtain⟨n,hn,en⟩:=br.mp ((hm x).mp hx);have:n=k:=by omega
   rw[<- this];exact hn
  ·intro h;have:=(hm (k:Int)).mpr (br.mpr ⟨k,h,rfl⟩)
   exact br.mpr ⟨_,this,by simp⟩
def gp.P_(T:Txt K mg a){n:SM.Nd}(x:gp a H q n e):∃t,pP K H (.ref q) t/\W.kitOne K t (.ref a.fq)=some (match n with| .leaf _ _=>false| .fork _ _ _=>true):=by
 cases n with
 |leaf k v=>obtain⟨_,dx,t,h1,h2⟩:=x;exact⟨_,T.M8 h1,T.Ho⟩
 |fork b l r=>obtain⟨dx,t,h1,h2⟩:=x;exact⟨_,T.M9 h1,T.Hr⟩
def Ck(T:Txt K mg a):aT P w K mg base cR 3 a.fQ.1 a.fQ.2 ["nodes","top","changes"] (Ra a):=by
 refine T.fQ.F.ok nj (λvs H Q E h=>?_) (λcdv A outer s0 H vs Q E hr h=>?_)
 ·obtain⟨p,dk,dn,l,s,i,t,qs,cs,rfl,_⟩:=h;rfl
 obtain⟨p,dk,dn,l,s,i,t,qs,cs,rfl,N,r,hl,hc,kk⟩:=h;refine⟨_,(ak (jf kE rfl (SV rfl T.JE (aa (pv 2) ah)) (KG rfl (qo (b_ (i:=3) nj.nd rfl (Or.inl rfl)) (qo (b_ (i:=4) nj.nd rfl (Or.inl rfl)) Gx)))
   (ao (bx (jw Lf (aF (AS T) hr.lt rfl T.iP.m T.iP.F.kp T.iP.b .nil aA (aa (pv 0) (aa (pv 1) (aa (au (pv 4) rfl) ah)))) (au (pv 4) rfl) rfl) (ao (aC (pv 3))) aN))) (ao (aC yM))),?_⟩
 refine⟨_,rfl,l,_,rfl,aX.of hl,Q0 (K:=K) (xs:=qs.map V.ref) (λi' σ H2=>∃v v',σ=[some (.ref p),some (.int (i:Int)),some (.ref l),v,v']/\az H H2/\∀c∈cs.take i',Vbwsae.get t c.key=c.old) ⟨none,none,rfl,az.refl _,by simp⟩ (λi' σ H2 _ h0=>by obtain⟨_,_,_,S,_⟩:=h0;exact aX.of (S _ _ hl)) ?_ ?_⟩
 ·rintro i' x σ H2 tt hx ⟨v,v',rfl,S,hf⟩ ht
  rw[fj]at hx;obtain⟨q,hq,rfl⟩:=f_.mp hx;have S2:az H (L2.upd H2 tt (.tup [.int (i':Nat),.ref q])):=S.trans (az.new ht)
  obtain⟨c,hcc,dx,hO⟩:=(hc.same S2).get hq;refine⟨tt,_,rfl,mW.of af,rfl,_,_,rfl,_,_,rfl,rfl,?_⟩;refine⟨_,rfl,_,rfl,_,rfl,q,_,dx,_,_,rfl,hO,T.bq,T.gW,rfl,p,dk,dn,s,i,c.key,t,rfl,N.same S2,r,?_⟩;refine⟨_,rfl,q,_,dx,_,_,rfl,hO,T.bq,T.dY,rfl,om _ _,_,rfl,?_⟩;by_cases e:Vbwsae.get t c.key=c.old
  ·rw[jP (jn.mpr e)];refine fu ⟨_,_,rfl,S2,λc' hc'=>?_⟩;rw[take_snoc hcc]at hc';rcases dg.mp hc' with z|z
   ·exact hf c' z
   ·rw[cY.mp z];exact e
  ·rw[i_ (λz=>e (jn.mp z))];refine dF ⟨_,rfl,?_⟩;have YS:cs.findIdx? (λc=>!sameOpt Vbwsae.same (Vbwsae.get t c.key) c.old)=some i':=by
    obtain⟨h1,h2⟩:=iu.mp hcc;refine J0.mpr ⟨h1,?_,λj hj=>?_⟩
    ·rw[h2];simp only[BP,vG];exact λz=>e (SM.fX.mp z)
    ·have:=hf cs[j] (List.mem_take_iff_getElem.mpr ⟨j,by omega,rfl⟩);rw[this];simp[SM.fX]
   have:=kk _ S2;rw[YS]at this;exact this
 ·rintro σ H2 ⟨v,v',rfl,S,hf⟩
  rw[aO,hc.len,i9]at hf;have YS:cs.findIdx? (λc=>!sameOpt Vbwsae.same (Vbwsae.get t c.key) c.old)=none:=J2.mpr λc hc=>by
   rw[hf c hc];simp[SM.fX]
  have:=kk _ S;rw[YS]at this;exact this
def Rc(T:Txt K mg a):aT P w K mg base cR 2 a.dN.1 a.dN.2 ["nodes","top","other"] (Tj a):=by
 refine T.dN.F.ok lA (λvs H Q E h=>?_) (λcdv A outer s0 H vs Q E hr h=>?_)
 ·obtain⟨p,dk,dn,s,i,j,t,u,rfl,_⟩:=h;rfl
 obtain⟨p,dk,dn,s,i,j,t,u,rfl,N,r,r2,kk⟩:=h;obtain⟨dx,h1⟩:=N.obj;obtain⟨tk,hN⟩:=T.jC;refine⟨_,(ak (bx (PW.pt (t_ (bf (eL (pv 1) (dj rfl hN))) (qE (bf (eL (pv 2) (dj rfl hN)))))) (ao (aC k9)) aN) (ak (aJ (i:=3) lA.nd rfl (Or.inl rfl) (aI (pv 0) T.aM T.aQ.m (iC T) hr.lt T.aQ.b .nil aA (aa (pv 1) ah))) (ak (aJ (i:=4) lA.nd rfl (Or.inl rfl) (aI (pv 0) T.aM T.aQ.m (iC T) hr.lt T.aQ.b .nil aA (aa (pv 2) ah))) (ak (bx (PW.pt (t_ (jJ (fD (aV jx rfl T.fT rfl (aa (pv 3) (aa (pM rfl T.Gz) ah))))) (t_ (jJ (fD (aV jx rfl T.fT rfl (aa (pv 4) (aa (pM rfl T.Gz) ah))))) (qE (bf (Kz (au (pv 3) rfl) (au (pv 4) rfl))))))) (ao (aC k9)) aN) (ao (aC (B3 (eL (cU FQ (au (pv 3) rfl) (cU ig (au (pv 3) rfl) aD)) (cU FQ (au (pv 4) rfl) (cU ig (au (pv 4) rfl) aD)))))))))),?_⟩;refine⟨_,rfl,_,_,rfl,rfl,_,rfl,?_⟩;refine gM cQ (λc=>dF ?_) (λc=>?_)
 ·have c:i=0:=by omega
  subst c;rcases r with⟨_,z⟩|r
  ·subst z;exact kk
  ·exact absurd r.pos (by omega)
 refine⟨_,rfl,_,_,rfl,rfl,_,rfl,?_⟩;refine gM cQ (λc2=>?_) (λc2=>?_)
 ·have c:j=0:=by omega
  subst c;rcases r2 with⟨_,z⟩|r2
  ·subst z;have e:alike t .none=false:=by cases t<;>rfl
   rw[e]at kk;exact kk
  ·exact absurd r2.pos (by omega)
 have r:=jD r c;have r2:=jD r2 c2
 obtain⟨n,hn⟩:=r.node;obtain⟨n2,hn2⟩:=r2.node;refine⟨_,rfl,p,dx,_,rfl,h1,rfl,_,rfl,p,dk,dn,s,i,n,rfl,N,hn,λq e ho he=>?_⟩;refine⟨_,rfl,p,dx,_,rfl,h1,rfl,_,rfl,p,dk,dn,s,j,n2,rfl,N,hn2,λq2 e2 ho2 WQ=>?_⟩;have he:=he t r
 have WQ:=WQ u r2;subst he WQ;obtain⟨ty,i1,i2⟩:=ho.P_ T;obtain⟨ty2,i3,i4⟩:=ho2.P_ T;refine⟨_,rfl,_,_,_,_,rfl,i1,i2,_,rfl,?_⟩;cases r with
 |leaf e'=>
  rw[hn]at e';cases e';have e:∀k x,alike (.leaf k x) u=false:=λ_ _=>by cases u<;>rfl
  rw[e]at kk;exact dF (dF kk)
 |fork e' rl rr=>
 rename_i b l rq tl tr;rw[hn]at e';cases e';refine fu ?_;refine⟨_,rfl,_,_,_,_,rfl,i3,i4,_,rfl,?_⟩;cases r2 with
 |leaf e'=>
  rw[hn2]at e';cases e';exact dF (dF kk)
 |fork e' Up WR=>
 rename_i b2 l2 Ou HA Ov;rw[hn2]at e';cases e';refine fu ?_;obtain⟨dq,tq,o1,o2⟩:=ho;obtain⟨Ur,tq2,o3,o4⟩:=ho2;refine⟨_,rfl,q,_,dq,_,_,rfl,o1,T.aR,T.cA,rfl,_,rfl,q2,_,Ur,_,_,rfl,o3,T.aR,T.cA,rfl,_,_,rfl,rfl,_,rfl,?_⟩;simp only[alike]at kk;by_cases cb:b=b2
 ·subst cb;refine gM (c:=False) (by simp) (λz=>z.elim) (λ_=>?_);refine⟨_,rfl,q,_,dq,_,_,rfl,o1,T.aR,T.jQ,rfl,_,rfl,q,_,dq,_,_,rfl,o1,T.aR,T.cA,rfl,_,_,rfl,rfl,_,_,rfl,rfl,by omega,_,rfl,q2,_,Ur,_,_,rfl,o3,T.aR,T.jQ,rfl,_,rfl,q2,_,Ur,_,_,rfl,o3,T.aR,T.cA,rfl,_,_,rfl,rfl,_,_,rfl,rfl,by omega,_,_,rfl,rfl,?_⟩;have e:∀k:Nat,(k:Int)/2^((b:Int)+1).toNat=((k/2^(b+1):Nat):Int):=λk=>by
   have:((b:Int)+1).toNat=b+1:=by omega
   rw[this];simp
  have e2:decide (((leastKey tl:Nat):Int)/2^((b:Int)+1).toNat=((leastKey HA:Nat):Int)/2^((b:Int)+1).toNat)=decide (b=b/\leastKey tl/2^(b+1)=leastKey HA/2^(b+1)):=by
   rw[e,e,qj,cQ,cQ];constructor
   ·intro h;exact⟨rfl,by omega⟩
   ·intro h;omega
  show Q (.bl (decide (((leastKey tl:Nat):Int)/2^((b:Int)+1).toNat=((leastKey HA:Nat):Int)/2^((b:Int)+1).toNat))) H
  rw[e2];exact kk
 ·refine gM (c:=True) (by simp;omega) (λ_=>?_) (λz=>(z trivial).elim);rw[i_ (λz=>cb z.1)]at kk;exact kk
inductive WAp(a:Ad)(p:Addr)(i j:Nat)(l db dh sl:Addr)(t u:SM.Tr)(xs:List V)(ks:List Nat)(H2:Hp)(m:Nat)(σ:L2.St)(H4:Hp):Prop
 |mk (v:Option V) (qs:List Addr) (_:σ=[some (.ref p),some (.int (i:Int)),some (.int (j:Int)),some (.ref l),some (.ref db),some (.ref dh),v]) (_:H4 l=some (.lst (xs++qs.map V.ref))) (_:mY a H4 qs ((ks.take m).filterMap (SM.h_ (pairs t) (pairs u)))) (_:aH [l] H2 H4) (_:H4 sl=some (.lst ((ks.map (λn:Nat=>(n:Int))).map V.int)))
def EG(T:Txt K mg a):aT P w K mg base cR 44 a.cg.1 a.cg.2 ["nodes","top","other","changes"] (Rb a):=by
 refine T.cg.F.ok iA (λvs H Q E h=>?_) (λcdv A outer s0 H vs Q E hr h=>?_)
 ·obtain⟨p,dk,dn,l,s,i,j,t,u,xs,U,rfl,_⟩:=h;rfl
 obtain⟨p,dk,dn,l,s,i,j,t,u,xs,U,rfl,N,r,r2,d1,d2,w1,w2,hl,u1,u2,hU,hz,kk⟩:=h;have hu:=nY hr
 have z1:(pairs t).length<=4000:=by
  have:=SM.bP (SM.cT w1.rise) u1;rw[SM.keysOf,aO]at this;omega
 have z2:(pairs u).length<=4000:=by
  have:=SM.bP (SM.cT w2.rise) u2;rw[SM.keysOf,aO]at this;omega
 refine⟨_,(ak (aJ (i:=4) iA.nd rfl (Or.inl rfl) tE) (ak (aJ (i:=5) iA.nd rfl (Or.inl rfl) tE) (ak (bQ (aF (qd T 41) hr.lt rfl T.cK.m T.cK.F.kp T.cK.b .nil aA (aa (pv 0) (aa (pv 1) (aa (pv 4) ah))))) (ak (bQ (aF (qd T 41) hr.lt rfl T.cK.m T.cK.F.kp T.cK.b .nil aA (aa (pv 0) (aa (pv 2) (aa (pv 5) ah))))) (ao (jf kE rfl (i6 (aV (rF rfl) rfl T.C9 rfl (aa (cU KS (kZ (yY rfl) rfl T.Ek rfl (aa (pv 4) ah)) (kZ (yY rfl) rfl T.Ek rfl (aa (pv 5) ah))) ah))) (b_ (i:=6) iA.nd rfl (Or.inl rfl))
   (ao (bx (jw Lf (xZ hu (pv 4) (pv 6) ⟨rfl,rfl,rfl,rfl⟩) (xZ hu (pv 5) (pv 6) ⟨rfl,rfl,rfl,rfl⟩) rfl)
    (ao (bQ (kF kD pG pF gA (pv 3) (aa (l5 T.vj (lP T) hr.lt rfl T.vh T.fz.b .nil aA (aa (pv 6) (aa (xZ hu (pv 4) (pv 6) ⟨rfl,rfl,rfl,rfl⟩) (aa (xZ hu (pv 5) (pv 6) ⟨rfl,rfl,rfl,rfl⟩) ah)))) ah)))) aN)))))))),?_⟩
 intro db hdb;intro dh R0;have Us:db≠dh:=aj (o:= .dK []) af R0
 rw[ai Us.symm]at R0;have S0:az H (L2.upd (L2.upd H db (.dK [])) dh (.dK [])):=(az.new hdb).trans (az.new (by rw[ai Us.symm];exact R0))
 obtain⟨ob,hkd⟩:=N.kept;have nk1:db≠dk:=(aj hkd hdb).symm
 have nk2:dh≠dk:=(aj hkd R0).symm;refine⟨_,rfl,_,rfl,_,rfl,p,dk,dn,db,s,i,t,[],rfl,N.same S0,nk1,(by rw[ai Us,af];rfl),by decide,r,d1,(by have:=SM.cT w1.rise;simpa[SM.keysOf]using this),by simp;omega,λH1 f1 K1=>?_⟩;have N1:=(N.same S0).keep K1 ((N.same S0).RL (kvs:=[]) (by rw[ai Us,af]) nk1)
 have g1:H1 dh=some (.dK []):=K1 _ _ af (by simpa using Us.symm);refine⟨_,rfl,_,rfl,_,rfl,p,dk,dn,dh,s,j,u,[],rfl,N1,nk2,g1,by decide,r2,d2,(by have:=SM.cT w2.rise;simpa[SM.keysOf]using this),by simp;omega,λH2 f2 K2=>?_⟩;have YT:H2 db=some (.dK (pk (pairs t))):=K2 _ _ (by simpa using f1) (by simpa using Us)
 have WS:H2 dh=some (.dK (pk (pairs u))):=by simpa using f2
 have S2:az H H2:=λb o e=>K2 _ _ (K1 _ _ (S0 _ _ e) (by simpa using aj e hdb)) (by simpa using aj e R0)
 clear f2 K2 N1 g1 K1 f1;have mp:∀ps:List (Nat×Int),(pk ps).map (·.1)=((ps.map (·.1)).map (λn:Nat=>(n:Int))).map Sum.inl:=λps=>by simp[pk]
 refine⟨_,rfl,db,_,(SM.keysOf t).map (λn:Nat=>(n:Int)),U.map (λn:Nat=>(n:Int)),rfl,YT,mp _,?_,by simpa using hU,λsa hsa=>?_⟩
 ·intro k hk;obtain⟨n,hn,rfl⟩:=br.mp hk;exact br.mpr ⟨n,u1 n hn,rfl⟩
 refine⟨_,rfl,dh,_,(SM.keysOf u).map (λn:Nat=>(n:Int)),U.map (λn:Nat=>(n:Int)),rfl,(by rw[ai (aj WS hsa)];exact WS),mp _,?_,by simpa using hU,λsb hsb=>?_⟩
 ·intro k hk;obtain⟨n,hn,rfl⟩:=br.mp hk;exact br.mpr ⟨n,u2 n hn,rfl⟩
 have nab:sa≠sb:=aj af hsb;refine⟨sa,sb,(SM.keysOf t).map (λn:Nat=>(n:Int)),(SM.keysOf u).map (λn:Nat=>(n:Int)),U.map (λn:Nat=>(n:Int)),rfl,rfl,nab,(by rw[ai nab];exact af),af,?_,?_,by simpa using hU,λsc hsc=>?_⟩
 ·intro k hk;obtain⟨n,hn,rfl⟩:=br.mp hk;exact br.mpr ⟨n,u1 n hn,rfl⟩
 ·intro k hk;obtain⟨n,hn,rfl⟩:=br.mp hk;exact br.mpr ⟨n,u2 n hn,rfl⟩
 refine⟨sc,_,rfl,af,λns sl hp hm hsl=>?_⟩;rw[<- jO]at hm;obtain⟨ks,rfl,Jg,R4⟩:=GD hp hm;have hl2:=S2 _ _ hl
 have Z1:sl≠l:=(aj (((az.new hsa).trans ((az.new hsb).trans (az.new hsc))) _ _ hl2) hsl).symm;refine⟨sl,rfl,⟨_,aX.of af⟩,jT (K:=K) (xs:=(ks.map (λn:Nat=>(n:Int))).map V.int) (WAp a p i j l db dh sl t u xs ks H2)
  ⟨none,[],rfl,?_,.nil,aH.of ((az.new hsa).trans ((az.new hsb).trans ((az.new hsc).trans (az.new hsl)))),af⟩ (λm σ H4 _ h0=>by obtain⟨_,_,_,_,_,_,e⟩:=h0;exact aX.of e) ?_ ?_⟩
 ·rw[sC,nP];exact((az.new hsa).trans ((az.new hsb).trans ((az.new hsc).trans (az.new hsl)))) _ _ hl2
 ·rintro m x σ H4 hx ⟨v,qs,rfl,R5,hC,K4,G5⟩
  rw[fj,fj]at hx;obtain⟨_,hq',rfl⟩:=f_.mp hx;obtain⟨k,hq,rfl⟩:=f_.mp hq';have b4:=K4 _ _ YT (by simpa using(bh YT hl2 (by intro z;cases z)))
  have h4:=K4 _ _ WS (by simpa using(bh WS hl2 (by intro z;cases z)));refine⟨_,rfl,db,rfl,.inl ⟨_,.inl b4⟩,_,rfl,_,gx.k (k:=Sum.inl (k:Int)) b4,_,rfl,dh,rfl,.inl ⟨_,.inl h4⟩,_,rfl,_,gx.k (k:=Sum.inl (k:Int)) h4,(by rw[zf,zf];exact om _ _),_,rfl,?_⟩;rw[zf,zf];have hlen:qs.length<=8000:=by
   have e:=hC.len;have:=EZ (SM.h_ (pairs t) (pairs u)) (ks.take m)
   have h3:ks.length<=(SM.keysOf t++SM.keysOf u).length:=SM.bP (SM.cT Jg) λk hk=>(R4 k).mp hk
   rw[gb,SM.keysOf,SM.keysOf,aO,aO]at h3;have:=yk m ks
   omega
  by_cases e:SM.lk (pairs t) k=SM.lk (pairs u) k
  ·rw[jP (jn.mpr e)];refine fu ⟨_,qs,rfl,R5,?_,K4,G5⟩;rw[take_snoc hq,Eh];have:SM.h_ (pairs t) (pairs u) k=none:=by unfold SM.h_;rw[ay e]
   simpa[this]using hC
  ·rw[i_ (λz=>e (jn.mp z))];refine dF ?_;refine⟨_,rfl,.inl ⟨rfl,_,aX.of R5⟩,_,rfl,_,rfl,db,rfl,.inl ⟨_,.inl b4⟩,_,rfl,_,gx.k (k:=Sum.inl (k:Int)) b4,_,rfl,dh,rfl,.inl ⟨_,.inl h4⟩,_,rfl,_,gx.k (k:=Sum.inl (k:Int)) h4,λq dq pN KU hne=>?_⟩;refine⟨q,dq,_,_,_,rfl,af,λH5 h5 K5=>⟨rfl,?_⟩⟩;rw[zf,zf]at h5;have S5:az H4 H5:=λb o e=>K5 b o (by rw[ai (aj e pN),ai (aj e KU)];exact e) (by simpa using aj e pN)
   refine⟨l,_,_,rfl,rfl,S5 _ _ R5,?_,_,qs++[q],rfl,?_,?_,?_,?_⟩
   ·rw[gb,aO];exact eZ (by omega)
   ·rw[af];simp
   ·rw[take_snoc hq,Eh];have hd:SM.h_ (pairs t) (pairs u) k=some {key:=k,old:=SM.lk (pairs t) k,new:=SM.lk (pairs u) k}:=by unfold SM.h_;rw[aq e]
    rw[show [k].filterMap (SM.h_ (pairs t) (pairs u))=[{key:=k,old:=SM.lk (pairs t) k,new:=SM.lk (pairs u) k}]by simp[hd]];refine((hC.same S5).keep (S:=[l]) (aH.upd (bU ..)) λb hb dx fs z=>?_).append (.cons ⟨dq,?_⟩ .nil)
    ·rw[cY.mp hb,S5 _ _ R5]at z;cases z
    ·rw[ai (bh h5 (S5 _ _ R5) (by intro z;cases z))];exact h5
   ·exact(K4.trans (aH.of S5)).trans (aH.upd (bU ..))
   ·rw[ai Z1];exact S5 _ _ G5
 ·rintro σ H4 ⟨v,qs,rfl,R5,hC,K4,G5⟩
  rw[aO,aO,i9,<- SM.FA w1.rise w2.rise Jg (λk=>by rw[R4 k,dg])]at hC;exact kk H4 qs R5 hC ((aH.of S2).trans K4)
def O_{s:bI}(r:SM.ji s i t)(h:depth t<=d):tree s d i=t:=by
 rcases r with⟨rfl,rfl⟩|r
 ·exact SM.nothing.1
 ·exact SM.mE r h
def L1{s:bI}(r:SM.ji s i t)(r2:SM.ji s j u)(h1:depth t<=d+1)(h2:depth u<=d+1)(hd:d+1<=41)(hn:¬i=j):
  (alike t u=false->diffAt Vbwsae.same s (d+1) i j=(Vbwsae.diff Vbwsae.same t u,1))/\
  (alike t u=true->∃b l rq l2 Ou tl tr HA Ov,t=.fork b tl tr/\u=.fork b HA Ov/\nodeAt s i=some (.fork b l rq)/\nodeAt s j=some (.fork b l2 Ou)/\SM.Rep s l tl/\SM.Rep s rq tr/\SM.Rep s l2 HA/\SM.Rep s Ou Ov/\
   diffAt Vbwsae.same s (d+1) i j=((diffAt Vbwsae.same s d l l2).1++(diffAt Vbwsae.same s d rq Ou).1,(diffAt Vbwsae.same s d l l2).2+(diffAt Vbwsae.same s d rq Ou).2+1)):=by
 have e1:=O_ r h1;have e2:=O_ r2 h2
 rw[diffAt];rw[aq hn,e1,e2];rcases r with⟨rfl,rfl⟩|r
 ·rw[SM.bJ];refine⟨λ_=>rfl,λh=>?_⟩;simp[alike]at h
 cases r with
 |leaf e=>
  rw[e];refine⟨λ_=>rfl,λh=>?_⟩;cases u<;>simp[alike]at h
 |fork e rl rr=>
  rename_i b l rq tl tr;rw[e];rcases r2 with⟨rfl,rfl⟩|r2
  ·rw[SM.bJ];refine⟨λ_=>rfl,λh=>?_⟩;simp[alike]at h
  cases r2 with
  |leaf e'=>
   rw[e'];refine⟨λ_=>rfl,λh=>?_⟩;simp[alike]at h
  |fork e' Up WR=>
   rename_i b2 l2 Ou HA Ov;rw[e'];simp only[depth]at h1 h2;have x1:leastAt s LEVELS l=leastKey tl:=SM.kX rl (show _<=41 by omega)
   have x2:leastAt s LEVELS l2=leastKey HA:=SM.kX Up (show _<=41 by omega);simp only[x1,x2,alike];refine⟨λh=>?_,λh=>?_⟩
   ·rw[aq (by simpa using h)]
   ·have h:=of_decide_eq_true h;have hb:=h.1
    subst hb;rw[ay h];exact⟨b,l,rq,l2,Ou,tl,tr,HA,Ov,rfl,rfl,rfl,rfl,rl,rr,Up,WR,rfl⟩
def TW.sub{b:Nat}{l r:SM.Tr}(h:TW (.fork b l r)):TW l/\TW r:=by
 rcases h with h|⟨c,p,h,hc⟩
 ·cases h
 ·cases h with
  |fork hb wl wr he=>exact⟨.inr ⟨_,_,wl,by omega⟩,.inr ⟨_,_,wr,by omega⟩⟩
def L3{s:bI}(r:SM.Rep s i t)(r2:SM.Rep s j u)(w1:TW t)(w2:TW u)(h1:depth t<=d)(h2:depth u<=d):(diffAt Vbwsae.same s d i j).1.length<=(pairs t).length+(pairs u).length:=by
 obtain⟨c,p,w1,hc⟩:=w1.resolve_left r.gn;obtain⟨c',p',w2,hc'⟩:=w2.resolve_left r2.gn;have h:=SM.uX r r2 w1 w2 hc hc' h1 h2
 have:=SM.bP (SM.cT h.rise) (b:=SM.keysOf t++SM.keysOf u) λk hk=>by
  obtain⟨c,hc,rfl⟩:=br.mp hk;exact dg.mpr (h.mem c hc)
 rw[aO,gb,SM.keysOf,SM.keysOf,aO,aO]at this;exact this
theorem xw(T:Txt K mg a):∀d,aT P w K mg base cR (d+45) a.compare.1 a.compare.2 ["nodes","top","other","changes"] (Ot a d)
 |0=>Bl λvs H Q E h0=>by obtain⟨p,dk,dn,l,s,i,j,t,u,xs,U,_,_,_,h,_⟩:=h0;exact absurd h (by omega)
 |d+1=>by
  have ih:=xw T d;refine T.compare.F.ok oz (λvs H Q E h=>?_) (λcdv A outer s0 H vs Q E hr h=>?_)
  ·obtain⟨p,dk,dn,l,s,i,j,t,u,xs,U,rfl,_⟩:=h;rfl
  obtain⟨p,dk,dn,l,s,i,j,t,u,xs,U,rfl,N,Uq,_,hd,r,r2,d1,d2,w1,w2,hl,u1,u2,hU,hz,kk⟩:=h;obtain⟨dx,h1⟩:=N.obj;refine⟨_,(ak (bx (bf (eL (pv 1) (pv 2))) (ao (aC aD)) aN) (ak (bx (jJ (fD (aF (Rc T) hr.lt rfl T.dN.m T.dN.F.kp T.dN.b .nil aA (aa (pv 0) (aa (pv 1) (aa (pv 2) ah)))))) (ak (bQ (aF (EG T) hr.lt rfl T.cg.m T.cg.F.kp T.cg.b .nil aA (aa (pv 0) (aa (pv 1) (aa (pv 2) (aa (pv 3) ah)))))) (ao (aC aD))) aN) (ak (aJ (i:=4) oz.nd rfl (Or.inl rfl) (aI (pv 0) T.aM T.aQ.m (iC T) hr.lt T.aQ.b .nil aA (aa (pv 1) ah))) (ak (aJ (i:=5) oz.nd rfl (Or.inl rfl) (aI (pv 0) T.aM T.aQ.m (iC T) hr.lt T.aQ.b .nil aA (aa (pv 2) ah))) (ak (aJ (i:=6) oz.nd rfl (Or.inl rfl) (aF ih hr.lt rfl T.compare.m T.compare.F.kp T.compare.b .nil aA (aa (pv 0) (aa (au (pv 4) rfl) (aa (au (pv 5) rfl) (aa (pv 3) ah)))))) (ak (aJ (i:=7) oz.nd rfl (Or.inl rfl) (aF ih hr.lt rfl T.compare.m T.compare.F.kp T.compare.b .nil aA (aa (pv 0) (aa (au (pv 4) rfl) (aa (au (pv 5) rfl) (aa (pv 3) ah)))))) (ao (aC (cU ig (cU ig (pv 6) (pv 7)) aD))))))))),?_⟩;refine⟨_,rfl,_,rfl,_,_,rfl,rfl,_,rfl,?_⟩;refine gM cQ (λc=>?_) (λc=>?_)
  ·have c:i=j:=by omega
   unfold diffAt at kk;rw[ay c]at kk;exact kk H [] (by simpa using hl) .nil (aH.refl _ _)
  have c:¬i=j:=λz=>c (by rw[z])
  obtain⟨da1,da2⟩:=L1 r r2 d1 d2 hd c;refine⟨_,rfl,_,rfl,_,rfl,p,dk,dn,s,i,j,t,u,rfl,N,r,r2,_,rfl,?_⟩;cases ha:alike t u
  ·refine dF ?_;rw[da1 ha]at kk;exact⟨_,rfl,_,rfl,_,rfl,_,rfl,p,dk,dn,l,s,i,j,t,u,xs,U,rfl,N,r,r2,by omega,by omega,w1,w2,hl,u1,u2,hU,by omega,λH' qs f1 C1 K1=>kk H' qs f1 C1 K1⟩
  ·refine fu ?_;obtain⟨b,l1,rq,l2,Ou,tl,tr,HA,Ov,rfl,rfl,hn,hn2,rl,rr,Up,WR,ed⟩:=da2 ha;rw[ed]at kk;simp only[depth]at d1 d2;have q1:=SM.jv rl
   have hp1:(pairs (.fork b tl tr:SM.Tr)).length=(pairs tl).length+(pairs tr).length:=by simp[pairs]
   have hp2:(pairs (.fork b HA Ov:SM.Tr)).length=(pairs HA).length+(pairs Ov).length:=by simp[pairs]
   have zl:=L3 (d:=d) rl Up w1.sub.1 w2.sub.1 (by omega) (by omega);rw[SM.qD]at u1 u2;refine⟨_,rfl,p,dx,_,rfl,h1,rfl,_,rfl,p,dk,dn,s,i,_,rfl,N,hn,λq e ho he=>?_⟩;refine⟨_,rfl,p,dx,_,rfl,h1,rfl,_,rfl,p,dk,dn,s,j,_,rfl,N,hn2,λq2 e2 ho2 WQ=>?_⟩;obtain⟨dq,tq,o1,o2⟩:=ho;obtain⟨Ur,tq2,o3,o4⟩:=ho2;refine⟨_,rfl,_,rfl,q,_,dq,_,_,rfl,o1,T.aR,T.di,rfl,_,rfl,q2,_,Ur,_,_,rfl,o3,T.aR,T.di,rfl,_,rfl,p,dk,dn,l,s,l1,l2,tl,HA,xs,U,rfl,N,Uq,by omega,by omega,.inr rl,.inr Up,by omega,by omega,w1.sub.1,w2.sub.1,hl,λk hk=>u1 k (tT _ hk),λk hk=>u2 k (tT _ hk),hU,by omega,λH1 AV f1 C1 K1=>?_⟩;have N1:=N.keep K1 (N.RM hl)
   have Ci:=K1.ins o1 hl (by intro _ _ _ z;cases z);have o3':=K1.ins o3 hl (by intro _ _ _ z;cases z)
   have zc:=C1.len;refine⟨_,rfl,_,rfl,q,_,dq,_,_,rfl,Ci,T.aR,T.b8,rfl,_,rfl,q2,_,Ur,_,_,rfl,o3',T.aR,T.b8,rfl,_,rfl,p,dk,dn,l,s,rq,Ou,tr,Ov,_,U,rfl,N1,Uq,by omega,by omega,.inr rr,.inr WR,by omega,by omega,w1.sub.2,w2.sub.2,f1,λk hk=>u1 k (qg _ hk),λk hk=>u2 k (qg _ hk),hU,?_,λH2 wJ f2 C2 K2=>?_⟩
   ·rw[gb,aO];omega
   refine⟨_,rfl,_,rfl,_,_,rfl,rfl,_,_,rfl,rfl,?_⟩;have h:=kk H2 (AV++wJ) (by rw[f2];simp) ((C1.keep K2 λb hb dx fs z=>?_).append C2) (K1.trans K2)
   ·exact qi (by omega) h
   ·rw[cY.mp hb,f1]at z;cases z
def wK(T:Txt K mg a):aT P w K mg base cR 87 a.difference.1 a.difference.2 ["nodes","top","other"] (Hz a):=by
 refine T.difference.F.ok wo (λvs H Q E h=>?_) (λcdv A outer s0 H vs Q E hr h=>?_)
 ·obtain⟨p,dk,dn,s,i,j,t,u,U,rfl,_⟩:=h;rfl
 obtain⟨p,dk,dn,s,i,j,t,u,U,rfl,N,Uq,r,r2,d1,d2,w1,w2,u1,u2,hU,kk⟩:=h;have z1:(pairs t).length<=4000:=by
  have:=SM.bP (SM.cT w1.rise) u1;rw[SM.keysOf,aO]at this;omega
 have z2:(pairs u).length<=4000:=by
  have:=SM.bP (SM.cT w2.rise) u2;rw[SM.keysOf,aO]at this;omega
 refine⟨_,(ak (aJ (i:=3) wo.nd rfl (Or.inl rfl) (bF ah)) (ak (bQ (aF (xw T 41) hr.lt rfl T.compare.m T.compare.F.kp T.compare.b .nil aA (aa (pv 0) (aa (pv 1) (aa (pv 2) (aa (pv 3) ah)))))) (ao (aC (pv 3))))),?_⟩;refine⟨fC _,λl hl=>?_⟩;refine⟨_,rfl,_,rfl,_,rfl,_,rfl,p,dk,dn,l,s,i,j,t,u,[],U,rfl,N.same (az.new hl),Uq,by decide,by decide,r,r2,d1,d2,w1,w2,af,u1,u2,hU,by simp;omega,λH1 qs f1 C1 K1=>?_⟩;exact⟨_,rfl,kk H1 l qs hl f1 C1 λb o e=>K1 b o (by rw[ai (aj e hl)];exact e) (by simpa using aj e hl)⟩
def Gj(h:mY a H qs cs)(k:Nat):(SM.fk cs k=none->fO (Hx qs cs) (.inl (k:Int))=none)/\(∀c,SM.fk cs k=some c->∃q,fO (Hx qs cs) (.inl (k:Int))=some (.ref q)/\YR a H q c):=by
 induction h with
 |nil=>exact⟨λ_=>rfl,λc h=>nomatch h⟩
 |cons h _ ih=>
  rename_i q c qs cs _;rw[SM.kM];show(_->fO ((Sum.inl (c.key:Int),V.ref q)::Hx qs cs) (.inl (k:Int))=none)/\(∀c',_->∃q',fO ((Sum.inl (c.key:Int),V.ref q)::Hx qs cs) (.inl (k:Int))=some (.ref q')/\_)
  by_cases e:c.key=k
  ·rw[ay e,e,gU rfl];exact⟨λz=>(nomatch z),λc' z=>⟨q,rfl,by cases z;exact h⟩⟩
  ·rw[aq e,gg (λz=>e (by have:=qA z;omega))];exact ih
def BD(h:mY a H qs cs):(Hx qs cs).map (·.1)=((cs.map (·.key)).map (λn:Nat=>(n:Int))).map Sum.inl:=by
 induction h with
 |nil=>rfl
 |cons h _ ih=>
  rename_i q c qs cs _;show(Sum.inl (c.key:Int):Key)::(Hx qs cs).map (·.1)=_
  rw[ih];rfl
inductive Rf(a:Ad)(vs:List V)(H:Hp)(Q:VK)(gc:XK):Prop
 |mk (l1 l2:Addr) (AV wJ:List Addr) (c1 c2:List Ch) (_:vs=[.ref l1,.ref l2]) (_:H l1=some (.lst (AV.map V.ref))) (_:H l2=some (.lst (wJ.map V.ref))) (_:mY a H AV c1) (_:mY a H wJ c2) (_:SM.dJ c1) (_:SM.dJ c2) (_:c1.length+c2.length<=4000) (_:(join Vbwsae.same (c1.length+c2.length+1) c1 c2=none->∀H',az H H'->Q .gq H')) (_:(∀cs,join Vbwsae.same (c1.length+c2.length+1) c1 c2=some cs->∀H' D ts,H D=none->H' D=some (.lst (ts.map V.ref))->mY a H' ts cs->az H H'->Q (.ref D) H'))
inductive Ut(a:Ad)(H:Hp)(M:Addr)(wl:Addr)(cl:Addr):Prop
 |mk (dx:_) (_:H M=some (.ins a.gB dx [("writes",.ref wl),("conflicts",.ref cl)]))
inductive Rg(a:Ad)(vs:List V)(H:Hp)(Q:VK)(gc:XK):Prop
 |mk (l1 l2:Addr) (AV wJ:List Addr) (c1 c2:List Ch) (U:List Nat) (_:vs=[.ref l1,.ref l2]) (_:H l1=some (.lst (AV.map V.ref))) (_:H l2=some (.lst (wJ.map V.ref))) (_:mY a H AV c1) (_:mY a H wJ c2) (_:SM.dJ c1) (_:SM.dJ c2) (_:(∀c∈c1,c.key∈U)) (_:(∀c∈c2,c.key∈U)) (_:U.length<=4000) (_:∀H' M wl cl ts us,H wl=none->H cl=none->Ut a H' M wl cl->H' wl=some (.lst (ts.map V.ref))->oj H' ts ((both Vbwsae.same (c1.length+c2.length+1) c1 c2).1.map SM.wr)->H' cl=some (.lst (us.map V.ref))->Jh a H' us (both Vbwsae.same (c1.length+c2.length+1) c1 c2).2->az H H'->Q (.ref M) H')
def BE{acc:List Ch}{c:Ch}(hD:H D=some (.lst (ts.map V.ref)))(hC:mY a H ts acc)(hO:YR a H q c):
  (L2.upd H D (.lst (ts.map V.ref++[.ref q]))) D=some (.lst ((ts++[q]).map V.ref))/\mY a (L2.upd H D (.lst (ts.map V.ref++[.ref q]))) (ts++[q]) (acc++[c])/\aH [D] H (L2.upd H D (.lst (ts.map V.ref++[.ref q]))):=by
 refine⟨by rw[af];simp,?_,aH.upd (bU ..)⟩;refine(hC.keep (S:=[D]) (aH.upd (bU ..)) λb hb dx fs z=>?_).append (.cons ?_ .nil)
 ·rw[cY.mp hb,hD]at z;cases z
 ·obtain⟨dx,e⟩:=hO;exact⟨dx,by rw[ai (bh e hD (by intro z;cases z))];exact e⟩
def Tn{acc:List Cf}{c:Cf}(hD:H D=some (.lst (ts.map V.ref)))(hC:Jh a H ts acc)(hO:CoO a H q c):
  (L2.upd H D (.lst (ts.map V.ref++[.ref q]))) D=some (.lst ((ts++[q]).map V.ref))/\Jh a (L2.upd H D (.lst (ts.map V.ref++[.ref q]))) (ts++[q]) (acc++[c])/\aH [D] H (L2.upd H D (.lst (ts.map V.ref++[.ref q]))):=by
 refine⟨by rw[af];simp,?_,aH.upd (bU ..)⟩;refine(hC.keep (S:=[D]) (aH.upd (bU ..)) λb hb dx fs z=>?_).append (.cons ?_ .nil)
 ·rw[cY.mp hb,hD]at z;cases z
 ·obtain⟨dx,e⟩:=hO;exact⟨dx,by rw[ai (bh e hD (by intro z;cases z))];exact e⟩
def To{acc:List (Nat×Option Int)}{c:Nat×Option Int}(hD:H D=some (.lst (ts.map V.ref)))(hC:oj H ts acc)(hO:H q=some (.tup [.int (c.1:Int),oh c.2])):
  (L2.upd H D (.lst (ts.map V.ref++[.ref q]))) D=some (.lst ((ts++[q]).map V.ref))/\oj (L2.upd H D (.lst (ts.map V.ref++[.ref q]))) (ts++[q]) (acc++[c])/\aH [D] H (L2.upd H D (.lst (ts.map V.ref++[.ref q]))):=by
 refine⟨by rw[af];simp,?_,aH.upd (bU ..)⟩;refine(hC.keep (S:=[D]) (aH.upd (bU ..)) λb hb xs z=>?_).append (.cons ?_ .nil)
 ·rw[cY.mp hb,hD]at z;cases z
 ·rw[ai (bh hO hD (by intro z;cases z))];exact hO
def Uu{c1 c2:List Ch}(h:k∈c1.map (·.key)\/k∈c2.map (·.key)):(SM.fk c2 k=none/\∃p,SM.fk c1 k=some p)\/(SM.fk c1 k=none/\∃q,SM.fk c2 k=some q)\/∃p q,SM.fk c1 k=some p/\SM.fk c2 k=some q:=by
 cases e1:SM.fk c1 k with
 |none=>
  cases e2:SM.fk c2 k with
  |none=>
   rcases h with h|h
   ·have:=SM.FD.mpr h;rw[e1]at this;cases this
   ·have:=SM.FD.mpr h;rw[e2]at this;cases this
  |some q=>exact .inr (.inl ⟨rfl,q,rfl⟩)
 |some p=>
  cases e2:SM.fk c2 k with
  |none=>exact .inl ⟨rfl,p,rfl⟩
  |some q=>exact .inr (.inr ⟨p,q,rfl,rfl⟩)
theorem L4(x y:List Ch)(k:Nat)(ks:List Nat):SM.jr x y (k::ks)=match SM.fk x k,SM.fk y k with
  |some p,some q=>if p.new=q.old then(SM.jr x y ks).map λl=>if p.old=q.new then l else{key:=k,old:=p.old,new:=q.new}::l else none
  |some p,none=>(SM.jr x y ks).map λl=>p::l
  |none,some q=>(SM.jr x y ks).map λl=>q::l
  |none,none=>SM.jr x y ks:=rfl
def pB{U:List Nat}(h:∀c∈cs,c.key∈U):∀k∈(cs.map (·.key)).map (λn:Nat=>(n:Int)),k∈U.map (λn:Nat=>(n:Int)):=λk hk=>by
 obtain⟨n,hn,rfl⟩:=br.mp hk;obtain⟨c,hc,rfl⟩:=br.mp hn;exact br.mpr ⟨_,h c hc,rfl⟩
inductive WJn(a:Ad)(l1 l2 db dh D sl:Addr)(c1 c2:List Ch)(ks:List Nat)(H2:Hp)(m:Nat)(σ:L2.St)(H4:Hp):Prop
 |mk (v:Option V) (ts:List Addr) (acc:List Ch) (_:σ=[some (.ref l1),some (.ref l2),some (.ref db),some (.ref dh),some (.ref D),v]) (_:H4 D=some (.lst (ts.map V.ref))) (_:mY a H4 ts acc) (_:acc.length<=m) (_:aH [D] H2 H4) (_:H4 sl=some (.lst ((ks.map (λn:Nat=>(n:Int))).map V.int))) (_:SM.jr c1 c2 ks=(SM.jr c1 c2 (ks.drop m)).map (acc++ ·))
def Ow(T:Txt K mg a):aT P w K mg base cR 3 a.joined.1 a.joined.2 ["first","second"] (Rf a):=by
 refine T.joined.F.ok qH (λvs H Q E h=>?_) (λcdv A outer s0 H vs Q E hr h=>?_)
 ·obtain⟨l1,l2,AV,wJ,c1,c2,rfl,_⟩:=h;rfl
 obtain⟨l1,l2,AV,wJ,c1,c2,rfl,hl1,hl2,C1,C2,k1,k2,hz,kN,kS⟩:=h;have hu:=nY hr
 refine⟨_,(ak (aJ (i:=2) qH.nd rfl (Or.inl rfl) (aF (vp T) hr.lt rfl T.iX.m T.iX.F.kp T.iX.b .nil aA (aa (pv 0) ah))) (ak (aJ (i:=3) qH.nd rfl (Or.inl rfl) (aF (vp T) hr.lt rfl T.iX.m T.iX.F.kp T.iX.b .nil aA (aa (pv 1) ah))) (ak (aJ (i:=4) qH.nd rfl (Or.inl rfl) (bF ah)) (ak (jf kE rfl (i6 (aV (rF rfl) rfl T.C9 rfl (aa (cU KS (kZ (yY rfl) rfl T.Ek rfl (aa (pv 2) ah)) (kZ (yY rfl) rfl T.Ek rfl (aa (pv 3) ah))) ah))) (b_ (i:=5) qH.nd rfl (Or.inl rfl))
   (ao (bx (bf (nX hu (pv 5) (pv 3))) (ao (bQ (kF kD pG pF gA (pv 4) (aa (gQ hu (pv 2) (pv 5) (λ_ _=>rfl)) ah))))
    (ao (bx (bf (nX hu (pv 5) (pv 2))) (ao (bQ (kF kD pG pF gA (pv 4) (aa (gQ hu (pv 3) (pv 5) (λ_ _=>rfl)) ah))))
     (ao (bx (jw Lf (au (gQ hu (pv 2) (pv 5) (λ_ _=>rfl)) rfl) (au (gQ hu (pv 3) (pv 5) (λ_ _=>rfl)) rfl) rfl) (ao (aC yM))
      (ao (bx (jw Lf (au (gQ hu (pv 2) (pv 5) (λ_ _=>rfl)) rfl) (au (gQ hu (pv 3) (pv 5) (λ_ _=>rfl)) rfl) rfl)
       (ao (bQ (kF kD pG pF gA (pv 4) (aa (l5 T.vj (lP T) hr.lt rfl T.vh T.fz.b .nil aA (aa (pv 5) (aa (au (gQ hu (pv 2) (pv 5) (λ_ _=>rfl)) rfl) (aa (au (gQ hu (pv 3) (pv 5) (λ_ _=>rfl)) rfl) ah)))) ah)))) aN))))))))) (ao (aC (pv 4))))))),?_⟩
 refine⟨_,rfl,l1,AV,c1,rfl,hl1,C1,k1,by omega,λH0 db hdb b0 S0=>?_⟩;refine⟨_,rfl,l2,wJ,c2,rfl,S0 _ _ hl2,C2.same S0,k2,by omega,λH1 dh R0 h1 S1=>?_⟩;have b1:=S1 _ _ b0
 have Ox:=S0.trans S1;refine⟨fC _,λD hD=>?_⟩;have b2:L2.upd H1 D (.lst []) db=_:=az.new hD _ _ b1
 have h2:L2.upd H1 D (.lst []) dh=_:=az.new hD _ _ h1;have d9:L2.upd H1 D (.lst []) D=some (.lst []):=af
 have S2:az H (L2.upd H1 D (.lst [])):=Ox.trans (az.new hD);have nD:H D=none:=Ox.free hD
 generalize L2.upd H1 D (.lst [])=H2 at b2 h2 d9 S2⊢;have U1:∀c∈c1,c.key∈(c1++c2).map (·.key):=λc hc=>br.mpr ⟨c,tT _ hc,rfl⟩
 have U2:∀c∈c2,c.key∈(c1++c2).map (·.key):=λc hc=>br.mpr ⟨c,qg _ hc,rfl⟩
 have hU:(((c1++c2).map (·.key)).map (λn:Nat=>(n:Int))).length<=4000:=by simp;omega
 refine⟨_,rfl,db,_,(c1.map (·.key)).map (λn:Nat=>(n:Int)),((c1++c2).map (·.key)).map (λn:Nat=>(n:Int)),rfl,b2,BD C1,pB U1,hU,λsa hsa=>?_⟩;refine⟨_,rfl,dh,_,(c2.map (·.key)).map (λn:Nat=>(n:Int)),((c1++c2).map (·.key)).map (λn:Nat=>(n:Int)),rfl,az.new hsa _ _ h2,BD C2,pB U2,hU,λsb hsb=>?_⟩;have nab:sa≠sb:=aj af hsb
 refine⟨sa,sb,(c1.map (·.key)).map (λn:Nat=>(n:Int)),(c2.map (·.key)).map (λn:Nat=>(n:Int)),((c1++c2).map (·.key)).map (λn:Nat=>(n:Int)),rfl,rfl,nab,(by rw[ai nab];exact af),af,pB U1,pB U2,hU,λsc hsc=>?_⟩;refine⟨sc,_,rfl,af,λns sl hp hm hsl=>?_⟩;rw[<- jO]at hm;obtain⟨ks,rfl,Jg,R4⟩:=GD hp hm;have Lo:∀k,k∈ks↔k∈c1.map (·.key)\/k∈c2.map (·.key):=λk=>by rw[R4 k,dg]
 have hj:=SM.uS (n:=c1.length+c2.length+1) (by omega) k1 k2 Jg Lo;have nsl:sl≠D:=(aj (((az.new hsa).trans ((az.new hsb).trans (az.new hsc))) _ _ d9) hsl).symm
 have hkl:ks.length<=4000:=by
  have:=SM.bP (SM.cT Jg) (b:=(c1++c2).map (·.key)) λk hk=>by rw[jO];exact(R4 k).mp hk
  simp at this;omega
 refine⟨sl,rfl,⟨_,aX.of af⟩,jT (K:=K) (xs:=(ks.map (λn:Nat=>(n:Int))).map V.int) (WJn a l1 l2 db dh D sl c1 c2 ks H2)
  ⟨none,[],[],rfl,((az.new hsa).trans ((az.new hsb).trans ((az.new hsc).trans (az.new hsl)))) _ _ d9,.nil,bw _,aH.of ((az.new hsa).trans ((az.new hsb).trans ((az.new hsc).trans (az.new hsl)))),af,by simp⟩ (λm σ H4 _ h0=>by obtain⟨_,_,_,_,_,_,_,_,e,_⟩:=h0;exact aX.of e) ?_ ?_⟩
 ·rintro m x σ H4 hx ⟨v,ts,acc,rfl,Ag,hC,hacc,K4,G5,hJ⟩
  rw[fj,fj]at hx;obtain⟨_,hq',rfl⟩:=f_.mp hx;obtain⟨k,hq,rfl⟩:=f_.mp hq';have b4:=K4 _ _ b2 (by simpa using(bh b2 d9 (by intro z;cases z)))
  have h4:=K4 _ _ h2 (by simpa using(bh h2 d9 (by intro z;cases z)));have nC:∀b∈ [D],∀dx fs,H2 b≠some (.ins a.fy dx fs):=λb hb dx fs z=>by rw[cY.mp hb,d9]at z;cases z
  have YU:mY a H4 AV c1:=(C1.same S2).keep K4 nC;have YV:mY a H4 wJ c2:=(C2.same S2).keep K4 nC
  obtain⟨g1,VN⟩:=Gj YU k;obtain⟨g2,VO⟩:=Gj YV k;have ed:ks.drop m=k::ks.drop (m+1):=by
   obtain⟨h1,h2⟩:=iu.mp hq;rw[pD h1,h2]
  rw[ed]at hJ;rw[L4]at hJ;have hml:m<ks.length:=(iu.mp hq).1
  have hkm:k∈c1.map (·.key)\/k∈c2.map (·.key):=(Lo k).mp (l_ hq);have zts:ts.length=acc.length:=hC.len
  have hlen:(ts.map V.ref).length<sizeLine:=by rw[aO];exact eZ (by omega)
  have kp:∀{H5:Hp},aH [D] H4 H5->aH [D] H2 H5/\H5 sl=some (.lst ((ks.map (λn:Nat=>(n:Int))).map V.int)):=λk5=>⟨K4.trans k5,k5 _ _ G5 (by simpa using nsl)⟩
  refine⟨_,rfl,_,rfl,dh,_,rfl,gx.k (k:=Sum.inl (k:Int)) h4,_,rfl,?_⟩;rcases Uu hkm with⟨e2,pc,e1⟩|⟨e1,qc,e2⟩|⟨pc,qc,e1,e2⟩
  ·rw[g2 e2];refine dF ?_;obtain⟨q1,v1,o1⟩:=VN pc e1;refine⟨_,rfl,.inl ⟨rfl,_,aX.of Ag⟩,_,rfl,_,rfl,db,_,rfl,v1▸gx.k (k:=Sum.inl (k:Int)) b4,D,_,_,rfl,rfl,Ag,hlen,?_⟩;obtain⟨f1,f2,f3⟩:=BE Ag hC o1;refine⟨_,ts++[q1],acc++[pc],rfl,f1,f2,by simp;omega,(kp f3).1,(kp f3).2,?_⟩;rw[hJ];simp only[e1,e2,Option.map_map];congr 1;funext x;simp
  ·obtain⟨q2,v2,o2⟩:=VO qc e2;rw[v2];refine fu ?_;refine⟨_,rfl,_,rfl,db,_,rfl,gx.k (k:=Sum.inl (k:Int)) b4,_,rfl,?_⟩;rw[g1 e1];refine dF ?_;refine⟨_,rfl,.inl ⟨rfl,_,aX.of Ag⟩,_,rfl,_,rfl,dh,_,rfl,v2▸gx.k (k:=Sum.inl (k:Int)) h4,D,_,_,rfl,rfl,Ag,hlen,?_⟩;obtain⟨f1,f2,f3⟩:=BE Ag hC o2;refine⟨_,ts++[q2],acc++[qc],rfl,f1,f2,by simp;omega,(kp f3).1,(kp f3).2,?_⟩;rw[hJ];simp only[e1,e2,Option.map_map];congr 1;funext x;simp
  ·obtain⟨q1,v1,d1,o1⟩:=VN pc e1;obtain⟨q2,v2,d2,o2⟩:=VO qc e2;rw[v2];refine fu ?_;refine⟨_,rfl,_,rfl,db,_,rfl,gx.k (k:=Sum.inl (k:Int)) b4,_,rfl,?_⟩;rw[v1];refine fu ?_;have x1:gx H4 db (kV (Sum.inl (k:Int))) (some (.ref q1)):=v1▸gx.k (k:=Sum.inl (k:Int)) b4
   have x2:gx H4 dh (kV (Sum.inl (k:Int))) (some (.ref q2)):=v2▸gx.k (k:=Sum.inl (k:Int)) h4;refine⟨_,rfl,_,rfl,db,_,rfl,x1,q1,_,d1,_,_,rfl,o1,T.bq,T.bA,rfl,_,rfl,_,rfl,dh,_,rfl,x2,q2,_,d2,_,_,rfl,o2,T.bq,T.dY,rfl,om _ _,_,rfl,?_⟩;by_cases c:pc.new=qc.old
   ·rw[jP (jn.mpr c)];refine fu ?_;refine⟨_,rfl,_,rfl,db,_,rfl,x1,q1,_,d1,_,_,rfl,o1,T.bq,T.dY,rfl,_,rfl,_,rfl,dh,_,rfl,x2,q2,_,d2,_,_,rfl,o2,T.bq,T.bA,rfl,om _ _,_,rfl,?_⟩;simp only[e1,e2,ay c]at hJ;by_cases c3:pc.old=qc.new
    ·rw[jP (jn.mpr c3)];simp only[ay c3]at hJ;refine fu ⟨_,ts,acc,rfl,Ag,hC,by omega,K4,G5,?_⟩;rw[hJ];simp
    ·rw[i_ (λz=>c3 (jn.mp z))];simp only[aq c3]at hJ;refine dF ?_;refine⟨_,rfl,.inl ⟨rfl,_,aX.of Ag⟩,_,rfl,_,rfl,_,rfl,db,_,rfl,x1,q1,_,d1,_,_,rfl,o1,T.bq,T.dY,rfl,_,rfl,_,rfl,dh,_,rfl,x2,q2,_,d2,_,_,rfl,o2,T.bq,T.bA,rfl,λq dq pN KU hne=>?_⟩;refine⟨q,dq,_,_,_,rfl,af,λH5 h5 K5=>⟨rfl,?_⟩⟩;have S5:az H4 H5:=λb o e=>K5 b o (by rw[ai (aj e pN),ai (aj e KU)];exact e) (by simpa using aj e pN)
     refine⟨D,_,_,rfl,rfl,S5 _ _ Ag,hlen,?_⟩;obtain⟨f1,f2,f3⟩:=BE (c:={key:=k,old:=pc.old,new:=qc.new}) (S5 _ _ Ag) (hC.same S5) ⟨dq,h5⟩;have f3:=(aH.of S5).trans f3
     refine⟨_,ts++[q],acc++[_],rfl,f1,f2,by simp;omega,(kp f3).1,(kp f3).2,?_⟩;rw[hJ];simp only[Option.map_map];congr 1;funext x;simp
   ·rw[i_ (λz=>c (jn.mp z))];refine dF ?_;simp only[e1,e2,aq c]at hJ;exact kN (by rw[hj,hJ];rfl) H4 λb o e=>K4 _ _ (S2 _ _ e) (by simpa using aj e nD)
 ·rintro σ H4 ⟨v,ts,acc,rfl,Ag,hC,hacc,K4,G5,hJ⟩
  rw[aO,aO,List.drop_length]at hJ;exact⟨_,rfl,kS acc (by rw[hj,hJ];simp[SM.jr]) H4 D ts nD Ag hC λb o e=>K4 _ _ (S2 _ _ e) (by simpa using aj e nD)⟩
def Ut.keep{M wl cl:Addr}(h:Ut a H M wl cl)(k:aH S H H')(hS:M∉S):Ut a H' M wl cl:=by
 obtain⟨dx,e⟩:=h;exact⟨dx,k _ _ e hS⟩
inductive WMg(a:Ad)(l1 l2 db dh M wl cl sl:Addr)(c1 c2:List Ch)(ks:List Nat)(H2:Hp)(m:Nat)(σ:L2.St)(H4:Hp):Prop
 |mk (v:Option V) (ts us:List Addr) (_:σ=[some (.ref l1),some (.ref l2),some (.ref db),some (.ref dh),some (.ref M),v]) (_:Ut a H4 M wl cl) (_:H4 wl=some (.lst (ts.map V.ref))) (_:oj H4 ts ((ks.take m).filterMap (SM.j0 c1 c2))) (_:H4 cl=some (.lst (us.map V.ref))) (_:Jh a H4 us ((ks.take m).filterMap (SM.j3 c1 c2))) (_:aH [wl,cl] H2 H4) (_:H4 sl=some (.lst ((ks.map (λn:Nat=>(n:Int))).map V.int)))
def Oz(T:Txt K mg a):aT P w K mg base cR 3 a.merged.1 a.merged.2 ["first","second"] (Rg a):=by
 refine T.merged.F.ok qI (λvs H Q E h=>?_) (λcdv A outer s0 H vs Q E hr h=>?_)
 ·obtain⟨l1,l2,AV,wJ,c1,c2,U,rfl,_⟩:=h;rfl
 obtain⟨l1,l2,AV,wJ,c1,c2,U,rfl,hl1,hl2,C1,C2,k1,k2,U1,U2,hU0,kk⟩:=h;have hu:=nY hr
 have z1:c1.length<=4000:=by
  have:=SM.bP (SM.cT k1) (b:=U) λk hk=>by obtain⟨c,hc,rfl⟩:=br.mp hk;exact U1 c hc
  rw[aO]at this;omega
 have z2:c2.length<=4000:=by
  have:=SM.bP (SM.cT k2) (b:=U) λk hk=>by obtain⟨c,hc,rfl⟩:=br.mp hk;exact U2 c hc
  rw[aO]at this;omega
 refine⟨_,(ak (aJ (i:=2) qI.nd rfl (Or.inl rfl) (aF (vp T) hr.lt rfl T.iX.m T.iX.F.kp T.iX.b .nil aA (aa (pv 0) ah))) (ak (aJ (i:=3) qI.nd rfl (Or.inl rfl) (aF (vp T) hr.lt rfl T.iX.m T.iX.F.kp T.iX.b .nil aA (aa (pv 1) ah))) (ak (aJ (i:=4) qI.nd rfl (Or.inl rfl) (CT T.LO (Cj T) hr.lt rfl T.LN T.gC.b .nil aA)) (ak (jf kE rfl (i6 (aV (rF rfl) rfl T.C9 rfl (aa (cU KS (kZ (yY rfl) rfl T.Ek rfl (aa (pv 2) ah)) (kZ (yY rfl) rfl T.Ek rfl (aa (pv 3) ah))) ah))) (b_ (i:=5) qI.nd rfl (Or.inl rfl))
   (ao (bx (bf (nX hu (pv 5) (pv 3))) (ao (bQ (kF kD pG pF gA (au (pv 4) rfl) (aa (j7 (aa (pv 5) (aa (au (gQ hu (pv 2) (pv 5) (λ_ _=>rfl)) rfl) ah))) ah))))
    (ao (bx (PW.pt (t_ (bf (nX hu (pv 5) (pv 2))) (qE (jw yP (au (gQ hu (pv 2) (pv 5) (λ_ _=>rfl)) rfl) (au (gQ hu (pv 3) (pv 5) (λ_ _=>rfl)) rfl) rfl))))
     (ao (bQ (kF kD pG pF gA (au (pv 4) rfl) (aa (j7 (aa (pv 5) (aa (au (gQ hu (pv 3) (pv 5) (λ_ _=>rfl)) rfl) ah))) ah))))
     (ao (bQ (kF kD pG pF gA (au (pv 4) rfl) (aa (l5 T.JD (Ay T) hr.lt rfl T.JC T.fU.b .nil aA (aa (pv 5) (aa (au (gQ hu (pv 2) (pv 5) (λ_ _=>rfl)) rfl) (aa (au (gQ hu (pv 2) (pv 5) (λ_ _=>rfl)) rfl) (aa (au (gQ hu (pv 3) (pv 5) (λ_ _=>rfl)) rfl) ah))))) ah))))))))) (ao (aC (pv 4))))))),?_⟩
 refine⟨_,rfl,l1,AV,c1,rfl,hl1,C1,k1,by omega,λH0 db hdb b0 S0=>?_⟩;refine⟨_,rfl,l2,wJ,c2,rfl,S0 _ _ hl2,C2.same S0,k2,by omega,λH1 dh R0 h1 S1=>?_⟩;have b1:=S1 _ _ b0
 have Ox:=S0.trans S1;intro M dM hM hdM aeZ;refine⟨M,dM,rfl,af,λwl cl H2 nwc hM2 hwl hcl OA hc2 K2=>⟨rfl,?_⟩⟩;have wL:az H1 H2:=λb o e=>K2 b o (by rw[ai (aj e hM),ai (aj e hdM)];exact e) (by simpa using aj e hM)
 have b2:=wL _ _ b1;have h2:=wL _ _ h1
 have S2:=Ox.trans wL;have fr:∀{b},L2.upd (L2.upd H1 dM (.own M)) M (.ins a.gB dM []) b=none->H b=none:=λ{b} hb=>by
  have a1:b≠M:=λz=>by rw[z,af]at hb;cases hb
  have a2:b≠dM:=λz=>by rw[ai a1,z,af]at hb;cases hb
  rw[ai a1,ai a2]at hb;exact Ox.free hb
 have nw:=fr hwl;have nc:=fr hcl
 have hU:(U.map (λn:Nat=>(n:Int))).length<=4000:=by simpa using hU0
 refine⟨_,rfl,db,_,(c1.map (·.key)).map (λn:Nat=>(n:Int)),U.map (λn:Nat=>(n:Int)),rfl,b2,BD C1,pB U1,hU,λsa hsa=>?_⟩;refine⟨_,rfl,dh,_,(c2.map (·.key)).map (λn:Nat=>(n:Int)),U.map (λn:Nat=>(n:Int)),rfl,az.new hsa _ _ h2,BD C2,pB U2,hU,λsb hsb=>?_⟩;have nab:sa≠sb:=aj af hsb
 refine⟨sa,sb,(c1.map (·.key)).map (λn:Nat=>(n:Int)),(c2.map (·.key)).map (λn:Nat=>(n:Int)),U.map (λn:Nat=>(n:Int)),rfl,rfl,nab,(by rw[ai nab];exact af),af,pB U1,pB U2,hU,λsc hsc=>?_⟩;refine⟨sc,_,rfl,af,λns sl hp hm hsl=>?_⟩;rw[<- jO]at hm;obtain⟨ks,rfl,Jg,R4⟩:=GD hp hm;have Lo:∀k,k∈ks↔k∈c1.map (·.key)\/k∈c2.map (·.key):=λk=>by rw[R4 k,dg]
 obtain⟨hj1,hj2⟩:=SM.uT (n:=c1.length+c2.length+1) (by omega) k1 k2 Jg Lo;have nsw:sl≠wl:=(aj (((az.new hsa).trans ((az.new hsb).trans (az.new hsc))) _ _ OA) hsl).symm
 have nsc:sl≠cl:=(aj (((az.new hsa).trans ((az.new hsb).trans (az.new hsc))) _ _ hc2) hsl).symm;have hkl:ks.length<=4000:=by
  have:=SM.bP (SM.cT Jg) (b:=U) λk hk=>by
   rcases(Lo k).mp hk with h|h
   ·obtain⟨c,hc,rfl⟩:=br.mp h;exact U1 c hc
   ·obtain⟨c,hc,rfl⟩:=br.mp h;exact U2 c hc
  omega
 refine⟨sl,rfl,⟨_,aX.of af⟩,jT (K:=K) (xs:=(ks.map (λn:Nat=>(n:Int))).map V.int) (WMg a l1 l2 db dh M wl cl sl c1 c2 ks H2)
  ⟨none,[],[],rfl,⟨dM,((az.new hsa).trans ((az.new hsb).trans ((az.new hsc).trans (az.new hsl)))) _ _ hM2⟩,((az.new hsa).trans ((az.new hsb).trans ((az.new hsc).trans (az.new hsl)))) _ _ OA,.nil,((az.new hsa).trans ((az.new hsb).trans ((az.new hsc).trans (az.new hsl)))) _ _ hc2,.nil,aH.of ((az.new hsa).trans ((az.new hsb).trans ((az.new hsc).trans (az.new hsl)))),af⟩ (λm σ H4 _ h0=>by obtain⟨_,_,_,_,_,_,_,_,_,_,e⟩:=h0;exact aX.of e) ?_ ?_⟩
 ·rintro m x σ H4 hx ⟨v,ts,us,rfl,Qa,En,hW,hc4,hC,K4,G5⟩
  rw[fj,fj]at hx;obtain⟨_,hq',rfl⟩:=f_.mp hx;obtain⟨k,hq,rfl⟩:=f_.mp hq';have b4:=K4 _ _ b2 (by simp[bh b2 OA (by intro z;cases z),bh b2 hc2 (by intro z;cases z)])
  have h4:=K4 _ _ h2 (by simp[bh h2 OA (by intro z;cases z),bh h2 hc2 (by intro z;cases z)]);have nC:∀b∈ [wl,cl],∀dx fs,H2 b≠some (.ins a.fy dx fs):=λb hb dx fs z=>by
   simp only[bN,List.mem_nil_iff,or_false]at hb;rcases hb with hb|hb
   ·rw[hb,OA]at z;cases z
   ·rw[hb,hc2]at z;cases z
  have YU:mY a H4 AV c1:=(C1.same S2).keep K4 nC;have YV:mY a H4 wJ c2:=(C2.same S2).keep K4 nC
  obtain⟨g1,VN⟩:=Gj YU k;obtain⟨g2,VO⟩:=Gj YV k;have hml:m<ks.length:=(iu.mp hq).1
  have hkm:k∈c1.map (·.key)\/k∈c2.map (·.key):=(Lo k).mp (l_ hq);have tl:(ks.take m).length<=4000:=by rw[lG];omega
  have zw:(ts.map V.ref).length<sizeLine:=by
   have:=hW.len;have:=EZ (SM.j0 c1 c2) (ks.take m);rw[aO];exact eZ (by omega)
  have zc:(us.map V.ref).length<sizeLine:=by
   have:=hC.len;have:=EZ (SM.j3 c1 c2) (ks.take m);rw[aO];exact eZ (by omega)
  obtain⟨dm,Gk⟩:=Qa;have nMw:M≠wl:=bh Gk En (by intro z;cases z)
  have nMc:M≠cl:=bh Gk hc4 (by intro z;cases z);have addW:∀(y:Option Int) (t:Addr),H4 t=none->SM.j0 c1 c2 k=some (k,y)->SM.j3 c1 c2 k=none->∀v,WMg a l1 l2 db dh M wl cl sl c1 c2 ks H2 (m+1) [some (V.ref l1),some (.ref l2),some (.ref db),some (.ref dh),some (.ref M),v] (L2.upd (L2.upd H4 t (.tup [.int (k:Int),oh y])) wl (.lst (ts.map V.ref++[.ref t]))):=λy t ht e1 e2 v=>by
   have S5:az H4 (L2.upd H4 t (.tup [.int (k:Int),oh y])):=az.new ht;obtain⟨f1,f2,f3⟩:=To (c:=(k,y)) (S5 _ _ En) (hW.same S5) af;refine⟨v,ts++[t],us,rfl,⟨dm,f3 _ _ (S5 _ _ Gk) (by simpa using nMw)⟩,f1,?_,f3 _ _ (S5 _ _ hc4) (by simpa using nwc.symm),?_,K4.trans ((aH.of S5).trans (f3.mono (by simp))),f3 _ _ (S5 _ _ G5) (by simpa using nsw)⟩
   ·rw[take_snoc hq,Eh,show [k].filterMap (SM.j0 c1 c2)=[(k,y)]by simp[e1]];exact f2
   ·rw[take_snoc hq,Eh,show [k].filterMap (SM.j3 c1 c2)=[]by simp[e2],nP];refine(hC.same S5).keep f3 λb hb dx fs z=>?_
    rw[cY.mp hb,S5 _ _ En]at z;cases z
  refine⟨_,rfl,_,rfl,dh,_,rfl,gx.k (k:=Sum.inl (k:Int)) h4,_,rfl,?_⟩;rcases Uu hkm with⟨e2,pc,e1⟩|⟨e1,qc,e2⟩|⟨pc,qc,e1,e2⟩
  ·rw[g2 e2];refine dF ?_;obtain⟨q1,v1,d1,o1⟩:=VN pc e1;refine⟨_,rfl,M,_,dm,_,_,rfl,Gk,T.iI,T.gr,rfl,.inl ⟨rfl,_,aX.of En⟩,_,rfl,_,rfl,_,rfl,db,_,rfl,v1▸gx.k (k:=Sum.inl (k:Int)) b4,q1,_,d1,_,_,rfl,o1,T.bq,T.bA,rfl,iY,λt ht=>?_⟩;refine⟨wl,_,_,rfl,rfl,(by rw[ai (aj En ht)];exact En),zw,?_⟩;exact addW pc.new t ht (by unfold SM.j0;rw[e1,e2]) (by unfold SM.j3;rw[e1,e2]) _
  ·obtain⟨q2,v2,d2,o2⟩:=VO qc e2;rw[v2];refine fu ?_;refine⟨_,rfl,_,rfl,db,_,rfl,gx.k (k:=Sum.inl (k:Int)) b4,_,rfl,?_⟩;rw[g1 e1];refine dF (dF ?_);refine⟨_,rfl,M,_,dm,_,_,rfl,Gk,T.iI,T.gr,rfl,.inl ⟨rfl,_,aX.of En⟩,_,rfl,_,rfl,_,rfl,dh,_,rfl,v2▸gx.k (k:=Sum.inl (k:Int)) h4,q2,_,d2,_,_,rfl,o2,T.bq,T.bA,rfl,iY,λt ht=>?_⟩;refine⟨wl,_,_,rfl,rfl,(by rw[ai (aj En ht)];exact En),zw,?_⟩;exact addW qc.new t ht (by unfold SM.j0;rw[e1,e2]) (by unfold SM.j3;rw[e1]) _
  ·obtain⟨q1,v1,d1,o1⟩:=VN pc e1;obtain⟨q2,v2,d2,o2⟩:=VO qc e2;rw[v2];refine fu ?_;refine⟨_,rfl,_,rfl,db,_,rfl,gx.k (k:=Sum.inl (k:Int)) b4,_,rfl,?_⟩;rw[v1];refine fu ?_;have x1:gx H4 db (kV (Sum.inl (k:Int))) (some (.ref q1)):=v1▸gx.k (k:=Sum.inl (k:Int)) b4
   have x2:gx H4 dh (kV (Sum.inl (k:Int))) (some (.ref q2)):=v2▸gx.k (k:=Sum.inl (k:Int)) h4;refine⟨_,rfl,_,rfl,db,_,rfl,x1,q1,_,d1,_,_,rfl,o1,T.bq,T.bA,rfl,_,rfl,_,rfl,dh,_,rfl,x2,q2,_,d2,_,_,rfl,o2,T.bq,T.bA,rfl,om _ _,_,rfl,?_⟩;by_cases c:pc.new=qc.new
   ·rw[jP (jn.mpr c)];refine dF ?_;refine⟨_,rfl,M,_,dm,_,_,rfl,Gk,T.iI,T.gr,rfl,.inl ⟨rfl,_,aX.of En⟩,_,rfl,_,rfl,_,rfl,dh,_,rfl,x2,q2,_,d2,_,_,rfl,o2,T.bq,T.bA,rfl,iY,λt ht=>?_⟩;refine⟨wl,_,_,rfl,rfl,(by rw[ai (aj En ht)];exact En),zw,?_⟩;exact addW qc.new t ht (by unfold SM.j0;rw[e1,e2];exact ay c) (by unfold SM.j3;rw[e1,e2];exact ay c) _
   ·rw[i_ (λz=>c (jn.mp z))];refine fu ?_;refine⟨_,rfl,M,_,dm,_,_,rfl,Gk,T.iI,T.iJ,rfl,.inl ⟨rfl,_,aX.of hc4⟩,_,rfl,_,rfl,_,rfl,db,_,rfl,x1,q1,_,d1,_,_,rfl,o1,T.bq,T.dY,rfl,_,rfl,_,rfl,db,_,rfl,x1,q1,_,d1,_,_,rfl,o1,T.bq,T.bA,rfl,_,rfl,_,rfl,dh,_,rfl,x2,q2,_,d2,_,_,rfl,o2,T.bq,T.bA,rfl,λq dq pN KU hne=>?_⟩;refine⟨q,dq,_,_,_,_,rfl,af,λH5 h5 K5=>⟨rfl,?_⟩⟩;have S5:az H4 H5:=λb o e=>K5 b o (by rw[ai (aj e pN),ai (aj e KU)];exact e) (by simpa using aj e pN)
    refine⟨cl,_,_,rfl,rfl,S5 _ _ hc4,zc,?_⟩;obtain⟨f1,f2,f3⟩:=Tn (c:={key:=k,base:=pc.old,one:=pc.new,two:=qc.new}) (S5 _ _ hc4) (hC.same S5) ⟨dq,h5⟩;refine⟨_,ts,us++[q],rfl,⟨dm,f3 _ _ (S5 _ _ Gk) (by simpa using nMc)⟩,f3 _ _ (S5 _ _ En) (by simpa using nwc),?_,f1,?_,K4.trans ((aH.of S5).trans (f3.mono (by simp))),f3 _ _ (S5 _ _ G5) (by simpa using nsc)⟩
    ·rw[take_snoc hq,Eh,show [k].filterMap (SM.j0 c1 c2)=[]by simp[show SM.j0 c1 c2 k=none by unfold SM.j0;rw[e1,e2];exact aq c],nP];refine(hW.same S5).keep f3 λb hb xs z=>?_
     rw[cY.mp hb,S5 _ _ hc4]at z;cases z
    ·rw[take_snoc hq,Eh,show [k].filterMap (SM.j3 c1 c2)=[_]by simp[show SM.j3 c1 c2 k=some {key:=k,base:=pc.old,one:=pc.new,two:=qc.new}by unfold SM.j3;rw[e1,e2];exact aq c];rfl];exact f2
 ·rintro σ H4 ⟨v,ts,us,rfl,Qa,En,hW,hc4,hC,K4,G5⟩
  rw[aO,aO,i9]at hW hC;rw[<- hj1]at hW;rw[<- hj2]at hC;exact⟨_,rfl,kk H4 M wl cl ts us nw nc Qa En hW hc4 hC λb o e=>K4 _ _ (S2 _ _ e) (by simp[aj e nw,aj e nc])⟩
def fits(h1: -(2^62)<=x)(h2:x<2^62):Builtin.Range.rangeFitsLong x=true:=by
 unfold Builtin.Range.rangeFitsLong;rw[jP (by omega),jP (by omega)];rfl
def rg5(h:n<2^40)(hd:n%5=0):Uc 0 (n:Int) 5 (n/5):=by
 have e:Builtin.Range.rangeSize 0 (n:Int) 5=((n/5:Nat):Int):=by
  rw[PyProof.Rows.rangeSize_pos (by omega) (by omega)];omega
 refine⟨by decide,by decide,?_,e⟩;unfold Builtin.Range.small;rw[e];have hm:n/5<=n:=Nat.div_le_self _ _
 generalize n/5=m at *;simp[fits (show -(2^62)<=(0:Int)by decide) (by decide),fits (show -(2^62)<=(5:Int)by decide) (by decide),fits (show -(2^62)<=(n:Int)by omega) (by omega)];exact⟨fits (by omega) (by omega),.inr (fits (by omega) (by omega))⟩
def rg2(h:n<2^40)(hd:n%2=0):Uc 0 (n:Int) 2 (n/2):=by
 have e:Builtin.Range.rangeSize 0 (n:Int) 2=((n/2:Nat):Int):=by
  rw[PyProof.Rows.rangeSize_pos (by omega) (by omega)];omega
 refine⟨by decide,by decide,?_,e⟩;unfold Builtin.Range.small;rw[e];have hm:n/2<=n:=Nat.div_le_self _ _
 generalize n/2=m at *;simp[fits (show -(2^62)<=(0:Int)by decide) (by decide),fits (show -(2^62)<=(2:Int)by decide) (by decide),fits (show -(2^62)<=(n:Int)by omega) (by omega)];exact⟨fits (by omega) (by omega),.inr (fits (by omega) (by omega))⟩
noncomputable def told (p v:Int):Bool:=if p=0 then decide (v=0)else decide (p=1)&&valueIn v
inductive RN(f:Int->Bool)(vs:List V)(H:Hp)(Q:VK)(gc:XK):Prop
 |mk (x:_) (_:vs=[.int x]) (_:Q (.bl (f x)) H)
inductive VP(vs:List V)(H:Hp)(Q:VK)(gc:XK):Prop
 |mk (x:_) (y:_) (_:vs=[.int x,.int y]) (_:Q (.bl (told x y)) H)
inductive JI(vs:List V)(H:Hp)(Q:VK)(gc:XK):Prop
 |mk (x:_) (y:_) (_:vs=[.int x,.int y]) (_:Q (oh (if x=1 then some y else none)) H)
def Row(H:Hp)(q:Addr)(row:List Int):Prop:=H q=some (.lst (row.map V.int))
inductive Qc(f:List Int->Bool)(vs:List V)(H:Hp)(Q:VK)(gc:XK):Prop
 |mk (q:_) (row:_) (_:vs=[.ref q]) (_:Row H q row) (_:row.length<1000000) (_:∀H',az H H'->Q (.bl (f row)) H')
def yb{k x0 y0 y:Int}:rowIn (k::x0::x::y0::y::r)=(keyIn k&&(told x0 x&&(told y0 y&&rowIn r))):=by
 have h:∀p v:Int,(Vbwsae.inR p 0 1&&(valueIn v&&(p==1||v==0)))=told p v:=λp v=>by
  unfold told Vbwsae.inR;by_cases c0:p=0
  ·subst c0;by_cases c1:v=0
   ·subst c1;decide
   ·simp[c1]
  ·by_cases c1:p=1
   ·subst c1;simp
   ·have:¬(0<=p/\p<=1):=by omega
    have e:(decide (0<=p)&&decide (p<=1))=false:=by
     rw[vG];intro z;simp at z;omega
    rw[e,aq c0,i_ c1];rfl
 rw[<- h x0 x,<- h y0 y];simp only[rowIn];generalize keyIn k=a,Vbwsae.inR x0 0 1=b,valueIn x=c,Vbwsae.inR y0 0 1=d,valueIn y=e,(x0==1||x==0)=f,(y0==1||y==0)=g,rowIn r=i;revert a b c d e f g i;decide
theorem GF:∀(r:List Int),r.length%5≠0->rowIn r=false
 | [],h=>absurd rfl h
 | [_],_=>rfl
 | [_,_],_=>rfl
 | [_,_,_],_=>rfl
 | [_,_,_,_],_=>rfl
 |k::x0::x::y0::y::r,h=>by
  rw[yb,GF r (by simp at h;omega)];simp
def WU(h:5*i+4<row.length):∃k x0 x y0 y,row.drop (5*i)=k::x0::x::y0::y::row.drop (5*(i+1))/\row[5*i]? =some k/\row[5*i+1]? =some x0/\row[5*i+2]? =some x/\row[5*i+3]? =some y0/\row[5*i+4]? =some y:=by
 refine⟨row[5*i],row[5*i+1],row[5*i+2],row[5*i+3],row[5*i+4],?_,by simp,by simp,by simp,by simp,by simp⟩;rw[pD (show 5*i<row.length by omega),pD (show 5*i+1<row.length by omega),pD (show 5*i+1+1<row.length by omega),pD (show 5*i+1+1+1<row.length by omega),pD (show 5*i+1+1+1+1<row.length by omega),show 5*(i+1)=5*i+1+1+1+1+1 by omega]
def two(h:2*i+1<row.length):∃k x,row.drop (2*i)=k::x::row.drop (2*(i+1))/\row[2*i]? =some k/\row[2*i+1]? =some x:=by
 refine⟨row[2*i],row[2*i+1],?_,by simp,by simp⟩;rw[pD (by omega),pD h,show 2*i+1+1=2*(i+1)by omega]
def lI(h:row[j]? =some x){i:Int}(e:i=j):RX (row.map V.int) i=some (.int x):=by
 rw[e];exact aL (by rw[fj,h];rfl)
def Ah(T:Txt K mg a):aT P w K mg base cR 1 a.j8.1 a.j8.2 ["number"] (RN keyIn):=by
 refine T.j8.F.ok Oi (λvs H Q E h=>?_) (λcdv A outer s0 H vs Q E hr h=>?_)
 ·obtain⟨x,rfl,_⟩:=h;rfl
 obtain⟨x,rfl,kk⟩:=h;obtain⟨t1,g1⟩:=T.lO;refine⟨_,(ao (aC (xW vY vY aD (pv 0) (dj rfl g1)))),?_⟩;refine⟨_,rfl,_,_,rfl,rfl,_,rfl,?_⟩;unfold keyIn Vbwsae.inR at kk;refine gM cQ (λc=>?_) (λc=>?_)
 ·rw[jP c,rC]at kk;exact⟨_,_,rfl,rfl,kk⟩
 ·rw[i_ c,sr]at kk;exact kk
def uO(T:Txt K mg a):aT P w K mg base cR 1 a.gj.1 a.gj.2 ["number"] (RN valueIn):=by
 refine T.gj.F.ok Jz (λvs H Q E h=>?_) (λcdv A outer s0 H vs Q E hr h=>?_)
 ·obtain⟨x,rfl,_⟩:=h;rfl
 obtain⟨x,rfl,kk⟩:=h;obtain⟨t1,g1⟩:=T.EB;obtain⟨t2,g2⟩:=T.Av;refine⟨_,(ao (aC (xW vY vY (dj rfl g1) (pv 0) (dj rfl g2)))),?_⟩;refine⟨_,rfl,_,_,rfl,rfl,_,rfl,?_⟩;unfold valueIn Vbwsae.inR at kk;refine gM cQ (λc=>?_) (λc=>?_)
 ·rw[jP c,rC]at kk;exact⟨_,_,rfl,rfl,kk⟩
 ·rw[i_ c,sr]at kk;exact kk
def qT(T:Txt K mg a):aT P w K mg base cR 2 a.cV.1 a.cV.2 ["present","value"] VP:=by
 refine T.cV.F.ok Ao (λvs H Q E h=>?_) (λcdv A outer s0 H vs Q E hr h=>?_)
 ·obtain⟨x,y,rfl,_⟩:=h;rfl
 obtain⟨x,y,rfl,kk⟩:=h;refine⟨_,(ak (bx (bf (eL (pv 0) aD)) (ao (aC (B3 (eL (pv 1) aD)))) aN) (ao (aC (KD (B3 (eL (pv 0) aD)) (KC (aF (uO T) hr.lt rfl T.gj.m T.gj.F.kp T.gj.b .nil aA (aa (pv 1) ah))))))),?_⟩;refine⟨_,rfl,_,_,rfl,rfl,_,rfl,?_⟩;unfold told at kk;refine gM cQ (λc=>?_) (λc=>?_)
 ·rw[ay c]at kk;exact⟨_,rfl,_,_,rfl,rfl,kk⟩
 ·rw[aq c]at kk;refine⟨_,rfl,_,_,rfl,rfl,_,rfl,?_⟩;refine gM cQ (λc2=>?_) (λc2=>?_)
  ·rw[jP c2,rC]at kk;exact⟨_,rfl,_,rfl,kk⟩
  ·rw[i_ c2,sr]at kk;exact kk
def wM(T:Txt K mg a):aT P w K mg base cR 1 a.fH.1 a.fH.2 ["present","value"] JI:=by
 refine T.fH.F.ok Ey (λvs H Q E h=>?_) (λcdv A outer s0 H vs Q E hr h=>?_)
 ·obtain⟨x,y,rfl,_⟩:=h;rfl
 obtain⟨x,y,rfl,kk⟩:=h;refine⟨_,(ao (aC (jm (bf (eL (pv 0) aD)) (pv 1) yM))),?_⟩;refine⟨_,rfl,_,_,rfl,rfl,_,rfl,?_⟩;refine gM cQ (λc=>?_) (λc=>?_)
 ·rw[ay c]at kk;exact⟨_,rfl,kk⟩
 ·rw[aq c]at kk;exact kk
def Cm(T:Txt K mg a):aT P w K mg base cR 3 a.cZ.1 a.cZ.2 ["numbers"] (Qc diffIn):=by
 refine T.cZ.F.ok n8 (λvs H Q E h=>?_) (λcdv A outer s0 H vs Q E hr h=>?_)
 ·obtain⟨q,row,rfl,_⟩:=h;rfl
 obtain⟨q,row,rfl,hq,hz,kk⟩:=h;obtain⟨t1,g1⟩:=T.vA;obtain⟨t2,g2⟩:=T.sQ;have pN:H q=some (.lst (row.map V.int)):=hq
 refine⟨_,(ak (bx (PW.pt (t_ (bf (Ld (aV bg rfl T.iy rfl (aa (pv 0) ah)) (dj rfl g1))) (qE (bf (Kz (cU KI (aV bg rfl T.iy rfl (aa (pv 0) ah)) (dj rfl g2)) aD))))) (ao (aC k9)) aN) (ak (jf kE rfl (vc rfl T.ue (aa aD (aa (aV bg rfl T.iy rfl (aa (pv 0) ah)) (aa (dj rfl g2) ah)))) (b_ (i:=1) n8.nd rfl (Or.inl rfl))
   (ak (bx (jJ (fD (aF (Ah T) hr.lt rfl T.j8.m T.j8.F.kp T.j8.b .nil aA (aa (a_ aK (pv 0) (pv 1) (λ_ _=>rfl)) ah)))) (ao (aC k9)) aN) (ak (bx (jJ (fD (aF (qT T) hr.lt rfl T.cV.m T.cV.F.kp T.cV.b .nil aA (aa (a_ aK (pv 0) (cU ig (pv 1) aD) (λ_ _=>rfl)) (aa (a_ aK (pv 0) (cU ig (pv 1) aD) (λ_ _=>rfl)) ah))))) (ao (aC k9)) aN) (ao (bx (jJ (fD (aF (qT T) hr.lt rfl T.cV.m T.cV.F.kp T.cV.b .nil aA (aa (a_ aK (pv 0) (cU ig (pv 1) aD) (λ_ _=>rfl)) (aa (a_ aK (pv 0) (cU ig (pv 1) aD) (λ_ _=>rfl)) ah))))) (ao (aC k9)) aN))))) (ao (aC k9)))),?_⟩
 have kk:=kk H (az.refl _);unfold diffIn at kk;refine⟨_,rfl,q,_,rfl,.inl (aX.of pN),_,_,rfl,rfl,_,rfl,?_⟩;rw[aO];refine gM cQ (λc=>dF ?_) (λc=>?_)
 ·rw[i_ (show¬row.length<=5*CHANGES by show¬row.length<=500;omega),sr]at kk;exact kk
 rw[jP (show row.length<=5*CHANGES by show row.length<=500;omega),rC]at kk;refine⟨_,rfl,q,_,rfl,.inl (aX.of pN),_,_,rfl,rfl,(by show(0:Int)< 5;decide),_,_,rfl,rfl,_,rfl,?_⟩;rw[aO];by_cases hm:row.length%5=0
 ·refine gM (c:=False) (by simp;omega) (λz=>z.elim) (λ_=>?_);refine⟨_,rfl,q,_,rfl,.inl (aX.of pN),_,_,_,row.length/5,rfl,?_,?_⟩
  ·rw[aO];exact rg5 (by omega) hm
  refine w6 (λi σ H2=>H2=H/\∃v,σ=[some (.ref q),v]/\rowIn row=rowIn (row.drop (5*i))) ⟨rfl,none,rfl,rfl⟩ ?_ ?_
  ·rintro i σ H2 hi ⟨rfl,v,rfl,hR⟩
   obtain⟨k,x0,x,y0,y,e,e0,e1,e2,e3,e4⟩:=WU (row:=row) (i:=i) (by omega);rw[e,yb]at hR;rw[hR]at kk;refine⟨_,rfl,_,rfl,q,_,_,_,rfl,rfl,aX.of pN,lI e0 (by omega),_,rfl,_,rfl,?_⟩;cases ck:keyIn k
   ·refine dF ?_;rw[ck]at kk;exact kk
   refine fu ?_;rw[ck,rC]at kk hR;refine⟨_,rfl,_,rfl,_,_,rfl,rfl,q,_,_,_,rfl,rfl,aX.of pN,lI e1 (by omega),_,rfl,_,rfl,_,_,rfl,rfl,q,_,_,_,rfl,rfl,aX.of pN,lI e2 (by omega),_,_,rfl,_,rfl,?_⟩;cases ct:told x0 x
   ·refine dF ?_;rw[ct]at kk;exact kk
   refine fu ?_;rw[ct,rC]at kk hR;refine⟨_,rfl,_,rfl,_,_,rfl,rfl,q,_,_,_,rfl,rfl,aX.of pN,lI e3 (by omega),_,rfl,_,rfl,_,_,rfl,rfl,q,_,_,_,rfl,rfl,aX.of pN,lI e4 (by omega),_,_,rfl,_,rfl,?_⟩;cases cu:told y0 y
   ·refine dF ?_;rw[cu]at kk;exact kk
   refine fu ?_;rw[cu,rC]at hR;exact⟨rfl,_,rfl,hR⟩
  ·rintro σ H2 ⟨rfl,v,rfl,hR⟩
   rw[BG (by omega)]at hR;rw[hR]at kk;exact kk
 ·refine gM (c:=True) (by simp;omega) (λ_=>?_) (λz=>(z trivial).elim);rw[GF row hm]at kk;exact kk
def OB{lo c:Int}{n:Nat}{g:TG}{tt:TT}{te:TE}{vs:List Nat}{σ:L2.St}{H1:Hp}{D:Addr}{Qd:Hp->Prop}(Pv:Nat->Hp->Prop)(h0:Pv 0 (upd H1 D (.lst [])))
  (hs:∀i H,i<n->Pv i H->g (.int (lo+(i:Nat)*c)) (wipe σ vs) H λσ2 H2=>wipe σ2 vs=wipe σ vs/\tt σ2 H2 λb H3=>
   if b=true then te σ2 H3 λy H4=>∃acc,H4 D=some (.lst acc)/\acc.length<sizeLine/\Pv (i+1) (upd H4 D (.lst (acc++[y])))else Pv (i+1) H3) (hd:∀H,Pv n H->Qd H):
  ∃W:Nat->Nat->Hp->Prop,(∃m,W 0 m (upd H1 D (.lst [])))/\∀i m H,W i m H->
   ((P0 lo c n).stop i H/\Qd H)\/((P0 lo c n).go i H/\∃Nx:Hp->Prop,(∀H',Nx H'->∃m',m'<m/\W (i+1) m' H')/\∀x H',(P0 lo c n).El i H x H'->g x (wipe σ vs) H' λσ2 H2=>wipe σ2 vs=wipe σ vs/\tt σ2 H2 λb H3=>
    if b=true then te σ2 H3 λy H4=>∃acc,H4 D=some (.lst acc)/\acc.length<sizeLine/\Nx (upd H4 D (.lst (acc++[y])))else Nx H3):=by
 refine⟨λi m H=>m=n-i/\i<=n/\Pv i H,⟨n,by simp,fC _,h0⟩,?_⟩
 rintro i m H ⟨rfl,hi,p⟩
 by_cases hlt:i<n
 ·refine .inr ⟨hlt,Pv (i+1),λH' p'=>⟨n-(i+1),by omega,rfl,hlt,p'⟩,λx H' y=>?_⟩;obtain⟨e,y⟩:=y;subst e y;exact hs i _ hlt p
 ·have e:i=n:=by omega
  subst e;exact .inl ⟨bw _,hd H p⟩
noncomputable def jL:List Int->List (Int×Int)
 |k::x::r=>(k,x)::jL r
 |_=>[]
def YW(H:Hp)(qs:List Addr)(ps:List (Int×Int)):Prop:=eT (λq p=>H q=some (.tup [.int p.1,.int p.2])) qs ps
def JJ(row:List Int):∀{i:Nat} {k x:Int},row[2*i]? =some k->row[2*i+1]? =some x->(jL row).take (i+1)=(jL row).take i++[(k,x)]:=by
 induction row using jL.induct with
 |case1 k' x' r ih=>
  intro i k x h1 h2;cases i with
  |zero=>simp at h1 h2;subst h1 h2;simp[jL]
  |succ i=>
   have e1:r[2*i]? =some k:=by simpa[show 2*(i+1)=2*i+1+1 by omega]using h1
   have e2:r[2*i+1]? =some x:=by simpa[show 2*(i+1)+1=2*i+1+1+1 by omega]using h2
   simp[jL,ih e1 e2]
 |case2 r h=>
  intro i k x h1 h2
  match r,h with
  | [],_=>simp at h1
  | [y],_=>simp at h2
  |y::z::r,h=>exact absurd rfl (h y z r)
theorem rj:∀(row:List Int),(jL row).length=row.length/2
 | []=>rfl
 | [_]=>by simp[jL]
 |_::_::r=>by simp[jL,rj r];omega
inductive JK(vs:List V)(H:Hp)(Q:VK)(gc:XK):Prop
 |mk (q:_) (row:_) (_:vs=[.ref q]) (_:Row H q row) (_:row.length<1000000) (_:row.length%2=0) (_:∀H' D qs,H D=none->H' D=some (.lst (qs.map V.ref))->YW H' qs (jL row)->az H H'->Q (.ref D) H')
theorem Ai:∀(r:List Int),r.length%2≠0->pairsIn r=false
 | [],h=>absurd rfl h
 | [_],_=>rfl
 |k::x::r,h=>by
  simp only[pairsIn];rw[Ai r (by simp at h;omega)];simp
theorem Gm:∀(r:List Int),r.length%2=0->pairsIn r=((jL r).map λp=>keyIn p.1&&valueIn p.2).all id
 | [],_=>rfl
 | [_],h=>absurd h (by simp)
 |k::x::r,h=>by
  simp only[pairsIn,jL,dG,List.all_cons];rw[Gm r (by simp at h;omega)];simp[iN]
inductive EH(a:Ad)(vs:List V)(H:Hp)(Q:VK)(gc:XK):Prop
 |mk (q:_) (row:_) (_:vs=[.ref q]) (_:Row H q row) (_:row.length<1000000) (_:rowIn row=true) (_:∀H' D qs,H D=none->H' D=some (.lst (qs.map V.ref))->mY a H' qs (changesOf row)->az H H'->Q (.ref D) H')
def Tp(row:List Int):∀{i:Nat} {k x0 x y0 y:Int},row[5*i]? =some k->row[5*i+1]? =some x0->row[5*i+2]? =some x->row[5*i+3]? =some y0->row[5*i+4]? =some y->(changesOf row).take (i+1)=(changesOf row).take i++[{key:=k.toNat,old:=if x0=1 then some x else none,new:=if y0=1 then some y else none}]:=by
 induction row using Vbwsae.changesOf.induct with
 |case1 k' a' x' b' y' r ih=>
  intro i k x0 x y0 y h0 h1 h2 h3 h4;cases i with
  |zero=>simp at h0 h1 h2 h3 h4;subst h0 h1 h2 h3 h4;simp[changesOf]
  |succ i=>
   have e0:r[5*i]? =some k:=by simpa[show 5*(i+1)=5*i+1+1+1+1+1 by omega]using h0
   have e1:r[5*i+1]? =some x0:=by simpa[show 5*(i+1)+1=5*i+1+1+1+1+1+1 by omega]using h1
   have e2:r[5*i+2]? =some x:=by simpa[show 5*(i+1)+2=5*i+2+1+1+1+1+1 by omega]using h2
   have e3:r[5*i+3]? =some y0:=by simpa[show 5*(i+1)+3=5*i+3+1+1+1+1+1 by omega]using h3
   have e4:r[5*i+4]? =some y:=by simpa[show 5*(i+1)+4=5*i+4+1+1+1+1+1 by omega]using h4
   simp[changesOf,ih e0 e1 e2 e3 e4]
 |case2 r h=>
  intro i k x0 x y0 y h0 h1 h2 h3 h4
  match r,h with
  | [],_=>simp at h0
  | [_],_=>simp at h1
  | [_,_],_=>simp at h2
  | [_,_,_],_=>simp at h3
  | [_,_,_,_],_=>simp at h4
  |a1::a2::a3::a4::a5::r,h=>exact absurd rfl (h a1 a2 a3 a4 a5 r)
theorem fh:∀(row:List Int),(changesOf row).length=row.length/5
 | []=>rfl
 | [_]=>by simp[changesOf]
 | [_,_]=>by simp[changesOf]
 | [_,_,_]=>by simp[changesOf]
 | [_,_,_,_]=>by simp[changesOf]
 |_::_::_::_::_::r=>by simp[changesOf,fh r];omega
theorem Nc:∀{row:List Int},rowIn row=true->∀{i:Nat} {k:Int},row[5*i]? =some k->keyIn k=true
 |k'::a'::x'::b'::y'::r,h,i,k,e=>by
  rw[yb]at h;simp only[cB]at h;cases i with
  |zero=>simp at e;subst e;exact h.1
  |succ i=>exact Nc h.2.2.2 (i:=i) (by simpa[show 5*(i+1)=5*i+1+1+1+1+1 by omega]using e)
 | [],h,i,k,e=>by simp at e
 | [_],h,i,k,e=>by simp[rowIn]at h
 | [_,_],h,i,k,e=>by simp[rowIn]at h
 | [_,_,_],h,i,k,e=>by simp[rowIn]at h
 | [_,_,_,_],h,i,k,e=>by simp[rowIn]at h
def pC{k:Int}(h:keyIn k=true):((k.toNat:Nat):Int)=k/\k.toNat<2^40:=by
 unfold keyIn Vbwsae.inR at h;simp only[cB,k8]at h;omega
def wN(T:Txt K mg a):aT P w K mg base cR 1 a.fJ.1 a.fJ.2 ["numbers"] JK:=by
 refine T.fJ.F.ok pZ (λvs H Q E h=>?_) (λcdv A outer s0 H vs Q E hr h=>?_)
 ·obtain⟨q,row,rfl,_⟩:=h;rfl
 obtain⟨q,row,rfl,hq,hz,hm,kk⟩:=h;obtain⟨t2,g2⟩:=T.wG;have pN:H q=some (.lst (row.map V.int)):=hq
 refine⟨_,(ao (aC (vZ (own:=[("place",1)]) (te:=UD (pL (MO (UE K) (l9 0) (l9 1)) (pL (MO (UE K) (l9 0) (MO (PR λi j=>.int (i+j)) (l9 1) (tC (.int 1)))) xX))) rfl pZ.nd (vc rfl T.ue (aa aD (aa (aV bg rfl T.iy rfl (aa (pv 0) ah)) (aa (dj rfl g2) ah)))) (jU rfl) (λs H C cl fp=>b_ (i:=1) pZ.nd rfl (Or.inl rfl)) (λs H C cl fp=>qN)
  (λs H C cl fp=>j7 (aa (a_ aK (pv 0) (pv 1) (λ_ _=>rfl)) (aa (a_ aK (pv 0) (cU ig (pv 1) aD) (λ_ _=>rfl)) ah)))))),?_⟩
 refine⟨_,rfl,q,_,rfl,.inl (aX.of pN),_,_,_,row.length/2,rfl,?_,λD hD=>?_⟩
 ·rw[aO];exact rg2 (by omega) hm
 refine OB (λi H2=>∃ts:List Addr,H2 D=some (.lst (ts.map V.ref))/\YW H2 ts ((jL row).take i)/\az H H2) ⟨[],af,.nil,az.new hD⟩ ?_ ?_
 ·rintro i H2 hi ⟨ts,d9,hw,S⟩
  obtain⟨k,x,e,e0,e1⟩:=two (row:=row) (i:=i) (by omega);have hq2:=S _ _ pN
  refine⟨rfl,Iq ?_⟩;refine dF ?_;refine⟨_,rfl,_,rfl,q,_,_,_,rfl,rfl,aX.of hq2,lI e0 (by omega),_,rfl,_,rfl,_,_,rfl,rfl,q,_,_,_,rfl,rfl,aX.of hq2,lI e1 (by omega),iY,λt ht=>?_⟩;have hlen:=hw.len
  rw[lG,rj]at hlen;refine⟨ts.map V.ref,by rw[ai (aj d9 ht)];exact d9,?_,ts++[t],?_,?_,?_⟩
  ·rw[aO];exact eZ (by omega)
  ·rw[af,jO];rfl
  ·rw[JJ row e0 e1];have S1:aH [D] H2 (L2.upd (L2.upd H2 t (.tup [.int k,.int x])) D (.lst (ts.map V.ref++[.ref t]))):=(aH.new ht).trans (aH.upd (bU ..))
   refine(eT.imp hw λx y _ _ e=>S1 _ _ e ?_).append (.cons ?_ .nil)
   ·intro z;rw[cY.mp z,d9]at e;cases e
   ·rw[ai (aj d9 ht).symm,af]
  ·exact λb o e=>by rw[ai (aj e hD),ai (aj (S _ _ e) ht)];exact S _ _ e
 ·rintro H2 ⟨ts,d9,hw,S⟩
  rw[<- rj,i9]at hw;exact kk H2 D ts hD d9 hw S
def EI(T:Txt K mg a):aT P w K mg base cR 2 a.eE.1 a.eE.2 ["numbers"] (Qc λl=>decide (l.length<=200)&&pairsIn l):=by
 refine T.eE.F.ok lW (λvs H Q E h=>?_) (λcdv A outer s0 H vs Q E hr h=>?_)
 ·obtain⟨q,row,rfl,_⟩:=h;rfl
 obtain⟨q,row,rfl,hq,hz,kk⟩:=h;obtain⟨t1,g1⟩:=T.B_;obtain⟨t2,g2⟩:=T.wG;have pN:H q=some (.lst (row.map V.int)):=hq
 have kk:∀H',az H H'->Q (.bl (decide (row.length<=200)&&pairsIn row)) H':=kk;refine⟨_,(ak (bx (PW.pt (t_ (bf (Ld (aV bg rfl T.iy rfl (aa (pv 0) ah)) (dj rfl g1))) (qE (bf (Kz (cU KI (aV bg rfl T.iy rfl (aa (pv 0) ah)) (dj rfl g2)) aD))))) (ao (aC k9)) aN) (ao (aC (aV (PY rfl) rfl T.Ui rfl (aa (vZ (own:=[("pair",1)]) (te:=T7 (Lh (RN keyIn) [] E0 (pL (MO (RH K) (l9 1) (tC (.int 0))) xX)) (Lh (RN valueIn) [] E0 (pL (MO (RH K) (l9 1) (tC (.int 1))) xX))) rfl lW.nd (i6 (aF (wN T) hr.lt rfl T.fJ.m T.fJ.F.kp T.fJ.b .nil aA (aa (pv 0) ah))) (jU rfl) (λs H C cl fp=>b_ (i:=1) lW.nd rfl (Or.inl rfl)) (λs H C cl fp=>qN)
   (λs H C cl fp=>KD (aF (Ah T) hr.lt rfl T.j8.m T.j8.F.kp T.j8.b .nil aA (aa (a_ sL (pv 1) aD (λ_ _=>rfl)) ah)) (KC (aF (uO T) hr.lt rfl T.gj.m T.gj.F.kp T.gj.b .nil aA (aa (a_ sL (pv 1) aD (λ_ _=>rfl)) ah))))) ah))))),?_⟩
 refine⟨_,rfl,q,_,rfl,.inl (aX.of pN),_,_,rfl,rfl,_,rfl,?_⟩;rw[aO];refine gM cQ (λc=>dF ?_) (λc=>?_)
 ·have kk:=kk H (az.refl _);rw[i_ (show¬row.length<=200 by omega),sr]at kk;exact kk
 rw[jP (show row.length<=200 by omega),rC]at kk;refine⟨_,rfl,q,_,rfl,.inl (aX.of pN),_,_,rfl,rfl,(by show(0:Int)< 2;decide),_,_,rfl,rfl,_,rfl,?_⟩;rw[aO];by_cases hm:row.length%2=0
 ·refine gM (c:=False) (by simp;omega) (λz=>z.elim) (λ_=>?_);refine⟨_,rfl,q,row,rfl,hq,hz,hm,λH1 L qs hL YX hP S1=>?_⟩;refine⟨L,rfl,⟨_,aX.of YX⟩,λD hD=>?_⟩;rw[Gm row hm]at kk;refine Bv (K:=K) (xs:=qs.map V.ref) (λi H2=>H2 D=some (.lst ((((jL row).take i).map λp=>keyIn p.1&&valueIn p.2).map V.bl))/\aH [D] H1 H2) ⟨af,aH.new hD⟩ (λi H2 _ h=>aX.of (h.2 _ _ YX (by simpa using aj YX hD))) ?_ ?_
  ·rintro i x H2 hx ⟨d9,K2⟩
   rw[fj]at hx;obtain⟨t,ht,rfl⟩:=f_.mp hx;obtain⟨pp,hpp,hO⟩:=hP.get ht;have VQ:=K2 _ _ hO (by simpa using aj hO hD)
   refine⟨rfl,Iq ?_⟩;refine dF ?_;have hz2:((((jL row).take i).map λp=>keyIn p.1&&valueIn p.2).map V.bl).length<sizeLine:=by
    rw[aO,aO,lG,rj];exact eZ (by omega)
   have fin:∀b:Bool,b=(keyIn pp.1&&valueIn pp.2)->∃acc,H2 D=some (.lst acc)/\acc.length<sizeLine/\((L2.upd H2 D (.lst (acc++[.bl b]))) D=some (.lst ((((jL row).take (i+1)).map λp=>keyIn p.1&&valueIn p.2).map V.bl))/\aH [D] H1 (L2.upd H2 D (.lst (acc++[.bl b])))):=λb e=>by
    refine⟨_,d9,hz2,?_,K2.trans (aH.upd (bU ..))⟩;rw[af,take_snoc hpp,e];simp
   refine⟨_,rfl,t,_,_,_,rfl,rfl,mW.of VQ,aL (j:=0) rfl,_,rfl,_,rfl,?_⟩;cases ck:keyIn pp.1
   ·refine fu ?_;exact fin false (by rw[ck];rfl)
   ·refine dF ?_;exact⟨_,rfl,t,_,_,_,rfl,rfl,mW.of VQ,aL (j:=1) rfl,_,rfl,fin _ (by rw[ck];rfl)⟩
  ·rintro H2 ⟨d9,K2⟩
   rw[aO,hP.len,i9]at d9;exact⟨D,_,rfl,aX.of d9,kk H2 λb o e=>K2 _ _ (S1 _ _ e) (by simpa using aj (S1 _ _ e) hD)⟩
 ·refine gM (c:=True) (by simp;omega) (λ_=>?_) (λz=>(z trivial).elim);have kk:=kk H (az.refl _)
  rw[Ai row hm]at kk;exact kk
def k7(T:Txt K mg a):aT P w K mg base cR 3 a.bM.1 a.bM.2 ["numbers"] (EH a):=by
 refine T.bM.F.ok jK (λvs H Q E h=>?_) (λcdv A outer s0 H vs Q E hr h=>?_)
 ·obtain⟨q,row,rfl,_⟩:=h;rfl
 obtain⟨q,row,rfl,hq,hz,UI,kk⟩:=h;obtain⟨t2,g2⟩:=T.sQ;have pN:H q=some (.lst (row.map V.int)):=hq
 have hm:row.length%5=0:=Decidable.byContradiction λz=>by rw[GF row z]at UI;cases UI
 refine⟨_,(ak (aJ (i:=1) jK.nd rfl (Or.inl rfl) (bF ah)) (ak (jf kE rfl (vc rfl T.ue (aa aD (aa (aV bg rfl T.iy rfl (aa (pv 0) ah)) (aa (dj rfl g2) ah)))) (b_ (i:=2) jK.nd rfl (Or.inl rfl))
   (ak (aJ (i:=3) jK.nd rfl (Or.inl rfl) (aF (wM T) hr.lt rfl T.fH.m T.fH.F.kp T.fH.b .nil aA (aa (a_ aK (pv 0) (cU ig (pv 2) aD) (λ_ _=>rfl)) (aa (a_ aK (pv 0) (cU ig (pv 2) aD) (λ_ _=>rfl)) ah)))) (ak (aJ (i:=4) jK.nd rfl (Or.inl rfl) (aF (wM T) hr.lt rfl T.fH.m T.fH.F.kp T.fH.b .nil aA (aa (a_ aK (pv 0) (cU ig (pv 2) aD) (λ_ _=>rfl)) (aa (a_ aK (pv 0) (cU ig (pv 2) aD) (λ_ _=>rfl)) ah)))) (ao (bQ (kF kD pG pF gA (pv 1) (aa (l5 T.vj (lP T) hr.lt rfl T.vh T.fz.b .nil aA (aa (a_ aK (pv 0) (pv 2) (λ_ _=>rfl)) (aa (pv 3) (aa (pv 4) ah)))) ah))))))) (ao (aC (pv 1))))),?_⟩
 refine⟨fC _,λD hD=>?_⟩;have hqD:L2.upd H D (.lst []) q=some (.lst (row.map V.int)):=az.new hD _ _ pN
 refine⟨_,rfl,q,_,rfl,.inl (aX.of hqD),_,_,_,row.length/5,rfl,?_,?_⟩
 ·rw[aO];exact rg5 (by omega) hm
 refine w6 (λi σ H2=>∃v1 v2 v3 ts,σ=[some (.ref q),some (.ref D),v1,v2,v3]/\H2 D=some (.lst (ts.map V.ref))/\mY a H2 ts ((changesOf row).take i)/\az H H2) ⟨none,none,none,[],rfl,af,.nil,az.new hD⟩ ?_ ?_
 ·rintro i σ H2 hi ⟨v1,v2,v3,ts,rfl,d9,hC,S⟩
  obtain⟨k,x0,x,y0,y,e,e0,e1,e2,e3,e4⟩:=WU (row:=row) (i:=i) (by omega);have hq2:=S _ _ pN
  obtain⟨kn,_⟩:=pC (Nc UI e0);refine⟨_,rfl,_,rfl,_,_,rfl,rfl,q,_,_,_,rfl,rfl,aX.of hq2,lI e1 (by omega),_,rfl,_,rfl,_,_,rfl,rfl,q,_,_,_,rfl,rfl,aX.of hq2,lI e2 (by omega),_,_,rfl,?_⟩;refine⟨_,rfl,_,rfl,_,_,rfl,rfl,q,_,_,_,rfl,rfl,aX.of hq2,lI e3 (by omega),_,rfl,_,rfl,_,_,rfl,rfl,q,_,_,_,rfl,rfl,aX.of hq2,lI e4 (by omega),_,_,rfl,?_⟩;refine⟨_,rfl,.inl ⟨rfl,_,aX.of d9⟩,_,rfl,_,rfl,q,_,_,_,rfl,rfl,aX.of hq2,lI e0 (by omega),_,rfl,_,rfl,λt dt ht hdt hne=>?_⟩;refine⟨t,dt,_,_,_,rfl,af,λH3 h3 K3=>⟨rfl,?_⟩⟩;have S3:az H2 H3:=λb o e=>K3 b o (by rw[ai (aj e ht),ai (aj e hdt)];exact e) (by simpa using aj e ht)
  have hlen:=hC.len;rw[lG,fh]at hlen;refine⟨D,_,_,rfl,rfl,S3 _ _ d9,by rw[aO];exact eZ (by omega),?_⟩;obtain⟨f1,f2,f3⟩:=BE (c:={key:=k.toNat,old:=if x0=1 then some x else none,new:=if y0=1 then some y else none}) (q:=t) (S3 _ _ d9) (hC.same S3) ⟨dt,by rw[h3];unfold cf;rw[kn]⟩;refine⟨_,_,_,ts++[t],rfl,f1,?_,λb o e=>f3 _ _ (S3 _ _ (S _ _ e)) (by simpa using aj e hD)⟩;rw[Tp row e0 e1 e2 e3 e4];exact f2
 ·rintro σ H2 ⟨v1,v2,v3,ts,rfl,d9,hC,S⟩
  rw[<- fh,i9]at hC;exact⟨_,rfl,kk H2 D ts hD d9 hC S⟩
inductive JL(vs:List V)(H:Hp)(Q:VK)(gc:XK):Prop
 |mk (o:_) (_:vs=[oh o]) (_:∀H' D,H D=none->Row H' D (optRow o)->az H H'->Q (.ref D) H')
inductive EJ(a:Ad)(vs:List V)(H:Hp)(Q:VK)(gc:XK):Prop
 |mk (l:Addr) (qs:List Addr) (cs:List Ch) (_:vs=[.ref l]) (_:H l=some (.lst (qs.map V.ref))) (_:mY a H qs cs) (_:cs.length<100000) (_:∀H' D,H D=none->Row H' D (counted cs.length (cs.flatMap changeRow))->az H H'->Q (.ref D) H')
noncomputable def mU (c:Cf):List Int:=(c.key:Int)::(optRow c.base++(optRow c.one++optRow c.two))
inductive Cn(a:Ad)(vs:List V)(H:Hp)(Q:VK)(gc:XK):Prop
 |mk (l:Addr) (qs:List Addr) (cs:List Cf) (_:vs=[.ref l]) (_:H l=some (.lst (qs.map V.ref))) (_:Jh a H qs cs) (_:cs.length<100000) (_:∀H' D,H D=none->Row H' D (counted cs.length (cs.flatMap mU))->az H H'->Q (.ref D) H')
inductive JM(vs:List V)(H:Hp)(Q:VK)(gc:XK):Prop
 |mk (l:Addr) (qs:List Addr) (ps:List (Nat×Int)) (_:vs=[.ref l]) (_:H l=some (.lst (qs.map V.ref))) (_:l6 H qs ps) (_:ps.length<100000) (_:∀H' D,H D=none->Row H' D (counted ps.length (ps.flatMap λp=>[(p.1:Int),p.2]))->az H H'->Q (.ref D) H')
noncomputable def GG:Option (Nat×Int)->List Int
 |none=>[0,0,0]
 |some p=>[1,(p.1:Int),p.2]
inductive HB(vs:List V)(H:Hp)(Q:VK)(gc:XK):Prop
 |mk (l:Addr) (qs:List Addr) (ps:List (Nat×Int)) (n:Nat) (_:vs=[.ref l,.int (n:Int)]) (_:H l=some (.lst (qs.map V.ref))) (_:l6 H qs ps) (_:∀H' D,H D=none->Row H' D (GG ps[n]?)->az H H'->Q (.ref D) H')
noncomputable def GH:SM.Nd->List Int
 | .leaf k x=>[1,(k:Int),x]
 | .fork b l r=>[2,(b:Int),l,r]
inductive L5(a:Ad)(vs:List V)(H:Hp)(Q:VK)(gc:XK):Prop
 |mk (q:Addr) (n:SM.Nd) (e:Nat) (_:vs=[.ref q]) (_:gp a H q n e) (_:∀H' D,H D=none->Row H' D (GH n)->az H H'->Q (.ref D) H')
def gk(o:Option Int):(optRow o).length=2:=by cases o<;>rfl
def qJ(c:Ch):(changeRow c).length=5:=by simp[changeRow,gk]
def vq(c:Cf):(mU c).length=7:=by simp[mU,gk]
theorem iU{f:α->List Int}:∀{l:List α},(∀x,(f x).length=n)->(l.flatMap f).length=n*l.length
 | [],_=>by simp
 |x::l,h=>by rw[List.flatMap_cons,gb,h x,iU h,cF,Nat.mul_succ];omega
def jR(T:Txt K mg a):aT P w K mg base cR 1 a.bH.1 a.bH.2 ["value"] JL:=by
 refine T.bH.F.ok Ez (λvs H Q E h=>?_) (λcdv A outer s0 H vs Q E hr h=>?_)
 ·obtain⟨o,rfl,_⟩:=h;rfl
 obtain⟨o,rfl,kk⟩:=h;refine⟨_,(ao (aC (jm (bf (KA (pv 0))) (bF (aa aD (aa aD ah))) (bF (aa aD (aa (pv 0) ah)))))),?_⟩;refine⟨_,rfl,?_⟩;cases o with
 |none=>exact⟨_,rfl,dF ⟨iY,λD hD=>kk _ D hD af (az.new hD)⟩⟩
 |some x=>exact⟨_,rfl,fu ⟨_,rfl,iY,λD hD=>kk _ D hD af (az.new hD)⟩⟩
def nJ(T:Txt K mg a):aT P w K mg base cR 2 a.cD.1 a.cD.2 ["changes"] (EJ a):=by
 refine T.cD.F.ok nt (λvs H Q E h=>?_) (λcdv A outer s0 H vs Q E hr h=>?_)
 ·obtain⟨l,qs,cs,rfl,_⟩:=h;rfl
 obtain⟨l,qs,cs,rfl,hl,hC,hz,kk⟩:=h;refine⟨_,(ak (aJ (i:=1) nt.nd rfl (Or.inl rfl) (bF (aa (aV bg rfl T.iy rfl (aa (pv 0) ah)) ah))) (ak (jf kE rfl (i6 (pv 0)) (b_ (i:=2) nt.nd rfl (Or.inl rfl))
   (ak (bQ (kF kD pG pF gA (pv 1) (aa (au (pv 2) rfl) ah))) (ak (bQ (kF kD Be Bc nW (pv 1) (aa (aF (jR T) hr.lt rfl T.bH.m T.bH.F.kp T.bH.b .nil aA (aa (au (pv 2) rfl) ah)) ah))) (ao (bQ (kF kD Be Bc nW (pv 1) (aa (aF (jR T) hr.lt rfl T.bH.m T.bH.F.kp T.bH.b .nil aA (aa (au (pv 2) rfl) ah)) ah))))))) (ao (aC (pv 1))))),?_⟩
 refine⟨_,rfl,l,_,rfl,.inl (aX.of hl),(by show 1<=sizeLine;decide),λD hD=>?_⟩;refine⟨_,rfl,l,rfl,⟨_,aX.of (az.new hD _ _ hl)⟩,jT (K:=K) (xs:=qs.map V.ref) (λi σ H2=>∃v,σ=[some (.ref l),some (.ref D),v]/\H2 D=some (.lst ((counted cs.length ((cs.take i).flatMap changeRow)).map V.int))/\az H H2) ⟨none,rfl,?_,az.new hD⟩ (λi σ H2 _ h0=>by obtain⟨_,_,_,S⟩:=h0;exact aX.of (S _ _ hl)) ?_ ?_⟩
 ·rw[af,aO,hC.len];rfl
 ·rintro i x σ H2 hx ⟨v,rfl,d9,S⟩
  rw[fj]at hx;obtain⟨q,hq,rfl⟩:=f_.mp hx;obtain⟨c,hcc,dx,hO⟩:=(hC.same S).get hq;have hlen:(counted cs.length ((cs.take i).flatMap changeRow)).length<=500001:=by
   rw[counted,cF,iU qJ,lG];omega
  have Qe:q≠D:=bh hO d9 (by intro z;cases z);refine⟨_,rfl,.inl ⟨rfl,_,aX.of d9⟩,_,rfl,q,_,dx,_,_,rfl,hO,T.bq,T.gW,rfl,D,_,_,rfl,rfl,d9,by rw[aO];exact eZ (by omega),?_⟩;refine⟨_,rfl,.inl ⟨rfl,_,aX.of af⟩,_,rfl,q,_,dx,_,_,rfl,(by rw[ai Qe];exact hO),T.bq,T.dY,rfl,c.old,rfl,λH3 D3 Af r3 S3=>?_⟩;have n3:D≠D3:=aj af Af
  refine⟨D,D3,_,_,rfl,rfl,S3 _ _ af,r3,?_,?_⟩
  ·rw[gb,aO,aO,gk];exact lH (eZ (by simp;omega))
  have WV:L2.upd H3 D (.lst (((counted cs.length ((cs.take i).flatMap changeRow)).map V.int++[.int c.key])++(optRow c.old).map V.int)) q=some (.ins a.fy dx (cf c)):=by
   rw[ai Qe];exact S3 _ _ (by rw[ai Qe];exact hO)
  refine⟨_,rfl,.inl ⟨rfl,_,aX.of af⟩,_,rfl,q,_,dx,_,_,rfl,WV,T.bq,T.bA,rfl,c.new,rfl,λH4 D4 Ag r4 S4=>?_⟩;refine⟨D,D4,_,_,rfl,rfl,S4 _ _ af,r4,?_,?_⟩
  ·rw[gb,gb,aO,aO,aO,gk,gk];exact lH (eZ (by simp;omega))
  refine⟨_,rfl,?_,λb o e=>?_⟩
  ·rw[af,take_snoc hcc,counted,counted,Kd];simp[changeRow]
  ·have nb:=aj e hD;rw[ai nb];exact S4 _ _ (by rw[ai nb];exact S3 _ _ (by rw[ai nb];exact S _ _ e))
 ·rintro σ H2 ⟨v,rfl,d9,S⟩
  rw[aO,hC.len,i9]at d9;exact⟨_,rfl,kk H2 D hD d9 S⟩
def zE(T:Txt K mg a):aT P w K mg base cR 2 a.eF.1 a.eF.2 ["conflicts"] (Cn a):=by
 refine T.eF.F.ok lX (λvs H Q E h=>?_) (λcdv A outer s0 H vs Q E hr h=>?_)
 ·obtain⟨l,qs,cs,rfl,_⟩:=h;rfl
 obtain⟨l,qs,cs,rfl,hl,hC,hz,kk⟩:=h;refine⟨_,(ak (aJ (i:=1) lX.nd rfl (Or.inl rfl) (bF (aa (aV bg rfl T.iy rfl (aa (pv 0) ah)) ah))) (ak (jf kE rfl (i6 (pv 0)) (b_ (i:=2) lX.nd rfl (Or.inl rfl))
   (ak (bQ (kF kD pG pF gA (pv 1) (aa (au (pv 2) rfl) ah))) (ak (bQ (kF kD Be Bc nW (pv 1) (aa (aF (jR T) hr.lt rfl T.bH.m T.bH.F.kp T.bH.b .nil aA (aa (au (pv 2) rfl) ah)) ah))) (ak (bQ (kF kD Be Bc nW (pv 1) (aa (aF (jR T) hr.lt rfl T.bH.m T.bH.F.kp T.bH.b .nil aA (aa (au (pv 2) rfl) ah)) ah))) (ao (bQ (kF kD Be Bc nW (pv 1) (aa (aF (jR T) hr.lt rfl T.bH.m T.bH.F.kp T.bH.b .nil aA (aa (au (pv 2) rfl) ah)) ah)))))))) (ao (aC (pv 1))))),?_⟩
 refine⟨_,rfl,l,_,rfl,.inl (aX.of hl),(by show 1<=sizeLine;decide),λD hD=>?_⟩;refine⟨_,rfl,l,rfl,⟨_,aX.of (az.new hD _ _ hl)⟩,jT (K:=K) (xs:=qs.map V.ref) (λi σ H2=>∃v,σ=[some (.ref l),some (.ref D),v]/\H2 D=some (.lst ((counted cs.length ((cs.take i).flatMap mU)).map V.int))/\az H H2) ⟨none,rfl,?_,az.new hD⟩ (λi σ H2 _ h0=>by obtain⟨_,_,_,S⟩:=h0;exact aX.of (S _ _ hl)) ?_ ?_⟩
 ·rw[af,aO,hC.len];rfl
 ·rintro i x σ H2 hx ⟨v,rfl,d9,S⟩
  rw[fj]at hx;obtain⟨q,hq,rfl⟩:=f_.mp hx;obtain⟨c,hcc,dx,hO⟩:=(hC.same S).get hq;have hlen:(counted cs.length ((cs.take i).flatMap mU)).length<=700001:=by
   rw[counted,cF,iU vq,lG];omega
  have Qe:q≠D:=bh hO d9 (by intro z;cases z);refine⟨_,rfl,.inl ⟨rfl,_,aX.of d9⟩,_,rfl,q,_,dx,_,_,rfl,hO,T.jh,T.sP,rfl,D,_,_,rfl,rfl,d9,by rw[aO];exact eZ (by omega),?_⟩;refine⟨_,rfl,.inl ⟨rfl,_,aX.of af⟩,_,rfl,q,_,dx,_,_,rfl,(by rw[ai Qe];exact hO),T.jh,T.qR,rfl,c.base,rfl,λH3 D3 Af r3 S3=>?_⟩;refine⟨D,D3,_,_,rfl,rfl,S3 _ _ af,r3,?_,?_⟩
  ·rw[gb,aO,aO,gk];exact lH (eZ (by simp;omega))
  have WV:L2.upd H3 D (.lst (((counted cs.length ((cs.take i).flatMap mU)).map V.int++[.int c.key])++(optRow c.base).map V.int)) q=some (.ins a.dH dx (kf c)):=by
   rw[ai Qe];exact S3 _ _ (by rw[ai Qe];exact hO)
  refine⟨_,rfl,.inl ⟨rfl,_,aX.of af⟩,_,rfl,q,_,dx,_,_,rfl,WV,T.jh,T.pU,rfl,c.one,rfl,λH4 D4 Ag r4 S4=>?_⟩;refine⟨D,D4,_,_,rfl,rfl,S4 _ _ af,r4,?_,?_⟩
  ·rw[gb,gb,aO,aO,aO,gk,gk];exact lH (eZ (by simp;omega))
  have hO4:L2.upd H4 D (.lst ((((counted cs.length ((cs.take i).flatMap mU)).map V.int++[.int c.key])++(optRow c.base).map V.int)++(optRow c.one).map V.int)) q=some (.ins a.dH dx (kf c)):=by
   rw[ai Qe];exact S4 _ _ WV
  refine⟨_,rfl,.inl ⟨rfl,_,aX.of af⟩,_,rfl,q,_,dx,_,_,rfl,hO4,T.jh,T.pq,rfl,c.two,rfl,λH5 D5 Nf r5 S5=>?_⟩;refine⟨D,D5,_,_,rfl,rfl,S5 _ _ af,r5,?_,?_⟩
  ·rw[gb,gb,gb,aO,aO,aO,aO,gk,gk,gk];exact lH (eZ (by simp;omega))
  refine⟨_,rfl,?_,λb o e=>?_⟩
  ·rw[af,take_snoc hcc,counted,counted,Kd];simp[mU]
  ·have nb:=aj e hD;rw[ai nb];exact S5 _ _ (by rw[ai nb];exact S4 _ _ (by rw[ai nb];exact S3 _ _ (by rw[ai nb];exact S _ _ e)))
 ·rintro σ H2 ⟨v,rfl,d9,S⟩
  rw[aO,hC.len,i9]at d9;exact⟨_,rfl,kk H2 D hD d9 S⟩
def EK(T:Txt K mg a):aT P w K mg base cR 1 a.iH.1 a.iH.2 ["pairs"] JM:=by
 refine T.iH.F.ok p5 (λvs H Q E h=>?_) (λcdv A outer s0 H vs Q E hr h=>?_)
 ·obtain⟨l,qs,ps,rfl,_⟩:=h;rfl
 obtain⟨l,qs,ps,rfl,hl,hC,hz,kk⟩:=h;refine⟨_,(ak (aJ (i:=1) p5.nd rfl (Or.inl rfl) (bF (aa (aV bg rfl T.iy rfl (aa (pv 0) ah)) ah))) (ak (jf kE rfl (i6 (pv 0)) (b_ (i:=2) p5.nd rfl (Or.inl rfl))
   (ao (bQ (kF kD Be Bc LM (pv 1) (aa (pv 2) ah))))) (ao (aC (pv 1))))),?_⟩
 refine⟨_,rfl,l,_,rfl,.inl (aX.of hl),(by show 1<=sizeLine;decide),λD hD=>?_⟩;refine⟨_,rfl,l,rfl,⟨_,aX.of (az.new hD _ _ hl)⟩,jT (K:=K) (xs:=qs.map V.ref) (λi σ H2=>∃v,σ=[some (.ref l),some (.ref D),v]/\H2 D=some (.lst ((counted ps.length ((ps.take i).flatMap λp=>[(p.1:Int),p.2])).map V.int))/\az H H2) ⟨none,rfl,?_,az.new hD⟩ (λi σ H2 _ h0=>by obtain⟨_,_,_,S⟩:=h0;exact aX.of (S _ _ hl)) ?_ ?_⟩
 ·rw[af,aO,hC.len];rfl
 ·rintro i x σ H2 hx ⟨v,rfl,d9,S⟩
  rw[fj]at hx;obtain⟨q,hq,rfl⟩:=f_.mp hx;obtain⟨c,hcc,hO⟩:=(hC.same S).get hq;have hlen:(counted ps.length ((ps.take i).flatMap λp=>[(p.1:Int),p.2])).length<=200001:=by
   rw[counted,cF,iU (n:=2) (λ_=>rfl),lG];omega
  refine⟨_,rfl,.inl ⟨rfl,_,aX.of d9⟩,_,rfl,D,q,_,_,rfl,rfl,d9,hO,?_,?_⟩
  ·rw[aO];exact lH (eZ (by show _+2<_;omega))
  refine⟨_,rfl,?_,λb o e=>by rw[ai (aj e hD)];exact S _ _ e⟩;rw[af,take_snoc hcc,counted,counted,Kd];simp
 ·rintro σ H2 ⟨v,rfl,d9,S⟩
  rw[aO,hC.len,i9]at d9;exact⟨_,rfl,kk H2 D hD d9 S⟩
def sU(T:Txt K mg a):aT P w K mg base cR 1 a.dP.1 a.dP.2 ["pairs","place"] HB:=by
 refine T.dP.F.ok B6 (λvs H Q E h=>?_) (λcdv A outer s0 H vs Q E hr h=>?_)
 ·obtain⟨l,qs,ps,n,rfl,_⟩:=h;rfl
 obtain⟨l,qs,ps,n,rfl,hl,hC,kk⟩:=h;refine⟨_,(ak (bx (bf (Le (pv 1) (aV bg rfl T.iy rfl (aa (pv 0) ah)))) (ao (aC (bF (aa aD (aa aD (aa aD ah)))))) aN) (ao (aC (cU yR (bF (aa aD ah)) (kZ yQ rfl T.P6 rfl (aa (a_ aK (pv 0) (pv 1) (λ_ _=>rfl)) ah)))))),?_⟩;have hcl:=hC.len
 refine⟨_,rfl,_,rfl,l,_,rfl,.inl (aX.of hl),_,_,rfl,rfl,_,rfl,?_⟩;rw[aO];refine gM cQ (λc=>?_) (λc=>?_)
 ·refine⟨qy,λD hD=>kk _ D hD ?_ (az.new hD)⟩;rw[qh (by omega)];exact af
 ·obtain⟨q,hq⟩:∃q,qs[n]? =some q:=⟨qs[n]'(by omega),iw _⟩;obtain⟨p,hp,hO⟩:=hC.get hq;refine⟨(by show 1<=sizeLine;decide),λD1 nL=>?_⟩;refine⟨_,rfl,_,rfl,l,_,_,_,rfl,rfl,aX.of (az.new nL _ _ hl),aL (by rw[fj,hq];rfl),q,_,rfl,.inr (mW.of (az.new nL _ _ hO)),λD2 d9=>?_⟩;have OC:D1≠D2:=aj af d9
  refine⟨D1,D2,[.int 1],[.int (p.1:Int),.int p.2],rfl,rfl,(by rw[ai OC];exact af),af,qy,λD hD=>?_⟩;refine kk _ D ?_ ?_ ((az.new nL).trans ((az.new d9).trans (az.new hD)))
  ·have a1:D≠D2:=λz=>by rw[z,af]at hD;cases hD
   have a2:D≠D1:=λz=>by rw[ai a1,z,af]at hD;cases hD
   rw[ai a1,ai a2]at hD;exact hD
  ·rw[hp];exact af
def HC(T:Txt K mg a):aT P w K mg base cR 1 a.jB.1 a.jB.2 ["node"] (L5 a):=by
 refine T.jB.F.ok Hf (λvs H Q E h=>?_) (λcdv A outer s0 H vs Q E hr h=>?_)
 ·obtain⟨q,n,e,rfl,_⟩:=h;rfl
 obtain⟨q,n,e,rfl,ho,kk⟩:=h;obtain⟨ty,i1,i2⟩:=ho.sS T;refine⟨_,(ak (bx (fD (aV jx rfl T.fT rfl (aa (pv 0) (aa (pM rfl T.mZ) ah)))) (ao (aC (bF (aa aD (aa (au (pv 0) rfl) (aa (au (pv 0) rfl) ah)))))) aN) (ao (aC (bF (aa aD (aa (au (pv 0) rfl) (aa (au (pv 0) rfl) (aa (au (pv 0) rfl) ah)))))))),?_⟩;refine⟨_,rfl,_,_,_,_,rfl,i1,i2,_,rfl,?_⟩;cases n with
 |leaf k x=>
  obtain⟨_,dq,tq,o1,o2⟩:=ho;exact dF ⟨_,rfl,q,_,dq,_,_,rfl,o1,T.ir,T.jg,rfl,_,rfl,q,_,dq,_,_,rfl,o1,T.ir,T.kU,rfl,qy,λD hD=>kk _ D hD af (az.new hD)⟩
 |fork b l r=>
  obtain⟨dq,tq,o1,o2⟩:=ho;exact fu ⟨_,rfl,q,_,dq,_,_,rfl,o1,T.aR,T.cA,rfl,_,rfl,q,_,dq,_,_,rfl,o1,T.aR,T.di,rfl,_,rfl,q,_,dq,_,_,rfl,o1,T.aR,T.b8,rfl,(by show 4<=sizeLine;decide),λD hD=>kk _ D hD af (az.new hD)⟩
noncomputable def YY (ca:Addr) (pl:Nat):List (Str×V):=[("numbers_read",.ref ca),("place",.int pl)]
inductive Ng(a:Ad)(H:Hp)(R:Addr)(ca:Addr)(pl:Nat):Prop
 |mk (dx:_) (_:H R=some (.ins a.dB dx (YY ca pl)))
def Nh{R:Addr}(h:aX K H ca xs)(k:aH [R] H H')(hR:H R=some (.ins C dx fs)):aX K H' ca xs:=by
 rcases h with(h|⟨o,h⟩)|h
 ·exact .inl (.inl (k _ _ h (by intro z;rw[cY.mp z,hR]at h;cases h)))
 ·exact .inl (.inr ⟨o,k _ _ h (by intro z;rw[cY.mp z,hR]at h;cases h)⟩)
 ·exact .inr h
inductive Arg
 |n (x:Int)
 |r (row:List Int)
def Aj(H:Hp)(v:V):Arg->Prop
 | .n x=>v=.int x
 | .r row=>∃q,v=.ref q/\Row H q row
def lJ(H:Hp)(vs:List V)(as:List Arg):Prop:=eT (Aj H) vs as
def Aj.keep{v:V}{x:Arg}(h:Aj H v x)(k:∀b xs,H b=some (.lst xs)->H' b=some (.lst xs)):Aj H' v x:=by
 cases x with
 |n x=>exact h
 |r row=>obtain⟨q,e,hq⟩:=h;exact⟨q,e,k _ _ hq⟩
noncomputable def parse:List Nat->List Int->Option (List Arg×List Int)
 | [],r=>some ([],r)
 |c::cs,r=>if c∈("dp":Str).cps.toList then(match r with
   | []=>none
   |n::r=>if 0<=n/\n.toNat<=r.length then(parse cs (r.drop n.toNat)).map (λp=>(.r (r.take n.toNat)::p.1,p.2))else none)
  else(match r with
   | []=>none
   |x::r=>(parse cs r).map λp=>(.n x::p.1,p.2))
theorem xx(c:Nat)(cs:List Nat)(r:List Int):parse (c::cs) r=if c∈("dp":Str).cps.toList then(match r with
   | []=>none
   |n::r=>if 0<=n/\n.toNat<=r.length then(parse cs (r.drop n.toNat)).map (λp=>(.r (r.take n.toNat)::p.1,p.2))else none)
  else(match r with
   | []=>none
   |x::r=>(parse cs r).map λp=>(.n x::p.1,p.2)):=by
 cases r<;>rfl
inductive HD(a:Ad)(vs:List V)(H:Hp)(Q:VK)(gc:XK):Prop
 |mk (q dx ca:Addr) (_:vs=[.ref q,.ref ca]) (_:H q=some (.ins a.dB dx [])) (_:∀H',H' q=some (.ins a.dB dx (YY ca 0))->aH [q] H H'->Q .gq H')
inductive OD(K:W.Frag)(a:Ad)(vs:List V)(H:Hp)(Q:VK)(gc:XK):Prop
 |mk (R ca:Addr) (pl:Nat) (ns:List Int) (_:vs=[.ref R]) (_:Ng a H R ca pl) (_:aX K H ca (ns.map V.int)) (_:Q (.bl (decide (pl<ns.length))) H)
inductive Ni(K:W.Frag)(a:Ad)(vs:List V)(H:Hp)(Q:VK)(gc:XK):Prop
 |mk (R ca:Addr) (pl:Nat) (ns:List Int) (x:Int) (_:vs=[.ref R]) (_:Ng a H R ca pl) (_:aX K H ca (ns.map V.int)) (_:ns[pl]? =some x) (_:∀H',Ng a H' R ca (pl+1)->aH [R] H H'->Q (.int x) H')
inductive Nj(K:W.Frag)(a:Ad)(vs:List V)(H:Hp)(Q:VK)(gc:XK):Prop
 |mk (R ca:Addr) (pl:Nat) (ns:List Int) (n:Int) (_:vs=[.ref R]) (_:Ng a H R ca pl) (_:aX K H ca (ns.map V.int)) (_:ns[pl]? =some n) (_:0<=n) (_:pl+1+n.toNat<=ns.length) (_:∀H' D,Ng a H' R ca (pl+1+n.toNat)->H D=none->Row H' D ((ns.drop (pl+1)).take n.toNat)->aH [R] H H'->Q (.ref D) H')
inductive L6(K:W.Frag)(a:Ad)(vs:List V)(H:Hp)(Q:VK)(gc:XK):Prop
 |mk (R ca:Addr) (pl:Nat) (ns:List Int) (f:Str) (as:List Arg) (rest:List Int) (_:vs=[.ref R,.str f]) (_:Ng a H R ca pl) (_:aX K H ca (ns.map V.int)) (_:pl<=ns.length) (_:parse f.cps.toList (ns.drop pl)=some (as,rest)) (_:f.cps.size<1000) (_:∀H' D xs VR,Ng a H' R ca VR->ns.drop VR=rest->VR<=ns.length->H D=none->H' D=some (.lst xs)->lJ H' xs as->aH [R] H H'->Q (.ref D) H')
def Nk:R2:=λx y H Q=>∃(c:Nat) (z:Str),x=.str ⟨#[c]⟩/\y=.str z/\Q (.bl (decide (c∈z.cps.toList))) H
def Qg:vN X (compareOp .In) Nk:=LJ
def VS{x:Str}{g:TG}{tt:TT}{te:TE}{vs:List Nat}{σ:L2.St}{H1:Hp}{D:Addr}{Qd:Hp->Prop}(Pv:Nat->Hp->Prop)(h0:Pv 0 (upd H1 D (.lst [])))
  (hs:∀i c H,x.cps.toList[i]? =some c->Pv i H->g (.str ⟨#[c]⟩) (wipe σ vs) H λσ2 H2=>wipe σ2 vs=wipe σ vs/\tt σ2 H2 λb H3=>
   if b=true then te σ2 H3 λy H4=>∃acc,H4 D=some (.lst acc)/\acc.length<sizeLine/\Pv (i+1) (upd H4 D (.lst (acc++[y])))else Pv (i+1) H3) (hd:∀H,Pv x.cps.size H->Qd H):
  ∃W:Nat->Nat->Hp->Prop,(∃m,W 0 m (upd H1 D (.lst [])))/\∀i m H,W i m H->
   ((Vn x).stop i H/\Qd H)\/((Vn x).go i H/\∃Nx:Hp->Prop,(∀H',Nx H'->∃m',m'<m/\W (i+1) m' H')/\∀v H',(Vn x).El i H v H'->g v (wipe σ vs) H' λσ2 H2=>wipe σ2 vs=wipe σ vs/\tt σ2 H2 λb H3=>
    if b=true then te σ2 H3 λy H4=>∃acc,H4 D=some (.lst acc)/\acc.length<sizeLine/\Nx (upd H4 D (.lst (acc++[y])))else Nx H3):=by
 refine⟨λi m H=>m=x.cps.size-i/\i<=x.cps.size/\Pv i H,⟨x.cps.size,by simp,fC _,h0⟩,?_⟩
 rintro i m H ⟨rfl,hi,p⟩
 by_cases hlt:i<x.cps.size
 ·refine .inr ⟨hlt,Pv (i+1),λH' p'=>⟨x.cps.size-(i+1),by omega,rfl,hlt,p'⟩,λv H' y=>?_⟩;obtain⟨rfl,c,hc,rfl⟩:=y;exact hs i c _ (by simpa using hc) p
 ·have e:i=x.cps.size:=by omega
  subst e;exact .inl ⟨bw _,hd H p⟩
def DM(T:Txt K mg a):aT P w K mg base cR 1 a.iE.1 a.iE.2 ["self","numbers"] (HD a):=by
 refine T.iE.F.ok DF (λvs H Q E h=>?_) (λcdv A outer s0 H vs Q E hr h=>?_)
 ·obtain⟨q,dx,ca,rfl,_⟩:=h;rfl
 obtain⟨q,dx,ca,rfl,hq,kk⟩:=h;refine⟨_,(ak (d8 (pv 0) (pv 1) rfl) (ao (d8 (pv 0) aD rfl))),?_⟩;refine⟨_,rfl,_,rfl,q,_,dx,_,rfl,hq,T.eS,T.gX,by decide,?_⟩;refine⟨_,rfl,q,_,dx,_,rfl,af,T.eS,T.gv,(by show 1<1000;decide),?_⟩;refine kk _ af λb o e hb=>?_
 have hb:b≠q:=by simpa using hb
 rw[ai hb,ai hb];exact e
def JN(T:Txt K mg a):aT P w K mg base cR 1 a.eO.1 a.eO.2 ["self"] (OD K a):=by
 refine T.eO.F.ok xH (λvs H Q E h=>?_) (λcdv A outer s0 H vs Q E hr h=>?_)
 ·obtain⟨R,ca,pl,ns,rfl,_⟩:=h;rfl
 obtain⟨R,ca,pl,ns,rfl,⟨dx,hR⟩,hc,kk⟩:=h;refine⟨_,(ao (aC (B3 (GX (au (pv 0) rfl) (aV bg rfl T.iy rfl (aa (au (pv 0) rfl) ah)))))),?_⟩;refine⟨_,rfl,R,_,dx,_,_,rfl,hR,T.eS,T.gv,rfl,_,rfl,R,_,dx,_,_,rfl,hR,T.eS,T.gX,rfl,ca,_,rfl,.inl hc,_,_,rfl,rfl,?_⟩;rw[aO];have e:decide ((pl:Int)<(ns.length:Int))=decide (pl<ns.length):=by rw[qj,cQ,cQ];omega
 show Q (.bl (decide ((pl:Int)<(ns.length:Int)))) H
 rw[e];exact kk
def oY(T:Txt K mg a):aT P w K mg base cR 1 a.bC.1 a.bC.2 ["self"] (Ni K a):=by
 refine T.bC.F.ok mF (λvs H Q E h=>?_) (λcdv A outer s0 H vs Q E hr h=>?_)
 ·obtain⟨R,ca,pl,ns,x,rfl,_⟩:=h;rfl
 obtain⟨R,ca,pl,ns,x,rfl,⟨dx,hR⟩,hc,hx,kk⟩:=h;refine⟨_,(ak (aJ (i:=1) mF.nd rfl (Or.inl rfl) (a_ aK (au (pv 0) rfl) (au (pv 0) rfl) (λ_ _=>rfl))) (ak (zX (pv 0) aD KO) (ao (aC (pv 1))))),?_⟩;refine⟨_,rfl,R,_,dx,_,_,rfl,hR,T.eS,T.gX,rfl,_,rfl,R,_,dx,_,_,rfl,hR,T.eS,T.gv,rfl,ca,_,_,_,rfl,rfl,hc,lI hx rfl,?_⟩;refine⟨_,rfl,R,_,dx,_,_,rfl,hR,T.eS,T.gv,rfl,_,_,rfl,rfl,dx,_,hR,(by show 2<1000;decide),?_⟩;exact⟨_,rfl,kk _ ⟨dx,by rw[af];rfl⟩ (aH.upd (bU ..))⟩
def Co(T:Txt K mg a):aT P w K mg base cR 2 a.cG.1 a.cG.2 ["self"] (Nj K a):=by
 refine T.cG.F.ok jF (λvs H Q E h=>?_) (λcdv A outer s0 H vs Q E hr h=>?_)
 ·obtain⟨R,ca,pl,ns,x,rfl,_⟩:=h;rfl
 obtain⟨R,ca,pl,ns,n,rfl,⟨dx,hR⟩,hc,hx,h0,hle,kk⟩:=h;refine⟨_,(ak (aJ (i:=1) jF.nd rfl (Or.inl rfl) (lE (pv 0) T.eS T.bC.m (oY T) hr.lt T.bC.b .nil aA)) (ak (aJ (i:=2) jF.nd rfl (Or.inl rfl) (au (pv 0) rfl)) (ak (zX (pv 0) (pv 1) KO) (ao (aC (QF SE (au (pv 0) rfl) (MU (pv 2)) (MU (au (pv 0) rfl)))))))),?_⟩;refine⟨_,rfl,R,dx,_,rfl,hR,rfl,R,ca,pl,ns,n,rfl,⟨dx,hR⟩,hc,hx,λH1 ⟨Ce,WW⟩ K1=>?_⟩;have hc1:=Nh hc K1 hR
 refine⟨_,rfl,R,_,Ce,_,_,rfl,WW,T.eS,T.gv,rfl,?_⟩;refine⟨_,rfl,R,_,Ce,_,_,rfl,WW,T.eS,T.gv,rfl,_,rfl,_,_,rfl,rfl,Ce,_,WW,(by show 2<1000;decide),?_⟩;have K2:aH [R] H1 (L2.upd H1 R (.ins a.dB Ce (kY "place" (.int (((pl+1:Nat):Int)+n)) (YY ca (pl+1))))):=aH.upd (bU ..)
 have hc2:=Nh hc1 K2 WW;refine⟨_,rfl,R,_,Ce,_,_,rfl,af,T.eS,T.gX,rfl,_,rfl,_,rfl,_,rfl,R,_,Ce,_,_,rfl,af,T.eS,T.gv,rfl,_,rfl,ca,_,rfl,hc2,λD hD=>?_⟩;have R6:R≠D:=aj af hD
 have en:((pl+1:Nat):Int)+n=((pl+1+n.toNat:Nat):Int):=by omega
 have Z2:Lj (ns.map V.int) (some ((pl+1:Nat):Int)) (some (((pl+1:Nat):Int)+n))=((ns.drop (pl+1)).take n.toNat).map V.int:=by
  rw[en,Lj,HT.MT,HT.MT,aO,Nat.min_eq_left (by omega),Nat.min_eq_left (by omega),List.map_take,List.map_drop]
  congr 1
  omega
 refine kk _ D ⟨Ce,?_⟩ ?_ ?_ ?_
 ·rw[ai R6,af,en];rfl
 ·rw[ai R6.symm]at hD;cases e:H D with
  |none=>rfl
  |some o=>rw[K1 _ _ e (by simpa using R6.symm)]at hD;cases hD
 ·unfold Row;rw[<- Z2];exact af
 ·exact(K1.trans K2).trans (aH.new hD)
inductive WTa(a:Ad)(R D ca:Addr)(ns:List Int)(f:Str)(as:List Arg)(rest:List Int)(H:Hp)(i:Nat)(H2:Hp):Prop
 |mk (xs:List V) (Uv Uw:List Arg) (Ak:Nat) (_:H2 D=some (.lst xs)) (_:lJ H2 xs Uv) (_:as=Uv++Uw) (_:xs.length=i) (_:Ak<=ns.length) (_:parse (f.cps.toList.drop i) (ns.drop Ak)=some (Uw,rest)) (_:Ng a H2 R ca Ak) (_:aH [R,D] H H2) (_:∀q,V.ref q∈xs->q≠D)
def zF(T:Txt K mg a):aT P w K mg base cR 3 a.bS.1 a.bS.2 ["self","form"] (L6 K a):=by
 refine T.bS.F.ok iV (λvs H Q E h=>?_) (λcdv A outer s0 H vs Q E hr h=>?_)
 ·obtain⟨R,ca,pl,ns,f,as,rest,rfl,_⟩:=h;rfl
 obtain⟨R,ca,pl,ns,f,as,rest,rfl,⟨dx,hR⟩,hc,hpl,hp,hf,kk⟩:=h;refine⟨_,(ao (aC (vZ (own:=[("letter",2)]) (te:=tIf (O6 (MO Nk (l9 2) (tC (.str "dp")))) (GY a.dB "take_numbers" (Nj K a) [] E0 (l9 0) xX) (GY a.dB "take_number" (Ni K a) [] E0 (l9 0) xX)) rfl iV.nd (Vo (pv 1)) (jU rfl) (λs H C cl fp=>b_ (i:=2) iV.nd rfl (Or.inl rfl)) (λs H C cl fp=>qN)
  (λs H C cl fp=>jm (jw Qg (pv 2) sI rfl) (lE (pv 0) T.eS T.cG.m (Co T) hr.lt T.cG.b .nil aA) (lE (pv 0) T.eS T.bC.m (oY T) hr.lt T.bC.b .nil aA))))),?_⟩
 refine⟨_,rfl,f,rfl,λD hD=>?_⟩;have R6:R≠D:=aj hR hD
 refine VS (WTa a R D ca ns f as rest H) ⟨[],[],as,pl,af,.nil,rfl,rfl,hpl,hp,⟨dx,by rw[ai R6];exact hR⟩,aH.new hD,by simp⟩ ?_ ?_
 ·rintro i c H2 hcc ⟨xs,Uv,Uw,Ak,d9,hA,rfl,hxi,WX,hp1,⟨mX,Nl⟩,K2,hne⟩
  have hi:i<f.cps.toList.length:=(iu.mp hcc).1;have hi':i<f.cps.size:=by simpa using hi
  have ed:f.cps.toList.drop i=c::f.cps.toList.drop (i+1):=by
   obtain⟨h1,h2⟩:=iu.mp hcc;rw[pD h1,h2]
  rw[ed,xx]at hp1;have hc2:aX K H2 ca (ns.map V.int):=by
   rcases hc with(h|⟨o,h⟩)|h
   ·exact .inl (.inl (K2 _ _ h (by simp[bh h hR (by intro z;cases z),aj h hD])))
   ·exact .inl (.inr ⟨o,K2 _ _ h (by simp[bh h hR (by intro z;cases z),aj h hD])⟩)
   ·exact .inr h
  have fin:∀(H3:Hp) (v:V) (x:Arg) (VT:Nat) (Qh:List Arg),aH [R] H2 H3->Ng a H3 R ca VT->Aj H3 v x->Uw=x::Qh->VT<=ns.length->parse (f.cps.toList.drop (i+1)) (ns.drop VT)=some (Qh,rest)->(∀q,v=.ref q->q≠D)->
    ∃acc,H3 D=some (.lst acc)/\acc.length<sizeLine/\WTa a R D ca ns f (Uv++Uw) rest H (i+1) (L2.upd H3 D (.lst (acc++[v]))):=λH3 v x VT Qh K3 ⟨Ji,hR3⟩ hv e1 e2 e3 hnew=>by
   have Af:H3 D=some (.lst xs):=K3 _ _ d9 (by simpa using R6.symm);refine⟨xs,Af,by rw[hxi];exact eZ (by omega),xs++[v],Uv++[x],Qh,VT,af,?_,by rw[e1];simp,by simp[hxi],e2,e3,⟨Ji,by rw[ai R6];exact hR3⟩,?_,?_⟩
   ·refine(eT.imp hA λy z hy _ h=>?_).append (.cons ?_ .nil)
    ·cases z with
     |n q=>exact h
     |r row=>
      obtain⟨q,e,hq⟩:=h;subst e;have pN:H2 q=some (.lst (row.map V.int)):=hq
      refine⟨q,rfl,?_⟩;show L2.upd H3 D _ q=_
      rw[ai (hne q hy)];exact K3 _ _ pN (by simpa using bh pN Nl (by intro z;cases z))
    ·cases x with
     |n q=>exact hv
     |r row=>
      obtain⟨q,e,hq⟩:=hv;refine⟨q,e,?_⟩;show L2.upd H3 D _ q=_
      rw[ai (hnew q e)];exact hq
   ·exact(K2.trans (K3.mono (by simp))).trans (aH.upd (by simp))
   ·intro q hq;rcases dg.mp hq with z|z
    ·exact hne q z
    ·exact hnew q (cY.mp z).symm
  refine⟨rfl,Iq ?_⟩;refine dF ?_;refine⟨_,rfl,c,_,rfl,rfl,_,rfl,?_⟩;refine gM cQ (λcd=>?_) (λcd=>?_)
  ·rw[ay cd]at hp1;cases er:ns.drop Ak with
   |nil=>rw[er]at hp1;cases hp1
   |cons n r=>
    rw[er]at hp1;simp only at hp1;by_cases cn:0<=n/\n.toNat<=r.length
    ·rw[ay cn]at hp1;obtain⟨⟨Qh,r3⟩,hp3,e3⟩:=f_.mp hp1;simp only[Prod.mk.injEq]at e3;obtain⟨e3,rfl⟩:=e3;have hlt:Ak<ns.length:=Nat.lt_of_not_le λz=>by rw[BG z]at er;cases er
     rw[pD hlt]at er;injection er with YZ VU
     have hx:ns[Ak]? =some n:=by rw[iw hlt,YZ]
     have hrl:Ak+1+n.toNat<=ns.length:=by have:=jd List.length VU;rw[List.length_drop]at this;omega
     refine⟨_,rfl,R,mX,_,rfl,Nl,rfl,R,ca,Ak,ns,n,rfl,⟨mX,Nl⟩,hc2,hx,cn.1,hrl,λH3 Q3 Y0 hQ3 Z3 K3=>?_⟩;refine fin H3 _ (.r (r.take n.toNat)) (Ak+1+n.toNat) Qh K3 Y0 ⟨Q3,rfl,?_⟩ e3.symm hrl ?_ ?_
     ·rw[<- VU];exact Z3
     ·rw[show ns.drop (Ak+1+n.toNat)=(ns.drop (Ak+1)).drop n.toNat by rw[List.drop_drop],VU];exact hp3
     ·intro q e;cases e;exact λz=>by rw[z,d9]at hQ3;cases hQ3
    ·rw[aq cn]at hp1;cases hp1
  ·rw[aq cd]at hp1;cases er:ns.drop Ak with
   |nil=>rw[er]at hp1;cases hp1
   |cons x r=>
    rw[er]at hp1;simp only at hp1;obtain⟨⟨Qh,r3⟩,hp3,e3⟩:=f_.mp hp1;simp only[Prod.mk.injEq]at e3;obtain⟨e3,rfl⟩:=e3;have hlt:Ak<ns.length:=Nat.lt_of_not_le λz=>by rw[BG z]at er;cases er
    rw[pD hlt]at er;injection er with YZ VU
    have hx:ns[Ak]? =some x:=by rw[iw hlt,YZ]
    refine⟨_,rfl,R,mX,_,rfl,Nl,rfl,R,ca,Ak,ns,x,rfl,⟨mX,Nl⟩,hc2,hx,λH3 Y0 K3=>?_⟩;exact fin H3 _ (.n x) (Ak+1) Qh K3 Y0 rfl e3.symm hlt (by rw[VU];exact hp3) (λq e=>nomatch e)
 ·rintro H2 ⟨xs,Uv,Uw,Ak,d9,hA,rfl,hxi,WX,hp1,Nl,K2,hne⟩
  rw[BG (by simp),parse]at hp1;cases hp1;rw[nP]at kk;exact kk H2 D xs Ak Nl rfl WX hD d9 hA λb o e hb=>K2 _ _ e (by simp at hb;simp[hb,aj e hD])
def Tq{K:W.Frag}{x:Str}{b:Addr}{ys:List V}{g:TG}{tt:TT}{te:TE}{vs:List Nat}{σ:L2.St}{H1:Hp}{D:Addr}{Qd:Hp->Prop}(hlen:x.cps.size=ys.length)(Pv:Nat->Hp->Prop)(h0:Pv 0 (upd H1 D (.lst [])))(hl:∀i H,i<=ys.length->Pv i H->aX K H b ys)
  (hs:∀i c y H t,x.cps.toList[i]? =some c->ys[i]? =some y->H t=none->Pv i H->g (.ref t) (wipe σ vs) (upd H t (.tup [.str ⟨#[c]⟩,y])) λσ2 H2=>wipe σ2 vs=wipe σ vs/\tt σ2 H2 λb H3=>
   if b=true then te σ2 H3 λy H4=>∃acc,H4 D=some (.lst acc)/\acc.length<sizeLine/\Pv (i+1) (upd H4 D (.lst (acc++[y])))else Pv (i+1) H3) (hd:∀H,Pv ys.length H->Qd H):
  ∃W:Nat->Nat->Hp->Prop,(∃m,W 0 m (upd H1 D (.lst [])))/\∀i m H,W i m H->
   ((P4 K x b).stop i H/\Qd H)\/((P4 K x b).go i H/\∃Nx:Hp->Prop,(∀H',Nx H'->∃m',m'<m/\W (i+1) m' H')/\∀v H',(P4 K x b).El i H v H'->g v (wipe σ vs) H' λσ2 H2=>wipe σ2 vs=wipe σ vs/\tt σ2 H2 λb H3=>
    if b=true then te σ2 H3 λy H4=>∃acc,H4 D=some (.lst acc)/\acc.length<sizeLine/\Nx (upd H4 D (.lst (acc++[y])))else Nx H3):=by
 refine⟨λi m H=>m=ys.length-i/\i<=ys.length/\Pv i H,⟨ys.length,by simp,fC _,h0⟩,?_⟩
 rintro i m H ⟨rfl,hi,p⟩
 have q:=hl i H hi p;by_cases hlt:i<ys.length
 ·have hx:i<x.cps.size:=by omega
  refine .inr ⟨⟨ys,x.cps[i],ys[i],q,by simp[hx],by simp[hlt]⟩,Pv (i+1),λH' p'=>⟨ys.length-(i+1),by omega,rfl,hlt,p'⟩,λv H' z=>?_⟩;obtain⟨t,c,y,rfl,ht,rfl,hc,hy⟩:=z;exact hs i c y H t (by simpa using hc) (hy ys q) ht p
 ·have e:i=ys.length:=by omega
  subst e;exact .inl ⟨yy hlen,hd H p⟩
def Rh{K:W.Frag}{x:Str}{b:Addr}{ys:List V}{g:TG}{tb:TS}{D:Ends}{σ:L2.St}{H:Hp}(hlen:x.cps.size=ys.length)(Pv:Nat->L2.St->Hp->Prop)(h0:Pv 0 σ H)(hl:∀i σ H,i<=ys.length->Pv i σ H->aX K H b ys)
  (hs:∀i c y σ H t,x.cps.toList[i]? =some c->ys[i]? =some y->H t=none->Pv i σ H->g (.ref t) σ (upd H t (.tup [.str ⟨#[c]⟩,y])) λσ2 H2=>tb {D with nx:=Pv (i+1),ct:=Pv (i+1),bk:=D.nx} σ2 H2) (hd:∀σ H,Pv ys.length σ H->D.nx σ H):
  ∃W:Nat->Nat->L2.St->Hp->Prop,(∃m,W 0 m σ H)/\∀i m σ H,W i m σ H->
   ((P4 K x b).stop i H/\D.nx σ H)\/((P4 K x b).go i H/\∃N:L2.St->Hp->Prop,(∀σ' H',N σ' H'->∃m',m'<m/\W (i+1) m' σ' H')/\∀v H',(P4 K x b).El i H v H'->g v σ H' λσ2 H2=>tb {D with nx:=N,ct:=N,bk:=D.nx} σ2 H2):=by
 refine⟨λi m σ H=>m=ys.length-i/\i<=ys.length/\Pv i σ H,⟨ys.length,by simp,fC _,h0⟩,?_⟩
 rintro i m σ H ⟨rfl,hi,p⟩
 have q:=hl i σ H hi p;by_cases hlt:i<ys.length
 ·have hx:i<x.cps.size:=by omega
  refine .inr ⟨⟨ys,x.cps[i],ys[i],q,by simp[hx],by simp[hlt]⟩,Pv (i+1),λσ' H' p'=>⟨ys.length-(i+1),by omega,rfl,hlt,p'⟩,λv H' z=>?_⟩;obtain⟨t,c,y,rfl,ht,rfl,hc,hy⟩:=z;exact hs i c y σ H t (by simpa using hc) (hy ys q) ht p
 ·have e:i=ys.length:=by omega
  subst e;exact .inl ⟨yy hlen,hd σ H p⟩
noncomputable def mw:Nat->Arg->Bool
 |c,.n x=>if c=118\/c=119 then versionIn x else if c=107 then keyIn x else if c=120 then valueIn x else Vbwsae.inR x 0 9999
 |c,.r row=>if c=112 then decide (row.length<=200)&&pairsIn row else diffIn row
def bG:Nat->Arg->Prop
 |c,.n _=>c=118\/c=119\/c=107\/c=120\/c=110
 |c,.r row=>(c=112\/c=100)/\row.length<1000000
inductive Gn(vs:List V)(H:Hp)(Q:VK)(gc:XK):Prop
 |mk (c:Nat) (v:V) (x:Arg) (_:vs=[.str ⟨#[c]⟩,v]) (_:Aj H v x) (_:bG c x) (_:∀H',az H H'->Q (.bl (mw c x)) H')
inductive HE(vs:List V)(H:Hp)(Q:VK)(gc:XK):Prop
 |mk (f:Str) (l:Addr) (xs:List V) (as:List Arg) (_:vs=[.str f,.ref l]) (_:H l=some (.lst xs)) (_:lJ H xs as) (_:eT bG f.cps.toList as) (_:f.cps.all (· < 128)=true) (_:as.length<1000) (_:∀H',az H H'->Q (.bl (((f.cps.toList.zip as).map λp=>mw p.1 p.2).all id)) H')
def vQ:decide (V.str ⟨#[c]⟩=V.str ⟨#[d]⟩)=true↔c=d:=by simp
def Aj.same{v:V}{x:Arg}(h:Aj H v x)(k:az H H'):Aj H' v x:=h.keep λb xs e=>k _ _ e
def DN(T:Txt K mg a):aT P w K mg base cR 4 a.gR.1 a.gR.2 ["letter","argument"] Gn:=by
 refine T.gR.F.ok DG (λvs H Q E h=>?_) (λcdv A outer s0 H vs Q E hr h=>?_)
 ·obtain⟨c,v,x,rfl,_⟩:=h;rfl
 obtain⟨c,v,x,rfl,hv,hf,kk⟩:=h;obtain⟨t1,g1⟩:=T.sR;obtain⟨t2,g2⟩:=T.Aw;refine⟨_,(ak (bx (jw Qg (pv 0) sI rfl) (ao (aC (xW vY Xl aD (pv 1) (dj rfl g1)))) aN) (ak (bx (jw yP (pv 0) sI rfl) (ao (aC (aF (Ah T) hr.lt rfl T.j8.m T.j8.F.kp T.j8.b .nil aA (aa (pv 1) ah)))) aN) (ak (bx (jw yP (pv 0) sI rfl) (ao (aC (aF (uO T) hr.lt rfl T.gj.m T.gj.F.kp T.gj.b .nil aA (aa (pv 1) ah)))) aN) (ak (bx (jw yP (pv 0) sI rfl) (ao (aC (xW vY vY aD (pv 1) (dj rfl g2)))) aN) (ak (bx (jw yP (pv 0) sI rfl) (ao (aC (aF (EI T) hr.lt rfl T.eE.m T.eE.F.kp T.eE.b .nil aA (aa (pv 1) ah)))) aN) (ao (aC (aF (Cm T) hr.lt rfl T.cZ.m T.cZ.F.kp T.cZ.b .nil aA (aa (pv 1) ah))))))))),?_⟩;have vw:(decide (c∈("vw":Str).cps.toList))=true↔(c=118\/c=119):=by
  rw[cQ];show c∈ [118,119]↔_
  simp
 refine⟨_,rfl,c,_,rfl,rfl,_,rfl,?_⟩;refine gM vw (λc1=>?_) (λc1=>?_)
 ·cases x with
  |r row=>obtain⟨h,_⟩:=hf;omega
  |n x=>
   have hv:v=.int x:=hv;subst hv;have kk:=kk H (az.refl _)
   simp only[mw,ay c1,versionIn,Vbwsae.inR]at kk;refine⟨_,rfl,_,_,rfl,rfl,_,rfl,?_⟩;refine gM cQ (λc2=>?_) (λc2=>?_)
   ·rw[jP c2,rC]at kk;refine⟨_,_,rfl,rfl,?_⟩;have e:decide (x<200)=decide (x<=199):=by rw[qj,cQ,cQ];omega
    show Q (.bl (decide (x<200))) H
    rw[e];exact kk
   ·rw[i_ c2,sr]at kk;exact kk
 refine⟨_,rfl,rfl,_,rfl,?_⟩;refine gM (c:=c=107) vQ (λc2=>?_) (λc2=>?_)
 ·cases x with
  |r row=>obtain⟨h,_⟩:=hf;omega
  |n x=>
   have hv:v=.int x:=hv;subst hv;have kk:=kk H (az.refl _)
   simp only[mw,aq c1,ay c2]at kk;exact⟨_,rfl,x,rfl,kk⟩
 refine⟨_,rfl,rfl,_,rfl,?_⟩;refine gM (c:=c=120) vQ (λc3=>?_) (λc3=>?_)
 ·cases x with
  |r row=>obtain⟨h,_⟩:=hf;omega
  |n x=>
   have hv:v=.int x:=hv;subst hv;have kk:=kk H (az.refl _)
   simp only[mw,aq c1,aq c2,ay c3]at kk;exact⟨_,rfl,x,rfl,kk⟩
 refine⟨_,rfl,rfl,_,rfl,?_⟩;refine gM (c:=c=110) vQ (λc4=>?_) (λc4=>?_)
 ·cases x with
  |r row=>obtain⟨h,_⟩:=hf;omega
  |n x=>
   have hv:v=.int x:=hv;subst hv;have kk:=kk H (az.refl _)
   simp only[mw,aq c1,aq c2,aq c3,Vbwsae.inR]at kk;refine⟨_,rfl,_,_,rfl,rfl,_,rfl,?_⟩;refine gM cQ (λc5=>?_) (λc5=>?_)
   ·rw[jP c5,rC]at kk;exact⟨_,_,rfl,rfl,kk⟩
   ·rw[i_ c5,sr]at kk;exact kk
 cases x with
 |n x=>have hf:c=118\/c=119\/c=107\/c=120\/c=110:=hf;omega
 |r row=>
  obtain⟨q,rfl,hq⟩:=hv;refine⟨_,rfl,rfl,_,rfl,?_⟩;refine gM (c:=c=112) vQ (λc5=>?_) (λc5=>?_)
  ·simp only[mw,ay c5]at kk;exact⟨_,rfl,q,row,rfl,hq,hf.2,kk⟩
  ·simp only[mw,aq c5]at kk;exact⟨_,rfl,q,row,rfl,hq,hf.2,kk⟩
def Cp(T:Txt K mg a):aT P w K mg base cR 5 a.fR.1 a.fR.2 ["form","arguments"] HE:=by
 refine T.fR.F.ok k6 (λvs H Q E h=>?_) (λcdv A outer s0 H vs Q E hr h=>?_)
 ·obtain⟨f,l,xs,as,rfl,_⟩:=h;rfl
 obtain⟨f,l,xs,as,rfl,hl,hA,hF,hasc,hz,kk⟩:=h;refine⟨_,(ao (aC (aV (PY rfl) rfl T.Ui rfl (aa (vZ (own:=[("letter",2),("argument",3)]) (te:=Lh Gn [] E0 (pL (l9 2) (pL (l9 3) xX))) (g:=Wl K 2 (O4 (yO 2) (O4 (yO 3) Wk))) rfl k6.nd (M7 rfl T.Uh (aa (pv 0) (aa (pv 1) ah))) (jU rfl)
  (λs H C cl fp=>KG rfl (qo (b_ (i:=2) k6.nd rfl (Or.inl rfl)) (qo (b_ (i:=3) k6.nd rfl (Or.inl rfl)) Gx))) (λs H C cl fp=>qN) (λs H C cl fp=>(aF (DN T) hr.lt rfl T.gR.m T.gR.F.kp T.gR.b .nil aA (aa (pv 2) (aa (pv 3) ah))))) ah)))),?_⟩
 have e1:f.cps.size=xs.length:=by rw[hA.len,<- hF.len];simp
 refine⟨_,rfl,_,rfl,f,l,_,rfl,hasc,aX.of hl,λD hD=>?_⟩;have nlD:l≠D:=aj hl hD
 refine Tq (K:=K) e1 (λi H2=>H2 D=some (.lst ((((f.cps.toList.zip as).take i).map λp=>mw p.1 p.2).map V.bl))/\aH [D] H H2) ⟨af,aH.new hD⟩ (λi H2 _ h=>aX.of (h.2 _ _ hl (by simpa using nlD))) ?_ ?_
 ·rintro i c y H2 t hc hy ht ⟨d9,K2⟩
  obtain⟨x,hx,hv⟩:=hA.get hy;obtain⟨x',hx',hf⟩:=hF.get hc;rw[hx]at hx';cases hx';have K3:aH [D] H (L2.upd H2 t (.tup [.str ⟨#[c]⟩,y])):=K2.trans (aH.new ht)
  have RO:(f.cps.toList.zip as)[i]? =some (c,x):=by rw[List.getElem?_zip_eq_some];exact⟨hc,hx⟩
  refine⟨t,_,rfl,mW.of af,rfl,_,_,rfl,_,_,rfl,rfl,rfl,Iq ?_⟩;refine dF ?_;refine⟨_,rfl,_,rfl,c,y,x,rfl,?_,hf,λH3 S3=>?_⟩
  ·cases x with
   |n x=>exact hv
   |r row=>obtain⟨q,e,hq⟩:=hv;exact⟨q,e,K3 _ _ hq (by simpa using aj hq hD)⟩
  have Af:=S3 _ _ (az.new ht _ _ d9);refine⟨_,Af,?_,?_,K3.trans ((aH.of S3).trans (aH.upd (bU ..)))⟩
  ·rw[aO,aO,lG,Fe];exact eZ (by omega)
  ·rw[af,take_snoc RO];simp
 ·rintro H2 ⟨d9,K2⟩
  have el:xs.length=(f.cps.toList.zip as).length:=by rw[Fe,hF.len,hA.len];omega
  rw[el,i9]at d9;exact⟨D,_,rfl,aX.of d9,kk H2 λb o e=>K2 _ _ e (by simpa using aj e hD)⟩
noncomputable def vf (top:Nat) (t:Addr) (h:Bool):List (Str×V):=[("top",.int top),("parents",.ref t),("held",.bl h)]
noncomputable def lK (l:List Nat):List V:=l.map λn:Nat=>V.int (n:Int)
inductive Ir(a:Ad)(H:Hp)(q:Addr)(v:Version):Prop
 |mk (dx:_) (t:_) (_:H q=some (.ins a.bV dx (vf v.node t v.held))) (_:H t=some (.tup (lK v.parents)))
structure jE(a:Ad)(H:Hp)(S p dk dn vl:Addr)(aS:List Addr)(s:Vbwsae.St):Prop where
 obj:∃dx,H S=some (.ins a.bX dx [("nodes",.ref p),("versions",.ref vl)])
 jb:jt a H p dk dn s.store
 tK:H vl=some (.lst (aS.map V.ref))
 Gp:eT (Ir a H) aS s.versions
 nd:aS.Nodup
def Ir.same{v:Version}(h:Ir a H q v)(k:az H H'):Ir a H' q v:=by
 obtain⟨dx,t,h1,h2⟩:=h;exact⟨dx,t,k _ _ h1,k _ _ h2⟩
def Ir.keep{v:Version}(h:Ir a H q v)(k:aH S H H')(hS:∀b∈S,(∀dx fs,H b≠some (.ins a.bV dx fs))/\∀xs,H b≠some (.tup xs)):Ir a H' q v:=by
 obtain⟨dx,t,h1,h2⟩:=h;exact⟨dx,t,k _ _ h1 λz=>(hS _ z).1 _ _ h1,k _ _ h2 λz=>(hS _ z).2 _ h2⟩
def Txt.Nm(T:Txt K mg a):a.bV≠a.bW/\a.bX≠a.bW/\a.bX≠a.bV/\a.dB≠a.bW/\a.dB≠a.bV/\a.fE≠a.bV/\a.fq≠a.bV/\a.dB≠a.bX:=by
 have h:=T.nC;simp only[kQ,bN,not_or,yj]at h;obtain⟨hL,hF,hN,hC,hK,hM,hR,hV,hS⟩:=h;exact⟨λz=>hN.2.2.2.2.1 z.symm,λz=>hN.2.2.2.2.2.1 z.symm,λz=>hV.1 z.symm,λz=>hN.2.2.2.1 z.symm,hR.1,hL.2.2.2.2.2.2.1,hF.2.2.2.2.2.1,hR.2.1⟩
theorem jE.same{S:Addr}(h:jE a H S p dk dn vl aS s)(k:az H H'):jE a H' S p dk dn vl aS s:=by
 obtain⟨⟨dx,h1⟩,h2,h3,h4,h5⟩:=h;exact⟨⟨dx,k _ _ h1⟩,h2.same k,k _ _ h3,eT.imp h4 λ_ _ _ _ x=>x.same k,h5⟩
def Z4(T:Txt K mg a){S:Addr}(h:jE a H S p dk dn vl aS s):∀b∈ [p,dk,dn],(∀dx fs,H b≠some (.ins a.bV dx fs))/\∀xs,H b≠some (.tup xs):=λb hb=>by
 obtain⟨dx,h1⟩:=h.jb.obj;obtain⟨ob,h2⟩:=h.jb.kept;simp only[bN,yj,or_false]at hb;rcases hb with rfl|rfl|rfl
 ·exact⟨λdx fs z=>(by rw[h1]at z;have z:=fG z;injection z with z;exact T.Nm.1 z.symm),λxs z=>(by rw[h1]at z;cases z)⟩
 ·exact⟨λdx fs z=>(by rw[h2]at z;cases z),λxs z=>(by rw[h2]at z;cases z)⟩
 ·exact⟨λdx fs z=>(by rw[h.jb.nums]at z;cases z),λxs z=>(by rw[h.jb.nums]at z;cases z)⟩
def jE.nodes(T:Txt K mg a){S:Addr}(h:jE a H S p dk dn vl aS s)(k:aH [p,dk,dn] H H'){st:bI}(n:jt a H' p dk dn st):jE a H' S p dk dn vl aS {s with store:=st}:=by
 have hn:=Z4 T h;obtain⟨⟨dx,h1⟩,h2,h3,h4,h5⟩:=h;refine⟨⟨dx,k _ _ h1 (h2.ins h1 T.Nm.2.1)⟩,n,k _ _ h3 (h2.lst h3),eT.imp h4 λ_ _ _ _ x=>x.keep k hn,h5⟩
inductive EL(a:Ad)(vs:List V)(H:Hp)(Q:VK)(gc:XK):Prop
 |mk (q dx:Addr) (top:Nat) (t:Addr) (_:vs=[.ref q,.int (top:Int),.ref t]) (_:H q=some (.ins a.bV dx [])) (_:∀H',H' q=some (.ins a.bV dx (vf top t true))->aH [q] H H'->Q .gq H')
inductive JO(a:Ad)(vs:List V)(H:Hp)(Q:VK)(gc:XK):Prop
 |mk (q dx:Addr) (_:vs=[.ref q]) (_:H q=some (.ins a.bX dx [])) (_:∀H' p dk dn vl aS,jE a H' q p dk dn vl aS Vbwsae.start->H vl=none->aH [q] H H'->Q .gq H')
inductive OE(a:Ad)(vs:List V)(H:Hp)(Q:VK)(gc:XK):Prop
 |mk (S p dk dn vl:Addr) (aS:List Addr) (s:Vbwsae.St) (v:Nat) (_:vs=[.ref S,.int (v:Int)]) (_:jE a H S p dk dn vl aS s) (_:Q (.bl (decide (v<s.versions.length))) H)
inductive Jj(a:Ad)(vs:List V)(H:Hp)(Q:VK)(gc:XK):Prop
 |mk (S p dk dn vl:Addr) (aS:List Addr) (s:Vbwsae.St) (v:Nat) (_:vs=[.ref S,.int (v:Int)]) (_:jE a H S p dk dn vl aS s) (_:Q (.bl (version s v).isSome) H)
inductive Tt(a:Ad)(vs:List V)(H:Hp)(Q:VK)(gc:XK):Prop
 |mk (S p dk dn vl:Addr) (aS:List Addr) (s:Vbwsae.St) (v:Nat) (x:Version) (_:vs=[.ref S,.int (v:Int)]) (_:jE a H S p dk dn vl aS s) (_:s.versions[v]? =some x) (_:Q (.int (x.node:Int)) H)
inductive JP(a:Ad)(vs:List V)(H:Hp)(Q:VK)(gc:XK):Prop
 |mk (S p dk dn vl:Addr) (aS:List Addr) (s:Vbwsae.St) (v:Nat) (x:Version) (_:vs=[.ref S,.int (v:Int)]) (_:jE a H S p dk dn vl aS s) (_:s.versions[v]? =some x) (_:∀t,H t=some (.tup (lK x.parents))->Q (.ref t) H)
inductive VW(a:Ad)(vs:List V)(H:Hp)(Q:VK)(gc:XK):Prop
 |mk (S p dk dn vl:Addr) (aS:List Addr) (s:Vbwsae.St) (v:Nat) (_:vs=[.ref S,.int (v:Int)]) (_:jE a H S p dk dn vl aS s) (_:v<s.versions.length) (_:∀H',jE a H' S p dk dn vl aS {s with versions:=s.versions.modify v λx=>{x with held:=false}}->aH aS H H'->Q .gq H')
inductive VX(a:Ad)(vs:List V)(H:Hp)(Q:VK)(gc:XK):Prop
 |mk (S p dk dn vl:Addr) (aS:List Addr) (s:Vbwsae.St) (_:vs=[.ref S]) (_:jE a H S p dk dn vl aS s) (_:s.versions.length<=200) (_:∀H' D,H D=none->H' D=some (.lst (lK ((List.range s.versions.length).filter λv=>(version s v).isSome)))->az H H'->Q (.ref D) H')
def uf{x:Version}(h:s.versions[v]? =some x):(version s v).isSome=x.held:=by
 unfold version;rw[h];cases e:x.held<;>simp[e]
theorem AW{R R':α->β->Prop}{f:β->β}:∀{as:List α} {bs:List β} {v:Nat} {q:α},eT R as bs->as.Nodup->as[v]? =some q->(∀x y,x≠q->R x y->R' x y)->(∀y,R q y->R' q (f y))->eT R' as (bs.modify v f)
 | [],_,_,_,_,_,h,_,_=>by simp at h
 |a::as,_,v,q,.cons h t,nd,hv,k1,k2=>by
  obtain⟨n1,n2⟩:=kQ.mp nd;cases v with
  |zero=>
   simp at hv;subst hv;rw[List.modify_zero_cons];refine .cons (k2 _ h) (t.imp λx y hx _ r=>k1 x y (λz=>n1 (z▸hx)) r)
  |succ v=>
   simp at hv;rw[List.modify_succ_cons];refine .cons (k1 _ _ (λz=>n1 (z▸l_ hv)) h) (AW t n2 hv k1 k2)
def sV(T:Txt K mg a):aT P w K mg base cR 1 a.fS.1 a.fS.2 ["self","top","parents"] (EL a):=by
 refine T.fS.F.ok B8 (λvs H Q E h=>?_) (λcdv A outer s0 H vs Q E hr h=>?_)
 ·obtain⟨q,dx,top,t,rfl,_⟩:=h;rfl
 obtain⟨q,dx,top,t,rfl,hq,kk⟩:=h;refine⟨_,(ak (d8 (pv 0) (pv 1) rfl) (ak (d8 (pv 0) (pv 2) rfl) (ao (d8 (pv 0) k9 rfl)))),?_⟩;refine⟨_,rfl,_,rfl,q,_,dx,_,rfl,hq,T.kW,T.vm,by decide,?_⟩;refine⟨_,rfl,_,rfl,q,_,dx,_,rfl,af,T.kW,T.pA,(by show 1<1000;decide),?_⟩;refine⟨_,rfl,q,_,dx,_,rfl,af,T.kW,T.nF,(by show 2<1000;decide),?_⟩;refine kk _ af λb o e hb=>?_
 have hb:b≠q:=by simpa using hb
 rw[ai hb,ai hb,ai hb];exact e
def EM(T:Txt K mg a):aT P w K mg base cR 3 a.jk.1 a.jk.2 ["self"] (JO a):=by
 refine T.jk.F.ok EA (λvs H Q E h=>?_) (λcdv A outer s0 H vs Q E hr h=>?_)
 ·obtain⟨q,dx,rfl,_⟩:=h;rfl
 obtain⟨q,dx,rfl,hq,kk⟩:=h;obtain⟨tk,hN⟩:=T.jC;refine⟨_,(ak (d8 (pv 0) (CT T.Q4 (EC T) hr.lt rfl T.Q2 T.jj.b .nil aA) rfl) (ao (d8 (pv 0) (bF (aa (l5 T.Dn (sV T) hr.lt rfl T.Dm T.fS.b .nil aA (aa (dj rfl hN) (aa (j7 ah) ah))) ah)) rfl))),?_⟩;intro p dp hp Cg nep;refine⟨p,dp,rfl,af,λdk dn H1 R1 K1=>⟨rfl,?_⟩⟩;have S1:az H H1:=λb o e=>K1 b o (by rw[ai (aj e hp),ai (aj e Cg)];exact e) (by simpa using aj e hp)
 have hq1:=S1 _ _ hq;refine⟨_,rfl,q,_,dx,_,rfl,hq1,T.aE,T.aU,by decide,?_⟩;refine⟨fC _,λt ht=>?_⟩;intro v dv hv hdv nev;refine⟨v,dv,0,t,rfl,af,λH2 h2 K2=>⟨rfl,?_⟩⟩;refine⟨(by show 1<=sizeLine;decide),λvl hvl=>?_⟩;have R7:q≠t:=aj af ht
 have nqv:q≠v:=aj (H:=L2.upd (L2.upd H1 q (.ins a.bX dx (kY "nodes" (.ref p) []))) t (.tup [])) (by rw[ai R7];exact af) hv;have S2:az (L2.upd (L2.upd H1 q (.ins a.bX dx (kY "nodes" (.ref p) []))) t (.tup [])) H2:=λb o e=>K2 b o (by rw[ai (aj e hv),ai (aj e hdv)];exact e) (by simpa using aj e hv)
 have hq2:H2 q=some (.ins a.bX dx [("nodes",.ref p)]):=S2 _ _ (by rw[ai R7];exact af);have Oo:H2 t=some (.tup []):=S2 _ _ af
 have Lp:q≠vl:=aj hq2 hvl;refine⟨_,rfl,q,_,dx,_,rfl,(by rw[ai Lp];exact hq2),T.aE,T.bY,(by show 1<1000;decide),?_⟩;have htq:L2.upd H1 q (.ins a.bX dx (kY "nodes" (.ref p) [])) t=none:=ht
 have kq:aH [q] H1 (L2.upd (L2.upd H2 vl (.lst [.ref v])) q (.ins a.bX dx (kY "versions" (.ref vl) [("nodes",.ref p)]))):=
  (((aH.upd (bU ..)).trans (aH.of (az.new htq))).trans (aH.of S2)).trans ((aH.of (az.new hvl)).trans (aH.upd (bU ..)))
 have N1:jt a H1 p dk dn []:=⟨_,_,R1⟩;obtain⟨Qi,hp1⟩:=N1.obj;obtain⟨ob,hk1⟩:=N1.kept;have al:∀b∈ [q],v9 a p dk dn H1 b:=λb hb=>by
  rw[cY.mp hb];have hn:=N1.ins hq1 T.Nm.2.1
  simp at hn;refine⟨hn.1,hn.2.1,hn.2.2,λo e c=>?_⟩;rw[hq1]at e;cases e;have hc:=T.nC
  simp only[kQ,bN,not_or,yj]at hc;rcases c with⟨_,_,c⟩|⟨_,_,c⟩|⟨_,c⟩
  ·injection c with c;exact hc.1.2.2.2.2.2.2.2.1 c.symm
  ·injection c with c;exact hc.2.1.2.2.2.2.2.2.1 c.symm
  ·cases c
 have nvq:v≠q:=nqv.symm;have Z5:v≠vl:=aj h2 hvl
 refine kk _ p dk dn vl [v] ⟨⟨dx,by rw[af];rfl⟩,N1.keep kq al,by rw[ai Lp.symm,af];rfl,.cons ⟨dv,t,?_,?_⟩ .nil,by simp⟩ ?_ ((aH.of S1).trans kq)
 ·rw[ai nvq,ai Z5];exact h2
 ·rw[ai R7.symm,ai (aj Oo hvl)];exact Oo
 ·cases e:H vl with
  |none=>rfl
  |some o=>rw[S2 _ _ (by rw[ai (aj (by rw[ai Lp.symm];exact S1 _ _ e) htq),ai Lp.symm];exact S1 _ _ e)]at hvl;cases hvl
def AX(T:Txt K mg a):aT P w K mg base cR 1 a.dI.1 a.dI.2 ["self","version"] (OE a):=by
 refine T.dI.F.ok zC (λvs H Q E h=>?_) (λcdv A outer s0 H vs Q E hr h=>?_)
 ·obtain⟨S,p,dk,dn,vl,aS,s,v,rfl,_⟩:=h;rfl
 obtain⟨S,p,dk,dn,vl,aS,s,v,rfl,A1,kk⟩:=h;obtain⟨dx,h1⟩:=A1.obj;refine⟨_,(ao (aC (B3 (GX (pv 1) (aV bg rfl T.iy rfl (aa (au (pv 0) rfl) ah)))))),?_⟩;refine⟨_,rfl,_,rfl,S,_,dx,_,_,rfl,h1,T.aE,T.bY,rfl,vl,_,rfl,.inl (aX.of A1.tK),_,_,rfl,rfl,?_⟩;rw[aO,A1.Gp.len];have e:decide ((v:Int)<(s.versions.length:Int))=decide (v<s.versions.length):=by rw[qj,cQ,cQ];omega
 show Q (.bl (decide ((v:Int)<(s.versions.length:Int)))) H
 rw[e];exact kk
def rm(T:Txt K mg a):aT P w K mg base cR 2 a.b7.1 a.b7.2 ["self","version"] (Jj a):=by
 refine T.b7.F.ok Ar (λvs H Q E h=>?_) (λcdv A outer s0 H vs Q E hr h=>?_)
 ·obtain⟨S,p,dk,dn,vl,aS,s,v,rfl,_⟩:=h;rfl
 obtain⟨S,p,dk,dn,vl,aS,s,v,rfl,A1,kk⟩:=h;obtain⟨dx,h1⟩:=A1.obj;refine⟨_,(ao (aC (KD (aI (pv 0) T.aE T.dI.m (AX T) hr.lt T.dI.b .nil aA (aa (pv 1) ah)) (KC (au (a_ aK (au (pv 0) rfl) (pv 1) (λ_ _=>rfl)) rfl))))),?_⟩;refine⟨_,rfl,S,dx,_,rfl,h1,rfl,_,rfl,S,p,dk,dn,vl,aS,s,v,rfl,A1,_,rfl,?_⟩;refine gM cQ (λc=>?_) (λc=>?_)
 ·obtain⟨q,hq,dv,t,o1,o2⟩:=A1.Gp.get' (iw c);rw[uf (iw c)]at kk;exact⟨_,rfl,S,_,dx,_,_,rfl,h1,T.aE,T.bY,rfl,_,rfl,vl,_,_,_,rfl,rfl,aX.of A1.tK,aL (by rw[fj,hq];rfl),q,_,dv,_,_,rfl,o1,T.kW,T.nF,rfl,kk⟩
 ·have e:(version s v).isSome=false:=by unfold version;rw[qh (by omega)];rfl
  rw[e]at kk;exact kk
def dw(T:Txt K mg a):aT P w K mg base cR 1 a.aG.1 a.aG.2 ["self","version"] (Tt a):=by
 refine T.aG.F.ok B9 (λvs H Q E h=>?_) (λcdv A outer s0 H vs Q E hr h=>?_)
 ·obtain⟨S,p,dk,dn,vl,aS,s,v,x,rfl,_⟩:=h;rfl
 obtain⟨S,p,dk,dn,vl,aS,s,v,x,rfl,A1,hx,kk⟩:=h;obtain⟨dx,h1⟩:=A1.obj;obtain⟨q,hq,dv,t,o1,o2⟩:=A1.Gp.get' hx;refine⟨_,(ao (aC (au (a_ aK (au (pv 0) rfl) (pv 1) (λ_ _=>rfl)) rfl))),?_⟩;exact⟨_,rfl,S,_,dx,_,_,rfl,h1,T.aE,T.bY,rfl,_,rfl,vl,_,_,_,rfl,rfl,aX.of A1.tK,aL (by rw[fj,hq];rfl),q,_,dv,_,_,rfl,o1,T.kW,T.vm,rfl,kk⟩
def wO(T:Txt K mg a):aT P w K mg base cR 1 a.cJ.1 a.cJ.2 ["self","version"] (JP a):=by
 refine T.cJ.F.ok v7 (λvs H Q E h=>?_) (λcdv A outer s0 H vs Q E hr h=>?_)
 ·obtain⟨S,p,dk,dn,vl,aS,s,v,x,rfl,_⟩:=h;rfl
 obtain⟨S,p,dk,dn,vl,aS,s,v,x,rfl,A1,hx,kk⟩:=h;obtain⟨dx,h1⟩:=A1.obj;obtain⟨q,hq,dv,t,o1,o2⟩:=A1.Gp.get' hx;refine⟨_,(ao (aC (au (a_ aK (au (pv 0) rfl) (pv 1) (λ_ _=>rfl)) rfl))),?_⟩;exact⟨_,rfl,S,_,dx,_,_,rfl,h1,T.aE,T.bY,rfl,_,rfl,vl,_,_,_,rfl,rfl,aX.of A1.tK,aL (by rw[fj,hq];rfl),q,_,dv,_,_,rfl,o1,T.kW,T.pA,rfl,kk t o2⟩
def Tu(T:Txt K mg a):aT P w K mg base cR 1 a.jl.1 a.jl.2 ["self","version"] (VW a):=by
 refine T.jl.F.ok wB (λvs H Q E h=>?_) (λcdv A outer s0 H vs Q E hr h=>?_)
 ·obtain⟨S,p,dk,dn,vl,aS,s,v,rfl,_⟩:=h;rfl
 obtain⟨S,p,dk,dn,vl,aS,s,v,rfl,A1,hv,kk⟩:=h;obtain⟨dx,h1⟩:=A1.obj;obtain⟨q,hq,dv,t,o1,o2⟩:=A1.Gp.get' (iw hv);refine⟨_,(ak (aJ (i:=2) wB.nd rfl (Or.inl rfl) (a_ aK (au (pv 0) rfl) (pv 1) (λ_ _=>rfl))) (ao (d8 (pv 2) k9 rfl))),?_⟩;refine⟨_,rfl,S,_,dx,_,_,rfl,h1,T.aE,T.bY,rfl,_,rfl,vl,_,_,_,rfl,rfl,aX.of A1.tK,aL (by rw[fj,hq];rfl),?_⟩;refine⟨_,rfl,q,_,dv,_,rfl,o1,T.kW,T.nF,(by show 3<1000;decide),?_⟩;have kq:aH [q] H (L2.upd H q (.ins a.bV dv (kY "held" (.bl false) (vf s.versions[v].node t s.versions[v].held)))):=aH.upd (bU ..)
 have hn:=A1.jb.ins o1 T.Nm.1;simp at hn;have hc:=T.nC
 simp only[kQ,bN,not_or,yj]at hc;have al:∀b∈ [q],v9 a p dk dn H b:=λb hb=>by
  rw[cY.mp hb];refine⟨hn.1,hn.2.1,hn.2.2,λo e c=>?_⟩;rw[o1]at e;cases e;rcases c with⟨_,_,c⟩|⟨_,_,c⟩|⟨_,c⟩
  ·injection c with c;exact hc.1.2.2.2.2.2.2.1 c.symm
  ·injection c with c;exact hc.2.1.2.2.2.2.2.1 c.symm
  ·cases c
 have nSq:S≠q:=λz=>by rw[z,o1]at h1;have z:=fG h1;injection z with z;exact T.Nm.2.2.1 z.symm
 refine kk _ ⟨⟨dx,by rw[ai nSq];exact h1⟩,A1.jb.keep kq al,by rw[ai (bh A1.tK o1 (by intro z;cases z))];exact A1.tK,?_,A1.nd⟩ (kq.mono λb hb=>by rw[cY.mp hb];exact l_ hq);refine AW A1.Gp A1.nd hq (λx y hx r=>?_) (λy r=>?_)
 ·obtain⟨d',t',r1,r2⟩:=r;exact⟨d',t',by rw[ai hx];exact r1,by rw[ai (bh r2 o1 (by intro z;cases z))];exact r2⟩
 ·obtain⟨d',t',r1,r2⟩:=r;rw[o1]at r1;have z:=fG r1
  injection z with z1 z2 z3
  injection z3 with w1 w2
  injection w2 with w2 w3
  injection w1 with _ w1
  injection w2 with _ w2
  injection w1 with w1
  injection w2 with w2
  refine⟨dv,t,?_,by rw[ai (bh o2 o1 (by intro z;cases z))];rw[w2];exact r2⟩;rw[af];have w1':s.versions[v].node=y.node:=by omega
  rw[w1'];rfl
def mO(T:Txt K mg a):aT P w K mg base cR 3 a.bu.1 a.bu.2 ["self"] (VX a):=by
 refine T.bu.F.ok jG (λvs H Q E h=>?_) (λcdv A outer s0 H vs Q E hr h=>?_)
 ·obtain⟨S,p,dk,dn,vl,aS,s,rfl,_⟩:=h;rfl
 obtain⟨S,p,dk,dn,vl,aS,s,rfl,A1,hz,kk⟩:=h;obtain⟨dx,h1⟩:=A1.obj;refine⟨_,(ao (aC (vZ (own:=[("number",1)]) (tt:=tB (GY a.bX "is_held" (Jj a) [] E0 (l9 0) (pL (l9 1) xX))) rfl jG.nd (NR rfl T.ue (aa (aV bg rfl T.iy rfl (aa (au (pv 0) rfl) ah)) ah)) (jU rfl) (λs H C cl fp=>b_ (i:=1) jG.nd rfl (Or.inl rfl)) (λs H C cl fp=>Bu (fD (aI (pv 0) T.aE T.b7.m (rm T) hr.lt T.b7.b .nil aA (aa (pv 1) ah)))) (λs H C cl fp=>pv 1)))),?_⟩;refine⟨_,rfl,S,_,dx,_,_,rfl,h1,T.aE,T.bY,rfl,vl,_,rfl,.inl (aX.of A1.tK),_,rfl,by omega,?_,λD hD=>?_⟩
 ·rw[aO,A1.Gp.len];omega
 have en:(((aS.map V.ref).length:Nat):Int).toNat=s.versions.length:=by rw[aO,A1.Gp.len];omega
 rw[en];refine QH (λi H2=>H2=L2.upd H D (.lst (lK ((List.range i).filter λv=>(version s v).isSome)))) rfl (λi H2 hi e=>?_) (λH2 e=>?_)
 ·subst e;have A2:=A1.same (az.new (o:= .lst (lK ((List.range i).filter λv=>(version s v).isSome))) hD)
  obtain⟨mX,h2⟩:=A2.obj;refine⟨rfl,?_⟩;refine⟨_,rfl,S,mX,_,rfl,h2,rfl,_,rfl,S,p,dk,dn,vl,aS,s,i,by simp,A2,_,rfl,?_⟩;rw[List.range_succ,Bh];cases hh:(version s i).isSome
  ·refine fu ?_;simp[hh]
  ·refine dF ⟨_,rfl,_,af,?_,?_⟩
   ·rw[lK,aO];exact eZ (tU (Bf _ _) (by simp;omega))
   ·rw[qM];simp[hh,lK]
 ·subst e;exact kk _ D hD af (az.new hD)
inductive OF(a:Ad)(vs:List V)(H:Hp)(Q:VK)(gc:XK):Prop
 |mk (S p dk dn vl:Addr) (aS:List Addr) (s:Vbwsae.St) (i k:Nat) (o:Option Int) (_:vs=[.ref S,.int (i:Int),.int (k:Int),oh o]) (_:jE a H S p dk dn vl aS s) (_:SM.Good s.store) (_:s.store.length<=4000) (_:SM.Top s.store i) (_:k<2^40) (_:∀H',jt a H' p dk dn (SM.FE (s.store,i) (k,o)).1->aH [p,dk,dn] H H'->Q (.int ((SM.FE (s.store,i) (k,o)).2:Nat)) H')
inductive wQ(a:Ad)(vs:List V)(H:Hp)(Q:VK)(gc:XK):Prop
 |mk (S p dk dn vl wl t:Addr) (aS ts:List Addr) (s:Vbwsae.St) (i:Nat) (ws:List (Nat×Option Int)) (gO:List Nat) (_:vs=[.ref S,.int (i:Int),.ref wl,.ref t]) (_:jE a H S p dk dn vl aS s) (_:SM.Good s.store) (_:s.store.length<=4000) (_:SM.Top s.store i) (_:(∀x∈ws,x.1<2^40)) (_:H wl=some (.lst (ts.map V.ref))) (_:oj H ts ws) (_:H t=some (.tup (lK gO))) (_:∀H' D ja,H D=none->Row H' D (newVersion s gO (SM.e8 (s.store,i) ws) []).2->jE a H' S p dk dn vl ja (newVersion s gO (SM.e8 (s.store,i) ws) []).1->(∀b,H b≠none->b∈ja->b∈aS)->aH [p,dk,dn,vl] H H'->Q (.ref D) H')
def Tv(s:bI)(i:Nat)(x:Nat×Option Int):(SM.FE (s,i) x).1.length<=s.length+42:=by
 unfold SM.FE;cases x.2 with
 |none=>have:=SM.xC x.1 41 s i;show(delAt Vbwsae.same x.1 41 s i).1.length<=_;omega
 |some v=>have:=SM.xB x.1 v 41 s i;show(Vbwsae.putAt Vbwsae.same x.1 v 41 s i).1.length<=_;omega
def OG(x:bI×Nat)(ws:List (Nat×Option Int))(y:Nat×Option Int):SM.e8 x (ws++[y])=SM.FE (SM.e8 x ws) y:=by simp[SM.e8,List.foldl_append]
def Ri(x:bI×Nat)(ws vs:List (Nat×Option Int)):SM.e8 x (ws++vs)=SM.e8 (SM.e8 x ws) vs:=by simp[SM.e8,List.foldl_append]
def OH{s:bI}(G:SM.Good s):∀n b l r,nodeAt s n=some (.fork b l r)->l<=s.length:=λn b l r e=>by
 obtain⟨t,rp,_⟩:=G.tree n _ e;cases rp with
 |leaf e'=>rw[e]at e';cases e'
 |fork e' rl _=>rw[e]at e';cases e';exact rl.le
def L7(T:Txt K mg a):aT P w K mg base cR 47 a.fW.1 a.fW.2 ["self","top","key","value"] (OF a):=by
 refine T.fW.F.ok Au (λvs H Q E h=>?_) (λcdv A outer s0 H vs Q E hr h=>?_)
 ·obtain⟨S,p,dk,dn,vl,aS,s,i,k,o,rfl,_⟩:=h;rfl
 obtain⟨S,p,dk,dn,vl,aS,s,i,k,o,rfl,A1,G,hz,tp,hk,kk⟩:=h;obtain⟨dx,h1⟩:=A1.obj;obtain⟨t,r,hd,hs,_⟩:=tp.small;refine⟨_,(ak (bx (bf (KA (pv 3))) (ao (aC (aF (AR T 41) hr.lt rfl T.gh.m T.gh.F.kp T.gh.b .nil aA (aa (au (pv 0) rfl) (aa (pv 1) (aa (pv 2) ah)))))) aN) (ao (aC (aF (zb T 41) hr.lt rfl T.e9.m T.e9.F.kp T.e9.b .nil aA (aa (au (pv 0) rfl) (aa (pv 1) (aa (pv 2) (aa (pv 3) ah)))))))),?_⟩;refine⟨_,rfl,?_⟩;cases o with
 |none=>
  exact⟨_,rfl,dF ⟨_,rfl,S,_,dx,_,_,rfl,h1,T.aE,T.aU,rfl,_,rfl,_,rfl,p,dk,dn,s.store,i,k,t,rfl,A1.jb,G.uniq,by omega,by decide,r,hd,kk⟩⟩
 |some x=>
  exact⟨_,rfl,fu ⟨_,rfl,S,_,dx,_,_,rfl,h1,T.aE,T.aU,rfl,_,rfl,_,rfl,_,rfl,p,dk,dn,s.store,i,k,x,t,rfl,A1.jb,G.uniq,by omega,hk,by decide,by decide,r,hd,hs,kk⟩⟩
def jM(T:Txt K mg a):aT P w K mg base cR 48 a.aW.1 a.aW.2 ["self","top","writes","parents"] (wQ a):=by
 refine T.aW.F.ok iB (λvs H Q E h=>?_) (λcdv A outer s0 H vs Q E hr h=>?_)
 ·obtain⟨S,p,dk,dn,vl,wl,t,aS,ts,s,i,ws,gO,rfl,_⟩:=h;rfl
 obtain⟨S,p,dk,dn,vl,wl,t,aS,ts,s,i,ws,gO,rfl,A1,G,hz,tp,hk,hwl,hW,ht,kk⟩:=h;obtain⟨dx,h1⟩:=A1.obj;obtain⟨t1,g1⟩:=T.sR;obtain⟨t2,g2⟩:=T.v8;obtain⟨t3,g3⟩:=T.Hj;obtain⟨t4,g4⟩:=T.Ax;refine⟨_,(ak (bx (bf (Le (aV bg rfl T.iy rfl (aa (au (pv 0) rfl) ah)) (dj rfl g1))) (ao (aC (bF (aa (dj rfl g2) ah)))) aN) (ak (aJ (i:=4) iB.nd rfl (Or.inl rfl) (au (au (pv 0) rfl) rfl)) (ak (jf kE rfl (i6 (pv 2)) (b_ (i:=5) iB.nd rfl (Or.inl rfl))
   (ak (aJ (i:=1) iB.nd rfl (Or.inl rfl) (aI (pv 0) T.aE T.fW.m (L7 T) hr.lt T.fW.b .nil aA (aa (pv 1) (aa (a_ sL (pv 5) aD (λ_ _=>rfl)) (aa (a_ sL (pv 5) aD (λ_ _=>rfl)) ah))))) (ao (bx (bf (Ld (au (au (pv 0) rfl) rfl) (dj rfl g3))) (ak (bQ (aI (au (pv 0) rfl) T.aM T.dX.m (EE T) hr.lt T.dX.b .nil aA (aa (pv 4) ah))) (ao (aC (bF (aa (dj rfl g4) ah))))) aN)))) (ak (bQ (kF kD pG pF gA (au (pv 0) rfl) (aa (l5 T.Dn (sV T) hr.lt rfl T.Dm T.fS.b .nil aA (aa (pv 1) (aa (pv 3) ah))) ah))) (ao (aC (bF (aa (cU FP (aV bg rfl T.iy rfl (aa (au (pv 0) rfl) ah)) aD) (aa (cU FP (au (au (pv 0) rfl) rfl) (pv 4)) ah))))))))),?_⟩
 have hvl:=A1.Gp.len;refine⟨_,rfl,S,_,dx,_,_,rfl,h1,T.aE,T.bY,rfl,vl,_,rfl,.inl (aX.of A1.tK),_,_,rfl,rfl,_,rfl,?_⟩;rw[aO,hvl];refine gM cQ (λc=>?_) (λc=>?_)
 ·have e:newVersion s gO (SM.e8 (s.store,i) ws) []=(s,[-3]):=ay (show 200<=s.versions.length by omega);rw[e]at kk;exact⟨(by show 1<=sizeLine;decide),λD hD=>kk _ D aS hD af (A1.same (az.new hD)) (λb _ h=>h) (aH.of (az.new hD))⟩
 have WY:¬VERSIONS<=s.versions.length:=by show¬200<=s.versions.length;omega
 obtain⟨Qi,hp1⟩:=A1.jb.obj;refine⟨_,rfl,S,_,dx,_,_,rfl,h1,T.aE,T.aU,rfl,p,_,Qi,_,_,rfl,hp1,T.aM,T.fc,rfl,?_⟩;have final:∀m,SM.jY (SM.e8 (s.store,i) (ws.take m)).1 (SM.e8 (s.store,i) ws).1:=λm=>by
  have h0:=SM.qL (ws:=ws.take m) G tp λx hx=>hk x (BL hx)
  have h2:=SM.qL (ws:=ws.drop m) h0.2.1 h0.2.2 λx hx=>hk x (List.mem_of_mem_drop hx)
  rw[<- Ri,List.take_append_drop]at h2;exact h2.1
 refine⟨_,rfl,wl,rfl,⟨_,aX.of hwl⟩,jT (K:=K) (xs:=ts.map V.ref) (λm σ H2=>∃v,σ=[some (.ref S),some (.int ((SM.e8 (s.store,i) (ws.take m)).2:Nat)),some (.ref wl),some (.ref t),some (.int (s.store.length:Int)),v]/\jt a H2 p dk dn (SM.e8 (s.store,i) (ws.take m)).1/\(SM.e8 (s.store,i) (ws.take m)).1.length<=4000/\aH [p,dk,dn] H H2) ⟨none,rfl,A1.jb,hz,aH.refl _ _⟩ (λm σ H2 _ h0=>by obtain⟨_,_,_,_,K2⟩:=h0;exact aX.of (K2 _ _ hwl (A1.jb.lst hwl))) ?_ ?_⟩
 ·rintro m x σ H2 hx ⟨v,rfl,N2,hz2,K2⟩
  rw[fj]at hx;obtain⟨q,hq,rfl⟩:=f_.mp hx;obtain⟨y,hy,hO⟩:=hW.get hq;have VQ:=K2 _ _ hO (A1.jb.tup hO)
  have A2:=A1.nodes T K2 N2;obtain⟨mX,h2⟩:=A2.obj;have h0:=SM.qL (ws:=ws.take m) G tp λx hx=>hk x (BL hx)
  refine⟨_,rfl,S,mX,_,rfl,h2,rfl,_,rfl,_,rfl,q,_,_,_,rfl,rfl,mW.of VQ,aL (j:=0) rfl,_,rfl,q,_,_,_,rfl,rfl,mW.of VQ,aL (j:=1) rfl,?_⟩;refine⟨S,p,dk,dn,vl,aS,_,_,y.1,y.2,rfl,A2,h0.2.1,hz2,h0.2.2,hk y (l_ hy),λH3 N3 K3=>?_⟩;have ew:SM.FE ((SM.e8 (s.store,i) (ws.take m)).1,(SM.e8 (s.store,i) (ws.take m)).2) (y.1,y.2)=SM.e8 (s.store,i) (ws.take (m+1)):=by rw[take_snoc hy,OG]
  have zl:=Tv (SM.e8 (s.store,i) (ws.take m)).1 (SM.e8 (s.store,i) (ws.take m)).2 (y.1,y.2);have h0':=SM.qL (ws:=ws.take (m+1)) G tp λx hx=>hk x (BL hx)
  have N3:jt a H3 p dk dn (SM.e8 (s.store,i) (ws.take (m+1))).1:=ew▸N3;rw[ew]at zl;have VY:=K2.trans K3
  have A3:=A1.nodes T VY N3;obtain⟨Ji,h3⟩:=A3.obj;obtain⟨WZ,hp3⟩:=N3.obj;refine⟨_,rfl,S,_,Ji,_,_,rfl,h3,T.aE,T.aU,rfl,p,_,WZ,_,_,rfl,hp3,T.aM,T.fc,rfl,_,_,rfl,rfl,_,rfl,?_⟩;refine gM cQ (λc4=>?_) (λc4=>?_)
  ·refine⟨_,rfl,S,_,Ji,_,_,rfl,h3,T.aE,T.aU,rfl,p,WZ,_,rfl,hp3,rfl,_,rfl,p,dk,dn,s.store,_,rfl,N3,OH G,h0'.1,by omega,λH4 N4 K4=>?_⟩;refine⟨(by show 1<=sizeLine;decide),λD hD=>?_⟩;have e:newVersion s gO (SM.e8 (s.store,i) ws) []=(s,[-4]):=by
    unfold newVersion;rw[aq WY];refine ay ?_;have:=(final (m+1)).len
    show 4000<_
    omega
   rw[e]at kk;have A4:=A1.nodes T (VY.trans K4) N4
   have Ag:H D=none:=by
    cases eD:H D with
    |none=>rfl
    |some o=>
     by_cases hm:D∈ [p,dk,dn]
     ·simp at hm;obtain⟨dd,e1⟩:=N4.obj;obtain⟨oo,e2⟩:=N4.kept;rcases hm with rfl|rfl|rfl
      ·rw[e1]at hD;cases hD
      ·rw[e2]at hD;cases hD
      ·rw[N4.nums]at hD;cases hD
     ·rw[(VY.trans K4) _ _ eD hm]at hD;cases hD
   exact kk _ D aS Ag af (A4.same (az.new hD)) (λb _ h=>h) (((VY.trans K4).mono (by simp)).trans (aH.of (az.new hD)))
  ·exact⟨_,by rw[<- ew];rfl,N3,by omega,VY⟩
 ·rintro σ H2 ⟨v,rfl,N2,hz2,K2⟩
  rw[aO,hW.len,i9]at N2 hz2⊢;have A2:=A1.nodes T K2 N2
  obtain⟨mX,h2⟩:=A2.obj;have Oo:=K2 _ _ ht (A1.jb.tup ht)
  refine⟨_,rfl,S,_,mX,_,_,rfl,h2,T.aE,T.bY,rfl,.inl ⟨rfl,_,aX.of A2.tK⟩,_,rfl,_,rfl,λq dq hq KU hne=>?_⟩;refine⟨q,dq,_,t,rfl,af,λH3 h3 K3=>⟨rfl,?_⟩⟩;have S3:az H2 H3:=λb o e=>K3 b o (by rw[ai (aj e hq),ai (aj e KU)];exact e) (by simpa using aj e hq)
  have A3:=A2.same S3;refine⟨vl,_,_,rfl,rfl,A3.tK,by rw[aO,hvl];exact eZ (by omega),?_⟩;have Lp:q≠vl:=bh h3 A3.tK (by intro z;cases z)
  have kv:aH [vl] H3 (L2.upd H3 vl (.lst (aS.map V.ref++[.ref q]))):=aH.upd (bU ..);have N4:=A3.jb.keep kv (A3.jb.RM A3.tK)
  obtain⟨Ji,hS3⟩:=A3.obj;have hS4:=kv.ins hS3 A3.tK (by intro _ _ _ z;cases z)
  have pN:q∉aS:=λz=>by
   obtain⟨y,_,dd,tt,e1,_⟩:=A2.Gp.mem z;rw[e1]at hq;cases hq
  have A4:jE a (L2.upd H3 vl (.lst (aS.map V.ref++[.ref q]))) S p dk dn vl (aS++[q]) {store:=(SM.e8 (s.store,i) ws).1,versions:=s.versions++[{node:=(SM.e8 (s.store,i) ws).2,parents:=gO}]}:=by
   refine⟨⟨Ji,hS4⟩,N4,by rw[af];simp,(eT.imp A3.Gp λx y _ _ r=>r.keep kv λb hb=>?_).append (.cons ⟨dq,t,?_,?_⟩ .nil),yq.mpr ⟨A1.nd,by simp,λx hx y hy=>?_⟩⟩
   ·rw[cY.mp hb];exact⟨λdx fs z=>(by rw[A3.tK]at z;cases z),λxs z=>(by rw[A3.tK]at z;cases z)⟩
   ·rw[ai Lp];exact h3
   ·rw[ai (bh (S3 _ _ Oo) A3.tK (by intro z;cases z))];exact S3 _ _ Oo
   ·rw[cY.mp hy];intro z;exact pN (z▸hx)
  obtain⟨Ux,h4⟩:=A4.obj;obtain⟨Z6,hp4⟩:=A4.jb.obj;refine⟨_,rfl,S,_,Ux,_,_,rfl,h4,T.aE,T.bY,rfl,vl,_,rfl,.inl (aX.of af),_,_,rfl,rfl,_,rfl,S,_,Ux,_,_,rfl,h4,T.aE,T.aU,rfl,p,_,Z6,_,_,rfl,hp4,T.aM,T.fc,rfl,_,rfl,_,_,rfl,rfl,iY,λD hD=>?_⟩;have h0:=SM.qL (ws:=ws) G tp hk
  have gl:=h0.1.len;have e:newVersion s gO (SM.e8 (s.store,i) ws) []=({store:=(SM.e8 (s.store,i) ws).1,versions:=s.versions++[{node:=(SM.e8 (s.store,i) ws).2,parents:=gO}]},[(s.versions.length:Int),(((SM.e8 (s.store,i) ws).1.length-s.store.length:Nat):Int)]):=by
   unfold newVersion;rw[aq WY,aq (show¬NODES<_ by show¬4000<_;omega)];rfl
  rw[e]at kk;have K4:aH [p,dk,dn,vl] H (L2.upd H3 vl (.lst (aS.map V.ref++[.ref q]))):=((K2.mono (by simp)).trans (aH.of S3)).trans (kv.mono (by simp))
  refine kk _ D (aS++[q]) ?_ ?_ (A4.same (az.new hD)) (λb hb hm=>?_) (K4.trans (aH.of (az.new hD)))
  ·cases eD:H D with
   |none=>rfl
   |some o=>
    by_cases hm:D∈ [p,dk,dn,vl]
    ·simp at hm;obtain⟨oo,e2⟩:=A4.jb.kept;rcases hm with rfl|rfl|rfl|rfl
     ·rw[hp4]at hD;cases hD
     ·rw[e2]at hD;cases hD
     ·rw[A4.jb.nums]at hD;cases hD
     ·rw[af]at hD;cases hD
    ·rw[K4 _ _ eD hm]at hD;cases hD
  ·show L2.upd _ D _ D=_
   rw[af];have e1:(((aS.map V.ref++[V.ref q]).length:Nat):Int)-1=(s.versions.length:Int):=by rw[gb,aO,hvl];simp
   have e2:(((SM.e8 (s.store,i) ws).1.length:Nat):Int)-(s.store.length:Int)=(((SM.e8 (s.store,i) ws).1.length-s.store.length:Nat):Int):=by omega
   show some (HO.lst [V.int ((((aS.map V.ref++[V.ref q]).length:Nat):Int)-1),V.int ((((SM.e8 (s.store,i) ws).1.length:Nat):Int)-(s.store.length:Int))])=_
   rw[e1,e2];rfl
  ·rcases dg.mp hm with z|z
   ·exact z
   ·rw[cY.mp z]at hb;have:H q=none:=by
     cases eD:H q with
     |none=>rfl
     |some o=>
      by_cases hm2:q∈ [p,dk,dn]
      ·simp at hm2;obtain⟨dd,e1⟩:=N2.obj;obtain⟨oo,e2⟩:=N2.kept;rcases hm2 with z|z|z
       ·rw[z,e1]at hq;cases hq
       ·rw[z,e2]at hq;cases hq
       ·rw[z,N2.nums]at hq;cases hq
      ·rw[K2 _ _ eD hm2]at hq;cases hq
    exact absurd this hb
inductive L8(a:Ad)(vs:List V)(H:Hp)(Q:VK)(gc:XK):Prop
 |mk (S p dk dn vl l:Addr) (aS:List Addr) (s:Vbwsae.St) (ns:List Nat) (_:vs=[.ref S,.ref l]) (_:jE a H S p dk dn vl aS s) (_:s.store.length<=4000) (_:H l=some (.lst (lK ns))) (_:(∀v∈ns,∃x,s.versions[v]? =some x/\SM.Top s.store x.node)) (_:∀H' d ks,H d=none->H' d=some (.dK (nk ks))->Bm s.store ks->(∀j,j∈ks↔∃v∈ns,∃x,s.versions[v]? =some x/\SM.Reach s.store x.node j)->az H H'->Q (.ref d) H')
def GI(s:Vbwsae.St):Prop:=∀(v:Nat) x,s.versions[v]? =some x->x.held=true->SM.Top s.store x.node
noncomputable def i7 (s:Vbwsae.St) (j:Nat):Bool:=(needed s).contains j
inductive OI(a:Ad)(vs:List V)(H:Hp)(Q:VK)(gc:XK):Prop
 |mk (S p dk dn vl:Addr) (aS:List Addr) (s:Vbwsae.St) (_:vs=[.ref S]) (_:jE a H S p dk dn vl aS s) (_:s.store.length<=4000) (_:s.versions.length<=200) (_:GI s) (_:∀H',jE a H' S p dk dn vl aS {s with store:=SM.qX (i7 s) s.store}->aH [p,dk,dn] H H'->Q (.int (((SM.rowsOf s.store).filter λr=>!i7 s r.1).length:Nat)) H')
inductive VZ(a:Ad)(vs:List V)(H:Hp)(Q:VK)(gc:XK):Prop
 |mk (S p dk dn vl:Addr) (aS:List Addr) (s:Vbwsae.St) (v:Nat) (_:vs=[.ref S,.int (v:Int)]) (_:jE a H S p dk dn vl aS s) (_:SM.Dz s.versions) (_:v<s.versions.length) (_:s.versions.length<=200) (_:∀H' d ks,H d=none->H' d=some (.dK (nk ks))->ks.Nodup->(∀k,k∈ks↔SM.uU s.versions v k)->az H H'->Q (.ref d) H')
inductive Rj(a:Ad)(vs:List V)(H:Hp)(Q:VK)(gc:XK):Prop
 |mk (S p dk dn vl:Addr) (aS:List Addr) (s:Vbwsae.St) (v u:Nat) (_:vs=[.ref S,.int (v:Int),.int (u:Int)]) (_:jE a H S p dk dn vl aS s) (_:SM.Dz s.versions) (_:v<s.versions.length) (_:u<s.versions.length) (_:s.versions.length<=200) (_:∀H',az H H'->Q (.int (Vbwsae.common s v u:Nat)) H')
def Gq:v∈(List.range s.versions.length).filter (λv=>(version s v).isSome)↔∃x,s.versions[v]? =some x/\x.held=true:=by
 rw[jN,vV];constructor
 ·rintro⟨h1,h2⟩
  exact⟨s.versions[v],iw h1,by rw[uf (iw h1)]at h2;exact h2⟩
 ·rintro⟨x,h1,h2⟩
  exact⟨(iu.mp h1).1,by rw[uf h1];exact h2⟩
def Dp(hT:GI s)(j:Nat):j∈needed s↔∃v∈(List.range s.versions.length).filter (λv=>(version s v).isSome),∃x,s.versions[v]? =some x/\SM.Reach s.store x.node j:=by
 have h:=SM.zS (s:=s) λx hx hh=>by
  obtain⟨v,hv⟩:=ye.mp hx;exact hT v x hv hh
 rw[h.2 j];constructor
 ·rintro⟨x,hx,hh,hr⟩
  obtain⟨v,hv⟩:=ye.mp hx;exact⟨v,Gq.mpr ⟨x,hv,hh⟩,x,hv,hr⟩
 ·rintro⟨v,hv,x,hx,hr⟩
  obtain⟨y,hy,hh⟩:=Gq.mp hv;rw[hx]at hy;cases hy;exact⟨x,l_ hx,hh,hr⟩
def OJ(h:k∈ks):putK (nk ks) (.inl (k:Int)) (.bl true)=nk ks:=by
 unfold putK;have hany:((nk ks).any λkv=>decide (kv.1=Sum.inl (k:Int)))=true:=List.any_eq_true.mpr ⟨(.inl (k:Int),.bl true),br.mpr ⟨k,h,rfl⟩,by simp⟩
 rw[ay hany];have:∀l:List Nat,(nk l).map (λkv=>if kv.1=Sum.inl (k:Int)then(kv.1,V.bl true)else kv)=nk l:=λl=>by
  induction l with
  |nil=>rfl
  |cons j l ih=>
   show(if(Sum.inl (j:Int):Key)=Sum.inl (k:Int)then((Sum.inl (j:Int):Key),V.bl true)else(Sum.inl (j:Int),V.bl true))::(nk l).map _=(Sum.inl (j:Int),V.bl true)::nk l
   rw[ih]
   split<;>rfl
 exact this ks
def Tw(ks:List Nat)(k:Nat):putK (nk ks) (.inl (k:Int)) (.bl true)=nk (if k∈ks then ks else ks++[k]):=by
 by_cases h:k∈ks
 ·rw[ay h,OJ h]
 ·rw[aq h,qt _ (Na h),Nb]
def oq(T:Txt K mg a):aT P w K mg base cR 44 a.bK.1 a.bK.2 ["self","versions"] (L8 a):=by
 refine T.bK.F.ok lD (λvs H Q E h=>?_) (λcdv A outer s0 H vs Q E hr h=>?_)
 ·obtain⟨S,p,dk,dn,vl,l,aS,s,ns,rfl,_⟩:=h;rfl
 obtain⟨S,p,dk,dn,vl,l,aS,s,ns,rfl,A1,hz,hl,hT,kk⟩:=h;refine⟨_,(ak (aJ (i:=2) lD.nd rfl (Or.inl rfl) tE) (ak (jf kE rfl (i6 (pv 1)) (b_ (i:=3) lD.nd rfl (Or.inl rfl)) (ao (bQ (aF (qS T 41) hr.lt rfl T.bR.m T.bR.F.kp T.bR.b .nil aA (aa (au (pv 0) rfl) (aa (aI (pv 0) T.aE T.aG.m (dw T) hr.lt T.aG.b .nil aA (aa (pv 3) ah)) (aa (pv 2) ah))))))) (ao (aC (pv 2))))),?_⟩;intro d hd;obtain⟨ob,hkd⟩:=A1.jb.kept;have ndk:d≠dk:=(aj hkd hd).symm
 refine⟨_,rfl,l,rfl,⟨_,aX.of (az.new hd _ _ hl)⟩,jT (K:=K) (xs:=lK ns) (λm σ H2=>∃v ks,σ=[some (.ref S),some (.ref l),some (.ref d),v]/\H2 d=some (.dK (nk ks))/\Bm s.store ks/\(∀j,j∈ks↔∃v∈ns.take m,∃x,s.versions[v]? =some x/\SM.Reach s.store x.node j)/\az H H2) ⟨none,[],rfl,af,⟨by simp,by simp⟩,by simp,az.new hd⟩ (λm σ H2 _ h0=>by obtain⟨_,_,_,_,_,_,S2⟩:=h0;exact aX.of (S2 _ _ hl)) ?_ ?_⟩
 ·rintro m x σ H2 hx ⟨v,ks,rfl,hd2,al,hm,S2⟩
  rw[lK,fj]at hx;obtain⟨u,hu,rfl⟩:=f_.mp hx;obtain⟨y,hy,tp⟩:=hT u (l_ hu);obtain⟨tr,r,Cg,_,_⟩:=tp.small;have A2:=A1.same S2
  obtain⟨mX,h2⟩:=A2.obj;refine⟨_,rfl,S,_,mX,_,_,rfl,h2,T.aE,T.aU,rfl,_,rfl,S,mX,_,rfl,h2,rfl,_,rfl,S,p,dk,dn,vl,aS,s,u,y,rfl,A2,hy,_,rfl,p,dk,dn,d,s.store,y.node,tr,ks,rfl,A2.jb,ndk,hd2,by decide,r,Cg,al,by omega,?_,λH3 KW f3 YQ m3 K3=>?_⟩
  ·intro j hj _ k hk;obtain⟨v',hv',x',hx',hr'⟩:=(hm j).mp hj;exact(hm k).mpr ⟨v',hv',x',hx',hr'.trans hk⟩
  ·refine⟨_,KW,rfl,f3,YQ,λj=>?_,λb o e=>K3 _ _ (S2 _ _ e) (by simpa using aj e hd)⟩;rw[m3,hm,take_snoc hu];constructor
   ·rintro(⟨v',hv',h⟩|h)
    ·exact⟨v',tT _ hv',h⟩
    ·exact⟨u,by simp,y,hy,h⟩
   ·rintro⟨v',hv',x',hx',h⟩
    rcases dg.mp hv' with z|z
    ·exact .inl ⟨v',z,x',hx',h⟩
    ·rw[cY.mp z,hy]at hx';cases hx';exact .inr h
 ·rintro σ H2 ⟨v,ks,rfl,hd2,al,hm,S2⟩
  rw[lK,aO,i9]at hm;exact⟨_,rfl,kk H2 d ks hd hd2 al hm S2⟩
def L_(T:Txt K mg a):aT P w K mg base cR 45 a.fV.1 a.fV.2 ["self"] (OI a):=by
 refine T.fV.F.ok As (λvs H Q E h=>?_) (λcdv A outer s0 H vs Q E hr h=>?_)
 ·obtain⟨S,p,dk,dn,vl,aS,s,rfl,_⟩:=h;rfl
 obtain⟨S,p,dk,dn,vl,aS,s,rfl,A1,hz,hv,hT,kk⟩:=h;obtain⟨dx,h1⟩:=A1.obj;obtain⟨Qi,hp1⟩:=A1.jb.obj;refine⟨_,(ao (aC (aI (au (pv 0) rfl) T.aM T.eN.m (Hw T) hr.lt T.eN.b .nil aA (aa (aI (pv 0) T.aE T.bK.m (oq T) hr.lt T.bK.b .nil aA (aa (lE (pv 0) T.aE T.bu.m (mO T) hr.lt T.bu.b .nil aA) ah)) ah)))),?_⟩;refine⟨_,rfl,S,_,dx,_,_,rfl,h1,T.aE,T.aU,rfl,p,Qi,_,rfl,hp1,rfl,_,rfl,S,dx,_,rfl,h1,rfl,_,rfl,S,dx,_,rfl,h1,rfl,S,p,dk,dn,vl,aS,s,rfl,A1,hv,λH1 D hD nL S1=>?_⟩;have A2:=A1.same S1
 refine⟨S,p,dk,dn,vl,D,aS,s,_,rfl,A2,hz,nL,λv hv=>?_,λH2 d ks hd hd2 al hm S2=>?_⟩
 ·obtain⟨x,hx,hh⟩:=Gq.mp hv;exact⟨x,hx,hT v x hx hh⟩
 have A3:=A2.same S2;obtain⟨ob,hkd⟩:=A2.jb.kept;have hmem:∀j,decide (j∈ks)=i7 s j:=λj=>by
  rw[qj,cQ,hm j,i7,J_,Dp hT]
 refine⟨p,dk,dn,d,s.store,nk ks,i7 s,rfl,A3.jb,hd2,(aj hkd hd).symm,λi=>by rw[zd,hmem],by omega,λH3 N3 K3=>?_⟩;exact kk H3 ((A1.same (S1.trans S2)).nodes T K3 N3) ((aH.of (S1.trans S2)).trans K3)
inductive WLn(S d:Addr)(v:Nat)(s:Vbwsae.St)(H:Hp)(m:Nat)(σ:L2.St)(H2:Hp):Prop
 |mk (v1 v2:Option V) (ks:List Nat) (_:σ=[some (.ref S),some (.int (v:Int)),some (.ref d),v1,v2]) (_:H2 d=some (.dK (nk ks))) (_:ks.Nodup) (_:v∈ks) (_:∀k∈ks,SM.uU s.versions v k) (_:∀k∈ks,v<k+m->∀x,s.versions[k]? =some x->∀q∈x.parents,q∈ks) (_:az H H2)
def Dq(T:Txt K mg a):aT P w K mg base cR 2 a.d_.1 a.d_.2 ["self","version"] (VZ a):=by
 refine T.d_.F.ok kI (λvs H Q E h=>?_) (λcdv A outer s0 H vs Q E hr h=>?_)
 ·obtain⟨S,p,dk,dn,vl,aS,s,v,rfl,_⟩:=h;rfl
 obtain⟨S,p,dk,dn,vl,aS,s,v,rfl,A1,ok,hv,hz,kk⟩:=h;have hu:=nY hr
 refine⟨_,(ak (aJ (i:=2) kI.nd rfl (Or.inl rfl) (SR (QM (pv 1) k9 SQ) rfl rfl (by simp) (by decide))) (ak (jf kE rfl (vc rfl T.ue (aa (pv 1) (aa (O5 KL aD) (aa (O5 KL aD) ah)))) (b_ (i:=3) kI.nd rfl (Or.inl rfl))
   (ao (bx (bf (F3 hu (pv 3) (pv 2))) (ao (jf kE rfl (U5 (aI (pv 0) T.aE T.cJ.m (wO T) hr.lt T.cJ.b .nil aA (aa (pv 3) ah))) (b_ (i:=4) kI.nd rfl (Or.inl rfl)) (ao (uc hu (pv 2) (pv 4) k9 rfl)))) aN))) (ao (aC (pv 2))))),?_⟩
 intro d hd;refine⟨_,rfl,af,[(.inl (v:Int),.bl true)],rfl,(by show 1<=15;decide),?_⟩;rw[qM];have hd0:L2.upd H d (.dK (vP [] [(.inl (v:Int),.bl true)])) d=some (.dK (nk [v])):=af
 have S0:az H (L2.upd H d (.dK (vP [] [(.inl (v:Int),.bl true)]))):=az.new hd;refine⟨_,rfl,_,rfl,_,rfl,_,_,_,v+1,rfl,?_,?_⟩
 ·have:=Uc.neg (i:=(v:Int)) (j:=-1) (by omega) (by omega) (by omega) (by omega);have e:((v:Int) - -1).toNat=v+1:=by omega
  rw[e]at this;exact this
 refine w6 (WLn S d v s H)
  ⟨none,none,[v],rfl,hd0,by simp,by simp,λk hk=>by rw[cY.mp hk];exact .self,λk hk hlt=>by rw[cY.mp hk]at hlt;omega,S0⟩ ?_ ?_
 ·rintro m σ H2 hm ⟨v1,v2,ks,rfl,hd2,nd,W0,hA,hP,S2⟩
  have en:(v:Int)+(m:Int) * -1=((v-m:Nat):Int):=by omega
  have A2:=A1.same S2;obtain⟨mX,h2⟩:=A2.obj;rw[en];refine⟨_,rfl,_,rfl,d,_,rfl,gx.k (k:=Sum.inl ((v-m:Nat):Int)) hd2,_,rfl,?_⟩;rw[zd];refine gM cQ (λc=>?_) (λc=>?_)
  ·have hlt:v-m<s.versions.length:=by omega
   refine⟨_,rfl,S,mX,_,rfl,h2,rfl,_,rfl,S,p,dk,dn,vl,aS,s,v-m,s.versions[v-m],rfl,A2,iw hlt,λt ht=>?_⟩;refine⟨t,rfl,⟨_,mW.of ht⟩,Sw (K:=K) (xs:=lK s.versions[v-m].parents) (λj σ H3=>∃v2 KW,σ=[some (.ref S),some (.int (v:Int)),some (.ref d),some (.int ((v-m:Nat):Int)),v2]/\H3 d=some (.dK (nk KW))/\KW.Nodup/\(∀k,k∈KW↔k∈ks\/k∈s.versions[v-m].parents.take j)/\aH [d] H2 H3) ⟨_,ks,rfl,hd2,nd,by simp,aH.refl _ _⟩ (λj σ H3 _ ⟨_,_,_,_,_,_,K3⟩=>mW.of (K3 _ _ ht (by simpa using bh ht hd2 (by intro z;cases z)))) ?_ ?_⟩
   ·rintro j x σ H3 hx ⟨v2,KW,rfl,Y3,V0,KY,K3⟩
    rw[lK,fj]at hx;obtain⟨u,hu3,rfl⟩:=f_.mp hx;have hks:KW.length<=200:=by
     have:=SM.bP V0 (b:=List.range 200) λk hk=>by
      rw[vV]
      rcases(KY k).mp hk with z|z
      ·have:=(hA k z).le ok;omega
      ·have:=ok.less (v-m) _ (iw hlt) k (BL z);omega
     simpa using this
    refine⟨_,rfl,_,rfl,d,_,rfl,xY.k (k:=Sum.inl (u:Int)) Y3 (by rw[nk,aO];exact eZ (by omega)),?_⟩;rw[Tw];refine⟨_,_,rfl,af,?_,λk=>?_,K3.trans (aH.upd (bU ..))⟩
    ·split
     ·exact V0
     ·rename_i hn;exact yq.mpr ⟨V0,by simp,λx hx y hy=>by rw[cY.mp hy];intro z;exact hn (z▸hx)⟩
    ·rw[take_snoc hu3,dg,cY]
     split
     ·rename_i hin;rw[KY];constructor
      ·rintro(z|z)
       ·exact .inl z
       ·exact .inr (.inl z)
      ·rintro(z|z|z)
       ·exact .inl z
       ·exact .inr z
       ·rw[z];exact(KY u).mp hin
     ·rw[dg,cY,KY,or_assoc]
   ·rintro σ H3 ⟨v2,KW,rfl,Y3,V0,KY,K3⟩
    rw[lK,aO,i9]at KY;refine⟨_,_,KW,rfl,Y3,V0,(KY v).mpr (.inl W0),λk hk=>?_,λk hk Uz x hx q hq=>?_,λb o e=>K3 _ _ (S2 _ _ e) (by simpa using aj e hd)⟩
    ·rcases(KY k).mp hk with z|z
     ·exact hA k z
     ·exact .step (hA _ c) (iw hlt) z
    ·rcases(KY k).mp hk with z|z
     ·by_cases ek:k=v-m
      ·subst ek;rw[iw hlt]at hx;cases hx;exact(KY q).mpr (.inr hq)
      ·exact(KY q).mpr (.inl (hP k z (by omega) x hx q hq))
     ·have:=ok.less (v-m) _ (iw hlt) k z;omega
  ·refine⟨_,_,ks,rfl,hd2,nd,W0,hA,λk hk Uz x hx q hq=>?_,S2⟩;by_cases ek:k=v-m
   ·subst ek;exact absurd hk c
   ·exact hP k hk (by have:=(hA k hk).le ok;omega) x hx q hq
 ·rintro σ H2 ⟨v1,v2,ks,rfl,hd2,nd,W0,hA,hP,S2⟩
  refine⟨_,rfl,kk H2 d ks hd hd2 nd (λk=>⟨hA k,λh=>?_⟩) S2⟩
  induction h with
  |self=>exact W0
  |step _ hx hp ih=>exact hP _ ih (by omega) _ hx _ hp
def zh(T:Txt K mg a):aT P w K mg base cR 3 a.cS.1 a.cS.2 ["self","version","other"] (Rj a):=by
 refine T.cS.F.ok jz (λvs H Q E h=>?_) (λcdv A outer s0 H vs Q E hr h=>?_)
 ·obtain⟨S,p,dk,dn,vl,aS,s,v,u,rfl,_⟩:=h;rfl
 obtain⟨S,p,dk,dn,vl,aS,s,v,u,rfl,A1,ok,hv,hu1,hz,kk⟩:=h;have hu:=nY hr
 obtain⟨dx,h1⟩:=A1.obj;refine⟨_,(ak (aJ (i:=3) jz.nd rfl (Or.inr rfl) (aI (pv 0) T.aE T.d_.m (Dq T) hr.lt T.d_.b .nil aA (aa (pv 2) ah))) (ao (aC (aV (Vd rfl) rfl T.Uj rfl (aa (vZ (own:=[("number",4)]) (tt:=tB (Wy (l9 4) (l9 3))) rfl jz.nd (QZ (aI (pv 0) T.aE T.d_.m (Dq T) hr.lt T.d_.b .nil aA (aa (pv 1) ah))) (jU rfl) (λs H C cl fp=>b_ (i:=4) jz.nd rfl (Or.inl rfl)) (λs H C cl fp=>Bu (bf (F3 hu (pv 4) (pv 3)))) (λs H C cl fp=>pv 4)) ah))))),?_⟩;refine⟨_,rfl,S,dx,_,rfl,h1,rfl,_,rfl,S,p,dk,dn,vl,aS,s,u,rfl,A1,ok,hu1,hz,λH1 d1 js hd1 OL nd1 m1 S1=>?_⟩;have A2:=A1.same S1
 obtain⟨mX,h2⟩:=A2.obj;refine⟨_,rfl,S,mX,_,rfl,h2,rfl,_,rfl,S,p,dk,dn,vl,aS,s,v,rfl,A2,ok,hv,hz,λH2 d2 ks hd2 OM nd2 m2 S2=>?_⟩;have OC:d1≠d2:=aj OL hd2
 have hks:ks.length<=200:=by
  have:=SM.bP nd2 (b:=List.range 200) λk hk=>by
   rw[vV];have:=((m2 k).mp hk).le ok;omega
  simpa using this
 refine⟨d2,_,rfl,OM,λod D hD=>?_⟩;have R8:D≠d2:=λz=>by rw[z,af]at hD;cases hD
 rw[ai R8]at hD;have g1:H2 d1=some (.dK (nk js)):=S2 _ _ OL
 refine Gy (λi H3=>H3=L2.upd (L2.upd H2 d2 (.je od (.dK (nk ks)))) D (.lst (lK ((ks.take i).filter λk=>decide (k∈js))))) rfl (λi H3 _ e=>?_) (λi ky y H3 hk e=>?_) (λH3 e=>?_)
 ·rw[e,ai R8.symm,af]
 ·subst e;rw[nk,fj]at hk;obtain⟨k,hk0,e⟩:=f_.mp hk;cases e;refine⟨rfl,_,rfl,_,rfl,d1,_,rfl,.inl ⟨nk js,.inl (k:Int),.inl (by rw[ai (aj g1 hD),ai OC];exact g1),rfl,rfl⟩,_,rfl,?_⟩;rw[zd,take_snoc hk0,Bh];cases hh:decide (k∈js)
  ·refine fu ?_;have: [k].filter (λk=>decide (k∈js))=[]:=by simp at hh;simp[hh]
   rw[this,nP]
  ·refine dF ⟨_,rfl,_,af,?_,?_⟩
   ·rw[lK,aO];exact eZ (tU (gz (Bf _ _) (yk _ _)) (by omega))
   ·have: [k].filter (λk=>decide (k∈js))=[k]:=by simp at hh;simp[hh]
    rw[qM,this];simp[lK,kV]
 ·subst e;have hl:(nk ks).length=ks.length:=by simp[nk]
  rw[hl,i9];have e0:lK (ks.filter λk=>decide (k∈js))=((ks.filter λk=>decide (k∈js)).map (λn:Nat=>(n:Int))).map V.int:=by simp[lK]
  have z1:0∈ks.filter λk=>decide (k∈js):=jN.mpr ⟨(m2 0).mpr (SM.uU.zero ok hv),by simpa using(m1 0).mpr (SM.uU.zero ok hu1)⟩
  refine⟨D,(ks.filter λk=>decide (k∈js)).map (λn:Nat=>(n:Int)),rfl,aX.of (by rw[af,e0]),?_,λm hm Z7=>?_⟩
  ·rw[aO];exact J6 z1
  ·obtain⟨n,hn,rfl⟩:=br.mp hm;obtain⟨hn1,hn2⟩:=jN.mp hn;have e:Vbwsae.common s v u=n:=SM.Nv ok hv hu1 ((m2 n).mp hn1) ((m1 n).mp (by simpa using hn2)) λk k1 k2=>by
    have:=Z7 (k:Int) (br.mpr ⟨k,jN.mpr ⟨(m2 k).mpr k1,by simpa using(m1 k).mpr k2⟩,rfl⟩);omega
   have:=kk (L2.upd (L2.upd H2 d2 (.je od (.dK (nk ks)))) D (.lst (lK (ks.filter λk=>decide (k∈js))))) λb o e=>by
    rw[ai (aj (S2 _ _ (S1 _ _ e)) hD),ai (aj (S1 _ _ e) hd2)];exact S2 _ _ (S1 _ _ e)
   rw[e]at this;exact this
structure iz(s:Vbwsae.St):Prop where
 good:SM.Good s.store
 len:s.store.length<=4000
 vs:SM.Dz s.versions
 Iu:s.versions.length<=200
 top:GI s
 par:∀(v:Nat) x,s.versions[v]? =some x->x.parents.length<=2
inductive r9(a:Ad)(R:Vbwsae.St->List Arg->Vbwsae.St×List Int->Prop)(vs:List V)(H:Hp)(Q:VK)(gc:XK):Prop
 |mk (S p dk dn vl l:Addr) (aS:List Addr) (s:Vbwsae.St) (xs:List V) (args:List Arg) (r:Vbwsae.St×List Int) (_:vs=[.ref S,.ref l]) (_:jE a H S p dk dn vl aS s) (_:iz s) (_:H l=some (.lst xs)) (_:lJ H xs args) (_:R s args r) (_:∀H' D ja,H D=none->Row H' D r.2->jE a H' S p dk dn vl ja r.1->aH ([p,dk,dn,vl]++aS) H H'->(∀b∈ja,b∈aS\/H b=none)->Q (.ref D) H')
def eG{R:Vbwsae.St->List Arg->Vbwsae.St×List Int->Prop}{vs:List V}{E:XK}(h:r9 a R vs H Q E):vs.length=2:=by
 obtain⟨S,p,dk,dn,vl,l,aS,s,xs,args,r,rfl,_⟩:=h;rfl
def args1(h:lJ H xs [.n x]):xs=[.int x]:=by
 obtain _|⟨h1,h2⟩:=h
 obtain _|_:=h2
 rw[show _=V.int x from h1]
def args2{y:Int}(h:lJ H xs [.n x,.n y]):xs=[.int x,.int y]:=by
 obtain _|⟨h1,h2⟩:=h
 rw[args1 h2,show _=V.int x from h1]
def Lq{y z:Int}(h:lJ H xs [.n x,.n y,.n z]):xs=[.int x,.int y,.int z]:=by
 obtain _|⟨h1,h2⟩:=h
 rw[args2 h2,show _=V.int x from h1]
def argsR(h:lJ H xs [.r r]):∃q,xs=[.ref q]/\Row H q r:=by
 obtain _|⟨⟨q,e,hq⟩,h2⟩:=h
 obtain _|_:=h2
 exact⟨q,by rw[e],hq⟩
def Qj(h:lJ H xs [.n x,.r r]):∃q,xs=[.int x,.ref q]/\Row H q r:=by
 obtain _|⟨h1,h2⟩:=h
 obtain⟨q,e,hq⟩:=argsR h2;exact⟨q,by rw[e,show _=V.int x from h1],hq⟩
def V1{r2:List Int}(h:lJ H xs [.r r,.r r2]):∃q q2,xs=[.ref q,.ref q2]/\Row H q r/\Row H q2 r2:=by
 obtain _|⟨⟨q,e,hq⟩,h2⟩:=h
 obtain⟨q2,e2,hq2⟩:=argsR h2;exact⟨q,q2,by rw[e,e2],hq,hq2⟩
def c_{v:Int}(h:versionIn v=true):∃n:Nat,v=(n:Int):=by
 unfold versionIn Vbwsae.inR at h;simp only[cB,k8]at h;exact⟨v.toNat,by omega⟩
def mG{k:Int}(h:keyIn k=true):∃n:Nat,k=(n:Int)/\n<2^40:=⟨k.toNat,(pC h).1.symm,(pC h).2⟩
def bO{x:Version}(h:version s v=some x):s.versions[v]? =some x/\x.held=true:=by
 unfold version at h;cases e:s.versions[v]? with
 |none=>rw[e]at h;cases h
 |some y=>
  rw[e]at h;by_cases c:y.held=true
  ·simp only[ay c]at h;cases h;exact⟨rfl,c⟩
  ·simp only[aq c]at h;cases h
def tL{x:Version}(h:version s n=some x)(f:Nat->Version->Vbwsae.St×List Int):ofVersion s (n:Int) f=f n x:=by
 unfold ofVersion;rw[dO,h]
def e7{S:Addr}(A:jE a H S p dk dn vl aS s)(kk:∀H' D ja,H D=none->Row H' D row->jE a H' S p dk dn vl ja s->aH ([p,dk,dn,vl]++aS) H H'->(∀b∈ja,b∈aS\/H b=none)->Q (.ref D) H'):
  ∀H' D,H D=none->Row H' D row->az H H'->Q (.ref D) H':=λH' D hD hr S'=>kk H' D aS hD hr (A.same S') (aH.of S') λb hb=>.inl hb
def Gr{H1:Hp}{S:Addr}{s':Vbwsae.St}(S1:az H H1)(kk:∀H' D ja,H D=none->Row H' D row->jE a H' S p dk dn vl ja s'->aH ([p,dk,dn,vl]++aS) H H'->(∀b∈ja,b∈aS\/H b=none)->Q (.ref D) H'):
  ∀H' D ja,H1 D=none->Row H' D row->jE a H' S p dk dn vl ja s'->(∀b,H1 b≠none->b∈ja->b∈aS)->aH [p,dk,dn,vl] H1 H'->Q (.ref D) H':=λH' D ja hD hr A hv K1=>
 kk H' D ja (S1.free hD) hr A ((aH.of S1).trans (K1.mono λb hb=>tT _ hb)) λb hb=>by
  cases e:H1 b with
  |none=>exact .inr (S1.free e)
  |some o=>exact .inl (hv b (by rw[e];simp) hb)
noncomputable def lF (s:bI):List Nat:=(SM.rowsOf s).filterMap λr=>match r.2 with
 | .leaf k _=>some k
 | .fork _ _ _=>none
def gP(s:bI):(lF s).length<=s.length:=gz (EZ _ _) BC
def Rk{s:bI}(r:SM.Rep s i t):∀k∈SM.keysOf t,k∈lF s:=by
 induction r with
 |leaf e=>
  intro k hk;simp[SM.keysOf,pairs]at hk;subst hk;exact BN.mpr ⟨_,SM.gf.mpr e,rfl⟩
 |fork e _ _ a b=>
  intro k hk;rw[SM.qD]at hk;rcases dg.mp hk with h|h
  ·exact a k h
  ·exact b k h
def gT{s:bI}(h:SM.Top s i):∃t,SM.ji s i t/\depth t<=41/\SM.Small t/\TW t/\(∀k∈SM.keysOf t,k∈lF s)/\treeOf s i=t:=by
 obtain⟨t,r,hd,hs,hw⟩:=h.small;refine⟨t,r,hd,hs,hw.imp id λw=>⟨40,0,w,bw _⟩,?_,O_ r hd⟩;rcases r with⟨_,rfl⟩|r
 ·simp[SM.keysOf,pairs]
 ·exact Rk r
def W2{s:bI}(r:SM.ji s i t)(h:depth t<=41)(k:Nat):getAt s k LEVELS i=Vbwsae.get t k:=by
 rcases r with⟨rfl,rfl⟩|r
 ·exact SM.nothing.2.2.2 k
 ·exact SM.Sd r k h
def KZ{s:bI}(r:SM.ji s i t)(h:depth t<=41)(w:TW t)(lo hi:Nat):rangeAt s lo hi LEVELS i=SM.rangeT lo hi t:=by
 rcases r with⟨rfl,rfl⟩|r
 ·exact SM.range_zero lo hi _
 ·obtain⟨c,p,w,hc⟩:=w.resolve_left r.gn;exact SM.Nt lo hi r w hc h
def nN(w:TW t){U:List Nat}(h:∀k∈SM.keysOf t,k∈U):(pairs t).length<=U.length:=by
 have:=SM.bP (SM.cT w.rise) h;rw[SM.keysOf,aO]at this;exact this
def Rel(c:Call)(s:Vbwsae.St)(r:Vbwsae.St×List Int):Prop:=ranged c=true/\r=act s c
def UJ(s:Vbwsae.St)(args:List Arg)(r:Vbwsae.St×List Int):Prop:=∃v k x y,args=[.n v,.n k,.n x]/\Rel (.put v k x) s r/\version s v.toNat=some y
def UK(s:Vbwsae.St)(args:List Arg)(r:Vbwsae.St×List Int):Prop:=∃v k y,args=[.n v,.n k]/\Rel (.del v k) s r/\version s v.toNat=some y
def UL(s:Vbwsae.St)(args:List Arg)(r:Vbwsae.St×List Int):Prop:=∃v k y,args=[.n v,.n k]/\Rel (.get v k) s r/\version s v.toNat=some y
def Pa(s:Vbwsae.St)(args:List Arg)(r:Vbwsae.St×List Int):Prop:=∃v lo hi y,args=[.n v,.n lo,.n hi]/\Rel (.list v lo hi) s r/\version s v.toNat=some y
def Jk(s:bI)(i k:Nat)(x:Int):SM.e8 (s,i) [(k,some x)]=Vbwsae.putAt Vbwsae.same k x LEVELS s i:=by unfold SM.e8;rw[yt,List.foldl_nil];unfold SM.FE;with_reducible rfl
def Jl(s:bI)(i k:Nat):SM.e8 (s,i) [(k,none)]=delAt Vbwsae.same k LEVELS s i:=by unfold SM.e8;rw[yt,List.foldl_nil];unfold SM.FE;with_reducible rfl
def JQ(T:Txt K mg a):aT P w K mg base cR 49 a.iQ.1 a.iQ.2 ["store","arguments"] (r9 a UJ):=by
 refine T.iQ.F.ok AQ (λvs H Q E h=>eG h) (λcdv A outer s0 H vs Q E hr h=>?_);obtain⟨S,p,dk,dn,vl,l,aS,s,xs,args,r,rfl,A1,G,hl,hA,⟨v,k,x,y,rfl,⟨b9,rfl⟩,hv⟩,kk⟩:=h;have b9:(versionIn v&&(keyIn k&&valueIn x))=true:=b9
 simp only[cB]at b9;obtain⟨n,rfl⟩:=c_ b9.1;obtain⟨j,rfl,hj⟩:=mG b9.2.1;rw[Lq hA]at hl;rw[dO]at hv;obtain⟨hv1,hv2⟩:=bO hv;obtain⟨dx,h1⟩:=A1.obj;refine⟨_,(ak (aJ (i:=2) AQ.nd rfl (Or.inl rfl) (a_ aK (pv 1) aD (λ_ _=>rfl))) (ao (aC (aI (pv 0) T.aE T.aW.m (jM T) hr.lt T.aW.b .nil aA (aa (aI (pv 0) T.aE T.aG.m (dw T) hr.lt T.aG.b .nil aA (aa (pv 2) ah)) (aa (bF (aa (j7 (aa (a_ aK (pv 1) aD (λ_ _=>rfl)) (aa (a_ aK (pv 1) aD (λ_ _=>rfl)) ah))) ah)) (aa (j7 (aa (pv 2) ah)) ah))))))),?_⟩;refine⟨_,rfl,l,_,_,_,rfl,rfl,aX.of hl,aL (j:=0) rfl,?_⟩;refine⟨_,rfl,S,dx,_,rfl,h1,rfl,_,rfl,S,dx,_,rfl,h1,rfl,_,rfl,S,p,dk,dn,vl,aS,s,n,y,rfl,A1,hv1,?_⟩;refine⟨_,rfl,l,_,_,_,rfl,rfl,aX.of hl,aL (j:=1) rfl,_,rfl,l,_,_,_,rfl,rfl,aX.of hl,aL (j:=2) rfl,iY,λq hq=>?_⟩;refine⟨(by show 1<=sizeLine;decide),λwl hwl=>?_⟩;refine⟨_,rfl,(by show 1<=sizeLine;decide),λt ht=>?_⟩;have S3:=(az.new (o:= .tup [.int (j:Int),.int x]) hq).trans ((az.new (o:= .lst [.ref q]) hwl).trans (az.new (o:= .tup [.int (n:Int)]) ht))
 have Y4:q≠wl:=aj af hwl;have R7:q≠t:=aj (az.new hwl _ _ af) ht
 have Y5:wl≠t:=aj af ht;refine⟨S,p,dk,dn,vl,wl,t,aS,[q],s,y.node,[(j,some x)],[n],rfl,A1.same S3,G.good,G.len,G.top n y hv1 hv2,by simp;omega,by rw[ai Y5,af];rfl,.cons (by rw[ai R7,ai Y4,af];rfl) .nil,by rw[af];rfl,?_⟩;refine Gr S3 ?_;have e:act s (.put (n:Int) (j:Int) x)=newVersion s [n] (SM.e8 (s.store,y.node) [(j,some x)]) []:=by
  delta act;simp only[]
  rw[tL hv,dO,Jk]
 rw[e]at kk;exact kk
def DO(T:Txt K mg a):aT P w K mg base cR 49 a.eV.1 a.eV.2 ["store","arguments"] (r9 a UK):=by
 refine T.eV.F.ok ve (λvs H Q E h=>eG h) (λcdv A outer s0 H vs Q E hr h=>?_);obtain⟨S,p,dk,dn,vl,l,aS,s,xs,args,r,rfl,A1,G,hl,hA,⟨v,k,y,rfl,⟨b9,rfl⟩,hv⟩,kk⟩:=h;have b9:(versionIn v&&keyIn k)=true:=b9
 simp only[cB]at b9;obtain⟨n,rfl⟩:=c_ b9.1;obtain⟨j,rfl,hj⟩:=mG b9.2;rw[args2 hA]at hl;rw[dO]at hv;obtain⟨hv1,hv2⟩:=bO hv;obtain⟨dx,h1⟩:=A1.obj;refine⟨_,(ak (aJ (i:=2) ve.nd rfl (Or.inl rfl) (a_ aK (pv 1) aD (λ_ _=>rfl))) (ao (aC (aI (pv 0) T.aE T.aW.m (jM T) hr.lt T.aW.b .nil aA (aa (aI (pv 0) T.aE T.aG.m (dw T) hr.lt T.aG.b .nil aA (aa (pv 2) ah)) (aa (bF (aa (j7 (aa (a_ aK (pv 1) aD (λ_ _=>rfl)) (aa yM ah))) ah)) (aa (j7 (aa (pv 2) ah)) ah))))))),?_⟩;refine⟨_,rfl,l,_,_,_,rfl,rfl,aX.of hl,aL (j:=0) rfl,?_⟩;refine⟨_,rfl,S,dx,_,rfl,h1,rfl,_,rfl,S,dx,_,rfl,h1,rfl,_,rfl,S,p,dk,dn,vl,aS,s,n,y,rfl,A1,hv1,?_⟩;refine⟨_,rfl,l,_,_,_,rfl,rfl,aX.of hl,aL (j:=1) rfl,iY,λq hq=>?_⟩;refine⟨(by show 1<=sizeLine;decide),λwl hwl=>?_⟩;refine⟨_,rfl,(by show 1<=sizeLine;decide),λt ht=>?_⟩;have S3:=(az.new (o:= .tup [.int (j:Int),.gq]) hq).trans ((az.new (o:= .lst [.ref q]) hwl).trans (az.new (o:= .tup [.int (n:Int)]) ht))
 have Y4:q≠wl:=aj af hwl;have R7:q≠t:=aj (az.new hwl _ _ af) ht
 have Y5:wl≠t:=aj af ht;refine⟨S,p,dk,dn,vl,wl,t,aS,[q],s,y.node,[(j,none)],[n],rfl,A1.same S3,G.good,G.len,G.top n y hv1 hv2,by simp;omega,by rw[ai Y5,af];rfl,.cons (by rw[ai R7,ai Y4,af];rfl) .nil,by rw[af];rfl,?_⟩;refine Gr S3 ?_;have e:act s (.del (n:Int) (j:Int))=newVersion s [n] (SM.e8 (s.store,y.node) [(j,none)]) []:=by
  delta act;simp only[]
  rw[tL hv,dO,Jl]
 rw[e]at kk;exact kk
def JR(T:Txt K mg a):aT P w K mg base cR 49 a.iR.1 a.iR.2 ["store","arguments"] (r9 a UL):=by
 refine T.iR.F.ok JA (λvs H Q E h=>eG h) (λcdv A outer s0 H vs Q E hr h=>?_);obtain⟨S,p,dk,dn,vl,l,aS,s,xs,args,r,rfl,A1,G,hl,hA,⟨v,k,y,rfl,⟨b9,rfl⟩,hv⟩,kk⟩:=h;have b9:(versionIn v&&keyIn k)=true:=b9
 simp only[cB]at b9;obtain⟨n,rfl⟩:=c_ b9.1;obtain⟨j,rfl,hj⟩:=mG b9.2;rw[args2 hA]at hl;rw[dO]at hv;obtain⟨hv1,hv2⟩:=bO hv;obtain⟨dx,h1⟩:=A1.obj;obtain⟨t,rp,hd,hs,hw,hk,ht⟩:=gT (G.top n y hv1 hv2);refine⟨_,(ao (aC (aF (jR T) hr.lt rfl T.bH.m T.bH.F.kp T.bH.b .nil aA (aa (aF (AS T) hr.lt rfl T.iP.m T.iP.F.kp T.iP.b .nil aA (aa (au (pv 0) rfl) (aa (aI (pv 0) T.aE T.aG.m (dw T) hr.lt T.aG.b .nil aA (aa (a_ aK (pv 1) aD (λ_ _=>rfl)) ah)) (aa (a_ aK (pv 1) aD (λ_ _=>rfl)) ah)))) ah)))),?_⟩;refine⟨_,rfl,S,_,dx,_,_,rfl,h1,T.aE,T.aU,rfl,_,rfl,S,dx,_,rfl,h1,rfl,_,rfl,l,_,_,_,rfl,rfl,aX.of hl,aL (j:=0) rfl,S,p,dk,dn,vl,aS,s,n,y,rfl,A1,hv1,_,rfl,l,_,_,_,rfl,rfl,aX.of hl,aL (j:=1) rfl,?_⟩;refine⟨p,dk,dn,s.store,y.node,j,t,rfl,A1.jb,rp,_,rfl,?_⟩;have e:act s (.get (n:Int) (j:Int))=(s,optRow (Vbwsae.get t j)):=by
  delta act;simp only[]
  rw[tL hv,dO,W2 rp hd]
 rw[e]at kk;exact e7 A1 kk
def HF(T:Txt K mg a):aT P w K mg base cR 49 a.gD.1 a.gD.2 ["store","arguments"] (r9 a Pa):=by
 refine T.gD.F.ok rR (λvs H Q E h=>eG h) (λcdv A outer s0 H vs Q E hr h=>?_);obtain⟨S,p,dk,dn,vl,l,aS,s,xs,args,r,rfl,A1,G,hl,hA,⟨v,lo,hi,y,rfl,⟨b9,rfl⟩,hv⟩,kk⟩:=h;have b9:(versionIn v&&(keyIn lo&&keyIn hi))=true:=b9
 simp only[cB]at b9;obtain⟨n,rfl⟩:=c_ b9.1;obtain⟨lo,rfl,hj⟩:=mG b9.2.1;obtain⟨hi,rfl,hj2⟩:=mG b9.2.2;rw[Lq hA]at hl;rw[dO]at hv;obtain⟨hv1,hv2⟩:=bO hv;obtain⟨t,rp,hd,hs,hw,hk,ht⟩:=gT (G.top n y hv1 hv2);have zt:=nN hw hk
 have zu:=gP s.store;have zg:=G.len
 refine⟨_,(ak (aJ (i:=2) rR.nd rfl (Or.inl rfl) (bF ah)) (ak (aJ (i:=3) rR.nd rfl (Or.inl rfl) (aF (nH T 41) hr.lt rfl T.bL.m T.bL.F.kp T.bL.b .nil aA (aa (au (pv 0) rfl) (aa (aI (pv 0) T.aE T.aG.m (dw T) hr.lt T.aG.b .nil aA (aa (a_ aK (pv 1) aD (λ_ _=>rfl)) ah)) (aa (a_ aK (pv 1) aD (λ_ _=>rfl)) (aa (a_ aK (pv 1) aD (λ_ _=>rfl)) (aa (pv 2) ah))))))) (ao (aC (cU yR (bF (aa (pv 3) ah)) (aF (EK T) hr.lt rfl T.iH.m T.iH.F.kp T.iH.b .nil aA (aa (pv 2) ah))))))),?_⟩;refine⟨fC _,λfl hfl=>?_⟩;have S1:az H (L2.upd H fl (.lst [])):=az.new hfl
 have A2:=A1.same S1;obtain⟨dx,h1⟩:=A2.obj;have hl2:=S1 _ _ hl
 refine⟨_,rfl,S,_,dx,_,_,rfl,h1,T.aE,T.aU,rfl,_,rfl,S,dx,_,rfl,h1,rfl,_,rfl,l,_,_,_,rfl,rfl,aX.of hl2,aL (j:=0) rfl,S,p,dk,dn,vl,aS,s,n,y,rfl,A2,hv1,_,rfl,l,_,_,_,rfl,rfl,aX.of hl2,aL (j:=1) rfl,_,rfl,l,_,_,_,rfl,rfl,aX.of hl2,aL (j:=2) rfl,_,rfl,?_⟩;refine⟨p,dk,dn,fl,s.store,y.node,lo,hi,t,[],rfl,A2.jb,af,by decide,rp,hd,hw,hs,by simp;omega,λH2 qs f2 P2 K2=>?_⟩;have S2:az H H2:=λb o e=>K2 _ _ (S1 _ _ e) (by simpa using aj e hfl)
 have zr:=q_ (lo:=lo) (hi:=hi) hw;refine⟨_,rfl,(by show 1<=sizeLine;decide),λD1 nL=>?_⟩;have f3:L2.upd H2 D1 (.lst [.int ((SM.rangeT lo hi t).2:Nat)]) fl=some (.lst (qs.map V.ref)):=az.new nL _ _ f2
 refine⟨_,rfl,fl,qs,_,rfl,f3,P2.same (az.new nL),by omega,λH3 D2 d9 r3 S3=>?_⟩;refine⟨D1,D2,_,_,rfl,rfl,S3 _ _ af,r3,?_,λD hD=>?_⟩
 ·have:=iU (f:=λp:Nat×Int=>[(p.1:Int),p.2]) (n:=2) (l:=(SM.rangeT lo hi t).1) (λ_=>rfl);rw[aO,counted,cF,cF,this];exact lH (eZ (by simp;omega))
 have e:act s (.list (n:Int) (lo:Int) (hi:Int))=(s,((SM.rangeT lo hi t).2:Int)::counted (SM.rangeT lo hi t).1.length ((SM.rangeT lo hi t).1.flatMap λp=>[(p.1:Int),p.2])):=by
  delta act;simp only[]
  rw[tL hv,dO,dO,KZ rp hd hw]
 rw[e]at kk;have S4:=S2.trans ((az.new nL).trans (S3.trans (az.new (o:= .lst ([V.int ((SM.rangeT lo hi t).2:Nat)]++(counted (SM.rangeT lo hi t).1.length ((SM.rangeT lo hi t).1.flatMap λp=>[(p.1:Int),p.2])).map V.int)) hD)))
 refine e7 A1 kk _ D ((S2.trans ((az.new nL).trans S3)).free hD) ?_ S4;show L2.upd H3 D _ D=_
 rw[af];rfl
abbrev RR:=Vbwsae.St->List Arg->Vbwsae.St×List Int->Prop
def Pb:RR:=λs args r=>∃u v x y,args=[.n u,.n v]/\Rel (.diff u v) s r/\version s u.toNat=some x/\version s v.toNat=some y
def Pc:RR:=λs args r=>∃u v x y,args=[.n u,.n v]/\Rel (.same u v) s r/\version s u.toNat=some x/\version s v.toNat=some y
def Pd:RR:=λs args r=>∃v y,args=[.n v]/\Rel (.size v) s r/\version s v.toNat=some y
def Pe:RR:=λs args r=>∃v k y,args=[.n v,.n k]/\Rel (.from_ v k) s r/\version s v.toNat=some y
def UM:RR:=λs args r=>∃v k y,args=[.n v,.n k]/\Rel (.nth v k) s r/\version s v.toNat=some y
def Pf:RR:=λs args r=>∃v y,args=[.n v]/\Rel (.look v) s r/\version s v.toNat=some y
def Pg:RR:=λs args r=>args=[]/\Rel .versions s r
def Ph:RR:=λs args r=>∃v y,args=[.n v]/\Rel (.drop v) s r/\version s v.toNat=some y
def Pj:RR:=λs args r=>args=[]/\Rel .collect s r
def Pk:RR:=λs args r=>∃u v,args=[.n u,.n v]/\Rel (.common u v) s r/\u.toNat<s.versions.length/\v.toNat<s.versions.length
def Dc{s:bI}(h1:SM.Top s i)(h2:SM.Top s j)(e1:treeOf s i=t)(e2:treeOf s j=u):(diffAt Vbwsae.same s LEVELS i j).1.length<=(pairs t).length+(pairs u).length:=by
 obtain⟨h3,h4⟩:=SM.ow h1 h2;rw[e1,e2]at h4;have:=SM.bP (SM.cT h3) (b:=SM.keysOf t++SM.keysOf u) λk hk=>by
  obtain⟨c,hc,rfl⟩:=br.mp hk;exact dg.mpr (h4 c hc)
 rw[aO,gb,SM.keysOf,SM.keysOf,aO,aO]at this;exact this
def Dr(w:TW t)(hs:∀k∈SM.keysOf t,k<2^40):(SM.rangeT 0 1099511627775 t).1=pairs t:=by
 rcases w with rfl|⟨c,p,w,_⟩
 ·rfl
 ·rw[SM.um w];exact SM.range_all λp hp=>hs _ (SM.tX hp)
theorem gm:∀{t:SM.Tr},SM.Small t->∀k∈SM.keysOf t,k<2^40
 | .none,_,k,hk=>by simp[SM.keysOf,pairs]at hk
 | .leaf j x,h,k,hk=>by simp[SM.keysOf,pairs]at hk;subst hk;exact h
 | .fork b l r,h,k,hk=>by
  rw[SM.qD]at hk;rcases dg.mp hk with z|z
  ·exact gm h.1 k z
  ·exact gm h.2 k z
def HG(T:Txt K mg a):aT P w K mg base cR 90 a.gE.1 a.gE.2 ["store","arguments"] (r9 a Pb):=by
 refine T.gE.F.ok rS (λvs H Q E h=>eG h) (λcdv A outer s0 H vs Q E hr h=>?_);obtain⟨S,p,dk,dn,vl,l,aS,s,xs,args,r,rfl,A1,G,hl,hA,⟨u,v,x,y,rfl,⟨b9,rfl⟩,hu,hv⟩,kk⟩:=h;have b9:(versionIn u&&versionIn v)=true:=b9
 simp only[cB]at b9;obtain⟨m,rfl⟩:=c_ b9.1;obtain⟨n,rfl⟩:=c_ b9.2;rw[args2 hA]at hl;rw[dO]at hv hu;obtain⟨hv1,hv2⟩:=bO hv;obtain⟨hu1,P5⟩:=bO hu;obtain⟨t,rp,hd,hs,hw,hk,ht⟩:=gT (G.top m x hu1 P5);obtain⟨t',rp',hd',hs',hw',hk',ht'⟩:=gT (G.top n y hv1 hv2);have zl:=Dc (G.top m x hu1 P5) (G.top n y hv1 hv2) ht ht'
 have z1:=nN hw hk;have z2:=nN hw' hk'
 have zu:=gP s.store;have zg:=G.len
 refine⟨_,(ak (aJ (i:=2) rS.nd rfl (Or.inl rfl) (bF ah)) (ak (aJ (i:=3) rS.nd rfl (Or.inl rfl) (aF (xw T 41) hr.lt rfl T.compare.m T.compare.F.kp T.compare.b .nil aA (aa (au (pv 0) rfl) (aa (aI (pv 0) T.aE T.aG.m (dw T) hr.lt T.aG.b .nil aA (aa (a_ aK (pv 1) aD (λ_ _=>rfl)) ah)) (aa (aI (pv 0) T.aE T.aG.m (dw T) hr.lt T.aG.b .nil aA (aa (a_ aK (pv 1) aD (λ_ _=>rfl)) ah)) (aa (pv 2) ah)))))) (ao (aC (cU yR (bF (aa (pv 3) ah)) (aF (nJ T) hr.lt rfl T.cD.m T.cD.F.kp T.cD.b .nil aA (aa (pv 2) ah))))))),?_⟩;refine⟨fC _,λfl hfl=>?_⟩;have S1:az H (L2.upd H fl (.lst [])):=az.new hfl
 have A2:=A1.same S1;obtain⟨dx,h1⟩:=A2.obj;have hl2:=S1 _ _ hl
 refine⟨_,rfl,S,_,dx,_,_,rfl,h1,T.aE,T.aU,rfl,_,rfl,S,dx,_,rfl,h1,rfl,_,rfl,l,_,_,_,rfl,rfl,aX.of hl2,aL (j:=0) rfl,S,p,dk,dn,vl,aS,s,m,x,rfl,A2,hu1,_,rfl,S,dx,_,rfl,h1,rfl,_,rfl,l,_,_,_,rfl,rfl,aX.of hl2,aL (j:=1) rfl,S,p,dk,dn,vl,aS,s,n,y,rfl,A2,hv1,_,rfl,?_⟩;refine⟨p,dk,dn,fl,s.store,x.node,y.node,t,t',[],lF s.store,rfl,A2.jb,G.good.uniq,by decide,by decide,rp,rp',hd,hd',hw,hw',af,hk,hk',by omega,by simp;omega,λH2 qs f2 C2 K2=>?_⟩;have S2:az H H2:=λb o e=>K2 _ _ (S1 _ _ e) (by simpa using aj e hfl)
 refine⟨_,rfl,(by show 1<=sizeLine;decide),λD1 nL=>?_⟩;have f3:∀o,L2.upd H2 D1 o fl=some (.lst (qs.map V.ref)):=λo=>az.new nL _ _ f2
 have zl':(diffAt Vbwsae.same s.store 41 x.node y.node).1.length<=8000:=gz zl (by omega);refine⟨_,rfl,fl,qs,_,rfl,f3 _,C2.same (az.new nL),by omega,λH3 D2 d9 r3 S3=>?_⟩;refine⟨D1,D2,_,_,rfl,rfl,S3 _ _ af,r3,?_,λD hD=>?_⟩
 ·have:=iU (f:=changeRow) (n:=5) (l:=(diffAt Vbwsae.same s.store 41 x.node y.node).1) qJ;rw[aO,counted,cF,cF,this];exact lH (eZ (by simp;omega))
 have e:act s (.diff (m:Int) (n:Int))=(s,((diffAt Vbwsae.same s.store LEVELS x.node y.node).2:Int)::counted (diffAt Vbwsae.same s.store LEVELS x.node y.node).1.length ((diffAt Vbwsae.same s.store LEVELS x.node y.node).1.flatMap changeRow)):=by
  delta act;simp only[]
  rw[tL hu,tL hv]
 rw[e]at kk;refine e7 A1 kk _ D ((S2.trans ((az.new nL).trans S3)).free hD) ?_ (S2.trans ((az.new nL).trans (S3.trans (az.new hD))));show L2.upd H3 D _ D=_
 rw[af];rfl
def HH(T:Txt K mg a):aT P w K mg base cR 49 a.gG.1 a.gG.2 ["store","arguments"] (r9 a Pc):=by
 refine T.gG.F.ok Hg (λvs H Q E h=>eG h) (λcdv A outer s0 H vs Q E hr h=>?_);obtain⟨S,p,dk,dn,vl,l,aS,s,xs,args,r,rfl,A1,G,hl,hA,⟨u,v,x,y,rfl,⟨b9,rfl⟩,hu,hv⟩,kk⟩:=h;have b9:(versionIn u&&versionIn v)=true:=b9
 simp only[cB]at b9;obtain⟨m,rfl⟩:=c_ b9.1;obtain⟨n,rfl⟩:=c_ b9.2;rw[args2 hA]at hl;rw[dO]at hv hu;obtain⟨hv1,hv2⟩:=bO hv;obtain⟨hu1,P5⟩:=bO hu;obtain⟨dx,h1⟩:=A1.obj;refine⟨_,(ao (aC (bF (aa (jm (bf (eL (aI (pv 0) T.aE T.aG.m (dw T) hr.lt T.aG.b .nil aA (aa (a_ aK (pv 1) aD (λ_ _=>rfl)) ah)) (aI (pv 0) T.aE T.aG.m (dw T) hr.lt T.aG.b .nil aA (aa (a_ aK (pv 1) aD (λ_ _=>rfl)) ah)))) aD aD) ah)))),?_⟩;refine⟨_,rfl,S,dx,_,rfl,h1,rfl,_,rfl,l,_,_,_,rfl,rfl,aX.of hl,aL (j:=0) rfl,S,p,dk,dn,vl,aS,s,m,x,rfl,A1,hu1,_,rfl,S,dx,_,rfl,h1,rfl,_,rfl,l,_,_,_,rfl,rfl,aX.of hl,aL (j:=1) rfl,S,p,dk,dn,vl,aS,s,n,y,rfl,A1,hv1,_,_,rfl,rfl,_,rfl,?_⟩;have e:act s (.same (m:Int) (n:Int))=(s,[bit (x.node==y.node)]):=by
  delta act;simp only[]
  rw[tL hu,tL hv]
 rw[e]at kk;refine gM cQ (λc=>?_) (λc=>?_)
 ·refine⟨(by show 1<=sizeLine;decide),λD hD=>e7 A1 kk _ D hD ?_ (az.new hD)⟩;have:x.node=y.node:=by omega
  show L2.upd H D _ D=_
  rw[af,this];simp[bit]
 ·refine⟨(by show 1<=sizeLine;decide),λD hD=>e7 A1 kk _ D hD ?_ (az.new hD)⟩;have:¬x.node=y.node:=by omega
  show L2.upd H D _ D=_
  rw[af];simp[bit,this]
def HJ(T:Txt K mg a):aT P w K mg base cR 49 a.gI.1 a.gI.2 ["store","arguments"] (r9 a Pd):=by
 refine T.gI.F.ok y9 (λvs H Q E h=>eG h) (λcdv A outer s0 H vs Q E hr h=>?_);obtain⟨S,p,dk,dn,vl,l,aS,s,xs,args,r,rfl,A1,G,hl,hA,⟨v,y,rfl,⟨b9,rfl⟩,hv⟩,kk⟩:=h;obtain⟨n,rfl⟩:=c_ (show versionIn v=true from b9);rw[args1 hA]at hl;rw[dO]at hv;obtain⟨hv1,hv2⟩:=bO hv;obtain⟨dx,h1⟩:=A1.obj;obtain⟨t,rp,hd,hs,hw,hk,ht⟩:=gT (G.top n y hv1 hv2);have z1:=nN hw hk
 have zu:=gP s.store;have zg:=G.len
 obtain⟨tg,hg⟩:=T.lO;refine⟨_,(ak (aJ (i:=2) y9.nd rfl (Or.inl rfl) (aI (pv 0) T.aE T.aG.m (dw T) hr.lt T.aG.b .nil aA (aa (a_ aK (pv 1) aD (λ_ _=>rfl)) ah))) (ao (aC (bF (aa (aV bg rfl T.iy rfl (aa (aF (kJ T) hr.lt rfl T.bD.m T.bD.F.kp T.bD.b .nil aA (aa (au (pv 0) rfl) (aa (pv 2) (aa aD (aa (dj rfl hg) ah))))) ah)) (aa (aF (AU T 41) hr.lt rfl T.gi.m T.gi.F.kp T.gi.b .nil aA (aa (au (pv 0) rfl) (aa (pv 2) ah))) ah)))))),?_⟩;refine⟨_,rfl,S,dx,_,rfl,h1,rfl,_,rfl,l,_,_,_,rfl,rfl,aX.of hl,aL (j:=0) rfl,S,p,dk,dn,vl,aS,s,n,y,rfl,A1,hv1,?_⟩;refine⟨_,rfl,S,_,dx,_,_,rfl,h1,T.aE,T.aU,rfl,_,rfl,p,dk,dn,s.store,y.node,0,1099511627775,t,rfl,A1.jb,rp,hd,hw,hs,by omega,λH1 fl qs hf f1 P1 S1=>?_⟩;have A2:=A1.same S1
 obtain⟨mX,h2⟩:=A2.obj;refine⟨fl,_,rfl,.inl (aX.of f1),_,rfl,S,_,mX,_,_,rfl,h2,T.aE,T.aU,rfl,_,rfl,p,dk,dn,s.store,y.node,t,rfl,A2.jb,by decide,rp,hd,iY,λD hD=>?_⟩;have e:act s (.size (n:Int))=(s,[((pairs t).length:Int),(depth t:Nat)]):=by
  delta act;simp only[]
  rw[tL hv,ht];have:Vbwsae.countAt s.store LEVELS y.node=(pairs t).length:=by
   rcases rp with⟨h0,h0'⟩|rp
   ·rw[h0,h0'];exact SM.nothing.2.2.1
   ·rw[SM.Fz rp (d:=LEVELS) hd,SM.j6]
  rw[this]
 rw[e]at kk;refine e7 A1 kk _ D (S1.free hD) ?_ (S1.trans (az.new hD));have el:=P1.len
 rw[Dr hw (gm hs)]at el;show L2.upd H1 D _ D=_
 rw[af,aO,el];rfl
def HK(T:Txt K mg a):aT P w K mg base cR 49 a.gJ.1 a.gJ.2 ["store","arguments"] (r9 a Pe):=by
 refine T.gJ.F.ok Hi (λvs H Q E h=>eG h) (λcdv A outer s0 H vs Q E hr h=>?_);obtain⟨S,p,dk,dn,vl,l,aS,s,xs,args,r,rfl,A1,G,hl,hA,⟨v,k,y,rfl,⟨b9,rfl⟩,hv⟩,kk⟩:=h;have b9:(versionIn v&&keyIn k)=true:=b9
 simp only[cB]at b9;obtain⟨n,rfl⟩:=c_ b9.1;obtain⟨j,rfl,hj⟩:=mG b9.2;rw[args2 hA]at hl;rw[dO]at hv;obtain⟨hv1,hv2⟩:=bO hv;obtain⟨dx,h1⟩:=A1.obj;have tp:=G.top n y hv1 hv2
 obtain⟨t,rp,hd,hs,hw,hk,ht⟩:=gT tp;have z1:=nN hw hk
 have zu:=gP s.store;have zg:=G.len
 obtain⟨tg,hg⟩:=T.lO;refine⟨_,(ao (aC (aF (sU T) hr.lt rfl T.dP.m T.dP.F.kp T.dP.b .nil aA (aa (aF (kJ T) hr.lt rfl T.bD.m T.bD.F.kp T.bD.b .nil aA (aa (au (pv 0) rfl) (aa (aI (pv 0) T.aE T.aG.m (dw T) hr.lt T.aG.b .nil aA (aa (a_ aK (pv 1) aD (λ_ _=>rfl)) ah)) (aa (a_ aK (pv 1) aD (λ_ _=>rfl)) (aa (dj rfl hg) ah))))) (aa aD ah))))),?_⟩;refine⟨_,rfl,S,_,dx,_,_,rfl,h1,T.aE,T.aU,rfl,_,rfl,S,dx,_,rfl,h1,rfl,_,rfl,l,_,_,_,rfl,rfl,aX.of hl,aL (j:=0) rfl,S,p,dk,dn,vl,aS,s,n,y,rfl,A1,hv1,_,rfl,l,_,_,_,rfl,rfl,aX.of hl,aL (j:=1) rfl,p,dk,dn,s.store,y.node,j,1099511627775,t,rfl,A1.jb,rp,hd,hw,hs,by omega,λH1 fl qs hf f1 P1 S1=>?_⟩;have er:(SM.rangeT j 1099511627775 t).1=(pairs t).filter (SM.iZ j 1099511627775):=by
  rcases hw with h0|⟨c,q,w,_⟩
  ·rw[h0];rfl
  ·exact SM.um w
 have e:act s (.from_ (n:Int) (j:Int))=(s,GG ((SM.rangeT j 1099511627775 t).1[0]?)):=by
  delta act;simp only[]
  rw[tL hv,dO,SM.Qq tp,ht,er,List.head?_eq_getElem?];cases ((pairs t).filter (SM.iZ j 1099511627775))[0]?<;>rfl
 rw[e]at kk;refine⟨fl,qs,_,0,rfl,f1,P1,λH2 D hD r2 S2=>?_⟩;exact e7 A1 kk _ D (S1.free hD) r2 (S1.trans S2)
def JS(T:Txt K mg a):aT P w K mg base cR 49 a.iS.1 a.iS.2 ["store","arguments"] (r9 a UM):=by
 refine T.iS.F.ok JB (λvs H Q E h=>eG h) (λcdv A outer s0 H vs Q E hr h=>?_);obtain⟨S,p,dk,dn,vl,l,aS,s,xs,args,r,rfl,A1,G,hl,hA,⟨v,k,y,rfl,⟨b9,rfl⟩,hv⟩,kk⟩:=h;have b9:(versionIn v&&Vbwsae.inR k 0 9999)=true:=b9
 simp only[cB]at b9;obtain⟨n,rfl⟩:=c_ b9.1;obtain⟨j,rfl⟩:∃j:Nat,k=(j:Int):=by
  have:=b9.2;unfold Vbwsae.inR at this;simp only[cB,k8]at this;exact⟨k.toNat,by omega⟩
 rw[args2 hA]at hl;rw[dO]at hv;obtain⟨hv1,hv2⟩:=bO hv;obtain⟨dx,h1⟩:=A1.obj;have tp:=G.top n y hv1 hv2
 obtain⟨t,rp,hd,hs,hw,hk,ht⟩:=gT tp;have z1:=nN hw hk
 have zu:=gP s.store;have zg:=G.len
 obtain⟨tg,hg⟩:=T.lO;refine⟨_,(ao (aC (aF (sU T) hr.lt rfl T.dP.m T.dP.F.kp T.dP.b .nil aA (aa (aF (kJ T) hr.lt rfl T.bD.m T.bD.F.kp T.bD.b .nil aA (aa (au (pv 0) rfl) (aa (aI (pv 0) T.aE T.aG.m (dw T) hr.lt T.aG.b .nil aA (aa (a_ aK (pv 1) aD (λ_ _=>rfl)) ah)) (aa aD (aa (dj rfl hg) ah))))) (aa (a_ aK (pv 1) aD (λ_ _=>rfl)) ah))))),?_⟩;refine⟨_,rfl,S,_,dx,_,_,rfl,h1,T.aE,T.aU,rfl,_,rfl,S,dx,_,rfl,h1,rfl,_,rfl,l,_,_,_,rfl,rfl,aX.of hl,aL (j:=0) rfl,S,p,dk,dn,vl,aS,s,n,y,rfl,A1,hv1,p,dk,dn,s.store,y.node,0,1099511627775,t,rfl,A1.jb,rp,hd,hw,hs,by omega,λH1 fl qs hf f1 P1 S1=>?_⟩;refine⟨_,rfl,l,_,_,_,rfl,rfl,aX.of (S1 _ _ hl),aL (j:=1) rfl,?_⟩;have e:act s (.nth (n:Int) (j:Int))=(s,GG ((SM.rangeT 0 1099511627775 t).1[j]?)):=by
  delta act;simp only[]
  rw[tL hv,dO,SM.Sh tp,ht,Dr hw (gm hs)];cases (pairs t)[j]?<;>rfl
 rw[e]at kk;refine⟨fl,qs,_,j,rfl,f1,P1,λH2 D hD r2 S2=>?_⟩;exact e7 A1 kk _ D (S1.free hD) r2 (S1.trans S2)
def UN:RR:=λs args r=>∃v,args=[.n v]/\Rel (.parents v) s r/\v.toNat<s.versions.length
def UO:RR:=λs args r=>∃d,args=[.r d]/\Rel (.inverse d) s r
def K0:RR:=λs args r=>args=[]/\Rel .nodes s r
def UP:RR:=λs args r=>∃v lo hi y,args=[.n v,.n lo,.n hi]/\Rel (.sum v lo hi) s r/\version s v.toNat=some y
def Rn(l:List (Nat×Int)):sumOf l=(l.map (·.2)).sum:=by
 unfold sumOf;rw[List.sum_eq_foldl]
theorem zk(p:α->Bool):∀l:List α,(l.filter p).length+(l.filter λx=>!p x).length=l.length
 | []=>rfl
 |x::l=>by
  have:=zk p l;cases h:p x<;>simp[h]<;>omega
def Ma(vs:List Version)(s:Vbwsae.St)(e:s.versions=vs):((List.range vs.length).filter λv=>(version s v).isSome).length=(vs.filter λx=>x.held).length:=by
 have h:∀(l:List Version),((List.range l.length).filter λi=>(l[i]?.map (·.held)).getD false).length=(l.filter λx=>x.held).length:=λl=>by
  induction l with
  |nil=>rfl
  |cons x l ih=>
   rw[cF,List.range_succ_eq_map,kP,List.filter_map,kP];have e2:((λi=>((x::l)[i]?.map (·.held)).getD false) ∘Nat.succ)=λi=>(l[i]?.map (·.held)).getD false:=by funext i;simp
   rw[e2];cases hx:x.held<;>simp[hx,ih]
 rw[<- h vs]
 congr 1
 apply BO;intro i hi;rw[vV]at hi;have hi':s.versions[i]? =some vs[i]:=by rw[e];exact iw hi
 rw[uf hi',iw hi];rfl
def HL(T:Txt K mg a):aT P w K mg base cR 49 a.gK.1 a.gK.2 ["store","arguments"] (r9 a Pf):=by
 refine T.gK.F.ok y_ (λvs H Q E h=>eG h) (λcdv A outer s0 H vs Q E hr h=>?_);obtain⟨S,p,dk,dn,vl,l,aS,s,xs,args,r,rfl,A1,G,hl,hA,⟨v,y,rfl,⟨b9,rfl⟩,hv⟩,kk⟩:=h;obtain⟨n,rfl⟩:=c_ (show versionIn v=true from b9);rw[args1 hA]at hl;rw[dO]at hv;obtain⟨hv1,hv2⟩:=bO hv;obtain⟨dx,h1⟩:=A1.obj;obtain⟨Qi,hp1⟩:=A1.jb.obj;obtain⟨tk,hN⟩:=T.jC;obtain⟨t,rp,hd,hs,hw,hk,ht⟩:=gT (G.top n y hv1 hv2);refine⟨_,(ak (aJ (i:=2) y_.nd rfl (Or.inl rfl) (aI (pv 0) T.aE T.aG.m (dw T) hr.lt T.aG.b .nil aA (aa (a_ aK (pv 1) aD (λ_ _=>rfl)) ah))) (ak (bx (bf (eL (pv 2) (dj rfl hN))) (ao (aC (bF (aa (dj rfl hN) (aa aD ah))))) aN) (ao (aC (cU yR (bF (aa (pv 2) ah)) (aF (HC T) hr.lt rfl T.jB.m T.jB.F.kp T.jB.b .nil aA (aa (aI (au (pv 0) rfl) T.aM T.aQ.m (iC T) hr.lt T.aQ.b .nil aA (aa (pv 2) ah)) ah))))))),?_⟩;refine⟨_,rfl,S,dx,_,rfl,h1,rfl,_,rfl,l,_,_,_,rfl,rfl,aX.of hl,aL (j:=0) rfl,S,p,dk,dn,vl,aS,s,n,y,rfl,A1,hv1,?_⟩;refine⟨_,rfl,_,_,rfl,rfl,_,rfl,?_⟩;refine gM cQ (λc=>?_) (λc=>?_)
 ·have c:y.node=0:=by omega
  have e:act s (.look (n:Int))=(s,[0,0]):=by
   delta act;simp only[]
   rw[tL hv,c,SM.bJ];rfl
  rw[e]at kk;exact⟨iY,λD hD=>e7 A1 kk _ D hD af (az.new hD)⟩
 ·have rp:=jD rp c;obtain⟨nd,hnd⟩:=rp.node;have e:act s (.look (n:Int))=(s,(y.node:Int)::GH nd):=by
   delta act;simp only[]
   rw[tL hv,hnd];cases nd<;>rfl
  rw[e]at kk;refine⟨_,rfl,(by show 1<=sizeLine;decide),λD1 nL=>?_⟩;have A2:=A1.same (az.new (o:= .lst [V.int (y.node:Int)]) nL)
  obtain⟨mX,h2⟩:=A2.obj;obtain⟨Z8,hp2⟩:=A2.jb.obj;refine⟨_,rfl,S,_,mX,_,_,rfl,h2,T.aE,T.aU,rfl,p,Z8,_,rfl,hp2,rfl,_,rfl,p,dk,dn,s.store,y.node,nd,rfl,A2.jb,hnd,λq e0 ho he=>?_⟩;refine⟨q,nd,e0,rfl,ho,λH2 D2 d9 r2 S2=>?_⟩;refine⟨D1,D2,_,_,rfl,rfl,S2 _ _ af,r2,?_,λD hD=>?_⟩
  ·cases nd<;>exact lH (eZ (by simp[GH]))
  refine e7 A1 kk _ D (((az.new nL).trans S2).free hD) ?_ ((az.new nL).trans (S2.trans (az.new hD)));show L2.upd H2 D _ D=_
  rw[af];rfl
def Az(T:Txt K mg a):aT P w K mg base cR 49 a.cW.1 a.cW.2 ["store","arguments"] (r9 a Pg):=by
 refine T.cW.F.ok Aq (λvs H Q E h=>eG h) (λcdv A outer s0 H vs Q E hr h=>?_);obtain⟨S,p,dk,dn,vl,l,aS,s,xs,args,r,rfl,A1,G,hl,hA,⟨rfl,⟨b9,rfl⟩⟩,kk⟩:=h;obtain⟨dx,h1⟩:=A1.obj;refine⟨_,(ao (aC (bF (aa (aV bg rfl T.iy rfl (aa (au (pv 0) rfl) ah)) (aa (aV bg rfl T.iy rfl (aa (lE (pv 0) T.aE T.bu.m (mO T) hr.lt T.bu.b .nil aA) ah)) ah))))),?_⟩;refine⟨_,rfl,S,_,dx,_,_,rfl,h1,T.aE,T.bY,rfl,vl,_,rfl,.inl (aX.of A1.tK),_,rfl,S,dx,_,rfl,h1,rfl,S,p,dk,dn,vl,aS,s,rfl,A1,G.Iu,λH1 D1 nL d1 S1=>?_⟩;refine⟨D1,_,rfl,.inl (aX.of d1),iY,λD hD=>?_⟩;have e:act s .versions=(s,[(s.versions.length:Int),((s.versions.filter λx=>x.held).length:Nat)]):=rfl
 rw[e]at kk;refine e7 A1 kk _ D (S1.free hD) ?_ (S1.trans (az.new hD));show L2.upd H1 D _ D=_
 rw[af,aO,A1.Gp.len,lK,aO,Ma s.versions s rfl];rfl
def HM(T:Txt K mg a):aT P w K mg base cR 49 a.gH.1 a.gH.2 ["store","arguments"] (r9 a Ph):=by
 refine T.gH.F.ok Hh (λvs H Q E h=>eG h) (λcdv A outer s0 H vs Q E hr h=>?_);obtain⟨S,p,dk,dn,vl,l,aS,s,xs,args,r,rfl,A1,G,hl,hA,⟨v,y,rfl,⟨b9,rfl⟩,hv⟩,kk⟩:=h;obtain⟨n,rfl⟩:=c_ (show versionIn v=true from b9);rw[args1 hA]at hl;rw[dO]at hv;obtain⟨hv1,hv2⟩:=bO hv;obtain⟨dx,h1⟩:=A1.obj;obtain⟨tk,hN⟩:=T.Cd;refine⟨_,(ak (bx (bf (eL (a_ aK (pv 1) aD (λ_ _=>rfl)) aD)) (ao (aC (bF (aa (dj rfl hN) ah)))) aN) (ak (bQ (aI (pv 0) T.aE T.jl.m (Tu T) hr.lt T.jl.b .nil aA (aa (a_ aK (pv 1) aD (λ_ _=>rfl)) ah))) (ao (aC (bF (aa aD ah)))))),?_⟩;refine⟨_,rfl,l,_,_,_,rfl,rfl,aX.of hl,aL (j:=0) rfl,_,_,rfl,rfl,_,rfl,?_⟩;refine gM cQ (λc=>?_) (λc=>?_)
 ·have c:n=0:=by omega
  have e:act s (.drop (n:Int))=(s,[-5]):=by
   delta act;simp only[]
   rw[tL hv,ay c]
  rw[e]at kk;exact⟨(by show 1<=sizeLine;decide),λD hD=>e7 A1 kk _ D hD af (az.new hD)⟩
 ·have c:¬n=0:=by omega
  have e:act s (.drop (n:Int))=({s with versions:=s.versions.modify n λx=>{x with held:=false}},[0]):=by
   delta act;simp only[]
   rw[tL hv,aq c]
  rw[e]at kk;refine⟨_,rfl,S,dx,_,rfl,h1,rfl,_,rfl,l,_,_,_,rfl,rfl,aX.of hl,aL (j:=0) rfl,S,p,dk,dn,vl,aS,s,n,rfl,A1,(iu.mp hv1).1,λH1 A2 K1=>?_⟩;refine⟨(by show 1<=sizeLine;decide),λD hD=>?_⟩;refine kk _ D aS ?_ af (A2.same (az.new hD)) ((K1.mono λb hb=>qg _ hb).trans (aH.of (az.new hD))) λb hb=>.inl hb
  cases eD:H D with
  |none=>rfl
  |some o=>
   by_cases hm:D∈aS
   ·obtain⟨z,_,dd,tt,e1,_⟩:=A2.Gp.mem hm;rw[e1]at hD;cases hD
   ·rw[K1 _ _ eD hm]at hD;cases hD
def Cq(T:Txt K mg a):aT P w K mg base cR 49 a.dQ.1 a.dQ.2 ["store","arguments"] (r9 a Pj):=by
 refine T.dQ.F.ok B7 (λvs H Q E h=>eG h) (λcdv A outer s0 H vs Q E hr h=>?_);obtain⟨S,p,dk,dn,vl,l,aS,s,xs,args,r,rfl,A1,G,hl,hA,⟨rfl,⟨b9,rfl⟩⟩,kk⟩:=h;obtain⟨dx,h1⟩:=A1.obj;refine⟨_,(ao (aC (bF (aa (lE (pv 0) T.aE T.fV.m (L_ T) hr.lt T.fV.b .nil aA) ah)))),?_⟩;refine⟨_,rfl,S,dx,_,rfl,h1,rfl,S,p,dk,dn,vl,aS,s,rfl,A1,G.len,G.Iu,G.top,λH1 A2 K1=>?_⟩;refine⟨(by show 1<=sizeLine;decide),λD hD=>?_⟩;have e:act s .collect=({s with store:=SM.qX (i7 s) s.store},[((((SM.rowsOf s.store).filter λr=>!i7 s r.1).length:Nat):Int)]):=by
  have e0:act s .collect=({s with store:=SM.qX (i7 s) s.store},[((alive s-alive {s with store:=SM.qX (i7 s) s.store}:Nat):Int)]):=rfl;rw[e0,<- SM.CM,<- SM.CM];have:=zk (λr:Nat×SM.Nd=>i7 s r.1) (SM.rowsOf s.store)
  show({s with store:=SM.qX (i7 s) s.store},[(((SM.rowsOf s.store).length-(SM.rowsOf (SM.qX (i7 s) s.store)).length:Nat):Int)])=_
  rw[SM.zU]
  congr 3
  omega
 rw[e]at kk;have hm:∀o,H D=some o->D∈ [p,dk,dn]->False:=λo _ hm=>by
  simp at hm;obtain⟨dd,e1⟩:=A2.jb.obj;obtain⟨oo,e2⟩:=A2.jb.kept;rcases hm with rfl|rfl|rfl
  ·rw[e1]at hD;cases hD
  ·rw[e2]at hD;cases hD
  ·rw[A2.jb.nums]at hD;cases hD
 refine kk _ D aS ?_ af (A2.same (az.new hD)) ((K1.mono λb hb=>by simp at hb⊢;rcases hb with h|h|h<;>simp[h]).trans (aH.of (az.new hD))) λb hb=>.inl hb
 cases eD:H D with
 |none=>rfl
 |some o=>
  by_cases hm2:D∈ [p,dk,dn]
  ·exact(hm o eD hm2).elim
  ·rw[K1 _ _ eD hm2]at hD;cases hD
def DP(T:Txt K mg a):aT P w K mg base cR 49 a.eX.1 a.eX.2 ["store","arguments"] (r9 a Pk):=by
 refine T.eX.F.ok DH (λvs H Q E h=>eG h) (λcdv A outer s0 H vs Q E hr h=>?_);obtain⟨S,p,dk,dn,vl,l,aS,s,xs,args,r,rfl,A1,G,hl,hA,⟨u,v,rfl,⟨b9,rfl⟩,hu,hv⟩,kk⟩:=h;have b9:(versionIn u&&versionIn v)=true:=b9
 simp only[cB]at b9;obtain⟨m,rfl⟩:=c_ b9.1;obtain⟨n,rfl⟩:=c_ b9.2;rw[args2 hA]at hl;rw[dO]at hu hv;obtain⟨dx,h1⟩:=A1.obj;refine⟨_,(ao (aC (bF (aa (aI (pv 0) T.aE T.cS.m (zh T) hr.lt T.cS.b .nil aA (aa (a_ aK (pv 1) aD (λ_ _=>rfl)) (aa (a_ aK (pv 1) aD (λ_ _=>rfl)) ah))) ah)))),?_⟩;refine⟨_,rfl,S,dx,_,rfl,h1,rfl,_,rfl,l,_,_,_,rfl,rfl,aX.of hl,aL (j:=0) rfl,_,rfl,l,_,_,_,rfl,rfl,aX.of hl,aL (j:=1) rfl,S,p,dk,dn,vl,aS,s,m,n,rfl,A1,G.vs,hu,hv,G.Iu,λH1 S1=>?_⟩;refine⟨(by show 1<=sizeLine;decide),λD hD=>?_⟩;have e:act s (.common (m:Int) (n:Int))=(s,[(Vbwsae.common s m n:Int)]):=by
  delta act;simp only[]
  rw[dO,dO,iw hu,iw hv]
 rw[e]at kk;exact e7 A1 kk _ D (S1.free hD) af (S1.trans (az.new hD))
def Cr(T:Txt K mg a):aT P w K mg base cR 49 a.dU.1 a.dU.2 ["store","arguments"] (r9 a UN):=by
 refine T.dU.F.ok sN (λvs H Q E h=>eG h) (λcdv A outer s0 H vs Q E hr h=>?_);obtain⟨S,p,dk,dn,vl,l,aS,s,xs,args,r,rfl,A1,G,hl,hA,⟨v,rfl,⟨b9,rfl⟩,hv⟩,kk⟩:=h;obtain⟨n,rfl⟩:=c_ (show versionIn v=true from b9);rw[args1 hA]at hl;rw[dO]at hv;obtain⟨dx,h1⟩:=A1.obj;have hx:=iw hv
 generalize s.versions[n]=y at hx;have zp:=G.par n y hx
 refine⟨_,(ak (aJ (i:=2) sN.nd rfl (Or.inl rfl) (aI (pv 0) T.aE T.cJ.m (wO T) hr.lt T.cJ.b .nil aA (aa (a_ aK (pv 1) aD (λ_ _=>rfl)) ah))) (ao (aC (cU yR (bF (aa (jm (fD (aI (pv 0) T.aE T.b7.m (rm T) hr.lt T.b7.b .nil aA (aa (a_ aK (pv 1) aD (λ_ _=>rfl)) ah))) aD aD) (aa (aV bg rfl T.iy rfl (aa (pv 2) ah)) ah))) (kZ yQ rfl T.P6 rfl (aa (pv 2) ah)))))),?_⟩;refine⟨_,rfl,S,dx,_,rfl,h1,rfl,_,rfl,l,_,_,_,rfl,rfl,aX.of hl,aL (j:=0) rfl,S,p,dk,dn,vl,aS,s,n,y,rfl,A1,hx,λt ht=>?_⟩;have e:act s (.parents (n:Int))=(s,bit y.held::listed (Vbwsae.ints y.parents)):=by
  delta act;simp only[]
  rw[dO,hx]
 rw[e]at kk;have go:∀b:Int,b=bit y.held->∀D1 D2 D H2,H D1=none->H2 D2=none->H2=L2.upd H D1 (.lst [.int b,.int ((lK y.parents).length:Int)])->L2.upd H2 D2 (.lst (lK y.parents)) D=none->Q (.ref D) (L2.upd (L2.upd H2 D2 (.lst (lK y.parents))) D (.lst ([.int b,.int ((lK y.parents).length:Int)]++lK y.parents))):=λb hb D1 D2 D H2 h1 h2 e2 h3=>by
  subst e2;refine e7 A1 kk _ D (((az.new h1).trans (az.new h2)).free h3) ?_ ((az.new h1).trans ((az.new h2).trans (az.new h3)));show L2.upd _ D _ D=_
  rw[af,hb];simp[listed,Vbwsae.ints,lK]
 refine⟨_,rfl,S,dx,_,rfl,h1,rfl,_,rfl,l,_,_,_,rfl,rfl,aX.of hl,aL (j:=0) rfl,S,p,dk,dn,vl,aS,s,n,rfl,A1,_,rfl,?_⟩;rw[uf hx];cases hh:y.held
 ·refine fu ?_;refine⟨_,rfl,t,_,rfl,.inr (mW.of ht),iY,λD1 nL=>?_⟩;refine⟨_,rfl,t,_,rfl,.inr (mW.of (az.new nL _ _ ht)),λD2 d9=>?_⟩;have OC:D1≠D2:=aj af d9
  refine⟨D1,D2,_,_,rfl,rfl,(by rw[ai OC];exact af),af,?_,λD hD=>go 0 (by rw[hh];rfl) D1 D2 D _ nL d9 rfl hD⟩;rw[lK,aO];exact lH (eZ (by simp;omega))
 ·refine dF ?_;refine⟨_,rfl,t,_,rfl,.inr (mW.of ht),iY,λD1 nL=>?_⟩;refine⟨_,rfl,t,_,rfl,.inr (mW.of (az.new nL _ _ ht)),λD2 d9=>?_⟩;have OC:D1≠D2:=aj af d9
  refine⟨D1,D2,_,_,rfl,rfl,(by rw[ai OC];exact af),af,?_,λD hD=>go 1 (by rw[hh];rfl) D1 D2 D _ nL d9 rfl hD⟩;rw[lK,aO];exact lH (eZ (by simp;omega))
def Cs(T:Txt K mg a):aT P w K mg base cR 49 a.dW.1 a.dW.2 ["store","arguments"] (r9 a UO):=by
 refine T.dW.F.ok sO (λvs H Q E h=>eG h) (λcdv A outer s0 H vs Q E hr h=>?_);obtain⟨S,p,dk,dn,vl,l,aS,s,xs,args,r,rfl,A1,G,hl,hA,⟨d,rfl,⟨b9,rfl⟩⟩,kk⟩:=h;have b9:(decide (d.length<=5*CHANGES)&&rowIn d)=true:=b9
 simp only[cB,k8]at b9;have hz:d.length<=500:=b9.1
 obtain⟨q,rfl,hq⟩:=argsR hA;obtain⟨tk,hN⟩:=T.nG;have zc:=fh d
 refine⟨_,(ak (aJ (i:=2) sO.nd rfl (Or.inl rfl) (aF (k7 T) hr.lt rfl T.bM.m T.bM.F.kp T.bM.b .nil aA (aa (a_ aK (pv 1) aD (λ_ _=>rfl)) ah))) (ak (bx (jJ (fD (aF (kK T) hr.lt rfl T.bE.m T.bE.F.kp T.bE.b .nil aA (aa (pv 2) ah)))) (ao (aC (bF (aa (dj rfl hN) ah)))) aN) (ao (aC (aF (nJ T) hr.lt rfl T.cD.m T.cD.F.kp T.cD.b .nil aA (aa (aF (JH T) hr.lt rfl T.kO.m T.kO.F.kp T.kO.b .nil aA (aa (pv 2) ah)) ah)))))),?_⟩;refine⟨_,rfl,l,_,_,_,rfl,rfl,aX.of hl,aL (j:=0) rfl,q,d,rfl,hq,by omega,b9.2,λH1 D1 qs nL d1 C1 S1=>?_⟩;refine⟨_,rfl,D1,qs,_,rfl,d1,C1,_,rfl,?_⟩;cases hw:wellDiff Vbwsae.same (changesOf d)
 ·refine dF ?_;have e:act s (.inverse d)=(s,[-5]):=by delta act;simp only[];rw[ay hw]
  rw[e]at kk;exact⟨(by show 1<=sizeLine;decide),λD hD=>e7 A1 kk _ D (S1.free hD) af (S1.trans (az.new hD))⟩
 ·refine fu ?_;have e:act s (.inverse d)=(s,counted (changesOf d).length ((Vbwsae.inverse (changesOf d)).flatMap changeRow)):=by delta act;simp only[];rw[aq (by rw[hw];simp)]
  rw[e]at kk;refine⟨_,rfl,D1,qs,_,rfl,d1,C1,by omega,λH2 D2 ts d9 d2 C2 S2=>?_⟩;have zi:(Vbwsae.inverse (changesOf d)).length=(changesOf d).length:=by simp[Vbwsae.inverse]
  refine⟨D2,ts,_,rfl,d2,C2,by omega,λH3 D hD r3 S3=>?_⟩;rw[zi]at r3;exact e7 A1 kk _ D ((S1.trans S2).free hD) r3 ((S1.trans S2).trans S3)
def EN(T:Txt K mg a):aT P w K mg base cR 49 a.fN.1 a.fN.2 ["store","arguments"] (r9 a K0):=by
 refine T.fN.F.ok wA (λvs H Q E h=>eG h) (λcdv A outer s0 H vs Q E hr h=>?_);obtain⟨S,p,dk,dn,vl,l,aS,s,xs,args,r,rfl,A1,G,hl,hA,⟨rfl,⟨b9,rfl⟩⟩,kk⟩:=h;obtain⟨dx,h1⟩:=A1.obj;refine⟨_,(ak (aJ (i:=2) wA.nd rfl (Or.inl rfl) (aI (pv 0) T.aE T.bK.m (oq T) hr.lt T.bK.b .nil aA (aa (lE (pv 0) T.aE T.bu.m (mO T) hr.lt T.bu.b .nil aA) ah))) (ao (aC (bF (aa (aV vd rfl T.iy rfl (aa (au (au (pv 0) rfl) rfl) ah)) (aa (au (au (pv 0) rfl) rfl) (aa (aV vd rfl T.iy rfl (aa (pv 2) ah)) ah))))))),?_⟩;refine⟨_,rfl,S,dx,_,rfl,h1,rfl,_,rfl,S,dx,_,rfl,h1,rfl,S,p,dk,dn,vl,aS,s,rfl,A1,G.Iu,λH1 D1 nL d1 S1=>?_⟩;have A2:=A1.same S1
 refine⟨S,p,dk,dn,vl,D1,aS,s,_,rfl,A2,G.len,d1,λv hv=>?_,λH2 d ks hd hd2 al hm S2=>?_⟩
 ·obtain⟨x,hx,hh⟩:=Gq.mp hv;exact⟨x,hx,G.top v x hx hh⟩
 have A3:=A2.same S2;obtain⟨Ji,h3⟩:=A3.obj;obtain⟨Qi,hp3⟩:=A3.jb.obj;obtain⟨ob,YJ⟩:=A3.jb.kept;refine⟨_,rfl,S,_,Ji,_,_,rfl,h3,T.aE,T.aU,rfl,p,_,Qi,_,_,rfl,hp3,T.aM,T.iK,rfl,dk,_,rfl,YJ,_,rfl,S,_,Ji,_,_,rfl,h3,T.aE,T.aU,rfl,p,_,Qi,_,_,rfl,hp3,T.aM,T.fc,rfl,_,rfl,d,_,rfl,hd2,qy,λD hD=>?_⟩;have e:act s .nodes=(s,[(alive s:Int),s.store.length,(needed s).length]):=rfl
 rw[e]at kk;refine e7 A1 kk _ D ((S1.trans S2).free hD) ?_ ((S1.trans S2).trans (az.new hD));have hr0:=SM.zS (s:=s) λx hx hh=>by
  obtain⟨v,hv⟩:=ye.mp hx;exact G.top v x hv hh
 have el:ks.length=(needed s).length:=SM.uR al.1 (SM.cT hr0.1) λj=>by rw[hm j,Dp G.top]
 show L2.upd H2 D _ D=_
 rw[af,tH,aO,SM.CM s,nk,aO,el];rfl
def JT(T:Txt K mg a):aT P w K mg base cR 49 a.iT.1 a.iT.2 ["store","arguments"] (r9 a UP):=by
 refine T.iT.F.ok pT (λvs H Q E h=>eG h) (λcdv A outer s0 H vs Q E hr h=>?_);obtain⟨S,p,dk,dn,vl,l,aS,s,xs,args,r,rfl,A1,G,hl,hA,⟨v,lo,hi,y,rfl,⟨b9,rfl⟩,hv⟩,kk⟩:=h;have b9:(versionIn v&&(keyIn lo&&keyIn hi))=true:=b9
 simp only[cB]at b9;obtain⟨n,rfl⟩:=c_ b9.1;obtain⟨lo,rfl,hj⟩:=mG b9.2.1;obtain⟨hi,rfl,hj2⟩:=mG b9.2.2;rw[Lq hA]at hl;rw[dO]at hv;obtain⟨hv1,hv2⟩:=bO hv;obtain⟨dx,h1⟩:=A1.obj;obtain⟨t,rp,hd,hs,hw,hk,ht⟩:=gT (G.top n y hv1 hv2);have zt:=nN hw hk
 have zu:=gP s.store;have zg:=G.len
 refine⟨_,(ak (aJ (i:=2) pT.nd rfl (Or.inl rfl) (aF (kJ T) hr.lt rfl T.bD.m T.bD.F.kp T.bD.b .nil aA (aa (au (pv 0) rfl) (aa (aI (pv 0) T.aE T.aG.m (dw T) hr.lt T.aG.b .nil aA (aa (a_ aK (pv 1) aD (λ_ _=>rfl)) ah)) (aa (a_ aK (pv 1) aD (λ_ _=>rfl)) (aa (a_ aK (pv 1) aD (λ_ _=>rfl)) ah)))))) (ao (aC (bF (aa aD (aa (aV (Vc rfl) rfl T.XE rfl (aa (vZ (own:=[("pair",3)]) (te:=MO (RH K) (l9 3) (tC (.int 1))) rfl pT.nd (i6 (pv 2)) (jU rfl) (λs H C cl fp=>b_ (i:=3) pT.nd rfl (Or.inl rfl)) (λs H C cl fp=>qN) (λs H C cl fp=>a_ sL (pv 3) aD (λ_ _=>rfl))) ah)) ah)))))),?_⟩;refine⟨_,rfl,S,_,dx,_,_,rfl,h1,T.aE,T.aU,rfl,_,rfl,S,dx,_,rfl,h1,rfl,_,rfl,l,_,_,_,rfl,rfl,aX.of hl,aL (j:=0) rfl,S,p,dk,dn,vl,aS,s,n,y,rfl,A1,hv1,_,rfl,l,_,_,_,rfl,rfl,aX.of hl,aL (j:=1) rfl,_,rfl,l,_,_,_,rfl,rfl,aX.of hl,aL (j:=2) rfl,p,dk,dn,s.store,y.node,lo,hi,t,rfl,A1.jb,rp,hd,hw,hs,by omega,λH1 fl qs hf f1 P1 S1=>?_⟩;refine⟨_,rfl,fl,rfl,⟨_,aX.of f1⟩,λD1 nL=>?_⟩;have zr:=q_ (lo:=lo) (hi:=hi) hw
 refine Bv (K:=K) (xs:=qs.map V.ref) (λi H2=>H2=L2.upd H1 D1 (.lst ((((SM.rangeT lo hi t).1.take i).map (·.2)).map V.int))) rfl (λi H2 _ e=>by rw[e];exact aX.of (az.new nL _ _ f1)) ?_ ?_
 ·rintro i x H2 hx rfl
  rw[fj]at hx;obtain⟨q,hq,rfl⟩:=f_.mp hx;obtain⟨pp,hpp,hO⟩:=P1.get hq;refine⟨rfl,Iq ?_⟩;refine dF ?_;refine⟨_,rfl,q,_,_,_,rfl,rfl,mW.of (az.new nL _ _ hO),aL (j:=1) rfl,_,af,?_,?_⟩
  ·rw[aO,aO,lG];exact eZ (by omega)
  ·rw[qM,take_snoc hpp];simp
 ·rintro H2 rfl
  rw[aO,P1.len,i9];refine⟨D1,_,rfl,aX.of af,iY,λD hD=>?_⟩;have e:act s (.sum (n:Int) (lo:Int) (hi:Int))=(s,[0,((SM.rangeT lo hi t).1.map (·.2)).sum]):=by
   delta act;simp only[]
   rw[tL hv,dO,dO,KZ rp hd hw,Rn];rfl
  rw[e]at kk;exact e7 A1 kk _ D ((S1.trans (az.new nL)).free hD) af (S1.trans ((az.new nL).trans (az.new hD)))
def K8:RR:=λs args r=>∃v d y,args=[.n v,.r d]/\Rel (.patch v d) s r/\version s v.toNat=some y
def GJ:RR:=λs args r=>∃v d y,args=[.n v,.r d]/\Rel (.putAll v d) s r/\version s v.toNat=some y
def Pn:RR:=λs args r=>∃d e,args=[.r d,.r e]/\Rel (.joinOf d e) s r
theorem GK:∀{row:List Int},rowIn row=true->∀c∈changesOf row,c.key<2^40
 |k::x0::x::y0::y::r,h,c,hc=>by
  rw[yb]at h;simp only[cB]at h;rcases bN.mp (show c∈_::changesOf r from hc)with e|e
  ·rw[e];exact(pC h.1).2
  ·exact GK h.2.2.2 c e
 | [],h,c,hc=>by simp[changesOf]at hc
 | [_],h,c,hc=>by simp[changesOf]at hc
 | [_,_],h,c,hc=>by simp[changesOf]at hc
 | [_,_,_],h,c,hc=>by simp[changesOf]at hc
 | [_,_,_,_],h,c,hc=>by simp[changesOf]at hc
theorem Uy:∀{row:List Int} {qs:List Addr},pairsIn row=true->YW H qs (jL row)->oj H qs ((Vbwsae.pairsOf row).map λp=>(p.1,some p.2))/\∀p∈Vbwsae.pairsOf row,p.1<2^40
 |k::x::r,qs,h,hp=>by
  simp only[pairsIn,cB]at h;obtain _|⟨h1,h2⟩:=hp
  obtain⟨i1,i2⟩:=Uy h.2.2 h2;obtain⟨e1,e2⟩:=pC h.1;refine⟨.cons ?_ i1,λp hp=>?_⟩
  ·rw[h1];show some (HO.tup [V.int k,V.int x])=some (HO.tup [V.int ((k.toNat:Nat):Int),V.int x])
   rw[e1]
  ·rcases bN.mp (show p∈(k.toNat,x)::Vbwsae.pairsOf r from hp)with e|e
   ·rw[e];exact e2
   ·exact i2 p e
 | [],qs,h,hp=>by obtain _|_:=hp;exact⟨.nil,λp hp=>by simp[Vbwsae.pairsOf]at hp⟩
 | [_],qs,h,hp=>by simp[pairsIn]at h
theorem tM:∀{n:Nat} {x y l:List Ch},join Vbwsae.same n x y=some l->l.length<=x.length+y.length
 |0,_,_,_,h=>by simp[join]at h
 |n+1,[],b,l,h=>by simp[join]at h;subst h;simp
 |n+1,p::x,[],l,h=>by simp[join]at h;subst h;simp
 |n+1,p::x,q::y,l,h=>by
  simp only[join]at h
  split at h
  ·obtain⟨l',h',rfl⟩:=f_.mp h;have:=tM h'
   simp at this⊢;omega
  ·split at h
   ·obtain⟨l',h',rfl⟩:=f_.mp h;have:=tM h'
    simp at this⊢;omega
   ·split at h
    ·cases h
    ·obtain⟨l',h',rfl⟩:=f_.mp h;have:=tM h'
     split<;>simp<;>omega
def EO(T:Txt K mg a):aT P w K mg base cR 49 a.fK.1 a.fK.2 ["store","arguments"] (r9 a K8):=by
 refine T.fK.F.ok mR (λvs H Q E h=>eG h) (λcdv A outer s0 H vs Q E hr h=>?_);obtain⟨S,p,dk,dn,vl,l,aS,s,xs,args,r,rfl,A1,G,hl,hA,⟨v,d,y,rfl,⟨b9,rfl⟩,hv⟩,kk⟩:=h;have b9:(versionIn v&&(decide (d.length<=5*CHANGES)&&rowIn d))=true:=b9
 simp only[cB,k8]at b9;have hz:d.length<=500:=b9.2.1
 obtain⟨n,rfl⟩:=c_ b9.1;obtain⟨q,rfl,hq⟩:=Qj hA;rw[dO]at hv;obtain⟨hv1,hv2⟩:=bO hv;have tp:=G.top n y hv1 hv2
 obtain⟨t,rp,hd,hs,hw,hk,ht⟩:=gT tp;obtain⟨tk,hN⟩:=T.nG;obtain⟨tk2,Y6⟩:=T.DK;have zc:=fh d
 refine⟨_,(ak (aJ (i:=2) mR.nd rfl (Or.inl rfl) (a_ aK (pv 1) aD (λ_ _=>rfl))) (ak (aJ (i:=3) mR.nd rfl (Or.inl rfl) (aF (k7 T) hr.lt rfl T.bM.m T.bM.F.kp T.bM.b .nil aA (aa (a_ aK (pv 1) aD (λ_ _=>rfl)) ah))) (ak (bx (jJ (fD (aF (kK T) hr.lt rfl T.bE.m T.bE.F.kp T.bE.b .nil aA (aa (pv 3) ah)))) (ao (aC (bF (aa (dj rfl hN) ah)))) aN) (ak (aJ (i:=4) mR.nd rfl (Or.inl rfl) (aF (Ck T) hr.lt rfl T.fQ.m T.fQ.F.kp T.fQ.b .nil aA (aa (au (pv 0) rfl) (aa (aI (pv 0) T.aE T.aG.m (dw T) hr.lt T.aG.b .nil aA (aa (pv 2) ah)) (aa (pv 3) ah))))) (ak (bx (bf (Sv (pv 4))) (ao (aC (bF (aa (cU FP (dj rfl Y6) (pv 4)) ah)))) aN) (ao (aC (aI (pv 0) T.aE T.aW.m (jM T) hr.lt T.aW.b .nil aA (aa (aI (pv 0) T.aE T.aG.m (dw T) hr.lt T.aG.b .nil aA (aa (pv 2) ah)) (aa (aF (Hy T) hr.lt rfl T.jA.m T.jA.F.kp T.jA.b .nil aA (aa (pv 3) ah)) (aa (j7 (aa (pv 2) ah)) ah))))))))))),?_⟩;refine⟨_,rfl,l,_,_,_,rfl,rfl,aX.of hl,aL (j:=0) rfl,?_⟩;refine⟨_,rfl,l,_,_,_,rfl,rfl,aX.of hl,aL (j:=1) rfl,q,d,rfl,hq,by omega,b9.2.2,λH1 D1 qs nL d1 C1 S1=>?_⟩;refine⟨_,rfl,D1,qs,_,rfl,d1,C1,_,rfl,?_⟩;have ef:(λc:Ch=>!sameOpt Vbwsae.same (getAt s.store c.key LEVELS y.node) c.old)=λc=>!sameOpt Vbwsae.same (Vbwsae.get t c.key) c.old:=by funext c;rw[W2 rp hd]
 have e0:act s (.patch (n:Int) d)=if wellDiff Vbwsae.same (changesOf d)=false then(s,[-5])else match(changesOf d).findIdx? (λc=>!sameOpt Vbwsae.same (Vbwsae.get t c.key) c.old)with
   |some i=>(s,[-1000-(i:Int)])
   |none=>newVersion s [n] (SM.e8 (s.store,y.node) ((changesOf d).map SM.wr)) []:=by
  delta act;simp only[]
  rw[tL hv,ef,SM.lN];generalize (changesOf d).findIdx? (λc=>!sameOpt Vbwsae.same (Vbwsae.get t c.key) c.old)=z;cases z<;>with_reducible rfl
 rw[e0]at kk;cases hwd:wellDiff Vbwsae.same (changesOf d)
 ·refine dF ?_;rw[ay hwd]at kk;exact⟨(by show 1<=sizeLine;decide),λD hD=>e7 A1 kk _ D (S1.free hD) af (S1.trans (az.new hD))⟩
 refine fu ?_;rw[aq (by rw[hwd];simp)]at kk;have A2:=A1.same S1
 obtain⟨dx,h1⟩:=A2.obj;refine⟨_,rfl,S,_,dx,_,_,rfl,h1,T.aE,T.aU,rfl,_,rfl,S,dx,_,rfl,h1,rfl,_,rfl,S,p,dk,dn,vl,aS,s,n,y,rfl,A2,hv1,_,rfl,p,dk,dn,D1,s.store,y.node,t,qs,_,rfl,A2.jb,rp,d1,C1,λH2 S2=>?_⟩;refine⟨_,rfl,?_⟩;cases hf:(changesOf d).findIdx? (λc=>!sameOpt Vbwsae.same (Vbwsae.get t c.key) c.old)with
 |some i=>
  rw[hf]at kk;refine⟨_,rfl,dF ⟨_,rfl,_,_,rfl,rfl,(by show 1<=sizeLine;decide),λD hD=>?_⟩⟩;exact e7 A1 kk _ D ((S1.trans S2).free hD) af ((S1.trans S2).trans (az.new hD))
 |none=>
  rw[hf]at kk;refine⟨_,rfl,fu ?_⟩;have A3:=A2.same S2
  obtain⟨Ji,h3⟩:=A3.obj;refine⟨_,rfl,S,Ji,_,rfl,h3,rfl,_,rfl,S,Ji,_,rfl,h3,rfl,_,rfl,S,p,dk,dn,vl,aS,s,n,y,rfl,A3,hv1,_,rfl,D1,qs,_,rfl,S2 _ _ d1,C1.same S2,by omega,λH3 wl ts hwl w3 W3 S3=>?_⟩;refine⟨_,rfl,(by show 1<=sizeLine;decide),λtt R9=>?_⟩;have S4:=(S1.trans S2).trans (S3.trans (az.new (o:= .tup [.int (n:Int)]) R9))
  refine⟨S,p,dk,dn,vl,wl,tt,aS,ts,s,y.node,_,[n],rfl,A1.same S4,G.good,G.len,tp,?_,az.new R9 _ _ w3,W3.same (az.new R9),af,Gr S4 kk⟩;intro x hx;obtain⟨c,hc,rfl⟩:=br.mp hx;exact GK b9.2.2 c hc
def DQ(T:Txt K mg a):aT P w K mg base cR 49 a.eY.1 a.eY.2 ["store","arguments"] (r9 a GJ):=by
 refine T.eY.F.ok vg (λvs H Q E h=>eG h) (λcdv A outer s0 H vs Q E hr h=>?_);obtain⟨S,p,dk,dn,vl,l,aS,s,xs,args,r,rfl,A1,G,hl,hA,⟨v,d,y,rfl,⟨b9,rfl⟩,hv⟩,kk⟩:=h;have b9:(versionIn v&&(decide (d.length<=200)&&pairsIn d))=true:=b9
 simp only[cB,k8]at b9;have hz:=b9.2.1
 obtain⟨n,rfl⟩:=c_ b9.1;obtain⟨q,rfl,hq⟩:=Qj hA;rw[dO]at hv;obtain⟨hv1,hv2⟩:=bO hv;obtain⟨dx,h1⟩:=A1.obj;have hm:d.length%2=0:=Decidable.byContradiction λz=>by have:=b9.2.2;rw[Ai d z]at this;cases this
 refine⟨_,(ak (aJ (i:=2) vg.nd rfl (Or.inl rfl) (a_ aK (pv 1) aD (λ_ _=>rfl))) (ao (aC (aI (pv 0) T.aE T.aW.m (jM T) hr.lt T.aW.b .nil aA (aa (aI (pv 0) T.aE T.aG.m (dw T) hr.lt T.aG.b .nil aA (aa (pv 2) ah)) (aa (aF (wN T) hr.lt rfl T.fJ.m T.fJ.F.kp T.fJ.b .nil aA (aa (a_ aK (pv 1) aD (λ_ _=>rfl)) ah)) (aa (j7 (aa (pv 2) ah)) ah))))))),?_⟩;refine⟨_,rfl,l,_,_,_,rfl,rfl,aX.of hl,aL (j:=0) rfl,?_⟩;refine⟨_,rfl,S,dx,_,rfl,h1,rfl,_,rfl,S,dx,_,rfl,h1,rfl,_,rfl,S,p,dk,dn,vl,aS,s,n,y,rfl,A1,hv1,_,rfl,l,_,_,_,rfl,rfl,aX.of hl,aL (j:=1) rfl,q,d,rfl,hq,by omega,hm,λH1 wl ts hwl w1 P1 S1=>?_⟩;refine⟨_,rfl,(by show 1<=sizeLine;decide),λtt R9=>?_⟩;have S2:=S1.trans (az.new (o:= .tup [.int (n:Int)]) R9)
 obtain⟨W1,hk⟩:=Uy b9.2.2 P1;have e:act s (.putAll (n:Int) d)=newVersion s [n] (SM.e8 (s.store,y.node) ((Vbwsae.pairsOf d).map λp=>(p.1,some p.2))) []:=by
  delta act;simp only[]
  rw[tL hv,SM.AJ]
 rw[e]at kk;refine⟨S,p,dk,dn,vl,wl,tt,aS,ts,s,y.node,_,[n],rfl,A1.same S2,G.good,G.len,G.top n y hv1 hv2,?_,az.new R9 _ _ w1,W1.same (az.new R9),af,Gr S2 kk⟩;intro x hx;obtain⟨c,hc,rfl⟩:=br.mp hx;exact hk c hc
def HN(T:Txt K mg a):aT P w K mg base cR 49 a.gF.1 a.gF.2 ["store","arguments"] (r9 a Pn):=by
 refine T.gF.F.ok n9 (λvs H Q E h=>eG h) (λcdv A outer s0 H vs Q E hr h=>?_);obtain⟨S,p,dk,dn,vl,l,aS,s,xs,args,r,rfl,A1,G,hl,hA,⟨d,d2,rfl,⟨b9,rfl⟩⟩,kk⟩:=h;have b9:((decide (d.length<=5*CHANGES)&&rowIn d)&&(decide (d2.length<=5*CHANGES)&&rowIn d2))=true:=b9
 simp only[cB,k8]at b9;have hz:d.length<=500:=b9.1.1
 have hz2:d2.length<=500:=b9.2.1;obtain⟨q,q2,rfl,hq,hq2⟩:=V1 hA;obtain⟨tk,hN⟩:=T.nG;obtain⟨tk2,Y6⟩:=T.DJ;have zc:=fh d
 have zc2:=fh d2;refine⟨_,(ak (aJ (i:=2) n9.nd rfl (Or.inl rfl) (aF (k7 T) hr.lt rfl T.bM.m T.bM.F.kp T.bM.b .nil aA (aa (a_ aK (pv 1) aD (λ_ _=>rfl)) ah))) (ak (aJ (i:=3) n9.nd rfl (Or.inl rfl) (aF (k7 T) hr.lt rfl T.bM.m T.bM.F.kp T.bM.b .nil aA (aa (a_ aK (pv 1) aD (λ_ _=>rfl)) ah))) (ak (bx (PW.pt (t_ (jJ (fD (aF (kK T) hr.lt rfl T.bE.m T.bE.F.kp T.bE.b .nil aA (aa (pv 2) ah)))) (qE (jJ (fD (aF (kK T) hr.lt rfl T.bE.m T.bE.F.kp T.bE.b .nil aA (aa (pv 3) ah))))))) (ao (aC (bF (aa (dj rfl hN) ah)))) aN) (ak (aJ (i:=4) n9.nd rfl (Or.inl rfl) (aF (Ow T) hr.lt rfl T.joined.m T.joined.F.kp T.joined.b .nil aA (aa (pv 2) (aa (pv 3) ah)))) (ao (aC (jm (bf (KA (pv 4))) (bF (aa (dj rfl Y6) ah)) (aF (nJ T) hr.lt rfl T.cD.m T.cD.F.kp T.cD.b .nil aA (aa (pv 4) ah))))))))),?_⟩;refine⟨_,rfl,l,_,_,_,rfl,rfl,aX.of hl,aL (j:=0) rfl,q,d,rfl,hq,by omega,b9.1.2,λH1 D1 qs nL d1 C1 S1=>?_⟩;have Z9:Row H1 q2 d2:=S1 _ _ hq2
 refine⟨_,rfl,l,_,_,_,rfl,rfl,aX.of (S1 _ _ hl),aL (j:=1) rfl,q2,d2,rfl,Z9,by omega,b9.2.2,λH2 D2 wJ d9 e2 C2 S2=>?_⟩;have wL:=S1.trans S2
 refine⟨_,rfl,D1,qs,_,rfl,S2 _ _ d1,C1.same S2,_,rfl,?_⟩;cases hw:wellDiff Vbwsae.same (changesOf d)
 ·refine dF (dF ?_);have e:act s (.joinOf d d2)=(s,[-5]):=by delta act;simp only[];rw[ay (.inl hw)]
  rw[e]at kk;exact⟨(by show 1<=sizeLine;decide),λD hD=>e7 A1 kk _ D (wL.free hD) af (wL.trans (az.new hD))⟩
 refine fu ?_;refine⟨_,rfl,D2,wJ,_,rfl,e2,C2,_,rfl,?_⟩;cases OA:wellDiff Vbwsae.same (changesOf d2)
 ·refine dF ?_;have e:act s (.joinOf d d2)=(s,[-5]):=by delta act;simp only[];rw[ay (.inr OA)]
  rw[e]at kk;exact⟨(by show 1<=sizeLine;decide),λD hD=>e7 A1 kk _ D (wL.free hD) af (wL.trans (az.new hD))⟩
 refine fu ?_;have e:act s (.joinOf d d2)=match join Vbwsae.same ((changesOf d).length+(changesOf d2).length+1) (changesOf d) (changesOf d2)with
   |none=>(s,[-6])
   |some l=>(s,counted l.length (l.flatMap changeRow)):=by
  delta act;simp only[]
  rw[aq (by rw[hw,OA];simp)];generalize join Vbwsae.same ((changesOf d).length+(changesOf d2).length+1) (changesOf d) (changesOf d2)=z;cases z<;>with_reducible rfl
 rw[e]at kk;refine⟨_,rfl,_,rfl,D1,D2,qs,wJ,_,_,rfl,S2 _ _ d1,e2,C1.same S2,C2,((SM.nQ _).mp hw).1,((SM.nQ _).mp OA).1,by omega,λhj H3 S3=>?_,λcs hj H3 D3 ts Af d3 C3 S3=>?_⟩
 ·rw[hj]at kk;refine⟨_,rfl,_,rfl,dF ⟨(by show 1<=sizeLine;decide),λD hD=>?_⟩⟩;exact e7 A1 kk _ D ((wL.trans S3).free hD) af ((wL.trans S3).trans (az.new hD))
 ·rw[hj]at kk;have:=tM hj
  refine⟨_,rfl,_,rfl,fu ⟨_,rfl,D3,ts,cs,rfl,d3,C3,by omega,λH4 D hD r4 S4=>?_⟩⟩;exact e7 A1 kk _ D ((wL.trans S3).free hD) r4 ((wL.trans S3).trans S4)
def GL:RR:=λs args r=>∃u v x y,args=[.n u,.n v]/\Rel (.shared u v) s r/\version s u.toNat=some x/\version s v.toNat=some y
def K9:RR:=λs args r=>∃u v x y,args=[.n u,.n v]/\Rel (.merge u v) s r/\version s u.toNat=some x/\version s v.toNat=some y
def K_:RR:=λs args r=>∃c u v b x y,args=[.n c,.n u,.n v]/\Rel (.mergeFrom c u v) s r/\version s c.toNat=some b/\version s u.toNat=some x/\version s v.toNat=some y
def BF{x:Version}(h:s.versions[n]? =some x)(j:Nat):(∃v∈ [n],∃y,s.versions[v]? =some y/\SM.Reach s.store y.node j)↔SM.Reach s.store x.node j:=by
 constructor
 ·rintro⟨v,hv,y,hy,hr⟩
  rw[cY.mp hv,h]at hy;cases hy;exact hr
 ·intro hr;exact⟨n,by simp,x,h,hr⟩
noncomputable def La (r:List Ch×List Cf):List Int:=counted r.2.length (r.2.flatMap mU)
inductive Z_(a:Ad)(vs:List V)(H:Hp)(Q:VK)(gc:XK):Prop
 |mk (S p dk dn vl:Addr) (aS:List Addr) (s:Vbwsae.St) (b m n:Nat) (z x y:Version) (_:vs=[.ref S,.int (b:Int),.int (m:Int),.int (n:Int)]) (_:jE a H S p dk dn vl aS s) (_:iz s) (_:version s b=some z) (_:version s m=some x) (_:version s n=some y) (_:∀H' D ja,H D=none->Row H' D (Vbwsae.merged s z x y m n).2->jE a H' S p dk dn vl ja (Vbwsae.merged s z x y m n).1->aH ([p,dk,dn,vl]++aS) H H'->(∀b∈ja,b∈aS\/H b=none)->Q (.ref D) H')
def Tz(s:Vbwsae.St)(gO:List Nat)(x:bI×Nat)(more:List Int):
  (newVersion s gO x more=newVersion s gO x []/\∃k,(newVersion s gO x []).2=[k]/\k<0)\/(newVersion s gO x more=((newVersion s gO x []).1,(newVersion s gO x []).2++more)/\∃k j,(newVersion s gO x []).2=[k,j]/\0<=k):=by
 unfold newVersion;by_cases c1:VERSIONS<=s.versions.length
 ·simp only[ay c1];exact .inl ⟨trivial,-3,rfl,by decide⟩
 ·simp only[aq c1];by_cases c2:NODES<x.1.length
  ·simp only[ay c2];exact .inl ⟨trivial,-4,rfl,by decide⟩
  ·simp only[aq c2];exact .inr ⟨by simp,_,_,rfl,by simp[addVersion]⟩
def Ro{S:Addr}(A:jE a H' S p dk dn vl aS s)(k:aH [p,dk,dn,vl] H H')(h:H' D=none):H D=none:=by
 cases eD:H D with
 |none=>rfl
 |some o=>
  by_cases hm:D∈ [p,dk,dn,vl]
  ·simp at hm;obtain⟨dd,e1⟩:=A.jb.obj;obtain⟨oo,e2⟩:=A.jb.kept;rcases hm with rfl|rfl|rfl|rfl
   ·rw[e1]at h;cases h
   ·rw[e2]at h;cases h
   ·rw[A.jb.nums]at h;cases h
   ·rw[A.tK]at h;cases h
  ·rw[k _ _ eD hm]at h;cases h
theorem qz:∀{n:Nat} {x y:List Ch},(∀c∈(both Vbwsae.same n x y).1,c∈x\/c∈y)/\(both Vbwsae.same n x y).2.length<=x.length
 |0,_,_=>by simp[both]
 |n+1,[],b=>by simp[both]
 |n+1,p::x,[]=>by simp[both]
 |n+1,p::x,q::y=>by
  simp only[both]
  split
  ·obtain⟨h1,h2⟩:=qz (n:=n) (x:=x) (y:=q::y);refine⟨λc hc=>?_,by simp;omega⟩;rcases bN.mp hc with e|e
   ·exact .inl (by rw[e];simp)
   ·exact(h1 c e).imp (cP _) id
  ·split
   ·obtain⟨h1,h2⟩:=qz (n:=n) (x:=p::x) (y:=y);refine⟨λc hc=>?_,h2⟩;rcases bN.mp hc with e|e
    ·exact .inr (by rw[e];simp)
    ·exact(h1 c e).imp id (cP _)
   ·obtain⟨h1,h2⟩:=qz (n:=n) (x:=x) (y:=y)
    split
    ·refine⟨λc hc=>?_,by simp;omega⟩;rcases bN.mp hc with e|e
     ·exact .inl (by rw[e];simp)
     ·exact(h1 c e).imp (cP _) (cP _)
    ·refine⟨λc hc=>(h1 c hc).imp (cP _) (cP _),by simp;omega⟩
def wR(T:Txt K mg a):aT P w K mg base cR 90 a.fL.1 a.fL.2 ["store","base","first","second"] (Z_ a):=by
 refine T.fL.F.ok kT (λvs H Q E h=>?_) (λcdv A outer s0 H vs Q E hr h=>?_)
 ·obtain⟨S,p,dk,dn,vl,aS,s,b,m,n,z,x,y,rfl,_⟩:=h;rfl
 obtain⟨S,p,dk,dn,vl,aS,s,b,m,n,z,x,y,rfl,A1,G,hz,hx,hy,kk⟩:=h;obtain⟨hz1,hz2⟩:=bO hz;obtain⟨hx1,hx2⟩:=bO hx;obtain⟨hy1,hy2⟩:=bO hy;have tz:=G.top b z hz1 hz2
 have tx:=G.top m x hx1 hx2;have ty:=G.top n y hy1 hy2
 obtain⟨t0,r0,d0,s0',w0,k0,e0⟩:=gT tz;obtain⟨t1,r1,d1,s1',w1,k1,e1⟩:=gT tx;obtain⟨t2,r2,d2,s2',w2,k2,e2⟩:=gT ty;obtain⟨dx,h1⟩:=A1.obj;have zu:=gP s.store
 have zg:=G.len;refine⟨_,(ak (aJ (i:=4) kT.nd rfl (Or.inl rfl) (aI (pv 0) T.aE T.aG.m (dw T) hr.lt T.aG.b .nil aA (aa (pv 1) ah))) (ak (aJ (i:=5) kT.nd rfl (Or.inl rfl) (aF (Oz T) hr.lt rfl T.merged.m T.merged.F.kp T.merged.b .nil aA (aa (aF (wK T) hr.lt rfl T.difference.m T.difference.F.kp T.difference.b .nil aA (aa (au (pv 0) rfl) (aa (pv 4) (aa (aI (pv 0) T.aE T.aG.m (dw T) hr.lt T.aG.b .nil aA (aa (pv 2) ah)) ah)))) (aa (aF (wK T) hr.lt rfl T.difference.m T.difference.F.kp T.difference.b .nil aA (aa (au (pv 0) rfl) (aa (pv 4) (aa (aI (pv 0) T.aE T.aG.m (dw T) hr.lt T.aG.b .nil aA (aa (pv 3) ah)) ah)))) ah)))) (ak (aJ (i:=6) kT.nd rfl (Or.inl rfl) (jm (bf (eL (pv 2) (pv 3))) (j7 (aa (pv 2) ah)) (j7 (aa (pv 2) (aa (pv 3) ah))))) (ak (aJ (i:=7) kT.nd rfl (Or.inl rfl) (aI (pv 0) T.aE T.aW.m (jM T) hr.lt T.aW.b .nil aA (aa (pv 4) (aa (au (pv 5) rfl) (aa (pv 6) ah))))) (ak (bx (bf (GX (a_ aK (pv 7) aD (λ_ _=>rfl)) aD)) (ao (aC (pv 7))) aN) (ao (aC (cU yR (pv 7) (aF (zE T) hr.lt rfl T.eF.m T.eF.F.kp T.eF.b .nil aA (aa (au (pv 5) rfl) ah)))))))))),?_⟩;refine⟨_,rfl,S,dx,_,rfl,h1,rfl,_,rfl,S,p,dk,dn,vl,aS,s,b,z,rfl,A1,hz1,?_⟩;refine⟨_,rfl,S,_,dx,_,_,rfl,h1,T.aE,T.aU,rfl,_,rfl,_,rfl,S,dx,_,rfl,h1,rfl,_,rfl,S,p,dk,dn,vl,aS,s,m,x,rfl,A1,hx1,p,dk,dn,s.store,z.node,x.node,t0,t1,lF s.store,rfl,A1.jb,G.good.uniq,r0,r1,d0,d1,w0,w1,k0,k1,by omega,λH1 la qa hla la1 Ca S1=>?_⟩;have A2:=A1.same S1
 obtain⟨mX,h2⟩:=A2.obj;refine⟨_,rfl,S,_,mX,_,_,rfl,h2,T.aE,T.aU,rfl,_,rfl,_,rfl,S,mX,_,rfl,h2,rfl,_,rfl,S,p,dk,dn,vl,aS,s,n,y,rfl,A2,hy1,p,dk,dn,s.store,z.node,y.node,t0,t2,lF s.store,rfl,A2.jb,G.good.uniq,r0,r2,d0,d2,w0,w2,k0,k2,by omega,λH2 lb qb hlb lb2 Cb S2=>?_⟩;obtain⟨ka1,W4⟩:=SM.ow tz tx;obtain⟨kb1,kb2⟩:=SM.ow tz ty;rw[e0,e1]at W4;rw[e0,e2]at kb2;have em:Vbwsae.merged s z x y m n=newVersion s (if m=n then [m]else [m,n]) (SM.e8 (s.store,z.node) ((both Vbwsae.same ((diffAt Vbwsae.same s.store LEVELS z.node x.node).1.length+(diffAt Vbwsae.same s.store LEVELS z.node y.node).1.length+1) (diffAt Vbwsae.same s.store LEVELS z.node x.node).1 (diffAt Vbwsae.same s.store LEVELS z.node y.node).1).1.map SM.wr)) (La (both Vbwsae.same ((diffAt Vbwsae.same s.store LEVELS z.node x.node).1.length+(diffAt Vbwsae.same s.store LEVELS z.node y.node).1.length+1) (diffAt Vbwsae.same s.store LEVELS z.node x.node).1 (diffAt Vbwsae.same s.store LEVELS z.node y.node).1)):=by
  unfold Vbwsae.merged La mU;simp only[SM.lN]
 rw[em]at kk;have Ca':mY a H2 qa (diffAt Vbwsae.same s.store LEVELS z.node x.node).1:=Ca.same S2
 have Cb':mY a H2 qb (diffAt Vbwsae.same s.store LEVELS z.node y.node).1:=Cb;have ua:∀c∈(diffAt Vbwsae.same s.store LEVELS z.node x.node).1,c.key∈lF s.store:=λc hc=>(W4 c hc).elim (k0 _) (k1 _)
 have ub:∀c∈(diffAt Vbwsae.same s.store LEVELS z.node y.node).1,c.key∈lF s.store:=λc hc=>(kb2 c hc).elim (k0 _) (k2 _)
 have za:=Dc tz tx e0 e1;have zt0:=nN w0 k0
 have zt1:=nN w1 k1;have qa2:∀c∈(diffAt Vbwsae.same s.store LEVELS z.node x.node).1,c.key<2^40:=λc hc=>(W4 c hc).elim (gm s0' _) (gm s1' _)
 have qb2:∀c∈(diffAt Vbwsae.same s.store LEVELS z.node y.node).1,c.key<2^40:=λc hc=>(kb2 c hc).elim (gm s0' _) (gm s2' _)
 clear Ca Cb em W4 kb2;generalize (diffAt Vbwsae.same s.store LEVELS z.node x.node).1=da at *;generalize (diffAt Vbwsae.same s.store LEVELS z.node y.node).1=db at *;refine⟨la,lb,qa,qb,da,db,lF s.store,rfl,S2 _ _ la1,lb2,Ca',Cb',ka1,kb1,ua,ub,by omega,λH3 M wl cl ts us hwl hcl hM hw3 W3 hc3 C3 S3=>?_⟩;obtain⟨bm1,bm2⟩:=qz (n:=da.length+db.length+1) (x:=da) (y:=db);generalize both Vbwsae.same (da.length+db.length+1) da db=bb at *;have S13:=(S1.trans S2).trans S3
 have aaa:cl≠vl:=(aj (S2 _ _ (S1 _ _ A1.tK)) hcl).symm;have fin:∀(t:Addr),H3 t=none->∀gO:List Nat,gO=(if m=n then [m]else [m,n])->∀H4,H4=L2.upd H3 t (.tup (lK gO))->
   wQ a [.ref S,.int (z.node:Int),.ref wl,.ref t] H4 (λv H5=>∃D k,v=.ref D/\(H5 D=some (.lst [.int k])/\k<0/\Q (.ref D) H5\/∃j,H5 D=some (.lst [.int k,.int j])/\0<=k/\Ut a H5 M wl cl/\H5 cl=some (.lst (us.map V.ref))/\Jh a H5 us bb.2/\∀H6 D2,H5 D2=none->Row H6 D2 (counted bb.2.length (bb.2.flatMap mU))->az H5 H6->∀D3,H6 D3=none->Q (.ref D3) (L2.upd H6 D3 (.lst ([V.int k,V.int j]++(counted bb.2.length (bb.2.flatMap mU)).map V.int))))) E0:=λt ht gO XN H4 e4=>by
  subst e4;have S4:=S13.trans (az.new (o:= .tup (lK gO)) ht)
  have N4:az H3 (L2.upd H3 t (.tup (lK gO))):=az.new ht;have A4:=A1.same S4
  refine⟨S,p,dk,dn,vl,wl,t,aS,ts,s,z.node,_,gO,rfl,A4,G.good,G.len,tz,?_,N4 _ _ hw3,W3.same N4,af,λH5 D ja hD r5 A5 hv5 K5=>?_⟩
  ·intro x hx;obtain⟨c,hc,rfl⟩:=br.mp hx;exact(bm1 c hc).elim (qa2 c) (qb2 c)
  have KH:aH ([p,dk,dn,vl]++aS) H H5:=(aH.of S4).trans (K5.mono λb hb=>tT _ hb);have hvn:∀b∈ja,b∈aS\/H b=none:=λb hb=>by
   cases e:L2.upd H3 t (.tup (lK gO)) b with
   |none=>exact .inr (S4.free e)
   |some o=>exact .inl (hv5 b (by rw[e];simp) hb)
  rw[<- XN]at kk;rcases Tz s gO (SM.e8 (s.store,z.node) (bb.1.map SM.wr)) (La bb)with⟨em,k,ek,hk⟩|⟨em,k,j,ek,hk⟩
  ·rw[em]at kk;refine⟨D,k,rfl,.inl ⟨?_,hk,kk H5 D ja (S4.free hD) r5 A5 KH hvn⟩⟩;have:=r5
   unfold Row at this;rw[ek]at this;exact this
  ·rw[em]at kk;have hr:=r5
   unfold Row at hr;rw[ek]at hr;have hc:=T.nC
   simp only[kQ,bN,not_or,yj]at hc;obtain⟨dm,W5⟩:=hM;have Qa:=N4 _ _ W5
   have nM:M∉ [p,dk,dn,vl]:=λz=>by
    have h:=A4.jb.ins Qa (λe=>hc.2.2.1.2.2.1 e.symm);simp at h z;rcases z with z|z|z|z
    ·exact h.1 z
    ·exact h.2.1 z
    ·exact h.2.2 z
    ·rw[z,A4.tK]at Qa;cases Qa
   have hc4:=N4 _ _ hc3;have ncl:cl∉ [p,dk,dn,vl]:=λz=>by
    have h:=A4.jb.lst hc4;simp at h z;rcases z with z|z|z|z
    ·exact h.1 z
    ·exact h.2.1 z
    ·exact h.2.2 z
    ·exact aaa z
   refine⟨D,k,rfl,.inr ⟨j,hr,hk,⟨dm,K5 _ _ Qa nM⟩,K5 _ _ hc4 ncl,(C3.same N4).keep K5 λb hb dx fs z=>?_,λH6 D2 d9 r6 S6 D3 Af=>?_⟩⟩
   ·simp at hb;obtain⟨dd,e1⟩:=A4.jb.obj;obtain⟨oo,e2⟩:=A4.jb.kept;rcases hb with rfl|rfl|rfl|rfl
    ·rw[e1]at z;have z:=fG z;injection z with z;exact hc.2.2.1.2.1 z
    ·rw[e2]at z;cases z
    ·rw[A4.jb.nums]at z;cases z
    ·rw[A4.tK]at z;cases z
   ·have A6:=A5.same (S6.trans (az.new (o:= .lst ([V.int k,V.int j]++(counted bb.2.length (bb.2.flatMap mU)).map V.int)) Af));refine kk _ D3 ja (S4.free (Ro A5 K5 (S6.free Af))) ?_ A6 (KH.trans (aH.of (S6.trans (az.new Af)))) hvn;show L2.upd H6 D3 _ D3=_
    rw[af,ek,jO];rfl
 obtain⟨dm,W5⟩:=hM;have A3:=A1.same S13
 refine⟨_,rfl,_,rfl,_,_,rfl,rfl,_,rfl,?_⟩;refine gM cQ (λc=>?_) (λc=>?_)
 ·refine⟨_,rfl,(by show 1<=sizeLine;decide),λt ht=>?_⟩;obtain⟨Ux,h4⟩:=(A3.same (az.new (o:= .tup [.int (m:Int)]) ht)).obj;refine⟨_,rfl,S,Ux,_,rfl,h4,rfl,_,rfl,_,rfl,M,_,dm,_,_,rfl,az.new ht _ _ W5,T.iI,T.gr,rfl,_,rfl,?_⟩;obtain⟨x1,x2,x3,x4,x5,x6,x7,x8,x9,Y7,Y8,Y9,Y_,ee,u1,u2,u3,u4,u5,u6,u7,u8,kq⟩:=fin t ht [m] (ay (by omega)).symm _ rfl;refine⟨x1,x2,x3,x4,x5,x6,x7,x8,x9,Y7,Y8,Y9,Y_,ee,u1,u2,u3,u4,u5,u6,u7,u8,λH5 D ja a1 a2 a3 a4 a5=>?_⟩;obtain⟨D0,k,Za,h⟩:=kq H5 D ja a1 a2 a3 a4 a5;cases Za;rcases h with⟨Nf,hk,hQ⟩|⟨j,Nf,hk,⟨Zb,Zc⟩,hc5,C5,hQ⟩
  ·refine⟨_,rfl,D,_,_,_,rfl,rfl,aX.of Nf,aL (j:=0) rfl,_,_,rfl,rfl,_,rfl,?_⟩;exact gM cQ (λ_=>⟨_,rfl,hQ⟩) (λc=>absurd hk c)
  ·refine⟨_,rfl,D,_,_,_,rfl,rfl,aX.of Nf,aL (j:=0) rfl,_,_,rfl,rfl,_,rfl,?_⟩;refine gM cQ (λc=>absurd c (by omega)) (λ_=>?_);refine⟨_,rfl,_,rfl,M,_,Zb,_,_,rfl,Zc,T.iI,T.iJ,rfl,cl,us,_,rfl,hc5,C5,by omega,λH6 D2 d9 r6 S6=>?_⟩;refine⟨D,D2,_,_,rfl,rfl,S6 _ _ Nf,r6,?_,λD3 Af=>hQ H6 D2 d9 r6 S6 D3 Af⟩;have:=iU (f:=mU) (n:=7) (l:=bb.2) vq
   rw[aO,counted,cF,cF,cF,this];exact lH (eZ (by simp;omega))
 ·refine⟨_,rfl,_,rfl,iY,λt ht=>?_⟩;obtain⟨Ux,h4⟩:=(A3.same (az.new (o:= .tup [.int (m:Int),.int (n:Int)]) ht)).obj;refine⟨_,rfl,S,Ux,_,rfl,h4,rfl,_,rfl,_,rfl,M,_,dm,_,_,rfl,az.new ht _ _ W5,T.iI,T.gr,rfl,_,rfl,?_⟩;obtain⟨x1,x2,x3,x4,x5,x6,x7,x8,x9,Y7,Y8,Y9,Y_,ee,u1,u2,u3,u4,u5,u6,u7,u8,kq⟩:=fin t ht [m,n] (aq (λz=>c (by rw[z]))).symm _ rfl;refine⟨x1,x2,x3,x4,x5,x6,x7,x8,x9,Y7,Y8,Y9,Y_,ee,u1,u2,u3,u4,u5,u6,u7,u8,λH5 D ja a1 a2 a3 a4 a5=>?_⟩;obtain⟨D0,k,Za,h⟩:=kq H5 D ja a1 a2 a3 a4 a5;cases Za;rcases h with⟨Nf,hk,hQ⟩|⟨j,Nf,hk,⟨Zb,Zc⟩,hc5,C5,hQ⟩
  ·refine⟨_,rfl,D,_,_,_,rfl,rfl,aX.of Nf,aL (j:=0) rfl,_,_,rfl,rfl,_,rfl,?_⟩;exact gM cQ (λ_=>⟨_,rfl,hQ⟩) (λc=>absurd hk c)
  ·refine⟨_,rfl,D,_,_,_,rfl,rfl,aX.of Nf,aL (j:=0) rfl,_,_,rfl,rfl,_,rfl,?_⟩;refine gM cQ (λc=>absurd c (by omega)) (λ_=>?_);refine⟨_,rfl,_,rfl,M,_,Zb,_,_,rfl,Zc,T.iI,T.iJ,rfl,cl,us,_,rfl,hc5,C5,by omega,λH6 D2 d9 r6 S6=>?_⟩;refine⟨D,D2,_,_,rfl,rfl,S6 _ _ Nf,r6,?_,λD3 Af=>hQ H6 D2 d9 r6 S6 D3 Af⟩;have:=iU (f:=mU) (n:=7) (l:=bb.2) vq
   rw[aO,counted,cF,cF,cF,this];exact lH (eZ (by simp;omega))
def zG(T:Txt K mg a):aT P w K mg base cR 91 a.cH.1 a.cH.2 ["store","arguments"] (r9 a K_):=by
 refine T.cH.F.ok zB (λvs H Q E h=>eG h) (λcdv A outer s0 H vs Q E hr h=>?_);obtain⟨S,p,dk,dn,vl,l,aS,s,xs,args,r,rfl,A1,G,hl,hA,⟨c,u,v,b,x,y,rfl,⟨b9,rfl⟩,hc,hu,hv⟩,kk⟩:=h;have b9:(versionIn c&&(versionIn u&&versionIn v))=true:=b9
 simp only[cB]at b9;obtain⟨c,rfl⟩:=c_ b9.1;obtain⟨m,rfl⟩:=c_ b9.2.1;obtain⟨n,rfl⟩:=c_ b9.2.2;rw[Lq hA]at hl;rw[dO]at hc hu hv;refine⟨_,(ao (aC (aF (wR T) hr.lt rfl T.fL.m T.fL.F.kp T.fL.b .nil aA (aa (pv 0) (aa (a_ aK (pv 1) aD (λ_ _=>rfl)) (aa (a_ aK (pv 1) aD (λ_ _=>rfl)) (aa (a_ aK (pv 1) aD (λ_ _=>rfl)) ah))))))),?_⟩;have e:act s (.mergeFrom (c:Int) (m:Int) (n:Int))=Vbwsae.merged s b x y m n:=by
  delta act;simp only[]
  rw[tL hc,tL hu,tL hv]
 rw[e]at kk;exact⟨_,rfl,_,rfl,l,_,_,_,rfl,rfl,aX.of hl,aL (j:=0) rfl,_,rfl,l,_,_,_,rfl,rfl,aX.of hl,aL (j:=1) rfl,_,rfl,l,_,_,_,rfl,rfl,aX.of hl,aL (j:=2) rfl,S,p,dk,dn,vl,aS,s,c,m,n,b,x,y,rfl,A1,G,hc,hu,hv,kk⟩
def ER(T:Txt K mg a):aT P w K mg base cR 91 a.fM.1 a.fM.2 ["store","arguments"] (r9 a K9):=by
 refine T.fM.F.ok wz (λvs H Q E h=>eG h) (λcdv A outer s0 H vs Q E hr h=>?_);obtain⟨S,p,dk,dn,vl,l,aS,s,xs,args,r,rfl,A1,G,hl,hA,⟨u,v,x,y,rfl,⟨b9,rfl⟩,hu,hv⟩,kk⟩:=h;have b9:(versionIn u&&versionIn v)=true:=b9
 simp only[cB]at b9;obtain⟨m,rfl⟩:=c_ b9.1;obtain⟨n,rfl⟩:=c_ b9.2;rw[args2 hA]at hl;rw[dO]at hu hv;obtain⟨hu1,P5⟩:=bO hu;obtain⟨hv1,hv2⟩:=bO hv;have lu:=(iu.mp hu1).1
 have lv:=(iu.mp hv1).1;obtain⟨cl,_⟩:=SM.Ny G.vs lu lv;obtain⟨dx,h1⟩:=A1.obj;obtain⟨tk,hN⟩:=T.Cc;have hc0:Vbwsae.common s m n<s.versions.length:=by omega
 have hb0:=iw hc0;generalize s.versions[Vbwsae.common s m n]=z at hb0;refine⟨_,(ak (aJ (i:=2) wz.nd rfl (Or.inl rfl) (aI (pv 0) T.aE T.cS.m (zh T) hr.lt T.cS.b .nil aA (aa (a_ aK (pv 1) aD (λ_ _=>rfl)) (aa (a_ aK (pv 1) aD (λ_ _=>rfl)) ah)))) (ak (bx (jJ (fD (aI (pv 0) T.aE T.b7.m (rm T) hr.lt T.b7.b .nil aA (aa (pv 2) ah)))) (ao (aC (bF (aa (dj rfl hN) ah)))) aN) (ao (aC (aF (wR T) hr.lt rfl T.fL.m T.fL.F.kp T.fL.b .nil aA (aa (pv 0) (aa (pv 2) (aa (a_ aK (pv 1) aD (λ_ _=>rfl)) (aa (a_ aK (pv 1) aD (λ_ _=>rfl)) ah))))))))),?_⟩;refine⟨_,rfl,S,dx,_,rfl,h1,rfl,_,rfl,l,_,_,_,rfl,rfl,aX.of hl,aL (j:=0) rfl,_,rfl,l,_,_,_,rfl,rfl,aX.of hl,aL (j:=1) rfl,S,p,dk,dn,vl,aS,s,m,n,rfl,A1,G.vs,lu,lv,G.Iu,λH1 S1=>?_⟩;have A2:=A1.same S1
 obtain⟨mX,h2⟩:=A2.obj;refine⟨_,rfl,S,mX,_,rfl,h2,rfl,_,rfl,S,p,dk,dn,vl,aS,s,_,rfl,A2,_,rfl,?_⟩;rw[uf hb0];have e0:act s (.merge (m:Int) (n:Int))=if z.held=true then Vbwsae.merged s z x y m n else(s,[-5]):=by
  delta act;simp only[]
  rw[tL hu,tL hv,hb0]
 rw[e0]at kk;cases hh:z.held
 ·refine dF ?_;rw[aq (by rw[hh];simp)]at kk;exact⟨(by show 1<=sizeLine;decide),λD hD=>e7 A1 kk _ D (S1.free hD) af (S1.trans (az.new hD))⟩
 ·refine fu ?_;rw[ay hh]at kk;have hz:version s (Vbwsae.common s m n)=some z:=by unfold version;rw[hb0];simp[hh]
  have hl1:=S1 _ _ hl;refine⟨_,rfl,_,rfl,_,rfl,l,_,_,_,rfl,rfl,aX.of hl1,aL (j:=0) rfl,_,rfl,l,_,_,_,rfl,rfl,aX.of hl1,aL (j:=1) rfl,S,p,dk,dn,vl,aS,s,_,m,n,z,x,y,rfl,A2,G,hz,hu,hv,λH' D ja hD r' A' K' hv'=>?_⟩;exact kk H' D ja (S1.free hD) r' A' ((aH.of S1).trans K') λb hb=>(hv' b hb).imp id λz=>S1.free z
def DR(T:Txt K mg a):aT P w K mg base cR 49 a.eW.1 a.eW.2 ["store","arguments"] (r9 a GL):=by
 refine T.eW.F.ok j9 (λvs H Q E h=>eG h) (λcdv A outer s0 H vs Q E hr h=>?_);obtain⟨S,p,dk,dn,vl,l,aS,s,xs,args,r,rfl,A1,G,hl,hA,⟨u,v,x,y,rfl,⟨b9,rfl⟩,hu,hv⟩,kk⟩:=h;have b9:(versionIn u&&versionIn v)=true:=b9
 simp only[cB]at b9;obtain⟨m,rfl⟩:=c_ b9.1;obtain⟨n,rfl⟩:=c_ b9.2;rw[args2 hA]at hl;rw[dO]at hu hv;obtain⟨hu1,P5⟩:=bO hu;obtain⟨hv1,hv2⟩:=bO hv;obtain⟨dx,h1⟩:=A1.obj;have hu0:=nY hr
 have tx:=G.top m x hu1 P5;have ty:=G.top n y hv1 hv2
 refine⟨_,(ak (aJ (i:=2) j9.nd rfl (Or.inl rfl) (aI (pv 0) T.aE T.bK.m (oq T) hr.lt T.bK.b .nil aA (aa (bF (aa (a_ aK (pv 1) aD (λ_ _=>rfl)) ah)) ah))) (ak (aJ (i:=3) j9.nd rfl (Or.inr rfl) (aI (pv 0) T.aE T.bK.m (oq T) hr.lt T.bK.b .nil aA (aa (bF (aa (a_ aK (pv 1) aD (λ_ _=>rfl)) ah)) ah))) (ak (MY (IW (i:=4) (own:=[("number",5)]) rfl j9.nd rfl rfl (MX rfl rfl rfl rfl) (MZ (pv 2)) (jU rfl) (λs H C cl fp=>b_ (i:=5) j9.nd rfl (Or.inl rfl)) (λs H C cl fp=>Bu (bf (F3 hu0 (pv 5) (pv 3)))) (λs H C cl fp=>pv 5))) (ao (aC (bF (aa (aV vd rfl T.iy rfl (aa (pv 2) ah)) (aa (aV vd rfl T.iy rfl (aa (pv 3) ah)) (aa (aV bg rfl T.iy rfl (aa (pv 4) ah)) ah))))))))),?_⟩;refine⟨_,rfl,S,dx,_,rfl,h1,rfl,_,rfl,l,_,_,_,rfl,rfl,aX.of hl,aL (j:=0) rfl,(by show 1<=sizeLine;decide),λla hla=>?_⟩;have Sa:az H (L2.upd H la (.lst [.int (m:Int)])):=az.new hla
 refine⟨S,p,dk,dn,vl,la,aS,s,[m],rfl,A1.same Sa,G.len,af,λw hw=>⟨x,by rw[cY.mp hw];exact hu1,tx⟩,λH1 d1 js hd1 OL Uo m1 S1=>?_⟩;have Ox:=Sa.trans S1
 have A2:=A1.same Ox;obtain⟨mX,h2⟩:=A2.obj;refine⟨_,rfl,S,mX,_,rfl,h2,rfl,_,rfl,l,_,_,_,rfl,rfl,aX.of (Ox _ _ hl),aL (j:=1) rfl,(by show 1<=sizeLine;decide),λlb hlb=>?_⟩;have Sb:az H1 (L2.upd H1 lb (.lst [.int (n:Int)])):=az.new hlb
 refine⟨S,p,dk,dn,vl,lb,aS,s,[n],rfl,A2.same Sb,G.len,af,λw hw=>⟨y,by rw[cY.mp hw];exact hv1,ty⟩,λH2 d2 ks hd2 OM YO m2 S2=>?_⟩;have wL:=Sb.trans S2
 have S02:=Ox.trans wL;have g1:=wL _ _ OL
 have OC:d1≠d2:=aj (Sb _ _ OL) hd2;have zg:=G.len
 have zj:=Uo.len;refine⟨d1,_,g1,trivial,λod=>?_⟩;refine⟨_,rfl,d1,od,rfl,.inl ⟨_,af,λD hD=>?_⟩⟩;have R8:D≠d1:=λz=>by rw[z,af]at hD;cases hD
 rw[ai R8]at hD;refine Gy (λi H3=>H3=L2.upd (L2.upd H2 d1 (.je od (.dK (nk js)))) D (.lst (lK ((js.take i).filter λk=>decide (k∈ks))))) rfl (λi H3 _ e=>?_) (λi ky w H3 hk e=>?_) (λH3 e=>?_)
 ·rw[e,ai R8.symm,af]
 ·subst e;rw[nk,fj]at hk;obtain⟨k,hk0,e⟩:=f_.mp hk;cases e;refine⟨rfl,_,rfl,_,rfl,d2,_,rfl,.inl ⟨nk ks,.inl (k:Int),.inl (by rw[ai (aj OM hD),ai OC.symm];exact OM),rfl,rfl⟩,_,rfl,?_⟩;rw[zd,take_snoc hk0,Bh];cases hh:decide (k∈ks)
  ·refine fu ?_;have: [k].filter (λk=>decide (k∈ks))=[]:=by simp at hh;simp[hh]
   rw[this,nP]
  ·refine dF ⟨_,rfl,_,af,?_,?_⟩
   ·rw[lK,aO];exact eZ (tU (gz (Bf _ _) (yk _ _)) (by omega))
   ·have: [k].filter (λk=>decide (k∈ks))=[k]:=by simp at hh;simp[hh]
    rw[qM,this];simp[lK,kV]
 ·subst e;have hlj:(nk js).length=js.length:=by simp[nk]
  rw[hlj,i9];refine⟨by rw[ai R8.symm,af],?_⟩;have eH:L2.upd (L2.upd (L2.upd H2 d1 (.je od (.dK (nk js)))) D (.lst (lK (js.filter λk=>decide (k∈ks))))) d1 (.dK (nk js))=L2.upd H2 D (.lst (lK (js.filter λk=>decide (k∈ks)))):=by
   funext b
   by_cases c:b=d1
   ·rw[c,af,ai R8.symm,g1]
   ·rw[ai c];by_cases c2:b=D
    ·rw[c2,af,af]
    ·rw[ai c2,ai c2,ai c]
  rw[eH];have S3:az H2 (L2.upd H2 D (.lst (lK (js.filter λk=>decide (k∈ks))))):=az.new hD
  refine⟨_,rfl,d1,_,rfl,S3 _ _ g1,_,rfl,d2,_,rfl,S3 _ _ OM,_,rfl,D,_,rfl,.inl (aX.of af),qy,λD4 Ag=>?_⟩;have e:act s (.shared (m:Int) (n:Int))=(s,[((nodesOf s.store x.node).length:Int),(nodesOf s.store y.node).length,((nodesOf s.store x.node).filter λn=>(nodesOf s.store y.node).contains n).length]):=by
   delta act;simp only[]
   rw[tL hu,tL hv]
  rw[e]at kk;have q1:=SM.wY tx
  have q2:=SM.wY ty;have l1:js.length=(nodesOf s.store x.node).length:=SM.uR Uo.1 (SM.cT q1.1) λj=>by rw[m1 j,BF hu1,q1.2]
  have l2:ks.length=(nodesOf s.store y.node).length:=SM.uR YO.1 (SM.cT q2.1) λj=>by rw[m2 j,BF hv1,q2.2]
  have l3:(js.filter λk=>decide (k∈ks)).length=((nodesOf s.store x.node).filter λn=>(nodesOf s.store y.node).contains n).length:=SM.uR (BH ym Uo.1) (BH ym (SM.cT q1.1)) λj=>by
   rw[jN,jN,m1 j,BF hu1,q1.2];simp only[k8,J_];rw[m2 j,BF hv1,q2.2]
  refine e7 A1 kk _ D4 ((S02.trans S3).free Ag) ?_ ((S02.trans S3).trans (az.new Ag));show L2.upd _ D4 _ D4=_
  rw[af,nk,aO,nk,aO,lK,aO,l1,l2,l3];rfl
noncomputable def cE (s:Vbwsae.St):Nat×Arg->Bool
 |(c,.n x)=>if c=118 then(version s x.toNat).isSome else if c=119 then decide (x.toNat<s.versions.length)else true
 |(_,.r _)=>true
inductive TH(a:Ad)(vs:List V)(H:Hp)(Q:VK)(gc:XK):Prop
 |mk (S p dk dn vl l:Addr) (aS:List Addr) (s:Vbwsae.St) (f:Str) (xs:List V) (as:List Arg) (_:vs=[.ref S,.str f,.ref l]) (_:jE a H S p dk dn vl aS s) (_:H l=some (.lst xs)) (_:lJ H xs as) (_:eT bG f.cps.toList as) (_:f.cps.all (· < 128)=true) (_:(∀q∈f.cps.toList.zip as,mw q.1 q.2=true)) (_:∀H',az H H'->Q (.bl ((f.cps.toList.zip as).all (cE s))) H')
def zH(T:Txt K mg a):aT P w K mg base cR 3 a.cz.1 a.cz.2 ["store","form","arguments"] (TH a):=by
 refine T.cz.F.ok jX (λvs H Q E h=>?_) (λcdv A outer s0 H vs Q E hr h=>?_)
 ·obtain⟨S,p,dk,dn,vl,l,aS,s,f,xs,as,rfl,_⟩:=h;rfl
 obtain⟨S,p,dk,dn,vl,l,aS,s,f,xs,as,rfl,A1,hl,hA,hF,hasc,hok,kk⟩:=h;refine⟨_,(ak (jf kE rfl (M7 rfl T.Uh (aa (pv 1) (aa (pv 2) ah))) (KG rfl (qo (b_ (i:=3) jX.nd rfl (Or.inl rfl)) (qo (b_ (i:=4) jX.nd rfl (Or.inl rfl)) Gx)))
   (ak (bx (PW.pt (PK (jw yP (pv 3) sI rfl) (MM (jJ (fD (aI (pv 0) T.aE T.b7.m (rm T) hr.lt T.b7.b .nil aA (aa (pv 4) ah))))))) (ao (aC k9)) aN) (ao (bx (PW.pt (PK (jw yP (pv 3) sI rfl) (MM (jJ (fD (aI (pv 0) T.aE T.dI.m (AX T) hr.lt T.dI.b .nil aA (aa (pv 4) ah))))))) (ao (aC k9)) aN)))) (ao (aC k9))),?_⟩
 have e1:f.cps.size=xs.length:=by rw[hA.len,<- hF.len];simp
 have el:xs.length=(f.cps.toList.zip as).length:=by rw[Fe,hF.len,hA.len];omega
 refine⟨_,rfl,_,rfl,f,l,_,rfl,hasc,aX.of hl,Rh (K:=K) e1 (λi σ H2=>∃v1 v2,σ=[some (.ref S),some (.str f),some (.ref l),v1,v2]/\az H H2/\∀q∈(f.cps.toList.zip as).take i,cE s q=true) ⟨none,none,rfl,az.refl _,by simp⟩ (λi σ H2 _ h0=>by obtain⟨_,_,_,S2,_⟩:=h0;exact aX.of (S2 _ _ hl)) ?_ ?_⟩
 ·rintro i c y σ H2 t hc hy ht ⟨v1,v2,rfl,S2,hB⟩
  obtain⟨x,hx,hv⟩:=hA.get hy;obtain⟨x',hx',hf⟩:=hF.get hc;rw[hx]at hx';cases hx';have RO:(f.cps.toList.zip as)[i]? =some (c,x):=by rw[List.getElem?_zip_eq_some];exact⟨hc,hx⟩
  have hm:=l_ RO;have ho:=hok _ hm
  have S3:az H (L2.upd H2 t (.tup [.str ⟨#[c]⟩,y])):=S2.trans (az.new ht);have A3:=A1.same S3
  obtain⟨dx,h1⟩:=A3.obj;have good:cE s (c,x)=true->∃v1' v2',[some (V.ref S),some (.str f),some (.ref l),some (.str ⟨#[c]⟩),some y]=[some (V.ref S),some (.str f),some (.ref l),v1',v2']/\az H (L2.upd H2 t (.tup [.str ⟨#[c]⟩,y]))/\∀q∈(f.cps.toList.zip as).take (i+1),cE s q=true:=λhg=>⟨_,_,rfl,S3,λq hq=>by
   rw[take_snoc RO]at hq;rcases dg.mp hq with z|z
   ·exact hB q z
   ·rw[cY.mp z];exact hg⟩
  have bad:cE s (c,x)=false->Q (.bl false) (L2.upd H2 t (.tup [.str ⟨#[c]⟩,y])):=λhg=>by
   have:=kk _ S3;rw[show(f.cps.toList.zip as).all (cE s)=false from List.all_eq_false.mpr ⟨_,hm,by rw[hg];simp⟩]at this;exact this
  refine⟨t,_,rfl,mW.of af,rfl,_,_,rfl,_,_,rfl,rfl,?_⟩;refine⟨_,rfl,rfl,_,rfl,?_⟩;refine gM (c:=c=118) vQ (λc1=>?_) (λc1=>fu ?_)
  ·cases x with
   |r row=>obtain⟨h,_⟩:=hf;omega
   |n x=>
    have hv:y=.int x:=hv;subst hv;simp only[mw,ay (Or.inl c1)]at ho;obtain⟨n,rfl⟩:=c_ ho;refine⟨_,rfl,S,dx,_,rfl,h1,rfl,_,rfl,S,p,dk,dn,vl,aS,s,n,rfl,A3,_,rfl,?_⟩;have eb:cE s (c,.n (n:Int))=(version s n).isSome:=by simp[cE,c1]
    cases hh:(version s n).isSome
    ·exact dF (bad (by rw[eb,hh]))
    ·refine fu ?_;refine⟨_,rfl,rfl,_,rfl,?_⟩;exact gM (c:=c=119) vQ (λc2=>absurd c1 (by omega)) (λ_=>fu (good (by rw[eb,hh])))
  refine⟨_,rfl,rfl,_,rfl,?_⟩;refine gM (c:=c=119) vQ (λc2=>?_) (λc2=>fu (good ?_))
  ·cases x with
   |r row=>obtain⟨h,_⟩:=hf;omega
   |n x=>
    have hv:y=.int x:=hv;subst hv;simp only[mw,ay (Or.inr c2)]at ho;obtain⟨n,rfl⟩:=c_ ho;refine⟨_,rfl,S,dx,_,rfl,h1,rfl,_,rfl,S,p,dk,dn,vl,aS,s,n,rfl,A3,_,rfl,?_⟩;have eb:cE s (c,.n (n:Int))=decide (n<s.versions.length):=by simp[cE,c1,c2]
    cases hh:decide (n<s.versions.length)
    ·exact dF (bad (by rw[eb,hh]))
    ·exact fu (good (by rw[eb,hh]))
  ·cases x with
   |n x=>simp[cE,c1,c2]
   |r row=>rfl
 ·rintro σ H2 ⟨v1,v2,rfl,S2,hB⟩
  rw[el,i9]at hB;have:=kk _ S2
  rw[BS.mpr hB]at this;exact this
def JU:iz Vbwsae.start:=by
 have one:∀(v:Nat) x,Vbwsae.start.versions[v]? =some x->v=0/\x={node:=0,parents:=[]}:=λv x h=>by
  cases v with
  |zero=>simp[Vbwsae.start]at h;exact⟨rfl,h.symm⟩
  |succ v=>simp[Vbwsae.start]at h
 refine⟨SM.Qm,by decide,⟨by decide,λi x h=>?_,λi x h hi=>?_⟩,by decide,λv x h _=>?_,λv x h=>?_⟩
 ·rw[(one i x h).2];simp
 ·exact absurd (one i x h).1 hi
 ·rw[(one v x h).2];exact SM.Top.zero _
 ·rw[(one v x h).2];simp
def ON(G:iz s){gO:List Nat}{x:bI×Nat}(hg:SM.jY s.store x.1)(hG:SM.Good x.1)(ht:SM.Top x.1 x.2)(hp:∀p∈gO,p<s.versions.length)(hne:gO≠ [])(h2:gO.length<=2)(more:List Int):iz (newVersion s gO x more).1:=by
 unfold newVersion;by_cases c1:VERSIONS<=s.versions.length
 ·rw[ay c1];exact G
 ·rw[aq c1];by_cases c2:NODES<x.1.length
  ·rw[ay c2];exact G
  ·rw[aq c2];have c1:¬200<=s.versions.length:=c1
   have c2:¬4000<x.1.length:=c2;have get:∀(v:Nat) y,(s.versions++[({node:=x.2,parents:=gO}:Version)])[v]? =some y->s.versions[v]? =some y\/(v=s.versions.length/\y={node:=x.2,parents:=gO}):=λv y h=>by
    rcases Kg v s.versions.length with hv|hv|hv
    ·rw[GO hv]at h;exact .inl h
    ·subst hv;rw[Ed (bw _)]at h;simp at h;exact .inr ⟨rfl,h.symm⟩
    ·rw[qh (by simp;omega)]at h;cases h
   refine⟨hG,by show x.1.length<=4000;omega,⟨by simp[addVersion],λi y h p hpp=>?_,λi y h hi=>?_⟩,by simp[addVersion];omega,λv y h hh=>?_,λv y h=>?_⟩
   ·rcases get i y h with h|⟨rfl,rfl⟩
    ·exact G.vs.less i y h p hpp
    ·exact hp p hpp
   ·rcases get i y h with h|⟨rfl,rfl⟩
    ·exact G.vs.O1 i y h hi
    ·exact hne
   ·rcases get v y h with h|⟨rfl,rfl⟩
    ·exact(G.top v y h hh).ext hg.ext
    ·exact ht
   ·rcases get v y h with h|⟨rfl,rfl⟩
    ·exact G.par v y h
    ·exact h2
def Mb(G:iz s)(n:Nat):iz {s with versions:=s.versions.modify n λx=>{x with held:=false}}:=by
 have get:∀(v:Nat) y,(s.versions.modify n λx=>{x with held:=false})[v]? =some y->∃z,s.versions[v]? =some z/\y.parents=z.parents/\y.node=z.node/\(y.held=true->z.held=true):=λv y h=>by
  rw[List.getElem?_modify]at h;cases e:s.versions[v]? with
  |none=>rw[e]at h;simp at h
  |some z=>
   rw[e]at h;by_cases c:n=v
   ·simp[c]at h;subst h;exact⟨z,rfl,rfl,rfl,λq=>nomatch q⟩
   ·simp[c]at h;subst h;exact⟨z,rfl,rfl,rfl,id⟩
 refine⟨G.good,G.len,⟨by simpa using G.vs.pos,λi y h p hp=>?_,λi y h hi=>?_⟩,by simpa using G.Iu,λv y h hh=>?_,λv y h=>?_⟩
 ·obtain⟨z,hz,e1,e2,e3⟩:=get i y h;rw[e1]at hp;exact G.vs.less i z hz p hp
 ·obtain⟨z,hz,e1,e2,e3⟩:=get i y h;rw[e1];exact G.vs.O1 i z hz hi
 ·obtain⟨z,hz,e1,e2,e3⟩:=get v y h;rw[e2];exact G.top v z hz (e3 hh)
 ·obtain⟨z,hz,e1,e2,e3⟩:=get v y h;rw[e1];exact G.par v z hz
def ES(G:iz s):iz {s with store:=SM.qX (i7 s) s.store}:=by
 have hn:=SM.zS (s:=s) λx hx hh=>by
  obtain⟨v,hv⟩:=ye.mp hx;exact G.top v x hv hh
 have mem:∀j,i7 s j=true↔∃x∈s.versions,x.held=true/\SM.Reach s.store x.node j:=λj=>by
  rw[i7,J_,hn.2 j]
 refine⟨SM.NB G.good λi k hi hr=>?_,by show(SM.qX _ _).length<=4000;rw[SM.IC];exact G.len,G.vs,G.Iu,λv x h hh=>?_,G.par⟩
 ·obtain⟨x,hx,hh,h⟩:=(mem i).mp hi;exact(mem k).mpr ⟨x,hx,hh,h.trans hr⟩
 ·exact SM.Qt (G.top v x h hh) λk hr=>(mem k).mpr ⟨x,l_ h,hh,hr⟩
def tN(G:iz s){b:Nat}(hb:version s b=some y){gO:List Nat}{ws:List (Nat×Option Int)}(hk:∀x∈ws,x.1<2^40)(hp:∀p∈gO,p<s.versions.length)(hne:gO≠ [])(h2:gO.length<=2)(more:List Int):iz (newVersion s gO (SM.e8 (s.store,y.node) ws) more).1:=by
 obtain⟨h1,h2'⟩:=bO hb;obtain⟨a1,a2,a3⟩:=SM.qL (ws:=ws) G.good (G.top b y h1 h2') hk;exact ON G a1 a2 a3 hp hne h2 more
theorem Nn:∀{row:List Int},pairsIn row=true->∀p∈Vbwsae.pairsOf row,p.1<2^40
 |k::x::r,h,p,hp=>by
  simp only[pairsIn,cB]at h;rcases bN.mp (show p∈(k.toNat,x)::Vbwsae.pairsOf r from hp)with e|e
  ·rw[e];exact(pC h.1).2
  ·exact Nn h.2.2 p e
 | [],_,p,hp=>by simp[Vbwsae.pairsOf]at hp
 | [_],h,p,hp=>by simp[pairsIn]at h
def zm(h:version s n=some y):n<s.versions.length:=(iu.mp (bO h).1).1
def zo(G:iz s){z x:Version}{b:Nat}(hz:version s b=some z)(hx:version s m=some x)(hy:version s n=some y):iz (Vbwsae.merged s z x y m n).1:=by
 unfold Vbwsae.merged;simp only[SM.lN];obtain⟨z1,z2⟩:=bO hz;obtain⟨x1,x2⟩:=bO hx;obtain⟨y1,y2⟩:=bO hy;have tz:=G.top b z z1 z2
 have tx:=G.top m x x1 x2;have ty:=G.top n y y1 y2
 obtain⟨t0,_,_,s0,_,_,e0⟩:=gT tz;obtain⟨t1,_,_,s1,_,_,e1⟩:=gT tx;obtain⟨t2,_,_,s2,_,_,e2⟩:=gT ty;obtain⟨_,ka⟩:=SM.ow tz tx;obtain⟨_,kb⟩:=SM.ow tz ty;rw[e0,e1]at ka;rw[e0,e2]at kb;refine tN G hz (λq hq=>?_) (λq hq=>?_) ?_ ?_ _
 ·obtain⟨c,hc,rfl⟩:=br.mp hq
  rcases(qz).1 c hc with h|h
  ·exact(ka c h).elim (gm s0 _) (gm s1 _)
  ·exact(kb c h).elim (gm s0 _) (gm s2 _)
 ·have l1:=zm hx;have l2:=zm hy
  split at hq
  ·rw[cY.mp hq];exact l1
  ·simp at hq;rcases hq with rfl|rfl<;>assumption
 ·split<;>simp
 ·split<;>simp
def dD(G:iz s)(v:Int)(f:Nat->Version->Vbwsae.St×List Int)(h:∀y,version s v.toNat=some y->iz (f v.toNat y).1):iz (ofVersion s v f).1:=by
 unfold ofVersion;cases e:version s v.toNat with
 |none=>exact G
 |some y=>exact h y e
def OO(G:iz s)(c:Call)(hr:ranged c=true):iz (act s c).1:=by
 cases c with
 |put v k x=>
  have hr:(versionIn v&&(keyIn k&&valueIn x))=true:=hr;simp only[cB]at hr
  delta act;simp only[]
  refine dD G v _ λy hy=>?_
  rw[<- Jk];exact tN G hy (λq hq=>by rw[cY.mp hq];exact(pC hr.2.1).2) (by simp;exact zm hy) (by simp) (by simp) _
 |del v k=>
  have hr:(versionIn v&&keyIn k)=true:=hr;simp only[cB]at hr
  delta act;simp only[]
  refine dD G v _ λy hy=>?_
  rw[<- Jl];exact tN G hy (λq hq=>by rw[cY.mp hq];exact(pC hr.2).2) (by simp;exact zm hy) (by simp) (by simp) _
 |patch v d=>
  have hr:(versionIn v&&(decide (d.length<=5*CHANGES)&&rowIn d))=true:=hr;simp only[cB]at hr
  delta act;simp only[]
  refine dD G v _ λy hy=>?_
  split
  ·exact G
  ·split
   ·exact G
   ·rw[SM.lN];refine tN G hy (λq hq=>?_) (by simp;exact zm hy) (by simp) (by simp) _;obtain⟨c,hc,rfl⟩:=br.mp hq;exact GK hr.2.2 c hc
 |putAll v d=>
  have hr:(versionIn v&&(decide (d.length<=200)&&pairsIn d))=true:=hr;simp only[cB]at hr
  delta act;simp only[]
  refine dD G v _ λy hy=>?_
  rw[SM.AJ];refine tN G hy (λq hq=>?_) (by simp;exact zm hy) (by simp) (by simp) _;obtain⟨c,hc,rfl⟩:=br.mp hq;exact Nn hr.2.2 c hc
 |merge u v=>
  delta act;simp only[]
  refine dD G u _ λx hx=>dD G v _ λy hy=>?_
  split
  ·exact G
  ·rename_i z hz
   split
   ·rename_i hh;exact zo (b:=Vbwsae.common s u.toNat v.toNat) G (by unfold version;rw[hz];simp[hh]) hx hy
   ·exact G
 |mergeFrom c u v=>
  delta act;simp only[]
  exact dD G c _ λz hz=>dD G u _ λx hx=>dD G v _ λy hy=>zo G hz hx hy
 |drop v=>
  delta act;simp only[]
  refine dD G v _ λy hy=>?_
  split
  ·exact G
  ·exact Mb G _
 |collect=>exact ES G
 |get v k=>delta act;simp only[];exact dD G v _ λ_ _=>G
 |list v lo hi=>delta act;simp only[];exact dD G v _ λ_ _=>G
 |diff u v=>delta act;simp only[];exact dD G u _ λ_ _=>dD G v _ λ_ _=>G
 |joinOf d e=>
  delta act;simp only[]
  split
  ·exact G
  ·split<;>exact G
 |same u v=>delta act;simp only[];exact dD G u _ λ_ _=>dD G v _ λ_ _=>G
 |nodes=>exact G
 |shared u v=>delta act;simp only[];exact dD G u _ λ_ _=>dD G v _ λ_ _=>G
 |size v=>delta act;simp only[];exact dD G v _ λ_ _=>G
 |from_ v k=>delta act;simp only[];exact dD G v _ λ_ _=>G
 |nth v k=>delta act;simp only[];exact dD G v _ λ_ _=>G
 |sum v lo hi=>delta act;simp only[];exact dD G v _ λ_ _=>G
 |parents v=>delta act;simp only[];split<;>exact G
 |common u v=>delta act;simp only[];split<;>exact G
 |inverse d=>delta act;simp only[];split<;>exact G
 |look v=>delta act;simp only[];exact dD G v _ λ_ _=>G
 |versions=>exact G
def Ct(s:Vbwsae.St)(gO:List Nat)(x:bI×Nat)(more:List Int):(newVersion s gO x more).2.length<=2+more.length:=by
 unfold newVersion
 split
 ·simp;omega
 ·split
  ·simp;omega
  ·simp[addVersion];omega
def gw(v:Int)(f:Nat->Version->Vbwsae.St×List Int){B:Nat}(hB:1<=B)(h:∀y,version s v.toNat=some y->(f v.toNat y).2.length<=B):(ofVersion s v f).2.length<=B:=by
 unfold ofVersion;cases e:version s v.toNat with
 |none=>simpa using hB
 |some y=>exact h y e
def Np(G:iz s)(h:version s n=some y):SM.Top s.store y.node/\(pairs (treeOf s.store y.node)).length<=4000:=by
 obtain⟨h1,h2⟩:=bO h;have tp:=G.top n y h1 h2
 obtain⟨t,r,hd,hs,hw,hk,e⟩:=gT tp;have:=nN hw hk
 have:=gP s.store;have:=G.len
 exact⟨tp,by rw[e];omega⟩
def Gs(G:iz s){x:Version}(hx:version s m=some x)(hy:version s n=some y):(diffAt Vbwsae.same s.store LEVELS x.node y.node).1.length<=8000:=by
 obtain⟨t1,l1⟩:=Np G hx;obtain⟨t2,l2⟩:=Np G hy;have:=Dc t1 t2 rfl rfl
 omega
def Ds(G:iz s){z x:Version}{b:Nat}(hz:version s b=some z)(hx:version s m=some x):(Vbwsae.merged s z x y m n).2.length<=60000:=by
 unfold Vbwsae.merged;refine gz (Ct _ _ _ _) ?_;have h1:=Gs G hz hx
 have h2:=(qz (n:=(diffAt Vbwsae.same s.store LEVELS z.node x.node).1.length+(diffAt Vbwsae.same s.store LEVELS z.node y.node).1.length+1) (x:=(diffAt Vbwsae.same s.store LEVELS z.node x.node).1) (y:=(diffAt Vbwsae.same s.store LEVELS z.node y.node).1)).2;have h3:=iU (f:=λc:Cf=>(c.key:Int)::(optRow c.base++(optRow c.one++optRow c.two))) (n:=7) (l:=(both Vbwsae.same ((diffAt Vbwsae.same s.store LEVELS z.node x.node).1.length+(diffAt Vbwsae.same s.store LEVELS z.node y.node).1.length+1) (diffAt Vbwsae.same s.store LEVELS z.node x.node).1 (diffAt Vbwsae.same s.store LEVELS z.node y.node).1).2) vq
 simp only[counted,cF];rw[h3];omega
def OP(G:iz s)(h:version s n=some y)(lo hi:Nat):(rangeAt s.store lo hi LEVELS y.node).1.length<=4000:=by
 obtain⟨h1,h2⟩:=bO h;obtain⟨t,r,hd,hs,hw,hk,e⟩:=gT (G.top n y h1 h2);rw[KZ r hd hw];have:=q_ (lo:=lo) (hi:=hi) hw
 have:=nN hw hk;have:=gP s.store
 have:=G.len;omega
def TJ(G:iz s)(c:Call)(hr:ranged c=true):(act s c).2.length<=60000:=by
 cases c with
 |put v k x=>delta act;simp only[];exact gw v _ (by decide) λy _=>gz (Ct _ _ _ _) (by simp)
 |del v k=>delta act;simp only[];exact gw v _ (by decide) λy _=>gz (Ct _ _ _ _) (by simp)
 |patch v d=>
  delta act;simp only[]
  refine gw v _ (by decide) λy _=>?_
  split
  ·simp
  ·split
   ·simp
   ·exact gz (Ct _ _ _ _) (by simp)
 |putAll v d=>delta act;simp only[];exact gw v _ (by decide) λy _=>gz (Ct _ _ _ _) (by simp)
 |merge u v=>
  delta act;simp only[]
  refine gw u _ (by decide) λx hx=>gw v _ (by decide) λy hy=>?_
  split
  ·simp
  ·rename_i z hz
   split
   ·rename_i hh;exact Ds (b:=Vbwsae.common s u.toNat v.toNat) G (by unfold version;rw[hz];simp[hh]) hx
   ·simp
 |mergeFrom c u v=>
  delta act;simp only[]
  exact gw c _ (by decide) λz hz=>gw u _ (by decide) λx hx=>gw v _ (by decide) λy hy=>Ds G hz hx
 |drop v=>delta act;simp only[];refine gw v _ (by decide) λy hy=>?_;split<;>simp
 |collect=>delta act;simp
 |get v k=>delta act;simp only[];refine gw v _ (by decide) λy _=>?_;rw[gk];decide
 |list v lo hi=>
  delta act;simp only[]
  refine gw v _ (by decide) λy hy=>?_
  have h1:=OP G hy lo.toNat hi.toNat;have h2:=iU (f:=λp:Nat×Int=>[(p.1:Int),p.2]) (n:=2) (l:=(rangeAt s.store lo.toNat hi.toNat LEVELS y.node).1) (λ_=>rfl)
  simp only[counted,cF];rw[h2];omega
 |diff u v=>
  delta act;simp only[]
  refine gw u _ (by decide) λx hx=>gw v _ (by decide) λy hy=>?_
  have h1:=Gs G hx hy;have h2:=iU (f:=changeRow) (n:=5) (l:=(diffAt Vbwsae.same s.store LEVELS x.node y.node).1) qJ
  simp only[counted,cF];rw[h2];omega
 |joinOf d e=>
  have hr:((decide (d.length<=5*CHANGES)&&rowIn d)&&(decide (e.length<=5*CHANGES)&&rowIn e))=true:=hr;simp only[cB,k8]at hr;have z1:d.length<=500:=hr.1.1
  have z2:e.length<=500:=hr.2.1;have c1:=fh d
  have c2:=fh e
  delta act;simp only[]
  split
  ·simp
  ·split
   ·simp
   ·rename_i l hl;have h1:=tM hl
    have h2:=iU (f:=changeRow) (n:=5) (l:=l) qJ;simp only[counted,cF];rw[h2];omega
 |same u v=>delta act;simp only[];exact gw u _ (by decide) λ_ _=>gw v _ (by decide) λ_ _=>by simp
 |nodes=>delta act;simp
 |shared u v=>delta act;simp only[];exact gw u _ (by decide) λ_ _=>gw v _ (by decide) λ_ _=>by simp
 |size v=>delta act;simp only[];exact gw v _ (by decide) λ_ _=>by simp
 |from_ v k=>delta act;simp only[];refine gw v _ (by decide) λy _=>?_;split<;>simp
 |nth v k=>delta act;simp only[];refine gw v _ (by decide) λy _=>?_;split<;>simp
 |sum v lo hi=>delta act;simp only[];exact gw v _ (by decide) λ_ _=>by simp
 |parents v=>
  delta act;simp only[]
  split
  ·simp
  ·rename_i x hx;have:=G.par _ x hx
   simp[listed,Vbwsae.ints];omega
 |common u v=>delta act;simp only[];split<;>simp
 |inverse d=>
  have hr:(decide (d.length<=5*CHANGES)&&rowIn d)=true:=hr;simp only[cB,k8]at hr;have z1:d.length<=500:=hr.1
  have c1:=fh d
  delta act;simp only[]
  split
  ·simp
  ·have h2:=iU (f:=changeRow) (n:=5) (l:=Vbwsae.inverse (changesOf d)) qJ;have h3:(Vbwsae.inverse (changesOf d)).length=(changesOf d).length:=by simp[Vbwsae.inverse]
   simp only[counted,cF];rw[h2,h3];omega
 |look v=>delta act;simp only[];refine gw v _ (by decide) λy _=>?_;simp only[cF];split<;>simp
 |versions=>delta act;simp
def aab{x:Arg}(h:bG c x)(h1:c≠112)(h2:c≠100):∃i,x=.n i:=by
 cases x with
 |n i=>exact⟨i,rfl⟩
 |r row=>obtain⟨h,_⟩:=h;omega
def aac{x:Arg}(h:bG c x)(h1:c=112\/c=100):∃row,x=.r row/\row.length<1000000:=by
 cases x with
 |n i=>have h:c=118\/c=119\/c=107\/c=120\/c=110:=h;omega
 |r row=>exact⟨row,rfl,h.2⟩
def fZ(h:eT bG [] as):as=[]:=by cases h;rfl
def cN{cs:List Nat}(h:eT bG (c::cs) as)(h1:c≠112)(h2:c≠100):∃i r,as=.n i::r/\eT bG cs r:=by
 obtain _|⟨h3,h4⟩:=h
 obtain⟨i,rfl⟩:=aab h3 h1 h2;exact⟨i,_,rfl,h4⟩
def Cu{cs:List Nat}(h:eT bG (c::cs) as)(h1:c=112\/c=100):∃row r,as=.r row::r/\eT bG cs r:=by
 obtain _|⟨h3,h4⟩:=h
 obtain⟨row,rfl,_⟩:=aac h3 h1;exact⟨row,_,rfl,h4⟩
noncomputable def Lb:Nat->List Arg->Option Call
 |0,[.n v,.n k,.n x]=>some (.put v k x)
 |1,[.n v,.n k]=>some (.del v k)
 |2,[.n v,.n k]=>some (.get v k)
 |3,[.n v,.n lo,.n hi]=>some (.list v lo hi)
 |4,[.n u,.n v]=>some (.diff u v)
 |5,[.n v,.r d]=>some (.patch v d)
 |6,[.r d,.r e]=>some (.joinOf d e)
 |7,[.n u,.n v]=>some (.merge u v)
 |8,[.n c,.n u,.n v]=>some (.mergeFrom c u v)
 |9,[.n u,.n v]=>some (.same u v)
 |10,[]=>some .nodes
 |11,[.n u,.n v]=>some (.shared u v)
 |12,[.n v]=>some (.drop v)
 |13,[]=>some .collect
 |14,[.n v]=>some (.size v)
 |15,[.n v,.n k]=>some (.from_ v k)
 |16,[.n v,.n k]=>some (.nth v k)
 |17,[.n v,.n lo,.n hi]=>some (.sum v lo hi)
 |18,[.n v]=>some (.parents v)
 |19,[.n u,.n v]=>some (.common u v)
 |20,[.n v,.r d]=>some (.putAll v d)
 |21,[.r d]=>some (.inverse d)
 |22,[.n v]=>some (.look v)
 |23,[]=>some .versions
 |_,_=>none
noncomputable def Cv:List Str:=["vkx","vk","vk","vkk","vv","vd","dd","vv","vvv","vv","","vv","v","","v","vk","vn","vkk","w","ww","vp","d","v",""]
noncomputable def qK (L:List Nat) (as:List Arg):Bool:=((L.zip as).map λp=>mw p.1 p.2).all id
def cM(p:Nat)(L:List Nat)(R:RR):Prop:=∀(s:Vbwsae.St) (as:List Arg),eT bG L as->∃c,Lb p as=some c/\qK L as=ranged c/\(qK L as=true->(L.zip as).all (cE s)=false->act s c=(s,[-2]))/\(qK L as=true->(L.zip as).all (cE s)=true->R s as (act s c))
def none_of{o:Option α}(h:o.isSome=false):o=none:=Option.isNone_iff_eq_none.mp (by simpa using h)
def aad:cM 0 [118,107,120] UJ:=by
 intro s as q0;obtain⟨a0,r0,rfl,q1⟩:=cN q0 (by decide) (by decide);obtain⟨a1,r1,rfl,q2⟩:=cN q1 (by decide) (by decide);obtain⟨a2,r2,rfl,q3⟩:=cN q2 (by decide) (by decide);cases fZ q3;have e1:qK [118,107,120] [.n a0,.n a1,.n a2]=ranged (.put a0 a1 a2):=by
  show(versionIn a0&&(keyIn a1&&(valueIn a2&&true)))=_
  delta ranged;simp only[iO]
 have e2:(List.zip ([118,107,120]:List Nat) ([.n a0,.n a1,.n a2]:List Arg)).all (cE s)=(((version s a0.toNat).isSome)):=by
  show((version s a0.toNat).isSome&&(true&&(true&&true)))=_
  simp[iN]
 refine⟨_,rfl,e1,λh1 h2=>?_,λh1 h2=>?_⟩<;>rw[e2]at h2
 ·delta act;simp only[ofVersion]
  rw[none_of h2]
 ·obtain⟨y,hy⟩:=iL.mp h2;exact⟨a0,a1,a2,y,rfl,⟨e1▸h1,rfl⟩,hy⟩
def aae:cM 1 [118,107] UK:=by
 intro s as q0;obtain⟨a0,r0,rfl,q1⟩:=cN q0 (by decide) (by decide);obtain⟨a1,r1,rfl,q2⟩:=cN q1 (by decide) (by decide);cases fZ q2;have e1:qK [118,107] [.n a0,.n a1]=ranged (.del a0 a1):=by
  show(versionIn a0&&(keyIn a1&&true))=_
  delta ranged;simp only[iO]
 have e2:(List.zip ([118,107]:List Nat) ([.n a0,.n a1]:List Arg)).all (cE s)=(((version s a0.toNat).isSome)):=by
  show((version s a0.toNat).isSome&&(true&&true))=_
  simp[iN]
 refine⟨_,rfl,e1,λh1 h2=>?_,λh1 h2=>?_⟩<;>rw[e2]at h2
 ·delta act;simp only[ofVersion]
  rw[none_of h2]
 ·obtain⟨y,hy⟩:=iL.mp h2;exact⟨a0,a1,y,rfl,⟨e1▸h1,rfl⟩,hy⟩
def aaf:cM 2 [118,107] UL:=by
 intro s as q0;obtain⟨a0,r0,rfl,q1⟩:=cN q0 (by decide) (by decide);obtain⟨a1,r1,rfl,q2⟩:=cN q1 (by decide) (by decide);cases fZ q2;have e1:qK [118,107] [.n a0,.n a1]=ranged (.get a0 a1):=by
  show(versionIn a0&&(keyIn a1&&true))=_
  delta ranged;simp only[iO]
 have e2:(List.zip ([118,107]:List Nat) ([.n a0,.n a1]:List Arg)).all (cE s)=(((version s a0.toNat).isSome)):=by
  show((version s a0.toNat).isSome&&(true&&true))=_
  simp[iN]
 refine⟨_,rfl,e1,λh1 h2=>?_,λh1 h2=>?_⟩<;>rw[e2]at h2
 ·delta act;simp only[ofVersion]
  rw[none_of h2]
 ·obtain⟨y,hy⟩:=iL.mp h2;exact⟨a0,a1,y,rfl,⟨e1▸h1,rfl⟩,hy⟩
def aag:cM 3 [118,107,107] Pa:=by
 intro s as q0;obtain⟨a0,r0,rfl,q1⟩:=cN q0 (by decide) (by decide);obtain⟨a1,r1,rfl,q2⟩:=cN q1 (by decide) (by decide);obtain⟨a2,r2,rfl,q3⟩:=cN q2 (by decide) (by decide);cases fZ q3;have e1:qK [118,107,107] [.n a0,.n a1,.n a2]=ranged (.list a0 a1 a2):=by
  show(versionIn a0&&(keyIn a1&&(keyIn a2&&true)))=_
  delta ranged;simp only[iO]
 have e2:(List.zip ([118,107,107]:List Nat) ([.n a0,.n a1,.n a2]:List Arg)).all (cE s)=(((version s a0.toNat).isSome)):=by
  show((version s a0.toNat).isSome&&(true&&(true&&true)))=_
  simp[iN]
 refine⟨_,rfl,e1,λh1 h2=>?_,λh1 h2=>?_⟩<;>rw[e2]at h2
 ·delta act;simp only[ofVersion]
  rw[none_of h2]
 ·obtain⟨y,hy⟩:=iL.mp h2;exact⟨a0,a1,a2,y,rfl,⟨e1▸h1,rfl⟩,hy⟩
def aah:cM 4 [118,118] Pb:=by
 intro s as q0;obtain⟨a0,r0,rfl,q1⟩:=cN q0 (by decide) (by decide);obtain⟨a1,r1,rfl,q2⟩:=cN q1 (by decide) (by decide);cases fZ q2;have e1:qK [118,118] [.n a0,.n a1]=ranged (.diff a0 a1):=by
  show(versionIn a0&&(versionIn a1&&true))=_
  delta ranged;simp only[iO]
 have e2:(List.zip ([118,118]:List Nat) ([.n a0,.n a1]:List Arg)).all (cE s)=(((version s a0.toNat).isSome)&&((version s a1.toNat).isSome)):=by
  show((version s a0.toNat).isSome&&((version s a1.toNat).isSome&&true))=_
  simp[iN]
 refine⟨_,rfl,e1,λh1 h2=>?_,λh1 h2=>?_⟩<;>rw[e2]at h2
 ·delta act;simp only[ofVersion]
  cases g0:version s a0.toNat with
  |none=>rfl
  |some y0=>
   rw[g0]at h2;simp only[];rw[none_of (o:=version s a1.toNat) (by simpa using h2)]
 ·rw[cB]at h2;obtain⟨y0,g0⟩:=iL.mp h2.1;obtain⟨y1,g1⟩:=iL.mp h2.2;exact⟨a0,a1,y0,y1,rfl,⟨e1▸h1,rfl⟩,g0,g1⟩
def aai:cM 5 [118,100] K8:=by
 intro s as q0;obtain⟨a0,r0,rfl,q1⟩:=cN q0 (by decide) (by decide);obtain⟨a1,r1,rfl,q2⟩:=Cu q1 (by decide);cases fZ q2;have e1:qK [118,100] [.n a0,.r a1]=ranged (.patch a0 a1):=by
  show(versionIn a0&&(diffIn a1&&true))=_
  delta ranged;simp only[iO]
 have e2:(List.zip ([118,100]:List Nat) ([.n a0,.r a1]:List Arg)).all (cE s)=(((version s a0.toNat).isSome)):=by
  show((version s a0.toNat).isSome&&(true&&true))=_
  simp[iN]
 refine⟨_,rfl,e1,λh1 h2=>?_,λh1 h2=>?_⟩<;>rw[e2]at h2
 ·delta act;simp only[ofVersion]
  rw[none_of h2]
 ·obtain⟨y,hy⟩:=iL.mp h2;exact⟨a0,a1,y,rfl,⟨e1▸h1,rfl⟩,hy⟩
def aaj:cM 6 [100,100] Pn:=by
 intro s as q0;obtain⟨a0,r0,rfl,q1⟩:=Cu q0 (by decide);obtain⟨a1,r1,rfl,q2⟩:=Cu q1 (by decide);cases fZ q2;have e1:qK [100,100] [.r a0,.r a1]=ranged (.joinOf a0 a1):=by
  show(diffIn a0&&(diffIn a1&&true))=_
  delta ranged;simp only[iO]
 have e2:(List.zip ([100,100]:List Nat) ([.r a0,.r a1]:List Arg)).all (cE s)=(true):=by
  show(true&&(true&&true))=_
  simp[iN]
 refine⟨_,rfl,e1,λh1 h2=>?_,λh1 h2=>?_⟩<;>rw[e2]at h2
 ·cases h2
 ·exact⟨a0,a1,rfl,e1▸h1,rfl⟩
def aak:cM 7 [118,118] K9:=by
 intro s as q0;obtain⟨a0,r0,rfl,q1⟩:=cN q0 (by decide) (by decide);obtain⟨a1,r1,rfl,q2⟩:=cN q1 (by decide) (by decide);cases fZ q2;have e1:qK [118,118] [.n a0,.n a1]=ranged (.merge a0 a1):=by
  show(versionIn a0&&(versionIn a1&&true))=_
  delta ranged;simp only[iO]
 have e2:(List.zip ([118,118]:List Nat) ([.n a0,.n a1]:List Arg)).all (cE s)=(((version s a0.toNat).isSome)&&((version s a1.toNat).isSome)):=by
  show((version s a0.toNat).isSome&&((version s a1.toNat).isSome&&true))=_
  simp[iN]
 refine⟨_,rfl,e1,λh1 h2=>?_,λh1 h2=>?_⟩<;>rw[e2]at h2
 ·delta act;simp only[ofVersion]
  cases g0:version s a0.toNat with
  |none=>rfl
  |some y0=>
   rw[g0]at h2;simp only[];rw[none_of (o:=version s a1.toNat) (by simpa using h2)]
 ·rw[cB]at h2;obtain⟨y0,g0⟩:=iL.mp h2.1;obtain⟨y1,g1⟩:=iL.mp h2.2;exact⟨a0,a1,y0,y1,rfl,⟨e1▸h1,rfl⟩,g0,g1⟩
def aal:cM 8 [118,118,118] K_:=by
 intro s as q0;obtain⟨a0,r0,rfl,q1⟩:=cN q0 (by decide) (by decide);obtain⟨a1,r1,rfl,q2⟩:=cN q1 (by decide) (by decide);obtain⟨a2,r2,rfl,q3⟩:=cN q2 (by decide) (by decide);cases fZ q3;have e1:qK [118,118,118] [.n a0,.n a1,.n a2]=ranged (.mergeFrom a0 a1 a2):=by
  show(versionIn a0&&(versionIn a1&&(versionIn a2&&true)))=_
  delta ranged;simp only[iO]
 have e2:(List.zip ([118,118,118]:List Nat) ([.n a0,.n a1,.n a2]:List Arg)).all (cE s)=(((version s a0.toNat).isSome)&&((version s a1.toNat).isSome)&&((version s a2.toNat).isSome)):=by
  show((version s a0.toNat).isSome&&((version s a1.toNat).isSome&&((version s a2.toNat).isSome&&true)))=_
  simp[iN]
 refine⟨_,rfl,e1,λh1 h2=>?_,λh1 h2=>?_⟩<;>rw[e2]at h2
 ·delta act;simp only[ofVersion]
  cases g0:version s a0.toNat with
  |none=>rfl
  |some y0=>
   rw[g0]at h2;simp only[];cases g1:version s a1.toNat with
   |none=>rfl
   |some y1=>
    rw[g1]at h2;simp only[];rw[none_of (o:=version s a2.toNat) (by simpa using h2)]
 ·rw[cB,cB]at h2;obtain⟨y0,g0⟩:=iL.mp h2.1.1;obtain⟨y1,g1⟩:=iL.mp h2.1.2;obtain⟨y2,g2⟩:=iL.mp h2.2;exact⟨a0,a1,a2,y0,y1,y2,rfl,⟨e1▸h1,rfl⟩,g0,g1,g2⟩
def aam:cM 9 [118,118] Pc:=by
 intro s as q0;obtain⟨a0,r0,rfl,q1⟩:=cN q0 (by decide) (by decide);obtain⟨a1,r1,rfl,q2⟩:=cN q1 (by decide) (by decide);cases fZ q2;have e1:qK [118,118] [.n a0,.n a1]=ranged (.same a0 a1):=by
  show(versionIn a0&&(versionIn a1&&true))=_
  delta ranged;simp only[iO]
 have e2:(List.zip ([118,118]:List Nat) ([.n a0,.n a1]:List Arg)).all (cE s)=(((version s a0.toNat).isSome)&&((version s a1.toNat).isSome)):=by
  show((version s a0.toNat).isSome&&((version s a1.toNat).isSome&&true))=_
  simp[iN]
 refine⟨_,rfl,e1,λh1 h2=>?_,λh1 h2=>?_⟩<;>rw[e2]at h2
 ·delta act;simp only[ofVersion]
  cases g0:version s a0.toNat with
  |none=>rfl
  |some y0=>
   rw[g0]at h2;simp only[];rw[none_of (o:=version s a1.toNat) (by simpa using h2)]
 ·rw[cB]at h2;obtain⟨y0,g0⟩:=iL.mp h2.1;obtain⟨y1,g1⟩:=iL.mp h2.2;exact⟨a0,a1,y0,y1,rfl,⟨e1▸h1,rfl⟩,g0,g1⟩
def XO:cM 10 [] K0:=by
 intro s as q0;cases fZ q0;have e1:qK [] []=ranged .nodes:=by
  show true=_
  delta ranged;simp only[iO]
 have e2:(List.zip ([]:List Nat) ([]:List Arg)).all (cE s)=(true):=by
  show true=_
  simp[iN]
 refine⟨_,rfl,e1,λh1 h2=>?_,λh1 h2=>?_⟩<;>rw[e2]at h2
 ·cases h2
 ·exact⟨rfl,e1▸h1,rfl⟩
def XQ:cM 11 [118,118] GL:=by
 intro s as q0;obtain⟨a0,r0,rfl,q1⟩:=cN q0 (by decide) (by decide);obtain⟨a1,r1,rfl,q2⟩:=cN q1 (by decide) (by decide);cases fZ q2;have e1:qK [118,118] [.n a0,.n a1]=ranged (.shared a0 a1):=by
  show(versionIn a0&&(versionIn a1&&true))=_
  delta ranged;simp only[iO]
 have e2:(List.zip ([118,118]:List Nat) ([.n a0,.n a1]:List Arg)).all (cE s)=(((version s a0.toNat).isSome)&&((version s a1.toNat).isSome)):=by
  show((version s a0.toNat).isSome&&((version s a1.toNat).isSome&&true))=_
  simp[iN]
 refine⟨_,rfl,e1,λh1 h2=>?_,λh1 h2=>?_⟩<;>rw[e2]at h2
 ·delta act;simp only[ofVersion]
  cases g0:version s a0.toNat with
  |none=>rfl
  |some y0=>
   rw[g0]at h2;simp only[];rw[none_of (o:=version s a1.toNat) (by simpa using h2)]
 ·rw[cB]at h2;obtain⟨y0,g0⟩:=iL.mp h2.1;obtain⟨y1,g1⟩:=iL.mp h2.2;exact⟨a0,a1,y0,y1,rfl,⟨e1▸h1,rfl⟩,g0,g1⟩
def XR:cM 12 [118] Ph:=by
 intro s as q0;obtain⟨a0,r0,rfl,q1⟩:=cN q0 (by decide) (by decide);cases fZ q1;have e1:qK [118] [.n a0]=ranged (.drop a0):=by
  show(versionIn a0&&true)=_
  delta ranged;simp only[iO]
 have e2:(List.zip ([118]:List Nat) ([.n a0]:List Arg)).all (cE s)=(((version s a0.toNat).isSome)):=by
  show((version s a0.toNat).isSome&&true)=_
  simp[iN]
 refine⟨_,rfl,e1,λh1 h2=>?_,λh1 h2=>?_⟩<;>rw[e2]at h2
 ·delta act;simp only[ofVersion]
  rw[none_of h2]
 ·obtain⟨y,hy⟩:=iL.mp h2;exact⟨a0,y,rfl,⟨e1▸h1,rfl⟩,hy⟩
def XS:cM 13 [] Pj:=by
 intro s as q0;cases fZ q0;have e1:qK [] []=ranged .collect:=by
  show true=_
  delta ranged;simp only[iO]
 have e2:(List.zip ([]:List Nat) ([]:List Arg)).all (cE s)=(true):=by
  show true=_
  simp[iN]
 refine⟨_,rfl,e1,λh1 h2=>?_,λh1 h2=>?_⟩<;>rw[e2]at h2
 ·cases h2
 ·exact⟨rfl,e1▸h1,rfl⟩
def XT:cM 14 [118] Pd:=by
 intro s as q0;obtain⟨a0,r0,rfl,q1⟩:=cN q0 (by decide) (by decide);cases fZ q1;have e1:qK [118] [.n a0]=ranged (.size a0):=by
  show(versionIn a0&&true)=_
  delta ranged;simp only[iO]
 have e2:(List.zip ([118]:List Nat) ([.n a0]:List Arg)).all (cE s)=(((version s a0.toNat).isSome)):=by
  show((version s a0.toNat).isSome&&true)=_
  simp[iN]
 refine⟨_,rfl,e1,λh1 h2=>?_,λh1 h2=>?_⟩<;>rw[e2]at h2
 ·delta act;simp only[ofVersion]
  rw[none_of h2]
 ·obtain⟨y,hy⟩:=iL.mp h2;exact⟨a0,y,rfl,⟨e1▸h1,rfl⟩,hy⟩
def XU:cM 15 [118,107] Pe:=by
 intro s as q0;obtain⟨a0,r0,rfl,q1⟩:=cN q0 (by decide) (by decide);obtain⟨a1,r1,rfl,q2⟩:=cN q1 (by decide) (by decide);cases fZ q2;have e1:qK [118,107] [.n a0,.n a1]=ranged (.from_ a0 a1):=by
  show(versionIn a0&&(keyIn a1&&true))=_
  delta ranged;simp only[iO]
 have e2:(List.zip ([118,107]:List Nat) ([.n a0,.n a1]:List Arg)).all (cE s)=(((version s a0.toNat).isSome)):=by
  show((version s a0.toNat).isSome&&(true&&true))=_
  simp[iN]
 refine⟨_,rfl,e1,λh1 h2=>?_,λh1 h2=>?_⟩<;>rw[e2]at h2
 ·delta act;simp only[ofVersion]
  rw[none_of h2]
 ·obtain⟨y,hy⟩:=iL.mp h2;exact⟨a0,a1,y,rfl,⟨e1▸h1,rfl⟩,hy⟩
def XW:cM 16 [118,110] UM:=by
 intro s as q0;obtain⟨a0,r0,rfl,q1⟩:=cN q0 (by decide) (by decide);obtain⟨a1,r1,rfl,q2⟩:=cN q1 (by decide) (by decide);cases fZ q2;have e1:qK [118,110] [.n a0,.n a1]=ranged (.nth a0 a1):=by
  show(versionIn a0&&(Vbwsae.inR a1 0 9999&&true))=_
  delta ranged;simp only[iO]
 have e2:(List.zip ([118,110]:List Nat) ([.n a0,.n a1]:List Arg)).all (cE s)=(((version s a0.toNat).isSome)):=by
  show((version s a0.toNat).isSome&&(true&&true))=_
  simp[iN]
 refine⟨_,rfl,e1,λh1 h2=>?_,λh1 h2=>?_⟩<;>rw[e2]at h2
 ·delta act;simp only[ofVersion]
  rw[none_of h2]
 ·obtain⟨y,hy⟩:=iL.mp h2;exact⟨a0,a1,y,rfl,⟨e1▸h1,rfl⟩,hy⟩
def XX:cM 17 [118,107,107] UP:=by
 intro s as q0;obtain⟨a0,r0,rfl,q1⟩:=cN q0 (by decide) (by decide);obtain⟨a1,r1,rfl,q2⟩:=cN q1 (by decide) (by decide);obtain⟨a2,r2,rfl,q3⟩:=cN q2 (by decide) (by decide);cases fZ q3;have e1:qK [118,107,107] [.n a0,.n a1,.n a2]=ranged (.sum a0 a1 a2):=by
  show(versionIn a0&&(keyIn a1&&(keyIn a2&&true)))=_
  delta ranged;simp only[iO]
 have e2:(List.zip ([118,107,107]:List Nat) ([.n a0,.n a1,.n a2]:List Arg)).all (cE s)=(((version s a0.toNat).isSome)):=by
  show((version s a0.toNat).isSome&&(true&&(true&&true)))=_
  simp[iN]
 refine⟨_,rfl,e1,λh1 h2=>?_,λh1 h2=>?_⟩<;>rw[e2]at h2
 ·delta act;simp only[ofVersion]
  rw[none_of h2]
 ·obtain⟨y,hy⟩:=iL.mp h2;exact⟨a0,a1,a2,y,rfl,⟨e1▸h1,rfl⟩,hy⟩
def XY:cM 18 [119] UN:=by
 intro s as q0;obtain⟨a0,r0,rfl,q1⟩:=cN q0 (by decide) (by decide);cases fZ q1;have e1:qK [119] [.n a0]=ranged (.parents a0):=by
  show(versionIn a0&&true)=_
  delta ranged;simp only[iO]
 have e2:(List.zip ([119]:List Nat) ([.n a0]:List Arg)).all (cE s)=(decide (a0.toNat<s.versions.length)):=by
  show(decide (a0.toNat<s.versions.length)&&true)=_
  simp[iN]
 refine⟨_,rfl,e1,λh1 h2=>?_,λh1 h2=>?_⟩<;>rw[e2]at h2
 ·delta act;simp only[]
  rw[qh (by simpa using h2)]
 ·exact⟨a0,rfl,⟨e1▸h1,rfl⟩,by simpa using h2⟩
def XZ:cM 19 [119,119] Pk:=by
 intro s as q0;obtain⟨a0,r0,rfl,q1⟩:=cN q0 (by decide) (by decide);obtain⟨a1,r1,rfl,q2⟩:=cN q1 (by decide) (by decide);cases fZ q2;have e1:qK [119,119] [.n a0,.n a1]=ranged (.common a0 a1):=by
  show(versionIn a0&&(versionIn a1&&true))=_
  delta ranged;simp only[iO]
 have e2:(List.zip ([119,119]:List Nat) ([.n a0,.n a1]:List Arg)).all (cE s)=(decide (a0.toNat<s.versions.length)&&decide (a1.toNat<s.versions.length)):=by
  show(decide (a0.toNat<s.versions.length)&&(decide (a1.toNat<s.versions.length)&&true))=_
  simp[iN]
 refine⟨_,rfl,e1,λh1 h2=>?_,λh1 h2=>?_⟩<;>rw[e2]at h2
 ·delta act;simp only[]
  by_cases g0:a0.toNat<s.versions.length
  ·rw[iw g0,qh (by simpa[g0]using h2)]
  ·rw[qh (by omega)]
 ·simp only[cB,k8]at h2;exact⟨a0,a1,rfl,⟨e1▸h1,rfl⟩,h2.1,h2.2⟩
def X0:cM 20 [118,112] GJ:=by
 intro s as q0;obtain⟨a0,r0,rfl,q1⟩:=cN q0 (by decide) (by decide);obtain⟨a1,r1,rfl,q2⟩:=Cu q1 (by decide);cases fZ q2;have e1:qK [118,112] [.n a0,.r a1]=ranged (.putAll a0 a1):=by
  show(versionIn a0&&((decide (a1.length<=200)&&pairsIn a1)&&true))=_
  delta ranged;simp only[iO]
 have e2:(List.zip ([118,112]:List Nat) ([.n a0,.r a1]:List Arg)).all (cE s)=(((version s a0.toNat).isSome)):=by
  show((version s a0.toNat).isSome&&(true&&true))=_
  simp[iN]
 refine⟨_,rfl,e1,λh1 h2=>?_,λh1 h2=>?_⟩<;>rw[e2]at h2
 ·delta act;simp only[ofVersion]
  rw[none_of h2]
 ·obtain⟨y,hy⟩:=iL.mp h2;exact⟨a0,a1,y,rfl,⟨e1▸h1,rfl⟩,hy⟩
def X3:cM 21 [100] UO:=by
 intro s as q0;obtain⟨a0,r0,rfl,q1⟩:=Cu q0 (by decide);cases fZ q1;have e1:qK [100] [.r a0]=ranged (.inverse a0):=by
  show(diffIn a0&&true)=_
  delta ranged;simp only[iO]
 have e2:(List.zip ([100]:List Nat) ([.r a0]:List Arg)).all (cE s)=(true):=by
  show(true&&true)=_
  simp[iN]
 refine⟨_,rfl,e1,λh1 h2=>?_,λh1 h2=>?_⟩<;>rw[e2]at h2
 ·cases h2
 ·exact⟨a0,rfl,e1▸h1,rfl⟩
def X4:cM 22 [118] Pf:=by
 intro s as q0;obtain⟨a0,r0,rfl,q1⟩:=cN q0 (by decide) (by decide);cases fZ q1;have e1:qK [118] [.n a0]=ranged (.look a0):=by
  show(versionIn a0&&true)=_
  delta ranged;simp only[iO]
 have e2:(List.zip ([118]:List Nat) ([.n a0]:List Arg)).all (cE s)=(((version s a0.toNat).isSome)):=by
  show((version s a0.toNat).isSome&&true)=_
  simp[iN]
 refine⟨_,rfl,e1,λh1 h2=>?_,λh1 h2=>?_⟩<;>rw[e2]at h2
 ·delta act;simp only[ofVersion]
  rw[none_of h2]
 ·obtain⟨y,hy⟩:=iL.mp h2;exact⟨a0,y,rfl,⟨e1▸h1,rfl⟩,hy⟩
def X5:cM 23 [] Pg:=by
 intro s as q0;cases fZ q0;have e1:qK [] []=ranged .versions:=by
  show true=_
  delta ranged;simp only[iO]
 have e2:(List.zip ([]:List Nat) ([]:List Arg)).all (cE s)=(true):=by
  show true=_
  simp[iN]
 refine⟨_,rfl,e1,λh1 h2=>?_,λh1 h2=>?_⟩<;>rw[e2]at h2
 ·cases h2
 ·exact⟨rfl,e1▸h1,rfl⟩
noncomputable def V2 (a:Ad):List V:=[.ref a.iQ.1,.ref a.eV.1,.ref a.iR.1,.ref a.gD.1,.ref a.gE.1,.ref a.fK.1,.ref a.gF.1,.ref a.fM.1,.ref a.cH.1,.ref a.gG.1,.ref a.fN.1,.ref a.eW.1,.ref a.gH.1,.ref a.dQ.1,.ref a.gI.1,.ref a.gJ.1,.ref a.iS.1,.ref a.iT.1,.ref a.dU.1,.ref a.eX.1,.ref a.eY.1,.ref a.dW.1,.ref a.gK.1,.ref a.cW.1]
inductive Rp(a:Ad)(vs:List V)(H:Hp)(Q:VK)(gc:XK):Prop
 |mk (S p dk dn vl l:Addr) (aS:List Addr) (s:Vbwsae.St) (n:Nat) (fo:Str) (xs:List V) (as:List Arg) (c:Call) (_:vs=[.ref S,.int (n:Int),.ref l]) (_:jE a H S p dk dn vl aS s) (_:iz s) (_:H l=some (.lst xs)) (_:lJ H xs as) (_:n<24) (_:Cv[n]? =some fo) (_:eT bG fo.cps.toList as) (_:as.length<1000) (_:Lb n as=some c) (_:∀H' D ja,H D=none->Row H' D (Vbwsae.step s c).2->jE a H' S p dk dn vl ja (Vbwsae.step s c).1->aH ([p,dk,dn,vl]++aS) H H'->(∀b∈ja,b∈aS\/H b=none)->Q (.ref D) H')
theorem table(T:Txt K mg a):∀n,n<24->∃(fo:Str) (L:List Nat) (f:Addr) (fd:FuncData) (R:RR),(V2 a)[n]? =some (.ref f)/\Cv[n]? =some fo/\fo.cps.toList=L/\fo.cps.all (· < 128)=true/\(Cv.map V.str)[n]? =some (.str fo)/\aT P w K mg base cR 91 f fd ["store","arguments"] (r9 a R)/\Binds K fd ["store","arguments"] []/\W.keepIn K (.ref f)=true/\cM n L R
 |0,_=>⟨"vkx",[118,107,120],a.iQ.1,a.iQ.2,UJ,rfl,rfl,rfl,(by decide +kernel),rfl,(JQ T).mono (by decide),T.iQ.b,T.iQ.F.kp,aad⟩
 |1,_=>⟨"vk",[118,107],a.eV.1,a.eV.2,UK,rfl,rfl,rfl,(by decide +kernel),rfl,(DO T).mono (by decide),T.eV.b,T.eV.F.kp,aae⟩
 |2,_=>⟨"vk",[118,107],a.iR.1,a.iR.2,UL,rfl,rfl,rfl,(by decide +kernel),rfl,(JR T).mono (by decide),T.iR.b,T.iR.F.kp,aaf⟩
 |3,_=>⟨"vkk",[118,107,107],a.gD.1,a.gD.2,Pa,rfl,rfl,rfl,(by decide +kernel),rfl,(HF T).mono (by decide),T.gD.b,T.gD.F.kp,aag⟩
 |4,_=>⟨"vv",[118,118],a.gE.1,a.gE.2,Pb,rfl,rfl,rfl,(by decide +kernel),rfl,(HG T).mono (by decide),T.gE.b,T.gE.F.kp,aah⟩
 |5,_=>⟨"vd",[118,100],a.fK.1,a.fK.2,K8,rfl,rfl,rfl,(by decide +kernel),rfl,(EO T).mono (by decide),T.fK.b,T.fK.F.kp,aai⟩
 |6,_=>⟨"dd",[100,100],a.gF.1,a.gF.2,Pn,rfl,rfl,rfl,(by decide +kernel),rfl,(HN T).mono (by decide),T.gF.b,T.gF.F.kp,aaj⟩
 |7,_=>⟨"vv",[118,118],a.fM.1,a.fM.2,K9,rfl,rfl,rfl,(by decide +kernel),rfl,(ER T).mono (by decide),T.fM.b,T.fM.F.kp,aak⟩
 |8,_=>⟨"vvv",[118,118,118],a.cH.1,a.cH.2,K_,rfl,rfl,rfl,(by decide +kernel),rfl,(zG T).mono (by decide),T.cH.b,T.cH.F.kp,aal⟩
 |9,_=>⟨"vv",[118,118],a.gG.1,a.gG.2,Pc,rfl,rfl,rfl,(by decide +kernel),rfl,(HH T).mono (by decide),T.gG.b,T.gG.F.kp,aam⟩
 |10,_=>⟨"",[],a.fN.1,a.fN.2,K0,rfl,rfl,rfl,(by decide +kernel),rfl,(EN T).mono (by decide),T.fN.b,T.fN.F.kp,XO⟩
 |11,_=>⟨"vv",[118,118],a.eW.1,a.eW.2,GL,rfl,rfl,rfl,(by decide +kernel),rfl,(DR T).mono (by decide),T.eW.b,T.eW.F.kp,XQ⟩
 |12,_=>⟨"v",[118],a.gH.1,a.gH.2,Ph,rfl,rfl,rfl,(by decide +kernel),rfl,(HM T).mono (by decide),T.gH.b,T.gH.F.kp,XR⟩
 |13,_=>⟨"",[],a.dQ.1,a.dQ.2,Pj,rfl,rfl,rfl,(by decide +kernel),rfl,(Cq T).mono (by decide),T.dQ.b,T.dQ.F.kp,XS⟩
 |14,_=>⟨"v",[118],a.gI.1,a.gI.2,Pd,rfl,rfl,rfl,(by decide +kernel),rfl,(HJ T).mono (by decide),T.gI.b,T.gI.F.kp,XT⟩
 |15,_=>⟨"vk",[118,107],a.gJ.1,a.gJ.2,Pe,rfl,rfl,rfl,(by decide +kernel),rfl,(HK T).mono (by decide),T.gJ.b,T.gJ.F.kp,XU⟩
 |16,_=>⟨"vn",[118,110],a.iS.1,a.iS.2,UM,rfl,rfl,rfl,(by decide +kernel),rfl,(JS T).mono (by decide),T.iS.b,T.iS.F.kp,XW⟩
 |17,_=>⟨"vkk",[118,107,107],a.iT.1,a.iT.2,UP,rfl,rfl,rfl,(by decide +kernel),rfl,(JT T).mono (by decide),T.iT.b,T.iT.F.kp,XX⟩
 |18,_=>⟨"w",[119],a.dU.1,a.dU.2,UN,rfl,rfl,rfl,(by decide +kernel),rfl,(Cr T).mono (by decide),T.dU.b,T.dU.F.kp,XY⟩
 |19,_=>⟨"ww",[119,119],a.eX.1,a.eX.2,Pk,rfl,rfl,rfl,(by decide +kernel),rfl,(DP T).mono (by decide),T.eX.b,T.eX.F.kp,XZ⟩
 |20,_=>⟨"vp",[118,112],a.eY.1,a.eY.2,GJ,rfl,rfl,rfl,(by decide +kernel),rfl,(DQ T).mono (by decide),T.eY.b,T.eY.F.kp,X0⟩
 |21,_=>⟨"d",[100],a.dW.1,a.dW.2,UO,rfl,rfl,rfl,(by decide +kernel),rfl,(Cs T).mono (by decide),T.dW.b,T.dW.F.kp,X3⟩
 |22,_=>⟨"v",[118],a.gK.1,a.gK.2,Pf,rfl,rfl,rfl,(by decide +kernel),rfl,(HL T).mono (by decide),T.gK.b,T.gK.F.kp,X4⟩
 |23,_=>⟨"",[],a.cW.1,a.cW.2,Pg,rfl,rfl,rfl,(by decide +kernel),rfl,(Az T).mono (by decide),T.cW.b,T.cW.F.kp,X5⟩
 |n+24,h=>absurd h (by omega)
def DS(T:Txt K mg a):aT P w K mg base cR 92 a.gS.1 a.gS.2 ["store","number","arguments"] (Rp a):=by
 refine T.gS.F.ok oX (λvs H Q E h=>?_) (λcdv A outer s0 H vs Q E hr h=>?_)
 ·obtain⟨S,p,dk,dn,vl,l,aS,s,n,fo,xs,as,c,rfl,_⟩:=h;rfl
 obtain⟨S,p,dk,dn,vl,l,aS,s,n,fo,xs,as,c,rfl,A1,G,hl,hA,hn,hfo,hF,hz,hc,kk⟩:=h;obtain⟨fo',L,f,fd,R,t1,t2,t3,t4,t5,t6,t7,t8,cf⟩:=table (P:=P) (w:=w) (base:=base) T n hn;rw[hfo]at t2;cases t2;obtain⟨tk1,g1⟩:=T.DI;obtain⟨tk2,g2⟩:=T.zD;rw[t3]at hF;obtain⟨c',e0,e1,e2,e3⟩:=cf s as hF;rw[hc]at e0;cases e0;refine⟨_,(ak (aJ (i:=3) oX.nd rfl (Or.inl rfl) (a_ sL (pM rfl T.Jd) (pv 1) (λ_ _=>rfl))) (ak (bx (jJ (fD (aF (Cp T) hr.lt rfl T.fR.m T.fR.F.kp T.fR.b .nil aA (aa (pv 3) (aa (pv 2) ah))))) (ao (aC (bF (aa (dj rfl g1) ah)))) aN) (ak (bx (jJ (fD (aF (zH T) hr.lt rfl T.cz.m T.cz.F.kp T.cz.b .nil aA (aa (pv 0) (aa (pv 3) (aa (pv 2) ah)))))) (ao (aC (bF (aa (dj rfl g2) ah)))) aN) (ak (aJ (i:=4) oX.nd rfl (Or.inl rfl) (a_ sL (pM rfl T.Q7) (pv 1) (λ_ _=>rfl))) (ao (aC (QX (i:=4) (k:=91) hr rfl (Or.inl rfl) (aa (pv 0) (aa (pv 2) ah))))))))),?_⟩;refine⟨_,rfl,a.ud,_,_,_,rfl,rfl,T.BB _,aL t5,?_⟩;refine⟨_,rfl,_,rfl,fo,l,xs,as,rfl,hl,hA,by rw[t3];exact hF,t4,hz,λH1 S1=>⟨_,rfl,?_⟩⟩;have eo:((fo.cps.toList.zip as).map λp=>mw p.1 p.2).all id=qK L as:=by rw[t3];rfl
 rw[eo];cases hok:qK L as
 ·refine dF ?_;have es:Vbwsae.step s c=(s,[-1]):=by unfold Vbwsae.step;rw[ay (by rw[<- e1,hok])]
  rw[es]at kk;exact⟨(by show 1<=sizeLine;decide),λD hD=>e7 A1 kk _ D (S1.free hD) af (S1.trans (az.new hD))⟩
 refine fu ?_;have es:Vbwsae.step s c=act s c:=by unfold Vbwsae.step;rw[aq (by rw[<- e1,hok];simp)]
 rw[es]at kk;have A2:=A1.same S1
 have hA1:lJ H1 xs as:=eT.imp hA λv x _ _ h=>Aj.same h S1
 have hall:∀q∈fo.cps.toList.zip as,mw q.1 q.2=true:=λq hq=>by
  rw[t3]at hq;have:=BS.mp hok (mw q.1 q.2) (br.mpr ⟨q,hq,rfl⟩)
  simpa using this
 refine⟨_,rfl,_,rfl,_,rfl,S,p,dk,dn,vl,l,aS,s,fo,xs,as,rfl,A2,S1 _ _ hl,hA1,by rw[t3];exact hF,t4,hall,λH2 S2=>⟨_,rfl,?_⟩⟩;rw[t3];cases hth:(L.zip as).all (cE s)
 ·refine dF ?_;rw[e2 hok hth]at kk;exact⟨(by show 1<=sizeLine;decide),λD hD=>e7 A1 kk _ D ((S1.trans S2).free hD) af ((S1.trans S2).trans (az.new hD))⟩
 refine fu ?_;have wL:=S1.trans S2
 refine⟨_,rfl,a.xJ,_,_,_,rfl,rfl,T.GA _,aL t1,?_⟩;refine⟨f,r9 a R,rfl,⟨fd,_,t6,t7,t8⟩,_,rfl,_,rfl,?_⟩;refine⟨S,p,dk,dn,vl,l,aS,s,xs,as,_,rfl,A1.same wL,G,wL _ _ hl,eT.imp hA λv x _ _ h=>Aj.same h wL,e3 hok hth,λH' D ja hD r' A' K' hv'=>?_⟩;exact kk H' D ja (wL.free hD) r' A' ((aH.of wL).trans K') λb hb=>(hv' b hb).imp id λz=>wL.free z
def W6:("dp":Str).cps.toList=[100,112]:=rfl
def cO{cs:List Nat}(h1:c≠100)(h2:c≠112):parse (c::cs) (x::r)=(parse cs r).map λp=>(.n x::p.1,p.2):=by
 rw[xx,aq (by rw[W6];simp[h1,h2])]
def Cw{cs:List Nat}{n:Int}(h1:c=100\/c=112)(h2:0<=n/\n.toNat<=r.length):parse (c::cs) (n::r)=(parse cs (r.drop n.toNat)).map λp=>(.r (r.take n.toNat)::p.1,p.2):=by
 rw[xx,ay (by rw[W6];simpa using h1)];simp only[ay h2]
def ug(d:List Int)(r:List Int):cut ((d.length:Int)::(d++r))=some (d,r):=by
 unfold cut;simp only;rw[ay ⟨by omega,by rw[gb];omega⟩];simp
def Yq(d:List Int):cut ((d.length:Int)::d)=some (d,[]):=by
 have:=ug d [];rw[nP]at this;exact this
def tO{l x t:List Int}(h:PyFlat.row l=some (x,t)):∃n r,l=n::r/\(0<=n/\n.toNat<=r.length)/\x=r.take n.toNat/\t=r.drop n.toNat:=by
 cases l with
 |nil=>cases h
 |cons n r=>
  unfold PyFlat.row at h;simp only at h;by_cases c:0<=n/\n.toNat<=r.length
  ·rw[ay c]at h;cases h;exact⟨n,r,rfl,c,rfl,rfl⟩
  ·rw[aq c]at h;cases h
def Lr{l:List Int}{xs:List (List Int)}{t:List Int}(h:PyFlat.rows 1 l=some (xs,t)):∃x,xs=[x]/\PyFlat.row l=some (x,t):=by
 unfold PyFlat.rows at h;cases e:PyFlat.row l with
 |none=>rw[e]at h;cases h
 |some q=>obtain⟨x,u⟩:=q;rw[e]at h;simp only[PyFlat.rows]at h;cases h;exact⟨x,rfl,rfl⟩
def X6{l:List Int}{xs:List (List Int)}{t:List Int}(h:PyFlat.rows 2 l=some (xs,t)):∃x y u,xs=[x,y]/\PyFlat.row l=some (x,u)/\PyFlat.row u=some (y,t):=by
 unfold PyFlat.rows at h;cases e:PyFlat.row l with
 |none=>rw[e]at h;cases h
 |some q=>
  obtain⟨x,u⟩:=q;rw[e]at h;simp only at h;cases e2:PyFlat.rows 1 u with
  |none=>rw[e2]at h;cases h
  |some q2=>
   obtain⟨ys,u2⟩:=q2;rw[e2]at h;cases h;obtain⟨y,rfl,e3⟩:=Lr e2;exact⟨x,y,u,rfl,rfl,e3⟩
def d7(p:Nat)(L:List Nat):Prop:=∀(r t:List Int) (c:List (List Int)),PyFlat.call PyVbwsae.shape ((p:Int)::r)=some (c,t)->VbwsaeNeutral.asked1 (PyVbwsae.whole c)=true->
 ∃as call,parse L r=some (as,t)/\eT bG L as/\as.length<1000/\Lb p as=some call/\∀s,VbwsaeNeutral.step s (PyVbwsae.whole c)=Vbwsae.step s call
def eK{p:Int}(hs:PyVbwsae.shape p=some (n,k)){t:List Int}{c:List (List Int)}(h:PyFlat.call PyVbwsae.shape (p::r)=some (c,t)):n<=r.length/\∃xs,PyFlat.rows k (r.drop n)=some (xs,t)/\c=(p::r.take n)::xs:=by
 unfold PyFlat.call at h;simp only[hs]at h;by_cases hl:r.length<n
 ·rw[ay hl]at h;cases h
 ·rw[aq hl]at h;cases e:PyFlat.rows k (r.drop n)with
  |none=>rw[e]at h;cases h
  |some q=>obtain⟨xs,u⟩:=q;rw[e]at h;cases h;exact⟨by omega,xs,rfl,rfl⟩
theorem aan(v:Int)(l:List Int):decode (5::v::l)=(match cut l with
  |some (d,[])=>some (.patch v d)
  |_=>none):=rfl
theorem aao(l:List Int):decode (6::l)=(match cut l with
  |some (d,r)=>(match cut r with
   |some (e,[])=>some (.joinOf d e)
   |_=>none)
  |none=>none):=rfl
theorem X7(v:Int)(l:List Int):decode (20::v::l)=(match cut l with
  |some (d,[])=>some (.putAll v d)
  |_=>none):=rfl
theorem X8(l:List Int):decode (21::l)=(match cut l with
  |some (d,[])=>some (.inverse d)
  |_=>none):=rfl
def aap:d7 0 [118,107,120]:=by
 intro r t c h ha;obtain⟨hl,xs,hx,rfl⟩:=eK (n:=3) (k:=0) (by decide) h;obtain _|⟨a0,r0⟩:=r
 ·simp at hl
 obtain _|⟨a1,r1⟩:=r0
 ·simp at hl
 obtain _|⟨a2,r2⟩:=r1
 ·simp at hl
 cases hx;refine⟨[.n a0,.n a1,.n a2],(.put a0 a1 a2),?_,.cons (by simp[bG]) (.cons (by simp[bG]) (.cons (by simp[bG]) (.nil))),by simp,rfl,λs=>rfl⟩;rw[cO (by decide) (by decide),cO (by decide) (by decide),cO (by decide) (by decide),parse];rfl
def aaq:d7 1 [118,107]:=by
 intro r t c h ha;obtain⟨hl,xs,hx,rfl⟩:=eK (n:=2) (k:=0) (by decide) h;obtain _|⟨a0,r0⟩:=r
 ·simp at hl
 obtain _|⟨a1,r1⟩:=r0
 ·simp at hl
 cases hx;refine⟨[.n a0,.n a1],(.del a0 a1),?_,.cons (by simp[bG]) (.cons (by simp[bG]) (.nil)),by simp,rfl,λs=>rfl⟩;rw[cO (by decide) (by decide),cO (by decide) (by decide),parse];rfl
def aar:d7 2 [118,107]:=by
 intro r t c h ha;obtain⟨hl,xs,hx,rfl⟩:=eK (n:=2) (k:=0) (by decide) h;obtain _|⟨a0,r0⟩:=r
 ·simp at hl
 obtain _|⟨a1,r1⟩:=r0
 ·simp at hl
 cases hx;refine⟨[.n a0,.n a1],(.get a0 a1),?_,.cons (by simp[bG]) (.cons (by simp[bG]) (.nil)),by simp,rfl,λs=>rfl⟩;rw[cO (by decide) (by decide),cO (by decide) (by decide),parse];rfl
def aas:d7 3 [118,107,107]:=by
 intro r t c h ha;obtain⟨hl,xs,hx,rfl⟩:=eK (n:=3) (k:=0) (by decide) h;obtain _|⟨a0,r0⟩:=r
 ·simp at hl
 obtain _|⟨a1,r1⟩:=r0
 ·simp at hl
 obtain _|⟨a2,r2⟩:=r1
 ·simp at hl
 cases hx;refine⟨[.n a0,.n a1,.n a2],(.list a0 a1 a2),?_,.cons (by simp[bG]) (.cons (by simp[bG]) (.cons (by simp[bG]) (.nil))),by simp,rfl,λs=>rfl⟩;rw[cO (by decide) (by decide),cO (by decide) (by decide),cO (by decide) (by decide),parse];rfl
def aat:d7 4 [118,118]:=by
 intro r t c h ha;obtain⟨hl,xs,hx,rfl⟩:=eK (n:=2) (k:=0) (by decide) h;obtain _|⟨a0,r0⟩:=r
 ·simp at hl
 obtain _|⟨a1,r1⟩:=r0
 ·simp at hl
 cases hx;refine⟨[.n a0,.n a1],(.diff a0 a1),?_,.cons (by simp[bG]) (.cons (by simp[bG]) (.nil)),by simp,rfl,λs=>rfl⟩;rw[cO (by decide) (by decide),cO (by decide) (by decide),parse];rfl
def aau:d7 5 [118,100]:=by
 intro r t c h ha;obtain⟨hl,xs,hx,rfl⟩:=eK (n:=1) (k:=1) (by decide) h;obtain _|⟨a0,r0⟩:=r
 ·simp at hl
 obtain⟨d,rfl,hd⟩:=Lr hx;obtain⟨n,q,e,hn,rfl,rfl⟩:=tO hd;simp only[E3,Fl]at e;subst e;have hb:(q.take n.toNat).length<=1097:=by
  have ha:(VbwsaeNeutral.whole64 a0&&(decide ((q.take n.toNat).length<=1097)&&VbwsaeNeutral.wholes (q.take n.toNat)))=true:=ha;simp only[cB,k8]at ha;exact ha.2.1
 refine⟨[.n a0,.r (q.take n.toNat)],(.patch a0 (q.take n.toNat)),?_,.cons (by simp[bG]) (.cons ⟨by decide,by omega⟩ (.nil)),by simp,rfl,λs=>?_⟩
 ·rw[cO (by decide) (by decide),Cw (by decide) hn,parse];rfl
 ·generalize q.take n.toNat=d;show does s ((5:Int)::a0::((d.length:Int)::(d++[])))=_
  unfold does;have e:decode ((5:Int)::a0::((d.length:Int)::(d++[])))=some (.patch a0 d):=by
   rw[aan,ug]
  rw[e]
def aav:d7 6 [100,100]:=by
 intro r t c h ha;obtain⟨hl,xs,hx,rfl⟩:=eK (n:=0) (k:=2) (by decide) h;obtain⟨d,d2,u,rfl,hd,hd2⟩:=X6 hx;obtain⟨n,q,e,hn,rfl,rfl⟩:=tO hd;obtain⟨n2,q2,e2,hn2,rfl,rfl⟩:=tO hd2;simp only[E3,Fl]at e;subst e;have hb:(q.take n.toNat).length+(q2.take n2.toNat).length<=1097:=by
  have ha:(decide ((q.take n.toNat).length+(q2.take n2.toNat).length<=1097)&&(VbwsaeNeutral.wholes (q.take n.toNat)&&VbwsaeNeutral.wholes (q2.take n2.toNat)))=true:=ha;simp only[cB,k8]at ha;exact ha.1
 refine⟨[.r (q.take n.toNat),.r (q2.take n2.toNat)],(.joinOf (q.take n.toNat) (q2.take n2.toNat)),?_,.cons ⟨by decide,by omega⟩ (.cons ⟨by decide,by omega⟩ (.nil)),by simp,rfl,λs=>?_⟩
 ·rw[Cw (by decide) hn,e2,Cw (by decide) hn2,parse];rfl
 ·generalize q.take n.toNat=d;generalize q2.take n2.toNat=d2;show does s ((6:Int)::((d.length:Int)::(d++((d2.length:Int)::(d2++[])))))=_
  unfold does;have e:decode ((6:Int)::((d.length:Int)::(d++((d2.length:Int)::(d2++[])))))=some (.joinOf d d2):=by
   rw[aao,ug];simp only[ug]
  rw[e]
def aaw:d7 7 [118,118]:=by
 intro r t c h ha;obtain⟨hl,xs,hx,rfl⟩:=eK (n:=2) (k:=0) (by decide) h;obtain _|⟨a0,r0⟩:=r
 ·simp at hl
 obtain _|⟨a1,r1⟩:=r0
 ·simp at hl
 cases hx;refine⟨[.n a0,.n a1],(.merge a0 a1),?_,.cons (by simp[bG]) (.cons (by simp[bG]) (.nil)),by simp,rfl,λs=>rfl⟩;rw[cO (by decide) (by decide),cO (by decide) (by decide),parse];rfl
def aax:d7 8 [118,118,118]:=by
 intro r t c h ha;obtain⟨hl,xs,hx,rfl⟩:=eK (n:=3) (k:=0) (by decide) h;obtain _|⟨a0,r0⟩:=r
 ·simp at hl
 obtain _|⟨a1,r1⟩:=r0
 ·simp at hl
 obtain _|⟨a2,r2⟩:=r1
 ·simp at hl
 cases hx;refine⟨[.n a0,.n a1,.n a2],(.mergeFrom a0 a1 a2),?_,.cons (by simp[bG]) (.cons (by simp[bG]) (.cons (by simp[bG]) (.nil))),by simp,rfl,λs=>rfl⟩;rw[cO (by decide) (by decide),cO (by decide) (by decide),cO (by decide) (by decide),parse];rfl
def aay:d7 9 [118,118]:=by
 intro r t c h ha;obtain⟨hl,xs,hx,rfl⟩:=eK (n:=2) (k:=0) (by decide) h;obtain _|⟨a0,r0⟩:=r
 ·simp at hl
 obtain _|⟨a1,r1⟩:=r0
 ·simp at hl
 cases hx;refine⟨[.n a0,.n a1],(.same a0 a1),?_,.cons (by simp[bG]) (.cons (by simp[bG]) (.nil)),by simp,rfl,λs=>rfl⟩;rw[cO (by decide) (by decide),cO (by decide) (by decide),parse];rfl
def X_:d7 10 []:=by
 intro r t c h ha;obtain⟨hl,xs,hx,rfl⟩:=eK (n:=0) (k:=0) (by decide) h;cases hx;refine⟨[],.nodes,?_,.nil,by simp,rfl,λs=>rfl⟩;rfl
def Yb:d7 11 [118,118]:=by
 intro r t c h ha;obtain⟨hl,xs,hx,rfl⟩:=eK (n:=2) (k:=0) (by decide) h;obtain _|⟨a0,r0⟩:=r
 ·simp at hl
 obtain _|⟨a1,r1⟩:=r0
 ·simp at hl
 cases hx;refine⟨[.n a0,.n a1],(.shared a0 a1),?_,.cons (by simp[bG]) (.cons (by simp[bG]) (.nil)),by simp,rfl,λs=>rfl⟩;rw[cO (by decide) (by decide),cO (by decide) (by decide),parse];rfl
def Yc:d7 12 [118]:=by
 intro r t c h ha;obtain⟨hl,xs,hx,rfl⟩:=eK (n:=1) (k:=0) (by decide) h;obtain _|⟨a0,r0⟩:=r
 ·simp at hl
 cases hx;refine⟨[.n a0],(.drop a0),?_,.cons (by simp[bG]) (.nil),by simp,rfl,λs=>rfl⟩;rw[cO (by decide) (by decide),parse];rfl
def Yd:d7 13 []:=by
 intro r t c h ha;obtain⟨hl,xs,hx,rfl⟩:=eK (n:=0) (k:=0) (by decide) h;cases hx;refine⟨[],.collect,?_,.nil,by simp,rfl,λs=>rfl⟩;rfl
def Ye:d7 14 [118]:=by
 intro r t c h ha;obtain⟨hl,xs,hx,rfl⟩:=eK (n:=1) (k:=0) (by decide) h;obtain _|⟨a0,r0⟩:=r
 ·simp at hl
 cases hx;refine⟨[.n a0],(.size a0),?_,.cons (by simp[bG]) (.nil),by simp,rfl,λs=>rfl⟩;rw[cO (by decide) (by decide),parse];rfl
def Yg:d7 15 [118,107]:=by
 intro r t c h ha;obtain⟨hl,xs,hx,rfl⟩:=eK (n:=2) (k:=0) (by decide) h;obtain _|⟨a0,r0⟩:=r
 ·simp at hl
 obtain _|⟨a1,r1⟩:=r0
 ·simp at hl
 cases hx;refine⟨[.n a0,.n a1],(.from_ a0 a1),?_,.cons (by simp[bG]) (.cons (by simp[bG]) (.nil)),by simp,rfl,λs=>rfl⟩;rw[cO (by decide) (by decide),cO (by decide) (by decide),parse];rfl
def Yh:d7 16 [118,110]:=by
 intro r t c h ha;obtain⟨hl,xs,hx,rfl⟩:=eK (n:=2) (k:=0) (by decide) h;obtain _|⟨a0,r0⟩:=r
 ·simp at hl
 obtain _|⟨a1,r1⟩:=r0
 ·simp at hl
 cases hx;refine⟨[.n a0,.n a1],(.nth a0 a1),?_,.cons (by simp[bG]) (.cons (by simp[bG]) (.nil)),by simp,rfl,λs=>rfl⟩;rw[cO (by decide) (by decide),cO (by decide) (by decide),parse];rfl
def Yi:d7 17 [118,107,107]:=by
 intro r t c h ha;obtain⟨hl,xs,hx,rfl⟩:=eK (n:=3) (k:=0) (by decide) h;obtain _|⟨a0,r0⟩:=r
 ·simp at hl
 obtain _|⟨a1,r1⟩:=r0
 ·simp at hl
 obtain _|⟨a2,r2⟩:=r1
 ·simp at hl
 cases hx;refine⟨[.n a0,.n a1,.n a2],(.sum a0 a1 a2),?_,.cons (by simp[bG]) (.cons (by simp[bG]) (.cons (by simp[bG]) (.nil))),by simp,rfl,λs=>rfl⟩;rw[cO (by decide) (by decide),cO (by decide) (by decide),cO (by decide) (by decide),parse];rfl
def Yj:d7 18 [119]:=by
 intro r t c h ha;obtain⟨hl,xs,hx,rfl⟩:=eK (n:=1) (k:=0) (by decide) h;obtain _|⟨a0,r0⟩:=r
 ·simp at hl
 cases hx;refine⟨[.n a0],(.parents a0),?_,.cons (by simp[bG]) (.nil),by simp,rfl,λs=>rfl⟩;rw[cO (by decide) (by decide),parse];rfl
def Yk:d7 19 [119,119]:=by
 intro r t c h ha;obtain⟨hl,xs,hx,rfl⟩:=eK (n:=2) (k:=0) (by decide) h;obtain _|⟨a0,r0⟩:=r
 ·simp at hl
 obtain _|⟨a1,r1⟩:=r0
 ·simp at hl
 cases hx;refine⟨[.n a0,.n a1],(.common a0 a1),?_,.cons (by simp[bG]) (.cons (by simp[bG]) (.nil)),by simp,rfl,λs=>rfl⟩;rw[cO (by decide) (by decide),cO (by decide) (by decide),parse];rfl
def Yl:d7 20 [118,112]:=by
 intro r t c h ha;obtain⟨hl,xs,hx,rfl⟩:=eK (n:=1) (k:=1) (by decide) h;obtain _|⟨a0,r0⟩:=r
 ·simp at hl
 obtain⟨d,rfl,hd⟩:=Lr hx;obtain⟨n,q,e,hn,rfl,rfl⟩:=tO hd;simp only[E3,Fl]at e;subst e;have hb:(q.take n.toNat).length<=1097:=by
  have ha:(VbwsaeNeutral.whole64 a0&&(decide ((q.take n.toNat).length<=1097)&&VbwsaeNeutral.wholes (q.take n.toNat)))=true:=ha;simp only[cB,k8]at ha;exact ha.2.1
 refine⟨[.n a0,.r (q.take n.toNat)],(.putAll a0 (q.take n.toNat)),?_,.cons (by simp[bG]) (.cons ⟨by decide,by omega⟩ (.nil)),by simp,rfl,λs=>?_⟩
 ·rw[cO (by decide) (by decide),Cw (by decide) hn,parse];rfl
 ·generalize q.take n.toNat=d;show does s ((20:Int)::a0::((d.length:Int)::(d++[])))=_
  unfold does;have e:decode ((20:Int)::a0::((d.length:Int)::(d++[])))=some (.putAll a0 d):=by
   rw[X7,ug]
  rw[e]
def Ym:d7 21 [100]:=by
 intro r t c h ha;obtain⟨hl,xs,hx,rfl⟩:=eK (n:=0) (k:=1) (by decide) h;obtain⟨d,rfl,hd⟩:=Lr hx;obtain⟨n,q,e,hn,rfl,rfl⟩:=tO hd;simp only[E3,Fl]at e;subst e;have hb:(q.take n.toNat).length<=1098:=by
  have ha:(decide ((q.take n.toNat).length<=1098)&&VbwsaeNeutral.wholes (q.take n.toNat))=true:=ha;simp only[cB,k8]at ha;exact ha.1
 refine⟨[.r (q.take n.toNat)],(.inverse (q.take n.toNat)),?_,.cons ⟨by decide,by omega⟩ (.nil),by simp,rfl,λs=>?_⟩
 ·rw[Cw (by decide) hn,parse];rfl
 ·generalize q.take n.toNat=d;show does s ((21:Int)::((d.length:Int)::(d++[])))=_
  unfold does;have e:decode ((21:Int)::((d.length:Int)::(d++[])))=some (.inverse d):=by
   rw[X8,ug]
  rw[e]
def Yn:d7 22 [118]:=by
 intro r t c h ha;obtain⟨hl,xs,hx,rfl⟩:=eK (n:=1) (k:=0) (by decide) h;obtain _|⟨a0,r0⟩:=r
 ·simp at hl
 cases hx;refine⟨[.n a0],(.look a0),?_,.cons (by simp[bG]) (.nil),by simp,rfl,λs=>rfl⟩;rw[cO (by decide) (by decide),parse];rfl
def Yo:d7 23 []:=by
 intro r t c h ha;obtain⟨hl,xs,hx,rfl⟩:=eK (n:=0) (k:=0) (by decide) h;cases hx;refine⟨[],.versions,?_,.nil,by simp,rfl,λs=>rfl⟩;rfl
theorem V3:∀n,n<24->∃(fo:Str) (L:List Nat),Cv[n]? =some fo/\fo.cps.toList=L/\fo.cps.size<1000/\(Cv.map V.str)[n]? =some (.str fo)/\d7 n L
 |0,_=>⟨"vkx",[118,107,120],rfl,rfl,(by decide +kernel),rfl,aap⟩
 |1,_=>⟨"vk",[118,107],rfl,rfl,(by decide +kernel),rfl,aaq⟩
 |2,_=>⟨"vk",[118,107],rfl,rfl,(by decide +kernel),rfl,aar⟩
 |3,_=>⟨"vkk",[118,107,107],rfl,rfl,(by decide +kernel),rfl,aas⟩
 |4,_=>⟨"vv",[118,118],rfl,rfl,(by decide +kernel),rfl,aat⟩
 |5,_=>⟨"vd",[118,100],rfl,rfl,(by decide +kernel),rfl,aau⟩
 |6,_=>⟨"dd",[100,100],rfl,rfl,(by decide +kernel),rfl,aav⟩
 |7,_=>⟨"vv",[118,118],rfl,rfl,(by decide +kernel),rfl,aaw⟩
 |8,_=>⟨"vvv",[118,118,118],rfl,rfl,(by decide +kernel),rfl,aax⟩
 |9,_=>⟨"vv",[118,118],rfl,rfl,(by decide +kernel),rfl,aay⟩
 |10,_=>⟨"",[],rfl,rfl,(by decide +kernel),rfl,X_⟩
 |11,_=>⟨"vv",[118,118],rfl,rfl,(by decide +kernel),rfl,Yb⟩
 |12,_=>⟨"v",[118],rfl,rfl,(by decide +kernel),rfl,Yc⟩
 |13,_=>⟨"",[],rfl,rfl,(by decide +kernel),rfl,Yd⟩
 |14,_=>⟨"v",[118],rfl,rfl,(by decide +kernel),rfl,Ye⟩
 |15,_=>⟨"vk",[118,107],rfl,rfl,(by decide +kernel),rfl,Yg⟩
 |16,_=>⟨"vn",[118,110],rfl,rfl,(by decide +kernel),rfl,Yh⟩
 |17,_=>⟨"vkk",[118,107,107],rfl,rfl,(by decide +kernel),rfl,Yi⟩
 |18,_=>⟨"w",[119],rfl,rfl,(by decide +kernel),rfl,Yj⟩
 |19,_=>⟨"ww",[119,119],rfl,rfl,(by decide +kernel),rfl,Yk⟩
 |20,_=>⟨"vp",[118,112],rfl,rfl,(by decide +kernel),rfl,Yl⟩
 |21,_=>⟨"d",[100],rfl,rfl,(by decide +kernel),rfl,Ym⟩
 |22,_=>⟨"v",[118],rfl,rfl,(by decide +kernel),rfl,Yn⟩
 |23,_=>⟨"",[],rfl,rfl,(by decide +kernel),rfl,Yo⟩
 |n+24,h=>absurd h (by omega)
def Rt(n:Nat):PyVbwsae.shape (Int.ofNat (n+24))=none:=rfl
def Ru{p:Int}{q:Nat×Nat}(h:PyVbwsae.shape p=some q):∃n:Nat,n<24/\p=(n:Int):=by
 cases p with
 |ofNat m=>
  rcases kR m 24 with c|c
  ·exact⟨m,c,rfl⟩
  ·rw[<- Nat.sub_add_cancel c,Rt]at h;cases h
 |negSucc m=>cases h
def OQ(G:iz s)(c:Call):iz (Vbwsae.step s c).1/\(Vbwsae.step s c).2.length<=60000:=by
 unfold Vbwsae.step;cases hr:ranged c
 ·rw[ay rfl];exact⟨G,by simp⟩
 ·rw[aq (by simp)];exact⟨OO G c hr,TJ G c hr⟩
def Mc{f:Nat}{p:Int}{cs:List (List (List Int))}(h:PyFlat.calls PyVbwsae.shape f (p::r)=some cs):∃f' c t cs',cs=c::cs'/\PyFlat.call PyVbwsae.shape (p::r)=some (c,t)/\PyFlat.calls PyVbwsae.shape f' t=some cs'/\∃n:Nat,n<24/\p=(n:Int):=by
 cases f with
 |zero=>cases h
 |succ f=>
  unfold PyFlat.calls at h;cases e:PyFlat.call PyVbwsae.shape (p::r)with
  |none=>rw[e]at h;cases h
  |some q=>
   obtain⟨c,t⟩:=q;rw[e]at h;simp only at h;cases e2:PyFlat.calls PyVbwsae.shape f t with
   |none=>rw[e2]at h;cases h
   |some cs'=>
    rw[e2]at h;cases h;refine⟨f,c,t,cs',rfl,rfl,e2,?_⟩;unfold PyFlat.call at e;cases es:PyVbwsae.shape p with
    |none=>simp only[es]at e;cases e
    |some q=>exact Ru es
def OR{f:Nat}{cs:List (List (List Int))}(h:PyFlat.calls PyVbwsae.shape f []=some cs):cs=[]:=by
 cases f<;>(cases h;rfl)
def s_(K:W.Frag)(ca:Addr)(B:List Addr)(xs:List V)(H:Hp):Prop:=(∀H',aX K H' ca xs)\/(ca∉B/\Rd H ca (.lst xs))
def s_.sq(h:s_ K ca B xs H):aX K H ca xs:=by
 rcases h with h|⟨_,h⟩
 ·exact h H
 ·exact .inl h
def s_.of(h:aX K H ca xs):s_ K ca [] xs H:=by
 rcases h with h|h
 ·exact .inr ⟨by simp,h⟩
 ·exact .inl λH'=>.inr h
def s_.keep(h:s_ K ca B xs H)(k:aH S H H')(hS:∀b∈S,b∈B\/((∀ys,H b≠some (.lst ys))/\∀o u,H b≠some (.je o u))):s_ K ca B xs H':=by
 rcases h with h|⟨hB,h|⟨o,h⟩⟩
 ·exact .inl h
 ·exact .inr ⟨hB,.inl (k _ _ h λz=>(hS _ z).elim hB λy=>y.1 _ h)⟩
 ·exact .inr ⟨hB,.inr ⟨o,k _ _ h λz=>(hS _ z).elim hB λy=>y.2 _ _ h⟩⟩
def s_.add(h:s_ K ca B xs H)(hb:H b=none):s_ K ca (b::B) xs H:=by
 rcases h with h|⟨hB,h⟩
 ·exact .inl h
 ·refine .inr ⟨?_,h⟩;have n:ca≠b:=by
   rcases h with h|⟨o,h⟩
   ·exact aj h hb
   ·exact aj h hb
  simp[n,hB]
def jE.vin{S:Addr}(h:jE a H S p dk dn vl aS s)(hb:b∈aS):∃dx fs,H b=some (.ins a.bV dx fs):=by
 obtain⟨i,hi⟩:=List.getElem?_of_mem hb;obtain⟨v,_,dx,t,h1,_⟩:=h.Gp.get hi;exact⟨dx,_,h1⟩
def jE.wr{S:Addr}(h:jE a H S p dk dn vl aS s):∀b∈ [p,dk,dn,vl]++aS,b=vl\/((∀ys,H b≠some (.lst ys))/\∀o u,H b≠some (.je o u)):=λb hb=>by
 obtain⟨dx,h1⟩:=h.jb.obj;obtain⟨ob,h2⟩:=h.jb.kept;rcases dg.mp hb with hb|hb
 ·simp only[bN,yj,or_false]at hb;rcases hb with rfl|rfl|rfl|rfl
  ·exact .inr ⟨λ_ z=>(by rw[h1]at z;cases z),λ_ _ z=>(by rw[h1]at z;cases z)⟩
  ·exact .inr ⟨λ_ z=>(by rw[h2]at z;cases z),λ_ _ z=>(by rw[h2]at z;cases z)⟩
  ·exact .inr ⟨λ_ z=>(by rw[h.jb.nums]at z;cases z),λ_ _ z=>(by rw[h.jb.nums]at z;cases z)⟩
  ·exact .inl rfl
 ·obtain⟨dx,fs,e⟩:=h.vin hb;exact .inr ⟨λ_ z=>(by rw[e]at z;cases z),λ_ _ z=>(by rw[e]at z;cases z)⟩
def jE.nin{S:Addr}(h:jE a H S p dk dn vl aS s)(hb:H b=some (.ins C dx fs))(h1:C≠a.bW)(h2:C≠a.bV):b∉ [p,dk,dn,vl]++aS:=λz=>by
 rcases dg.mp z with z|z
 ·have hn:=h.jb.ins hb h1;have nv:=bh hb h.tK (by intro z;cases z)
  simp only[bN,yj,or_false]at hn z;rcases z with z|z|z|z
  ·exact hn (.inl z)
  ·exact hn (.inr (.inl z))
  ·exact hn (.inr (.inr z))
  ·exact nv z
 ·obtain⟨dx,fs,e⟩:=h.vin z;rw[hb]at e;have e:=fG e
  injection e with e
  exact h2 e
def jE.nil{S:Addr}(h:jE a H S p dk dn vl aS s)(hb:H b=some (.lst xs))(n:b≠vl):b∉ [p,dk,dn,vl]++aS:=λz=>(h.wr b z).elim n λy=>y.1 _ hb
def jE.apart{S:Addr}(h:jE a H S p dk dn vl aS s)(k:aH [b] H H')(al:∀c∈ [b],v9 a p dk dn H c)(n1:b≠vl)(n2:∀dx fs,H b≠some (.ins a.bV dx fs))(n3:∀xs,H b≠some (.tup xs))(n4:b≠S):jE a H' S p dk dn vl aS s:=by
 obtain⟨⟨dx,h1⟩,h2,h3,h4,h5⟩:=h;refine⟨⟨dx,k _ _ h1 (by simpa using n4.symm)⟩,h2.keep k al,k _ _ h3 (by simpa using n1.symm),eT.imp h4 λ_ _ _ _ x=>x.keep k λc hc=>?_,h5⟩;rw[cY.mp hc];exact⟨n2,n3⟩
def jE.rd(T:Txt K mg a){S R:Addr}(h:jE a H S p dk dn vl aS s)(k:aH [R] H H')(hR:H R=some (.ins a.dB dx fs)):jE a H' S p dk dn vl aS s:=by
 obtain⟨dS,hS⟩:=h.obj;refine h.apart k (λb hb=>?_) (bh hR h.tK (by intro z;cases z)) (λ_ _ z=>?_) (λ_ z=>(by rw[hR]at z;cases z)) (λz=>?_)
 ·rw[cY.mp hb];have hn:=h.jb.ins hR T.Nm.2.2.2.1
  simp at hn;refine⟨hn.1,hn.2.1,hn.2.2,λo e c=>?_⟩;rw[hR]at e;cases e;have hc:=T.nC
  simp only[kQ,bN,not_or,yj]at hc;rcases c with⟨_,_,c⟩|⟨_,_,c⟩|⟨_,c⟩
  ·injection c with c;exact hc.1.2.2.2.2.2.1 c.symm
  ·injection c with c;exact hc.2.1.2.2.2.2.1 c.symm
  ·cases c
 ·rw[hR]at z;have z:=fG z
  injection z with z
  exact T.Nm.2.2.2.2.1 z
 ·rw[z,hS]at hR;have hR:=fG hR
  injection hR with z
  exact T.Nm.2.2.2.2.2.2.2 z.symm
theorem jE.tl{S tl:Addr}(h:jE a H S p dk dn vl aS s)(k:aH [tl] H H')(ht:H tl=some (.lst xs))(n:tl≠vl):jE a H' S p dk dn vl aS s:=by
 obtain⟨dS,hS⟩:=h.obj;exact h.apart k (h.jb.RM ht) n (λ_ _ z=>by rw[ht]at z;cases z) (λ_ z=>by rw[ht]at z;cases z) (bh ht hS (by intro z;cases z))
inductive Po(K:W.Frag)(vs:List V)(H:Hp)(Q:VK)(gc:XK):Prop
 |mk (ca:Addr) (ns:List Int) (_:vs=[.ref ca]) (_:aX K H ca (ns.map V.int)) (_:PyVbwsae.answers_asked ns=true) (_:∀(H':Hp) (p:Addr),H' p=some (.lst ((PyVbwsae.answers ns).map V.int))->Q (.ref p) H')
def JV{ns:List Int}(h:PyVbwsae.answers_asked ns=true):∃rest,PyFlat.calls PyVbwsae.shape ns.length ns=some rest/\(∀c∈rest,VbwsaeNeutral.asked1 (PyVbwsae.whole c)=true)/\rest.length<=200/\PyVbwsae.answers ns=PyFlat.told (PyFlat.played VbwsaeNeutral.step Vbwsae.start (rest.map PyVbwsae.whole)):=by
 unfold PyVbwsae.answers_asked PyVbwsae.calls at h;cases e:PyFlat.calls PyVbwsae.shape ns.length ns with
 |none=>rw[e]at h;cases h
 |some rest=>
  rw[e]at h;simp only[cB]at h;obtain⟨h1,h2⟩:=h;unfold VbwsaeNeutral.asked at h2;simp only[cB]at h2;unfold PyFlat.atMost at h1;refine⟨rest,rfl,λc hc=>?_,by simpa using of_decide_eq_true h1,?_⟩
  ·exact BS.mp h2.1 _ (br.mpr ⟨c,hc,rfl⟩)
  ·unfold PyVbwsae.answers PyVbwsae.calls;rw[e];rfl
inductive WAn(K:W.Frag)(a:Ad)(ca S R tl p dk dn vl:Addr)(ns:List Int)(m:Nat)(σ:L2.St)(H':Hp):Prop
 |mk (pl:Nat) (s:Vbwsae.St) (aS:List Addr) (v4 v5:Option V) (rest:List (List (List Int))) (OS:List Int) (f:Nat) (_:σ=[some (.ref ca),some (.ref S),some (.ref R),some (.ref tl),v4,v5]) (_:pl<=ns.length) (_:m=rest.length) (_:jE a H' S p dk dn vl aS s) (_:iz s) (_:Ng a H' R ca pl) (_:s_ K ca [tl,vl] (ns.map V.int) H') (_:H' tl=some (.lst (OS.map V.int))) (_:PyFlat.calls PyVbwsae.shape f (ns.drop pl)=some rest) (_:(∀c∈rest,VbwsaeNeutral.asked1 (PyVbwsae.whole c)=true)) (_:OS.length+60001*rest.length<=12000200) (_:OS++PyFlat.told (PyFlat.played VbwsaeNeutral.step s (rest.map PyVbwsae.whole))=PyVbwsae.answers ns)
def Me(T:Txt K mg a):aT P w K mg base cR 93 a.answers.1 a.answers.2 ["calls"] (Po K):=by
 refine T.answers.F.ok mq (λvs H Q E h=>?_) (λcdv A outer s0 H vs Q E hr h=>?_)
 ·obtain⟨ca,ns,rfl,_⟩:=h;rfl
 obtain⟨ca,ns,rfl,hca,UQ,kk⟩:=h;obtain⟨Yp,hr0,W7,hl0,aaz⟩:=JV UQ;refine⟨_,(ak (aJ (i:=1) mq.nd rfl (Or.inl rfl) (CT T.Q6 (EM T) hr.lt rfl T.Q5 T.jk.b .nil aA)) (ak (aJ (i:=2) mq.nd rfl (Or.inl rfl) (l5 T.Ol (DM T) hr.lt rfl T.Oj T.iE.b .nil aA (aa (pv 0) ah))) (ak (aJ (i:=3) mq.nd rfl (Or.inl rfl) (bF ah)) (ak (IQ kE (fD (lE (pv 2) T.eS T.eO.m (JN T) hr.lt T.eO.b .nil aA))
   (ak (aJ (i:=4) mq.nd rfl (Or.inl rfl) (lE (pv 2) T.eS T.bC.m (oY T) hr.lt T.bC.b .nil aA)) (ak (aJ (i:=5) mq.nd rfl (Or.inl rfl) (aF (DS T) hr.lt rfl T.gS.m T.gS.F.kp T.gS.b .nil aA (aa (pv 1) (aa (pv 4) (aa (aI (pv 2) T.eS T.bS.m (zF T) hr.lt T.bS.b .nil aA (aa (a_ sL (pM rfl T.Jd) (pv 4) (λ_ _=>rfl)) ah)) ah))))) (ak (bQ (kF kD pG pF gA (pv 3) (aa (aV bg rfl T.iy rfl (aa (pv 5) ah)) ah))) (ao (bQ (kF kD Be Bc nW (pv 3) (aa (pv 5) ah)))))))) (ao (aC (pv 3))))))),?_⟩
 intro S dS hS hdS neS;refine⟨S,dS,rfl,af,λH1 p dk dn vl aS A1 hvl K1=>⟨rfl,?_⟩⟩;have C0:s_ K ca [] (ns.map V.int) H:=s_.of hca
 have Sa:az H (L2.upd (L2.upd H dS (.own S)) S (.ins a.bX dS [])):=λb o e=>by rw[ai (aj e hS),ai (aj e hdS)];exact e
 have C1:s_ K ca [vl] (ns.map V.int) H1:=((C0.keep (aH.of (S:=[]) Sa) (by simp)).add hvl).keep K1 λb hb=>.inr (by
  rw[cY.mp hb,af];exact⟨λ_ z=>(by cases z),λ_ _ z=>(by cases z)⟩)
 refine⟨_,rfl,?_⟩;intro R dR hR hdR neR;refine⟨R,dR,ca,rfl,af,λH2 Nl K2=>⟨rfl,?_⟩⟩;have S2:az H1 H2:=λb o e=>K2 b o (by rw[ai (aj e hR),ai (aj e hdR)];exact e) (by simpa using aj e hR)
 have A2:=A1.same S2;have C2:s_ K ca [vl] (ns.map V.int) H2:=C1.keep (aH.of (S:=[]) S2) (by simp)
 refine⟨fC _,λtl W8=>?_⟩;have S3:az H2 (L2.upd H2 tl (.lst [])):=az.new W8
 have ntv:tl≠vl:=(aj A2.tK W8).symm;refine⟨WAn K a ca S R tl p dk dn vl ns,⟨_,0,_,aS,none,none,Yp,[],ns.length,rfl,fC _,rfl,A2.same S3,JU,⟨dR,S3 _ _ Nl⟩,(C2.add W8).keep (aH.of (S:=[]) S3) (by simp),af,hr0,W7,by simp;omega,by rw[aaz];rfl⟩,?_⟩;clear C2 S3 A2 C1 C0 Sa S2 Nl K2 hvl K1 A1 hr0 W7 hl0 aS W8
 rintro m σ H' ⟨pl,s,aS,v4,v5,rest,OS,f,rfl,hpl,rfl,A4,G,⟨dx,R_⟩,C4,W9,hcs,has,hlen,Ls⟩
 have hsq:=C4.sq;refine⟨_,rfl,R,dx,_,rfl,R_,rfl,R,ca,pl,ns,rfl,⟨dx,R_⟩,hsq,⟨_,rfl,?_⟩⟩;refine gM cQ (λc=>?_) (λc=>?_)
 ·have ed:ns.drop pl=ns[pl]::ns.drop (pl+1):=pD c;have hx:ns[pl]? =some ns[pl]:=iw c
  rw[ed]at hcs;obtain⟨f',cc,t,cs',rfl,hcall,aaA,n,hn,hnx⟩:=Mc hcs;rw[hnx]at hcall hx;obtain⟨fo,L,fo1,fo2,fo3,fo4,oc⟩:=V3 n hn;obtain⟨as,call,hp,hA,hz,hco,hst⟩:=oc _ _ _ hcall (has cc (bU ..));obtain⟨G6,hl6⟩:=OQ G call;refine⟨_,λ_ _ z=>z,?_⟩;refine⟨_,rfl,R,dx,_,rfl,R_,rfl,R,ca,pl,ns,(n:Int),rfl,⟨dx,R_⟩,hsq,hx,λH5 ⟨dx5,W_⟩ K5=>?_⟩;have A5:=A4.rd T K5 R_
  have nR:∀b∈ [R],b∈ [tl,vl]\/((∀ys,H' b≠some (.lst ys))/\∀o u,H' b≠some (.je o u)):=λb hb=>.inr (by
   rw[cY.mp hb,R_];exact⟨λ_ z=>(by cases z),λ_ _ z=>(by cases z)⟩)
  have C5:=C4.keep K5 nR;have Zd:tl≠R:=bh W9 R_ (by intro z;cases z)
  have ht5:=K5 _ _ W9 (by simpa using Zd);refine⟨_,rfl,_,rfl,_,rfl,R,dx5,_,rfl,W_,rfl,_,rfl,a.ud,_,_,_,rfl,rfl,T.BB _,aL fo4,?_⟩;refine⟨R,ca,pl+1,ns,fo,as,t,rfl,⟨dx5,W_⟩,C5.sq,c,by rw[fo2];exact hp,fo3,λH6 D xs VR ⟨dx6,hR6⟩ aaB hle hD hD6 hAA K6=>?_⟩;have A6:=A5.rd T K6 W_
  have C6:=C5.keep K6 λb hb=>.inr (by
   rw[cY.mp hb,W_];exact⟨λ_ z=>(by cases z),λ_ _ z=>(by cases z)⟩)
  have Ze:=K6 _ _ ht5 (by simpa using Zd);refine⟨S,p,dk,dn,vl,D,aS,s,n,fo,xs,as,call,rfl,A6,G,hD6,hAA,hn,fo1,by rw[fo2];exact hA,hz,hco,λH7 D7 aaC hD7 r7 A7 K7 hv7=>?_⟩;have Zf:=K7 _ _ Ze (A6.nil Ze ntv)
  have hR7:=K7 _ _ hR6 (A6.nin hR6 T.Nm.2.2.2.1 T.Nm.2.2.2.2.1);have C7:=C6.keep K7 λb hb=>(A6.wr b hb).imp (λz=>by rw[z];simp) id
  have ntD:tl≠D7:=aj Ze hD7;simp only[cF]at hlen;refine⟨_,rfl,.inl ⟨rfl,_,aX.of Zf⟩,_,rfl,D7,_,rfl,.inl (aX.of r7),tl,_,_,rfl,rfl,Zf,by rw[aO];exact jZ (show OS.length<12000200 by omega) (by decide),?_⟩;refine⟨_,rfl,.inl ⟨rfl,_,aX.of af⟩,_,rfl,tl,D7,_,_,rfl,rfl,af,(by rw[ai ntD.symm];exact r7),?_,?_⟩
  ·rw[gb,aO,aO];exact gz (show OS.length+1+_<=12000200 by omega) (by decide)
  rw[qM];have Kt:aH [tl] H7 (L2.upd H7 tl (.lst (OS.map V.int++[.int ((Vbwsae.step s call).2.map V.int).length]++(Vbwsae.step s call).2.map V.int))):=aH.upd (by simp)
  refine⟨cs'.length,by simp,VR,(Vbwsae.step s call).1,aaC,_,_,cs',OS++(((Vbwsae.step s call).2.length:Int)::(Vbwsae.step s call).2),f',rfl,hle,rfl,A7.tl Kt Zf ntv,G6,⟨dx6,Kt _ _ hR7 (by simpa using Zd.symm)⟩,C7.keep Kt (by simp),?_,by rw[aaB];exact aaA,λc hc=>has c (cP _ hc),?_,?_⟩
  ·rw[af];simp
  ·rw[gb,cF];omega
  ·rw[<- Ls];simp only[dG,PyFlat.played,PyFlat.told,List.flatMap_cons,hst];simp
 ·have e:ns.drop pl=[]:=BG (by omega);rw[e]at hcs;have:=OR hcs
  subst this;have Ls:OS=PyVbwsae.answers ns:=by rw[<- Ls];simp[PyFlat.played,PyFlat.told]
  rw[Ls]at W9;exact⟨_,rfl,kk H' tl W9⟩
def V4(T:Txt K mg a){fa:Addr}(hfa:mg "answers" =some (.ref fa)):∃fd:FuncData,(∀(s:Shared) (us:List Value),us.length=(["calls"]:List Str).length->BindsTo s fd ⟨us,[]⟩ ((["calls"]:List Str).zip us))/\∀base:Heap,K.In base->base.Ns mainGlobals mg->aT P w K mg base cR 200 fa fd ["calls"] (Po K):=by
 have e:=hfa.symm.trans T.answers.m;cases e;refine⟨a.answers.2,λs us hu=>?_,λbase _ _=>(Me T).mono (by decide)⟩;obtain⟨oc,od,kV,doc,pm,an,cdv,ct,osl,e,lk,hcd⟩:=T.answers.F.ex;rw[e];exact match us,hu with| [_],_=>.of_eq rfl
end Pr
set_option genInjectivity false in
set_option genSizeOf false in
structure PySem.W.Fast:Prop where(tw15580475413304729632 tw2296172184427252207 tw3447467563528211912 tw4465797434209847767 tw14875078951114829003 tw16651644029106214947 tw15492720760130717149 tw3471196444060463353 tw5160140682727993129 tw1248941862874997374 tw6733803031615535850 tw10550606277918128808 tw2028401034438389208 tw15547349153650992577 tw14918018115038604927 tw10061669954059779849 tw15030800543875536861 tw17750533619835374971 tw5682860547280336020 tw16806776821732799870 tw8909268525809950415 tw7312422739419994926 tw4099625612298229458 tw8454886464673189579 tw5274617839409797779 tw7589092488347367815 tw6698536734237104813 tw12162685634761577003 tw10528192763783608920 tw12868602997910008149 tw11716421106331513548 tw8879514894383714373 tw11692200192458633871 tw1079478679817613401 tw7579278848922796658 tw642704528912251864 tw1974418529459116166 tw13621022990435261431 tw7460273913069088289 tw15945651201185802718 tw1737335413368323977 tw2159698014156132090 tw17325961574779125471 tw3109297560677487269 tw8377301437574695310 tw10566343932438376656 tw3028243782705158529 tw12287605686628999341 tw11546190437709064729 tw17949421647598269084 tw16437818023998580071 tw8362625061984014953 tw11860804153107259614 tw17978111725986684020 tw1683773319426343274 tw6219109418082961208 tw1847473420053396892 tw16535689958171933740 tw14714751930246746177 tw5268109593696674931 tw17558666470947331446 tw18095082924892017792 tw5407248667292757088 tw13496415979536514610 tw5694875744512611126 tw15233514271004308310 tw10407700783018025469 tw9740639103790969274 tw13747909286950118914 tw17340604023883731971 tw4024712208865425260 tw9634691701336972608 tw2680367804781995230 tw12785137952946777213 tw6969022270606205022 tw3152589952645058371 tw13603541388734922562 tw5565466904537859737 tw6646505708447045959 tw3447419545317065378 tw5402068105598892982 tw10661081892159451374 tw9394870188710617976 tw1768773116680654653 tw4940927696241428956 tw7662337934660668100 tw5816555277783836036 tw13897737317408128154 tw11262195569619950936 tw4967366395209351669 tw2264964153084699361 tw3396838070611705740 tw6044286945742208105 tw1338064027916302454 tw10190856105691565001 tw4336315063999235762 tw12772208717647956755 tw582236195511374998 tw11145929953024910926 tw9421954540301835736 tw5677097997217990788 tw12801961857223596408 tw715530878954125477 tw9093518130656569603 tw15172749213797400645 tw14606395460441453921 tw13861428979149533396 tw2731270770228273808 tw2081342256172309985 tw12605220585750467262 tw8996014695665519274 tw982547923458615444 tw14614619823474454469 tw3703748516417003941 tw14148147196609584771 tw9649303358645295378 tw985700307839594206 tw17021401078475825922 tw4830717609935483964 tw12921162345334954290 tw16666862206285332567 tw14777269007777338491 tw18426186400522269152 tw11159552706704461824 tw3612378321150603042 tw2109575707308415862 tw16565218583755018076 tw93076034222336388 tw15775574639441712844 tw17824891123106492084 tw1323883603770046159 tw13287290345853276604 tw15075310169164886937 tw3236890043906285944 tw5718107337875725116 tw9150806587032857553 tw16956180704872750959 tw15795489211559392845 tw10813590695909627421 tw17060903774636792695 tw16948088712600277026 tw7319426984010988904 tw2004352557656470903 tw13353702193873302442 tw4739822542951668137 tw12074608817369037828 tw2693162170653768580 tw5652677433904835066 tw10108563005674758491 tw872860276083672518 tw8486121256446947984 tw9302845891249363665 tw8984276381984893675 tw425159725664666160 tw13224303826499974410 tw4721739619843069463 tw14852367865929182063 tw11216004763368012415 tw8031251791347356808 tw12059411211114616150 tw6315379770976017346 tw15539851153978787770 tw641042153097595741 tw6902446253837002321 tw12209372601592155044 tw2803412808238010064 tw10211477658268724520 tw17594401841923538126 tw13675370351983017889 tw8594043373929508270 tw623830852342438985 tw2522135397383440844 tw4340050374952796852 tw2926322223431044770 tw7057537001926929719 tw18271502549132166392 tw9231819023920999175 tw4753214980319361261 tw18381361031256239843 tw4470513474178251809 tw5549965487055244454 tw3304260304228556261 tw11628691119655805161 tw10303193575311923029 tw456604591920437190 tw15604808594857341985 tw14684861281672080115 tw2898112837575407768 tw6145819693740818355 tw4581132389025113360 tw519418267803558880 tw13447088302371440619 tw11118085651935978208 tw3831794548707817881 tw10911720092061724903 tw7449505494393654871 tw4304512791261491356 tw17835434367790457437 tw5240780365915078825 tw3538067820819132120 tw10089716511155568779 tw12863463630920423631 tw10800882494312252208 tw715889149088021282 tw266596272818516084 tw5649722281451517047 tw1470813661671198206 tw2880506461153413221 tw13619277665743691782 tw14677895315493859011 tw11037613386620226862 tw8983302629784702869 tw16051002873954007730 tw8046097932488384170 tw9947683999622685568 tw16396344438804733363 tw3113719907758636797 tw15003499934077931623 tw7487390063848115718 tw5170734154411194899 tw4894013344637642066 tw10719433357244919314 tw10399955297045889906 tw3263797500188400951 tw6307994883943864962 tw12755556279773416302 tw9158976785109880558 tw13362577375335541856 tw12899325903043412853 tw15124975758737361649 tw9370180581515522873 tw2699934648071058168 tw11483528133749656155 tw3758367877211717685 tw5828359867916764866 tw7009469769606981483 tw14137454453219751828 tw10691381425126092712 tw11004767963125930904 tw10566629405881414828 tw13043774844798133229 tw4871193346811643683 tw5186371115704220386 tw13270310525544313835 tw7670102764161989964 tw1348552097846514568 tw8722264906575546174 tw6739297686607114500 tw2027748613170235426 tw5295926773198609895 tw11148762899608038745 tw495316483258669752 tw11070332287339171273 tw18164951287101751267 tw249114594381188376 tw1079650092805698798 tw10990247739870342414 tw3433712019815254791 tw7251511612471903469 tw8020057106591962119 tw2790112184478665418 tw7468154804059797218 tw2248121879483139554 tw7518208633244902819 tw16372326314047133018 tw5985620085686268256 tw2535637993589924929 tw6937761942073851605 tw17443104440348140128 tw13553192599330378886 tw8380540445506191485 tw2391589297169932890 tw14247412229196988532 tw2417145276591061833 tw18048908744504563843 tw7042123926603055066 tw16703322687006205611 tw7687724209754638157 tw13377213080744478790 tw13928646664266140822 tw598646775374394437 tw5457133051581201908 tw16557996180430119085 tw1720406995852545099 tw13560431073331227356 tw4568581809732506141 tw5921833999595014575 tw4202744133903389535 tw9034368223877714759 tw15087559171727168237 tw12927922307867617527 tw15591667247958205128 tw4750393982444333901 tw12789884383204515120 tw3319665313358626780 tw11191685064848982999 tw14727304557108165862 tw9819437582063091040 tw3816439448947552177 tw15046999082153920225 tw10841878389499152699 tw9499993983361333782 tw6943474877787967354 tw13981456257896694324 tw17672836526236490924 tw7858406339266902764 tw14142255740496381450 tw2188807449925755271 tw16917429451420960999 tw9391627136651679403 tw3326196483694535720 tw17460355504383218898 tw5800869550874834325 tw6544934285368841634 tw13199020070623905296 tw16813239055940776421 tw6858415655215400246 tw13025433136871846611 tw11055552276890903552 tw10463927571007515057 tw7895830422600926154 tw2660608338236495595 tw7198222480627670604 tw14741004777293738884 tw13766774337793248206 tw9468434061297400524 tw9755341650835080404 tw6034807973215690346 tw4887319248777072138 tw17842203843212644480 tw4983429093952915571 tw6225434949355368484 tw13562911592323196877 tw9293292520704886398 tw9848907117196319766 tw14612094762163384803 tw6171859951809067903 tw11953177329755361673 tw10605109850439949986 tw2822087737588557742 tw6607750993320762141 tw722231319297682725 tw2694554592522110912 tw2986195428662099282 tw13338618125780525949 tw11264887743087006252 tw6173972659919469618 tw14256087141807144769 tw16589217887181986463 tw16652659426492232566 tw2146651793705692247 tw13647059484304189851 tw13911388833626130279 tw13058784799753505021 tw1093654085375477891 tw1296215539823670233 tw2892660169594542718 tw6352841261094434826 tw6735488880485806267 tw8124135344503009239 tw143534301112119488 tw8945368750155330699 tw16516593107235778408 tw12730274698459343719 tw15970538837332273460 tw7349231567294284210 tw13679118726031604290 tw14758989353573469400 tw9401384651744505229 tw11356525528222033302 tw8010228253238900849 tw7881876184726511150 tw11140616850938384634 tw3934280870879805027 tw6483165111994123334 tw15821324517421576377 tw1483077411483273792 tw9773890498237732096 tw3002278908618296042 tw11937928546758759919 tw12377281280925166830 tw6655032544161968981 tw1616403610205543911 tw234561571828052891 tw2476253737899307788 tw12007793908018535019 tw8270048448326179433 tw9130939552440907744 tw655095371753079677 tw16269976804135745287 tw3282671117280890010 tw5298488110227790092 tw6109244786503273184 tw15832862494822482025 tw17208245267636889265 tw10898927975786424874 tw3674516210924949568 tw10692694176491064432 tw14871353635894670007 tw436784660086533810 tw15782444040968519516 tw11651353693609541278 tw2584864104693932020 tw3318436762230106891 tw18149984503168613695 tw10209646051797716389 tw12702089544251490749 tw13062600802958696278 tw9727619805931099412 tw10662722204606359247 tw10207081156332531823 tw9052017452710654916 tw12040827715470469655 tw3466398309408223611 tw925391139289762386 tw3957452981089067351 tw10598295017769167326 tw11483301366968777726 tw3921679758878397118 tw17037059196158773413 tw14669514064164812955 tw17273748321964825332 tw2982371343017771118 tw13930256446013707261 tw9746385550965766319 tw13165922411712492572 tw9824116825702526727 tw96554272876264768 tw13774721093149660179 tw2845211459238151927 tw8410403675293586673 tw12273157009298400810 tw5420616296956431046 tw4465656081829345998 tw17585044152709560706 tw15164274522845812432 tw9934037170059779870 tw5176277298191226222 tw7023123929225419938 tw775726939410807362 tw15550348003899132919 tw472065156729285278 tw763722141076878511 tw13915314187215574350 tw14848051960527140108 tw4420212331338724269 tw5421319119281993930 tw2364543000850689448 tw18081576447428325963 tw6119799219492428076 tw15959237016521342384 tw1747770319387746975 tw3366142308913924834 tw5967973255014970880 tw5615868978183391106 tw5329589519805856744 tw10998729590474548563 tw2812133241471994511 tw10783626619000373545 tw12814439290922906184 tw11695267016848052744 tw5423188249703563573 tw17663775610106360188 tw4752498697753287415 tw144437156771558789 tw13012763904958192787 tw4948854009936015245 tw6814085962888809963 tw3183430032921407404 tw1529736923237661201 tw16748704153363378065 tw13305856142411464800 tw4787213170110890727 tw4519852686420682697 tw2103817595176983657 tw5759937928184675843 tw4831550072397214952 tw293315218270223173 tw54524291386489221 tw15443588308883693387 tw4549367227453465017 tw11920203573792162543 tw6930196416540991130 tw17272185765068577073 tw4424662340876815466 tw15567081836435091530 tw4320677608028489399 tw988251904682935476 tw50577399284495432 tw5562541526045611528 tw17960648386372576120 tw11067404678485411866 tw9588911564023370057 tw8452983868398765824 tw6839903632189080547 tw5685340879450359249 tw583063616385251974 tw368815877501547322 tw249243659290588996 tw13885712514362897571 tw2762792019661238645 tw1242403195714154353 tw722907365572390034 tw9913782412850441680 tw15446421667134550715 tw4336108789415282258 tw1415668879301750836 tw9746094179489745369 tw6506802058389857095 tw2345106720796705710 tw4341726683782155343 tw13650409436652880725 tw7928825111828897373 tw3138068694016937887 tw5238290211032204320 tw538992547622668851 tw15168304815227771904 tw13263787049567233151 tw2536953700898783793 tw5446443823455835622 tw13064364441114065769 tw6738870984035513203 tw12454706752690964280 tw1208037658474423045 tw8659819366452489271 tw10764327928572376475 tw8312953731736157765 tw7619591378072817438 tw6231574683758716270 tw8131153703035926620 tw4025211461862689175 tw13586623638201848006 tw9510192730396100787 tw14598417357177236327 tw13839772680946623433 tw11568468472571357024 tw5494706692352051919 tw1211471779645019070 tw13711968023873161068 tw2039003035378688152 tw6248031254913368922 tw17507312874031713557 tw7794081421596789778 tw17771545909890649374 tw2656201575562423559 tw8360234942567371648 tw2875407951886885921 tw12312716980110500536 tw15984598847717609955 tw384773120337980145 tw3361106032164188403 tw9636303674579346984 tw12591530855445865605 tw770662089494124599 tw8913902512385768906 tw691091128526011480 tw2200696212838941228 tw4573750667173803554 tw12811315000892794361 tw3613234156878791184 tw13402693969807400966 tw8369256113451270829 tw3260224856001673018 tw8918949555551402800 tw1156573223422288102 tw9069083025187735933 tw1597897027561413963 tw11523200211262407683 tw13046089606546698988 tw15709347949607253046 tw3935995530170713017 tw5415454985715117039 tw9915157989763539071 tw2498654682572584458 tw9678968227484569627 tw15340117244797367658 tw11456962447129906105 tw894809543749141476 tw5532693410281268129 tw12560031582559230363 tw10274664754222568613 tw11365463233816684074 tw15117796410313401237 tw15943009558819924658 tw5322705724988874437 tw2816034837631858788 tw6404074295297694212 tw10775395888913112032 tw13992730859504902121 tw2453342060855936291 tw10678637616714314803 tw11401407675444435906 tw11057576295992797443 tw15410463244536173795 tw10427389442927244246 tw3803777505358684145 tw7368431110476394277 tw11267302515118441308 tw9607706824617815776 tw9093009339617225438 tw13241780120907531120 tw9700249902199180512 tw2987159571277283316 tw2421482767136596247 tw15710198397519784217 tw17169155137100668245 tw16759932275335384727 tw7348104555277296479 tw16118816057261093129 tw13424420803004239291 tw10817499786121065474 tw11589841880907838034 tw3692503776114665256 tw15349596475114773180 tw13155914958237504459 tw11585762446787525730 tw8265850571526415728 tw1536200143251424629 tw6401471576788114966 tw6988448524123593438 tw2179740454710795523 tw72392530401075296 tw5461577974174344354 tw1823977680641743752 tw11597105142706371969 tw1432688180657824651 tw9144594856043350448 tw7190917274246587202 tw1148654249396696913 tw11233627457104239574 tw13505256698670627057 tw13272410220913688887 tw5484742321414532180 tw4025504364285168504 tw399520638093041802 tw2166652726055178728 tw2200959031318428220 tw173700960637883221 tw934063254214823519 tw5028438073169977333 tw14989025046713732308 tw1525826666931927640 tw12515892888944772666 tw5912272743129296615 tw6095492190532512257 tw9484847836956531603 tw6995846871397443481 tw17976044448888569726 tw5836827385939962528 tw15475948873482798697 tw13066643828309852837 tw8261187010375736742 tw13827894474256455418 tw2870674816223388592 tw12074520882090354286 tw13120340817467306046 tw15119503378954877846 tw11205051623708516911 tw670284522784121269 tw18010262373257799785 tw3670896882796248169 tw9071436574358646349 tw11784595288253166038 tw5281022752335798037 tw15181575748574993520 tw4014288289620361597 tw14553045229218946914 tw8803008123411948949 tw8861871369371373315 tw7597133425758949945 tw1931067866783127486 tw8915136606903085009 tw12820115805989213659 tw11366458172752867243 tw2796788872064310445 tw748426968805914327 tw3298667007554017447 tw2614697516027033544 tw12206993035665342288 tw10904107136008596955 tw12308643053994086209 tw2326662231440781467 tw16669120384696740616 tw7759112228963912356 tw13020160328592544486 tw14422871170071359297 tw14402256683129088273 tw5590911247844763058 tw2676273036681873430 tw13710188130395550709 tw9528171401382202785 tw1881291928684900265 tw1497475799883458788 tw6251101901715426219 tw1678228232494719996 tw7790480863484275075 tw10722991424907411790 tw9682273503672822226 tw15793932511350946376 tw16004590954439471517 tw3706292508828173765 tw5460093712009296043 tw13440603586426198936 tw3085674113888701865 tw11899413047021305350 tw1108501753718257502 tw13486136025455676909 tw16641298248196643906 tw9370599041423219712 tw11035801361382657697 tw4630999746501191527 tw14984840390376937923 tw35314604531172694 tw15182827432317010969 tw9685503498783803572 tw3903929774598718016 tw2136786366023318365 tw2316589614882717418 tw10887999159709090260 tw16109253623853905602 tw3098294402140961652 tw7204185470943720136 tw6006783377317812622 tw2545666415092295717 tw12205488516838502933 tw7481729246582350161 tw9151558256589792822 tw4662874987090327407 tw15328835105630292769 tw17987291767705413053 tw8146496150714887525 tw4966914217955984320 tw10591445524796091484 tw15471661759829114056 tw15568205884958063474 tw87456877641653495 tw8416384449672473511 tw3216670264898892665 tw8789732738950828393 tw1162596775951956492 tw4175666308244638535 tw1088829014982649326 tw5291314137681708405 tw9674117435360976049 tw15551318239923992481 tw16892239717515573254 tw1794931805620920073 tw100049006973665025 tw2126689078076304813 tw3098695440122933748 tw6711287413609703513 tw8214926129556527597 tw17038281625803073323 tw13017938973838183531 tw3432082745696811151 tw17304644241188499308 tw15189779900660204647 tw2400645119986721137 tw17628675221635419927 tw3714480678748328010 tw11682695069974382031 tw4096745165122202375 tw16830310935823154769 tw6763521922427757880 tw4053281487870260794 tw13322559701185386824 tw9202656410237645660 tw5618168157074589559 tw11219853957679465964 tw14496085273657143487 tw9055260969944256665 tw15923914186277088643 tw12830989741712483311 tw11585590688404568807 tw17201664703004841783 tw11212968840248699550 tw9650738665960973296 tw4368254667625929870 tw14909357309507495640 tw1732893420734493172 tw14654359177138080204 tw9547261489776604117 tw10150644246341911406 tw7952882002701104341 tw10640093983350806005 tw18035151414241876970 tw5257177219010979516 tw3430882140639621092 tw10767995627078827449 tw14277953608204025860 tw150127275522230453 tw4843953130825018127 tw10217256774903648189 tw11213371086323837428 tw9990251595717112155 tw14798186086579205308 tw7011952989559179695 tw4511424482018291910 tw2396810909178559828 tw9384677514454347481 tw16023634873578869672 tw3899081190143446233 tw5651119403949349776 tw2353431082086299125 tw3903347763721975589 tw16553402901080717641 tw514424295861744381 tw4399576095385297486 tw7866168439289193958 tw18318454138675531301 tw7532513007848803397 tw8815636784330049984 tw11290227358926641786 tw6080768754536295445:True)
open PySem PySem.W PyProof.Rows Pr
theorem PySem.Challenge.cw_sharedtrees_s01_answers_holds : PySem.Challenge.rw_sharedtrees_s01_answers.Holds := by
 w_on;k_headS;(case hw=>exact⟨[.list [.int 10]],by decide +kernel,by decide +kernel⟩)
 k_fillS
 refine L2.LK (r:=PySem.Challenge.rw_sharedtrees_s01_answers) (k:=200) (CX:=L2.cR) (ps:=["calls"]) (sp:=Po) (by decide +kernel) rfl rfl ⟨rfl,by decide,by decide⟩ (λw h Y=>kIn_of Y) ?F ?S (λ_ _ _ _ z=>z)
 case F=>
  intro w mg fa h Y KX G hmg;obtain⟨fE,sW,Qk,V5,V6,Mf,HP,HQ,HR⟩:=Cl4 KX "Leaf" "key" "value" "least" "shape";obtain⟨fq,sX,Ql,V7,V8,Mg,JW,HS,HU,HV⟩:=Cl5 KX "Fork" "bit" "left" "right" "least" "shape";obtain⟨bW,l7,TN,TQ,TR,HW,HX,Cy⟩:=YN KX "Nodes" "made" "kept" "numbers";obtain⟨fy,Dd,Rv,Rw,Rx,HY,Cz,CA⟩:=YN KX "Change" "key" "before" "behind";obtain⟨dH,xy,Mh,Mi,Mj,DT,CB,AA,zI⟩:=Cl4 KX "Conflict" "key" "base" "first" "second";obtain⟨gB,Al,OT,OU,OV,AB,v_⟩:=YM KX "Merging" "writes" "conflicts";obtain⟨dB,ou,Ry,Rz,RA,tP,DU⟩:=YM KX "Reader" "numbers_read" "place";obtain⟨bV,Am,OW,OX,OY,ET,zJ,DV⟩:=YN KX "Version" "top" "parents" "held";obtain⟨bX,i8,TU,TV,TX,EU,AD⟩:=YM KX "Store" "nodes" "versions";obtain⟨j_,uP⟩:=TM.of sW "__init__" "Leaf.__init__" uz ["self","key","value"];obtain⟨kg,uQ⟩:=TM.of sX "__init__" "Fork.__init__" uA ["self","bit","left","right","least"];obtain⟨jj,r_⟩:=TM.of l7 "__init__" "Nodes.__init__" rG ["self"];obtain⟨aQ,HZ⟩:=TM.of l7 "node" "Nodes.node" rH ["self","number"];obtain⟨bT,zK⟩:=TM.of l7 "keep_leaf" "Nodes.keep_leaf" lQ ["self","key","value"];obtain⟨aY,zL⟩:=TM.of l7 "keep_fork" "Nodes.keep_fork" lR ["self","bit","left","right"];obtain⟨gY,H_⟩:=TM.of l7 "keep" "Nodes.keep" rJ ["self","node"];obtain⟨dX,xM⟩:=TM.of l7 "undo_since" "Nodes.undo_since" ly ["self","made"];obtain⟨eN,zM⟩:=TM.of l7 "keep_only" "Nodes.keep_only" lT ["self","needed"];obtain⟨cI,xN⟩:=TM.of l7 "throw_away" "Nodes.throw_away" lz ["self","number"];obtain⟨iW,RB⟩:=TF.of KX G "bit_of" CU ["key","bit"];obtain⟨bB,vB⟩:=TF.of KX G "highest_unlike_bit" kh ["key","other"];obtain⟨eU,EV⟩:=TF.of KX G "keep_beside" pV ["nodes","key","value","top"];obtain⟨e9,JX⟩:=TF.of KX G "put_value" uB ["nodes","top","key","value"];obtain⟨gh,Ml⟩:=TF.of KX G "take_out" w_ ["nodes","top","key"];obtain⟨iP,Mm⟩:=TF.of KX G "value_at" xg ["nodes","top","key"];obtain⟨cK,Ia⟩:=TF.of KX G "gather_map" rK ["nodes","top","found"];obtain⟨bL,DW⟩:=TF.of KX G "gather_range" oH ["nodes","top","lo","hi","found"];obtain⟨bD,CC⟩:=TF.of KX G "pairs_between" m_ ["nodes","top","lo","hi"];obtain⟨gi,Mn⟩:=TF.of KX G "depth_of" xh ["nodes","top"];obtain⟨bR,CD⟩:=TF.of KX G "gather_needed" ng ["nodes","top","needed"];obtain⟨fz,qe⟩:=TM.of Dd "__init__" "Change.__init__" pW ["self","key","before","behind"];obtain⟨fU,nO⟩:=TM.of xy "__init__" "Conflict.__init__" nh ["self","key","base","first","second"];obtain⟨gC,oZ⟩:=TM.of Al "__init__" "Merging.__init__" oJ ["self"];obtain⟨bE,CF⟩:=TF.of KX G "is_difference" ni ["changes"];obtain⟨fQ,DX⟩:=TF.of KX G "first_misfit" oK ["nodes","top","changes"];obtain⟨jA,JY⟩:=TF.of KX G "writes_of" uD ["changes"];obtain⟨kO,Mp⟩:=TF.of KX G "inverted" xj ["changes"];obtain⟨iX,RC⟩:=TF.of KX G "by_key" CV ["changes"];obtain⟨joined,RD⟩:=TF.of KX G "joined" CW ["first","second"];obtain⟨merged,RE⟩:=TF.of KX G "merged" CY ["first","second"];obtain⟨cg,vC⟩:=TF.of KX G "append_map_changes" ki ["nodes","top","other","changes"];obtain⟨dN,zN⟩:=TF.of KX G "are_forks_alike" lU ["nodes","top","other"];obtain⟨compare,OZ⟩:=TF.of KX G "compare" Ab ["nodes","top","other","changes"];obtain⟨difference,Ib⟩:=TF.of KX G "difference" rM ["nodes","top","other"];obtain⟨iE,qf⟩:=TM.of ou "__init__" "Reader.__init__" pX ["self","numbers"];obtain⟨eO,zO⟩:=TM.of ou "has_more" "Reader.has_more" lV ["self"];obtain⟨bC,vD⟩:=TM.of ou "take_number" "Reader.take_number" kj ["self"];obtain⟨cG,tQ⟩:=TM.of ou "take_numbers" "Reader.take_numbers" jV ["self"];obtain⟨bS,qV⟩:=TM.of ou "take_arguments" "Reader.take_arguments" jc ["self","form"];obtain⟨j8,RG⟩:=TF.of KX G "is_key" CZ ["number"];obtain⟨gj,Mq⟩:=TF.of KX G "is_value" xm ["number"];obtain⟨cV,CG⟩:=TF.of KX G "is_told_value" nq ["present","value"];obtain⟨cZ,xO⟩:=TF.of KX G "are_told_changes" lB ["numbers"];obtain⟨eE,AE⟩:=TF.of KX G "are_told_pairs" mH ["numbers"];obtain⟨gR,EW⟩:=TF.of KX G "is_in_range" pY ["letter","argument"];obtain⟨fR,DY⟩:=TF.of KX G "are_in_range" oM ["form","arguments"];obtain⟨fH,Ic⟩:=TF.of KX G "read_value" rN ["present","value"];obtain⟨bM,DZ⟩:=TF.of KX G "read_changes" oN ["numbers"];obtain⟨fJ,Ie⟩:=TF.of KX G "read_pairs" rO ["numbers"];obtain⟨bH,Ig⟩:=TF.of KX G "tell_value" rP ["value"];obtain⟨cD,D9⟩:=TF.of KX G "tell_changes" oO ["changes"];obtain⟨eF,AF⟩:=TF.of KX G "tell_conflicts" mJ ["conflicts"];obtain⟨iH,Ih⟩:=TF.of KX G "tell_pairs" rQ ["pairs"];obtain⟨dP,D_⟩:=TF.of KX G "tell_pair_at" oQ ["pairs","place"];obtain⟨jB,JZ⟩:=TF.of KX G "tell_node" uF ["node"];obtain⟨iQ,Dt⟩:=TF.of KX G "call_put" xo ["store","arguments"];obtain⟨eV,wU⟩:=TF.of KX G "call_delete" p6 ["store","arguments"];obtain⟨iR,Du⟩:=TF.of KX G "call_get" xq ["store","arguments"];obtain⟨gD,AY⟩:=TF.of KX G "call_list" uG ["store","arguments"];obtain⟨gE,AZ⟩:=TF.of KX G "call_diff" uH ["store","arguments"];obtain⟨fK,zx⟩:=TF.of KX G "call_patch" rT ["store","arguments"];obtain⟨gF,A0⟩:=TF.of KX G "call_join" uI ["store","arguments"];obtain⟨fL,Ii⟩:=TF.of KX G "merge_from" rV ["store","base","first","second"];obtain⟨fM,zy⟩:=TF.of KX G "call_merge" rW ["store","arguments"];obtain⟨cH,qU⟩:=TF.of KX G "call_mergefrom" mK ["store","arguments"];obtain⟨gG,A8⟩:=TF.of KX G "call_same" uJ ["store","arguments"];obtain⟨fN,zA⟩:=TF.of KX G "call_nodes" rX ["store","arguments"];obtain⟨eW,wV⟩:=TF.of KX G "call_shared" p7 ["store","arguments"];obtain⟨gH,A9⟩:=TF.of KX G "call_drop" uK ["store","arguments"];obtain⟨dQ,vt⟩:=TF.of KX G "call_collect" oR ["store","arguments"];obtain⟨gI,A_⟩:=TF.of KX G "call_size" uL ["store","arguments"];obtain⟨gJ,Ba⟩:=TF.of KX G "call_from" uM ["store","arguments"];obtain⟨iS,Dv⟩:=TF.of KX G "call_nth" xr ["store","arguments"];obtain⟨iT,Dy⟩:=TF.of KX G "call_sum" xu ["store","arguments"];obtain⟨dU,vv⟩:=TF.of KX G "call_parents" oS ["store","arguments"];obtain⟨eX,wW⟩:=TF.of KX G "call_common" p8 ["store","arguments"];obtain⟨eY,wX⟩:=TF.of KX G "call_putall" p9 ["store","arguments"];obtain⟨dW,vz⟩:=TF.of KX G "call_inverse" oU ["store","arguments"];obtain⟨gK,Bb⟩:=TF.of KX G "call_look" uN ["store","arguments"];obtain⟨cW,sY⟩:=TF.of KX G "call_versions" nu ["store","arguments"];obtain⟨fS,o6⟩:=TM.of Am "__init__" "Version.__init__" oV ["self","top","parents"];obtain⟨jk,se⟩:=TM.of i8 "__init__" "Store.__init__" rY ["self"];obtain⟨dI,AG⟩:=TM.of i8 "is_there" "Store.is_there" mL ["self","version"];obtain⟨b7,CH⟩:=TM.of i8 "is_held" "Store.is_held" ny ["self","version"];obtain⟨aG,Ea⟩:=TM.of i8 "top_of" "Store.top_of" oW ["self","version"];obtain⟨cJ,xP⟩:=TM.of i8 "parents_of" "Store.parents_of" lC ["self","version"];obtain⟨jl,Ij⟩:=TM.of i8 "drop" "Store.drop" rZ ["self","version"];obtain⟨fV,CI⟩:=TM.of i8 "collect" "Store.collect" nA ["self"];obtain⟨d_,CJ⟩:=TM.of i8 "line_of" "Store.line_of" nB ["self","version"];obtain⟨cS,zP⟩:=TM.of i8 "common_of" "Store.common_of" lY ["self","version","other"];obtain⟨bK,zQ⟩:=TM.of i8 "needed_by" "Store.needed_by" lZ ["self","versions"];obtain⟨bu,tR⟩:=TM.of i8 "held_versions" "Store.held_versions" jW ["self"];obtain⟨aW,vE⟩:=TM.of i8 "make_version" "Store.make_version" ko ["self","top","writes","parents"];obtain⟨fW,CK⟩:=TM.of i8 "written" "Store.written" nE ["self","top","key","value"];obtain⟨cz,vF⟩:=TF.of KX G "are_versions_there" kC ["store","form","arguments"];obtain⟨gS,EX⟩:=TF.of KX G "answer_call" p_ ["store","number","arguments"];obtain⟨answers,O0⟩:=TF.of KX G "answers" Ac ["calls"];obtain⟨xJ,TY,GA⟩:=Vz KX G (m0:=Dt.m) (m1:=wU.m) (m2:=Du.m) (m3:=AY.m) (m4:=AZ.m) (m5:=zx.m) (m6:=A0.m) (m7:=zy.m) (m8:=qU.m) (m9:=A8.m) (m10:=zA.m) (m11:=wV.m) (m12:=A9.m) (m13:=vt.m) (m14:=A_.m) (m15:=Ba.m) (m16:=Dv.m) (m17:=Dy.m) (m18:=vv.m) (m19:=wW.m) (m20:=wX.m) (m21:=vz.m) (m22:=Bb.m) (m23:=sY.m);obtain⟨ud,TZ,BB⟩:=VA KX G;exact V4 (a:=⟨fE,fq,bW,fy,dH,gB,dB,bV,bX,xJ,ud,j_,kg,jj,aQ,bT,aY,gY,dX,eN,cI,iW,bB,eU,e9,gh,iP,cK,bL,bD,gi,bR,fz,fU,gC,bE,fQ,jA,kO,iX,joined,merged,cg,dN,compare,difference,iE,eO,bC,cG,bS,j8,gj,cV,cZ,eE,gR,fR,fH,bM,fJ,bH,cD,eF,iH,dP,jB,iQ,eV,iR,gD,gE,fK,gF,fL,fM,cH,gG,fN,eW,gH,dQ,gI,gJ,iS,iT,dU,eX,eY,dW,gK,cW,fS,jk,dI,b7,aG,cJ,jl,fV,d_,cS,bK,bu,aW,fW,cz,gS,answers⟩)
   ⟨Qk,
   mg_of KX G sW,
   ⟨V5,uP.m.at_,uP.m.fn,V6⟩,
   Mf,
   HP,
   HQ,
   HR,
   Ql,
   mg_of KX G sX,
   ⟨V7,uQ.m.at_,uQ.m.fn,V8⟩,
   Mg,
   JW,
   HS,
   HU,
   HV,
   TN,
   mg_of KX G l7,
   ⟨TQ,r_.m.at_,r_.m.fn,TR⟩,
   HW,
   HX,
   Cy,
   Rv,
   mg_of KX G Dd,
   ⟨Rw,qe.m.at_,qe.m.fn,Rx⟩,
   HY,
   Cz,
   CA,
   Mh,
   mg_of KX G xy,
   ⟨Mi,nO.m.at_,nO.m.fn,Mj⟩,
   DT,
   CB,
   AA,
   zI,
   OT,
   mg_of KX G Al,
   ⟨OU,oZ.m.at_,oZ.m.fn,OV⟩,
   AB,
   v_,
   Ry,
   mg_of KX G ou,
   ⟨Rz,qf.m.at_,qf.m.fn,RA⟩,
   tP,
   DU,
   OW,
   mg_of KX G Am,
   ⟨OX,o6.m.at_,o6.m.fn,OY⟩,
   ET,
   zJ,
   DV,
   TU,
   mg_of KX G i8,
   ⟨TV,se.m.at_,se.m.fn,TX⟩,
   EU,
   AD,
   uP,
   uQ,
   r_,
   HZ,
   zK,
   zL,
   H_,
   xM,
   zM,
   xN,
   RB,
   vB,
   EV,
   JX,
   Ml,
   Mm,
   Ia,
   DW,
   CC,
   Mn,
   CD,
   qe,
   nO,
   oZ,
   CF,
   DX,
   JY,
   Mp,
   RC,
   RD,
   RE,
   vC,
   zN,
   OZ,
   Ib,
   qf,
   zO,
   vD,
   tQ,
   qV,
   RG,
   Mq,
   CG,
   xO,
   AE,
   EW,
   DY,
   Ic,
   DZ,
   Ie,
   Ig,
   D9,
   AF,
   Ih,
   D_,
   JZ,
   Dt,
   wU,
   Du,
   AY,
   AZ,
   zx,
   A0,
   Ii,
   zy,
   qU,
   A8,
   zA,
   wV,
   A9,
   vt,
   A_,
   Ba,
   Dv,
   Dy,
   vv,
   wW,
   wX,
   vz,
   Bb,
   sY,
   o6,
   se,
   AG,
   CH,
   Ea,
   xP,
   Ij,
   CI,
   CJ,
   zP,
   zQ,
   tR,
   vE,
   CK,
   vF,
   EX,
   O0,
   n_ KX G,
   n_ KX G,
   n_ KX G,
   n_ KX G,
   n_ KX G,
   n_ KX G,
   n_ KX G,
   n_ KX G,
   n_ KX G,
   n_ KX G,
   n_ KX G,
   n_ KX G,
   n_ KX G,
   n_ KX G,
   n_ KX G,
   n_ KX G,
   n_ KX G,
   n_ KX G,
   n_ KX G,
   n_ KX G,
   mg_none_of KX G (by k_is),
   mg_none_of KX G (by k_is),
   mg_none_of KX G (by k_is),
   mg_none_of KX G (by k_is),
   mg_none_of KX G (by k_is),
   mg_none_of KX G (by k_is),
   mg_none_of KX G (by k_is),
   mg_none_of KX G (by k_is),
   mg_none_of KX G (by k_is),
   mg_none_of KX G (by k_is),
   mg_none_of KX G (by k_is),
   TY,
   TZ,
   GA,
   BB,
   CTy sW Qk,
   CTy sX Ql,
   WK sW sW,
   WK sW sX,
   WK sX sW,
   WK sX sX,
   CNo sW sX l7 Dd xy Al ou Am i8⟩ hmg
 case S=>
  intro K H xs a hO hwi UQ hx;cases hx with
  |cons h1 h2=>
   cases h2;cases h1 with
   |lst hs ha=>
    have e:=L2.M3 a.1 _ ha;subst e;exact⟨_,a.1,rfl,hs,UQ,λH' p hp=>.lst (L2.aX.of hp) (L2.M0 _)⟩
